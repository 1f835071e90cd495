import PyProof.Rows.All
import Wide.All
import OpenK.AllK
import Wide.FinOn
import Lean
import PyProof.EqAt
import PyProof.EqKinds
import PyProof.TupleCall
import PySem.Challenge.RW_outlast_k13_passed_over
set_option Elab.async false
set_option linter.all false
set_option compiler.extract_closed false
set_option bootstrap.genMatcherCode false
set_option genSizeOf false
set_option maxRecDepth 100000
local macro_rules | `(tactic| omega) => `(tactic| first | assumption | lia | omega +splitDisjunctions)
noncomputable section
local macro_rules
|`(mutual example:=[$ts,*] $cs:command* end)=>do
 let f(D:Array Lean.Syntax)(s:Lean.Syntax):=s.rewriteBottomUp fun s=>if s.isOfKind `scientific then (match s[0].getAtomVal.splitOn "e" with|[a,b]=>D[10*b.toNat!+a.toNat!]!|_=>s) else s.setInfo .none
 let D:=ts.getElems.foldl (fun D t=>D.push (f D t)) #[]
 return Lean.mkNullNode (cs.map fun c=>let s:=f D c;if s.isOfKind `Lean.Parser.Command.declaration&&(s[1].isOfKind `Lean.Parser.Command.definition||s[1].isOfKind `Lean.Parser.Command.abbrev) then s.setArg 0 (s[0].setArg 4 (Lean.mkNullNode #[Lean.mkNode `Lean.Parser.Command.noncomputable #[Lean.mkAtom "noncomputable"]])) else s)
namespace PySem.W.Fast
mutual
example:=[]
def tw6105069360009133848:=Nat
def tw1558761318282528534:=Nat
def tw12357633583758199550:=Nat
def tw6657414830754384445:=Nat
def tw12487464026677196823:=Nat
def tw16713577171427026811:=Nat
def tw16934049118295962013:=Nat
def tw8530984926118281136:=Nat
def tw5144708691264012994:=Nat
def tw5239054545833233:=Nat
def tw5373632457177139095:=Nat
def tw2249383897383302272:=Nat
def tw10545444452204355800:=Nat
def tw4402832452472015665:=Nat
def tw3267833015202069491:=Nat
def tw14938343441095006659:=Nat
def tw6092064817356590431:=Nat
def tw12713378409623286854:=Nat
def tw4050007697900634067:=Nat
def tw1142668917627643370:=Nat
def tw6001878250463131745:=Nat
def tw11326253136278728006:=Nat
def tw18321392977794517855:=Nat
def tw503328097679891347:=Nat
def tw6781220470230782638:=Nat
def tw364950564590616964:=Nat
def tw4700953365605004603:=Nat
def tw15202071724837047426:=Nat
def tw9290473549795361479:=Nat
def tw6904162751293714770:=Nat
def tw12169308270893333642:=Nat
def tw15513746652086549816:=Nat
def tw9642689723705624718:=Nat
def tw15257048313611182280:=Nat
def tw15728481050939131013:=Nat
def tw7862151561891023479:=Nat
def tw1737941145163898126:=Nat
def tw2690009403338730210:=Nat
def tw11552414877822476617:=Nat
def tw17386738275777931646:=Nat
def tw9121788413520072508:=Nat
def tw5218749950531736233:=Nat
def tw11177454039989430487:=Nat
def tw17735779444406391970:=Nat
def tw16542463488916357422:=Nat
def tw6855269807332097150:=Nat
def tw4743486700886830721:=Nat
def tw15503902065726666731:=Nat
def tw15644881810615862262:=Nat
def tw15688006845725128359:=Nat
def tw17502555185412224532:=Nat
def tw7370874547138034266:=Nat
def tw13193002459623506702:=Nat
def tw10114011739844258683:=Nat
def tw6034000899268848735:=Nat
def tw11302083493086691053:=Nat
def tw15242284286479719029:=Nat
def tw10084486567143596842:=Nat
def tw10389957854340248696:=Nat
def tw11461360110599645318:=Nat
def tw1673714706967256003:=Nat
def tw14373836168972920044:=Nat
def tw13563832351076509198:=Nat
def tw16633860602916042:=Nat
def tw15742532192571445290:=Nat
def tw13418699195063428328:=Nat
def tw10211275939057791645:=Nat
def tw8643507085334834151:=Nat
def tw3157037191378479545:=Nat
def tw7435608083295904625:=Nat
def tw16242554382279277433:=Nat
def tw3314526817343065149:=Nat
def tw12571212225816174186:=Nat
def tw12672751874794234531:=Nat
def tw4774856535615414727:=Nat
def tw5247967120696434159:=Nat
def tw16473975012374659212:=Nat
def tw16074625463638264405:=Nat
def tw15392793562142010441:=Nat
def tw10197269813616867863:=Nat
def tw11028498580145544491:=Nat
def tw2361739301449286804:=Nat
def tw181817926989130608:=Nat
def tw14682421256762191213:=Nat
def tw8652980930179874912:=Nat
def tw2905610221922151515:=Nat
def tw16145859165155699771:=Nat
def tw3440669847632299831:=Nat
def tw12955436999401109288:=Nat
def tw16499169502017189800:=Nat
def tw11640083162053592012:=Nat
def tw2904234849450725568:=Nat
def tw9731407584223780448:=Nat
def tw13817325195919147310:=Nat
def tw13465597800580696706:=Nat
def tw5433880534977053184:=Nat
def tw17095504181740187444:=Nat
def tw8420673160781319646:=Nat
def tw3111601622250809000:=Nat
def tw16522158989126150341:=Nat
def tw11239849244234071111:=Nat
def tw14479577802673303042:=Nat
def tw11229942181848560580:=Nat
def tw15906326645053953417:=Nat
def tw12661271705099514816:=Nat
def tw3177913083691278565:=Nat
def tw14979494123437618418:=Nat
def tw1636877629426765834:=Nat
def tw6454649358558657245:=Nat
def tw2773914345720620584:=Nat
def tw6276670844311387832:=Nat
def tw5595542120340016931:=Nat
def tw12685817304150055329:=Nat
def tw16459344145158987417:=Nat
def tw876557948874259442:=Nat
def tw3248236030346305758:=Nat
def tw16562864882830706430:=Nat
def tw16975092098825732923:=Nat
def tw12349773096442673414:=Nat
def tw9343253955439117312:=Nat
def tw10227596063711882779:=Nat
def tw9188600225998687635:=Nat
def tw9262581583086330319:=Nat
def tw11038017809103523253:=Nat
def tw14922181186171753636:=Nat
def tw2418296536096839951:=Nat
def tw12037577468518055151:=Nat
def tw6800091197468204219:=Nat
def tw14199320722945498397:=Nat
def tw12054027621738581585:=Nat
def tw5442668781404445470:=Nat
def tw15039391074262198164:=Nat
def tw11259572424119250987:=Nat
def tw11072485247871642335:=Nat
def tw13634785268584033696:=Nat
def tw10207818815987591175:=Nat
def tw16139229467592521154:=Nat
def tw2299401142794339464:=Nat
def tw2956640320325717914:=Nat
def tw17674290861008628872:=Nat
def tw10514538197257851819:=Nat
def tw18389979369406669990:=Nat
def tw13237439455228790638:=Nat
def tw5711049147507782535:=Nat
def tw3523560829341660018:=Nat
def tw2619190934507812486:=Nat
def tw16397544072823348669:=Nat
def tw6214534258804005036:=Nat
def tw10385229817116452646:=Nat
def tw16691065804570379274:=Nat
def tw15222576371315622065:=Nat
def tw8563532850525521974:=Nat
def tw8174243510065251472:=Nat
def tw3209300737371709155:=Nat
def tw2152082883295524419:=Nat
def tw3144478770084599544:=Nat
def tw6967742207315052560:=Nat
def tw7670458566875843181:=Nat
def tw4742201428946108465:=Nat
def tw1107176198486594331:=Nat
def tw9312150777646808408:=Nat
def tw17413212078110154863:=Nat
def tw808462130697829102:=Nat
def tw5163313140547279215:=Nat
def tw6706740797752552924:=Nat
def tw1435750088402079420:=Nat
def tw274200478781143315:=Nat
def tw4432773598839285831:=Nat
def tw2483344206783367458:=Nat
def tw9660205861355533942:=Nat
def tw4964601935707634702:=Nat
def tw13971285206466891772:=Nat
def tw3704081703266752756:=Nat
def tw10014802616185095754:=Nat
def tw13976623502107082497:=Nat
def tw18082773622310666928:=Nat
def tw12720364906726748976:=Nat
def tw15300716005077946385:=Nat
def tw7858726030047793934:=Nat
def tw13918180421145323537:=Nat
def tw8313984921989633346:=Nat
def tw5295686139787093776:=Nat
def tw15499190057271658267:=Nat
def tw7612082524670026029:=Nat
def tw13003702749324091071:=Nat
def tw14353061368146431106:=Nat
def tw4264284065325042133:=Nat
def tw13108608196753749952:=Nat
def tw17220435539481369396:=Nat
def tw1835330785143111820:=Nat
def tw159748277721069811:=Nat
def tw12046560069675526647:=Nat
def tw4002900721638704295:=Nat
def tw5999711177879778363:=Nat
def tw5237198330066671819:=Nat
def tw13861808055955113890:=Nat
def tw10081313571862741651:=Nat
def tw2522110281063270751:=Nat
def tw4424301527235718273:=Nat
def tw179326239076031870:=Nat
def tw44414358924618243:=Nat
def tw1251942207804229128:=Nat
def tw18312083216525312980:=Nat
def tw11301387332069326410:=Nat
def tw1755736194307345225:=Nat
def tw9760877619656439996:=Nat
def tw1264801723067817412:=Nat
def tw5512698899297361299:=Nat
def tw15988271687926664501:=Nat
def tw14845375653235807963:=Nat
def tw12916043278491469665:=Nat
def tw7200667295568883307:=Nat
def tw7110826826521673807:=Nat
def tw1228163614535767708:=Nat
def tw14714599555858702833:=Nat
def tw356216202269065350:=Nat
def tw13853495413078589095:=Nat
def tw1847980051906020865:=Nat
def tw9813703762276070497:=Nat
def tw2021314498580440904:=Nat
def tw8535125862749276521:=Nat
def tw4260150363927015129:=Nat
def tw15222726339402503926:=Nat
def tw17265667841343092799:=Nat
def tw16915632916808899448:=Nat
def tw12150296568307236761:=Nat
def tw7488373951235021956:=Nat
def tw18020789648141315939:=Nat
def tw2516048746395159684:=Nat
def tw16485010401407197080:=Nat
def tw13746219170503683823:=Nat
def tw16691839790534715777:=Nat
def tw9009038572034604016:=Nat
def tw6402909690824308748:=Nat
def tw3874681783279914866:=Nat
def tw11117333034172294427:=Nat
def tw12958071741456185216:=Nat
def tw17555552756182358787:=Nat
def tw1452577537970397771:=Nat
def tw2338505907493281589:=Nat
def tw14048540782773589333:=Nat
def tw12346685383999692681:=Nat
def tw11895544603560556631:=Nat
def tw5242614250051950525:=Nat
def tw2760401442578575220:=Nat
def tw9770371962655275709:=Nat
def tw6620463671598082131:=Nat
def tw11473454073958959219:=Nat
def tw17498327726388043831:=Nat
def tw15866845899673744780:=Nat
def tw5588531668102624417:=Nat
def tw6415268462829380637:=Nat
def tw4473273752116736581:=Nat
def tw17585259195529016679:=Nat
def tw13786639648931775713:=Nat
def tw10305988305963018612:=Nat
def tw5854164583370743224:=Nat
def tw16993968909099036573:=Nat
def tw17086073774896415918:=Nat
def tw1086576296923378826:=Nat
def tw10028591328291918620:=Nat
def tw2883290394373743415:=Nat
def tw1791763252954855179:=Nat
def tw13542155338762198360:=Nat
def tw2500531828684399043:=Nat
def tw12810325336191290771:=Nat
def tw17138768505484883018:=Nat
def tw9212670014702621399:=Nat
def tw6106555776486171516:=Nat
def tw4495247373435502337:=Nat
def tw15187667521977200997:=Nat
def tw8819636429106681504:=Nat
def tw16418098171943825776:=Nat
def tw12601246113031012480:=Nat
def tw6532532211301654270:=Nat
def tw13562562935857742326:=Nat
def tw10563667407065891065:=Nat
def tw7611000780989264786:=Nat
def tw3421432727204783326:=Nat
def tw15874145264216420840:=Nat
def tw10339368607412062676:=Nat
def tw9560858917046597855:=Nat
def tw17558730457179691239:=Nat
def tw14615353772353437619:=Nat
def tw12137464827492972599:=Nat
def tw9925932121953564277:=Nat
def tw8019901157500756644:=Nat
def tw12573177550168852189:=Nat
def tw3124983417786542240:=Nat
def tw3844569613948801095:=Nat
def tw7977311726270723044:=Nat
def tw6681576303152726741:=Nat
def tw5299171549272513540:=Nat
def tw5136166395000233004:=Nat
def tw15895371170537127177:=Nat
def tw13152498944582821452:=Nat
def tw13021155633440833084:=Nat
def tw11843672041288881593:=Nat
def tw76027476749744175:=Nat
def tw4206716010011341910:=Nat
def tw3003959897804543397:=Nat
def tw16566381949044248665:=Nat
def tw1265576889206658200:=Nat
def tw4325062617670709917:=Nat
def tw13787591651335552173:=Nat
def tw13245190580377104167:=Nat
def tw5245105063363909127:=Nat
def tw16101595025614829910:=Nat
def tw4933187135082600654:=Nat
def tw17922956104106012329:=Nat
def tw10071701291050662010:=Nat
def tw10818082774699185803:=Nat
def tw11498257633122226097:=Nat
def tw10818645574861820858:=Nat
def tw10463962557777668224:=Nat
def tw2906143653324097611:=Nat
def tw334990123552520122:=Nat
def tw7022694973026202383:=Nat
def tw8185149299786903601:=Nat
def tw14617142752800735531:=Nat
def tw7530453546858669455:=Nat
def tw6009339217126824072:=Nat
def tw4548038262224425474:=Nat
def tw6359934569039604631:=Nat
def tw17577710678909560065:=Nat
def tw7674587012372589871:=Nat
def tw3613691526010523107:=Nat
def tw1908979518838365999:=Nat
def tw15722680985669576047:=Nat
def tw15161319086754059616:=Nat
def tw4909178484491822390:=Nat
def tw17482389001323242713:=Nat
def tw17228917641866910200:=Nat
def tw12896920816373455284:=Nat
def tw9514286161669924476:=Nat
def tw6807828504213417332:=Nat
def tw7622410270807494396:=Nat
def tw3748492555135777133:=Nat
def tw17932937829203989337:=Nat
def tw15768801641663997211:=Nat
def tw10854393936842824896:=Nat
def tw8384540751940549124:=Nat
def tw7563834361054754389:=Nat
def tw7222325352291077445:=Nat
def tw4950637756385410838:=Nat
def tw4951346532992487085:=Nat
def tw12774548483645230025:=Nat
def tw900513934429147398:=Nat
def tw6725388934433274344:=Nat
def tw6857530658795481715:=Nat
def tw17312230440719399233:=Nat
def tw13898119550198566807:=Nat
def tw1112381689313889118:=Nat
def tw8782038065031535160:=Nat
def tw18092579500967320243:=Nat
def tw1764100522840587119:=Nat
def tw17502048851586578445:=Nat
def tw6313610483247598487:=Nat
def tw13851570414421413740:=Nat
def tw13619690314257256951:=Nat
def tw10874313121276046608:=Nat
def tw7910411896822082668:=Nat
def tw2410043638229685745:=Nat
def tw2161018969134578576:=Nat
def tw8771413966724386401:=Nat
def tw15997411715151671677:=Nat
def tw9367508552137158188:=Nat
def tw12448642996475110919:=Nat
def tw11311207395226159469:=Nat
def tw3384804262855344357:=Nat
def tw8666762589399942108:=Nat
def tw315453905944713734:=Nat
def tw15711551224101603974:=Nat
def tw8669321037314245770:=Nat
def tw143805520961370082:=Nat
def tw11374237017117590346:=Nat
def tw10856176025379904994:=Nat
def tw10368324041887047300:=Nat
def tw8616870007187266103:=Nat
def tw13031148124756174776:=Nat
def tw16109218320198002775:=Nat
def tw1607291750571099241:=Nat
def tw12631225792607123264:=Nat
def tw12458705763777094238:=Nat
def tw8824495767601803096:=Nat
def tw8318420498560025991:=Nat
def tw7961806948443586071:=Nat
def tw7375439580504538784:=Nat
def tw6368633685862863439:=Nat
def tw6331496084990458905:=Nat
def tw4347121877953349070:=Nat
def tw272792861794263916:=Nat
def tw2324404167212811253:=Nat
def tw2071786005325110962:=Nat
def tw14863783767956663259:=Nat
def tw14161348485118881782:=Nat
def tw13362118457782278468:=Nat
def tw10603550660313343222:=Nat
def tw7476403331396313847:=Nat
def tw7328684764772294108:=Nat
def tw10768682099137366028:=Nat
def tw3189681011138962165:=Nat
def tw4678304926746343894:=Nat
def tw16738016545382872854:=Nat
def tw15449625210759522181:=Nat
def tw1477341770524307517:=Nat
def tw12015483558946465083:=Nat
def tw11988551637671574611:=Nat
def tw10885973289434598178:=Nat
def tw6804552809682888713:=Nat
def tw4035017071062851645:=Nat
def tw16159963538199340817:=Nat
def tw9950584716815163489:=Nat
def tw9947605786623833309:=Nat
def tw9902195631673692652:=Nat
def tw9840380021370838981:=Nat
def tw9628689144420155041:=Nat
def tw959287430310302347:=Nat
def tw9578353407585415578:=Nat
def tw9241722598132483655:=Nat
def tw9191567651179036077:=Nat
def tw9186047663077321779:=Nat
def tw9076752207716888488:=Nat
def tw907533179703313408:=Nat
def tw9002833526968249869:=Nat
def tw8922135783756197577:=Nat
def tw8858568408686406162:=Nat
def tw8742507904974834905:=Nat
def tw8656265200617031059:=Nat
def tw8245478994964001598:=Nat
def tw820349489823556227:=Nat
def tw7933272934270074569:=Nat
def tw7702140772575759424:=Nat
def tw7540094729731919132:=Nat
def tw6938573606968898807:=Nat
def tw6870246552678677202:=Nat
def tw6827170920456182585:=Nat
def tw6782261507824427972:=Nat
def tw6752185914188047543:=Nat
def tw6559193425394615263:=Nat
def tw6460432956052760742:=Nat
def tw6411055759017687313:=Nat
def tw6390654188381272346:=Nat
def tw6152829085329908279:=Nat
def tw6054112323335346822:=Nat
def tw603277423317929381:=Nat
def tw593642475221545790:=Nat
def tw5859630010908921353:=Nat
def tw5848997292447556373:=Nat
def tw582732879790878275:=Nat
def tw5650416916345724065:=Nat
def tw5633664325169064575:=Nat
def tw5297262139040989651:=Nat
def tw5294127928205482559:=Nat
def tw5262818198545232049:=Nat
def tw5231002158452512194:=Nat
def tw5211790247170479302:=Nat
def tw5072515076774907389:=Nat
def tw5057886479988965121:=Nat
def tw5021949757346823785:=Nat
def tw4985508831633905061:=Nat
def tw4942045224694794203:=Nat
def tw4921071166956916426:=Nat
def tw4792766443777758351:=Nat
def tw4653190751319952115:=Nat
def tw4577979833440595570:=Nat
def tw4531743126675213309:=Nat
def tw4373957396831559339:=Nat
def tw431094516966034435:=Nat
def tw4272402956260687118:=Nat
def tw4177911539876769775:=Nat
def tw4140752232463776261:=Nat
def tw4127633664271387822:=Nat
def tw4081226250062034749:=Nat
def tw4006832647023625594:=Nat
def tw3850840480408909764:=Nat
def tw3795145234665577050:=Nat
def tw3730021211809391760:=Nat
def tw3709855811332815599:=Nat
def tw3661834085643740513:=Nat
def tw3589944230438494249:=Nat
def tw3587170568630810197:=Nat
def tw35772920018546411:=Nat
def tw3467308640152047743:=Nat
def tw3413013150819653289:=Nat
def tw3386272483593836800:=Nat
def tw3373265937688620632:=Nat
def tw3364916817695335833:=Nat
def tw3360856983615006062:=Nat
def tw3279481464914450567:=Nat
def tw3067340848653043640:=Nat
def tw289652456672476307:=Nat
def tw279271241201964653:=Nat
def tw2768618302019526475:=Nat
def tw274936828702539833:=Nat
def tw2705590474724829674:=Nat
def tw2689805649893649580:=Nat
def tw2519952525611087802:=Nat
def tw2490255504626362623:=Nat
def tw2342306989488885261:=Nat
def tw2197949736764510763:=Nat
def tw2184019199261615158:=Nat
def tw2136394522732282066:=Nat
def tw209505914756604593:=Nat
def tw205752866304589613:=Nat
def tw200827409649393925:=Nat
def tw1837289762448134159:=Nat
def tw18358693214971968450:=Nat
def tw17997561867648856893:=Nat
def tw17940353522607456261:=Nat
def tw17891299622040420287:=Nat
def tw17729023778839382477:=Nat
def tw17457540978895686508:=Nat
def tw1719826157815764177:=Nat
def tw17156150093108937592:=Nat
def tw17120474695968369621:=Nat
def tw17016683168878176238:=Nat
def tw16812128431487583626:=Nat
def tw168003752399611344:=Nat
def tw16713288560422636520:=Nat
def tw16632913105490911319:=Nat
def tw16432354796762924869:=Nat
def tw16421745522687644217:=Nat
def tw16327996184460078739:=Nat
def tw16233913636296082282:=Nat
def tw161201863776206502:=Nat
def tw16075203172503916091:=Nat
def tw16040171054203734777:=Nat
def tw15913364353847307108:=Nat
def tw15902883580301414176:=Nat
def tw1586548095560891333:=Nat
def tw15811726143322877459:=Nat
def tw15711312826648575054:=Nat
def tw15508134640533151710:=Nat
def tw15412898095973199849:=Nat
def tw15259909781463044299:=Nat
def tw15241009394687952133:=Nat
def tw15233814633571832632:=Nat
def tw14495252878546772583:=Nat
def tw144895275886255620:=Nat
def tw1441181184050917280:=Nat
def tw14294374786992049120:=Nat
def tw14177511998255461807:=Nat
def tw14121108697171380373:=Nat
def tw14119551030701843917:=Nat
def tw14038924848587814960:=Nat
def tw13886947282411886261:=Nat
def tw1379869005255473983:=Nat
def tw13765636024034220550:=Nat
def tw13699774125378682680:=Nat
def tw13465804236298612148:=Nat
def tw13448345984234518476:=Nat
def tw13229758623018697284:=Nat
def tw13224565645480411101:=Nat
def tw13178547174559642857:=Nat
def tw13115050739507621382:=Nat
def tw12978191080277764975:=Nat
def tw12755469458280885369:=Nat
def tw12751013882316093774:=Nat
def tw12685465345257253080:=Nat
def tw12670981333406581002:=Nat
def tw12653609799982714169:=Nat
def tw12610487315665567607:=Nat
def tw12450256468021016928:=Nat
def tw12258643723380632320:=Nat
def tw12192526201012608597:=Nat
def tw12186703007385065469:=Nat
def tw12010363288678430788:=Nat
def tw11873958255145612967:=Nat
def tw11816478856846228676:=Nat
def tw11641986082665088849:=Nat
def tw11595693171779090303:=Nat
def tw11457218710527881590:=Nat
def tw11197857154875949387:=Nat
def tw11097453588571963637:=Nat
def tw10949575556087851232:=Nat
def tw10858020190292995452:=Nat
def tw10680535527504903933:=Nat
def tw10583710863689688479:=Nat
def tw10530880151378512764:=Nat
def tw10237607721939742852:=Nat
def tw10222589971503568070:=Nat
def tw10211299370058862749:=Nat
def tw10160734793040399856:=Nat
def tw1006793059809212244:=Nat
end
end PySem.W.Fast
mutual
example:=[]
abbrev q0A:=PySem.Value->PySem.Shared->Prop
abbrev q0B:=PySem.W.Frag
abbrev q0C:=PySem.Str->Option PySem.Value
def Α:=@List.mem_cons
def Β:=@PySem.wpAny_bind
def Γ:=@List.length_map
def Δ:=@List.not_mem_nil
def Ε:=@PySem.Heap.get?_push_of_some
def Ζ:=@List.size_toArray
def Η:=@List.length_cons
def Θ:=@PySem.wpAny_pure
def Ι:=@Nat.le_refl
def Κ:=@List.mem_append
def Λ:=@PySem.Heap.lt_size
def Μ:=@List.length_append
def Ν:=@List.getElem?_eq_some_iff
def Ξ:=@List.getElem?_cons_zero
def Ο:=@Nat.ne_of_lt
def Ρ:=@Option.some.injEq
def Τ:=@PySem.Heap.get?_push_size
def Υ:=@or_false
def Φ:=@Nat.lt_of_lt_of_le
def Χ:=@Bool.false_ne_true
def Ψ:=@List.cons_append
def Ω:=@Nat.le_trans
def ϐ:=@List.mem_append_right
def ϑ:=@List.getElem?_eq_getElem
def ϒ:=@List.mem_of_getElem?
def ϓ:=@List.mem_cons_of_mem
def ϔ:=@List.map_cons
def ϕ:=@List.getElem?_map
def ϖ:=@List.length_nil
def ϗ:=@Option.some.inj
def Ϙ:=@List.nodup_cons
def ϙ:=@Bool.false_eq_true
def Ϛ:=@Nat.lt_irrefl
def ϛ:=@List.nodup_append
def Ϝ:=@Option.map_eq_some_iff
def ϝ:=@List.append_nil
def Α0:=@List.take_length
def Α1:=@List.nil_append
def Α2:=@List.map_append
def Α3:=@Option.toList_some
def Α4:=@Nat.zero_le
def Α5:=@List.mem_filter
def Α6:=@PySem.Calls.callWith_builtin
def Α7:=@List.length_take
def Α8:=@PySem.wpAny_mono
def Α9:=@List.mem_map
def Β0:=@PySem.wpAny_holding
def Β1:=@List.forall_mem_cons
def Β2:=@beq_eq_false_iff_ne
def Β3:=@List.take_add_one
def Β4:=@if_false
def Β5:=@PySem.wpAny_newObj_type
def Β6:=@Option.join_some
def Β7:=@decide_eq_false
def Β8:=@PySem.F.called_set
def Β9:=@List.pairwise_cons
def Γ0:=@PySem.PassesOwn.never
def Γ1:=@if_true
def Γ2:=@PySem.F.plainAttrs_dict
def Γ3:=@Array.length_toList
def Γ4:=@Nat.zero_add
def Γ5:=@PySem.wpAny_setState_of
def Γ6:=@Bool.and_eq_true
def Γ7:=@PySem.F.slot_dict_get
def Γ8:=@List.length_filter_le
def Γ9:=@Array.getElem?_toList
def Δ0:=@PySem.call_meetsIn
def Δ1:=@Array.getElem?_eq_getElem
def Δ2:=@List.find?_cons
def Δ3:=@PySem.Calls.spliced_cons
def Δ4:=@Nat.le_succ
def Δ5:=@Option.isSome_iff_exists
def Δ6:=@PySem.mem_of_lookup
def Δ7:=@PySem.Calls.evalArgs_plain
def Δ8:=@PySem.Around.under_plainId
def Δ9:=@PySem.wpAny_truthy_bool
def Ε0:=@Option.getD_some
def Ε1:=@PySem.sizeLine_eq
def Ε2:=@Int.zero_add
def Ε3:=@Bool.eq_iff_iff
def Ε4:=@List.getD_eq_getElem?_getD
def Ε5:=@PySem.wpAny_passesOwn
def Ε6:=@PySem.codeAny_builtin
def Ε7:=@List.pairwise_iff_getElem
def Ε8:=@List.getElem?_eq_none_iff
def Ε9:=@List.getElem?_append_left
def Ζ0:=@PyProof.Rows.F.plain_set_update_loop
def Ζ1:=@List.take_succ_cons
end
namespace L2
open PySem PySem.Spec PyProof.Rows
variable{C a b:Addr}{A:Around}{g':Array GenState}{op:CmpOp}{c e tg:Expr}{fd:FuncData}{base h:Heap}{Xs:List (Addr×Obj)}{kw:List (Str×Value)}{ch fp:List Addr}{outer:List Env}{es:List Expr}{body:List Stmt}{ps:List Str}{us:List Value}{M:Model}{i k n t':Nat}{o:Obj}{pos:Pos}{P:Program}{scope:Scope}{pl:Sem Bool}{s s':Shared}{x:Str}{Q:Unit->Shared->Prop}{u:Value}{f:Value->Value->Sem Value}{w:World}{E:q0A}{K:q0B}{mg:q0C}
mutual
example:=[]
inductive Key where
 | inl (i:Int)|inr (x:Str)|no
 deriving DecidableEq
def Bb:Key->Value->Bool
 | .inl k,v=>Value.isInt k v
 | .inr x,v=>Value.isStrOf x v
 | .no,.none=>true
 | .no,_=>false
def WN(w:World):Key->Int
 | .inl k=>hashInt k
 | .inr x=>hashStr w x
 | .no=>reduceHash 0xFCA86420
theorem eQ:∀ {k:Key} {v:Value},Bb k v=true->(∃ i t,k=Key.inl i/\v=Value.int i t)\/(∃ x t,k=Key.inr x/\v=Value.str x t)\/(k=Key.no/\v=Value.none)
 | .inl i,v,h=>by
  obtain⟨t,e⟩:=Value.isInt_shape (k:=i) (v:=v) h;exact .inl ⟨i,t,rfl,e⟩
 | .inr x,v,h=>by
  obtain⟨t,e⟩:=Value.isStrOf_shape (x:=x) (v:=v) h;exact .inr (.inl ⟨x,t,rfl,e⟩)
 | .no,v,h=>by
  cases v<;>first|exact .inr (.inr ⟨rfl,rfl⟩)|cases h
def Jf(i:Int)(t:Tok):Bb (.inl i) (.int i t)=true:=by simp[Bb,Value.isInt]
def Jg(x:Str)(t:Tok):Bb (.inr x) (.str x t)=true:=by simp[Bb,Value.isStrOf]
theorem Sz(a b:Int):decide (Key.inl a=Key.inl b)=(a==b):=by
 by_cases e:a=b
 ·subst e;simp
 ·have h:¬ Key.inl a=Key.inl b:=fun q=>e (Key.inl.inj q);rw[Β7 h];exact(Β2.mpr e).symm
theorem SA(a b:Str):decide (Key.inr a=Key.inr b)=decide (a=b):=by
 by_cases e:a=b
 ·subst e;simp
 ·have h:¬ Key.inr a=Key.inr b:=fun q=>e (Key.inr.inj q);rw[Β7 h,Β7 e]
def bJ(prog:Program)(w:World):PySem.KeyKind prog w Key where
 is:=Bb
 hash:=WN w
 inj:=fun v a b ha hb=>by
  rcases eQ ha with⟨i,t,rfl,rfl⟩|⟨x,t,rfl,rfl⟩|⟨rfl,rfl⟩<;>rcases eQ hb with⟨j,u,rfl,e⟩|⟨y,u,rfl,e⟩|⟨rfl,e⟩ <;>
   first|rfl|(cases e<;>rfl)
 byValue:=fun k v h=>by
  rcases eQ h with⟨i,t,rfl,rfl⟩|⟨x,t,rfl,rfl⟩|⟨rfl,rfl⟩<;>rfl
 pyHash:=fun hv h=>by
  rcases eQ hv with⟨i,t,rfl,rfl⟩|⟨x,t,rfl,rfl⟩|⟨rfl,rfl⟩
  ·exact wpAny_pyHash_int h
  ·exact wpAny_pyHash_str h
  ·exact PySem.W.pyHash_slot (T:="NoneType") rfl F.slot_NoneType_hash F.entry_NoneType_hash (F.args_NoneType_hash_1 _) (beq_builtin_none _) (.inl rfl) (Β (Θ (Β (wpAny_mkInt (Θ ⟨_,_,rfl,h⟩)))))
 eqBool:=fun hu hv h=>by
  rcases eQ hu with⟨i,t,rfl,rfl⟩|⟨x,t,rfl,rfl⟩|⟨rfl,rfl⟩<;>rcases eQ hv with⟨j,u,rfl,rfl⟩|⟨y,u,rfl,rfl⟩|⟨rfl,rfl⟩
  ·rw[Sz] at h;exact wpAny_eqBool_int h
  ·exact SeqAt.EqAt.int_str i t y u _ _ _ _ h
  ·exact SeqAt.EqAt.int_none i t _ _ _ _ h
  ·exact SeqAt.EqAt.str_int x t j u _ _ _ _ h
  ·rw[SA] at h;exact wpAny_eqBool_str h
  ·exact SeqAt.EqAt.str_none x t _ _ _ _ h
  ·exact SeqAt.EqAt.none_int j u _ _ _ _ h
  ·exact SeqAt.EqAt.none_str y u _ _ _ _ h
  ·exact SeqAt.EqAt.same .none _ _ _ _ h
 «strs»:=fun k x t v h=>by
  rcases eQ h with⟨i,u,rfl,e⟩|⟨y,u,rfl,e⟩|⟨rfl,e⟩
  ·exact nomatch e
  ·injection e with e1 _
   subst e1;cases v<;>rfl
  ·exact nomatch e
def Du(prog:Program)(w:World)(i:Int)(t:Tok):(bJ prog w).is (.inl i) (.int i t)=true:=Jf i t
def Dv(prog:Program)(w:World)(x:Str)(t:Tok):(bJ prog w).is (.inr x) (.str x t)=true:=Jg x t
inductive V where
 | Xu|bl (b:Bool)|int (i:Int)|str (x:Str)|byt (b:Array UInt8)|flt (b:UInt64)|ref (a:Addr)|ty (n:String)
 deriving DecidableEq
end
variable{vs xs:List V}{v:V}
mutual
example:=[]
def bP:V->Value->Prop
 | .Xu,u=>u=Value.none
 | .bl b,u=>u=Value.bool b
 | .int i,u=>∃ t,u=Value.int i t
 | .str x,u=>∃ t,u=Value.str x t
 | .byt b,u=>∃ t,u=Value.bytes b t
 | .flt b,u=>∃ t,u=Value.float b t
 | .ref a,u=>u=Value.ref a
 | .ty n,u=>u=Value.type n
abbrev Xx:List V->List Value->Prop:=Paired bP
def Xx.length(r:Xx xs us):xs.length=us.length:=Paired.length r
theorem Xx.get:∀ {xs:List V} {us:List Value} {i:Nat} {x:V},Xx xs us->xs[i]?=some x->∃ u,us[i]?=some u/\bP x u
 | _,_,_,_,.nil,e=>by simp at e
 | _,_,0,_,.cons r _,e=>by simp at e;subst e;exact⟨_,rfl,r⟩
 | _,_,i+1,x,.cons _ t,e=>by
  obtain⟨u,h1,h2⟩:=Xx.get (i:=i) (x:=x) t (by simpa using e);exact⟨u,by simpa using h1,h2⟩
theorem Xx.set{x:V}{u:Value}(r:bP x u):∀ {xs:List V} {us:List Value} (i:Nat),Xx xs us->Xx (xs.set i x) (us.set i u)
 | _,_,_,.nil=>.nil
 | _,_,0,.cons _ t=>.cons r t
 | _,_,i+1,.cons q t=>.cons q (Xx.set r i t)
def Xx.append{ys:List V}{ws:List Value}(h:Xx xs us)(s:Xx ys ws):Xx (xs++ys) (us++ws):=by
 induction h with
 | nil=>exact s
 | cons r _ ih=>exact .cons r ih
theorem Xx.take:∀ {xs:List V} {us:List Value} (n:Nat),Xx xs us->Xx (xs.take n) (us.take n)
 | _,_,0,_=>.nil
 | _,_,_+1,.nil=>.nil
 | _,_,n+1,.cons r t=>.cons r (Xx.take n t)
theorem Xx.drop:∀ {xs:List V} {us:List Value} (n:Nat),Xx xs us->Xx (xs.drop n) (us.drop n)
 | _,_,0,r=>r
 | _,_,_+1,.nil=>.nil
 | _,_,n+1,.cons _ t=>Xx.drop n t
theorem Xx.none_of:∀ {xs:List V} {us:List Value} {i:Nat},Xx xs us->xs[i]?=none->us[i]?=none:=fun {xs us i} r e=>by
 have h1:=r.length;have h2:xs.length<=i:=Ε8.mp e;exact Ε8.mpr (by omega)
def lL:Option V->Option Value->Prop
 | some v,some u=>bP v u
 | none,none=>True
 | _,_=>False
def KV{κ:Type}:List (κ×V)->List (κ×Value)->Prop:=Paired fun(p:κ×V) (q:κ×Value)=>p.1=q.1/\bP p.2 q.2
def kV:Key->V
 | .inl i=>.int i
 | .inr x=>.str x
 | .no=>.Xu
inductive HO where
 /-- a list -/
 | lst (xs:List V)
 /-- a tuple (never changes) -/
 | tup (xs:List V)
 /-- a dict whose keys are ints and texts;one whose keys are tuples of ints and texts (the empty one is both) -/
 | dK (kvs:List (Key×V))|dT (kvs:List (List Key×V))
 /-- a set of ints: Xw members,Xw size -/
 | set (S:Int->Bool) (n:Nat)
 /-- an instance of the class at C,Xw dict at dx,Xw attributes -/
 | ins (C dx:Addr) (fs:List (Str×V))
 /-- the dict of the instance at x -/
 | own (x:Addr)
 /-- the dict of an exception -/
 | xd (fs:List (Str×V))
 /-- a bound method,f of x -/
 | met (f x:Addr)
 /-- a range object lo,lo+1,.. below hi -/
 | rng (lo hi:Int)
 /-- a thing that is known to the object (the script;a dict while a loop walks it): read,never written while it is so -/
 | XZ (o:Obj) (u:HO)
 /-- a code object's table -/
 | tbl (ps:Array Value)
 /-- any other thing,by what is true of Xw one object (a def of acS own: SetO a S n:=HO.ext fun h=>..) -/
 | ext (φ:Heap->Prop)
abbrev Hp:=Addr->Option HO
end
variable{H:Hp}
mutual
example:=[]
def Xt(H:Hp)(a:Addr)(o:HO):Hp:=fun b=>if b=a then some o else H b
def aA{o:HO}:Xt H a o a=some o:=by unfold Xt;rw[if_pos rfl]
def aC{o:HO}(h:b≠a):Xt H a o b=H b:=by unfold Xt;rw[if_neg h]
def c0{o u:HO}(h:H a=some o)(h':H b=some u)(d:o≠u):a≠b:=by
 intro e;subst e;rw[h] at h';exact d (ϗ h')
def aF{o:HO}(h:H a=some o)(h':H b=none):a≠b:=by
 intro e;subst e;rw[h] at h';cases h'
end
section
variable(P:Program)(w:World)
noncomputable def eB(H:Hp)(h:Heap)(a:Addr):HO->Prop
  | .lst xs=>xs.length<=sizeLine/\∃(Xw:List Value) (n:Nat),Xx xs Xw/\h.get? a=some {cls:=.type "list",data:=.seq Xw.toArray n}
  | .tup xs=>xs.length<=sizeLine/\∃ Xw:List Value,Xx xs Xw/\IsTup h a Xw.toArray
  | .dK kvs=>kvs.length<=sizeLine/\(a==sysModules)=false/\∃ vs,KV kvs vs/\h.DictOf (bJ P w) a vs
  | .dT kvs=>kvs.length<=sizeLine/\(a==sysModules)=false/\∃ xs:List (List Key×Addr×Value),
      Paired (fun(p:List Key×V) (q:List Key×Addr×Value)=>p.1=q.1/\H q.2.1=some (.tup (p.1.map kV))/\bP p.2 q.2.2) kvs xs /\
      ∃ o es ep,h.get? a=some o/\o.ExactDict/\o.data=.dict es ep/\es.toList=xs.map (entryOfKey (tupleKind (bJ P w)))/\(xs.map (·.1)).Nodup
  | .set S n=>h.SetOf (intKind P w) a S n
  | .ins C dx fs=>H dx=some (.own a)/\fs.length<=1000/\dx≠a/\h.get? a=some (PySem.W.instObj C dx) /\
      ∃ mA,h.Ns1 dx mA/\(∀ f,lL (fs.lookup f) (mA f))/\PySem.Within mA (fs.map (·.1))
  | .own _=>∃ o,h.get? a=some o
  | .xd fs=>∃ mA,h.Ns1 a mA/\∀ f,lL (fs.lookup f) (mA f)
  | .rng lo hi=>∃ t u v,h.get? a=some {cls:=.type "range",data:=.fields #[.int lo t,.int hi u,.int 1 v]}
  | .XZ o u=>h.get? a=some o/\eB H h a u
  | .tbl ps=>h.get? a=some {cls:=.none,data:=.fields ps}
  | .met f x=>h.get? a=some (PySem.W.methodObj (.ref f) (.ref x))
  | .ext φ=>φ h/\(∃ o,h.get? a=some o)/\∀ h1 h2:Heap,φ h1->(∀ o,h1.get? a=some o->h2.get? a=some o)->φ h2
def HOk(H:Hp)(h:Heap):Prop:=∀ a o,H a=some o->eB P w H h a o
end
section
variable{H':Hp}{h':Heap}{o:HO}
mutual
example:=[.inl rfl,.own a,PySem.W.methodObj (.ref f) (.ref y)]
def eB.lt(x:eB P w H h a o):a < h.objs.size:=by
 cases o with
 | lst xs=>obtain⟨_,_,_,_,e⟩:=x;exact Λ e
 | tup xs=>obtain⟨_,_,_,p⟩:=x;exact p.lt
 | dK kvs=>obtain⟨_,_,_,_,o,_,_,e,_⟩:=x;exact Λ e
 | dT kvs=>obtain⟨_,_,_,_,o,_,_,e,_⟩:=x;exact Λ e
 | set S n=>obtain⟨o,_,_,_,e,_⟩:=x;exact Λ e
 | ins C dx fs=>obtain⟨_,_,_,e,_⟩:=x;exact Λ e
 | own y=>obtain⟨_,e⟩:=x;exact Λ e
 | xd fs=>obtain⟨_,⟨_,_,_,e,_⟩,_⟩:=x;exact Λ e
 | rng lo hi=>obtain⟨_,_,_,e⟩:=x;exact Λ e
 | XZ ob u=>obtain⟨e,_⟩:=x;exact Λ e
 | tbl ps=>exact Λ (show h.get? a=some _ from x)
 | met f y=>exact Λ (show h.get? a=some _ from x)
 | ext φ=>obtain⟨_,⟨_,e⟩,_⟩:=x;exact Λ e
theorem Paired.SF{α β:Type}{F G:α->β->Prop}:∀ {l₁:List α} {l₂:List β},Paired F l₁ l₂->(∀ a b,F a b->G a b)->Paired G l₁ l₂
 | _,_,.nil,_=>.nil
 | _,_,.cons r t,f=>.cons (f _ _ r) (Paired.SF t f)
def eB.vB(x:eB P w H h a o)(k:∀ b u,(b=a\/H b=some 1e0)->h.get? b=some u->h'.get? b=some u)(ho:∀ b,H b=some 1e0->H' b=some 1e0)(ht:∀ b xs,H b=some (.tup xs)->H' b=some (.tup xs)):eB P w H' h' a o:=by
 induction o with
 | lst xs=>obtain⟨z,Xw,n,r,e⟩:=x;exact⟨z,Xw,n,r,k _ _ 0e0 e⟩
 | tup xs=>obtain⟨z,Xw,r,ob,e,c⟩:=x;exact⟨z,Xw,r,ob,k _ _ 0e0 e,c⟩
 | dK kvs=>obtain⟨z,y,vs,r,ob,es,ep,e,c⟩:=x;exact⟨z,y,vs,r,ob,es,ep,k _ _ 0e0 e,c⟩
 | dT kvs =>
  obtain⟨z,y,xs,r,ob,es,ep,e,c⟩:=x;exact⟨z,y,xs,Paired.SF r fun p q z=>⟨z.1,ht _ _ z.2.1,z.2.2⟩,ob,es,ep,k _ _ 0e0 e,c⟩
 | set S n=>obtain⟨ob,es,ep,t,e,c⟩:=x;exact⟨ob,es,ep,t,k _ _ 0e0 e,c⟩
 | ins C dx fs =>
  obtain⟨d,z,ne,e,mA,⟨od,es,ep,e2,c⟩,r⟩:=x;exact⟨ho _ d,z,ne,k _ _ 0e0 e,mA,⟨od,es,ep,k _ _ (.inr d) e2,c⟩,r⟩
 | own y=>obtain⟨ob,e⟩:=x;exact⟨ob,k _ _ 0e0 e⟩
 | xd fs=>obtain⟨mA,⟨od,es,ep,e,c⟩,r⟩:=x;exact⟨mA,⟨od,es,ep,k _ _ 0e0 e,c⟩,r⟩
 | rng lo hi=>obtain⟨t,u,v,e⟩:=x;exact⟨t,u,v,k _ _ 0e0 e⟩
 | XZ ob u ih=>obtain⟨e,q⟩:=x;exact⟨k _ _ 0e0 e,ih q⟩
 | tbl ps =>
  have e:h.get? a=some {cls:=.none,data:=.fields ps}:=x;show h'.get? a=some {cls:=.none,data:=.fields ps};exact k a _ 0e0 e
 | met f y =>
  have e:h.get? a=some 2e0:=x;show h'.get? a=some 2e0;exact k a _ 0e0 e
 | ext φ=>obtain⟨p,⟨o,e⟩,st⟩:=x;exact⟨st _ _ p fun o q=>k _ _ 0e0 q,⟨o,k _ _ 0e0 e⟩,st⟩
def HOk.lt(x:HOk P w H h)(e:H a=some o):a < h.objs.size:=(x a o e).lt
def HOk.fresh(x:HOk P w H h)(e:h.objs.size<=a):H a=none:=by
 cases q:H a with
 | none=>rfl
 | some u=>exact absurd (Φ (x.lt q) e) (Ϛ _)
def HOk.kept(x:HOk P w H h)(k:∀ b u,h.get? b=some u->h'.get? b=some u):HOk P w H h':=fun a o e =>
 (x a o e).vB (fun b u _ q=>k b u q) (fun _ q=>q) fun _ _ q=>q
def HOk.laid(x:HOk P w H h)(k:∀ b u,h.get? b=some u->h'.get? b=some u)(hp:h.objs.size<=a)(new:eB P w (Xt H a o) h' a o):HOk P w (Xt H a o) h':=fun b u e=>by
 have hn:=x.fresh hp;by_cases hb:b=a
 ·subst hb;rw[aA] at e;cases e;exact new
 ·rw[aC hb] at e;exact(x b u e).vB (fun c v _ q=>k c v q) (fun c q=>by rw[aC (aF q hn)];exact q) fun c xs q=>by rw[aC (aF q hn)];exact q
end
end
def Rd(H:Hp)(a:Addr)(u:HO):Prop:=H a=some u\/∃ o,H a=some (.XZ o u)
def Rd.ok{u:HO}(r:Rd H a u)(x:HOk P w H h):eB P w H h a u:=by
 rcases r with r|⟨o,r⟩
 ·exact x a u r
 ·obtain⟨_,q⟩:=x a _ r;exact q
noncomputable def Mut:Option HO->Prop
 | some (.lst _)=>True
 | some (.dK _)=>True
 | some (.dT _)=>True
 | some (.set _ _)=>True
 | some (.ins _ _ _)=>True
 | some (.ext _)=>True
 | _=>False
section
variable{h':Heap}{x e:Addr}{o':HO}
def HOk.write(ok:HOk P w H h)(mu:Mut (H x))(he:e=x\/H e=some (.own x))(k:∀ b u,b≠e->h.get? b=some u->h'.get? b=some u)(heo:∃ u,h'.get? e=some u)(new:eB P w (Xt H x o') h' x o'):HOk P w (Xt H x o') h':=fun b u q=>by
 have abJ:∀ c y,H c=some (.own y)->c≠x:=fun c y r z=>by subst z;rw[r] at mu;exact mu
 have acE:∀ c xs,H c=some (.tup xs)->c≠x:=fun c xs r z=>by subst z;rw[r] at mu;exact mu
 by_cases hb:b=x
 ·subst hb;rw[aA] at q;cases q;exact new
 ·rw[aC hb] at q;by_cases hbe:b=e
  ·have q':H b=some (.own x):=by
    rcases he with z|z
    ·exact absurd (hbe.trans z) hb
    ·rw[hbe];exact z
   rw[q] at q';cases q';obtain⟨v,hv⟩:=heo;exact⟨v,by rw[hbe];exact hv⟩
  ·refine(ok b u q).vB (fun c v hc r=>k c v ?_ r) (fun c r=>by rw[aC (abJ c b r)];exact r) fun c xs r=>by rw[aC (acE c xs r)];exact r
   rcases hc with rfl|hc
   ·exact hbe
   ·rintro rfl;rcases he with z|z
    ·exact abJ c b hc z
    ·rw[hc] at z;cases z;exact hb rfl
end
structure Un(fs ex:List Addr)(H H':Hp)(h h':Heap):Prop where
 keep:∀ b o,h.get? b=some o->H b=none->b∉fs->b∉ex->h'.get? b=some o
 slot:∀ b o,h.get? b=some o->H b=none->b∈fs->b∉ex->∃ sl,h'.get? b=some {o with slots:=sl}
 free:∀ b o,h.get? b=some o->H b=none->b∉ex->H' b=none
 there:∀ b o,h.get? b=some o->b∉ex->∃ o',h'.get? b=some o'
 AI:∀ b xs,H b=some (.tup xs)->H' b=some (.tup xs)
 xU:∀ b o u,H b=some (.XZ o u)->H' b=some (.XZ o u)
 AH:∀ b ps,H b=some (.tbl ps)->∃ more,H' b=some (.tbl (ps++more))
section
variable{fs fs' ex ex':List Addr}{H1 H2:Hp}{h1 h2 h':Heap}{x e:Addr}{o:HO}
mutual
example:=[(hm b _ q fun z=>z),aF q hn]
def Un.any(u:Un fs ex H H1 h h1){ob:Obj}(q:h.get? b=some ob)(n:H b=none)(hx:b∉ex):∃ sl,h1.get? b=some {ob with slots:=sl}:=by
 by_cases hb:b∈fs
 ·exact u.slot b ob q n hb hx
 ·exact⟨ob.slots,u.keep b ob q n hb hx⟩
def Un.kept(k:∀ b u,h.get? b=some u->h'.get? b=some u):Un fs ex H H h h' :=
 ⟨fun b ob q _ _ _=>k b ob q,fun b ob q _ _ _=>⟨ob.slots,k b ob q⟩,fun _ _ _ n _=>n,fun b ob q _=>⟨ob,k b ob q⟩,fun _ _ q=>q,fun _ _ _ q=>q,fun _ ps q=>⟨#[],by rw[q];simp⟩⟩
def Un.refl:Un fs ex H H h h:=Un.kept fun _ _ q=>q
def Un.laid(k:∀ b u,h.get? b=some u->h'.get? b=some u)(hp:h.objs.size<=a)(hn:H a=none):Un fs ex H (Xt H a o) h h' where
 keep:=fun b u q _ _ _=>k b u q
 slot:=fun b u q _ _ _=>⟨u.slots,k b u q⟩
 free:=fun b u q n _=>by rw[aC (Ο (Φ (Λ q) hp))];exact n
 there:=fun b u q _=>⟨u,k b u q⟩
 AI:=fun b xs q=>by rw[aC 1e0];exact q
 xU:=fun b u xs q=>by rw[aC 1e0];exact q
 AH:=fun b ps q=>⟨#[],by rw[aC 1e0,q];simp⟩
def Un.write(mu:Mut (H x))(he:e=x\/H e=some (.own x))(k:∀ b u,b≠e->h.get? b=some u->h'.get? b=some u)(heo:∃ u,h'.get? e=some u):Un fs ex H (Xt H x o) h h':=by
 have hx:∀ b,H b=none->b≠x:=fun b n z=>by subst z;rw[n] at mu;exact mu
 have hb:∀ b,H b=none->b≠e:=fun b n z=>by
  subst z;rcases he with r|r
  ·exact hx b n r
  ·rw[n] at r;cases r
 have hm:∀ b u,H b=some u->¬ Mut (some u)->b≠x:=fun b u q nm z=>by subst z;rw[q] at mu;exact nm mu
 refine⟨fun b u q n _ _=>k b u (hb b n) q,fun b u q n _ _=>⟨u.slots,k b u (hb b n) q⟩,fun b u q n _=>by rw[aC (hx b n)];exact n,fun b u q _=>?_,
  fun b xs q=>by rw[aC 0e0];exact q,fun b u xs q=>by rw[aC 0e0];exact q,fun b ps q=>⟨#[],by rw[aC 0e0,q];simp⟩⟩
 by_cases hbe:b=e
 ·subst hbe;exact heo
 ·exact⟨u,k b u hbe q⟩
end
end
mutual
example:=[Addr×Obj,trk h H]
def trk(h:Heap)(H:Hp):List Addr:=(List.range h.objs.size).filter fun a=>(H a).isSome
def B4(h:Heap)(H:Hp):Heap:=PySem.W.hideAll h 1e0
def Jd(h:Heap)(H:Hp):(B4 h H).objs.size=h.objs.size:=PySem.W.hideAll_size _ _
def LR(e:h.get? b=some o)(n:H b=none):(B4 h H).get? b=some o :=
 PySem.W.hideAll_get _ e fun hm=>by
  have q:(H b).isSome=true:=(Α5.mp hm).2;rw[n] at q;simp at q
def Pm(e:(B4 h H).get? b=some o):h.get? b=some o/\H b=none:=by
 have e':h.get? b=some o:=PySem.W.of_hideAll 1e0 e;refine⟨e',?_⟩;cases q:H b with
 | none=>rfl
 | some x =>
  have hm:b∈trk h H:=Α5.mpr ⟨List.mem_range.mpr (Λ e'),by simp[q]⟩;have z:(B4 h H).get? b=none:=PySem.W.hideAll_none 1e0 hm;rw[z] at e;cases e
def NS(g h:Heap)(L:Addr):List 0e0:=(List.range h.objs.size).filterMap fun a=>if a=L\/(g.get? a).isSome=true then none else (h.get? a).map fun o=>(a,o)
def rest(g h:Heap)(L d:Addr):List 0e0:=(NS g h L).filter fun p=>decide (p.1≠d)
structure Mod(K:q0B)(mg:q0C)(base:Heap):Prop where
 kin:K.In base
 glob:base.Ns mainGlobals mg
 blt:∃ mb,base.Ns builtinsNs mb/\∀ x:Str,x≠"__name__"->mb x=bootBuiltins x
 nolimit:base.NoLimit
set_option genInjectivity false in
structure Cx where
 prog:Program
 w:World
 K:q0B
 mg:Str->Option Value
 base:Heap
 A:Around
 N:List Str
 s₀:Shared
 H₀:Hp
 env:Env
 outer:List Env
 stack:List Env
 ex:List Addr
 fn:Str->Bool
 calm:Bool
 pn:List 0e0
 xe:Value->Shared->Prop
end
variable{X:Cx}
mutual
example:=[]
def frs(l:List Env):List Addr:=l.filterMap (·.frame)
abbrev Cx.fs(X:Cx):List Addr:=frs X.outer
def Vis(sc:Scope)(x:Str):Prop:=sc.names.lookup x=some .local\/sc.names.lookup x=some .cell\/sc.names.lookup x=some .free
def Loc(sc:Scope)(x:Str):Prop:=sc.names.lookup x=some .local\/sc.names.lookup x=some .cell
def Look(env:Env)(h:Heap)(m:q0C)(x:Str)(u:Value):Prop :=
 (env.kindOf x=some .local/\m x=some u)\/((env.kindOf x=some .cell\/env.kindOf x=some .free)/\∃ c,env.cells.lookup x=some c/\h.IsCell c (some u))
set_option genInjectivity false in
structure Cx.Ok(X:Cx):Prop where
 mod:Mod X.K X.mg X.base
 kind:X.env.scope.kind=.function
 glob:X.env.globals=mainGlobals
 blt:X.env.builtins=builtinsNs
 above:X.s₀.heap.objs.size<=X.env.locals
 inj:∀ x y c,X.env.cells.lookup x=some c->X.env.cells.lookup y=some c->x=y
 has:∀ x,(X.env.kindOf x=some .cell\/X.env.kindOf x=some .free)->∃ c,X.env.cells.lookup x=some c
 cab:∀ x c,X.fn x=true->X.env.cells.lookup x=some c->X.s₀.heap.objs.size<=c
 hd:X.calm=true->X.A.handled=none
 frames:X.A.frames=some X.stack
 stk:X.stack=X.outer\/(X.stack=X.env::X.outer/\X.env.frame=some X.env.locals)
 exf:∀ b∈X.ex,b≠X.env.locals/\∀ x c,X.env.cells.lookup x=some c->c≠b
 bs:∀ b o,X.base.get? b=some o->X.s₀.heap.get? b=some o/\X.H₀ b=none
 bsz:X.base.objs.size<=X.s₀.heap.objs.size
 DB:∀ b o,X.base.get? b=some o->b∉X.ex
 IX:∀ b∈X.ex,b∉X.fs
 rA:X.s₀.heap.FunFrames X.base X.outer
 frf:∀ b∈X.fs,X.H₀ b=none
structure Xv(X:Cx)(Xs:List (Addr×Obj))(σ:List (Option V))(H:Hp)(s:Shared):Prop where
 ok:X.Ok
 os:s.os=X.s₀.os
 bare:AllBare s.gens
 base:Un X.fs X.ex X.H₀ H X.s₀.heap s.heap
 loc:∃ m,s.heap.Ns X.env.locals m/\∀(i:Nat) (x:Str) (v:V),X.N[i]?=some x->σ[i]?=some (some v)->Vis X.env.scope x->∃ u,bP v u/\Look X.env s.heap m x u
 cell:∀ x c,X.env.cells.lookup x=some c->∃ v,s.heap.IsCell c v
 free:H X.env.locals=none
 kY:∀ x c,X.env.cells.lookup x=some c->H c=none
 pin:∀ p∈X.pn++Xs,s.heap.get? p.1=some p.2/\H p.1=none/\p.1≠X.env.locals/\p.1∉X.fs/\∀ v,p.2.data≠.cell v
 Xz:HOk X.prog X.w H s.heap
 len:σ.length=X.N.length
end
section
variable{σ:List (Option V)}{H':Hp}{h':Heap}
mutual
example:=[(by simp),Φ (Λ e) I.ok.above,neC b o e hx,Ο (Φ (Λ e) (I.ok.cab x c hfn hc)),(b∈X.ex\/X.s₀.heap.objs.size<=b),I.base.keep b o e n hb hx,(fun z=>hc (by simp[z])),I.base.free b o e n hx,I.kY x c e,storeName X.env x u,σ.set i (some v),I.ok.DB b o e,frs X.stack,I.cne x c e,(fun _ q=>q),Ne.symm hj,neL b o e,cne y c e]
def Cx.Ok.WQ(ok:X.Ok)(e:X.base.get? b=some o):b∉X.fs:=fun hb=>by
 have:=(ok.rA.mem hb).1;rw[e] at this;cases this
def Xv.bs(I:Xv X Xs σ H s):∀ b o,X.base.get? b=some o->s.heap.get? b=some o/\H b=none:=fun b o e =>
 ⟨I.base.keep b o (I.ok.bs b o e).1 (I.ok.bs b o e).2 (I.ok.WQ e) 1e1,I.base.free b o (I.ok.bs b o e).1 (I.ok.bs b o e).2 1e1⟩
def Xv.bk(I:Xv X Xs σ H s):∀ b o,X.base.get? b=some o->s.heap.get? b=some o:=fun b o e=>(I.bs b o e).1
def Xv.mod(I:Xv X Xs σ H s):Mod X.K X.mg X.base:=I.ok.mod
def Xv.kIn(I:Xv X Xs σ H s):X.K.In s.heap:=I.ok.mod.kin.keeps I.bk
def Xv.fr(I:Xv X Xs σ H s):∃ m,Fr X.base X.env.locals s.heap m :=
 let ⟨m,hn,_⟩:=I.loc
 ⟨m,hn,I.bk,Ω I.ok.bsz I.ok.above⟩
def Xv.lt(I:Xv X Xs σ H s):X.env.locals < s.heap.objs.size:=let ⟨_,hn,_⟩:=I.loc;hn.lt
def Xv.sz(I:Xv X Xs σ H s):X.s₀.heap.objs.size<=s.heap.objs.size:=Ω I.ok.above (Nat.le_of_lt I.lt)
def Xv.SJ(I:Xv X Xs σ H s)(h:s.heap.objs.size<=a):a∉X.fs:=fun hb=>by
 obtain⟨_,o,ho,_⟩:=I.ok.rA.mem hb;exact absurd (Φ (Λ ho) (Ω I.sz h)) (Ϛ _)
def Xv.cne(I:Xv X Xs σ H s):∀ x c,X.env.cells.lookup x=some c->c≠X.env.locals:=fun x c e z=>by
 obtain⟨v,o,ho,hd⟩:=I.cell x c e;obtain⟨m,⟨o',es,ep,ZG,hd',_⟩,_⟩:=I.loc;rw[z,ZG] at ho;cases ho;rw[hd'] at hd;cases hd
def Xv.rA(I:Xv X Xs σ H s):s.heap.FunFrames X.base X.outer:=by
 have all:∀(l:List Env),(∀ b∈frs l,b∈X.fs)->X.s₀.heap.FunFrames X.base l->s.heap.FunFrames X.base l:=by
  intro l
  induction l with
  | nil=>intro _ _;trivial
  | cons env r ih =>
   intro hs hl;obtain⟨hk,⟨L,o,hf,hn,ho,hd⟩,hr⟩:=hl;have hL:L∈X.fs:=hs L (by unfold frs;rw[List.filterMap_cons,hf];exact List.mem_cons_self);obtain⟨sl,e⟩:=I.base.slot L o ho (I.ok.frf L hL) hL fun z=>I.ok.IX L z hL;exact⟨hk,⟨L,_,hf,hn,e,hd⟩,ih (fun b hb=>hs b (by unfold frs;rw[List.filterMap_cons,hf];exact ϓ _ hb)) hr⟩
 exact all X.outer (fun _ hb=>hb) I.ok.rA
theorem Xv.stack(I:Xv X Xs σ H s):s.heap.FunFrames X.base X.stack:=by
 rcases I.ok.stk with e|⟨e,hf⟩
 ·rw[e];exact I.rA
 ·rw[e];obtain⟨m,hn,_⟩:=I.loc;refine .cons (by rw[I.ok.kind];decide) hf hn ?_ I.rA;exact Heap.get?_none_of_le (Ω I.ok.bsz I.ok.above)
def Xv.qK(I:Xv X Xs σ H s):∀ b∈frs X.stack,b∈X.env.locals::X.fs:=fun b hb=>by
 rcases I.ok.stk with e|⟨e,hf⟩
 ·rw[e] at hb;exact ϓ _ hb
 ·rw[e] at hb;unfold frs at hb;rw[List.filterMap_cons,hf] at hb;exact hb
def Xv.CB(I:Xv X Xs σ H s):∀ b∈frs X.stack,H b=none:=fun b hb=>by
 rcases Α.mp (I.qK b hb) with e|hb
 ·rw[e];exact I.free
 ·obtain⟨_,o,ho,_⟩:=I.ok.rA.mem hb;exact I.base.free b o ho (I.ok.frf b hb) fun z=>I.ok.IX b z hb
def Xv.step{d':Drawn}(I:Xv X Xs σ H s)(hch:∀ b∈ch,4e0/\b≠X.env.locals/\(∀ x c,X.env.cells.lookup x=some c->c≠b)/\∀ p∈X.pn++Xs,p.1≠b)(keep:∀ b o,b≠X.env.locals->b∉X.fs->b∉ch->s.heap.get? b=some o->H b=none->h'.get? b=some o)(slot:∀ b o,b≠X.env.locals->b∈X.fs->b∉ch->s.heap.get? b=some o->H b=none->∃ sl,h'.get? b=some {o with slots:=sl})(free:∀ b o,b∉ch->s.heap.get? b=some o->H b=none->H' b=none)(there:∀ b o,b∉ch->s.heap.get? b=some o->∃ o',h'.get? b=some o')(AI:∀ b xs,H b=some (.tup xs)->H' b=some (.tup xs))(xU:∀ b o u,H b=some (.XZ o u)->H' b=some (.XZ o u))(AH:∀ b ps,H b=some (.tbl ps)->∃ more,H' b=some (.tbl (ps++more)))(ns:∀ m,s.heap.Ns X.env.locals m->h'.Ns X.env.locals m)(Xz:HOk X.prog X.w H' h')(hg:AllBare g') : Xv X Xs σ H' {s with heap:=h',gens:=g',drawn:=d',toks:=t'}:=by
 have neL:∀ b o,X.s₀.heap.get? b=some o->b≠X.env.locals:=fun b o e=>Ο 1e0;have neC:∀ b o,X.s₀.heap.get? b=some o->b∉X.ex->b∉ch:=fun b o e hx hb=>by
  rcases(hch b hb).1 with z|z
  ·exact hx z
  ·exact absurd (Φ (Λ e) z) (Ϛ _)
 have cellK:∀ x c,X.env.cells.lookup x=some c->∀ v,s.heap.IsCell c v->h'.IsCell c v:=fun x c e v ⟨o,ho,hd⟩=>by
  have nch:c∉ch:=fun z=>(hch c z).2.2.1 x c e rfl;by_cases hc:c∈X.fs
  ·obtain⟨sl,q⟩:=slot c o 3e1 hc nch ho 8e0;exact⟨_,q,hd⟩
  ·exact⟨o,keep c o 3e1 hc nch ho 8e0,hd⟩
 refine⟨I.ok,I.os,hg,⟨fun b o e n hb hx=>?_,fun b o e n hb hx=>?_,fun b o e n hx=>?_,fun b o e hx=>?_,fun b xs e=>AI b xs (I.base.AI b xs e),fun b o xs e=>xU b o xs (I.base.xU b o xs e),fun b ps e=>?_⟩,?_,fun x c e=>?_,?_,fun x c e=>?_,fun p hp=>?_,Xz,I.len⟩
 ·exact keep b o 6e1 hb 2e0 5e0 7e0
 ·obtain⟨sl,e1⟩:=I.base.slot b o e n hb hx;obtain⟨XR,e2⟩:=slot b _ 6e1 hb 2e0 e1 7e0;exact⟨XR,e2⟩
 ·obtain⟨o',e1⟩:=I.base.there b o e hx;exact free b o' 2e0 e1 7e0
 ·obtain⟨o',e1⟩:=I.base.there b o e hx;exact there b o' 2e0 e1
 ·obtain⟨m1,e1⟩:=I.base.AH b ps e;obtain⟨m2,e2⟩:=AH b _ e1;exact⟨m1++m2,by rw[e2,Array.append_assoc]⟩
 ·obtain⟨m,hn,hl⟩:=I.loc;refine⟨m,ns m hn,fun i x v e1 e2 e3=>?_⟩;obtain⟨u,r,l⟩:=hl i x v e1 e2 e3;refine⟨u,r,?_⟩;rcases l with l|⟨k,c,e,z⟩
  ·exact .inl l
  ·exact .inr ⟨k,c,e,cellK x c e _ z⟩
 ·obtain⟨v,z⟩:=I.cell x c e;exact⟨v,cellK x c e v z⟩
 ·obtain⟨m,⟨o,_,_,ho,_⟩,_⟩:=I.loc;exact free _ o (fun z=>(hch _ z).2.1 rfl) ho I.free
 ·obtain⟨v,o,ho,hd⟩:=I.cell x c e;exact free c o (fun z=>(hch c z).2.2.1 x c e rfl) ho 8e0
 ·obtain⟨e,n,ne,nf,d⟩:=I.pin p hp;have nch:p.1∉ch:=fun z=>(hch p.1 z).2.2.2 p hp rfl;exact⟨keep p.1 p.2 ne nf nch e n,free p.1 p.2 nch e n,ne,nf,d⟩
def Xv.un(I:Xv X Xs σ H s)(u:Un X.fs [] H H' s.heap h')(Xz:HOk X.prog X.w H' h'):Xv X Xs σ H' {s with heap:=h',toks:=t'}:=by
 obtain⟨m,⟨o,es,ep,ho,r⟩,_⟩:=id I.loc;obtain⟨sl,hL⟩:=u.any ho I.free 0e0;exact I.step (g':=s.gens) (d':=s.drawn) (ch:=[]) (fun _ z=>nomatch z) (fun b o _ hb _ e n=>u.keep b o e n hb 0e0) (fun b o _ hb _ e n=>u.slot b o e n hb 0e0) (fun b o _ e n=>u.free b o e n 0e0) (fun b o _ e=>u.there b o e 0e0) u.AI u.xU u.AH (fun m' hm=>by
  obtain⟨o',es',ZR,ZG,r'⟩:=hm;rw[ho] at ZG;cases ZG;exact⟨_,es',ZR,hL,r'⟩) Xz I.bare
def Xv.call{d':Drawn}(I:Xv X Xs σ H s)(u:Un 2e1 ch H H' s.heap h')(Xz:HOk X.prog X.w H' h')(hg:AllBare g')(hch:∀ b∈ch,4e0/\b≠X.env.locals/\(∀ x c,X.env.cells.lookup x=some c->c≠b)/\∀ p∈X.pn++Xs,p.1≠b) : Xv X Xs σ H' {s with heap:=h',gens:=g',drawn:=d',toks:=t'}:=by
 obtain⟨m,⟨o,es,ep,ho,r⟩,_⟩:=id I.loc;obtain⟨sl,hL⟩:=u.any ho I.free fun z=>(hch _ z).2.1 rfl;exact I.step (ch:=ch) hch (fun b o hL hb hc e n=>u.keep b o e n (fun z=>(Α.mp (I.qK b z)).elim hL hb) hc) (fun b o _ _ hc e n=>u.any e n hc) (fun b o hc e n=>u.free b o e n hc) (fun b o hc e=>u.there b o e hc) u.AI u.xU u.AH (fun m' hm=>by
  obtain⟨o',es',ZR,ZG,r'⟩:=hm;rw[ho] at ZG;cases ZG;exact⟨_,es',ZR,hL,r'⟩) Xz hg
def Xv.turned{it:Addr}(I:Xv X Xs σ H s)(k:∀ b o,b≠it->s.heap.get? b=some o->h'.get? b=some o)(hn:H it=none)(hL:it≠X.env.locals)(h1:it∈X.ex\/X.s₀.heap.objs.size<=it)(h2:∀ x c,X.env.cells.lookup x=some c->c≠it)(h3:∀ p∈X.pn++Xs,p.1≠it):Xv X Xs σ H {s with heap:=h',toks:=t'}:=by
 have nit:∀ b u,H b=some u->b≠it:=fun b u e z=>by rw[z,hn] at e;cases e
 refine I.step (g':=s.gens) (d':=s.drawn) (ch:=[it]) (fun b hb=>?_) (fun b o _ _ hc e _=>k b o 6e0 e) (fun b o _ _ hc e _=>⟨o.slots,k b o 6e0 e⟩) (fun _ _ _ _ n=>n)
  (fun b o hc e=>⟨o,k b o 6e0 e⟩) (fun _ _ e=>e) (fun _ _ _ e=>e) (fun b ps e=>⟨#[],by rw[e];simp⟩) (fun m hm=>?_) (fun b u e=>?_) I.bare
 ·have e:b=it:=by simpa using hb
  subst e;exact⟨h1,hL,h2,h3⟩
 ·obtain⟨o,es,ep,ho,r⟩:=hm;exact⟨o,es,ep,k _ o (Ne.symm hL) ho,r⟩
 ·refine(I.Xz b u e).vB (fun c v hc q=>k c v ?_ q) 4e1 fun _ _ q=>q;rcases hc with z|z
  ·rw[z];exact nit b u e
  ·exact nit c _ z
def Xv.tok(I:Xv X Xs σ H s)(t:Nat):Xv X Xs σ H {s with toks:=t}:=I.un (h':=s.heap) (t':=t) Un.refl I.Xz
def Xv.kept(I:Xv X Xs σ H s)(k:∀ b u,s.heap.get? b=some u->h'.get? b=some u):Xv X Xs σ H {s with heap:=h',toks:=t'}:=I.un (Un.kept k) (I.Xz.kept k)
def Xv.laid{o:HO}(I:Xv X Xs σ H s)(k:∀ b u,s.heap.get? b=some u->h'.get? b=some u)(hp:s.heap.objs.size<=a)(new:eB X.prog X.w (Xt H a o) h' a o) : Xv X Xs σ (Xt H a o) {s with heap:=h',toks:=t'}:=I.un (Un.laid k hp (I.Xz.fresh hp)) (I.Xz.laid k hp new)
def Xv.write{x e:Addr}{o:HO}(I:Xv X Xs σ H s)(mu:Mut (H x))(he:e=x\/H e=some (.own x))(k:∀ b u,b≠e->s.heap.get? b=some u->h'.get? b=some u)(heo:∃ u,h'.get? e=some u)(new:eB X.prog X.w (Xt H x o) h' x o):Xv X Xs σ (Xt H x o) {s with heap:=h',toks:=t'}:=I.un (Un.write mu he k heo) (I.Xz.write mu he k heo new)
def Xv.kI{aaI:List (Addr×Obj)}(I:Xv X Xs σ H s)(h:∀ p∈aaI,s.heap.get? p.1=some p.2/\H p.1=none/\p.1≠X.env.locals/\p.1∉X.fs/\∀ v,p.2.data≠.cell v):Xv X aaI σ H s :=
 ⟨I.ok,I.os,I.bare,I.base,I.loc,I.cell,I.free,I.kY,fun p hp=>(Κ.mp hp).elim (fun z=>I.pin p (List.mem_append_left _ z)) (h p),I.Xz,I.len⟩
def DA{N:List Str}(hN:N.Nodup){j:Nat}(a:N[i]?=some x)(b:N[j]?=some x):i=j:=by
 obtain⟨h1,e1⟩:=Ν.mp a;obtain⟨h2,e2⟩:=Ν.mp b;exact(List.getElem_inj hN).mp (e1.trans e2.symm)
theorem t9(I:Xv X Xs σ H s)(hN:X.N.Nodup)(hi:X.N[i]?=some x)(hx:Loc X.env.scope x)(r:bP v u)(h:∀ s',Xv X Xs 0e1 H s'->(∃ a,Heap.SameBut a s.heap s'.heap/\(a=X.env.locals\/X.env.cells.lookup x=some a))->Q () s')(hf:X.fn x=true\/X.env.scope.names.lookup x=some .local:=by first|exact .inl rfl|exact .inr rfl|assumption):wpAny M A 9e0 Q E s:=by
 obtain⟨m,hn,hl⟩:=id I.loc;have abX:(X.env.scope.kind==.class||(X.env.scope.kind==.module&&X.env.locals !=X.env.globals))=false:=by rw[I.ok.kind];rfl
 have hiσ:i < σ.length:=by rw[I.len];exact(Ν.mp hi).1
 have cne:=I.cne;have tracked:∀ {a:Addr} {h':Heap},(∃ o,s.heap.get? a=some o/\H a=none)->Heap.SameBut a s.heap h'->HOk X.prog X.w H h':=fun {a h'} ha hs b ob e=>by
  obtain⟨_,_,aaF⟩:=ha;refine(I.Xz b ob e).vB (fun c w' hc q=>(hs.2 c ?_).trans q) 4e1 fun _ _ q=>q;rintro rfl;rcases hc with rfl|hc
  ·rw[aaF] at e;cases e
  ·rw[aaF] at hc;cases hc
 rcases hx with hk|hk
 ·refine wpAny_storeName_local hk hn (fun h' hn' hs=>?_) abX;obtain⟨oL,_,_,hoL,_⟩:=id hn;refine h _ ⟨I.ok,I.os,I.bare,⟨fun b o e n hb hx=>?_,fun b o e n hb hx=>?_,I.base.free,fun b o e hx=>?_,I.base.AI,I.base.xU,I.base.AH⟩,⟨_,hn',fun j y v' e1 e2 e3=>?_⟩,fun y c e=>?_,I.free,I.kY,fun p hp=>?_,tracked ⟨oL,hoL,I.free⟩ hs,by simpa using I.len⟩ ⟨_,hs,.inl rfl⟩
  ·exact(hs.2 b (Ο 1e0)).trans 5e0
  ·obtain⟨sl,e1⟩:=I.base.slot b o e n hb hx;exact⟨sl,(hs.2 b (Ο 1e0)).trans e1⟩
  ·obtain⟨o',e1⟩:=I.base.there b o e hx;exact⟨o',(hs.2 b (Ο 1e0)).trans e1⟩
  ·by_cases hj:j=i
   ·subst hj;rw[hi] at e1;cases e1;rw[List.getElem?_set_self hiσ] at e2;cases e2;exact⟨u,r,.inl ⟨hk,by simp⟩⟩
   ·rw[List.getElem?_set_ne 5e1] at e2;obtain⟨u',r',q⟩:=hl j y v' e1 e2 e3;refine⟨u',r',?_⟩;rcases q with⟨k,e⟩|⟨k,c,e,z⟩
    ·refine .inl ⟨k,?_⟩;have:y≠x:=fun e=>hj (DA hN e1 (e▸hi));simp[this,e]
    ·exact .inr ⟨k,c,e,z.sameBut hs 7e1⟩
  ·obtain⟨w',z⟩:=I.cell y c e;exact⟨w',z.sameBut hs 7e1⟩
  ·obtain⟨e,n,ne,nf,d⟩:=I.pin p hp;exact⟨(hs.2 p.1 ne).trans e,n,ne,nf,d⟩
 ·have hfn:X.fn x=true:=by
   rcases hf with z|z
   ·exact z
   ·rw[z] at hk;cases hk
  obtain⟨c,hc⟩:=I.ok.has x (.inl hk);obtain⟨w',z⟩:=I.cell x c hc;refine wpAny_storeName_cell I.ok.kind hk hc z (fun h' ZX hs=>?_);obtain⟨oc,hoc,ab5⟩:=id z;refine h {s with heap:=h'} ⟨I.ok,I.os,I.bare,⟨fun b o e n hb hx=>?_,fun b o e n hb hx=>?_,I.base.free,fun b o e hx=>?_,I.base.AI,I.base.xU,I.base.AH⟩,⟨m,hn.sameBut hs (Ne.symm (cne x c hc)),fun j y v' e1 e2 e3=>?_⟩,fun y c' e=>?_,I.free,I.kY,fun p hp=>?_,tracked ⟨oc,hoc,I.kY x c hc⟩ hs,by simpa using I.len⟩ ⟨c,hs,.inr hc⟩
  ·exact(hs.2 b 3e0).trans 5e0
  ·obtain⟨sl,e1⟩:=I.base.slot b o e n hb hx;exact⟨sl,(hs.2 b 3e0).trans e1⟩
  ·obtain⟨o',e1⟩:=I.base.there b o e hx;exact⟨o',(hs.2 b 3e0).trans e1⟩
  ·by_cases hj:j=i
   ·subst hj;rw[hi] at e1;cases e1;rw[List.getElem?_set_self hiσ] at e2;cases e2;exact⟨u,r,.inr ⟨.inl hk,c,hc,ZX⟩⟩
   ·rw[List.getElem?_set_ne 5e1] at e2;obtain⟨u',r',q⟩:=hl j y v' e1 e2 e3;refine⟨u',r',?_⟩;rcases q with q|⟨k,c',e,z'⟩
    ·exact .inl q
    ·refine .inr ⟨k,c',e,z'.sameBut hs ?_⟩;rintro rfl;exact hj (DA hN e1 (I.ok.inj _ _ _ e hc▸hi))
  ·by_cases hcc:c'=c
   ·subst hcc;exact⟨_,ZX⟩
   ·obtain⟨w2,z2⟩:=I.cell y c' e;exact⟨w2,z2.sameBut hs hcc⟩
  ·obtain⟨e,n,ne,nf,d⟩:=I.pin p hp;refine⟨(hs.2 p.1 ?_).trans e,n,ne,nf,d⟩;intro q;rw[q,hoc] at e;have q':oc=p.2:=ϗ e;exact d w' (by rw[<- q'];exact ab5)
theorem Ac(I:Xv X Xs σ H s)(hN:X.N.Nodup)(hi:X.N[i]?=some x)(hx:Loc X.env.scope x)(r:bP v u)(h:∀ s',Xv X Xs 0e1 H s'->Q () s')(hf:X.fn x=true\/X.env.scope.names.lookup x=some .local:=by first|exact .inl rfl|exact .inr rfl|assumption):wpAny M A 9e0 Q E s :=
 t9 I hN hi hx r (fun s' I' _=>h s' I') hf
def Xv.TR(I:Xv X Xs σ H s)(ho:s'.os=s.os)(u:Un 2e1 ch H H' s.heap s'.heap)(Xz:HOk X.prog X.w H' s'.heap)(hg:AllBare s'.gens)(hch:∀ b∈ch,4e0/\b≠X.env.locals/\(∀ x c,X.env.cells.lookup x=some c->c≠b)/\∀ p∈X.pn++Xs,p.1≠b):Xv X Xs σ H' s':=by
 obtain⟨h',g',d',t',o'⟩:=s';have e:o'=s.os:=ho;subst e;exact I.call (g':=g') (t':=t') (d':=d') u Xz hg hch
end
end
abbrev XK:=Value->Option Addr->Hp->Prop
abbrev St:=List (Option V)
variable{σ:St}
abbrev VK:=V->Hp->Prop
abbrev TE:=St->Hp->VK->Prop
variable{t te:TE}
abbrev TT:=St->Hp->(Bool->Hp->Prop)->Prop
abbrev TA:=St->Hp->(List V->Hp->Prop)->Prop
structure Ends where
 nx:St->Hp->Prop
 rt:VK
 bk:St->Hp->Prop:=fun _ _=>False
 ct:St->Hp->Prop:=fun _ _=>False
variable{D:Ends}
abbrev TS:=Ends->St->Hp->Prop
variable{tb:TS}
mutual
example:=[Addr×Obj,model X.prog X.w,eval e X.env,TP X Xs σ Q,SP X Xs D]
inductive EP(X:Cx)(Xs:List 0e0)(σ:St)(Q:VK)(u:Value)(s':Shared):Prop
 | mk (v:V) (H':Hp) (I:Xv X Xs σ H' s') (r:bP v u) (q:Q v H'):EP X Xs σ Q u s'
def TP(X:Cx)(Xs:List 0e0)(σ:St)(Q:Bool->Hp->Prop)(b:Bool)(s':Shared):Prop:=∃ H',Xv X Xs σ H' s'/\Q b H'
inductive AP(X:Cx)(Xs:List 0e0)(σ:St)(Q:List V->Hp->Prop)(us:List Value)(s':Shared):Prop
 | mk (vs:List V) (H':Hp) (I:Xv X Xs σ H' s') (r:Xx vs us) (q:Q vs H'):AP X Xs σ Q us s'
def SP(X:Cx)(Xs:List 0e0)(D:Ends)(f:Flow)(s':Shared):Prop :=
 match f with
 | .next=>∃ σ' H',Xv X Xs σ' H' s'/\D.nx σ' H'
 | .brk=>∃ σ' H',Xv X Xs σ' H' s'/\D.bk σ' H'
 | .cont=>∃ σ' H',Xv X Xs σ' H' s'/\D.ct σ' H'
 | .ret u=>∃ v σ' H',Xv X Xs σ' H' s'/\bP v u/\D.rt v H'
def PE(X:Cx)(e:Expr)(t:TE):Prop :=
 ∀(Xs:List 0e0) (s:Shared) (σ:St) (H:Hp) (Q:VK),Xv X Xs σ H s->t σ H Q->wpAny 1e0 X.A 2e0 (EP X Xs σ Q) X.xe s
def PT(X:Cx)(e:Expr)(t:TT):Prop :=
 ∀(Xs:List 0e0) (s:Shared) (σ:St) (H:Hp) (Q:Bool->Hp->Prop),Xv X Xs σ H s->t σ H Q->wpAny 1e0 X.A (isTrue e X.env 2e0) 3e0 X.xe s
def PW(X:Cx)(e:Expr)(t:TT):Prop :=
 ∀(whole:Sem Value) (Xs:List 0e0) (s:Shared) (σ:St) (H:Hp) (Q:Bool->Hp->Prop),Xv X Xs σ H s->t σ H Q->wpAny 1e0 X.A (isTrue e X.env whole) 3e0 X.xe s
def PW.pt{t:TT}(h:PW X e t):PT X e t:=h _
def PA(X:Cx)(es:List Expr)(t:TA):Prop :=
 ∀(pos:Pos) (Xs:List 0e0) (s:Shared) (σ:St) (H:Hp) (Q:List V->Hp->Prop),Xv X Xs σ H s->t σ H Q->wpAny 1e0 X.A (spliced (backTo pos (starEach es X.env))) (AP X Xs σ Q) X.xe s
def PS(X:Cx)(st:Stmt)(t:TS):Prop :=
 ∀(Xs:List 0e0) (s:Shared) (σ:St) (H:Hp) (D:Ends),Xv X Xs σ H s->t D σ H->wpAny 1e0 X.A (exec st X.env) 4e0 X.xe s
def YC(X:Cx)(st:List Stmt)(t:TS):Prop :=
 ∀(Xs:List 0e0) (s:Shared) (σ:St) (H:Hp) (D:Ends),Xv X Xs σ H s->t D σ H->wpAny 1e0 X.A (execs st X.env) 4e0 X.xe s
def thn{α:Type}{t:Sem α}{Q Q':α->Shared->Prop}(h:wpAny M A t Q E s)(hQ:∀ a s,Q a s->Q' a s):wpAny M A t Q' E s:=Α8 h hQ fun _ _ x=>x
end
section
mutual
example:=[x==("__debug__":Str),.Name x pos,(by rw[I.ok.glob];exact I.mod.glob.keeps I.bk),model X.prog X.w]
def oE(i:Nat):TE:=fun σ H Q=>∃ v,σ[i]?=some (some v)/\Q v H
def tC(v:V):TE:=fun _ H Q=>Q v H
theorem mB(hN:X.N[i]?=some x)(hv:Vis X.env.scope x)(hd:0e0=false:=by decide)(ZY:(x==("__classdict__":Str))=false:=by decide):PE X 1e0 (oE i):=by
 intro Xs s σ H Q I h;obtain⟨v,e,h⟩:=h;obtain⟨m,hn,hl⟩:=I.loc;obtain⟨u,r,l⟩:=hl i x v hN e hv;have fin:EP X Xs σ Q u s:=⟨v,H,I,r,h⟩;rcases l with⟨hk,hm⟩|⟨hk,c,hc,Y8⟩
 ·exact wpAny_Name (wpAny_loadName_local I.ok.kind hk hn hm fin) hd
 ·rcases hk with hk|hk
  ·exact wpAny_Name (wpAny_loadName_cell I.ok.kind hk hc Y8 fin) hd
  ·exact wpAny_Name (wpAny_loadName_free I.ok.kind hk hc Y8 fin ZY) hd
def aB{i j pos}:PE X (.Constant (.int i) j pos) (tC (.int i)):=fun _ _ _ H _ I h=>wpAny_Constant_int ⟨.int i,H,I.tok _,⟨_,rfl⟩,h⟩
def Bk{b j pos}:PE X (.Constant (.bool b) j pos) (tC (.bl b)):=fun _ _ _ H _ I h=>Constant_bool ⟨.bl b,H,I,rfl,h⟩
def cN{j pos}:PE X (.Constant .none j pos) (tC .Xu):=fun _ _ _ H _ I h=>Constant_none ⟨.Xu,H,I,rfl,h⟩
def aD{x j pos}:PE X (.Constant (.str x) j pos) (tC (.str x)):=fun _ _ _ H _ I h=>Calls.Constant_str ⟨.str x,H,I.tok _,⟨_,rfl⟩,h⟩
def Gl(X:Cx)(x:Str):Prop:=X.env.kindOf x=some .globalImplicit
theorem vK{Q:q0A}(I:Xv X Xs σ H s)(hg:Gl X x)(hm:X.mg x=some u)(h:Q u s)(hd:0e0=false:=by decide):wpAny 3e0 X.A (eval 1e0 X.env) Q E s :=
 Calls.Name_function_global I.ok.kind hg (Calls.loadGlobal_global 2e0 hm h) hd
theorem Fp{Q:q0A}(I:Xv X Xs σ H s)(hg:Gl X x)(hm:X.mg x=none)(hv:bootBuiltins x=some u)(h:Q u s)(hn:x≠"__name__":=by decide)(hd:0e0=false:=by decide):wpAny 3e0 X.A (eval 1e0 X.env) Q E s:=by
 obtain⟨mb,h1,h2⟩:=I.mod.blt;exact Calls.Name_function_global I.ok.kind hg (Calls.loadGlobal_builtin 2e0 hm (by rw[I.ok.blt];exact h1.keeps I.bk) ((h2 x hn).trans hv) h) hd
theorem rW(hg:Gl X x)(hm:X.mg x=some u)(r:bP v u)(hd:0e0=false:=by decide):PE X 1e0 (tC v) :=
 fun _ _ _ H _ I h=>vK I hg hm ⟨v,H,I,r,h⟩ hd
end
variable{a b:Expr}{ta tb:TE}
mutual
example:=[(by decide),model X.prog X.w,.Compare a [op] [b] pos,h Xs s σ H _ I hw]
def PC(X:Cx)(op:CmpOp)(a b:Expr)(t:TE):Prop :=
 ∀(Xs:List (Addr×Obj)) (s:Shared) (σ:St) (H:Hp) (Q:VK),Xv X Xs σ H s->t σ H Q ->
  wpAny 1e0 X.A (eval a X.env) (fun v s₁=>wpAny 1e0 X.A (eval b X.env) (fun u s₂=>wpAny 1e0 X.A (compareOp op v u) (EP X Xs σ Q) X.xe s₂) X.xe s₁) X.xe s
def nobehind(b:Expr)(h:op≠.In)(h2:op≠.NotIn):behindInMarks op b=false:=by
 have e1:(op==CmpOp.In)=false:=by cases op<;>first|rfl|exact absurd rfl h
 have e2:(op==CmpOp.NotIn)=false:=by cases op<;>first|rfl|exact absurd rfl h2
 cases b<;>simp[behindInMarks,e1,e2]
def tB(t:TE):TT:=fun σ H Q=>t σ H fun x H1=>∃ c,x=.bl c/\Q c H1
theorem SW(h:PC X op a b t)(h1:behindInMarks op b=false:=by first|exact nobehind _ 0e0 0e0|rfl):PE X 2e0 t:=fun Xs s σ H Q I hw=>wpAny_Compare1 (h Xs s σ H Q I hw) h1
theorem S3(h:PC X op a b t)(h1:behindInMarks op b=false:=by first|exact nobehind _ 0e0 0e0|rfl):PT X 2e0 (tB t):=by
 intro Xs s σ H Q I hw;refine wpAny_isTrue_Compare1 (thn 3e0 fun v s1 h1=>thn h1 fun u s2 h2=>thn h2 fun c s3 ⟨x,H1,I1,r1,q1⟩=>?_) h1;obtain⟨d,rfl,q⟩:=q1;cases r1;exact Δ9 ⟨H1,I1,q⟩
def Cr(h:PE X e t)(he:∀ whole,isTrue e X.env whole=(do let v <- whole;standAt e.pos;holding [v] (truthy v)):=by intro _;rfl):PT X e (tB t):=by
 intro Xs s σ H Q I hw;refine isTrue_plain (thn 3e0 fun v s1 ⟨x,H1,I1,r1,q1⟩=>?_) (he _);obtain⟨d,rfl,q⟩:=q1;cases r1;exact Δ9 ⟨H1,I1,q⟩
end
variable{tA tB':TT}{rest:List Expr}
mutual
example:=[(thn (ha Xs s σ H _ I h) fun v s1 ⟨x,H1,I1,r1,q1⟩=>?_),ha Xs s σ H _ I h,(thn (ha Xs s σ H Q I h) fun c s1 e=>?_),a::b::rest,.BoolOp .And 3e0 pos,.BoolOp .Or 3e0 pos,.BoolOp .And (b::rest) pos,.BoolOp .Or (b::rest) pos,.UnaryOp .Not a pos]
def VB(t u:TT):TT:=fun σ H Q=>t σ H fun c H1=>if c=true then u σ H1 Q else Q false H1
def Xh(t u:TT):TT:=fun σ H Q=>t σ H fun c H1=>if c=true then Q true H1 else u σ H1 Q
def VE(t:TT):TT:=fun σ H Q=>t σ H fun c H1=>Q (!c) H1
def dQ(ha:PT X a tA):PW X (.BoolOp .And [a] pos) tA:=by
 intro wh Xs s σ H Q I h;refine isTrue_and 2e0;cases c with
 | true=>exact isTrue_and_nil e
 | false=>exact e
def FW(ha:PT X a tA):PW X (.BoolOp .Or [a] pos) tA:=by
 intro wh Xs s σ H Q I h;refine isTrue_or 2e0;cases c with
 | false=>exact isTrue_or_nil e
 | true=>exact e
def eP(ha:PT X a tA)(hb:PW X 6e0 tB'):PW X 4e0 (VB tA tB'):=by
 intro wh Xs s σ H Q I h;refine isTrue_and (thn 1e0 fun c s1 ⟨H1,I1,q1⟩=>?_);cases c with
 | true=>exact hb wh Xs s1 σ H1 Q I1 q1
 | false=>exact⟨H1,I1,q1⟩
def MM(ha:PT X a tA)(hb:PW X 7e0 tB'):PW X 5e0 (Xh tA tB'):=by
 intro wh Xs s σ H Q I h;refine isTrue_or (thn 1e0 fun c s1 ⟨H1,I1,q1⟩=>?_);cases c with
 | true=>exact⟨H1,I1,q1⟩
 | false=>exact hb wh Xs s1 σ H1 Q I1 q1
def S4(ha:PT X a tA):PT X 8e0 (VE tA):=by
 intro Xs s σ H Q I h;exact isTrue_not (ha Xs s σ H (fun c H1=>Q (!c) H1) I h)
def Nr(ta tb:TE):TE:=fun σ H Q=>ta σ H fun x H1=>∃ c,x=.bl c/\if c=true then tb σ H1 Q else Q (.bl false) H1
def Tf(ta tb:TE):TE:=fun σ H Q=>ta σ H fun x H1=>∃ c,x=.bl c/\if c=true then Q (.bl true) H1 else tb σ H1 Q
def Nv(ta:TE):TE:=fun σ H Q=>ta σ H fun x H1=>∃ c,x=.bl c/\Q (.bl (!c)) H1
def nV{op}(h:PE X a t):PE X (.BoolOp op [a] pos) t:=fun Xs s σ H Q I hw=>BoolOp_one (h Xs s σ H Q I hw)
def SV(ha:PE X a ta)(hb:PE X 6e0 tb):PE X 4e0 (Nr ta tb):=by
 intro Xs s σ H Q I h;refine BoolOp_and 0e0;obtain⟨c,rfl,q1⟩:=q1;cases r1;refine Δ9 ?_;cases c with
 | true=>exact hb Xs s1 σ H1 Q I1 q1
 | false=>exact⟨.bl false,H1,I1,rfl,q1⟩
def Qz(ha:PE X a ta)(hb:PE X 7e0 tb):PE X 5e0 (Tf ta tb):=by
 intro Xs s σ H Q I h;refine BoolOp_or 0e0;obtain⟨c,rfl,q1⟩:=q1;cases r1;refine Δ9 ?_;cases c with
 | false=>exact hb Xs s1 σ H1 Q I1 q1
 | true=>exact⟨.bl true,H1,I1,rfl,q1⟩
def SX(ha:PE X a ta):PE X 8e0 (Nv ta):=by
 intro Xs s σ H Q I h;refine UnaryOp_ 0e0;obtain⟨c,rfl,q1⟩:=q1;cases r1;exact not_of (Δ9 ⟨.bl (!c),H1,I1,rfl,q1⟩)
def Xf(t:TT)(ta tb:TE):TE:=fun σ H Q=>t σ H fun c H1=>if c=true then ta σ H1 Q else tb σ H1 Q
def rX(hc:PT X c tA)(ha:PE X a ta)(hb:PE X b tb):PE X (.IfExp c a b pos) (Xf tA ta tb):=by
 intro Xs s σ H Q I h;refine wpAny_IfExp (thn (hc Xs s σ H _ I h) fun d s1 ⟨H1,I1,q1⟩=>?_);cases d with
 | true=>exact ha Xs s1 σ H1 Q I1 q1
 | false=>exact hb Xs s1 σ H1 Q I1 q1
end
end
mutual
example:=[]
def gE(K:q0B)(H:Hp)(a:Addr)(xs:List V):Prop :=
 Rd H a (.lst xs) \/
  ∃(o:Obj) (Xw:Array Value) (n:Nat),K.lookup a=some o/\o.cls=.type "list"/\o.dict=none/\o.data=.seq Xw n/\Xw.size<=sizeLine/\Xx xs Xw.toList
def jC(K:q0B)(H:Hp)(a:Addr)(xs:List V):Prop :=
 Rd H a (.tup xs) \/
  ∃(o:Obj) (Xw:Array Value) (n:Nat),K.lookup a=some o/\o.cls=.type "tuple"/\o.data=.seq Xw n/\Xw.size<=sizeLine/\Xx xs Xw.toList
def Wh:Value->Option V
 | .none=>some .Xu
 | .bool b=>some (.bl b)
 | .int i _=>some (.int i)
 | .str x _=>some (.str x)
 | .bytes b _=>some (.byt b)
 | .float b _=>some (.flt b)
 | .ref a=>some (.ref a)
 | .type n=>some (.ty n)
 | _=>none
def bP.abs{x:V}(r:bP x u):Wh u=some x:=by
 cases x with
 | Xu=>cases r;rfl
 | bl _=>cases r;rfl
 | int _=>obtain⟨t,rfl⟩:=r;rfl
 | str _=>obtain⟨t,rfl⟩:=r;rfl
 | byt _=>obtain⟨t,rfl⟩:=r;rfl
 | flt _=>obtain⟨t,rfl⟩:=r;rfl
 | ref _=>cases r;rfl
 | ty _=>cases r;rfl
def bP.inj{x y:V}(r:bP x u)(q:bP y u):x=y:=ϗ (r.abs.symm.trans q.abs)
def Xx.inj{ys:List V}(h:Xx xs us)(g:Xx ys us):xs=ys:=by
 induction h generalizing ys with
 | nil=>cases g;rfl
 | cons r t ih =>
  cases g with
  | cons r' t'=>rw[r.inj r',ih t']
end
section
variable{ys:List V}
mutual
example:=[]
def gE.of(h:H a=some (.lst xs)):gE K H a xs:=.inl (.inl h)
def jC.of(h:H a=some (.tup xs)):jC K H a xs:=.inl (.inl h)
theorem Xv.list(I:Xv X Xs σ H s)(h:gE X.K H a xs):∃ Xw:List Value,Xx xs Xw/\PlainL s.heap a Xw.toArray/\xs.length<=sizeLine:=by
 rcases h with h|⟨o,Xw,n,hk,hc,hd,hs,hz,r⟩
 ·obtain⟨z,Xw,n,r,e⟩:=h.ok I.Xz;exact⟨Xw,r,⟨_,n,e,rfl,rfl,rfl⟩,z⟩
 ·refine⟨Xw.toList,r,⟨o,n,I.kIn a o hk,hc,hd,by simpa using hs⟩,?_⟩;have e:=r.length;simp only[Γ3] at e;omega
theorem Xv.tuple(I:Xv X Xs σ H s)(h:jC X.K H a xs):∃ Xw:List Value,Xx xs Xw/\IsTup s.heap a Xw.toArray/\xs.length<=sizeLine:=by
 rcases h with h|⟨o,Xw,n,hk,hc,hs,hz,r⟩
 ·obtain⟨z,Xw,r,p⟩:=h.ok I.Xz;exact⟨Xw,r,p,z⟩
 ·refine⟨Xw.toList,r,⟨o,I.kIn a o hk,hc,n,by simpa using hs⟩,?_⟩;have e:=r.length;simp only[Γ3] at e;omega
def Xv.L8(I:Xv X Xs σ H s)(h:gE X.K H a xs)(h':gE X.K H a ys):xs=ys:=by
 obtain⟨Xw,r,⟨o,n,e,_,_,d⟩,_⟩:=I.list h;obtain⟨its',r',⟨o',n',e',_,_,d'⟩,_⟩:=I.list h';rw[e] at e';cases e';rw[d] at d';injection d' with d1 _
 have:Xw=its':=by simpa using congrArg Array.toList d1
 subst this;exact r.inj r'
def Xv.JW(I:Xv X Xs σ H s)(h:jC X.K H a xs)(h':jC X.K H a ys):xs=ys:=by
 obtain⟨Xw,r,⟨o,e,_,n,d⟩,_⟩:=I.tuple h;obtain⟨its',r',⟨o',e',_,n',d'⟩,_⟩:=I.tuple h';rw[e] at e';cases e';rw[d] at d';injection d' with d1 _
 have:Xw=its':=by simpa using congrArg Array.toList d1
 subst this;exact r.inj r'
end
end
mutual
example:=[]
abbrev Cx.AJ(X:Cx)(E:q0A):Cx:={X with xe:=E}
abbrev Cx.nox(X:Cx):Cx:=X.AJ fun _ _=>False
def Cx.Ok.AJ(ok:X.Ok)(E:q0A):(X.AJ E).Ok :=
 ⟨ok.mod,ok.kind,ok.glob,ok.blt,ok.above,ok.inj,ok.has,ok.cab,ok.hd,ok.frames,ok.stk,ok.exf,ok.bs,ok.bsz,ok.DB,ok.IX,ok.rA,ok.frf⟩
def Cx.Ok.oF(ok:(X.AJ E).Ok):X.Ok :=
 ⟨ok.mod,ok.kind,ok.glob,ok.blt,ok.above,ok.inj,ok.has,ok.cab,ok.hd,ok.frames,ok.stk,ok.exf,ok.bs,ok.bsz,ok.DB,ok.IX,ok.rA,ok.frf⟩
end
section
mutual
example:=[X.AJ E]
def Xv.AJ(I:Xv X Xs σ H s)(E:q0A):Xv 0e0 Xs σ H s:=⟨I.ok.AJ E,I.os,I.bare,I.base,I.loc,I.cell,I.free,I.kY,I.pin,I.Xz,I.len⟩
def Xv.oF(I:Xv 0e0 Xs σ H s):Xv X Xs σ H s:=⟨I.ok.oF,I.os,I.bare,I.base,I.loc,I.cell,I.free,I.kY,I.pin,I.Xz,I.len⟩
def SP.oF{f:Flow}(h:SP 0e0 Xs D f s'):SP X Xs D f s':=by
 cases f with
 | next=>obtain⟨σ',H',I,q⟩:=h;exact⟨σ',H',I.oF,q⟩
 | brk=>obtain⟨σ',H',I,q⟩:=h;exact⟨σ',H',I.oF,q⟩
 | cont=>obtain⟨σ',H',I,q⟩:=h;exact⟨σ',H',I.oF,q⟩
 | ret u=>obtain⟨v,σ',H',I,r,q⟩:=h;exact⟨v,σ',H',I.oF,r,q⟩
def YC.nox{st:List Stmt}{t:TS}(h:YC X.nox st t):YC X st t:=fun Xs s σ H D I hw =>
 Α8 (h Xs s σ H D (I.AJ _) hw) (fun _ _ q=>q.oF) fun _ _ z=>False.elim z
end
end
section
variable{st:Stmt}{rest:List Stmt}{t u:TS}
mutual
example:=[he Xs s σ H _ I h]
def Ij:TS:=fun D σ H=>D.nx σ H
def Gm(t u:TS):TS:=fun D σ H=>t {D with nx:=u D} σ H
def PF:YC X [] Ij:=fun _ _ σ H _ I h=>wpAny_execs_nil ⟨σ,H,I,h⟩
def aI(h1:PS X st t)(h2:YC X rest u):YC X (st::rest) (Gm t u):=by
 intro Xs s σ H D I h;refine wpAny_execs_cons (thn (h1 Xs s σ H {D with nx:=u D} I h) fun f s1 q=>?_);cases f with
 | next =>
  obtain⟨σ',H',I',q⟩:=q;exact h2 Xs s1 σ' H' D I' q
 | ret v=>exact q
 | brk=>exact q
 | cont=>exact q
def aG(h1:PS X st t):YC X [st] t:=by
 intro Xs s σ H D I h;refine wpAny_execs_cons (thn (h1 Xs s σ H D I h) fun f s1 q=>?_);cases f with
 | next=>exact wpAny_execs_nil q
 | ret v=>exact q
 | brk=>exact q
 | cont=>exact q
def QI:TS:=fun D σ H=>D.ct σ H
def DV:PS X (.Continue pos) QI:=fun _ _ σ H _ I h=>wpAny_Continue ⟨σ,H,I,h⟩
def Xv.quiet(I:Xv X Xs σ H s):interactive X.env=false:=by simp[interactive,I.ok.kind]
def Nu(te:TE):TS:=fun D σ H=>te σ H fun _ H1=>D.nx σ H1
def aP(he:PE X e te)(hs:swapsWith e none pos.line X.env=pure false:=by rfl):PS X (.Expr e pos) (Nu te):=by
 intro Xs s σ H D I h;exact wpAny_Expr_any (thn 0e0 fun v s1 ⟨x,H1,I1,r1,q1⟩=>⟨σ,H1,I1,q1⟩) I.quiet hs
def Th(te:TE):TS:=fun D σ H=>te σ H D.rt
def aK(he:PE X e te):PS X (.Return (some e) pos) (Th te):=by
 intro Xs s σ H D I h;exact wpAny_Return_some (thn 0e0 fun v s1 ⟨x,H1,I1,r1,q1⟩=>⟨x,σ,H1,I1,r1,q1⟩)
def QL:TS:=fun D _ H=>D.rt .Xu H
def vW:PS X (.Return none pos) QL:=fun _ _ σ H _ I h=>wpAny_Return_none ⟨.Xu,σ,H,I,rfl,h⟩
def Eu(c:TT)(t u:TS):TS:=fun D σ H=>c σ H fun b H1=>if b=true then t D σ H1 else u D σ H1
def gB{a b:List Stmt}{tc:TT}(hc:PT X c tc)(ha:YC X a t)(hb:YC X b u):PS X (.If c a b pos) (Eu tc t u):=by
 intro Xs s σ H D I h;refine wpAny_If (thn (hc Xs s σ H _ I h) fun d s1 ⟨H1,I1,q1⟩=>?_);cases d with
 | true=>exact ha Xs s1 σ H1 D I1 q1
 | false=>exact hb Xs s1 σ H1 D I1 q1
end
end
abbrev TG:=V->St->Hp->(St->Hp->Prop)->Prop
variable{g:TG}
mutual
example:=[model X.prog X.w,Addr×Obj]
abbrev TGs:=List V->St->Hp->(St->Hp->Prop)->Prop
def PG(X:Cx)(target:Expr)(t:TG):Prop :=
 ∀(Xs:List 1e0) (s:Shared) (σ:St) (H:Hp) (v:V) (u:Value) (Q:St->Hp->Prop),Xv X Xs σ H s->bP v u->t v σ H Q ->
  wpAny 0e0 X.A (assign target X.env u) (fun _ s'=>∃ σ' H',Xv X Xs σ' H' s'/\Q σ' H') X.xe s
def PGs(X:Cx)(ts:List Expr)(t:TGs):Prop :=
 ∀(Xs:List 1e0) (s:Shared) (σ:St) (H:Hp) (vs:List V) (us:List Value) (Q:St->Hp->Prop),Xv X Xs σ H s->Xx vs us->t vs σ H Q ->
  wpAny 0e0 X.A (assignInOrder ((assignEach ts X.env).map (·.2)) us) (fun _ s'=>∃ σ' H',Xv X Xs σ' H' s'/\Q σ' H') X.xe s
abbrev TSet:=V->V->V->Hp->(Hp->Prop)->Prop
def PSet(X:Cx)(t:TSet):Prop :=
 ∀(Xs:List 1e0) (s:Shared) (σ:St) (H:Hp) (o i v:V) (ov iv u:Value) (Q:Hp->Prop),Xv X Xs σ H s->bP o ov->bP i iv->bP v u->t o i v H Q ->
  wpAny 0e0 X.A (setItem ov iv u) (fun _ s'=>∃ H',Xv X Xs σ H' s'/\Q H') X.xe s
abbrev TIp:=V->V->Hp->VK->Prop
def PIp(X:Cx)(op:Operator)(t:TIp):Prop :=
 ∀(Xs:List 1e0) (s:Shared) (σ:St) (H:Hp) (x y:V) (v u:Value) (Q:VK),Xv X Xs σ H s->bP x v->bP y u->t x y H Q ->
  wpAny 0e0 X.A (inplaceOp op v u) (EP X Xs σ Q) X.xe s
end
section
mutual
example:=[model X.prog X.w,he Xs s σ H _ I h,hi Xs s1 σ H1 _ I1 q1,ho Xs s σ H _ I h,.Subscript o i pos,.Name x pos']
def kD(i:Nat):TG:=fun v σ H Q=>Q (σ.set i (some v)) H
theorem vU(hN:X.N.Nodup)(hi:X.N[i]?=some x)(hx:Loc X.env.scope x)(hf:X.fn x=true\/X.env.scope.names.lookup x=some .local:=by first|exact .inl rfl|exact .inr rfl|assumption):PG X (.Name x pos) (kD i):=by
 intro Xs s σ H v u Q I r h;exact wpAny_assign_Name (Ac I hN hi hx r (fun s' I'=>⟨_,H,I',h⟩) hf)
def OV:TGs:=fun vs σ H Q=>vs=[]/\Q σ H
def Hf(t:TG)(u:TGs):TGs:=fun vs σ H Q=>∃ v r,vs=v::r/\t v σ H fun σ' H'=>u r σ' H' Q
def vV:PGs X [] OV:=by
 intro Xs s σ H vs us Q I r h;obtain⟨e,h⟩:=h;subst e;cases r;exact assignInOrder_nil ⟨σ,H,I,h⟩
def fQ{t:TG}{u:TGs}(h1:PG X e t)(h2:PGs X es u)(hs:(assignEach (e::es) X.env).map (·.2)=assign e X.env::(assignEach es X.env).map (·.2):=by rfl):PGs X (e::es) (Hf t u):=by
 intro Xs s σ H vs us Q I r h;obtain⟨v,vr,e1,h⟩:=h;subst e1;cases r with
 | cons r rr =>
  rw[hs];refine assignInOrder_cons (thn (h1 Xs s σ H _ _ _ I r h) fun _ s1 ⟨σ1,H1,I1,q1⟩=>?_);exact h2 Xs s1 σ1 H1 _ _ Q I1 rr q1
def OW(K:q0B)(n:Nat)(t:TGs):TG:=fun v σ H Q=>∃ a xs,v=.ref a/\jC K H a xs/\xs.length=n/\t xs σ H Q
def MJ{t:TGs}(hc:X.calm=true)(h:PGs X es t)(hn:(assignEach es X.env).length=n:=by rfl)(XI:(assignEach es X.env).findIdx? (·.1)=none:=by rfl):PG X (.Tuple es k pos) (OW X.K n t):=by
 intro Xs s σ H v u Q I r hw;obtain⟨a,xs,e1,hq,hl,hw⟩:=hw;subst e1;cases r;obtain⟨Xw,rv,ht,hz⟩:=I.tuple hq;refine assign_Tuple_tuple (I.ok.hd hc) ht (by simp[hn,<- hl,rv.length]) XI fun h' hx=>?_;have I1:Xv X Xs σ H {s with heap:=h'}:=I.kept (t':=s.toks) fun b o e=>hx b o (Ο (Λ e)) e;exact h Xs _ σ H xs _ Q I1 (by simpa using rv) hw
def U0(to ti:TE)(t:TSet):TG:=fun v σ H Q=>to σ H fun o H1=>ti σ H1 fun i H2=>t o i v H2 fun H3=>Q σ H3
def tX{o i:Expr}{to ti:TE}{t:TSet}(ho:PE X o to)(hi:PE X i ti)(hs:PSet X t)
    (ha:∀ v,assign 4e0 X.env v=(do
      let ov <- holding [v] (eval o X.env);let iv <- holding [v,ov] (eval i X.env)
      standAt pos
      holding [v,ov,iv] (setItem ov iv v)
      release [v,ov,iv] []):=by intro _;rfl):PG X 4e0 (U0 to ti t):=by
  intro Xs s σ H v u Q I r h;rw[ha];refine Β (Β0 (thn 3e0 fun ov s1 ⟨x,H1,I1,r1,q1⟩=>?_));refine Β (Β0 (thn 2e0 fun iv s2 ⟨y,H2,I2,r2,q2⟩=>?_));refine Β (wpAny_standAt (Β (Β0 (thn (hs Xs s2 σ H2 x y v ov iv u _ I2 r1 r2 r q2) fun _ s3 ⟨H3,I3,q3⟩=>?_))));exact wpAny_release ⟨σ,H3,I3,q3⟩
def JU(te:TE)(g:TG):TS:=fun D σ H=>te σ H fun x H1=>g x σ H1 D.nx
def mE(he:PE X e te)(hg:PG X tg g)(hs:swapsWithSole [tg] e pos.line X.env=pure false:=by rfl)(hw:swappedStores [tg] e X.env=pure none:=by rfl)(h1:(assignEach [tg] X.env).map (·.2)=[assign tg X.env]:=by rfl):PS X (.Assign [tg] e pos) (JU te g):=by
 intro Xs s σ H D I h;refine wpAny_Assign_stores (thn 1e0 fun v s1 ⟨x,H1,I1,r1,q1⟩=>?_) hs hw;rw[h1];exact thn (hg Xs s1 σ H1 x v _ I1 r1 q1) fun _ s2 q=>q
theorem FV{pos':Pos}(hN:X.N.Nodup)(hi:X.N[i]?=some x)(hx:Loc X.env.scope x)(he:PE X e te)(hs:swapsWith e (some 5e0) pos.line X.env=pure false:=by rfl)(hf:X.fn x=true\/X.env.scope.names.lookup x=some .local:=by first|exact .inl rfl|exact .inr rfl|assumption) : PS X (.Assign [.Name x pos'] e pos) (JU te (kD i)):=by
 intro Xs s σ H D I h;refine wpAny_Assign_Name (thn 1e0 fun v s1 ⟨y,H1,I1,r1,q1⟩=>?_) hs;exact Ac I1 hN hi hx r1 (fun s2 I2=>⟨_,H1,I2,q1⟩) hf
def VC(i:Nat)(te:TE)(ti:TIp):TS:=fun D σ H=>∃ x,σ[i]?=some (some x)/\te σ H fun y H1=>ti x y H1 fun z H2=>D.nx (σ.set i (some z)) H2
theorem S2{op:Operator}{ti:TIp}{pos':Pos}(hN:X.N.Nodup)(hi:X.N[i]?=some x)(hx:Loc X.env.scope x)(he:PE X e te)(ho:PIp X op ti)(hf:X.fn x=true\/X.env.scope.names.lookup x=some .local:=by first|exact .inl rfl|exact .inr rfl|assumption) : PS X (.AugAssign 5e0 op e pos) (VC i te ti):=by
 intro Xs s σ H D I h;obtain⟨v,e1,h⟩:=h;obtain⟨m,hn,hl⟩:=I.loc;have vis:Vis X.env.scope x:=by rcases hx with k|k;exact .inl k;exact .inr (.inl k)
 obtain⟨u,r,l⟩:=hl i x v hi e1 vis;refine wpAny_AugAssign_Name ?_;have go:wpAny 0e0 X.A (eval e X.env) (fun w s₂=>wpAny 0e0 X.A (inplaceOp op u w) (fun r s₃=>wpAny 0e0 X.A (storeName X.env x r) (fun _=>SP X Xs D .next) X.xe s₃) X.xe s₂) X.xe s:=by
  refine thn 1e0 fun w s1 ⟨y,H1,I1,r1,q1⟩=>?_;refine thn (ho Xs s1 σ H1 v y u w _ I1 r r1 q1) fun z s2 ⟨zv,H2,I2,r2,q2⟩=>?_;exact Ac I2 hN hi hx r2 (fun s3 I3=>⟨_,H2,I3,q2⟩) hf
 rcases l with⟨hk,hm⟩|⟨hk,c,hc,Y8⟩
 ·exact wpAny_loadName_local I.ok.kind hk hn hm go
 ·rcases hk with hk|hk
  ·exact wpAny_loadName_cell I.ok.kind hk hc Y8 go
  ·rcases hx with k|k
   ·have:X.env.scope.names.lookup x=some .free:=hk;rw[k] at this;cases this
   ·have:X.env.scope.names.lookup x=some .free:=hk;rw[k] at this;cases this
def QH(to ti te:TE)(Y3:V->V->Hp->VK->Prop)(tip:TIp)(Y5:TSet):TS:=fun D σ H=>to σ H fun o H1=>ti σ H1 fun i H2=>Y3 o i H2 fun x H3=>te σ H3 fun y H4=>tip x y H4 fun z H5=>Y5 o i z H5 fun H6=>D.nx σ H6
def PGet(X:Cx)(t:V->V->Hp->VK->Prop):Prop :=
 ∀(Xs:List (Addr×Obj)) (s:Shared) (σ:St) (H:Hp) (o i:V) (ov iv:Value) (Q:VK),Xv X Xs σ H s->bP o ov->bP i iv->t o i H Q ->
  wpAny 0e0 X.A (getItem ov iv) (EP X Xs σ Q) X.xe s
def Pz{o i:Expr}{to ti:TE}{Y3:V->V->Hp->VK->Prop}{tip:TIp}{Y5:TSet}{op:Operator}{aaB:Pos}(ho:PE X o to)(hi:PE X i ti)(hg:PGet X Y3)(he:PE X e te)(hp:PIp X op tip)(hs:PSet X Y5)
    (ha:∀ ov iv new,augStore i ov iv new=(do holding [new,ov,iv] (setItem ov iv new);release [new,ov,iv] [];pure .next):=by intros;rfl):PS X (.AugAssign (.Subscript o i aaB) op e pos) (QH to ti te Y3 tip Y5):=by
  intro Xs s σ H D I h;refine wpAny_AugAssign_SubscriptAny (thn 3e0 fun ov s1 ⟨x1,H1,I1,r1,q1⟩=>?_) ha;refine thn 2e0 fun iv s2 ⟨x2,H2,I2,r2,q2⟩=>?_;refine thn (hg Xs s2 σ H2 x1 x2 ov iv _ I2 r1 r2 q2) fun old s3 ⟨x3,H3,I3,r3,q3⟩=>?_;refine thn (he Xs s3 σ H3 _ I3 q3) fun v s4 ⟨x4,H4,I4,r4,q4⟩=>?_;refine thn (hp Xs s4 σ H4 x3 x4 old v _ I4 r3 r4 q4) fun new s5 ⟨x5,H5,I5,r5,q5⟩=>?_;exact thn (hs Xs s5 σ H5 x1 x2 x5 ov iv new _ I5 r1 r2 r5 q5) fun _ s6 ⟨H6,I6,q6⟩=>⟨σ,H6,I6,q6⟩
def Xn(f:Int->Int->Int):TIp:=fun x y H Q=>∃ i j,x=.int i/\y=.int j/\Q (.int (f i j)) H
def Su:PIp X .Add (Xn fun i j=>i+j):=by
 intro Xs s σ H x y v u Q I r1 r2 h;obtain⟨i,j,e1,e2,q⟩:=h;subst e1;subst e2;obtain⟨t,rfl⟩:=r1;obtain⟨t',rfl⟩:=r2;exact iadd_int ⟨.int _,H,I.tok _,⟨_,rfl⟩,q⟩
end
end
section
noncomputable def Gn(c:TT)(tb:TS):TS:=fun D σ H=>∃ W:Nat->St->Hp->Prop,(∃ m,W m σ H)/\∀ m σ H,W m σ H ->
 c σ H fun b H1=>if b=true then ∃ N:St->Hp->Prop,(∀ σ' H',N σ' H'->∃ m',m' < m/\W m' σ' H')/\tb {D with nx:=N,ct:=N,bk:=D.nx} σ H1 else D.nx σ H1
def nW{tc:TT}(hp:PassesOwn (model X.prog X.w) X.A X.env X.xe)(hc:PT X c tc)(hb:YC X body tb):PS X (.While c body [] pos) (Gn tc tb):=by
 intro Xs s σ H D I h;obtain⟨W,⟨m0,w0⟩,turn⟩:=h;refine wpAny_While (codeAny_whileLoop (fun n s'=>∃ σ' H',Xv X Xs σ' H' s'/\W n σ' H') ?_ m0 ⟨σ,H,I,w0⟩);rintro n s1 ⟨σ1,H1,I1,w1⟩;refine Ε5 hp (thn (hc Xs s1 σ1 H1 _ I1 (turn n σ1 H1 w1)) fun b s2 ⟨H2,I2,q2⟩=>?_);cases b with
 | true =>
  obtain⟨N,hN,q2⟩:=q2;rw[if_pos rfl];refine Ε5 hp (thn (hb Xs s2 σ1 H2 _ I2 q2) fun f s3 q3=>?_);cases f with
  | next =>
   obtain⟨σ3,H3,I3,n3⟩:=q3;obtain⟨m',hm,w3⟩:=hN σ3 H3 n3;exact⟨m',hm,σ3,H3,I3,w3⟩
  | cont =>
   obtain⟨σ3,H3,I3,n3⟩:=q3;obtain⟨m',hm,w3⟩:=hN σ3 H3 n3;exact⟨m',hm,σ3,H3,I3,w3⟩
  | brk=>exact q3
  | ret v=>exact q3
 | false =>
  rw[if_neg Χ];exact wpAny_execs_nil ⟨σ1,H2,I2,q2⟩
end
mutual
example:=[(by simp),Addr×Obj,.ref it,I.ok.hd hc,model P w,(fun b o hb e=>eb b o hb e),(by decide),(fun b o hb e=>(sb.2 b hb).trans e),letOwnedTupleGo tg (.ref it) u,(by simpa using hu),(by rw[z];exact hb),model X.prog X.w,(by simp;omega)]
structure It where
 go:Nat->Hp->Prop
 Ze:Nat->Hp->V->Hp->Prop
 stop:Nat->Hp->Prop
def mT(X:Cx)(Xs:List 1e0)(H:Hp)(b:Addr):Prop :=
 H b=none/\b≠X.env.locals/\b∉X.fs/\(b∈X.ex\/X.s₀.heap.objs.size<=b)/\(∀ x c,X.env.cells.lookup x=some c->c≠b)/\∀ p∈X.pn++Xs,p.1≠b
def Xv.Ja{H':Hp}(I:Xv X Xs σ H s)(hb:s.heap.objs.size<=b)(hn:H' b=none):mT X Xs H' b:=by
 refine⟨hn,Nat.ne_of_gt (Φ I.lt hb),I.SJ hb,.inr (Ω I.sz hb),fun x c e z=>?_,fun p hp z=>?_⟩
 ·obtain⟨v,q⟩:=I.cell x c e;exact absurd (Φ q.lt 0e1) (Ϛ _)
 ·exact absurd (Φ (Λ (I.pin p hp).1) 0e1) (Ϛ _)
structure Turn(P:Program)(w:World)(K:q0B)(tg:Expr)(J:It)(fp:List Addr)(it:Addr)(tn:Nat->Heap->Prop):Prop where
 mem:it∈fp
 obj:∀ i h,tn i h->∀ b∈fp,∃ o,h.get? b=some o/\∀ v,o.data≠.cell v
 keep:∀ i h h',tn i h->(∀ b∈fp,∀ o,h.get? b=some o->h'.get? b=some o)->tn i h'
 item:∀(X:Cx),X.prog=P->X.w=w->X.K=K->X.calm=true->∀(i:Nat) (Xs:List 1e0) (s:Shared) (σ:St) (H:Hp) (E:q0A),Xv X Xs σ H s->(∀ b∈fp,mT X Xs H b)->tn i s.heap->J.go i H ->
  wpAny 4e0 X.A (pyNext 2e0) (fun r s1=>∃ u,r=some u /\
   wpAny 4e0 X.A 8e0 (fun _ s2=>∃ x H',Xv X Xs σ H' s2/\bP x u/\J.Ze i H x H'/\tn (i+1) s2.heap/\∀ b∈fp,H' b=none) E s1) E s
 done:∀(X:Cx),X.prog=P->X.w=w->X.K=K->X.calm=true->∀(i:Nat) (Xs:List 1e0) (s:Shared) (σ:St) (H:Hp) (E:q0A),Xv X Xs σ H s->(∀ b∈fp,mT X Xs H b)->tn i s.heap->J.stop i H ->
  wpAny 4e0 X.A (pyNext 2e0) (fun r s1=>r=none/\Xv X Xs σ H s1) E s
 self:∀(A:Around) (i:Nat) (s:Shared) (Q:q0A) (E:q0A),tn i s.heap->Q 2e0 s->wpAny 4e0 A (pyIter 2e0) Q E s
abbrev TI:=St->Hp->(It->Hp->Prop)->Prop
def PIE(X:Cx)(Xs:List 1e0)(σ:St)(tg:Expr)(R:It->Hp->Prop)(itv:Value)(s2:Shared):Prop :=
 ∃(it:Addr) (fp:List Addr) (tn:Nat->Heap->Prop) (J:It) (H':Hp),itv=.ref it/\Xv X Xs σ H' s2/\Turn X.prog X.w X.K tg J fp it tn/\tn 0 s2.heap/\(∀ b∈fp,mT X Xs H' b)/\R J H'
def PI(X:Cx)(tg iter:Expr)(wi:TI):Prop :=
 ∀(Xs:List 1e0) (s:Shared) (σ:St) (H:Hp) (R:It->Hp->Prop),Xv X Xs σ H s->wi σ H R ->
  wpAny 1e1 X.A (eval iter X.env) (fun v s1=>wpAny 1e1 X.A (pyIter v) (PIE X Xs σ tg R) X.xe s1) X.xe s
def Hg{it:Addr}{n:String}{vs:Array Value}(ho:s.heap.get? it=some o)(hc:o.cls=.type n)(hd:o.data=.fields vs)(hn:["enumerate","zip","dict_itemiterator","dict_reverseitemiterator","odict_iterator","itertools.zip_longest","itertools.pairwise"].contains n=false)(hQ:Q () s):wpAny M A 8e0 Q E s:=by
  unfold letOwnedTupleGo;cases tg<;>first
    | exact Θ hQ
    | (cases u<;>first
        | exact Θ hQ
        | (refine Β (wpAny_load ho ?_)
           rw[hc,hd];show wpAny M A (if (["enumerate","zip","dict_itemiterator","dict_reverseitemiterator","odict_iterator","itertools.zip_longest","itertools.pairwise"].contains n&&vs[0]?==some (rawInt _))=true then _ else _) Q E s;rw[if_neg (by intro h;rw[hn,Bool.false_and] at h;cases h)];exact Θ hQ))
def Zg(K:q0B)(a:Addr):It :=
 ⟨fun i H=>∃ xs x,gE K H a xs/\xs[i]?=some x,fun i H x H'=>H'=H/\∀ xs,gE K H a xs->xs[i]?=some x,fun i H=>∃ xs,gE K H a xs/\xs.length<=i⟩
def Itt(K:q0B)(a:Addr):It :=
 ⟨fun i H=>∃ xs x,jC K H a xs/\xs[i]?=some x,fun i H x H'=>H'=H/\∀ xs,jC K H a xs->xs[i]?=some x,fun i H=>∃ xs,jC K H a xs/\xs.length<=i⟩
def Zz(lo:Int)(n:Nat):It:=⟨fun i _=>i < n,fun i H x H'=>H'=H/\x=.int (lo+i),fun i _=>n<=i⟩
theorem JY(a it:Addr):Turn P w K tg (Zg K a) [it] it (fun i h=>h.IsListIter it a i) where
 mem:=by simp
 obj:=fun i h st b hb=>by
  have e:b=it:=by simpa using hb
  subst e;obtain⟨o,e,c,d⟩:=st;exact⟨o,e,fun v z=>by rw[d] at z;cases z⟩
 keep:=fun i h h' st k=>st.at fun o e=>k it 0e0 o e
 item:=by
  intro X hP hw hK hc i Xs s σ H E I hf st hg;subst hP hw hK;obtain⟨xs,x,hq,hx⟩:=hg;obtain⟨Xw,rv,p,hz⟩:=I.list hq;obtain⟨u,hu,ru⟩:=rv.get hx;obtain⟨f0,f1,f2,f3,f4,f5⟩:=hf it 0e0;refine wpAny_pyNext_list_item st p.isList (x:=u) 9e0 fun h' XT sb=>?_;have I1:Xv X Xs σ H {s with heap:=h'}:=I.turned (t':=s.toks) 7e0 f0 f1 f3 f4 f5;obtain⟨o,e,c,d⟩:=id XT;exact⟨u,rfl,Hg (s:={s with heap:=h'}) e c d 6e0 ⟨x,H,I1,ru,⟨rfl,fun ys hy=>by rw[I.L8 hy hq];exact hx⟩,XT,fun b hb=>(hf b hb).1⟩⟩
 done:=by
  intro X hP hw hK hc i Xs s σ H E I hf st hg;subst hP hw hK;obtain⟨xs,hq,hx⟩:=hg;obtain⟨Xw,rv,p,hz⟩:=I.list hq;obtain⟨f0,f1,f2,f3,f4,f5⟩:=hf it 0e0;have hl:=rv.length;exact wpAny_pyNext_list_end 3e0 st p.isList 2e1 fun h' eb=>⟨rfl,I.turned (t':=s.toks) 5e0 f0 f1 f3 f4 f5⟩
 self:=fun _ _ _ _ _ st h=>wpAny_pyIter_listiter st h
theorem Gr(a it:Addr):Turn P w K tg (Itt K a) [it] it (fun i h=>h.IsTupleIter it a i) where
 mem:=by simp
 obj:=fun i h st b hb=>by
  have e:b=it:=by simpa using hb
  subst e;obtain⟨o,e,c,d⟩:=st;exact⟨o,e,fun v z=>by rw[d] at z;cases z⟩
 keep:=fun i h h' st k=>st.at fun o e=>k it 0e0 o e
 item:=by
  intro X hP hw hK hc i Xs s σ H E I hf st hg;subst hP hw hK;obtain⟨xs,x,hq,hx⟩:=hg;obtain⟨Xw,rv,p,hz⟩:=I.tuple hq;obtain⟨u,hu,ru⟩:=rv.get hx;obtain⟨f0,f1,f2,f3,f4,f5⟩:=hf it 0e0;refine wpAny_pyNext_tuple_item st (show s.heap.IsTuple a Xw.toArray from p) (x:=u) 9e0 fun h' XT sb=>?_;have I1:Xv X Xs σ H {s with heap:=h'}:=I.turned (t':=s.toks) 7e0 f0 f1 f3 f4 f5;obtain⟨o,e,c,d⟩:=id XT;exact⟨u,rfl,Hg (s:={s with heap:=h'}) e c d 6e0 ⟨x,H,I1,ru,⟨rfl,fun ys hy=>by rw[I.JW hy hq];exact hx⟩,XT,fun b hb=>(hf b hb).1⟩⟩
 done:=by
  intro X hP hw hK hc i Xs s σ H E I hf st hg;subst hP hw hK;obtain⟨xs,hq,hx⟩:=hg;obtain⟨Xw,rv,p,hz⟩:=I.tuple hq;obtain⟨f0,f1,f2,f3,f4,f5⟩:=hf it 0e0;have hl:=rv.length;exact wpAny_pyNext_tuple_end 3e0 st (show s.heap.IsTuple a Xw.toArray from p) 2e1 fun h' eb=>⟨rfl,I.turned (t':=s.toks) 5e0 f0 f1 f3 f4 f5⟩
 self:=fun _ _ _ _ _ st h=>wpAny_pyIter_tupleiter st h
theorem Gq(it:Addr)(lo:Int)(n:Nat):Turn P w K tg (Zz lo n) [it] it (fun i h=>IsRangeIter h it (lo+(i:Nat) * 1) ((n:Int) - (i:Nat)) 1) where
 mem:=by simp
 obj:=fun i h st b hb=>by
  have e:b=it:=by simpa using hb
  subst e;exact⟨_,st,fun v z=>by
   have z':Data.fields _=Data.cell v:=z;cases z'⟩
 keep:=fun i h h' st k=>k it 0e0 _ st
 item:=by
  intro X hP hw hK hc i Xs s σ H E I hf st hg;subst hP hw hK;obtain⟨f0,f1,f2,f3,f4,f5⟩:=hf it 0e0;have W:=Walks.range (prog:=X.prog) (w:=X.w) 3e0 it lo 1 n;refine W.item i s _ _ hg st fun v h' tk hv XT kk=>?_;obtain⟨t,rfl⟩:=hv;have I1:Xv X Xs σ H {s with heap:=h',toks:=tk}:=I.turned (fun b o hb e=>kk b o (by simpa using hb) e) f0 f1 f3 f4 f5;refine⟨_,rfl,Hg (s:={s with heap:=h',toks:=tk}) (n:="range_iterator") XT rfl rfl 6e0 ⟨.int (lo+i),H,I1,⟨t,?_⟩,⟨rfl,rfl⟩,XT,fun b hb=>(hf b hb).1⟩⟩;rw[Int.mul_one]
 done:=by
  intro X hP hw hK hc i Xs s σ H E I hf st hg;subst hP hw hK;obtain⟨f0,f1,f2,f3,f4,f5⟩:=hf it 0e0;exact wpAny_pyNext_range_end 3e0 st (by have:n<=i:=hg;omega) fun h' eb=>⟨rfl,I.turned (t':=s.toks) 5e0 f0 f1 f3 f4 f5⟩
 self:=fun _ _ _ _ _ st h=>wpAny_pyIter_rangeiter st h
end
section
mutual
example:=[I1.Xz.fresh (Ι _),2 ^ 62,ϐ _ (ϐ _ (iO hb e)),hl Xs s σ H _ I h,model X.prog X.w,Addr×Obj]
def x9(K:q0B)(tl:TE):TI:=fun σ H R=>tl σ H fun x H1=>∃ a,x=.ref a/\(∃ xs,gE K H1 a xs)/\R (Zg K a) H1
def LV(K:q0B)(tl:TE):TI:=fun σ H R=>tl σ H fun x H1=>∃ a,x=.ref a/\(∃ xs,jC K H1 a xs)/\R (Itt K a) H1
def mC{l:Expr}{tl:TE}(hl:PE X l tl):PI X tg l (x9 X.K tl):=by
 intro Xs s σ H R I h;refine thn 3e0 fun v s1 ⟨x,H1,I1,r1,q1⟩=>?_;obtain⟨a,e,⟨xs,hq⟩,q⟩:=q1;subst e;cases r1;obtain⟨Xw,rv,p,hz⟩:=I1.list hq;refine wpAny_pyIter_list p.isList ?_;refine⟨s1.heap.objs.size,[s1.heap.objs.size],_,_,H1,rfl,I1.kept (t':=s1.toks) fun b o e=>Ε _ e,JY a _,⟨_,Τ _ rfl,rfl,rfl⟩,fun b hb=>?_,q⟩;have e:b=s1.heap.objs.size:=by simpa using hb
 subst e;exact I1.Ja (Ι _) 0e0
def MK{l:Expr}{tl:TE}(hl:PE X l tl):PI X tg l (LV X.K tl):=by
 intro Xs s σ H R I h;refine thn 3e0 fun v s1 ⟨x,H1,I1,r1,q1⟩=>?_;obtain⟨a,e,⟨xs,hq⟩,q⟩:=q1;subst e;cases r1;obtain⟨Xw,rv,p,hz⟩:=I1.tuple hq;refine wpAny_pyIter_tuple (show s1.heap.IsTuple a Xw.toArray from p) ?_;refine⟨s1.heap.objs.size,[s1.heap.objs.size],_,_,H1,rfl,I1.kept (t':=s1.toks) fun b o e=>Ε _ e,Gr a _,⟨_,Τ _ rfl,rfl,rfl⟩,fun b hb=>?_,q⟩;have e:b=s1.heap.objs.size:=by simpa using hb
 subst e;exact I1.Ja (Ι _) 0e0
theorem MN{R:It->Hp->Prop}{lo hi:Int}{t u v:Tok}{tk:Nat}(I:Xv X Xs σ H s)(h1:-1e0<=lo)(h2:lo < 2 ^ 62)(h3:-1e0<=hi)(h4:hi < 2 ^ 62)(q:R (Zz lo (hi - lo).toNat) H):wpAny 4e0 X.A (pyIter (.ref s.heap.objs.size)) (PIE X Xs σ tg R) E {s with heap:=s.heap.push {cls:=.type "range",data:=.fields #[.int lo t,.int hi u,.int 1 v]},toks:=tk}:=by
 refine wpAny_pyIter_range (IsRange.new ..) (small_one h1 h2 h3 h4) ?_;have I1:Xv X Xs σ H {s with heap:=s.heap.push {cls:=.type "range",data:=.fields #[.int lo t,.int hi u,.int 1 v]},toks:=tk}:=I.kept fun b o e=>Ε _ e;refine⟨(s.heap.push {cls:=.type "range",data:=.fields #[.int lo t,.int hi u,.int 1 v]}).objs.size,[(s.heap.push {cls:=.type "range",data:=.fields #[.int lo t,.int hi u,.int 1 v]}).objs.size],_,_,H,rfl,
  I1.kept (t':=tk) fun b o e=>Ε _ e,Gq _ lo (hi - lo).toNat,?_,fun b hb=>?_,q⟩
 ·have e1:lo+((0:Nat):Int) * 1=lo:=by simp
  have e2:(((hi - lo).toNat:Nat):Int) - ((0:Nat):Int)=Builtin.Range.rangeSize lo hi 1:=by rw[rangeSize_one];split<;>omega
  show IsRangeIter _ _ (lo+((0:Nat):Int) * 1) ((((hi - lo).toNat:Nat):Int) - ((0:Nat):Int)) 1;rw[e1,e2];exact Τ _ rfl
 ·have e:b=(s.heap.push {cls:=.type "range",data:=.fields #[.int lo t,.int hi u,.int 1 v]}).objs.size:=by simpa using hb
  subst e;exact I1.Ja (Ι _) 0e0
def Dl(ta:TA):TI:=fun σ H R=>ta σ H fun vs H1=>∃ j:Int,vs=[.int j]/\-1e0<=j/\j < 2 ^ 62/\R (Zz 0 j.toNat) H1
theorem lE{a:Expr}{ta:TA}{p:Pos}(hg:Gl X "range")(hm:X.mg "range"=none)(ha:PA X [a] ta)(hs:starEach [a] X.env=[(false,eval a X.env)]:=by rfl):PI X tg (.Call (.Name "range" p) [a] [] pos) (Dl ta):=by
 intro Xs s σ H R I h;refine Call_ (Fp I hg hm boot_range (PyProof.Rows.callWith_type1 (thn (ha pos Xs s σ H _ I h) fun us s1 ⟨vs,H1,I1,r1,q1⟩=>?_) hs rfl));obtain⟨j,e,q1,q2,q⟩:=q1;subst e;cases r1 with
 | cons r rr =>
  cases rr;obtain⟨t,rfl⟩:=r;exact call_range_1 (MN I1 (by omega) (by omega) q1 q2 (by simpa using q))
def Gk(wi:TI)(g:TG)(tb:TS):TS:=fun D σ H=>wi σ H fun J H1=>∃ W:Nat->Nat->St->Hp->Prop,(∃ m,W 0 m σ H1)/\∀ i m σ H,W i m σ H ->
 (J.stop i H/\D.nx σ H)\/(J.go i H/\∃ N:St->Hp->Prop,(∀ σ' H',N σ' H'->∃ m',m' < m/\W (i+1) m' σ' H')/\∀ x H',J.Ze i H x H'->g x σ H' fun σ2 H2=>tb {D with nx:=N,ct:=N,bk:=D.nx} σ2 H2)
def tY(fp:List Addr)(h:Heap):List 5e0:=fp.filterMap fun b=>(h.get? b).map fun o=>(b,o)
def iO(hb:b∈fp)(e:h.get? b=some o):(b,o)∈tY fp h:=List.mem_filterMap.mpr ⟨b,hb,by rw[e];rfl⟩
def Jv{p:Addr×Obj}(hp:p∈tY fp h):p.1∈fp/\h.get? p.1=some p.2:=by
 obtain⟨b,hb,e⟩:=List.mem_filterMap.mp hp;cases q:h.get? b with
 | none=>rw[q] at e;cases e
 | some o =>
  rw[q] at e;have e':(b,o)=p:=ϗ e;subst e';exact⟨hb,q⟩
def Xv.pinned(I:Xv X Xs σ H s)(hf:∀ b∈fp,mT X Xs H b)(ho:∀ b∈fp,∃ o,s.heap.get? b=some o/\∀ v,o.data≠.cell v):Xv X (Xs++tY fp s.heap) σ H s :=
 I.kI fun p hp=>(Κ.mp hp).elim (fun z=>I.pin p (ϐ _ z)) fun z=>by
  obtain⟨hb,e⟩:=Jv z;obtain⟨f0,f1,f2,_⟩:=hf p.1 hb;obtain⟨o,e',d⟩:=ho p.1 hb;rw[e] at e';cases e';exact⟨e,f0,f1,f2,d⟩
def Xv.Ai{pl:List 5e0}(I:Xv X (Xs++pl) σ H s):Xv X Xs σ H s:=I.kI fun p hp=>I.pin p (ϐ _ (List.mem_append_left _ hp))
def zF{iter:Expr}{wi:TI}(hp:PassesOwn 4e0 X.A X.env X.xe)(hc:X.calm=true)(hi:PI X tg iter wi)(hg:PG X tg g)(hb:YC X body tb)(hs:∀ x,foldedSetIterable iter X.env x=pure x:=by intro _;rfl):PS X (.For tg iter body [] pos) (Gk wi g tb):=by
 intro Xs s σ H D I h;refine wpAny_For (thn (hi Xs s σ H _ I h) fun v s1 h1=>thn h1 fun itv s2 h2=>?_) hs;obtain⟨it,fp,tn,J,H2,e,I2,T,Y2,f2,W,⟨m0,w0⟩,turn⟩:=h2;subst e;have Yi:∀ {H':Hp},(∀ b∈fp,H' b=none)->∀ b∈fp,mT X Xs H' b:=fun hn b hb=>⟨hn b hb,(f2 b hb).2⟩;refine codeAny_forLoop_any (fun n s'=>∃ i σ' H',Xv X Xs σ' H' s'/\tn i s'.heap/\(∀ b∈fp,H' b=none)/\W i n σ' H') ?_ m0 ⟨0,σ,H2,I2,Y2,fun b hb=>(f2 b hb).1,w0⟩;rintro n s3 ⟨i,σ3,H3,I3,st3,fr3,w3⟩;rcases turn i n σ3 H3 w3 with⟨stop,qn⟩|⟨go,N,hN,step⟩
 ·refine Ε5 hp (thn (T.done X rfl rfl rfl hc i Xs s3 σ3 H3 X.xe I3 (Yi fr3) st3 stop) fun r s4 ⟨hr,I4⟩=>?_);subst hr;exact wpAny_execs_nil ⟨σ3,H3,I4,qn⟩
 ·refine Ε5 hp (thn (T.item X rfl rfl rfl hc i Xs s3 σ3 H3 X.xe I3 (Yi fr3) st3 go) fun r s4 ⟨u,hr,h4⟩=>?_);subst hr;refine Ε5 hp (thn h4 fun _ s5 ⟨x,H5,I5,r5,y5,st5,fr5⟩=>?_);have I5':=I5.pinned (Yi fr5) (T.obj _ _ st5);refine Ε5 hp (thn (hg _ s5 σ3 H5 x u _ I5' r5 (step x H5 y5)) fun _ s6 ⟨σ6,H6,I6,q6⟩=>?_);refine Ε5 hp (thn (hb _ s6 σ6 H6 _ I6 q6) fun f s7 q7=>?_);have again:∀ {σ7:St} {H7:Hp},Xv X (Xs++tY fp s5.heap) σ7 H7 s7->N σ7 H7->∃ m,m < n/\∃ i σ' H',Xv X Xs σ' H' s7/\tn i s7.heap/\(∀ b∈fp,H' b=none)/\W i m σ' H':=fun {σ7 H7} I7 n7=>by
   obtain⟨m',hm,w7⟩:=hN σ7 H7 n7;refine⟨m',hm,i+1,σ7,H7,I7.Ai,T.keep _ _ _ st5 fun b hb o e=>(I7.pin (b,o) 2e0).1,fun b hb=>?_,w7⟩;obtain⟨o,e,d⟩:=T.obj _ _ st5 b hb;exact(I7.pin (b,o) 2e0).2.1
  cases f with
  | next=>obtain⟨σ7,H7,I7,n7⟩:=q7;exact again I7 n7
  | cont=>obtain⟨σ7,H7,I7,n7⟩:=q7;exact again I7 n7
  | brk=>obtain⟨σ7,H7,I7,q7⟩:=q7;exact⟨σ7,H7,I7.Ai,q7⟩
  | ret v=>obtain⟨x7,σ7,H7,I7,r7,q7⟩:=q7;exact⟨x7,σ7,H7,I7.Ai,r7,q7⟩
end
end
theorem LI(Pv:Nat->St->Hp->Prop)(h0:Pv 0 σ H)(hl:∀ i σ H,i<=xs.length->Pv i σ H->gE K H a xs)(hs:∀ i x σ H,xs[i]?=some x->Pv i σ H->g x σ H fun σ2 H2=>tb {D with nx:=Pv (i+1),ct:=Pv (i+1),bk:=D.nx} σ2 H2)(hd:∀ σ H,Pv xs.length σ H->D.nx σ H) : ∃ W:Nat->Nat->St->Hp->Prop,(∃ m,W 0 m σ H)/\∀ i m σ H,W i m σ H -> ((Zg K a).stop i H/\D.nx σ H)\/((Zg K a).go i H/\∃ N:St->Hp->Prop,(∀ σ' H',N σ' H'->∃ m',m' < m/\W (i+1) m' σ' H')/\∀ x H',(Zg K a).Ze i H x H'->g x σ H' fun σ2 H2=>tb {D with nx:=N,ct:=N,bk:=D.nx} σ2 H2):=by
 refine⟨fun i m σ H=>m=xs.length - i/\i<=xs.length/\Pv i σ H,⟨xs.length,by simp,Α4 _,h0⟩,?_⟩;rintro i m σ H ⟨rfl,hi,p⟩;have q:=hl i σ H hi p;by_cases XW:i < xs.length
 ·refine .inr ⟨⟨xs,xs[i],q,by simp[XW]⟩,Pv (i+1),fun σ' H' p'=>⟨xs.length - (i+1),by omega,rfl,XW,p'⟩,fun x H' y=>?_⟩;obtain⟨e,y⟩:=y;subst e;exact hs i x σ _ (y xs q) p
 ·have e:i=xs.length:=by omega
  subst e;exact .inl ⟨⟨xs,q,Ι _⟩,hd σ H p⟩
theorem oS{lo:Int}(Pv:Nat->St->Hp->Prop)(h0:Pv 0 σ H)(hs:∀ i σ H,i < n->Pv i σ H->g (.int (lo+i)) σ H fun σ2 H2=>tb {D with nx:=Pv (i+1),ct:=Pv (i+1),bk:=D.nx} σ2 H2)(hd:∀ σ H,Pv n σ H->D.nx σ H) : ∃ W:Nat->Nat->St->Hp->Prop,(∃ m,W 0 m σ H)/\∀ i m σ H,W i m σ H -> ((Zz lo n).stop i H/\D.nx σ H)\/((Zz lo n).go i H/\∃ N:St->Hp->Prop,(∀ σ' H',N σ' H'->∃ m',m' < m/\W (i+1) m' σ' H')/\∀ x H',(Zz lo n).Ze i H x H'->g x σ H' fun σ2 H2=>tb {D with nx:=N,ct:=N,bk:=D.nx} σ2 H2):=by
 refine⟨fun i m σ H=>m=n - i/\i<=n/\Pv i σ H,⟨n,by simp,Α4 _,h0⟩,?_⟩;rintro i m σ H ⟨rfl,hi,p⟩;by_cases XW:i < n
 ·refine .inr ⟨XW,Pv (i+1),fun σ' H' p'=>⟨n - (i+1),by omega,rfl,XW,p'⟩,fun x H' y=>?_⟩;obtain⟨e,y⟩:=y;subst e y;exact hs i σ _ XW p
 ·have e:i=n:=by omega
  subst e;exact .inl ⟨Ι _,hd σ H p⟩
abbrev R2:=V->V->Hp->VK->Prop
variable{r:R2}
mutual
example:=[model X.prog X.w,Addr×Obj,EP X Xs σ Q]
def j7(X:Cx)(f:Value->Value->Sem Value)(r:R2):Prop :=
 ∀(Xs:List 1e0) (s:Shared) (σ:St) (H:Hp) (x y:V) (v u:Value) (Q:VK),Xv X Xs σ H s->bP x v->bP y u->r x y H Q ->
  wpAny 0e0 X.A (f v u) 2e0 X.xe s
def Wg(X:Cx)(f:Value->Sem Value)(r:V->Hp->VK->Prop):Prop :=
 ∀(Xs:List 1e0) (s:Shared) (σ:St) (H:Hp) (x:V) (v:Value) (Q:VK),Xv X Xs σ H s->bP x v->r x H Q ->
  wpAny 0e0 X.A (f v) 2e0 X.xe s
def hJ(X:Cx)(f:Value)(r:List V->Hp->VK->Prop):Prop :=
 ∀(Xs:List 1e0) (s:Shared) (σ:St) (H:Hp) (xs:List V) (us:List Value) (Q:VK),Xv X Xs σ H s->Xx xs us->r xs H Q ->
  wpAny 0e0 X.A (call f us) 2e0 X.xe s
def Wf(X:Cx)(r:V->Hp->(Bool->Hp->Prop)->Prop):Prop :=
 ∀(Xs:List 1e0) (s:Shared) (σ:St) (H:Hp) (x:V) (v:Value) (Q:Bool->Hp->Prop),Xv X Xs σ H s->bP x v->r x H Q ->
  wpAny 0e0 X.A (truthy v) (TP X Xs σ Q) X.xe s
def Qb(r:R2)(ta tb:TE):TE:=fun σ H Q=>ta σ H fun x H1=>tb σ H1 fun y H2=>r x y H2 Q
def Xj(r:V->Hp->VK->Prop)(ta:TE):TE:=fun σ H Q=>ta σ H fun x H1=>r x H1 Q
def rI(C:Int->Int->Prop)(g:Int->Int->V):R2:=fun x y H Q=>∃ i j,x=.int i/\y=.int j/\C i j/\Q (g i j) H
def PN(g:Int->Int->V):R2:=fun x y H Q=>∃ i j,x=.int i/\y=.int j/\Q (g i j) H
def rU(g:Int->V):V->Hp->VK->Prop:=fun x H Q=>∃ i,x=.int i/\Q (g i) H
end
section
variable{a b:Expr}{ta tb tc:TE}
mutual
example:=[g i j,model X.prog X.w,f (.int i t) (.int j u),intBits_le_64 h1 h2,ha Xs s σ H _ I h]
def QY(ha:PE X a ta)(hb:PE X b tb){R:V->V->Hp->Prop}(I:Xv X Xs σ H s)(h:ta σ H fun x H1=>tb σ H1 fun y H2=>R x y H2){Q:q0A}(hf:∀ v u s2 x y H2,Xv X Xs σ H2 s2->bP x v->bP y u->R x y H2->wpAny 1e0 X.A (f v u) Q X.xe s2) : wpAny 1e0 X.A (eval a X.env) (fun v s₁=>wpAny 1e0 X.A (eval b X.env) (fun u s₂=>wpAny 1e0 X.A (f v u) Q X.xe s₂) X.xe s₁) X.xe s:=by
 refine thn 4e0 fun v s1 ⟨x,H1,I1,r1,q1⟩=>?_;refine thn (hb Xs s1 σ H1 _ I1 q1) fun u s2 ⟨y,H2,I2,r2,q2⟩=>?_;exact hf v u s2 x y H2 I2 r1 r2 q2
def bD{op:Operator}(ho:j7 X (binaryOp op) r)(ha:PE X a ta)(hb:PE X b tb):PE X (.BinOp a op b pos) (Qb r ta tb):=by
 intro Xs s σ H Q I h;exact wpAny_BinOp (QY ha hb I h fun v u s2 x y H2 I2 rx ry q=>ho Xs s2 σ H2 x y v u Q I2 rx ry q)
def fX{op:UnaryOp}{r:V->Hp->VK->Prop}(ho:Wg X (unaryOp op) r)(ha:PE X a ta):PE X (.UnaryOp op a pos) (Xj r ta):=by
 intro Xs s σ H Q I h;exact UnaryOp_ (thn 4e0 fun v s1 ⟨x,H1,I1,r1,q1⟩=>ho Xs s1 σ H1 x v Q I1 r1 q1)
def V8{C:Int->Int->Prop}{g:Int->Int->Int}(rule:∀(i j:Int) (t u:Tok) (s:Shared) (Q:q0A) (E:q0A),C i j->Q (.int 0e0 s.toks) {s with toks:=s.toks+1}->wpAny 1e0 X.A 2e0 Q E s) : j7 X f (rI C fun i j=>.int 0e0):=by
 intro Xs s σ H x y v u Q I rx ry h;obtain⟨i,j,rfl,rfl,hc,q⟩:=h;obtain⟨t,rfl⟩:=rx;obtain⟨t',rfl⟩:=ry;exact rule i j t t' s _ _ hc ⟨.int 0e0,H,I.tok _,⟨_,rfl⟩,q⟩
def Vk{g:Int->Int->Int}(rule:∀(i j:Int) (t u:Tok) (s:Shared) (Q:q0A) (E:q0A),Q (.int 0e0 s.toks) {s with toks:=s.toks+1}->wpAny 1e0 X.A 2e0 Q E s) : j7 X f (PN fun i j=>.int 0e0):=by
 intro Xs s σ H x y v u Q I rx ry h;obtain⟨i,j,rfl,rfl,q⟩:=h;obtain⟨t,rfl⟩:=rx;obtain⟨t',rfl⟩:=ry;exact rule i j t t' s _ _ ⟨.int 0e0,H,I.tok _,⟨_,rfl⟩,q⟩
def SO{g:Int->Int->Bool}(rule:∀(i j:Int) (t u:Tok) (s:Shared) (Q:q0A) (E:q0A),Q (.bool 0e0) s->wpAny 1e0 X.A 2e0 Q E s) : j7 X f (PN fun i j=>.bl 0e0):=by
 intro Xs s σ H x y v u Q I rx ry h;obtain⟨i,j,rfl,rfl,q⟩:=h;obtain⟨t,rfl⟩:=rx;obtain⟨t',rfl⟩:=ry;exact rule i j t t' s _ _ ⟨.bl 0e0,H,I,rfl,q⟩
def CPow(i j:Int):Prop:=0<=j/\j<=1000000/\i.natAbs < 2 ^ 64
def CMul(i j:Int):Prop:=(-(2 ^ 64) < i/\i < 2 ^ 64)\/(-(2 ^ 64) < j/\j < 2 ^ 64)
def CMul.ok{i j:Int}(h:CMul i j):IntMulOk i j:=by
 rcases h with⟨h1,h2⟩|⟨h1,h2⟩
 ·exact .of_left 3e0
 ·exact .of_right 3e0
def SQ:j7 X (binaryOp .Add) (PN fun i j=>.int (i+j)):=Vk fun _ _ _ _ _ _ _ q=>add_int q
def iR:j7 X (binaryOp .Sub) (PN fun i j=>.int (i - j)):=Vk fun _ _ _ _ _ _ _ q=>sub_int q
def l9:j7 X (binaryOp .Mult) (rI CMul fun i j=>.int (i * j)):=V8 fun _ _ _ _ _ _ _ hc q=>mul_int q hc.ok
theorem zB:j7 X (binaryOp .Mod) (rI (fun _ j=>0 < j) fun i j=>.int (i % j)):=V8 fun i j _ _ _ _ _ hc q=>by
 have h1:(0:Int) < j:=hc;exact mod_int' (by omega) (by rw[Int.fmod_eq_emod_of_nonneg i (by omega)];exact q)
def jA:j7 X (binaryOp .Pow) (rI CPow fun i j=>.int (i ^ j.toNat)):=V8 fun _ _ _ _ _ _ _ hc q=>pow_int_small hc.1 hc.2.1 hc.2.2 q
def Xq{f:Value->Sem Value}{g:Int->Int}(rule:∀(i:Int) (t:Tok) (s:Shared) (Q:q0A) (E:q0A),Q (.int (g i) s.toks) {s with toks:=s.toks+1}->wpAny 1e0 X.A (f (.int i t)) Q E s) : Wg X f (rU fun i=>.int (g i)):=by
 intro Xs s σ H x v Q I rx h;obtain⟨i,rfl,q⟩:=h;obtain⟨t,rfl⟩:=rx;exact rule i t s _ _ ⟨.int (g i),H,I.tok _,⟨_,rfl⟩,q⟩
def dW:Wg X (unaryOp .USub) (rU fun i=>.int (-i)):=Xq fun _ _ _ _ _ q=>neg_int q
end
end
mutual
example:=[]
def Yp:V->V->Bool
 | .Xu,.Xu=>true | .Xu,.int _=>true | .int _,.Xu=>true | .Xu,.bl _=>true | .bl _,.Xu=>true | .Xu,.str _=>true | .str _,.Xu=>true
 | .int _,.int _=>true | .bl _,.bl _=>true | .str _,.str _=>true | .byt _,.byt _=>true
 | .int _,.str _=>true | .str _,.int _=>true | .bl _,.str _=>true | .str _,.bl _=>true
 | _,_=>false
def NG:R2:=fun x y H Q=>Yp x y=true/\Q (.bl (decide (x=y))) H
def Vu:R2:=fun x y H Q=>Yp x y=true/\Q (.bl (!decide (x=y))) H
theorem GR{i j:Int}:decide (V.int i=V.int j)=(i==j):=by
 rw[Ε3];simp
theorem Lf{i j:Bool}:decide (V.bl i=V.bl j)=(i==j):=by
 rw[Ε3];simp
theorem GS{i j:Str}:decide (V.str i=V.str j)=(i==j):=by
 rw[Ε3];simp
theorem GQ{i j:Array UInt8}:decide (V.byt i=V.byt j)=(i.toList==j.toList):=by
 rw[Ε3];cases i;cases j;simp
end
section
variable{a b:Expr}{ta tb tc:TE}
mutual
example:=[(cF I q (by simp)),(by omega),(by simp only[Ζ];omega),.Compare a [op] [b] pos,(if k then 1 else 0),(y.length:Int) !=0,(y.size:Int) !=0,compareOp op,Qb r ta tb,I.ok.hd hc,cF I q ?_]
def cF{Q:VK}{k k':Bool}(I:Xv X Xs σ H s)(q:Q (.bl k) H)(e:k=k'):EP X Xs σ Q (.bool k') s:=by
 subst e;exact⟨.bl k,H,I,rfl,q⟩
def aZ:j7 X (compareOp .Eq) NG:=by
 intro Xs s σ H x y v u Q I rx ry h;obtain⟨hs,q⟩:=h;cases x with
 | Xu =>
  cases rx;cases y with
  | Xu=>cases ry;exact PySem.EqNone.eq_none_none 0e0
  | bl j=>cases ry;exact PySem.EqNone.eq_none_bool 0e0
  | int j=>obtain⟨t',rfl⟩:=ry;exact PySem.EqNone.eq_none_int 0e0
  | str j=>obtain⟨t',rfl⟩:=ry;exact PySem.EqNone.eq_none_str 0e0
  | _=>exact absurd (show false=true from hs) Χ
 | bl i =>
  cases rx;cases y with
  | Xu=>cases ry;exact PySem.EqNone.eq_bool_none 0e0
  | bl j=>cases ry;exact eq_bool (cF I q Lf)
  | str j=>obtain⟨t',rfl⟩:=ry;exact PySem.EqMixed.eq_bool_str 0e0
  | _=>exact absurd (show false=true from hs) Χ
 | int i =>
  obtain⟨t,rfl⟩:=rx;cases y with
  | Xu=>cases ry;exact PySem.EqNone.eq_int_none 0e0
  | int j=>obtain⟨t',rfl⟩:=ry;exact eq_int (cF I q GR)
  | str j=>obtain⟨t',rfl⟩:=ry;exact PySem.EqMixed.eq_int_str 0e0
  | _=>exact absurd (show false=true from hs) Χ
 | str i =>
  obtain⟨t,rfl⟩:=rx;cases y with
  | Xu=>cases ry;exact PySem.EqNone.eq_str_none 0e0
  | bl j=>cases ry;exact PySem.EqMixed.eq_str_bool 0e0
  | int j=>obtain⟨t',rfl⟩:=ry;exact PySem.EqMixed.eq_str_int 0e0
  | str j=>obtain⟨t',rfl⟩:=ry;exact eq_str (cF I q GS)
  | _=>exact absurd (show false=true from hs) Χ
 | byt i =>
  obtain⟨t,rfl⟩:=rx;cases y with
  | byt j=>obtain⟨t',rfl⟩:=ry;exact PySem.W.eq_bytes (cF I q GQ)
  | _=>exact absurd (show false=true from hs) Χ
 | _=>cases y<;>exact absurd (show false=true from hs) Χ
def My:j7 X (compareOp .NotEq) Vu:=by
 intro Xs s σ H x y v u Q I rx ry h;obtain⟨hs,q⟩:=h;cases x with
 | Xu =>
  cases rx;cases y with
  | Xu=>cases ry;exact PySem.EqNone.ne_none_none 0e0
  | bl j=>cases ry;exact PySem.EqNone.ne_none_bool 0e0
  | int j=>obtain⟨t',rfl⟩:=ry;exact PySem.EqNone.ne_none_int 0e0
  | str j=>obtain⟨t',rfl⟩:=ry;exact PySem.EqNone.ne_none_str 0e0
  | _=>exact absurd (show false=true from hs) Χ
 | bl i =>
  cases rx;cases y with
  | Xu=>cases ry;exact PySem.EqNone.ne_bool_none 0e0
  | bl j=>cases ry;exact ne_bool (cF I q (congrArg not Lf))
  | str j=>obtain⟨t',rfl⟩:=ry;exact PySem.EqMixed.ne_bool_str 0e0
  | _=>exact absurd (show false=true from hs) Χ
 | int i =>
  obtain⟨t,rfl⟩:=rx;cases y with
  | Xu=>cases ry;exact PySem.EqNone.ne_int_none 0e0
  | int j=>obtain⟨t',rfl⟩:=ry;exact ne_int (cF I q (congrArg not GR))
  | str j=>obtain⟨t',rfl⟩:=ry;exact PySem.EqMixed.ne_int_str 0e0
  | _=>exact absurd (show false=true from hs) Χ
 | str i =>
  obtain⟨t,rfl⟩:=rx;cases y with
  | Xu=>cases ry;exact PySem.EqNone.ne_str_none 0e0
  | bl j=>cases ry;exact PySem.EqMixed.ne_str_bool 0e0
  | int j=>obtain⟨t',rfl⟩:=ry;exact PySem.EqMixed.ne_str_int 0e0
  | str j=>obtain⟨t',rfl⟩:=ry;exact ne_str (cF I q (congrArg not GS))
  | _=>exact absurd (show false=true from hs) Χ
 | byt i =>
  obtain⟨t,rfl⟩:=rx;cases y with
  | byt j=>obtain⟨t',rfl⟩:=ry;exact PySem.W.ne_bytes (cF I q (congrArg not GQ))
  | _=>exact absurd (show false=true from hs) Χ
 | _=>cases y<;>exact absurd (show false=true from hs) Χ
theorem kH:j7 X (compareOp .Lt) (PN fun i j=>.bl (decide (i < j))):=SO fun _ _ _ _ _ _ _ q=>lt_int q
theorem Hx:j7 X (compareOp .Gt) (PN fun i j=>.bl (decide (j < i))):=SO fun _ _ _ _ _ _ _ q=>gt_int q
theorem Vl:j7 X (compareOp .GtE) (PN fun i j=>.bl (decide (j<=i))):=SO fun _ _ _ _ _ _ _ q=>ge_int q
theorem SU:j7 X (compareOp .Is) (fun x y H Q=>y=.Xu/\Q (.bl (decide (x=.Xu))) H):=by
 intro Xs s σ H x y v u Q I rx ry h;obtain⟨rfl,q⟩:=h;cases ry;refine is_none_gen 0e1;cases x<;>first
  | (cases rx;rfl)
  | (obtain⟨t,rfl⟩:=rx;rfl)
theorem Po:j7 X (compareOp .IsNot) (fun x y H Q=>y=.Xu/\Q (.bl (!decide (x=.Xu))) H):=by
 intro Xs s σ H x y v u Q I rx ry h;obtain⟨rfl,q⟩:=h;cases ry;refine isnot_none_gen 0e1;cases x<;>first
  | (cases rx;rfl)
  | (obtain⟨t,rfl⟩:=rx;rfl)
def j7.or{r':R2}(h:j7 X f r)(h':j7 X f r'):j7 X f (fun x y H Q=>r x y H Q\/r' x y H Q):=by
 intro Xs s σ H x y v u Q I rx ry q;rcases q with q|q
 ·exact h Xs s σ H x y v u Q I rx ry q
 ·exact h' Xs s σ H x y v u Q I rx ry q
theorem nomark(b:Expr)(h:op≠.In:=by decide)(h2:op≠.NotIn:=by decide):behindInMarks op b=false:=by
 have e1:(op==CmpOp.In)=false:=by cases op<;>first|rfl|exact absurd rfl h
 have e2:(op==CmpOp.NotIn)=false:=by cases op<;>first|rfl|exact absurd rfl h2
 cases b<;>simp[behindInMarks,e1,e2]
def Pq(ho:j7 X 7e0 r)(ha:PE X a ta)(hb:PE X b tb)(hm:behindInMarks op b=false):PE X 3e0 8e0:=by
 intro Xs s σ H Q I h;exact wpAny_Compare1 (QY ha hb I h fun v u s2 x y H2 I2 rx ry q=>ho Xs s2 σ H2 x y v u Q I2 rx ry q) hm
def Ex(t:TE):TT:=fun σ H Q=>t σ H fun x H'=>∃ k,x=.bl k/\Q k H'
def dZ(ho:j7 X 7e0 r)(ha:PE X a ta)(hb:PE X b tb)(hm:behindInMarks op b=false):PT X 3e0 (Ex 8e0):=by
 intro Xs s σ H Q I h;refine wpAny_isTrue_Compare1 (thn (ha Xs s σ H _ I h) fun v s1 ⟨x,H1,I1,r1,q1⟩=>thn (hb Xs s1 σ H1 _ I1 q1) fun u s2 ⟨y,H2,I2,r2,q2⟩ =>
  thn (ho Xs s2 σ H2 x y v u _ I2 r1 r2 q2) fun c s3 ⟨z,H3,I3,r3,k,e,q3⟩=>?_) hm
 subst e;cases r3;exact Δ9 ⟨H3,I3,q3⟩
def Ts(K:q0B)(x:V)(H:Hp)(k:Bool):Prop :=
 match x with
 | .Xu=>k=false
 | .bl b=>k=b
 | .int i=>k=(i !=0)
 | .str y=>y.length<=sizeLine/\k=5e0
 | .byt y=>y.size<=sizeLine/\k=6e0
 | .ref p=>(∃ xs,gE K H p xs/\k = !xs.isEmpty)\/(∃ xs,jC K H p xs/\k = !xs.isEmpty)\/∃ kvs,H p=some (.dK kvs)/\k = !kvs.isEmpty
 | _=>False
def Fo{κ:Type}{kvs:List (κ×V)}{vs:List (κ×Value)}(r:KV kvs vs):(!vs.isEmpty) = !kvs.isEmpty:=by
 cases r<;>rfl
def yC{Xw:List Value}(r:Xx xs Xw):(!Xw.toArray.isEmpty) = !xs.isEmpty:=by
 cases r<;>simp
theorem line63:(sizeLine:Nat) < 2 ^ 63:=by rw[Ε1];decide
theorem Gp:Wf X (fun x H Q=>∃ k,Ts X.K x H k/\Q k H):=by
 intro Xs s σ H x v Q I rx h;obtain⟨k,e,q⟩:=h;have hl:=line63;have hs:sizeLine=16777216:=Ε1;cases x with
 | Xu =>
  cases rx;have e':k=false:=e;subst e';exact truthy_none ⟨H,I,q⟩
 | bl b =>
  cases rx;have e':k=b:=e;subst e';exact Δ9 ⟨H,I,q⟩
 | int i =>
  obtain⟨t,rfl⟩:=rx;have e':k=(i !=0):=e;subst e';exact PySem.P.truthy_int ⟨H,I,q⟩
 | str y =>
  obtain⟨t,rfl⟩:=rx;obtain⟨hy,e'⟩:y.length<=sizeLine/\k=5e0:=e;subst e';exact PySem.P.truthy_str 1e0 ⟨H,I.tok _,q⟩
 | byt y =>
  obtain⟨t,rfl⟩:=rx;obtain⟨hy,e'⟩:y.size<=sizeLine/\k=6e0:=e;subst e';exact PySem.W.truthy_bytes 1e0 ⟨H,I.tok _,q⟩
 | ref p =>
  cases rx;have e':(∃ xs,gE X.K H p xs/\k = !xs.isEmpty)\/(∃ xs,jC X.K H p xs/\k = !xs.isEmpty)\/∃ kvs,H p=some (.dK kvs)/\k = !kvs.isEmpty:=e;rcases e' with⟨xs,hx,e'⟩|⟨xs,hx,e'⟩|⟨kvs,hx,e'⟩
  ·subst e';obtain⟨Xw,r,pl,hz⟩:=I.list hx;have hlen:=r.length;exact wpAny_truthy_list pl.isList 2e0 ⟨H,I.tok _,by rw[yC r];exact q⟩
  ·subst e';obtain⟨Xw,r,pl,hz⟩:=I.tuple hx;have hlen:=r.length;exact truthy_tuple pl 2e0 ⟨H,I.tok _,by rw[yC r];exact q⟩
  ·subst e';obtain⟨hz,hS,vs,r,m⟩:kvs.length<=sizeLine/\(p==sysModules)=false/\∃ vs,KV kvs vs/\s.heap.DictOf (bJ X.prog X.w) p vs:=I.Xz p _ hx;have hlen:kvs.length=vs.length:=Paired.length r;exact wpAny_truthy_dict hS m 1e0 ⟨H,I.tok _,by rw[Fo r];exact q⟩
 | _=>exact(show False from e).elim
def FQ:j7 X (binaryOp .Add) (fun x y H Q=>∃ i j,x=.str i/\y=.str j/\i.length+j.length<=sizeLine/\Q (.str (i++j)) H):=by
 intro Xs s σ H x y v u Q I rx ry h;obtain⟨i,j,rfl,rfl,hz,q⟩:=h;obtain⟨t,rfl⟩:=rx;obtain⟨t',rfl⟩:=ry;exact add_str (fun t' tk=>⟨.str (i++j),H,I.tok _,⟨_,rfl⟩,q⟩) hz
def vals1{x:V}(r:Xx [x] us):∃ u,us=[u]/\bP x u:=by
 cases r with
 | cons r1 r2=>cases r2;exact⟨_,rfl,r1⟩
def vals2{x y:V}(r:Xx [x,y] us):∃ u w',us=[u,w']/\bP x u/\bP y w':=by
 cases r with
 | cons r1 r2 =>
  cases r2 with
  | cons r3 r4=>cases r4;exact⟨_,_,rfl,r1,r3⟩
def IB(hc:X.calm=true):hJ X (.builtin "max") (fun xs H Q=>∃ i j,xs=[.int i,.int j]/\Q (.int (if j > i then j else i)) H):=by
 intro Xs s σ H xs us Q I r h;obtain⟨i,j,rfl,q⟩:=h;obtain⟨u,w',rfl,⟨t,rfl⟩,⟨t',rfl⟩⟩:=vals2 r;refine max_two_ints 9e0 fun h' tk k=>⟨_,H,I.kept k,?_,q⟩;by_cases hj:j > i
 ·rw[if_pos hj,if_pos hj];exact⟨_,rfl⟩
 ·rw[if_neg hj,if_neg hj];exact⟨_,rfl⟩
def IC(hc:X.calm=true):hJ X (.builtin "min") (fun xs H Q=>∃ i j,xs=[.int i,.int j]/\Q (.int (if j < i then j else i)) H):=by
 intro Xs s σ H xs us Q I r h;obtain⟨i,j,rfl,q⟩:=h;obtain⟨u,w',rfl,⟨t,rfl⟩,⟨t',rfl⟩⟩:=vals2 r;refine min_two_ints 9e0 fun h' tk k=>⟨_,H,I.kept k,?_,q⟩;by_cases hj:j < i
 ·rw[if_pos hj,if_pos hj];exact⟨_,rfl⟩
 ·rw[if_neg hj,if_neg hj];exact⟨_,rfl⟩
def IA:hJ X (.type "int") (fun xs H Q=>(∃ i,xs=[.int i]/\Q (.int i) H)\/∃ k,xs=[.bl k]/\Q (.int 4e0) H):=by
 intro Xs s σ H xs us Q I r h;rcases h with⟨i,rfl,q⟩|⟨k,rfl,q⟩
 ·obtain⟨u,rfl,t,rfl⟩:=vals1 r;exact call_int_int ⟨.int i,H,I,⟨_,rfl⟩,q⟩
 ·obtain⟨u,rfl,r1⟩:=vals1 r;cases r1;exact call_int_bool ⟨.int 4e0,H,I.tok _,⟨_,rfl⟩,q⟩
def Wd(K:q0B)(x:V)(H:Hp)(n:Nat):Prop :=
 match x with
 | .str y=>y.length<=sizeLine/\n=y.length
 | .byt y=>y.size<=sizeLine/\n=y.size
 | .ref p=>(∃ xs,gE K H p xs/\n=xs.length)\/∃ xs,jC K H p xs/\n=xs.length
 | _=>False
theorem wR:hJ X (.builtin "len") (fun xs H Q=>∃ x n,xs=[x]/\Wd X.K x H n/\Q (.int n) H):=by
 intro Xs s σ H xs us Q I r h;obtain⟨x,n,rfl,e,q⟩:=h;obtain⟨u,rfl,rx⟩:=vals1 r;have hl:=line63;have hs:sizeLine=16777216:=Ε1;cases x with
 | str y =>
  obtain⟨t,rfl⟩:=rx;obtain⟨hy,e'⟩:y.length<=sizeLine/\n=y.length:=e;subst e';exact len_str 1e0 ⟨.int _,H,I.tok _,⟨_,rfl⟩,q⟩
 | byt y =>
  obtain⟨t,rfl⟩:=rx;obtain⟨hy,e'⟩:y.size<=sizeLine/\n=y.size:=e;subst e';exact PySem.W.len_bytes 1e0 ⟨.int _,H,I.tok _,⟨_,rfl⟩,q⟩
 | ref p =>
  cases rx;have e':(∃ xs,gE X.K H p xs/\n=xs.length)\/∃ xs,jC X.K H p xs/\n=xs.length:=e;rcases e' with⟨xs,hx,e'⟩|⟨xs,hx,e'⟩
  ·subst e';obtain⟨Xw,r',pl,hz⟩:=I.list hx;have hlen:=r'.length;exact Calls.call_len_list pl.isList 2e0 ⟨.int xs.length,H,I.tok _,⟨_,by simp only[Ζ];rw[hlen]⟩,q⟩
  ·subst e';obtain⟨Xw,r',pl,hz⟩:=I.tuple hx;have hlen:=r'.length;exact len_tuple pl 2e0 ⟨.int xs.length,H,I.tok _,⟨_,by simp only[Ζ];rw[hlen]⟩,q⟩
 | _=>exact(show False from e).elim
end
end
structure EE(h:Heap)(x dx C:Addr)(mA:q0C):Prop where
 obj:h.get? x=some (PySem.W.instObj C dx)
 ns:h.Ns1 dx mA
 ne:dx≠x
def Jn{dx:Addr}{mA:q0C}(n:h.Ns1 dx mA):∃ od,h.get? dx=some od/\∀ name,PySem.W.lookIn name od=some (mA name):=by
 obtain⟨o,es,ep,ho,hd,hk,_,hm⟩:=n;refine⟨o,ho,fun name=>?_⟩;have e:=hm name;unfold nsFind findBy at e;rw[<- Array.find?_toList] at e;unfold PySem.W.lookIn;rw[hd];dsimp only;split
 ·rename_i y q
  rw[q] at e;exact congrArg some e
 ·rename_i q
  rw[q] at e;have a:es.toList.any (·.refKey)=false:=by
   rw[List.any_eq_false];intro y hy;obtain⟨z,t,Zp⟩:=hk y (Array.mem_toList_iff.mp hy);simp[DictEntry.refKey,Zp]
  have a':¬ es.toList.any (·.refKey)=true:=by rw[a];exact Χ
  rw[if_neg a'];exact congrArg some e
def EE.look{x dx:Addr}{mA:q0C}(I:EE h x dx C mA):∃ od,PySem.W.InstAt h x (PySem.W.instObj C dx) C (some od)/\∀ name,PySem.W.lookIn name od=some (mA name) :=
 let ⟨od,ho,hl⟩:=Jn I.ns
 ⟨od,⟨I.obj,rfl,rfl,ho⟩,hl⟩
section
variable{prog:Program}{x dx f:Addr}{mA:q0C}{name:Str}{v:Value}
mutual
example:=[model prog w,.ref f,.ref C,.ref x,s.heap.objs.size+1]
def OY{expr:Bool}{Q:q0A}(X:K.In s.heap)(I:EE s.heap x dx C mA)(hg:PySem.W.plainGet K C name=true)(hh:PySem.W.hasDictIn K C=true)(ha:PySem.W.findIn K 2e0 name=some none)(hv:mA name=some v)(hv':PySem.W.handedIn v=true)(h:Q v {s with toks:=s.toks+1}) : wpAny 0e0 A (getAttr 3e0 name expr) Q E s:=by
 obtain⟨od,J,hl⟩:=I.look;exact PySem.W.get_value X J (PySem.W.plainGet_of hg).1 (PySem.W.findObj_own hh ha rfl (by rw[hl,hv])) hv' h
def LO{Q:Value×List Value->Shared->Prop}(X:K.In s.heap)(I:EE s.heap x dx C mA)(hg:PySem.W.plainGet K C name=true)(hf:PySem.W.findIn K 2e0 name=some (some 1e0))(ht:PySem.W.isFn K 1e0=true)(hv:mA name=none)(h:Q (.ref f,[.ref x]) s) : wpAny 0e0 A (getMethod 3e0 name pl) Q E s:=by
 obtain⟨od,J,hl⟩:=I.look;exact PySem.W.method_fn X J (PySem.W.plainGet_of hg).1 (PySem.W.plainGet_of hg).2 hf (beq_iff_eq.mp ht) (by show(PySem.W.lookIn name od).map (·.isSome)=some false;rw[hl,hv];rfl) h
theorem PX{ns:List Str}(X:K.In s.heap)(I:EE s.heap x dx C mA)(hs:PySem.W.findIn K 2e0 "__setattr__"=some (some (.builtin "object.__setattr__")))(hp:PySem.W.plainOver K C=true)(ht:PySem.W.takerIn K C name=some none)(hh:PySem.W.hasDictIn K C=true)(hw:PySem.Within mA ns)(hsz:ns.length<=sizeLine)(h:∀ h',EE h' x dx C (fun y=>if y=name then some v else mA y)->Heap.SameBut dx s.heap h'->Q () {s with heap:=h',toks:=s.toks+2}) : wpAny 0e0 A (setAttr 3e0 name v) Q E s:=by
 obtain⟨od,J,hl⟩:=I.look;refine PySem.W.set_plain X J hs (PySem.W.osa_open (s:={s with toks:=s.toks+1}) (r:=none) X J hp ht fun b=>?_);obtain⟨cd,hc,hd'⟩:=PySem.W.any_some hh;have hx:s.heap.get? x=some ⟨.ref C,some dx,.plain,#[]⟩:=I.obj;refine Β (Θ (Β (Β (wpAny_loadPart hx (Β (PySem.W.Looks.here (s:={s with toks:=s.toks+1}) (PySem.W.looks_clsIn X hc) ?_))))));rw[hd'];refine Θ (a:=some dx) (Β (Θ (Β ?_)));refine wpAny_nsSet1 (s:={s with toks:=s.toks+1}) I.ns fun h' hn2 hs2=>?_;obtain⟨oD,esD,epD,hoD,hdD,hcD⟩:=hn2.count (PySem.Within.cons name v hw);refine Β (wpAny_lookBehind hoD (by rw[hdD];exact pastItsLine_dict (Ω hcD (by rw[Η];omega))) ?_);exact Θ (h _ ⟨(hs2.2 _ (Ne.symm I.ne)).trans I.obj,hn2,I.ne⟩ hs2)
def Mc{R:Result->Shared->Prop}{vs:List Value}(X:K.In s.heap)(hm:PySem.W.makesIn K C=true)(hi:PySem.W.findIn K 2e0 "__init__"=some (some 1e0))(hf:PySem.W.typeIn K 1e0=some (.type "function"))(h:codeAny 0e0 (A.under (.builtin "type.__call__" ⟨.ref C::vs,kw⟩)) (.call 1e0 ⟨.ref 4e0::vs,kw⟩) (PySem.W.InitBack 4e0 R) {s with heap:=(s.heap.push PySem.W.emptyDict).push (PySem.W.instObj C s.heap.objs.size)}) : codeAny 0e0 A (.call 2e0 ⟨vs,kw⟩) R s:=by
 obtain⟨hh,g,d,t,os⟩:=s;exact PySem.W.make_core (PySem.W.makes_of X hm) (PySem.W.looks_findIn X hi) (fun self=>PySem.W.bind_fn X self hf) (.inl rfl) h
end
end
mutual
example:=[Str×V,(if k=f then (k,v)::r else (k,x)::jN f v r),((k,x)::r)]
def jN(f:Str)(v:V):List 0e0->List 0e0
 | []=>[(f,v)]
 | (g,x)::r=>if g=f then (g,v)::r else (g,x)::jN f v r
theorem uH(f g:Str)(v:V):∀ fs:List 0e0,(jN f v fs).lookup g=if g=f then some v else fs.lookup g
 | []=>by
  show List.lookup g [(f,v)]=_;by_cases h:g=f
  ·have hb:(g==f)=true:=beq_iff_eq.mpr h;simp only[List.lookup,hb,if_pos h]
  ·have hb:(g==f)=false:=Β2.mpr h;simp only[List.lookup,hb,if_neg h]
 | (k,x)::r=>by
  have ih:=uH f g v r;rw[show jN f v 2e0=1e0 from rfl];by_cases hk:k=f
  ·rw[if_pos hk];by_cases h:g=k
   ·have hb:(g==k)=true:=beq_iff_eq.mpr h;simp only[List.lookup,hb,if_pos (h.trans hk)]
   ·have hb:(g==k)=false:=Β2.mpr h;simp only[List.lookup,hb,if_neg (fun e:g=f=>h (e.trans hk.symm))]
  ·rw[if_neg hk];by_cases h:g=k
   ·have hb:(g==k)=true:=beq_iff_eq.mpr h;simp only[List.lookup,hb,if_neg (fun e:g=f=>hk (h.symm.trans e))]
   ·have hb:(g==k)=false:=Β2.mpr h;simp only[List.lookup,hb];exact ih
theorem tE(f:Str)(v:V):∀ fs:List 0e0,f∈(jN f v fs).map (·.1)/\∀ g,g∈fs.map (·.1)->g∈(jN f v fs).map (·.1)
 | []=>⟨by simp[jN],fun g h=>by simp at h⟩
 | (k,x)::r=>by
  obtain⟨i1,i2⟩:=tE f v r;rw[show jN f v 2e0=1e0 from rfl];by_cases hk:k=f
  ·rw[if_pos hk];subst hk;exact⟨by simp,fun g h=>by simpa using h⟩
  ·rw[if_neg hk];refine⟨?_,fun g h=>?_⟩
   ·rw[ϔ];exact ϓ _ i1
   ·rw[ϔ] at h ⊢;rcases Α.mp h with e|e
    ·exact Α.mpr (.inl e)
    ·exact ϓ _ (i2 g e)
theorem uF(f:Str)(v:V):∀ fs:List 0e0,(jN f v fs).length<=fs.length+1
 | []=>by simp[jN]
 | (k,x)::r=>by
  have ih:=uF f v r;rw[show jN f v 2e0=1e0 from rfl];by_cases hk:k=f
  ·rw[if_pos hk,Η,Η];omega
  ·rw[if_neg hk,Η,Η];omega
def lL.some_of{o:Option Value}(r:lL (some v) o):∃ u,o=some u/\bP v u:=by
 cases o with
 | none=>exact(show False from r).elim
 | some u=>exact⟨u,rfl,r⟩
def lL.none_of{o:Option Value}(r:lL none o):o=none:=by
 cases o with
 | none=>rfl
 | some u=>exact(show False from r).elim
def Jc(r:bP v u):PySem.W.handedIn u=true:=by
 cases v with
 | Xu=>cases (show u=Value.none from r);rfl
 | bl b=>cases (show u=Value.bool b from r);rfl
 | int i=>obtain⟨t,e⟩:=(show ∃ t,u=Value.int i t from r);cases e;rfl
 | str x=>obtain⟨t,e⟩:=(show ∃ t,u=Value.str x t from r);cases e;rfl
 | byt b=>obtain⟨t,e⟩:=(show ∃ t,u=Value.bytes b t from r);cases e;rfl
 | flt b=>obtain⟨t,e⟩:=(show ∃ t,u=Value.float b t from r);cases e;rfl
 | ref a=>cases (show u=Value.ref a from r);rfl
 | ty n=>cases (show u=Value.type n from r);rfl
end
section
variable{H':Hp}{h':Heap}{dx:Addr}{fs fs':List (Str×V)}
def B7(Xz:HOk P w H h)(e:H a=some (.ins C dx fs)):∃ mA,EE h a dx C mA/\(∀ f,lL (fs.lookup f) (mA f))/\PySem.Within mA (fs.map (·.1))/\fs.length<=1000/\H dx=some (.own a):=by
 obtain⟨d,z,ne,ob,mA,n,r,q⟩:=(show eB P w H h a (.ins C dx fs) from Xz a _ e);exact⟨mA,⟨ob,n,ne⟩,r,q,z,d⟩
end
mutual
example:=[.ref C,.ref f]
structure Cls(K:q0B)(C:Addr):Prop where
 pg:PySem.W.plainGet K C Str.empty=true
 hd:PySem.W.hasDictIn K C=true
 po:PySem.W.plainOver K C=true
 sa:PySem.W.findIn K 0e0 "__setattr__"=some (some (.builtin "object.__setattr__"))
def Cls.get(c:Cls K C)(f:Str):PySem.W.plainGet K C f=true:=c.pg
def eV(K:q0B)(C:Addr)(f:Str):Prop:=PySem.W.findIn K 0e0 f=some none
def eV.VJ{f:Str}(n:eV K C f):PySem.W.takerIn K C f=some none:=by
 unfold PySem.W.takerIn;rw[show PySem.W.findIn K 0e0 f=some none from n];rfl
structure Meth(K:q0B)(C:Addr)(m:Str)(f:Addr):Prop where
 at_:PySem.W.findIn K 0e0 m=some (some 1e0)
 fn:PySem.W.isFn K 1e0=true
 kp:PySem.W.keepIn K 1e0=true
end
section
variable{dx:Addr}{fs:List (Str×V)}{f:Str}
mutual
example:=[s.heap.objs.size+1,PySem.W.instObj C s.heap.objs.size,model X.prog X.w,model prog w,.ins C dx fs,.ref a,(if g=f then some u else mA g),(fun b u q=>Ε _ q),eval e env]
def xY{b:Bool}{Q:q0A}(I:Xv X Xs σ H s)(e:H a=some 4e0)(c:Cls X.K C)(n:eV X.K C f)(l:fs.lookup f=some v)(h:∀ u s',Xv X Xs σ H s'->bP v u->Q u s'):wpAny 2e0 A (getAttr 5e0 f b) Q E s:=by
 obtain⟨mA,O,r,_,_,_⟩:=B7 I.Xz e;obtain⟨u,hu,ru⟩:=lL.some_of (v:=v) (o:=mA f) (by rw[<- l];exact r f);exact OY I.kIn O (c.get f) c.hd n hu (Jc ru) (h u _ (I.tok _) ru)
def xZ{m:Str}{g:Addr}{Q:Value×List Value->Shared->Prop}(I:Xv X Xs σ H s)(e:H a=some 4e0)(c:Cls X.K C)(k:Meth X.K C m g)(l:fs.lookup m=none)(h:Q (.ref g,[.ref a]) s):wpAny 2e0 A (getMethod 5e0 m pl) Q E s:=by
 obtain⟨mA,O,r,_,_,_⟩:=B7 I.Xz e;have hn:mA m=none:=lL.none_of (by rw[<- l];exact r m);exact LO I.kIn O (c.get m) k.at_ k.fn hn h
theorem zT{y:V}(I:Xv X Xs σ H s)(e:H a=some 4e0)(c:Cls X.K C)(n:eV X.K C f)(hl:fs.length < 1000)(ry:bP y u)(h:∀ s',Xv X Xs σ (Xt H a (.ins C dx (jN f y fs))) s'->Q () s'):wpAny 2e0 A (setAttr 5e0 f u) Q E s:=by
 obtain⟨mA,O,r,wi,_,ho⟩:=B7 I.Xz e;have hz:(fs.map (·.1)).length<=sizeLine:=by rw[Γ,Ε1];omega
 refine PX I.kIn O c.sa c.po n.VJ c.hd wi hz fun h' O' sb=>h _ ?_;have hd:∃ o,h'.get? dx=some o:=let ⟨o,_,_,e',_⟩:=O'.ns;⟨o,e'⟩;refine I.write (x:=a) (e:=dx) (by rw[e];exact True.intro) (.inr ho) (fun b q hb z=>(sb.2 b hb).trans z) hd ?_;refine⟨by rw[aC O.ne];exact ho,?_,O.ne,O'.obj,_,O'.ns,fun g=>?_,fun g hg=>?_⟩
 ·have:=uF f y fs;omega
 ·show lL ((jN f y fs).lookup g) 6e0;rw[uH];by_cases q:g=f
  ·rw[if_pos q,if_pos q];exact ry
  ·rw[if_neg q,if_neg q];exact r g
 ·by_cases q:g=f
  ·rw[q];exact(tE f y fs).1
  ·refine(tE f y fs).2 g (wi g fun z=>hg ?_);show 6e0=none;rw[if_neg q];exact z
def Xv.made(I:Xv X Xs σ H s):Xv X Xs σ (Xt (Xt H s.heap.objs.size (.own 0e0)) 0e0 (.ins C s.heap.objs.size [])) {s with heap:=(s.heap.push PySem.W.emptyDict).push 1e0}:=by
 have e1:(s.heap.push PySem.W.emptyDict).get? s.heap.objs.size=some PySem.W.emptyDict:=Τ s.heap rfl;have e2:((s.heap.push PySem.W.emptyDict).push 1e0).get? 0e0=some 1e0:=by
  have:=Τ (s.heap.push PySem.W.emptyDict) (o:=PySem.W.instObj C s.heap.objs.size) rfl
  rwa [Heap.size_push] at this
 have e3:(s.heap.push PySem.W.emptyDict).Ns s.heap.objs.size (fun _=>none):=⟨PySem.W.emptyDict,#[],_,e1,rfl,(fun e he=>absurd he (by simp)),fun _=>rfl⟩;have I1:=I.laid (a:=s.heap.objs.size) (o:=.own 0e0) (h':=s.heap.push PySem.W.emptyDict) (t':=s.toks) 7e0 (Ι _) ⟨_,e1⟩;refine I1.laid (a:=s.heap.objs.size+1) (o:=.ins C s.heap.objs.size []) (t':=s.toks) 7e0 (Nat.le_of_eq (Heap.size_push _ _)) ?_;have ne:s.heap.objs.size≠s.heap.objs.size+1:=Ο (Nat.lt_succ_self _);refine⟨by rw[aC ne,aA],Α4 _,ne,e2,fun _=>none,(Heap.Ns1.of_empty e3).at fun o q=>Ε _ q,fun _=>True.intro,fun y hy=>absurd rfl hy⟩
def NU{prog:Program}{env:Env}{Q:q0A}(hb:attributeBase e f env 8e0=eval e env)(h:wpAny 3e0 A 8e0 (fun o s₁=>wpAny 3e0 A (getAttr o f true) Q E s₁) E s):wpAny 3e0 A (eval (.Attribute e f pos) env) Q E s :=
 Attribute_any_ h (by rw[arm_eval_Attribute,hb])
end
end
noncomputable def Wc(X:Cx)(op:Operator)(rd:V->V->Hp->VK->Prop):Prop :=
 ∀(Xs:List (Addr×Obj)) (s:Shared) (σ:St) (H:Hp) (x y:V) (u v:Value) (Q:VK),Xv X Xs σ H s->bP x u->bP y v->rd x y H Q->wpAny (model X.prog X.w) X.A (inplaceOp op u v) (EP X Xs σ Q) X.xe s
section
variable{o value:Expr}{f:Str}{pos' aaB:Pos}{ta tv:TE}
def WT:V->V->Hp->VK->Prop:=fun x y H Q=>∃ i j,x=.int i/\y=.int j/\Q (.int (i+j)) H
def Ss:Wc X .Add WT:=by
 rintro Xs s σ H x y u v Q I rx ry ⟨i,j,rfl,rfl,q⟩;obtain⟨t,rfl⟩:=(show ∃ t,u=Value.int i t from rx);obtain⟨t',rfl⟩:=(show ∃ t',v=Value.int j t' from ry);exact PyProof.Rows.iadd_int ⟨.int (i+j),H,I.tok _,⟨_,rfl⟩,q⟩
end
section
variable{Q:q0A}{c:Value}{b:Bool}
end
mutual
example:=[(.builtin "type.__call__" ⟨.ref C::us,kw⟩)]
structure Room(k:Nat)(A:Around):Prop where
 hd:A.handled=none
 dp:A.depth+3 * k+5 < recursionLimit
 un:A.units+16 * k+200 < cLine
theorem Room.mono{j:Nat}(r:Room k A)(h:j<=k):Room j A:=⟨r.hd,by have:=r.dp;omega,by have:=r.un;omega⟩
theorem Room.deeper(r:Room (k+1) A)(env:Env):Room k (A.deeper env) :=
 ⟨r.hd,by have:=r.dp;show A.depth+1+3 * k+5 < _;omega,by have:=r.un;show A.units+3+16 * k+200 < _;omega⟩
def Fs:(A.under 0e0).depth=A.depth+1:=by
 first|rfl|simp[Around.under,Code.weight,Code.isCreation,Code.isGuard,Code.isCaller,Code.frames,Code.isFrame,guardIds]
def Ft:(A.under 0e0).units=A.units+1:=by
 first|rfl|simp[Around.under,Code.cUnits,Code.frames,Code.isFrame]
theorem Room.make(r:Room (k+1) A)(C:Addr)(us:List Value)(kw:List (Str×Value)):Room k (A.under 0e0) :=
 ⟨r.hd,by have:=r.dp;rw[Fs];omega,by have:=r.un;rw[Ft];omega⟩
theorem Room.depth(r:Room k A):A.depth < recursionLimit:=by have:=r.dp;omega
theorem Room.units(r:Room k A):A.units+64 < cLine:=by have:=r.un;omega
def Ag:TA:=fun _ H Q=>Q [] H
def oC(ta:TE)(tr:TA):TA:=fun σ H Q=>ta σ H fun x H1=>tr σ H1 fun xs H2=>Q (x::xs) H2
end
section
variable{t:TA}
mutual
example:=[(thn (h pos Xs s σ H _ I hq) fun us s1 ⟨xs,H1,I1,r,z,q⟩=>⟨by rw[<- r.length];exact z,?_⟩),(fun b u e=>Ε _ e)]
def bT:PA X [] Ag:=fun _ _ _ _ H Q I h=>Calls.spliced_nil ⟨[],H,I,.nil,h⟩
def Hy(ha:PE X e te)(hr:PA X es t)(hs:starEach (e::es) X.env=(false,eval e X.env)::starEach es X.env:=by rfl):PA X (e::es) (oC te t):=by
 intro pos Xs s σ H Q I h;rw[hs];show wpAny _ _ (spliced ((false,eval e X.env)::backTo pos (starEach es X.env))) _ _ s;refine Δ3 (thn (ha Xs s σ H _ I h) fun u s1 ⟨x,H1,I1,r1,q1⟩=>?_);exact thn (hr pos Xs s1 σ H1 _ I1 q1) fun us s2 ⟨xs,H2,I2,r2,q2⟩=>⟨x::xs,H2,I2,.cons r1 r2,q2⟩
def VI(t:TA):TE:=fun σ H Q=>t σ H fun xs H1=>xs.length<=sizeLine/\∀ p,H1 p=none->Q (.ref p) (Xt H1 p (.tup xs))
def VD(t:TA):TE:=fun σ H Q=>t σ H fun xs H1=>xs.length<=sizeLine/\∀ p,H1 p=none->Q (.ref p) (Xt H1 p (.lst xs))
def aY{x1}(h:PA X es t):PE X (.Tuple es x1 pos) (VI t):=by
 intro Xs s σ H Q I hq;refine wpAny_Tuple_spliced 0e0;have hf:H1 s1.heap.objs.size=none:=I1.Xz.fresh (Ι _);refine⟨.ref s1.heap.objs.size,Xt H1 s1.heap.objs.size (.tup xs),I1.laid (t':=s1.toks) 1e0 (Ι _) ?_,rfl,q _ hf⟩;exact⟨z,us,r,⟨_,Τ _ rfl,rfl,_,rfl⟩⟩
def aV(h:PA X es t):PE X (.List es pos) (VD t):=by
 intro Xs s σ H Q I hq;refine wpAny_List_spliced 0e0;have hf:H1 s1.heap.objs.size=none:=I1.Xz.fresh (Ι _);refine⟨.ref s1.heap.objs.size,Xt H1 s1.heap.objs.size (.lst xs),I1.laid (t':=s1.toks) 1e0 (Ι _) ?_,rfl,q _ hf⟩;exact⟨z,us,0,r,Τ _ rfl⟩
end
end
abbrev Sp:=List V->Hp->VK->XK->Prop
abbrev CXT:=List Env->Hp->Shared->XK->Value->Shared->Prop
variable{CX:CXT}
mutual
example:=[]
structure Env0(P:Program)(w:World)(K:q0B)(mg:q0C)(base:Heap)(A:Around)(outer:List Env)(s:Shared)(H:Hp):Prop where
 frames:A.frames=some outer
 mod:Mod K mg base
 bs:∀ b o,base.get? b=some o->s.heap.get? b=some o/\H b=none
 bsz:base.objs.size<=s.heap.objs.size
 rA:s.heap.FunFrames base outer
 frf:∀ b∈frs outer,H b=none
 Xz:HOk P w H s.heap
 bare:AllBare s.gens
def CE(outer:List Env)(P:Program)(w:World)(H:Hp)(s:Shared)(Q:VK)(u:Value)(s':Shared):Prop :=
 ∃ v H',s'.os=s.os/\AllBare s'.gens/\Un (frs outer) [] H H' s.heap s'.heap/\HOk P w H' s'.heap/\bP v u/\Q v H'
def CR(CX:CXT)(outer:List Env)(P:Program)(w:World)(H:Hp)(s:Shared)(Q:VK)(E:XK)(r:Result)(s':Shared):Prop :=
 match r with
 | .ok (.ret u)=>CE outer P w H s Q u s'
 | .ok _=>False
 | .error e=>CX outer H s E e s'
structure gM(P:Program)(w:World)(K:q0B)(mg:q0C)(base:Heap)(CX:CXT)(k:Nat)(f:Addr)(fd:FuncData)(ps:List Str)(sp:Sp):Prop where
 len:∀ vs H Q E,sp vs H Q E->vs.length=ps.length
 run:∀(A:Around) (outer:List Env) (s:Shared) (H:Hp) (args:Args) (us:List Value) (vs:List V) (Q:VK) (E:XK),Room k A->Env0 P w K mg base A outer s H->BindsTo s fd args (ps.zip us)->Xx vs us->sp vs H Q E ->
  codeAny (model P w) A (.call (.ref f) args) (CR CX outer P w H s Q E) s
def gM.mono{j:Nat}{f:Addr}{sp:Sp}(F:gM P w K mg base CX j f fd ps sp)(h:j<=k) : gM P w K mg base CX k f fd ps sp:=⟨F.len,fun A outer s H args us vs Q E hr=>F.run A outer s H args us vs Q E (hr.mono h)⟩
def Env0.make(e:Env0 P w K mg base A outer s H)(C:Addr)(us:List Value)(kw:List (Str×Value)) : Env0 P w K mg base (A.under (.builtin "type.__call__" ⟨.ref C::us,kw⟩)) outer s H:=⟨by first|exact e.frames|(simpa[Around.under,Code.envs,Code.isFrame,pushEnvs] using e.frames),e.mod,e.bs,e.bsz,e.rA,e.frf,e.Xz,e.bare⟩
end
section
def Xv.UT(I:Xv X Xs σ H s):Env0 X.prog X.w X.K X.mg X.base X.A X.stack s H :=
 ⟨I.ok.frames,I.ok.mod,I.bs,Ω I.ok.bsz I.sz,I.stack,I.CB,I.Xz,I.bare⟩
def Xv.after{Q:VK}(I:Xv X Xs σ H s)(h:CE X.stack X.prog X.w H s Q u s'):EP X Xs σ Q u s':=by
 obtain⟨v,H',os,bare,un,Xz,r,q⟩:=h;obtain⟨hh,g,d,t,os'⟩:=s';obtain rfl:os'=s.os:=os;exact⟨v,H',I.call (h':=hh) (g':=g) (d':=d) (t':=t) (ch:=[]) un Xz bare (fun b z=>absurd z (by simp)),r,q⟩
end
mutual
example:=[vs++Yd]
def Ih(sp:Sp)(Yd:List V)(E:XK)(t:TA):TE:=fun σ H Q=>t σ H fun vs H1=>sp 0e0 H1 Q E
def Ew(C:Addr)(m:Str)(sp:Sp)(Yd:List V)(E:XK)(ta:TE)(t:TA):TE:=fun σ H Q=>ta σ H fun x H1=>∃ a dx fs,x=.ref a/\H1 a=some (.ins C dx fs)/\fs.lookup m=none /\
 t σ H1 fun vs H2=>sp (x::0e0) H2 Q E
def Ii(C:Addr)(sp:Sp)(Yd:List V)(E:XK)(t:TA):TE:=fun σ H Q=>t σ H fun vs H1=>∀ x dx,H1 x=none->H1 dx=none->dx≠x ->
 sp (.ref x::0e0) (Xt (Xt H1 dx (.own x)) x (.ins C dx [])) (fun v H2=>v=.Xu/\Q (.ref x) H2) E
def Binds(K:q0B)(fd:FuncData)(ps:List Str)(ds:List Value):Prop :=
 ∀(s:Shared) (us:List Value),K.In s.heap->(us++ds).length=ps.length->BindsTo s fd ⟨us,[]⟩ (ps.zip (us++ds))
def Binds.all(h:∀ us:List Value,us.length=ps.length->bindArgs fd ⟨us,[]⟩=pure (ps.zip us)):Binds K fd ps []:=fun s us _ hl=>by
 rw[ϝ] at hl ⊢;exact .of_eq (h us hl)
def Passes(CX:CXT)(X:Cx)(E:XK):Prop:=∀(Xs:List (Addr×Obj)) (σ:St) (H:Hp) (s:Shared) (e:Value) (s':Shared),Xv X Xs σ H s->CX X.stack H s E e s'->X.xe e s'
end
section
variable{f:Addr}{sp:Sp}{Yd:List V}{ds:List Value}{E:XK}{m:Str}{p apos:Pos}{o:Expr}{ta:TE}{t:TA}
mutual
example:=[e::es,s.heap.objs.size+1,vs++Yd,.ref f,.ref C,.Attribute o m apos,us++ds,x==("__debug__":Str),starEach es X.env,vK I hg hm ?_ ZZ,.Name x p,(thn (ha pos Xs s σ H _ I h) fun us s1 ⟨vs,H1,I1,r,q⟩=>⟨I1.kIn,?_⟩),(thn (he Xs s σ H _ I h) fun u s1 ⟨x,H1,I1,rx,a,dx,fs,ex,ea,l,q⟩=>?_),backToKw pos (keywordEach [] X.env),getMethod ov m pl,model X.prog X.w,EP X Xs σ Q]
def Ct{Q:VK}(F:gM X.prog X.w X.K X.mg X.base CX k f fd ps sp)(hr:Room k X.A)(hb:Binds X.K fd ps ds)(hd:Xx Yd ds)(hx:Passes CX X E)(I:Xv X Xs σ H s)(r:Xx vs us)(h:sp 2e0 H Q E):wpAny 5e1 X.A (call 3e0 us) 6e1 X.xe s:=by
 have r2:Xx 2e0 6e0:=r.append hd;have hl:(us++ds).length=ps.length:=by rw[<- r2.length];exact F.len _ _ _ _ h
 refine wpAny_call (codeAny_mono (F.run X.A X.stack s H ⟨us,[]⟩ 6e0 2e0 Q E hr I.UT (hb s us I.kIn hl) r2 h) fun r s' hq=>?_);cases r with
 | error e=>exact hx Xs σ H s e s' I hq
 | ok fl =>
  cases fl with
  | ret u=>exact I.after hq
  | next=>exact False.elim hq
  | brk=>exact False.elim hq
  | cont=>exact False.elim hq
theorem Co(F:gM X.prog X.w X.K X.mg X.base CX k f fd ps sp)(hr:Room k X.A)(hg:Gl X x)(hm:X.mg x=some 3e0)(hk:PySem.W.keepIn X.K 3e0=true)(hb:Binds X.K fd ps ds)(hd:Xx Yd ds)(hx:Passes CX X E)(ha:PA X 0e0 t)(ZZ:7e0=false:=by decide)(he:starEach 0e0 X.env=(false,eval e X.env)::starEach es X.env:=by rfl)(X0:(backTo pos 8e0).any (·.1)=false:=by rfl) : PE X (.Call 0e1 0e0 [] pos) (Ih sp Yd E t):=by
 intro Xs s σ H Q I h;refine wpAny_Call_Name_kw 9e0;refine PySem.W.callWith_K (h₀:=X.base) I.ok.mod.kin hk 1e1 he X0;exact Ct F hr hb hd hx I1 r q
def Cp(he:PE X o ta)(c:Cls X.K C)(hm:Meth X.K C m f)(F:gM X.prog X.w X.K X.mg X.base CX k f fd ps sp)(hr:Room k X.A)(hb:Binds X.K fd ps ds)(hd:Xx Yd ds)(hx:Passes CX X E)(ha:PA X 0e0 t)
    (XI:starEach 0e0 X.env=(false,eval e X.env)::starEach es X.env:=by rfl) (X0:(backTo pos 8e0).any (·.1)=false:=by rfl)
    (ht:eval (.Call 5e0 0e0 [] pos) X.env=(do
      let ov <- eval o X.env
      standAt apos.atName
      let (f,first) <- holding [ov] 4e1
      callWith pos f first (backTo pos (starEach 0e0 X.env)) 3e1):=by rfl) :
    PE X (.Call 5e0 0e0 [] pos) (Ew C m sp Yd E ta t):=by
  intro Xs s σ H Q I h;refine PySem.W.methodCall_KW (pl:=pl) 2e1 ht;subst ex;obtain rfl:u=Value.ref a:=rx;refine xZ I1 ea c hm l ?_;refine PySem.W.callWith_K (first:=[.ref a]) (h₀:=X.base) I.ok.mod.kin hm.kp (thn (ha pos Xs s1 σ H1 _ I1 q) fun us s2 ⟨vs,H2,I2,r,q2⟩=>⟨I2.kIn,?_⟩) XI X0
  exact Ct (us:=.ref a::us) (vs:=.ref a::vs) F hr hb hd hx I2 (.cons rfl r) q2
def MG(he:PE X o ta)(c:Cls X.K C)(hm:Meth X.K C m f)(F:gM X.prog X.w X.K X.mg X.base CX k f fd ps sp)(hr:Room k X.A)(hb:Binds X.K fd ps ds)(hd:Xx Yd ds)(hx:Passes CX X E)
    (ht:eval (.Call 5e0 [] [] pos) X.env=(do
      let ov <- eval o X.env
      standAt apos.atName
      let (f,first) <- holding [ov] 4e1
      callWith pos f first (backTo pos (starEach [] X.env)) 3e1):=by rfl) :
    PE X (.Call 5e0 [] [] pos) (Ew C m sp Yd E ta Ag):=by
  intro Xs s σ H Q I h;refine PySem.W.methodCall_KW (pl:=pl) 2e1 ht;subst ex;obtain rfl:u=Value.ref a:=rx;refine xZ I1 ea c hm l ?_;exact PySem.W.callWith_K0 (first:=[.ref a]) I1.kIn hm.kp (Ct (us:=[.ref a]) (vs:=[.ref a]) F hr hb hd hx I1 (.cons rfl .nil) q)
structure Mk(K:q0B)(C f:Addr):Prop where
 makes:PySem.W.makesIn K C=true
 init:PySem.W.findIn K 4e0 "__init__"=some (some 3e0)
 fn:PySem.W.isFn K 3e0=true
 kp:PySem.W.keepIn K 4e0=true
def DZ{Q:VK}(M:Mk X.K C f)(F:gM X.prog X.w X.K X.mg X.base CX k f fd ps sp)(hr:Room (k+1) X.A)(hb:Binds X.K fd ps ds)(hd:Xx Yd ds)(hx:Passes CX X E)(I:Xv X Xs σ H s)(r:Xx vs us)(h:∀ x dx,H x=none->H dx=none->dx≠x->sp (.ref x::2e0) (Xt (Xt H dx (.own x)) x (.ins C dx [])) (fun v H2=>v=.Xu/\Q (.ref x) H2) E) : wpAny 5e1 X.A (call 4e0 us) 6e1 X.xe s:=by
 have hq:=h 1e0 s.heap.objs.size (I.Xz.fresh (Δ4 _)) (I.Xz.fresh (Ι _)) (Ο (Nat.lt_succ_self _));have I2:=Xv.made (C:=C) I;have r2:Xx (V.ref 1e0::2e0) (Value.ref 1e0::6e0):=.cons rfl (r.append hd);have hl:(Value.ref 1e0::us++ds).length=ps.length:=by
  have e:=r2.length;rw[F.len _ _ _ _ hq] at e;exact e.symm
 refine wpAny_call (Mc (f:=f) I.kIn M.makes M.init (beq_iff_eq.mp M.fn) (codeAny_mono (F.run _ X.stack _ _ ⟨Value.ref 1e0::us,[]⟩ (Value.ref 1e0::6e0) _ _ E (hr.make C us [])
  (I2.UT.make C us []) (hb _ (Value.ref 1e0::us) I2.kIn hl) r2 hq) fun r s' hq'=>?_))
 cases r with
 | error e=>exact hx Xs σ _ _ e s' I2 hq'
 | ok fl =>
  cases fl with
  | ret u =>
   obtain⟨v,H',I3,rv,ev,q3⟩:=I2.after hq';subst ev;exact⟨rv,⟨V.ref 1e0,H',I3,rfl,q3⟩⟩
  | next=>exact False.elim hq'
  | brk=>exact False.elim hq'
  | cont=>exact False.elim hq'
theorem HB(M:Mk X.K C f)(F:gM X.prog X.w X.K X.mg X.base CX k f fd ps sp)(hr:Room (k+1) X.A)(hg:Gl X x)(hm:X.mg x=some 4e0)(hb:Binds X.K fd ps ds)(hd:Xx Yd ds)(hx:Passes CX X E)(ha:PA X 0e0 t)(ZZ:7e0=false:=by decide)(he:starEach 0e0 X.env=(false,eval e X.env)::starEach es X.env:=by rfl)(X0:(backTo pos 8e0).any (·.1)=false:=by rfl) : PE X (.Call 0e1 0e0 [] pos) (Ii C sp Yd E t):=by
 intro Xs s σ H Q I h;refine wpAny_Call_Name_kw 9e0;refine PySem.W.callWith_K (h₀:=X.base) I.ok.mod.kin M.kp 1e1 he X0;exact DZ M F hr hb hd hx I1 r q
theorem MF(M:Mk X.K C f)(F:gM X.prog X.w X.K X.mg X.base CX k f fd ps sp)(hr:Room (k+1) X.A)(hg:Gl X x)(hm:X.mg x=some 4e0)(hb:Binds X.K fd ps ds)(hd:Xx Yd ds)(hx:Passes CX X E)(ZZ:7e0=false:=by decide):PE X (.Call 0e1 [] [] pos) (Ii C sp Yd E Ag):=by
 intro Xs s σ H Q I h;refine wpAny_Call_Name_kw 9e0;exact PySem.W.callWith_K0 I.kIn M.kp (DZ (us:=[]) M F hr hb hd hx I .nil h)
end
end
section
variable{f:Addr}{ks:List Str}{sp:Sp}{E:XK}{m:Str}{p apos ac8:Pos}{o:Expr}{kws:List Keyword}{ta:TE}{t tk:TA}{nm:Option Str}
variable{g:List Value->List Value->List Value}{gV:List V->List V->List V}
end
mutual
example:=[((p,w)::P.zip vs),start N vs,BO CX P w K mg base N qual scope f XQ A outer s H E,envOfC qual scope s.heap.objs.size f cd,PySem.W.fnOf name qual params body scope dV kV doc pm an XQ ct,x.above y c (Δ6 h),s.heap.objs.size+1,(by simpa using hi),(by simpa using h2),(by simpa using h1),Str×Value,ps.zip us]
structure oG(N P:List Str)(sc:Scope):Prop where
 kind:sc.kind=.function
 co:sc.isCoroutine=false
 gen:sc.isGenerator=false
 nd:N.Nodup
 pre:N.take P.length=P
 par:∀ x∈P,sc.names.lookup x=some .local\/sc.names.lookup x=some .cell
 gP:∀ y∈sc.names,y.2≠.free
theorem AR{kindOf:Str->Option NameKind}{x:Str}:∀ {binds:List 0e1} {m:q0C},(∀ v,(x,v)∉binds)->bindL kindOf binds m x=m x
 | [],_,_=>rfl
 | (n,v)::r,m,h=>by
  unfold bindL;rw[AR fun w hw=>h w (ϓ _ hw)];split
  ·have:x≠n:=by rintro rfl;exact h v List.mem_cons_self
   simp[this]
  ·rfl
theorem AO{kindOf:Str->Option NameKind}{x:Str}:∀ {binds:List 0e1} {m:q0C},(∀ v,(x,v)∉binds)->bindC kindOf binds m x=m x
 | [],_,_=>rfl
 | (n,v)::r,m,h=>by
  unfold bindC;rw[AO fun w hw=>h w (ϓ _ hw)];split
  ·rfl
  ·have:x≠n:=by rintro rfl;exact h v List.mem_cons_self
   simp[this]
theorem AQ{kindOf:Str->Option NameKind}{x:Str}{v:Value}:∀ {P:List Str} {vs:List Value} {i:Nat} {m:q0C},P.Nodup->P[i]?=some x->vs[i]?=some v->kindOf x=some .local -> bindL kindOf (P.zip vs) m x=some v
 | [],_,_,_,_,h,_,_=>by simp at h
 | _::_,[],_,_,_,_,h,_=>by simp at h
 | p::P,w::vs,0,m,nd,h1,h2,hk=>by
  simp at h1 h2;subst h1;subst h2;show bindL kindOf 0e0 m p=_;unfold bindL;rw[AR fun v hv=>(Ϙ.mp nd).1 (List.of_mem_zip hv).1,if_pos hk];simp
 | p::P,w::vs,i+1,m,nd,h1,h2,hk=>by
  show bindL kindOf 0e0 m x=_;unfold bindL;exact AQ (i:=i) (Ϙ.mp nd).2 9e0 8e0 hk
theorem AN{kindOf:Str->Option NameKind}{x:Str}{v:Value}:∀ {P:List Str} {vs:List Value} {i:Nat} {m:q0C},P.Nodup->P[i]?=some x->vs[i]?=some v->kindOf x≠some .local -> bindC kindOf (P.zip vs) m x=some v
 | [],_,_,_,_,h,_,_=>by simp at h
 | _::_,[],_,_,_,_,h,_=>by simp at h
 | p::P,w::vs,0,m,nd,h1,h2,hk=>by
  simp at h1 h2;subst h1;subst h2;show bindC kindOf 0e0 m p=_;unfold bindC;rw[AO fun v hv=>(Ϙ.mp nd).1 (List.of_mem_zip hv).1,if_neg hk];simp
 | p::P,w::vs,i+1,m,nd,h1,h2,hk=>by
  show bindC kindOf 0e0 m x=_;unfold bindC;exact AN (i:=i) (Ϙ.mp nd).2 9e0 8e0 hk
def start(N:List Str)(vs:List V):St:=vs.map some++List.replicate (N.length - vs.length) none
def BO(CX:CXT)(P:Program)(w:World)(K:q0B)(mg:q0C)(base:Heap)(N:List Str)(qual:Str)(scope:Scope)(f:Addr)(cd:Value)(A:Around)(outer:List Env)(s:Shared)(H:Hp)(E:XK):Cx where
 prog:=P
 w:=w
 K:=K
 mg:=mg
 base:=base
 A:=A.deeper 3e0
 N:=N
 s₀:=s
 H₀:=H
 env:=envOfC qual scope s.heap.objs.size f cd
 outer:=outer
 stack:=envOfC qual scope s.heap.objs.size f cd::outer
 ex:=[]
 calm:=true
 fn:=fun _=>true
 pn:=[]
 xe:=fun e s'=>wpAny (model P w) (A.deeper 3e0) (leaving 3e0 e) (fun _ s''=>CX outer H s E e s'') (fun e' s''=>CX outer H s E e' s'') s'
def C0{sc:Scope}(h:sc.names.lookup x=some .cell):∃ c,(cellsFrom n sc.names []).lookup x=some c:=by
 have q:=PySem.W.cellsFrom_some sc.names n [] (.inl h);exact Δ5.mp q
theorem Je{N:List Str}{qual:Str}{f:Addr}{cd:Value}{s1:Shared}{E:XK}(S:oG N ps scope)(hd:A.handled=none)(e0:Env0 P w K mg base A outer s H)(hl:vs.length=ps.length)(r:Xx vs us)(x:InCallC s s.heap.objs.size (bindL (envOfC qual scope s.heap.objs.size f cd).kindOf 1e1 fun _=>none) (cellsFrom 6e0 scope.names []) (bindC (envOfC qual scope s.heap.objs.size f cd).kindOf 1e1 fun _=>none) s1) : Xv (BO CX P w K mg base N qual scope f cd A outer s H E) [] 1e0 H s1:=by
 have X0:ps.length<=N.length:=by have:=congrArg List.length S.pre;rw[Α7] at this;omega
 obtain⟨h1,tk,rfl,hk⟩:=x.done;have noA:∀ b:Addr,b∉(BO CX P w K mg base N qual scope f cd A outer s H E).ex:=fun b z=>absurd (show b∈([]:List Addr) from z) (by simp);refine⟨⟨e0.mod,S.kind,rfl,rfl,Ι _,fun y z c h1 h2=>?_,fun y hy=>?_,fun y c _ h=>?_,fun _=>hd,Around.frames_deeper e0.frames,.inr ⟨rfl,rfl⟩,fun b z=>absurd z (noA b),e0.bs,e0.bsz,fun b _ _=>noA b,fun b z=>absurd z (noA b),e0.rA,e0.frf⟩,
  rfl,e0.bare,Un.kept hk,⟨_,x.toInCall.ns,fun i y v h1 h2 h3=>?_⟩,fun y c h=>⟨_,x.cell y c h⟩,e0.Xz.fresh (Ι _),fun y c h=>?_,fun p hp=>absurd (show p∈([]:List (Addr×Obj)) from hp) (by simp),e0.Xz.kept hk,?_⟩
 ·exact name_of_addr x.apart (Δ6 h1) (Δ6 h2)
 ·have hy:scope.names.lookup y=some .cell\/scope.names.lookup y=some .free:=hy;rcases hy with hy|hy
  ·exact C0 hy
  ·exact absurd rfl (S.gP _ (Δ6 hy))
 ·exact Nat.le_of_lt 5e0
 ·have hi:i < vs.length:=by
   unfold start at h2;by_cases hi:i < vs.length
   ·exact hi
   ·rw[List.getElem?_append_right 7e0] at h2;rw[List.getElem?_replicate] at h2;split at h2<;>cases h2
  have ha:vs[i]?=some v:=by
   unfold start at h2;rw[Ε9 7e0,ϕ] at h2;cases e:vs[i]? with
   | none=>rw[e] at h2;cases h2
   | some a=>rw[e] at h2;cases h2;rfl
  obtain⟨u,hu,rv⟩:=r.get ha;have hp:ps[i]?=some y:=by
   rw[<- S.pre,List.getElem?_take_of_lt (by omega)];exact h1
  have ndP:ps.Nodup:=by rw[<- S.pre];exact S.nd.sublist (List.take_sublist _ _)
  refine⟨u,rv,?_⟩;rcases S.par y (ϒ hp) with k|k
  ·exact .inl ⟨k,AQ ndP hp hu k⟩
  ·obtain⟨c,e⟩:=C0 (n:=s.heap.objs.size+1) k;refine .inr ⟨.inl k,c,e,?_⟩;have q:=x.cell y c e;rw[AN ndP hp hu (by show scope.names.lookup y≠_;rw[k];decide)] at q;exact q
 ·exact e0.Xz.fresh (Nat.le_of_lt 5e0)
 ·unfold start;show _=N.length;rw[Μ,Γ,List.length_replicate];omega
def UY{f:Addr}{name qual:Str}{params:Arguments}{dV kV doc pm XQ ct oc:Value}{an od:Option Addr}{ZH:Array (Option Value)}{N:List Str}{sp:Sp}(lk:K.lookup f=some ⟨oc,od,.func 4e0,ZH⟩)(ZY:PySem.W.codeIn K XQ qual=true)(S:oG N ps scope)(len:∀ vs H Q E,sp vs H Q E->vs.length=ps.length)(YK:∀(A:Around) (outer:List Env) (s:Shared) (H:Hp) (vs:List V) (Q:VK) (E:XK),Room k (A.deeper (envOfC qual scope s.heap.objs.size f XQ))->sp vs H Q E -> ∃ t,YC 2e0 body t/\t {nx:=fun _ H'=>Q .Xu H',rt:=Q} 1e0 H) : gM P w K mg base CX (k+1) f 4e0 ps sp:=by
 refine⟨len,fun A outer s H args us vs Q E hr e0 hb r hsp=>?_⟩;have hl:=len _ _ _ _ hsp;have KX:K.In s.heap:=e0.mod.kin.keeps fun b o e=>(e0.bs b o e).1;have lim:s.heap.NoLimit:=e0.mod.nolimit.keeps fun b o e=>(e0.bs b o e).1;have Yg:∀ y∈ps.zip us,scope.names.lookup y.1=some .local\/(scope.names.lookup y.1=some .cell/\((cellsFrom 6e0 scope.names []).lookup y.1).isSome=true):=fun⟨n,v⟩ hy=>by
  rcases S.par n (List.of_mem_zip hy).1 with q|q
  ·exact .inl q
  ·exact .inr ⟨q,PySem.W.cellsFrom_some _ _ _ (.inl q)⟩
 refine codeAny_call_function hr.depth (KX _ _ lk) rfl S.co S.gen rfl (PySem.W.codeRec_of KX ZY) (hb _ _ _ _ ?_);refine wpAny_newFunctionEnv_cells S.kind Yg fun env he s1 x=>?_;subst he;refine⟨lim.keeps x.toInCall.keep,codeAny_func ?_⟩;obtain⟨t,ht,hq⟩:=YK A outer s H vs Q E (hr.deeper _) hsp;have I:Xv 2e0 [] 1e0 H s1:=Je S hr.hd e0 hl r x;refine Α8 (ht [] s1 1e0 H _ I hq) (fun fl s' hs=>?_) fun e s' hs=>hs;have fin:∀ {σ':St} {H':Hp} {v:V} {u:Value},Xv 2e0 [] σ' H' s'->bP v u->Q v H'->CE outer P w H s Q u s' :=
  fun {σ' H' v u} J rv q=>⟨v,H',J.os,J.bare,J.base,J.Xz,rv,q⟩
 cases fl with
 | ret u =>
  obtain⟨v,σ',H',J,rv,q⟩:=hs;exact fin J rv q
 | next =>
  obtain⟨σ',H',J,q⟩:=hs;exact fin (v:=V.Xu) (u:=Value.none) J rfl q
 | brk =>
  obtain⟨_,_,_,q⟩:=hs;exact False.elim q
 | cont =>
  obtain⟨_,_,_,q⟩:=hs;exact False.elim q
end
section
variable{p:Pos}{t:TA}{id T:String}{r:List V->Hp->VK->Prop}
def W9(r:List V->Hp->VK->Prop)(t:TA):TE:=fun σ H Q=>t σ H fun vs H1=>r vs H1 Q
theorem bH(hc:hJ X (.builtin id) r)(hg:Gl X x)(hm:X.mg x=none)(hv:bootBuiltins x=some (.builtin id))(ha:PA X (e::es) t)(hn:x≠"__name__":=by decide)(ZZ:(x==("__debug__":Str))=false:=by decide)(he:starEach (e::es) X.env=(false,eval e X.env)::starEach es X.env:=by rfl)(X0:(backTo pos (starEach es X.env)).any (·.1)=false:=by rfl):PE X (.Call (.Name x p) (e::es) [] pos) (W9 r t):=by
 intro Xs s σ H Q I h;refine wpAny_Call_Name_kw (Fp I hg hm hv ?_ hn ZZ);exact PyProof.Rows.callWith_builtin1 (thn (ha pos Xs s σ H _ I h) fun us s1 ⟨vs,H1,I1,r1,q1⟩=>hc Xs s1 σ H1 vs us Q I1 r1 q1) he X0
theorem bU(hc:hJ X (.type T) r)(hg:Gl X x)(hm:X.mg x=none)(hv:bootBuiltins x=some (.type T))(ha:PA X (e::es) t)(hn:x≠"__name__":=by decide)(ZZ:(x==("__debug__":Str))=false:=by decide)(he:starEach (e::es) X.env=(false,eval e X.env)::starEach es X.env:=by rfl)(X0:(backTo pos (starEach es X.env)).any (·.1)=false:=by rfl):PE X (.Call (.Name x p) (e::es) [] pos) (W9 r t):=by
 intro Xs s σ H Q I h;refine wpAny_Call_Name_kw (Fp I hg hm hv ?_ hn ZZ);exact PyProof.Rows.callWith_type1 (thn (ha pos Xs s σ H _ I h) fun us s1 ⟨vs,H1,I1,r1,q1⟩=>hc Xs s1 σ H1 vs us Q I1 r1 q1) he X0
end
end L2
namespace HT
open PySem PyProof.Rows
section
open PySem.SeqAt
open PySem.AutoSeq1 (wpAny_loadPart')
open PySem.MeetsSeq PySem.MeetsSeq2 PySem.MeetsSeq3
end
section
variable{prog:Program}{w:World}{A:Around}{E:q0A}{s:Shared}
mutual
example:=[iS items.size items.size hi - iS items.size 0 lo,(Θ ⟨_,rfl,Θ h⟩),model prog w,.ref t,iS items.size 0 lo,(by decide),.ref sl,(if v < 0 then max (v+(n:Int)) 0 else min v (n:Int)),(if v < 0 then (v+(n:Int)).toNat else min v.toNat n),PySem.F.args_tuple_add_2 _ _,.ref s.heap.objs.size,(by simpa using hv)]
def Oa{t b:Addr}{vs ws:List Value}{Q:q0A}(ht:IsTup s.heap t vs.toArray)(hb:IsTup s.heap b ws.toArray)(hv:vs≠[])(h1:ws=[]->Q 3e0 s)(h2:ws≠[]->Q 0e1 {s with heap:=s.heap.push {cls:=.type "tuple",data:=.seq (vs++ws).toArray}})(hsz:vs.length+ws.length<=sizeLine):wpAny 2e0 A (binaryOp .Add 3e0 (.ref b)) Q E s:=by
 obtain⟨⟨cls,dd,data,sl⟩,ho,hc,n,hd⟩:=id ht;obtain⟨⟨ac0,dd2,data2,Zx⟩,X6,hc2,n2,hd2⟩:=id hb;simp only at hc hd hc2 hd2;subst hc hd hc2 hd2;have e:vs.toArray++ws.toArray=(vs++ws).toArray:=by simp
 by_cases hw:ws=[]
 ·exact concat_meets ⟨_,ho,rfl⟩ ⟨_,X6,rfl⟩ noFill_tuple_add seq_tuple_add PySem.F.slot_tuple_add PySem.F.entry_tuple_add 9e0
   (tuple_addW1 t b vs.toArray ws.toArray n n2 dd dd2 sl Zx 1e1 (by simp[hw])) ⟨ho,X6,h1 hw⟩
 ·refine concat_meets ⟨_,ho,rfl⟩ ⟨_,X6,rfl⟩ noFill_tuple_add seq_tuple_add PySem.F.slot_tuple_add PySem.F.entry_tuple_add 9e0
   (tuple_addW2 t b vs.toArray ws.toArray n n2 dd dd2 sl Zx 1e1 (by simpa using hw) (by rw[Ζ,Ζ];exact hsz)) ⟨ho,X6,?_⟩
  rw[e];exact h2 hw
def iS(n d:Nat):Option Int->Nat
 | none=>d
 | some v=>if v < 0 then (v+(n:Int)).toNat else min v.toNat n
theorem Ta(n d:Nat)(hd:d<=n)(o:Option Int):iS n d o<=n:=by
 cases o with
 | none=>exact hd
 | some v =>
  show 8e0<=n;by_cases hv:v < 0
  ·rw[if_pos hv];omega
  ·rw[if_neg hv];exact Nat.min_le_right _ _
theorem GN(v:Int)(n d:Nat):7e0=((iS n d (some v):Nat):Int):=by
 show 7e0=((8e0:Nat):Int);by_cases hv:v < 0
 ·simp only[if_pos hv];omega
 ·simp only[if_neg hv];omega
theorem EK(lo hi:Option Int)(n:Nat):Builtin.Slice.sliceAdjust lo hi 1 (n:Int)=(((iS n 0 lo:Nat):Int),((iS n n hi:Nat):Int)):=by
 have h1:¬ ((1:Int) < 0):=by omega
 unfold Builtin.Slice.sliceAdjust;simp only[h1,Β4];refine Prod.ext ?_ ?_
 ·cases lo with
  | none=>rfl
  | some v=>exact GN v n 0
 ·cases hi with
  | none=>rfl
  | some v=>exact GN v n n
theorem FU(i j:Nat):Builtin.Slice.slicePlaces (i:Int) (j:Int) 1=j - i:=by
 unfold Builtin.Slice.slicePlaces;have h1:(1:Int) > 0:=by omega
 simp only[h1,Γ1,Int.ediv_one];split<;>omega
def zU{v:Value}{o:Option Int}{Q:Option Int->Shared->Prop}(p:IsPart v o)(h:Q o s):wpAny 2e0 A (Builtin.Slice.slicePartIndex v) Q E s:=by
 cases p with
 | none=>exact slicePart_none h
 | int i t=>exact slicePart_int h
theorem t7{sl:Addr}{vl vu:Value}{lo hi:Option Int}{n:Nat}{Q:Int×Int×Nat->Shared->Prop}(hs:s.heap.IsSliceOf sl vl vu .none)(pl:IsPart vl lo)(pu:IsPart vu hi)(h:Q (((iS n 0 lo:Nat):Int),1,iS n n hi - iS n 0 lo) s):wpAny 2e0 A (Builtin.Slice.sliceApplied 6e0 (pure (n:Int))) Q E s:=by
 obtain⟨os,hos,hcs,Z0⟩:=id hs;unfold Builtin.Slice.sliceApplied Builtin.Slice.sliceFields;refine Β (Β (wpAny_field hos Z0 (x:=vl) rfl (Β (wpAny_field hos Z0 (x:=vu) rfl (Β (wpAny_field hos Z0 (x:=.none) rfl (Θ ?_)))))));refine Β (slicePart_none ?_);show wpAny _ _ (if ((1:Int)==0)=true then _ else _) _ _ s;rw[if_neg 5e0];refine Β (zU pl (Β (zU pu (Β (Θ ?_)))));show wpAny _ _ (match Builtin.Slice.sliceAdjust lo hi 1 (n:Int) with|(lo,hi)=>pure (lo,(1:Int),Builtin.Slice.slicePlaces lo hi 1)) _ _ s;rw[EK lo hi n];show wpAny _ _ (pure (((iS n 0 lo:Nat):Int),(1:Int),Builtin.Slice.slicePlaces ((iS n 0 lo:Nat):Int) ((iS n n hi:Nat):Int) 1)) _ _ s;rw[FU];exact Θ h
theorem ML(xs:Array Value)(i k:Nat):((List.range k).filterMap fun(m:Nat)=>xs[((i:Int)+(m:Int) * 1).toNat]?).toArray=((xs.toList.drop i).take k).toArray:=by
 have e:(fun(m:Nat)=>xs[((i:Int)+(m:Int) * 1).toNat]?)=fun m=>xs[i+m]?:=by
  funext m;have:((i:Int)+(m:Int) * 1).toNat=i+m:=by omega
  rw[this]
 rw[e];have:=pick_run xs i k;rw[List.filterMap_map] at this;have e2:((fun x=>xs[x]?)∘fun x=>i+x)=fun m=>xs[i+m]?:=rfl;rw[e2] at this;rw[this]
theorem rB{t sl:Addr}{items:Array Value}{vl vu:Value}{lo hi:Option Int}{Q:q0A}(ht:IsTup s.heap t items)(hs:s.heap.IsSliceOf sl vl vu .none)(pl:IsPart vl lo)(pu:IsPart vu hi)(hw:¬ (iS items.size 0 lo=0/\iS items.size items.size hi=items.size))(h:Q 0e1 {s with heap:=s.heap.push {cls:=.type "tuple",data:=.seq ((items.toList.drop 4e0).take 0e0).toArray}})(hsz:items.size<=sizeLine):wpAny 2e0 A (getItem 3e0 6e0) Q E s:=by
 have Za:sizeOk (.seq ((items.toList.drop 4e0).take 0e0).toArray):=by
  show((items.toList.drop 4e0).take 0e0).toArray.size<=sizeLine;rw[Ζ,Α7,List.length_drop,Γ3];omega
 have hj:iS items.size items.size hi<=items.size:=Ta _ _ (Ι _) hi;obtain⟨os,hos,hcs,Z0⟩:=id hs;have hTs:s.TypeIs 6e0 "slice":=⟨os,hos,hcs⟩;unfold getItem
 try with_reducible refine Β0 ?_
 first|refine Β (Θ ?_)|skip
 refine Β (wpAny_sequenceKey ht.typeIs 5e0 ?_);refine Β (wpAny_callSpecial?_slot (name:=Str.ofString "__getitem__") ht.typeIs PyProof.Rows.slot_tuple_getitem
  (wpAny_call_entry PyProof.Rows.slot_tuple_getitem ht.typeIs entry_tuple_getitem ?_ (args_tuple_getitem _ _)))
 show wpAny _ _ (Builtin.Tuple.tupleItemsOf 3e0 >>= _) _ _ s;refine Β (tupleItemsOf_ ht ?_);refine Β (wpAny_typeOf hTs ?_);rw[if_pos 5e0];refine Β (t7 hs pl pu ?_);have hno:¬ ((((iS items.size 0 lo:Nat):Int)==0&&(1:Int)==1&&0e0==items.size)=true):=by
  intro q;rw[Γ6,Γ6] at q;have q1:((iS items.size 0 lo:Nat):Int)=0:=eq_of_beq q.1.1;have q2:iS items.size items.size hi - iS items.size 0 lo=items.size:=eq_of_beq q.2;exact hw ⟨by omega,by omega⟩
 show wpAny _ _ (if (((iS items.size 0 lo:Nat):Int)==0&&(1:Int)==1&&0e0==items.size)=true then _ else _) _ _ s;rw[if_neg hno,ML]
 first
  | exact Β (m:=Builtin.Tuple.tupleExact _) (Β5 1e0 Za)
  | exact Β (m:=Builtin.Tuple.tupleExact _) (Β5 (Β (Θ 1e0)) Za)
  | exact Β (Β (m:=Builtin.Tuple.tupleExact _) (Β5 (Θ 1e0) Za))
  | exact Β (Β (m:=Builtin.Tuple.tupleExact _) (Β5 1e0 Za))
end
end
end HT
namespace L2
open PySem PySem.Spec PyProof.Rows
variable{a:Addr}{X:Cx}{H:Hp}{Xs:List (Addr×Obj)}{xs:List (List Key×Addr×Value)}{kvs:List (List Key×V)}{Y4:List (TE×TE)}{us:List Value}{n t':Nat}{o:Option V}{pos:Pos}{P:Program}{s:Shared}{σ:St}{y:V}{u:Value}{w:World}{Q:q0A}
mutual
example:=[]
abbrev TO:=St->Hp->(Option Int->Hp->Prop)->Prop
def PO(X:Cx)(e:Option Expr)(t:TO):Prop :=
 ∀(Xs:List (Addr×Obj)) (s:Shared) (σ:St) (H:Hp) (Q:Option Int->Hp->Prop),Xv X Xs σ H s->t σ H Q ->
  wpAny (model X.prog X.w) X.A (evalPart e X.env) (fun u s'=>∃ o H',Xv X Xs σ H' s'/\IsPart u o/\Q o H') X.xe s
def Ik:TO:=fun _ H Q=>Q none H
def Nw(t:TE):TO:=fun σ H Q=>t σ H fun x H1=>∃ i,x=.int i/\Q (some i) H1
def Fn{ns:List Int}:∀ {us:List Value},Xx (ns.map V.int) us->IntsAre us ns:=by
 induction ns with
 | nil=>intro us r;rw[List.map_nil] at r;cases r;exact .nil
 | cons n ns ih =>
  intro us r;rw[ϔ] at r;cases r with
  | cons r1 r2 =>
   obtain⟨t,e⟩:=r1;subst e;exact .cons n t (ih r2)
end
section
variable{e:Expr}{te:TE}{lo hi:Option Expr}{tl th:TO}{p2:Pos}
mutual
example:=[HT.iS xs.length xs.length hi - HT.iS xs.length 0 lo,HT.iS xs.length 0 lo,.Slice lo hi none p2,(fun b ob q=>Ε _ q),I.Xz.fresh (Ι _),model X.prog X.w,EP X Xs σ Q,sO xs lo hi]
def Px:PO X none Ik:=by
 intro Xs s σ H Q I h;rw[evalPart_none];exact Θ ⟨none,H,I,.none,h⟩
def mD(h:PE X e te):PO X (some e) (Nw te):=by
 intro Xs s σ H Q I hw;rw[evalPart_some];refine thn (h Xs s σ H _ I hw) fun u s1 ⟨x,H1,I1,r1,q1⟩=>?_;obtain⟨i,rfl,q⟩:=q1;obtain⟨t,rfl⟩:=r1;exact⟨some i,H1,I1,.int i t,q⟩
def NI(X:Cx)(r:V->Option Int->Option Int->Hp->VK->Prop):Prop :=
 ∀(Xs:List (Addr×Obj)) (s:Shared) (σ:St) (H:Hp) (x:V) (v vl vu:Value) (lo hi:Option Int) (sl:Addr) (Q:VK),Xv X Xs σ H s->bP x v->s.heap.IsSliceOf sl vl vu .none->IsPart vl lo->IsPart vu hi->r x lo hi H Q ->
  ∃ T id,typeLookup (.type T) "__getitem__"=pure (some (.builtin id))/\s.TypeIs v T/\wpAny 5e0 X.A (getItem v (.ref sl)) 6e0 X.xe s
def NI.or{r r':V->Option Int->Option Int->Hp->VK->Prop}(h:NI X r)(h':NI X r'):NI X (fun x lo hi H Q=>r x lo hi H Q\/r' x lo hi H Q):=by
 intro Xs s σ H x v vl vu lo hi sl Q I rx hs pl pu q;rcases q with q|q
 ·exact h Xs s σ H x v vl vu lo hi sl Q I rx hs pl pu q
 ·exact h' Xs s σ H x v vl vu lo hi sl Q I rx hs pl pu q
def Xi(r:V->Option Int->Option Int->Hp->VK->Prop)(te:TE)(tl th:TO):TE:=fun σ H Q=>te σ H fun x H1=>tl σ H1 fun l H2=>th σ H2 fun u H3=>r x l u H3 Q
def MH{r:V->Option Int->Option Int->Hp->VK->Prop}(hr:NI X r)(he:PE X e te)(hl:PO X lo tl)(hu:PO X hi th):PE X (.Subscript e 2e0 pos) (Xi r te tl th):=by
 intro Xs s σ H Q I h;refine Subscript_ (thn (he Xs s σ H _ I h) fun v s1 ⟨x,H1,I1,r1,q1⟩=>?_);refine wpAny_Slice (thn (hl Xs s1 σ H1 _ I1 q1) fun vl s2 ⟨l,H2,I2,pl,q2⟩=>thn (hu Xs s2 σ H2 _ I2 q2) fun vu s3 ⟨u,H3,I3,pu,q3⟩=>?_);rw[evalPart_none];refine Θ ?_;have I4:Xv X Xs σ H3 {s3 with heap:=s3.heap.push {cls:=.type "slice",data:=.fields #[vl,vu,.none]}}:=I3.kept (t':=s3.toks) fun b ob q=>Ε _ q;obtain⟨T,id,hT,ht,hg⟩:=hr Xs {s3 with heap:=s3.heap.push {cls:=.type "slice",data:=.fields #[vl,vu,.none]}} σ H3 x v vl vu l u s3.heap.objs.size Q I4 r1 (Heap.IsSliceOf.new ..) pl pu q3;show wpAny 5e0 X.A (subscriptTail e 2e0 v (.ref s3.heap.objs.size)) 6e0 X.xe {s3 with heap:=s3.heap.push {cls:=.type "slice",data:=.fields #[vl,vu,.none]}};exact tail_any (ops:=[.ref s3.heap.objs.size,v]) ht hT hg (by with_unfolding_all rfl)
def sO(xs:List V)(lo hi:Option Int):List V:=(xs.drop 1e0).take 0e0
theorem uB(xs:List V)(lo hi:Option Int):(sO xs lo hi).length<=xs.length:=by
 unfold sO;rw[Α7,List.length_drop];omega
def WY(K:q0B):V->Option Int->Option Int->Hp->VK->Prop:=fun x lo hi H Q=>∃ a xs,x=.ref a/\jC K H a xs /\
 ¬ (HT.iS xs.length 0 lo=0/\HT.iS xs.length xs.length hi=xs.length)/\∀ p,H p=none->Q (.ref p) (Xt H p (.tup 7e0))
def Tc:NI X (WY X.K):=by
 intro Xs s σ H x v vl vu lo hi sl Q I rx hs pl pu h;obtain⟨a,xs,rfl,hx,hw,q⟩:=h;cases rx;obtain⟨Xw,r,ht,hz⟩:=I.tuple hx;have hlen:Xw.toArray.size=xs.length:=by rw[Ζ];exact r.length.symm
 refine⟨"tuple",_,PyProof.Rows.slot_tuple_getitem.lookup,ht.typeIs,?_⟩;refine HT.rB ht hs pl pu (by rw[hlen];exact hw) ?_ (by rw[hlen];exact hz);rw[hlen];refine⟨.ref s.heap.objs.size,_,I.laid (t':=s.toks) (o:=.tup 7e0) 3e0 (Ι _) ?_,rfl,q _ 4e0⟩;exact⟨Ω (uB xs lo hi) hz,_,(r.drop 1e0).take 0e0,IsTup.new _ _⟩
def Vq(K:q0B):R2:=fun x y H Q=>∃ a b xs ys,x=.ref a/\y=.ref b/\jC K H a xs/\jC K H b ys/\xs≠[]/\xs.length+ys.length<=sizeLine /\
 (ys=[]->Q (.ref a) H)/\(ys≠[]->∀ p,H p=none->Q (.ref p) (Xt H p (.tup (xs++ys))))
def Xx.vN{xs:List V}(r:Xx xs us):us=[]↔xs=[]:=by
 cases r with
 | nil=>simp
 | cons _ _=>simp
def Hw:j7 X (binaryOp .Add) (Vq X.K):=by
 intro Xs s σ H x y v u Q I rx ry h;obtain⟨a,b,xs,ys,rfl,rfl,ha,hb,hx,hz,q1,q2⟩:=h;cases rx;cases ry;obtain⟨Xw,r1,p1,_⟩:=I.tuple ha;obtain⟨Yn,r2,p2,_⟩:=I.tuple hb;refine HT.Oa p1 p2 (fun z=>hx (r1.vN.mp z)) (fun z=>⟨.ref a,H,I,rfl,q1 (r2.vN.mp z)⟩) (fun z=>?_) (by rw[<- r1.length,<- r2.length];exact hz);refine⟨.ref s.heap.objs.size,_,I.laid (t':=s.toks) (o:=.tup (xs++ys)) 3e0 (Ι _) ?_,rfl,q2 (fun w=>z (r2.vN.mpr w)) _ 4e0⟩;exact⟨by rw[Μ];exact hz,_,r1.append r2,IsTup.new _ _⟩
end
end
mutual
example:=[(by omega),model X.prog X.w,EP X Xs σ Q,Addr×Obj]
def Az(n:Nat)(i:Int):Option Nat:=if 0<=i then (if i < n then some i.toNat else none) else if -(n:Int)<=i then some (i+n).toNat else none
def hE{α:Type}(xs:List α)(i:Int):Option α:=(Az xs.length i).bind fun j=>xs[j]?
theorem Hm{i:Int}{j:Nat}(h:Az n i=some j):seqIndex? i n=some j/\j < n/\-(n:Int)<=i/\i < n:=by
 unfold Az at h;by_cases h0:0<=i
 ·rw[if_pos h0] at h;by_cases h1:i < n
  ·rw[if_pos h1] at h;have e:i.toNat=j:=ϗ h;exact⟨by rw[seqIndex_of h0 h1,e],by omega,by omega,h1⟩
  ·rw[if_neg h1] at h;cases h
 ·rw[if_neg h0] at h;by_cases h1:-(n:Int)<=i
  ·rw[if_pos h1] at h;have e:(i+n).toNat=j:=ϗ h;exact⟨by rw[seqIndex_neg 0e0 h1,e],by omega,h1,by omega⟩
  ·rw[if_neg h1] at h;cases h
def vD{α:Type}{xs:List α}{i:Int}{v:α}(h:hE xs i=some v):∃ j,seqIndex? i xs.length=some j/\xs[j]?=some v/\j < xs.length/\-(xs.length:Int)<=i/\i < xs.length:=by
 unfold hE at h;cases e:Az xs.length i with
 | none=>rw[e] at h;cases h
 | some j =>
  rw[e] at h;obtain⟨h1,h2,h3,h4⟩:=Hm e;exact⟨j,h1,h,h2,h3,h4⟩
theorem eD{α:Type}{xs:List α}{j:Nat}{v:α}(h:xs[j]?=some v):hE xs (j:Int)=some v:=by
 have hj:j < xs.length:=(Ν.mp h).1;have e:Az xs.length (j:Int)=some j:=by
  unfold Az;rw[if_pos 0e0,if_pos 0e0];simp
 unfold hE;rw[e];exact h
theorem kR{α:Type}(xs:List α)(v:α):hE (xs++[v]) (-1)=some v:=by
 have hl:(xs++[v]).length=xs.length+1:=by simp
 have e:Az (xs++[v]).length (-1)=some xs.length:=by
  unfold Az;rw[hl,if_neg (by decide),if_pos 0e0]
  congr 1
  omega
 unfold hE;rw[e];show(xs++[v])[xs.length]?=some v;simp
def GC(b:Expr):Prop:=∀ o i,subscripted b false o i=operate [o,i] (getItem o i)
def Gz(X:Cx)(r:R2):Prop :=
 ∀(value slice:Expr) (Xs:List 3e0) (s:Shared) (σ:St) (H:Hp) (x y:V) (v u:Value) (Q:VK),Xv X Xs σ H s->bP x v->bP y u->r x y H Q ->
  subscripted slice false v u=operate [v,u] (getItem v u)->wpAny 1e0 X.A (subscriptTail value slice v u) 2e0 X.xe s
def Xl(X:Cx)(id:String)(r:V->List V->Hp->VK->Prop):Prop :=
 ∀(Xs:List 3e0) (s:Shared) (σ:St) (H:Hp) (x:V) (xs:List V) (v:Value) (us:List Value) (Q:VK),Xv X Xs σ H s->bP x v->Xx xs us->r x xs H Q ->
  wpAny 1e0 X.A (call (.builtin id) (v::us)) 2e0 X.xe s
end
section
variable{a b:Expr}{ta tb:TE}
mutual
example:=[Fi x,(by omega),(fun w hw=>nK rx fx r fs w (by simpa using hw)),.tup ys,.lst xs,(by rw[hk];exact⟨_,I',q⟩),Xt H p (.lst (xs.set j v)),(by rw[hj];simpa using ew),(by rw[Ζ]<;>omega),sO xs lo hi]
def Gz.or{r r':R2}(h:Gz X r)(h':Gz X r'):Gz X (fun x y H Q=>r x y H Q\/r' x y H Q):=by
 intro value slice Xs s σ H x y v u Q I rx ry q hs;rcases q with q|q
 ·exact h value slice Xs s σ H x y v u Q I rx ry q hs
 ·exact h' value slice Xs s σ H x y v u Q I rx ry q hs
def Vm{r:R2}(hr:Gz X r)(ha:PE X a ta)(hb:PE X b tb)(hs:GC b):PE X (.Subscript a b pos) (Qb r ta tb):=by
 intro Xs s σ H Q I h;exact Subscript_ (QY ha hb I h fun v u s2 x y H2 I2 rx ry q=>hr a b Xs s2 σ H2 x y v u Q I2 rx ry q (hs _ _))
def Vr(K:q0B):R2:=fun x y H Q=>∃ p xs i v,x=.ref p/\y=.int i/\gE K H p xs/\hE xs i=some v/\Q v H
def Vt(K:q0B):R2:=fun x y H Q=>∃ p xs i v,x=.ref p/\y=.int i/\jC K H p xs/\hE xs i=some v/\Q v H
def Vs:R2:=fun x y H Q=>∃ z i c,x=.str z/\y=.int i/\z.length<=sizeLine/\hE z.cps.toList i=some c/\Q (.str ⟨#[c]⟩) H
theorem Hn:Gz X (Vr X.K):=by
 intro value slice Xs s σ H x y v u Q I rx ry h hs;obtain⟨p,xs,i,z,rfl,rfl,hq,he,q⟩:=h;cases rx;obtain⟨t,rfl⟩:=ry;obtain⟨Xw,r,pl,hz⟩:=I.list hq;obtain⟨j,h1,h2,h3,h4,h5⟩:=vD he;obtain⟨w,ew,Yo⟩:=r.get h2;have hl:=r.length;have hn:=line63;have fin:EP X Xs σ Q w s:=⟨z,H,I,Yo,q⟩;by_cases h0:0<=i
 ·have hj:i.toNat=j:=by
   rw[seqIndex_of h0 h5] at h1;exact ϗ h1
  exact item_listR pl.isList h0 1e0 7e0 fin hs
 ·have hj:(i+(Xw.toArray.size:Int)).toNat=j:=by
   rw[seqIndex_neg 1e0 h4] at h1;rw[Ζ,<- hl];exact ϗ h1
  exact subscriptTail_builtinR (x:=w) pl.isList.typeIs slot_list_getitem.lookup
   (wpAny_getItem_list_neg (Q:=fun r s'=>r=w/\EP X Xs σ Q r s') pl.isList 1e0 8e0 1e0 7e0 ⟨rfl,fin⟩) hs
theorem Sy:Gz X (Vt X.K):=by
 intro value slice Xs s σ H x y v u Q I rx ry h hs;obtain⟨p,xs,i,z,rfl,rfl,hq,he,q⟩:=h;cases rx;obtain⟨t,rfl⟩:=ry;obtain⟨Xw,r,pl,hz⟩:=I.tuple hq;obtain⟨j,h1,h2,h3,h4,h5⟩:=vD he;obtain⟨w,ew,Yo⟩:=r.get h2;have hl:=r.length;have hn:=line63;have fin:EP X Xs σ Q w s:=⟨z,H,I,Yo,q⟩;exact subscriptTail_builtinR (x:=w) pl.typeIs slot_tuple_getitem.lookup
  (getItem_tuple (j:=j) (Q:=fun r s'=>r=w/\EP X Xs σ Q r s') pl 1e0 1e0 (by rw[Ζ,<- hl];exact h1) (by simpa using ew) ⟨rfl,fin⟩) hs
theorem Sx:Gz X Vs:=by
 intro value slice Xs s σ H x y v u Q I rx ry h hs;obtain⟨z,i,c,rfl,rfl,hz,he,q⟩:=h;obtain⟨t,rfl⟩:=rx;obtain⟨t',rfl⟩:=ry;obtain⟨j,h1,h2,h3,h4,h5⟩:=vD he;have hl:z.cps.toList.length=z.length:=by simp[Str.length]
 rw[hl] at h1 h4 h5;have hn:=line63;exact tail_any (typeIs_str s z t) slot_str_getitem.lookup (getItem_str (c:=c) (by
  have e1:decide (i < -(2 ^ 63:Int))=false:=Β7 1e0;have e2:decide (i >= 2 ^ 63)=false:=Β7 1e0;rw[e1,e2,Bool.or_false]) (by rw[h1];simpa using h2) ⟨.str ⟨#[c]⟩,H,I.tok _,⟨_,rfl⟩,q⟩) hs
def Xo(K:q0B):R2:=fun x y H Q=>Vr K x y H Q\/Vt K x y H Q\/Vs x y H Q
def Sw:Gz X (Xo X.K):=Hn.or (Sy.or Sx)
def Fu(Xw:List Value)(n j:Nat)(u:Value):Obj.mapSeq (·.setIfInBounds j u) {cls:=.type "list",data:=.seq Xw.toArray n}={cls:=.type "list",data:=.seq (Xw.set j u).toArray n}:=by
 simp[Obj.mapSeq]
def Xv.lst{p:Addr}{xs:List V}(I:Xv X Xs σ H s)(h:H p=some 4e0) : ∃(Xw:List Value) (n:Nat),Xx xs Xw/\s.heap.get? p=some {cls:=.type "list",data:=.seq Xw.toArray n}/\xs.length<=sizeLine:=by
 obtain⟨z,Xw,n,r,e⟩:=I.Xz p _ h;exact⟨Xw,n,r,e,z⟩
def Xv.SE{p:Addr}{xs ys:List V}{Xw its':List Value}{n':Nat}{f:Obj->Obj}(I:Xv X Xs σ H s)(h:H p=some 4e0)(ho:s.heap.get? p=some {cls:=.type "list",data:=.seq Xw.toArray n})(hf:f {cls:=.type "list",data:=.seq Xw.toArray n}={cls:=.type "list",data:=.seq its'.toArray n'})(r:Xx ys its')(hz:ys.length<=sizeLine)(t:Nat) : Xv X Xs σ (Xt H p (.lst ys)) {s with heap:=s.heap.update p f,toks:=t}:=by
 have e:(s.heap.update p f).get? p=some {cls:=.type "list",data:=.seq its'.toArray n'}:=by
  rw[Heap.get?_update_self f ho (by rw[hf]<;>rfl),hf]
 refine I.write (x:=p) (e:=p) (by rw[h];trivial) (.inl rfl) (fun b u hb q=>(Heap.get?_update_other _ _ (Ne.symm hb)).trans q) ⟨_,e⟩ ?_;exact⟨hz,its',n',r,e⟩
def Vv:V->V->V->Hp->(Hp->Prop)->Prop:=fun o i v H Q=>∃ p xs k j,o=.ref p/\i=.int k/\H p=some 4e0/\Az xs.length k=some j/\Q 6e0
theorem MU:PSet X Vv:=by
 intro Xs s σ H o i v ov iv u Q I ro ri rv h;obtain⟨p,xs,k,j,rfl,rfl,hp,hj,q⟩:=h;cases ro;obtain⟨t,rfl⟩:=ri;obtain⟨Xw,n,r,ho,hz⟩:=I.lst hp;obtain⟨h1,h2,h3,h4⟩:=Hm hj;have hl:=r.length;have hn:=line63;have I':Xv X Xs σ 6e0 {s with heap:=s.heap.update p (Obj.mapSeq (·.setIfInBounds j u))} :=
  I.SE hp ho (Fu Xw n j u) (r.set rv j) (by rw[List.length_set];exact hz) s.toks
 by_cases h0:0<=k
 ·have hk:k.toNat=j:=by
   rw[seqIndex_of h0 h4] at h1;exact ϗ h1
  exact PySem.W.ki_setAt ho h0 1e0 (by rw[Ζ,<- hl];exact h4) 5e0
 ·have hk:(k+(Xw.toArray.size:Int)).toNat=j:=by
   rw[seqIndex_neg 1e0 h3] at h1;rw[Ζ,<- hl];exact ϗ h1
  exact PySem.W.ki_setBack ho 1e0 (by rw[Ζ,<- hl];exact h3) 1e0 5e0
theorem Cv(lo hi:Option Int)(n:Nat):(sliceBounds lo hi none n).1=((HT.iS n 0 lo:Nat):Int)/\(sliceBounds lo hi none n).2.1=((HT.iS n n hi:Nat):Int)/\(sliceBounds lo hi none n).2.2=1:=by
 refine⟨?_,?_,rfl⟩
 ·cases lo with
  | none=>simp[sliceBounds,HT.iS]
  | some i =>
   simp only[sliceBounds,HT.iS,Option.getD_none,show(1:Int) > 0 by decide,Γ1];by_cases h:i < 0
   ·simp only[h,Γ1]<;>omega
   ·simp only[h,Β4]<;>omega
 ·cases hi with
  | none=>simp[sliceBounds,HT.iS]
  | some i =>
   simp only[sliceBounds,HT.iS,Option.getD_none,show(1:Int) > 0 by decide,Γ1];by_cases h:i < 0
   ·simp only[h,Γ1]<;>omega
   ·simp only[h,Β4]<;>omega
def AF(Xw:List Value)(lo hi:Option Int):slicePick Xw.toArray lo hi none=((Xw.drop (HT.iS Xw.length 0 lo)).take (HT.iS Xw.length Xw.length hi - HT.iS Xw.length 0 lo)).toArray:=by
 obtain⟨h1,h2,h3⟩:=Cv lo hi Xw.toArray.size;unfold slicePick;rw[h1,h2,h3];simp only[sliceRange_one,pick_run,Ζ]<;>rfl
def WW(K:q0B):V->Option Int->Option Int->Hp->VK->Prop:=fun x lo hi H Q=>∃ a xs,x=.ref a/\gE K H a xs/\∀ p,H p=none->Q (.ref p) (Xt H p (.lst 9e0))
theorem PY:NI X (WW X.K):=by
 intro Xs s σ H x v vl vu lo hi sl Q I rx hs pl pu h;obtain⟨a,xs,rfl,hx,q⟩:=h;cases rx;obtain⟨Xw,r,ht,hz⟩:=I.list hx;have hlen:=r.length;refine⟨"list",_,slot_list_getitem.lookup,ht.isList.typeIs,?_⟩;refine wpAny_getItem_list_slice ht.isList hs pl pu .none (by simp) ?_ 8e0;rw[AF,<- hlen];refine⟨.ref s.heap.objs.size,_,I.laid (t':=s.toks) (o:=.lst 9e0) (fun b ob q=>Ε _ q) (Ι _) ?_,rfl,q _ (I.Xz.fresh (Ι _))⟩;exact⟨Ω (uB xs lo hi) hz,_,0,(r.drop (HT.iS xs.length 0 lo)).take (HT.iS xs.length xs.length hi - HT.iS xs.length 0 lo),Τ _ rfl⟩
def eI:V->Bool
 | .Xu=>true
 | .bl _=>true
 | .int _=>true
 | .str _=>true
 | _=>false
def nB:V->V->Bool
 | .Xu,.Xu=>true
 | .bl a,.bl b=>a==b
 | .bl a,.int b=>(if a then 1 else 0)==b
 | .int a,.bl b=>a==(if b then 1 else 0)
 | .int a,.int b=>a==b
 | .str a,.str b=>a==b
 | _,_=>false
def LF{A:Around}{x:V}{v:Value}(ry:bP y u)(rx:bP x v)(fy:eI y=true)(fx:eI x=true):SeqAt.EqAt A s u v (nB y x):=by
 cases y with
 | Xu =>
  cases ry;cases x with
  | Xu=>cases rx;exact SeqAt.EqAt.same _
  | bl b=>cases rx;exact SeqAt.EqAt.none_bool b
  | int b=>obtain⟨t,rfl⟩:=rx;exact SeqAt.EqAt.none_int b t
  | str b=>obtain⟨t,rfl⟩:=rx;exact SeqAt.EqAt.none_str b t
  | _=>exact absurd (show false=true from fx) Χ
 | bl a =>
  cases ry;cases x with
  | Xu=>cases rx;exact SeqAt.EqAt.bool_none a
  | bl b=>cases rx;exact SeqAt.EqAt.bool_bool a b
  | int b=>obtain⟨t,rfl⟩:=rx;exact SeqAt.EqAt.bool_int a b t
  | str b=>obtain⟨t,rfl⟩:=rx;exact SeqAt.EqAt.bool_str a b t
  | _=>exact absurd (show false=true from fx) Χ
 | int a =>
  obtain⟨t',rfl⟩:=ry;cases x with
  | Xu=>cases rx;exact SeqAt.EqAt.int_none a t'
  | bl b=>cases rx;exact SeqAt.EqAt.int_bool a t' b
  | int b=>obtain⟨t,rfl⟩:=rx;exact SeqAt.EqAt.int_int a t' b t
  | str b=>obtain⟨t,rfl⟩:=rx;exact SeqAt.EqAt.int_str a t' b t
  | _=>exact absurd (show false=true from fx) Χ
 | str a =>
  obtain⟨t',rfl⟩:=ry;cases x with
  | Xu=>cases rx;exact SeqAt.EqAt.str_none a t'
  | bl b=>cases rx;exact SeqAt.EqAt.str_bool a t' b
  | int b=>obtain⟨t,rfl⟩:=rx;exact SeqAt.EqAt.str_int a t' b t
  | str b=>obtain⟨t,rfl⟩:=rx;exact SeqAt.EqAt.str_str a t' b t
  | _=>exact absurd (show false=true from fx) Χ
 | _=>exact absurd (show false=true from fy) Χ
def Fi(x:V)(u:Value):Bool:=match u with
 | .none=>nB .Xu x
 | .bool b=>nB (.bl b) x
 | .int i _=>nB (.int i) x
 | .str z _=>nB (.str z) x
 | _=>false
def LG{x:V}(r:bP y u)(f:eI y=true):Fi x u=nB y x:=by
 cases y with
 | Xu=>cases r;rfl
 | bl b=>cases r;rfl
 | int i=>obtain⟨t,rfl⟩:=r;rfl
 | str z=>obtain⟨t,rfl⟩:=r;rfl
 | _=>exact absurd (show false=true from f) Χ
theorem qS{x:V}:∀ {xs:List V} {us:List Value},Xx xs us->xs.all eI=true->us.any 0e0=xs.any fun y=>nB y x
 | _,_,.nil,_=>rfl
 | y::xs,u::us,.cons r t,f=>by
  rw[List.all_cons,Γ6] at f;rw[List.any_cons,List.any_cons,LG r f.1,qS t f.2]
theorem nK{A:Around}{s:Shared}{x:V}{v:Value}(rx:bP x v)(fx:eI x=true):∀ {xs:List V} {us:List Value},Xx xs us->xs.all eI=true->∀ u∈us,SeqAt.EqAt A s u v (Fi x u)
 | _,_,.nil,_=>fun u hu=>by cases hu
 | y::xs,u::us,.cons r t,f=>fun u' hu=>by
  rw[List.all_cons,Γ6] at f;rcases Α.mp hu with rfl|hu
  ·rw[LG r f.1];exact LF r rx f.1 fx
  ·exact nK rx fx t f.2 u' hu
def pD(x:V)(xs:List V):Bool:=xs.any fun y=>nB y x
def Xe(K:q0B)(neg:Bool):R2:=fun x y H Q=>∃ p xs,y=.ref p/\(gE K H p xs\/jC K H p xs)/\eI x=true/\xs.all eI=true/\Q (.bl (if neg then !pD x xs else pD x xs)) H
def JD:j7 X (compareOp .In) (Xe X.K false):=by
 intro Xs s σ H x y v u Q I rx ry h;obtain⟨p,xs,rfl,hq,fx,fs,q⟩:=h;cases ry;rcases hq with hq|hq
 ·obtain⟨Xw,r,pl,hz⟩:=I.list hq;refine SeqAt.in_listAt 0e0 pl.isList 2e0 ⟨.bl _,H,I,rfl,?_⟩;rw[show Xw.toArray.any 0e0=Xw.any 0e0 by simp,qS r fs];exact q
 ·obtain⟨Xw,r,pl,hz⟩:=I.tuple hq;refine SeqAt.in_tupleAt 0e0 pl 2e0 ⟨.bl _,H,I,rfl,?_⟩;rw[show Xw.toArray.any 0e0=Xw.any 0e0 by simp,qS r fs];exact q
def Cn:j7 X (compareOp .NotIn) (Xe X.K true):=by
 intro Xs s σ H x y v u Q I rx ry h;obtain⟨p,xs,rfl,hq,fx,fs,q⟩:=h;cases ry;rcases hq with hq|hq
 ·obtain⟨Xw,r,pl,hz⟩:=I.list hq;refine SeqAt.notIn_listAt 0e0 pl.isList 2e0 ⟨.bl _,H,I,rfl,?_⟩;rw[show Xw.toArray.any 0e0=Xw.any 0e0 by simp,qS r fs];exact q
 ·obtain⟨Xw,r,pl,hz⟩:=I.tuple hq;refine SeqAt.notIn_tupleAt 0e0 pl 2e0 ⟨.bl _,H,I,rfl,?_⟩;rw[show Xw.toArray.any 0e0=Xw.any 0e0 by simp,qS r fs];exact q
theorem As:hJ X (.type "tuple") (fun xs H Q=>∃ p ys,xs=[.ref p]/\((gE X.K H p ys/\∀ l,H l=none->Q (.ref l) (Xt H l 3e0))\/(jC X.K H p ys/\Q (.ref p) H))):=by
 intro Xs s σ H xs us Q I r h;obtain⟨p,ys,rfl,h⟩:=h;obtain⟨u,rfl,rx⟩:=vals1 r;cases rx;rcases h with⟨hq,q⟩|⟨hq,q⟩
 ·obtain⟨Xw,r',pl,hz⟩:=I.list hq;have hlen:=r'.length;refine call_tuple_list pl.isList (fun h' kp=>?_) (by simp only[Ζ]<;>omega);have I1:Xv X Xs σ H {s with heap:=h'}:=I.kept (t':=s.toks) kp;have I2:Xv X Xs σ (Xt H h'.objs.size 3e0) {s with heap:=h'.push {cls:=.type "tuple",data:=.seq Xw.toArray}} :=
   I1.laid (t':=s.toks) (fun b o e=>Ε _ e) (Ι _) (show eB X.prog X.w _ _ _ 3e0 from ⟨hz,Xw,r',IsTup.new _ _⟩)
  exact⟨.ref h'.objs.size,_,I2,rfl,q _ (I1.Xz.fresh (Ι _))⟩
 ·obtain⟨Xw,r',pl,hz⟩:=I.tuple hq;exact call_tuple_same pl ⟨.ref p,H,I,rfl,q⟩
def Xp(K:q0B)(T:String)(x:V)(H:Hp):Prop:=match x with
  | .str _=>T = "str"
  | .int _=>T = "int"
  | .ref p=>(T = "list"/\∃ xs,gE K H p xs)\/(T = "tuple"/\∃ o,K.lookup p=some o/\o.cls=.type "tuple"/\o.dict=none) \/
      (T = "dict"/\((∃ kvs,H p=some (.dK kvs))\/∃ kvs,H p=some (.dT kvs)))\/(T = "set"/\∃ S n,H p=some (.set S n))
  | _=>False
def Gu{T:String}{x:V}{v:Value}(I:Xv X Xs σ H s)(r:bP x v)(ty:Xp X.K T x H) : s.TypeIs v T/\∀ a,v=.ref a->∃ ob,s.heap.get? a=some ob/\ob.dict=none:=by
 cases x with
 | str z =>
  obtain⟨t,rfl⟩:=r;cases (show T = "str" from ty);exact⟨typeIs_str s z t,fun _ e=>nomatch e⟩
 | int i =>
  obtain⟨t,rfl⟩:=r;cases (show T = "int" from ty);exact⟨typeIs_int s i t,fun _ e=>nomatch e⟩
 | ref p =>
  cases r;rcases ty with⟨rfl,xs,hq⟩|⟨rfl,o,hk,hc,hd⟩|⟨rfl,hk⟩|⟨rfl,S,n,hk⟩
  ·obtain⟨Xw,_,pl,_⟩:=I.list hq;refine⟨pl.isList.typeIs,fun a e=>?_⟩;cases e;obtain⟨o,n,e,c,hd,_⟩:=pl;exact⟨o,e,hd⟩
  ·refine⟨⟨o,I.kIn p o hk,hc⟩,fun a e=>?_⟩;cases e;exact⟨o,I.kIn _ o hk,hd⟩
  ·have z:∃ o,s.heap.get? p=some o/\o.ExactDict:=by
    rcases hk with⟨kvs,hk⟩|⟨kvs,hk⟩
    ·obtain⟨_,_,_,_,o,_,_,e,ex,_⟩:=I.Xz p _ hk;exact⟨o,e,ex⟩
    ·obtain⟨_,_,_,_,o,_,_,e,ex,_⟩:=I.Xz p _ hk;exact⟨o,e,ex⟩
   obtain⟨o,e,ex⟩:=z;refine⟨⟨o,e,ex.1⟩,fun a e2=>?_⟩;cases e2;exact⟨o,e,ex.2.1⟩
  ·obtain⟨o,_,_,_,e,ex,_⟩:=I.Xz p _ hk;refine⟨⟨o,e,ex.1⟩,fun a e2=>?_⟩;cases e2;exact⟨o,e,ex.2.1⟩
 | _=>exact False.elim ty
end
variable{o e:Expr}{es:List Expr}{to:TE}{t:TA}{name:Str}{apos XB:Pos}{T id:String}{r:V->List V->Hp->VK->Prop}
end
mutual
example:=[]
def Qj(X:Cx)(id:String)(r:V->List V->Hp->VK->Prop):Prop :=
 ∀(Xs:List (Addr×Obj)) (s:Shared) (σ:St) (H:Hp) (x:V) (xs:List V) (v:Value) (us:List Value) (Q:VK),Xv X Xs σ H s->bP x v->Xx xs us->r x xs H Q ->
  wpAny (model X.prog X.w) X.A (call (.builtin id) (v::us)) (EP X Xs σ Q) X.xe s
def Xx.one{x:V}(h:Xx [x] us):∃ u,us=[u]/\bP x u:=by
 cases h with
 | cons r t=>cases t;exact⟨_,rfl,r⟩
theorem Xx.zero:∀ {us:List Value},Xx [] us->us=[]
 | _,.nil=>rfl
def Xx.dropLast{xs:List V}(h:Xx xs us):Xx xs.dropLast us.dropLast:=by
 induction h with
 | nil=>exact .nil
 | cons r t ih =>
  cases t with
  | nil=>exact .nil
  | cons q t'=>exact .cons r ih
theorem Xx.eraseIdx:∀ {xs:List V} {us:List Value} (i:Nat),Xx xs us->Xx (xs.eraseIdx i) (us.eraseIdx i)
 | _,_,_,.nil=>.nil
 | _,_,0,.cons _ t=>t
 | _,_,i+1,.cons r t=>.cons r (Xx.eraseIdx i t)
theorem Fj{α:Type}(l:List α):l.eraseIdx (l.length - 1)=l.dropLast:=by
 induction l with
 | nil=>rfl
 | cons a r ih =>
  cases r with
  | nil=>rfl
  | cons b r =>
   have e:(a::b::r).length - 1=((b::r).length - 1)+1:=by
    have h1:(a::b::r).length=r.length+2:=rfl;have h2:(b::r).length=r.length+1:=rfl;omega
   rw[e,List.eraseIdx_cons_succ,ih]
   all_goals rfl
theorem tG{α:Type}:∀(l:List α) (i:Nat),(l.eraseIdx i).length<=l.length
 | [],_=>Ι _
 | _::_,0=>Δ4 _
 | _::r,i+1=>Nat.succ_le_succ (tG r i)
end
section
variable{l b:Addr}{xs ys zs:List V}
mutual
example:=[Obj.mapSeq f]
def Xv.yJ{Xw its':List Value}{f:Array Value->Array Value}(I:Xv X Xs σ H s)(hH:H l=some (.lst xs))(e:s.heap.get? l=some {cls:=.type "list",data:=.seq Xw.toArray n})(hf:f Xw.toArray=its'.toArray)(hv:Xx ys its')(hz:ys.length<=sizeLine) : Xv X Xs σ (Xt H l (.lst ys)) {s with heap:=s.heap.update l 0e0,toks:=t'}:=by
 have q:=PySem.IsL.update e f;rw[hf] at q;refine I.write (x:=l) (e:=l) (by rw[hH];exact trivial) (.inl rfl) (fun b' u hb hu=>(Heap.get?_update_other s.heap 0e0 (Ne.symm hb)).trans hu) ⟨_,q⟩ ?_;exact⟨hz,its',_,hv,q⟩
def Xv.Pe{Xw:List Value}(I:Xv X Xs σ H s)(hv:Xx ys Xw)(hz:ys.length<=sizeLine) : Xv X Xs σ (Xt H s.heap.objs.size (.lst ys)) {s with heap:=s.heap.push {cls:=.type "list",data:=.seq Xw.toArray},toks:=t'} :=
 I.laid (fun _ _ q=>Ε _ q) (Ι _) ⟨hz,Xw,0,hv,Τ _ rfl⟩
def Xv.fresh(I:Xv X Xs σ H s):H s.heap.objs.size=none:=I.Xz.fresh (Ι _)
def Xv.Cd(I:Xv X Xs σ H s)(hH:H l=some (.lst xs)):xs.length<=sizeLine/\∃(Xw:List Value) (n:Nat),Xx xs Xw/\xs.length=Xw.length/\s.heap.get? l=some {cls:=.type "list",data:=.seq Xw.toArray n}:=by
 obtain⟨z,Xw,n,r,e⟩:=I.Xz l _ hH;exact⟨z,Xw,n,r,r.length,e⟩
theorem Mj(h:n<=sizeLine):Builtin.List.listTooLong n=false:=by
 unfold Builtin.List.listTooLong;exact Β7 (by omega)
end
end
section
mutual
example:=[.lst xs,(by rw[Ζ];omega),.lst (xs++zs),r.append r2]
def PL:V->List V->Hp->VK->Prop:=fun x vs H Q=>∃ l xs y,x=.ref l/\vs=[y]/\H l=some 0e0/\xs.length < sizeLine/\Q .Xu (Xt H l (.lst (xs++[y])))
theorem Jr:Qj X "list.append" PL:=by
 intro Xs s σ H x vs v us Q I rx rv h;obtain⟨l,xs,y,rfl,rfl,hH,hz,q⟩:=h;cases rx;obtain⟨u,rfl,ru⟩:=rv.one;obtain⟨z,Xw,n,r,hl,e⟩:=I.Cd hH;refine call_meets F.slot_list_append ⟨_,e,rfl⟩ F.entry_list_append (F.args_list_append_2 _ _) (PySem.list_append l Xw.toArray n u 1e0) ⟨e,?_⟩;refine⟨.Xu,_,I.yJ (its':=Xw++[u]) hH e (by simp) (r.append (.cons ru .nil)) ?_,rfl,q⟩;rw[Μ,List.length_singleton];omega
def PM:V->List V->Hp->VK->Prop:=fun x vs H Q=>∃ l b xs zs,x=.ref l/\vs=[.ref b]/\H l=some 0e0/\H b=some (.lst zs)/\xs.length+zs.length<=sizeLine/\Q .Xu (Xt H l 2e0)
theorem Js:Qj X "list.extend" PM:=by
 intro Xs s σ H x vs v us Q I rx rv h;obtain⟨l,b,xs,zs,rfl,rfl,hH,hB,hz,q⟩:=h;cases rx;obtain⟨u,rfl,ru⟩:=rv.one;cases ru;obtain⟨z,Xw,n,r,hl,e⟩:=I.Cd hH;obtain⟨z2,Yn,n2,r2,hl2,e2⟩:=I.Cd hB;have hsz:Xw.toArray.size+Yn.toArray.size<=sizeLine:=by rw[Ζ,Ζ];omega
 have abF:¬ (!Xw.toArray.isEmpty&&Builtin.List.listTooLong (Xw.toArray.size+Yn.toArray.size))=true:=by
  rw[Mj hsz,Bool.and_false];exact Χ
 refine call_meets F.slot_list_extend ⟨_,e,rfl⟩ F.entry_list_extend (F.args_list_extend_2 _ _)
  (AutoSeq1.list_extend_list_list_0 l Xw.toArray n b Yn.toArray n2 abF 1e0 (by omega)) ⟨e,e2,?_⟩
 refine⟨.Xu,_,I.yJ (its':=Xw++Yn) hH e (by simp) 3e0 ?_,rfl,q⟩;rw[Μ];omega
def WV:V->List V->Hp->VK->Prop:=fun x vs H Q=>∃ l xs y,x=.ref l/\vs=[]/\H l=some 0e0/\xs[xs.length - 1]?=some y/\Q y (Xt H l (.lst xs.dropLast))
theorem SH:Qj X "list.pop" WV:=by
 intro Xs s σ H x vs v us Q I rx rv h;obtain⟨l,xs,y,rfl,rfl,hH,hy,q⟩:=h;cases rx;have hus:=rv.zero;subst hus;obtain⟨z,Xw,n,r,hl,e⟩:=I.Cd hH;obtain⟨u,hu,ru⟩:=r.get hy;have hy':Xw.toArray[Xw.toArray.size - 1]?=some u:=by
  show Xw.toArray[Xw.length - 1]?=some u;rw[<- Γ9,<- hl];exact hu
 refine call_meets F.slot_list_pop ⟨_,e,rfl⟩ F.entry_list_pop (F.args_list_pop_1 _) (MeetsSeq.list_pop_last l Xw.toArray n u hy' 1e0) ⟨e,?_⟩;refine⟨y,_,I.yJ (its':=Xw.dropLast) hH e ?_ r.dropLast ?_,ru,q⟩
 ·show Xw.toArray.eraseIdxIfInBounds (Xw.toArray.size - 1)=Xw.dropLast.toArray;rw[Ζ,List.eraseIdxIfInBounds_toArray,Fj]
 ·rw[List.length_dropLast];omega
def S7:V->List V->Hp->VK->Prop:=fun x vs H Q=>∃ l xs i k y,x=.ref l/\vs=[.int i]/\H l=some 0e0/\-(2 ^ 63)<=i/\i < 2 ^ 63/\seqIndex? i xs.length=some k/\xs[k]?=some y/\Q y (Xt H l (.lst (xs.eraseIdx k)))
theorem Mf:Qj X "list.pop" S7:=by
 intro Xs s σ H x vs v us Q I rx rv h;obtain⟨l,xs,i,k,y,rfl,rfl,hH,h1,h2,hk,hy,q⟩:=h;cases rx;obtain⟨u,rfl,ru⟩:=rv.one;obtain⟨t,rfl⟩:=ru;obtain⟨z,Xw,n,r,hl,e⟩:=I.Cd hH;obtain⟨w,hw,Yo⟩:=r.get hy;refine call_meets F.slot_list_pop ⟨_,e,rfl⟩ F.entry_list_pop (F.args_list_pop_2 _ _)
  (MeetsSeq.list_pop_at l Xw.toArray n i t k w (fitsIndex_both h1 h2) (by rw[Ζ,<- hl];exact hk) (by rw[<- Γ9];exact hw) 1e0) ⟨e,?_⟩
 refine⟨y,_,I.yJ (its':=Xw.eraseIdx k) hH e ?_ (r.eraseIdx k) ?_,Yo,q⟩
 ·show Xw.toArray.eraseIdxIfInBounds k=(Xw.eraseIdx k).toArray;rw[List.eraseIdxIfInBounds_toArray]
 ·have:=tG xs k;omega
def WU:R2:=fun x y H Q=>∃ l b xs zs,x=.ref l/\y=.ref b/\H l=some 0e0/\H b=some (.lst zs)/\xs.length+zs.length<=sizeLine/\∀ p,H p=none->Q (.ref p) (Xt H p 2e0)
theorem SR:j7 X (binaryOp .Add) WU:=by
 intro Xs s σ H x y v u Q I rx ry h;obtain⟨l,b,xs,zs,rfl,rfl,hH,hB,hz,q⟩:=h;cases rx;cases ry;obtain⟨z,Xw,n,r,hl,e⟩:=I.Cd hH;obtain⟨z2,Yn,n2,r2,hl2,e2⟩:=I.Cd hB;refine PySem.P.add_list e e2 ?_ (by rw[Ζ,Ζ];omega);have ea:Xw.toArray++Yn.toArray=(Xw++Yn).toArray:=by simp
 rw[ea];exact⟨.ref _,_,I.Pe (t':=s.toks) 3e0 (by rw[Μ];omega),rfl,q _ I.fresh⟩
end
end
section
variable{κ:Type}[DecidableEq κ]
mutual
example:=[κ×V,κ×Value,(kvs.any fun kv=>decide (kv.1=k)),kv.1=k,h1.trans z,(kvs.map fun kv=>if kv.1=k then (kv.1,y) else kv),aR kvs k y,e.trans z]
def bA(kvs:List 0e0)(k:κ):Option V:=(kvs.find? fun kv=>decide 3e0).map (·.2)
def aR(kvs:List 0e0)(k:κ)(v:V):List 0e0 :=
 if 2e0=true then kvs.map (fun kv=>if kv.1=k then (kv.1,v) else kv) else kvs++[(k,v)]
def uC(kvs:List 0e0)(k:κ):List 0e0:=kvs.filter fun kv=>decide (kv.1≠k)
def Aj{k:κ}:bA ([]:List 0e0) k=none:=rfl
def cO{p:κ×V}{r:List 0e0}{k:κ}(e:p.1=k):bA (p::r) k=some p.2:=by simp[bA,Δ2,e]
def cE{p:κ×V}{r:List 0e0}{k:κ}(e:¬ p.1=k):bA (p::r) k=bA r k:=by simp[bA,Δ2,e]
theorem iJ(k:κ):∀ kvs:List 0e0,2e0=(bA kvs k).isSome
 | []=>rfl
 | p::r=>by
  rw[List.any_cons];by_cases e:p.1=k
  ·simp only[cO e,decide_eq_true e,Bool.true_or,Option.isSome_some]
  ·rw[cE e,Β7 e,Bool.false_or];exact iJ k r
theorem EA(k j:κ)(y:V):∀ kvs:List 0e0,bA 5e0 j=(bA kvs j).map fun x=>if j=k then y else x
 | []=>rfl
 | p::r=>by
  have ih:=EA k j y r;rw[ϔ];by_cases h:p.1=k
  ·rw[if_pos h];by_cases e:p.1=j
   ·rw[cO (p:=(p.1,y)) e,cO e,Option.map_some,if_pos (e.symm.trans h)]
   ·rw[cE (p:=(p.1,y)) e,cE e,ih]
  ·rw[if_neg h];by_cases e:p.1=j
   ·rw[cO (p:=p) e,cO e,Option.map_some,if_neg (fun z=>h 7e0)]
   ·rw[cE (p:=p) e,cE e,ih]
theorem BE(k j:κ)(y:V):∀ kvs:List 0e0,bA kvs k=none->bA (kvs++[(k,y)]) j=if j=k then some y else bA kvs j
 | [],_=>by
  by_cases e:k=j
  ·rw[if_pos e.symm];exact cO (p:=(k,y)) e
  ·rw[if_neg (fun z=>e z.symm)];exact cE (p:=(k,y)) e
 | p::r,hn=>by
  rw[Ψ];have hk:¬ p.1=k:=fun z=>by rw[cO z] at hn;cases hn
  rw[cE hk] at hn;have ih:=BE k j y r hn;by_cases e:p.1=j
  ·rw[cO e,cO e,if_neg (fun z=>hk 7e0)]
  ·rw[cE e,cE e,ih]
theorem gD(kvs:List 0e0)(k j:κ)(y:V):bA 6e0 j=if j=k then some y else bA kvs j:=by
 unfold aR;by_cases a:2e0=true
 ·rw[if_pos a,EA];rw[iJ] at a;by_cases e:j=k
  ·obtain⟨x,hx⟩:=Δ5.mp a;rw[if_pos e,e,hx,Option.map_some,if_pos rfl]
  ·rw[if_neg e];cases bA kvs j with
   | none=>rfl
   | some x=>rw[Option.map_some,if_neg e]
 ·rw[if_neg a];refine BE k j y kvs ?_;rw[iJ] at a;cases q:bA kvs k with
  | none=>rfl
  | some x=>rw[q] at a;exact(a rfl).elim
theorem iZ(kvs:List 0e0)(k:κ)(v:V):(aR kvs k v).length<=kvs.length+1:=by
 unfold aR;split
 ·rw[Γ];omega
 ·rw[Μ,Η,ϖ];omega
theorem zG{kvs:List 0e0}{k:κ}(v:V)(h:bA kvs k=none):aR kvs k v=kvs++[(k,v)]:=by
 unfold aR;rw[iJ,h];exact if_neg (by decide)
def lL.sY{u:Option Value}(r:lL o u):o.isSome=u.isSome:=by
 cases o with
 | none=>cases u with
  | none=>rfl
  | some _=>exact(show False from r).elim
 | some _=>cases u with
  | none=>exact(show False from r).elim
  | some _=>rfl
def lL.getD{u:Option Value}{d:V}{d':Value}(r:lL o u)(rd:bP d d'):bP (o.getD d) (u.getD d'):=by
 cases o with
 | none=>cases u with
  | none=>exact rd
  | some _=>exact(show False from r).elim
 | some _=>cases u with
  | none=>exact(show False from r).elim
  | some _=>exact r
def KV.val{kvs:List 0e0}{vs:List 1e0}(r:KV kvs vs)(k:κ):lL (bA kvs k) (valueAt vs k):=by
 unfold KV at r
 induction r with
 | nil=>exact True.intro
 | @cons p q ps qs h t ih =>
  obtain⟨h1,h2⟩:=h;by_cases e:p.1=k
  ·have e':q.1=k:=h1.symm.trans e;have b:valueAt (q::qs) k=some q.2:=by simp[valueAt,Δ2,e']
   rw[cO e,b];exact h2
  ·have e':¬ q.1=k:=fun z=>e 4e0;have b:valueAt (q::qs) k=valueAt qs k:=by simp[valueAt,Δ2,e']
   rw[cE e,b];exact ih
theorem KV.any{kvs:List 0e0}{vs:List 1e0}(r:KV kvs vs)(k:κ):2e0=vs.any fun kv=>decide 3e0:=by
 unfold KV at r
 induction r with
 | nil=>rfl
 | cons h t ih=>rw[List.any_cons,List.any_cons,ih,h.1]
def KV.MQ{kvs:List 0e0}{vs:List 1e0}(r:KV kvs vs)(k:κ)(ry:bP y u) : KV 5e0 (vs.map fun kv=>if kv.1=k then (kv.1,u) else kv):=by
 unfold KV at r ⊢
 induction r with
 | nil=>exact .nil
 | @cons p q ps qs h t ih =>
  rw[ϔ,ϔ];refine .cons ?_ ih;obtain⟨h1,h2⟩:=h;by_cases e:p.1=k
  ·rw[if_pos e,if_pos (h1.symm.trans e)];exact⟨h1,ry⟩
  ·rw[if_neg e,if_neg (fun z=>e 4e0)];exact⟨h1,h2⟩
theorem KV.put{kvs:List 0e0}{vs:List 1e0}(r:KV kvs vs)(k:κ)(ry:bP y u):KV 6e0 (stored vs k u):=by
 unfold aR stored;rw[r.any k];by_cases e:(vs.any fun kv=>decide 3e0)=true
 ·rw[if_pos e,if_pos e];exact r.MQ k ry
 ·rw[if_neg e,if_neg e];exact Paired.snoc r ⟨rfl,ry⟩
theorem KV.drop{kvs:List 0e0}{vs:List 1e0}(r:KV kvs vs)(k:κ):KV (uC kvs k) (without vs k):=by
 unfold KV at r ⊢;unfold uC without
 induction r with
 | nil=>exact .nil
 | @cons p q ps qs h t ih =>
  obtain⟨h1,h2⟩:=h;rw[List.filter_cons,List.filter_cons];by_cases e:p.1=k
  ·have a:¬ decide (p.1≠k)=true:=by simp[e]
   have b:¬ decide (q.1≠k)=true:=by simp[h1.symm.trans e]
   rw[if_neg a,if_neg b];exact ih
  ·have e':¬ q.1=k:=fun z=>e 4e0;have a:decide (p.1≠k)=true:=by simp[e]
   have b:decide (q.1≠k)=true:=by simp[e']
   rw[if_pos a,if_pos b];exact .cons ⟨h1,h2⟩ ih
def KV.length{kvs:List 0e0}{vs:List 1e0}(r:KV kvs vs):kvs.length=vs.length:=Paired.length r
def Ll(kvs:List 0e0)(k:κ):(uC kvs k).length<=kvs.length:=Γ8 _ _
end
end
mutual
example:=[h1.trans z]
def pJ{k:Key}(r:bP (kV k) u):(bJ P w).is k u=true:=by
 cases k with
 | inl i=>obtain⟨t,e⟩:=(show ∃ t,u=Value.int i t from r);subst e;exact Du P w i t
 | inr x=>obtain⟨t,e⟩:=(show ∃ t,u=Value.str x t from r);subst e;exact Dv P w x t
 | no=>cases (show u=Value.none from r);rfl
theorem Ba{P:Program}{w:World}:∀ {ks:List Key} {us:List Value},Xx (ks.map kV) us->ItemsAre (bJ P w) ks us
 | [],_,r=>by rw[List.map_nil] at r;cases r;exact .nil
 | k::ks,_,r=>by
  rw[ϔ] at r;cases r with
  | cons h t=>exact .cons (pJ h) (Ba t)
abbrev KT(H:Hp):List (List Key×V)->List (List Key×Addr×Value)->Prop:=Paired fun p q=>p.1=q.1/\H q.2.1=some (.tup (p.1.map kV))/\bP p.2 q.2.2
def KT.val(r:KT H kvs xs)(k:List Key):lL (bA kvs k) ((atKey xs k).map (·.2)):=by
 induction r with
 | nil=>exact True.intro
 | @cons p q ps qs h t ih =>
  obtain⟨h1,_,h2⟩:=h;by_cases e:p.1=k
  ·have e':q.1=k:=h1.symm.trans e;have b:atKey (q::qs) k=some q.2:=by simp[atKey,Δ2,e']
   rw[cO e,b];exact h2
  ·have e':¬ q.1=k:=fun z=>e 0e0;have b:atKey (q::qs) k=atKey qs k:=by simp[atKey,Δ2,e']
   rw[cE e,b];exact ih
def KT.MQ(r:KT H kvs xs)(k:List Key)(ry:bP y u) : KT H (kvs.map fun kv=>if kv.1=k then (kv.1,y) else kv) (xs.map (putAt k u)):=by
 induction r with
 | nil=>exact .nil
 | @cons p q ps qs h t ih =>
  rw[ϔ,ϔ];refine .cons ?_ ih;obtain⟨h1,h2,h3⟩:=h;unfold putAt;by_cases e:p.1=k
  ·rw[if_pos e,if_pos (h1.symm.trans e)];exact⟨h1,h2,ry⟩
  ·rw[if_neg e,if_neg (fun z=>e 0e0)];exact⟨h1,h2,h3⟩
theorem KT.put(r:KT H kvs xs)(k:List Key){b:Addr}(hb:H b=some (.tup (k.map kV)))(ry:bP y u) : KT H (aR kvs k y) (storedH xs k b u):=by
 have e:(kvs.any fun kv=>decide (kv.1=k))=(atKey xs k).isSome:=by
  rw[iJ,(r.val k).sY,Option.isSome_map]
 unfold aR storedH;rw[e];by_cases q:(atKey xs k).isSome=true
 ·rw[if_pos q,if_pos q];exact r.MQ k ry
 ·rw[if_neg q,if_neg q];exact Paired.snoc r ⟨rfl,hb,ry⟩
def KT.keeps{H':Hp}(r:KT H kvs xs)(ht:∀ b ys,H b=some (.tup ys)->H' b=some (.tup ys)):KT H' kvs xs :=
 Paired.SF r fun _ _ z=>⟨z.1,ht _ _ z.2.1,z.2.2⟩
end
section
variable{h:Heap}
mutual
example:=[bJ P w,a==sysModules,.dT kvs,.dK kvs,.tup (ks.map kV)]
def QA{u:HO}(ok:HOk P w H h)(e:Rd H a u):eB P w H h a u:=e.ok ok
def xB{kvs:List (Key×V)}(ok:HOk P w H h)(e:Rd H a 3e0):kvs.length<=sizeLine/\1e0=false/\∃ vs,KV kvs vs/\h.DictOf 0e0 a vs :=
 show eB P w H h a 3e0 from QA ok e
def pH{kvs:List (Key×V)}(ok:HOk P w H h)(e:H a=some 3e0):kvs.length<=sizeLine/\1e0=false/\∃ vs,KV kvs vs/\h.DictOf 0e0 a vs:=xB ok (.inl e)
def sZ{ks:List Key}(ok:HOk P w H h)(e:H a=some 4e0):(tupleKind 0e0).is h ks a:=by
 obtain⟨_,Xw,r,o,h1,h2,n,h3⟩:=(show eB P w H h a 4e0 from ok a _ e);exact⟨o,Xw.toArray,n,h1,h2,h3,by simpa using Ba r⟩
def xI(ok:HOk P w H h)(e:Rd H a 2e0):kvs.length<=sizeLine/\1e0=false /\ ∃ xs,KT H kvs xs/\h.DictOfH (tupleKind 0e0) a xs:=by
 obtain⟨z,y,xs,r,o,es,ep,h1,h2,h3,h4,h5⟩:=(show eB P w H h a 2e0 from QA ok e);refine⟨z,y,xs,r,o,es,ep,h1,h2,h3,h4,fun x hx=>?_,h5⟩;have all:∀ {l:List (List Key×V)} {m:List (List Key×Addr×Value)},KT H l m->∀ x∈m,(tupleKind 0e0).is h x.1 x.2.1:=by
  intro l m q
  induction q with
  | nil=>intro x hx;exact nomatch hx
  | @cons p q ps qs hq t ih =>
   intro x hx;rcases Α.mp hx with e|hx
   ·subst e;exact sZ ok (by rw[<- hq.1];exact hq.2.1)
   ·exact ih x hx
 exact all r x hx
def TY(ok:HOk P w H h)(e:H a=some 2e0):kvs.length<=sizeLine/\1e0=false /\ ∃ xs,KT H kvs xs/\h.DictOfH (tupleKind 0e0) a xs:=xI ok (.inl e)
end
end
mutual
example:=[.dK kvs,aR kvs k v,.tup (k.map kV)]
def DGet(H:Hp)(a:Addr)(y:V)(r:Option V):Prop :=
 (∃ kvs k,Rd H a 0e0/\y=kV k/\r=bA kvs k)\/∃ kvs k b,Rd H a (.dT kvs)/\y=.ref b/\H b=some 2e0/\r=bA kvs k
def DPut(H:Hp)(a:Addr)(y v:V)(H':Hp):Prop :=
 (∃ kvs k,H a=some 0e0/\y=kV k/\kvs.length < sizeLine/\H'=Xt H a (.dK 1e0)) \/
 ∃ kvs k b,H a=some (.dT kvs)/\y=.ref b/\H b=some 2e0/\kvs.length < sizeLine/\H'=Xt H a (.dT 1e0)
def DGet.k{kvs:List (Key×V)}{k:Key}(e:H a=some 0e0):DGet H a (kV k) (bA kvs k):=.inl ⟨kvs,k,.inl e,rfl,rfl⟩
def DPut.k{kvs:List (Key×V)}{k:Key}{v:V}(e:H a=some 0e0)(hl:kvs.length < sizeLine):DPut H a (kV k) v (Xt H a (.dK 1e0)):=.inl ⟨kvs,k,e,rfl,hl,rfl⟩
end
section
variable{v:V}{r:Value}{A:Around}{E:q0A}
mutual
example:=[I.tok _,tupleKind_room_in1 hu,model X.prog X.w,sZ I.Xz eb,.ref a,(by rw[e];exact True.intro),(by rw[l];exact rel.val k),Xt H a ob]
theorem Xv.big(I:Xv X Xs σ H s):sysModules < s.heap.objs.size:=by
 have h:mainGlobals < s.heap.objs.size:=(I.mod.glob.keeps I.bk).lt;exact Nat.lt_trans (by decide) h
def IL(hu:A.units+1 < cLine)(I:Xv X Xs σ H s)(g:DGet H a y (some v))(ry:bP y u)(h:∀ w' s',Xv X Xs σ H s'->bP v w'->Q w' s') : wpAny 2e0 A (getItem 4e0 u) Q E s:=by
 rcases g with⟨kvs,k,e,ey,l⟩|⟨kvs,k,b,e,ey,eb,l⟩
 ·subst ey;obtain⟨z,hd,vs,rel,dd⟩:=xB I.Xz e;obtain⟨w',hw,Yo⟩:=lL.some_of (v:=v) (o:=valueAt vs k) 6e0;exact wpAny_getItem_of (pJ ry) dd.mapOf hw (h w' _ 0e0 Yo)
 ·subst ey;cases (show u=Value.ref b from ry);obtain⟨z,hd,xs,rel,dd⟩:=xI I.Xz e;obtain⟨w',hw,Yo⟩:=lL.some_of (v:=v) (o:=(atKey xs k).map (·.2)) 6e0;obtain⟨p,hp,Z4⟩:=Ϝ.mp hw;refine wpAny_getItem_heap 1e0 3e0 dd hp ?_;rw[Z4];exact h w' _ 0e0 Yo
def Wu(hu:A.units+1 < cLine)(I:Xv X Xs σ H s)(g:DGet H a y o)(ry:bP y u)(h:∀ s',Xv X Xs σ H s'->Q (.bool o.isSome) s') : wpAny 2e0 A (compareOp .In u 4e0) Q E s:=by
 rcases g with⟨kvs,k,e,ey,l⟩|⟨kvs,k,b,e,ey,eb,l⟩
 ·subst ey;obtain⟨z,hd,vs,rel,dd⟩:=xB I.Xz e;refine wpAny_in_of (pJ ry) hd dd.mapOf ?_;rw[<- (rel.val k).sY,<- l];exact h _ 0e0
 ·subst ey;cases (show u=Value.ref b from ry);obtain⟨z,hd,xs,rel,dd⟩:=xI I.Xz e;refine wpAny_in_heap 1e0 3e0 hd dd ?_;have q:=(rel.val k).sY;rw[Option.isSome_map] at q;rw[<- q,<- l];exact h _ 0e0
def oM{h':Heap}{ob:HO}(I:Xv X Xs σ H s)(mu:Mut (H a))(hs:Heap.SameBut a s.heap h')(he:∃ q,h'.get? a=some q)(new:eB X.prog X.w 7e0 h' a ob) : Xv X Xs σ 7e0 {s with heap:=h',toks:=t'} :=
 I.write (x:=a) (e:=a) mu (.inl rfl) (fun b q hb z=>(hs.2 b hb).trans z) he new
def pZ{H':Hp}{h':Heap}{kvs:List (Key×V)}{vs:List (Key×Value)}(z:kvs.length<=sizeLine)(hd:(a==sysModules)=false)(rel:KV kvs vs)(dd:h'.DictOf (bJ P w) a vs) : eB P w H' h' a (.dK kvs):=⟨z,hd,vs,rel,dd⟩
theorem IM{H':Hp}{Q:Unit->Shared->Prop}(hu:A.units+1 < cLine)(I:Xv X Xs σ H s)(g:DPut H a y v H')(ry:bP y u)(rv:bP v r)(h:∀ s',Xv X Xs σ H' s'->Q () s') : wpAny 2e0 A (setItem 4e0 u r) Q E s:=by
 rcases g with⟨kvs,k,e,ey,l,eH⟩|⟨kvs,k,b,e,ey,eb,l,eH⟩
 ·subst ey eH;obtain⟨z,hd,vs,rel,dd⟩:=pH I.Xz e;have hz:vs.length<=sizeLine:=by rw[<- rel.length];exact z
  have hl:(aR kvs k v).length<=sizeLine:=by have:=iZ kvs k v;omega
  refine wpAny_setItem_pairs (hsz:=hz) (pJ ry) dd fun h' YQ hs=>h _ ?_;have he:∃ q,h'.get? a=some q:=let ⟨q,_,_,hq,_⟩:=YQ;⟨q,hq⟩;exact oM I 5e0 hs he (pZ hl hd (rel.put k rv) YQ)
 ·subst ey eH;cases (show u=Value.ref b from ry);obtain⟨z,hd,xs,rel,dd⟩:=TY I.Xz e;have hz:xs.length<=sizeLine:=by rw[<- Paired.length rel];exact z
  have hl:(aR kvs k v).length<=sizeLine:=by have:=iZ kvs k v;omega
  refine wpAny_setItem_heap (hsz:=hz) 1e0 3e0 dd fun h' YQ hs=>h _ ?_;obtain⟨q,es,ep,hq,h2,h3,h4,_,h5⟩:=YQ;refine oM I 5e0 hs ⟨q,hq⟩ ⟨hl,hd,_,(rel.put k eb rv).keeps fun c ys ec=>?_,q,es,ep,hq,h2,h3,h4,h5⟩;rw[aC (c0 ec e (fun z=>nomatch z))];exact ec
end
end
section
variable{kvs:List (Key×V)}{k:Key}{A:Around}{E:q0A}
def TU{v:V}{more:List Value}(I:Xv X Xs σ H s)(e:H a=some (.dK kvs))(ry:bP (kV k) u)(l:bA kvs k=some v)(hm:more=[]\/∃ x,more=[x])(h:∀ w' s',Xv X Xs σ (Xt H a (.dK (uC kvs k))) s'->bP v w'->Q w' s'):wpAny (model X.prog X.w) A (call (.builtin "dict.pop") (.ref a::u::more)) Q E s:=by
 obtain⟨z,hd,vs,rel,dd⟩:=pH I.Xz e;obtain⟨w',hw,Yo⟩:=lL.some_of (v:=v) (o:=valueAt vs k) (by rw[<- l];exact rel.val k);have hp:(keyPart u).isSome=true:=by
  cases k with
  | inl i=>obtain⟨t,q⟩:=(show ∃ t,u=Value.int i t from ry);subst q;rfl
  | inr x=>obtain⟨t,q⟩:=(show ∃ t,u=Value.str x t from ry);subst q;rfl
  | no=>cases (show u=Value.none from ry);rfl
 have ha:argsOk "dict.pop" ⟨.ref a::u::more,[]⟩:=by
  rcases hm with q|⟨x,q⟩
  ·subst q;exact PySem.F.args_dict_pop_2 _ _
  ·subst q;exact PySem.F.args_dict_pop_3 _ _ _
 refine Δ0 PySem.F.slot_dict_pop dd.typeIs PySem.F.entry_dict_pop ha (meets_dict_pop_there (bJ X.prog X.w) a (pJ ry) more hm hp)
  ⟨vs,w',dd,by rw[<- rel.length];exact z,hw,fun h' YQ hs=>h w' _ ?_ Yo⟩
 have he:∃ q,h'.get? a=some q:=let ⟨q,_,_,hq,_⟩:=YQ;⟨q,hq⟩;exact oM I (by rw[e];exact True.intro) hs he (pZ (Ω (Ll kvs k) z) hd (rel.drop k) YQ)
end
def NH(i:Expr):Prop:=∀ ov iv,subscripted i false ov iv=operate [ov,iv] (getItem ov iv)
def Ie{prog:Program}{A:Around}{E:q0A}{env:Env}{value slice:Expr}{T id:String}(hl:typeLookup (.type T) "__getitem__"=pure (some (.builtin id)))(hs:NH slice)(h:wpAny (model prog w) A (eval value env) (fun o s₁=>wpAny (model prog w) A (eval slice env) (fun i s₂=>s₂.TypeIs o T/\wpAny (model prog w) A (getItem o i) Q E s₂) E s₁) E s) : wpAny (model prog w) A (eval (.Subscript value slice pos) env) Q E s:=by
 refine Subscript_ (Α8 h (fun o s₁ h₁=>Α8 h₁ (fun i s₂ h₂=>?_) fun _ _ x=>x) fun _ _ x=>x);obtain⟨hT,h₂⟩:=h₂;unfold subscriptTail;refine Β ?_;rw[getitemInPython_of_ne hT.not_modules];refine Β (wpAny_specialOf hT hl ?_);have fin:wpAny (model prog w) A (subscripted slice false o i) (fun r s₃=>wpAny (model prog w) A (letTemporaryGo value o r >>= fun _=>pure r) Q E s₃) E s₂:=by
  rw[hs o i];exact wpAny_operating (Α8 h₂ (fun r s₃ h₃=>Β (wpAny_letTemporaryGo (Θ h₃))) fun _ _ x=>x)
 first
  | exact Θ (Β fin)
  | exact Β (Θ (Β fin))
  | exact Β fin
def C9(I:Xv X Xs σ H s)(g:DGet H a y o):s.TypeIs (.ref a) "dict":=by
 rcases g with⟨kvs,k,e,_,_⟩|⟨kvs,k,b,e,_,_,_⟩
 ·obtain⟨_,_,vs,_,dd⟩:=xB I.Xz e;exact dd.typeIs
 ·obtain⟨_,_,xs,_,dd⟩:=xI I.Xz e;exact dd.typeIs
section
variable{o i e value:Expr}{pos' aaB:Pos}{td ty tv:TE}
end
def Dc(h:Heap)(hb:sysModules < h.objs.size):eB P w H (h.push {cls:=.type "dict",data:=.dict #[]}) h.objs.size (.dK []) :=
 ⟨Α4 _,Β2.mpr (Ne.symm (Ο hb)),[],.nil,Heap.DictOf.new h⟩
def Nt:TE:=fun _ H Q=>∀ p,H p=none->Q (.ref p) (Xt H p (.dK []))
section
def lD:PE X (.Dict [] [] pos) Nt:=fun Xs s σ H Q I h =>
 wpAny_Dict_empty ⟨.ref s.heap.objs.size,_,I.laid (a:=s.heap.objs.size) (o:=.dK []) (t':=s.toks) (fun _ _ q=>Ε _ q) (Ι _) (Dc s.heap I.big),rfl,h _ (I.Xz.fresh (Ι _))⟩
end
mutual
example:=[Key×V,aR kvs p.1 p.2,Option Expr,TE×TE,(if ([]:List Keyword).isEmpty then 0 else 1),apos.endLine==XB.line,(starEach [e,f] X.env),keywordEach [] X.env,starEach [e] X.env,(fun x=>x.1.isSome),eval o X.env,Value×Value,(fun x=>!x.1),Key×Value]
def qL:List 3e0->St->Hp->(List (V×V)->Hp->Prop)->Prop
 | [],_,H,Q=>Q [] H
 | (tk,tv)::r,σ,H,Q=>tk σ H fun x H1=>tv σ H1 fun y H2=>qL r σ H2 fun ps H3=>Q ((x,y)::ps) H3
abbrev VV:List (V×V)->List 1e1->Prop:=Paired fun p q=>bP p.1 q.1/\bP p.2 q.2
def PPs(X:Cx)(pos:Pos)(keys:List 2e0)(values:List Expr)(Y4:List 3e0):Prop :=
 ∀(Xs:List (Addr×Obj)) (s:Shared) (σ:St) (H:Hp) (Q:List (V×V)->Hp->Prop),Xv X Xs σ H s->qL Y4 σ H Q ->
  wpAny (model X.prog X.w) X.A (evalPairs (pairTrees keys values X.env pos)) (fun vs s'=>∃ ps H',Xv X Xs σ H' s'/\VV ps vs/\Q ps H') X.xe s
def HF:PPs X pos [] [] []:=fun Xs s σ H Q I h=>pairTrees_nil_walk ⟨[],H,I,.nil,h⟩
def fR{k v:Expr}{ks:List 2e0}{vs:List Expr}{tk tv:TE}(hk:PE X k tk)(hv:PE X v tv)(hr:PPs X pos ks vs Y4) : PPs X pos (some k::ks) (v::vs) ((tk,tv)::Y4):=fun Xs s σ H Q I h =>
 pairTrees_cons_walk (thn (hk Xs s σ H _ I h) fun u s1 ⟨x,H1,I1,rx,q1⟩=>thn (hv Xs s1 σ H1 _ I1 q1) fun w2 s2 ⟨y,H2,I2,ry,q2⟩ =>
  thn (hr Xs s2 σ H2 _ I2 q2) fun ws s3 ⟨ps,H3,I3,rel,q3⟩=>⟨(x,y)::ps,H3,I3,.cons ⟨rx,ry⟩ rel,q3⟩)
def eW(kvs more:List 0e0):List 0e0:=more.foldl (fun acc kv=>aR acc kv.1 kv.2) kvs
def KV.merge:∀ {more:List 0e0} {rs:List 3e1} {kvs:List 0e0} {vs:List 3e1},KV more rs->KV kvs vs->KV (eW kvs more) (merged vs rs):=by
 intro more rs kvs vs r;unfold KV at r
 induction r generalizing kvs vs with
 | nil=>intro q;exact q
 | @cons p q ps qs h t ih =>
  intro r0;have e:KV 1e0 (stored vs q.1 q.2):=by
   have:=r0.put p.1 h.2;rw[<- h.1];exact this
  exact ih e
theorem pK:∀(more kvs:List 0e0),(eW kvs more).length<=kvs.length+more.length
 | [],kvs=>by show kvs.length<=kvs.length+0;omega
 | p::r,kvs=>by
  have h1:=pK r 1e0;have h2:=iZ kvs p.1 p.2;show(eW 1e0 r).length<=_;rw[Η];omega
theorem wV{P:Program}{w:World}:∀ {kvs:List 0e0} {ws:List 1e1},VV (kvs.map fun kv=>(kV kv.1,kv.2)) ws->∃ rs,Carries (bJ P w) ws rs/\KV kvs rs
 | [],_,r=>by rw[List.map_nil] at r;cases r;exact⟨[],True.intro,.nil⟩
 | p::kvs,_,r=>by
  rw[ϔ] at r;cases r with
  | @cons a b as bs h t =>
   obtain⟨rs,c,q⟩:=wV (P:=P) (w:=w) t;obtain⟨b1,b2⟩:=b;exact⟨(p.1,b2)::rs,⟨pJ h.1,rfl,c⟩,.cons ⟨rfl,h.2⟩ q⟩
def QK(Y4:List 3e0):TE:=fun σ H Q=>∀ p,H p=none->qL Y4 σ (Xt H p (.dK [])) fun ps H2=>H2 p=some (.dK [])/\∃ kvs:List 0e0,ps=kvs.map (fun kv=>(kV kv.1,kv.2))/\kvs.length<=15/\Q (.ref p) (Xt H2 p (.dK (eW [] kvs)))
theorem HA{keys:List 2e0}{values:List Expr}(h:PPs X pos keys values Y4)(ZW:keys.all (·.isSome)=true)(hl:keys.length=values.length)(h0:keys≠[])(h15:keys.length<=15):PE X (.Dict keys values pos) (QK Y4):=by
 intro Xs s σ H Q I q;have hn:=I.Xz.fresh (Ι s.heap.objs.size);have I1:=I.laid (a:=s.heap.objs.size) (o:=.dK []) (h':=s.heap.push {cls:=.type "dict",data:=.dict #[]}) (t':=s.toks) (fun _ _ q=>Ε _ q) (Ι _) (Dc s.heap I.big);refine wpAny_Dict_walk (knd:=bJ X.prog X.w) ZW hl h0 h15 (thn (h Xs _ σ _ _ I1 (q _ hn)) fun ws s2 ⟨ps,H2,I2,rel,e,kvs,ep,lk,q2⟩=>?_);subst ep;obtain⟨rs,c,rk⟩:=wV (P:=X.prog) (w:=X.w) rel;obtain⟨z,hd,vs0,r0,dd⟩:=pH I2.Xz e;cases r0;refine⟨rs,c,dd,fun h' YQ hs=>⟨.ref s.heap.objs.size,_,?_,rfl,q2⟩⟩;have hz:(eW [] kvs).length<=sizeLine:=by
  have h1:=pK kvs [];rw[ϖ] at h1;rw[Ε1];omega
 have he:∃ q,h'.get? s.heap.objs.size=some q:=let ⟨q,_,_,hq,_⟩:=YQ;⟨q,hq⟩;exact oM I2 (by rw[e];exact True.intro) hs he (pZ hz hd (rk.merge .nil) YQ)
structure M1(X:Cx)(o:Expr)(m:Str)(apos:Pos)(e:Expr)(XB:Pos):Prop where
 base:attributeBase o m X.env 0e1=eval o X.env
 X8:((backTo XB 8e0).all 2e1&&(backToKw XB 7e0).all 9e0
 &&decide (([e]:List Expr).length+([]:List Keyword).length+4e0 < 30))=true
 line:5e0=true
 trees:backTo XB 8e0=[(false,eval e X.env)]
structure M2(X:Cx)(o:Expr)(m:Str)(apos:Pos)(e f:Expr)(XB:Pos):Prop where
 base:attributeBase o m X.env 0e1=eval o X.env
 X8:((backTo XB 6e0).all 2e1&&(backToKw XB 7e0).all 9e0
 &&decide (([e,f]:List Expr).length+([]:List Keyword).length+4e0 < 30))=true
 line:5e0=true
 trees:backTo XB 6e0=[(false,eval e X.env),(false,eval f X.env)]
def Xk(H:Hp)(a:Addr):Prop:=(∃ kvs,Rd H a (.dK kvs))\/∃ kvs,Rd H a (.dT kvs)
def sX(I:Xv X Xs σ H s)(d:Xk H a) : s.TypeIs (.ref a) "dict"/\(∀ b,Value.ref a=.ref b->∃ ob,s.heap.get? b=some ob/\ob.dict=none)/\(a==sysModules)=false:=by
 rcases d with⟨kvs,e⟩|⟨kvs,e⟩
 ·obtain⟨_,hd,vs,_,dd⟩:=xB I.Xz e;refine⟨dd.typeIs,fun b q=>?_,hd⟩;cases q;obtain⟨ob,_,_,h1,h2,_⟩:=dd;exact⟨ob,h1,h2.2.1⟩
 ·obtain⟨_,hd,xs,_,dd⟩:=xI I.Xz e;refine⟨dd.typeIs,fun b q=>?_,hd⟩;cases q;obtain⟨ob,_,_,h1,h2,_⟩:=dd;exact⟨ob,h1,h2.2.1⟩
end
section
variable{d:V}{r:Value}{A:Around}{E:q0A}
def Ra(hu:A.units+1 < cLine)(I:Xv X Xs σ H s)(g:DGet H a y o)(ry:bP y u)(h:∀ w' s',Xv X Xs σ H s'->bP (o.getD .Xu) w'->Q w' s') : wpAny (model X.prog X.w) A (call (.builtin "dict.get") [.ref a,u]) Q E s:=by
 rcases g with⟨kvs,k,e,ey,l⟩|⟨kvs,k,b,e,ey,eb,l⟩
 ·subst ey;obtain⟨z,hd,vs,rel,dd⟩:=xB I.Xz e;refine Δ0 Γ7 dd.typeIs PySem.F.entry_dict_get (PySem.F.args_dict_get_2 _ _) (meets_dict_get (bJ X.prog X.w) a (pJ ry) hd) ⟨_,dd.mapOf,h _ _ (I.tok _) ?_⟩;rw[l];exact(rel.val k).getD rfl
 ·subst ey;cases (show u=Value.ref b from ry);obtain⟨z,hd,xs,rel,dd⟩:=xI I.Xz e;refine Δ0 Γ7 dd.typeIs PySem.F.entry_dict_get (PySem.F.args_dict_get_2 _ _) (meetsH_dict_get (tupleKind (bJ X.prog X.w)) a b hd) ⟨tupleKind_room_in1 hu,k,xs,sZ I.Xz eb,dd,h _ _ (I.tok _) ?_⟩;rw[l];exact(rel.val k).getD rfl
def Rb(hu:A.units+1 < cLine)(I:Xv X Xs σ H s)(g:DGet H a y o)(ry:bP y u)(rd:bP d r)(h:∀ w' s',Xv X Xs σ H s'->bP (o.getD d) w'->Q w' s') : wpAny (model X.prog X.w) A (call (.builtin "dict.get") [.ref a,u,r]) Q E s:=by
 rcases g with⟨kvs,k,e,ey,l⟩|⟨kvs,k,b,e,ey,eb,l⟩
 ·subst ey;obtain⟨z,hd,vs,rel,dd⟩:=xB I.Xz e;refine Δ0 Γ7 dd.typeIs PySem.F.entry_dict_get (PySem.F.args_dict_get_3 _ _ _) (meets_dict_get_default (bJ X.prog X.w) a (pJ ry) hd r) ⟨_,dd.mapOf,h _ _ (I.tok _) ?_⟩;rw[l];exact(rel.val k).getD rd
 ·subst ey;cases (show u=Value.ref b from ry);obtain⟨z,hd,xs,rel,dd⟩:=xI I.Xz e;refine Δ0 Γ7 dd.typeIs PySem.F.entry_dict_get (PySem.F.args_dict_get_3 _ _ _) (meetsH_dict_get_default (tupleKind (bJ X.prog X.w)) a b hd r) ⟨tupleKind_room_in1 hu,k,xs,sZ I.Xz eb,dd,h _ _ (I.tok _) ?_⟩;rw[l];exact(rel.val k).getD rd
end
section
variable{o e f:Expr}{apos XB:Pos}{td ty tx:TE}
end
section
variable{kvs:List (Key×V)}{A:Around}{E:q0A}
end
section
variable{A:Around}{E:q0A}
end
end L2
namespace Att
open PySem PySem.W PySem.Calls PyProof.Rows
variable{h:Heap}{l:OpenLaw}
mutual
example:=[.bool true,ns.map WData.int,true==true]
def u7{P:Params}:∀(ns:List Int) (vs:List Value),WellAll P h vs 1e0->IntsAre vs ns:=by
 intro ns
 induction ns with
 | nil =>
  intro vs w;rw[List.map_nil] at w;cases w;exact .nil
 | cons n ns ih =>
  intro vs w;rw[ϔ] at w;cases w with
  | cons a b =>
   cases a;exact .cons _ _ (ih _ b)
theorem JQ{n:Nat}(hn:l.most=some n){P:Params}{args:List WData}{vals:List Value}(aaC:l.row.toRowW.claim.pre args=true)(hwl:WellAll P h vals args) : ∃ a vs ns,vals=[Value.ref a]/\args=[WData.list 1e0]/\h.get? a=some {cls:=.type "list",data:=.seq vs.toArray}/\IntsAre vs ns/\ns.length<=n:=by
 have hsh:WShape.hasAll [] args [.list .int]=true:=(pre_splitW aaC).1;have hc:l.pre.holds [] {args:=args}=true:=(pre_splitW aaC).2;obtain⟨d,r,rfl,h1,h2⟩:=hasAllW_cons hsh;obtain rfl:=hasAllW_nil h2;obtain⟨xs,rfl,h3⟩:=hasW_list h1;obtain⟨ns,rfl⟩:=items_int h3;have hlen:ns.length<=n:=by
  unfold OpenLaw.pre at hc;have h4:(WTm.not (.lt (.lit (.int (n:Int))) (.len (.arg 0)))).holds [] {args:=[.list (ns.map .int)]}=true:=by
   have h4:=(holds_andW hc).1;rw[hn] at h4;exact h4
  have h5:=condW_of h4 (w_not (w_lt w_lit (w_len_list (w_arg rfl))));rw[Γ] at h5;refine Nat.le_of_not_lt fun q=>?_;have q':(n:Int) < ((ns.length:Nat):Int):=by omega
  first
   | (rw[decide_eq_true q'] at h5;exact absurd h5 (by decide))
   | (simp at h5;omega)
 cases hwl with
 | cons w1 w2 =>
  cases w2;cases w1 with
  | list ho ZW=>exact⟨_,_,ns,rfl,rfl,ho,u7 ns _ ZW,hlen⟩
theorem JL(l:OpenLaw)(args:List WData):l.row.toRowW.claim.post args 0e0 args=true :=
 postW_of (r:=l.row.toRowW) (X:=2e0)
  (show WShape.has [] 0e0 .bool=true by first|rfl|decide|simp[WShape.has,WShape.arms,WShape.armsAll])
  (show(WTm.eq .res (.lit 0e0)).value [] {args:=args,res:=some 0e0,after:=args}=some (.bool 2e0) from w_eq_bool (w_res rfl) w_lit) rfl
def CU{n:Nat}{q:Program}{loose:List Str}{XP:(q0C)->Heap->Prop}{YP:World->Heap->Prop}{d:DefRec}(hn:l.most=some n)(hdf:d.params.defaults=[])(call:∀(w:World) (s₀ s₁:Shared) (mg mb:q0C) (fa:Addr) (o:Obj) (pm cd doc:Value) (a:Addr) (vs:List Value) (ns:List Int), Ground q loose [] XP w s₀ mg mb s₁.heap->YP w s₁.heap -> s₁.heap.get? fa=some o->o.data=.func (docDef d.name d.params d.body d.scope pm cd doc)->s₁.heap.CodeRec cd d.name->mg d.name=some (.ref fa) -> s₁.heap.get? a=some {cls:=.type "list",data:=.seq vs.toArray}->IntsAre vs ns->ns.length<=n->s₁.gens = #[] -> codeAny (model l.prog w) callerA (.call (.ref fa) ⟨[.ref a],[]⟩) (fun r s'=>r=.ok (.ret 0e0)/\OldK s₁.heap s'.heap/\s'.os=s₁.os/\AllBare s'.gens) s₁) : WalkO q loose XP YP l.row.toRowW d [] (fun f vs=>PySem.call f vs):=by
 intro w s₀ s₁ mg mb G Y fa o pm cd doc dV kV ho hd ZY hD hmg hg args vals as aaC ac4 hrd hwl hlo;obtain rfl:dV=.none:=Dflts.none hD hdf;obtain rfl:kV=.none:=Dflts.noKw hD;obtain⟨a,vs,ns,rfl,rfl,aaV,hints,hlen⟩:=JQ hn aaC hwl;refine enter_call (codeAny_mono (call w s₀ s₁ mg mb fa o pm cd doc a vs ns G Y ho (fd_plain hd) ZY hmg aaV hints hlen hg) fun r s' hq=>?_);obtain⟨rfl,h2,h3,h4⟩:=hq;exact⟨.inl ⟨.bool true,.bool true,[],rfl,fun _=>rfl,.bool true,JL l _,fun _=>⟨List.Pairwise.nil,fun _ hm=>(nomatch hm)⟩⟩,h2,h3,h4⟩
end
section
variable{prog:Program}{w:World}{A:Around}{E:q0A}{s:Shared}{K:Frag}
mutual
example:=[]
def Cf(h:Heap):Heap:={h with objs:=#[]}
def qH(h:Heap)(b:Addr):(Cf h).get? b=none:=by
 cases e:(Cf h).get? b with
 | none=>rfl
 | some o=>exact absurd (Λ e) (Nat.not_lt_zero _)
def ledger(h:Heap)(L d:Addr):List (Addr×Obj):=(List.range h.objs.size).filterMap fun a=>if a=L\/a=d then none else (h.get? a).map fun o=>(a,o)
def l6{L d a:Addr}{o:Obj}:(a,o)∈ledger h L d↔a≠L/\a≠d/\h.get? a=some o:=by
 unfold ledger;rw[List.mem_filterMap];constructor
 ·rintro⟨b,_,e⟩;split at e
  ·cases e
  ·rename_i hb
   obtain⟨o',ho,e'⟩:=Ϝ.mp e;cases e';exact⟨fun q=>hb (.inl q),fun q=>hb (.inr q),ho⟩
 ·rintro⟨n1,n2,ho⟩;refine⟨a,List.mem_range.mpr (Λ ho),?_⟩;rw[if_neg (show ¬ (a=L\/a=d) from fun q=>q.elim n1 n2),ho]<;>rfl
def nL{L d:Addr}{od:Obj}(Yb:d≠L)(ho:h.get? d=some od):News (Cf h) L h ([]++(d,od)::ledger h L d):=by
 rintro⟨a,o⟩ hp;rcases Α.mp hp with e|hp
 ·cases e;exact⟨ho,Yb,qH _ _⟩
 ·obtain⟨n1,n2,e⟩:=l6.mp hp;exact⟨e,n1,qH _ _⟩
def Fl{L:Addr}{m:q0C}(n:h.Ns L m):Fr (Cf h) L h m :=
 ⟨n,fun b o e=>(by rw[qH] at e;cases e),Α4 _⟩
end
end
end Att
namespace L2
open PySem PySem.Spec PyProof.Rows
variable{f:Addr}{fd:FuncData}{k:Nat}{st:Stmt}{x:Str}
mutual
example:=[ns.map V.int,B4 s₁.heap H,(by rw[q];simp),(by simp),(fun r s'=>r=.ok (.ret (.bool true))/\OldK s₁.heap s'.heap/\s'.os=s₁.os/\AllBare s'.gens),(.call (.ref fa) ⟨[.ref a],[]⟩),(fun v _=>v=.bl true),(fun _ _ _=>False),K w.params,model P w,if_neg hb]
theorem pB:∀ {vs:List Value} {ns:List Int},IntsAre vs ns->Xx 0e0 vs
 | _,_,.nil=>.nil
 | _,_,.cons n t h=>.cons ⟨t,rfl⟩ (pB h)
def Only(H:Hp):Prop:=∀ b,H b=none\/∃ o xs,H b=some (.XZ o (.lst xs))
def L3{P:Program}{w:World}{K:q0B}{mg mb:q0C}{CX:CXT}{fa a:Addr}{sp:Sp}{s₁:Shared}{vs:List Value}{ns:List Int}(KX:K.In s₁.heap)(Zq:s₁.heap.Ns mainGlobals mg)(hb:s₁.heap.Ns builtinsNs mb)(hbb:∀ x:Str,x≠"__name__"->mb x=bootBuiltins x)(ab2:s₁.heap.NoLimit)(hg:s₁.gens = #[])(ha:s₁.heap.get? a=some {cls:=.type "list",data:=.seq vs.toArray})(hi:IntsAre vs ns)(hl:ns.length<=sizeLine)(hr:Room k callerA)(F:∀ base:Heap,K.In base->base.Ns mainGlobals mg->gM P w K mg base CX k fa fd [x] sp)(abC:∀(s:Shared) (u:Value),BindsTo s fd ⟨[u],[]⟩ [(x,u)])(hsp:∀ H:Hp,Only H->gE K H a 0e0->sp [.ref a] H 6e0 fun _ _ _=>False)(hCX:∀ H e s',CX [] H s₁ 7e0 e s'->False) : codeAny 9e0 callerA 5e0 4e0 s₁:=by
  have rv:=pB hi;have acA:=hi.length;have core:∀ H:Hp,Only H->gE K H a 0e0->HOk P w H s₁.heap->(∀ b,H b≠none->b=a)->(H a≠none->K.lookup a=none) ->
      codeAny 9e0 callerA 5e0 4e0 s₁:=by
    intro H hO hS Xz hA hK;have Y6:∀ {b:Addr} {o:Obj},s₁.heap.get? b=some o->H b=none->(B4 s₁.heap H).get? b=some o:=fun e n=>LR e n;have noA:∀ {b:Addr} {o:Obj} {es:Array DictEntry} {ep:Nat},s₁.heap.get? b=some o->o.data=.dict es ep->H b=none:=fun {b o es ep} e d=>by
      cases q:H b with
      | none=>rfl
      | some u =>
        have e':b=a:=hA b 2e0;subst e';rw[ha] at e;cases e;have d':Data.seq vs.toArray _=Data.dict es ep:=d;cases d'
    have nsK:∀ {b:Addr} {m:q0C},s₁.heap.Ns b m->(B4 s₁.heap H).Ns b m:=fun {b m} ⟨o,es,ep,e,d,r⟩=>⟨o,es,ep,Y6 e (noA e d),d,r⟩;have hKb:K.In 1e0:=fun b o e=>Y6 (KX b o e) (by
      cases q:H b with
      | none=>rfl
      | some u =>
        have e':b=a:=hA b 2e0;subst e';rw[hK 2e0] at e;cases e)
    have hM:Mod K mg 1e0:=⟨hKb,nsK Zq,⟨mb,nsK hb,hbb⟩,let ⟨mc,h1,h2⟩:=ab2;⟨mc,nsK h1,h2⟩⟩;have e0:Env0 P w K mg 1e0 callerA [] s₁ H:=⟨rfl,hM,fun b o e=>Pm e,Nat.le_of_eq (Jd _ _),trivial,fun b hb=>absurd (show b∈([]:List Addr) from hb) 3e0,Xz,.of_eq hg⟩;refine codeAny_mono ((F _ hKb (nsK Zq)).run callerA [] s₁ H ⟨[.ref a],[]⟩ [.ref a] [.ref a] _ _ hr e0 (abC s₁ (.ref a)) (.cons rfl .nil) (hsp H hO hS)) fun r s' h=>?_;cases r with
    | error e=>exact(hCX H e s' h).elim
    | ok fl =>
      cases fl with
      | next=>exact False.elim h
      | brk=>exact False.elim h
      | cont=>exact False.elim h
      | ret u =>
        obtain⟨v,H',os,bare,un,ab6,r',q⟩:=h;have q':v=.bl true:=q;subst q';obtain rfl:u=Value.bool true:=r';refine⟨rfl,OldK.of_keep fun b o e=>?_,os,bare⟩;cases q:H b with
        | none=>exact un.keep b o e q (by intro z;exact absurd (show b∈([]:List Addr) from z) 3e0) 3e0
        | some u =>
          rcases hO b with z|⟨ob,xs,z⟩
          · rw[q] at z;cases z
          · have z2:=un.xU b ob _ z;obtain⟨e1,_⟩:=Xz b _ z;obtain⟨e2,_⟩:=ab6 b _ z2;rw[e] at e1;cases e1;exact e2
  cases hk:K.lookup a with
  | some o =>
    have e:=KX a o hk;rw[ha] at e;cases e;refine core (fun _=>none) (fun _=>.inl rfl) (.inr ⟨_,vs.toArray,_,hk,rfl,rfl,rfl,by rw[Ζ,acA];exact hl,by simpa using rv⟩) (fun b u z=>by have z':(none:Option HO)=some u:=z;cases z') (fun b z=>absurd rfl z) fun z=>absurd rfl z
  | none =>
    refine core (fun b=>if b=a then some (.XZ {cls:=.type "list",data:=.seq vs.toArray} (.lst 0e0)) else none) (fun b=>?_) (.inl (.inr ⟨{cls:=.type "list",data:=.seq vs.toArray},if_pos rfl⟩)) (fun b u z=>?_) (fun b z=>?_) fun _=>hk
    · by_cases hb:b=a
      · exact .inr ⟨_,_,if_pos hb⟩
      · exact .inl 0e1
    · by_cases hb:b=a
      · have z':=(if_pos hb).symm.trans z;cases z';subst hb;exact⟨ha,by rw[Γ];exact hl,vs,_,rv,ha⟩
      · have z':=(if_neg hb).symm.trans z;cases z'
    · by_cases hb:b=a
      · exact hb
      · exact absurd 0e1 z
def Qg{l:PySem.W.OpenLaw}{n:Nat}{q:Program}{loose:List Str}{XP:(q0C)->Heap->Prop}{YP:World->Heap->Prop}{d:DefRec}{K:Params->q0B}{CX:World->CXT}{sp:World->Sp}(hn:l.most=some n)(hn2:n<=sizeLine)(hdf:d.params.defaults=[])(hr:Room k callerA)(hY:∀(w:World) (h:Heap),YP w h->(K w.params).In h)(F:∀(w:World) (mg:q0C) (fa:Addr) (h:Heap),(K w.params).In h->h.Ns mainGlobals mg->mg d.name=some (.ref fa) -> ∃ fd:FuncData,(∀(s:Shared) (u:Value),BindsTo s fd ⟨[u],[]⟩ [(x,u)]) /\ ∀ base:Heap,(K w.params).In base->base.Ns mainGlobals mg->gM l.prog w 8e0 mg base (CX w) k fa fd [x] (sp w))(hsp:∀(w:World) (H:Hp) (a:Addr) (ns:List Int),ns.length<=n->Only H->gE 8e0 H a 0e0->sp w [.ref a] H 6e0 fun _ _ _=>False)(hCX:∀(w:World) (H:Hp) (s:Shared) (e:Value) (s':Shared),CX w [] H s 7e0 e s'->False) : PySem.W.WalkO q loose XP YP l.row.toRowW d [] (fun f vs=>PySem.call f vs):=by
 refine Att.CU hn hdf fun w s₀ s₁ mg mb fa o pm cd doc a vs ns G Y ho hd ZY hmg aaV hints hlen hg=>?_;have KX:=hY w _ Y;obtain⟨fd,hb,hF⟩:=F w mg fa _ KX G.T.g hmg;exact L3 KX G.T.g G.T.b G.T.builtins G.T.nolimit hg aaV hints (Ω hlen hn2) hr hF hb (fun H hO hS=>hsp w H a ns hlen hO hS) fun H e s'=>hCX w H s₁ e s'
def bW(s:Stmt)(j:Nat):Stmt:=match s with
 | .ClassDef _ _ _ body _ _ _ _ _ _ _=>body.getD j (.Pass ⟨0,0,0,0⟩)
 | _=>.Pass ⟨0,0,0,0⟩
def iT(s:Stmt):Arguments:=match s with
 | .FunctionDef _ a _ _ _ _ _ _ _ _=>a
 | _=>{posonlyargs:=[],args:=[],vararg:=none,kwonlyargs:=[],kw_defaults:=[],kwarg:=none,defaults:=[]}
def gF(s:Stmt):List Stmt:=match s with
 | .FunctionDef _ _ b _ _ _ _ _ _ _=>b
 | _=>[]
def cX(s:Stmt):Scope:=match s with
 | .FunctionDef _ _ _ _ _ _ sc _ _ _=>sc
 | _=>{kind:=.function,names:=[],isGenerator:=false,isCoroutine:=false}
abbrev Yj:CXT:=fun _ _ _ _ _ _=>False
abbrev E0:XK:=fun _ _ _=>False
def pass0{X:Cx}:Passes Yj X E0:=fun _ _ _ _ _ _ _ h=>h.elim
structure Fun(K:q0B)(x qual:Str)(st:Stmt)(f:Addr)(fd:FuncData):Prop where
 ex:∃(oc:Value) (od:Option Addr) (kV doc pm:Value) (an:Option Addr) (XQ ct:Value) (ZH:Array (Option Value)),
  fd=PySem.W.fnOf x qual (iT st) (gF st) (cX st) .none kV doc pm an XQ ct/\K.lookup f=some ⟨oc,od,.func fd,ZH⟩/\PySem.W.codeIn K XQ qual=true
 kp:PySem.W.keepIn K (.ref f)=true
end
section
variable{P:Program}{w:World}{K:q0B}{mg:q0C}{base:Heap}
def Fun.ok{qual:Str}{N ps:List Str}{sp:Sp}(F:Fun K x qual st f fd)(S:oG N ps (cX st))(len:∀ vs H Q E,sp vs H Q E->vs.length=ps.length)(YK:∀(XQ:Value) (A:Around) (outer:List Env) (s:Shared) (H:Hp) (vs:List V) (Q:VK) (E:XK),Room k (A.deeper (envOfC qual (cX st) s.heap.objs.size f XQ))->sp vs H Q E -> ∃ t,YC (BO Yj P w K mg base N qual (cX st) f XQ A outer s H E).nox (gF st) t/\t {nx:=fun _ H'=>Q .Xu H',rt:=Q} (start N vs) H):gM P w K mg base Yj (k+1) f fd ps sp:=by
 obtain⟨oc,od,kV,doc,pm,an,XQ,ct,ZH,rfl,lk,ZY⟩:=F.ex;refine UY lk ZY S len fun A outer s H vs Q E hr hsp=>?_;obtain⟨t,h,q⟩:=YK XQ A outer s H vs Q E hr hsp;exact⟨t,h.nox,q⟩
def Fun.binds{qual:Str}{ps:List Str}(F:Fun K x qual st f fd)(h:∀(kV doc pm:Value) (an:Option Addr) (XQ ct:Value) (us:List Value),us.length=ps.length->bindArgs (PySem.W.fnOf x qual (iT st) (gF st) (cX st) .none kV doc pm an XQ ct) ⟨us,[]⟩=pure (ps.zip us)):Binds K fd ps []:=by
 obtain⟨oc,od,kV,doc,pm,an,XQ,ct,ZH,rfl,lk,ZY⟩:=F.ex;exact .all (h kV doc pm an XQ ct)
def LK{qual:Str}{oc:Value}{od an:Option Addr}{ZH:Array (Option Value)}{kV doc pm XQ ct:Value}(l:K.lookup f=some ⟨oc,od,.func (PySem.W.fnOf x qual (iT st) (gF st) (cX st) .none kV doc pm an XQ ct),ZH⟩)(c:PySem.W.codeIn K XQ qual=true)(k:PySem.W.keepIn K (.ref f)=true):Fun K x qual st f (PySem.W.fnOf x qual (iT st) (gF st) (cX st) .none kV doc pm an XQ ct):=⟨⟨oc,od,kV,doc,pm,an,XQ,ct,ZH,rfl,l,c⟩,k⟩
end
theorem nI{A:Around}(hr:Room k A):A.units+1 < cLine:=Nat.lt_of_le_of_lt (Nat.add_le_add_left (by decide:1<=64) _) hr.units
theorem small1000{n:Nat}(h:n<=1000):n < sizeLine:=Nat.lt_of_le_of_lt h (by decide)
section
variable{X:Cx}
theorem pv(i:Nat){pos:Pos}(hN:X.N[i]?=some x:=by rfl)(hv:Vis X.env.scope x:=by first|exact Or.inl rfl|exact Or.inr (Or.inl rfl)|exact Or.inr (Or.inr rfl))(hd:(x==("__debug__":Str))=false:=by decide)(ZY:(x==("__classdict__":Str))=false:=by decide):PE X (.Name x pos) (oE i):=mB hN hv hd ZY
end
def Same(H H':Hp):Prop:=∀ b o,H b=some o->H' b=some o
def Same.seq{K:q0B}{H H':Hp}{a:Addr}{xs:List V}(e:Same H H')(h:gE K H a xs):gE K H' a xs:=by
 rcases h with(h|⟨o,h⟩)|h
 ·exact .inl (.inl (e _ _ h))
 ·exact .inl (.inr ⟨o,e _ _ h⟩)
 ·exact .inr h
section
variable{X:Cx}
end
section
variable{κ:Type}[DecidableEq κ]
end
end L2
set_option maxHeartbeats 4000000
namespace L2
open PySem PySem.Spec PyProof.Rows
variable{a it l:Addr}{A:Around}{items:Array Value}{r:Bool}{X:Cx}{h:Heap}{H:Hp}{g:Int->Int->V}{Xs:List (Addr×Obj)}{kvs:List (Key×V)}{cl:List (Str×Addr)}{R:List (V×V)->Hp->Prop}{fp:List Addr}{es:List Expr}{ns:List Int}{fr:List Nat}{vs xs ys:List V}{k:List V->Prop}{i j n:Nat}{tn:Nat->Heap->Prop}{Pv:Nat->List V->Hp->Prop}{W:Nat->Nat->List V->Hp->Prop}{o:Option HO}{O:Option Int->Hp->Prop}{o0 o1:Option V}{Q:Option Value->Shared->Prop}{pos:Pos}{P:Program}{t:SetTable}{s:Shared}{σ:St}{N:St->Hp->Prop}{x y:Str}{v:Value}{RR:Value->Addr->Result->Shared->Prop}{w:World}{E:q0A}{K:q0B}
mutual
example:=[]
theorem mW:bootBuiltins "int"=some (.type "int"):=by decide +kernel
theorem NV:bootBuiltins "dict"=some (.type "dict"):=by decide +kernel
theorem eX:bootBuiltins "tuple"=some (.type "tuple"):=by decide +kernel
theorem pY:bootBuiltins "max"=some (.builtin "max"):=by decide +kernel
theorem BN:bootBuiltins "min"=some (.builtin "min"):=by decide +kernel
theorem oJ:bootBuiltins "sorted"=some (.builtin "sorted"):=by decide +kernel
theorem fJ:bootBuiltins "len"=some (.builtin "len"):=by decide +kernel
end
section
def To(_ j:Int):Prop:=0 < j/\j.natAbs.log2 < 9000
theorem DO:j7 X (binaryOp .FloorDiv) (rI To fun i j=>.int (i / j)):=V8 fun i j _ _ _ _ _ hc q=>by
 have h1:(0:Int) < j:=hc.1;exact floordiv_int (by omega) (by rw[Int.fdiv_eq_ediv_of_nonneg i (by omega)];exact q) (.inl (PyProof.noPylong_of_log2 hc.2))
theorem log2_lt{j:Int}(h0:0 < j)(h:j<=10 ^ 45):j.natAbs.log2 < 9000:=by
 have h1:j.natAbs<=10 ^ 45:=by omega
 have h2:j.natAbs < 2 ^ 150:=Nat.lt_of_le_of_lt h1 (by decide);have h3:j.natAbs.log2 < 150:=(Nat.log2_lt (by omega)).mpr h2;omega
end
noncomputable def nJ:Expr->Bool
 | .Starred ..=>true
 | _=>false
def JT{e:Expr}{env:Env}(h:nJ e=false):starEach (e::es) env=(false,eval e env)::starEach es env:=by
 cases e<;>first|rfl|cases h
section
variable{e:Expr}{te:TE}{t:TA}
def dN(ha:PE X e te)(hr:PA X es t)(h:nJ e=false:=by rfl):PA X (e::es) (oC te t):=Hy ha hr (JT h)
end
noncomputable abbrev uI(prog:Program)(w:World)(A:Around)(env:Env)(R:Result->Shared->Prop):Value->Shared->Prop:=notedBy (model prog w) A env fun e s'=>R (.error e) s'
noncomputable abbrev Im(ifs:List Expr)(env:Env):Sem Bool:=forIn ifs true fun c r=>if r=true then do let ok <- isTrue c env (eval c env);pure (ForInStep.yield ok) else pure (ForInStep.yield r)
section
variable{prog:Program}{R:Result->Shared->Prop}
def uA{elt target iter:Expr}{ifs:List Expr}{scope:Scope}{it acc:Value}{env:Env}(I:Nat->Shared->Prop)(turn:∀ n s,I n s->wpAny (model prog w) A (pyNext it) (fun r s₁=>match r with|none=>R (.ok .next) s₁|some v=>wpAny (model prog w) A (letOwnedTupleGo target it v) (fun _ s₁'=>wpAny (model prog w) A (assign target env v) (fun _ s₂ => wpAny (model prog w) A (Im ifs env) (fun ok s₃ => if ok=true then wpAny (model prog w) A (eval elt env) (fun x s₄ => wpAny (model prog w) A (call (.builtin "list.append") [acc,x]) (fun _ s₅=>∃ m,m < n/\I m s₅) (uI prog w A env R) s₄) (uI prog w A env R) s₃ else ∃ m,m < n/\I m s₃) (uI prog w A env R) s₂) (uI prog w A env R) s₁') (uI prog w A env R) s₁) (uI prog w A env R) s)(n:Nat)(h:I n s):codeAny (model prog w) A (.compLoop (.ListComp elt [⟨target,iter,ifs,0⟩] scope pos) 0 it acc env) R s:=by
 refine codeAny_loop rfl I (fun n s hI=>?_) n h;show wpAny _ A ((compTurn (.ListComp elt [⟨target,iter,ifs,0⟩] scope pos) 0 it acc env).onRaise (fun x=>do noteFrame x env;theTreesLotGoes x)) _ _ s;refine wpAny_noted ?_;rw[compTurn_list];refine Β (wpAny_standAt (Β (Α8 (turn n s hI) (fun r s₁ h₁=>?_) fun _ _ h'=>h')));cases r with
 | none=>exact Θ h₁
 | some v =>
  refine Β (Α8 h₁ (fun _ s₁' h₁'=>?_) fun _ _ h'=>h');refine Β (Α8 h₁' (fun _ s₂ h₂=>Β (Α8 h₂ (fun ok s₃ h₃=>?_) fun _ _ h'=>h')) fun _ _ h'=>h');cases ok with
  | false=>exact Θ ⟨rfl,h₃⟩
  | true =>
   exact Β (Β (Α8 h₃ (fun x s₄ h₄=>Β (Α8 h₄ (fun _ s₅ h₅=>Θ (Θ ⟨rfl,h₅⟩)) fun _ _ h'=>h')) fun _ _ h'=>h'))
end
noncomputable def bY(X:Cx)(sc:Scope)(cl:List (Str×Addr))(C:Addr)(N:List Str)(s:Shared)(H:Hp)(ex:List Addr)(pn:List (Addr×Obj)):Cx :=
 {X with env:=compEnvC sc cl C X.env,N:=N,s₀:=s,H₀:=H,outer:=X.stack,ex:=ex,fn:=fun _=>false,pn:=pn}
structure fD(X:Cx)(sc:Scope)(cl:List (Str×Addr))(x:Str)(fr:List Nat)(N:List Str):Prop where
 kind:sc.kind=.function
 yQ:∀ y∈sc.names,y.2≠.cell
 names:∀ y∈sc.names,y.2=.local->sc.names.lookup y.1=some .local
 C1:closureFor sc X.env=pure cl
 sub:∀ y c,cl.lookup y=some c->X.env.cells.lookup y=some c
 has:∀ y,((relabel sc X.env).names.lookup y=some .cell\/(relabel sc X.env).names.lookup y=some .free)->∃ c,cl.lookup y=some c
 tgt:sc.names.lookup x=some .local
 nd:N.Nodup
 N0:N=x::fr.map fun j=>X.N.getD j x
 frc:∀ j∈fr,∃ y,X.N[j]?=some y/\X.env.kindOf y=some .cell/\((relabel sc X.env).names.lookup y=some .cell\/(relabel sc X.env).names.lookup y=some .free)
def aX(fr:List Nat)(σ:St):St:=fr.map fun j=>(σ[j]?).join
section
variable{sc:Scope}{C:Addr}{N:List Str}
mutual
example:=[S.sub y c e,some v,X.pn++Xs,bY X sc cl C N s H fp 2e0,Φ (Λ e) hC,I.qK b hm]
def Ob(I:Xv X Xs σ H s)(S:fD X sc cl x fr N)(hf:∀ b∈fp,mT X Xs H b)(YX:∀ b∈fp,b < s.heap.objs.size)(hC:s.heap.objs.size<=C) : (bY X sc cl C N s H fp 2e0).Ok where
 mod:=I.ok.mod
 kind:=S.kind
 glob:=I.ok.glob
 blt:=I.ok.blt
 above:=hC
 inj:=fun y z c h1 h2=>I.ok.inj y z c (S.sub y c h1) (S.sub z c h2)
 has:=S.has
 cab:=fun _ _ h=>by cases h
 hd:=I.ok.hd
 frames:=I.ok.frames
 stk:=.inl rfl
 exf:=fun b hb=>⟨Ο (Φ (YX b hb) hC),fun y c e=>(hf b hb).2.2.2.2.1 y c 0e0⟩
 bs:=I.bs
 bsz:=Ω I.ok.bsz I.sz
 DB:=fun b o e hb=>by
  rcases(hf b hb).2.2.2.1 with z|z
  ·exact I.ok.DB b o e z
  ·exact absurd (Φ (Λ e) (Ω I.ok.bsz z)) (Ϛ _)
 IX:=fun b hb hm=>by
  rcases Α.mp 5e0 with z|z
  ·exact(hf b hb).2.1 z
  ·exact(hf b hb).2.2.1 z
 rA:=I.stack
 frf:=I.CB
def nostk(I:Xv X Xs σ H s){b:Addr}(h1:b≠X.env.locals)(h2:b∉X.fs):b∉frs X.stack:=fun hm=>by
 rcases Α.mp 5e0 with z|z
 ·exact h1 z
 ·exact h2 z
def KR(I:Xv X Xs σ H s)(S:fD X sc cl x fr N)(hf:∀ b∈fp,mT X Xs H b)(YX:∀ b∈fp,b < s.heap.objs.size)(hC:s.heap.objs.size<=C){h1:Heap}{t1:Nat}{m0:q0C}(hn:h1.Ns C m0)(hk:∀ b o,s.heap.get? b=some o->h1.get? b=some o):Xv 3e0 [] (none::aX fr σ) H {s with heap:=h1,toks:=t1}:=by
 refine⟨Ob I S hf YX hC,rfl,I.bare,Un.kept hk,⟨m0,hn,fun i y v e1 e2 e3=>?_⟩,fun y c e=>?_,I.Xz.fresh hC,fun y c e=>I.kY y c 0e0,fun p hp=>?_,I.Xz.kept hk,?_⟩
 ·have Yw:N[i]?=some y:=e1;rw[S.N0] at Yw;cases i with
  | zero =>
   have z:(some (none:Option V))=some 1e0:=e2;cases z
  | succ j =>
   have Ye:(fr.map fun j=>X.N.getD j x)[j]?=some y:=Yw;have Zi:(aX fr σ)[j]?=some 1e0:=e2;unfold aX at Zi;rw[ϕ] at Ye Zi;cases q:fr[j]? with
   | none=>rw[q] at Ye;cases Ye
   | some k =>
    rw[q] at Ye Zi;have ey:X.N.getD k x=y:=ϗ Ye;have ev:(σ[k]?).join=some v:=ϗ Zi;obtain⟨y',hy,Yg,Z9⟩:=S.frc k (ϒ q);have eyy:y=y':=by
     rw[<- ey,Ε4,hy];rfl
    subst eyy;have ev':σ[k]?=some 1e0:=by
     cases z:σ[k]? with
     | none=>rw[z] at ev;cases ev
     | some o =>
      rw[z] at ev;have ev2:o=some v:=ev;rw[ev2]
    obtain⟨m,_,hl⟩:=I.loc;obtain⟨u,r,l⟩:=hl k y v hy ev' (.inr (.inl Yg));refine⟨u,r,.inr ⟨Z9,?_⟩⟩;rcases l with⟨z,_⟩|⟨_,c,hc,o,ho,hd⟩
    ·rw[Yg] at z;cases z
    ·obtain⟨c',ZX⟩:=S.has y Z9;have z:=S.sub y c' ZX;rw[hc] at z;cases z;exact⟨c,ZX,o,hk c o ho,hd⟩
 ·obtain⟨v,o,ho,hd⟩:=I.cell y c 0e0;exact⟨v,o,hk c o ho,hd⟩
 ·have hp':p∈X.pn++Xs:=by
   have z:p∈2e0++[]:=hp;simpa using z
  obtain⟨e,n,ne,nf,d⟩:=I.pin p hp';exact⟨hk _ _ e,n,Ο 4e0,nostk I ne nf,d⟩
 ·show(none::aX fr σ).length=N.length;rw[S.N0];simp[aX]
def C4(I:Xv X Xs σ H s)(hf:∀ b∈fp,mT X Xs H b){D:Addr}{pl:List (Addr×Obj)}{σ':St}{H':Hp}{s':Shared}(J:Xv 3e0 pl σ' H' s')(hC:s.heap.objs.size<=C)(hD:s.heap.objs.size<=D)(Zn:D≠C)(Y7:H' D=none){vals:List Value}{k:Nat}(hg:s'.heap.get? D=some {cls:=.type "list",data:=.seq vals.toArray k})(rv:Xx xs vals)(hz:xs.length<=sizeLine){h':Heap}(hs:Heap.SameBut C s'.heap h'):Xv X Xs σ (Xt H' D (.lst xs)) {s' with heap:=h'}:=by
 have lt:∀ {b:Addr} {o:Obj},s.heap.get? b=some o->b < s.heap.objs.size:=fun e=>Λ e;have neC:∀ {b:Addr} {o:Obj},s.heap.get? b=some o->b≠C:=fun e=>Ο 4e0;have neD:∀ {b:Addr} {o:Obj},s.heap.get? b=some o->b≠D:=fun e=>Ο (Φ (Λ e) hD);have aa1:∀ {b:Addr} {o:HO},H b=some o->b≠D:=fun e=>Ο (Φ (I.Xz.lt e) hD);have base:Un (frs X.stack) fp H H' s.heap s'.heap:=J.base;have HC:H' C=none:=J.free;refine I.TR (s':={s' with heap:=h'}) (ch:=fp) J.os ⟨fun b o e n hb hx=>?_,fun b o e n hb hx=>?_,fun b o e n hx=>?_,fun b o e hx=>?_,fun b ys e=>?_,fun b o u e=>?_,fun b ps e=>?_⟩ (fun b u e=>?_) J.bare (fun b hb=>?_)
 ·exact(hs.2 b (neC e)).trans (base.keep b o e n hb hx)
 ·obtain⟨sl,q⟩:=base.slot b o e n hb hx;exact⟨sl,(hs.2 b (neC e)).trans q⟩
 ·rw[aC (neD e)];exact base.free b o e n hx
 ·obtain⟨o',q⟩:=base.there b o e hx;exact⟨o',(hs.2 b (neC e)).trans q⟩
 ·rw[aC (aa1 e)];exact base.AI b ys e
 ·rw[aC (aa1 e)];exact base.xU b o u e
 ·rw[aC (aa1 e)];exact base.AH b ps e
 ·by_cases hb:b=D
  ·subst hb;rw[aA] at e;cases e;exact⟨hz,vals,k,rv,(hs.2 b Zn).trans hg⟩
  ·rw[aC hb] at e;have tC:∀ {c:Addr} {o:HO},H' c=some o->c≠C:=fun q z=>by rw[z,HC] at q;cases q
   have tD:∀ {c:Addr} {o:HO},H' c=some o->c≠D:=fun q z=>by rw[z,Y7] at q;cases q
   refine(J.Xz b u e).vB (fun c v hc q=>(hs.2 c ?_).trans q) (fun c q=>by rw[aC (tD q)];exact q) fun c ys q=>by rw[aC (tD q)];exact q
   rcases hc with z|z
   ·rw[z];exact tC e
   ·exact tC z
 ·obtain⟨_,f1,_,f3,f4,f5⟩:=hf b hb;exact⟨f3,f1,f4,f5⟩
end
end
mutual
example:=[some y::aX fr σ]
def PTs(Y:Cx)(ifs:List Expr)(t:TT):Prop :=
 ∀(Xs:List (Addr×Obj)) (s:Shared) (σ:St) (H:Hp) (Q:Bool->Hp->Prop),Xv Y Xs σ H s->t σ H Q->wpAny (model Y.prog Y.w) Y.A (Im ifs Y.env) (TP Y Xs σ Q) Y.xe s
def QN:TT:=fun _ H Q=>Q true H
def Cs{Y:Cx}:PTs Y [] QN:=fun _ _ _ H _ I h=>wpAny_tests_nil ⟨H,I,h⟩
def mG{Y:Cx}{c:Expr}{t:TT}(h:PT Y c t):PTs Y [c] t:=fun Xs s σ H Q I hw=>wpAny_tests_one (h Xs s σ H Q I hw)
@[irreducible] def lH(wi:TI)(fr:List Nat)(tc:TT)(te:TE):TE:=fun σ H Q=>wi σ H fun J H1=>∃ W:Nat->Nat->List V->Hp->Prop,(∃ m,W 0 m [] H1)/\∀ i m xs H,W i m xs H->xs.length<=1000000 /\
  ((J.stop i H/\∀ p,H p=none->Q (.ref p) (Xt H p (.lst xs))) \/
   (J.go i H/\∀ y H',J.Ze i H y H'->tc 0e0 H' fun b H2=>if b=true then te 0e0 H2 (fun z H3=>∃ m',m' < m/\W (i+1) m' (xs++[z]) H3) else ∃ m',m' < m/\W (i+1) m' xs H2))
end
section
variable{sc:Scope}{N:List Str}{elt iter:Expr}{px:Pos}{ifs:List Expr}{wi:TI}{tc:TT}{te:TE}
theorem wY(hc:X.calm=true)(hx:∀ e s,¬ X.xe e s)(S:fD X sc cl x fr N)(hb:∀ C s H ex pn,PTs (bY X sc cl C N s H ex pn) ifs tc/\PE (bY X sc cl C N s H ex pn) elt te){J:It}{Q:VK}(I:Xv X Xs σ H s)(T:Turn X.prog X.w X.K (.Name x px) J fp it tn)(st:tn 0 s.heap)(hf:∀ b∈fp,mT X Xs H b){m0:Nat}(w0:W 0 m0 [] H)(turn:∀ i m xs H,W i m xs H->xs.length<=1000000 /\ ((J.stop i H/\∀ p,H p=none->Q (.ref p) (Xt H p (.lst xs))) \/ (J.go i H/\∀ y H',J.Ze i H y H'->tc (some y::aX fr σ) H' fun b H2=>if b=true then te (some y::aX fr σ) H2 (fun z H3=>∃ m',m' < m/\W (i+1) m' (xs++[z]) H3) else ∃ m',m' < m/\W (i+1) m' xs H2)))(fin:∀(D C:Addr) (s':Shared) (m':q0C) (H':Hp),s'.heap.Ns C m'->mT X Xs H' C->(∀ h',Heap.SameBut C s'.heap h'->Xv X Xs σ H' {s' with heap:=h'})->Q (.ref D) H'->RR (.ref D) C (.ok .next) s') : wpAny (model X.prog X.w) X.A (newList []) (fun acc s₃=>wpAny (model X.prog X.w) X.A (newFunctionEnv sc X.env.globals cl [] X.env.qual none .none (some X.env)) (fun ZM s₄ => codeAny (model X.prog X.w) X.A (.compStart (.ListComp elt [⟨.Name x px,iter,ifs,0⟩] sc pos) 0 (.ref it) acc {ZM with scope:=relabel sc X.env}) (RR acc ZM.locals) s₄) E s₃) E s:=by
  refine Β5 (wpAny_newFunctionEnv S.yQ (by intro y hy;simp at hy) (fun h₁ YY Yy=>?_) S.kind);dsimp only at YY Yy ⊢;generalize hH2:s.heap.push {cls:=.type "list",dict:=none,data:=.seq ([]:List Value).toArray}=G2 at YY Yy ⊢;have hCs:G2.objs.size=s.heap.objs.size+1:=by rw[<- hH2,Heap.size_push]
  have Zn:s.heap.objs.size≠G2.objs.size:=by rw[hCs];exact Ο (Nat.lt_succ_self _)
  have hC:s.heap.objs.size<=G2.objs.size:=by rw[hCs];exact Δ4 _
  have below:∀ b,b < s.heap.objs.size->b≠G2.objs.size:=fun b hb=>by rw[hCs];exact Ο (Nat.lt_succ_of_lt hb)
  have old:∀ b o,s.heap.get? b=some o->h₁.get? b=some o:=fun b o e=>Yy.extBut b o (below b (Λ e)) (Ε _ (hH2▸Ε _ e));have hD1:h₁.get? s.heap.objs.size=some {cls:=.type "list",data:=.seq ([]:List Value).toArray 0}:=Yy.extBut _ _ Zn (Ε _ (hH2▸Τ _ rfl));have YX:∀ b∈fp,b < s.heap.objs.size:=fun b hbm=>by
    obtain⟨o,e,_⟩:=T.obj 0 s.heap st b hbm;exact Λ e
  have Y7:H s.heap.objs.size=none:=I.Xz.fresh (Ι _);have aaM:s.heap.objs.size∉frs X.stack:=fun hm=>by
    rcases Α.mp (I.qK _ hm) with z|z
    · exact absurd I.lt (by rw[<- z];exact Ϛ _)
    · exact I.SJ (Ι _) z
  have ZJ:∀ y c,cl.lookup y=some c->c≠s.heap.objs.size:=fun y c e z=>by
    obtain⟨v,q⟩:=I.cell y c (S.sub y c e);exact absurd q.lt (by rw[z];exact Ϛ _)
  have aaL:∀ p∈X.pn++Xs,p.1≠s.heap.objs.size:=fun p hp z=>absurd (Λ (I.pin p hp).1) (by rw[z];exact Ϛ _);have Dfp:s.heap.objs.size∉fp:=fun hm=>Ϛ _ (YX _ hm);have loop:∀ s₃:Shared,s₃={s with heap:=h₁,toks:=s.toks+([]:List (Str×Value)).length} ->
      codeAny (model X.prog X.w) X.A (.compLoop (.ListComp elt [⟨.Name x px,iter,ifs,0⟩] sc pos) 0 (.ref it) (.ref s.heap.objs.size) (compEnvC sc cl G2.objs.size X.env)) (RR (.ref s.heap.objs.size) G2.objs.size) s₃:=by
    rintro s₃ rfl;have I0:Xv (bY X sc cl G2.objs.size N s H fp (X.pn++Xs)) [] (none::aX fr σ) H {s with heap:=h₁,toks:=s.toks+([]:List (Str×Value)).length}:=KR I S hf YX hC YY old;refine uA (fun n s'=>∃(i:Nat) (xs:List V) (vals:List Value) (k:Nat) (v0:Option V) (H':Hp),Xv (bY X sc cl G2.objs.size N s H fp (X.pn++Xs)) [] (v0::aX fr σ) H' s'/\tn i s'.heap/\(∀ b∈fp,H' b=none) /\
      s'.heap.get? s.heap.objs.size=some {cls:=.type "list",data:=.seq vals.toArray k}/\Xx xs vals/\H' s.heap.objs.size=none/\W i n xs H') ?_ m0
      ⟨0,[],[],0,none,H,I0,T.keep _ _ _ st fun b _ o e=>old b o e,fun b hb=>(hf b hb).1,hD1,.nil,Y7,w0⟩
    rintro n s1 ⟨i,xs,vals,k,v0,H1,I1,st1,fr1,hg1,rv1,aaP,w1⟩;have hlen:=rv1.length;obtain⟨hz,step⟩:=turn i n xs H1 w1;have hz2:xs.length<=sizeLine:=Ω hz (by decide);have Yi:∀ {H':Hp} {pl:List (Addr×Obj)},(∀ b∈fp,H' b=none)->(∀ p∈pl,p.1=s.heap.objs.size)->∀ b∈fp,mT (bY X sc cl G2.objs.size N s H fp (X.pn++Xs)) pl H' b:=fun {H' pl} hn X0 b hb =>
      ⟨hn b hb,below b (YX b hb),nostk I (hf b hb).2.1 (hf b hb).2.2.1,.inl hb,fun y c e=>(hf b hb).2.2.2.2.1 y c (S.sub y c e),fun p hp z=>by
        rcases Κ.mp hp with q|q
        · exact(hf b hb).2.2.2.2.2 p q z
        · exact Dfp (by rw[<- X0 p q,z];exact hb)⟩
    have I1':Xv (bY X sc cl G2.objs.size N s H fp (X.pn++Xs)) [(s.heap.objs.size,{cls:=.type "list",data:=.seq vals.toArray k})] (v0::aX fr σ) H1 s1:=I1.kI fun p hp=>by
      have e:p=(s.heap.objs.size,{cls:=.type "list",data:=.seq vals.toArray k}):=by simpa using hp
      subst e;exact⟨hg1,aaP,Zn,aaM,fun v z=>by cases z⟩
    rcases step with⟨stop,hq⟩|⟨go,step⟩
    · refine thn (T.done (bY X sc cl G2.objs.size N s H fp (X.pn++Xs)) rfl rfl rfl hc i [(s.heap.objs.size,{cls:=.type "list",data:=.seq vals.toArray k})] s1 _ H1 _ I1' (Yi fr1 fun p hp=>by
        have e:p=(s.heap.objs.size,{cls:=.type "list",data:=.seq vals.toArray k}):=by simpa using hp
        rw[e]) st1 stop) fun r s2 ⟨hr,I2⟩=>?_
      subst hr;obtain⟨g2,n2,_⟩:=I2.pin (s.heap.objs.size,{cls:=.type "list",data:=.seq vals.toArray k}) (ϐ _ (by simp));obtain⟨m2,hn2,_⟩:=I2.loc;have hCn:Xt H1 s.heap.objs.size (.lst xs) G2.objs.size=none:=by
        rw[aC (Ne.symm Zn)];exact I2.free
      exact fin s.heap.objs.size G2.objs.size s2 m2 _ hn2 (I.Ja hC hCn) (fun h' YS=>C4 I hf I2 hC (Ι _) Zn n2 g2 rv1 hz2 YS) (hq _ n2)
    · refine thn (T.item (bY X sc cl G2.objs.size N s H fp (X.pn++Xs)) rfl rfl rfl hc i [(s.heap.objs.size,{cls:=.type "list",data:=.seq vals.toArray k})] s1 _ H1 _ I1' (Yi fr1 fun p hp=>by
        have e:p=(s.heap.objs.size,{cls:=.type "list",data:=.seq vals.toArray k}):=by simpa using hp
        rw[e]) st1 go) fun r s2 ⟨u,hr,h2⟩=>?_
      subst hr;refine thn h2 fun _ s3 ⟨y,H3,I3,r3,y3,st3,fr3⟩=>?_;have I3':=I3.pinned (Yi fr3 fun p hp=>by
        have e:p=(s.heap.objs.size,{cls:=.type "list",data:=.seq vals.toArray k}):=by simpa using hp
        rw[e]) (T.obj _ _ st3)
      have back:∀ {σ9:St} {H9:Hp} {s9:Shared},Xv (bY X sc cl G2.objs.size N s H fp (X.pn++Xs)) ([(s.heap.objs.size,{cls:=.type "list",data:=.seq vals.toArray k})]++tY fp s3.heap) σ9 H9 s9 ->
          tn (i+1) s9.heap/\(∀ b∈fp,H9 b=none)/\s9.heap.get? s.heap.objs.size=some {cls:=.type "list",data:=.seq vals.toArray k}/\H9 s.heap.objs.size=none:=fun {σ9 H9 s9} I9=>by
        refine⟨T.keep _ _ _ st3 fun b hb o e=>(I9.pin (b,o) (ϐ _ (ϐ _ (iO hb e)))).1,fun b hb=>?_,?_⟩
        · obtain⟨o,e,d⟩:=T.obj _ _ st3 b hb;exact(I9.pin (b,o) (ϐ _ (ϐ _ (iO hb e)))).2.1
        · obtain⟨a1,a2,_⟩:=I9.pin (s.heap.objs.size,{cls:=.type "list",data:=.seq vals.toArray k}) (ϐ _ (List.mem_append_left _ (by simp)));exact⟨a1,a2⟩
      have hN0:(bY X sc cl G2.objs.size N s H fp (X.pn++Xs)).N[0]?=some x:=by
        show N[0]?=some x;rw[S.N0];rfl
      have Z3:(relabel sc X.env).names.lookup x=some .local:=lookup_relabel_local S.tgt;have hpg:PG (bY X sc cl G2.objs.size N s H fp (X.pn++Xs)) (.Name x px) (kD 0):=vU (i:=0) S.nd hN0 (.inl Z3) (.inr Z3);have noX:∀ e s',(bY X sc cl G2.objs.size N s H fp (X.pn++Xs)).xe e s'->uI X.prog X.w X.A (compEnvC sc cl G2.objs.size X.env) (RR (.ref s.heap.objs.size) G2.objs.size) e s':=fun e s' z=>(hx e s' z).elim;have Z8:=step y H3 y3;refine Α8 (hpg _ s3 _ H3 y u (fun σ' H'=>σ'=some y::aX fr σ/\H'=H3) I3' r3 ⟨rfl,rfl⟩) (fun _ s4 ⟨σ4,H4,I4,e4,e4'⟩=>?_) noX;subst e4 e4';obtain⟨hbT,hbE⟩:=hb G2.objs.size s H fp (X.pn++Xs);refine Α8 (hbT _ s4 _ H4 _ I4 Z8) (fun ok s5 ⟨H5,I5,q5⟩=>?_) noX;cases ok with
      | false =>
        rw[if_neg Χ];have q5':∃ m',m' < n/\W (i+1) m' xs H5:=q5;obtain⟨m',hm,w5⟩:=q5';obtain⟨b1,b2,b3,b4⟩:=back I5;exact⟨m',hm,i+1,xs,vals,k,some y,H5,I5.kI (fun p hp=>absurd hp (by simp)),b1,b2,b3,rv1,b4,w5⟩
      | true =>
        rw[if_pos rfl];refine Α8 (hbE _ s5 _ H5 _ I5 q5) (fun z s6 ⟨v6,H6,I6,r6,q6⟩=>?_) noX;obtain⟨m',hm,w6⟩:=q6;obtain⟨b1,b2,b3,b4⟩:=back I6;refine call_meets F.slot_list_append ⟨_,b3,rfl⟩ F.entry_list_append (F.args_list_append_2 _ _) (PySem.list_append s.heap.objs.size vals.toArray k z (by rw[Ζ];omega)) ⟨b3,?_⟩;have q7:=PySem.IsL.update b3 (fun a:Array Value=>a.push z);have Z6:vals.toArray.push z=(vals++[z]).toArray:=by simp
        rw[Z6] at q7;have I6':Xv (bY X sc cl G2.objs.size N s H fp (X.pn++Xs)) [] (some y::aX fr σ) H6 s6:=I6.kI (fun p hp=>absurd hp (by simp));have others:∀ b o,b≠s.heap.objs.size->s6.heap.get? b=some o->(s6.heap.update s.heap.objs.size (Obj.mapSeq fun a=>a.push z)).get? b=some o:=fun b o XX e=>(Heap.get?_update_other _ _ (Ne.symm XX)).trans e;refine⟨m',hm,i+1,xs++[v6],vals++[z],_,some y,H6,I6'.turned (it:=s.heap.objs.size) others b4 Zn (.inr (Ι _)) ZJ (fun p hp z'=>?_),T.keep _ _ _ b1 fun b XX o e=>others b o (fun z'=>Dfp (by rw[<- z'];exact XX)) e,b2,q7,rv1.append (.cons r6 .nil),b4,w6⟩;have hp':p∈X.pn++Xs:=by
          have z2:p∈(X.pn++Xs)++[]:=hp;simpa using z2
        exact aaL p hp' z'
  exact codeAny_compStart_list (loop _ rfl) (T.self _ _ _ _ _ (T.keep _ _ _ st fun b _ o e=>old b o e) (loop _ rfl))
def rV(hc:X.calm=true)(hx:∀ e s,¬ X.xe e s)(S:fD X sc cl x fr N)(hi:PI X (.Name x px) iter wi)(hb:∀ C s H ex pn,PTs (bY X sc cl C N s H ex pn) ifs tc/\PE (bY X sc cl C N s H ex pn) elt te)(hs:∀ v,foldedSetIterable iter X.env v=pure v:=by intro _;rfl):PE X (.ListComp elt [⟨.Name x px,iter,ifs,0⟩] sc pos) (lH wi fr tc te):=by
 intro Xs s σ H Q I h;unfold lH at h;rw[eval_ListComp];refine wpAny_comprehension_free (use:=none) rfl hs S.C1 S.kind S.names ?_;refine thn (hi Xs s σ H _ I h) fun v s1 h1=>thn h1 fun itv s2 h2=>?_;obtain⟨it,fp,tn,J,H2,e,I2,T,Y2,f2,W,⟨m0,w0⟩,turn⟩:=h2;subst e;refine wY (RR:=fun acc C=>compPost (model X.prog X.w) X.A X.xe none (EP X Xs σ Q) acc C) hc hx S hb I2 T Y2 f2 w0 turn ?_;intro D C s' m' H' hn _ Z1 q;exact⟨m',hn,fun h' YS=>⟨.ref D,H',Z1 h' YS,rfl,q⟩⟩
end
section
def Tb:NI X (fun x lo hi H Q=>∃ z,x=.str z/\z.length<=sizeLine/\Q (.str (Txt.slice z lo hi)) H):=by
 intro Xs s σ H x v vl vu lo hi sl Q I rx hs pl pu h;obtain⟨z,rfl,hz,q⟩:=h;obtain⟨t,rfl⟩:=rx;have fin:∀ t' k,EP X Xs σ Q (.str (Txt.slice z lo hi) t') {s with toks:=k}:=fun t' k=>⟨.str _,H,I.tok _,⟨_,rfl⟩,q⟩;refine⟨"str",_,F.slot_str_getitem.lookup,typeIs_str s z t,?_⟩;cases pl with
 | none =>
  cases pu with
  | none=>exact wpAny_getItem_str_slice (l:=none) (u:=none) (st:=none) hs rfl (post_val_or_str ⟨Ω (Txt.slice_le z _ _) hz,fin⟩)
  | int j uj=>exact wpAny_getItem_str_slice (l:=none) (u:=some (j,uj)) (st:=none) hs rfl (post_val_or_str ⟨Ω (Txt.slice_le z _ _) hz,fin⟩)
 | int i ui =>
  cases pu with
  | none=>exact wpAny_getItem_str_slice (l:=some (i,ui)) (u:=none) (st:=none) hs rfl (post_val_or_str ⟨Ω (Txt.slice_le z _ _) hz,fin⟩)
  | int j uj=>exact wpAny_getItem_str_slice (l:=some (i,ui)) (u:=some (j,uj)) (st:=none) hs rfl (post_val_or_str ⟨Ω (Txt.slice_le z _ _) hz,fin⟩)
end
section
variable{tg:Expr}
end
def cW(n:Nat)(Pv:Nat->List V->Hp->Prop)(i m:Nat)(xs:List V)(H:Hp):Prop:=m=n - i/\i<=n/\Pv i xs H
theorem cW.next(hi:i < n)(p:Pv (i+1) xs H):∃ m',m' < n - i/\cW n Pv (i+1) m' xs H:=⟨n - (i+1),by omega,rfl,hi,p⟩
section
variable{tc:TT}{te:TE}{Q:VK}
theorem IE(Pv:Nat->List V->Hp->Prop)(h0:Pv 0 [] H)(hz:∀ i xs H,Pv i xs H->xs.length<=1000000)(hl:∀ i xs H,Pv i xs H->gE K H a ys)(hs:∀ i y xs H,i < ys.length->ys[i]?=some y->Pv i xs H->tc (some y::aX fr σ) H fun b H2=>if b=true then te (some y::aX fr σ) H2 (fun z H3=>∃ m',m' < ys.length - i/\cW ys.length Pv (i+1) m' (xs++[z]) H3) else ∃ m',m' < ys.length - i/\cW ys.length Pv (i+1) m' xs H2)(hd:∀ xs H,Pv ys.length xs H->∀ p,H p=none->Q (.ref p) (Xt H p (.lst xs))) : ∃ W:Nat->Nat->List V->Hp->Prop,(∃ m,W 0 m [] H)/\∀ i m xs H,W i m xs H->xs.length<=1000000 /\ (((Zg K a).stop i H/\∀ p,H p=none->Q (.ref p) (Xt H p (.lst xs))) \/ ((Zg K a).go i H/\∀ y H',(Zg K a).Ze i H y H'->tc (some y::aX fr σ) H' fun b H2=>if b=true then te (some y::aX fr σ) H2 (fun z H3=>∃ m',m' < m/\W (i+1) m' (xs++[z]) H3) else ∃ m',m' < m/\W (i+1) m' xs H2)):=by
 refine⟨cW ys.length Pv,⟨ys.length,by simp,Α4 _,h0⟩,?_⟩;rintro i m xs H ⟨rfl,hi,p⟩;refine⟨hz i xs H p,?_⟩;have q:=hl i xs H p;by_cases XW:i < ys.length
 ·refine .inr ⟨⟨ys,ys[i],q,by simp[XW]⟩,fun y H' yy=>?_⟩;obtain⟨e,yy⟩:=yy;subst e;exact hs i y xs _ XW (yy ys q) p
 ·have e:i=ys.length:=by omega
  subst e;exact .inl ⟨⟨ys,q,Ι _⟩,hd xs H p⟩
theorem EZ{lo:Int}(Pv:Nat->List V->Hp->Prop)(h0:Pv 0 [] H)(hz:∀ i xs H,Pv i xs H->xs.length<=1000000)(hs:∀ i xs H,i < n->Pv i xs H->tc (some (.int (lo+i))::aX fr σ) H fun b H2=>if b=true then te (some (.int (lo+i))::aX fr σ) H2 (fun z H3=>∃ m',m' < n - i/\cW n Pv (i+1) m' (xs++[z]) H3) else ∃ m',m' < n - i/\cW n Pv (i+1) m' xs H2)(hd:∀ xs H,Pv n xs H->∀ p,H p=none->Q (.ref p) (Xt H p (.lst xs))) : ∃ W:Nat->Nat->List V->Hp->Prop,(∃ m,W 0 m [] H)/\∀ i m xs H,W i m xs H->xs.length<=1000000 /\ (((Zz lo n).stop i H/\∀ p,H p=none->Q (.ref p) (Xt H p (.lst xs))) \/ ((Zz lo n).go i H/\∀ y H',(Zz lo n).Ze i H y H'->tc (some y::aX fr σ) H' fun b H2=>if b=true then te (some y::aX fr σ) H2 (fun z H3=>∃ m',m' < m/\W (i+1) m' (xs++[z]) H3) else ∃ m',m' < m/\W (i+1) m' xs H2)):=by
 refine⟨cW n Pv,⟨n,by simp,Α4 _,h0⟩,?_⟩;rintro i m xs H ⟨rfl,hi,p⟩;refine⟨hz i xs H p,?_⟩;by_cases XW:i < n
 ·refine .inr ⟨XW,fun y H' yy=>?_⟩;obtain⟨e,rfl⟩:=yy;subst e;exact hs i xs _ XW p
 ·have e:i=n:=by omega
  subst e;exact .inl ⟨Ι _,hd xs H p⟩
end
section
variable{tc:TT}{te:TE}{H1:Hp}{Q:VK}
end
def yM{l:List (Str×NameKind)}{k:NameKind}(h:l.lookup y=some k):(y,k)∈l:=Δ6 h
theorem fD.free{sc:Scope}{N:List Str}(kind:sc.kind=.function)(nc:(sc.names.all fun y=>y.2 !=.cell)=true)(nm:(sc.names.all fun y=>!(y.2==.local)||sc.names.lookup y.1==some .local)=true)(tgt:sc.names.lookup x=some .local)(C1:closureFor sc X.env=pure cl)(sub:∀ y c,cl.lookup y=some c->X.env.cells.lookup y=some c)(has:((relabel sc X.env).names.all fun y=>(y.2 !=.cell&&y.2 !=.free)||(cl.lookup y.1).isSome)=true)(nd:N.Nodup)(N0:N=x::fr.map fun j=>X.N.getD j x)(frc:∀ j∈fr,∃ y,X.N[j]?=some y/\X.env.kindOf y=some .cell/\((relabel sc X.env).names.lookup y=some .cell\/(relabel sc X.env).names.lookup y=some .free)):fD X sc cl x fr N where
 kind:=kind
 yQ:=fun y hy e=>by
  have h:=List.all_eq_true.mp nc y hy;rw[e] at h;exact absurd h (by decide)
 names:=fun y hy e=>by
  have h:=List.all_eq_true.mp nm y hy;rw[e] at h;simpa using h
 C1:=C1
 sub:=sub
 has:=fun y h=>by
  have key:∀ k,(relabel sc X.env).names.lookup y=some k->(k=.cell\/k=.free)->∃ c,cl.lookup y=some c:=fun k e hk=>by
   have h:=List.all_eq_true.mp has (y,k) (yM e);rcases hk with rfl|rfl
   ·exact Δ5.mp (by simpa using h)
   ·exact Δ5.mp (by simpa using h)
  rcases h with h|h
  ·exact key _ h (.inl rfl)
  ·exact key _ h (.inr rfl)
 tgt:=tgt
 nd:=nd
 N0:=N0
 frc:=frc
section
variable{sc:Scope}{N:List Str}{elt iter:Expr}{px:Pos}{ifs:List Expr}{wi:TI}{tc:TT}{te:TE}
theorem mF{py aaA:Pos}(hc:X.calm=true)(hx:∀ e s,¬ X.xe e s)(S:fD X sc cl x fr N)(hi:PI X (.Name x px) iter wi)(hb:∀ C s H ex pn,PTs (bY X sc cl C N s H ex pn) ifs tc/\PE (bY X sc cl C N s H ex pn) elt te)(hN:X.N.Nodup)(hy:X.N[i]?=some y)(hl:Loc X.env.scope y)(hsw:swapsWith (.ListComp elt [⟨.Name x px,iter,ifs,0⟩] sc pos) (some (.Name y py)) aaA.line X.env=pure true:=by rfl)(hs:∀ v,foldedSetIterable iter X.env v=pure v:=by intro _;rfl)(hf:X.fn y=true\/X.env.scope.names.lookup y=some .local:=by first|exact .inl rfl|exact .inr rfl|assumption) : PS X (.Assign [.Name y py] (.ListComp elt [⟨.Name x px,iter,ifs,0⟩] sc pos) aaA) (JU (lH wi fr tc te) (kD i)):=by
 intro Xs s σ H D I h;have h:lH wi fr tc te σ H (fun x H1=>kD i x σ H1 D.nx):=h;unfold lH at h;rw[exec_Assign_Name_used _ _ _ _ hsw];refine Β (wpAny_standAt (Β ?_));show wpAny _ X.A (do let _ <- comprehension (.ListComp elt [⟨.Name x px,iter,ifs,0⟩] sc pos) sc X.env _ (newList []) false (eval iter X.env) (some (assign (.Name y py) X.env))) _ _ s;refine Β (Α8 (wpAny_comprehension_free (use:=some (assign (.Name y py) X.env)) (Q:=fun _ s'=>SP X Xs D .next s') rfl hs S.C1 S.kind S.names
  (thn (hi Xs s σ H _ I h) fun v s1 h1=>thn h1 fun itv s2 h2=>?_)) (fun _ s' hq=>Θ (Θ hq)) fun _ _ e=>e)
 obtain⟨it,fp,tn,J,H2,e,I2,T,Y2,f2,W,⟨m0,w0⟩,turn⟩:=h2;subst e;refine wY (Q:=fun x H1=>kD i x σ H1 D.nx) (RR:=fun acc C=>compPost (model X.prog X.w) X.A X.xe (some (assign (.Name y py) X.env)) (fun _ s'=>SP X Xs D .next s') acc C) hc hx S hb I2 T Y2 f2 w0 turn ?_;intro D' C s' m' H' hn fC Z1 q;show wpAny _ X.A (assign (.Name y py) X.env (.ref D')) _ _ _;have I':Xv X Xs σ H' s':=Z1 s'.heap (Heap.SameBut.refl ..);refine wpAny_assign_Name (t9 (v:=.ref D') I' hN hy hl rfl (fun s'' I'' ⟨a,hsa,ha⟩=>?_) hf);obtain⟨f0,f1,f2',f3,f4,f5⟩:=fC;have hCa:C≠a:=fun z=>by
  rcases ha with ha|ha
  ·exact f1 (z.trans ha)
  ·exact f4 y a ha z.symm
 refine⟨m',hn.sameBut hsa hCa,fun h' YS=>?_⟩;exact⟨σ.set i (some (.ref D')),H',I''.turned (t':=s''.toks) (fun b o XX e=>(YS.2 b XX).trans e) f0 f1 f3 f4 f5,q⟩
end
section
variable{prog:Program}
end
section
variable{Q:VK}{i j:Int}{v:V}
mutual
example:=[.int i,.int j,.str y,.str x]
def QP:oE 0 (some v::σ) H Q=Q v H:=by simp[oE]
def CH{o:Option V}:oE (n+1) (o::σ) H Q=oE n σ H Q:=by simp[oE]
def VY:oE 1 (o0::some v::σ) H Q=Q v H:=(CH.trans QP)
def VZ:oE 2 (o0::o1::some v::σ) H Q=Q v H:=(CH.trans VY)
def V0{o2:Option V}:oE 3 (o0::o1::o2::some v::σ) H Q=Q v H:=(CH.trans VZ)
def V1{o2 o3:Option V}:oE 4 (o0::o1::o2::o3::some v::σ) H Q=Q v H:=(CH.trans V0)
def V2{o2 o3 o4:Option V}:oE 5 (o0::o1::o2::o3::o4::some v::σ) H Q=Q v H:=(CH.trans V1)
def V3{o2 o3 o4 o5:Option V}:oE 6 (o0::o1::o2::o3::o4::o5::some v::σ) H Q=Q v H:=(CH.trans V2)
def V4{o2 o3 o4 o5 o6:Option V}:oE 7 (o0::o1::o2::o3::o4::o5::o6::some v::σ) H Q=Q v H:=(CH.trans V3)
def V5{o2 o3 o4 o5 o6 o7:Option V}:oE 8 (o0::o1::o2::o3::o4::o5::o6::o7::some v::σ) H Q=Q v H:=(CH.trans V4)
def Xd{o2 o3 o4 o5 o6 o7 o8:Option V}:oE 9 (o0::o1::o2::o3::o4::o5::o6::o7::o8::some v::σ) H Q=Q v H:=(CH.trans V5)
def Fq{α β:Type}{f:α->β}{a:α}{l:List α}:List.map f (a::l)=f a::List.map f l:=rfl
def Mb{α β:Type}{f:α->β}:List.map f []=[]:=rfl
def Xb{C:Int->Int->Prop}:rI C g 0e0 1e0 H Q=(C i j/\Q (g i j) H):=by simp[rI]
def VW:PN g 0e0 1e0 H Q=Q (g i j) H:=by simp[PN]
def Xc{g:Int->V}:rU g 0e0 H Q=Q (g i) H:=by simp[rU]
def w_lit(h:Nat.ble n 1000=true):(n<=sizeLine)=True:=eq_true (Nat.le_of_lt (small1000 (Nat.le_of_ble_eq_true h)))
theorem VQ:NG 0e0 1e0 H Q=Q (.bl (decide (i=j))) H:=by simp only[NG,show Yp 0e0 1e0=true from rfl,V.int.injEq,true_and]
theorem VR:NG 3e0 2e0 H Q=Q (.bl (decide (x=y))) H:=by simp only[NG,show Yp 3e0 2e0=true from rfl,V.str.injEq,true_and]
theorem VS:Vu 0e0 1e0 H Q=Q (.bl (!decide (i=j))) H:=by simp only[Vu,show Yp 0e0 1e0=true from rfl,V.int.injEq,true_and]
theorem VT:Vu 3e0 2e0 H Q=Q (.bl (!decide (x=y))) H:=by simp only[Vu,show Yp 3e0 2e0=true from rfl,V.str.injEq,true_and]
end
end
def cG{a b:String}:(Str.ofString a=Str.ofString b)=(a=b):=by
 refine propext ⟨fun h=>?_,fun h=>by rw[h]⟩;rw[Str.ofString_eq_toList,Str.ofString_eq_toList] at h;have e:(a.toList.map Char.toNat)=(b.toList.map Char.toNat):=by
  have:=congrArg (fun z:Str=>z.cps.toList) h;simpa using this
 have inj:∀ x y:Char,x.toNat=y.toNat->x=y:=fun x y q=>Char.ext (UInt32.toNat_inj.mp q);have:=(List.map_inj_right (f:=Char.toNat) (fun x y q=>inj x y q)).mp e;exact String.toList_inj.mp this
def Kp(S:List Addr)(H H':Hp):Prop:=∀ b o,H b=some o->b∉S->H' b=some o
section
variable{S T:List Addr}{H1 H2:Hp}{p:Addr}{o:HO}
mutual
example:=[Xt H p o]
def Kp.refl:Kp S H H:=fun _ _ h _=>h
def Kp.trans(x:Kp S H H1)(y:Kp S H1 H2):Kp S H H2:=fun b o h n=>y b o (x b o h n) n
def Kp.mono(x:Kp S H H1)(h:∀ b∈S,b∈T):Kp T H H1:=fun b o e n=>x b o e fun z=>n (h b z)
def Kp.new(h:H p=none):Kp S H 0e0:=fun b u e _=>by rw[aC (aF e h)];exact e
def q0D(h:H p=none):Kp [] H 0e0:=Kp.new h
def Kp.set(h:p∈S):Kp S H 0e0:=fun b u e n=>by rw[aC (show b≠p from fun z=>n (by rw[z];exact h))];exact e
theorem Kp.at(x:Kp S H H1)(e:H a=some o)(n:a∉S:=by first|exact Δ|simp_all):H1 a=some o:=x a o e n
def Kp.same(x:Kp [] H H1):Same H H1:=fun b o e=>x b o e (by simp)
def Kp.of(x:Same H H1):Kp S H H1:=fun b o e _=>x b o e
def Kp.drop(x:Kp (p::S) H H1)(h:H p=none):Kp S H H1:=fun b o e n=>x b o e (by
 simp only[Α,not_or];exact⟨aF e h,n⟩)
end
end
mutual
example:=[.lst xs,.tup xs,.ref p,sO xs lo hi]
abbrev Tg{α:Type}(_:α):Type:=Unit
def jF{α:Type}(o:Option α)(k:α->Prop)(_u:Tg k:=()):Prop:=match o with
 | some x=>k x
 | none=>False
def Mq(x:V)(k:Bool->Prop)(_u:Tg k:=()):Prop:=match x with
 | .bl b=>k b
 | _=>False
def eR(o:Option HO)(k:List V->Prop)(_u:Tg k:=()):Prop:=match o with
 | some 0e0=>k xs
 | _=>False
def pN(o:Option HO)(k:List V->Prop)(_u:Tg k:=()):Prop:=match o with
 | some 0e0=>k xs
 | some 1e0=>k xs
 | _=>False
def dB(o:Option HO)(k:List (Key×V)->Prop)(_u:Tg k:=()):Prop:=match o with
 | some (.dK xs)=>k xs
 | _=>False
def bG(x:V)(k:Addr->Prop)(_u:Tg k:=()):Prop:=match x with
 | .ref p=>k p
 | _=>False
def gZ(x:V)(k:Int->Prop)(_u:Tg k:=()):Prop:=match x with
 | .int i=>k i
 | _=>False
def dJ{α:Type}{o:Option α}{k:α->Prop}(h:jF o k):∃ x,o=some x/\k x:=by
 cases o with
 | none=>exact h.elim
 | some x=>exact⟨x,rfl,h⟩
def SN{x:V}{k:Bool->Prop}(h:Mq x k):∃ b,x=.bl b/\k b:=by
 cases x with
 | bl b=>exact⟨b,rfl,h⟩
 | _=>exact h.elim
def yY{x:V}{k:Bool->Prop}:(∃ b,x=.bl b/\k b)=Mq x k:=by
 refine propext ⟨fun⟨b,e,h⟩=>by subst e;exact h,SN⟩
def aT{x:V}{k:Addr->Prop}(h:bG x k):∃ b,x=.ref b/\k b:=by
 cases x with
 | ref b=>exact⟨b,rfl,h⟩
 | _=>exact h.elim
def eK{x:V}{k:Int->Prop}(h:gZ x k):∃ b,x=.int b/\k b:=by
 cases x with
 | int b=>exact⟨b,rfl,h⟩
 | _=>exact h.elim
def fO(h:eR o k):∃ xs,o=some 0e0/\k xs:=by
 unfold eR at h;split at h
 ·exact⟨_,rfl,h⟩
 ·exact h.elim
def rT(h:pN o k):∃ xs,(o=some 0e0\/o=some 1e0)/\k xs:=by
 unfold pN at h;split at h
 ·exact⟨_,.inl rfl,h⟩
 ·exact⟨_,.inr rfl,h⟩
 ·exact h.elim
def dG{k:List (Key×V)->Prop}(h:dB o k):∃ xs,o=some (.dK xs)/\k xs:=by
 unfold dB at h;split at h
 ·exact⟨_,rfl,h⟩
 ·exact h.elim
def Wk:R2:=fun x y H Q=>match x with
 | .ref p=>pN (H p) fun xs=>gZ y fun i=>jF (hE xs i) fun v=>Q v H
 | .str z=>gZ y fun i=>z.length<=sizeLine/\jF (hE z.cps.toList i) fun c=>Q (.str ⟨#[c]⟩) H
 | _=>False
def NW(H:Hp)(Q:VK)(a:Addr)(oa ob:Option HO):Prop:=match oa,ob with
 | some 0e0,some (.lst ys)=>xs.length+ys.length<=sizeLine/\∀ p,H p=none->Q 2e0 (Xt H p (.lst (xs++ys)))
 | some 1e0,some (.tup ys)=>xs≠[]/\xs.length+ys.length<=sizeLine/\(ys≠[]->∀ p,H p=none->Q 2e0 (Xt H p (.tup (xs++ys))))/\(ys=[]->Q (.ref a) H)
 | _,_=>False
def Km:R2:=fun x y H Q=>match x,y with
 | .int i,.int j=>Q (.int (i+j)) H
 | .str a,.str b=>a.length+b.length<=sizeLine/\Q (.str (a++b)) H
 | .ref a,.ref b=>NW H Q a (H a) (H b)
 | _,_=>False
def Ko(lo hi:Option Int)(H:Hp)(Q:VK)(o:Option HO):Prop:=match o with
 | some 0e0=>∀ p,H p=none->Q 2e0 (Xt H p (.lst 3e0))
 | some 1e0=>¬ (HT.iS xs.length 0 lo=0/\HT.iS xs.length xs.length hi=xs.length)/\∀ p,H p=none->Q 2e0 (Xt H p (.tup 3e0))
 | _=>False
def V7:V->Option Int->Option Int->Hp->VK->Prop:=fun x lo hi H Q=>match x with
 | .str z=>z.length<=sizeLine/\Q (.str (Txt.slice z lo hi)) H
 | .ref a=>Ko lo hi H Q (H a)
 | _=>False
def N8:List V->Hp->VK->Prop:=fun vs H Q=>match vs with
 | [.str z]=>z.length<=sizeLine/\Q (.int z.length) H
 | [.ref p]=>pN (H p) fun xs=>Q (.int xs.length) H
 | _=>False
def TQ:V->V->V->Hp->(Hp->Prop)->Prop:=fun o i v H Q=>bG o fun p=>gZ i fun k=>eR (H p) fun xs=>jF (Az xs.length k) fun j=>Q (Xt H p (.lst (xs.set j v)))
def j6:V->Option Key
 | .int i=>some (.inl i)
 | .str x=>some (.inr x)
 | .Xu=>some .no
 | _=>none
def Ca{y:V}{k:Key}(h:j6 y=some k):y=kV k:=by
 cases y<;>simp only[j6,Ρ,reduceCtorEq] at h<;>subst h<;>rfl
def Qn(td ty:TE):TE:=fun σ H Q=>td σ H fun x H1=>bG x fun a=>dB (H1 a) fun _=>ty σ H1 fun y H2=>dB (H2 a) fun kvs=>jF (j6 y) fun k=>Q ((bA kvs k).getD .Xu) H2
def Q0(td ty:TE):TE:=fun σ H Q=>td σ H fun x H1=>ty σ H1 fun y H2=>bG x fun a=>dB (H2 a) fun kvs=>jF (j6 y) fun k=>jF (bA kvs k) fun v=>Q v H2
def Q4(td ty tv:TE):TS:=fun D σ H=>tv σ H fun v H1=>td σ H1 fun x H2=>ty σ H2 fun y H3=>bG x fun a=>dB (H3 a) fun kvs=>jF (j6 y) fun k=>kvs.length < sizeLine/\D.nx σ (Xt H3 a (.dK (aR kvs k v)))
def Wj(neg:Bool):R2:=fun x y H Q=>bG y fun p=>pN (H p) fun xs=>eI x=true/\xs.all eI=true/\Q (.bl (if neg=true then !pD x xs else pD x xs)) H
def NY:List V->Hp->VK->Prop:=fun vs H Q=>match vs with
 | [.int i]=>Q (.int i) H
 | [.bl k]=>Q (.int (if k=true then 1 else 0)) H
 | _=>False
def Q1:R2:=fun x y H Q=>match y with
 | .Xu=>Q (.bl (decide (x=.Xu))) H
 | _=>False
def Qp:R2:=fun x y H Q=>match y with
 | .Xu=>Q (.bl (!decide (x=.Xu))) H
 | _=>False
def Q2:List V->Hp->VK->Prop:=fun vs H Q=>match vs with
 | [.int i,.int j]=>Q (.int (if j > i then j else i)) H
 | _=>False
def Q3:List V->Hp->VK->Prop:=fun vs H Q=>match vs with
 | [.int i,.int j]=>Q (.int (if j < i then j else i)) H
 | _=>False
def Tu(to te:TE):TE:=fun σ H Q=>to σ H fun x H1=>bG x fun a=>eR (H1 a) fun _=>te σ H1 fun y H2=>eR (H2 a) fun xs=>xs.length < sizeLine/\Q .Xu (Xt H2 a (.lst (xs++[y])))
def TH(to:TE):TE:=fun σ H Q=>to σ H fun x H1=>bG x fun a=>eR (H1 a) fun xs=>jF (xs[xs.length - 1]?) fun y=>Q y (Xt H1 a (.lst xs.dropLast))
end
section
mutual
example:=[(fun e=>.inl (.inl e)),.inl ‹_›,.inl e]
def Gz.imp{r r':R2}(h:Gz X r)(f:∀ x y H Q,r' x y H Q->r x y H Q):Gz X r':=fun value slice Xs s σ H x y v u Q I rx ry q=>h value slice Xs s σ H x y v u Q I rx ry (f _ _ _ _ q)
def j7.imp{f:Value->Value->Sem Value}{r r':R2}(h:j7 X f r)(g:∀ x y H Q,r' x y H Q->r x y H Q):j7 X f r':=fun Xs s σ H x y v u Q I rx ry q=>h Xs s σ H x y v u Q I rx ry (g _ _ _ _ q)
def aM:Gz X Wk:=Sw.imp fun x y H Q h=>by
 cases x with
 | ref p =>
  obtain⟨xs,e,h⟩:=rT h;obtain⟨i,rfl,h⟩:=eK h;obtain⟨v,e2,h⟩:=dJ h;rcases e with e|e
  ·exact .inl ⟨_,_,_,_,rfl,rfl,.inl 2e0,e2,h⟩
  ·exact .inr (.inl ⟨_,_,_,_,rfl,rfl,.inl 2e0,e2,h⟩)
 | str z =>
  obtain⟨i,rfl,h1,h⟩:=eK h;obtain⟨v,e2,h⟩:=dJ h;exact .inr (.inr ⟨_,_,_,rfl,rfl,h1,e2,h⟩)
 | _=>exact h.elim
def cI:j7 X (binaryOp .Add) Km:=(SQ.or (FQ.or (SR.or Hw))).imp fun x y H Q h=>by
 unfold Km NW at h;split at h
 ·exact .inl ⟨_,_,rfl,rfl,h⟩
 ·exact .inr (.inl ⟨_,_,rfl,rfl,h.1,h.2⟩)
 ·split at h
  ·exact .inr (.inr (.inl ⟨_,_,_,_,rfl,rfl,‹_›,‹_›,h.1,h.2⟩))
  ·exact .inr (.inr (.inr ⟨_,_,_,_,rfl,rfl,.inl 1e0,.inl 1e0,h.1,h.2.1,h.2.2.2,h.2.2.1⟩))
  ·exact h.elim
 ·exact h.elim
def WZ:NI X V7:=fun Xs s σ H x v vl vu lo hi sl Q I rx hs pl pu h=>by
 refine(PY.or (Tc.or Tb)) Xs s σ H x v vl vu lo hi sl Q I rx hs pl pu ?_;unfold V7 Ko at h;split at h
 ·exact .inr (.inr ⟨_,rfl,h.1,h.2⟩)
 ·split at h
  ·exact .inl ⟨_,_,rfl,.inl 1e0,h⟩
  ·exact .inr (.inl ⟨_,_,rfl,.inl 1e0,h.1,h.2⟩)
  ·exact h.elim
 ·exact h.elim
def cQ:hJ X (.builtin "len") N8:=fun Xs s σ H xs us Q I r h=>by
 unfold N8 at h;split at h
 ·exact wR Xs s σ H _ us Q I r ⟨_,_,rfl,⟨h.1,rfl⟩,h.2⟩
 ·obtain⟨ys,e,h⟩:=rT h;rcases e with e|e
  ·exact wR Xs s σ H _ us Q I r ⟨_,_,rfl,.inl ⟨_,.inl 2e0,rfl⟩,h⟩
  ·exact wR Xs s σ H _ us Q I r ⟨_,_,rfl,.inr ⟨_,.inl 2e0,rfl⟩,h⟩
 ·exact h.elim
def zS:PSet X TQ:=fun Xs s σ H o i v ov iv u Q I ro ri rv h=>by
 obtain⟨p,rfl,h⟩:=aT h;obtain⟨k,rfl,h⟩:=eK h;obtain⟨xs,e,h⟩:=fO h;obtain⟨j,e2,h⟩:=dJ h;exact MU Xs s σ H _ _ v ov iv u Q I ro ri rv ⟨_,_,_,_,rfl,rfl,e,e2,h⟩
def iQ:j7 X (compareOp .In) (Wj false):=JD.imp fun x y H Q h=>by
 obtain⟨p,rfl,h⟩:=aT h;obtain⟨xs,e,h1,h2,h⟩:=rT h;exact⟨_,_,rfl,e.imp 0e0 0e0,h1,h2,h⟩
def Bj:j7 X (compareOp .NotIn) (Wj true):=Cn.imp fun x y H Q h=>by
 obtain⟨p,rfl,h⟩:=aT h;obtain⟨xs,e,h1,h2,h⟩:=rT h;exact⟨_,_,rfl,e.imp 0e0 0e0,h1,h2,h⟩
def gT:hJ X (.type "int") NY:=fun Xs s σ H xs us Q I r h=>by
 refine IA Xs s σ H xs us Q I r ?_;unfold NY at h;split at h
 ·exact .inl ⟨_,rfl,h⟩
 ·exact .inr ⟨_,rfl,by
   rename_i k
   cases k<;>exact h⟩
 ·exact h.elim
def nR:j7 X (compareOp .Is) Q1:=SU.imp fun x y H Q h=>by
 cases y with
 | Xu=>exact⟨rfl,h⟩
 | _=>exact h.elim
def oY:j7 X (compareOp .IsNot) Qp:=Po.imp fun x y H Q h=>by
 cases y with
 | Xu=>exact⟨rfl,h⟩
 | _=>exact h.elim
def iN(hc:X.calm=true):hJ X (.builtin "max") Q2:=fun Xs s σ H xs us Q I r h=>by
 refine IB hc Xs s σ H xs us Q I r ?_;unfold Q2 at h;split at h
 ·exact⟨_,_,rfl,h⟩
 ·exact h.elim
def oK(hc:X.calm=true):hJ X (.builtin "min") Q3:=fun Xs s σ H xs us Q I r h=>by
 refine IC hc Xs s σ H xs us Q I r ?_;unfold Q3 at h;split at h
 ·exact⟨_,_,rfl,h⟩
 ·exact h.elim
end
variable{o e:Expr}{to te:TE}{apos XB:Pos}
theorem dP(ho:PE X o to)(he:PE X e te)(X4:attributeBase o "append" X.env (eval o X.env)=eval o X.env:=by rfl)(aaS:((backTo XB (starEach [e] X.env)).all (fun x=>!x.1)&&(backToKw XB (keywordEach [] X.env)).all (fun x=>x.1.isSome)&&decide ([e].length+([]:List Keyword).length+(if ([]:List Keyword).isEmpty then 0 else 1) < 30))=true:=by rfl)(X5:(apos.endLine==XB.line)=true:=by rfl)(hs:starEach [e] X.env=(false,eval e X.env)::starEach [] X.env:=by rfl)(YZ:(backTo XB (starEach [] X.env)).any (·.1)=false:=by rfl) : PE X (.Call (.Attribute o "append" apos) [e] [] XB) (Tu to te):=by
 intro Xs s σ H Q I h;refine wpAny_Call_method_late X4 aaS X5 rfl (thn (ho Xs s σ H _ I h) fun v s1 ⟨x,H1,I1,r1,q1⟩=>?_);obtain⟨a,rfl,q1⟩:=aT q1;obtain⟨xs,e1,q1⟩:=fO q1;obtain⟨h1,h2⟩:=Gu (T:="list") I1 r1 (.inl ⟨rfl,xs,.inl (.inl e1)⟩);refine⟨"list","list.append",PySem.F.plainAttrs_list,PySem.F.slot_list_append,PySem.F.type_list_append,h1,h2,?_⟩;have q2:oC te Ag σ H1 (fun vs H2=>vs.length=1/\eR (H2 a) fun xs=>xs.length < sizeLine/\Q .Xu (Xt H2 a (.lst (xs++vs)))):=by
  simpa only[oC,Ag,Η,ϖ,Γ4,true_and] using q1
 have hA:=Hy he bT hs XB Xs s1 σ H1 _ I1 q2;rw[hs] at hA ⊢;refine Α6 (by show(false||(backTo XB (starEach [] X.env)).any (·.1))=false;rw[YZ]<;>rfl) (Δ7 ?_);refine thn hA fun us s2 ⟨vs,H2,I2,r2,l2,q3⟩=>?_;obtain⟨xs,e3,q4,q5⟩:=fO q3
 match vs,l2,r2,q5 with
 | [y],_,r2,q5=>exact Jr Xs s2 σ H2 _ _ v us Q I2 r1 r2 ⟨_,_,_,rfl,rfl,e3,q4,q5⟩
def vT(ho:PE X o to)(X4:attributeBase o "pop" X.env (eval o X.env)=eval o X.env:=by rfl)(X5:(apos.endLine==XB.line)=true:=by rfl):PE X (.Call (.Attribute o "pop" apos) [] [] XB) (TH to):=by
 intro Xs s σ H Q I h;refine wpAny_Call_method0_late X4 X5 (thn (ho Xs s σ H _ I h) fun v s1 ⟨x,H1,I1,r1,q1⟩=>?_);obtain⟨a,rfl,q1⟩:=aT q1;obtain⟨xs,e1,q1⟩:=fO q1;obtain⟨y,e2,q1⟩:=dJ q1;obtain⟨h1,h2⟩:=Gu (T:="list") I1 r1 (.inl ⟨rfl,xs,.inl (.inl e1)⟩);exact⟨"list","list.pop",PySem.F.plainAttrs_list,PySem.F.slot_list_pop,PySem.F.type_list_pop,h1,h2,Α6 rfl (PySem.evalArgs_none (SH Xs s1 σ H1 _ [] v [] Q I1 r1 .nil ⟨_,_,_,rfl,rfl,e1,e2,q1⟩))⟩
end
section
variable{o i e value:Expr}{pos' apos XB:Pos}{td ty tv:TE}
def vS(hu:X.A.units+1 < cLine)(ho:PE X o td)(he:PE X e ty)(m:M1 X o "get" apos e XB):PE X (.Call (.Attribute o "get" apos) [e] [] XB) (Qn td ty):=by
 intro Xs s σ H Q I h;refine wpAny_Call_method m.base m.X8 m.line Γ2 Γ7 PySem.F.type_dict_get (thn (ho Xs s σ H _ I h) fun u s1 ⟨x,H1,I1,rx,q1⟩=>?_);obtain⟨a,rfl,q1⟩:=aT q1;obtain⟨kvs,e1,q1⟩:=dG q1;obtain rfl:u=Value.ref a:=rx;obtain⟨t1,t2,_⟩:=sX I1 (.inl ⟨_,.inl e1⟩);refine⟨t1,t2,?_⟩;rw[m.trees];refine Α6 rfl (Δ7 (Δ3 (thn (he Xs s1 σ H1 _ I1 q1) fun iv s2 ⟨y,H2,I2,ry,q2⟩=>Calls.spliced_nil ?_)));obtain⟨kvs,e1,q2⟩:=dG q2;obtain⟨k,e2,q2⟩:=dJ q2;have g:DGet H2 a y (bA kvs k):=by rw[Ca e2];exact DGet.k e1
 exact Ra hu I2 g ry fun w' s3 I3 Yo=>⟨_,H2,I3,Yo,q2⟩
def nU(hu:X.A.units+1 < cLine)(ho:PE X o td)(hi:PE X i ty)(hs:NH i):PE X (.Subscript o i pos) (Q0 td ty):=by
 intro Xs s σ H Q I h;refine Ie PySem.F.slot_dict_getitem.lookup hs (thn (ho Xs s σ H _ I h) fun u s1 ⟨x,H1,I1,rx,q1⟩=>thn (hi Xs s1 σ H1 _ I1 q1) fun iv s2 ⟨y,H2,I2,ry,q2⟩=>?_);obtain⟨a,rfl,q2⟩:=aT q2;obtain⟨kvs,e1,q2⟩:=dG q2;obtain⟨k,e2,q2⟩:=dJ q2;obtain⟨v,e3,q2⟩:=dJ q2;obtain rfl:u=Value.ref a:=rx;have g:DGet H2 a y (some v):=by rw[Ca e2,<- e3];exact DGet.k e1
 exact⟨C9 I2 g,IL hu I2 g ry fun w' s3 I3 Yo=>⟨v,H2,I3,Yo,q2⟩⟩
def PB(hu:X.A.units+1 < cLine)(ho:PE X o td)(hi:PE X i ty)(hv:PE X value tv)(hs:swapsWith value (some (.Subscript o i pos')) pos.line X.env=pure false:=by rfl) : PS X (.Assign [.Subscript o i pos'] value pos) (Q4 td ty tv):=by
 intro Xs s σ H D I h;refine wpAny_Assign_Subscript (thn (hv Xs s σ H _ I h) fun r s1 ⟨v,H1,I1,rv,q1⟩=>thn (ho Xs s1 σ H1 _ I1 q1) fun u s2 ⟨x,H2,I2,rx,q2⟩=>thn (hi Xs s2 σ H2 _ I2 q2) fun iv s3 ⟨y,H3,I3,ry,q3⟩=>?_) hs;obtain⟨a,rfl,q3⟩:=aT q3;obtain⟨kvs,e1,q3⟩:=dG q3;obtain⟨k,e2,q3⟩:=dJ q3;obtain rfl:u=Value.ref a:=rx;have g:DPut H3 a y v (Xt H3 a (.dK (aR kvs k v))):=by rw[Ca e2];exact DPut.k e1 q3.1
 exact IM hu I3 g ry rv fun s4 I4=>⟨σ,_,I4,q3.2⟩
end
section
variable{Q:VK}{D:Ends}{t u:TS}{te ta tb tc to ti:TE}{tl th:TO}{g:TG}{gs:TGs}{tt tt':TT}{as:TA}{i j:Int}{v w:V}{b:Bool}{p:Addr}{r r':R2}{B:Bool->Hp->Prop}
mutual
example:=[.ref p,.int i,some (.lst vs),.str x,(.inl ⟨by decide,by decide⟩)]
def UN:Gm t u D σ H=t {D with nx:=u D} σ H:=rfl
def Ua:JU te g D σ H=te σ H fun x H1=>g x σ H1 D.nx:=rfl
def R8:kD n v σ H N=N (σ.set n (some v)) H:=rfl
def UM:Th te D σ H=te σ H D.rt:=rfl
def Sf:QL D σ H=D.rt .Xu H:=rfl
def Uq:Eu tt t u D σ H=tt σ H fun b H1=>if b=true then t D σ H1 else u D σ H1:=rfl
def LB:Ex te σ H B=te σ H fun x H'=>Mq x fun k=>B k H':=by simp only[Ex,yY]
def WI:tB te σ H B=te σ H fun x H'=>Mq x fun k=>B k H':=by simp only[tB,yY]
def WA:Xf tt ta tb σ H Q=tt σ H fun c H1=>if c=true then ta σ H1 Q else tb σ H1 Q:=rfl
def WE:Qb r ta tb σ H Q=ta σ H fun x H1=>tb σ H1 fun y H2=>r x y H2 Q:=rfl
def WJ{q:V->Hp->VK->Prop}:Xj q ta σ H Q=ta σ H fun x H1=>q x H1 Q:=rfl
def Xm:tC v σ H Q=Q v H:=rfl
def Rq{A:List V->Hp->Prop}:oC te as σ H A=te σ H fun x H1=>as σ H1 fun xs H2=>A (x::xs) H2:=rfl
def Uy{A:List V->Hp->Prop}:Ag σ H A=A [] H:=rfl
def Lm{sp:Sp}{E:XK}:Ih sp [] E as σ H Q=as σ H fun vs H1=>sp vs H1 Q E:=by simp only[Ih,ϝ]
def Wz{q:List V->Hp->VK->Prop}:W9 q as σ H Q=as σ H fun vs H1=>q vs H1 Q:=rfl
def Uu:VD as σ H Q=as σ H fun xs H1=>xs.length<=sizeLine/\∀ p,H1 p=none->Q 0e0 (Xt H1 p (.lst xs)):=rfl
def US:VI as σ H Q=as σ H fun xs H1=>xs.length<=sizeLine/\∀ p,H1 p=none->Q 0e0 (Xt H1 p (.tup xs)):=rfl
def Ry:Nt σ H Q = ∀ p,H p=none->Q 0e0 (Xt H p (.dK [])):=rfl
def Rz:Nu te D σ H=te σ H fun _ H1=>D.nx σ H1:=rfl
def R9:Ij D σ H=D.nx σ H:=rfl
def Rr:QI D σ H=D.ct σ H:=rfl
def Rl:Nr ta tb σ H Q=ta σ H fun x H1=>Mq x fun c=>if c=true then tb σ H1 Q else Q (.bl false) H1:=by simp only[Nr,yY]
def UI:Tf ta tb σ H Q=ta σ H fun x H1=>Mq x fun c=>if c=true then Q (.bl true) H1 else tb σ H1 Q:=by simp only[Tf,yY]
def Sa:Nv ta σ H Q=ta σ H fun x H1=>Mq x fun c=>Q (.bl (!c)) H1:=by simp only[Nv,yY]
def TZ:VB tt tt' σ H B=tt σ H fun c H1=>if c=true then tt' σ H1 B else B false H1:=rfl
def WG:Xh tt tt' σ H B=tt σ H fun c H1=>if c=true then B true H1 else tt' σ H1 B:=rfl
def Uz:VE tt σ H B=tt σ H fun c H1=>B (!c) H1:=rfl
def WH{q:V->Option Int->Option Int->Hp->VK->Prop}:Xi q te tl th σ H Q=te σ H fun x H1=>tl σ H1 fun l H2=>th σ H2 fun u H3=>q x l u H3 Q:=rfl
def Ms{k:Int->Prop}:(∃ i,v=.int i/\k i)=gZ v k:=propext ⟨fun⟨i,e,h⟩=>by subst e;exact h,eK⟩
def Sb:Nw te σ H O=te σ H fun x H1=>gZ x fun i=>O (some i) H1:=by simp only[Nw,Ms]
def Lv:Ik σ H O=O none H:=rfl
def RM{s:TSet}:U0 to ti s v σ H N=to σ H fun o H1=>ti σ H1 fun i H2=>s o i v H2 fun H3=>N σ H3:=rfl
def RL:OV [] σ H N=N σ H:=by simp[OV]
def OB:Hf g gs (v::vs) σ H N=g v σ H fun σ' H'=>gs vs σ' H' N:=propext ⟨fun⟨_,_,e,h⟩=>by cases e;exact h,fun h=>⟨_,_,rfl,h⟩⟩
def RJ:Qn ta tb σ H Q=ta σ H fun x H1=>bG x fun a=>dB (H1 a) fun _=>tb σ H1 fun y H2=>dB (H2 a) fun kvs=>jF (j6 y) fun k=>Q ((bA kvs k).getD .Xu) H2:=rfl
def Up:Q0 ta tb σ H Q=ta σ H fun x H1=>tb σ H1 fun y H2=>bG x fun a=>dB (H2 a) fun kvs=>jF (j6 y) fun k=>jF (bA kvs k) fun v=>Q v H2:=rfl
def UK:Q4 ta tb tc D σ H=tc σ H fun v H1=>ta σ H1 fun x H2=>tb σ H2 fun y H3=>bG x fun a=>dB (H3 a) fun kvs=>jF (j6 y) fun k=>kvs.length < sizeLine/\D.nx σ (Xt H3 a (.dK (aR kvs k v))):=rfl
def T9:Tu to te σ H Q=to σ H fun x H1=>bG x fun a=>eR (H1 a) fun _=>te σ H1 fun y H2=>eR (H2 a) fun xs=>xs.length < sizeLine/\Q .Xu (Xt H2 a (.lst (xs++[y]))):=rfl
def UJ:TH to σ H Q=to σ H fun x H1=>bG x fun a=>eR (H1 a) fun xs=>jF (xs[xs.length - 1]?) fun y=>Q y (Xt H1 a (.lst xs.dropLast)):=rfl
def UE{α:Type}{z:α}{k:α->Prop}{u:Tg k}:@jF _ (some z) k u=k z:=rfl
def UD{k:Bool->Prop}{u:Tg k}:@Mq (.bl b) k u=k b:=rfl
def OI{k:Addr->Prop}{u:Tg k}:@bG 0e0 k u=k p:=rfl
def OG{k:Int->Prop}{u:Tg k}:@gZ 1e0 k u=k i:=rfl
def OH{u:Tg k}:@eR 2e0 k u=k vs:=rfl
def Lw{u:Tg k}:@pN 2e0 k u=k vs:=rfl
def Lx{u:Tg k}:@pN (some (.tup vs)) k u=k vs:=rfl
def OF{k:List (Key×V)->Prop}{u:Tg k}:@dB (some (.dK kvs)) k u=k kvs:=rfl
def Us:Wk 0e0 w H Q=pN (H p) fun xs=>gZ w fun i=>jF (hE xs i) fun v=>Q v H:=rfl
def Ut:Wk 3e0 w H Q=gZ w fun i=>x.length<=sizeLine/\jF (hE x.cps.toList i) fun c=>Q (.str ⟨#[c]⟩) H:=rfl
def Ri:Km 1e0 (.int j) H Q=Q (.int (i+j)) H:=rfl
def Rk:Km 3e0 (.str y) H Q=(x.length+y.length<=sizeLine/\Q (.str (x++y)) H):=rfl
def Rj:Km (.ref a) 0e0 H Q=NW H Q a (H a) (H p):=rfl
def Rp{us:List V}:NW H Q a 2e0 (some (.lst us))=(vs.length+us.length<=sizeLine/\∀ p,H p=none->Q 0e0 (Xt H p (.lst (vs++us)))):=rfl
def UR{lo hi:Option Int}:V7 3e0 lo hi H Q=(x.length<=sizeLine/\Q (.str (Txt.slice x lo hi)) H):=rfl
def UQ{lo hi:Option Int}:V7 (.ref a) lo hi H Q=Ko lo hi H Q (H a):=rfl
def Rt{lo hi:Option Int}:Ko lo hi H Q 2e0 = ∀ p,H p=none->Q 0e0 (Xt H p (.lst (sO vs lo hi))):=rfl
def RY:N8 [.str x] H Q=(x.length<=sizeLine/\Q (.int x.length) H):=rfl
def RX:N8 [.ref p] H Q=pN (H p) fun xs=>Q (.int xs.length) H:=rfl
def UO{N:Hp->Prop}:TQ 0e0 1e0 v H N=eR (H p) fun xs=>jF (Az xs.length i) fun j=>N (Xt H p (.lst (xs.set j v))):=rfl
def WB{neg:Bool}:Wj neg v 0e0 H Q=pN (H p) fun xs=>eI v=true/\xs.all eI=true/\Q (.bl (if neg=true then !pD v xs else pD v xs)) H:=rfl
def RU:j6 1e0=some (.inl i):=rfl
def RW:j6 3e0=some (.inr x):=rfl
def RV:j6 .Xu=some .no:=rfl
theorem GV{α:Type}{xs:List α}{k:Nat}:hE xs (OfNat.ofNat k)=xs[k]?:=by
 show hE xs ((k:Nat):Int)=xs[k]?;cases e:xs[k]? with
 | some z=>exact eD e
 | none =>
  have:=Ε8.mp e;unfold hE Az;rw[if_pos (by omega),if_neg (by omega)];rfl
def Ub{α:Type}{xs:List α}:hE xs 0=xs[0]?:=GV (k:=0)
def Uc{α:Type}{xs:List α}:hE xs 1=xs[1]?:=GV (k:=1)
def Ud{α:Type}{xs:List α}:hE xs 2=xs[2]?:=GV (k:=2)
def Ue{α:Type}{xs:List α}:hE xs 3=xs[3]?:=GV (k:=3)
theorem Om:CMul 2 j=True:=eq_true 4e0
theorem Oo:CMul 3 j=True:=eq_true 4e0
theorem Ow:CPow 10 9=True:=eq_true ⟨by decide,by decide,by decide⟩
theorem Lo:CPow 10 12=True:=eq_true ⟨by decide,by decide,by decide⟩
theorem Lp:CPow 10 18=True:=eq_true ⟨by decide,by decide,by decide⟩
theorem RT{m:Nat}:Az (m+1) 0=some 0:=by simp[Az]<;>omega
def RP:NY [.int i] H Q=Q 1e0 H:=rfl
def RO:NY [.bl b] H Q=Q (.int (if b=true then 1 else 0)) H:=rfl
theorem WC:Q1 v .Xu H Q=Q (.bl (decide (v=.Xu))) H:=by cases v<;>rfl
theorem OC:Qp v .Xu H Q=Q (.bl (!decide (v=.Xu))) H:=by cases v<;>rfl
def Uv:Q2 [.int i,.int j] H Q=Q (.int (if j > i then j else i)) H:=rfl
def Uw:Q3 [.int i,.int j] H Q=Q (.int (if j < i then j else i)) H:=rfl
theorem Uh{c:Prop}[Decidable c]{P R:Prop}:(if (decide c)=true then P else R)=if c then P else R:=by
 by_cases h:c<;>simp[h]
theorem Ui{c:Prop}[Decidable c]{P R:Prop}:(if (!decide c)=true then P else R)=if c then R else P:=by
 by_cases h:c<;>simp[h]
def RS{P R:Prop}:(if true=true then P else R)=P:=rfl
def RQ{P R:Prop}:(if false=true then P else R)=R:=rfl
end
end
mutual
example:=[]
def WK{a b:Prop}[Decidable a][Decidable b]{P R:Prop}:(if a then P else if b then P else R)=if a\/b then P else R:=by
 by_cases ha:a<;>by_cases hb:b<;>simp[ha,hb]
def Kp.at1{r:Addr}{H':Hp}{o:HO}(x:Kp [r] H H')(e:H a=some o)(n:a≠r):H' a=some o:=x a o e (by simpa using n)
theorem iI{i:Int}{k:V->Prop}(h0:0<=i)(h1:i < (xs.length:Int))(q:∀ v∈xs,k v):jF (hE xs i) k:=by
 have hk:i.toNat < xs.length:=by omega
 have ek:i=((i.toNat:Nat):Int):=by omega
 have e:hE xs ((i.toNat:Nat):Int)=some xs[i.toNat]:=eD (ϑ hk);rw[<- ek] at e;rw[e];exact q _ (List.getElem_mem hk)
def on1(vs:List V)(k:V->Prop)(_u:Tg k:=()):Prop:=match vs with
 | [v]=>k v
 | _=>False
def lp(J:It)(g:TG)(tb:TS)(D:Ends)(σ:St)(H:Hp):Prop:=∃ W:Nat->Nat->St->Hp->Prop,(∃ m,W 0 m σ H)/\∀ i m σ H,W i m σ H ->
 (J.stop i H/\D.nx σ H)\/(J.go i H/\∃ N:St->Hp->Prop,(∀ σ' H',N σ' H'->∃ m',m' < m/\W (i+1) m' σ' H')/\∀ x H',J.Ze i H x H'->g x σ H' fun σ2 H2=>tb {D with nx:=N,ct:=N,bk:=D.nx} σ2 H2)
end
section
variable{D:Ends}{g:TG}{tb:TS}{as:TA}{te:TE}{v w:V}
mutual
example:=[]
def SM{k:V->Prop}:(∃ z,vs=[z]/\k z)=on1 vs k:=by
 refine propext ⟨fun⟨z,e,h⟩=>by subst e;exact h,fun h=>?_⟩;unfold on1 at h;split at h
 ·exact⟨_,rfl,h⟩
 ·exact h.elim
def UC{k:V->Prop}{u:Tg k}:@on1 [v] k u=k v:=rfl
def OA:Gk (Dl as) g tb D σ H=as σ H fun vs H1=>on1 vs fun v=>gZ v fun j=>(-(2 ^ 62)<=j/\j < 2 ^ 62)/\lp (Zz 0 j.toNat) g tb D σ H1:=by
 unfold Gk Dl
 congr 1
 funext vs H1;refine propext ⟨fun⟨j,e,h1,h2,h⟩=>by subst e;exact⟨⟨h1,h2⟩,h⟩,fun h=>?_⟩;unfold on1 at h;split at h
 ·obtain⟨j,rfl,⟨h1,h2⟩,h⟩:=eK h;exact⟨j,rfl,h1,h2,h⟩
 ·exact h.elim
def RC:Gk (x9 K te) g tb D σ H=te σ H fun x H1=>bG x fun a=>(∃ xs,gE K H1 a xs)/\lp (Zg K a) g tb D σ H1:=by
 unfold Gk x9
 congr 1
 funext x H1;exact propext ⟨fun⟨a,e,h1,h⟩=>by subst e;exact⟨h1,h⟩,fun h=>by obtain⟨a,rfl,h1,h⟩:=aT h;exact⟨a,rfl,h1,h⟩⟩
end
end
noncomputable def lc(J:It)(fr:List Nat)(tc:TT)(te:TE)(σ:St)(H:Hp)(Q:VK):Prop:=∃ W:Nat->Nat->List V->Hp->Prop,(∃ m,W 0 m [] H)/\∀ i m xs H,W i m xs H->xs.length<=1000000 /\
  ((J.stop i H/\∀ p,H p=none->Q (.ref p) (Xt H p (.lst xs))) \/
   (J.go i H/\∀ y H',J.Ze i H y H'->tc (some y::aX fr σ) H' fun b H2=>if b=true then te (some y::aX fr σ) H2 (fun z H3=>∃ m',m' < m/\W (i+1) m' (xs++[z]) H3) else ∃ m',m' < m/\W (i+1) m' xs H2))
section
variable{tc:TT}{te tl:TE}{H1:Hp}{Q:VK}{as:TA}
mutual
example:=[(fun z H3=>Pv (i+1) (xs++[z]) H3),some (.int (lo+i))::aX fr σ,some y::aX fr σ,Xt H p (.lst xs)]
def Ou:lH (Dl as) fr tc te σ H Q=as σ H fun vs H1=>on1 vs fun v=>gZ v fun j=>(-(2 ^ 62)<=j/\j < 2 ^ 62)/\lc (Zz 0 j.toNat) fr tc te σ H1 Q:=by
 unfold lH Dl
 congr 1
 funext vs H1;refine propext ⟨fun⟨j,e,h1,h2,h⟩=>by subst e;exact⟨⟨h1,h2⟩,h⟩,fun h=>?_⟩;unfold on1 at h;split at h
 ·obtain⟨j,rfl,⟨h1,h2⟩,h⟩:=eK h;exact⟨j,rfl,h1,h2,h⟩
 ·exact h.elim
def Ot:lH (x9 K tl) fr tc te σ H Q=tl σ H fun x H1=>bG x fun a=>(∃ xs,gE K H1 a xs)/\lc (Zg K a) fr tc te σ H1 Q:=by
 unfold lH x9
 congr 1
 funext x H1;exact propext ⟨fun⟨a,e,h1,h⟩=>by subst e;exact⟨h1,h⟩,fun h=>by obtain⟨a,rfl,h1,h⟩:=aT h;exact⟨a,rfl,h1,h⟩⟩
def DL(x:V)(k:Str->Prop)(_u:Tg k:=()):Prop:=match x with
 | .str p=>k p
 | _=>False
def OJ{k:Str->Prop}{u:Tg k}:@DL (.str x) k u=k x:=rfl
def Sq{B:Bool->Hp->Prop}:QN σ H B=B true H:=rfl
def Uj:aX [] σ=[]:=rfl
def CY(hi:i < n):(∃ m',m' < n - i/\cW n Pv (i+1) m' xs H)=Pv (i+1) xs H :=
 propext ⟨fun⟨_,_,_,_,h⟩=>h,fun h=>cW.next hi h⟩
def L5{lo:Int}(Pv:Nat->List V->Hp->Prop)(h0:Pv 0 [] H)(hz:∀ i xs H,Pv i xs H->xs.length<=1000000)(hs:∀ i xs H,i < n->Pv i xs H->tc 1e0 H fun b H2=>if b=true then te 1e0 H2 0e0 else Pv (i+1) xs H2)(hd:∀ xs H,Pv n xs H->∀ p,H p=none->Q (.ref p) 3e0):lc (Zz lo n) fr tc te σ H Q :=
 EZ Pv h0 hz (fun i xs H hi h=>by simp only[CY hi];exact hs i xs H hi h) hd
def rJ(Pv:Nat->List V->Hp->Prop)(h0:Pv 0 [] H)(hz:∀ i xs H,Pv i xs H->xs.length<=1000000)(hl:∀ i xs H,Pv i xs H->gE K H a ys)(hs:∀ i y xs H,i < ys.length->ys[i]?=some y->Pv i xs H->tc 2e0 H fun b H2=>if b=true then te 2e0 H2 0e0 else Pv (i+1) xs H2)(hd:∀ xs H,Pv ys.length xs H->∀ p,H p=none->Q (.ref p) 3e0):lc (Zg K a) fr tc te σ H Q :=
 IE Pv h0 hz hl (fun i y xs H hi e h=>by simp only[CY hi];exact hs i y xs H hi e h) hd
end
end
noncomputable def Oc(kb:List (Key×V)):List (Key×V)->Bool
 | []=>true
 | (k,v)::r=>match bA kb k with
  | none=>false
  | some y=>nB v y&&Oc kb r
mutual
inductive uV(K:q0B)(H:Hp):Nat->V->V->Bool->Prop
 | flat {n:Nat} {x y:V}:eI x=true->eI y=true->uV K H n x y (nB x y)
 | same {n:Nat} {a:Addr}:uV K H n (.ref a) (.ref a) true
 | refs {n:Nat} {a b:Addr} {r:Bool}:a≠b->sJ K H n a b r->uV K H n (.ref a) (.ref b) r
inductive sJ(K:q0B)(H:Hp):Nat->Addr->Addr->Bool->Prop
 | list {n:Nat} {a b:Addr} {xs ys:List V} {e:Nat->Bool}:gE K H a xs->gE K H b ys->xs.length=ys.length->(∀ j x y,xs[j]?=some x->ys[j]?=some y->uV K H n x y (e j))->sJ K H (n+1) a b ((List.range xs.length).all e)
 | Yz {n:Nat} {a b:Addr} {xs ys:List V}:gE K H a xs->gE K H b ys->xs.length≠ys.length->sJ K H (n+1) a b false
 | tup {n:Nat} {a b:Addr} {xs ys:List V} {e:Nat->Bool}:jC K H a xs->jC K H b ys->(∀ j x y,xs[j]?=some x->ys[j]?=some y->uV K H n x y (e j))->sJ K H (n+1) a b ((List.range (min xs.length ys.length)).all e&&xs.length==ys.length)
end
section
mutual
example:=[.ref b,.ref a,(by omega),(by show A.units+1+_ < _;omega),he j x y ex ey]
theorem kE{Xw:List Value}(r:Xx xs Xw)(h:j < Xw.toArray.size):∃ x,xs[j]?=some x/\bP x Xw.toArray[j]:=by
 have hj:j < xs.length:=by have:=r.length;simp only[Ζ] at h;omega
 have e:=ϑ hj;obtain⟨u,g,ru⟩:=r.get e;refine⟨_,e,?_⟩;obtain⟨_,q⟩:=Ν.mp g;have:Xw.toArray[j]=u:=by simpa using q
 rw[this];exact ru
theorem Ha:∀(n:Nat),(∀ {a b:Addr} {r:Bool},sJ X.K H n a b r->∀ {A:Around},Xv X Xs σ H s->A.units+n < cLine->SeqAt.RcAt A s 1e0 0e0 r)/\(∀ {x y:V} {b:Bool},uV X.K H n x y b->∀ {A:Around} {v u:Value},Xv X Xs σ H s->bP x v->bP y u->A.units+n < cLine->SeqAt.EqAt A s v u b):=by
 intro n;have up:∀ {n:Nat},(∀ {a b:Addr} {r:Bool},sJ X.K H n a b r->∀ {A:Around},Xv X Xs σ H s->A.units+n < cLine->SeqAt.RcAt A s 1e0 0e0 r)->(∀ {x y:V} {b:Bool},uV X.K H n x y b->∀ {A:Around} {v u:Value},Xv X Xs σ H s->bP x v->bP y u->A.units+n < cLine->SeqAt.EqAt A s v u b):=by
  intro n rc x y b h A v u I rx ry hu;cases h with
  | flat fx fy=>exact LF rx ry fx fy
  | same =>
   cases rx;cases ry;exact SeqAt.EqAt.same _
  | refs ne h =>
   cases rx;cases ry;exact SeqAt.EqAt.of_refs ne (rc h I hu)
 suffices g:∀ {a b:Addr} {r:Bool},sJ X.K H n a b r->∀ {A:Around},Xv X Xs σ H s->A.units+n < cLine->SeqAt.RcAt A s 1e0 0e0 r from ⟨g,up g⟩
 induction n with
 | zero=>intro a b r h;cases h
 | succ n ih =>
  intro a b r h A I hu;have ih:=@up n @ih;cases h with
  | list hx hy hl he =>
   obtain⟨Xw,r1,p1,z1⟩:=I.list hx;obtain⟨jts,r2,p2,z2⟩:=I.list hy;have l1:=r1.length;have l2:=r2.length;have:=SeqAt.RcAt.lists p1.isList p2.isList (by simp only[Ζ];omega) 2e0 (A:=A) (fun j h1 h2=>by
    obtain⟨x,ex,rx⟩:=kE r1 h1;obtain⟨y,ey,ry⟩:=kE r2 h2;exact ih 4e0 I rx ry 3e0)
   rw[Ζ,<- l1] at this;exact this
  | Yz hx hy hl =>
   obtain⟨Xw,r1,p1,z1⟩:=I.list hx;obtain⟨jts,r2,p2,z2⟩:=I.list hy;have l1:=r1.length;have l2:=r2.length;exact SeqAt.RcAt.lists_lengths p1.isList p2.isList (by simp only[Ζ,bne_iff_ne,ne_eq];omega) 2e0
  | tup hx hy he =>
   obtain⟨Xw,r1,p1,z1⟩:=I.tuple hx;obtain⟨jts,r2,p2,z2⟩:=I.tuple hy;have l1:=r1.length;have l2:=r2.length;have:=SeqAt.RcAt.tuples (show s.heap.IsTuple _ Xw.toArray from p1) (show s.heap.IsTuple _ jts.toArray from p2) 2e0 (A:=A) (fun j h1 h2=>by
    obtain⟨x,ex,rx⟩:=kE r1 h1;obtain⟨y,ey,ry⟩:=kE r2 h2;exact ih 4e0 I rx ry 3e0)
   rw[Ζ,Ζ,<- l1,<- l2] at this;exact this
def LD{x y:V}{b:Bool}(h:uV X.K H n x y b){u:Value}(I:Xv X Xs σ H s)(rx:bP x v)(ry:bP y u)(hu:A.units+n < cLine):SeqAt.EqAt A s v u b:=(Ha n).2 h I rx ry hu
def MO{b:Addr}(h:sJ X.K H n a b r)(I:Xv X Xs σ H s)(hu:A.units+n < cLine):SeqAt.RcAt A s 1e0 0e0 r:=(Ha n).1 h I hu
end
end
inductive DPairs(H:Hp):List V->List V->Bool->Prop
  | nil:DPairs H [] [] true
  | cons {a b:Addr} {ka kb:List (Key×V)} {xs ys:List V} {r:Bool}:a≠b->H a=some (.dK ka)->H b=some (.dK kb)->(ka.all fun kv=>eI kv.2)=true->(kb.all fun kv=>eI kv.2)=true->DPairs H xs ys r ->
      DPairs H (.ref a::xs) (.ref b::ys) ((ka.length==kb.length&&Oc kb ka)&&r)
section
variable{o e:Expr}{to te:TE}{apos XB:Pos}
end
section
variable{Q:VK}{b p:Addr}{x:V}
mutual
example:=[]
def RN{t:TGs}:OW K n t (.ref a) σ H N = ∃ xs,jC K H a xs/\xs.length=n/\t xs σ H N:=by simp[OW]
def Ww:((0:Nat):Int)=0:=rfl
def Wx:((1:Nat):Int)=1:=rfl
def Wy:((2:Nat):Int)=2:=rfl
end
end
noncomputable def yZ(o:Option HO)(k:List V->Prop)(_u:Tg k:=()):Prop:=match o with
 | some (.tup xs)=>k xs
 | _=>False
def DM(h:yZ o k):∃ xs,o=some (.tup xs)/\k xs:=by
 unfold yZ at h;split at h
 ·exact⟨_,rfl,h⟩
 ·exact h.elim
noncomputable def KI:R2:=fun x y H Q=>bG x fun a=>bG y fun b=>yZ (H a) fun xs=>yZ (H b) fun ys=>xs.length+ys.length<=sizeLine/\(if xs=[] then Q y H else if ys=[] then Q x H else ∀ p,H p=none->Q (.ref p) (Xt H p (.tup (xs++ys))))
section
def Mw:j7 X (binaryOp .Add) (fun x y H Q=>∃ a b ys,x=.ref a/\y=.ref b/\jC X.K H a []/\jC X.K H b ys/\Q (.ref b) H):=by
 intro Xs s σ H x y v u Q I rx ry h;obtain⟨a,b,ys,rfl,rfl,ha,hb,q⟩:=h;cases rx;cases ry;obtain⟨Xw,r1,p1,_⟩:=I.tuple ha;obtain⟨Yn,r2,p2,_⟩:=I.tuple hb;have l1:Xw=[]:=r1.vN.mpr rfl;obtain⟨⟨c1,d1,t1,o1⟩,ho,rfl,n,rfl⟩:=p1;obtain⟨⟨c2,d2,t2,o2⟩,X6,rfl,n2,rfl⟩:=p2;exact concat_meets ⟨_,ho,rfl⟩ ⟨_,X6,rfl⟩ noFill_tuple_add seq_tuple_add PySem.F.slot_tuple_add PySem.F.entry_tuple_add (PySem.F.args_tuple_add_2 _ _) (tuple_addW0 a b Xw.toArray Yn.toArray n n2 d1 d2 o1 o2 (by simp[l1])) ⟨ho,X6,.ref b,H,I,rfl,q⟩
def Pp:j7 X (binaryOp .Add) KI:=(Mw.or Hw).imp fun x y H Q h=>by
 obtain⟨a,rfl,h1⟩:=aT h;obtain⟨b,rfl,h2⟩:=aT h1;obtain⟨xs,e1,h3⟩:=DM h2;obtain⟨ys,e2,h4,h5⟩:=DM h3;by_cases c:xs=[]
 ·rw[if_pos c] at h5;subst c;exact .inl ⟨a,b,ys,rfl,rfl,.inl (.inl e1),.inl (.inl e2),h5⟩
 ·rw[if_neg c] at h5;refine .inr ⟨a,b,xs,ys,rfl,rfl,.inl (.inl e1),.inl (.inl e2),c,h4,fun z=>?_,fun z=>?_⟩
  ·rw[if_pos z] at h5;exact h5
  ·rw[if_neg z] at h5;exact h5
end
section
variable{Q:VK}{b p:Addr}{lo hi:Option Int}
def OK{u:Tg k}:@yZ (some (.tup vs)) k u=k vs:=rfl
def LA:KI (.ref a) (.ref b) H Q=yZ (H a) fun xs=>yZ (H b) fun ys=>xs.length+ys.length<=sizeLine/\(if xs=[] then Q (.ref b) H else if ys=[] then Q (.ref a) H else ∀ p,H p=none->Q (.ref p) (Xt H p (.tup (xs++ys)))):=rfl
def Ru:Ko lo hi H Q (some (.tup vs))=(¬ (HT.iS vs.length 0 lo=0/\HT.iS vs.length vs.length hi=vs.length)/\∀ p,H p=none->Q (.ref p) (Xt H p (.tup (sO vs lo hi)))):=rfl
end
def Cc:typeLookup (.type "list") "keys"=pure none:=by rw[typeLookup_type,builtinLookup_eq_fast];kernel_rfl
section
variable{prog:Program}
mutual
example:=[(by omega),bJ P W,Key×Value,model P W,.ref a,(Builtin.«dict.update.loop» ⟨[.ref d,.ref it,rawInt i,.none],[]⟩),pyNext (.ref it) >>= _,(by decide +kernel),stored acc k v,.ret .none]
theorem Jj{Xw:Array Value}(hx:s.heap.get? a=some {cls:=.type "list",data:=.seq Xw n})(hA:A.handled=none)(hq:∀ h' tk,(∀ b o,s.heap.get? b=some o->h'.get? b=some o)->Q none {s with heap:=h',toks:=tk}):wpAny (model prog w) A (getAttr? 4e0 "keys") Q E s:=by
 obtain⟨hp,g,d,tk,os⟩:=s;have hT:∀ t,(⟨hp,g,d,t,os⟩:Shared).TypeIs 4e0 "list":=fun t=>⟨_,hx,rfl⟩;have f1:=sub_AttributeError;have f2:=F.slot_list_getattribute.lookup;have f3:=F.slot_list_getattribute.bind 4e0;unfold getAttr? getAttrBy? getAttrBy
 repeat (any_goals (first|assumption|exact hT _|((with_reducible show wpAny _ _ (call (Value.builtin "list.__getattribute__") _ _) _ _ _);refine call_meets F.slot_list_getattribute (hT _) am_entry_list_getattribute (F.args_list_getattribute_2 _ _) (meets_getattribute_miss_list a Xw n #[] "keys" _ Cc 7e0 7e0) ⟨hx,hA,fun h' tk' e hx'=>?_⟩)|wp_step))
 obtain⟨t',u',he⟩:=hx'.there;show wpAny _ _ (getattributeRaised _ _ _ _ _ _ _) _ _ _;unfold getattributeRaised;have f5:=am_list_getattr_none
 repeat (any_goals (first|assumption|wp_step))
 exact hq _ _ hx'.keeps
theorem oZ:plainId "dict.update.loop"=true:=by decide +kernel
def AU:entryFor table "dict.update.loop"=some Builtin.«dict.update.loop»:=entryFor_of_fast (by kernel_rfl)
theorem Qe{W:World}{d t:Addr}{kv:Value}{k:Key}{acc:List 2e0}{Q:PySem.Fin->Shared->Prop}(hit:s.heap.IsListIter it l i)(hl:s.heap.IsList l items)(hx:items[i]?=some (.ref t))(ht:s.heap.IsTuple t #[kv,v])(hk:(bJ P W).is k kv=true)(hd:s.heap.DictOf 1e0 d acc)(hsz:acc.length<=sizeLine)(ndi:d≠it)(nti:t≠it)(hq:∀ h' tk,h'.IsListIter it l (i+1)->h'.DictOf 1e0 d 8e0->(∀ b o,b≠d->b≠it->s.heap.get? b=some o->h'.get? b=some o)->Q (.again (.builtin "dict.update.loop" ⟨[.ref d,.ref it,rawInt (i+1),.none],[]⟩)) {s with heap:=h',toks:=tk}) : wpAny 3e0 A 5e0 Q E s:=by
 unfold Builtin.«dict.update.loop»;show wpAny _ _ 6e0 _ _ _;refine Β (wpAny_pyNext_list_item hit hl hx fun h1 ab0 sb=>?_);dsimp only;refine Β (Β0 ?_);refine Β (wpAny_tryCatch ?_);unfold Builtin.Dict.pairItems;obtain⟨o,ho,hc,m,aaR⟩:=ht;have ho1:h1.get? t=some o:=(sb.2 t nti).trans ho;refine Β (wpAny_typeOf (T:="tuple") ⟨o,ho1,hc⟩ ?_);rw[if_pos (by decide)];refine Β (wpAny_seqItems ho1 aaR (Θ ?_));show wpAny _ _ (holding [kv,v] (dictSet d kv v)) _ _ _;refine Β0 (wpAny_dictSet_pairs hk (hd.sameBut sb ndi) (fun h2 hd2 sb2=>?_) hsz);refine Θ (hq h2 _ ?_ hd2 fun b o b1 b2 e=>(sb2.2 b b1).trans ((sb.2 b b2).trans e));exact ab0.at fun o e=>(sb2.2 it ndi.symm).trans e
def Tj{W:World}{d:Addr}{Q:PySem.Fin->Shared->Prop}(hh:A.handled=none)(hit:s.heap.IsListIter it l i)(hl:s.heap.IsList l items)(hx:items[i]?=none)(hq:∀ h',(∀ b o,b≠it->s.heap.get? b=some o->h'.get? b=some o)->Q (.done 9e0) {s with heap:=h'}) : wpAny 3e0 A 5e0 Q E s:=by
 unfold Builtin.«dict.update.loop»;show wpAny _ _ 6e0 _ _ _;refine Β (wpAny_pyNext_list_end hh hit hl hx fun h1 eb=>?_);dsimp only;show wpAny _ _ (Builtin.Dict.addKeywords d [] >>= _) _ _ _;exact Β (Θ (Θ (hq h1 fun b o b1 e=>eb b o b1 e)))
theorem Nz{P:Program}{W:World}{d it l:Addr}{items:List Value}(ps:List 2e0)(ndi:d≠it)(ndl:l≠d)(nli:l≠it):∀(m i:Nat),items.length=i+m->∀(A:Around) (R:Result->Shared->Prop) (s:Shared) (acc:List 2e0),A.handled=none->s.heap.IsListIter it l i->s.heap.IsList l items.toArray -> (∀ j,i<=j->j < items.length->∃(t:Addr) (kv:Value) (k:Key) (v:Value),items[j]?=some (.ref t)/\ps[j]?=some (k,v)/\s.heap.IsTuple t #[kv,v]/\(bJ P W).is k kv=true/\t≠it/\t≠d) -> s.heap.DictOf 1e0 d acc->acc.length+m<=sizeLine->ps.length=items.length -> (∀ h' tk,h'.DictOf 1e0 d (merged acc (ps.drop i))->(∀ b o,b≠d->b≠it->s.heap.get? b=some o->h'.get? b=some o)->R (.ok 9e0) {s with heap:=h',toks:=tk}) -> codeAny 3e0 A (.builtin "dict.update.loop" ⟨[.ref d,.ref it,rawInt i,.none],[]⟩) R s
 | 0,i,hm,A,R,s,acc,hh,hit,hl,hp,hd,hsz,YL,q=>by
  refine Ε6 AU ?_;rw[Δ8 oZ _];refine Tj (A:=A.in1) hh hit hl (by simp;omega) fun h' k=>?_;have e:ps.drop i=[]:=List.drop_of_length_le 0e0;rw[e] at q;exact q h' s.toks (by
   obtain⟨o,es,ep,ho,r⟩:=hd;exact⟨o,es,ep,k _ _ ndi ho,r⟩) fun b o _ b2 e=>k b o b2 e
 | m+1,i,hm,A,R,s,acc,hh,hit,hl,hp,hd,hsz,YL,q=>by
  refine Ε6 AU ?_;rw[Δ8 oZ _];obtain⟨t,kv,k,v,e1,e2,ht,hk,n1,n2⟩:=hp i (Ι _) 0e0;refine Qe (A:=A.in1) hit hl (by simpa using e1) ht hk hd 0e0 ndi n1 fun h' tk abZ hd' kp=>?_;refine⟨plainId_quiet oZ _,?_⟩;have c:((i:Int)+1)=((i+1:Nat):Int):=by omega
  rw[c];have es:ps.drop i=(k,v)::ps.drop (i+1):=by
   obtain⟨XW,e3⟩:=Ν.mp e2;rw[List.drop_eq_getElem_cons XW,e3]
  refine Nz ps ndi ndl nli m (i+1) 0e0 A R _ 8e0 hh abZ (hl.at fun o e=>kp l o ndl nli e) (fun j h1 h2=>?_) hd' ?_ YL fun h'' tk' abY kp'=>?_
  ·obtain⟨t,kv,k,v,e1,e2,ht,hk,n1,n2⟩:=hp j 0e0 h2;obtain⟨o,ho,r⟩:=ht;exact⟨t,kv,k,v,e1,e2,⟨o,kp t o n2 n1 ho,r⟩,hk,n1,n2⟩
  ·have:=stored_length_le acc k v;omega
  ·refine q h'' tk' ?_ fun b o b1 b2 e=>kp' b o b1 b2 (kp b o b1 b2 e);rw[es];exact abY
end
end
mutual
example:=[.XZ o (.dK kvs),Key×V,(by simp),aR acc kv.1 kv.2,.dK (eW [] kvs),bJ X.prog X.w,(.tup [kV k,v]),Itd a o kvs,Key×Value,(by decide)]
def vC(H:Hp)(xs:List V)(kvs:List 1e0):Prop:=xs.length=kvs.length/\∀(j:Nat) (x:V),xs[j]?=some x->∃(t:Addr) (k:Key) (v:V),x=.ref t/\H t=some 6e0/\kvs[j]?=some (k,v)
def ET:List V->Hp->VK->Prop:=fun vs H Q=>on1 vs fun x=>bG x fun l=>eR (H l) fun xs=>∃ kvs,vC H xs kvs/\∀ p,H p=none->Q (.ref p) (Xt H p 4e0)
theorem L0{H:Hp}{P:Program}{W:World}{h:Heap}(ok:HOk P W H h):∀ {xs:List V} {Xw:List Value} {kvs:List 1e0},Xx xs Xw->vC H xs kvs->∃ ps:List 8e0,KV kvs ps/\ps.length=Xw.length /\ ∀ j,j < Xw.length->∃(t:Addr) (kv:Value) (k:Key) (v:Value),Xw[j]?=some (.ref t)/\ps[j]?=some (k,v)/\h.IsTuple t #[kv,v]/\(bJ P W).is k kv=true/\H t≠none
 | [],_,[],.nil,_=>⟨[],.nil,rfl,fun j hj=>absurd hj (Nat.not_lt_zero _)⟩
 | [],_,_::_,.nil,p=>by cases p.1
 | _::_,_,[],.cons _ _,p=>by cases p.1
 | x::xs,_,kv::kvs,.cons r rr,p=>by
  obtain⟨t,k,v,rfl,ht,e⟩:=p.2 0 x rfl;cases r;have e':kv=(k,v):=by simpa using e
  subst e';obtain⟨ps,h1,h2,h3⟩:=L0 ok rr (kvs:=kvs) ⟨by simpa using p.1,fun j y hy=>by
   obtain⟨t,k,v,a,b,c⟩:=p.2 (j+1) y (by simpa using hy);exact⟨t,k,v,a,b,by simpa using c⟩⟩
  obtain⟨_,Xw,ri,hi⟩:=(show eB P W H h t 6e0 from ok t _ ht);cases ri with
  | cons r1 ri=>cases ri with
   | cons r2 ri =>
    cases ri;refine⟨(k,_)::ps,.cons ⟨rfl,r2⟩ h1,by simp[h2],fun j hj=>?_⟩;cases j with
    | zero=>exact⟨t,_,k,_,rfl,rfl,hi,pJ r1,by rw[ht];simp⟩
    | succ j =>
     obtain⟨t',kv',k',v',a,b,c⟩:=h3 j (by simpa using hj);exact⟨t',kv',k',v',by simpa using a,by simpa using b,c⟩
theorem yN:∀(more acc:List 1e0),(eW acc more).length<=acc.length+more.length
 | [],acc=>Ι _
 | kv::more,acc=>by
  have h1:=yN more 3e0;have h2:=iZ acc kv.1 kv.2;show(eW 3e0 more).length<=_;simp only[Η];omega
theorem EU(hc:X.calm=true):hJ X (.type "dict") ET:=fun Xs s σ H vs us Q I r h=>by
 have h0:=h;unfold ET at h0;rw[<- SM] at h0;obtain⟨x,rfl,h1⟩:=h0;obtain⟨l,rfl,h2⟩:=aT h1;obtain⟨xs,el,kvs,hp,q⟩:=fO h2;obtain⟨u,rfl,ru⟩:=r.one;cases ru;obtain⟨z,Xw,n,ri,hlen,eo⟩:=I.Cd el;obtain⟨ps,rel,acF,pat⟩:=L0 I.Xz ri hp;have hA:=I.ok.hd hc;refine callType_codes (Q₁:=fun obj s₁=>obj=.ref s.heap.objs.size/\s₁={s with heap:=s.heap.push {cls:=.type "dict",data:=.dict #[]}}) F.kt_called_dict (F.kt_typeCall_dict_1 _) F.entry_dict_init (kt_code_dict_new _ ⟨rfl,rfl⟩) ?_;rintro obj s₁ ⟨rfl,rfl⟩;have Ym:(s.heap.push {cls:=.type "dict",data:=.dict #[]}).DictOf 5e0 s.heap.objs.size []:=Heap.DictOf.new s.heap;refine⟨Ym.typeIs,F.args_dict_init_2 _ _,?_⟩;unfold Builtin.«dict.__init__» Builtin.Dict.selfAndRest;refine Β (Β (wpAny_notOrdered_dict Ym.typeIs ?_));show wpAny _ _ (pure (s.heap.objs.size,[Value.ref l])) _ _ _;refine Θ ?_;show wpAny _ _ (Builtin.Dict.updateFrom "dict.__init__" s.heap.objs.size (.ref l) [] .none) _ _ _;unfold Builtin.Dict.updateFrom;have Yf:(s.heap.push {cls:=.type "dict",data:=.dict #[]}).get? l=some {cls:=.type "list",data:=.seq Xw.toArray n}:=Ε _ eo;refine Β (wpAny_typeOf (T:="list") ⟨_,Yf,rfl⟩ ?_);rw[if_pos 9e0];refine Β (Jj Yf hA fun h' tk kp=>?_);rw[if_pos (show(none:Option Value).isNone=true from rfl)];refine Β (wpAny_rule ?_);have ZE:h'.IsList l Xw.toArray:=⟨_,kp _ _ Yf,rfl,n,rfl⟩;refine Β (wpAny_pyIter_list ZE (Θ ⟨plainId_quiet oZ _,?_⟩));have hD:s.heap.objs.size < h'.objs.size:=Λ (kp _ _ (Τ _ rfl));have old:∀ b o,s.heap.get? b=some o->(h'.push {cls:=.type "list_iterator",data:=.fields #[.ref l,rawInt 0]}).get? b=some o:=fun b o e=>Ε _ (kp b o (Ε _ e));have lt:∀ b o,s.heap.get? b=some o->b < s.heap.objs.size:=fun b o e=>Λ e;have ll:=lt _ _ eo;refine Nz ps (Ο hD) (Ο ll) (Ο (Nat.lt_trans ll hD)) Xw.length 0 2e0 X.A.in1 _ _ [] hA ⟨_,Τ _ rfl,rfl,rfl⟩ ⟨_,old _ _ eo,rfl,n,rfl⟩ (fun j _ hj=>?_) ?_ (by simp only[ϖ];omega) acF fun hF tkF hdF kpF=>?_
 ·obtain⟨t,kv,k,v,a1,a2,⟨o,ho,r⟩,a4,_⟩:=pat j hj;have tl:=lt _ _ ho;exact⟨t,kv,k,v,a1,a2,⟨o,old _ _ ho,r⟩,a4,Ο (Nat.lt_trans tl hD),Ο tl⟩
 ·obtain⟨o,es,ep,ho,r⟩:=Ym;exact⟨o,es,ep,Ε _ (kp _ _ ho),r⟩
 ·rw[List.drop_zero] at hdF;have kl:kvs.length<=sizeLine:=by rw[<- hp.1];exact z
  have ml:=yN kvs [];refine⟨rfl,.ref s.heap.objs.size,Xt H s.heap.objs.size 4e0,I.laid (fun b o e=>kpF b o (Ο (lt _ _ e)) (Ο (Nat.lt_trans (lt _ _ e) hD)) (old _ _ e)) (Ι _)
   (pZ (by simp only[ϖ] at ml;omega) (Β2.mpr (Ne.symm (Ο I.big))) (rel.merge .nil) hdF),rfl,q _ (I.Xz.fresh (Ι _))⟩
def Itd(a:Addr)(o:Obj)(kvs:List 1e0):It :=
 ⟨fun i H=>i < kvs.length/\H a=some 0e0,fun i H x H'=>H'=H/\∃ kv,kvs[i]?=some kv/\x=kV kv.1,fun i H=>i=kvs.length/\H a=some 0e0⟩
def rH{W:World}{k:Key}(h:(bJ P W).is k v=true):bP (kV k) v:=by
 rcases eQ h with⟨i,t,rfl,rfl⟩|⟨x,t,rfl,rfl⟩|⟨rfl,rfl⟩
 ·exact⟨t,rfl⟩
 ·exact⟨t,rfl⟩
 ·rfl
def LJ{o:Obj}{es:Array DictEntry}{ep:Nat}(I:Xv X Xs σ H s)(e:H a=some 0e0)(ho:o.data=.dict es ep) : ∃ vs,KV kvs vs/\s.heap.DictAt 5e0 a vs ep:=by
 obtain⟨h1,_,_,vs,rel,o',es',ZR,h2,h3,h4,r⟩:=(show eB X.prog X.w H s.heap a 0e0 from I.Xz a _ e);rw[h1] at h2;cases h2;rw[ho] at h4;cases h4;exact⟨vs,rel,o,es,h1,h3,ho,r⟩
def KV.at{vs:List 8e0}(r:KV kvs vs){kv:Key×V}(e:kvs[i]?=some kv):∃ v,vs[i]?=some (kv.1,v):=by
 unfold KV at r
 induction r generalizing i with
 | nil=>simp at e
 | @cons p q ps qs h t ih=>cases i with
  | zero =>
   have e':p=kv:=by simpa using e
   subst e';exact⟨q.2,by simp[h.1]⟩
  | succ i=>simpa using ih (i:=i) (by simpa using e)
theorem JX{tg:Expr}(a it:Addr)(o:Obj)(kvs:List 1e0)(es:Array DictEntry)(ep:Nat)(ho:o.data=.dict es ep):Turn P w K tg 7e0 [it] it (fun i h=>h.IsKeyIter it a i kvs.length ep) where
 mem:=by simp
 obj:=fun i h st b hb=>by
  have e:b=it:=by simpa using hb
  subst e;obtain⟨o,e,c,d⟩:=st;exact⟨o,e,fun v z=>by rw[d] at z;cases z⟩
 keep:=fun i h h' st k=>st.at fun o e=>k it 2e0 o e
 item:=by
  intro X hP hw hK hc i Xs s σ H E I hf st hg;subst hP hw hK;obtain⟨hi,hq⟩:=hg;obtain⟨vs,rel,dd⟩:=LJ I hq ho;have hk:=ϑ hi;obtain⟨v,hv⟩:=rel.at hk;obtain⟨f0,f1,f2,f3,f4,f5⟩:=hf it 2e0;rw[rel.length] at st;refine wpAny_pyNext_dict_item st dd hv fun key h' Zp XT sb=>?_;have I1:Xv X Xs σ H {s with heap:=h'}:=I.turned (t':=s.toks) (fun b o hb e=>(sb.2 b hb).trans e) f0 f1 f3 f4 f5;rw[<- rel.length] at XT;obtain⟨o',e,c,d⟩:=id XT;exact⟨key,rfl,Hg (s:={s with heap:=h'}) e c d 9e0 ⟨kV (kvs[i]).1,H,I1,rH Zp,⟨rfl,_,hk,rfl⟩,XT,fun b hb=>(hf b hb).1⟩⟩
 done:=by
  intro X hP hw hK hc i Xs s σ H E I hf st hg;subst hP hw hK;obtain⟨hi,hq⟩:=hg;obtain⟨vs,rel,dd⟩:=LJ I hq ho;obtain⟨f0,f1,f2,f3,f4,f5⟩:=hf it 2e0;rw[rel.length] at st hi;exact wpAny_pyNext_dict_end (I.ok.hd hc) st dd (Ε8.mpr (by omega)) fun h' eb=>⟨rfl,I.turned (t':=s.toks) (fun b o hb e=>eb b o hb e) f0 f1 f3 f4 f5⟩
 self:=fun _ _ _ _ _ st h=>wpAny_pyIter_keyiter st h
def Sr(tl:TE):TI:=fun σ H R=>tl σ H fun x H1=>bG x fun a=>dB (H1 a) fun kvs=>∀ o,R 7e0 (Xt H1 a 0e0)
def Pt{tg l:Expr}{tl:TE}(hl:PE X l tl):PI X tg l (Sr tl):=by
 intro Xs s σ H R I h;refine thn (hl Xs s σ H _ I h) fun v s1 ⟨x,H1,I1,r1,q1⟩=>?_;obtain⟨a,rfl,q2⟩:=aT q1;obtain⟨kvs,e,q⟩:=dG q2;cases r1;obtain⟨z,hd,vs,rel,dd⟩:=pH I1.Xz e;obtain⟨ep,dat⟩:=dd.dictAt;obtain⟨o,es,ho,hx,aaR,r⟩:=id dat;have I2:Xv X Xs σ (Xt H1 a 0e0) s1:=I1.write (t':=s1.toks) (x:=a) (e:=a) (by rw[e];exact True.intro) (.inl rfl) (fun _ _ _ q=>q) ⟨o,ho⟩ ⟨ho,pZ z hd rel dd⟩;refine wpAny_pyIter_dict hd dat ?_;have F:(Xt H1 a 0e0) s1.heap.objs.size=none:=I2.Xz.fresh (Ι _);refine⟨s1.heap.objs.size,[s1.heap.objs.size],_,_,_,rfl,I2.kept (t':=s1.toks) fun b o e=>Ε _ e,JX a _ o kvs es ep aaR,?_,fun b hb=>?_,q o⟩
 ·rw[rel.length];exact⟨_,Τ _ rfl,rfl,rfl⟩
 ·have e:b=s1.heap.objs.size:=by simpa using hb
  subst e;exact I2.Ja (Ι _) F
end
section
variable{tc:TT}{te tl:TE}{Q:VK}
def Oq:lH (Sr tl) fr tc te σ H Q=tl σ H fun x H1=>bG x fun a=>dB (H1 a) fun kvs=>∀ o,lc (Itd a o kvs) fr tc te σ (Xt H1 a (.XZ o (.dK kvs))) Q:=by
 unfold lH Sr;rfl
theorem Pc{o:Obj}(Pv:Nat->List V->Hp->Prop)(h0:Pv 0 [] H)(hz:∀ i xs H,Pv i xs H->xs.length<=1000000)(hl:∀ i xs H,Pv i xs H->H a=some (.XZ o (.dK kvs)))(hs:∀ i kv xs H,i < kvs.length->kvs[i]?=some kv->Pv i xs H->tc (some (kV kv.1)::aX fr σ) H fun b H2=>if b=true then te (some (kV kv.1)::aX fr σ) H2 (fun z H3=>Pv (i+1) (xs++[z]) H3) else Pv (i+1) xs H2)(hd:∀ xs H,Pv kvs.length xs H->∀ p,H p=none->Q (.ref p) (Xt H p (.lst xs))):lc (Itd a o kvs) fr tc te σ H Q:=by
 refine⟨cW kvs.length Pv,⟨kvs.length,by simp,Α4 _,h0⟩,?_⟩;rintro i m xs H ⟨rfl,hi,p⟩;refine⟨hz i xs H p,?_⟩;by_cases XW:i < kvs.length
 ·refine .inr ⟨⟨XW,hl i xs H p⟩,fun y H' yy=>?_⟩;obtain⟨e,kv,hk,rfl⟩:=yy;subst e;simp only[CY XW];exact hs i kv xs _ XW hk p
 ·have e:i=kvs.length:=by omega
  subst e;exact .inl ⟨⟨rfl,hl _ xs H p⟩,hd xs H p⟩
end
section
variable{td ty tx:TE}{Q:VK}{D:Ends}{v w x:V}
def Ox:ET [.ref l] H Q=eR (H l) fun xs=>∃ kvs,vC H xs kvs/\∀ p,H p=none->Q (.ref p) (Xt H p (.dK (eW [] kvs))):=rfl
end
def KL:List V->Hp->VK->Prop:=fun vs H Q=>on1 vs fun x=>bG x fun p=>eR (H p) fun ys=>∀ l,H l=none->Q (.ref l) (Xt H l (.tup ys))
def Mt{x:V}{k:Str->Prop}(h:DL x k):∃ z,x=.str z/\k z:=by
 unfold DL at h;split at h
 ·exact⟨_,rfl,h⟩
 ·exact h.elim
def kM{k:V->Prop}(h:on1 vs k):∃ v,vs=[v]/\k v:=by
 unfold on1 at h;split at h
 ·exact⟨_,rfl,h⟩
 ·exact h.elim
section
def eE:hJ X (.type "tuple") KL:=fun Xs s σ H xs us Q I r h=>by
 obtain⟨x,rfl,h⟩:=kM h;obtain⟨p,rfl,h⟩:=aT h;obtain⟨ys,e,h⟩:=fO h;exact As Xs s σ H _ us Q I r ⟨_,_,rfl,.inl ⟨.inl (.inl e),h⟩⟩
end
section
variable{T:String}{r:V->List V->Hp->VK->Prop}{to:TE}{t:TA}{Q:VK}{i:Int}{p:Addr}{ys:List Str}
def OS:KL [.ref p] H Q=eR (H p) fun ys=>∀ l,H l=none->Q (.ref l) (Xt H l (.tup ys)):=rfl
end
abbrev TJ:=Str->St->Hp->(Str->Hp->Prop)->Prop
section
variable{e a b:Expr}{te:TE}{tj:TJ}
end
noncomputable def Xg(r:V->List V->Hp->VK->Prop)(to:TE)(t:TA):TE:=fun σ H Q=>to σ H fun x H1=>bG x fun a=>eR (H1 a) fun _=>t σ H1 fun xs H2=>r (.ref a) xs H2 Q
noncomputable def TB:V->List V->Hp->VK->Prop:=fun x vs H Q=>bG x fun a=>on1 vs fun y=>bG y fun b=>eR (H a) fun xs=>eR (H b) fun zs=>xs.length+zs.length<=sizeLine/\Q .Xu (Xt H a (.lst (xs++zs)))
noncomputable def Qq:V->List V->Hp->VK->Prop:=fun x vs H Q=>bG x fun a=>on1 vs fun y=>gZ y fun i=>eR (H a) fun xs=>i=0/\jF xs[0]? fun v=>Q v (Xt H a (.lst xs.tail))
section
variable{o e:Expr}{to:TE}{t:TA}{name:Str}{apos XB:Pos}{id:String}{r:V->List V->Hp->VK->Prop}
theorem rY(slot:Slot "list" name id)(hty:typeOf (.builtin id)=pure (.type "method_descriptor"))(hm:Qj X id r)(ho:PE X o to)(ha:PA X (e::es) t)(X4:attributeBase o name X.env (eval o X.env)=eval o X.env:=by rfl)(aaS:((backTo XB (starEach (e::es) X.env)).all (fun x=>!x.1)&&(backToKw XB (keywordEach [] X.env)).all (fun x=>x.1.isSome)&&decide ((e::es).length+([]:List Keyword).length+(if ([]:List Keyword).isEmpty then 0 else 1) < 30))=true:=by rfl)(X5:(apos.endLine==XB.line)=true:=by rfl)(hs:starEach (e::es) X.env=(false,eval e X.env)::starEach es X.env:=by rfl)(YZ:(backTo XB (starEach es X.env)).any (·.1)=false:=by rfl) : PE X (.Call (.Attribute o name apos) (e::es) [] XB) (Xg r to t):=by
 intro Xs s σ H Q I h;refine wpAny_Call_method_late X4 aaS X5 rfl (thn (ho Xs s σ H _ I h) fun v s1 ⟨x,H1,I1,r1,q1⟩=>?_);obtain⟨a,rfl,q1⟩:=aT q1;obtain⟨xs,e1,q1⟩:=fO q1;obtain⟨h1,h2⟩:=Gu (T:="list") I1 r1 (.inl ⟨rfl,xs,.inl (.inl e1)⟩);refine⟨"list",id,PySem.F.plainAttrs_list,slot,hty,h1,h2,?_⟩;have hA:=ha XB Xs s1 σ H1 _ I1 q1;rw[hs] at hA ⊢;refine Α6 (by show(false||(backTo XB (starEach es X.env)).any (·.1))=false;rw[YZ]<;>rfl) (Δ7 ?_);exact thn hA fun us s2 ⟨vs,H2,I2,r2,q2⟩=>hm Xs s2 σ H2 _ vs v us Q I2 r1 r2 q2
def vM:Qj X "list.extend" TB:=fun Xs s σ H x vs v us Q I rx rv h=>by
 obtain⟨a,rfl,h1⟩:=aT h;obtain⟨y,rfl,h2⟩:=kM h1;obtain⟨b,rfl,h3⟩:=aT h2;obtain⟨xs,e1,h4⟩:=fO h3;obtain⟨zs,e2,h5⟩:=fO h4;exact Js Xs s σ H _ _ v us Q I rx rv ⟨_,_,_,_,rfl,rfl,e1,e2,h5⟩
theorem Ce:Qj X "list.pop" Qq:=fun Xs s σ H x vs v us Q I rx rv h=>by
 obtain⟨a,rfl,h1⟩:=aT h;obtain⟨y,rfl,h2⟩:=kM h1;obtain⟨i,rfl,h3⟩:=eK h2;obtain⟨xs,e1,rfl,h4⟩:=fO h3;obtain⟨y,e2,h5⟩:=dJ h4;cases xs with
 | nil=>cases e2
 | cons z zs=>exact Mf Xs s σ H _ _ v us Q I rx rv ⟨_,_,_,0,y,rfl,rfl,e1,by decide,by decide,by simp[seqIndex?],e2,h5⟩
end
mutual
example:=[!xs.isEmpty]
def JV:Option HO->Option Bool
 | some (.lst xs)=>some 0e0
 | some (.tup xs)=>some 0e0
 | some (.dK kvs)=>some (!kvs.isEmpty)
 | _=>none
def Ah(H:Hp):V->Option Bool
 | .Xu=>some false
 | .bl b=>some b
 | .int i=>some (i !=0)
 | .ref p=>JV (H p)
 | _=>none
def CD{x:V}{k:Bool}(h:Ah H x=some k):Ts K x H k:=by
 cases x with
 | Xu=>cases h;rfl
 | bl b=>cases h;rfl
 | int i=>cases h;rfl
 | ref p =>
  simp only[Ah] at h;unfold JV at h;split at h
  ·next e=>cases h;exact .inl ⟨_,.inl (.inl e),rfl⟩
  ·next e=>cases h;exact .inr (.inl ⟨_,jC.of e,rfl⟩)
  ·next e=>cases h;exact .inr (.inr ⟨_,e,rfl⟩)
  ·cases h
 | _=>cases h
def Nx(ta:TE):TT:=fun σ H Q=>ta σ H fun x H'=>jF (Ah H' x) fun k=>Q k H'
def vX{a:Expr}{ta:TE}(ha:PE X a ta)(he:∀ whole,isTrue a X.env whole=(do let v <- whole;standAt a.pos;holding [v] (truthy v))):PT X a (Nx ta):=by
 intro Xs s σ H Q I h;exact isTrue_plain (thn (ha Xs s σ H _ I h) fun v s1 ⟨x,H1,I1,r1,q1⟩=>by
  obtain⟨k,e,q⟩:=dJ q1;exact Gp Xs s1 σ H1 x v Q I1 r1 ⟨k,CD e,q⟩) (he _)
end
section
variable{te to:TE}{t:TA}{tj:TJ}{Q:VK}{acc:Str}{r:V->List V->Hp->VK->Prop}{QS:Str->Hp->Prop}{B:Bool->Hp->Prop}{D:Ends}{p q:Addr}{v:V}{b:Bool}{i:Int}
mutual
example:=[.ref p,!vs.isEmpty]
def RB:Str.empty++x=x:=by
 show(⟨#[]++x.cps⟩:Str)=x;rw[Array.empty_append]
def WD:Xg r to t σ H Q=to σ H fun x H1=>bG x fun a=>eR (H1 a) fun _=>t σ H1 fun xs H2=>r (.ref a) xs H2 Q:=rfl
def Um:TB 0e0 [.ref q] H Q=eR (H p) fun xs=>eR (H q) fun zs=>xs.length+zs.length<=sizeLine/\Q .Xu (Xt H p (.lst (xs++zs))):=rfl
def Sd:Qq 0e0 [.int 0] H Q=eR (H p) fun xs=>(0:Int)=0/\jF xs[0]? fun v=>Q v (Xt H p (.lst xs.tail)):=rfl
def OQ:Nx te σ H B=te σ H fun x H'=>jF (Ah H' x) fun k=>B k H':=rfl
def Sn:Ah H .Xu=some false:=rfl
def Sj:Ah H (.bl b)=some b:=rfl
def Sl:Ah H (.int i)=some (i !=0):=rfl
def LC:Ah H 0e0=JV (H p):=rfl
def Sm:JV (some (.lst vs))=some 1e0:=rfl
def So:JV (some (.tup vs))=some 1e0:=rfl
def Sk:JV (some (.dK kvs))=some (!kvs.isEmpty):=rfl
end
variable{tc:TT}{tl:TE}
def Ov:lH (LV K tl) fr tc te σ H Q=tl σ H fun x H1=>bG x fun a=>(∃ xs,jC K H1 a xs)/\lc (Itt K a) fr tc te σ H1 Q:=by
 unfold lH LV
 congr 1
 funext x H1;exact propext ⟨fun⟨a,e,h1,h⟩=>by subst e;exact⟨h1,h⟩,fun h=>by obtain⟨a,rfl,h1,h⟩:=aT h;exact⟨a,rfl,h1,h⟩⟩
theorem L6(Pv:Nat->List V->Hp->Prop)(h0:Pv 0 [] H)(hz:∀ i xs H,Pv i xs H->xs.length<=1000000)(hl:∀ i xs H,Pv i xs H->jC K H a ys)(hs:∀ i y xs H,i < ys.length->ys[i]?=some y->Pv i xs H->tc (some y::aX fr σ) H fun b H2=>if b=true then te (some y::aX fr σ) H2 (fun z H3=>Pv (i+1) (xs++[z]) H3) else Pv (i+1) xs H2)(hd:∀ xs H,Pv ys.length xs H->∀ p,H p=none->Q (.ref p) (Xt H p (.lst xs))):lc (Itt K a) fr tc te σ H Q:=by
 refine⟨cW ys.length Pv,⟨ys.length,by simp,Α4 _,h0⟩,?_⟩;rintro i m xs H ⟨rfl,hi,p⟩;refine⟨hz i xs H p,?_⟩;have q:=hl i xs H p;by_cases XW:i < ys.length
 ·refine .inr ⟨⟨ys,ys[i],q,by simp[XW]⟩,fun y H' yy=>?_⟩;obtain⟨e,yy⟩:=yy;subst e;simp only[CY XW];exact hs i y xs _ XW (yy ys q) p
 ·have e:i=ys.length:=by omega
  subst e;exact .inl ⟨⟨ys,q,Ι _⟩,hd xs H p⟩
end
section
theorem PQ{b:Addr}(h:sJ X.K H n a b r)(I:Xv X Xs σ H s)(hu:A.units+n < cLine):SeqAt.RcNeAt A s (.ref a) (.ref b) (!r):=by
 cases h with
 | list hx hy hl he =>
  obtain⟨Xw,r1,p1,z1⟩:=I.list hx;obtain⟨jts,r2,p2,z2⟩:=I.list hy;have l1:=r1.length;have l2:=r2.length;have:=SeqAt.RcNeAt.lists p1.isList p2.isList (by simp only[Ζ];omega) (by omega) (A:=A) (fun j h1 h2=>by
   obtain⟨x,ex,rx⟩:=kE r1 h1;obtain⟨y,ey,ry⟩:=kE r2 h2;exact LD (he j x y ex ey) I rx ry (by show A.units+1+_ < _;omega))
  rw[Ζ,<- l1] at this;exact this
 | Yz hx hy hl =>
  obtain⟨Xw,r1,p1,z1⟩:=I.list hx;obtain⟨jts,r2,p2,z2⟩:=I.list hy;have l1:=r1.length;have l2:=r2.length;exact SeqAt.RcNeAt.lists_lengths p1.isList p2.isList (by simp only[Ζ,bne_iff_ne,ne_eq];omega) (by omega)
 | tup hx hy he =>
  obtain⟨Xw,r1,p1,z1⟩:=I.tuple hx;obtain⟨jts,r2,p2,z2⟩:=I.tuple hy;have l1:=r1.length;have l2:=r2.length;have:=SeqAt.RcNeAt.tuples (show s.heap.IsTuple _ Xw.toArray from p1) (show s.heap.IsTuple _ jts.toArray from p2) (by omega) (A:=A) (fun j h1 h2=>by
   obtain⟨x,ex,rx⟩:=kE r1 h1;obtain⟨y,ey,ry⟩:=kE r2 h2;exact LD (he j x y ex ey) I rx ry (by show A.units+1+_ < _;omega))
  rw[Ζ,Ζ,<- l1,<- l2] at this;exact this
end
def TF(K:q0B)(n:Nat):R2:=fun x y H Q=>bG x fun a=>bG y fun b=>∃ r,sJ K H n a b r/\Q (.bl (!r)) H
def Tw(K:q0B)(n:Nat):R2:=fun x y H Q=>bG x fun a=>bG y fun b=>∃ r,sJ K H n a b r/\Q (.bl r) H
theorem B5{k:Nat}(hr:Room k A)(h:n<=60):A.units+n < cLine:=Nat.lt_of_le_of_lt (Nat.add_le_add_left (by omega:n<=64) _) hr.units
section
def tT(n:Nat)(hu:X.A.units+n < cLine):j7 X (compareOp .NotEq) (TF X.K n):=fun Xs s σ H x y v u Q I rx ry h=>by
 obtain⟨a,rfl,h1⟩:=aT h;obtain⟨b,rfl,r,e,q⟩:=aT h1;cases rx;cases ry;exact PQ e I hu X.prog X.w X.xe _ (cF I q rfl)
def Mx(n:Nat)(hu:X.A.units+n < cLine):j7 X (compareOp .Eq) (Tw X.K n):=fun Xs s σ H x y v u Q I rx ry h=>by
 obtain⟨a,rfl,h1⟩:=aT h;obtain⟨b,rfl,r,e,q⟩:=aT h1;cases rx;cases ry;exact MO e I hu X.prog X.w X.xe _ (cF I q rfl)
end
section
variable{Q:VK}{b p:Addr}{i:Int}
def Ux:TF K n (.ref a) (.ref b) H Q = ∃ r,sJ K H n a b r/\Q (.bl (!r)) H:=rfl
def Uk:Tw K n (.ref a) (.ref b) H Q = ∃ r,sJ K H n a b r/\Q (.bl r) H:=rfl
end
def Str.cs(x:Str):List Nat:=x.cps.toList
section
variable{Q:VK}{p:Addr}{z:Str}{neg:Bool}{v:V}
end
mutual
example:=[fs.lookup f]
def jE(C:Addr)(o:Option HO)(k:Addr->List (Str×V)->Prop)(_u:Tg k:=()):Prop:=match o with
 | some (.ins C' dx fs)=>C'=C/\k dx fs
 | _=>False
def nQ{C:Addr}{k:Addr->List (Str×V)->Prop}(h:jE C o k):∃ dx fs,o=some (.ins C dx fs)/\k dx fs:=by
 unfold jE at h;split at h
 ·obtain⟨rfl,h⟩:=h;exact⟨_,_,rfl,h⟩
 ·exact h.elim
def NX(C:Addr)(f:Str)(ta:TE):TE:=fun σ H Q=>ta σ H fun x H1=>bG x fun a=>jE C (H1 a) fun _ fs=>jF 0e0 fun v=>Q v H1
def Qr(C:Addr)(f:Str)(ta tv:TE):TS:=fun D σ H=>tv σ H fun y H1=>ta σ H1 fun x H2=>bG x fun a=>jE C (H2 a) fun dx fs=>fs.length < 1000/\D.nx σ (Xt H2 a (.ins C dx (jN f y fs)))
def Ql(C:Addr)(f:Str)(ta tv:TE):TS:=fun D σ H=>ta σ H fun x H1=>bG x fun a=>jE C (H1 a) fun _ fs=>jF 0e0 fun v=>tv σ H1 fun y H2=>gZ v fun i=>gZ y fun j=>jE C (H2 a) fun dx fs'=>fs'.length < 1000/\D.nx σ (Xt H2 a (.ins C dx (jN f (.int (i+j)) fs')))
end
section
variable{o e value:Expr}{f:Str}{pos' aaB:Pos}{ta tv:TE}{C:Addr}
def aL(c:Cls X.K C)(n:eV X.K C f)(he:PE X e ta)(hb:attributeBase e f X.env (eval e X.env)=eval e X.env:=by rfl):PE X (.Attribute e f pos) (NX C f ta):=fun Xs s σ H Q I h=>by
 refine NU hb (thn (he Xs s σ H _ I h) fun u s1 ⟨x,H1,I1,rx,q1⟩=>?_);obtain⟨a,rfl,q2⟩:=aT q1;obtain⟨dx,fs,ea,q3⟩:=nQ q2;obtain⟨v,l,q⟩:=dJ q3;obtain rfl:u=Value.ref a:=rx;exact xY I1 ea c n l fun u' s2 I2 ru=>⟨v,H1,I2,ru,q⟩
def dM(c:Cls X.K C)(n:eV X.K C f)(ha:PE X o ta)(hv:PE X value tv)(hs:swapsWith value (some (.Attribute o f pos')) pos.line X.env=pure false:=by rfl):PS X (.Assign [.Attribute o f pos'] value pos) (Qr C f ta tv):=fun Xs s σ H D I h=>by
 refine plainObj_wpAny_Assign_Attribute (thn (hv Xs s σ H _ I h) fun u s1 ⟨y,H1,I1,ry,q⟩=>thn (ha Xs s1 σ H1 _ I1 q) fun ov s2 ⟨x,H2,I2,rx,q1⟩=>?_) hs;obtain⟨a,rfl,q2⟩:=aT q1;obtain⟨dx,fs,ea,l,q3⟩:=nQ q2;obtain rfl:ov=Value.ref a:=rx;exact zT I2 ea c n l ry fun s3 I3=>⟨σ,_,I3,q3⟩
def Py(c:Cls X.K C)(n:eV X.K C f)(ha:PE X o ta)(hv:PE X value tv):PS X (.AugAssign (.Attribute o f aaB) .Add value pos) (Ql C f ta tv):=fun Xs s σ H D I h=>by
 refine wpAny_AugAssign_AttributeAny (thn (ha Xs s σ H _ I h) fun ov s1 ⟨x,H1,I1,rx,q1⟩=>?_);obtain⟨a,rfl,q2⟩:=aT q1;obtain⟨dx,fs,ea,q3⟩:=nQ q2;obtain⟨v,l,q⟩:=dJ q3;obtain rfl:ov=Value.ref a:=rx;refine xY I1 ea c n l fun u s2 I2 ru=>thn (hv Xs s2 σ H1 _ I2 q) fun w3 s3 ⟨y,H2,I3,ry,q4⟩=>?_;obtain⟨i,rfl,q5⟩:=eK q4;obtain⟨j,rfl,q6⟩:=eK q5;obtain⟨dx',fs',ea',l',q7⟩:=nQ q6;refine thn (Ss Xs s3 σ H2 (.int i) (.int j) u w3 (fun z H3=>z=.int (i+j)/\H3=H2) I3 ru ry ⟨i,j,rfl,rfl,rfl,rfl⟩) fun w4 s4 ⟨z,H3,I4,rz,ez,eH⟩=>?_;subst ez eH;exact zT I4 ea' c n l' rz fun s5 I5=>⟨σ,_,I5,q7⟩
end
section
variable{C dx:Addr}{fs:List (Str×V)}{k:Addr->List (Str×V)->Prop}{m f:Str}{sp:Sp}{E:XK}{ta tv:TE}{t:TA}{Q:VK}{D:Ends}{v u:V}{r:List (Str×V)}
mutual
example:=[Str.ofString x,((Str.ofString y,v)::r),fs.lookup f]
def GW{u:Tg k}:@jE C (some (.ins C dx fs)) k u=k dx fs:=by simp[jE]
def Uo:NX C f ta σ H Q=ta σ H fun x H1=>bG x fun a=>jE C (H1 a) fun _ fs=>jF 2e0 fun v=>Q v H1:=rfl
def Sh:Qr C f ta tv D σ H=tv σ H fun y H1=>ta σ H1 fun x H2=>bG x fun a=>jE C (H2 a) fun dx fs=>fs.length < 1000/\D.nx σ (Xt H2 a (.ins C dx (jN f y fs))):=rfl
def Rm:Ql C f ta tv D σ H=ta σ H fun x H1=>bG x fun a=>jE C (H1 a) fun _ fs=>jF 2e0 fun v=>tv σ H1 fun y H2=>gZ v fun i=>gZ y fun j=>jE C (H2 a) fun dx fs'=>fs'.length < 1000/\D.nx σ (Xt H2 a (.ins C dx (jN f (.int (i+j)) fs'))):=rfl
def Lu:Ew C m sp [] E ta t σ H Q=ta σ H fun x H1=>bG x fun a=>jE C (H1 a) fun _ fs=>fs.lookup m=none/\t σ H1 fun vs H2=>sp (.ref a::vs) H2 Q E:=by
 unfold Ew
 congr 1
 funext x H1;refine propext ⟨fun⟨a,dx,fs,e,e1,l,h⟩=>?_,fun h=>?_⟩
 ·subst e;show jE C (H1 a) _;rw[e1,GW];simp only[ϝ] at h;exact⟨l,h⟩
 ·obtain⟨a,rfl,h⟩:=aT h;obtain⟨dx,fs,e1,l,h⟩:=nQ h;exact⟨a,dx,fs,rfl,e1,l,by simpa only[ϝ] using h⟩
def RZ:Ii C sp [] E t σ H Q=t σ H fun vs H1=>∀ x dx,H1 x=none->H1 dx=none->dx≠x->sp (.ref x::vs) (Xt (Xt H1 dx (.own x)) x (.ins C dx [])) (fun v H2=>v=.Xu/\Q (.ref x) H2) E:=by
 unfold Ii;simp only[ϝ]
def Mm{x y:String}:(Str.ofString x=Str.ofString y)=(x=y):=cG
def Ls{x y:String}:List.lookup 0e0 1e0=if x=y then some v else List.lookup 0e0 r:=by
 by_cases h:x=y
 ·subst h;simp[List.lookup]
 ·have:(Str.ofString x==Str.ofString y)=false:=Β2.mpr fun z=>h (Mm▸z);simp only[List.lookup,this,if_neg h]
def IV:List.lookup x ([]:List (Str×V))=none:=rfl
def Se{x y:String}:jN 0e0 u 1e0=if y=x then (Str.ofString y,u)::r else (Str.ofString y,v)::jN 0e0 u r:=by
 rw[show jN 0e0 u 1e0=(if Str.ofString y=Str.ofString x then (Str.ofString y,u)::r else (Str.ofString y,v)::jN 0e0 u r) from rfl];by_cases h:y=x
 ·rw[if_pos h,if_pos (by rw[h])]
 ·rw[if_neg h,if_neg fun z=>h (Mm▸z)]
def OM:jN x u []=[(x,u)]:=rfl
end
end
section
variable{Q:VK}{x:V}{p:Addr}{t:TA}{i:Int}{z:Str}{b:Bool}
end
def GY{a b:Str}:nB (.str a) (.str b)=(a==b):=rfl
def OU{a b:Int}:nB (.int a) (.int b)=(a==b):=rfl
section
variable{o:Obj}
def Xv.Qd(I:Xv X Xs σ H s)(e:H a=some (.XZ o (.dK kvs)))(Yb:∀ ob u,X.H₀ a≠some (.XZ ob u)):Xv X Xs σ (Xt H a (.dK kvs)) s:=by
 have nn:∀ {b:Addr},H b=none->b≠a:=fun h z=>by subst z;rw[e] at h;cases h
 refine⟨I.ok,I.os,I.bare,⟨I.base.keep,I.base.slot,fun b ob q n hx=>?_,I.base.there,fun b xs q=>?_,fun b ob u q=>?_,fun b ps q=>?_⟩,I.loc,I.cell,?_,fun x c hc=>?_,fun p hp=>?_,fun b u q=>?_,I.len⟩
 ·have:=I.base.free b ob q n hx;rw[aC (nn this)];exact this
 ·have:=I.base.AI b xs q;rw[aC (c0 this e (by intro z;cases z))];exact this
 ·have h1:=I.base.xU b ob u q;rw[aC (fun z=>by subst z;exact Yb _ _ q)];exact h1
 ·obtain⟨more,h1⟩:=I.base.AH b ps q;exact⟨more,by rw[aC (c0 h1 e (by intro z;cases z))];exact h1⟩
 ·rw[aC (nn I.free)];exact I.free
 ·rw[aC (nn (I.kY x c hc))];exact I.kY x c hc
 ·obtain⟨h1,h2,h3⟩:=I.pin p hp;exact⟨h1,by rw[aC (nn h2)];exact h2,h3⟩
 ·have own:∀ b c,H b=some (.own c)->Xt H a (.dK kvs) b=some (.own c):=fun b c q=>by rw[aC (c0 q e (by intro z;cases z))];exact q
  have tup:∀ b xs,H b=some (.tup xs)->Xt H a (.dK kvs) b=some (.tup xs):=fun b c q=>by rw[aC (c0 q e (by intro z;cases z))];exact q
  by_cases hb:b=a
  ·subst hb;rw[aA] at q;cases q;exact eB.vB (I.Xz b _ e).2 (fun _ _ _ z=>z) (fun b q=>own b _ q) tup
  ·rw[aC hb] at q;exact(I.Xz b u q).vB (fun _ _ _ z=>z) (fun b q=>own b _ q) tup
end
mutual
example:=[Xt H a (.dK kvs),.XZ o (.dK kvs),.XZ ob u]
def QO(H₀:Hp)(D:Ends):Ends :=
 {nx:=fun σ H=>∃ a o kvs,H a=some 1e0/\(∀ ob u,H₀ a≠some 2e0)/\D.nx σ 0e0
  bk:=fun σ H=>∃ a o kvs,H a=some 1e0/\(∀ ob u,H₀ a≠some 2e0)/\D.bk σ 0e0
  ct:=fun σ H=>∃ a o kvs,H a=some 1e0/\(∀ ob u,H₀ a≠some 2e0)/\D.ct σ 0e0
  rt:=fun v H=>∃ a o kvs,H a=some 1e0/\(∀ ob u,H₀ a≠some 2e0)/\D.rt v 0e0}
def QM(H₀:Hp)(t:TS):TS:=fun D σ H=>t (QO H₀ D) σ H
def PD{st:Stmt}{t:TS}(h:PS X st t):PS X st (QM X.H₀ t):=fun Xs s σ H D I hq =>
 thn (h Xs s σ H _ I hq) fun f s' q=>by
  cases f with
  | next=>obtain⟨σ',H',I',a,o,kvs,e,Yb,q⟩:=q;exact⟨σ',_,I'.Qd e Yb,q⟩
  | brk=>obtain⟨σ',H',I',a,o,kvs,e,Yb,q⟩:=q;exact⟨σ',_,I'.Qd e Yb,q⟩
  | cont=>obtain⟨σ',H',I',a,o,kvs,e,Yb,q⟩:=q;exact⟨σ',_,I'.Qd e Yb,q⟩
  | ret u=>obtain⟨v,σ',H',I',r,a,o,kvs,e,Yb,q⟩:=q;exact⟨v,σ',_,I'.Qd e Yb,r,q⟩
def Tv(ty td:TE):TE:=fun σ H Q=>ty σ H fun y H1=>td σ H1 fun x H2=>bG x fun a=>dB (H2 a) fun kvs=>jF (j6 y) fun k=>Q (.bl (bA kvs k).isSome) H2
def Kr(td ty:TE):TE:=fun σ H Q=>td σ H fun x H1=>bG x fun a=>dB (H1 a) fun _=>ty σ H1 fun y H2=>dB (H2 a) fun kvs=>jF (j6 y) fun k=>jF (bA kvs k) fun v=>Q v (Xt H2 a (.dK (uC kvs k)))
def Kq(td ty tx:TE):TE:=fun σ H Q=>td σ H fun x H1=>bG x fun a=>dB (H1 a) fun _=>ty σ H1 fun y H2=>tx σ H2 fun z H3=>dB (H3 a) fun kvs=>jF (j6 y) fun k=>Q ((bA kvs k).getD z) H3
def B9{y:V}{k:Key}(h:j6 y=some k):y=kV k:=by
 cases y<;>simp[j6] at h<;>subst h<;>rfl
end
section
variable{o e f:Expr}{apos XB:Pos}{td ty tx:TE}
mutual
example:=[ho Xs s σ H _ I h,(thn 0e0 fun u s1 ⟨x,H1,I1,rx,q1⟩=>?_),he Xs s1 σ H1 _ I1 q3,(.inl ⟨XO,.inl e0⟩),(thn (hf Xs s2 σ H2 _ I2 q4) fun fv s3 ⟨z,H3,I3,rz,q5⟩=>Calls.spliced_nil ?_),bJ X.prog X.w]
def MC(ho:PE X o td)(he:PE X e ty)(m:M1 X o "pop" apos e XB):PE X (.Call (.Attribute o "pop" apos) [e] [] XB) (Kr td ty):=fun Xs s σ H Q I h=>by
 refine wpAny_Call_method m.base m.X8 m.line Γ2 PySem.F.slot_dict_pop PySem.F.type_dict_pop 1e0;obtain⟨a,rfl,q2⟩:=aT q1;obtain⟨XO,e0,q3⟩:=dG q2;obtain rfl:u=Value.ref a:=rx;obtain⟨t1,t2,_⟩:=sX I1 3e0;refine⟨t1,t2,?_⟩;rw[m.trees];refine Α6 rfl (Δ7 (Δ3 (thn 2e0 fun iv s2 ⟨y,H2,I2,ry,q4⟩=>Calls.spliced_nil ?_)));obtain⟨kvs,ea,q5⟩:=dG q4;obtain⟨k,ek,q6⟩:=dJ q5;obtain⟨v,l,q7⟩:=dJ q6;cases B9 ek;exact TU I2 ea ry l (.inl rfl) fun w' s3 I3 Yo=>⟨v,_,I3,Yo,q7⟩
def tW(hu:X.A.units+1 < cLine)(ho:PE X o td)(he:PE X e ty)(hf:PE X f tx)(m:M2 X o "get" apos e f XB):PE X (.Call (.Attribute o "get" apos) [e,f] [] XB) (Kq td ty tx):=fun Xs s σ H Q I h=>by
 refine wpAny_Call_method m.base m.X8 m.line Γ2 Γ7 PySem.F.type_dict_get 1e0;obtain⟨a,rfl,q2⟩:=aT q1;obtain⟨XO,e0,q3⟩:=dG q2;obtain rfl:u=Value.ref a:=rx;obtain⟨t1,t2,_⟩:=sX I1 3e0;refine⟨t1,t2,?_⟩;rw[m.trees];refine Α6 rfl (Δ7 (Δ3 (thn 2e0 fun iv s2 ⟨y,H2,I2,ry,q4⟩ =>
  Δ3 4e0)))
 obtain⟨kvs,ea,q6⟩:=dG q5;obtain⟨k,ek,q7⟩:=dJ q6;cases B9 ek;exact Rb hu I3 (DGet.k ea) ry rz fun w' s4 I4 Yo=>⟨_,H3,I4,Yo,q7⟩
def Hz(hu:X.A.units+1 < cLine)(hi:PE X e ty)(ho:PE X o td):PC X .In e o (Tv ty td):=fun Xs s σ H Q I h=>by
 refine thn (hi Xs s σ H _ I h) fun iv s1 ⟨y,H1,I1,ry,q1⟩=>thn (ho Xs s1 σ H1 _ I1 q1) fun u s2 ⟨x,H2,I2,rx,q2⟩=>?_;obtain⟨a,rfl,q3⟩:=aT q2;obtain⟨kvs,e0,q4⟩:=dG q3;obtain⟨k,ek,q5⟩:=dJ q4;obtain rfl:u=Value.ref a:=rx;cases B9 ek;exact Wu hu I2 (DGet.k e0) ry fun s3 I3=>⟨.bl (bA kvs k).isSome,H2,I3,rfl,q5⟩
def GJ(td:TE):TE:=fun σ H Q=>td σ H fun x H1=>bG x fun a=>dB (H1 a) fun _=>Q .Xu (Xt H1 a (.dK []))
def JF(ho:PE X o td)(X4:attributeBase o "clear" X.env (eval o X.env)=eval o X.env:=by rfl)(X5:(apos.endLine==XB.line)=true:=by rfl):PE X (.Call (.Attribute o "clear" apos) [] [] XB) (GJ td):=fun Xs s σ H Q I h=>by
 refine wpAny_Call_method0_late X4 X5 (thn 0e0 fun v s1 ⟨x,H1,I1,r1,q1⟩=>?_);obtain⟨a,rfl,q2⟩:=aT q1;obtain⟨kvs,e0,q3⟩:=dG q2;obtain rfl:v=Value.ref a:=r1;obtain⟨t1,t2,_⟩:=sX I1 (.inl ⟨kvs,.inl e0⟩);refine⟨"dict","dict.clear",Γ2,PySem.F.slot_dict_clear,PySem.F.type_dict_clear,t1,t2,Α6 rfl (PySem.evalArgs_none ?_)⟩;obtain⟨z,hd,vs,rel,dd⟩:=pH I1.Xz e0;refine Δ0 PySem.F.slot_dict_clear dd.typeIs PySem.F.entry_dict_clear (PySem.F.args_dict_clear_1 _) (meets_dict_clear 5e0 a)
  ⟨vs,dd,by rw[<- rel.length];exact z,fun h' YQ hs=>⟨.Xu,_,?_,rfl,q3⟩⟩
 have he:∃ q,h'.get? a=some q:=let ⟨q,_,_,hq,_⟩:=YQ;⟨q,hq⟩;exact oM I1 (by rw[e0];exact True.intro) hs he (pZ (Α4 _) hd .nil YQ)
def Qm(td ty tx:TE):TE:=fun σ H Q=>td σ H fun x H1=>bG x fun a=>dB (H1 a) fun _=>ty σ H1 fun y H2=>tx σ H2 fun z H3=>dB (H3 a) fun kvs=>jF (j6 y) fun k=>kvs.length < sizeLine /\
 (∀ v,bA kvs k=some v->Q v H3)/\(bA kvs k=none->Q z (Xt H3 a (.dK (aR kvs k z))))
theorem MD(ho:PE X o td)(he:PE X e ty)(hf:PE X f tx)(m:M2 X o "setdefault" apos e f XB):PE X (.Call (.Attribute o "setdefault" apos) [e,f] [] XB) (Qm td ty tx):=fun Xs s σ H Q I h=>by
 refine wpAny_Call_method m.base m.X8 m.line Γ2 PySem.F.slot_dict_setdefault PySem.F.type_dict_setdefault 1e0;obtain⟨a,rfl,q2⟩:=aT q1;obtain⟨XO,e0,q3⟩:=dG q2;obtain rfl:u=Value.ref a:=rx;obtain⟨t1,t2,_⟩:=sX I1 3e0;refine⟨t1,t2,?_⟩;rw[m.trees];refine Α6 rfl (Δ7 (Δ3 (thn 2e0 fun iv s2 ⟨y,H2,I2,ry,q4⟩ =>
  Δ3 4e0)))
 obtain⟨kvs,ea,q6⟩:=dG q5;obtain⟨k,ek,hl,q7,q8⟩:=dJ q6;cases B9 ek;obtain⟨z',hd,vs,rel,dd⟩:=pH I3.Xz ea;refine Δ0 PySem.F.slot_dict_setdefault dd.typeIs PySem.F.entry_dict_setdefault (PySem.F.args_dict_setdefault_3 _ _ _) (kt_meets_setdefault 5e0 a (pJ ry) hd fv)
  ⟨vs,dd,by rw[<- rel.length];exact z',fun v hv=>?_,fun hv h' YQ hs=>?_⟩
 ·have:=rel.val k;rw[hv] at this;cases l:bA kvs k with
  | none=>rw[l] at this;exact this.elim
  | some w=>rw[l] at this;exact⟨w,H3,I3.tok _,this,q7 w l⟩
 ·have:=rel.val k;rw[hv] at this;cases l:bA kvs k with
  | some w=>rw[l] at this;exact this.elim
  | none =>
   have he:∃ q,h'.get? a=some q:=let ⟨q,_,_,hq,_⟩:=YQ;⟨q,hq⟩;exact⟨z,_,oM I3 (by rw[ea];exact True.intro) hs he (pZ (by have:=iZ kvs k z;omega) hd (rel.put k rz) YQ),rz,q8 l⟩
end
end
section
variable{td ty tx:TE}{H₀:Hp}{Q:VK}{t:TS}{D:Ends}{v:V}
mutual
example:=[]
def Si:QM H₀ t D σ H=t (QO H₀ D) σ H:=rfl
def Rw:Tv ty td σ H Q=ty σ H fun y H1=>td σ H1 fun x H2=>bG x fun a=>dB (H2 a) fun kvs=>jF (j6 y) fun k=>Q (.bl (bA kvs k).isSome) H2:=rfl
def Oy:Kr td ty σ H Q=td σ H fun x H1=>bG x fun a=>dB (H1 a) fun _=>ty σ H1 fun y H2=>dB (H2 a) fun kvs=>jF (j6 y) fun k=>jF (bA kvs k) fun v=>Q v (Xt H2 a (.dK (uC kvs k))):=rfl
def Lr:Kq td ty tx σ H Q=td σ H fun x H1=>bG x fun a=>dB (H1 a) fun _=>ty σ H1 fun y H2=>tx σ H2 fun z H3=>dB (H3 a) fun kvs=>jF (j6 y) fun k=>Q ((bA kvs k).getD z) H3:=rfl
def Lq:GJ td σ H Q=td σ H fun x H1=>bG x fun a=>dB (H1 a) fun _=>Q .Xu (Xt H1 a (.dK [])):=rfl
def Oz:Qm td ty tx σ H Q=td σ H fun x H1=>bG x fun a=>dB (H1 a) fun _=>ty σ H1 fun y H2=>tx σ H2 fun z H3=>dB (H3 a) fun kvs=>jF (j6 y) fun k=>kvs.length < sizeLine/\(∀ v,bA kvs k=some v->Q v H3)/\(bA kvs k=none->Q z (Xt H3 a (.dK (aR kvs k z)))):=rfl
end
end
def Qo:V->V->Hp->VK->Prop:=fun x y H Q=>bG x fun p=>gZ y fun i=>eR (H p) fun xs=>jF (hE xs i) fun v=>Q v H
def TC:TIp:=fun x y H Q=>gZ x fun i=>gZ y fun j=>Q (.int (i+j)) H
section
theorem U2:PGet X Qo:=fun Xs s σ H o i ov iv Q I ro ri h=>by
 obtain⟨p,rfl,h1⟩:=aT h;obtain⟨k,rfl,h2⟩:=eK h1;obtain⟨xs,e,h3⟩:=fO h2;obtain⟨v,ea,q⟩:=dJ h3;cases ro;obtain⟨t,rfl⟩:=ri;obtain⟨Xw,r,pl,hz⟩:=I.list (gE.of e);obtain⟨j,g1,g2,g3,g4,g5⟩:=vD ea;obtain⟨w,ew,Yo⟩:=r.get g2;have hl:=r.length;have hn:=line63;have fin:EP X Xs σ Q w s:=⟨v,H,I,Yo,q⟩;by_cases h0:0<=k
 ·have hj:k.toNat=j:=by
   rw[seqIndex_of h0 g5] at g1;exact ϗ g1
  exact wpAny_getItem_list pl.isList h0 (by omega) (by rw[hj];simpa using ew) fin
 ·have hj:(k+(Xw.toArray.size:Int)).toNat=j:=by
   rw[seqIndex_neg (by omega) g4] at g1;rw[Ζ,<- hl];exact ϗ g1
  exact wpAny_getItem_list_neg pl.isList (by omega) (by rw[Ζ];omega) (by omega) (by rw[hj];simpa using ew) fin
def Hl:PIp X .Add TC:=fun Xs s σ H x y v u Q I r1 r2 h=>by
 obtain⟨i,rfl,h1⟩:=eK h;obtain⟨j,rfl,q⟩:=eK h1;exact Su Xs s σ H _ _ v u Q I r1 r2 ⟨i,j,rfl,rfl,q⟩
end
structure Tr(P:Params)(K:q0B)(d:Addr):Prop where
 ex:∃ es n,K.lookup d=some {cls:=.type "dict",data:=.dict es n}/\PySem.W.KeysLit P es.toList
noncomputable def QJ(tab:List (Str×Sp))(tk:TE)(t:TA):TE:=fun σ H Q=>tk σ H fun y H1=>DL y fun x=>jF (tab.lookup x) fun sp=>t σ H1 fun vs H2=>sp vs H2 Q E0
theorem Pr{p pos':Pos}{d:Addr}{ke e:Expr}{tk:TE}{t:TA}{k:Nat}{tab:List (Str×Sp)}(hg:Gl X x)(hm:X.mg x=some (.ref d))(M:Tr X.w.params X.K d)(hk:PE X ke tk)(hs:NH ke)
    (F:∀ y sp,tab.lookup y=some sp->∃ f fd ps,PySem.W.nsIn X.K d y=some (some (.ref f))/\gM X.prog X.w X.K X.mg X.base Yj k f fd ps sp/\PySem.W.keepIn X.K (.ref f)=true/\Binds X.K fd ps [])
    (hr:Room k X.A) (ha:PA X (e::es) t) (hd:(x==("__debug__":Str))=false:=by decide) (he:starEach (e::es) X.env=(false,eval e X.env)::starEach es X.env:=by rfl) (X0:(backTo pos (starEach es X.env)).any (·.1)=false:=by rfl)
    (hc:eval (.Call (.Subscript (.Name x p) ke pos') (e::es) [] pos) X.env=(do
      let f <- eval (.Subscript (.Name x p) ke pos') X.env
      callWith pos f [] (backTo pos (starEach (e::es) X.env)) (backToKw pos (keywordEach [] X.env))):=by rfl) :
    PE X (.Call (.Subscript (.Name x p) ke pos') (e::es) [] pos) (QJ tab tk t):=fun Xs s σ H Q I h=>by
  obtain⟨es',n',lk,kl⟩:=M.ex;refine PyProof.Rows.Call_ (Ie (T:="dict") PySem.F.slot_dict_getitem.lookup hs (thn (rW (v:=.ref d) hg hm rfl hd Xs s σ H (fun v H'=>v=.ref d/\tk σ H' _) I ⟨rfl,h⟩) fun o s1 ⟨v,H1,I1,r1,ev,q1⟩=>?_)) hc;subst ev;obtain rfl:o=Value.ref d:=r1;refine thn (hk Xs s1 σ H1 _ I1 q1) fun i s2 ⟨y,H2,I2,ry,q2⟩=>?_;obtain⟨z,rfl,q3⟩:=Mt q2;obtain⟨sp,el,q4⟩:=dJ q3;obtain⟨f,fd,ps,Zq,hf,hkp,hb⟩:=F z sp el;obtain⟨t',rfl⟩:=ry;obtain⟨m,fr⟩:=I2.fr;refine⟨⟨_,I2.kIn _ _ lk,rfl⟩,PySem.W.topGetDict_K fr I2.mod.kin lk kl Zq ?_⟩;refine PySem.W.callWith_K (h₀:=X.base) I2.mod.kin hkp (thn (ha pos Xs _ σ H2 _ (I2.tok _) q4) fun us s3 ⟨vs,H3,I3,r3,q5⟩=>⟨I3.kIn,?_⟩) he X0;exact Ct (E:=E0) hf hr hb .nil pass0 I3 r3 (by simpa using q5)
section
variable{tab:List (Str×Sp)}{tk to ti te:TE}{t:TA}{Q:VK}{D:Ends}{p:Addr}{i j:Int}{Y3:V->V->Hp->VK->Prop}{tip:TIp}{Y5:TSet}
mutual
example:=[]
def Rv:QJ tab tk t σ H Q=tk σ H fun y H1=>DL y fun x=>jF (tab.lookup x) fun sp=>t σ H1 fun vs H2=>sp vs H2 Q E0:=rfl
def RK:Qo (.ref p) (.int i) H Q=eR (H p) fun xs=>jF (hE xs i) fun v=>Q v H:=rfl
def Ur:TC (.int i) (.int j) H Q=Q (.int (i+j)) H:=rfl
def Ro:QH to ti te Y3 tip Y5 D σ H=to σ H fun o H1=>ti σ H1 fun i H2=>Y3 o i H2 fun x H3=>te σ H3 fun y H4=>tip x y H4 fun z H5=>Y5 o i z H5 fun H6=>D.nx σ H6:=rfl
def Ug{i:Nat}{ti:TIp}:VC i te ti D σ H = ∃ x,σ[i]?=some (some x)/\te σ H fun y H1=>ti x y H1 fun z H2=>D.nx (σ.set i (some z)) H2:=rfl
end
end
mutual
example:=[]
def intKeys:List (Key×V)->Option (List Int)
 | []=>some []
 | (.inl i,_)::r=>(intKeys r).map (i::·)
 | _=>none
theorem yB:∀ {kvs:List (Key×V)} {ns:List Int},intKeys kvs=some ns->kvs.length=ns.length/\∀(j:Nat) (k:Key) (x:V),kvs[j]?=some (k,x)->∃ i:Int,k=.inl i/\ns[j]?=some i
 | [],ns,h=>by cases h;exact⟨rfl,fun j k x e=>by simp at e⟩
 | (k,v)::kvs,ns,h=>by
  cases k with
  | inl i =>
   simp only[intKeys,Ϝ] at h;obtain⟨ms,e,rfl⟩:=h;obtain⟨l,f⟩:=yB e;refine⟨by simp[l],fun j k x ej=>?_⟩;cases j with
   | zero=>simp only[Ξ,Ρ,Prod.mk.injEq] at ej;exact⟨i,ej.1.symm,rfl⟩
   | succ j=>exact f j k x (by simpa using ej)
  | _=>cases h
def Hj:∀ {vs:List Value},vs.length=ns.length->(∀(j:Nat) (v:Value),vs[j]?=some v->∃ i t,ns[j]?=some i/\v=Value.int i t)->IntsAre vs ns:=by
 induction ns with
 | nil =>
  intro vs hl _;cases vs with
  | nil=>exact .nil
  | cons _ _=>simp at hl
 | cons n ns ih =>
  intro vs hl h;cases vs with
  | nil=>simp at hl
  | cons v vs =>
   obtain⟨i,t,e,rfl⟩:=h 0 v rfl;cases e;exact .cons _ _ (ih (by simpa using hl) fun j v e=>h (j+1) v (by simpa using e))
def eB.there{o:HO}(x:eB P w H h a o):∃ ob,h.get? a=some ob:=by
 cases o with
 | lst xs=>obtain⟨_,_,_,_,e⟩:=x;exact⟨_,e⟩
 | tup xs=>obtain⟨_,_,_,o,e,_⟩:=x;exact⟨_,e⟩
 | dK kvs=>obtain⟨_,_,_,_,o,_,_,e,_⟩:=x;exact⟨_,e⟩
 | dT kvs=>obtain⟨_,_,_,_,o,_,_,e,_⟩:=x;exact⟨_,e⟩
 | set S n=>obtain⟨o,_,_,_,e,_⟩:=x;exact⟨_,e⟩
 | ins C dx fs=>obtain⟨_,_,_,e,_⟩:=x;exact⟨_,e⟩
 | own y=>obtain⟨_,e⟩:=x;exact⟨_,e⟩
 | xd fs=>obtain⟨_,⟨_,_,_,e,_⟩,_⟩:=x;exact⟨_,e⟩
 | rng lo hi=>obtain⟨_,_,_,e⟩:=x;exact⟨_,e⟩
 | XZ ob u=>obtain⟨e,_⟩:=x;exact⟨_,e⟩
 | tbl ps=>exact⟨_,(show h.get? a=some _ from x)⟩
 | met f y=>exact⟨_,(show h.get? a=some _ from x)⟩
 | ext φ=>obtain⟨_,⟨_,e⟩,_⟩:=x;exact⟨_,e⟩
end
section
variable{Q:VK}{p:Addr}
end
section
variable{h':Heap}
end
noncomputable def SOk(t:Bool)(h:Heap)(a:Addr)(us:Array Value):Prop:=match t with
 | true=>h.IsTuple a us
 | false=>h.IsList a us
section
variable{prog:Program}
end
section
variable{prog:Program}
end
section
variable{t:Bool}
end
section
variable{elts:List Expr}{k:Nat}{tp:Pos}
end
section
variable{D:Ends}{g:TG}{tb:TS}{as:TA}
end
structure lK(X:Cx)(sc:Scope)(cl:List (Str×Addr))(x y0:Str)(fr:List Nat)(N:List Str):Prop where
 kind:sc.kind=.function
 yQ:∀ y∈sc.names,y.2≠.cell
 names:∀ y∈sc.names,y.2=.local->sc.names.lookup y.1=some .local
 C1:closureFor sc X.env=pure cl
 sub:∀ y c,cl.lookup y=some c->X.env.cells.lookup y=some c
 has:∀ y,((relabel sc X.env).names.lookup y=some .cell\/(relabel sc X.env).names.lookup y=some .free)->∃ c,cl.lookup y=some c
 tgt:sc.names.lookup x=some .local
 Ti:sc.names.lookup y0=some .local
 nd:N.Nodup
 N0:N=x::y0::fr.map fun j=>X.N.getD j x
 frc:∀ j∈fr,∃ y,X.N[j]?=some y/\X.env.kindOf y=some .cell/\((relabel sc X.env).names.lookup y=some .cell\/(relabel sc X.env).names.lookup y=some .free)
section
variable{sc:Scope}{C:Addr}{y0:Str}{N:List Str}
def KU(I:Xv X Xs σ H s)(S:lK X sc cl x y0 fr N)(hf:∀ b∈fp,mT X Xs H b)(YX:∀ b∈fp,b < s.heap.objs.size)(hC:s.heap.objs.size<=C) : (bY X sc cl C N s H fp (X.pn++Xs)).Ok where
 mod:=I.ok.mod
 kind:=S.kind
 glob:=I.ok.glob
 blt:=I.ok.blt
 above:=hC
 inj:=fun n z c h1 h2=>I.ok.inj n z c (S.sub n c h1) (S.sub z c h2)
 has:=S.has
 cab:=fun _ _ h=>by cases h
 hd:=I.ok.hd
 frames:=I.ok.frames
 stk:=.inl rfl
 exf:=fun b hb=>⟨Ο (Φ (YX b hb) hC),fun n c e=>(hf b hb).2.2.2.2.1 n c (S.sub n c e)⟩
 bs:=I.bs
 bsz:=Ω I.ok.bsz I.sz
 DB:=fun b o e hb=>by
  rcases(hf b hb).2.2.2.1 with z|z
  ·exact I.ok.DB b o e z
  ·exact absurd (Φ (Λ e) (Ω I.ok.bsz z)) (Ϛ _)
 IX:=fun b hb hm=>by
  rcases Α.mp (I.qK b hm) with z|z
  ·exact(hf b hb).2.1 z
  ·exact(hf b hb).2.2.1 z
 rA:=I.stack
 frf:=I.CB
def ID(I:Xv X Xs σ H s)(S:lK X sc cl x y0 fr N)(hf:∀ b∈fp,mT X Xs H b)(YX:∀ b∈fp,b < s.heap.objs.size)(hC:s.heap.objs.size<=C){h1:Heap}{t1:Nat}{m0:q0C}(hn:h1.Ns C m0)(hk:∀ b o,s.heap.get? b=some o->h1.get? b=some o):Xv (bY X sc cl C N s H fp (X.pn++Xs)) [] (none::none::aX fr σ) H {s with heap:=h1,toks:=t1}:=by
 refine⟨KU I S hf YX hC,rfl,I.bare,Un.kept hk,⟨m0,hn,fun i y v e1 e2 e3=>?_⟩,fun y c e=>?_,I.Xz.fresh hC,fun y c e=>I.kY y c (S.sub y c e),fun p hp=>?_,I.Xz.kept hk,?_⟩
 ·have Yw:N[i]?=some y:=e1;rw[S.N0] at Yw
  match i,Yw,e2 with
  | 0,_,e2=>exact absurd (show(some (none:Option V))=some (some v) from e2) (by simp)
  | 1,_,e2=>exact absurd (show(some (none:Option V))=some (some v) from e2) (by simp)
  | j+2,Yw,e2 =>
   have Ye:(fr.map fun j=>X.N.getD j x)[j]?=some y:=Yw;have Zi:(aX fr σ)[j]?=some (some v):=e2;unfold aX at Zi;rw[ϕ] at Ye Zi;cases q:fr[j]? with
   | none=>rw[q] at Ye;cases Ye
   | some k =>
    rw[q] at Ye Zi;have ey:X.N.getD k x=y:=ϗ Ye;have ev:(σ[k]?).join=some v:=ϗ Zi;obtain⟨y',hy,Yg,Z9⟩:=S.frc k (ϒ q);have eyy:y=y':=by
     rw[<- ey,Ε4,hy];rfl
    subst eyy;have ev':σ[k]?=some (some v):=by
     cases z:σ[k]? with
     | none=>rw[z] at ev;cases ev
     | some o =>
      rw[z] at ev;have ev2:o=some v:=ev;rw[ev2]
    obtain⟨m,_,hl⟩:=I.loc;obtain⟨u,r,l⟩:=hl k y v hy ev' (.inr (.inl Yg));refine⟨u,r,.inr ⟨Z9,?_⟩⟩;rcases l with⟨z,_⟩|⟨_,c,hc,o,ho,hd⟩
    ·rw[Yg] at z;cases z
    ·obtain⟨c',ZX⟩:=S.has y Z9;have z:=S.sub y c' ZX;rw[hc] at z;cases z;exact⟨c,ZX,o,hk c o ho,hd⟩
 ·obtain⟨v,o,ho,hd⟩:=I.cell y c (S.sub y c e);exact⟨v,o,hk c o ho,hd⟩
 ·have hp':p∈X.pn++Xs:=by
   have z:p∈(X.pn++Xs)++[]:=hp;simpa using z
  obtain⟨e,n,ne,nf,d⟩:=I.pin p hp';exact⟨hk _ _ e,n,Ο (Φ (Λ e) hC),nostk I ne nf,d⟩
 ·show(none::none::aX fr σ).length=N.length;rw[S.N0];simp[aX]
end
@[irreducible] def Af(K:q0B)(wi:TI)(fr:List Nat)(tc:TT)(te:TE):TE:=fun σ H Q=>wi σ H fun J H1=>∃ W:Nat->Nat->List V->Hp->Prop,(∃ m,W 0 m [] H1)/\∀ i m xs H,W i m xs H->xs.length<=1000000 /\
  ((J.stop i H/\∀ p,H p=none->Q (.ref p) (Xt H p (.lst xs))) \/
   (J.go i H/\∀ v H',J.Ze i H v H'->∃ p y y2,v=.ref p/\jC K H' p [y,y2]/\tc (some y::some y2::aX fr σ) H' fun b H2=>if b=true then te (some y::some y2::aX fr σ) H2 (fun z H3=>∃ m',m' < m/\W (i+1) m' (xs++[z]) H3) else ∃ m',m' < m/\W (i+1) m' xs H2))
section
variable{sc:Scope}{y0:Str}{N:List Str}{elt iter:Expr}{px py tp:Pos}{tk:Nat}{ifs:List Expr}{wi:TI}{tc:TT}{te:TE}
theorem C3(hc:X.calm=true)(hx:∀ e s,¬ X.xe e s)(S:lK X sc cl x y0 fr N)(hb:∀ C s H ex pn,PTs (bY X sc cl C N s H ex pn) ifs tc/\PE (bY X sc cl C N s H ex pn) elt te){J:It}{Q:VK}(I:Xv X Xs σ H s)(T:Turn X.prog X.w X.K (.Tuple [.Name x px,.Name y0 py] tk tp) J fp it tn)(st:tn 0 s.heap)(hf:∀ b∈fp,mT X Xs H b){m0:Nat}(w0:W 0 m0 [] H)(turn:∀ i m xs H,W i m xs H->xs.length<=1000000 /\ ((J.stop i H/\∀ p,H p=none->Q (.ref p) (Xt H p (.lst xs))) \/ (J.go i H/\∀ v H',J.Ze i H v H'->∃ p y y2,v=.ref p/\jC X.K H' p [y,y2]/\tc (some y::some y2::aX fr σ) H' fun b H2=>if b=true then te (some y::some y2::aX fr σ) H2 (fun z H3=>∃ m',m' < m/\W (i+1) m' (xs++[z]) H3) else ∃ m',m' < m/\W (i+1) m' xs H2)))(fin:∀(D C:Addr) (s':Shared) (m':q0C) (H':Hp),s'.heap.Ns C m'->mT X Xs H' C->(∀ h',Heap.SameBut C s'.heap h'->Xv X Xs σ H' {s' with heap:=h'})->Q (.ref D) H'->RR (.ref D) C (.ok .next) s') : wpAny (model X.prog X.w) X.A (newList []) (fun acc s₃=>wpAny (model X.prog X.w) X.A (newFunctionEnv sc X.env.globals cl [] X.env.qual none .none (some X.env)) (fun ZM s₄ => codeAny (model X.prog X.w) X.A (.compStart (.ListComp elt [⟨.Tuple [.Name x px,.Name y0 py] tk tp,iter,ifs,0⟩] sc pos) 0 (.ref it) acc {ZM with scope:=relabel sc X.env}) (RR acc ZM.locals) s₄) E s₃) E s:=by
  refine Β5 (wpAny_newFunctionEnv S.yQ (by intro y hy;simp at hy) (fun h₁ YY Yy=>?_) S.kind);dsimp only at YY Yy ⊢;generalize hH2:s.heap.push {cls:=.type "list",dict:=none,data:=.seq ([]:List Value).toArray}=G2 at YY Yy ⊢;have hCs:G2.objs.size=s.heap.objs.size+1:=by rw[<- hH2,Heap.size_push]
  have Zn:s.heap.objs.size≠G2.objs.size:=by rw[hCs];exact Ο (Nat.lt_succ_self _)
  have hC:s.heap.objs.size<=G2.objs.size:=by rw[hCs];exact Δ4 _
  have below:∀ b,b < s.heap.objs.size->b≠G2.objs.size:=fun b hb=>by rw[hCs];exact Ο (Nat.lt_succ_of_lt hb)
  have old:∀ b o,s.heap.get? b=some o->h₁.get? b=some o:=fun b o e=>Yy.extBut b o (below b (Λ e)) (Ε _ (hH2▸Ε _ e));have hD1:h₁.get? s.heap.objs.size=some {cls:=.type "list",data:=.seq ([]:List Value).toArray 0}:=Yy.extBut _ _ Zn (Ε _ (hH2▸Τ _ rfl));have YX:∀ b∈fp,b < s.heap.objs.size:=fun b hbm=>by
    obtain⟨o,e,_⟩:=T.obj 0 s.heap st b hbm;exact Λ e
  have Y7:H s.heap.objs.size=none:=I.Xz.fresh (Ι _);have aaM:s.heap.objs.size∉frs X.stack:=fun hm=>by
    rcases Α.mp (I.qK _ hm) with z|z
    · exact absurd I.lt (by rw[<- z];exact Ϛ _)
    · exact I.SJ (Ι _) z
  have ZJ:∀ y c,cl.lookup y=some c->c≠s.heap.objs.size:=fun y c e z=>by
    obtain⟨v,q⟩:=I.cell y c (S.sub y c e);exact absurd q.lt (by rw[z];exact Ϛ _)
  have aaL:∀ p∈X.pn++Xs,p.1≠s.heap.objs.size:=fun p hp z=>absurd (Λ (I.pin p hp).1) (by rw[z];exact Ϛ _);have Dfp:s.heap.objs.size∉fp:=fun hm=>Ϛ _ (YX _ hm);have loop:∀ s₃:Shared,s₃={s with heap:=h₁,toks:=s.toks+([]:List (Str×Value)).length} ->
      codeAny (model X.prog X.w) X.A (.compLoop (.ListComp elt [⟨.Tuple [.Name x px,.Name y0 py] tk tp,iter,ifs,0⟩] sc pos) 0 (.ref it) (.ref s.heap.objs.size) (compEnvC sc cl G2.objs.size X.env)) (RR (.ref s.heap.objs.size) G2.objs.size) s₃:=by
    rintro s₃ rfl;have I0:Xv (bY X sc cl G2.objs.size N s H fp (X.pn++Xs)) [] (none::none::aX fr σ) H {s with heap:=h₁,toks:=s.toks+([]:List (Str×Value)).length}:=ID I S hf YX hC YY old;refine uA (fun n s'=>∃(i:Nat) (xs:List V) (vals:List Value) (k:Nat) (v0 v1:Option V) (H':Hp),Xv (bY X sc cl G2.objs.size N s H fp (X.pn++Xs)) [] (v0::v1::aX fr σ) H' s'/\tn i s'.heap/\(∀ b∈fp,H' b=none) /\
      s'.heap.get? s.heap.objs.size=some {cls:=.type "list",data:=.seq vals.toArray k}/\Xx xs vals/\H' s.heap.objs.size=none/\W i n xs H') ?_ m0
      ⟨0,[],[],0,none,none,H,I0,T.keep _ _ _ st fun b _ o e=>old b o e,fun b hb=>(hf b hb).1,hD1,.nil,Y7,w0⟩
    rintro n s1 ⟨i,xs,vals,k,v0,v1,H1,I1,st1,fr1,hg1,rv1,aaP,w1⟩;have hlen:=rv1.length;obtain⟨hz,step⟩:=turn i n xs H1 w1;have hz2:xs.length<=sizeLine:=Ω hz (by decide);have Yi:∀ {H':Hp} {pl:List (Addr×Obj)},(∀ b∈fp,H' b=none)->(∀ p∈pl,p.1=s.heap.objs.size)->∀ b∈fp,mT (bY X sc cl G2.objs.size N s H fp (X.pn++Xs)) pl H' b:=fun {H' pl} hn X0 b hb =>
      ⟨hn b hb,below b (YX b hb),nostk I (hf b hb).2.1 (hf b hb).2.2.1,.inl hb,fun y c e=>(hf b hb).2.2.2.2.1 y c (S.sub y c e),fun p hp z=>by
        rcases Κ.mp hp with q|q
        · exact(hf b hb).2.2.2.2.2 p q z
        · exact Dfp (by rw[<- X0 p q,z];exact hb)⟩
    have I1':Xv (bY X sc cl G2.objs.size N s H fp (X.pn++Xs)) [(s.heap.objs.size,{cls:=.type "list",data:=.seq vals.toArray k})] (v0::v1::aX fr σ) H1 s1:=I1.kI fun p hp=>by
      have e:p=(s.heap.objs.size,{cls:=.type "list",data:=.seq vals.toArray k}):=by simpa using hp
      subst e;exact⟨hg1,aaP,Zn,aaM,fun v z=>by cases z⟩
    rcases step with⟨stop,hq⟩|⟨go,step⟩
    · refine thn (T.done (bY X sc cl G2.objs.size N s H fp (X.pn++Xs)) rfl rfl rfl hc i [(s.heap.objs.size,{cls:=.type "list",data:=.seq vals.toArray k})] s1 _ H1 _ I1' (Yi fr1 fun p hp=>by
        have e:p=(s.heap.objs.size,{cls:=.type "list",data:=.seq vals.toArray k}):=by simpa using hp
        rw[e]) st1 stop) fun r s2 ⟨hr,I2⟩=>?_
      subst hr;obtain⟨g2,n2,_⟩:=I2.pin (s.heap.objs.size,{cls:=.type "list",data:=.seq vals.toArray k}) (ϐ _ (by simp));obtain⟨m2,hn2,_⟩:=I2.loc;have hCn:Xt H1 s.heap.objs.size (.lst xs) G2.objs.size=none:=by
        rw[aC (Ne.symm Zn)];exact I2.free
      exact fin s.heap.objs.size G2.objs.size s2 m2 _ hn2 (I.Ja hC hCn) (fun h' YS=>C4 I hf I2 hC (Ι _) Zn n2 g2 rv1 hz2 YS) (hq _ n2)
    · refine thn (T.item (bY X sc cl G2.objs.size N s H fp (X.pn++Xs)) rfl rfl rfl hc i [(s.heap.objs.size,{cls:=.type "list",data:=.seq vals.toArray k})] s1 _ H1 _ I1' (Yi fr1 fun p hp=>by
        have e:p=(s.heap.objs.size,{cls:=.type "list",data:=.seq vals.toArray k}):=by simpa using hp
        rw[e]) st1 go) fun r s2 ⟨u,hr,h2⟩=>?_
      subst hr;refine thn h2 fun _ s3 ⟨vv,H3,I3,r3,y3,st3,fr3⟩=>?_;have I3':=I3.pinned (Yi fr3 fun p hp=>by
        have e:p=(s.heap.objs.size,{cls:=.type "list",data:=.seq vals.toArray k}):=by simpa using hp
        rw[e]) (T.obj _ _ st3)
      have back:∀ {σ9:St} {H9:Hp} {s9:Shared},Xv (bY X sc cl G2.objs.size N s H fp (X.pn++Xs)) ([(s.heap.objs.size,{cls:=.type "list",data:=.seq vals.toArray k})]++tY fp s3.heap) σ9 H9 s9 ->
          tn (i+1) s9.heap/\(∀ b∈fp,H9 b=none)/\s9.heap.get? s.heap.objs.size=some {cls:=.type "list",data:=.seq vals.toArray k}/\H9 s.heap.objs.size=none:=fun {σ9 H9 s9} I9=>by
        refine⟨T.keep _ _ _ st3 fun b hb o e=>(I9.pin (b,o) (ϐ _ (ϐ _ (iO hb e)))).1,fun b hb=>?_,?_⟩
        · obtain⟨o,e,d⟩:=T.obj _ _ st3 b hb;exact(I9.pin (b,o) (ϐ _ (ϐ _ (iO hb e)))).2.1
        · obtain⟨a1,a2,_⟩:=I9.pin (s.heap.objs.size,{cls:=.type "list",data:=.seq vals.toArray k}) (ϐ _ (List.mem_append_left _ (by simp)));exact⟨a1,a2⟩
      have hN0:(bY X sc cl G2.objs.size N s H fp (X.pn++Xs)).N[0]?=some x:=by
        show N[0]?=some x;rw[S.N0];rfl
      have hN1:(bY X sc cl G2.objs.size N s H fp (X.pn++Xs)).N[1]?=some y0:=by
        show N[1]?=some y0;rw[S.N0];rfl
      have Z3:(relabel sc X.env).names.lookup x=some .local:=lookup_relabel_local S.tgt;have aaG:(relabel sc X.env).names.lookup y0=some .local:=lookup_relabel_local S.Ti;have hpg:PG (bY X sc cl G2.objs.size N s H fp (X.pn++Xs)) (.Tuple [.Name x px,.Name y0 py] tk tp) (OW X.K 2 (Hf (kD 0) (Hf (kD 1) OV))):=MJ hc (fQ (vU (i:=0) S.nd hN0 (.inl Z3) (.inr Z3)) (fQ (vU (i:=1) S.nd hN1 (.inl aaG) (.inr aaG)) vV));have noX:∀ e s',(bY X sc cl G2.objs.size N s H fp (X.pn++Xs)).xe e s'->uI X.prog X.w X.A (compEnvC sc cl G2.objs.size X.env) (RR (.ref s.heap.objs.size) G2.objs.size) e s':=fun e s' z=>(hx e s' z).elim;obtain⟨pp,y,y2,rfl,hpp,Z8⟩:=step vv H3 y3;refine Α8 (hpg _ s3 _ H3 (.ref pp) u (fun σ' H'=>σ'=some y::some y2::aX fr σ/\H'=H3) I3' r3 ⟨pp,[y,y2],rfl,hpp,rfl,_,_,rfl,_,_,rfl,rfl,rfl,rfl⟩) (fun _ s4 ⟨σ4,H4,I4,e4,e4'⟩=>?_) noX;subst e4 e4';obtain⟨hbT,hbE⟩:=hb G2.objs.size s H fp (X.pn++Xs);refine Α8 (hbT _ s4 _ H4 _ I4 Z8) (fun ok s5 ⟨H5,I5,q5⟩=>?_) noX;cases ok with
      | false =>
        rw[if_neg Χ];have q5':∃ m',m' < n/\W (i+1) m' xs H5:=q5;obtain⟨m',hm,w5⟩:=q5';obtain⟨b1,b2,b3,b4⟩:=back I5;exact⟨m',hm,i+1,xs,vals,k,some y,some y2,H5,I5.kI (fun p hp=>absurd hp (by simp)),b1,b2,b3,rv1,b4,w5⟩
      | true =>
        rw[if_pos rfl];refine Α8 (hbE _ s5 _ H5 _ I5 q5) (fun z s6 ⟨v6,H6,I6,r6,q6⟩=>?_) noX;obtain⟨m',hm,w6⟩:=q6;obtain⟨b1,b2,b3,b4⟩:=back I6;refine call_meets F.slot_list_append ⟨_,b3,rfl⟩ F.entry_list_append (F.args_list_append_2 _ _) (PySem.list_append s.heap.objs.size vals.toArray k z (by rw[Ζ];omega)) ⟨b3,?_⟩;have q7:=PySem.IsL.update b3 (fun a:Array Value=>a.push z);have Z6:vals.toArray.push z=(vals++[z]).toArray:=by simp
        rw[Z6] at q7;have I6':Xv (bY X sc cl G2.objs.size N s H fp (X.pn++Xs)) [] (some y::some y2::aX fr σ) H6 s6:=I6.kI (fun p hp=>absurd hp (by simp));have others:∀ b o,b≠s.heap.objs.size->s6.heap.get? b=some o->(s6.heap.update s.heap.objs.size (Obj.mapSeq fun a=>a.push z)).get? b=some o:=fun b o XX e=>(Heap.get?_update_other _ _ (Ne.symm XX)).trans e;refine⟨m',hm,i+1,xs++[v6],vals++[z],_,some y,some y2,H6,I6'.turned (it:=s.heap.objs.size) others b4 Zn (.inr (Ι _)) ZJ (fun p hp z'=>?_),T.keep _ _ _ b1 fun b XX o e=>others b o (fun z'=>Dfp (by rw[<- z'];exact XX)) e,b2,q7,rv1.append (.cons r6 .nil),b4,w6⟩;have hp':p∈X.pn++Xs:=by
          have z2:p∈(X.pn++Xs)++[]:=hp;simpa using z2
        exact aaL p hp' z'
  exact codeAny_compStart_list (loop _ rfl) (T.self _ _ _ _ _ (T.keep _ _ _ st fun b _ o e=>old b o e) (loop _ rfl))
end
def lK.of{sc:Scope}{y0:Str}{N M:List Str}(S:fD X sc cl x fr M)(Ti:sc.names.lookup y0=some .local)(nd:N.Nodup)(N0:N=x::y0::fr.map fun j=>X.N.getD j x):lK X sc cl x y0 fr N :=
 ⟨S.kind,S.yQ,S.names,S.C1,S.sub,S.has,S.tgt,Ti,nd,N0,S.frc⟩
noncomputable def lc2(K:q0B)(J:It)(fr:List Nat)(tc:TT)(te:TE)(σ:St)(H:Hp)(Q:VK):Prop:=∃ W:Nat->Nat->List V->Hp->Prop,(∃ m,W 0 m [] H)/\∀ i m xs H,W i m xs H->xs.length<=1000000 /\
  ((J.stop i H/\∀ p,H p=none->Q (.ref p) (Xt H p (.lst xs))) \/
   (J.go i H/\∀ v H',J.Ze i H v H'->∃ p y y2,v=.ref p/\jC K H' p [y,y2]/\tc (some y::some y2::aX fr σ) H' fun b H2=>if b=true then te (some y::some y2::aX fr σ) H2 (fun z H3=>∃ m',m' < m/\W (i+1) m' (xs++[z]) H3) else ∃ m',m' < m/\W (i+1) m' xs H2))
section
variable{tc:TT}{te:TE}{Q:VK}{as:TA}
end
section
variable{o:Expr}{to:TE}{apos XB:Pos}
end
section
variable{Q:VK}{p:Addr}{to:TE}
end
section
variable{Q:VK}{p b:Addr}
end
section
variable{sc:Scope}{y0:Str}{N:List Str}{elt iter:Expr}{px px0 tp:Pos}{tk:Nat}{ifs:List Expr}{wi:TI}{tc:TT}{te:TE}
theorem DW{py aaA:Pos}(hc:X.calm=true)(hx:∀ e s,¬ X.xe e s)(S:lK X sc cl x y0 fr N)(hi:PI X (.Tuple [.Name x px,.Name y0 px0] tk tp) iter wi)(hb:∀ C s H ex pn,PTs (bY X sc cl C N s H ex pn) ifs tc/\PE (bY X sc cl C N s H ex pn) elt te)(hN:X.N.Nodup)(hy:X.N[i]?=some y)(hl:Loc X.env.scope y)(hsw:swapsWith (.ListComp elt [⟨.Tuple [.Name x px,.Name y0 px0] tk tp,iter,ifs,0⟩] sc pos) (some (.Name y py)) aaA.line X.env=pure true:=by rfl)(hs:∀ v,foldedSetIterable iter X.env v=pure v:=by intro _;rfl)(hf:X.fn y=true\/X.env.scope.names.lookup y=some .local:=by first|exact .inl rfl|exact .inr rfl|assumption) : PS X (.Assign [.Name y py] (.ListComp elt [⟨.Tuple [.Name x px,.Name y0 px0] tk tp,iter,ifs,0⟩] sc pos) aaA) (JU (Af X.K wi fr tc te) (kD i)):=by
 intro Xs s σ H D I h;have h:Af X.K wi fr tc te σ H (fun x H1=>kD i x σ H1 D.nx):=h;unfold Af at h;rw[exec_Assign_Name_used _ _ _ _ hsw];refine Β (wpAny_standAt (Β ?_));show wpAny _ X.A (do let _ <- comprehension (.ListComp elt [⟨.Tuple [.Name x px,.Name y0 px0] tk tp,iter,ifs,0⟩] sc pos) sc X.env _ (newList []) false (eval iter X.env) (some (assign (.Name y py) X.env))) _ _ s;refine Β (Α8 (wpAny_comprehension_free (use:=some (assign (.Name y py) X.env)) (Q:=fun _ s'=>SP X Xs D .next s') rfl hs S.C1 S.kind S.names
  (thn (hi Xs s σ H _ I h) fun v s1 h1=>thn h1 fun itv s2 h2=>?_)) (fun _ s' hq=>Θ (Θ hq)) fun _ _ e=>e)
 obtain⟨it,fp,tn,J,H2,e,I2,T,Y2,f2,W,⟨m0,w0⟩,turn⟩:=h2;subst e;refine C3 (Q:=fun x H1=>kD i x σ H1 D.nx) (RR:=fun acc C=>compPost (model X.prog X.w) X.A X.xe (some (assign (.Name y py) X.env)) (fun _ s'=>SP X Xs D .next s') acc C) hc hx S hb I2 T Y2 f2 w0 turn ?_;intro D' C s' m' H' hn fC Z1 q;show wpAny _ X.A (assign (.Name y py) X.env (.ref D')) _ _ _;have I':Xv X Xs σ H' s':=Z1 s'.heap (Heap.SameBut.refl ..);refine wpAny_assign_Name (t9 (v:=.ref D') I' hN hy hl rfl (fun s'' I'' ⟨a,hsa,ha⟩=>?_) hf);obtain⟨f0,f1,f2',f3,f4,f5⟩:=fC;have hCa:C≠a:=fun z=>by
  rcases ha with ha|ha
  ·exact f1 (z.trans ha)
  ·exact f4 y a ha z.symm
 refine⟨m',hn.sameBut hsa hCa,fun h' YS=>?_⟩;exact⟨σ.set i (some (.ref D')),H',I''.turned (t':=s''.toks) (fun b o XX e=>(YS.2 b XX).trans e) f0 f1 f3 f4 f5,q⟩
end
section
variable{a b:TS}{D:Ends}
def bQ(h:∀ R:St->Hp->Prop,(∀ σ' H',b D σ' H'->R σ' H')->a {D with nx:=R} σ H):Gm a b D σ H:=h (b D) fun _ _ x=>x
end
section
variable{td ty tv:TE}{Y4:List (TE×TE)}{tk:TE}{Q:VK}{D:Ends}
def Ly:qL [] σ H R=R [] H:=rfl
def OL:qL ((tk,tv)::Y4) σ H R=tk σ H fun x H1=>tv σ H1 fun y H2=>qL Y4 σ H2 fun ps H3=>R ((x,y)::ps) H3:=rfl
end
section
variable{W:World}{dd:Addr}{es:Array DictEntry}{ep:Nat}
end
section
open PySem.W
variable{p:Array Nat}
end
section
open PySem.W
variable{W:World}
end
def KT.at{kvs:List (List Key×V)}{xs:List (List Key×Addr×Value)}(r:KT H kvs xs):∀ {j:Nat} {x:List Key×Addr×Value},xs[j]?=some x->∃ kv,kvs[j]?=some kv/\H x.2.1=some (.tup (kv.1.map kV)):=by
 induction r with
 | nil=>intro j x e;simp at e
 | cons h _ ih =>
  intro j x e;cases j with
  | zero=>simp only[Ξ,Ρ] at e;subst e;exact⟨_,rfl,h.2.1⟩
  | succ j=>exact ih (by simpa using e)
section
variable{W:World}{b:Addr}{es fs:Array DictEntry}{ep fp:Nat}
end
section
variable{tg:Expr}
end
section
variable{D:Ends}{g:TG}{tb:TS}{as:TA}{Q:VK}{b:Addr}{p:Addr}
def Rx{Y4:List (TE×TE)}:QK Y4 σ H Q = ∀ p,H p=none->qL Y4 σ (Xt H p (.dK [])) fun ps H2=>H2 p=some (.dK [])/\∃ kvs:List (Key×V),ps=kvs.map (fun kv=>(kV kv.1,kv.2))/\kvs.length<=15/\Q (.ref p) (Xt H2 p (.dK (eW [] kvs))):=rfl
end
section
variable{Q:VK}{x:V}{p:Addr}{i:Int}{z:Str}
end
def VG(ta tb:TE):TE:=fun σ H Q=>ta σ H fun x H1=>jF (Ah H1 x) fun c=>if c=true then Q x H1 else tb σ H1 Q
section
variable{a b:Expr}{rest:List Expr}{ta tb:TE}
def SY(ha:PE X a ta)(hb:PE X (.BoolOp .Or (b::rest) pos) tb):PE X (.BoolOp .Or (a::b::rest) pos) (VG ta tb):=by
 intro Xs s σ H Q I h;refine BoolOp_or (thn (ha Xs s σ H _ I h) fun v s1 ⟨x,H1,I1,r1,q1⟩=>?_);obtain⟨k,e,q⟩:=dJ q1;refine thn (Gp Xs s1 σ H1 x v (fun c H2=>c=k/\H2=H1) I1 r1 ⟨k,CD e,rfl,rfl⟩) fun c s2 ⟨H2,I2,e1,e2⟩=>?_;subst e1 e2;cases c with
 | true=>exact⟨x,_,I2,r1,q⟩
 | false=>exact hb Xs s2 σ _ Q I2 q
end
mutual
example:=[ns.map V.int]
def Mr(x:V)(k:Int->Prop)(_u:Tg k:=()):Prop:=match x with
 | .Xu=>k 0
 | .int i=>k i
 | _=>False
def VF(ta:TE):TE:=fun σ H Q=>ta σ H fun x H1=>Mr x fun i=>Q (.int i) H1
def Cq{a b:Expr}{rest:List Expr}{ta:TE}(ha:PE X a ta)(hb:PE X (.BoolOp .Or (b::rest) pos) (tC (.int 0))):PE X (.BoolOp .Or (a::b::rest) pos) (VF ta):=by
 intro Xs s σ H Q I h;refine BoolOp_or (thn (ha Xs s σ H _ I h) fun v s1 ⟨x,H1,I1,r1,q1⟩=>?_);have hk:∃ k,Ah H1 x=some k/\(if k=true then Q x H1 else Q (.int 0) H1):=by
  cases x with
  | Xu=>exact⟨false,rfl,q1⟩
  | int i =>
   refine⟨i !=0,rfl,?_⟩;by_cases hi:i=0
   ·subst hi;exact q1
   ·rw[if_pos (by simpa using hi)];exact q1
  | _=>exact q1.elim
 obtain⟨k,e,q⟩:=hk;refine thn (Gp Xs s1 σ H1 x v (fun c H2=>c=k/\H2=H1) I1 r1 ⟨k,CD e,rfl,rfl⟩) fun c s2 ⟨H2,I2,e1,e2⟩=>?_;subst e1 e2;cases c with
 | true=>exact⟨x,_,I2,r1,q⟩
 | false=>exact hb Xs s2 σ _ Q I2 q
def DU(i:Int)(ns:List Int):Option Nat:=ns.findIdx? fun j=>decide (j=i)
def TK:V->List V->Hp->VK->Prop:=fun x vs H Q=>bG x fun l=>on1 vs fun y=>gZ y fun i=>∃ ns:List Int,H l=some (.lst 0e0)/\jF (DU i ns) fun k=>Q .Xu (Xt H l (.lst ((ns.eraseIdx k).map V.int)))
theorem Ak:∀ {ns:List Int} {us:List Value},Xx 0e0 us->∀(j:Nat) (h:j < us.length) (h':j < ns.length),∃ k:Tok,us[j]=.int ns[j] k
 | [],_,.nil,j,h,_=>absurd h (by simp)
 | n::ns,u::us,.cons r t,0,_,_=>r
 | n::ns,u::us,.cons r t,j+1,h,h'=>Ak (ns:=ns) (us:=us) t j (by simpa using h) (by simpa using h')
theorem xN:∀(ns:List Int) (k:Nat),(ns.map V.int).eraseIdx k=(ns.eraseIdx k).map V.int
 | [],_=>rfl
 | _::_,0=>rfl
 | n::ns,k+1=>by simp only[ϔ,List.eraseIdx_cons_succ,xN ns k]
end
section
theorem Mg:Qj X "list.remove" TK:=fun Xs s σ H x vs v us Q I rx rv h=>by
 obtain⟨l,rfl,h1⟩:=aT h;obtain⟨y,rfl,h2⟩:=kM h1;obtain⟨i,rfl,ns,hH,h3⟩:=eK h2;obtain⟨k,ek,q⟩:=dJ h3;cases rx;obtain⟨u,rfl,ru⟩:=rv.one;obtain⟨t,rfl⟩:=ru;obtain⟨z,Xw,n,r,hl,e⟩:=I.Cd hH;have hl':Xw.length=ns.length:=by rw[<- r.length,Γ]
 obtain⟨hk,hk1,hk2⟩:=List.findIdx?_eq_some_iff_getElem.mp ek;have isI:∀(j:Nat) (h:j < Xw.length),∃ tk:Tok,Xw[j]=.int (ns[j]'(by omega)) tk:=fun j h=>Ak r j h (by omega);obtain⟨g,hg⟩:∃ g:Value->Bool,g=fun y=>(match y with | .int a _=>a==i|_=>false):=⟨_,rfl⟩;refine call_meets PySem.F.slot_list_remove ⟨_,e,rfl⟩ PySem.F.entry_list_remove (PySem.F.args_list_remove_2 _ _)
  (MeetsSeq.list_remove l Xw.toArray n (.int i t) g (fun y hy=>?_) k (by simp only[Ζ];omega) ?_ ?_ (by rw[Ζ];omega)) ⟨e,?_⟩
 ·obtain⟨j,hj,rfl⟩:=Array.mem_iff_getElem.mp hy;obtain⟨tk,et⟩:=isI j (by simpa using hj);rw[List.getElem_toArray,et,hg];exact MeetsSeq.EqGives.int _ _ _ _
 ·obtain⟨tk,et⟩:=isI k (by omega);rw[List.getElem_toArray,et,hg];simpa using hk1
 ·intro m hm XW;obtain⟨tk,et⟩:=isI m (by simpa using hm);rw[List.getElem_toArray,et,hg];simpa using hk2 m XW
 ·refine⟨.Xu,_,I.yJ (its':=Xw.eraseIdx k) hH e ?_ ?_ ?_,rfl,q⟩
  ·show Xw.toArray.eraseIdxIfInBounds k=(Xw.eraseIdx k).toArray;rw[List.eraseIdxIfInBounds_toArray]
  ·rw[show(ns.eraseIdx k).map V.int=(ns.map V.int).eraseIdx k by rw[xN]];exact r.eraseIdx k
  ·have:=tG ns k;simp only[Γ] at this ⊢;omega
end
section
variable{Q:VK}{ta tb:TE}{i:Int}
mutual
example:=[]
def UH:VG ta tb σ H Q=ta σ H fun x H1=>jF (Ah H1 x) fun c=>if c=true then Q x H1 else tb σ H1 Q:=rfl
def UG:VF ta σ H Q=ta σ H fun x H1=>Mr x fun i=>Q (.int i) H1:=rfl
def UA{k:Int->Prop}{u:Tg k}:Mr (.int i) k u=k i:=rfl
def UB{k:Int->Prop}{u:Tg k}:Mr .Xu k u=k 0:=rfl
def UL:TK (.ref l) [.int i] H Q = ∃ ns:List Int,H l=some (.lst (ns.map V.int))/\jF (DU i ns) fun k=>Q .Xu (Xt H l (.lst ((ns.eraseIdx k).map V.int))):=rfl
end
end
mutual
example:=[(by omega),lo+hi,(by simpa using Z2)]
def Rising(l:List Nat):Prop:=l.Pairwise (· < ·)
theorem wO(xs:Array Nat)(j:Nat)(hr:Rising xs.toList):∀(fuel lo hi:Nat),hi - lo<=fuel->lo<=hi->hi<=xs.size -> (∀ i (h:i < xs.size),i < lo->xs[i] < j)->(∀ i (h:i < xs.size),hi<=i->j<=xs[i]) -> (∀ i (h:i < xs.size),i < SetTable.below.go xs j fuel lo hi->xs[i] < j)/\(∀ i (h:i < xs.size),SetTable.below.go xs j fuel lo hi<=i->j<=xs[i])/\SetTable.below.go xs j fuel lo hi<=xs.size
 | 0,lo,hi,hf,hl,hh,h1,h2=>by
  have:lo=hi:=by omega
  subst this;exact⟨h1,h2,hh⟩
 | fuel+1,lo,hi,hf,hl,hh,h1,h2=>by
  have mono:∀ i k (hi:i < xs.size) (hk:k < xs.size),i < k->xs[i] < xs[k]:=fun i k hi hk hik=>by
   have:=Ε7.mp hr i k (by simpa using hi) (by simpa using hk) hik;simpa using this
  unfold SetTable.below.go;by_cases c:lo < hi
  ·rw[if_pos c];have hm:1e0 / 2 < xs.size:=by omega
   have em:xs.getD (1e0 / 2) j=xs[1e0 / 2]:=by simp[Array.getD,hm]
   simp only[em];by_cases d:xs[1e0 / 2] < j
   ·rw[if_pos d];refine wO xs j hr fuel _ hi 0e0 0e0 hh (fun i h XW=>?_) h2;by_cases e:i=1e0 / 2
    ·subst e;exact d
    ·exact Nat.lt_trans (mono i _ h hm 0e0) d
   ·rw[if_neg d];refine wO xs j hr fuel lo _ 0e0 0e0 0e0 h1 (fun i h hle=>?_);by_cases e:i=1e0 / 2
    ·subst e;omega
    ·have:=mono _ i hm h 0e0;omega
  ·rw[if_neg c];have:lo=hi:=by omega
   subst this;exact⟨h1,h2,hh⟩
theorem pX(xs:Array Nat)(j:Nat)(hr:Rising xs.toList):(∀ i (h:i < xs.size),i < SetTable.below xs j->xs[i] < j)/\(∀ i (h:i < xs.size),SetTable.below xs j<=i->j<=xs[i])/\SetTable.below xs j<=xs.size :=
 wO xs j hr xs.size 0 xs.size 0e0 0e0 (Ι _) (fun i h XW=>absurd XW 0e0) (fun i h hle=>absurd h 0e0)
theorem Ay{xs:Array Nat}(hr:Rising xs.toList)(hn:¬ xs[SetTable.below xs j]?=some j):Rising (SetTable.insertAt xs (SetTable.below xs j) j).toList:=by
 obtain⟨h1,h2,h3⟩:=pX xs j hr;rw[SetTable.toList_insertAt];generalize hb:SetTable.below xs j=b at *;unfold Rising at *;have split:=List.pairwise_append.mp (show(xs.toList.take b++xs.toList.drop b).Pairwise (· < ·) by rw[List.take_append_drop];exact hr);have lt:∀ x∈xs.toList.take b,x < j:=fun x hx=>by
  obtain⟨i,hi,rfl⟩:=List.mem_iff_getElem.mp hx;have Z2:i < b/\i < xs.size:=by simpa[Nat.lt_min] using hi
  have:=h1 i Z2.2 Z2.1;simpa using this
 have gt:∀ x∈xs.toList.drop b,j < x:=fun x hx=>by
  obtain⟨i,hi,rfl⟩:=List.mem_iff_getElem.mp hx;have Z2:b+i < xs.size:=by simp at hi;omega
  have hle:=h2 (b+i) Z2 0e0;have Yb:xs[b+i]≠j:=fun e=>by
   by_cases hz:i=0
   ·subst hz;exact hn (by rw[Δ1 2e0];simpa using e)
   ·have XX:b < xs.size:=by omega
    have h0:=h2 b XX (Ι _);have:=Ε7.mp hr b (b+i) (by simpa using XX) 2e0 0e0;simp at this;omega
  have:xs.toList.drop b=xs.toList.drop b:=rfl;simp only[List.getElem_drop,Array.getElem_toList];omega
 refine List.pairwise_append.mpr ⟨split.1,Β9.mpr ⟨gt,split.2.1⟩,fun x hx y hy=>?_⟩;rcases Α.mp hy with rfl|hy
 ·exact lt x hx
 ·exact split.2.2 x hx y hy
theorem xO{α:Type}:∀ {l:List α} {i:Nat} (h:i < l.length),(l[i]::l.eraseIdx i).Perm l
 | a::l,0,_=>by simp
 | a::l,i+1,h=>by
  have:=xO (l:=l) (i:=i) (by simpa using h);simp only[List.getElem_cons_succ,List.eraseIdx_cons_succ];exact(List.Perm.swap _ _ _).trans (this.cons a)
theorem HD{α:Type}(next:Nat->Nat):∀(fuel k:Nat) (left:List α) (out:Array α),fuel=left.length->∃ abN:Array α,pickOrder.go next fuel k left out=abN/\abN.toList.Perm (out.toList++left)
 | 0,k,left,out,h=>by
  have:left=[]:=List.length_eq_zero_iff.mp h.symm;subst this;exact⟨out,by simp[pickOrder.go],by simp⟩
 | fuel+1,k,left,out,h=>by
  have hp:0 < left.length:=by omega
  have hi:next k % left.length < left.length:=Nat.mod_lt _ hp
  obtain⟨o,e,p⟩:=HD next fuel (k+1) (left.eraseIdx (next k % left.length)) (out.push left[next k % left.length]) (by rw[List.length_eraseIdx_of_lt hi];omega)
  refine⟨o,?_,p.trans ?_⟩
  ·rw[pickOrder.go,ϑ hi];exact e
  ·rw[Array.toList_push,List.append_assoc];refine List.Perm.append_left _ ?_;exact xO hi
def JK{α:Type}(next:Nat->Nat)(xs:Array α):(pickOrder next xs).toList.Perm xs.toList:=by
 obtain⟨o,e,p⟩:=HD next xs.size 0 xs.toList #[] (by simp)
 unfold pickOrder;rw[e];simpa using p
structure pG(w:World)(t:SetTable):Prop where
 rise:Rising t.place.toList
 led:w.params.followText "set-order"=true\/t.led=true
 dum:t.dummies = #[]
 msk:t.mask=7
 pln:t.plain=true
def Dk(j:Nat):SetTable.has #[] j=false:=by simp[SetTable.has]
def Ga(h:t.slot j=.empty):¬ t.place[SetTable.below t.place j]?=some j:=fun e=>by
 unfold SetTable.slot at h;simp only[e,beq_self_eq_true,Γ1] at h;cases h
def zV(hd:t.dummies = #[])(j:Nat):t.slot j=.empty\/(∃ i,t.slot j=.live i/\j∈t.place.toList):=by
 unfold SetTable.slot;rw[hd,Dk];by_cases h:t.place[SetTable.below t.place j]?=some j
 ·refine .inr ⟨SetTable.below t.place j,by simp only[h,beq_self_eq_true,Γ1],?_⟩;rw[<- Γ9] at h;exact ϒ h
 ·refine .inl ?_;have:(t.place[SetTable.below t.place j]?==some j)=false:=by simpa using h
  simp[this]
theorem free4{l:List Nat}(h:l.length<=3):∃ j,j < 8/\j∉l:=by
 match l,h with
 | [],_=>exact⟨0,by decide,by simp⟩
 | [a],_=>by_cases h0:a=0;exact⟨1,by decide,by simp;omega⟩;exact⟨0,by decide,by simp;omega⟩
 | [a,b],_ =>
  by_cases h0:a=0\/b=0
  ·by_cases h1:a=1\/b=1
   ·exact⟨2,by decide,by simp;omega⟩
   ·exact⟨1,by decide,by simp;omega⟩
  ·exact⟨0,by decide,by simp;omega⟩
 | [a,b,c],_ =>
  by_cases h0:a=0\/b=0\/c=0
  ·by_cases h1:a=1\/b=1\/c=1
   ·by_cases h2:a=2\/b=2\/c=2
    ·exact⟨3,by decide,by simp;omega⟩
    ·exact⟨2,by decide,by simp;omega⟩
   ·exact⟨1,by decide,by simp;omega⟩
  ·exact⟨0,by decide,by simp;omega⟩
def hop(i:Nat):Nat:=(i * 5+1) % 8
def hops:Nat->Nat->Nat
 | 0,i=>i
 | m+1,i=>hops m (hop i)
theorem LU:∀ i,i < 8->∀ j,j < 8->∃ m,m < 8/\hops m i=j:=by decide
end
section
variable(hd:t.dummies = #[])(hm:t.mask=7){h:Int}
abbrev prb(i pt:Nat):SetTable.Probe:=⟨i,0,i,pt,none⟩
include hd hm
mutual
example:=[(fun _=>h+1),prb i pt,(by omega),(by decide),(Nat.mod_lt _ 3e0),(i * 5+1+pt / 32),3e0,SetTable.bits h % 8,SetTable.bits h,.empty j none]
theorem adv(i pt:Nat):t.advance 1e0=prb (5e0 % 8) (pt / 32):=by
 have:5e0 % 8 < 8:=Nat.mod_lt _ 6e0;simp only[SetTable.advance,SetTable.leap,hm,SetTable.runEnd];simp
 try omega
theorem Hh(fuel i pt:Nat):(t.slot i=.empty/\SetTable.probe.go t 0e0 h (fuel+1) 1e0=some (.empty i none))\/SetTable.probe.go t 0e0 h (fuel+1) 1e0=SetTable.probe.go t 0e0 h fuel (prb (5e0 % 8) (pt / 32)):=by
 rcases zV hd i with e|⟨k,e,_⟩
 ·refine .inl ⟨e,?_⟩;unfold SetTable.probe.go;simp only[e]
 ·refine .inr ?_
  conv=>lhs;unfold SetTable.probe.go
  simp only[e];rw[if_neg (by simp;try omega),adv hd hm]
theorem Hi:∀(m fuel i:Nat),m < fuel->i < 8->t.slot (hops m i)=.empty->∃ j,t.slot j=.empty/\SetTable.probe.go t 0e0 h fuel (prb i 0)=some 9e0
 | 0,fuel+1,i,_,hi,he=>by
  refine⟨i,he,?_⟩;have e:t.slot i=.empty:=he;unfold SetTable.probe.go;simp only[e]
 | m+1,fuel+1,i,hf,hi,he=>by
  rcases Hh hd hm (h:=h) fuel i 0 with⟨e,g⟩|g
  ·exact⟨i,e,g⟩
  ·rw[g];exact Hi m fuel _ 2e0 4e0 he
theorem LQ(hp:t.place.size<=3):∀(d fuel i pt:Nat),pt < 32 ^ d->d+8<=fuel->i < 8->∃ j,t.slot j=.empty/\SetTable.probe.go t 0e0 h fuel 1e0=some 9e0
 | 0,fuel,i,pt,h1,h2,hi=>by
  have:pt=0:=by simpa using h1
  subst this;obtain⟨j,hj,hn⟩:=free4 (l:=t.place.toList) (by simpa using hp);obtain⟨m,hm',e⟩:=LU i hi j hj;refine Hi hd hm m fuel i 2e0 hi ?_;rw[e];rcases zV hd j with z|⟨_,_,z⟩
  ·exact z
  ·exact absurd z hn
 | d+1,0,i,pt,h1,h2,hi=>absurd h2 2e0
 | d+1,fuel+1,i,pt,h1,h2,hi=>by
  rcases Hh hd hm (h:=h) fuel i pt with⟨e,g⟩|g
  ·exact⟨i,e,g⟩
  ·rw[g];exact LQ hp d fuel _ _ (by rw[Nat.pow_succ] at h1;omega) 2e0 4e0
theorem Jb(hp:t.place.size<=3):∃ j,t.slot j=.empty/\t.freeSlot h=some (j,false):=by
 have hb:SetTable.bits h < 32 ^ 13:=by
  unfold SetTable.bits;have h1:=Int.emod_lt_of_pos h (show(0:Int) < 2 ^ 64 by decide);have h2:=Int.emod_nonneg h (show(2 ^ 64:Int)≠0 by decide);have:(32:Nat) ^ 13=36893488147419103232:=by decide
  omega
 have hs:t.probeStart h=prb 7e0 8e0:=by
  unfold SetTable.probeStart SetTable.runEnd;rw[hm];have:SetTable.bits h % 8 < 8:=Nat.mod_lt _ 6e0;simp
  try omega
 obtain⟨j,e,g⟩:=LQ hd hm (h:=h) hp 13 (10 * SetTable.turns t.mask) 7e0 8e0 hb (by rw[hm];decide) 4e0;refine⟨j,e,?_⟩;unfold SetTable.freeSlot SetTable.probe;rw[hs,g];rfl
end
end
mutual
example:=[Int×Value]
theorem Pb(T:pG w t)(es:Array 0e0)(h:Int)(x:Value)(hp:t.place.size<=3)(hf:t.place.size=es.size):pG w (layNew t es h x).2.1:=by
 obtain⟨slot,hs,e⟩:=Jb T.dum T.msk (h:=h) hp;have Tp:pG w (t.put slot).1:=by
  refine⟨Ay T.rise (Ga hs),T.led,?_,T.msk,T.pln⟩;show(if SetTable.has t.dummies slot=true then _ else t.dummies) = #[];rw[T.dum,Dk];rfl
 unfold layNew;rw[e];show pG w ((t.put slot).1.orStandIn _);have h1:=(SetTable.insertAt_perm es (t.put slot).2 (h,x)).length_eq;rw[Γ3,Γ3,Array.size_push] at h1;have h2:(t.put slot).1.place.size=t.place.size+1:=by
  have:=(SetTable.insertAt_perm t.place (SetTable.below t.place slot) slot).length_eq;rw[Γ3,Γ3,Array.size_push] at this;exact this
 have fit:(t.put slot).1.fits (SetTable.insertAt es (t.put slot).2 (h,x)).size=true:=by
  unfold SetTable.fits SetTable.fill;rw[Tp.dum,h2,h1,Tp.msk,hf];simp;omega
 unfold SetTable.orStandIn;rw[if_pos fit];exact Tp
def Ds:Value->Int
 | .int i _=>i
 | _=>0
def sL(P:Program)(w:World)(a:Addr)(ns:List Int)(h:Heap):Prop:=∃(o:Obj) (es:Array 0e0) (ep:Nat) (t:SetTable),h.get? a=some o/\o.ExactSet/\o.data=.set es ep t/\ElemsOf (intKind P w) es.toList/\es.size < scanBound/\t.fits es.size=true/\pG w t/\(∀ e∈es.toList,∃ i tk,e.2=Value.int i tk)/\(es.toList.map fun e=>Ds e.2).Perm ns
def sL.keep{h':Heap}(x:sL P w a ns h)(k:∀ o,h.get? a=some o->h'.get? a=some o):sL P w a ns h':=by
 obtain⟨o,es,ep,t,e,r⟩:=x;exact⟨o,es,ep,t,k o e,r⟩
end
section
def Sv{i:Int}:(intKind P w).is i v=true↔∃ tk,v=.int i tk:=by
 constructor
 ·intro h;cases v with
  | int j tk=>exact⟨tk,by have:Value.isInt i (.int j tk)=true:=h;simp[Value.isInt] at this;rw[this]⟩
  | _=>cases h
 ·rintro⟨tk,rfl⟩;exact intKind_is _ _ _ _
theorem CO{o:Obj}{es:Array (Int×Value)}{ep:Nat}(ho:s.heap.get? a=some o)(hex:o.ExactSet)(hd:o.data=.set es ep t)
    {XY:Array (Int×Value)} {t2:SetTable}  (hel:ElemsOf (intKind P w) XY.toList) (hb:XY.size < scanBound) (hf:t2.fits XY.size=true) (T:pG w t2) (hi:∀ e∈XY.toList,∃ i tk,e.2=Value.int i tk) (hp:(XY.toList.map fun e=>Ds e.2).Perm ns) (h4:XY.size<=4)
    {YO:Bool} {X:Sem (Option Bool)} {R:Option Bool->Shared->Prop} (h:∀ h',Heap.SameBut a s.heap h'->sL P w a ns h'->R (some true) {s with heap:=h'}) :
    wpAny (model P w) A (do
        storeSet a XY t2
        if (!YO&&t2.tooFull)=true then X else pure (some true)) R E s:=by
  refine Β (wpAny_storeSet_of ho hd ?_ (fits_of_scanBound hb));have full:t2.tooFull=false:=by
    have h1:t2.place.size=XY.size:=by
      have:=hf;unfold SetTable.fits at this;simp only[Γ6,beq_iff_eq] at this;exact this.1
    unfold SetTable.tooFull SetTable.fill;rw[T.dum,h1];have:=T.msk;simp;omega
  rw[full,Bool.and_false];simp only[ϙ,Β4];have hg:(s.heap.update a (Obj.putSet XY t2)).get? a=some {o with data:=.set XY (ep+1) t2}:=by
    have:=Heap.get?_update_self (Obj.putSet XY t2) ho (by rw[putSet_of XY t2 hd];rfl);rw[putSet_of XY t2 hd] at this;exact this
  exact Θ (h _ (Heap.SameBut.update s.heap a (Obj.putSet XY t2)) ⟨_,XY,ep+1,t2,hg,hex,rfl,hel,hb,hf,T,hi,hp⟩)
theorem EJ{i:Int}{tk:Tok}{Q:Bool->Shared->Prop}(hS:sL P w a ns s.heap)(hn:ns.length<=3)(h:∀ h',Heap.SameBut a s.heap h'->sL P w a (if i∈ns then ns else ns++[i]) h'->∀ b,Q b {s with heap:=h'}):wpAny (model P w) A (setAddHashed a (.int i tk) ((intKind P w).hash i)) Q E s:=by
 obtain⟨o,es,ep,t,ho,hex,hd,hel,hb,hf,T,hi,hp⟩:=hS;have Zp:(intKind P w).is i (.int i tk)=true:=intKind_is _ _ _ _;have hl:es.size=ns.length:=by have:=hp.length_eq;simpa using this
 have b1:scanBound=4096:=rfl;unfold setAddHashed setAddHashedIn;refine Β0 (Β (Γ5 ho hd hf ?_));dsimp only;rw[byScan_of (knd:=intKind P w) rfl hb hel];simp only[↓reduceIte];unfold setAddByScan;refine Β ?_;refine Β (wpAny_rule ?_);refine Β (wpAny_setScan_of Zp ho hd hf hel ?_);cases hr:List.findIdx? (fun e=>(intKind P w).is i e.2) es.toList with
 | some j =>
  dsimp only;obtain⟨hj,hpj,_⟩:=List.findIdx?_eq_some_iff_getElem.mp hr;obtain⟨tk',et⟩:=Sv.mp hpj;have hm:i∈ns:=hp.mem_iff.mp (Α9.mpr ⟨es.toList[j],List.getElem_mem hj,by rw[et];rfl⟩);rw[if_pos hm] at h;refine Θ (Θ ?_);exact h s.heap (Heap.SameBut.refl a s.heap) ⟨o,es,ep,t,ho,hex,hd,hel,hb,hf,T,hi,hp⟩ _
 | none =>
  dsimp only;have hm:i∉ns:=fun z=>by
   obtain⟨e,he,ek⟩:=Α9.mp (hp.mem_iff.mpr z);obtain⟨k,tk',ev⟩:=hi e he;have h1:=List.findIdx?_eq_none_iff.mp hr e he;rw[ev] at ek h1;have:k=i:=ek;subst this;rw[intKind_is] at h1;cases h1
  rw[if_neg hm] at h;have X1:=layNew_perm t es ((intKind P w).hash i) (.int i tk);have Y9:=layNew_fits t es ((intKind P w).hash i) (.int i tk);have hsz:t.place.size=es.size:=by
   have:=hf;unfold SetTable.fits at this;simp only[Γ6,beq_iff_eq] at this;exact this.1
  have T1:=Pb T es ((intKind P w).hash i) (.int i tk) (by omega) hsz;generalize layNew t es ((intKind P w).hash i) (.int i tk)=Y at X1 Y9 T1 ⊢;obtain⟨XY,t1,YO,ac3⟩:=Y;dsimp only at X1 Y9 T1 ⊢;rw[Array.toList_push] at X1;have abE:ElemsOf (intKind P w) XY.toList:=(hel.push Zp rfl).perm X1;have sz:XY.size=es.size+1:=by
   have:=X1.length_eq;simpa using this
  have hi1:∀ e∈XY.toList,∃ i tk,e.2=Value.int i tk:=fun e he=>by
   rcases Κ.mp (X1.mem_iff.mp he) with he|he
   ·exact hi e he
   ·rw[show e=_ by simpa using he];exact⟨i,tk,rfl⟩
  have hp1:(XY.toList.map fun e=>Ds e.2).Perm (ns++[i]):=by
   refine(X1.map _).trans ?_;rw[Α2];exact hp.append (.refl _)
  have hgw:∀(b:Bool) {s₁:Shared} {Q':Unit->Shared->Prop},Q' () s₁->wpAny (model P w) A (match b with|true=>rule "set.scan.the-table-gave-way" | false=>pure ()) Q' E s₁:=fun b s₁ Q' hq=>by
   cases b
   ·exact Θ hq
   ·exact wpAny_rule hq
  refine Β (hgw _ ?_);split
  ·refine Β ?_;rw[hashByValue_scannable 8 rfl];refine Θ ?_;simp only[plainKind,↓reduceIte];exact CO ho hex hd abE (by omega) Y9 T1 hi1 hp1 (by omega) fun h' hs hS'=>Θ (h h' hs hS' _)
  ·refine Β (Θ ?_);simp only[↓reduceIte];exact CO ho hex hd abE (by omega) Y9 T1 hi1 hp1 (by omega) fun h' hs hS'=>Θ (h h' hs hS' _)
end
noncomputable def once(val:Nat->Int):Nat->List Int
 | 0=>[]
 | i+1=>if val i∈once val i then once val i else once val i++[val i]
theorem y7(val:Nat->Int):∀ i,(once val i).length<=i
 | 0=>Ι _
 | i+1=>by
  have:=y7 val i;rw[once];split
  ·omega
  ·rw[Μ];simp;omega
section
variable{R:Result->Shared->Prop}{wr:List Addr}{Gs:Array GenState->Array GenState->Prop}{Pi:Nat->Value->Prop}{St:Nat->Shared->Prop}
theorem Dt(W:WalksS P w A.in1 it fp wr Gs n Pi St)(z:Addr)(hz:z∉fp)(val:Nat->Int)(aaW:∀ i v,Pi i v->∃ t,v=.int (val i) t)(hn:n<=4) : ∀(k i:Nat) (s:Shared),n - i=k->i<=n->St i s->sL P w z (once val i) s.heap -> (∀ s',Moved (z::wr) Gs s s'->sL P w z (once val n) s'.heap->R (.ok (.ret .none)) s')->codeAny (model P w) A (.builtin "set.update.loop" ⟨[.ref z,.ref it],[]⟩) R s:=by
 have zw:z∉wr:=fun h=>hz (W.sub _ h);have up:∀ b∈wr,b∈z::wr:=fun b hb=>ϓ _ hb;intro k
 induction k with
 | zero =>
  intro i s hk hi st hS hR;obtain rfl:i=n:=by omega
  refine Ε6 PyProof.Rows.F.entry_set_update_loop ?_;rw[Δ8 Ζ0 _];show wpAny _ A.in1 (pyNext (.ref it) >>= _) _ _ s;refine Β (W.done s _ _ st fun s' hm=>?_);show wpAny _ A.in1 (ret Value.none) _ _ s';exact Θ (hR s' (hm.mono up) (hS.keep fun o e=>hm.heap z _ zw e))
 | succ k ih =>
  intro i s hk hi st hS hR;have lt:i < n:=by omega
  refine Ε6 PyProof.Rows.F.entry_set_update_loop ?_;rw[Δ8 Ζ0 _];show wpAny _ A.in1 (pyNext (.ref it) >>= _) _ _ s;refine Β (W.item i s _ _ lt st fun v s' hP XT hm=>?_);obtain⟨t,rfl⟩:=aaW i v hP;have hS':sL P w z (once val i) s'.heap:=hS.keep fun o e=>hm.heap z _ zw e;show wpAny _ A.in1 (holding [Value.int (val i) t] (setAdd z (.int (val i) t)) >>= _) _ _ s';refine Β (Β0 ?_);unfold setAdd;refine Β0 ?_;refine Β ((intKind P w).pyHash (k:=val i) (intKind_is _ _ _ _) ?_);have room:(once val i).length<=3:=by have:=y7 val i;omega
  refine EJ (s:={s' with toks:=s'.toks+1}) hS' room fun h' sb hS2 b=>?_;refine Θ ⟨plainId_quiet Ζ0 _,ih (i+1) _ (by omega) lt (W.frame _ s' _ _ XT (Δ4 _) fun c hc o e=>?_) hS2 fun s2 hm2 hS3=>?_⟩
  ·rw[sb.2 c (fun h:c=z=>hz (by rw[<- h];exact hc))];exact e
  ·refine hR s2 (Moved.trans W.gtrans ((hm.mono up).then_heap (Δ4 _) fun c o hc e=>?_) hm2) hS3;rw[sb.2 c (fun h:c=z=>hc (by rw[h];exact List.mem_cons_self))];exact e
end
section
abbrev pL(led:Bool):Obj:={cls:=.type "set",dict:=none,data:=.set #[] 0 (.fresh 0 0 led)}
def FE(a:Value){Q₁:q0A}(h:∀ led:Bool,(w.params.followText "set-order"=true\/led=true)->Q₁ (.ref s.heap.objs.size) {s with heap:=s.heap.push (pL led)}) : codeAny (model P w) A (.call (.builtin "set.__new__") ⟨[.type "set",a],[]⟩) (wants Q₁ E) s:=by
 refine codeAny_of_tree ?_;show wpAny _ A.in1 (do checkBuiltinCall "set.__new__" ⟨[.type "set",a],[]⟩;again (.builtin "set.__new__" ⟨[.type "set",a],[]⟩)) _ _ s;refine Β (wpAny_of_eq (PySem.F.newCall_set_1 a) (Θ ⟨plainId_quiet PySem.F.plain_set_new _,Ε6 PySem.F.entry_set_new ?_⟩));rw[Δ8 PySem.F.plain_set_new _];unfold Builtin.«set.__new__» Builtin.Frozenset.newClass;have aaD:=sub_set_self;obtain⟨hp,g,d,tk,os⟩:=s;dsimp only;wp_walk;refine wpAny_askSetting (Θ ?_);dsimp only;simp only[newObj];refine Β (wpAny_alloc (Θ ?_));refine Θ (h _ ?_);cases e:w.params.followText "set-order" with
 | true=>exact .inl rfl
 | false =>
  refine .inr ?_;show(!w.params.followText "set-order")=true;rw[e];rfl
def IW{led:Bool}(h:w.params.followText "set-order"=true\/led=true):pG w (.fresh 0 0 led):=⟨.nil,h,rfl,rfl,rfl⟩
set_option maxHeartbeats 8000000 in
theorem CZ{Q:q0A}(hh:A.handled=none)(hl:s.heap.IsList l items)(hi:IntsAre items.toList ns)(h4:items.size<=4)(h:∀(h':Heap) (tk:Nat),sL P w s.heap.objs.size (once (fun i=>ns.getD i 0) items.size) h'->(∀ b o,b < s.heap.objs.size->s.heap.get? b=some o->h'.get? b=some o)->Q (.ref s.heap.objs.size) {s with heap:=h',toks:=tk}) : wpAny (model P w) A (call (.type "set") [.ref l]) Q E s:=by
  obtain⟨c,tl,ac5⟩:=Β8.mro;have acQ:=Β8.made;have aaD:=Β8.sub;refine wpAny_call (codeAny_of_tree ?_);show wpAny _ _ (callAny (.type "set") _) _ _ _;refine Θ ⟨Code.quiet_builtin _ (by decide +kernel),Ε6 PySem.F.entry_type_call ?_⟩;rw[Around.under_plain (weight_type_call_type "set" [.ref l] []) rfl];have h1:=Β8.notType;have h2:=Β8.canCreate;have hct:=PySem.F.typeCall_set_1 (.ref l)
  repeat (any_goals (first|assumption|wp_step))
  refine codeAny_mono (FE (.ref l) (E:=E) (Q₁:=fun obj s₁=>∃ led:Bool,(w.params.followText "set-order"=true\/led=true)/\obj=.ref s.heap.objs.size/\s₁={s with heap:=s.heap.push (pL led)}) fun led aaU=>⟨led,aaU,rfl,rfl⟩) fun r s₁ hr=>?_;cases r with
  | error e=>exact hr
  | ok fl =>
    cases fl with
    | ret obj =>
      obtain⟨led,aaU,rfl,rfl⟩:=hr;have hS:(s.heap.push (pL led)).get? s.heap.objs.size=some (pL led):=Τ _ rfl;have hT:Shared.TypeIs {s with heap:=s.heap.push (pL led)} (.ref s.heap.objs.size) "set":=⟨_,hS,rfl⟩;have hli:=Β8.init.lookup;have hbi:=Β8.init.bind (.ref s.heap.objs.size)
      repeat (any_goals (first|assumption|wp_step))
      refine codeAny_mono (codeAny_call_builtin (R:=wants (fun r s₂=>r=.none/\∃ h' tk,s₂={s with heap:=h',toks:=tk}/\sL P w s.heap.objs.size (once (fun i=>ns.getD i 0) items.size) h' /\
          (∀ b o,b < s.heap.objs.size->s.heap.get? b=some o->h'.get? b=some o)) E) Β8.init.plain PySem.F.entry_set_init (check_set_init_1 hT ?_)) fun r₂ s₂ hr₂=>?_
      · obtain⟨ol,hol,hcl,nl,hdl⟩:=hl;obtain⟨adA,abM,acR,aa3⟩:=ol;simp only at hcl hdl;subst hcl hdl;have ab7:(s.heap.push (pL led)).get? l=some ⟨.type "list",abM,.seq items nl,aa3⟩:=Ε _ hol;have ac7:=PySem.F.sub_list_set;have ac6:=PySem.F.sub_list_frozenset;have Yb:(Value.type "list"==Value.type "dict")=false:=by decide
        have ZE:(s.heap.push (pL led)).IsList l items:=⟨_,ab7,rfl,nl,rfl⟩;unfold Builtin.«set.__init__» noKeywords Builtin.Frozenset.updateFrom;generalize hPI:pyIter=PI;wp_walk;subst hPI;refine wpAny_pyIter_list ZE ?_;refine Β (wpAny_runValue ?_);have lS:l < s.heap.objs.size:=Λ hol;have hh3:A.in1.in1.in1.handled=none:=by simp[hh]
        have sz:(s.heap.push (pL led)).objs.size=s.heap.objs.size+1:=Heap.size_push _ _;have ab4:l≠(s.heap.push (pL led)).objs.size:=Ο (by rw[sz];exact Nat.lt_succ_of_lt lS);have hSf:s.heap.objs.size∉[(s.heap.push (pL led)).objs.size,l]:=by
          simp only[Α,Δ,Υ,not_or];exact⟨Ο (by rw[sz];exact Nat.lt_succ_self _),Nat.ne_of_gt lS⟩
        have aaW:∀(i:Nat) (v:Value),items[i]?=some v->∃ t,v=.int ((fun i=>ns.getD i 0) i) t:=fun i v hv=>IntsAre.int_at hi i v (by rw[Γ9];exact hv);refine Dt ((Walks.list hh3 _ l ab4 items).toS) s.heap.objs.size hSf (fun i=>ns.getD i 0) aaW h4 (items.size - 0) 0 _ (by omega) (Α4 _) ⟨⟨_,Τ _ rfl,rfl,rfl⟩,(ZE.push _)⟩ ?hS0 ?hR
        case hS0=>exact⟨_,#[],0,_,Ε _ hS,⟨rfl,rfl,rfl⟩,rfl,fun e he=>(by simp at he),by decide,rfl,IW aaU,by simp,.nil⟩
        case hR =>
          intro s' hm hS';obtain⟨h',g',d',tk',os'⟩:=s';have eg:g'=s.gens:=hm.gens;have ed:d'=s.drawn:=hm.drawn;have eo:os'=s.os:=hm.os;subst eg ed eo;show wpAny _ _ _ _ _ _;refine Θ ?_;show wpAny _ _ (ret Value.none) _ _ _;refine Θ ⟨rfl,h',tk',rfl,hS',fun b o hb e=>?_⟩;exact hm.heap b o (by simp only[Α,Δ,Υ,not_or];exact⟨Ο hb,Ο (by rw[sz];exact Nat.lt_succ_of_lt hb)⟩) (Ε _ (Ε _ e))
      · cases r₂ with
        | error e=>exact hr₂
        | ok fl₂ =>
          cases fl₂ with
          | ret r =>
            obtain⟨rfl,h',tk,rfl,hS',hk'⟩:=hr₂
            repeat (any_goals (first|assumption|wp_step))
            exact h _ _ hS' hk'
          | _=>exact hr₂.elim
    | _=>exact hr.elim
end
mutual
example:=[(by decide +kernel),(by kernel_rfl),(by rw[typeLookup_type,builtinLookup_eq_fast];kernel_rfl),(by rw[isSubtype_type];kernel_rfl),(by first|exact .inl 0e0|exact .inr 0e0)]
def DS:Manifest.owners.lookup (String.ofList ['r','o','t','a','r','e','t','i','_','t','e','s'].reverse)=some Manifest.sig_set_iterator:=by kernel_rfl
theorem fU:Slot "set_iterator" "__next__" "set_iterator.__next__" :=
 .of (owner:="set_iterator") (n:="__next__") 2e0 0e0 0e0 0e0
  4e0 3e0
def pI:entryFor table "set_iterator.__next__"=some Builtin.«set_iterator.__next__»:=entryFor_of_tree 1e0
def qT(a:Value):argsOk "set_iterator.__next__" ⟨[a],[]⟩:=by
 unfold argsOk;rw[signature?_of (id:="set_iterator.__next__") (n:=['_','_','t','x','e','n','_','_']) (o:=['r','o','t','a','r','e','t','i','_','t','e','s']) 1e0 DS];kernel_rfl
theorem sF:Slot "set_iterator" "__iter__" "set_iterator.__iter__" :=
 .of (owner:="set_iterator") (n:="__iter__") 2e0 0e0 0e0 0e0
  4e0 3e0
theorem Ax:entryFor table "set_iterator.__iter__"=some Builtin.«dict_keyiterator.__iter__» :=
 entryFor_alias (id':="dict_keyiterator.__iter__") 1e0 rfl 0e0 1e0
def BL(a:Value):argsOk "set_iterator.__iter__" ⟨[a],[]⟩:=by
 unfold argsOk;rw[signature?_of (id:="set_iterator.__iter__") (n:=['_','_','r','e','t','i','_','_']) (o:=['r','o','t','a','r','e','t','i','_','t','e','s']) 1e0 DS];kernel_rfl
theorem xM:entryFor table "set.__iter__"=some Builtin.«frozenset.__iter__» :=
 entryFor_alias (id':="frozenset.__iter__") 1e0 rfl 0e0 1e0
end
section
variable{es:Array (Int×Value)}{ep:Nat}
mutual
example:=[.ref it,(by simp),(by omega),model P w,w.params.setOrder a ep,rawInt (XR:Nat),mM w a es ep,Θ ?_,Int×Value,Β (wpAny_askSetting (Θ ?_)),Β (Γ5 e1 e3 e4 (Θ ?_)),Γ5 e1 e3 e4 ?_,(if w.params.followText "set-order"=true then _ else _),wpAny_call_entry fU ki.ty pI ?_ (qT _),Θ (Β (wpAny_fieldsOf i1 i3 ?_)),!t.plain&&decide (es.size > 1),(setEntries a >>= fun _=>_),(fun h=>hb (by simp[h])),(Β5 ?_ (by size_fits)),(by rw[nS];exact hi),Int.toNat (sl:Nat),Int.toNat (ep:Nat)]
def kQ(w:World)(h:Heap)(a:Addr)(es:Array 8e0)(ep:Nat)(t:SetTable):Prop:=∃ o,h.get? a=some o/\o.ExactSet/\o.data=.set es ep t/\t.fits es.size=true/\pG w t
def kQ.to{h':Heap}(x:kQ w h a es ep t)(k:∀ o,h.get? a=some o->h'.get? a=some o):kQ w h' a es ep t:=let ⟨o,e,r⟩:=x;⟨o,k _ e,r⟩
def kQ.lt(x:kQ w h a es ep t):a < h.objs.size:=let ⟨_,e,_⟩:=x;Λ e
def kQ.ty(x:kQ w s.heap a es ep t):s.TypeIs (.ref a) "set":=let ⟨o,e,c,_⟩:=x;⟨o,e,c.1⟩
def mM(w:World)(a:Addr)(es:Array 8e0)(ep:Nat):Array 8e0:=if w.params.followText "set-order"=true then pickOrder 4e0 es else es
def zC:(mM w a es ep).toList.Perm es.toList:=by
 unfold mM;split
 ·exact JK _ _
 ·exact .refl _
def nS:(mM w a es ep).size=es.size:=by have:=(zC (w:=w) (a:=a) (es:=es) (ep:=ep)).length_eq;simpa using this
def BG(w:World)(t:SetTable)(i sl:Nat):Prop:=w.params.followText "set-order"=true\/SetTable.below t.place sl=i
def An(w:World)(h:Heap)(it a:Addr)(i n ep:Nat)(t:SetTable):Prop:=∃ o sl,h.get? it=some o/\o.cls=.type "set_iterator"/\o.data=.fields #[.int (sl:Nat) 0,.int (i:Nat) 0,.ref a,.int (n:Nat) 0,.int (ep:Nat) 0]/\BG w t i sl
def An.to{h':Heap}(x:An w h it a i n ep t)(k:∀ o,h.get? it=some o->h'.get? it=some o):An w h' it a i n ep t:=let ⟨o,sl,e,r⟩:=x;⟨o,sl,k _ e,r⟩
def An.ty(x:An w s.heap it a i n ep t):s.TypeIs 0e0 "set_iterator":=let ⟨o,_,e,c,_⟩:=x;⟨o,e,c⟩
theorem JS(T:pG w t):BG w t 0 0:=.inr (by
 obtain⟨h1,h2,h3⟩:=pX t.place 0 T.rise;by_cases z:SetTable.below t.place 0=0
 ·exact z
 ·have:=h1 0 2e0 2e0;omega)
theorem JR(T:pG w t)(e:t.place[i]?=some j):SetTable.below t.place (j+1)=i+1:=by
 obtain⟨hi,ej⟩:=Array.getElem?_eq_some_iff.mp e;obtain⟨h1,h2,h3⟩:=pX t.place (j+1) T.rise;by_cases c:SetTable.below t.place (j+1)<=i
 ·have:=h2 i hi c;omega
 ·by_cases d:i+1 < SetTable.below t.place (j+1)
  ·have h4:i+1 < t.place.size:=by omega
   have h5:=h1 (i+1) h4 d;have h6:=Ε7.mp T.rise i (i+1) (by simpa using hi) (by simpa using h4) 2e0;simp at h6;omega
  ·omega
theorem MT{Q:q0A}(x:kQ w s.heap a es ep t)(q:Q (.ref s.heap.objs.size) {s with heap:=s.heap.push {cls:=.type "set_iterator",data:=.fields #[.int 0 0,.int 0 0,.ref a,.int es.size 0,.int ep 0]}}):wpAny 3e0 A (pyIter (.ref a)) Q E s:=by
 obtain⟨o,e1,e2,e3,e4,T⟩:=id x;refine wpAny_pyIter_slot x.ty F.slot_set_iter (wpAny_call_entry F.slot_set_iter x.ty xM ?_ (F.args_set_iter_1 _));unfold Builtin.«frozenset.__iter__»;refine Β ?_;show wpAny _ _ ((pure (Value.ref a,([]:List Value)):Sem _) >>= fun z=>Builtin.Frozenset.addrOf z.1) _ _ s;refine Β (Θ 7e0);refine Β (Β (Β (Γ5 e1 e3 e4 (Θ 7e0))));refine Β (Β 1e1);refine Β 9e0;refine Θ ?_;show wpAny _ _ (if (!w.params.followText "set-order"&&5e1)=true then _ else _) _ _ s;rw[T.pln];simp only[Bool.not_true,Bool.false_and,Bool.and_false,ϙ,Β4];refine Β (Θ (Β 0e1));refine Β (Β5 (Θ ⟨_,rfl,"set_iterator",_,⟨_,Τ _ rfl,rfl⟩,fU.lookup,by simpa[rawInt] using q⟩))
theorem Al{sl:Nat}{Q:Option (Value×Nat)->Shared->Prop}(x:kQ w s.heap a es ep t)(hs:BG w t i sl)(q1:∀ e XR,6e0[i]?=some e->BG w t (i+1) XR->Q (some (e.2,XR)) s)(q0:6e0[i]?=none->Q none s):wpAny 3e0 A (setNext a sl i ep) Q E s:=by
 obtain⟨o,e1,e2,e3,e4,T⟩:=id x;unfold setNext;refine Β 1e1;dsimp only;refine Β 9e0;show wpAny _ _ 2e1 _ _ s;by_cases c:w.params.followText "set-order"=true
 ·rw[if_pos c,if_neg 1e0];unfold setWalk;refine Β (Β 1e1);dsimp only;refine Β 9e0;show wpAny _ _ 2e1 _ _ s;rw[if_pos c];refine Β (wpAny_askSetting (Θ 7e0));show Q (Option.map _ (pickOrder 4e0 es)[i]?) s;have eo:mM w a es ep=pickOrder 4e0 es:=if_pos c;rw[eo] at q1 q0;cases h:(pickOrder 4e0 es)[i]? with
  | none=>exact q0 h
  | some e=>exact q1 e sl h (.inl c)
 ·rw[if_neg c];have eo:mM w a es ep=es:=if_neg c;rw[eo] at q1 q0;have hb:SetTable.below t.place sl=i:=hs.resolve_left c;have hl:t.led=true:=T.led.resolve_left c;show wpAny _ _ (if 5e1=true then _ else _) _ _ s;rw[T.pln];simp only[Bool.not_true,Bool.false_and,ϙ,Β4];show wpAny _ _ ((if (!t.led&&!es.isEmpty)=true then unsupported "set:maker-not-led" else pure ()) >>= fun _=>_) _ _ s;rw[hl];simp only[Bool.not_true,Bool.false_and,ϙ,Β4];refine Β (Θ 7e0);rw[hb];have hz:t.place.size=es.size:=by
   have:=e4;unfold SetTable.fits at this;simp only[Γ6,beq_iff_eq] at this;exact this.1
  by_cases d:i < es.size
  ·have h1:es[i]?=some es[i]:=Δ1 d;have h2:t.place[i]?=some (t.place[i]' 2e0):=Δ1 2e0;rw[h1,h2];exact q1 _ _ h1 (.inr (JR T h2))
  ·have h1:es[i]?=none:=Array.getElem?_eq_none 2e0;rw[h1];exact q0 h1
def MV(ki:An w s.heap it a i es.size ep t)(x:kQ w s.heap a es ep t){e:Int×Value}(he:6e0[i]?=some e)(q:∀ h',An w h' it a (i+1) es.size ep t->Heap.SameBut it s.heap h'->Q (some e.2) {s with heap:=h'}):wpAny 3e0 A (pyNext 0e0) Q E s:=by
 obtain⟨oi,sl,i1,i2,i3,i4⟩:=id ki;obtain⟨o,e1,e2,e3,e4,T⟩:=id x;have lt:i < es.size:=by have:=(Array.getElem?_eq_some_iff.mp he).1;rw[nS] at this;exact this
 unfold pyNext;refine Β (wpAny_attempt (wpAny_callSpecial?_slot (name:=Str.ofString "__next__") ki.ty fU
  3e1))
 unfold Builtin.«set_iterator.__next__»;refine Β 4e1;show wpAny _ _ 6e1 _ _ s;refine Β 0e1;rw[if_neg 1e0];show wpAny _ _ (setNext a 0e2 (Int.toNat (i:Nat)) 1e2 >>= fun z=>_) _ _ s;simp only[Int.toNat_natCast];refine Β ?_;refine Al x i4 (fun e' XR he' YS=>?_) fun z=>by rw[z] at he;cases he
 rw[he] at he';cases he';show wpAny _ _ (setField 0e0 0 5e0 >>= fun _=>_) _ _ s;refine Β (wpAny_setField i1 i3 1e0 ?_);have j1:(s.heap.update it (Obj.mapFields (·.setIfInBounds 0 5e0))).get? it=some (Obj.mapFields (·.setIfInBounds 0 5e0) oi):=Heap.get?_update_self _ i1 (Obj.isFreed_of_fields (Obj.data_mapFields i3 _));have j3:(Obj.mapFields (·.setIfInBounds 0 5e0) oi).data=.fields #[.int (XR:Nat) 0,.int (i:Nat) 0,.ref a,.int (es.size:Nat) 0,.int (ep:Nat) 0]:=by rw[Obj.data_mapFields i3];simp[rawInt]
 show wpAny _ _ (setField 0e0 1 (rawInt ((i:Int)+1)) >>= fun _=>_) _ _ _;refine Β (wpAny_setField j1 j3 1e0 ?_);refine Θ ⟨_,rfl,Θ (q _ ⟨_,XR,Heap.get?_update_self _ j1 (Obj.isFreed_of_fields (Obj.data_mapFields j3 _)),((Obj.cls_mapFields ..).trans (Obj.cls_mapFields ..)).trans i2,by rw[Obj.data_mapFields j3];simp[rawInt],YS⟩ ((Heap.SameBut.update ..).trans (Heap.SameBut.update ..)))⟩
theorem PV(hh:A.handled=none)(ki:An w s.heap it a es.size es.size ep t)(x:kQ w s.heap a es ep t)(q:∀ h',Heap.ExtBut it s.heap h'->Q none {s with heap:=h'}):wpAny 3e0 A (pyNext 0e0) Q E s:=by
 obtain⟨oi,sl,i1,i2,i3,i4⟩:=id ki;obtain⟨o,e1,e2,e3,e4,T⟩:=id x;unfold pyNext;refine Β (wpAny_attempt (wpAny_callSpecial?_slot (name:=Str.ofString "__next__") ki.ty fU
  3e1))
 unfold Builtin.«set_iterator.__next__»;refine Β 4e1;show wpAny _ _ 6e1 _ _ s;refine Β 0e1;rw[if_neg 1e0];show wpAny _ _ (setNext a 0e2 (Int.toNat (es.size:Nat)) 1e2 >>= fun z=>_) _ _ s;simp only[Int.toNat_natCast];refine Β ?_;refine Al x i4 (fun e' XR he' YS=>by
  have:=(Array.getElem?_eq_some_iff.mp he').1;rw[nS] at this;omega) fun _=>?_
 show wpAny _ _ (setField 0e0 2 .none >>= fun _=>_) _ _ s;refine Β (wpAny_setField i1 i3 1e0 ?_);show wpAny _ _ (newExc (.type "StopIteration") [] >>= fun _=>_) _ _ _;refine Β ?_;simp only[newExc,newTuple];refine Β 8e1;refine Β (m:=firstArgMember _ _) (wpAny_of_eq (a:=Value.none) (by first|rfl|(simp only[firstArgMember];rfl)) 8e1)
 simp only[raiseNew];refine Β (wpAny_handled ?_);rw[show A.in1.handled=none from hh];refine Β (Θ (wpAny_throw ?_));refine Β (wpAny_isInstance (T:="StopIteration") (b:=true) ⟨_,Τ _ rfl,rfl⟩ (show _ from isSubtype_stop) ?_);exact Θ (q _ (((Heap.SameBut.update ..).extBut.push _).push _))
def MW{Q:q0A}(ki:An w s.heap it a i n ep t)(h:Q 0e0 s):wpAny 3e0 A (pyIter 0e0) Q E s:=by
 refine wpAny_pyIter_slot ki.ty sF (wpAny_call_entry sF ki.ty Ax ?_ (BL _));show wpAny _ _ (ret 0e0) _ _ s;exact Θ ⟨_,rfl,"set_iterator",_,ki.ty,fU.lookup,h⟩
def JZ(hh:A.handled=none)(it a:Addr)(ne:a≠it)(es:Array 8e0)(ep:Nat)(t:SetTable) : Walks P w A it [it,a] [it] es.size (fun i v=>∃ e,6e0[i]?=some e/\v=e.2) (fun i h=>An w h it a i es.size ep t/\kQ w h a es ep t) where
 sub:=fun b hb=>by simp at hb;simp[hb]
 frame:=fun _ _ _ st hk=>⟨st.1.to fun o e=>hk it 1e0 o e,st.2.to fun o e=>hk a 1e0 o e⟩
 item:=fun i s Q E hi st hQ=>MV st.1 st.2 (Δ1 9e1) fun h' k2 sb=>hQ _ h' s.toks ⟨_,Δ1 9e1,rfl⟩ ⟨k2,st.2.to fun o e=>sb.extBut a o ne e⟩ fun b o hb e=>sb.extBut b o 7e1 e
 done:=fun s Q E st hQ=>PV hh st.1 st.2 fun h' he=>hQ h' s.toks fun b o hb e=>he b o 7e1 e
 self:=fun _ _ _ _ st hQ=>MW st.1 hQ
end
end
section
variable{prog:Program}{r:Addr}{es:Array (Int×Value)}{ep:Nat}
theorem LS{Q:Bool->Shared->Prop}(hT:s.TypeIs (.ref r) "set")(h:Q false s):wpAny (model prog w) A (Builtin.List.listLengthHint (.ref r)) Q E s:=by
 unfold Builtin.List.listLengthHint;refine Β (wpAny_specialOf hT PySem.F.slot_set_len.lookup ?_);generalize hid:("set.__len__":String)=id0
 wp_delta
 rw[show splitId id0=some ("set","__len__") from by subst hid;decide +kernel];subst hid;refine Β (wpAny_isInstance (T:="set") (b:=true) hT (by rw[isSubtype_type];kernel_rfl) ?_);refine wpAny_ite_split (fun hab=>absurd hab (by decide)) (fun _=>?_);refine wpAny_ite_split (fun _=>?_) (fun hab=>absurd (by decide +kernel) hab);refine Β (wpAny_typeOf hT ?_);exact Θ h
open PySem.W in
theorem P4:KdlSrc prog w "set" a a es.size (fun i v=>∃ e,(mM w a es ep)[i]?=some e/\v=e.2) (fun h=>kQ w h a es ep t) where
 type:=fun _ hm=>hm.ty
 there:=fun _ hm=>⟨hm.lt,hm.lt⟩
 keep:=fun _ _ hm hk=>hm.to fun o e=>hk a (.inl rfl) o e
 notList:=by decide
 notTuple:=by decide
 hint:=fun _ _ _ _ hm hq=>LS hm.ty hq
 iter:=fun _ _ hh hm=>⟨_,_,(fun _ _ hq=>MT hm hq),JZ hh _ a (Ο hm.lt) es ep t,⟨⟨_,0,Τ _ rfl,rfl,rfl,JS (let ⟨_,_,_,_,_,T⟩:=hm;T)⟩,hm.to fun o e=>Ε _ e⟩⟩
end
mutual
example:=[List.Mem.head _,(by omega),.lst (XH.map V.int),.ref l,seqObj "list" vs.toArray 0,List.Mem.tail _ mem,EF P w p ns,.type "set",I.ok.hd hc]
theorem Kl:bootBuiltins "set"=some 7e0:=by decide +kernel
def look1{k z:Str}{c:Addr}{r:List (Str×Addr)}(e:List.lookup k r=some a)(h:List.lookup z [(k,a)]=some c):List.lookup z r=some c:=by
 simp only[List.lookup] at h;split at h
 ·next y=>cases h;rw[eq_of_beq y];exact e
 ·cases h
def EF(P:Program)(w:World)(a:Addr)(ns:List Int):HO:=.ext (sL P w a ns)
def PU(x:sL X.prog X.w a ns h):eB X.prog X.w H h a (EF X.prog X.w a ns) :=
 ⟨x,let ⟨o,_,_,_,e,_⟩:=x;⟨o,e⟩,fun _ _ y k=>y.keep k⟩
def mL(ns:List Int):List Int:=once (fun i=>ns.getD i 0) ns.length
def Kv(P:Program)(w:World):List V->Hp->VK->Prop:=fun vs H Q=>on1 vs fun x=>bG x fun p=>∃ ns:List Int,H p=some (.lst (ns.map V.int))/\ns.length<=4/\∀ l,H l=none->Q 3e0 (Xt H l (EF P w l (mL ns)))
theorem AS(hc:X.calm=true):hJ X 7e0 (Kv X.prog X.w):=fun Xs s σ H xs us Q I r h=>by
 obtain⟨x,rfl,h1⟩:=kM h;obtain⟨p,rfl,ns,e,h4,q⟩:=aT h1;obtain⟨u,rfl,ru⟩:=vals1 r;cases ru;obtain⟨Xw,r',pl,hz⟩:=I.list (gE.of e);have hi:IntsAre Xw ns:=Fn r';have hlen:=r'.length;have lm:Xw.toArray.size=ns.length:=by simpa using hlen.symm
 refine CZ (items:=Xw.toArray) 8e0 pl.isList (by simpa using hi) 1e0 fun h' tk hS kp=>?_;rw[lm] at hS;exact⟨.ref s.heap.objs.size,_,I.laid (t':=tk) (fun b o e=>kp b o (Λ e) e) (Ι _) (PU hS),rfl,q _ (I.Xz.fresh (Ι _))⟩
def Ku(P:Program)(w:World):List V->Hp->VK->Prop:=fun vs H Q=>on1 vs fun x=>bG x fun p=>∃ ns:List Int,H p=some 6e0/\Q (.int ns.length) H
theorem EV:hJ X (.builtin "len") (Ku X.prog X.w):=fun Xs s σ H xs us Q I r h=>by
 obtain⟨x,rfl,h1⟩:=kM h;obtain⟨p,rfl,ns,e,q⟩:=aT h1;obtain⟨u,rfl,ru⟩:=vals1 r;cases ru;obtain⟨⟨o,es,ep,t,ho,hex,hd,hel,hb,hf,T,hi,hp⟩,_⟩:=I.Xz p _ e;have hl:es.size=ns.length:=by have:=hp.length_eq;simpa using this
 have b1:scanBound=4096:=rfl;refine call_len_set ho hex hd hf 1e0 ?_;exact⟨.int ns.length,H,I.tok _,⟨_,by rw[hl]⟩,q⟩
def Kx(P:Program)(w:World):List V->Hp->VK->Prop:=fun vs H Q=>on1 vs fun x=>bG x fun p=>∃ ns:List Int,H p=some 6e0/\ns.length < 64/\∀(l:Addr) (XH:List Int),H l=none->XH.Perm ns->XH.Pairwise (·<=·)->Q 3e0 (Xt H l 2e0)
theorem EW(hc:X.calm=true):hJ X (.builtin "sorted") (Kx X.prog X.w):=fun Xs s σ H xs us Q I r h=>by
 obtain⟨x,rfl,h1⟩:=kM h;obtain⟨p,rfl,ns0,e,h64,q0⟩:=aT h1;obtain⟨u,rfl,ru⟩:=vals1 r;cases ru;obtain⟨⟨od,es,ep,t,ho,hex,hd,hel,hb,hf,T,hi,hp0⟩,_⟩:=I.Xz p _ e;have hl:es.size=ns0.length:=by have:=hp0.length_eq;simpa using this
 obtain⟨m,hn,_⟩:=I.loc;have Yb:p≠X.env.locals:=aF e I.free;obtain⟨ns,ZQ⟩:∃ ns,ns=(mM X.w p es ep).toList.map fun e=>Ds e.2:=⟨_,rfl⟩;have pns:ns.Perm ns0:=by rw[ZQ];exact(zC.map _).trans hp0
 have lns:ns.length=es.size:=by rw[ZQ];simp[nS]
 have q:∀(l:Addr) (XH:List Int),H l=none->XH.Perm ns->XH.Pairwise (·<=·)->Q 3e0 (Xt H l 2e0):=fun l XH a b c=>q0 l XH a (b.trans pns) c;refine PySem.W.kdu_sorted (P4 (a:=p) (es:=es) (ep:=ep) (t:=t)) 8e0 (Att.Fl hn) (Att.nL Yb ho) ⟨od,ho,hex,hd,hf,T⟩ (by rw[Ε1];omega) fun D h' tk vs F N lt hlen hP=>?_;have hI:IntsAre vs ns:=Hj 1e0 fun j v ev=>by
  obtain⟨e,e1,rfl⟩:=hP j v ev;have Yw:(mM X.w p es ep).toList[j]?=some e:=by rw[Γ9];exact e1
  obtain⟨i,tk,et⟩:=hi e (zC.mem_iff.mp (ϒ Yw));exact⟨i,tk,by rw[ZQ,ϕ,Yw];simp only[Option.map_some,et,Ds],et⟩
 have hD:h'.get? D=some 4e0:=(N _ 0e0).1;have old:∀ b o,b≠X.env.locals->s.heap.get? b=some o->h'.get? b=some o/\b < D:=fun b o nb eb=>by
  by_cases hb:b=p
  ·subst hb;rw[ho] at eb;cases eb;exact⟨(N _ (List.Mem.tail _ 0e0)).1,lt _ 0e0⟩
  ·have mem:=Att.l6 (h:=s.heap) (L:=X.env.locals) (d:=p) |>.mpr ⟨nb,hb,eb⟩;exact⟨(N _ (List.Mem.tail _ 5e0)).1,lt _ 5e0⟩
 have g:MeetsIn X.prog X.w (Builtin.«list.sort» ⟨[.ref D],[]⟩) (fun _ R s=>s.heap.get? D=some 4e0/\∀(out:Array Value) (XH:List Int),IntsAre out.toList XH->XH.Perm ns->XH.Pairwise (·<=·)->R (.ok (.ret .none)) {s with heap:=sortedHeap s.heap D vs out}) :=
  fun A R s ⟨g1,g2⟩=>list_sort_tree g1 hI 1e0 fun out XH a b c=>g2 out XH a b c
 refine Δ0 PySem.F.slot_list_sort ⟨_,hD,rfl⟩ PySem.F.entry_list_sort (PySem.F.args_list_sort_1 _) g ⟨hD,fun out XH hI' hp hs=>?_⟩;have ZU:D≠X.env.locals:=(N _ 0e0).2.1;have Y7:H D=none:=by
  cases z:H D with
  | none=>rfl
  | some o =>
   obtain⟨ob,eb⟩:=(I.Xz D o z).there;exact absurd (old D ob ZU eb).2 (Ϛ _)
 have new:∀ b o,b≠X.env.locals->s.heap.get? b=some o->(sortedHeap h' D vs out).get? b=some o:=fun b o nb eb=>by
  obtain⟨h1,h2⟩:=old b o nb eb;rw[sortedHeap_old (Ο h2) (Λ h1)];exact h1
 obtain⟨e',hD'⟩:=sortedHeap_at (out:=out) hD;have Zq:∀ m',s.heap.Ns X.env.locals m'->(sortedHeap h' D vs out).Ns X.env.locals m':=fun m' hm=>by
  have em:m'=m:=by
   obtain⟨o1,XY,Zk,a1,b1,_,c1⟩:=hm;obtain⟨o2,es2,ep2,a2,b2,_,c2⟩:=hn;rw[a1] at a2;cases a2;rw[b1] at b2;cases b2;funext y;rw[<- c1,<- c2]
  subst em;obtain⟨o1,XY,Zk,a1,r1⟩:=F.ns;exact⟨o1,XY,Zk,by rw[sortedHeap_old ZU.symm (Λ a1)];exact a1,r1⟩
 have nn:∀ {b:Addr} {o:HO},H b=some o->b≠D:=fun h z=>by subst z;rw[Y7] at h;cases h
 have nl:∀ {b:Addr} {o:HO},H b=some o->b≠X.env.locals:=fun h=>aF h I.free;refine⟨.ref D,Xt H D 2e0,show Xv X Xs σ _ {s with heap:=sortedHeap h' D vs out,gens:=s.gens,drawn:=s.drawn,toks:=tk} from I.step (g':=s.gens) (d':=s.drawn) (t':=tk) (ch:=[]) (fun _ z=>nomatch z) (fun b o nb _ _ eb _=>new b o nb eb) (fun b o nb _ _ eb _=>⟨o.slots,new b o nb eb⟩) (fun b o _ eb hb=>?_) (fun b o _ eb=>?_)
  (fun b xs hb=>by rw[aC (nn hb)];exact hb) (fun b o u hb=>by rw[aC (nn hb)];exact hb) (fun b ps hb=>⟨#[],by rw[aC (nn hb),hb];simp⟩) Zq (fun b o hb=>?_) I.bare,rfl,q D XH Y7 hp hs⟩
 ·by_cases YI:b=D
  ·subst YI;by_cases YJ:b=X.env.locals
   ·exact absurd YJ ZU
   ·exact absurd (old b o YJ eb).2 (Ϛ _)
  ·rw[aC YI];exact hb
 ·by_cases YJ:b=X.env.locals
  ·subst YJ;obtain⟨o1,XY,Zk,a1,r1⟩:=Zq m hn;exact⟨o1,a1⟩
  ·exact⟨o,new b o YJ eb⟩
 ·by_cases YI:b=D
  ·subst YI;rw[aA] at hb;cases hb;exact⟨by rw[Γ,hp.length_eq,Ε1];omega,out.toList,e',pB hI',hD'⟩
  ·rw[aC YI] at hb;refine(I.Xz b o hb).vB (fun c v hc ev=>?_) (fun c hc=>by rw[aC (nn hc)];exact hc) fun c xs hc=>by rw[aC (nn hc)];exact hc
   rcases hc with hc|hc
   ·subst hc;exact new c v (nl hb) ev
   ·exact new c v (nl hc) ev
end
section
variable{Q:VK}{p:Addr}
def ON:Kv P w [.ref p] H Q = ∃ ns:List Int,H p=some (.lst (ns.map V.int))/\ns.length<=4/\∀ l,H l=none->Q (.ref l) (Xt H l (EF P w l (mL ns))):=rfl
def OE:Ku P w [.ref p] H Q = ∃ ns:List Int,H p=some (EF P w p ns)/\Q (.int ns.length) H:=rfl
def Lz:Kx P w [.ref p] H Q = ∃ ns:List Int,H p=some (EF P w p ns)/\ns.length < 64/\∀(l:Addr) (XH:List Int),H l=none->XH.Perm ns->XH.Pairwise (·<=·)->Q (.ref l) (Xt H l (.lst (XH.map V.int))):=rfl
end
noncomputable def Tz(K:q0B)(n:Nat):R2:=fun x y H Q=>bG x fun a=>bG y fun b=>(∃ r,sJ K H n a b r/\Q (.bl r) H) \/
 ∃(z z' u:Str) (p:Addr) (ts:List V),H a=some (.tup [.str z,.ref p])/\H p=some (.tup ts)/\H b=some (.tup [.str z',.str u])/\z≠z'/\Q (.bl false) H
theorem SS(n:Nat)(hn:2<=n)(hu:X.A.units+n < cLine):j7 X (compareOp .Eq) (Tz X.K n):=fun Xs s σ H x y v u Q I rx ry h=>by
 obtain⟨a,rfl,h1⟩:=aT h;obtain⟨b,rfl,h2⟩:=aT h1;cases rx;cases ry;rcases h2 with⟨r,e,q⟩|⟨z,z',k,p,ts,ea,ep,eb,ne,q⟩
 ·exact MO e I hu X.prog X.w X.xe _ (cF I q rfl)
 ·obtain⟨Xw,r1,p1,_⟩:=I.tuple (jC.of ea);obtain⟨jts,r2,p2,_⟩:=I.tuple (jC.of eb);obtain⟨kts,r3,p3,_⟩:=I.tuple (jC.of ep);cases r1 with
  | cons a1 r1 =>
  cases r1 with
  | cons a2 r1 =>
  cases r1;cases r2 with
  | cons b1 r2 =>
  cases r2 with
  | cons b2 r2 =>
  cases r2;obtain⟨t1,rfl⟩:=a1;cases a2;obtain⟨t2,rfl⟩:=b1;obtain⟨t3,rfl⟩:=b2;have:=SeqAt.RcAt.tuples (A:=X.A) (e:=fun j=>if j=0 then (z==z') else false) (show s.heap.IsTuple a #[_,_] from p1) (show s.heap.IsTuple b #[_,_] from p2) (by omega) (fun j h1 h2=>by
   match j,h1 with
   | 0,_=>exact SeqAt.EqAt.str_str z t1 z' t2
   | 1,_=>exact SeqAt.EqAt.tuple_str k t3 (show s.heap.IsTuple p kts.toArray from p3) (by show X.A.units+1 < _;omega))
  have nz:(z==z')=false:=Β2.mpr ne;have ef:((List.range (min (2:Nat) 2)).all (fun j=>if j=0 then (z==z') else false)&&((2:Nat)==2))=false:=by rw[nz];rfl
  have:=this X.prog X.w X.xe (EP X Xs σ Q) (by
   show EP X Xs σ Q (.bool ((List.range (min (2:Nat) 2)).all (fun j=>if j=0 then (z==z') else false)&&((2:Nat)==2))) s;rw[ef];exact cF I q rfl)
  exact this
section
variable{Q:VK}{b:Addr}
def Ul:Tz K n (.ref a) (.ref b) H Q=((∃ r,sJ K H n a b r/\Q (.bl r) H)\/∃(z z' u:Str) (p:Addr) (ts:List V),H a=some (.tup [.str z,.ref p])/\H p=some (.tup ts)/\H b=some (.tup [.str z',.str u])/\z≠z'/\Q (.bl false) H):=rfl
end
mutual
example:=[List.Mem.head _,(by omega),seqObj "list" vs.toArray 0,List.Mem.tail _ mem,.lst (XH.map V.str)]
def jO:List (Key×V)->Option (List Str)
 | []=>some []
 | (.inr i,_)::r=>(jO r).map (i::·)
 | _=>none
theorem Ae:∀ {kvs:List (Key×V)} {ns:List Str},jO kvs=some ns->kvs.length=ns.length/\∀(j:Nat) (k:Key) (x:V),kvs[j]?=some (k,x)->∃ i:Str,k=.inr i/\ns[j]?=some i
 | [],ns,h=>by cases h;exact⟨rfl,fun j k x e=>by simp at e⟩
 | (k,v)::kvs,ns,h=>by
  cases k with
  | inr i =>
   simp only[jO,Ϝ] at h;obtain⟨ms,e,rfl⟩:=h;obtain⟨l,f⟩:=Ae e;refine⟨by simp[l],fun j k x ej=>?_⟩;cases j with
   | zero=>simp only[Ξ,Ρ,Prod.mk.injEq] at ej;exact⟨i,ej.1.symm,rfl⟩
   | succ j=>exact f j k x (by simpa using ej)
  | _=>cases h
def Qa{ns:List Str}:∀ {vs:List Value},vs.length=ns.length->(∀(j:Nat) (v:Value),vs[j]?=some v->∃ i t,ns[j]?=some i/\v=Value.str i t)->StrsAre vs ns:=by
 induction ns with
 | nil =>
  intro vs hl _;cases vs with
  | nil=>exact .nil
  | cons _ _=>simp at hl
 | cons n ns ih =>
  intro vs hl h;cases vs with
  | nil=>simp at hl
  | cons v vs =>
   obtain⟨i,t,e,rfl⟩:=h 0 v rfl;cases e;exact .cons _ _ (ih (by simpa using hl) fun j v e=>h (j+1) v (by simpa using e))
def Gv{vs:List Value}{ss:List Str}(h:StrsAre vs ss):Xx (ss.map V.str) vs:=by
 induction h with
 | nil=>exact .nil
 | cons y t _ ih=>exact .cons ⟨t,rfl⟩ ih
def Kz:List V->Hp->VK->Prop:=fun vs H Q=>on1 vs fun x=>bG x fun p=>dB (H p) fun kvs=>jF (jO kvs) fun ns=>ns.length < 64/\∀(l:Addr) (XH:List Str),H l=none->XH.Perm ns->sortedS XH=true->Q (.ref l) (Xt H l 4e0)
theorem wU(hc:X.calm=true):hJ X (.builtin "sorted") Kz:=fun Xs s σ H xs us Q I r h=>by
 obtain⟨x,rfl,h1⟩:=kM h;obtain⟨p,rfl,h2⟩:=aT h1;obtain⟨kvs,e,h3⟩:=dG h2;obtain⟨ns,ek,h64,q⟩:=dJ h3;obtain⟨u,rfl,ru⟩:=vals1 r;cases ru;obtain⟨hl,hk⟩:=Ae ek;obtain⟨z,hd,vs0,rel,dd⟩:=pH I.Xz e;obtain⟨ep,dat⟩:=dd.dictAt;obtain⟨od,es,ho,_⟩:=id dat;obtain⟨m,hn,_⟩:=I.loc;have Yb:p≠X.env.locals:=aF e I.free;have l0:=rel.length;refine PySem.W.kdu_sorted (PySem.W.kdl_dict (knd:=bJ X.prog X.w) (kvs:=vs0) (ep:=ep) hd) (I.ok.hd hc) (Att.Fl hn) (Att.nL Yb ho) dat 1e0 fun D h' tk vs F N lt hlen hP=>?_;have hI:StrsAre vs ns:=Qa 1e0 fun j v ev=>by
  obtain⟨k,x,e1,e2⟩:=hP j v ev;have hj:j < kvs.length:=by
   have:=(Ν.mp e1).1;omega
  obtain⟨⟨k',x'⟩,ekv⟩:∃ y,kvs[j]?=some y:=⟨_,ϑ hj⟩;obtain⟨v',e3⟩:=KV.at rel ekv;rw[e1] at e3;cases e3;obtain⟨i,rfl,ei⟩:=hk j _ _ ekv;obtain⟨t,et⟩:=(show ∃ t,v=Value.str i t from rH e2);exact⟨i,t,ei,et⟩
 have hD:h'.get? D=some 2e0:=(N _ 0e0).1;have old:∀ b o,b≠X.env.locals->s.heap.get? b=some o->h'.get? b=some o/\b < D:=fun b o nb eb=>by
  by_cases hb:b=p
  ·subst hb;rw[ho] at eb;cases eb;exact⟨(N _ (List.Mem.tail _ 0e0)).1,lt _ 0e0⟩
  ·have mem:=Att.l6 (h:=s.heap) (L:=X.env.locals) (d:=p) |>.mpr ⟨nb,hb,eb⟩;exact⟨(N _ (List.Mem.tail _ 3e0)).1,lt _ 3e0⟩
 have g:MeetsIn X.prog X.w (Builtin.«list.sort» ⟨[.ref D],[]⟩) (fun _ R s=>s.heap.get? D=some 2e0/\∀(out:Array Value) (XH:List Str),StrsAre out.toList XH->XH.Perm ns->sortedS XH=true->R (.ok (.ret .none)) {s with heap:=sortedHeap s.heap D vs out}) :=
  fun A R s ⟨g1,g2⟩=>list_sort_treeK strKind_oneLt g1 hI.keysOf (fun v₁ v₂ rest e=>keyKind_strs (by rw[<- e];exact hI)) 1e0 fun XT hp hs=>by
   obtain⟨ss',h1,h2,h3⟩:=sorted_out_str hI hp hs;exact g2 _ ss' h1 h2 h3
 refine Δ0 PySem.F.slot_list_sort ⟨_,hD,rfl⟩ PySem.F.entry_list_sort (PySem.F.args_list_sort_1 _) g ⟨hD,fun out XH hI' hp hs=>?_⟩;have ZU:D≠X.env.locals:=(N _ 0e0).2.1;have Y7:H D=none:=by
  cases z:H D with
  | none=>rfl
  | some o =>
   obtain⟨ob,eb⟩:=(I.Xz D o z).there;exact absurd (old D ob ZU eb).2 (Ϛ _)
 have new:∀ b o,b≠X.env.locals->s.heap.get? b=some o->(sortedHeap h' D vs out).get? b=some o:=fun b o nb eb=>by
  obtain⟨h1,h2⟩:=old b o nb eb;rw[sortedHeap_old (Ο h2) (Λ h1)];exact h1
 obtain⟨e',hD'⟩:=sortedHeap_at (out:=out) hD;have Zq:∀ m',s.heap.Ns X.env.locals m'->(sortedHeap h' D vs out).Ns X.env.locals m':=fun m' hm=>by
  have em:m'=m:=by
   obtain⟨o1,XY,Zk,a1,b1,_,c1⟩:=hm;obtain⟨o2,es2,ep2,a2,b2,_,c2⟩:=hn;rw[a1] at a2;cases a2;rw[b1] at b2;cases b2;funext y;rw[<- c1,<- c2]
  subst em;obtain⟨o1,XY,Zk,a1,r1⟩:=F.ns;exact⟨o1,XY,Zk,by rw[sortedHeap_old ZU.symm (Λ a1)];exact a1,r1⟩
 have nn:∀ {b:Addr} {o:HO},H b=some o->b≠D:=fun h z=>by subst z;rw[Y7] at h;cases h
 have nl:∀ {b:Addr} {o:HO},H b=some o->b≠X.env.locals:=fun h=>aF h I.free;refine⟨.ref D,Xt H D 4e0,show Xv X Xs σ _ {s with heap:=sortedHeap h' D vs out,gens:=s.gens,drawn:=s.drawn,toks:=tk} from I.step (g':=s.gens) (d':=s.drawn) (t':=tk) (ch:=[]) (fun _ z=>nomatch z) (fun b o nb _ _ eb _=>new b o nb eb) (fun b o nb _ _ eb _=>⟨o.slots,new b o nb eb⟩) (fun b o _ eb hb=>?_) (fun b o _ eb=>?_)
  (fun b xs hb=>by rw[aC (nn hb)];exact hb) (fun b o u hb=>by rw[aC (nn hb)];exact hb) (fun b ps hb=>⟨#[],by rw[aC (nn hb),hb];simp⟩) Zq (fun b o hb=>?_) I.bare,rfl,q D XH Y7 hp hs⟩
 ·by_cases YI:b=D
  ·subst YI;by_cases YJ:b=X.env.locals
   ·exact absurd YJ ZU
   ·exact absurd (old b o YJ eb).2 (Ϛ _)
  ·rw[aC YI];exact hb
 ·by_cases YJ:b=X.env.locals
  ·subst YJ;obtain⟨o1,XY,Zk,a1,r1⟩:=Zq m hn;exact⟨o1,a1⟩
  ·exact⟨o,new b o YJ eb⟩
 ·by_cases YI:b=D
  ·subst YI;rw[aA] at hb;cases hb;exact⟨by rw[Γ,hp.length_eq];omega,out.toList,e',Gv hI',hD'⟩
  ·rw[aC YI] at hb;refine(I.Xz b o hb).vB (fun c v hc ev=>?_) (fun c hc=>by rw[aC (nn hc)];exact hc) fun c xs hc=>by rw[aC (nn hc)];exact hc
   rcases hc with hc|hc
   ·subst hc;exact new c v (nl hb) ev
   ·exact new c v (nl hc) ev
end
section
variable{Q:VK}{p:Addr}
def OP:Kz [.ref p] H Q=dB (H p) fun kvs=>jF (jO kvs) fun ns=>ns.length < 64/\∀(l:Addr) (XH:List Str),H l=none->XH.Perm ns->sortedS XH=true->Q (.ref l) (Xt H l (.lst (XH.map V.str))):=rfl
end
end L2
namespace PySem
open AutoSeq1 (wpAny_loadPart')
open PyProof.Rows PySem.W
section
variable {prog:Program} {w:World} {A:Around} {E:q0A} {s:Shared} {K:Type} [DecidableEq K] {knd:KeyKind prog w K} {r d:Addr} {kvs:List (K×Value)} {ep:Nat}
def m9{Q₁:q0A}(hh:A.handled=none)(hv:s.heap.IsItemsView r d)(hm:s.heap.DictAt knd d kvs ep)(hn:kvs.length<=sizeLine)(hQ:∀(h':Heap) (tk:Nat) (as:List Addr),(∀ b o,s.heap.get? b=some o->h'.get? b=some o)->as.length=kvs.length->KdxG knd kvs s.heap.objs.size h' as->Q₁ (.ref h'.objs.size) {s with heap:=h'.push {cls:=.type "tuple",data:=.seq (as.map Value.ref).toArray},toks:=tk}) : codeAny (model prog w) A (.call (.builtin "tuple.__new__") ⟨[.type "tuple",.ref r],[]⟩) (wants Q₁ E) s:=by
 refine codeAny_of_tree ?_;show wpAny _ A.in1 (do checkBuiltinCall "tuple.__new__" ⟨[.type "tuple",.ref r],[]⟩;again (.builtin "tuple.__new__" ⟨[.type "tuple",.ref r],[]⟩)) _ _ s;refine Β (wpAny_of_eq (F.newCall_tuple_1 _) (Θ ⟨plainId_quiet F.plain_tuple_new _,Ε6 F.entry_tuple_new ?_⟩));rw[Δ8 F.plain_tuple_new _];have aaD:=sub_tuple_self;have acP:=init_tuple_lookup;have hmh:=madeHere_tuple;have hTI:s.TypeIs (.ref r) "dict_items":=let ⟨o,ho,x,_⟩:=hv;⟨o,ho,x⟩;wp_walk using wpAny_typeOf hTI,kdx_collect (A:=A.in1) (knd:=knd) (kvs:=kvs) (ep:=ep) hh hv hm hn;intro h' tk as hk hl hG;show wpAny _ _ (Builtin.Tuple.tupleExact (as.map Value.ref).toArray >>= fun v=>ret v) _ _ _;unfold Builtin.Tuple.tupleExact;refine Β (Β5 ?_ (by show(as.map Value.ref).toArray.size<=sizeLine;simpa[hl] using hn));refine Θ ?_;exact hQ h' tk as hk hl hG
theorem sM{Q:q0A}(hh:A.handled=none)(hv:s.heap.IsItemsView r d)(hm:s.heap.DictAt knd d kvs ep)(hn:kvs.length<=sizeLine)(hQ:∀(h':Heap) (tk:Nat) (as:List Addr),(∀ b o,s.heap.get? b=some o->h'.get? b=some o)->as.length=kvs.length->KdxG knd kvs s.heap.objs.size h' as->Q (.ref h'.objs.size) {s with heap:=h'.push {cls:=.type "tuple",data:=.seq (as.map Value.ref).toArray},toks:=tk}) : wpAny (model prog w) A (call (.type "tuple") [.ref r]) Q E s:=by
 refine callType_codes (Q₁:=fun obj s₁=>s₁.TypeIs obj "tuple"/\Q obj s₁) F.called_tuple (F.typeCall_tuple_1 _) F.entry_object_init
  (m9 (knd:=knd) (kvs:=kvs) (ep:=ep) hh hv hm hn fun h' tk as hk hl hG=>⟨⟨_,Τ _ rfl,rfl⟩,hQ h' tk as hk hl hG⟩) fun obj s₁ h₁=>?_
 exact⟨h₁.1,F.args_object_init_2 obj _,object_init_meets F.called_tuple.init.lookup F.called_tuple.made (by decide) prog w A.in1 _ s₁ ⟨h₁.1,rfl,h₁.2⟩⟩
end
end PySem
namespace L2
open PySem PySem.Spec PyProof.Rows
variable{a:Addr}{items:Array Value}{X:Cx}{H:Hp}{kvs:List (Key×V)}{ns:List Int}{vs:List Value}{i n:Nat}{st:SortSt}
def QQ(a d:Addr):HO:=.ext fun h=>h.IsItemsView a d
section
variable{o:Expr}{td:TE}{apos XB:Pos}
def Ks(td:TE):TE:=fun σ H Q=>td σ H fun x H1=>bG x fun a=>dB (H1 a) fun _=>∀ r,H1 r=none->Q (.ref r) (Xt H1 r (QQ r a))
def ME(ho:PE X o td)(X4:attributeBase o "items" X.env (eval o X.env)=eval o X.env:=by rfl)(X5:(apos.endLine==XB.line)=true:=by rfl):PE X (.Call (.Attribute o "items" apos) [] [] XB) (Ks td):=fun Xs s σ H Q I h=>by
 refine wpAny_Call_method0_late X4 X5 (thn (ho Xs s σ H _ I h) fun v s1 ⟨x,H1,I1,r1,q1⟩=>?_);obtain⟨a,rfl,q2⟩:=aT q1;obtain⟨kvs,e0,q3⟩:=dG q2;obtain rfl:v=Value.ref a:=r1;obtain⟨t1,t2,_⟩:=sX I1 (.inl ⟨kvs,.inl e0⟩);refine⟨"dict","dict.items",Γ2,PySem.F.slot_dict_items,PySem.F.type_dict_items,t1,t2,Α6 rfl (PySem.evalArgs_none ?_)⟩;obtain⟨z,hd,vs,rel,dd⟩:=pH I1.Xz e0;refine Δ0 PySem.F.slot_dict_items dd.typeIs PySem.F.entry_dict_items (PySem.F.args_dict_items_1 _) (meets_dict_items (bJ X.prog X.w) a hd) ⟨⟨vs,dd⟩,?_⟩;have I2:=I1.laid (t':=s1.toks) (fun b o e=>Ε _ e) (Ι _) (show eB X.prog X.w _ (s1.heap.push {cls:=.type "dict_items",data:=.fields #[.ref a]}) _ (QQ s1.heap.objs.size a) from ⟨⟨_,Τ _ rfl,rfl,rfl⟩,⟨_,Τ _ rfl⟩,fun h1 h2 ⟨o,ho,x⟩ k=>⟨o,k o ho,x⟩⟩);exact⟨.ref _,_,I2,rfl,q3 _ (I1.Xz.fresh (Ι _))⟩
end
mutual
example:=[Key×V,as.map V.ref,.tup 1e0,(.tup [kV k,x]),mV as kvs H]
def KV.atR{vs:List (Key×Value)}(r:KV kvs vs){k:Key}{x:V}(e:kvs[i]?=some (k,x)):∃ v,vs[i]?=some (k,v)/\bP x v:=by
 unfold KV at r
 induction r generalizing i with
 | nil=>simp at e
 | @cons p q ps qs h t ih=>cases i with
  | zero =>
   have e':p=(k,x):=by simpa using e
   subst e';exact⟨q.2,by rw[Ξ,show k=q.1 from h.1],h.2⟩
  | succ i=>simpa using ih (i:=i) (by simpa using e)
theorem BF:∀ as:List Addr,Xx 1e0 (as.map Value.ref)
 | []=>.nil
 | a::as=>.cons rfl (BF as)
def mV:List Addr->List 0e0->Hp->Hp
 | a::as,(k,x)::kvs,H=>Xt 4e0 a 3e0
 | _,_,H=>H
theorem oI{H:Hp}{b:Addr}:∀ {as:List Addr} {kvs:List 0e0},b∉as->mV as kvs H b=H b
 | [],_,_=>by simp[mV]
 | a::as,[],_=>by simp[mV]
 | a::as,(k,x)::kvs,h=>by
  simp only[Α,not_or] at h;rw[mV,aC h.1,oI h.2]
theorem wI{H:Hp}{a:Addr}{k:Key}{x:V}:∀ {as:List Addr} {kvs:List 0e0} {j:Nat},as.Nodup->as[j]?=some a->kvs[j]?=some (k,x)->mV as kvs H a=some 3e0
 | [],_,_,_,h,_=>by simp at h
 | b::as,[],_,_,_,h=>by simp at h
 | b::as,(k',x')::kvs,0,_,h1,h2=>by
  simp only[Ξ,Ρ,Prod.mk.injEq] at h1 h2;obtain⟨rfl,rfl⟩:=h2;subst h1;rw[mV,aA]
 | b::as,(k',x')::kvs,j+1,nd,h1,h2=>by
  rw[Ϙ] at nd;simp only[List.getElem?_cons_succ] at h1 h2;have:a≠b:=fun z=>nd.1 (by rw[<- z];exact ϒ h1);rw[mV,aC this,wI nd.2 h1 h2]
theorem Kb{b:Addr}{o:HO}{as:List Addr}(nd:as.Nodup)(hl:as.length=kvs.length)(hb:b∈as)(h:mV as kvs H b=some o):∃(j:Nat) (k:Key) (x:V),as[j]?=some b/\kvs[j]?=some (k,x)/\o=.tup [kV k,x]:=by
 obtain⟨j,hj⟩:=List.mem_iff_getElem?.mp hb;have XW:j < kvs.length:=by have:=(Ν.mp hj).1;omega
 obtain⟨⟨k,x⟩,e⟩:∃ y,kvs[j]?=some y:=⟨_,ϑ XW⟩;rw[wI nd hj e] at h;exact⟨j,k,x,hj,e,(ϗ h).symm⟩
def KJ:List V->Hp->VK->Prop:=fun vs H Q=>on1 vs fun x=>bG x fun r=>∃(d:Addr) (kvs:List 0e0),H r=some (QQ r d)/\H d=some (.dK kvs)/\∀(l:Addr) (as:List Addr) (H':Hp),H l=none->Same H H'->H' l=some 2e0->as.length=kvs.length->(∀(j:Nat) (a:Addr) (k:Key) (x:V),as[j]?=some a->kvs[j]?=some (k,x)->H' a=some 3e0)->Q (.ref l) H'
theorem EY(hc:X.calm=true):hJ X (.type "tuple") KJ:=fun Xs s σ H xs us Q I rr h=>by
 obtain⟨x,rfl,h1⟩:=kM h;obtain⟨r,rfl,d,kvs,er,ed,q⟩:=aT h1;obtain⟨u,rfl,ru⟩:=vals1 rr;cases ru;have hv:s.heap.IsItemsView r d:=(I.Xz r _ er).1;obtain⟨z,hd,vs0,rel,dd⟩:=pH I.Xz ed;obtain⟨ep,dat⟩:=dd.dictAt;have l0:=rel.length;refine sM (knd:=bJ X.prog X.w) (kvs:=vs0) (ep:=ep) (I.ok.hd hc) hv dat (by omega) fun h' tk as hk hl hG=>?_;have fresh:∀ {b:Addr},s.heap.objs.size<=b->H b=none:=fun hb=>I.Xz.fresh hb;have aa7:∀ b o,H b=some o->∃ ob,s.heap.get? b=some ob:=fun b o e=>(I.Xz b o e).there;have hl0:H h'.objs.size=none:=by
  cases e:H h'.objs.size with
  | none=>rfl
  | some o =>
   obtain⟨ob,eb⟩:=aa7 _ _ e;exact absurd (Λ (hk _ _ eb)) (Ϛ _)
 have nd:as.Nodup:=hG.rise.imp fun h=>Ο h;have aH:∀ a∈as,H a=none:=fun a ha=>fresh (Nat.le_of_lt (hG.above a ha));have nl:h'.objs.size∉as:=fun z=>absurd (hG.there z) (Ϛ _);have hlk:as.length=kvs.length:=by omega
 have same:Same H (Xt 4e0 h'.objs.size 2e0):=fun b o e=>by
  have h1:b≠h'.objs.size:=fun z=>by rw[z,hl0] at e;cases e
  have h2:b∉as:=fun z=>by rw[aH b z] at e;cases e
  rw[aC h1,oI h2];exact e
 have YN:∀ b o,s.heap.get? b=some o->(h'.push {cls:=.type "tuple",data:=.seq (as.map Value.ref).toArray}).get? b=some o:=fun b o e=>Ε _ (hk b o e);refine⟨.ref h'.objs.size,Xt 4e0 h'.objs.size 2e0,show Xv X Xs σ _ {s with heap:=h'.push {cls:=.type "tuple",data:=.seq (as.map Value.ref).toArray},gens:=s.gens,drawn:=s.drawn,toks:=tk} from I.step (g':=s.gens) (d':=s.drawn) (t':=tk) (ch:=[]) (fun _ z=>nomatch z) (fun b o nb _ _ eb _=>YN b o eb) (fun b o nb _ _ eb _=>⟨o.slots,YN b o eb⟩) (fun b o _ eb hb=>?_) (fun b o _ eb=>⟨o,YN b o eb⟩)
  (fun b xs hb=>same b _ hb) (fun b o u hb=>same b _ hb) (fun b ps hb=>⟨#[],by rw[same b _ hb];simp⟩) (fun m hm=>?_) (fun b o hb=>?_) I.bare,rfl,q _ as _ hl0 same aA hlk fun j a k x e1 e2=>?_⟩
 ·have h1:b≠h'.objs.size:=Ο (Λ (hk b o eb));have h2:b∉as:=fun z=>absurd (Nat.lt_trans (hG.above b z) (Λ eb)) (Ϛ _);rw[aC h1,oI h2];exact hb
 ·obtain⟨o1,XY,Zk,a1,r1⟩:=hm;exact⟨o1,XY,Zk,YN _ _ a1,r1⟩
 ·by_cases h1:b=h'.objs.size
  ·subst h1;rw[aA] at hb;cases hb;exact⟨by rw[Γ];omega,as.map Value.ref,BF as,IsTup.new _ _⟩
  ·rw[aC h1] at hb;by_cases h2:b∈as
   ·obtain⟨j,k,x,e1,e2,rfl⟩:=Kb nd hlk h2 hb;obtain⟨key,k',x',e3,e4,e5⟩:=hG.pairs j b e1;obtain⟨v,e6,e7⟩:=KV.atR rel e2;rw[e3] at e6;cases e6;exact⟨by show 2<=sizeLine;rw[Ε1];decide,[key,x'],.cons (rH e4) (.cons e7 .nil),⟨_,Ε _ e5,rfl,_,rfl⟩⟩
   ·rw[oI h2] at hb;exact(I.Xz b o hb).vB (fun c v _ ev=>YN c v ev) (fun c hc=>same _ _ hc) fun c xs hc=>same _ _ hc
 ·have:a≠h'.objs.size:=fun z=>nl (by rw[<- z];exact ϒ e1);rw[aC this,wI nd e1 e2]
end
section
variable{Q:VK}{p:Addr}{td:TE}{σ:St}
def OD:Ks td σ H Q=td σ H fun x H1=>bG x fun a=>dB (H1 a) fun _=>∀ r,H1 r=none->Q (.ref r) (Xt H1 r (QQ r a)):=rfl
def OR:KJ [.ref p] H Q = ∃(d:Addr) (kvs:List (Key×V)),H p=some (QQ p d)/\H d=some (.dK kvs)/\∀(l:Addr) (as:List Addr) (H':Hp),H l=none->Same H H'->H' l=some (.tup (as.map V.ref))->as.length=kvs.length->(∀(j:Nat) (a:Addr) (k:Key) (x:V),as[j]?=some a->kvs[j]?=some (k,x)->H' a=some (.tup [kV k,x]))->Q (.ref l) H':=rfl
end
mutual
example:=[]
def J2(a b:Str):Prop:=a.cps.toList<=b.cps.toList
def Bc{a b c:Str}(h:J2 a b)(g:J2 b c):J2 a c:=List.le_trans h g
def L7{a b:Str}(h:J2 a b)(g:J2 b a):a=b:=by
 have e:=List.le_antisymm h g;obtain⟨⟨x⟩⟩:=a;obtain⟨⟨y⟩⟩:=b;simp only at e;rw[e]
def Jl(a b:Str):J2 a b\/J2 b a:=List.le_total a.cps.toList b.cps.toList
theorem zH:∀ {l:List Str} {p:Str},risingS p l=true->(p::l).Pairwise J2
 | [],p,_=>by simp
 | x::r,p,h=>by
  rw[risingS,Γ6,Bool.not_eq_true',ltCps_eq,decide_eq_false_iff_not,List.not_lt] at h;have ih:=zH h.2;rw[Β9];refine⟨fun y hy=>?_,ih⟩;rcases Α.mp hy with rfl|hy
  ·exact h.1
  ·exact Bc h.1 ((Β9.mp ih).1 y hy)
def Gc{l:List Str}(h:sortedS l=true):l.Pairwise J2:=by
 cases l with
 | nil=>exact .nil
 | cons x r=>exact zH h
theorem HH:∀ {a b:List Str},a.Perm b->a.Pairwise J2->b.Pairwise J2->a=b
 | [],b,p,_,_=>by rw[List.nil_perm.mp p]
 | x::a,[],p,_,_=>by have:=p.length_eq;simp at this
 | x::a,y::b,p,ha,hb=>by
  rw[Β9] at ha hb;have e:x=y:=by
   have h1:x∈y::b:=p.mem_iff.mp (by simp);have h2:y∈x::a:=p.mem_iff.mpr (by simp);rcases Α.mp h1 with h1|h1
   ·exact h1
   rcases Α.mp h2 with h2|h2
   ·exact h2.symm
   exact L7 (ha.1 y h2) (hb.1 x h1)
  subst e;rw[HH p.cons_inv ha.2 hb.2]
def Ve(a b:Str):Bool:=!(ltCps b.cps.toList a.cps.toList)
def oV{a b:Str}:Ve a b=true↔J2 a b:=by
 rw[Ve,Bool.not_eq_true',ltCps_eq,decide_eq_false_iff_not,List.not_lt];exact Iff.rfl
def srt(l:List Str):List Str:=l.mergeSort Ve
def Nm{l ns:List Str}(p:ns.Perm l)(h:sortedS ns=true):ns=srt l:=by
 refine HH (p.trans (List.mergeSort_perm l Ve).symm) (Gc h) ?_;have:=List.pairwise_mergeSort (le:=Ve) (fun a b c h g=>oV.mpr (Bc (oV.mp h) (oV.mp g))) (fun a b=>by
  rcases Jl a b with h|h
  ·rw[oV.mpr h];simp
  ·rw[oV.mpr h];simp) l
 exact this.imp fun h=>oV.mp h
theorem Hs:∀(f n r:Nat),r<=1->minRun' f n r<=n+r
 | 0,n,r,_=>Nat.le_of_eq rfl
 | f+1,n,r,hr=>by
  rw[minRun'_succ];split
  ·omega
  ·have:=Hs f (n / 2) (max r (n % 2)) (by omega);omega
end
section
variable{prog:Program}{w:World}{A:Around}{E:q0A}{s:Shared}{b0:Array Keyed}
mutual
example:=[(by omega),arrOf st,model prog w,(Obj.mapSeq fun _=>#[]),pairsOf (u::v::rest),wpS_get ?_,(by simp),u::v::rest,seqObj "tuple" vs.toArray 0,seqObj "list" #[] e1,seqObj "list" #[] 0,pairsOf vs]
theorem S8{C:Option Nat->SortSt->Prop}(ik:IntKeys b0)(sb:SBase b0 st)(one:1<=b0.size)(up:∀ n,1<=n->n < b0.size->K 1e0 (n - 1)<=K 1e0 n)(q:SortedTo 1e0 b0.size->C (some b0.size) st):wpS 2e0 A E s (countRun' 0 b0.size) C st:=by
 rw[countRun0_eq];refine wpS_bind (wpS_ascLoop ik (Ι _) (Ι 1) one sb (fun i j a b=>?_) fun n n1 n2 so oz=>?_)
 ·obtain rfl:i=j:=by omega
  exact Int.le_refl _
 ·have en:n=b0.size:=by
   rcases oz with z|z
   ·exact z
   ·rcases Nat.lt_or_ge n b0.size with y|y
    ·have:=up n n1 y;omega
    ·omega
  dsimp only;rw[en] at so ⊢;rw[if_pos 6e0];exact wpS_pure (q so)
theorem PZ{C:Unit->SortSt->Prop}(ik:IntKeys b0)(sb:SBase b0 st)(two:2<=b0.size)(up:∀ n,1<=n->n < b0.size->K 1e0 (n - 1)<=K 1e0 n)(q:∀ XT,(arrOf XT).Perm b0->failedOf XT=none->SortedTo (arrOf XT) b0.size->C () XT):wpS 2e0 A E s sortRuns' C st:=by
 rw[sortRuns'_eq];refine wpS_bind 5e0;dsimp only;have mr:=Hs b0.size b0.size 0 0e0;simp only[sb.size];obtain⟨P1,hP1⟩:∃ P1:SortSt->Prop,∀ z,P1 z=(arrOf z=arrOf st/\failedOf z=none/\pendingOf z = #[(0,b0.size,0)]/\SortedTo (arrOf z) b0.size):=⟨_,fun _=>rfl⟩;refine wpS_bind (wpS_mono (wpS_forRange (I:=fun x c z=>(x=0/\c=(none,0)/\z=st)\/(1<=x/\c=(none,b0.size)/\P1 z)) (Q:=fun c z=>c=(none,b0.size)/\P1 z) ?stp ?end0 (.inl ⟨rfl,rfl,rfl⟩)) ?aft)
 case end0 =>
  rintro c z (⟨a,_,_⟩|⟨_,a,b⟩)
  ·omega
  ·exact⟨a,b⟩
 case stp =>
  rintro x c z _ _ (⟨rfl,rfl,rfl⟩|⟨_,rfl,b⟩)
  ·dsimp only;rw[if_neg 0e0];simp only[Nat.sub_zero,Γ4];refine wpS_bind (S8 ik sb 0e0 up fun so=>?_);dsimp only;rw[if_neg 0e0];refine wpS_bind 5e0;rw[show(pendingOf z).back?=none by rw[sb.pend];rfl];dsimp only;refine wpS_bind (wpS_modify (wpS_pure (.inr ⟨Ι _,rfl,?_⟩)));rw[hP1];exact⟨rfl,sb.failed,by show(pendingOf z).push _=_;rw[sb.pend];rfl,so⟩
  ·dsimp only;rw[if_pos (Ι _)];exact wpS_pure ⟨rfl,b⟩
 case aft =>
  rintro c z ⟨rfl,b⟩;rw[hP1] at b;dsimp only;refine wpS_bind (wpS_mono (wpS_forRange (I:=fun _ c y=>y=z/\c=(none,())) (Q:=fun c y=>y=z/\c=(none,())) ?_ (fun _ _ e=>e) ⟨rfl,rfl⟩) ?_)
  ·rintro x c y _ _ ⟨rfl,rfl⟩;refine wpS_bind 5e0;rw[if_pos (by rw[b.2.2.1];exact Ι 1)];exact wpS_pure ⟨rfl,rfl⟩
  ·rintro c y ⟨rfl,rfl⟩;exact wpS_pure (q _ (b.1▸sb.perm) b.2.1 b.2.2.2)
def LY(hI:IntsAre vs ns):∀ {i:Nat} {n:Int},ns[i]?=some n->∃ t,vs[i]?=some (.int n t):=by
 induction hI with
 | nil=>intro i n h;simp at h
 | cons m t _ ih =>
  intro i n h;cases i with
  | zero =>
   simp only[Ξ,Ρ] at h;subst h;exact⟨t,rfl⟩
  | succ i=>exact ih (by simpa using h)
def Qi(hI:IntsAre vs ns){n:Int}(h:ns[i]?=some n):K 1e1 i=n:=by
 obtain⟨t,e⟩:=LY hI h;have z:1e1[i]?=some (.int n t,.int n t):=by
  rw[<- Γ9,pairsOf_toList,List.getElem?_zip_eq_some];exact⟨e,e⟩
 unfold K;rw[z];rfl
theorem Cb{C:Fin->Shared->Prop}(ho:s.heap.get? a=some (seqObj "list" vs.toArray n))(hI:IntsAre vs ns)(hr:ns.Pairwise (·<=·))(hz:vs.length<=sizeLine)(q:∀(out:Array Value) (XH:List Int),IntsAre out.toList XH->XH.Perm ns->XH.Pairwise (·<=·)->C (.done (.ret .none)) {s with heap:=sortedHeap s.heap a vs out}) : wpAny 2e0 A (Builtin.«list.sort» ⟨[.ref a],[]⟩) C E s:=by
 by_cases X8:vs.length < 64
 ·exact list_sort_tree ho hI X8 q
 have lI:vs.length=ns.length:=hI.length;have la:a < s.heap.objs.size:=Λ ho;rw[list_sort_plain];refine Β (listItems_at ho rfl (Β (listUpdate_at ho rfl ?_)));obtain⟨e1,o1⟩:∃ e1,(s.heap.update a 3e0).get? a=some 9e0:=⟨_,get?_update_seq ho (fun _=>#[])⟩;refine Β (seqEpoch_at o1 rfl (Β (wpAny_newTuple (Β (wpAny_newList (Β0 ?_))))));have o6:(((s.heap.update a 3e0).push 8e0).push 0e1).get? a=some 9e0:=Ε _ (Ε _ o1);show wpAny 2e0 A _ C E {s with heap:=((s.heap.update a 3e0).push 8e0).push 0e1};dsimp only;have Yb:¬ vs.toArray.size < 2:=by rw[Ζ];omega
 rw[if_neg Yb,if_neg Yb];obtain⟨u,v,rest,rfl⟩:∃ u v rest,vs=u::v::rest:=by
  match vs,X8 with
  | [],z=>exact absurd 6e0 z
  | [_],z=>exact absurd 6e0 z
  | u::v::rest,_=>exact⟨u,v,rest,rfl⟩
 rw[keyKind_ints hI];refine Β (Θ (Β (Α8 (PZ (b0:=pairsOf 7e0) (st:=SortSt.mk' oneType' ((u::v::rest).toArray.zip (u::v::rest).toArray) #[] 7 none)
  (C:=fun _ z=>(arrOf z).Perm 4e0/\failedOf z=none/\SortedTo (arrOf z) (pairsOf 7e0).size)
  hI.intKeys ⟨Array.Perm.refl _,rfl,rfl,rfl⟩ (by rw[pairsOf_size];simp) (fun i i1 i2=>?_) fun z x y c=>⟨x,y,c⟩) ?_ fun _ _ e=>e)))
 ·rw[pairsOf_size] at i2;have l1:i - 1 < ns.length:=by omega
  have l2:i < ns.length:=by omega
  show K 4e0 (i - 1)<=K 4e0 i;rw[Qi hI (ϑ l1),Qi hI (ϑ l2)];exact Ε7.mp hr (i - 1) i l1 l2 0e0
 rintro⟨⟨⟩,z⟩ s' ⟨rfl,hp,hf,hs⟩;dsimp only;refine Β (seqEpoch_at o6 rfl (Β (listUpdate_at o6 rfl ?_ (hsz2:=by refine Ω (Nat.le_of_eq ((Array.size_map ..).trans (hp.size_eq.trans (pairsOf_size _)))) ?_;omega))));rw[hf];simp only[bne_self_eq_false,ϙ,Β4];obtain⟨XH,h1,h2,h3⟩:=sorted_out hI hp hs;exact Θ (q _ XH h1 h2 h3)
end
end
noncomputable def Ky:List V->Hp->VK->Prop:=fun vs H Q=>on1 vs fun x=>bG x fun p=>dB (H p) fun kvs=>jF (intKeys kvs) fun ns=>ns.Pairwise (· < ·)/\∀(l:Addr) (XH:List Int),H l=none->XH.Perm ns->XH.Pairwise (·<=·)->Q (.ref l) (Xt H l (.lst (XH.map V.int)))
theorem EX(hc:X.calm=true):hJ X (.builtin "sorted") Ky:=fun Xs s σ H xs us Q I r h=>by
 obtain⟨x,rfl,h1⟩:=kM h;obtain⟨p,rfl,h2⟩:=aT h1;obtain⟨kvs,e,h3⟩:=dG h2;obtain⟨ns,ek,abW,q⟩:=dJ h3;obtain⟨u,rfl,ru⟩:=vals1 r;cases ru;obtain⟨hl,hk⟩:=yB ek;obtain⟨z,hd,vs0,rel,dd⟩:=pH I.Xz e;obtain⟨ep,dat⟩:=dd.dictAt;obtain⟨od,es,ho,_⟩:=id dat;obtain⟨m,hn,_⟩:=I.loc;have Yb:p≠X.env.locals:=aF e I.free;have l0:=rel.length;refine PySem.W.kdu_sorted (PySem.W.kdl_dict (knd:=bJ X.prog X.w) (kvs:=vs0) (ep:=ep) hd) (I.ok.hd hc) (Att.Fl hn) (Att.nL Yb ho) dat (by omega) fun D h' tk vs F N lt hlen hP=>?_;have hI:IntsAre vs ns:=Hj (by omega) fun j v ev=>by
  obtain⟨k,x,e1,e2⟩:=hP j v ev;have hj:j < kvs.length:=by
   have:=(Ν.mp e1).1;omega
  obtain⟨⟨k',x'⟩,ekv⟩:∃ y,kvs[j]?=some y:=⟨_,ϑ hj⟩;obtain⟨v',e3⟩:=KV.at rel ekv;rw[e1] at e3;cases e3;obtain⟨i,rfl,ei⟩:=hk j _ _ ekv;obtain⟨t,et⟩:=(show ∃ t,v=Value.int i t from rH e2);exact⟨i,t,ei,et⟩
 have hD:h'.get? D=some (seqObj "list" vs.toArray 0):=(N _ (List.Mem.head _)).1;have old:∀ b o,b≠X.env.locals->s.heap.get? b=some o->h'.get? b=some o/\b < D:=fun b o nb eb=>by
  by_cases hb:b=p
  ·subst hb;rw[ho] at eb;cases eb;exact⟨(N _ (List.Mem.tail _ (List.Mem.head _))).1,lt _ (List.Mem.head _)⟩
  ·have mem:=Att.l6 (h:=s.heap) (L:=X.env.locals) (d:=p) |>.mpr ⟨nb,hb,eb⟩;exact⟨(N _ (List.Mem.tail _ (List.Mem.tail _ mem))).1,lt _ (List.Mem.tail _ mem)⟩
 have g:MeetsIn X.prog X.w (Builtin.«list.sort» ⟨[.ref D],[]⟩) (fun _ R s=>s.heap.get? D=some (seqObj "list" vs.toArray 0)/\∀(out:Array Value) (XH:List Int),IntsAre out.toList XH->XH.Perm ns->XH.Pairwise (·<=·)->R (.ok (.ret .none)) {s with heap:=sortedHeap s.heap D vs out}) :=
  fun A R s ⟨g1,g2⟩=>Cb g1 hI (abW.imp fun h=>Int.le_of_lt h) (by omega) fun out XH a b c=>g2 out XH a b c
 refine Δ0 PySem.F.slot_list_sort ⟨_,hD,rfl⟩ PySem.F.entry_list_sort (PySem.F.args_list_sort_1 _) g ⟨hD,fun out XH hI' hp hs=>?_⟩;have ZU:D≠X.env.locals:=(N _ (List.Mem.head _)).2.1;have Y7:H D=none:=by
  cases z:H D with
  | none=>rfl
  | some o =>
   obtain⟨ob,eb⟩:=(I.Xz D o z).there;exact absurd (old D ob ZU eb).2 (Ϛ _)
 have new:∀ b o,b≠X.env.locals->s.heap.get? b=some o->(sortedHeap h' D vs out).get? b=some o:=fun b o nb eb=>by
  obtain⟨h1,h2⟩:=old b o nb eb;rw[sortedHeap_old (Ο h2) (Λ h1)];exact h1
 obtain⟨e',hD'⟩:=sortedHeap_at (out:=out) hD;have Zq:∀ m',s.heap.Ns X.env.locals m'->(sortedHeap h' D vs out).Ns X.env.locals m':=fun m' hm=>by
  have em:m'=m:=by
   obtain⟨o1,XY,Zk,a1,b1,_,c1⟩:=hm;obtain⟨o2,es2,ep2,a2,b2,_,c2⟩:=hn;rw[a1] at a2;cases a2;rw[b1] at b2;cases b2;funext y;rw[<- c1,<- c2]
  subst em;obtain⟨o1,XY,Zk,a1,r1⟩:=F.ns;exact⟨o1,XY,Zk,by rw[sortedHeap_old ZU.symm (Λ a1)];exact a1,r1⟩
 have nn:∀ {b:Addr} {o:HO},H b=some o->b≠D:=fun h z=>by subst z;rw[Y7] at h;cases h
 have nl:∀ {b:Addr} {o:HO},H b=some o->b≠X.env.locals:=fun h=>aF h I.free;refine⟨.ref D,Xt H D (.lst (XH.map V.int)),show Xv X Xs σ _ {s with heap:=sortedHeap h' D vs out,gens:=s.gens,drawn:=s.drawn,toks:=tk} from I.step (g':=s.gens) (d':=s.drawn) (t':=tk) (ch:=[]) (fun _ z=>nomatch z) (fun b o nb _ _ eb _=>new b o nb eb) (fun b o nb _ _ eb _=>⟨o.slots,new b o nb eb⟩) (fun b o _ eb hb=>?_) (fun b o _ eb=>?_)
  (fun b xs hb=>by rw[aC (nn hb)];exact hb) (fun b o u hb=>by rw[aC (nn hb)];exact hb) (fun b ps hb=>⟨#[],by rw[aC (nn hb),hb];simp⟩) Zq (fun b o hb=>?_) I.bare,rfl,q D XH Y7 hp hs⟩
 ·by_cases YI:b=D
  ·subst YI;by_cases YJ:b=X.env.locals
   ·exact absurd YJ ZU
   ·exact absurd (old b o YJ eb).2 (Ϛ _)
  ·rw[aC YI];exact hb
 ·by_cases YJ:b=X.env.locals
  ·subst YJ;obtain⟨o1,XY,Zk,a1,r1⟩:=Zq m hn;exact⟨o1,a1⟩
  ·exact⟨o,new b o YJ eb⟩
 ·by_cases YI:b=D
  ·subst YI;rw[aA] at hb;cases hb;exact⟨by rw[Γ,hp.length_eq];omega,out.toList,e',pB hI',hD'⟩
  ·rw[aC YI] at hb;refine(I.Xz b o hb).vB (fun c v hc ev=>?_) (fun c hc=>by rw[aC (nn hc)];exact hc) fun c xs hc=>by rw[aC (nn hc)];exact hc
   rcases hc with hc|hc
   ·subst hc;exact new c v (nl hb) ev
   ·exact new c v (nl hc) ev
section
variable{Q:VK}{p:Addr}
def OO:Ky [.ref p] H Q=dB (H p) fun kvs=>jF (intKeys kvs) fun ns=>ns.Pairwise (· < ·)/\∀(l:Addr) (XH:List Int),H l=none->XH.Perm ns->XH.Pairwise (·<=·)->Q (.ref l) (Xt H l (.lst (XH.map V.int))):=rfl
end
theorem DT{xs:List V}{Xw:List Value}(r:Xx xs Xw):∀ js:List Nat,∃ ys,Xx ys (js.filterMap fun x=>Xw.toArray[x]?)/\(∀ y∈ys,y∈xs)/\ys.length<=js.length
 | []=>⟨[],.nil,by simp,by simp⟩
 | j::js=>by
  obtain⟨ys,h1,h2,h3⟩:=DT r js;cases e:xs[j]? with
  | none =>
   have e':=r.none_of e;refine⟨ys,?_,h2,by simp only[Η];omega⟩;rw[List.filterMap_cons_none (by simpa using e')];exact h1
  | some x =>
   obtain⟨u,e',ru⟩:=r.get e;refine⟨x::ys,?_,fun y hy=>?_,by simp only[Η];omega⟩
   ·rw[List.filterMap_cons_some (by simpa using e')];exact .cons ru h1
   ·rcases Α.mp hy with rfl|hy
    ·exact ϒ e
    ·exact h2 y hy
theorem JO{lo hi:Option Int}{k:Int}(h:0 < k)(n:Nat):(sliceRange (sliceBounds lo hi (some k) n).1 (sliceBounds lo hi (some k) n).2.1 (sliceBounds lo hi (some k) n).2.2).length<=n:=by
 have a1:0<=(sliceBounds lo hi (some k) n).1:=by
  cases lo with
  | none=>simp[sliceBounds,h]
  | some i=>simp only[sliceBounds,Ε0,show k > 0 from h,Γ1];omega
 have a2:(sliceBounds lo hi (some k) n).2.1<=n:=by
  cases hi with
  | none=>simp[sliceBounds,h]
  | some i=>simp only[sliceBounds,Ε0,show k > 0 from h,Γ1];omega
 have a3:(sliceBounds lo hi (some k) n).2.2=k:=rfl;generalize sliceBounds lo hi (some k) n=z at *;obtain⟨b,c,d⟩:=z;simp only at a1 a2 a3;subst a3;unfold sliceRange;simp only[Γ,List.length_range,show d > 0 from h,Γ1];split
 ·next hl =>
  have:(c - b+d - 1) / d<=c - b:=by
   refine Int.lt_add_one_iff.mp ?_;refine Int.ediv_lt_of_lt_mul h ?_;have m:(c - b) * 1<=(c - b) * d:=Int.mul_le_mul_of_nonneg_left (by omega) (by omega);rw[Int.add_mul];generalize (c - b) * d=y at *;omega
  omega
 ·simp
section
variable{fr:List Nat}{tc:TT}{te tl:TE}{σ:St}{Q:VK}{K:q0B}
def Ln:Af K (x9 K tl) fr tc te σ H Q=tl σ H fun x H1=>bG x fun a=>(∃ xs,gE K H1 a xs)/\lc2 K (Zg K a) fr tc te σ H1 Q:=by
 unfold Af x9
 congr 1
 funext x H1;exact propext ⟨fun⟨a,e,h1,h⟩=>by subst e;exact⟨h1,h⟩,fun h=>by obtain⟨a,rfl,h1,h⟩:=aT h;exact⟨a,rfl,h1,h⟩⟩
theorem L4{ys:List V}(Pv:Nat->List V->Hp->Prop)(h0:Pv 0 [] H)(hz:∀ i xs H,Pv i xs H->xs.length<=1000000)(hl:∀ i xs H,Pv i xs H->gE K H a ys)(hs:∀(i:Nat) y xs H,i < ys.length->ys[i]?=some y->Pv i xs H->∃ p y1 y2,y=.ref p/\jC K H p [y1,y2]/\tc (some y1::some y2::aX fr σ) H fun b H2=>if b=true then te (some y1::some y2::aX fr σ) H2 (fun z H3=>Pv (i+1) (xs++[z]) H3) else Pv (i+1) xs H2)(hd:∀ xs H,Pv ys.length xs H->∀ p,H p=none->Q (.ref p) (Xt H p (.lst xs))):lc2 K (Zg K a) fr tc te σ H Q:=by
 refine⟨cW ys.length Pv,⟨ys.length,by simp,Α4 _,h0⟩,?_⟩;rintro i m xs H ⟨rfl,hi,pv⟩;refine⟨hz i xs H pv,?_⟩;have q1:=hl i xs H pv;by_cases lt:i < ys.length
 ·refine .inr ⟨⟨ys,ys[i],q1,by simp[lt]⟩,fun v H' yy=>?_⟩;obtain⟨e,yy⟩:=yy;subst e;obtain⟨p,y1,y2,ey,hp,hh⟩:=hs i v xs H' lt (yy ys q1) pv;refine⟨p,y1,y2,ey,hp,?_⟩;simp only[CY lt];exact hh
 ·refine .inl ⟨⟨ys,q1,by omega⟩,?_⟩;exact hd xs H ((show i=ys.length by omega)▸pv)
end
def wQ:R2:=KI
def k7:j7 X (binaryOp .Add) wQ:=Pp
section
variable{prog:Program}{w:World}{A:Around}{E:q0A}{s:Shared}
theorem xH{it t:Addr}{items:Array Value}(Yb:t≠it):∀(n i:Nat) (s:Shared) (Q:List Value->Shared->Prop),s.heap.IsListIter it t i->s.heap.IsList t items->i+n<=items.size -> (∀ h',Heap.IsListIter h' it t (i+n)->Heap.SameBut it s.heap h'->Q ((items.toList.drop i).take n) {s with heap:=h'})->wpAny (model prog w) A (draw (.ref it) n) Q E s
 | 0,i,s,Q,hit,_,_,hQ=>by
  show wpAny _ _ (pure []) Q E s;exact Θ (by simpa using hQ s.heap hit (Heap.SameBut.refl ..))
 | n+1,i,s,Q,hit,ht,hle,hQ=>by
  have XW:i < items.size:=by omega
  show wpAny _ _ (pyNext (.ref it) >>= _) Q E s;refine Β (wpAny_pyNext_list_item hit ht (x:=items[i]) (by simp[XW]) fun h₁ aaT hs₁=>?_);refine Β (Β0 (xH Yb n (i+1) _ _ aaT (ht.extBut hs₁.extBut Yb) (by omega) fun h₂ ab1 hs₂=>Θ ?_));have hd:items.toList.drop i=items[i]::items.toList.drop (i+1):=by simp[List.drop_eq_getElem_cons,XW]
  have:=hQ h₂ (by rw[show i+(n+1)=i+1+n by omega];exact ab1) (hs₁.trans hs₂);rw[hd,Ζ1] at this;exact this
theorem sH{t:Addr}{Q:List Value->Shared->Prop}(hh:A.handled=none)(ht:s.heap.IsList t items)(hQ:∀ h',Heap.ExtBut s.heap.objs.size s.heap h'->Q items.toList {s with heap:=h'}):wpAny (model prog w) A (unpackItems (.ref t) items.size none) Q E s:=by
 have XW:t≠s.heap.objs.size:=by obtain⟨o,ho,_⟩:=ht;exact Ο (Λ ho)
 unfold unpackItems;refine Β ?_
 ·unfold notIterableAtAll;refine Β (wpAny_specialOf ht.typeIs slot_list_iter.lookup ?_);refine Θ ?_;simp only[ϙ,Β4];refine Β (Β0 (wpAny_pyIter_list ht ?_));refine Β (Β0 (xH XW items.size 0 _ _ ⟨_,Τ _ rfl,rfl,rfl⟩ (ht.push _) (by omega) fun h₁ aaT hs₁=>?_));have ZW:List.take items.size (List.drop 0 items.toList)=items.toList:=by
   rw[List.drop_zero];exact List.take_of_length_le (by simp)
  rw[ZW];rw[if_neg (by simp)];have ht₁:h₁.IsList t items:=(ht.push _).extBut hs₁.extBut XW;refine Β (Β0 (wpAny_pyNext_list_end hh aaT ht₁ (by simp) fun h₂ he₂=>?_));simp only[Option.isSome_none,ϙ,Β4];refine Θ (hQ h₂ fun b o hb e=>he₂ b o hb (hs₁.extBut b o hb (Ε _ e)))
def pW{env:Env}{elts:List Expr}{x1}{pos:Pos}{t:Addr}{Q:Unit->Shared->Prop}(hh:A.handled=none)(ht:s.heap.IsList t items)(hn:(assignEach elts env).length=items.size)(abH:(assignEach elts env).findIdx? (·.1)=none)(h:∀ h',Heap.ExtBut s.heap.objs.size s.heap h'->wpAny (model prog w) A (assignInOrder ((assignEach elts env).map (·.2)) items.toList) Q E {s with heap:=h'}) : wpAny (model prog w) A (assign (.Tuple elts x1 pos) env (.ref t)) Q E s:=by
 rw[assign_Tuple];refine Β (wpAny_standAt ?_);unfold unpack;rw[hn,abH];exact Β (Β0 (sH hh ht h))
end
section
variable{pos:Pos}
def UZ(K:q0B)(n:Nat)(t:TGs):TG:=fun v σ H Q=>∃ a xs,v=.ref a/\gE K H a xs/\xs.length=n/\t xs σ H Q
def MI{es:List Expr}{k:Nat}{t:TGs}(hc:X.calm=true)(h:PGs X es t)(hn:(assignEach es X.env).length=n:=by rfl)(XI:(assignEach es X.env).findIdx? (·.1)=none:=by rfl):PG X (.Tuple es k pos) (UZ X.K n t):=by
 intro Xs s σ H v u Q I r hw;obtain⟨a,xs,e1,hq,hl,hw⟩:=hw;subst e1;cases r;obtain⟨Xw,rv,ht,hz⟩:=I.list hq;refine pW (I.ok.hd hc) ht.isList (by simp[hn,<- hl,rv.length]) XI fun h' hx=>?_;have I1:Xv X Xs σ H {s with heap:=h'}:=I.kept (t':=s.toks) fun b o e=>hx b o (Ο (Λ e)) e;exact h Xs _ σ H xs _ Q I1 (by simpa using rv) hw
def RH{K:q0B}{t:TGs}{σ:St}{Q:St->Hp->Prop}:UZ K n t (.ref a) σ H Q = ∃ xs,gE K H a xs/\xs.length=n/\t xs σ H Q:=propext ⟨fun⟨b,xs,e,h⟩=>by cases e;exact⟨xs,h⟩,fun⟨xs,h⟩=>⟨a,xs,rfl,h⟩⟩
end
mutual
example:=[]
def kS(i:Nat):TE:=fun σ H Q=>jF (σ[i]?).join fun v=>Q v H
def GK(t:TE):TT:=fun σ H B=>t σ H fun x H'=>Mq x fun k=>B k H'
def Kn(sp:Sp)(t:TA):TE:=fun σ H Q=>t σ H fun vs H1=>sp vs H1 Q E0
def CW(C:Addr)(m:Str)(sp:Sp)(ta:TE)(t:TA):TE:=fun σ H Q=>ta σ H fun x H1=>bG x fun a=>jE C (H1 a) fun _ fs=>fs.lookup m=none/\t σ H1 fun vs H2=>sp (.ref a::vs) H2 Q E0
end
section
variable{e:Expr}{te ta:TE}{t:TA}{sp:Sp}{C:Addr}{m:Str}
mutual
example:=[]
def PE.cV(h:PE X e (oE i)):PE X e (kS i):=fun Xs s σ H Q I q=>h Xs s σ H Q I (by
 obtain⟨v,e,q⟩:=dJ q;refine⟨v,?_,q⟩;cases z:σ[i]? with
 | none=>rw[z] at e;cases e
 | some o=>rw[z] at e;cases o with
  | none=>cases e
  | some u=>cases e;rfl)
def PT.cT(h:PT X e (Ex te)):PT X e (GK te):=fun Xs s σ H Q I q=>h Xs s σ H Q I (by rw[LB];exact q)
def PE.cC(h:PE X e (Ih sp [] E0 t)):PE X e (Kn sp t):=fun Xs s σ H Q I q=>h Xs s σ H Q I (by rw[Lm];exact q)
def PE.cM(h:PE X e (Ew C m sp [] E0 ta t)):PE X e (CW C m sp ta t):=fun Xs s σ H Q I q=>h Xs s σ H Q I (by rw[Lu];exact q)
end
end
section
variable{v:V}{o0 o1 o2 o3 o4 o5 o6:Option V}{σ:St}{Q:VK}{B:Bool->Hp->Prop}{te ta:TE}{t:TA}{sp:Sp}{C:Addr}{m:Str}
mutual
example:=[]
def Wl:kS 0 (some v::σ) H Q=Q v H:=rfl
def Wm:kS 1 (o0::some v::σ) H Q=Q v H:=rfl
def Wn:kS 2 (o0::o1::some v::σ) H Q=Q v H:=rfl
def Wp:kS 3 (o0::o1::o2::some v::σ) H Q=Q v H:=rfl
def Wq:kS 4 (o0::o1::o2::o3::some v::σ) H Q=Q v H:=rfl
def Wr:kS 5 (o0::o1::o2::o3::o4::some v::σ) H Q=Q v H:=rfl
def Ws:kS 6 (o0::o1::o2::o3::o4::o5::some v::σ) H Q=Q v H:=rfl
def Wt:kS 7 (o0::o1::o2::o3::o4::o5::o6::some v::σ) H Q=Q v H:=rfl
def Q7:GK te σ H B=te σ H fun x H'=>Mq x fun k=>B k H':=rfl
def Q5:Kn sp t σ H Q=t σ H fun vs H1=>sp vs H1 Q E0:=rfl
def Q6:CW C m sp ta t σ H Q=ta σ H fun x H1=>bG x fun a=>jE C (H1 a) fun _ fs=>fs.lookup m=none/\t σ H1 fun vs H2=>sp (.ref a::vs) H2 Q E0:=rfl
end
end
theorem JN{L U k:Int}(h:0 < k)(hL:0<=L)(hU:0<=U)(n:Nat):k * ((sliceRange (sliceBounds (some L) (some U) (some k) n).1 (sliceBounds (some L) (some U) (some k) n).2.1 (sliceBounds (some L) (some U) (some k) n).2.2).length:Int)<=max 0 (min U n - L)+k - 1:=by
 have a1:(sliceBounds (some L) (some U) (some k) n).1=min L n:=by
  simp only[sliceBounds,Ε0,show k > 0 from h,Γ1];omega
 have a2:(sliceBounds (some L) (some U) (some k) n).2.1=min U n:=by
  simp only[sliceBounds,Ε0,show k > 0 from h,Γ1];omega
 have a3:(sliceBounds (some L) (some U) (some k) n).2.2=k:=rfl;rw[a1,a2,a3];unfold sliceRange;simp only[Γ,List.length_range,show k > 0 from h,Γ1];split
 ·next hl =>
  have q:k * ((min U n - min L n+k - 1) / k)<=min U n - min L n+k - 1:=Int.mul_ediv_self_le (by omega);have p:0<=(min U n - min L n+k - 1) / k:=Int.ediv_nonneg (by omega) (by omega);rw[Int.toNat_of_nonneg p];generalize k * ((min U n - min L n+k - 1) / k)=y at *;omega
 ·simp;omega
section
noncomputable def VH(K:q0B)(te:TE)(tl th ts:TO):TE:=fun σ H Q=>te σ H fun x H1=>tl σ H1 fun l H2=>th σ H2 fun u H3=>ts σ H3 fun k H4=>∃ a xs m L U,x=.ref a/\gE K H4 a xs/\(l=some L/\u=some U/\k=some m)/\(0 < m/\0<=L/\0<=U)/\∀(ys:List V) p,(∀ y∈ys,y∈xs)->m * (ys.length:Int)<=max 0 (min U xs.length - L)+m - 1->H4 p=none->Q (.ref p) (Xt H4 p (.lst ys))
theorem Bl{e:Expr}{te:TE}{lo hi:Option Expr}{st:Expr}{tl th ts:TO}{p2 pos:Pos}(he:PE X e te)(hl:PO X lo tl)(hu:PO X hi th)(hs:PO X (some st) ts):PE X (.Subscript e (.Slice lo hi (some st) p2) pos) (VH X.K te tl th ts):=by
 intro Xs s σ H Q I h;refine Subscript_ (thn (he Xs s σ H _ I h) fun v s1 ⟨x,H1,I1,r1,q1⟩=>?_);refine wpAny_Slice (thn (hl Xs s1 σ H1 _ I1 q1) fun vl s2 ⟨l,H2,I2,pl,q2⟩=>thn (hu Xs s2 σ H2 _ I2 q2) fun vu s3 ⟨u,H3,I3,pu,q3⟩=>thn (hs Xs s3 σ H3 _ I3 q3) fun vk s4 ⟨k,H4,I4',pk,q4⟩=>?_);have I4:Xv X Xs σ H4 {s4 with heap:=s4.heap.push {cls:=.type "slice",data:=.fields #[vl,vu,vk]}}:=I4'.kept (t':=s4.toks) fun b ob q=>Ε _ q;obtain⟨a,xs,m,L,U,rfl,hx,⟨rfl,rfl,rfl⟩,⟨hm,hL,hU⟩,q⟩:=q4;cases r1;obtain⟨Xw,r,ht,hz⟩:=I4.list hx;have hlen:=r.length;show wpAny (model X.prog X.w) X.A (subscriptTail e (.Slice lo hi (some st) p2) (.ref a) (.ref s4.heap.objs.size)) (EP X Xs σ Q) X.xe {s4 with heap:=s4.heap.push {cls:=.type "slice",data:=.fields #[vl,vu,vk]}};refine tail_any (ops:=[.ref a,.ref s4.heap.objs.size]) ht.isList.typeIs slot_list_getitem.lookup ?_ (by with_unfolding_all rfl);refine wpAny_getItem_list_slice ht.isList (Heap.IsSliceOf.new ..) pl pu pk (by intro z;cases z;omega) ?_ (by rw[Ζ]<;>omega);obtain⟨ys,h1,h2,h3⟩:=DT r (sliceRange (sliceBounds (some L) (some U) (some m) Xw.toArray.size).1 (sliceBounds (some L) (some U) (some m) Xw.toArray.size).2.1 (sliceBounds (some L) (some U) (some m) Xw.toArray.size).2.2);have h4:=JO (lo:=some L) (hi:=some U) hm Xw.toArray.size;have h6:=JN hm hL hU Xw.toArray.size;rw[Ζ] at h4 h6;have h5:ys.length<=xs.length:=by rw[Ζ] at h3;omega
 have h7:m * (ys.length:Int)<=max 0 (min U xs.length - L)+m - 1:=by
  rw[Ζ] at h3;have:m * (ys.length:Int)<=m * ((sliceRange (sliceBounds (some L) (some U) (some m) Xw.length).1 (sliceBounds (some L) (some U) (some m) Xw.length).2.1 (sliceBounds (some L) (some U) (some m) Xw.length).2.2).length:Int):=Int.mul_le_mul_of_nonneg_left (by omega) (by omega);rw[hlen];omega
 refine⟨.ref (s4.heap.push {cls:=.type "slice",data:=.fields #[vl,vu,vk]}).objs.size,_,I4.laid (t':=s4.toks) (o:=.lst ys) (fun b ob q=>Ε _ q) (Ι _) ?_,rfl,q ys _ h2 h7 (I4.Xz.fresh (Ι _))⟩;exact⟨Ω h5 hz,_,0,h1,Τ _ rfl⟩
def UP{K:q0B}{te:TE}{tl th ts:TO}{σ:St}{Q:VK}:VH K te tl th ts σ H Q=te σ H fun x H1=>tl σ H1 fun l H2=>th σ H2 fun u H3=>ts σ H3 fun k H4=>∃ a xs m L U,x=.ref a/\gE K H4 a xs/\(l=some L/\u=some U/\k=some m)/\(0 < m/\0<=L/\0<=U)/\∀(ys:List V) p,(∀ y∈ys,y∈xs)->m * (ys.length:Int)<=max 0 (min U xs.length - L)+m - 1->H4 p=none->Q (.ref p) (Xt H4 p (.lst ys)):=rfl
end
end L2
namespace Own
open PySem L2
variable{XP:(q0C)->Heap->Prop}{C a dd fl l o2 op:Addr}{ZH:Array (Option Value)}{wt:Bool}{o:HO}{base:Heap}{G H H' H1:Hp}{i j:Int}{kvs:List (Key×V)}{D:List Addr}{ns pd pend pt:List Int}{K L loose:List Str}{ds us xs ys:List V}{N p:Nat}{s0 s1 s2 s3 s4 s5 s6 s7 s8:Sp}{σ:St}{k q:Str}{ot ot':Str->Option V}{v y:V}{Q:VK}{E:XK}{mg:q0C}
local macro_rules | `(tactic| exists $ts,*) => `(tactic| wp_walk using $ts,*)
set_option hygiene false in
local macro_rules | `(tactic| nomatch $a) => `(tactic| refine ($a).ok (fun vs H Q E h => ?_) (fun cdv A outer s H vs Q E hr sc h => ?_))
set_option hygiene false in
local macro_rules | `(tactic| nomatch $a, 0) => `(tactic| (refine ⟨_, $a, ?_⟩; clear sc; try dsimp only [L2.start, Fq, Mb, List.cons_append, List.nil_append, List.replicate_succ, List.replicate_zero, List.length_cons, List.length_nil, Nat.reduceAdd, Nat.reduceSub, Nat.zero_add]))
set_option hygiene false in
local macro_rules | `(tactic| left) => `(tactic| (refine bQ fun R0 hR0 => ?_; try dsimp only))
set_option hygiene false in
local macro_rules | `(tactic| right) => `(tactic| (refine hR0 _ _ ?_; clear hR0; try clear R0))
local macro_rules | `(tactic| and_intros) => `(tactic| try dsimp only [L2.start, Fq, Mb, List.cons_append, List.nil_append, List.replicate_succ, List.replicate_zero, List.length_cons, List.length_nil, Nat.reduceAdd, Nat.reduceSub, Nat.zero_add])
local macro_rules | `(tactic| infer_instance) => `(tactic| first | exact ⟨rfl, by first | exact Or.inl rfl | exact Or.inr (Or.inl rfl) | exact Or.inr (Or.inr rfl), by decide, by decide⟩ | exact ⟨rfl, rfl, rfl, by decide +kernel, rfl, by decide +kernel, by decide +kernel⟩)
seal PE PA PT PW PS YC PI PG PGs PTs PO PPs
mutual
example:=[]
inductive A4(p0 p1 p2 p3:Prop):Prop
 | mk (_:p0) (_:p1) (_:p2) (_:p3):A4 p0 p1 p2 p3
inductive A5(p0 p1 p2 p3 p4:Prop):Prop
 | mk (_:p0) (_:p1) (_:p2) (_:p3) (_:p4):A5 p0 p1 p2 p3 p4
inductive A6(p0 p1 p2 p3 p4 p5:Prop):Prop
 | mk (_:p0) (_:p1) (_:p2) (_:p3) (_:p4) (_:p5):A6 p0 p1 p2 p3 p4 p5
inductive A7(p0 p1 p2 p3 p4 p5 p6:Prop):Prop
 | mk (_:p0) (_:p1) (_:p2) (_:p3) (_:p4) (_:p5) (_:p6):A7 p0 p1 p2 p3 p4 p5 p6
inductive A15(p0 p1 p2 p3 p4 p5 p6 p7 p8 p9 p10 p11 p12 p13 p14:Prop):Prop
 | mk (_:p0) (_:p1) (_:p2) (_:p3) (_:p4) (_:p5) (_:p6) (_:p7) (_:p8) (_:p9) (_:p10) (_:p11) (_:p12) (_:p13) (_:p14):A15 p0 p1 p2 p3 p4 p5 p6 p7 p8 p9 p10 p11 p12 p13 p14
inductive E2{α0 α1:Type}(P:α0->α1->Prop):Prop
 | mk (a0:α0) (a1:α1) (_:P a0 a1):E2 P
inductive E5{α0 α1 α2 α3 α4:Type}(P:α0->α1->α2->α3->α4->Prop):Prop
 | mk (a0:α0) (a1:α1) (a2:α2) (a3:α3) (a4:α4) (_:P a0 a1 a2 a3 a4):E5 P
inductive E6{α0 α1 α2 α3 α4 α5:Type}(P:α0->α1->α2->α3->α4->α5->Prop):Prop
 | mk (a0:α0) (a1:α1) (a2:α2) (a3:α3) (a4:α4) (a5:α5) (_:P a0 a1 a2 a3 a4 a5):E6 P
inductive E7{α0 α1 α2 α3 α4 α5 α6:Type}(P:α0->α1->α2->α3->α4->α5->α6->Prop):Prop
 | mk (a0:α0) (a1:α1) (a2:α2) (a3:α3) (a4:α4) (a5:α5) (a6:α6) (_:P a0 a1 a2 a3 a4 a5 a6):E7 P
inductive E9{α0 α1 α2 α3 α4 α5 α6 α7 α8:Type}(P:α0->α1->α2->α3->α4->α5->α6->α7->α8->Prop):Prop
 | mk (a0:α0) (a1:α1) (a2:α2) (a3:α3) (a4:α4) (a5:α5) (a6:α6) (a7:α7) (a8:α8) (_:P a0 a1 a2 a3 a4 a5 a6 a7 a8):E9 P
structure Tq(K:q0B)(x q:Str)(st:Stmt)(ns ps:List Str)(f:Addr)(d:FuncData)(M:Prop):Prop where
 fn:Fun K x q st f d
 bd:Binds K d ps []
 sc:oG ns ps (cX st)
 m:M
abbrev kP(K:q0B)(mg:q0C)(x:Str)(st:Stmt)(ns ps:List Str)(f:Addr)(d:FuncData):Prop:=Tq K x x st ns ps f d (mg x=some (.ref f))
abbrev oH(K:q0B)(C:Addr)(x q:Str)(st:Stmt)(ns ps:List Str)(f:Addr)(d:FuncData):Prop:=Tq K x q st ns ps f d (Meth K C x f)
end
section
open PySem.Spec PyProof.Rows
variable{P:Program}{w:World}{K:q0B}{h:Heap}{x:Str}{st:Stmt}{ns ps:List Str}{f:Addr}{d:FuncData}{M:Prop}{k:Nat}{sp:Sp}
mutual
example:=[some (.ref f),.ref f,cX st,PySem.W.fnOf x x (iT st) (gF st) (cX st) .none kV doc pm an XQ ct,PySem.W.fnOf x q (iT st) (gF st) (cX st) .none kV doc pm an XQ ct,ps.zip us]
def Tq.ok(g:Tq K x q st ns ps f d M)(len:∀ vs H Q E,sp vs H Q E->vs.length=ps.length)(YK:∀(XQ:Value) (A:Around) (outer:List Env) (s:Shared) (H:Hp) (vs:List V) (Q:VK) (E:XK),Room k (A.deeper (envOfC q 2e0 s.heap.objs.size f XQ))->ns.Nodup->sp vs H Q E -> ∃ t,YC (BO Yj P w K mg base ns q 2e0 f XQ A outer s H E).nox (gF st) t/\t {nx:=fun _ H'=>Q .Xu H',rt:=Q} (start ns vs) H):gM P w K mg base Yj (k+1) f d ps sp:=g.fn.ok g.sc len fun XQ A outer s H vs Q E hr h=>YK XQ A outer s H vs Q E hr g.sc.nd h
def b0{P:List Value->Prop}(h:P []):∀ us:List Value,us.length=0->P us:=fun us e=>by rw[List.length_eq_zero_iff.mp e];exact h
theorem bS{P:List Value->Prop}{n:Nat}(h:∀ a,∀ us:List Value,us.length=n->P (a::us)):∀ us:List Value,us.length=n+1->P us
 | [],e=>by cases e
 | a::us,e=>h a us (Nat.succ.inj e)
structure Gf0(K:q0B)(x:Str)(st:Stmt)(f:Addr)(d:FuncData):Prop where
 a:PySem.W.nsIn K mainGlobals x=some 0e0
 F:Fun K x x st f d
structure Gm0(K:q0B)(C:Addr)(x q:Str)(st:Stmt)(f:Addr)(d:FuncData):Prop where
 a:PySem.W.findIn K (.ref C) x=some 0e0
 i:PySem.W.isFn K 1e0=true
 F:Fun K x q st f d
def U3{oc:Value}{od an:Option Addr}{kV doc pm XQ ct:Value}(a:PySem.W.nsIn K mainGlobals x=some 0e0)(l:K.lookup f=some ⟨oc,od,.func 3e0,ZH⟩)(c:PySem.W.codeIn K XQ x=true)(k:PySem.W.keepIn K 1e0=true):Gf0 K x st f 3e0:=⟨a,LK l c k⟩
def U4{oc:Value}{od an:Option Addr}{kV doc pm XQ ct:Value}(a:PySem.W.findIn K (.ref C) x=some 0e0)(i:PySem.W.isFn K 1e0=true)(l:K.lookup f=some ⟨oc,od,.func 4e0,ZH⟩)(c:PySem.W.codeIn K XQ q=true)(k:PySem.W.keepIn K 1e0=true):Gm0 K C x q st f 4e0:=⟨a,i,LK l c k⟩
def Gf0.go(F:Gf0 K x st f d)(X:K.In h)(G:h.Ns mainGlobals mg)(b:∀(kV doc pm:Value) (an:Option Addr) (XQ ct:Value) (us:List Value),us.length=ps.length->bindArgs 3e0 ⟨us,[]⟩=pure 5e0:=by exact fun _ _ _ _ _ _=>by repeat (first|exact b0 rfl|refine bS fun _=>?_))(sc:oG ns ps 2e0:=by infer_instance):kP K mg x st ns ps f d:=⟨F.F,F.F.binds b,sc,PySem.W.mg_of X G F.a⟩
def Gm0.go(F:Gm0 K C x q st f d)(b:∀(kV doc pm:Value) (an:Option Addr) (XQ ct:Value) (us:List Value),us.length=ps.length->bindArgs 4e0 ⟨us,[]⟩=pure 5e0:=by exact fun _ _ _ _ _ _=>by repeat (first|exact b0 rfl|refine bS fun _=>?_))(sc:oG ns ps 2e0:=by infer_instance):oH K C x q st ns ps f d:=⟨F.F,F.F.binds b,sc,F.a,F.i,F.F.kp⟩
end
end
section
open PySem.Spec PyProof.Rows
variable{X:Cx}{x:Str}{p pos:Pos}{e o:Expr}{es:List Expr}{t:TA}{k:Nat}{f:Addr}{fd:FuncData}{ns ps:List Str}{sp:Sp}{st:Stmt}{ta td ty te tb tv:TE}{a b i value:Expr}
mutual
example:=[.Name x pos,e::es,.Attribute o m apos,Qb r ta tb,(by omega),backToKw pos (keywordEach [] X.env),.Compare a [op] [b] pos,x==("__debug__":Str),starEach es X.env,getMethod ov m pl,compareOp op]
theorem pcl(F:gM X.prog X.w X.K X.mg X.base Yj k f fd ps sp)(g:kP X.K X.mg x st ns ps f fd)(ha:PA X 1e0 t)(hr:Room k X.A:=by exact hr.mono 4e0)(hg:Gl X x:=by rfl)(ZZ:7e0=false:=by decide)(he:starEach 1e0 X.env=(false,eval e X.env)::starEach es X.env:=by rfl)(X0:(backTo pos 8e0).any (·.1)=false:=by rfl) : PE X (.Call (.Name x p) 1e0 [] pos) (Kn sp t):=(Co F hr hg g.m g.fn.kp g.bd .nil pass0 ha ZZ he X0).cC
theorem pmt{m:Str}{apos:Pos}{pl:Sem Bool}(he:PE X o ta)(c:Cls X.K C)(F:gM X.prog X.w X.K X.mg X.base Yj k f fd ps sp)(g:oH X.K C m q st ns ps f fd)(ha:PA X 1e0 t)(hr:Room k X.A:=by exact hr.mono 4e0)
    (XI:starEach 1e0 X.env=(false,eval e X.env)::starEach es X.env:=by rfl) (X0:(backTo pos 8e0).any (·.1)=false:=by rfl)
    (ht:eval (.Call 2e0 1e0 [] pos) X.env=(do
      let ov <- eval o X.env
      standAt apos.atName
      let (f,first) <- holding [ov] 9e0
      callWith pos f first (backTo pos (starEach 1e0 X.env)) 5e0):=by rfl) :
    PE X (.Call 2e0 1e0 [] pos) (CW C m sp ta t):=(Cp he c g.m F hr g.bd .nil pass0 ha XI X0 ht).cM
theorem pmt0{m:Str}{apos:Pos}{pl:Sem Bool}(he:PE X o ta)(c:Cls X.K C)(F:gM X.prog X.w X.K X.mg X.base Yj k f fd ps sp)(g:oH X.K C m q st ns ps f fd)(hr:Room k X.A:=by exact hr.mono 4e0)
    (ht:eval (.Call 2e0 [] [] pos) X.env=(do
      let ov <- eval o X.env
      standAt apos.atName
      let (f,first) <- holding [ov] 9e0
      callWith pos f first (backTo pos (starEach [] X.env)) 5e0):=by rfl) :
    PE X (.Call 2e0 [] [] pos) (CW C m sp ta Ag):=(MG he c g.m F hr g.bd .nil pass0 ht).cM
theorem pst{pos':Pos}(i:Nat)(he:PE X e te)(hN:X.N.Nodup:=by exact sc)(hi:X.N[i]?=some x:=by rfl)(hx:Loc X.env.scope x:=by exact .inl rfl)(hs:swapsWith e (some (.Name x pos')) pos.line X.env=pure false:=by rfl)(hf:X.fn x=true\/X.env.scope.names.lookup x=some .local:=by first|exact .inl rfl|exact .inr rfl|assumption) : PS X (.Assign [.Name x pos'] e pos) (JU te (kD i)):=FV hN hi hx he hs hf
theorem pgn(i:Nat)(hN:X.N.Nodup:=by exact sc)(hi:X.N[i]?=some x:=by rfl)(hx:Loc X.env.scope x:=by exact .inl rfl)(hf:X.fn x=true\/X.env.scope.names.lookup x=some .local:=by first|exact .inl rfl|exact .inr rfl|assumption):PG X 0e0 (kD i):=vU hN hi hx hf
def pdg(ho:PE X o td)(hi:PE X i ty)(hs:NH i:=by exact fun _ _=>rfl)(hu:X.A.units+1 < cLine:=by exact nI hr):PE X (.Subscript o i pos) (Q0 td ty):=nU hu ho hi hs
def ppt{pos':Pos}(ho:PE X o td)(hi:PE X i ty)(hv:PE X value tv)(hs:swapsWith value (some (.Subscript o i pos')) pos.line X.env=pure false:=by rfl)(hu:X.A.units+1 < cLine:=by exact nI hr) : PS X (.Assign [.Subscript o i pos'] value pos) (Q4 td ty tv):=PB hu ho hi hv hs
def ptc{op:CmpOp}{r:R2}(ho:j7 X 0e1 r)(ha:PE X a ta)(hb:PE X b tb)(hm:behindInMarks op b=false:=by exact nomark _):PT X 6e0 (GK 3e0):=(dZ ho ha hb hm).cT
def pcr{op:CmpOp}{r:R2}(ho:j7 X 0e1 r)(ha:PE X a ta)(hb:PE X b tb)(hm:behindInMarks op b=false:=by exact nomark _):PE X 6e0 3e0:=Pq ho ha hb hm
def pix{r:R2}(hr:Gz X r)(ha:PE X a ta)(hb:PE X b tb)(hs:GC b:=by exact fun _ _=>rfl):PE X (.Subscript a b pos) 3e0:=Vm hr ha hb hs
def pa1{t1:TE}{e1:Expr}(a:PE X e1 t1)(i:nJ e1=false:=by rfl):PA X [e1] (oC t1 Ag):=dN a bT i
def pa2{t1 t2:TE}{e1 e2:Expr}(a:PE X e1 t1)(b:PE X e2 t2)(i:nJ e1=false:=by rfl)(j:nJ e2=false:=by rfl):PA X [e1,e2] (oC t1 (oC t2 Ag)):=dN a (pa1 b j) i
def pa3{t1 t2 t3:TE}{e1 e2 e3:Expr}(a:PE X e1 t1)(b:PE X e2 t2)(c:PE X e3 t3)(i:nJ e1=false:=by rfl)(j:nJ e2=false:=by rfl)(k:nJ e3=false:=by rfl):PA X [e1,e2,e3] (oC t1 (oC t2 (oC t3 Ag))):=dN a (pa2 b c j k) i
def pss2{s1 s2:Stmt}{t1 t2:TS}(a:PS X s1 t1)(b:PS X s2 t2):YC X [s1,s2] (Gm t1 t2):=aI a (aG b)
def pss3{s1 s2 s3:Stmt}{t1 t2 t3:TS}(a:PS X s1 t1)(b:PS X s2 t2)(c:PS X s3 t3):YC X [s1,s2,s3] (Gm t1 (Gm t2 t3)):=aI a (pss2 b c)
def pif{c:Expr}{l:List Stmt}{tc:TT}{t1:TS}(hc:PT X c tc)(ha:YC X l t1):PS X (.If c l [] pos) (Eu tc t1 Ij):=gB hc ha PF
def Pk(X:Cx)(i:Nat)(x:Str):Prop:=X.N[i]?=some x/\Vis X.env.scope x/\7e0=false/\(x==("__classdict__":Str))=false
def pv0(h:Pk X 0 x:=by infer_instance):PE X 0e0 (kS 0):=(mB h.1 h.2.1 h.2.2.1 h.2.2.2).cV
def pv1(h:Pk X 1 x:=by infer_instance):PE X 0e0 (kS 1):=(mB h.1 h.2.1 h.2.2.1 h.2.2.2).cV
def pv2(h:Pk X 2 x:=by infer_instance):PE X 0e0 (kS 2):=(mB h.1 h.2.1 h.2.2.1 h.2.2.2).cV
def pv3(h:Pk X 3 x:=by infer_instance):PE X 0e0 (kS 3):=(mB h.1 h.2.1 h.2.2.1 h.2.2.2).cV
def pv4(h:Pk X 4 x:=by infer_instance):PE X 0e0 (kS 4):=(mB h.1 h.2.1 h.2.2.1 h.2.2.2).cV
def pv5(h:Pk X 5 x:=by infer_instance):PE X 0e0 (kS 5):=(mB h.1 h.2.1 h.2.2.1 h.2.2.2).cV
def pv6(h:Pk X 6 x:=by infer_instance):PE X 0e0 (kS 6):=(mB h.1 h.2.1 h.2.2.1 h.2.2.2).cV
def pv7(h:Pk X 7 x:=by infer_instance):PE X 0e0 (kS 7):=(mB h.1 h.2.1 h.2.2.1 h.2.2.2).cV
end
end
def top(i:Nat):Stmt:=PySem.Challenge.pw_outlast_k13_passed_over.main.body.getD i (.Pass ⟨0,0,0,0⟩)
mutual
example:=[top 25,top 11,top 13]
abbrev MR:Stmt:=top 4
abbrev BA:Stmt:=top 6
abbrev Ed:Stmt:=top 7
abbrev zR:Stmt:=top 8
abbrev pS:Stmt:=top 9
abbrev pP:Stmt:=bW 1e0 0
abbrev pQ:Stmt:=bW 1e0 1
abbrev mQ:Stmt:=bW 1e0 2
abbrev j4:Stmt:=bW 1e0 3
abbrev mP:Stmt:=bW 1e0 4
abbrev pR:Stmt:=bW 1e0 5
abbrev lG:Stmt:=bW 1e0 6
abbrev jZ:Stmt:=bW 1e0 7
abbrev zM:Stmt:=bW 2e0 0
abbrev r8:Stmt:=bW 2e0 1
abbrev n8:Stmt:=bW 2e0 2
abbrev r9:Stmt:=bW 2e0 3
abbrev uL:Stmt:=bW 2e0 4
abbrev uM:Stmt:=bW 2e0 5
abbrev uN:Stmt:=bW 2e0 6
abbrev HJ:Stmt:=top 16
abbrev Br:Stmt:=top 17
abbrev Bt:Stmt:=top 18
abbrev Eb:Stmt:=top 19
abbrev D8:Stmt:=top 20
abbrev Ec:Stmt:=top 21
abbrev Ea:Stmt:=top 22
abbrev HI:Stmt:=top 23
abbrev Bn:Stmt:=bW 0e0 0
abbrev zK:Stmt:=bW 0e0 1
abbrev lF:Stmt:=bW 0e0 2
abbrev zJ:Stmt:=bW 0e0 3
abbrev Bp:Stmt:=bW 0e0 4
abbrev mN:Stmt:=bW 0e0 5
abbrev pO:Stmt:=bW 0e0 6
abbrev mO:Stmt:=bW 0e0 7
abbrev Bq:Stmt:=bW 0e0 8
abbrev Bm:Stmt:=bW 0e0 9
abbrev zI:Stmt:=bW 0e0 10
abbrev Bo:Stmt:=bW 0e0 11
abbrev D0:Stmt:=bW 0e0 12
abbrev rZ:Stmt:=bW 0e0 13
abbrev zL:Stmt:=bW 0e0 14
abbrev nZ:Stmt:=bW 0e0 15
abbrev Bu:Stmt:=top 28
abbrev By:Stmt:=top 29
abbrev Bw:Stmt:=top 30
abbrev zQ:Stmt:=top 31
abbrev uR:Stmt:=top 32
abbrev zO:Stmt:=top 33
abbrev uS:Stmt:=top 34
abbrev uO:Stmt:=top 35
abbrev sD:Stmt:=top 36
abbrev sA:Stmt:=top 37
abbrev Bz:Stmt:=top 38
abbrev Bv:Stmt:=top 39
abbrev Ee:Stmt:=top 40
abbrev uU:Stmt:=top 41
abbrev zN:Stmt:=top 42
abbrev sC:Stmt:=top 43
abbrev uQ:Stmt:=top 44
abbrev uP:Stmt:=top 45
abbrev HK:Stmt:=top 46
abbrev mR:Stmt:=top 47
abbrev zP:Stmt:=top 48
abbrev n9:Stmt:=top 50
abbrev Ef:Stmt:=top 51
abbrev Bx:Stmt:=top 52
abbrev uT:Stmt:=top 53
abbrev QB:Stmt:=top 54
set_option genInjectivity false in
set_option genSizeOf false in
structure Ad where
 Tt:Addr
 TV:FuncData
 wN:Addr
 xK:FuncData
 NK:Addr
 Oi:FuncData
 Iz:Addr
 IU:FuncData
 BK:Addr
 BU:FuncData
 qP:Addr
 BQ:FuncData
 BI:Addr
 BR:FuncData
 wH:Addr
 xA:FuncData
 qQ:Addr
 qW:FuncData
 wG:Addr
 w9:FuncData
 BJ:Addr
 BS:FuncData
 uX:Addr
 u0:FuncData
 qO:Addr
 qV:FuncData
 AM:Addr
 IK:FuncData
 CM:Addr
 C6:FuncData
 Aq:Addr
 Av:FuncData
 CN:Addr
 C7:FuncData
 EG:Addr
 E3:FuncData
 EH:Addr
 E4:FuncData
 EI:Addr
 E8:FuncData
 Kf:Addr
 Rf:FuncData
 wJ:Addr
 Ld:FuncData
 CP:Addr
 Le:FuncData
 GH:Addr
 Og:FuncData
 GF:Addr
 Oe:FuncData
 GI:Addr
 Oh:FuncData
 GG:Addr
 Of:FuncData
 Ke:Addr
 Rc:FuncData
 CK:Addr
 K0:FuncData
 Iq:Addr
 II:FuncData
 uW:Addr
 uZ:FuncData
 Ip:Addr
 IG:FuncData
 J9:Addr
 Lb:FuncData
 wD:Addr
 wZ:FuncData
 BH:Addr
 BP:FuncData
 wF:Addr
 w8:FuncData
 Ka:Addr
 Lc:FuncData
 J4:Addr
 KY:FuncData
 Io:Addr
 IF:FuncData
 J8:Addr
 La:FuncData
 NJ:Addr
 Od:FuncData
 CL:Addr
 C5:FuncData
 Ir:Addr
 IJ:FuncData
 Ap:Addr
 Au:FuncData
 Kg:Addr
 Lh:FuncData
 Kj:Addr
 Lk:FuncData
 Kh:Addr
 Li:FuncData
 Iy:Addr
 IT:FuncData
 pU:Addr
 qA:FuncData
 Iv:Addr
 IQ:FuncData
 EO:Addr
 Fe:FuncData
 EL:Addr
 Fb:FuncData
 CT:Addr
 Df:FuncData
 CQ:Addr
 Dd:FuncData
 wM:Addr
 xE:FuncData
 wK:Addr
 xC:FuncData
 NM:Addr
 Oj:FuncData
 ES:Addr
 Fg:FuncData
 Iu:Addr
 IP:FuncData
 CS:Addr
 De:FuncData
 EN:Addr
 Fd:FuncData
 EM:Addr
 Fc:FuncData
 QU:Addr
 Rg:FuncData
 wL:Addr
 xD:FuncData
 Iw:Addr
 IS:FuncData
 Ar:Addr
 Aw:FuncData
 NO:Addr
 Ol:FuncData
 Ki:Addr
 Lj:FuncData
 ER:Addr
 Ff:FuncData
 Wi:Addr
 Wv:FuncData
 yE:Tok
 u9:Tok
 Dr:Tok
 i8:Addr
 aJ:Addr
 aO:Addr
 aN:Addr
end
variable{t:Ad}
mutual
example:=[(if n < 1000000000 then n else 1000000000),some (.ref t.wJ),.int (clamp n)]
structure Tx(P:Program)(w:World)(base:Heap)(K:q0B)(mg:q0C)(t:Ad):Prop where
 AW:kP K mg "kept" MR ["number"] ["number"] t.Tt t.TV
 nH:kP K mg "worth_of" BA ["saying","names","arg","now","answers","kind","one","other"] ["saying","names","arg","now","answers"] t.wN t.xK
 BY:kP K mg "joined" Ed ["sign","one","other","left","right"] ["sign","one","other"] t.NK t.Oi
 kX:kP K mg "number_of" zR ["worth"] ["worth"] t.Iz t.IU
 iD:kP K mg "one_or_nought" pS ["truth"] ["truth"] t.BK t.BU
 lP:oH K t.aJ "__init__" "Tickets.__init__" pP ["self"] ["self"] t.qP t.BQ
 lQ:oH K t.aJ "make" "Tickets.make" pQ ["self","ticket"] ["self"] t.BI t.BR
 eF:oH K t.aJ "is_open" "Tickets.is_open" mQ ["self","ticket"] ["self","ticket"] t.wH t.xA
 iA:oH K t.aJ "those_open" "Tickets.those_open" j4 ["self"] ["self"] t.qQ t.qW
 jU:oH K t.aJ "finish" "Tickets.finish" mP ["self","ticket","worth"] ["self","ticket","worth"] t.wG t.w9
 jI:oH K t.aJ "shut" "Tickets.shut" pR ["self","ticket"] ["self","ticket"] t.BJ t.BS
 gG:oH K t.aJ "shut_all" "Tickets.shut_all" lG ["self"] ["self"] t.uX t.u0
 hZ:oH K t.aJ "first_done" "Tickets.first_done" jZ ["self","worths","tickets"] ["self","worths"] t.qO t.qV
 sV:oH K t.aO "__init__" "Walk.__init__" zM ["self","program"] ["self","program"] t.AM t.IK
 nD:oH K t.aO "come_to" "Walk.come_to" r8 ["self"] ["self"] t.CM t.C6
 e9:oH K t.aO "stands_at" "Walk.stands_at" n8 ["self"] ["self"] t.Aq t.Av
 gU:oH K t.aO "pass_by" "Walk.pass_by" r9 ["self"] ["self"] t.CN t.C7
 lR:oH K t.aO "enter" "Walk.enter" uL ["self","which"] ["self","which"] t.EG t.E3
 qC:oH K t.aO "leave" "Walk.leave" uM ["self"] ["self"] t.EH t.E4
 qD:oH K t.aO "place" "Walk.place" uN ["self"] ["self"] t.EI t.E8
 BW:kP K mg "do_set" HJ ["run","statement"] ["run","statement"] t.Kf t.Rf
 kT:kP K mg "do_order" Br ["run","statement","worth","ticket"] ["run","statement"] t.wJ t.Ld
 q9:kP K mg "do_timer" Bt ["run","statement","worth","due","ticket"] ["run","statement"] t.CP t.Le
 vH:kP K mg "do_send" Eb ["run","statement"] ["run","statement"] t.GH t.Og
 vF:kP K mg "do_drop" D8 ["run","statement","ticket"] ["run","statement"] t.GF t.Oe
 vI:kP K mg "do_wait" Ec ["run","statement","worths","ticket","pending"] ["run","statement"] t.GI t.Oh
 vG:kP K mg "do_hear" Ea ["run","statement","worths"] ["run","statement"] t.GG t.Of
 BV:kP K mg "do_end" HI ["run","statement"] ["run","statement"] t.Ke t.Rc
 xP:oH K t.aN "__init__" "Run.__init__" Bn ["self","program"] ["self","program"] t.CK t.K0
 sU:oH K t.aN "waits" "Run.waits" zK ["self"] ["self"] t.Iq t.II
 eY:oH K t.aN "open_tickets" "Run.open_tickets" lF ["self"] ["self"] t.uW t.uZ
 sS:oH K t.aN "state" "Run.state" zJ ["self","names","letters"] ["self"] t.Ip t.IG
 qY:oH K t.aN "take" "Run.take" Bp ["self","happening"] ["self","happening"] t.J9 t.Lb
 jS:oH K t.aN "passes_over" "Run.passes_over" mN ["self","happening","kind"] ["self","happening"] t.wD t.wZ
 lO:oH K t.aN "take_done" "Run.take_done" pO ["self","ticket","worth"] ["self","ticket","worth"] t.BH t.BP
 jT:oH K t.aN "take_letter" "Run.take_letter" mO ["self","key","worth"] ["self","key","worth"] t.wF t.w8
 qZ:oH K t.aN "wake" "Run.wake" Bq ["self","worth"] ["self","worth"] t.Ka t.Lc
 qX:oH K t.aN "go_on" "Run.go_on" Bm ["self","commands","many","statement"] ["self"] t.J4 t.KY
 sR:oH K t.aN "do_one" "Run.do_one" zI ["self","statement","kind","commands"] ["self","statement"] t.Io t.IF
 xQ:oH K t.aN "look" "Run.look" Bo ["self","statement"] ["self","statement"] t.J8 t.La
 vE:oH K t.aN "end" "Run.end" D0 ["self","worth"] ["self","worth"] t.NJ t.Od
 nC:oH K t.aN "wear_out" "Run.wear_out" rZ ["self"] ["self"] t.CL t.C5
 dX:oH K t.aN "worth" "Run.worth" zL ["self","saying"] ["self","saying"] t.Ir t.IJ
 iU:oH K t.aN "new_ticket" "Run.new_ticket" nZ ["self","name","ticket"] ["self","name"] t.Ap t.Au
 nE:kP K mg "_law_deck" Bu ["cell","turn"] ["cell","turn"] t.Kg t.Lh
 bF:kP K mg "_law_pick" By ["deck","many","found","number"] ["deck","many"] t.Kj t.Lk
 iC:kP K mg "_law_name" Bw ["deck"] ["deck"] t.Kh t.Li
 fT:kP K mg "_law_worth" zQ ["deck","kind"] ["deck"] t.Iy t.IT
 cA:kP K mg "_law_saying" uR ["deck","deep","kind","one"] ["deck","deep"] t.pU t.qA
 sW:kP K mg "_law_plain" zO ["deck","kind"] ["deck"] t.Iv t.IQ
 qG:kP K mg "_law_simple" uS ["deck","kind","sayings"] ["deck"] t.EO t.Fe
 lT:kP K mg "_law_closed" uO ["frames","head","first","second"] ["frames"] t.EL t.Fb
 nG:kP K mg "_law_program" sD ["cells","frames","cell","deck","kind"] ["cells"] t.CT t.Df
 j9:kP K mg "_law_bounded" sA ["number"] ["number"] t.CQ t.Dd
 fK:kP K mg "_law_says" Bz ["saying","run","word","one","other","left","right"] ["saying","run"] t.wM t.xE
 kW:kP K mg "_law_flat" Bv ["block","path","code","k","here","word","at","over"] ["block","path","code"] t.wK t.xC
 vJ:kP K mg "_law_new" Ee ["program","code","run"] ["program"] t.NM t.Oj
 lV:kP K mg "_law_ticket" uU ["run","name"] ["run","name"] t.ES t.Fg
 oQ:kP K mg "_law_ended" zN ["run","worth","orders"] ["run","worth","orders"] t.Iu t.IP
 nF:kP K mg "_law_do_plain" sC ["run","some","orders","word","worth","due"] ["run","some","orders"] t.CS t.De
 qF:kP K mg "_law_do_wait" uQ ["run","some","worths","ready"] ["run","some"] t.EN t.Fd
 qE:kP K mg "_law_do_hear" uP ["run","some"] ["run","some"] t.EM t.Fc
 B0:kP K mg "_law_go" HK ["run","orders","steps","word","some","path","where"] ["run","orders"] t.QU t.Rg
 iB:kP K mg "_law_goes_behind" mR ["run","worth","orders"] ["run","worth","orders"] t.wL t.xD
 oR:kP K mg "_law_takes" zP ["run","happening","orders","word","moment"] ["run","happening"] t.Iw t.IS
 kK:kP K mg "_law_happening" n9 ["deck","run","moment","kind","ticket","key"] ["deck","run"] t.Ar t.Aw
 B3:kP K mg "_law_row" Ef ["program","cells","run","row","k","deck","happening"] ["program","cells"] t.NO t.Ol
 xT:kP K mg "_law_over" Bx ["deck","run","moment","kind","ticket"] ["deck","run"] t.Ki t.Lj
 lU:kP K mg "_law_stands" uT ["run"] ["run"] t.ER t.Ff
 UX:kP K mg "law" QB ["script","program","row","model","run","k","turn","deck","over","ahead"] ["script"] t.Wi t.Wv
 bI:Cls K t.aJ
 Ma:mg "Tickets"=some (.ref t.aJ)
 tJ:Mk K t.aJ t.qP
 cZ:Cls K t.aO
 Vf:mg "Walk"=some (.ref t.aO)
 Fv:Mk K t.aO t.AM
 aQ:Cls K t.aN
 WO:mg "Run"=some (.ref t.aN)
 Me:Mk K t.aN t.CK
 tK:eV K t.aJ "made"
 gY:eV K t.aJ "pending"
 gW:eV K t.aJ "answers"
 i6:eV K t.aO "blocks"
 fB:eV K t.aO "numbers"
 jV:eV K t.aN "walk"
 dI:eV K t.aN "sleep"
 Bf:eV K t.aN "arg"
 rK:eV K t.aN "now"
 gI:eV K t.aN "names"
 cR:eV K t.aN "tickets"
 gX:eV K t.aN "letters"
 mX:mg "GREATEST_WORTH"=some (.int 1000000000 t.yE)
 uY:mg "GREATEST_MOMENT"=some (.int 1000000000000 t.u9)
 CV:mg "MOST_AT_ONCE"=some (.int 300 t.Dr)
 QZ:mg "DEEDS"=some (.ref t.i8)
 Pg:Tr w.params K t.i8
 Ju:PySem.W.nsIn K t.i8 "set"=some (some (.ref t.Kf))
 Dx:PySem.W.nsIn K t.i8 "order"=some 1e0
 Dy:PySem.W.nsIn K t.i8 "timer"=some (some (.ref t.CP))
 Dw:PySem.W.nsIn K t.i8 "child"=some 1e0
 Fz:PySem.W.nsIn K t.i8 "send"=some (some (.ref t.GH))
 Fx:PySem.W.nsIn K t.i8 "drop"=some (some (.ref t.GF))
 FA:PySem.W.nsIn K t.i8 "wait"=some (some (.ref t.GI))
 Fy:PySem.W.nsIn K t.i8 "hear"=some (some (.ref t.GG))
 Jt:PySem.W.nsIn K t.i8 "end"=some (some (.ref t.Ke))
 ND:mg "dict"=none
 AK:mg "int"=none
 mJ:mg "len"=none
 CI:mg "max"=none
 J1:mg "min"=none
 qN:mg "range"=none
 Qh:mg "set"=none
 pC:mg "sorted"=none
 iK:mg "tuple"=none
abbrev Ok{P:Program}{w:World}{base:Heap}{K:q0B}{mg:q0C}{t:Ad}(_:Tx P w base K mg t){x q:Str}{st:Stmt}{ns ps:List Str}{f:Addr}{d:FuncData}{M:Prop}(_:Tq K x q st ns ps f d M)(n:Nat)(sp:Sp):Prop:=gM P w K mg base Yj n f d ps sp
def Xr{CX:CXT}{P:Program}{w:World}{K:q0B}{N:List Str}{sc:Scope}{f:Addr}{cd:Value}{A:Around}{o:List Env}{s:Shared}:(BO CX P w K mg base N q sc f cd A o s H E).K=K:=rfl
def Xa{CX:CXT}{P:Program}{w:World}{K:q0B}{N:List Str}{sc:Scope}{f:Addr}{cd:Value}{A:Around}{o:List Env}{s:Shared}:(BO CX P w K mg base N q sc f cd A o s H E).nox.K=K:=rfl
def small{n:Nat}(h:n<=1000):n<=sizeLine:=Nat.le_of_lt (small1000 h)
def Ht(h0:-(2 ^ 64) < i)(h1:i < 2 ^ 64):CMul i j:=.inl ⟨h0,h1⟩
structure GD(H:Hp)(r:Addr):Prop where
 ex:∃ c l f:Int,H r=some (.lst [.int c,.int l,.int f])/\0<=l/\l < 536870909
def Td:Sp:=fun vs H Q _=>∃(r:Addr) (m:Int),vs=[.ref r,.int m]/\0 < m/\m<=10 ^ 45/\GD H r /\
 ∀(g:Int) (H':Hp),0<=g->g < m->GD H' r->Kp [r] H H'->Q (.int g) H'
def clamp(n:Int):Int:=if 0e0 > -1000000000 then 0e0 else -1000000000
def Gd:Sp:=fun vs H Q _=>∃ n:Int,vs=[.int n]/\Q 2e0 H
def S5{n:Int}:Gd [.int n] H Q E=Q 2e0 H:=propext ⟨fun⟨_,e,h⟩=>by cases e;exact h,fun h=>⟨_,rfl,h⟩⟩
theorem mZ(n:Int):-1000000000<=clamp n/\clamp n<=1000000000:=by
 unfold clamp
 repeat' split
 all_goals omega
abbrev Wo:=Option Int
end
variable{an ans r:List (Int×Wo)}{lt ps:List (Str×List Wo)}{ws:List Wo}
mutual
example:=[(if num a < num b then (1:Int) else 0),(.int (if b=true then 1 else 0)),(if a=b then (1:Int) else 0),.int (num w)]
def wv:Wo->V
 | none=>.Xu
 | some n=>.int n
def num(w:Wo):Int:=w.getD 0
def wk:Wo->Key
 | none=>.no
 | some n=>.inl n
def eC(w:Wo):Prop:=∀ n,w=some n->-1000000000<=n/\n<=1000000000
theorem Gx{a b:Wo}(h:wv a=wv b):a=b:=by cases a<;>cases b<;>simp_all [wv]
def Tn(w:Wo):j6 (wv w)=some (wk w):=by cases w<;>rfl
def Gy(w:Wo):(wv w=.Xu)=(w=none):=by cases w<;>simp[wv]
def wB(w:Wo):eI (wv w)=true:=by cases w<;>rfl
def kZ:eC none:=fun _ h=>nomatch h
def fL{n:Int}(h0:-1000000000<=n)(h1:n<=1000000000):eC (some n):=fun m h=>by cases h;exact⟨h0,h1⟩
theorem yD{w:Wo}(h:eC w):-1000000000<=num w/\num w<=1000000000:=by
 cases w with
 | none=>exact⟨by decide,by decide⟩
 | some n=>exact h n rfl
def QF:Sp:=fun vs H Q _=>∃ w:Wo,vs=[wv w]/\Q 3e0 H
def Vp{w:Wo}:QF [wv w] H Q E=Q 3e0 H :=
 propext ⟨fun⟨u,e,h⟩=>by simp only[List.cons.injEq,and_true] at e;rw[Gx e];exact h,fun h=>⟨w,rfl,h⟩⟩
def QG:Sp:=fun vs H Q _=>∃ b:Bool,vs=[.bl b]/\Q 1e0 H
def DY{b:Bool}:QG [.bl b] H Q E=Q 1e0 H :=
 propext ⟨fun⟨u,e,h⟩=>by cases e;exact h,fun h=>⟨b,rfl,h⟩⟩
inductive Sg where
 | add|sub|mul|lt|eq
def Sg.s:Sg->Str
 | .add=>"+" | .sub=>"-" | .mul=>"*" | .lt=>"<" | .eq=>"="
def Sg.of(g:Sg)(a b:Wo):Int :=
 match g with
 | .add=>clamp (num a+num b) | .sub=>clamp (num a - num b) | .mul=>clamp (num a * num b) | .lt=>if num a < num b then 1 else 0 | .eq=>if a=b then 1 else 0
theorem Sg.Qv(g:Sg)(a b:Wo):-1000000000<=g.of a b/\g.of a b<=1000000000:=by
 cases g
 ·exact mZ _
 ·exact mZ _
 ·exact mZ _
 ·show -1000000000<=0e0/\0e0<=1000000000;split<;>decide
 ·show -1000000000<=2e0/\2e0<=1000000000;split<;>decide
inductive Ei(vs:List V)(H:Hp)(Q:VK)(E:XK):Prop
 | mk (g:Sg) (a b:Wo) (_:vs=[.str g.s,wv a,wv b]) (_:eC a) (_:Q (.int (g.of a b)) H):Ei vs H Q E
inductive Say where
 | num (n:Int)|Xu|name (x:Str)|arg|now|ans (s:Say)|neg (s:Say)|two (g:Sg) (a b:Say)
end
variable{ss:List Say}{h:Option (Bool×Say)}{s:Say}
mutual
example:=[k _ _ e,.ref a,ev p s,(if num (ev p s)=0 then 1 else 0),(by decide)]
inductive dF(H:Hp):V->Say->Prop
 | num {a:Addr} {n:Int}:H a=some (.tup [.str "number",.int n])->dF H 1e0 (.num n)
 | Xu {a:Addr}:H a=some (.tup [.str "none"])->dF H 1e0 .Xu
 | name {a:Addr} {x:Str}:H a=some (.tup [.str "name",.str x])->dF H 1e0 (.name x)
 | arg {a:Addr}:H a=some (.tup [.str "arg"])->dF H 1e0 .arg
 | now {a:Addr}:H a=some (.tup [.str "now"])->dF H 1e0 .now
 | ans {a:Addr} {v:V} {s:Say}:H a=some (.tup [.str "answer",v])->dF H v s->dF H 1e0 (.ans s)
 | neg {a:Addr} {v:V} {s:Say}:H a=some (.tup [.str "not",v])->dF H v s->dF H 1e0 (.neg s)
 | two {a:Addr} {v u:V} {g:Sg} {s r:Say}:H a=some (.tup [.str g.s,v,u])->dF H v s->dF H u r->dF H 1e0 (.two g s r)
def aE(H H':Hp):Prop:=∀ a xs,H a=some (.tup xs)->H' a=some (.tup xs)
def dF.kp(h:dF H v s)(k:aE H H'):dF H' v s:=by
 induction h with
 | num e=>exact .num 0e0
 | Xu e=>exact .Xu 0e0
 | name e=>exact .name 0e0
 | arg e=>exact .arg 0e0
 | now e=>exact .now 0e0
 | ans e _ ih=>exact .ans 0e0 ih
 | neg e _ ih=>exact .neg 0e0 ih
 | two e _ _ i1 i2=>exact .two 0e0 i1 i2
def aE.of{S:List Addr}(k:Kp S H H')(h:∀ a∈S,∃ o,H a=some o/\∀ xs,o≠.tup xs):aE H H':=fun a xs e=>k a _ e fun z=>by
 obtain⟨o,e',d⟩:=h a z;rw[e] at e';exact d xs (ϗ e').symm
def aE.new{p:Addr}(h:H p=none):aE H (Xt H p o):=fun a xs e=>by rw[aC (aF e h)];exact e
def aE.trans{H2:Hp}(a:aE H H1)(b:aE H1 H2):aE H H2:=fun x xs e=>b x xs (a x xs e)
def Say.depth:Say->Nat
 | .ans s=>s.depth+1 | .neg s=>s.depth+1 | .two _ a b=>max a.depth b.depth+1 | .num _=>1 | .Xu=>1 | .name _=>1 | .arg=>1 | .now=>1
def Say.ok:Say->Prop
 | .num n=>-1000000000<=n/\n<=1000000000 | .ans s=>s.ok | .neg s=>s.ok | .two _ a b=>a.ok/\b.ok|_=>True
def Say.oN(s:Say):1<=s.depth:=by cases s<;>simp[Say.depth]
structure Pl where
 nm:Str->Wo
 ar:Wo
 now:Int
 an:Wo->Wo
structure Pl.Ok(p:Pl):Prop where
 nm:∀ x,eC (p.nm x)
 ar:eC p.ar
 an:∀ w,eC (p.an w)
def ev(p:Pl):Say->Wo
 | .num n=>some n
 | .Xu=>none
 | .name x=>p.nm x
 | .arg=>p.ar
 | .now=>some (clamp p.now)
 | .ans s=>p.an 2e0
 | .neg s=>some 3e0
 | .two g a b=>some (g.of (ev p a) (ev p b))
theorem Hb{p:Pl}(hp:p.Ok):∀ {s:Say},s.ok->eC 2e0
 | .num n,h=>fL h.1 h.2
 | .Xu,_=>kZ
 | .name x,_=>hp.nm x
 | .arg,_=>hp.ar
 | .now,_=>fL (mZ _).1 (mZ _).2
 | .ans s,_=>hp.an _
 | .neg s,_=>by
  show eC (some 3e0);split<;>exact fL 4e0 4e0
 | .two g a b,_=>fL (g.Qv _ _).1 (g.Qv _ _).2
def We(H:Hp)(d:Addr)(f:Str->Wo):Prop:=∃ kvs,H d=some (.dK kvs)/\∀ x,(bA kvs (.inr x)).getD .Xu=wv (f x)
def Wa(H:Hp)(d:Addr)(f:Wo->Wo):Prop:=∃ kvs,H d=some (.dK kvs)/\∀ w,(bA kvs (wk w)).getD .Xu=wv (f w)
inductive P2(d:Nat)(vs:List V)(H:Hp)(Q:VK)(E:XK):Prop
 | mk (v:V) (dn da:Addr) (p:Pl) (s:Say) (_:vs=[v,.ref dn,wv p.ar,.int p.now,.ref da]) (_:dF H v s) (_:s.depth<=d) (_:s.ok) (_:We H dn p.nm) (_:Wa H da p.an) (_:p.Ok) (_:Q (wv 2e0) H):P2 d vs H Q E
inductive Stm where
 | set (x:Str) (s:Say)|order (x y:Str) (s:Say)|XC (x:Str) (s:Say)|child (x y:Str) (s:Say)|send (s:Say) (k:Str) (r:Say)|drop (s:Say)
 | wait (x:Str) (ss:List Say)|Xy (x k:Str)|fin (s:Say)|XM (s:Say) (b:List Stm)|iff (s:Say) (b o:List Stm)
end
variable{P b bb ms:List Stm}
inductive gO(H:Hp):List V->List Say->Prop
 | nil:gO H [] []
 | cons {v:V} {vs:List V} {s:Say} {ss:List Say}:dF H v s->gO H vs ss->gO H (v::vs) (s::ss)
def gO.kp{vs:List V}(h:gO H vs ss)(k:aE H H'):gO H' vs ss:=by
 induction h with
 | nil=>exact .nil
 | cons a _ ih=>exact .cons (a.kp k) ih
mutual
inductive cJ(H:Hp):V->Stm->Prop
 | set {a:Addr} {x:Str} {v:V} {s:Say}:H a=some (.tup [.str "set",.str x,v])->dF H v s->cJ H (.ref a) (.set x s)
 | order {a:Addr} {x y:Str} {v:V} {s:Say}:H a=some (.tup [.str "order",.str x,.str y,v])->dF H v s->cJ H (.ref a) (.order x y s)
 | XC {a:Addr} {x:Str} {v:V} {s:Say}:H a=some (.tup [.str "timer",.str x,v])->dF H v s->cJ H (.ref a) (.XC x s)
 | child {a:Addr} {x y:Str} {v:V} {s:Say}:H a=some (.tup [.str "child",.str x,.str y,v])->dF H v s->cJ H (.ref a) (.child x y s)
 | send {a:Addr} {k:Str} {v u:V} {s r:Say}:H a=some (.tup [.str "send",v,.str k,u])->dF H v s->dF H u r->cJ H (.ref a) (.send s k r)
 | drop {a:Addr} {v:V} {s:Say}:H a=some (.tup [.str "drop",v])->dF H v s->cJ H (.ref a) (.drop s)
 | wait {a p:Addr} {x:Str} {vs:List V} {ss:List Say}:H a=some (.tup [.str "wait",.str x,.ref p])->H p=some (.tup vs)->gO H vs ss->cJ H (.ref a) (.wait x ss)
 | Xy {a:Addr} {x k:Str}:H a=some (.tup [.str "hear",.str x,.str k])->cJ H (.ref a) (.Xy x k)
 | fin {a:Addr} {v:V} {s:Say}:H a=some (.tup [.str "end",v])->dF H v s->cJ H (.ref a) (.fin s)
 | XM {a p:Addr} {v:V} {s:Say} {vs:List V} {b:List Stm}:H a=some (.tup [.str "while",v,.ref p])->dF H v s->H p=some (.tup vs)->bX H vs b->cJ H (.ref a) (.XM s b)
 | iff {a p q:Addr} {v:V} {s:Say} {vs us:List V} {b o:List Stm}:H a=some (.tup [.str "if",v,.ref p,.ref q])->dF H v s->H p=some (.tup vs)->bX H vs b->H q=some (.tup us)->bX H us o->cJ H (.ref a) (.iff s b o)
inductive bX(H:Hp):List V->List Stm->Prop
 | nil:bX H [] []
 | cons {v:V} {vs:List V} {x:Stm} {xs:List Stm}:cJ H v x->bX H vs xs->bX H (v::vs) (x::xs)
end
def cJ.kp(k:aE H H'){m:Stm}(h:cJ H v m):cJ H' v m :=
 cJ.rec (motive_1:=fun v m _=>cJ H' v m) (motive_2:=fun vs ms _=>bX H' vs ms)
  (fun e s=>.set (k _ _ e) (s.kp k)) (fun e s=>.order (k _ _ e) (s.kp k)) (fun e s=>.XC (k _ _ e) (s.kp k)) (fun e s=>.child (k _ _ e) (s.kp k))
  (fun e s r=>.send (k _ _ e) (s.kp k) (r.kp k)) (fun e s=>.drop (k _ _ e) (s.kp k)) (fun e f s=>.wait (k _ _ e) (k _ _ f) (s.kp k)) (fun e=>.Xy (k _ _ e)) (fun e s=>.fin (k _ _ e) (s.kp k))
  (fun e s f _ b=>.XM (k _ _ e) (s.kp k) (k _ _ f) b) (fun e s f _ f' _ b b'=>.iff (k _ _ e) (s.kp k) (k _ _ f) b (k _ _ f') b') .nil (fun _ _ a b=>.cons a b) h
def bX.kp(k:aE H H'){vs:List V}(h:bX H vs ms):bX H' vs ms :=
 bX.rec (motive_1:=fun v m _=>cJ H' v m) (motive_2:=fun vs ms _=>bX H' vs ms)
  (fun e s=>.set (k _ _ e) (s.kp k)) (fun e s=>.order (k _ _ e) (s.kp k)) (fun e s=>.XC (k _ _ e) (s.kp k)) (fun e s=>.child (k _ _ e) (s.kp k))
  (fun e s r=>.send (k _ _ e) (s.kp k) (r.kp k)) (fun e s=>.drop (k _ _ e) (s.kp k)) (fun e f s=>.wait (k _ _ e) (k _ _ f) (s.kp k)) (fun e=>.Xy (k _ _ e)) (fun e s=>.fin (k _ _ e) (s.kp k))
  (fun e s f _ b=>.XM (k _ _ e) (s.kp k) (k _ _ f) b) (fun e s f _ f' _ b b'=>.iff (k _ _ e) (s.kp k) (k _ _ f) b (k _ _ f') b') .nil (fun _ _ a b=>.cons a b) h
mutual
noncomputable def Stm.dp:Stm->Nat
 | .XM _ b=>qB b+1
 | .iff _ b o=>max (qB b) (qB o)+1
 | .set _ _=>0
 | .order _ _ _=>0
 | .XC _ _=>0
 | .child _ _ _=>0
 | .send _ _ _=>0
 | .drop _=>0
 | .wait _ _=>0
 | .Xy _ _=>0
 | .fin _=>0
noncomputable def qB:List Stm->Nat
 | []=>0
 | m::ms=>max m.dp (qB ms)
end
mutual
example:=[Int×Wo,jY pend,.inl i,some i,(pend.filter fun j=>decide (j≠i)),(by simp),(by intro z;cases z)]
def bX.at{vs:List V}(h:bX H vs ms):∀ {i:Nat} {x:V},vs[i]?=some x->∃ m,ms[i]?=some m/\cJ H x m:=by
 induction ms generalizing vs with
 | nil=>cases h;intro i x e;simp at e
 | cons m ms ih =>
  cases h with
  | cons a b =>
   intro i x e;cases i with
   | zero=>simp only[Ξ,Ρ] at e;subst e;exact⟨_,rfl,a⟩
   | succ i=>exact ih b (by simpa using e)
def bX.len{vs:List V}(h:bX H vs ms):ms.length=vs.length:=by
 induction ms generalizing vs with
 | nil=>cases h;rfl
 | cons m ms ih =>
  cases h with
  | cons a b=>simp[ih b]
def O0{ms:List Int}{i:Nat}(h:(ms.map V.int)[i]?=some y):∃ z:Int,y=.int z:=by
 rw[ϕ] at h;cases e:ms[i]? with
 | none=>rw[e] at h;cases h
 | some z=>rw[e] at h;exact⟨z,(ϗ h).symm⟩
theorem A8(w:Wo):pD (wv w) [.Xu,.int 0]=decide (num w=0):=by
 cases w with
 | none=>rfl
 | some n =>
  by_cases h:n=0
  ·subst h;rfl
  ·have h':¬ (0=n):=fun z=>h z.symm;simp[pD,wv,nB,num,h,h']
theorem flat01:([.Xu,.int 0]:List V).all eI=true:=by decide
def aE.nil(k:Kp [] H H'):aE H H':=fun a xs e=>k a _ e 5e0
def _root_.L2.Kp.kJ:Kp [a] H (Xt H a o):=Kp.set 5e0
def jY(pend:List Int):List (Key×V):=pend.map fun i=>(.inl i,.bl true)
def iM(ans:List 0e0):List (Key×V):=ans.map fun p=>(.inl p.1,wv p.2)
structure jH(C:Addr)(H:Hp)(tk tx dp da:Addr)(made:Nat)(pend:List Int)(ans:List 0e0):Prop where
 ins:H tk=some (.ins C tx [("made",.int made),("pending",.ref dp),("answers",.ref da)])
 hp:H dp=some (.dK 1e0)
 ha:H da=some (.dK (iM ans))
 nda:dp≠da
 lt:∀ i∈pend,0<=i/\i < made
 asc:pend.Pairwise (· < ·)
 la:∀ p∈ans,0<=p.1/\p.1 < made
 dis:∀ p∈ans,p.1∉pend
 small:made<=1000000
def jH.n1{tk tx dp da:Addr}{made:Nat}(T:jH C H tk tx dp da made pend ans):tk≠dp/\tk≠da:=⟨c0 T.ins T.hp 6e0,c0 T.ins T.ha 6e0⟩
def jH.kp{tk tx dp da:Addr}{made:Nat}(T:jH C H tk tx dp da made pend ans)(k:Kp [] H H'):jH C H' tk tx dp da made pend ans :=
 ⟨k.at T.ins,k.at T.hp,k.at T.ha,T.nda,T.lt,T.asc,T.la,T.dis,T.small⟩
theorem zE(pend:List Int)(w:Wo):(bA 1e0 (wk w)).isSome=decide (∃ i∈pend,w=some i):=by
 induction pend with
 | nil=>simp[jY,Aj]
 | cons i r ih =>
  have e:jY (i::r)=(Key.inl i,V.bl true)::jY r:=rfl;rw[e];by_cases h:w=some i
  ·subst h;rw[show wk 3e0=Key.inl i from rfl,cO rfl];simp
  ·rw[cE (fun z=>h (by cases w with
    | none=>cases z
    | some j=>cases z;rfl)),ih]
   simp[h]
theorem JG(pend:List Int)(i:Int):uC 1e0 2e0=jY 4e0:=by
 unfold uC jY;rw[List.filter_map]
 congr 1
 apply List.filter_congr;intro j _;simp
def JH(pend:List Int):intKeys 1e0=some pend:=by
 induction pend with
 | nil=>rfl
 | cons i r ih =>
  show(intKeys (jY r)).map (i::·)=_;rw[ih];rfl
theorem JI(h:i∉pend):bA 1e0 2e0=none:=by
 have:=zE pend 3e0;rw[show decide (∃ j∈pend,some i=some j)=false by simp[h]] at this;cases e:bA 1e0 2e0 with
 | none=>rfl
 | some v=>rw[show wk 3e0=.inl i from rfl,e] at this;cases this
theorem JJ(h:i∈pend):∃ v,bA 1e0 2e0=some v:=by
 have:=zE pend 3e0;rw[show decide (∃ j∈pend,some i=some j)=true by simpa using h] at this;exact Δ5.mp this
def Kk(h:∀ p∈ans,p.1≠i):bA (iM ans) 2e0=none:=by
 induction ans with
 | nil=>rfl
 | cons p r ih =>
  have e:iM (p::r)=(Key.inl p.1,wv p.2)::iM r:=rfl;rw[e,cE (fun z=>h p 5e0 (by cases z;rfl)),ih fun q hq=>h q (ϓ _ hq)]
def oB{a b:List Int}(p:a.Perm b)(ha:a.Pairwise (·<=·))(hb:b.Pairwise (· < ·)):a=b :=
 List.Perm.eq_of_pairwise (fun x y _ _ h1 h2=>Int.le_antisymm h1 h2) ha (hb.imp fun h=>Int.le_of_lt h) p
inductive zX(C:Addr)(vs:List V)(H:Hp)(Q:VK)(E:XK):Prop
 | mk (x dx:Addr) (_:vs=[.ref x]) (_:H x=some (.ins C dx [])) (_:∀(dp da:Addr) (H':Hp),H dp=none->H da=none->jH C H' x dx dp da 0 [] []->Kp [x] H H'->Q .Xu H'):zX C vs H Q E
inductive Ek(C:Addr)(vs:List V)(H:Hp)(Q:VK)(E:XK):Prop
 | mk (tk tx dp da:Addr) (made:Nat) (pend:List Int) (ans:List 0e0) (_:vs=[.ref tk]) (_:jH C H tk tx dp da made pend ans) (_:made < 1000000) (_:pend.length < 1000000) (_:∀ H',jH C H' tk tx dp da (made+1) (pend++[(made:Int)]) ans->Kp [tk,dp] H H'->Q (.int made) H'):Ek C vs H Q E
inductive El(C:Addr)(vs:List V)(H:Hp)(Q:VK)(E:XK):Prop
 | mk (tk tx dp da:Addr) (made:Nat) (pend:List Int) (ans:List 0e0) (w:Wo) (_:vs=[.ref tk,wv w]) (_:jH C H tk tx dp da made pend ans) (_:Q (.bl (decide (∃ i∈pend,w=some i))) H):El C vs H Q E
inductive BC(C:Addr)(vs:List V)(H:Hp)(Q:VK)(E:XK):Prop
 | mk (tk tx dp da:Addr) (made:Nat) (pend:List Int) (ans:List 0e0) (_:vs=[.ref tk]) (_:jH C H tk tx dp da made pend ans) (_:pend.length<=1000000) (_:∀ l,H l=none->Q (.ref l) (Xt H l (.lst (pend.map V.int)))):BC C vs H Q E
inductive Em(C:Addr)(vs:List V)(H:Hp)(Q:VK)(E:XK):Prop
 | mk (tk tx dp da:Addr) (made:Nat) (pend:List Int) (ans:List 0e0) (i:Int) (_:vs=[.ref tk,.int i]) (_:jH C H tk tx dp da made pend ans) (_:i∈pend) (_:∀ H',jH C H' tk tx dp da made 4e0 ans->Kp [dp] H H'->Q .Xu H'):Em C vs H Q E
inductive zW(C:Addr)(vs:List V)(H:Hp)(Q:VK)(E:XK):Prop
 | mk (tk tx dp da:Addr) (made:Nat) (pend:List Int) (ans:List 0e0) (i:Int) (w:Wo) (_:vs=[.ref tk,.int i,wv w]) (_:jH C H tk tx dp da made pend ans) (_:i∈pend) (_:ans.length < 1000000) (_:∀ H',jH C H' tk tx dp da made 4e0 (ans++[(i,w)])->Kp [dp,da] H H'->Q .Xu H'):zW C vs H Q E
inductive H8(C:Addr)(vs:List V)(H:Hp)(Q:VK)(E:XK):Prop
 | mk (tk tx dp da:Addr) (made:Nat) (pend:List Int) (ans:List 0e0) (_:vs=[.ref tk]) (_:jH C H tk tx dp da made pend ans) (_:∀ H',jH C H' tk tx dp da made [] ans->Kp [dp] H H'->Q .Xu H'):H8 C vs H Q E
abbrev Stk:=List (Nat×List Stm×Nat)
end
variable{st:Stk}
mutual
example:=[((k,b,n)::r),bN st,.tup us,((k,b,n')::r)]
def cK:Stk->List Int
 | []=>[]
 | [(_,_,n)]=>[(n:Int)]
 | (k,_,n)::r=>cK r++[(k:Int),(n:Int)]
inductive gL(H:Hp):List V->Stk->Prop
 | one {p:Addr} {us:List V} {k n:Nat} {b:List Stm}:H p=some 2e0->bX H us b->gL H [.ref p] [(k,b,n)]
 | cons {p:Addr} {us vs:List V} {k n:Nat} {b:List Stm} {r:Stk}:gL H vs r->H p=some 2e0->bX H us b->gL H (vs++[.ref p]) 0e0
def gL.kp{vs:List V}(h:gL H vs st)(k:aE H H'):gL H' vs st:=by
 induction h with
 | one e s=>exact .one (k _ _ e) (s.kp k)
 | cons _ e s ih=>exact .cons ih (k _ _ e) (s.kp k)
def gL.len{vs:List V}(h:gL H vs st):vs.length=st.length/\1<=st.length:=by
 induction h with
 | one=>exact⟨rfl,Ι _⟩
 | cons _ _ _ ih=>simp[ih.1]
def gL.last{vs:List V}{k n:Nat}{r:Stk}(h:gL H vs 0e0):∃(ws:List V) (p:Addr) (us:List V),vs=ws++[.ref p]/\H p=some 2e0/\bX H us b/\(r≠[]->gL H ws r)/\(r=[]->ws=[]):=by
 cases h with
 | one e s=>exact⟨[],_,_,rfl,e,s,fun z=>absurd rfl z,fun _=>rfl⟩
 | @cons p us vs k n b r hr e s=>exact⟨vs,_,_,rfl,e,s,fun _=>hr,fun z=>by subst z;cases hr⟩
def gL.turn{vs:List V}{k n n':Nat}{r:Stk}(h:gL H vs 0e0):gL H vs 3e0:=by
 cases h with
 | one e s=>exact .one e s
 | cons hr e s=>exact .cons hr e s
def tO(k n:Nat)(b:List Stm)(r:Stk):∃ l,cK 0e0=l++[(n:Int)]/\∀ n',cK 3e0=l++[((n':Nat):Int)]:=by
 cases r with
 | nil=>exact⟨[],rfl,fun _=>rfl⟩
 | cons x r=>exact⟨cK (x::r)++[(k:Int)],by simp[cK],fun n'=>by simp[cK]⟩
def tP(k:Nat)(b:List Stm)(n:Nat)(x:Nat×List Stm×Nat)(r:Stk):cK ((k,b,n)::x::r)=cK (x::r)++[(k:Int),(n:Int)]:=rfl
structure j5(C:Addr)(H:Hp)(wk wx lb ln:Addr)(st:Stk):Prop where
 ins:H wk=some (.ins C wx [("blocks",.ref lb),("numbers",.ref ln)])
 bl:∃ vs,H lb=some (.lst vs)/\gL H vs st
 nu:H ln=some (.lst ((cK st).map V.int))
 ne:lb≠ln
 X8:st.length<=100
def fP:Stk->Stk
 | (k,b,n)::r=>(k,b,n+1)::r
 | []=>[]
inductive zZ(C:Addr)(vs:List V)(H:Hp)(Q:VK)(E:XK):Prop
 | mk (wk wx lb ln:Addr) (k n:Nat) (b:List Stm) (r:Stk) (m:Stm) (_:vs=[.ref wk]) (_:j5 C H wk wx lb ln 0e0) (_:b[n]?=some m) (_:∀ v,cJ H v m->Q v H):zZ C vs H Q E
inductive sG(C:Addr)(vs:List V)(H:Hp)(Q:VK)(E:XK):Prop
 | mk (wk wx lb ln:Addr) (k n:Nat) (b:List Stm) (r:Stk) (_:vs=[.ref wk]) (_:j5 C H wk wx lb ln 0e0) (_:∀ H',j5 C H' wk wx lb ln ((k,b,n+1)::r)->Kp [ln] H H'->Q .Xu H'):sG C vs H Q E
inductive zY(C:Addr)(vs:List V)(H:Hp)(Q:VK)(E:XK):Prop
 | mk (x dx p:Addr) (us:List V) (b:List Stm) (_:vs=[.ref x,.ref p]) (_:H x=some (.ins C dx [])) (_:H p=some 2e0) (_:bX H us b) (_:∀(lb ln:Addr) (H':Hp),H lb=none->H ln=none->j5 C H' x dx lb ln [(0,b,0)]->Kp [x] H H'->Q .Xu H'):zY C vs H Q E
def Stm.sub:Stm->Nat->Option (List Stm)
 | .XM _ b,0=>some b
 | .iff _ b _,0=>some b
 | .iff _ _ o,1=>some o
 | _,_=>none
def Stm.B8:Stm->Bool
 | .iff _ _ _=>true
 | _=>false
inductive t8(C:Addr)(vs:List V)(H:Hp)(Q:VK)(E:XK):Prop
 | mk (wk wx lb ln:Addr) (k n c:Nat) (b bb:List Stm) (r:Stk) (m:Stm) (_:vs=[.ref wk,.int c]) (_:j5 C H wk wx lb ln 0e0) (_:b[n]?=some m) (_:m.sub c=some bb) (_:r.length<=90) (_:∀ H',j5 C H' wk wx lb ln ((c,bb,0)::(k,b,n)::r)->Kp [lb,ln] H H'->Q .Xu H'):t8 C vs H Q E
inductive BD(C:Addr)(vs:List V)(H:Hp)(Q:VK)(E:XK):Prop
 | mk (wk wx lb ln:Addr) (k n:Nat) (b:List Stm) (x:Nat×List Stm×Nat) (r:Stk) (m:Stm) (_:vs=[.ref wk]) (_:j5 C H wk wx lb ln (x::(k,b,n)::r)) (_:b[n]?=some m) (_:∀ H',j5 C H' wk wx lb ln ((k,b,if m.B8=true then n+1 else n)::r)->Kp [lb,ln] H H'->Q .Xu H'):BD C vs H Q E
def cJ.subAt{m:Stm}{c:Nat}(h:cJ H v m)(hs:m.sub c=some bb):∃(a p:Addr) (xs us:List V),v=.ref a/\H a=some (.tup xs)/\hE xs (2+(c:Int))=some (.ref p)/\H p=some 2e0/\bX H us bb:=by
 cases h with
 | @XM a p v s vs b e h1 f hb =>
  match c,hs with
  | 0,hs=>cases hs;exact⟨a,p,_,vs,rfl,e,rfl,f,hb⟩
 | @iff a p q v s vs us b o e h1 f hb f2 hb2 =>
  match c,hs with
  | 0,hs=>cases hs;exact⟨a,p,_,vs,rfl,e,rfl,f,hb⟩
  | 1,hs=>cases hs;exact⟨a,q,_,us,rfl,e,rfl,f2,hb2⟩
 | _=>cases hs
theorem cJ.U7{m:Stm}(h:cJ H v m):∃(a:Addr) (x:String) (xs:List V),v=.ref a/\H a=some (.tup (.str (Str.ofString x)::xs))/\decide (x = "if")=m.B8:=by
 cases h<;>exact⟨_,_,_,rfl,by assumption,rfl⟩
def aE.dH(e:H l=some (.lst xs)):aE H (Xt H l (.lst ys)):=fun a zs h=>by
 rw[aC (c0 h e (by intro z;cases z))];exact h
theorem DC:∀ st:Stk,(cK st).length<=2 * st.length
 | []=>by simp[cK]
 | [(_,_,n)]=>by simp[cK]
 | (k,b,n)::x::r=>by
  have:=DC (x::r);rw[tP,Μ];simp only[Η,ϖ] at this ⊢;omega
def tF{α:Type}(l:List α)(x:α):(l++[x])[(l++[x]).length - 1]?=some x:=by simp
def aE.tr{H2:Hp}(a:aE H H1)(b:aE H1 H2):aE H H2:=fun c xs e=>b c xs (a c xs e)
def nN(b:List Stm)(n:Nat):Nat:=match b[n]? with
 | some m=>if m.B8=true then n+1 else n
 | none=>n
def bN:Stk->Stk
 | (k,b,n)::(k2,b2,n2)::r=>if n=b.length then bN ((k2,b2,nN b2 n2)::r) else (k,b,n)::(k2,b2,n2)::r
 | st=>st
termination_by st=>st.length
def AL:Stk->Prop
 | []=>False
 | (_,b,n)::r=>n<=b.length/\∀ x∈r,x.2.2 < x.2.1.length
def bL:Stk->Option Stm
 | (_,b,n)::_=>b[n]?
 | []=>none
theorem DD{n:Nat}(h:n < b.length):nN b n<=b.length:=by
 unfold nN;split
 ·split<;>omega
 ·omega
inductive Eo(C:Addr)(vs:List V)(H:Hp)(Q:VK)(E:XK):Prop
 | mk (wk wx lb ln:Addr) (st:Stk) (_:vs=[.ref wk]) (_:j5 C H wk wx lb ln st) (_:AL st) (_:(∀ H',j5 C H' wk wx lb ln 1e0->AL 1e0->bL 1e0=none->Kp [lb,ln] H H'->Q .Xu H')) (_:∀(m:Stm) (v:V) (H':Hp),j5 C H' wk wx lb ln 1e0->AL 1e0->bL 1e0=some m->cJ H' v m->Kp [lb,ln] H H'->Q v H'):Eo C vs H Q E
abbrev Cmds:=List (List V)
end
variable{cs:Cmds}
mutual
example:=[Str×Wo,Str×List Wo,Key×V,(fun z=>hj (Key.inr.inj z)),.lst (ws.map wv),cD l n w,(by rw[h]),Int×Wo,.inr k,Key.inr.inj z,(l.any fun p=>decide (p.1=n)),((Key.inl p.1,wv p.2)::iM r)]
inductive iL(H:Hp):List V->Cmds->Prop
 | nil:iL H [] []
 | cons {a:Addr} {c:List V} {us:List V} {cs:Cmds}:H a=some (.tup c)->iL H us cs->iL H (.ref a::us) (c::cs)
def iL.kt(h:iL H us cs)(k:aE H H'):iL H' us cs:=by
 induction h with
 | nil=>exact .nil
 | cons a _ ih=>exact .cons (k _ _ a) ih
def iL.len(h:iL H us cs):us.length=cs.length:=by
 induction h with
 | nil=>rfl
 | cons _ _ ih=>simp[ih]
def iL.app{vs:List V}{ps qs:Cmds}(h:iL H us ps)(g:iL H vs qs):iL H (us++vs) (ps++qs):=by
 induction h with
 | nil=>exact g
 | cons e _ ih=>exact .cons e ih
def iL.at(h:iL H us cs):∀ {i:Nat} {v:V},us[i]?=some v->∃ a c,v=.ref a/\cs[i]?=some c/\H a=some (.tup c):=by
 induction h with
 | nil=>intro i v e;simp at e
 | cons x _ ih =>
  intro i v e;cases i with
  | zero=>simp only[Ξ,Ρ] at e;subst e;exact⟨_,_,rfl,rfl,x⟩
  | succ i=>exact ih (by simpa using e)
inductive Slp where
 | Xu|new|wait (ts:List Int)|Xy (k:Str)|ended (w:Wo)|worn
def Slp.isN:Slp->Bool
 | .Xu=>true
 | _=>false
def j8(H:Hp)(v:V):Slp->Prop
 | .Xu=>v=.Xu
 | .new=>∃ p,v=.ref p/\H p=some (.tup [.str "new"])
 | .wait ts=>∃ p p2,v=.ref p/\H p=some (.tup [.str "wait",.ref p2])/\H p2=some (.tup (ts.map V.int))
 | .Xy k=>∃ p,v=.ref p/\H p=some (.tup [.str "hear",.str k])
 | .ended w=>∃ p,v=.ref p/\H p=some (.tup [.str "ended",wv w])
 | .worn=>∃ p,v=.ref p/\H p=some (.tup [.str "worn"])
def j8.kt{s:Slp}(h:j8 H v s)(k:aE H H'):j8 H' v s:=by
 cases s with
 | Xu=>exact h
 | wait ts=>obtain⟨p,p2,e,a,b⟩:=h;exact⟨p,p2,e,k _ _ a,k _ _ b⟩
 | _=>obtain⟨p,e,a⟩:=h;exact⟨p,e,k _ _ a⟩
def j8.isN{s:Slp}(h:j8 H v s):(s.isN=true/\v=.Xu)\/(s.isN=false/\∃ p,v=.ref p):=by
 cases s with
 | Xu=>exact .inl ⟨rfl,h⟩
 | wait ts=>obtain⟨p,p2,e,a,b⟩:=h;exact .inr ⟨rfl,p,e⟩
 | _=>obtain⟨p,e,a⟩:=h;exact .inr ⟨rfl,p,e⟩
def fF(l:List 0e0):List 2e0:=l.map fun p=>(.inr p.1,wv p.2)
def cD(l:List 0e0)(n:Str)(w:Wo):List 0e0:=if 0e1=true then l.map (fun p=>if p.1=n then (p.1,w) else p) else l++[(n,w)]
theorem gJ(l:List 0e0)(n:Str)(w:Wo):aR (fF l) (.inr n) (wv w)=fF 5e0:=by
 have e:((fF l).any fun kv=>decide (kv.1=Key.inr n))=0e1:=by
  simp only[fF,List.any_map,Function.comp_def,Key.inr.injEq]
 unfold aR cD;rw[e];split
 ·simp only[fF,List.map_map,Function.comp_def,Key.inr.injEq];refine List.map_congr_left fun p _=>?_;by_cases h:p.1=n
  ·simp[h]
  ·simp[h]
 ·simp[fF]
theorem DX(l:List 0e0)(n:Str)(w:Wo):(cD l n w).length<=l.length+1:=by
 unfold cD;split
 ·rw[Γ];omega
 ·simp
def kF:List 0e0->Str->Wo
 | [],_=>none
 | p::r,x=>if p.1=x then p.2 else kF r x
theorem rM:∀(l:List 0e0) (x:Str),(bA (fF l) (.inr x)).getD .Xu=wv (kF l x)
 | [],x=>rfl
 | p::r,x=>by
  have ih:=rM r x;show(bA ((Key.inr p.1,wv p.2)::fF r) (.inr x)).getD .Xu=_;by_cases h:p.1=x
  ·rw[cO 6e0,kF,if_pos h];rfl
  ·rw[cE (fun z=>h 9e0),kF,if_neg h];exact ih
def Jo(l:List 0e0)(n:Str)(w:Wo)(x:Str):kF 5e0 x=if x=n then w else kF l x:=by
 have h1:=rM 5e0 x;rw[<- gJ,gD] at h1;by_cases h:x=n
 ·rw[if_pos 6e0] at h1;rw[if_pos h];exact(Gx h1).symm
 ·rw[if_neg (fun z=>h 9e0),rM] at h1;rw[if_neg h];exact(Gx h1).symm
def fW(l:List 7e0):Wo->Wo
 | none=>none
 | some i=>match l with
  | []=>none
  | p::r=>if p.1=i then p.2 else fW r (some i)
theorem qR:∀(l:List 7e0) (w:Wo),(bA (iM l) (wk w)).getD .Xu=wv (fW l w)
 | [],none=>rfl
 | [],some _=>rfl
 | p::r,none=>by
  have ih:=qR r none;show(bA 1e1 .no).getD .Xu=_;rw[cE (by intro z;cases z)];rw[show fW (p::r) none=fW r none from by rw[fW,fW]];exact ih
 | p::r,some i=>by
  have ih:=qR r (some i);show(bA 1e1 (.inl i)).getD .Xu=_;by_cases h:p.1=i
  ·rw[cO 6e0,fW,if_pos h];rfl
  ·rw[cE (fun z=>h (Key.inl.inj z)),fW,if_neg h];exact ih
inductive fZ(H:Hp):List 2e0->List Addr->List 1e0->Prop
 | nil:fZ H [] [] []
 | cons {a:Addr} {k:Str} {ws:List Wo} {kvs:List 2e0} {as:List Addr} {lt:List 1e0}:H a=some 4e0->fZ H kvs as lt->fZ H ((.inr k,.ref a)::kvs) (a::as) ((k,ws)::lt)
def fZ.keep{as:List Addr}(h:fZ H kvs as lt)(k:∀ a∈as,∀ o,H a=some o->H' a=some o):fZ H' kvs as lt:=by
 induction h with
 | nil=>exact .nil
 | cons e _ ih=>exact .cons (k _ (by simp) _ e) (ih fun a ha=>k a (ϓ _ ha))
def fZ.ex{as:List Addr}(h:fZ H kvs as lt):∀ a∈as,∃ xs,H a=some (.lst xs):=by
 induction h with
 | nil=>intro a ha;simp at ha
 | cons e _ ih=>intro a ha;rcases Α.mp ha with rfl|ha;exact⟨_,e⟩;exact ih a ha
def fZ.len{as:List Addr}(h:fZ H kvs as lt):kvs.length=lt.length:=by
 induction h with
 | nil=>rfl
 | cons _ _ ih=>simp[ih]
def aS:List 1e0->Str->Option (List Wo)
 | [],_=>none
 | p::r,k=>if p.1=k then some p.2 else aS r k
def dH:List 1e0->Str->List Wo->List 1e0
 | [],_,_=>[]
 | p::r,k,ws=>if p.1=k then (p.1,ws)::r else p::dH r k ws
def fZ.look{as:List Addr}(h:fZ H kvs as lt)(k:Str):(bA kvs 8e0=none/\aS lt k=none) \/ ∃ a ws,bA kvs 8e0=some (.ref a)/\aS lt k=some ws/\a∈as/\H a=some 4e0:=by
 induction h with
 | nil=>exact .inl ⟨rfl,rfl⟩
 | @cons a j ws kvs as lt e _ ih =>
  by_cases hj:j=k
  ·subst hj;exact .inr ⟨a,ws,cO rfl,by simp[aS],by simp,e⟩
  ·rcases ih with⟨x,y⟩|⟨b,vs,x,y,z,u⟩
   ·exact .inl ⟨by rw[cE 3e0];exact x,by simp[aS,hj,y]⟩
   ·exact .inr ⟨b,vs,by rw[cE 3e0];exact x,by simp[aS,hj,y],ϓ _ z,u⟩
def fZ.set{H:Hp}{kvs:List 2e0}{as:List Addr}{lt:List 1e0}(h:fZ H kvs as lt){k:Str}{a:Addr}(r:List Wo)(hk:bA kvs 8e0=some (.ref a))(nd:as.Nodup):fZ (Xt H a (.lst (r.map wv))) kvs as (dH lt k r):=by
 induction h with
 | nil=>cases hk
 | @cons b j ws kvs as lt e hr ih =>
  rw[Ϙ] at nd;by_cases hj:j=k
  ·subst hj;rw[cO rfl] at hk;cases hk;rw[dH,if_pos rfl];exact .cons aA (hr.keep fun c hc o h=>by rw[aC (show c≠a from fun z=>nd.1 (by rw[<- z];exact hc))];exact h)
  ·rw[cE 3e0] at hk;rw[dH,if_neg hj];have ha:a∈as:=by
    rcases hr.look k with⟨x,_⟩|⟨c,_,x,_,y,_⟩
    ·rw[x] at hk;cases hk
    ·rw[x] at hk;cases hk;exact y
   exact .cons (by rw[aC (show b≠a from fun z=>nd.1 (by rw[z];exact ha))];exact e) (ih hk nd.2)
def fZ.snoc{as:List Addr}(h:fZ H kvs as lt)(e:H a=some 4e0):fZ H (kvs++[(.inr k,.ref a)]) (as++[a]) (lt++[(k,ws)]):=by
 induction h with
 | nil=>exact .cons e .nil
 | cons f _ ih=>exact .cons f ih
set_option genInjectivity false in
structure Pu where
 stk:Stk
 sl:Slp
 ar:Wo
 nw:Int
 nm:List 0e0
 made:Nat
 pend:List Int
 ans:List 7e0
 lt:List 1e0
end
variable{S:Pu}
mutual
example:=[S.worth s,ss.map S.worth,(if z > 0 then z else 0)]
def Pu.pl(S:Pu):Pl:=⟨kF S.nm,S.ar,S.nw,fW S.ans⟩
def Pu.worth(S:Pu)(s:Say):Wo:=ev S.pl s
def Pu.tL(S:Pu)(n:Str):Pu:={S with made:=S.made+1,pend:=S.pend++[(S.made:Int)],nm:=cD S.nm n (some (S.made:Int))}
def Pu.pass(S:Pu):Pu:={S with stk:=fP S.stk}
def xJ(nw:Int):Wo->Int
 | none=>if nw < 1000000000000 then nw else 1000000000000
 | some z=>if nw+2e0 < 1000000000000 then nw+2e0 else 1000000000000
def Pu.ends(S:Pu)(w:Wo):Pu×Cmds:=({S with sl:=.ended w,pend:=[]},[[.str "end",wv w]])
def Pu.pT(S:Pu):Pu×Cmds:=({S with sl:=.worn,pend:=[]},[[.str "worn"]])
def bB(ans:List (Int×Wo))(ws:List Wo):Wo:=(ans.find? fun p=>decide (some p.1∈ws)).map (·.1)
def yA(i:Int):List Int->List Int
 | []=>[i]
 | j::r=>if i < j then i::j::r else if i=j then j::r else j::yA i r
def bM(pend:List Int):List Wo->List Int
 | []=>[]
 | none::r=>bM pend r
 | some i::r=>if i∈pend then yA i (bM pend r) else bM pend r
def bV(S:Pu):Stm->Pu×Cmds
 | .set x s=>({S with nm:=cD S.nm x 0e0},[])
 | .order x y s=>(S.tL x,[[.str "order",.int S.made,.str y,wv 0e0]])
 | .child x y s=>(S.tL x,[[.str "child",.int S.made,.str y,wv 0e0]])
 | .XC x s=>(S.tL x,[[.str "timer",.int S.made,.int (xJ S.nw 0e0)]])
 | .send s k r=>(S,[[.str "send",wv 0e0,.str k,wv (S.worth r)]])
 | .drop s=>match S.worth s with
  | some i=>if i∈S.pend then ({S with pend:=S.pend.filter fun j=>decide (j≠i)},[[.str "drop",.int i]]) else (S,[])
  | none=>(S,[])
 | .Xy x k=>match (aS S.lt k).getD [] with
  | w::r=>({S with nm:=cD S.nm x w,lt:=dH S.lt k r},[])
  | []=>({S with sl:=.Xy k},[])
 | .wait x ss=>if bB S.ans 1e0=none/\bM S.pend 1e0≠[] then ({S with sl:=.wait (bM S.pend 1e0)},[]) else ({S with nm:=cD S.nm x (bB S.ans 1e0)},[])
 | .fin s=>S.ends 0e0
 | .XM _ _=>(S,[])
 | .iff _ _ _=>(S,[])
def Stm.isB:Stm->Bool
 | .XM _ _=>true
 | .iff _ _ _=>true
 | _=>false
def Pu.enter(S:Pu)(c:Nat)(b:List Stm):Pu:={S with stk:=(c,b,0)::S.stk}
def uG(S:Pu):Stm->Pu
 | .XM s b=>if num 0e0=0 then S.pass else S.enter 0 b
 | .iff s b o=>if num 0e0=0 then S.enter 1 o else S.enter 0 b
 | _=>S
def one(S:Pu)(m:Stm):Pu×Cmds:=if m.isB=true then (uG S m,[]) else (if (bV S m).1.sl.isN=true then (bV S m).1.pass else (bV S m).1,(bV S m).2)
def Pu.bC(S:Pu):Pu:={S with stk:=bN S.stk}
def dU:Nat->Pu->Pu×Cmds
 | 0,S=>match bL S.bC.stk with
  | none=>S.bC.ends none
  | some _=>S.bC.pT
 | n+1,S=>match bL S.bC.stk with
  | none=>S.bC.ends none
  | some m=>if (one S.bC m).1.sl.isN=true then ((dU n (one S.bC m).1).1,(one S.bC m).2++(dU n (one S.bC m).1).2) else one S.bC m
def Pu.wake(S:Pu)(w:Wo):Pu×Cmds:=match bL S.stk with
 | some (.Xy x _)=>dU 300 {S with nm:=cD S.nm x w,stk:=fP S.stk,sl:=.Xu}
 | some (.wait x _)=>dU 300 {S with nm:=cD S.nm x w,stk:=fP S.stk,sl:=.Xu}
 | _=>(S,[])
def later(nw m:Int):Int:=if m > nw then m else nw
def Say.sok(s:Say):Prop:=s.ok/\s.depth<=6
end
mutual
noncomputable def Stm.gd(wt:Bool):Stm->Prop
 | .set _ s=>s.sok
 | .order _ _ s=>s.sok
 | .child _ _ s=>s.sok
 | .XC _ s=>s.sok
 | .send s _ r=>s.sok/\r.sok
 | .drop s=>s.sok
 | .wait _ ss=>wt=true/\ss.length<=4/\∀ s∈ss,s.sok
 | .Xy _ _=>True
 | .fin s=>s.sok
 | .XM s b=>s.sok/\CJ wt b
 | .iff s b o=>s.sok/\CJ wt b/\CJ wt o
noncomputable def CJ(wt:Bool):List Stm->Prop
 | []=>True
 | m::ms=>m.gd wt/\CJ wt ms
end
mutual
example:=[(by simpa using h)]
theorem LM{wt:Bool}:∀ {b:List Stm} {i:Nat} {m:Stm},CJ wt b->b[i]?=some m->m.gd wt
 | [],_,_,_,h=>by simp at h
 | _::_,0,_,g,h=>by simp only[Ξ,Ρ] at h;subst h;simp only[CJ] at g;exact g.1
 | _::b,i+1,_,g,h=>by simp only[CJ] at g;exact LM g.2 0e0
theorem xG:∀ {b:List Stm} {i:Nat} {m:Stm},b[i]?=some m->m.dp<=qB b
 | [],_,_,h=>by simp at h
 | _::_,0,_,h=>by simp only[Ξ,Ρ] at h;subst h;simp only[qB];omega
 | _::b,i+1,_,h=>by have:=xG (b:=b) 0e0;simp only[qB];omega
def Wb:Stk->Prop
 | []=>True
 | (_,b,_)::r=>qB b+r.length<=20/\Wb r
structure Ao(wt:Bool)(st:Stk):Prop where
 ok:AL st
 gd:∀ x∈st,CJ wt x.2.1
 dp:Wb st
structure XE(wt:Bool)(S:Pu)(N:Nat):Prop where
 nm:S.nm.length<=N
 md:S.made<=N
 pd:S.pend.length<=N
 an:S.ans.length<=N
 lt:S.lt.length<=N
 lw:∀ k ws,aS S.lt k=some ws->ws.length<=N/\∀ w∈ws,eC w
 pl:S.pl.Ok
 nw:0<=S.nw/\S.nw<=1000000000000
 sk:Ao wt S.stk
 sl:(∀ k,S.sl=.Xy k->∃ x,bL S.stk=some (.Xy x k))/\∀ ts,S.sl=.wait ts->∃ x ss,bL S.stk=some (.wait x ss)
structure Cl where
 r:Addr
 w:Addr
 t:Addr
set_option genInjectivity false in
structure Rn where
 x:Addr
 dx:Addr
 wk:Addr
 wx:Addr
 lb:Addr
 ln:Addr
 nm:Addr
 tk:Addr
 tx:Addr
 dp:Addr
 da:Addr
 lt:Addr
def Rn.cells(R:Rn):List Addr:=[R.x,R.lb,R.ln,R.nm,R.tk,R.dp,R.da,R.lt]
abbrev kL(c:Addr)(R:Rn)(sl:V)(ar:Wo)(nw:Int):HO:=.ins c R.dx [("walk",.ref R.wk),("sleep",sl),("arg",wv ar),("now",.int nw),("names",.ref R.nm),("tickets",.ref R.tk),("letters",.ref R.lt)]
def j5.keep{wk wx lb ln:Addr}(W:j5 C H wk wx lb ln st)(k1:∀ o,H wk=some o->H' wk=some o)(k2:∀ o,H lb=some o->H' lb=some o)(k3:∀ o,H ln=some o->H' ln=some o)(kt:aE H H'):j5 C H' wk wx lb ln st:=by
 obtain⟨vs,e,h⟩:=W.bl;exact⟨k1 _ W.ins,⟨vs,k2 _ e,h.kp kt⟩,k3 _ W.nu,W.ne,W.X8⟩
def jH.keep{tk tx dp da:Addr}{made:Nat}(T:jH C H tk tx dp da made pend ans)(k1:∀ o,H tk=some o->H' tk=some o)(k2:∀ o,H dp=some o->H' dp=some o)(k3:∀ o,H da=some o->H' da=some o):jH C H' tk tx dp da made pend ans :=
 ⟨k1 _ T.ins,k2 _ T.hp,k3 _ T.ha,T.nda,T.lt,T.asc,T.la,T.dis,T.small⟩
structure bE(C:Cl)(H:Hp)(R:Rn)(as:List Addr)(sl:V)(S:Pu):Prop where
 ins:H R.x=some (.ins C.r R.dx [("walk",.ref R.wk),("sleep",sl),("arg",wv S.ar),("now",.int S.nw),("names",.ref R.nm),("tickets",.ref R.tk),("letters",.ref R.lt)])
 slp:j8 H sl S.sl
 wk:j5 C.w H R.wk R.wx R.lb R.ln S.stk
 tk:jH C.t H R.tk R.tx R.dp R.da S.made S.pend S.ans
 nm:H R.nm=some (.dK (fF S.nm))
 lt:∃ kvs,H R.lt=some (.dK kvs)/\fZ H kvs as S.lt
 nas:as.Nodup
 ab:∀ a∈as,a≠R.lb/\a≠R.ln
 xw:R.x≠R.wk
 xt:R.x≠R.tk
 wt:R.wk≠R.tk
 n1:R.nm≠R.dp
 n2:R.nm≠R.da
 n3:R.nm≠R.lt
 n4:R.lt≠R.dp
 n5:R.lt≠R.da
def cY{p b:Addr}{u v:HO}(e:H p=some o)(h:H b=some v)(d:v≠o:=by intro z;cases z):Xt H p u b=some v:=by
 rw[aC (c0 h e d)];exact h
def aE.cS{p:Addr}{u:HO}(e:H p=some o)(d:∀ xs,o≠.tup xs:=by intro _ z;cases z):aE H (Xt H p u):=fun a xs h=>cY e h (d xs).symm
end
section
variable{C:Cl}{R:Rn}{as XU:List Addr}{sl:V}
mutual
example:=[(by intro _ z;cases z),d _,(by intro _ _ _ z;cases z),(by simp[Rn.cells]),(fun o h=>c 3e0 h),3e0,(fun o h=>by rw[A.wk.ins] at h;cases h;exact at' A.wk.ins 0e0),(fun o h=>by rw[A.tk.ins] at h;cases h;exact at' A.tk.ins 0e0),.inr k,(Xt H R.x (.ins C.r R.dx [("walk",.ref R.wk),("sleep",XR),("arg",wv ar'),("now",.int nw'),("names",.ref R.nm),("tickets",.ref R.tk),("letters",.ref R.lt)])),.dK (aR kvs 8e0 (.ref l)),.dK (fF (cD S.nm n w)),(by simp[Rn.cells,z]),(by rw[<- z];exact m),(by rw[z];exact h),.lst (ws.map wv),.lst (r.map wv),(fun o h=>by rw[A.wk.nu] at h;cases h;exact at' A.wk.nu 0e0),(fun o h=>by rw[el] at h;cases h;exact at' el 0e0)]
def bE.keep(A:bE C H R as sl S)(k:∀ b o,H b=some o->b=R.wk\/b∈R.cells\/b∈as->H' b=some o)(kt:aE H H'):bE C H' R as sl S:=by
 obtain⟨kvs,e,L⟩:=A.lt;have c:∀ {b:Addr} {o:HO},b∈R.cells->H b=some o->H' b=some o:=fun {b o} h e=>k b o e (.inr (.inl h));exact {A with
  ins:=c 5e0 A.ins
  slp:=A.slp.kt kt
  wk:=A.wk.keep (fun o h=>k _ o h (.inl rfl)) 4e0 4e0 kt
  tk:=A.tk.keep 4e0 4e0 4e0
  nm:=c 5e0 A.nm
  lt:=⟨kvs,c 5e0 e,L.keep fun a ha o h=>k a o h (.inr (.inr ha))⟩}
def bE.kp(A:bE C H R as sl S)(k:Kp [] H H'):bE C H' R as sl S:=A.keep (fun _ _ h _=>k.at h) (aE.nil k)
def bE.cellK(A:bE C H R as sl S){b:Addr}(h:b∈R.cells\/b∈as):∃ o,H b=some o/\∀ xs,o≠.tup xs:=by
 obtain⟨kvs,e,L⟩:=A.lt;obtain⟨vs,el,_⟩:=A.wk.bl;rcases h with h|h
 ·simp only[Rn.cells,Α,Δ,Υ] at h;rcases h with rfl|rfl|rfl|rfl|rfl|rfl|rfl|rfl
  ·exact⟨_,A.ins,fun _ z=>by cases z⟩
  ·exact⟨_,el,fun _ z=>by cases z⟩
  ·exact⟨_,A.wk.nu,fun _ z=>by cases z⟩
  ·exact⟨_,A.nm,fun _ z=>by cases z⟩
  ·exact⟨_,A.tk.ins,fun _ z=>by cases z⟩
  ·exact⟨_,A.tk.hp,fun _ z=>by cases z⟩
  ·exact⟨_,A.tk.ha,fun _ z=>by cases z⟩
  ·exact⟨_,e,fun _ z=>by cases z⟩
 ·obtain⟨xs,ex⟩:=L.ex b h;exact⟨_,ex,fun _ z=>by cases z⟩
structure Fw(R:Rn)(as XU:List Addr)(H H':Hp):Prop where
 kp:∀ b o,H b=some o->b∉R.cells->b∉as->H' b=some o
 dom:∀ b o,H b=some o->∃ o',H' b=some o'
 new:∀ a∈XU,a∈as\/H a=none
def Fw.refl:Fw R as as H H:=⟨fun _ _ h _ _=>h,fun _ o h=>⟨o,h⟩,fun _ h=>.inl h⟩
def Fw.free(F:Fw R as XU H H'){c:Addr}(h:H' c=none):H c=none:=by
 cases z:H c with
 | none=>rfl
 | some o=>obtain⟨o',z'⟩:=F.dom c o z;rw[h] at z';cases z'
def Fw.trans{aa9:List Addr}{H'':Hp}(a:Fw R as XU H H')(b:Fw R XU aa9 H' H''):Fw R as aa9 H H'' :=
  ⟨fun c o h n m=>b.kp c o (a.kp c o h n m) n (fun z=>by
      rcases a.new c z with y|y
      · exact m y
      · rw[h] at y;cases y),fun c o h=>(by obtain⟨o',h'⟩:=a.dom c o h;exact b.dom c o' h'),fun c h=>by
    rcases b.new c h with y|y
    · exact a.new c y
    · exact .inr (a.free y)⟩
def Fw.of(k:Kp [] H H'):Fw R as as H H':=⟨fun b o h _ _=>k.at h,fun b o h=>⟨o,k.at h⟩,fun _ h=>.inl h⟩
def Fw.set{p:Addr}{o:HO}(h:p∈R.cells\/p∈as):Fw R as as H (Xt H p o) :=
 ⟨fun b u e n m=>by rw[aC (fun z=>by rcases h with h|h;exact n 4e1;exact m 4e1)];exact e,fun b u e=>by by_cases z:b=p;exact⟨o,by rw[z,aA]⟩;exact⟨u,by rw[aC z];exact e⟩,fun _ h=>.inl h⟩
def Fw.ofD(k:Kp D H H')(h:∀ b∈D,b∈R.cells/\∃ o,H' b=some o):Fw R as as H H' :=
 ⟨fun b o e n _=>k b o e fun z=>n (h b z).1,fun b o e=>by by_cases z:b∈D;exact(h b z).2;exact⟨o,k b o e z⟩,fun _ h=>.inl h⟩
def Fw.fresh{c:Addr}(F:Fw R as XU H H')(h:H c=none):Fw R as XU H (Xt H' c o) :=
 ⟨fun b u e n m=>by rw[aC (aF e h)];exact F.kp b u e n m,fun b u e=>by rw[aC (aF e h)];exact F.dom b u e,F.new⟩
def bE.tkp(A:bE C H R as sl S)(F:Fw R as XU H H'):aE H H':=fun b xs h=>F.kp b _ h (fun z=>by
    obtain⟨o,e,d⟩:=A.cellK (.inl z);rw[h] at e;exact d xs (ϗ e).symm) fun z=>by
    obtain⟨o,e,d⟩:=A.cellK (.inr z);rw[h] at e;exact d xs (ϗ e).symm
def bE.gP(A:bE C H R as sl S){c:Addr}(h:H c=none):c∉R.cells/\c∉as:=by
 refine⟨fun z=>?_,fun z=>?_⟩
 ·obtain⟨o,e,d⟩:=A.cellK (.inl z);rw[h] at e;cases e
 ·obtain⟨o,e,d⟩:=A.cellK (.inr z);rw[h] at e;cases e
def bE.attr(A:bE C H R as sl S)(XR:V)(s':Slp)(ar':Wo)(nw':Int)(h:j8 H XR s'):bE C 9e0 R as XR {S with sl:=s',ar:=ar',nw:=nw'}:=by
 obtain⟨kvs,e,L⟩:=A.lt;obtain⟨vs,el,_⟩:=A.wk.bl;have kt:aE H 9e0:=aE.cS A.ins;exact {A with
  ins:=aA
  slp:=h.kt kt
  wk:=A.wk.keep (fun o h=>by rw[aC A.xw.symm];exact h) (fun o h=>by rw[el] at h;cases h;exact cY A.ins el) (fun o h=>by rw[A.wk.nu] at h;cases h;exact cY A.ins A.wk.nu) kt
  tk:=A.tk.keep (fun o h=>by rw[aC A.xt.symm];exact h) (fun o h=>by rw[A.tk.hp] at h;cases h;exact cY A.ins A.tk.hp) (fun o h=>by rw[A.tk.ha] at h;cases h;exact cY A.ins A.tk.ha)
  nm:=cY A.ins A.nm
  lt:=⟨kvs,cY A.ins e,L.keep fun a ha o h=>by obtain⟨xs,ex⟩:=L.ex a ha;rw[ex] at h;cases h;exact cY A.ins ex⟩}
def bE.walk(A:bE C H R as sl S)(W:j5 C.w H' R.wk R.wx R.lb R.ln st)(k:Kp [R.lb,R.ln] H H'):bE C H' R as sl {S with stk:=st}:=by
 obtain⟨kvs,e,L⟩:=A.lt;obtain⟨vs,el,_⟩:=A.wk.bl;have at':∀ {b:Addr} {o:HO},H b=some o->(∀ xs,o≠.lst xs)->H' b=some o:=fun {b o} h d=>k b o h (by
  simp only[Α,Δ,Υ,not_or];exact⟨c0 h el 1e0,c0 h A.wk.nu 1e0⟩)
 have kt:aE H H':=fun b xs h=>at' h 0e0;exact {A with
  ins:=at' A.ins 0e0
  slp:=A.slp.kt kt
  wk:=W
  tk:=⟨at' A.tk.ins 0e0,at' A.tk.hp 0e0,at' A.tk.ha 0e0,A.tk.nda,A.tk.lt,A.tk.asc,A.tk.la,A.tk.dis,A.tk.small⟩
  nm:=at' A.nm 0e0
  lt:=⟨kvs,at' e 0e0,L.keep fun a ha o h=>k a o h (by
   simp only[Α,Δ,Υ,not_or];exact A.ab a ha)⟩}
def bE.xV(_:bE C H R as sl S)(W:j5 C.w H' R.wk R.wx R.lb R.ln st)(k:Kp [R.lb,R.ln] H H'):Fw R as as H H':=Fw.ofD k fun b hb=>by
 obtain⟨vs,el,_⟩:=W.bl;simp only[Α,Δ,Υ] at hb;rcases hb with rfl|rfl
 ·exact⟨by simp[Rn.cells],_,el⟩
 ·exact⟨by simp[Rn.cells],_,W.nu⟩
def bE.tick(A:bE C H R as sl S){md:Nat}(T:jH C.t H' R.tk R.tx R.dp R.da md pd an)(k:Kp [R.tk,R.dp,R.da] H H'):bE C H' R as sl {S with made:=md,pend:=pd,ans:=an}:=by
 obtain⟨kvs,e,L⟩:=A.lt;obtain⟨vs,el,_⟩:=A.wk.bl;have at':∀ {b:Addr} {o:HO},H b=some o->(∀ xs,o≠.dK xs)->(∀ C d f,o≠.ins C d f)->H' b=some o:=fun {b o} h d d2=>k b o h (by
  simp only[Α,Δ,Υ,not_or];exact⟨c0 h A.tk.ins (d2 _ _ _),c0 h A.tk.hp 1e0,c0 h A.tk.ha 1e0⟩)
 have hE:∀ {b:Addr} {o:HO},H b=some o->(∀ xs,o≠.dK xs)->b≠R.tk->H' b=some o:=fun {b o} h d d2=>k b o h (by
  simp only[Α,Δ,Υ,not_or];exact⟨d2,c0 h A.tk.hp 1e0,c0 h A.tk.ha 1e0⟩)
 have atD:∀ {b:Addr} {o:HO},H b=some o->(∀ C d f,o≠.ins C d f)->b≠R.dp->b≠R.da->H' b=some o:=fun {b o} h d d2 d3=>k b o h (by
  simp only[Α,Δ,Υ,not_or];exact⟨c0 h A.tk.ins (d _ _ _),d2,d3⟩)
 have kt:aE H H':=fun b xs h=>at' h 0e0 2e0;exact {A with
  ins:=hE A.ins 0e0 A.xt
  slp:=A.slp.kt kt
  wk:=A.wk.keep (fun o h=>by rw[A.wk.ins] at h;cases h;exact hE A.wk.ins 0e0 A.wt) (fun o h=>by rw[el] at h;cases h;exact at' el 0e0 2e0) (fun o h=>by rw[A.wk.nu] at h;cases h;exact at' A.wk.nu 0e0 2e0) kt
  tk:=T
  nm:=atD A.nm 2e0 A.n1 A.n2
  lt:=⟨kvs,atD e 2e0 A.n4 A.n5,L.keep fun a ha o h=>by obtain⟨xs,ex⟩:=L.ex a ha;rw[ex] at h;cases h;exact at' ex 0e0 2e0⟩}
def bE.Dj(_:bE C H R as sl S){md:Nat}(T:jH C.t H' R.tk R.tx R.dp R.da md pd an)(k:Kp [R.tk,R.dp,R.da] H H'):Fw R as as H H':=Fw.ofD k fun b hb=>by
 simp only[Α,Δ,Υ] at hb;rcases hb with rfl|rfl|rfl
 ·exact⟨by simp[Rn.cells],_,T.ins⟩
 ·exact⟨by simp[Rn.cells],_,T.hp⟩
 ·exact⟨by simp[Rn.cells],_,T.ha⟩
def bE.name(A:bE C H R as sl S)(n:Str)(w:Wo):bE C (Xt H R.nm 1e1) R as sl {S with nm:=cD S.nm n w}:=by
 obtain⟨kvs,e,L⟩:=A.lt;obtain⟨vs,el,_⟩:=A.wk.bl;have at':∀ {b:Addr} {o:HO},H b=some o->(∀ xs,o≠.dK xs)->Xt H R.nm 1e1 b=some o:=fun {b o} h d=>cY A.nm h 1e0;have kt:aE H _:=fun b xs h=>at' h 0e0;exact {A with
  ins:=at' A.ins 0e0
  slp:=A.slp.kt kt
  wk:=A.wk.keep 6e0 8e1 7e1 kt
  tk:=A.tk.keep 7e0 (fun o h=>by rw[aC A.n1.symm];exact h) (fun o h=>by rw[aC A.n2.symm];exact h)
  nm:=aA
  lt:=⟨kvs,by rw[aC A.n3.symm];exact e,L.keep fun a ha o h=>by obtain⟨xs,ex⟩:=L.ex a ha;rw[ex] at h;cases h;exact at' ex 0e0⟩}
def bE.yJ(A:bE C H R as sl S)(e:H R.lt=some (.dK kvs))(hk:bA kvs 8e0=some (.ref l))(r:List Wo):bE C (Xt H l 6e1) R as sl {S with lt:=dH S.lt k r}/\l∈as:=by
 obtain⟨ab9,e',L⟩:=A.lt;rw[e] at e';cases e';obtain⟨vs,el,_⟩:=A.wk.bl;obtain⟨ws,hl,ZF⟩:∃ ws:List Wo,H l=some 5e1/\l∈as:=by
  rcases L.look k with⟨x,_⟩|⟨c,ws,x,_,y,z⟩
  ·rw[x] at hk;cases hk
  ·rw[x] at hk;cases hk;exact⟨ws,z,y⟩
 have at':∀ {b:Addr} {o:HO},H b=some o->(∀ xs,o≠.lst xs)->Xt H l 6e1 b=some o:=fun {b o} h d=>cY hl h 1e0;have kt:aE H _:=fun b xs h=>at' h 0e0;have nb:=A.ab l ZF;refine⟨{A with
  ins:=at' A.ins 0e0
  slp:=A.slp.kt kt
  wk:=A.wk.keep 6e0 (fun o h=>by rw[aC nb.1.symm];exact h) (fun o h=>by rw[aC nb.2.symm];exact h) kt
  tk:=A.tk.keep 7e0 (fun o h=>by rw[A.tk.hp] at h;cases h;exact at' A.tk.hp 0e0) (fun o h=>by rw[A.tk.ha] at h;cases h;exact at' A.tk.ha 0e0)
  nm:=at' A.nm 0e0
  lt:=⟨kvs,at' e 0e0,L.set r hk A.nas⟩},ZF⟩
def bE.Pe(A:bE C H R as sl S)(e:H R.lt=some (.dK kvs))(hk:bA kvs 8e0=none)(hl:H l=some 5e1)(n1:l∉R.cells)(n2:l∉as):bE C (Xt H R.lt 0e1) R (as++[l]) sl {S with lt:=S.lt++[(k,ws)]}:=by
 obtain⟨ab9,e',L⟩:=A.lt;rw[e] at e';cases e';obtain⟨vs,el,_⟩:=A.wk.bl;have at':∀ {b:Addr} {o:HO},H b=some o->(∀ xs,o≠.dK xs)->Xt H R.lt 0e1 b=some o:=fun {b o} h d=>cY e h 1e0;have kt:aE H _:=fun b xs h=>at' h 0e0;exact {A with
  ins:=at' A.ins 0e0
  slp:=A.slp.kt kt
  wk:=A.wk.keep 6e0 8e1 7e1 kt
  tk:=A.tk.keep 7e0 (fun o h=>by rw[aC A.n4.symm];exact h) (fun o h=>by rw[aC A.n5.symm];exact h)
  nm:=by rw[aC A.n3];exact A.nm
  lt:=⟨_,aA,by
   rw[zG _ hk];exact(L.keep fun a ha o h=>by obtain⟨xs,ex⟩:=L.ex a ha;rw[ex] at h;cases h;exact cY e ex).snoc (cY e hl)⟩
  nas:=ϛ.mpr ⟨A.nas,by simp,fun a ha b hb=>by rw[show b=l by simpa using hb];exact fun z=>n2 (by rw[<- z];exact ha)⟩
  ab:=fun a ha=>by
   rcases Κ.mp ha with ha|ha
   ·exact A.ab a ha
   ·rw[show a=l by simpa using ha];exact⟨fun z=>n1 2e1,fun z=>n1 2e1⟩}
def bE.other(A:bE C H R as sl S){c:Addr}{vs:List V}(hc:H c=some (.lst us))(n1:c∉R.cells)(n2:c∉as):bE C (Xt H c (.lst vs)) R as sl S :=
 A.keep (fun b o h m=>by
  rw[aC (fun z=>by
   rcases m with m|m|m
   ·rw[z] at m;rw[m,A.wk.ins] at hc;cases hc
   ·exact n1 3e1
   ·exact n2 3e1)]
  exact h) (aE.cS hc)
end
end
mutual
example:=[N+1,(by simp),(by cases e),Xt H p o,Str×Sp,(by rw[show(S.enter c bb).sl=S.sl from rfl,hs] at e;cases e),(by rw[show S'.pass.sl=S'.sl from rfl,a] at e;cases e),(by rw[show S.bC.sl=S.sl from rfl,h] at e;cases e),(by simp[Stm.dp];omega),Str.ofString a,Str×List Wo,(by simp[hx]),S.worth s]
def put2{x p:Addr}{o' u:HO}(hx:H x=some u)(hp:H p=none):Xt 3e0 x o' x=some o'/\Xt 3e0 x o' p=some o/\Kp [x] H (Xt 3e0 x o')/\x≠p:=by
 have n:x≠p:=aF hx hp;exact⟨aA,by rw[aC n.symm];exact aA,(Kp.new hp).trans (Kp.set 1e0),n⟩
def dA{p:Addr}(h:Xt H a o p=none):H p=none:=by
 by_cases e:p=a
 ·subst e;rw[aA] at h;cases h
 ·rwa [aC e] at h
def Told(C:Cl)(R:Rn)(as XU:List Addr)(H:Hp)(Q:VK)(z:Pu×Cmds):Prop:=∀(sl:V) (c:Addr) (us:List V) (H':Hp),bE C H' R XU sl z.1->H c=none->H' c=some (.lst us)->iL H' us z.2->Fw R as XU H H'->Q (.ref c) H'
inductive Ep(C:Cl)(vs:List V)(H:Hp)(Q:VK)(E:XK):Prop
 | mk (R:Rn) (as:List Addr) (sl:V) (S:Pu) (v:V) (s:Say) (_:vs=[.ref R.x,v]) (_:bE C H R as sl S) (_:S.pl.Ok) (_:dF H v s) (_:s.sok) (_:Q (wv 2e1) H):Ep C vs H Q E
inductive Nd(C:Cl)(vs:List V)(H:Hp)(Q:VK)(E:XK):Prop
 | mk (R:Rn) (as:List Addr) (sl:V) (S:Pu) (n:Str) (_:vs=[.ref R.x,.str n]) (_:bE C H R as sl S) (_:S.made < 1000000) (_:S.pend.length < 1000000) (_:S.nm.length<=1000000) (_:∀ H',bE C H' R as sl (S.tL n)->Fw R as as H H'->Q (.int S.made) H'):Nd C vs H Q E
inductive Na(C:Cl)(vs:List V)(H:Hp)(Q:VK)(E:XK):Prop
 | mk (R:Rn) (as:List Addr) (sl:V) (S:Pu) (w:Wo) (_:vs=[.ref R.x,wv w]) (_:bE C H R as sl S) (_:Told C R as as H Q (S.ends w)):Na C vs H Q E
inductive Nl(C:Cl)(vs:List V)(H:Hp)(Q:VK)(E:XK):Prop
 | mk (R:Rn) (as:List Addr) (sl:V) (S:Pu) (_:vs=[.ref R.x]) (_:bE C H R as sl S) (_:Told C R as as H Q S.pT):Nl C vs H Q E
inductive dR(C:Cl)(wt:Bool)(g:Stm->Prop)(vs:List V)(H:Hp)(Q:VK)(E:XK):Prop
 | mk (R:Rn) (as:List Addr) (sl:V) (S:Pu) (a:V) (m:Stm) (N:Nat) (_:vs=[.ref R.x,a]) (_:bE C H R as sl S) (_:S.sl=.Xu) (_:cJ H a m) (_:g m) (_:XE wt S N) (_:m.gd wt) (_:N<=900000) (_:Told C R as as H Q (bV S m)):dR C wt g vs H Q E
inductive HR(C:Cl)(wt:Bool)(vs:List V)(H:Hp)(Q:VK)(E:XK):Prop
 | mk (R:Rn) (as:List Addr) (sl:V) (S:Pu) (a:V) (m:Stm) (N:Nat) (_:vs=[.ref R.x,a]) (_:bE C H R as sl S) (_:cJ H a m) (_:m.isB=true) (_:XE wt S N) (_:m.gd wt) (_:bL S.stk=some m) (_:∀ H',bE C H' R as sl (uG S m)->Fw R as as H H'->Q .Xu H'):HR C wt vs H Q E
inductive Nf(C:Cl)(wt:Bool)(vs:List V)(H:Hp)(Q:VK)(E:XK):Prop
 | mk (R:Rn) (as:List Addr) (sl:V) (S:Pu) (a:V) (m:Stm) (N:Nat) (_:vs=[.ref R.x,a]) (_:bE C H R as sl S) (_:S.sl=.Xu) (_:cJ H a m) (_:XE wt S N) (_:m.gd wt) (_:bL S.stk=some m) (_:N<=900000) (_:Told C R as as H Q (one S m)):Nf C wt vs H Q E
inductive QD(C:Cl)(wt:Bool)(vs:List V)(H:Hp)(Q:VK)(E:XK):Prop
 | mk (R:Rn) (as:List Addr) (sl:V) (S:Pu) (N:Nat) (_:vs=[.ref R.x]) (_:bE C H R as sl S) (_:XE wt {S with sl:=.Xu} N) (_:N<=800000) (_:Told C R as as H Q (dU 300 {S with sl:=.Xu})):QD C wt vs H Q E
inductive En(C:Cl)(vs:List V)(H:Hp)(Q:VK)(E:XK):Prop
 | mk (R:Rn) (as:List Addr) (sl:V) (S:Pu) (_:vs=[.ref R.x]) (_:bE C H R as sl S) (_:Q sl H):En C vs H Q E
inductive HS(C:Cl)(vs:List V)(H:Hp)(Q:VK)(E:XK):Prop
 | mk (R:Rn) (as:List Addr) (sl:V) (S:Pu) (_:vs=[.ref R.x]) (_:bE C H R as sl S) (_:S.pend.length<=1000000) (_:∀ l,H l=none->Q (.ref l) (Xt H l (.lst (S.pend.map V.int)))):HS C vs H Q E
def Qs(F:XE wt S N)(h:s.sok):eC 2e1:=Hb F.pl h.1
def Pd{y:Str}{a:Sp}{r:List 4e0}:List.lookup y ((y,a)::r)=some a:=by simp only[List.lookup,beq_self_eq_true]
theorem mS{a b:String}{s:Sp}{r:List 4e0}(h:a≠b:=by decide):List.lookup 9e0 ((Str.ofString b,s)::r)=List.lookup 9e0 r:=by
 have:((Str.ofString a:Str)==Str.ofString b)=false:=Β2.mpr fun z=>h (by rwa [cG] at z);simp only[List.lookup,this]
def NF{y:Str}{a sp:Sp}{r:List 4e0}(h:List.lookup y ((k,a)::r)=some sp):(y=k/\sp=a)\/List.lookup y r=some sp:=by
 simp only[List.lookup] at h;split at h
 ·next z=>cases h;exact .inl ⟨eq_of_beq z,rfl⟩
 ·exact .inr h
def gS{m:Stm}(h:bL st=some m):∃ k b n r,st=(k,b,n)::r/\b[n]?=some m:=by
 match st,h with
 | (k,b,n)::r,h=>exact⟨k,b,n,r,rfl,h⟩
def nA(S:Pu)(m:Stm):(bV S m).1.stk=S.stk:=by
 cases m<;>simp only[bV,Pu.tL,Pu.ends]
 ·split
  ·split<;>rfl
  ·rfl
 ·split<;>rfl
 ·split<;>rfl
theorem C2{wt:Bool}:∀ st,Ao wt st->Ao wt (bN st)
 | [],h=>h.ok.elim
 | [x],h=>by simp only[bN];exact h
 | (k,b,n)::(k2,b2,n2)::r,h=>by
  rw[bN];split
  ·have o:=h.ok.2 (k2,b2,n2) 1e0;exact C2 ((k2,b2,nN b2 n2)::r) ⟨⟨DD o,fun x hx=>h.ok.2 x (ϓ _ hx)⟩,fun x hx=>by
    rcases Α.mp hx with rfl|hx
    ·exact h.gd (k2,b2,n2) 1e0
    ·exact h.gd x 1e1,⟨h.dp.2.1,h.dp.2.2⟩⟩
  ·exact h
termination_by st=>st.length
def XE.bC(F:XE wt S N)(h:S.sl=.Xu):XE wt S.bC N :=
 {F with sk:=C2 _ F.sk,sl:=⟨fun k e=>7e0,fun k e=>7e0⟩}
def XE.more{M:Nat}(F:XE wt S N)(h:N<=M):XE wt S M :=
 {F with nm:=Ω F.nm h,md:=Ω F.md h,pd:=Ω F.pd h,an:=Ω F.an h,lt:=Ω F.lt h,lw:=fun k ws e=>⟨Ω (F.lw k ws e).1 h,(F.lw k ws e).2⟩}
def Ao.pass{m:Stm}(G:Ao wt st)(h:bL st=some m):Ao wt (fP st):=by
 obtain⟨k,b,n,r,rfl,hm⟩:=gS h;have hn:=(Ν.mp hm).1;exact⟨⟨hn,G.ok.2⟩,fun x hx=>by
  rcases Α.mp hx with rfl|hx
  ·exact G.gd (k,b,n) 1e0
  ·exact G.gd x 1e1,G.dp⟩
theorem Ao.enter{m:Stm}{c:Nat}(G:Ao wt st)(h:bL st=some m)(hg:CJ wt bb)(hd:qB bb+1<=m.dp):Ao wt ((c,bb,0)::st):=by
 obtain⟨k,b,n,r,rfl,hm⟩:=gS h;have hn:=(Ν.mp hm).1;have h2:=xG hm;have h3:=G.dp.1;refine⟨⟨Α4 _,fun x hx=>?_⟩,fun x hx=>?_,?_,G.dp⟩
 ·rcases Α.mp hx with rfl|hx
  ·exact hn
  ·exact G.ok.2 x hx
 ·rcases Α.mp hx with rfl|hx
  ·exact hg
  ·exact G.gd x hx
 ·simp only[Η];omega
def XE.stm(F:XE wt S N){m:Stm}(h:bL S.stk=some m):m.gd wt:=by
 obtain⟨k,b,n,r,e,hm⟩:=gS h;exact LM (F.sk.gd (k,b,n) (by rw[e];simp)) hm
def Mp(h:S.pl.Ok)(n:Str){w:Wo}(hw:eC w):({S with nm:=cD S.nm n w}:Pu).pl.Ok :=
 ⟨fun x=>by show eC (kF (cD S.nm n w) x);rw[Jo];split;exact hw;exact h.nm x,h.ar,h.an⟩
theorem tH:∀(l:List 0e1) (k:Str) (r:List Wo) (j:Str) (ws:List Wo),aS (dH l k r) j=some ws->(j=k/\ws=r)\/aS l j=some ws
 | [],_,_,_,_,h=>by simp[dH,aS] at h
 | p::l,k,r,j,ws,h=>by
  by_cases e:p.1=k
  ·rw[dH,if_pos e,aS] at h;by_cases e2:p.1=j
   ·rw[if_pos e2] at h;cases h;exact .inl ⟨by rw[<- e2,e],rfl⟩
   ·rw[if_neg e2] at h;exact .inr (by rw[aS,if_neg e2];exact h)
  ·rw[dH,if_neg e,aS] at h;by_cases e2:p.1=j
   ·rw[if_pos e2] at h;exact .inr (by rw[aS,if_pos e2];exact h)
   ·rw[if_neg e2] at h;rcases tH l k r j ws h with x|x
    ·exact .inl x
    ·exact .inr (by rw[aS,if_neg e2];exact x)
theorem oA:∀(l:List 0e1) (k:Str) (r:List Wo),(dH l k r).length=l.length
 | [],_,_=>rfl
 | p::l,k,r=>by
  rw[dH];split
  ·rfl
  ·simp[oA l k r]
theorem BX(h:∀ w∈ws,eC w):eC (bB ans ws):=by
 unfold bB;cases e:ans.find? fun p=>decide (some p.1∈ws) with
 | none=>exact kZ
 | some p =>
  have:=List.find?_some e;exact h _ (by simpa using this)
def AV{α:Type}{p:α->Bool}{l:List α}:(l.filter p).length<=l.length:=Γ8 p l
theorem XE.bV(F:XE wt S N){m:Stm}(h:bL S.stk=some m)(hs:S.sl=.Xu)(hN:N<=900000):XE wt (bV S m).1 0e0:=by
 have g:=F.stm h;have F1:=F.more (Δ4 N);have XJ:(∀ k,S.sl=.Xy k->∃ x,bL S.stk=some (.Xy x k))/\∀ ts,S.sl=.wait ts->∃ x ss,bL S.stk=some (.wait x ss):=F.sl;have put:∀(n:Str) {w:Wo},eC w->XE wt {S with nm:=cD S.nm n w} 0e0:=fun n w hw =>
  {F1 with nm:=by (have:=DX S.nm n w;have:=F.nm;show(cD S.nm n w).length<=N+1;omega),pl:=Mp F.pl n hw}
 have tL:∀ n,XE wt (S.tL n) 0e0:=fun n =>
  have hw:eC (some (S.made:Int)):=fL (by omega) (by have:=F.md;omega)
  {F1 with
   nm:=(put n hw).nm
   pl:=(put n hw).pl
   md:=(by have:=F.md;show S.made+1<=N+1;omega)
   pd:=(by have:=F.pd;show(S.pend++[(S.made:Int)]).length<=N+1;rw[Μ];simp;exact this)}
 cases m with
 | set x s=>exact put x (Qs F g)
 | order x y s=>exact tL x
 | child x y s=>exact tL x
 | XC x s=>exact tL x
 | send s k r=>exact F1
 | drop s =>
  simp only[Own.bV];split
  ·split
   ·exact {F1 with pd:=Ω AV (Nat.le_succ_of_le F.pd)}
   ·exact F1
  ·exact F1
 | wait x ss =>
  simp only[Own.bV];split
  ·exact {F1 with sl:=⟨fun k e=>2e0,fun ts e=>⟨x,ss,h⟩⟩}
  ·exact put x (BX fun w hw=>by
    obtain⟨s,YS,rfl⟩:=Α9.mp hw;exact Qs F (g.2.2 s YS))
 | Xy x k =>
  simp only[Own.bV];split
  ·next w r e =>
   obtain⟨ws,el,rfl⟩:∃ ws,aS S.lt k=some ws/\ws=w::r:=by
    cases el:aS S.lt k with
    | none=>rw[el] at e;cases e
    | some ws=>rw[el] at e;exact⟨ws,rfl,e⟩
   have hl:=F.lw k _ el;exact {put x (hl.2 w 1e0) with
    lt:=(by have:=F.lt;show(dH S.lt k r).length<=N+1;rw[oA];omega)
    lw:=fun j vs hj=>by
     rcases tH S.lt k r j vs hj with⟨_,rfl⟩|z
     ·exact⟨by have:=hl.1;simp only[Η] at this;omega,fun w hw=>hl.2 w (ϓ _ hw)⟩
     ·exact F1.lw j vs z}
  ·exact {F1 with sl:=⟨fun k' e=>(by cases e;exact⟨x,h⟩),fun ts e=>2e0⟩}
 | fin s=>exact {F1 with pd:=Α4 _,sl:=⟨fun k e=>2e0,fun k e=>2e0⟩}
 | XM s b=>exact F1
 | iff s b o=>exact F1
def oU{s:Slp}(h:s.isN=true):s=.Xu:=by cases s<;>first|rfl|cases h
theorem XE.one(F:XE wt S N){m:Stm}(h:bL S.stk=some m)(hs:S.sl=.Xu)(hN:N<=900000):XE wt (one S m).1 0e0:=by
 have g:=F.stm h;have F1:=F.more (Δ4 N);have ac9:∀ {st:Stk},XE wt {S with stk:=st} 0e0->XE wt {S with stk:=st} 0e0:=fun z=>z;have pass:∀ {S':Pu},XE wt S' 0e0->S'.sl=.Xu->S'.stk=S.stk->XE wt S'.pass 0e0:=fun {S'} z a b =>
  {z with sk:=(by have:=z.sk;rw[b] at this;show Ao wt (fP S'.stk);rw[b];exact this.pass h),sl:=⟨fun k e=>6e0,fun k e=>6e0⟩}
 have enter:∀(c:Nat) (bb:List Stm),CJ wt bb->qB bb+1<=m.dp->XE wt (S.enter c bb) 0e0:=fun c bb hg hd =>
  {F1 with sk:=F.sk.enter h hg hd,sl:=⟨fun k e=>5e0,fun k e=>5e0⟩}
 by_cases hB:m.isB=true
 ·simp only[Own.one,if_pos hB];cases m with
  | XM s b =>
   simp only[uG];split
   ·exact pass F1 hs rfl
   ·exact enter 0 b g.2 (by simp[Stm.dp])
  | iff s b o =>
   simp only[uG];split
   ·exact enter 1 o g.2.2 8e0
   ·exact enter 0 b g.2.1 8e0
  | _=>cases hB
 ·simp only[Own.one,if_neg hB];have D:=F.bV h hs hN;split
  ·next z=>exact pass D (oU z) (nA S m)
  ·exact D
def kN{m:Stm}(h:m.isB=false):one S m=(if (bV S m).1.sl.isN=true then (bV S m).1.pass else (bV S m).1,(bV S m).2):=by simp[one,h]
def DN{m:Stm}(h:m.isB=true):one S m=(uG S m,[]):=by simp[one,h]
def lY:List.lookup (Str.ofString "set") [((Str.ofString "set":Str),s0),((Str.ofString "order":Str),s1),((Str.ofString "timer":Str),s2),((Str.ofString "child":Str),s3),((Str.ofString "send":Str),s4),((Str.ofString "drop":Str),s5),((Str.ofString "wait":Str),s6),((Str.ofString "hear":Str),s7),((Str.ofString "end":Str),s8)]=some s0:=by rw[Pd]
def iF:List.lookup (Str.ofString "order") [((Str.ofString "set":Str),s0),((Str.ofString "order":Str),s1),((Str.ofString "timer":Str),s2),((Str.ofString "child":Str),s3),((Str.ofString "send":Str),s4),((Str.ofString "drop":Str),s5),((Str.ofString "wait":Str),s6),((Str.ofString "hear":Str),s7),((Str.ofString "end":Str),s8)]=some s1:=by rw[mS,Pd]
def iG:List.lookup (Str.ofString "timer") [((Str.ofString "set":Str),s0),((Str.ofString "order":Str),s1),((Str.ofString "timer":Str),s2),((Str.ofString "child":Str),s3),((Str.ofString "send":Str),s4),((Str.ofString "drop":Str),s5),((Str.ofString "wait":Str),s6),((Str.ofString "hear":Str),s7),((Str.ofString "end":Str),s8)]=some s2:=by rw[mS,mS,Pd]
def iE:List.lookup (Str.ofString "child") [((Str.ofString "set":Str),s0),((Str.ofString "order":Str),s1),((Str.ofString "timer":Str),s2),((Str.ofString "child":Str),s3),((Str.ofString "send":Str),s4),((Str.ofString "drop":Str),s5),((Str.ofString "wait":Str),s6),((Str.ofString "hear":Str),s7),((Str.ofString "end":Str),s8)]=some s3:=by rw[mS,mS,mS,Pd]
def jL:List.lookup (Str.ofString "send") [((Str.ofString "set":Str),s0),((Str.ofString "order":Str),s1),((Str.ofString "timer":Str),s2),((Str.ofString "child":Str),s3),((Str.ofString "send":Str),s4),((Str.ofString "drop":Str),s5),((Str.ofString "wait":Str),s6),((Str.ofString "hear":Str),s7),((Str.ofString "end":Str),s8)]=some s4:=by rw[mS,mS,mS,mS,Pd]
def jJ:List.lookup (Str.ofString "drop") [((Str.ofString "set":Str),s0),((Str.ofString "order":Str),s1),((Str.ofString "timer":Str),s2),((Str.ofString "child":Str),s3),((Str.ofString "send":Str),s4),((Str.ofString "drop":Str),s5),((Str.ofString "wait":Str),s6),((Str.ofString "hear":Str),s7),((Str.ofString "end":Str),s8)]=some s5:=by rw[mS,mS,mS,mS,mS,Pd]
def jM:List.lookup (Str.ofString "wait") [((Str.ofString "set":Str),s0),((Str.ofString "order":Str),s1),((Str.ofString "timer":Str),s2),((Str.ofString "child":Str),s3),((Str.ofString "send":Str),s4),((Str.ofString "drop":Str),s5),((Str.ofString "wait":Str),s6),((Str.ofString "hear":Str),s7),((Str.ofString "end":Str),s8)]=some s6:=by rw[mS,mS,mS,mS,mS,mS,Pd]
def jK:List.lookup (Str.ofString "hear") [((Str.ofString "set":Str),s0),((Str.ofString "order":Str),s1),((Str.ofString "timer":Str),s2),((Str.ofString "child":Str),s3),((Str.ofString "send":Str),s4),((Str.ofString "drop":Str),s5),((Str.ofString "wait":Str),s6),((Str.ofString "hear":Str),s7),((Str.ofString "end":Str),s8)]=some s7:=by rw[mS,mS,mS,mS,mS,mS,mS,Pd]
def lX:List.lookup (Str.ofString "end") [((Str.ofString "set":Str),s0),((Str.ofString "order":Str),s1),((Str.ofString "timer":Str),s2),((Str.ofString "child":Str),s3),((Str.ofString "send":Str),s4),((Str.ofString "drop":Str),s5),((Str.ofString "wait":Str),s6),((Str.ofString "hear":Str),s7),((Str.ofString "end":Str),s8)]=some s8:=by rw[mS,mS,mS,mS,mS,mS,mS,mS,Pd]
def deeds9{Z:Str->Sp->Prop}{y:Str}{sp:Sp}(h:List.lookup y [((Str.ofString "set":Str),s0),((Str.ofString "order":Str),s1),((Str.ofString "timer":Str),s2),((Str.ofString "child":Str),s3),((Str.ofString "send":Str),s4),((Str.ofString "drop":Str),s5),((Str.ofString "wait":Str),s6),((Str.ofString "hear":Str),s7),((Str.ofString "end":Str),s8)]=some sp)(z0:Z "set" s0)(z1:Z "order" s1)(z2:Z "timer" s2)(z3:Z "child" s3)(z4:Z "send" s4)(z5:Z "drop" s5)(z6:Z "wait" s6)(z7:Z "hear" s7)(z8:Z "end" s8):Z y sp:=by
 rcases NF h with⟨rfl,rfl⟩|h
 ·exact z0
 rcases NF h with⟨rfl,rfl⟩|h
 ·exact z1
 rcases NF h with⟨rfl,rfl⟩|h
 ·exact z2
 rcases NF h with⟨rfl,rfl⟩|h
 ·exact z3
 rcases NF h with⟨rfl,rfl⟩|h
 ·exact z4
 rcases NF h with⟨rfl,rfl⟩|h
 ·exact z5
 rcases NF h with⟨rfl,rfl⟩|h
 ·exact z6
 rcases NF h with⟨rfl,rfl⟩|h
 ·exact z7
 rcases NF h with⟨rfl,rfl⟩|h
 ·exact z8
 cases h
def eJ(h:bL S.bC.stk=none)(n:Nat):dU n S=S.bC.ends none:=by
 cases n<;>simp only[dU,h]
def jQ{m:Stm}(h:bL S.bC.stk=some m):dU 0 S=S.bC.pT:=by simp only[dU,h]
def oT{m:Stm}(h:bL S.bC.stk=some m)(z:(one S.bC m).1.sl.isN=true)(n:Nat):dU (n+1) S=((dU n (one S.bC m).1).1,(one S.bC m).2++(dU n (one S.bC m).1).2):=by simp only[dU,h,z,Γ1]
def jP{m:Stm}(h:bL S.bC.stk=some m)(z:(one S.bC m).1.sl.isN=false)(n:Nat):dU (n+1) S=one S.bC m:=by simp only[dU,h,z,Β4,ϙ]
def C8(S:Pu)(m:Stm):(bV S m).2.length<=1:=by
 cases m<;>simp only[bV,Pu.ends,Η,ϖ,Α4,Ι,Γ4]
 ·split
  ·split<;>simp
  ·simp
 ·split<;>simp
 ·split<;>simp
def Hv(S:Pu)(m:Stm):(one S m).2.length<=1:=by
 unfold one;split
 ·simp
 ·exact C8 S m
inductive Hap where
 | X3 (m:Int) (w:Wo)|don (m t:Int) (w:Wo)|ltr (m:Int) (k:Str) (w:Wo)
end
variable{hs:List Hap}
noncomputable def Hap.ini:Hap->List V
 | .X3 m _=>[.str "begin",.int m]
 | .don m t _=>[.str "done",.int m,.int t]
 | .ltr m k _=>[.str "letter",.int m,.str k]
noncomputable def Hap.w:Hap->Wo
 | .X3 _ w | .don _ _ w | .ltr _ _ w=>w
def Hap.vs(h:Hap):List V:=h.ini++[wv h.w]
variable{vs:List V}
noncomputable def Hap.m:Hap->Int
 | .X3 m _ | .don m _ _ | .ltr m _ _=>m
variable{m:Stm}
mutual
example:=[Int×Wo,Str×List Wo,V×V,Str.ofString "-",Str.ofString "+",Str.ofString "*",(by simp),Key.inr.inj z,Str×Wo,Xt (Xt H1 dx (.own x)) x (.ins C dx []),.inr (Str.ofString a),i∈cB ans ws,ws.take i,ws.map wv,.lst us,some i,.inr k,(Kp.drop ((K1.mono (by simp)).trans K) hx),(Kp.new (by rw[aC ne.symm];exact hx)),(fun v H2=>v=.Xu/\Q x H2),(.tup [.int i,wv w]),(by simpa using e),.ins C.r dx [],(by simp[fW,h]),(.tup [x,y]),cB ans ws,S.worth s,j∈i::r,Xt H p o,.tup us,Xt H1 dx (.own x),(if num w > 0 then num w else 0),(.tup [.str k,.ref b]),(by intro z;cases z),S.pend.map V.int,(by simp[fW,h,z]),ws.take (i+1),us++[.ref a],.int S.made,.inr "made",(l++[(i,w)]),dA (dA f2),dA (dA f1),(by cases e),.ref a::us,aE.nil K1]
def mU(H:Hp)(v:V)(h:Hap):Prop:=∃ a,v=.ref a/\H a=some (.tup h.vs)
def Pu.over(S:Pu)(h:Hap):Bool:=match S.sl with
 | .new=>(match h with
  | .X3 _ _=>false
  | _=>true)
 | .ended _=>true
 | .worn=>true
 | _=>(match h with
  | .X3 _ _=>true
  | .don _ i _=>!decide (i∈S.pend)
  | .ltr _ _ _=>false)
def fI(l:List 1e0)(k:Str)(w:Wo):List 1e0:=match aS l k with
 | some ws=>dH l k (ws++[w])
 | none=>l++[(k,[w])]
def Pu.at'(S:Pu)(m:Int):Pu:={S with nw:=later S.nw m}
def Pu.done(S:Pu)(i:Int)(w:Wo):Pu:={S with pend:=S.pend.filter fun j=>decide (j≠i),ans:=S.ans++[(i,w)]}
def Pu.eZ(S:Pu)(i:Int)(w:Wo):Pu×Cmds:=match S.sl with
 | .wait ts=>if i∈ts then (S.done i w).wake 5e1 else (S.done i w,[])
 | _=>(S.done i w,[])
def Pu.eT(S:Pu)(k:Str)(w:Wo):Pu×Cmds:=match S.sl with
 | .Xy k'=>if k'=k then S.wake w else ({S with lt:=fI S.lt k w},[])
 | _=>({S with lt:=fI S.lt k w},[])
def Pu.take(S:Pu)(h:Hap):Pu×Cmds:=if S.over h=true then (S,[]) else match h with
 | .X3 m w=>dU 300 {S with nw:=later S.nw m,ar:=w,sl:=.Xu}
 | .don m i w=>(S.at' m).eZ i w
 | .ltr m k w=>(S.at' m).eT k w
def fH(b:List Stm):Pu:=⟨[(0,b,0)],.new,none,0,[],0,[],[],[]⟩
inductive Ng(C:Cl)(vs:List V)(H:Hp)(Q:VK)(E:XK):Prop
 | mk (R:Rn) (as:List Addr) (sl:V) (S:Pu) (v:V) (h:Hap) (_:vs=[.ref R.x,v]) (_:bE C H R as sl S) (_:S.sl.isN=false) (_:mU H v h) (_:∀ H',Kp [] H H'->Q (.bl (S.over h)) H'):Ng C vs H Q E
inductive Ia(C:Cl)(wt:Bool)(vs:List V)(H:Hp)(Q:VK)(E:XK):Prop
 | mk (R:Rn) (as:List Addr) (sl:V) (S:Pu) (w:Wo) (N:Nat) (_:vs=[.ref R.x,wv w]) (_:bE C H R as sl S) (_:XE wt S N) (_:N<=700000) (_:eC w) (_:((∃ k,S.sl=.Xy k)\/∃ ts,S.sl=.wait ts)) (_:Told C R as as H Q (S.wake w)):Ia C wt vs H Q E
inductive HY(C:Cl)(wt:Bool)(vs:List V)(H:Hp)(Q:VK)(E:XK):Prop
 | mk (R:Rn) (as:List Addr) (sl:V) (S:Pu) (i:Int) (w:Wo) (N:Nat) (_:vs=[.ref R.x,.int i,wv w]) (_:bE C H R as sl S) (_:XE wt S N) (_:N<=600000) (_:eC w) (_:i∈S.pend) (_:S.sl.isN=false) (_:Told C R as as H Q (S.eZ i w)):HY C wt vs H Q E
def Qk(C:Cl)(R:Rn)(as XU:List Addr)(H:Hp)(Q:VK)(z:Pu×Cmds):Prop:=∀(sl:V) (c:Addr) (us:List V) (H':Hp),bE C H' R XU sl z.1->H c=none->c∉XU->H' c=some 4e1->iL H' us z.2->Fw R as XU H H'->Q (.ref c) H'
inductive Nk(C:Cl)(wt:Bool)(vs:List V)(H:Hp)(Q:VK)(E:XK):Prop
 | mk (R:Rn) (as:List Addr) (sl:V) (S:Pu) (k:Str) (w:Wo) (N:Nat) (_:vs=[.ref R.x,.str k,wv w]) (_:bE C H R as sl S) (_:XE wt S N) (_:N<=600000) (_:eC w) (_:((∃ k,S.sl=.Xy k)\/∃ ts,S.sl=.wait ts)) (_:∀ XU,Qk C R as XU H Q (S.eT k w)):Nk C wt vs H Q E
inductive HZ(C:Cl)(wt:Bool)(vs:List V)(H:Hp)(Q:VK)(E:XK):Prop
 | mk (R:Rn) (as:List Addr) (sl:V) (S:Pu) (v:V) (h:Hap) (N:Nat) (_:vs=[.ref R.x,v]) (_:bE C H R as sl S) (_:XE wt S N) (_:N<=500000) (_:S.sl.isN=false) (_:mU H v h) (_:((0<=h.m/\h.m<=1000000000000)/\eC h.w)) (_:∀ XU,Qk C R as XU H Q (S.take h)):HZ C wt vs H Q E
inductive Cz(C:Cl)(vs:List V)(H:Hp)(Q:VK)(E:XK):Prop
 | mk (x dx pg:Addr) (us:List V) (b:List Stm) (_:vs=[.ref x,.ref pg]) (_:H x=some 2e2) (_:H pg=some 9e2) (_:bX H us b) (_:∀(R:Rn) (sl:V) (H':Hp),R.x=x->bE C H' R [] sl (fH b)->Kp [x] H H'->(∀ a∈R.cells,a=x\/H a=none)->Q .Xu H'):Cz C vs H Q E
theorem rG(i:Int)(ts:List Int):pD (.int i) (ts.map V.int)=decide (i∈ts):=by
 rw[Ε3];simp[pD,nB]
def oP(ts:List Int):(ts.map V.int).all eI=true:=by simp[eI]
theorem OZ{K:q0B}{b:Addr}{z x y:Str}(n:Nat)(ha:H a=some (.tup [.str z,.str x]))(hb:H b=some (.tup [.str z,.str y])):sJ K H (n+1) a b (decide (x=y)):=by
 have:=sJ.tup (K:=K) (H:=H) (n:=n) (e:=fun j=>if j=0 then true else decide (x=y)) (jC.of ha) (jC.of hb) fun j u v e1 e2=>by
  rcases j with _|_|j
  ·simp only[Ξ,Ρ] at e1 e2;subst e1 e2;have:=uV.flat (K:=K) (H:=H) (n:=n) (x:=.str z) (y:=.str z) rfl rfl
   rwa [show nB (.str z) (.str z)=true by simp[nB]] at this
  ·simp only[List.getElem?_cons_succ,Ξ,Ρ] at e1 e2;subst e1 e2;have:=uV.flat (K:=K) (H:=H) (n:=n) (x:=.str x) (y:=.str y) rfl rfl
   rwa [GY] at this
  ·simp at e1
 rw[show((List.range (min [V.str z,V.str x].length [V.str z,V.str y].length)).all (fun j=>if j=0 then true else decide (x=y))&&[V.str z,V.str x].length==[V.str z,V.str y].length)=decide (x=y) by simp[List.range_succ]] at this;exact this
theorem XE.at'(F:XE wt S N){m:Int}(h:0<=m/\m<=1000000000000):XE wt (S.at' m) N :=
 {F with pl:=⟨F.pl.nm,F.pl.ar,F.pl.an⟩,nw:=(by have:=F.nw;show 0<=later S.nw m/\later S.nw m<=1000000000000;unfold later;split<;>omega)}
theorem yF{i:Int}{w:Wo}:∀(l:List 0e0) (x:Wo),fW 0e4 x=fW l x\/fW 0e4 x=w
 | _,none=>.inl (by simp[fW])
 | [],some j=>by
  by_cases h:i=j
  ·exact .inr 3e2
  ·exact .inl 3e2
 | p::r,some j=>by
  by_cases h:p.1=j
  ·exact .inl 3e2
  ·rcases yF (i:=i) (w:=w) r (some j) with z|z
   ·exact .inl 5e3
   ·exact .inr 5e3
def XE.done(F:XE wt S N){w:Wo}(hw:eC w):XE wt (S.done i w) (N+1) :=
 {F.more (Δ4 N) with
  pd:=Ω AV (Nat.le_succ_of_le F.pd)
  an:=(by have:=F.an;show(S.ans++[(i,w)]).length<=N+1;simp;exact this)
  pl:=⟨F.pl.nm,F.pl.ar,fun x=>(by
   show eC (fW (S.ans++[(i,w)]) x);rcases yF (i:=i) (w:=w) S.ans x with z|z
   ·rw[z];exact F.pl.an x
   ·rw[z];exact hw)⟩}
theorem yI{k:Str}{ws:List Wo}:∀(l:List 1e0) (j:Str) (vs:List Wo),aS (l++[(k,ws)]) j=some vs->(j=k/\vs=ws)\/aS l j=some vs
 | [],j,vs,h=>by
  rw[Α1,aS] at h;by_cases e:k=j
  ·rw[if_pos e] at h;cases h;exact .inl ⟨e.symm,rfl⟩
  ·rw[if_neg e] at h;cases h
 | p::r,j,vs,h=>by
  rw[Ψ,aS] at h;by_cases e:p.1=j
  ·rw[if_pos e] at h;exact .inr (by rw[aS,if_pos e];exact h)
  ·rw[if_neg e] at h;rcases yI r j vs h with z|z
   ·exact .inl z
   ·exact .inr (by rw[aS,if_neg e];exact z)
theorem XE.fI(F:XE wt S N){w:Wo}(hw:eC w):XE wt {S with lt:=fI S.lt k w} (N+1):=by
 have F1:=F.more (Δ4 N);unfold Own.fI;cases e:aS S.lt k with
 | some ws =>
  have hl:=F.lw k ws e;exact {F1 with
   lt:=(by have:=F.lt;show(dH S.lt k (ws++[w])).length<=N+1;rw[oA];omega)
   lw:=fun j vs h=>by
    rcases tH S.lt k _ j vs h with⟨_,rfl⟩|z
    ·exact⟨by have:=hl.1;simp;exact this,fun u hu=>by
      rcases Κ.mp hu with hu|hu
      ·exact hl.2 u hu
      ·rw[show u=w by simpa using hu];exact hw⟩
    ·exact F1.lw j vs z}
 | none =>
  exact {F1 with
   lt:=(by have:=F.lt;show(S.lt++[(k,[w])]).length<=N+1;simp;exact this)
   lw:=fun j vs h=>by
    rcases yI S.lt j vs h with⟨_,rfl⟩|z
    ·exact⟨by simp,fun u hu=>by rw[show u=w by simpa using hu];exact hw⟩
    ·exact F1.lw j vs z}
theorem Cu{k:Str}{a b:List Wo}:∀ {l:List 1e0},aS l k=none->dH (l++[(k,a)]) k b=l++[(k,b)]
 | [],_=>by simp[dH]
 | p::r,h=>by
  rw[aS] at h;by_cases e:p.1=k
  ·rw[if_pos e] at h;cases h
  ·rw[if_neg e] at h;rw[Ψ,dH,if_neg e,Cu h];rfl
theorem XE.wake(F:XE wt S N)(h:bL S.stk=some m){w:Wo}(hw:eC w)(n:Str):XE wt {S with nm:=cD S.nm n w,stk:=fP S.stk,sl:=.Xu} (N+1) :=
 {F.more (Δ4 N) with
  nm:=(by have:=DX S.nm n w;have:=F.nm;show(cD S.nm n w).length<=N+1;omega)
  pl:=(Mp F.pl n hw)
  sk:=F.sk.pass h
  sl:=⟨fun k e=>3e4,fun k e=>3e4⟩}
def WL{x:Addr}{p:Addr}{u:HO}(k:Kp [x] H G)(gx:G x=some u)(hp:G p=none):H p=none:=by
 cases z:H p with
 | none=>rfl
 | some o =>
  by_cases hz:p=x
  ·subst hz;rw[gx] at hp;cases hp
  ·rw[k.at1 z hz] at hp;cases hp
def Ph{pg:Addr}{Q:Addr->Hp->Prop}(ep:H1 pg=some 9e2)(hs:bX H1 us b)(q:∀ x wx lb ln H',Kp [] H1 H'->H1 x=none->H1 lb=none->H1 ln=none->j5 C H' x wx lb ln [(0,b,0)]->Q x H') : ∀ x dx,H1 x=none->H1 dx=none->dx≠x->zY C [.ref x,.ref pg] 9e0 9e1 E:=fun x dx hx hdx ne=>by
 have K1:Kp [] H1 9e0:=(Kp.new hdx).trans 8e1;exact⟨x,dx,pg,us,b,rfl,aA,K1.at ep,hs.kp 5e4,fun lb ln H' f1 f2 W K=>⟨rfl,q x dx lb ln H' 7e1 hx 2e4 1e4 W⟩⟩
def Vi{Q:Addr->Hp->Prop}(q:∀ x tx dp da H',Kp [] H1 H'->H1 x=none->H1 dp=none->H1 da=none->jH C H' x tx dp da 0 [] []->Q x H') : ∀ x dx,H1 x=none->H1 dx=none->dx≠x->zX C [.ref x] 9e0 9e1 E:=fun x dx hx hdx ne=>by
 have K1:Kp [] H1 9e0:=(Kp.new hdx).trans 8e1;exact⟨x,dx,rfl,aA,fun dp da H' f1 f2 T K=>⟨rfl,q x dx dp da H' 7e1 hx 2e4 1e4 T⟩⟩
def SG{C:Cl}{pg:Addr}{Q:Addr->Hp->Prop}(ep:H1 pg=some 9e2)(hs:bX H1 us b)(q:∀(R:Rn) (sl:V) H',bE C H' R [] sl (fH b)->Kp [] H1 H'->(∀ a∈R.cells,H1 a=none)->Q R.x H') : ∀ x dx,H1 x=none->H1 dx=none->dx≠x->Cz C [.ref x,.ref pg] (Xt 0e3 x 2e2) 9e1 E:=fun x dx hx hdx ne=>by
 have K1:Kp [] H1 (Xt 0e3 x 2e2):=(Kp.new hdx).trans 8e1;refine⟨x,dx,pg,us,b,rfl,aA,K1.at ep,hs.kp 5e4,fun R sl H' e1 A K M=>⟨rfl,?_⟩⟩;subst e1;exact q R sl H' A 7e1 fun a ha=>by
  rcases M a ha with rfl|z
  ·exact hx
  ·exact dA (dA z)
inductive BB(C:Addr)(vs:List V)(H:Hp)(Q:VK)(E:XK):Prop
 | mk (tk tx dp da l:Addr) (made:Nat) (pend:List Int) (ans:List 0e0) (ws:List Wo) (_:vs=[.ref tk,.ref l]) (_:jH C H tk tx dp da made pend ans) (_:H l=some (.lst 3e1)) (_:ws.length<=4) (_:ans.length<=1000000) (_:∀ H',Kp [] H H'->Q (wv (bB ans ws)) H'):BB C vs H Q E
def LW(ans:List 0e0)(w:Wo):Bool:=ans.any fun p=>decide (w=some p.1)
def cB(ans:List 0e0):List Wo->List Int
 | []=>[]
 | none::r=>cB ans r
 | some i::r=>if LW ans 5e1=true then i::cB ans r else cB ans r
def NT(ans:List 0e0)(w:Wo):(bA (iM ans) (wk w)).isSome=LW ans w:=by
 induction ans with
 | nil=>simp[iM,Aj,LW]
 | cons p r ih =>
  have e:iM (p::r)=(Key.inl p.1,wv p.2)::iM r:=rfl;rw[e];by_cases h:w=some p.1
  ·subst h;rw[show wk (some p.1)=Key.inl p.1 from rfl,cO rfl];simp[LW]
  ·rw[cE (fun z=>h (by cases w with
    | none=>cases z
    | some j=>cases z;rfl)),ih]
   simp[LW,h]
def LX(ans:List 0e0):LW ans none=false:=by simp[LW]
theorem sQ(ans:List 0e0):∀(l r:List Wo),cB ans (l++r)=cB ans l++cB ans r
 | [],r=>rfl
 | none::l,r=>by simp only[Ψ,cB,sQ ans l r]
 | some i::l,r=>by
  simp only[Ψ,cB,sQ ans l r];split<;>simp
def Fh{i:Nat}{w:Wo}(e:ws[i]?=some w):(cB ans 6e3).map V.int=if LW ans w=true then (cB ans 2e1).map V.int++[wv w] else (cB ans 2e1).map V.int:=by
 rw[Β3,e];simp only[Α3,sQ,Α2];cases w with
 | none=>rw[LX];simp[cB]
 | some j =>
  simp only[cB];split<;>simp[wv]
theorem oO(ans:List 0e0):∀ ws:List Wo,(cB ans ws).length<=ws.length
 | []=>Ι _
 | none::r=>by have:=oO ans r;simp only[cB,Η];omega
 | some i::r=>by
  have:=oO ans r;simp only[cB,Η];split
  ·simp only[Η];omega
  ·omega
theorem k5{ans:List 0e0}{i:Int}:∀ {ws:List Wo},i∈cB ans ws↔LW ans 5e1=true/\some i∈ws
 | []=>by simp[cB]
 | none::r=>by simp[cB,k5 (ws:=r)]
 | some j::r=>by
  have ih:=k5 (ans:=ans) (i:=i) (ws:=r);simp only[cB];split
  ·next h =>
   simp only[Α,ih,Ρ];constructor
   ·rintro(rfl|⟨a,b⟩)
    ·exact⟨h,.inl rfl⟩
    ·exact⟨a,.inr b⟩
   ·rintro⟨a,b|b⟩
    ·exact .inl b
    ·exact .inr ⟨a,b⟩
  ·next h =>
   rw[ih];simp only[Α,Ρ];constructor
   ·rintro⟨a,b⟩;exact⟨a,.inr b⟩
   ·rintro⟨a,b|b⟩
    ·subst b;exact absurd a h
    ·exact⟨a,b⟩
theorem Dm(i:Int):∀ ns:List Int,pD (.int i) (ns.map V.int)=decide (i∈ns)
 | []=>by simp[pD]
 | n::r=>by
  have ih:=Dm i r;simp only[pD,ϔ,List.any_cons] at ih ⊢;rw[ih];by_cases h:n=i
  ·subst h;simp[nB]
  ·have:nB (V.int n) (V.int i)=false:=by simp[nB,h]
   rw[this];simp[Ne.symm h]
theorem xR{α:Type}{p q:α->Bool}:∀ {l:List α},(∀ x∈l,p x=q x)->l.find? p=l.find? q
 | [],_=>rfl
 | x::l,h=>by
  simp only[List.find?,h x 6e0,xR fun y hy=>h y (ϓ _ hy)]
theorem xS(ans:List 0e0)(ws:List Wo):bB ans ws=((ans.map (·.1)).filter fun i=>decide 1e1).head?:=by
 unfold bB;rw[List.head?_filter,List.find?_map]
 congr 1
 refine xR fun p hp=>?_;have:LW ans (some p.1)=true:=by simp only[LW,List.any_eq_true];exact⟨p,hp,by simp⟩
 simp only[Function.comp,k5,this,true_and]
theorem y8{val:Nat->Int}{j:Int}:∀ {n:Nat},j∈once val n↔∃ k,k < n/\val k=j
 | 0=>by simp[once]
 | n+1=>by
  have ih:=y8 (val:=val) (j:=j) (n:=n);have up:(∃ k,k < n+1/\val k=j)↔(∃ k,k < n/\val k=j)\/val n=j:=by
   constructor
   ·rintro⟨k,hk,e⟩;by_cases h:k=n
    ·subst h;exact .inr e
    ·exact .inl ⟨k,by omega,e⟩
   ·rintro(⟨k,hk,e⟩|e)
    ·exact⟨k,by omega,e⟩
    ·exact⟨n,by omega,e⟩
  rw[up,once];split
  ·next h =>
   rw[ih];constructor
   ·exact .inl
   ·rintro(z|z)
    ·exact z
    ·subst z;exact y8.mp h
  ·simp only[Κ,List.mem_singleton,ih];constructor
   ·rintro(z|z)
    ·exact .inl z
    ·exact .inr z.symm
   ·rintro(z|z)
    ·exact .inl z
    ·exact .inr z.symm
def oX:j∈mL ns↔j∈ns:=by
 unfold mL;rw[y8,List.mem_iff_getElem];constructor
 ·rintro⟨k,hk,e⟩;exact⟨k,hk,by rw[Ε4,ϑ hk] at e;exact e⟩
 ·rintro⟨k,hk,e⟩;exact⟨k,hk,by rw[Ε4,ϑ hk];exact e⟩
def Mu(h:(mL ns).length < 2)(hi:i∈ns)(hj:j∈ns):i=j:=by
 have a:=oX.mpr hi;have b:=oX.mpr hj
 match e:mL ns,h with
 | [],_=>rw[e] at a;cases a
 | [x],_ =>
  rw[e] at a b;rw[List.mem_singleton.mp a,List.mem_singleton.mp b]
theorem IZ(h:(mL 5e2).length < 2):bB ans ws=(cB ans ws).head?:=by
 rw[xS];cases e:cB ans ws with
 | nil=>simp
 | cons i r =>
  have hi:i∈cB ans ws:=by rw[e];simp
  have he:∀ j∈cB ans ws,j=i:=fun j hj=>Mu h hj hi;obtain⟨p,hp,ep⟩:=List.any_eq_true.mp (k5.mp hi).1;have ep:i=p.1:=by simpa using ep
  show _=some i;have hm:i∈((ans.map (·.1)).filter fun j=>decide 7e2):=Α5.mpr ⟨Α9.mpr ⟨p,hp,ep.symm⟩,by simp⟩;cases z:((ans.map (·.1)).filter fun j=>decide 7e2) with
  | nil=>rw[z] at hm;cases hm
  | cons x xs =>
   have hx:x∈((ans.map (·.1)).filter fun j=>decide 7e2):=by rw[z];simp
   have:=he x (by rw[e];simpa using(Α5.mp hx).2);rw[this];rfl
theorem Fk(h:¬ (mL 5e2).length < 2):∃ i r,((ans.map (·.1)).filter fun i=>decide 1e1)=i::r/\bB ans ws=some i:=by
 have hf:=xS ans ws;cases z:((ans.map (·.1)).filter fun i=>decide 1e1) with
 | cons i r=>rw[z] at hf;exact⟨i,r,rfl,hf⟩
 | nil =>
  exfalso;cases e:mL 5e2 with
  | nil=>rw[e] at h;exact h 6e0
  | cons i r =>
   have hi:i∈cB ans ws:=oX.mp (by rw[e];simp);obtain⟨p,hp,ep⟩:=List.any_eq_true.mp (k5.mp hi).1;have ep:i=p.1:=by simpa using ep
   have hm:i∈((ans.map (·.1)).filter fun i=>decide 1e1):=Α5.mpr ⟨Α9.mpr ⟨p,hp,ep.symm⟩,by simpa using hi⟩;rw[z] at hm;cases hm
def gO.atW(h:gO H vs ss):∀ {i:Nat} {x:V},vs[i]?=some x->∃ y,ss[i]?=some y/\dF H x y:=by
 induction h with
 | nil=>intro i x e;simp at e
 | cons h _ ih =>
  intro i x e;cases i with
  | zero=>simp only[Ξ,Ρ] at e;subst e;exact⟨_,rfl,h⟩
  | succ i=>exact ih 1e2
def gO.SD(h:gO H vs ss):vs.length=ss.length:=by
 induction h with
 | nil=>rfl
 | cons _ _ ih=>simp[ih]
def dO(pend:List Int):List Wo->List Int
 | []=>[]
 | none::r=>dO pend r
 | some i::r=>if i∈pend then i::dO pend r else dO pend r
theorem tU(pend:List Int):∀(l r:List Wo),dO pend (l++r)=dO pend l++dO pend r
 | [],r=>rfl
 | none::l,r=>by simp only[Ψ,dO,tU pend l r]
 | some i::l,r=>by
  simp only[Ψ,dO,tU pend l r];split<;>simp
theorem FR{i:Nat}{w:Wo}(e:ws[i]?=some w):(dO pend 6e3).map V.int=if decide (∃ j∈pend,w=some j)=true then (dO pend 2e1).map V.int++[wv w] else (dO pend 2e1).map V.int:=by
 rw[Β3,e];simp only[Α3,tU,Α2];cases w with
 | none=>simp[dO]
 | some j =>
  by_cases h:j∈pend
  ·simp[dO,h,wv]
  ·simp[dO,h]
theorem lB(pend:List Int):∀ ws:List Wo,(dO pend ws).length<=ws.length
 | []=>Ι _
 | none::r=>by have:=lB pend r;simp only[dO,Η];omega
 | some i::r=>by
  have:=lB pend r;simp only[dO,Η];split
  ·simp only[Η];omega
  ·omega
theorem yL{i j:Int}:∀ {l:List Int},j∈yA i l↔j=i\/j∈l
 | []=>by simp[yA]
 | k::r=>by
  have ih:=yL (i:=i) (j:=j) (l:=r);simp only[yA];split
  ·simp
  ·split
   ·next h =>
    subst h;simp only[Α];constructor
    ·exact .inr
    ·rintro(z|z)
     ·exact .inl z
     ·exact z
   ·simp only[Α,ih];constructor
    ·rintro(z|z|z)
     ·exact .inr (.inl z)
     ·exact .inl z
     ·exact .inr (.inr z)
    ·rintro(z|z|z)
     ·exact .inr (.inl z)
     ·exact .inl z
     ·exact .inr (.inr z)
theorem Dn{i:Int}:∀ {l:List Int},l.Pairwise (· < ·)->(yA i l).Pairwise (· < ·)
 | [],_=>by simp[yA]
 | k::r,h=>by
  obtain⟨h1,h2⟩:=Β9.mp h;simp only[yA];split
  ·next c=>exact Β9.mpr ⟨fun x hx=>by
    rcases Α.mp hx with rfl|hx
    ·exact c
    ·have:=h1 x hx;omega,h⟩
  ·split
   ·exact h
   ·exact Β9.mpr ⟨fun x hx=>by
     rcases yL.mp hx with rfl|hx
     ·omega
     ·exact h1 x hx,Dn h2⟩
theorem gR(pend:List Int):∀ ws:List Wo,(bM pend ws).Pairwise (· < ·)
 | []=>.nil
 | none::r=>gR pend r
 | some i::r=>by
  simp only[bM];split
  ·exact Dn (gR pend r)
  ·exact gR pend r
theorem l7{pend:List Int}{j:Int}:∀ {ws:List Wo},j∈bM pend ws↔j∈dO pend ws
 | []=>by simp[bM,dO]
 | none::r=>by simp only[bM,dO];exact l7
 | some i::r=>by
  have ih:=l7 (pend:=pend) (j:=j) (ws:=r);simp only[bM,dO];split
  ·rw[yL,ih,Α]
  ·exact ih
theorem zA(val:Nat->Int):∀ n,(once val n).Nodup
 | 0=>by simp[once]
 | n+1=>by
  have ih:=zA val n;rw[once];split
  ·exact ih
  ·next h=>exact ϛ.mpr ⟨ih,by simp,fun a ha b hb=>by
    rw[List.mem_singleton.mp hb];exact fun z=>h (z▸ha)⟩
theorem DR(hp:ns.Perm (mL (dO pend ws)))(hs:ns.Pairwise (·<=·)):ns=bM pend ws:=by
 refine oB (hp.trans ?_) hs (gR pend ws);refine(List.perm_ext_iff_of_nodup (zA _ _) ((gR pend ws).imp fun h=>by omega)).mpr fun j=>?_;show j∈mL _↔_;rw[oX,l7]
inductive fV(H:Hp):List V->List 2e0->Prop
 | nil:fV H [] []
 | cons {a:Addr} {x y:V} {us:List V} {ps:List 2e0}:H a=some 4e2->fV H us ps->fV H 4e4 ((x,y)::ps)
def fV.kt{ps:List 2e0}(h:fV H us ps)(k:aE H H'):fV H' us ps:=by
 induction h with
 | nil=>exact .nil
 | cons a _ ih=>exact .cons (k _ _ a) ih
def fV.snoc{ps:List 2e0}{x:V}(h:fV H us ps)(e:H a=some 4e2):fV H 7e3 (ps++[(x,y)]):=by
 induction h with
 | nil=>exact .cons e .nil
 | cons b _ ih=>exact .cons b ih
def fV.len{ps:List 2e0}(h:fV H us ps):us.length=ps.length:=by
 induction h with
 | nil=>rfl
 | cons _ _ ih=>simp[ih]
theorem fV.of{H:Hp}:∀ {as:List Addr} {ps:List 2e0},as.length=ps.length->(∀(j:Nat) (a:Addr) (x y:V),as[j]?=some a->ps[j]?=some (x,y)->H a=some 4e2)->fV H (as.map V.ref) ps
 | [],[],_,_=>.nil
 | [],_::_,h,_=>by simp at h
 | _::_,[],h,_=>by simp at h
 | a::as,(x,y)::ps,h,g=>.cons (g 0 a x y rfl rfl) (fV.of (by simpa using h) fun j b x y e1 e2=>g (j+1) b x y (by simpa using e1) (by simpa using e2))
inductive jB(H:Hp):List V->List 1e0->Prop
 | nil:jB H [] []
 | cons {a b:Addr} {k:Str} {ws:List Wo} {us:List V} {ps:List 1e0}:H a=some 2e3->H b=some (.tup 3e1)->jB H us ps->jB H 4e4 ((k,ws)::ps)
def jB.kt(h:jB H us ps)(k:aE H H'):jB H' us ps:=by
 induction h with
 | nil=>exact .nil
 | cons a b _ ih=>exact .cons (k _ _ a) (k _ _ b) ih
def jB.snoc{b:Addr}(h:jB H us ps)(e:H a=some 2e3)(f:H b=some (.tup 3e1)):jB H 7e3 (ps++[(k,ws)]):=by
 induction h with
 | nil=>exact .cons e f .nil
 | cons c d _ ih=>exact .cons c d ih
def jB.len(h:jB H us ps):us.length=ps.length:=by
 induction h with
 | nil=>rfl
 | cons _ _ _ ih=>simp[ih]
def gA(nm:List 8e0):List Str->List 2e0
 | []=>[]
 | n::r=>if kF nm n=none then gA nm r else (.str n,wv (kF nm n))::gA nm r
theorem Bg(nm:List 8e0):∀ l r:List Str,gA nm (l++r)=gA nm l++gA nm r
 | [],_=>rfl
 | n::l,r=>by
  simp only[Ψ,gA,Bg nm l r];split<;>rfl
def i5(lt:List 1e0):List Str->List 1e0
 | []=>[]
 | k::r=>if (aS lt k).getD []=[] then i5 lt r else (k,(aS lt k).getD [])::i5 lt r
theorem Bd(lt:List 1e0):∀ l r:List Str,i5 lt (l++r)=i5 lt l++i5 lt r
 | [],_=>rfl
 | n::l,r=>by
  simp only[Ψ,i5,Bd lt l r];split<;>rfl
theorem tM(nm:List 8e0):∀ l:List Str,(gA nm l).length<=l.length
 | []=>Ι _
 | n::l=>by
  have:=tM nm l;simp only[gA];split<;>simp only[Η]<;>omega
theorem tI(lt:List 1e0):∀ l:List Str,(i5 lt l).length<=l.length
 | []=>Ι _
 | n::l=>by
  have:=tI lt l;simp only[i5];split<;>simp only[Η]<;>omega
def Pu.nmS(S:Pu):List 2e0:=gA S.nm (srt (S.nm.map (·.1)))
def Pu.ltS(S:Pu):List 1e0:=i5 S.lt (srt (S.lt.map (·.1)))
def Pu.anS(S:Pu):List 2e0:=S.ans.map fun p=>(.int p.1,wv p.2)
def Slp.uE:Slp->Bool
 | .wait _=>true
 | .Xy _=>true
 | _=>false
def wC(H:Hp)(v:V)(S:Pu):Prop:=if S.sl.uE=true then ∃(p pl pn po pa pt:Addr) (sl:V) (un ua ut:List V),v=.ref p/\H p=some (.tup [sl,.ref pl,wv S.ar,.int S.nw,.ref pn,.int S.made,.ref po,.ref pa,.ref pt])/\j8 H sl S.sl /\
    H pl=some (.tup ((cK S.stk).map V.int))/\H pn=some (.tup un)/\fV H un S.nmS/\H po=some (.tup 4e3)/\H pa=some (.tup ua)/\fV H ua S.anS/\H pt=some (.tup ut)/\jB H ut S.ltS
  else j8 H v S.sl
theorem Ic:∀ nm:List 8e0,jO (fF nm)=some (nm.map (·.1))
 | []=>rfl
 | p::r=>by
  have ih:=Ic r;show(jO (fF r)).map (p.1::·)=_;rw[ih];rfl
def P9{as:List Addr}(h:fZ H kvs as lt):jO kvs=some (lt.map (·.1)):=by
 induction h with
 | nil=>rfl
 | @cons a k ws kvs as lt _ _ ih =>
  show(jO kvs).map (k::·)=_;rw[ih];rfl
theorem Mh:∀ {nm:List 8e0} {n:Str},n∈nm.map (·.1)->bA (fF nm) (.inr n)=some (wv (kF nm n))
 | [],n,h=>by simp at h
 | p::r,n,h=>by
  show bA ((Key.inr p.1,wv p.2)::fF r) (.inr n)=_;by_cases e:p.1=n
  ·rw[cO (by rw[e]),kF,if_pos e]
  ·rw[cE (fun z=>e 7e0),kF,if_neg e];refine Mh ?_;rcases Α.mp h with h|h
   ·exact absurd h.symm e
   ·exact h
def fZ.inS{as:List Addr}(h:fZ H kvs as lt)(hk:k∈lt.map (·.1)):∃ a ws,bA kvs 6e1=some (.ref a)/\aS lt k=some ws/\H a=some (.lst 3e1):=by
 rcases h.look k with⟨_,e⟩|⟨a,ws,x,y,_,u⟩
 ·exfalso;clear h
  induction lt with
  | nil=>simp at hk
  | cons p r ih =>
   simp only[aS] at e;split at e
   ·cases e
   ·next hp =>
    rcases Α.mp hk with z|z
    ·exact hp z.symm
    ·exact ih z e
 ·exact⟨a,ws,x,y,u⟩
def j8.word{s:Slp}(h:j8 H v s)(hn:s.isN=false):∃(p:Addr) (s0:Str) (r0:List V),v=.ref p/\H p=some (.tup (.str s0::r0))/\pD (.str s0) [.str "wait",.str "hear"]=s.uE:=by
 cases s with
 | Xu=>cases hn
 | new=>obtain⟨p,rfl,e⟩:=h;exact⟨p,_,_,rfl,e,by simp[pD,nB,cG,Slp.uE]⟩
 | wait ts=>obtain⟨p,p2,rfl,e,_⟩:=h;exact⟨p,_,_,rfl,e,by simp[pD,nB,cG,Slp.uE]⟩
 | Xy k=>obtain⟨p,rfl,e⟩:=h;exact⟨p,_,_,rfl,e,by simp[pD,nB,cG,Slp.uE]⟩
 | ended w=>obtain⟨p,rfl,e⟩:=h;exact⟨p,_,_,rfl,e,by simp[pD,nB,cG,Slp.uE]⟩
 | worn=>obtain⟨p,rfl,e⟩:=h;exact⟨p,_,_,rfl,e,by simp[pD,nB,cG,Slp.uE]⟩
def cP{c:TT}{t u:TS}{D:Ends}(h:∀ R:St->Hp->Prop,(∀ σ' H',t D σ' H'->R σ' H')->Eu c (fun _=>R) u D σ H):Eu c t u D σ H:=h (t D) fun _ _ z=>z
inductive HV(C:Addr)(vs:List V)(H:Hp)(Q:VK)(E:XK):Prop
 | mk (wk wx lb ln:Addr) (st:Stk) (_:vs=[.ref wk]) (_:j5 C H wk wx lb ln st) (_:∀ p,H p=none->Q (.ref p) (Xt H p (.tup ((cK st).map V.int)))):HV C vs H Q E
inductive HX(C:Cl)(vs:List V)(H:Hp)(Q:VK)(E:XK):Prop
 | mk (R:Rn) (as:List Addr) (sl:V) (S:Pu) (_:vs=[.ref R.x]) (_:bE C H R as sl S) (_:S.sl.isN=false) (_:S.pend.length<=1000000) (_:S.nm.length < 64) (_:S.lt.length < 64) (_:S.ans.length<=1000000) (_:(∀ k ws,aS S.lt k=some ws->ws.length<=1000000)) (_:∀(v:V) (H':Hp),wC H' v S->Kp [] H H'->Q v H'):HX C vs H Q E
def Stm.Dq:Stm->Bool
 | .set _ _ | .order _ _ _ | .XC _ _ | .child _ _ _ | .send _ _ _ | .drop _=>true
 | _=>false
theorem Qu{M:Int}(h:0 < M)(h':M<=2 ^ 62)(j:Int):CMul (i % M) j:=by
 have:=Int.emod_nonneg i (show M≠0 by omega);have:=Int.emod_lt_of_pos i h;exact .inl ⟨by omega,by omega⟩
def ix32:Az 3 2=some 2:=rfl
structure bO(H:Hp)(r:Addr)(n:Nat):Prop where
 ex:∃ c m s:Int,H r=some (.lst [.int c,.int m,.int s])/\0<=s/\s<=n
def bO.kp{r:Addr}{n:Nat}(R:bO H r n)(h:Kp [] H H'):bO H' r n:=by
 obtain⟨c,m,s,e,x⟩:=R;exact⟨c,m,s,h _ _ e 6e0,x⟩
def bO.new{r p:Addr}{n:Nat}(R:bO H r n)(h:H p=none):bO 8e2 r n:=R.kp (Kp.new h)
def bO.none{r p:Addr}{n:Nat}(R:bO H r n)(h:H p=Option.none):p≠r:=by
 obtain⟨c,m,s,e,_⟩:=R;exact(aF e h).symm
def made1{r p:Addr}{n:Nat}(x:Kp [r] 8e2 H')(R:bO H r n)(h:H p=none):H' p=some o:=x.at1 aA (R.none h)
def HN:Sp:=fun vs H Q _=>∃(r:Addr) (m:Int) (n:Nat),vs=[.ref r,.int m]/\0 < m/\m<=10 ^ 45/\bO H r n/\n<=100000/\∀(g:Int) (H':Hp),0<=g->g < m->bO H' r (n+1)->Kp [r] H H'->Q (.int g) H'
def PK{r:Addr}{m:Int}:HN [.ref r,.int m] H Q E=(0 < m/\m<=10 ^ 45/\∃ n,bO H r n/\n<=100000/\∀(g:Int) (H':Hp),0<=g->g < m->bO H' r (n+1)->Kp [r] H H'->Q (.int g) H') :=
 propext ⟨fun⟨_,_,n,e,a,b,c⟩=>by cases e;exact⟨a,b,n,c⟩,fun⟨a,b,n,c⟩=>⟨_,_,n,rfl,a,b,c⟩⟩
inductive MZ(vs:List V)(H:Hp)(Q:VK)(E:XK):Prop
 | mk (z:Int) (k:Nat) (_:vs=[.int z,.int k]) (_:∀ r H',H r=none->Kp [] H H'->bO H' r k->Q (.ref r) H'):MZ vs H Q E
theorem bO.up{H:Hp}{r:Addr}{n m:Nat}(R:bO H r n)(h:n<=m):bO H r m:=by
 obtain⟨c,f,s,e,x,y⟩:=R;exact⟨c,f,s,e,x,by omega⟩
def bO.tk{r:Addr}{n:Nat}(R:bO H r n)(k:Kp [r] H H'):aE H H':=.of k fun a ha=>by
 obtain⟨c,f,s,e,_⟩:=R;have:a=r:=by simpa using ha
 exact⟨_,this▸e,fun _ h=>by cases h⟩
def bd:Nat->Nat
 | 0=>3
 | d+1=>2 * bd d+3
theorem QX(d:Nat):3<=bd d:=by
 cases d with
 | zero=>exact Ι _
 | succ d=>rw[bd];omega
inductive Eh(vs:List V)(H:Hp)(Q:VK)(E:XK):Prop
 | mk (r:Addr) (n:Nat) (_:vs=[.ref r]) (_:bO H r n) (_:n<=900) (_:∀(w:Wo) (H':Hp),eC w->bO H' r (n+2)->Kp [r] H H'->Q (wv w) H'):Eh vs H Q E
def HM:Sp:=fun vs H Q _=>∃(r:Addr) (n:Nat),vs=[.ref r]/\bO H r n/\n<=900/\∀(x:Str) (H':Hp),bO H' r (n+1)->Kp [r] H H'->Q (.str x) H'
def PJ{r:Addr}:HM [.ref r] H Q E = ∃ n,bO H r n/\n<=900/\∀(x:Str) (H':Hp),bO H' r (n+1)->Kp [r] H H'->Q (.str x) H' :=
 propext ⟨fun⟨_,n,e,c⟩=>by cases e;exact⟨n,c⟩,fun⟨n,c⟩=>⟨_,n,rfl,c⟩⟩
inductive Cw(d:Nat)(vs:List V)(H:Hp)(Q:VK)(E:XK):Prop
 | mk (r:Addr) (dp:Int) (n:Nat) (_:vs=[.ref r,.int dp]) (_:1<=dp) (_:dp<=d) (_:bO H r n) (_:n+bd d<=900) (_:∀(v:V) (s:Say) (H':Hp),dF H' v s->s.ok->(s.depth:Int)<=dp->bO H' r (n+bd d)->Kp [r] H H'->Q v H'):Cw d vs H Q E
inductive Eg(vs:List V)(H:Hp)(Q:VK)(E:XK):Prop
 | mk (r:Addr) (n:Nat) (_:vs=[.ref r]) (_:bO H r n) (_:n<=100) (_:∀(v:V) (m:Stm) (H':Hp),cJ H' v m->m.gd false/\m.Dq=true->Kp [r] H H'->Q v H'):Eg vs H Q E
def sst{a b:String}(h:a≠b):¬ ((Str.ofString a:Str)=Str.ofString b):=fun z=>h (by rwa [cG] at z)
def O9{S:List Addr}{p:Addr}{u:HO}(h:H p=none):Kp S H (Xt 8e2 p u):=fun b x e _=>by rw[aC (aF e h),aC (aF e h)];exact e
def OK6:List Str:=["code","at","mode","letters","awaited","outcome"]
inductive iY(H:Hp):List V->List 0e0->Prop
 | nil:iY H [] []
 | cons {a:Addr} {i:Int} {w:Wo} {ds:List V} {r:List 0e0}:H a=some 0e2->iY H ds r->iY H (.ref a::ds) ((i,w)::r)
def iY.kt(h:iY H ds r)(k:aE H H'):iY H' ds r:=by
 induction h with
 | nil=>exact .nil
 | cons e _ ih=>exact .cons (k _ _ e) ih
def iY.len(h:iY H ds r):ds.length=r.length:=by
 induction h with
 | nil=>rfl
 | cons _ _ ih=>simp[ih]
def iY.snoc{w:Wo}(h:iY H ds r)(e:H a=some 0e2):iY H (ds++[.ref a]) (r++[(i,w)]):=by
 induction h with
 | nil=>exact .cons e .nil
 | cons f _ ih=>exact .cons f ih
def iY.at(h:iY H ds r):∀ {j:Nat} {v:V},ds[j]?=some v->∃ a i w,v=.ref a/\r[j]?=some (i,w)/\H a=some 0e2:=by
 induction h with
 | nil=>intro j v e;simp at e
 | cons f _ ih =>
  intro j v e;cases j with
  | zero=>simp only[Ξ,Ρ] at e;subst e;exact⟨_,_,_,rfl,rfl,f⟩
  | succ j=>simpa using ih 1e2
def iY.pairs(h:iY H ds r):vC H ds (iM r):=by
 refine⟨by rw[h.len];simp[iM],fun j v e1=>?_⟩;obtain⟨a,i,w,rfl,e2,e3⟩:=h.at e1;exact⟨a,.inl i,wv w,rfl,e3,by rw[iM,ϕ,e2];rfl⟩
structure cU(H:Hp)(md nd od dd:Addr)(ot:Str->Option V)(S:Pu):Prop where
 hm:∃ kvs,H md=some (.dK kvs)/\A7 ((kvs.length<=50/\∀ k∈OK6,bA kvs 6e1=ot k)) (bA kvs (.inr "names")=some (.ref nd)) (bA kvs (.inr "arg")=some (wv S.ar)) (bA kvs (.inr "now")=some (.int S.nw)) (bA kvs 9e3=some 8e3) (bA kvs (.inr "open")=some (.ref od)) (bA kvs (.inr "done")=some (.ref dd))
 hn:H nd=some (.dK (fF S.nm))
 ho:H od=some (.lst 4e3)
 hd:∃ ds,H dd=some (.lst ds)/\iY H ds S.ans
 n1:md≠nd
 n2:od≠dd
 asc:S.pend.Pairwise (· < ·)
 lt:∀ i∈S.pend,0<=i/\i < S.made
 uq:(S.ans.map (·.1)).Nodup
 dis:∀ p∈S.ans,p.1∉S.pend/\p.1 < S.made
def cU.kp{md nd od:Addr}(M:cU H md nd od dd ot S)(k:Kp [] H H'):cU H' md nd od dd ot S:=by
 obtain⟨kvs,e,r⟩:=M.hm;obtain⟨ds,e2,r2⟩:=M.hd;exact {M with hm:=⟨kvs,k.at e,r⟩,hn:=k.at M.hn,ho:=k.at M.ho,hd:=⟨ds,k.at e2,r2.kt (aE.nil k)⟩}
theorem Be:∀(more acc:List (Key×V)),(∀ kv∈more,bA acc kv.1=none)->(more.map (·.1)).Nodup->eW acc more=acc++more
 | [],acc,_,_=>by simp[eW]
 | kv::r,acc,h,nd=>by
  have e:aR acc kv.1 kv.2=acc++[kv]:=by
   have:=h kv 6e0;unfold aR;rw[iJ,this];simp
  have:=Be r (acc++[kv]) (fun x hx=>by
   rw[ϔ,Ϙ] at nd;rw[<- e,gD,if_neg (fun z=>nd.1 (by rw[<- z];exact List.mem_map_of_mem hx))];exact h x (by simp[hx])) (by rw[ϔ,Ϙ] at nd;exact nd.2)
  show eW (aR acc kv.1 kv.2) r=_;rw[e,this];simp
def Jp{l:List 0e0}(h:(l.map (·.1)).Nodup):eW [] (iM l)=iM l:=by
 rw[Be _ _ (fun _ _=>Aj)]
 ·rfl
 ·rw[iM,List.map_map];have:(l.map (·.1)).Nodup:=h
  induction l with
  | nil=>simp
  | cons x r ih =>
   rw[ϔ,Ϙ] at h ⊢;refine⟨fun z=>h.1 ?_,ih h.2 h.2⟩;obtain⟨y,hy,e⟩:=Α9.mp z;simp only[Function.comp_apply,Key.inl.injEq] at e;exact Α9.mpr ⟨y,hy,by simpa using e⟩
inductive wA(d:Nat)(vs:List V)(H:Hp)(Q:VK)(E:XK):Prop
 | mk (v:V) (md nd od dd:Addr) (ot:Str->Option V) (S:Pu) (s:Say) (_:vs=[v,.ref md]) (_:dF H v s) (_:s.depth<=d) (_:s.ok) (_:cU H md nd od dd ot S) (_:S.pl.Ok) (_:∀ H',Kp [] H H'->Q (wv 6e2) H'):wA d vs H Q E
def w_arg:S.worth .arg=S.ar:=rfl
def VP:S.worth (.ans s)=fW S.ans 6e2:=rfl
def VU:S.worth (.neg s)=some (if num 6e2=0 then 1 else 0):=rfl
def VX{g:Sg}{a b:Say}:S.worth (.two g a b)=some (g.of (S.worth a) (S.worth b)):=rfl
def WS{w:Wo}{k:Int->Prop}{u:Tg k}:Mr (wv w) k u=k (num w):=by cases w<;>rfl
theorem UU{a b:Wo}(q:Q (.bl (decide (a=b))) H):NG (wv a) (wv b) H Q:=by
 cases a<;>cases b<;>(refine⟨rfl,?_⟩;simpa[wv] using q)
def Jm(w:Wo):fW [] w=none:=by cases w<;>rfl
theorem Jq{a b c:V}:eW [] [((.inr 4e0:Key),a),(.inr 3e0,b),(.inr 5e0,c)]=[(.inr 4e0,a),(.inr 3e0,b),(.inr 5e0,c)]:=by
 have n1:=sst (show "+"≠"-" by decide);have n2:=sst (show "+"≠"*" by decide);have n3:=sst (show "-"≠"*" by decide);simp[eW,aR,n1,n2,n3]
def VL{a b c:V}:bA [((.inr 4e0:Key),a),(.inr 3e0,b),(.inr 5e0,c)] (.inr 4e0)=some a:=cO rfl
theorem VO{a b c:V}:bA [((.inr 4e0:Key),a),(.inr 3e0,b),(.inr 5e0,c)] (.inr 3e0)=some b:=by
 rw[cE (fun z=>sst (show "+"≠"-" by decide) 7e0),cO rfl]
theorem VN{a b c:V}:bA [((.inr 4e0:Key),a),(.inr 3e0,b),(.inr 5e0,c)] (.inr 5e0)=some c:=by
 rw[cE (fun z=>sst (show "+"≠"*" by decide) 7e0),cE (fun z=>sst (show "-"≠"*" by decide) 7e0),cO rfl]
theorem g8{a b:String}{x:V}{o:Option V}(e:bA kvs 0e1=o)(h:a≠b:=by decide):bA (aR kvs (.inr (Str.ofString b)) x) 0e1=o:=by
 rw[gD,if_neg (fun z=>sst h 7e0)];exact e
def CG{a:String}{x:V}:bA (aR kvs 0e1 x) 0e1=some x:=by rw[gD,if_pos rfl]
def nX{k:Key}{x:V}(h:bA kvs k=some y):(aR kvs k x).length=kvs.length:=by
 unfold aR;rw[iJ,h];simp
def ok6{b:Str}{x:V}(hk:k∈OK6)(h:b∉OK6):bA (aR kvs (.inr b) x) 6e1=bA kvs 6e1:=by
 rw[gD,if_neg (fun z=>h (by cases z;exact hk))]
def made6:(Str.ofString "made")∉OK6:=by simp[OK6,cG]
theorem cU.made{md nd od:Addr}(M:cU H md nd od dd ot S)(e:H md=some (.dK kvs)):cU (Xt H md (.dK (aR kvs 9e3 (.int ((S.made:Int)+1))))) md nd od dd ot {S with made:=S.made+1}:=by
 obtain⟨kv,e',l,v1,v2,v3,v4,v5,v6⟩:=M.hm;obtain⟨ds,e2,r2⟩:=M.hd;rw[e] at e';cases e';exact {M with
  hm:=⟨_,aA,⟨by rw[nX v4];exact l.1,fun k hk=>by rw[ok6 hk made6];exact l.2 k hk⟩,g8 v1,g8 v2,g8 v3,CG,g8 v5,g8 v6⟩
  hn:=by rw[aC M.n1.symm];exact M.hn
  ho:=cY e M.ho
  hd:=⟨ds,cY e e2,r2.kt (aE.cS e)⟩
  lt:=fun i hi=>(by have:=M.lt i hi;exact⟨this.1,by show i < ((S.made+1:Nat):Int);omega⟩)
  dis:=fun p hp=>(by have:=M.dis p hp;exact⟨this.1,by show p.1 < ((S.made+1:Nat):Int);omega⟩)}
def cU.open{md nd od:Addr}(M:cU H md nd od dd ot S)(a:pd.Pairwise (· < ·))(b:∀ i∈pd,0<=i/\i < S.made)(c:∀ p∈S.ans,p.1∉pd):cU (Xt H od (.lst (pd.map V.int))) md nd od dd ot {S with pend:=pd}:=by
 obtain⟨kv,e',r⟩:=M.hm;obtain⟨ds,e2,r2⟩:=M.hd;exact {M with
  hm:=⟨kv,cY M.ho e',r⟩
  hn:=cY M.ho M.hn
  ho:=aA
  hd:=⟨ds,by rw[aC M.n2.symm];exact e2,r2.kt (aE.cS M.ho)⟩
  asc:=a
  lt:=b
  dis:=fun p hp=>⟨c p hp,(M.dis p hp).2⟩}
def cU.name{H:Hp}{md nd od dd:Addr}{ot:Str->Option V}{S:Pu}(M:cU H md nd od dd ot S)(x:Str)(w:Wo):cU (Xt H nd (.dK (fF (cD S.nm x w)))) md nd od dd ot {S with nm:=cD S.nm x w}:=by
 obtain⟨kv,e',r⟩:=M.hm;obtain⟨ds,e2,r2⟩:=M.hd;exact {M with
  hm:=⟨kv,by rw[aC M.n1];exact e',r⟩
  hn:=aA
  ho:=cY M.hn M.ho
  hd:=⟨ds,cY M.hn e2,r2.kt (aE.cS M.hn)⟩}
def cU.tk{md nd od:Addr}(M:cU H md nd od dd ot S)(k:Kp D H H')(h:∀ a∈D,a=md\/a=nd\/a=od\/∃ xs,H a=some (.lst xs)):aE H H':=.of k fun a ha=>by
 obtain⟨kv,e',r⟩:=M.hm;rcases h a ha with rfl|rfl|rfl|⟨xs,e⟩
 ·exact⟨_,e',fun _ z=>by cases z⟩
 ·exact⟨_,M.hn,fun _ z=>by cases z⟩
 ·exact⟨_,M.ho,fun _ z=>by cases z⟩
 ·exact⟨_,e,fun _ z=>by cases z⟩
def cU.other{md nd od:Addr}(M:cU H md nd od dd ot S)(e:H op=some 4e1)(n1:op≠od)(n2:op≠dd):cU (Xt H op (.lst vs)) md nd od dd ot S:=by
 obtain⟨kv,e',r⟩:=M.hm;obtain⟨ds,e2,r2⟩:=M.hd;exact {M with
  hm:=⟨kv,cY e e',r⟩
  hn:=cY e M.hn
  ho:=by rw[aC n1.symm];exact M.ho
  hd:=⟨ds,by rw[aC n2.symm];exact e2,r2.kt (aE.cS e)⟩}
def Rh(nw:Int)(w:Wo):(if nw+1e3 < 1000000000000 then nw+1e3 else 1000000000000)=xJ nw w:=by
 cases w with
 | none=>simp[num,xJ]
 | some z=>rfl
def cU.nop{md nd od:Addr}(M:cU H md nd od dd ot S)(e:H op=some 4e1)(n1:op≠od):op∉[md,nd,od]:=by
 obtain⟨kv,e',r⟩:=M.hm;simp only[Α,Δ,Υ,not_or];exact⟨c0 e e' 3e3,c0 e M.hn 3e3,n1⟩
inductive HP(vs:List V)(H:Hp)(Q:VK)(E:XK):Prop
 | mk (md nd od dd:Addr) (ot:Str->Option V) (S:Pu) (x:Str) (_:vs=[.ref md,.str x]) (_:cU H md nd od dd ot S) (_:S.made<=100000) (_:S.pend.length<=100000) (_:S.nm.length<=100000) (_:∀ H',cU H' md nd od dd ot (S.tL x)->Kp [md,nd,od] H H'->Q 8e3 H'):HP vs H Q E
inductive QE(vs:List V)(H:Hp)(Q:VK)(E:XK):Prop
 | mk (md nd od dd op:Addr) (ot:Str->Option V) (v:V) (S:Pu) (m:Stm) (us:List V) (cs:Cmds) (_:vs=[.ref md,v,.ref op]) (_:cU H md nd od dd ot S) (_:cJ H v m) (_:m.Dq=true) (_:m.gd false) (_:S.pl.Ok) (_:S.made<=100000) (_:S.pend.length<=100000) (_:S.nm.length<=100000) (_:H op=some 4e1) (_:iL H us cs) (_:us.length<=100000) (_:op≠od) (_:op≠dd) (_:∀(H':Hp) (us':List V),cU H' md nd od dd ot (bV S m).1->H' op=some (.lst us')->iL H' us' (cs++(bV S m).2)->Kp [md,nd,od,op] H H'->Q .Xu H'):QE vs H Q E
theorem lM:∀ {l:List Int} {i:Int} {k:Nat},l.Pairwise (· < ·)->DU i l=some k->l.eraseIdx k=l.filter fun j=>decide (j≠i)
 | [],i,k,_,h=>by simp[DU] at h
 | a::l,i,k,p,h=>by
  rw[Β9] at p;unfold DU at h;rw[List.findIdx?_cons] at h;by_cases e:a=i
  ·subst e;simp only[decide_true,Γ1,Ρ] at h;subst h;rw[List.eraseIdx_cons_zero,List.filter_cons_of_neg 6e0];exact(List.filter_eq_self.mpr fun j hj=>by have:=p.1 j hj;simp;omega).symm
  ·simp only[e,decide_false,ϙ,Β4,Ϝ] at h;obtain⟨k',e',rfl⟩:=h;rw[List.eraseIdx_cons_succ,List.filter_cons_of_pos 1e2,lM p.2 e']
def HE{l:List Int}(h:i∈l):∃ k,DU i l=some k:=by
 cases e:DU i l with
 | some k=>exact⟨k,rfl⟩
 | none =>
  unfold DU at e;rw[List.findIdx?_eq_none_iff] at e;exact absurd (e i h) 6e0
theorem U5(w:Wo)(p:List Int):pD (wv w) (p.map V.int)=decide (∃ i,i∈p/\w=some i):=by
 cases w with
 | none=>simp[pD,wv,nB]
 | some i=>rw[show wv 5e1=.int i from rfl,rG];simp
def Pu.w(S:Pu)(st:Stk)(x:Slp):Pu:={S with stk:=st,sl:=x}
end
variable{w:Wo}
mutual
example:=[(by cases e)]
def GU(h:m.Dq=true):(bV S m).1.sl=S.sl/\(bV S m).1.lt=S.lt/\(bV S m).1.ar=S.ar/\(bV S m).1.nw=S.nw:=by
 cases m with
 | drop s =>
  simp only[bV];split
  ·split
   ·exact⟨rfl,rfl,rfl,rfl⟩
   ·exact⟨rfl,rfl,rfl,rfl⟩
  ·exact⟨rfl,rfl,rfl,rfl⟩
 | wait _ _=>cases h
 | Xy _ _=>cases h
 | fin _=>cases h
 | XM _ _=>cases h
 | iff _ _ _=>cases h
 | _=>exact⟨rfl,rfl,rfl,rfl⟩
theorem Hd(g:CJ wt b)(d:qB b<=20):XE wt (fH b) 0 :=
 {nm:=Ι _,md:=Ι _,pd:=Ι _,an:=Ι _,lt:=Ι _,lw:=fun k ws h=>(by cases h)
  pl:=⟨fun _=>kZ,kZ,fun w=>(by show eC (fW [] w);rw[Jm];exact kZ)⟩
  nw:=⟨Int.le_refl _,by show(0:Int)<=1000000000000;decide⟩
  sk:=⟨⟨Α4 _,by simp⟩,fun x hx=>(by rw[show x=(0,b,0) by simpa[fH] using hx];exact g),⟨by simpa using d,trivial⟩⟩
  sl:=⟨fun k e=>0e0,fun k e=>0e0⟩}
def sP{c:TT}{t u:TS}{D:Ends}(h:∀ R:St->Hp->Prop,(∀ σ' H',u D σ' H'->R σ' H')->Eu c t (fun _=>R) D σ H):Eu c t u D σ H:=h (u D) fun _ _ z=>z
def KW{c:TT}{tb:TS}{D:Ends}(h:∀ b:TS,(∀ D σ H,tb D σ H->b D σ H)->Gn c b D σ H):Gn c tb D σ H:=h tb fun _ _ _ z=>z
structure CE where
 m:Option Stm
 pt:List Int
 wh:Option Nat
end
variable{c:List CE}
mutual
noncomputable def Stm.sz:Stm->Nat
 | .XM _ b=>cH b+2
 | .iff _ b o=>cH b+cH o+2
 | _=>1
noncomputable def cH:List Stm->Nat
 | []=>0
 | m::r=>m.sz+cH r
end
mutual
noncomputable def BZ(pt:List Int)(p:Nat):Stm->List CE
 | .XM s b=>⟨some (.XM s b),pt,some (p+cH b+2)⟩::(AX (pt++[0]) 0 (p+1) b++[⟨none,pt,some p⟩])
 | .iff s b o=>⟨some (.iff s b o),pt,some (p+cH b+2)⟩::(AX (pt++[0]) 0 (p+1) b++(⟨none,pt,some (p+cH b+cH o+2)⟩::AX (pt++[1]) 0 (p+cH b+2) o))
 | m=>[⟨some m,pt,none⟩]
noncomputable def AX(pt:List Int)(k p:Nat):List Stm->List CE
 | []=>[]
 | m::r=>BZ (pt++[(k:Int)]) p m++AX pt (k+1) (p+m.sz) r
end
def UW(h:m.isB=false):BZ pt p m=[⟨some m,pt,none⟩]:=by
 cases m<;>first|(simp only[BZ];done)|cases h
def Nq(h:m.isB=false):m.sz=1:=by
 cases m<;>first|(simp only[Stm.sz];done)|cases h
mutual
theorem He(pt:List Int)(p:Nat):∀ m:Stm,(BZ pt p m).length=m.sz
 | .XM s b=>by simp only[BZ,Stm.sz,Η,Μ,ϖ,gH]
 | .iff s b o=>by simp only[BZ,Stm.sz,Η,Μ,gH];omega
 | .set _ _ | .order _ _ _ | .XC _ _ | .child _ _ _ | .send _ _ _ | .drop _ | .wait _ _ | .Xy _ _ | .fin _=>by simp[BZ,Stm.sz]
theorem gH(pt:List Int)(k p:Nat):∀ b:List Stm,(AX pt k p b).length=cH b
 | []=>by simp[AX,cH]
 | m::r=>by simp only[AX,cH,Μ,He,gH]
end
mutual
example:=[((k2,b2,n2)::r),((0,b,n)::(k2,b2,n2)::r),pt++[(n2:Int)]++[0],b2.take n2,B+cH 3e0+1,(by simpa using h),p+cH (b.take n),.iff s b o]
theorem gC:∀ {b:List Stm} {n:Nat} {m:Stm},b[n]?=some m->cH (b.take (n+1))=cH (b.take n)+m.sz
 | [],n,m,h=>by simp at h
 | x::b,0,m,h=>by
  simp only[Ξ,Ρ] at h;subst h;simp[cH]
 | x::b,n+1,m,h=>by
  have:=gC (b:=b) (n:=n) (m:=m) 5e0;simp only[Ζ1,cH] at this ⊢;omega
def Am(c:List CE)(p:Nat)(xs:List CE):Prop:=∀ i x,xs[i]?=some x->c[p+i]?=some x
def Am.left{xs ys:List CE}(h:Am c p (xs++ys)):Am c p xs:=fun i x e=>h i x (by
 rw[Ε9 (Ν.mp e).1];exact e)
theorem Am.right{xs ys:List CE}(h:Am c p (xs++ys)):Am c (p+xs.length) ys:=fun i x e=>by
 rw[Nat.add_assoc];exact h (xs.length+i) x (by rw[List.getElem?_append_right (by omega)];simpa using e)
def Am.head{x:CE}{xs:List CE}(h:Am c p (x::xs)):c[p]?=some x:=h 0 x rfl
def Am.tail{x:CE}{xs:List CE}(h:Am c p (x::xs)):Am c (p+1) xs:=fun i y e=>by
 rw[Nat.add_assoc,Nat.add_comm 1 i];exact h (i+1) y (by simpa using e)
theorem Am.at{c:List CE}{pt:List Int}:∀ {b:List Stm} {k p n:Nat} {m:Stm},Am c p (AX pt k p b)->b[n]?=some m->Am c 6e0 (BZ (pt++[((k+n:Nat):Int)]) 6e0 m)
 | [],_,_,_,_,_,h=>by simp at h
 | x::b,k,p,0,m,hi,h=>by
  simp only[Ξ,Ρ] at h;subst h;simp only[AX] at hi;simpa[cH] using hi.left
 | x::b,k,p,n+1,m,hi,h=>by
  simp only[AX] at hi;have r:=hi.right;rw[He] at r;have:=Am.at (n:=n) (m:=m) r 5e0;rw[Ζ1,cH,<- Nat.add_assoc]
  rwa [show k+1+n=k+(n+1) by omega] at this
inductive Bs(P:List Stm):Stk->Nat->List Int->Prop
 | bot {n:Nat}:Bs P [(0,P,n)] 0 []
 | XM {n k2 n2 B:Nat} {s:Say} {b b2:List Stm} {r:Stk} {pt:List Int}:Bs P 0e0 B pt->b2[n2]?=some (.XM s b)->Bs P 1e0 4e0 2e0
 | if0 {n k2 n2 B:Nat} {s:Say} {b o b2:List Stm} {r:Stk} {pt:List Int}:Bs P 0e0 B pt->b2[n2]?=some 7e0->Bs P 1e0 4e0 2e0
 | if1 {n k2 n2 B:Nat} {s:Say} {b o b2:List Stm} {r:Stk} {pt:List Int}:Bs P 0e0 B pt->b2[n2]?=some 7e0->Bs P ((1,o,n)::(k2,b2,n2)::r) (B+cH 3e0+cH b+2) (pt++[(n2:Int)]++[1])
def jR(P:List Stm):List CE:=AX [] 0 0 P
theorem Bs.inC{B:Nat}(h:Bs P st B pt):∃ k b n r,st=(k,b,n)::r/\Am (jR P) B (AX pt 0 B b):=by
 induction h with
 | bot=>exact⟨_,_,_,_,rfl,fun i x e=>by rw[Γ4];exact e⟩
 | XM hb e ih =>
  obtain⟨_,_,_,_,z,ih⟩:=ih;cases z;have:=Am.at ih e;simp only[BZ,Γ4] at this;exact⟨_,_,_,_,rfl,this.tail.left⟩
 | if0 hb e ih =>
  obtain⟨_,_,_,_,z,ih⟩:=ih;cases z;have:=Am.at ih e;simp only[BZ,Γ4] at this;exact⟨_,_,_,_,rfl,this.tail.left⟩
 | if1 hb e ih =>
  obtain⟨_,_,_,_,z,ih⟩:=ih;cases z;have:=Am.at ih e;simp only[BZ,Γ4] at this;have:=this.tail.right.tail;rw[gH] at this;refine⟨_,_,_,_,rfl,?_⟩
  rwa [show ∀ x y:Nat,x+1+y+1=x+y+2 by omega] at this
def Bs.n{k n:Nat}{r:Stk}{B:Nat}(h:Bs P ((k,b,n)::r) B pt)(n':Nat):Bs P ((k,b,n')::r) B pt:=by
 cases h with
 | bot=>exact .bot
 | XM hb e=>exact .XM hb e
 | if0 hb e=>exact .if0 hb e
 | if1 hb e=>exact .if1 hb e
end
variable{n:Nat}
mutual
example:=[b.take n,.inr a,bN st,.iff s b o,p+cH b+2,.lst xs,((k2,b2,n2+1)::r),((0,b,0)::st)]
def Ps(P:List Stm)(st:Stk)(p:Nat):Prop:=∃ B pt k b n r,st=(k,b,n)::r/\Bs P st B pt/\p=B+cH 0e0/\n<=b.length
def NC(p:Nat):Stm->Option Nat
 | .XM _ b=>some 4e0
 | .iff _ b _=>some 4e0
 | _=>none
def LH(pt:List Int)(p:Nat)(m:Stm):∃ r,BZ pt p m=⟨some m,pt,NC p m⟩::r:=by
 cases m<;>exact⟨_,by simp only[BZ,NC];rfl⟩
def Ps.ent(h:Ps P st p)(e:bL st=some m):∃ pt,(jR P)[p]?=some ⟨some m,pt,NC p m⟩:=by
 obtain⟨B,pt,k,b,n,r,rfl,hB,rfl,hn⟩:=h;obtain⟨_,_,_,_,z,i⟩:=hB.inC;cases z;have:=Am.at i (show b[n]?=some m from e);obtain⟨q,hq⟩:=LH (pt++[((0+n:Nat):Int)]) (B+cH 0e0) m;rw[hq] at this;exact⟨_,this.head⟩
theorem Ps.pass(h:Ps P st p)(e:bL st=some m):Ps P (fP st) (p+m.sz):=by
 obtain⟨B,pt,k,b,n,r,rfl,hB,rfl,hn⟩:=h;have e':b[n]?=some m:=e;exact⟨B,pt,k,b,n+1,r,rfl,hB.n _,by rw[gC e'];omega,(Ν.mp e').1⟩
theorem Ps.XM{P:List Stm}{st:Stk}{p:Nat}{s:Say}{b:List Stm}(h:Ps P st p)(e:bL st=some (.XM s b)):Ps P 7e0 (p+1):=by
 obtain⟨B,pt,k,b',n,r,rfl,hB,rfl,hn⟩:=h;exact⟨_,_,_,_,_,_,rfl,.XM hB e,by simp[cH],by omega⟩
theorem Ps.if0{P:List Stm}{st:Stk}{p:Nat}{s:Say}{b o:List Stm}(h:Ps P st p)(e:bL st=some 3e0):Ps P 7e0 (p+1):=by
 obtain⟨B,pt,k,b',n,r,rfl,hB,rfl,hn⟩:=h;exact⟨_,_,_,_,_,_,rfl,.if0 hB e,by simp[cH],by omega⟩
theorem Ps.if1{P:List Stm}{st:Stk}{p:Nat}{s:Say}{b o:List Stm}(h:Ps P st p)(e:bL st=some 3e0):Ps P ((1,o,0)::st) 4e0:=by
 obtain⟨B,pt,k,b',n,r,rfl,hB,rfl,hn⟩:=h;exact⟨_,_,_,_,_,_,rfl,.if1 hB e,by simp[cH],by omega⟩
def wW{k:Nat}:bN [(k,b,n)]=[(k,b,n)]:=by simp[bN]
def KQ{k:Nat}{x:Nat×List Stm×Nat}{r:Stk}(h:n≠b.length):bN ((k,b,n)::x::r)=(k,b,n)::x::r:=by
 obtain⟨a,c,d⟩:=x;rw[bN,if_neg h]
def wX{k k2 n2:Nat}{b2:List Stm}{r:Stk}:bN ((k,b,b.length)::(k2,b2,n2)::r)=bN ((k2,b2,nN b2 n2)::r):=by
 rw[bN,if_pos rfl]
theorem Ps.turn:∀(l:Nat) (st:Stk) (p:Nat),st.length=l->Ps P st p -> (p=(jR P).length/\bL 2e0=none/\Ps P 2e0 p)\/(∃ m,bL 2e0=some m/\Ps P 2e0 p)\/∃ XT p' pt,(jR P)[p]?=some ⟨none,pt,some p'⟩/\Ps P XT p'/\bN XT=bN st/\XT.length < st.length:=by
 intro l
 induction l with
 | zero=>intro st p hl h;obtain⟨_,_,_,_,_,_,rfl,_⟩:=h;simp at hl
 | succ l ih =>
  intro st p hl h;have hh:=h;obtain⟨B,pt,k,b,n,r,rfl,hB,rfl,hn⟩:=h;by_cases e:n=b.length
  ·subst e;cases hB with
   | bot =>
    refine .inl ⟨?_,?_,?_⟩
    ·rw[jR,gH,Α0,Γ4]
    ·rw[wW];simp[bL]
    ·rw[wW];exact hh
   | @XM _ k2 n2 B s _ b2 r pt hb e =>
    refine .inr (.inr ?_);obtain⟨_,_,_,_,z,i⟩:=hb.inC;cases z;have:=Am.at i e;simp only[BZ,Γ4] at this;have j:=this.tail.right.head;rw[gH] at j;rw[Α0];refine⟨_,_,_,j,⟨_,_,_,_,_,_,rfl,hb,rfl,Nat.le_of_lt (Ν.mp e).1⟩,?_,by simp⟩;rw[wX]
    congr 2
    simp[nN,e,Stm.B8]
   | @if0 _ k2 n2 B s _ o b2 r pt hb e =>
    refine .inr (.inr ?_);obtain⟨_,_,_,_,z,i⟩:=hb.inC;cases z;have:=Am.at i e;simp only[BZ,Γ4] at this;have j:=this.tail.right.head;rw[gH] at j;rw[Α0];refine⟨_,_,_,j,⟨_,_,_,_,n2+1,_,rfl,hb.n _,by rw[gC e,Stm.sz];omega,(Ν.mp e).1⟩,?_,by simp⟩;rw[wX];simp[nN,e,Stm.B8]
   | @if1 _ k2 n2 B s b0 _ b2 r pt hb e =>
    have hp:Ps P 6e0 (B+cH (b2.take n2)+cH b0+2+cH (b.take b.length)):=⟨_,_,_,_,n2+1,_,rfl,hb.n _,by rw[gC e,Stm.sz,Α0];omega,(Ν.mp e).1⟩;have ec:bN ((1,b,b.length)::(k2,b2,n2)::r)=bN 6e0:=by
     rw[wX];simp[nN,e,Stm.B8]
    rw[ec];rcases ih _ _ (by simp only[Η] at hl ⊢;omega) hp with z|z|⟨XT,p',pt',h1,h2,h3,h4⟩
    ·exact .inl z
    ·exact .inr (.inl z)
    ·exact .inr (.inr ⟨XT,p',pt',h1,h2,h3,by simp only[Η] at h4 ⊢;omega⟩)
  ·have lt:n < b.length:=by omega
   have ec:bN ((k,b,n)::r)=(k,b,n)::r:=by
    cases r with
    | nil=>exact wW
    | cons x r=>exact KQ e
   rw[ec];exact .inr (.inl ⟨b[n],by simp[bL,lt],hh⟩)
def Stm.kw:Stm->Str
 | .set _ _=>"set" | .order _ _ _=>"order" | .XC _ _=>"timer" | .child _ _ _=>"child" | .send _ _ _=>"send" | .drop _=>"drop" | .wait _ _=>"wait" | .Xy _ _=>"hear" | .fin _=>"end" | .XM _ _=>"while" | .iff _ _ _=>"if"
theorem cJ.kw(h:cJ H v m):∃ a r,v=.ref a/\H a=some (.tup (.str m.kw::r)):=by
 cases h<;>exact⟨_,_,rfl,by assumption⟩
def cJ.WM{o:List Stm}(h:cJ H (.ref a) 3e0):∃ v p q us,H a=some (.tup [.str "if",v,.ref p,.ref q])/\H q=some (.tup us)/\bX H us o:=by
 cases h with
 | iff e _ _ _ eq ho=>exact⟨_,_,_,_,e,eq,ho⟩
def Vc(h:m.isB=false):((m.kw=("while":Str))=False)/\((m.kw=("if":Str))=False)/\((m.kw=("jump":Str))=False):=by
 cases m<;>first|(simp[Stm.kw,cG];done)|cases h
theorem Te(m:Stm):1<=m.sz:=by cases m<;>simp only[Stm.sz]<;>omega
theorem lW:∀ b:List Stm,b.length<=cH b
 | []=>by simp
 | m::r=>by have:=lW r;have:=Te m;simp only[Η,cH];omega
theorem Np:∀(b:List Stm) (n:Nat),cH 0e0<=cH b
 | [],_=>by simp
 | _::_,0=>by simp[cH]
 | m::r,n+1=>by have:=Np r n;simp only[Ζ1,cH];omega
def kp1T{c:Addr}(k:Kp [c] H H')(e:H c=some 5e0):aE H H':=fun a ys h=>k a _ h (by
 simp only[Α,Δ,Υ];intro z;subst z;rw[e] at h;cases h)
def free1{c p:Addr}(k:Kp [c] H G)(e:G c=some o)(h:G p=none):H p=none:=by
 cases z:H p with
 | none=>rfl
 | some u =>
  by_cases hc:p=c
  ·subst hc;rw[e] at h;cases h
  ·rw[k.at1 z hc] at h;cases h
def _root_.L2.Kp.cL{p:Addr}(k:Kp [] H H')(h:H' p=none):H p=none:=by
 cases e:H p with
 | none=>rfl
 | some o=>rw[k.at e] at h;cases h
def rL{l k:List Addr}(h1:l.Nodup)(h2:k.Nodup)(t:∀ a∈l,∃ o,G a=some o)(f:∀ a∈k,G a=none):(l++k).Nodup:=ϛ.mpr ⟨h1,h2,fun x hx y hy z=>by
 obtain⟨o,e⟩:=t x hx;rw[z,f y hy] at e;cases e⟩
def g0{l k:List Addr}(h1:∀ a∈l,∃ o,G a=some o)(h2:∀ a∈k,∃ o,G a=some o):∀ a∈l++k,∃ o,G a=some o:=fun a ha=>(Κ.mp ha).elim (h1 a) (h2 a)
def lJ{p:Addr}(h:G p=some o):∀ a∈[p],∃ o,G a=some o:=fun a ha=>by rw[show a=p by simpa using ha];exact⟨o,h⟩
def V9:Option Nat->V
 | none=>.Xu
 | some n=>.int n
def ED(H:Hp)(a:Addr)(e:CE):Prop:=∃ pa,H pa=some (.tup (e.pt.map V.int))/\match e.m with
 | some m=>∃ sv,cJ H sv m/\H a=some (.lst [.str m.kw,sv,.ref pa,V9 e.wh])
 | none=>H a=some (.lst [.str "jump",.Xu,.ref pa,V9 e.wh])
def ED.there{e:CE}(h:ED H a e):∃ xs,H a=some 5e0:=by
 obtain⟨pa,_,h⟩:=h;cases hm:e.m with
 | none=>rw[hm] at h;exact⟨_,h⟩
 | some m=>rw[hm] at h;obtain⟨_,_,h⟩:=h;exact⟨_,h⟩
def ED.keep{e:CE}(h:ED H a e)(k:∀ o,H a=some o->H' a=some o)(t:aE H H'):ED H' a e:=by
 obtain⟨pa,hp,h⟩:=h;refine⟨pa,t _ _ hp,?_⟩;cases hm:e.m with
 | none=>rw[hm] at h;exact k _ h
 | some m=>rw[hm] at h;obtain⟨sv,hs,h⟩:=h;exact⟨sv,hs.kp t,k _ h⟩
inductive dE(H:Hp):List Addr->List CE->Prop
 | nil:dE H [] []
 | cons {a:Addr} {e:CE} {as:List Addr} {c:List CE}:ED H a e->dE H as c->dE H (a::as) (e::c)
def dE.len{as:List Addr}(h:dE H as c):as.length=c.length:=by
 induction h with
 | nil=>rfl
 | cons _ _ ih=>simp[ih]
def dE.there{as:List Addr}(h:dE H as c):∀ a∈as,∃ xs,H a=some 5e0:=by
 induction h with
 | nil=>simp
 | cons e _ ih =>
  intro a ha;rcases Α.mp ha with rfl|ha
  ·exact e.there
  ·exact ih a ha
def dE.ex{as:List Addr}(h:dE H as c):∀ a∈as,∃ o,H a=some o:=fun a ha=>let ⟨_,e⟩:=h.there a ha;⟨_,e⟩
def dE.keep{as:List Addr}(h:dE H as c)(k:∀ a∈as,∀ o,H a=some o->H' a=some o)(t:aE H H'):dE H' as c:=by
 induction h with
 | nil=>exact .nil
 | cons e _ ih=>exact .cons (e.keep (k _ (by simp)) t) (ih fun a ha=>k a (by simp[ha]))
def dE.app{as bs:List Addr}{d:List CE}(h:dE H as c)(g:dE H bs d):dE H (as++bs) (c++d):=by
 induction h with
 | nil=>exact g
 | cons e _ ih=>exact .cons e ih
def dE.at{as:List Addr}(h:dE H as c):∀ {i:Nat} {e:CE},c[i]?=some e->∃ a,as[i]?=some a/\ED H a e:=by
 induction h with
 | nil=>intro i e z;simp at z
 | cons f _ ih =>
  intro i e z;cases i with
  | zero=>simp only[Ξ,Ρ] at z;subst z;exact⟨_,rfl,f⟩
  | succ i=>simpa using ih (by simpa using z)
theorem Dh{pt:List Int}:∀ {b:List Stm} {k p n:Nat} {m:Stm},b[n]?=some m->AX pt k p (b.take (n+1))=AX pt k p 0e0++BZ (pt++[((k+n:Nat):Int)]) (p+cH 0e0) m
 | [],_,_,_,_,h=>by simp at h
 | x::b,k,p,0,m,h=>by
  simp only[Ξ,Ρ] at h;subst h;simp[AX,cH]
 | x::b,k,p,n+1,m,h=>by
  have:=Dh (pt:=pt) (b:=b) (k:=k+1) (p:=p+x.sz) (n:=n) (m:=m) (by simpa using h);simp only[Ζ1,AX,cH] at this ⊢;rw[this,List.append_assoc,show k+1+n=k+(n+1) by omega,Nat.add_assoc p]
theorem Ez{b:Addr}(ha:H a=some (.tup xs))(hb:H b=some (.tup ys))(l:xs.length+ys.length<=1000)(h:∀ p H',H' p=some (.tup (xs++ys))->Kp [] H H'->Q (.ref p) H'):wQ (.ref a) (.ref b) H Q:=by
 unfold wQ;rw[LA,ha,hb];refine⟨by rw[Ε1];omega,?_⟩;split
 ·next e=>subst e;exact h b H (by simpa using hb) Kp.refl
 ·split
  ·next e=>subst e;exact h a H (by simpa using ha) Kp.refl
  ·exact fun p hp=>h p _ aA (Kp.new hp)
inductive Cy(d:Nat)(vs:List V)(H:Hp)(Q:VK)(E:XK):Prop
 | mk (bp pp cl:Addr) (us:List V) (b:List Stm) (pt:List Int) (as:List Addr) (_:vs=[.ref bp,.ref pp,.ref cl]) (_:H bp=some (.tup us)) (_:bX H us b) (_:qB b < d) (_:H pp=some (.tup (pt.map V.int))) (_:pt.length+2 * d<=1000) (_:H cl=some (.lst (as.map V.ref))) (_:as.length+cH b<=100000) (_:∀(H':Hp) (new:List Addr),H' cl=some (.lst ((as++new).map V.ref))->dE H' new (AX pt 0 as.length b)->(∀ a∈new,H a=none)->new.Nodup->Kp [cl] H H'->Q .Xu H'):Cy d vs H Q E
def six6(h:k∈OK6):k≠("names":Str)/\k≠("arg":Str)/\k≠("now":Str)/\k≠("made":Str)/\k≠("open":Str)/\k≠("done":Str):=by
 simp only[OK6,Α,Δ,Υ] at h;rcases h with rfl|rfl|rfl|rfl|rfl|rfl<;>simp[cG]
def CF{a b:Str}{x:V}{o:Option V}(h:a≠b)(e:bA kvs 1e0=o):bA (aR kvs (.inr b) x) 1e0=o:=by
 rw[gD,if_neg (fun z=>h (Key.inr.inj z))];exact e
def VM{a:Str}{x:V}:bA (aR kvs 1e0 x) 1e0=some x:=by rw[gD,if_pos rfl]
end
section
variable{md nd od:Addr}
mutual
example:=[.dK kvs,.dK kv',aR kvs (.inr "open") (.ref o2),aR kvs (.inr "now") (.int m),aR kvs (.inr "arg") (wv w),aR kvs (.inr k) v]
def cU.BM(M:cU H md nd od dd ot S)(e:H md=some 0e0)(kv':List (Key×V)):Xt H md 1e0 nd=some (.dK (fF S.nm))/\Xt H md 1e0 od=some (.lst (S.pend.map V.int))/\∃ ds,Xt H md 1e0 dd=some (.lst ds)/\iY (Xt H md 1e0) ds S.ans:=by
 obtain⟨ds,e2,r2⟩:=M.hd;exact⟨by rw[aC M.n1.symm];exact M.hn,cY e M.ho,ds,cY e e2,r2.kt (aE.cS e)⟩
def cU.ot6(M:cU H md nd od dd ot S)(e:H md=some 0e0)(hk:k∈OK6)(hy:ot k=some y)(v:V):cU (Xt H md (.dK 5e0)) md nd od dd (fun j=>if j=k then some v else ot j) S:=by
 obtain⟨kv,e',l,v1,v2,v3,v4,v5,v6⟩:=M.hm;rw[e] at e';cases e';obtain⟨b1,b2,b3⟩:=M.BM e 5e0;obtain⟨n1,n2,n3,n4,n5,n6⟩:=six6 hk;exact {M with
  hm:=⟨_,aA,⟨by rw[nX (by rw[l.2 k hk];exact hy)];exact l.1,fun j hj=>by
   rw[gD];by_cases h:j=k
   ·subst h;simp
   ·rw[if_neg (fun z=>h (Key.inr.inj z)),if_neg h];exact l.2 j hj⟩,CF n1.symm v1,CF n2.symm v2,CF n3.symm v3,CF n4.symm v4,CF n5.symm v5,CF n6.symm v6⟩
  hn:=b1
  ho:=b2
  hd:=b3}
def cU.now(M:cU H md nd od dd ot S)(e:H md=some 0e0)(m:Int):cU (Xt H md (.dK 3e0)) md nd od dd ot {S with nw:=m}:=by
 obtain⟨kv,e',l,v1,v2,v3,v4,v5,v6⟩:=M.hm;rw[e] at e';cases e';obtain⟨b1,b2,b3⟩:=M.BM e 3e0;exact {M with
  hm:=⟨_,aA,⟨by rw[nX v3];exact l.1,fun k hk=>by rw[CF (six6 hk).2.2.1 rfl];exact l.2 k hk⟩,g8 v1,g8 v2,CG,g8 v4,g8 v5,g8 v6⟩
  hn:=b1
  ho:=b2
  hd:=b3}
def cU.arg(M:cU H md nd od dd ot S)(e:H md=some 0e0)(w:Wo):cU (Xt H md (.dK 4e0)) md nd od dd ot {S with ar:=w}:=by
 obtain⟨kv,e',l,v1,v2,v3,v4,v5,v6⟩:=M.hm;rw[e] at e';cases e';obtain⟨b1,b2,b3⟩:=M.BM e 4e0;exact {M with
  hm:=⟨_,aA,⟨by rw[nX v2];exact l.1,fun k hk=>by rw[CF (six6 hk).2.1 rfl];exact l.2 k hk⟩,g8 v1,CG,g8 v3,g8 v4,g8 v5,g8 v6⟩
  hn:=b1
  ho:=b2
  hd:=b3}
def cU.opn(M:cU H md nd od dd ot S)(e:H md=some 0e0)(X6:H o2=some (.lst []))(n:o2≠dd):cU (Xt H md (.dK 2e0)) md nd o2 dd ot {S with pend:=[]}:=by
 obtain⟨kv,e',l,v1,v2,v3,v4,v5,v6⟩:=M.hm;rw[e] at e';cases e';obtain⟨b1,b2,b3⟩:=M.BM e 2e0;exact {M with
  hm:=⟨_,aA,⟨by rw[nX v5];exact l.1,fun k hk=>by rw[CF (six6 hk).2.2.2.2.1 rfl];exact l.2 k hk⟩,g8 v1,g8 v2,g8 v3,g8 v4,CG,g8 v6⟩
  hn:=b1
  ho:=cY e X6
  hd:=b3
  n2:=n
  asc:=List.Pairwise.nil
  lt:=fun i hi=>(by simp at hi)
  dis:=fun p hp=>⟨by simp,(M.dis p hp).2⟩}
end
end
set_option genInjectivity false in
structure Fa where
 md:Addr
 nd:Addr
 od:Addr
 dd:Addr
 ld:Addr
 cl:Addr
 cs:List Addr
 las:List Addr
 nk:Nat
 aw:Addr
variable{A:Fa}
mutual
example:=[Str.ofString "names",Str.ofString "open",Str.ofString "mode",Str.ofString "made",Str.ofString "code",Str.ofString "now",Str.ofString "arg",Str.ofString "at"]
def Fa.mut(A:Fa):List Addr:=[A.md,A.nd,A.od,A.dd,A.ld]++A.las
def eU(H:Hp)(A:Fa)(ot:Str->Option V):Slp->Prop
 | .new=>ot "mode"=some (.str "new")
 | .Xu=>ot "mode"=some (.str "on")
 | .wait ts=>ot "mode"=some (.str "wait")/\ot "awaited"=some (.ref A.aw)/\H A.aw=some (.lst (ts.map V.int))/\A.aw∉A.mut
 | .Xy _=>ot "mode"=some (.str "hear")
 | .ended w=>ot "mode"=some (.str "ended")/\ot "outcome"=some (wv w)
 | .worn=>ot "mode"=some (.str "worn")
structure bR(P:List Stm)(H:Hp)(A:Fa)(S:Pu)(p:Nat):Prop where
 ex:∃ ot:Str->Option V,cU H A.md A.nd A.od A.dd ot S/\A5 ((∀ k∈OK6,∃ v,ot k=some v)) (ot "code"=some (.ref A.cl)) (ot "at"=some (.int p)) (ot "letters"=some (.ref A.ld)) (eU H A ot S.sl)
 cl:H A.cl=some (.lst (A.cs.map V.ref))
 co:dE H A.cs (jR P)
 lt:∃ kvs ml,H A.ld=some (.dK kvs)/\fZ H kvs A.las ml/\((ml.map (·.1)).Nodup/\ml.length<=A.nk)/\∀ k,(aS ml k).getD []=(aS S.lt k).getD []
 ps:Ps P S.stk p
 n1:A.md≠A.ld
 n2:A.nd≠A.ld
 nl:A.las.Nodup
 s1:A.od≠A.cl/\A.od∉A.cs/\A.dd≠A.cl/\A.dd∉A.cs
 s2:∀ a∈A.las,a≠A.od/\a≠A.dd/\a≠A.cl/\a∉A.cs
inductive Nc(vs:List V)(H:Hp)(Q:VK)(E:XK):Prop
 | mk (bp:Addr) (us:List V) (b:List Stm) (_:vs=[.ref bp]) (_:H bp=some (.tup us)) (_:bX H us b) (_:qB b < 9) (_:cH b<=1000) (_:∀(A:Fa) (H':Hp),bR b H' A (fH b) 0->(∀ a∈A.mut,H a=none)->A.nk=0->(∃ o,H' A.aw=some o)->Kp [] H H'->Q (.ref A.md) H'):Nc vs H Q E
def tZ{cl x:Addr}{cs:List Addr}(e:H cl=some o)(h:dE H cs c)(n:H x=none):x≠cl/\x∉cs:=by
 refine⟨fun z=>?_,fun z=>?_⟩
 ·rw[z,e] at n;cases n
 ·obtain⟨o,e⟩:=h.ex x z;rw[e] at n;cases n
theorem ps0(b:List Stm):Ps b (fH b).stk 0:=⟨0,[],0,b,0,[],rfl,.bot,by simp[cH],by omega⟩
def eights{a b c d e f g h:V}:eW [] [((.inr 4e0:Key),a),(.inr 7e0,b),(.inr 2e0,c),(.inr 0e0,d),(.inr 6e0,e),(.inr 5e0,f),(.inr 3e0,g),(.inr 1e0,h)]=[((.inr 4e0:Key),a),(.inr 7e0,b),(.inr 2e0,c),(.inr 0e0,d),(.inr 6e0,e),(.inr 5e0,f),(.inr 3e0,g),(.inr 1e0,h)]:=by
 simp[eW,aR,cG]
end
section
variable{H'':Hp}{A' A'':Fa}{S':Pu}{p':Nat}
mutual
example:=[(by simp),(fun j=>if j=k then some v else ot j),(by intro z;cases z),.ref A.ld,.ref A.cl,.inl rfl,.int p',(b=A.cl\/b∈A.cs\/b=A.ld\/b∈A.las),Str.ofString a]
def bR.far(F:bR P H A S p){b:Addr}(hb:b=A.cl\/b∈A.cs\/b=A.ld\/b∈A.las):b≠A.md/\b≠A.nd/\b≠A.od/\b≠A.dd:=by
 obtain⟨ot,M,_⟩:=F.ex;obtain⟨kvs,em,_⟩:=M.hm;obtain⟨ds,ed,_⟩:=M.hd;obtain⟨lk,ml,el,hl,_⟩:=F.lt;have lst:∀ {xs:List V},H b=some (.lst xs)->b≠A.md/\b≠A.nd:=fun e=>⟨c0 e em 2e0,c0 e M.hn 2e0⟩;rcases hb with rfl|hb|rfl|hb
 ·exact⟨(lst F.cl).1,(lst F.cl).2,F.s1.1.symm,F.s1.2.2.1.symm⟩
 ·obtain⟨xs,e⟩:=F.co.there b hb;exact⟨(lst e).1,(lst e).2,fun z=>F.s1.2.1 (z▸hb),fun z=>F.s1.2.2.2 (z▸hb)⟩
 ·exact⟨F.n1.symm,F.n2.symm,c0 el M.ho 2e0,c0 el ed 2e0⟩
 ·obtain⟨xs,e⟩:=hl.ex b hb;exact⟨(lst e).1,(lst e).2,(F.s2 b hb).1,(F.s2 b hb).2.1⟩
def bR.asm(F:bR P H A S p)(M':cU H' A.md A.nd o2 A.dd ot' S')(os':∀ k∈OK6,∃ v,ot' k=some v)(c1:ot' "code"=some 4e0)(c2:ot' "at"=some 6e0)(c3:ot' "letters"=some 3e0)(c4:eU H' {A with od:=o2} ot' S'.sl)(K:∀ b o,H b=some o->7e0->H' b=some o)(T:aE H H')(hl:S'.lt=S.lt)(hp:Ps P S'.stk p')(so:o2≠A.cl/\o2∉A.cs)(sl:∀ a∈A.las,a≠o2):bR P H' {A with od:=o2} S' p':=by
 obtain⟨lk,ml,el,h1,h0,h2⟩:=F.lt;exact⟨⟨ot',M',os',c1,c2,c3,c4⟩,K _ _ F.cl 5e0,F.co.keep (fun a ha o e=>K a o e (.inr (.inl ha))) T,⟨lk,ml,K _ _ el (.inr (.inr 5e0)),h1.keep (fun a ha o e=>K a o e (.inr (.inr (.inr ha)))),h0,fun k=>by rw[hl];exact h2 k⟩,hp,F.n1,F.n2,F.nl,⟨so.1,so.2,F.s1.2.2.1,F.s1.2.2.2⟩,fun a ha=>⟨sl a ha,(F.s2 a ha).2⟩⟩
def bR.pV(F:bR P H A S p)(M':cU H' A.md A.nd A.od A.dd ot' S')(os':∀ k∈OK6,∃ v,ot' k=some v)(c1:ot' "code"=some 4e0)(c2:ot' "at"=some 6e0)(c3:ot' "letters"=some 3e0)(c4:eU H' A ot' S'.sl)(K:∀ b o,H b=some o->7e0->H' b=some o)(T:aE H H')(hl:S'.lt=S.lt)(hp:Ps P S'.stk p'):bR P H' A S' p' :=
 F.asm M' os' c1 c2 c3 c4 K T hl hp ⟨F.s1.1,F.s1.2.1⟩ fun a ha=>(F.s2 a ha).1
def bR.QW(F:bR P H A S p){las:List Addr}{nk:Nat}(M':cU H' A.md A.nd A.od A.dd ot' S')(os':∀ k∈OK6,∃ v,ot' k=some v)(c1:ot' "code"=some 4e0)(c2:ot' "at"=some 6e0)(c3:ot' "letters"=some 3e0)(c4:eU H' {A with las:=las,nk:=nk} ot' S'.sl)(K:∀ b o,H b=some o->(b=A.cl\/b∈A.cs)->H' b=some o)(T:aE H H')(hl:∃ kvs ml,H' A.ld=some (.dK kvs)/\fZ H' kvs las ml/\((ml.map (·.1)).Nodup/\ml.length<=nk)/\∀ k,(aS ml k).getD []=(aS S'.lt k).getD [])(hp:Ps P S'.stk p')(nd:las.Nodup)(s2:∀ a∈las,a≠A.od/\a≠A.dd/\a≠A.cl/\a∉A.cs):bR P H' {A with las:=las,nk:=nk} S' p' :=
 ⟨⟨ot',M',os',c1,c2,c3,c4⟩,K _ _ F.cl 5e0,F.co.keep (fun a ha o e=>K a o e (.inr ha)) T,hl,hp,F.n1,F.n2,nd,F.s1,s2⟩
def eU.keep{s:Slp}(h:eU H A ot s)(k:∀ b o,H b=some o->b∉A.mut->H' b=some o):eU H' A ot s:=by
 cases s with
 | wait ts=>obtain⟨h1,h2,h3,h4⟩:=h;exact⟨h1,h2,k _ _ h3 h4,h4⟩
 | _=>exact h
def bR.kp(F:bR P H A S p)(k:Kp [] H H'):bR P H' A S p:=by
 obtain⟨ot,M,os,c1,c2,c3,c4⟩:=F.ex;exact F.pV (M.kp k) os c1 c2 c3 (c4.keep fun _ _ e _=>k.at e) (fun _ _ e _=>k.at e) (aE.nil k) rfl F.ps
def bR.Vx(F:bR P H A S p)(n:S.sl=.Xu)(a:Addr):bR P H {A with aw:=a} S p:=by
 obtain⟨ot,M,os,c1,c2,c3,c4⟩:=F.ex;exact⟨⟨ot,M,os,c1,c2,c3,by rw[n] at c4 ⊢;exact c4⟩,F.cl,F.co,F.lt,F.ps,F.n1,F.n2,F.nl,F.s1,F.s2⟩
def hW(H:Hp)(A:Fa)(op:Addr)(cs:Cmds):Prop:=∃ us,H op=some (.lst us)/\iL H us cs/\op∉A.mut/\op≠A.cl/\op∉A.cs
def hW.kp(h:hW H A op cs)(k:Kp [] H H'):hW H' A op cs:=by
 obtain⟨us,e,c,r⟩:=h;exact⟨us,k.at e,c.kt (aE.nil k),r⟩
structure Fm(D:List Addr)(A A':Fa)(H H':Hp):Prop where
 kp:∀ b o,H b=some o->b∉A.mut->b∉D->H' b=some o
 st:∀ b o,H b=some o->∃ u,H' b=some u
 nw:∀ b∈A'.mut,b∈A.mut\/H b=none
 m1:A'.md=A.md/\A'.cl=A.cl/\A'.cs=A.cs
 nk:A'.nk=A.nk
 na:A'.aw=A.aw\/(H A'.aw=none/\∃ o,H' A'.aw=some o)
def Fm.refl:Fm D A A H H:=⟨fun _ _ e _ _=>e,fun _ o e=>⟨o,e⟩,fun _ h=>.inl h,⟨rfl,rfl,rfl⟩,rfl,.inl rfl⟩
def Fm.trans(x:Fm D A A' H H')(y:Fm D A' A'' H' H''):Fm D A A'' H H'':=by
 refine⟨fun b o e h1 h2=>y.kp b o (x.kp b o e h1 h2) (fun z=>?_) h2,fun b o e=>?_,fun b hb=>?_,⟨y.m1.1.trans x.m1.1,y.m1.2.1.trans x.m1.2.1,y.m1.2.2.trans x.m1.2.2⟩,y.nk.trans x.nk,?_⟩
 ·rcases x.nw b z with z|z
  ·exact h1 z
  ·rw[z] at e;cases e
 ·obtain⟨u,e'⟩:=x.st b o e;exact y.st b u e'
 ·rcases y.nw b hb with z|z
  ·exact x.nw b z
  ·refine .inr ?_;cases e:H b with
   | none=>rfl
   | some o =>
    obtain⟨u,e'⟩:=x.st b o e;rw[z] at e';cases e'
 ·rcases y.na with z|⟨z,zz⟩
  ·rw[z];rcases x.na with w|⟨w,o,e⟩
   ·exact .inl w
   ·exact .inr ⟨w,y.st _ o e⟩
  ·refine .inr ⟨?_,zz⟩;cases e:H A''.aw with
   | none=>rfl
   | some o =>
    obtain⟨u,e'⟩:=x.st _ o e;rw[z] at e';cases e'
def Fm.awN(x:Fm D A A H H')(h:H a=none)(e:H' a=some o):Fm D A {A with aw:=a} H H':=⟨x.kp,x.st,x.nw,x.m1,x.nk,.inr ⟨h,o,e⟩⟩
def Fm.of(k:Kp [] H H'):Fm D A A H H':=⟨fun _ _ e _ _=>k.at e,fun _ o e=>⟨o,k.at e⟩,fun _ h=>.inl h,⟨rfl,rfl,rfl⟩,rfl,.inl rfl⟩
def Fm.set{b:Addr}{o:HO}(h:b∈A.mut\/b∈D):Fm D A A H (Xt H b o):=by
 refine⟨fun c u e h1 h2=>by rw[aC (fun z=>by subst z;exact h.elim h1 h2)];exact e,fun c u e=>?_,fun _ h=>.inl h,⟨rfl,rfl,rfl⟩,rfl,.inl rfl⟩;by_cases z:c=b
 ·subst z;exact⟨_,aA⟩
 ·exact⟨u,by rw[aC z];exact e⟩
def Fm.ofK{E:List Addr}(k:Kp E H H')(h:∀ b∈E,(b∈A.mut\/b∈D)/\∃ u,H' b=some u):Fm D A A H H':=by
 refine⟨fun b o e h1 h2=>k b o e (fun z=>(h b z).1.elim h1 h2),fun b o e=>?_,fun _ h=>.inl h,⟨rfl,rfl,rfl⟩,rfl,.inl rfl⟩;by_cases z:b∈E
 ·exact(h b z).2
 ·exact⟨o,k b o e z⟩
def Fm.od(F:Fm D A A H H')(h:H o2=none):Fm D A {A with od:=o2} H H':=by
 refine⟨F.kp,F.st,fun b hb=>?_,⟨rfl,rfl,rfl⟩,rfl,.inl rfl⟩;simp only[Fa.mut,Κ,Α,Δ,Υ] at hb ⊢;rcases hb with(rfl|rfl|rfl|rfl|rfl)|hb
 ·exact .inl 0e0
 ·exact .inl 0e0
 ·exact .inr h
 ·exact .inl 0e0
 ·exact .inl 0e0
 ·exact .inl (.inr hb)
def bR.tup(F:bR P H A S p){b:Addr}(hb:b∈A.mut):∃ o,H b=some o/\∀ xs,o≠.tup xs:=by
 obtain⟨ot,M,_⟩:=F.ex;obtain⟨kvs,em,_⟩:=M.hm;obtain⟨ds,ed,_⟩:=M.hd;obtain⟨lk,ml,el,hl,_⟩:=F.lt;simp only[Fa.mut,Κ,Α,Δ,Υ] at hb;rcases hb with(rfl|rfl|rfl|rfl|rfl)|hb
 ·exact⟨_,em,fun _ z=>by cases z⟩
 ·exact⟨_,M.hn,fun _ z=>by cases z⟩
 ·exact⟨_,M.ho,fun _ z=>by cases z⟩
 ·exact⟨_,ed,fun _ z=>by cases z⟩
 ·exact⟨_,el,fun _ z=>by cases z⟩
 ·obtain⟨xs,e⟩:=hl.ex b hb;exact⟨_,e,fun _ z=>by cases z⟩
def bR.tkp(F:bR P H A S p)(f:Fm [op] A A' H H')(e:H op=some (.lst us)):aE H H':=fun a xs h=>f.kp a _ h (fun z=>by
 obtain⟨o,e',n⟩:=F.tup z;rw[h] at e';cases e';exact n xs rfl) (by
 simp only[Α,Δ,Υ];intro z;subst z;rw[h] at e;cases e)
def Vj(h:op∉A.mut)(n:op≠o2):op∉({A with od:=o2}:Fa).mut:=by
 simp only[Fa.mut,Κ,Α,Δ,Υ,not_or] at h ⊢;exact⟨⟨h.1.1,h.1.2.1,n,h.1.2.2.2⟩,h.2⟩
def Qy(h:∀ j∈OK6,∃ u,ot j=some u):∀ j∈OK6,∃ u,1e0 j=some u:=fun j hj=>by
 by_cases e:j=k
 ·exact⟨v,by simp[e]⟩
 ·obtain⟨u,z⟩:=h j hj;exact⟨u,by simp[e,z]⟩
def cU.six{H0:Hp}{md nd od:Addr}(M:cU H md nd od dd ot S)(e:H md=some (.dK kvs))(hk:k∈OK6)(hy:ot k=some y)(os:∀ j∈OK6,∃ u,ot j=some u)(KM:Kp D H0 H)(TM:aE H0 H)(hd:md∈D)(v:V){P:Hp->Prop}(h:∀ G,cU G md nd od dd 1e0 S->(∀ j∈OK6,∃ u,1e0 j=some u)->Kp D H0 G->aE H0 G->(∀ {b:Addr} {o:HO},H b=some o->o≠.dK kvs->G b=some o)->aE H G->Kp [md] H G->P G):P (Xt H md (.dK (aR kvs (.inr k) v))) :=
 h _ (M.ot6 e hk hy v) (Qy os) (KM.trans (Kp.set hd)) (TM.trans (aE.cS e)) (fun e1 d=>cY e e1 d) (aE.cS e) (Kp.set 0e0)
def vY(l:List (Key×V))(k:Key)(v:V):(aR l k v).length<=l.length+1:=by
 unfold aR;split<;>simp
theorem eL{a b:String}(h:a≠b:=by decide):(fun j=>if j=Str.ofString b then some v else ot j) 8e0=ot 8e0:=by
 simp only;rw[if_neg (sst h)]
def zD:1e0 k=some v:=by simp
end
end
def cU.as{md nd od:Addr}{S':Pu}(M:cU H md nd od dd ot S)(h:S'.ar=S.ar/\S'.nw=S.nw/\S'.nm=S.nm/\S'.made=S.made/\S'.pend=S.pend/\S'.ans=S.ans):cU H md nd od dd ot S':=by
 obtain⟨h1,h2,h3,h4,h5,h6⟩:=h;exact⟨by rw[h1,h2,h4];exact M.hm,by rw[h3];exact M.hn,by rw[h5];exact M.ho,by rw[h6];exact M.hd,M.n1,M.n2,by rw[h5];exact M.asc,by rw[h5,h4];exact M.lt,by rw[h6];exact M.uq,by rw[h6,h5,h4];exact M.dis⟩
variable{as:List Addr}
mutual
example:=[(fun _ h=>nomatch h),(fun h=>nomatch h),Str×List Wo,Int×Wo,(by show S.sl.isN=true;rw[n];rfl),S.worth s,(by simp),.int (p':Int),.dK (aR kvs (.inr "at") 7e0),some i∈ws,s.wt ts hs,ans.take i,aE.cS M.hn,.wait x ss]
def bR.Hc(F:bR P H A S p)(s1:op∉A.mut)(s2:op≠A.cl)(s3:op∉A.cs){b:Addr}(hb:b=A.cl\/b∈A.cs\/b=A.ld\/b∈A.las):b≠A.md/\b≠A.nd/\b≠A.od/\b≠A.dd/\b≠op:=by
 obtain⟨a1,a2,a3,a4⟩:=F.far hb;refine⟨a1,a2,a3,a4,?_⟩;simp only[Fa.mut,Κ,Α,Δ,Υ,not_or] at s1;rcases hb with rfl|hb|rfl|hb
 ·exact s2.symm
 ·exact fun z=>s3 (z▸hb)
 ·exact fun z=>s1.1.2.2.2.2 z.symm
 ·exact fun z=>s1.2 (z▸hb)
def bR.new(F:bR P H A S p){x:Addr}(h:H x=none):(x≠A.cl/\x∉A.cs)/\(∀ a∈A.las,a≠x)/\x∉A.mut:=by
 obtain⟨lk,ml,el,hl,_⟩:=F.lt;refine⟨tZ F.cl F.co h,fun a ha=>?_,fun z=>?_⟩
 ·obtain⟨xs,e⟩:=hl.ex a ha;exact aF e h
 ·obtain⟨o,e,_⟩:=F.tup z;rw[h] at e;cases e
def aW:A.md∈A.mut/\A.nd∈A.mut/\A.od∈A.mut/\A.dd∈A.mut/\A.ld∈A.mut:=by simp[Fa.mut]
def QR(P:List Stm)(A:Fa)(op:Addr)(H:Hp)(Q:VK)(cs:Cmds)(z:Pu×Cmds):Prop:=∀(A':Fa) (p':Nat) (H':Hp),bR P H' A' z.1 p'->hW H' A' op (cs++z.2)->Fm [op] A A' H H'->Q .Xu H'
inductive M9(vs:List V)(H:Hp)(Q:VK)(E:XK):Prop
 | mk (P:List Stm) (A:Fa) (S:Pu) (p:Nat) (w:Wo) (op:Addr) (cs:Cmds) (_:vs=[.ref A.md,wv w,.ref op]) (_:bR P H A S p) (_:hW H A op cs) (_:cs.length<=1000) (_:QR P A op H Q cs (S.ends w)):M9 vs H Q E
inductive Ge(g:Stm->Prop)(vs:List V)(H:Hp)(Q:VK)(E:XK):Prop
 | mk (P:List Stm) (A:Fa) (S:Pu) (p:Nat) (v:V) (m:Stm) (_:vs=[.ref A.md,v]) (_:bR P H A S p) (_:S.sl=.Xu) (_:cJ H v m) (_:g m) (_:m.gd true) (_:bL S.stk=some m) (_:S.pl.Ok) (_:S.nm.length<=100000) (_:S.pend.length<=100000) (_:S.ans.length<=100000) (_:∀(A':Fa) (p':Nat) (H':Hp),bR P H' A' (one S m).1 p'->Fm [] A A' H H'->Q .Xu H'):Ge g vs H Q E
theorem B6(i:Int):∀ ws:List Wo,pD (.int i) (ws.map wv)=decide 9e0
 | []=>by simp[pD]
 | none::r=>by
  have:=B6 i r;simp only[ϔ,Α,reduceCtorEq,false_or] at this ⊢;rw[<- this];simp[pD,wv,nB]
 | some j::r=>by
  have:=B6 i r;simp only[ϔ,Α,Ρ] at this ⊢;rw[Ε3] at this ⊢;simp only[decide_eq_true_eq] at this ⊢;rw[<- this];simp only[pD,List.any_cons,Bool.or_eq_true];constructor
  ·rintro(h|h)
   ·exact .inl (by simp only[nB,wv,beq_iff_eq] at h;omega)
   ·exact .inr h
  ·rintro(h|h)
   ·exact .inl (by simp only[nB,wv,beq_iff_eq];omega)
   ·exact .inr h
def Di(ws:List Wo):(ws.map wv).all eI=true:=by simp[wB]
def PR{K:q0B}{b:Addr}(ha:H a=some (.lst xs))(hb:H b=some (.lst [])):sJ K H 1 a b xs.isEmpty:=by
 cases xs with
 | nil =>
  have:=sJ.list (K:=K) (H:=H) (n:=0) (e:=fun _=>true) (gE.of ha) (gE.of hb) rfl (fun j x y e _=>by simp at e);simpa using this
 | cons x xs=>exact sJ.Yz (gE.of ha) (gE.of hb) 6e0
theorem oW{pend:List Int}{j:Int}:∀ {ws:List Wo},j∈dO pend ws↔j∈pend/\some j∈ws
 | []=>by simp[dO]
 | none::r=>by simp only[dO,oW (ws:=r)];simp
 | some i::r=>by
  simp only[dO];split
  ·next h =>
   simp only[Α,oW (ws:=r),Ρ];constructor
   ·rintro(rfl|h2)
    ·exact⟨h,.inl rfl⟩
    ·exact⟨h2.1,.inr h2.2⟩
   ·rintro⟨h1,rfl|h2⟩
    ·exact .inl rfl
    ·exact .inr ⟨h1,h2⟩
  ·next h =>
   simp only[Α,oW (ws:=r),Ρ];constructor
   ·rintro⟨h1,h2⟩;exact⟨h1,.inr h2⟩
   ·rintro⟨h1,rfl|h2⟩
    ·exact absurd h1 h
    ·exact⟨h1,h2⟩
theorem DQ(h:pend.Pairwise (· < ·))(ws:List Wo):pend.filter (fun i=>decide 9e0)=bM pend ws:=by
 refine oB ((List.perm_ext_iff_of_nodup ?_ ((gR pend ws).imp fun h=>by omega)).mpr fun j=>?_) ((h.filter _).imp fun h=>by omega) (gR pend ws)
 ·exact(h.filter _).imp fun h=>by omega
 ·rw[l7,oW,Α5];simp
def dD(ans:List 3e0)(ws:List Wo):List Int:=(ans.filter fun p=>decide (some p.1∈ws)).map (·.1)
def nY(ans:List 3e0)(ws:List Wo):bB ans ws=(dD ans ws).head?:=by
 unfold bB dD
 induction ans with
 | nil=>rfl
 | cons x r ih =>
  by_cases h:some x.1∈ws
  ·simp[Δ2,h]
  ·simp only[Δ2,List.filter_cons,h,decide_false,ϙ,Β4];exact ih
theorem FZ{i:Nat}(e:ans[i]?=some (j,w)):(dD (ans.take (i+1)) ws).map V.int=if decide (some j∈ws)=true then (dD 1e1 ws).map V.int++[.int j] else (dD 1e1 ws).map V.int:=by
 unfold dD;rw[Β3,e,Α3,List.filter_append];by_cases h:some j∈ws<;>simp[h]
def IY{l:List Int}{q:Int->Bool}{i:Nat}(e:l[i]?=some j):((l.take (i+1)).filter q).map V.int=if q j=true then ((l.take i).filter q).map V.int++[.int j] else ((l.take i).filter q).map V.int:=by
 rw[Β3,e,Α3,List.filter_append];by_cases h:q j=true<;>simp[h]
def MP(ans:List 3e0)(ws:List Wo):((dD ans ws).map V.int++[V.Xu])[0]?=some (wv (bB ans ws)):=by
 rw[nY];cases dD ans ws<;>rfl
def JP(ans:List 3e0)(ws:List Wo):(dD ans ws).length<=ans.length:=by
 rw[dD,Γ];exact Γ8 _ _
theorem lZ:∀(l:List 2e0) (k:Str) (r:List Wo) (j:Str),aS (dH l k r) j=if j=k then (aS l k).map (fun _=>r) else aS l j
 | [],k,r,j=>by simp[aS,dH]
 | p::l,k,r,j=>by
  have ih:=lZ l k r j;by_cases h:p.1=k
  ·by_cases hj:j=k
   ·subst hj;simp[dH,aS,h]
   ·have:¬ p.1=j:=fun z=>hj (z▸h);have hk:¬ k=j:=fun z=>hj z.symm;simp[dH,aS,h,hj,hk]
  ·simp only[dH,h,Β4,aS,ih];by_cases hj:j=k
   ·subst hj;simp[h]
   ·simp[hj]
theorem o9:∀(l:List 2e0) (k:Str) (r:List Wo),(dH l k r).map (·.1)=l.map (·.1)
 | [],_,_=>rfl
 | p::l,k,r=>by
  simp only[dH];split
  ·rfl
  ·simp[o9 l k r]
def xX{l:List 2e0}{r':List Wo}(h:(aS l k).getD []=w::r')(r:List Wo)(j:Str):(aS (dH l k r) j).getD []=if j=k then r else (aS l j).getD []:=by
 rw[lZ];by_cases hj:j=k
 ·rw[if_pos hj,if_pos hj];cases e:aS l k with
  | none=>rw[e] at h;simp at h
  | some v=>rfl
 ·rw[if_neg hj,if_neg hj]
def Slp.md:Slp->Str
 | .new=>"new" | .Xu=>"on" | .wait _=>"wait" | .Xy _=>"hear" | .ended _=>"ended" | .worn=>"worn"
def eU.md{s:Slp}(h:eU H A ot s):ot "mode"=some (.str s.md):=by
 cases s with
 | wait ts=>exact h.1
 | ended w=>exact h.1
 | _=>exact h
def Vg(s:Slp):(s.md=("on":Str))=(s.isN=true):=by
 cases s<;>simp[Slp.md,Slp.isN,cG]
def rC(h:bL S.bC.stk=none)(n:Nat):dU n S=S.bC.ends none:=by
 cases n<;>simp only[dU,h]
def AZ(h:bL S.bC.stk=some m):dU 0 S=S.bC.pT:=by simp only[dU,h]
def AY(h:bL S.bC.stk=some m)(n:Nat):dU (n+1) S=if (one S.bC m).1.sl.isN=true then ((dU n (one S.bC m).1).1,(one S.bC m).2++(dU n (one S.bC m).1).2) else one S.bC m:=by simp only[dU,h]
def LP(h:bN st=bN S.stk)(n:Nat):dU n {S with stk:=st}=dU n S:=by
 have e:({S with stk:=st}:Pu).bC=S.bC:=by simp only[Pu.bC,h]
 cases n<;>simp only[dU,e]
def bR.stk(F:bR P H A S p)(h:Ps P st p):bR P H A {S with stk:=st} p:=by
 obtain⟨ot,M,os,c1,c2,c3,c4⟩:=F.ex;exact F.pV (M.as ⟨rfl,rfl,rfl,rfl,rfl,rfl⟩) os c1 c2 c3 c4 (fun _ _ e _=>e) (fun _ _ e=>e) rfl h
def bR.setAt(F:bR P H A S p)(e:H A.md=some (.dK kvs)){p':Nat}(h:Ps P st p'):bR P (Xt H A.md 8e0) A {S with stk:=st} p':=by
 obtain⟨ot,M,os,c1,c2,c3,c4⟩:=F.ex;refine F.pV ((M.ot6 e (k:="at") (by simp[OK6]) c2 7e0).as ⟨rfl,rfl,rfl,rfl,rfl,rfl⟩) (Qy os) ((eL).trans c1) zD ((eL).trans c3) ?_ (fun b o z hb=>by rw[aC (F.far hb).1];exact z) (aE.cS e) rfl h;have c5:=eU.keep (H':=Xt H A.md 8e0) c4 (fun b o z hb=>by rw[aC (fun y=>hb (by rw[y];exact aW.1))];exact z);show eU _ _ _ S.sl;cases hs:S.sl with
 | wait ts=>rw[hs] at c5;obtain⟨a1,a2,a3,a4⟩:=c5;exact⟨(eL).trans a1,(eL).trans a2,a3,a4⟩
 | ended w=>rw[hs] at c5;exact⟨(eL).trans c5.1,(eL).trans c5.2⟩
 | _=>rw[hs] at c5;exact(eL).trans c5
def hW.md(h:hW H A op cs)(e:H A.md=some (.dK kvs))(kv':List (Key×V)):hW (Xt H A.md (.dK kv')) A op cs:=by
 obtain⟨us,eo,hC,s⟩:=h;exact⟨us,cY e eo,hC.kt (aE.cS e),s⟩
theorem P8(h:Wb st):st.length<=21:=by
 cases st with
 | nil=>simp
 | cons x r=>obtain⟨a,b,c⟩:=x;have:=h.1;simp only[Η];omega
inductive QC(vs:List V)(H:Hp)(Q:VK)(E:XK):Prop
 | mk (P:List Stm) (A:Fa) (S:Pu) (p:Nat) (op:Addr) (N:Nat) (_:vs=[.ref A.md,.ref op]) (_:bR P H A S p) (_:hW H A op []) (_:XE true {S with sl:=.Xu} N) (_:N<=90000) (_:QR P A op H Q [] (dU 300 {S with sl:=.Xu})):QC vs H Q E
def Vb(m:Stm):pD (.str m.kw) [.str "if",.str "while"]=m.isB:=by
 cases m<;>simp[pD,nB,Stm.kw,Stm.isB,cG]
def Vd(m:Stm):(m.kw=("wait":Str))=(∃ x ss,m=.wait x ss):=by
 cases m<;>simp[Stm.kw,cG]
def Va(m:Stm):(m.kw=("hear":Str))=(∃ x k,m=.Xy x k):=by
 cases m<;>simp[Stm.kw,cG]
def U9(m:Stm):(m.kw=("end":Str))=(∃ s,m=.fin s):=by
 cases m<;>simp[Stm.kw,cG]
def LN(h:m.Dq=true)(g:m.gd true):m.gd false:=by
 cases m<;>first|exact g|cases h
def Fm.mono{E:List Addr}{A':Fa}(x:Fm D A A' H H')(h:∀ a∈D,a∈E:=by simp):Fm E A A' H H':=⟨fun b o e h1 h2=>x.kp b o e h1 fun z=>h2 (h b z),x.st,x.nw,x.m1,x.nk,x.na⟩
def Fm.to{A':Fa}(x:Fm D A A' H H')(n:Nat):Fm D {A with nk:=n} {A' with nk:=n} H H':=⟨x.kp,x.st,x.nw,x.m1,rfl,x.na⟩
def Fm.eta{A':Fa}(x:Fm D A A' H H'):Fm D A {A' with nk:=A.nk} H H':=⟨x.kp,x.st,x.nw,x.m1,rfl,x.na⟩
def hW.fm{A':Fa}(O:hW H A op cs)(F:bR P H A S p)(W:Fm [] A A' H H'):hW H' A' op cs:=by
 obtain⟨us,eo,hC,s1,s2,s3⟩:=O;have T:=F.tkp (W.mono (E:=[op]) 6e0) eo;refine⟨us,W.kp _ _ eo s1 6e0,hC.kt T,fun z=>?_,by rw[W.m1.2.1];exact s2,by rw[W.m1.2.2];exact s3⟩;rcases W.nw op z with z|z
 ·exact s1 z
 ·rw[z] at eo;cases eo
def Qx(h:(∃ x ss,m=.wait x ss)\/∃ x k,m=.Xy x k):(one S m).2=[]:=by
 rcases h with⟨x,ss,rfl⟩|⟨x,k,rfl⟩
 ·rw[kN rfl];simp only[bV];split<;>rfl
 ·rw[kN rfl];simp only[bV];split<;>rfl
def Hu:one S (.fin s)=S.ends 5e0:=by
 rw[kN rfl];rfl
def Mv(h:m.Dq=true)(n:S.sl=.Xu):one S m=((bV S m).1.pass,(bV S m).2):=by
 have hb:m.isB=false:=by cases m<;>first|rfl|cases h
 rw[kN hb,if_pos (by rw[(GU h).1,n];rfl)]
def vR:one S (.XM s b)=(if num 5e0=0 then S.pass else S.enter 0 b,[]):=by rw[DN rfl];rfl
def vQ{o:List Stm}:one S (.iff s b o)=(if num 5e0=0 then S.enter 1 o else S.enter 0 b,[]):=by rw[DN rfl];rfl
def Vo(h1:¬ m.isB=true)(h2:¬ ∃ x ss,m=.wait x ss)(h3:¬ ∃ x k,m=.Xy x k)(h4:¬ ∃ s,m=.fin s):m.Dq=true:=by
 cases m<;>first|rfl|exact absurd rfl h1|exact absurd ⟨_,_,rfl⟩ h2|exact absurd ⟨_,_,rfl⟩ h3|exact absurd ⟨_,rfl⟩ h4
def bR.Vy(F:bR P H A S p)(x:Str)(w:Wo):bR P (Xt H A.nd (.dK (fF (cD S.nm x w)))) A {S with nm:=cD S.nm x w} p:=by
 obtain⟨ot,M,os,c1,c2,c3,c4⟩:=F.ex;exact F.pV (M.name x w) os c1 c2 c3 (c4.keep fun b o z hb=>by rw[aC (fun y=>hb (by rw[y];exact aW.2.1))];exact z) (fun b o z hb=>by rw[aC (F.far hb).2.1];exact z) 2e1 rfl F.ps
def hW.nd(h:hW H A op cs)(F:bR P H A S p)(kv':List (Key×V)):hW (Xt H A.nd (.dK kv')) A op cs:=by
 obtain⟨us,eo,hC,s⟩:=h;obtain⟨ot,M,_⟩:=F.ex;exact⟨us,cY M.hn eo,hC.kt 2e1,s⟩
inductive MX(vs:List V)(H:Hp)(Q:VK)(E:XK):Prop
 | mk (P:List Stm) (A:Fa) (S:Pu) (p:Nat) (w:Wo) (op:Addr) (N:Nat) (_:vs=[.ref A.md,wv w,.ref op]) (_:bR P H A S p) (_:hW H A op []) (_:XE true S N) (_:N<=80000) (_:eC w) (_:((∃ k,S.sl=.Xy k)\/∃ ts,S.sl=.wait ts)) (_:QR P A op H Q [] (S.wake w)):MX vs H Q E
def Qf(F:XE wt S N)(h:(∃ k,S.sl=.Xy k)\/∃ ts,S.sl=.wait ts):∃ x m,bL S.stk=some m/\m.isB=false/\(∀(H:Hp) v,cJ H v m->∃ a kw xs,v=.ref a/\H a=some (.tup (.str kw::.str x::xs)))/\∀ w,S.wake w=dU 300 {S with nm:=cD S.nm x w,stk:=fP S.stk,sl:=.Xu}:=by
 rcases h with⟨k,hk⟩|⟨ts,hk⟩
 ·obtain⟨x,XI⟩:=F.sl.1 k hk;exact⟨x,_,XI,rfl,fun H v h=>by cases h with|Xy e=>exact⟨_,_,_,rfl,e⟩,fun w=>by simp only[Pu.wake,XI]⟩
 ·obtain⟨x,ss,XI⟩:=F.sl.2 ts hk;exact⟨x,_,XI,rfl,fun H v h=>by cases h with|wait e _ _=>exact⟨_,_,_,rfl,e⟩,fun w=>by simp only[Pu.wake,XI]⟩
structure Std(S:Pu):Prop where
 nw:S.sl=.new->S.nw=0/\S.pend=[]
 en:∀ w,S.sl=.ended w->S.pend=[]
 wo:S.sl=.worn->S.pend=[]
 he:∀ k,S.sl=.Xy k->(aS S.lt k).getD []=[]
 wt:∀ ts,S.sl=.wait ts->∃ x ss,bL S.stk=some 3e1/\ts.length<=ss.length
theorem Dp(i:Int):∀ l:List Int,(yA i l).length<=l.length+1
 | []=>by simp[yA]
 | j::r=>by
  have:=Dp i r;simp only[yA];split
  ·simp
  ·split
   ·simp
   ·simp only[Η];omega
theorem qJ(pend:List Int):∀ ws:List Wo,(bM pend ws).length<=ws.length
 | []=>by simp[bM]
 | none::r=>by have:=qJ pend r;simp only[bM,Η];omega
 | some i::r=>by
  have:=qJ pend r;have:=Dp i (bM pend r);simp only[bM,Η];split<;>omega
def Ib(b:List Stm):Std (fH b):=⟨fun _=>⟨rfl,rfl⟩,0e0,1e0,0e0,0e0⟩
def Aa(S:Pu)(w:Wo):Std (S.ends w).1:=⟨1e0,fun _ _=>rfl,1e0,0e0,0e0⟩
def P5(st:bL S.stk=some m)(n:S.sl=.Xu)(h:¬ (one S m).1.sl.isN=true):Std (one S m).1:=by
 by_cases hb:m.isB=true
 ·exfalso;apply h;rw[DN hb];cases m<;>first|(simp only[uG];split<;>(show S.sl.isN=true;rw[n];rfl))|cases hb
 ·rw[kN (by simpa using hb)] at h ⊢;by_cases hd:(bV S m).1.sl.isN=true
  ·exfalso;apply h;rw[if_pos hd];exact hd
  ·rw[if_neg hd];cases m with
   | Xy x k =>
    simp only[bV] at hd ⊢;split
    ·next e=>rw[e] at hd;exact absurd 4e0 hd
    ·next e=>exact⟨1e0,0e0,1e0,fun k' hk=>by cases hk;exact e,0e0⟩
   | wait x ss =>
    simp only[bV] at hd ⊢;split
    ·exact⟨1e0,0e0,1e0,0e0,fun ts hts=>by
      cases hts;refine⟨x,ss,st,?_⟩;have:=qJ S.pend (ss.map S.worth);rw[Γ] at this;exact this⟩
    ·next e=>rw[if_neg e] at hd;exact absurd 4e0 hd
   | fin s=>exact Aa S _
   | drop s =>
    exfalso;apply hd;simp only[bV];split
    ·split<;>(show S.sl.isN=true;rw[n];rfl)
    ·show S.sl.isN=true;rw[n];rfl
   | XM _ _=>exact absurd rfl hb
   | iff _ _ _=>exact absurd rfl hb
   | _=>exact absurd 4e0 hd
theorem rF:∀(n:Nat) (S:Pu),S.sl=.Xu->Std (dU n S).1
 | 0,S,h=>by
  cases e:bL S.bC.stk with
  | none=>rw[rC e];exact Aa _ _
  | some m=>rw[AZ e];exact⟨1e0,0e0,fun _=>rfl,0e0,0e0⟩
 | n+1,S,h=>by
  cases e:bL S.bC.stk with
  | none=>rw[rC e];exact Aa _ _
  | some m =>
   rw[AY e];split
   ·next hn=>exact rF n _ (oU hn)
   ·next hn=>exact P5 e h hn
def Et(h:Std S)(w:Wo):Std (S.wake w).1:=by
 unfold Pu.wake;split
 ·exact rF _ _ rfl
 ·exact rF _ _ rfl
 ·exact h
def yG(l:List 2e0)(k:Str)(w:Wo)(j:Str):(aS (fI l k w) j).getD []=if j=k then (aS l k).getD []++[w] else (aS l j).getD []:=by
 unfold fI;cases e:aS l k with
 | some ws =>
  simp only;rw[lZ];by_cases hj:j=k
  ·rw[if_pos hj,if_pos hj,e];rfl
  ·rw[if_neg hj,if_neg hj]
 | none =>
  simp only;have app:∀(l:List 2e0),aS (l++[(k,[w])]) j=match aS l j with|some v=>some v|none=>if k=j then some [w] else none:=fun l=>by
   induction l with
   | nil=>simp[aS]
   | cons x r ih =>
    simp only[Ψ,aS];split
    ·rfl
    ·exact ih
  rw[app];by_cases hj:j=k
  ·subst hj;rw[e];simp
  ·rw[if_neg hj];cases aS l j with
   | some v=>rfl
   | none=>simp only;rw[if_neg (fun z:k=j=>hj z.symm)]
def Es{ts:List Int}(h:S.sl=.wait ts)(w:∃ x ss,bL S.stk=some 3e1/\ts.length<=ss.length):Std S:=by
 refine⟨fun z=>?_,fun _ z=>?_,fun z=>?_,fun _ z=>?_,fun j z=>?_⟩
 ·rw[h] at z;cases z
 ·rw[h] at z;cases z
 ·rw[h] at z;cases z
 ·rw[h] at z;cases z
 ·rw[h] at z;cases z;exact w
def Ab(h:S.sl=.Xy k)(e:(aS S.lt k).getD []=[]):Std S:=by
 refine⟨fun z=>?_,fun _ z=>?_,fun z=>?_,fun j z=>?_,fun _ z=>?_⟩
 ·rw[h] at z;cases z
 ·rw[h] at z;cases z
 ·rw[h] at z;cases z
 ·rw[h] at z;cases z;exact e
 ·rw[h] at z;cases z
def Er(s:Std S)(n:S.sl.isN=false)(h:Hap):Std (S.take h).1:=by
 unfold Pu.take;split
 ·exact s
 ·next ho =>
  cases h with
  | X3 m w=>exact rF _ _ rfl
  | don m i w =>
   cases hs:S.sl with
   | wait ts =>
    have sd:Std ((S.at' m).done i w):=Es (show((S.at' m).done i w).sl=.wait ts from hs) 0e1;simp only[Pu.eZ,show(S.at' m).sl=S.sl from rfl,hs];split
    ·exact Et sd _
    ·exact sd
   | Xy k =>
    simp only[Pu.eZ,show(S.at' m).sl=S.sl from rfl,hs];exact Ab (show((S.at' m).done i w).sl=.Xy k from hs) (s.he k hs)
   | Xu=>rw[hs] at n;cases n
   | new=>simp[Pu.over,hs] at ho
   | ended w'=>simp[Pu.over,hs] at ho
   | worn=>simp[Pu.over,hs] at ho
  | ltr m k w =>
   cases hs:S.sl with
   | wait ts =>
    simp only[Pu.eT,show(S.at' m).sl=S.sl from rfl,hs];exact Es rfl 0e1
   | Xy k' =>
    simp only[Pu.eT,show(S.at' m).sl=S.sl from rfl,hs];split
    ·exact Et (Ab (show(S.at' m).sl=.Xy k' from hs) (s.he k' hs)) _
    ·next hk =>
     refine Ab rfl ?_;show(aS (fI S.lt k w) k').getD []=[];rw[yG,if_neg hk];exact s.he k' hs
   | Xu=>rw[hs] at n;cases n
   | new=>simp[Pu.over,hs] at ho
   | ended w'=>simp[Pu.over,hs] at ho
   | worn=>simp[Pu.over,hs] at ho
end
section
mutual
example:=[(c4.keep fun b o z hb=>by rw[aC (fun y=>hb (by rw[y];exact aW.1))];exact z),(fun b o z hb=>by rw[aC (F.far hb).1];exact z),Xt H A.dd (.lst (ds++[.ref t]))]
def bR.MS(F:bR P H A S p)(e:H A.md=some (.dK kvs))(m:Int):bR P (Xt H A.md (.dK (aR kvs (.inr "now") (.int m)))) A {S with nw:=m} p:=by
 obtain⟨ot,M,os,c1,c2,c3,c4⟩:=F.ex;exact F.pV (M.now e m) os c1 c2 c3 0e0 1e0 (aE.cS e) rfl F.ps
def bR.Vw(F:bR P H A S p)(e:H A.md=some (.dK kvs))(w:Wo):bR P (Xt H A.md (.dK (aR kvs (.inr "arg") (wv w)))) A {S with ar:=w} p:=by
 obtain⟨ot,M,os,c1,c2,c3,c4⟩:=F.ex;exact F.pV (M.arg e w) os c1 c2 c3 0e0 1e0 (aE.cS e) rfl F.ps
def bR.Vz(F:bR P H A S p)(a:pd.Pairwise (· < ·))(b:∀ i∈pd,0<=i/\i < S.made)(c:∀ q∈S.ans,q.1∉pd):bR P (Xt H A.od (.lst (pd.map V.int))) A {S with pend:=pd} p:=by
 obtain⟨ot,M,os,c1,c2,c3,c4⟩:=F.ex;exact F.pV (M.open a b c) os c1 c2 c3 (c4.keep fun b o z hb=>by rw[aC (fun y=>hb (by rw[y];exact aW.2.2.1))];exact z) (fun b o z hb=>by rw[aC (F.far hb).2.2.1];exact z) (aE.cS M.ho) rfl F.ps
def bR.QT(F:bR P H A S p)(e:H A.dd=some (.lst ds)){t:Addr}(et:H t=some (.tup [.int i,wv w]))(n1:i∉S.ans.map (·.1))(n2:i∉S.pend)(n3:i < S.made):bR P 2e0 A {S with ans:=S.ans++[(i,w)]} p:=by
 obtain⟨ot,M,os,c1,c2,c3,c4⟩:=F.ex;obtain⟨kv,e',r⟩:=M.hm;obtain⟨ds',e2,r2⟩:=M.hd;rw[e] at e2;cases e2;have T:aE H 2e0:=aE.cS e;refine F.pV (ot':=ot) ⟨⟨kv,cY e e',r⟩,cY e M.hn,by rw[aC M.n2];exact M.ho,⟨_,aA,(r2.snoc et).kt T⟩,M.n1,M.n2,M.asc,M.lt,?_,?_⟩ os c1 c2 c3 (c4.keep fun b o z hb=>by rw[aC (fun y=>hb (by rw[y];exact aW.2.2.2.1))];exact z) (fun b o z hb=>by rw[aC (F.far hb).2.2.2];exact z) T rfl F.ps
 ·show((S.ans++[(i,w)]).map (·.1)).Nodup;rw[Α2];exact ϛ.mpr ⟨M.uq,by simp,fun x hx y hy z=>n1 (by rw[show y=i by simpa using hy] at z;rw[<- z];exact hx)⟩
 ·intro q hq;rcases Κ.mp hq with hq|hq
  ·exact M.dis q hq
  ·rw[show q=(i,w) by simpa using hq];exact⟨n2,n3⟩
def hW.put{b:Addr}{u:HO}(h:hW H A op cs)(e:H b=some o)(hb:b∈A.mut)(d:∀ xs,o≠.tup xs):hW (Xt H b u) A op cs:=by
 obtain⟨us,eo,hC,s⟩:=h;exact⟨us,by rw[aC (fun z=>s.1 (by rw[z];exact hb))];exact eo,hC.kt (aE.cS e d),s⟩
end
end
mutual
example:=[(by omega),(fun _ z=>by cases z),N+302,(by simp[y]),(0<=h.m/\h.m<=1000000000000),.ref l2,.inr k,aR kvs (.inr k) (.ref l2),.inr (.inr (.inr rfl)),.lst (ws.map wv),.inr (.inl rfl),F2.wake e hi _,F1.wake e hw _,Str×List Wo,(by cases e)]
def fZ.keys(h:fZ H kvs as lt):kvs.map (·.1)=lt.map fun p=>Key.inr p.1:=by
 induction h with
 | nil=>rfl
 | cons _ _ ih=>simp[ih]
def fZ.MQ{l2:Addr}(e2:H l2=some 9e0)(h:fZ H kvs as lt):(lt.map (·.1)).Nodup->as.Nodup->l2∉as->(∃ v,aS lt k=some v)->∃ XU,fZ H (kvs.map fun kv=>if kv.1=.inr k then (kv.1,.ref l2) else kv) XU (dH lt k ws)/\XU.Nodup/\(∀ a∈XU,a=l2\/a∈as)/\l2∈XU:=by
 induction h with
 | nil=>intro _ _ _ ⟨v,z⟩;simp[aS] at z
 | @cons a j vs kvs as lt e hr ih =>
  intro nk na n2 ⟨v,z⟩;rw[ϔ,Ϙ] at nk;rw[Ϙ] at na;by_cases hj:j=k
  ·subst hj;have same:(kvs.map fun kv=>if kv.1=.inr j then (kv.1,.ref l2) else kv)=kvs:=by
    conv=>rhs;rw[<- List.map_id kvs]
    refine List.map_congr_left fun kv hkv=>?_;have:kv.1∈kvs.map (·.1):=List.mem_map_of_mem hkv;rw[hr.keys] at this;obtain⟨q,hq,eq⟩:=Α9.mp this;have:¬ kv.1=.inr j:=fun y=>nk.1 (by
     rw[<- eq] at y;cases y;exact Α9.mpr ⟨q,hq,rfl⟩)
    simp[this]
   refine⟨l2::as,?_,Ϙ.mpr ⟨fun y=>n2 3e0,na.2⟩,fun b hb=>?_,by simp⟩
   ·rw[ϔ,same,dH,if_pos rfl,if_pos rfl];exact .cons e2 hr
   ·rcases Α.mp hb with hb|hb
    ·exact .inl hb
    ·exact .inr (by simp[hb])
  ·obtain⟨XU,h1,h2,h3,h4⟩:=ih nk.2 na.2 (fun y=>n2 3e0) ⟨v,by simpa[aS,hj] using z⟩;refine⟨a::XU,?_,Ϙ.mpr ⟨fun y=>?_,h2⟩,fun b hb=>?_,by simp[h4]⟩
   ·rw[ϔ,if_neg (fun y=>hj (Key.inr.inj y)),dH,if_neg hj];exact .cons e h1
   ·rcases h3 a y with y|y
    ·exact n2 3e0
    ·exact na.1 y
   ·rcases Α.mp hb with rfl|hb
    ·exact .inr (by simp)
    ·rcases h3 b hb with y|y
     ·exact .inl y
     ·exact .inr 3e0
def fZ.WR{l2:Addr}(e2:H l2=some 9e0)(h:fZ H kvs as lt)(nk:(lt.map (·.1)).Nodup)(na:as.Nodup)(n2:l2∉as):∃ XU lt',fZ H 7e0 XU lt'/\(lt'.map (·.1)).Nodup/\XU.Nodup/\(∀ a∈XU,a=l2\/a∈as)/\l2∈XU/\bA 7e0 6e0=some 5e0/\∀ j,(aS lt' j).getD []=if j=k then ws else (aS lt j).getD []:=by
 rcases h.look k with⟨z1,z2⟩|⟨a,vs,z1,z2,z3,z4⟩
 ·refine⟨as++[l2],lt++[(k,ws)],?_,?_,ϛ.mpr ⟨na,by simp,fun x hx y hy z=>n2 (by rw[show y=l2 by simpa using hy] at z;rw[<- z];exact hx)⟩,fun a ha=>(Κ.mp ha).elim .inr (fun y=>.inl (by simpa using y)),by simp,VM,fun j=>?_⟩
  ·have:aR kvs 6e0 5e0=kvs++[(.inr k,.ref l2)]:=by
    unfold aR;rw[iJ,z1];simp
   rw[this];exact h.snoc e2
  ·rw[Α2];refine ϛ.mpr ⟨nk,by simp,fun x hx y hy z=>?_⟩;obtain⟨q,hq,e⟩:=Α9.mp hx;have:∀(l:List 3e1),q∈l->aS l k≠none:=fun l=>by
    induction l with
    | nil=>simp
    | cons u r ih =>
     intro hu;rcases Α.mp hu with rfl|hu
     ·simp[aS,e,z,show y=k by simpa using hy]
     ·simp only[aS];split
      ·simp
      ·exact ih hu
   exact this lt hq z2
  ·have app:∀(l:List 3e1),aS (l++[(k,ws)]) j=match aS l j with|some v=>some v|none=>if k=j then some ws else none:=fun l=>by
    induction l with
    | nil=>simp[aS]
    | cons x r ih =>
     simp only[Ψ,aS];split
     ·rfl
     ·exact ih
   rw[app];by_cases hj:j=k
   ·subst hj;rw[z2];simp
   ·rw[if_neg hj];cases aS lt j with
    | some v=>rfl
    | none=>simp only;rw[if_neg (fun z:k=j=>hj z.symm)]
 ·obtain⟨XU,h1,h2,h3,h4⟩:=h.MQ e2 nk na n2 ⟨vs,z2⟩;refine⟨XU,dH lt k ws,?_,by rw[o9];exact nk,h2,h3,h4,VM,fun j=>?_⟩
  ·have:aR kvs 6e0 5e0=kvs.map fun kv=>if kv.1=.inr k then (kv.1,.ref l2) else kv:=by
    unfold aR;rw[iJ,z1];simp
   rw[this];exact h1
  ·rw[lZ];by_cases hj:j=k
   ·rw[if_pos hj,if_pos hj,z2];rfl
   ·rw[if_neg hj,if_neg hj]
def PH{k:Key}{x:V}:(aR kvs k x).length<=kvs.length+1:=by
 unfold aR;split<;>simp
def cU.Qt{md nd od:Addr}(M:cU H md nd od dd ot S)(k:∀ a o,H a=some o->a=md\/a=nd\/a=od\/a=dd->H' a=some o)(T:aE H H'):cU H' md nd od dd ot S:=by
 obtain⟨kvs,e,r⟩:=M.hm;obtain⟨ds,e2,r2⟩:=M.hd;exact {M with hm:=⟨kvs,k _ _ e (.inl rfl),r⟩,hn:=k _ _ M.hn 0e1,ho:=k _ _ M.ho (.inr 0e1),hd:=⟨ds,k _ _ e2 8e0,r2.kt T⟩}
def eU.las{s:Slp}(h:eU H A ot s){las:List Addr}(hl:∀ a∈las,a∈A.las\/H a=none)(k:∀ b o,H b=some o->b∉A.mut->H' b=some o):eU H' {A with las:=las,nk:=n} ot s:=by
 cases s with
 | wait ts =>
  obtain⟨h1,h2,h3,h4⟩:=h;refine⟨h1,h2,k _ _ h3 h4,fun z=>?_⟩;simp only[Fa.mut,Κ,Α,Δ,Υ,not_or] at h4 z;rcases z with z|z
  ·rcases z with z|z|z|z|z
   ·exact h4.1.1 z
   ·exact h4.1.2.1 z
   ·exact h4.1.2.2.1 z
   ·exact h4.1.2.2.2.1 z
   ·exact h4.1.2.2.2.2 z
  ·rcases hl A.aw z with z|z
   ·exact h4.2 z
   ·rw[z] at h3;cases h3
 | _=>exact h
def Ho{las:List Addr}{b:Addr}(h:b∈({A with las:=las,nk:=n}:Fa).mut):b∈A.mut\/b∈las:=by
 simp only[Fa.mut,Κ,Α,Δ,Υ] at h ⊢;rcases h with h|h
 ·exact .inl (.inl h)
 ·exact .inr h
inductive Ej(vs:List V)(H:Hp)(Q:VK)(E:XK):Prop
 | mk (P:List Stm) (A:Fa) (S:Pu) (p:Nat) (v:V) (h:Hap) (N:Nat) (_:vs=[.ref A.md,v]) (_:bR P H A S p) (_:mU H v h) (_:(4e0/\eC h.w)) (_:XE true S N) (_:N<=70000) (_:S.sl.isN=false) (_:Std S) (_:A.nk<=1000) (_:∀(A':Fa) (p':Nat) (op:Addr) (us:List V) (H':Hp),bR P H' A' (S.take h).1 p'->H op=none->H' op=some (.lst us)->iL H' us (S.take h).2->op∉A'.mut->Fm [] A {A' with nk:=A.nk} H H'->A'.nk<=A.nk+1->Q (.ref op) H'):Ej vs H Q E
def Slp.wh:Slp->Bool
 | .wait _=>true
 | .Xy _=>true
 | _=>false
def Vh(s:Slp):pD (.str s.md) [.str "wait",.str "hear"]=s.wh:=by
 rw[Ε3];cases s<;>simp[pD,nB,Slp.md,Slp.wh,cG]
def V6{s:Slp}(h:s.wh=true):(∃ k,s=.Xy k)\/∃ ts,s=.wait ts:=by
 cases s<;>first|exact .inl ⟨_,rfl⟩|exact .inr ⟨_,rfl⟩|cases h
def yK(s:Slp):(s.md=("new":Str))=(s=.new):=by
 cases s<;>simp[Slp.md,cG]
def Hr(s:Slp):(s.md=("hear":Str))=(∃ k,s=.Xy k):=by
 cases s<;>simp[Slp.md,cG]
inductive Nb(vs:List V)(H:Hp)(Q:VK)(E:XK):Prop
 | mk (P:List Stm) (A:Fa) (S:Pu) (p r n N:Nat) (_:vs=[.ref r,.ref A.md]) (_:bR P H A S p) (_:XE true S N) (_:N<=90000) (_:bO H r n) (_:n<=200) (_:r∉A.mut) (_:r≠A.cl) (_:r∉A.cs) (_:∀(v:V) (h:Hap) (n':Nat) (H':Hp),mU H' v h->(4e0/\eC h.w)->bO H' r n'->n'<=n+20->Kp [r] H H'->Q v H'):Nb vs H Q E
def XE.slp(F:XE wt S N)(x:Slp)(h1:∀ k,x≠.Xy k)(h2:∀ ts,x≠.wait ts):XE wt {S with sl:=x,pend:=[]} N :=
 ⟨F.nm,F.md,Α4 _,F.an,F.lt,F.lw,F.pl,F.nw,F.sk,fun k e=>absurd e (h1 k),fun ts e=>absurd e (h2 ts)⟩
theorem kU{wt:Bool}:∀(n:Nat) {S:Pu} {N:Nat},XE wt S N->S.sl=.Xu->N+n<=900000->XE wt (dU n S).1 (N+n)
 | 0,S,N,F,h,_=>by
  cases e:bL S.bC.stk with
  | none=>rw[eJ e];exact(F.bC h).slp _ 1e0 1e0
  | some m=>rw[jQ e];exact(F.bC h).slp _ 1e0 1e0
 | n+1,S,N,F,h,hN=>by
  cases e:bL S.bC.stk with
  | none=>rw[eJ e];exact((F.bC h).slp _ 1e0 1e0).more 0e0
  | some m =>
   have F1:=(F.bC h).one e h 0e0;cases z:(one S.bC m).1.sl.isN with
   | true =>
    rw[oT e z];exact(kU n F1 (oU z) 0e0).more 0e0
   | false=>rw[jP e z];exact F1.more 0e0
theorem XE.Qc(F:XE wt S N){m:Int}(hm:0<=m/\m<=1000000000000)(hw:eC w)(hi:eC (some i))(hN:N<=800000):XE wt (S.take (.don m i w)).1 2e0:=by
 have F1:=F.at' hm;have F2:=F1.done (i:=i) hw;unfold Pu.take;split
 ·exact F.more 0e0
 show XE wt ((S.at' m).eZ i w).1 2e0;unfold Pu.eZ;split
 ·split
  ·unfold Pu.wake;split
   ·next e=>exact(kU 300 1e1 rfl 0e0).more 0e0
   ·next e=>exact(kU 300 1e1 rfl 0e0).more 0e0
   ·exact F2.more 0e0
  ·exact F2.more 0e0
 ·exact F2.more 0e0
theorem XE.Il(F:XE wt S N)(h:Hap)(hm:0<=h.m/\h.m<=1000000000000)(hw:eC h.w)(hi:∀ i∈S.pend,eC (some i))(hN:N<=800000):XE wt (S.take h).1 2e0:=by
 cases h with
 | X3 m w =>
  unfold Pu.take;split
  ·exact F.more 0e0
  have F1:=F.at' hm;have F2:XE wt {S with nw:=later S.nw m,ar:=w,sl:=.Xu} N:=⟨F1.nm,F1.md,F1.pd,F1.an,F1.lt,F1.lw,⟨F1.pl.nm,hw,F1.pl.an⟩,F1.nw,F1.sk,fun k e=>4e1,fun k e=>4e1⟩;exact(kU 300 F2 rfl 0e0).more 0e0
 | don m i w =>
  by_cases hp:i∈S.pend
  ·exact F.Qc hm hw (hi i hp) hN
  ·have F1:=F.at' hm;unfold Pu.take;split
   ·exact F.more 0e0
   ·next ho =>
    have F2:=F1.done (i:=i) hw;show XE wt ((S.at' m).eZ i w).1 2e0;exfalso;refine ho ?_;unfold Pu.over;cases S.sl<;>simp[hp]
 | ltr m k w =>
  have F1:=F.at' hm;unfold Pu.take;split
  ·exact F.more 0e0
  show XE wt ((S.at' m).eT k w).1 2e0;unfold Pu.eT;split
  ·split
   ·unfold Pu.wake;split
    ·next e=>exact(kU 300 2e1 rfl 0e0).more 0e0
    ·next e=>exact(kU 300 2e1 rfl 0e0).more 0e0
    ·exact F1.more 0e0
   ·exact(F1.fI hw).more 0e0
  ·exact(F1.fI hw).more 0e0
inductive fY(H:Hp):List V->List Hap->Prop
 | nil:fY H [] []
 | cons {v:V} {vs:List V} {h:Hap} {hs:List Hap}:mU H v h->fY H vs hs->fY H (v::vs) (h::hs)
def x8{h:Hap}(x:mU H v h)(k:aE H H'):mU H' v h:=by
 obtain⟨a,e,f⟩:=x;exact⟨a,e,k _ _ f⟩
def fY.kt(h:fY H vs hs)(k:aE H H'):fY H' vs hs:=by
 induction h with
 | nil=>exact .nil
 | cons a _ ih=>exact .cons (x8 a k) ih
def fY.len(h:fY H vs hs):vs.length=hs.length:=by
 induction h with
 | nil=>rfl
 | cons _ _ ih=>simp[ih]
theorem rD:∀(n:Nat) (S:Pu),(dU n S).1.sl.isN=false
 | 0,S=>by
  cases e:bL S.bC.stk with
  | none=>rw[eJ e];rfl
  | some m=>rw[jQ e];rfl
 | n+1,S=>by
  cases e:bL S.bC.stk with
  | none=>rw[eJ e];rfl
  | some m =>
   cases z:(one S.bC m).1.sl.isN with
   | true=>rw[oT e z];exact rD n _
   | false=>rw[jP e z];exact z
def EB(h:S.sl.isN=false)(w:Wo):(S.wake w).1.sl.isN=false:=by
 unfold Pu.wake;split
 ·exact rD _ _
 ·exact rD _ _
 ·exact h
def Ey(h:S.sl.isN=false)(x:Hap):(S.take x).1.sl.isN=false:=by
 unfold Pu.take;split
 ·exact h
 cases x with
 | X3 m w=>exact rD _ _
 | don m i w =>
  show((S.at' m).eZ i w).1.sl.isN=false;unfold Pu.eZ;split
  ·split
   ·exact EB (show((S.at' m).done i w).sl.isN=false from h) _
   ·exact h
  ·exact h
 | ltr m k w =>
  show((S.at' m).eT k w).1.sl.isN=false;unfold Pu.eT;split
  ·split
   ·exact EB (show(S.at' m).sl.isN=false from h) _
   ·exact h
  ·exact h
def takes:Pu->List Hap->Pu×List Cmds
 | S,[]=>(S,[])
 | S,h::r=>((takes (S.take h).1 r).1,(S.take h).2::(takes (S.take h).1 r).2)
theorem qM(h:Hap):∀(l:List Hap) (S:Pu),takes S (l++[h])=(((takes S l).1.take h).1,(takes S l).2++[((takes S l).1.take h).2])
 | [],S=>by simp[takes]
 | x::l,S=>by
  have:=qM h l (S.take x).1;simp only[Ψ,takes,this]
def fY.hE(h:fY H vs hs):∀ {i:Nat} {v:V},vs[i]?=some v->∃ x,hs[i]?=some x/\mU H v x:=by
 induction h with
 | nil=>intro i v e;simp at e
 | cons a _ ih =>
  intro i v e;cases i with
  | zero=>simp only[Ξ,Ρ] at e;subst e;exact⟨_,rfl,a⟩
  | succ i=>exact ih (by simpa using e)
def fY.snoc{h:Hap}(x:fY H vs hs)(a:mU H v h):fY H (vs++[v]) (hs++[h]):=by
 induction x with
 | nil=>exact .cons a .nil
 | cons b _ ih=>exact .cons b ih
def bR.oth(F:bR P H A S p)(e:H op=some (.lst us))(s1:op∉A.mut)(s2:op≠A.cl)(s3:op∉A.cs)(hw:∀ ts:List Int,S.sl=.wait ts->us≠ts.map V.int):bR P (Xt H op (.lst vs)) A S p:=by
 obtain⟨ot,M,os,c1,c2,c3,c4⟩:=F.ex;refine F.pV (M.other e (fun z=>s1 (by rw[z];exact aW.2.2.1)) (fun z=>s1 (by rw[z];exact aW.2.2.2.1))) os c1 c2 c3 ?_ (fun b o z hb=>by rw[aC (F.Hc s1 s2 s3 hb).2.2.2.2];exact z) (aE.cS e) rfl F.ps;cases hs:S.sl with
 | wait ts =>
  rw[hs] at c4;obtain⟨h1,h2,h3,h4⟩:=c4;refine⟨h1,h2,?_,h4⟩;rw[aC (fun z=>by
   rw[z,e] at h3;cases h3;exact hw ts hs rfl)]
  exact h3
 | _=>rw[hs] at c4;exact c4
def bR.kind(F:bR P H A S p){b:Addr}(hb:b∈A.mut):∃ o,H b=some o/\∀ c d fs,o≠.ins c d fs:=by
 obtain⟨ot,M,_⟩:=F.ex;obtain⟨kvs,em,_⟩:=M.hm;obtain⟨ds,ed,_⟩:=M.hd;obtain⟨lk,ml,el,hl,_⟩:=F.lt;simp only[Fa.mut,Κ,Α,Δ,Υ] at hb;rcases hb with(rfl|rfl|rfl|rfl|rfl)|hb
 ·exact⟨_,em,fun _ _ _ z=>by cases z⟩
 ·exact⟨_,M.hn,fun _ _ _ z=>by cases z⟩
 ·exact⟨_,M.ho,fun _ _ _ z=>by cases z⟩
 ·exact⟨_,ed,fun _ _ _ z=>by cases z⟩
 ·exact⟨_,el,fun _ _ _ z=>by cases z⟩
 ·obtain⟨xs,e⟩:=hl.ex b hb;exact⟨_,e,fun _ _ _ z=>by cases z⟩
def bR.U6(F:bR P H A S p)(k:∀ b o,H b=some o->(b∈A.mut\/b=A.cl\/b∈A.cs\/b=A.aw)->H' b=some o)(t:aE H H'):bR P H' A S p:=by
 obtain⟨ot,M,os,c1,c2,c3,c4⟩:=F.ex;refine F.pV (M.Qt (fun a o e h=>k a o e (.inl (by
  rcases h with rfl|rfl|rfl|rfl
  ·exact aW.1
  ·exact aW.2.1
  ·exact aW.2.2.1
  ·exact aW.2.2.2.1))) t) os c1 c2 c3 ?_ (fun b o e hb=>k b o e (by
  rcases hb with hb|hb|hb|hb
  ·exact .inr (.inl hb)
  ·exact .inr (.inr (.inl hb))
  ·exact .inl (by rw[hb];exact aW.2.2.2.2)
  ·exact .inl (by simp[Fa.mut,hb]))) t rfl F.ps
 cases hs:S.sl with
 | wait ts =>
  rw[hs] at c4;obtain⟨h1,h2,h3,h4⟩:=c4;exact⟨h1,h2,k _ _ h3 8e0,h4⟩
 | _=>rw[hs] at c4;exact c4
def Ml{hv:List V}(h:fY H hv hs)(n:hs≠[])(ts:List Int):hv≠ts.map V.int:=by
 cases h with
 | nil=>exact absurd rfl n
 | cons a _ =>
  obtain⟨x,rfl,_⟩:=a;cases ts<;>simp
def hap1(h:Hap):h.vs[1]?=some (.int h.m):=by cases h<;>rfl
inductive Ni(vs:List V)(H:Hp)(Q:VK)(E:XK):Prop
 | mk (bp cc:Addr) (us:List V) (b:List Stm) (ms:List Int) (_:vs=[.ref bp,.ref cc]) (_:H bp=some (.tup us)) (_:bX H us b) (_:CJ true b) (_:qB b < 9) (_:cH b<=1000) (_:H cc=some (.lst (ms.map V.int))) (_:ms.length<=63) (_:∀(rl:Addr) (hv:List V) (hs:List Hap) (H':Hp),H' rl=some (.lst hv)->fY H' hv hs->(∀ h∈hs,4e0/\eC h.w)->hs.length<=ms.length->Kp [] H H'->Q (.ref rl) H'):Ni vs H Q E
def gO.HL(h:gO H vs ss)(a:dF H v s):gO H (vs++[v]) (ss++[s]):=by
 induction ss generalizing vs with
 | nil=>cases h;exact .cons a .nil
 | cons x r ih=>cases h with|cons b c=>exact .cons b (ih c)
inductive Nj(vs:List V)(H:Hp)(Q:VK)(E:XK):Prop
 | mk (r:Addr) (n:Nat) (_:vs=[.ref r]) (_:bO H r n) (_:n<=20) (_:∀(v:V) (m:Stm) (H':Hp),cJ H' v m->m.gd true->m.isB=false->Kp [r] H H'->Q v H'):Nj vs H Q E
def OX(h:m.Dq=true)(g:m.gd false):m.gd true:=by
 cases m<;>first|exact g|cases h
def Vn(h:m.Dq=true):m.isB=false:=by cases m<;>first|rfl|cases h
structure Fr where
 hd:Option (Bool×Say)
 b1:List Stm
 b2:Option (List Stm)
end
variable{f:Fr}
structure FC where
 fa:Addr
 f1:Addr
 f2:Option Addr
variable{x:FC×Fr}{I:List (FC×Fr)}
mutual
example:=[FC×Fr,(by simp),(by simp[z]),I++[x],f.b2.getD [],(Xt H fl (.lst (I.map fun x=>.ref x.1.fa))),.lst us,(I++[(x.1,x.2.add (fE y.2 i s))]),fE y.2 i s,x.2.b2.getD [],(by simp[hy]),I++[x]++[y],(Xt H fl (.lst ((L++[((⟨fa,f1,none⟩:FC),(⟨h,[],none⟩:Fr))]).map fun x=>.ref x.1.fa))),(Xt H x.1.fa (.lst [hv,.ref x.1.f1,.ref a])),((I++[x]).map fun x=>V.ref x.1.fa),.lst (us++[v]),Xt H x.1.cur 5e1,(by simp[FC.cells]),.ref x.1.fa]
def FC.cells(c:FC):List Addr:=c.fa::c.f1::c.f2.toList
def FC.cur(c:FC):Addr:=c.f2.getD c.f1
def rv:Option Addr->V
 | none=>.Xu
 | some a=>.ref a
def J3(H:Hp)(v:V):Option (Bool×Say)->Prop
 | none=>v=.Xu
 | some (i,s)=>∃ a sv,v=.ref a/\H a=some (.tup [.str (if i=true then "if" else "while"),sv])/\dF H sv s
def B2At(H:Hp):Option Addr->Option (List Stm)->Prop
 | none,none=>True
 | some a,some b=>∃ us,H a=some 6e0/\bX H us b
 | _,_=>False
def sI(H:Hp)(c:FC)(f:Fr):Prop:=∃ hv YT,H c.fa=some (.lst [hv,.ref c.f1,rv c.f2])/\J3 H hv f.hd/\H c.f1=some (.lst YT)/\bX H YT f.b1/\B2At H c.f2 f.b2
def J3.kt(x:J3 H v h)(t:aE H H'):J3 H' v h:=by
 cases h with
 | none=>exact x
 | some p=>obtain⟨i,s⟩:=p;obtain⟨a,sv,e,e1,e2⟩:=x;exact⟨a,sv,e,t _ _ e1,e2.kp t⟩
def B2At.keep{o:Option Addr}{b:Option (List Stm)}(x:B2At H o b)(k:∀ a∈o.toList,∀ u,H a=some u->H' a=some u)(t:aE H H'):B2At H' o b:=by
 cases o with
 | none=>cases b<;>exact x
 | some a =>
  cases b with
  | none=>exact x
  | some b=>obtain⟨us,e,h⟩:=x;exact⟨us,k a 1e0 _ e,h.kp t⟩
def sI.keep{c:FC}(h:sI H c f)(k:∀ a∈c.cells,∀ o,H a=some o->H' a=some o)(t:aE H H'):sI H' c f:=by
 obtain⟨hv,YT,e1,e2,e3,e4,e5⟩:=h;exact⟨hv,YT,k _ 7e1 _ e1,e2.kt t,k _ 7e1 _ e3,e4.kp t,e5.keep (fun a ha=>k a (by simp[FC.cells] at ha ⊢;exact .inr (.inr ha))) t⟩
def Fr.add(f:Fr)(m:Stm):Fr:=match f.b2 with
 | none=>{f with b1:=f.b1++[m]}
 | some b=>{f with b2:=some (b++[m])}
def bX.HL{ss:List Stm}{s:Stm}(h:bX H vs ss)(a:cJ H v s):bX H (vs++[v]) (ss++[s]):=by
 induction ss generalizing vs with
 | nil=>cases h;exact .cons a .nil
 | cons x r ih=>cases h with|cons b c=>exact .cons b (ih c)
def sI.add{c:FC}(h:sI H c f)(nd:c.cells.Nodup)(hm:cJ H v m):∃ us b,H c.cur=some 6e0/\bX H us b/\(b=f.b1\/f.b2=some b)/\sI (Xt H c.cur 5e1) c (f.add m):=by
 obtain⟨hv,YT,e1,e2,e3,e4,e5⟩:=h;obtain⟨fa,f1,f2⟩:=c;obtain⟨hd,b1,b2⟩:=f;cases f2 with
 | none =>
  cases b2 with
  | some b=>exact e5.elim
  | none =>
   have n1:fa≠f1:=by simp[FC.cells] at nd;exact nd
   have t:aE H (Xt H f1 (.lst (YT++[v]))):=aE.cS e3;exact⟨YT,b1,e3,e4,.inl rfl,hv,YT++[v],(by show Xt H f1 _ fa=_;rw[aC n1];exact e1),e2.kt t,aA,(e4.kp t).HL (hm.kp t),trivial⟩
 | some a =>
  cases b2 with
  | none=>exact e5.elim
  | some b =>
   obtain⟨Zb,e6,e7⟩:=e5;have n1:fa≠a/\f1≠a:=by simp[FC.cells] at nd;exact⟨nd.1.2,nd.2⟩
   have t:aE H (Xt H a (.lst (Zb++[v]))):=aE.cS e6;exact⟨Zb,b,e6,e7,.inr rfl,hv,YT,(by show Xt H a _ fa=_;rw[aC n1.1];exact e1),e2.kt t,(by show Xt H a _ f1=_;rw[aC n1.2];exact e3),e4.kp t,Zb++[v],aA,(e7.kp t).HL (hm.kp t)⟩
def dS(L:List 0e0):List Addr:=L.flatMap fun x=>x.1.cells
structure iX(H:Hp)(fl:Addr)(L:List 0e0):Prop where
 e:H fl=some (.lst (L.map fun x=>.ref x.1.fa))
 fr:∀ x∈L,sI H x.1 x.2
 nd:(fl::dS L).Nodup
def bK(L M:List 0e0):dS (L++M)=dS L++dS M:=by simp[dS]
def bZ(x:FC×Fr):dS [x]=x.1.cells:=by simp[dS]
def mY{L:List 0e0}(h:x∈L)(ha:a∈x.1.cells):a∈dS L:=List.mem_flatMap.mpr ⟨x,h,ha⟩
def iX.keep{L:List 0e0}(F:iX H fl L)(k:∀ a∈fl::dS L,∀ o,H a=some o->H' a=some o)(t:aE H H'):iX H' fl L :=
 ⟨k _ 1e0 _ F.e,fun x hx=>(F.fr x hx).keep (fun a ha=>k a (ϓ _ (mY hx ha))) t,F.nd⟩
def iX.kp{L:List 0e0}(F:iX H fl L)(k:Kp [] H H'):iX H' fl L:=F.keep (fun _ _ _ e=>k.at e) (aE.nil k)
def sI.lst{c:FC}(h:sI H c f):∀ a∈c.cells,∃ xs,H a=some (.lst xs):=by
 obtain⟨hv,YT,e1,e2,e3,e4,e5⟩:=h;intro a ha;simp only[FC.cells,Α] at ha;rcases ha with rfl|rfl|ha
 ·exact⟨_,e1⟩
 ·exact⟨_,e3⟩
 ·cases h2:c.f2 with
  | none=>rw[h2] at ha;simp at ha
  | some b =>
   rw[h2] at ha e5;cases hb:f.b2 with
   | none=>rw[hb] at e5;exact e5.elim
   | some b'=>rw[hb] at e5;obtain⟨us,e,_⟩:=e5;rw[show a=b by simpa using ha];exact⟨_,e⟩
def iX.free{p:Addr}{L:List 0e0}(F:iX H fl L)(h:H p=none):p∉fl::dS L:=fun z=>by
 rcases Α.mp z with rfl|z
 ·rw[F.e] at h;cases h
 ·obtain⟨x,hx,hp⟩:=List.mem_flatMap.mp z;obtain⟨xs,e⟩:=(F.fr x hx).lst p hp;rw[h] at e;cases e
def iX.app(F:iX H fl 3e0)(hm:cJ H v m):∃ us b,H x.1.cur=some 6e0/\bX H us b/\(b=x.2.b1\/x.2.b2=some b)/\x.1.cur∈x.1.cells/\iX 6e1 fl (I++[(x.1,x.2.add m)]):=by
 have nd:=F.nd;rw[bK,bZ,Ϙ,ϛ] at nd;obtain⟨us,b,e1,e2,e3,e4⟩:=(F.fr x 1e0).add nd.2.2.1 hm;have hc:x.1.cur∈x.1.cells:=by
  cases h:x.1.f2<;>simp[FC.cur,FC.cells,h]
 have t:aE H 6e1:=aE.cS e1;refine⟨us,b,e1,e2,e3,hc,⟨?_,fun y hy=>?_,?_⟩⟩
 ·rw[aC (fun z=>nd.1 (by rw[z];simp[hc]))];rw[F.e];simp
 ·rcases Κ.mp hy with hy|hy
  ·refine(F.fr y 0e1).keep (fun a ha o e=>?_) t;rw[aC (fun z=>nd.2.2.2 a (mY hy ha) _ hc z)];exact e
  ·rw[show y=(x.1,x.2.add m) by simpa using hy];exact e4
 ·rw[bK,bZ];exact Ϙ.mpr ⟨nd.1,ϛ.mpr nd.2⟩
def iX.pop(F:iX H fl 3e0):iX 5e0 fl I/\sI 5e0 x.1 x.2:=by
 have nd:=F.nd;rw[bK,bZ,Ϙ,ϛ] at nd;have t:aE H 5e0:=aE.cS F.e;have k:∀ y∈I++[x],sI 5e0 y.1 y.2:=fun y hy=>(F.fr y hy).keep (fun a ha o e=>by
  rw[aC (fun z=>nd.1 (by
   rw[<- z];have:=mY hy ha;rw[bK,bZ] at this;exact this))]
  exact e) t
 exact⟨⟨aA,fun y hy=>k y 0e1,Ϙ.mpr ⟨fun z=>nd.1 2e0,nd.2.1⟩⟩,k x 1e0⟩
def iX.push{fa f1:Addr}{L:List 0e0}{hv:V}(F:iX H fl L)(e1:H fa=some (.lst [hv,.ref f1,.Xu]))(e2:H f1=some (.lst []))(hh:J3 H hv h)(n1:fa∉fl::dS L)(n2:f1∉fl::dS L)(n3:fa≠f1):iX 2e1 fl (L++[((⟨fa,f1,none⟩:FC),(⟨h,[],none⟩:Fr))]):=by
 have nd:=F.nd;rw[Ϙ] at nd;rw[Α,not_or] at n1 n2;have t:aE H 2e1:=aE.cS F.e;refine⟨aA,fun y hy=>?_,?_⟩
 ·rcases Κ.mp hy with hy|hy
  ·exact(F.fr y hy).keep (fun a ha o e=>by rw[aC (fun z=>nd.1 (by rw[<- z];exact mY hy ha))];exact e) t
  ·rw[show y=((⟨fa,f1,none⟩:FC),(⟨h,[],none⟩:Fr)) by simpa using hy];exact⟨hv,[],by rw[aC n1.1];exact e1,hh.kt t,by rw[aC n2.1];exact e2,.nil,trivial⟩
 ·rw[bK,bZ,Ϙ];refine⟨fun z=>?_,ϛ.mpr ⟨nd.2,by simp[FC.cells,n3],fun a ha b hb z=>?_⟩⟩
  ·rcases Κ.mp z with z|z
   ·exact nd.1 z
   ·simp only[FC.cells,Option.toList_none,Α,Δ,Υ] at z;rcases z with z|z
    ·exact n1.1 z.symm
    ·exact n2.1 z.symm
  ·simp only[FC.cells,Option.toList_none,Α,Δ,Υ] at hb;rcases hb with rfl|rfl
   ·exact n1.2 (z▸ha)
   ·exact n2.2 (z▸ha)
def iX.snd{hv:V}(F:iX H fl 3e0)(f0:x.1.f2=none)(e1:H x.1.fa=some (.lst [hv,.ref x.1.f1,.Xu]))(e2:H a=some (.lst []))(n:a∉fl::dS 3e0):iX 3e1 fl (I++[(⟨x.1.fa,x.1.f1,some a⟩,⟨x.2.hd,x.2.b1,some []⟩)]):=by
 have nd:=F.nd;rw[bK,bZ,Ϙ,ϛ] at nd;rw[bK,bZ,Α,Κ,not_or,not_or] at n;have hc:x.1.cells=[x.1.fa,x.1.f1]:=by simp[FC.cells,f0]
 rw[hc] at nd n;have t:aE H 3e1:=aE.cS e1;obtain⟨hv',YT,g1,g2,g3,g4,g5⟩:=F.fr x 1e0;rw[e1] at g1;have ehv:hv'=hv:=by
  have g:=ϗ g1;simp only[HO.lst.injEq,List.cons.injEq] at g;exact g.1.symm
 subst ehv;have n12:x.1.fa≠x.1.f1:=by simpa using nd.2.2.1
 refine⟨?_,fun y hy=>?_,?_⟩
 ·rw[aC (fun z=>nd.1 (by rw[z];simp))];rw[F.e];simp
 ·rcases Κ.mp hy with hy|hy
  ·exact(F.fr y 0e1).keep (fun b hb o e=>by rw[aC (fun z=>nd.2.2.2 b (mY hy hb) x.1.fa 1e0 z)];exact e) t
  ·rw[show y=(⟨x.1.fa,x.1.f1,some a⟩,⟨x.2.hd,x.2.b1,some []⟩) by simpa using hy];exact⟨hv',YT,aA,g2.kt t,by rw[aC n12.symm];exact g3,g4.kp t,[],by rw[aC (fun z=>n.2.2 2e0)];exact e2,.nil⟩
 ·rw[bK,bZ,Ϙ];refine⟨fun z=>?_,ϛ.mpr ⟨nd.2.1,?_,fun b hb c ZX z=>?_⟩⟩
  ·rcases Κ.mp z with z|z
   ·exact nd.1 2e0
   ·simp only[FC.cells,Α3,Α,Δ,Υ] at z;rcases z with z|z|z
    ·exact nd.1 2e0
    ·exact nd.1 2e0
    ·exact n.1 z.symm
  ·have h1:¬ a=x.1.fa:=fun z=>n.2.2 2e0;have h2:¬ a=x.1.f1:=fun z=>n.2.2 2e0;simp[FC.cells,n12];exact⟨fun z=>h1 z.symm,fun z=>h2 z.symm⟩
  ·simp only[FC.cells,Α3,Α,Δ,Υ] at ZX;rcases ZX with rfl|rfl|rfl
   ·exact nd.2.2.2 b hb _ 1e0 z
   ·exact nd.2.2.2 b hb _ 1e0 z
   ·exact n.2.1 (z▸hb)
def S9{o:Option Addr}(h:rv o=.Xu):o=none:=by
 cases o with
 | none=>rfl
 | some a=>cases h
theorem E1{c:FC}{u:V}:hE [u,.ref c.f1,rv c.f2] (1+if (!decide (rv c.f2=V.Xu))=true then 1 else 0)=some (.ref c.cur):=by
 obtain⟨fa,f1,f2⟩:=c;cases f2<;>rfl
def sI.cu{c:FC}(h:sI H c f):∃ us,H c.cur=some 6e0:=h.lst _ (by cases e:c.f2<;>simp[FC.cur,FC.cells,e])
def Hq(I:List 0e0)(x:FC×Fr):hE 4e1 (-1)=some 8e1:=by
 rw[Α2];exact kR _ _
def Pa(I:List 0e0)(x:FC×Fr):4e1[((I++[x]).map fun x=>V.ref x.1.fa).length - 1]?=some 8e1:=by simp
def Jk(I:List 0e0)(x:FC×Fr):((I++[x]).map fun x=>V.ref x.1.fa).dropLast=I.map fun x=>V.ref x.1.fa:=by simp
def fE(f:Fr)(i:Bool)(s:Say):Stm:=if i=true then .iff s f.b1 4e0 else .XM s f.b1
inductive MY(vs:List V)(H:Hp)(Q:VK)(E:XK):Prop
 | mk (fl:Addr) (I:List 0e0) (x y:FC×Fr) (i:Bool) (s:Say) (_:vs=[.ref fl]) (_:iX H fl 1e1) (_:y.2.hd=some (i,s)) (_:(∀ z∈I++[x]++[y],z.2.b1.length<=1000/\(z.2.b2.getD []).length<=1000)) (_:∀ H',iX H' fl 7e0->Kp (fl::x.1.cells) H H'->Q .Xu H'):MY vs H Q E
def Gf(j:Nat)(f:Fr):Prop:=CJ true f.b1/\CJ true 4e0/\qB f.b1+j<=5/\qB 4e0+j<=5/\(j≠0->∃ i s,f.hd=some (i,s)/\s.sok)
def CC(L:List 0e0):Nat:=(L.map fun x=>cH x.2.b1+cH 9e0+2).sum
def GL(L:List 0e0):Prop:=∀ j x,L[j]?=some x->Gf j x.2
def mH(L M:List 0e0):CC (L++M)=CC L+CC M:=by simp[CC]
def mI(x:FC×Fr):CC [x]=cH x.2.b1+cH 9e0+2:=by simp[CC]
def GL.top(h:GL 3e0):Gf I.length x.2:=h I.length x 1e0
def GL.init(h:GL 3e0):GL I:=fun j y e=>h j y (by rw[Ε9 (Ν.mp e).1];exact e)
theorem GL.snoc(h:GL I)(g:Gf I.length x.2):GL 3e0:=fun j y e=>by
 by_cases hj:j < I.length
 ·rw[Ε9 hj] at e;exact h j y e
 ·have:j=I.length:=by
   have:=(Ν.mp e).1;simp at this;omega
  subst this;simp at e;subst e;exact g
theorem Ig:∀(a b:List Stm),cH (a++b)=cH a+cH b
 | [],b=>by simp[cH]
 | x::a,b=>by simp only[Ψ,cH,Ig a b];omega
theorem xF:∀(a:List Stm) (m:Stm),qB (a++[m])=max (qB a) m.dp
 | [],m=>by simp[qB]
 | x::a,m=>by simp only[Ψ,qB,xF a m];omega
theorem xW{wt:Bool}:∀ {a:List Stm} {m:Stm},CJ wt a->m.gd wt->CJ wt (a++[m])
 | [],m,_,h=>⟨h,trivial⟩
 | x::a,m,g,h=>⟨g.1,xW g.2 h⟩
theorem Kd(f:Fr)(m:Stm):cH (f.add m).b1+cH ((f.add m).b2.getD [])=cH f.b1+cH 4e0+m.sz:=by
 unfold Fr.add;cases h:f.b2<;>simp[h,Ig,cH]<;>omega
theorem Gf.add{j:Nat}(g:Gf j f)(gm:m.gd true)(dm:m.dp+j<=5):Gf j (f.add m):=by
 obtain⟨g1,g2,g3,g4,g5⟩:=g;unfold Fr.add;cases h:f.b2 with
 | none =>
  rw[h] at g2 g4;exact⟨xW g1 gm,g2,by show qB (f.b1++[m])+j<=5;rw[xF];omega,g4,g5⟩
 | some b =>
  rw[h] at g2 g4;exact⟨g1,xW (show CJ true b from g2) gm,g3,by show qB (b++[m])+j<=5;rw[xF];have:qB b+j<=5:=g4;omega,g5⟩
theorem KO{j:Nat}{i:Bool}(g:Gf (j+1) f)(hs:s.sok):(fE f i s).gd true/\(fE f i s).dp+j<=5/\(fE f i s).sz<=cH f.b1+cH 4e0+2:=by
 obtain⟨g1,g2,g3,g4,g5⟩:=g;cases i with
 | true=>exact⟨⟨hs,g1,g2⟩,by simp only[fE,Γ1,Stm.dp];omega,by simp only[fE,Γ1,Stm.sz];omega⟩
 | false=>exact⟨⟨hs,g1⟩,by simp only[fE,ϙ,Β4,Stm.dp];omega,by simp only[fE,ϙ,Β4,Stm.sz];omega⟩
theorem Gj{L:List 0e0}(h:x∈L):cH x.2.b1+cH 9e0+2<=CC L:=by
 induction L with
 | nil=>simp at h
 | cons y r ih =>
  rcases Α.mp h with rfl|h
  ·simp[CC]
  ·have:=ih h;simp only[CC,ϔ,List.sum_cons] at this ⊢;omega
theorem GO{y:FC×Fr}{i:Bool}(g:GL 1e1)(h:y.2.hd=some (i,s))(hs:s.sok):GL 7e0/\CC 7e0<=CC 1e1:=by
 have gy:=g.top;rw[Μ,List.length_singleton] at gy;obtain⟨c1,c2,c3⟩:=KO (i:=i) gy hs;refine⟨g.init.init.snoc (g.init.top.add c1 c2),?_⟩;rw[mH,mH,mH,mI,mI,mI];have:=Kd x.2 8e0;show CC I+(cH (x.2.add 8e0).b1+cH ((x.2.add 8e0).b2.getD [])+2)<=_;omega
inductive Nh(vs:List V)(H:Hp)(Q:VK)(E:XK):Prop
 | mk (cl:Addr) (ms:List Int) (_:vs=[.ref cl]) (_:H cl=some (.lst (ms.map V.int))) (_:ms.length<=63) (_:∀(p:Addr) (us:List V) (b:List Stm) (H':Hp),H' p=some (.tup us)->bX H' us b->CJ true b->qB b<=5->cH b<=2 * ms.length->Kp [] H H'->Q (.ref p) H'):Nh vs H Q E
end
mutual
noncomputable def Stm.i7(L:List Str):Stm->Prop
 | .set x _=>x∈L
 | .order x _ _=>x∈L
 | .child x _ _=>x∈L
 | .XC x _=>x∈L
 | .wait x ss=>x∈L
 | .Xy x _=>x∈L
 | .XM _ b=>jD L b
 | .iff _ b o=>jD L b/\jD L o
 | _=>True
noncomputable def jD(L:List Str):List Stm->Prop
 | []=>True
 | m::ms=>m.i7 L/\jD L ms
end
mutual
example:=[h.same rfl,(by simp),(if _ then (Own.bV S m).1.pass else (Own.bV S m).1),(if _ then S.enter 1 o else S.enter 0 b),(if _ then S.pass else S.enter 0 b),hx m k w rfl,Str×List Wo,(by simp[hx])]
theorem Dz{L:List Str}:∀ {b:List Stm} {i:Nat} {m:Stm},jD L b->b[i]?=some m->m.i7 L
 | [],_,_,_,h=>by simp at h
 | _::_,0,_,g,h=>by simp only[Ξ,Ρ] at h;subst h;simp only[jD] at g;exact g.1
 | _::b,i+1,_,g,h=>by simp only[jD] at g;exact Dz g.2 (by simpa using h)
theorem JM(l:List (Str×Wo))(n:Str)(w:Wo):(cD l n w).map (·.1)=if n∈l.map (·.1) then l.map (·.1) else l.map (·.1)++[n]:=by
 have e:(l.any fun p=>decide (p.1=n))=true↔n∈l.map (·.1):=by
  rw[List.any_eq_true,Α9];constructor
  ·rintro⟨p,h,e⟩;exact⟨p,h,by simpa using e⟩
  ·rintro⟨p,h,e⟩;exact⟨p,h,by simpa using e⟩
 unfold cD;by_cases h:n∈l.map (·.1)
 ·rw[if_pos (e.mpr h),if_pos h,List.map_map];refine List.map_congr_left fun p _=>?_;simp only[Function.comp];split<;>rfl
 ·rw[if_neg (fun z=>h (e.mp z)),if_neg h];simp
structure fG(L:List Str)(S:Pu):Prop where
 nd:(S.nm.map (·.1)).Nodup
 sub:∀ n∈S.nm.map (·.1),n∈L
 stk:∀ x∈S.stk,jD L x.2.1
def fG.put(h:fG L S){n:Str}(hn:n∈L)(w:Wo):fG L {S with nm:=cD S.nm n w}:=by
 have e:=JM S.nm n w;refine⟨?_,?_,h.stk⟩
 ·show((cD S.nm n w).map (·.1)).Nodup;rw[e];split
  ·exact h.nd
  ·next hc =>
   rw[ϛ];exact⟨h.nd,by simp,fun a ha b hb=>by rw[show b=n by simpa using hb];intro z;exact hc (z▸ha)⟩
 ·show ∀ x∈(cD S.nm n w).map (·.1),x∈L;rw[e];split
  ·exact h.sub
  ·intro x hx;rcases Κ.mp hx with hx|hx
   ·exact h.sub x hx
   ·rw[show x=n by simpa using hx];exact hn
def fG.same{T:Pu}(h:fG L S)(e1:T.nm=S.nm)(e2:T.stk=S.stk):fG L T:=⟨by rw[e1];exact h.nd,by rw[e1];exact h.sub,by rw[e2];exact h.stk⟩
def fG.bV(h:fG L S)(g:m.i7 L):fG L (bV S m).1:=by
 cases m with
 | set x s=>simp only[Stm.i7] at g;exact h.put g _
 | order x y s=>simp only[Stm.i7] at g;exact(h.put g _).same rfl rfl
 | child x y s=>simp only[Stm.i7] at g;exact(h.put g _).same rfl rfl
 | XC x s=>simp only[Stm.i7] at g;exact(h.put g _).same rfl rfl
 | send s k r=>exact h
 | drop s =>
  simp only[Own.bV];split
  ·split
   ·exact h.same rfl rfl
   ·exact h
  ·exact h
 | Xy x k =>
  simp only[Stm.i7] at g;simp only[Own.bV];split
  ·exact(h.put g _).same rfl rfl
  ·exact h.same rfl rfl
 | wait x ss =>
  simp only[Stm.i7] at g;simp only[Own.bV];split
  ·exact h.same rfl rfl
  ·exact h.put g _
 | fin s=>exact h.same rfl rfl
 | XM s b=>exact h
 | iff s b o=>exact h
theorem sN{L:List Str}:∀ st:Stk,(∀ x∈st,jD L x.2.1)->∀ x∈bN st,jD L x.2.1
 | [],h=>by simpa[bN] using h
 | [a],h=>by simpa[bN] using h
 | (k,b,n)::(k2,b2,n2)::r,h=>by
  rw[bN];split
  ·refine sN ((k2,b2,nN b2 n2)::r) fun x hx=>?_;rcases Α.mp hx with rfl|hx
   ·exact h (k2,b2,n2) 1e0
   ·exact h x 7e0
  ·exact h
termination_by st=>st.length
def tV(h:∀ x∈st,jD L x.2.1):∀ x∈fP st,jD L x.2.1:=by
 cases st with
 | nil=>exact h
 | cons a r =>
  obtain⟨k,b,n⟩:=a;intro x hx;simp only[fP,Α] at hx;rcases hx with rfl|hx
  ·exact h (k,b,n) 1e0
  ·exact h x 7e0
def fG.bL(h:fG L S)(e:bL S.stk=some m):m.i7 L:=by
 cases hs:S.stk with
 | nil=>rw[hs] at e;cases e
 | cons a r =>
  obtain⟨k,b,n⟩:=a;rw[hs] at e;exact Dz (h.stk (k,b,n) (by rw[hs];simp)) e
def fG.one(h:fG L S)(e:Own.bL S.stk=some m):fG L (one S m).1:=by
 have g:=h.bL e;have en:∀(c:Nat) (b:List Stm),jD L b->fG L (S.enter c b):=fun c b hb=>⟨h.nd,h.sub,fun x hx=>by
  rcases Α.mp hx with rfl|hx
  ·exact hb
  ·exact h.stk x hx⟩
 have ps:∀ T:Pu,fG L T->fG L T.pass:=fun T hT=>⟨hT.nd,hT.sub,tV hT.stk⟩;unfold Own.one;split
 ·cases m with
  | XM s b =>
   simp only[Stm.i7] at g;show fG L 4e0;split
   ·exact ps S h
   ·exact en 0 b g
  | iff s b o =>
   simp only[Stm.i7] at g;show fG L 3e0;split
   ·exact en 1 o g.2
   ·exact en 0 b g.1
  | _=>exact h
 ·show fG L 2e0;split
  ·exact ps _ (h.bV g)
  ·exact h.bV g
theorem vO{L:List Str}:∀(n:Nat) {S:Pu},fG L S->fG L (dU n S).1
 | 0,S,h=>by
  have hc:fG L S.bC:=⟨h.nd,h.sub,sN _ h.stk⟩;cases e:bL S.bC.stk with
  | none=>rw[eJ e];exact hc.same rfl rfl
  | some m=>rw[jQ e];exact hc.same rfl rfl
 | n+1,S,h=>by
  have hc:fG L S.bC:=⟨h.nd,h.sub,sN _ h.stk⟩;cases e:bL S.bC.stk with
  | none=>rw[eJ e];exact hc.same rfl rfl
  | some m =>
   cases z:(one S.bC m).1.sl.isN with
   | true=>rw[oT e z];exact vO n (hc.one e)
   | false=>rw[jP e z];exact hc.one e
def fG.wake(h:fG L S)(w:Wo):fG L (S.wake w).1:=by
 unfold Pu.wake;split
 ·next x k e =>
  have g:=h.bL e;simp only[Stm.i7] at g;have h1:=h.put g w;exact vO 300 ⟨h1.nd,h1.sub,tV h.stk⟩
 ·next x ss e =>
  have g:=h.bL e;simp only[Stm.i7] at g;have h1:=h.put g w;exact vO 300 ⟨h1.nd,h1.sub,tV h.stk⟩
 ·exact h
def fG.take(h:fG L S)(x:Hap):fG L (S.take x).1:=by
 unfold Pu.take;split
 ·exact h
 cases x with
 | X3 m w=>exact vO 300 (h.same rfl rfl)
 | don m i w =>
  show fG L ((S.at' m).eZ i w).1;unfold Pu.eZ;split
  ·split
   ·exact(h.same (T:=(S.at' m).done i w) rfl rfl).wake _
   ·exact h.same rfl rfl
  ·exact h.same rfl rfl
 | ltr m k w =>
  show fG L ((S.at' m).eT k w).1;unfold Pu.eT;split
  ·split
   ·exact(h.same (T:=S.at' m) rfl rfl).wake _
   ·exact h.same rfl rfl
  ·exact h.same rfl rfl
theorem tN:∀ {a L:List Str},a.Nodup->(∀ x∈a,x∈L)->a.length<=L.length
 | [],L,_,_=>Α4 _
 | x::a,L,nd,h=>by
  rw[Ϙ] at nd;have hx:=h x 1e0;have:=tN (a:=a) (L:=L.erase x) nd.2 fun y hy=>(List.mem_erase_of_ne (fun z:y=x=>nd.1 (by rw[<- z];exact hy))).mpr (h y (ϓ _ hy));have hl:=List.length_erase_of_mem hx;have hp:0 < L.length:=List.length_pos_of_mem hx;simp only[Η];omega
def fG.len(h:fG L S):S.nm.length<=L.length:=by
 have:=tN h.nd h.sub
 rwa [Γ] at this
structure gN(K:List Str)(S:Pu):Prop where
 nd:(S.lt.map (·.1)).Nodup
 sub:∀ n∈S.lt.map (·.1),n∈K
theorem sE(r:List Wo):∀(l:List 6e0) (k:Str),(dH l k r).map (·.1)=l.map (·.1)
 | [],_=>rfl
 | p::l,k=>by
  simp only[dH];split
  ·rfl
  ·simp only[ϔ,sE r l k]
theorem yH:∀ {l:List 6e0} {k:Str},aS l k=none->k∉l.map (·.1)
 | [],_,_=>by simp
 | p::l,k,h=>by
  simp only[aS] at h;split at h
  ·cases h
  ·next hp =>
   simp only[ϔ,Α,not_or];exact⟨fun z=>hp z.symm,yH h⟩
def gN.same{T:Pu}(h:gN K S)(e:T.lt=S.lt):gN K T:=⟨by rw[e];exact h.nd,by rw[e];exact h.sub⟩
def gN.add(h:gN K S)(hk:k∈K)(w:Wo):gN K {S with lt:=fI S.lt k w}:=by
 cases e:aS S.lt k with
 | some ws =>
  have ea:fI S.lt k w=dH S.lt k (ws++[w]):=by simp only[fI,e]
  have kk:=sE (ws++[w]) S.lt k;exact⟨by show((fI S.lt k w).map (·.1)).Nodup;rw[ea,kk];exact h.nd,by show ∀ n∈(fI S.lt k w).map (·.1),n∈K;rw[ea,kk];exact h.sub⟩
 | none =>
  have ea:fI S.lt k w=S.lt++[(k,[w])]:=by simp only[fI,e]
  have nk:=yH e;refine⟨?_,?_⟩
  ·show((fI S.lt k w).map (·.1)).Nodup;rw[ea,Α2,ϛ];exact⟨h.nd,by simp,fun a ha b hb=>by rw[show b=k by simpa using hb];intro z;exact nk (z▸ha)⟩
  ·show ∀ n∈(fI S.lt k w).map (·.1),n∈K;rw[ea,Α2];intro n hn;rcases Κ.mp hn with hn|hn
   ·exact h.sub n hn
   ·rw[show n=k by simpa using hn];exact hk
def gN.bV(h:gN K S)(m:Stm):gN K (bV S m).1:=by
 cases m with
 | drop s =>
  simp only[Own.bV];split
  ·split
   ·exact h.same rfl
   ·exact h
  ·exact h
 | Xy x k =>
  simp only[Own.bV];split
  ·next w r e=>exact⟨by show((dH S.lt k r).map (·.1)).Nodup;rw[sE];exact h.nd,by show ∀ n∈(dH S.lt k r).map (·.1),n∈K;rw[sE];exact h.sub⟩
  ·exact h.same rfl
 | wait x ss =>
  simp only[Own.bV];split
  ·exact h.same rfl
  ·exact h.same rfl
 | _=>exact h.same rfl
def gN.one(h:gN K S)(m:Stm):gN K (one S m).1:=by
 unfold Own.one;split
 ·cases m with
  | XM s b=>show gN K 4e0;split<;>exact h.same rfl
  | iff s b o=>show gN K 3e0;split<;>exact h.same rfl
  | _=>exact h
 ·show gN K 2e0;split
  ·exact(h.bV m).same rfl
  ·exact h.bV m
theorem vL{K:List Str}:∀(n:Nat) {S:Pu},gN K S->gN K (dU n S).1
 | 0,S,h=>by
  have hc:gN K S.bC:=h.same rfl;cases e:bL S.bC.stk with
  | none=>rw[eJ e];exact hc.same rfl
  | some m=>rw[jQ e];exact hc.same rfl
 | n+1,S,h=>by
  have hc:gN K S.bC:=h.same rfl;cases e:bL S.bC.stk with
  | none=>rw[eJ e];exact hc.same rfl
  | some m =>
   cases z:(one S.bC m).1.sl.isN with
   | true=>rw[oT e z];exact vL n (hc.one m)
   | false=>rw[jP e z];exact hc.one m
def gN.wake(h:gN K S)(w:Wo):gN K (S.wake w).1:=by
 unfold Pu.wake;split
 ·exact vL 300 0e0
 ·exact vL 300 0e0
 ·exact h
def gN.take(h:gN K S)(x:Hap)(hx:∀ m k w,x=.ltr m k w->k∈K):gN K (S.take x).1:=by
 unfold Pu.take;split
 ·exact h
 cases x with
 | X3 m w=>exact vL 300 0e0
 | don m i w =>
  show gN K ((S.at' m).eZ i w).1;unfold Pu.eZ;split
  ·split
   ·exact(h.same (T:=(S.at' m).done i w) rfl).wake _
   ·exact h.same rfl
  ·exact h.same rfl
 | ltr m k w =>
  show gN K ((S.at' m).eT k w).1;unfold Pu.eT;split
  ·split
   ·exact(h.same (T:=S.at' m) rfl).wake _
   ·exact((h.same (T:=S.at' m) rfl).add 5e0 w).same rfl
  ·exact((h.same (T:=S.at' m) rfl).add 5e0 w).same rfl
def gN.len(h:gN K S):S.lt.length<=K.length:=by
 have:=tN h.nd h.sub
 rwa [Γ] at this
end
mutual
noncomputable def Stm.nms:Stm->List Str
 | .set x _=>[x]
 | .order x _ _=>[x]
 | .child x _ _=>[x]
 | .XC x _=>[x]
 | .wait x _=>[x]
 | .Xy x _=>[x]
 | .XM _ b=>yP b
 | .iff _ b o=>yP b++yP o
 | _=>[]
noncomputable def yP:List Stm->List Str
 | []=>[]
 | m::r=>m.nms++yP r
end
mutual
theorem Pj:∀ m:Stm,m.nms.length<=m.sz
 | .XM _ b=>by have:=nM b;simp only[Stm.nms,Stm.sz];omega
 | .iff _ b o=>by have:=nM b;have:=nM o;simp only[Stm.nms,Stm.sz,Μ];omega
 | .set _ _=>by simp[Stm.nms,Stm.sz]
 | .order _ _ _=>by simp[Stm.nms,Stm.sz]
 | .child _ _ _=>by simp[Stm.nms,Stm.sz]
 | .XC _ _=>by simp[Stm.nms,Stm.sz]
 | .wait _ _=>by simp[Stm.nms,Stm.sz]
 | .Xy _ _=>by simp[Stm.nms,Stm.sz]
 | .send _ _ _=>by simp[Stm.nms,Stm.sz]
 | .drop _=>by simp[Stm.nms,Stm.sz]
 | .fin _=>by simp[Stm.nms,Stm.sz]
theorem nM:∀ b:List Stm,(yP b).length<=cH b
 | []=>by simp[yP]
 | m::r=>by have:=Pj m;have:=nM r;simp only[yP,cH,Μ];omega
end
mutual
theorem SI{L:List Str}:∀ m:Stm,(∀ x∈m.nms,x∈L)->m.i7 L
 | .XM _ b,h=>by simp only[Stm.nms] at h;simp only[Stm.i7];exact rN b h
 | .iff _ b o,h=>by simp only[Stm.nms,Κ] at h;simp only[Stm.i7];exact⟨rN b fun x hx=>h x (.inl hx),rN o fun x hx=>h x (.inr hx)⟩
 | .set _ _,h=>by simp only[Stm.i7];exact h _ (by simp[Stm.nms])
 | .order _ _ _,h=>by simp only[Stm.i7];exact h _ (by simp[Stm.nms])
 | .child _ _ _,h=>by simp only[Stm.i7];exact h _ (by simp[Stm.nms])
 | .XC _ _,h=>by simp only[Stm.i7];exact h _ (by simp[Stm.nms])
 | .wait _ _,h=>by simp only[Stm.i7];exact h _ (by simp[Stm.nms])
 | .Xy _ _,h=>by simp only[Stm.i7];exact h _ (by simp[Stm.nms])
 | .send _ _ _,_=>by simp only[Stm.i7]
 | .drop _,_=>by simp only[Stm.i7]
 | .fin _,_=>by simp only[Stm.i7]
theorem rN{L:List Str}:∀ b:List Stm,(∀ x∈yP b,x∈L)->jD L b
 | [],_=>by simp only[jD]
 | m::r,h=>by simp only[yP,Κ] at h;simp only[jD];exact⟨SI m fun x hx=>h x (.inl hx),rN r fun x hx=>h x (.inr hx)⟩
end
mutual
example:=[(fun _=>true)]
def Mi:fG (yP b) (fH b):=⟨by simp[fH],by simp[fH],fun x hx=>by rw[show x=(0,b,0) by simpa[fH] using hx];exact rN b fun _ h=>h⟩
def L9:gN K (fH b):=⟨by simp[fH],by simp[fH]⟩
def Hap.key:Hap->Option Str
 | .ltr _ k _=>some k
 | _=>none
def LZ(hs:List Hap):List Str:=hs.filterMap Hap.key
def Ji{h:Hap}(hm:h∈hs):∀ m k w,h=.ltr m k w->k∈LZ hs:=fun m k w e=>List.mem_filterMap.mpr ⟨h,hm,by rw[e];rfl⟩
def Jh(hs:List Hap):(LZ hs).length<=hs.length:=List.length_filterMap_le _ _
def JE{h:Hap}(o:S.over h=true):S.take h=(S,[]):=by unfold Pu.take;rw[if_pos o]
def wC.kt(h:wC H v S)(k:aE H H'):wC H' v S:=by
 unfold wC at *;split at h
 ·next hg =>
  rw[if_pos hg];obtain⟨p,pl,pn,po,pa,pt,sl,un,ua,ut,e,a1,a2,a3,a4,a5,a6,a7,a8,a9,a10⟩:=h;exact⟨p,pl,pn,po,pa,pt,sl,un,ua,ut,e,k _ _ a1,a2.kt k,k _ _ a3,k _ _ a4,a5.kt k,k _ _ a6,k _ _ a7,a8.kt k,k _ _ a9,a10.kt k⟩
 ·next hg =>
  rw[if_neg hg];exact h.kt k
def jG(H:Hp)(p lo:Addr)(S:Pu):Prop:=∃(v sl:V),H p=some (.tup [sl,.ref lo,v])/\wC H v S/\j8 H sl S.sl/\H lo=some (.lst (S.pend.map V.int))
def jG.keep{G':Hp}{p lo:Addr}(h:jG G p lo S)(t:aE G G')(k:∀ o,G lo=some o->G' lo=some o):jG G' p lo S:=by
 obtain⟨v,sl,e,hv,hs,eo⟩:=h;exact⟨v,sl,t _ _ e,hv.kt t,hs.kt t,k _ eo⟩
def jG.kp{G':Hp}{p lo:Addr}(h:jG G p lo S)(k:Kp [] G G'):jG G' p lo S:=h.keep (aE.nil k) fun _ e=>k.at e
inductive HW(C:Cl)(vs:List V)(H:Hp)(Q:VK)(E:XK):Prop
 | mk (R:Rn) (as:List Addr) (sl:V) (S:Pu) (_:vs=[.ref R.x]) (_:bE C H R as sl S) (_:S.sl.isN=false) (_:S.pend.length<=1000000) (_:S.nm.length < 64) (_:S.lt.length < 64) (_:S.ans.length<=1000000) (_:(∀ k ws,aS S.lt k=some ws->ws.length<=1000000)) (_:∀(p lo:Addr) (H':Hp),jG H' p lo S->H lo=none->Kp [] H H'->Q (.ref p) H'):HW C vs H Q E
def GX{K:q0B}{b:Addr}(ha:H a=some (.tup xs))(hb:H b=some (.tup ys))(hl:xs.length=ys.length)(h:∀(j:Nat) x y,xs[j]?=some x->ys[j]?=some y->uV K H n x y true):uV K H (n+1) (.ref a) (.ref b) true:=by
 by_cases hab:a=b
 ·subst hab;exact .same
 ·refine .refs hab ?_;have:=sJ.tup (K:=K) (H:=H) (n:=n) (e:=fun _=>true) (jC.of ha) (jC.of hb) h
  rwa [show((List.range (min xs.length ys.length)).all 0e0&&xs.length==ys.length)=true by simp[hl]] at this
def vZ{K:q0B}{b:Addr}(ha:H a=some (.lst xs))(hb:H b=some (.lst ys))(hl:xs.length=ys.length)(h:∀(j:Nat) x y,xs[j]?=some x->ys[j]?=some y->uV K H n x y true):sJ K H (n+1) a b true:=by
 have:=sJ.list (K:=K) (H:=H) (n:=n) (e:=fun _=>true) (gE.of ha) (gE.of hb) hl h
 rwa [show(List.range xs.length).all 0e0=true by simp] at this
def OT{K:q0B}{b:Addr}(ha:H a=some (.lst xs))(hb:H b=some (.lst ys))(hl:xs.length=ys.length)(h:∀(j:Nat) x y,xs[j]?=some x->ys[j]?=some y->uV K H n x y true):uV K H (n+1) (.ref a) (.ref b) true:=by
 by_cases hab:a=b
 ·subst hab;exact .same
 ·exact .refs hab (vZ ha hb hl h)
def Dg{K:q0B}{x:V}(h:eI x=true)(e:nB x x=true):uV K H n x x true:=by
 have:=uV.flat (K:=K) (H:=H) (n:=n) h h
 rwa [e] at this
def uD(cs:Cmds):Prop:=∀ c∈cs,∀ v∈c,eI v=true/\nB v v=true
def Q8{K:q0B}(h:iL H us cs)(g:iL H vs cs)(f:uD cs):∀(j:Nat) x y,us[j]?=some x->vs[j]?=some y->uV K H (n+1) x y true:=fun j x y e1 e2=>by
 obtain⟨a,c,rfl,e3,ha⟩:=h.at e1;obtain⟨b,c',rfl,e4,hb⟩:=g.at e2;rw[e3] at e4;cases e4;refine GX ha hb rfl fun i v w e5 e6=>?_;rw[e5] at e6;cases e6;have:=f c (ϒ e3) v (ϒ e5);exact Dg this.1 this.2
def Jw(v:V):Prop:=eI v=true/\nB v v=true
def dC(x:Str):Jw (.str x):=⟨rfl,by simp[GY]⟩
def iV(i:Int):Jw (.int i):=⟨rfl,by simp[OU]⟩
def i9(w:Wo):Jw (wv w):=by
 cases w with
 | none=>exact⟨rfl,rfl⟩
 | some i=>exact iV i
structure kO(K:q0B)(H:Hp)(n:Nat)(xs ys:List V):Prop where
 len:xs.length=ys.length
 at':∀(j:Nat) x y,xs[j]?=some x->ys[j]?=some y->uV K H n x y true
end
section
variable{K:q0B}{b:Addr}{x:V}
mutual
example:=[.cons (dC _).eq .nil,kO.refl (rO _)]
def kO.nil:kO K H n [] []:=⟨rfl,fun j x y e=>by simp at e⟩
def kO.cons(h:uV K H n x y true)(t:kO K H n xs ys):kO K H n (x::xs) (y::ys):=⟨by simp[t.len],fun j u v e1 e2=>by
 cases j with
 | zero =>
  simp only[Ξ,Ρ] at e1 e2;subst e1 e2;exact h
 | succ j=>exact t.at' j u v (by simpa using e1) (by simpa using e2)⟩
def Jw.eq(h:Jw x):uV K H n x x true:=Dg h.1 h.2
def kO.refl(h:∀ v∈xs,Jw v):kO K H n xs xs:=⟨rfl,fun j u v e1 e2=>by
 rw[e1] at e2;cases e2;exact(h u (ϒ e1)).eq⟩
def kO.tup(h:kO K H n xs ys)(ha:H a=some (.tup xs))(hb:H b=some (.tup ys)):uV K H (n+1) (.ref a) (.ref b) true:=GX ha hb h.len h.at'
def kO.rcL(h:kO K H n xs ys)(ha:H a=some (.lst xs))(hb:H b=some (.lst ys)):sJ K H (n+1) a b true:=vZ ha hb h.len h.at'
def kO.lst(h:kO K H n xs ys)(ha:H a=some (.lst xs))(hb:H b=some (.lst ys)):uV K H (n+1) (.ref a) (.ref b) true:=OT ha hb h.len h.at'
def kO.rcT(h:kO K H n xs ys)(ha:H a=some (.tup xs))(hb:H b=some (.tup ys)):sJ K H (n+1) a b true:=by
 have:=sJ.tup (K:=K) (H:=H) (n:=n) (e:=fun _=>true) (jC.of ha) (jC.of hb) h.at'
 rwa [show((List.range (min xs.length ys.length)).all (fun _=>true)&&xs.length==ys.length)=true by simp[h.len]] at this
def Q9(h:iL H us cs)(g:iL H vs cs)(f:uD cs):kO K H (n+1) us vs:=⟨by rw[h.len,g.len],Q8 h g f⟩
def HG{ps:List (V×V)}(h:fV H us ps)(g:fV H vs ps)(f:∀ p∈ps,Jw p.1/\Jw p.2):kO K H (n+1) us vs:=by
 induction h generalizing vs with
 | nil=>cases g;exact .nil
 | @cons a x y us ps e _ ih =>
  cases g with
  | cons e2 g =>
   have:=f (x,y) (by simp);exact .cons (kO.tup (.cons this.1.eq (.cons this.2.eq .nil)) e e2) (ih g fun p hp=>f p (ϓ _ hp))
def Pf(h:jB H us ps)(g:jB H vs ps):kO K H (n+2) us vs:=by
 induction h generalizing vs with
 | nil=>cases g;exact .nil
 | @cons a b k ws us ps e e' _ ih =>
  cases g with
  | cons e2 Zi g =>
   refine .cons (kO.tup (.cons (dC k).eq (.cons (kO.tup (kO.refl fun v hv=>?_) e' Zi) .nil)) e e2) (ih g);obtain⟨w,_,rfl⟩:=Α9.mp hv;exact i9 w
def rO(ts:List Int):∀ v∈ts.map V.int,Jw v:=fun v hv=>by
 obtain⟨i,_,rfl⟩:=Α9.mp hv;exact iV i
def Gb{s:Slp}(h:j8 H x s)(g:j8 H y s):uV K H (n+2) x y true:=by
 cases s with
 | Xu =>
  rw[show x=.Xu from h,show y=.Xu from g];exact(show Jw .Xu from ⟨rfl,rfl⟩).eq
 | new =>
  obtain⟨p,rfl,e⟩:=h;obtain⟨p2,rfl,e2⟩:=g;exact kO.tup 0e0 e e2
 | wait ts =>
  obtain⟨p,p2,rfl,e,f⟩:=h;obtain⟨q,q2,rfl,e2,f2⟩:=g;exact kO.tup (.cons (dC _).eq (.cons (kO.tup (kO.refl (rO ts)) f f2) .nil)) e e2
 | Xy k =>
  obtain⟨p,rfl,e⟩:=h;obtain⟨p2,rfl,e2⟩:=g;exact kO.tup (.cons (dC _).eq 0e0) e e2
 | ended w =>
  obtain⟨p,rfl,e⟩:=h;obtain⟨p2,rfl,e2⟩:=g;exact kO.tup (.cons (dC _).eq (.cons (i9 _).eq .nil)) e e2
 | worn =>
  obtain⟨p,rfl,e⟩:=h;obtain⟨p2,rfl,e2⟩:=g;exact kO.tup 0e0 e e2
theorem yO(nm:List (Str×Wo)):∀(l:List Str),∀ p∈gA nm l,Jw p.1/\Jw p.2
 | [],p,h=>by simp[gA] at h
 | k::l,p,h=>by
  simp only[gA] at h;split at h
  ·exact yO nm l p h
  ·rcases Α.mp h with rfl|h
   ·exact⟨dC _,i9 _⟩
   ·exact yO nm l p h
def VA(h:wC H x S)(g:wC H y S):uV K H (n+4) x y true:=by
 unfold wC at h g;split at h
 ·next hg =>
  rw[if_pos hg] at g;obtain⟨p,pl,pn,po,pa,pt,sl,un,ua,ut,rfl,a1,a2,a3,a4,a5,a6,a7,a8,a9,a10⟩:=h;obtain⟨q,ql,qn,qo,qa,qt,XR,un',ua',ut',rfl,b1,b2,b3,b4,b5,b6,b7,b8,b9,b10⟩:=g;refine kO.tup (n:=n+3) (.cons (Gb (n:=n+1) a2 b2) (.cons (kO.tup (n:=n+2) 1e0 a3 b3) (.cons (i9 _).eq (.cons (iV _).eq (.cons (kO.tup (n:=n+2) (HG (n:=n+1) a5 b5 (yO _ _)) a4 b4) (.cons (iV _).eq (.cons (kO.tup (n:=n+2) 1e0 a6 b6) (.cons (kO.tup (n:=n+2) (HG (n:=n+1) a8 b8 fun p hp=>?_) a7 b7) (.cons (kO.tup (n:=n+2) (Pf (n:=n) a10 b10) a9 b9) .nil))))))))) a1 b1;obtain⟨z,_,rfl⟩:=Α9.mp hp;exact⟨iV _,i9 _⟩
 ·next hg =>
  rw[if_neg hg] at g;exact Gb (n:=n+2) h g
def Nn{lo lo':Addr}(h:jG H a lo S)(g:jG H b lo' S):sJ K H (n+5) a b true:=by
 obtain⟨v,sl,e,hv,hs,eo⟩:=h;obtain⟨v',XR,e',hv',YS,eo'⟩:=g;exact kO.rcT (n:=n+4) (.cons (Gb (n:=n+2) hs YS) (.cons (kO.lst (n:=n+3) 1e0 eo eo') (.cons (VA hv hv') .nil))) e e'
end
end
mutual
example:=[(by simp only[Β1];exact⟨dC _,i9 _,by simp⟩),(by simp only[Β1];exact⟨dC _,iV _,dC _,i9 _,by simp⟩)]
def fA:uD []:=fun _ h=>by cases h
def I8{a b:Cmds}(h:uD a)(g:uD b):uD (a++b):=fun c hc=>by
 rcases Κ.mp hc with hc|hc
 ·exact h c hc
 ·exact g c hc
def fS{c:List V}(h:∀ v∈c,Jw v):uD [c]:=fun x hx=>by
 rw[show x=c by simpa using hx];exact h
def Qw(m:Nat)(cs:Cmds):Prop:=uD cs/\cs.length<=m
def Lg(S:Pu)(m:Stm):Qw 1 (bV S m).2:=by
 refine⟨?_,C8 S m⟩;cases m with
 | set x s=>exact fA
 | order x y s=>exact fS 1e0
 | child x y s=>exact fS 1e0
 | XC x s=>exact fS (by simp only[Β1];exact⟨dC _,iV _,iV _,by simp⟩)
 | send s k r=>exact fS (by simp only[Β1];exact⟨dC _,i9 _,dC _,i9 _,by simp⟩)
 | drop s =>
  simp only[Own.bV];split
  ·split
   ·exact fS (by simp only[Β1];exact⟨dC _,iV _,by simp⟩)
   ·exact fA
  ·exact fA
 | Xy x k =>
  simp only[Own.bV];split<;>exact fA
 | wait x ss =>
  simp only[Own.bV];split<;>exact fA
 | fin s=>exact fS 0e0
 | XM s b=>exact fA
 | iff s b o=>exact fA
def Pn(S:Pu)(m:Stm):Qw 1 (one S m).2:=by
 unfold one;split
 ·exact⟨fA,by simp⟩
 ·exact Lg S m
theorem rE:∀(n:Nat) (S:Pu),Qw (n+1) (dU n S).2
 | 0,S=>by
  cases e:bL S.bC.stk with
  | none=>rw[eJ e];exact⟨fS 0e0,by simp[Pu.ends]⟩
  | some m=>rw[jQ e];exact⟨fS (by simp only[Β1];exact⟨dC _,by simp⟩),by simp[Pu.pT]⟩
 | n+1,S=>by
  cases e:bL S.bC.stk with
  | none=>rw[eJ e];exact⟨fS 0e0,by simp[Pu.ends]⟩
  | some m =>
   have h1:=Pn S.bC m;cases z:(one S.bC m).1.sl.isN with
   | true =>
    rw[oT e z];have h2:=rE n (one S.bC m).1;exact⟨I8 h1.1 h2.1,by simp only[Μ];have:=h1.2;have:=h2.2;omega⟩
   | false=>rw[jP e z];exact⟨h1.1,by have:=h1.2;omega⟩
def EC(S:Pu)(w:Wo):Qw 301 (S.wake w).2:=by
 unfold Pu.wake;split
 ·exact rE 300 _
 ·exact rE 300 _
 ·exact⟨fA,by simp⟩
def Ny(S:Pu)(x:Hap):Qw 301 (S.take x).2:=by
 have nl:Qw 301 []:=⟨fA,by simp⟩;unfold Pu.take;split
 ·exact nl
 cases x with
 | X3 m w=>exact rE 300 _
 | don m i w =>
  show Qw 301 ((S.at' m).eZ i w).2;unfold Pu.eZ;split
  ·split
   ·exact EC _ _
   ·exact nl
  ·exact nl
 | ltr m k w =>
  show Qw 301 ((S.at' m).eT k w).2;unfold Pu.eT;split
  ·split
   ·exact EC _ _
   ·exact nl
  ·exact nl
def Fw.U8{R:Rn}{XU:List Addr}{G0:Hp}(F:Fw R as XU G H')(k:Kp [] G0 G)(h:∀ a,a∈R.cells\/a∈as->G0 a=none):Kp [] G0 H':=fun b o e _=>F.kp b o (k.at e) (fun z=>by rw[h b (.inl z)] at e;cases e) (fun z=>by rw[h b (.inr z)] at e;cases e)
def Hk(h:∀ y∈ys,y∈ns.map V.int):∃ ms:List Int,ys=ms.map V.int/\ms.length=ys.length:=by
 induction ys with
 | nil=>exact⟨[],rfl,rfl⟩
 | cons y r ih =>
  obtain⟨ms,e,l⟩:=ih fun z hz=>h z (by simp[hz]);obtain⟨n,_,rfl⟩:=Α9.mp (h y (by simp));exact⟨n::ms,by rw[e];rfl,by simp[l]⟩
structure In13(C:Cl)(b:List Stm)(md:Addr)(G0 G:Hp)(R:Rn)(as:List Addr)(sl:V)(A:Fa)(p:Nat)(S T:Pu):Prop where
 ra:bE C G R as sl S
 fl:bR b G A T p
 md:A.md=md
 sep:∀ x,x∈R.cells\/x∈as->x∉A.mut/\x≠A.cl/\x∉A.cs/\x≠A.aw
 aw:∃ o,G A.aw=some o
 kb:Kp [] G0 G
 nb:∀ x,x∈R.cells\/x∈as\/x∈A.mut->G0 x=none
end
section
variable{C:Cl}{md:Addr}{G0 G':Hp}{R:Rn}{as2:List Addr}{sl Zx:V}{A':Fa}{p':Nat}{S' T T':Pu}
mutual
example:=[.inr w,(by simp),.inl hx,.inr (.inr (.inr rfl))]
def In13.kp(J:In13 C b md G0 G R as sl A p S T)(k:Kp [] G G'):In13 C b md G0 G' R as sl A p S T :=
 ⟨J.ra.kp k,J.fl.kp k,J.md,J.sep,let ⟨o,e⟩:=J.aw;⟨o,k.at e⟩,J.kb.trans k,J.nb⟩
def In13.free(J:In13 C b md G0 G R as sl A p S T){x:Addr}(h:G x=none):G0 x=none:=by
 cases e:G0 x with
 | none=>rfl
 | some o=>rw[J.kb.at e] at h;cases h
def In13.run(J:In13 C b md G0 G R as sl A p S T)(W:Fw R as as2 G G')(RA:bE C G' R as2 Zx S'):In13 C b md G0 G' R as2 Zx A p S' T/\aE G G':=by
 have T5:=J.ra.tkp W;have hnc:∀ z,(z∈A.mut\/z=A.cl\/z∈A.cs\/z=A.aw)->z∉R.cells/\z∉as:=fun z hz=>by
  have no:¬ (z∈R.cells\/z∈as):=fun w=>by
   obtain⟨s1,s2,s3,s4⟩:=J.sep z w;rcases hz with hz|hz|hz|hz
   ·exact s1 hz
   ·exact s2 hz
   ·exact s3 hz
   ·exact s4 hz
  exact⟨fun w=>no (.inl w),fun w=>no 0e0⟩
 obtain⟨o,Zj⟩:=J.aw;refine⟨⟨RA,J.fl.U6 (fun z o e hz=>W.kp z o e (hnc z hz).1 (hnc z hz).2) T5,J.md,fun z hz=>?_,⟨o,W.kp _ _ Zj (hnc _ 3e0).1 (hnc _ 3e0).2⟩,W.U8 J.kb (fun a h=>J.nb a (h.elim .inl (fun z=>.inr (.inl z)))),fun x hx=>?_⟩,T5⟩
 ·rcases hz with hz|hz
  ·exact J.sep z (.inl hz)
  ·rcases W.new z hz with w|w
   ·exact J.sep z 0e0
   ·obtain⟨g1,g2,g3⟩:=J.fl.new w;exact⟨g3,g1.1,g1.2,fun y=>by rw[y,Zj] at w;cases w⟩
 ·rcases hx with hx|hx|hx
  ·exact J.nb x 2e0
  ·rcases W.new x hx with w|w
   ·exact J.nb x (.inr (.inl w))
   ·exact J.free w
  ·exact J.nb x (.inr (.inr hx))
def In13.mod(J:In13 C b md G0 G R as sl A p S T)(W:Fm [] A {A' with nk:=A.nk} G G')(F:bR b G' A' T' p'):In13 C b md G0 G' R as sl A' p' S T'/\aE G G':=by
 obtain⟨ot,M,_⟩:=J.fl.ex;have T6:aE G G':=J.fl.tkp (W.mono (E:=[A.od]) 1e0) M.ho;obtain⟨o,Zj⟩:=J.aw;have RA6:=J.ra.keep (fun z o e hz=>W.kp z o e (by
  rcases hz with rfl|hz|hz
  ·intro w;obtain⟨o',e',hk'⟩:=J.fl.kind w;have:=J.ra.wk.ins;rw[this] at e';cases e';exact hk' _ _ _ rfl
  ·exact(J.sep z (.inl hz)).1
  ·exact(J.sep z (.inr hz)).1) 1e0) T6
 refine⟨⟨RA6,F,(show A'.md=A.md from W.m1.1).trans J.md,fun z hz=>?_,?_,fun x u e _=>W.kp x u (J.kb.at e) (fun w=>by rw[J.nb x (.inr 0e0)] at e;cases e) 1e0,fun x hx=>?_⟩,T6⟩
 ·have old:=J.sep z hz;obtain⟨o,ez,_⟩:=J.ra.cellK hz;refine⟨fun w=>?_,by rw[show A'.cl=A.cl from W.m1.2.1];exact old.2.1,by rw[show A'.cs=A.cs from W.m1.2.2];exact old.2.2.1,fun w=>?_⟩
  ·rcases W.nw z w with w|w
   ·exact old.1 w
   ·rw[w] at ez;cases ez
  ·rcases W.na with u|⟨u,_⟩
   ·exact old.2.2.2 (w.trans u)
   ·rw[<- show z=({A' with nk:=A.nk}:Fa).aw from w,ez] at u;cases u
 ·rcases W.na with u|⟨_,u⟩
  ·rw[show A'.aw=A.aw from u];exact W.st _ _ Zj
  ·exact u
 ·rcases hx with hx|hx|hx
  ·exact J.nb x 2e0
  ·exact J.nb x (.inr 2e0)
  ·rcases W.nw x hx with w|w
   ·exact J.nb x (.inr 0e0)
   ·exact J.free w
end
end
mutual
example:=[]
structure Pu13(b:List Stm)(hs:List Hap)(S:Pu)(i:Nat):Prop where
 ft:XE true S (302 * i)
 hn:S.sl.isN=false
 sd:Std S
 nm:fG (yP b) S
 lt:gN (LZ hs) S
theorem Pu13.X8{i:Nat}(P:Pu13 b hs S i)(hi:i<=63)(hb:cH b<=62)(hl:hs.length<=63):S.pend.length<=1000000/\S.nm.length < 64/\S.lt.length < 64/\S.ans.length<=1000000/\∀ k ws,aS S.lt k=some ws->ws.length<=1000000:=by
 have a1:=P.ft.pd;have a2:=P.ft.an;have a3:=P.nm.len;have a4:=nM b;have a5:=P.lt.len;have a6:=Jh hs;exact⟨by omega,by omega,by omega,by omega,fun k ws h=>by have:=(P.ft.lw k ws h).1;omega⟩
theorem Pu13.take{i:Nat}(P:Pu13 b hs S i){x:Hap}(hx:x∈hs)(hf:(0<=x.m/\x.m<=1000000000000)/\eC x.w)(hi:i<=63)(hp:∀ j∈S.pend,0<=j/\j < (S.made:Int)):Pu13 b hs (S.take x).1 (i+1) :=
 ⟨by
  rw[show 302 * (i+1)=302 * i+302 by omega];exact P.ft.Il x hf.1 hf.2 (fun j hj=>fL (by have:=(hp j hj).1;omega) (by have:=(hp j hj).2;have:=P.ft.md;omega)) (by omega),Ey P.hn x,Er P.sd P.hn x,P.nm.take x,P.lt.take x (Ji hx)⟩
inductive HU(vs:List V)(H:Hp)(Q:VK)(E:XK):Prop
 | mk (P:List Stm) (A:Fa) (S:Pu) (p r n N:Nat) (_:vs=[.ref r,.ref A.md]) (_:bR P H A S p) (_:XE true S N) (_:N<=90000) (_:S.sl.isN=false) (_:bO H r n) (_:n<=300) (_:r∉A.mut) (_:∀(v:V) (h:Hap) (n':Nat) (H':Hp),mU H' v h->((0<=h.m/\h.m<=1000000000000)/\eC h.w)->S.over h=true->bO H' r n'->Kp [r] H H'->Q v H'):HU vs H Q E
def Md(s:Slp):pD (.str s.md) [.str "new",.str "ended",.str "worn"]=(match s with | .new=>true | .ended _=>true | .worn=>true|_=>false):=by
 cases s<;>simp[Slp.md,pD,nB,cG]
def MA{m:Int}(n:S.sl.isN=false)(h:i∉S.pend):S.over (.don m i w)=true:=by
 unfold Pu.over;cases e:S.sl<;>simp[h]
def Mz{m:Int}(n:S.sl≠.new):S.over (.X3 m w)=true:=by
 unfold Pu.over;cases e:S.sl<;>first|rfl|exact absurd e n
def MB{m:Int}(h:pD (.str S.sl.md) [.str "new",.str "ended",.str "worn"]=true):S.over (.ltr m k w)=true:=by
 rw[Md] at h;unfold Pu.over;cases e:S.sl<;>rw[e] at h<;>first|rfl|cases h
end
local macro_rules | `(tactic| wp_walk) => `(tactic| wp_walk using true_and)
local macro_rules | `(tactic| wp_walk using $ts,*) => do
  let us ← ts.getElems.mapM fun t => `(Lean.Parser.Tactic.simpLemma| $t:term)
  let vs <- ("↓S5 ↓Vp ↓DY ↓Tn ↓PK ↓PJ ↓WS ↓Wl ↓Wm ↓Wn ↓Wp ↓Wq ↓Wr ↓Ws ↓Wt ↓Q7 ↓Q5 ↓Q6 ↓UN ↓Ua ↓R8 ↓UM ↓Sf ↓Uq ↓LB ↓WI ↓WA ↓WE ↓WJ ↓Xm ↓Rq ↓Uy ↓Lm ↓Wz ↓Uu ↓US ↓Ry ↓Rz ↓R9 ↓Rr ↓Rl ↓UI ↓Sa ↓TZ ↓WG ↓Uz ↓WH ↓Sb ↓Lv ↓RM ↓RL ↓OB ↓RJ ↓Up ↓UK ↓T9 ↓UJ ↓UE ↓UD ↓OI ↓OG ↓OH ↓Lw ↓Lx ↓OF ↓Us ↓Ut ↓Ri ↓Rk ↓Rj ↓Rp ↓UR ↓UQ ↓Rt ↓RY ↓RX ↓UO ↓WB ↓RU ↓RW ↓RV ↓Ub ↓Uc ↓Ud ↓Ue ↓Om ↓Oo ↓Ow ↓Lo ↓Lp ↓RT ↓RP ↓RO ↓WC ↓OC ↓Uv ↓Uw ↓Uh ↓Ui ↓RS ↓RQ ↓UC ↓OA ↓RC ↓Ou ↓Ot ↓OJ ↓Sq ↓Uj ↓RN ↓Ww ↓Wx ↓Wy ↓OK ↓LA ↓Ru ↓Oq ↓Ox ↓OS ↓RB ↓WD ↓Um ↓Sd ↓OQ ↓Sn ↓Sj ↓Sl ↓LC ↓Sm ↓So ↓Sk ↓Ov ↓Ux ↓Uk ↓GW ↓Uo ↓Sh ↓Rm ↓Lu ↓RZ ↓Ls ↓IV ↓Se ↓OM ↓Si ↓Rw ↓Oy ↓Lr ↓Lq ↓Oz ↓Rv ↓RK ↓Ur ↓Ro ↓Ug ↓Ly ↓OL ↓Rx ↓UH ↓UG ↓UA ↓UB ↓UL ↓ON ↓OE ↓Lz ↓Ul ↓OP ↓OD ↓OR ↓OO ↓Ln ↓RH ↓UP ↓VY ↓VZ ↓V0 ↓V1 ↓V2 ↓V3 ↓V4 ↓V5 ↓Xd ↓QP ↓VW ↓Xc ↓VQ ↓VR ↓VS ↓VT ↓Xb ↓aA ↓List.set_cons_zero ↓List.set_cons_succ ↓List.getElem?_cons_zero ↓List.getElem?_cons_succ L2.start Fq Mb List.cons_append List.nil_append List.append_nil List.replicate_succ List.replicate_zero List.length_cons List.length_nil Nat.reduceAdd Nat.reduceSub Nat.zero_add Nat.add_zero Nat.reduceLeDiff Nat.reducePow Nat.reduceLT true_and and_true false_and and_false forall_const ↓reduceIte cG String.reduceEq Int.reduceToNat Int.reducePow Int.reduceNeg Int.reduceSub Int.reduceAdd Int.reduceMul Int.reduceLT Int.reduceLE Int.reduceEq sizeLine Xr Xa decide_true decide_false Bool.not_true Bool.not_false Bool.false_eq_true".splitOn " ").toArray.mapM fun(n:String)=>do
    let p:=n.splitOn "↓";let x:=Lean.mkIdent (p.getLastD "").toName
    if p.length = 1 then `(Lean.Parser.Tactic.simpLemma| $x:term) else `(Lean.Parser.Tactic.simpLemma| ↓ $x:term)
  let ws:=us++vs
  `(tactic| try simp (config := { dsimp := false }) only [$ws,*])
noncomputable def HQ(K:q0B):Sp:=fun vs H Q _=>∃(a:Addr) (ns:List Int),vs=[.ref a]/\gE K H a (ns.map V.int)/\ns.length<=63/\∀ H',Q (.bl true) H'
section
variable{P:Program}{w:World}{K:q0B}(T:Tx P w base K mg t)
mutual
example:=[(by simp),(by omega),.lst [],pix aM pv1 aB,(by simp[OK6]),pdg pv0 aD,(by decide),6e0,aV bT,aU T,pcl 9e0 T.bF (pa2 pv0 aB),.inr "at",(by intro z;cases z),aE.nil N,i+1,fH b,(.inl (by simp[Rn.cells])),S.worth s,I++[x],.ref a,fF (cD S.nm x w),pdg pv1 aD,aE.nil N4,.int kd,pix aM pv0 aB,.ref A0.md,pv 0,(bM S.pend ws).map V.int,(by with_unfolding_all rfl),F1.free hc,.inr k,.ref l2,.dK (aR lk 0e3 1e3),.ref p2,aR kvs 0e3 3e3,fX dW aB,bD jA aB aB,aL T.aQ T.cR pv0,S.pend.map V.int,ptc aZ pv3 aD,ptc aZ pv2 aD,(fun _ _ h=>h),pa1 pv1,aE.nil K1,.ref cl,.ref p,new++[pe],F1.trans (Fw.of N4),(z▸ha),.ref r,tail rfl _ XR c us H' A' hc ec hC FF,later S.nw m,kL t.aN R (sl) S.ar 1e5,aL T.aQ T.dI pv0,ptc aZ pv5 aD,.lst [wv w],.inl aW.1,.don m i w,A1.kp N4,.ref fl,.int z,.inr "now",(aR XO 1e6 (.int (if m > S.nw then m else S.nw))),new++[pe],.lst (((as++3e6++XN)++[pj]).map V.ref),(pmt pv0 T.aQ (dY T) T.dX (pa1 3e0)),some (S.made:Int),(by intro _ z;cases z),.lst (us++[.ref pt]),(by decide +kernel),Fw.of N4,ws.map wv,.lst 1e7,aV (pa2 aD aD),pa1 pv2,.ref dk,.int mo,.X3 m w,pv 1,(.lst [.str "jump",.Xu,.ref ph,.int ((as.length+new.length+cH b'+cH o'+2:Nat):Int)]),(.lst [.str "while",.ref a0,.ref ph,.int ((as.length+new.length+cH b'+2:Nat):Int)]),(.lst [.str "if",.ref a0,.ref ph,.int ((as.length+new.length+cH b'+2:Nat):Int)]),j≠i,((S.pend.filter fun j=>decide 2e8).map V.int),((k,b,n)::r),4e8,((cK 5e8).map V.int++[.int kx]),Kp.new (o:=.lst [.ref p3]) h4,(by simpa[Say.depth] using d1),.cons ((q0D h4).at aA) .nil,([]:List Wo).map wv,.lst 0e9,(.tup [.str "hear",.str k]),bB S.ans ws,new++[pe]++XN++[pj],(fun _ _ _ e=>N.at e),aE.new hp,hv.kp 6e9,aL T.aQ T.gI pv0,.lst [.ref fa],.lst (hv++[v]),Kp.new hp,ptc aZ pv1 aB,aY (pa1 aD),.inr "mode",(p1:Int)+1,hs.take i,aE.nil N3,.ref p1,.lst ws,.Xy x k,c9 T 4,.int p,.int j,.dK [],(.lst [.Xu,.ref f1,.Xu]),(Xt (Xt H f1 2e0) fa 5e11),.lst ((cB ans ws).map V.int),bH cQ rfl T.mJ fJ 4e7,(fun z=>ncl (z▸ha)),.lst (vs++[.ref p]),.lst (ns.map V.str),aL T.cZ T.fB pv0,.lst (r.map wv),Or.inl rfl,F3.free hc,.wait x ss,ns.take i,as++[p2],.ref R.x,pa1 aB,iN rfl,.dK kC,.dK kB,.dK kA,.dK k9,.dK k8,(fun j hj=>by rw[show j=0 by simpa using hj];exact⟨_,rfl,rfl,.inl rfl⟩),(fD.free rfl rfl rfl rfl rfl 1e4 rfl 6e0 rfl 7e13),pa2 pv0 aB,(if ib=true then "if" else "while"),(.tup [.str 0e14,sv]),pa1 pv0,pcl (gQ T) T.iC 2e14,fF (cD S.nm x (bB S.ans ws)),Xt (Xt G2 md 4e11) nd 4e11,Xt G3 op (.lst (us++[.ref p])),(Yr.app (.cons e3 .nil)).kt t4,bH cQ rfl T.mJ fJ (pa1 pv1),aL T.aQ T.jV pv0,(.lst ((as++6e4).map V.ref)),(ppt pv0 aD (bD cI 5e0 aB)),(K3.trans (Kp.set 0e0)),(ws++[w]).map wv,M3.other Yk no1 no2,.tup [.str "worn"],(by simp;try omega),(by simpa using h),aL T.cZ T.i6 pv0,aL T.bI T.gY pv0,aL T.aQ T.rK pv0,ppt pv0 aD aD,i∈cB ans ws,(Α5.mp hj).1,.str S.sl.md,WX.trans W',KG.trans N3,.inr "code",S.worth s2,S.worth s1,F2.free hc,.ref A0.ld,.ref A0.cl,.ltr m k w,(z▸aW.1),.ref rl,.ref op,.ref md,.lst us,.drop s,aK pv2,(.ins t.aN dx [("walk",.ref wk),("sleep",.ref p),("arg",.Xu),("now",.int 0),("names",.ref nm),("tickets",.ref tk)]),(.ins t.aN dx [("walk",.ref wk),("sleep",.ref p),("arg",.Xu),("now",.int 0)]),as++3e6++XN,(.ins t.aN dx [("walk",.ref wk),("sleep",.ref p),("arg",.Xu)]),(.lst [.int ((p1+cH b+2:Nat):Int),.int 5e10]),(fun a ha o e=>KE _ _ (fun z=>ymd.2 8e4) e),pcl (fM T) T.fT 2e14,(M4.as ⟨rfl,rfl,rfl,rfl,rfl,rfl⟩),(.lst ((cK 4e8).map V.int)),.int (((p1+cH b+2:Nat):Int):Int),(.ins t.aN dx [("walk",.ref wk)]),(K1.trans K2).trans (Kp.new hp),kL t.aN R 5e4 S.ar S.nw,bU eE rfl T.iK eX 4e7,aR XO 1e6 (.int m),(.tup [.str "wait",.ref l5]),(by simp[z]),(fun z=>n 7e19),(cK S.stk).map V.int,Fw.of N3,F1.trans 0e20,ds++[.ref pt],(tT 1 (B5 hr 7e0)),(by rw[ϕ,ea];rfl),aY (pa2 aD pv1),F1.free (dA h4),A0.cs.map V.ref,(z▸aW.2.2.2.1),.inr "letters",ptc kH pv1 aB,ptc aZ pv0 aD,(by simp;omega),(z▸aW.2.2.1),bM S.pend ws,(by simp[hz]),K1.trans K2,i∈S.pend,(fun _=>rfl),aG (aK cN),aG (aK Bk),KH b o e n,ws.take i,aE.nil NL,Kp.new h9,Kp.new h1,D5.new h5,Fw.of N2,A3.kp N4,.inl rfl,ws++[w],pa1 pv3,aF e fm,YG a ha,S.at' m,KG.at e,301 - i,.ref bp,us++Zy,oK rfl,jW T 6,pgn 3,mD aB,(fun a ha=>by simp only[Α,Δ,Υ] at ha;rcases ha with rfl|rfl|rfl;exact .inl rfl;exact .inr 9e22;exact .inr (.inr 9e22)),(fun _ _ h=>look1 rfl h),(fD.free rfl rfl rfl rfl rfl 4e24 rfl 7e0 rfl (fun j hj=>by rw[show j=2 by simpa using hj];exact⟨_,rfl,rfl,.inl rfl⟩)),pix aM pv0 pv3,aP (pcl IH T.kW (pa3 (pix aM 6e24 aB) (bD k7 pv4 (aY 0e13)) pv2)),(dR ⟨t.aN,t.aO,t.aJ⟩ true (fun m=>∃ x y s,m=.order x y s\/m=.child x y s)),(((K1.trans K2).trans 5e22).trans (K3.trans K4)).trans 1e10,(dD S.ans ws).map V.int,.lst 0e25,pcl IH T.cA (pa2 pv0 (bD iR pv1 aB)),(.ins t.aO wx [("blocks",.ref lb),("numbers",.ref ln)]),.inr "open",aR kv2 4e25 (.ref o2),aR X2 4e25 (.ref o2),(Fm.ofK KM fun b hb=>?_),((Fm.of N1).trans 7e25),(.lst [.str m.kw,.ref a0,.ref ph,.Xu]),(by simp only[Γ,Μ,Η,ϖ];omega),Kp.new hq2,(Kp.new hle).trans 1e26,(aP (pmt0 9e14 T.cZ (iW T) T.gU)),r.map wv,(by simp only[Say.depth];omega),.int ((p+1:Nat):Int),(by rw[bK,bZ];simp[FC.cells]),(pix aM (pix aM pv1 5e3) aB),(.lst [.ref ht,.ref ZT,.Xu]),pmt0 pv0 T.cZ (gK T) T.e9,aR X2 (.inr "arg") (wv w),(.tup [.str "ended",wv w]),(l++[(n:Int)]).map V.int,Xt H3 c (.lst 8e23),(fun _ _ _ e=>N1.at e),pa3 aD aD aD,dN aD 6e27,(Xt G4 l5 (.tup 7e2)),F3.trans 0e20,(Fm.of N2).trans W',(fF (cD S.nm x 6e6)),(fF (cD S.nm x 7e1)),(by rw[et];exact O1),(by rw[et];exact F),g0 hC.ex (lJ ee),(fun b o e hb=>?_),aL T.aQ T.gX pv0,Kp.new h5,F3.free (dA h4),(z▸aW.2.2.2.2),ptc kH pv3 aB,ptc aZ pv4 aB,ptc aZ pv3 aB,ptc aZ pv2 aB,M1.nop Yf no1,(eL).trans c3,(eL).trans c1,(fun _ _=>rfl),.int (i:Int),.dK (iM ans),K6.trans K7,aE.nil N2,aE.nil KZ,aE.nil K2,Kp.new h8,Kp [] H G,A3.tkp F3,A2.tkp F2,NZ.at eh,A3.kp N3,A1.kp N3,pa1 pv4,fF S.nm,aF e ZD,K3.at e,.ref pt,.ref p3,.lst xs,.lst ut,.lst un,some 2,FC×Fr,.ref l,.int n,.int i,7e13,0e14,(cU G A0.md A0.nd A0.od A0.dd YM S/\G a=some (.tup [.str "wait",.str x,.ref pp])/\G p2=some (.lst 0e25)/\G p3=some (.lst 7e2)/\Kp [A0.md] G1 G/\aE G1 G),pix aM pv0 (fX dW aB),pix aM 9e32 (bD cI aB (bU gT rfl T.AK mW (pa1 (pcr oY (pix aM 9e32 aB) cN)))),(Fm.set (b:=A1.md) (o:=.dK (aR X2 1e1 (.int (((p1+1:Nat):Int):Int)))) (.inl aW.1)),.int (((p1+1:Nat):Int):Int),(rY PySem.F.slot_list_pop PySem.F.type_list_pop Ce (pdg 5e0 3e0) 0e13),pa2 aD aD,ns.map V.str,(aG (aK (aY (dN aD (pa3 3e14 (pix aM 3e7 0e1) (pcl 1e11 T.cA 9e13)))))),(.lst [.str "jump",.Xu,.ref ph,.int ((as.length+new.length:Nat):Int)]),(dR ⟨t.aN,t.aO,t.aJ⟩ true (fun m=>∃ s k r,m=.send s k r)),(fun C s H ex pn=>⟨mG (dZ iQ 6e2 8e7 8e2) ,6e2 ⟩),(dR ⟨t.aN,t.aO,t.aJ⟩ true (fun m=>∃ x ss,m=.wait x ss)),(dR ⟨t.aN,t.aO,t.aJ⟩ true (fun m=>∃ x s,m=.set x s)),(dR ⟨t.aN,t.aO,t.aJ⟩ true (fun m=>∃ x s,m=.XC x s)),(dR ⟨t.aN,t.aO,t.aJ⟩ true (fun m=>∃ x k,m=.Xy x k)),(dR ⟨t.aN,t.aO,t.aJ⟩ true (fun m=>∃ s,m=.drop s)),(dR ⟨t.aN,t.aO,t.aJ⟩ true (fun m=>∃ s,m=.fin s)),(ppt pv0 aD (bH 1e13 rfl T.CI pY (pa2 5e0 pv4))),(.tup [.str "timer",.int S.made,.int (xJ S.nw 7e1)]),.dK (aR kvs (.inr "made") (.int ((S.made:Int)+1))),(nU hu (aL T.aQ T.gX 8e7) 6e2 8e29),(nU hu (aL T.aQ T.gI 8e7) 6e2 8e29),(aG (aK (aY (pa3 aD 3e14 (pcl 1e11 T.cA 9e13))))),Xt H ln (.lst ((l++[((n+1:Nat):Int)]).map V.int)),(pif 4e29 (aG (aK (aY (pa2 aD 2e25))))),(pcl IH T.nH (dN 4e2 (dN pv1 (pa3 pv2 pv3 pv4)))),S.worth r,(.tup [.str "send",wv 7e1,.str k,wv 5e35]),(.tup [.str "order",.int S.made,.str y,wv 7e1]),(.tup [.str "child",.int S.made,.str y,wv 7e1]),(rW (v:=.int 1000000000) rfl T.mX ⟨_,rfl⟩),pcl 0e24 T.fK (pa2 (pix aM pv4 aB) pv0),(by rw[show a=p2 by simpa using ha];exact Z4),(aG (aP (pmt 9e14 T.cZ (rP T) T.lR 0e13))),aE.nil (((NL.trans K3).trans NP).trans Kt),(aK (aY (pa2 aD (pcl 1e11 T.cA 9e13)))),(fun a ha o e=>KE _ _ (fun z=>npn 8e4) e),(fun a ha o e=>KE _ _ (fun z=>aa2 8e4) e),(fun a ha _ e=>KS.at1 e (fun z=>nc5 8e4)),(pix aM (pix aM (pix aM 5e0 5e0) aB) aB),(.lst ((I++[x]).map fun x=>.ref x.1.fa)),(Fw.set (p:=l) (o:=.lst 4e26) (.inr ZF)),(Fw.set (p:=l) (o:=.lst 3e15) (.inr ZF)),.tup ((pt++[(i:Int)]++[0]).map V.int),(fun b o e hb=>KM.at1 e (F1.far hb).1),(bB S.ans ws=none/\bM S.pend ws≠[]),(M7.as ⟨rfl,rfl,rfl,rfl,rfl,rfl⟩),(pmt pv0 T.aQ (mK T) T.iU (pa1 3e0)),aP (pcl (DJ T) T.B0 (pa2 pv0 pv2)),(.lst [.str "jump",.Xu,.ref ph,.Xu]),(S.pend++[(S.made:Int)]).map V.int,(aK (aY (dN aD (pa3 pv2 pv4 7e18)))),(fun z=>by rw[z] at l0;simp at l0),(σ=[some 4e4,some 9e5,v2,v3,v4]),(.tup [.str "ended",.str "worn"]),(KK.trans K5).trans (Kp.new h5),((Fm.ofK KF fun b hb=>?_).od fo2),(aP (pmt0 7e3 T.bI (kG T) T.gG)),aK (pmt0 pv0 T.aQ (yR T) T.qX),Bl pv0 2e24 2e24 2e24,(.lst [.str "wait",.str "hear"]),(dD S.ans ws).map V.int++[.Xu],(pcl (rS T) T.lV (pa2 pv0 3e0)),kL t.aN R (.ref p6) S.ar S.nw,(aG (aP (pcl (rQ T) T.lT 2e4))),(aG (aK (aY (pa3 aD pv2 7e18)))),((∀ a∈fl::dS 8e1,H a=none)),(p1:Int)=((jR P0).length:Int),((as++6e4++XN++[pj]).map V.ref),as.length+new.length+cH b'+2,(.tup [.str "letter",.int m]),(by rw[aC n1.symm];exact aA),(0<=h.m/\h.m<=1000000000000),(.tup [.str "begin",.int m]),.int ((p1+cH b+2:Nat):Int),tX (pix aM pv2 pv6) aB zS,(ptc aZ (pix aM 3e5 aB) aD),pmt0 pv0 T.aQ (iH T) T.eY,(pcl IH T.fK (pa2 4e2 pv1)),pcl (rR T) T.lU 2e31,kL t.aN R (.Xu) S.ar S.nw,(.tup [.str "drop",.int i]),(.tup [.str "done",.int m]),(Xt H4 p2 (.tup [v,u,u2])),(S.lt++[(k,([]:List Wo))]),.lst (ws.map wv++[wv w]),(Xt GW1a A1.md (.dK 6e25)),Int.emod_lt_of_pos _ m0,(dQ (dZ iQ 3e0 5e0 8e2)),(Xt G5 A0.dd (.lst 2e20)),(Xt G2a A0.md (.dK 2e6)),(Xt G2a A0.md (.dK 5e25)),(KK.trans (N2.mono 0e0)),(A1.xV W2 (K2.mono 0e0)),(.tup [.str "end",wv w]),(N1.trans K1).trans N2,(Xt G5 A0.nd (.dK 4e14)),(Xt G2 A0.nd (.dK 0e2)),(Xt G2 A0.md (.dK 2e6)),(.lst (6e8++[.int nx])),.int ((p1+1:Nat):Int),.inr (.inr (.inr ha)),(fun h=>.inr (.inl h)),(fun a _ o h=>N2.at h),as.length+new.length,aE.nil (NL.trans Kt),List.cons_ne_nil _ _,kp1T K50 (KZ.at eG),(Xt H1 od (.lst 3e8)),(.dK (aR XO 1e1 6e26)),(Fm.of NQ).trans W',(fun _ h=>nomatch h),(fun _ H1=>Q .Xu H1),(fF (cD S.nm n 6e6)),(by simpa using xpj),(by simp[Fa.mut,a5]),(by rw[e0];exact ok),(by rw[W'.nk];omega),(.tup [.int i,wv w]),.tup (.str kd::xs),(by simpa using hm),(by simp[Fa.mut,y]),(by rw[e0];exact W),(.tup [.Xu,.int 0]),.int (S.made:Int),aL T.bI T.gW pv0,aL T.aQ T.Bf pv0,(Mx 1 (B5 hr 7e0)),.int ((p:Int)+1),(by split<;>simp),A1.cs.map V.ref,z.2.b2.getD [],y.2.b2.getD [],pix aM pv2 pv5,(by simp[a1,a5]),(by rw[eG];simp),Str.ofString j,Cq pv4 (nV aB),.inr "awaited",.cons ept .nil,(q0D h9).at aA,ws++[V.ref p],ptc nR pv3 cN,ptc kH pv2 aB,pcr aZ pv2 aD,hks n (ϒ en),(by rw[hn];rfl),S1.bC.worth s,2+2 * (i:Int),.int (p':Int),(eL).trans d3,(eL).trans d1,(eL).trans c2,tX pv0 aB zS,ms.map V.int,S.ans.take i,I'++[y]++[x],.iff s b' o',some j∈ws,pa2 pv0 pv4,(by simp[hb]),(aP (vT 2e12)),(aG (aK 8e0)),(aG (aK 3e5)),(aG (aK 4e2)),W2.trans W',TM.trans T4,N1.trans N2,F2.trans F4,F2.trans F3,F1.trans F3,A2.Dj T3 K4,.ltr m k0 w,.don mo j w,pa2 pv3 aB,(by cases e),QQ rv R.da,Or.inr rfl,Kp.new hr',F6.free hc,F4.free hc,300 - many,.lst [.Xu],h.2.at el,(fun z=>?_),aE.nil NR,aE.nil NQ,aE.new h2,V.ref R.x,RG.new h8,Kp.new hc,Kp.new h6,Kp.new h4,D6.new h6,D5.new h2,.str "on"]
theorem qI:Ok T T.nE 1 MZ:=by
 nomatch T.nE
 ·obtain⟨z,k,rfl,_⟩:=h;rfl
 ·obtain⟨z,k,rfl,q⟩:=h
  nomatch (pss2 (pif (ptc Vl pv0 6e3) (aG (aK (aV (pa3 (bD iR pv0 6e3) aB pv1))))) (aK (aV (pa3 pv0 aB pv1)))),0
  wp_walk;split
  ·exact fun r hr'=>q r _ hr' 7e50 ⟨_,_,_,aA,by omega,by omega⟩
  ·exact fun r hr'=>q r _ hr' 7e50 ⟨_,_,_,aA,by omega,by omega⟩
theorem aU:Ok T T.bF 1 HN:=by
 nomatch T.bF
 ·obtain⟨r,m,n,rfl,_⟩:=h;rfl
 ·obtain⟨r,m,n,rfl,m0,m1,⟨c,f,s,hr0,s0,s1⟩,hn,q⟩:=h
  nomatch (aI (mE (bD cI 4e2 aB) 2e48) (aI (pif (ptc aZ 4e2 aB) (pss3 (pst 2 (bD zB 4e2 pv1)) (mE (bD DO 4e2 pv1) 2e48) 0e18)) (pss3 (pst 3 (bD zB (bD cI 4e2 (bD l9 aB 4e2)) aB)) (pst 3 (bD zB (bD l9 pv3 pv3) aB)) (aK (bD zB (bD DO (bD zB (bD l9 pv3 (bD cI (bD cI pv3 aB) (bD l9 aB 4e2))) aB) aB) pv1))))),0
  exists hr0,ix32
  split
  ·exact⟨m0,⟨m0,log2_lt m0 m1⟩,q _ _ (Int.emod_nonneg _ 1e0) 6e41 ⟨_,_,_,aA,by omega,by omega⟩ ((Kp.set 0e0).trans (Kp.set 0e0))⟩
  ·exact⟨Ht 7e0 7e0,Qu 7e0 7e0 _,Qu 7e0 7e0 _,⟨by decide,by decide⟩,m0,q _ _ (Int.emod_nonneg _ 1e0) 6e41 ⟨_,_,_,aA,by omega,by omega⟩ (Kp.set 0e0)⟩
theorem rQ:Ok T T.lT 1 MY:=by
 nomatch T.lT
 ·obtain⟨fl,I,x,y,i,s,rfl,_⟩:=h;rfl
 ·obtain⟨fl,I,x,y,i,s,rfl,F,hh,hl,q⟩:=h;have hu:=nI hr
  nomatch (pss2 (mE (vT pv0) (MI rfl (fQ (pgn 1) (fQ (pgn 2) (fQ 1e24 vV))))) (gB (ptc aZ 3e0 aD) (aG (aP (dP 0e33 (bD k7 pv1 (aY (pa2 4e19 (bU eE rfl T.iK eX (pa1 (SY pv3 (nV 8e0)))))))))) (aG (aP (dP 0e33 (bD k7 pv1 (aY (pa1 4e19)))))))),0
  have la:=Pa 8e1 y;have ld:=Jk 8e1 y;have ef:=F.e;obtain⟨P1,FY⟩:=F.pop;obtain⟨hv,YT,e1,e2,e3,e4,e5⟩:=FY;rw[hh] at e2;obtain⟨ha,sv,rfl,eh,hS⟩:=e2;have K1:Kp (fl::x.1.cells) H (Xt H fl 9e36):=Kp.set 0e0;left
  exists ef,la,ld
  refine⟨_,gE.of e1,rfl,?_⟩;generalize Xt H fl 9e36=G1 at *;wp_walk;right;obtain⟨ux,ex⟩:=(P1.fr x 0e0).cu;obtain⟨hvx,usx,x1,_⟩:=P1.fr x 0e0;have ep:=P1.e;have l1:=Hq I x;have tl:∀(m:Stm) (p:Addr) (GP:Hp) (Kc:VK) (ys:List V),m=fE y.2 i s->GP p=some (.tup ys)->ys.length<=4->(∀ pt Gt,Gt pt=some (.tup ([.str (if i=true then "if" else "while"),sv]++ys))->Kp [] GP Gt->cJ Gt 6e31 m)->Kp [] G1 GP->(∀ pt Gt us,Gt x.1.cur=some 8e17->us.length < 16777216->Q .Xu (Xt Gt x.1.cur 8e6)->Kc 6e31 Gt)->wQ (.ref ha) 5e4 GP Kc:=fun m p GP Kc ys em ep ly hm KP k=>by
   refine Ez (KP.at eh) ep 2e21 fun pt Gt et Kt=>?_;subst em;have KT:=KP.trans Kt;obtain⟨us,b,c1,c2,c3,c4,c5⟩:=(P1.kp KT).app (hm pt Gt et Kt);have lu:=c2.len;have lx:=hl x 0e0;refine k _ _ _ c1 ?_ (q _ c5 (fun z o e n=>?_))
   ·rcases c3 with rfl|c3
    ·omega
    ·rw[c3] at lx;have:b.length<=1000:=lx.2;omega
   ·rw[aC (fun y=>n (by rw[y];exact ϓ _ c4))];exact KT.at (K1 z o e n)
  clear q P1 F la ld ef hl;cases i with
  | true =>
   replace eh:G1 ha=some (.tup [.str "if",sv]):=eh
   exists eh,ep,l1,x1,E1,ex,e3
   refine fun l hl=>?_;generalize hg:Xt G1 l (.tup YT)=G2;have NL:Kp [] G1 G2:=hg▸Kp.new hl;have el:G2 l=some (.tup YT):=hg▸aA;clear hg;have ny:∀(q2 p:Addr) (Zb:List V) (G3:Hp) (Kc:VK),G3 q2=some (.tup Zb)->bX G3 Zb 1e46->Kp [] G2 G3->G3 p=none->(∀ pt Gt us,Gt x.1.cur=some 8e17->us.length < 16777216->Q .Xu (Xt Gt x.1.cur 8e6)->Kc 6e31 Gt)->wQ (.ref ha) 5e4 (Xt G3 p (.tup [.ref l,.ref q2])) Kc:=fun q2 p Zb G3 Kc z1 z2 K3 hp k=>by
    have NP:=q0D (o:=.tup [.ref l,.ref q2]) hp;refine tl _ p _ Kc [.ref l,.ref q2] rfl aA 0e0 (fun pt Gt et Kt=>?_) ((NL.trans K3).trans NP) k;have TT:=aE.nil (NP.trans Kt);exact .iff et (hS.kp 3e36) (TT _ _ (K3.at el)) (e4.kp 3e36) (TT _ _ z1) (z2.kp TT)
   clear tl;cases hy2:y.1.f2 with
   | none =>
    have hb:y.2.b2.getD []=[]:=by
     rw[hy2] at e5;cases h:y.2.b2 with
     | none=>rfl
     | some b=>rw[h] at e5;exact e5.elim
    exists rv
    exact fun le hle q2 hq2 p hp=>ny q2 p [] _ _ aA (by rw[hb];exact .nil) 2e26 hp fun pt Gt us c1 c2 c3=>by rw[c1];exact⟨c2,c3⟩
   | some a2 =>
    rw[hy2] at e5;obtain⟨Zb,e6,e7⟩:∃ Zb,G1 a2=some (.lst Zb)/\bX G1 Zb 1e46:=by
     cases h:y.2.b2 with
     | none=>rw[h] at e5;exact e5.elim
     | some b=>rw[h] at e5;obtain⟨us,e6,e7⟩:=e5;exact⟨us,e6,e7⟩
    replace e6:=NL.at e6;replace e7:=e7.kp 3e22
    exists rv,e6
    split
    ·exact fun q2 hq2 p hp=>ny q2 p Zb _ _ aA (e7.kp (aE.nil 1e26)) 1e26 hp fun pt Gt us c1 c2 c3=>by rw[c1];exact⟨c2,c3⟩
    ·next ht =>
     have hu:Zb=[]:=by cases Zb<;>simp at ht ⊢
     subst hu;exact fun le hle q2 hq2 p hp=>ny q2 p [] _ _ aA (e7.kp (aE.nil 2e26)) 2e26 hp fun pt Gt us c1 c2 c3=>by rw[c1];exact⟨c2,c3⟩
  | false =>
   replace eh:G1 ha=some (.tup [.str "while",sv]):=eh
   exists eh,ep,l1,x1,E1,ex,e3
   refine fun l hl p hp=>?_;have NL:=(q0D (o:=.tup YT) hl).trans (Kp.new (o:=.tup [.ref l]) hp);exact tl _ p _ _ [.ref l] rfl aA 0e0 (fun pt Gt et Kt=>.XM et (hS.kp 4e43) (Kt.at ((q0D hp).at aA)) (e4.kp 4e43)) NL fun pt Gt us c1 c2 c3=>by rw[c1];exact⟨c2,c3⟩
theorem gQ:Ok T T.iC 2 HM:=by
 nomatch T.iC
 ·obtain⟨r,n,rfl,_⟩:=h;rfl
 ·obtain⟨r,n,rfl,hR,hn,q⟩:=h
  nomatch (aG (aK (pix aM (aV 7e27) 0e1))),0
  wp_walk;refine fun p hp=>⟨_,hR.new hp,by omega,fun g H1 a1 b1 R1 K1=>?_⟩
  exists made1 K1 hR hp
  refine iI a1 b1 fun v hv=>?_;have K:=(Kp.new (S:=[r]) hp).trans K1;simp only[Α,Δ,Υ] at hv;rcases hv with rfl|rfl|rfl|rfl<;>exact q _ _ R1 K
theorem CA{d:Nat}(hn:3<=n)(IH:gM P w K mg base Yj n t.pU t.qA ["deck","deep"] (Cw d)):Ok T T.cA (n+1) (Cw (d+1)):=by
 nomatch T.cA
 ·obtain⟨r,dp,n,rfl,_⟩:=h;rfl
 ·obtain⟨r,dp,n0,rfl,d1,d2,hR,hn0,q⟩:=h
  nomatch (aI (pst 2 0e1) (aI (pif 2e47 (aG (aK (aY (pa2 aD 3e14))))) (aI (pif (PW.pt (MM 2e47 (FW 0e21))) (aG (aK (pix aM (aV (dN (aY (pa2 aD 0e1)) (dN 3e10 (pa3 3e10 3e10 (aY (pa2 aD 5e3)))))) 0e1)))) (aI (pif 4e29 (aG (aK (aY (pa2 aD (pix aM (aV (dN 6e3 (pa3 (fX dW 6e3) aB aB))) 0e1)))))) (aI 3e35 (pss3 3e35 (pst 3 2e25) (aK (aY (pa3 (pix aM (aV (dN aD 7e27)) 0e1) pv3 2e25))))))))),0
  left;wp_walk;have bp:=QX d;have be:bd (d+1)=2 * bd d+3:=rfl;refine⟨_,hR,by omega,fun g H1 a1 b1 R1 K1=>?_⟩;right;left;wp_walk;split
  ·refine⟨_,R1,by omega,fun x H2 R2 K2=>?_⟩;wp_walk;exact fun p hp=>q _ (.name x) _ (.name aA) trivial 8e8 ((R2.new hp).up 1e0) 2e19
  right;left;wp_walk;simp only[WK];split
  ·refine⟨_,R1,by omega,fun g2 H2 a2 b2 R2 K2=>?_⟩;wp_walk;refine fun p1 h1 p2 h2 p3 h3 p4 h4 p5 h5 p6 h6=>⟨_,(((((R2.new h1).new h2).new h3).new h4).new h5).new h6,by omega,fun g3 H3 a3 b3 R3 K3=>?_⟩;have q1:=(R2.none h1);have q2:=((R2.new (o:=.tup [.str "number",.int g2]) h1).none h2);have q3:=(((R2.new (o:=.tup [.str "number",.int g2]) h1).new (o:=.tup [.str "none"]) h2).none h3);have q4:=((((R2.new (o:=.tup [.str "number",.int g2]) h1).new (o:=.tup [.str "none"]) h2).new (o:=.tup [.str "arg"]) h3).none h4);have q5:=(((((R2.new (o:=.tup [.str "number",.int g2]) h1).new (o:=.tup [.str "none"]) h2).new (o:=.tup [.str "arg"]) h3).new (o:=.tup [.str "now"]) h4).none h5);have q6:=((((((R2.new (o:=.tup [.str "number",.int g2]) h1).new (o:=.tup [.str "none"]) h2).new (o:=.tup [.str "arg"]) h3).new (o:=.tup [.str "now"]) h4).new (o:=.tup [.str "number",.int (-7)]) h5).none h6);have N6:=q0D (o:=.lst [.ref p1,.ref p2,.ref p3,.ref p4,.ref p5]) h6;have N5:=(q0D (o:=.tup [.str "number",.int (-7)]) h5).trans N6;have N4:=(q0D (o:=.tup [.str "now"]) h4).trans N5;have N3:=(q0D (o:=.tup [.str "arg"]) h3).trans N4;have N2:=(q0D (o:=.tup [.str "none"]) h2).trans N3;have N1:=(q0D (o:=.tup [.str "number",.int g2]) h1).trans N2;have t1:=K3.at1 (N2.at aA) q1;have t2:=K3.at1 (N3.at aA) q2;have t3:=K3.at1 (N4.at aA) q3;have t4:=K3.at1 (N5.at aA) q4;have t5:=K3.at1 (N6.at aA) q5;have t6:=K3.at1 aA q6;have K:=((K1.trans K2).trans (N1.mono (T:=[r]) 0e0)).trans K3
   exists t6
   refine iI a3 b3 fun v hv=>?_;simp only[Α,Δ,Υ] at hv;rcases hv with rfl|rfl|rfl|rfl|rfl
   ·exact q _ (.num g2) _ (.num t1) ⟨by omega,by omega⟩ 8e8 (R3.up 1e0) K
   ·exact q _ .Xu _ (.Xu t2) trivial 8e8 (R3.up 1e0) K
   ·exact q _ .arg _ (.arg t3) trivial 8e8 (R3.up 1e0) K
   ·exact q _ .now _ (.now t4) trivial 8e8 (R3.up 1e0) K
   ·exact q _ (.num (-7)) _ (.num t5) ⟨by decide,by decide⟩ 8e8 (R3.up 1e0) K
  rename_i hc
  right;left;wp_walk;split
  ·refine fun p hp=>⟨_,R1.new hp,by omega,fun g2 H2 a2 b2 R2 K2=>?_⟩
   exists made1 K2 R1 hp
   refine iI a2 b2 fun v hv=>?_;wp_walk;refine fun p2 h2=>?_;have K:=((K1.trans 1e10).trans K2).trans (Kp.new (o:=.tup [.str "number",v]) h2);simp only[Α,Δ,Υ] at hv;rcases hv with rfl|rfl|rfl|rfl<;>exact q _ (.num _) _ (.num aA) ⟨by decide,by decide⟩ 8e8 ((R2.new h2).up 1e0) K
  right;left;wp_walk;split
  ·refine⟨r,dp - 1,_,rfl,by omega,by omega,R1,by omega,fun v s H2 hv ok hdp R2 K2=>?_⟩;wp_walk;exact fun p hp=>q _ (.ans s) _ (.ans aA 7e9) ok 5e26 ((R2.new hp).up 1e0) 2e19
  right;left;wp_walk;split
  ·refine⟨r,dp - 1,_,rfl,by omega,by omega,R1,by omega,fun v s H2 hv ok hdp R2 K2=>?_⟩;wp_walk;exact fun p hp=>q _ (.neg s) _ (.neg aA 7e9) ok 5e26 ((R2.new hp).up 1e0) 2e19
  right;left;wp_walk;refine⟨r,dp - 1,_,rfl,by omega,by omega,R1,by omega,fun u s1 H2 hv1 ok1 hd1 R2 K2=>?_⟩;right;wp_walk;refine fun p hp=>⟨_,R2.new hp,by omega,fun g3 H3 a3 b3 R3 K3=>?_⟩
  exists made1 K3 R2 hp
  refine iI a3 b3 fun v hv=>?_;wp_walk;refine⟨r,dp - 1,_,rfl,by omega,by omega,R3,by omega,fun u2 s2 H4 hv2 ok2 hd2 R4 K4 p2 h2=>?_⟩;have K:=(((K1.trans K2).trans 1e10).trans K3).trans (K4.trans (Kp.new (o:=.tup [v,u,u2]) h2));have T1:aE H2 2e41:=(((aE.new hp).trans ((R2.new hp).tk K3)).trans (R3.tk K4)).trans 6e51;have fin:∀ gg:Sg,v=.str gg.s->Q 3e3 2e41:=fun gg e=>by
   subst e;exact q _ (.two gg s1 s2) _ (.two aA (hv1.kp T1) (hv2.kp 6e51)) ⟨ok1,ok2⟩ 5e26 ((R4.new h2).up 1e0) K
  simp only[Α,Δ,Υ] at hv;rcases hv with e|e|e|e|e
  ·exact fin .add e
  ·exact fin .sub e
  ·exact fin .mul e
  ·exact fin .lt e
  ·exact fin .eq e
theorem c9(T:Tx P w base K mg t):∀ d,gM P w K mg base Yj (d+3) t.pU t.qA ["deck","deep"] (Cw d):=by
 intro d
 induction d with
 | zero=>exact⟨fun _ _ _ _ x=>by (obtain⟨_,_,_,_,h,h',_⟩:=x;exact absurd h 1e0),fun _ _ _ _ _ _ _ _ _ _ _ _ _ x=>by (obtain⟨_,_,_,_,h,h',_⟩:=x;exact absurd h 1e0)⟩
 | succ d ih=>exact CA T 1e0 ih
theorem DK:Ok T T.sW 9 Eg:=by
 nomatch T.sW
 ·obtain⟨r,n,rfl,_⟩:=h;rfl
 ·obtain⟨r,n,rfl,hR,hn,q⟩:=h
  nomatch (aI (pst 1 0e1) (aI (pif 0e21 1e35) (aI (pif 0e21 6e33) (aI (pif 2e10 1e35) (pss3 (pif 2e10 6e33) (pif 2e10 (aG (aK (aY (dN aD (pa3 (pcl 1e11 T.cA 9e13) (pix aM 3e7 0e1) (pcl 1e11 T.cA 9e13))))))) 4e36))))),0
  left;wp_walk;have b4:bd 4=93:=rfl;refine⟨_,hR,by omega,fun g H1 a1 b1 R1 K1=>?_⟩;right;left;wp_walk;split
  ·refine⟨_,R1,by omega,fun x H2 R2 K2=>?_⟩;wp_walk;refine⟨r,4,_,rfl,by decide,by decide,R2,by omega,fun v s H3 hv ok hd R3 K3 p hp=>?_⟩;exact q _ (.set x s) _ (.set aA 7e9) ⟨⟨ok,by omega⟩,rfl⟩ (((K1.trans K2).trans K3).trans 1e10)
  right;left;wp_walk;split
  ·refine⟨_,R1,by omega,fun x H2 R2 K2=>?_⟩;wp_walk;refine fun p1 h1=>⟨_,R2.new h1,by omega,fun g3 H3 a3 b3 R3 K3=>?_⟩
   exists made1 K3 R2 h1
   refine iI a3 b3 fun y hy=>?_;wp_walk;obtain⟨z,rfl⟩:∃ z:Str,y=.str z:=by simp only[Α,Δ,Υ] at hy;rcases hy with rfl|rfl<;>exact⟨_,rfl⟩
   refine⟨r,3,_,rfl,by decide,by decide,R3,by omega,fun v s H4 hv ok hd R4 K4 p hp=>?_⟩;exact q _ (.order x z s) _ (.order aA 7e9) ⟨⟨ok,by omega⟩,rfl⟩ 9e24
  right;left;wp_walk;split
  ·refine⟨_,R1,by omega,fun x H2 R2 K2=>?_⟩;wp_walk;refine⟨r,3,_,rfl,by decide,by decide,R2,by omega,fun v s H3 hv ok hd R3 K3 p hp=>?_⟩;exact q _ (.XC x s) _ (.XC aA 7e9) ⟨⟨ok,by omega⟩,rfl⟩ (((K1.trans K2).trans K3).trans 1e10)
  right;left;wp_walk;split
  ·refine⟨_,R1,by omega,fun x H2 R2 K2=>?_⟩;wp_walk;refine fun p1 h1=>⟨_,R2.new h1,by omega,fun g3 H3 a3 b3 R3 K3=>?_⟩
   exists made1 K3 R2 h1
   refine iI a3 b3 fun y hy=>?_;wp_walk;obtain⟨z,rfl⟩:∃ z:Str,y=.str z:=by simp only[Α,Δ,Υ] at hy;rcases hy with rfl|rfl<;>exact⟨_,rfl⟩
   refine⟨r,3,_,rfl,by decide,by decide,R3,by omega,fun v s H4 hv ok hd R4 K4 p hp=>?_⟩;exact q _ (.child x z s) _ (.child aA 7e9) ⟨⟨ok,by omega⟩,rfl⟩ 9e24
  right;left;wp_walk;split
  ·refine⟨r,2,_,rfl,by decide,by decide,R1,by omega,fun v s H2 hv ok hd R2 K2=>?_⟩;wp_walk;refine fun p1 h1=>⟨_,R2.new h1,by omega,fun g3 H3 a3 b3 R3 K3=>?_⟩
   exists made1 K3 R2 h1
   refine iI a3 b3 fun y hy=>?_;wp_walk;obtain⟨z,rfl⟩:∃ z:Str,y=.str z:=by simp only[Α,Δ,Υ] at hy;rcases hy with rfl|rfl<;>exact⟨_,rfl⟩
   refine⟨r,3,_,rfl,by decide,by decide,R3,by omega,fun v2 s2 H4 hv2 ok2 hd2 R4 K4 p hp=>?_⟩;have T1:aE H2 (Xt H4 p (.tup [.str "send",v,.str z,v2])):=(((aE.new h1).trans ((R2.new h1).tk K3)).trans (R3.tk K4)).trans 6e9;exact q _ (.send s z s2) _ (.send aA (hv.kp T1) (hv2.kp 6e9)) ⟨⟨⟨ok,by omega⟩,ok2,by omega⟩,rfl⟩ 9e24
  right;wp_walk;refine⟨r,2,_,rfl,by decide,by decide,R1,by omega,fun v s H2 hv ok hd R2 K2 p hp=>?_⟩;exact q _ 9e17 _ (.drop aA 7e9) ⟨⟨ok,by omega⟩,rfl⟩ 2e19
theorem Cm:Ok T T.qG 12 Nj:=by
 nomatch T.qG
 ·obtain⟨r,n,rfl,_⟩:=h;rfl
 ·obtain⟨r,n,rfl,hR,hn,q⟩:=h
  nomatch (aI (pst 1 0e1) (aI (pif 0e21 (pss2 (mF (i:=2) (fr:=[0]) (N:=["k","deck"]) rfl 1e4 8e13 (lE rfl T.qN (pa1 (bD cI aB 0e1))) (fun C s H ex pn=>⟨Cs,(Co 1e11 (hr.mono 1e0) rfl T.cA.m T.cA.fn.kp T.cA.bd .nil pass0 (dN 8e7 (dN aB bT))) ⟩) sc rfl 4e12) (aK (aY (pa3 aD 3e14 4e19))))) (pss3 (pif 2e10 (aG (aK (aY (pa3 aD 3e14 (pix aM 3e7 0e1)))))) (pif (PW.pt (eP 2e10 (dQ (ptc aZ 0e1 aB)))) (aG 4e36)) (aK (pcl (DK T) T.sW 2e14))))),0
  have bb:bd 4=93:=rfl;left;wp_walk;refine⟨_,hR,by omega,fun g G1 a1 b1 D1 K1=>?_⟩;wp_walk;right;left;refine cP fun RI XA=>?_;wp_walk;split
  ·refine XA _ _ ?_;clear XA RI;left;wp_walk;refine⟨_,D1,by omega,fun gm G4 a4 b4 D4 K4=>⟨⟨by omega,by omega⟩,?_⟩⟩;obtain⟨Pv,XD⟩:∃ Pv:Nat->List V->Hp->Prop,∀ i xs G,Pv i xs G = ∃ ss:List Say,gO G xs ss/\ss.length=i/\i<=4/\(∀ s∈ss,s.sok)/\bO G r (n+2+93 * i)/\Kp [r] H G:=⟨_,fun _ _ _=>rfl⟩;refine L5 (lo:=0) Pv ?_ ?_ ?_ ?_
   ·rw[XD];exact⟨[],.nil,rfl,by omega,by simp,D4,K1.trans K4⟩
   ·intro i xs G h;rw[XD] at h;obtain⟨ss,hS,lS,l3,_⟩:=h;have lv:=hS.SD;omega
   ·intro i xs G hi h;rw[XD] at h;obtain⟨ss,hS,lS,l3,hL,DG,KG⟩:=h
    exists aX,Β6
    refine⟨r,2,_,rfl,by decide,by decide,DG,by omega,fun v s G5 hv ok hd D5 K5=>?_⟩;show Pv 4e1 _ _;rw[XD];refine⟨ss++[s],(hS.kp (DG.tk K5)).HL hv,by simp[lS],by omega,fun y hy=>?_,D5.up 1e0,KG.trans K5⟩;rcases Κ.mp hy with hy|hy
    ·exact hL y hy
    ·rw[show y=s by simpa using hy];exact⟨ok,by omega⟩
   intro xs G h l hl;rw[XD] at h;obtain⟨ss,hS,lS,l3,hL,DG,KG⟩:=h;have nlr:=DG.none hl;have NL:=q0D (o:=.lst xs) hl;have el:Xt G l 8e31 l=some 8e31:=aA;replace hS:=hS.kp 3e22;replace DG:=DG.kp NL;replace KG:=KG.trans (NL.mono (T:=[r]) 0e0);generalize Xt G l 8e31=G8 at *;clear NL hl XD Pv;right;wp_walk;refine⟨_,DG,by omega,fun x G9 D9 K9=>?_⟩;have el9:=K9.at1 el nlr
   exists el9
   refine fun p8 h8 p9 h9=>?_;have N:=(q0D (o:=.tup xs) h8).trans (Kp.new (o:=.tup [.str "wait",.str x,.ref p8]) h9);exact q _ 6e12 _ (.wait aA 9e46 (hS.kp ((DG.tk K9).trans 3e1))) ⟨rfl,by omega,hL⟩ rfl ((KG.trans K9).trans (N.mono 0e0))
  clear XA RI;right;left;wp_walk;split
  ·refine⟨_,D1,by omega,fun x G2 D2 K2=>?_⟩;wp_walk;refine fun p1 h1=>⟨_,D2.new h1,by omega,fun g3 G3 a3 b3 D3 K3=>?_⟩
   exists made1 K3 D2 h1
   refine iI a3 b3 fun y hy=>?_;obtain⟨z,rfl⟩:∃ z:Str,y=.str z:=by simp only[Α,Δ,Υ] at hy;rcases hy with rfl|rfl<;>exact⟨_,rfl⟩
   wp_walk;intro p4 h4;exact q _ (.Xy x z) _ (.Xy aA) trivial rfl ((((K1.trans K2).trans 5e22).trans K3).trans 1e52)
  right;refine bQ fun R4 hR4=>?_;refine cP fun RI XA=>?_
  suffices fin:(∀ n' G,bO G r n'->n'<=n+2->Kp [r] H G->RI [some 9e4,some (.int g),none] G)/\(∀ n' G,bO G r n'->n'<=n+2->Kp [r] H G->R4 [some 9e4,some (.int g),none] G) by
   wp_walk;split
   ·refine⟨_,D1,by omega,fun g2 G2 a2 b2 D2 K2=>?_⟩;split
    ·exact fin.1 _ _ D2 1e0 6e21
    ·exact fin.2 _ _ D2 1e0 6e21
   ·exact fin.2 _ _ D1 1e0 K1
  refine⟨fun n' G DG ln KG=>XA _ _ ?_,fun n' G DG ln KG=>?_⟩
  ·clear XA RI;wp_walk;refine⟨r,3,_,rfl,by decide,by decide,DG,by omega,fun v s G5 hv ok hd D5 K5=>?_⟩;wp_walk;intro p4 h4;exact q _ (.fin s) _ (.fin aA (hv.kp (aE.new h4))) ⟨ok,by omega⟩ rfl ((KG.trans K5).trans 1e52)
  ·clear XA RI;refine hR4 _ _ ?_;clear hR4 R4;wp_walk;refine⟨r,_,rfl,DG,by omega,fun v m G5 hm ⟨gm,X0⟩ K5=>?_⟩;wp_walk;exact q _ m _ hm (OX X0 gm) (Vn X0) (KG.trans K5)
theorem AE:Ok T T.nG 20 Nh:=by
 nomatch T.nG
 ·obtain⟨cl,ms,rfl,_⟩:=h;rfl
 ·obtain⟨cl,ms,rfl,ec,lm,q⟩:=h
  nomatch (aI (pst 1 (aV (pa1 (aV (pa3 cN 8e0 cN))))) (pss3 (zF Γ0 rfl (mC pv0) (pgn 2) (pss3 (pst 3 (pcl (qI T) T.nE (pa2 pv2 aB))) (pst 4 (pcl 9e0 T.bF 3e50)) (gB (PW.pt (eP (ptc kH pv4 aB) (dQ (ptc kH 8e14 aB)))) (aG (aP (dP pv1 (aV (pa3 (aY (pa2 (pix aM (aV 7e27) pv4) (pcl 1e11 T.cA 3e50))) 8e0 cN))))) (aG (gB (PW.pt (eP 2e29 (dQ (ptc Hx 8e14 aB)))) 3e39 (aG (gB (PW.pt (eP 2e29 (eP (ptc Hx 8e14 aB) (eP (ptc aZ (pix aM 8e26 aB) aD) (dQ (ptc nR 8e26 cN)))))) (aG (mE 8e0 (tX (pix aM pv1 5e3) aB zS))) (aG (aP (dP (pix aM (pix aM pv1 5e3) (bD cI aB (bU gT rfl T.AK mW (pa1 (pcr oY 8e26 cN))))) (pcl (Cm T) T.qG 1e23))))))))))) (nW Γ0 (ptc Hx 8e14 aB) 3e39) (aK (bU eE rfl T.iK eX (pa1 (pix aM 3e0 aB)))))),0
  left;wp_walk;refine fun f1 h1 fa h2 fl h3=>?_;have n1:fa≠f1:=fun z=>by rw[z,aA] at h2;cases h2
  have n2:fl≠fa:=fun z=>by rw[z,aA] at h3;cases h3
  have n3:fl≠f1:=fun z=>by rw[z,aC n1.symm,aA] at h3;cases h3
  have e1:Xt 6e11 fl 9e9 f1=some 2e0:=by rw[aC n3.symm,aC n1.symm,aA]
  have e2:Xt 6e11 fl 9e9 fa=some 5e11:=by rw[aC n2.symm,aA]
  have e3:Xt 6e11 fl 9e9 fl=some 9e9:=aA;have K1:Kp [] H (Xt 6e11 fl 9e9):=((Kp.new h1).trans (Kp.new h2)).trans (Kp.new h3);have z2:H fa=none:=by rw[aC n1] at h2;exact h2
  have z3:H fl=none:=by rw[aC n2,aC n3] at h3;exact h3
  have F1:iX (Xt 6e11 fl 9e9) fl ([]++[(⟨fa,f1,none⟩,⟨none,[],none⟩)]):=⟨e3,fun x hx=>by
   rw[show x=(⟨fa,f1,none⟩,⟨none,[],none⟩) by simpa using hx];exact⟨.Xu,[],e2,rfl,e1,.nil,trivial⟩,by simp[dS,FC.cells,n1,n2,n3]⟩
  have fr1:∀ a∈fl::dS ([]++[((⟨fa,f1,none⟩:FC),(⟨none,[],none⟩:Fr))]),H a=none:=fun a ha=>by
   simp only[Α1,dS,List.flatMap_cons,List.flatMap_nil,FC.cells,Option.toList_none,ϝ,Α,Δ,Υ] at ha;rcases ha with rfl|rfl|rfl
   ·exact z3
   ·exact z2
   ·exact h1
  generalize Xt 6e11 fl 9e9=G1 at *;clear e1 e2 e3 h2 h3;right;left;wp_walk;have ec1:=K1.at ec;refine⟨⟨_,gE.of ec1⟩,?_⟩;obtain⟨Pv,XD⟩:∃ Pv:Nat->St->Hp->Prop,∀ i σ G,Pv i σ G=E5 fun(v2 v3 v4:Option V) (I:List 2e32) (x:FC×Fr)=>A7 2e38 (iX G fl 8e1) (GL 8e1) (CC 8e1<=2 * i+2) (I.length<=5) 5e39 6e30:=⟨_,fun _ _ _=>rfl⟩;refine LI (xs:=ms.map V.int) Pv ?_ ?_ ?_ ?_
  ·rw[XD];exact⟨_,_,_,[],_,rfl,F1,(show GL [] from fun j x e=>by simp at e).snoc ⟨trivial,trivial,by simp[qB],by simp[qB],fun z=>absurd rfl z⟩,by simp[CC,cH],by simp,fr1,K1⟩
  ·intro i σ G _ h;rw[XD] at h;obtain⟨_,_,_,_,_,_,_,_,_,_,_,k⟩:=h;exact gE.of (k.at ec)
  ·intro i y σ G hi h;rw[XD] at h;obtain⟨v2,v3,v4,I,x,rfl,F,gl,sz,ll,fr,KG⟩:=h;obtain⟨z,rfl⟩:=O0 hi;have hil:i < ms.length:=by have:=(Ν.mp hi).1;simpa using this
   have back:∀(v2 v3 v4:Option V) (I:List 2e32) (x:FC×Fr) (G':Hp),iX G' fl 8e1->GL 8e1->CC 8e1<=2 * 4e1+2->I.length<=5->(∀ a∈fl::dS 8e1,H a=none)->Kp [] H G'->Pv 4e1 [some 4e4,some 9e5,v2,v3,v4] G':=fun v2 v3 v4 I x G' x1 x2 x3 x4 x5 x6=>by
    rw[XD];exact⟨_,_,_,I,x,rfl,x1,x2,x3,x4,x5,x6⟩
   clear XD;left;wp_walk;refine⟨z,3,rfl,fun dk G3 ZD K3 RD=>?_⟩;wp_walk;right;left;wp_walk;refine⟨_,RD,by omega,fun kd G4 a4 b4 D4 K4=>?_⟩;have fdk:=F.free ZD;have abA:H dk=none:=KG.cL ZD;have KK:Kp [] G G4:=fun b o e _=>K4.at1 5e31 4e31;replace F:=F.kp KK;replace KG:=KG.trans KK;wp_walk;right;have YW:=F.e;have le:((I++[x]).map fun x=>V.ref x.1.fa).length=I.length+1:=by simp
   have l1:=Hq I x;have FX:=F.fr x 0e0;have FX0:=FX;obtain⟨hvx,usx,x1,x2,x3,x4,x5⟩:=FX;have lsz:∀ z∈I++[x],z.2.b1.length<=1000/\(z.2.b2.getD []).length<=1000:=fun z hz=>by
    have:=Gj hz;have:=lW z.2.b1;have:=lW 0e46;omega
   have gx:=gl.top;refine cP fun RI XA=>?_;refine sP fun RE Yt=>?_
   suffices fin:(kd < 4->I.length < 5->RI [some 4e4,some 9e5,some 0e6,some 5e7,some 3e2] G4)/\RE [some 4e4,some 9e5,some 0e6,some 5e7,some 3e2] G4 by
    exists YW,le
    split
    ·next h1 =>
     split
     ·next h2=>exact fin.1 h1 1e0
     ·exact fin.2
    ·exact fin.2
   refine⟨fun k4 l5=>XA _ _ ?_,Yt _ _ ?_⟩
   ·clear XA RI Yt RE
    exists YW
    refine fun pl X0=>?_;refine iI a4 2e21 fun v hv=>?_;obtain⟨ib,rfl⟩:∃ ib:Bool,v=.str 7e32:=by
     simp only[Α,Δ,Υ] at hv;rcases hv with rfl|rfl|rfl|rfl
     ·exact⟨true,rfl⟩
     ·exact⟨false,rfl⟩
     ·exact⟨true,rfl⟩
     ·exact⟨true,rfl⟩
    have NP:=q0D (o:=.lst [.str "if",.str "while",.str "if",.str "if"]) X0;have DP:=D4.kp NP;have FP:=F.kp NP;have KP:=KG.trans NP;have ac2:dk∉fl::dS 8e1:=fdk;generalize Xt G4 pl (.lst [.str "if",.str "while",.str "if",.str "if"])=G5 at *;have bb:bd 4=93:=rfl;wp_walk;refine⟨dk,3,_,rfl,by decide,by decide,DP,by omega,fun sv s G6 hs ok hd D6 K6=>?_⟩;have KX:∀ b o,G5 b=some o->b≠dk->G6 b=some o:=fun b o e n=>K6.at1 e n;have F6:=FP.keep (fun a ha o e=>KX a o e (fun z=>fdk 8e4)) (DP.tk K6);have KH6:Kp [] H G6:=fun b o e _=>KX b o (KP.at e) (aF e abA);wp_walk;refine fun ht h1 ZT h2 fa' h3=>?_;have N1:=q0D (o:=.tup [.str 7e32,sv]) h1;have N2:=q0D (o:=.lst []) h2;have N3:=q0D (o:=.lst [.ref ht,.ref ZT,.Xu]) h3;have m1:=((F6.kp N1).kp N2).free h3;have m2:=(F6.kp N1).free h2;have z1:H ZT=none:=(KH6.trans N1).cL h2;have z2:H fa'=none:=((KH6.trans N1).trans N2).cL h3;have m3:fa'≠ZT:=fun z=>by rw[z,aA] at h3;cases h3
    have NN:=(N1.trans N2).trans N3;have eh:=N3.at (N2.at (show Xt G6 ht 1e14 ht=some 1e14 from aA));have e2:=N3.at (show Xt (Xt G6 ht 1e14) ZT 2e0 ZT=some 2e0 from aA);have e1:Xt (Xt (Xt G6 ht 1e14) ZT 2e0) fa' 9e26 fa'=some 9e26:=aA;generalize Xt (Xt (Xt G6 ht 1e14) ZT 2e0) fa' 9e26=G7 at *;have F7:=(F6.kp NN).push e1 e2 (h:=some (ib,s)) ⟨ht,sv,rfl,eh,hs.kp (aE.nil NN)⟩ m1 m2 m3;have abU:=(F6.kp NN).e
    exists abU
    refine⟨by rw[le];omega,?_⟩;rw[show((I++[x]).map fun x=>V.ref x.1.fa)++[V.ref fa']=(8e1++[((⟨fa',ZT,none⟩:FC),(⟨some (ib,s),[],none⟩:Fr))]).map fun x=>V.ref x.1.fa by simp];refine back _ _ _ 8e1 _ _ F7 (gl.snoc ⟨trivial,trivial,by simp[qB];omega,by simp[qB];omega,fun _=>⟨ib,s,rfl,ok,by omega⟩⟩) ?_ 2e21 (fun b hb=>?_) (fun b o e _=>by
     rw[aC (aF e (fr fl 0e0))];exact NN.at (KH6.at e))
    ·rw[mH,mI];show CC 8e1+(cH []+cH []+2)<=_;have:cH []=0:=by simp[cH]
     omega
    ·rw[bK,bZ] at hb;rcases Α.mp hb with hb|hb
     ·exact fr b 9e48
     ·rcases Κ.mp hb with hb|hb
      ·exact fr b 9e48
      ·simp only[FC.cells,Option.toList_none,Α,Δ,Υ] at hb;rcases hb with rfl|rfl
       ·exact z2
       ·exact z1
   ·clear XA RI Yt RE;refine cP fun RI XA=>?_;refine sP fun RE Yt=>?_
    suffices fin:(0 < I.length->RI [some 4e4,some 9e5,some 0e6,some 5e7,some 3e2] G4)/\RE [some 4e4,some 9e5,some 0e6,some 5e7,some 3e2] G4 by
     exists YW,le
     split
     ·split
      ·next h2=>exact fin.1 1e0
      ·exact fin.2
     ·exact fin.2
    refine⟨fun l0=>XA _ _ ?_,Yt _ _ ?_⟩
    ·clear XA RI Yt RE;obtain⟨I',y,rfl⟩:∃ I' y,I=I'++[y]:=⟨I.dropLast,I.getLast 1e38,(List.dropLast_concat_getLast _).symm⟩;obtain⟨i0,s0,hh,hs0⟩:=gx.2.2.2.2 1e0;wp_walk;refine⟨fl,I',y,x,i0,s0,rfl,F,hh,lsz,fun G5 F5 K5=>?_⟩;obtain⟨c1,c2⟩:=GO gl hh hs0;refine back _ _ _ I' _ G5 F5 c1 1e0 (by rw[Μ] at ll;simp at ll;omega) (fun a ha=>fr a ?_) ?_
     ·rw[bK,bZ] at ha;rw[bK,bK,bZ];rcases Α.mp ha with ha|ha
      ·simp[ha]
      ·rcases Κ.mp ha with ha|ha
       ·simp[ha]
       ·simp[show a∈y.1.cells from ha]
     ·intro b o e _;refine K5 b o 5e23 3e51;have:b∈fl::dS 5e48:=by
       rw[bK,bK,bZ];rcases Α.mp z with z|z
       ·simp[z]
       ·simp[z]
      rw[fr b this] at e;cases e
    ·clear XA RI Yt RE;refine cP fun RI XA=>?_;refine sP fun RE Yt=>?_
     suffices fin:(0 < I.length->x.1.f2=none->RI [some 4e4,some 9e5,some 0e6,some 5e7,some 3e2] G4)/\RE [some 4e4,some 9e5,some 0e6,some 5e7,some 3e2] G4 by
      by_cases l0:0 < I.length
      ·obtain⟨i0,s0,hh,hs0⟩:=gx.2.2.2.2 1e0;rw[hh] at x2;obtain⟨ha,sv,rfl,eh,hS⟩:=x2
       exists YW,le,l1,x1,eh
       repeat' split
       all_goals first|exact fin.2|exact fin.1 l0 (S9 ‹_›)
      ·skip
       exists YW,le
       split
       ·rw[if_neg 1e0];exact fin.2
       ·exact fin.2
     refine⟨fun l0 f0=>XA _ _ ?_,Yt _ _ ?_⟩
     ·clear XA RI Yt RE;rw[f0] at x1;replace x1:G4 x.1.fa=some (.lst [hvx,.ref x.1.f1,.Xu]):=x1
      exists YW,l1,x1
      refine fun a ha=>?_;generalize hg:Xt G4 a 2e0=G5;have NA:Kp [] G4 G5:=hg▸Kp.new ha;have ea:G5 a=some 2e0:=hg▸aA;clear hg;have na:=F.free ha;replace F:=F.kp NA;replace YW:=NA.at YW;replace x1:=NA.at x1;have fa0:H a=none:=KG.cL ha;replace KG:=KG.trans NA;have F5:=F.snd f0 x1 ea na
      exists YW,l1,x1
      rw[show Az 3 2=some 2 from rfl];show Pv 4e1 _ (Xt G5 x.1.fa (.lst [hvx,.ref x.1.f1,.ref a]));obtain⟨g1,g2,g3,g4,g5⟩:=gx;have hb:x.2.b2=none:=by
       cases h:x.2.b2 with
       | none=>rfl
       | some b=>rw[f0,h] at x5;exact x5.elim
      rw[hb] at g2 g4;refine back _ _ _ I _ _ F5 (gl.init.snoc ⟨g1,g2,g3,g4,g5⟩) ?_ ll (fun b XX=>?_) (fun b o e _=>by
       rw[aC (fun z=>by
        rw[z,fr x.1.fa 7e26] at e;cases e)]
       exact KG.at e)
      ·have:=sz;rw[mH,mI,hb] at this;rw[mH,mI];show CC I+(cH x.2.b1+cH (([]:List Stm))+2)<=_;have h0:cH ((none:Option (List Stm)).getD [])=cH ([]:List Stm):=rfl;omega
      ·rw[bK,bZ] at XX;rcases Α.mp XX with XX|XX
       ·exact fr b (by simp[XX])
       ·rcases Κ.mp XX with XX|XX
        ·exact fr b (by rw[bK];simp[XX])
        ·simp only[FC.cells,Α3,Α,Δ,Υ] at XX;rcases XX with rfl|rfl|rfl
         ·exact fr _ 7e26
         ·exact fr _ 7e26
         ·exact fa0
     ·clear XA RI Yt RE;obtain⟨ux,ex⟩:=FX0.cu
      exists YW,l1,x1,E1,ex
      refine⟨dk,_,rfl,D4,by omega,fun v m G5 hm gm hB K5=>?_⟩;have F5:=F.keep (fun a ha o e=>K5.at1 e (fun z=>fdk 8e4)) (D4.tk K5);have KH5:Kp [] H G5:=fun b o e _=>K5.at1 5e23 (aF e abA);obtain⟨us,b,c1,c2,c3,c4,c5⟩:=F5.app hm;have lx:=lsz x 0e0;have lb:us.length<=1000:=by
       have lu:=c2.len;rcases c3 with rfl|c3
       ·omega
       ·rw[c3] at lx;have:b.length<=1000:=lx.2;omega
      have frc:H x.1.cur=none:=fr _ (by rw[bK,bZ];simp[c4]);have dm:m.dp=0:=by cases m<;>first|rfl|cases hB
      have sm:m.sz=1:=Nq hB;have bk:Pv 4e1 [some 4e4,some 9e5,some 0e6,some 5e7,some 3e2] (Xt G5 x.1.cur (.lst (us++[v]))):=back _ _ _ I _ _ c5 (gl.init.snoc (gx.add gm 1e0)) (by
       have ha:=Kd x.2 m;have:=sz;rw[mH,mI] at this ⊢;show CC I+(cH (x.2.add m).b1+cH ((x.2.add m).b2.getD [])+2)<=_;omega) ll (fun b hb=>fr b (by
       rw[bK,bZ] at hb ⊢;exact hb)) (fun b o e _=>by rw[aC (aF e frc)];exact KH5.at e)
      exists c1
      exact⟨by omega,bk⟩
  intro σ G h;rw[XD,Γ] at h;obtain⟨v2,v3,v4,I,x,rfl,F,gl,sz,ll,fr,KG⟩:=h;clear XD;right;left;refine KW fun tb htb=>?_;obtain⟨Y,hY⟩:∃ Y:Nat->St->Hp->Prop,∀ m σ G,Y m σ G=E2 fun(I:List 2e32) (x:FC×Fr)=>A7 2e38 (iX G fl 8e1) (GL 8e1) (CC 8e1<=2 * ms.length+2) 5e39 6e30 (m=I.length):=⟨_,fun _ _ _=>rfl⟩;refine⟨Y,⟨_,(hY _ _ _).mpr ⟨I,x,rfl,F,gl,by omega,fr,KG,rfl⟩⟩,?_⟩;clear F gl sz fr KG I x ll;intro m σ G hG;rw[hY] at hG;obtain⟨I,x,rfl,F,gl,sz,fr,KG,rfl⟩:=hG;have YW:=F.e;have le:((I++[x]).map fun x=>V.ref x.1.fa).length=I.length+1:=by simp
  have lsz:∀ z∈I++[x],z.2.b1.length<=1000/\(z.2.b2.getD []).length<=1000:=fun z hz=>by
   have:=Gj hz;have:=lW z.2.b1;have:=lW 0e46;omega
  have gx:=gl.top
  exists YW,le
  by_cases l0:0 < I.length
  ·rw[if_pos 1e0];refine⟨fun σ' G'=>∃ m',m' < I.length/\Y m' σ' G',fun _ _ z=>z,?_⟩;refine htb _ _ _ ?_;clear htb tb;obtain⟨I',y,rfl⟩:∃ I' y,I=I'++[y]:=⟨I.dropLast,I.getLast 1e38,(List.dropLast_concat_getLast _).symm⟩;obtain⟨i0,s0,hh,hs0⟩:=gx.2.2.2.2 1e0;wp_walk;refine⟨fl,I',y,x,i0,s0,rfl,F,hh,lsz,fun G5 F5 K5=>?_⟩;obtain⟨c1,c2⟩:=GO gl hh hs0;refine⟨I'.length,by simp,(hY _ _ _).mpr ⟨I',_,rfl,F5,c1,by omega,fun a ha=>fr a ?_,?_,rfl⟩⟩
   ·rw[bK,bZ] at ha;rw[bK,bK,bZ];rcases Α.mp ha with ha|ha
    ·simp[ha]
    ·rcases Κ.mp ha with ha|ha
     ·simp[ha]
     ·simp[show a∈y.1.cells from ha]
   ·intro b o e _;refine K5 b o 5e23 3e51;have:b∈fl::dS 5e48:=by
     rw[bK,bK,bZ];rcases Α.mp z with z|z
     ·simp[z]
     ·simp[z]
    rw[fr b this] at e;cases e
  ·rw[if_neg 1e0];have hI:I=[]:=by cases I with|nil=>rfl|cons _ _=>simp at l0
   subst hI;clear hY htb;right;obtain⟨hvx,usx,x1,x2,x3,x4,x5⟩:=F.fr x 0e0;replace YW:G fl=some (.lst [.ref x.1.fa]):=YW
   exists YW,x1,x3
   refine fun p hp=>?_;have N:=q0D (o:=.tup usx) hp;have:=Gj (show x∈[]++[x] by simp);exact q p usx x.2.b1 _ aA (x4.kp 3e1) gx.1 (by have:=gx.2.2.1;omega) 1e0 (KG.trans N)
theorem Gg{d:Nat}(hn:3<=n)(IH:gM P w K mg base Yj n t.wK t.xC ["block","path","code"] (Cy d)):Ok T T.kW (n+1) (Cy (d+1)):=by
 nomatch T.kW
 ·obtain⟨bp,pp,cl,us,b,pt,as,rfl,_⟩:=h;rfl
 ·obtain⟨bp,pp,cl,us,b,pt,as,rfl,eb,hs,hd,ep,lp,ec,lc,q⟩:=h
  nomatch (aG (zF Γ0 rfl (lE rfl T.qN (pa1 (bH cQ rfl T.mJ fJ 2e14))) 1e24 (aI (pst 4 (bD k7 pv1 (aY 1e23))) (aI (pst 5 (pix aM 6e24 aB)) (aI (pst 6 8e11) (pss3 (aP (dP pv2 (aV (dN pv5 (pa3 6e24 pv4 cN))))) (pif 4e5 (pss3 7e24 (aP (dP pv2 (aV (dN aD (pa3 cN pv4 pv6))))) (mE 8e11 4e40))) (pif 4e5 (aI 7e24 (aI (aP (dP pv2 (aV (dN aD (pa3 cN pv4 cN))))) (aI (mE 8e11 4e40) (pss3 (pst 7 (bD iR 8e11 aB)) 7e24 (mE 8e11 (tX (pix aM pv2 pv7) aB zS))))))))))))),0
  have lus:=hs.len;have lsz:=lW b
  exists eb
  refine⟨⟨by omega,by omega⟩,?_⟩;obtain⟨Pv,XD⟩:∃ Pv:Nat->St->Hp->Prop,∀ i σ G,Pv i σ G=E6 fun(v3 v4 v5 v6 v7:Option V) (new:List Addr)=>A6 (σ=[some 7e23,some (.ref pp),some 4e4,v3,v4,v5,v6,v7]) (G cl=some (.lst ((as++new).map V.ref))) (dE G new (AX pt 0 as.length (b.take i))) ((∀ a∈new,H a=none)) (new.Nodup) (Kp [cl] H G):=⟨_,fun _ _ _=>rfl⟩;refine oS (lo:=0) Pv ?_ ?_ ?_
  ·rw[XD];exact⟨_,_,_,_,_,[],rfl,by simpa using ec,by simpa[AX] using .nil,by simp,by simp,Kp.refl⟩
  ·intro i σ G hi h;rw[XD] at h;obtain⟨v3,v4,v5,v6,v7,new,rfl,eG,hC,fN,nd,KG⟩:=h;have TG:=kp1T KG ec;have eG0:=eG;obtain⟨sv,ev⟩:∃ sv,us[i]?=some sv:=⟨us[i]' 1e0,by simp⟩;obtain⟨m,em,hm⟩:=hs.at ev;replace hm:=hm.kp TG;have Yx:=TG _ _ eb;have epG:=TG _ _ ep;have ix:hE us (i:Nat)=some sv:=eD ev;obtain⟨a0,r0,rfl,e0⟩:=hm.kw;have lt:as.length+new.length+m.sz<=100000:=by
    have h1:=Np b 4e1;rw[gC em] at h1;have h2:=hC.len;rw[gH] at h2;omega
   have el:((as++new).map V.ref).length=as.length+new.length:=by simp
   have back:∀(v3 v4 v5 v6 v7:Option V) (Zs:List Addr) (G':Hp),G' cl=some (.lst ((as++Zs).map V.ref))->dE G' Zs (AX pt 0 as.length (b.take i)++BZ (pt++[(i:Int)]) 3e43 m)->(∀ a∈Zs,H a=none)->Zs.Nodup->Kp [cl] H G'->Pv 4e1 [some 7e23,some (.ref pp),some 4e4,v3,v4,v5,v6,v7] G':=fun v3 v4 v5 v6 v7 Zs G' x1 x2 x3 x4 x5=>by
    rw[XD];have h2:=hC.len;rw[gH] at h2;rw[h2] at x2;refine⟨_,_,_,_,_,Zs,rfl,x1,?_,x3,x4,x5⟩;rw[Dh em,Γ4];exact x2
   clear XD;left
   exists Ε2
   refine fun p1 h1=>?_;have N1:=q0D (o:=.tup [.int (i:Nat)]) h1;refine Ez (N1.at epG) aA (by simp only[Γ,Η,ϖ];omega) fun ph G1 eh K1=>?_;replace eh:G1 ph=some (.tup ((pt++[(i:Int)]).map V.int)):=by rw[eh];simp
   replace K1:=N1.trans K1;replace hm:=hm.kp 3e4;replace hC:=hC.keep (fun _ _ _ e=>K1.at e) 3e4;replace eG:=K1.at eG;replace e0:=K1.at e0;replace Yx:=K1.at Yx;wp_walk;right;left
   exists Yx,Ε2,ix,e0
   right;left
   exists eG,el
   right;left
   exists eG,Yx,Ε2,ix
   refine fun pe hpe=>?_;have N4:=q0D (o:=.lst [.str m.kw,.ref a0,.ref ph,.Xu]) hpe;have ee:Xt G1 pe 9e25 pe=some 9e25:=aA;have fpe:H pe=none:=free1 KG eG0 (K1.cL hpe);have npc:pe≠cl:=fun z=>by rw[z,eG] at hpe;cases hpe
   have npn:pe∉new:=fun z=>by
    obtain⟨xs,e⟩:=hC.there pe z;rw[e] at hpe;cases hpe
   have KN:=K1.trans N4;replace hm:=hm.kp 2e2;replace hC:=hC.keep (fun _ _ _ e=>N4.at e) 2e2;replace eG:=N4.at eG;replace e0:=N4.at e0;replace Yx:=N4.at Yx;replace eh:=N4.at eh;generalize Xt G1 pe 9e25=G2 at *
   exists eG
   refine⟨by rw[el];omega,?_⟩;have ea:(as++new).map V.ref++[V.ref pe]=(as++6e4).map V.ref:=by simp
   rw[ea];have KS:Kp [cl] G2 (Xt G2 cl 0e15):=Kp.kJ;have TS:=kp1T KS eG;have ncl:cl∉new:=fun z=>by rw[fN cl z] at ec;cases ec
   replace eG:Xt G2 cl 0e15 cl=some 0e15:=aA;replace ee:=KS.at1 ee npc;replace hm:=hm.kp TS;replace hC:=hC.keep (fun a ha _ e=>KS.at1 e 9e11) TS;replace e0:=TS _ _ e0;replace Yx:=TS _ _ Yx;replace eh:=TS _ _ eh;have KH:Kp [cl] H (Xt G2 cl 0e15):=(KG.trans (KN.mono 0e0)).trans KS;generalize Xt G2 cl 0e15=G3 at *;have fN':∀ a∈new++[pe],H a=none:=fun a ha=>by
    rcases Κ.mp ha with ha|ha
    ·exact fN a ha
    ·rw[show a=pe by simpa using ha];exact fpe
   have nd':(new++[pe]).Nodup:=ϛ.mpr ⟨nd,by simp,fun x hx y hy z=>npn (by rw[show y=pe by simpa using hy] at z;rw[<- z];exact hx)⟩;have th3:=g0 hC.ex (lJ ee);clear K1 N1 N4 KN KS TS ea KG TG hpe h1;right;by_cases hB:m.isB=false
   ·obtain⟨w1,w2,_⟩:=Vc hB
    exists w1,w2
    exact back _ _ _ _ _ _ _ eG (by rw[UW hB];exact hC.app (.cons ⟨ph,eh,_,hm,ee⟩ .nil)) fN' nd' KH
   cases hm with
   | @XM a p v s vs b' e hv ZR XX =>
    have hm:cJ G3 (.ref a0) (.XM s b'):=.XM e hv ZR XX;have lt':as.length+new.length+cH b'+2<=100000:=by simp only[Stm.sz] at lt;omega
    have dl:qB b' < d:=by have:=xG em;simp only[Stm.dp] at this;omega
    refine bQ fun R5 hR5=>?_;refine cP fun RI XA=>?_
    exists Stm.kw
    refine XA _ _ ?_;clear XA RI;have ee0:=ee;left
    exists Yx,Ε2,ix,e
    refine fun pz hz=>?_;have NZ:=q0D (o:=.tup [.int 0]) hz;refine Ez 9e30 aA 0e26 fun pq GZ eq KZ=>?_;replace KZ:=NZ.trans KZ;replace eq:GZ pq=some 2e37:=by rw[eq];simp
    refine⟨_,pq,cl,_,_,pt++[(i:Int)]++[0],as++6e4,rfl,KZ.at ZR,(XX).kp 3e30,dl,eq,by simp only[Μ,Η,ϖ];omega,KZ.at eG,by simp only[Μ,Η,ϖ];omega,fun G50 XN e50 Yc YG aa0 K50=>?_⟩;wp_walk;right;have T50:=(aE.nil KZ).trans 6e43;have YU:Kp [cl] G3 G50:=(KZ.mono 0e0).trans K50;have f50:∀ a∈XN,H a=none:=fun a ha=>free1 KH eG (KZ.cL 3e23);have x50:∀ a∈XN,G3 a=none:=fun a ha=>KZ.cL 3e23;replace KH:=KH.trans YU;replace eh:=T50 _ _ eh;replace ee:=YU.at1 ee npc;replace hC:=hC.keep (fun a ha _ e=>YU.at1 e 9e11) T50;replace hm:=hm.kp T50;replace eG:=e50;clear KZ K50 NZ hz eq;have nc5:cl∉XN:=fun z=>by rw[f50 cl z] at ec;cases ec
    have l50:XN.length=cH b':=by rw[Yc.len,gH]
    have ee1:=ee;have nd5:(new++[pe]++XN).Nodup:=rL nd' aa0 th3 x50;have th5:=g0 5e28 Yc.ex;left
    exists eG
    refine fun pj hp=>?_;generalize hg:Xt G50 pj 7e33=G6;have N:Kp [] G50 G6:=hg▸Kp.new hp;have YD:G6 pj=some 7e33:=hg▸aA;clear hg;have npj:pj≠cl:=fun z=>by rw[z,eG] at hp;cases hp
    have fpj:H pj=none:=free1 KH eG hp;have xpj:G50 pj=none:=hp;replace eh:=N.at eh;replace ee:=N.at ee;replace eG:=N.at eG;replace hC:=hC.keep 5e9 3e1;replace Yc:=Yc.keep 5e9 3e1;replace hm:=hm.kp 3e1;replace KH:=KH.trans (N.mono 0e0)
    exists eG
    refine⟨by simp only[Γ,Μ,Η,ϖ];omega,?_⟩;rw[show(3e18).map V.ref++[V.ref pj]=(3e18++[pj]).map V.ref by simp];have KS:Kp [cl] G6 (Xt G6 cl 4e6):=Kp.kJ;have TS:=kp1T KS eG;replace eG:Xt G6 cl 4e6 cl=some 4e6:=aA;replace eh:=TS _ _ eh;replace ee:=KS.at1 ee npc;replace YD:=KS.at1 YD npj;replace hC:=hC.keep (fun a ha _ e=>KS.at1 e 9e11) TS;replace Yc:=Yc.keep 7e36 TS;replace hm:=hm.kp TS;replace KH:=KH.trans KS;generalize Xt G6 cl 4e6=G7 at *;clear KS TS N hp;right;have ixe:hE 7e39 ((as.length+new.length:Nat):Int)=some (.ref pe):=eD 0e0;have aa2:pe∉XN:=fun z=>by rw[x50 pe z] at ee0;cases ee0
    have npj:pj≠pe:=fun z=>by rw[z,ee1] at xpj;cases xpj
    exists eG,ixe,ee,Stm.kw
    rw[show Az 4 3=some 3 from rfl,show(List.map V.ref (as++6e4++XN++[pj])).length=as.length+new.length+cH b'+2 from by simp[l50];omega];show R5 _ (Xt G7 pe 0e8);have TS:aE G7 (Xt G7 pe 0e8):=aE.cS ee;replace ee:Xt G7 pe 0e8 pe=some 0e8:=aA;have KE:∀ a u,a≠pe->G7 a=some u->Xt G7 pe 0e8 a=some u:=fun a u n e=>by rw[aC n];exact e
    replace eG:=KE _ _ npc.symm eG;replace hm:=hm.kp TS;replace KH:Kp [cl] H (Xt G7 pe 0e8):=fun b o e n=>by rw[aC (aF e fpe)];exact KH b o e n
    replace eh:=TS _ _ eh;replace hC:=hC.keep 5e36 TS;replace Yc:=Yc.keep 6e36 TS;replace YD:=KE _ _ npj YD;generalize Xt G7 pe 0e8=G8 at *;clear TS KE;refine hR5 _ _ ?_;clear hR5 R5
    exists Stm.kw
    refine back _ _ _ _ _ 4e9 _ 4e46 ?_ ?_ ?_ KH
    ·simp only[BZ];have h5:=Yc;rw[show(as++6e4).length=as.length+new.length+1 by simp;omega] at h5;have:=hC.app ((dE.cons (e:=⟨some (.XM s b'),pt++[(i:Int)],some 8e39⟩) ⟨ph,eh,_,hm,ee⟩ h5).app (.cons (e:=⟨none,pt++[(i:Int)],some 3e43⟩) ⟨ph,eh,YD⟩ .nil));simpa using this
    ·intro a ha;simp only[Κ,Α,Δ,Υ] at ha;rcases ha with((ha|rfl)|ha)|rfl
     ·exact fN a ha
     ·exact fpe
     ·exact f50 a ha
     ·exact fpj
    ·exact rL nd5 0e0 th5 3e44
   | @iff a p q v s vs us' b' o' e hv ZR XX eq' ZG =>
    have hm:cJ G3 (.ref a0) 6e48:=.iff e hv ZR XX eq' ZG;have lt':as.length+new.length+cH b'+cH o'+2<=100000:=by simp only[Stm.sz] at lt;omega
    have dl:qB b' < d:=by have:=xG em;simp only[Stm.dp] at this;omega
    have dl2:qB o' < d:=by have:=xG em;simp only[Stm.dp] at this;omega
    refine bQ fun R5 hR5=>?_
    exists Stm.kw
    refine hR5 _ _ ?_;clear hR5 R5;refine cP fun RI XA=>?_
    exists Stm.kw
    refine XA _ _ ?_;clear XA RI;have ee0:=ee;left
    exists Yx,Ε2,ix,e
    refine fun pz hz=>?_;have NZ:=q0D (o:=.tup [.int 0]) hz;refine Ez 9e30 aA 0e26 fun pq GZ eq KZ=>?_;replace KZ:=NZ.trans KZ;replace eq:GZ pq=some 2e37:=by rw[eq];simp
    refine⟨_,pq,cl,_,_,pt++[(i:Int)]++[0],as++6e4,rfl,KZ.at ZR,(XX).kp 3e30,dl,eq,by simp only[Μ,Η,ϖ];omega,KZ.at eG,by simp only[Μ,Η,ϖ];omega,fun G50 XN e50 Yc YG aa0 K50=>?_⟩;wp_walk;right;have T50:=(aE.nil KZ).trans 6e43;have YU:Kp [cl] G3 G50:=(KZ.mono 0e0).trans K50;have f50:∀ a∈XN,H a=none:=fun a ha=>free1 KH eG (KZ.cL 3e23);have x50:∀ a∈XN,G3 a=none:=fun a ha=>KZ.cL 3e23;replace KH:=KH.trans YU;replace eh:=T50 _ _ eh;replace Yx:=T50 _ _ Yx;replace ee:=YU.at1 ee npc;replace hC:=hC.keep (fun a ha _ e=>YU.at1 e 9e11) T50;replace hm:=hm.kp T50;replace eG:=e50;clear KZ K50 NZ hz eq;have nc5:cl∉XN:=fun z=>by rw[f50 cl z] at ec;cases ec
    have l50:XN.length=cH b':=by rw[Yc.len,gH]
    have ee1:=ee;have nd5:(new++[pe]++XN).Nodup:=rL nd' aa0 th3 x50;have th5:=g0 5e28 Yc.ex;left
    exists eG
    refine fun pj hp=>?_;generalize hg:Xt G50 pj 8e37=G6;have N:Kp [] G50 G6:=hg▸Kp.new hp;have YD:G6 pj=some 8e37:=hg▸aA;clear hg;have npj:pj≠cl:=fun z=>by rw[z,eG] at hp;cases hp
    have fpj:H pj=none:=free1 KH eG hp;have xpj:G50 pj=none:=hp;replace eh:=N.at eh;replace Yx:=N.at Yx;replace ee:=N.at ee;replace eG:=N.at eG;replace hC:=hC.keep 5e9 3e1;replace Yc:=Yc.keep 5e9 3e1;replace hm:=hm.kp 3e1;replace KH:=KH.trans (N.mono 0e0)
    exists eG
    refine⟨by simp only[Γ,Μ,Η,ϖ];omega,?_⟩;rw[show(3e18).map V.ref++[V.ref pj]=(3e18++[pj]).map V.ref by simp];have KS:Kp [cl] G6 (Xt G6 cl 4e6):=Kp.kJ;have TS:=kp1T KS eG;replace eG:Xt G6 cl 4e6 cl=some 4e6:=aA;replace eh:=TS _ _ eh;replace Yx:=TS _ _ Yx;replace ee:=KS.at1 ee npc;replace YD:=KS.at1 YD npj;replace hC:=hC.keep (fun a ha _ e=>KS.at1 e 9e11) TS;replace Yc:=Yc.keep 7e36 TS;replace hm:=hm.kp TS;replace KH:=KH.trans KS;generalize Xt G6 cl 4e6=G7 at *;clear KS TS N hp;right;have ixe:hE 7e39 ((as.length+new.length:Nat):Int)=some (.ref pe):=eD 0e0;have aa2:pe∉XN:=fun z=>by rw[x50 pe z] at ee0;cases ee0
    have abL:pj≠pe:=fun z=>by rw[z,ee1] at xpj;cases xpj
    refine bQ fun R52 abB=>?_
    exists eG,ixe,ee,Stm.kw
    rw[show Az 4 3=some 3 from rfl,show(List.map V.ref (as++6e4++XN++[pj])).length=as.length+new.length+cH b'+2 from by simp[l50];omega];show R52 _ (Xt G7 pe 1e8);have TS:aE G7 (Xt G7 pe 1e8):=aE.cS ee;replace ee:Xt G7 pe 1e8 pe=some 1e8:=aA;have KE:∀ a u,a≠pe->G7 a=some u->Xt G7 pe 1e8 a=some u:=fun a u n e=>by rw[aC n];exact e
    replace eG:=KE _ _ npc.symm eG;replace hm:=hm.kp TS;replace KH:Kp [cl] H (Xt G7 pe 1e8):=fun b o e n=>by rw[aC (aF e fpe)];exact KH b o e n
    replace eh:=TS _ _ eh;replace Yx:=TS _ _ Yx;replace hC:=hC.keep 5e36 TS;replace Yc:=Yc.keep 6e36 TS;replace YD:=KE _ _ abL YD;generalize Xt G7 pe 1e8=G8 at *;clear TS KE;refine abB _ _ ?_;clear abB;clear R52;left
    exists eG
    rw[show((List.map V.ref (as++6e4++XN++[pj])).length:Int) - 1=((as.length+new.length+cH b'+1:Nat):Int) by simp[l50];omega];right;replace eG:G8 cl=some (.lst ((as++4e9).map V.ref)):=by rw[eG];simp
    have nd6:(new++[pe]++XN++[pj]).Nodup:=rL nd5 0e0 th5 3e44;have th6:=g0 (g0 5e28 Yc.ex) (lJ YD);clear e ZR XX eq' ZG;obtain⟨_,_,_,_,e,eq',ZG⟩:=hm.WM;left
    exists Yx,Ε2,ix,e
    refine fun pz hz=>?_;have NZ:=q0D (o:=.tup [.int 1]) hz;refine Ez 9e30 aA 0e26 fun pq GZ eq KZ=>?_;replace KZ:=NZ.trans KZ;replace eq:GZ pq=some (.tup ((pt++[(i:Int)]++[1]).map V.int)):=by rw[eq];simp
    refine⟨_,pq,cl,_,_,pt++[(i:Int)]++[1],as++4e9,rfl,KZ.at eq',(ZG).kp 3e30,dl2,eq,by simp only[Μ,Η,ϖ];omega,KZ.at eG,by simp only[Μ,Η,ϖ];omega,fun G54 n54 e54 h54 aaE acB K54=>?_⟩;wp_walk;right;have T54:=(aE.nil KZ).trans (kp1T K54 (KZ.at eG));have ZL:Kp [cl] G8 G54:=(KZ.mono 0e0).trans K54;have f54:∀ a∈n54,H a=none:=fun a ha=>free1 KH eG (KZ.cL (aaE a ha));have x54:∀ a∈n54,G8 a=none:=fun a ha=>KZ.cL (aaE a ha);replace KH:=KH.trans ZL;replace eh:=T54 _ _ eh;replace ee:=ZL.at1 ee npc;replace YD:=ZL.at1 YD npj;replace hC:=hC.keep (fun a ha _ e=>ZL.at1 e 9e11) T54;replace Yc:=Yc.keep (fun a ha _ e=>ZL.at1 e (fun z=>nc5 8e4)) T54;replace hm:=hm.kp T54;replace eG:=e54;clear KZ K54 NZ hz eq;have l54:n54.length=cH o':=by rw[h54.len,gH]
    have ixj:hE ((as++4e9++n54).map V.ref) ((as.length+new.length+cH b'+1:Nat):Int)=some (.ref pj):=eD (by
     rw[ϕ,<- l50,show as++4e9++n54=(as++new++[pe]++XN)++(pj::n54) by simp,List.getElem?_append_right 2e21];simp only[Μ,Η,ϖ];rw[show as.length+new.length+XN.length+1 - (as.length+new.length+(0+1)+XN.length)=0 by omega];rfl)
    have ac1:=YD;have acD:pj∉new:=fun z=>by
     have h:=(ϛ.mp nd6).2.2 pj 7e19 pj 0e0;exact h rfl
    have acC:pj∉XN:=fun z=>by
     have h:=(ϛ.mp nd6).2.2 pj 7e19 pj 0e0;exact h rfl
    have abK:pj∉n54:=fun z=>by
     obtain⟨o,e⟩:=th6 pj 0e0;rw[x54 pj z] at e;cases e
    have nd7:(new++[pe]++XN++[pj]++n54).Nodup:=rL nd6 acB th6 x54
    exists eG,ixj,YD,Stm.kw
    rw[show Az 4 3=some 3 from rfl,show(List.map V.ref (as++4e9++n54)).length=as.length+new.length+cH b'+cH o'+2 from by simp[l50,l54];omega];show Pv 4e1 _ (Xt G54 pj 9e7);have TS:aE G54 (Xt G54 pj 9e7):=aE.cS YD;replace YD:Xt G54 pj 9e7 pj=some 9e7:=aA;have KE:∀ a u,a≠pj->G54 a=some u->Xt G54 pj 9e7 a=some u:=fun a u n e=>by rw[aC n];exact e
    replace eG:=KE _ _ npj.symm eG;replace hm:=hm.kp TS;replace KH:Kp [cl] H (Xt G54 pj 9e7):=fun b o e n=>by rw[aC (aF e fpj)];exact KH b o e n
    replace eh:=TS _ _ eh;replace hC:=hC.keep (fun a ha o e=>KE _ _ (fun z=>acD 8e4) e) TS;replace Yc:=Yc.keep (fun a ha o e=>KE _ _ (fun z=>acC 8e4) e) TS;replace h54:=h54.keep (fun a ha o e=>KE _ _ (fun z=>abK 8e4) e) TS;replace ee:=KE _ _ abL.symm ee;generalize Xt G54 pj 9e7=G9 at *;clear TS KE;refine back _ _ _ _ _ (new++[pe]++XN++[pj]++n54) _ 4e46 ?_ ?_ nd7 KH
    ·simp only[BZ];have h5:=Yc;rw[show(as++6e4).length=as.length+new.length+1 by simp;omega] at h5;have h6:=h54;rw[show(as++4e9).length=as.length+new.length+cH b'+2 by simp[l50];omega] at h6;have:=hC.app ((dE.cons (e:=⟨some 6e48,pt++[(i:Int)],some 8e39⟩) ⟨ph,eh,_,hm,ee⟩ h5).app (.cons (e:=⟨none,pt++[(i:Int)],some (as.length+new.length+cH b'+cH o'+2)⟩) ⟨ph,eh,YD⟩ h6));simpa using this
    ·intro a ha;simp only[Κ,Α,Δ,Υ] at ha;rcases ha with(((ha|rfl)|ha)|rfl)|ha
     ·exact fN a ha
     ·exact fpe
     ·exact f50 a ha
     ·exact fpj
     ·exact f54 a ha
   | _=>exact absurd rfl hB
  intro σ G h;rw[XD,Int.toNat_natCast,<- lus,Α0] at h;obtain⟨v3,v4,v5,v6,v7,new,rfl,eG,hC,fN,nd,KG⟩:=h;exact q G new eG hC fN nd KG
theorem FK(T:Tx P w base K mg t):∀ d,gM P w K mg base Yj (d+3) t.wK t.xC ["block","path","code"] (Cy d):=by
 intro d
 induction d with
 | zero=>exact⟨fun _ _ _ _ x=>by (obtain⟨_,_,_,_,_,_,_,_,_,_,h,_⟩:=x;exact absurd h 1e0),fun _ _ _ _ _ _ _ _ _ _ _ _ _ x=>by (obtain⟨_,_,_,_,_,_,_,_,_,_,h,_⟩:=x;exact absurd h 1e0)⟩
 | succ d ih=>exact Gg T 1e0 ih
theorem Bi:Ok T T.vJ 13 Nc:=by
 nomatch T.vJ
 ·obtain⟨bp,us,b,rfl,_⟩:=h;rfl
 ·obtain⟨bp,us,b,rfl,eb,hs,hd,hz,q⟩:=h
  nomatch (aI (pst 1 8e0) (aI (aP (pcl (FK T 9) T.kW (pa3 pv0 (aY bT) pv1))) (aI (pst 2 (HA (fR aD pv1 (fR aD aB (fR aD aD (fR aD lD (fR aD cN (fR aD aB (fR aD aB (fR aD 8e0 HF)))))))) rfl rfl 5e43 7e0)) (aI (ppt pv2 aD 8e0) (aI (ppt pv2 aD lD) (pss3 (ppt pv2 aD 8e0) (ppt pv2 aD cN) 0e18)))))),0
  left;wp_walk;refine fun cl hc=>?_;have K1:=q0D (o:=.lst []) hc;have e1:Xt H cl 2e0 cl=some (.lst (([]:List Addr).map V.ref)):=aA;replace eb:=K1.at eb;replace hs:=hs.kp 3e4;generalize Xt H cl 2e0=G1 at *;right;left;wp_walk;refine fun pe he=>?_;have K2:=q0D (o:=.tup []) he;refine⟨bp,pe,cl,us,b,[],[],rfl,K2.at eb,hs.kp 4e30,hd,aA,by simp,K2.at e1,by simp;omega,fun G2 cs e2 hC fr nd K3=>?_⟩;wp_walk;right;left;wp_walk;have K3':Kp [] H G2:=fun b o e _=>K3.at1 (K2.at (K1.at e)) (fun z=>by rw[z,hc] at e;cases e);have fr':∀ a∈cs,H a=none:=fun a ha=>K1.cL (K2.cL (fr a ha));rw[Α1] at e2;rw[ϖ] at hC;refine fun md hmd nd hnd od hod=>?_;have x1:nd≠md:=fun z=>by rw[z,aA] at hnd;cases hnd
  have x2:od≠nd:=fun z=>by rw[z,aA] at hod;cases hod
  have x3:od≠md:=fun z=>by rw[z,aC x1.symm,aA] at hod;cases hod
  rw[aC x1] at hnd;rw[aC x2,aC x3] at hod;refine⟨by rw[aC x3.symm,aC x1.symm,aA],[(.inr "code",.ref cl),(.inr "at",.int 0),(.inr "mode",.str "new"),(.inr "names",.ref nd),(.inr "arg",.Xu),(.inr "now",.int 0),(.inr "made",.int 0),(.inr "open",.ref od)],rfl,by simp,?_⟩;rw[eights];obtain⟨k8,hk8⟩:∃ k:List (Key×V),k=[(.inr "code",.ref cl),(.inr "at",.int 0),(.inr "mode",.str "new"),(.inr "names",.ref nd),(.inr "arg",.Xu),(.inr "now",.int 0),(.inr "made",.int 0),(.inr "open",.ref od)]:=⟨_,rfl⟩;rw[<- hk8];have lk8:k8.length=8:=by rw[hk8];rfl
  have NA:Kp [] G2 (Xt (Xt 5e14 od 2e0) md 6e13):=fun b o e _=>by rw[aC (aF e hmd),aC (aF e hod),aC (aF e hnd),aC (aF e hmd)];exact e
  have eM:Xt (Xt 5e14 od 2e0) md 6e13 md=some 6e13:=aA;have eN:Xt (Xt 5e14 od 2e0) md 6e13 nd=some 4e11:=by rw[aC x1,aC x2.symm,aA]
  have eO:Xt (Xt 5e14 od 2e0) md 6e13 od=some 2e0:=by rw[aC x3,aA]
  generalize Xt (Xt 5e14 od 2e0) md 6e13=G3 at *;have fm:H md=none:=K3'.cL hmd;have fn:H nd=none:=K3'.cL hnd;have fo:H od=none:=K3'.cL hod;have yo:od≠cl/\od∉cs:=tZ e2 hC hod;have KH:=K3'.trans NA;have Zi:=e2;have hC':=hC;have ab3:=hmd;replace e2:=NA.at e2;replace hC:=hC.keep (fun _ _ _ e=>NA.at e) (aE.nil NA);clear NA K3 K3' K2 K1 hnd hod he;have ymd:md≠cl/\md∉cs:=tZ Zi hC' ab3;right;left
  exists eM
  refine fun dd hX=>?_;generalize hg:Xt G3 dd 2e0=G3a;have N:Kp [] G3 G3a:=hg▸Kp.new hX;have YV:G3a dd=some 2e0:=hg▸aA;clear hg;have fdd:H dd=none:=KH.cL hX;have ydd:dd≠cl/\dd∉cs:=tZ e2 hC hX;have Zc:dd≠md:=fun z=>by rw[z,eM] at hX;cases hX
  have acX:dd≠nd:=fun z=>by rw[z,eN] at hX;cases hX
  have abT:dd≠od:=fun z=>by rw[z,eO] at hX;cases hX
  replace eN:=N.at eN;replace eO:=N.at eO;replace e2:=N.at e2;replace eM:=N.at eM;replace hC:=hC.keep 5e9 3e1;replace KH:=KH.trans N;clear N hX
  exists eM
  refine⟨by omega,?_⟩;obtain⟨k9,hk9⟩:∃ k,aR (κ:=Key) k8 (.inr (Str.ofString "done")) (.ref dd)=k:=⟨_,rfl⟩;have lk9:k9.length<=k8.length+1:=hk9▸vY _ _ _;rw[hk9];have TS:aE G3a (Xt G3a md 5e13):=aE.cS eM;have KE:∀ a u,a≠md->G3a a=some u->Xt G3a md 5e13 a=some u:=fun a u n e=>by rw[aC n];exact e
  replace eM:Xt G3a md 5e13 md=some 5e13:=aA;replace hC:=hC.keep 6e18 TS;replace KH:Kp [] H (Xt G3a md 5e13):=fun b o e n=>KE _ _ 2e23 1e22;replace eN:=KE _ _ x1 eN;replace eO:=KE _ _ x3 eO;replace e2:=KE _ _ ymd.1.symm e2;replace YV:=KE _ _ Zc YV;generalize Xt G3a md 5e13=G3x at *;clear TS KE;right;left
  exists eM
  refine fun ld hX=>?_;generalize hg:Xt G3x ld 4e11=G3xa;have N:Kp [] G3x G3xa:=hg▸Kp.new hX;have eld:G3xa ld=some 4e11:=hg▸aA;clear hg;have fld:H ld=none:=KH.cL hX;have Ze:ld≠cl/\ld∉cs:=tZ e2 hC hX;have Zd:ld≠md:=fun z=>by rw[z,eM] at hX;cases hX
  have abS:ld≠nd:=fun z=>by rw[z,eN] at hX;cases hX
  have acZ:ld≠od:=fun z=>by rw[z,eO] at hX;cases hX
  have acU:ld≠dd:=fun z=>by rw[z,YV] at hX;cases hX
  replace eN:=N.at eN;replace eO:=N.at eO;replace e2:=N.at e2;replace YV:=N.at YV;replace eM:=N.at eM;replace hC:=hC.keep 5e9 3e1;replace KH:=KH.trans N;clear N hX
  exists eM
  refine⟨by omega,?_⟩;obtain⟨kA,hkA⟩:∃ k,aR (κ:=Key) k9 (.inr (Str.ofString "letters")) (.ref ld)=k:=⟨_,rfl⟩;have lkA:kA.length<=k9.length+1:=hkA▸vY _ _ _;rw[hkA];have TS:aE G3xa (Xt G3xa md 4e13):=aE.cS eM;have KE:∀ a u,a≠md->G3xa a=some u->Xt G3xa md 4e13 a=some u:=fun a u n e=>by rw[aC n];exact e
  replace eM:Xt G3xa md 4e13 md=some 4e13:=aA;replace hC:=hC.keep 6e18 TS;replace KH:Kp [] H (Xt G3xa md 4e13):=fun b o e n=>KE _ _ 2e23 1e22;replace eN:=KE _ _ x1 eN;replace eO:=KE _ _ x3 eO;replace e2:=KE _ _ ymd.1.symm e2;replace YV:=KE _ _ Zc YV;replace eld:=KE _ _ Zd eld;generalize Xt G3xa md 4e13=G3xx at *;clear TS KE;right;left
  exists eM
  refine fun aw hX=>?_;have N:=q0D (o:=.lst []) hX;have Zj:Xt G3xx aw 2e0 aw=some 2e0:=aA;have faw:H aw=none:=KH.cL hX;have yaw:aw≠cl/\aw∉cs:=tZ e2 hC hX;have aaK:aw≠md:=fun z=>by rw[z,eM] at hX;cases hX
  have acW:aw≠nd:=fun z=>by rw[z,eN] at hX;cases hX
  have acY:aw≠od:=fun z=>by rw[z,eO] at hX;cases hX
  have acT:aw≠dd:=fun z=>by rw[z,YV] at hX;cases hX
  have acV:aw≠ld:=fun z=>by rw[z,eld] at hX;cases hX
  replace eN:=N.at eN;replace eO:=N.at eO;replace e2:=N.at e2;replace YV:=N.at YV;replace eld:=N.at eld;replace eM:=N.at eM;replace hC:=hC.keep 5e9 3e1;replace KH:=KH.trans N;generalize Xt G3xx aw 2e0=G3xxa at *;clear N hX
  exists eM
  refine⟨by omega,?_⟩;obtain⟨kB,hkB⟩:∃ k,aR (κ:=Key) kA (.inr (Str.ofString "awaited")) (.ref aw)=k:=⟨_,rfl⟩;have lkB:kB.length<=kA.length+1:=hkB▸vY _ _ _;rw[hkB];have TS:aE G3xxa (Xt G3xxa md 3e13):=aE.cS eM;have KE:∀ a u,a≠md->G3xxa a=some u->Xt G3xxa md 3e13 a=some u:=fun a u n e=>by rw[aC n];exact e
  replace eM:Xt G3xxa md 3e13 md=some 3e13:=aA;replace hC:=hC.keep 6e18 TS;replace KH:Kp [] H (Xt G3xxa md 3e13):=fun b o e n=>KE _ _ 2e23 1e22;replace eN:=KE _ _ x1 eN;replace eO:=KE _ _ x3 eO;replace e2:=KE _ _ ymd.1.symm e2;replace YV:=KE _ _ Zc YV;replace eld:=KE _ _ Zd eld;replace Zj:=KE _ _ aaK Zj;generalize Xt G3xxa md 3e13=G3xxx at *;clear TS KE;right;left
  exists eM
  refine⟨by omega,?_⟩;obtain⟨kC,hkC⟩:∃ k,aR (κ:=Key) kB (.inr (Str.ofString "outcome")) .Xu=k:=⟨_,rfl⟩;have NF:kC.length<=kB.length+1:=hkC▸vY _ _ _;rw[hkC];have TS:aE G3xxx (Xt G3xxx md 2e13):=aE.cS eM;have KE:∀ a u,a≠md->G3xxx a=some u->Xt G3xxx md 2e13 a=some u:=fun a u n e=>by rw[aC n];exact e
  replace eM:Xt G3xxx md 2e13 md=some 2e13:=aA;replace hC:=hC.keep 6e18 TS;replace KH:Kp [] H (Xt G3xxx md 2e13):=fun b o e n=>KE _ _ 2e23 1e22;replace eN:=KE _ _ x1 eN;replace eO:=KE _ _ x3 eO;replace e2:=KE _ _ ymd.1.symm e2;replace YV:=KE _ _ Zc YV;replace eld:=KE _ _ Zd eld;replace Zj:=KE _ _ aaK Zj;generalize Xt G3xxx md 2e13=G3xxxx at *;clear TS KE;right;wp_walk;obtain rfl:kC=[(.inr "code",.ref cl),(.inr "at",.int 0),(.inr "mode",.str "new"),(.inr "names",.ref nd),(.inr "arg",.Xu),(.inr "now",.int 0),(.inr "made",.int 0),(.inr "open",.ref od),(.inr "done",.ref dd),(.inr "letters",.ref ld),(.inr "awaited",.ref aw),(.inr "outcome",.Xu)]:=by rw[<- hkC,<- hkB,<- hkA,<- hk9,hk8];simp[aR,cG]
  refine q ⟨md,nd,od,dd,ld,cl,cs,[],0,aw⟩ _ ?_ ?_ rfl ⟨_,Zj⟩ KH
  ·have vv:∀ j:String,bA (κ:=Key) [(.inr "code",.ref cl),(.inr "at",.int 0),(.inr "mode",.str "new"),(.inr "names",.ref nd),(.inr "arg",.Xu),(.inr "now",.int 0),(.inr "made",.int 0),(.inr "open",.ref od),(.inr "done",.ref dd),(.inr "letters",.ref ld),(.inr "awaited",.ref aw),(.inr "outcome",.Xu)] (.inr 5e46)=(([(.inr "code",.ref cl),(.inr "at",.int 0),(.inr "mode",.str "new"),(.inr "names",.ref nd),(.inr "arg",.Xu),(.inr "now",.int 0),(.inr "made",.int 0),(.inr "open",.ref od),(.inr "done",.ref dd),(.inr "letters",.ref ld),(.inr "awaited",.ref aw),(.inr "outcome",.Xu)]:List (Key×V)).find? fun kv=>decide (kv.1=.inr 5e46)).map (·.2):=fun _=>rfl;refine⟨⟨fun j=>bA (κ:=Key) [(.inr "code",.ref cl),(.inr "at",.int 0),(.inr "mode",.str "new"),(.inr "names",.ref nd),(.inr "arg",.Xu),(.inr "now",.int 0),(.inr "made",.int 0),(.inr "open",.ref od),(.inr "done",.ref dd),(.inr "letters",.ref ld),(.inr "awaited",.ref aw),(.inr "outcome",.Xu)] (.inr j),⟨⟨_,eM,⟨by simp,fun _ _=>rfl⟩,?_,?_,?_,?_,?_,?_⟩,eN,eO,⟨[],YV,.nil⟩,x1.symm,abT.symm,List.Pairwise.nil,by simp[fH],by simp[fH],by simp[fH]⟩,?_,?_,?_,?_,?_⟩,e2,hC,⟨[],[],eld,.nil,by simp,fun _=>rfl⟩,ps0 b,Zd.symm,abS.symm,by simp,⟨yo.1,yo.2,ydd.1,ydd.2⟩,by simp⟩
   all_goals first|(rw[vv];simp[cG,fH,wv];done)|(dsimp only;rw[vv];simp[cG];done)|(show bA (κ:=Key) [(.inr "code",.ref cl),(.inr "at",.int 0),(.inr "mode",.str "new"),(.inr "names",.ref nd),(.inr "arg",.Xu),(.inr "now",.int 0),(.inr "made",.int 0),(.inr "open",.ref od),(.inr "done",.ref dd),(.inr "letters",.ref ld),(.inr "awaited",.ref aw),(.inr "outcome",.Xu)] (.inr (Str.ofString "mode"))=_;rw[vv];simp[cG];done)|skip
   intro k hk;simp only[OK6,Α,Δ,Υ] at hk;rcases hk with rfl|rfl|rfl|rfl|rfl|rfl<;>(simp only[vv];simp[cG])
  ·intro a ha;simp only[Fa.mut,ϝ,Α,Δ,Υ] at ha;rcases ha with rfl|rfl|rfl|rfl|rfl<;>assumption
theorem fM:Ok T T.fT 2 Eh:=by
 nomatch T.fT
 ·obtain⟨r,n,rfl,_⟩:=h;rfl
 ·obtain⟨r,n,rfl,hR,hn,q⟩:=h
  nomatch (aI (pst 1 0e1) (pss3 (pif 2e10 9e21) (pif 2e10 (aG (aK (pix aM (aV (dN 6e3 (pa3 (fX dW 6e3) (bD l9 aB 6e3) 5e3))) 0e1)))) (aK 0e1))),0
  wp_walk;refine⟨_,hR,by omega,fun g H1 a1 b1 R1 K1=>?_⟩;split
  ·exact q none _ kZ (R1.up 1e0) K1
  split
  ·refine⟨⟨by decide,by decide,by decide⟩,Ht 7e0 7e0,fun p hp=>⟨_,R1.new hp,by omega,fun g2 H2 a2 b2 R2 K2=>?_⟩⟩
   exists made1 K2 R1 hp
   refine iI a2 b2 fun v hv=>?_;simp only[Α,Δ,Υ] at hv;have K:=K1.trans ((Kp.new hp).trans K2);rcases hv with rfl|rfl|rfl|rfl<;>exact q (some _) _ (fL 7e0 7e0) R2 K
  ·refine⟨_,R1,by omega,fun g2 H2 a2 b2 R2 K2=>?_⟩;exact q (some _) _ (fL 1e0 1e0) R2 6e21
theorem vA:Ok T T.kK 4 Nb:=by
 nomatch T.kK
 ·obtain⟨P0,A0,S,p,r,n,N,rfl,_⟩:=h;rfl
 ·obtain⟨P0,A0,S,p,r,n,N,rfl,F,FT,lN,hR,hn,s1,s2,s3,q⟩:=h
  nomatch (aI (pst 2 (pix aM (aV (pa2 0e1 (pcl 9e0 T.bF (pa2 pv0 (bD cI 6e3 aB))))) (bU gT rfl T.AK mW (pa1 (pcr aZ 0e1 aB))))) (aI (pst 3 0e1) (aI (pif 3e29 4e39) (aI (pif 1e29 (pss3 (pst 4 0e1) (pif (PW.pt (eP (ptc 3e20 1e2 8e0) (dQ 1e29))) (aG (pst 4 (pix aM 1e2 (pcl 9e0 T.bF (pa2 pv0 (bH cQ rfl T.mJ fJ (pa1 1e2)))))))) 0e38)) (pss3 (pst 5 (pix aM 3e7 0e1)) (pif (PW.pt (eP (ptc aZ 1e2 aD) (dQ 1e29))) (aG (pst 5 (pix aM (pix aM (pix aM 1e2 1e2) aB) aB)))) (aK (aY (dN aD (pa3 pv2 pv5 7e18))))))))),0
  obtain⟨ot,M0,YB,c1,c2,c3,c4⟩:=F.ex;obtain⟨XO,XF,Yl,t1,t2,t3,t4,t5,t6⟩:=M0.hm;have vm:bA XO 4e10=some 4e16:=(Yl.2 _ 4e0).trans c4.md;have va7:bA XO 1e1=some 2e11:=(Yl.2 _ 4e0).trans c2;have vc7:bA XO 7e16=some 2e17:=(Yl.2 _ 4e0).trans c1;have rmd:A0.md≠r:=fun z=>s1 4e17;have rod:A0.od≠r:=fun z=>s1 3e21;have lpd:=FT.pd;left;wp_walk;refine⟨n,hR,by omega,fun g1 H1 a1 b1 D1 K1=>⟨_,D1,by omega,fun g2 H2 a2 b2 D2 K2 p1 h1=>⟨_,D2.new h1,by omega,fun g3 H3 a3 b3 D3 K3=>?_⟩⟩⟩
  exists made1 K3 D2 h1
  refine iI 8e45 8e45 fun v hv=>?_;obtain⟨mo,rfl,hm⟩:∃ mo:Int,v=.int mo/\0<=mo/\mo<=1000000000000:=by
   simp only[Α,Δ,Υ] at hv;rcases hv with rfl|rfl
   ·exact⟨_,rfl,by omega,by omega⟩
   ·exact⟨_,rfl,by omega,by omega⟩
  have KK:Kp [r] H H3:=((K1.trans K2).trans 5e22).trans K3;clear K1 K2 K3 D1 D2 h1 hv;wp_walk;right;left;wp_walk;refine⟨_,D3,by omega,fun kd H4 a4 b4 D4 K4=>?_⟩;replace KK:=KK.trans K4;clear K4 D3;wp_walk;right;left;wp_walk;split
  ·refine⟨r,_,rfl,D4,by omega,fun w H5 hw D5 K5=>?_⟩;wp_walk;intro p5 h5;exact q _ (.X3 mo w) _ _ ⟨p5,rfl,aA⟩ ⟨hm,hw⟩ 6e22 1e0 4e38
  right;left;refine cP fun RI XA=>?_;wp_walk;split
  ·refine XA _ _ ?_;clear XA RI;left;wp_walk;refine⟨_,D4,by omega,fun tk H5 a5 b5 D5 K5=>?_⟩;replace KK:=KK.trans K5;wp_walk;right;refine bQ fun R6 ZV=>?_;refine cP fun RI XA=>?_
   suffices fin:∀(j:Int) (n':Nat) (G:Hp),bO G r n'->n'<=n+8->Kp [r] H G->R6 [some 9e4,some 5e2,some 6e7,some 3e2,some 3e11,none] G by
    have ho5:=KK.at1 M0.ho rod;have Ya:=KK.at1 XF rmd
    exists Ya,t5,ho5
    refine fun p2 h2=>⟨_,PR ((q0D h2).at ho5) aA,?_⟩;have N2:=q0D (o:=.lst []) h2;split
    ·next hp =>
     split
     ·refine XA _ _ ?_;replace ho5:=N2.at ho5;replace Ya:=N2.at Ya;have pos:0 < S.pend.length:=by
       cases e:S.pend with
       | nil=>rw[e] at hp;simp at hp
       | cons _ _=>simp
      exists Ya,t5,ho5
      rw[Γ];refine⟨by omega,by omega,_,D5.new h2,by omega,fun g H' ag bg D6 K6=>?_⟩;have ho6:=K6.at1 ho5 rod;obtain⟨j,ej⟩:∃ j,hE 8e3 g=some 3e11:=by
       obtain⟨g',rfl⟩:∃ g':Nat,g=(g':Int):=⟨g.toNat,by omega⟩;exact⟨S.pend[g']' 1e0,eD 0e0⟩
      exists ho6,ej
      exact fin j _ _ D6 1e0 ((KK.trans (N2.mono 0e0)).trans K6)
     ·exact fin tk _ _ 3e52 1e0 1e42
    ·exact fin tk _ _ 3e52 1e0 1e42
   intro j n' G RG ln KG;clear RI XA;refine ZV _ _ ?_;clear ZV;clear R6;wp_walk;refine⟨r,_,rfl,RG,by omega,fun w H6 hw D6 K6=>?_⟩;wp_walk;intro p6 h6;exact q _ 2e50 _ _ ⟨p6,rfl,aA⟩ ⟨hm,hw⟩ 2e52 1e0 ((KG.trans K6).trans 0e52)
  clear XA RI;right;left;wp_walk;refine fun p5 h5=>⟨_,D4.new h5,by omega,fun g5 G5 a5 b5 D5 K5=>?_⟩
  exists made1 K5 D4 h5
  refine iI a5 b5 fun y5 hy5=>?_;obtain⟨z5,rfl⟩:∃ z:Str,y5=.str z:=by simp only[Α,Δ,Υ] at hy5;rcases hy5 with rfl|rfl<;>exact⟨_,rfl⟩
  replace KK:Kp [r] H G5:=(KK.trans 8e28).trans K5;wp_walk;right;refine bQ fun R6 ZV=>?_;refine cP fun RI XA=>?_
  suffices fin:∀ z:Str,R6 [some 9e4,some 5e2,some 6e7,some 3e2,none,some (.str z)] G5 by
   have Ya:=KK.at1 XF rmd
   exists Ya,vm,Hr
   split
   ·next hh =>
    rw[Hr] at hh;obtain⟨k',hs⟩:=hh;obtain⟨x,XI⟩:=FT.sl.1 k' hs;obtain⟨pt,ec⟩:=F.ps.ent XI;obtain⟨a,ea,pa,hpa,sv,Y0,eA⟩:=F.co.at ec;have ar:a≠r:=fun z=>s3 (z▸ϒ ea);have eA5:=KK.at1 eA ar;replace Y0:=Y0.kp (hR.tk KK);have ix:hE 7e20 (p:Int)=some 9e1:=eD 4e20;have ZN:=KK.at1 F.cl (fun z=>s2 z.symm);cases Y0 with
    | @Xy a0 x k' e1 =>
     split
     ·refine XA _ _ ?_
      exists Ya,va7,vc7,ZN,ix,eA5,e1
      exact fin _
     ·exact fin _
   ·exact fin _
  intro z;clear RI XA;refine ZV _ _ ?_;clear ZV;clear R6;wp_walk;refine⟨r,_,rfl,D5,by omega,fun w H6 hw D6 K6=>?_⟩;wp_walk;intro p6 h6;exact q _ (.ltr mo z w) _ _ ⟨p6,rfl,aA⟩ ⟨hm,hw⟩ 2e52 1e0 ((KK.trans K6).trans 0e52)
theorem uJ:Ok T T.oQ 1 M9:=by
 nomatch T.oQ
 ·obtain⟨P0,A0,S,p,w,op,cs,rfl,_⟩:=h;rfl
 ·obtain⟨P0,A0,S,p,w,op,cs,rfl,F,O,lc,q⟩:=h
  nomatch (aI 1e16 (pss3 (ppt pv0 aD pv1) (ppt pv0 aD 8e0) (aP (dP pv2 5e20)))),0
  obtain⟨ot,M0,YB,c1,c2,c3,c4⟩:=F.ex;obtain⟨us,eo,hC,s1,s2,s3⟩:=O;have lu:=hC.len;have F0:=F;have e00:=eo;have KM:Kp [A0.md] H H:=Kp.refl;have TM:aE H H:=fun _ _ e=>e;obtain⟨XO,XF,Yl,_⟩:=M0.hm;obtain⟨y0,hy0⟩:=YB "mode" 4e0;left
  exists XF
  refine⟨by omega,?_⟩;refine M0.six XF (k:="mode") 4e0 hy0 YB KM TM 0e0 (.str "ended") fun G1 M1 Zt KM TM kp0 TS0 KS0=>?_;replace eo:=kp0 eo 2e1;replace hC:=hC.kt TS0;clear kp0 TS0 KS0 XF Yl;right;obtain⟨X2,XG,YA,_⟩:=M1.hm;obtain⟨y1,hy1⟩:=Zt "outcome" 4e0;left
  exists XG
  refine⟨by omega,?_⟩;refine M1.six XG (k:="outcome") 4e0 hy1 Zt KM TM 0e0 (wv w) fun G2 M2 os2 KM TM kp1 TS1 KS1=>?_;replace eo:=kp1 eo 2e1;replace hC:=hC.kt TS1;clear kp1 TS1 KS1 XG YA;right;left;obtain⟨kv2,X7,lk2,_⟩:=M2.hm
  exists X7
  refine fun o2 X6=>?_;generalize hg:Xt G2 o2 2e0=G2a;have N:Kp [] G2 G2a:=hg▸Kp.new X6;have Yq:G2a o2=some 2e0:=hg▸aA;clear hg;have fo2:H o2=none:=by
   cases e:H o2 with
   | none=>rfl
   | some o =>
    by_cases z:o2=A0.md
    ·rw[z,X7] at X6;cases X6
    ·rw[KM.at1 e z] at X6;cases X6
  have no2:op≠o2:=aF eo X6;have nd2:o2≠A0.dd:=fun z=>by
   obtain⟨ds,ed,_⟩:=M2.hd;rw[z,ed] at X6;cases X6
  replace M2:=M2.kp N;replace X7:=N.at X7;replace eo:=N.at eo;replace hC:=hC.kt 3e1;replace KM:=KM.trans (N.mono (T:=[A0.md]) 0e0);replace TM:=TM.trans 3e1
  exists X7
  refine⟨by omega,?_⟩;have M3:=M2.opn X7 Yq nd2;have KS2:Kp [A0.md] G2a 0e42:=Kp.kJ;have TS2:aE G2a 0e42:=aE.cS X7;replace eo:=cY (u:=.dK 5e25) X7 eo;replace hC:=hC.kt TS2;replace KM:=KM.trans KS2;replace TM:=TM.trans TS2;generalize Xt G2a A0.md (.dK 5e25)=G3 at *;clear KS2 TS2 X7 lk2 N X6 Yq;right
  exists eo
  refine fun pt Z5=>?_;generalize hg:Xt G3 pt 3e42=G3b;have N:Kp [] G3 G3b:=hg▸Kp.new Z5;have ept:G3b pt=some 3e42:=hg▸aA;clear hg;replace M3:=M3.kp N;replace eo:=N.at eo;replace hC:=hC.kt 3e1;replace KM:=KM.trans (N.mono (T:=[A0.md]) 0e0);replace TM:=TM.trans 3e1
  exists eo
  refine⟨by omega,?_⟩;have T4:aE G3b (Xt G3b op 8e6):=aE.cS eo;have K4:Kp [op] G3b (Xt G3b op 8e6):=Kp.kJ;have hC4:=(hC.app 8e46).kt T4;have nod:op≠A0.dd:=fun z=>s1 8e20;have nom:op≠A0.md:=fun z=>s1 4e17;have M4:=M3.other (vs:=us++[.ref pt]) eo no2 nod;have KF:Kp [A0.md,op] H (Xt G3b op 8e6):=fun b o e n=>K4.at1 (KM.at1 e 8e19) 8e19;obtain⟨w1,w2,w3⟩:=F0.new fo2;refine q _ p _ (F0.asm 8e18 os2 ?_ ?_ ?_ ⟨?_,?_⟩ 6e28 5e49 rfl F0.ps w1 w2) ⟨_,aA,hC4,Vj s1 no2,s2,s3⟩ 5e38
  ·simp[cG,c1]
  ·simp[cG,c2]
  ·simp[cG,c3]
  ·simp[cG]
  ·simp
  ·obtain⟨a1,a2,a3,a4,a5⟩:=F0.Hc s1 s2 s3 hb;exact KF b o e 3e46
  ·simp only[Α,Δ,Υ] at hb;rcases hb with rfl|rfl
   ·obtain⟨kv,e,_⟩:=M4.hm;exact⟨.inl aW.1,_,e⟩
   ·exact⟨.inr 0e0,_,aA⟩
theorem pM:Ok T T.j9 1 Gd:=by
 nomatch T.j9
 ·obtain⟨n,rfl,_⟩:=h;rfl
 ·obtain⟨n,rfl,q⟩:=h
  nomatch (aG (aK (bH 1e13 rfl T.CI pY (pa2 (fX dW 6e3) (bH 9e23 rfl T.J1 BN (pa2 6e3 pv0)))))),0
  wp_walk;exact q
theorem Gh{d:Nat}(hn:3<=n)(IH:gM P w K mg base Yj n t.wM t.xE ["saying","run"] (wA d)):Ok T T.fK (n+1) (wA (d+1)):=by
  nomatch T.fK
  · obtain⟨v,md,nd,od,dd,ot,S,s,rfl,_⟩:=h;rfl
  · obtain⟨v,md,nd,od,dd,ot,S,s,rfl,hS,hd,Xz,M,hP,q⟩:=h;have hu:=nI hr
    nomatch (aI (pst 2 4e2) (aI (pif 0e4 3e49) (aI (pif 0e4 9e21) (aI (pif 0e4 (aG (aK (vS hu 1e2 4e2 ⟨rfl,rfl,rfl,rfl⟩)))) (aI (pif 0e4 (aG (aK 1e2))) (aI (pif 0e4 (aG (aK (pcl (pM T) T.j9 (pa1 1e2))))) (aI (pst 3 7e40) (aI (pif 0e4 (aG (aK (vS hu (bU ((EU rfl)) rfl T.ND NV (pa1 1e2)) pv3 ⟨rfl,rfl,rfl,rfl⟩)))) (aI (pif 0e4 (aG (aK (bU gT rfl T.AK mW (pa1 (Qz (pcr nR pv3 cN) (nV (pcr aZ pv3 aB)))))))) (aI (pst 4 7e40) (aI (pif 0e4 (aG (aK (bU gT rfl T.AK mW (pa1 (pcr aZ pv3 pv4)))))) (aI (pst 5 (Cq pv3 (nV aB))) (pss3 (pst 6 6e46) (pif 0e4 (aG (aK (bU gT rfl T.AK mW (pa1 (pcr kH pv5 pv6)))))) (aK (pcl (pM T) T.j9 (pa1 (pdg (HA (fR aD (bD cI pv5 pv6) (fR aD (bD iR pv5 pv6) (fR aD (bD l9 pv5 pv6) HF))) rfl rfl 5e43 7e0) pv2))))))))))))))))),0
    obtain⟨kvs,em,_,v1,v2,v3,v4,v5,v6⟩:=M.hm;cases hS with
    | num e =>
      exists e
      exact q _ Kp.refl
    | Xu e =>
      exists e
      exact q _ Kp.refl
    | @name a x e =>
      exists e,em,v1,M.hn,rM
      exact q _ Kp.refl
    | arg e =>
      exists e,em,v2
      exact q _ Kp.refl
    | now e =>
      exists e,em,v3
      exact q _ Kp.refl
    | @ans a v s e h1 =>
      exists e
      simp only[Say.depth] at hd;refine⟨_,md,nd,od,dd,ot,S,_,rfl,h1,by omega,Xz,M,hP,fun H1 K1=>?_⟩;obtain⟨ds,ed,rd⟩:=M.hd
      exists K1.at em,v6,K1.at ed
      refine⟨_,(rd.kt 3e4).pairs,fun p hp=>?_⟩
      exists Jp M.uq,qR
      rw[VP] at q;exact q _ (K1.trans 1e10)
    | @neg a v s e h1 =>
      exists e
      simp only[Say.depth] at hd;refine⟨_,md,nd,od,dd,ot,S,_,rfl,h1,by omega,Xz,M,hP,fun H1 K1=>?_⟩;rw[VU] at q;cases hw:S.worth s with
      | none =>
        rw[hw] at q
        exists wv
        exact q _ K1
      | some z =>
        rw[hw] at q
        exists wv,reduceCtorEq
        by_cases hz:z=0
        · subst hz;exact q _ K1
        · have:=q _ K1;simp only[num,Ε0,hz,Β4,wv] at this;simpa[hz] using this
    | @two a v u g s1 s2 e h1 h2 =>
      simp only[Say.depth] at hd;rw[VX] at q;have w1:eC 9e16:=Hb hP Xz.1;have w2:eC 8e16:=Hb hP Xz.2;have b1:=yD w1;have b2:=yD w2;cases g <;>
      ( exists e,Sg.s
        refine⟨_,md,nd,od,dd,ot,S,_,rfl,h1,by omega,Xz.1,M,hP,fun H1 K1=>?_⟩
        exists K1.at e,Sg.s
        refine⟨_,md,nd,od,dd,ot,S,_,rfl,h2.kp 3e4,by omega,Xz.2,M.kp K1,hP,fun H2 K2=>?_⟩;have q0:=q;replace q:=q H2 6e21;wp_walk)
      case eq =>
        refine UU ?_;wp_walk;rw[show(Sg.eq.of 9e16 8e16)=if S.worth s1=S.worth s2 then 1 else 0 from rfl] at q;simpa[wv] using q
      case lt =>
        exists decide_eq_true_eq
        exact q
      all_goals (
        refine fun p hp=>⟨Ht 1e0 1e0,[(.inr "+",.int (num 9e16+num 8e16)),(.inr "-",.int (num 9e16 - num 8e16)),(.inr "*",.int (num 9e16 * num 8e16))],rfl,by simp,?_⟩
        exists Jq,VL,VO,VN
        exact q0 _ ((K1.trans K2).trans (O9 hp)))
theorem jW(T:Tx P w base K mg t):∀ d,gM P w K mg base Yj (d+3) t.wM t.xE ["saying","run"] (wA d):=by
 intro d
 induction d with
 | zero=>exact⟨fun _ _ _ _ x=>by (obtain⟨_,_,_,_,_,_,_,s,_,_,h,_⟩:=x;exact absurd h (by have:=s.oN;omega)),fun _ _ _ _ _ _ _ _ _ _ _ _ _ x=>by (obtain⟨_,_,_,_,_,_,_,s,_,_,h,_⟩:=x;exact absurd h (by have:=s.oN;omega))⟩
 | succ d ih=>exact Gh T 1e0 ih
theorem Ck:Ok T T.qF 11 (Ge (fun m=>∃ x ss,m=.wait x ss)):=by
 nomatch T.qF
 ·obtain⟨P0,A0,S,p,v,m,rfl,_⟩:=h;rfl
 ·obtain⟨P0,A0,S,p,v,m,rfl,F,sn,hs,gm,g,st,hP,b1,b2,b3,q⟩:=h
  nomatch (aI (FV (i:=2) sc rfl 6e50 (rV (fr:=[0]) (N:=["saying","run"]) rfl 1e4 (fD.free rfl rfl rfl rfl rfl 4e24 rfl 7e0 rfl 6e32) (MK 3e0) (fun C s H ex pn=>⟨Cs,(Co 0e24 (hr.mono 1e0) rfl T.fK.m T.fK.fn.kp T.fK.bd .nil pass0 (dN 6e2 (dN 8e7 bT))) ⟩))) (aI (DW (i:=3) (fr:=[2]) (N:=["ticket","worth","worths"]) rfl 1e4 (lK.of (M:=["ticket","worths"]) 5e24 rfl 7e0 rfl) (mC 5e0) (fun C s H ex pn=>⟨mG (dZ iQ 6e2 (pv 2) 8e2) ,6e2 ⟩) sc rfl 4e12) (aI (ppt pv0 aD (rV (fr:=[2]) (N:=["ticket","worths"]) rfl 1e4 5e24 (mC 5e0) 9e33)) (pss3 (pif (PW.pt (eP (ptc 6e45 pv3 8e0) (dQ (ptc 3e20 5e0 8e0)))) (pss2 1e16 vW)) (ppt 5e0 3e0 (pix aM (bD cI pv3 (aV (pa1 cN))) aB)) 1e15)))),0
  obtain⟨x,ss,rfl⟩:=gm;cases hs with
  | @wait a pp x vs ss e1 e2 hss =>
   obtain⟨_,g4,gs⟩:=g;have lv:=hss.SD;obtain⟨ot,M0,YB,c1,c2,c3,c4⟩:=F.ex;left
   exists e1
   refine⟨⟨_,jC.of e2⟩,?_⟩;obtain⟨Pv,XD⟩:∃ Pv:Nat->List V->Hp->Prop,∀ i xs G,Pv i xs G=(Kp [] H G/\xs=((ss.take i).map S.worth).map wv):=⟨_,fun _ _ _=>rfl⟩;refine L6 (ys:=vs) Pv ?_ ?_ ?_ ?_ ?_
   ·rw[XD];exact⟨Kp.refl,rfl⟩
   ·intro i xs G h;rw[XD] at h;rw[h.2,Γ,Γ,Α7];omega
   ·intro i xs G h;rw[XD] at h;exact jC.of (h.1.at e2)
   ·intro i y xs G hi ey h;rw[XD] at h;obtain⟨k,rfl⟩:=h;obtain⟨s0,es,h0⟩:=hss.atW ey;obtain⟨sk1,sk2⟩:=gs s0 (ϒ es)
    exists aX,Β6
    refine⟨y,A0.md,A0.nd,A0.od,A0.dd,ot,S,s0,rfl,h0.kp (aE.nil k),sk2,sk1,M0.kp k,hP,fun G' k'=>?_⟩;show Pv 4e1 _ _;rw[XD,Β3,es];exact⟨k.trans k',by simp⟩
   intro xs G h p1 hp1;rw[XD] at h;obtain⟨k,rfl⟩:=h;rw[lv,Α0];obtain⟨ws,Yu⟩:∃ ws,ws=ss.map S.worth:=⟨_,rfl⟩;have hd:bV S 6e12=if bB S.ans ws=none/\bM S.pend ws≠[] then ({S with sl:=.wait 4e21},[]) else ({S with nm:=cD S.nm x 3e9},[]):=by rw[Yu];rfl
   rw[<- Yu];have lw:ws.length<=4:=by rw[Yu,Γ];exact g4
   clear Yu XD Pv;have N1:=k.trans (q0D (o:=.lst 1e7) hp1);have f1:Xt G p1 2e7 p1=some 2e7:=aA;generalize Xt G p1 2e7=G1 at *;have F1:=F.kp N1;have M1:=M0.kp N1;replace e1:=N1.at e1;right;left;obtain⟨X2,XG,YA,u1,u2,u3,u4,u5,u6⟩:=M1.hm;obtain⟨ds,ed,Z0⟩:=M1.hd;have lds:=Z0.len
   exists XG,u6
   refine⟨⟨_,gE.of ed⟩,?_⟩;obtain⟨Pw,XS⟩:∃ Pw:Nat->List V->Hp->Prop,∀ i xs G',Pw i xs G'=(G'=G1/\xs=(dD 4e48 ws).map V.int):=⟨_,fun _ _ _=>rfl⟩;refine L4 (ys:=ds) Pw ?_ ?_ ?_ ?_ ?_
   ·rw[XS];exact⟨rfl,rfl⟩
   ·intro i xs G' h;rw[XS] at h;have:=Γ8 (fun p:Int×Wo=>decide (some p.1∈ws)) 4e48;rw[h.2,Γ,dD,Γ];rw[Α7] at this;omega
   ·intro i xs G' h;rw[XS] at h;rw[h.1];exact gE.of ed
   ·intro i y xs G' hi ey h;rw[XS] at h;obtain⟨rfl,rfl⟩:=h;obtain⟨t0,j0,w0,rfl,ej,et⟩:=Z0.at ey;refine⟨t0,_,_,rfl,jC.of et,?_⟩
    exists aX,Β6,f1,B6
    refine⟨rfl,Di ws,?_⟩;rw[XS,XS,FZ ej];split
    ·next h=>exact⟨rfl,(if_pos 7e15).symm⟩
    ·next h=>exact⟨rfl,(if_neg 7e15).symm⟩
   intro xs G' h p2 Z4;rw[XS,lds,Α0] at h;obtain⟨rfl,rfl⟩:=h;clear XS Pw;have N2:=q0D (o:=.lst 0e25) Z4;have f2:Xt G' p2 1e25 p2=some 1e25:=aA;have n12:p2≠A0.md:=fun z=>by rw[z,XG] at Z4;cases Z4
   generalize Xt G' p2 1e25=G2 at *;replace F1:=F1.kp N2;replace M1:=M1.kp N2;replace e1:=N2.at e1;replace f1:=N2.at f1;replace N1:=N1.trans N2;clear XG YA u1 u2 u3 u4 u5 u6 ed Z0 N2 X2 ds lds;right;left;obtain⟨X2,XG,YA,u1,u2,u3,u4,u5,u6⟩:=M1.hm;obtain⟨y1,hy1⟩:=YB "awaited" 4e0
   exists XG,u5
   refine⟨⟨_,gE.of M1.ho⟩,?_⟩;obtain⟨Pw,XS⟩:∃ Pw:Nat->List V->Hp->Prop,∀ i xs G',Pw i xs G'=(G'=G2/\xs=((S.pend.take i).filter fun j=>decide 7e48).map V.int):=⟨_,fun _ _ _=>rfl⟩;refine rJ (ys:=S.pend.map V.int) Pw ?_ ?_ ?_ ?_ ?_
   ·rw[XS];exact⟨rfl,rfl⟩
   ·intro i xs G' h;rw[XS] at h;have:=Γ8 (fun j=>decide 7e48) (S.pend.take i);rw[h.2,Γ];rw[Α7] at this;omega
   ·intro i xs G' h;rw[XS] at h;rw[h.1];exact gE.of M1.ho
   ·intro i y xs G' hi ey h;rw[XS] at h;obtain⟨rfl,rfl⟩:=h;rw[ϕ] at ey;obtain⟨j0,ej,rfl⟩:=Ϝ.mp ey
    exists aX,Β6,f1,B6
    refine⟨rfl,Di ws,?_⟩;rw[XS,XS,IY ej];split
    ·next h=>exact⟨rfl,(if_pos 7e15).symm⟩
    ·next h=>exact⟨rfl,(if_neg 7e15).symm⟩
   intro xs G' h p3 hp3;rw[XS,Γ,Α0,DQ M1.asc] at h;obtain⟨rfl,rfl⟩:=h;clear XS Pw;have N2:=q0D (o:=.lst 7e2) hp3;have f3:Xt G' p3 (.lst 7e2) p3=some (.lst 7e2):=aA;obtain⟨w1,w2,w3⟩:=F1.new hp3;have fp3:H p3=none:=N1.cL hp3;replace F1:=F1.kp N2;replace M1:=M1.kp N2;replace e1:=N2.at e1;replace XG:=N2.at XG;replace f2:=N2.at f2;replace N1:=N1.trans N2;generalize Xt G' p3 (.lst 7e2)=G1 at *;have KM:Kp [A0.md] G1 G1:=Kp.refl;have TM:aE G1 G1:=fun _ _ e=>e;have Zt:=YB
   exists XG
   refine⟨by omega,?_⟩;refine M1.six XG (k:="awaited") 4e0 hy1 Zt KM TM 0e0 7e31 fun G2 M2 os2 KM TM kp1 TS1 KS1=>?_;replace f2:=kp1 f2 2e1;replace f3:=kp1 f3 2e1;replace e1:=kp1 e1 2e1;clear kp1 TS1 KS1 XG YA;right;obtain⟨YM,M2,os2,d1,d2,d3,da,dm⟩:∃ YM:Str->Option V,cU G2 A0.md A0.nd A0.od A0.dd YM S/\(∀ k∈OK6,∃ v,YM k=some v)/\YM "code"=some 2e17/\YM "at"=some 2e11/\YM "letters"=some 1e17/\YM "awaited"=some 7e31/\YM "mode"=some 4e52:=⟨_,M2,os2,(eL).trans c1,(eL).trans c2,(eL).trans c3,zD,(eL).trans (by rw[sn] at c4;exact c4)⟩;have kn2:(fF S.nm).length<=100000:=by rw[fF,Γ];exact b1
   refine bQ fun R4 hR4=>?_;refine cP fun RI XA=>?_
   suffices fin:(bB S.ans ws=none/\bM S.pend ws≠[]->∀ G,8e32->RI [some 5e2,some 9e1,some 8e10,some 3e3] G)/\(¬ 4e37->∀ G,8e32->R4 [some 5e2,some 9e1,some 8e10,some 3e3] G) by
    obtain⟨kv2,X7,lk2,t1,t2,t3,t4,t5,t6⟩:=M2.hm;have va:bA kv2 7e46=some 7e31:=(lk2.2 _ 4e0).trans da
    exists f2
    refine fun q1 h1=>⟨_,PR ((q0D h1).at f2) aA,?_⟩;generalize hg:Xt G2 q1 2e0=G3;have NQ:Kp [] G2 G3:=hg▸Kp.new h1;clear hg;replace M2:=M2.kp NQ;replace X7:=NQ.at X7;replace f2:=NQ.at f2;replace f3:=NQ.at f3;replace e1:=NQ.at e1;replace KM:=KM.trans (NQ.mono (T:=[A0.md]) 0e0);replace TM:=TM.trans 5e51
    exists X7,va
    split
    ·next hr =>
     have hf:bB S.ans ws=none:=by rw[nY];simpa using hr
     refine fun q2 h2=>⟨_,PR ((q0D h2).at f3) aA,?_⟩;have NR:=q0D (o:=.lst []) h2;split
     ·next ho=>exact fin.1 ⟨hf,by simpa using ho⟩ _ ⟨M2.kp NR,NR.at e1,NR.at f2,NR.at f3,KM.trans (NR.mono 0e0),TM.trans 4e51⟩
     ·next ho=>exact fin.2 (fun z=>ho (by simpa using z.2)) _ ⟨M2.kp NR,NR.at e1,NR.at f2,NR.at f3,KM.trans (NR.mono 0e0),TM.trans 4e51⟩
    ·next hr=>exact fin.2 (fun z=>hr (by have:=z.1;rw[nY] at this;simpa using this)) _ ⟨M2,e1,f2,f3,KM,TM⟩
   clear KM TM M2 e1 f2 f3;refine⟨fun cw G3 ⟨M3,e1,f2,f3,KM,TM⟩=>XA _ _ ?_,fun cw G3 ⟨M3,e1,f2,f3,KM,TM⟩=>?_⟩
   ·clear XA RI;have os3:=os2;obtain⟨kv3,X9,Y1,_⟩:=M3.hm;obtain⟨y3,hy3⟩:=os3 "mode" 4e0;left
    exists X9
    refine⟨by omega,?_⟩;refine M3.six X9 (k:="mode") 4e0 hy3 os3 KM TM 0e0 (.str "wait") fun G4 M4 os4 KM TM kp3 TS3 KS3=>?_;replace f3:=kp3 f3 2e1;clear kp3 TS3 KS3 X9 Y1;right;wp_walk;have h1:one S 6e12=({S with sl:=.wait 4e21},[]):=by rw[kN rfl,hd,if_pos cw];rfl
    rw[h1] at q;refine q {A0 with aw:=p3} p G4 ((F1.Vx sn p3).pV 8e18 os4 0e48 ((eL).trans d2) 9e47 ⟨zD,(eL).trans da,f3,w3⟩ 3e37 TM rfl F1.ps) (((Fm.of N1).trans 7e25).awN fp3 f3);rw[show b=A0.md by simpa using hb];obtain⟨kv,e,_⟩:=M4.hm;exact⟨.inl aW.1,_,e⟩
   ·clear XA RI;refine hR4 _ _ ?_;clear hR4 R4;obtain⟨kv3,X9,Y1,t1,t2,t3,t4,t5,t6⟩:=M3.hm;left
    exists X9,t1,f2,e1,M3.hn
    refine fun p4 h4=>?_;generalize hg:Xt G3 p4 1e51=G4;have N4:Kp [] G3 G4:=hg▸Kp.new h4;have e4:G4 p4=some 1e51:=hg▸aA;clear hg;replace M3:=M3.kp N4;replace X9:=N4.at X9;replace f2:=N4.at f2;replace e1:=N4.at e1;replace KM:=KM.trans (N4.mono (T:=[A0.md]) 0e0);replace TM:=TM.trans 2e2
    exists f2,e4
    refine⟨by have:=JP S.ans ws;rw[Γ];omega,fun p5 h5=>?_⟩;rw[MP];have N5:=q0D (o:=.lst 0e39) h5;replace M3:=M3.kp N5;replace X9:=N5.at X9;replace e1:=N5.at e1;replace KM:=KM.trans (N5.mono (T:=[A0.md]) 0e0);replace TM:=TM.trans (aE.nil N5);generalize Xt G4 p5 (.lst 0e39)=G5 at *
    exists X9,t1,e1,M3.hn,gJ
    refine⟨by omega,?_⟩;have M6:=M3.name x 3e9;have TN:aE G5 5e42:=aE.cS M3.hn;have KN:Kp [A0.md,A0.nd] G5 5e42:=Kp.set 0e0;replace KM:=(KM.mono (T:=[A0.md,A0.nd]) 0e0).trans KN;replace TM:=TM.trans TN;generalize Xt G5 A0.nd (.dK 4e14)=G6 at *;clear X9 Y1 t1 t2 t3 t4 t5 t6 N4 N5 TN KN;have os6:=os2;right;obtain⟨kv6,em6,lk6,_⟩:=M6.hm;have vat:bA kv6 1e1=some 2e11:=(lk6.2 _ 4e0).trans d2;obtain⟨y6,hy6⟩:=os6 "at" 4e0
    exists em6,vat
    refine⟨by omega,?_⟩;refine M6.six em6 (k:="at") 4e0 hy6 os6 KM TM 0e0 7e45 fun G7 M7 os7 KM TM kp6 TS6 KS6=>?_;clear kp6 TS6 KS6 em6 lk6;have h1:one S 6e12=(({S with nm:=cD S.nm x 3e9}:Pu).pass,[]):=by rw[kN rfl,hd,if_neg cw,if_pos (by rw[show(({S with nm:=cD S.nm x 3e9}:Pu).sl)=S.sl from rfl,sn];rfl)]
    rw[h1] at q;have YL:=F1.ps.pass st;rw[Nq rfl] at YL;refine q A0 (p+1) G7 (F1.pV 5e37 os7 0e48 zD 9e47 ?_ (fun b o e hb=>KM b o e (by have:=F1.far hb;simp[this.1,this.2.1])) TM rfl YL) 8e25
    ·show eU _ _ _ S.sl;rw[sn] at c4 ⊢;exact(eL).trans dm
    ·simp only[Α,Δ,Υ] at hb;rcases hb with rfl|rfl
     ·obtain⟨kv,e,_⟩:=M7.hm;exact⟨.inl aW.1,_,e⟩
     ·exact⟨.inl aW.2.1,_,M7.hn⟩
theorem Cj:Ok T T.qE 1 (Ge (fun m=>∃ x k,m=.Xy x k)):=by
 nomatch T.qE
 ·obtain⟨P0,A0,S,p,v,m,rfl,_⟩:=h;rfl
 ·obtain⟨P0,A0,S,p,v,m,rfl,F,sn,hs,gm,g,st,hP,b1,b2,b3,q⟩:=h;have hu:=nI hr
  nomatch (pss3 (pif (ptc 6e45 (tW hu 5e0 3e0 8e0 ⟨rfl,rfl,rfl,rfl⟩) 8e0) (pss2 1e16 vW)) (ppt 5e0 3e0 3e33) 1e15),0
  obtain⟨x,k,rfl⟩:=gm;cases hs with
  | @Xy a x k e1 =>
   obtain⟨ot,M0,YB,c1,c2,c3,c4⟩:=F.ex;obtain⟨lk,ml,el,hl,hun,hq⟩:=F.lt;obtain⟨XO,XF,Yl,t1,t2,t3,t4,t5,t6⟩:=M0.hm;have vl:bA XO 9e20=some 1e17:=(Yl.2 _ 4e0).trans c3;have kn2:(fF S.nm).length<=100000:=by rw[fF,Γ];exact b1
   refine bQ fun R1 hR1=>?_;refine cP fun RI XA=>?_
   suffices fin:((aS S.lt k).getD []=[]->∀ G,Kp [] H G->RI [some 5e2,some 9e1] G)/\(∀ w r l,(aS S.lt k).getD []=w::r->bA lk 0e3=some 3e32->l∈A0.las->∀ G,G l=some (.lst ((w::r).map wv))->Kp [] H G->R1 [some 5e2,some 9e1] G) by
    exists XF,vl,e1,el
    refine fun p1 h1=>?_;have N1:=q0D (o:=.lst []) h1;have e0:Xt H p1 2e0 p1=some 2e0:=aA;have hl':=hl.keep 5e27;have el':=N1.at el;obtain⟨l,ws,hv,ZE,Yu,hx⟩:∃ l ws,(bA lk 0e3).getD 8e10=.ref l/\Xt H p1 2e0 l=some 2e7/\(aS S.lt k).getD []=ws/\(ws≠[]->bA lk 0e3=some 3e32/\l∈A0.las):=by
     rcases hl'.look k with⟨z1,z2⟩|⟨l,ws,z1,z2,z3,z4⟩
     ·exact⟨p1,[],by rw[z1];rfl,e0,by rw[<- hq k,z2];rfl,fun z=>absurd rfl z⟩
     ·exact⟨l,ws,by rw[z1];rfl,z4,by rw[<- hq k,z2];rfl,fun _=>⟨z1,z3⟩⟩
    generalize Xt H p1 2e0=G1 at *
    exists el',hv
    refine fun p2 h2=>?_;have N2:=q0D (o:=.lst []) h2;have hl2:=N2.at ZE;refine⟨_,PR hl2 aA,?_⟩;cases ws with
    | nil=>exact fin.1 Yu _ 6e49
    | cons w r =>
     obtain⟨x1,x2⟩:=hx 0e0;exact fin.2 w r l Yu x1 x2 _ hl2 6e49
   refine⟨fun hn G1 N1=>XA _ _ ?_,fun w r l hn hv hll G1 el1 N1=>?_⟩
   ·clear XA RI;have M1:=M0.kp N1;have Zt:=YB;have KM:Kp [A0.md] G1 G1:=Kp.refl;have TM:aE G1 G1:=fun _ _ e=>e;have F1:=F.kp N1;obtain⟨X2,XG,YA,_⟩:=M1.hm;obtain⟨y1,hy1⟩:=Zt "mode" 4e0;left
    exists XG
    refine⟨by omega,?_⟩;refine M1.six XG (k:="mode") 4e0 hy1 Zt KM TM 0e0 (.str "hear") fun G2 M2 os2 KM TM kp1 TS1 KS1=>?_;clear kp1 TS1 KS1 XG YA;right;wp_walk;have h1:one S 0e11=({S with sl:=.Xy k},[]):=by
     have:bV S 0e11=({S with sl:=.Xy k},[]):=by simp only[bV,hn]
     rw[kN rfl,this];rfl
    rw[h1] at q;refine q A0 p G2 (F1.pV (M2.as ⟨rfl,rfl,rfl,rfl,rfl,rfl⟩) os2 7e29 1e48 6e29 zD 3e37 TM rfl F1.ps) 8e25;rw[show b=A0.md by simpa using hb];obtain⟨kv,e,_⟩:=M2.hm;exact⟨.inl aW.1,_,e⟩
   ·clear XA RI;refine hR1 _ _ ?_;clear hR1 R1;have F1:=F.kp N1;have M1:=M0.kp N1;replace XF:=N1.at XF;replace e1:=N1.at e1;replace el:=N1.at el;replace hl:=hl.keep 5e27;left
    exists XF,t1,vl,el,e1,M1.hn,hv,el1
    rw[show(wv w::r.map wv).tail=r.map wv from rfl];obtain⟨g1,g2,g3,g4⟩:=F1.s2 l hll;have fl:=F1.far (.inr (.inr (.inr hll)));have M2:=M1.other (vs:=r.map wv) el1 g1 g2;have hl2:=hl.set r hv F1.nl;have KM:Kp [A0.md,A0.nd,l] G1 (Xt G1 l 3e12):=Kp.set 0e0;have TM:aE G1 (Xt G1 l 3e12):=aE.cS el1;replace XF:=cY (u:=.lst 4e26) el1 XF;replace el:=cY (u:=.lst 4e26) el1 el;replace e1:=TM _ _ e1;have elr:Xt G1 l 3e12 l=some 3e12:=aA;generalize Xt G1 l 3e12=G2 at *
    exists XF,t1,e1,M2.hn,gJ
    refine⟨by omega,?_⟩;have M3:=M2.name x w;have TN:aE G2 6e42:=aE.cS M2.hn;have KN:Kp [A0.md,A0.nd,l] G2 6e42:=Kp.set 0e0;replace el:Xt G2 A0.nd (.dK 0e2) A0.ld=some (.dK lk):=by rw[aC F.n2.symm];exact el
    replace elr:=cY (u:=.dK 0e2) M2.hn elr;replace hl2:=hl2.keep (H':=Xt G2 A0.nd (.dK 0e2)) (fun a ha o e=>by rw[aC (F1.far 0e43).2.1];exact e);replace KM:=KM.trans KN;replace TM:=TM.trans TN;generalize Xt G2 A0.nd (.dK 0e2)=G3 at *;clear XF Yl t1 t2 t3 t4 t5 t6 TN KN;have os3:=YB;right;obtain⟨kv3,X9,Y1,_⟩:=M3.hm;have vat:bA kv3 1e1=some 2e11:=(Y1.2 _ 4e0).trans c2;obtain⟨y3,hy3⟩:=os3 "at" 4e0
    exists X9,vat
    refine⟨by omega,?_⟩;refine M3.six X9 (k:="at") 4e0 hy3 os3 KM TM 0e0 7e45 fun G4 M4 os4 KM TM kp3 TS3 KS3=>?_;replace el:=KS3 _ _ el (by simp[F.n1.symm]);replace elr:=kp3 elr 2e1;replace hl2:=hl2.keep fun a ha o e=>KS3 a o e (by simp[(F1.far 0e43).1]);clear kp3 TS3 KS3 X9 Y1;have h1:one S 0e11=(({S with nm:=cD S.nm x w,lt:=dH S.lt k r}:Pu).pass,[]):=by
     have:bV S 0e11=({S with nm:=cD S.nm x w,lt:=dH S.lt k r},[]):=by simp only[bV,hn]
     rw[kN rfl,this,if_pos (by rw[show(({S with nm:=cD S.nm x w,lt:=dH S.lt k r}:Pu).sl)=S.sl from rfl,sn];rfl)]
    rw[h1] at q;have YL:=F1.ps.pass st;rw[Nq rfl] at YL;refine q A0 (p+1) G4 (F1.QW 8e18 os4 7e29 zD 6e29 ?_ 6e28 TM ⟨lk,_,el,hl2,⟨by rw[o9];exact hun.1,by rw[oA];exact hun.2⟩,fun j=>?_⟩ YL F1.nl F1.s2) 8e25
    ·show eU _ _ _ S.sl;rw[sn] at c4 ⊢;exact(eL).trans c4
    ·have XX:b=A0.cl\/b∈A0.cs\/b=A0.ld\/b∈A0.las:=hb.elim .inl 1e43;have hf:=F1.far XX;refine KM b o e ?_;simp only[Α,Δ,Υ,not_or];refine⟨hf.1,hf.2.1,fun z=>?_⟩;subst z;rcases hb with hb|hb
     ·exact g3 hb
     ·exact g4 hb
    ·show _=(aS (dH S.lt k r) j).getD [];rw[xX hn,xX (by rw[hq k];exact hn),hq j]
    ·simp only[Α,Δ,Υ] at hb;rcases hb with rfl|rfl|rfl
     ·obtain⟨kv,e,_⟩:=M4.hm;exact⟨.inl aW.1,_,e⟩
     ·exact⟨.inl aW.2.1,_,M4.hn⟩
     ·exact⟨.inl (by simp[Fa.mut,hll]),_,elr⟩
theorem rS:Ok T T.lV 1 HP:=by
 nomatch T.lV
 ·obtain⟨md,nd,od,dd,ot,S,x,rfl,_⟩:=h;rfl
 ·obtain⟨md,nd,od,dd,ot,S,x,rfl,M,b1,b2,b3,q⟩:=h
  nomatch (aI 1e15 (pss3 (aP (dP 5e0 (bD iR 5e0 aB))) (ppt 5e0 pv1 (bD iR 5e0 aB)) (aK (bD iR 5e0 aB)))),0
  obtain⟨kvs,em,lk,v1,v2,v3,v4,v5,v6⟩:=M.hm;left
  exists em,v4
  have M1:=M.made em;have K1:Kp [md,nd,od] H (Xt H md 8e34):=Kp.set 0e0;refine⟨by omega,?_⟩;generalize Xt H md 8e34=G1 at *;right;left;obtain⟨X2,XG,YA,x1,x2,x3,x4,x5,x6⟩:=M1.hm;have e4:((({S with made:=S.made+1}:Pu).made:Nat):Int) - 1=(S.made:Int):=by show((S.made+1:Nat):Int) - 1=_;omega
  exists XG,x5,M1.ho,x4,e4
  refine⟨by rw[Γ];show S.pend.length < _;omega,?_⟩;have ea:S.pend.map V.int++[V.int (S.made:Int)]=(S.pend++[(S.made:Int)]).map V.int:=by simp
  rw[show({S with made:=S.made+1}:Pu).pend=S.pend from rfl,ea];have M2:=M1.open (pd:=S.pend++[(S.made:Int)]) (List.pairwise_append.mpr ⟨M.asc,by simp,fun i hi j hj=>by rw[show j=(S.made:Int) by simpa using hj];exact(M.lt i hi).2⟩) (fun i hi=>by
   rcases Κ.mp hi with hi|hi
   ·have:=M.lt i hi;exact⟨this.1,by show i < ((S.made+1:Nat):Int);omega⟩
   ·rw[show i=(S.made:Int) by simpa using hi];exact⟨by omega,by show(S.made:Int) < ((S.made+1:Nat):Int);omega⟩) (fun p hp hi=>by
   have d:=M.dis p hp;rcases Κ.mp hi with hi|hi
   ·exact d.1 hi
   ·have:p.1=(S.made:Int):=by simpa using hi
    omega)
  have K2:Kp [md,nd,od] H _:=K1.trans (Kp.set (p:=od) (o:=.lst 9e37) 0e0);generalize Xt G1 od (.lst 9e37)=G2 at *;right;left;obtain⟨kv2,X7,lk2,y1,y2,y3,y4,y5,y6⟩:=M2.hm;have ep:aR 3e31 (.inr x) 3e45=fF (cD S.nm x 6e6):=gJ S.nm x 6e6;have l1:(fF S.nm).length<=100000:=by rw[fF,Γ];exact b3
  have hn2:G2 nd=some (.dK 3e31):=M2.hn
  exists X7,y1,y4,e4,hn2,ep
  refine⟨by omega,?_⟩;have M3:=M2.name x 6e6;have K3:Kp [md,nd,od] H _:=K2.trans (Kp.set (p:=nd) (o:=.dK 1e28) 0e0);replace M3:cU (Xt G2 nd (.dK 1e28)) md nd od dd ot (S.tL x):=M3;generalize Xt G2 nd (.dK 1e28)=G3 at *;right;obtain⟨kv3,X9,Y1,z1,z2,z3,z4,z5,z6⟩:=M3.hm
  exists X9,z4
  rw[show(((S.tL x).made:Nat):Int) - 1=(S.made:Int) from by show((S.made+1:Nat):Int) - 1=_;omega];exact q G3 M3 K3
theorem AD:Ok T T.nF 10 QE:=by
 nomatch T.nF
 ·obtain⟨md,nd,od,dd,op,ot,v,S,m,us,cs,rfl,_⟩:=h;rfl
 ·obtain⟨md,nd,od,dd,op,ot,v,S,m,us,cs,rfl,M,hs,X0,g,hP,b1,b2,b3,eo,hC,b4,no1,no2,q⟩:=h
  nomatch (pss3 (pst 3 3e0) (pst 4 (pcl 0e24 T.fK (pa2 (pix aM pv1 5e3) pv0))) (gB 9e3 (aG (ppt 5e0 3e0 pv4)) (aG (gB 9e3 (pss2 (pst 5 (bH 9e23 rfl T.J1 BN (pa2 6e3 (bD cI 5e0 (bH 1e13 rfl T.CI pY (pa2 aB 6e46)))))) (aP (dP pv2 (aY (pa3 aD 1e39 pv5))))) (aG (gB 9e3 (aG (aP (dP pv2 (aY (dN aD (pa3 (pcl 0e24 T.fK (pa2 3e0 pv0)) 3e0 pv4)))))) (aG (gB 9e3 (aG (pif (dZ iQ pv4 5e0 8e2) (pss2 (aP (rY PySem.F.slot_list_remove PySem.F.type_list_remove Mg 5e0 2e31)) (aP (dP pv2 (aY (pa2 aD pv4))))))) (aG (aP (dP pv2 (aY (dN pv3 (pa3 1e39 3e0 pv4)))))))))))))),0
  cases hs with
  | @set a x v s e1 h1 =>
   have i1:hE [V.str "set",.str x,v] (-1)=some v:=rfl;left
   exists e1
   right;left
   exists e1,i1
   refine⟨v,md,nd,od,dd,ot,S,s,rfl,h1,g.2,g.1,M,hP,fun H1 K1=>?_⟩;have M1:=M.kp K1;have e2:=K1.at e1;have Yf:=K1.at eo;have ZC:=hC.kt 3e4;have T1:=aE.nil K1;obtain⟨kvs,em,lk,v1,v2,v3,v4,v5,v6⟩:=M1.hm;right;have l1:(fF S.nm).length<=100000:=by rw[fF,Γ];exact b3
   exists em,v1,M1.hn,e2,gJ
   refine⟨by omega,?_⟩;have M2:=M1.name x 7e1;have t2:aE H1 (Xt H1 nd (.dK 2e28)):=aE.cS M1.hn;exact q _ us M2 (cY M1.hn Yf) (by show iL _ us (cs++[]);rw[ϝ];exact ZC.kt t2) ((K1.mono 0e0).trans (Kp.set 0e0))
  | @order a x y v s e1 h1 =>
   have i1:hE [V.str "order",.str x,.str y,v] (-1)=some v:=rfl;left
   exists e1
   right;left
   exists e1,i1
   refine⟨v,md,nd,od,dd,ot,S,s,rfl,h1,g.2,g.1,M,hP,fun H1 K1=>?_⟩;have M1:=M.kp K1;have e2:=K1.at e1;have Yf:=K1.at eo;have ZC:=hC.kt 3e4;have T1:=aE.nil K1;obtain⟨kvs,em,lk,v1,v2,v3,v4,v5,v6⟩:=M1.hm;right
   exists e2,Yf
   refine⟨md,nd,od,dd,ot,S,x,rfl,M1,b1,b2,b3,fun H2 M2 K2=>?_⟩;have T2:aE H1 H2:=M1.tk K2 3e24;have ZA:=T2 _ _ e2;have Yq:=K2 _ _ Yf 5e29;have hC2:=ZC.kt T2;have KK:Kp [md,nd,od,op] H H2:=(K1.mono 0e0).trans (K2.mono 0e0)
   exists ZA,Yq
   refine fun p hp=>?_;generalize hg:Xt H2 p 7e35=G3;have N3:Kp [] H2 G3:=hg▸Kp.new hp;have e3:G3 p=some 7e35:=hg▸aA;clear hg;have Yk:=N3.at Yq;have M3:=M2.kp N3;have Yr:=hC2.kt 7e10;have K3:=KK.trans (N3.mono (T:=[md,nd,od,op]) 0e0)
   exists Yk
   refine⟨by omega,?_⟩;have t4:aE G3 6e14:=aE.cS Yk;exact q _ _ 4e15 aA 7e14 2e15
  | @child a x y v s e1 h1 =>
   have i1:hE [V.str "child",.str x,.str y,v] (-1)=some v:=rfl;left
   exists e1
   right;left
   exists e1,i1
   refine⟨v,md,nd,od,dd,ot,S,s,rfl,h1,g.2,g.1,M,hP,fun H1 K1=>?_⟩;have M1:=M.kp K1;have e2:=K1.at e1;have Yf:=K1.at eo;have ZC:=hC.kt 3e4;have T1:=aE.nil K1;obtain⟨kvs,em,lk,v1,v2,v3,v4,v5,v6⟩:=M1.hm;right
   exists e2,Yf
   refine⟨md,nd,od,dd,ot,S,x,rfl,M1,b1,b2,b3,fun H2 M2 K2=>?_⟩;have T2:aE H1 H2:=M1.tk K2 3e24;have ZA:=T2 _ _ e2;have Yq:=K2 _ _ Yf 5e29;have hC2:=ZC.kt T2;have KK:Kp [md,nd,od,op] H H2:=(K1.mono 0e0).trans (K2.mono 0e0)
   exists ZA,Yq
   refine fun p hp=>?_;generalize hg:Xt H2 p 8e35=G3;have N3:Kp [] H2 G3:=hg▸Kp.new hp;have e3:G3 p=some 8e35:=hg▸aA;clear hg;have Yk:=N3.at Yq;have M3:=M2.kp N3;have Yr:=hC2.kt 7e10;have K3:=KK.trans (N3.mono (T:=[md,nd,od,op]) 0e0)
   exists Yk
   refine⟨by omega,?_⟩;have t4:aE G3 6e14:=aE.cS Yk;exact q _ _ 4e15 aA 7e14 2e15
  | @XC a x v s e1 h1 =>
   have i1:hE [V.str "timer",.str x,v] (-1)=some v:=rfl;left
   exists e1
   right;left
   exists e1,i1
   refine⟨v,md,nd,od,dd,ot,S,s,rfl,h1,g.2,g.1,M,hP,fun H1 K1=>?_⟩;have M1:=M.kp K1;have e2:=K1.at e1;have Yf:=K1.at eo;have ZC:=hC.kt 3e4;have T1:=aE.nil K1;obtain⟨kvs,em,lk,v1,v2,v3,v4,v5,v6⟩:=M1.hm;right
   exists e2,Yf,em,v3,Rh
   refine⟨md,nd,od,dd,ot,S,x,rfl,M1,b1,b2,b3,fun H2 M2 K2=>?_⟩;have T2:aE H1 H2:=M1.tk K2 3e24;have ZA:=T2 _ _ e2;have Yq:=K2 _ _ Yf 5e29;have hC2:=ZC.kt T2;have KK:Kp [md,nd,od,op] H H2:=(K1.mono 0e0).trans (K2.mono 0e0)
   exists ZA,Yq
   refine fun p hp=>?_;generalize hg:Xt H2 p 7e34=G3;have N3:Kp [] H2 G3:=hg▸Kp.new hp;have e3:G3 p=some 7e34:=hg▸aA;clear hg;have Yk:=N3.at Yq;have M3:=M2.kp N3;have Yr:=hC2.kt 7e10;have K3:=KK.trans (N3.mono (T:=[md,nd,od,op]) 0e0)
   exists Yk
   refine⟨by omega,?_⟩;have t4:aE G3 6e14:=aE.cS Yk;exact q _ _ 4e15 aA 7e14 2e15
  | @send a k v u s r e1 h1 h2 =>
   have i1:hE [V.str "send",v,.str k,u] (-1)=some u:=rfl;left
   exists e1
   right;left
   exists e1,i1
   refine⟨u,md,nd,od,dd,ot,S,r,rfl,h2,g.2.2,g.2.1,M,hP,fun H1 K1=>?_⟩;have M1:=M.kp K1;have e2:=K1.at e1;have Yf:=K1.at eo;have ZC:=hC.kt 3e4;have T1:=aE.nil K1;obtain⟨kvs,em,lk,v1,v2,v3,v4,v5,v6⟩:=M1.hm;right
   exists e2,Yf
   refine⟨v,md,nd,od,dd,ot,S,s,rfl,h1.kp T1,g.1.2,g.1.1,M1,hP,fun H2 K2=>?_⟩;have M2:=M1.kp K2;have ZA:=K2.at e2;have Yq:=K2.at Yf;have hC2:=ZC.kt 4e30;have KK:Kp [md,nd,od,op] H H2:=(K1.trans K2).mono 0e0
   exists ZA,Yq
   refine fun p hp=>?_;generalize hg:Xt H2 p 6e35=G3;have N3:Kp [] H2 G3:=hg▸Kp.new hp;have e3:G3 p=some 6e35:=hg▸aA;clear hg;have Yk:=N3.at Yq;have M3:=M2.kp N3;have Yr:=hC2.kt 7e10;have K3:=KK.trans (N3.mono (T:=[md,nd,od,op]) 0e0)
   exists Yk
   refine⟨by omega,?_⟩;have t4:aE G3 6e14:=aE.cS Yk;exact q _ _ 4e15 aA 7e14 2e15
  | @drop a v s e1 h1 =>
   have i1:hE [V.str "drop",v] (-1)=some v:=rfl;left
   exists e1
   right;left
   exists e1,i1
   refine⟨v,md,nd,od,dd,ot,S,s,rfl,h1,g.2,g.1,M,hP,fun H1 K1=>?_⟩;have M1:=M.kp K1;have e2:=K1.at e1;have Yf:=K1.at eo;have ZC:=hC.kt 3e4;have T1:=aE.nil K1;obtain⟨kvs,em,lk,v1,v2,v3,v4,v5,v6⟩:=M1.hm;right
   exists em,v5,M1.ho,U5
   refine⟨wB _,oP _,?_⟩;have KK:Kp [md,nd,od,op] H H1:=K1.mono 0e0;by_cases hp:∃ i,i∈S.pend/\S.worth s=some i
   ·rw[if_pos hp];obtain⟨i,hi,hw⟩:=hp;have hwv:wv 7e1=.int i:=by rw[hw];rfl
    have hd:bV S 9e17=({S with pend:=S.pend.filter fun j=>decide 2e8},[[.str "drop",.int i]]):=by simp only[bV,hw,if_pos hi]
    rw[hd] at q;obtain⟨k,hk⟩:=HE hi;have ef:=lM M.asc hk;rw[hwv];wp_walk;refine⟨S.pend,M1.ho,?_⟩
    exists hk
    rw[ef];have M2:=M1.open (pd:=S.pend.filter fun j=>decide 2e8) (M.asc.filter _) (fun j hj=>M.lt j 3e16) (fun p hp hj=>(M.dis p hp).1 3e16);have T2:aE H1 7e43:=aE.cS M1.ho;have Yq:Xt H1 od (.lst 3e8) op=some 8e17:=by rw[aC no1];exact Yf
    have hC2:=ZC.kt T2;have K2:Kp [md,nd,od,op] H 7e43:=KK.trans (Kp.set 0e0);generalize Xt H1 od (.lst 3e8)=G2 at *
    exists Yq,hwv
    refine fun p hp=>?_;generalize hg:Xt G2 p 0e41=G3;have N3:Kp [] G2 G3:=hg▸Kp.new hp;have e3:G3 p=some 0e41:=hg▸aA;clear hg;have Yk:=N3.at Yq;have M3:=M2.kp N3;have Yr:=hC2.kt 7e10;have K3:=K2.trans (N3.mono (T:=[md,nd,od,op]) 0e0)
    exists Yk
    refine⟨by omega,?_⟩;have t4:aE G3 6e14:=aE.cS Yk;exact q _ _ 4e15 aA 7e14 2e15
   ·rw[if_neg hp];have hd:bV S 9e17=(S,[]):=by
     cases hw:S.worth s with
     | none=>simp only[bV,hw]
     | some i=>simp only[bV,hw,if_neg (show ¬ i∈S.pend from fun z=>hp ⟨i,z,hw⟩)]
    rw[hd] at q;wp_walk;exact q _ us M1 Yf (by show iL _ us (cs++[]);rw[ϝ];exact ZC) KK
  | _=>cases X0
theorem DJ:Ok T T.B0 14 QC:=by
 nomatch T.B0
 ·obtain⟨P0,A0,S,p,op,N,rfl,_⟩:=h;rfl
 ·obtain⟨P0,A0,S,p,op,N,rfl,F,O,FT,lN,q⟩:=h
  nomatch (pss3 (pst 2 aB) 1e16 (nW Γ0 (ptc aZ 5e0 aD) (aI (pif (ptc aZ 5e0 (bH cQ rfl T.mJ fJ (pa1 5e0))) (pss2 (aP (pcl (uJ T) T.oQ (pa3 pv0 cN pv1))) vW)) (aI (mE (pix aM 5e0 5e0) (MI rfl (fQ 1e24 (fQ (pgn 4) (fQ (pgn 5) (fQ (pgn 6) vV)))))) (aI (pif 9e3 (pss2 (ppt pv0 aD pv6) DV)) (pss3 (pif 4e29 (aI 1e16 (pss3 (ppt pv0 aD 8e0) (aP (dP pv1 3e10)) vW))) (pst 2 (bD cI pv2 aB)) (gB (dZ iQ pv3 3e7 8e2) (aG (ppt pv0 aD (pix aM (aV (pa2 pv6 (bD cI 5e0 aB))) (bU gT rfl T.AK mW (pa1 (pcr My (Cq 0e36 (nV aB)) aB)))))) (aG (gB 9e3 (aG (aP (pcl (Ck T) T.qF 8e48))) (aG (gB 9e3 (aG (aP (pcl (Cj T) T.qE 8e48))) (aG (gB 9e3 (aG (aP (pcl (uJ T) T.oQ (pa3 pv0 0e36 pv1)))) (pss2 (aP (pcl (AD T) T.nF (pa3 pv0 pv4 pv1))) 1e15)))))))))))))),0
  left;wp_walk;right;obtain⟨ot,M0,YB,c1,c2,c3,c4⟩:=F.ex;have KM:Kp [A0.md] H H:=Kp.refl;have TM:aE H H:=fun _ _ e=>e;obtain⟨XO,XF,Yl,_⟩:=M0.hm;obtain⟨y0,hy0⟩:=YB "mode" 4e0;left
  exists XF
  refine⟨by omega,?_⟩;refine M0.six XF (k:="mode") 4e0 hy0 YB KM TM 0e0 4e52 fun G1 M1 Zt KM TM kp0 TS0 KS0=>?_;clear kp0 TS0 KS0 XF Yl;right;obtain⟨S0,hS0⟩:∃ S0:Pu,S0={S with sl:=.Xu}:=⟨_,rfl⟩;rw[<- hS0] at q FT;have F1:bR P0 G1 A0 S0 p:=by
   rw[hS0];exact F.pV (M1.as ⟨rfl,rfl,rfl,rfl,rfl,rfl⟩) Zt 7e29 1e48 6e29 zD (fun b o e hb=>KM.at1 e (F.far hb).1) TM rfl F.ps
  have O1:hW G1 A0 op []:=by
   obtain⟨us,eo,hC,s1,s2,s3⟩:=O;exact⟨us,KM.at1 eo (fun z=>s1 4e17),hC.kt TM,s1,s2,s3⟩
  have W1:Fm [op] A0 A0 H G1:=Fm.ofK KM fun b hb=>by
   rw[show b=A0.md by simpa using hb];obtain⟨kv,e,_⟩:=M1.hm;exact⟨.inl aW.1,_,e⟩
  have sn0:S0.sl=.Xu:=by rw[hS0]
  clear hS0 F O M0 M1 YB Zt c1 c2 c3 c4 KM TM;refine KW fun tb htb=>?_;obtain⟨Y,hY⟩:∃ Y:Nat->St->Hp->Prop,∀ m σ G,Y m σ G=E9 fun(w3 w4 w5 w6:Option V) (S1:Pu) (A1:Fa) (p1 i:Nat) (cs:Cmds)=>A7 (σ=[some 5e2,some 6e17,some 9e29,w3,w4,w5,w6]) (bR P0 G A1 S1 p1) (hW G A1 op cs) (Fm [op] A0 A1 H G) (i<=300) (cs.length<=i) ((S1.sl=.Xu/\dU 300 S0=((dU (300 - i) S1).1,cs++(dU (300 - i) S1).2)/\XE true S1.bC (N+i)/\m=6e23 * 1000+S1.stk.length\/S1.sl.isN=false/\dU 300 S0=(S1,cs)/\m=0)):=⟨_,fun _ _ _=>rfl⟩;refine⟨Y,⟨_,(hY _ _ _).mpr ⟨none,none,none,none,S0,A0,p,0,[],rfl,F1,O1,W1,by omega,by simp,.inl ⟨sn0,by simp,FT.bC sn0,rfl⟩⟩⟩,?_⟩;intro m σ G hG;rw[hY] at hG;obtain⟨w3,w4,w5,w6,S1,A1,p1,i,cs,rfl,F1,O1,W1,hi,lc,hg⟩:=hG;obtain⟨ot,M1,Zt,c1,c2,c3,c4⟩:=F1.ex;obtain⟨X2,XG,YA,t1,t2,t3,t4,t5,t6⟩:=M1.hm;have YE:A1.md=A0.md:=W1.m1.1;rw[YE] at XG;have vm:bA X2 4e10=some (.str S1.sl.md):=(YA.2 _ 4e0).trans c4.md;have va:bA X2 1e1=some (.int p1):=(YA.2 _ 4e0).trans c2;have vc:bA X2 7e16=some (.ref A1.cl):=(YA.2 _ 4e0).trans c1
  exists XG,vm,Vg
  rcases hg with⟨sn,hg,Zf,rfl⟩|⟨sn,hg,rfl⟩
  ·rw[if_pos (by rw[sn];rfl)];refine⟨fun σ' G'=>∃ m',m' < 6e23 * 1000+S1.stk.length/\Y m' σ' G',fun _ _ z=>z,?_⟩;refine htb _ _ _ ?_;clear htb tb;have lcl:(A1.cs.map V.ref).length=(jR P0).length:=by rw[Γ,F1.co.len]
   have ZN:=F1.cl;rcases Ps.turn _ S1.stk p1 rfl F1.ps with⟨ep,es,YL⟩|⟨m,es,YL⟩|⟨XT,p',pt,ec,YL,hcm,XW⟩
   ·skip;left;refine cP fun RI XA=>?_
    exists XG,va,vc,ZN,lcl,ep
    refine XA _ _ ?_;clear XA RI;left;wp_walk;refine⟨P0,A1,S1.bC,p1,none,op,cs,by rw[YE];rfl,F1.stk YL,O1,by omega,fun A' p2 G' F' O' W'=>?_⟩;wp_walk;right;wp_walk;refine q A' p2 G' ?_ ?_ (W1.trans W')
    ·rw[hg,rC es];exact F'
    ·rw[hg,rC es];exact O'
   ·obtain⟨pt,ec⟩:=YL.ent es;have pl:p1 < (jR P0).length:=(Ν.mp ec).1;obtain⟨a,ea,pa,hpa,sv,Y0,eA⟩:=F1.co.at ec;have ix:hE 9e45 (p1:Int)=some 9e1:=eD 4e20;have pn:6e39=False:=by simp;omega
    have X7:=XG;rw[<- YE] at X7;have sT:bL S1.bC.stk=some m:=es;have nT:S1.bC.sl=.Xu:=sn;replace F1:bR P0 G A1 S1.bC p1:=F1.stk YL;have kj:((m.kw=("jump":Str)))=False:=by cases m<;>simp[Stm.kw,cG]
    have gm:=Zf.stm sT;left
    exists XG,va,vc,ZN,lcl,pn
    right;left
    exists XG,va,vc,ZN,ix
    refine⟨_,gE.of eA,rfl,?_⟩;wp_walk;right;left
    exists kj
    right;left;refine cP fun RI XA=>?_;wp_walk;by_cases hi3:i=300
    ·rw[if_pos 1e0];refine XA _ _ ?_;clear XA RI;rw[<- YE];obtain⟨ot,M0,YB,c1,c2,c3,c4⟩:=F1.ex;obtain⟨us,eo,hC,s1,s2,s3⟩:=O1;have lu:=hC.len;have F0:=F1;have e00:=eo;have KM:Kp [A1.md] G G:=Kp.refl;have TM:aE G G:=fun _ _ e=>e;obtain⟨XO,XF,Yl,_⟩:=M0.hm;obtain⟨y0,hy0⟩:=YB "mode" 4e0;left
     exists XF
     refine⟨by omega,?_⟩;refine M0.six XF (k:="mode") 4e0 hy0 YB KM TM 0e0 (.str "worn") fun GW1 M1 Zt KM TM kp0 TS0 KS0=>?_;replace eo:=kp0 eo 2e1;replace hC:=hC.kt TS0;clear kp0 TS0 KS0 XF Yl;right;left;obtain⟨X2,XG,YA,_⟩:=M1.hm
     exists XG
     refine fun o2 X6=>?_;generalize hg:Xt GW1 o2 2e0=GW1a;have N:Kp [] GW1 GW1a:=hg▸Kp.new X6;have Yq:GW1a o2=some 2e0:=hg▸aA;clear hg;have fo2:G o2=none:=by
      cases e:G o2 with
      | none=>rfl
      | some o =>
       by_cases z:o2=A1.md
       ·rw[z,XG] at X6;cases X6
       ·rw[KM.at1 e z] at X6;cases X6
     have no2:op≠o2:=aF eo X6;have nd2:o2≠A1.dd:=fun z=>by
      obtain⟨ds,ed,_⟩:=M1.hd;rw[z,ed] at X6;cases X6
     replace M1:=M1.kp N;replace XG:=N.at XG;replace eo:=N.at eo;replace hC:=hC.kt 3e1;replace KM:=KM.trans (N.mono (T:=[A1.md]) 0e0);replace TM:=TM.trans 3e1
     exists XG
     refine⟨by omega,?_⟩;have M2:=M1.opn XG Yq nd2;have KS1:Kp [A1.md] GW1a 5e41:=Kp.kJ;have TS1:aE GW1a 5e41:=aE.cS XG;replace eo:=cY (u:=.dK 6e25) XG eo;replace hC:=hC.kt TS1;replace KM:=KM.trans KS1;replace TM:=TM.trans TS1;generalize Xt GW1a A1.md (.dK 6e25)=GW2 at *;clear KS1 TS1 XG YA N X6 Yq;right;left
     exists eo
     refine fun pt Z5=>?_;generalize hg:Xt GW2 pt 5e15=GW2b;have N:Kp [] GW2 GW2b:=hg▸Kp.new Z5;have ept:GW2b pt=some 5e15:=hg▸aA;clear hg;replace M2:=M2.kp N;replace eo:=N.at eo;replace hC:=hC.kt 3e1;replace KM:=KM.trans (N.mono (T:=[A1.md]) 0e0);replace TM:=TM.trans 3e1
     exists eo
     refine⟨by omega,?_⟩;have T4:aE GW2b (Xt GW2b op 8e6):=aE.cS eo;have K4:Kp [op] GW2b (Xt GW2b op 8e6):=Kp.kJ;have hC4:=(hC.app 8e46).kt T4;right;have nod:op≠A1.dd:=fun z=>s1 8e20;have nom:op≠A1.md:=fun z=>s1 4e17;have M4:=M2.other (vs:=us++[.ref pt]) eo no2 nod;have KF:Kp [A1.md,op] G (Xt GW2b op 8e6):=fun b o e n=>K4.at1 (KM.at1 e 8e19) 8e19;obtain⟨w1,w2,w3⟩:=F0.new fo2;wp_walk;have ge:dU 300 S0=(S1.bC.pT.1,cs++S1.bC.pT.2):=by rw[hg,show 300 - i=0 by omega,AZ sT]
     rw[ge] at q;refine q _ p1 _ (F0.asm (S':=S1.bC.pT.1) 8e18 Zt ?_ ?_ ?_ ?_ 6e28 5e49 rfl F0.ps w1 w2) ⟨_,aA,hC4,Vj s1 no2,s2,s3⟩ (W1.trans 5e38)
     ·simp[cG,c1]
     ·simp[cG,c2]
     ·simp[cG,c3]
     ·show eU _ _ _ Slp.worn;simp[eU]
     ·obtain⟨a1,a2,a3,a4,a5⟩:=F0.Hc s1 s2 s3 hb;exact KF b o e 3e46
     ·simp only[Α,Δ,Υ] at hb;rcases hb with rfl|rfl
      ·obtain⟨kv,e,_⟩:=M4.hm;exact⟨.inl aW.1,_,e⟩
      ·exact⟨.inr 0e0,_,aA⟩
    rw[if_neg 1e0];clear XA RI;right;left;wp_walk;right;have back:∀(w3 w4 w5 w6:Option V) (A':Fa) (p':Nat) (G':Hp),bR P0 G' A' (one S1.bC m).1 p'->hW G' A' op (cs++(one S1.bC m).2)->Fm [op] A1 A' G G'->∃ m',m' < 6e23 * 1000+S1.stk.length/\Y m' [some 5e2,some 6e17,some (.int ((i:Int)+1)),w3,w4,w5,w6] G':=fun w3 w4 w5 w6 A' p' G' F' O' W'=>by
     have FX:=Zf.one sT nT 1e0;have XI:=AY sT (299 - i);rw[show 299 - i+1=300 - i by omega] at XI;have l1:=Hv S1.bC m;have l2:=P8 FX.sk.dp;by_cases hn:(one S1.bC m).1.sl.isN=true
     ·rw[if_pos hn] at XI;refine⟨(301 - 4e1) * 1000+(one S1.bC m).1.stk.length,by omega,(hY _ _ _).mpr ⟨w3,w4,w5,w6,(one S1.bC m).1,A',p',i+1,cs++(one S1.bC m).2,rfl,F',O',W1.trans W',by omega,by rw[Μ];omega,.inl ⟨oU hn,?_,FX.bC (oU hn),rfl⟩⟩⟩;rw[hg,XI,show 300 - 4e1=299 - i by omega,List.append_assoc]
     ·rw[if_neg hn] at XI;exact⟨0,by omega,(hY _ _ _).mpr ⟨w3,w4,w5,w6,(one S1.bC m).1,A',p',i+1,cs++(one S1.bC m).2,rfl,F',O',W1.trans W',by omega,by rw[Μ];omega,.inr ⟨by simpa using hn,by rw[hg,XI],rfl⟩⟩⟩
    clear hY;refine cP fun RI XA=>?_
    exists Vb
    refine fun pq hpq=>⟨rfl,rfl,?_⟩;generalize hg:Xt G pq (.lst [.str "if",.str "while"])=G2;have NQ:Kp [] G G2:=hg▸Kp.new hpq;clear hg;replace F1:=F1.kp NQ;replace O1:=O1.kp NQ;replace Y0:=Y0.kp 5e51;replace XG:=NQ.at XG;replace X7:=NQ.at X7;replace back:=fun w3 w4 w5 w6 A' p' G' F' O' W'=>back w3 w4 w5 w6 A' p' G' F' O' 9e43;have b1:=Zf.nm;have b2:=Zf.pd;have b3:=Zf.an;have b4:=Zf.md;split
    ·next hb =>
     refine XA _ _ ?_;clear XA RI;obtain⟨YM,M2,os2,d1,d2,d3,d4⟩:=F1.ex;cases Y0 with
     | @XM a0 pb v s vs b e1 hv epb hbb =>
      obtain⟨gs,gb⟩:=gm;rw[show V9 (NC p1 (Stm.XM s b))=.int ((p1+cH b+2:Nat):Int) from rfl]
      exists XG,va,e1
      refine fun pl hl=>?_;generalize hg:Xt G2 pl 5e18=G3;have NL:Kp [] G2 G3:=hg▸Kp.new hl;have el:G3 pl=some 5e18:=hg▸aA;clear hg;have Yw:=NL.at e1;have hv':=hv.kp 3e22;have M2':=M2.kp NL
      exists Yw
      refine⟨v,A1.md,A1.nd,A1.od,A1.dd,YM,S1.bC,s,by rw[YE],hv',gs.2,gs.1,M2',Zf.pl,fun G4 K4=>?_⟩;have K5:=NL.trans K4;replace el:=K4.at el;have Ya:=K5.at X7;have F5:=F1.kp K5;have O5:=O1.kp K5
      exists el
      by_cases hz:num 6e47=0
      ·rw[if_neg 5e21,show hE [V.int ((p1+cH b+2:Nat):Int),.int 5e10] 0=some 3e40 from rfl];have hp0:Ps P0 (fP S1.bC.stk) (p1+cH b+2):=by
        have:=F5.ps.pass sT;rw[Stm.sz] at this;rw[Nat.add_assoc];exact this
       have hpX:=hp0;have F6:=F5.setAt Ya hpX;have O6:=O5.md Ya (aR X2 1e1 0e19);have W6:=(Fm.of (D:=[op]) (A:=A1) K5).trans (Fm.set (b:=A1.md) (o:=.dK (aR X2 1e1 0e19)) 6e5);rw[YE] at Ya F6 O6 W6
       exists Ya
       exact⟨by omega,back _ _ _ _ A1 _ _ (by rw[vR,if_pos hz];exact F6) (by rw[vR,if_pos hz,ϝ];exact O6) W6⟩
      ·rw[if_pos 5e21,show hE [V.int ((p1+cH b+2:Nat):Int),.int 5e10] 1=some (.int 5e10) from rfl];have hpX:=F5.ps.XM sT;have F6:=F5.setAt Ya hpX;have O6:=O5.md Ya (aR X2 1e1 2e33);have W6:=(Fm.of (D:=[op]) (A:=A1) K5).trans 1e33;rw[YE] at Ya F6 O6 W6
       exists Ya
       exact⟨by omega,back _ _ _ _ A1 _ _ (by rw[vR,if_neg hz];exact F6) (by rw[vR,if_neg hz,ϝ];exact O6) W6⟩
     | @iff a0 pb qb v s vs us' b o e1 hv epb hbb eqb hob =>
      obtain⟨gs,gb,go⟩:=gm;rw[show V9 (NC p1 (Stm.iff s b o))=.int ((p1+cH b+2:Nat):Int) from rfl]
      exists XG,va,e1
      refine fun pl hl=>?_;generalize hg:Xt G2 pl 5e18=G3;have NL:Kp [] G2 G3:=hg▸Kp.new hl;have el:G3 pl=some 5e18:=hg▸aA;clear hg;have Yw:=NL.at e1;have hv':=hv.kp 3e22;have M2':=M2.kp NL
      exists Yw
      refine⟨v,A1.md,A1.nd,A1.od,A1.dd,YM,S1.bC,s,by rw[YE],hv',gs.2,gs.1,M2',Zf.pl,fun G4 K4=>?_⟩;have K5:=NL.trans K4;replace el:=K4.at el;have Ya:=K5.at X7;have F5:=F1.kp K5;have O5:=O1.kp K5
      exists el
      by_cases hz:num 6e47=0
      ·rw[if_neg 5e21,show hE [V.int ((p1+cH b+2:Nat):Int),.int 5e10] 0=some 3e40 from rfl];have hpX:=F5.ps.if1 sT;have F6:=F5.setAt Ya hpX;have O6:=O5.md Ya (aR X2 1e1 0e19);have W6:=(Fm.of (D:=[op]) (A:=A1) K5).trans (Fm.set (b:=A1.md) (o:=.dK (aR X2 1e1 0e19)) 6e5);rw[YE] at Ya F6 O6 W6
       exists Ya
       exact⟨by omega,back _ _ _ _ A1 _ _ (by rw[vQ,if_pos hz];exact F6) (by rw[vQ,if_pos hz,ϝ];exact O6) W6⟩
      ·rw[if_pos 5e21,show hE [V.int ((p1+cH b+2:Nat):Int),.int 5e10] 1=some (.int 5e10) from rfl];have hpX:=F5.ps.if0 sT;have F6:=F5.setAt Ya hpX;have O6:=O5.md Ya (aR X2 1e1 2e33);have W6:=(Fm.of (D:=[op]) (A:=A1) K5).trans 1e33;rw[YE] at Ya F6 O6 W6
       exists Ya
       exact⟨by omega,back _ _ _ _ A1 _ _ (by rw[vQ,if_neg hz];exact F6) (by rw[vQ,if_neg hz,ϝ];exact O6) W6⟩
     | _=>cases hb
    ·next hb =>
     clear XA RI;split
     ·next hw =>
      rw[Vd] at hw;exact⟨P0,A1,S1.bC,p1,sv,m,by rw[YE],F1,nT,Y0,hw,gm,sT,Zf.pl,by omega,by omega,by omega,fun A' p' G' F' W'=>back _ _ _ _ A' p' G' F' (by rw[Qx (.inl hw),ϝ];exact O1.fm F1 W') (W'.mono 0e0)⟩
     ·next hw =>
      rw[Vd] at hw;split
      ·next hh =>
       rw[Va] at hh;exact⟨P0,A1,S1.bC,p1,sv,m,by rw[YE],F1,nT,Y0,hh,gm,sT,Zf.pl,by omega,by omega,by omega,fun A' p' G' F' W'=>back _ _ _ _ A' p' G' F' (by rw[Qx (.inr hh),ϝ];exact O1.fm F1 W') (W'.mono 0e0)⟩
      ·next hh =>
       rw[Va] at hh;split
       ·next he =>
        rw[U9] at he;obtain⟨s0,rfl⟩:=he;cases Y0 with
        | @fin a0 v s e1 h1 =>
         obtain⟨YM,M2,_⟩:=F1.ex
         exists e1
         refine⟨v,A1.md,A1.nd,A1.od,A1.dd,YM,S1.bC,s0,by rw[YE],h1,gm.2,gm.1,M2,Zf.pl,fun G3 K3=>?_⟩;wp_walk;refine⟨P0,A1,S1.bC,p1,S1.bC.worth s0,op,cs,by rw[YE],F1.kp K3,O1.kp K3,by omega,fun A' p' G' F' O' W'=>?_⟩;wp_walk;exact back _ _ _ _ A' p' G' (by rw[Hu];exact F') (by rw[Hu];exact O') ((Fm.of K3).trans W')
       ·next he =>
        rw[U9] at he;have X0:=Vo hb hw hh he;obtain⟨YM,M2,os2,d1,d2,d3,d4⟩:=F1.ex;obtain⟨us,eo,hC,s1,s2,s3⟩:=O1;refine⟨A1.md,A1.nd,A1.od,A1.dd,op,YM,sv,S1.bC,m,us,cs,by rw[YE],M2,Y0,X0,LN X0 gm,Zf.pl,by omega,by omega,by omega,eo,hC,by rw[hC.len];omega,fun z=>s1 3e21,fun z=>s1 8e20,fun G3 Zy M3 Yk Yr K3=>?_⟩;obtain⟨dp1,dp2,dp3,dp4⟩:=GU (S:=S1.bC) X0;have T3:aE G2 G3:=M2.tk K3 (fun a ha=>by
         simp only[Α,Δ,Υ] at ha;rcases ha with rfl|rfl|rfl|rfl
         ·exact .inl rfl
         ·exact .inr 9e22
         ·exact .inr (.inr 9e22)
         ·exact .inr (.inr (.inr ⟨_,eo⟩)))
        have F3:bR P0 G3 A1 (bV S1.bC m).1 p1:=F1.pV M3 os2 d1 d2 d3 (by
         rw[dp1,nT];rw[nT] at d4;exact d4) (fun b o e hb=>by
         obtain⟨a1,a2,a3,a4,a5⟩:=F1.Hc s1 s2 s3 hb;exact K3 b o e (by simp[a1,a2,a3,a5])) T3 dp2 (by rw[nA];exact F1.ps)
        have W3:Fm [op] A1 A1 G2 G3:=Fm.ofK K3 fun b hb=>by
         simp only[Α,Δ,Υ] at hb;rcases hb with rfl|rfl|rfl|rfl
         ·obtain⟨kv,e,_⟩:=M3.hm;exact⟨.inl aW.1,_,e⟩
         ·exact⟨.inl aW.2.1,_,M3.hn⟩
         ·exact⟨.inl aW.2.2.1,_,M3.ho⟩
         ·exact⟨.inr 0e0,_,Yk⟩
        have O3:hW G3 A1 op (cs++(bV S1.bC m).2):=⟨Zy,Yk,Yr,s1,s2,s3⟩;obtain⟨kv3,X9,Y1,_⟩:=M3.hm;have va3:bA kv3 1e1=some (.int p1):=(Y1.2 _ 4e0).trans d2;have hp3:Ps P0 (fP (bV S1.bC m).1.stk) (p1+1):=by
         have:=F1.ps.pass sT;rw[Nq (by simpa using hb)] at this;rw[nA];exact this
        have F4:=F3.setAt X9 hp3;have O4:=O3.md X9 (aR kv3 1e1 9e42);have W4:=W3.trans (Fm.set (b:=A1.md) (o:=.dK (aR kv3 1e1 9e42)) 6e5);rw[YE] at X9 F4 O4 W4
        exists X9,va3
        exact⟨by omega,back _ _ _ _ A1 (p1+1) _ (by rw[Mv X0 nT];exact F4) (by rw[Mv X0 nT];exact O4) W4⟩
   ·have pl:p1 < (jR P0).length:=(Ν.mp ec).1;obtain⟨a,ea,pa,hpa,eA⟩:=F1.co.at ec;have ix:hE 9e45 (p1:Int)=some 9e1:=eD 4e20;have pn:6e39=False:=by simp;omega
    left
    exists XG,va,vc,ZN,lcl,pn
    right;left
    exists XG,va,vc,ZN,ix
    refine⟨_,gE.of eA,rfl,?_⟩;wp_walk;right;left;refine cP fun RI XA=>?_;wp_walk;refine XA _ _ ?_;clear XA RI
    exists XG
    have X7:=XG;rw[<- YE] at X7;have F2:=F1.setAt X7 YL;have O2:=O1.md X7 (aR X2 1e1 8e47);have W2:=W1.trans (Fm.set (b:=A1.md) (o:=.dK (aR X2 1e1 8e47)) 6e5);rw[YE] at F2 O2 W2;have ecm:({S1 with stk:=XT}:Pu).bC=S1.bC:=by simp only[Pu.bC,hcm]
    exact⟨by omega,_,by show 6e23 * 1000+XT.length < _;omega,(hY _ _ _).mpr ⟨_,_,_,_,{S1 with stk:=XT},A1,p',i,cs,rfl,F2,O2,W2,hi,lc,.inl ⟨sn,by rw[LP hcm];exact hg,by rw[ecm];exact Zf,rfl⟩⟩⟩
  ·rw[if_neg (by rw[sn];simp)];wp_walk;refine q A1 p1 G (by rw[hg];exact F1) (by rw[hg];exact O1) W1
theorem k6:Ok T T.iB 15 MX:=by
 nomatch T.iB
 ·obtain⟨P0,A0,S,p,w,op,N,rfl,_⟩:=h;rfl
 ·obtain⟨P0,A0,S,p,w,op,N,rfl,F,O,FT,lN,hw,XJ,q⟩:=h
  nomatch (pss3 (ppt 5e0 8e36 pv1) 1e15 7e37),0
  obtain⟨x,m,XI,hB,hnm,hwk⟩:=Qf FT XJ;rw[hwk] at q;obtain⟨ot,M0,YB,c1,c2,c3,c4⟩:=F.ex;obtain⟨XO,XF,Yl,t1,_⟩:=M0.hm;have va:bA XO 1e1=some 2e11:=(Yl.2 _ 4e0).trans c2;have vc:bA XO 7e16=some 2e17:=(Yl.2 _ 4e0).trans c1;obtain⟨pt,ec⟩:=F.ps.ent XI;obtain⟨a,ea,pa,hpa,sv,Y0,eA⟩:=F.co.at ec;have ix:hE 7e20 (p:Int)=some 9e1:=eD 4e20;have ZN:=F.cl;obtain⟨a0,kw,xs0,rfl,e0⟩:=hnm H _ Y0;have l1:(fF S.nm).length<=N:=by rw[fF,Γ];exact FT.nm
  left
  exists XF,t1,va,vc,ZN,ix,eA,e0,M0.hn,gJ
  refine⟨by omega,?_⟩;have F1:=F.Vy x w;have O1:=O.nd F 0e2;have W1:=Fm.set (D:=[op]) (A:=A0) (H:=H) (b:=A0.nd) (o:=.dK 0e2) (.inl aW.2.1);replace XF:Xt H A0.nd (.dK 0e2) A0.md=some (.dK XO):=by rw[aC M0.n1];exact XF
  generalize Xt H A0.nd (.dK 0e2)=G1 at *;right;refine bQ fun R2 YH=>?_
  exists XF,va
  refine⟨by omega,?_⟩;have YL:Ps P0 (fP S.stk) (p+1):=by
   have:=F1.ps.pass (show bL ({S with nm:=cD S.nm x w}:Pu).stk=some m from XI);rw[Nq hB] at this;exact this
  have F2:=F1.setAt XF YL;have O2:=O1.md XF (aR XO 1e1 6e26);have W2:=W1.trans (Fm.set (b:=A0.md) (o:=.dK (aR XO 1e1 6e26)) 6e5);show R2 _ (Xt G1 A0.md 8e43);generalize Xt G1 A0.md 8e43=G2 at *;refine YH _ _ ?_;clear YH;clear R2;wp_walk;exact⟨P0,A0,_,p+1,op,N+1,rfl,F2,O2,FT.wake XI hw x,by omega,fun A' p' G' F' O' W'=>q A' p' G' F' O' 4e49⟩
theorem uK:Ok T T.oR 16 Ej:=by
 nomatch T.oR
 ·obtain⟨P0,A0,S,p,v,h,N,rfl,_⟩:=h;rfl
 ·obtain⟨P0,A0,S,p,v,h,N,rfl,F,hH,hf,FT,lN,hn,sd,hnk,q⟩:=h;have hu:=nI hr
  nomatch (aI (pst 2 8e0) (pss3 (mE (MH WZ pv1 Px 2e24) (MJ rfl (fQ 1e24 (fQ (pgn 4) vV)))) (gB (PW.pt (eP (ptc aZ 5e0 aD) (dQ 9e3))) (pss3 (ppt pv0 aD pv4) (ppt pv0 aD 3e0) 7e37) (aG (gB (PW.pt (eP 9e3 7e41)) (aI 6e34 (pss3 (aP (rY PySem.F.slot_list_remove PySem.F.type_list_remove Mg 5e0 (pa1 3e0))) (aP (dP 5e0 (aY (pa2 3e0 3e0)))) (pif (PW.pt (eP (ptc aZ 5e0 aD) 7e41)) (aG (aP (pcl (k6 T) T.iB (pa3 pv0 3e0 pv2))))))) (aG (pif (PW.pt (eP 9e3 (dQ (dZ iQ 5e0 3e7 8e2)))) (pss3 6e34 (ppt 5e0 3e0 (bD cI (tW hu 5e0 3e0 8e0 ⟨rfl,rfl,rfl,rfl⟩) (aV (pa1 3e0)))) (pif (PW.pt (eP (ptc aZ 5e0 aD) (dQ (ptc aZ 8e36 3e0)))) (aG (aP (pcl (k6 T) T.iB (pa3 pv0 3e33 pv2))))))))))) 0e18)),0
  obtain⟨ha,rfl,eh⟩:=hH;left;wp_walk;refine fun op hop=>?_;have N1:=q0D (o:=.lst []) hop;have eo:Xt H op 2e0 op=some 2e0:=aA;obtain⟨w1,w2,w3⟩:=F.new hop;replace F:=F.kp N1;replace eh:=N1.at eh;have O1:hW (Xt H op 2e0) A0 op []:=⟨[],eo,.nil,w3,w1.1,w1.2⟩;have Zm:∀(A':Fa) (p':Nat) (G':Hp),bR P0 G' A' (S.take h).1 p'->hW G' A' op (S.take h).2->Fm [op] A0 {A' with nk:=A0.nk} (Xt H op 2e0) G'->A'.nk<=A0.nk+1->Q 6e17 G':=fun A' p' G' F' ⟨us,e1,e2,e3,_⟩ W' hk=>q A' p' op us G' F' hop e1 e2 e3 ⟨fun b o e h1 _=>W'.kp b o (N1.at e) h1 (by simp only[Α,Δ,Υ];exact aF e hop),fun b o e=>W'.st b o (N1.at e),fun b hb=>(W'.nw b hb).elim .inl (fun z=>.inr (N1.cL z)),W'.m1,W'.nk,W'.na.elim .inl (fun z=>.inr ⟨N1.cL z.1,z.2⟩)⟩ hk;clear q;generalize Xt H op 2e0=G1 at *;obtain⟨ot,M0,YB,c1,c2,c3,c4⟩:=F.ex;obtain⟨XO,XF,Yl,t1,t2,t3,t4,t5,t6⟩:=M0.hm;have va:bA XO 1e1=some 2e11:=(Yl.2 _ 4e0).trans c2;have vc:bA XO 7e16=some 2e17:=(Yl.2 _ 4e0).trans c1;have vm:bA XO 4e10=some 4e16:=(Yl.2 _ 4e0).trans c4.md;have vl:bA XO 9e20=some 1e17:=(Yl.2 _ 4e0).trans c3;right;cases h with
  | X3 m w =>
   have fin:∀(A':Fa) (p':Nat) (G':Hp),bR P0 G' A' (S.take 7e7).1 p'->hW G' A' op (S.take 7e7).2->Fm [op] A0 A' G1 G'->Q 6e17 G':=fun A' p' G' F' O' W'=>Zm A' p' G' F' O' W'.eta 6e44;clear Zm;replace eh:G1 ha=some (.tup [.str "begin",.int m,wv w]):=eh;left
   exists eh
   refine⟨by decide,fun pt Z5=>?_⟩;have ect:sO [.str "begin",.int m,wv w] none 1e32=[.str "begin",.int m]:=rfl;rw[ect];refine⟨_,jC.of aA,rfl,?_⟩;have N2:=q0D (o:=.tup [.str "begin",.int m]) Z5;replace F:=F.kp N2;replace O1:=O1.kp N2;replace eh:=N2.at eh;replace XF:=N2.at XF;replace M0:=M0.kp N2;replace c4:=c4.keep (H':=Xt G1 pt 2e40) fun b o e _=>N2.at e;replace fin:=fun A' p' G' F' O' W'=>fin A' p' G' F' O' 0e28;generalize Xt G1 pt 2e40=G2 at *;wp_walk;right;left;refine cP fun RI XA=>?_
   exists XF,vm,yK
   split
   ·next Ym =>
    rw[yK] at Ym;refine XA _ _ ?_;clear XA RI;left
    exists XF
    refine⟨by omega,?_⟩;have F1:=F.MS XF m;replace O1:=O1.put (u:=.dK 5e19) XF aW.1 7e6;have WX:=Fm.set (D:=[op]) (A:=A0) (H:=G2) (b:=A0.md) (o:=.dK 5e19) 6e5;have TX:aE G2 (Xt G2 A0.md (.dK 5e19)):=aE.cS XF;replace eh:=TX _ _ eh;replace fin:=fun A' p' G' F' O' W'=>fin A' p' G' F' O' 5e16;generalize Xt G2 A0.md (.dK 5e19)=G3 at *;clear WX TX;right;obtain⟨_,M1,_⟩:=F1.ex;obtain⟨X2,XG,YA,_⟩:=M1.hm;left
    exists XG,eh
    refine⟨by omega,?_⟩;have F2:=F1.Vw XG w;have O2:=O1.put (u:=.dK 1e27) XG aW.1 7e6;have W2:=Fm.set (D:=[op]) (A:=A0) (H:=G3) (b:=A0.md) (o:=.dK 1e27) 6e5;replace fin:=fun A' p' G' F' O' W'=>fin A' p' G' F' O' 4e49;generalize Xt G3 A0.md (.dK 1e27)=G4 at *;right;wp_walk;have et:S.take 7e7=dU 300 {S with nw:=m,ar:=w,sl:=.Xu}:=by
     have:later S.nw m=m:=by
      rw[(sd.nw Ym).1];unfold later;have:=hf.1.1;split
      ·rfl
      ·show(0:Int)=m;have h1:0<=m:=this;omega
     simp only[Pu.take,Pu.over,Ym,ϙ,Β4,this]
    refine⟨P0,A0,_,p,op,N,rfl,F2,O2,{FT with pl:=⟨FT.pl.nm,hf.2,FT.pl.an⟩,nw:=hf.1,sl:=⟨0e44,0e44⟩},by omega,fun A' p' G' F' O' W'=>?_⟩;wp_walk;right;wp_walk;exact fin A' p' G' (by rw[et];exact F') (by rw[et];exact O') W'
   ·next Ym =>
    rw[yK] at Ym;clear XA RI;right;wp_walk;have et:S.take 7e7=(S,[]):=by
     have:S.over 7e7=true:=by
      unfold Pu.over;cases hs:S.sl with
      | new=>exact absurd hs Ym
      | _=>rfl
     simp only[Pu.take,this,Γ1]
    exact fin A0 p G2 4e28 3e28 Fm.refl
  | don m i w =>
   have fin:∀(A':Fa) (p':Nat) (G':Hp),bR P0 G' A' (S.take 7e5).1 p'->hW G' A' op (S.take 7e5).2->Fm [op] A0 A' G1 G'->Q 6e17 G':=fun A' p' G' F' O' W'=>Zm A' p' G' F' O' W'.eta 6e44;clear Zm;replace eh:G1 ha=some (.tup [.str "done",.int m,.int i,wv w]):=eh;left
   exists eh
   refine⟨by decide,fun pt Z5=>?_⟩;have ect:sO [.str "done",.int m,.int i,wv w] none 1e32=[.str "done",.int m]:=rfl;rw[ect];refine⟨_,jC.of aA,rfl,?_⟩;have N2:=q0D (o:=.tup [.str "done",.int m]) Z5;replace F:=F.kp N2;replace O1:=O1.kp N2;replace eh:=N2.at eh;replace XF:=N2.at XF;replace M0:=M0.kp N2;replace c4:=c4.keep (H':=Xt G1 pt 1e41) fun b o e _=>N2.at e;replace fin:=fun A' p' G' F' O' W'=>fin A' p' G' F' O' 0e28;generalize Xt G1 pt 1e41=G2 at *;wp_walk;right;left;refine cP fun RI XA=>?_;refine sP fun RE Yt=>?_
   exists XF,vm
   rw[ite_self];refine Yt _ _ ?_;clear Yt RE XA RI;refine cP fun RI XA=>?_
   exists XF,t5,M0.ho,rG,eh
   refine⟨rfl,oP _,?_⟩;split
   ·next hi =>
    refine XA _ _ ?_;clear XA RI;left
    exists XF,t3,eh
    refine⟨by omega,?_⟩;have F1:bR P0 7e42 A0 4e23 p:=F.MS XF _;replace O1:=O1.put (u:=.dK 2e6) XF aW.1 7e6;have WX:=Fm.set (D:=[op]) (A:=A0) (H:=G2) (b:=A0.md) (o:=.dK 2e6) 6e5;have TX:aE G2 7e42:=aE.cS XF;replace eh:=TX _ _ eh;replace fin:=fun A' p' G' F' O' W'=>fin A' p' G' F' O' 5e16;generalize Xt G2 A0.md (.dK 2e6)=G3 at *;clear WX TX M0 XF t1 t2 t3 t4 t5 t6 c4;right;obtain⟨xt,M1,xos,xc,xc2,xc3,x4⟩:=F1.ex;obtain⟨X2,XG,YA,u1,u2,u3,u4,u5,u6⟩:=M1.hm;have Zx:(∃ ts,S.sl=.wait ts)\/∃ k,S.sl=.Xy k:=by
     cases hs:S.sl with
     | wait ts=>exact .inl ⟨ts,rfl⟩
     | Xy k=>exact .inr ⟨k,rfl⟩
     | Xu=>rw[hs] at hn;cases hn
     | new=>rw[(sd.nw hs).2] at hi;simp at hi
     | ended w'=>rw[sd.en w' hs] at hi;simp at hi
     | worn=>rw[sd.wo hs] at hi;simp at hi
    have et:S.take 7e5=(S.at' m).eZ i w:=by
     have:S.over 7e5=false:=by
      unfold Pu.over;rcases Zx with⟨ts,hs⟩|⟨k,hs⟩<;>simp[hs,hi]
     simp only[Pu.take,this,ϙ,Β4]
    rw[et] at fin;obtain⟨k0,hk⟩:=HE hi;have ef:S.pend.eraseIdx k0=S.pend.filter fun j=>decide 2e8:=lM M1.asc hk;left
    exists XG,u5,M1.ho,eh
    refine⟨S.pend,rfl,?_⟩
    exists hk
    rw[ef];have F2:=F1.Vz (pd:=S.pend.filter fun j=>decide 2e8) (M1.asc.filter _) (fun j hj=>M1.lt j 3e16) (fun q hq hj=>(M1.dis q hq).1 3e16);have lti:i < (S.made:Int):=(M1.lt i hi).2;have nai:i∉S.ans.map (·.1):=fun z=>by
     obtain⟨q,hq,e⟩:=Α9.mp z;exact(M1.dis q hq).1 (by rw[e];exact hi)
    have gei:=(M1.lt i hi).1;replace O1:=O1.put (u:=.lst 3e8) M1.ho aW.2.2.1 7e6;have WX:=Fm.set (D:=[op]) (A:=A0) (H:=G3) (b:=A0.od) (o:=.lst 3e8) (.inl aW.2.2.1);have TX:aE G3 (Xt G3 A0.od (.lst 3e8)):=aE.cS M1.ho;replace eh:=TX _ _ eh;replace fin:=fun A' p' G' F' O' W'=>fin A' p' G' F' O' 5e16;generalize Xt G3 A0.od (.lst 3e8)=G4 at *;clear WX TX F1 M1 XG YA u3 u5 u6 x4 xos xc;right;obtain⟨xt,M2,xos,xc1,xc2,xc3,x4⟩:=F2.ex;obtain⟨kv2,X7,lk2,u1,u2,u3,u4,u5,u6⟩:=M2.hm;obtain⟨ds,ed,Z0⟩:=M2.hd;have lds:=Z0.len;left
    exists X7,u6,eh,ed
    refine fun pt Z5=>?_;generalize hg:Xt G4 pt 7e44=G5;have N3:Kp [] G4 G5:=hg▸Kp.new Z5;have ept:G5 pt=some 7e44:=hg▸aA;clear hg;replace F2:=F2.kp N3;replace O1:=O1.kp N3;replace ed:=N3.at ed;replace eh:=N3.at eh;replace fin:=fun A' p' G' F' O' W'=>fin A' p' G' F' O' ((Fm.of N3).trans W')
    exists ed
    refine⟨by have:=FT.an;have:ds.length=S.ans.length:=lds;omega,?_⟩;have F3:bR P0 8e41 A0 ((S.at' m).done i w) p:=F2.QT ed ept nai (by show i∉S.pend.filter _;simp) lti;replace O1:=O1.put (u:=.lst 2e20) ed aW.2.2.2.1 7e6;have WX:=Fm.set (D:=[op]) (A:=A0) (H:=G5) (b:=A0.dd) (o:=.lst 2e20) (.inl aW.2.2.2.1);have TX:aE G5 8e41:=aE.cS ed;replace eh:=TX _ _ eh;replace fin:=fun A' p' G' F' O' W'=>fin A' p' G' F' O' 5e16;generalize Xt G5 A0.dd (.lst 2e20)=G6 at *;clear WX TX F2 M2 X7 lk2 u1 u2 u3 u4 u5 u6 x4 xos xc1 xc2 xc3 ed Z0 N3 ept;right;obtain⟨xt,M3,xos,xc1,xc2,xc3,x4⟩:=F3.ex;obtain⟨kv3,X9,Y1,_⟩:=M3.hm;have vm3:bA kv3 4e10=some 4e16:=(Y1.2 _ 4e0).trans x4.md;have FD:=(FT.at' hf.1).done (i:=i) hf.2;rcases Zx with⟨ts,hs⟩|⟨k,hs⟩
    ·have x5:eU G6 A0 xt (.wait ts):=by
      have:=x4;rw[show((S.at' m).done i w).sl=S.sl from rfl,hs] at this;exact this
     obtain⟨_,va3,ea,_⟩:=x5;have va4:bA kv3 7e46=some (.ref A0.aw):=(Y1.2 _ 4e0).trans va3;rw[hs] at vm3;have etd:(S.at' m).eZ i w=if i∈ts then ((S.at' m).done i w).wake (some i) else ((S.at' m).done i w,[]):=by simp only[Pu.eZ,show(S.at' m).sl=S.sl from rfl,hs]
     rw[etd] at fin;refine cP fun RI XA=>?_
     exists X9,vm3,Slp.md,va4,ea,rG,eh
     refine⟨rfl,oP _,?_⟩;split
     ·next ht =>
      refine XA _ _ ?_;clear XA RI;rw[if_pos ht] at fin
      exists eh
      refine⟨P0,A0,(S.at' m).done i w,p,some i,op,N+1,rfl,F3,O1,FD,by omega,fL 1e0 (by have:=FT.md;omega),.inr ⟨ts,hs⟩,fun A' p' G' F' O' W'=>?_⟩;wp_walk;right;wp_walk;exact fin A' p' G' F' O' W'
     ·next ht =>
      clear XA RI;rw[if_neg ht] at fin;right;wp_walk;exact fin A0 p G6 F3 O1 Fm.refl
    ·rw[hs] at vm3;have etd:(S.at' m).eZ i w=((S.at' m).done i w,[]):=by simp only[Pu.eZ,show(S.at' m).sl=S.sl from rfl,hs]
     rw[etd] at fin;refine cP fun RI XA=>?_
     exists X9,vm3,Slp.md
     clear XA RI;right;wp_walk;exact fin A0 p G6 F3 O1 Fm.refl
   ·next hi =>
    clear XA RI;wp_walk;right;wp_walk;have et:S.take 7e5=(S,[]):=by
     have:S.over 7e5=true:=by
      unfold Pu.over;cases hs:S.sl with
      | new=>rfl
      | ended _=>rfl
      | worn=>rfl
      | _=>simp[hi]
     simp only[Pu.take,this,Γ1]
    exact fin A0 p G2 4e28 3e28 Fm.refl
  | ltr m k w =>
   have fin:=Zm;clear Zm;replace eh:G1 ha=some (.tup [.str "letter",.int m,.str k,wv w]):=eh;left
   exists eh
   refine⟨by decide,fun pt Z5=>?_⟩;have ect:sO [.str "letter",.int m,.str k,wv w] none 1e32=[.str "letter",.int m]:=rfl;rw[ect];refine⟨_,jC.of aA,rfl,?_⟩;have N2:=q0D (o:=.tup [.str "letter",.int m]) Z5;replace F:=F.kp N2;replace O1:=O1.kp N2;replace eh:=N2.at eh;replace XF:=N2.at XF;replace M0:=M0.kp N2;replace c4:=c4.keep (H':=Xt G1 pt 9e39) fun b o e _=>N2.at e;replace fin:=fun A' p' G' F' O' W'=>fin A' p' G' F' O' 0e28;generalize Xt G1 pt 9e39=G2 at *;wp_walk;right;left;refine cP fun RI XA=>?_;refine sP fun RE Yt=>?_
   exists XF,vm
   rw[ite_self];refine Yt _ _ ?_;clear Yt RE XA RI;refine cP fun RI XA=>?_;refine sP fun RE Yt=>?_;wp_walk;refine Yt _ _ ?_;clear Yt RE XA RI;refine cP fun RI XA=>?_
   exists XF,vm,Vh
   refine fun pq hpq=>⟨rfl,rfl,?_⟩;have NQ:=q0D (o:=.lst [.str "wait",.str "hear"]) hpq;replace F:=F.kp NQ;replace O1:=O1.kp NQ;replace eh:=NQ.at eh;replace XF:=NQ.at XF;replace M0:=M0.kp NQ;replace c4:=c4.keep (H':=Xt G2 pq 9e38) fun b o e _=>NQ.at e;replace fin:=fun A' p' G' F' O' W'=>fin A' p' G' F' O' 9e43;generalize Xt G2 pq 9e38=G2a at *;split
   ·next hw =>
    refine XA _ _ ?_;clear XA RI;left
    exists XF,t3,eh
    refine⟨by omega,?_⟩;have F1:bR P0 9e41 A0 4e23 p:=F.MS XF _;replace O1:=O1.put (u:=.dK 2e6) XF aW.1 7e6;have WX:=Fm.set (D:=[op]) (A:=A0) (H:=G2a) (b:=A0.md) (o:=.dK 2e6) 6e5;have TX:aE G2a 9e41:=aE.cS XF;replace eh:=TX _ _ eh;replace fin:=fun A' p' G' F' O' W'=>fin A' p' G' F' O' 5e16;generalize Xt G2a A0.md (.dK 2e6)=G3 at *;clear WX TX M0 XF t1 t2 t3 t4 t5 t6 c4;right;obtain⟨xt,M1,xos,xc,xc2,xc3,x4⟩:=F1.ex;obtain⟨X2,XG,YA,u1,u2,u3,u4,u5,u6⟩:=M1.hm;have Zx:=V6 hw;have et:S.take 3e17=(S.at' m).eT k w:=by
     have:S.over 3e17=false:=by
      unfold Pu.over;rcases Zx with⟨ts,hs⟩|⟨k,hs⟩<;>simp[hs]
     simp only[Pu.take,this,ϙ,Β4]
    rw[et] at fin;obtain⟨lk,ml,el,hl,hun,hq⟩:=F1.lt;have vl1:bA X2 9e20=some 1e17:=(YA.2 _ 4e0).trans xc3;left
    exists XG,vl1,eh,el
    refine fun p1 h1=>?_;have N1:=q0D (o:=.lst []) h1;have e0:Xt G3 p1 2e0 p1=some 2e0:=aA;have hl':=hl.keep 5e27;obtain⟨l,ws,hv,ZE,Yu⟩:∃ l ws,(bA lk 0e3).getD 8e10=.ref l/\Xt G3 p1 2e0 l=some 2e7/\(aS S.lt k).getD []=ws:=by
     rcases hl'.look k with⟨z1,z2⟩|⟨l,ws,z1,z2,z3,z4⟩
     ·exact⟨p1,[],by rw[z1];rfl,e0,by rw[<- show(aS ml k).getD []=(aS S.lt k).getD [] from hq k,z2];rfl⟩
     ·exact⟨l,ws,by rw[z1];rfl,z4,by rw[<- show(aS ml k).getD []=(aS S.lt k).getD [] from hq k,z2];rfl⟩
    replace el:=N1.at el;replace eh:=N1.at eh;replace XG:=N1.at XG;generalize Xt G3 p1 2e0=G4 at *;have lws:ws.length<=N:=by
     cases e:aS S.lt k with
     | none=>rw[e] at Yu;rw[<- Yu];simp
     | some v=>rw[e] at Yu;have:=(FT.lw k v e).1;rw[<- Yu];exact this
    exists el,hv,eh,ZE
    refine fun p2 h2=>?_;generalize hg:Xt G4 p2 5e5=G5;have N2:Kp [] G4 G5:=hg▸Kp.new h2;have e2:G5 p2=some 5e5:=hg▸aA;clear hg;replace el:=N2.at el;replace eh:=N2.at eh;replace XG:=N2.at XG;replace ZE:=N2.at ZE
    exists ZE,e2
    refine⟨by rw[Γ];omega,fun l2 h2'=>?_⟩;rw[show ws.map wv++[wv w]=(ws++[w]).map wv by simp];have K5:Kp [] G3 G5:=N1.trans N2;obtain⟨n1,n2,n3⟩:=(F1.kp K5).new h2';have NL:=q0D (o:=.lst 3e15) h2';have e3:Xt G5 l2 (.lst 3e15) l2=some (.lst 3e15):=aA;have nol:op≠l2:=by
     obtain⟨us,e,_⟩:=O1;exact aF (K5.at e) h2'
    have f3:G3 l2=none:=K5.cL h2';have KX:=K5.trans NL;replace O1:=O1.kp KX;replace M1:=M1.kp KX;replace hl:=hl.keep (fun _ _ _ e=>KX.at e);replace el:=NL.at el;replace eh:=NL.at eh;replace XG:=NL.at XG;generalize Xt G5 l2 (.lst 3e15)=G6 at *;have F6:=F1.kp KX;have nl2:l2∉A0.las:=fun z=>n2 l2 z rfl;obtain⟨Yh,ml',a1,a2,a3,a4,a5,a6,a7⟩:=hl.WR (k:=k) e3 hun.1 F1.nl nl2;have lml:lk.length=ml.length:=hl.len;have lm2:ml'.length<=A0.nk+1:=by
     rw[<- a1.len];have:=PH (kvs:=lk) (k:=.inr k) (x:=.ref l2);have:=hun.2;omega
    exists XG,vl1,eh,el
    refine⟨by have:=hun.2;omega,?_⟩;have TL:aE G6 (Xt G6 A0.ld 2e3):=aE.cS el;have e7:Xt G6 A0.ld 2e3 A0.ld=some 2e3:=aA;have KE:∀ b o,G6 b=some o->b≠A0.ld->Xt G6 A0.ld 2e3 b=some o:=fun b o e n=>by rw[aC n];exact e
    have nld:l2≠A0.ld:=c0 e3 el 2e1;replace O1:=O1.put (u:=.dK (aR lk 0e3 1e3)) el aW.2.2.2.2 7e6;replace eh:=TL _ _ eh;replace e3:=KE _ _ e3 nld;replace a1:=a1.keep (H':=Xt G6 A0.ld 2e3) (fun a ha o e=>KE a o e (by
     obtain⟨xs,ex⟩:=a1.ex a ha;exact c0 ex el 2e1))
    have M7:cU (Xt G6 A0.ld 2e3) A0.md A0.nd A0.od A0.dd xt 4e23:=M1.Qt (fun a o e h=>KE a o e (by
     obtain⟨ds,ed,_⟩:=M1.hd;rcases h with rfl|rfl|rfl|rfl
     ·exact F1.n1
     ·exact F1.n2
     ·exact c0 M1.ho el 2e1
     ·exact c0 ed el 2e1)) TL
    have em7:=KE _ _ XG F1.n1;have K7:∀ b o,G3 b=some o->b≠A0.ld->Xt G6 A0.ld 2e3 b=some o:=fun b o e n=>KE b o (KX.at e) n;have aaY:∀ a∈Yh,a∈A0.las\/G3 a=none:=fun a ha=>(a4 a ha).elim (fun z=>.inr (z▸f3)) .inl;have s22:∀ a∈Yh,a≠A0.od/\a≠A0.dd/\a≠A0.cl/\a∉A0.cs:=fun a ha=>by
     rcases a4 a ha with rfl|z
     ·obtain⟨ds,ed,_⟩:=(F1.ex.choose_spec).1.hd;exact⟨fun z=>n3 3e21,fun z=>n3 8e20,n1.1,n1.2⟩
     ·exact F1.s2 a z
    have T7:aE G3 (Xt G6 A0.ld 2e3):=(aE.nil KX).trans TL;have c7:=x4.las (H':=Xt G6 A0.ld 2e3) (las:=Yh) (n:=A0.nk+1) aaY (fun b o e h=>K7 b o e (fun z=>h 0e29));have nop:op∉Yh:=fun z=>by
     obtain⟨us,e,_,s,_⟩:=O1;rcases a4 op z with y|y
     ·exact nol y
     ·exact s 0e45
    have O7:hW (Xt G6 A0.ld 2e3) {A0 with las:=Yh,nk:=A0.nk+1} op []:=by
     obtain⟨us,e,hc,s,s2,s3⟩:=O1;exact⟨us,e,hc,fun z=>(Ho z).elim s nop,s2,s3⟩
    have W7:Fm [op] A0 {A0 with las:=Yh,nk:=A0.nk} G3 (Xt G6 A0.ld 2e3):=⟨fun b o e h1 _=>K7 b o e (fun z=>h1 0e29),fun b o e=>by
     by_cases z:b=A0.ld
     ·exact⟨_,by rw[z];exact e7⟩
     ·exact⟨o,K7 b o e z⟩,fun b hb=>(Ho hb).elim .inl (fun z=>(aaY b z).elim (fun y=>.inl 0e45) .inr),⟨rfl,rfl,rfl⟩,rfl,.inl rfl⟩
    generalize Xt G6 A0.ld 2e3=G7 at *;have aaZ:∀ j,(aS ml' j).getD []=if j=k then ws++[w] else (aS S.lt j).getD []:=fun j=>by
     rw[a7 j];split
     ·rfl
     ·exact hq j
    clear KE TL el NL N1 N2 K5 e2 ZE;right;obtain⟨kv7,aaO,lk7,_⟩:=M7.hm;have vm7:bA kv7 4e10=some 4e16:=(lk7.2 _ 4e0).trans x4.md;have F2:bR P0 G7 {A0 with las:=Yh,nk:=A0.nk+1} {S.at' m with lt:=fI S.lt k w} p:=F1.QW 5e37 xos xc xc2 xc3 c7 (fun b o e hb=>K7 b o e (fun z=>by
     have:=F1.far (hb.elim .inl 1e43:b=A0.cl\/b∈A0.cs\/b=A0.ld\/b∈A0.las);rcases hb with hb|hb
     ·obtain⟨Y1,_,el3,_⟩:=F1.lt;have c:=F1.cl;rw[<- hb,z,el3] at c;cases c
     ·obtain⟨xs,ex⟩:=F1.co.there b hb;obtain⟨Y1,_,el3,_⟩:=F1.lt;rw[z,el3] at ex;cases ex)) T7 ⟨_,ml',e7,a1,⟨a2,lm2⟩,fun j=>by
      rw[aaZ j];show _=(aS (fI S.lt k w) j).getD [];rw[yG,Yu]⟩ F1.ps a3 s22
    rcases Zx with⟨k',hs⟩|⟨ts,hs⟩
    ·rw[hs] at vm7;obtain⟨x,XI⟩:=FT.sl.1 k' hs;obtain⟨pt,ec⟩:=F2.ps.ent (show bL S.stk=some (.Xy x k') from XI);obtain⟨a,ea,pa,hpa,sv,Y0,eA⟩:=F2.co.at ec;cases Y0 with
     | @Xy a0 x k' e1 =>
      have ix:hE 7e20 (p:Int)=some 9e1:=eD (by rw[ϕ,show A0.cs[p]?=some a from ea];rfl);have ZN:G7 A0.cl=some (.lst 7e20):=F2.cl;have va7:bA kv7 1e1=some 2e11:=(lk7.2 _ 4e0).trans xc2;have vc7:bA kv7 7e16=some 2e17:=(lk7.2 _ 4e0).trans xc;have vl7:bA kv7 9e20=some 1e17:=(lk7.2 _ 4e0).trans xc3;refine cP fun RI XA=>?_
      exists aaO,vm7,Slp.md,va7,vc7,ZN,ix,eA,e1,eh
      split
      ·next hk =>
       subst hk;refine XA _ _ ?_;clear XA RI;have hw0:ws=[]:=by rw[<- Yu];exact sd.he _ hs
       subst hw0;have ZA:G7 l2=some 5e5:=e3;have etl:(S.at' m).eT k' w=(S.at' m).wake w:=by simp only[Pu.eT,show(S.at' m).sl=S.sl from rfl,hs,Γ1]
       rw[etl] at fin
       exists aaO,vl7,eh,e7,a6,ZA
       rw[show[wv w].tail=([]:List Wo).map wv from rfl];have abR:=s22 l2 a5;have M8:=M7.other (vs:=([]:List Wo).map wv) ZA abR.1 abR.2.1;have a8:=a1.set ([]:List Wo) a6 a3;have T8:aE G7 (Xt G7 l2 1e9):=aE.cS ZA;have K8:∀ b o,G3 b=some o->b≠A0.ld->Xt G7 l2 1e9 b=some o:=fun b o e n=>by rw[aC (aF e f3)];exact K7 b o e n
       have e8:Xt G7 l2 1e9 A0.ld=some (.dK (aR lk (.inr k') 1e3)):=by rw[aC nld.symm];exact e7
       have c8:=x4.las (H':=Xt G7 l2 1e9) (las:=Yh) (n:=A0.nk+1) aaY (fun b o e h=>K8 b o e (fun z=>h 0e29));have O8:hW (Xt G7 l2 1e9) {A0 with las:=Yh,nk:=A0.nk+1} op []:=O7.put ZA 4e44 7e6;have W8:=W7.trans (Fm.set (b:=l2) (o:=.lst 0e9) (.inl 4e44));have F3:bR P0 (Xt G7 l2 1e9) {A0 with las:=Yh,nk:=A0.nk+1} 4e23 p:=F1.QW (M8.as ⟨rfl,rfl,rfl,rfl,rfl,rfl⟩) xos xc xc2 xc3 c8 (fun b o e hb=>K8 b o e (fun z=>by
        obtain⟨Y1,_,el3,_⟩:=F1.lt;rcases hb with hb|hb
        ·have c:=F1.cl;rw[<- hb,z,el3] at c;cases c
        ·obtain⟨xs,ex⟩:=F1.co.there b hb;rw[z,el3] at ex;cases ex)) (T7.trans T8) ⟨_,_,e8,a8,⟨by rw[o9];exact a2,by rw[oA];exact lm2⟩,fun j=>by
         rw[xX (w:=w) (r':=[]) (by rw[aaZ k',if_pos rfl];rfl)];show _=(aS S.lt j).getD [];split
         ·next z=>rw[z,Yu]
         ·next z=>rw[aaZ j,if_neg z]⟩ F1.ps a3 s22
       generalize Xt G7 l2 1e9=G8 at *;refine⟨P0,{A0 with las:=Yh,nk:=A0.nk+1},S.at' m,p,w,op,N,rfl,F3,O8,FT.at' hf.1,by omega,hf.2,.inl ⟨k',hs⟩,fun A' p' G' F' O' W'=>?_⟩;wp_walk;right;wp_walk;exact fin A' p' G' F' O' (W8.trans (W'.to A0.nk)) (by rw[W'.nk];exact Ι _)
      ·next hk =>
       clear XA RI;have etl:(S.at' m).eT k w=({S.at' m with lt:=fI S.lt k w},[]):=by simp only[Pu.eT,show(S.at' m).sl=S.sl from rfl,hs,if_neg hk];rfl
       rw[etl] at fin;right;wp_walk;exact fin _ p G7 F2 O7 W7 (Ι _)
    ·rw[hs] at vm7;have etl:(S.at' m).eT k w=({S.at' m with lt:=fI S.lt k w},[]):=by simp only[Pu.eT,show(S.at' m).sl=S.sl from rfl,hs];rfl
     rw[etl] at fin;refine cP fun RI XA=>?_
     exists aaO,vm7,Slp.md
     clear XA RI;right;wp_walk;exact fin _ p G7 F2 O7 W7 (Ι _)
   ·next hw =>
    clear XA RI;right;wp_walk;have et:S.take 3e17=(S,[]):=by
     have:S.over 3e17=true:=by
      unfold Pu.over;cases hs:S.sl with
      | new=>rfl
      | ended _=>rfl
      | worn=>rfl
      | Xu=>rw[hs] at hn;cases hn
      | wait ts=>rw[hs] at hw;exact absurd rfl hw
      | Xy ts=>rw[hs] at hw;exact absurd rfl hw
     simp only[Pu.take,this,Γ1]
    exact fin A0 p G2a 4e28 3e28 Fm.refl 1e0
theorem JC:Ok T T.B3 18 Ni:=by
 nomatch T.B3
 ·obtain⟨bp,cc,us,b,ms,rfl,_⟩:=h;rfl
 ·obtain⟨bp,cc,us,b,ms,rfl,eb,Z7,gb,hd,hz,ec,lm,q⟩:=h
  nomatch (aI (pst 2 (pcl (Bi T) T.vJ 2e14)) (pss3 (pst 3 8e0) (zF Γ0 rfl (lE rfl T.qN (pa1 8e14)) (pgn 4) (aI (pst 5 (pcl (qI T) T.nE (pa2 (pix aM pv1 pv4) aB))) (aI (pst 6 (pcl (vA T) T.kK (pa2 pv5 pv2))) (pss3 (pif (PW.pt (eP 2e29 (dQ (ptc Hx (pcl 9e0 T.bF (pa2 pv5 aB)) aB)))) (aG (pst 6 (aY (pa3 aD (pix aM pv6 aB) (pcl (fM T) T.fT (pa1 pv5))))))) (aP (dP pv3 pv6)) (aP (pcl (uK T) T.oR (pa2 pv2 pv6))))))) (aK pv3))),0
  left;wp_walk;refine⟨bp,us,b,rfl,eb,Z7,hd,hz,fun A1 G1 F1 fr nk0 _ K1=>?_⟩;obtain⟨md,hmd⟩:∃ md,md=A1.md:=⟨_,rfl⟩;rw[<- hmd];wp_walk;right;left;wp_walk;refine fun rl hrl=>?_;generalize hg:Xt G1 rl 2e0=G2;have N1:Kp [] G1 G2:=hg▸Kp.new hrl;have er:G2 rl=some 2e0:=hg▸aA;clear hg;obtain⟨nc,_,nr⟩:=F1.new hrl;have frl:H rl=none:=K1.cL hrl;replace F1:=F1.kp N1;replace K1:=K1.trans N1;right;left
  exists K1.at ec
  refine⟨⟨by rw[Γ];omega,by rw[Γ];omega⟩,?_⟩;obtain⟨Pv,XD⟩:∃ Pv:Nat->St->Hp->Prop,∀ i σ G,Pv i σ G=E7 fun(v4 v5 v6:Option V) (A:Fa) (p:Nat) (hv:List V) (hs:List Hap)=>A15 (σ=[some 7e23,some (.ref cc),some 7e17,some 5e17,v4,v5,v6]) (bR b G A (takes 5e1 hs).1 p) (XE true (takes 5e1 hs).1 (302 * i)) ((takes 5e1 hs).1.sl.isN=false) (Std (takes 5e1 hs).1) (A.nk<=i) (A.md=md) (G rl=some (.lst hv)) (fY G hv hs) (hs.length=i) ((∀ h∈hs,1e40/\eC h.w)) (rl∉A.mut) ((rl≠A.cl/\rl∉A.cs)) ((∀ a∈A.mut,H a=none)) 6e30:=⟨_,fun _ _ _=>rfl⟩;refine oS (lo:=0) Pv ?_ ?_ ?_
  ·rw[XD];exact⟨_,_,_,A1,0,[],[],rfl,F1,Hd gb 1e0,rfl,Ib b,by omega,hmd.symm,er,.nil,rfl,by simp,nr,nc,fr,K1⟩
  ·intro i σ G hi h;rw[XD] at h;obtain⟨v4,v5,v6,A2,p,hv,hs,rfl,F,FT,hn,sd,hk,hm,eG,hH,lh,ok,nr,nc,fr,KG⟩:=h;rw[Γ] at hi;have hil:i < ms.length:=by omega
   obtain⟨z,ez⟩:∃ z,hE 3e48 (i:Nat)=some 0e6:=⟨ms[i],eD 0e0⟩;have ecG:=KG.at ec;generalize eS:(takes 5e1 hs).1=S at *;left
   exists ecG,Ε2,ez
   refine⟨z,90,rfl,fun dk G3 ZD K3 RD=>?_⟩;wp_walk;right;left;wp_walk;obtain⟨d1,d2,d3⟩:=F.new ZD;refine⟨b,A2,S,p,dk,_,302 * i,by rw[hm],F.kp K3,FT,by omega,RD,by omega,d3,d1.1,d1.2,fun v h n' G4 hA hf D4 ln K4=>?_⟩;wp_walk;right;have KK:Kp [] G G4:=fun b o e _=>K4.at1 5e31 4e31;refine bQ fun R6 ZV=>?_;refine cP fun RI XA=>?_
   suffices fin:∀(v:V) (h:Hap) (G':Hp),mU G' v h->(1e40/\eC h.w)->Kp [] G G'->R6 [some 7e23,some (.ref cc),some 7e17,some 5e17,some (.int (i:Nat)),some 5e7,some v] G' by
    obtain⟨ha,rfl,eh⟩:=hA;wp_walk;split
    ·refine⟨_,D4,by omega,fun g G5 a5 b5 D5 K5=>?_⟩;have K45:Kp [] G G5:=fun b o e _=>K5.at1 (KK.at e) (fun z=>by
      have:=K3.at e;rw[z] at e;rw[ZD] at e;cases e)
     have eh5:=D4.tk K5 _ _ eh;wp_walk;split
     ·refine XA _ _ ?_
      exists eh5,hap1 h
      refine⟨dk,_,rfl,D5,by omega,fun w G6 hw D6 K6=>?_⟩;wp_walk;intro p6 h6;exact fin _ (.X3 h.m w) _ ⟨p6,rfl,aA⟩ ⟨hf.1,hw⟩ (fun b o e _=>(q0D h6).at (K6.at1 (K45.at e) (fun z=>by rw[z,ZD] at e;cases e)))
     ·exact fin _ h _ ⟨ha,rfl,eh5⟩ hf K45
    ·exact fin _ h _ ⟨ha,rfl,eh⟩ hf KK
   clear hA hf XA RI D4 KK;intro v h G' hA hf KK;refine ZV _ _ ?_;clear ZV;clear R6;replace F:=F.kp KK;replace eG:=KK.at eG;replace hH:=hH.kt (aE.nil KK);have lv:=hH.len;left
   exists eG
   refine⟨by omega,?_⟩;have F5:=F.oth (vs:=hv++[v]) eG nr nc.1 nc.2 (fun ts hts=>Ml hH (fun z=>by
    rw[z] at eS;rw[<- eS] at hts;cases hts) ts)
   have T5:aE G' (Xt G' rl 0e10):=aE.cS eG;have K5:∀ b o,b≠rl->G' b=some o->Xt G' rl 0e10 b=some o:=fun b o n e=>by rw[aC n];exact e
   replace eG:Xt G' rl 0e10 rl=some 0e10:=aA;replace hA:=x8 hA T5;have hH5:=(hH.kt T5).snoc hA;have KH5:Kp [] H (Xt G' rl 0e10):=fun b o e _=>K5 b o (aF e frl) (KK.at 5e23);generalize Xt G' rl 0e10=G5 at *;right;wp_walk;refine⟨b,A2,S,p,v,h,302 * i,by rw[hm],F5,hA,hf,FT,by omega,hn,sd,by omega,fun A' p' op us' G6 F6 hop e6 c6 n6 W6 hk6=>?_⟩;show Pv 4e1 _ _;rw[XD];obtain⟨_,M5,_⟩:=F5.ex;have es:(takes 5e1 (hs++[h])).1=(S.take h).1:=by rw[qM,eS]
   have T6:aE G5 G6:=F5.tkp ((show Fm [] A2 {A' with nk:=A2.nk} G5 G6 from W6).mono (E:=[rl]) 0e0) eG;have e6r:G6 rl=some 0e10:=W6.kp _ _ eG nr 0e0;refine⟨_,_,_,A',p',hv++[v],hs++[h],rfl,by rw[es];exact F6,?_,?_,?_,by omega,W6.m1.1.trans hm,e6r,hH5.kt T6,by simp[lh],?_,fun z=>?_,⟨by rw[show A'.cl=A2.cl from W6.m1.2.1];exact nc.1,by rw[show A'.cs=A2.cs from W6.m1.2.2];exact nc.2⟩,fun a ha=>?_,fun b o e _=>W6.kp b o (KH5.at e) (fun z=>by rw[fr b z] at e;cases e) 0e0⟩
   ·rw[es,show 302 * 4e1=302 * i+302 by omega];exact FT.Il h hf.1 hf.2 (fun j hj=>fL (by have:=(M5.lt j hj).1;omega) (by have:=(M5.lt j hj).2;have:=FT.md;omega)) 1e0
   ·rw[es];exact Ey hn h
   ·rw[es];exact Er sd hn h
   ·intro x hx;rcases Κ.mp hx with hx|hx
    ·exact ok x hx
    ·rw[show x=h by simpa using hx];exact hf
   ·rcases W6.nw rl z with z|z
    ·exact nr z
    ·rw[eG] at z;cases z
   ·rcases W6.nw a ha with z|z
    ·exact fr a z
    ·exact KH5.cL z
  intro σ G h;rw[XD,Γ] at h;obtain⟨v4,v5,v6,A2,p,hv,hs,rfl,F,FT,hn,sd,hk,hm,eG,hH,lh,ok,nr,nc,fr,KG⟩:=h;right;wp_walk;exact q rl hv hs G eG hH ok 1e0 KG
theorem DI:Ok T T.sV 1 (zY t.aO):=by
 nomatch T.sV
 ·obtain⟨x,dx,p,us,b,rfl,_⟩:=h;rfl
 ·obtain⟨x,dx,p,us,b,rfl,e,ep,hU,q⟩:=h
  nomatch (pss2 (dM T.cZ T.i6 pv0 (aV 2e4)) (dM T.cZ T.fB pv0 (aV 0e13))),0
  exists e
  refine fun lb f1=>?_;have n1:x≠lb:=aF e f1
  exists aC n1,e
  refine fun ln f2=>?_;have n2:x≠ln:=aF aA f2;have n3:lb≠ln:=aF 0e40 f2
  exists aC n2
  rw[aC n2.symm,aC n3.symm] at f2;have npx:p≠x:=c0 ep e 2e1;have npl:=aF ep f1;have npn:=aF ep f2;have KK:Kp [x] H (Xt (Xt (Xt (Xt H lb (.lst [.ref p])) x (.ins t.aO dx [("blocks",.ref lb)])) ln (.lst [.int 0])) x (.ins t.aO dx [("blocks",.ref lb),("numbers",.ref ln)])):=fun b o eb nb=>by
   have nb':b≠x:=by simpa using nb
   rw[aC nb',aC (aF eb f2),aC nb',aC (aF eb f1)];exact eb
  have TT:aE H _:=fun a xs ea=>KK a _ ea (by simp only[Α,Δ,Υ];exact c0 ea e 2e1);refine q lb ln _ f1 f2 ⟨aA,⟨[.ref p],?_,.one (TT _ _ ep) (hU.kp TT)⟩,?_,n3,by simp⟩ KK
  ·rw[aC n1.symm,aC n3,aC n1.symm];exact aA
  ·rw[aC n2.symm];exact aA
theorem yV:Ok T T.lP 1 (zX t.aJ):=by
 nomatch T.lP
 ·obtain⟨x,dx,rfl,_⟩:=h;rfl
 ·obtain⟨x,dx,rfl,e,q⟩:=h
  nomatch (pss3 (dM T.bI T.tK pv0 aB) (dM T.bI T.gY pv0 lD) (dM T.bI T.gW pv0 lD)),0
  exists e
  refine fun dp f1=>?_;have n1:x≠dp:=aF aA f1
  exists aC n1
  refine fun da f2=>?_;have n2:x≠da:=aF aA f2;have n3:dp≠da:=aF 0e40 f2
  exists aC n2
  rw[aC n1.symm] at f1;rw[aC n2.symm,aC n3.symm,aC n2.symm] at f2;refine q dp da _ f1 f2 ⟨aA,?_,?_,n3,by simp,.nil,by simp,by simp,by decide⟩ ?_
  ·rw[aC n1.symm,aC n3,aC n1.symm];exact aA
  ·rw[aC n2.symm];exact aA
  ·intro b o eb nb;have nb':b≠x:=by simpa using nb
   rw[aC nb',aC (aF eb f2),aC nb',aC (aF eb f1),aC nb'];exact eb
theorem FH:Ok T T.xP 3 (Cz ⟨t.aN,t.aO,t.aJ⟩):=by
 nomatch T.xP
 ·obtain⟨x,dx,pg,us,b,rfl,_⟩:=h;rfl
 ·obtain⟨x,dx,pg,us,b,rfl,e,ep,hs,q⟩:=h
  nomatch (aI (dM T.aQ T.jV pv0 (HB T.Fv (DI T) (hr.mono 1e0) rfl T.Vf T.sV.bd .nil pass0 2e4)) (aI (dM T.aQ T.dI pv0 3e10) (aI (dM T.aQ T.Bf pv0 cN) (aI (dM T.aQ T.rK pv0 aB) (pss3 (dM T.aQ T.gI pv0 lD) (dM T.aQ T.cR pv0 (MF T.tJ (yV T) (hr.mono 1e0) rfl T.Ma T.lP.bd .nil pass0)) (dM T.aQ T.gX pv0 lD)))))),0
  left
  exists e
  refine Ph ep hs fun wk wx lb ln Gw Kw hwk hlb hln W0=>?_;have ew:=Kw.at e
  exists ew
  have g1:Xt Gw x 1e19 x=some 1e19:=aA;have K1:Kp [x] Gw (Xt Gw x 1e19):=Kp.set 0e0;generalize Xt Gw x 1e19=G1 at *;right;left
  exists g1
  refine fun p h2=>?_;obtain⟨g2,f2,K2,n2⟩:=put2 (o:=.tup [.str "new"]) (o':=.ins t.aN dx [("walk",.ref wk),("sleep",.ref p)]) g1 h2
  exists aC n2,g1
  generalize Xt (Xt G1 p (.tup [.str "new"])) x (.ins t.aN dx [("walk",.ref wk),("sleep",.ref p)])=G2 at *;right;left
  exists g2
  have g3:Xt G2 x 4e18 x=some 4e18:=aA;have K3:Kp [x] G2 (Xt G2 x 4e18):=Kp.set 0e0;generalize Xt G2 x 4e18=G3 at *;right;left
  exists g3
  have g4:Xt G3 x 2e18 x=some 2e18:=aA;have K4:Kp [x] G3 (Xt G3 x 2e18):=Kp.set 0e0;generalize Xt G3 x 2e18=G4 at *;right;left
  exists g4
  refine fun nm h5=>?_;obtain⟨g5,f5,K5,n5⟩:=put2 (o:=.dK []) (o':=.ins t.aN dx [("walk",.ref wk),("sleep",.ref p),("arg",.Xu),("now",.int 0),("names",.ref nm)]) g4 h5
  exists aC n5,g4
  generalize Xt (Xt G4 nm 4e11) x (.ins t.aN dx [("walk",.ref wk),("sleep",.ref p),("arg",.Xu),("now",.int 0),("names",.ref nm)])=G5 at *;right;left
  exists g5
  refine Vi fun tk tx dp da Gt Kt htk hdp hda T0=>?_;have et:=Kt.at g5
  exists et
  have g6:Xt Gt x 1e18 x=some 1e18:=aA;have K6:Kp [x] Gt (Xt Gt x 1e18):=Kp.set 0e0;generalize Xt Gt x 1e18=G6 at *;right
  exists g6
  refine fun lt h7=>?_;obtain⟨g7,f7,K7,n7⟩:=put2 (o:=.dK []) (o':=.ins t.aN dx [("walk",.ref wk),("sleep",.ref p),("arg",.Xu),("now",.int 0),("names",.ref nm),("tickets",.ref tk),("letters",.ref lt)]) g6 h7
  exists aC n7,g6
  generalize Xt (Xt G6 lt 4e11) x (.ins t.aN dx [("walk",.ref wk),("sleep",.ref p),("arg",.Xu),("now",.int 0),("names",.ref nm),("tickets",.ref tk),("letters",.ref lt)])=G7 at *;have KA:Kp [x] H G4:=((((Kw.mono 0e0).trans K1).trans K2).trans K3).trans K4;have KB:Kp [x] H Gt:=(KA.trans K5).trans (Kt.mono 0e0);have KC:Kp [x] H G6:=KB.trans K6;have xwk:x≠wk:=aF e hwk;have xtk:x≠tk:=aF g5 htk;have W7:Kp [x] Gw G7:=(((((K1.trans K2).trans K3).trans K4).trans K5).trans (Kt.mono 0e0)).trans 1e30;have P7:Kp [x] G2 G7:=(((K3.trans K4).trans K5).trans (Kt.mono 0e0)).trans 1e30;have N7:Kp [x] G5 G7:=(Kt.mono 0e0).trans 1e30;have T7:Kp [x] Gt G7:=K6.trans K7;have KD:Kp [x] H G7:=KC.trans K7;have W5:Kp [x] Gw G5:=((((K1.trans K2).trans K3).trans K4).trans K5);have xlb:lb≠x:=(aF e hlb).symm;have xln:ln≠x:=(aF e hln).symm;have xdp:dp≠x:=(aF g5 hdp).symm;have xda:da≠x:=(aF g5 hda).symm;have nm6:=K6.at1 (Kt.at f5) n5.symm;have dp6:=K6.at1 T0.hp xdp;have da6:=K6.at1 T0.ha xda;have wk5:=W5.at1 W0.ins xwk.symm;have fr4:H nm=none:=WL KA g4 h5;have fr5:∀ {a:Addr},G5 a=none->H a=none:=fun h=>WL (KA.trans K5) g5 h;have abV:H lt=none:=WL KC g6 h7;have kt7:aE Gw G7:=fun b xs hb=>W7.at1 hb (c0 hb ew 2e1);refine q ⟨x,dx,wk,wx,lb,ln,nm,tk,tx,dp,da,lt⟩ 5e4 G7 rfl ⟨g7,⟨p,rfl,P7.at1 f2 n2.symm⟩,W0.keep (fun o h=>W7.at1 h xwk.symm) (fun o h=>W7.at1 h xlb) (fun o h=>W7.at1 h xln) kt7,T0.keep (fun o h=>T7.at1 h xtk.symm) (fun o h=>T7.at1 h xdp) (fun o h=>T7.at1 h xda),N7.at1 f5 n5.symm,⟨[],f7,.nil⟩,by simp,by simp,xwk,xtk,aF wk5 htk,aF f5 hdp,aF f5 hda,aF nm6 h7,(aF dp6 h7).symm,(aF da6 h7).symm⟩ KD fun a ha=>?_;simp only[Rn.cells,Α,Δ,Υ] at ha;rcases ha with rfl|rfl|rfl|rfl|rfl|rfl|rfl|rfl
  ·exact .inl rfl
  ·exact .inr hlb
  ·exact .inr hln
  ·exact .inr fr4
  ·exact .inr (fr5 htk)
  ·exact .inr (fr5 hdp)
  ·exact .inr (fr5 hda)
  ·exact .inr abV
theorem FL:Ok T T.xT 4 HU:=by
 nomatch T.xT
 ·obtain⟨P0,A0,S,p,r,n,N,rfl,_⟩:=h;rfl
 ·obtain⟨P0,A0,S,p,r,n,N,rfl,F,FT,lN,hN,hR,hn,s1,q⟩:=h
  nomatch (aI (pst 2 (pix aM (aV (pa2 0e1 (bD iR 6e3 0e1))) 0e1)) (aI (pst 3 0e1) (aI (pif (PW.pt (eP 3e29 (dQ (ptc My 1e2 aD)))) 4e39) (aI (pst 4 (pcl 9e0 T.bF (pa2 pv0 (bD cI 1e2 aB)))) (aI (pif (ptc aZ 0e1 aB) (aG (pst 4 (bD iR 5e3 0e1)))) (pss3 (nW Γ0 (dZ iQ pv4 1e2 8e2) (aG (pst 4 (bD cI (bD cI pv4 1e2) aB)))) (pif (PW.pt (eP 3e29 (dQ (dZ iQ 1e2 (aV 6e27) 8e2)))) (aG (aK (aY (dN aD (pa3 pv2 (pix aM 3e7 0e1) 7e18)))))) 0e38)))))),0
  obtain⟨ot,M0,YB,c1,c2,c3,c4⟩:=F.ex;obtain⟨XO,XF,Yl,t1,t2,t3,t4,t5,t6⟩:=M0.hm;have vm:bA XO 4e10=some 4e16:=(Yl.2 _ 4e0).trans c4.md;have rmd:A0.md≠r:=fun z=>s1 4e17;have rod:A0.od≠r:=fun z=>s1 3e21;have lpd:=FT.pd;have lmd:=FT.md;refine bQ fun R1 hR1=>?_;wp_walk;refine⟨n,hR,by omega,fun g1 H1 a1 b1 D1 K1=>⟨_,D1,by omega,fun g2 H2 a2 b2 D2 K2 p1 h1=>⟨_,D2.new h1,by omega,fun g3 H3 a3 b3 D3 K3=>?_⟩⟩⟩
  exists made1 K3 D2 h1
  refine iI a3 b3 fun v hv=>?_;obtain⟨mo,rfl,hm⟩:∃ mo:Int,v=.int mo/\0<=mo/\mo<=1000000000000:=by
   simp only[Α,Δ,Υ] at hv;rcases hv with rfl|rfl
   ·exact⟨_,rfl,by omega,by omega⟩
   ·exact⟨_,rfl,by omega,by omega⟩
  have KK:Kp [r] H H3:=((K1.trans K2).trans 5e22).trans K3;clear K1 K2 K3 D1 D2 h1 hv;wp_walk;refine hR1 _ _ ?_;clear hR1 R1;left;wp_walk;refine⟨_,D3,by omega,fun kd H4 a4 b4 D4 K4=>?_⟩;replace KK:=KK.trans K4;clear K4 D3;have em4:=KK.at1 XF rmd;wp_walk;right;refine bQ fun R3 Ys=>?_
  suffices fin:R3 [some 9e4,some 5e2,some 6e7,some 3e2,none] H4 by
   exists em4,vm,yK
   split
   ·split
    ·exact fin
    ·next hw0 =>
     refine⟨r,_,rfl,D4,by omega,fun w H5 hw D5 K5=>?_⟩;wp_walk;intro p5 h5;exact q _ (.X3 mo w) _ _ ⟨p5,rfl,aA⟩ ⟨hm,hw⟩ (Mz (by rwa [yK] at hw0)) 6e22 4e38
   ·exact fin
  refine Ys _ _ ?_;clear Ys;clear R3;left
  exists em4,t4
  refine⟨by omega,Int.le_trans (Int.add_le_add_right (Int.ofNat_le.mpr (Ω lmd lN)) 3) 7e0,_,D4,by omega,fun tk H5 a5 b5 D5 K5=>?_⟩;replace KK:=KK.trans K5;clear K5 D4 em4;wp_walk;right;refine bQ fun R5 hR5=>?_;refine cP fun RI XA=>?_
  suffices fin:∀(j:Int) (n':Nat) (G:Hp),bO G r n'->n'<=n+12->Kp [r] H G->R5 [some 9e4,some 5e2,some 6e7,some 3e2,some 3e11] G by
   wp_walk;refine⟨_,D5,by omega,fun g6 H6 a6 b6 D6 K6=>?_⟩;wp_walk;split
   ·refine XA _ _ ?_;wp_walk;refine⟨_,D6,by omega,fun g7 H7 a7 b7 D7 K7=>?_⟩;wp_walk;exact fin _ _ _ D7 1e0 ((KK.trans K6).trans K7)
   ·exact fin _ _ _ D6 1e0 (KK.trans K6)
  intro j n' G RG ln KG;clear RI XA D5 KK;refine hR5 _ _ ?_;clear hR5 R5;refine bQ fun R6 ZV=>?_
  suffices fin:∀(j:Int) (G:Hp),j∉S.pend->bO G r n'->Kp [r] H G->R6 [some 9e4,some 5e2,some 6e7,some 3e2,some 3e11] G by
   wp_walk;refine⟨fun m σ G=>∃ j:Int,σ=[some 9e4,some 5e2,some 6e7,some 3e2,some 3e11]/\(m=0->j∉S.pend)/\bO G r n'/\Kp [r] H G,⟨1,j,rfl,(fun z=>by cases z),RG,KG⟩,?_⟩;rintro m σ G1 ⟨j1,rfl,hj,R1,K1⟩;have em7:=K1.at1 XF rmd;have ho7:=K1.at1 M0.ho rod
   exists em7,t5,ho7
   refine⟨rfl,by rw[List.all_map];exact List.all_eq_true.mpr fun _ _=>rfl,?_⟩;rw[rG];split
   ·next hi =>
    have Z2:j1∈S.pend:=by simpa using hi
    refine⟨fun σ' G'=>∃ j2:Int,σ'=[some 9e4,some 5e2,some 6e7,some 3e2,some (.int j2)]/\j2∉S.pend/\bO G' r n'/\Kp [r] H G',fun σ' G' ⟨j2,e,a,b,c⟩=>⟨0,?_,j2,e,fun _=>a,b,c⟩,?_⟩
    ·rcases m with _|m
     ·exact absurd Z2 (hj rfl)
     ·omega
    exists em7,t4
    refine⟨_,rfl,fun z=>?_,R1,K1⟩;have l1:=M0.lt _ Z2;have l2:=M0.lt _ z;omega
   ·next hi=>exact fin _ _ (by simpa using hi) R1 K1
  clear RG KG;intro j G hj RG KG;refine ZV _ _ ?_;clear ZV;clear R6;refine bQ fun R7 hR7=>?_;have em8:=KG.at1 XF rmd
  suffices fin:∀(n':Nat) (G:Hp),bO G r n'->n'<=n+12->Kp [r] H G->R7 [some 9e4,some 5e2,some 6e7,some 3e2,some 3e11] G by
   refine cP fun RI XA=>?_
   exists em8,vm
   split
   ·refine fun p8 h8=>⟨rfl,by decide +kernel,?_⟩;split
    ·next hq =>
     refine XA _ _ ?_;wp_walk;refine fun p9 h9=>⟨_,(RG.new h8).new h9,by omega,fun g9 H9 a9 b9 D9 K9=>?_⟩
     exists made1 K9 8e51 h9
     refine iI a9 b9 fun y9 hy9=>?_;obtain⟨z9,rfl⟩:∃ z:Str,y9=.str z:=by simp only[Α,Δ,Υ] at hy9;rcases hy9 with rfl|rfl<;>exact⟨_,rfl⟩
     wp_walk;refine⟨r,_,rfl,D9,by omega,fun w H5 hw D5 K5=>?_⟩;wp_walk;intro p5 h5;exact q _ (.ltr mo z9 w) _ _ ⟨p5,rfl,aA⟩ ⟨hm,hw⟩ (MB hq) 6e22 (((((KG.trans 5e30).trans 4e22).trans K9).trans K5).trans 8e28)
    ·exact fin _ _ 8e51 ln (KG.trans 5e30)
   ·exact fin _ _ RG ln KG
  clear RG KG ln em8;intro n' G RG ln KG;refine hR7 _ _ ?_;clear hR7 R7;wp_walk;refine⟨r,_,rfl,RG,by omega,fun w H5 hw D5 K5=>?_⟩;wp_walk;intro p5 h5;exact q _ 2e50 _ _ ⟨p5,rfl,aA⟩ ⟨hm,hw⟩ (MA hN hj) 6e22 ((KG.trans K5).trans 8e28)
theorem DH:Ok T T.sU 1 (En ⟨t.aN,t.aO,t.aJ⟩):=by
 nomatch T.sU
 ·obtain⟨R,as,sl,S,rfl,_⟩:=h;rfl
 ·obtain⟨R,as,sl,S,rfl,A,q⟩:=h
  nomatch 2e49,0
  exists A.ins
  exact q
theorem pF:Ok T T.iA 1 (BC t.aJ):=by
 nomatch T.iA
 ·obtain⟨tk,tx,dp,da,made,pend,ans,rfl,_⟩:=h;rfl
 ·obtain⟨tk,tx,dp,da,made,pend,ans,rfl,R,h64,q⟩:=h
  nomatch (aG (aK (bH (EX rfl) rfl T.pC oJ (pa1 9e15)))),0
  exists R.ins,R.hp,JH
  exact⟨R.asc,fun l XH hl hp hs=>by rw[oB hp hs R.asc];exact q l hl⟩
theorem iH:Ok T T.eY 2 (HS ⟨t.aN,t.aO,t.aJ⟩):=by
 nomatch T.eY
 ·obtain⟨R,as,sl,S,rfl,_⟩:=h;rfl
 ·obtain⟨R,as,sl,S,rfl,A,h64,q⟩:=h
  nomatch (aG (aK (pmt0 7e3 T.bI (pF T) T.iA))),0
  exists A.ins,A.tk.ins
  exact⟨R.tk,R.tx,R.dp,R.da,_,_,_,rfl,A.tk,h64,q⟩
theorem Ci:Ok T T.qD 1 (HV t.aO):=by
 nomatch T.qD
 ·obtain⟨wk,wx,lb,ln,st,rfl,_⟩:=h;rfl
 ·obtain⟨wk,wx,lb,ln,st,rfl,W,q⟩:=h
  nomatch (aG (aK (bU eE rfl T.iK eX (pa1 2e12)))),0
  exists W.ins,W.nu
  exact q
theorem DF:Ok T T.sS 3 (HX ⟨t.aN,t.aO,t.aJ⟩):=by
 nomatch T.sS
 ·obtain⟨R,as,sl,S,rfl,_⟩:=h;rfl
 ·obtain⟨R,as,sl,S,rfl,A,hn,b1,b2,b3,b4,b5,q⟩:=h;have hu:=nI hr
  nomatch (aI (pif (dZ Bj (pix aM 3e5 aB) (aY 4e33) 8e2) 2e49) (pss3 (mF (i:=1) (fr:=[0]) (N:=["name","self"]) rfl 1e4 8e13 (mC (bH (wU rfl) rfl T.pC oJ (pa1 8e9))) (fun C s H ex pn=>⟨mG (dZ oY 0e35 cN (nomark _)) ,(aY (dN 6e2 (dN 0e35 bT))) ⟩) sc rfl 4e12) (mF (i:=2) (fr:=[0]) (N:=["key","self"]) rfl 1e4 8e13 (mC (bH (wU rfl) rfl T.pC oJ (pa1 7e28))) (fun C s H ex pn=>⟨mG (vX 9e34 8e21) ,(aY (dN 6e2 (dN (bU eE rfl T.iK eX (dN 9e34 bT)) bT))) ⟩) sc rfl 4e12) (aK (aY (dN 3e5 (dN (pmt0 9e14 T.cZ (Ci T) T.qD) (dN 5e45 (dN 0e16 (dN (bU eE rfl T.iK eX 2e4) (dN (aL T.bI T.tK 7e3) (pa3 (bU eE rfl T.iK eX (pa1 6e40)) (bU (EY rfl) rfl T.iK eX (pa1 (ME (aL T.bI T.gW 7e3)))) 4e19))))))))))),0
  left;obtain⟨ps,s0,r0,rfl,ep,hin⟩:=A.slp.word hn;refine cP fun RI XA=>?_
  exists A.ins,ep
  refine fun p1 m1=>⟨rfl,rfl,?_⟩;rw[hin];have N1:=q0D (o:=.tup [.str "wait",.str "hear"]) m1;replace A:=A.kp N1;generalize Xt H p1 (.tup [.str "wait",.str "hear"])=G1 at *;clear m1 ep hin;cases hg:S.sl.uE with
  | false =>
   rw[if_pos (show(!false)=true from rfl)];refine XA _ _ ?_
   exists A.ins
   exact q _ _ (by unfold wC;rw[if_neg (by rw[hg];simp)];exact A.slp) N1
  | true =>
   rw[if_neg 0e0];clear XA RI;right;left
   exists A.ins,A.nm,Ic
   refine⟨by rw[Γ];exact b2,fun l ns hl hp hs=>?_⟩;have hks:∀ n∈ns,n∈S.nm.map (·.1):=fun n hn=>hp.mem_iff.mp hn;have lns:ns.length < 64:=by rw[hp.length_eq,Γ];exact b2
   have ZQ:=Nm hp hs;have N2:=q0D (o:=.lst 5e33) hl;have el:Xt G1 l 1e12 l=some 1e12:=aA;replace A:=A.kp N2;replace N1:=N1.trans N2;generalize Xt G1 l 1e12=G2 at *;clear hp hs hl N2;refine⟨⟨_,gE.of el⟩,?_⟩;obtain⟨Pv,XD⟩:∃ Pv:Nat->List V->Hp->Prop,∀ i xs G,Pv i xs G=(fV G xs (gA S.nm 7e12)/\Kp [] G2 G):=⟨_,fun _ _ _=>rfl⟩;refine rJ (ys:=ns.map V.str) Pv ?_ ?_ ?_ ?_ ?_
   ·rw[XD];exact⟨.nil,Kp.refl⟩
   ·intro i xs G h;rw[XD] at h;rw[h.1.len];have h1:=tM S.nm 7e12;rw[Α7] at h1;omega
   ·intro i xs G h;rw[XD] at h;exact gE.of 2e51
   ·intro i y xs G hi ey h;rw[XD] at h;obtain⟨hP,KG⟩:=h;obtain⟨n,en,rfl⟩:∃ n,ns[i]?=some n/\y=V.str n:=by
     rw[ϕ] at ey;obtain⟨n,a0,b0⟩:=Ϝ.mp ey;exact⟨n,a0,b0.symm⟩
    have vn:=Mh 4e47;have AG:=A.kp KG;have es:gA S.nm (ns.take 4e1)=gA S.nm 7e12++gA S.nm [n]:=by rw[Β3,en,Α3,Bg]
    exists aX,Β6,AG.ins,AG.nm,vn
    cases hw:kF S.nm n with
    | none =>
     rw[if_pos (show wv none=V.Xu from rfl),XD,es];exact⟨by rw[show gA S.nm [n]=[] by simp[gA,hw],ϝ];exact hP,KG⟩
    | some z =>
     rw[if_neg (by simp[wv])];intro p hp;rw[XD,es,show gA S.nm [n]=[(.str n,wv (some z))] by simp[gA,hw]];exact⟨(hP.kt 6e9).snoc aA,KG.trans 1e10⟩
   intro un G h ln2 hln;rw[XD] at h;obtain⟨hP,KG⟩:=h;rw[Γ,Α0,ZQ] at hP;replace hP:fV G un S.nmS:=hP;have lun:un.length<=64:=by
    rw[hP.len];have h1:=tM S.nm (srt (S.nm.map (·.1)));rw[<- ZQ] at h1;show(gA S.nm (srt (S.nm.map (·.1)))).length<=64;rw[<- ZQ];omega
   have N3:=q0D (o:=.lst un) hln;have YF:Xt G ln2 0e32 ln2=some 0e32:=aA;replace hP:=hP.kt 7e10;replace A:=A.kp 6e16;replace N1:=N1.trans 6e16;generalize Xt G ln2 0e32=G3 at *;clear XD KG N3 hln el hks ZQ lns;right;left;obtain⟨kvs,ek,hL⟩:=A.lt;have sk:=P9 hL
   exists A.ins,ek,sk
   refine⟨by rw[Γ];exact b3,fun l ns hl hp hs=>?_⟩;have hks:∀ n∈ns,n∈S.lt.map (·.1):=fun n hn=>hp.mem_iff.mp hn;have lns:ns.length < 64:=by rw[hp.length_eq,Γ];exact b3
   have ZQ:=Nm hp hs;have N2:=q0D (o:=.lst 5e33) hl;have el:Xt G3 l 1e12 l=some 1e12:=aA;replace A:=A.kp N2;replace N1:=N1.trans N2;replace hP:=hP.kt 2e30;replace YF:=N2.at YF;replace ek:=N2.at ek;replace hL:=hL.keep (fun a _ o e=>N2.at e);generalize Xt G3 l 1e12=G4 at *;clear hp hs hl N2 sk;refine⟨⟨_,gE.of el⟩,?_⟩;obtain⟨Pv,XD⟩:∃ Pv:Nat->List V->Hp->Prop,∀ i xs G,Pv i xs G=(jB G xs (i5 S.lt 7e12)/\Kp [] G4 G):=⟨_,fun _ _ _=>rfl⟩;refine rJ (ys:=ns.map V.str) Pv ?_ ?_ ?_ ?_ ?_
   ·rw[XD];exact⟨.nil,Kp.refl⟩
   ·intro i xs G h;rw[XD] at h;rw[h.1.len];have h1:=tI S.lt 7e12;rw[Α7] at h1;omega
   ·intro i xs G h;rw[XD] at h;exact gE.of 2e51
   ·intro i y xs G hi ey h;rw[XD] at h;obtain⟨hT,KG⟩:=h;obtain⟨n,en,rfl⟩:∃ n,ns[i]?=some n/\y=V.str n:=by
     rw[ϕ] at ey;obtain⟨n,a0,b0⟩:=Ϝ.mp ey;exact⟨n,a0,b0.symm⟩
    obtain⟨la,ws,vn,lw,ela⟩:=hL.inS 4e47;have AG:=A.kp KG;have ekG:=KG.at ek;have elG:=KG.at ela;have es:i5 S.lt (ns.take 4e1)=i5 S.lt 7e12++i5 S.lt [n]:=by rw[Β3,en,Α3,Bd]
    exists aX,Β6,AG.ins,ekG,vn,elG
    cases ws with
    | nil =>
     rw[if_neg 0e0,XD,es];exact⟨by rw[show i5 S.lt [n]=[] by simp[i5,lw],ϝ];exact hT,KG⟩
    | cons w r =>
     rw[if_pos 0e0]
     exists AG.ins,ekG,vn,elG
     intro q1 m1 q2 m2;rw[XD,es,show i5 S.lt [n]=[(n,w::r)] by simp[i5,lw]];exact⟨((hT.kt (aE.new m1)).kt (aE.new m2)).snoc aA ((q0D m2).at aA),(KG.trans (Kp.new m1)).trans (Kp.new m2)⟩
   intro ut G h ln3 hln;rw[XD] at h;obtain⟨hT,KG⟩:=h;rw[Γ,Α0] at hT;have lut:ut.length<=64:=by
    rw[hT.len];have h1:=tI S.lt ns;omega
   rw[ZQ] at hT;replace hT:jB G ut S.ltS:=hT;have N3:=q0D (o:=.lst ut) hln;have Zl:Xt G ln3 9e31 ln3=some 9e31:=aA;replace hT:=hT.kt 7e10;replace hP:=hP.kt (aE.nil 6e16);replace YF:=(KG.trans N3).at YF;replace A:=A.kp 6e16;replace N1:=N1.trans 6e16;generalize Xt G ln3 9e31=G5 at *;clear XD KG N3 hln el hks ZQ lns ek hL;right
   exists A.ins,A.wk.ins
   refine⟨R.wk,R.wx,R.lb,R.ln,S.stk,rfl,A.wk,fun pl m1=>?_⟩;have N4:=q0D (o:=.tup 9e19) m1;have ZS:Xt G5 pl (.tup 9e19) pl=some (.tup 9e19):=aA;replace A:=A.kp N4;replace N1:=N1.trans N4;replace hP:=hP.kt 2e2;replace hT:=hT.kt 2e2;replace YF:=N4.at YF;replace Zl:=N4.at Zl;generalize Xt G5 pl (.tup 9e19)=G6 at *;clear N4 m1
   exists A.ins,A.tk.ins,YF
   refine fun pn m2=>?_;generalize hg:Xt G6 pn (.tup un)=G7;have N4:Kp [] G6 G7:=hg▸Kp.new m2;have epn:G7 pn=some (.tup un):=hg▸aA;clear hg;replace A:=A.kp N4;replace N1:=N1.trans N4;replace hP:=hP.kt 2e2;replace hT:=hT.kt 2e2;replace YF:=N4.at YF;replace Zl:=N4.at Zl;replace ZS:=N4.at ZS;clear N4 m2
   exists A.ins,A.tk.ins
   refine⟨R,as,_,S,rfl,A,b1,fun lo m3=>?_⟩;have N4:=q0D (o:=.lst 8e3) m3;have elo:Xt G7 lo (.lst 8e3) lo=some (.lst 8e3):=aA;replace A:=A.kp N4;replace N1:=N1.trans N4;replace hP:=hP.kt 2e2;replace hT:=hT.kt 2e2;replace YF:=N4.at YF;replace Zl:=N4.at Zl;replace ZS:=N4.at ZS;replace epn:=N4.at epn;generalize Xt G7 lo (.lst 8e3)=G8 at *;clear N4 m3
   exists elo
   refine fun po m4=>?_;generalize hg:Xt G8 po (.tup 8e3)=G9;have N4:Kp [] G8 G9:=hg▸Kp.new m4;have epo:G9 po=some (.tup 8e3):=hg▸aA;clear hg;replace A:=A.kp N4;replace N1:=N1.trans N4;replace hP:=hP.kt 2e2;replace hT:=hT.kt 2e2;replace YF:=N4.at YF;replace Zl:=N4.at Zl;replace ZS:=N4.at ZS;replace epn:=N4.at epn;clear N4 m4
   exists A.ins,A.tk.ins,A.tk.ha
   refine fun rv m5=>?_;generalize hg:Xt G9 rv 5e50=GA;have N4:Kp [] G9 GA:=hg▸Kp.new m5;have erv:GA rv=some 5e50:=hg▸aA;clear hg;replace A:=A.kp N4;replace N1:=N1.trans N4;replace hP:=hP.kt 2e2;replace hT:=hT.kt 2e2;replace YF:=N4.at YF;replace Zl:=N4.at Zl;replace ZS:=N4.at ZS;replace epn:=N4.at epn;replace epo:=N4.at epo;clear N4 m5;refine⟨R.da,_,rfl,A.tk.ha,fun pa aa GB m6 sm epa ZF hpa=>?_⟩;have N4:Kp [] GA GB:=Kp.of sm;replace A:=A.kp N4;replace N1:=N1.trans N4;replace hP:=hP.kt 2e2;replace hT:=hT.kt 2e2;replace YF:=N4.at YF;replace Zl:=N4.at Zl;replace ZS:=N4.at ZS;replace epn:=N4.at epn;replace epo:=N4.at epo;have hA:fV GB (aa.map V.ref) S.anS:=fV.of (by rw[ZF,Pu.anS,Γ,iM,Γ]) fun j a x y e1 e2=>by
    rw[Pu.anS,ϕ] at e2;obtain⟨p0,e3,e4⟩:=Ϝ.mp e2;cases e4;exact hpa j a (.inl p0.1) (wv p0.2) e1 (by rw[iM,ϕ,e3];rfl)
   clear N4 sm ZF hpa m6 erv
   exists Zl
   refine fun pt m7 p m8=>?_;have N4:=(q0D (o:=.tup ut) m7).trans (Kp.new (o:=.tup [.ref ps,.ref pl,wv S.ar,.int S.nw,.ref pn,.int S.made,.ref po,.ref pa,.ref pt]) m8);refine q _ _ ?_ (N1.trans N4);unfold wC;rw[if_pos hg];have T:=aE.nil N4;exact⟨p,pl,pn,po,pa,pt,.ref ps,un,_,ut,rfl,aA,A.slp.kt T,N4.at ZS,N4.at epn,hP.kt T,N4.at epo,N4.at epa,hA.kt T,(q0D m8).at aA,hT.kt T⟩
theorem rR:Ok T T.lU 4 (HW ⟨t.aN,t.aO,t.aJ⟩):=by
 nomatch T.lU
 ·obtain⟨R,as,sl,S,rfl,_⟩:=h;rfl
 ·obtain⟨R,as,sl,S,rfl,A,hn,b1,b2,b3,b4,b5,q⟩:=h
  nomatch (aG (aK (aY (pa3 (pmt0 pv0 T.aQ (DH T) T.sU) 6e40 (pmt0 pv0 T.aQ (DF T) T.sS))))),0
  exists A.ins
  refine⟨R,as,sl,S,rfl,A,?_⟩
  exists A.ins
  refine⟨R,as,sl,S,rfl,A,b1,fun lo m1=>?_⟩;have N1:=q0D (o:=.lst 8e3) m1;have eo:Xt H lo (.lst 8e3) lo=some (.lst 8e3):=aA;generalize Xt H lo (.lst 8e3)=G at *;have A1:=A.kp N1
  exists A1.ins
  refine⟨R,as,sl,S,rfl,A1,hn,b1,b2,b3,b4,b5,fun v G1 hv K1=>?_⟩;wp_walk;intro p m2;have N2:=q0D (o:=.tup [sl,.ref lo,v]) m2;exact q p lo _ ⟨v,sl,aA,hv.kt 2e30,A.slp.kt (aE.nil 4e42),(K1.trans N2).at eo⟩ m1 4e42
theorem iP:Ok T T.eF 1 (El t.aJ):=by
 nomatch T.eF
 ·obtain⟨tk,tx,dp,da,made,pend,ans,w,rfl,_⟩:=h;rfl
 ·obtain⟨tk,tx,dp,da,made,pend,ans,w,rfl,R,q⟩:=h;have hu:=nI hr
  nomatch (aG (aK (SW (Hz hu pv1 9e15)))),0
  exists R.ins,R.hp,zE
  exact q
theorem tQ:Ok T T.jS 2 (Ng ⟨t.aN,t.aO,t.aJ⟩):=by
 nomatch T.jS
 ·obtain⟨R,as,sl,S,v,h,rfl,_⟩:=h;rfl
 ·obtain⟨R,as,sl,S,v,h,rfl,A,hn,hH,q⟩:=h
  nomatch (aI (pst 2 3e0) (pss3 (pif 5e40 (aG (aK (pcr My pv2 aD)))) (pif (dZ iQ (pix aM 3e5 aB) (aY 4e33) 8e2) 0e22) (aK (Qz 3e47 (nV (SV 3e47 (nV (SX (pmt 7e3 T.bI (iP T) T.eF (pa1 3e0)))))))))),0
  obtain⟨a,rfl,eh⟩:=hH;cases es:S.sl with
  | Xu=>rw[es] at hn;cases hn
  | new =>
   have XJ:=A.slp;rw[es] at XJ;obtain⟨p,rfl,ep⟩:=XJ;cases h with
   | X3 m w =>
    simp only[Hap.vs,Hap.ini,Hap.w,Ψ,Α1] at eh;rw[show S.over 7e7=false by simp only[Pu.over,es]] at q
    exists A.ins,eh,ep
    exact q _ Kp.refl
   | don m i w =>
    simp only[Hap.vs,Hap.ini,Hap.w,Ψ,Α1] at eh;rw[show S.over 7e5=true by simp only[Pu.over,es]] at q
    exists A.ins,eh,ep
    exact q _ Kp.refl
   | ltr m k w =>
    simp only[Hap.vs,Hap.ini,Hap.w,Ψ,Α1] at eh;rw[show S.over 3e17=true by simp only[Pu.over,es]] at q
    exists A.ins,eh,ep
    exact q _ Kp.refl
  | wait ts =>
   have XJ:=A.slp;rw[es] at XJ;obtain⟨p,p2,rfl,ep,ep2⟩:=XJ;cases h with
   | X3 m w =>
    simp only[Hap.vs,Hap.ini,Hap.w,Ψ,Α1] at eh;rw[show S.over 7e7=true by simp only[Pu.over,es]] at q
    exists A.ins,eh,ep
    refine fun p9 h9=>⟨rfl,by decide +kernel,?_⟩;rw[if_neg 9e6];have N9:=q0D (o:=.tup [.str "ended",.str "worn"]) h9
    exists N9.at eh
    exact q _ N9
   | don m i w =>
    simp only[Hap.vs,Hap.ini,Hap.w,Ψ,Α1] at eh;rw[show S.over 7e5 = !decide 7e21 by simp only[Pu.over,es]] at q
    exists A.ins,eh,ep
    refine fun p9 h9=>⟨rfl,by decide +kernel,?_⟩;rw[if_neg 9e6];have N9:=q0D (o:=.tup [.str "ended",.str "worn"]) h9;have A9:=A.kp N9;have eh9:=N9.at eh;generalize Xt H p9 3e38=G9 at *
    exists A9.ins,A9.tk.ins,eh9
    refine⟨R.tk,R.tx,R.dp,R.da,_,_,_,some i,rfl,A9.tk,?_⟩;wp_walk;rw[show decide (∃ j,j∈S.pend/\(some i:Wo)=some j)=decide 7e21 by simp];exact q _ N9
   | ltr m k0 w =>
    simp only[Hap.vs,Hap.ini,Hap.w,Ψ,Α1] at eh;rw[show S.over 1e50=false by simp only[Pu.over,es]] at q
    exists A.ins,eh,ep
    refine fun p9 h9=>⟨rfl,by decide +kernel,?_⟩;rw[if_neg 9e6];have N9:=q0D (o:=.tup [.str "ended",.str "worn"]) h9
    exists N9.at eh
    exact q _ N9
  | Xy k =>
   have XJ:=A.slp;rw[es] at XJ;obtain⟨p,rfl,ep⟩:=XJ;cases h with
   | X3 m w =>
    simp only[Hap.vs,Hap.ini,Hap.w,Ψ,Α1] at eh;rw[show S.over 7e7=true by simp only[Pu.over,es]] at q
    exists A.ins,eh,ep
    refine fun p9 h9=>⟨rfl,by decide +kernel,?_⟩;rw[if_neg 9e6];have N9:=q0D (o:=.tup [.str "ended",.str "worn"]) h9
    exists N9.at eh
    exact q _ N9
   | don m i w =>
    simp only[Hap.vs,Hap.ini,Hap.w,Ψ,Α1] at eh;rw[show S.over 7e5 = !decide 7e21 by simp only[Pu.over,es]] at q
    exists A.ins,eh,ep
    refine fun p9 h9=>⟨rfl,by decide +kernel,?_⟩;rw[if_neg 9e6];have N9:=q0D (o:=.tup [.str "ended",.str "worn"]) h9;have A9:=A.kp N9;have eh9:=N9.at eh;generalize Xt H p9 3e38=G9 at *
    exists A9.ins,A9.tk.ins,eh9
    refine⟨R.tk,R.tx,R.dp,R.da,_,_,_,some i,rfl,A9.tk,?_⟩;wp_walk;rw[show decide (∃ j,j∈S.pend/\(some i:Wo)=some j)=decide 7e21 by simp];exact q _ N9
   | ltr m k0 w =>
    simp only[Hap.vs,Hap.ini,Hap.w,Ψ,Α1] at eh;rw[show S.over 1e50=false by simp only[Pu.over,es]] at q
    exists A.ins,eh,ep
    refine fun p9 h9=>⟨rfl,by decide +kernel,?_⟩;rw[if_neg 9e6];have N9:=q0D (o:=.tup [.str "ended",.str "worn"]) h9
    exists N9.at eh
    exact q _ N9
  | ended w =>
   have XJ:=A.slp;rw[es] at XJ;obtain⟨p,rfl,ep⟩:=XJ;have e0:∃(kd:Str) (xs:List V),H a=some 8e44:=by cases h<;>exact⟨_,_,eh⟩
   obtain⟨kd,xs,e0⟩:=e0;rw[show S.over (h)=true by simp only[Pu.over,es]] at q
   exists A.ins,e0,ep
   refine fun p9 h9=>⟨rfl,by decide +kernel,?_⟩;rw[if_pos 9e6];exact q _ 4e22
  | worn =>
   have XJ:=A.slp;rw[es] at XJ;obtain⟨p,rfl,ep⟩:=XJ;have e0:∃(kd:Str) (xs:List V),H a=some 8e44:=by cases h<;>exact⟨_,_,eh⟩
   obtain⟨kd,xs,e0⟩:=e0;rw[show S.over (h)=true by simp only[Pu.over,es]] at q
   exists A.ins,e0,ep
   refine fun p9 h9=>⟨rfl,by decide +kernel,?_⟩;rw[if_pos 9e6];exact q _ 4e22
theorem iW:Ok T T.gU 1 (sG t.aO):=by
 nomatch T.gU
 ·obtain⟨wk,wx,lb,ln,k,n,b,r,rfl,_⟩:=h;rfl
 ·obtain⟨wk,wx,lb,ln,k,n,b,r,rfl,W,q⟩:=h
  nomatch (aG (Pz 2e12 5e3 U2 aB Hl zS)),0
  obtain⟨vs,eb,hB⟩:=W.bl;obtain⟨l,el,ZP⟩:=tO k n b r;have en:=W.nu;rw[el] at en;have i2:hE 3e27 (-1)=some 4e32:=by rw[Α2];exact kR _ _
  have i3:Az ((l++[(n:Int)]).map V.int).length (-1)=some l.length:=by
   unfold Az;simp;omega
  have i4:((l++[(n:Int)]).map V.int).set l.length (.int ((n:Int)+1))=(l++[((n+1:Nat):Int)]).map V.int:=by simp
  exists W.ins,en,i2,i3,i4
  have n1:wk≠ln:=c0 W.ins W.nu 2e1;have K1:Kp [ln] H 2e35:=Kp.kJ;have T1:aE H 2e35:=fun a xs e=>by rw[aC (c0 e W.nu 2e1)];exact e
  exact q _ ⟨by rw[aC n1];exact W.ins,⟨vs,by rw[aC W.ne];exact eb,(hB.kp T1).turn⟩,by rw[aA,ZP],W.ne,W.X8⟩ K1
theorem gK:Ok T T.e9 1 (zZ t.aO):=by
 nomatch T.e9
 ·obtain⟨wk,wx,lb,ln,k,n,b,r,m,rfl,_⟩:=h;rfl
 ·obtain⟨wk,wx,lb,ln,k,n,b,r,m,rfl,W,hm,q⟩:=h
  nomatch (aG (aK (pix aM (pix aM 8e15 5e3) (pix aM 2e12 5e3)))),0
  obtain⟨vs,eb,hB⟩:=W.bl;obtain⟨ws,p,us,rfl,ep,hU,_,_⟩:=hB.last;obtain⟨l,el,_⟩:=tO k n b r;have en:=W.nu;rw[el] at en;have hn:n < us.length:=by
   have:=(Ν.mp hm).1;have:=hU.len;omega
  obtain⟨m',hm',hM⟩:=hU.at (ϑ hn);rw[hm] at hm';cases hm';have i1:hE 0e47 (-1)=some 5e4:=kR _ _;have i2:hE 3e27 (-1)=some 4e32:=by rw[Α2];exact kR _ _
  have i3:hE us (n:Int)=some us[n]:=eD (ϑ hn)
  exists W.ins,eb,en,i1,i2,ep,i3
  exact q _ hM
theorem Cg:Ok T T.qC 2 (BD t.aO):=by
 nomatch T.qC
 ·obtain⟨wk,wx,lb,ln,k,n,b,x,r,m,rfl,_⟩:=h;rfl
 ·obtain⟨wk,wx,lb,ln,k,n,b,⟨kx,bx,nx⟩,r,m,rfl,W,hm,q⟩:=h
  nomatch (aI (aP (vT 8e15)) (pss3 0e49 0e49 (pif (ptc aZ (pix aM 0e27 aB) aD) (aG (aP (pmt0 pv0 T.cZ (iW T) T.gU)))))),0
  obtain⟨vs,eb,hB⟩:=W.bl;have n1:wk≠ln:=c0 W.ins W.nu 2e1;have n2:wk≠lb:=c0 W.ins eb 2e1;obtain⟨ws,p,us,rfl,ep,hU,hBr,_⟩:=hB.last;have hB2:=hBr 0e0;have nu0:H ln=some 8e42:=by rw[W.nu,tP];simp
  have X8:=W.X8;simp only[Η] at X8;left
  exists W.ins,eb,tF,List.dropLast_concat
  have T1:=aE.dH (ys:=ws) eb;have i1:Xt H lb 9e10 wk=some 3e25:=by rw[aC n2];exact W.ins
  have i2:Xt H lb 9e10 ln=some 8e42:=by rw[aC W.ne.symm];exact nu0
  have i3:Xt H lb 9e10 lb=some 9e10:=aA;have K1:Kp [lb] H (Xt H lb 9e10):=Kp.kJ;have B1:=hB2.kp T1;generalize Xt H lb 9e10=G at *;right;left
  exists i1,i2,tF,List.dropLast_concat
  have T2:=aE.dH (ys:=(cK 5e8).map V.int++[.int kx]) i2;have j1:Xt G ln (.lst 6e8) wk=some 3e25:=by rw[aC n1];exact i1
  have j2:Xt G ln (.lst 6e8) ln=some (.lst 6e8):=aA;have j3:Xt G ln (.lst 6e8) lb=some 9e10:=by rw[aC W.ne];exact i3
  have K2:Kp [ln] G (Xt G ln (.lst 6e8)):=Kp.kJ;have B2:=B1.kp T2;generalize Xt G ln (.lst 6e8)=G2 at *;right;left
  exists j1,j2,tF,List.dropLast_concat
  have T3:=aE.dH (ys:=(cK 5e8).map V.int) j2;have W3:j5 t.aO (Xt G2 ln 9e18) wk wx lb ln 5e8:=⟨by rw[aC n1];exact j1,⟨ws,by rw[aC W.ne];exact j3,B2.kp T3⟩,aA,W.ne,by simp only[Η];omega⟩;have K3:Kp [ln] G2 (Xt G2 ln 9e18):=Kp.kJ;generalize Xt G2 ln 9e18=G3 at *;right;have K13:Kp [lb,ln] H G3:=((K1.mono 0e0).trans (K2.mono 0e0)).trans (K3.mono 0e0)
  exists W3.ins
  refine⟨wk,wx,lb,ln,k,n,b,r,m,rfl,W3,hm,fun v hv=>?_⟩;obtain⟨a,kd,xs,rfl,ea,hk⟩:=hv.U7
  exists ea
  by_cases hi:m.B8=true
  ·rw[hi] at hk q;have hkd:kd = "if":=by simpa using hk
   subst hkd
   exists W3.ins
   exact⟨wk,wx,lb,ln,k,n,b,r,rfl,W3,fun H4 W4 K4=>q H4 W4 (K13.trans (K4.mono 0e0))⟩
  ·have Z2:m.B8=false:=by simpa using hi
   rw[Z2] at hk q;have hkd:(kd = "if")=False:=by simpa using hk
   exists hkd
   exact q G3 W3 K13
theorem AB:Ok T T.nD 3 (Eo t.aO):=by
 nomatch T.nD
 ·obtain⟨wk,wx,lb,ln,st,rfl,_⟩:=h;rfl
 ·obtain⟨wk,wx,lb,ln,st,rfl,W0,ok0,q0,q1⟩:=h
  nomatch (pss2 (nW Γ0 (ptc aZ (pix aM 2e12 5e3) (bH cQ rfl T.mJ fJ (pa1 (pix aM 8e15 5e3)))) (pss2 (pif (ptc aZ (bH cQ rfl T.mJ fJ (pa1 8e15)) aB) 9e21) (aP (pmt0 pv0 T.cZ (Cg T) T.qC)))) (aK 0e27)),0
  obtain⟨Y,hV⟩:∃ Y:Nat->St->Hp->Prop,∀ m σ G,Y m σ G = ∃ XT:Stk,σ=[some (.ref wk)]/\j5 t.aO G wk wx lb ln XT/\AL XT/\bN XT=bN st/\m=XT.length/\Kp [lb,ln] H G:=⟨_,fun _ _ _=>rfl⟩
  try simp only[L2.start,ϔ,List.map_nil,Η,ϖ,Nat.reduceAdd,Nat.reduceSub,List.replicate_zero,ϝ]
  refine⟨Y,⟨st.length,?_⟩,?_⟩
  ·rw[hV];exact⟨st,rfl,W0,ok0,rfl,rfl,Kp.refl⟩
  intro m σ G hG;rw[hV] at hG;obtain⟨XT,rfl,W,ok,hct,rfl,KG⟩:=hG;have back:∀(Y2:Stk) (G2:Hp),j5 t.aO G2 wk wx lb ln Y2->AL Y2->bN Y2=bN st->Y2.length < XT.length->Kp [lb,ln] H G2->∃ m',m' < XT.length/\Y m' [some (.ref wk)] G2:=fun Y2 G2 a b c d e=>by
   refine⟨Y2.length,d,?_⟩;rw[hV];exact⟨Y2,rfl,a,b,c,rfl,e⟩
  clear hV
  match XT,ok with
  | (k,b,n)::r,ok =>
   obtain⟨vs,eb,hB⟩:=W.bl;obtain⟨ws,p,us,rfl,ep,hU,hBr,hBn⟩:=hB.last;obtain⟨l,el,_⟩:=tO k n b r;have en:=W.nu;rw[el] at en;have i1:hE 0e47 (-1)=some 5e4:=kR _ _;have i2:hE 3e27 (-1)=some 4e32:=by rw[Α2];exact kR _ _
   have lu:=hU.len;have lw:=hB.len
   exists W.ins,eb,en,i1,i2,ep
   by_cases hn:n=b.length
   ·rw[if_pos 1e0]
    exists W.ins,eb,en
    refine⟨fun σ' G'=>∃ m',m' < r.length+1/\Y m' σ' G',fun _ _ z=>z,?_⟩
    match r,ok,W,hct,back,hBn,lw with
    | [],ok,W,hct,back,hBn,lw =>
     have e0:bN st=[(k,b,n)]:=by rw[<- hct];simp[bN]
     rw[if_pos (by have:=lw.1;simp only[Η,ϖ] at this;omega)];exact q0 G 1e45 5e44 (by rw[e0];simp[bL,hn]) KG
    | (k2,b2,n2)::r,ok,W,hct,back,hBn,lw =>
     rw[if_neg (by have:=lw.1;simp only[Η] at this;omega)];have h2:n2 < b2.length:=ok.2 (k2,b2,n2) 0e0;have hm:b2[n2]?=some b2[n2]:=ϑ h2;have ho:nN b2 n2=if (b2[n2]).B8=true then n2+1 else n2:=by unfold nN;rw[hm]
     refine⟨wk,wx,lb,ln,k2,n2,b2,(k,b,n),r,b2[n2],rfl,W,hm,fun H' W' K'=>?_⟩;rw[<- ho] at W';refine back _ H' W' ⟨DD h2,fun x hx=>ok.2 x (ϓ _ hx)⟩ ?_ 0e0 (Kp.trans KG K');rw[<- hct]
     conv=>rhs;rw[bN]
     rw[if_pos hn]
   ·rw[if_neg 1e0];have h2:n < b.length:=by have:=ok.1;omega
    have hm:b[n]?=some b[n]:=ϑ h2;have e0:bN st=(k,b,n)::r:=by
     rw[<- hct];cases r with
     | nil=>simp[bN]
     | cons x r=>obtain⟨k2,b2,n2⟩:=x;simp[bN,hn]
    exact⟨wk,wx,lb,ln,k,n,b,r,b[n],rfl,W,hm,fun v hv=>q1 b[n] v G 1e45 5e44 (by rw[e0];exact hm) hv KG⟩
theorem kG:Ok T T.gG 1 (H8 t.aJ):=by
 nomatch T.gG
 ·obtain⟨tk,tx,dp,da,made,pend,ans,rfl,_⟩:=h;rfl
 ·obtain⟨tk,tx,dp,da,made,pend,ans,rfl,R,q⟩:=h
  nomatch (aG (aP (JF 9e15))),0
  exists R.ins,R.hp
  have n1:=R.n1;exact q _ ⟨by rw[aC n1.1];exact R.ins,aA,by rw[aC R.nda.symm];exact R.ha,R.nda,by simp,.nil,R.la,by simp,R.small⟩ Kp.kJ
theorem Bh:Ok T T.vE 2 (Na ⟨t.aN,t.aO,t.aJ⟩):=by
 nomatch T.vE
 ·obtain⟨R,as,sl,S,w,rfl,_⟩:=h;rfl
 ·obtain⟨R,as,sl,S,w,rfl,A,q⟩:=h
  nomatch (pss3 (dM T.aQ T.dI pv0 5e20) 6e38 (aK (aV (pa1 5e20)))),0
  left
  exists A.ins
  refine fun p hp=>?_;have N1:=q0D (o:=.tup [.str "ended",wv w]) hp;have e1:Xt H p 2e27 p=some 2e27:=aA;have A1:=A.kp N1
  exists N1.at A.ins
  have A2:=A1.attr 5e4 (.ended w) S.ar S.nw ⟨p,rfl,e1⟩;have F2:=(Fw.of (R:=R) (as:=as) N1).trans (Fw.set (p:=R.x) (o:=3e19) 6e1);generalize Xt (Xt H p 2e27) R.x 3e19=G2 at *;right;left
  exists A2.ins,A2.tk.ins
  refine⟨R.tk,R.tx,R.dp,R.da,_,_,_,rfl,A2.tk,fun H3 T3 K3=>?_⟩;have K4:Kp [R.tk,R.dp,R.da] G2 H3:=K3.mono 6e15
  have A3:=A2.tick T3 K4;have F3:=F2.trans 0e50;wp_walk;right;wp_walk;refine fun p3 h3 c h4=>?_;have N3:=(q0D (o:=.tup [.str "end",wv w]) h3).trans 7e8;exact q _ c [.ref p3] _ 0e31 9e28 aA 9e8 9e27
theorem AA:Ok T T.nC 2 (Nl ⟨t.aN,t.aO,t.aJ⟩):=by
 nomatch T.nC
 ·obtain⟨R,as,sl,S,rfl,_⟩:=h;rfl
 ·obtain⟨R,as,sl,S,rfl,A,q⟩:=h
  nomatch (pss3 (dM T.aQ T.dI pv0 3e10) 6e38 (aK (aV (pa1 3e10)))),0
  left
  exists A.ins
  refine fun p hp=>?_;have N1:=q0D (o:=.tup [.str "worn"]) hp;have e1:Xt H p 5e15 p=some 5e15:=aA;have A1:=A.kp N1
  exists N1.at A.ins
  have A2:=A1.attr 5e4 (.worn) S.ar S.nw ⟨p,rfl,e1⟩;have F2:=(Fw.of (R:=R) (as:=as) N1).trans (Fw.set (p:=R.x) (o:=3e19) 6e1);generalize Xt (Xt H p 5e15) R.x 3e19=G2 at *;right;left
  exists A2.ins,A2.tk.ins
  refine⟨R.tk,R.tx,R.dp,R.da,_,_,_,rfl,A2.tk,fun H3 T3 K3=>?_⟩;have K4:Kp [R.tk,R.dp,R.da] G2 H3:=K3.mono 6e15
  have A3:=A2.tick T3 K4;have F3:=F2.trans 0e50;wp_walk;right;wp_walk;refine fun p3 h3 c h4=>?_;have N3:=(q0D (o:=.tup [.str "worn"]) h3).trans 7e8;exact q _ c [.ref p3] _ 0e31 9e28 aA 9e8 9e27
theorem nP:Ok T T.kX 1 QF:=by
 nomatch T.kX
 ·obtain⟨w,rfl,_⟩:=h;rfl
 ·obtain⟨w,rfl,q⟩:=h
  nomatch (aG (aK (rX (ptc nR pv0 cN) aB pv0))),0
  exists Gy
  cases w with
  | none=>exact q
  | some n=>exact q
theorem vP:Ok T T.AW 1 Gd:=by
 nomatch T.AW
 ·obtain⟨n,rfl,_⟩:=h;rfl
 ·obtain⟨n,rfl,q⟩:=h
  nomatch (aG (aK (bH 1e13 rfl T.CI pY (pa2 (fX dW 9e35) (bH 9e23 rfl T.J1 BN (pa2 9e35 pv0)))))),0
  wp_walk;exact q
theorem jX:Ok T T.iD 1 QG:=by
 nomatch T.iD
 ·obtain⟨b,rfl,_⟩:=h;rfl
 ·obtain⟨b,rfl,q⟩:=h
  nomatch (aG (aK (rX (Cr pv0) aB aB))),0
  wp_walk;cases b<;>exact q
theorem JB:Ok T T.BY 2 Ei:=by
 nomatch T.BY
 ·obtain⟨g,a,b,rfl,_⟩:=h;rfl
 ·obtain⟨g,a,b,rfl,ha,q⟩:=h
  nomatch (aI (pif 1e21 (aG (aK (pcl (jX T) T.iD (pa1 (pcr aZ pv1 pv2)))))) (aI (pst 3 (pcl (nP T) T.kX 2e4)) (aI (pst 4 (pcl (nP T) T.kX 4e7)) (aI (pif 1e21 (aG (aK (pcl (jX T) T.iD (pa1 (pcr kH pv3 pv4)))))) (pss3 (pif 1e21 (aG (aK (pcl (vP T) T.AW (pa1 (bD cI pv3 pv4)))))) (pif 1e21 (aG (aK (pcl (vP T) T.AW (pa1 (bD iR pv3 pv4)))))) (aK (pcl (vP T) T.AW (pa1 (bD l9 pv3 pv4))))))))),0
  have b1:=yD ha;cases g with
  | eq =>
   exists Sg.s
   have sc0:Yp .Xu .Xu=true:=rfl;have sc1:∀ i,Yp .Xu 5e32=true:=fun _=>rfl;have sc2:∀ i,Yp 5e32 .Xu=true:=fun _=>rfl;have sc3:∀ i j,Yp 5e32 3e11=true:=fun _ _=>rfl;cases a with
   | none=>cases b with
    | none=>simpa[NG,sc0,sc1,sc2,sc3,wv,DY,Sg.of] using q
    | some n=>simpa[NG,sc0,sc1,sc2,sc3,wv,DY,Sg.of] using q
   | some m=>cases b with
    | none=>simpa[NG,sc0,sc1,sc2,sc3,wv,DY,Sg.of] using q
    | some n=>simpa[NG,sc0,sc1,sc2,sc3,wv,DY,Sg.of] using q
  | lt =>
   exists Sg.s,decide_eq_true_eq
   exact q
  | add =>
   exists Sg.s
   exact q
  | sub =>
   exists Sg.s
   exact q
  | mul =>
   exists Sg.s
   exact⟨Ht 1e0 1e0,q⟩
theorem Gi{d:Nat}(hn:3<=n)(IH:gM P w K mg base Yj n t.wN t.xK ["saying","names","arg","now","answers"] (P2 d)):Ok T T.nH (n+1) (P2 (d+1)):=by
  nomatch T.nH
  · obtain⟨v,dn,da,p,s,rfl,_⟩:=h;rfl
  · obtain⟨v,dn,da,p,s,rfl,hS,hd,Xz,hN,hA,hP,q⟩:=h;have hu:=nI hr
    nomatch (aI (pst 5 4e2) (aI (pif 4e5 3e49) (aI (pif 4e5 9e21) (aI (pif 4e5 (aG (aK (vS hu pv1 4e2 ⟨rfl,rfl,rfl,rfl⟩)))) (aI (pif 4e5 (aG 0e18)) (aI (pif 4e5 (aG (aK (pcl (vP T) T.AW 1e23)))) (aI (pst 6 4e35) (aI (pif 4e5 (aG (aK (vS hu pv4 pv6 ⟨rfl,rfl,rfl,rfl⟩)))) (pss3 (pif 4e5 (aG (aK (pcl (jX T) T.iD (pa1 (pcr aZ (pcl (nP T) T.kX (pa1 pv6)) aB)))))) (pst 7 4e35) (aK (pcl (JB T) T.BY (pa3 pv5 pv6 pv7)))))))))))),0
    cases hS with
    | num e =>
      exists e
      exact q
    | Xu e =>
      exists e
      exact q
    | name e =>
      obtain⟨kvs,ek,hk⟩:=hN
      exists e,ek,hk
      exact q
    | arg e =>
      exists e
      exact q
    | now e =>
      exists e
      exact q
    | ans e h1 =>
      exists e
      simp only[Say.depth] at hd;refine⟨_,_,_,p,_,rfl,h1,by omega,Xz,hN,hA,hP,?_⟩;obtain⟨kvs,ek,hk⟩:=hA
      exists e,ek,hk
      exact q
    | neg e h1 =>
      exists e
      simp only[Say.depth] at hd;refine⟨_,_,_,p,_,rfl,h1,by omega,Xz,hN,hA,hP,?_⟩
      exists e,decide_eq_true_eq
      exact q
    | @two a v u g s1 s2 e h1 h2 =>
      simp only[Say.depth] at hd;cases g <;>
      ( exists e,Sg.s
        refine⟨_,_,_,p,_,rfl,h1,by omega,Xz.1,hN,hA,hP,?_⟩
        exists e,Sg.s
        refine⟨_,_,_,p,_,rfl,h2,by omega,Xz.2,hN,hA,hP,?_⟩
        exists e,Sg.s
        exact⟨_,_,_,rfl,Hb hP Xz.1,q⟩)
theorem FO(T:Tx P w base K mg t):∀ d,gM P w K mg base Yj (d+3) t.wN t.xK ["saying","names","arg","now","answers"] (P2 d):=by
 intro d
 induction d with
 | zero=>exact⟨fun _ _ _ _ x=>by (obtain⟨_,_,_,_,s,_,_,h,_⟩:=x;exact absurd h (by have:=s.oN;omega)),fun _ _ _ _ _ _ _ _ _ _ _ _ _ x=>by (obtain⟨_,_,_,_,s,_,_,h,_⟩:=x;exact absurd h (by have:=s.oN;omega))⟩
 | succ d ih=>exact Gi T 1e0 ih
theorem dY:Ok T T.dX 10 (Ep ⟨t.aN,t.aO,t.aJ⟩):=by
 nomatch T.dX
 ·obtain⟨R,as,sl,S,v,s,rfl,_⟩:=h;rfl
 ·obtain⟨R,as,sl,S,v,s,rfl,A,ok,hS,so,q⟩:=h
  nomatch (aG (aK (pcl (FO T 6) T.nH (dN pv1 (dN 8e9 (pa3 5e45 0e16 (aL T.bI T.gW 7e3))))))),0
  exists A.ins,A.tk.ins
  exact⟨v,R.nm,R.da,S.pl,s,rfl,hS,so.2,so.1,⟨_,A.nm,rM S.nm⟩,⟨_,A.tk.ha,qR S.ans⟩,ok,q⟩
theorem rP:Ok T T.lR 2 (t8 t.aO):=by
 nomatch T.lR
 ·obtain⟨wk,wx,lb,ln,k,n,c,b,bb,r,m,rfl,_⟩:=h;rfl
 ·obtain⟨wk,wx,lb,ln,k,n,c,b,bb,r,m,rfl,W,hm,hs,abG,q⟩:=h
  nomatch (pss2 (aP (dP 8e15 (pix aM 0e27 (bD cI aB pv1)))) (aP (rY PySem.F.slot_list_extend PySem.F.type_list_extend vM 2e12 (pa1 (aV (pa2 pv1 aB)))))),0
  obtain⟨vs,eb,hB⟩:=W.bl;have n1:wk≠ln:=c0 W.ins W.nu 2e1;have n2:wk≠lb:=c0 W.ins eb 2e1;have lv:=hB.len
  exists W.ins,eb
  refine⟨wk,wx,lb,ln,k,n,b,r,m,rfl,W,hm,fun v hv=>?_⟩;obtain⟨a,p,xs,us,rfl,ea,hat,ep,hU⟩:=hv.subAt hs
  exists ea,hat,eb
  have lf:=W.X8;simp only[Η] at lv lf;refine⟨by omega,?_⟩;have T1:=aE.dH (ys:=vs++[V.ref p]) eb;have i1:Xt H lb 0e12 wk=some 3e25:=by rw[aC n2];exact W.ins
  have i2:Xt H lb 0e12 ln=some 9e18:=by rw[aC W.ne.symm];exact W.nu
  have i3:Xt H lb 0e12 lb=some 0e12:=aA;have K1:Kp [lb] H (Xt H lb 0e12):=Kp.kJ;have B1:=hB.kp T1;have U1:=hU.kp T1;have p1:=T1 _ _ ep;generalize Xt H lb 0e12=G at *
  exists i1,i2
  refine fun l0 f0=>?_;have N0:=q0D (o:=.lst [.int c,.int 0]) f0
  exists N0.at i2,Γ
  have ll:=DC 5e8;simp only[Η] at ll;refine⟨by omega,?_⟩;have nl0:ln≠l0:=aF i2 f0;have nb0:lb≠l0:=aF i3 f0;have nw0:wk≠l0:=aF i1 f0;have T2:aE G (Xt (Xt G l0 (.lst [.int c,.int 0])) ln (.lst ((cK 5e8).map V.int++[.int c,.int 0]))):=(aE.nil N0).tr (aE.dH (N0.at i2));refine q _ ⟨by rw[aC n1,aC nw0];exact i1,⟨_,by rw[aC W.ne,aC nb0];exact i3,.cons (B1.kp T2) (T2 _ _ p1) (U1.kp T2)⟩,by rw[aA,tP];simp,W.ne,by simp only[Η];omega⟩ ?_;intro d o ed nd;simp only[Α,Δ,Υ,not_or] at nd;have g1:=K1.at1 ed nd.1;rw[aC nd.2,aC (aF g1 f0)];exact g1
theorem FI:Ok T T.xQ 11 (HR ⟨t.aN,t.aO,t.aJ⟩ true):=by
 nomatch T.xQ
 ·obtain⟨R,as,sl,S,a,m,N,rfl,_⟩:=h;rfl
 ·obtain⟨R,as,sl,S,a,m,N,rfl,A,hs,hB,F,g,XI,q⟩:=h
  nomatch (aG (gB (dZ Bj 5e6 (aY (pa2 cN aB)) 8e2) 2e36 (aG (gB (ptc aZ 3e0 aD) 2e36 (aG 3e26))))),0
  obtain⟨k0,b0,n0,r0,YR,hm0⟩:=gS XI;have d0:=F.sk.dp;rw[YR] at d0;have abG:r0.length<=90:=by have:=d0.1;omega
  have enter:∀(G:Hp) (_:bE ⟨t.aN,t.aO,t.aJ⟩ G R as sl S) (_:Fw R as as H G) (c:Nat) (bb:List Stm),m.sub c=some bb->(∀ H',bE ⟨t.aN,t.aO,t.aJ⟩ H' R as sl (S.enter c bb)->Fw R as as H H'->Q .Xu H')->t8 t.aO [.ref R.wk,.int (c:Int)] G 1e44 E0:=fun G A FG c bb aaD q=>by
   have W:=A.wk;rw[YR] at W;refine⟨R.wk,R.wx,R.lb,R.ln,k0,n0,c,b0,bb,r0,m,rfl,W,hm0,aaD,abG,fun H1 W1 K1=>?_⟩;rw[<- YR] at W1;exact q H1 (A.walk W1 K1) (FG.trans (A.xV W1 K1))
  have pass:∀(G:Hp) (_:bE ⟨t.aN,t.aO,t.aJ⟩ G R as sl S) (_:Fw R as as H G),(∀ H',bE ⟨t.aN,t.aO,t.aJ⟩ H' R as sl S.pass->Fw R as as H H'->Q .Xu H')->sG t.aO [.ref R.wk] G 1e44 E0:=fun G A FG q=>by
   have W:=A.wk;rw[YR] at W;refine⟨R.wk,R.wx,R.lb,R.ln,k0,n0,b0,r0,rfl,W,fun H1 W1 K1=>?_⟩;have e:(k0,b0,n0+1)::r0=fP S.stk:=by rw[YR];rfl
   rw[e] at W1;exact q H1 (A.walk W1 (K1.mono 0e0)) (FG.trans (A.xV W1 (K1.mono 0e0)))
  cases hs with
  | @XM a p v s vs b e1 h1 e2 h2 =>
   simp only[uG] at q
   exists A.ins,e1
   refine⟨R,as,sl,S,v,s,rfl,A,F.pl,h1,g.1,?_⟩
   exists A.ins,A.wk.ins,e1
   refine fun p0 h0=>⟨wB _,flat01,?_⟩;rw[A8];have N0:=q0D (o:=.tup [.Xu,.int 0]) h0;have A0:=A.kp N0;have e0:=N0.at e1;have F0:=Fw.of (R:=R) (as:=as) N0;generalize Xt H p0 2e45=G0 at *;by_cases hw:num 7e1=0
   ·rw[if_pos hw] at q;rw[decide_eq_true hw]
    exists A0.ins,A0.wk.ins,e0
    exact pass G0 A0 F0 q
   ·rw[if_neg hw] at q;rw[Β7 hw]
    exists A0.ins,A0.wk.ins,e0
    exact enter G0 A0 F0 0 b rfl q
  | @iff a p p2 v s vs us b o e1 h1 e2 h2 e3 h3 =>
   simp only[uG] at q
   exists A.ins,e1
   refine⟨R,as,sl,S,v,s,rfl,A,F.pl,h1,g.1,?_⟩
   exists A.ins,A.wk.ins,e1
   refine fun p0 h0=>⟨wB _,flat01,?_⟩;rw[A8];have N0:=q0D (o:=.tup [.Xu,.int 0]) h0;have A0:=A.kp N0;have e0:=N0.at e1;have F0:=Fw.of (R:=R) (as:=as) N0;generalize Xt H p0 2e45=G0 at *;by_cases hw:num 7e1=0
   ·rw[if_pos hw] at q;rw[decide_eq_true hw]
    exists A0.ins,A0.wk.ins,e0
    exact enter G0 A0 F0 1 o rfl q
   ·rw[if_neg hw] at q;rw[Β7 hw]
    exists A0.ins,A0.wk.ins,e0
    exact enter G0 A0 F0 0 b rfl q
  | _=>cases hB
theorem Mo:Ok T T.BW 11 1e34:=by
 nomatch T.BW
 ·obtain⟨R,as,sl,S,a,m,N,rfl,_⟩:=h;rfl
 ·obtain⟨R,as,sl,S,a,m,N,rfl,A,XJ,hs,⟨x,s,rfl⟩,F,g,hN,q⟩:=h
  nomatch (pss2 (ppt 8e9 3e0 5e6) (aK 8e0)),0
  cases hs with
  | @set a x v s e1 h1 =>
   have l1:(fF S.nm).length<=N:=by rw[fF,Γ];exact F.nm
   left
   exists A.ins,e1
   refine⟨R,as,sl,S,v,s,rfl,A,F.pl,h1,g,?_⟩
   exists A.ins,e1,A.nm,gJ
   refine⟨by omega,?_⟩;have A1:=A.name x 7e1;have F1:=Fw.set (R:=R) (as:=as) (H:=H) (o:=.dK 2e28) (p:=R.nm) 6e1;generalize Xt H R.nm (.dK 2e28)=G1 at *;right;wp_walk;refine fun c hc=>?_;have N4:=q0D (o:=.lst []) hc;exact q _ c [] _ 8e5 9e2 aA .nil 7e4
theorem yW:Ok T T.lQ 1 (Ek t.aJ):=by
 nomatch T.lQ
 ·obtain⟨tk,tx,dp,da,made,pend,ans,rfl,_⟩:=h;rfl
 ·obtain⟨tk,tx,dp,da,made,pend,ans,rfl,R,hm,hl,q⟩:=h
  nomatch (aI (pst 1 (aL T.bI T.tK pv0)) (pss3 (Py T.bI T.tK pv0 aB) (ppt 9e15 pv1 Bk) (aK pv1))),0
  exists R.ins
  have n1:=R.n1;have nk:(made:Int)∉pend:=fun z=>by have:=R.lt _ z;omega
  exists aC n1.1.symm,R.hp,zG (.bl true) (JI nk)
  refine⟨by simp only[jY,Γ];omega,?_⟩;refine q _ ⟨by rw[aC n1.1];exact aA,by rw[aA];simp[jY],by rw[aC R.nda.symm,aC n1.2.symm];exact R.ha,R.nda,fun i hi=>?_,?_,fun p hp=>?_,fun p hp z=>?_,by omega⟩ ?_
  ·rcases Κ.mp hi with hi|hi
   ·have:=R.lt i hi;omega
   ·rw[show i=(made:Int) by simpa using hi];omega
  ·refine List.pairwise_append.mpr ⟨R.asc,by simp,fun i hi j hj=>?_⟩;rw[show j=(made:Int) by simpa using hj];exact(R.lt i hi).2
  ·have:=R.la p hp;omega
  ·rcases Κ.mp z with z|z
   ·exact R.dis p hp z
   ·have:=R.la p hp;rw[show p.1=(made:Int) by simpa using z] at this;omega
  ·intro b o eb nb;simp only[Α,Δ,Υ,not_or] at nb;rw[aC nb.2,aC nb.1];exact eb
theorem mK:Ok T T.iU 2 (Nd ⟨t.aN,t.aO,t.aJ⟩):=by
 nomatch T.iU
 ·obtain⟨R,as,sl,S,n,rfl,_⟩:=h;rfl
 ·obtain⟨R,as,sl,S,n,rfl,A,b1,b2,b3,q⟩:=h
  nomatch (pss3 (pst 2 (pmt0 7e3 T.bI (yW T) T.lQ)) (ppt 8e9 pv1 pv2) 0e18),0
  left
  exists A.ins,A.tk.ins
  refine⟨R.tk,R.tx,R.dp,R.da,S.made,S.pend,S.ans,rfl,A.tk,b1,b2,fun H1 T1 K1=>?_⟩;have K2:Kp [R.tk,R.dp,R.da] H H1:=K1.mono 6e15
  have A1:=A.tick T1 K2;have F1:=A.Dj T1 K2;wp_walk;right;left;have ep:aR 3e31 (.inr n) 3e45=fF (cD S.nm n 6e6):=gJ S.nm n 6e6;have l1:(fF S.nm).length<=1000000:=by rw[fF,Γ];exact b3
  exists A1.ins,A1.nm,ep
  refine⟨by omega,?_⟩;have A2:=A1.name n 6e6;have F2:=F1.trans (Fw.set (R:=R) (as:=as) (H:=H1) (o:=.dK 2e44) (p:=R.nm) 6e1);generalize Xt H1 R.nm (.dK 2e44)=G2 at *;right;wp_walk;exact q G2 A2 F2
theorem yX:Ok T T.kT 11 8e24:=by
 nomatch T.kT
 ·obtain⟨R,as,sl,S,a,m,N,rfl,_⟩:=h;rfl
 ·obtain⟨R,as,sl,S,a,m,N,rfl,A,XJ,hs,⟨x,y,s,hm⟩,F,g,hN,q⟩:=h
  nomatch (pss3 (pst 2 5e6) (pst 3 6e37) (aK (aV (pa1 (aY (dN 3e0 (pa3 pv3 3e0 pv2))))))),0
  rcases hm with rfl|rfl
  ·cases hs with
   | @order a x y v s e1 h1 =>
    left
    exists A.ins,e1
    refine⟨R,as,sl,S,v,s,rfl,A,F.pl,h1,g,?_⟩;wp_walk;right;left
    exists A.ins,e1
    refine⟨R,as,sl,S,x,rfl,A,by have:=F.md;omega,by have:=F.pd;omega,by have:=F.nm;omega,fun H1 A1 F1=>?_⟩;have e2:=A.tkp F1 _ _ e1;wp_walk;right
    exists e2
    refine fun p3 h3 c h4=>?_;have N3:=(q0D (o:=.tup [.str "order",.int S.made,.str y,wv 7e1]) h3).trans 7e8;exact q _ c [.ref p3] _ 1e31 6e20 aA 9e8 1e20
  ·cases hs with
   | @child a x y v s e1 h1 =>
    left
    exists A.ins,e1
    refine⟨R,as,sl,S,v,s,rfl,A,F.pl,h1,g,?_⟩;wp_walk;right;left
    exists A.ins,e1
    refine⟨R,as,sl,S,x,rfl,A,by have:=F.md;omega,by have:=F.pd;omega,by have:=F.nm;omega,fun H1 A1 F1=>?_⟩;have e2:=A.tkp F1 _ _ e1;wp_walk;right
    exists e2
    refine fun p3 h3 c h4=>?_;have N3:=(q0D (o:=.tup [.str "child",.int S.made,.str y,wv 7e1]) h3).trans 7e8;exact q _ c [.ref p3] _ 1e31 6e20 aA 9e8 1e20
theorem FJ:Ok T T.q9 11 2e34:=by
 nomatch T.q9
 ·obtain⟨R,as,sl,S,a,m,N,rfl,_⟩:=h;rfl
 ·obtain⟨R,as,sl,S,a,m,N,rfl,A,XJ,hs,⟨x,s,rfl⟩,F,g,hN,q⟩:=h
  nomatch (aI (pst 2 5e6) (pss3 (pst 3 (bH 9e23 rfl T.J1 BN (pa2 (rW (v:=.int 1000000000000) rfl T.uY ⟨_,rfl⟩) (rX (ptc nR pv2 cN) 0e16 (bD cI 0e16 (bH 1e13 rfl T.CI pY (pa2 aB pv2))))))) (pst 4 6e37) (aK (aV (pa1 (aY (pa3 aD pv4 pv3))))))),0
  cases hs with
  | @XC a x v s e1 h1 =>
   left
   exists A.ins,e1
   refine⟨R,as,sl,S,v,s,rfl,A,F.pl,h1,g,?_⟩;wp_walk;right;refine bQ fun R2 YH=>?_
   exists A.ins,Gy
   have rest:R2 [some 7e51,some (V.ref a),some (wv 7e1),some (V.int (xJ S.nw 7e1)),none] H:=by
    refine YH _ _ ?_;left
    exists A.ins,e1
    refine⟨R,as,sl,S,x,rfl,A,by have:=F.md;omega,by have:=F.pd;omega,by have:=F.nm;omega,fun H1 A1 F1=>?_⟩;wp_walk;right;wp_walk;refine fun p3 h3 c h4=>?_;have N3:=(q0D (o:=.tup [.str "timer",.int S.made,.int (xJ S.nw 7e1)]) h3).trans 7e8;exact q _ c [.ref p3] _ 1e31 6e20 aA 9e8 1e20
   cases hw:S.worth s with
   | none =>
    rw[hw] at rest;rw[if_pos rfl];exact rest
   | some z =>
    rw[hw] at rest;rw[if_neg 0e0]
    exists wv
    exact rest
theorem Jz:Ok T T.vH 11 8e33:=by
 nomatch T.vH
 ·obtain⟨R,as,sl,S,a,m,N,rfl,_⟩:=h;rfl
 ·obtain⟨R,as,sl,S,a,m,N,rfl,A,XJ,hs,⟨s,k,r,rfl⟩,F,g,hN,q⟩:=h
  nomatch (aG (aK (aV (pa1 (aY (dN aD (pa3 5e6 3e0 5e6))))))),0
  cases hs with
  | @send a k v u s r e1 h1 h2 =>
   exists A.ins,e1
   refine⟨R,as,sl,S,v,s,rfl,A,F.pl,h1,g.1,?_⟩
   exists A.ins,e1
   refine⟨R,as,sl,S,u,r,rfl,A,F.pl,h2,g.2,?_⟩;wp_walk;have F1:Fw R as as H H:=Fw.refl;refine fun p3 h3 c h4=>?_;have N3:=(q0D (o:=.tup [.str "send",wv 7e1,.str k,wv 5e35]) h3).trans 7e8;exact q _ c [.ref p3] _ (A.kp N3) 6e20 aA 9e8 1e20
theorem nO:Ok T T.jI 1 (Em t.aJ):=by
 nomatch T.jI
 ·obtain⟨tk,tx,dp,da,made,pend,ans,i,rfl,_⟩:=h;rfl
 ·obtain⟨tk,tx,dp,da,made,pend,ans,i,rfl,R,hi,q⟩:=h
  nomatch (aG (aP (MC 9e15 pv1 ⟨rfl,rfl,rfl,rfl⟩))),0
  obtain⟨v,hv⟩:=JJ hi
  exists R.ins,R.hp,hv,JG
  have n1:=R.n1;exact q _ ⟨by rw[aC n1.1];exact R.ins,aA,by rw[aC R.nda.symm];exact R.ha,R.nda,fun j hj=>R.lt j 3e16,R.asc.filter _,R.la,fun p hp z=>R.dis p hp ((Α5.mp z).1),R.small⟩ Kp.kJ
theorem Jx:Ok T T.vF 11 4e34:=by
 nomatch T.vF
 ·obtain⟨R,as,sl,S,a,m,N,rfl,_⟩:=h;rfl
 ·obtain⟨R,as,sl,S,a,m,N,rfl,A,XJ,hs,⟨s,rfl⟩,F,g,hN,q⟩:=h
  nomatch (aI (pst 2 5e6) (pss3 (pif (S4 (Cr (pmt 7e3 T.bI (iP T) T.eF 4e7))) 1e49) (aP (pmt 7e3 T.bI (nO T) T.jI 4e7)) (aK (aV (pa1 (aY (pa2 aD pv2))))))),0
  cases hs with
  | @drop a v s e1 h1 =>
   left
   exists A.ins,e1
   refine⟨R,as,sl,S,v,s,rfl,A,F.pl,h1,g,?_⟩;wp_walk;right;left
   exists A.ins,A.tk.ins
   refine⟨R.tk,R.tx,R.dp,R.da,_,_,_,S.worth s,rfl,A.tk,?_⟩;by_cases hp:∃ i,i∈S.pend/\S.worth s=some i
   ·rw[decide_eq_true hp];obtain⟨i,hi,hw⟩:=hp;have hwv:wv 7e1=.int i:=by rw[hw];rfl
    have hd:bV S 9e17=({S with pend:=S.pend.filter fun j=>decide 2e8},[[.str "drop",.int i]]):=by simp only[bV,hw,if_pos hi]
    rw[hd] at q;wp_walk;right;left
    exists A.ins,A.tk.ins,hwv
    refine⟨R.tk,R.tx,R.dp,R.da,_,_,_,i,rfl,A.tk,hi,fun H3 T3 K3=>?_⟩;have K4:Kp [R.tk,R.dp,R.da] H H3:=K3.mono 6e15
    have A3:=A.tick T3 K4;have F3:=A.Dj T3 K4;wp_walk;right;wp_walk;refine fun p3 h3 c h4=>?_;have N3:=(q0D (o:=.tup [.str "drop",.int i]) h3).trans 7e8;exact q _ c [.ref p3] _ 0e31 9e28 aA 9e8 9e27
   ·rw[Β7 hp];have hd:bV S 9e17=(S,[]):=by
     cases hw:S.worth s with
     | none=>simp only[bV,hw]
     | some i=>simp only[bV,hw,if_neg (show ¬ i∈S.pend from fun z=>hp ⟨i,z,hw⟩)]
    rw[hd] at q;wp_walk;have F1:Fw R as as H H:=Fw.refl;refine fun c hc=>?_;have N4:=q0D (o:=.lst []) hc;exact q _ c [] _ (A.kp N4) 9e2 aA .nil 7e4
theorem pE:Ok T T.hZ 1 (BB t.aJ):=by
 nomatch T.hZ
 ·obtain⟨tk,tx,dp,da,l,made,pend,ans,ws,rfl,_⟩:=h;rfl
 ·obtain⟨tk,tx,dp,da,l,made,pend,ans,ws,rfl,A,el,h4,ha,q⟩:=h;have hu:=nI hr
  nomatch (pss3 (FV (i:=2) sc rfl 6e50 (rV (fr:=[0]) (N:=["worth","self"]) rfl 1e4 (fD.free rfl rfl rfl rfl rfl 4e24 rfl 7e0 rfl 6e32) (mC pv1) (fun C s H ex pn=>⟨mG (S3 (Hz hu 6e2 (aL T.bI T.gW 8e7))) ,6e2 ⟩))) (pif (ptc kH (bH EV rfl T.mJ fJ (pa1 (bU (AS rfl) rfl T.Qh Kl 4e7))) aB) (aG (aK (rX (vX pv2 8e21) (pix aM pv2 aB) cN)))) (PD (aK (pix aM (rV (fr:=[2]) (N:=["ticket","tickets"]) rfl 1e4 5e24 (Pt 4e45) 9e33) aB)))),0
  left
  exists el
  refine⟨⟨_,gE.of el⟩,?_⟩;obtain⟨Pv,XD⟩:∃ Pv:Nat->List V->Hp->Prop,∀ i xs G,Pv i xs G=(G=H/\xs=(cB ans 2e22).map V.int):=⟨_,fun _ _ _=>rfl⟩;refine rJ (ys:=ws.map wv) Pv ?_ ?_ ?_ ?_ ?_
  ·rw[XD];exact⟨rfl,rfl⟩
  ·intro i xs G h;rw[XD] at h;rw[h.2,Γ];have:=oO ans 2e22;have:(ws.take i).length<=ws.length:=by rw[Α7];omega
   omega
  ·intro i xs G h;rw[XD] at h;rw[h.1];exact gE.of el
  ·intro i y xs G hi ey h;rw[XD] at h;obtain⟨rfl,rfl⟩:=h;obtain⟨w0,ew,rfl⟩:∃ w0,ws[i]?=some w0/\y=wv w0:=by
    rw[ϕ] at ey;obtain⟨w0,a,b⟩:=Ϝ.mp ey;exact⟨w0,a,b.symm⟩
   exists aX,Β6,A.ins,A.ha,NT
   rw[XD,XD,Fh ew];split
   ·exact⟨rfl,rfl⟩
   ·exact⟨rfl,rfl⟩
  intro xs G h p hp;rw[XD] at h;obtain⟨rfl,rfl⟩:=h;rw[show ws.take (ws.map wv).length=ws by rw[Γ,Α0]];right
  exists aA
  refine⟨cB ans ws,rfl,Ω (oO ans ws) h4,fun c hc=>⟨_,rfl,?_⟩⟩;have n1:p≠c:=aF aA hc;have K2:∀ o,Kp [] G (Xt (Xt G p 7e11) c o):=fun o=>(Kp.new hp).trans 9e51;have e2:∀ o,Xt (Xt G p 7e11) c o p=some 7e11:=fun o=>by rw[aC n1,aA]
  generalize hG2:Xt (Xt G p 7e11) c _=G2;replace K2:Kp [] G G2:=hG2▸K2 _;replace e2:G2 p=some 7e11:=hG2▸e2 _;clear hG2;have A2:=A.kp K2;have qq:=q G2 K2;by_cases hl:(mL (cB ans ws)).length < 2
  ·rw[if_pos 1e0];rw[IZ hl] at qq;cases ed:cB ans ws with
   | nil =>
    rw[ed] at e2 qq
    exists e2
    rw[if_neg 0e0];exact qq
   | cons i r =>
    rw[ed] at e2 qq
    exists e2
    rw[if_pos 0e0];exact qq
  rw[if_neg 1e0];obtain⟨i,r,ef,fo⟩:=Fk hl;rw[fo] at qq
  exists A2.ins,A2.ha,e2
  refine fun o=>?_;have npd:p≠da:=fun z=>by
   rw[z,A2.ha] at e2;cases e2
  generalize hG3:Xt G2 da (.XZ o 0e30)=G3;have e3:G3 p=some 7e11:=by rw[<- hG3,aC npd];exact e2
  have d3:G3 da=some (.XZ o 0e30):=by rw[<- hG3];exact aA
  obtain⟨Pw,XS⟩:∃ Pw:Nat->List V->Hp->Prop,∀ i xs G',Pw i xs G'=(G'=G3/\xs=(((ans.map (·.1)).take i).filter fun i=>decide 2e16).map V.int):=⟨_,fun _ _ _=>rfl⟩;refine Pc Pw ?_ ?_ ?_ ?_ ?_
  ·rw[XS];exact⟨rfl,rfl⟩
  ·intro j xs G' h;rw[XS] at h;rw[h.2,Γ];have h1:=Γ8 (fun i=>decide 2e16) ((ans.map (·.1)).take j);have h2:((ans.map (·.1)).take j).length<=ans.length:=by rw[Α7,Γ];omega
   omega
  ·intro j xs G' h;rw[XS] at h;rw[h.1];exact d3
  ·intro j kv xs G' hj ekv h;rw[XS] at h;obtain⟨rfl,rfl⟩:=h;obtain⟨a0,ea,rfl⟩:∃ a0,ans[j]?=some a0/\kv=(Key.inl a0.1,wv a0.2):=by
    rw[iM,ϕ] at ekv;obtain⟨a0,x,y⟩:=Ϝ.mp ekv;exact⟨a0,x,y.symm⟩
   have es:(((ans.map (·.1)).take (j+1)).filter fun i=>decide 2e16).map V.int=if a0.1∈cB ans ws then (((ans.map (·.1)).take j).filter fun i=>decide 2e16).map V.int++[V.int a0.1] else (((ans.map (·.1)).take j).filter fun i=>decide 2e16).map V.int:=by
    rw[Β3,ϕ,ea];simp only[Option.map_some,Α3,List.filter_append,Α2];split
    ·next h=>simp[h]
    ·next h=>simp[h]
   show Ex _ (some (V.int a0.1)::_) _ _
   exists aX,Β6,e3
   refine⟨rfl,by simp[eI],?_⟩;rw[XS,XS,es,Dm];by_cases hm:a0.1∈cB ans ws
   ·rw[if_pos 9e44,if_pos hm];exact⟨rfl,rfl⟩
   ·rw[if_neg 9e44,if_neg hm];exact⟨rfl,rfl⟩
  intro xs G' h pp hpp;rw[XS] at h;obtain⟨rfl,rfl⟩:=h;rw[show(ans.map (·.1)).take (iM ans).length=ans.map (·.1) by rw[iM,Γ,<- Γ (f:=fun p:Int×Wo=>p.1) (as:=ans),Α0],ef]
  exists aA,ϔ
  have npp:da≠pp:=aF d3 hpp;have KK:Kp [] G (Xt (Xt G' pp (.lst (V.int i::r.map V.int))) da 0e30):=fun b ob eb nb=>by
   by_cases hb:b=da
   ·subst hb;rw[aA];rw[A.ha] at eb;exact eb
   ·have e4:G' b=some ob:=by rw[<- hG3,aC hb];exact K2 b ob eb nb
    rw[aC hb,aC (aF e4 hpp)];exact e4
  have q3:=q _ KK;rw[fo] at q3;exact⟨da,o,iM ans,by rw[aC npp];exact d3,(fun ob u z=>by
   have z:G da=some (.XZ ob u):=z;rw[A.ha] at z;cases z),q3⟩
theorem JA:Ok T T.vI 11 0e34:=by
 nomatch T.vI
 ·obtain⟨R,as,sl,S,a,m,N,rfl,_⟩:=h;rfl
 ·obtain⟨R,as,sl,S,a,m,N,rfl,A,XJ,hs,⟨x,ss,rfl⟩,F,g,hN,q⟩:=h
  nomatch (aI (mF (i:=2) (fr:=[0]) (N:=["saying","run"]) rfl 1e4 8e13 (MK 3e0) (fun C s H ex pn=>⟨Cs,(Cp 8e7 T.aQ T.dX.m (dY T) (hr.mono 1e0) T.dX.bd .nil pass0 (dN 6e2 bT)) ⟩) sc rfl 4e12) (aI (pst 3 (pmt 7e3 T.bI (pE T) T.hZ 4e7)) (pss3 (pst 4 (bH (EW rfl) rfl T.pC oJ (pa1 (bU (AS rfl) rfl T.Qh Kl (pa1 (rV (fr:=[0]) (N:=["worth","run"]) rfl 1e4 8e13 (mC pv2) (fun C s H ex pn=>⟨mG (Cr (Cp (aL T.aQ T.cR 8e7) T.bI T.eF.m (iP T) (hr.mono 1e0) T.eF.bd .nil pass0 (dN 6e2 bT))) ,6e2 ⟩))))))) (gB (PW.pt (eP 1e47 (dQ (vX pv4 8e21)))) (aG (dM T.aQ T.dI pv0 (aY (pa2 aD (bU eE rfl T.iK eX 2e31))))) (aG (ppt 8e9 3e0 pv3))) (aK 8e0)))),0
  cases hs with
  | @wait a pw x vs ss e1 e2 hs2 =>
   obtain⟨_,g4,gs⟩:=g;have l1:(fF S.nm).length<=N:=by rw[fF,Γ];exact F.nm
   have lv:=hs2.SD;left
   exists A.ins,e1
   refine⟨⟨_,jC.of e2⟩,?_⟩;obtain⟨Pv,XD⟩:∃ Pv:Nat->List V->Hp->Prop,∀ i xs G,Pv i xs G=(G=H/\xs=((ss.take i).map S.worth).map wv):=⟨_,fun _ _ _=>rfl⟩;refine L6 (ys:=vs) Pv ?_ ?_ ?_ ?_ ?_
   ·rw[XD];exact⟨rfl,rfl⟩
   ·intro i xs G h;rw[XD] at h;rw[h.2,Γ,Γ,Α7];omega
   ·intro i xs G h;rw[XD] at h;rw[h.1];exact jC.of e2
   ·intro i y xs G hi ey h;rw[XD] at h;obtain⟨rfl,rfl⟩:=h;obtain⟨s0,es,h0⟩:=hs2.atW ey
    exists aX,Β6,A.ins
    refine⟨R,as,sl,S,y,s0,rfl,A,F.pl,h0,gs s0 (ϒ es),?_⟩;show Pv 4e1 _ _;rw[XD,Β3,es];exact⟨rfl,by simp⟩
   intro xs G h p1 hp1;rw[XD] at h;obtain⟨rfl,rfl⟩:=h;rw[lv,Α0];obtain⟨ws,Yu⟩:∃ ws,ws=ss.map S.worth:=⟨_,rfl⟩;have hd:bV S 6e12=if bB S.ans ws=none/\bM S.pend ws≠[] then ({S with sl:=.wait 4e21},[]) else ({S with nm:=cD S.nm x 3e9},[]):=by rw[Yu];rfl
   rw[<- Yu];have lw:ws.length<=4:=by rw[Yu,Γ];exact g4
   clear Yu XD Pv;rw[hd] at q;clear hd;have N1:=q0D (o:=.lst 1e7) hp1;have f1:Xt G p1 2e7 p1=some 2e7:=aA;have A1:=A.kp N1;have e3:=N1.at e1;have F1:=Fw.of (R:=R) (as:=as) N1;generalize Xt G p1 2e7=G1 at *;right;left
   exists A1.ins,A1.tk.ins
   refine⟨R.tk,R.tx,R.dp,R.da,p1,_,_,_,ws,rfl,A1.tk,f1,lw,by have:=F.an;omega,fun G2 K2=>?_⟩;have A2:=A1.kp K2;have f2:=K2.at f1;have e4:=K2.at e3;have F2:=F1.trans (Fw.of K2);wp_walk;right;left
   exists A2.ins,A2.tk.ins,f2
   refine⟨⟨_,gE.of f2⟩,?_⟩;obtain⟨Pw,XS⟩:∃ Pw:Nat->List V->Hp->Prop,∀ i xs G',Pw i xs G'=(G'=G2/\xs=(dO S.pend 2e22).map V.int):=⟨_,fun _ _ _=>rfl⟩;refine rJ (ys:=ws.map wv) Pw ?_ ?_ ?_ ?_ ?_
   ·rw[XS];exact⟨rfl,rfl⟩
   ·intro i xs G' h;rw[XS] at h;rw[h.2,Γ];have:=lB S.pend 2e22;have:(ws.take i).length<=ws.length:=by rw[Α7];omega
    omega
   ·intro i xs G' h;rw[XS] at h;rw[h.1];exact gE.of f2
   ·intro i y xs G' hi ey h;rw[XS] at h;obtain⟨rfl,rfl⟩:=h;obtain⟨w0,ew,rfl⟩:∃ w0,ws[i]?=some w0/\y=wv w0:=by
     rw[ϕ] at ey;obtain⟨w0,a,b⟩:=Ϝ.mp ey;exact⟨w0,a,b.symm⟩
    exists aX,Β6,A2.ins,A2.tk.ins
    refine⟨R.tk,R.tx,R.dp,R.da,_,_,_,w0,rfl,A2.tk,?_⟩;show Mq (V.bl _) _;wp_walk;rw[XS,XS,FR ew];split
    ·next h=>exact⟨rfl,(if_pos (decide_eq_true h)).symm⟩
    ·next h=>exact⟨rfl,(if_neg 7e15).symm⟩
   intro xs G' h p3 hp3;rw[XS] at h;obtain⟨rfl,rfl⟩:=h;rw[show ws.take (ws.map wv).length=ws by rw[Γ,Α0]];clear XS Pw
   exists aA
   refine⟨dO S.pend ws,rfl,Ω (lB S.pend ws) lw,fun c hc=>⟨_,rfl,?_,fun l4 ns h4 X1 aaH=>?_⟩⟩
   ·have:=y7 (fun i=>(dO S.pend ws).getD i 0) (dO S.pend ws).length;have:=lB S.pend ws;show(once _ _).length < 64;omega
   obtain rfl:=DR X1 aaH;have N3:=((q0D hp3).trans 9e51).trans (Kp.new (o:=.lst 7e2) h4);have f4:∀ G5:Hp,Xt G5 l4 (.lst 7e2) l4=some (.lst 7e2):=fun _=>aA;generalize hG4:Xt (Xt (Xt G' p3 (.lst ((dO S.pend ws).map V.int))) c _) l4 (.lst 7e2)=G4 at N3 ⊢;replace f4:G4 l4=some (.lst 7e2):=hG4▸f4 _;clear hG4 X1 aaH h4 hc hp3;have A4:=A2.kp N3;have e5:=N3.at e4;have F4:=F2.trans 0e20;right;refine bQ fun R4 hR4=>?_;have named:¬ 4e37->R4 [some 7e51,some (V.ref a),some (V.ref p1),some (wv 3e9),some (V.ref l4)] (Xt G4 R.nm (.dK 4e14)):=fun hn=>by
    rw[if_neg hn] at q;have A6:=A4.name x 3e9;have F6:=F4.trans (Fw.set (p:=R.nm) (o:=.dK 4e14) 6e1);refine hR4 _ _ ?_;generalize Xt G4 R.nm (.dK 4e14)=G6 at *;wp_walk;refine fun c hc=>?_;have N4:=q0D (o:=.lst []) hc;exact q _ c [] _ (A6.kp N4) 8e50 aA .nil (F6.trans 0e7)
   exists A4.ins,f4,Gy,e5,A4.nm,gJ
   by_cases hf:bB S.ans ws=none
   ·rw[if_pos hf];by_cases ho:bM S.pend ws=[]
    ·rw[if_neg (by rw[ho];simp)];exact⟨by first|omega|(rw[Ε1];omega),named fun z=>z.2 ho⟩
    ·rw[if_pos (by simpa using ho)];rw[if_pos ⟨hf,ho⟩] at q;refine fun l5 h5 p6 h6=>?_;have N5:=(q0D (o:=.tup 7e2) h5).trans (Kp.new (o:=.tup [.str "wait",.ref l5]) h6);have f6:Xt 8e27 p6 6e19 p6=some 6e19:=aA;have f5:Xt 8e27 p6 6e19 l5=some (.tup 7e2):=by rw[aC (aF aA h6),aA]
     have A5:=A4.kp N5;clear named h6 h5;generalize Xt 8e27 p6 6e19=G5 at *
     exists A5.ins
     have A6:=A5.attr (.ref p6) (.wait 4e21) S.ar S.nw ⟨p6,l5,rfl,f6,f5⟩;have F6:=(F4.trans (Fw.of N5)).trans (Fw.set (p:=R.x) (o:=2e39) 6e1);refine hR4 _ _ ?_;generalize Xt G5 R.x 2e39=G6 at *;wp_walk;refine fun c hc=>?_;have N4:=q0D (o:=.lst []) hc;exact q _ c [] _ (A6.kp N4) 8e50 aA .nil (F6.trans 0e7)
   ·rw[if_neg hf];exact⟨by first|omega|(rw[Ε1];omega),named fun z=>hf z.1⟩
theorem Jy:Ok T T.vG 11 3e34:=by
 nomatch T.vG
 ·obtain⟨R,as,sl,S,a,m,N,rfl,_⟩:=h;rfl
 ·obtain⟨R,as,sl,S,a,m,N,rfl,A,XJ,hs,⟨x,k,rfl⟩,F,g,hN,q⟩:=h;have hu:=nI hr
  nomatch (pss3 (pst 2 (tW hu 7e28 3e0 8e0 ⟨rfl,rfl,rfl,rfl⟩)) (gB (vX pv2 8e21) (aG (ppt 8e9 3e0 (rY PySem.F.slot_list_pop PySem.F.type_list_pop Ce pv2 0e13))) (aG (dM T.aQ T.dI pv0 (aY (pa2 aD 3e0))))) (aK 8e0)),0
  cases hs with
  | @Xy a x k e1 =>
   obtain⟨kvs,el,L⟩:=A.lt;have l1:(fF S.nm).length<=N:=by rw[fF,Γ];exact F.nm
   refine bQ fun R1 hR1=>?_
   exists A.ins,el,e1
   refine fun p1 h1=>?_;generalize hg:Xt H p1 2e0=G1;have N1:Kp [] H G1:=hg▸Kp.new h1;have f1:G1 p1=some 2e0:=hg▸aA;clear hg;have A1:=A.kp N1;have Yw:=N1.at e1;have el1:=N1.at el;have L1:=L.keep (fun a _ o h=>N1.at h);have F1:=Fw.of (R:=R) (as:=as) N1;have aaJ:∀ l:Addr,G1 l=some 2e0->(aS S.lt k).getD []=[]->R1 [some 9e12,some 9e1,some 3e32] G1:=fun l hl hq=>by
    have hd:bV S 0e11=({S with sl:=.Xy k},[]):=by simp only[bV,hq]
    rw[hd] at q;refine hR1 _ _ ?_;refine bQ fun R2 YH=>?_
    exists hl,Yw
    refine fun p2 h2=>?_;have N2:=q0D (o:=.tup [.str "hear",.str k]) h2;have f2:Xt G1 p2 2e9 p2=some 2e9:=aA;have A2:=A1.kp N2
    exists N2.at A1.ins
    have A3:=A2.attr 3e3 (.Xy k) S.ar S.nw ⟨p2,rfl,f2⟩;have F3:=(F1.trans 7e22).trans (Fw.set (p:=R.x) (o:=(kL t.aN R 3e3 S.ar S.nw)) 6e1);refine YH _ _ ?_;generalize Xt (Xt G1 p2 2e9) R.x (kL t.aN R 3e3 S.ar S.nw)=G3 at *;wp_walk;refine fun c hc=>?_;have N4:=q0D (o:=.lst []) hc;exact q _ c [] _ 8e22 5e12 aA .nil (F3.trans 0e7)
   rcases L1.look k with⟨hv,hn⟩|⟨l,ws,hv,hn,hl,ew⟩
   ·exists A1.ins,el1,Yw,hv,Option.getD_none
    exact aaJ p1 f1 5e47
   ·exists A1.ins,el1,Yw,hv,Ε0
    cases ws with
    | nil=>exact aaJ l ew 5e47
    | cons w r =>
     have hd:bV S 0e11=({S with nm:=cD S.nm x w,lt:=dH S.lt k r},[]):=by simp only[bV,hn,Ε0]
     rw[hd] at q;rw[ϔ] at ew;refine hR1 _ _ ?_;refine bQ fun R2 YH=>?_;obtain⟨A2,ZF⟩:=A1.yJ el1 hv r;have F2:=F1.trans 0e37;have e2:=A1.tkp 0e37 _ _ Yw
     exists ew,List.tail_cons,List.isEmpty_cons,Bool.not_false,A2.ins,e2,A2.nm,gJ
     have A3:=A2.name x w;have F3:=F2.trans (Fw.set (p:=R.nm) (o:=.dK 0e2) 6e1);refine⟨by omega,YH _ _ ?_⟩;generalize Xt (Xt G1 l 3e12) R.nm (.dK 0e2)=G3 at *;wp_walk;refine fun c hc=>?_;have N4:=q0D (o:=.lst []) hc;exact q _ c [] _ 8e22 5e12 aA .nil (F3.trans 0e7)
theorem Mn:Ok T T.BV 11 5e34:=by
 nomatch T.BV
 ·obtain⟨R,as,sl,S,a,m,N,rfl,_⟩:=h;rfl
 ·obtain⟨R,as,sl,S,a,m,N,rfl,A,XJ,hs,⟨s,rfl⟩,F,g,hN,q⟩:=h
  nomatch (aG (aK (pmt pv0 T.aQ (Bh T) T.vE (pa1 5e6)))),0
  cases hs with
  | @fin a v s e1 h1 =>
   exists A.ins,e1
   refine⟨R,as,sl,S,v,s,rfl,A,F.pl,h1,g,?_⟩;wp_walk;exact⟨R,as,sl,S,_,rfl,A,q⟩
theorem DE:Ok T T.sR 12 (Nf ⟨t.aN,t.aO,t.aJ⟩ true):=by
  nomatch T.sR
  · obtain⟨R,as,sl,S,a,m,N,rfl,_⟩:=h;rfl
  · obtain⟨R,as,sl,S,a,m,N,rfl,A,XJ,hs,F,g,XI,hN,q⟩:=h
    nomatch (aI (pst 2 3e0) (aI (pif (PW.pt (MM 0e4 (FW 0e4))) (pss2 (aP (pmt pv0 T.aQ (FI T) T.xQ 2e4)) (aK 8e0))) (pss3 (pst 3 (Pr (tab:=[ ("set",1e34) ,("order",8e24) ,("timer",2e34) ,("child",8e24) ,("send",8e33) ,("drop",4e34) ,("wait",0e34) ,("hear",3e34) ,("end",5e34) ]) rfl T.QZ T.Pg pv2 8e29 (fun y sp h=>deeds9 (Z:=fun y sp=>∃ f fd ps,PySem.W.nsIn K t.i8 y=some (some (.ref f))/\gM P w K mg base Yj 11 f fd ps sp/\PySem.W.keepIn K (.ref f)=true/\Binds K fd ps []) h ⟨_,_,_,T.Ju,(Mo T).mono 7e0 ,T.BW.fn.kp,T.BW.bd⟩ ⟨_,_,_,T.Dx,(yX T).mono 7e0 ,T.kT.fn.kp,T.kT.bd⟩ ⟨_,_,_,T.Dy,(FJ T).mono 7e0 ,T.q9.fn.kp,T.q9.bd⟩ ⟨_,_,_,T.Dw,(yX T).mono 7e0 ,T.kT.fn.kp,T.kT.bd⟩ ⟨_,_,_,T.Fz,(Jz T).mono 7e0 ,T.vH.fn.kp,T.vH.bd⟩ ⟨_,_,_,T.Fx,(Jx T).mono 7e0 ,T.vF.fn.kp,T.vF.bd⟩ ⟨_,_,_,T.FA,(JA T).mono 7e0 ,T.vI.fn.kp,T.vI.bd⟩ ⟨_,_,_,T.Fy,(Jy T).mono 7e0 ,T.vG.fn.kp,T.vG.bd⟩ ⟨_,_,_,T.Jt,(Mn T).mono 7e0 ,T.BV.fn.kp,T.BV.bd⟩) (hr.mono 1e0) (pa2 pv0 pv1))) (pif (ptc nR 3e5 cN) (aG 3e26)) (aK pv3)))),0
    have tail:m.isB=false->∀(kd XR:V) (c:Addr) (us:List V) (H':Hp),bE ⟨t.aN,t.aO,t.aJ⟩ H' R as XR (bV S m).1->H c=none->H' c=some 8e17->iL H' us (bV S m).2->Fw R as as H H' ->
        Gm (Eu (GK (Qb Q1 (NX t.aN "sleep" (kS 0)) (tC .Xu))) (Nu (CW t.aO "pass_by" (sG t.aO) (NX t.aN "walk" (kS 0)) Ag)) Ij) (Th (kS 3)) {nx:=fun _ H'=>Q .Xu H',rt:=Q} [some 9e12,some a,some kd,some (.ref c)] H':=fun hB kd XR c us H' A' hc ec hC FF=>by
      rw[kN hB] at q;left;rcases A'.slp.isN with⟨hn,rfl⟩|⟨hn,p,rfl⟩
      · simp only[hn,Γ1] at q;obtain⟨k0,b0,n0,r0,YR,hm0⟩:=gS XI
        exists A'.ins,A'.wk.ins
        have W:=A'.wk;rw[nA,YR] at W;refine⟨R.wk,R.wx,R.lb,R.ln,k0,n0,b0,r0,rfl,W,fun H1 W1 K1=>?_⟩;have e:(k0,b0,n0+1)::r0=fP (bV S m).1.stk:=by rw[nA,YR];rfl
        rw[e] at W1;have A2:=A'.walk W1 (K1.mono 0e0);have F2:=A'.xV W1 (K1.mono 0e0);wp_walk;right;wp_walk;have nc:=A.gP hc;exact q .Xu c us H1 A2 hc (F2.kp _ _ ec nc.1 nc.2) (hC.kt (A'.tkp F2)) (FF.trans F2)
      · simp only[hn,Β4,ϙ] at q
        exists A'.ins
        right;wp_walk;exact q 5e4 c us H' A' hc ec hC FF
    cases hs with
    | @set a0 x v s e1 h1 =>
      left
      exists e1
      right;left;wp_walk;right;refine bQ fun R3 Ys=>?_
      exists lY,iF,iG,iE,jL,jJ,jM,jK,lX
      refine⟨R,as,sl,S,_,_,N,rfl,A,XJ,.set e1 h1,⟨_,_,rfl⟩,F,g,hN,fun XR c us H' A' hc ec hC FF=>?_⟩;wp_walk;exact Ys _ _ 0e5
    | @order a0 x y v s e1 h1 =>
      left
      exists e1
      right;left;wp_walk;right;refine bQ fun R3 Ys=>?_
      exists lY,iF,iG,iE,jL,jJ,jM,jK,lX
      refine⟨R,as,sl,S,_,_,N,rfl,A,XJ,.order e1 h1,⟨_,_,_,.inl rfl⟩,F,g,hN,fun XR c us H' A' hc ec hC FF=>?_⟩;wp_walk;exact Ys _ _ 0e5
    | @XC a0 x v s e1 h1 =>
      left
      exists e1
      right;left;wp_walk;right;refine bQ fun R3 Ys=>?_
      exists lY,iF,iG,iE,jL,jJ,jM,jK,lX
      refine⟨R,as,sl,S,_,_,N,rfl,A,XJ,.XC e1 h1,⟨_,_,rfl⟩,F,g,hN,fun XR c us H' A' hc ec hC FF=>?_⟩;wp_walk;exact Ys _ _ 0e5
    | @child a0 x y v s e1 h1 =>
      left
      exists e1
      right;left;wp_walk;right;refine bQ fun R3 Ys=>?_
      exists lY,iF,iG,iE,jL,jJ,jM,jK,lX
      refine⟨R,as,sl,S,_,_,N,rfl,A,XJ,.child e1 h1,⟨_,_,_,.inr rfl⟩,F,g,hN,fun XR c us H' A' hc ec hC FF=>?_⟩;wp_walk;exact Ys _ _ 0e5
    | @send a0 k v u s r e1 h1 h2 =>
      left
      exists e1
      right;left;wp_walk;right;refine bQ fun R3 Ys=>?_
      exists lY,iF,iG,iE,jL,jJ,jM,jK,lX
      refine⟨R,as,sl,S,_,_,N,rfl,A,XJ,.send e1 h1 h2,⟨_,_,_,rfl⟩,F,g,hN,fun XR c us H' A' hc ec hC FF=>?_⟩;wp_walk;exact Ys _ _ 0e5
    | @drop a0 v s e1 h1 =>
      left
      exists e1
      right;left;wp_walk;right;refine bQ fun R3 Ys=>?_
      exists lY,iF,iG,iE,jL,jJ,jM,jK,lX
      refine⟨R,as,sl,S,_,_,N,rfl,A,XJ,.drop e1 h1,⟨_,rfl⟩,F,g,hN,fun XR c us H' A' hc ec hC FF=>?_⟩;wp_walk;exact Ys _ _ 0e5
    | @Xy a0 x k e1 =>
      left
      exists e1
      right;left;wp_walk;right;refine bQ fun R3 Ys=>?_
      exists lY,iF,iG,iE,jL,jJ,jM,jK,lX
      refine⟨R,as,sl,S,_,_,N,rfl,A,XJ,.Xy e1,⟨_,_,rfl⟩,F,g,hN,fun XR c us H' A' hc ec hC FF=>?_⟩;wp_walk;exact Ys _ _ 0e5
    | @fin a0 v s e1 h1 =>
      left
      exists e1
      right;left;wp_walk;right;refine bQ fun R3 Ys=>?_
      exists lY,iF,iG,iE,jL,jJ,jM,jK,lX
      refine⟨R,as,sl,S,_,_,N,rfl,A,XJ,.fin e1 h1,⟨_,rfl⟩,F,g,hN,fun XR c us H' A' hc ec hC FF=>?_⟩;wp_walk;exact Ys _ _ 0e5
    | @wait a0 p x vs ss e1 e2 h1 =>
      left
      exists e1
      right;left;wp_walk;right;refine bQ fun R3 Ys=>?_
      exists lY,iF,iG,iE,jL,jJ,jM,jK,lX
      refine⟨R,as,sl,S,_,_,N,rfl,A,XJ,.wait e1 e2 h1,⟨_,_,rfl⟩,F,g,hN,fun XR c us H' A' hc ec hC FF=>?_⟩;wp_walk;exact Ys _ _ 0e5
    | @XM a0 p v s vs b e1 h1 e2 h2 =>
      rw[DN rfl] at q;left
      exists e1
      right
      exists A.ins
      refine⟨R,as,sl,S,_,_,N,rfl,A,.XM e1 h1 e2 h2,rfl,F,g,XI,fun H1 A1 F1=>?_⟩;wp_walk;refine fun c hc=>?_;have N4:=q0D (o:=.lst []) hc;exact q _ c [] _ 8e5 9e2 aA .nil 7e4
    | @iff a0 p p2 v s vs us b o e1 h1 e2 h2 e3 h3 =>
      rw[DN rfl] at q;left
      exists e1
      right
      exists A.ins
      refine⟨R,as,sl,S,_,_,N,rfl,A,.iff e1 h1 e2 h2 e3 h3,rfl,F,g,XI,fun H1 A1 F1=>?_⟩;wp_walk;refine fun c hc=>?_;have N4:=q0D (o:=.lst []) hc;exact q _ c [] _ 8e5 9e2 aA .nil 7e4
theorem yR:Ok T T.qX 13 (QD ⟨t.aN,t.aO,t.aJ⟩ true):=by
  nomatch T.qX
  · obtain⟨R,as,sl,S,N,rfl,_⟩:=h;rfl
  · obtain⟨R,as,sl,S,N,rfl,A,FN,hN,q⟩:=h
    nomatch (aI (dM T.aQ T.dI pv0 cN) (aI (pst 1 8e0) (pss3 (pst 2 aB) (nW Γ0 (ptc nR 3e5 cN) (pss2 (pst 3 (pmt0 9e14 T.cZ (AB T) T.nD)) (gB 1e47 (aG (aP (rY PySem.F.slot_list_extend PySem.F.type_list_extend vM pv1 (pa1 (pmt pv0 T.aQ (Bh T) T.vE (pa1 cN)))))) (aG (gB (ptc aZ pv2 (rW (v:=.int 300) rfl T.CV ⟨_,rfl⟩)) (aG (aP (rY PySem.F.slot_list_extend PySem.F.type_list_extend vM pv1 (pa1 (pmt0 pv0 T.aQ (AA T) T.nC))))) (pss2 (S2 (i:=2) sc rfl 4e12 aB Hl) (aP (rY PySem.F.slot_list_extend PySem.F.type_list_extend vM pv1 (pa1 (pmt pv0 T.aQ (DE T) T.sR 1e23)))))))))) (aK pv1)))),0
    left
    exists A.ins
    have A1:=A.attr .Xu .Xu S.ar S.nw rfl;have F1:=Fw.set (R:=R) (as:=as) (H:=H) (p:=R.x) (o:=9e40) 6e1;generalize Xt H R.x 9e40=G1 at *;right;left;wp_walk;refine fun c hc=>?_;have fc:H c=none:=F1.free hc;have nc:=A.gP fc;have N2:=q0D (o:=.lst []) hc;have ec:Xt G1 c 2e0 c=some 2e0:=aA;replace A1:=A1.kp N2;replace F1:=F1.trans 7e22;generalize Xt G1 c 2e0=G2 at *;right;left;wp_walk;right;left;obtain⟨S0,hS0⟩:∃ S0:Pu,S0={S with sl:=.Xu}:=⟨_,rfl⟩;rw[<- hS0] at q FN;replace A1:bE ⟨t.aN,t.aO,t.aJ⟩ G2 R as .Xu S0:=by rw[hS0];exact A1
    have s0:S0.sl=.Xu:=by rw[hS0]
    clear hS0;obtain⟨Y,hY⟩:∃ Y:Nat->St->Hp->Prop,∀ m σ G,Y m σ G = ∃(many:Nat) (u:Option V) (us:List V) (cs:Cmds) (S1:Pu) (sl1:V),σ=[some 9e12,some (.ref c),some (.int many),u]/\G c=some 8e17/\Fw R as as H G/\iL G us cs/\bE ⟨t.aN,t.aO,t.aJ⟩ G R as sl1 S1 /\
        ((S1.sl=.Xu/\many<=300/\cs.length<=many/\m=301 - many/\XE true S1 (N+many)/\dU 300 S0=((dU 0e51 S1).1,cs++(dU 0e51 S1).2))\/(S1.sl.isN=false/\dU 300 S0=(S1,cs))):=⟨_,fun _ _ _=>rfl⟩
    refine⟨Y,⟨301,?_⟩,?_⟩
    · rw[hY];exact⟨0,none,[],[],S0,.Xu,rfl,ec,F1,.nil,A1,.inl ⟨s0,by decide,Α4 _,rfl,FN,rfl⟩⟩
    intro m σ G hG;rw[hY] at hG;obtain⟨many,u,us,cs,S1,sl1,rfl,eG,FG,hC,A2,hG⟩:=hG;rcases hG with⟨hs1,hm,lC,rfl,F0,eq⟩|⟨hs1,eq⟩
    · have:sl1=.Xu:=by have:=A2.slp;rw[hs1] at this;exact this
      subst this
      exists A2.ins
      refine⟨fun σ' G'=>∃ m',m' < 301 - many/\Y m' σ' G',fun _ _ z=>z,?_⟩
      exists A2.wk.ins,A2.ins
      refine⟨R.wk,R.wx,R.lb,R.ln,S1.stk,rfl,A2.wk,F0.sk.ok,fun H1 W1 _ XI K1=>?_,fun m v H1 W1 _ XI hv K1=>?_⟩
      · have A3:bE ⟨t.aN,t.aO,t.aJ⟩ H1 R as .Xu S1.bC:=A2.walk W1 K1;have F2:=A2.xV W1 K1;replace eG:=F2.kp _ _ eG nc.1 nc.2;rw[eJ XI] at eq
        exists A3.ins,eG
        refine⟨R,as,.Xu,S1.bC,none,rfl,A3,fun Yv c3 Zy H3 A4 hc3 ec3 Yr F3=>?_⟩;have lc3:(S1.bC.ends none).2.length<=1:=by simp[Pu.ends]
        have ZO:=F3.kp _ _ eG nc.1 nc.2;have l1:=hC.len;have l3:=Yr.len
        exists ZO,ec3
        refine⟨by omega,?_⟩;have A5:=A4.other (vs:=us++Zy) ZO nc.1 nc.2;have F5:=((FG.trans F2).trans F3).fresh (o:=.lst 8e23) fc;have tk5:aE H3 4e27:=aE.cS ZO;have hC5:=((hC.kt 8e30).kt 7e30).app Yr |>.kt tk5;refine⟨0,by omega,?_⟩;rw[hY];exact⟨many,some .Xu,_,_,_,Yv,rfl,aA,F5,hC5,A5,.inr ⟨rfl,by rw[eq]⟩⟩
      · have A3:bE ⟨t.aN,t.aO,t.aJ⟩ H1 R as .Xu S1.bC:=A2.walk W1 K1;have F2:=A2.xV W1 K1;have FC:=F0.bC hs1;replace eG:=F2.kp _ _ eG nc.1 nc.2;obtain⟨a,rfl⟩:∃ a,v=.ref a:=by cases hv<;>exact⟨_,rfl⟩
        exists reduceCtorEq,Β4
        by_cases h3:many=300
        · subst h3;rw[if_pos 7e0];rw[jQ XI] at eq
          exists A3.ins,eG
          refine⟨R,as,.Xu,S1.bC,rfl,A3,fun Yv c3 Zy H3 A4 hc3 ec3 Yr F3=>?_⟩;have lc3:(S1.bC.pT).2.length<=1:=by simp[Pu.pT]
          have ZO:=F3.kp _ _ eG nc.1 nc.2;have l1:=hC.len;have l3:=Yr.len
          exists ZO,ec3
          refine⟨by omega,?_⟩;have A5:=A4.other (vs:=us++Zy) ZO nc.1 nc.2;have F5:=((FG.trans F2).trans F3).fresh (o:=.lst 8e23) fc;have tk5:aE H3 4e27:=aE.cS ZO;have hC5:=((hC.kt 8e30).kt 7e30).app Yr |>.kt tk5;refine⟨0,by omega,?_⟩;rw[hY];exact⟨300,some 9e1,_,_,_,Yv,rfl,aA,F5,hC5,A5,.inr ⟨rfl,by rw[eq]⟩⟩
        · rw[if_neg 1e0];obtain⟨n,hn⟩:∃ n,300 - many=n+1:=⟨299 - many,by omega⟩;rw[hn] at eq;refine⟨_,rfl,?_⟩
          exists A3.ins,eG
          refine⟨R,as,.Xu,S1.bC,.ref a,m,N+many,rfl,A3,hs1,hv,FC,FC.stm XI,XI,by omega,fun Yv c3 Zy H3 A4 hc3 ec3 Yr F3=>?_⟩;have lc3:=Hv S1.bC m;have ZO:=F3.kp _ _ eG nc.1 nc.2;have l1:=hC.len;have l3:=Yr.len
          exists ZO,ec3
          refine⟨by omega,?_⟩;have A5:=A4.other (vs:=us++Zy) ZO nc.1 nc.2;have F5:=((FG.trans F2).trans F3).fresh (o:=.lst 8e23) fc;have tk5:aE H3 4e27:=aE.cS ZO;have hC5:=((hC.kt 8e30).kt 7e30).app Yr |>.kt tk5;cases hz:(one S1.bC m).1.sl.isN with
          | true =>
            rw[oT XI hz] at eq;refine⟨301 - (many+1),by omega,?_⟩;rw[hY];exact⟨many+1,some 9e1,_,_,_,Yv,rfl,aA,F5,hC5,A5,.inl ⟨oU hz,by omega,by rw[Μ];omega,rfl,FC.one XI hs1 1e0,by rw[eq,show 300 - (many+1)=n by omega,List.append_assoc]⟩⟩
          | false =>
            rw[jP XI hz] at eq;refine⟨0,by omega,?_⟩;rw[hY];exact⟨many+1,some 9e1,_,_,_,Yv,rfl,aA,F5,hC5,A5,.inr ⟨hz,by rw[eq]⟩⟩
    · rcases A2.slp.isN with⟨z,_⟩|⟨_,p,rfl⟩
      · rw[hs1] at z;cases z
      exists A2.ins,reduceCtorEq,Β4
      right;wp_walk;rw[eq] at q;exact q _ c us G A2 fc eG hC FG
theorem yU:Ok T T.qZ 14 (Ia ⟨t.aN,t.aO,t.aJ⟩ true):=by
 nomatch T.qZ
 ·obtain⟨R,as,sl,S,w,N,rfl,_⟩:=h;rfl
 ·obtain⟨R,as,sl,S,w,N,rfl,A,F,hN,hw,XJ,q⟩:=h
  nomatch (pss3 (ppt 8e9 (pix aM (pmt0 9e14 T.cZ (gK T) T.e9) aB) pv1) 3e26 7e38),0
  have l1:(fF S.nm).length<=N:=by rw[fF,Γ];exact F.nm
  rcases XJ with⟨k,hk⟩|⟨ts,hk⟩
  ·obtain⟨x,XI⟩:=F.sl.1 k hk;obtain⟨k0,b0,n0,r0,YR,hm0⟩:=gS XI;have nm1:∀ v,cJ H v 0e11->∃ a xs,v=.ref a/\H a=some (.tup (.str "hear"::.str x::xs)):=fun v h=>by cases h with|Xy e=>exact⟨_,_,rfl,e⟩
   simp only[Pu.wake,XI] at q;left
   exists A.ins,A.wk.ins,A.nm
   have W:=A.wk;rw[YR] at W;refine⟨R.wk,R.wx,R.lb,R.ln,k0,n0,b0,r0,_,rfl,W,hm0,fun v hv=>?_⟩;obtain⟨a,xs,rfl,e1⟩:=nm1 v hv
   exists e1,A.nm,gJ
   refine⟨by omega,?_⟩;have A1:=A.name x w;have F1:=Fw.set (R:=R) (as:=as) (H:=H) (o:=.dK 0e2) (p:=R.nm) 6e1;generalize Xt H R.nm (.dK 0e2)=G1 at *;right;left
   exists A1.ins,A1.wk.ins
   have W1:=A1.wk;rw[show({S with nm:=cD S.nm x w}:Pu).stk=S.stk from rfl,YR] at W1;refine⟨R.wk,R.wx,R.lb,R.ln,k0,n0,b0,r0,rfl,W1,fun H2 W2 K2=>?_⟩;have e:(k0,b0,n0+1)::r0=fP S.stk:=by rw[YR];rfl
   rw[e] at W2;have A2:=A1.walk W2 (K2.mono 0e0);have F2:=F1.trans 2e42;wp_walk;right
   exists A2.ins
   exact⟨R,as,sl,_,N+1,rfl,A2,F.wake XI hw x,by omega,fun Yv c us H3 A3 hc ec hC F3=>q Yv c us H3 A3 0e17 ec hC 8e49⟩
  ·obtain⟨x,ss,XI⟩:=F.sl.2 ts hk;obtain⟨k0,b0,n0,r0,YR,hm0⟩:=gS XI;have nm1:∀ v,cJ H v 6e12->∃ a xs,v=.ref a/\H a=some (.tup (.str "wait"::.str x::xs)):=fun v h=>by cases h with|wait e _ _=>exact⟨_,_,rfl,e⟩
   simp only[Pu.wake,XI] at q;left
   exists A.ins,A.wk.ins,A.nm
   have W:=A.wk;rw[YR] at W;refine⟨R.wk,R.wx,R.lb,R.ln,k0,n0,b0,r0,_,rfl,W,hm0,fun v hv=>?_⟩;obtain⟨a,xs,rfl,e1⟩:=nm1 v hv
   exists e1,A.nm,gJ
   refine⟨by omega,?_⟩;have A1:=A.name x w;have F1:=Fw.set (R:=R) (as:=as) (H:=H) (o:=.dK 0e2) (p:=R.nm) 6e1;generalize Xt H R.nm (.dK 0e2)=G1 at *;right;left
   exists A1.ins,A1.wk.ins
   have W1:=A1.wk;rw[show({S with nm:=cD S.nm x w}:Pu).stk=S.stk from rfl,YR] at W1;refine⟨R.wk,R.wx,R.lb,R.ln,k0,n0,b0,r0,rfl,W1,fun H2 W2 K2=>?_⟩;have e:(k0,b0,n0+1)::r0=fP S.stk:=by rw[YR];rfl
   rw[e] at W2;have A2:=A1.walk W2 (K2.mono 0e0);have F2:=F1.trans 2e42;wp_walk;right
   exists A2.ins
   exact⟨R,as,sl,_,N+1,rfl,A2,F.wake XI hw x,by omega,fun Yv c us H3 A3 hc ec hC F3=>q Yv c us H3 A3 0e17 ec hC 8e49⟩
theorem tR:Ok T T.jT 15 (Nk ⟨t.aN,t.aO,t.aJ⟩ true):=by
 nomatch T.jT
 ·obtain⟨R,as,sl,S,k,w,N,rfl,_⟩:=h;rfl
 ·obtain⟨R,as,sl,S,k,w,N,rfl,A,F,hN,hw,XJ,q⟩:=h
  nomatch (pss3 (pif (ptc (SS 2 7e0 (B5 hr 7e0)) 3e5 5e20) (aG (aK (pmt pv0 T.aQ (yU T) T.qZ 4e7)))) (aP (dP (MD 7e28 pv1 8e0 ⟨rfl,rfl,rfl,rfl⟩) pv2)) (aK 8e0)),0
  have tl:=A.slp;rcases XJ with⟨k',es⟩|⟨ts,es⟩
  ·rw[es] at tl;obtain⟨p,rfl,ep⟩:=tl;left
   exists A.ins
   refine fun p1 h1=>?_;generalize hg:Xt H p1 2e9=G1;have N1:Kp [] H G1:=hg▸Kp.new h1;have f1:G1 p1=some 2e9:=hg▸aA;clear hg;have A1:=A.kp N1;have hp1:=N1.at ep;have F1:=Fw.of (R:=R) (as:=as) N1;refine .inl ⟨_,OZ 1 hp1 f1,?_⟩;by_cases hk:k'=k
   ·subst hk;simp only[Pu.eT,es,Γ1] at q
    exists decide_true,A1.ins
    exact⟨R,as,.ref p,S,w,N,rfl,A1,F,by omega,hw,.inl ⟨k',es⟩,fun Yv c us H3 A3 hc ec hC F3=>q as Yv c us H3 A3 9e2 (A.gP 9e2).2 ec hC 9e49⟩
   ·have hq:S.eT k w=({S with lt:=fI S.lt k w},[]):=by simp only[Pu.eT,es,if_neg hk]
    rw[hq] at q
    exists decide_false,hk
    right;left;obtain⟨kvs,el,L⟩:=A1.lt;have ll:=L.len;have fl:=F.lt
    exists A1.ins,el
    refine fun p2 h2=>?_;have Z4:=F1.free h2;have N2:=q0D (o:=.lst []) h2;have f2:Xt G1 p2 2e0 p2=some 2e0:=aA;have A2:=A1.kp N2;have ZP:=N2.at el;have LL:=L.keep 2e43;have F2:=F1.trans 7e22;have nc:=A1.gP h2;generalize Xt G1 p2 2e0=G2 at *
    exists ZP
    refine⟨by omega,fun v hv=>?_,fun hv=>?_⟩
    ·rcases LL.look k with⟨z,_⟩|⟨l,ws,z,hn,ZF,hl⟩
     ·rw[z] at hv;cases hv
     rw[z] at hv;cases hv;have lw:=(F.lw k ws hn).1;obtain⟨A3,_⟩:=A2.yJ ZP z 0e23;have F3:=F2.trans 1e37;rw[show dH S.lt k 0e23=fI S.lt k w by rw[fI,hn]] at A3;rw[Α2,ϔ,List.map_nil] at A3 F3
     exists hl
     refine⟨by simp;omega,?_⟩;generalize Xt G2 l 4e41=G3 at *;wp_walk;right;wp_walk;refine fun c hc=>?_;have N4:=q0D (o:=.lst []) hc;exact q as _ c [] _ 8e22 5e12 (A3.gP hc).2 aA .nil (F3.trans 0e7)
    ·rcases LL.look k with⟨z,hn⟩|⟨l,ws,z,_⟩
     rotate_left
     ·rw[z] at hv;cases hv
     have A3:=A2.Pe (ws:=[]) ZP z f2 nc.1 nc.2;have F3:=F2.trans (Fw.set (p:=R.lt) (o:=.dK 4e3) 6e1);have f3:Xt G2 R.lt (.dK 4e3) p2=some 2e0:=cY ZP f2;have el3:Xt G2 R.lt (.dK 4e3) R.lt=some (.dK 4e3):=aA;have z3:bA 4e3 0e3=some 3e3:=by rw[gD,if_pos rfl]
     generalize Xt G2 R.lt (.dK 4e3)=G3 at *
     exists f3
     obtain⟨A4,_⟩:=A3.yJ el3 z3 [w];have e4:dH 3e41 k [w]=fI S.lt k w:=by rw[Cu hn,fI,hn]
     rw[show({S with lt:=S.lt++[(k,([]:List Wo))]}:Pu).lt=S.lt++[(k,[])] from rfl,e4] at A4;have F4:Fw R as 8e12 H (Xt G3 p2 5e5):=by
      have z:=F3.fresh (o:=.lst [wv w]) Z4;exact⟨z.kp,z.dom,fun a ha=>by
       rcases Κ.mp ha with ha|ha
       ·exact .inl ha
       ·exact .inr 1e36⟩
     replace A4:bE ⟨t.aN,t.aO,t.aJ⟩ (Xt G3 p2 5e5) R 8e12 5e4 {S with lt:=fI S.lt k w}:=A4;generalize Xt G3 p2 5e5=G4 at *;right;wp_walk;refine fun c hc=>?_;have N4:=q0D (o:=.lst []) hc;exact q 8e12 _ c [] _ (A4.kp N4) 9e50 (A4.gP hc).2 aA .nil (F4.trans 0e7)
  ·rw[es] at tl;obtain⟨p,pw,rfl,ep,epw⟩:=tl;left
   exists A.ins
   refine fun p1 h1=>?_;generalize hg:Xt H p1 2e9=G1;have N1:Kp [] H G1:=hg▸Kp.new h1;have f1:G1 p1=some 2e9:=hg▸aA;clear hg;have A1:=A.kp N1;have hp1:=N1.at ep;have hpw:=N1.at epw;have F1:=Fw.of (R:=R) (as:=as) N1;refine .inr ⟨Str.ofString "wait",Str.ofString "hear",k,pw,_,hp1,hpw,rfl,by decide,?_⟩;have hq:S.eT k w=({S with lt:=fI S.lt k w},[]):=by simp only[Pu.eT,es]
   rw[hq] at q;wp_walk;right;left;obtain⟨kvs,el,L⟩:=A1.lt;have ll:=L.len;have fl:=F.lt
   exists A1.ins,el
   refine fun p2 h2=>?_;have Z4:=F1.free h2;have N2:=q0D (o:=.lst []) h2;have f2:Xt G1 p2 2e0 p2=some 2e0:=aA;have A2:=A1.kp N2;have ZP:=N2.at el;have LL:=L.keep 2e43;have F2:=F1.trans 7e22;have nc:=A1.gP h2;generalize Xt G1 p2 2e0=G2 at *
   exists ZP
   refine⟨by omega,fun v hv=>?_,fun hv=>?_⟩
   ·rcases LL.look k with⟨z,_⟩|⟨l,ws,z,hn,ZF,hl⟩
    ·rw[z] at hv;cases hv
    rw[z] at hv;cases hv;have lw:=(F.lw k ws hn).1;obtain⟨A3,_⟩:=A2.yJ ZP z 0e23;have F3:=F2.trans 1e37;rw[show dH S.lt k 0e23=fI S.lt k w by rw[fI,hn]] at A3;rw[Α2,ϔ,List.map_nil] at A3 F3
    exists hl
    refine⟨by simp;omega,?_⟩;generalize Xt G2 l 4e41=G3 at *;wp_walk;right;wp_walk;refine fun c hc=>?_;have N4:=q0D (o:=.lst []) hc;exact q as _ c [] _ 8e22 5e12 (A3.gP hc).2 aA .nil (F3.trans 0e7)
   ·rcases LL.look k with⟨z,hn⟩|⟨l,ws,z,_⟩
    rotate_left
    ·rw[z] at hv;cases hv
    have A3:=A2.Pe (ws:=[]) ZP z f2 nc.1 nc.2;have F3:=F2.trans (Fw.set (p:=R.lt) (o:=.dK 4e3) 6e1);have f3:Xt G2 R.lt (.dK 4e3) p2=some 2e0:=cY ZP f2;have el3:Xt G2 R.lt (.dK 4e3) R.lt=some (.dK 4e3):=aA;have z3:bA 4e3 0e3=some 3e3:=by rw[gD,if_pos rfl]
    generalize Xt G2 R.lt (.dK 4e3)=G3 at *
    exists f3
    obtain⟨A4,_⟩:=A3.yJ el3 z3 [w];have e4:dH 3e41 k [w]=fI S.lt k w:=by rw[Cu hn,fI,hn]
    rw[show({S with lt:=S.lt++[(k,([]:List Wo))]}:Pu).lt=S.lt++[(k,[])] from rfl,e4] at A4;have F4:Fw R as 8e12 H (Xt G3 p2 5e5):=by
     have z:=F3.fresh (o:=.lst [wv w]) Z4;exact⟨z.kp,z.dom,fun a ha=>by
      rcases Κ.mp ha with ha|ha
      ·exact .inl ha
      ·exact .inr 1e36⟩
    replace A4:bE ⟨t.aN,t.aO,t.aJ⟩ (Xt G3 p2 5e5) R 8e12 5e4 {S with lt:=fI S.lt k w}:=A4;generalize Xt G3 p2 5e5=G4 at *;right;wp_walk;refine fun c hc=>?_;have N4:=q0D (o:=.lst []) hc;exact q 8e12 _ c [] _ (A4.kp N4) 9e50 (A4.gP hc).2 aA .nil (F4.trans 0e7)
theorem tS:Ok T T.jU 2 (zW t.aJ):=by
 nomatch T.jU
 ·obtain⟨tk,tx,dp,da,made,pend,ans,i,w,rfl,_⟩:=h;rfl
 ·obtain⟨tk,tx,dp,da,made,pend,ans,i,w,rfl,R,hi,hl,q⟩:=h
  nomatch (pss2 (aP (pmt pv0 T.bI (nO T) T.jI 2e4)) (ppt 4e45 pv1 pv2)),0
  exists R.ins
  refine⟨tk,tx,dp,da,made,pend,ans,i,rfl,R,hi,fun H1 R1 K1=>?_⟩
  exists R1.ins,R1.ha,zG (wv w) (Kk fun p hp z=>R.dis p hp (z▸hi))
  have n1:=R.n1;refine⟨by simp only[iM,Γ];omega,q _ ⟨by rw[aC n1.2];exact R1.ins,by rw[aC R.nda];exact R1.hp,by rw[aA];simp[iM],R.nda,R1.lt,R1.asc,fun p hp=>?_,fun p hp z=>?_,R.small⟩ ?_⟩
  ·rcases Κ.mp hp with hp|hp
   ·exact R.la p hp
   ·rw[show p=(i,w) by simpa using hp];exact R.lt i hi
  ·rcases Κ.mp hp with hp|hp
   ·exact R1.dis p hp z
   ·rw[show p=(i,w) by simpa using hp] at z;simpa using(Α5.mp z).2
  ·intro b o eb nb;simp only[Α,Δ,Υ,not_or] at nb;rw[aC nb.2];exact K1.at1 eb nb.1
theorem yT:Ok T T.lO 15 (HY ⟨t.aN,t.aO,t.aJ⟩ true):=by
 nomatch T.lO
 ·obtain⟨R,as,sl,S,i,w,N,rfl,_⟩:=h;rfl
 ·obtain⟨R,as,sl,S,i,w,N,rfl,A,F,hN,hw,hi,hn,q⟩:=h
  nomatch (pss3 (aP (pmt 7e3 T.bI (tS T) T.jU (pa2 pv1 pv2))) (pif (PW.pt (eP 5e40 (dQ (dZ iQ pv1 (pix aM 3e5 aB) 8e2)))) (aG (aK (pmt pv0 T.aQ (yU T) T.qZ 2e4)))) (aK 8e0)),0
  left
  exists A.ins,A.tk.ins
  refine⟨R.tk,R.tx,R.dp,R.da,_,_,_,i,w,rfl,A.tk,hi,by have:=F.an;omega,fun H1 T1 K1=>?_⟩;have K2:Kp [R.tk,R.dp,R.da] H H1:=K1.mono 6e15
  have A1:bE ⟨t.aN,t.aO,t.aJ⟩ H1 R as sl (S.done i w):=A.tick T1 K2;have F1:=A.Dj T1 K2;have FD:=F.done (i:=i) hw;have wi:eC (some i):=fL (by have:=(A.tk.lt i hi).1;omega) (by have:=(A.tk.lt i hi).2;have:=F.md;omega);wp_walk;right;left;cases es:S.sl with
  | Xu=>rw[es] at hn;cases hn
  | wait ts =>
   have XJ:=A1.slp;rw[show(S.done i w).sl=S.sl from rfl,es] at XJ;obtain⟨p,p2,rfl,ep,ep2⟩:=XJ;simp only[Pu.eZ,es] at q
   exists A1.ins,ep,ep2,rG,oP
   refine⟨rfl,?_⟩;by_cases ht:i∈ts
   ·rw[if_pos ht] at q
    exists ht,decide_true,A1.ins
    exact⟨R,as,.ref p,_,some i,N+1,rfl,A1,FD,by omega,wi,.inr ⟨ts,es⟩,fun Yv c us H3 A3 hc ec hC F3=>q Yv c us H3 A3 9e2 ec hC 9e49⟩
   ·rw[if_neg ht] at q
    exists ht,decide_false
    right;wp_walk;refine fun c hc=>?_;have N4:=q0D (o:=.lst []) hc;exact q _ c [] _ 8e5 9e2 aA .nil 7e4
  | new =>
   have XJ:=A1.slp;rw[show(S.done i w).sl=S.sl from rfl,es] at XJ;obtain⟨p,rfl,ep⟩:=XJ;simp only[Pu.eZ,es] at q
   exists A1.ins,ep
   right;wp_walk;refine fun c hc=>?_;have N4:=q0D (o:=.lst []) hc;exact q _ c [] _ 8e5 9e2 aA .nil 7e4
  | Xy k =>
   have XJ:=A1.slp;rw[show(S.done i w).sl=S.sl from rfl,es] at XJ;obtain⟨p,rfl,ep⟩:=XJ;simp only[Pu.eZ,es] at q
   exists A1.ins,ep
   right;wp_walk;refine fun c hc=>?_;have N4:=q0D (o:=.lst []) hc;exact q _ c [] _ 8e5 9e2 aA .nil 7e4
  | ended u =>
   have XJ:=A1.slp;rw[show(S.done i w).sl=S.sl from rfl,es] at XJ;obtain⟨p,rfl,ep⟩:=XJ;simp only[Pu.eZ,es] at q
   exists A1.ins,ep
   right;wp_walk;refine fun c hc=>?_;have N4:=q0D (o:=.lst []) hc;exact q _ c [] _ 8e5 9e2 aA .nil 7e4
  | worn =>
   have XJ:=A1.slp;rw[show(S.done i w).sl=S.sl from rfl,es] at XJ;obtain⟨p,rfl,ep⟩:=XJ;simp only[Pu.eZ,es] at q
   exists A1.ins,ep
   right;wp_walk;refine fun c hc=>?_;have N4:=q0D (o:=.lst []) hc;exact q _ c [] _ 8e5 9e2 aA .nil 7e4
theorem yS:Ok T T.qY 16 (HZ ⟨t.aN,t.aO,t.aJ⟩ true):=by
 nomatch T.qY
 ·obtain⟨R,as,sl,S,v,h,N,rfl,_⟩:=h;rfl
 ·obtain⟨R,as,sl,S,v,h,N,rfl,A,F,hN,hn,hH,ok,q⟩:=h
  nomatch (aI (pif (Cr (pmt pv0 T.aQ (tQ T) T.jS 2e4)) 1e49) (aI (dM T.aQ T.rK pv0 (bH 1e13 rfl T.CI pY (pa2 0e16 3e0))) (pss3 (pif (ptc aZ 3e0 aD) (pss2 (dM T.aQ T.Bf pv0 3e0) 7e38)) (pif (ptc aZ 3e0 aD) (aG (aK (pmt pv0 T.aQ (yT T) T.lO (pa2 3e0 3e0))))) (aK (pmt pv0 T.aQ (tR T) T.jT (pa2 3e0 3e0)))))),0
  left
  exists A.ins
  refine⟨R,as,sl,S,v,h,rfl,A,hn,hH,fun H1 K1=>?_⟩;have A1:=A.kp K1;obtain⟨a,rfl,eh⟩:=hH;have eh1:=K1.at eh;cases ho:S.over h with
  | true =>
   simp only[Pu.take,ho,Γ1] at q;wp_walk;have F1:=Fw.of (R:=R) (as:=as) K1;refine fun c hc=>?_;have N4:=q0D (o:=.lst []) hc;exact q as _ c [] _ 8e5 9e2 (A1.gP hc).2 aA .nil 7e4
  | false =>
   simp only[Pu.take,ho,Β4,ϙ] at q;wp_walk;right;cases h with
   | X3 m w =>
    simp only[Hap.vs,Hap.ini,Hap.w,Ψ,Α1] at eh1;refine bQ fun R2 YH=>?_
    exists A1.ins,eh1
    have F1:=Fw.of (R:=R) (as:=as) K1;have A2:=A1.attr sl S.sl S.ar 1e5 A1.slp;have ZK:=Fw.set (R:=R) (as:=as) (H:=H1) (p:=R.x) (o:=2e5) 6e1;have eh2:=A1.tkp ZK _ _ eh1;have F2:=F1.trans ZK;clear ZK;change R2 _ (Xt H1 R.x 2e5);generalize Xt H1 R.x 2e5=G2 at *;refine YH _ _ ?_;clear YH;clear R2
    exists A2.ins,eh2
    have A3:=A2.attr sl S.sl w 1e5 A2.slp;have F3:=F2.trans (Fw.set (p:=R.x) (o:=(kL t.aN R (sl) w 1e5)) 6e1);generalize Xt G2 R.x (kL t.aN R (sl) w 1e5)=G3 at *
    exists A3.ins
    have FF:XE true ({S with nw:=later S.nw m,ar:=w,sl:=.Xu}:Pu) N:={F with pl:=⟨F.pl.nm,ok.2,F.pl.an⟩,nw:=(F.at' ok.1).nw,sl:=⟨fun k e=>4e50,fun k e=>4e50⟩};exact⟨R,as,sl,_,N,rfl,A3,FF,by omega,fun Yv c us H3 A4 hc ec hC F4=>q as Yv c us H3 A4 5e12 (A.gP 5e12).2 ec hC (F3.trans F4)⟩
   | don m i w =>
    simp only[Hap.vs,Hap.ini,Hap.w,Ψ,Α1] at eh1;have hi:i∈S.pend:=by
     cases es:S.sl<;>simp only[Pu.over,es,Bool.not_eq_false',decide_eq_true_eq] at ho
     all_goals first|exact ho|cases ho
    refine bQ fun R2 YH=>?_
    exists A1.ins,eh1
    have F1:=Fw.of (R:=R) (as:=as) K1;have A2:=A1.attr sl S.sl S.ar 1e5 A1.slp;have ZK:=Fw.set (R:=R) (as:=as) (H:=H1) (p:=R.x) (o:=2e5) 6e1;have eh2:=A1.tkp ZK _ _ eh1;have F2:=F1.trans ZK;clear ZK;change R2 _ (Xt H1 R.x 2e5);generalize Xt H1 R.x 2e5=G2 at *;refine YH _ _ ?_;clear YH;clear R2
    exists A2.ins,eh2
    exact⟨R,as,sl,S.at' m,i,w,N,rfl,A2,F.at' ok.1,by omega,ok.2,hi,hn,fun Yv c us H3 A4 hc ec hC F4=>q as Yv c us H3 A4 0e17 (A.gP 0e17).2 ec hC 7e49⟩
   | ltr m k w =>
    simp only[Hap.vs,Hap.ini,Hap.w,Ψ,Α1] at eh1;have hs:(∃ k,S.sl=.Xy k)\/∃ ts,S.sl=.wait ts:=by
     cases es:S.sl with
     | Xy k=>exact .inl ⟨k,rfl⟩
     | wait ts=>exact .inr ⟨ts,rfl⟩
     | Xu=>rw[es] at hn;cases hn
     | _=>simp only[Pu.over,es] at ho;cases ho
    refine bQ fun R2 YH=>?_
    exists A1.ins,eh1
    have F1:=Fw.of (R:=R) (as:=as) K1;have A2:=A1.attr sl S.sl S.ar 1e5 A1.slp;have ZK:=Fw.set (R:=R) (as:=as) (H:=H1) (p:=R.x) (o:=2e5) 6e1;have eh2:=A1.tkp ZK _ _ eh1;have F2:=F1.trans ZK;clear ZK;change R2 _ (Xt H1 R.x 2e5);generalize Xt H1 R.x 2e5=G2 at *;refine YH _ _ ?_;clear YH;clear R2
    exists A2.ins,eh2
    exact⟨R,as,sl,S.at' m,k,w,N,rfl,A2,F.at' ok.1,by omega,ok.2,hs,fun XU Yv c us H3 A4 hc nc ec hC F4=>q XU Yv c us H3 A4 0e17 nc ec hC 7e49⟩
theorem SK:Ok T T.UX 40 (HQ K):=by
 nomatch T.UX
 ·obtain⟨a,ns,rfl,_⟩:=h;rfl
 ·obtain⟨a,ns,rfl,hS,h63,q⟩:=h
  nomatch (aI (pst 1 (pcl (AE T) T.nG (pa1 8e38))) (aI (pst 2 (pcl (JC T) T.B3 (pa2 pv1 8e38))) (aI (pst 3 (pcl (Bi T) T.vJ 2e4)) (pss3 (pst 4 (HB T.Me (FH T) (hr.mono 1e0) rfl T.WO T.xP.bd .nil pass0 2e4)) (zF Γ0 rfl (lE rfl T.qN (pa1 8e11)) (pgn 5) (pss3 (zF Γ0 rfl (lE rfl T.qN 0e13) (pgn 6) (aI (pst 7 (pcl (qI T) T.nE (pa2 (pix Hn pv0 (bD cI aB (bD l9 aB pv5))) (bD cI aB (bD l9 aB pv6))))) (pss3 (pst 8 (pcl (FL T) T.xT (pa2 pv7 pv3))) (pst 9 8e40) (pif (PW.pt (MM (ptc 3e20 (pmt pv4 T.aQ (yS T) T.qY (pa1 (pv 8))) 8e0) (FW (ptc (tT 5 (B5 hr 7e0)) 8e40 (pv 9))))) 0e22)))) (pif (ptc (tT 2 (B5 hr 7e0)) (pmt pv4 T.aQ (yS T) T.qY (pa1 2e46)) (pcl (uK T) T.oR (pa2 pv3 2e46))) 0e22) (pif (PW.pt (eP (dZ iQ (pdg pv3 aD) 3e7 8e2) (dQ (ptc 3e20 (pmt0 pv4 T.aQ (iH T) T.eY) 8e0)))) 0e22))) (aK Bk))))),0
  left;wp_walk;refine⟨a,_,2,1,63,rfl,hS,⟨rfl,rfl,rfl⟩,⟨by decide,by decide,by decide⟩,fun ys q1 hy ly m1=>?_⟩;obtain⟨ms,rfl,lm⟩:=Hk hy;rw[Γ,Γ] at ly;have N1:=q0D (o:=.lst 3e48) m1;replace hS:=N1.same.seq hS;refine⟨q1,ms,rfl,aA,by omega,fun p1 us b G1 ep Z7 gb db zb K1=>?_⟩;replace hS:=K1.same.seq hS;have zb2:cH b<=62:=by omega
  clear N1 m1 hy K1 zb ly lm;wp_walk;right;left;wp_walk;refine⟨a,_,2,2,63,rfl,hS,⟨rfl,rfl,rfl⟩,⟨by decide,by decide,by decide⟩,fun ys q2 hy ly2 m2=>?_⟩;obtain⟨ms2,rfl,lm2⟩:=Hk hy;rw[Γ,Γ] at ly2;have N2:=q0D (o:=.lst (ms2.map V.int)) m2;refine⟨p1,q2,us,b,ms2,rfl,N2.at ep,Z7.kp 2e30,gb,by omega,by omega,aA,by omega,fun rl hv hs G2 er hH ok lh K2=>?_⟩;replace K2:=N2.trans K2;replace ep:=K2.at ep;replace Z7:=Z7.kp 4e30;replace hS:=K2.same.seq hS;have l31:hs.length<=31:=by omega
  have lix:∀ k:Nat,k < hs.length->2+2 * k < ns.length:=fun k hk=>by omega
  clear N2 m2 hy K2 ly2 lm2 lh;wp_walk;right;left;wp_walk;refine⟨p1,us,b,rfl,ep,Z7,by omega,by omega,fun A1 G3 F3 fr3 nk0 xaw K3=>?_⟩;obtain⟨md,hmd⟩:∃ md,md=A1.md:=⟨_,rfl⟩;rw[<- hmd];replace ep:=K3.at ep;replace Z7:=Z7.kp (aE.nil K3);wp_walk;right;left;have lu:=Z7.len;have lbz:=lW b
  exists ep
  refine SG ep Z7 fun R sl G4 RA K4 NR=>?_;have lh2:=hH.len;have J0:In13 ⟨t.aN,t.aO,t.aJ⟩ b md G2 G4 R [] sl A1 0 5e1 5e1:=by
   obtain⟨oaw,Zj⟩:=xaw;refine⟨RA,F3.kp K4,hmd.symm,fun x hx=>?_,⟨_,K4.at Zj⟩,K3.trans K4,fun x hx=>?_⟩
   ·rcases hx with hx|hx
    ·have hn:=NR x hx;obtain⟨w1,w2,w3⟩:=F3.new hn;exact⟨w3,w1.1,w1.2,fun z=>by rw[z,Zj] at hn;cases hn⟩
    ·simp at hx
   ·rcases hx with hx|hx|hx
    ·exact K3.cL (NR x hx)
    ·simp at hx
    ·exact fr3 x hx
  have P0:Pu13 b hs 5e1 0:=⟨Hd gb 1e0,rfl,Ib b,Mi,L9⟩;clear RA F3 K4 NR xaw fr3 K3 ep Z7 lu lbz;right;left;have er4:=J0.kb.at er
  exists er4
  refine⟨⟨by omega,by omega⟩,?_⟩;obtain⟨Pv,XD⟩:∃ Pv:Nat->St->Hp->Prop,∀ i σ G,Pv i σ G=E9 fun(v5 v6 v7 v8 v9:Option V) (as:List Addr) (sl:V) (A:Fa) (p:Nat)=>A4 (σ=[some 9e1,some 8e10,some 5e17,some 7e17,some 9e12,v5,v6,v7,v8,v9]) (In13 ⟨t.aN,t.aO,t.aJ⟩ b md G2 G R as sl A p (takes 5e1 6e10).1 (takes 5e1 6e10).1) (Pu13 b hs (takes 5e1 6e10).1 i) (A.nk<=i):=⟨_,fun _ _ _=>rfl⟩;refine oS (lo:=0) Pv ?_ ?_ ?_
  ·rw[XD];exact⟨_,_,_,_,_,[],sl,A1,0,rfl,J0,P0,by omega⟩
  ·intro i σ G hi h;rw[XD] at h;obtain⟨v5,v6,v7,v8,v9,as,sl,A,p,rfl,J,P,hk⟩:=h;have il:i < hs.length:=by omega
   obtain⟨y,ey⟩:∃ y,hv[i]?=some y:=⟨hv[i]' 1e0,by simp⟩;obtain⟨x,ex,hx⟩:=hH.hE ey;have hf:=ok x (ϒ ex);have es:takes 5e1 (hs.take 4e1)=(((takes 5e1 6e10).1.take x).1,(takes 5e1 6e10).2++[((takes 5e1 6e10).1.take x).2]):=by rw[Β3,ex,Α3,qM]
   generalize eS:(takes 5e1 6e10).1=S at *;have X8:=P.X8 1e0 zb2 1e0;left
   exists Ε2
   obtain⟨Pw,XS⟩:∃ Pw:Nat->St->Hp->Prop,∀ j σ G,Pw j σ G = ∃(v6 v7 v8 v9:Option V) (as:List Addr) (sl:V),σ=[some 9e1,some 8e10,some 5e17,some 7e17,some 9e12,some 9e29,v6,v7,v8,v9]/\In13 ⟨t.aN,t.aO,t.aJ⟩ b md G2 G R as sl A p S S:=⟨_,fun _ _ _=>rfl⟩;refine oS (lo:=0) (n:=2) Pw ?_ ?_ ?_
   ·rw[XS];exact⟨_,_,_,_,as,sl,rfl,J⟩
   ·intro j σ G hj h;rw[XS] at h;clear J;obtain⟨v6,v7,v8,v9,as,sl,rfl,J⟩:=h;have hSG:=J.kb.same.seq hS;obtain⟨z,ez⟩:∃ z,hE (ns.map V.int) 7e47=some 0e6:=by
     rw[show 7e47=((2+2 * i:Nat):Int) by omega];exact⟨ns[2+2 * i]'(lix i il),eD 0e0⟩
    left
    exists Ε2,ez
    refine⟨a,_,_,_,rfl,rfl,hSG,ez,.inl ⟨by decide,by decide⟩,z,200+9 * j,by rw[show(200+9 * (j:Int))=((200+9 * j:Nat):Int) by omega],fun dk G3 ZD K3 RD=>?_⟩;obtain⟨d1,d2,d3⟩:=J.fl.new ZD;wp_walk;right;left;wp_walk;refine⟨b,A,S,p,dk,_,302 * i,by rw[J.md],J.fl.kp K3,P.ft,by omega,P.hn,RD,by omega,d3,fun v h n' G4 hA hf ho D4 K4=>?_⟩;have KK:Kp [] G G4:=fun b o e _=>K4.at1 5e31 4e31;replace J:=J.kp KK;clear KK K4 K3 D4 RD d1 d2 d3 ZD hSG ez;wp_walk;right;left;wp_walk;refine⟨R,as,sl,S,rfl,J.ra,P.hn,X8.1,X8.2.1,X8.2.2.1,X8.2.2.2.1,X8.2.2.2.2,fun p9 lo G5 XI hlo K5=>?_⟩;have nlo:=(J.ra.gP hlo);replace J:=J.kp K5;replace hA:=x8 hA (aE.nil K5);clear K5;wp_walk;right
    exists J.ra.ins
    refine⟨R,as,_,S,v,h,302 * i,rfl,J.ra,P.ft,by omega,P.hn,hA,hf,fun as2 Zx c uc G6 RA6 hc nc ec hC W6=>?_⟩;rw[JE ho] at RA6 hC;obtain⟨J6,T6⟩:=J.run W6 RA6;replace XI:=XI.keep T6 fun o e=>W6.kp _ _ e nlo.1 nlo.2;cases hC;refine fun p6 h6=>?_;generalize hg:Xt G6 p6 2e0=G7;have N6:Kp [] G6 G7:=hg▸Kp.new h6;have e6:G7 p6=some 2e0:=hg▸aA;clear hg;replace ec:=N6.at ec;replace J6:=J6.kp N6;replace XI:=XI.kp N6;clear N6 h6 W6 RA6 T6;wp_walk;refine⟨true,vZ (n:=0) ec e6 rfl 0e0,?_⟩;wp_walk;refine⟨R,as2,_,S,rfl,J6.ra,P.hn,X8.1,X8.2.1,X8.2.2.1,X8.2.2.2.1,X8.2.2.2.2,fun pA lA G8 ab8 _ K8=>?_⟩;wp_walk;refine⟨true,Nn (n:=0) ab8 (XI.kp K8),?_⟩;wp_walk;rw[XS];exact⟨_,_,_,_,as2,_,rfl,J6.kp K8⟩
   intro σ G h;rw[XS] at h;clear J;obtain⟨v6,v7,v8,v9,as,sl,rfl,J⟩:=h;have erG:=J.kb.at er;have ixy:hE hv (i:Int)=some y:=eD ey;right;left
   exists J.ra.ins,erG,ixy
   refine⟨R,as,_,S,y,x,302 * i,rfl,J.ra,P.ft,by omega,P.hn,x8 hx (aE.nil J.kb),hf,fun as2 Zx c uc G5 RA5 hc nc ec hC W5=>?_⟩;obtain⟨J5,T5⟩:=J.run W5 RA5;obtain⟨_,_,cm⟩:=J.fl.new hc;have er5:=J5.kb.at er
   exists er5,ixy
   refine⟨b,A,S,p,y,x,302 * i,by rw[J5.md],J5.fl,x8 hx (aE.nil J5.kb),hf,P.ft,by omega,P.hn,P.sd,by omega,fun A' p' op us' G6 F6 hop e6 c6 n6 W6 hk6=>?_⟩;obtain⟨J6,T6⟩:=J5.mod W6 F6;have ec6:=W6.kp _ _ ec cm 0e0;have hC6:=hC.kt T6;have P6:=P.take (ϒ ex) hf 1e0 (by obtain⟨_,M,_⟩:=J.fl.ex;exact M.lt);wp_walk;refine⟨true,kO.rcL (n:=1) (Q9 (n:=0) hC6 c6 (Ny S x).1) ec6 e6,?_⟩;clear ec6 hC6 c6 e6 hop n6 W6 W5 T6 T5 ec hC nc hc J5 er5 RA5 J erG ixy;wp_walk;right;obtain⟨ot,M6,_,_,_,_,c46⟩:=J6.fl.ex;obtain⟨kv6,em6,lk6,_⟩:=M6.hm;have vm6:bA kv6 4e10=some (.str (S.take x).1.sl.md):=(lk6.2 _ 4e0).trans c46.md;rw[J6.md] at em6;have fin:∀ G',Kp [] G6 G'->Pv 4e1 [some 9e1,some 8e10,some 5e17,some 7e17,some 9e12,some 9e29,v6,v7,v8,v9] G':=fun G' k=>by
    rw[XD];have eS1:(takes 5e1 (hs.take 4e1)).1=(S.take x).1:=by rw[es]
    rw[eS1];exact⟨_,v6,v7,v8,v9,as2,_,A',p',rfl,J6.kp k,P6,by omega⟩
   clear XD
   exists em6,vm6
   refine fun p7 h7=>⟨rfl,by decide +kernel,?_⟩;have N7:=q0D (o:=.lst [.str "ended",.str "worn"]) h7;split
   ·next hq =>
    have pe:(S.take x).1.pend=[]:=by
     cases e:(S.take x).1.sl with
     | ended w=>exact P6.sd.en w e
     | worn=>exact P6.sd.wo e
     | _=>rw[e] at hq;simp[Slp.md,pD,nB,cG] at hq
    have J7:=J6.kp N7
    exists J7.ra.ins
    refine⟨R,as2,_,_,rfl,J7.ra,by rw[pe];decide,fun l8 h8=>?_⟩;rw[show(S.take x).1.pend.map V.int=[] by rw[pe];rfl];wp_walk;refine fun p9 h9=>⟨true,vZ (n:=0) 9e46 aA rfl 0e0,?_⟩;wp_walk;exact fin _ ((N7.trans 5e30).trans 4e22)
   ·exact fin _ N7
  intro σ G h;rw[XD] at h;obtain⟨v5,v6,v7,v8,v9,as,sl,A,p,rfl,J,P,hk⟩:=h;right;wp_walk;exact q _
end
end
def NB{q:Program}{K:Params->q0B}{t:Nat}{r:PySem.W.RowW}{d:DefRec}{kwd:List (Str×Expr)}{run:Value->List Value->Sem Value}(e:∀ P:Params,as=List.map (fun x=>x.fst) (K P))(H:PySem.W.WalkO q loose XP (PySem.W.kHook K as e).says r d kwd run):PySem.W.WalkX q loose XP (PySem.W.X.obsZ as) (PySem.W.X.valZ K n t) r d kwd run:=fun w s₀ s₁ mg mb G y a o pm cd doc dV kV h1 h2 h3 h4 h5 h6 args vals bs L=>by
 obtain⟨_,f,_,_⟩:=PySem.W.X.z_facts e y;exact H w s₀ s₁ mg mb G (show PySem.W.InK K w s₁.heap from fun p ob hp=>L.keeps _ _ (f p ob hp)) a o pm cd doc dV kV h1 h2 h3 h4 h5 h6 args vals bs
section
open PySem.W
def QV{l:OpenLaw}{w:World}{K:Frag}{h:Heap}{fa:Addr}(X:K.In h)(G:h.Ns mainGlobals mg)(hfa:mg "law"=some (.ref fa)){f0 f1 f2 f3 f4 f5 f6 f7 f8 f9 f10 f11 f12 f13 f14 f15 f16 f17 f18 f19 f20 f21 f22 f23 f24 f25 f26 f27 f28 f29 f30 f31 f32 f33 f34 f35 f36 f37 f38 f39 f40 f41 f42 f43 f44 f45 f46 f47 f48 f49 f50 f51 f52 f53 f54 f55 f56 f57 f58 f59 f60 f61 f62 f63 f64 f65 f66 f67 f68 f69:Addr}{d0 d1 d2 d3 d4 d5 d6 d7 d8 d9 d10 d11 d12 d13 d14 d15 d16 d17 d18 d19 d20 d21 d22 d23 d24 d25 d26 d27 d28 d29 d30 d31 d32 d33 d34 d35 d36 d37 d38 d39 d40 d41 d42 d43 d44 d45 d46 d47 d48 d49 d50 d51 d52 d53 d54 d55 d56 d57 d58 d59 d60 d61 d62 d63 d64 d65 d66 d67 d68 d69:FuncData}{aJ:Addr}{aO:Addr}{aN:Addr}{tk0:Tok}{tk1:Tok}{tk2:Tok}{ZI:Addr}{te3:Array DictEntry}{tn3:Nat}(Zh:nsIn K mainGlobals "Tickets"=some (some (.ref aJ)))(Zu:plainGet K aJ Str.empty=true)(Zo:hasDictIn K aJ=true)(Zv:plainOver K aJ=true)(Zw:findIn K (.ref aJ) "__setattr__"=some (some (.builtin "object.__setattr__")))(tJ:makesIn K aJ=true)(Zr:keepIn K (.ref aJ)=true)(aaN:nsIn K mainGlobals "Walk"=some (some (.ref aO)))(aa4:plainGet K aO Str.empty=true)(aaQ:hasDictIn K aO=true)(aa5:plainOver K aO=true)(aa6:findIn K (.ref aO) "__setattr__"=some (some (.builtin "object.__setattr__")))(Fv:makesIn K aO=true)(aaX:keepIn K (.ref aO)=true)(aa8:nsIn K mainGlobals "Run"=some (some (.ref aN)))(abO:plainGet K aN Str.empty=true)(abD:hasDictIn K aN=true)(abP:plainOver K aN=true)(abQ:findIn K (.ref aN) "__setattr__"=some (some (.builtin "object.__setattr__")))(Me:makesIn K aN=true)(abI:keepIn K (.ref aN)=true)(F0:Gf0 K "kept" MR f0 d0)(F1:Gf0 K "worth_of" BA f1 d1)(F2:Gf0 K "joined" Ed f2 d2)(F3:Gf0 K "number_of" zR f3 d3)(F4:Gf0 K "one_or_nought" pS f4 d4)(F5:Gm0 K aJ "__init__" "Tickets.__init__" pP f5 d5)(F6:Gm0 K aJ "make" "Tickets.make" pQ f6 d6)(F7:Gm0 K aJ "is_open" "Tickets.is_open" mQ f7 d7)(F8:Gm0 K aJ "those_open" "Tickets.those_open" j4 f8 d8)(F9:Gm0 K aJ "finish" "Tickets.finish" mP f9 d9)(F10:Gm0 K aJ "shut" "Tickets.shut" pR f10 d10)(F11:Gm0 K aJ "shut_all" "Tickets.shut_all" lG f11 d11)(F12:Gm0 K aJ "first_done" "Tickets.first_done" jZ f12 d12)(F13:Gm0 K aO "__init__" "Walk.__init__" zM f13 d13)(F14:Gm0 K aO "come_to" "Walk.come_to" r8 f14 d14)(F15:Gm0 K aO "stands_at" "Walk.stands_at" n8 f15 d15)(F16:Gm0 K aO "pass_by" "Walk.pass_by" r9 f16 d16)(F17:Gm0 K aO "enter" "Walk.enter" uL f17 d17)(F18:Gm0 K aO "leave" "Walk.leave" uM f18 d18)(F19:Gm0 K aO "place" "Walk.place" uN f19 d19)(F20:Gf0 K "do_set" HJ f20 d20)(F21:Gf0 K "do_order" Br f21 d21)(F22:Gf0 K "do_timer" Bt f22 d22)(F23:Gf0 K "do_send" Eb f23 d23)(F24:Gf0 K "do_drop" D8 f24 d24)(F25:Gf0 K "do_wait" Ec f25 d25)(F26:Gf0 K "do_hear" Ea f26 d26)(F27:Gf0 K "do_end" HI f27 d27)(F28:Gm0 K aN "__init__" "Run.__init__" Bn f28 d28)(F29:Gm0 K aN "waits" "Run.waits" zK f29 d29)(F30:Gm0 K aN "open_tickets" "Run.open_tickets" lF f30 d30)(F31:Gm0 K aN "state" "Run.state" zJ f31 d31)(F32:Gm0 K aN "take" "Run.take" Bp f32 d32)(F33:Gm0 K aN "passes_over" "Run.passes_over" mN f33 d33)(F34:Gm0 K aN "take_done" "Run.take_done" pO f34 d34)(F35:Gm0 K aN "take_letter" "Run.take_letter" mO f35 d35)(F36:Gm0 K aN "wake" "Run.wake" Bq f36 d36)(F37:Gm0 K aN "go_on" "Run.go_on" Bm f37 d37)(F38:Gm0 K aN "do_one" "Run.do_one" zI f38 d38)(F39:Gm0 K aN "look" "Run.look" Bo f39 d39)(F40:Gm0 K aN "end" "Run.end" D0 f40 d40)(F41:Gm0 K aN "wear_out" "Run.wear_out" rZ f41 d41)(F42:Gm0 K aN "worth" "Run.worth" zL f42 d42)(F43:Gm0 K aN "new_ticket" "Run.new_ticket" nZ f43 d43)(F44:Gf0 K "_law_deck" Bu f44 d44)(F45:Gf0 K "_law_pick" By f45 d45)(F46:Gf0 K "_law_name" Bw f46 d46)(F47:Gf0 K "_law_worth" zQ f47 d47)(F48:Gf0 K "_law_saying" uR f48 d48)(F49:Gf0 K "_law_plain" zO f49 d49)(F50:Gf0 K "_law_simple" uS f50 d50)(F51:Gf0 K "_law_closed" uO f51 d51)(F52:Gf0 K "_law_program" sD f52 d52)(F53:Gf0 K "_law_bounded" sA f53 d53)(F54:Gf0 K "_law_says" Bz f54 d54)(F55:Gf0 K "_law_flat" Bv f55 d55)(F56:Gf0 K "_law_new" Ee f56 d56)(F57:Gf0 K "_law_ticket" uU f57 d57)(F58:Gf0 K "_law_ended" zN f58 d58)(F59:Gf0 K "_law_do_plain" sC f59 d59)(F60:Gf0 K "_law_do_wait" uQ f60 d60)(F61:Gf0 K "_law_do_hear" uP f61 d61)(F62:Gf0 K "_law_go" HK f62 d62)(F63:Gf0 K "_law_goes_behind" mR f63 d63)(F64:Gf0 K "_law_takes" zP f64 d64)(F65:Gf0 K "_law_happening" n9 f65 d65)(F66:Gf0 K "_law_row" Ef f66 d66)(F67:Gf0 K "_law_over" Bx f67 d67)(F68:Gf0 K "_law_stands" uT f68 d68)(F69:Gf0 K "law" QB f69 d69)(tK:findIn K (.ref aJ) "made"=some none)(gY:findIn K (.ref aJ) "pending"=some none)(gW:findIn K (.ref aJ) "answers"=some none)(i6:findIn K (.ref aO) "blocks"=some none)(fB:findIn K (.ref aO) "numbers"=some none)(jV:findIn K (.ref aN) "walk"=some none)(dI:findIn K (.ref aN) "sleep"=some none)(Bf:findIn K (.ref aN) "arg"=some none)(rK:findIn K (.ref aN) "now"=some none)(gI:findIn K (.ref aN) "names"=some none)(cR:findIn K (.ref aN) "tickets"=some none)(gX:findIn K (.ref aN) "letters"=some none)(v0:nsIn K mainGlobals "GREATEST_WORTH"=some (some (.int 1000000000 tk0)))(v1:nsIn K mainGlobals "GREATEST_MOMENT"=some (some (.int 1000000000000 tk1)))(v2:nsIn K mainGlobals "MOST_AT_ONCE"=some (some (.int 300 tk2)))(v3:nsIn K mainGlobals "DEEDS"=some (some (.ref ZI)))(u3:K.lookup ZI=some {cls:=.type "dict",data:=.dict te3 tn3})(acG:nsIn K ZI "set"=some (some (.ref f20)))(acH:nsIn K ZI "order"=some (some (.ref f21)))(acI:nsIn K ZI "timer"=some (some (.ref f22)))(acJ:nsIn K ZI "child"=some (some (.ref f21)))(acK:nsIn K ZI "send"=some (some (.ref f23)))(acL:nsIn K ZI "drop"=some (some (.ref f24)))(acM:nsIn K ZI "wait"=some (some (.ref f25)))(acN:nsIn K ZI "hear"=some (some (.ref f26)))(acO:nsIn K ZI "end"=some (some (.ref f27)))(ND:nsIn K mainGlobals "dict"=some none)(AK:nsIn K mainGlobals "int"=some none)(mJ:nsIn K mainGlobals "len"=some none)(CI:nsIn K mainGlobals "max"=some none)(J1:nsIn K mainGlobals "min"=some none)(qN:nsIn K mainGlobals "range"=some none)(Qh:nsIn K mainGlobals "set"=some none)(pC:nsIn K mainGlobals "sorted"=some none)(iK:nsIn K mainGlobals "tuple"=some none)(kl3:KeysLit w.params te3.toList) : ∃ fd:FuncData,(∀(s:Shared) (v:Value),BindsTo s fd ⟨[v],[]⟩ [("script",v)])/\∀ base:Heap,K.In base->base.Ns mainGlobals mg->gM l.prog w K mg base Yj 40 fa fd ["script"] (HQ K):=by
 have e:=hfa.symm.trans (mg_of X G F69.a);cases e;refine⟨d69,?_,fun base _ _=>SK (?_:Tx l.prog w base K mg ⟨f0,d0,f1,d1,f2,d2,f3,d3,f4,d4,f5,d5,f6,d6,f7,d7,f8,d8,f9,d9,f10,d10,f11,d11,f12,d12,f13,d13,f14,d14,f15,d15,f16,d16,f17,d17,f18,d18,f19,d19,f20,d20,f21,d21,f22,d22,f23,d23,f24,d24,f25,d25,f26,d26,f27,d27,f28,d28,f29,d29,f30,d30,f31,d31,f32,d32,f33,d33,f34,d34,f35,d35,f36,d36,f37,d37,f38,d38,f39,d39,f40,d40,f41,d41,f42,d42,f43,d43,f44,d44,f45,d45,f46,d46,f47,d47,f48,d48,f49,d49,f50,d50,f51,d51,f52,d52,f53,d53,f54,d54,f55,d55,f56,d56,f57,d57,f58,d58,f59,d59,f60,d60,f61,d61,f62,d62,f63,d63,f64,d64,f65,d65,f66,d66,f67,d67,f68,d68,fa,d69,tk0,tk1,tk2,ZI,aJ,aO,aN⟩)⟩
 ·obtain⟨_,_,_,_,_,_,_,_,_,rfl,_⟩:=F69.F.ex;exact fun s v=>.of_eq rfl
 ·exact⟨(F0.go X G),(F1.go X G),(F2.go X G),(F3.go X G),(F4.go X G),F5.go,F6.go,F7.go,F8.go,F9.go,F10.go,F11.go,F12.go,F13.go,F14.go,F15.go,F16.go,F17.go,F18.go,F19.go,(F20.go X G),(F21.go X G),(F22.go X G),(F23.go X G),(F24.go X G),(F25.go X G),(F26.go X G),(F27.go X G),F28.go,F29.go,F30.go,F31.go,F32.go,F33.go,F34.go,F35.go,F36.go,F37.go,F38.go,F39.go,F40.go,F41.go,F42.go,F43.go,(F44.go X G),(F45.go X G),(F46.go X G),(F47.go X G),(F48.go X G),(F49.go X G),(F50.go X G),(F51.go X G),(F52.go X G),(F53.go X G),(F54.go X G),(F55.go X G),(F56.go X G),(F57.go X G),(F58.go X G),(F59.go X G),(F60.go X G),(F61.go X G),(F62.go X G),(F63.go X G),(F64.go X G),(F65.go X G),(F66.go X G),(F67.go X G),(F68.go X G),(F69.go X G),⟨Zu,Zo,Zv,Zw⟩,(mg_of X G Zh),⟨tJ,F5.a,F5.i,Zr⟩,⟨aa4,aaQ,aa5,aa6⟩,(mg_of X G aaN),⟨Fv,F13.a,F13.i,aaX⟩,⟨abO,abD,abP,abQ⟩,(mg_of X G aa8),⟨Me,F28.a,F28.i,abI⟩,tK,gY,gW,i6,fB,jV,dI,Bf,rK,gI,cR,gX,(mg_of X G v0),(mg_of X G v1),(mg_of X G v2),(mg_of X G v3),⟨_,_,u3,kl3⟩,acG,acH,acI,acJ,acK,acL,acM,acN,acO,(mg_none_of X G ND),(mg_none_of X G AK),(mg_none_of X G mJ),(mg_none_of X G CI),(mg_none_of X G J1),(mg_none_of X G qN),(mg_none_of X G Qh),(mg_none_of X G pC),(mg_none_of X G iK)⟩
end
theorem walk{l:PySem.W.OpenLaw}{q:Program}{YP:World->Heap->Prop}{d:DefRec}{K:Params->q0B}(hn:l.most=some 63)(hdf:d.params.defaults=[])(hY:∀(w:World) (h:Heap),YP w h->(K w.params).In h)(F:∀(w:World) (mg:q0C) (fa:Addr) (h:Heap),(K w.params).In h->h.Ns mainGlobals mg->mg d.name=some (.ref fa) -> ∃ fd:FuncData,(∀(s:Shared) (u:Value),BindsTo s fd ⟨[u],[]⟩ [("script",u)])/\∀ base:Heap,(K w.params).In base->base.Ns mainGlobals mg->gM l.prog w (K w.params) mg base Yj 40 fa fd ["script"] (HQ (K w.params))) : PySem.W.WalkO q loose XP YP l.row.toRowW d [] (fun f vs=>PySem.call f vs) :=
 L2.Qg (n:=63) (k:=40) (x:="script") (CX:=fun _=>Yj) (sp:=fun w=>HQ (K w.params)) hn (by decide) hdf ⟨rfl,by decide,by decide⟩ hY F (fun _ _ a ns hl _ hS=>⟨a,ns,rfl,hS,hl,fun _=>rfl⟩) fun _ _ _ _ _ z=>z
end Own
open PySem PySem.W PyProof.Rows
set_option maxRecDepth 100000 in
set_option maxHeartbeats 0 in
theorem PySem.Challenge.cw_outlast_k13_passed_over_holds : PySem.Challenge.rw_outlast_k13_passed_over.Holds := by
 w_on;o_law;z_head;(case hw=>w_witness2)
 k_fill
 refine Own.NB (fun _=>rfl) ?_;refine Own.walk (l:=PySem.Challenge.rw_outlast_k13_passed_over) rfl rfl (fun w h Y=>PySem.W.kIn_of Y) ?F
 case F =>
  intro w mg fa h KX G hmg;apply Own.QV KX G hmg
  iterate 126 (first|(apply Own.U3<;>k_is)|(apply Own.U4<;>k_is)|k_is)
  exact⟨⟨_,_,rfl,rfl⟩,⟨_,_,rfl,rfl⟩,⟨_,_,rfl,rfl⟩,⟨_,_,rfl,rfl⟩,⟨_,_,rfl,rfl⟩,⟨_,_,rfl,rfl⟩,⟨_,_,rfl,rfl⟩,⟨_,_,rfl,rfl⟩,⟨_,_,rfl,rfl⟩,trivial⟩
