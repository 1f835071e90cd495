import PyProof.Rows.All
import Wide.All
import OpenK.AllK
import Wide.FinOn
import Lean
import PyProof.EqAt
import PyProof.EqKinds
import PyProof.TupleCall
import PySem.Challenge.RW_outlast_k19_states_told
set_option Elab.async false
set_option linter.all false
set_option genInjectivity false
set_option compiler.extract_closed false
set_option bootstrap.genMatcherCode false
set_option genSizeOf false
set_option maxRecDepth 100000
local macro_rules | `(tactic| omega) => `(tactic| first | assumption | lia | omega +splitDisjunctions)
noncomputable section
local macro_rules
|`(mutual example:=[$ts,*] $cs:command* end)=>do
 let f(D:Array Lean.Syntax)(s:Lean.Syntax):=s.rewriteBottomUp fun s=>if s.isOfKind `scientific then (match s[0].getAtomVal.splitOn "e" with|[a,b]=>D[10*b.toNat!+a.toNat!]!|_=>s) else s.setInfo .none
 let D:=ts.getElems.foldl (fun D t=>D.push (f D t)) #[]
 return Lean.mkNullNode (cs.map fun c=>let s:=f D c;if s.isOfKind `Lean.Parser.Command.declaration&&(s[1].isOfKind `Lean.Parser.Command.definition||s[1].isOfKind `Lean.Parser.Command.abbrev) then s.setArg 0 (s[0].setArg 4 (Lean.mkNullNode #[Lean.mkNode `Lean.Parser.Command.noncomputable #[Lean.mkAtom "noncomputable"]])) else s)
namespace PySem.W.Fast
mutual
example:=[]
def K:=Nat
def tw3605197270636541781:=K
def tw737648284504572981:=K
def tw11542070035645681967:=K
def tw16426246841188204637:=K
def tw9627301510873729752:=K
def tw10345000580351669124:=K
def tw6066713715826024930:=K
def tw14494180392614813077:=K
def tw15639400711511553878:=K
def tw8765229229313042671:=K
def tw12409922054644344939:=K
def tw8404514188532878338:=K
def tw16262168806208801278:=K
def tw6109358905190654297:=K
def tw3333272294932790294:=K
def tw814310909352782994:=K
def tw5781865575677605899:=K
def tw14045608086219078916:=K
def tw3996166639212820322:=K
def tw5049617965041392656:=K
def tw16367194877763782227:=K
def tw11244504049193831937:=K
def tw8206473124104833926:=K
def tw15493416232295926441:=K
def tw8958221175347401711:=K
def tw14275983021372157992:=K
def tw9106029459993429235:=K
def tw12230551749441780535:=K
def tw14638299842180846222:=K
def tw13523505265720896473:=K
def tw452318871943436958:=K
def tw2975412076480135873:=K
def tw5247810261544496049:=K
def tw469081673158009117:=K
def tw13531101086559753517:=K
def tw11372301690134238818:=K
def tw1133976307061845507:=K
def tw2004374110708948531:=K
def tw482267664561229093:=K
def tw11323802726562405318:=K
def tw8252702179426029007:=K
def tw16051576507211631043:=K
def tw14622785823035126852:=K
def tw5274116637639065619:=K
def tw3278367815670754661:=K
def tw5859543979588946756:=K
def tw11441440196615805708:=K
def tw10531189730024402115:=K
def tw12299771201116112829:=K
def tw13527421567680006801:=K
def tw14530379130423734795:=K
def tw18090055407530491159:=K
def tw1897794071290162858:=K
def tw13582813412209474362:=K
def tw4905218292228338187:=K
def tw376190203493679149:=K
def tw7307146113612688301:=K
def tw15496146374027113452:=K
def tw12854472305851974095:=K
def tw15256529091612897329:=K
def tw6217906195207371343:=K
def tw8191091742284733570:=K
def tw16937956212855607096:=K
def tw4327742467610819551:=K
def tw9928041252088040972:=K
def tw3420009145838209087:=K
def tw8627328824838110393:=K
def tw1729131238058056001:=K
def tw11017539544877912425:=K
def tw15740357182072051914:=K
def tw4458070433527592514:=K
def tw7634812823877421803:=K
def tw10136616039036239386:=K
def tw9646225088462824128:=K
def tw5911590358698790838:=K
def tw4081572070162193018:=K
def tw12324954385349564610:=K
def tw2830566047804175553:=K
def tw13539812380263775459:=K
def tw10641962407290587059:=K
def tw3925193731073943336:=K
def tw12868545452143407190:=K
def tw10666485064437054855:=K
def tw6636032312607501717:=K
def tw9515011856152824523:=K
def tw1906010399164805341:=K
def tw62591151108285837:=K
def tw1697151013282454459:=K
def tw15752118083686440673:=K
def tw4377133332196636288:=K
def tw2538991607795320640:=K
def tw1883809703094214734:=K
def tw10483017367520165413:=K
def tw1538498220143750414:=K
def tw14433173750748203493:=K
def tw14016555387261377845:=K
def tw14528548564044954895:=K
def tw6594851317908182530:=K
def tw13516752004657707175:=K
def tw3223078355431983843:=K
def tw5725910681487411004:=K
def tw4128159969911643529:=K
def tw14434444063677791394:=K
def tw956449252434083701:=K
def tw91882349761880640:=K
def tw7284412228883790671:=K
def tw17301979214845504551:=K
def tw6300569388242237393:=K
def tw5691997497787077626:=K
def tw16314934388755689642:=K
def tw13667191353232099118:=K
def tw2094311594958562999:=K
def tw10771862178199006246:=K
def tw2334286142232407626:=K
def tw1679453574367873303:=K
def tw12991007702123698639:=K
def tw6854082306832906132:=K
def tw8337473042854694557:=K
def tw3992662686384834590:=K
def tw9946918194571628965:=K
def tw5593706100259600328:=K
def tw1131378584155168548:=K
def tw7393830946872350472:=K
def tw9622715964809086967:=K
def tw3376293883890931678:=K
def tw7928956888764017360:=K
def tw5288167239441577572:=K
def tw12451863012018691490:=K
def tw3549790258925115389:=K
def tw9915153501668301454:=K
def tw7466644328849578940:=K
def tw12207272010892296891:=K
def tw15574442141971830827:=K
def tw7196220899357471446:=K
def tw15430687613015758893:=K
def tw15726838461120419119:=K
def tw15319573441358569267:=K
def tw17410428724791666859:=K
def tw7100544450786132903:=K
def tw3042960707040183423:=K
def tw2244230168090034332:=K
def tw8712425627365553316:=K
def tw11953489237671370702:=K
def tw11816692343427949098:=K
def tw8144387894081218213:=K
def tw3366818460766245493:=K
def tw12319650362371275075:=K
def tw3183753770811925419:=K
def tw17539236688351357091:=K
def tw17266499528198459667:=K
def tw13283244736502907715:=K
def tw9425200084095579528:=K
def tw8231985177696472479:=K
def tw9730163989885408239:=K
def tw1301981504931520718:=K
def tw4142962782567128467:=K
def tw3543927930543637663:=K
def tw6474708090702979747:=K
def tw7091945890333006271:=K
def tw4744742953396162354:=K
def tw15691702389392772415:=K
def tw17505439578046998277:=K
def tw3424838248292826855:=K
def tw10570840850869739337:=K
def tw9739286978348006741:=K
def tw8387269032024297247:=K
def tw14691356435430624268:=K
def tw7759111137720536371:=K
def tw1079684593824861077:=K
def tw12871484130454552914:=K
def tw4115645630737431641:=K
def tw9677374086504215395:=K
def tw15408432525334388125:=K
def tw8890036518178276871:=K
def tw12468240278741138603:=K
def tw10704256423992896888:=K
def tw15532662688397723531:=K
def tw17414021216688314925:=K
def tw12747551776522993356:=K
def tw2103215429030211466:=K
def tw9113334922799528745:=K
def tw2108918733915246186:=K
def tw17599489141531741301:=K
def tw5728612544024095955:=K
def tw11798909863361100816:=K
def tw4677233633887809371:=K
def tw11364252202006060243:=K
def tw2649874477089600798:=K
def tw11292350875441841890:=K
def tw1552102983443307564:=K
def tw8806356231803527943:=K
def tw1918696011458815585:=K
def tw7651727175038183288:=K
def tw17774366138721424795:=K
def tw9800340144380856626:=K
def tw5763081534837688770:=K
def tw3185730538164412469:=K
def tw16749037260170042895:=K
def tw16310857910780714732:=K
def tw78674801899909001:=K
def tw17939114713005184121:=K
def tw11605273664921740591:=K
def tw2166929213623361615:=K
def tw12610158137387918433:=K
def tw5412070590012133632:=K
def tw9658117086999538567:=K
def tw13756227197833030961:=K
def tw2490943559772286564:=K
def tw15362374738643782761:=K
def tw9262101519943394222:=K
def tw16788107428929656459:=K
def tw16310595746841296704:=K
def tw14809307363795129943:=K
def tw10972000089435948151:=K
def tw4892209291683636767:=K
def tw8498439407331701896:=K
def tw10989353383084006064:=K
def tw15660508573049770519:=K
def tw12151187774365398481:=K
def tw473310395379986726:=K
def tw3690843475833606332:=K
def tw17814370141335742006:=K
def tw11034085903800531761:=K
def tw3105721057838844420:=K
def tw2523539702395305069:=K
def tw5693146784973326744:=K
def tw1248297438866289478:=K
def tw3015993297691115489:=K
def tw15885549080100230033:=K
def tw14820065136570599068:=K
def tw11948728176553447799:=K
def tw13028731039380189194:=K
def tw9899388923388908348:=K
def tw957478699429506055:=K
def tw7117299729664451051:=K
def tw5586284406748243737:=K
def tw15485227840310300503:=K
def tw4544629124447665438:=K
def tw12215288873999644351:=K
def tw8840484654310003670:=K
def tw422123557981076560:=K
def tw14721564784646552341:=K
def tw10827710208127457273:=K
def tw6253285860453772072:=K
def tw7991974910888252562:=K
def tw1795403330003667869:=K
def tw18362091358582257597:=K
def tw3205119084494209231:=K
def tw13457319444798432242:=K
def tw11740877839975935871:=K
def tw7316126626640007547:=K
def tw539118075139897993:=K
def tw17472334233142591171:=K
def tw17378144360369761605:=K
def tw12665756460810212518:=K
def tw8571972229206069010:=K
def tw18335377290062987705:=K
def tw6336236477000080128:=K
def tw1587593925304619482:=K
def tw4667154620381010918:=K
def tw5415945329792104846:=K
def tw316839695253254678:=K
def tw13858923226879490802:=K
def tw6788829879824268849:=K
def tw17399339161372655121:=K
def tw11611499772635671466:=K
def tw3705461209718346852:=K
def tw1428730047305115342:=K
def tw14152119241626376520:=K
def tw6931802818274778599:=K
def tw17649486030105980833:=K
def tw432112708351995123:=K
def tw12606975816581970625:=K
def tw13040101363692093022:=K
def tw15363388602694255968:=K
def tw13386471301883624084:=K
def tw12222819827536788632:=K
def tw3362210339798894719:=K
def tw7271145626621401406:=K
def tw17804543011408263601:=K
def tw1497106533921818488:=K
def tw14686868393678808731:=K
def tw16139678742216095281:=K
def tw10540086958648966181:=K
def tw2698064264432516408:=K
def tw11621757122987648602:=K
def tw630950882374152847:=K
def tw5545994013483444596:=K
def tw1967957168262645545:=K
def tw16909881685233878044:=K
def tw14936371765069202453:=K
def tw1220497755160075677:=K
def tw11733735837759321441:=K
def tw10488159987042197925:=K
def tw10474068143840770643:=K
def tw17270793285257902624:=K
def tw16022886978174844937:=K
def tw15998389096823661651:=K
def tw15249871211441904488:=K
def tw11988619588145039805:=K
def tw880663026343964671:=K
def tw6362532107197247577:=K
def tw17833786082958107762:=K
def tw12287877883299548644:=K
def tw17333723578338843055:=K
def tw2917220071527127053:=K
def tw14251765984937995238:=K
def tw5451609577884255884:=K
def tw3629660435186383239:=K
def tw14398608059177512328:=K
def tw10152368690506144643:=K
def tw7641214582206438097:=K
def tw679359456813981700:=K
def tw11448256190525462993:=K
def tw13348501014808066680:=K
def tw7263829816019342972:=K
def tw2711852284779976283:=K
def tw3977343865781079098:=K
def tw9990656799563290439:=K
def tw14451271856111038987:=K
def tw7285168692779171022:=K
def tw6810478318546208184:=K
def tw188080504932787774:=K
def tw16560209721666366645:=K
def tw14058896191253430421:=K
def tw6129105715620179841:=K
def tw11147626258559924618:=K
def tw3811649723352923463:=K
def tw16671854512844304920:=K
def tw16262041259717047912:=K
def tw13191811358824586197:=K
def tw12872718888626115063:=K
def tw12804290705656885503:=K
def tw17871949233889296899:=K
def tw10836149124426083319:=K
def tw3040613468689481619:=K
def tw3037086101881582600:=K
def tw1639624681573112439:=K
def tw13461496574068050485:=K
def tw5987426863217772815:=K
def tw15456451963432627365:=K
def tw9104849274798015082:=K
def tw12323304363015581309:=K
def tw1116624789888019847:=K
def tw5108306831344435975:=K
def tw16783954007840060233:=K
def tw5783271143767546435:=K
def tw4404659703519292391:=K
def tw3630638130173936404:=K
def tw13659971102026188444:=K
def tw13498656092221347284:=K
def tw9459202057284141175:=K
def tw802965986837852446:=K
def tw18093517356954218789:=K
def tw16569258937960304539:=K
def tw1278735307505331803:=K
def tw846790200102952423:=K
def tw7608125438644687558:=K
def tw7547516985534627915:=K
def tw11503563015795133070:=K
def tw14877871329324958835:=K
def tw12966232934747693401:=K
def tw10205425620666946811:=K
def tw6351186874863770261:=K
def tw10754740682621202313:=K
def tw8757831303160943508:=K
def tw4732747865498783752:=K
def tw17152733551529358184:=K
def tw15833846694298870017:=K
def tw9197231642582027735:=K
def tw8610115162215223636:=K
def tw17102311253267873805:=K
def tw9195205409776206660:=K
def tw88346832376937598:=K
def tw5231704105847431890:=K
def tw12300645289883155549:=K
def tw5798372489480452884:=K
def tw1327386418253920518:=K
def tw14044198243978947067:=K
def tw16569732782500624622:=K
def tw15684379881005530763:=K
def tw12636373493736449303:=K
def tw18275762430453642942:=K
def tw7785811058577188255:=K
def tw7733287097883030576:=K
def tw6495222887254645949:=K
def tw5180132306472477962:=K
def tw4176001146706041371:=K
def tw2140415998890390368:=K
def tw17648805853387642186:=K
def tw15287671448553456928:=K
def tw13993801836351867043:=K
def tw13089110699571032471:=K
def tw12026010847445682481:=K
def tw11883351325063242982:=K
def tw10291010551541409196:=K
def tw10009152520111989869:=K
def tw5060133545793244477:=K
def tw6033163777384187349:=K
def tw13884953290198531099:=K
def tw9951935683298351772:=K
def tw5517352748279087458:=K
def tw398559879474107529:=K
def tw17563920788285257017:=K
def tw8820005253194134329:=K
def tw13316327681851756431:=K
def tw11681345313591706783:=K
def tw6065585563196972015:=K
def tw1605997821615928890:=K
def tw12128662669315517826:=K
def tw9969821915658435510:=K
def tw9952708006852226021:=K
def tw974895601155750420:=K
def tw9722000002294533325:=K
def tw9696629592998271037:=K
def tw9520459650499605927:=K
def tw927919209860656353:=K
def tw9260281868751089901:=K
def tw9247353282874290538:=K
def tw9230265009781669140:=K
def tw9200224712185333997:=K
def tw9182349201046797969:=K
def tw9176904000064219602:=K
def tw9025207311729827121:=K
def tw8865527142624231511:=K
def tw8661812320868041867:=K
def tw850033835076424448:=K
def tw8476545187294860715:=K
def tw8416462667145269502:=K
def tw836956143965048292:=K
def tw8365616653523448547:=K
def tw8312372774866895513:=K
def tw8230877057857836963:=K
def tw8146489771999872517:=K
def tw8141029969345699579:=K
def tw8125268156855219967:=K
def tw8043937706598985555:=K
def tw7905504988329889701:=K
def tw7712804953398146647:=K
def tw7291424195420783294:=K
def tw7185234913061727519:=K
def tw715657057626955769:=K
def tw698478256966180888:=K
def tw6906922078960596813:=K
def tw6834001196039069740:=K
def tw6739253878444151805:=K
def tw6583835356233870977:=K
def tw6239219290557666717:=K
def tw6188423972714295109:=K
def tw6057534718321011977:=K
def tw5967837173195512974:=K
def tw5963668391021957382:=K
def tw5962134655377935637:=K
def tw5673910431088484641:=K
def tw5670982775170719197:=K
def tw5502719559785202254:=K
def tw5483702867776488269:=K
def tw5466487438522634244:=K
def tw5454004115718151727:=K
def tw5432914911320437483:=K
def tw541451177836500480:=K
def tw5372772522582891714:=K
def tw4831867665097989374:=K
def tw4734993702162706250:=K
def tw4681203929306343416:=K
def tw4625423073626726942:=K
def tw44929596218606757:=K
def tw4451467882750082194:=K
def tw4345399708291177482:=K
def tw4285653066400251659:=K
def tw4206850815222904030:=K
def tw4143664895516542150:=K
def tw4031852427521640430:=K
def tw3990710982719706458:=K
def tw3833630916407711566:=K
def tw3724553450898509480:=K
def tw3612333090254299167:=K
def tw3536787906205560666:=K
def tw3500065237380164027:=K
def tw3456403919603482740:=K
def tw3450620654147081174:=K
def tw3235367634706413:=K
def tw3198542726358415907:=K
def tw3186898500696598134:=K
def tw3065201653919019251:=K
def tw3064649618029961025:=K
def tw3022371054910065952:=K
def tw2838239139216203010:=K
def tw2537934663084199158:=K
def tw2482949460587767242:=K
def tw2422971801378357740:=K
def tw2276624145778223830:=K
def tw2240526188252351724:=K
def tw2071088775918155787:=K
def tw2039094430301202388:=K
def tw1905048102383712834:=K
def tw1866337563503568646:=K
def tw18394549839450636712:=K
def tw18339811905077433816:=K
def tw18216767153911435390:=K
def tw18180572448023551732:=K
def tw18043242935193110186:=K
def tw18030690667352880551:=K
def tw17650466828944129583:=K
def tw17446533760632919852:=K
def tw1736197524211762550:=K
def tw17315931256205057240:=K
def tw17211478380999790145:=K
def tw1709399470128892864:=K
def tw16586402241278082619:=K
def tw16517506921863786701:=K
def tw16184235282921944680:=K
def tw16125340177434621762:=K
def tw16084519699306628588:=K
def tw15985585177925718892:=K
def tw15838084445089776778:=K
def tw15669235165285233605:=K
def tw15628604258711305994:=K
def tw15541489346943979480:=K
def tw15482951101966187259:=K
def tw15373697531797321177:=K
def tw15200129292926626084:=K
def tw15135764371196748694:=K
def tw15045092203422420539:=K
def tw14736088583632712820:=K
def tw14730226599449485950:=K
def tw14624853243806997924:=K
def tw14614680304165408594:=K
def tw14605223639662404201:=K
def tw14605035316442571476:=K
def tw14601064735139801596:=K
def tw14571550174598933221:=K
def tw14547697823481669045:=K
def tw14479511054899303108:=K
def tw14429601135566026338:=K
def tw14353630867263169852:=K
def tw14324568858232160114:=K
def tw14187537586997032768:=K
def tw13909714947016101180:=K
def tw13813281165674217369:=K
def tw13796588578406111876:=K
def tw13782712509193820258:=K
def tw13691629620649172265:=K
def tw13686685116247379768:=K
def tw1347131568763392646:=K
def tw13456032749679319992:=K
def tw13430673530162108466:=K
def tw13278691621300231801:=K
def tw13131292281722461254:=K
def tw12988520606372490558:=K
def tw12955794212088369924:=K
def tw1293511338002733:=K
def tw12787415982570911403:=K
def tw12766410044280572735:=K
def tw1270463444409502503:=K
def tw1265691350776835895:=K
def tw12632055825723761555:=K
def tw12486237929709653171:=K
def tw12384418788964876285:=K
def tw12357941258427908683:=K
def tw12308574222550557302:=K
def tw12264807929921788860:=K
def tw12215471807577364029:=K
def tw12196452897722393319:=K
def tw12123885854635123562:=K
def tw12038601587695670647:=K
def tw1194747389100743779:=K
def tw11885300781511884727:=K
def tw11552020282886847373:=K
def tw11212418023007287249:=K
def tw11181022895401249722:=K
def tw11044966080513565047:=K
def tw11004081957675701899:=K
def tw1098971879921082074:=K
def tw1093728193459478215:=K
def tw1092870096230690341:=K
def tw10768072812424499417:=K
def tw10728779787151233037:=K
def tw10690230007205558391:=K
def tw10515514140649019328:=K
def tw102769034005504845:=K
end
end PySem.W.Fast
mutual
example:=[]
abbrev q0A:=PySem.Value->PySem.Shared->Prop
abbrev q0B:=PySem.W.Frag
abbrev q0C:=PySem.Str->Option PySem.Value
def Α:=@List.mem_cons
def Β:=@PySem.wpAny_bind
def Γ:=@List.length_map
def Δ:=@List.not_mem_nil
def Ε:=@PySem.Heap.get?_push_of_some
def Ζ:=@List.length_cons
def Η:=@List.size_toArray
def Θ:=@Nat.le_refl
def Ι:=@PySem.wpAny_pure
def Κ:=@List.mem_append
def Λ:=@PySem.Heap.lt_size
def Μ:=@List.getElem?_eq_some_iff
def Ν:=@List.length_append
def Ξ:=@List.getElem?_cons_zero
def Ο:=@Option.some.injEq
def Ρ:=@PySem.Heap.get?_push_size
def Τ:=@List.getElem?_eq_getElem
def Υ:=@Nat.ne_of_lt
def Φ:=@or_false
def Χ:=@Nat.le_trans
def Ψ:=@List.getElem?_map
def Ω:=@Nat.lt_of_lt_of_le
def ϐ:=@List.cons_append
def ϑ:=@List.mem_cons_of_mem
def ϒ:=@Bool.false_ne_true
def ϓ:=@List.mem_of_getElem?
def ϔ:=@List.map_cons
def ϕ:=@List.length_nil
def ϖ:=@Option.some.inj
def ϗ:=@Option.map_eq_some_iff
def Ϙ:=@List.nodup_cons
def ϙ:=@Bool.false_eq_true
def Ϛ:=@List.mem_append_right
def ϛ:=@List.append_nil
def Ϝ:=@List.nodup_append
def ϝ:=@List.take_length
def Α0:=@Nat.lt_irrefl
def Α1:=@Option.toList_some
def Α2:=@Nat.zero_le
def Α3:=@List.length_take
def Α4:=@List.nil_append
def Α5:=@List.append_assoc
def Α6:=@List.mem_filter
def Α7:=@List.map_append
def Α8:=@Option.join_some
def Α9:=@List.take_add_one
def Β0:=@List.mem_map
def Β1:=@PySem.Calls.callWith_builtin
def Β2:=@List.mem_singleton_self
def Β3:=@PySem.wpAny_holding
def Β4:=@beq_eq_false_iff_ne
def Β5:=@if_false
def Β6:=@PySem.wpAny_mono
def Β7:=@decide_eq_false
def Β8:=@PySem.wpAny_newObj_type
def Β9:=@PySem.F.called_set
def Γ0:=@List.pairwise_cons
def Γ1:=@if_true
def Γ2:=@Nat.zero_add
def Γ3:=@PySem.F.plainAttrs_dict
def Γ4:=@Array.length_toList
def Γ5:=@PySem.wpAny_setState_of
def Γ6:=@Bool.and_eq_true
def Γ7:=@PySem.F.slot_dict_get
def Γ8:=@List.length_filter_le
def Γ9:=@Array.getElem?_toList
def Δ0:=@PySem.call_meetsIn
def Δ1:=@Array.getElem?_eq_getElem
def Δ2:=@List.find?_cons
def Δ3:=@PySem.Calls.spliced_cons
def Δ4:=@Option.isSome_iff_exists
def Δ5:=@PySem.mem_of_lookup
def Δ6:=@PySem.PassesOwn.never
def Δ7:=@PySem.lookup_relabel_local
def Δ8:=@PySem.Calls.evalArgs_plain
def Δ9:=@PySem.Around.under_plainId
def Ε0:=@PySem.wpAny_truthy_bool
def Ε1:=@Option.getD_some
def Ε2:=@PySem.sizeLine_eq
def Ε3:=@Nat.le_succ
def Ε4:=@PySem.W.mg_none_of
def Ε5:=@Bool.eq_iff_iff
def Ε6:=@decide_eq_true_eq
def Ε7:=@Nat.le_succ_of_le
def Ε8:=@List.getD_eq_getElem?_getD
def Ε9:=@List.mem_append_left
def Ζ0:=@PySem.wpAny_passesOwn
def Ζ1:=@PySem.codeAny_builtin
def Ζ2:=@List.pairwise_iff_getElem
def Ζ3:=@List.getElem?_eq_none_iff
def Ζ4:=@List.getElem?_append_left
def Ζ5:=@PyProof.Rows.F.plain_set_update_loop
def Ζ6:=@List.take_succ_cons
def Ζ7:=@List.mergeSort_perm
end
namespace Lake
open PySem PySem.Spec PyProof.Rows
mutual
example:=[]
variable{C a b:Addr}{A:Around}{g':Array GenState}{op:CmpOp}{c e tg:Expr}{fd:FuncData}{base h:Heap}{Uk:List (Addr×Obj)}{kw:List (Str×Value)}{ch fp:List Addr}{outer:List Env}{es:List Expr}{body:List Stmt}{ps:List Str}{us:List Value}{M:Model}{i k n t':Nat}{o:Obj}{pos:Pos}{P:Program}{scope:Scope}{pl:Sem Bool}{s s':Shared}{x:Str}{Q:Unit->Shared->Prop}{u:Value}{f:Value->Value->Sem Value}{w:World}{E:q0A}{K:q0B}{mg:q0C}
set_option genInjectivity true in
inductive Key where
 | inl (i:Int)|inr (x:Str)|no
 deriving DecidableEq
def yV:Key->Value->Bool
 | .inl k,v=>Value.isInt k v
 | .inr x,v=>Value.isStrOf x v
 | .no,.none=>true
 | .no,_=>false
def Tj(w:World):Key->Int
 | .inl k=>hashInt k
 | .inr x=>hashStr w x
 | .no=>reduceHash 0xFCA86420
theorem eP:∀ {k:Key} {v:Value},yV k v=true->(∃ i t,k=Key.inl i/\v=Value.int i t)\/(∃ x t,k=Key.inr x/\v=Value.str x t)\/(k=Key.no/\v=Value.none)
 | .inl i,v,h=>by
  obtain⟨t,e⟩:=Value.isInt_shape (k:=i) (v:=v) h;exact .inl ⟨i,t,rfl,e⟩
 | .inr x,v,h=>by
  obtain⟨t,e⟩:=Value.isStrOf_shape (x:=x) (v:=v) h;exact .inr (.inl ⟨x,t,rfl,e⟩)
 | .no,v,h=>by
  cases v<;>first|exact .inr (.inr ⟨rfl,rfl⟩)|cases h
def Fz(i:Int)(t:Tok):yV (.inl i) (.int i t)=true:=by simp[yV,Value.isInt]
def FA(x:Str)(t:Tok):yV (.inr x) (.str x t)=true:=by simp[yV,Value.isStrOf]
theorem OW(a b:Int):decide (Key.inl a=Key.inl b)=(a==b):=by
 by_cases e:a=b
 ·subst e;simp
 ·have h:¬ Key.inl a=Key.inl b:=fun q=>e (Key.inl.inj q);rw[Β7 h];exact(Β4.mpr e).symm
theorem OX(a b:Str):decide (Key.inr a=Key.inr b)=decide (a=b):=by
 by_cases e:a=b
 ·subst e;simp
 ·have h:¬ Key.inr a=Key.inr b:=fun q=>e (Key.inr.inj q);rw[Β7 h,Β7 e]
def bJ(prog:Program)(w:World):PySem.KeyKind prog w Key where
 is:=yV
 hash:=Tj w
 inj:=fun v a b ha hb=>by
  rcases eP ha with⟨i,t,rfl,rfl⟩|⟨x,t,rfl,rfl⟩|⟨rfl,rfl⟩<;>rcases eP hb with⟨j,u,rfl,e⟩|⟨y,u,rfl,e⟩|⟨rfl,e⟩ <;>
   first|rfl|(cases e<;>rfl)
 byValue:=fun k v h=>by
  rcases eP h with⟨i,t,rfl,rfl⟩|⟨x,t,rfl,rfl⟩|⟨rfl,rfl⟩<;>rfl
 pyHash:=fun hv h=>by
  rcases eP hv with⟨i,t,rfl,rfl⟩|⟨x,t,rfl,rfl⟩|⟨rfl,rfl⟩
  ·exact wpAny_pyHash_int h
  ·exact wpAny_pyHash_str h
  ·exact PySem.W.pyHash_slot (T:="NoneType") rfl F.slot_NoneType_hash F.entry_NoneType_hash (F.args_NoneType_hash_1 _) (beq_builtin_none _) (.inl rfl) (Β (Ι (Β (wpAny_mkInt (Ι ⟨_,_,rfl,h⟩)))))
 eqBool:=fun hu hv h=>by
  rcases eP hu with⟨i,t,rfl,rfl⟩|⟨x,t,rfl,rfl⟩|⟨rfl,rfl⟩<;>rcases eP hv with⟨j,u,rfl,rfl⟩|⟨y,u,rfl,rfl⟩|⟨rfl,rfl⟩
  ·rw[OW] at h;exact wpAny_eqBool_int h
  ·exact SeqAt.EqAt.int_str i t y u _ _ _ _ h
  ·exact SeqAt.EqAt.int_none i t _ _ _ _ h
  ·exact SeqAt.EqAt.str_int x t j u _ _ _ _ h
  ·rw[OX] at h;exact wpAny_eqBool_str h
  ·exact SeqAt.EqAt.str_none x t _ _ _ _ h
  ·exact SeqAt.EqAt.none_int j u _ _ _ _ h
  ·exact SeqAt.EqAt.none_str y u _ _ _ _ h
  ·exact SeqAt.EqAt.same .none _ _ _ _ h
 «strs»:=fun k x t v h=>by
  rcases eP h with⟨i,u,rfl,e⟩|⟨y,u,rfl,e⟩|⟨rfl,e⟩
  ·exact nomatch e
  ·injection e with e1 _
   subst e1;cases v<;>rfl
  ·exact nomatch e
def By(prog:Program)(w:World)(i:Int)(t:Tok):(bJ prog w).is (.inl i) (.int i t)=true:=Fz i t
def Bz(prog:Program)(w:World)(x:Str)(t:Tok):(bJ prog w).is (.inr x) (.str x t)=true:=FA x t
set_option genInjectivity true in
inductive V where
 | Um|bl (b:Bool)|int (i:Int)|str (x:Str)|byt (b:Array UInt8)|flt (b:UInt64)|ref (a:Addr)|ty (n:String)
 deriving DecidableEq
variable{vs xs:List V}{v:V}
def bP:V->Value->Prop
 | .Um,u=>u=Value.none
 | .bl b,u=>u=Value.bool b
 | .int i,u=>∃ t,u=Value.int i t
 | .str x,u=>∃ t,u=Value.str x t
 | .byt b,u=>∃ t,u=Value.bytes b t
 | .flt b,u=>∃ t,u=Value.float b t
 | .ref a,u=>u=Value.ref a
 | .ty n,u=>u=Value.type n
abbrev Uq:List V->List Value->Prop:=Paired bP
def Uq.length(r:Uq xs us):xs.length=us.length:=Paired.length r
theorem Uq.get:∀ {xs:List V} {us:List Value} {i:Nat} {x:V},Uq xs us->xs[i]?=some x->∃ u,us[i]?=some u/\bP x u
 | _,_,_,_,.nil,e=>by simp at e
 | _,_,0,_,.cons r _,e=>by simp at e;subst e;exact⟨_,rfl,r⟩
 | _,_,i+1,x,.cons _ t,e=>by
  obtain⟨u,h1,h2⟩:=Uq.get (i:=i) (x:=x) t (by simpa using e);exact⟨u,by simpa using h1,h2⟩
theorem Uq.set{x:V}{u:Value}(r:bP x u):∀ {xs:List V} {us:List Value} (i:Nat),Uq xs us->Uq (xs.set i x) (us.set i u)
 | _,_,_,.nil=>.nil
 | _,_,0,.cons _ t=>.cons r t
 | _,_,i+1,.cons q t=>.cons q (Uq.set r i t)
def Uq.append{ys:List V}{ws:List Value}(h:Uq xs us)(s:Uq ys ws):Uq (xs++ys) (us++ws):=by
 induction h with
 | nil=>exact s
 | cons r _ ih=>exact .cons r ih
theorem Uq.take:∀ {xs:List V} {us:List Value} (n:Nat),Uq xs us->Uq (xs.take n) (us.take n)
 | _,_,0,_=>.nil
 | _,_,_+1,.nil=>.nil
 | _,_,n+1,.cons r t=>.cons r (Uq.take n t)
theorem Uq.drop:∀ {xs:List V} {us:List Value} (n:Nat),Uq xs us->Uq (xs.drop n) (us.drop n)
 | _,_,0,r=>r
 | _,_,_+1,.nil=>.nil
 | _,_,n+1,.cons _ t=>Uq.drop n t
theorem Uq.none_of:∀ {xs:List V} {us:List Value} {i:Nat},Uq xs us->xs[i]?=none->us[i]?=none:=fun {xs us i} r e=>by
 have h1:=r.length;have h2:xs.length<=i:=Ζ3.mp e;exact Ζ3.mpr (by omega)
def kN:Option V->Option Value->Prop
 | some v,some u=>bP v u
 | none,none=>True
 | _,_=>False
def KV{κ:Type}:List (κ×V)->List (κ×Value)->Prop:=Paired fun(p:κ×V) (q:κ×Value)=>p.1=q.1/\bP p.2 q.2
def kV:Key->V
 | .inl i=>.int i
 | .inr x=>.str x
 | .no=>.Um
set_option genInjectivity true in
inductive HO where
 /-- a list -/
 | lst (xs:List V)
 /-- a tuple (never changes) -/
 | tup (xs:List V)
 /-- a dict whose keys are ints and texts;one whose keys are tuples of ints and texts (the empty one is both) -/
 | dK (kvs:List (Key×V))|dT (kvs:List (List Key×V))
 /-- a set of ints: Up members,Up size -/
 | set (S:Int->Bool) (n:Nat)
 /-- an instance of the class at C,Up dict at dx,Up attributes -/
 | ins (C dx:Addr) (fs:List (Str×V))
 /-- the dict of the instance at x -/
 | own (x:Addr)
 /-- the dict of an exception -/
 | xd (fs:List (Str×V))
 /-- a bound method,f of x -/
 | met (f x:Addr)
 /-- a range object lo,lo+1,.. below hi -/
 | rng (lo hi:Int)
 /-- a thing that is known to the object (the script;a dict while a loop walks it): read,never written while it is so -/
 | UJ (o:Obj) (u:HO)
 /-- a code object's table -/
 | Yd (ps:Array Value)
 /-- any other thing,by what is true of Up one object (a def of abK own: SetO a S n:=HO.ext fun h=>..) -/
 | ext (φ:Heap->Prop)
abbrev Hp:=Addr->Option HO
variable{H:Hp}
def Ul(H:Hp)(a:Addr)(o:HO):Hp:=fun b=>if b=a then some o else H b
def aA{o:HO}:Ul H a o a=some o:=by unfold Ul;rw[if_pos rfl]
def aE{o:HO}(h:b≠a):Ul H a o b=H b:=by unfold Ul;rw[if_neg h]
def dB{o u:HO}(h:H a=some o)(h':H b=some u)(d:o≠u):a≠b:=by
 intro e;subst e;rw[h] at h';exact d (ϖ h')
def aF{o:HO}(h:H a=some o)(h':H b=none):a≠b:=by
 intro e;subst e;rw[h] at h';cases h'
end
section
variable(P:Program)(w:World)
noncomputable def eF(H:Hp)(h:Heap)(a:Addr):HO->Prop
  | .lst xs=>xs.length<=sizeLine/\∃(Up:List Value) (n:Nat),Uq xs Up/\h.get? a=some {cls:=.type "list",data:=.seq Up.toArray n}
  | .tup xs=>xs.length<=sizeLine/\∃ Up:List Value,Uq xs Up/\IsTup h a Up.toArray
  | .dK kvs=>kvs.length<=sizeLine/\(a==sysModules)=false/\∃ vs,KV kvs vs/\h.DictOf (bJ P w) a vs
  | .dT kvs=>kvs.length<=sizeLine/\(a==sysModules)=false/\∃ xs:List (List Key×Addr×Value),
      Paired (fun(p:List Key×V) (q:List Key×Addr×Value)=>p.1=q.1/\H q.2.1=some (.tup (p.1.map kV))/\bP p.2 q.2.2) kvs xs /\
      ∃ o es ep,h.get? a=some o/\o.ExactDict/\o.data=.dict es ep/\es.toList=xs.map (entryOfKey (tupleKind (bJ P w)))/\(xs.map (·.1)).Nodup
  | .set S n=>h.SetOf (intKind P w) a S n
  | .ins C dx fs=>H dx=some (.own a)/\fs.length<=1000/\dx≠a/\h.get? a=some (PySem.W.instObj C dx) /\
      ∃ mA,h.Ns1 dx mA/\(∀ f,kN (fs.lookup f) (mA f))/\PySem.Within mA (fs.map (·.1))
  | .own _=>∃ o,h.get? a=some o
  | .xd fs=>∃ mA,h.Ns1 a mA/\∀ f,kN (fs.lookup f) (mA f)
  | .rng lo hi=>∃ t u v,h.get? a=some {cls:=.type "range",data:=.fields #[.int lo t,.int hi u,.int 1 v]}
  | .UJ o u=>h.get? a=some o/\eF H h a u
  | .Yd ps=>h.get? a=some {cls:=.none,data:=.fields ps}
  | .met f x=>h.get? a=some (PySem.W.methodObj (.ref f) (.ref x))
  | .ext φ=>φ h/\(∃ o,h.get? a=some o)/\∀ h1 h2:Heap,φ h1->(∀ o,h1.get? a=some o->h2.get? a=some o)->φ h2
def HOk(H:Hp)(h:Heap):Prop:=∀ a o,H a=some o->eF P w H h a o
end
section
mutual
example:=[.inl rfl,.own a,PySem.W.methodObj (.ref f) (.ref y)]
variable{H':Hp}{h':Heap}{o:HO}
def eF.lt(x:eF P w H h a o):a < h.objs.size:=by
 cases o with
 | lst xs=>obtain⟨_,_,_,_,e⟩:=x;exact Λ e
 | tup xs=>obtain⟨_,_,_,p⟩:=x;exact p.lt
 | dK kvs=>obtain⟨_,_,_,_,o,_,_,e,_⟩:=x;exact Λ e
 | dT kvs=>obtain⟨_,_,_,_,o,_,_,e,_⟩:=x;exact Λ e
 | set S n=>obtain⟨o,_,_,_,e,_⟩:=x;exact Λ e
 | ins C dx fs=>obtain⟨_,_,_,e,_⟩:=x;exact Λ e
 | own y=>obtain⟨_,e⟩:=x;exact Λ e
 | xd fs=>obtain⟨_,⟨_,_,_,e,_⟩,_⟩:=x;exact Λ e
 | rng lo hi=>obtain⟨_,_,_,e⟩:=x;exact Λ e
 | UJ ob u=>obtain⟨e,_⟩:=x;exact Λ e
 | Yd ps=>exact Λ (show h.get? a=some _ from x)
 | met f y=>exact Λ (show h.get? a=some _ from x)
 | ext φ=>obtain⟨_,⟨_,e⟩,_⟩:=x;exact Λ e
theorem Paired.O9{α β:Type}{F G:α->β->Prop}:∀ {l₁:List α} {l₂:List β},Paired F l₁ l₂->(∀ a b,F a b->G a b)->Paired G l₁ l₂
 | _,_,.nil,_=>.nil
 | _,_,.cons r t,f=>.cons (f _ _ r) (Paired.O9 t f)
def eF.sO(x:eF P w H h a o)(k:∀ b u,(b=a\/H b=some 1e0)->h.get? b=some u->h'.get? b=some u)(ho:∀ b,H b=some 1e0->H' b=some 1e0)(ht:∀ b xs,H b=some (.tup xs)->H' b=some (.tup xs)):eF P w H' h' a o:=by
 induction o with
 | lst xs=>obtain⟨z,Up,n,r,e⟩:=x;exact⟨z,Up,n,r,k _ _ 0e0 e⟩
 | tup xs=>obtain⟨z,Up,r,ob,e,c⟩:=x;exact⟨z,Up,r,ob,k _ _ 0e0 e,c⟩
 | dK kvs=>obtain⟨z,y,vs,r,ob,es,ep,e,c⟩:=x;exact⟨z,y,vs,r,ob,es,ep,k _ _ 0e0 e,c⟩
 | dT kvs =>
  obtain⟨z,y,xs,r,ob,es,ep,e,c⟩:=x;exact⟨z,y,xs,Paired.O9 r fun p q z=>⟨z.1,ht _ _ z.2.1,z.2.2⟩,ob,es,ep,k _ _ 0e0 e,c⟩
 | set S n=>obtain⟨ob,es,ep,t,e,c⟩:=x;exact⟨ob,es,ep,t,k _ _ 0e0 e,c⟩
 | ins C dx fs =>
  obtain⟨d,z,ne,e,mA,⟨od,es,ep,e2,c⟩,r⟩:=x;exact⟨ho _ d,z,ne,k _ _ 0e0 e,mA,⟨od,es,ep,k _ _ (.inr d) e2,c⟩,r⟩
 | own y=>obtain⟨ob,e⟩:=x;exact⟨ob,k _ _ 0e0 e⟩
 | xd fs=>obtain⟨mA,⟨od,es,ep,e,c⟩,r⟩:=x;exact⟨mA,⟨od,es,ep,k _ _ 0e0 e,c⟩,r⟩
 | rng lo hi=>obtain⟨t,u,v,e⟩:=x;exact⟨t,u,v,k _ _ 0e0 e⟩
 | UJ ob u ih=>obtain⟨e,q⟩:=x;exact⟨k _ _ 0e0 e,ih q⟩
 | Yd ps =>
  have e:h.get? a=some {cls:=.none,data:=.fields ps}:=x;show h'.get? a=some {cls:=.none,data:=.fields ps};exact k a _ 0e0 e
 | met f y =>
  have e:h.get? a=some 2e0:=x;show h'.get? a=some 2e0;exact k a _ 0e0 e
 | ext φ=>obtain⟨p,⟨o,e⟩,st⟩:=x;exact⟨st _ _ p fun o q=>k _ _ 0e0 q,⟨o,k _ _ 0e0 e⟩,st⟩
def HOk.lt(x:HOk P w H h)(e:H a=some o):a < h.objs.size:=(x a o e).lt
def HOk.fresh(x:HOk P w H h)(e:h.objs.size<=a):H a=none:=by
 cases q:H a with
 | none=>rfl
 | some u=>exact absurd (Ω (x.lt q) e) (Α0 _)
def HOk.kept(x:HOk P w H h)(k:∀ b u,h.get? b=some u->h'.get? b=some u):HOk P w H h':=fun a o e =>
 (x a o e).sO (fun b u _ q=>k b u q) (fun _ q=>q) fun _ _ q=>q
def HOk.laid(x:HOk P w H h)(k:∀ b u,h.get? b=some u->h'.get? b=some u)(hp:h.objs.size<=a)(new:eF P w (Ul H a o) h' a o):HOk P w (Ul H a o) h':=fun b u e=>by
 have hn:=x.fresh hp;by_cases hb:b=a
 ·subst hb;rw[aA] at e;cases e;exact new
 ·rw[aE hb] at e;exact(x b u e).sO (fun c v _ q=>k c v q) (fun c q=>by rw[aE (aF q hn)];exact q) fun c xs q=>by rw[aE (aF q hn)];exact q
end
end
def Rd(H:Hp)(a:Addr)(u:HO):Prop:=H a=some u\/∃ o,H a=some (.UJ o u)
def Rd.ok{u:HO}(r:Rd H a u)(x:HOk P w H h):eF P w H h a u:=by
 rcases r with r|⟨o,r⟩
 ·exact x a u r
 ·obtain⟨_,q⟩:=x a _ r;exact q
noncomputable def Mut:Option HO->Prop
 | some (.lst _)=>True
 | some (.dK _)=>True
 | some (.dT _)=>True
 | some (.set _ _)=>True
 | some (.ins _ _ _)=>True
 | some (.ext _)=>True
 | _=>False
section
variable{h':Heap}{x e:Addr}{o':HO}
def HOk.write(ok:HOk P w H h)(mu:Mut (H x))(he:e=x\/H e=some (.own x))(k:∀ b u,b≠e->h.get? b=some u->h'.get? b=some u)(Y0:∃ u,h'.get? e=some u)(new:eF P w (Ul H x o') h' x o'):HOk P w (Ul H x o') h':=fun b u q=>by
 have Z8:∀ c y,H c=some (.own y)->c≠x:=fun c y r z=>by subst z;rw[r] at mu;exact mu
 have aa6:∀ c xs,H c=some (.tup xs)->c≠x:=fun c xs r z=>by subst z;rw[r] at mu;exact mu
 by_cases hb:b=x
 ·subst hb;rw[aA] at q;cases q;exact new
 ·rw[aE hb] at q;by_cases Yp:b=e
  ·have q':H b=some (.own x):=by
    rcases he with z|z
    ·exact absurd (Yp.trans z) hb
    ·rw[Yp];exact z
   rw[q] at q';cases q';obtain⟨v,hv⟩:=Y0;exact⟨v,by rw[Yp];exact hv⟩
  ·refine(ok b u q).sO (fun c v hc r=>k c v ?_ r) (fun c r=>by rw[aE (Z8 c b r)];exact r) fun c xs r=>by rw[aE (aa6 c xs r)];exact r
   rcases hc with rfl|hc
   ·exact Yp
   ·rintro rfl;rcases he with z|z
    ·exact Z8 c b hc z
    ·rw[hc] at z;cases z;exact hb rfl
end
structure Un(fs ex:List Addr)(H H':Hp)(h h':Heap):Prop where
 keep:∀ b o,h.get? b=some o->H b=none->b∉fs->b∉ex->h'.get? b=some o
 slot:∀ b o,h.get? b=some o->H b=none->b∈fs->b∉ex->∃ sl,h'.get? b=some {o with slots:=sl}
 free:∀ b o,h.get? b=some o->H b=none->b∉ex->H' b=none
 there:∀ b o,h.get? b=some o->b∉ex->∃ o',h'.get? b=some o'
 yC:∀ b xs,H b=some (.tup xs)->H' b=some (.tup xs)
 uL:∀ b o u,H b=some (.UJ o u)->H' b=some (.UJ o u)
 yB:∀ b ps,H b=some (.Yd ps)->∃ more,H' b=some (.Yd (ps++more))
section
mutual
example:=[(hm b _ q fun z=>z),aF q hn]
variable{fs XO ex ex':List Addr}{H1 H2:Hp}{h1 h2 h':Heap}{x e:Addr}{o:HO}
def Un.any(u:Un fs ex H H1 h h1){ob:Obj}(q:h.get? b=some ob)(n:H b=none)(hx:b∉ex):∃ sl,h1.get? b=some {ob with slots:=sl}:=by
 by_cases hb:b∈fs
 ·exact u.slot b ob q n hb hx
 ·exact⟨ob.slots,u.keep b ob q n hb hx⟩
def Un.kept(k:∀ b u,h.get? b=some u->h'.get? b=some u):Un fs ex H H h h' :=
 ⟨fun b ob q _ _ _=>k b ob q,fun b ob q _ _ _=>⟨ob.slots,k b ob q⟩,fun _ _ _ n _=>n,fun b ob q _=>⟨ob,k b ob q⟩,fun _ _ q=>q,fun _ _ _ q=>q,fun _ ps q=>⟨#[],by rw[q];simp⟩⟩
def Un.refl:Un fs ex H H h h:=Un.kept fun _ _ q=>q
def Un.laid(k:∀ b u,h.get? b=some u->h'.get? b=some u)(hp:h.objs.size<=a)(hn:H a=none):Un fs ex H (Ul H a o) h h' where
 keep:=fun b u q _ _ _=>k b u q
 slot:=fun b u q _ _ _=>⟨u.slots,k b u q⟩
 free:=fun b u q n _=>by rw[aE (Υ (Ω (Λ q) hp))];exact n
 there:=fun b u q _=>⟨u,k b u q⟩
 yC:=fun b xs q=>by rw[aE 1e0];exact q
 uL:=fun b u xs q=>by rw[aE 1e0];exact q
 yB:=fun b ps q=>⟨#[],by rw[aE 1e0,q];simp⟩
def Un.write(mu:Mut (H x))(he:e=x\/H e=some (.own x))(k:∀ b u,b≠e->h.get? b=some u->h'.get? b=some u)(Y0:∃ u,h'.get? e=some u):Un fs ex H (Ul H x o) h h':=by
 have hx:∀ b,H b=none->b≠x:=fun b n z=>by subst z;rw[n] at mu;exact mu
 have hb:∀ b,H b=none->b≠e:=fun b n z=>by
  subst z;rcases he with r|r
  ·exact hx b n r
  ·rw[n] at r;cases r
 have hm:∀ b u,H b=some u->¬ Mut (some u)->b≠x:=fun b u q nm z=>by subst z;rw[q] at mu;exact nm mu
 refine⟨fun b u q n _ _=>k b u (hb b n) q,fun b u q n _ _=>⟨u.slots,k b u (hb b n) q⟩,fun b u q n _=>by rw[aE (hx b n)];exact n,fun b u q _=>?_,
  fun b xs q=>by rw[aE 0e0];exact q,fun b u xs q=>by rw[aE 0e0];exact q,fun b ps q=>⟨#[],by rw[aE 0e0,q];simp⟩⟩
 by_cases Yp:b=e
 ·subst Yp;exact Y0
 ·exact⟨u,k b u Yp q⟩
end
end
mutual
example:=[Addr×Obj,trk h H]
def trk(h:Heap)(H:Hp):List Addr:=(List.range h.objs.size).filter fun a=>(H a).isSome
def Ab(h:Heap)(H:Hp):Heap:=PySem.W.hideAll h 1e0
def Fv(h:Heap)(H:Hp):(Ab h H).objs.size=h.objs.size:=PySem.W.hideAll_size _ _
def Ih(e:h.get? b=some o)(n:H b=none):(Ab h H).get? b=some o :=
 PySem.W.hideAll_get _ e fun hm=>by
  have q:(H b).isSome=true:=(Α6.mp hm).2;rw[n] at q;simp at q
def LB(e:(Ab h H).get? b=some o):h.get? b=some o/\H b=none:=by
 have e':h.get? b=some o:=PySem.W.of_hideAll 1e0 e;refine⟨e',?_⟩;cases q:H b with
 | none=>rfl
 | some x =>
  have hm:b∈trk h H:=Α6.mpr ⟨List.mem_range.mpr (Λ e'),by simp[q]⟩;have z:(Ab h H).get? b=none:=PySem.W.hideAll_none 1e0 hm;rw[z] at e;cases e
def Ka(g h:Heap)(L:Addr):List 0e0:=(List.range h.objs.size).filterMap fun a=>if a=L\/(g.get? a).isSome=true then none else (h.get? a).map fun o=>(a,o)
def rest(g h:Heap)(L d:Addr):List 0e0:=(Ka g h L).filter fun p=>decide (p.1≠d)
structure Mod(K:q0B)(mg:q0C)(base:Heap):Prop where
 kin:K.In base
 glob:base.Ns mainGlobals mg
 blt:∃ mb,base.Ns builtinsNs mb/\∀ x:Str,x≠"__name__"->mb x=bootBuiltins x
 nolimit:base.NoLimit
structure Cx where
 prog:Program
 w:World
 K:q0B
 mg:Str->Option Value
 base:Heap
 A:Around
 N:List Str
 s₀:Shared
 H₀:Hp
 env:Env
 outer:List Env
 stack:List Env
 ex:List Addr
 fn:Str->Bool
 calm:Bool
 pn:List 0e0
 xe:Value->Shared->Prop
variable{X:Cx}
def frs(l:List Env):List Addr:=l.filterMap (·.frame)
abbrev Cx.fs(X:Cx):List Addr:=frs X.outer
def Vis(sc:Scope)(x:Str):Prop:=sc.names.lookup x=some .local\/sc.names.lookup x=some .cell\/sc.names.lookup x=some .free
def Loc(sc:Scope)(x:Str):Prop:=sc.names.lookup x=some .local\/sc.names.lookup x=some .cell
def Look(env:Env)(h:Heap)(m:q0C)(x:Str)(u:Value):Prop :=
 (env.kindOf x=some .local/\m x=some u)\/((env.kindOf x=some .cell\/env.kindOf x=some .free)/\∃ c,env.cells.lookup x=some c/\h.IsCell c (some u))
structure Cx.Ok(X:Cx):Prop where
 mod:Mod X.K X.mg X.base
 kind:X.env.scope.kind=.function
 glob:X.env.globals=mainGlobals
 blt:X.env.builtins=builtinsNs
 above:X.s₀.heap.objs.size<=X.env.locals
 inj:∀ x y c,X.env.cells.lookup x=some c->X.env.cells.lookup y=some c->x=y
 has:∀ x,(X.env.kindOf x=some .cell\/X.env.kindOf x=some .free)->∃ c,X.env.cells.lookup x=some c
 cab:∀ x c,X.fn x=true->X.env.cells.lookup x=some c->X.s₀.heap.objs.size<=c
 hd:X.calm=true->X.A.handled=none
 frames:X.A.frames=some X.stack
 stk:X.stack=X.outer\/(X.stack=X.env::X.outer/\X.env.frame=some X.env.locals)
 exf:∀ b∈X.ex,b≠X.env.locals/\∀ x c,X.env.cells.lookup x=some c->c≠b
 bs:∀ b o,X.base.get? b=some o->X.s₀.heap.get? b=some o/\X.H₀ b=none
 bsz:X.base.objs.size<=X.s₀.heap.objs.size
 BF:∀ b o,X.base.get? b=some o->b∉X.ex
 Fp:∀ b∈X.ex,b∉X.fs
 oT:X.s₀.heap.FunFrames X.base X.outer
 frf:∀ b∈X.fs,X.H₀ b=none
structure Uo(X:Cx)(Uk:List 0e0)(Z:List (Option V))(H:Hp)(s:Shared):Prop where
 ok:X.Ok
 os:s.os=X.s₀.os
 bare:AllBare s.gens
 base:Un X.fs X.ex X.H₀ H X.s₀.heap s.heap
 loc:∃ m,s.heap.Ns X.env.locals m/\∀(i:Nat) (x:Str) (v:V),X.N[i]?=some x->Z[i]?=some (some v)->Vis X.env.scope x->∃ u,bP v u/\Look X.env s.heap m x u
 cell:∀ x c,X.env.cells.lookup x=some c->∃ v,s.heap.IsCell c v
 free:H X.env.locals=none
 j6:∀ x c,X.env.cells.lookup x=some c->H c=none
 pin:∀ p∈X.pn++Uk,s.heap.get? p.1=some p.2/\H p.1=none/\p.1≠X.env.locals/\p.1∉X.fs/\∀ v,p.2.data≠.cell v
 Ut:HOk X.prog X.w H s.heap
 len:Z.length=X.N.length
end
section
mutual
example:=[(by simp),Ω (Λ e) I.ok.above,X9 b o e hx,Υ (Ω (Λ e) (I.ok.cab x c hfn hc)),(b∈X.ex\/X.s₀.heap.objs.size<=b),I.base.keep b o e n hb hx,(fun z=>hc (by simp[z])),I.base.free b o e n hx,I.j6 x c e,storeName X.env x u,Z.set i (some v),I.ok.BF b o e,frs X.stack,(fun _ q=>q),Ne.symm hj,I.Yk x c e,neL b o e]
variable{Z:List (Option V)}{H':Hp}{h':Heap}
def Cx.Ok.To(ok:X.Ok)(e:X.base.get? b=some o):b∉X.fs:=fun hb=>by
 have:=(ok.oT.mem hb).1;rw[e] at this;cases this
def Uo.bs(I:Uo X Uk Z H s):∀ b o,X.base.get? b=some o->s.heap.get? b=some o/\H b=none:=fun b o e =>
 ⟨I.base.keep b o (I.ok.bs b o e).1 (I.ok.bs b o e).2 (I.ok.To e) 1e1,I.base.free b o (I.ok.bs b o e).1 (I.ok.bs b o e).2 1e1⟩
def Uo.bk(I:Uo X Uk Z H s):∀ b o,X.base.get? b=some o->s.heap.get? b=some o:=fun b o e=>(I.bs b o e).1
def Uo.mod(I:Uo X Uk Z H s):Mod X.K X.mg X.base:=I.ok.mod
def Uo.kIn(I:Uo X Uk Z H s):X.K.In s.heap:=I.ok.mod.kin.keeps I.bk
def Uo.fr(I:Uo X Uk Z H s):∃ m,Fr X.base X.env.locals s.heap m :=
 let ⟨m,hn,_⟩:=I.loc
 ⟨m,hn,I.bk,Χ I.ok.bsz I.ok.above⟩
def Uo.lt(I:Uo X Uk Z H s):X.env.locals < s.heap.objs.size:=let ⟨_,hn,_⟩:=I.loc;hn.lt
def Uo.sz(I:Uo X Uk Z H s):X.s₀.heap.objs.size<=s.heap.objs.size:=Χ I.ok.above (Nat.le_of_lt I.lt)
def Uo.RB(I:Uo X Uk Z H s)(h:s.heap.objs.size<=a):a∉X.fs:=fun hb=>by
 obtain⟨_,o,ho,_⟩:=I.ok.oT.mem hb;exact absurd (Ω (Λ ho) (Χ I.sz h)) (Α0 _)
def Uo.Yk(I:Uo X Uk Z H s):∀ x c,X.env.cells.lookup x=some c->c≠X.env.locals:=fun x c e z=>by
 obtain⟨v,o,ho,hd⟩:=I.cell x c e;obtain⟨m,⟨o',es,ep,WC,ZH,_⟩,_⟩:=I.loc;rw[z,WC] at ho;cases ho;rw[ZH] at hd;cases hd
def Uo.oT(I:Uo X Uk Z H s):s.heap.FunFrames X.base X.outer:=by
 have all:∀(l:List Env),(∀ b∈frs l,b∈X.fs)->X.s₀.heap.FunFrames X.base l->s.heap.FunFrames X.base l:=by
  intro l
  induction l with
  | nil=>intro _ _;trivial
  | cons env r ih =>
   intro hs hl;obtain⟨hk,⟨L,o,hf,hn,ho,hd⟩,hr⟩:=hl;have hL:L∈X.fs:=hs L (by unfold frs;rw[List.filterMap_cons,hf];exact List.mem_cons_self);obtain⟨sl,e⟩:=I.base.slot L o ho (I.ok.frf L hL) hL fun z=>I.ok.Fp L z hL;exact⟨hk,⟨L,_,hf,hn,e,hd⟩,ih (fun b hb=>hs b (by unfold frs;rw[List.filterMap_cons,hf];exact ϑ _ hb)) hr⟩
 exact all X.outer (fun _ hb=>hb) I.ok.oT
theorem Uo.stack(I:Uo X Uk Z H s):s.heap.FunFrames X.base X.stack:=by
 rcases I.ok.stk with e|⟨e,hf⟩
 ·rw[e];exact I.oT
 ·rw[e];obtain⟨m,hn,_⟩:=I.loc;refine .cons (by rw[I.ok.kind];decide) hf hn ?_ I.oT;exact Heap.get?_none_of_le (Χ I.ok.bsz I.ok.above)
def Uo.rG(I:Uo X Uk Z H s):∀ b∈frs X.stack,b∈X.env.locals::X.fs:=fun b hb=>by
 rcases I.ok.stk with e|⟨e,hf⟩
 ·rw[e] at hb;exact ϑ _ hb
 ·rw[e] at hb;unfold frs at hb;rw[List.filterMap_cons,hf] at hb;exact hb
def Uo.AL(I:Uo X Uk Z H s):∀ b∈frs X.stack,H b=none:=fun b hb=>by
 rcases Α.mp (I.rG b hb) with e|hb
 ·rw[e];exact I.free
 ·obtain⟨_,o,ho,_⟩:=I.ok.oT.mem hb;exact I.base.free b o ho (I.ok.frf b hb) fun z=>I.ok.Fp b z hb
def Uo.step{d':Drawn}(I:Uo X Uk Z H s)(Xk:∀ b∈ch,4e0/\b≠X.env.locals/\(∀ x c,X.env.cells.lookup x=some c->c≠b)/\∀ p∈X.pn++Uk,p.1≠b)(keep:∀ b o,b≠X.env.locals->b∉X.fs->b∉ch->s.heap.get? b=some o->H b=none->h'.get? b=some o)(slot:∀ b o,b≠X.env.locals->b∈X.fs->b∉ch->s.heap.get? b=some o->H b=none->∃ sl,h'.get? b=some {o with slots:=sl})(free:∀ b o,b∉ch->s.heap.get? b=some o->H b=none->H' b=none)(there:∀ b o,b∉ch->s.heap.get? b=some o->∃ o',h'.get? b=some o')(yC:∀ b xs,H b=some (.tup xs)->H' b=some (.tup xs))(uL:∀ b o u,H b=some (.UJ o u)->H' b=some (.UJ o u))(yB:∀ b ps,H b=some (.Yd ps)->∃ more,H' b=some (.Yd (ps++more)))(ns:∀ m,s.heap.Ns X.env.locals m->h'.Ns X.env.locals m)(Ut:HOk X.prog X.w H' h')(hg:AllBare g') : Uo X Uk Z H' {s with heap:=h',gens:=g',drawn:=d',toks:=t'}:=by
 have neL:∀ b o,X.s₀.heap.get? b=some o->b≠X.env.locals:=fun b o e=>Υ 1e0;have X9:∀ b o,X.s₀.heap.get? b=some o->b∉X.ex->b∉ch:=fun b o e hx hb=>by
  rcases(Xk b hb).1 with z|z
  ·exact hx z
  ·exact absurd (Ω (Λ e) z) (Α0 _)
 have cellK:∀ x c,X.env.cells.lookup x=some c->∀ v,s.heap.IsCell c v->h'.IsCell c v:=fun x c e v ⟨o,ho,hd⟩=>by
  have Z5:c∉ch:=fun z=>(Xk c z).2.2.1 x c e rfl;by_cases hc:c∈X.fs
  ·obtain⟨sl,q⟩:=slot c o 5e1 hc Z5 ho 8e0;exact⟨_,q,hd⟩
  ·exact⟨o,keep c o 5e1 hc Z5 ho 8e0,hd⟩
 refine⟨I.ok,I.os,hg,⟨fun b o e n hb hx=>?_,fun b o e n hb hx=>?_,fun b o e n hx=>?_,fun b o e hx=>?_,fun b xs e=>yC b xs (I.base.yC b xs e),fun b o xs e=>uL b o xs (I.base.uL b o xs e),fun b ps e=>?_⟩,?_,fun x c e=>?_,?_,fun x c e=>?_,fun p hp=>?_,Ut,I.len⟩
 ·exact keep b o 6e1 hb 2e0 5e0 7e0
 ·obtain⟨sl,e1⟩:=I.base.slot b o e n hb hx;obtain⟨UK,e2⟩:=slot b _ 6e1 hb 2e0 e1 7e0;exact⟨UK,e2⟩
 ·obtain⟨o',e1⟩:=I.base.there b o e hx;exact free b o' 2e0 e1 7e0
 ·obtain⟨o',e1⟩:=I.base.there b o e hx;exact there b o' 2e0 e1
 ·obtain⟨m1,e1⟩:=I.base.yB b ps e;obtain⟨m2,e2⟩:=yB b _ e1;exact⟨m1++m2,by rw[e2,Array.append_assoc]⟩
 ·obtain⟨m,hn,hl⟩:=I.loc;refine⟨m,ns m hn,fun i x v e1 e2 e3=>?_⟩;obtain⟨u,r,l⟩:=hl i x v e1 e2 e3;refine⟨u,r,?_⟩;rcases l with l|⟨k,c,e,z⟩
  ·exact .inl l
  ·exact .inr ⟨k,c,e,cellK x c e _ z⟩
 ·obtain⟨v,z⟩:=I.cell x c e;exact⟨v,cellK x c e v z⟩
 ·obtain⟨m,⟨o,_,_,ho,_⟩,_⟩:=I.loc;exact free _ o (fun z=>(Xk _ z).2.1 rfl) ho I.free
 ·obtain⟨v,o,ho,hd⟩:=I.cell x c e;exact free c o (fun z=>(Xk c z).2.2.1 x c e rfl) ho 8e0
 ·obtain⟨e,n,ne,nf,d⟩:=I.pin p hp;have Z5:p.1∉ch:=fun z=>(Xk p.1 z).2.2.2 p hp rfl;exact⟨keep p.1 p.2 ne nf Z5 e n,free p.1 p.2 Z5 e n,ne,nf,d⟩
def Uo.un(I:Uo X Uk Z H s)(u:Un X.fs [] H H' s.heap h')(Ut:HOk X.prog X.w H' h'):Uo X Uk Z H' {s with heap:=h',toks:=t'}:=by
 obtain⟨m,⟨o,es,ep,ho,r⟩,_⟩:=id I.loc;obtain⟨sl,hL⟩:=u.any ho I.free 0e0;exact I.step (g':=s.gens) (d':=s.drawn) (ch:=[]) (fun _ z=>nomatch z) (fun b o _ hb _ e n=>u.keep b o e n hb 0e0) (fun b o _ hb _ e n=>u.slot b o e n hb 0e0) (fun b o _ e n=>u.free b o e n 0e0) (fun b o _ e=>u.there b o e 0e0) u.yC u.uL u.yB (fun m' hm=>by
  obtain⟨o',Zu,WN,WC,r'⟩:=hm;rw[ho] at WC;cases WC;exact⟨_,Zu,WN,hL,r'⟩) Ut I.bare
def Uo.call{d':Drawn}(I:Uo X Uk Z H s)(u:Un 2e1 ch H H' s.heap h')(Ut:HOk X.prog X.w H' h')(hg:AllBare g')(Xk:∀ b∈ch,4e0/\b≠X.env.locals/\(∀ x c,X.env.cells.lookup x=some c->c≠b)/\∀ p∈X.pn++Uk,p.1≠b) : Uo X Uk Z H' {s with heap:=h',gens:=g',drawn:=d',toks:=t'}:=by
 obtain⟨m,⟨o,es,ep,ho,r⟩,_⟩:=id I.loc;obtain⟨sl,hL⟩:=u.any ho I.free fun z=>(Xk _ z).2.1 rfl;exact I.step (ch:=ch) Xk (fun b o hL hb hc e n=>u.keep b o e n (fun z=>(Α.mp (I.rG b z)).elim hL hb) hc) (fun b o _ _ hc e n=>u.any e n hc) (fun b o hc e n=>u.free b o e n hc) (fun b o hc e=>u.there b o e hc) u.yC u.uL u.yB (fun m' hm=>by
  obtain⟨o',Zu,WN,WC,r'⟩:=hm;rw[ho] at WC;cases WC;exact⟨_,Zu,WN,hL,r'⟩) Ut hg
def Uo.turned{it:Addr}(I:Uo X Uk Z H s)(k:∀ b o,b≠it->s.heap.get? b=some o->h'.get? b=some o)(hn:H it=none)(hL:it≠X.env.locals)(h1:it∈X.ex\/X.s₀.heap.objs.size<=it)(h2:∀ x c,X.env.cells.lookup x=some c->c≠it)(h3:∀ p∈X.pn++Uk,p.1≠it):Uo X Uk Z H {s with heap:=h',toks:=t'}:=by
 have nit:∀ b u,H b=some u->b≠it:=fun b u e z=>by rw[z,hn] at e;cases e
 refine I.step (g':=s.gens) (d':=s.drawn) (ch:=[it]) (fun b hb=>?_) (fun b o _ _ hc e _=>k b o 6e0 e) (fun b o _ _ hc e _=>⟨o.slots,k b o 6e0 e⟩) (fun _ _ _ _ n=>n)
  (fun b o hc e=>⟨o,k b o 6e0 e⟩) (fun _ _ e=>e) (fun _ _ _ e=>e) (fun b ps e=>⟨#[],by rw[e];simp⟩) (fun m hm=>?_) (fun b u e=>?_) I.bare
 ·have e:b=it:=by simpa using hb
  subst e;exact⟨h1,hL,h2,h3⟩
 ·obtain⟨o,es,ep,ho,r⟩:=hm;exact⟨o,es,ep,k _ o (Ne.symm hL) ho,r⟩
 ·refine(I.Ut b u e).sO (fun c v hc q=>k c v ?_ q) 3e1 fun _ _ q=>q;rcases hc with z|z
  ·rw[z];exact nit b u e
  ·exact nit c _ z
def Uo.tok(I:Uo X Uk Z H s)(t:Nat):Uo X Uk Z H {s with toks:=t}:=I.un (h':=s.heap) (t':=t) Un.refl I.Ut
def Uo.kept(I:Uo X Uk Z H s)(k:∀ b u,s.heap.get? b=some u->h'.get? b=some u):Uo X Uk Z H {s with heap:=h',toks:=t'}:=I.un (Un.kept k) (I.Ut.kept k)
def Uo.laid{o:HO}(I:Uo X Uk Z H s)(k:∀ b u,s.heap.get? b=some u->h'.get? b=some u)(hp:s.heap.objs.size<=a)(new:eF X.prog X.w (Ul H a o) h' a o) : Uo X Uk Z (Ul H a o) {s with heap:=h',toks:=t'}:=I.un (Un.laid k hp (I.Ut.fresh hp)) (I.Ut.laid k hp new)
def Uo.write{x e:Addr}{o:HO}(I:Uo X Uk Z H s)(mu:Mut (H x))(he:e=x\/H e=some (.own x))(k:∀ b u,b≠e->s.heap.get? b=some u->h'.get? b=some u)(Y0:∃ u,h'.get? e=some u)(new:eF X.prog X.w (Ul H x o) h' x o):Uo X Uk Z (Ul H x o) {s with heap:=h',toks:=t'}:=I.un (Un.write mu he k Y0) (I.Ut.write mu he k Y0 new)
def Uo.pI{Yb:List (Addr×Obj)}(I:Uo X Uk Z H s)(h:∀ p∈Yb,s.heap.get? p.1=some p.2/\H p.1=none/\p.1≠X.env.locals/\p.1∉X.fs/\∀ v,p.2.data≠.cell v):Uo X Yb Z H s :=
 ⟨I.ok,I.os,I.bare,I.base,I.loc,I.cell,I.free,I.j6,fun p hp=>(Κ.mp hp).elim (fun z=>I.pin p (Ε9 _ z)) (h p),I.Ut,I.len⟩
def BE{N:List Str}(hN:N.Nodup){j:Nat}(a:N[i]?=some x)(b:N[j]?=some x):i=j:=by
 obtain⟨h1,e1⟩:=Μ.mp a;obtain⟨h2,e2⟩:=Μ.mp b;exact(List.getElem_inj hN).mp (e1.trans e2.symm)
theorem rH(I:Uo X Uk Z H s)(hN:X.N.Nodup)(hi:X.N[i]?=some x)(hx:Loc X.env.scope x)(r:bP v u)(h:∀ s',Uo X Uk 0e1 H s'->(∃ a,Heap.SameBut a s.heap s'.heap/\(a=X.env.locals\/X.env.cells.lookup x=some a))->Q () s')(hf:X.fn x=true\/X.env.scope.names.lookup x=some .local:=by first|exact .inl rfl|exact .inr rfl|assumption):wpAny M A 9e0 Q E s:=by
 obtain⟨m,hn,hl⟩:=id I.loc;have aaP:(X.env.scope.kind==.class||(X.env.scope.kind==.module&&X.env.locals !=X.env.globals))=false:=by rw[I.ok.kind];rfl
 have hiσ:i < Z.length:=by rw[I.len];exact(Μ.mp hi).1
 have Yk:=I.Yk;have tracked:∀ {a:Addr} {h':Heap},(∃ o,s.heap.get? a=some o/\H a=none)->Heap.SameBut a s.heap h'->HOk X.prog X.w H h':=fun {a h'} ha hs b ob e=>by
  obtain⟨_,_,XU⟩:=ha;refine(I.Ut b ob e).sO (fun c w' hc q=>(hs.2 c ?_).trans q) 3e1 fun _ _ q=>q;rintro rfl;rcases hc with rfl|hc
  ·rw[XU] at e;cases e
  ·rw[XU] at hc;cases hc
 rcases hx with hk|hk
 ·refine wpAny_storeName_local hk hn (fun h' hn' hs=>?_) aaP;obtain⟨oL,_,_,hoL,_⟩:=id hn;refine h _ ⟨I.ok,I.os,I.bare,⟨fun b o e n hb hx=>?_,fun b o e n hb hx=>?_,I.base.free,fun b o e hx=>?_,I.base.yC,I.base.uL,I.base.yB⟩,⟨_,hn',fun j y v' e1 e2 e3=>?_⟩,fun y c e=>?_,I.free,I.j6,fun p hp=>?_,tracked ⟨oL,hoL,I.free⟩ hs,by simpa using I.len⟩ ⟨_,hs,.inl rfl⟩
  ·exact(hs.2 b (Υ 1e0)).trans 5e0
  ·obtain⟨sl,e1⟩:=I.base.slot b o e n hb hx;exact⟨sl,(hs.2 b (Υ 1e0)).trans e1⟩
  ·obtain⟨o',e1⟩:=I.base.there b o e hx;exact⟨o',(hs.2 b (Υ 1e0)).trans e1⟩
  ·by_cases hj:j=i
   ·subst hj;rw[hi] at e1;cases e1;rw[List.getElem?_set_self hiσ] at e2;cases e2;exact⟨u,r,.inl ⟨hk,by simp⟩⟩
   ·rw[List.getElem?_set_ne 4e1] at e2;obtain⟨u',r',q⟩:=hl j y v' e1 e2 e3;refine⟨u',r',?_⟩;rcases q with⟨k,e⟩|⟨k,c,e,z⟩
    ·refine .inl ⟨k,?_⟩;have:y≠x:=fun e=>hj (BE hN e1 (e▸hi));simp[this,e]
    ·exact .inr ⟨k,c,e,z.sameBut hs (Yk y c e)⟩
  ·obtain⟨w',z⟩:=I.cell y c e;exact⟨w',z.sameBut hs (Yk y c e)⟩
  ·obtain⟨e,n,ne,nf,d⟩:=I.pin p hp;exact⟨(hs.2 p.1 ne).trans e,n,ne,nf,d⟩
 ·have hfn:X.fn x=true:=by
   rcases hf with z|z
   ·exact z
   ·rw[z] at hk;cases hk
  obtain⟨c,hc⟩:=I.ok.has x (.inl hk);obtain⟨w',z⟩:=I.cell x c hc;refine wpAny_storeName_cell I.ok.kind hk hc z (fun h' WT hs=>?_);obtain⟨oc,hoc,aaX⟩:=id z;refine h {s with heap:=h'} ⟨I.ok,I.os,I.bare,⟨fun b o e n hb hx=>?_,fun b o e n hb hx=>?_,I.base.free,fun b o e hx=>?_,I.base.yC,I.base.uL,I.base.yB⟩,⟨m,hn.sameBut hs (Ne.symm (Yk x c hc)),fun j y v' e1 e2 e3=>?_⟩,fun y c' e=>?_,I.free,I.j6,fun p hp=>?_,tracked ⟨oc,hoc,I.j6 x c hc⟩ hs,by simpa using I.len⟩ ⟨c,hs,.inr hc⟩
  ·exact(hs.2 b 3e0).trans 5e0
  ·obtain⟨sl,e1⟩:=I.base.slot b o e n hb hx;exact⟨sl,(hs.2 b 3e0).trans e1⟩
  ·obtain⟨o',e1⟩:=I.base.there b o e hx;exact⟨o',(hs.2 b 3e0).trans e1⟩
  ·by_cases hj:j=i
   ·subst hj;rw[hi] at e1;cases e1;rw[List.getElem?_set_self hiσ] at e2;cases e2;exact⟨u,r,.inr ⟨.inl hk,c,hc,WT⟩⟩
   ·rw[List.getElem?_set_ne 4e1] at e2;obtain⟨u',r',q⟩:=hl j y v' e1 e2 e3;refine⟨u',r',?_⟩;rcases q with q|⟨k,c',e,z'⟩
    ·exact .inl q
    ·refine .inr ⟨k,c',e,z'.sameBut hs ?_⟩;rintro rfl;exact hj (BE hN e1 (I.ok.inj _ _ _ e hc▸hi))
  ·by_cases hcc:c'=c
   ·subst hcc;exact⟨_,WT⟩
   ·obtain⟨w2,z2⟩:=I.cell y c' e;exact⟨w2,z2.sameBut hs hcc⟩
  ·obtain⟨e,n,ne,nf,d⟩:=I.pin p hp;refine⟨(hs.2 p.1 ?_).trans e,n,ne,nf,d⟩;intro q;rw[q,hoc] at e;have q':oc=p.2:=ϖ e;exact d w' (by rw[<- q'];exact aaX)
theorem xE(I:Uo X Uk Z H s)(hN:X.N.Nodup)(hi:X.N[i]?=some x)(hx:Loc X.env.scope x)(r:bP v u)(h:∀ s',Uo X Uk 0e1 H s'->Q () s')(hf:X.fn x=true\/X.env.scope.names.lookup x=some .local:=by first|exact .inl rfl|exact .inr rfl|assumption):wpAny M A 9e0 Q E s :=
 rH I hN hi hx r (fun s' I' _=>h s' I') hf
def Uo.Qe(I:Uo X Uk Z H s)(ho:s'.os=s.os)(u:Un 2e1 ch H H' s.heap s'.heap)(Ut:HOk X.prog X.w H' s'.heap)(hg:AllBare s'.gens)(Xk:∀ b∈ch,4e0/\b≠X.env.locals/\(∀ x c,X.env.cells.lookup x=some c->c≠b)/\∀ p∈X.pn++Uk,p.1≠b):Uo X Uk Z H' s':=by
 obtain⟨h',g',d',t',o'⟩:=s';have e:o'=s.os:=ho;subst e;exact I.call (g':=g') (t':=t') (d':=d') u Ut hg Xk
end
end
mutual
example:=[Addr×Obj,model X.prog X.w,eval e X.env,TP X Uk Z Q,SP X Uk D]
abbrev XK:=Value->Option Addr->Hp->Prop
abbrev St:=List (Option V)
variable{Z:St}
abbrev VK:=V->Hp->Prop
abbrev TE:=St->Hp->VK->Prop
variable{t te:TE}
abbrev TT:=St->Hp->(Bool->Hp->Prop)->Prop
abbrev TA:=St->Hp->(List V->Hp->Prop)->Prop
structure Ends where
 nx:St->Hp->Prop
 rt:VK
 bk:St->Hp->Prop:=fun _ _=>False
 ct:St->Hp->Prop:=fun _ _=>False
variable{D:Ends}
abbrev TS:=Ends->St->Hp->Prop
variable{tb:TS}
inductive EP(X:Cx)(Uk:List 0e0)(Z:St)(Q:VK)(u:Value)(s':Shared):Prop
 | mk (v:V) (H':Hp) (I:Uo X Uk Z H' s') (r:bP v u) (q:Q v H'):EP X Uk Z Q u s'
def TP(X:Cx)(Uk:List 0e0)(Z:St)(Q:Bool->Hp->Prop)(b:Bool)(s':Shared):Prop:=∃ H',Uo X Uk Z H' s'/\Q b H'
inductive AP(X:Cx)(Uk:List 0e0)(Z:St)(Q:List V->Hp->Prop)(us:List Value)(s':Shared):Prop
 | mk (vs:List V) (H':Hp) (I:Uo X Uk Z H' s') (r:Uq vs us) (q:Q vs H'):AP X Uk Z Q us s'
def SP(X:Cx)(Uk:List 0e0)(D:Ends)(f:Flow)(s':Shared):Prop :=
 match f with
 | .next=>∃ Z' H',Uo X Uk Z' H' s'/\D.nx Z' H'
 | .brk=>∃ Z' H',Uo X Uk Z' H' s'/\D.bk Z' H'
 | .cont=>∃ Z' H',Uo X Uk Z' H' s'/\D.ct Z' H'
 | .ret u=>∃ v Z' H',Uo X Uk Z' H' s'/\bP v u/\D.rt v H'
def PE(X:Cx)(e:Expr)(t:TE):Prop :=
 ∀(Uk:List 0e0) (s:Shared) (Z:St) (H:Hp) (Q:VK),Uo X Uk Z H s->t Z H Q->wpAny 1e0 X.A 2e0 (EP X Uk Z Q) X.xe s
def PT(X:Cx)(e:Expr)(t:TT):Prop :=
 ∀(Uk:List 0e0) (s:Shared) (Z:St) (H:Hp) (Q:Bool->Hp->Prop),Uo X Uk Z H s->t Z H Q->wpAny 1e0 X.A (isTrue e X.env 2e0) 3e0 X.xe s
def PW(X:Cx)(e:Expr)(t:TT):Prop :=
 ∀(whole:Sem Value) (Uk:List 0e0) (s:Shared) (Z:St) (H:Hp) (Q:Bool->Hp->Prop),Uo X Uk Z H s->t Z H Q->wpAny 1e0 X.A (isTrue e X.env whole) 3e0 X.xe s
def PW.pt{t:TT}(h:PW X e t):PT X e t:=h _
def PA(X:Cx)(es:List Expr)(t:TA):Prop :=
 ∀(pos:Pos) (Uk:List 0e0) (s:Shared) (Z:St) (H:Hp) (Q:List V->Hp->Prop),Uo X Uk Z H s->t Z H Q->wpAny 1e0 X.A (spliced (backTo pos (starEach es X.env))) (AP X Uk Z Q) X.xe s
def PS(X:Cx)(st:Stmt)(t:TS):Prop :=
 ∀(Uk:List 0e0) (s:Shared) (Z:St) (H:Hp) (D:Ends),Uo X Uk Z H s->t D Z H->wpAny 1e0 X.A (exec st X.env) 4e0 X.xe s
def Vv(X:Cx)(st:List Stmt)(t:TS):Prop :=
 ∀(Uk:List 0e0) (s:Shared) (Z:St) (H:Hp) (D:Ends),Uo X Uk Z H s->t D Z H->wpAny 1e0 X.A (execs st X.env) 4e0 X.xe s
def thn{α:Type}{t:Sem α}{Q Q':α->Shared->Prop}(h:wpAny M A t Q E s)(hQ:∀ a s,Q a s->Q' a s):wpAny M A t Q' E s:=Β6 h hQ fun _ _ x=>x
end
section
mutual
example:=[x==("__debug__":Str),model X.prog X.w,.Name x pos,(by decide),(thn (ha Uk s Z H _ I h) fun v s1 ⟨x,H1,I1,r1,q1⟩=>?_),ha Uk s Z H _ I h,(by rw[I.ok.glob];exact I.mod.glob.keeps I.bk),(thn (ha Uk s Z H Q I h) fun c s1 e=>?_),a::b::rest,.BoolOp .And 8e0 pos,.BoolOp .Or 8e0 pos,.BoolOp .And (b::rest) pos,.BoolOp .Or (b::rest) pos,.Compare a [op] [b] pos,.UnaryOp .Not a pos,h Uk s Z H _ I hw,h Uk s Z H Q I hw]
def yA(i:Nat):TE:=fun Z H Q=>∃ v,Z[i]?=some (some v)/\Q v H
def tC(v:V):TE:=fun _ H Q=>Q v H
theorem k6(hN:X.N[i]?=some x)(hv:Vis X.env.scope x)(hd:0e0=false:=by decide)(WU:(x==("__classdict__":Str))=false:=by decide):PE X 2e0 (yA i):=by
 intro Uk s Z H Q I h;obtain⟨v,e,h⟩:=h;obtain⟨m,hn,hl⟩:=I.loc;obtain⟨u,r,l⟩:=hl i x v hN e hv;have fin:EP X Uk Z Q u s:=⟨v,H,I,r,h⟩;rcases l with⟨hk,hm⟩|⟨hk,c,hc,V5⟩
 ·exact wpAny_Name (wpAny_loadName_local I.ok.kind hk hn hm fin) hd
 ·rcases hk with hk|hk
  ·exact wpAny_Name (wpAny_loadName_cell I.ok.kind hk hc V5 fin) hd
  ·exact wpAny_Name (wpAny_loadName_free I.ok.kind hk hc V5 fin WU) hd
def aB{i j pos}:PE X (.Constant (.int i) j pos) (tC (.int i)):=fun _ _ _ H _ I h=>wpAny_Constant_int ⟨.int i,H,I.tok _,⟨_,rfl⟩,h⟩
def vZ{b j pos}:PE X (.Constant (.bool b) j pos) (tC (.bl b)):=fun _ _ _ H _ I h=>Constant_bool ⟨.bl b,H,I,rfl,h⟩
def cI{j pos}:PE X (.Constant .none j pos) (tC .Um):=fun _ _ _ H _ I h=>Constant_none ⟨.Um,H,I,rfl,h⟩
def aC{x j pos}:PE X (.Constant (.str x) j pos) (tC (.str x)):=fun _ _ _ H _ I h=>Calls.Constant_str ⟨.str x,H,I.tok _,⟨_,rfl⟩,h⟩
def Gl(X:Cx)(x:Str):Prop:=X.env.kindOf x=some .globalImplicit
theorem sS{Q:q0A}(I:Uo X Uk Z H s)(hg:Gl X x)(hm:X.mg x=some u)(h:Q u s)(hd:0e0=false:=by decide):wpAny 1e0 X.A (eval 2e0 X.env) Q E s :=
 Calls.Name_function_global I.ok.kind hg (Calls.loadGlobal_global 6e0 hm h) hd
theorem Aj{Q:q0A}(I:Uo X Uk Z H s)(hg:Gl X x)(hm:X.mg x=none)(hv:bootBuiltins x=some u)(h:Q u s)(hn:x≠"__name__":=by decide)(hd:0e0=false:=by decide):wpAny 1e0 X.A (eval 2e0 X.env) Q E s:=by
 obtain⟨mb,h1,h2⟩:=I.mod.blt;exact Calls.Name_function_global I.ok.kind hg (Calls.loadGlobal_builtin 6e0 hm (by rw[I.ok.blt];exact h1.keeps I.bk) ((h2 x hn).trans hv) h) hd
theorem pF(hg:Gl X x)(hm:X.mg x=some u)(r:bP v u)(hd:0e0=false:=by decide):PE X 2e0 (tC v) :=
 fun _ _ _ H _ I h=>sS I hg hm ⟨v,H,I,r,h⟩ hd
theorem kZ(hg:Gl X x)(hm:X.mg x=none)(hv:bootBuiltins x=some u)(r:bP v u)(hn:x≠"__name__":=by decide)(hd:0e0=false:=by decide):PE X 2e0 (tC v) :=
 fun _ _ _ H _ I h=>Aj I hg hm hv ⟨v,H,I,r,h⟩ hn hd
variable{a b:Expr}{ta tb:TE}
def PC(X:Cx)(op:CmpOp)(a b:Expr)(t:TE):Prop :=
 ∀(Uk:List (Addr×Obj)) (s:Shared) (Z:St) (H:Hp) (Q:VK),Uo X Uk Z H s->t Z H Q ->
  wpAny 1e0 X.A (eval a X.env) (fun v s₁=>wpAny 1e0 X.A (eval b X.env) (fun u s₂=>wpAny 1e0 X.A (compareOp op v u) (EP X Uk Z Q) X.xe s₂) X.xe s₁) X.xe s
def tB(t:TE):TT:=fun Z H Q=>t Z H fun x H1=>∃ c,x=.bl c/\Q c H1
theorem Pq(h:PC X op a b t)(h1:behindInMarks op b=false:=by first|exact  _ 3e0 3e0|rfl):PE X 3e1 t:=fun Uk s Z H Q I hw=>wpAny_Compare1 6e1 h1
theorem Py(h:PC X op a b t)(h1:behindInMarks op b=false:=by first|exact  _ 3e0 3e0|rfl):PT X 3e1 (tB t):=by
 intro Uk s Z H Q I hw;refine wpAny_isTrue_Compare1 (thn 5e1 fun v s1 h1=>thn h1 fun u s2 h2=>thn h2 fun c s3 ⟨x,H1,I1,r1,q1⟩=>?_) h1;obtain⟨d,rfl,q⟩:=q1;cases r1;exact Ε0 ⟨H1,I1,q⟩
def lB(h:PE X e t)(he:∀ whole,isTrue e X.env whole=(do let v <- whole;standAt e.pos;holding [v] (truthy v)):=by intro _;rfl):PT X e (tB t):=by
 intro Uk s Z H Q I hw;refine isTrue_plain (thn 5e1 fun v s1 ⟨x,H1,I1,r1,q1⟩=>?_) (he _);obtain⟨d,rfl,q⟩:=q1;cases r1;exact Ε0 ⟨H1,I1,q⟩
variable{tA tB':TT}{rest:List Expr}
def RX(t u:TT):TT:=fun Z H Q=>t Z H fun c H1=>if c=true then u Z H1 Q else Q false H1
def TZ(t u:TT):TT:=fun Z H Q=>t Z H fun c H1=>if c=true then Q true H1 else u Z H1 Q
def R7(t:TT):TT:=fun Z H Q=>t Z H fun c H1=>Q (!c) H1
def eX(ha:PT X a tA):PW X (.BoolOp .And [a] pos) tA:=by
 intro wh Uk s Z H Q I h;refine isTrue_and 7e0;cases c with
 | true=>exact isTrue_and_nil e
 | false=>exact e
def Dr(ha:PT X a tA):PW X (.BoolOp .Or [a] pos) tA:=by
 intro wh Uk s Z H Q I h;refine isTrue_or 7e0;cases c with
 | false=>exact isTrue_or_nil e
 | true=>exact e
def fR(ha:PT X a tA)(hb:PW X 1e1 tB'):PW X 9e0 (RX tA tB'):=by
 intro wh Uk s Z H Q I h;refine isTrue_and (thn 5e0 fun c s1 ⟨H1,I1,q1⟩=>?_);cases c with
 | true=>exact hb wh Uk s1 Z H1 Q I1 q1
 | false=>exact⟨H1,I1,q1⟩
def Jn(ha:PT X a tA)(hb:PW X 2e1 tB'):PW X 0e1 (TZ tA tB'):=by
 intro wh Uk s Z H Q I h;refine isTrue_or (thn 5e0 fun c s1 ⟨H1,I1,q1⟩=>?_);cases c with
 | true=>exact⟨H1,I1,q1⟩
 | false=>exact hb wh Uk s1 Z H1 Q I1 q1
def wD(ha:PT X a tA):PT X 4e1 (R7 tA):=by
 intro Uk s Z H Q I h;exact isTrue_not (ha Uk s Z H (fun c H1=>Q (!c) H1) I h)
def JS(ta tb:TE):TE:=fun Z H Q=>ta Z H fun x H1=>∃ c,x=.bl c/\if c=true then tb Z H1 Q else Q (.bl false) H1
def PN(ta tb:TE):TE:=fun Z H Q=>ta Z H fun x H1=>∃ c,x=.bl c/\if c=true then Q (.bl true) H1 else tb Z H1 Q
def JW(ta:TE):TE:=fun Z H Q=>ta Z H fun x H1=>∃ c,x=.bl c/\Q (.bl (!c)) H1
def mK{op}(h:PE X a t):PE X (.BoolOp op [a] pos) t:=fun Uk s Z H Q I hw=>BoolOp_one 6e1
def Pp(ha:PE X a ta)(hb:PE X 1e1 tb):PE X 9e0 (JS ta tb):=by
 intro Uk s Z H Q I h;refine BoolOp_and 4e0;obtain⟨c,rfl,q1⟩:=q1;cases r1;refine Ε0 ?_;cases c with
 | true=>exact hb Uk s1 Z H1 Q I1 q1
 | false=>exact⟨.bl false,H1,I1,rfl,q1⟩
def MD(ha:PE X a ta)(hb:PE X 2e1 tb):PE X 0e1 (PN ta tb):=by
 intro Uk s Z H Q I h;refine BoolOp_or 4e0;obtain⟨c,rfl,q1⟩:=q1;cases r1;refine Ε0 ?_;cases c with
 | false=>exact hb Uk s1 Z H1 Q I1 q1
 | true=>exact⟨.bl true,H1,I1,rfl,q1⟩
def Pr(ha:PE X a ta):PE X 4e1 (JW ta):=by
 intro Uk s Z H Q I h;refine UnaryOp_ 4e0;obtain⟨c,rfl,q1⟩:=q1;cases r1;exact not_of (Ε0 ⟨.bl (!c),H1,I1,rfl,q1⟩)
def TV(t:TT)(ta tb:TE):TE:=fun Z H Q=>t Z H fun c H1=>if c=true then ta Z H1 Q else tb Z H1 Q
def pG(hc:PT X c tA)(ha:PE X a ta)(hb:PE X b tb):PE X (.IfExp c a b pos) (TV tA ta tb):=by
 intro Uk s Z H Q I h;refine wpAny_IfExp (thn (hc Uk s Z H _ I h) fun d s1 ⟨H1,I1,q1⟩=>?_);cases d with
 | true=>exact ha Uk s1 Z H1 Q I1 q1
 | false=>exact hb Uk s1 Z H1 Q I1 q1
end
end
mutual
example:=[]
def eY(K:q0B)(H:Hp)(a:Addr)(xs:List V):Prop :=
 Rd H a (.lst xs) \/
  ∃(o:Obj) (Up:Array Value) (n:Nat),K.lookup a=some o/\o.cls=.type "list"/\o.dict=none/\o.data=.seq Up n/\Up.size<=sizeLine/\Uq xs Up.toList
def iJ(K:q0B)(H:Hp)(a:Addr)(xs:List V):Prop :=
 Rd H a (.tup xs) \/
  ∃(o:Obj) (Up:Array Value) (n:Nat),K.lookup a=some o/\o.cls=.type "tuple"/\o.data=.seq Up n/\Up.size<=sizeLine/\Uq xs Up.toList
def SJ:Value->Option V
 | .none=>some .Um
 | .bool b=>some (.bl b)
 | .int i _=>some (.int i)
 | .str x _=>some (.str x)
 | .bytes b _=>some (.byt b)
 | .float b _=>some (.flt b)
 | .ref a=>some (.ref a)
 | .type n=>some (.ty n)
 | _=>none
def bP.abs{x:V}(r:bP x u):SJ u=some x:=by
 cases x with
 | Um=>cases r;rfl
 | bl _=>cases r;rfl
 | int _=>obtain⟨t,rfl⟩:=r;rfl
 | str _=>obtain⟨t,rfl⟩:=r;rfl
 | byt _=>obtain⟨t,rfl⟩:=r;rfl
 | flt _=>obtain⟨t,rfl⟩:=r;rfl
 | ref _=>cases r;rfl
 | ty _=>cases r;rfl
def bP.inj{x y:V}(r:bP x u)(q:bP y u):x=y:=ϖ (r.abs.symm.trans q.abs)
def Uq.inj{ys:List V}(h:Uq xs us)(g:Uq ys us):xs=ys:=by
 induction h generalizing ys with
 | nil=>cases g;rfl
 | cons r t ih =>
  cases g with
  | cons r' t'=>rw[r.inj r',ih t']
end
section
mutual
example:=[]
variable{ys:List V}
def eY.of(h:H a=some (.lst xs)):eY K H a xs:=.inl (.inl h)
def iJ.of(h:H a=some (.tup xs)):iJ K H a xs:=.inl (.inl h)
theorem Uo.list(I:Uo X Uk Z H s)(h:eY X.K H a xs):∃ Up:List Value,Uq xs Up/\PlainL s.heap a Up.toArray/\xs.length<=sizeLine:=by
 rcases h with h|⟨o,Up,n,hk,hc,hd,hs,hz,r⟩
 ·obtain⟨z,Up,n,r,e⟩:=h.ok I.Ut;exact⟨Up,r,⟨_,n,e,rfl,rfl,rfl⟩,z⟩
 ·refine⟨Up.toList,r,⟨o,n,I.kIn a o hk,hc,hd,by simpa using hs⟩,?_⟩;have e:=r.length;simp only[Γ4] at e;omega
theorem Uo.tuple(I:Uo X Uk Z H s)(h:iJ X.K H a xs):∃ Up:List Value,Uq xs Up/\IsTup s.heap a Up.toArray/\xs.length<=sizeLine:=by
 rcases h with h|⟨o,Up,n,hk,hc,hs,hz,r⟩
 ·obtain⟨z,Up,r,p⟩:=h.ok I.Ut;exact⟨Up,r,p,z⟩
 ·refine⟨Up.toList,r,⟨o,I.kIn a o hk,hc,n,by simpa using hs⟩,?_⟩;have e:=r.length;simp only[Γ4] at e;omega
def Uo.Iy(I:Uo X Uk Z H s)(h:eY X.K H a xs)(h':eY X.K H a ys):xs=ys:=by
 obtain⟨Up,r,⟨o,n,e,_,_,d⟩,_⟩:=I.list h;obtain⟨its',r',⟨o',n',e',_,_,d'⟩,_⟩:=I.list h';rw[e] at e';cases e';rw[d] at d';injection d' with d1 _
 have:Up=its':=by simpa using congrArg Array.toList d1
 subst this;exact r.inj r'
def Uo.GJ(I:Uo X Uk Z H s)(h:iJ X.K H a xs)(h':iJ X.K H a ys):xs=ys:=by
 obtain⟨Up,r,⟨o,e,_,n,d⟩,_⟩:=I.tuple h;obtain⟨its',r',⟨o',e',_,n',d'⟩,_⟩:=I.tuple h';rw[e] at e';cases e';rw[d] at d';injection d' with d1 _
 have:Up=its':=by simpa using congrArg Array.toList d1
 subst this;exact r.inj r'
end
end
mutual
example:=[]
abbrev Cx.yD(X:Cx)(E:q0A):Cx:={X with xe:=E}
abbrev Cx.nox(X:Cx):Cx:=X.yD fun _ _=>False
def Cx.Ok.yD(ok:X.Ok)(E:q0A):(X.yD E).Ok :=
 ⟨ok.mod,ok.kind,ok.glob,ok.blt,ok.above,ok.inj,ok.has,ok.cab,ok.hd,ok.frames,ok.stk,ok.exf,ok.bs,ok.bsz,ok.BF,ok.Fp,ok.oT,ok.frf⟩
def Cx.Ok.mT(ok:(X.yD E).Ok):X.Ok :=
 ⟨ok.mod,ok.kind,ok.glob,ok.blt,ok.above,ok.inj,ok.has,ok.cab,ok.hd,ok.frames,ok.stk,ok.exf,ok.bs,ok.bsz,ok.BF,ok.Fp,ok.oT,ok.frf⟩
end
section
mutual
example:=[X.yD E]
def Uo.yD(I:Uo X Uk Z H s)(E:q0A):Uo 0e0 Uk Z H s:=⟨I.ok.yD E,I.os,I.bare,I.base,I.loc,I.cell,I.free,I.j6,I.pin,I.Ut,I.len⟩
def Uo.mT(I:Uo 0e0 Uk Z H s):Uo X Uk Z H s:=⟨I.ok.mT,I.os,I.bare,I.base,I.loc,I.cell,I.free,I.j6,I.pin,I.Ut,I.len⟩
def SP.mT{f:Flow}(h:SP 0e0 Uk D f s'):SP X Uk D f s':=by
 cases f with
 | next=>obtain⟨Z',H',I,q⟩:=h;exact⟨Z',H',I.mT,q⟩
 | brk=>obtain⟨Z',H',I,q⟩:=h;exact⟨Z',H',I.mT,q⟩
 | cont=>obtain⟨Z',H',I,q⟩:=h;exact⟨Z',H',I.mT,q⟩
 | ret u=>obtain⟨v,Z',H',I,r,q⟩:=h;exact⟨v,Z',H',I.mT,r,q⟩
def Vv.nox{st:List Stmt}{t:TS}(h:Vv X.nox st t):Vv X st t:=fun Uk s Z H D I hw =>
 Β6 (h Uk s Z H D (I.yD _) hw) (fun _ _ q=>q.mT) fun _ _ z=>False.elim z
end
end
section
mutual
example:=[he Uk s Z H _ I h]
variable{st:Stmt}{rest:List Stmt}{t u:TS}
def EZ:TS:=fun D Z H=>D.nx Z H
def DB(t u:TS):TS:=fun D Z H=>t {D with nx:=u D} Z H
def LQ:Vv X [] EZ:=fun _ _ Z H _ I h=>wpAny_execs_nil ⟨Z,H,I,h⟩
def aI(h1:PS X st t)(h2:Vv X rest u):Vv X (st::rest) (DB t u):=by
 intro Uk s Z H D I h;refine wpAny_execs_cons (thn (h1 Uk s Z H {D with nx:=u D} I h) fun f s1 q=>?_);cases f with
 | next =>
  obtain⟨Z',H',I',q⟩:=q;exact h2 Uk s1 Z' H' D I' q
 | ret v=>exact q
 | brk=>exact q
 | cont=>exact q
def aG(h1:PS X st t):Vv X [st] t:=by
 intro Uk s Z H D I h;refine wpAny_execs_cons (thn (h1 Uk s Z H D I h) fun f s1 q=>?_);cases f with
 | next=>exact wpAny_execs_nil q
 | ret v=>exact q
 | brk=>exact q
 | cont=>exact q
def MN:TS:=fun D Z H=>D.ct Z H
def BW:PS X (.Continue pos) MN:=fun _ _ Z H _ I h=>wpAny_Continue ⟨Z,H,I,h⟩
def Uo.quiet(I:Uo X Uk Z H s):interactive X.env=false:=by simp[interactive,I.ok.kind]
def JU(te:TE):TS:=fun D Z H=>te Z H fun _ H1=>D.nx Z H1
def aO(he:PE X e te)(hs:swapsWith e none pos.line X.env=pure false:=by rfl):PS X (.Expr e pos) (JU te):=by
 intro Uk s Z H D I h;exact wpAny_Expr_any (thn 0e0 fun v s1 ⟨x,H1,I1,r1,q1⟩=>⟨Z,H1,I1,q1⟩) I.quiet hs
def PQ(te:TE):TS:=fun D Z H=>te Z H D.rt
def aK(he:PE X e te):PS X (.Return (some e) pos) (PQ te):=by
 intro Uk s Z H D I h;exact wpAny_Return_some (thn 0e0 fun v s1 ⟨x,H1,I1,r1,q1⟩=>⟨x,Z,H1,I1,r1,q1⟩)
def MQ:TS:=fun D _ H=>D.rt .Um H
def tL:PS X (.Return none pos) MQ:=fun _ _ Z H _ I h=>wpAny_Return_none ⟨.Um,Z,H,I,rfl,h⟩
def Cs(c:TT)(t u:TS):TS:=fun D Z H=>c Z H fun b H1=>if b=true then t D Z H1 else u D Z H1
def fZ{a b:List Stmt}{tc:TT}(hc:PT X c tc)(ha:Vv X a t)(hb:Vv X b u):PS X (.If c a b pos) (Cs tc t u):=by
 intro Uk s Z H D I h;refine wpAny_If (thn (hc Uk s Z H _ I h) fun d s1 ⟨H1,I1,q1⟩=>?_);cases d with
 | true=>exact ha Uk s1 Z H1 D I1 q1
 | false=>exact hb Uk s1 Z H1 D I1 q1
end
end
mutual
example:=[model X.prog X.w,Addr×Obj,St->Hp->Prop]
abbrev TG:=V->St->Hp->2e0->Prop
variable{g:TG}
abbrev TGs:=List V->St->Hp->2e0->Prop
def PG(X:Cx)(target:Expr)(t:TG):Prop :=
 ∀(Uk:List 1e0) (s:Shared) (Z:St) (H:Hp) (v:V) (u:Value) (Q:St->Hp->Prop),Uo X Uk Z H s->bP v u->t v Z H Q ->
  wpAny 0e0 X.A (assign target X.env u) (fun _ s'=>∃ Z' H',Uo X Uk Z' H' s'/\Q Z' H') X.xe s
def PGs(X:Cx)(ts:List Expr)(t:TGs):Prop :=
 ∀(Uk:List 1e0) (s:Shared) (Z:St) (H:Hp) (vs:List V) (us:List Value) (Q:St->Hp->Prop),Uo X Uk Z H s->Uq vs us->t vs Z H Q ->
  wpAny 0e0 X.A (assignInOrder ((assignEach ts X.env).map (·.2)) us) (fun _ s'=>∃ Z' H',Uo X Uk Z' H' s'/\Q Z' H') X.xe s
abbrev TSet:=V->V->V->Hp->(Hp->Prop)->Prop
def PSet(X:Cx)(t:TSet):Prop :=
 ∀(Uk:List 1e0) (s:Shared) (Z:St) (H:Hp) (o i v:V) (ov iv u:Value) (Q:Hp->Prop),Uo X Uk Z H s->bP o ov->bP i iv->bP v u->t o i v H Q ->
  wpAny 0e0 X.A (setItem ov iv u) (fun _ s'=>∃ H',Uo X Uk Z H' s'/\Q H') X.xe s
abbrev TIp:=V->V->Hp->VK->Prop
def PIp(X:Cx)(op:Operator)(t:TIp):Prop :=
 ∀(Uk:List 1e0) (s:Shared) (Z:St) (H:Hp) (x y:V) (v u:Value) (Q:VK),Uo X Uk Z H s->bP x v->bP y u->t x y H Q ->
  wpAny 0e0 X.A (inplaceOp op v u) (EP X Uk Z Q) X.xe s
end
section
mutual
example:=[model X.prog X.w,he Uk s Z H _ I h,hi Uk s1 Z H1 _ I1 q1,.Subscript o i pos,ho Uk s Z H _ I h,.Name x pos']
def jJ(i:Nat):TG:=fun v Z H Q=>Q (Z.set i (some v)) H
theorem tJ(hN:X.N.Nodup)(hi:X.N[i]?=some x)(hx:Loc X.env.scope x)(hf:X.fn x=true\/X.env.scope.names.lookup x=some .local:=by first|exact .inl rfl|exact .inr rfl|assumption):PG X (.Name x pos) (jJ i):=by
 intro Uk s Z H v u Q I r h;exact wpAny_assign_Name (xE I hN hi hx r (fun s' I'=>⟨_,H,I',h⟩) hf)
def Lk:TGs:=fun vs Z H Q=>vs=[]/\Q Z H
def Ea(t:TG)(u:TGs):TGs:=fun vs Z H Q=>∃ v r,vs=v::r/\t v Z H fun Z' H'=>u r Z' H' Q
def tK:PGs X [] Lk:=by
 intro Uk s Z H vs us Q I r h;obtain⟨e,h⟩:=h;subst e;cases r;exact assignInOrder_nil ⟨Z,H,I,h⟩
def fP{t:TG}{u:TGs}(h1:PG X e t)(h2:PGs X es u)(hs:(assignEach (e::es) X.env).map (·.2)=assign e X.env::(assignEach es X.env).map (·.2):=by rfl):PGs X (e::es) (Ea t u):=by
 intro Uk s Z H vs us Q I r h;obtain⟨v,vr,e1,h⟩:=h;subst e1;cases r with
 | cons r rr =>
  rw[hs];refine assignInOrder_cons (thn (h1 Uk s Z H _ _ _ I r h) fun _ s1 ⟨σ1,H1,I1,q1⟩=>?_);exact h2 Uk s1 σ1 H1 _ _ Q I1 rr q1
def Ll(K:q0B)(n:Nat)(t:TGs):TG:=fun v Z H Q=>∃ a xs,v=.ref a/\iJ K H a xs/\xs.length=n/\t xs Z H Q
def Jj{t:TGs}(hc:X.calm=true)(h:PGs X es t)(hn:(assignEach es X.env).length=n:=by rfl)(UC:(assignEach es X.env).findIdx? (·.1)=none:=by rfl):PG X (.Tuple es k pos) (Ll X.K n t):=by
 intro Uk s Z H v u Q I r hw;obtain⟨a,xs,e1,hq,hl,hw⟩:=hw;subst e1;cases r;obtain⟨Up,rv,ht,hz⟩:=I.tuple hq;refine assign_Tuple_tuple (I.ok.hd hc) ht (by simp[hn,<- hl,rv.length]) UC fun h' hx=>?_;have I1:Uo X Uk Z H {s with heap:=h'}:=I.kept (t':=s.toks) fun b o e=>hx b o (Υ (Λ e)) e;exact h Uk _ Z H xs _ Q I1 (by simpa using rv) hw
def Rf(to ti:TE)(t:TSet):TG:=fun v Z H Q=>to Z H fun o H1=>ti Z H1 fun i H2=>t o i v H2 fun H3=>Q Z H3
def rC{o i:Expr}{to ti:TE}{t:TSet}(ho:PE X o to)(hi:PE X i ti)(hs:PSet X t)
    (ha:∀ v,assign 3e0 X.env v=(do
      let ov <- holding [v] (eval o X.env);let iv <- holding [v,ov] (eval i X.env)
      standAt pos
      holding [v,ov,iv] (setItem ov iv v)
      release [v,ov,iv] []):=by intro _;rfl):PG X 3e0 (Rf to ti t):=by
  intro Uk s Z H v u Q I r h;rw[ha];refine Β (Β3 (thn 4e0 fun ov s1 ⟨x,H1,I1,r1,q1⟩=>?_));refine Β (Β3 (thn 2e0 fun iv s2 ⟨y,H2,I2,r2,q2⟩=>?_));refine Β (wpAny_standAt (Β (Β3 (thn (hs Uk s2 Z H2 x y v ov iv u _ I2 r1 r2 r q2) fun _ s3 ⟨H3,I3,q3⟩=>?_))));exact wpAny_release ⟨Z,H3,I3,q3⟩
def GH(te:TE)(g:TG):TS:=fun D Z H=>te Z H fun x H1=>g x Z H1 D.nx
def lA(he:PE X e te)(hg:PG X tg g)(hs:swapsWithSole [tg] e pos.line X.env=pure false:=by rfl)(hw:swappedStores [tg] e X.env=pure none:=by rfl)(h1:(assignEach [tg] X.env).map (·.2)=[assign tg X.env]:=by rfl):PS X (.Assign [tg] e pos) (GH te g):=by
 intro Uk s Z H D I h;refine wpAny_Assign_stores (thn 1e0 fun v s1 ⟨x,H1,I1,r1,q1⟩=>?_) hs hw;rw[h1];exact thn (hg Uk s1 Z H1 x v _ I1 r1 q1) fun _ s2 q=>q
theorem wC{pos':Pos}(hN:X.N.Nodup)(hi:X.N[i]?=some x)(hx:Loc X.env.scope x)(he:PE X e te)(hs:swapsWith e (some 5e0) pos.line X.env=pure false:=by rfl)(hf:X.fn x=true\/X.env.scope.names.lookup x=some .local:=by first|exact .inl rfl|exact .inr rfl|assumption) : PS X (.Assign [.Name x pos'] e pos) (GH te (jJ i)):=by
 intro Uk s Z H D I h;refine wpAny_Assign_Name (thn 1e0 fun v s1 ⟨y,H1,I1,r1,q1⟩=>?_) hs;exact xE I1 hN hi hx r1 (fun s2 I2=>⟨_,H1,I2,q1⟩) hf
def RY(i:Nat)(te:TE)(ti:TIp):TS:=fun D Z H=>∃ x,Z[i]?=some (some x)/\te Z H fun y H1=>ti x y H1 fun z H2=>D.nx (Z.set i (some z)) H2
theorem Px{op:Operator}{ti:TIp}{pos':Pos}(hN:X.N.Nodup)(hi:X.N[i]?=some x)(hx:Loc X.env.scope x)(he:PE X e te)(ho:PIp X op ti)(hf:X.fn x=true\/X.env.scope.names.lookup x=some .local:=by first|exact .inl rfl|exact .inr rfl|assumption) : PS X (.AugAssign 5e0 op e pos) (RY i te ti):=by
 intro Uk s Z H D I h;obtain⟨v,e1,h⟩:=h;obtain⟨m,hn,hl⟩:=I.loc;have vis:Vis X.env.scope x:=by rcases hx with k|k;exact .inl k;exact .inr (.inl k)
 obtain⟨u,r,l⟩:=hl i x v hi e1 vis;refine wpAny_AugAssign_Name ?_;have go:wpAny 0e0 X.A (eval e X.env) (fun w s₂=>wpAny 0e0 X.A (inplaceOp op u w) (fun r s₃=>wpAny 0e0 X.A (storeName X.env x r) (fun _=>SP X Uk D .next) X.xe s₃) X.xe s₂) X.xe s:=by
  refine thn 1e0 fun w s1 ⟨y,H1,I1,r1,q1⟩=>?_;refine thn (ho Uk s1 Z H1 v y u w _ I1 r r1 q1) fun z s2 ⟨zv,H2,I2,r2,q2⟩=>?_;exact xE I2 hN hi hx r2 (fun s3 I3=>⟨_,H2,I3,q2⟩) hf
 rcases l with⟨hk,hm⟩|⟨hk,c,hc,V5⟩
 ·exact wpAny_loadName_local I.ok.kind hk hn hm go
 ·rcases hk with hk|hk
  ·exact wpAny_loadName_cell I.ok.kind hk hc V5 go
  ·rcases hx with k|k
   ·have:X.env.scope.names.lookup x=some .free:=hk;rw[k] at this;cases this
   ·have:X.env.scope.names.lookup x=some .free:=hk;rw[k] at this;cases this
def MM(to ti te:TE)(V0:V->V->Hp->VK->Prop)(YS:TIp)(V2:TSet):TS:=fun D Z H=>to Z H fun o H1=>ti Z H1 fun i H2=>V0 o i H2 fun x H3=>te Z H3 fun y H4=>YS x y H4 fun z H5=>V2 o i z H5 fun H6=>D.nx Z H6
def PGet(X:Cx)(t:V->V->Hp->VK->Prop):Prop :=
 ∀(Uk:List (Addr×Obj)) (s:Shared) (Z:St) (H:Hp) (o i:V) (ov iv:Value) (Q:VK),Uo X Uk Z H s->bP o ov->bP i iv->t o i H Q ->
  wpAny 0e0 X.A (getItem ov iv) (EP X Uk Z Q) X.xe s
def LN{o i:Expr}{to ti:TE}{V0:V->V->Hp->VK->Prop}{YS:TIp}{V2:TSet}{op:Operator}{Xg:Pos}(ho:PE X o to)(hi:PE X i ti)(hg:PGet X V0)(he:PE X e te)(hp:PIp X op YS)(hs:PSet X V2)
    (ha:∀ ov iv new,augStore i ov iv new=(do holding [new,ov,iv] (setItem ov iv new);release [new,ov,iv] [];pure .next):=by intros;rfl):PS X (.AugAssign (.Subscript o i Xg) op e pos) (MM to ti te V0 YS V2):=by
  intro Uk s Z H D I h;refine wpAny_AugAssign_SubscriptAny (thn 4e0 fun ov s1 ⟨x1,H1,I1,r1,q1⟩=>?_) ha;refine thn 2e0 fun iv s2 ⟨x2,H2,I2,r2,q2⟩=>?_;refine thn (hg Uk s2 Z H2 x1 x2 ov iv _ I2 r1 r2 q2) fun old s3 ⟨x3,H3,I3,r3,q3⟩=>?_;refine thn (he Uk s3 Z H3 _ I3 q3) fun v s4 ⟨x4,H4,I4,r4,q4⟩=>?_;refine thn (hp Uk s4 Z H4 x3 x4 old v _ I4 r3 r4 q4) fun new s5 ⟨x5,H5,I5,r5,q5⟩=>?_;exact thn (hs Uk s5 Z H5 x1 x2 x5 ov iv new _ I5 r1 r2 r5 q5) fun _ s6 ⟨H6,I6,q6⟩=>⟨Z,H6,I6,q6⟩
def Ue(f:Int->Int->Int):TIp:=fun x y H Q=>∃ i j,x=.int i/\y=.int j/\Q (.int (f i j)) H
def OQ:PIp X .Add (Ue fun i j=>i+j):=by
 intro Uk s Z H x y v u Q I r1 r2 h;obtain⟨i,j,e1,e2,q⟩:=h;subst e1;subst e2;obtain⟨t,rfl⟩:=r1;obtain⟨t',rfl⟩:=r2;exact iadd_int ⟨.int _,H,I.tok _,⟨_,rfl⟩,q⟩
end
end
section
noncomputable def DC(c:TT)(tb:TS):TS:=fun D Z H=>∃ W:Nat->St->Hp->Prop,(∃ m,W m Z H)/\∀ m Z H,W m Z H ->
 c Z H fun b H1=>if b=true then ∃ N:St->Hp->Prop,(∀ Z' H',N Z' H'->∃ m',m' < m/\W m' Z' H')/\tb {D with nx:=N,ct:=N,bk:=D.nx} Z H1 else D.nx Z H1
def pJ{tc:TT}(hp:PassesOwn (model X.prog X.w) X.A X.env X.xe)(hc:PT X c tc)(hb:Vv X body tb):PS X (.While c body [] pos) (DC tc tb):=by
 intro Uk s Z H D I h;obtain⟨W,⟨m0,w0⟩,turn⟩:=h;refine wpAny_While (codeAny_whileLoop (fun n s'=>∃ Z' H',Uo X Uk Z' H' s'/\W n Z' H') ?_ m0 ⟨Z,H,I,w0⟩);rintro n s1 ⟨σ1,H1,I1,w1⟩;refine Ζ0 hp (thn (hc Uk s1 σ1 H1 _ I1 (turn n σ1 H1 w1)) fun b s2 ⟨H2,I2,q2⟩=>?_);cases b with
 | true =>
  obtain⟨N,hN,q2⟩:=q2;rw[if_pos rfl];refine Ζ0 hp (thn (hb Uk s2 σ1 H2 _ I2 q2) fun f s3 q3=>?_);cases f with
  | next =>
   obtain⟨σ3,H3,I3,n3⟩:=q3;obtain⟨m',hm,w3⟩:=hN σ3 H3 n3;exact⟨m',hm,σ3,H3,I3,w3⟩
  | cont =>
   obtain⟨σ3,H3,I3,n3⟩:=q3;obtain⟨m',hm,w3⟩:=hN σ3 H3 n3;exact⟨m',hm,σ3,H3,I3,w3⟩
  | brk=>exact q3
  | ret v=>exact q3
 | false =>
  rw[if_neg ϒ];exact wpAny_execs_nil ⟨σ1,H2,I2,q2⟩
end
mutual
example:=[(by simp),Addr×Obj,.ref it,I.ok.hd hc,model P w,(fun b o hb e=>eb b o hb e),(by decide),(fun b o hb e=>(sb.2 b hb).trans e),letOwnedTupleGo tg (.ref it) u,(by simpa using hu),(by rw[z];exact hb),model X.prog X.w,(by simp;omega)]
structure It where
 go:Nat->Hp->Prop
 V3:Nat->Hp->V->Hp->Prop
 stop:Nat->Hp->Prop
def lQ(X:Cx)(Uk:List 1e0)(H:Hp)(b:Addr):Prop :=
 H b=none/\b≠X.env.locals/\b∉X.fs/\(b∈X.ex\/X.s₀.heap.objs.size<=b)/\(∀ x c,X.env.cells.lookup x=some c->c≠b)/\∀ p∈X.pn++Uk,p.1≠b
def Uo.HY{H':Hp}(I:Uo X Uk Z H s)(hb:s.heap.objs.size<=b)(hn:H' b=none):lQ X Uk H' b:=by
 refine⟨hn,Nat.ne_of_gt (Ω I.lt hb),I.RB hb,.inr (Χ I.sz hb),fun x c e z=>?_,fun p hp z=>?_⟩
 ·obtain⟨v,q⟩:=I.cell x c e;exact absurd (Ω q.lt 0e1) (Α0 _)
 ·exact absurd (Ω (Λ (I.pin p hp).1) 0e1) (Α0 _)
structure Turn(P:Program)(w:World)(K:q0B)(tg:Expr)(J:It)(fp:List Addr)(it:Addr)(tn:Nat->Heap->Prop):Prop where
 mem:it∈fp
 obj:∀ i h,tn i h->∀ b∈fp,∃ o,h.get? b=some o/\∀ v,o.data≠.cell v
 keep:∀ i h h',tn i h->(∀ b∈fp,∀ o,h.get? b=some o->h'.get? b=some o)->tn i h'
 item:∀(X:Cx),X.prog=P->X.w=w->X.K=K->X.calm=true->∀(i:Nat) (Uk:List 1e0) (s:Shared) (Z:St) (H:Hp) (E:q0A),Uo X Uk Z H s->(∀ b∈fp,lQ X Uk H b)->tn i s.heap->J.go i H ->
  wpAny 4e0 X.A (pyNext 2e0) (fun r s1=>∃ u,r=some u /\
   wpAny 4e0 X.A 8e0 (fun _ s2=>∃ x H',Uo X Uk Z H' s2/\bP x u/\J.V3 i H x H'/\tn (i+1) s2.heap/\∀ b∈fp,H' b=none) E s1) E s
 done:∀(X:Cx),X.prog=P->X.w=w->X.K=K->X.calm=true->∀(i:Nat) (Uk:List 1e0) (s:Shared) (Z:St) (H:Hp) (E:q0A),Uo X Uk Z H s->(∀ b∈fp,lQ X Uk H b)->tn i s.heap->J.stop i H ->
  wpAny 4e0 X.A (pyNext 2e0) (fun r s1=>r=none/\Uo X Uk Z H s1) E s
 self:∀(A:Around) (i:Nat) (s:Shared) (Q:q0A) (E:q0A),tn i s.heap->Q 2e0 s->wpAny 4e0 A (pyIter 2e0) Q E s
abbrev TI:=St->Hp->(It->Hp->Prop)->Prop
def PIE(X:Cx)(Uk:List 1e0)(Z:St)(tg:Expr)(R:It->Hp->Prop)(Z0:Value)(s2:Shared):Prop :=
 ∃(it:Addr) (fp:List Addr) (tn:Nat->Heap->Prop) (J:It) (H':Hp),Z0=.ref it/\Uo X Uk Z H' s2/\Turn X.prog X.w X.K tg J fp it tn/\tn 0 s2.heap/\(∀ b∈fp,lQ X Uk H' b)/\R J H'
def PI(X:Cx)(tg iter:Expr)(wi:TI):Prop :=
 ∀(Uk:List 1e0) (s:Shared) (Z:St) (H:Hp) (R:It->Hp->Prop),Uo X Uk Z H s->wi Z H R ->
  wpAny 1e1 X.A (eval iter X.env) (fun v s1=>wpAny 1e1 X.A (pyIter v) (PIE X Uk Z tg R) X.xe s1) X.xe s
def Eb{it:Addr}{n:String}{vs:Array Value}(ho:s.heap.get? it=some o)(hc:o.cls=.type n)(hd:o.data=.fields vs)(hn:["enumerate","zip","dict_itemiterator","dict_reverseitemiterator","odict_iterator","itertools.zip_longest","itertools.pairwise"].contains n=false)(hQ:Q () s):wpAny M A 8e0 Q E s:=by
  unfold letOwnedTupleGo;cases tg<;>first
    | exact Ι hQ
    | (cases u<;>first
        | exact Ι hQ
        | (refine Β (wpAny_load ho ?_)
           rw[hc,hd];show wpAny M A (if (["enumerate","zip","dict_itemiterator","dict_reverseitemiterator","odict_iterator","itertools.zip_longest","itertools.pairwise"].contains n&&vs[0]?==some (rawInt _))=true then _ else _) Q E s;rw[if_neg (by intro h;rw[hn,Bool.false_and] at h;cases h)];exact Ι hQ))
def Wd(K:q0B)(a:Addr):It :=
 ⟨fun i H=>∃ xs x,eY K H a xs/\xs[i]?=some x,fun i H x H'=>H'=H/\∀ xs,eY K H a xs->xs[i]?=some x,fun i H=>∃ xs,eY K H a xs/\xs.length<=i⟩
def Itt(K:q0B)(a:Addr):It :=
 ⟨fun i H=>∃ xs x,iJ K H a xs/\xs[i]?=some x,fun i H x H'=>H'=H/\∀ xs,iJ K H a xs->xs[i]?=some x,fun i H=>∃ xs,iJ K H a xs/\xs.length<=i⟩
def Ww(lo:Int)(n:Nat):It:=⟨fun i _=>i < n,fun i H x H'=>H'=H/\x=.int (lo+i),fun i _=>n<=i⟩
theorem GN(a it:Addr):Turn P w K tg (Wd K a) [it] it (fun i h=>h.IsListIter it a i) where
 mem:=by simp
 obj:=fun i h st b hb=>by
  have e:b=it:=by simpa using hb
  subst e;obtain⟨o,e,c,d⟩:=st;exact⟨o,e,fun v z=>by rw[d] at z;cases z⟩
 keep:=fun i h h' st k=>st.at fun o e=>k it 0e0 o e
 item:=by
  intro X hP hw hK hc i Uk s Z H E I hf st hg;subst hP hw hK;obtain⟨xs,x,hq,hx⟩:=hg;obtain⟨Up,rv,p,hz⟩:=I.list hq;obtain⟨u,hu,ru⟩:=rv.get hx;obtain⟨f0,f1,f2,f3,f4,f5⟩:=hf it 0e0;refine wpAny_pyNext_list_item st p.isList (x:=u) 9e0 fun h' UL sb=>?_;have I1:Uo X Uk Z H {s with heap:=h'}:=I.turned (t':=s.toks) 7e0 f0 f1 f3 f4 f5;obtain⟨o,e,c,d⟩:=id UL;exact⟨u,rfl,Eb (s:={s with heap:=h'}) e c d 6e0 ⟨x,H,I1,ru,⟨rfl,fun ys hy=>by rw[I.Iy hy hq];exact hx⟩,UL,fun b hb=>(hf b hb).1⟩⟩
 done:=by
  intro X hP hw hK hc i Uk s Z H E I hf st hg;subst hP hw hK;obtain⟨xs,hq,hx⟩:=hg;obtain⟨Up,rv,p,hz⟩:=I.list hq;obtain⟨f0,f1,f2,f3,f4,f5⟩:=hf it 0e0;have hl:=rv.length;exact wpAny_pyNext_list_end 3e0 st p.isList 2e1 fun h' eb=>⟨rfl,I.turned (t':=s.toks) 5e0 f0 f1 f3 f4 f5⟩
 self:=fun _ _ _ _ _ st h=>wpAny_pyIter_listiter st h
theorem DF(a it:Addr):Turn P w K tg (Itt K a) [it] it (fun i h=>h.IsTupleIter it a i) where
 mem:=by simp
 obj:=fun i h st b hb=>by
  have e:b=it:=by simpa using hb
  subst e;obtain⟨o,e,c,d⟩:=st;exact⟨o,e,fun v z=>by rw[d] at z;cases z⟩
 keep:=fun i h h' st k=>st.at fun o e=>k it 0e0 o e
 item:=by
  intro X hP hw hK hc i Uk s Z H E I hf st hg;subst hP hw hK;obtain⟨xs,x,hq,hx⟩:=hg;obtain⟨Up,rv,p,hz⟩:=I.tuple hq;obtain⟨u,hu,ru⟩:=rv.get hx;obtain⟨f0,f1,f2,f3,f4,f5⟩:=hf it 0e0;refine wpAny_pyNext_tuple_item st (show s.heap.IsTuple a Up.toArray from p) (x:=u) 9e0 fun h' UL sb=>?_;have I1:Uo X Uk Z H {s with heap:=h'}:=I.turned (t':=s.toks) 7e0 f0 f1 f3 f4 f5;obtain⟨o,e,c,d⟩:=id UL;exact⟨u,rfl,Eb (s:={s with heap:=h'}) e c d 6e0 ⟨x,H,I1,ru,⟨rfl,fun ys hy=>by rw[I.GJ hy hq];exact hx⟩,UL,fun b hb=>(hf b hb).1⟩⟩
 done:=by
  intro X hP hw hK hc i Uk s Z H E I hf st hg;subst hP hw hK;obtain⟨xs,hq,hx⟩:=hg;obtain⟨Up,rv,p,hz⟩:=I.tuple hq;obtain⟨f0,f1,f2,f3,f4,f5⟩:=hf it 0e0;have hl:=rv.length;exact wpAny_pyNext_tuple_end 3e0 st (show s.heap.IsTuple a Up.toArray from p) 2e1 fun h' eb=>⟨rfl,I.turned (t':=s.toks) 5e0 f0 f1 f3 f4 f5⟩
 self:=fun _ _ _ _ _ st h=>wpAny_pyIter_tupleiter st h
theorem DE(it:Addr)(lo:Int)(n:Nat):Turn P w K tg (Ww lo n) [it] it (fun i h=>IsRangeIter h it (lo+(i:Nat) * 1) ((n:Int) - (i:Nat)) 1) where
 mem:=by simp
 obj:=fun i h st b hb=>by
  have e:b=it:=by simpa using hb
  subst e;exact⟨_,st,fun v z=>by
   have z':Data.fields _=Data.cell v:=z;cases z'⟩
 keep:=fun i h h' st k=>k it 0e0 _ st
 item:=by
  intro X hP hw hK hc i Uk s Z H E I hf st hg;subst hP hw hK;obtain⟨f0,f1,f2,f3,f4,f5⟩:=hf it 0e0;have W:=Walks.range (prog:=X.prog) (w:=X.w) 3e0 it lo 1 n;refine W.item i s _ _ hg st fun v h' tk hv UL kk=>?_;obtain⟨t,rfl⟩:=hv;have I1:Uo X Uk Z H {s with heap:=h',toks:=tk}:=I.turned (fun b o hb e=>kk b o (by simpa using hb) e) f0 f1 f3 f4 f5;refine⟨_,rfl,Eb (s:={s with heap:=h',toks:=tk}) (n:="range_iterator") UL rfl rfl 6e0 ⟨.int (lo+i),H,I1,⟨t,?_⟩,⟨rfl,rfl⟩,UL,fun b hb=>(hf b hb).1⟩⟩;rw[Int.mul_one]
 done:=by
  intro X hP hw hK hc i Uk s Z H E I hf st hg;subst hP hw hK;obtain⟨f0,f1,f2,f3,f4,f5⟩:=hf it 0e0;exact wpAny_pyNext_range_end 3e0 st (by have:n<=i:=hg;omega) fun h' eb=>⟨rfl,I.turned (t':=s.toks) 5e0 f0 f1 f3 f4 f5⟩
 self:=fun _ _ _ _ _ st h=>wpAny_pyIter_rangeiter st h
end
section
mutual
example:=[I1.Ut.fresh (Θ _),2 ^ 62,Ϛ _ (Ϛ _ (kY hb e)),hl Uk s Z H _ I h,model X.prog X.w,Addr×Obj]
def uR(K:q0B)(tl:TE):TI:=fun Z H R=>tl Z H fun x H1=>∃ a,x=.ref a/\(∃ xs,eY K H1 a xs)/\R (Wd K a) H1
def OO(K:q0B)(tl:TE):TI:=fun Z H R=>tl Z H fun x H1=>∃ a,x=.ref a/\(∃ xs,iJ K H1 a xs)/\R (Itt K a) H1
def iE{l:Expr}{tl:TE}(hl:PE X l tl):PI X tg l (uR X.K tl):=by
 intro Uk s Z H R I h;refine thn 3e0 fun v s1 ⟨x,H1,I1,r1,q1⟩=>?_;obtain⟨a,e,⟨xs,hq⟩,q⟩:=q1;subst e;cases r1;obtain⟨Up,rv,p,hz⟩:=I1.list hq;refine wpAny_pyIter_list p.isList ?_;refine⟨s1.heap.objs.size,[s1.heap.objs.size],_,_,H1,rfl,I1.kept (t':=s1.toks) fun b o e=>Ε _ e,GN a _,⟨_,Ρ _ rfl,rfl,rfl⟩,fun b hb=>?_,q⟩;have e:b=s1.heap.objs.size:=by simpa using hb
 subst e;exact I1.HY (Θ _) 0e0
def Jk{l:Expr}{tl:TE}(hl:PE X l tl):PI X tg l (OO X.K tl):=by
 intro Uk s Z H R I h;refine thn 3e0 fun v s1 ⟨x,H1,I1,r1,q1⟩=>?_;obtain⟨a,e,⟨xs,hq⟩,q⟩:=q1;subst e;cases r1;obtain⟨Up,rv,p,hz⟩:=I1.tuple hq;refine wpAny_pyIter_tuple (show s1.heap.IsTuple a Up.toArray from p) ?_;refine⟨s1.heap.objs.size,[s1.heap.objs.size],_,_,H1,rfl,I1.kept (t':=s1.toks) fun b o e=>Ε _ e,DF a _,⟨_,Ρ _ rfl,rfl,rfl⟩,fun b hb=>?_,q⟩;have e:b=s1.heap.objs.size:=by simpa using hb
 subst e;exact I1.HY (Θ _) 0e0
theorem Jo{R:It->Hp->Prop}{lo hi:Int}{t u v:Tok}{tk:Nat}(I:Uo X Uk Z H s)(h1:-1e0<=lo)(h2:lo < 2 ^ 62)(h3:-1e0<=hi)(h4:hi < 2 ^ 62)(q:R (Ww lo (hi - lo).toNat) H):wpAny 4e0 X.A (pyIter (.ref s.heap.objs.size)) (PIE X Uk Z tg R) E {s with heap:=s.heap.push {cls:=.type "range",data:=.fields #[.int lo t,.int hi u,.int 1 v]},toks:=tk}:=by
 refine wpAny_pyIter_range (IsRange.new ..) (small_one h1 h2 h3 h4) ?_;have I1:Uo X Uk Z H {s with heap:=s.heap.push {cls:=.type "range",data:=.fields #[.int lo t,.int hi u,.int 1 v]},toks:=tk}:=I.kept fun b o e=>Ε _ e;refine⟨(s.heap.push {cls:=.type "range",data:=.fields #[.int lo t,.int hi u,.int 1 v]}).objs.size,[(s.heap.push {cls:=.type "range",data:=.fields #[.int lo t,.int hi u,.int 1 v]}).objs.size],_,_,H,rfl,
  I1.kept (t':=tk) fun b o e=>Ε _ e,DE _ lo (hi - lo).toNat,?_,fun b hb=>?_,q⟩
 ·have e1:lo+((0:Nat):Int) * 1=lo:=by simp
  have e2:(((hi - lo).toNat:Nat):Int) - ((0:Nat):Int)=Builtin.Range.rangeSize lo hi 1:=by rw[rangeSize_one];split<;>omega
  show IsRangeIter _ _ (lo+((0:Nat):Int) * 1) ((((hi - lo).toNat:Nat):Int) - ((0:Nat):Int)) 1;rw[e1,e2];exact Ρ _ rfl
 ·have e:b=(s.heap.push {cls:=.type "range",data:=.fields #[.int lo t,.int hi u,.int 1 v]}).objs.size:=by simpa using hb
  subst e;exact I1.HY (Θ _) 0e0
def Bo(ta:TA):TI:=fun Z H R=>ta Z H fun vs H1=>∃ j:Int,vs=[.int j]/\-1e0<=j/\j < 2 ^ 62/\R (Ww 0 j.toNat) H1
theorem nE{a:Expr}{ta:TA}{p:Pos}(hg:Gl X "range")(hm:X.mg "range"=none)(ha:PA X [a] ta)(hs:starEach [a] X.env=[(false,eval a X.env)]:=by rfl):PI X tg (.Call (.Name "range" p) [a] [] pos) (Bo ta):=by
 intro Uk s Z H R I h;refine Call_ (Aj I hg hm boot_range (PyProof.Rows.callWith_type1 (thn (ha pos Uk s Z H _ I h) fun us s1 ⟨vs,H1,I1,r1,q1⟩=>?_) hs rfl));obtain⟨j,e,q1,q2,q⟩:=q1;subst e;cases r1 with
 | cons r rr =>
  cases rr;obtain⟨t,rfl⟩:=r;exact call_range_1 (Jo I1 (by omega) (by omega) q1 q2 (by simpa using q))
def JV(wi:TI)(g:TG)(tb:TS):TS:=fun D Z H=>wi Z H fun J H1=>∃ W:Nat->Nat->St->Hp->Prop,(∃ m,W 0 m Z H1)/\∀ i m Z H,W i m Z H ->
 (J.stop i H/\D.nx Z H)\/(J.go i H/\∃ N:St->Hp->Prop,(∀ Z' H',N Z' H'->∃ m',m' < m/\W (i+1) m' Z' H')/\∀ x H',J.V3 i H x H'->g x Z H' fun σ2 H2=>tb {D with nx:=N,ct:=N,bk:=D.nx} σ2 H2)
def wB(fp:List Addr)(h:Heap):List 5e0:=fp.filterMap fun b=>(h.get? b).map fun o=>(b,o)
def kY(hb:b∈fp)(e:h.get? b=some o):(b,o)∈wB fp h:=List.mem_filterMap.mpr ⟨b,hb,by rw[e];rfl⟩
def Gb{p:Addr×Obj}(hp:p∈wB fp h):p.1∈fp/\h.get? p.1=some p.2:=by
 obtain⟨b,hb,e⟩:=List.mem_filterMap.mp hp;cases q:h.get? b with
 | none=>rw[q] at e;cases e
 | some o =>
  rw[q] at e;have e':(b,o)=p:=ϖ e;subst e';exact⟨hb,q⟩
def Uo.pinned(I:Uo X Uk Z H s)(hf:∀ b∈fp,lQ X Uk H b)(ho:∀ b∈fp,∃ o,s.heap.get? b=some o/\∀ v,o.data≠.cell v):Uo X (Uk++wB fp s.heap) Z H s :=
 I.pI fun p hp=>(Κ.mp hp).elim (fun z=>I.pin p (Ϛ _ z)) fun z=>by
  obtain⟨hb,e⟩:=Gb z;obtain⟨f0,f1,f2,_⟩:=hf p.1 hb;obtain⟨o,e',d⟩:=ho p.1 hb;rw[e] at e';cases e';exact⟨e,f0,f1,f2,d⟩
def Uo.xJ{pl:List 5e0}(I:Uo X (Uk++pl) Z H s):Uo X Uk Z H s:=I.pI fun p hp=>I.pin p (Ϛ _ (Ε9 _ hp))
def Ay{iter:Expr}{wi:TI}(hp:PassesOwn 4e0 X.A X.env X.xe)(hc:X.calm=true)(hi:PI X tg iter wi)(hg:PG X tg g)(hb:Vv X body tb)(hs:∀ x,foldedSetIterable iter X.env x=pure x:=by intro _;rfl):PS X (.For tg iter body [] pos) (JV wi g tb):=by
 intro Uk s Z H D I h;refine wpAny_For (thn (hi Uk s Z H _ I h) fun v s1 h1=>thn h1 fun Z0 s2 h2=>?_) hs;obtain⟨it,fp,tn,J,H2,e,I2,T,VY,f2,W,⟨m0,w0⟩,turn⟩:=h2;subst e;have VZ:∀ {H':Hp},(∀ b∈fp,H' b=none)->∀ b∈fp,lQ X Uk H' b:=fun hn b hb=>⟨hn b hb,(f2 b hb).2⟩;refine codeAny_forLoop_any (fun n s'=>∃ i Z' H',Uo X Uk Z' H' s'/\tn i s'.heap/\(∀ b∈fp,H' b=none)/\W i n Z' H') ?_ m0 ⟨0,Z,H2,I2,VY,fun b hb=>(f2 b hb).1,w0⟩;rintro n s3 ⟨i,σ3,H3,I3,Zb,Yn,w3⟩;rcases turn i n σ3 H3 w3 with⟨stop,qn⟩|⟨go,N,hN,step⟩
 ·refine Ζ0 hp (thn (T.done X rfl rfl rfl hc i Uk s3 σ3 H3 X.xe I3 (VZ Yn) Zb stop) fun r s4 ⟨hr,I4⟩=>?_);subst hr;exact wpAny_execs_nil ⟨σ3,H3,I4,qn⟩
 ·refine Ζ0 hp (thn (T.item X rfl rfl rfl hc i Uk s3 σ3 H3 X.xe I3 (VZ Yn) Zb go) fun r s4 ⟨u,hr,h4⟩=>?_);subst hr;refine Ζ0 hp (thn h4 fun _ s5 ⟨x,H5,I5,r5,y5,st5,Zz⟩=>?_);have I5':=I5.pinned (VZ Zz) (T.obj _ _ st5);refine Ζ0 hp (thn (hg _ s5 σ3 H5 x u _ I5' r5 (step x H5 y5)) fun _ s6 ⟨σ6,H6,I6,q6⟩=>?_);refine Ζ0 hp (thn (hb _ s6 σ6 H6 _ I6 q6) fun f s7 q7=>?_);have again:∀ {σ7:St} {H7:Hp},Uo X (Uk++wB fp s5.heap) σ7 H7 s7->N σ7 H7->∃ m,m < n/\∃ i Z' H',Uo X Uk Z' H' s7/\tn i s7.heap/\(∀ b∈fp,H' b=none)/\W i m Z' H':=fun {σ7 H7} I7 n7=>by
   obtain⟨m',hm,w7⟩:=hN σ7 H7 n7;refine⟨m',hm,i+1,σ7,H7,I7.xJ,T.keep _ _ _ st5 fun b hb o e=>(I7.pin (b,o) 2e0).1,fun b hb=>?_,w7⟩;obtain⟨o,e,d⟩:=T.obj _ _ st5 b hb;exact(I7.pin (b,o) 2e0).2.1
  cases f with
  | next=>obtain⟨σ7,H7,I7,n7⟩:=q7;exact again I7 n7
  | cont=>obtain⟨σ7,H7,I7,n7⟩:=q7;exact again I7 n7
  | brk=>obtain⟨σ7,H7,I7,q7⟩:=q7;exact⟨σ7,H7,I7.xJ,q7⟩
  | ret v=>obtain⟨x7,σ7,H7,I7,r7,q7⟩:=q7;exact⟨x7,σ7,H7,I7.xJ,r7,q7⟩
end
end
mutual
example:=[i+1,model X.prog X.w,Addr×Obj,EP X Uk Z Q]
theorem Bl(Pv:Nat->St->Hp->Prop)(h0:Pv 0 Z H)(hl:∀ i Z H,i<=xs.length->Pv i Z H->eY K H a xs)(hs:∀ i x Z H,xs[i]?=some x->Pv i Z H->g x Z H fun σ2 H2=>tb {D with nx:=Pv 0e0,ct:=Pv 0e0,bk:=D.nx} σ2 H2)(hd:∀ Z H,Pv xs.length Z H->D.nx Z H) : ∃ W:Nat->Nat->St->Hp->Prop,(∃ m,W 0 m Z H)/\∀ i m Z H,W i m Z H -> ((Wd K a).stop i H/\D.nx Z H)\/((Wd K a).go i H/\∃ N:St->Hp->Prop,(∀ Z' H',N Z' H'->∃ m',m' < m/\W 0e0 m' Z' H')/\∀ x H',(Wd K a).V3 i H x H'->g x Z H' fun σ2 H2=>tb {D with nx:=N,ct:=N,bk:=D.nx} σ2 H2):=by
 refine⟨fun i m Z H=>m=xs.length - i/\i<=xs.length/\Pv i Z H,⟨xs.length,by simp,Α2 _,h0⟩,?_⟩;rintro i m Z H ⟨rfl,hi,p⟩;have q:=hl i Z H hi p;by_cases UN:i < xs.length
 ·refine .inr ⟨⟨xs,xs[i],q,by simp[UN]⟩,Pv 0e0,fun Z' H' p'=>⟨xs.length - 0e0,by omega,rfl,UN,p'⟩,fun x H' y=>?_⟩;obtain⟨e,y⟩:=y;subst e;exact hs i x Z _ (y xs q) p
 ·have e:i=xs.length:=by omega
  subst e;exact .inl ⟨⟨xs,q,Θ _⟩,hd Z H p⟩
theorem yP{lo:Int}(Pv:Nat->St->Hp->Prop)(h0:Pv 0 Z H)(hs:∀ i Z H,i < n->Pv i Z H->g (.int (lo+i)) Z H fun σ2 H2=>tb {D with nx:=Pv 0e0,ct:=Pv 0e0,bk:=D.nx} σ2 H2)(hd:∀ Z H,Pv n Z H->D.nx Z H) : ∃ W:Nat->Nat->St->Hp->Prop,(∃ m,W 0 m Z H)/\∀ i m Z H,W i m Z H -> ((Ww lo n).stop i H/\D.nx Z H)\/((Ww lo n).go i H/\∃ N:St->Hp->Prop,(∀ Z' H',N Z' H'->∃ m',m' < m/\W 0e0 m' Z' H')/\∀ x H',(Ww lo n).V3 i H x H'->g x Z H' fun σ2 H2=>tb {D with nx:=N,ct:=N,bk:=D.nx} σ2 H2):=by
 refine⟨fun i m Z H=>m=n - i/\i<=n/\Pv i Z H,⟨n,by simp,Α2 _,h0⟩,?_⟩;rintro i m Z H ⟨rfl,hi,p⟩;by_cases UN:i < n
 ·refine .inr ⟨UN,Pv 0e0,fun Z' H' p'=>⟨n - 0e0,by omega,rfl,UN,p'⟩,fun x H' y=>?_⟩;obtain⟨e,y⟩:=y;subst e y;exact hs i Z _ UN p
 ·have e:i=n:=by omega
  subst e;exact .inl ⟨Θ _,hd Z H p⟩
abbrev R2:=V->V->Hp->VK->Prop
variable{r:R2}
def jG(X:Cx)(f:Value->Value->Sem Value)(r:R2):Prop :=
 ∀(Uk:List 2e0) (s:Shared) (Z:St) (H:Hp) (x y:V) (v u:Value) (Q:VK),Uo X Uk Z H s->bP x v->bP y u->r x y H Q ->
  wpAny 1e0 X.A (f v u) 3e0 X.xe s
def SI(X:Cx)(f:Value->Sem Value)(r:V->Hp->VK->Prop):Prop :=
 ∀(Uk:List 2e0) (s:Shared) (Z:St) (H:Hp) (x:V) (v:Value) (Q:VK),Uo X Uk Z H s->bP x v->r x H Q ->
  wpAny 1e0 X.A (f v) 3e0 X.xe s
def fA(X:Cx)(f:Value)(r:List V->Hp->VK->Prop):Prop :=
 ∀(Uk:List 2e0) (s:Shared) (Z:St) (H:Hp) (xs:List V) (us:List Value) (Q:VK),Uo X Uk Z H s->Uq xs us->r xs H Q ->
  wpAny 1e0 X.A (call f us) 3e0 X.xe s
def SH(X:Cx)(r:V->Hp->(Bool->Hp->Prop)->Prop):Prop :=
 ∀(Uk:List 2e0) (s:Shared) (Z:St) (H:Hp) (x:V) (v:Value) (Q:Bool->Hp->Prop),Uo X Uk Z H s->bP x v->r x H Q ->
  wpAny 1e0 X.A (truthy v) (TP X Uk Z Q) X.xe s
def Mb(r:R2)(ta tb:TE):TE:=fun Z H Q=>ta Z H fun x H1=>tb Z H1 fun y H2=>r x y H2 Q
def Ua(r:V->Hp->VK->Prop)(ta:TE):TE:=fun Z H Q=>ta Z H fun x H1=>r x H1 Q
def rI(C:Int->Int->Prop)(g:Int->Int->V):R2:=fun x y H Q=>∃ i j,x=.int i/\y=.int j/\C i j/\Q (g i j) H
def LX(g:Int->Int->V):R2:=fun x y H Q=>∃ i j,x=.int i/\y=.int j/\Q (g i j) H
def rU(g:Int->V):V->Hp->VK->Prop:=fun x H Q=>∃ i,x=.int i/\Q (g i) H
end
section
mutual
example:=[g i j,model X.prog X.w,f (.int i t) (.int j u),intBits_le_64 h1 h2,ha Uk s Z H _ I h]
variable{a b:Expr}{ta tb tc:TE}
def Nb(ha:PE X a ta)(hb:PE X b tb){R:V->V->Hp->Prop}(I:Uo X Uk Z H s)(h:ta Z H fun x H1=>tb Z H1 fun y H2=>R x y H2){Q:q0A}(hf:∀ v u s2 x y H2,Uo X Uk Z H2 s2->bP x v->bP y u->R x y H2->wpAny 1e0 X.A (f v u) Q X.xe s2) : wpAny 1e0 X.A (eval a X.env) (fun v s₁=>wpAny 1e0 X.A (eval b X.env) (fun u s₂=>wpAny 1e0 X.A (f v u) Q X.xe s₂) X.xe s₁) X.xe s:=by
 refine thn 4e0 fun v s1 ⟨x,H1,I1,r1,q1⟩=>?_;refine thn (hb Uk s1 Z H1 _ I1 q1) fun u s2 ⟨y,H2,I2,r2,q2⟩=>?_;exact hf v u s2 x y H2 I2 r1 r2 q2
def bH{op:Operator}(ho:jG X (binaryOp op) r)(ha:PE X a ta)(hb:PE X b tb):PE X (.BinOp a op b pos) (Mb r ta tb):=by
 intro Uk s Z H Q I h;exact wpAny_BinOp (Nb ha hb I h fun v u s2 x y H2 I2 rx ry q=>ho Uk s2 Z H2 x y v u Q I2 rx ry q)
def fY{op:UnaryOp}{r:V->Hp->VK->Prop}(ho:SI X (unaryOp op) r)(ha:PE X a ta):PE X (.UnaryOp op a pos) (Ua r ta):=by
 intro Uk s Z H Q I h;exact UnaryOp_ (thn 4e0 fun v s1 ⟨x,H1,I1,r1,q1⟩=>ho Uk s1 Z H1 x v Q I1 r1 q1)
def Sx{C:Int->Int->Prop}{g:Int->Int->Int}(rule:∀(i j:Int) (t u:Tok) (s:Shared) (Q:q0A) (E:q0A),C i j->Q (.int 0e0 s.toks) {s with toks:=s.toks+1}->wpAny 1e0 X.A 2e0 Q E s) : jG X f (rI C fun i j=>.int 0e0):=by
 intro Uk s Z H x y v u Q I rx ry h;obtain⟨i,j,rfl,rfl,hc,q⟩:=h;obtain⟨t,rfl⟩:=rx;obtain⟨t',rfl⟩:=ry;exact rule i j t t' s _ _ hc ⟨.int 0e0,H,I.tok _,⟨_,rfl⟩,q⟩
def RC{g:Int->Int->Int}(rule:∀(i j:Int) (t u:Tok) (s:Shared) (Q:q0A) (E:q0A),Q (.int 0e0 s.toks) {s with toks:=s.toks+1}->wpAny 1e0 X.A 2e0 Q E s) : jG X f (LX fun i j=>.int 0e0):=by
 intro Uk s Z H x y v u Q I rx ry h;obtain⟨i,j,rfl,rfl,q⟩:=h;obtain⟨t,rfl⟩:=rx;obtain⟨t',rfl⟩:=ry;exact rule i j t t' s _ _ ⟨.int 0e0,H,I.tok _,⟨_,rfl⟩,q⟩
def Ph{g:Int->Int->Bool}(rule:∀(i j:Int) (t u:Tok) (s:Shared) (Q:q0A) (E:q0A),Q (.bool 0e0) s->wpAny 1e0 X.A 2e0 Q E s) : jG X f (LX fun i j=>.bl 0e0):=by
 intro Uk s Z H x y v u Q I rx ry h;obtain⟨i,j,rfl,rfl,q⟩:=h;obtain⟨t,rfl⟩:=rx;obtain⟨t',rfl⟩:=ry;exact rule i j t t' s _ _ ⟨.bl 0e0,H,I,rfl,q⟩
def CPow(i j:Int):Prop:=0<=j/\j<=1000000/\i.natAbs < 2 ^ 64
def CMul(i j:Int):Prop:=(-(2 ^ 64) < i/\i < 2 ^ 64)\/(-(2 ^ 64) < j/\j < 2 ^ 64)
def CMul.ok{i j:Int}(h:CMul i j):IntMulOk i j:=by
 rcases h with⟨h1,h2⟩|⟨h1,h2⟩
 ·exact .of_left 3e0
 ·exact .of_right 3e0
def Pj:jG X (binaryOp .Add) (LX fun i j=>.int (i+j)):=RC fun _ _ _ _ _ _ _ q=>add_int q
def i9:jG X (binaryOp .Sub) (LX fun i j=>.int (i - j)):=RC fun _ _ _ _ _ _ _ q=>sub_int q
def oH:jG X (binaryOp .Mult) (rI CMul fun i j=>.int (i * j)):=Sx fun _ _ _ _ _ _ _ hc q=>mul_int q hc.ok
theorem vW:jG X (binaryOp .Mod) (rI (fun _ j=>0 < j) fun i j=>.int (i % j)):=Sx fun i j _ _ _ _ _ hc q=>by
 have h1:(0:Int) < j:=hc;exact mod_int' (by omega) (by rw[Int.fmod_eq_emod_of_nonneg i (by omega)];exact q)
def i8:jG X (binaryOp .Pow) (rI CPow fun i j=>.int (i ^ j.toNat)):=Sx fun _ _ _ _ _ _ _ hc q=>pow_int_small hc.1 hc.2.1 hc.2.2 q
def Ui{f:Value->Sem Value}{g:Int->Int}(rule:∀(i:Int) (t:Tok) (s:Shared) (Q:q0A) (E:q0A),Q (.int (g i) s.toks) {s with toks:=s.toks+1}->wpAny 1e0 X.A (f (.int i t)) Q E s) : SI X f (rU fun i=>.int (g i)):=by
 intro Uk s Z H x v Q I rx h;obtain⟨i,rfl,q⟩:=h;obtain⟨t,rfl⟩:=rx;exact rule i t s _ _ ⟨.int (g i),H,I.tok _,⟨_,rfl⟩,q⟩
def eE:SI X (unaryOp .USub) (rU fun i=>.int (-i)):=Ui fun _ _ _ _ _ q=>neg_int q
end
end
mutual
example:=[]
def U6:V->V->Bool
 | .Um,.Um=>true | .Um,.int _=>true | .int _,.Um=>true | .Um,.bl _=>true | .bl _,.Um=>true | .Um,.str _=>true | .str _,.Um=>true
 | .int _,.int _=>true | .bl _,.bl _=>true | .str _,.str _=>true | .byt _,.byt _=>true
 | .int _,.str _=>true | .str _,.int _=>true | .bl _,.str _=>true | .str _,.bl _=>true
 | _,_=>false
def GV:R2:=fun x y H Q=>U6 x y=true/\Q (.bl (decide (x=y))) H
def PB:R2:=fun x y H Q=>U6 x y=true/\Q (.bl (!decide (x=y))) H
theorem DT{i j:Int}:decide (V.int i=V.int j)=(i==j):=by
 rw[Ε5];simp
theorem Hz{i j:Bool}:decide (V.bl i=V.bl j)=(i==j):=by
 rw[Ε5];simp
theorem DU{i j:Str}:decide (V.str i=V.str j)=(i==j):=by
 rw[Ε5];simp
theorem DS{i j:Array UInt8}:decide (V.byt i=V.byt j)=(i.toList==j.toList):=by
 rw[Ε5];cases i;cases j;simp
end
section
mutual
example:=[(cB I q (by simp)),(by omega),(by simp only[Η];omega),.Compare a [op] [b] pos,(if k then 1 else 0),(y.length:Int) !=0,(y.size:Int) !=0,compareOp op,Mb r ta tb,I.ok.hd hc,cB I q ?_]
variable{a b:Expr}{ta tb tc:TE}
def cB{Q:VK}{k k':Bool}(I:Uo X Uk Z H s)(q:Q (.bl k) H)(e:k=k'):EP X Uk Z Q (.bool k') s:=by
 subst e;exact⟨.bl k,H,I,rfl,q⟩
def aY:jG X (compareOp .Eq) GV:=by
 intro Uk s Z H x y v u Q I rx ry h;obtain⟨hs,q⟩:=h;cases x with
 | Um =>
  cases rx;cases y with
  | Um=>cases ry;exact PySem.EqNone.eq_none_none 0e0
  | bl j=>cases ry;exact PySem.EqNone.eq_none_bool 0e0
  | int j=>obtain⟨t',rfl⟩:=ry;exact PySem.EqNone.eq_none_int 0e0
  | str j=>obtain⟨t',rfl⟩:=ry;exact PySem.EqNone.eq_none_str 0e0
  | _=>exact absurd (show false=true from hs) ϒ
 | bl i =>
  cases rx;cases y with
  | Um=>cases ry;exact PySem.EqNone.eq_bool_none 0e0
  | bl j=>cases ry;exact eq_bool (cB I q Hz)
  | str j=>obtain⟨t',rfl⟩:=ry;exact PySem.EqMixed.eq_bool_str 0e0
  | _=>exact absurd (show false=true from hs) ϒ
 | int i =>
  obtain⟨t,rfl⟩:=rx;cases y with
  | Um=>cases ry;exact PySem.EqNone.eq_int_none 0e0
  | int j=>obtain⟨t',rfl⟩:=ry;exact eq_int (cB I q DT)
  | str j=>obtain⟨t',rfl⟩:=ry;exact PySem.EqMixed.eq_int_str 0e0
  | _=>exact absurd (show false=true from hs) ϒ
 | str i =>
  obtain⟨t,rfl⟩:=rx;cases y with
  | Um=>cases ry;exact PySem.EqNone.eq_str_none 0e0
  | bl j=>cases ry;exact PySem.EqMixed.eq_str_bool 0e0
  | int j=>obtain⟨t',rfl⟩:=ry;exact PySem.EqMixed.eq_str_int 0e0
  | str j=>obtain⟨t',rfl⟩:=ry;exact eq_str (cB I q DU)
  | _=>exact absurd (show false=true from hs) ϒ
 | byt i =>
  obtain⟨t,rfl⟩:=rx;cases y with
  | byt j=>obtain⟨t',rfl⟩:=ry;exact PySem.W.eq_bytes (cB I q DS)
  | _=>exact absurd (show false=true from hs) ϒ
 | _=>cases y<;>exact absurd (show false=true from hs) ϒ
def BP:jG X (compareOp .NotEq) PB:=by
 intro Uk s Z H x y v u Q I rx ry h;obtain⟨hs,q⟩:=h;cases x with
 | Um =>
  cases rx;cases y with
  | Um=>cases ry;exact PySem.EqNone.ne_none_none 0e0
  | bl j=>cases ry;exact PySem.EqNone.ne_none_bool 0e0
  | int j=>obtain⟨t',rfl⟩:=ry;exact PySem.EqNone.ne_none_int 0e0
  | str j=>obtain⟨t',rfl⟩:=ry;exact PySem.EqNone.ne_none_str 0e0
  | _=>exact absurd (show false=true from hs) ϒ
 | bl i =>
  cases rx;cases y with
  | Um=>cases ry;exact PySem.EqNone.ne_bool_none 0e0
  | bl j=>cases ry;exact ne_bool (cB I q (congrArg not Hz))
  | str j=>obtain⟨t',rfl⟩:=ry;exact PySem.EqMixed.ne_bool_str 0e0
  | _=>exact absurd (show false=true from hs) ϒ
 | int i =>
  obtain⟨t,rfl⟩:=rx;cases y with
  | Um=>cases ry;exact PySem.EqNone.ne_int_none 0e0
  | int j=>obtain⟨t',rfl⟩:=ry;exact ne_int (cB I q (congrArg not DT))
  | str j=>obtain⟨t',rfl⟩:=ry;exact PySem.EqMixed.ne_int_str 0e0
  | _=>exact absurd (show false=true from hs) ϒ
 | str i =>
  obtain⟨t,rfl⟩:=rx;cases y with
  | Um=>cases ry;exact PySem.EqNone.ne_str_none 0e0
  | bl j=>cases ry;exact PySem.EqMixed.ne_str_bool 0e0
  | int j=>obtain⟨t',rfl⟩:=ry;exact PySem.EqMixed.ne_str_int 0e0
  | str j=>obtain⟨t',rfl⟩:=ry;exact ne_str (cB I q (congrArg not DU))
  | _=>exact absurd (show false=true from hs) ϒ
 | byt i =>
  obtain⟨t,rfl⟩:=rx;cases y with
  | byt j=>obtain⟨t',rfl⟩:=ry;exact PySem.W.ne_bytes (cB I q (congrArg not DS))
  | _=>exact absurd (show false=true from hs) ϒ
 | _=>cases y<;>exact absurd (show false=true from hs) ϒ
theorem jP:jG X (compareOp .Lt) (LX fun i j=>.bl (decide (i < j))):=Ph fun _ _ _ _ _ _ _ q=>lt_int q
theorem Er:jG X (compareOp .Gt) (LX fun i j=>.bl (decide (j < i))):=Ph fun _ _ _ _ _ _ _ q=>gt_int q
theorem RF:jG X (compareOp .GtE) (LX fun i j=>.bl (decide (j<=i))):=Ph fun _ _ _ _ _ _ _ q=>ge_int q
theorem Po:jG X (compareOp .Is) (fun x y H Q=>y=.Um/\Q (.bl (decide (x=.Um))) H):=by
 intro Uk s Z H x y v u Q I rx ry h;obtain⟨rfl,q⟩:=h;cases ry;refine is_none_gen 0e1;cases x<;>first
  | (cases rx;rfl)
  | (obtain⟨t,rfl⟩:=rx;rfl)
theorem LD:jG X (compareOp .IsNot) (fun x y H Q=>y=.Um/\Q (.bl (!decide (x=.Um))) H):=by
 intro Uk s Z H x y v u Q I rx ry h;obtain⟨rfl,q⟩:=h;cases ry;refine isnot_none_gen 0e1;cases x<;>first
  | (cases rx;rfl)
  | (obtain⟨t,rfl⟩:=rx;rfl)
def jG.or{r':R2}(h:jG X f r)(h':jG X f r'):jG X f (fun x y H Q=>r x y H Q\/r' x y H Q):=by
 intro Uk s Z H x y v u Q I rx ry q;rcases q with q|q
 ·exact h Uk s Z H x y v u Q I rx ry q
 ·exact h' Uk s Z H x y v u Q I rx ry q
theorem nomark(b:Expr)(h:op≠.In:=by decide)(h2:op≠.NotIn:=by decide):behindInMarks op b=false:=by
 have e1:(op==CmpOp.In)=false:=by cases op<;>first|rfl|exact absurd rfl h
 have e2:(op==CmpOp.NotIn)=false:=by cases op<;>first|rfl|exact absurd rfl h2
 cases b<;>simp[behindInMarks,e1,e2]
def LG(ho:jG X 7e0 r)(ha:PE X a ta)(hb:PE X b tb)(hm:behindInMarks op b=false):PE X 3e0 8e0:=by
 intro Uk s Z H Q I h;exact wpAny_Compare1 (Nb ha hb I h fun v u s2 x y H2 I2 rx ry q=>ho Uk s2 Z H2 x y v u Q I2 rx ry q) hm
def Cu(t:TE):TT:=fun Z H Q=>t Z H fun x H'=>∃ k,x=.bl k/\Q k H'
def eC(ho:jG X 7e0 r)(ha:PE X a ta)(hb:PE X b tb)(hm:behindInMarks op b=false):PT X 3e0 (Cu 8e0):=by
 intro Uk s Z H Q I h;refine wpAny_isTrue_Compare1 (thn (ha Uk s Z H _ I h) fun v s1 ⟨x,H1,I1,r1,q1⟩=>thn (hb Uk s1 Z H1 _ I1 q1) fun u s2 ⟨y,H2,I2,r2,q2⟩ =>
  thn (ho Uk s2 Z H2 x y v u _ I2 r1 r2 q2) fun c s3 ⟨z,H3,I3,r3,k,e,q3⟩=>?_) hm
 subst e;cases r3;exact Ε0 ⟨H3,I3,q3⟩
def PZ(K:q0B)(x:V)(H:Hp)(k:Bool):Prop :=
 match x with
 | .Um=>k=false
 | .bl b=>k=b
 | .int i=>k=(i !=0)
 | .str y=>y.length<=sizeLine/\k=5e0
 | .byt y=>y.size<=sizeLine/\k=6e0
 | .ref p=>(∃ xs,eY K H p xs/\k = !xs.isEmpty)\/(∃ xs,iJ K H p xs/\k = !xs.isEmpty)\/∃ kvs,H p=some (.dK kvs)/\k = !kvs.isEmpty
 | _=>False
def CY{κ:Type}{kvs:List (κ×V)}{vs:List (κ×Value)}(r:KV kvs vs):(!vs.isEmpty) = !kvs.isEmpty:=by
 cases r<;>rfl
def uU{Up:List Value}(r:Uq xs Up):(!Up.toArray.isEmpty) = !xs.isEmpty:=by
 cases r<;>simp
theorem line63:(sizeLine:Nat) < 2 ^ 63:=by rw[Ε2];decide
theorem DD:SH X (fun x H Q=>∃ k,PZ X.K x H k/\Q k H):=by
 intro Uk s Z H x v Q I rx h;obtain⟨k,e,q⟩:=h;have hl:=line63;have hs:sizeLine=16777216:=Ε2;cases x with
 | Um =>
  cases rx;have e':k=false:=e;subst e';exact truthy_none ⟨H,I,q⟩
 | bl b =>
  cases rx;have e':k=b:=e;subst e';exact Ε0 ⟨H,I,q⟩
 | int i =>
  obtain⟨t,rfl⟩:=rx;have e':k=(i !=0):=e;subst e';exact PySem.P.truthy_int ⟨H,I,q⟩
 | str y =>
  obtain⟨t,rfl⟩:=rx;obtain⟨hy,e'⟩:y.length<=sizeLine/\k=5e0:=e;subst e';exact PySem.P.truthy_str 1e0 ⟨H,I.tok _,q⟩
 | byt y =>
  obtain⟨t,rfl⟩:=rx;obtain⟨hy,e'⟩:y.size<=sizeLine/\k=6e0:=e;subst e';exact PySem.W.truthy_bytes 1e0 ⟨H,I.tok _,q⟩
 | ref p =>
  cases rx;have e':(∃ xs,eY X.K H p xs/\k = !xs.isEmpty)\/(∃ xs,iJ X.K H p xs/\k = !xs.isEmpty)\/∃ kvs,H p=some (.dK kvs)/\k = !kvs.isEmpty:=e;rcases e' with⟨xs,hx,e'⟩|⟨xs,hx,e'⟩|⟨kvs,hx,e'⟩
  ·subst e';obtain⟨Up,r,pl,hz⟩:=I.list hx;have hlen:=r.length;exact wpAny_truthy_list pl.isList 2e0 ⟨H,I.tok _,by rw[uU r];exact q⟩
  ·subst e';obtain⟨Up,r,pl,hz⟩:=I.tuple hx;have hlen:=r.length;exact truthy_tuple pl 2e0 ⟨H,I.tok _,by rw[uU r];exact q⟩
  ·subst e';obtain⟨hz,hS,vs,r,m⟩:kvs.length<=sizeLine/\(p==sysModules)=false/\∃ vs,KV kvs vs/\s.heap.DictOf (bJ X.prog X.w) p vs:=I.Ut p _ hx;have hlen:kvs.length=vs.length:=Paired.length r;exact wpAny_truthy_dict hS m 1e0 ⟨H,I.tok _,by rw[CY r];exact q⟩
 | _=>exact(show False from e).elim
def Dl:jG X (binaryOp .Add) (fun x y H Q=>∃ i j,x=.str i/\y=.str j/\i.length+j.length<=sizeLine/\Q (.str (i++j)) H):=by
 intro Uk s Z H x y v u Q I rx ry h;obtain⟨i,j,rfl,rfl,hz,q⟩:=h;obtain⟨t,rfl⟩:=rx;obtain⟨t',rfl⟩:=ry;exact add_str (fun t' tk=>⟨.str (i++j),H,I.tok _,⟨_,rfl⟩,q⟩) hz
def vals1{x:V}(r:Uq [x] us):∃ u,us=[u]/\bP x u:=by
 cases r with
 | cons r1 r2=>cases r2;exact⟨_,rfl,r1⟩
def vals2{x y:V}(r:Uq [x,y] us):∃ u w',us=[u,w']/\bP x u/\bP y w':=by
 cases r with
 | cons r1 r2 =>
  cases r2 with
  | cons r3 r4=>cases r4;exact⟨_,_,rfl,r1,r3⟩
def Fe(hc:X.calm=true):fA X (.builtin "max") (fun xs H Q=>∃ i j,xs=[.int i,.int j]/\Q (.int (if j > i then j else i)) H):=by
 intro Uk s Z H xs us Q I r h;obtain⟨i,j,rfl,q⟩:=h;obtain⟨u,w',rfl,⟨t,rfl⟩,⟨t',rfl⟩⟩:=vals2 r;refine max_two_ints 9e0 fun h' tk k=>⟨_,H,I.kept k,?_,q⟩;by_cases hj:j > i
 ·rw[if_pos hj,if_pos hj];exact⟨_,rfl⟩
 ·rw[if_neg hj,if_neg hj];exact⟨_,rfl⟩
def Ff(hc:X.calm=true):fA X (.builtin "min") (fun xs H Q=>∃ i j,xs=[.int i,.int j]/\Q (.int (if j < i then j else i)) H):=by
 intro Uk s Z H xs us Q I r h;obtain⟨i,j,rfl,q⟩:=h;obtain⟨u,w',rfl,⟨t,rfl⟩,⟨t',rfl⟩⟩:=vals2 r;refine min_two_ints 9e0 fun h' tk k=>⟨_,H,I.kept k,?_,q⟩;by_cases hj:j < i
 ·rw[if_pos hj,if_pos hj];exact⟨_,rfl⟩
 ·rw[if_neg hj,if_neg hj];exact⟨_,rfl⟩
def Fb:fA X (.type "int") (fun xs H Q=>(∃ i,xs=[.int i]/\Q (.int i) H)\/∃ k,xs=[.bl k]/\Q (.int 4e0) H):=by
 intro Uk s Z H xs us Q I r h;rcases h with⟨i,rfl,q⟩|⟨k,rfl,q⟩
 ·obtain⟨u,rfl,t,rfl⟩:=vals1 r;exact call_int_int ⟨.int i,H,I,⟨_,rfl⟩,q⟩
 ·obtain⟨u,rfl,r1⟩:=vals1 r;cases r1;exact call_int_bool ⟨.int 4e0,H,I.tok _,⟨_,rfl⟩,q⟩
def SF(K:q0B)(x:V)(H:Hp)(n:Nat):Prop :=
 match x with
 | .str y=>y.length<=sizeLine/\n=y.length
 | .byt y=>y.size<=sizeLine/\n=y.size
 | .ref p=>(∃ xs,eY K H p xs/\n=xs.length)\/∃ xs,iJ K H p xs/\n=xs.length
 | _=>False
theorem tU:fA X (.builtin "len") (fun xs H Q=>∃ x n,xs=[x]/\SF X.K x H n/\Q (.int n) H):=by
 intro Uk s Z H xs us Q I r h;obtain⟨x,n,rfl,e,q⟩:=h;obtain⟨u,rfl,rx⟩:=vals1 r;have hl:=line63;have hs:sizeLine=16777216:=Ε2;cases x with
 | str y =>
  obtain⟨t,rfl⟩:=rx;obtain⟨hy,e'⟩:y.length<=sizeLine/\n=y.length:=e;subst e';exact len_str 1e0 ⟨.int _,H,I.tok _,⟨_,rfl⟩,q⟩
 | byt y =>
  obtain⟨t,rfl⟩:=rx;obtain⟨hy,e'⟩:y.size<=sizeLine/\n=y.size:=e;subst e';exact PySem.W.len_bytes 1e0 ⟨.int _,H,I.tok _,⟨_,rfl⟩,q⟩
 | ref p =>
  cases rx;have e':(∃ xs,eY X.K H p xs/\n=xs.length)\/∃ xs,iJ X.K H p xs/\n=xs.length:=e;rcases e' with⟨xs,hx,e'⟩|⟨xs,hx,e'⟩
  ·subst e';obtain⟨Up,r',pl,hz⟩:=I.list hx;have hlen:=r'.length;exact Calls.call_len_list pl.isList 2e0 ⟨.int xs.length,H,I.tok _,⟨_,by simp only[Η];rw[hlen]⟩,q⟩
  ·subst e';obtain⟨Up,r',pl,hz⟩:=I.tuple hx;have hlen:=r'.length;exact len_tuple pl 2e0 ⟨.int xs.length,H,I.tok _,⟨_,by simp only[Η];rw[hlen]⟩,q⟩
 | _=>exact(show False from e).elim
end
end
structure CB(h:Heap)(x dx C:Addr)(mA:q0C):Prop where
 obj:h.get? x=some (PySem.W.instObj C dx)
 ns:h.Ns1 dx mA
 ne:dx≠x
def FO{dx:Addr}{mA:q0C}(n:h.Ns1 dx mA):∃ od,h.get? dx=some od/\∀ name,PySem.W.lookIn name od=some (mA name):=by
 obtain⟨o,es,ep,ho,hd,hk,_,hm⟩:=n;refine⟨o,ho,fun name=>?_⟩;have e:=hm name;unfold nsFind findBy at e;rw[<- Array.find?_toList] at e;unfold PySem.W.lookIn;rw[hd];dsimp only;split
 ·rename_i y q
  rw[q] at e;exact congrArg some e
 ·rename_i q
  rw[q] at e;have a:es.toList.any (·.refKey)=false:=by
   rw[List.any_eq_false];intro y hy;obtain⟨z,t,Wm⟩:=hk y (Array.mem_toList_iff.mp hy);simp[DictEntry.refKey,Wm]
  have a':¬ es.toList.any (·.refKey)=true:=by rw[a];exact ϒ
  rw[if_neg a'];exact congrArg some e
def CB.look{x dx:Addr}{mA:q0C}(I:CB h x dx C mA):∃ od,PySem.W.InstAt h x (PySem.W.instObj C dx) C (some od)/\∀ name,PySem.W.lookIn name od=some (mA name) :=
 let ⟨od,ho,hl⟩:=FO I.ns
 ⟨od,⟨I.obj,rfl,rfl,ho⟩,hl⟩
section
mutual
example:=[model prog w,.ref f,.ref C,.ref x,s.heap.objs.size+1]
variable{prog:Program}{x dx f:Addr}{mA:q0C}{name:Str}{v:Value}
def Ln{expr:Bool}{Q:q0A}(X:K.In s.heap)(I:CB s.heap x dx C mA)(hg:PySem.W.plainGet K C name=true)(hh:PySem.W.hasDictIn K C=true)(ha:PySem.W.findIn K 2e0 name=some none)(hv:mA name=some v)(X3:PySem.W.handedIn v=true)(h:Q v {s with toks:=s.toks+1}) : wpAny 0e0 A (getAttr 3e0 name expr) Q E s:=by
 obtain⟨od,J,hl⟩:=I.look;exact PySem.W.get_value X J (PySem.W.plainGet_of hg).1 (PySem.W.findObj_own hh ha rfl (by rw[hl,hv])) X3 h
def Ic{Q:Value×List Value->Shared->Prop}(X:K.In s.heap)(I:CB s.heap x dx C mA)(hg:PySem.W.plainGet K C name=true)(hf:PySem.W.findIn K 2e0 name=some (some 1e0))(ht:PySem.W.isFn K 1e0=true)(hv:mA name=none)(h:Q (.ref f,[.ref x]) s) : wpAny 0e0 A (getMethod 3e0 name pl) Q E s:=by
 obtain⟨od,J,hl⟩:=I.look;exact PySem.W.method_fn X J (PySem.W.plainGet_of hg).1 (PySem.W.plainGet_of hg).2 hf (beq_iff_eq.mp ht) (by show(PySem.W.lookIn name od).map (·.isSome)=some false;rw[hl,hv];rfl) h
theorem L3{ns:List Str}(X:K.In s.heap)(I:CB s.heap x dx C mA)(hs:PySem.W.findIn K 2e0 "__setattr__"=some (some (.builtin "object.__setattr__")))(hp:PySem.W.plainOver K C=true)(ht:PySem.W.takerIn K C name=some none)(hh:PySem.W.hasDictIn K C=true)(hw:PySem.Within mA ns)(hsz:ns.length<=sizeLine)(h:∀ h',CB h' x dx C (fun y=>if y=name then some v else mA y)->Heap.SameBut dx s.heap h'->Q () {s with heap:=h',toks:=s.toks+2}) : wpAny 0e0 A (setAttr 3e0 name v) Q E s:=by
 obtain⟨od,J,hl⟩:=I.look;refine PySem.W.set_plain X J hs (PySem.W.osa_open (s:={s with toks:=s.toks+1}) (r:=none) X J hp ht fun b=>?_);obtain⟨cd,hc,ZH⟩:=PySem.W.any_some hh;have hx:s.heap.get? x=some ⟨.ref C,some dx,.plain,#[]⟩:=I.obj;refine Β (Ι (Β (Β (wpAny_loadPart hx (Β (PySem.W.Looks.here (s:={s with toks:=s.toks+1}) (PySem.W.looks_clsIn X hc) ?_))))));rw[ZH];refine Ι (a:=some dx) (Β (Ι (Β ?_)));refine wpAny_nsSet1 (s:={s with toks:=s.toks+1}) I.ns fun h' XX ZV=>?_;obtain⟨oD,esD,epD,hoD,hdD,hcD⟩:=XX.count (PySem.Within.cons name v hw);refine Β (wpAny_lookBehind hoD (by rw[hdD];exact pastItsLine_dict (Χ hcD (by rw[Ζ];omega))) ?_);exact Ι (h _ ⟨(ZV.2 _ (Ne.symm I.ne)).trans I.obj,XX,I.ne⟩ ZV)
def ID{R:Result->Shared->Prop}{vs:List Value}(X:K.In s.heap)(hm:PySem.W.makesIn K C=true)(hi:PySem.W.findIn K 2e0 "__init__"=some (some 1e0))(hf:PySem.W.typeIn K 1e0=some (.type "function"))(h:codeAny 0e0 (A.under (.builtin "type.__call__" ⟨.ref C::vs,kw⟩)) (.call 1e0 ⟨.ref 4e0::vs,kw⟩) (PySem.W.InitBack 4e0 R) {s with heap:=(s.heap.push PySem.W.emptyDict).push (PySem.W.instObj C s.heap.objs.size)}) : codeAny 0e0 A (.call 2e0 ⟨vs,kw⟩) R s:=by
 obtain⟨hh,g,d,t,os⟩:=s;exact PySem.W.make_core (PySem.W.makes_of X hm) (PySem.W.looks_findIn X hi) (fun self=>PySem.W.bind_fn X self hf) (.inl rfl) h
end
end
mutual
example:=[Str×V,(if k=f then (k,v)::r else (k,x)::iT f v r),((k,x)::r)]
def iT(f:Str)(v:V):List 0e0->List 0e0
 | []=>[(f,v)]
 | (g,x)::r=>if g=f then (g,v)::r else (g,x)::iT f v r
theorem rQ(f g:Str)(v:V):∀ fs:List 0e0,(iT f v fs).lookup g=if g=f then some v else fs.lookup g
 | []=>by
  show List.lookup g [(f,v)]=_;by_cases h:g=f
  ·have hb:(g==f)=true:=beq_iff_eq.mpr h;simp only[List.lookup,hb,if_pos h]
  ·have hb:(g==f)=false:=Β4.mpr h;simp only[List.lookup,hb,if_neg h]
 | (k,x)::r=>by
  have ih:=rQ f g v r;rw[show iT f v 2e0=1e0 from rfl];by_cases hk:k=f
  ·rw[if_pos hk];by_cases h:g=k
   ·have hb:(g==k)=true:=beq_iff_eq.mpr h;simp only[List.lookup,hb,if_pos (h.trans hk)]
   ·have hb:(g==k)=false:=Β4.mpr h;simp only[List.lookup,hb,if_neg (fun e:g=f=>h (e.trans hk.symm))]
  ·rw[if_neg hk];by_cases h:g=k
   ·have hb:(g==k)=true:=beq_iff_eq.mpr h;simp only[List.lookup,hb,if_neg (fun e:g=f=>hk (h.symm.trans e))]
   ·have hb:(g==k)=false:=Β4.mpr h;simp only[List.lookup,hb];exact ih
theorem qI(f:Str)(v:V):∀ fs:List 0e0,f∈(iT f v fs).map (·.1)/\∀ g,g∈fs.map (·.1)->g∈(iT f v fs).map (·.1)
 | []=>⟨by simp[iT],fun g h=>by simp at h⟩
 | (k,x)::r=>by
  obtain⟨i1,i2⟩:=qI f v r;rw[show iT f v 2e0=1e0 from rfl];by_cases hk:k=f
  ·rw[if_pos hk];subst hk;exact⟨by simp,fun g h=>by simpa using h⟩
  ·rw[if_neg hk];refine⟨?_,fun g h=>?_⟩
   ·rw[ϔ];exact ϑ _ i1
   ·rw[ϔ] at h ⊢;rcases Α.mp h with e|e
    ·exact Α.mpr (.inl e)
    ·exact ϑ _ (i2 g e)
theorem rO(f:Str)(v:V):∀ fs:List 0e0,(iT f v fs).length<=fs.length+1
 | []=>by simp[iT]
 | (k,x)::r=>by
  have ih:=rO f v r;rw[show iT f v 2e0=1e0 from rfl];by_cases hk:k=f
  ·rw[if_pos hk,Ζ,Ζ];omega
  ·rw[if_neg hk,Ζ,Ζ];omega
def kN.some_of{o:Option Value}(r:kN (some v) o):∃ u,o=some u/\bP v u:=by
 cases o with
 | none=>exact(show False from r).elim
 | some u=>exact⟨u,rfl,r⟩
def kN.none_of{o:Option Value}(r:kN none o):o=none:=by
 cases o with
 | none=>rfl
 | some u=>exact(show False from r).elim
def Fu(r:bP v u):PySem.W.handedIn u=true:=by
 cases v with
 | Um=>cases (show u=Value.none from r);rfl
 | bl b=>cases (show u=Value.bool b from r);rfl
 | int i=>obtain⟨t,e⟩:=(show ∃ t,u=Value.int i t from r);cases e;rfl
 | str x=>obtain⟨t,e⟩:=(show ∃ t,u=Value.str x t from r);cases e;rfl
 | byt b=>obtain⟨t,e⟩:=(show ∃ t,u=Value.bytes b t from r);cases e;rfl
 | flt b=>obtain⟨t,e⟩:=(show ∃ t,u=Value.float b t from r);cases e;rfl
 | ref a=>cases (show u=Value.ref a from r);rfl
 | ty n=>cases (show u=Value.type n from r);rfl
end
section
variable{H':Hp}{h':Heap}{dx:Addr}{fs XO:List (Str×V)}
def Ae(Ut:HOk P w H h)(e:H a=some (.ins C dx fs)):∃ mA,CB h a dx C mA/\(∀ f,kN (fs.lookup f) (mA f))/\PySem.Within mA (fs.map (·.1))/\fs.length<=1000/\H dx=some (.own a):=by
 obtain⟨d,z,ne,ob,mA,n,r,q⟩:=(show eF P w H h a (.ins C dx fs) from Ut a _ e);exact⟨mA,⟨ob,n,ne⟩,r,q,z,d⟩
end
mutual
example:=[.ref C,.ref f]
structure Cls(K:q0B)(C:Addr):Prop where
 pg:PySem.W.plainGet K C Str.empty=true
 hd:PySem.W.hasDictIn K C=true
 po:PySem.W.plainOver K C=true
 sa:PySem.W.findIn K 0e0 "__setattr__"=some (some (.builtin "object.__setattr__"))
def Cls.get(c:Cls K C)(f:Str):PySem.W.plainGet K C f=true:=c.pg
def eU(K:q0B)(C:Addr)(f:Str):Prop:=PySem.W.findIn K 0e0 f=some none
def eU.Sd{f:Str}(n:eU K C f):PySem.W.takerIn K C f=some none:=by
 unfold PySem.W.takerIn;rw[show PySem.W.findIn K 0e0 f=some none from n];rfl
structure Meth(K:q0B)(C:Addr)(m:Str)(f:Addr):Prop where
 at_:PySem.W.findIn K 0e0 m=some (some 1e0)
 fn:PySem.W.isFn K 1e0=true
 kp:PySem.W.keepIn K 1e0=true
end
section
mutual
example:=[s.heap.objs.size+1,PySem.W.instObj C s.heap.objs.size,model X.prog X.w,model prog w,.ins C dx fs,.ref a,(if g=f then some u else mA g),(fun b u q=>Ε _ q),eval e env]
variable{dx:Addr}{fs:List (Str×V)}{f:Str}
def uP{b:Bool}{Q:q0A}(I:Uo X Uk Z H s)(e:H a=some 4e0)(c:Cls X.K C)(n:eU X.K C f)(l:fs.lookup f=some v)(h:∀ u s',Uo X Uk Z H s'->bP v u->Q u s'):wpAny 2e0 A (getAttr 5e0 f b) Q E s:=by
 obtain⟨mA,O,r,_,_,_⟩:=Ae I.Ut e;obtain⟨u,hu,ru⟩:=kN.some_of (v:=v) (o:=mA f) (by rw[<- l];exact r f);exact Ln I.kIn O (c.get f) c.hd n hu (Fu ru) (h u _ (I.tok _) ru)
def uQ{m:Str}{g:Addr}{Q:Value×List Value->Shared->Prop}(I:Uo X Uk Z H s)(e:H a=some 4e0)(c:Cls X.K C)(k:Meth X.K C m g)(l:fs.lookup m=none)(h:Q (.ref g,[.ref a]) s):wpAny 2e0 A (getMethod 5e0 m pl) Q E s:=by
 obtain⟨mA,O,r,_,_,_⟩:=Ae I.Ut e;have hn:mA m=none:=kN.none_of (by rw[<- l];exact r m);exact Ic I.kIn O (c.get m) k.at_ k.fn hn h
theorem wX{y:V}(I:Uo X Uk Z H s)(e:H a=some 4e0)(c:Cls X.K C)(n:eU X.K C f)(hl:fs.length < 1000)(ry:bP y u)(h:∀ s',Uo X Uk Z (Ul H a (.ins C dx (iT f y fs))) s'->Q () s'):wpAny 2e0 A (setAttr 5e0 f u) Q E s:=by
 obtain⟨mA,O,r,wi,_,ho⟩:=Ae I.Ut e;have hz:(fs.map (·.1)).length<=sizeLine:=by rw[Γ,Ε2];omega
 refine L3 I.kIn O c.sa c.po n.Sd c.hd wi hz fun h' O' sb=>h _ ?_;have hd:∃ o,h'.get? dx=some o:=let ⟨o,_,_,e',_⟩:=O'.ns;⟨o,e'⟩;refine I.write (x:=a) (e:=dx) (by rw[e];exact True.intro) (.inr ho) (fun b q hb z=>(sb.2 b hb).trans z) hd ?_;refine⟨by rw[aE O.ne];exact ho,?_,O.ne,O'.obj,_,O'.ns,fun g=>?_,fun g hg=>?_⟩
 ·have:=rO f y fs;omega
 ·show kN ((iT f y fs).lookup g) 6e0;rw[rQ];by_cases q:g=f
  ·rw[if_pos q,if_pos q];exact ry
  ·rw[if_neg q,if_neg q];exact r g
 ·by_cases q:g=f
  ·rw[q];exact(qI f y fs).1
  ·refine(qI f y fs).2 g (wi g fun z=>hg ?_);show 6e0=none;rw[if_neg q];exact z
def Uo.made(I:Uo X Uk Z H s):Uo X Uk Z (Ul (Ul H s.heap.objs.size (.own 0e0)) 0e0 (.ins C s.heap.objs.size [])) {s with heap:=(s.heap.push PySem.W.emptyDict).push 1e0}:=by
 have e1:(s.heap.push PySem.W.emptyDict).get? s.heap.objs.size=some PySem.W.emptyDict:=Ρ s.heap rfl;have e2:((s.heap.push PySem.W.emptyDict).push 1e0).get? 0e0=some 1e0:=by
  have:=Ρ (s.heap.push PySem.W.emptyDict) (o:=PySem.W.instObj C s.heap.objs.size) rfl
  rwa [Heap.size_push] at this
 have e3:(s.heap.push PySem.W.emptyDict).Ns s.heap.objs.size (fun _=>none):=⟨PySem.W.emptyDict,#[],_,e1,rfl,(fun e he=>absurd he (by simp)),fun _=>rfl⟩;have I1:=I.laid (a:=s.heap.objs.size) (o:=.own 0e0) (h':=s.heap.push PySem.W.emptyDict) (t':=s.toks) 7e0 (Θ _) ⟨_,e1⟩;refine I1.laid (a:=s.heap.objs.size+1) (o:=.ins C s.heap.objs.size []) (t':=s.toks) 7e0 (Nat.le_of_eq (Heap.size_push _ _)) ?_;have ne:s.heap.objs.size≠s.heap.objs.size+1:=Υ (Nat.lt_succ_self _);refine⟨by rw[aE ne,aA],Α2 _,ne,e2,fun _=>none,(Heap.Ns1.of_empty e3).at fun o q=>Ε _ q,fun _=>True.intro,fun y hy=>absurd rfl hy⟩
def Kd{prog:Program}{env:Env}{Q:q0A}(hb:attributeBase e f env 8e0=eval e env)(h:wpAny 3e0 A 8e0 (fun o s₁=>wpAny 3e0 A (getAttr o f true) Q E s₁) E s):wpAny 3e0 A (eval (.Attribute e f pos) env) Q E s :=
 Attribute_any_ h (by rw[arm_eval_Attribute,hb])
end
end
noncomputable def SE(X:Cx)(op:Operator)(rd:V->V->Hp->VK->Prop):Prop :=
 ∀(Uk:List (Addr×Obj)) (s:Shared) (Z:St) (H:Hp) (x y:V) (u v:Value) (Q:VK),Uo X Uk Z H s->bP x u->bP y v->rd x y H Q->wpAny (model X.prog X.w) X.A (inplaceOp op u v) (EP X Uk Z Q) X.xe s
section
variable{o value:Expr}{f:Str}{pos' Xg:Pos}{ta tv:TE}
def Tt:V->V->Hp->VK->Prop:=fun x y H Q=>∃ i j,x=.int i/\y=.int j/\Q (.int (i+j)) H
def OP:SE X .Add Tt:=by
 rintro Uk s Z H x y u v Q I rx ry ⟨i,j,rfl,rfl,q⟩;obtain⟨t,rfl⟩:=(show ∃ t,u=Value.int i t from rx);obtain⟨t',rfl⟩:=(show ∃ t',v=Value.int j t' from ry);exact PyProof.Rows.iadd_int ⟨.int (i+j),H,I.tok _,⟨_,rfl⟩,q⟩
end
section
variable{Q:q0A}{c:Value}{b:Bool}
end
mutual
example:=[(.builtin "type.__call__" ⟨.ref C::us,kw⟩)]
structure Room(k:Nat)(A:Around):Prop where
 hd:A.handled=none
 dp:A.depth+3 * k+5 < recursionLimit
 un:A.units+16 * k+200 < cLine
theorem Room.mono{j:Nat}(r:Room k A)(h:j<=k):Room j A:=⟨r.hd,by have:=r.dp;omega,by have:=r.un;omega⟩
theorem Room.deeper(r:Room (k+1) A)(env:Env):Room k (A.deeper env) :=
 ⟨r.hd,by have:=r.dp;show A.depth+1+3 * k+5 < _;omega,by have:=r.un;show A.units+3+16 * k+200 < _;omega⟩
def C1:(A.under 0e0).depth=A.depth+1:=by
 first|rfl|simp[Around.under,Code.weight,Code.isCreation,Code.isGuard,Code.isCaller,Code.frames,Code.isFrame,guardIds]
def C2:(A.under 0e0).units=A.units+1:=by
 first|rfl|simp[Around.under,Code.cUnits,Code.frames,Code.isFrame]
theorem Room.make(r:Room (k+1) A)(C:Addr)(us:List Value)(kw:List (Str×Value)):Room k (A.under 0e0) :=
 ⟨r.hd,by have:=r.dp;rw[C1];omega,by have:=r.un;rw[C2];omega⟩
theorem Room.depth(r:Room k A):A.depth < recursionLimit:=by have:=r.dp;omega
theorem Room.units(r:Room k A):A.units+64 < cLine:=by have:=r.un;omega
def xH:TA:=fun _ H Q=>Q [] H
def mS(ta:TE)(tr:TA):TA:=fun Z H Q=>ta Z H fun x H1=>tr Z H1 fun xs H2=>Q (x::xs) H2
end
section
mutual
example:=[(thn (h pos Uk s Z H _ I hq) fun us s1 ⟨xs,H1,I1,r,z,q⟩=>⟨by rw[<- r.length];exact z,?_⟩),(fun b u e=>Ε _ e)]
variable{t:TA}
def bM:PA X [] xH:=fun _ _ _ _ H Q I h=>Calls.spliced_nil ⟨[],H,I,.nil,h⟩
def Es(ha:PE X e te)(hr:PA X es t)(hs:starEach (e::es) X.env=(false,eval e X.env)::starEach es X.env:=by rfl):PA X (e::es) (mS te t):=by
 intro pos Uk s Z H Q I h;rw[hs];show wpAny _ _ (spliced ((false,eval e X.env)::backTo pos (starEach es X.env))) _ _ s;refine Δ3 (thn (ha Uk s Z H _ I h) fun u s1 ⟨x,H1,I1,r1,q1⟩=>?_);exact thn (hr pos Uk s1 Z H1 _ I1 q1) fun us s2 ⟨xs,H2,I2,r2,q2⟩=>⟨x::xs,H2,I2,.cons r1 r2,q2⟩
def Sb(t:TA):TE:=fun Z H Q=>t Z H fun xs H1=>xs.length<=sizeLine/\∀ p,H1 p=none->Q (.ref p) (Ul H1 p (.tup xs))
def RZ(t:TA):TE:=fun Z H Q=>t Z H fun xs H1=>xs.length<=sizeLine/\∀ p,H1 p=none->Q (.ref p) (Ul H1 p (.lst xs))
def aV{x1}(h:PA X es t):PE X (.Tuple es x1 pos) (Sb t):=by
 intro Uk s Z H Q I hq;refine wpAny_Tuple_spliced 0e0;have hf:H1 s1.heap.objs.size=none:=I1.Ut.fresh (Θ _);refine⟨.ref s1.heap.objs.size,Ul H1 s1.heap.objs.size (.tup xs),I1.laid (t':=s1.toks) 1e0 (Θ _) ?_,rfl,q _ hf⟩;exact⟨z,us,r,⟨_,Ρ _ rfl,rfl,_,rfl⟩⟩
def aU(h:PA X es t):PE X (.List es pos) (RZ t):=by
 intro Uk s Z H Q I hq;refine wpAny_List_spliced 0e0;have hf:H1 s1.heap.objs.size=none:=I1.Ut.fresh (Θ _);refine⟨.ref s1.heap.objs.size,Ul H1 s1.heap.objs.size (.lst xs),I1.laid (t':=s1.toks) 1e0 (Θ _) ?_,rfl,q _ hf⟩;exact⟨z,us,0,r,Ρ _ rfl⟩
end
end
mutual
example:=[]
abbrev Sp:=List V->Hp->VK->XK->Prop
abbrev CXT:=List Env->Hp->Shared->XK->Value->Shared->Prop
variable{CX:CXT}
structure Env0(P:Program)(w:World)(K:q0B)(mg:q0C)(base:Heap)(A:Around)(outer:List Env)(s:Shared)(H:Hp):Prop where
 frames:A.frames=some outer
 mod:Mod K mg base
 bs:∀ b o,base.get? b=some o->s.heap.get? b=some o/\H b=none
 bsz:base.objs.size<=s.heap.objs.size
 oT:s.heap.FunFrames base outer
 frf:∀ b∈frs outer,H b=none
 Ut:HOk P w H s.heap
 bare:AllBare s.gens
def CE(outer:List Env)(P:Program)(w:World)(H:Hp)(s:Shared)(Q:VK)(u:Value)(s':Shared):Prop :=
 ∃ v H',s'.os=s.os/\AllBare s'.gens/\Un (frs outer) [] H H' s.heap s'.heap/\HOk P w H' s'.heap/\bP v u/\Q v H'
def CR(CX:CXT)(outer:List Env)(P:Program)(w:World)(H:Hp)(s:Shared)(Q:VK)(E:XK)(r:Result)(s':Shared):Prop :=
 match r with
 | .ok (.ret u)=>CE outer P w H s Q u s'
 | .ok _=>False
 | .error e=>CX outer H s E e s'
structure fG(P:Program)(w:World)(K:q0B)(mg:q0C)(base:Heap)(CX:CXT)(k:Nat)(f:Addr)(fd:FuncData)(ps:List Str)(sp:Sp):Prop where
 len:∀ vs H Q E,sp vs H Q E->vs.length=ps.length
 run:∀(A:Around) (outer:List Env) (s:Shared) (H:Hp) (args:Args) (us:List Value) (vs:List V) (Q:VK) (E:XK),Room k A->Env0 P w K mg base A outer s H->BindsTo s fd args (ps.zip us)->Uq vs us->sp vs H Q E ->
  codeAny (model P w) A (.call (.ref f) args) (CR CX outer P w H s Q E) s
def fG.mono{j:Nat}{f:Addr}{sp:Sp}(F:fG P w K mg base CX j f fd ps sp)(h:j<=k) : fG P w K mg base CX k f fd ps sp:=⟨F.len,fun A outer s H args us vs Q E hr=>F.run A outer s H args us vs Q E (hr.mono h)⟩
def fG.imp{f:Addr}{sp sp':Sp}(F:fG P w K mg base CX k f fd ps sp)(h:∀ vs H Q E,sp' vs H Q E->sp vs H Q E):fG P w K mg base CX k f fd ps sp' :=
 ⟨fun vs H Q E q=>F.len vs H Q E (h _ _ _ _ q),fun A outer s H args us vs Q E hr he hb hv hs=>F.run A outer s H args us vs Q E hr he hb hv (h _ _ _ _ hs)⟩
def Env0.make(e:Env0 P w K mg base A outer s H)(C:Addr)(us:List Value)(kw:List (Str×Value)) : Env0 P w K mg base (A.under (.builtin "type.__call__" ⟨.ref C::us,kw⟩)) outer s H:=⟨by first|exact e.frames|(simpa[Around.under,Code.envs,Code.isFrame,pushEnvs] using e.frames),e.mod,e.bs,e.bsz,e.oT,e.frf,e.Ut,e.bare⟩
end
section
def Uo.Q8(I:Uo X Uk Z H s):Env0 X.prog X.w X.K X.mg X.base X.A X.stack s H :=
 ⟨I.ok.frames,I.ok.mod,I.bs,Χ I.ok.bsz I.sz,I.stack,I.AL,I.Ut,I.bare⟩
def Uo.after{Q:VK}(I:Uo X Uk Z H s)(h:CE X.stack X.prog X.w H s Q u s'):EP X Uk Z Q u s':=by
 obtain⟨v,H',os,bare,un,Ut,r,q⟩:=h;obtain⟨hh,g,d,t,XF⟩:=s';obtain rfl:XF=s.os:=os;exact⟨v,H',I.call (h':=hh) (g':=g) (d':=d) (t':=t) (ch:=[]) un Ut bare (fun b z=>absurd z (by simp)),r,q⟩
end
mutual
example:=[vs++U9]
def EX(sp:Sp)(U9:List V)(E:XK)(t:TA):TE:=fun Z H Q=>t Z H fun vs H1=>sp 0e0 H1 Q E
def Ct(C:Addr)(m:Str)(sp:Sp)(U9:List V)(E:XK)(ta:TE)(t:TA):TE:=fun Z H Q=>ta Z H fun x H1=>∃ a dx fs,x=.ref a/\H1 a=some (.ins C dx fs)/\fs.lookup m=none /\
 t Z H1 fun vs H2=>sp (x::0e0) H2 Q E
def EY(C:Addr)(sp:Sp)(U9:List V)(E:XK)(t:TA):TE:=fun Z H Q=>t Z H fun vs H1=>∀ x dx,H1 x=none->H1 dx=none->dx≠x ->
 sp (.ref x::0e0) (Ul (Ul H1 dx (.own x)) x (.ins C dx [])) (fun v H2=>v=.Um/\Q (.ref x) H2) E
def Binds(K:q0B)(fd:FuncData)(ps:List Str)(ds:List Value):Prop :=
 ∀(s:Shared) (us:List Value),K.In s.heap->(us++ds).length=ps.length->BindsTo s fd ⟨us,[]⟩ (ps.zip (us++ds))
def Binds.all(h:∀ us:List Value,us.length=ps.length->bindArgs fd ⟨us,[]⟩=pure (ps.zip us)):Binds K fd ps []:=fun s us _ hl=>by
 rw[ϛ] at hl ⊢;exact .of_eq (h us hl)
def Passes(CX:CXT)(X:Cx)(E:XK):Prop:=∀(Uk:List (Addr×Obj)) (Z:St) (H:Hp) (s:Shared) (e:Value) (s':Shared),Uo X Uk Z H s->CX X.stack H s E e s'->X.xe e s'
end
section
mutual
example:=[e::es,s.heap.objs.size+1,vs++U9,.ref f,.ref C,.Attribute o m apos,us++ds,x==("__debug__":Str),starEach es X.env,sS I hg hm ?_ WV,.Name x p,(thn (ha pos Uk s Z H _ I h) fun us s1 ⟨vs,H1,I1,r,q⟩=>⟨I1.kIn,?_⟩),(thn (he Uk s Z H _ I h) fun u s1 ⟨x,H1,I1,rx,a,dx,fs,ex,ea,l,q⟩=>?_),backToKw pos (keywordEach [] X.env),getMethod ov m pl,model X.prog X.w,EP X Uk Z Q]
variable{f:Addr}{sp:Sp}{U9:List V}{ds:List Value}{E:XK}{m:Str}{p apos:Pos}{o:Expr}{ta:TE}{t:TA}
def AB{Q:VK}(F:fG X.prog X.w X.K X.mg X.base CX k f fd ps sp)(hr:Room k X.A)(hb:Binds X.K fd ps ds)(hd:Uq U9 ds)(hx:Passes CX X E)(I:Uo X Uk Z H s)(r:Uq vs us)(h:sp 2e0 H Q E):wpAny 5e1 X.A (call 3e0 us) 6e1 X.xe s:=by
 have r2:Uq 2e0 6e0:=r.append hd;have hl:(us++ds).length=ps.length:=by rw[<- r2.length];exact F.len _ _ _ _ h
 refine wpAny_call (codeAny_mono (F.run X.A X.stack s H ⟨us,[]⟩ 6e0 2e0 Q E hr I.Q8 (hb s us I.kIn hl) r2 h) fun r s' hq=>?_);cases r with
 | error e=>exact hx Uk Z H s e s' I hq
 | ok fl =>
  cases fl with
  | ret u=>exact I.after hq
  | next=>exact False.elim hq
  | brk=>exact False.elim hq
  | cont=>exact False.elim hq
theorem tG(F:fG X.prog X.w X.K X.mg X.base CX k f fd ps sp)(hr:Room k X.A)(hg:Gl X x)(hm:X.mg x=some 3e0)(hk:PySem.W.keepIn X.K 3e0=true)(hb:Binds X.K fd ps ds)(hd:Uq U9 ds)(hx:Passes CX X E)(ha:PA X 0e0 t)(WV:7e0=false:=by decide)(he:starEach 0e0 X.env=(false,eval e X.env)::starEach es X.env:=by rfl)(UU:(backTo pos 8e0).any (·.1)=false:=by rfl) : PE X (.Call 0e1 0e0 [] pos) (EX sp U9 E t):=by
 intro Uk s Z H Q I h;refine wpAny_Call_Name_kw 9e0;refine PySem.W.callWith_K (h₀:=X.base) I.ok.mod.kin hk 1e1 he UU;exact AB F hr hb hd hx I1 r q
def Aw(he:PE X o ta)(c:Cls X.K C)(hm:Meth X.K C m f)(F:fG X.prog X.w X.K X.mg X.base CX k f fd ps sp)(hr:Room k X.A)(hb:Binds X.K fd ps ds)(hd:Uq U9 ds)(hx:Passes CX X E)(ha:PA X 0e0 t)
    (UC:starEach 0e0 X.env=(false,eval e X.env)::starEach es X.env:=by rfl) (UU:(backTo pos 8e0).any (·.1)=false:=by rfl)
    (ht:eval (.Call 5e0 0e0 [] pos) X.env=(do
      let ov <- eval o X.env
      standAt apos.atName
      let (f,first) <- holding [ov] 4e1
      callWith pos f first (backTo pos (starEach 0e0 X.env)) 3e1):=by rfl) :
    PE X (.Call 5e0 0e0 [] pos) (Ct C m sp U9 E ta t):=by
  intro Uk s Z H Q I h;refine PySem.W.methodCall_KW (pl:=pl) 2e1 ht;subst ex;obtain rfl:u=Value.ref a:=rx;refine uQ I1 ea c hm l ?_;refine PySem.W.callWith_K (first:=[.ref a]) (h₀:=X.base) I.ok.mod.kin hm.kp (thn (ha pos Uk s1 Z H1 _ I1 q) fun us s2 ⟨vs,H2,I2,r,q2⟩=>⟨I2.kIn,?_⟩) UC UU
  exact AB (us:=.ref a::us) (vs:=.ref a::vs) F hr hb hd hx I2 (.cons rfl r) q2
def Jg(he:PE X o ta)(c:Cls X.K C)(hm:Meth X.K C m f)(F:fG X.prog X.w X.K X.mg X.base CX k f fd ps sp)(hr:Room k X.A)(hb:Binds X.K fd ps ds)(hd:Uq U9 ds)(hx:Passes CX X E)
    (ht:eval (.Call 5e0 [] [] pos) X.env=(do
      let ov <- eval o X.env
      standAt apos.atName
      let (f,first) <- holding [ov] 4e1
      callWith pos f first (backTo pos (starEach [] X.env)) 3e1):=by rfl) :
    PE X (.Call 5e0 [] [] pos) (Ct C m sp U9 E ta xH):=by
  intro Uk s Z H Q I h;refine PySem.W.methodCall_KW (pl:=pl) 2e1 ht;subst ex;obtain rfl:u=Value.ref a:=rx;refine uQ I1 ea c hm l ?_;exact PySem.W.callWith_K0 (first:=[.ref a]) I1.kIn hm.kp (AB (us:=[.ref a]) (vs:=[.ref a]) F hr hb hd hx I1 (.cons rfl .nil) q)
structure Mk(K:q0B)(C f:Addr):Prop where
 makes:PySem.W.makesIn K C=true
 init:PySem.W.findIn K 4e0 "__init__"=some (some 3e0)
 fn:PySem.W.isFn K 3e0=true
 kp:PySem.W.keepIn K 4e0=true
def B0{Q:VK}(M:Mk X.K C f)(F:fG X.prog X.w X.K X.mg X.base CX k f fd ps sp)(hr:Room (k+1) X.A)(hb:Binds X.K fd ps ds)(hd:Uq U9 ds)(hx:Passes CX X E)(I:Uo X Uk Z H s)(r:Uq vs us)(h:∀ x dx,H x=none->H dx=none->dx≠x->sp (.ref x::2e0) (Ul (Ul H dx (.own x)) x (.ins C dx [])) (fun v H2=>v=.Um/\Q (.ref x) H2) E) : wpAny 5e1 X.A (call 4e0 us) 6e1 X.xe s:=by
 have hq:=h 1e0 s.heap.objs.size (I.Ut.fresh (Ε3 _)) (I.Ut.fresh (Θ _)) (Υ (Nat.lt_succ_self _));have I2:=Uo.made (C:=C) I;have r2:Uq (V.ref 1e0::2e0) (Value.ref 1e0::6e0):=.cons rfl (r.append hd);have hl:(Value.ref 1e0::us++ds).length=ps.length:=by
  have e:=r2.length;rw[F.len _ _ _ _ hq] at e;exact e.symm
 refine wpAny_call (ID (f:=f) I.kIn M.makes M.init (beq_iff_eq.mp M.fn) (codeAny_mono (F.run _ X.stack _ _ ⟨Value.ref 1e0::us,[]⟩ (Value.ref 1e0::6e0) _ _ E (hr.make C us [])
  (I2.Q8.make C us []) (hb _ (Value.ref 1e0::us) I2.kIn hl) r2 hq) fun r s' ZS=>?_))
 cases r with
 | error e=>exact hx Uk Z _ _ e s' I2 ZS
 | ok fl =>
  cases fl with
  | ret u =>
   obtain⟨v,H',I3,rv,ev,q3⟩:=I2.after ZS;subst ev;exact⟨rv,⟨V.ref 1e0,H',I3,rfl,q3⟩⟩
  | next=>exact False.elim ZS
  | brk=>exact False.elim ZS
  | cont=>exact False.elim ZS
theorem Ew(M:Mk X.K C f)(F:fG X.prog X.w X.K X.mg X.base CX k f fd ps sp)(hr:Room (k+1) X.A)(hg:Gl X x)(hm:X.mg x=some 4e0)(hb:Binds X.K fd ps ds)(hd:Uq U9 ds)(hx:Passes CX X E)(ha:PA X 0e0 t)(WV:7e0=false:=by decide)(he:starEach 0e0 X.env=(false,eval e X.env)::starEach es X.env:=by rfl)(UU:(backTo pos 8e0).any (·.1)=false:=by rfl) : PE X (.Call 0e1 0e0 [] pos) (EY C sp U9 E t):=by
 intro Uk s Z H Q I h;refine wpAny_Call_Name_kw 9e0;refine PySem.W.callWith_K (h₀:=X.base) I.ok.mod.kin M.kp 1e1 he UU;exact B0 M F hr hb hd hx I1 r q
theorem Jf(M:Mk X.K C f)(F:fG X.prog X.w X.K X.mg X.base CX k f fd ps sp)(hr:Room (k+1) X.A)(hg:Gl X x)(hm:X.mg x=some 4e0)(hb:Binds X.K fd ps ds)(hd:Uq U9 ds)(hx:Passes CX X E)(WV:7e0=false:=by decide):PE X (.Call 0e1 [] [] pos) (EY C sp U9 E xH):=by
 intro Uk s Z H Q I h;refine wpAny_Call_Name_kw 9e0;exact PySem.W.callWith_K0 I.kIn M.kp (B0 (us:=[]) M F hr hb hd hx I .nil h)
end
end
section
variable{f:Addr}{ks:List Str}{sp:Sp}{E:XK}{m:Str}{p apos ab0:Pos}{o:Expr}{kws:List Keyword}{ta:TE}{t tk:TA}{nm:Option Str}
variable{g:List Value->List Value->List Value}{gV:List V->List V->List V}
end
mutual
example:=[((p,w)::P.zip vs),start N vs,zY CX P w K mg base N qual scope f UI A outer s H E,envOfC qual scope s.heap.objs.size f cd,PySem.W.fnOf name qual params body scope dV kV doc pm an UI ct,x.above y c (Δ5 h),s.heap.objs.size+1,(by simpa using hi),(by simpa using h2),(by simpa using h1),Str×Value,ps.zip us]
structure mU(N P:List Str)(sc:Scope):Prop where
 kind:sc.kind=.function
 co:sc.isCoroutine=false
 gen:sc.isGenerator=false
 nd:N.Nodup
 pre:N.take P.length=P
 par:∀ x∈P,sc.names.lookup x=some .local\/sc.names.lookup x=some .cell
 hE:∀ y∈sc.names,y.2≠.free
theorem yJ{kindOf:Str->Option NameKind}{x:Str}:∀ {binds:List 0e1} {m:q0C},(∀ v,(x,v)∉binds)->bindL kindOf binds m x=m x
 | [],_,_=>rfl
 | (n,v)::r,m,h=>by
  unfold bindL;rw[yJ fun w hw=>h w (ϑ _ hw)];split
  ·have:x≠n:=by rintro rfl;exact h v List.mem_cons_self
   simp[this]
  ·rfl
theorem yH{kindOf:Str->Option NameKind}{x:Str}:∀ {binds:List 0e1} {m:q0C},(∀ v,(x,v)∉binds)->bindC kindOf binds m x=m x
 | [],_,_=>rfl
 | (n,v)::r,m,h=>by
  unfold bindC;rw[yH fun w hw=>h w (ϑ _ hw)];split
  ·rfl
  ·have:x≠n:=by rintro rfl;exact h v List.mem_cons_self
   simp[this]
theorem yI{kindOf:Str->Option NameKind}{x:Str}{v:Value}:∀ {P:List Str} {vs:List Value} {i:Nat} {m:q0C},P.Nodup->P[i]?=some x->vs[i]?=some v->kindOf x=some .local -> bindL kindOf (P.zip vs) m x=some v
 | [],_,_,_,_,h,_,_=>by simp at h
 | _::_,[],_,_,_,_,h,_=>by simp at h
 | p::P,w::vs,0,m,nd,h1,h2,hk=>by
  simp at h1 h2;subst h1;subst h2;show bindL kindOf 0e0 m p=_;unfold bindL;rw[yJ fun v hv=>(Ϙ.mp nd).1 (List.of_mem_zip hv).1,if_pos hk];simp
 | p::P,w::vs,i+1,m,nd,h1,h2,hk=>by
  show bindL kindOf 0e0 m x=_;unfold bindL;exact yI (i:=i) (Ϙ.mp nd).2 9e0 8e0 hk
theorem yG{kindOf:Str->Option NameKind}{x:Str}{v:Value}:∀ {P:List Str} {vs:List Value} {i:Nat} {m:q0C},P.Nodup->P[i]?=some x->vs[i]?=some v->kindOf x≠some .local -> bindC kindOf (P.zip vs) m x=some v
 | [],_,_,_,_,h,_,_=>by simp at h
 | _::_,[],_,_,_,_,h,_=>by simp at h
 | p::P,w::vs,0,m,nd,h1,h2,hk=>by
  simp at h1 h2;subst h1;subst h2;show bindC kindOf 0e0 m p=_;unfold bindC;rw[yH fun v hv=>(Ϙ.mp nd).1 (List.of_mem_zip hv).1,if_neg hk];simp
 | p::P,w::vs,i+1,m,nd,h1,h2,hk=>by
  show bindC kindOf 0e0 m x=_;unfold bindC;exact yG (i:=i) (Ϙ.mp nd).2 9e0 8e0 hk
def start(N:List Str)(vs:List V):St:=vs.map some++List.replicate (N.length - vs.length) none
def zY(CX:CXT)(P:Program)(w:World)(K:q0B)(mg:q0C)(base:Heap)(N:List Str)(qual:Str)(scope:Scope)(f:Addr)(cd:Value)(A:Around)(outer:List Env)(s:Shared)(H:Hp)(E:XK):Cx where
 prog:=P
 w:=w
 K:=K
 mg:=mg
 base:=base
 A:=A.deeper 3e0
 N:=N
 s₀:=s
 H₀:=H
 env:=envOfC qual scope s.heap.objs.size f cd
 outer:=outer
 stack:=envOfC qual scope s.heap.objs.size f cd::outer
 ex:=[]
 calm:=true
 fn:=fun _=>true
 pn:=[]
 xe:=fun e s'=>wpAny (model P w) (A.deeper 3e0) (leaving 3e0 e) (fun _ YO=>CX outer H s E e YO) (fun e' YO=>CX outer H s E e' YO) s'
def Bb{sc:Scope}(h:sc.names.lookup x=some .cell):∃ c,(cellsFrom n sc.names []).lookup x=some c:=by
 have q:=PySem.W.cellsFrom_some sc.names n [] (.inl h);exact Δ4.mp q
theorem Fy{N:List Str}{qual:Str}{f:Addr}{cd:Value}{s1:Shared}{E:XK}(S:mU N ps scope)(hd:A.handled=none)(e0:Env0 P w K mg base A outer s H)(hl:vs.length=ps.length)(r:Uq vs us)(x:InCallC s s.heap.objs.size (bindL (envOfC qual scope s.heap.objs.size f cd).kindOf 1e1 fun _=>none) (cellsFrom 6e0 scope.names []) (bindC (envOfC qual scope s.heap.objs.size f cd).kindOf 1e1 fun _=>none) s1) : Uo (zY CX P w K mg base N qual scope f cd A outer s H E) [] 1e0 H s1:=by
 have UU:ps.length<=N.length:=by have:=congrArg List.length S.pre;rw[Α3] at this;omega
 obtain⟨h1,tk,rfl,hk⟩:=x.done;have Z6:∀ b:Addr,b∉(zY CX P w K mg base N qual scope f cd A outer s H E).ex:=fun b z=>absurd (show b∈([]:List Addr) from z) (by simp);refine⟨⟨e0.mod,S.kind,rfl,rfl,Θ _,fun y z c h1 h2=>?_,fun y hy=>?_,fun y c _ h=>?_,fun _=>hd,Around.frames_deeper e0.frames,.inr ⟨rfl,rfl⟩,fun b z=>absurd z (Z6 b),e0.bs,e0.bsz,fun b _ _=>Z6 b,fun b z=>absurd z (Z6 b),e0.oT,e0.frf⟩,
  rfl,e0.bare,Un.kept hk,⟨_,x.toInCall.ns,fun i y v h1 h2 h3=>?_⟩,fun y c h=>⟨_,x.cell y c h⟩,e0.Ut.fresh (Θ _),fun y c h=>?_,fun p hp=>absurd (show p∈([]:List (Addr×Obj)) from hp) (by simp),e0.Ut.kept hk,?_⟩
 ·exact name_of_addr x.apart (Δ5 h1) (Δ5 h2)
 ·have hy:scope.names.lookup y=some .cell\/scope.names.lookup y=some .free:=hy;rcases hy with hy|hy
  ·exact Bb hy
  ·exact absurd rfl (S.hE _ (Δ5 hy))
 ·exact Nat.le_of_lt 5e0
 ·have hi:i < vs.length:=by
   unfold start at h2;by_cases hi:i < vs.length
   ·exact hi
   ·rw[List.getElem?_append_right 7e0] at h2;rw[List.getElem?_replicate] at h2;split at h2<;>cases h2
  have ha:vs[i]?=some v:=by
   unfold start at h2;rw[Ζ4 7e0,Ψ] at h2;cases e:vs[i]? with
   | none=>rw[e] at h2;cases h2
   | some a=>rw[e] at h2;cases h2;rfl
  obtain⟨u,hu,rv⟩:=r.get ha;have hp:ps[i]?=some y:=by
   rw[<- S.pre,List.getElem?_take_of_lt (by omega)];exact h1
  have ndP:ps.Nodup:=by rw[<- S.pre];exact S.nd.sublist (List.take_sublist _ _)
  refine⟨u,rv,?_⟩;rcases S.par y (ϓ hp) with k|k
  ·exact .inl ⟨k,yI ndP hp hu k⟩
  ·obtain⟨c,e⟩:=Bb (n:=s.heap.objs.size+1) k;refine .inr ⟨.inl k,c,e,?_⟩;have q:=x.cell y c e;rw[yG ndP hp hu (by show scope.names.lookup y≠_;rw[k];decide)] at q;exact q
 ·exact e0.Ut.fresh (Nat.le_of_lt 5e0)
 ·unfold start;show _=N.length;rw[Ν,Γ,List.length_replicate];omega
def Rb{f:Addr}{name qual:Str}{params:Arguments}{dV kV doc pm UI ct oc:Value}{an od:Option Addr}{WE:Array (Option Value)}{N:List Str}{sp:Sp}(lk:K.lookup f=some ⟨oc,od,.func 4e0,WE⟩)(WU:PySem.W.codeIn K UI qual=true)(S:mU N ps scope)(len:∀ vs H Q E,sp vs H Q E->vs.length=ps.length)(VH:∀(A:Around) (outer:List Env) (s:Shared) (H:Hp) (vs:List V) (Q:VK) (E:XK),Room k (A.deeper (envOfC qual scope s.heap.objs.size f UI))->sp vs H Q E -> ∃ t,Vv 2e0 body t/\t {nx:=fun _ H'=>Q .Um H',rt:=Q} 1e0 H) : fG P w K mg base CX (k+1) f 4e0 ps sp:=by
 refine⟨len,fun A outer s H args us vs Q E hr e0 hb r X1=>?_⟩;have hl:=len _ _ _ _ X1;have KX:K.In s.heap:=e0.mod.kin.keeps fun b o e=>(e0.bs b o e).1;have lim:s.heap.NoLimit:=e0.mod.nolimit.keeps fun b o e=>(e0.bs b o e).1;have Vc:∀ y∈ps.zip us,scope.names.lookup y.1=some .local\/(scope.names.lookup y.1=some .cell/\((cellsFrom 6e0 scope.names []).lookup y.1).isSome=true):=fun⟨n,v⟩ hy=>by
  rcases S.par n (List.of_mem_zip hy).1 with q|q
  ·exact .inl q
  ·exact .inr ⟨q,PySem.W.cellsFrom_some _ _ _ (.inl q)⟩
 refine codeAny_call_function hr.depth (KX _ _ lk) rfl S.co S.gen rfl (PySem.W.codeRec_of KX WU) (hb _ _ _ _ ?_);refine wpAny_newFunctionEnv_cells S.kind Vc fun env he s1 x=>?_;subst he;refine⟨lim.keeps x.toInCall.keep,codeAny_func ?_⟩;obtain⟨t,ht,hq⟩:=VH A outer s H vs Q E (hr.deeper _) X1;have I:Uo 2e0 [] 1e0 H s1:=Fy S hr.hd e0 hl r x;refine Β6 (ht [] s1 1e0 H _ I hq) (fun fl s' hs=>?_) fun e s' hs=>hs;have fin:∀ {Z':St} {H':Hp} {v:V} {u:Value},Uo 2e0 [] Z' H' s'->bP v u->Q v H'->CE outer P w H s Q u s' :=
  fun {Z' H' v u} J rv q=>⟨v,H',J.os,J.bare,J.base,J.Ut,rv,q⟩
 cases fl with
 | ret u =>
  obtain⟨v,Z',H',J,rv,q⟩:=hs;exact fin J rv q
 | next =>
  obtain⟨Z',H',J,q⟩:=hs;exact fin (v:=V.Um) (u:=Value.none) J rfl q
 | brk =>
  obtain⟨_,_,_,q⟩:=hs;exact False.elim q
 | cont =>
  obtain⟨_,_,_,q⟩:=hs;exact False.elim q
end
section
variable{p:Pos}{t:TA}{id T:String}{r:List V->Hp->VK->Prop}
def TC(r:List V->Hp->VK->Prop)(t:TA):TE:=fun Z H Q=>t Z H fun vs H1=>r vs H1 Q
theorem aW(hc:fA X (.builtin id) r)(hg:Gl X x)(hm:X.mg x=none)(hv:bootBuiltins x=some (.builtin id))(ha:PA X (e::es) t)(hn:x≠"__name__":=by decide)(WV:(x==("__debug__":Str))=false:=by decide)(he:starEach (e::es) X.env=(false,eval e X.env)::starEach es X.env:=by rfl)(UU:(backTo pos (starEach es X.env)).any (·.1)=false:=by rfl):PE X (.Call (.Name x p) (e::es) [] pos) (TC r t):=by
 intro Uk s Z H Q I h;refine wpAny_Call_Name_kw (Aj I hg hm hv ?_ hn WV);exact PyProof.Rows.callWith_builtin1 (thn (ha pos Uk s Z H _ I h) fun us s1 ⟨vs,H1,I1,r1,q1⟩=>hc Uk s1 Z H1 vs us Q I1 r1 q1) he UU
theorem bF(hc:fA X (.type T) r)(hg:Gl X x)(hm:X.mg x=none)(hv:bootBuiltins x=some (.type T))(ha:PA X (e::es) t)(hn:x≠"__name__":=by decide)(WV:(x==("__debug__":Str))=false:=by decide)(he:starEach (e::es) X.env=(false,eval e X.env)::starEach es X.env:=by rfl)(UU:(backTo pos (starEach es X.env)).any (·.1)=false:=by rfl):PE X (.Call (.Name x p) (e::es) [] pos) (TC r t):=by
 intro Uk s Z H Q I h;refine wpAny_Call_Name_kw (Aj I hg hm hv ?_ hn WV);exact PyProof.Rows.callWith_type1 (thn (ha pos Uk s Z H _ I h) fun us s1 ⟨vs,H1,I1,r1,q1⟩=>hc Uk s1 Z H1 vs us Q I1 r1 q1) he UU
end
end Lake
namespace HT
open PySem PyProof.Rows
section
open PySem.SeqAt
open PySem.AutoSeq1 (wpAny_loadPart')
open PySem.MeetsSeq PySem.MeetsSeq2 PySem.MeetsSeq3
end
section
mutual
example:=[iB items.size items.size hi - iB items.size 0 lo,(Ι ⟨_,rfl,Ι h⟩),model prog w,.ref t,iB items.size 0 lo,(by decide),.ref sl,(if v < 0 then max (v+(n:Int)) 0 else min v (n:Int)),(if v < 0 then (v+(n:Int)).toNat else min v.toNat n),PySem.F.args_tuple_add_2 _ _,.ref s.heap.objs.size,(by simpa using hv)]
variable{prog:Program}{w:World}{A:Around}{E:q0A}{s:Shared}
def Kk{t b:Addr}{vs ws:List Value}{Q:q0A}(ht:IsTup s.heap t vs.toArray)(hb:IsTup s.heap b ws.toArray)(hv:vs≠[])(h1:ws=[]->Q 3e0 s)(h2:ws≠[]->Q 0e1 {s with heap:=s.heap.push {cls:=.type "tuple",data:=.seq (vs++ws).toArray}})(hsz:vs.length+ws.length<=sizeLine):wpAny 2e0 A (binaryOp .Add 3e0 (.ref b)) Q E s:=by
 obtain⟨⟨cls,dd,data,sl⟩,ho,hc,n,hd⟩:=id ht;obtain⟨⟨abS,dd2,data2,WG⟩,UZ,hc2,n2,hd2⟩:=id hb;simp only at hc hd hc2 hd2;subst hc hd hc2 hd2;have e:vs.toArray++ws.toArray=(vs++ws).toArray:=by simp
 by_cases hw:ws=[]
 ·exact concat_meets ⟨_,ho,rfl⟩ ⟨_,UZ,rfl⟩ noFill_tuple_add seq_tuple_add PySem.F.slot_tuple_add PySem.F.entry_tuple_add 9e0
   (tuple_addW1 t b vs.toArray ws.toArray n n2 dd dd2 sl WG 1e1 (by simp[hw])) ⟨ho,UZ,h1 hw⟩
 ·refine concat_meets ⟨_,ho,rfl⟩ ⟨_,UZ,rfl⟩ noFill_tuple_add seq_tuple_add PySem.F.slot_tuple_add PySem.F.entry_tuple_add 9e0
   (tuple_addW2 t b vs.toArray ws.toArray n n2 dd dd2 sl WG 1e1 (by simpa using hw) (by rw[Η,Η];exact hsz)) ⟨ho,UZ,?_⟩
  rw[e];exact h2 hw
def iB(n d:Nat):Option Int->Nat
 | none=>d
 | some v=>if v < 0 then (v+(n:Int)).toNat else min v.toNat n
theorem PJ(n d:Nat)(hd:d<=n)(o:Option Int):iB n d o<=n:=by
 cases o with
 | none=>exact hd
 | some v =>
  show 8e0<=n;by_cases hv:v < 0
  ·rw[if_pos hv];omega
  ·rw[if_neg hv];exact Nat.min_le_right _ _
theorem DQ(v:Int)(n d:Nat):7e0=((iB n d (some v):Nat):Int):=by
 show 7e0=((8e0:Nat):Int);by_cases hv:v < 0
 ·simp only[if_pos hv];omega
 ·simp only[if_neg hv];omega
theorem CF(lo hi:Option Int)(n:Nat):Builtin.Slice.sliceAdjust lo hi 1 (n:Int)=(((iB n 0 lo:Nat):Int),((iB n n hi:Nat):Int)):=by
 have h1:¬ ((1:Int) < 0):=by omega
 unfold Builtin.Slice.sliceAdjust;simp only[h1,Β5];refine Prod.ext ?_ ?_
 ·cases lo with
  | none=>rfl
  | some v=>exact DQ v n 0
 ·cases hi with
  | none=>rfl
  | some v=>exact DQ v n n
theorem Dq(i j:Nat):Builtin.Slice.slicePlaces (i:Int) (j:Int) 1=j - i:=by
 unfold Builtin.Slice.slicePlaces;have h1:(1:Int) > 0:=by omega
 simp only[h1,Γ1,Int.ediv_one];split<;>omega
def wY{v:Value}{o:Option Int}{Q:Option Int->Shared->Prop}(p:IsPart v o)(h:Q o s):wpAny 2e0 A (Builtin.Slice.slicePartIndex v) Q E s:=by
 cases p with
 | none=>exact slicePart_none h
 | int i t=>exact slicePart_int h
theorem rE{sl:Addr}{vl vu:Value}{lo hi:Option Int}{n:Nat}{Q:Int×Int×Nat->Shared->Prop}(hs:s.heap.IsSliceOf sl vl vu .none)(pl:IsPart vl lo)(pu:IsPart vu hi)(h:Q (((iB n 0 lo:Nat):Int),1,iB n n hi - iB n 0 lo) s):wpAny 2e0 A (Builtin.Slice.sliceApplied 6e0 (pure (n:Int))) Q E s:=by
 obtain⟨os,ZP,hcs,V6⟩:=id hs;unfold Builtin.Slice.sliceApplied Builtin.Slice.sliceFields;refine Β (Β (wpAny_field ZP V6 (x:=vl) rfl (Β (wpAny_field ZP V6 (x:=vu) rfl (Β (wpAny_field ZP V6 (x:=.none) rfl (Ι ?_)))))));refine Β (slicePart_none ?_);show wpAny _ _ (if ((1:Int)==0)=true then _ else _) _ _ s;rw[if_neg 5e0];refine Β (wY pl (Β (wY pu (Β (Ι ?_)))));show wpAny _ _ (match Builtin.Slice.sliceAdjust lo hi 1 (n:Int) with|(lo,hi)=>pure (lo,(1:Int),Builtin.Slice.slicePlaces lo hi 1)) _ _ s;rw[CF lo hi n];show wpAny _ _ (pure (((iB n 0 lo:Nat):Int),(1:Int),Builtin.Slice.slicePlaces ((iB n 0 lo:Nat):Int) ((iB n n hi:Nat):Int) 1)) _ _ s;rw[Dq];exact Ι h
theorem Jl(xs:Array Value)(i k:Nat):((List.range k).filterMap fun(m:Nat)=>xs[((i:Int)+(m:Int) * 1).toNat]?).toArray=((xs.toList.drop i).take k).toArray:=by
 have e:(fun(m:Nat)=>xs[((i:Int)+(m:Int) * 1).toNat]?)=fun m=>xs[i+m]?:=by
  funext m;have:((i:Int)+(m:Int) * 1).toNat=i+m:=by omega
  rw[this]
 rw[e];have:=pick_run xs i k;rw[List.filterMap_map] at this;have e2:((fun x=>xs[x]?)∘fun x=>i+x)=fun m=>xs[i+m]?:=rfl;rw[e2] at this;rw[this]
theorem oU{t sl:Addr}{items:Array Value}{vl vu:Value}{lo hi:Option Int}{Q:q0A}(ht:IsTup s.heap t items)(hs:s.heap.IsSliceOf sl vl vu .none)(pl:IsPart vl lo)(pu:IsPart vu hi)(hw:¬ (iB items.size 0 lo=0/\iB items.size items.size hi=items.size))(h:Q 0e1 {s with heap:=s.heap.push {cls:=.type "tuple",data:=.seq ((items.toList.drop 4e0).take 0e0).toArray}})(hsz:items.size<=sizeLine):wpAny 2e0 A (getItem 3e0 6e0) Q E s:=by
 have V8:sizeOk (.seq ((items.toList.drop 4e0).take 0e0).toArray):=by
  show((items.toList.drop 4e0).take 0e0).toArray.size<=sizeLine;rw[Η,Α3,List.length_drop,Γ4];omega
 have hj:iB items.size items.size hi<=items.size:=PJ _ _ (Θ _) hi;obtain⟨os,ZP,hcs,V6⟩:=id hs;have hTs:s.TypeIs 6e0 "slice":=⟨os,ZP,hcs⟩;unfold getItem
 try with_reducible refine Β3 ?_
 first|refine Β (Ι ?_)|skip
 refine Β (wpAny_sequenceKey ht.typeIs 5e0 ?_);refine Β (wpAny_callSpecial?_slot (name:=Str.ofString "__getitem__") ht.typeIs PyProof.Rows.slot_tuple_getitem
  (wpAny_call_entry PyProof.Rows.slot_tuple_getitem ht.typeIs entry_tuple_getitem ?_ (args_tuple_getitem _ _)))
 show wpAny _ _ (Builtin.Tuple.tupleItemsOf 3e0 >>= _) _ _ s;refine Β (tupleItemsOf_ ht ?_);refine Β (wpAny_typeOf hTs ?_);rw[if_pos 5e0];refine Β (rE hs pl pu ?_);have hno:¬ ((((iB items.size 0 lo:Nat):Int)==0&&(1:Int)==1&&0e0==items.size)=true):=by
  intro q;rw[Γ6,Γ6] at q;have q1:((iB items.size 0 lo:Nat):Int)=0:=eq_of_beq q.1.1;have q2:iB items.size items.size hi - iB items.size 0 lo=items.size:=eq_of_beq q.2;exact hw ⟨by omega,by omega⟩
 show wpAny _ _ (if (((iB items.size 0 lo:Nat):Int)==0&&(1:Int)==1&&0e0==items.size)=true then _ else _) _ _ s;rw[if_neg hno,Jl]
 first
  | exact Β (m:=Builtin.Tuple.tupleExact _) (Β8 1e0 V8)
  | exact Β (m:=Builtin.Tuple.tupleExact _) (Β8 (Β (Ι 1e0)) V8)
  | exact Β (Β (m:=Builtin.Tuple.tupleExact _) (Β8 (Ι 1e0) V8))
  | exact Β (Β (m:=Builtin.Tuple.tupleExact _) (Β8 1e0 V8))
end
end
end HT
namespace Lake
open PySem PySem.Spec PyProof.Rows
mutual
example:=[Addr×Obj]
variable{a:Addr}{X:Cx}{H:Hp}{Uk:List 0e0}{xs:List (List Key×Addr×Value)}{kvs:List (List Key×V)}{V1:List (TE×TE)}{us:List Value}{n t':Nat}{o:Option V}{pos:Pos}{P:Program}{s:Shared}{Z:St}{y:V}{u:Value}{w:World}{Q:q0A}
abbrev TO:=St->Hp->(Option Int->Hp->Prop)->Prop
def PO(X:Cx)(e:Option Expr)(t:TO):Prop :=
 ∀(Uk:List 0e0) (s:Shared) (Z:St) (H:Hp) (Q:Option Int->Hp->Prop),Uo X Uk Z H s->t Z H Q ->
  wpAny (model X.prog X.w) X.A (evalPart e X.env) (fun u s'=>∃ o H',Uo X Uk Z H' s'/\IsPart u o/\Q o H') X.xe s
def E1:TO:=fun _ H Q=>Q none H
def JX(t:TE):TO:=fun Z H Q=>t Z H fun x H1=>∃ i,x=.int i/\Q (some i) H1
def CW{ns:List Int}:∀ {us:List Value},Uq (ns.map V.int) us->IntsAre us ns:=by
 induction ns with
 | nil=>intro us r;rw[List.map_nil] at r;cases r;exact .nil
 | cons n ns ih =>
  intro us r;rw[ϔ] at r;cases r with
  | cons r1 r2 =>
   obtain⟨t,e⟩:=r1;subst e;exact .cons n t (ih r2)
end
section
mutual
example:=[HT.iB xs.length xs.length hi - HT.iB xs.length 0 lo,HT.iB xs.length 0 lo,.Slice lo hi none p2,(fun b ob q=>Ε _ q),I.Ut.fresh (Θ _),model X.prog X.w,qC xs lo hi,EP X Uk Z Q]
variable{e:Expr}{te:TE}{lo hi:Option Expr}{tl th:TO}{p2:Pos}
def LK:PO X none E1:=by
 intro Uk s Z H Q I h;rw[evalPart_none];exact Ι ⟨none,H,I,.none,h⟩
def k7(h:PE X e te):PO X (some e) (JX te):=by
 intro Uk s Z H Q I hw;rw[evalPart_some];refine thn (h Uk s Z H _ I hw) fun u s1 ⟨x,H1,I1,r1,q1⟩=>?_;obtain⟨i,rfl,q⟩:=q1;obtain⟨t,rfl⟩:=r1;exact⟨some i,H1,I1,.int i t,q⟩
def J9(X:Cx)(r:V->Option Int->Option Int->Hp->VK->Prop):Prop :=
 ∀(Uk:List (Addr×Obj)) (s:Shared) (Z:St) (H:Hp) (x:V) (v vl vu:Value) (lo hi:Option Int) (sl:Addr) (Q:VK),Uo X Uk Z H s->bP x v->s.heap.IsSliceOf sl vl vu .none->IsPart vl lo->IsPart vu hi->r x lo hi H Q ->
  ∃ T id,typeLookup (.type T) "__getitem__"=pure (some (.builtin id))/\s.TypeIs v T/\wpAny 5e0 X.A (getItem v (.ref sl)) 7e0 X.xe s
def J9.or{r r':V->Option Int->Option Int->Hp->VK->Prop}(h:J9 X r)(h':J9 X r'):J9 X (fun x lo hi H Q=>r x lo hi H Q\/r' x lo hi H Q):=by
 intro Uk s Z H x v vl vu lo hi sl Q I rx hs pl pu q;rcases q with q|q
 ·exact h Uk s Z H x v vl vu lo hi sl Q I rx hs pl pu q
 ·exact h' Uk s Z H x v vl vu lo hi sl Q I rx hs pl pu q
def T9(r:V->Option Int->Option Int->Hp->VK->Prop)(te:TE)(tl th:TO):TE:=fun Z H Q=>te Z H fun x H1=>tl Z H1 fun l H2=>th Z H2 fun u H3=>r x l u H3 Q
def Jh{r:V->Option Int->Option Int->Hp->VK->Prop}(hr:J9 X r)(he:PE X e te)(hl:PO X lo tl)(hu:PO X hi th):PE X (.Subscript e 2e0 pos) (T9 r te tl th):=by
 intro Uk s Z H Q I h;refine Subscript_ (thn (he Uk s Z H _ I h) fun v s1 ⟨x,H1,I1,r1,q1⟩=>?_);refine wpAny_Slice (thn (hl Uk s1 Z H1 _ I1 q1) fun vl s2 ⟨l,H2,I2,pl,q2⟩=>thn (hu Uk s2 Z H2 _ I2 q2) fun vu s3 ⟨u,H3,I3,pu,q3⟩=>?_);rw[evalPart_none];refine Ι ?_;have I4:Uo X Uk Z H3 {s3 with heap:=s3.heap.push {cls:=.type "slice",data:=.fields #[vl,vu,.none]}}:=I3.kept (t':=s3.toks) fun b ob q=>Ε _ q;obtain⟨T,id,hT,ht,hg⟩:=hr Uk {s3 with heap:=s3.heap.push {cls:=.type "slice",data:=.fields #[vl,vu,.none]}} Z H3 x v vl vu l u s3.heap.objs.size Q I4 r1 (Heap.IsSliceOf.new ..) pl pu q3;show wpAny 5e0 X.A (subscriptTail e 2e0 v (.ref s3.heap.objs.size)) 7e0 X.xe {s3 with heap:=s3.heap.push {cls:=.type "slice",data:=.fields #[vl,vu,.none]}};exact tail_any (ops:=[.ref s3.heap.objs.size,v]) ht hT hg (by with_unfolding_all rfl)
def qC(xs:List V)(lo hi:Option Int):List V:=(xs.drop 1e0).take 0e0
theorem rL(xs:List V)(lo hi:Option Int):(qC xs lo hi).length<=xs.length:=by
 unfold qC;rw[Α3,List.length_drop];omega
def Tz(K:q0B):V->Option Int->Option Int->Hp->VK->Prop:=fun x lo hi H Q=>∃ a xs,x=.ref a/\iJ K H a xs /\
 ¬ (HT.iB xs.length 0 lo=0/\HT.iB xs.length xs.length hi=xs.length)/\∀ p,H p=none->Q (.ref p) (Ul H p (.tup 6e0))
def PL:J9 X (Tz X.K):=by
 intro Uk s Z H x v vl vu lo hi sl Q I rx hs pl pu h;obtain⟨a,xs,rfl,hx,hw,q⟩:=h;cases rx;obtain⟨Up,r,ht,hz⟩:=I.tuple hx;have hlen:Up.toArray.size=xs.length:=by rw[Η];exact r.length.symm
 refine⟨"tuple",_,PyProof.Rows.slot_tuple_getitem.lookup,ht.typeIs,?_⟩;refine HT.oU ht hs pl pu (by rw[hlen];exact hw) ?_ (by rw[hlen];exact hz);rw[hlen];refine⟨.ref s.heap.objs.size,_,I.laid (t':=s.toks) (o:=.tup 6e0) 3e0 (Θ _) ?_,rfl,q _ 4e0⟩;exact⟨Χ (rL xs lo hi) hz,_,(r.drop 1e0).take 0e0,IsTup.new _ _⟩
def RL(K:q0B):R2:=fun x y H Q=>∃ a b xs ys,x=.ref a/\y=.ref b/\iJ K H a xs/\iJ K H b ys/\xs≠[]/\xs.length+ys.length<=sizeLine /\
 (ys=[]->Q (.ref a) H)/\(ys≠[]->∀ p,H p=none->Q (.ref p) (Ul H p (.tup (xs++ys))))
def Uq.sX{xs:List V}(r:Uq xs us):us=[]↔xs=[]:=by
 cases r with
 | nil=>simp
 | cons _ _=>simp
def Ep:jG X (binaryOp .Add) (RL X.K):=by
 intro Uk s Z H x y v u Q I rx ry h;obtain⟨a,b,xs,ys,rfl,rfl,ha,hb,hx,hz,q1,q2⟩:=h;cases rx;cases ry;obtain⟨Up,r1,p1,_⟩:=I.tuple ha;obtain⟨Vg,r2,p2,_⟩:=I.tuple hb;refine HT.Kk p1 p2 (fun z=>hx (r1.sX.mp z)) (fun z=>⟨.ref a,H,I,rfl,q1 (r2.sX.mp z)⟩) (fun z=>?_) (by rw[<- r1.length,<- r2.length];exact hz);refine⟨.ref s.heap.objs.size,_,I.laid (t':=s.toks) (o:=.tup (xs++ys)) 3e0 (Θ _) ?_,rfl,q2 (fun w=>z (r2.sX.mpr w)) _ 4e0⟩;exact⟨by rw[Ν];exact hz,_,r1.append r2,IsTup.new _ _⟩
end
end
mutual
example:=[(by omega),model X.prog X.w,EP X Uk Z Q,Addr×Obj]
def xW(n:Nat)(i:Int):Option Nat:=if 0<=i then (if i < n then some i.toNat else none) else if -(n:Int)<=i then some (i+n).toNat else none
def gL{α:Type}(xs:List α)(i:Int):Option α:=(xW xs.length i).bind fun j=>xs[j]?
theorem Eh{i:Int}{j:Nat}(h:xW n i=some j):seqIndex? i n=some j/\j < n/\-(n:Int)<=i/\i < n:=by
 unfold xW at h;by_cases h0:0<=i
 ·rw[if_pos h0] at h;by_cases h1:i < n
  ·rw[if_pos h1] at h;have e:i.toNat=j:=ϖ h;exact⟨by rw[seqIndex_of h0 h1,e],by omega,by omega,h1⟩
  ·rw[if_neg h1] at h;cases h
 ·rw[if_neg h0] at h;by_cases h1:-(n:Int)<=i
  ·rw[if_pos h1] at h;have e:(i+n).toNat=j:=ϖ h;exact⟨by rw[seqIndex_neg 0e0 h1,e],by omega,h1,by omega⟩
  ·rw[if_neg h1] at h;cases h
def sQ{α:Type}{xs:List α}{i:Int}{v:α}(h:gL xs i=some v):∃ j,seqIndex? i xs.length=some j/\xs[j]?=some v/\j < xs.length/\-(xs.length:Int)<=i/\i < xs.length:=by
 unfold gL at h;cases e:xW xs.length i with
 | none=>rw[e] at h;cases h
 | some j =>
  rw[e] at h;obtain⟨h1,h2,h3,h4⟩:=Eh e;exact⟨j,h1,h,h2,h3,h4⟩
theorem dQ{α:Type}{xs:List α}{j:Nat}{v:α}(h:xs[j]?=some v):gL xs (j:Int)=some v:=by
 have hj:j < xs.length:=(Μ.mp h).1;have e:xW xs.length (j:Int)=some j:=by
  unfold xW;rw[if_pos 0e0,if_pos 0e0];simp
 unfold gL;rw[e];exact h
theorem jZ{α:Type}(xs:List α)(v:α):gL (xs++[v]) (-1)=some v:=by
 have hl:(xs++[v]).length=xs.length+1:=by simp
 have e:xW (xs++[v]).length (-1)=some xs.length:=by
  unfold xW;rw[hl,if_neg (by decide),if_pos 0e0]
  congr 1
  omega
 unfold gL;rw[e];show(xs++[v])[xs.length]?=some v;simp
def DM(b:Expr):Prop:=∀ o i,subscripted b false o i=operate [o,i] (getItem o i)
def DL(X:Cx)(r:R2):Prop :=
 ∀(value slice:Expr) (Uk:List 3e0) (s:Shared) (Z:St) (H:Hp) (x y:V) (v u:Value) (Q:VK),Uo X Uk Z H s->bP x v->bP y u->r x y H Q ->
  subscripted slice false v u=operate [v,u] (getItem v u)->wpAny 1e0 X.A (subscriptTail value slice v u) 2e0 X.xe s
def Uc(X:Cx)(id:String)(r:V->List V->Hp->VK->Prop):Prop :=
 ∀(Uk:List 3e0) (s:Shared) (Z:St) (H:Hp) (x:V) (xs:List V) (v:Value) (us:List Value) (Q:VK),Uo X Uk Z H s->bP x v->Uq xs us->r x xs H Q ->
  wpAny 1e0 X.A (call (.builtin id) (v::us)) 2e0 X.xe s
end
section
mutual
example:=[CS x,(by omega),(fun w hw=>mB rx fx r fs w (by simpa using hw)),.tup ys,.lst xs,(by rw[hk];exact⟨_,I',q⟩),Ul H p (.lst (xs.set j v)),(by rw[hj];simpa using ew),(by rw[Η]<;>omega),qC xs lo hi]
variable{a b:Expr}{ta tb:TE}
def DL.or{r r':R2}(h:DL X r)(h':DL X r'):DL X (fun x y H Q=>r x y H Q\/r' x y H Q):=by
 intro value slice Uk s Z H x y v u Q I rx ry q hs;rcases q with q|q
 ·exact h value slice Uk s Z H x y v u Q I rx ry q hs
 ·exact h' value slice Uk s Z H x y v u Q I rx ry q hs
def Je{r:R2}(hr:DL X r)(ha:PE X a ta)(hb:PE X b tb)(hs:DM b):PE X (.Subscript a b pos) (Mb r ta tb):=by
 intro Uk s Z H Q I h;exact Subscript_ (Nb ha hb I h fun v u s2 x y H2 I2 rx ry q=>hr a b Uk s2 Z H2 x y v u Q I2 rx ry q (hs _ _))
def RM(K:q0B):R2:=fun x y H Q=>∃ p xs i v,x=.ref p/\y=.int i/\eY K H p xs/\gL xs i=some v/\Q v H
def RO(K:q0B):R2:=fun x y H Q=>∃ p xs i v,x=.ref p/\y=.int i/\iJ K H p xs/\gL xs i=some v/\Q v H
def RN:R2:=fun x y H Q=>∃ z i c,x=.str z/\y=.int i/\z.length<=sizeLine/\gL z.cps.toList i=some c/\Q (.str ⟨#[c]⟩) H
theorem Lq:DL X (RM X.K):=by
 intro value slice Uk s Z H x y v u Q I rx ry h hs;obtain⟨p,xs,i,z,rfl,rfl,hq,he,q⟩:=h;cases rx;obtain⟨t,rfl⟩:=ry;obtain⟨Up,r,pl,hz⟩:=I.list hq;obtain⟨j,h1,h2,h3,h4,h5⟩:=sQ he;obtain⟨w,ew,Vi⟩:=r.get h2;have hl:=r.length;have hn:=line63;have fin:EP X Uk Z Q w s:=⟨z,H,I,Vi,q⟩;by_cases h0:0<=i
 ·have hj:i.toNat=j:=by
   rw[seqIndex_of h0 h5] at h1;exact ϖ h1
  exact item_listR pl.isList h0 1e0 7e0 fin hs
 ·have hj:(i+(Up.toArray.size:Int)).toNat=j:=by
   rw[seqIndex_neg 1e0 h4] at h1;rw[Η,<- hl];exact ϖ h1
  exact subscriptTail_builtinR (x:=w) pl.isList.typeIs slot_list_getitem.lookup
   (wpAny_getItem_list_neg (Q:=fun r s'=>r=w/\EP X Uk Z Q r s') pl.isList 1e0 8e0 1e0 7e0 ⟨rfl,fin⟩) hs
theorem OU:DL X (RO X.K):=by
 intro value slice Uk s Z H x y v u Q I rx ry h hs;obtain⟨p,xs,i,z,rfl,rfl,hq,he,q⟩:=h;cases rx;obtain⟨t,rfl⟩:=ry;obtain⟨Up,r,pl,hz⟩:=I.tuple hq;obtain⟨j,h1,h2,h3,h4,h5⟩:=sQ he;obtain⟨w,ew,Vi⟩:=r.get h2;have hl:=r.length;have hn:=line63;have fin:EP X Uk Z Q w s:=⟨z,H,I,Vi,q⟩;exact subscriptTail_builtinR (x:=w) pl.typeIs slot_tuple_getitem.lookup
  (getItem_tuple (j:=j) (Q:=fun r s'=>r=w/\EP X Uk Z Q r s') pl 1e0 1e0 (by rw[Η,<- hl];exact h1) (by simpa using ew) ⟨rfl,fin⟩) hs
theorem OT:DL X RN:=by
 intro value slice Uk s Z H x y v u Q I rx ry h hs;obtain⟨z,i,c,rfl,rfl,hz,he,q⟩:=h;obtain⟨t,rfl⟩:=rx;obtain⟨t',rfl⟩:=ry;obtain⟨j,h1,h2,h3,h4,h5⟩:=sQ he;have hl:z.cps.toList.length=z.length:=by simp[Str.length]
 rw[hl] at h1 h4 h5;have hn:=line63;exact tail_any (typeIs_str s z t) slot_str_getitem.lookup (getItem_str (c:=c) (by
  have e1:decide (i < -(2 ^ 63:Int))=false:=Β7 1e0;have e2:decide (i >= 2 ^ 63)=false:=Β7 1e0;rw[e1,e2,Bool.or_false]) (by rw[h1];simpa using h2) ⟨.str ⟨#[c]⟩,H,I.tok _,⟨_,rfl⟩,q⟩) hs
def Ug(K:q0B):R2:=fun x y H Q=>RM K x y H Q\/RO K x y H Q\/RN x y H Q
def OS:DL X (Ug X.K):=Lq.or (OU.or OT)
def C3(Up:List Value)(n j:Nat)(u:Value):Obj.mapSeq (·.setIfInBounds j u) {cls:=.type "list",data:=.seq Up.toArray n}={cls:=.type "list",data:=.seq (Up.set j u).toArray n}:=by
 simp[Obj.mapSeq]
def Uo.lst{p:Addr}{xs:List V}(I:Uo X Uk Z H s)(h:H p=some 4e0) : ∃(Up:List Value) (n:Nat),Uq xs Up/\s.heap.get? p=some {cls:=.type "list",data:=.seq Up.toArray n}/\xs.length<=sizeLine:=by
 obtain⟨z,Up,n,r,e⟩:=I.Ut p _ h;exact⟨Up,n,r,e,z⟩
def Uo.OZ{p:Addr}{xs ys:List V}{Up its':List Value}{n':Nat}{f:Obj->Obj}(I:Uo X Uk Z H s)(h:H p=some 4e0)(ho:s.heap.get? p=some {cls:=.type "list",data:=.seq Up.toArray n})(hf:f {cls:=.type "list",data:=.seq Up.toArray n}={cls:=.type "list",data:=.seq its'.toArray n'})(r:Uq ys its')(hz:ys.length<=sizeLine)(t:Nat) : Uo X Uk Z (Ul H p (.lst ys)) {s with heap:=s.heap.update p f,toks:=t}:=by
 have e:(s.heap.update p f).get? p=some {cls:=.type "list",data:=.seq its'.toArray n'}:=by
  rw[Heap.get?_update_self f ho (by rw[hf]<;>rfl),hf]
 refine I.write (x:=p) (e:=p) (by rw[h];trivial) (.inl rfl) (fun b u hb q=>(Heap.get?_update_other _ _ (Ne.symm hb)).trans q) ⟨_,e⟩ ?_;exact⟨hz,its',n',r,e⟩
def RP:V->V->V->Hp->(Hp->Prop)->Prop:=fun o i v H Q=>∃ p xs k j,o=.ref p/\i=.int k/\H p=some 4e0/\xW xs.length k=some j/\Q 6e0
theorem Jw:PSet X RP:=by
 intro Uk s Z H o i v ov iv u Q I ro ri rv h;obtain⟨p,xs,k,j,rfl,rfl,hp,hj,q⟩:=h;cases ro;obtain⟨t,rfl⟩:=ri;obtain⟨Up,n,r,ho,hz⟩:=I.lst hp;obtain⟨h1,h2,h3,h4⟩:=Eh hj;have hl:=r.length;have hn:=line63;have I':Uo X Uk Z 6e0 {s with heap:=s.heap.update p (Obj.mapSeq (·.setIfInBounds j u))} :=
  I.OZ hp ho (C3 Up n j u) (r.set rv j) (by rw[List.length_set];exact hz) s.toks
 by_cases h0:0<=k
 ·have hk:k.toNat=j:=by
   rw[seqIndex_of h0 h4] at h1;exact ϖ h1
  exact PySem.W.ki_setAt ho h0 1e0 (by rw[Η,<- hl];exact h4) 5e0
 ·have hk:(k+(Up.toArray.size:Int)).toNat=j:=by
   rw[seqIndex_neg 1e0 h3] at h1;rw[Η,<- hl];exact ϖ h1
  exact PySem.W.ki_setBack ho 1e0 (by rw[Η,<- hl];exact h3) 1e0 5e0
theorem AE(lo hi:Option Int)(n:Nat):(sliceBounds lo hi none n).1=((HT.iB n 0 lo:Nat):Int)/\(sliceBounds lo hi none n).2.1=((HT.iB n n hi:Nat):Int)/\(sliceBounds lo hi none n).2.2=1:=by
 refine⟨?_,?_,rfl⟩
 ·cases lo with
  | none=>simp[sliceBounds,HT.iB]
  | some i =>
   simp only[sliceBounds,HT.iB,Option.getD_none,show(1:Int) > 0 by decide,Γ1];by_cases h:i < 0
   ·simp only[h,Γ1]<;>omega
   ·simp only[h,Β5]<;>omega
 ·cases hi with
  | none=>simp[sliceBounds,HT.iB]
  | some i =>
   simp only[sliceBounds,HT.iB,Option.getD_none,show(1:Int) > 0 by decide,Γ1];by_cases h:i < 0
   ·simp only[h,Γ1]<;>omega
   ·simp only[h,Β5]<;>omega
def x9(Up:List Value)(lo hi:Option Int):slicePick Up.toArray lo hi none=((Up.drop (HT.iB Up.length 0 lo)).take (HT.iB Up.length Up.length hi - HT.iB Up.length 0 lo)).toArray:=by
 obtain⟨h1,h2,h3⟩:=AE lo hi Up.toArray.size;unfold slicePick;rw[h1,h2,h3];simp only[sliceRange_one,pick_run,Η]<;>rfl
def Tw(K:q0B):V->Option Int->Option Int->Hp->VK->Prop:=fun x lo hi H Q=>∃ a xs,x=.ref a/\eY K H a xs/\∀ p,H p=none->Q (.ref p) (Ul H p (.lst 9e0))
theorem L4:J9 X (Tw X.K):=by
 intro Uk s Z H x v vl vu lo hi sl Q I rx hs pl pu h;obtain⟨a,xs,rfl,hx,q⟩:=h;cases rx;obtain⟨Up,r,ht,hz⟩:=I.list hx;have hlen:=r.length;refine⟨"list",_,slot_list_getitem.lookup,ht.isList.typeIs,?_⟩;refine wpAny_getItem_list_slice ht.isList hs pl pu .none (by simp) ?_ 8e0;rw[x9,<- hlen];refine⟨.ref s.heap.objs.size,_,I.laid (t':=s.toks) (o:=.lst 9e0) (fun b ob q=>Ε _ q) (Θ _) ?_,rfl,q _ (I.Ut.fresh (Θ _))⟩;exact⟨Χ (rL xs lo hi) hz,_,0,(r.drop (HT.iB xs.length 0 lo)).take (HT.iB xs.length xs.length hi - HT.iB xs.length 0 lo),Ρ _ rfl⟩
def fD:V->Bool
 | .Um=>true
 | .bl _=>true
 | .int _=>true
 | .str _=>true
 | _=>false
def oS:V->V->Bool
 | .Um,.Um=>true
 | .bl a,.bl b=>a==b
 | .bl a,.int b=>(if a then 1 else 0)==b
 | .int a,.bl b=>a==(if b then 1 else 0)
 | .int a,.int b=>a==b
 | .str a,.str b=>a==b
 | _,_=>false
def HW{A:Around}{x:V}{v:Value}(ry:bP y u)(rx:bP x v)(fy:fD y=true)(fx:fD x=true):SeqAt.EqAt A s u v (oS y x):=by
 cases y with
 | Um =>
  cases ry;cases x with
  | Um=>cases rx;exact SeqAt.EqAt.same _
  | bl b=>cases rx;exact SeqAt.EqAt.none_bool b
  | int b=>obtain⟨t,rfl⟩:=rx;exact SeqAt.EqAt.none_int b t
  | str b=>obtain⟨t,rfl⟩:=rx;exact SeqAt.EqAt.none_str b t
  | _=>exact absurd (show false=true from fx) ϒ
 | bl a =>
  cases ry;cases x with
  | Um=>cases rx;exact SeqAt.EqAt.bool_none a
  | bl b=>cases rx;exact SeqAt.EqAt.bool_bool a b
  | int b=>obtain⟨t,rfl⟩:=rx;exact SeqAt.EqAt.bool_int a b t
  | str b=>obtain⟨t,rfl⟩:=rx;exact SeqAt.EqAt.bool_str a b t
  | _=>exact absurd (show false=true from fx) ϒ
 | int a =>
  obtain⟨t',rfl⟩:=ry;cases x with
  | Um=>cases rx;exact SeqAt.EqAt.int_none a t'
  | bl b=>cases rx;exact SeqAt.EqAt.int_bool a t' b
  | int b=>obtain⟨t,rfl⟩:=rx;exact SeqAt.EqAt.int_int a t' b t
  | str b=>obtain⟨t,rfl⟩:=rx;exact SeqAt.EqAt.int_str a t' b t
  | _=>exact absurd (show false=true from fx) ϒ
 | str a =>
  obtain⟨t',rfl⟩:=ry;cases x with
  | Um=>cases rx;exact SeqAt.EqAt.str_none a t'
  | bl b=>cases rx;exact SeqAt.EqAt.str_bool a t' b
  | int b=>obtain⟨t,rfl⟩:=rx;exact SeqAt.EqAt.str_int a t' b t
  | str b=>obtain⟨t,rfl⟩:=rx;exact SeqAt.EqAt.str_str a t' b t
  | _=>exact absurd (show false=true from fx) ϒ
 | _=>exact absurd (show false=true from fy) ϒ
def CS(x:V)(u:Value):Bool:=match u with
 | .none=>oS .Um x
 | .bool b=>oS (.bl b) x
 | .int i _=>oS (.int i) x
 | .str z _=>oS (.str z) x
 | _=>false
def HX{x:V}(r:bP y u)(f:fD y=true):CS x u=oS y x:=by
 cases y with
 | Um=>cases r;rfl
 | bl b=>cases r;rfl
 | int i=>obtain⟨t,rfl⟩:=r;rfl
 | str z=>obtain⟨t,rfl⟩:=r;rfl
 | _=>exact absurd (show false=true from f) ϒ
theorem oP{x:V}:∀ {xs:List V} {us:List Value},Uq xs us->xs.all fD=true->us.any 0e0=xs.any fun y=>oS y x
 | _,_,.nil,_=>rfl
 | y::xs,u::us,.cons r t,f=>by
  rw[List.all_cons,Γ6] at f;rw[List.any_cons,List.any_cons,HX r f.1,oP t f.2]
theorem mB{A:Around}{s:Shared}{x:V}{v:Value}(rx:bP x v)(fx:fD x=true):∀ {xs:List V} {us:List Value},Uq xs us->xs.all fD=true->∀ u∈us,SeqAt.EqAt A s u v (CS x u)
 | _,_,.nil,_=>fun u hu=>by cases hu
 | y::xs,u::us,.cons r t,f=>fun u' hu=>by
  rw[List.all_cons,Γ6] at f;rcases Α.mp hu with rfl|hu
  ·rw[HX r f.1];exact HW r rx f.1 fx
  ·exact mB rx fx t f.2 u' hu
def oM(x:V)(xs:List V):Bool:=xs.any fun y=>oS y x
def TU(K:q0B)(neg:Bool):R2:=fun x y H Q=>∃ p xs,y=.ref p/\(eY K H p xs\/iJ K H p xs)/\fD x=true/\xs.all fD=true/\Q (.bl (if neg then !oM x xs else oM x xs)) H
def Gj:jG X (compareOp .In) (TU X.K false):=by
 intro Uk s Z H x y v u Q I rx ry h;obtain⟨p,xs,rfl,hq,fx,fs,q⟩:=h;cases ry;rcases hq with hq|hq
 ·obtain⟨Up,r,pl,hz⟩:=I.list hq;refine SeqAt.in_listAt 0e0 pl.isList 2e0 ⟨.bl _,H,I,rfl,?_⟩;rw[show Up.toArray.any 0e0=Up.any 0e0 by simp,oP r fs];exact q
 ·obtain⟨Up,r,pl,hz⟩:=I.tuple hq;refine SeqAt.in_tupleAt 0e0 pl 2e0 ⟨.bl _,H,I,rfl,?_⟩;rw[show Up.toArray.any 0e0=Up.any 0e0 by simp,oP r fs];exact q
def Av:jG X (compareOp .NotIn) (TU X.K true):=by
 intro Uk s Z H x y v u Q I rx ry h;obtain⟨p,xs,rfl,hq,fx,fs,q⟩:=h;cases ry;rcases hq with hq|hq
 ·obtain⟨Up,r,pl,hz⟩:=I.list hq;refine SeqAt.notIn_listAt 0e0 pl.isList 2e0 ⟨.bl _,H,I,rfl,?_⟩;rw[show Up.toArray.any 0e0=Up.any 0e0 by simp,oP r fs];exact q
 ·obtain⟨Up,r,pl,hz⟩:=I.tuple hq;refine SeqAt.notIn_tupleAt 0e0 pl 2e0 ⟨.bl _,H,I,rfl,?_⟩;rw[show Up.toArray.any 0e0=Up.any 0e0 by simp,oP r fs];exact q
theorem xR:fA X (.type "tuple") (fun xs H Q=>∃ p ys,xs=[.ref p]/\((eY X.K H p ys/\∀ l,H l=none->Q (.ref l) (Ul H l 3e0))\/(iJ X.K H p ys/\Q (.ref p) H))):=by
 intro Uk s Z H xs us Q I r h;obtain⟨p,ys,rfl,h⟩:=h;obtain⟨u,rfl,rx⟩:=vals1 r;cases rx;rcases h with⟨hq,q⟩|⟨hq,q⟩
 ·obtain⟨Up,r',pl,hz⟩:=I.list hq;have hlen:=r'.length;refine call_tuple_list pl.isList (fun h' kp=>?_) (by simp only[Η]<;>omega);have I1:Uo X Uk Z H {s with heap:=h'}:=I.kept (t':=s.toks) kp;have I2:Uo X Uk Z (Ul H h'.objs.size 3e0) {s with heap:=h'.push {cls:=.type "tuple",data:=.seq Up.toArray}} :=
   I1.laid (t':=s.toks) (fun b o e=>Ε _ e) (Θ _) (show eF X.prog X.w _ _ _ 3e0 from ⟨hz,Up,r',IsTup.new _ _⟩)
  exact⟨.ref h'.objs.size,_,I2,rfl,q _ (I1.Ut.fresh (Θ _))⟩
 ·obtain⟨Up,r',pl,hz⟩:=I.tuple hq;exact call_tuple_same pl ⟨.ref p,H,I,rfl,q⟩
def Uh(K:q0B)(T:String)(x:V)(H:Hp):Prop:=match x with
  | .str _=>T = "str"
  | .int _=>T = "int"
  | .ref p=>(T = "list"/\∃ xs,eY K H p xs)\/(T = "tuple"/\∃ o,K.lookup p=some o/\o.cls=.type "tuple"/\o.dict=none) \/
      (T = "dict"/\((∃ kvs,H p=some (.dK kvs))\/∃ kvs,H p=some (.dT kvs)))\/(T = "set"/\∃ S n,H p=some (.set S n))
  | _=>False
def DH{T:String}{x:V}{v:Value}(I:Uo X Uk Z H s)(r:bP x v)(ty:Uh X.K T x H) : s.TypeIs v T/\∀ a,v=.ref a->∃ ob,s.heap.get? a=some ob/\ob.dict=none:=by
 cases x with
 | str z =>
  obtain⟨t,rfl⟩:=r;cases (show T = "str" from ty);exact⟨typeIs_str s z t,fun _ e=>nomatch e⟩
 | int i =>
  obtain⟨t,rfl⟩:=r;cases (show T = "int" from ty);exact⟨typeIs_int s i t,fun _ e=>nomatch e⟩
 | ref p =>
  cases r;rcases ty with⟨rfl,xs,hq⟩|⟨rfl,o,hk,hc,hd⟩|⟨rfl,hk⟩|⟨rfl,S,n,hk⟩
  ·obtain⟨Up,_,pl,_⟩:=I.list hq;refine⟨pl.isList.typeIs,fun a e=>?_⟩;cases e;obtain⟨o,n,e,c,hd,_⟩:=pl;exact⟨o,e,hd⟩
  ·refine⟨⟨o,I.kIn p o hk,hc⟩,fun a e=>?_⟩;cases e;exact⟨o,I.kIn _ o hk,hd⟩
  ·have z:∃ o,s.heap.get? p=some o/\o.ExactDict:=by
    rcases hk with⟨kvs,hk⟩|⟨kvs,hk⟩
    ·obtain⟨_,_,_,_,o,_,_,e,ex,_⟩:=I.Ut p _ hk;exact⟨o,e,ex⟩
    ·obtain⟨_,_,_,_,o,_,_,e,ex,_⟩:=I.Ut p _ hk;exact⟨o,e,ex⟩
   obtain⟨o,e,ex⟩:=z;refine⟨⟨o,e,ex.1⟩,fun a e2=>?_⟩;cases e2;exact⟨o,e,ex.2.1⟩
  ·obtain⟨o,_,_,_,e,ex,_⟩:=I.Ut p _ hk;refine⟨⟨o,e,ex.1⟩,fun a e2=>?_⟩;cases e2;exact⟨o,e,ex.2.1⟩
 | _=>exact False.elim ty
variable{o e:Expr}{es:List Expr}{to:TE}{t:TA}{name:Str}{apos Uv:Pos}{T id:String}{r:V->List V->Hp->VK->Prop}
end
end
mutual
example:=[]
def Ml(X:Cx)(id:String)(r:V->List V->Hp->VK->Prop):Prop :=
 ∀(Uk:List (Addr×Obj)) (s:Shared) (Z:St) (H:Hp) (x:V) (xs:List V) (v:Value) (us:List Value) (Q:VK),Uo X Uk Z H s->bP x v->Uq xs us->r x xs H Q ->
  wpAny (model X.prog X.w) X.A (call (.builtin id) (v::us)) (EP X Uk Z Q) X.xe s
def Uq.one{x:V}(h:Uq [x] us):∃ u,us=[u]/\bP x u:=by
 cases h with
 | cons r t=>cases t;exact⟨_,rfl,r⟩
theorem Uq.zero:∀ {us:List Value},Uq [] us->us=[]
 | _,.nil=>rfl
def Uq.dropLast{xs:List V}(h:Uq xs us):Uq xs.dropLast us.dropLast:=by
 induction h with
 | nil=>exact .nil
 | cons r t ih =>
  cases t with
  | nil=>exact .nil
  | cons q t'=>exact .cons r ih
theorem Uq.eraseIdx:∀ {xs:List V} {us:List Value} (i:Nat),Uq xs us->Uq (xs.eraseIdx i) (us.eraseIdx i)
 | _,_,_,.nil=>.nil
 | _,_,0,.cons _ t=>t
 | _,_,i+1,.cons r t=>.cons r (Uq.eraseIdx i t)
theorem CT{α:Type}(l:List α):l.eraseIdx (l.length - 1)=l.dropLast:=by
 induction l with
 | nil=>rfl
 | cons a r ih =>
  cases r with
  | nil=>rfl
  | cons b r =>
   have e:(a::b::r).length - 1=((b::r).length - 1)+1:=by
    have h1:(a::b::r).length=r.length+2:=rfl;have h2:(b::r).length=r.length+1:=rfl;omega
   rw[e,List.eraseIdx_cons_succ,ih]
   all_goals rfl
theorem qL{α:Type}:∀(l:List α) (i:Nat),(l.eraseIdx i).length<=l.length
 | [],_=>Θ _
 | _::_,0=>Ε3 _
 | _::r,i+1=>Nat.succ_le_succ (qL r i)
end
section
mutual
example:=[Obj.mapSeq f]
variable{l b:Addr}{xs ys zs:List V}
def Uo.u9{Up its':List Value}{f:Array Value->Array Value}(I:Uo X Uk Z H s)(hH:H l=some (.lst xs))(e:s.heap.get? l=some {cls:=.type "list",data:=.seq Up.toArray n})(hf:f Up.toArray=its'.toArray)(hv:Uq ys its')(hz:ys.length<=sizeLine) : Uo X Uk Z (Ul H l (.lst ys)) {s with heap:=s.heap.update l 0e0,toks:=t'}:=by
 have q:=PySem.IsL.update e f;rw[hf] at q;refine I.write (x:=l) (e:=l) (by rw[hH];exact trivial) (.inl rfl) (fun b' u hb hu=>(Heap.get?_update_other s.heap 0e0 (Ne.symm hb)).trans hu) ⟨_,q⟩ ?_;exact⟨hz,its',_,hv,q⟩
def Uo.Ly{Up:List Value}(I:Uo X Uk Z H s)(hv:Uq ys Up)(hz:ys.length<=sizeLine) : Uo X Uk Z (Ul H s.heap.objs.size (.lst ys)) {s with heap:=s.heap.push {cls:=.type "list",data:=.seq Up.toArray},toks:=t'} :=
 I.laid (fun _ _ q=>Ε _ q) (Θ _) ⟨hz,Up,0,hv,Ρ _ rfl⟩
def Uo.fresh(I:Uo X Uk Z H s):H s.heap.objs.size=none:=I.Ut.fresh (Θ _)
def Uo.Am(I:Uo X Uk Z H s)(hH:H l=some (.lst xs)):xs.length<=sizeLine/\∃(Up:List Value) (n:Nat),Uq xs Up/\xs.length=Up.length/\s.heap.get? l=some {cls:=.type "list",data:=.seq Up.toArray n}:=by
 obtain⟨z,Up,n,r,e⟩:=I.Ut l _ hH;exact⟨z,Up,n,r,r.length,e⟩
theorem IM(h:n<=sizeLine):Builtin.List.listTooLong n=false:=by
 unfold Builtin.List.listTooLong;exact Β7 (by omega)
end
end
section
mutual
example:=[.lst xs,(by rw[Η];omega),.lst (xs++zs),r.append r2]
def LV:V->List V->Hp->VK->Prop:=fun x vs H Q=>∃ l xs y,x=.ref l/\vs=[y]/\H l=some 0e0/\xs.length < sizeLine/\Q .Um (Ul H l (.lst (xs++[y])))
theorem FV:Ml X "list.append" LV:=by
 intro Uk s Z H x vs v us Q I rx rv h;obtain⟨l,xs,y,rfl,rfl,hH,hz,q⟩:=h;cases rx;obtain⟨u,rfl,ru⟩:=rv.one;obtain⟨z,Up,n,r,hl,e⟩:=I.Am hH;refine call_meets F.slot_list_append ⟨_,e,rfl⟩ F.entry_list_append (F.args_list_append_2 _ _) (PySem.list_append l Up.toArray n u 1e0) ⟨e,?_⟩;refine⟨.Um,_,I.u9 (its':=Up++[u]) hH e (by simp) (r.append (.cons ru .nil)) ?_,rfl,q⟩;rw[Ν,List.length_singleton];omega
def LW:V->List V->Hp->VK->Prop:=fun x vs H Q=>∃ l b xs zs,x=.ref l/\vs=[.ref b]/\H l=some 0e0/\H b=some (.lst zs)/\xs.length+zs.length<=sizeLine/\Q .Um (Ul H l 2e0)
theorem FW:Ml X "list.extend" LW:=by
 intro Uk s Z H x vs v us Q I rx rv h;obtain⟨l,b,xs,zs,rfl,rfl,hH,hB,hz,q⟩:=h;cases rx;obtain⟨u,rfl,ru⟩:=rv.one;cases ru;obtain⟨z,Up,n,r,hl,e⟩:=I.Am hH;obtain⟨z2,Vg,n2,r2,Xl,e2⟩:=I.Am hB;have hsz:Up.toArray.size+Vg.toArray.size<=sizeLine:=by rw[Η,Η];omega
 have ZN:¬ (!Up.toArray.isEmpty&&Builtin.List.listTooLong (Up.toArray.size+Vg.toArray.size))=true:=by
  rw[IM hsz,Bool.and_false];exact ϒ
 refine call_meets F.slot_list_extend ⟨_,e,rfl⟩ F.entry_list_extend (F.args_list_extend_2 _ _)
  (AutoSeq1.list_extend_list_list_0 l Up.toArray n b Vg.toArray n2 ZN 1e0 (by omega)) ⟨e,e2,?_⟩
 refine⟨.Um,_,I.u9 (its':=Up++Vg) hH e (by simp) 3e0 ?_,rfl,q⟩;rw[Ν];omega
def Tv:V->List V->Hp->VK->Prop:=fun x vs H Q=>∃ l xs y,x=.ref l/\vs=[]/\H l=some 0e0/\xs[xs.length - 1]?=some y/\Q y (Ul H l (.lst xs.dropLast))
theorem Pb:Ml X "list.pop" Tv:=by
 intro Uk s Z H x vs v us Q I rx rv h;obtain⟨l,xs,y,rfl,rfl,hH,hy,q⟩:=h;cases rx;have hus:=rv.zero;subst hus;obtain⟨z,Up,n,r,hl,e⟩:=I.Am hH;obtain⟨u,hu,ru⟩:=r.get hy;have hy':Up.toArray[Up.toArray.size - 1]?=some u:=by
  show Up.toArray[Up.length - 1]?=some u;rw[<- Γ9,<- hl];exact hu
 refine call_meets F.slot_list_pop ⟨_,e,rfl⟩ F.entry_list_pop (F.args_list_pop_1 _) (MeetsSeq.list_pop_last l Up.toArray n u hy' 1e0) ⟨e,?_⟩;refine⟨y,_,I.u9 (its':=Up.dropLast) hH e ?_ r.dropLast ?_,ru,q⟩
 ·show Up.toArray.eraseIdxIfInBounds (Up.toArray.size - 1)=Up.dropLast.toArray;rw[Η,List.eraseIdxIfInBounds_toArray,CT]
 ·rw[List.length_dropLast];omega
def PD:V->List V->Hp->VK->Prop:=fun x vs H Q=>∃ l xs i k y,x=.ref l/\vs=[.int i]/\H l=some 0e0/\-(2 ^ 63)<=i/\i < 2 ^ 63/\seqIndex? i xs.length=some k/\xs[k]?=some y/\Q y (Ul H l (.lst (xs.eraseIdx k)))
theorem IG:Ml X "list.pop" PD:=by
 intro Uk s Z H x vs v us Q I rx rv h;obtain⟨l,xs,i,k,y,rfl,rfl,hH,h1,h2,hk,hy,q⟩:=h;cases rx;obtain⟨u,rfl,ru⟩:=rv.one;obtain⟨t,rfl⟩:=ru;obtain⟨z,Up,n,r,hl,e⟩:=I.Am hH;obtain⟨w,hw,Vi⟩:=r.get hy;refine call_meets F.slot_list_pop ⟨_,e,rfl⟩ F.entry_list_pop (F.args_list_pop_2 _ _)
  (MeetsSeq.list_pop_at l Up.toArray n i t k w (fitsIndex_both h1 h2) (by rw[Η,<- hl];exact hk) (by rw[<- Γ9];exact hw) 1e0) ⟨e,?_⟩
 refine⟨y,_,I.u9 (its':=Up.eraseIdx k) hH e ?_ (r.eraseIdx k) ?_,Vi,q⟩
 ·show Up.toArray.eraseIdxIfInBounds k=(Up.eraseIdx k).toArray;rw[List.eraseIdxIfInBounds_toArray]
 ·have:=qL xs k;omega
def Tu:R2:=fun x y H Q=>∃ l b xs zs,x=.ref l/\y=.ref b/\H l=some 0e0/\H b=some (.lst zs)/\xs.length+zs.length<=sizeLine/\∀ p,H p=none->Q (.ref p) (Ul H p 2e0)
theorem Pm:jG X (binaryOp .Add) Tu:=by
 intro Uk s Z H x y v u Q I rx ry h;obtain⟨l,b,xs,zs,rfl,rfl,hH,hB,hz,q⟩:=h;cases rx;cases ry;obtain⟨z,Up,n,r,hl,e⟩:=I.Am hH;obtain⟨z2,Vg,n2,r2,Xl,e2⟩:=I.Am hB;refine PySem.P.add_list e e2 ?_ (by rw[Η,Η];omega);have ea:Up.toArray++Vg.toArray=(Up++Vg).toArray:=by simp
 rw[ea];exact⟨.ref _,_,I.Ly (t':=s.toks) 3e0 (by rw[Ν];omega),rfl,q _ I.fresh⟩
end
end
section
mutual
example:=[κ×V,κ×Value,(kvs.any fun kv=>decide (kv.1=k)),kv.1=k,h1.trans z,(kvs.map fun kv=>if kv.1=k then (kv.1,y) else kv),aS kvs k y,e.trans z]
variable{κ:Type}[DecidableEq κ]
def aX(kvs:List 0e0)(k:κ):Option V:=(kvs.find? fun kv=>decide 3e0).map (·.2)
def aS(kvs:List 0e0)(k:κ)(v:V):List 0e0 :=
 if 2e0=true then kvs.map (fun kv=>if kv.1=k then (kv.1,v) else kv) else kvs++[(k,v)]
def rM(kvs:List 0e0)(k:κ):List 0e0:=kvs.filter fun kv=>decide (kv.1≠k)
def xK{k:κ}:aX ([]:List 0e0) k=none:=rfl
def cN{p:κ×V}{r:List 0e0}{k:κ}(e:p.1=k):aX (p::r) k=some p.2:=by simp[aX,Δ2,e]
def cA{p:κ×V}{r:List 0e0}{k:κ}(e:¬ p.1=k):aX (p::r) k=aX r k:=by simp[aX,Δ2,e]
theorem hJ(k:κ):∀ kvs:List 0e0,2e0=(aX kvs k).isSome
 | []=>rfl
 | p::r=>by
  rw[List.any_cons];by_cases e:p.1=k
  ·simp only[cN e,decide_eq_true e,Bool.true_or,Option.isSome_some]
  ·rw[cA e,Β7 e,Bool.false_or];exact hJ k r
theorem Cw(k j:κ)(y:V):∀ kvs:List 0e0,aX 5e0 j=(aX kvs j).map fun x=>if j=k then y else x
 | []=>rfl
 | p::r=>by
  have ih:=Cw k j y r;rw[ϔ];by_cases h:p.1=k
  ·rw[if_pos h];by_cases e:p.1=j
   ·rw[cN (p:=(p.1,y)) e,cN e,Option.map_some,if_pos (e.symm.trans h)]
   ·rw[cA (p:=(p.1,y)) e,cA e,ih]
  ·rw[if_neg h];by_cases e:p.1=j
   ·rw[cN (p:=p) e,cN e,Option.map_some,if_neg (fun z=>h 7e0)]
   ·rw[cA (p:=p) e,cA e,ih]
theorem zR(k j:κ)(y:V):∀ kvs:List 0e0,aX kvs k=none->aX (kvs++[(k,y)]) j=if j=k then some y else aX kvs j
 | [],_=>by
  by_cases e:k=j
  ·rw[if_pos e.symm];exact cN (p:=(k,y)) e
  ·rw[if_neg (fun z=>e z.symm)];exact cA (p:=(k,y)) e
 | p::r,hn=>by
  rw[ϐ];have hk:¬ p.1=k:=fun z=>by rw[cN z] at hn;cases hn
  rw[cA hk] at hn;have ih:=zR k j y r hn;by_cases e:p.1=j
  ·rw[cN e,cN e,if_neg (fun z=>hk 7e0)]
  ·rw[cA e,cA e,ih]
theorem gB(kvs:List 0e0)(k j:κ)(y:V):aX 6e0 j=if j=k then some y else aX kvs j:=by
 unfold aS;by_cases a:2e0=true
 ·rw[if_pos a,Cw];rw[hJ] at a;by_cases e:j=k
  ·obtain⟨x,hx⟩:=Δ4.mp a;rw[if_pos e,e,hx,Option.map_some,if_pos rfl]
  ·rw[if_neg e];cases aX kvs j with
   | none=>rfl
   | some x=>rw[Option.map_some,if_neg e]
 ·rw[if_neg a];refine zR k j y kvs ?_;rw[hJ] at a;cases q:aX kvs k with
  | none=>rfl
  | some x=>rw[q] at a;exact(a rfl).elim
theorem iH(kvs:List 0e0)(k:κ)(v:V):(aS kvs k v).length<=kvs.length+1:=by
 unfold aS;split
 ·rw[Γ];omega
 ·rw[Ν,Ζ,ϕ];omega
theorem wF{kvs:List 0e0}{k:κ}(v:V)(h:aX kvs k=none):aS kvs k v=kvs++[(k,v)]:=by
 unfold aS;rw[hJ,h];exact if_neg (by decide)
def kN.qG{u:Option Value}(r:kN o u):o.isSome=u.isSome:=by
 cases o with
 | none=>cases u with
  | none=>rfl
  | some _=>exact(show False from r).elim
 | some _=>cases u with
  | none=>exact(show False from r).elim
  | some _=>rfl
def kN.getD{u:Option Value}{d:V}{d':Value}(r:kN o u)(rd:bP d d'):bP (o.getD d) (u.getD d'):=by
 cases o with
 | none=>cases u with
  | none=>exact rd
  | some _=>exact(show False from r).elim
 | some _=>cases u with
  | none=>exact(show False from r).elim
  | some _=>exact r
def KV.val{kvs:List 0e0}{vs:List 1e0}(r:KV kvs vs)(k:κ):kN (aX kvs k) (valueAt vs k):=by
 unfold KV at r
 induction r with
 | nil=>exact True.intro
 | @cons p q ps qs h t ih =>
  obtain⟨h1,h2⟩:=h;by_cases e:p.1=k
  ·have e':q.1=k:=h1.symm.trans e;have b:valueAt (q::qs) k=some q.2:=by simp[valueAt,Δ2,e']
   rw[cN e,b];exact h2
  ·have e':¬ q.1=k:=fun z=>e 4e0;have b:valueAt (q::qs) k=valueAt qs k:=by simp[valueAt,Δ2,e']
   rw[cA e,b];exact ih
theorem KV.any{kvs:List 0e0}{vs:List 1e0}(r:KV kvs vs)(k:κ):2e0=vs.any fun kv=>decide 3e0:=by
 unfold KV at r
 induction r with
 | nil=>rfl
 | cons h t ih=>rw[List.any_cons,List.any_cons,ih,h.1]
def KV.Js{kvs:List 0e0}{vs:List 1e0}(r:KV kvs vs)(k:κ)(ry:bP y u) : KV 5e0 (vs.map fun kv=>if kv.1=k then (kv.1,u) else kv):=by
 unfold KV at r ⊢
 induction r with
 | nil=>exact .nil
 | @cons p q ps qs h t ih =>
  rw[ϔ,ϔ];refine .cons ?_ ih;obtain⟨h1,h2⟩:=h;by_cases e:p.1=k
  ·rw[if_pos e,if_pos (h1.symm.trans e)];exact⟨h1,ry⟩
  ·rw[if_neg e,if_neg (fun z=>e 4e0)];exact⟨h1,h2⟩
theorem KV.put{kvs:List 0e0}{vs:List 1e0}(r:KV kvs vs)(k:κ)(ry:bP y u):KV 6e0 (stored vs k u):=by
 unfold aS stored;rw[r.any k];by_cases e:(vs.any fun kv=>decide 3e0)=true
 ·rw[if_pos e,if_pos e];exact r.Js k ry
 ·rw[if_neg e,if_neg e];exact Paired.snoc r ⟨rfl,ry⟩
theorem KV.drop{kvs:List 0e0}{vs:List 1e0}(r:KV kvs vs)(k:κ):KV (rM kvs k) (without vs k):=by
 unfold KV at r ⊢;unfold rM without
 induction r with
 | nil=>exact .nil
 | @cons p q ps qs h t ih =>
  obtain⟨h1,h2⟩:=h;rw[List.filter_cons,List.filter_cons];by_cases e:p.1=k
  ·have a:¬ decide (p.1≠k)=true:=by simp[e]
   have b:¬ decide (q.1≠k)=true:=by simp[h1.symm.trans e]
   rw[if_neg a,if_neg b];exact ih
  ·have e':¬ q.1=k:=fun z=>e 4e0;have a:decide (p.1≠k)=true:=by simp[e]
   have b:decide (q.1≠k)=true:=by simp[e']
   rw[if_pos a,if_pos b];exact .cons ⟨h1,h2⟩ ih
def KV.length{kvs:List 0e0}{vs:List 1e0}(r:KV kvs vs):kvs.length=vs.length:=Paired.length r
def HB(kvs:List 0e0)(k:κ):(rM kvs k).length<=kvs.length:=Γ8 _ _
end
end
mutual
example:=[h1.trans z]
def nP{k:Key}(r:bP (kV k) u):(bJ P w).is k u=true:=by
 cases k with
 | inl i=>obtain⟨t,e⟩:=(show ∃ t,u=Value.int i t from r);subst e;exact By P w i t
 | inr x=>obtain⟨t,e⟩:=(show ∃ t,u=Value.str x t from r);subst e;exact Bz P w x t
 | no=>cases (show u=Value.none from r);rfl
theorem yT{P:Program}{w:World}:∀ {ks:List Key} {us:List Value},Uq (ks.map kV) us->ItemsAre (bJ P w) ks us
 | [],_,r=>by rw[List.map_nil] at r;cases r;exact .nil
 | k::ks,_,r=>by
  rw[ϔ] at r;cases r with
  | cons h t=>exact .cons (nP h) (yT t)
abbrev KT(H:Hp):List (List Key×V)->List (List Key×Addr×Value)->Prop:=Paired fun p q=>p.1=q.1/\H q.2.1=some (.tup (p.1.map kV))/\bP p.2 q.2.2
def KT.val(r:KT H kvs xs)(k:List Key):kN (aX kvs k) ((atKey xs k).map (·.2)):=by
 induction r with
 | nil=>exact True.intro
 | @cons p q ps qs h t ih =>
  obtain⟨h1,_,h2⟩:=h;by_cases e:p.1=k
  ·have e':q.1=k:=h1.symm.trans e;have b:atKey (q::qs) k=some q.2:=by simp[atKey,Δ2,e']
   rw[cN e,b];exact h2
  ·have e':¬ q.1=k:=fun z=>e 0e0;have b:atKey (q::qs) k=atKey qs k:=by simp[atKey,Δ2,e']
   rw[cA e,b];exact ih
def KT.Js(r:KT H kvs xs)(k:List Key)(ry:bP y u) : KT H (kvs.map fun kv=>if kv.1=k then (kv.1,y) else kv) (xs.map (putAt k u)):=by
 induction r with
 | nil=>exact .nil
 | @cons p q ps qs h t ih =>
  rw[ϔ,ϔ];refine .cons ?_ ih;obtain⟨h1,h2,h3⟩:=h;unfold putAt;by_cases e:p.1=k
  ·rw[if_pos e,if_pos (h1.symm.trans e)];exact⟨h1,h2,ry⟩
  ·rw[if_neg e,if_neg (fun z=>e 0e0)];exact⟨h1,h2,h3⟩
theorem KT.put(r:KT H kvs xs)(k:List Key){b:Addr}(hb:H b=some (.tup (k.map kV)))(ry:bP y u) : KT H (aS kvs k y) (storedH xs k b u):=by
 have e:(kvs.any fun kv=>decide (kv.1=k))=(atKey xs k).isSome:=by
  rw[hJ,(r.val k).qG,Option.isSome_map]
 unfold aS storedH;rw[e];by_cases q:(atKey xs k).isSome=true
 ·rw[if_pos q,if_pos q];exact r.Js k ry
 ·rw[if_neg q,if_neg q];exact Paired.snoc r ⟨rfl,hb,ry⟩
def KT.keeps{H':Hp}(r:KT H kvs xs)(ht:∀ b ys,H b=some (.tup ys)->H' b=some (.tup ys)):KT H' kvs xs :=
 Paired.O9 r fun _ _ z=>⟨z.1,ht _ _ z.2.1,z.2.2⟩
end
section
mutual
example:=[bJ P w,a==sysModules,.dT kvs,.dK kvs,.tup (ks.map kV)]
variable{h:Heap}
def ME{u:HO}(ok:HOk P w H h)(e:Rd H a u):eF P w H h a u:=e.ok ok
def tZ{kvs:List (Key×V)}(ok:HOk P w H h)(e:Rd H a 3e0):kvs.length<=sizeLine/\1e0=false/\∃ vs,KV kvs vs/\h.DictOf 0e0 a vs :=
 show eF P w H h a 3e0 from ME ok e
def nN{kvs:List (Key×V)}(ok:HOk P w H h)(e:H a=some 3e0):kvs.length<=sizeLine/\1e0=false/\∃ vs,KV kvs vs/\h.DictOf 0e0 a vs:=tZ ok (.inl e)
def qH{ks:List Key}(ok:HOk P w H h)(e:H a=some 4e0):(tupleKind 0e0).is h ks a:=by
 obtain⟨_,Up,r,o,h1,h2,n,h3⟩:=(show eF P w H h a 4e0 from ok a _ e);exact⟨o,Up.toArray,n,h1,h2,h3,by simpa using yT r⟩
def uA(ok:HOk P w H h)(e:Rd H a 2e0):kvs.length<=sizeLine/\1e0=false /\ ∃ xs,KT H kvs xs/\h.DictOfH (tupleKind 0e0) a xs:=by
 obtain⟨z,y,xs,r,o,es,ep,h1,h2,h3,h4,h5⟩:=(show eF P w H h a 2e0 from ME ok e);refine⟨z,y,xs,r,o,es,ep,h1,h2,h3,h4,fun x hx=>?_,h5⟩;have all:∀ {l:List (List Key×V)} {m:List (List Key×Addr×Value)},KT H l m->∀ x∈m,(tupleKind 0e0).is h x.1 x.2.1:=by
  intro l m q
  induction q with
  | nil=>intro x hx;exact nomatch hx
  | @cons p q ps qs hq t ih =>
   intro x hx;rcases Α.mp hx with e|hx
   ·subst e;exact qH ok (by rw[<- hq.1];exact hq.2.1)
   ·exact ih x hx
 exact all r x hx
def Qg(ok:HOk P w H h)(e:H a=some 2e0):kvs.length<=sizeLine/\1e0=false /\ ∃ xs,KT H kvs xs/\h.DictOfH (tupleKind 0e0) a xs:=uA ok (.inl e)
end
end
mutual
example:=[.dK kvs,aS kvs k v,.tup (k.map kV)]
def DGet(H:Hp)(a:Addr)(y:V)(r:Option V):Prop :=
 (∃ kvs k,Rd H a 0e0/\y=kV k/\r=aX kvs k)\/∃ kvs k b,Rd H a (.dT kvs)/\y=.ref b/\H b=some 2e0/\r=aX kvs k
def DPut(H:Hp)(a:Addr)(y v:V)(H':Hp):Prop :=
 (∃ kvs k,H a=some 0e0/\y=kV k/\kvs.length < sizeLine/\H'=Ul H a (.dK 1e0)) \/
 ∃ kvs k b,H a=some (.dT kvs)/\y=.ref b/\H b=some 2e0/\kvs.length < sizeLine/\H'=Ul H a (.dT 1e0)
def DGet.k{kvs:List (Key×V)}{k:Key}(e:H a=some 0e0):DGet H a (kV k) (aX kvs k):=.inl ⟨kvs,k,.inl e,rfl,rfl⟩
def DPut.k{kvs:List (Key×V)}{k:Key}{v:V}(e:H a=some 0e0)(hl:kvs.length < sizeLine):DPut H a (kV k) v (Ul H a (.dK 1e0)):=.inl ⟨kvs,k,e,rfl,hl,rfl⟩
end
section
mutual
example:=[I.tok _,tupleKind_room_in1 hu,model X.prog X.w,qH I.Ut eb,.ref a,(by rw[e];exact True.intro),(by rw[l];exact rel.val k),Ul H a ob]
variable{v:V}{r:Value}{A:Around}{E:q0A}
theorem Uo.big(I:Uo X Uk Z H s):sysModules < s.heap.objs.size:=by
 have h:mainGlobals < s.heap.objs.size:=(I.mod.glob.keeps I.bk).lt;exact Nat.lt_trans (by decide) h
def Fi(hu:A.units+1 < cLine)(I:Uo X Uk Z H s)(g:DGet H a y (some v))(ry:bP y u)(h:∀ w' s',Uo X Uk Z H s'->bP v w'->Q w' s') : wpAny 2e0 A (getItem 4e0 u) Q E s:=by
 rcases g with⟨kvs,k,e,ey,l⟩|⟨kvs,k,b,e,ey,eb,l⟩
 ·subst ey;obtain⟨z,hd,vs,rel,dd⟩:=tZ I.Ut e;obtain⟨w',hw,Vi⟩:=kN.some_of (v:=v) (o:=valueAt vs k) 6e0;exact wpAny_getItem_of (nP ry) dd.mapOf hw (h w' _ 0e0 Vi)
 ·subst ey;cases (show u=Value.ref b from ry);obtain⟨z,hd,xs,rel,dd⟩:=uA I.Ut e;obtain⟨w',hw,Vi⟩:=kN.some_of (v:=v) (o:=(atKey xs k).map (·.2)) 6e0;obtain⟨p,hp,WZ⟩:=ϗ.mp hw;refine wpAny_getItem_heap 1e0 3e0 dd hp ?_;rw[WZ];exact h w' _ 0e0 Vi
def SX(hu:A.units+1 < cLine)(I:Uo X Uk Z H s)(g:DGet H a y o)(ry:bP y u)(h:∀ s',Uo X Uk Z H s'->Q (.bool o.isSome) s') : wpAny 2e0 A (compareOp .In u 4e0) Q E s:=by
 rcases g with⟨kvs,k,e,ey,l⟩|⟨kvs,k,b,e,ey,eb,l⟩
 ·subst ey;obtain⟨z,hd,vs,rel,dd⟩:=tZ I.Ut e;refine wpAny_in_of (nP ry) hd dd.mapOf ?_;rw[<- (rel.val k).qG,<- l];exact h _ 0e0
 ·subst ey;cases (show u=Value.ref b from ry);obtain⟨z,hd,xs,rel,dd⟩:=uA I.Ut e;refine wpAny_in_heap 1e0 3e0 hd dd ?_;have q:=(rel.val k).qG;rw[Option.isSome_map] at q;rw[<- q,<- l];exact h _ 0e0
def mX{h':Heap}{ob:HO}(I:Uo X Uk Z H s)(mu:Mut (H a))(hs:Heap.SameBut a s.heap h')(he:∃ q,h'.get? a=some q)(new:eF X.prog X.w 7e0 h' a ob) : Uo X Uk Z 7e0 {s with heap:=h',toks:=t'} :=
 I.write (x:=a) (e:=a) mu (.inl rfl) (fun b q hb z=>(hs.2 b hb).trans z) he new
def oC{H':Hp}{h':Heap}{kvs:List (Key×V)}{vs:List (Key×Value)}(z:kvs.length<=sizeLine)(hd:(a==sysModules)=false)(rel:KV kvs vs)(dd:h'.DictOf (bJ P w) a vs) : eF P w H' h' a (.dK kvs):=⟨z,hd,vs,rel,dd⟩
theorem Fj{H':Hp}{Q:Unit->Shared->Prop}(hu:A.units+1 < cLine)(I:Uo X Uk Z H s)(g:DPut H a y v H')(ry:bP y u)(rv:bP v r)(h:∀ s',Uo X Uk Z H' s'->Q () s') : wpAny 2e0 A (setItem 4e0 u r) Q E s:=by
 rcases g with⟨kvs,k,e,ey,l,eH⟩|⟨kvs,k,b,e,ey,eb,l,eH⟩
 ·subst ey eH;obtain⟨z,hd,vs,rel,dd⟩:=nN I.Ut e;have hz:vs.length<=sizeLine:=by rw[<- rel.length];exact z
  have hl:(aS kvs k v).length<=sizeLine:=by have:=iH kvs k v;omega
  refine wpAny_setItem_pairs (hsz:=hz) (nP ry) dd fun h' VN hs=>h _ ?_;have he:∃ q,h'.get? a=some q:=let ⟨q,_,_,hq,_⟩:=VN;⟨q,hq⟩;exact mX I 5e0 hs he (oC hl hd (rel.put k rv) VN)
 ·subst ey eH;cases (show u=Value.ref b from ry);obtain⟨z,hd,xs,rel,dd⟩:=Qg I.Ut e;have hz:xs.length<=sizeLine:=by rw[<- Paired.length rel];exact z
  have hl:(aS kvs k v).length<=sizeLine:=by have:=iH kvs k v;omega
  refine wpAny_setItem_heap (hsz:=hz) 1e0 3e0 dd fun h' VN hs=>h _ ?_;obtain⟨q,es,ep,hq,h2,h3,h4,_,h5⟩:=VN;refine mX I 5e0 hs ⟨q,hq⟩ ⟨hl,hd,_,(rel.put k eb rv).keeps fun c ys ec=>?_,q,es,ep,hq,h2,h3,h4,h5⟩;rw[aE (dB ec e (fun z=>nomatch z))];exact ec
end
end
section
variable{kvs:List (Key×V)}{k:Key}{A:Around}{E:q0A}
def Qf{v:V}{more:List Value}(I:Uo X Uk Z H s)(e:H a=some (.dK kvs))(ry:bP (kV k) u)(l:aX kvs k=some v)(hm:more=[]\/∃ x,more=[x])(h:∀ w' s',Uo X Uk Z (Ul H a (.dK (rM kvs k))) s'->bP v w'->Q w' s'):wpAny (model X.prog X.w) A (call (.builtin "dict.pop") (.ref a::u::more)) Q E s:=by
 obtain⟨z,hd,vs,rel,dd⟩:=nN I.Ut e;obtain⟨w',hw,Vi⟩:=kN.some_of (v:=v) (o:=valueAt vs k) (by rw[<- l];exact rel.val k);have hp:(keyPart u).isSome=true:=by
  cases k with
  | inl i=>obtain⟨t,q⟩:=(show ∃ t,u=Value.int i t from ry);subst q;rfl
  | inr x=>obtain⟨t,q⟩:=(show ∃ t,u=Value.str x t from ry);subst q;rfl
  | no=>cases (show u=Value.none from ry);rfl
 have ha:argsOk "dict.pop" ⟨.ref a::u::more,[]⟩:=by
  rcases hm with q|⟨x,q⟩
  ·subst q;exact PySem.F.args_dict_pop_2 _ _
  ·subst q;exact PySem.F.args_dict_pop_3 _ _ _
 refine Δ0 PySem.F.slot_dict_pop dd.typeIs PySem.F.entry_dict_pop ha (meets_dict_pop_there (bJ X.prog X.w) a (nP ry) more hm hp)
  ⟨vs,w',dd,by rw[<- rel.length];exact z,hw,fun h' VN hs=>h w' _ ?_ Vi⟩
 have he:∃ q,h'.get? a=some q:=let ⟨q,_,_,hq,_⟩:=VN;⟨q,hq⟩;exact mX I (by rw[e];exact True.intro) hs he (oC (Χ (HB kvs k) z) hd (rel.drop k) VN)
end
def J8(i:Expr):Prop:=∀ ov iv,subscripted i false ov iv=operate [ov,iv] (getItem ov iv)
def EV{prog:Program}{A:Around}{E:q0A}{env:Env}{value slice:Expr}{T id:String}(hl:typeLookup (.type T) "__getitem__"=pure (some (.builtin id)))(hs:J8 slice)(h:wpAny (model prog w) A (eval value env) (fun o s₁=>wpAny (model prog w) A (eval slice env) (fun i s₂=>s₂.TypeIs o T/\wpAny (model prog w) A (getItem o i) Q E s₂) E s₁) E s) : wpAny (model prog w) A (eval (.Subscript value slice pos) env) Q E s:=by
 refine Subscript_ (Β6 h (fun o s₁ h₁=>Β6 h₁ (fun i s₂ h₂=>?_) fun _ _ x=>x) fun _ _ x=>x);obtain⟨hT,h₂⟩:=h₂;unfold subscriptTail;refine Β ?_;rw[getitemInPython_of_ne hT.not_modules];refine Β (wpAny_specialOf hT hl ?_);have fin:wpAny (model prog w) A (subscripted slice false o i) (fun r s₃=>wpAny (model prog w) A (letTemporaryGo value o r >>= fun _=>pure r) Q E s₃) E s₂:=by
  rw[hs o i];exact wpAny_operating (Β6 h₂ (fun r s₃ h₃=>Β (wpAny_letTemporaryGo (Ι h₃))) fun _ _ x=>x)
 first
  | exact Ι (Β fin)
  | exact Β (Ι (Β fin))
  | exact Β fin
def Bg(I:Uo X Uk Z H s)(g:DGet H a y o):s.TypeIs (.ref a) "dict":=by
 rcases g with⟨kvs,k,e,_,_⟩|⟨kvs,k,b,e,_,_,_⟩
 ·obtain⟨_,_,vs,_,dd⟩:=tZ I.Ut e;exact dd.typeIs
 ·obtain⟨_,_,xs,_,dd⟩:=uA I.Ut e;exact dd.typeIs
section
variable{o i e value:Expr}{pos' Xg:Pos}{td ty tv:TE}
end
def Bh(h:Heap)(hb:sysModules < h.objs.size):eF P w H (h.push {cls:=.type "dict",data:=.dict #[]}) h.objs.size (.dK []) :=
 ⟨Α2 _,Β4.mpr (Ne.symm (Υ hb)),[],.nil,Heap.DictOf.new h⟩
def JT:TE:=fun _ H Q=>∀ p,H p=none->Q (.ref p) (Ul H p (.dK []))
section
def kH:PE X (.Dict [] [] pos) JT:=fun Uk s Z H Q I h =>
 wpAny_Dict_empty ⟨.ref s.heap.objs.size,_,I.laid (a:=s.heap.objs.size) (o:=.dK []) (t':=s.toks) (fun _ _ q=>Ε _ q) (Θ _) (Bh s.heap I.big),rfl,h _ (I.Ut.fresh (Θ _))⟩
end
mutual
example:=[Key×V,aS kvs p.1 p.2,Option Expr,TE×TE,(if ([]:List Keyword).isEmpty then 0 else 1),apos.endLine==Uv.line,(starEach [e,f] X.env),keywordEach [] X.env,starEach [e] X.env,(fun x=>x.1.isSome),eval o X.env,Value×Value,(fun x=>!x.1),Key×Value]
def oJ:List 3e0->St->Hp->(List (V×V)->Hp->Prop)->Prop
 | [],_,H,Q=>Q [] H
 | (tk,tv)::r,Z,H,Q=>tk Z H fun x H1=>tv Z H1 fun y H2=>oJ r Z H2 fun ps H3=>Q ((x,y)::ps) H3
abbrev VV:List (V×V)->List 1e1->Prop:=Paired fun p q=>bP p.1 q.1/\bP p.2 q.2
def PPs(X:Cx)(pos:Pos)(keys:List 2e0)(values:List Expr)(V1:List 3e0):Prop :=
 ∀(Uk:List (Addr×Obj)) (s:Shared) (Z:St) (H:Hp) (Q:List (V×V)->Hp->Prop),Uo X Uk Z H s->oJ V1 Z H Q ->
  wpAny (model X.prog X.w) X.A (evalPairs (pairTrees keys values X.env pos)) (fun vs s'=>∃ ps H',Uo X Uk Z H' s'/\VV ps vs/\Q ps H') X.xe s
def Ez:PPs X pos [] [] []:=fun Uk s Z H Q I h=>pairTrees_nil_walk ⟨[],H,I,.nil,h⟩
def fQ{k v:Expr}{ks:List 2e0}{vs:List Expr}{tk tv:TE}(hk:PE X k tk)(hv:PE X v tv)(hr:PPs X pos ks vs V1) : PPs X pos (some k::ks) (v::vs) ((tk,tv)::V1):=fun Uk s Z H Q I h =>
 pairTrees_cons_walk (thn (hk Uk s Z H _ I h) fun u s1 ⟨x,H1,I1,rx,q1⟩=>thn (hv Uk s1 Z H1 _ I1 q1) fun w2 s2 ⟨y,H2,I2,ry,q2⟩ =>
  thn (hr Uk s2 Z H2 _ I2 q2) fun ws s3 ⟨ps,H3,I3,rel,q3⟩=>⟨(x,y)::ps,H3,I3,.cons ⟨rx,ry⟩ rel,q3⟩)
def eW(kvs more:List 0e0):List 0e0:=more.foldl (fun acc kv=>aS acc kv.1 kv.2) kvs
def KV.merge:∀ {more:List 0e0} {rs:List 3e1} {kvs:List 0e0} {vs:List 3e1},KV more rs->KV kvs vs->KV (eW kvs more) (merged vs rs):=by
 intro more rs kvs vs r;unfold KV at r
 induction r generalizing kvs vs with
 | nil=>intro q;exact q
 | @cons p q ps qs h t ih =>
  intro r0;have e:KV 1e0 (stored vs q.1 q.2):=by
   have:=r0.put p.1 h.2;rw[<- h.1];exact this
  exact ih e
theorem nQ:∀(more kvs:List 0e0),(eW kvs more).length<=kvs.length+more.length
 | [],kvs=>by show kvs.length<=kvs.length+0;omega
 | p::r,kvs=>by
  have h1:=nQ r 1e0;have h2:=iH kvs p.1 p.2;show(eW 1e0 r).length<=_;rw[Ζ];omega
theorem tV{P:Program}{w:World}:∀ {kvs:List 0e0} {ws:List 1e1},VV (kvs.map fun kv=>(kV kv.1,kv.2)) ws->∃ rs,Carries (bJ P w) ws rs/\KV kvs rs
 | [],_,r=>by rw[List.map_nil] at r;cases r;exact⟨[],True.intro,.nil⟩
 | p::kvs,_,r=>by
  rw[ϔ] at r;cases r with
  | @cons a b as bs h t =>
   obtain⟨rs,c,q⟩:=tV (P:=P) (w:=w) t;obtain⟨b1,b2⟩:=b;exact⟨(p.1,b2)::rs,⟨nP h.1,rfl,c⟩,.cons ⟨rfl,h.2⟩ q⟩
def MP(V1:List 3e0):TE:=fun Z H Q=>∀ p,H p=none->oJ V1 Z (Ul H p (.dK [])) fun ps H2=>H2 p=some (.dK [])/\∃ kvs:List 0e0,ps=kvs.map (fun kv=>(kV kv.1,kv.2))/\kvs.length<=15/\Q (.ref p) (Ul H2 p (.dK (eW [] kvs)))
theorem Eu{keys:List 2e0}{values:List Expr}(h:PPs X pos keys values V1)(WS:keys.all (·.isSome)=true)(hl:keys.length=values.length)(h0:keys≠[])(h15:keys.length<=15):PE X (.Dict keys values pos) (MP V1):=by
 intro Uk s Z H Q I q;have hn:=I.Ut.fresh (Θ s.heap.objs.size);have I1:=I.laid (a:=s.heap.objs.size) (o:=.dK []) (h':=s.heap.push {cls:=.type "dict",data:=.dict #[]}) (t':=s.toks) (fun _ _ q=>Ε _ q) (Θ _) (Bh s.heap I.big);refine wpAny_Dict_walk (knd:=bJ X.prog X.w) WS hl h0 h15 (thn (h Uk _ Z _ _ I1 (q _ hn)) fun ws s2 ⟨ps,H2,I2,rel,e,kvs,ep,lk,q2⟩=>?_);subst ep;obtain⟨rs,c,rk⟩:=tV (P:=X.prog) (w:=X.w) rel;obtain⟨z,hd,Ze,r0,dd⟩:=nN I2.Ut e;cases r0;refine⟨rs,c,dd,fun h' VN hs=>⟨.ref s.heap.objs.size,_,?_,rfl,q2⟩⟩;have hz:(eW [] kvs).length<=sizeLine:=by
  have h1:=nQ kvs [];rw[ϕ] at h1;rw[Ε2];omega
 have he:∃ q,h'.get? s.heap.objs.size=some q:=let ⟨q,_,_,hq,_⟩:=VN;⟨q,hq⟩;exact mX I2 (by rw[e];exact True.intro) hs he (oC hz hd (rk.merge .nil) VN)
structure M1(X:Cx)(o:Expr)(m:Str)(apos:Pos)(e:Expr)(Uv:Pos):Prop where
 base:attributeBase o m X.env 0e1=eval o X.env
 UO:((backTo Uv 8e0).all 2e1&&(backToKw Uv 7e0).all 9e0
 &&decide (([e]:List Expr).length+([]:List Keyword).length+4e0 < 30))=true
 line:5e0=true
 trees:backTo Uv 8e0=[(false,eval e X.env)]
structure M2(X:Cx)(o:Expr)(m:Str)(apos:Pos)(e f:Expr)(Uv:Pos):Prop where
 base:attributeBase o m X.env 0e1=eval o X.env
 UO:((backTo Uv 6e0).all 2e1&&(backToKw Uv 7e0).all 9e0
 &&decide (([e,f]:List Expr).length+([]:List Keyword).length+4e0 < 30))=true
 line:5e0=true
 trees:backTo Uv 6e0=[(false,eval e X.env),(false,eval f X.env)]
def Ub(H:Hp)(a:Addr):Prop:=(∃ kvs,Rd H a (.dK kvs))\/∃ kvs,Rd H a (.dT kvs)
def qF(I:Uo X Uk Z H s)(d:Ub H a) : s.TypeIs (.ref a) "dict"/\(∀ b,Value.ref a=.ref b->∃ ob,s.heap.get? b=some ob/\ob.dict=none)/\(a==sysModules)=false:=by
 rcases d with⟨kvs,e⟩|⟨kvs,e⟩
 ·obtain⟨_,hd,vs,_,dd⟩:=tZ I.Ut e;refine⟨dd.typeIs,fun b q=>?_,hd⟩;cases q;obtain⟨ob,_,_,h1,h2,_⟩:=dd;exact⟨ob,h1,h2.2.1⟩
 ·obtain⟨_,hd,xs,_,dd⟩:=uA I.Ut e;refine⟨dd.typeIs,fun b q=>?_,hd⟩;cases q;obtain⟨ob,_,_,h1,h2,_⟩:=dd;exact⟨ob,h1,h2.2.1⟩
end
section
variable{d:V}{r:Value}{A:Around}{E:q0A}
def Nq(hu:A.units+1 < cLine)(I:Uo X Uk Z H s)(g:DGet H a y o)(ry:bP y u)(h:∀ w' s',Uo X Uk Z H s'->bP (o.getD .Um) w'->Q w' s') : wpAny (model X.prog X.w) A (call (.builtin "dict.get") [.ref a,u]) Q E s:=by
 rcases g with⟨kvs,k,e,ey,l⟩|⟨kvs,k,b,e,ey,eb,l⟩
 ·subst ey;obtain⟨z,hd,vs,rel,dd⟩:=tZ I.Ut e;refine Δ0 Γ7 dd.typeIs PySem.F.entry_dict_get (PySem.F.args_dict_get_2 _ _) (meets_dict_get (bJ X.prog X.w) a (nP ry) hd) ⟨_,dd.mapOf,h _ _ (I.tok _) ?_⟩;rw[l];exact(rel.val k).getD rfl
 ·subst ey;cases (show u=Value.ref b from ry);obtain⟨z,hd,xs,rel,dd⟩:=uA I.Ut e;refine Δ0 Γ7 dd.typeIs PySem.F.entry_dict_get (PySem.F.args_dict_get_2 _ _) (meetsH_dict_get (tupleKind (bJ X.prog X.w)) a b hd) ⟨tupleKind_room_in1 hu,k,xs,qH I.Ut eb,dd,h _ _ (I.tok _) ?_⟩;rw[l];exact(rel.val k).getD rfl
def Nr(hu:A.units+1 < cLine)(I:Uo X Uk Z H s)(g:DGet H a y o)(ry:bP y u)(rd:bP d r)(h:∀ w' s',Uo X Uk Z H s'->bP (o.getD d) w'->Q w' s') : wpAny (model X.prog X.w) A (call (.builtin "dict.get") [.ref a,u,r]) Q E s:=by
 rcases g with⟨kvs,k,e,ey,l⟩|⟨kvs,k,b,e,ey,eb,l⟩
 ·subst ey;obtain⟨z,hd,vs,rel,dd⟩:=tZ I.Ut e;refine Δ0 Γ7 dd.typeIs PySem.F.entry_dict_get (PySem.F.args_dict_get_3 _ _ _) (meets_dict_get_default (bJ X.prog X.w) a (nP ry) hd r) ⟨_,dd.mapOf,h _ _ (I.tok _) ?_⟩;rw[l];exact(rel.val k).getD rd
 ·subst ey;cases (show u=Value.ref b from ry);obtain⟨z,hd,xs,rel,dd⟩:=uA I.Ut e;refine Δ0 Γ7 dd.typeIs PySem.F.entry_dict_get (PySem.F.args_dict_get_3 _ _ _) (meetsH_dict_get_default (tupleKind (bJ X.prog X.w)) a b hd r) ⟨tupleKind_room_in1 hu,k,xs,qH I.Ut eb,dd,h _ _ (I.tok _) ?_⟩;rw[l];exact(rel.val k).getD rd
end
section
variable{o e f:Expr}{apos Uv:Pos}{td ty tx:TE}
end
section
variable{kvs:List (Key×V)}{A:Around}{E:q0A}
end
section
variable{A:Around}{E:q0A}
end
end Lake
namespace Att
open PySem PySem.W PySem.Calls PyProof.Rows
mutual
example:=[.bool true,ns.map WData.int,true==true]
variable{h:Heap}{l:OpenLaw}
def sJ{P:Params}:∀(ns:List Int) (vs:List Value),WellAll P h vs 1e0->IntsAre vs ns:=by
 intro ns
 induction ns with
 | nil =>
  intro vs w;rw[List.map_nil] at w;cases w;exact .nil
 | cons n ns ih =>
  intro vs w;rw[ϔ] at w;cases w with
  | cons a b =>
   cases a;exact .cons _ _ (ih _ b)
theorem GC{n:Nat}(hn:l.most=some n){P:Params}{args:List WData}{vals:List Value}(XA:l.row.toRowW.claim.pre args=true)(hwl:WellAll P h vals args) : ∃ a vs ns,vals=[Value.ref a]/\args=[WData.list 1e0]/\h.get? a=some {cls:=.type "list",data:=.seq vs.toArray}/\IntsAre vs ns/\ns.length<=n:=by
 have hsh:WShape.hasAll [] args [.list .int]=true:=(pre_splitW XA).1;have hc:l.pre.holds [] {args:=args}=true:=(pre_splitW XA).2;obtain⟨d,r,rfl,h1,h2⟩:=hasAllW_cons hsh;obtain rfl:=hasAllW_nil h2;obtain⟨xs,rfl,h3⟩:=hasW_list h1;obtain⟨ns,rfl⟩:=items_int h3;have hlen:ns.length<=n:=by
  unfold OpenLaw.pre at hc;have h4:(WTm.not (.lt (.lit (.int (n:Int))) (.len (.arg 0)))).holds [] {args:=[.list (ns.map .int)]}=true:=by
   have h4:=(holds_andW hc).1;rw[hn] at h4;exact h4
  have h5:=condW_of h4 (w_not (w_lt w_lit (w_len_list (w_arg rfl))));rw[Γ] at h5;refine Nat.le_of_not_lt fun q=>?_;have q':(n:Int) < ((ns.length:Nat):Int):=by omega
  first
   | (rw[decide_eq_true q'] at h5;exact absurd h5 (by decide))
   | (simp at h5;omega)
 cases hwl with
 | cons w1 w2 =>
  cases w2;cases w1 with
  | list ho WS=>exact⟨_,_,ns,rfl,rfl,ho,sJ ns _ WS,hlen⟩
theorem Gu(l:OpenLaw)(args:List WData):l.row.toRowW.claim.post args 0e0 args=true :=
 postW_of (r:=l.row.toRowW) (X:=2e0)
  (show WShape.has [] 0e0 .bool=true by first|rfl|decide|simp[WShape.has,WShape.arms,WShape.armsAll])
  (show(WTm.eq .res (.lit 0e0)).value [] {args:=args,res:=some 0e0,after:=args}=some (.bool 2e0) from w_eq_bool (w_res rfl) w_lit) rfl
def AX{n:Nat}{q:Program}{loose:List Str}{XP:(q0C)->Heap->Prop}{YP:World->Heap->Prop}{d:DefRec}(hn:l.most=some n)(ZJ:d.params.defaults=[])(call:∀(w:World) (s₀ s₁:Shared) (mg mb:q0C) (fa:Addr) (o:Obj) (pm cd doc:Value) (a:Addr) (vs:List Value) (ns:List Int), Ground q loose [] XP w s₀ mg mb s₁.heap->YP w s₁.heap -> s₁.heap.get? fa=some o->o.data=.func (docDef d.name d.params d.body d.scope pm cd doc)->s₁.heap.CodeRec cd d.name->mg d.name=some (.ref fa) -> s₁.heap.get? a=some {cls:=.type "list",data:=.seq vs.toArray}->IntsAre vs ns->ns.length<=n->s₁.gens = #[] -> codeAny (model l.prog w) callerA (.call (.ref fa) ⟨[.ref a],[]⟩) (fun r s'=>r=.ok (.ret 0e0)/\OldK s₁.heap s'.heap/\s'.os=s₁.os/\AllBare s'.gens) s₁) : WalkO q loose XP YP l.row.toRowW d [] (fun f vs=>PySem.call f vs):=by
 intro w s₀ s₁ mg mb G Y fa o pm cd doc dV kV ho hd WU hD ZO hg args vals as XA abW hrd hwl hlo;obtain rfl:dV=.none:=Dflts.none hD ZJ;obtain rfl:kV=.none:=Dflts.noKw hD;obtain⟨a,vs,ns,rfl,rfl,Yx,hints,hlen⟩:=GC hn XA hwl;refine enter_call (codeAny_mono (call w s₀ s₁ mg mb fa o pm cd doc a vs ns G Y ho (fd_plain hd) WU ZO Yx hints hlen hg) fun r s' hq=>?_);obtain⟨rfl,h2,h3,h4⟩:=hq;exact⟨.inl ⟨.bool true,.bool true,[],rfl,fun _=>rfl,.bool true,Gu l _,fun _=>⟨List.Pairwise.nil,fun _ hm=>(nomatch hm)⟩⟩,h2,h3,h4⟩
end
section
mutual
example:=[]
variable{prog:Program}{w:World}{A:Around}{E:q0A}{s:Shared}{K:Frag}
def Ao(h:Heap):Heap:={h with objs:=#[]}
def oG(h:Heap)(b:Addr):(Ao h).get? b=none:=by
 cases e:(Ao h).get? b with
 | none=>rfl
 | some o=>exact absurd (Λ e) (Nat.not_lt_zero _)
def ledger(h:Heap)(L d:Addr):List (Addr×Obj):=(List.range h.objs.size).filterMap fun a=>if a=L\/a=d then none else (h.get? a).map fun o=>(a,o)
def kW{L d a:Addr}{o:Obj}:(a,o)∈ledger h L d↔a≠L/\a≠d/\h.get? a=some o:=by
 unfold ledger;rw[List.mem_filterMap];constructor
 ·rintro⟨b,_,e⟩;split at e
  ·cases e
  ·rename_i hb
   obtain⟨o',ho,e'⟩:=ϗ.mp e;cases e';exact⟨fun q=>hb (.inl q),fun q=>hb (.inr q),ho⟩
 ·rintro⟨n1,n2,ho⟩;refine⟨a,List.mem_range.mpr (Λ ho),?_⟩;rw[if_neg (show ¬ (a=L\/a=d) from fun q=>q.elim n1 n2),ho]<;>rfl
def mC{L d:Addr}{od:Obj}(U5:d≠L)(ho:h.get? d=some od):News (Ao h) L h ([]++(d,od)::ledger h L d):=by
 rintro⟨a,o⟩ hp;rcases Α.mp hp with e|hp
 ·cases e;exact⟨ho,U5,oG _ _⟩
 ·obtain⟨n1,n2,e⟩:=kW.mp hp;exact⟨e,n1,oG _ _⟩
def CV{L:Addr}{m:q0C}(n:h.Ns L m):Fr (Ao h) L h m :=
 ⟨n,fun b o e=>(by rw[oG] at e;cases e),Α2 _⟩
end
end
end Att
namespace Lake
open PySem PySem.Spec PyProof.Rows
mutual
example:=[ns.map V.int,Ab s₁.heap H,(by rw[q];simp),(by simp),(fun r s'=>r=.ok (.ret (.bool true))/\OldK s₁.heap s'.heap/\s'.os=s₁.os/\AllBare s'.gens),(.call (.ref fa) ⟨[.ref a],[]⟩),(fun v _=>v=.bl true),(fun _ _ _=>False),K w.params,model P w,if_neg hb]
variable{f:Addr}{fd:FuncData}{k:Nat}{st:Stmt}{x:Str}
theorem nH:∀ {vs:List Value} {ns:List Int},IntsAre vs ns->Uq 0e0 vs
 | _,_,.nil=>.nil
 | _,_,.cons n t h=>.cons ⟨t,rfl⟩ (nH h)
def Only(H:Hp):Prop:=∀ b,H b=none\/∃ o xs,H b=some (.UJ o (.lst xs))
def Ir{P:Program}{w:World}{K:q0B}{mg mb:q0C}{CX:CXT}{fa a:Addr}{sp:Sp}{s₁:Shared}{vs:List Value}{ns:List Int}(KX:K.In s₁.heap)(Wn:s₁.heap.Ns mainGlobals mg)(hb:s₁.heap.Ns builtinsNs mb)(hbb:∀ x:Str,x≠"__name__"->mb x=bootBuiltins x)(aaU:s₁.heap.NoLimit)(hg:s₁.gens = #[])(ha:s₁.heap.get? a=some {cls:=.type "list",data:=.seq vs.toArray})(hi:IntsAre vs ns)(hl:ns.length<=sizeLine)(hr:Room k callerA)(F:∀ base:Heap,K.In base->base.Ns mainGlobals mg->fG P w K mg base CX k fa fd [x] sp)(ZG:∀(s:Shared) (u:Value),BindsTo s fd ⟨[u],[]⟩ [(x,u)])(X1:∀ H:Hp,Only H->eY K H a 0e0->sp [.ref a] H 6e0 fun _ _ _=>False)(hCX:∀ H e s',CX [] H s₁ 7e0 e s'->False) : codeAny 9e0 callerA 5e0 4e0 s₁:=by
  have rv:=nH hi;have aa2:=hi.length;have core:∀ H:Hp,Only H->eY K H a 0e0->HOk P w H s₁.heap->(∀ b,H b≠none->b=a)->(H a≠none->K.lookup a=none) ->
      codeAny 9e0 callerA 5e0 4e0 s₁:=by
    intro H hO hS Ut hA hK;have V4:∀ {b:Addr} {o:Obj},s₁.heap.get? b=some o->H b=none->(Ab s₁.heap H).get? b=some o:=fun e n=>Ih e n;have Z6:∀ {b:Addr} {o:Obj} {es:Array DictEntry} {ep:Nat},s₁.heap.get? b=some o->o.data=.dict es ep->H b=none:=fun {b o es ep} e d=>by
      cases q:H b with
      | none=>rfl
      | some u =>
        have e':b=a:=hA b 2e0;subst e';rw[ha] at e;cases e;have d':Data.seq vs.toArray _=Data.dict es ep:=d;cases d'
    have nsK:∀ {b:Addr} {m:q0C},s₁.heap.Ns b m->(Ab s₁.heap H).Ns b m:=fun {b m} ⟨o,es,ep,e,d,r⟩=>⟨o,es,ep,V4 e (Z6 e d),d,r⟩;have hKb:K.In 1e0:=fun b o e=>V4 (KX b o e) (by
      cases q:H b with
      | none=>rfl
      | some u =>
        have e':b=a:=hA b 2e0;subst e';rw[hK 2e0] at e;cases e)
    have hM:Mod K mg 1e0:=⟨hKb,nsK Wn,⟨mb,nsK hb,hbb⟩,let ⟨mc,h1,h2⟩:=aaU;⟨mc,nsK h1,h2⟩⟩;have e0:Env0 P w K mg 1e0 callerA [] s₁ H:=⟨rfl,hM,fun b o e=>LB e,Nat.le_of_eq (Fv _ _),trivial,fun b hb=>absurd (show b∈([]:List Addr) from hb) 3e0,Ut,.of_eq hg⟩;refine codeAny_mono ((F _ hKb (nsK Wn)).run callerA [] s₁ H ⟨[.ref a],[]⟩ [.ref a] [.ref a] _ _ hr e0 (ZG s₁ (.ref a)) (.cons rfl .nil) (X1 H hO hS)) fun r s' h=>?_;cases r with
    | error e=>exact(hCX H e s' h).elim
    | ok fl =>
      cases fl with
      | next=>exact False.elim h
      | brk=>exact False.elim h
      | cont=>exact False.elim h
      | ret u =>
        obtain⟨v,H',os,bare,un,aaY,r',q⟩:=h;have q':v=.bl true:=q;subst q';obtain rfl:u=Value.bool true:=r';refine⟨rfl,OldK.of_keep fun b o e=>?_,os,bare⟩;cases q:H b with
        | none=>exact un.keep b o e q (by intro z;exact absurd (show b∈([]:List Addr) from z) 3e0) 3e0
        | some u =>
          rcases hO b with z|⟨ob,xs,z⟩
          · rw[q] at z;cases z
          · have z2:=un.uL b ob _ z;obtain⟨e1,_⟩:=Ut b _ z;obtain⟨e2,_⟩:=aaY b _ z2;rw[e] at e1;cases e1;exact e2
  cases hk:K.lookup a with
  | some o =>
    have e:=KX a o hk;rw[ha] at e;cases e;refine core (fun _=>none) (fun _=>.inl rfl) (.inr ⟨_,vs.toArray,_,hk,rfl,rfl,rfl,by rw[Η,aa2];exact hl,by simpa using rv⟩) (fun b u z=>by have z':(none:Option HO)=some u:=z;cases z') (fun b z=>absurd rfl z) fun z=>absurd rfl z
  | none =>
    refine core (fun b=>if b=a then some (.UJ {cls:=.type "list",data:=.seq vs.toArray} (.lst 0e0)) else none) (fun b=>?_) (.inl (.inr ⟨{cls:=.type "list",data:=.seq vs.toArray},if_pos rfl⟩)) (fun b u z=>?_) (fun b z=>?_) fun _=>hk
    · by_cases hb:b=a
      · exact .inr ⟨_,_,if_pos hb⟩
      · exact .inl 0e1
    · by_cases hb:b=a
      · have z':=(if_pos hb).symm.trans z;cases z';subst hb;exact⟨ha,by rw[Γ];exact hl,vs,_,rv,ha⟩
      · have z':=(if_neg hb).symm.trans z;cases z'
    · by_cases hb:b=a
      · exact hb
      · exact absurd 0e1 z
def Mh{l:PySem.W.OpenLaw}{n:Nat}{q:Program}{loose:List Str}{XP:(q0C)->Heap->Prop}{YP:World->Heap->Prop}{d:DefRec}{K:Params->q0B}{CX:World->CXT}{sp:World->Sp}(hn:l.most=some n)(XX:n<=sizeLine)(ZJ:d.params.defaults=[])(hr:Room k callerA)(hY:∀(w:World) (h:Heap),YP w h->(K w.params).In h)(F:∀(w:World) (mg:q0C) (fa:Addr) (h:Heap),(K w.params).In h->h.Ns mainGlobals mg->mg d.name=some (.ref fa) -> ∃ fd:FuncData,(∀(s:Shared) (u:Value),BindsTo s fd ⟨[u],[]⟩ [(x,u)]) /\ ∀ base:Heap,(K w.params).In base->base.Ns mainGlobals mg->fG l.prog w 8e0 mg base (CX w) k fa fd [x] (sp w))(X1:∀(w:World) (H:Hp) (a:Addr) (ns:List Int),ns.length<=n->Only H->eY 8e0 H a 0e0->sp w [.ref a] H 6e0 fun _ _ _=>False)(hCX:∀(w:World) (H:Hp) (s:Shared) (e:Value) (s':Shared),CX w [] H s 7e0 e s'->False) : PySem.W.WalkO q loose XP YP l.row.toRowW d [] (fun f vs=>PySem.call f vs):=by
 refine Att.AX hn ZJ fun w s₀ s₁ mg mb fa o pm cd doc a vs ns G Y ho hd WU ZO Yx hints hlen hg=>?_;have KX:=hY w _ Y;obtain⟨fd,hb,hF⟩:=F w mg fa _ KX G.T.g ZO;exact Ir KX G.T.g G.T.b G.T.builtins G.T.nolimit hg Yx hints (Χ hlen XX) hr hF hb (fun H hO hS=>X1 w H a ns hlen hO hS) fun H e s'=>hCX w H s₁ e s'
def bV(s:Stmt)(j:Nat):Stmt:=match s with
 | .ClassDef _ _ _ body _ _ _ _ _ _ _=>body.getD j (.Pass ⟨0,0,0,0⟩)
 | _=>.Pass ⟨0,0,0,0⟩
def iC(s:Stmt):Arguments:=match s with
 | .FunctionDef _ a _ _ _ _ _ _ _ _=>a
 | _=>{posonlyargs:=[],args:=[],vararg:=none,kwonlyargs:=[],kw_defaults:=[],kwarg:=none,defaults:=[]}
def gC(s:Stmt):List Stmt:=match s with
 | .FunctionDef _ _ b _ _ _ _ _ _ _=>b
 | _=>[]
def cY(s:Stmt):Scope:=match s with
 | .FunctionDef _ _ _ _ _ _ sc _ _ _=>sc
 | _=>{kind:=.function,names:=[],isGenerator:=false,isCoroutine:=false}
abbrev U7:CXT:=fun _ _ _ _ _ _=>False
abbrev E0:XK:=fun _ _ _=>False
def pass0{X:Cx}:Passes U7 X E0:=fun _ _ _ _ _ _ _ h=>h.elim
structure Fun(K:q0B)(x qual:Str)(st:Stmt)(f:Addr)(fd:FuncData):Prop where
 ex:∃(oc:Value) (od:Option Addr) (kV doc pm:Value) (an:Option Addr) (UI ct:Value) (WE:Array (Option Value)),
  fd=PySem.W.fnOf x qual (iC st) (gC st) (cY st) .none kV doc pm an UI ct/\K.lookup f=some ⟨oc,od,.func fd,WE⟩/\PySem.W.codeIn K UI qual=true
 kp:PySem.W.keepIn K (.ref f)=true
end
section
variable{P:Program}{w:World}{K:q0B}{mg:q0C}{base:Heap}
def Fun.ok{qual:Str}{N ps:List Str}{sp:Sp}(F:Fun K x qual st f fd)(S:mU N ps (cY st))(len:∀ vs H Q E,sp vs H Q E->vs.length=ps.length)(VH:∀(UI:Value) (A:Around) (outer:List Env) (s:Shared) (H:Hp) (vs:List V) (Q:VK) (E:XK),Room k (A.deeper (envOfC qual (cY st) s.heap.objs.size f UI))->sp vs H Q E -> ∃ t,Vv (zY U7 P w K mg base N qual (cY st) f UI A outer s H E).nox (gC st) t/\t {nx:=fun _ H'=>Q .Um H',rt:=Q} (start N vs) H):fG P w K mg base U7 (k+1) f fd ps sp:=by
 obtain⟨oc,od,kV,doc,pm,an,UI,ct,WE,rfl,lk,WU⟩:=F.ex;refine Rb lk WU S len fun A outer s H vs Q E hr X1=>?_;obtain⟨t,h,q⟩:=VH UI A outer s H vs Q E hr X1;exact⟨t,h.nox,q⟩
def Fun.binds{qual:Str}{ps:List Str}(F:Fun K x qual st f fd)(h:∀(kV doc pm:Value) (an:Option Addr) (UI ct:Value) (us:List Value),us.length=ps.length->bindArgs (PySem.W.fnOf x qual (iC st) (gC st) (cY st) .none kV doc pm an UI ct) ⟨us,[]⟩=pure (ps.zip us)):Binds K fd ps []:=by
 obtain⟨oc,od,kV,doc,pm,an,UI,ct,WE,rfl,lk,WU⟩:=F.ex;exact .all (h kV doc pm an UI ct)
def H8{qual:Str}{oc:Value}{od an:Option Addr}{WE:Array (Option Value)}{kV doc pm UI ct:Value}(l:K.lookup f=some ⟨oc,od,.func (PySem.W.fnOf x qual (iC st) (gC st) (cY st) .none kV doc pm an UI ct),WE⟩)(c:PySem.W.codeIn K UI qual=true)(k:PySem.W.keepIn K (.ref f)=true):Fun K x qual st f (PySem.W.fnOf x qual (iC st) (gC st) (cY st) .none kV doc pm an UI ct):=⟨⟨oc,od,kV,doc,pm,an,UI,ct,WE,rfl,l,c⟩,k⟩
end
theorem lF{A:Around}(hr:Room k A):A.units+1 < cLine:=Nat.lt_of_le_of_lt (Nat.add_le_add_left (by decide:1<=64) _) hr.units
theorem small1000{n:Nat}(h:n<=1000):n < sizeLine:=Nat.lt_of_le_of_lt h (by decide)
section
variable{X:Cx}
theorem pv(i:Nat){pos:Pos}(hN:X.N[i]?=some x:=by rfl)(hv:Vis X.env.scope x:=by first|exact Or.inl rfl|exact Or.inr (Or.inl rfl)|exact Or.inr (Or.inr rfl))(hd:(x==("__debug__":Str))=false:=by decide)(WU:(x==("__classdict__":Str))=false:=by decide):PE X (.Name x pos) (yA i):=k6 hN hv hd WU
end
def Same(H H':Hp):Prop:=∀ b o,H b=some o->H' b=some o
def Same.seq{K:q0B}{H H':Hp}{a:Addr}{xs:List V}(e:Same H H')(h:eY K H a xs):eY K H' a xs:=by
 rcases h with(h|⟨o,h⟩)|h
 ·exact .inl (.inl (e _ _ h))
 ·exact .inl (.inr ⟨o,e _ _ h⟩)
 ·exact .inr h
section
variable{X:Cx}
end
section
variable{κ:Type}[DecidableEq κ]
end
end Lake
set_option maxHeartbeats 4000000
namespace Lake
open PySem PySem.Spec PyProof.Rows
mutual
example:=[]
variable{a it l:Addr}{A:Around}{items:Array Value}{b r:Bool}{X:Cx}{tg:Expr}{h:Heap}{H:Hp}{g:Int->Int->V}{J:It}{Uk:List (Addr×Obj)}{kvs:List (Key×V)}{cl:List (Str×Addr)}{R:List (V×V)->Hp->Prop}{fp:List Addr}{es:List Expr}{ns:List Int}{fr:List Nat}{vs xs ys:List V}{k:List V->Prop}{i j m0 n:Nat}{tn:Nat->Heap->Prop}{Pv:Nat->List V->Hp->Prop}{W:Nat->Nat->List V->Hp->Prop}{o:Option HO}{O:Option Int->Hp->Prop}{Q:Option Value->Shared->Prop}{pos:Pos}{P:Program}{t:SetTable}{s:Shared}{Z:St}{N:St->Hp->Prop}{x y:Str}{T:String}{v:Value}{RR:Value->Addr->Result->Shared->Prop}{w:World}{E:q0A}{K:q0B}
theorem lW:bootBuiltins "int"=some (.type "int"):=by decide +kernel
theorem Ke:bootBuiltins "bool"=some (.type "bool"):=by decide +kernel
theorem zW:bootBuiltins "list"=some (.type "list"):=by decide +kernel
theorem Kf:bootBuiltins "dict"=some (.type "dict"):=by decide +kernel
theorem cL:bootBuiltins "tuple"=some (.type "tuple"):=by decide +kernel
theorem eZ:bootBuiltins "isinstance"=some (.builtin "isinstance"):=by decide +kernel
theorem oB:bootBuiltins "max"=some (.builtin "max"):=by decide +kernel
theorem zX:bootBuiltins "min"=some (.builtin "min"):=by decide +kernel
theorem iV:bootBuiltins "sorted"=some (.builtin "sorted"):=by decide +kernel
theorem eV:bootBuiltins "len"=some (.builtin "len"):=by decide +kernel
end
section
mutual
example:=[.ref a,(by omega)]
def PV(_ j:Int):Prop:=0 < j/\j.natAbs.log2 < 9000
theorem BO:jG X (binaryOp .FloorDiv) (rI PV fun i j=>.int (i / j)):=Sx fun i j _ _ _ _ _ hc q=>by
 have h1:(0:Int) < j:=hc.1;exact floordiv_int 1e0 (by rw[Int.fdiv_eq_ediv_of_nonneg i 1e0];exact q) (.inl (PyProof.noPylong_of_log2 hc.2))
theorem log2_lt{j:Int}(h0:0 < j)(h:j<=10 ^ 45):j.natAbs.log2 < 9000:=by
 have h1:j.natAbs<=10 ^ 45:=by omega
 have h2:j.natAbs < 2 ^ 150:=Nat.lt_of_le_of_lt h1 (by decide);have h3:j.natAbs.log2 < 150:=(Nat.log2_lt 1e0).mpr h2;omega
inductive E8(K:q0B)(H:Hp):V->String->Bool->Prop
 | ib (n:Int):E8 K H (.int n) "bool" false
 | it (n:Int):E8 K H (.int n) "tuple" false
 | sb (x:Str):E8 K H (.str x) "bool" false
 | st (x:Str):E8 K H (.str x) "tuple" false
 | nb:E8 K H .Um "bool" false
 | nt:E8 K H .Um "tuple" false
 | lb {a:Addr} {xs:List V}:eY K H a xs->E8 K H 0e0 "bool" false
 | lt {a:Addr} {xs:List V}:eY K H a xs->E8 K H 0e0 "tuple" false
 | tb {a:Addr} {xs:List V}:iJ K H a xs->E8 K H 0e0 "bool" false
 | tt {a:Addr} {xs:List V}:iJ K H a xs->E8 K H 0e0 "tuple" true
def Uo.sU(I:Uo X Uk Z H s)(h:eY X.K H a xs):∃ o,s.heap.get? a=some o/\o.cls=.type "list":=by
 obtain⟨Up,_,⟨o,n,e,c,_,_⟩,_⟩:=I.list h;exact⟨o,e,c⟩
def Uo.AQ(I:Uo X Uk Z H s)(h:iJ X.K H a xs):∃ o,s.heap.get? a=some o/\o.cls=.type "tuple":=by
 obtain⟨Up,_,⟨o,e,c,_⟩,_⟩:=I.tuple h;exact⟨o,e,c⟩
def Hs:fA X (.builtin "isinstance") (fun xs H Q=>∃ v T b,xs=[v,.ty T]/\E8 X.K H v T b/\Q (.bl b) H):=by
 intro Uk s Z H xs us Q I r h;obtain⟨v,T,b,rfl,hi,q⟩:=h;obtain⟨u,w',rfl,r1,r2⟩:=vals2 r;cases r2;have fin:EP X Uk Z Q (.bool b) s:=⟨.bl b,H,I,rfl,q⟩;have Vs:EP X Uk Z Q (.bool b) {s with toks:=s.toks+1}:=⟨.bl b,H,I.tok _,rfl,q⟩;cases hi with
 | ib n=>obtain⟨t,rfl⟩:=r1;exact IsiPair.int_bool Vs
 | it n=>obtain⟨t,rfl⟩:=r1;exact IsiPair.int_tuple Vs
 | sb x=>obtain⟨t,rfl⟩:=r1;exact IsiPair.str_bool Vs
 | st x=>obtain⟨t,rfl⟩:=r1;exact IsiPair.str_tuple Vs
 | nb=>cases r1;exact IsiPair.NoneType_bool Vs
 | nt=>cases r1;exact IsiPair.NoneType_tuple Vs
 | lb hl=>cases r1;obtain⟨o,e,c⟩:=Uo.sU I hl;exact IsiPair.list_bool e c Vs
 | lt hl=>cases r1;obtain⟨o,e,c⟩:=Uo.sU I hl;exact IsiPair.list_tuple e c Vs
 | tb hl=>cases r1;obtain⟨o,e,c⟩:=Uo.AQ I hl;exact IsiPair.tuple_bool e c Vs
 | tt hl=>cases r1;obtain⟨o,e,c⟩:=Uo.AQ I hl;exact IsiPair.tuple_tuple e c fin
end
end
noncomputable def l9:Expr->Bool
 | .Starred ..=>true
 | _=>false
def GG{e:Expr}{env:Env}(h:l9 e=false):starEach (e::es) env=(false,eval e env)::starEach es env:=by
 cases e<;>first|rfl|cases h
section
variable{e:Expr}{te:TE}{t:TA}
def c0(ha:PE X e te)(hr:PA X es t)(h:l9 e=false:=by rfl):PA X (e::es) (mS te t):=Es ha hr (GG h)
end
noncomputable abbrev vH(prog:Program)(w:World)(A:Around)(env:Env)(R:Result->Shared->Prop):Value->Shared->Prop:=notedBy (model prog w) A env fun e s'=>R (.error e) s'
noncomputable abbrev E4(ifs:List Expr)(env:Env):Sem Bool:=forIn ifs true fun c r=>if r=true then do let ok <- isTrue c env (eval c env);pure (ForInStep.yield ok) else pure (ForInStep.yield r)
section
variable{prog:Program}{R:Result->Shared->Prop}
def Be{elt target iter:Expr}{ifs:List Expr}{scope:Scope}{it acc:Value}{env:Env}(I:Nat->Shared->Prop)(turn:∀ n s,I n s->wpAny (model prog w) A (pyNext it) (fun r s₁=>match r with|none=>R (.ok .next) s₁|some v=>wpAny (model prog w) A (letOwnedTupleGo target it v) (fun _ s₁'=>wpAny (model prog w) A (assign target env v) (fun _ s₂ => wpAny (model prog w) A (E4 ifs env) (fun ok s₃ => if ok=true then wpAny (model prog w) A (eval elt env) (fun x s₄ => wpAny (model prog w) A (call (.builtin "list.append") [acc,x]) (fun _ s₅=>∃ m,m < n/\I m s₅) (vH prog w A env R) s₄) (vH prog w A env R) s₃ else ∃ m,m < n/\I m s₃) (vH prog w A env R) s₂) (vH prog w A env R) s₁') (vH prog w A env R) s₁) (vH prog w A env R) s)(n:Nat)(h:I n s):codeAny (model prog w) A (.compLoop (.ListComp elt [⟨target,iter,ifs,0⟩] scope pos) 0 it acc env) R s:=by
 refine codeAny_loop rfl I (fun n s hI=>?_) n h;show wpAny _ A ((compTurn (.ListComp elt [⟨target,iter,ifs,0⟩] scope pos) 0 it acc env).onRaise (fun x=>do noteFrame x env;theTreesLotGoes x)) _ _ s;refine wpAny_noted ?_;rw[compTurn_list];refine Β (wpAny_standAt (Β (Β6 (turn n s hI) (fun r s₁ h₁=>?_) fun _ _ h'=>h')));cases r with
 | none=>exact Ι h₁
 | some v =>
  refine Β (Β6 h₁ (fun _ s₁' h₁'=>?_) fun _ _ h'=>h');refine Β (Β6 h₁' (fun _ s₂ h₂=>Β (Β6 h₂ (fun ok s₃ h₃=>?_) fun _ _ h'=>h')) fun _ _ h'=>h');cases ok with
  | false=>exact Ι ⟨rfl,h₃⟩
  | true =>
   exact Β (Β (Β6 h₃ (fun x s₄ h₄=>Β (Β6 h₄ (fun _ s₅ h₅=>Ι (Ι ⟨rfl,h₅⟩)) fun _ _ h'=>h')) fun _ _ h'=>h'))
end
noncomputable def dA(X:Cx)(sc:Scope)(cl:List (Str×Addr))(C:Addr)(N:List Str)(s:Shared)(H:Hp)(ex:List Addr)(pn:List (Addr×Obj)):Cx :=
 {X with env:=compEnvC sc cl C X.env,N:=N,s₀:=s,H₀:=H,outer:=X.stack,ex:=ex,fn:=fun _=>false,pn:=pn}
structure eD(X:Cx)(sc:Scope)(cl:List (Str×Addr))(x:Str)(fr:List Nat)(N:List Str):Prop where
 kind:sc.kind=.function
 vG:∀ y∈sc.names,y.2≠.cell
 names:∀ y∈sc.names,y.2=.local->sc.names.lookup y.1=some .local
 Bc:closureFor sc X.env=pure cl
 sub:∀ y c,cl.lookup y=some c->X.env.cells.lookup y=some c
 has:∀ y,((relabel sc X.env).names.lookup y=some .cell\/(relabel sc X.env).names.lookup y=some .free)->∃ c,cl.lookup y=some c
 XG:sc.names.lookup x=some .local
 nd:N.Nodup
 N0:N=x::fr.map fun j=>X.N.getD j x
 Xv:∀ j∈fr,∃ y,X.N[j]?=some y/\X.env.kindOf y=some .cell/\((relabel sc X.env).names.lookup y=some .cell\/(relabel sc X.env).names.lookup y=some .free)
def bA(fr:List Nat)(Z:St):St:=fr.map fun j=>(Z[j]?).join
section
mutual
example:=[S.sub y c e,some v,X.pn++Uk,dA X sc cl C N s H fp 2e0,Ω (Λ e) hC,I.rG b hm]
variable{sc:Scope}{C:Addr}{N:List Str}
def Kl(I:Uo X Uk Z H s)(S:eD X sc cl x fr N)(hf:∀ b∈fp,lQ X Uk H b)(VT:∀ b∈fp,b < s.heap.objs.size)(hC:s.heap.objs.size<=C) : (dA X sc cl C N s H fp 2e0).Ok where
 mod:=I.ok.mod
 kind:=S.kind
 glob:=I.ok.glob
 blt:=I.ok.blt
 above:=hC
 inj:=fun y z c h1 h2=>I.ok.inj y z c (S.sub y c h1) (S.sub z c h2)
 has:=S.has
 cab:=fun _ _ h=>by cases h
 hd:=I.ok.hd
 frames:=I.ok.frames
 stk:=.inl rfl
 exf:=fun b hb=>⟨Υ (Ω (VT b hb) hC),fun y c e=>(hf b hb).2.2.2.2.1 y c 0e0⟩
 bs:=I.bs
 bsz:=Χ I.ok.bsz I.sz
 BF:=fun b o e hb=>by
  rcases(hf b hb).2.2.2.1 with z|z
  ·exact I.ok.BF b o e z
  ·exact absurd (Ω (Λ e) (Χ I.ok.bsz z)) (Α0 _)
 Fp:=fun b hb hm=>by
  rcases Α.mp 5e0 with z|z
  ·exact(hf b hb).2.1 z
  ·exact(hf b hb).2.2.1 z
 oT:=I.stack
 frf:=I.AL
def nostk(I:Uo X Uk Z H s){b:Addr}(h1:b≠X.env.locals)(h2:b∉X.fs):b∉frs X.stack:=fun hm=>by
 rcases Α.mp 5e0 with z|z
 ·exact h1 z
 ·exact h2 z
def Hw(I:Uo X Uk Z H s)(S:eD X sc cl x fr N)(hf:∀ b∈fp,lQ X Uk H b)(VT:∀ b∈fp,b < s.heap.objs.size)(hC:s.heap.objs.size<=C){h1:Heap}{t1:Nat}{m0:q0C}(hn:h1.Ns C m0)(hk:∀ b o,s.heap.get? b=some o->h1.get? b=some o):Uo 3e0 [] (none::bA fr Z) H {s with heap:=h1,toks:=t1}:=by
 refine⟨Kl I S hf VT hC,rfl,I.bare,Un.kept hk,⟨m0,hn,fun i y v e1 e2 e3=>?_⟩,fun y c e=>?_,I.Ut.fresh hC,fun y c e=>I.j6 y c 0e0,fun p hp=>?_,I.Ut.kept hk,?_⟩
 ·have Vq:N[i]?=some y:=e1;rw[S.N0] at Vq;cases i with
  | zero =>
   have z:(some (none:Option V))=some 1e0:=e2;cases z
  | succ j =>
   have Va:(fr.map fun j=>X.N.getD j x)[j]?=some y:=Vq;have Wg:(bA fr Z)[j]?=some 1e0:=e2;unfold bA at Wg;rw[Ψ] at Va Wg;cases q:fr[j]? with
   | none=>rw[q] at Va;cases Va
   | some k =>
    rw[q] at Va Wg;have ey:X.N.getD k x=y:=ϖ Va;have ev:(Z[k]?).join=some v:=ϖ Wg;obtain⟨y',hy,Vc,Xb⟩:=S.Xv k (ϓ q);have eyy:y=y':=by
     rw[<- ey,Ε8,hy];rfl
    subst eyy;have ev':Z[k]?=some 1e0:=by
     cases z:Z[k]? with
     | none=>rw[z] at ev;cases ev
     | some o =>
      rw[z] at ev;have ev2:o=some v:=ev;rw[ev2]
    obtain⟨m,_,hl⟩:=I.loc;obtain⟨u,r,l⟩:=hl k y v hy ev' (.inr (.inl Vc));refine⟨u,r,.inr ⟨Xb,?_⟩⟩;rcases l with⟨z,_⟩|⟨_,c,hc,o,ho,hd⟩
    ·rw[Vc] at z;cases z
    ·obtain⟨c',WT⟩:=S.has y Xb;have z:=S.sub y c' WT;rw[hc] at z;cases z;exact⟨c,WT,o,hk c o ho,hd⟩
 ·obtain⟨v,o,ho,hd⟩:=I.cell y c 0e0;exact⟨v,o,hk c o ho,hd⟩
 ·have ZQ:p∈X.pn++Uk:=by
   have z:p∈2e0++[]:=hp;simpa using z
  obtain⟨e,n,ne,nf,d⟩:=I.pin p ZQ;exact⟨hk _ _ e,n,Υ 4e0,nostk I ne nf,d⟩
 ·show(none::bA fr Z).length=N.length;rw[S.N0];simp[bA]
def Hv(I:Uo X Uk Z H s)(hf:∀ b∈fp,lQ X Uk H b){D:Addr}{pl:List (Addr×Obj)}{Z':St}{H':Hp}{s':Shared}(J:Uo 3e0 pl Z' H' s')(hC:s.heap.objs.size<=C)(hD:s.heap.objs.size<=D)(Yo:D≠C)(Wz:H' D=none){vals:List Value}{k:Nat}(hg:s'.heap.get? D=some {cls:=.type "list",data:=.seq vals.toArray k})(rv:Uq xs vals)(hz:xs.length<=sizeLine){h':Heap}(hs:Heap.SameBut C s'.heap h'):Uo X Uk Z (Ul H' D (.lst xs)) {s' with heap:=h'}:=by
 have lt:∀ {b:Addr} {o:Obj},s.heap.get? b=some o->b < s.heap.objs.size:=fun e=>Λ e;have X9:∀ {b:Addr} {o:Obj},s.heap.get? b=some o->b≠C:=fun e=>Υ 4e0;have neD:∀ {b:Addr} {o:Obj},s.heap.get? b=some o->b≠D:=fun e=>Υ (Ω (Λ e) hD);have YI:∀ {b:Addr} {o:HO},H b=some o->b≠D:=fun e=>Υ (Ω (I.Ut.lt e) hD);have base:Un (frs X.stack) fp H H' s.heap s'.heap:=J.base;have HC:H' C=none:=J.free;refine I.Qe (s':={s' with heap:=h'}) (ch:=fp) J.os ⟨fun b o e n hb hx=>?_,fun b o e n hb hx=>?_,fun b o e n hx=>?_,fun b o e hx=>?_,fun b ys e=>?_,fun b o u e=>?_,fun b ps e=>?_⟩ (fun b u e=>?_) J.bare (fun b hb=>?_)
 ·exact(hs.2 b (X9 e)).trans (base.keep b o e n hb hx)
 ·obtain⟨sl,q⟩:=base.slot b o e n hb hx;exact⟨sl,(hs.2 b (X9 e)).trans q⟩
 ·rw[aE (neD e)];exact base.free b o e n hx
 ·obtain⟨o',q⟩:=base.there b o e hx;exact⟨o',(hs.2 b (X9 e)).trans q⟩
 ·rw[aE (YI e)];exact base.yC b ys e
 ·rw[aE (YI e)];exact base.uL b o u e
 ·rw[aE (YI e)];exact base.yB b ps e
 ·by_cases hb:b=D
  ·subst hb;rw[aA] at e;cases e;exact⟨hz,vals,k,rv,(hs.2 b Yo).trans hg⟩
  ·rw[aE hb] at e;have tC:∀ {c:Addr} {o:HO},H' c=some o->c≠C:=fun q z=>by rw[z,HC] at q;cases q
   have tD:∀ {c:Addr} {o:HO},H' c=some o->c≠D:=fun q z=>by rw[z,Wz] at q;cases q
   refine(J.Ut b u e).sO (fun c v hc q=>(hs.2 c ?_).trans q) (fun c q=>by rw[aE (tD q)];exact q) fun c ys q=>by rw[aE (tD q)];exact q
   rcases hc with z|z
   ·rw[z];exact tC e
   ·exact tC z
 ·obtain⟨_,f1,_,f3,f4,f5⟩:=hf b hb;exact⟨f3,f1,f4,f5⟩
end
end
mutual
example:=[some y::bA fr Z]
def Xs(Y:Cx)(ifs:List Expr)(t:TT):Prop :=
 ∀(Uk:List (Addr×Obj)) (s:Shared) (Z:St) (H:Hp) (Q:Bool->Hp->Prop),Uo Y Uk Z H s->t Z H Q->wpAny (model Y.prog Y.w) Y.A (E4 ifs Y.env) (TP Y Uk Z Q) Y.xe s
def MS:TT:=fun _ H Q=>Q true H
def Az{Y:Cx}:Xs Y [] MS:=fun _ _ _ H _ I h=>wpAny_tests_nil ⟨H,I,h⟩
def iF{Y:Cx}{c:Expr}{t:TT}(h:PT Y c t):Xs Y [c] t:=fun Uk s Z H Q I hw=>wpAny_tests_one (h Uk s Z H Q I hw)
@[irreducible] def kK(wi:TI)(fr:List Nat)(tc:TT)(te:TE):TE:=fun Z H Q=>wi Z H fun J H1=>∃ W:Nat->Nat->List V->Hp->Prop,(∃ m,W 0 m [] H1)/\∀ i m xs H,W i m xs H->xs.length<=1000000 /\
  ((J.stop i H/\∀ p,H p=none->Q (.ref p) (Ul H p (.lst xs))) \/
   (J.go i H/\∀ y H',J.V3 i H y H'->tc 0e0 H' fun b H2=>if b=true then te 0e0 H2 (fun z H3=>∃ m',m' < m/\W (i+1) m' (xs++[z]) H3) else ∃ m',m' < m/\W (i+1) m' xs H2))
end
section
variable{sc:Scope}{N:List Str}{elt iter:Expr}{px:Pos}{ifs:List Expr}{wi:TI}{tc:TT}{te:TE}
theorem rK{g:TG}{τ0:St}{O:St->Prop}(hc:X.calm=true)(hx:∀ e s,¬ X.xe e s)(NC:∀ y∈sc.names,y.2≠.cell)(KD:sc.kind=.function)(SB:∀ y c,cl.lookup y=some c->X.env.cells.lookup y=some c)(hpg:∀ C s H ex pn,PG (dA X sc cl C N s H ex pn) tg g)(hb:∀ C s H ex pn,Xs (dA X sc cl C N s H ex pn) ifs tc/\PE (dA X sc cl C N s H ex pn) elt te){Q:VK}(I:Uo X Uk Z H s)(T:Turn X.prog X.w X.K tg J fp it tn)(st:tn 0 s.heap)(hf:∀ b∈fp,lQ X Uk H b)(aa0:∀(C:Addr) (h1:Heap) (t1:Nat) (m0:q0C),(∀ b∈fp,b < s.heap.objs.size)->s.heap.objs.size<=C->h1.Ns C m0->(∀ b o,s.heap.get? b=some o->h1.get? b=some o)->Uo (dA X sc cl C N s H fp (X.pn++Uk)) [] τ0 H {s with heap:=h1,toks:=t1})(ok0:O τ0)(w0:W 0 m0 [] H)(turn:∀ i m xs H,W i m xs H->xs.length<=1000000 /\ ((J.stop i H/\∀ p,H p=none->Q (.ref p) (Ul H p (.lst xs))) \/ (J.go i H/\∀ y H',J.V3 i H y H'->∀ σ1,O σ1->g y σ1 H' fun σ2 H1=>O σ2/\tc σ2 H1 fun b H2=>if b=true then te σ2 H2 (fun z H3=>∃ m',m' < m/\W (i+1) m' (xs++[z]) H3) else ∃ m',m' < m/\W (i+1) m' xs H2)))(fin:∀(D C:Addr) (s':Shared) (m':q0C) (H':Hp),s'.heap.Ns C m'->lQ X Uk H' C->(∀ h',Heap.SameBut C s'.heap h'->Uo X Uk Z H' {s' with heap:=h'})->Q (.ref D) H'->RR (.ref D) C (.ok .next) s') : wpAny (model X.prog X.w) X.A (newList []) (fun acc s₃=>wpAny (model X.prog X.w) X.A (newFunctionEnv sc X.env.globals cl [] X.env.qual none .none (some X.env)) (fun VA s₄ => codeAny (model X.prog X.w) X.A (.compStart (.ListComp elt [⟨tg,iter,ifs,0⟩] sc pos) 0 (.ref it) acc {VA with scope:=relabel sc X.env}) (RR acc VA.locals) s₄) E s₃) E s:=by
  refine Β8 (wpAny_newFunctionEnv NC (by intro y hy;simp at hy) (fun h₁ Yw XB=>?_) KD);dsimp only at Yw XB ⊢;generalize hH2:s.heap.push {cls:=.type "list",dict:=none,data:=.seq ([]:List Value).toArray}=G2 at Yw XB ⊢;have hCs:G2.objs.size=s.heap.objs.size+1:=by rw[<- hH2,Heap.size_push]
  have Yo:s.heap.objs.size≠G2.objs.size:=by rw[hCs];exact Υ (Nat.lt_succ_self _)
  have hC:s.heap.objs.size<=G2.objs.size:=by rw[hCs];exact Ε3 _
  have below:∀ b,b < s.heap.objs.size->b≠G2.objs.size:=fun b hb=>by rw[hCs];exact Υ (Nat.lt_succ_of_lt hb)
  have old:∀ b o,s.heap.get? b=some o->h₁.get? b=some o:=fun b o e=>XB.extBut b o (below b (Λ e)) (Ε _ (hH2▸Ε _ e));have hD1:h₁.get? s.heap.objs.size=some {cls:=.type "list",data:=.seq ([]:List Value).toArray 0}:=XB.extBut _ _ Yo (Ε _ (hH2▸Ρ _ rfl));have VT:∀ b∈fp,b < s.heap.objs.size:=fun b hbm=>by
    obtain⟨o,e,_⟩:=T.obj 0 s.heap st b hbm;exact Λ e
  have Wz:H s.heap.objs.size=none:=I.Ut.fresh (Θ _);have aaK:s.heap.objs.size∉frs X.stack:=fun hm=>by
    rcases Α.mp (I.rG _ hm) with z|z
    · exact absurd I.lt (by rw[<- z];exact Α0 _)
    · exact I.RB (Θ _) z
  have Zf:∀ y c,cl.lookup y=some c->c≠s.heap.objs.size:=fun y c e z=>by
    obtain⟨v,q⟩:=I.cell y c (SB y c e);exact absurd q.lt (by rw[z];exact Α0 _)
  have aaJ:∀ p∈X.pn++Uk,p.1≠s.heap.objs.size:=fun p hp z=>absurd (Λ (I.pin p hp).1) (by rw[z];exact Α0 _);have Dfp:s.heap.objs.size∉fp:=fun hm=>Α0 _ (VT _ hm);have loop:∀ s₃:Shared,s₃={s with heap:=h₁,toks:=s.toks+([]:List (Str×Value)).length} ->
      codeAny (model X.prog X.w) X.A (.compLoop (.ListComp elt [⟨tg,iter,ifs,0⟩] sc pos) 0 (.ref it) (.ref s.heap.objs.size) (compEnvC sc cl G2.objs.size X.env)) (RR (.ref s.heap.objs.size) G2.objs.size) s₃:=by
    rintro s₃ rfl;have I0:=aa0 G2.objs.size h₁ (s.toks+([]:List (Str×Value)).length) _ VT hC Yw old;refine Be (fun n s'=>∃(i:Nat) (xs:List V) (vals:List Value) (k:Nat) (v0:St) (H':Hp),Uo (dA X sc cl G2.objs.size N s H fp (X.pn++Uk)) [] v0 H' s'/\O v0/\tn i s'.heap/\(∀ b∈fp,H' b=none) /\
      s'.heap.get? s.heap.objs.size=some {cls:=.type "list",data:=.seq vals.toArray k}/\Uq xs vals/\H' s.heap.objs.size=none/\W i n xs H') ?_ m0
      ⟨0,[],[],0,τ0,H,I0,ok0,T.keep _ _ _ st fun b _ o e=>old b o e,fun b hb=>(hf b hb).1,hD1,.nil,Wz,w0⟩
    rintro n s1 ⟨i,xs,vals,k,v0,H1,I1,ok1,st1,fr1,hg1,rv1,aaN,w1⟩;have hlen:=rv1.length;obtain⟨hz,step⟩:=turn i n xs H1 w1;have hz2:xs.length<=sizeLine:=Χ hz (by decide);have VZ:∀ {H':Hp} {pl:List (Addr×Obj)},(∀ b∈fp,H' b=none)->(∀ p∈pl,p.1=s.heap.objs.size)->∀ b∈fp,lQ (dA X sc cl G2.objs.size N s H fp (X.pn++Uk)) pl H' b:=fun {H' pl} hn UU b hb =>
      ⟨hn b hb,below b (VT b hb),nostk I (hf b hb).2.1 (hf b hb).2.2.1,.inl hb,fun y c e=>(hf b hb).2.2.2.2.1 y c (SB y c e),fun p hp z=>by
        rcases Κ.mp hp with q|q
        · exact(hf b hb).2.2.2.2.2 p q z
        · exact Dfp (by rw[<- UU p q,z];exact hb)⟩
    have I1':Uo (dA X sc cl G2.objs.size N s H fp (X.pn++Uk)) [(s.heap.objs.size,{cls:=.type "list",data:=.seq vals.toArray k})] v0 H1 s1:=I1.pI fun p hp=>by
      have e:p=(s.heap.objs.size,{cls:=.type "list",data:=.seq vals.toArray k}):=by simpa using hp
      subst e;exact⟨hg1,aaN,Yo,aaK,fun v z=>by cases z⟩
    rcases step with⟨stop,hq⟩|⟨go,step⟩
    · refine thn (T.done (dA X sc cl G2.objs.size N s H fp (X.pn++Uk)) rfl rfl rfl hc i [(s.heap.objs.size,{cls:=.type "list",data:=.seq vals.toArray k})] s1 _ H1 _ I1' (VZ fr1 fun p hp=>by
        have e:p=(s.heap.objs.size,{cls:=.type "list",data:=.seq vals.toArray k}):=by simpa using hp
        rw[e]) st1 stop) fun r s2 ⟨hr,I2⟩=>?_
      subst hr;obtain⟨g2,n2,_⟩:=I2.pin (s.heap.objs.size,{cls:=.type "list",data:=.seq vals.toArray k}) (Ϛ _ (by simp));obtain⟨m2,XX,_⟩:=I2.loc;have hCn:Ul H1 s.heap.objs.size (.lst xs) G2.objs.size=none:=by
        rw[aE (Ne.symm Yo)];exact I2.free
      exact fin s.heap.objs.size G2.objs.size s2 m2 _ XX (I.HY hC hCn) (fun h' WD=>Hv I hf I2 hC (Θ _) Yo n2 g2 rv1 hz2 WD) (hq _ n2)
    · refine thn (T.item (dA X sc cl G2.objs.size N s H fp (X.pn++Uk)) rfl rfl rfl hc i [(s.heap.objs.size,{cls:=.type "list",data:=.seq vals.toArray k})] s1 _ H1 _ I1' (VZ fr1 fun p hp=>by
        have e:p=(s.heap.objs.size,{cls:=.type "list",data:=.seq vals.toArray k}):=by simpa using hp
        rw[e]) st1 go) fun r s2 ⟨u,hr,h2⟩=>?_
      subst hr;refine thn h2 fun _ s3 ⟨y,H3,I3,r3,y3,Zb,Yn⟩=>?_;have I3':=I3.pinned (VZ Yn fun p hp=>by
        have e:p=(s.heap.objs.size,{cls:=.type "list",data:=.seq vals.toArray k}):=by simpa using hp
        rw[e]) (T.obj _ _ Zb)
      have back:∀ {σ9:St} {H9:Hp} {s9:Shared},Uo (dA X sc cl G2.objs.size N s H fp (X.pn++Uk)) ([(s.heap.objs.size,{cls:=.type "list",data:=.seq vals.toArray k})]++wB fp s3.heap) σ9 H9 s9 ->
          tn (i+1) s9.heap/\(∀ b∈fp,H9 b=none)/\s9.heap.get? s.heap.objs.size=some {cls:=.type "list",data:=.seq vals.toArray k}/\H9 s.heap.objs.size=none:=fun {σ9 H9 s9} I9=>by
        refine⟨T.keep _ _ _ Zb fun b hb o e=>(I9.pin (b,o) (Ϛ _ (Ϛ _ (kY hb e)))).1,fun b hb=>?_,?_⟩
        · obtain⟨o,e,d⟩:=T.obj _ _ Zb b hb;exact(I9.pin (b,o) (Ϛ _ (Ϛ _ (kY hb e)))).2.1
        · obtain⟨a1,a2,_⟩:=I9.pin (s.heap.objs.size,{cls:=.type "list",data:=.seq vals.toArray k}) (Ϛ _ (Ε9 _ (by simp)));exact⟨a1,a2⟩
      have noX:∀ e s',(dA X sc cl G2.objs.size N s H fp (X.pn++Uk)).xe e s'->vH X.prog X.w X.A (compEnvC sc cl G2.objs.size X.env) (RR (.ref s.heap.objs.size) G2.objs.size) e s':=fun e s' z=>(hx e s' z).elim;refine Β6 (hpg _ _ _ _ _ _ s3 _ H3 y u _ I3' r3 (step y H3 y3 v0 ok1)) (fun _ s4 ⟨σ4,H4,I4,ok4,hstep⟩=>?_) noX;obtain⟨hbT,hbE⟩:=hb G2.objs.size s H fp (X.pn++Uk);refine Β6 (hbT _ s4 _ H4 _ I4 hstep) (fun ok s5 ⟨H5,I5,q5⟩=>?_) noX;cases ok with
      | false =>
        rw[if_neg ϒ];have q5':∃ m',m' < n/\W (i+1) m' xs H5:=q5;obtain⟨m',hm,w5⟩:=q5';obtain⟨b1,b2,b3,b4⟩:=back I5;exact⟨m',hm,i+1,xs,vals,k,σ4,H5,I5.pI (fun p hp=>absurd hp (by simp)),ok4,b1,b2,b3,rv1,b4,w5⟩
      | true =>
        rw[if_pos rfl];refine Β6 (hbE _ s5 _ H5 _ I5 q5) (fun z s6 ⟨v6,H6,I6,r6,q6⟩=>?_) noX;obtain⟨m',hm,w6⟩:=q6;obtain⟨b1,b2,b3,b4⟩:=back I6;refine call_meets F.slot_list_append ⟨_,b3,rfl⟩ F.entry_list_append (F.args_list_append_2 _ _) (PySem.list_append s.heap.objs.size vals.toArray k z (by rw[Η];omega)) ⟨b3,?_⟩;have q7:=PySem.IsL.update b3 (fun a:Array Value=>a.push z);have ZR:vals.toArray.push z=(vals++[z]).toArray:=by simp
        rw[ZR] at q7;have I6':Uo (dA X sc cl G2.objs.size N s H fp (X.pn++Uk)) [] σ4 H6 s6:=I6.pI (fun p hp=>absurd hp (by simp));have others:∀ b o,b≠s.heap.objs.size->s6.heap.get? b=some o->(s6.heap.update s.heap.objs.size (Obj.mapSeq fun a=>a.push z)).get? b=some o:=fun b o UT e=>(Heap.get?_update_other _ _ (Ne.symm UT)).trans e;refine⟨m',hm,i+1,xs++[v6],vals++[z],_,σ4,H6,I6'.turned (it:=s.heap.objs.size) others b4 Yo (.inr (Θ _)) Zf (fun p hp z'=>?_),ok4,T.keep _ _ _ b1 fun b UT o e=>others b o (fun z'=>Dfp (by rw[<- z'];exact UT)) e,b2,q7,rv1.append (.cons r6 .nil),b4,w6⟩;have ZQ:p∈X.pn++Uk:=by
          have z2:p∈(X.pn++Uk)++[]:=hp;simpa using z2
        exact aaJ p ZQ z'
  exact codeAny_compStart_list (loop _ rfl) (T.self _ _ _ _ _ (T.keep _ _ _ st fun b _ o e=>old b o e) (loop _ rfl))
def tY(hc:X.calm=true)(hx:∀ e s,¬ X.xe e s)(S:eD X sc cl x fr N)(hb:∀ C s H ex pn,Xs (dA X sc cl C N s H ex pn) ifs tc/\PE (dA X sc cl C N s H ex pn) elt te){Q:VK}(I:Uo X Uk Z H s)(T:Turn X.prog X.w X.K (.Name x px) J fp it tn)(st:tn 0 s.heap)(hf:∀ b∈fp,lQ X Uk H b)(w0:W 0 m0 [] H)(turn:∀ i m xs H,W i m xs H->xs.length<=1000000 /\ ((J.stop i H/\∀ p,H p=none->Q (.ref p) (Ul H p (.lst xs))) \/ (J.go i H/\∀ y H',J.V3 i H y H'->tc (some y::bA fr Z) H' fun b H2=>if b=true then te (some y::bA fr Z) H2 (fun z H3=>∃ m',m' < m/\W (i+1) m' (xs++[z]) H3) else ∃ m',m' < m/\W (i+1) m' xs H2)))(fin:∀(D C:Addr) (s':Shared) (m':q0C) (H':Hp),s'.heap.Ns C m'->lQ X Uk H' C->(∀ h',Heap.SameBut C s'.heap h'->Uo X Uk Z H' {s' with heap:=h'})->Q (.ref D) H'->RR (.ref D) C (.ok .next) s') : wpAny (model X.prog X.w) X.A (newList []) (fun acc s₃=>wpAny (model X.prog X.w) X.A (newFunctionEnv sc X.env.globals cl [] X.env.qual none .none (some X.env)) (fun VA s₄ => codeAny (model X.prog X.w) X.A (.compStart (.ListComp elt [⟨.Name x px,iter,ifs,0⟩] sc pos) 0 (.ref it) acc {VA with scope:=relabel sc X.env}) (RR acc VA.locals) s₄) E s₃) E s :=
 rK (τ0:=none::bA fr Z) (O:=fun σ1=>∃ v0,σ1=v0::bA fr Z) (g:=jJ 0) hc hx S.vG S.kind S.sub (fun C s H ex pn=>tJ (i:=0) S.nd (show N[0]?=some x by rw[S.N0];rfl) (.inl (Δ7 S.XG)) (.inr (Δ7 S.XG))) hb I T st hf
  (fun C h1 t1 m0 VT hC hn hk=>Hw I S hf VT hC hn hk) ⟨_,rfl⟩ w0
  (fun i m xs H w=>let ⟨l,z⟩:=turn i m xs H w;⟨l,z.imp id fun⟨g,h⟩=>⟨g,fun y H' hy σ1 ⟨v0,e⟩=>by subst e;exact⟨⟨_,rfl⟩,h y H' hy⟩⟩⟩) fin
def k5(hc:X.calm=true)(hx:∀ e s,¬ X.xe e s)(S:eD X sc cl x fr N)(hi:PI X (.Name x px) iter wi)(hb:∀ C s H ex pn,Xs (dA X sc cl C N s H ex pn) ifs tc/\PE (dA X sc cl C N s H ex pn) elt te)(hs:∀ v,foldedSetIterable iter X.env v=pure v:=by intro _;rfl):PE X (.ListComp elt [⟨.Name x px,iter,ifs,0⟩] sc pos) (kK wi fr tc te):=by
 intro Uk s Z H Q I h;unfold kK at h;rw[eval_ListComp];refine wpAny_comprehension_free (use:=none) rfl hs S.Bc S.kind S.names ?_;refine thn (hi Uk s Z H _ I h) fun v s1 h1=>thn h1 fun Z0 s2 h2=>?_;obtain⟨it,fp,tn,J,H2,e,I2,T,VY,f2,W,⟨m0,w0⟩,turn⟩:=h2;subst e;refine tY (RR:=fun acc C=>compPost (model X.prog X.w) X.A X.xe none (EP X Uk Z Q) acc C) hc hx S hb I2 T VY f2 w0 turn ?_;intro D C s' m' H' hn _ WW q;exact⟨m',hn,fun h' WD=>⟨.ref D,H',WW h' WD,rfl,q⟩⟩
end
section
def PK:J9 X (fun x lo hi H Q=>∃ z,x=.str z/\z.length<=sizeLine/\Q (.str (Txt.slice z lo hi)) H):=by
 intro Uk s Z H x v vl vu lo hi sl Q I rx hs pl pu h;obtain⟨z,rfl,hz,q⟩:=h;obtain⟨t,rfl⟩:=rx;have fin:∀ t' k,EP X Uk Z Q (.str (Txt.slice z lo hi) t') {s with toks:=k}:=fun t' k=>⟨.str _,H,I.tok _,⟨_,rfl⟩,q⟩;refine⟨"str",_,F.slot_str_getitem.lookup,typeIs_str s z t,?_⟩;cases pl with
 | none =>
  cases pu with
  | none=>exact wpAny_getItem_str_slice (l:=none) (u:=none) (st:=none) hs rfl (post_val_or_str ⟨Χ (Txt.slice_le z _ _) hz,fin⟩)
  | int j uj=>exact wpAny_getItem_str_slice (l:=none) (u:=some (j,uj)) (st:=none) hs rfl (post_val_or_str ⟨Χ (Txt.slice_le z _ _) hz,fin⟩)
 | int i ui =>
  cases pu with
  | none=>exact wpAny_getItem_str_slice (l:=some (i,ui)) (u:=none) (st:=none) hs rfl (post_val_or_str ⟨Χ (Txt.slice_le z _ _) hz,fin⟩)
  | int j uj=>exact wpAny_getItem_str_slice (l:=some (i,ui)) (u:=some (j,uj)) (st:=none) hs rfl (post_val_or_str ⟨Χ (Txt.slice_le z _ _) hz,fin⟩)
end
def cW(n:Nat)(Pv:Nat->List V->Hp->Prop)(i m:Nat)(xs:List V)(H:Hp):Prop:=m=n - i/\i<=n/\Pv i xs H
theorem cW.next(hi:i < n)(p:Pv (i+1) xs H):∃ m',m' < n - i/\cW n Pv (i+1) m' xs H:=⟨n - (i+1),by omega,rfl,hi,p⟩
section
variable{tc:TT}{te:TE}{Q:VK}
theorem Fh(Pv:Nat->List V->Hp->Prop)(h0:Pv 0 [] H)(hz:∀ i xs H,Pv i xs H->xs.length<=1000000)(hl:∀ i xs H,Pv i xs H->eY K H a ys)(hs:∀ i y xs H,i < ys.length->ys[i]?=some y->Pv i xs H->tc (some y::bA fr Z) H fun b H2=>if b=true then te (some y::bA fr Z) H2 (fun z H3=>∃ m',m' < ys.length - i/\cW ys.length Pv (i+1) m' (xs++[z]) H3) else ∃ m',m' < ys.length - i/\cW ys.length Pv (i+1) m' xs H2)(hd:∀ xs H,Pv ys.length xs H->∀ p,H p=none->Q (.ref p) (Ul H p (.lst xs))) : ∃ W:Nat->Nat->List V->Hp->Prop,(∃ m,W 0 m [] H)/\∀ i m xs H,W i m xs H->xs.length<=1000000 /\ (((Wd K a).stop i H/\∀ p,H p=none->Q (.ref p) (Ul H p (.lst xs))) \/ ((Wd K a).go i H/\∀ y H',(Wd K a).V3 i H y H'->tc (some y::bA fr Z) H' fun b H2=>if b=true then te (some y::bA fr Z) H2 (fun z H3=>∃ m',m' < m/\W (i+1) m' (xs++[z]) H3) else ∃ m',m' < m/\W (i+1) m' xs H2)):=by
 refine⟨cW ys.length Pv,⟨ys.length,by simp,Α2 _,h0⟩,?_⟩;rintro i m xs H ⟨rfl,hi,p⟩;refine⟨hz i xs H p,?_⟩;have q:=hl i xs H p;by_cases UN:i < ys.length
 ·refine .inr ⟨⟨ys,ys[i],q,by simp[UN]⟩,fun y H' yy=>?_⟩;obtain⟨e,yy⟩:=yy;subst e;exact hs i y xs _ UN (yy ys q) p
 ·have e:i=ys.length:=by omega
  subst e;exact .inl ⟨⟨ys,q,Θ _⟩,hd xs H p⟩
theorem CM{lo:Int}(Pv:Nat->List V->Hp->Prop)(h0:Pv 0 [] H)(hz:∀ i xs H,Pv i xs H->xs.length<=1000000)(hs:∀ i xs H,i < n->Pv i xs H->tc (some (.int (lo+i))::bA fr Z) H fun b H2=>if b=true then te (some (.int (lo+i))::bA fr Z) H2 (fun z H3=>∃ m',m' < n - i/\cW n Pv (i+1) m' (xs++[z]) H3) else ∃ m',m' < n - i/\cW n Pv (i+1) m' xs H2)(hd:∀ xs H,Pv n xs H->∀ p,H p=none->Q (.ref p) (Ul H p (.lst xs))) : ∃ W:Nat->Nat->List V->Hp->Prop,(∃ m,W 0 m [] H)/\∀ i m xs H,W i m xs H->xs.length<=1000000 /\ (((Ww lo n).stop i H/\∀ p,H p=none->Q (.ref p) (Ul H p (.lst xs))) \/ ((Ww lo n).go i H/\∀ y H',(Ww lo n).V3 i H y H'->tc (some y::bA fr Z) H' fun b H2=>if b=true then te (some y::bA fr Z) H2 (fun z H3=>∃ m',m' < m/\W (i+1) m' (xs++[z]) H3) else ∃ m',m' < m/\W (i+1) m' xs H2)):=by
 refine⟨cW n Pv,⟨n,by simp,Α2 _,h0⟩,?_⟩;rintro i m xs H ⟨rfl,hi,p⟩;refine⟨hz i xs H p,?_⟩;by_cases UN:i < n
 ·refine .inr ⟨UN,fun y H' yy=>?_⟩;obtain⟨e,rfl⟩:=yy;subst e;exact hs i xs _ UN p
 ·have e:i=n:=by omega
  subst e;exact .inl ⟨Θ _,hd xs H p⟩
end
section
variable{tc:TT}{te:TE}{H1:Hp}{Q:VK}
end
def vC{l:List (Str×NameKind)}{k:NameKind}(h:l.lookup y=some k):(y,k)∈l:=Δ5 h
theorem eD.free{sc:Scope}{N:List Str}(kind:sc.kind=.function)(nc:(sc.names.all fun y=>y.2 !=.cell)=true)(nm:(sc.names.all fun y=>!(y.2==.local)||sc.names.lookup y.1==some .local)=true)(XG:sc.names.lookup x=some .local)(Bc:closureFor sc X.env=pure cl)(sub:∀ y c,cl.lookup y=some c->X.env.cells.lookup y=some c)(has:((relabel sc X.env).names.all fun y=>(y.2 !=.cell&&y.2 !=.free)||(cl.lookup y.1).isSome)=true)(nd:N.Nodup)(N0:N=x::fr.map fun j=>X.N.getD j x)(Xv:∀ j∈fr,∃ y,X.N[j]?=some y/\X.env.kindOf y=some .cell/\((relabel sc X.env).names.lookup y=some .cell\/(relabel sc X.env).names.lookup y=some .free)):eD X sc cl x fr N where
 kind:=kind
 vG:=fun y hy e=>by
  have h:=List.all_eq_true.mp nc y hy;rw[e] at h;exact absurd h (by decide)
 names:=fun y hy e=>by
  have h:=List.all_eq_true.mp nm y hy;rw[e] at h;simpa using h
 Bc:=Bc
 sub:=sub
 has:=fun y h=>by
  have key:∀ k,(relabel sc X.env).names.lookup y=some k->(k=.cell\/k=.free)->∃ c,cl.lookup y=some c:=fun k e hk=>by
   have h:=List.all_eq_true.mp has (y,k) (vC e);rcases hk with rfl|rfl
   ·exact Δ4.mp (by simpa using h)
   ·exact Δ4.mp (by simpa using h)
  rcases h with h|h
  ·exact key _ h (.inl rfl)
  ·exact key _ h (.inr rfl)
 XG:=XG
 nd:=nd
 N0:=N0
 Xv:=Xv
section
variable{sc:Scope}{N:List Str}{elt iter:Expr}{px:Pos}{ifs:List Expr}{wi:TI}{tc:TT}{te:TE}
theorem jC{py Xf:Pos}(hc:X.calm=true)(hx:∀ e s,¬ X.xe e s)(S:eD X sc cl x fr N)(hi:PI X (.Name x px) iter wi)(hb:∀ C s H ex pn,Xs (dA X sc cl C N s H ex pn) ifs tc/\PE (dA X sc cl C N s H ex pn) elt te)(hN:X.N.Nodup)(hy:X.N[i]?=some y)(hl:Loc X.env.scope y)(hsw:swapsWith (.ListComp elt [⟨.Name x px,iter,ifs,0⟩] sc pos) (some (.Name y py)) Xf.line X.env=pure true:=by rfl)(hs:∀ v,foldedSetIterable iter X.env v=pure v:=by intro _;rfl)(hf:X.fn y=true\/X.env.scope.names.lookup y=some .local:=by first|exact .inl rfl|exact .inr rfl|assumption) : PS X (.Assign [.Name y py] (.ListComp elt [⟨.Name x px,iter,ifs,0⟩] sc pos) Xf) (GH (kK wi fr tc te) (jJ i)):=by
 intro Uk s Z H D I h;have h:kK wi fr tc te Z H (fun x H1=>jJ i x Z H1 D.nx):=h;unfold kK at h;rw[exec_Assign_Name_used _ _ _ _ hsw];refine Β (wpAny_standAt (Β ?_));show wpAny _ X.A (do let _ <- comprehension (.ListComp elt [⟨.Name x px,iter,ifs,0⟩] sc pos) sc X.env _ (newList []) false (eval iter X.env) (some (assign (.Name y py) X.env))) _ _ s;refine Β (Β6 (wpAny_comprehension_free (use:=some (assign (.Name y py) X.env)) (Q:=fun _ s'=>SP X Uk D .next s') rfl hs S.Bc S.kind S.names
  (thn (hi Uk s Z H _ I h) fun v s1 h1=>thn h1 fun Z0 s2 h2=>?_)) (fun _ s' hq=>Ι (Ι hq)) fun _ _ e=>e)
 obtain⟨it,fp,tn,J,H2,e,I2,T,VY,f2,W,⟨m0,w0⟩,turn⟩:=h2;subst e;refine tY (Q:=fun x H1=>jJ i x Z H1 D.nx) (RR:=fun acc C=>compPost (model X.prog X.w) X.A X.xe (some (assign (.Name y py) X.env)) (fun _ s'=>SP X Uk D .next s') acc C) hc hx S hb I2 T VY f2 w0 turn ?_;intro D' C s' m' H' hn fC WW q;show wpAny _ X.A (assign (.Name y py) X.env (.ref D')) _ _ _;have I':Uo X Uk Z H' s':=WW s'.heap (Heap.SameBut.refl ..);refine wpAny_assign_Name (rH (v:=.ref D') I' hN hy hl rfl (fun YO I'' ⟨a,hsa,ha⟩=>?_) hf);obtain⟨f0,f1,f2',f3,f4,f5⟩:=fC;have hCa:C≠a:=fun z=>by
  rcases ha with ha|ha
  ·exact f1 (z.trans ha)
  ·exact f4 y a ha z.symm
 refine⟨m',hn.sameBut hsa hCa,fun h' WD=>?_⟩;exact⟨Z.set i (some (.ref D')),H',I''.turned (t':=YO.toks) (fun b o UT e=>(WD.2 b UT).trans e) f0 f1 f3 f4 f5,q⟩
end
section
variable{prog:Program}
end
section
mutual
example:=[.int i,.int j,.str y,.str x]
variable{Q:VK}{i j:Int}{v:V}
def MV:yA 0 (some v::Z) H Q=Q v H:=by simp[yA]
def Su{o:Option V}:yA (n+1) (o::Z) H Q=yA n Z H Q:=by simp[yA]
def Ss{o0:Option V}:yA 1 (o0::some v::Z) H Q=Q v H:=(Su.trans MV)
def TQ{o0 o1:Option V}:yA 2 (o0::o1::some v::Z) H Q=Q v H:=(Su.trans Ss)
def C0{α β:Type}{f:α->β}{a:α}{l:List α}:List.map f (a::l)=f a::List.map f l:=rfl
def IC{α β:Type}{f:α->β}:List.map f []=[]:=rfl
def TH{C:Int->Int->Prop}:rI C g 0e0 1e0 H Q=(C i j/\Q (g i j) H):=by simp[rI]
def Sq:LX g 0e0 1e0 H Q=Q (g i j) H:=by simp[LX]
def TK{g:Int->V}:rU g 0e0 H Q=Q (g i) H:=by simp[rU]
def w_lit(h:Nat.ble n 1000=true):(n<=sizeLine)=True:=eq_true (Nat.le_of_lt (small1000 (Nat.le_of_ble_eq_true h)))
theorem Sk:GV 0e0 1e0 H Q=Q (.bl (decide (i=j))) H:=by simp only[GV,show U6 0e0 1e0=true from rfl,V.int.injEq,true_and]
theorem Sl:GV 3e0 2e0 H Q=Q (.bl (decide (x=y))) H:=by simp only[GV,show U6 3e0 2e0=true from rfl,V.str.injEq,true_and]
theorem Sm:PB 0e0 1e0 H Q=Q (.bl (!decide (i=j))) H:=by simp only[PB,show U6 0e0 1e0=true from rfl,V.int.injEq,true_and]
theorem Sn:PB 3e0 2e0 H Q=Q (.bl (!decide (x=y))) H:=by simp only[PB,show U6 3e0 2e0=true from rfl,V.str.injEq,true_and]
end
end
def cH{a b:String}:(Str.ofString a=Str.ofString b)=(a=b):=by
 refine propext ⟨fun h=>?_,fun h=>by rw[h]⟩;rw[Str.ofString_eq_toList,Str.ofString_eq_toList] at h;have e:(a.toList.map Char.toNat)=(b.toList.map Char.toNat):=by
  have:=congrArg (fun z:Str=>z.cps.toList) h;simpa using this
 have inj:∀ x y:Char,x.toNat=y.toNat->x=y:=fun x y q=>Char.ext (UInt32.toNat_inj.mp q);have:=(List.map_inj_right (f:=Char.toNat) (fun x y q=>inj x y q)).mp e;exact String.toList_inj.mp this
def Kp(S:List Addr)(H H':Hp):Prop:=∀ b o,H b=some o->b∉S->H' b=some o
section
mutual
example:=[Ul H p o]
variable{S T:List Addr}{H1 H2:Hp}{p:Addr}{o:HO}
def Kp.refl:Kp S H H:=fun _ _ h _=>h
def Kp.trans(x:Kp S H H1)(y:Kp S H1 H2):Kp S H H2:=fun b o h n=>y b o (x b o h n) n
def Kp.mono(x:Kp S H H1)(h:∀ b∈S,b∈T):Kp T H H1:=fun b o e n=>x b o e fun z=>n (h b z)
def Kp.new(h:H p=none):Kp S H 0e0:=fun b u e _=>by rw[aE (aF e h)];exact e
def q0D(h:H p=none):Kp [] H 0e0:=Kp.new h
def Kp.set(h:p∈S):Kp S H 0e0:=fun b u e n=>by rw[aE (show b≠p from fun z=>n (by rw[z];exact h))];exact e
theorem Kp.at(x:Kp S H H1)(e:H a=some o)(n:a∉S:=by first|exact Δ|simp_all):H1 a=some o:=x a o e n
def Kp.same(x:Kp [] H H1):Same H H1:=fun b o e=>x b o e (by simp)
def Kp.of(x:Same H H1):Kp S H H1:=fun b o e _=>x b o e
def Kp.drop(x:Kp (p::S) H H1)(h:H p=none):Kp S H H1:=fun b o e n=>x b o e (by
 simp only[Α,not_or];exact⟨aF e h,n⟩)
end
end
mutual
example:=[.lst xs,.ref p,.tup xs,qC xs lo hi]
abbrev Tg{α:Type}(_:α):Type:=Unit
def fM{α:Type}(o:Option α)(k:α->Prop)(_u:Tg k:=()):Prop:=match o with
 | some x=>k x
 | none=>False
def IV(x:V)(k:Bool->Prop)(_u:Tg k:=()):Prop:=match x with
 | .bl b=>k b
 | _=>False
def eQ(o:Option HO)(k:List V->Prop)(_u:Tg k:=()):Prop:=match o with
 | some 0e0=>k xs
 | _=>False
def nU(o:Option HO)(k:List V->Prop)(_u:Tg k:=()):Prop:=match o with
 | some 0e0=>k xs
 | some 2e0=>k xs
 | _=>False
def dE(o:Option HO)(k:List (Key×V)->Prop)(_u:Tg k:=()):Prop:=match o with
 | some (.dK xs)=>k xs
 | _=>False
def bG(x:V)(k:Addr->Prop)(_u:Tg k:=()):Prop:=match x with
 | .ref p=>k p
 | _=>False
def gT(x:V)(k:Int->Prop)(_u:Tg k:=()):Prop:=match x with
 | .int i=>k i
 | _=>False
def cP{α:Type}{o:Option α}{k:α->Prop}(h:fM o k):∃ x,o=some x/\k x:=by
 cases o with
 | none=>exact h.elim
 | some x=>exact⟨x,rfl,h⟩
def Pg{x:V}{k:Bool->Prop}(h:IV x k):∃ b,x=.bl b/\k b:=by
 cases x with
 | bl b=>exact⟨b,rfl,h⟩
 | _=>exact h.elim
def vR{x:V}{k:Bool->Prop}:(∃ b,x=.bl b/\k b)=IV x k:=by
 refine propext ⟨fun⟨b,e,h⟩=>by subst e;exact h,Pg⟩
def aR{x:V}{k:Addr->Prop}(h:bG x k):∃ b,x=.ref b/\k b:=by
 cases x with
 | ref b=>exact⟨b,rfl,h⟩
 | _=>exact h.elim
def eJ{x:V}{k:Int->Prop}(h:gT x k):∃ b,x=.int b/\k b:=by
 cases x with
 | int b=>exact⟨b,rfl,h⟩
 | _=>exact h.elim
def fL(h:eQ o k):∃ xs,o=some 0e0/\k xs:=by
 unfold eQ at h;split at h
 ·exact⟨_,rfl,h⟩
 ·exact h.elim
def pE(h:nU o k):∃ xs,(o=some 0e0\/o=some 2e0)/\k xs:=by
 unfold nU at h;split at h
 ·exact⟨_,.inl rfl,h⟩
 ·exact⟨_,.inr rfl,h⟩
 ·exact h.elim
def dI{k:List (Key×V)->Prop}(h:dE o k):∃ xs,o=some (.dK xs)/\k xs:=by
 unfold dE at h;split at h
 ·exact⟨_,rfl,h⟩
 ·exact h.elim
def SM:R2:=fun x y H Q=>match x with
 | .ref p=>nU (H p) fun xs=>gT y fun i=>fM (gL xs i) fun v=>Q v H
 | .str z=>gT y fun i=>z.length<=sizeLine/\fM (gL z.cps.toList i) fun c=>Q (.str ⟨#[c]⟩) H
 | _=>False
def Kg(H:Hp)(Q:VK)(a:Addr)(oa ob:Option HO):Prop:=match oa,ob with
 | some 0e0,some (.lst ys)=>xs.length+ys.length<=sizeLine/\∀ p,H p=none->Q 1e0 (Ul H p (.lst (xs++ys)))
 | some 2e0,some (.tup ys)=>xs≠[]/\xs.length+ys.length<=sizeLine/\(ys≠[]->∀ p,H p=none->Q 1e0 (Ul H p (.tup (xs++ys))))/\(ys=[]->Q (.ref a) H)
 | _,_=>False
def Hc:R2:=fun x y H Q=>match x,y with
 | .int i,.int j=>Q (.int (i+j)) H
 | .str a,.str b=>a.length+b.length<=sizeLine/\Q (.str (a++b)) H
 | .ref a,.ref b=>Kg H Q a (H a) (H b)
 | _,_=>False
def He(lo hi:Option Int)(H:Hp)(Q:VK)(o:Option HO):Prop:=match o with
 | some 0e0=>∀ p,H p=none->Q 1e0 (Ul H p (.lst 3e0))
 | some 2e0=>¬ (HT.iB xs.length 0 lo=0/\HT.iB xs.length xs.length hi=xs.length)/\∀ p,H p=none->Q 1e0 (Ul H p (.tup 3e0))
 | _=>False
def Sw:V->Option Int->Option Int->Hp->VK->Prop:=fun x lo hi H Q=>match x with
 | .str z=>z.length<=sizeLine/\Q (.str (Txt.slice z lo hi)) H
 | .ref a=>He lo hi H Q (H a)
 | _=>False
def Kj:List V->Hp->VK->Prop:=fun vs H Q=>match vs with
 | [.str z]=>z.length<=sizeLine/\Q (.int z.length) H
 | [.ref p]=>nU (H p) fun xs=>Q (.int xs.length) H
 | _=>False
def Qd:V->V->V->Hp->(Hp->Prop)->Prop:=fun o i v H Q=>bG o fun p=>gT i fun k=>eQ (H p) fun xs=>fM (xW xs.length k) fun j=>Q (Ul H p (.lst (xs.set j v)))
def jI:V->Option Key
 | .int i=>some (.inl i)
 | .str x=>some (.inr x)
 | .Um=>some .no
 | _=>none
def Ai{y:V}{k:Key}(h:jI y=some k):y=kV k:=by
 cases y<;>simp only[jI,Ο,reduceCtorEq] at h<;>subst h<;>rfl
def Mp(td ty:TE):TE:=fun Z H Q=>td Z H fun x H1=>bG x fun a=>dE (H1 a) fun _=>ty Z H1 fun y H2=>dE (H2 a) fun kvs=>fM (jI y) fun k=>Q ((aX kvs k).getD .Um) H2
def Ng(td ty:TE):TE:=fun Z H Q=>td Z H fun x H1=>ty Z H1 fun y H2=>bG x fun a=>dE (H2 a) fun kvs=>fM (jI y) fun k=>fM (aX kvs k) fun v=>Q v H2
def Nl(td ty tv:TE):TS:=fun D Z H=>tv Z H fun v H1=>td Z H1 fun x H2=>ty Z H2 fun y H3=>bG x fun a=>dE (H3 a) fun kvs=>fM (jI y) fun k=>kvs.length < sizeLine/\D.nx Z (Ul H3 a (.dK (aS kvs k v)))
def SK(neg:Bool):R2:=fun x y H Q=>bG y fun p=>nU (H p) fun xs=>fD x=true/\xs.all fD=true/\Q (.bl (if neg=true then !oM x xs else oM x xs)) H
def Ki:List V->Hp->VK->Prop:=fun vs H Q=>match vs with
 | [.int i]=>Q (.int i) H
 | [.bl k]=>Q (.int (if k=true then 1 else 0)) H
 | _=>False
def Nh:R2:=fun x y H Q=>match y with
 | .Um=>Q (.bl (decide (x=.Um))) H
 | _=>False
def Mt:R2:=fun x y H Q=>match y with
 | .Um=>Q (.bl (!decide (x=.Um))) H
 | _=>False
def Ni:List V->Hp->VK->Prop:=fun vs H Q=>match vs with
 | [.int i,.int j]=>Q (.int (if j > i then j else i)) H
 | _=>False
def Nj:List V->Hp->VK->Prop:=fun vs H Q=>match vs with
 | [.int i,.int j]=>Q (.int (if j < i then j else i)) H
 | _=>False
def Io(v:V)(T:String):Option Bool:=match v with
 | .int _=>if T = "bool"\/T = "tuple" then some false else none
 | .str _=>if T = "bool"\/T = "tuple" then some false else none
 | .Um=>if T = "bool"\/T = "tuple" then some false else none
 | .bl _=>none
 | .byt _=>none
 | .flt _=>none
 | .ref _=>none
 | .ty _=>none
def oF(o:Option HO)(T:String):Option Bool:=match o with
 | some (.lst _)=>if T = "bool"\/T = "tuple" then some false else none
 | some (.tup _)=>if T = "tuple" then some true else if T = "bool" then some false else none
 | _=>none
def lR:List V->Hp->VK->Prop:=fun vs H Q=>match vs with
 | [.ref p,.ty T]=>fM (oF (H p) T) fun b=>Q (.bl b) H
 | [v,.ty T]=>fM (Io v T) fun b=>Q (.bl b) H
 | _=>False
def OV{v:V}(h:Io v T=some b):E8 K H v T b:=by
 cases v with
 | int n =>
  simp only[Io] at h;split at h
  ·next z=>cases h;rcases z with rfl|rfl;exact .ib n;exact .it n
  ·cases h
 | str n =>
  simp only[Io] at h;split at h
  ·next z=>cases h;rcases z with rfl|rfl;exact .sb n;exact .st n
  ·cases h
 | Um =>
  simp only[Io] at h;split at h
  ·next z=>cases h;rcases z with rfl|rfl;exact .nb;exact .nt
  ·cases h
 | _=>cases h
def Lr{p:Addr}(h:oF (H p) T=some b):E8 K H 1e0 T b:=by
 unfold oF at h;split at h
 ·rename_i xs e
  have q:eY K H p xs:=.inl (.inl e);split at h
  ·next z=>cases h;rcases z with rfl|rfl;exact .lb q;exact .lt q
  ·cases h
 ·rename_i xs e
  have q:iJ K H p xs:=.inl (.inl e);split at h
  ·cases h
   subst_vars
   exact .tt q
  ·split at h
   ·cases h
    subst_vars
    exact .tb q
   ·cases h
 ·cases h
def P2(to te:TE):TE:=fun Z H Q=>to Z H fun x H1=>bG x fun a=>eQ (H1 a) fun _=>te Z H1 fun y H2=>eQ (H2 a) fun xs=>xs.length < sizeLine/\Q .Um (Ul H2 a (.lst (xs++[y])))
def Qb(to:TE):TE:=fun Z H Q=>to Z H fun x H1=>bG x fun a=>eQ (H1 a) fun xs=>fM (xs[xs.length - 1]?) fun y=>Q y (Ul H1 a (.lst xs.dropLast))
end
section
mutual
example:=[(fun e=>.inl (.inl e)),.inl ‹_›,.inl e,(thn (ho Uk s Z H _ I h) fun v s1 ⟨x,H1,I1,r1,q1⟩=>?_),(.inl ⟨rfl,xs,.inl (.inl e1)⟩),apos.endLine==Uv.line,starEach [] X.env,eval o X.env]
def DL.imp{r r':R2}(h:DL X r)(f:∀ x y H Q,r' x y H Q->r x y H Q):DL X r':=fun value slice Uk s Z H x y v u Q I rx ry q=>h value slice Uk s Z H x y v u Q I rx ry (f _ _ _ _ q)
def jG.imp{f:Value->Value->Sem Value}{r r':R2}(h:jG X f r)(g:∀ x y H Q,r' x y H Q->r x y H Q):jG X f r':=fun Uk s Z H x y v u Q I rx ry q=>h Uk s Z H x y v u Q I rx ry (g _ _ _ _ q)
def aN:DL X SM:=OS.imp fun x y H Q h=>by
 cases x with
 | ref p =>
  obtain⟨xs,e,h⟩:=pE h;obtain⟨i,rfl,h⟩:=eJ h;obtain⟨v,e2,h⟩:=cP h;rcases e with e|e
  ·exact .inl ⟨_,_,_,_,rfl,rfl,.inl 2e0,e2,h⟩
  ·exact .inr (.inl ⟨_,_,_,_,rfl,rfl,.inl 2e0,e2,h⟩)
 | str z =>
  obtain⟨i,rfl,h1,h⟩:=eJ h;obtain⟨v,e2,h⟩:=cP h;exact .inr (.inr ⟨_,_,_,rfl,rfl,h1,e2,h⟩)
 | _=>exact h.elim
def cR:jG X (binaryOp .Add) Hc:=(Pj.or (Dl.or (Pm.or Ep))).imp fun x y H Q h=>by
 unfold Hc Kg at h;split at h
 ·exact .inl ⟨_,_,rfl,rfl,h⟩
 ·exact .inr (.inl ⟨_,_,rfl,rfl,h.1,h.2⟩)
 ·split at h
  ·exact .inr (.inr (.inl ⟨_,_,_,_,rfl,rfl,‹_›,‹_›,h.1,h.2⟩))
  ·exact .inr (.inr (.inr ⟨_,_,_,_,rfl,rfl,.inl 1e0,.inl 1e0,h.1,h.2.1,h.2.2.2,h.2.2.1⟩))
  ·exact h.elim
 ·exact h.elim
def TB:J9 X Sw:=fun Uk s Z H x v vl vu lo hi sl Q I rx hs pl pu h=>by
 refine(L4.or (PL.or PK)) Uk s Z H x v vl vu lo hi sl Q I rx hs pl pu ?_;unfold Sw He at h;split at h
 ·exact .inr (.inr ⟨_,rfl,h.1,h.2⟩)
 ·split at h
  ·exact .inl ⟨_,_,rfl,.inl 1e0,h⟩
  ·exact .inr (.inl ⟨_,_,rfl,.inl 1e0,h.1,h.2⟩)
  ·exact h.elim
 ·exact h.elim
def cK:fA X (.builtin "len") Kj:=fun Uk s Z H xs us Q I r h=>by
 unfold Kj at h;split at h
 ·exact tU Uk s Z H _ us Q I r ⟨_,_,rfl,⟨h.1,rfl⟩,h.2⟩
 ·obtain⟨ys,e,h⟩:=pE h;rcases e with e|e
  ·exact tU Uk s Z H _ us Q I r ⟨_,_,rfl,.inl ⟨_,.inl 2e0,rfl⟩,h⟩
  ·exact tU Uk s Z H _ us Q I r ⟨_,_,rfl,.inr ⟨_,.inl 2e0,rfl⟩,h⟩
 ·exact h.elim
def wW:PSet X Qd:=fun Uk s Z H o i v ov iv u Q I ro ri rv h=>by
 obtain⟨p,rfl,h⟩:=aR h;obtain⟨k,rfl,h⟩:=eJ h;obtain⟨xs,e,h⟩:=fL h;obtain⟨j,e2,h⟩:=cP h;exact Jw Uk s Z H _ _ v ov iv u Q I ro ri rv ⟨_,_,_,_,rfl,rfl,e,e2,h⟩
def jV:jG X (compareOp .In) (SK false):=Gj.imp fun x y H Q h=>by
 obtain⟨p,rfl,h⟩:=aR h;obtain⟨xs,e,h1,h2,h⟩:=pE h;exact⟨_,_,rfl,e.imp 0e0 0e0,h1,h2,h⟩
def qZ:jG X (compareOp .NotIn) (SK true):=Av.imp fun x y H Q h=>by
 obtain⟨p,rfl,h⟩:=aR h;obtain⟨xs,e,h1,h2,h⟩:=pE h;exact⟨_,_,rfl,e.imp 0e0 0e0,h1,h2,h⟩
def gP:fA X (.type "int") Ki:=fun Uk s Z H xs us Q I r h=>by
 refine Fb Uk s Z H xs us Q I r ?_;unfold Ki at h;split at h
 ·exact .inl ⟨_,rfl,h⟩
 ·exact .inr ⟨_,rfl,by
   rename_i k
   cases k<;>exact h⟩
 ·exact h.elim
def mI:jG X (compareOp .Is) Nh:=Po.imp fun x y H Q h=>by
 cases y with
 | Um=>exact⟨rfl,h⟩
 | _=>exact h.elim
def kF:jG X (compareOp .IsNot) Mt:=LD.imp fun x y H Q h=>by
 cases y with
 | Um=>exact⟨rfl,h⟩
 | _=>exact h.elim
def hZ(hc:X.calm=true):fA X (.builtin "max") Ni:=fun Uk s Z H xs us Q I r h=>by
 refine Fe hc Uk s Z H xs us Q I r ?_;unfold Ni at h;split at h
 ·exact⟨_,_,rfl,h⟩
 ·exact h.elim
def mW(hc:X.calm=true):fA X (.builtin "min") Nj:=fun Uk s Z H xs us Q I r h=>by
 refine Ff hc Uk s Z H xs us Q I r ?_;unfold Nj at h;split at h
 ·exact⟨_,_,rfl,h⟩
 ·exact h.elim
def pZ:fA X (.builtin "isinstance") lR:=fun Uk s Z H xs us Q I r h=>by
 refine Hs Uk s Z H xs us Q I r ?_;unfold lR at h;split at h
 ·obtain⟨b,e,h⟩:=cP h;exact⟨_,_,b,rfl,Lr e,h⟩
 ·obtain⟨b,e,h⟩:=cP h;exact⟨_,_,b,rfl,OV e,h⟩
 ·exact h.elim
variable{o e:Expr}{to te:TE}{apos Uv:Pos}
theorem dS(ho:PE X o to)(he:PE X e te)(UX:attributeBase o "append" X.env 7e0=eval o X.env:=by rfl)(Yt:((backTo Uv (starEach [e] X.env)).all (fun x=>!x.1)&&(backToKw Uv (keywordEach [] X.env)).all (fun x=>x.1.isSome)&&decide ([e].length+([]:List Keyword).length+(if ([]:List Keyword).isEmpty then 0 else 1) < 30))=true:=by rfl)(UY:5e0=true:=by rfl)(hs:starEach [e] X.env=(false,eval e X.env)::starEach [] X.env:=by rfl)(VW:(backTo Uv 6e0).any (·.1)=false:=by rfl) : PE X (.Call (.Attribute o "append" apos) [e] [] Uv) (P2 to te):=by
 intro Uk s Z H Q I h;refine wpAny_Call_method_late UX Yt UY rfl 3e0;obtain⟨a,rfl,q1⟩:=aR q1;obtain⟨xs,e1,q1⟩:=fL q1;obtain⟨h1,h2⟩:=DH (T:="list") I1 r1 4e0;refine⟨"list","list.append",PySem.F.plainAttrs_list,PySem.F.slot_list_append,PySem.F.type_list_append,h1,h2,?_⟩;have q2:mS te xH Z H1 (fun vs H2=>vs.length=1/\eQ (H2 a) fun xs=>xs.length < sizeLine/\Q .Um (Ul H2 a (.lst (xs++vs)))):=by
  simpa only[mS,xH,Ζ,ϕ,Γ2,true_and] using q1
 have hA:=Es he bM hs Uv Uk s1 Z H1 _ I1 q2;rw[hs] at hA ⊢;refine Β1 (by show(false||(backTo Uv 6e0).any (·.1))=false;rw[VW]<;>rfl) (Δ8 ?_);refine thn hA fun us s2 ⟨vs,H2,I2,r2,l2,q3⟩=>?_;obtain⟨xs,e3,q4,q5⟩:=fL q3
 match vs,l2,r2,q5 with
 | [y],_,r2,q5=>exact FV Uk s2 Z H2 _ _ v us Q I2 r1 r2 ⟨_,_,_,rfl,rfl,e3,q4,q5⟩
def tI(ho:PE X o to)(UX:attributeBase o "pop" X.env 7e0=eval o X.env:=by rfl)(UY:5e0=true:=by rfl):PE X (.Call (.Attribute o "pop" apos) [] [] Uv) (Qb to):=by
 intro Uk s Z H Q I h;refine wpAny_Call_method0_late UX UY 3e0;obtain⟨a,rfl,q1⟩:=aR q1;obtain⟨xs,e1,q1⟩:=fL q1;obtain⟨y,e2,q1⟩:=cP q1;obtain⟨h1,h2⟩:=DH (T:="list") I1 r1 4e0;exact⟨"list","list.pop",PySem.F.plainAttrs_list,PySem.F.slot_list_pop,PySem.F.type_list_pop,h1,h2,Β1 rfl (PySem.evalArgs_none (Pb Uk s1 Z H1 _ [] v [] Q I1 r1 .nil ⟨_,_,_,rfl,rfl,e1,e2,q1⟩))⟩
end
end
section
variable{o i e value:Expr}{pos' apos Uv:Pos}{td ty tv:TE}
def tH(hu:X.A.units+1 < cLine)(ho:PE X o td)(he:PE X e ty)(m:M1 X o "get" apos e Uv):PE X (.Call (.Attribute o "get" apos) [e] [] Uv) (Mp td ty):=by
 intro Uk s Z H Q I h;refine wpAny_Call_method m.base m.UO m.line Γ3 Γ7 PySem.F.type_dict_get (thn (ho Uk s Z H _ I h) fun u s1 ⟨x,H1,I1,rx,q1⟩=>?_);obtain⟨a,rfl,q1⟩:=aR q1;obtain⟨kvs,e1,q1⟩:=dI q1;obtain rfl:u=Value.ref a:=rx;obtain⟨t1,t2,_⟩:=qF I1 (.inl ⟨_,.inl e1⟩);refine⟨t1,t2,?_⟩;rw[m.trees];refine Β1 rfl (Δ8 (Δ3 (thn (he Uk s1 Z H1 _ I1 q1) fun iv s2 ⟨y,H2,I2,ry,q2⟩=>Calls.spliced_nil ?_)));obtain⟨kvs,e1,q2⟩:=dI q2;obtain⟨k,e2,q2⟩:=cP q2;have g:DGet H2 a y (aX kvs k):=by rw[Ai e2];exact DGet.k e1
 exact Nq hu I2 g ry fun w' s3 I3 Vi=>⟨_,H2,I3,Vi,q2⟩
def eB(hu:X.A.units+1 < cLine)(ho:PE X o td)(hi:PE X i ty)(hs:J8 i):PE X (.Subscript o i pos) (Ng td ty):=by
 intro Uk s Z H Q I h;refine EV PySem.F.slot_dict_getitem.lookup hs (thn (ho Uk s Z H _ I h) fun u s1 ⟨x,H1,I1,rx,q1⟩=>thn (hi Uk s1 Z H1 _ I1 q1) fun iv s2 ⟨y,H2,I2,ry,q2⟩=>?_);obtain⟨a,rfl,q2⟩:=aR q2;obtain⟨kvs,e1,q2⟩:=dI q2;obtain⟨k,e2,q2⟩:=cP q2;obtain⟨v,e3,q2⟩:=cP q2;obtain rfl:u=Value.ref a:=rx;have g:DGet H2 a y (some v):=by rw[Ai e2,<- e3];exact DGet.k e1
 exact⟨Bg I2 g,Fi hu I2 g ry fun w' s3 I3 Vi=>⟨v,H2,I3,Vi,q2⟩⟩
def LO(hu:X.A.units+1 < cLine)(ho:PE X o td)(hi:PE X i ty)(hv:PE X value tv)(hs:swapsWith value (some (.Subscript o i pos')) pos.line X.env=pure false:=by rfl) : PS X (.Assign [.Subscript o i pos'] value pos) (Nl td ty tv):=by
 intro Uk s Z H D I h;refine wpAny_Assign_Subscript (thn (hv Uk s Z H _ I h) fun r s1 ⟨v,H1,I1,rv,q1⟩=>thn (ho Uk s1 Z H1 _ I1 q1) fun u s2 ⟨x,H2,I2,rx,q2⟩=>thn (hi Uk s2 Z H2 _ I2 q2) fun iv s3 ⟨y,H3,I3,ry,q3⟩=>?_) hs;obtain⟨a,rfl,q3⟩:=aR q3;obtain⟨kvs,e1,q3⟩:=dI q3;obtain⟨k,e2,q3⟩:=cP q3;obtain rfl:u=Value.ref a:=rx;have g:DPut H3 a y v (Ul H3 a (.dK (aS kvs k v))):=by rw[Ai e2];exact DPut.k e1 q3.1
 exact Fj hu I3 g ry rv fun s4 I4=>⟨Z,_,I4,q3.2⟩
end
section
mutual
example:=[.ref p,H p,.bl false,.int i,some (.lst vs),.str x,.bl b,some (.tup vs)]
variable{Q:VK}{D:Ends}{t u:TS}{te ta tb tc to ti:TE}{tl th:TO}{g:TG}{gs:TGs}{tt tt':TT}{as:TA}{i j:Int}{v w:V}{p:Addr}{r r':R2}{B:Bool->Hp->Prop}
def Q2:DB t u D Z H=t {D with nx:=u D} Z H:=rfl
def Qj:GH te g D Z H=te Z H fun x H1=>g x Z H1 D.nx:=rfl
def Ov:jJ n v Z H N=N (Z.set n (some v)) H:=rfl
def Q1:PQ te D Z H=te Z H D.rt:=rfl
def OB:MQ D Z H=D.rt .Um H:=rfl
def Qx:Cs tt t u D Z H=tt Z H fun b H1=>if b=true then t D Z H1 else u D Z H1:=rfl
def HS:Cu te Z H B=te Z H fun x H'=>IV x fun k=>B k H':=by simp only[Cu,vR]
def Tc:tB te Z H B=te Z H fun x H'=>IV x fun k=>B k H':=by simp only[tB,vR]
def S5:TV tt ta tb Z H Q=tt Z H fun c H1=>if c=true then ta Z H1 Q else tb Z H1 Q:=rfl
def S9:Mb r ta tb Z H Q=ta Z H fun x H1=>tb Z H1 fun y H2=>r x y H2 Q:=rfl
def Td{q:V->Hp->VK->Prop}:Ua q ta Z H Q=ta Z H fun x H1=>q x H1 Q:=rfl
def Ud:tC v Z H Q=Q v H:=rfl
def NF{A:List V->Hp->Prop}:mS te as Z H A=te Z H fun x H1=>as Z H1 fun xs H2=>A (x::xs) H2:=rfl
def QM{A:List V->Hp->Prop}:xH Z H A=A [] H:=rfl
def HD{sp:Sp}{E:XK}:EX sp [] E as Z H Q=as Z H fun vs H1=>sp vs H1 Q E:=by simp only[EX,ϛ]
def S4{q:List V->Hp->VK->Prop}:TC q as Z H Q=as Z H fun vs H1=>q vs H1 Q:=rfl
def QH:RZ as Z H Q=as Z H fun xs H1=>xs.length<=sizeLine/\∀ p,H1 p=none->Q 0e0 (Ul H1 p (.lst xs)):=rfl
def Q7:Sb as Z H Q=as Z H fun xs H1=>xs.length<=sizeLine/\∀ p,H1 p=none->Q 0e0 (Ul H1 p (.tup xs)):=rfl
def NO:JT Z H Q = ∀ p,H p=none->Q 0e0 (Ul H p (.dK [])):=rfl
def NS:JU te D Z H=te Z H fun _ H1=>D.nx Z H1:=rfl
def Ow:EZ D Z H=D.nx Z H:=rfl
def NG:MN D Z H=D.ct Z H:=rfl
def Ny:JS ta tb Z H Q=ta Z H fun x H1=>IV x fun c=>if c=true then tb Z H1 Q else Q 2e0 H1:=by simp only[JS,vR]
def QX:PN ta tb Z H Q=ta Z H fun x H1=>IV x fun c=>if c=true then Q (.bl true) H1 else tb Z H1 Q:=by simp only[PN,vR]
def Ox:JW ta Z H Q=ta Z H fun x H1=>IV x fun c=>Q (.bl (!c)) H1:=by simp only[JW,vR]
def Qh:RX tt tt' Z H B=tt Z H fun c H1=>if c=true then tt' Z H1 B else B false H1:=rfl
def Ta:TZ tt tt' Z H B=tt Z H fun c H1=>if c=true then B true H1 else tt' Z H1 B:=rfl
def QN:R7 tt Z H B=tt Z H fun c H1=>B (!c) H1:=rfl
def Tb{q:V->Option Int->Option Int->Hp->VK->Prop}:T9 q te tl th Z H Q=te Z H fun x H1=>tl Z H1 fun l H2=>th Z H2 fun u H3=>q x l u H3 Q:=rfl
def IX{k:Int->Prop}:(∃ i,v=.int i/\k i)=gT v k:=propext ⟨fun⟨i,e,h⟩=>by subst e;exact h,eJ⟩
def Oy:JX te Z H O=te Z H fun x H1=>gT x fun i=>O (some i) H1:=by simp only[JX,IX]
def HL:E1 Z H O=O none H:=rfl
def Oa{s:TSet}:Rf to ti s v Z H N=to Z H fun o H1=>ti Z H1 fun i H2=>s o i v H2 fun H3=>N Z H3:=rfl
def N8:Lk [] Z H N=N Z H:=by simp[Lk]
def KJ:Ea g gs (v::vs) Z H N=g v Z H fun Z' H'=>gs vs Z' H' N:=propext ⟨fun⟨_,_,e,h⟩=>by cases e;exact h,fun h=>⟨_,_,rfl,h⟩⟩
def NX:Mp ta tb Z H Q=ta Z H fun x H1=>bG x fun a=>dE (H1 a) fun _=>tb Z H1 fun y H2=>dE (H2 a) fun kvs=>fM (jI y) fun k=>Q ((aX kvs k).getD .Um) H2:=rfl
def Qw:Ng ta tb Z H Q=ta Z H fun x H1=>tb Z H1 fun y H2=>bG x fun a=>dE (H2 a) fun kvs=>fM (jI y) fun k=>fM (aX kvs k) fun v=>Q v H2:=rfl
def QZ:Nl ta tb tc D Z H=tc Z H fun v H1=>ta Z H1 fun x H2=>tb Z H2 fun y H3=>bG x fun a=>dE (H3 a) fun kvs=>fM (jI y) fun k=>kvs.length < sizeLine/\D.nx Z (Ul H3 a (.dK (aS kvs k v))):=rfl
def Qi:P2 to te Z H Q=to Z H fun x H1=>bG x fun a=>eQ (H1 a) fun _=>te Z H1 fun y H2=>eQ (H2 a) fun xs=>xs.length < sizeLine/\Q .Um (Ul H2 a (.lst (xs++[y]))):=rfl
def QY:Qb to Z H Q=to Z H fun x H1=>bG x fun a=>eQ (H1 a) fun xs=>fM (xs[xs.length - 1]?) fun y=>Q y (Ul H1 a (.lst xs.dropLast)):=rfl
def QU{α:Type}{z:α}{k:α->Prop}{u:Tg k}:@fM _ (some z) k u=k z:=rfl
def QT{k:Bool->Prop}{u:Tg k}:@IV 6e0 k u=k b:=rfl
def KY{k:Addr->Prop}{u:Tg k}:@bG 0e0 k u=k p:=rfl
def KU{k:Int->Prop}{u:Tg k}:@gT 3e0 k u=k i:=rfl
def KW{u:Tg k}:@eQ 4e0 k u=k vs:=rfl
def HM{u:Tg k}:@nU 4e0 k u=k vs:=rfl
def HN{u:Tg k}:@nU 7e0 k u=k vs:=rfl
def KR{k:List (Key×V)->Prop}{u:Tg k}:@dE (some (.dK kvs)) k u=k kvs:=rfl
def Qz:SM 0e0 w H Q=nU 1e0 fun xs=>gT w fun i=>fM (gL xs i) fun v=>Q v H:=rfl
def QA:SM 5e0 w H Q=gT w fun i=>x.length<=sizeLine/\fM (gL x.cps.toList i) fun c=>Q (.str ⟨#[c]⟩) H:=rfl
def Nv:Hc 3e0 (.int j) H Q=Q (.int (i+j)) H:=rfl
def Nx:Hc 5e0 (.str y) H Q=(x.length+y.length<=sizeLine/\Q (.str (x++y)) H):=rfl
def Nw:Hc (.ref a) 0e0 H Q=Kg H Q a (H a) 1e0:=rfl
def ND{us:List V}:Kg H Q a 4e0 (some (.lst us))=(vs.length+us.length<=sizeLine/\∀ p,H p=none->Q 0e0 (Ul H p (.lst (vs++us)))):=rfl
def Q6{lo hi:Option Int}:Sw 5e0 lo hi H Q=(x.length<=sizeLine/\Q (.str (Txt.slice x lo hi)) H):=rfl
def Q5{lo hi:Option Int}:Sw (.ref a) lo hi H Q=He lo hi H Q (H a):=rfl
def NH{lo hi:Option Int}:He lo hi H Q 4e0 = ∀ p,H p=none->Q 0e0 (Ul H p (.lst (qC vs lo hi))):=rfl
def Ot:Kj [.str x] H Q=(x.length<=sizeLine/\Q (.int x.length) H):=rfl
def Oq:Kj [.ref p] H Q=nU 1e0 fun xs=>Q (.int xs.length) H:=rfl
def Q3{N:Hp->Prop}:Qd 0e0 3e0 v H N=eQ 1e0 fun xs=>fM (xW xs.length i) fun j=>N (Ul H p (.lst (xs.set j v))):=rfl
def S6{neg:Bool}:SK neg v 0e0 H Q=nU 1e0 fun xs=>fD v=true/\xs.all fD=true/\Q (.bl (if neg=true then !oM v xs else oM v xs)) H:=rfl
def Ol:jI 3e0=some (.inl i):=rfl
def Oo:jI 5e0=some (.inr x):=rfl
def Om:jI .Um=some .no:=rfl
theorem DW{α:Type}{xs:List α}{k:Nat}:gL xs (OfNat.ofNat k)=xs[k]?:=by
 show gL xs ((k:Nat):Int)=xs[k]?;cases e:xs[k]? with
 | some z=>exact dQ e
 | none =>
  have:=Ζ3.mp e;unfold gL xW;rw[if_pos (by omega),if_neg (by omega)];rfl
def Qk{α:Type}{xs:List α}:gL xs 0=xs[0]?:=DW (k:=0)
def Ql{α:Type}{xs:List α}:gL xs 1=xs[1]?:=DW (k:=1)
def Qm{α:Type}{xs:List α}:gL xs 2=xs[2]?:=DW (k:=2)
def Qn{α:Type}{xs:List α}:gL xs 3=xs[3]?:=DW (k:=3)
theorem Kn:CMul 3 j=True:=eq_true (.inl ⟨by decide,by decide⟩)
theorem Kv:CPow 10 9=True:=eq_true ⟨by decide,by decide,by decide⟩
theorem HF:CPow 10 12=True:=eq_true ⟨by decide,by decide,by decide⟩
theorem HG:CPow 10 18=True:=eq_true ⟨by decide,by decide,by decide⟩
theorem Oj{m:Nat}:xW (m+1) 0=some 0:=by simp[xW]<;>omega
def Od:Ki [.int i] H Q=Q 3e0 H:=rfl
def Oc:Ki [.bl b] H Q=Q (.int (if b=true then 1 else 0)) H:=rfl
theorem S7:Nh v .Um H Q=Q (.bl (decide (v=.Um))) H:=by cases v<;>rfl
theorem KL:Mt v .Um H Q=Q (.bl (!decide (v=.Um))) H:=by cases v<;>rfl
def QI:Ni [.int i,.int j] H Q=Q (.int (if j > i then j else i)) H:=rfl
def QJ:Nj [.int i,.int j] H Q=Q (.int (if j < i then j else i)) H:=rfl
def xS:lR [.ref p,.ty "int"] H Q=fM (oF 1e0 "int") fun b=>Q 6e0 H:=rfl
def uC:lR [3e0,.ty "bool"] H Q=Q 2e0 H:=by simp[lR,Io,fM]
def uF:lR [5e0,.ty "bool"] H Q=Q 2e0 H:=by simp[lR,Io,fM]
def uD:lR [.Um,.ty "bool"] H Q=Q 2e0 H:=by simp[lR,Io,fM]
def uE:lR [.ref p,.ty "bool"] H Q=fM (oF 1e0 "bool") fun b=>Q 6e0 H:=rfl
def xT:lR [.ref p,.ty "str"] H Q=fM (oF 1e0 "str") fun b=>Q 6e0 H:=rfl
def sF:lR [3e0,.ty "tuple"] H Q=Q 2e0 H:=by simp[lR,Io,fM]
def sI:lR [5e0,.ty "tuple"] H Q=Q 2e0 H:=by simp[lR,Io,fM]
def sG:lR [.Um,.ty "tuple"] H Q=Q 2e0 H:=by simp[lR,Io,fM]
def sH:lR [.ref p,.ty "tuple"] H Q=fM (oF 1e0 "tuple") fun b=>Q 6e0 H:=rfl
def Fk:oF 4e0 "bool"=some false:=by simp[oF]
def Fl:oF 7e0 "bool"=some false:=by simp[oF]
def CP:oF 4e0 "tuple"=some false:=by simp[oF]
def CQ:oF 7e0 "tuple"=some true:=by simp[oF]
theorem Qp{c:Prop}[Decidable c]{P R:Prop}:(if (decide c)=true then P else R)=if c then P else R:=by
 by_cases h:c<;>simp[h]
theorem Qq{c:Prop}[Decidable c]{P R:Prop}:(if (!decide c)=true then P else R)=if c then R else P:=by
 by_cases h:c<;>simp[h]
def Oi{P R:Prop}:(if true=true then P else R)=P:=rfl
def Oh{P R:Prop}:(if false=true then P else R)=R:=rfl
end
end
mutual
example:=[]
def Tf{a b:Prop}[Decidable a][Decidable b]{P R:Prop}:(if a then P else if b then P else R)=if a\/b then P else R:=by
 by_cases ha:a<;>by_cases hb:b<;>simp[ha,hb]
def Kp.at1{r:Addr}{H':Hp}{o:HO}(x:Kp [r] H H')(e:H a=some o)(n:a≠r):H' a=some o:=x a o e (by simpa using n)
theorem iM{i:Int}{k:V->Prop}(h0:0<=i)(h1:i < (xs.length:Int))(q:∀ v∈xs,k v):fM (gL xs i) k:=by
 have hk:i.toNat < xs.length:=by omega
 have ek:i=((i.toNat:Nat):Int):=by omega
 have e:gL xs ((i.toNat:Nat):Int)=some xs[i.toNat]:=dQ (Τ hk);rw[<- ek] at e;rw[e];exact q _ (List.getElem_mem hk)
def on1(vs:List V)(k:V->Prop)(_u:Tg k:=()):Prop:=match vs with
 | [v]=>k v
 | _=>False
def lp(J:It)(g:TG)(tb:TS)(D:Ends)(Z:St)(H:Hp):Prop:=∃ W:Nat->Nat->St->Hp->Prop,(∃ m,W 0 m Z H)/\∀ i m Z H,W i m Z H ->
 (J.stop i H/\D.nx Z H)\/(J.go i H/\∃ N:St->Hp->Prop,(∀ Z' H',N Z' H'->∃ m',m' < m/\W (i+1) m' Z' H')/\∀ x H',J.V3 i H x H'->g x Z H' fun σ2 H2=>tb {D with nx:=N,ct:=N,bk:=D.nx} σ2 H2)
end
section
mutual
example:=[]
variable{D:Ends}{g:TG}{tb:TS}{as:TA}{te:TE}{v w:V}
def Pf{k:V->Prop}:(∃ z,vs=[z]/\k z)=on1 vs k:=by
 refine propext ⟨fun⟨z,e,h⟩=>by subst e;exact h,fun h=>?_⟩;unfold on1 at h;split at h
 ·exact⟨_,rfl,h⟩
 ·exact h.elim
def QQ{k:V->Prop}{u:Tg k}:@on1 [v] k u=k v:=rfl
def KI:JV (Bo as) g tb D Z H=as Z H fun vs H1=>on1 vs fun v=>gT v fun j=>(-(2 ^ 62)<=j/\j < 2 ^ 62)/\lp (Ww 0 j.toNat) g tb D Z H1:=by
 unfold JV Bo
 congr 1
 funext vs H1;refine propext ⟨fun⟨j,e,h1,h2,h⟩=>by subst e;exact⟨⟨h1,h2⟩,h⟩,fun h=>?_⟩;unfold on1 at h;split at h
 ·obtain⟨j,rfl,⟨h1,h2⟩,h⟩:=eJ h;exact⟨j,rfl,h1,h2,h⟩
 ·exact h.elim
def on2(vs:List V)(k:V->V->Prop)(_u:Tg k:=()):Prop:=match vs with
 | [v,w]=>k v w
 | _=>False
def QR{k:V->V->Prop}{u:Tg k}:@on2 [v,w] k u=k v w:=rfl
def NV:JV (uR K te) g tb D Z H=te Z H fun x H1=>bG x fun a=>(∃ xs,eY K H1 a xs)/\lp (Wd K a) g tb D Z H1:=by
 unfold JV uR
 congr 1
 funext x H1;exact propext ⟨fun⟨a,e,h1,h⟩=>by subst e;exact⟨h1,h⟩,fun h=>by obtain⟨a,rfl,h1,h⟩:=aR h;exact⟨a,rfl,h1,h⟩⟩
end
end
noncomputable def lc(J:It)(fr:List Nat)(tc:TT)(te:TE)(Z:St)(H:Hp)(Q:VK):Prop:=∃ W:Nat->Nat->List V->Hp->Prop,(∃ m,W 0 m [] H)/\∀ i m xs H,W i m xs H->xs.length<=1000000 /\
  ((J.stop i H/\∀ p,H p=none->Q (.ref p) (Ul H p (.lst xs))) \/
   (J.go i H/\∀ y H',J.V3 i H y H'->tc (some y::bA fr Z) H' fun b H2=>if b=true then te (some y::bA fr Z) H2 (fun z H3=>∃ m',m' < m/\W (i+1) m' (xs++[z]) H3) else ∃ m',m' < m/\W (i+1) m' xs H2))
section
mutual
example:=[(fun z H3=>Pv (i+1) (xs++[z]) H3),some (.int (lo+i))::bA fr Z,Ul H p (.lst xs),some y::bA fr Z]
variable{tc:TT}{te tl:TE}{H1:Hp}{Q:VK}{as:TA}
def Ks:kK (Bo as) fr tc te Z H Q=as Z H fun vs H1=>on1 vs fun v=>gT v fun j=>(-(2 ^ 62)<=j/\j < 2 ^ 62)/\lc (Ww 0 j.toNat) fr tc te Z H1 Q:=by
 unfold kK Bo
 congr 1
 funext vs H1;refine propext ⟨fun⟨j,e,h1,h2,h⟩=>by subst e;exact⟨⟨h1,h2⟩,h⟩,fun h=>?_⟩;unfold on1 at h;split at h
 ·obtain⟨j,rfl,⟨h1,h2⟩,h⟩:=eJ h;exact⟨j,rfl,h1,h2,h⟩
 ·exact h.elim
def Kq:kK (uR K tl) fr tc te Z H Q=tl Z H fun x H1=>bG x fun a=>(∃ xs,eY K H1 a xs)/\lc (Wd K a) fr tc te Z H1 Q:=by
 unfold kK uR
 congr 1
 funext x H1;exact propext ⟨fun⟨a,e,h1,h⟩=>by subst e;exact⟨h1,h⟩,fun h=>by obtain⟨a,rfl,h1,h⟩:=aR h;exact⟨a,rfl,h1,h⟩⟩
def BL(x:V)(k:Str->Prop)(_u:Tg k:=()):Prop:=match x with
 | .str p=>k p
 | _=>False
def K0{k:Str->Prop}{u:Tg k}:@BL (.str x) k u=k x:=rfl
def OK{B:Bool->Hp->Prop}:MS Z H B=B true H:=rfl
def Qr:bA [] Z=[]:=rfl
def A8(hi:i < n):(∃ m',m' < n - i/\cW n Pv (i+1) m' xs H)=Pv (i+1) xs H :=
 propext ⟨fun⟨_,_,_,_,h⟩=>h,fun h=>cW.next hi h⟩
def Bw{lo:Int}(Pv:Nat->List V->Hp->Prop)(h0:Pv 0 [] H)(hz:∀ i xs H,Pv i xs H->xs.length<=1000000)(hs:∀ i xs H,i < n->Pv i xs H->tc 1e0 H fun b H2=>if b=true then te 1e0 H2 0e0 else Pv (i+1) xs H2)(hd:∀ xs H,Pv n xs H->∀ p,H p=none->Q (.ref p) 2e0):lc (Ww lo n) fr tc te Z H Q :=
 CM Pv h0 hz (fun i xs H hi h=>by simp only[A8 hi];exact hs i xs H hi h) hd
def kQ(Pv:Nat->List V->Hp->Prop)(h0:Pv 0 [] H)(hz:∀ i xs H,Pv i xs H->xs.length<=1000000)(hl:∀ i xs H,Pv i xs H->eY K H a ys)(hs:∀ i y xs H,i < ys.length->ys[i]?=some y->Pv i xs H->tc 3e0 H fun b H2=>if b=true then te 3e0 H2 0e0 else Pv (i+1) xs H2)(hd:∀ xs H,Pv ys.length xs H->∀ p,H p=none->Q (.ref p) 2e0):lc (Wd K a) fr tc te Z H Q :=
 Fh Pv h0 hz hl (fun i y xs H hi e h=>by simp only[A8 hi];exact hs i y xs H hi e h) hd
end
end
noncomputable def Km(kb:List (Key×V)):List (Key×V)->Bool
 | []=>true
 | (k,v)::r=>match aX kb k with
  | none=>false
  | some y=>oS v y&&Km kb r
mutual
inductive J5(K:q0B)(H:Hp):Nat->V->V->Bool->Prop
 | flat {n:Nat} {x y:V}:fD x=true->fD y=true->J5 K H n x y (oS x y)
 | same {n:Nat} {a:Addr}:J5 K H n (.ref a) (.ref a) true
 | refs {n:Nat} {a b:Addr} {r:Bool}:a≠b->xP K H n a b r->J5 K H n (.ref a) (.ref b) r
inductive xP(K:q0B)(H:Hp):Nat->Addr->Addr->Bool->Prop
 | list {n:Nat} {a b:Addr} {xs ys:List V} {e:Nat->Bool}:eY K H a xs->eY K H b ys->xs.length=ys.length->(∀ j x y,xs[j]?=some x->ys[j]?=some y->J5 K H n x y (e j))->xP K H (n+1) a b ((List.range xs.length).all e)
 | Vt {n:Nat} {a b:Addr} {xs ys:List V}:eY K H a xs->eY K H b ys->xs.length≠ys.length->xP K H (n+1) a b false
 | tup {n:Nat} {a b:Addr} {xs ys:List V} {e:Nat->Bool}:iJ K H a xs->iJ K H b ys->(∀ j x y,xs[j]?=some x->ys[j]?=some y->J5 K H n x y (e j))->xP K H (n+1) a b ((List.range (min xs.length ys.length)).all e&&xs.length==ys.length)
end
section
mutual
example:=[.ref b,.ref a,(by omega),(by show A.units+1+_ < _;omega),he j x y ex ey]
theorem jL{Up:List Value}(r:Uq xs Up)(h:j < Up.toArray.size):∃ x,xs[j]?=some x/\bP x Up.toArray[j]:=by
 have hj:j < xs.length:=by have:=r.length;simp only[Η] at h;omega
 have e:=Τ hj;obtain⟨u,g,ru⟩:=r.get e;refine⟨_,e,?_⟩;obtain⟨_,q⟩:=Μ.mp g;have:Up.toArray[j]=u:=by simpa using q
 rw[this];exact ru
theorem DY:∀(n:Nat),(∀ {a b:Addr} {r:Bool},xP X.K H n a b r->∀ {A:Around},Uo X Uk Z H s->A.units+n < cLine->SeqAt.RcAt A s 1e0 0e0 r)/\(∀ {x y:V} {b:Bool},J5 X.K H n x y b->∀ {A:Around} {v u:Value},Uo X Uk Z H s->bP x v->bP y u->A.units+n < cLine->SeqAt.EqAt A s v u b):=by
 intro n;have up:∀ {n:Nat},(∀ {a b:Addr} {r:Bool},xP X.K H n a b r->∀ {A:Around},Uo X Uk Z H s->A.units+n < cLine->SeqAt.RcAt A s 1e0 0e0 r)->(∀ {x y:V} {b:Bool},J5 X.K H n x y b->∀ {A:Around} {v u:Value},Uo X Uk Z H s->bP x v->bP y u->A.units+n < cLine->SeqAt.EqAt A s v u b):=by
  intro n rc x y b h A v u I rx ry hu;cases h with
  | flat fx fy=>exact HW rx ry fx fy
  | same =>
   cases rx;cases ry;exact SeqAt.EqAt.same _
  | refs ne h =>
   cases rx;cases ry;exact SeqAt.EqAt.of_refs ne (rc h I hu)
 suffices g:∀ {a b:Addr} {r:Bool},xP X.K H n a b r->∀ {A:Around},Uo X Uk Z H s->A.units+n < cLine->SeqAt.RcAt A s 1e0 0e0 r from ⟨g,up g⟩
 induction n with
 | zero=>intro a b r h;cases h
 | succ n ih =>
  intro a b r h A I hu;have ih:=@up n @ih;cases h with
  | list hx hy hl he =>
   obtain⟨Up,r1,p1,z1⟩:=I.list hx;obtain⟨X5,r2,p2,z2⟩:=I.list hy;have l1:=r1.length;have l2:=r2.length;have:=SeqAt.RcAt.lists p1.isList p2.isList (by simp only[Η];omega) 2e0 (A:=A) (fun j h1 h2=>by
    obtain⟨x,ex,rx⟩:=jL r1 h1;obtain⟨y,ey,ry⟩:=jL r2 h2;exact ih 4e0 I rx ry 3e0)
   rw[Η,<- l1] at this;exact this
  | Vt hx hy hl =>
   obtain⟨Up,r1,p1,z1⟩:=I.list hx;obtain⟨X5,r2,p2,z2⟩:=I.list hy;have l1:=r1.length;have l2:=r2.length;exact SeqAt.RcAt.lists_lengths p1.isList p2.isList (by simp only[Η,bne_iff_ne,ne_eq];omega) 2e0
  | tup hx hy he =>
   obtain⟨Up,r1,p1,z1⟩:=I.tuple hx;obtain⟨X5,r2,p2,z2⟩:=I.tuple hy;have l1:=r1.length;have l2:=r2.length;have:=SeqAt.RcAt.tuples (show s.heap.IsTuple _ Up.toArray from p1) (show s.heap.IsTuple _ X5.toArray from p2) 2e0 (A:=A) (fun j h1 h2=>by
    obtain⟨x,ex,rx⟩:=jL r1 h1;obtain⟨y,ey,ry⟩:=jL r2 h2;exact ih 4e0 I rx ry 3e0)
   rw[Η,Η,<- l1,<- l2] at this;exact this
def HV{x y:V}(h:J5 X.K H n x y b){u:Value}(I:Uo X Uk Z H s)(rx:bP x v)(ry:bP y u)(hu:A.units+n < cLine):SeqAt.EqAt A s v u b:=(DY n).2 h I rx ry hu
def Jp{b:Addr}(h:xP X.K H n a b r)(I:Uo X Uk Z H s)(hu:A.units+n < cLine):SeqAt.RcAt A s 1e0 0e0 r:=(DY n).1 h I hu
end
end
section
variable{o e:Expr}{to te:TE}{apos Uv:Pos}
end
section
mutual
example:=[]
variable{Q:VK}{b p:Addr}{x:V}
def NT:GV .Um .Um H Q=Q (.bl true) H:=by simp only[GV,show U6 .Um .Um=true from rfl,decide_true,true_and]
def Ob{t:TGs}:Ll K n t (.ref a) Z H N = ∃ xs,iJ K H a xs/\xs.length=n/\t xs Z H N:=by simp[Ll]
def SY:((0:Nat):Int)=0:=rfl
def S2:((1:Nat):Int)=1:=rfl
def S3:((2:Nat):Int)=2:=rfl
end
end
noncomputable def vS(o:Option HO)(k:List V->Prop)(_u:Tg k:=()):Prop:=match o with
 | some (.tup xs)=>k xs
 | _=>False
def BM(h:vS o k):∃ xs,o=some (.tup xs)/\k xs:=by
 unfold vS at h;split at h
 ·exact⟨_,rfl,h⟩
 ·exact h.elim
noncomputable def Ho:R2:=fun x y H Q=>bG x fun a=>bG y fun b=>vS (H a) fun xs=>vS (H b) fun ys=>xs.length+ys.length<=sizeLine/\(if xs=[] then Q y H else if ys=[] then Q x H else ∀ p,H p=none->Q (.ref p) (Ul H p (.tup (xs++ys))))
section
def Ja:jG X (binaryOp .Add) (fun x y H Q=>∃ a b ys,x=.ref a/\y=.ref b/\iJ X.K H a []/\iJ X.K H b ys/\Q (.ref b) H):=by
 intro Uk s Z H x y v u Q I rx ry h;obtain⟨a,b,ys,rfl,rfl,ha,hb,q⟩:=h;cases rx;cases ry;obtain⟨Up,r1,p1,_⟩:=I.tuple ha;obtain⟨Vg,r2,p2,_⟩:=I.tuple hb;have l1:Up=[]:=r1.sX.mpr rfl;obtain⟨⟨c1,d1,t1,o1⟩,ho,rfl,n,rfl⟩:=p1;obtain⟨⟨c2,d2,t2,o2⟩,UZ,rfl,n2,rfl⟩:=p2;exact concat_meets ⟨_,ho,rfl⟩ ⟨_,UZ,rfl⟩ noFill_tuple_add seq_tuple_add PySem.F.slot_tuple_add PySem.F.entry_tuple_add (PySem.F.args_tuple_add_2 _ _) (tuple_addW0 a b Up.toArray Vg.toArray n n2 d1 d2 o1 o2 (by simp[l1])) ⟨ho,UZ,.ref b,H,I,rfl,q⟩
def LF:jG X (binaryOp .Add) Ho:=(Ja.or Ep).imp fun x y H Q h=>by
 obtain⟨a,rfl,h1⟩:=aR h;obtain⟨b,rfl,h2⟩:=aR h1;obtain⟨xs,e1,h3⟩:=BM h2;obtain⟨ys,e2,h4,h5⟩:=BM h3;by_cases c:xs=[]
 ·rw[if_pos c] at h5;subst c;exact .inl ⟨a,b,ys,rfl,rfl,.inl (.inl e1),.inl (.inl e2),h5⟩
 ·rw[if_neg c] at h5;refine .inr ⟨a,b,xs,ys,rfl,rfl,.inl (.inl e1),.inl (.inl e2),c,h4,fun z=>?_,fun z=>?_⟩
  ·rw[if_pos z] at h5;exact h5
  ·rw[if_neg z] at h5;exact h5
end
section
variable{Q:VK}{b p:Addr}{lo hi:Option Int}
def La{u:Tg k}:@vS (some (.tup vs)) k u=k vs:=rfl
def HR:Ho (.ref a) (.ref b) H Q=vS (H a) fun xs=>vS (H b) fun ys=>xs.length+ys.length<=sizeLine/\(if xs=[] then Q (.ref b) H else if ys=[] then Q (.ref a) H else ∀ p,H p=none->Q (.ref p) (Ul H p (.tup (xs++ys)))):=rfl
def NI:He lo hi H Q (some (.tup vs))=(¬ (HT.iB vs.length 0 lo=0/\HT.iB vs.length vs.length hi=vs.length)/\∀ p,H p=none->Q (.ref p) (Ul H p (.tup (qC vs lo hi)))):=rfl
end
def Al:typeLookup (.type "list") "keys"=pure none:=by rw[typeLookup_type,builtinLookup_eq_fast];kernel_rfl
section
mutual
example:=[(by omega),bJ P W,Key×Value,model P W,.ref a,(Builtin.«dict.update.loop» ⟨[.ref d,.ref it,rawInt i,.none],[]⟩),pyNext (.ref it) >>= _,(by decide +kernel),stored acc k v,.ret .none]
variable{prog:Program}
theorem FI{Up:Array Value}(hx:s.heap.get? a=some {cls:=.type "list",data:=.seq Up n})(hA:A.handled=none)(hq:∀ h' tk,(∀ b o,s.heap.get? b=some o->h'.get? b=some o)->Q none {s with heap:=h',toks:=tk}):wpAny (model prog w) A (getAttr? 4e0 "keys") Q E s:=by
 obtain⟨hp,g,d,tk,os⟩:=s;have hT:∀ t,(⟨hp,g,d,t,os⟩:Shared).TypeIs 4e0 "list":=fun t=>⟨_,hx,rfl⟩;have f1:=sub_AttributeError;have f2:=F.slot_list_getattribute.lookup;have f3:=F.slot_list_getattribute.bind 4e0;unfold getAttr? getAttrBy? getAttrBy
 repeat (any_goals (first|assumption|exact hT _|((with_reducible show wpAny _ _ (call (Value.builtin "list.__getattribute__") _ _) _ _ _);refine call_meets F.slot_list_getattribute (hT _) am_entry_list_getattribute (F.args_list_getattribute_2 _ _) (meets_getattribute_miss_list a Up n #[] "keys" _ Al 7e0 7e0) ⟨hx,hA,fun h' Zc e hx'=>?_⟩)|wp_step))
 obtain⟨t',u',he⟩:=hx'.there;show wpAny _ _ (getattributeRaised _ _ _ _ _ _ _) _ _ _;unfold getattributeRaised;have f5:=am_list_getattr_none
 repeat (any_goals (first|assumption|wp_step))
 exact hq _ _ hx'.keeps
theorem nF:plainId "dict.update.loop"=true:=by decide +kernel
def yM:entryFor table "dict.update.loop"=some Builtin.«dict.update.loop»:=entryFor_of_fast (by kernel_rfl)
theorem Mf{W:World}{d t:Addr}{kv:Value}{k:Key}{acc:List 2e0}{Q:PySem.Fin->Shared->Prop}(hit:s.heap.IsListIter it l i)(hl:s.heap.IsList l items)(hx:items[i]?=some (.ref t))(ht:s.heap.IsTuple t #[kv,v])(hk:(bJ P W).is k kv=true)(hd:s.heap.DictOf 1e0 d acc)(hsz:acc.length<=sizeLine)(Za:d≠it)(nti:t≠it)(hq:∀ h' tk,h'.IsListIter it l (i+1)->h'.DictOf 1e0 d 8e0->(∀ b o,b≠d->b≠it->s.heap.get? b=some o->h'.get? b=some o)->Q (.again (.builtin "dict.update.loop" ⟨[.ref d,.ref it,rawInt (i+1),.none],[]⟩)) {s with heap:=h',toks:=tk}) : wpAny 3e0 A 5e0 Q E s:=by
 unfold Builtin.«dict.update.loop»;show wpAny _ _ 6e0 _ _ _;refine Β (wpAny_pyNext_list_item hit hl hx fun h1 aaS sb=>?_);dsimp only;refine Β (Β3 ?_);refine Β (wpAny_tryCatch ?_);unfold Builtin.Dict.pairItems;obtain⟨o,ho,hc,m,Ys⟩:=ht;have ho1:h1.get? t=some o:=(sb.2 t nti).trans ho;refine Β (wpAny_typeOf (T:="tuple") ⟨o,ho1,hc⟩ ?_);rw[if_pos (by decide)];refine Β (wpAny_seqItems ho1 Ys (Ι ?_));show wpAny _ _ (holding [kv,v] (dictSet d kv v)) _ _ _;refine Β3 (wpAny_dictSet_pairs hk (hd.sameBut sb Za) (fun h2 hd2 sb2=>?_) hsz);refine Ι (hq h2 _ ?_ hd2 fun b o b1 b2 e=>(sb2.2 b b1).trans ((sb.2 b b2).trans e));exact aaS.at fun o e=>(sb2.2 it Za.symm).trans e
def PR{W:World}{d:Addr}{Q:PySem.Fin->Shared->Prop}(hh:A.handled=none)(hit:s.heap.IsListIter it l i)(hl:s.heap.IsList l items)(hx:items[i]?=none)(hq:∀ h',(∀ b o,b≠it->s.heap.get? b=some o->h'.get? b=some o)->Q (.done 9e0) {s with heap:=h'}) : wpAny 3e0 A 5e0 Q E s:=by
 unfold Builtin.«dict.update.loop»;show wpAny _ _ 6e0 _ _ _;refine Β (wpAny_pyNext_list_end hh hit hl hx fun h1 eb=>?_);dsimp only;show wpAny _ _ (Builtin.Dict.addKeywords d [] >>= _) _ _ _;exact Β (Ι (Ι (hq h1 fun b o b1 e=>eb b o b1 e)))
theorem J1{P:Program}{W:World}{d it l:Addr}{items:List Value}(ps:List 2e0)(Za:d≠it)(ndl:l≠d)(nli:l≠it):∀(m i:Nat),items.length=i+m->∀(A:Around) (R:Result->Shared->Prop) (s:Shared) (acc:List 2e0),A.handled=none->s.heap.IsListIter it l i->s.heap.IsList l items.toArray -> (∀ j,i<=j->j < items.length->∃(t:Addr) (kv:Value) (k:Key) (v:Value),items[j]?=some (.ref t)/\ps[j]?=some (k,v)/\s.heap.IsTuple t #[kv,v]/\(bJ P W).is k kv=true/\t≠it/\t≠d) -> s.heap.DictOf 1e0 d acc->acc.length+m<=sizeLine->ps.length=items.length -> (∀ h' tk,h'.DictOf 1e0 d (merged acc (ps.drop i))->(∀ b o,b≠d->b≠it->s.heap.get? b=some o->h'.get? b=some o)->R (.ok 9e0) {s with heap:=h',toks:=tk}) -> codeAny 3e0 A (.builtin "dict.update.loop" ⟨[.ref d,.ref it,rawInt i,.none],[]⟩) R s
 | 0,i,hm,A,R,s,acc,hh,hit,hl,hp,hd,hsz,VI,q=>by
  refine Ζ1 yM ?_;rw[Δ9 nF _];refine PR (A:=A.in1) hh hit hl (by simp;omega) fun h' k=>?_;have e:ps.drop i=[]:=List.drop_of_length_le 0e0;rw[e] at q;exact q h' s.toks (by
   obtain⟨o,es,ep,ho,r⟩:=hd;exact⟨o,es,ep,k _ _ Za ho,r⟩) fun b o _ b2 e=>k b o b2 e
 | m+1,i,hm,A,R,s,acc,hh,hit,hl,hp,hd,hsz,VI,q=>by
  refine Ζ1 yM ?_;rw[Δ9 nF _];obtain⟨t,kv,k,v,e1,e2,ht,hk,n1,n2⟩:=hp i (Θ _) 0e0;refine Mf (A:=A.in1) hit hl (by simpa using e1) ht hk hd 0e0 Za n1 fun h' tk aaR ZH kp=>?_;refine⟨plainId_quiet nF _,?_⟩;have c:((i:Int)+1)=((i+1:Nat):Int):=by omega
  rw[c];have es:ps.drop i=(k,v)::ps.drop (i+1):=by
   obtain⟨UN,e3⟩:=Μ.mp e2;rw[List.drop_eq_getElem_cons UN,e3]
  refine J1 ps Za ndl nli m (i+1) 0e0 A R _ 8e0 hh aaR (hl.at fun o e=>kp l o ndl nli e) (fun j h1 h2=>?_) ZH ?_ VI fun h'' Zc aaQ kp'=>?_
  ·obtain⟨t,kv,k,v,e1,e2,ht,hk,n1,n2⟩:=hp j 0e0 h2;obtain⟨o,ho,r⟩:=ht;exact⟨t,kv,k,v,e1,e2,⟨o,kp t o n2 n1 ho,r⟩,hk,n1,n2⟩
  ·have:=stored_length_le acc k v;omega
  ·refine q h'' Zc ?_ fun b o b1 b2 e=>kp' b o b1 b2 (kp b o b1 b2 e);rw[es];exact aaQ
end
end
mutual
example:=[.UJ o (.dK kvs),Key×V,(by simp),aS acc kv.1 kv.2,.dK (eW [] kvs),bJ X.prog X.w,(.tup [kV k,v]),Itd a o kvs,Key×Value,(by decide)]
def sP(H:Hp)(xs:List V)(kvs:List 1e0):Prop:=xs.length=kvs.length/\∀(j:Nat) (x:V),xs[j]?=some x->∃(t:Addr) (k:Key) (v:V),x=.ref t/\H t=some 6e0/\kvs[j]?=some (k,v)
def CG:List V->Hp->VK->Prop:=fun vs H Q=>on1 vs fun x=>bG x fun l=>eQ (H l) fun xs=>∃ kvs,sP H xs kvs/\∀ p,H p=none->Q (.ref p) (Ul H p 4e0)
theorem Iq{H:Hp}{P:Program}{W:World}{h:Heap}(ok:HOk P W H h):∀ {xs:List V} {Up:List Value} {kvs:List 1e0},Uq xs Up->sP H xs kvs->∃ ps:List 8e0,KV kvs ps/\ps.length=Up.length /\ ∀ j,j < Up.length->∃(t:Addr) (kv:Value) (k:Key) (v:Value),Up[j]?=some (.ref t)/\ps[j]?=some (k,v)/\h.IsTuple t #[kv,v]/\(bJ P W).is k kv=true/\H t≠none
 | [],_,[],.nil,_=>⟨[],.nil,rfl,fun j hj=>absurd hj (Nat.not_lt_zero _)⟩
 | [],_,_::_,.nil,p=>by cases p.1
 | _::_,_,[],.cons _ _,p=>by cases p.1
 | x::xs,_,kv::kvs,.cons r rr,p=>by
  obtain⟨t,k,v,rfl,ht,e⟩:=p.2 0 x rfl;cases r;have e':kv=(k,v):=by simpa using e
  subst e';obtain⟨ps,h1,h2,h3⟩:=Iq ok rr (kvs:=kvs) ⟨by simpa using p.1,fun j y hy=>by
   obtain⟨t,k,v,a,b,c⟩:=p.2 (j+1) y (by simpa using hy);exact⟨t,k,v,a,b,by simpa using c⟩⟩
  obtain⟨_,Up,ri,hi⟩:=(show eF P W H h t 6e0 from ok t _ ht);cases ri with
  | cons r1 ri=>cases ri with
   | cons r2 ri =>
    cases ri;refine⟨(k,_)::ps,.cons ⟨rfl,r2⟩ h1,by simp[h2],fun j hj=>?_⟩;cases j with
    | zero=>exact⟨t,_,k,_,rfl,rfl,hi,nP r1,by rw[ht];simp⟩
    | succ j =>
     obtain⟨t',Xo,k',v',a,b,c⟩:=h3 j (by simpa using hj);exact⟨t',Xo,k',v',by simpa using a,by simpa using b,c⟩
theorem vD:∀(more acc:List 1e0),(eW acc more).length<=acc.length+more.length
 | [],acc=>Θ _
 | kv::more,acc=>by
  have h1:=vD more 3e0;have h2:=iH acc kv.1 kv.2;show(eW 3e0 more).length<=_;simp only[Ζ];omega
theorem CH(hc:X.calm=true):fA X (.type "dict") CG:=fun Uk s Z H vs us Q I r h=>by
 have h0:=h;unfold CG at h0;rw[<- Pf] at h0;obtain⟨x,rfl,h1⟩:=h0;obtain⟨l,rfl,h2⟩:=aR h1;obtain⟨xs,el,kvs,hp,q⟩:=fL h2;obtain⟨u,rfl,ru⟩:=r.one;cases ru;obtain⟨z,Up,n,ri,hlen,eo⟩:=I.Am el;obtain⟨ps,rel,aa7,pat⟩:=Iq I.Ut ri hp;have hA:=I.ok.hd hc;refine callType_codes (Q₁:=fun obj s₁=>obj=.ref s.heap.objs.size/\s₁={s with heap:=s.heap.push {cls:=.type "dict",data:=.dict #[]}}) F.kt_called_dict (F.kt_typeCall_dict_1 _) F.entry_dict_init (kt_code_dict_new _ ⟨rfl,rfl⟩) ?_;rintro obj s₁ ⟨rfl,rfl⟩;have Vf:(s.heap.push {cls:=.type "dict",data:=.dict #[]}).DictOf 5e0 s.heap.objs.size []:=Heap.DictOf.new s.heap;refine⟨Vf.typeIs,F.args_dict_init_2 _ _,?_⟩;unfold Builtin.«dict.__init__» Builtin.Dict.selfAndRest;refine Β (Β (wpAny_notOrdered_dict Vf.typeIs ?_));show wpAny _ _ (pure (s.heap.objs.size,[Value.ref l])) _ _ _;refine Ι ?_;show wpAny _ _ (Builtin.Dict.updateFrom "dict.__init__" s.heap.objs.size (.ref l) [] .none) _ _ _;unfold Builtin.Dict.updateFrom;have Vb:(s.heap.push {cls:=.type "dict",data:=.dict #[]}).get? l=some {cls:=.type "list",data:=.seq Up.toArray n}:=Ε _ eo;refine Β (wpAny_typeOf (T:="list") ⟨_,Vb,rfl⟩ ?_);rw[if_pos 9e0];refine Β (FI Vb hA fun h' tk kp=>?_);rw[if_pos (show(none:Option Value).isNone=true from rfl)];refine Β (wpAny_rule ?_);have WA:h'.IsList l Up.toArray:=⟨_,kp _ _ Vb,rfl,n,rfl⟩;refine Β (wpAny_pyIter_list WA (Ι ⟨plainId_quiet nF _,?_⟩));have hD:s.heap.objs.size < h'.objs.size:=Λ (kp _ _ (Ρ _ rfl));have old:∀ b o,s.heap.get? b=some o->(h'.push {cls:=.type "list_iterator",data:=.fields #[.ref l,rawInt 0]}).get? b=some o:=fun b o e=>Ε _ (kp b o (Ε _ e));have lt:∀ b o,s.heap.get? b=some o->b < s.heap.objs.size:=fun b o e=>Λ e;have ll:=lt _ _ eo;refine J1 ps (Υ hD) (Υ ll) (Υ (Nat.lt_trans ll hD)) Up.length 0 2e0 X.A.in1 _ _ [] hA ⟨_,Ρ _ rfl,rfl,rfl⟩ ⟨_,old _ _ eo,rfl,n,rfl⟩ (fun j _ hj=>?_) ?_ (by simp only[ϕ];omega) aa7 fun hF tkF hdF kpF=>?_
 ·obtain⟨t,kv,k,v,a1,a2,⟨o,ho,r⟩,a4,_⟩:=pat j hj;have tl:=lt _ _ ho;exact⟨t,kv,k,v,a1,a2,⟨o,old _ _ ho,r⟩,a4,Υ (Nat.lt_trans tl hD),Υ tl⟩
 ·obtain⟨o,es,ep,ho,r⟩:=Vf;exact⟨o,es,ep,Ε _ (kp _ _ ho),r⟩
 ·rw[List.drop_zero] at hdF;have kl:kvs.length<=sizeLine:=by rw[<- hp.1];exact z
  have ml:=vD kvs [];refine⟨rfl,.ref s.heap.objs.size,Ul H s.heap.objs.size 4e0,I.laid (fun b o e=>kpF b o (Υ (lt _ _ e)) (Υ (Nat.lt_trans (lt _ _ e) hD)) (old _ _ e)) (Θ _)
   (oC (by simp only[ϕ] at ml;omega) (Β4.mpr (Ne.symm (Υ I.big))) (rel.merge .nil) hdF),rfl,q _ (I.Ut.fresh (Θ _))⟩
def Itd(a:Addr)(o:Obj)(kvs:List 1e0):It :=
 ⟨fun i H=>i < kvs.length/\H a=some 0e0,fun i H x H'=>H'=H/\∃ kv,kvs[i]?=some kv/\x=kV kv.1,fun i H=>i=kvs.length/\H a=some 0e0⟩
def oZ{W:World}{k:Key}(h:(bJ P W).is k v=true):bP (kV k) v:=by
 rcases eP h with⟨i,t,rfl,rfl⟩|⟨x,t,rfl,rfl⟩|⟨rfl,rfl⟩
 ·exact⟨t,rfl⟩
 ·exact⟨t,rfl⟩
 ·rfl
def HZ{o:Obj}{es:Array DictEntry}{ep:Nat}(I:Uo X Uk Z H s)(e:H a=some 0e0)(ho:o.data=.dict es ep) : ∃ vs,KV kvs vs/\s.heap.DictAt 5e0 a vs ep:=by
 obtain⟨h1,_,_,vs,rel,o',Zu,WN,h2,h3,h4,r⟩:=(show eF X.prog X.w H s.heap a 0e0 from I.Ut a _ e);rw[h1] at h2;cases h2;rw[ho] at h4;cases h4;exact⟨vs,rel,o,es,h1,h3,ho,r⟩
def KV.at{vs:List 8e0}(r:KV kvs vs){kv:Key×V}(e:kvs[i]?=some kv):∃ v,vs[i]?=some (kv.1,v):=by
 unfold KV at r
 induction r generalizing i with
 | nil=>simp at e
 | @cons p q ps qs h t ih=>cases i with
  | zero =>
   have e':p=kv:=by simpa using e
   subst e';exact⟨q.2,by simp[h.1]⟩
  | succ i=>simpa using ih (i:=i) (by simpa using e)
theorem GK(a it:Addr)(o:Obj)(kvs:List 1e0)(es:Array DictEntry)(ep:Nat)(ho:o.data=.dict es ep):Turn P w K tg 7e0 [it] it (fun i h=>h.IsKeyIter it a i kvs.length ep) where
 mem:=by simp
 obj:=fun i h st b hb=>by
  have e:b=it:=by simpa using hb
  subst e;obtain⟨o,e,c,d⟩:=st;exact⟨o,e,fun v z=>by rw[d] at z;cases z⟩
 keep:=fun i h h' st k=>st.at fun o e=>k it 2e0 o e
 item:=by
  intro X hP hw hK hc i Uk s Z H E I hf st hg;subst hP hw hK;obtain⟨hi,hq⟩:=hg;obtain⟨vs,rel,dd⟩:=HZ I hq ho;have hk:=Τ hi;obtain⟨v,hv⟩:=rel.at hk;obtain⟨f0,f1,f2,f3,f4,f5⟩:=hf it 2e0;rw[rel.length] at st;refine wpAny_pyNext_dict_item st dd hv fun key h' Wm UL sb=>?_;have I1:Uo X Uk Z H {s with heap:=h'}:=I.turned (t':=s.toks) (fun b o hb e=>(sb.2 b hb).trans e) f0 f1 f3 f4 f5;rw[<- rel.length] at UL;obtain⟨o',e,c,d⟩:=id UL;exact⟨key,rfl,Eb (s:={s with heap:=h'}) e c d 9e0 ⟨kV (kvs[i]).1,H,I1,oZ Wm,⟨rfl,_,hk,rfl⟩,UL,fun b hb=>(hf b hb).1⟩⟩
 done:=by
  intro X hP hw hK hc i Uk s Z H E I hf st hg;subst hP hw hK;obtain⟨hi,hq⟩:=hg;obtain⟨vs,rel,dd⟩:=HZ I hq ho;obtain⟨f0,f1,f2,f3,f4,f5⟩:=hf it 2e0;rw[rel.length] at st hi;exact wpAny_pyNext_dict_end (I.ok.hd hc) st dd (Ζ3.mpr (by omega)) fun h' eb=>⟨rfl,I.turned (t':=s.toks) (fun b o hb e=>eb b o hb e) f0 f1 f3 f4 f5⟩
 self:=fun _ _ _ _ _ st h=>wpAny_pyIter_keyiter st h
def ON(tl:TE):TI:=fun Z H R=>tl Z H fun x H1=>bG x fun a=>dE (H1 a) fun kvs=>∀ o,R 7e0 (Ul H1 a 0e0)
def LJ{l:Expr}{tl:TE}(hl:PE X l tl):PI X tg l (ON tl):=by
 intro Uk s Z H R I h;refine thn (hl Uk s Z H _ I h) fun v s1 ⟨x,H1,I1,r1,q1⟩=>?_;obtain⟨a,rfl,q2⟩:=aR q1;obtain⟨kvs,e,q⟩:=dI q2;cases r1;obtain⟨z,hd,vs,rel,dd⟩:=nN I1.Ut e;obtain⟨ep,dat⟩:=dd.dictAt;obtain⟨o,es,ho,hx,Ys,r⟩:=id dat;have I2:Uo X Uk Z (Ul H1 a 0e0) s1:=I1.write (t':=s1.toks) (x:=a) (e:=a) (by rw[e];exact True.intro) (.inl rfl) (fun _ _ _ q=>q) ⟨o,ho⟩ ⟨ho,oC z hd rel dd⟩;refine wpAny_pyIter_dict hd dat ?_;have F:(Ul H1 a 0e0) s1.heap.objs.size=none:=I2.Ut.fresh (Θ _);refine⟨s1.heap.objs.size,[s1.heap.objs.size],_,_,_,rfl,I2.kept (t':=s1.toks) fun b o e=>Ε _ e,GK a _ o kvs es ep Ys,?_,fun b hb=>?_,q o⟩
 ·rw[rel.length];exact⟨_,Ρ _ rfl,rfl,rfl⟩
 ·have e:b=s1.heap.objs.size:=by simpa using hb
  subst e;exact I2.HY (Θ _) F
end
section
variable{tc:TT}{te tl:TE}{Q:VK}
def Ko:kK (ON tl) fr tc te Z H Q=tl Z H fun x H1=>bG x fun a=>dE (H1 a) fun kvs=>∀ o,lc (Itd a o kvs) fr tc te Z (Ul H1 a (.UJ o (.dK kvs))) Q:=by
 unfold kK ON;rfl
theorem Lw{o:Obj}(Pv:Nat->List V->Hp->Prop)(h0:Pv 0 [] H)(hz:∀ i xs H,Pv i xs H->xs.length<=1000000)(hl:∀ i xs H,Pv i xs H->H a=some (.UJ o (.dK kvs)))(hs:∀ i kv xs H,i < kvs.length->kvs[i]?=some kv->Pv i xs H->tc (some (kV kv.1)::bA fr Z) H fun b H2=>if b=true then te (some (kV kv.1)::bA fr Z) H2 (fun z H3=>Pv (i+1) (xs++[z]) H3) else Pv (i+1) xs H2)(hd:∀ xs H,Pv kvs.length xs H->∀ p,H p=none->Q (.ref p) (Ul H p (.lst xs))):lc (Itd a o kvs) fr tc te Z H Q:=by
 refine⟨cW kvs.length Pv,⟨kvs.length,by simp,Α2 _,h0⟩,?_⟩;rintro i m xs H ⟨rfl,hi,p⟩;refine⟨hz i xs H p,?_⟩;by_cases UN:i < kvs.length
 ·refine .inr ⟨⟨UN,hl i xs H p⟩,fun y H' yy=>?_⟩;obtain⟨e,kv,hk,rfl⟩:=yy;subst e;simp only[A8 UN];exact hs i kv xs _ UN hk p
 ·have e:i=kvs.length:=by omega
  subst e;exact .inl ⟨⟨rfl,hl _ xs H p⟩,hd xs H p⟩
end
section
variable{td ty tx:TE}{Q:VK}{D:Ends}{v w x:V}
def Kx:CG [.ref l] H Q=eQ (H l) fun xs=>∃ kvs,sP H xs kvs/\∀ p,H p=none->Q (.ref p) (Ul H p (.dK (eW [] kvs))):=rfl
end
def Hr:List V->Hp->VK->Prop:=fun vs H Q=>on1 vs fun x=>bG x fun p=>eQ (H p) fun ys=>∀ l,H l=none->Q (.ref l) (Ul H l (.tup ys))
def IY{x:V}{k:Str->Prop}(h:BL x k):∃ z,x=.str z/\k z:=by
 unfold BL at h;split at h
 ·exact⟨_,rfl,h⟩
 ·exact h.elim
def jT{k:V->Prop}(h:on1 vs k):∃ v,vs=[v]/\k v:=by
 unfold on1 at h;split at h
 ·exact⟨_,rfl,h⟩
 ·exact h.elim
section
def cO:fA X (.type "tuple") Hr:=fun Uk s Z H xs us Q I r h=>by
 obtain⟨x,rfl,h⟩:=jT h;obtain⟨p,rfl,h⟩:=aR h;obtain⟨ys,e,h⟩:=fL h;exact xR Uk s Z H _ us Q I r ⟨_,_,rfl,.inl ⟨.inl (.inl e),h⟩⟩
end
section
variable{r:V->List V->Hp->VK->Prop}{to:TE}{t:TA}{Q:VK}{i:Int}{p:Addr}{ys:List Str}
def Li:Hr [.ref p] H Q=eQ (H p) fun ys=>∀ l,H l=none->Q (.ref l) (Ul H l (.tup ys)):=rfl
end
abbrev TJ:=Str->St->Hp->(Str->Hp->Prop)->Prop
section
variable{e a b:Expr}{te:TE}{tj:TJ}
end
noncomputable def TY(r:V->List V->Hp->VK->Prop)(to:TE)(t:TA):TE:=fun Z H Q=>to Z H fun x H1=>bG x fun a=>eQ (H1 a) fun _=>t Z H1 fun xs H2=>r (.ref a) xs H2 Q
noncomputable def P9:V->List V->Hp->VK->Prop:=fun x vs H Q=>bG x fun a=>on1 vs fun y=>bG y fun b=>eQ (H a) fun xs=>eQ (H b) fun zs=>xs.length+zs.length<=sizeLine/\Q .Um (Ul H a (.lst (xs++zs)))
noncomputable def Mu:V->List V->Hp->VK->Prop:=fun x vs H Q=>bG x fun a=>on1 vs fun y=>gT y fun i=>eQ (H a) fun xs=>i=0/\fM xs[0]? fun v=>Q v (Ul H a (.lst xs.tail))
section
variable{o e:Expr}{to:TE}{t:TA}{name:Str}{apos Uv:Pos}{id:String}{r:V->List V->Hp->VK->Prop}
theorem pH(slot:Slot "list" name id)(hty:typeOf (.builtin id)=pure (.type "method_descriptor"))(hm:Ml X id r)(ho:PE X o to)(ha:PA X (e::es) t)(UX:attributeBase o name X.env (eval o X.env)=eval o X.env:=by rfl)(Yt:((backTo Uv (starEach (e::es) X.env)).all (fun x=>!x.1)&&(backToKw Uv (keywordEach [] X.env)).all (fun x=>x.1.isSome)&&decide ((e::es).length+([]:List Keyword).length+(if ([]:List Keyword).isEmpty then 0 else 1) < 30))=true:=by rfl)(UY:(apos.endLine==Uv.line)=true:=by rfl)(hs:starEach (e::es) X.env=(false,eval e X.env)::starEach es X.env:=by rfl)(VW:(backTo Uv (starEach es X.env)).any (·.1)=false:=by rfl) : PE X (.Call (.Attribute o name apos) (e::es) [] Uv) (TY r to t):=by
 intro Uk s Z H Q I h;refine wpAny_Call_method_late UX Yt UY rfl (thn (ho Uk s Z H _ I h) fun v s1 ⟨x,H1,I1,r1,q1⟩=>?_);obtain⟨a,rfl,q1⟩:=aR q1;obtain⟨xs,e1,q1⟩:=fL q1;obtain⟨h1,h2⟩:=DH (T:="list") I1 r1 (.inl ⟨rfl,xs,.inl (.inl e1)⟩);refine⟨"list",id,PySem.F.plainAttrs_list,slot,hty,h1,h2,?_⟩;have hA:=ha Uv Uk s1 Z H1 _ I1 q1;rw[hs] at hA ⊢;refine Β1 (by show(false||(backTo Uv (starEach es X.env)).any (·.1))=false;rw[VW]<;>rfl) (Δ8 ?_);exact thn hA fun us s2 ⟨vs,H2,I2,r2,q2⟩=>hm Uk s2 Z H2 _ vs v us Q I2 r1 r2 q2
def sW:Ml X "list.extend" P9:=fun Uk s Z H x vs v us Q I rx rv h=>by
 obtain⟨a,rfl,h1⟩:=aR h;obtain⟨y,rfl,h2⟩:=jT h1;obtain⟨b,rfl,h3⟩:=aR h2;obtain⟨xs,e1,h4⟩:=fL h3;obtain⟨zs,e2,h5⟩:=fL h4;exact FW Uk s Z H _ _ v us Q I rx rv ⟨_,_,_,_,rfl,rfl,e1,e2,h5⟩
theorem An:Ml X "list.pop" Mu:=fun Uk s Z H x vs v us Q I rx rv h=>by
 obtain⟨a,rfl,h1⟩:=aR h;obtain⟨y,rfl,h2⟩:=jT h1;obtain⟨i,rfl,h3⟩:=eJ h2;obtain⟨xs,e1,rfl,h4⟩:=fL h3;obtain⟨y,e2,h5⟩:=cP h4;cases xs with
 | nil=>cases e2
 | cons z zs=>exact IG Uk s Z H _ _ v us Q I rx rv ⟨_,_,_,0,y,rfl,rfl,e1,by decide,by decide,by simp[seqIndex?],e2,h5⟩
end
mutual
example:=[!xs.isEmpty]
def GI:Option HO->Option Bool
 | some (.lst xs)=>some 0e0
 | some (.tup xs)=>some 0e0
 | some (.dK kvs)=>some (!kvs.isEmpty)
 | _=>none
def xI(H:Hp):V->Option Bool
 | .Um=>some false
 | .bl b=>some b
 | .int i=>some (i !=0)
 | .ref p=>GI (H p)
 | _=>none
def AO{x:V}{k:Bool}(h:xI H x=some k):PZ K x H k:=by
 cases x with
 | Um=>cases h;rfl
 | bl b=>cases h;rfl
 | int i=>cases h;rfl
 | ref p =>
  simp only[xI] at h;unfold GI at h;split at h
  ·next e=>cases h;exact .inl ⟨_,.inl (.inl e),rfl⟩
  ·next e=>cases h;exact .inr (.inl ⟨_,iJ.of e,rfl⟩)
  ·next e=>cases h;exact .inr (.inr ⟨_,e,rfl⟩)
  ·cases h
 | _=>cases h
def JY(ta:TE):TT:=fun Z H Q=>ta Z H fun x H'=>fM (xI H' x) fun k=>Q k H'
def tM{a:Expr}{ta:TE}(ha:PE X a ta)(he:∀ whole,isTrue a X.env whole=(do let v <- whole;standAt a.pos;holding [v] (truthy v))):PT X a (JY ta):=by
 intro Uk s Z H Q I h;exact isTrue_plain (thn (ha Uk s Z H _ I h) fun v s1 ⟨x,H1,I1,r1,q1⟩=>by
  obtain⟨k,e,q⟩:=cP q1;exact DD Uk s1 Z H1 x v Q I1 r1 ⟨k,AO e,q⟩) (he _)
end
section
mutual
example:=[.ref p,some y::bA fr Z,!vs.isEmpty]
variable{te to:TE}{t:TA}{tj:TJ}{Q:VK}{acc:Str}{r:V->List V->Hp->VK->Prop}{QS:Str->Hp->Prop}{B:Bool->Hp->Prop}{D:Ends}{p q:Addr}{v:V}{i:Int}
def NU:Str.empty++x=x:=by
 show(⟨#[]++x.cps⟩:Str)=x;rw[Array.empty_append]
def S8:TY r to t Z H Q=to Z H fun x H1=>bG x fun a=>eQ (H1 a) fun _=>t Z H1 fun xs H2=>r (.ref a) xs H2 Q:=rfl
def Qu:P9 0e0 [.ref q] H Q=eQ (H p) fun xs=>eQ (H q) fun zs=>xs.length+zs.length<=sizeLine/\Q .Um (Ul H p (.lst (xs++zs))):=rfl
def Oz:Mu 0e0 [.int 0] H Q=eQ (H p) fun xs=>(0:Int)=0/\fM xs[0]? fun v=>Q v (Ul H p (.lst xs.tail)):=rfl
def Lg:JY te Z H B=te Z H fun x H'=>fM (xI H' x) fun k=>B k H':=rfl
def OI:xI H .Um=some false:=rfl
def OE:xI H (.bl b)=some b:=rfl
def OG:xI H (.int i)=some (i !=0):=rfl
def HU:xI H 0e0=GI (H p):=rfl
def OH:GI (some (.lst vs))=some 2e0:=rfl
def OJ:GI (some (.tup vs))=some 2e0:=rfl
def OF:GI (some (.dK kvs))=some (!kvs.isEmpty):=rfl
variable{tc:TT}{tl:TE}
def Ku:kK (OO K tl) fr tc te Z H Q=tl Z H fun x H1=>bG x fun a=>(∃ xs,iJ K H1 a xs)/\lc (Itt K a) fr tc te Z H1 Q:=by
 unfold kK OO
 congr 1
 funext x H1;exact propext ⟨fun⟨a,e,h1,h⟩=>by subst e;exact⟨h1,h⟩,fun h=>by obtain⟨a,rfl,h1,h⟩:=aR h;exact⟨a,rfl,h1,h⟩⟩
theorem Iv(Pv:Nat->List V->Hp->Prop)(h0:Pv 0 [] H)(hz:∀ i xs H,Pv i xs H->xs.length<=1000000)(hl:∀ i xs H,Pv i xs H->iJ K H a ys)(hs:∀ i y xs H,i < ys.length->ys[i]?=some y->Pv i xs H->tc 1e0 H fun b H2=>if b=true then te 1e0 H2 (fun z H3=>Pv (i+1) (xs++[z]) H3) else Pv (i+1) xs H2)(hd:∀ xs H,Pv ys.length xs H->∀ p,H p=none->Q 0e0 (Ul H p (.lst xs))):lc (Itt K a) fr tc te Z H Q:=by
 refine⟨cW ys.length Pv,⟨ys.length,by simp,Α2 _,h0⟩,?_⟩;rintro i m xs H ⟨rfl,hi,p⟩;refine⟨hz i xs H p,?_⟩;have q:=hl i xs H p;by_cases UN:i < ys.length
 ·refine .inr ⟨⟨ys,ys[i],q,by simp[UN]⟩,fun y H' yy=>?_⟩;obtain⟨e,yy⟩:=yy;subst e;simp only[A8 UN];exact hs i y xs _ UN (yy ys q) p
 ·have e:i=ys.length:=by omega
  subst e;exact .inl ⟨⟨ys,q,Θ _⟩,hd xs H p⟩
end
end
section
theorem LY{b:Addr}(h:xP X.K H n a b r)(I:Uo X Uk Z H s)(hu:A.units+n < cLine):SeqAt.RcNeAt A s (.ref a) (.ref b) (!r):=by
 cases h with
 | list hx hy hl he =>
  obtain⟨Up,r1,p1,z1⟩:=I.list hx;obtain⟨X5,r2,p2,z2⟩:=I.list hy;have l1:=r1.length;have l2:=r2.length;have:=SeqAt.RcNeAt.lists p1.isList p2.isList (by simp only[Η];omega) (by omega) (A:=A) (fun j h1 h2=>by
   obtain⟨x,ex,rx⟩:=jL r1 h1;obtain⟨y,ey,ry⟩:=jL r2 h2;exact HV (he j x y ex ey) I rx ry (by show A.units+1+_ < _;omega))
  rw[Η,<- l1] at this;exact this
 | Vt hx hy hl =>
  obtain⟨Up,r1,p1,z1⟩:=I.list hx;obtain⟨X5,r2,p2,z2⟩:=I.list hy;have l1:=r1.length;have l2:=r2.length;exact SeqAt.RcNeAt.lists_lengths p1.isList p2.isList (by simp only[Η,bne_iff_ne,ne_eq];omega) (by omega)
 | tup hx hy he =>
  obtain⟨Up,r1,p1,z1⟩:=I.tuple hx;obtain⟨X5,r2,p2,z2⟩:=I.tuple hy;have l1:=r1.length;have l2:=r2.length;have:=SeqAt.RcNeAt.tuples (show s.heap.IsTuple _ Up.toArray from p1) (show s.heap.IsTuple _ X5.toArray from p2) (by omega) (A:=A) (fun j h1 h2=>by
   obtain⟨x,ex,rx⟩:=jL r1 h1;obtain⟨y,ey,ry⟩:=jL r2 h2;exact HV (he j x y ex ey) I rx ry (by show A.units+1+_ < _;omega))
  rw[Η,Η,<- l1,<- l2] at this;exact this
end
def Nk(K:q0B)(n:Nat):R2:=fun x y H Q=>bG x fun a=>bG y fun b=>∃ r,xP K H n a b r/\Q (.bl (!r)) H
def P5(K:q0B)(n:Nat):R2:=fun x y H Q=>bG x fun a=>bG y fun b=>∃ r,xP K H n a b r/\Q (.bl r) H
theorem Fx{k:Nat}(hr:Room k A)(h:n<=60):A.units+n < cLine:=Nat.lt_of_le_of_lt (Nat.add_le_add_left (by omega:n<=64) _) hr.units
section
def Dn(n:Nat)(hu:X.A.units+n < cLine):jG X (compareOp .NotEq) (Nk X.K n):=fun Uk s Z H x y v u Q I rx ry h=>by
 obtain⟨a,rfl,h1⟩:=aR h;obtain⟨b,rfl,r,e,q⟩:=aR h1;cases rx;cases ry;exact LY e I hu X.prog X.w X.xe _ (cB I q rfl)
def Dm(n:Nat)(hu:X.A.units+n < cLine):jG X (compareOp .Eq) (P5 X.K n):=fun Uk s Z H x y v u Q I rx ry h=>by
 obtain⟨a,rfl,h1⟩:=aR h;obtain⟨b,rfl,r,e,q⟩:=aR h1;cases rx;cases ry;exact Jp e I hu X.prog X.w X.xe _ (cB I q rfl)
end
section
variable{Q:VK}{b p:Addr}{i:Int}
def QK:Nk K n (.ref a) (.ref b) H Q = ∃ r,xP K H n a b r/\Q (.bl (!r)) H:=rfl
def Qs:P5 K n (.ref a) (.ref b) H Q = ∃ r,xP K H n a b r/\Q (.bl r) H:=rfl
end
def Str.cs(x:Str):List Nat:=x.cps.toList
section
variable{Q:VK}{p:Addr}{z:Str}{neg:Bool}{v:V}
end
mutual
example:=[fs.lookup f]
def iN(C:Addr)(o:Option HO)(k:Addr->List (Str×V)->Prop)(_u:Tg k:=()):Prop:=match o with
 | some (.ins C' dx fs)=>C'=C/\k dx fs
 | _=>False
def mH{C:Addr}{k:Addr->List (Str×V)->Prop}(h:iN C o k):∃ dx fs,o=some (.ins C dx fs)/\k dx fs:=by
 unfold iN at h;split at h
 ·obtain⟨rfl,h⟩:=h;exact⟨_,_,rfl,h⟩
 ·exact h.elim
def Kh(C:Addr)(f:Str)(ta:TE):TE:=fun Z H Q=>ta Z H fun x H1=>bG x fun a=>iN C (H1 a) fun _ fs=>fM 0e0 fun v=>Q v H1
def Mv(C:Addr)(f:Str)(ta tv:TE):TS:=fun D Z H=>tv Z H fun y H1=>ta Z H1 fun x H2=>bG x fun a=>iN C (H2 a) fun dx fs=>fs.length < 1000/\D.nx Z (Ul H2 a (.ins C dx (iT f y fs)))
def Mn(C:Addr)(f:Str)(ta tv:TE):TS:=fun D Z H=>ta Z H fun x H1=>bG x fun a=>iN C (H1 a) fun _ fs=>fM 0e0 fun v=>tv Z H1 fun y H2=>gT v fun i=>gT y fun j=>iN C (H2 a) fun dx XO=>XO.length < 1000/\D.nx Z (Ul H2 a (.ins C dx (iT f (.int (i+j)) XO)))
end
section
variable{o e value:Expr}{f:Str}{pos' Xg:Pos}{ta tv:TE}{C:Addr}
def aL(c:Cls X.K C)(n:eU X.K C f)(he:PE X e ta)(hb:attributeBase e f X.env (eval e X.env)=eval e X.env:=by rfl):PE X (.Attribute e f pos) (Kh C f ta):=fun Uk s Z H Q I h=>by
 refine Kd hb (thn (he Uk s Z H _ I h) fun u s1 ⟨x,H1,I1,rx,q1⟩=>?_);obtain⟨a,rfl,q2⟩:=aR q1;obtain⟨dx,fs,ea,q3⟩:=mH q2;obtain⟨v,l,q⟩:=cP q3;obtain rfl:u=Value.ref a:=rx;exact uP I1 ea c n l fun u' s2 I2 ru=>⟨v,H1,I2,ru,q⟩
def dM(c:Cls X.K C)(n:eU X.K C f)(ha:PE X o ta)(hv:PE X value tv)(hs:swapsWith value (some (.Attribute o f pos')) pos.line X.env=pure false:=by rfl):PS X (.Assign [.Attribute o f pos'] value pos) (Mv C f ta tv):=fun Uk s Z H D I h=>by
 refine plainObj_wpAny_Assign_Attribute (thn (hv Uk s Z H _ I h) fun u s1 ⟨y,H1,I1,ry,q⟩=>thn (ha Uk s1 Z H1 _ I1 q) fun ov s2 ⟨x,H2,I2,rx,q1⟩=>?_) hs;obtain⟨a,rfl,q2⟩:=aR q1;obtain⟨dx,fs,ea,l,q3⟩:=mH q2;obtain rfl:ov=Value.ref a:=rx;exact wX I2 ea c n l ry fun s3 I3=>⟨Z,_,I3,q3⟩
def LM(c:Cls X.K C)(n:eU X.K C f)(ha:PE X o ta)(hv:PE X value tv):PS X (.AugAssign (.Attribute o f Xg) .Add value pos) (Mn C f ta tv):=fun Uk s Z H D I h=>by
 refine wpAny_AugAssign_AttributeAny (thn (ha Uk s Z H _ I h) fun ov s1 ⟨x,H1,I1,rx,q1⟩=>?_);obtain⟨a,rfl,q2⟩:=aR q1;obtain⟨dx,fs,ea,q3⟩:=mH q2;obtain⟨v,l,q⟩:=cP q3;obtain rfl:ov=Value.ref a:=rx;refine uP I1 ea c n l fun u s2 I2 ru=>thn (hv Uk s2 Z H1 _ I2 q) fun w3 s3 ⟨y,H2,I3,ry,q4⟩=>?_;obtain⟨i,rfl,q5⟩:=eJ q4;obtain⟨j,rfl,q6⟩:=eJ q5;obtain⟨dx',XO,ea',l',q7⟩:=mH q6;refine thn (OP Uk s3 Z H2 (.int i) (.int j) u w3 (fun z H3=>z=.int (i+j)/\H3=H2) I3 ru ry ⟨i,j,rfl,rfl,rfl,rfl⟩) fun w4 s4 ⟨z,H3,I4,rz,ez,eH⟩=>?_;subst ez eH;exact wX I4 ea' c n l' rz fun s5 I5=>⟨Z,_,I5,q7⟩
end
section
mutual
example:=[Str.ofString x,Str×V,((Str.ofString y,v)::r),fs.lookup f]
variable{C dx:Addr}{fs:List 1e0}{k:Addr->List 1e0->Prop}{m f:Str}{sp:Sp}{E:XK}{ta tv:TE}{t:TA}{Q:VK}{D:Ends}{v u:V}{r:List 1e0}
def DX{u:Tg k}:@iN C (some (.ins C dx fs)) k u=k dx fs:=by simp[iN]
def Qv:Kh C f ta Z H Q=ta Z H fun x H1=>bG x fun a=>iN C (H1 a) fun _ fs=>fM 3e0 fun v=>Q v H1:=rfl
def OC:Mv C f ta tv D Z H=tv Z H fun y H1=>ta Z H1 fun x H2=>bG x fun a=>iN C (H2 a) fun dx fs=>fs.length < 1000/\D.nx Z (Ul H2 a (.ins C dx (iT f y fs))):=rfl
def Nz:Mn C f ta tv D Z H=ta Z H fun x H1=>bG x fun a=>iN C (H1 a) fun _ fs=>fM 3e0 fun v=>tv Z H1 fun y H2=>gT v fun i=>gT y fun j=>iN C (H2 a) fun dx XO=>XO.length < 1000/\D.nx Z (Ul H2 a (.ins C dx (iT f (.int (i+j)) XO))):=rfl
def HK:Ct C m sp [] E ta t Z H Q=ta Z H fun x H1=>bG x fun a=>iN C (H1 a) fun _ fs=>fs.lookup m=none/\t Z H1 fun vs H2=>sp (.ref a::vs) H2 Q E:=by
 unfold Ct
 congr 1
 funext x H1;refine propext ⟨fun⟨a,dx,fs,e,e1,l,h⟩=>?_,fun h=>?_⟩
 ·subst e;show iN C (H1 a) _;rw[e1,DX];simp only[ϛ] at h;exact⟨l,h⟩
 ·obtain⟨a,rfl,h⟩:=aR h;obtain⟨dx,fs,e1,l,h⟩:=mH h;exact⟨a,dx,fs,rfl,e1,l,by simpa only[ϛ] using h⟩
def Ou:EY C sp [] E t Z H Q=t Z H fun vs H1=>∀ x dx,H1 x=none->H1 dx=none->dx≠x->sp (.ref x::vs) (Ul (Ul H1 dx (.own x)) x (.ins C dx [])) (fun v H2=>v=.Um/\Q (.ref x) H2) E:=by
 unfold EY;simp only[ϛ]
def IQ{x y:String}:(Str.ofString x=Str.ofString y)=(x=y):=cH
def HJ{x y:String}:List.lookup 0e0 2e0=if x=y then some v else List.lookup 0e0 r:=by
 by_cases h:x=y
 ·subst h;simp[List.lookup]
 ·have:(Str.ofString x==Str.ofString y)=false:=Β4.mpr fun z=>h (IQ▸z);simp only[List.lookup,this,if_neg h]
def Fn:List.lookup x ([]:List 1e0)=none:=rfl
def OA{x y:String}:iT 0e0 u 2e0=if y=x then (Str.ofString y,u)::r else (Str.ofString y,v)::iT 0e0 u r:=by
 rw[show iT 0e0 u 2e0=(if Str.ofString y=Str.ofString x then (Str.ofString y,u)::r else (Str.ofString y,v)::iT 0e0 u r) from rfl];by_cases h:y=x
 ·rw[if_pos h,if_pos (by rw[h])]
 ·rw[if_neg h,if_neg fun z=>h (IQ▸z)]
def Lc:iT x u []=[(x,u)]:=rfl
end
end
mutual
example:=[.UJ (zQ Ts) (.tup xs)]
def GO:List V->Option (List String)
 | []=>some []
 | .ty T::r=>(GO r).map (T::·)
 | _=>none
def zQ(Ts:List String):Obj:={cls:=.type "tuple",data:=.seq (Ts.map Value.type).toArray}
def MT(t:TA):TE:=fun Z H Q=>t Z H fun xs H1=>fM (GO xs) fun Ts=>xs.length<=sizeLine/\∀ p,H1 p=none->Q (.ref p) (Ul H1 p 0e0)
theorem JZ:∀ {xs:List V} {Ts:List String} {us:List Value},GO xs=some Ts->Uq xs us->us=Ts.map Value.type
 | [],Ts,us,h,r=>by cases h;exact r.zero
 | x::xs,Ts,us,h,r=>by
  cases x with
  | ty T =>
   simp only[GO,ϗ] at h;obtain⟨Us,e,rfl⟩:=h;cases r with
   | cons r1 r2 =>
    cases r1;rw[JZ e r2];rfl
  | _=>cases h
def LI{t:TA}{x1}(h:PA X es t):PE X (.Tuple es x1 pos) (MT t):=by
 intro Uk s Z H Q I hq;refine wpAny_Tuple_spliced (thn (h pos Uk s Z H _ I hq) fun us s1 ⟨xs,H1,I1,r,q1⟩=>?_);obtain⟨Ts,e,z,q⟩:=cP q1;refine⟨by rw[<- r.length];exact z,?_⟩;have hf:H1 s1.heap.objs.size=none:=I1.Ut.fresh (Θ _);have eu:=JZ e r;refine⟨.ref s1.heap.objs.size,Ul H1 s1.heap.objs.size 0e0,I1.laid (t':=s1.toks) (fun b u e=>Ε _ e) (Θ _) ?_,rfl,q _ hf⟩;refine⟨?_,z,us,r,⟨_,Ρ _ rfl,rfl,_,rfl⟩⟩;subst eu;exact Ρ _ rfl
def My:Option HO->Option String
 | some (.tup _)=>some "tuple"
 | some (.lst _)=>some "list"
 | _=>none
def rN(H:Hp):V->Option String
 | .int _=>some "int"
 | .str _=>some "str"
 | .Um=>some "NoneType"
 | .ref p=>My (H p)
 | _=>none
def CZ:String->String->Bool
 | "tuple","tuple"=>true
 | "list","list"=>true
 | _,_=>false
def Ms:List V->Hp->VK->Prop:=fun vs H Q=>on2 vs fun x y=>bG y fun p=>∃ Ts xs,H p=some 0e0/\Ts=["list","tuple"]/\fM (rN H x) fun kd=>Q (.bl (Ts.any (CZ kd))) H
def Dk{k:V->V->Prop}(h:on2 vs k):∃ v w,vs=[v,w]/\k v w:=by
 unfold on2 at h;split at h
 ·exact⟨_,_,rfl,h⟩
 ·exact h.elim
end
section
def Fc:fA X (.builtin "isinstance") Ms:=fun Uk s Z H xs us Q I r h=>by
 obtain⟨x,y,rfl,h1⟩:=Dk h;obtain⟨p,rfl,Ts,zs,ep,hT,h2⟩:=aR h1;obtain⟨kd,ek,q⟩:=cP h2;obtain⟨u,w',rfl,r1,r2⟩:=vals2 r;cases r2;have fin:∀ tk:Nat,EP X Uk Z Q (.bool (Ts.any (CZ kd))) {s with toks:=tk}:=fun tk=>⟨.bl _,H,I.tok _,rfl,q⟩;have hp:s.heap.get? p=some {cls:=.type "tuple",data:=.seq (Ts.map Value.type).toArray}:=(I.Ut p _ ep).1;cases x with
 | int n =>
  cases ek;obtain⟨t,rfl⟩:=r1;subst hT;exact IsiPair.tupleOfB (Tx:="int") (cs:=[.type "list",.type "tuple"]) (.cons (.of_false_int rfl F.isi_meta_list (by rfl)) (.cons (.of_false_int rfl F.isi_meta_tuple (by rfl)) .nil)) rfl hp rfl fin
 | str z =>
  cases ek;obtain⟨t,rfl⟩:=r1;subst hT;exact IsiPair.tupleOfB (Tx:="str") (cs:=[.type "list",.type "tuple"]) (.cons (.of_false_str rfl F.isi_meta_list (by rfl)) (.cons (.of_false_str rfl F.isi_meta_tuple (by rfl)) .nil)) rfl hp rfl fin
 | Um =>
  cases ek;cases r1;subst hT;exact IsiPair.tupleOfB (Tx:="NoneType") (cs:=[.type "list",.type "tuple"]) (.cons (.of_false_none rfl F.isi_meta_list (by rfl)) (.cons (.of_false_none rfl F.isi_meta_tuple (by rfl)) .nil)) rfl hp rfl fin
 | ref a =>
  cases r1;simp only[rN] at ek;unfold My at ek;split at ek
  ·next e =>
   cases ek;obtain⟨o,eo,c⟩:=Uo.AQ I (iJ.of e);have ty:s.TypeIs (.ref a) "tuple":=⟨o,eo,c⟩;subst hT;exact IsiPair.tupleOfB (Tx:="tuple") (cs:=[.type "list",.type "tuple"]) (.cons (.of_false_tuple rfl F.isi_meta_list (by rfl)) (.cons (.of_true F.isi_meta_tuple F.isi_self_tuple) .nil)) ty hp rfl fin
  ·next e =>
   cases ek;obtain⟨o,eo,c⟩:=Uo.sU I (eY.of e);have ty:s.TypeIs (.ref a) "list":=⟨o,eo,c⟩;subst hT;exact IsiPair.tupleOfB (Tx:="list") (cs:=[.type "list",.type "tuple"]) (.cons (.of_true F.isi_meta_list F.isi_self_list) (.cons (.of_false_list rfl F.isi_meta_tuple (by rfl)) .nil)) ty hp rfl fin
  ·cases ek
 | _=>cases ek
end
section
variable{Q:VK}{x:V}{p:Addr}{t:TA}{i:Int}{z:Str}
def OL:MT t Z H Q=t Z H fun xs H1=>fM (GO xs) fun Ts=>xs.length<=sizeLine/\∀ p,H1 p=none->Q (.ref p) (Ul H1 p (.UJ (zQ Ts) (.tup xs))):=rfl
def OM{S:String}:GO [.ty S,.ty T]=some [S,T]:=rfl
def Of:Ms [x,.ref p] H Q = ∃ Ts xs,H p=some (.UJ (zQ Ts) (.tup xs))/\Ts=["list","tuple"]/\fM (rN H x) fun kd=>Q (.bl (Ts.any (CZ kd))) H:=rfl
end
def Lj{a b:Str}:oS (.str a) (.str b)=(a==b):=rfl
section
variable{o:Obj}
def Uo.Me(I:Uo X Uk Z H s)(e:H a=some (.UJ o (.dK kvs)))(U5:∀ ob u,X.H₀ a≠some (.UJ ob u)):Uo X Uk Z (Ul H a (.dK kvs)) s:=by
 have nn:∀ {b:Addr},H b=none->b≠a:=fun h z=>by subst z;rw[e] at h;cases h
 refine⟨I.ok,I.os,I.bare,⟨I.base.keep,I.base.slot,fun b ob q n hx=>?_,I.base.there,fun b xs q=>?_,fun b ob u q=>?_,fun b ps q=>?_⟩,I.loc,I.cell,?_,fun x c hc=>?_,fun p hp=>?_,fun b u q=>?_,I.len⟩
 ·have:=I.base.free b ob q n hx;rw[aE (nn this)];exact this
 ·have:=I.base.yC b xs q;rw[aE (dB this e (by intro z;cases z))];exact this
 ·have h1:=I.base.uL b ob u q;rw[aE (fun z=>by subst z;exact U5 _ _ q)];exact h1
 ·obtain⟨more,h1⟩:=I.base.yB b ps q;exact⟨more,by rw[aE (dB h1 e (by intro z;cases z))];exact h1⟩
 ·rw[aE (nn I.free)];exact I.free
 ·rw[aE (nn (I.j6 x c hc))];exact I.j6 x c hc
 ·obtain⟨h1,h2,h3⟩:=I.pin p hp;exact⟨h1,by rw[aE (nn h2)];exact h2,h3⟩
 ·have own:∀ b c,H b=some (.own c)->Ul H a (.dK kvs) b=some (.own c):=fun b c q=>by rw[aE (dB q e (by intro z;cases z))];exact q
  have tup:∀ b xs,H b=some (.tup xs)->Ul H a (.dK kvs) b=some (.tup xs):=fun b c q=>by rw[aE (dB q e (by intro z;cases z))];exact q
  by_cases hb:b=a
  ·subst hb;rw[aA] at q;cases q;exact eF.sO (I.Ut b _ e).2 (fun _ _ _ z=>z) (fun b q=>own b _ q) tup
  ·rw[aE hb] at q;exact(I.Ut b u q).sO (fun _ _ _ z=>z) (fun b q=>own b _ q) tup
end
mutual
example:=[Ul H a (.dK kvs),.UJ o (.dK kvs),.UJ ob u]
def MU(H₀:Hp)(D:Ends):Ends :=
 {nx:=fun Z H=>∃ a o kvs,H a=some 1e0/\(∀ ob u,H₀ a≠some 2e0)/\D.nx Z 0e0
  bk:=fun Z H=>∃ a o kvs,H a=some 1e0/\(∀ ob u,H₀ a≠some 2e0)/\D.bk Z 0e0
  ct:=fun Z H=>∃ a o kvs,H a=some 1e0/\(∀ ob u,H₀ a≠some 2e0)/\D.ct Z 0e0
  rt:=fun v H=>∃ a o kvs,H a=some 1e0/\(∀ ob u,H₀ a≠some 2e0)/\D.rt v 0e0}
def MR(H₀:Hp)(t:TS):TS:=fun D Z H=>t (MU H₀ D) Z H
def LP{st:Stmt}{t:TS}(h:PS X st t):PS X st (MR X.H₀ t):=fun Uk s Z H D I hq =>
 thn (h Uk s Z H _ I hq) fun f s' q=>by
  cases f with
  | next=>obtain⟨Z',H',I',a,o,kvs,e,U5,q⟩:=q;exact⟨Z',_,I'.Me e U5,q⟩
  | brk=>obtain⟨Z',H',I',a,o,kvs,e,U5,q⟩:=q;exact⟨Z',_,I'.Me e U5,q⟩
  | cont=>obtain⟨Z',H',I',a,o,kvs,e,U5,q⟩:=q;exact⟨Z',_,I'.Me e U5,q⟩
  | ret u=>obtain⟨v,Z',H',I',r,a,o,kvs,e,U5,q⟩:=q;exact⟨v,Z',_,I'.Me e U5,r,q⟩
def P4(ty td:TE):TE:=fun Z H Q=>ty Z H fun y H1=>td Z H1 fun x H2=>bG x fun a=>dE (H2 a) fun kvs=>fM (jI y) fun k=>Q (.bl (aX kvs k).isSome) H2
def Hg(td ty:TE):TE:=fun Z H Q=>td Z H fun x H1=>bG x fun a=>dE (H1 a) fun _=>ty Z H1 fun y H2=>dE (H2 a) fun kvs=>fM (jI y) fun k=>fM (aX kvs k) fun v=>Q v (Ul H2 a (.dK (rM kvs k)))
def Hf(td ty tx:TE):TE:=fun Z H Q=>td Z H fun x H1=>bG x fun a=>dE (H1 a) fun _=>ty Z H1 fun y H2=>tx Z H2 fun z H3=>dE (H3 a) fun kvs=>fM (jI y) fun k=>Q ((aX kvs k).getD z) H3
def Ah{y:V}{k:Key}(h:jI y=some k):y=kV k:=by
 cases y<;>simp[jI] at h<;>subst h<;>rfl
end
section
mutual
example:=[ho Uk s Z H _ I h,(thn 0e0 fun u s1 ⟨x,H1,I1,rx,q1⟩=>?_),he Uk s1 Z H1 _ I1 q3,(.inl ⟨UE,.inl e0⟩),(thn (hf Uk s2 Z H2 _ I2 q4) fun fv s3 ⟨z,H3,I3,rz,q5⟩=>Calls.spliced_nil ?_),bJ X.prog X.w]
variable{o e f:Expr}{apos Uv:Pos}{td ty tx:TE}
def Jb(ho:PE X o td)(he:PE X e ty)(m:M1 X o "pop" apos e Uv):PE X (.Call (.Attribute o "pop" apos) [e] [] Uv) (Hg td ty):=fun Uk s Z H Q I h=>by
 refine wpAny_Call_method m.base m.UO m.line Γ3 PySem.F.slot_dict_pop PySem.F.type_dict_pop 1e0;obtain⟨a,rfl,q2⟩:=aR q1;obtain⟨UE,e0,q3⟩:=dI q2;obtain rfl:u=Value.ref a:=rx;obtain⟨t1,t2,_⟩:=qF I1 3e0;refine⟨t1,t2,?_⟩;rw[m.trees];refine Β1 rfl (Δ8 (Δ3 (thn 2e0 fun iv s2 ⟨y,H2,I2,ry,q4⟩=>Calls.spliced_nil ?_)));obtain⟨kvs,ea,q5⟩:=dI q4;obtain⟨k,ek,q6⟩:=cP q5;obtain⟨v,l,q7⟩:=cP q6;cases Ah ek;exact Qf I2 ea ry l (.inl rfl) fun w' s3 I3 Vi=>⟨v,_,I3,Vi,q7⟩
def rB(hu:X.A.units+1 < cLine)(ho:PE X o td)(he:PE X e ty)(hf:PE X f tx)(m:M2 X o "get" apos e f Uv):PE X (.Call (.Attribute o "get" apos) [e,f] [] Uv) (Hf td ty tx):=fun Uk s Z H Q I h=>by
 refine wpAny_Call_method m.base m.UO m.line Γ3 Γ7 PySem.F.type_dict_get 1e0;obtain⟨a,rfl,q2⟩:=aR q1;obtain⟨UE,e0,q3⟩:=dI q2;obtain rfl:u=Value.ref a:=rx;obtain⟨t1,t2,_⟩:=qF I1 3e0;refine⟨t1,t2,?_⟩;rw[m.trees];refine Β1 rfl (Δ8 (Δ3 (thn 2e0 fun iv s2 ⟨y,H2,I2,ry,q4⟩ =>
  Δ3 4e0)))
 obtain⟨kvs,ea,q6⟩:=dI q5;obtain⟨k,ek,q7⟩:=cP q6;cases Ah ek;exact Nr hu I3 (DGet.k ea) ry rz fun w' s4 I4 Vi=>⟨_,H3,I4,Vi,q7⟩
def Et(hu:X.A.units+1 < cLine)(hi:PE X e ty)(ho:PE X o td):PC X .In e o (P4 ty td):=fun Uk s Z H Q I h=>by
 refine thn (hi Uk s Z H _ I h) fun iv s1 ⟨y,H1,I1,ry,q1⟩=>thn (ho Uk s1 Z H1 _ I1 q1) fun u s2 ⟨x,H2,I2,rx,q2⟩=>?_;obtain⟨a,rfl,q3⟩:=aR q2;obtain⟨kvs,e0,q4⟩:=dI q3;obtain⟨k,ek,q5⟩:=cP q4;obtain rfl:u=Value.ref a:=rx;cases Ah ek;exact SX hu I2 (DGet.k e0) ry fun s3 I3=>⟨.bl (aX kvs k).isSome,H2,I3,rfl,q5⟩
def DN(td:TE):TE:=fun Z H Q=>td Z H fun x H1=>bG x fun a=>dE (H1 a) fun _=>Q .Um (Ul H1 a (.dK []))
def Gk(ho:PE X o td)(UX:attributeBase o "clear" X.env (eval o X.env)=eval o X.env:=by rfl)(UY:(apos.endLine==Uv.line)=true:=by rfl):PE X (.Call (.Attribute o "clear" apos) [] [] Uv) (DN td):=fun Uk s Z H Q I h=>by
 refine wpAny_Call_method0_late UX UY (thn 0e0 fun v s1 ⟨x,H1,I1,r1,q1⟩=>?_);obtain⟨a,rfl,q2⟩:=aR q1;obtain⟨kvs,e0,q3⟩:=dI q2;obtain rfl:v=Value.ref a:=r1;obtain⟨t1,t2,_⟩:=qF I1 (.inl ⟨kvs,.inl e0⟩);refine⟨"dict","dict.clear",Γ3,PySem.F.slot_dict_clear,PySem.F.type_dict_clear,t1,t2,Β1 rfl (PySem.evalArgs_none ?_)⟩;obtain⟨z,hd,vs,rel,dd⟩:=nN I1.Ut e0;refine Δ0 PySem.F.slot_dict_clear dd.typeIs PySem.F.entry_dict_clear (PySem.F.args_dict_clear_1 _) (meets_dict_clear 5e0 a)
  ⟨vs,dd,by rw[<- rel.length];exact z,fun h' VN hs=>⟨.Um,_,?_,rfl,q3⟩⟩
 have he:∃ q,h'.get? a=some q:=let ⟨q,_,_,hq,_⟩:=VN;⟨q,hq⟩;exact mX I1 (by rw[e0];exact True.intro) hs he (oC (Α2 _) hd .nil VN)
def Mo(td ty tx:TE):TE:=fun Z H Q=>td Z H fun x H1=>bG x fun a=>dE (H1 a) fun _=>ty Z H1 fun y H2=>tx Z H2 fun z H3=>dE (H3 a) fun kvs=>fM (jI y) fun k=>kvs.length < sizeLine /\
 (∀ v,aX kvs k=some v->Q v H3)/\(aX kvs k=none->Q z (Ul H3 a (.dK (aS kvs k z))))
theorem Jc(ho:PE X o td)(he:PE X e ty)(hf:PE X f tx)(m:M2 X o "setdefault" apos e f Uv):PE X (.Call (.Attribute o "setdefault" apos) [e,f] [] Uv) (Mo td ty tx):=fun Uk s Z H Q I h=>by
 refine wpAny_Call_method m.base m.UO m.line Γ3 PySem.F.slot_dict_setdefault PySem.F.type_dict_setdefault 1e0;obtain⟨a,rfl,q2⟩:=aR q1;obtain⟨UE,e0,q3⟩:=dI q2;obtain rfl:u=Value.ref a:=rx;obtain⟨t1,t2,_⟩:=qF I1 3e0;refine⟨t1,t2,?_⟩;rw[m.trees];refine Β1 rfl (Δ8 (Δ3 (thn 2e0 fun iv s2 ⟨y,H2,I2,ry,q4⟩ =>
  Δ3 4e0)))
 obtain⟨kvs,ea,q6⟩:=dI q5;obtain⟨k,ek,hl,q7,q8⟩:=cP q6;cases Ah ek;obtain⟨z',hd,vs,rel,dd⟩:=nN I3.Ut ea;refine Δ0 PySem.F.slot_dict_setdefault dd.typeIs PySem.F.entry_dict_setdefault (PySem.F.args_dict_setdefault_3 _ _ _) (kt_meets_setdefault 5e0 a (nP ry) hd fv)
  ⟨vs,dd,by rw[<- rel.length];exact z',fun v hv=>?_,fun hv h' VN hs=>?_⟩
 ·have:=rel.val k;rw[hv] at this;cases l:aX kvs k with
  | none=>rw[l] at this;exact this.elim
  | some w=>rw[l] at this;exact⟨w,H3,I3.tok _,this,q7 w l⟩
 ·have:=rel.val k;rw[hv] at this;cases l:aX kvs k with
  | some w=>rw[l] at this;exact this.elim
  | none =>
   have he:∃ q,h'.get? a=some q:=let ⟨q,_,_,hq,_⟩:=VN;⟨q,hq⟩;exact⟨z,_,mX I3 (by rw[ea];exact True.intro) hs he (oC (by have:=iH kvs k z;omega) hd (rel.put k rz) VN),rz,q8 l⟩
end
end
section
mutual
example:=[]
variable{td ty tx:TE}{H₀:Hp}{Q:VK}{t:TS}{D:Ends}{v:V}
def OD:MR H₀ t D Z H=t (MU H₀ D) Z H:=rfl
def NK:P4 ty td Z H Q=ty Z H fun y H1=>td Z H1 fun x H2=>bG x fun a=>dE (H2 a) fun kvs=>fM (jI y) fun k=>Q (.bl (aX kvs k).isSome) H2:=rfl
def Ky:Hg td ty Z H Q=td Z H fun x H1=>bG x fun a=>dE (H1 a) fun _=>ty Z H1 fun y H2=>dE (H2 a) fun kvs=>fM (jI y) fun k=>fM (aX kvs k) fun v=>Q v (Ul H2 a (.dK (rM kvs k))):=rfl
def HI:Hf td ty tx Z H Q=td Z H fun x H1=>bG x fun a=>dE (H1 a) fun _=>ty Z H1 fun y H2=>tx Z H2 fun z H3=>dE (H3 a) fun kvs=>fM (jI y) fun k=>Q ((aX kvs k).getD z) H3:=rfl
def HH:DN td Z H Q=td Z H fun x H1=>bG x fun a=>dE (H1 a) fun _=>Q .Um (Ul H1 a (.dK [])):=rfl
def Kz:Mo td ty tx Z H Q=td Z H fun x H1=>bG x fun a=>dE (H1 a) fun _=>ty Z H1 fun y H2=>tx Z H2 fun z H3=>dE (H3 a) fun kvs=>fM (jI y) fun k=>kvs.length < sizeLine/\(∀ v,aX kvs k=some v->Q v H3)/\(aX kvs k=none->Q z (Ul H3 a (.dK (aS kvs k z)))):=rfl
end
end
def Mq:V->V->Hp->VK->Prop:=fun x y H Q=>bG x fun p=>gT y fun i=>eQ (H p) fun xs=>fM (gL xs i) fun v=>Q v H
def Qa:TIp:=fun x y H Q=>gT x fun i=>gT y fun j=>Q (.int (i+j)) H
section
theorem Rg:PGet X Mq:=fun Uk s Z H o i ov iv Q I ro ri h=>by
 obtain⟨p,rfl,h1⟩:=aR h;obtain⟨k,rfl,h2⟩:=eJ h1;obtain⟨xs,e,h3⟩:=fL h2;obtain⟨v,ea,q⟩:=cP h3;cases ro;obtain⟨t,rfl⟩:=ri;obtain⟨Up,r,pl,hz⟩:=I.list (eY.of e);obtain⟨j,g1,g2,g3,g4,g5⟩:=sQ ea;obtain⟨w,ew,Vi⟩:=r.get g2;have hl:=r.length;have hn:=line63;have fin:EP X Uk Z Q w s:=⟨v,H,I,Vi,q⟩;by_cases h0:0<=k
 ·have hj:k.toNat=j:=by
   rw[seqIndex_of h0 g5] at g1;exact ϖ g1
  exact wpAny_getItem_list pl.isList h0 (by omega) (by rw[hj];simpa using ew) fin
 ·have hj:(k+(Up.toArray.size:Int)).toNat=j:=by
   rw[seqIndex_neg (by omega) g4] at g1;rw[Η,<- hl];exact ϖ g1
  exact wpAny_getItem_list_neg pl.isList (by omega) (by rw[Η];omega) (by omega) (by rw[hj];simpa using ew) fin
def Eg:PIp X .Add Qa:=fun Uk s Z H x y v u Q I r1 r2 h=>by
 obtain⟨i,rfl,h1⟩:=eJ h;obtain⟨j,rfl,q⟩:=eJ h1;exact OQ Uk s Z H _ _ v u Q I r1 r2 ⟨i,j,rfl,rfl,q⟩
end
structure PY(P:Params)(K:q0B)(d:Addr):Prop where
 ex:∃ es n,K.lookup d=some {cls:=.type "dict",data:=.dict es n}/\PySem.W.KeysLit P es.toList
noncomputable def MO(tab:List (Str×Sp))(tk:TE)(t:TA):TE:=fun Z H Q=>tk Z H fun y H1=>BL y fun x=>fM (tab.lookup x) fun sp=>t Z H1 fun vs H2=>sp vs H2 Q E0
theorem LH{p pos':Pos}{d:Addr}{ke e:Expr}{tk:TE}{t:TA}{k:Nat}{tab:List (Str×Sp)}(hg:Gl X x)(hm:X.mg x=some (.ref d))(M:PY X.w.params X.K d)(hk:PE X ke tk)(hs:J8 ke)
    (F:∀ y sp,tab.lookup y=some sp->∃ f fd ps,PySem.W.nsIn X.K d y=some (some (.ref f))/\fG X.prog X.w X.K X.mg X.base U7 k f fd ps sp/\PySem.W.keepIn X.K (.ref f)=true/\Binds X.K fd ps [])
    (hr:Room k X.A) (ha:PA X (e::es) t) (hd:(x==("__debug__":Str))=false:=by decide) (he:starEach (e::es) X.env=(false,eval e X.env)::starEach es X.env:=by rfl) (UU:(backTo pos (starEach es X.env)).any (·.1)=false:=by rfl)
    (hc:eval (.Call (.Subscript (.Name x p) ke pos') (e::es) [] pos) X.env=(do
      let f <- eval (.Subscript (.Name x p) ke pos') X.env
      callWith pos f [] (backTo pos (starEach (e::es) X.env)) (backToKw pos (keywordEach [] X.env))):=by rfl) :
    PE X (.Call (.Subscript (.Name x p) ke pos') (e::es) [] pos) (MO tab tk t):=fun Uk s Z H Q I h=>by
  obtain⟨Zu,n',lk,kl⟩:=M.ex;refine PyProof.Rows.Call_ (EV (T:="dict") PySem.F.slot_dict_getitem.lookup hs (thn (pF (v:=.ref d) hg hm rfl hd Uk s Z H (fun v H'=>v=.ref d/\tk Z H' _) I ⟨rfl,h⟩) fun o s1 ⟨v,H1,I1,r1,ev,q1⟩=>?_)) hc;subst ev;obtain rfl:o=Value.ref d:=r1;refine thn (hk Uk s1 Z H1 _ I1 q1) fun i s2 ⟨y,H2,I2,ry,q2⟩=>?_;obtain⟨z,rfl,q3⟩:=IY q2;obtain⟨sp,el,q4⟩:=cP q3;obtain⟨f,fd,ps,Wn,hf,hkp,hb⟩:=F z sp el;obtain⟨t',rfl⟩:=ry;obtain⟨m,fr⟩:=I2.fr;refine⟨⟨_,I2.kIn _ _ lk,rfl⟩,PySem.W.topGetDict_K fr I2.mod.kin lk kl Wn ?_⟩;refine PySem.W.callWith_K (h₀:=X.base) I2.mod.kin hkp (thn (ha pos Uk _ Z H2 _ (I2.tok _) q4) fun us s3 ⟨vs,H3,I3,r3,q5⟩=>⟨I3.kIn,?_⟩) he UU;exact AB (E:=E0) hf hr hb .nil pass0 I3 r3 (by simpa using q5)
section
mutual
example:=[]
variable{tab:List (Str×Sp)}{tk to ti te:TE}{t:TA}{Q:VK}{D:Ends}{p:Addr}{i j:Int}{V0:V->V->Hp->VK->Prop}{YS:TIp}{V2:TSet}
def NJ:MO tab tk t Z H Q=tk Z H fun y H1=>BL y fun x=>fM (tab.lookup x) fun sp=>t Z H1 fun vs H2=>sp vs H2 Q E0:=rfl
def NY:Mq (.ref p) (.int i) H Q=eQ (H p) fun xs=>fM (gL xs i) fun v=>Q v H:=rfl
def Qy:Qa (.int i) (.int j) H Q=Q (.int (i+j)) H:=rfl
def NB:MM to ti te V0 YS V2 D Z H=to Z H fun o H1=>ti Z H1 fun i H2=>V0 o i H2 fun x H3=>te Z H3 fun y H4=>YS x y H4 fun z H5=>V2 o i z H5 fun H6=>D.nx Z H6:=rfl
def Qo{i:Nat}{ti:TIp}:RY i te ti D Z H = ∃ x,Z[i]?=some (some x)/\te Z H fun y H1=>ti x y H1 fun z H2=>D.nx (Z.set i (some z)) H2:=rfl
end
end
mutual
example:=[]
def intKeys:List (Key×V)->Option (List Int)
 | []=>some []
 | (.inl i,_)::r=>(intKeys r).map (i::·)
 | _=>none
theorem uT:∀ {kvs:List (Key×V)} {ns:List Int},intKeys kvs=some ns->kvs.length=ns.length/\∀(j:Nat) (k:Key) (x:V),kvs[j]?=some (k,x)->∃ i:Int,k=.inl i/\ns[j]?=some i
 | [],ns,h=>by cases h;exact⟨rfl,fun j k x e=>by simp at e⟩
 | (k,v)::kvs,ns,h=>by
  cases k with
  | inl i =>
   simp only[intKeys,ϗ] at h;obtain⟨ms,e,rfl⟩:=h;obtain⟨l,f⟩:=uT e;refine⟨by simp[l],fun j k x ej=>?_⟩;cases j with
   | zero=>simp only[Ξ,Ο,Prod.mk.injEq] at ej;exact⟨i,ej.1.symm,rfl⟩
   | succ j=>exact f j k x (by simpa using ej)
  | _=>cases h
def Ee:∀ {vs:List Value},vs.length=ns.length->(∀(j:Nat) (v:Value),vs[j]?=some v->∃ i t,ns[j]?=some i/\v=Value.int i t)->IntsAre vs ns:=by
 induction ns with
 | nil =>
  intro vs hl _;cases vs with
  | nil=>exact .nil
  | cons _ _=>simp at hl
 | cons n ns ih =>
  intro vs hl h;cases vs with
  | nil=>simp at hl
  | cons v vs =>
   obtain⟨i,t,e,rfl⟩:=h 0 v rfl;cases e;exact .cons _ _ (ih (by simpa using hl) fun j v e=>h (j+1) v (by simpa using e))
def eF.there{o:HO}(x:eF P w H h a o):∃ ob,h.get? a=some ob:=by
 cases o with
 | lst xs=>obtain⟨_,_,_,_,e⟩:=x;exact⟨_,e⟩
 | tup xs=>obtain⟨_,_,_,o,e,_⟩:=x;exact⟨_,e⟩
 | dK kvs=>obtain⟨_,_,_,_,o,_,_,e,_⟩:=x;exact⟨_,e⟩
 | dT kvs=>obtain⟨_,_,_,_,o,_,_,e,_⟩:=x;exact⟨_,e⟩
 | set S n=>obtain⟨o,_,_,_,e,_⟩:=x;exact⟨_,e⟩
 | ins C dx fs=>obtain⟨_,_,_,e,_⟩:=x;exact⟨_,e⟩
 | own y=>obtain⟨_,e⟩:=x;exact⟨_,e⟩
 | xd fs=>obtain⟨_,⟨_,_,_,e,_⟩,_⟩:=x;exact⟨_,e⟩
 | rng lo hi=>obtain⟨_,_,_,e⟩:=x;exact⟨_,e⟩
 | UJ ob u=>obtain⟨e,_⟩:=x;exact⟨_,e⟩
 | Yd ps=>exact⟨_,(show h.get? a=some _ from x)⟩
 | met f y=>exact⟨_,(show h.get? a=some _ from x)⟩
 | ext φ=>obtain⟨_,⟨_,e⟩,_⟩:=x;exact⟨_,e⟩
end
section
variable{Q:VK}{p:Addr}
end
section
variable{h':Heap}
end
noncomputable def SOk(t:Bool)(h:Heap)(a:Addr)(us:Array Value):Prop:=match t with
 | true=>h.IsTuple a us
 | false=>h.IsList a us
section
variable{prog:Program}
end
section
variable{prog:Program}
end
section
variable{t:Bool}
end
section
variable{elts:List Expr}{k:Nat}{tp:Pos}
end
section
variable{D:Ends}{g:TG}{tb:TS}{as:TA}
end
structure kM(X:Cx)(sc:Scope)(cl:List (Str×Addr))(x y0:Str)(fr:List Nat)(N:List Str):Prop where
 kind:sc.kind=.function
 vG:∀ y∈sc.names,y.2≠.cell
 names:∀ y∈sc.names,y.2=.local->sc.names.lookup y.1=some .local
 Bc:closureFor sc X.env=pure cl
 sub:∀ y c,cl.lookup y=some c->X.env.cells.lookup y=some c
 has:∀ y,((relabel sc X.env).names.lookup y=some .cell\/(relabel sc X.env).names.lookup y=some .free)->∃ c,cl.lookup y=some c
 XG:sc.names.lookup x=some .local
 Md:sc.names.lookup y0=some .local
 nd:N.Nodup
 N0:N=x::y0::fr.map fun j=>X.N.getD j x
 Xv:∀ j∈fr,∃ y,X.N[j]?=some y/\X.env.kindOf y=some .cell/\((relabel sc X.env).names.lookup y=some .cell\/(relabel sc X.env).names.lookup y=some .free)
section
variable{sc:Scope}{C:Addr}{y0:Str}{N:List Str}
def Hx(I:Uo X Uk Z H s)(S:kM X sc cl x y0 fr N)(hf:∀ b∈fp,lQ X Uk H b)(VT:∀ b∈fp,b < s.heap.objs.size)(hC:s.heap.objs.size<=C) : (dA X sc cl C N s H fp (X.pn++Uk)).Ok where
 mod:=I.ok.mod
 kind:=S.kind
 glob:=I.ok.glob
 blt:=I.ok.blt
 above:=hC
 inj:=fun n z c h1 h2=>I.ok.inj n z c (S.sub n c h1) (S.sub z c h2)
 has:=S.has
 cab:=fun _ _ h=>by cases h
 hd:=I.ok.hd
 frames:=I.ok.frames
 stk:=.inl rfl
 exf:=fun b hb=>⟨Υ (Ω (VT b hb) hC),fun n c e=>(hf b hb).2.2.2.2.1 n c (S.sub n c e)⟩
 bs:=I.bs
 bsz:=Χ I.ok.bsz I.sz
 BF:=fun b o e hb=>by
  rcases(hf b hb).2.2.2.1 with z|z
  ·exact I.ok.BF b o e z
  ·exact absurd (Ω (Λ e) (Χ I.ok.bsz z)) (Α0 _)
 Fp:=fun b hb hm=>by
  rcases Α.mp (I.rG b hm) with z|z
  ·exact(hf b hb).2.1 z
  ·exact(hf b hb).2.2.1 z
 oT:=I.stack
 frf:=I.AL
def Fg(I:Uo X Uk Z H s)(S:kM X sc cl x y0 fr N)(hf:∀ b∈fp,lQ X Uk H b)(VT:∀ b∈fp,b < s.heap.objs.size)(hC:s.heap.objs.size<=C){h1:Heap}{t1:Nat}{m0:q0C}(hn:h1.Ns C m0)(hk:∀ b o,s.heap.get? b=some o->h1.get? b=some o):Uo (dA X sc cl C N s H fp (X.pn++Uk)) [] (none::none::bA fr Z) H {s with heap:=h1,toks:=t1}:=by
 refine⟨Hx I S hf VT hC,rfl,I.bare,Un.kept hk,⟨m0,hn,fun i y v e1 e2 e3=>?_⟩,fun y c e=>?_,I.Ut.fresh hC,fun y c e=>I.j6 y c (S.sub y c e),fun p hp=>?_,I.Ut.kept hk,?_⟩
 ·have Vq:N[i]?=some y:=e1;rw[S.N0] at Vq
  match i,Vq,e2 with
  | 0,_,e2=>exact absurd (show(some (none:Option V))=some (some v) from e2) (by simp)
  | 1,_,e2=>exact absurd (show(some (none:Option V))=some (some v) from e2) (by simp)
  | j+2,Vq,e2 =>
   have Va:(fr.map fun j=>X.N.getD j x)[j]?=some y:=Vq;have Wg:(bA fr Z)[j]?=some (some v):=e2;unfold bA at Wg;rw[Ψ] at Va Wg;cases q:fr[j]? with
   | none=>rw[q] at Va;cases Va
   | some k =>
    rw[q] at Va Wg;have ey:X.N.getD k x=y:=ϖ Va;have ev:(Z[k]?).join=some v:=ϖ Wg;obtain⟨y',hy,Vc,Xb⟩:=S.Xv k (ϓ q);have eyy:y=y':=by
     rw[<- ey,Ε8,hy];rfl
    subst eyy;have ev':Z[k]?=some (some v):=by
     cases z:Z[k]? with
     | none=>rw[z] at ev;cases ev
     | some o =>
      rw[z] at ev;have ev2:o=some v:=ev;rw[ev2]
    obtain⟨m,_,hl⟩:=I.loc;obtain⟨u,r,l⟩:=hl k y v hy ev' (.inr (.inl Vc));refine⟨u,r,.inr ⟨Xb,?_⟩⟩;rcases l with⟨z,_⟩|⟨_,c,hc,o,ho,hd⟩
    ·rw[Vc] at z;cases z
    ·obtain⟨c',WT⟩:=S.has y Xb;have z:=S.sub y c' WT;rw[hc] at z;cases z;exact⟨c,WT,o,hk c o ho,hd⟩
 ·obtain⟨v,o,ho,hd⟩:=I.cell y c (S.sub y c e);exact⟨v,o,hk c o ho,hd⟩
 ·have ZQ:p∈X.pn++Uk:=by
   have z:p∈(X.pn++Uk)++[]:=hp;simpa using z
  obtain⟨e,n,ne,nf,d⟩:=I.pin p ZQ;exact⟨hk _ _ e,n,Υ (Ω (Λ e) hC),nostk I ne nf,d⟩
 ·show(none::none::bA fr Z).length=N.length;rw[S.N0];simp[bA]
end
@[irreducible] def xG(K:q0B)(wi:TI)(fr:List Nat)(tc:TT)(te:TE):TE:=fun Z H Q=>wi Z H fun J H1=>∃ W:Nat->Nat->List V->Hp->Prop,(∃ m,W 0 m [] H1)/\∀ i m xs H,W i m xs H->xs.length<=1000000 /\
  ((J.stop i H/\∀ p,H p=none->Q (.ref p) (Ul H p (.lst xs))) \/
   (J.go i H/\∀ v H',J.V3 i H v H'->∃ p y y2,v=.ref p/\iJ K H' p [y,y2]/\tc (some y::some y2::bA fr Z) H' fun b H2=>if b=true then te (some y::some y2::bA fr Z) H2 (fun z H3=>∃ m',m' < m/\W (i+1) m' (xs++[z]) H3) else ∃ m',m' < m/\W (i+1) m' xs H2))
section
variable{sc:Scope}{y0:Str}{N:List Str}{elt iter:Expr}{px py tp:Pos}{tk:Nat}{ifs:List Expr}{wi:TI}{tc:TT}{te:TE}
def Bf(hc:X.calm=true)(hx:∀ e s,¬ X.xe e s)(S:kM X sc cl x y0 fr N)(hb:∀ C s H ex pn,Xs (dA X sc cl C N s H ex pn) ifs tc/\PE (dA X sc cl C N s H ex pn) elt te){Q:VK}(I:Uo X Uk Z H s)(T:Turn X.prog X.w X.K (.Tuple [.Name x px,.Name y0 py] tk tp) J fp it tn)(st:tn 0 s.heap)(hf:∀ b∈fp,lQ X Uk H b)(w0:W 0 m0 [] H)(turn:∀ i m xs H,W i m xs H->xs.length<=1000000 /\ ((J.stop i H/\∀ p,H p=none->Q (.ref p) (Ul H p (.lst xs))) \/ (J.go i H/\∀ v H',J.V3 i H v H'->∃ p y y2,v=.ref p/\iJ X.K H' p [y,y2]/\tc (some y::some y2::bA fr Z) H' fun b H2=>if b=true then te (some y::some y2::bA fr Z) H2 (fun z H3=>∃ m',m' < m/\W (i+1) m' (xs++[z]) H3) else ∃ m',m' < m/\W (i+1) m' xs H2)))(fin:∀(D C:Addr) (s':Shared) (m':q0C) (H':Hp),s'.heap.Ns C m'->lQ X Uk H' C->(∀ h',Heap.SameBut C s'.heap h'->Uo X Uk Z H' {s' with heap:=h'})->Q (.ref D) H'->RR (.ref D) C (.ok .next) s') : wpAny (model X.prog X.w) X.A (newList []) (fun acc s₃=>wpAny (model X.prog X.w) X.A (newFunctionEnv sc X.env.globals cl [] X.env.qual none .none (some X.env)) (fun VA s₄ => codeAny (model X.prog X.w) X.A (.compStart (.ListComp elt [⟨.Tuple [.Name x px,.Name y0 py] tk tp,iter,ifs,0⟩] sc pos) 0 (.ref it) acc {VA with scope:=relabel sc X.env}) (RR acc VA.locals) s₄) E s₃) E s :=
  rK (τ0:=none::none::bA fr Z) (O:=fun σ1=>∃ v0 v1,σ1=v0::v1::bA fr Z) (g:=Ll X.K 2 (Ea (jJ 0) (Ea (jJ 1) Lk))) hc hx S.vG S.kind S.sub
    (fun C s H ex pn=>Jj hc (fP (tJ (i:=0) S.nd (show N[0]?=some x by rw[S.N0];rfl) (.inl (Δ7 S.XG)) (.inr (Δ7 S.XG))) (fP (tJ (i:=1) S.nd (show N[1]?=some y0 by rw[S.N0];rfl) (.inl (Δ7 S.Md)) (.inr (Δ7 S.Md))) tK))) hb I T st hf
    (fun C h1 t1 m0 VT hC hn hk=>Fg I S hf VT hC hn hk) ⟨_,_,rfl⟩ w0
    (fun i m xs H w=>let ⟨l,z⟩:=turn i m xs H w;⟨l,z.imp id fun⟨g,h⟩=>⟨g,fun v H' hy σ1 ⟨v0,v1,e⟩=>by
      subst e;obtain⟨pp,y,y2,rfl,hpp,hs⟩:=h v H' hy;exact⟨pp,[y,y2],rfl,hpp,rfl,_,_,rfl,_,_,rfl,rfl,⟨_,_,rfl⟩,hs⟩⟩⟩) fin
end
def kM.of{sc:Scope}{y0:Str}{N M:List Str}(S:eD X sc cl x fr M)(Md:sc.names.lookup y0=some .local)(nd:N.Nodup)(N0:N=x::y0::fr.map fun j=>X.N.getD j x):kM X sc cl x y0 fr N :=
 ⟨S.kind,S.vG,S.names,S.Bc,S.sub,S.has,S.XG,Md,nd,N0,S.Xv⟩
noncomputable def lc2(K:q0B)(J:It)(fr:List Nat)(tc:TT)(te:TE)(Z:St)(H:Hp)(Q:VK):Prop:=∃ W:Nat->Nat->List V->Hp->Prop,(∃ m,W 0 m [] H)/\∀ i m xs H,W i m xs H->xs.length<=1000000 /\
  ((J.stop i H/\∀ p,H p=none->Q (.ref p) (Ul H p (.lst xs))) \/
   (J.go i H/\∀ v H',J.V3 i H v H'->∃ p y y2,v=.ref p/\iJ K H' p [y,y2]/\tc (some y::some y2::bA fr Z) H' fun b H2=>if b=true then te (some y::some y2::bA fr Z) H2 (fun z H3=>∃ m',m' < m/\W (i+1) m' (xs++[z]) H3) else ∃ m',m' < m/\W (i+1) m' xs H2))
section
variable{tc:TT}{te:TE}{Q:VK}{as:TA}
end
noncomputable def Ag:Option HO->Option Bool
 | some (.lst _)=>some true
 | some (.tup _)=>some false
 | _=>none
def Hh:List V->Hp->VK->Prop:=fun vs H Q=>on2 vs fun x y=>bG x fun p=>y=.ty "list"/\fM (Ag (H p)) fun b=>Q (.bl b) H
section
def Fd:fA X (.builtin "isinstance") Hh:=fun Uk s Z H xs us Q I r h=>by
 obtain⟨x,y,rfl,h1⟩:=Dk h;obtain⟨p,rfl,rfl,h2⟩:=aR h1;obtain⟨b,ek,q⟩:=cP h2;obtain⟨u,w',rfl,r1,r2⟩:=vals2 r;cases r1;cases r2;unfold Ag at ek;split at ek
 ·next e =>
  cases ek;obtain⟨o,eo,c⟩:=Uo.sU I (eY.of e);exact IsiPair.list_list eo c ⟨.bl true,H,I,rfl,q⟩
 ·next e =>
  cases ek;obtain⟨o,eo,c⟩:=Uo.AQ I (iJ.of e);exact IsiPair.tuple_list eo c ⟨.bl false,H,I.tok _,rfl,q⟩
 ·cases ek
variable{o:Expr}{to:TE}{apos Uv:Pos}
end
section
mutual
example:=[]
variable{Q:VK}{p:Addr}{to:TE}
def Og:Hh [.ref p,.ty "list"] H Q=fM (Ag (H p)) fun b=>Q (.bl b) H:=by
 unfold Hh on2;simp only[bG,true_and]
def QF:Ag (some (.lst vs))=some true:=rfl
def QG:Ag (some (.tup vs))=some false:=rfl
theorem QL{a:Bool}:PB (.bl a) (.bl b) H Q=Q (.bl (!decide (a=b))) H:=by simp only[PB,show U6 (.bl a) (.bl b)=true from rfl,V.bl.injEq,true_and]
end
end
section
variable{Q:VK}{p b:Addr}
end
section
variable{sc:Scope}{y0:Str}{N:List Str}{elt iter:Expr}{px px0 tp:Pos}{tk:Nat}{ifs:List Expr}{wi:TI}{tc:TT}{te:TE}
theorem BX{py Xf:Pos}(hc:X.calm=true)(hx:∀ e s,¬ X.xe e s)(S:kM X sc cl x y0 fr N)(hi:PI X (.Tuple [.Name x px,.Name y0 px0] tk tp) iter wi)(hb:∀ C s H ex pn,Xs (dA X sc cl C N s H ex pn) ifs tc/\PE (dA X sc cl C N s H ex pn) elt te)(hN:X.N.Nodup)(hy:X.N[i]?=some y)(hl:Loc X.env.scope y)(hsw:swapsWith (.ListComp elt [⟨.Tuple [.Name x px,.Name y0 px0] tk tp,iter,ifs,0⟩] sc pos) (some (.Name y py)) Xf.line X.env=pure true:=by rfl)(hs:∀ v,foldedSetIterable iter X.env v=pure v:=by intro _;rfl)(hf:X.fn y=true\/X.env.scope.names.lookup y=some .local:=by first|exact .inl rfl|exact .inr rfl|assumption) : PS X (.Assign [.Name y py] (.ListComp elt [⟨.Tuple [.Name x px,.Name y0 px0] tk tp,iter,ifs,0⟩] sc pos) Xf) (GH (xG X.K wi fr tc te) (jJ i)):=by
 intro Uk s Z H D I h;have h:xG X.K wi fr tc te Z H (fun x H1=>jJ i x Z H1 D.nx):=h;unfold xG at h;rw[exec_Assign_Name_used _ _ _ _ hsw];refine Β (wpAny_standAt (Β ?_));show wpAny _ X.A (do let _ <- comprehension (.ListComp elt [⟨.Tuple [.Name x px,.Name y0 px0] tk tp,iter,ifs,0⟩] sc pos) sc X.env _ (newList []) false (eval iter X.env) (some (assign (.Name y py) X.env))) _ _ s;refine Β (Β6 (wpAny_comprehension_free (use:=some (assign (.Name y py) X.env)) (Q:=fun _ s'=>SP X Uk D .next s') rfl hs S.Bc S.kind S.names
  (thn (hi Uk s Z H _ I h) fun v s1 h1=>thn h1 fun Z0 s2 h2=>?_)) (fun _ s' hq=>Ι (Ι hq)) fun _ _ e=>e)
 obtain⟨it,fp,tn,J,H2,e,I2,T,VY,f2,W,⟨m0,w0⟩,turn⟩:=h2;subst e;refine Bf (Q:=fun x H1=>jJ i x Z H1 D.nx) (RR:=fun acc C=>compPost (model X.prog X.w) X.A X.xe (some (assign (.Name y py) X.env)) (fun _ s'=>SP X Uk D .next s') acc C) hc hx S hb I2 T VY f2 w0 turn ?_;intro D' C s' m' H' hn fC WW q;show wpAny _ X.A (assign (.Name y py) X.env (.ref D')) _ _ _;have I':Uo X Uk Z H' s':=WW s'.heap (Heap.SameBut.refl ..);refine wpAny_assign_Name (rH (v:=.ref D') I' hN hy hl rfl (fun YO I'' ⟨a,hsa,ha⟩=>?_) hf);obtain⟨f0,f1,f2',f3,f4,f5⟩:=fC;have hCa:C≠a:=fun z=>by
  rcases ha with ha|ha
  ·exact f1 (z.trans ha)
  ·exact f4 y a ha z.symm
 refine⟨m',hn.sameBut hsa hCa,fun h' WD=>?_⟩;exact⟨Z.set i (some (.ref D')),H',I''.turned (t':=YO.toks) (fun b o UT e=>(WD.2 b UT).trans e) f0 f1 f3 f4 f5,q⟩
end
section
variable{a b:TS}{D:Ends}
def cD(h:∀ R:St->Hp->Prop,(∀ Z' H',b D Z' H'->R Z' H')->a {D with nx:=R} Z H):DB a b D Z H:=h (b D) fun _ _ x=>x
end
section
variable{td ty tv:TE}{V1:List (TE×TE)}{tk:TE}{Q:VK}{D:Ends}
def HP:oJ [] Z H R=R [] H:=rfl
def Lb:oJ ((tk,tv)::V1) Z H R=tk Z H fun x H1=>tv Z H1 fun y H2=>oJ V1 Z H2 fun ps H3=>R ((x,y)::ps) H3:=rfl
end
section
variable{W:World}{dd:Addr}{es:Array DictEntry}{ep:Nat}
end
section
open PySem.W
variable{p:Array Nat}
end
section
open PySem.W
variable{W:World}
end
section
variable{W:World}{b:Addr}{es fs:Array DictEntry}{ep fp:Nat}
end
section
variable{D:Ends}{g:TG}{tb:TS}{as:TA}{Q:VK}{b:Addr}{p:Addr}
def NM{V1:List (TE×TE)}:MP V1 Z H Q = ∀ p,H p=none->oJ V1 Z (Ul H p (.dK [])) fun ps H2=>H2 p=some (.dK [])/\∃ kvs:List (Key×V),ps=kvs.map (fun kv=>(kV kv.1,kv.2))/\kvs.length<=15/\Q (.ref p) (Ul H2 p (.dK (eW [] kvs))):=rfl
end
noncomputable def yU(H:Hp):V->Option Bool
 | .ref p=>Ag (H p)
 | .int _=>some false
 | .str _=>some false
 | .Um=>some false
 | _=>none
def Mr:List V->Hp->VK->Prop:=fun vs H Q=>on2 vs fun x y=>y=.ty "list"/\fM (yU H x) fun b=>Q (.bl b) H
def yK:fA X (.builtin "isinstance") Mr:=fun Uk s Z H xs us Q I r h=>by
 obtain⟨x,y,rfl,rfl,h2⟩:=Dk h;obtain⟨b,ek,q⟩:=cP h2;cases x with
 | ref p=>exact Fd Uk s Z H _ us Q I r (show V.ty "list"=V.ty "list"/\fM (Ag (H p)) (fun b=>Q (.bl b) H) from ⟨rfl,by rw[show Ag (H p)=some b from ek];exact q⟩)
 | int i =>
  cases ek;obtain⟨u,w',rfl,r1,r2⟩:=vals2 r;cases r2;obtain⟨t,rfl⟩:=r1;exact IsiPair.int_list ⟨.bl false,H,I.tok _,rfl,q⟩
 | str i =>
  cases ek;obtain⟨u,w',rfl,r1,r2⟩:=vals2 r;cases r2;obtain⟨t,rfl⟩:=r1;exact IsiPair.str_list ⟨.bl false,H,I.tok _,rfl,q⟩
 | Um =>
  cases ek;obtain⟨u,w',rfl,r1,r2⟩:=vals2 r;cases r2;cases r1;exact IsiPair.NoneType_list ⟨.bl false,H,I.tok _,rfl,q⟩
 | _=>cases ek
section
mutual
example:=[]
variable{Q:VK}{x:V}{p:Addr}{i:Int}{z:Str}
def Oe:Mr [x,.ty "list"] H Q=fM (yU H x) fun b=>Q (.bl b) H:=by
 show(V.ty "list"=V.ty "list"/\_)=_;simp only[true_and]
def QD:yU H (.ref p)=Ag (H p):=rfl
def QB:yU H (.int i)=some false:=rfl
def QE:yU H (.str z)=some false:=rfl
def QC:yU H .Um=some false:=rfl
end
end
def R9(ta tb:TE):TE:=fun Z H Q=>ta Z H fun x H1=>fM (xI H1 x) fun c=>if c=true then Q x H1 else tb Z H1 Q
section
variable{a b:Expr}{rest:List Expr}{ta tb:TE}
def Pt(ha:PE X a ta)(hb:PE X (.BoolOp .Or (b::rest) pos) tb):PE X (.BoolOp .Or (a::b::rest) pos) (R9 ta tb):=by
 intro Uk s Z H Q I h;refine BoolOp_or (thn (ha Uk s Z H _ I h) fun v s1 ⟨x,H1,I1,r1,q1⟩=>?_);obtain⟨k,e,q⟩:=cP q1;refine thn (DD Uk s1 Z H1 x v (fun c H2=>c=k/\H2=H1) I1 r1 ⟨k,AO e,rfl,rfl⟩) fun c s2 ⟨H2,I2,e1,e2⟩=>?_;subst e1 e2;cases c with
 | true=>exact⟨x,_,I2,r1,q⟩
 | false=>exact hb Uk s2 Z _ Q I2 q
end
mutual
example:=[ns.map V.int]
def IW(x:V)(k:Int->Prop)(_u:Tg k:=()):Prop:=match x with
 | .Um=>k 0
 | .int i=>k i
 | _=>False
def R8(ta:TE):TE:=fun Z H Q=>ta Z H fun x H1=>IW x fun i=>Q (.int i) H1
def Ax{a b:Expr}{rest:List Expr}{ta:TE}(ha:PE X a ta)(hb:PE X (.BoolOp .Or (b::rest) pos) (tC (.int 0))):PE X (.BoolOp .Or (a::b::rest) pos) (R8 ta):=by
 intro Uk s Z H Q I h;refine BoolOp_or (thn (ha Uk s Z H _ I h) fun v s1 ⟨x,H1,I1,r1,q1⟩=>?_);have hk:∃ k,xI H1 x=some k/\(if k=true then Q x H1 else Q (.int 0) H1):=by
  cases x with
  | Um=>exact⟨false,rfl,q1⟩
  | int i =>
   refine⟨i !=0,rfl,?_⟩;by_cases hi:i=0
   ·subst hi;exact q1
   ·rw[if_pos (by simpa using hi)];exact q1
  | _=>exact q1.elim
 obtain⟨k,e,q⟩:=hk;refine thn (DD Uk s1 Z H1 x v (fun c H2=>c=k/\H2=H1) I1 r1 ⟨k,AO e,rfl,rfl⟩) fun c s2 ⟨H2,I2,e1,e2⟩=>?_;subst e1 e2;cases c with
 | true=>exact⟨x,_,I2,r1,q⟩
 | false=>exact hb Uk s2 Z _ Q I2 q
def BV(i:Int)(ns:List Int):Option Nat:=ns.findIdx? fun j=>decide (j=i)
def Qc:V->List V->Hp->VK->Prop:=fun x vs H Q=>bG x fun l=>on1 vs fun y=>gT y fun i=>∃ ns:List Int,H l=some (.lst 0e0)/\fM (BV i ns) fun k=>Q .Um (Ul H l (.lst ((ns.eraseIdx k).map V.int)))
theorem xM:∀ {ns:List Int} {us:List Value},Uq 0e0 us->∀(j:Nat) (h:j < us.length) (h':j < ns.length),∃ k:Tok,us[j]=.int ns[j] k
 | [],_,.nil,j,h,_=>absurd h (by simp)
 | n::ns,u::us,.cons r t,0,_,_=>r
 | n::ns,u::us,.cons r t,j+1,h,h'=>xM (ns:=ns) (us:=us) t j (by simpa using h) (by simpa using h')
theorem uH:∀(ns:List Int) (k:Nat),(ns.map V.int).eraseIdx k=(ns.eraseIdx k).map V.int
 | [],_=>rfl
 | _::_,0=>rfl
 | n::ns,k+1=>by simp only[ϔ,List.eraseIdx_cons_succ,uH ns k]
end
section
theorem II:Ml X "list.remove" Qc:=fun Uk s Z H x vs v us Q I rx rv h=>by
 obtain⟨l,rfl,h1⟩:=aR h;obtain⟨y,rfl,h2⟩:=jT h1;obtain⟨i,rfl,ns,hH,h3⟩:=eJ h2;obtain⟨k,ek,q⟩:=cP h3;cases rx;obtain⟨u,rfl,ru⟩:=rv.one;obtain⟨t,rfl⟩:=ru;obtain⟨z,Up,n,r,hl,e⟩:=I.Am hH;have hl':Up.length=ns.length:=by rw[<- r.length,Γ]
 obtain⟨hk,hk1,hk2⟩:=List.findIdx?_eq_some_iff_getElem.mp ek;have isI:∀(j:Nat) (h:j < Up.length),∃ tk:Tok,Up[j]=.int (ns[j]'(by omega)) tk:=fun j h=>xM r j h (by omega);obtain⟨g,hg⟩:∃ g:Value->Bool,g=fun y=>(match y with | .int a _=>a==i|_=>false):=⟨_,rfl⟩;refine call_meets PySem.F.slot_list_remove ⟨_,e,rfl⟩ PySem.F.entry_list_remove (PySem.F.args_list_remove_2 _ _)
  (MeetsSeq.list_remove l Up.toArray n (.int i t) g (fun y hy=>?_) k (by simp only[Η];omega) ?_ ?_ (by rw[Η];omega)) ⟨e,?_⟩
 ·obtain⟨j,hj,rfl⟩:=Array.mem_iff_getElem.mp hy;obtain⟨tk,et⟩:=isI j (by simpa using hj);rw[List.getElem_toArray,et,hg];exact MeetsSeq.EqGives.int _ _ _ _
 ·obtain⟨tk,et⟩:=isI k (by omega);rw[List.getElem_toArray,et,hg];simpa using hk1
 ·intro m hm UN;obtain⟨tk,et⟩:=isI m (by simpa using hm);rw[List.getElem_toArray,et,hg];simpa using hk2 m UN
 ·refine⟨.Um,_,I.u9 (its':=Up.eraseIdx k) hH e ?_ ?_ ?_,rfl,q⟩
  ·show Up.toArray.eraseIdxIfInBounds k=(Up.eraseIdx k).toArray;rw[List.eraseIdxIfInBounds_toArray]
  ·rw[show(ns.eraseIdx k).map V.int=(ns.map V.int).eraseIdx k by rw[uH]];exact r.eraseIdx k
  ·have:=qL ns k;simp only[Γ] at this ⊢;omega
end
section
mutual
example:=[]
variable{Q:VK}{ta tb:TE}{i:Int}
def QW:R9 ta tb Z H Q=ta Z H fun x H1=>fM (xI H1 x) fun c=>if c=true then Q x H1 else tb Z H1 Q:=rfl
def QV:R8 ta Z H Q=ta Z H fun x H1=>IW x fun i=>Q (.int i) H1:=rfl
def QO{k:Int->Prop}{u:Tg k}:IW (.int i) k u=k i:=rfl
def QP{k:Int->Prop}{u:Tg k}:IW .Um k u=k 0:=rfl
def Q0:Qc (.ref l) [.int i] H Q = ∃ ns:List Int,H l=some (.lst (ns.map V.int))/\fM (BV i ns) fun k=>Q .Um (Ul H l (.lst ((ns.eraseIdx k).map V.int))):=rfl
end
end
mutual
example:=[(by omega),lo+hi,(by simpa using XW)]
def Rising(l:List Nat):Prop:=l.Pairwise (· < ·)
theorem tS(xs:Array Nat)(j:Nat)(hr:Rising xs.toList):∀(fuel lo hi:Nat),hi - lo<=fuel->lo<=hi->hi<=xs.size -> (∀ i (h:i < xs.size),i < lo->xs[i] < j)->(∀ i (h:i < xs.size),hi<=i->j<=xs[i]) -> (∀ i (h:i < xs.size),i < SetTable.below.go xs j fuel lo hi->xs[i] < j)/\(∀ i (h:i < xs.size),SetTable.below.go xs j fuel lo hi<=i->j<=xs[i])/\SetTable.below.go xs j fuel lo hi<=xs.size
 | 0,lo,hi,hf,hl,hh,h1,h2=>by
  have:lo=hi:=by omega
  subst this;exact⟨h1,h2,hh⟩
 | fuel+1,lo,hi,hf,hl,hh,h1,h2=>by
  have mono:∀ i k (hi:i < xs.size) (hk:k < xs.size),i < k->xs[i] < xs[k]:=fun i k hi hk hik=>by
   have:=Ζ2.mp hr i k (by simpa using hi) (by simpa using hk) hik;simpa using this
  unfold SetTable.below.go;by_cases c:lo < hi
  ·rw[if_pos c];have hm:1e0 / 2 < xs.size:=by omega
   have em:xs.getD (1e0 / 2) j=xs[1e0 / 2]:=by simp[Array.getD,hm]
   simp only[em];by_cases d:xs[1e0 / 2] < j
   ·rw[if_pos d];refine tS xs j hr fuel _ hi 0e0 0e0 hh (fun i h UN=>?_) h2;by_cases e:i=1e0 / 2
    ·subst e;exact d
    ·exact Nat.lt_trans (mono i _ h hm 0e0) d
   ·rw[if_neg d];refine tS xs j hr fuel lo _ 0e0 0e0 0e0 h1 (fun i h hle=>?_);by_cases e:i=1e0 / 2
    ·subst e;omega
    ·have:=mono _ i hm h 0e0;omega
  ·rw[if_neg c];have:lo=hi:=by omega
   subst this;exact⟨h1,h2,hh⟩
theorem oA(xs:Array Nat)(j:Nat)(hr:Rising xs.toList):(∀ i (h:i < xs.size),i < SetTable.below xs j->xs[i] < j)/\(∀ i (h:i < xs.size),SetTable.below xs j<=i->j<=xs[i])/\SetTable.below xs j<=xs.size :=
 tS xs j hr xs.size 0 xs.size 0e0 0e0 (Θ _) (fun i h UN=>absurd UN 0e0) (fun i h hle=>absurd h 0e0)
theorem xV{xs:Array Nat}(hr:Rising xs.toList)(hn:¬ xs[SetTable.below xs j]?=some j):Rising (SetTable.insertAt xs (SetTable.below xs j) j).toList:=by
 obtain⟨h1,h2,h3⟩:=oA xs j hr;rw[SetTable.toList_insertAt];generalize hb:SetTable.below xs j=b at *;unfold Rising at *;have split:=List.pairwise_append.mp (show(xs.toList.take b++xs.toList.drop b).Pairwise (· < ·) by rw[List.take_append_drop];exact hr);have lt:∀ x∈xs.toList.take b,x < j:=fun x hx=>by
  obtain⟨i,hi,rfl⟩:=List.mem_iff_getElem.mp hx;have XW:i < b/\i < xs.size:=by simpa[Nat.lt_min] using hi
  have:=h1 i XW.2 XW.1;simpa using this
 have gt:∀ x∈xs.toList.drop b,j < x:=fun x hx=>by
  obtain⟨i,hi,rfl⟩:=List.mem_iff_getElem.mp hx;have XW:b+i < xs.size:=by simp at hi;omega
  have hle:=h2 (b+i) XW 0e0;have U5:xs[b+i]≠j:=fun e=>by
   by_cases hz:i=0
   ·subst hz;exact hn (by rw[Δ1 2e0];simpa using e)
   ·have UT:b < xs.size:=by omega
    have h0:=h2 b UT (Θ _);have:=Ζ2.mp hr b (b+i) (by simpa using UT) 2e0 0e0;simp at this;omega
  have:xs.toList.drop b=xs.toList.drop b:=rfl;simp only[List.getElem_drop,Array.getElem_toList];omega
 refine List.pairwise_append.mpr ⟨split.1,Γ0.mpr ⟨gt,split.2.1⟩,fun x hx y hy=>?_⟩;rcases Α.mp hy with rfl|hy
 ·exact lt x hx
 ·exact split.2.2 x hx y hy
theorem uI{α:Type}:∀ {l:List α} {i:Nat} (h:i < l.length),(l[i]::l.eraseIdx i).Perm l
 | a::l,0,_=>by simp
 | a::l,i+1,h=>by
  have:=uI (l:=l) (i:=i) (by simpa using h);simp only[List.getElem_cons_succ,List.eraseIdx_cons_succ];exact(List.Perm.swap _ _ _).trans (this.cons a)
theorem Ex{α:Type}(next:Nat->Nat):∀(fuel k:Nat) (left:List α) (out:Array α),fuel=left.length->∃ aaC:Array α,pickOrder.go next fuel k left out=aaC/\aaC.toList.Perm (out.toList++left)
 | 0,k,left,out,h=>by
  have:left=[]:=List.length_eq_zero_iff.mp h.symm;subst this;exact⟨out,by simp[pickOrder.go],by simp⟩
 | fuel+1,k,left,out,h=>by
  have hp:0 < left.length:=by omega
  have hi:next k % left.length < left.length:=Nat.mod_lt _ hp
  obtain⟨o,e,p⟩:=Ex next fuel (k+1) (left.eraseIdx (next k % left.length)) (out.push left[next k % left.length]) (by rw[List.length_eraseIdx_of_lt hi];omega)
  refine⟨o,?_,p.trans ?_⟩
  ·rw[pickOrder.go,Τ hi];exact e
  ·rw[Array.toList_push,Α5];refine List.Perm.append_left _ ?_;exact uI hi
def Gr{α:Type}(next:Nat->Nat)(xs:Array α):(pickOrder next xs).toList.Perm xs.toList:=by
 obtain⟨o,e,p⟩:=Ex next xs.size 0 xs.toList #[] (by simp)
 unfold pickOrder;rw[e];simpa using p
structure nM(w:World)(t:SetTable):Prop where
 rise:Rising t.place.toList
 led:w.params.followText "set-order"=true\/t.led=true
 dum:t.dummies = #[]
 msk:t.mask=7
 pln:t.plain=true
def Bn(j:Nat):SetTable.has #[] j=false:=by simp[SetTable.has]
def Dt(h:t.slot j=.empty):¬ t.place[SetTable.below t.place j]?=some j:=fun e=>by
 unfold SetTable.slot at h;simp only[e,beq_self_eq_true,Γ1] at h;cases h
def wZ(hd:t.dummies = #[])(j:Nat):t.slot j=.empty\/(∃ i,t.slot j=.live i/\j∈t.place.toList):=by
 unfold SetTable.slot;rw[hd,Bn];by_cases h:t.place[SetTable.below t.place j]?=some j
 ·refine .inr ⟨SetTable.below t.place j,by simp only[h,beq_self_eq_true,Γ1],?_⟩;rw[<- Γ9] at h;exact ϓ h
 ·refine .inl ?_;have:(t.place[SetTable.below t.place j]?==some j)=false:=by simpa using h
  simp[this]
theorem free4{l:List Nat}(h:l.length<=3):∃ j,j < 8/\j∉l:=by
 match l,h with
 | [],_=>exact⟨0,by decide,by simp⟩
 | [a],_=>by_cases h0:a=0;exact⟨1,by decide,by simp;omega⟩;exact⟨0,by decide,by simp;omega⟩
 | [a,b],_ =>
  by_cases h0:a=0\/b=0
  ·by_cases h1:a=1\/b=1
   ·exact⟨2,by decide,by simp;omega⟩
   ·exact⟨1,by decide,by simp;omega⟩
  ·exact⟨0,by decide,by simp;omega⟩
 | [a,b,c],_ =>
  by_cases h0:a=0\/b=0\/c=0
  ·by_cases h1:a=1\/b=1\/c=1
   ·by_cases h2:a=2\/b=2\/c=2
    ·exact⟨3,by decide,by simp;omega⟩
    ·exact⟨2,by decide,by simp;omega⟩
   ·exact⟨1,by decide,by simp;omega⟩
  ·exact⟨0,by decide,by simp;omega⟩
def Xz(i:Nat):Nat:=(i * 5+1) % 8
def hops:Nat->Nat->Nat
 | 0,i=>i
 | m+1,i=>hops m (Xz i)
theorem Ij:∀ i,i < 8->∀ j,j < 8->∃ m,m < 8/\hops m i=j:=by decide
end
section
variable(hd:t.dummies = #[])(hm:t.mask=7){h:Int}
abbrev prb(i pt:Nat):SetTable.Probe:=⟨i,0,i,pt,none⟩
include hd hm
mutual
example:=[(fun _=>h+1),prb i pt,(by omega),(by decide),(Nat.mod_lt _ 3e0),(i * 5+1+pt / 32),3e0,SetTable.bits h % 8,SetTable.bits h,.empty j none]
theorem adv(i pt:Nat):t.advance 1e0=prb (5e0 % 8) (pt / 32):=by
 have:5e0 % 8 < 8:=Nat.mod_lt _ 6e0;simp only[SetTable.advance,SetTable.leap,hm,SetTable.runEnd];simp
 try omega
theorem Ec(fuel i pt:Nat):(t.slot i=.empty/\SetTable.probe.go t 0e0 h (fuel+1) 1e0=some (.empty i none))\/SetTable.probe.go t 0e0 h (fuel+1) 1e0=SetTable.probe.go t 0e0 h fuel (prb (5e0 % 8) (pt / 32)):=by
 rcases wZ hd i with e|⟨k,e,_⟩
 ·refine .inl ⟨e,?_⟩;unfold SetTable.probe.go;simp only[e]
 ·refine .inr ?_
  conv=>lhs;unfold SetTable.probe.go
  simp only[e];rw[if_neg (by simp;try omega),adv hd hm]
theorem Ed:∀(m fuel i:Nat),m < fuel->i < 8->t.slot (hops m i)=.empty->∃ j,t.slot j=.empty/\SetTable.probe.go t 0e0 h fuel (prb i 0)=some 9e0
 | 0,fuel+1,i,_,hi,he=>by
  refine⟨i,he,?_⟩;have e:t.slot i=.empty:=he;unfold SetTable.probe.go;simp only[e]
 | m+1,fuel+1,i,hf,hi,he=>by
  rcases Ec hd hm (h:=h) fuel i 0 with⟨e,g⟩|g
  ·exact⟨i,e,g⟩
  ·rw[g];exact Ed m fuel _ 2e0 4e0 he
theorem Ig(hp:t.place.size<=3):∀(d fuel i pt:Nat),pt < 32 ^ d->d+8<=fuel->i < 8->∃ j,t.slot j=.empty/\SetTable.probe.go t 0e0 h fuel 1e0=some 9e0
 | 0,fuel,i,pt,h1,h2,hi=>by
  have:pt=0:=by simpa using h1
  subst this;obtain⟨j,hj,hn⟩:=free4 (l:=t.place.toList) (by simpa using hp);obtain⟨m,hm',e⟩:=Ij i hi j hj;refine Ed hd hm m fuel i 2e0 hi ?_;rw[e];rcases wZ hd j with z|⟨_,_,z⟩
  ·exact z
  ·exact absurd z hn
 | d+1,0,i,pt,h1,h2,hi=>absurd h2 2e0
 | d+1,fuel+1,i,pt,h1,h2,hi=>by
  rcases Ec hd hm (h:=h) fuel i pt with⟨e,g⟩|g
  ·exact⟨i,e,g⟩
  ·rw[g];exact Ig hp d fuel _ _ (by rw[Nat.pow_succ] at h1;omega) 2e0 4e0
theorem Ft(hp:t.place.size<=3):∃ j,t.slot j=.empty/\t.freeSlot h=some (j,false):=by
 have hb:SetTable.bits h < 32 ^ 13:=by
  unfold SetTable.bits;have h1:=Int.emod_lt_of_pos h (show(0:Int) < 2 ^ 64 by decide);have h2:=Int.emod_nonneg h (show(2 ^ 64:Int)≠0 by decide);have:(32:Nat) ^ 13=36893488147419103232:=by decide
  omega
 have hs:t.probeStart h=prb 7e0 8e0:=by
  unfold SetTable.probeStart SetTable.runEnd;rw[hm];have:SetTable.bits h % 8 < 8:=Nat.mod_lt _ 6e0;simp
  try omega
 obtain⟨j,e,g⟩:=Ig hd hm (h:=h) hp 13 (10 * SetTable.turns t.mask) 7e0 8e0 hb (by rw[hm];decide) 4e0;refine⟨j,e,?_⟩;unfold SetTable.freeSlot SetTable.probe;rw[hs,g];rfl
end
end
mutual
example:=[Int×Value]
theorem Lv(T:nM w t)(es:Array 0e0)(h:Int)(x:Value)(hp:t.place.size<=3)(hf:t.place.size=es.size):nM w (layNew t es h x).2.1:=by
 obtain⟨slot,hs,e⟩:=Ft T.dum T.msk (h:=h) hp;have Tp:nM w (t.put slot).1:=by
  refine⟨xV T.rise (Dt hs),T.led,?_,T.msk,T.pln⟩;show(if SetTable.has t.dummies slot=true then _ else t.dummies) = #[];rw[T.dum,Bn];rfl
 unfold layNew;rw[e];show nM w ((t.put slot).1.orStandIn _);have h1:=(SetTable.insertAt_perm es (t.put slot).2 (h,x)).length_eq;rw[Γ4,Γ4,Array.size_push] at h1;have h2:(t.put slot).1.place.size=t.place.size+1:=by
  have:=(SetTable.insertAt_perm t.place (SetTable.below t.place slot) slot).length_eq;rw[Γ4,Γ4,Array.size_push] at this;exact this
 have fit:(t.put slot).1.fits (SetTable.insertAt es (t.put slot).2 (h,x)).size=true:=by
  unfold SetTable.fits SetTable.fill;rw[Tp.dum,h2,h1,Tp.msk,hf];simp;omega
 unfold SetTable.orStandIn;rw[if_pos fit];exact Tp
def Bv:Value->Int
 | .int i _=>i
 | _=>0
def pX(P:Program)(w:World)(a:Addr)(ns:List Int)(h:Heap):Prop:=∃(o:Obj) (es:Array 0e0) (ep:Nat) (t:SetTable),h.get? a=some o/\o.ExactSet/\o.data=.set es ep t/\ElemsOf (intKind P w) es.toList/\es.size < scanBound/\t.fits es.size=true/\nM w t/\(∀ e∈es.toList,∃ i tk,e.2=Value.int i tk)/\(es.toList.map fun e=>Bv e.2).Perm ns
def pX.keep{h':Heap}(x:pX P w a ns h)(k:∀ o,h.get? a=some o->h'.get? a=some o):pX P w a ns h':=by
 obtain⟨o,es,ep,t,e,r⟩:=x;exact⟨o,es,ep,t,k o e,r⟩
end
section
def OR{i:Int}:(intKind P w).is i v=true↔∃ tk,v=.int i tk:=by
 constructor
 ·intro h;cases v with
  | int j tk=>exact⟨tk,by have:Value.isInt i (.int j tk)=true:=h;simp[Value.isInt] at this;rw[this]⟩
  | _=>cases h
 ·rintro⟨tk,rfl⟩;exact intKind_is _ _ _ _
theorem AW{o:Obj}{es:Array (Int×Value)}{ep:Nat}(ho:s.heap.get? a=some o)(hex:o.ExactSet)(hd:o.data=.set es ep t)
    {UP:Array (Int×Value)} {t2:SetTable}  (XT:ElemsOf (intKind P w) UP.toList) (hb:UP.size < scanBound) (hf:t2.fits UP.size=true) (T:nM w t2) (hi:∀ e∈UP.toList,∃ i tk,e.2=Value.int i tk) (hp:(UP.toList.map fun e=>Bv e.2).Perm ns) (h4:UP.size<=4)
    {VM:Bool} {X:Sem (Option Bool)} {R:Option Bool->Shared->Prop} (h:∀ h',Heap.SameBut a s.heap h'->pX P w a ns h'->R (some true) {s with heap:=h'}) :
    wpAny (model P w) A (do
        storeSet a UP t2
        if (!VM&&t2.tooFull)=true then X else pure (some true)) R E s:=by
  refine Β (wpAny_storeSet_of ho hd ?_ (fits_of_scanBound hb));have full:t2.tooFull=false:=by
    have h1:t2.place.size=UP.size:=by
      have:=hf;unfold SetTable.fits at this;simp only[Γ6,beq_iff_eq] at this;exact this.1
    unfold SetTable.tooFull SetTable.fill;rw[T.dum,h1];have:=T.msk;simp;omega
  rw[full,Bool.and_false];simp only[ϙ,Β5];have hg:(s.heap.update a (Obj.putSet UP t2)).get? a=some {o with data:=.set UP (ep+1) t2}:=by
    have:=Heap.get?_update_self (Obj.putSet UP t2) ho (by rw[putSet_of UP t2 hd];rfl);rw[putSet_of UP t2 hd] at this;exact this
  exact Ι (h _ (Heap.SameBut.update s.heap a (Obj.putSet UP t2)) ⟨_,UP,ep+1,t2,hg,hex,rfl,XT,hb,hf,T,hi,hp⟩)
theorem CD{i:Int}{tk:Tok}{Q:Bool->Shared->Prop}(hS:pX P w a ns s.heap)(hn:ns.length<=3)(h:∀ h',Heap.SameBut a s.heap h'->pX P w a (if i∈ns then ns else ns++[i]) h'->∀ b,Q b {s with heap:=h'}):wpAny (model P w) A (setAddHashed a (.int i tk) ((intKind P w).hash i)) Q E s:=by
 obtain⟨o,es,ep,t,ho,hex,hd,XT,hb,hf,T,hi,hp⟩:=hS;have Wm:(intKind P w).is i (.int i tk)=true:=intKind_is _ _ _ _;have hl:es.size=ns.length:=by have:=hp.length_eq;simpa using this
 have b1:scanBound=4096:=rfl;unfold setAddHashed setAddHashedIn;refine Β3 (Β (Γ5 ho hd hf ?_));dsimp only;rw[byScan_of (knd:=intKind P w) rfl hb XT];simp only[↓reduceIte];unfold setAddByScan;refine Β ?_;refine Β (wpAny_rule ?_);refine Β (wpAny_setScan_of Wm ho hd hf XT ?_);cases hr:List.findIdx? (fun e=>(intKind P w).is i e.2) es.toList with
 | some j =>
  dsimp only;obtain⟨hj,hpj,_⟩:=List.findIdx?_eq_some_iff_getElem.mp hr;obtain⟨Zc,et⟩:=OR.mp hpj;have hm:i∈ns:=hp.mem_iff.mp (Β0.mpr ⟨es.toList[j],List.getElem_mem hj,by rw[et];rfl⟩);rw[if_pos hm] at h;refine Ι (Ι ?_);exact h s.heap (Heap.SameBut.refl a s.heap) ⟨o,es,ep,t,ho,hex,hd,XT,hb,hf,T,hi,hp⟩ _
 | none =>
  dsimp only;have hm:i∉ns:=fun z=>by
   obtain⟨e,he,ek⟩:=Β0.mp (hp.mem_iff.mpr z);obtain⟨k,Zc,ev⟩:=hi e he;have h1:=List.findIdx?_eq_none_iff.mp hr e he;rw[ev] at ek h1;have:k=i:=ek;subst this;rw[intKind_is] at h1;cases h1
  rw[if_neg hm] at h;have UR:=layNew_perm t es ((intKind P w).hash i) (.int i tk);have V7:=layNew_fits t es ((intKind P w).hash i) (.int i tk);have hsz:t.place.size=es.size:=by
   have:=hf;unfold SetTable.fits at this;simp only[Γ6,beq_iff_eq] at this;exact this.1
  have T1:=Lv T es ((intKind P w).hash i) (.int i tk) (by omega) hsz;generalize layNew t es ((intKind P w).hash i) (.int i tk)=Y at UR V7 T1 ⊢;obtain⟨UP,t1,VM,abV⟩:=Y;dsimp only at UR V7 T1 ⊢;rw[Array.toList_push] at UR;have ZM:ElemsOf (intKind P w) UP.toList:=(XT.push Wm rfl).perm UR;have sz:UP.size=es.size+1:=by
   have:=UR.length_eq;simpa using this
  have hi1:∀ e∈UP.toList,∃ i tk,e.2=Value.int i tk:=fun e he=>by
   rcases Κ.mp (UR.mem_iff.mp he) with he|he
   ·exact hi e he
   ·rw[show e=_ by simpa using he];exact⟨i,tk,rfl⟩
  have Xn:(UP.toList.map fun e=>Bv e.2).Perm (ns++[i]):=by
   refine(UR.map _).trans ?_;rw[Α7];exact hp.append (.refl _)
  have hgw:∀(b:Bool) {s₁:Shared} {Q':Unit->Shared->Prop},Q' () s₁->wpAny (model P w) A (match b with|true=>rule "set.scan.the-table-gave-way" | false=>pure ()) Q' E s₁:=fun b s₁ Q' hq=>by
   cases b
   ·exact Ι hq
   ·exact wpAny_rule hq
  refine Β (hgw _ ?_);split
  ·refine Β ?_;rw[hashByValue_scannable 8 rfl];refine Ι ?_;simp only[plainKind,↓reduceIte];exact AW ho hex hd ZM (by omega) V7 T1 hi1 Xn (by omega) fun h' hs Xx=>Ι (h h' hs Xx _)
  ·refine Β (Ι ?_);simp only[↓reduceIte];exact AW ho hex hd ZM (by omega) V7 T1 hi1 Xn (by omega) fun h' hs Xx=>Ι (h h' hs Xx _)
end
noncomputable def once(val:Nat->Int):Nat->List Int
 | 0=>[]
 | i+1=>if val i∈once val i then once val i else once val i++[val i]
theorem vT(val:Nat->Int):∀ i,(once val i).length<=i
 | 0=>Θ _
 | i+1=>by
  have:=vT val i;rw[once];split
  ·omega
  ·rw[Ν];simp;omega
section
variable{R:Result->Shared->Prop}{wr:List Addr}{Gs:Array GenState->Array GenState->Prop}{Pi:Nat->Value->Prop}{St:Nat->Shared->Prop}
theorem Bx(W:WalksS P w A.in1 it fp wr Gs n Pi St)(z:Addr)(hz:z∉fp)(val:Nat->Int)(YB:∀ i v,Pi i v->∃ t,v=.int (val i) t)(hn:n<=4) : ∀(k i:Nat) (s:Shared),n - i=k->i<=n->St i s->pX P w z (once val i) s.heap -> (∀ s',Moved (z::wr) Gs s s'->pX P w z (once val n) s'.heap->R (.ok (.ret .none)) s')->codeAny (model P w) A (.builtin "set.update.loop" ⟨[.ref z,.ref it],[]⟩) R s:=by
 have zw:z∉wr:=fun h=>hz (W.sub _ h);have up:∀ b∈wr,b∈z::wr:=fun b hb=>ϑ _ hb;intro k
 induction k with
 | zero =>
  intro i s hk hi st hS hR;obtain rfl:i=n:=by omega
  refine Ζ1 PyProof.Rows.F.entry_set_update_loop ?_;rw[Δ9 Ζ5 _];show wpAny _ A.in1 (pyNext (.ref it) >>= _) _ _ s;refine Β (W.done s _ _ st fun s' hm=>?_);show wpAny _ A.in1 (ret Value.none) _ _ s';exact Ι (hR s' (hm.mono up) (hS.keep fun o e=>hm.heap z _ zw e))
 | succ k ih =>
  intro i s hk hi st hS hR;have lt:i < n:=by omega
  refine Ζ1 PyProof.Rows.F.entry_set_update_loop ?_;rw[Δ9 Ζ5 _];show wpAny _ A.in1 (pyNext (.ref it) >>= _) _ _ s;refine Β (W.item i s _ _ lt st fun v s' hP UL hm=>?_);obtain⟨t,rfl⟩:=YB i v hP;have Xx:pX P w z (once val i) s'.heap:=hS.keep fun o e=>hm.heap z _ zw e;show wpAny _ A.in1 (holding [Value.int (val i) t] (setAdd z (.int (val i) t)) >>= _) _ _ s';refine Β (Β3 ?_);unfold setAdd;refine Β3 ?_;refine Β ((intKind P w).pyHash (k:=val i) (intKind_is _ _ _ _) ?_);have room:(once val i).length<=3:=by have:=vT val i;omega
  refine CD (s:={s' with toks:=s'.toks+1}) Xx room fun h' sb hS2 b=>?_;refine Ι ⟨plainId_quiet Ζ5 _,ih (i+1) _ (by omega) lt (W.frame _ s' _ _ UL (Ε3 _) fun c hc o e=>?_) hS2 fun s2 hm2 hS3=>?_⟩
  ·rw[sb.2 c (fun h:c=z=>hz (by rw[<- h];exact hc))];exact e
  ·refine hR s2 (Moved.trans W.gtrans ((hm.mono up).then_heap (Ε3 _) fun c o hc e=>?_) hm2) hS3;rw[sb.2 c (fun h:c=z=>hc (by rw[h];exact List.mem_cons_self))];exact e
end
section
abbrev nR(led:Bool):Obj:={cls:=.type "set",dict:=none,data:=.set #[] 0 (.fresh 0 0 led)}
def Dc(a:Value){Q₁:q0A}(h:∀ led:Bool,(w.params.followText "set-order"=true\/led=true)->Q₁ (.ref s.heap.objs.size) {s with heap:=s.heap.push (nR led)}) : codeAny (model P w) A (.call (.builtin "set.__new__") ⟨[.type "set",a],[]⟩) (wants Q₁ E) s:=by
 refine codeAny_of_tree ?_;show wpAny _ A.in1 (do checkBuiltinCall "set.__new__" ⟨[.type "set",a],[]⟩;again (.builtin "set.__new__" ⟨[.type "set",a],[]⟩)) _ _ s;refine Β (wpAny_of_eq (PySem.F.newCall_set_1 a) (Ι ⟨plainId_quiet PySem.F.plain_set_new _,Ζ1 PySem.F.entry_set_new ?_⟩));rw[Δ9 PySem.F.plain_set_new _];unfold Builtin.«set.__new__» Builtin.Frozenset.newClass;have XC:=sub_set_self;obtain⟨hp,g,d,tk,os⟩:=s;dsimp only;wp_walk;refine wpAny_askSetting (Ι ?_);dsimp only;simp only[newObj];refine Β (wpAny_alloc (Ι ?_));refine Ι (h _ ?_);cases e:w.params.followText "set-order" with
 | true=>exact .inl rfl
 | false =>
  refine .inr ?_;show(!w.params.followText "set-order")=true;rw[e];rfl
def Fo{led:Bool}(h:w.params.followText "set-order"=true\/led=true):nM w (.fresh 0 0 led):=⟨.nil,h,rfl,rfl,rfl⟩
set_option maxHeartbeats 8000000 in
theorem Ba{Q:q0A}(hh:A.handled=none)(hl:s.heap.IsList l items)(hi:IntsAre items.toList ns)(h4:items.size<=4)(h:∀(h':Heap) (tk:Nat),pX P w s.heap.objs.size (once (fun i=>ns.getD i 0) items.size) h'->(∀ b o,b < s.heap.objs.size->s.heap.get? b=some o->h'.get? b=some o)->Q (.ref s.heap.objs.size) {s with heap:=h',toks:=tk}) : wpAny (model P w) A (call (.type "set") [.ref l]) Q E s:=by
  obtain⟨c,tl,abX⟩:=Β9.mro;have abI:=Β9.made;have XC:=Β9.sub;refine wpAny_call (codeAny_of_tree ?_);show wpAny _ _ (callAny (.type "set") _) _ _ _;refine Ι ⟨Code.quiet_builtin _ (by decide +kernel),Ζ1 PySem.F.entry_type_call ?_⟩;rw[Around.under_plain (weight_type_call_type "set" [.ref l] []) rfl];have h1:=Β9.notType;have h2:=Β9.canCreate;have Yq:=PySem.F.typeCall_set_1 (.ref l)
  repeat (any_goals (first|assumption|wp_step))
  refine codeAny_mono (Dc (.ref l) (E:=E) (Q₁:=fun obj s₁=>∃ led:Bool,(w.params.followText "set-order"=true\/led=true)/\obj=.ref s.heap.objs.size/\s₁={s with heap:=s.heap.push (nR led)}) fun led Yv=>⟨led,Yv,rfl,rfl⟩) fun r s₁ hr=>?_;cases r with
  | error e=>exact hr
  | ok fl =>
    cases fl with
    | ret obj =>
      obtain⟨led,Yv,rfl,rfl⟩:=hr;have hS:(s.heap.push (nR led)).get? s.heap.objs.size=some (nR led):=Ρ _ rfl;have hT:Shared.TypeIs {s with heap:=s.heap.push (nR led)} (.ref s.heap.objs.size) "set":=⟨_,hS,rfl⟩;have hli:=Β9.init.lookup;have hbi:=Β9.init.bind (.ref s.heap.objs.size)
      repeat (any_goals (first|assumption|wp_step))
      refine codeAny_mono (codeAny_call_builtin (R:=wants (fun r s₂=>r=.none/\∃ h' tk,s₂={s with heap:=h',toks:=tk}/\pX P w s.heap.objs.size (once (fun i=>ns.getD i 0) items.size) h' /\
          (∀ b o,b < s.heap.objs.size->s.heap.get? b=some o->h'.get? b=some o)) E) Β9.init.plain PySem.F.entry_set_init (check_set_init_1 hT ?_)) fun r₂ s₂ hr₂=>?_
      · obtain⟨ol,hol,hcl,nl,hdl⟩:=hl;obtain⟨ab2,aaB,abJ,YL⟩:=ol;simp only at hcl hdl;subst hcl hdl;have aaZ:(s.heap.push (nR led)).get? l=some ⟨.type "list",aaB,.seq items nl,YL⟩:=Ε _ hol;have abZ:=PySem.F.sub_list_set;have abY:=PySem.F.sub_list_frozenset;have U5:(Value.type "list"==Value.type "dict")=false:=by decide
        have WA:(s.heap.push (nR led)).IsList l items:=⟨_,aaZ,rfl,nl,rfl⟩;unfold Builtin.«set.__init__» noKeywords Builtin.Frozenset.updateFrom;generalize hPI:pyIter=PI;wp_walk;subst hPI;refine wpAny_pyIter_list WA ?_;refine Β (wpAny_runValue ?_);have lS:l < s.heap.objs.size:=Λ hol;have hh3:A.in1.in1.in1.handled=none:=by simp[hh]
        have sz:(s.heap.push (nR led)).objs.size=s.heap.objs.size+1:=Heap.size_push _ _;have aaW:l≠(s.heap.push (nR led)).objs.size:=Υ (by rw[sz];exact Nat.lt_succ_of_lt lS);have hSf:s.heap.objs.size∉[(s.heap.push (nR led)).objs.size,l]:=by
          simp only[Α,Δ,Φ,not_or];exact⟨Υ (by rw[sz];exact Nat.lt_succ_self _),Nat.ne_of_gt lS⟩
        have YB:∀(i:Nat) (v:Value),items[i]?=some v->∃ t,v=.int ((fun i=>ns.getD i 0) i) t:=fun i v hv=>IntsAre.int_at hi i v (by rw[Γ9];exact hv);refine Bx ((Walks.list hh3 _ l aaW items).toS) s.heap.objs.size hSf (fun i=>ns.getD i 0) YB h4 (items.size - 0) 0 _ (by omega) (Α2 _) ⟨⟨_,Ρ _ rfl,rfl,rfl⟩,(WA.push _)⟩ ?hS0 ?hR
        case hS0=>exact⟨_,#[],0,_,Ε _ hS,⟨rfl,rfl,rfl⟩,rfl,fun e he=>(by simp at he),by decide,rfl,Fo Yv,by simp,.nil⟩
        case hR =>
          intro s' hm Xx;obtain⟨h',g',d',Zc,XF⟩:=s';have eg:g'=s.gens:=hm.gens;have ed:d'=s.drawn:=hm.drawn;have eo:XF=s.os:=hm.os;subst eg ed eo;show wpAny _ _ _ _ _ _;refine Ι ?_;show wpAny _ _ (ret Value.none) _ _ _;refine Ι ⟨rfl,h',Zc,rfl,Xx,fun b o hb e=>?_⟩;exact hm.heap b o (by simp only[Α,Δ,Φ,not_or];exact⟨Υ hb,Υ (by rw[sz];exact Nat.lt_succ_of_lt hb)⟩) (Ε _ (Ε _ e))
      · cases r₂ with
        | error e=>exact hr₂
        | ok fl₂ =>
          cases fl₂ with
          | ret r =>
            obtain⟨rfl,h',tk,rfl,Xx,hk'⟩:=hr₂
            repeat (any_goals (first|assumption|wp_step))
            exact h _ _ Xx hk'
          | _=>exact hr₂.elim
    | _=>exact hr.elim
end
mutual
example:=[(by decide +kernel),(by kernel_rfl),(by rw[typeLookup_type,builtinLookup_eq_fast];kernel_rfl),(by rw[isSubtype_type];kernel_rfl),(by first|exact .inl 0e0|exact .inr 0e0)]
def BS:Manifest.owners.lookup (String.ofList ['r','o','t','a','r','e','t','i','_','t','e','s'].reverse)=some Manifest.sig_set_iterator:=by kernel_rfl
theorem fU:Slot "set_iterator" "__next__" "set_iterator.__next__" :=
 .of (owner:="set_iterator") (n:="__next__") 2e0 0e0 0e0 0e0
  4e0 3e0
def nO:entryFor table "set_iterator.__next__"=some Builtin.«set_iterator.__next__»:=entryFor_of_tree 1e0
def oQ(a:Value):argsOk "set_iterator.__next__" ⟨[a],[]⟩:=by
 unfold argsOk;rw[signature?_of (id:="set_iterator.__next__") (n:=['_','_','t','x','e','n','_','_']) (o:=['r','o','t','a','r','e','t','i','_','t','e','s']) 1e0 BS];kernel_rfl
theorem pR:Slot "set_iterator" "__iter__" "set_iterator.__iter__" :=
 .of (owner:="set_iterator") (n:="__iter__") 2e0 0e0 0e0 0e0
  4e0 3e0
theorem xU:entryFor table "set_iterator.__iter__"=some Builtin.«dict_keyiterator.__iter__» :=
 entryFor_alias (id':="dict_keyiterator.__iter__") 1e0 rfl 0e0 1e0
def zU(a:Value):argsOk "set_iterator.__iter__" ⟨[a],[]⟩:=by
 unfold argsOk;rw[signature?_of (id:="set_iterator.__iter__") (n:=['_','_','r','e','t','i','_','_']) (o:=['r','o','t','a','r','e','t','i','_','t','e','s']) 1e0 BS];kernel_rfl
theorem uG:entryFor table "set.__iter__"=some Builtin.«frozenset.__iter__» :=
 entryFor_alias (id':="frozenset.__iter__") 1e0 rfl 0e0 1e0
end
section
mutual
example:=[.ref it,(by simp),(by omega),Int×Value,model P w,w.params.setOrder a ep,rawInt (UK:Nat),lJ w a es ep,Ι ?_,Β (wpAny_askSetting (Ι ?_)),Β (Γ5 e1 e3 e4 (Ι ?_)),Γ5 e1 e3 e4 ?_,(if w.params.followText "set-order"=true then _ else _),wpAny_call_entry fU ki.ty nO ?_ (oQ _),Ι (Β (wpAny_fieldsOf i1 i3 ?_)),!t.plain&&decide (es.size > 1),(setEntries a >>= fun _=>_),(fun h=>hb (by simp[h])),(Β8 ?_ (by size_fits)),(by rw[mJ];exact hi),Int.toNat (sl:Nat),Int.toNat (ep:Nat)]
variable{es:Array 3e0}{ep:Nat}
def jY(w:World)(h:Heap)(a:Addr)(es:Array 3e0)(ep:Nat)(t:SetTable):Prop:=∃ o,h.get? a=some o/\o.ExactSet/\o.data=.set es ep t/\t.fits es.size=true/\nM w t
def jY.to{h':Heap}(x:jY w h a es ep t)(k:∀ o,h.get? a=some o->h'.get? a=some o):jY w h' a es ep t:=let ⟨o,e,r⟩:=x;⟨o,k _ e,r⟩
def jY.lt(x:jY w h a es ep t):a < h.objs.size:=let ⟨_,e,_⟩:=x;Λ e
def jY.ty(x:jY w s.heap a es ep t):s.TypeIs (.ref a) "set":=let ⟨o,e,c,_⟩:=x;⟨o,e,c.1⟩
def lJ(w:World)(a:Addr)(es:Array 3e0)(ep:Nat):Array 3e0:=if w.params.followText "set-order"=true then pickOrder 5e0 es else es
def vX:(lJ w a es ep).toList.Perm es.toList:=by
 unfold lJ;split
 ·exact Gr _ _
 ·exact .refl _
def mJ:(lJ w a es ep).size=es.size:=by have:=(vX (w:=w) (a:=a) (es:=es) (ep:=ep)).length_eq;simpa using this
def zT(w:World)(t:SetTable)(i sl:Nat):Prop:=w.params.followText "set-order"=true\/SetTable.below t.place sl=i
def xO(w:World)(h:Heap)(it a:Addr)(i n ep:Nat)(t:SetTable):Prop:=∃ o sl,h.get? it=some o/\o.cls=.type "set_iterator"/\o.data=.fields #[.int (sl:Nat) 0,.int (i:Nat) 0,.ref a,.int (n:Nat) 0,.int (ep:Nat) 0]/\zT w t i sl
def xO.to{h':Heap}(x:xO w h it a i n ep t)(k:∀ o,h.get? it=some o->h'.get? it=some o):xO w h' it a i n ep t:=let ⟨o,sl,e,r⟩:=x;⟨o,sl,k _ e,r⟩
def xO.ty(x:xO w s.heap it a i n ep t):s.TypeIs 0e0 "set_iterator":=let ⟨o,_,e,c,_⟩:=x;⟨o,e,c⟩
theorem GF(T:nM w t):zT w t 0 0:=.inr (by
 obtain⟨h1,h2,h3⟩:=oA t.place 0 T.rise;by_cases z:SetTable.below t.place 0=0
 ·exact z
 ·have:=h1 0 2e0 2e0;omega)
theorem GD(T:nM w t)(e:t.place[i]?=some j):SetTable.below t.place (j+1)=i+1:=by
 obtain⟨hi,ej⟩:=Array.getElem?_eq_some_iff.mp e;obtain⟨h1,h2,h3⟩:=oA t.place (j+1) T.rise;by_cases c:SetTable.below t.place (j+1)<=i
 ·have:=h2 i hi c;omega
 ·by_cases d:i+1 < SetTable.below t.place (j+1)
  ·have h4:i+1 < t.place.size:=by omega
   have h5:=h1 (i+1) h4 d;have h6:=Ζ2.mp T.rise i (i+1) (by simpa using hi) (by simpa using h4) 2e0;simp at h6;omega
  ·omega
theorem Jv{Q:q0A}(x:jY w s.heap a es ep t)(q:Q (.ref s.heap.objs.size) {s with heap:=s.heap.push {cls:=.type "set_iterator",data:=.fields #[.int 0 0,.int 0 0,.ref a,.int es.size 0,.int ep 0]}}):wpAny 4e0 A (pyIter (.ref a)) Q E s:=by
 obtain⟨o,e1,e2,e3,e4,T⟩:=id x;refine wpAny_pyIter_slot x.ty F.slot_set_iter (wpAny_call_entry F.slot_set_iter x.ty uG ?_ (F.args_set_iter_1 _));unfold Builtin.«frozenset.__iter__»;refine Β ?_;show wpAny _ _ ((pure (Value.ref a,([]:List Value)):Sem _) >>= fun z=>Builtin.Frozenset.addrOf z.1) _ _ s;refine Β (Ι 8e0);refine Β (Β (Β (Γ5 e1 e3 e4 (Ι 8e0))));refine Β (Β 1e1);refine Β 9e0;refine Ι ?_;show wpAny _ _ (if (!w.params.followText "set-order"&&5e1)=true then _ else _) _ _ s;rw[T.pln];simp only[Bool.not_true,Bool.false_and,Bool.and_false,ϙ,Β5];refine Β (Ι (Β 0e1));refine Β (Β8 (Ι ⟨_,rfl,"set_iterator",_,⟨_,Ρ _ rfl,rfl⟩,fU.lookup,by simpa[rawInt] using q⟩))
theorem xN{sl:Nat}{Q:Option (Value×Nat)->Shared->Prop}(x:jY w s.heap a es ep t)(hs:zT w t i sl)(q1:∀ e UK,7e0[i]?=some e->zT w t (i+1) UK->Q (some (e.2,UK)) s)(q0:7e0[i]?=none->Q none s):wpAny 4e0 A (setNext a sl i ep) Q E s:=by
 obtain⟨o,e1,e2,e3,e4,T⟩:=id x;unfold setNext;refine Β 1e1;dsimp only;refine Β 9e0;show wpAny _ _ 2e1 _ _ s;by_cases c:w.params.followText "set-order"=true
 ·rw[if_pos c,if_neg 1e0];unfold setWalk;refine Β (Β 1e1);dsimp only;refine Β 9e0;show wpAny _ _ 2e1 _ _ s;rw[if_pos c];refine Β (wpAny_askSetting (Ι 8e0));show Q (Option.map _ (pickOrder 5e0 es)[i]?) s;have eo:lJ w a es ep=pickOrder 5e0 es:=if_pos c;rw[eo] at q1 q0;cases h:(pickOrder 5e0 es)[i]? with
  | none=>exact q0 h
  | some e=>exact q1 e sl h (.inl c)
 ·rw[if_neg c];have eo:lJ w a es ep=es:=if_neg c;rw[eo] at q1 q0;have hb:SetTable.below t.place sl=i:=hs.resolve_left c;have hl:t.led=true:=T.led.resolve_left c;show wpAny _ _ (if 5e1=true then _ else _) _ _ s;rw[T.pln];simp only[Bool.not_true,Bool.false_and,ϙ,Β5];show wpAny _ _ ((if (!t.led&&!es.isEmpty)=true then unsupported "set:maker-not-led" else pure ()) >>= fun _=>_) _ _ s;rw[hl];simp only[Bool.not_true,Bool.false_and,ϙ,Β5];refine Β (Ι 8e0);rw[hb];have hz:t.place.size=es.size:=by
   have:=e4;unfold SetTable.fits at this;simp only[Γ6,beq_iff_eq] at this;exact this.1
  by_cases d:i < es.size
  ·have h1:es[i]?=some es[i]:=Δ1 d;have h2:t.place[i]?=some (t.place[i]' 2e0):=Δ1 2e0;rw[h1,h2];exact q1 _ _ h1 (.inr (GD T h2))
  ·have h1:es[i]?=none:=Array.getElem?_eq_none 2e0;rw[h1];exact q0 h1
def Jx(ki:xO w s.heap it a i es.size ep t)(x:jY w s.heap a es ep t){e:Int×Value}(he:7e0[i]?=some e)(q:∀ h',xO w h' it a (i+1) es.size ep t->Heap.SameBut it s.heap h'->Q (some e.2) {s with heap:=h'}):wpAny 4e0 A (pyNext 0e0) Q E s:=by
 obtain⟨oi,sl,i1,i2,i3,i4⟩:=id ki;obtain⟨o,e1,e2,e3,e4,T⟩:=id x;have lt:i < es.size:=by have:=(Array.getElem?_eq_some_iff.mp he).1;rw[mJ] at this;exact this
 unfold pyNext;refine Β (wpAny_attempt (wpAny_callSpecial?_slot (name:=Str.ofString "__next__") ki.ty fU
  3e1))
 unfold Builtin.«set_iterator.__next__»;refine Β 4e1;show wpAny _ _ 6e1 _ _ s;refine Β 0e1;rw[if_neg 1e0];show wpAny _ _ (setNext a 0e2 (Int.toNat (i:Nat)) 1e2 >>= fun z=>_) _ _ s;simp only[Int.toNat_natCast];refine Β ?_;refine xN x i4 (fun e' UK he' WD=>?_) fun z=>by rw[z] at he;cases he
 rw[he] at he';cases he';show wpAny _ _ (setField 0e0 0 6e0 >>= fun _=>_) _ _ s;refine Β (wpAny_setField i1 i3 1e0 ?_);have j1:(s.heap.update it (Obj.mapFields (·.setIfInBounds 0 6e0))).get? it=some (Obj.mapFields (·.setIfInBounds 0 6e0) oi):=Heap.get?_update_self _ i1 (Obj.isFreed_of_fields (Obj.data_mapFields i3 _));have j3:(Obj.mapFields (·.setIfInBounds 0 6e0) oi).data=.fields #[.int (UK:Nat) 0,.int (i:Nat) 0,.ref a,.int (es.size:Nat) 0,.int (ep:Nat) 0]:=by rw[Obj.data_mapFields i3];simp[rawInt]
 show wpAny _ _ (setField 0e0 1 (rawInt ((i:Int)+1)) >>= fun _=>_) _ _ _;refine Β (wpAny_setField j1 j3 1e0 ?_);refine Ι ⟨_,rfl,Ι (q _ ⟨_,UK,Heap.get?_update_self _ j1 (Obj.isFreed_of_fields (Obj.data_mapFields j3 _)),((Obj.cls_mapFields ..).trans (Obj.cls_mapFields ..)).trans i2,by rw[Obj.data_mapFields j3];simp[rawInt],WD⟩ ((Heap.SameBut.update ..).trans (Heap.SameBut.update ..)))⟩
theorem L0(hh:A.handled=none)(ki:xO w s.heap it a es.size es.size ep t)(x:jY w s.heap a es ep t)(q:∀ h',Heap.ExtBut it s.heap h'->Q none {s with heap:=h'}):wpAny 4e0 A (pyNext 0e0) Q E s:=by
 obtain⟨oi,sl,i1,i2,i3,i4⟩:=id ki;obtain⟨o,e1,e2,e3,e4,T⟩:=id x;unfold pyNext;refine Β (wpAny_attempt (wpAny_callSpecial?_slot (name:=Str.ofString "__next__") ki.ty fU
  3e1))
 unfold Builtin.«set_iterator.__next__»;refine Β 4e1;show wpAny _ _ 6e1 _ _ s;refine Β 0e1;rw[if_neg 1e0];show wpAny _ _ (setNext a 0e2 (Int.toNat (es.size:Nat)) 1e2 >>= fun z=>_) _ _ s;simp only[Int.toNat_natCast];refine Β ?_;refine xN x i4 (fun e' UK he' WD=>by
  have:=(Array.getElem?_eq_some_iff.mp he').1;rw[mJ] at this;omega) fun _=>?_
 show wpAny _ _ (setField 0e0 2 .none >>= fun _=>_) _ _ s;refine Β (wpAny_setField i1 i3 1e0 ?_);show wpAny _ _ (newExc (.type "StopIteration") [] >>= fun _=>_) _ _ _;refine Β ?_;simp only[newExc,newTuple];refine Β 8e1;refine Β (m:=firstArgMember _ _) (wpAny_of_eq (a:=Value.none) (by first|rfl|(simp only[firstArgMember];rfl)) 8e1)
 simp only[raiseNew];refine Β (wpAny_handled ?_);rw[show A.in1.handled=none from hh];refine Β (Ι (wpAny_throw ?_));refine Β (wpAny_isInstance (T:="StopIteration") (b:=true) ⟨_,Ρ _ rfl,rfl⟩ (show _ from isSubtype_stop) ?_);exact Ι (q _ (((Heap.SameBut.update ..).extBut.push _).push _))
def Jy{Q:q0A}(ki:xO w s.heap it a i n ep t)(h:Q 0e0 s):wpAny 4e0 A (pyIter 0e0) Q E s:=by
 refine wpAny_pyIter_slot ki.ty pR (wpAny_call_entry pR ki.ty xU ?_ (zU _));show wpAny _ _ (ret 0e0) _ _ s;exact Ι ⟨_,rfl,"set_iterator",_,ki.ty,fU.lookup,h⟩
def GQ(hh:A.handled=none)(it a:Addr)(ne:a≠it)(es:Array 3e0)(ep:Nat)(t:SetTable) : Walks P w A it [it,a] [it] es.size (fun i v=>∃ e,7e0[i]?=some e/\v=e.2) (fun i h=>xO w h it a i es.size ep t/\jY w h a es ep t) where
 sub:=fun b hb=>by simp at hb;simp[hb]
 frame:=fun _ _ _ st hk=>⟨st.1.to fun o e=>hk it 1e0 o e,st.2.to fun o e=>hk a 1e0 o e⟩
 item:=fun i s Q E hi st hQ=>Jx st.1 st.2 (Δ1 9e1) fun h' k2 sb=>hQ _ h' s.toks ⟨_,Δ1 9e1,rfl⟩ ⟨k2,st.2.to fun o e=>sb.extBut a o ne e⟩ fun b o hb e=>sb.extBut b o 7e1 e
 done:=fun s Q E st hQ=>L0 hh st.1 st.2 fun h' he=>hQ h' s.toks fun b o hb e=>he b o 7e1 e
 self:=fun _ _ _ _ st hQ=>Jy st.1 hQ
end
end
section
variable{prog:Program}{r:Addr}{es:Array (Int×Value)}{ep:Nat}
theorem Ii{Q:Bool->Shared->Prop}(hT:s.TypeIs (.ref r) "set")(h:Q false s):wpAny (model prog w) A (Builtin.List.listLengthHint (.ref r)) Q E s:=by
 unfold Builtin.List.listLengthHint;refine Β (wpAny_specialOf hT PySem.F.slot_set_len.lookup ?_);generalize hid:("set.__len__":String)=id0
 wp_delta
 rw[show splitId id0=some ("set","__len__") from by subst hid;decide +kernel];subst hid;refine Β (wpAny_isInstance (T:="set") (b:=true) hT (by rw[isSubtype_type];kernel_rfl) ?_);refine wpAny_ite_split (fun hab=>absurd hab (by decide)) (fun _=>?_);refine wpAny_ite_split (fun _=>?_) (fun hab=>absurd (by decide +kernel) hab);refine Β (wpAny_typeOf hT ?_);exact Ι h
open PySem.W in
theorem L7:KdlSrc prog w "set" a a es.size (fun i v=>∃ e,(lJ w a es ep)[i]?=some e/\v=e.2) (fun h=>jY w h a es ep t) where
 type:=fun _ hm=>hm.ty
 there:=fun _ hm=>⟨hm.lt,hm.lt⟩
 keep:=fun _ _ hm hk=>hm.to fun o e=>hk a (.inl rfl) o e
 notList:=by decide
 notTuple:=by decide
 hint:=fun _ _ _ _ hm hq=>Ii hm.ty hq
 iter:=fun _ _ hh hm=>⟨_,_,(fun _ _ hq=>Jv hm hq),GQ hh _ a (Υ hm.lt) es ep t,⟨⟨_,0,Ρ _ rfl,rfl,rfl,GF (let ⟨_,_,_,_,_,T⟩:=hm;T)⟩,hm.to fun o e=>Ε _ e⟩⟩
end
mutual
example:=[List.Mem.head _,(by omega),.lst (UB.map V.int),.ref l,seqObj "list" vs.toArray 0,List.Mem.tail _ mem,CC P w p ns,.type "set",I.ok.hd hc]
theorem Hb:bootBuiltins "set"=some 7e0:=by decide +kernel
def look1{k z:Str}{c:Addr}{r:List (Str×Addr)}(e:List.lookup k r=some a)(h:List.lookup z [(k,a)]=some c):List.lookup z r=some c:=by
 simp only[List.lookup] at h;split at h
 ·next y=>cases h;rw[eq_of_beq y];exact e
 ·cases h
def CC(P:Program)(w:World)(a:Addr)(ns:List Int):HO:=.ext (pX P w a ns)
def LZ(x:pX X.prog X.w a ns h):eF X.prog X.w H h a (CC X.prog X.w a ns) :=
 ⟨x,let ⟨o,_,_,_,e,_⟩:=x;⟨o,e⟩,fun _ _ y k=>y.keep k⟩
def lH(ns:List Int):List Int:=once (fun i=>ns.getD i 0) ns.length
def Hk(P:Program)(w:World):List V->Hp->VK->Prop:=fun vs H Q=>on1 vs fun x=>bG x fun p=>∃ ns:List Int,H p=some (.lst (ns.map V.int))/\ns.length<=4/\∀ l,H l=none->Q 3e0 (Ul H l (CC P w l (lH ns)))
theorem yL(hc:X.calm=true):fA X 7e0 (Hk X.prog X.w):=fun Uk s Z H xs us Q I r h=>by
 obtain⟨x,rfl,h1⟩:=jT h;obtain⟨p,rfl,ns,e,h4,q⟩:=aR h1;obtain⟨u,rfl,ru⟩:=vals1 r;cases ru;obtain⟨Up,r',pl,hz⟩:=I.list (eY.of e);have hi:IntsAre Up ns:=CW r';have hlen:=r'.length;have lm:Up.toArray.size=ns.length:=by simpa using hlen.symm
 refine Ba (items:=Up.toArray) 8e0 pl.isList (by simpa using hi) 1e0 fun h' tk hS kp=>?_;rw[lm] at hS;exact⟨.ref s.heap.objs.size,_,I.laid (t':=tk) (fun b o e=>kp b o (Λ e) e) (Θ _) (LZ hS),rfl,q _ (I.Ut.fresh (Θ _))⟩
def Hj(P:Program)(w:World):List V->Hp->VK->Prop:=fun vs H Q=>on1 vs fun x=>bG x fun p=>∃ ns:List Int,H p=some 6e0/\Q (.int ns.length) H
theorem CI:fA X (.builtin "len") (Hj X.prog X.w):=fun Uk s Z H xs us Q I r h=>by
 obtain⟨x,rfl,h1⟩:=jT h;obtain⟨p,rfl,ns,e,q⟩:=aR h1;obtain⟨u,rfl,ru⟩:=vals1 r;cases ru;obtain⟨⟨o,es,ep,t,ho,hex,hd,XT,hb,hf,T,hi,hp⟩,_⟩:=I.Ut p _ e;have hl:es.size=ns.length:=by have:=hp.length_eq;simpa using this
 have b1:scanBound=4096:=rfl;refine call_len_set ho hex hd hf 1e0 ?_;exact⟨.int ns.length,H,I.tok _,⟨_,by rw[hl]⟩,q⟩
def Hl(P:Program)(w:World):List V->Hp->VK->Prop:=fun vs H Q=>on1 vs fun x=>bG x fun p=>∃ ns:List Int,H p=some 6e0/\ns.length < 64/\∀(l:Addr) (UB:List Int),H l=none->UB.Perm ns->UB.Pairwise (·<=·)->Q 3e0 (Ul H l 2e0)
theorem CJ(hc:X.calm=true):fA X (.builtin "sorted") (Hl X.prog X.w):=fun Uk s Z H xs us Q I r h=>by
 obtain⟨x,rfl,h1⟩:=jT h;obtain⟨p,rfl,ns0,e,h64,q0⟩:=aR h1;obtain⟨u,rfl,ru⟩:=vals1 r;cases ru;obtain⟨⟨od,es,ep,t,ho,hex,hd,XT,hb,hf,T,hi,hp0⟩,_⟩:=I.Ut p _ e;have hl:es.size=ns0.length:=by have:=hp0.length_eq;simpa using this
 obtain⟨m,hn,_⟩:=I.loc;have U5:p≠X.env.locals:=aF e I.free;obtain⟨ns,VB⟩:∃ ns,ns=(lJ X.w p es ep).toList.map fun e=>Bv e.2:=⟨_,rfl⟩;have pns:ns.Perm ns0:=by rw[VB];exact(vX.map _).trans hp0
 have X8:ns.length=es.size:=by rw[VB];simp[mJ]
 have q:∀(l:Addr) (UB:List Int),H l=none->UB.Perm ns->UB.Pairwise (·<=·)->Q 3e0 (Ul H l 2e0):=fun l UB a b c=>q0 l UB a (b.trans pns) c;refine PySem.W.kdu_sorted (L7 (a:=p) (es:=es) (ep:=ep) (t:=t)) 8e0 (Att.CV hn) (Att.mC U5 ho) ⟨od,ho,hex,hd,hf,T⟩ (by rw[Ε2];omega) fun D h' tk vs F N lt hlen hP=>?_;have hI:IntsAre vs ns:=Ee 1e0 fun j v ev=>by
  obtain⟨e,e1,rfl⟩:=hP j v ev;have Vq:(lJ X.w p es ep).toList[j]?=some e:=by rw[Γ9];exact e1
  obtain⟨i,tk,et⟩:=hi e (vX.mem_iff.mp (ϓ Vq));exact⟨i,tk,by rw[VB,Ψ,Vq];simp only[Option.map_some,et,Bv],et⟩
 have hD:h'.get? D=some 4e0:=(N _ 0e0).1;have old:∀ b o,b≠X.env.locals->s.heap.get? b=some o->h'.get? b=some o/\b < D:=fun b o nb eb=>by
  by_cases hb:b=p
  ·subst hb;rw[ho] at eb;cases eb;exact⟨(N _ (List.Mem.tail _ 0e0)).1,lt _ 0e0⟩
  ·have mem:=Att.kW (h:=s.heap) (L:=X.env.locals) (d:=p) |>.mpr ⟨nb,hb,eb⟩;exact⟨(N _ (List.Mem.tail _ 5e0)).1,lt _ 5e0⟩
 have g:MeetsIn X.prog X.w (Builtin.«list.sort» ⟨[.ref D],[]⟩) (fun _ R s=>s.heap.get? D=some 4e0/\∀(out:Array Value) (UB:List Int),IntsAre out.toList UB->UB.Perm ns->UB.Pairwise (·<=·)->R (.ok (.ret .none)) {s with heap:=sortedHeap s.heap D vs out}) :=
  fun A R s ⟨g1,g2⟩=>list_sort_tree g1 hI 1e0 fun out UB a b c=>g2 out UB a b c
 refine Δ0 PySem.F.slot_list_sort ⟨_,hD,rfl⟩ PySem.F.entry_list_sort (PySem.F.args_list_sort_1 _) g ⟨hD,fun out UB ZC hp hs=>?_⟩;have WR:D≠X.env.locals:=(N _ 0e0).2.1;have Wz:H D=none:=by
  cases z:H D with
  | none=>rfl
  | some o =>
   obtain⟨ob,eb⟩:=(I.Ut D o z).there;exact absurd (old D ob WR eb).2 (Α0 _)
 have new:∀ b o,b≠X.env.locals->s.heap.get? b=some o->(sortedHeap h' D vs out).get? b=some o:=fun b o nb eb=>by
  obtain⟨h1,h2⟩:=old b o nb eb;rw[sortedHeap_old (Υ h2) (Λ h1)];exact h1
 obtain⟨e',ZA⟩:=sortedHeap_at (out:=out) hD;have Wn:∀ m',s.heap.Ns X.env.locals m'->(sortedHeap h' D vs out).Ns X.env.locals m':=fun m' hm=>by
  have em:m'=m:=by
   obtain⟨o1,UP,Wi,a1,b1,_,c1⟩:=hm;obtain⟨o2,es2,Zs,a2,b2,_,c2⟩:=hn;rw[a1] at a2;cases a2;rw[b1] at b2;cases b2;funext y;rw[<- c1,<- c2]
  subst em;obtain⟨o1,UP,Wi,a1,r1⟩:=F.ns;exact⟨o1,UP,Wi,by rw[sortedHeap_old WR.symm (Λ a1)];exact a1,r1⟩
 have nn:∀ {b:Addr} {o:HO},H b=some o->b≠D:=fun h z=>by subst z;rw[Wz] at h;cases h
 have nl:∀ {b:Addr} {o:HO},H b=some o->b≠X.env.locals:=fun h=>aF h I.free;refine⟨.ref D,Ul H D 2e0,show Uo X Uk Z _ {s with heap:=sortedHeap h' D vs out,gens:=s.gens,drawn:=s.drawn,toks:=tk} from I.step (g':=s.gens) (d':=s.drawn) (t':=tk) (ch:=[]) (fun _ z=>nomatch z) (fun b o nb _ _ eb _=>new b o nb eb) (fun b o nb _ _ eb _=>⟨o.slots,new b o nb eb⟩) (fun b o _ eb hb=>?_) (fun b o _ eb=>?_)
  (fun b xs hb=>by rw[aE (nn hb)];exact hb) (fun b o u hb=>by rw[aE (nn hb)];exact hb) (fun b ps hb=>⟨#[],by rw[aE (nn hb),hb];simp⟩) Wn (fun b o hb=>?_) I.bare,rfl,q D UB Wz hp hs⟩
 ·by_cases VF:b=D
  ·subst VF;by_cases VG:b=X.env.locals
   ·exact absurd VG WR
   ·exact absurd (old b o VG eb).2 (Α0 _)
  ·rw[aE VF];exact hb
 ·by_cases VG:b=X.env.locals
  ·subst VG;obtain⟨o1,UP,Wi,a1,r1⟩:=Wn m hn;exact⟨o1,a1⟩
  ·exact⟨o,new b o VG eb⟩
 ·by_cases VF:b=D
  ·subst VF;rw[aA] at hb;cases hb;exact⟨by rw[Γ,hp.length_eq,Ε2];omega,out.toList,e',nH ZC,ZA⟩
  ·rw[aE VF] at hb;refine(I.Ut b o hb).sO (fun c v hc ev=>?_) (fun c hc=>by rw[aE (nn hc)];exact hc) fun c xs hc=>by rw[aE (nn hc)];exact hc
   rcases hc with hc|hc
   ·subst hc;exact new c v (nl hb) ev
   ·exact new c v (nl hc) ev
end
section
variable{Q:VK}{p:Addr}
def Ld:Hk P w [.ref p] H Q = ∃ ns:List Int,H p=some (.lst (ns.map V.int))/\ns.length<=4/\∀ l,H l=none->Q (.ref l) (Ul H l (CC P w l (lH ns))):=rfl
def KQ:Hj P w [.ref p] H Q = ∃ ns:List Int,H p=some (CC P w p ns)/\Q (.int ns.length) H:=rfl
def HQ:Hl P w [.ref p] H Q = ∃ ns:List Int,H p=some (CC P w p ns)/\ns.length < 64/\∀(l:Addr) (UB:List Int),H l=none->UB.Perm ns->UB.Pairwise (·<=·)->Q (.ref l) (Ul H l (.lst (UB.map V.int))):=rfl
end
noncomputable def P8(K:q0B)(n:Nat):R2:=fun x y H Q=>bG x fun a=>bG y fun b=>(∃ r,xP K H n a b r/\Q (.bl r) H) \/
 ∃(z z' u:Str) (p:Addr) (ts:List V),H a=some (.tup [.str z,.ref p])/\H p=some (.tup ts)/\H b=some (.tup [.str z',.str u])/\z≠z'/\Q (.bl false) H
theorem Pn(n:Nat)(hn:2<=n)(hu:X.A.units+n < cLine):jG X (compareOp .Eq) (P8 X.K n):=fun Uk s Z H x y v u Q I rx ry h=>by
 obtain⟨a,rfl,h1⟩:=aR h;obtain⟨b,rfl,h2⟩:=aR h1;cases rx;cases ry;rcases h2 with⟨r,e,q⟩|⟨z,z',k,p,ts,ea,ep,eb,ne,q⟩
 ·exact Jp e I hu X.prog X.w X.xe _ (cB I q rfl)
 ·obtain⟨Up,r1,p1,_⟩:=I.tuple (iJ.of ea);obtain⟨X5,r2,p2,_⟩:=I.tuple (iJ.of eb);obtain⟨kts,r3,p3,_⟩:=I.tuple (iJ.of ep);cases r1 with
  | cons a1 r1 =>
  cases r1 with
  | cons a2 r1 =>
  cases r1;cases r2 with
  | cons b1 r2 =>
  cases r2 with
  | cons b2 r2 =>
  cases r2;obtain⟨t1,rfl⟩:=a1;cases a2;obtain⟨t2,rfl⟩:=b1;obtain⟨t3,rfl⟩:=b2;have:=SeqAt.RcAt.tuples (A:=X.A) (e:=fun j=>if j=0 then (z==z') else false) (show s.heap.IsTuple a #[_,_] from p1) (show s.heap.IsTuple b #[_,_] from p2) (by omega) (fun j h1 h2=>by
   match j,h1 with
   | 0,_=>exact SeqAt.EqAt.str_str z t1 z' t2
   | 1,_=>exact SeqAt.EqAt.tuple_str k t3 (show s.heap.IsTuple p kts.toArray from p3) (by show X.A.units+1 < _;omega))
  have nz:(z==z')=false:=Β4.mpr ne;have ef:((List.range (min (2:Nat) 2)).all (fun j=>if j=0 then (z==z') else false)&&((2:Nat)==2))=false:=by rw[nz];rfl
  have:=this X.prog X.w X.xe (EP X Uk Z Q) (by
   show EP X Uk Z Q (.bool ((List.range (min (2:Nat) 2)).all (fun j=>if j=0 then (z==z') else false)&&((2:Nat)==2))) s;rw[ef];exact cB I q rfl)
  exact this
section
variable{Q:VK}{b:Addr}
def Qt:P8 K n (.ref a) (.ref b) H Q=((∃ r,xP K H n a b r/\Q (.bl r) H)\/∃(z z' u:Str) (p:Addr) (ts:List V),H a=some (.tup [.str z,.ref p])/\H p=some (.tup ts)/\H b=some (.tup [.str z',.str u])/\z≠z'/\Q (.bl false) H):=rfl
end
mutual
example:=[List.Mem.head _,(by omega),seqObj "list" vs.toArray 0,List.Mem.tail _ mem,.lst (UB.map V.str)]
def iU:List (Key×V)->Option (List Str)
 | []=>some []
 | (.inr i,_)::r=>(iU r).map (i::·)
 | _=>none
theorem xF:∀ {kvs:List (Key×V)} {ns:List Str},iU kvs=some ns->kvs.length=ns.length/\∀(j:Nat) (k:Key) (x:V),kvs[j]?=some (k,x)->∃ i:Str,k=.inr i/\ns[j]?=some i
 | [],ns,h=>by cases h;exact⟨rfl,fun j k x e=>by simp at e⟩
 | (k,v)::kvs,ns,h=>by
  cases k with
  | inr i =>
   simp only[iU,ϗ] at h;obtain⟨ms,e,rfl⟩:=h;obtain⟨l,f⟩:=xF e;refine⟨by simp[l],fun j k x ej=>?_⟩;cases j with
   | zero=>simp only[Ξ,Ο,Prod.mk.injEq] at ej;exact⟨i,ej.1.symm,rfl⟩
   | succ j=>exact f j k x (by simpa using ej)
  | _=>cases h
def Ma{ns:List Str}:∀ {vs:List Value},vs.length=ns.length->(∀(j:Nat) (v:Value),vs[j]?=some v->∃ i t,ns[j]?=some i/\v=Value.str i t)->StrsAre vs ns:=by
 induction ns with
 | nil =>
  intro vs hl _;cases vs with
  | nil=>exact .nil
  | cons _ _=>simp at hl
 | cons n ns ih =>
  intro vs hl h;cases vs with
  | nil=>simp at hl
  | cons v vs =>
   obtain⟨i,t,e,rfl⟩:=h 0 v rfl;cases e;exact .cons _ _ (ih (by simpa using hl) fun j v e=>h (j+1) v (by simpa using e))
def DI{vs:List Value}{ss:List Str}(h:StrsAre vs ss):Uq (ss.map V.str) vs:=by
 induction h with
 | nil=>exact .nil
 | cons y t _ ih=>exact .cons ⟨t,rfl⟩ ih
def Hn:List V->Hp->VK->Prop:=fun vs H Q=>on1 vs fun x=>bG x fun p=>dE (H p) fun kvs=>fM (iU kvs) fun ns=>ns.length < 64/\∀(l:Addr) (UB:List Str),H l=none->UB.Perm ns->sortedS UB=true->Q (.ref l) (Ul H l 4e0)
theorem kO(hc:X.calm=true):fA X (.builtin "sorted") Hn:=fun Uk s Z H xs us Q I r h=>by
 obtain⟨x,rfl,h1⟩:=jT h;obtain⟨p,rfl,h2⟩:=aR h1;obtain⟨kvs,e,h3⟩:=dI h2;obtain⟨ns,ek,h64,q⟩:=cP h3;obtain⟨u,rfl,ru⟩:=vals1 r;cases ru;obtain⟨hl,hk⟩:=xF ek;obtain⟨z,hd,Ze,rel,dd⟩:=nN I.Ut e;obtain⟨ep,dat⟩:=dd.dictAt;obtain⟨od,es,ho,_⟩:=id dat;obtain⟨m,hn,_⟩:=I.loc;have U5:p≠X.env.locals:=aF e I.free;have l0:=rel.length;refine PySem.W.kdu_sorted (PySem.W.kdl_dict (knd:=bJ X.prog X.w) (kvs:=Ze) (ep:=ep) hd) (I.ok.hd hc) (Att.CV hn) (Att.mC U5 ho) dat 1e0 fun D h' tk vs F N lt hlen hP=>?_;have hI:StrsAre vs ns:=Ma 1e0 fun j v ev=>by
  obtain⟨k,x,e1,e2⟩:=hP j v ev;have hj:j < kvs.length:=by
   have:=(Μ.mp e1).1;omega
  obtain⟨⟨k',x'⟩,XJ⟩:∃ y,kvs[j]?=some y:=⟨_,Τ hj⟩;obtain⟨v',e3⟩:=KV.at rel XJ;rw[e1] at e3;cases e3;obtain⟨i,rfl,ei⟩:=hk j _ _ XJ;obtain⟨t,et⟩:=(show ∃ t,v=Value.str i t from oZ e2);exact⟨i,t,ei,et⟩
 have hD:h'.get? D=some 2e0:=(N _ 0e0).1;have old:∀ b o,b≠X.env.locals->s.heap.get? b=some o->h'.get? b=some o/\b < D:=fun b o nb eb=>by
  by_cases hb:b=p
  ·subst hb;rw[ho] at eb;cases eb;exact⟨(N _ (List.Mem.tail _ 0e0)).1,lt _ 0e0⟩
  ·have mem:=Att.kW (h:=s.heap) (L:=X.env.locals) (d:=p) |>.mpr ⟨nb,hb,eb⟩;exact⟨(N _ (List.Mem.tail _ 3e0)).1,lt _ 3e0⟩
 have g:MeetsIn X.prog X.w (Builtin.«list.sort» ⟨[.ref D],[]⟩) (fun _ R s=>s.heap.get? D=some 2e0/\∀(out:Array Value) (UB:List Str),StrsAre out.toList UB->UB.Perm ns->sortedS UB=true->R (.ok (.ret .none)) {s with heap:=sortedHeap s.heap D vs out}) :=
  fun A R s ⟨g1,g2⟩=>list_sort_treeK strKind_oneLt g1 hI.keysOf (fun v₁ v₂ rest e=>keyKind_strs (by rw[<- e];exact hI)) 1e0 fun UL hp hs=>by
   obtain⟨ss',h1,h2,h3⟩:=sorted_out_str hI hp hs;exact g2 _ ss' h1 h2 h3
 refine Δ0 PySem.F.slot_list_sort ⟨_,hD,rfl⟩ PySem.F.entry_list_sort (PySem.F.args_list_sort_1 _) g ⟨hD,fun out UB ZC hp hs=>?_⟩;have WR:D≠X.env.locals:=(N _ 0e0).2.1;have Wz:H D=none:=by
  cases z:H D with
  | none=>rfl
  | some o =>
   obtain⟨ob,eb⟩:=(I.Ut D o z).there;exact absurd (old D ob WR eb).2 (Α0 _)
 have new:∀ b o,b≠X.env.locals->s.heap.get? b=some o->(sortedHeap h' D vs out).get? b=some o:=fun b o nb eb=>by
  obtain⟨h1,h2⟩:=old b o nb eb;rw[sortedHeap_old (Υ h2) (Λ h1)];exact h1
 obtain⟨e',ZA⟩:=sortedHeap_at (out:=out) hD;have Wn:∀ m',s.heap.Ns X.env.locals m'->(sortedHeap h' D vs out).Ns X.env.locals m':=fun m' hm=>by
  have em:m'=m:=by
   obtain⟨o1,UP,Wi,a1,b1,_,c1⟩:=hm;obtain⟨o2,es2,Zs,a2,b2,_,c2⟩:=hn;rw[a1] at a2;cases a2;rw[b1] at b2;cases b2;funext y;rw[<- c1,<- c2]
  subst em;obtain⟨o1,UP,Wi,a1,r1⟩:=F.ns;exact⟨o1,UP,Wi,by rw[sortedHeap_old WR.symm (Λ a1)];exact a1,r1⟩
 have nn:∀ {b:Addr} {o:HO},H b=some o->b≠D:=fun h z=>by subst z;rw[Wz] at h;cases h
 have nl:∀ {b:Addr} {o:HO},H b=some o->b≠X.env.locals:=fun h=>aF h I.free;refine⟨.ref D,Ul H D 4e0,show Uo X Uk Z _ {s with heap:=sortedHeap h' D vs out,gens:=s.gens,drawn:=s.drawn,toks:=tk} from I.step (g':=s.gens) (d':=s.drawn) (t':=tk) (ch:=[]) (fun _ z=>nomatch z) (fun b o nb _ _ eb _=>new b o nb eb) (fun b o nb _ _ eb _=>⟨o.slots,new b o nb eb⟩) (fun b o _ eb hb=>?_) (fun b o _ eb=>?_)
  (fun b xs hb=>by rw[aE (nn hb)];exact hb) (fun b o u hb=>by rw[aE (nn hb)];exact hb) (fun b ps hb=>⟨#[],by rw[aE (nn hb),hb];simp⟩) Wn (fun b o hb=>?_) I.bare,rfl,q D UB Wz hp hs⟩
 ·by_cases VF:b=D
  ·subst VF;by_cases VG:b=X.env.locals
   ·exact absurd VG WR
   ·exact absurd (old b o VG eb).2 (Α0 _)
  ·rw[aE VF];exact hb
 ·by_cases VG:b=X.env.locals
  ·subst VG;obtain⟨o1,UP,Wi,a1,r1⟩:=Wn m hn;exact⟨o1,a1⟩
  ·exact⟨o,new b o VG eb⟩
 ·by_cases VF:b=D
  ·subst VF;rw[aA] at hb;cases hb;exact⟨by rw[Γ,hp.length_eq];omega,out.toList,e',DI ZC,ZA⟩
  ·rw[aE VF] at hb;refine(I.Ut b o hb).sO (fun c v hc ev=>?_) (fun c hc=>by rw[aE (nn hc)];exact hc) fun c xs hc=>by rw[aE (nn hc)];exact hc
   rcases hc with hc|hc
   ·subst hc;exact new c v (nl hb) ev
   ·exact new c v (nl hc) ev
end
section
variable{Q:VK}{p:Addr}
def Lf:Hn [.ref p] H Q=dE (H p) fun kvs=>fM (iU kvs) fun ns=>ns.length < 64/\∀(l:Addr) (UB:List Str),H l=none->UB.Perm ns->sortedS UB=true->Q (.ref l) (Ul H l (.lst (UB.map V.str))):=rfl
end
end Lake
namespace PySem
open AutoSeq1 (wpAny_loadPart')
open PyProof.Rows PySem.W
section
variable {prog:Program} {w:World} {A:Around} {E:q0A} {s:Shared} {K:Type} [DecidableEq K] {knd:KeyKind prog w K} {r d:Addr} {kvs:List (K×Value)} {ep:Nat}
def l6{Q₁:q0A}(hh:A.handled=none)(hv:s.heap.IsItemsView r d)(hm:s.heap.DictAt knd d kvs ep)(hn:kvs.length<=sizeLine)(hQ:∀(h':Heap) (tk:Nat) (as:List Addr),(∀ b o,s.heap.get? b=some o->h'.get? b=some o)->as.length=kvs.length->KdxG knd kvs s.heap.objs.size h' as->Q₁ (.ref h'.objs.size) {s with heap:=h'.push {cls:=.type "tuple",data:=.seq (as.map Value.ref).toArray},toks:=tk}) : codeAny (model prog w) A (.call (.builtin "tuple.__new__") ⟨[.type "tuple",.ref r],[]⟩) (wants Q₁ E) s:=by
 refine codeAny_of_tree ?_;show wpAny _ A.in1 (do checkBuiltinCall "tuple.__new__" ⟨[.type "tuple",.ref r],[]⟩;again (.builtin "tuple.__new__" ⟨[.type "tuple",.ref r],[]⟩)) _ _ s;refine Β (wpAny_of_eq (F.newCall_tuple_1 _) (Ι ⟨plainId_quiet F.plain_tuple_new _,Ζ1 F.entry_tuple_new ?_⟩));rw[Δ9 F.plain_tuple_new _];have XC:=sub_tuple_self;have abH:=init_tuple_lookup;have hmh:=madeHere_tuple;have hTI:s.TypeIs (.ref r) "dict_items":=let ⟨o,ho,x,_⟩:=hv;⟨o,ho,x⟩;wp_walk using wpAny_typeOf hTI,kdx_collect (A:=A.in1) (knd:=knd) (kvs:=kvs) (ep:=ep) hh hv hm hn;intro h' tk as hk hl hG;show wpAny _ _ (Builtin.Tuple.tupleExact (as.map Value.ref).toArray >>= fun v=>ret v) _ _ _;unfold Builtin.Tuple.tupleExact;refine Β (Β8 ?_ (by show(as.map Value.ref).toArray.size<=sizeLine;simpa[hl] using hn));refine Ι ?_;exact hQ h' tk as hk hl hG
theorem qA{Q:q0A}(hh:A.handled=none)(hv:s.heap.IsItemsView r d)(hm:s.heap.DictAt knd d kvs ep)(hn:kvs.length<=sizeLine)(hQ:∀(h':Heap) (tk:Nat) (as:List Addr),(∀ b o,s.heap.get? b=some o->h'.get? b=some o)->as.length=kvs.length->KdxG knd kvs s.heap.objs.size h' as->Q (.ref h'.objs.size) {s with heap:=h'.push {cls:=.type "tuple",data:=.seq (as.map Value.ref).toArray},toks:=tk}) : wpAny (model prog w) A (call (.type "tuple") [.ref r]) Q E s:=by
 refine callType_codes (Q₁:=fun obj s₁=>s₁.TypeIs obj "tuple"/\Q obj s₁) F.called_tuple (F.typeCall_tuple_1 _) F.entry_object_init
  (l6 (knd:=knd) (kvs:=kvs) (ep:=ep) hh hv hm hn fun h' tk as hk hl hG=>⟨⟨_,Ρ _ rfl,rfl⟩,hQ h' tk as hk hl hG⟩) fun obj s₁ h₁=>?_
 exact⟨h₁.1,F.args_object_init_2 obj _,object_init_meets F.called_tuple.init.lookup F.called_tuple.made (by decide) prog w A.in1 _ s₁ ⟨h₁.1,rfl,h₁.2⟩⟩
end
end PySem
namespace Lake
open PySem PySem.Spec PyProof.Rows
variable{a:Addr}{items:Array Value}{X:Cx}{H:Hp}{kvs:List (Key×V)}{ns:List Int}{vs:List Value}{i n:Nat}{st:SortSt}
def MW(a d:Addr):HO:=.ext fun h=>h.IsItemsView a d
section
variable{o:Expr}{td:TE}{apos Uv:Pos}
def Hi(td:TE):TE:=fun Z H Q=>td Z H fun x H1=>bG x fun a=>dE (H1 a) fun _=>∀ r,H1 r=none->Q (.ref r) (Ul H1 r (MW r a))
def Jd(ho:PE X o td)(UX:attributeBase o "items" X.env (eval o X.env)=eval o X.env:=by rfl)(UY:(apos.endLine==Uv.line)=true:=by rfl):PE X (.Call (.Attribute o "items" apos) [] [] Uv) (Hi td):=fun Uk s Z H Q I h=>by
 refine wpAny_Call_method0_late UX UY (thn (ho Uk s Z H _ I h) fun v s1 ⟨x,H1,I1,r1,q1⟩=>?_);obtain⟨a,rfl,q2⟩:=aR q1;obtain⟨kvs,e0,q3⟩:=dI q2;obtain rfl:v=Value.ref a:=r1;obtain⟨t1,t2,_⟩:=qF I1 (.inl ⟨kvs,.inl e0⟩);refine⟨"dict","dict.items",Γ3,PySem.F.slot_dict_items,PySem.F.type_dict_items,t1,t2,Β1 rfl (PySem.evalArgs_none ?_)⟩;obtain⟨z,hd,vs,rel,dd⟩:=nN I1.Ut e0;refine Δ0 PySem.F.slot_dict_items dd.typeIs PySem.F.entry_dict_items (PySem.F.args_dict_items_1 _) (meets_dict_items (bJ X.prog X.w) a hd) ⟨⟨vs,dd⟩,?_⟩;have I2:=I1.laid (t':=s1.toks) (fun b o e=>Ε _ e) (Θ _) (show eF X.prog X.w _ (s1.heap.push {cls:=.type "dict_items",data:=.fields #[.ref a]}) _ (MW s1.heap.objs.size a) from ⟨⟨_,Ρ _ rfl,rfl,rfl⟩,⟨_,Ρ _ rfl⟩,fun h1 h2 ⟨o,ho,x⟩ k=>⟨o,k o ho,x⟩⟩);exact⟨.ref _,_,I2,rfl,q3 _ (I1.Ut.fresh (Θ _))⟩
end
mutual
example:=[Key×V,as.map V.ref,.tup 1e0,(.tup [kV k,x]),lV as kvs H]
def KV.atR{vs:List (Key×Value)}(r:KV kvs vs){k:Key}{x:V}(e:kvs[i]?=some (k,x)):∃ v,vs[i]?=some (k,v)/\bP x v:=by
 unfold KV at r
 induction r generalizing i with
 | nil=>simp at e
 | @cons p q ps qs h t ih=>cases i with
  | zero =>
   have e':p=(k,x):=by simpa using e
   subst e';exact⟨q.2,by rw[Ξ,show k=q.1 from h.1],h.2⟩
  | succ i=>simpa using ih (i:=i) (by simpa using e)
theorem zS:∀ as:List Addr,Uq 1e0 (as.map Value.ref)
 | []=>.nil
 | a::as=>.cons rfl (zS as)
def lV:List Addr->List 0e0->Hp->Hp
 | a::as,(k,x)::kvs,H=>Ul 4e0 a 3e0
 | _,_,H=>H
theorem mV{H:Hp}{b:Addr}:∀ {as:List Addr} {kvs:List 0e0},b∉as->lV as kvs H b=H b
 | [],_,_=>by simp[lV]
 | a::as,[],_=>by simp[lV]
 | a::as,(k,x)::kvs,h=>by
  simp only[Α,not_or] at h;rw[lV,aE h.1,mV h.2]
theorem tR{H:Hp}{a:Addr}{k:Key}{x:V}:∀ {as:List Addr} {kvs:List 0e0} {j:Nat},as.Nodup->as[j]?=some a->kvs[j]?=some (k,x)->lV as kvs H a=some 3e0
 | [],_,_,_,h,_=>by simp at h
 | b::as,[],_,_,_,h=>by simp at h
 | b::as,(k',x')::kvs,0,_,h1,h2=>by
  simp only[Ξ,Ο,Prod.mk.injEq] at h1 h2;obtain⟨rfl,rfl⟩:=h2;subst h1;rw[lV,aA]
 | b::as,(k',x')::kvs,j+1,nd,h1,h2=>by
  rw[Ϙ] at nd;simp only[List.getElem?_cons_succ] at h1 h2;have:a≠b:=fun z=>nd.1 (by rw[<- z];exact ϓ h1);rw[lV,aE this,tR nd.2 h1 h2]
theorem GX{b:Addr}{o:HO}{as:List Addr}(nd:as.Nodup)(hl:as.length=kvs.length)(hb:b∈as)(h:lV as kvs H b=some o):∃(j:Nat) (k:Key) (x:V),as[j]?=some b/\kvs[j]?=some (k,x)/\o=.tup [kV k,x]:=by
 obtain⟨j,hj⟩:=List.mem_iff_getElem?.mp hb;have UN:j < kvs.length:=by have:=(Μ.mp hj).1;omega
 obtain⟨⟨k,x⟩,e⟩:∃ y,kvs[j]?=some y:=⟨_,Τ UN⟩;rw[tR nd hj e] at h;exact⟨j,k,x,hj,e,(ϖ h).symm⟩
def Hq:List V->Hp->VK->Prop:=fun vs H Q=>on1 vs fun x=>bG x fun r=>∃(d:Addr) (kvs:List 0e0),H r=some (MW r d)/\H d=some (.dK kvs)/\∀(l:Addr) (as:List Addr) (H':Hp),H l=none->Same H H'->H' l=some 2e0->as.length=kvs.length->(∀(j:Nat) (a:Addr) (k:Key) (x:V),as[j]?=some a->kvs[j]?=some (k,x)->H' a=some 3e0)->Q (.ref l) H'
theorem CL(hc:X.calm=true):fA X (.type "tuple") Hq:=fun Uk s Z H xs us Q I rr h=>by
 obtain⟨x,rfl,h1⟩:=jT h;obtain⟨r,rfl,d,kvs,er,ed,q⟩:=aR h1;obtain⟨u,rfl,ru⟩:=vals1 rr;cases ru;have hv:s.heap.IsItemsView r d:=(I.Ut r _ er).1;obtain⟨z,hd,Ze,rel,dd⟩:=nN I.Ut ed;obtain⟨ep,dat⟩:=dd.dictAt;have l0:=rel.length;refine qA (knd:=bJ X.prog X.w) (kvs:=Ze) (ep:=ep) (I.ok.hd hc) hv dat (by omega) fun h' tk as hk hl hG=>?_;have fresh:∀ {b:Addr},s.heap.objs.size<=b->H b=none:=fun hb=>I.Ut.fresh hb;have YR:∀ b o,H b=some o->∃ ob,s.heap.get? b=some ob:=fun b o e=>(I.Ut b o e).there;have hl0:H h'.objs.size=none:=by
  cases e:H h'.objs.size with
  | none=>rfl
  | some o =>
   obtain⟨ob,eb⟩:=YR _ _ e;exact absurd (Λ (hk _ _ eb)) (Α0 _)
 have nd:as.Nodup:=hG.rise.imp fun h=>Υ h;have aH:∀ a∈as,H a=none:=fun a ha=>fresh (Nat.le_of_lt (hG.above a ha));have nl:h'.objs.size∉as:=fun z=>absurd (hG.there z) (Α0 _);have hlk:as.length=kvs.length:=by omega
 have same:Same H (Ul 4e0 h'.objs.size 2e0):=fun b o e=>by
  have h1:b≠h'.objs.size:=fun z=>by rw[z,hl0] at e;cases e
  have h2:b∉as:=fun z=>by rw[aH b z] at e;cases e
  rw[aE h1,mV h2];exact e
 have VL:∀ b o,s.heap.get? b=some o->(h'.push {cls:=.type "tuple",data:=.seq (as.map Value.ref).toArray}).get? b=some o:=fun b o e=>Ε _ (hk b o e);refine⟨.ref h'.objs.size,Ul 4e0 h'.objs.size 2e0,show Uo X Uk Z _ {s with heap:=h'.push {cls:=.type "tuple",data:=.seq (as.map Value.ref).toArray},gens:=s.gens,drawn:=s.drawn,toks:=tk} from I.step (g':=s.gens) (d':=s.drawn) (t':=tk) (ch:=[]) (fun _ z=>nomatch z) (fun b o nb _ _ eb _=>VL b o eb) (fun b o nb _ _ eb _=>⟨o.slots,VL b o eb⟩) (fun b o _ eb hb=>?_) (fun b o _ eb=>⟨o,VL b o eb⟩)
  (fun b xs hb=>same b _ hb) (fun b o u hb=>same b _ hb) (fun b ps hb=>⟨#[],by rw[same b _ hb];simp⟩) (fun m hm=>?_) (fun b o hb=>?_) I.bare,rfl,q _ as _ hl0 same aA hlk fun j a k x e1 e2=>?_⟩
 ·have h1:b≠h'.objs.size:=Υ (Λ (hk b o eb));have h2:b∉as:=fun z=>absurd (Nat.lt_trans (hG.above b z) (Λ eb)) (Α0 _);rw[aE h1,mV h2];exact hb
 ·obtain⟨o1,UP,Wi,a1,r1⟩:=hm;exact⟨o1,UP,Wi,VL _ _ a1,r1⟩
 ·by_cases h1:b=h'.objs.size
  ·subst h1;rw[aA] at hb;cases hb;exact⟨by rw[Γ];omega,as.map Value.ref,zS as,IsTup.new _ _⟩
  ·rw[aE h1] at hb;by_cases h2:b∈as
   ·obtain⟨j,k,x,e1,e2,rfl⟩:=GX nd hlk h2 hb;obtain⟨key,k',x',e3,e4,e5⟩:=hG.pairs j b e1;obtain⟨v,e6,e7⟩:=KV.atR rel e2;rw[e3] at e6;cases e6;exact⟨by show 2<=sizeLine;rw[Ε2];decide,[key,x'],.cons (oZ e4) (.cons e7 .nil),⟨_,Ε _ e5,rfl,_,rfl⟩⟩
   ·rw[mV h2] at hb;exact(I.Ut b o hb).sO (fun c v _ ev=>VL c v ev) (fun c hc=>same _ _ hc) fun c xs hc=>same _ _ hc
 ·have:a≠h'.objs.size:=fun z=>nl (by rw[<- z];exact ϓ e1);rw[aE this,tR nd e1 e2]
end
section
variable{Q:VK}{p:Addr}{td:TE}{Z:St}
def KO:Hi td Z H Q=td Z H fun x H1=>bG x fun a=>dE (H1 a) fun _=>∀ r,H1 r=none->Q (.ref r) (Ul H1 r (MW r a)):=rfl
def Lh:Hq [.ref p] H Q = ∃(d:Addr) (kvs:List (Key×V)),H p=some (MW p d)/\H d=some (.dK kvs)/\∀(l:Addr) (as:List Addr) (H':Hp),H l=none->Same H H'->H' l=some (.tup (as.map V.ref))->as.length=kvs.length->(∀(j:Nat) (a:Addr) (k:Key) (x:V),as[j]?=some a->kvs[j]?=some (k,x)->H' a=some (.tup [kV k,x]))->Q (.ref l) H':=rfl
end
mutual
example:=[]
def FK(a b:Str):Prop:=a.cps.toList<=b.cps.toList
def qK{a b c:Str}(h:FK a b)(g:FK b c):FK a c:=List.le_trans h g
def Iw{a b:Str}(h:FK a b)(g:FK b a):a=b:=by
 have e:=List.le_antisymm h g;obtain⟨⟨x⟩⟩:=a;obtain⟨⟨y⟩⟩:=b;simp only at e;rw[e]
def yW(a b:Str):FK a b\/FK b a:=List.le_total a.cps.toList b.cps.toList
theorem wG:∀ {l:List Str} {p:Str},risingS p l=true->(p::l).Pairwise FK
 | [],p,_=>by simp
 | x::r,p,h=>by
  rw[risingS,Γ6,Bool.not_eq_true',ltCps_eq,decide_eq_false_iff_not,List.not_lt] at h;have ih:=wG h.2;rw[Γ0];refine⟨fun y hy=>?_,ih⟩;rcases Α.mp hy with rfl|hy
  ·exact h.1
  ·exact qK h.1 ((Γ0.mp ih).1 y hy)
def Du{l:List Str}(h:sortedS l=true):l.Pairwise FK:=by
 cases l with
 | nil=>exact .nil
 | cons x r=>exact wG h
theorem AA:∀ {a b:List Str},a.Perm b->a.Pairwise FK->b.Pairwise FK->a=b
 | [],b,p,_,_=>by rw[List.nil_perm.mp p]
 | x::a,[],p,_,_=>by have:=p.length_eq;simp at this
 | x::a,y::b,p,ha,hb=>by
  rw[Γ0] at ha hb;have e:x=y:=by
   have h1:x∈y::b:=p.mem_iff.mp (by simp);have h2:y∈x::a:=p.mem_iff.mpr (by simp);rcases Α.mp h1 with h1|h1
   ·exact h1
   rcases Α.mp h2 with h2|h2
   ·exact h2.symm
   exact Iw (ha.1 y h2) (hb.1 x h1)
  subst e;rw[AA p.cons_inv ha.2 hb.2]
def J6(a b:Str):Bool:=!(ltCps b.cps.toList a.cps.toList)
def gE{a b:Str}:J6 a b=true↔FK a b:=by
 rw[J6,Bool.not_eq_true',ltCps_eq,decide_eq_false_iff_not,List.not_lt];exact Iff.rfl
def srt(l:List Str):List Str:=l.mergeSort J6
def AJ{l ns:List Str}(p:ns.Perm l)(h:sortedS ns=true):ns=srt l:=by
 refine AA (p.trans (Ζ7 l J6).symm) (Du h) ?_;have:=List.pairwise_mergeSort (le:=J6) (fun a b c h g=>gE.mpr (qK (gE.mp h) (gE.mp g))) (fun a b=>by
  rcases yW a b with h|h
  ·rw[gE.mpr h];simp
  ·rw[gE.mpr h];simp) l
 exact this.imp fun h=>gE.mp h
theorem El:∀(f n r:Nat),r<=1->minRun' f n r<=n+r
 | 0,n,r,_=>Nat.le_of_eq rfl
 | f+1,n,r,hr=>by
  rw[minRun'_succ];split
  ·omega
  ·have:=El f (n / 2) (max r (n % 2)) (by omega);omega
end
section
mutual
example:=[(by omega),arrOf st,model prog w,(Obj.mapSeq fun _=>#[]),pairsOf (u::v::rest),wpS_get ?_,(by simp),u::v::rest,seqObj "tuple" vs.toArray 0,seqObj "list" #[] e1,seqObj "list" #[] 0,pairsOf vs]
variable{prog:Program}{w:World}{A:Around}{E:q0A}{s:Shared}{b0:Array Keyed}
theorem PF{C:Option Nat->SortSt->Prop}(ik:IntKeys b0)(sb:SBase b0 st)(one:1<=b0.size)(up:∀ n,1<=n->n < b0.size->K 1e0 (n - 1)<=K 1e0 n)(q:SortedTo 1e0 b0.size->C (some b0.size) st):wpS 2e0 A E s (countRun' 0 b0.size) C st:=by
 rw[countRun0_eq];refine wpS_bind (wpS_ascLoop ik (Θ _) (Θ 1) one sb (fun i j a b=>?_) fun n n1 n2 so oz=>?_)
 ·obtain rfl:i=j:=by omega
  exact Int.le_refl _
 ·have en:n=b0.size:=by
   rcases oz with z|z
   ·exact z
   ·rcases Nat.lt_or_ge n b0.size with y|y
    ·have:=up n n1 y;omega
    ·omega
  dsimp only;rw[en] at so ⊢;rw[if_pos 6e0];exact wpS_pure (q so)
theorem L5{C:Unit->SortSt->Prop}(ik:IntKeys b0)(sb:SBase b0 st)(two:2<=b0.size)(up:∀ n,1<=n->n < b0.size->K 1e0 (n - 1)<=K 1e0 n)(q:∀ UL,(arrOf UL).Perm b0->failedOf UL=none->SortedTo (arrOf UL) b0.size->C () UL):wpS 2e0 A E s sortRuns' C st:=by
 rw[sortRuns'_eq];refine wpS_bind 5e0;dsimp only;have mr:=El b0.size b0.size 0 0e0;simp only[sb.size];obtain⟨P1,hP1⟩:∃ P1:SortSt->Prop,∀ z,P1 z=(arrOf z=arrOf st/\failedOf z=none/\pendingOf z = #[(0,b0.size,0)]/\SortedTo (arrOf z) b0.size):=⟨_,fun _=>rfl⟩;refine wpS_bind (wpS_mono (wpS_forRange (I:=fun x c z=>(x=0/\c=(none,0)/\z=st)\/(1<=x/\c=(none,b0.size)/\P1 z)) (Q:=fun c z=>c=(none,b0.size)/\P1 z) ?stp ?end0 (.inl ⟨rfl,rfl,rfl⟩)) ?aft)
 case end0 =>
  rintro c z (⟨a,_,_⟩|⟨_,a,b⟩)
  ·omega
  ·exact⟨a,b⟩
 case stp =>
  rintro x c z _ _ (⟨rfl,rfl,rfl⟩|⟨_,rfl,b⟩)
  ·dsimp only;rw[if_neg 0e0];simp only[Nat.sub_zero,Γ2];refine wpS_bind (PF ik sb 0e0 up fun so=>?_);dsimp only;rw[if_neg 0e0];refine wpS_bind 5e0;rw[show(pendingOf z).back?=none by rw[sb.pend];rfl];dsimp only;refine wpS_bind (wpS_modify (wpS_pure (.inr ⟨Θ _,rfl,?_⟩)));rw[hP1];exact⟨rfl,sb.failed,by show(pendingOf z).push _=_;rw[sb.pend];rfl,so⟩
  ·dsimp only;rw[if_pos (Θ _)];exact wpS_pure ⟨rfl,b⟩
 case aft =>
  rintro c z ⟨rfl,b⟩;rw[hP1] at b;dsimp only;refine wpS_bind (wpS_mono (wpS_forRange (I:=fun _ c y=>y=z/\c=(none,())) (Q:=fun c y=>y=z/\c=(none,())) ?_ (fun _ _ e=>e) ⟨rfl,rfl⟩) ?_)
  ·rintro x c y _ _ ⟨rfl,rfl⟩;refine wpS_bind 5e0;rw[if_pos (by rw[b.2.2.1];exact Θ 1)];exact wpS_pure ⟨rfl,rfl⟩
  ·rintro c y ⟨rfl,rfl⟩;exact wpS_pure (q _ (b.1▸sb.perm) b.2.1 b.2.2.2)
def Im(hI:IntsAre vs ns):∀ {i:Nat} {n:Int},ns[i]?=some n->∃ t,vs[i]?=some (.int n t):=by
 induction hI with
 | nil=>intro i n h;simp at h
 | cons m t _ ih =>
  intro i n h;cases i with
  | zero =>
   simp only[Ξ,Ο] at h;subst h;exact⟨t,rfl⟩
  | succ i=>exact ih (by simpa using h)
def Mj(hI:IntsAre vs ns){n:Int}(h:ns[i]?=some n):K 1e1 i=n:=by
 obtain⟨t,e⟩:=Im hI h;have z:1e1[i]?=some (.int n t,.int n t):=by
  rw[<- Γ9,pairsOf_toList,List.getElem?_zip_eq_some];exact⟨e,e⟩
 unfold K;rw[z];rfl
theorem Ak{C:Fin->Shared->Prop}(ho:s.heap.get? a=some (seqObj "list" vs.toArray n))(hI:IntsAre vs ns)(hr:ns.Pairwise (·<=·))(hz:vs.length<=sizeLine)(q:∀(out:Array Value) (UB:List Int),IntsAre out.toList UB->UB.Perm ns->UB.Pairwise (·<=·)->C (.done (.ret .none)) {s with heap:=sortedHeap s.heap a vs out}) : wpAny 2e0 A (Builtin.«list.sort» ⟨[.ref a],[]⟩) C E s:=by
 by_cases UO:vs.length < 64
 ·exact list_sort_tree ho hI UO q
 have lI:vs.length=ns.length:=hI.length;have la:a < s.heap.objs.size:=Λ ho;rw[list_sort_plain];refine Β (listItems_at ho rfl (Β (listUpdate_at ho rfl ?_)));obtain⟨e1,o1⟩:∃ e1,(s.heap.update a 3e0).get? a=some 9e0:=⟨_,get?_update_seq ho (fun _=>#[])⟩;refine Β (seqEpoch_at o1 rfl (Β (wpAny_newTuple (Β (wpAny_newList (Β3 ?_))))));have o6:(((s.heap.update a 3e0).push 8e0).push 0e1).get? a=some 9e0:=Ε _ (Ε _ o1);show wpAny 2e0 A _ C E {s with heap:=((s.heap.update a 3e0).push 8e0).push 0e1};dsimp only;have U5:¬ vs.toArray.size < 2:=by rw[Η];omega
 rw[if_neg U5,if_neg U5];obtain⟨u,v,rest,rfl⟩:∃ u v rest,vs=u::v::rest:=by
  match vs,UO with
  | [],z=>exact absurd 6e0 z
  | [_],z=>exact absurd 6e0 z
  | u::v::rest,_=>exact⟨u,v,rest,rfl⟩
 rw[keyKind_ints hI];refine Β (Ι (Β (Β6 (L5 (b0:=pairsOf 7e0) (st:=SortSt.mk' oneType' ((u::v::rest).toArray.zip (u::v::rest).toArray) #[] 7 none)
  (C:=fun _ z=>(arrOf z).Perm 4e0/\failedOf z=none/\SortedTo (arrOf z) (pairsOf 7e0).size)
  hI.intKeys ⟨Array.Perm.refl _,rfl,rfl,rfl⟩ (by rw[pairsOf_size];simp) (fun i i1 i2=>?_) fun z x y c=>⟨x,y,c⟩) ?_ fun _ _ e=>e)))
 ·rw[pairsOf_size] at i2;have l1:i - 1 < ns.length:=by omega
  have l2:i < ns.length:=by omega
  show K 4e0 (i - 1)<=K 4e0 i;rw[Mj hI (Τ l1),Mj hI (Τ l2)];exact Ζ2.mp hr (i - 1) i l1 l2 0e0
 rintro⟨⟨⟩,z⟩ s' ⟨rfl,hp,hf,hs⟩;dsimp only;refine Β (seqEpoch_at o6 rfl (Β (listUpdate_at o6 rfl ?_ (hsz2:=by refine Χ (Nat.le_of_eq ((Array.size_map ..).trans (hp.size_eq.trans (pairsOf_size _)))) ?_;omega))));rw[hf];simp only[bne_self_eq_false,ϙ,Β5];obtain⟨UB,h1,h2,h3⟩:=sorted_out hI hp hs;exact Ι (q _ UB h1 h2 h3)
end
end
noncomputable def Hm:List V->Hp->VK->Prop:=fun vs H Q=>on1 vs fun x=>bG x fun p=>dE (H p) fun kvs=>fM (intKeys kvs) fun ns=>ns.Pairwise (· < ·)/\∀(l:Addr) (UB:List Int),H l=none->UB.Perm ns->UB.Pairwise (·<=·)->Q (.ref l) (Ul H l (.lst (UB.map V.int)))
theorem CK(hc:X.calm=true):fA X (.builtin "sorted") Hm:=fun Uk s Z H xs us Q I r h=>by
 obtain⟨x,rfl,h1⟩:=jT h;obtain⟨p,rfl,h2⟩:=aR h1;obtain⟨kvs,e,h3⟩:=dI h2;obtain⟨ns,ek,aaO,q⟩:=cP h3;obtain⟨u,rfl,ru⟩:=vals1 r;cases ru;obtain⟨hl,hk⟩:=uT ek;obtain⟨z,hd,Ze,rel,dd⟩:=nN I.Ut e;obtain⟨ep,dat⟩:=dd.dictAt;obtain⟨od,es,ho,_⟩:=id dat;obtain⟨m,hn,_⟩:=I.loc;have U5:p≠X.env.locals:=aF e I.free;have l0:=rel.length;refine PySem.W.kdu_sorted (PySem.W.kdl_dict (knd:=bJ X.prog X.w) (kvs:=Ze) (ep:=ep) hd) (I.ok.hd hc) (Att.CV hn) (Att.mC U5 ho) dat (by omega) fun D h' tk vs F N lt hlen hP=>?_;have hI:IntsAre vs ns:=Ee (by omega) fun j v ev=>by
  obtain⟨k,x,e1,e2⟩:=hP j v ev;have hj:j < kvs.length:=by
   have:=(Μ.mp e1).1;omega
  obtain⟨⟨k',x'⟩,XJ⟩:∃ y,kvs[j]?=some y:=⟨_,Τ hj⟩;obtain⟨v',e3⟩:=KV.at rel XJ;rw[e1] at e3;cases e3;obtain⟨i,rfl,ei⟩:=hk j _ _ XJ;obtain⟨t,et⟩:=(show ∃ t,v=Value.int i t from oZ e2);exact⟨i,t,ei,et⟩
 have hD:h'.get? D=some (seqObj "list" vs.toArray 0):=(N _ (List.Mem.head _)).1;have old:∀ b o,b≠X.env.locals->s.heap.get? b=some o->h'.get? b=some o/\b < D:=fun b o nb eb=>by
  by_cases hb:b=p
  ·subst hb;rw[ho] at eb;cases eb;exact⟨(N _ (List.Mem.tail _ (List.Mem.head _))).1,lt _ (List.Mem.head _)⟩
  ·have mem:=Att.kW (h:=s.heap) (L:=X.env.locals) (d:=p) |>.mpr ⟨nb,hb,eb⟩;exact⟨(N _ (List.Mem.tail _ (List.Mem.tail _ mem))).1,lt _ (List.Mem.tail _ mem)⟩
 have g:MeetsIn X.prog X.w (Builtin.«list.sort» ⟨[.ref D],[]⟩) (fun _ R s=>s.heap.get? D=some (seqObj "list" vs.toArray 0)/\∀(out:Array Value) (UB:List Int),IntsAre out.toList UB->UB.Perm ns->UB.Pairwise (·<=·)->R (.ok (.ret .none)) {s with heap:=sortedHeap s.heap D vs out}) :=
  fun A R s ⟨g1,g2⟩=>Ak g1 hI (aaO.imp fun h=>Int.le_of_lt h) (by omega) fun out UB a b c=>g2 out UB a b c
 refine Δ0 PySem.F.slot_list_sort ⟨_,hD,rfl⟩ PySem.F.entry_list_sort (PySem.F.args_list_sort_1 _) g ⟨hD,fun out UB ZC hp hs=>?_⟩;have WR:D≠X.env.locals:=(N _ (List.Mem.head _)).2.1;have Wz:H D=none:=by
  cases z:H D with
  | none=>rfl
  | some o =>
   obtain⟨ob,eb⟩:=(I.Ut D o z).there;exact absurd (old D ob WR eb).2 (Α0 _)
 have new:∀ b o,b≠X.env.locals->s.heap.get? b=some o->(sortedHeap h' D vs out).get? b=some o:=fun b o nb eb=>by
  obtain⟨h1,h2⟩:=old b o nb eb;rw[sortedHeap_old (Υ h2) (Λ h1)];exact h1
 obtain⟨e',ZA⟩:=sortedHeap_at (out:=out) hD;have Wn:∀ m',s.heap.Ns X.env.locals m'->(sortedHeap h' D vs out).Ns X.env.locals m':=fun m' hm=>by
  have em:m'=m:=by
   obtain⟨o1,UP,Wi,a1,b1,_,c1⟩:=hm;obtain⟨o2,es2,Zs,a2,b2,_,c2⟩:=hn;rw[a1] at a2;cases a2;rw[b1] at b2;cases b2;funext y;rw[<- c1,<- c2]
  subst em;obtain⟨o1,UP,Wi,a1,r1⟩:=F.ns;exact⟨o1,UP,Wi,by rw[sortedHeap_old WR.symm (Λ a1)];exact a1,r1⟩
 have nn:∀ {b:Addr} {o:HO},H b=some o->b≠D:=fun h z=>by subst z;rw[Wz] at h;cases h
 have nl:∀ {b:Addr} {o:HO},H b=some o->b≠X.env.locals:=fun h=>aF h I.free;refine⟨.ref D,Ul H D (.lst (UB.map V.int)),show Uo X Uk Z _ {s with heap:=sortedHeap h' D vs out,gens:=s.gens,drawn:=s.drawn,toks:=tk} from I.step (g':=s.gens) (d':=s.drawn) (t':=tk) (ch:=[]) (fun _ z=>nomatch z) (fun b o nb _ _ eb _=>new b o nb eb) (fun b o nb _ _ eb _=>⟨o.slots,new b o nb eb⟩) (fun b o _ eb hb=>?_) (fun b o _ eb=>?_)
  (fun b xs hb=>by rw[aE (nn hb)];exact hb) (fun b o u hb=>by rw[aE (nn hb)];exact hb) (fun b ps hb=>⟨#[],by rw[aE (nn hb),hb];simp⟩) Wn (fun b o hb=>?_) I.bare,rfl,q D UB Wz hp hs⟩
 ·by_cases VF:b=D
  ·subst VF;by_cases VG:b=X.env.locals
   ·exact absurd VG WR
   ·exact absurd (old b o VG eb).2 (Α0 _)
  ·rw[aE VF];exact hb
 ·by_cases VG:b=X.env.locals
  ·subst VG;obtain⟨o1,UP,Wi,a1,r1⟩:=Wn m hn;exact⟨o1,a1⟩
  ·exact⟨o,new b o VG eb⟩
 ·by_cases VF:b=D
  ·subst VF;rw[aA] at hb;cases hb;exact⟨by rw[Γ,hp.length_eq];omega,out.toList,e',nH ZC,ZA⟩
  ·rw[aE VF] at hb;refine(I.Ut b o hb).sO (fun c v hc ev=>?_) (fun c hc=>by rw[aE (nn hc)];exact hc) fun c xs hc=>by rw[aE (nn hc)];exact hc
   rcases hc with hc|hc
   ·subst hc;exact new c v (nl hb) ev
   ·exact new c v (nl hc) ev
section
variable{Q:VK}{p:Addr}
def Le:Hm [.ref p] H Q=dE (H p) fun kvs=>fM (intKeys kvs) fun ns=>ns.Pairwise (· < ·)/\∀(l:Addr) (UB:List Int),H l=none->UB.Perm ns->UB.Pairwise (·<=·)->Q (.ref l) (Ul H l (.lst (UB.map V.int))):=rfl
end
theorem BU{xs:List V}{Up:List Value}(r:Uq xs Up):∀ js:List Nat,∃ ys,Uq ys (js.filterMap fun x=>Up.toArray[x]?)/\(∀ y∈ys,y∈xs)/\ys.length<=js.length
 | []=>⟨[],.nil,by simp,by simp⟩
 | j::js=>by
  obtain⟨ys,h1,h2,h3⟩:=BU r js;cases e:xs[j]? with
  | none =>
   have e':=r.none_of e;refine⟨ys,?_,h2,by simp only[Ζ];omega⟩;rw[List.filterMap_cons_none (by simpa using e')];exact h1
  | some x =>
   obtain⟨u,e',ru⟩:=r.get e;refine⟨x::ys,?_,fun y hy=>?_,by simp only[Ζ];omega⟩
   ·rw[List.filterMap_cons_some (by simpa using e')];exact .cons ru h1
   ·rcases Α.mp hy with rfl|hy
    ·exact ϓ e
    ·exact h2 y hy
theorem Gy{lo hi:Option Int}{k:Int}(h:0 < k)(n:Nat):(sliceRange (sliceBounds lo hi (some k) n).1 (sliceBounds lo hi (some k) n).2.1 (sliceBounds lo hi (some k) n).2.2).length<=n:=by
 have a1:0<=(sliceBounds lo hi (some k) n).1:=by
  cases lo with
  | none=>simp[sliceBounds,h]
  | some i=>simp only[sliceBounds,Ε1,show k > 0 from h,Γ1];omega
 have a2:(sliceBounds lo hi (some k) n).2.1<=n:=by
  cases hi with
  | none=>simp[sliceBounds,h]
  | some i=>simp only[sliceBounds,Ε1,show k > 0 from h,Γ1];omega
 have a3:(sliceBounds lo hi (some k) n).2.2=k:=rfl;generalize sliceBounds lo hi (some k) n=z at *;obtain⟨b,c,d⟩:=z;simp only at a1 a2 a3;subst a3;unfold sliceRange;simp only[Γ,List.length_range,show d > 0 from h,Γ1];split
 ·next hl =>
  have:(c - b+d - 1) / d<=c - b:=by
   refine Int.lt_add_one_iff.mp ?_;refine Int.ediv_lt_of_lt_mul h ?_;have m:(c - b) * 1<=(c - b) * d:=Int.mul_le_mul_of_nonneg_left (by omega) (by omega);rw[Int.add_mul];generalize (c - b) * d=y at *;omega
  omega
 ·simp
section
variable{fr:List Nat}{tc:TT}{te tl:TE}{Z:St}{Q:VK}{K:q0B}
def HE:xG K (uR K tl) fr tc te Z H Q=tl Z H fun x H1=>bG x fun a=>(∃ xs,eY K H1 a xs)/\lc2 K (Wd K a) fr tc te Z H1 Q:=by
 unfold xG uR
 congr 1
 funext x H1;exact propext ⟨fun⟨a,e,h1,h⟩=>by subst e;exact⟨h1,h⟩,fun h=>by obtain⟨a,rfl,h1,h⟩:=aR h;exact⟨a,rfl,h1,h⟩⟩
theorem Iu{ys:List V}(Pv:Nat->List V->Hp->Prop)(h0:Pv 0 [] H)(hz:∀ i xs H,Pv i xs H->xs.length<=1000000)(hl:∀ i xs H,Pv i xs H->eY K H a ys)(hs:∀(i:Nat) y xs H,i < ys.length->ys[i]?=some y->Pv i xs H->∃ p y1 y2,y=.ref p/\iJ K H p [y1,y2]/\tc (some y1::some y2::bA fr Z) H fun b H2=>if b=true then te (some y1::some y2::bA fr Z) H2 (fun z H3=>Pv (i+1) (xs++[z]) H3) else Pv (i+1) xs H2)(hd:∀ xs H,Pv ys.length xs H->∀ p,H p=none->Q (.ref p) (Ul H p (.lst xs))):lc2 K (Wd K a) fr tc te Z H Q:=by
 refine⟨cW ys.length Pv,⟨ys.length,by simp,Α2 _,h0⟩,?_⟩;rintro i m xs H ⟨rfl,hi,pv⟩;refine⟨hz i xs H pv,?_⟩;have q1:=hl i xs H pv;by_cases lt:i < ys.length
 ·refine .inr ⟨⟨ys,ys[i],q1,by simp[lt]⟩,fun v H' yy=>?_⟩;obtain⟨e,yy⟩:=yy;subst e;obtain⟨p,y1,y2,ey,hp,hh⟩:=hs i v xs H' lt (yy ys q1) pv;refine⟨p,y1,y2,ey,hp,?_⟩;simp only[A8 lt];exact hh
 ·refine .inl ⟨⟨ys,q1,by omega⟩,?_⟩;exact hd xs H ((show i=ys.length by omega)▸pv)
end
def tT:R2:=Ho
def jA:jG X (binaryOp .Add) tT:=LF
section
variable{prog:Program}{w:World}{A:Around}{E:q0A}{s:Shared}
theorem t9{it t:Addr}{items:Array Value}(U5:t≠it):∀(n i:Nat) (s:Shared) (Q:List Value->Shared->Prop),s.heap.IsListIter it t i->s.heap.IsList t items->i+n<=items.size -> (∀ h',Heap.IsListIter h' it t (i+n)->Heap.SameBut it s.heap h'->Q ((items.toList.drop i).take n) {s with heap:=h'})->wpAny (model prog w) A (draw (.ref it) n) Q E s
 | 0,i,s,Q,hit,_,_,hQ=>by
  show wpAny _ _ (pure []) Q E s;exact Ι (by simpa using hQ s.heap hit (Heap.SameBut.refl ..))
 | n+1,i,s,Q,hit,ht,hle,hQ=>by
  have UN:i < items.size:=by omega
  show wpAny _ _ (pyNext (.ref it) >>= _) Q E s;refine Β (wpAny_pyNext_list_item hit ht (x:=items[i]) (by simp[UN]) fun h₁ Yu ZX=>?_);refine Β (Β3 (t9 U5 n (i+1) _ _ Yu (ht.extBut ZX.extBut U5) (by omega) fun h₂ aaT hs₂=>Ι ?_));have hd:items.toList.drop i=items[i]::items.toList.drop (i+1):=by simp[List.drop_eq_getElem_cons,UN]
  have:=hQ h₂ (by rw[show i+(n+1)=i+1+n by omega];exact aaT) (ZX.trans hs₂);rw[hd,Ζ6] at this;exact this
theorem pT{t:Addr}{Q:List Value->Shared->Prop}(hh:A.handled=none)(ht:s.heap.IsList t items)(hQ:∀ h',Heap.ExtBut s.heap.objs.size s.heap h'->Q items.toList {s with heap:=h'}):wpAny (model prog w) A (unpackItems (.ref t) items.size none) Q E s:=by
 have UN:t≠s.heap.objs.size:=by obtain⟨o,ho,_⟩:=ht;exact Υ (Λ ho)
 unfold unpackItems;refine Β ?_
 ·unfold notIterableAtAll;refine Β (wpAny_specialOf ht.typeIs slot_list_iter.lookup ?_);refine Ι ?_;simp only[ϙ,Β5];refine Β (Β3 (wpAny_pyIter_list ht ?_));refine Β (Β3 (t9 UN items.size 0 _ _ ⟨_,Ρ _ rfl,rfl,rfl⟩ (ht.push _) (by omega) fun h₁ Yu ZX=>?_));have WS:List.take items.size (List.drop 0 items.toList)=items.toList:=by
   rw[List.drop_zero];exact List.take_of_length_le (by simp)
  rw[WS];rw[if_neg (by simp)];have ht₁:h₁.IsList t items:=(ht.push _).extBut ZX.extBut UN;refine Β (Β3 (wpAny_pyNext_list_end hh Yu ht₁ (by simp) fun h₂ he₂=>?_));simp only[Option.isSome_none,ϙ,Β5];refine Ι (hQ h₂ fun b o hb e=>he₂ b o hb (ZX.extBut b o hb (Ε _ e)))
def n9{env:Env}{elts:List Expr}{x1}{pos:Pos}{t:Addr}{Q:Unit->Shared->Prop}(hh:A.handled=none)(ht:s.heap.IsList t items)(hn:(assignEach elts env).length=items.size)(ZW:(assignEach elts env).findIdx? (·.1)=none)(h:∀ h',Heap.ExtBut s.heap.objs.size s.heap h'->wpAny (model prog w) A (assignInOrder ((assignEach elts env).map (·.2)) items.toList) Q E {s with heap:=h'}) : wpAny (model prog w) A (assign (.Tuple elts x1 pos) env (.ref t)) Q E s:=by
 rw[assign_Tuple];refine Β (wpAny_standAt ?_);unfold unpack;rw[hn,ZW];exact Β (Β3 (pT hh ht h))
end
section
variable{pos:Pos}
def Rc(K:q0B)(n:Nat)(t:TGs):TG:=fun v Z H Q=>∃ a xs,v=.ref a/\eY K H a xs/\xs.length=n/\t xs Z H Q
def Ji{es:List Expr}{k:Nat}{t:TGs}(hc:X.calm=true)(h:PGs X es t)(hn:(assignEach es X.env).length=n:=by rfl)(UC:(assignEach es X.env).findIdx? (·.1)=none:=by rfl):PG X (.Tuple es k pos) (Rc X.K n t):=by
 intro Uk s Z H v u Q I r hw;obtain⟨a,xs,e1,hq,hl,hw⟩:=hw;subst e1;cases r;obtain⟨Up,rv,ht,hz⟩:=I.list hq;refine n9 (I.ok.hd hc) ht.isList (by simp[hn,<- hl,rv.length]) UC fun h' hx=>?_;have I1:Uo X Uk Z H {s with heap:=h'}:=I.kept (t':=s.toks) fun b o e=>hx b o (Υ (Λ e)) e;exact h Uk _ Z H xs _ Q I1 (by simpa using rv) hw
def NW{K:q0B}{t:TGs}{Z:St}{Q:St->Hp->Prop}:Rc K n t (.ref a) Z H Q = ∃ xs,eY K H a xs/\xs.length=n/\t xs Z H Q:=propext ⟨fun⟨b,xs,e,h⟩=>by cases e;exact⟨xs,h⟩,fun⟨xs,h⟩=>⟨a,xs,rfl,h⟩⟩
end
mutual
example:=[]
def j4(i:Nat):TE:=fun Z H Q=>fM (Z[i]?).join fun v=>Q v H
def DO(t:TE):TT:=fun Z H B=>t Z H fun x H'=>IV x fun k=>B k H'
def Hd(sp:Sp)(t:TA):TE:=fun Z H Q=>t Z H fun vs H1=>sp vs H1 Q E0
def AZ(C:Addr)(m:Str)(sp:Sp)(ta:TE)(t:TA):TE:=fun Z H Q=>ta Z H fun x H1=>bG x fun a=>iN C (H1 a) fun _ fs=>fs.lookup m=none/\t Z H1 fun vs H2=>sp (.ref a::vs) H2 Q E0
end
section
mutual
example:=[]
variable{e:Expr}{te ta:TE}{t:TA}{sp:Sp}{C:Addr}{m:Str}
def PE.cV(h:PE X e (yA i)):PE X e (j4 i):=fun Uk s Z H Q I q=>h Uk s Z H Q I (by
 obtain⟨v,e,q⟩:=cP q;refine⟨v,?_,q⟩;cases z:Z[i]? with
 | none=>rw[z] at e;cases e
 | some o=>rw[z] at e;cases o with
  | none=>cases e
  | some u=>cases e;rfl)
def PT.cT(h:PT X e (Cu te)):PT X e (DO te):=fun Uk s Z H Q I q=>h Uk s Z H Q I (by rw[HS];exact q)
def PE.cC(h:PE X e (EX sp [] E0 t)):PE X e (Hd sp t):=fun Uk s Z H Q I q=>h Uk s Z H Q I (by rw[HD];exact q)
def PE.cM(h:PE X e (Ct C m sp [] E0 ta t)):PE X e (AZ C m sp ta t):=fun Uk s Z H Q I q=>h Uk s Z H Q I (by rw[HK];exact q)
end
end
section
mutual
example:=[]
variable{v:V}{o0 o1 o2 o3 o4 o5 o6:Option V}{Z:St}{Q:VK}{B:Bool->Hp->Prop}{te ta:TE}{t:TA}{sp:Sp}{C:Addr}{m:Str}
def SN:j4 0 (some v::Z) H Q=Q v H:=rfl
def SO:j4 1 (o0::some v::Z) H Q=Q v H:=rfl
def SQ:j4 2 (o0::o1::some v::Z) H Q=Q v H:=rfl
def SR:j4 3 (o0::o1::o2::some v::Z) H Q=Q v H:=rfl
def SS:j4 4 (o0::o1::o2::o3::some v::Z) H Q=Q v H:=rfl
def SU:j4 5 (o0::o1::o2::o3::o4::some v::Z) H Q=Q v H:=rfl
def SV:j4 6 (o0::o1::o2::o3::o4::o5::some v::Z) H Q=Q v H:=rfl
def SW:j4 7 (o0::o1::o2::o3::o4::o5::o6::some v::Z) H Q=Q v H:=rfl
def Np:DO te Z H B=te Z H fun x H'=>IV x fun k=>B k H':=rfl
def Nm:Hd sp t Z H Q=t Z H fun vs H1=>sp vs H1 Q E0:=rfl
def Nn:AZ C m sp ta t Z H Q=ta Z H fun x H1=>bG x fun a=>iN C (H1 a) fun _ fs=>fs.lookup m=none/\t Z H1 fun vs H2=>sp (.ref a::vs) H2 Q E0:=rfl
end
end
theorem Gx{L U k:Int}(h:0 < k)(hL:0<=L)(hU:0<=U)(n:Nat):k * ((sliceRange (sliceBounds (some L) (some U) (some k) n).1 (sliceBounds (some L) (some U) (some k) n).2.1 (sliceBounds (some L) (some U) (some k) n).2.2).length:Int)<=max 0 (min U n - L)+k - 1:=by
 have a1:(sliceBounds (some L) (some U) (some k) n).1=min L n:=by
  simp only[sliceBounds,Ε1,show k > 0 from h,Γ1];omega
 have a2:(sliceBounds (some L) (some U) (some k) n).2.1=min U n:=by
  simp only[sliceBounds,Ε1,show k > 0 from h,Γ1];omega
 have a3:(sliceBounds (some L) (some U) (some k) n).2.2=k:=rfl;rw[a1,a2,a3];unfold sliceRange;simp only[Γ,List.length_range,show k > 0 from h,Γ1];split
 ·next hl =>
  have q:k * ((min U n - min L n+k - 1) / k)<=min U n - min L n+k - 1:=Int.mul_ediv_self_le (by omega);have p:0<=(min U n - min L n+k - 1) / k:=Int.ediv_nonneg (by omega) (by omega);rw[Int.toNat_of_nonneg p];generalize k * ((min U n - min L n+k - 1) / k)=y at *;omega
 ·simp;omega
section
noncomputable def Sa(K:q0B)(te:TE)(tl th ts:TO):TE:=fun Z H Q=>te Z H fun x H1=>tl Z H1 fun l H2=>th Z H2 fun u H3=>ts Z H3 fun k H4=>∃ a xs m L U,x=.ref a/\eY K H4 a xs/\(l=some L/\u=some U/\k=some m)/\(0 < m/\0<=L/\0<=U)/\∀(ys:List V) p,(∀ y∈ys,y∈xs)->m * (ys.length:Int)<=max 0 (min U xs.length - L)+m - 1->H4 p=none->Q (.ref p) (Ul H4 p (.lst ys))
theorem y8{e:Expr}{te:TE}{lo hi:Option Expr}{st:Expr}{tl th ts:TO}{p2 pos:Pos}(he:PE X e te)(hl:PO X lo tl)(hu:PO X hi th)(hs:PO X (some st) ts):PE X (.Subscript e (.Slice lo hi (some st) p2) pos) (Sa X.K te tl th ts):=by
 intro Uk s Z H Q I h;refine Subscript_ (thn (he Uk s Z H _ I h) fun v s1 ⟨x,H1,I1,r1,q1⟩=>?_);refine wpAny_Slice (thn (hl Uk s1 Z H1 _ I1 q1) fun vl s2 ⟨l,H2,I2,pl,q2⟩=>thn (hu Uk s2 Z H2 _ I2 q2) fun vu s3 ⟨u,H3,I3,pu,q3⟩=>thn (hs Uk s3 Z H3 _ I3 q3) fun vk s4 ⟨k,H4,I4',pk,q4⟩=>?_);have I4:Uo X Uk Z H4 {s4 with heap:=s4.heap.push {cls:=.type "slice",data:=.fields #[vl,vu,vk]}}:=I4'.kept (t':=s4.toks) fun b ob q=>Ε _ q;obtain⟨a,xs,m,L,U,rfl,hx,⟨rfl,rfl,rfl⟩,⟨hm,hL,hU⟩,q⟩:=q4;cases r1;obtain⟨Up,r,ht,hz⟩:=I4.list hx;have hlen:=r.length;show wpAny (model X.prog X.w) X.A (subscriptTail e (.Slice lo hi (some st) p2) (.ref a) (.ref s4.heap.objs.size)) (EP X Uk Z Q) X.xe {s4 with heap:=s4.heap.push {cls:=.type "slice",data:=.fields #[vl,vu,vk]}};refine tail_any (ops:=[.ref a,.ref s4.heap.objs.size]) ht.isList.typeIs slot_list_getitem.lookup ?_ (by with_unfolding_all rfl);refine wpAny_getItem_list_slice ht.isList (Heap.IsSliceOf.new ..) pl pu pk (by intro z;cases z;omega) ?_ (by rw[Η]<;>omega);obtain⟨ys,h1,h2,h3⟩:=BU r (sliceRange (sliceBounds (some L) (some U) (some m) Up.toArray.size).1 (sliceBounds (some L) (some U) (some m) Up.toArray.size).2.1 (sliceBounds (some L) (some U) (some m) Up.toArray.size).2.2);have h4:=Gy (lo:=some L) (hi:=some U) hm Up.toArray.size;have h6:=Gx hm hL hU Up.toArray.size;rw[Η] at h4 h6;have h5:ys.length<=xs.length:=by rw[Η] at h3;omega
 have h7:m * (ys.length:Int)<=max 0 (min U xs.length - L)+m - 1:=by
  rw[Η] at h3;have:m * (ys.length:Int)<=m * ((sliceRange (sliceBounds (some L) (some U) (some m) Up.length).1 (sliceBounds (some L) (some U) (some m) Up.length).2.1 (sliceBounds (some L) (some U) (some m) Up.length).2.2).length:Int):=Int.mul_le_mul_of_nonneg_left (by omega) (by omega);rw[hlen];omega
 refine⟨.ref (s4.heap.push {cls:=.type "slice",data:=.fields #[vl,vu,vk]}).objs.size,_,I4.laid (t':=s4.toks) (o:=.lst ys) (fun b ob q=>Ε _ q) (Θ _) ?_,rfl,q ys _ h2 h7 (I4.Ut.fresh (Θ _))⟩;exact⟨Χ h5 hz,_,0,h1,Ρ _ rfl⟩
def Q4{K:q0B}{te:TE}{tl th ts:TO}{Z:St}{Q:VK}:Sa K te tl th ts Z H Q=te Z H fun x H1=>tl Z H1 fun l H2=>th Z H2 fun u H3=>ts Z H3 fun k H4=>∃ a xs m L U,x=.ref a/\eY K H4 a xs/\(l=some L/\u=some U/\k=some m)/\(0 < m/\0<=L/\0<=U)/\∀(ys:List V) p,(∀ y∈ys,y∈xs)->m * (ys.length:Int)<=max 0 (min U xs.length - L)+m - 1->H4 p=none->Q (.ref p) (Ul H4 p (.lst ys)):=rfl
end
end Lake
namespace Internal
open PySem Lake
variable{XP:(q0C)->Heap->Prop}{C a dd fl l o2 op:Addr}{WE:Array (Option Value)}{wt:Bool}{o:HO}{base:Heap}{G H H' H1:Hp}{j:Int}{kvs:List (Key×V)}{D:List Addr}{ns pd pend pt:List Int}{K L loose:List Str}{ds us xs:List V}{B N d i p:Nat}{s0 s1 s2 s3 s4 s5 s6 s7 s8:Sp}{Z:St}{k q:Str}{ot ot':Str->Option V}{v y:V}{Q:VK}{E:XK}{mg:q0C}
local macro_rules | `(tactic| exists $ts,*) => `(tactic| wp_walk using $ts,*)
set_option hygiene false in
local macro_rules | `(tactic| nomatch $a) => `(tactic| refine ($a).ok (fun vs H Q E h => ?_) (fun cdv A outer s H vs Q E hr sc h => ?_))
set_option hygiene false in
local macro_rules | `(tactic| nomatch $a, 0) => `(tactic| (refine ⟨_, $a, ?_⟩; clear sc; try dsimp only [Lake.start, C0, IC, List.cons_append, List.nil_append, List.replicate_succ, List.replicate_zero, List.length_cons, List.length_nil, Nat.reduceAdd, Nat.reduceSub, Nat.zero_add]))
set_option hygiene false in
local macro_rules | `(tactic| left) => `(tactic| (refine cD fun R0 hR0 => ?_; try dsimp only))
set_option hygiene false in
local macro_rules | `(tactic| right) => `(tactic| (refine hR0 _ _ ?_; clear hR0; try clear R0))
local macro_rules | `(tactic| and_intros) => `(tactic| try dsimp only [Lake.start, C0, IC, List.cons_append, List.nil_append, List.replicate_succ, List.replicate_zero, List.length_cons, List.length_nil, Nat.reduceAdd, Nat.reduceSub, Nat.zero_add])
local macro_rules | `(tactic| infer_instance) => `(tactic| first | exact ⟨rfl, by first | exact Or.inl rfl | exact Or.inr (Or.inl rfl) | exact Or.inr (Or.inr rfl), by decide, by decide⟩ | exact ⟨rfl, rfl, rfl, by decide +kernel, rfl, by decide +kernel, by decide +kernel⟩)
seal PE PA PT PW PS Vv PI PG PGs Xs PO PPs
mutual
example:=[]
inductive A4(p0 p1 p2 p3:Prop):Prop
 | mk (_:p0) (_:p1) (_:p2) (_:p3):A4 p0 p1 p2 p3
inductive A5(p0 p1 p2 p3 p4:Prop):Prop
 | mk (_:p0) (_:p1) (_:p2) (_:p3) (_:p4):A5 p0 p1 p2 p3 p4
inductive A6(p0 p1 p2 p3 p4 p5:Prop):Prop
 | mk (_:p0) (_:p1) (_:p2) (_:p3) (_:p4) (_:p5):A6 p0 p1 p2 p3 p4 p5
inductive A7(p0 p1 p2 p3 p4 p5 p6:Prop):Prop
 | mk (_:p0) (_:p1) (_:p2) (_:p3) (_:p4) (_:p5) (_:p6):A7 p0 p1 p2 p3 p4 p5 p6
inductive A15(p0 p1 p2 p3 p4 p5 p6 p7 p8 p9 p10 p11 p12 p13 p14:Prop):Prop
 | mk (_:p0) (_:p1) (_:p2) (_:p3) (_:p4) (_:p5) (_:p6) (_:p7) (_:p8) (_:p9) (_:p10) (_:p11) (_:p12) (_:p13) (_:p14):A15 p0 p1 p2 p3 p4 p5 p6 p7 p8 p9 p10 p11 p12 p13 p14
inductive E2{α0 α1:Type}(P:α0->α1->Prop):Prop
 | mk (a0:α0) (a1:α1) (_:P a0 a1):E2 P
inductive E5{α0 α1 α2 α3 α4:Type}(P:α0->α1->α2->α3->α4->Prop):Prop
 | mk (a0:α0) (a1:α1) (a2:α2) (a3:α3) (a4:α4) (_:P a0 a1 a2 a3 a4):E5 P
inductive E6{α0 α1 α2 α3 α4 α5:Type}(P:α0->α1->α2->α3->α4->α5->Prop):Prop
 | mk (a0:α0) (a1:α1) (a2:α2) (a3:α3) (a4:α4) (a5:α5) (_:P a0 a1 a2 a3 a4 a5):E6 P
inductive E7{α0 α1 α2 α3 α4 α5 α6:Type}(P:α0->α1->α2->α3->α4->α5->α6->Prop):Prop
 | mk (a0:α0) (a1:α1) (a2:α2) (a3:α3) (a4:α4) (a5:α5) (a6:α6) (_:P a0 a1 a2 a3 a4 a5 a6):E7 P
inductive E9{α0 α1 α2 α3 α4 α5 α6 α7 α8:Type}(P:α0->α1->α2->α3->α4->α5->α6->α7->α8->Prop):Prop
 | mk (a0:α0) (a1:α1) (a2:α2) (a3:α3) (a4:α4) (a5:α5) (a6:α6) (a7:α7) (a8:α8) (_:P a0 a1 a2 a3 a4 a5 a6 a7 a8):E9 P
structure PX(K:q0B)(x q:Str)(st:Stmt)(ns ps:List Str)(f:Addr)(d:FuncData)(M:Prop):Prop where
 fn:Fun K x q st f d
 bd:Binds K d ps []
 sc:mU ns ps (cY st)
 m:M
abbrev jX(K:q0B)(mg:q0C)(x:Str)(st:Stmt)(ns ps:List Str)(f:Addr)(d:FuncData):Prop:=PX K x x st ns ps f d (mg x=some (.ref f))
abbrev nI(K:q0B)(C:Addr)(x q:Str)(st:Stmt)(ns ps:List Str)(f:Addr)(d:FuncData):Prop:=PX K x q st ns ps f d (Meth K C x f)
end
section
open PySem.Spec PyProof.Rows
mutual
example:=[some (.ref f),.ref f,cY st,PySem.W.fnOf x x (iC st) (gC st) (cY st) .none kV doc pm an UI ct,PySem.W.fnOf x q (iC st) (gC st) (cY st) .none kV doc pm an UI ct,ps.zip us]
variable{P:Program}{w:World}{K:q0B}{h:Heap}{x:Str}{st:Stmt}{ns ps:List Str}{f:Addr}{d:FuncData}{M:Prop}{k:Nat}{sp:Sp}
def PX.ok(g:PX K x q st ns ps f d M)(len:∀ vs H Q E,sp vs H Q E->vs.length=ps.length)(VH:∀(UI:Value) (A:Around) (outer:List Env) (s:Shared) (H:Hp) (vs:List V) (Q:VK) (E:XK),Room k (A.deeper (envOfC q 2e0 s.heap.objs.size f UI))->ns.Nodup->sp vs H Q E -> ∃ t,Vv (zY U7 P w K mg base ns q 2e0 f UI A outer s H E).nox (gC st) t/\t {nx:=fun _ H'=>Q .Um H',rt:=Q} (start ns vs) H):fG P w K mg base U7 (k+1) f d ps sp:=g.fn.ok g.sc len fun UI A outer s H vs Q E hr h=>VH UI A outer s H vs Q E hr g.sc.nd h
def b0{P:List Value->Prop}(h:P []):∀ us:List Value,us.length=0->P us:=fun us e=>by rw[List.length_eq_zero_iff.mp e];exact h
theorem bS{P:List Value->Prop}{n:Nat}(h:∀ a,∀ us:List Value,us.length=n->P (a::us)):∀ us:List Value,us.length=n+1->P us
 | [],e=>by cases e
 | a::us,e=>h a us (Nat.succ.inj e)
structure Gf0(K:q0B)(x:Str)(st:Stmt)(f:Addr)(d:FuncData):Prop where
 a:PySem.W.nsIn K mainGlobals x=some 0e0
 F:Fun K x x st f d
structure Gm0(K:q0B)(C:Addr)(x q:Str)(st:Stmt)(f:Addr)(d:FuncData):Prop where
 a:PySem.W.findIn K (.ref C) x=some 0e0
 i:PySem.W.isFn K 1e0=true
 F:Fun K x q st f d
def Rh{oc:Value}{od an:Option Addr}{kV doc pm UI ct:Value}(a:PySem.W.nsIn K mainGlobals x=some 0e0)(l:K.lookup f=some ⟨oc,od,.func 3e0,WE⟩)(c:PySem.W.codeIn K UI x=true)(k:PySem.W.keepIn K 1e0=true):Gf0 K x st f 3e0:=⟨a,H8 l c k⟩
def Ri{oc:Value}{od an:Option Addr}{kV doc pm UI ct:Value}(a:PySem.W.findIn K (.ref C) x=some 0e0)(i:PySem.W.isFn K 1e0=true)(l:K.lookup f=some ⟨oc,od,.func 4e0,WE⟩)(c:PySem.W.codeIn K UI q=true)(k:PySem.W.keepIn K 1e0=true):Gm0 K C x q st f 4e0:=⟨a,i,H8 l c k⟩
def Gf0.go(F:Gf0 K x st f d)(X:K.In h)(G:h.Ns mainGlobals mg)(b:∀(kV doc pm:Value) (an:Option Addr) (UI ct:Value) (us:List Value),us.length=ps.length->bindArgs 3e0 ⟨us,[]⟩=pure 5e0:=by exact fun _ _ _ _ _ _=>by repeat (first|exact b0 rfl|refine bS fun _=>?_))(sc:mU ns ps 2e0:=by infer_instance):jX K mg x st ns ps f d:=⟨F.F,F.F.binds b,sc,PySem.W.mg_of X G F.a⟩
def Gm0.go(F:Gm0 K C x q st f d)(b:∀(kV doc pm:Value) (an:Option Addr) (UI ct:Value) (us:List Value),us.length=ps.length->bindArgs 4e0 ⟨us,[]⟩=pure 5e0:=by exact fun _ _ _ _ _ _=>by repeat (first|exact b0 rfl|refine bS fun _=>?_))(sc:mU ns ps 2e0:=by infer_instance):nI K C x q st ns ps f d:=⟨F.F,F.F.binds b,sc,F.a,F.i,F.F.kp⟩
end
end
section
open PySem.Spec PyProof.Rows
mutual
example:=[.Name x pos,e::es,.Attribute o m apos,Mb r ta tb,(by omega),backToKw pos (keywordEach [] X.env),.Compare a [op] [b] pos,x==("__debug__":Str),starEach es X.env,getMethod ov m pl,compareOp op]
variable{X:Cx}{x:Str}{p pos:Pos}{e o:Expr}{es:List Expr}{t:TA}{k:Nat}{f:Addr}{fd:FuncData}{ns ps:List Str}{sp:Sp}{st:Stmt}{ta td ty te tb tv:TE}{a b i value:Expr}
theorem pcl(F:fG X.prog X.w X.K X.mg X.base U7 k f fd ps sp)(g:jX X.K X.mg x st ns ps f fd)(ha:PA X 1e0 t)(hr:Room k X.A:=by exact hr.mono 4e0)(hg:Gl X x:=by rfl)(WV:7e0=false:=by decide)(he:starEach 1e0 X.env=(false,eval e X.env)::starEach es X.env:=by rfl)(UU:(backTo pos 8e0).any (·.1)=false:=by rfl) : PE X (.Call (.Name x p) 1e0 [] pos) (Hd sp t):=(tG F hr hg g.m g.fn.kp g.bd .nil pass0 ha WV he UU).cC
theorem pmt{m:Str}{apos:Pos}{pl:Sem Bool}(he:PE X o ta)(c:Cls X.K C)(F:fG X.prog X.w X.K X.mg X.base U7 k f fd ps sp)(g:nI X.K C m q st ns ps f fd)(ha:PA X 1e0 t)(hr:Room k X.A:=by exact hr.mono 4e0)
    (UC:starEach 1e0 X.env=(false,eval e X.env)::starEach es X.env:=by rfl) (UU:(backTo pos 8e0).any (·.1)=false:=by rfl)
    (ht:eval (.Call 2e0 1e0 [] pos) X.env=(do
      let ov <- eval o X.env
      standAt apos.atName
      let (f,first) <- holding [ov] 9e0
      callWith pos f first (backTo pos (starEach 1e0 X.env)) 5e0):=by rfl) :
    PE X (.Call 2e0 1e0 [] pos) (AZ C m sp ta t):=(Aw he c g.m F hr g.bd .nil pass0 ha UC UU ht).cM
theorem pmt0{m:Str}{apos:Pos}{pl:Sem Bool}(he:PE X o ta)(c:Cls X.K C)(F:fG X.prog X.w X.K X.mg X.base U7 k f fd ps sp)(g:nI X.K C m q st ns ps f fd)(hr:Room k X.A:=by exact hr.mono 4e0)
    (ht:eval (.Call 2e0 [] [] pos) X.env=(do
      let ov <- eval o X.env
      standAt apos.atName
      let (f,first) <- holding [ov] 9e0
      callWith pos f first (backTo pos (starEach [] X.env)) 5e0):=by rfl) :
    PE X (.Call 2e0 [] [] pos) (AZ C m sp ta xH):=(Jg he c g.m F hr g.bd .nil pass0 ht).cM
theorem pst{pos':Pos}(i:Nat)(he:PE X e te)(hN:X.N.Nodup:=by exact sc)(hi:X.N[i]?=some x:=by rfl)(hx:Loc X.env.scope x:=by exact .inl rfl)(hs:swapsWith e (some (.Name x pos')) pos.line X.env=pure false:=by rfl)(hf:X.fn x=true\/X.env.scope.names.lookup x=some .local:=by first|exact .inl rfl|exact .inr rfl|assumption) : PS X (.Assign [.Name x pos'] e pos) (GH te (jJ i)):=wC hN hi hx he hs hf
theorem pgn(i:Nat)(hN:X.N.Nodup:=by exact sc)(hi:X.N[i]?=some x:=by rfl)(hx:Loc X.env.scope x:=by exact .inl rfl)(hf:X.fn x=true\/X.env.scope.names.lookup x=some .local:=by first|exact .inl rfl|exact .inr rfl|assumption):PG X 0e0 (jJ i):=tJ hN hi hx hf
def pdg(ho:PE X o td)(hi:PE X i ty)(hs:J8 i:=by exact fun _ _=>rfl)(hu:X.A.units+1 < cLine:=by exact lF hr):PE X (.Subscript o i pos) (Ng td ty):=eB hu ho hi hs
def ppt{pos':Pos}(ho:PE X o td)(hi:PE X i ty)(hv:PE X value tv)(hs:swapsWith value (some (.Subscript o i pos')) pos.line X.env=pure false:=by rfl)(hu:X.A.units+1 < cLine:=by exact lF hr) : PS X (.Assign [.Subscript o i pos'] value pos) (Nl td ty tv):=LO hu ho hi hv hs
def ptc{op:CmpOp}{r:R2}(ho:jG X 0e1 r)(ha:PE X a ta)(hb:PE X b tb)(hm:behindInMarks op b=false:=by exact nomark _):PT X 6e0 (DO 3e0):=(eC ho ha hb hm).cT
def pcr{op:CmpOp}{r:R2}(ho:jG X 0e1 r)(ha:PE X a ta)(hb:PE X b tb)(hm:behindInMarks op b=false:=by exact nomark _):PE X 6e0 3e0:=LG ho ha hb hm
def pix{r:R2}(hr:DL X r)(ha:PE X a ta)(hb:PE X b tb)(hs:DM b:=by exact fun _ _=>rfl):PE X (.Subscript a b pos) 3e0:=Je hr ha hb hs
def pa1{t1:TE}{e1:Expr}(a:PE X e1 t1)(i:l9 e1=false:=by rfl):PA X [e1] (mS t1 xH):=c0 a bM i
def pa2{t1 t2:TE}{e1 e2:Expr}(a:PE X e1 t1)(b:PE X e2 t2)(i:l9 e1=false:=by rfl)(j:l9 e2=false:=by rfl):PA X [e1,e2] (mS t1 (mS t2 xH)):=c0 a (pa1 b j) i
def pa3{t1 t2 t3:TE}{e1 e2 e3:Expr}(a:PE X e1 t1)(b:PE X e2 t2)(c:PE X e3 t3)(i:l9 e1=false:=by rfl)(j:l9 e2=false:=by rfl)(k:l9 e3=false:=by rfl):PA X [e1,e2,e3] (mS t1 (mS t2 (mS t3 xH))):=c0 a (pa2 b c j k) i
def pss2{s1 s2:Stmt}{t1 t2:TS}(a:PS X s1 t1)(b:PS X s2 t2):Vv X [s1,s2] (DB t1 t2):=aI a (aG b)
def pss3{s1 s2 s3:Stmt}{t1 t2 t3:TS}(a:PS X s1 t1)(b:PS X s2 t2)(c:PS X s3 t3):Vv X [s1,s2,s3] (DB t1 (DB t2 t3)):=aI a (pss2 b c)
def pif{c:Expr}{l:List Stmt}{tc:TT}{t1:TS}(hc:PT X c tc)(ha:Vv X l t1):PS X (.If c l [] pos) (Cs tc t1 EZ):=fZ hc ha LQ
def Pk(X:Cx)(i:Nat)(x:Str):Prop:=X.N[i]?=some x/\Vis X.env.scope x/\7e0=false/\(x==("__classdict__":Str))=false
def pv0(h:Pk X 0 x:=by infer_instance):PE X 0e0 (j4 0):=(k6 h.1 h.2.1 h.2.2.1 h.2.2.2).cV
def pv1(h:Pk X 1 x:=by infer_instance):PE X 0e0 (j4 1):=(k6 h.1 h.2.1 h.2.2.1 h.2.2.2).cV
def pv2(h:Pk X 2 x:=by infer_instance):PE X 0e0 (j4 2):=(k6 h.1 h.2.1 h.2.2.1 h.2.2.2).cV
def pv3(h:Pk X 3 x:=by infer_instance):PE X 0e0 (j4 3):=(k6 h.1 h.2.1 h.2.2.1 h.2.2.2).cV
def pv4(h:Pk X 4 x:=by infer_instance):PE X 0e0 (j4 4):=(k6 h.1 h.2.1 h.2.2.1 h.2.2.2).cV
def pv5(h:Pk X 5 x:=by infer_instance):PE X 0e0 (j4 5):=(k6 h.1 h.2.1 h.2.2.1 h.2.2.2).cV
def pv6(h:Pk X 6 x:=by infer_instance):PE X 0e0 (j4 6):=(k6 h.1 h.2.1 h.2.2.1 h.2.2.2).cV
def pv7(h:Pk X 7 x:=by infer_instance):PE X 0e0 (j4 7):=(k6 h.1 h.2.1 h.2.2.1 h.2.2.2).cV
end
end
def top(i:Nat):Stmt:=PySem.Challenge.pw_outlast_k19_states_told.main.body.getD i (.Pass ⟨0,0,0,0⟩)
mutual
example:=[top 25,k _ _ e,top 11,.ref a,top 13,ev p s,(if n < 1000000000 then n else 1000000000),(if num a < num b then (1:Int) else 0),(if num (ev p s)=0 then 1 else 0),(.int (if b=true then 1 else 0)),(if a=b then (1:Int) else 0),some (.ref (t.a 21)),.int (clamp n),.int (num w),(by decide)]
abbrev Jt:Stmt:=top 4
abbrev zL:Stmt:=top 6
abbrev B8:Stmt:=top 7
abbrev wV:Stmt:=top 8
abbrev nZ:Stmt:=top 9
abbrev nW:Stmt:=bV 2e0 0
abbrev nX:Stmt:=bV 2e0 1
abbrev lO:Stmt:=bV 2e0 2
abbrev jE:Stmt:=bV 2e0 3
abbrev lM:Stmt:=bV 2e0 4
abbrev nY:Stmt:=bV 2e0 5
abbrev kJ:Stmt:=bV 2e0 6
abbrev jD:Stmt:=bV 2e0 7
abbrev wK:Stmt:=bV 4e0 0
abbrev pL:Stmt:=bV 4e0 1
abbrev mO:Stmt:=bV 4e0 2
abbrev pM:Stmt:=bV 4e0 3
abbrev rW:Stmt:=bV 4e0 4
abbrev rX:Stmt:=bV 4e0 5
abbrev rY:Stmt:=bV 4e0 6
abbrev EB:Stmt:=top 16
abbrev zE:Stmt:=top 17
abbrev zF:Stmt:=top 18
abbrev B6:Stmt:=top 19
abbrev B4:Stmt:=top 20
abbrev B7:Stmt:=top 21
abbrev B5:Stmt:=top 22
abbrev EA:Stmt:=top 23
abbrev zA:Stmt:=bV 0e0 0
abbrev kI:Stmt:=bV 0e0 2
abbrev wI:Stmt:=bV 0e0 3
abbrev zC:Stmt:=bV 0e0 4
abbrev lK:Stmt:=bV 0e0 5
abbrev nV:Stmt:=bV 0e0 6
abbrev lL:Stmt:=bV 0e0 7
abbrev zD:Stmt:=bV 0e0 8
abbrev y9:Stmt:=bV 0e0 9
abbrev wH:Stmt:=bV 0e0 10
abbrev zB:Stmt:=bV 0e0 11
abbrev B3:Stmt:=bV 0e0 12
abbrev pK:Stmt:=bV 0e0 13
abbrev wJ:Stmt:=bV 0e0 14
abbrev mN:Stmt:=bV 0e0 15
abbrev zG:Stmt:=top 28
abbrev zJ:Stmt:=top 29
abbrev zI:Stmt:=top 30
abbrev wU:Stmt:=top 31
abbrev sA:Stmt:=top 32
abbrev wN:Stmt:=top 33
abbrev sC:Stmt:=top 34
abbrev rZ:Stmt:=top 35
abbrev pP:Stmt:=top 36
abbrev pN:Stmt:=top 37
abbrev zK:Stmt:=top 38
abbrev zH:Stmt:=top 39
abbrev B9:Stmt:=top 40
abbrev sD:Stmt:=top 41
abbrev wM:Stmt:=top 42
abbrev pO:Stmt:=top 43
abbrev r9:Stmt:=top 44
abbrev r8:Stmt:=top 45
abbrev EC:Stmt:=top 46
abbrev lP:Stmt:=top 47
abbrev wQ:Stmt:=top 48
abbrev wR:Stmt:=top 49
abbrev mP:Stmt:=top 50
abbrev Ca:Stmt:=top 51
abbrev wL:Stmt:=top 52
abbrev wO:Stmt:=top 53
abbrev MF:Stmt:=top 54
set_option genSizeOf false in
structure Ad where
 a:Nat->Addr
 d:Nat->FuncData
 uW:Tok
 sL:Tok
 Bu:Tok
 iL:Addr
 aJ:Addr
 aQ:Addr
 aP:Addr
variable{t:Ad}
def RQ(K:q0B)(mg:q0C)(t:Ad):List Prop:=[jX K mg "kept" Jt ["number"] ["number"] (t.a 0) (t.d 0),jX K mg "worth_of" zL ["saying","names","arg","now","answers","kind","one","other"] ["saying","names","arg","now","answers"] (t.a 1) (t.d 1),jX K mg "joined" B8 ["sign","one","other","left","right"] ["sign","one","other"] (t.a 2) (t.d 2),jX K mg "number_of" wV ["worth"] ["worth"] (t.a 3) (t.d 3),jX K mg "one_or_nought" nZ ["truth"] ["truth"] (t.a 4) (t.d 4),nI K t.aJ "__init__" "Tickets.__init__" nW ["self"] ["self"] (t.a 5) (t.d 5),nI K t.aJ "make" "Tickets.make" nX ["self","ticket"] ["self"] (t.a 6) (t.d 6),nI K t.aJ "is_open" "Tickets.is_open" lO ["self","ticket"] ["self","ticket"] (t.a 7) (t.d 7),nI K t.aJ "those_open" "Tickets.those_open" jE ["self"] ["self"] (t.a 8) (t.d 8),nI K t.aJ "finish" "Tickets.finish" lM ["self","ticket","worth"] ["self","ticket","worth"] (t.a 9) (t.d 9),nI K t.aJ "shut" "Tickets.shut" nY ["self","ticket"] ["self","ticket"] (t.a 10) (t.d 10),nI K t.aJ "shut_all" "Tickets.shut_all" kJ ["self"] ["self"] (t.a 11) (t.d 11),nI K t.aJ "first_done" "Tickets.first_done" jD ["self","worths","tickets"] ["self","worths"] (t.a 12) (t.d 12),nI K t.aQ "__init__" "Walk.__init__" wK ["self","program"] ["self","program"] (t.a 13) (t.d 13),nI K t.aQ "come_to" "Walk.come_to" pL ["self"] ["self"] (t.a 14) (t.d 14),nI K t.aQ "stands_at" "Walk.stands_at" mO ["self"] ["self"] (t.a 15) (t.d 15),nI K t.aQ "pass_by" "Walk.pass_by" pM ["self"] ["self"] (t.a 16) (t.d 16),nI K t.aQ "enter" "Walk.enter" rW ["self","which"] ["self","which"] (t.a 17) (t.d 17),nI K t.aQ "leave" "Walk.leave" rX ["self"] ["self"] (t.a 18) (t.d 18),nI K t.aQ "place" "Walk.place" rY ["self"] ["self"] (t.a 19) (t.d 19),jX K mg "do_set" EB ["run","statement"] ["run","statement"] (t.a 20) (t.d 20),jX K mg "do_order" zE ["run","statement","worth","ticket"] ["run","statement"] (t.a 21) (t.d 21),jX K mg "do_timer" zF ["run","statement","worth","due","ticket"] ["run","statement"] (t.a 22) (t.d 22),jX K mg "do_send" B6 ["run","statement"] ["run","statement"] (t.a 23) (t.d 23),jX K mg "do_drop" B4 ["run","statement","ticket"] ["run","statement"] (t.a 24) (t.d 24),jX K mg "do_wait" B7 ["run","statement","worths","ticket","pending"] ["run","statement"] (t.a 25) (t.d 25),jX K mg "do_hear" B5 ["run","statement","worths"] ["run","statement"] (t.a 26) (t.d 26),jX K mg "do_end" EA ["run","statement"] ["run","statement"] (t.a 27) (t.d 27),nI K t.aP "__init__" "Run.__init__" zA ["self","program"] ["self","program"] (t.a 28) (t.d 28),nI K t.aP "open_tickets" "Run.open_tickets" kI ["self"] ["self"] (t.a 29) (t.d 29),nI K t.aP "state" "Run.state" wI ["self","names","letters"] ["self"] (t.a 30) (t.d 30),nI K t.aP "take" "Run.take" zC ["self","happening"] ["self","happening"] (t.a 31) (t.d 31),nI K t.aP "passes_over" "Run.passes_over" lK ["self","happening","kind"] ["self","happening"] (t.a 32) (t.d 32),nI K t.aP "take_done" "Run.take_done" nV ["self","ticket","worth"] ["self","ticket","worth"] (t.a 33) (t.d 33),nI K t.aP "take_letter" "Run.take_letter" lL ["self","key","worth"] ["self","key","worth"] (t.a 34) (t.d 34),nI K t.aP "wake" "Run.wake" zD ["self","worth"] ["self","worth"] (t.a 35) (t.d 35),nI K t.aP "go_on" "Run.go_on" y9 ["self","commands","many","statement"] ["self"] (t.a 36) (t.d 36),nI K t.aP "do_one" "Run.do_one" wH ["self","statement","kind","commands"] ["self","statement"] (t.a 37) (t.d 37),nI K t.aP "look" "Run.look" zB ["self","statement"] ["self","statement"] (t.a 38) (t.d 38),nI K t.aP "end" "Run.end" B3 ["self","worth"] ["self","worth"] (t.a 39) (t.d 39),nI K t.aP "wear_out" "Run.wear_out" pK ["self"] ["self"] (t.a 40) (t.d 40),nI K t.aP "worth" "Run.worth" wJ ["self","saying"] ["self","saying"] (t.a 41) (t.d 41),nI K t.aP "new_ticket" "Run.new_ticket" mN ["self","name","ticket"] ["self","name"] (t.a 42) (t.d 42),jX K mg "_law_deck" zG ["cell","turn"] ["cell","turn"] (t.a 43) (t.d 43),jX K mg "_law_pick" zJ ["deck","many","found","number"] ["deck","many"] (t.a 44) (t.d 44),jX K mg "_law_name" zI ["deck"] ["deck"] (t.a 45) (t.d 45),jX K mg "_law_worth" wU ["deck","kind"] ["deck"] (t.a 46) (t.d 46),jX K mg "_law_saying" sA ["deck","deep","kind","one"] ["deck","deep"] (t.a 47) (t.d 47),jX K mg "_law_plain" wN ["deck","kind"] ["deck"] (t.a 48) (t.d 48),jX K mg "_law_simple" sC ["deck","kind","sayings"] ["deck"] (t.a 49) (t.d 49),jX K mg "_law_closed" rZ ["frames","head","first","second"] ["frames"] (t.a 50) (t.d 50),jX K mg "_law_program" pP ["cells","frames","cell","deck","kind"] ["cells"] (t.a 51) (t.d 51),jX K mg "_law_bounded" pN ["number"] ["number"] (t.a 52) (t.d 52),jX K mg "_law_says" zK ["saying","run","word","one","other","left","right"] ["saying","run"] (t.a 53) (t.d 53),jX K mg "_law_flat" zH ["block","path","code","k","here","word","at","over"] ["block","path","code"] (t.a 54) (t.d 54),jX K mg "_law_new" B9 ["program","code","run"] ["program"] (t.a 55) (t.d 55),jX K mg "_law_ticket" sD ["run","name"] ["run","name"] (t.a 56) (t.d 56),jX K mg "_law_ended" wM ["run","worth","orders"] ["run","worth","orders"] (t.a 57) (t.d 57),jX K mg "_law_do_plain" pO ["run","some","orders","word","worth","due"] ["run","some","orders"] (t.a 58) (t.d 58),jX K mg "_law_do_wait" r9 ["run","some","worths","ready"] ["run","some"] (t.a 59) (t.d 59),jX K mg "_law_do_hear" r8 ["run","some"] ["run","some"] (t.a 60) (t.d 60),jX K mg "_law_go" EC ["run","orders","steps","word","some","path","where"] ["run","orders"] (t.a 61) (t.d 61),jX K mg "_law_goes_behind" lP ["run","worth","orders"] ["run","worth","orders"] (t.a 62) (t.d 62),jX K mg "_law_takes" wQ ["run","happening","orders","word","moment"] ["run","happening"] (t.a 63) (t.d 63),jX K mg "_law_waits" wR ["run"] ["run"] (t.a 64) (t.d 64),jX K mg "_law_happening" mP ["deck","run","moment","kind","ticket","key"] ["deck","run"] (t.a 65) (t.d 65),jX K mg "_law_row" Ca ["program","cells","run","row","k","deck","happening"] ["program","cells"] (t.a 66) (t.d 66),jX K mg "_law_alike" wL ["one","other"] ["one","other"] (t.a 67) (t.d 67),jX K mg "_law_state" wO ["run","names","letters","ahead"] ["run"] (t.a 68) (t.d 68),jX K mg "law" MF ["script","program","row","model","run","happening"] ["script"] (t.a 69) (t.d 69)]
structure Tx(P:Program)(w:World)(base:Heap)(K:q0B)(mg:q0C)(t:Ad):Prop where
 r:∀ i,(RQ K mg t).getD i True
 bI:Cls K t.aJ
 IB:mg "Tickets"=some (.ref t.aJ)
 qP:Mk K t.aJ (t.a 5)
 c9:Cls K t.aQ
 Rv:mg "Walk"=some (.ref t.aQ)
 C5:Mk K t.aQ (t.a 13)
 aT:Cls K t.aP
 Tn:mg "Run"=some (.ref t.aP)
 IF:Mk K t.aP (t.a 28)
 qQ:eU K t.aJ "made"
 gS:eU K t.aJ "pending"
 gQ:eU K t.aJ "answers"
 iI:eU K t.aQ "blocks"
 e9:eU K t.aQ "numbers"
 i5:eU K t.aP "walk"
 dR:eU K t.aP "sleep"
 yY:eU K t.aP "arg"
 o7:eU K t.aP "now"
 gF:eU K t.aP "names"
 cS:eU K t.aP "tickets"
 gR:eU K t.aP "letters"
 lX:mg "GREATEST_WORTH"=some (.int 1000000000 t.uW)
 sE:mg "GREATEST_MOMENT"=some (.int 1000000000000 t.sL)
 AY:mg "MOST_AT_ONCE"=some (.int 300 t.Bu)
 Nc:mg "DEEDS"=some (.ref t.iL)
 Lz:PY w.params K t.iL
 Ga:PySem.W.nsIn K t.iL "set"=some (some (.ref (t.a 20)))
 BB:PySem.W.nsIn K t.iL "order"=some 1e1
 BC:PySem.W.nsIn K t.iL "timer"=some (some (.ref (t.a 22)))
 BA:PySem.W.nsIn K t.iL "child"=some 1e1
 C8:PySem.W.nsIn K t.iL "send"=some (some (.ref (t.a 23)))
 C6:PySem.W.nsIn K t.iL "drop"=some (some (.ref (t.a 24)))
 C9:PySem.W.nsIn K t.iL "wait"=some (some (.ref (t.a 25)))
 C7:PySem.W.nsIn K t.iL "hear"=some (some (.ref (t.a 26)))
 FZ:PySem.W.nsIn K t.iL "end"=some (some (.ref (t.a 27)))
 J3:mg "bool"=none
 J4:mg "dict"=none
 yE:mg "int"=none
 eR:mg "isinstance"=none
 jW:mg "len"=none
 Cz:mg "list"=none
 AU:mg "max"=none
 GS:mg "min"=none
 rJ:mg "range"=none
 Mi:mg "set"=none
 jR:mg "sorted"=none
 dP:mg "tuple"=none
abbrev Ok{P:Program}{w:World}{base:Heap}{K:q0B}{mg:q0C}{t:Ad}(_:Tx P w base K mg t){x q:Str}{st:Stmt}{ns ps:List Str}{f:Addr}{d:FuncData}{M:Prop}(_:PX K x q st ns ps f d M)(n:Nat)(sp:Sp):Prop:=fG P w K mg base U7 n f d ps sp
def Uj{CX:CXT}{P:Program}{w:World}{K:q0B}{N:List Str}{sc:Scope}{f:Addr}{cd:Value}{A:Around}{o:List Env}{s:Shared}:(zY CX P w K mg base N q sc f cd A o s H E).K=K:=rfl
def TF{CX:CXT}{P:Program}{w:World}{K:q0B}{N:List Str}{sc:Scope}{f:Addr}{cd:Value}{A:Around}{o:List Env}{s:Shared}:(zY CX P w K mg base N q sc f cd A o s H E).nox.K=K:=rfl
def small{n:Nat}(h:n<=1000):n<=sizeLine:=Nat.le_of_lt (small1000 h)
def Em{i:Int}(h0:-(2 ^ 64) < i)(h1:i < 2 ^ 64):CMul i j:=.inl ⟨h0,h1⟩
structure TR(H:Hp)(r:Addr):Prop where
 ex:∃ c l f:Int,H r=some (.lst [.int c,.int l,.int f])/\0<=l/\l < 536870909
def clamp(n:Int):Int:=if 6e0 > -1000000000 then 6e0 else -1000000000
def Dv:Sp:=fun vs H Q _=>∃ n:Int,vs=[.int n]/\Q 2e1 H
def Pz{n:Int}:Dv [.int n] H Q E=Q 2e1 H:=propext ⟨fun⟨_,e,h⟩=>by cases e;exact h,fun h=>⟨_,rfl,h⟩⟩
theorem lZ(n:Int):-1000000000<=clamp n/\clamp n<=1000000000:=by
 unfold clamp
 repeat' split
 all_goals omega
abbrev Wo:=Option Int
variable{an ans r:List (Int×Wo)}{lt ps:List (Str×List Wo)}{ws:List Wo}
def wv:Wo->V
 | none=>.Um
 | some n=>.int n
def num(w:Wo):Int:=w.getD 0
def wk:Wo->Key
 | none=>.no
 | some n=>.inl n
def eI(w:Wo):Prop:=∀ n,w=some n->-1000000000<=n/\n<=1000000000
theorem DJ{a b:Wo}(h:wv a=wv b):a=b:=by cases a<;>cases b<;>simp_all [wv]
def PU(w:Wo):jI (wv w)=some (wk w):=by cases w<;>rfl
def DK(w:Wo):(wv w=.Um)=(w=none):=by cases w<;>simp[wv]
def tP(w:Wo):fD (wv w)=true:=by cases w<;>rfl
def j9:eI none:=fun _ h=>nomatch h
def fK{n:Int}(h0:-1000000000<=n)(h1:n<=1000000000):eI (some n):=fun m h=>by cases h;exact⟨h0,h1⟩
theorem uV{w:Wo}(h:eI w):-1000000000<=num w/\num w<=1000000000:=by
 cases w with
 | none=>exact⟨by decide,by decide⟩
 | some n=>exact h n rfl
def MJ:Sp:=fun vs H Q _=>∃ w:Wo,vs=[wv w]/\Q 3e1 H
def RK{w:Wo}:MJ [wv w] H Q E=Q 3e1 H :=
 propext ⟨fun⟨u,e,h⟩=>by simp only[List.cons.injEq,and_true] at e;rw[DJ e];exact h,fun h=>⟨w,rfl,h⟩⟩
def MK:Sp:=fun vs H Q _=>∃ b:Bool,vs=[.bl b]/\Q 9e0 H
def BZ{b:Bool}:MK [.bl b] H Q E=Q 9e0 H :=
 propext ⟨fun⟨u,e,h⟩=>by cases e;exact h,fun h=>⟨b,rfl,h⟩⟩
inductive Sg where
 | add|sub|mul|lt|eq
def Sg.s:Sg->Str
 | .add=>"+" | .sub=>"-" | .mul=>"*" | .lt=>"<" | .eq=>"="
def Sg.of(g:Sg)(a b:Wo):Int :=
 match g with
 | .add=>clamp (num a+num b) | .sub=>clamp (num a - num b) | .mul=>clamp (num a * num b) | .lt=>if num a < num b then 1 else 0 | .eq=>if a=b then 1 else 0
theorem Sg.MA(g:Sg)(a b:Wo):-1000000000<=g.of a b/\g.of a b<=1000000000:=by
 cases g
 ·exact lZ _
 ·exact lZ _
 ·exact lZ _
 ·show -1000000000<=7e0/\7e0<=1000000000;split<;>decide
 ·show -1000000000<=0e1/\0e1<=1000000000;split<;>decide
inductive Cd(vs:List V)(H:Hp)(Q:VK)(E:XK):Prop
 | mk (g:Sg) (a b:Wo) (_:vs=[.str g.s,wv a,wv b]) (_:eI a) (_:Q (.int (g.of a b)) H):Cd vs H Q E
inductive Say where
 | num (n:Int)|Um|name (x:Str)|arg|now|ans (s:Say)|neg (s:Say)|two (g:Sg) (a b:Say)
variable{ss:List Say}{h:Option (Bool×Say)}{s:Say}
inductive dH(H:Hp):V->Say->Prop
 | num {a:Addr} {n:Int}:H a=some (.tup [.str "number",.int n])->dH H 3e0 (.num n)
 | Um {a:Addr}:H a=some (.tup [.str "none"])->dH H 3e0 .Um
 | name {a:Addr} {x:Str}:H a=some (.tup [.str "name",.str x])->dH H 3e0 (.name x)
 | arg {a:Addr}:H a=some (.tup [.str "arg"])->dH H 3e0 .arg
 | now {a:Addr}:H a=some (.tup [.str "now"])->dH H 3e0 .now
 | ans {a:Addr} {v:V} {s:Say}:H a=some (.tup [.str "answer",v])->dH H v s->dH H 3e0 (.ans s)
 | neg {a:Addr} {v:V} {s:Say}:H a=some (.tup [.str "not",v])->dH H v s->dH H 3e0 (.neg s)
 | two {a:Addr} {v u:V} {g:Sg} {s r:Say}:H a=some (.tup [.str g.s,v,u])->dH H v s->dH H u r->dH H 3e0 (.two g s r)
def aD(H H':Hp):Prop:=∀ a xs,H a=some (.tup xs)->H' a=some (.tup xs)
def dH.kp(h:dH H v s)(k:aD H H'):dH H' v s:=by
 induction h with
 | num e=>exact .num 1e0
 | Um e=>exact .Um 1e0
 | name e=>exact .name 1e0
 | arg e=>exact .arg 1e0
 | now e=>exact .now 1e0
 | ans e _ ih=>exact .ans 1e0 ih
 | neg e _ ih=>exact .neg 1e0 ih
 | two e _ _ i1 i2=>exact .two 1e0 i1 i2
def aD.of{S:List Addr}(k:Kp S H H')(h:∀ a∈S,∃ o,H a=some o/\∀ xs,o≠.tup xs):aD H H':=fun a xs e=>k a _ e fun z=>by
 obtain⟨o,e',d⟩:=h a z;rw[e] at e';exact d xs (ϖ e').symm
def aD.new{p:Addr}(h:H p=none):aD H (Ul H p o):=fun a xs e=>by rw[aE (aF e h)];exact e
def aD.trans{H2:Hp}(a:aD H H1)(b:aD H1 H2):aD H H2:=fun x xs e=>b x xs (a x xs e)
def Say.depth:Say->Nat
 | .ans s=>s.depth+1 | .neg s=>s.depth+1 | .two _ a b=>max a.depth b.depth+1 | .num _=>1 | .Um=>1 | .name _=>1 | .arg=>1 | .now=>1
def Say.ok:Say->Prop
 | .num n=>-1000000000<=n/\n<=1000000000 | .ans s=>s.ok | .neg s=>s.ok | .two _ a b=>a.ok/\b.ok|_=>True
def Say.mY(s:Say):1<=s.depth:=by cases s<;>simp[Say.depth]
structure Pl where
 nm:Str->Wo
 ar:Wo
 now:Int
 an:Wo->Wo
structure Pl.Ok(p:Pl):Prop where
 nm:∀ x,eI (p.nm x)
 ar:eI p.ar
 an:∀ w,eI (p.an w)
def ev(p:Pl):Say->Wo
 | .num n=>some n
 | .Um=>none
 | .name x=>p.nm x
 | .arg=>p.ar
 | .now=>some (clamp p.now)
 | .ans s=>p.an 5e0
 | .neg s=>some 8e0
 | .two g a b=>some (g.of (ev p a) (ev p b))
theorem DZ{p:Pl}(hp:p.Ok):∀ {s:Say},s.ok->eI 5e0
 | .num n,h=>fK h.1 h.2
 | .Um,_=>j9
 | .name x,_=>hp.nm x
 | .arg,_=>hp.ar
 | .now,_=>fK (lZ _).1 (lZ _).2
 | .ans s,_=>hp.an _
 | .neg s,_=>by
  show eI (some 8e0);split<;>exact fK 4e1 4e1
 | .two g a b,_=>fK (g.MA _ _).1 (g.MA _ _).2
def SG(H:Hp)(d:Addr)(f:Str->Wo):Prop:=∃ kvs,H d=some (.dK kvs)/\∀ x,(aX kvs (.inr x)).getD .Um=wv (f x)
def Sz(H:Hp)(d:Addr)(f:Wo->Wo):Prop:=∃ kvs,H d=some (.dK kvs)/\∀ w,(aX kvs (wk w)).getD .Um=wv (f w)
inductive L6(d:Nat)(vs:List V)(H:Hp)(Q:VK)(E:XK):Prop
 | mk (v:V) (dn da:Addr) (p:Pl) (s:Say) (_:vs=[v,.ref dn,wv p.ar,.int p.now,.ref da]) (_:dH H v s) (_:s.depth<=d) (_:s.ok) (_:SG H dn p.nm) (_:Sz H da p.an) (_:p.Ok) (_:Q (wv 5e0) H):L6 d vs H Q E
set_option genInjectivity true in
inductive Stm where
 | set (x:Str) (s:Say)|order (x y:Str) (s:Say)|UA (x:Str) (s:Say)|child (x y:Str) (s:Say)|send (s:Say) (k:Str) (r:Say)|drop (s:Say)
 | wait (x:Str) (ss:List Say)|Ur (x k:Str)|fin (s:Say)|UG (s:Say) (b:List Stm)|iff (s:Say) (b o:List Stm)
variable{P b bb ms:List Stm}
inductive gK(H:Hp):List V->List Say->Prop
 | nil:gK H [] []
 | cons {v:V} {vs:List V} {s:Say} {ss:List Say}:dH H v s->gK H vs ss->gK H (v::vs) (s::ss)
def gK.kp{vs:List V}(h:gK H vs ss)(k:aD H H'):gK H' vs ss:=by
 induction h with
 | nil=>exact .nil
 | cons a _ ih=>exact .cons (a.kp k) ih
end
mutual
inductive cG(H:Hp):V->Stm->Prop
 | set {a:Addr} {x:Str} {v:V} {s:Say}:H a=some (.tup [.str "set",.str x,v])->dH H v s->cG H (.ref a) (.set x s)
 | order {a:Addr} {x y:Str} {v:V} {s:Say}:H a=some (.tup [.str "order",.str x,.str y,v])->dH H v s->cG H (.ref a) (.order x y s)
 | UA {a:Addr} {x:Str} {v:V} {s:Say}:H a=some (.tup [.str "timer",.str x,v])->dH H v s->cG H (.ref a) (.UA x s)
 | child {a:Addr} {x y:Str} {v:V} {s:Say}:H a=some (.tup [.str "child",.str x,.str y,v])->dH H v s->cG H (.ref a) (.child x y s)
 | send {a:Addr} {k:Str} {v u:V} {s r:Say}:H a=some (.tup [.str "send",v,.str k,u])->dH H v s->dH H u r->cG H (.ref a) (.send s k r)
 | drop {a:Addr} {v:V} {s:Say}:H a=some (.tup [.str "drop",v])->dH H v s->cG H (.ref a) (.drop s)
 | wait {a p:Addr} {x:Str} {vs:List V} {ss:List Say}:H a=some (.tup [.str "wait",.str x,.ref p])->H p=some (.tup vs)->gK H vs ss->cG H (.ref a) (.wait x ss)
 | Ur {a:Addr} {x k:Str}:H a=some (.tup [.str "hear",.str x,.str k])->cG H (.ref a) (.Ur x k)
 | fin {a:Addr} {v:V} {s:Say}:H a=some (.tup [.str "end",v])->dH H v s->cG H (.ref a) (.fin s)
 | UG {a p:Addr} {v:V} {s:Say} {vs:List V} {b:List Stm}:H a=some (.tup [.str "while",v,.ref p])->dH H v s->H p=some (.tup vs)->bU H vs b->cG H (.ref a) (.UG s b)
 | iff {a p q:Addr} {v:V} {s:Say} {vs us:List V} {b o:List Stm}:H a=some (.tup [.str "if",v,.ref p,.ref q])->dH H v s->H p=some (.tup vs)->bU H vs b->H q=some (.tup us)->bU H us o->cG H (.ref a) (.iff s b o)
inductive bU(H:Hp):List V->List Stm->Prop
 | nil:bU H [] []
 | cons {v:V} {vs:List V} {x:Stm} {xs:List Stm}:cG H v x->bU H vs xs->bU H (v::vs) (x::xs)
end
def cG.kp(k:aD H H'){m:Stm}(h:cG H v m):cG H' v m :=
 cG.rec (motive_1:=fun v m _=>cG H' v m) (motive_2:=fun vs ms _=>bU H' vs ms)
  (fun e s=>.set (k _ _ e) (s.kp k)) (fun e s=>.order (k _ _ e) (s.kp k)) (fun e s=>.UA (k _ _ e) (s.kp k)) (fun e s=>.child (k _ _ e) (s.kp k))
  (fun e s r=>.send (k _ _ e) (s.kp k) (r.kp k)) (fun e s=>.drop (k _ _ e) (s.kp k)) (fun e f s=>.wait (k _ _ e) (k _ _ f) (s.kp k)) (fun e=>.Ur (k _ _ e)) (fun e s=>.fin (k _ _ e) (s.kp k))
  (fun e s f _ b=>.UG (k _ _ e) (s.kp k) (k _ _ f) b) (fun e s f _ f' _ b b'=>.iff (k _ _ e) (s.kp k) (k _ _ f) b (k _ _ f') b') .nil (fun _ _ a b=>.cons a b) h
def bU.kp(k:aD H H'){vs:List V}(h:bU H vs ms):bU H' vs ms :=
 bU.rec (motive_1:=fun v m _=>cG H' v m) (motive_2:=fun vs ms _=>bU H' vs ms)
  (fun e s=>.set (k _ _ e) (s.kp k)) (fun e s=>.order (k _ _ e) (s.kp k)) (fun e s=>.UA (k _ _ e) (s.kp k)) (fun e s=>.child (k _ _ e) (s.kp k))
  (fun e s r=>.send (k _ _ e) (s.kp k) (r.kp k)) (fun e s=>.drop (k _ _ e) (s.kp k)) (fun e f s=>.wait (k _ _ e) (k _ _ f) (s.kp k)) (fun e=>.Ur (k _ _ e)) (fun e s=>.fin (k _ _ e) (s.kp k))
  (fun e s f _ b=>.UG (k _ _ e) (s.kp k) (k _ _ f) b) (fun e s f _ f' _ b b'=>.iff (k _ _ e) (s.kp k) (k _ _ f) b (k _ _ f') b') .nil (fun _ _ a b=>.cons a b) h
mutual
noncomputable def Stm.dp:Stm->Nat
 | .UG _ b=>oE b+1
 | .iff _ b o=>max (oE b) (oE o)+1
 | .set _ _=>0
 | .order _ _ _=>0
 | .UA _ _=>0
 | .child _ _ _=>0
 | .send _ _ _=>0
 | .drop _=>0
 | .wait _ _=>0
 | .Ur _ _=>0
 | .fin _=>0
noncomputable def oE:List Stm->Nat
 | []=>0
 | m::ms=>max m.dp (oE ms)
end
mutual
example:=[Int×Wo,Str×Wo,S.worth s,Str×List Wo,((k,b,n)::r),jB pend,some i,Key×V,.inl i,bO st,.tup us,(by intro z;cases z),ss.map S.worth,(by simp),(pend.filter fun j=>decide (j≠i)),(fun z=>hj (Key.inr.inj z)),.lst (ws.map wv),(by rw[h]),bZ l n w,.inr k,Key.inr.inj z,(l.any fun p=>decide (p.1=n)),((Key.inl p.1,wv p.2)::hW r),(if z > 0 then z else 0),.ins C dx [],((k,b,n')::r)]
def bU.at{vs:List V}(h:bU H vs ms):∀ {i:Nat} {x:V},vs[i]?=some x->∃ m,ms[i]?=some m/\cG H x m:=by
 induction ms generalizing vs with
 | nil=>cases h;intro i x e;simp at e
 | cons m ms ih =>
  cases h with
  | cons a b =>
   intro i x e;cases i with
   | zero=>simp only[Ξ,Ο] at e;subst e;exact⟨_,rfl,a⟩
   | succ i=>exact ih b (by simpa using e)
def bU.len{vs:List V}(h:bU H vs ms):ms.length=vs.length:=by
 induction ms generalizing vs with
 | nil=>cases h;rfl
 | cons m ms ih =>
  cases h with
  | cons a b=>simp[ih b]
def Lp{ms:List Int}(h:(ms.map V.int)[i]?=some y):∃ z:Int,y=.int z:=by
 rw[Ψ] at h;cases e:ms[i]? with
 | none=>rw[e] at h;cases h
 | some z=>rw[e] at h;exact⟨z,(ϖ h).symm⟩
theorem yS(w:Wo):oM (wv w) [.Um,.int 0]=decide (num w=0):=by
 cases w with
 | none=>rfl
 | some n =>
  by_cases h:n=0
  ·subst h;rfl
  ·have h':¬ (0=n):=fun z=>h z.symm;simp[oM,wv,oS,num,h,h']
theorem flat01:([.Um,.int 0]:List V).all fD=true:=by decide
def aD.nil(k:Kp [] H H'):aD H H':=fun a xs e=>k a _ e 3e1
def _root_.Lake.Kp.jQ:Kp [a] H (Ul H a o):=Kp.set 3e1
def jB(pend:List Int):List 7e0:=pend.map fun i=>(.inl i,.bl true)
def hW(ans:List 0e0):List 7e0:=ans.map fun p=>(.inl p.1,wv p.2)
structure iO(C:Addr)(H:Hp)(tk tx dp da:Addr)(made:Nat)(pend:List Int)(ans:List 0e0):Prop where
 ins:H tk=some (.ins C tx [("made",.int made),("pending",.ref dp),("answers",.ref da)])
 hp:H dp=some (.dK 5e0)
 ha:H da=some (.dK (hW ans))
 nda:dp≠da
 lt:∀ i∈pend,0<=i/\i < made
 asc:pend.Pairwise (· < ·)
 la:∀ p∈ans,0<=p.1/\p.1 < made
 dis:∀ p∈ans,p.1∉pend
 small:made<=1000000
def iO.n1{tk tx dp da:Addr}{made:Nat}(T:iO C H tk tx dp da made pend ans):tk≠dp/\tk≠da:=⟨dB T.ins T.hp 1e1,dB T.ins T.ha 1e1⟩
def iO.kp{tk tx dp da:Addr}{made:Nat}(T:iO C H tk tx dp da made pend ans)(k:Kp [] H H'):iO C H' tk tx dp da made pend ans :=
 ⟨k.at T.ins,k.at T.hp,k.at T.ha,T.nda,T.lt,T.asc,T.la,T.dis,T.small⟩
theorem wA(pend:List Int)(w:Wo):(aX 5e0 (wk w)).isSome=decide (∃ i∈pend,w=some i):=by
 induction pend with
 | nil=>simp[jB,xK]
 | cons i r ih =>
  have e:jB (i::r)=(Key.inl i,V.bl true)::jB r:=rfl;rw[e];by_cases h:w=some i
  ·subst h;rw[show wk 6e0=Key.inl i from rfl,cN rfl];simp
  ·rw[cA (fun z=>h (by cases w with
    | none=>cases z
    | some j=>cases z;rfl)),ih]
   simp[h]
theorem Gm(pend:List Int)(i:Int):rM 5e0 8e0=jB 4e1:=by
 unfold rM jB;rw[List.filter_map]
 congr 1
 apply List.filter_congr;intro j _;simp
def Gn(pend:List Int):intKeys 5e0=some pend:=by
 induction pend with
 | nil=>rfl
 | cons i r ih =>
  show(intKeys (jB r)).map (i::·)=_;rw[ih];rfl
theorem Gp{i:Int}(h:i∉pend):aX 5e0 8e0=none:=by
 have:=wA pend 6e0;rw[show decide (∃ j∈pend,some i=some j)=false by simp[h]] at this;cases e:aX 5e0 8e0 with
 | none=>rfl
 | some v=>rw[show wk 6e0=.inl i from rfl,e] at this;cases this
theorem Gq{i:Int}(h:i∈pend):∃ v,aX 5e0 8e0=some v:=by
 have:=wA pend 6e0;rw[show decide (∃ j∈pend,some i=some j)=true by simpa using h] at this;exact Δ4.mp this
def Ha{i:Int}(h:∀ p∈ans,p.1≠i):aX (hW ans) 8e0=none:=by
 induction ans with
 | nil=>rfl
 | cons p r ih =>
  have e:hW (p::r)=(Key.inl p.1,wv p.2)::hW r:=rfl;rw[e,cA (fun z=>h p 3e1 (by cases z;rfl)),ih fun q hq=>h q (ϑ _ hq)]
def mR{a b:List Int}(p:a.Perm b)(ha:a.Pairwise (·<=·))(hb:b.Pairwise (· < ·)):a=b :=
 List.Perm.eq_of_pairwise (fun x y _ _ h1 h2=>Int.le_antisymm h1 h2) ha (hb.imp fun h=>Int.le_of_lt h) p
inductive w9(C:Addr)(vs:List V)(H:Hp)(Q:VK)(E:XK):Prop
 | mk (x dx:Addr) (_:vs=[.ref x]) (_:H x=some 4e2) (_:∀(dp da:Addr) (H':Hp),H dp=none->H da=none->iO C H' x dx dp da 0 [] []->Kp [x] H H'->Q .Um H'):w9 C vs H Q E
inductive Cg(C:Addr)(vs:List V)(H:Hp)(Q:VK)(E:XK):Prop
 | mk (tk tx dp da:Addr) (made:Nat) (pend:List Int) (ans:List 0e0) (_:vs=[.ref tk]) (_:iO C H tk tx dp da made pend ans) (_:made < 1000000) (_:pend.length < 1000000) (_:∀ H',iO C H' tk tx dp da (made+1) (pend++[(made:Int)]) ans->Kp [tk,dp] H H'->Q (.int made) H'):Cg C vs H Q E
inductive Ci(C:Addr)(vs:List V)(H:Hp)(Q:VK)(E:XK):Prop
 | mk (tk tx dp da:Addr) (made:Nat) (pend:List Int) (ans:List 0e0) (w:Wo) (_:vs=[.ref tk,wv w]) (_:iO C H tk tx dp da made pend ans) (_:Q (.bl (decide (∃ i∈pend,w=some i))) H):Ci C vs H Q E
inductive zN(C:Addr)(vs:List V)(H:Hp)(Q:VK)(E:XK):Prop
 | mk (tk tx dp da:Addr) (made:Nat) (pend:List Int) (ans:List 0e0) (_:vs=[.ref tk]) (_:iO C H tk tx dp da made pend ans) (_:pend.length<=1000000) (_:∀ l,H l=none->Q (.ref l) (Ul H l (.lst (pend.map V.int)))):zN C vs H Q E
inductive Cj(C:Addr)(vs:List V)(H:Hp)(Q:VK)(E:XK):Prop
 | mk (tk tx dp da:Addr) (made:Nat) (pend:List Int) (ans:List 0e0) (i:Int) (_:vs=[.ref tk,.int i]) (_:iO C H tk tx dp da made pend ans) (_:i∈pend) (_:∀ H',iO C H' tk tx dp da made 4e1 ans->Kp [dp] H H'->Q .Um H'):Cj C vs H Q E
inductive w8(C:Addr)(vs:List V)(H:Hp)(Q:VK)(E:XK):Prop
 | mk (tk tx dp da:Addr) (made:Nat) (pend:List Int) (ans:List 0e0) (i:Int) (w:Wo) (_:vs=[.ref tk,.int i,wv w]) (_:iO C H tk tx dp da made pend ans) (_:i∈pend) (_:ans.length < 1000000) (_:∀ H',iO C H' tk tx dp da made 4e1 (ans++[(i,w)])->Kp [dp,da] H H'->Q .Um H'):w8 C vs H Q E
inductive ER(C:Addr)(vs:List V)(H:Hp)(Q:VK)(E:XK):Prop
 | mk (tk tx dp da:Addr) (made:Nat) (pend:List Int) (ans:List 0e0) (_:vs=[.ref tk]) (_:iO C H tk tx dp da made pend ans) (_:∀ H',iO C H' tk tx dp da made [] ans->Kp [dp] H H'->Q .Um H'):ER C vs H Q E
abbrev Stk:=List (Nat×List Stm×Nat)
variable{st:Stk}
def bR:Stk->List Int
 | []=>[]
 | [(_,_,n)]=>[(n:Int)]
 | (k,_,n)::r=>bR r++[(k:Int),(n:Int)]
inductive gI(H:Hp):List V->Stk->Prop
 | one {p:Addr} {us:List V} {k n:Nat} {b:List Stm}:H p=some 0e1->bU H us b->gI H [.ref p] [(k,b,n)]
 | cons {p:Addr} {us vs:List V} {k n:Nat} {b:List Stm} {r:Stk}:gI H vs r->H p=some 0e1->bU H us b->gI H (vs++[.ref p]) 4e0
def gI.kp{vs:List V}(h:gI H vs st)(k:aD H H'):gI H' vs st:=by
 induction h with
 | one e s=>exact .one (k _ _ e) (s.kp k)
 | cons _ e s ih=>exact .cons ih (k _ _ e) (s.kp k)
def gI.len{vs:List V}(h:gI H vs st):vs.length=st.length/\1<=st.length:=by
 induction h with
 | one=>exact⟨rfl,Θ _⟩
 | cons _ _ _ ih=>simp[ih.1]
def gI.last{vs:List V}{k n:Nat}{r:Stk}(h:gI H vs 4e0):∃(ws:List V) (p:Addr) (us:List V),vs=ws++[.ref p]/\H p=some 0e1/\bU H us b/\(r≠[]->gI H ws r)/\(r=[]->ws=[]):=by
 cases h with
 | one e s=>exact⟨[],_,_,rfl,e,s,fun z=>absurd rfl z,fun _=>rfl⟩
 | @cons p us vs k n b r hr e s=>exact⟨vs,_,_,rfl,e,s,fun _=>hr,fun z=>by subst z;cases hr⟩
def gI.turn{vs:List V}{k n n':Nat}{r:Stk}(h:gI H vs 4e0):gI H vs 5e2:=by
 cases h with
 | one e s=>exact .one e s
 | cons hr e s=>exact .cons hr e s
def qU(k n:Nat)(b:List Stm)(r:Stk):∃ l,bR 4e0=l++[(n:Int)]/\∀ n',bR 5e2=l++[((n':Nat):Int)]:=by
 cases r with
 | nil=>exact⟨[],rfl,fun _=>rfl⟩
 | cons x r=>exact⟨bR (x::r)++[(k:Int)],by simp[bR],fun n'=>by simp[bR]⟩
def qV(k:Nat)(b:List Stm)(n:Nat)(x:Nat×List Stm×Nat)(r:Stk):bR ((k,b,n)::x::r)=bR (x::r)++[(k:Int),(n:Int)]:=rfl
structure jH(C:Addr)(H:Hp)(wk wx lb ln:Addr)(st:Stk):Prop where
 ins:H wk=some (.ins C wx [("blocks",.ref lb),("numbers",.ref ln)])
 bl:∃ vs,H lb=some (.lst vs)/\gI H vs st
 nu:H ln=some (.lst ((bR st).map V.int))
 ne:lb≠ln
 UO:st.length<=100
def fO:Stk->Stk
 | (k,b,n)::r=>(k,b,n+1)::r
 | []=>[]
inductive xB(C:Addr)(vs:List V)(H:Hp)(Q:VK)(E:XK):Prop
 | mk (wk wx lb ln:Addr) (k n:Nat) (b:List Stm) (r:Stk) (m:Stm) (_:vs=[.ref wk]) (_:jH C H wk wx lb ln 4e0) (_:b[n]?=some m) (_:∀ v,cG H v m->Q v H):xB C vs H Q E
inductive pS(C:Addr)(vs:List V)(H:Hp)(Q:VK)(E:XK):Prop
 | mk (wk wx lb ln:Addr) (k n:Nat) (b:List Stm) (r:Stk) (_:vs=[.ref wk]) (_:jH C H wk wx lb ln 4e0) (_:∀ H',jH C H' wk wx lb ln ((k,b,n+1)::r)->Kp [ln] H H'->Q .Um H'):pS C vs H Q E
inductive xA(C:Addr)(vs:List V)(H:Hp)(Q:VK)(E:XK):Prop
 | mk (x dx p:Addr) (us:List V) (b:List Stm) (_:vs=[.ref x,.ref p]) (_:H x=some 4e2) (_:H p=some 0e1) (_:bU H us b) (_:∀(lb ln:Addr) (H':Hp),H lb=none->H ln=none->jH C H' x dx lb ln [(0,b,0)]->Kp [x] H H'->Q .Um H'):xA C vs H Q E
def Stm.sub:Stm->Nat->Option (List Stm)
 | .UG _ b,0=>some b
 | .iff _ b _,0=>some b
 | .iff _ _ o,1=>some o
 | _,_=>none
def Stm.Af:Stm->Bool
 | .iff _ _ _=>true
 | _=>false
inductive rF(C:Addr)(vs:List V)(H:Hp)(Q:VK)(E:XK):Prop
 | mk (wk wx lb ln:Addr) (k n c:Nat) (b bb:List Stm) (r:Stk) (m:Stm) (_:vs=[.ref wk,.int c]) (_:jH C H wk wx lb ln 4e0) (_:b[n]?=some m) (_:m.sub c=some bb) (_:r.length<=90) (_:∀ H',jH C H' wk wx lb ln ((c,bb,0)::(k,b,n)::r)->Kp [lb,ln] H H'->Q .Um H'):rF C vs H Q E
inductive zO(C:Addr)(vs:List V)(H:Hp)(Q:VK)(E:XK):Prop
 | mk (wk wx lb ln:Addr) (k n:Nat) (b:List Stm) (x:Nat×List Stm×Nat) (r:Stk) (m:Stm) (_:vs=[.ref wk]) (_:jH C H wk wx lb ln (x::(k,b,n)::r)) (_:b[n]?=some m) (_:∀ H',jH C H' wk wx lb ln ((k,b,if m.Af=true then n+1 else n)::r)->Kp [lb,ln] H H'->Q .Um H'):zO C vs H Q E
def cG.subAt{m:Stm}{c:Nat}(h:cG H v m)(hs:m.sub c=some bb):∃(a p:Addr) (xs us:List V),v=.ref a/\H a=some (.tup xs)/\gL xs (2+(c:Int))=some (.ref p)/\H p=some 0e1/\bU H us bb:=by
 cases h with
 | @UG a p v s vs b e h1 f hb =>
  match c,hs with
  | 0,hs=>cases hs;exact⟨a,p,_,vs,rfl,e,rfl,f,hb⟩
 | @iff a p q v s vs us b o e h1 f hb f2 hb2 =>
  match c,hs with
  | 0,hs=>cases hs;exact⟨a,p,_,vs,rfl,e,rfl,f,hb⟩
  | 1,hs=>cases hs;exact⟨a,q,_,us,rfl,e,rfl,f2,hb2⟩
 | _=>cases hs
theorem cG.Rm{m:Stm}(h:cG H v m):∃(a:Addr) (x:String) (xs:List V),v=.ref a/\H a=some (.tup (.str (Str.ofString x)::xs))/\decide (x = "if")=m.Af:=by
 cases h<;>exact⟨_,_,_,rfl,by assumption,rfl⟩
def aD.dJ{ys:List V}(e:H l=some (.lst xs)):aD H (Ul H l (.lst ys)):=fun a zs h=>by
 rw[aE (dB h e 1e1)];exact h
theorem vI:∀ st:Stk,(bR st).length<=2 * st.length
 | []=>by simp[bR]
 | [(_,_,n)]=>by simp[bR]
 | (k,b,n)::x::r=>by
  have:=vI (x::r);rw[qV,Ν];simp only[Ζ,ϕ] at this ⊢;omega
def qJ{α:Type}(l:List α)(x:α):(l++[x])[(l++[x]).length - 1]?=some x:=by simp
def aD.tr{H2:Hp}(a:aD H H1)(b:aD H1 H2):aD H H2:=fun c xs e=>b c xs (a c xs e)
def mD(b:List Stm)(n:Nat):Nat:=match b[n]? with
 | some m=>if m.Af=true then n+1 else n
 | none=>n
def bO:Stk->Stk
 | (k,b,n)::(k2,b2,n2)::r=>if n=b.length then bO ((k2,b2,mD b2 n2)::r) else (k,b,n)::(k2,b2,n2)::r
 | st=>st
termination_by st=>st.length
def yF:Stk->Prop
 | []=>False
 | (_,b,n)::r=>n<=b.length/\∀ x∈r,x.2.2 < x.2.1.length
def bL:Stk->Option Stm
 | (_,b,n)::_=>b[n]?
 | []=>none
theorem BG{n:Nat}(h:n < b.length):mD b n<=b.length:=by
 unfold mD;split
 ·split<;>omega
 ·omega
inductive Cm(C:Addr)(vs:List V)(H:Hp)(Q:VK)(E:XK):Prop
 | mk (wk wx lb ln:Addr) (st:Stk) (_:vs=[.ref wk]) (_:jH C H wk wx lb ln st) (_:yF st) (_:(∀ H',jH C H' wk wx lb ln 9e0->yF 9e0->bL 9e0=none->Kp [lb,ln] H H'->Q .Um H')) (_:∀(m:Stm) (v:V) (H':Hp),jH C H' wk wx lb ln 9e0->yF 9e0->bL 9e0=some m->cG H' v m->Kp [lb,ln] H H'->Q v H'):Cm C vs H Q E
abbrev Cmds:=List (List V)
variable{cs:Cmds}
inductive jF(H:Hp):List V->Cmds->Prop
 | nil:jF H [] []
 | cons {a:Addr} {c:List V} {us:List V} {cs:Cmds}:H a=some (.tup c)->jF H us cs->jF H (.ref a::us) (c::cs)
def jF.kt(h:jF H us cs)(k:aD H H'):jF H' us cs:=by
 induction h with
 | nil=>exact .nil
 | cons a _ ih=>exact .cons (k _ _ a) ih
def jF.len(h:jF H us cs):us.length=cs.length:=by
 induction h with
 | nil=>rfl
 | cons _ _ ih=>simp[ih]
def jF.app{vs:List V}{ps qs:Cmds}(h:jF H us ps)(g:jF H vs qs):jF H (us++vs) (ps++qs):=by
 induction h with
 | nil=>exact g
 | cons e _ ih=>exact .cons e ih
set_option genInjectivity true in
inductive Slp where
 | Um|new|wait (ts:List Int)|Ur (k:Str)|ended (w:Wo)|worn
def Slp.isN:Slp->Bool
 | .Um=>true
 | _=>false
def iY(H:Hp)(v:V):Slp->Prop
 | .Um=>v=.Um
 | .new=>∃ p,v=.ref p/\H p=some (.tup [.str "new"])
 | .wait ts=>∃ p p2,v=.ref p/\H p=some (.tup [.str "wait",.ref p2])/\H p2=some (.tup (ts.map V.int))
 | .Ur k=>∃ p,v=.ref p/\H p=some (.tup [.str "hear",.str k])
 | .ended w=>∃ p,v=.ref p/\H p=some (.tup [.str "ended",wv w])
 | .worn=>∃ p,v=.ref p/\H p=some (.tup [.str "worn"])
def iY.kt{s:Slp}(h:iY H v s)(k:aD H H'):iY H' v s:=by
 cases s with
 | Um=>exact h
 | wait ts=>obtain⟨p,p2,e,a,b⟩:=h;exact⟨p,p2,e,k _ _ a,k _ _ b⟩
 | _=>obtain⟨p,e,a⟩:=h;exact⟨p,e,k _ _ a⟩
def iY.isN{s:Slp}(h:iY H v s):(s.isN=true/\v=.Um)\/(s.isN=false/\∃ p,v=.ref p):=by
 cases s with
 | Um=>exact .inl ⟨rfl,h⟩
 | wait ts=>obtain⟨p,p2,e,a,b⟩:=h;exact .inr ⟨rfl,p,e⟩
 | _=>obtain⟨p,e,a⟩:=h;exact .inr ⟨rfl,p,e⟩
def fE(l:List 1e0):List 7e0:=l.map fun p=>(.inr p.1,wv p.2)
def bZ(l:List 1e0)(n:Str)(w:Wo):List 1e0:=if 1e2=true then l.map (fun p=>if p.1=n then (p.1,w) else p) else l++[(n,w)]
theorem gG(l:List 1e0)(n:Str)(w:Wo):aS (fE l) (.inr n) (wv w)=fE 8e1:=by
 have e:((fE l).any fun kv=>decide (kv.1=Key.inr n))=1e2:=by
  simp only[fE,List.any_map,Function.comp_def,Key.inr.injEq]
 unfold aS bZ;rw[e];split
 ·simp only[fE,List.map_map,Function.comp_def,Key.inr.injEq];refine List.map_congr_left fun p _=>?_;by_cases h:p.1=n
  ·simp[h]
  ·simp[h]
 ·simp[fE]
theorem BY(l:List 1e0)(n:Str)(w:Wo):(bZ l n w).length<=l.length+1:=by
 unfold bZ;split
 ·rw[Γ];omega
 ·simp
def iZ:List 1e0->Str->Wo
 | [],_=>none
 | p::r,x=>if p.1=x then p.2 else iZ r x
theorem o9:∀(l:List 1e0) (x:Str),(aX (fE l) (.inr x)).getD .Um=wv (iZ l x)
 | [],x=>rfl
 | p::r,x=>by
  have ih:=o9 r x;show(aX ((Key.inr p.1,wv p.2)::fE r) (.inr x)).getD .Um=_;by_cases h:p.1=x
  ·rw[cN 7e1,iZ,if_pos h];rfl
  ·rw[cA (fun z=>h 0e2),iZ,if_neg h];exact ih
def FQ(l:List 1e0)(n:Str)(w:Wo)(x:Str):iZ 8e1 x=if x=n then w else iZ l x:=by
 have h1:=o9 8e1 x;rw[<- gG,gB] at h1;by_cases h:x=n
 ·rw[if_pos 7e1] at h1;rw[if_pos h];exact(DJ h1).symm
 ·rw[if_neg (fun z=>h 0e2),o9] at h1;rw[if_neg h];exact(DJ h1).symm
def fV(l:List 0e0):Wo->Wo
 | none=>none
 | some i=>match l with
  | []=>none
  | p::r=>if p.1=i then p.2 else fV r 6e0
theorem oO:∀(l:List 0e0) (w:Wo),(aX (hW l) (wk w)).getD .Um=wv (fV l w)
 | [],none=>rfl
 | [],some _=>rfl
 | p::r,none=>by
  have ih:=oO r none;show(aX 2e2 .no).getD .Um=_;rw[cA 1e1];rw[show fV (p::r) none=fV r none from by rw[fV,fV]];exact ih
 | p::r,some i=>by
  have ih:=oO r 6e0;show(aX 2e2 8e0).getD .Um=_;by_cases h:p.1=i
  ·rw[cN 7e1,fV,if_pos h];rfl
  ·rw[cA (fun z=>h (Key.inl.inj z)),fV,if_neg h];exact ih
inductive fX(H:Hp):List 7e0->List Addr->List 3e0->Prop
 | nil:fX H [] [] []
 | cons {a:Addr} {k:Str} {ws:List Wo} {kvs:List 7e0} {as:List Addr} {lt:List 3e0}:H a=some 6e1->fX H kvs as lt->fX H ((.inr k,.ref a)::kvs) (a::as) ((k,ws)::lt)
def fX.keep{as:List Addr}(h:fX H kvs as lt)(k:∀ a∈as,∀ o,H a=some o->H' a=some o):fX H' kvs as lt:=by
 induction h with
 | nil=>exact .nil
 | cons e _ ih=>exact .cons (k _ 3e1 _ e) (ih fun a ha=>k a (ϑ _ ha))
def fX.ex{as:List Addr}(h:fX H kvs as lt):∀ a∈as,∃ xs,H a=some (.lst xs):=by
 induction h with
 | nil=>intro a ha;simp at ha
 | cons e _ ih=>intro a ha;rcases Α.mp ha with rfl|ha;exact⟨_,e⟩;exact ih a ha
def fX.len{as:List Addr}(h:fX H kvs as lt):kvs.length=lt.length:=by
 induction h with
 | nil=>rfl
 | cons _ _ ih=>simp[ih]
def aM:List 3e0->Str->Option (List Wo)
 | [],_=>none
 | p::r,k=>if p.1=k then some p.2 else aM r k
def dJ:List 3e0->Str->List Wo->List 3e0
 | [],_,_=>[]
 | p::r,k,ws=>if p.1=k then (p.1,ws)::r else p::dJ r k ws
def fX.look{as:List Addr}(h:fX H kvs as lt)(k:Str):(aX kvs 9e1=none/\aM lt k=none) \/ ∃ a ws,aX kvs 9e1=some (.ref a)/\aM lt k=some ws/\a∈as/\H a=some 6e1:=by
 induction h with
 | nil=>exact .inl ⟨rfl,rfl⟩
 | @cons a j ws kvs as lt e _ ih =>
  by_cases hj:j=k
  ·subst hj;exact .inr ⟨a,ws,cN rfl,by simp[aM],by simp,e⟩
  ·rcases ih with⟨x,y⟩|⟨b,vs,x,y,z,u⟩
   ·exact .inl ⟨by rw[cA 5e1];exact x,by simp[aM,hj,y]⟩
   ·exact .inr ⟨b,vs,by rw[cA 5e1];exact x,by simp[aM,hj,y],ϑ _ z,u⟩
def fX.set{H:Hp}{kvs:List 7e0}{as:List Addr}{lt:List 3e0}(h:fX H kvs as lt){k:Str}{a:Addr}(r:List Wo)(hk:aX kvs 9e1=some (.ref a))(nd:as.Nodup):fX (Ul H a (.lst (r.map wv))) kvs as (dJ lt k r):=by
 induction h with
 | nil=>cases hk
 | @cons b j ws kvs as lt e hr ih =>
  rw[Ϙ] at nd;by_cases hj:j=k
  ·subst hj;rw[cN rfl] at hk;cases hk;rw[dJ,if_pos rfl];exact .cons aA (hr.keep fun c hc o h=>by rw[aE (show c≠a from fun z=>nd.1 (by rw[<- z];exact hc))];exact h)
  ·rw[cA 5e1] at hk;rw[dJ,if_neg hj];have ha:a∈as:=by
    rcases hr.look k with⟨x,_⟩|⟨c,_,x,_,y,_⟩
    ·rw[x] at hk;cases hk
    ·rw[x] at hk;cases hk;exact y
   exact .cons (by rw[aE (show b≠a from fun z=>nd.1 (by rw[z];exact ha))];exact e) (ih hk nd.2)
def fX.snoc{as:List Addr}(h:fX H kvs as lt)(e:H a=some 6e1):fX H (kvs++[(.inr k,.ref a)]) (as++[a]) (lt++[(k,ws)]):=by
 induction h with
 | nil=>exact .cons e .nil
 | cons f _ ih=>exact .cons f ih
structure Pu where
 stk:Stk
 sl:Slp
 ar:Wo
 nw:Int
 nm:List 1e0
 made:Nat
 pend:List Int
 ans:List 0e0
 lt:List 3e0
variable{S:Pu}
def Pu.pl(S:Pu):Pl:=⟨iZ S.nm,S.ar,S.nw,fV S.ans⟩
def Pu.worth(S:Pu)(s:Say):Wo:=ev S.pl s
def Pu.qR(S:Pu)(n:Str):Pu:={S with made:=S.made+1,pend:=S.pend++[(S.made:Int)],nm:=bZ S.nm n (some (S.made:Int))}
def Pu.pass(S:Pu):Pu:={S with stk:=fO S.stk}
def uB(nw:Int):Wo->Int
 | none=>if nw < 1000000000000 then nw else 1000000000000
 | some z=>if nw+3e2 < 1000000000000 then nw+3e2 else 1000000000000
def Pu.ends(S:Pu)(w:Wo):Pu×Cmds:=({S with sl:=.ended w,pend:=[]},[[.str "end",wv w]])
def Pu.pU(S:Pu):Pu×Cmds:=({S with sl:=.worn,pend:=[]},[[.str "worn"]])
def bB(ans:List 0e0)(ws:List Wo):Wo:=(ans.find? fun p=>decide (some p.1∈ws)).map (·.1)
def uS(i:Int):List Int->List Int
 | []=>[i]
 | j::r=>if i < j then i::j::r else if i=j then j::r else j::uS i r
def bN(pend:List Int):List Wo->List Int
 | []=>[]
 | none::r=>bN pend r
 | some i::r=>if i∈pend then uS i (bN pend r) else bN pend r
def bT(S:Pu):Stm->Pu×Cmds
 | .set x s=>({S with nm:=bZ S.nm x 2e0},[])
 | .order x y s=>(S.qR x,[[.str "order",.int S.made,.str y,wv 2e0]])
 | .child x y s=>(S.qR x,[[.str "child",.int S.made,.str y,wv 2e0]])
 | .UA x s=>(S.qR x,[[.str "timer",.int S.made,.int (uB S.nw 2e0)]])
 | .send s k r=>(S,[[.str "send",wv 2e0,.str k,wv (S.worth r)]])
 | .drop s=>match S.worth s with
  | some i=>if i∈S.pend then ({S with pend:=S.pend.filter fun j=>decide (j≠i)},[[.str "drop",.int i]]) else (S,[])
  | none=>(S,[])
 | .Ur x k=>match (aM S.lt k).getD [] with
  | w::r=>({S with nm:=bZ S.nm x w,lt:=dJ S.lt k r},[])
  | []=>({S with sl:=.Ur k},[])
 | .wait x ss=>if bB S.ans 2e1=none/\bN S.pend 2e1≠[] then ({S with sl:=.wait (bN S.pend 2e1)},[]) else ({S with nm:=bZ S.nm x (bB S.ans 2e1)},[])
 | .fin s=>S.ends 2e0
 | .UG _ _=>(S,[])
 | .iff _ _ _=>(S,[])
def Stm.isB:Stm->Bool
 | .UG _ _=>true
 | .iff _ _ _=>true
 | _=>false
def Pu.enter(S:Pu)(c:Nat)(b:List Stm):Pu:={S with stk:=(c,b,0)::S.stk}
def rP(S:Pu):Stm->Pu
 | .UG s b=>if num 2e0=0 then S.pass else S.enter 0 b
 | .iff s b o=>if num 2e0=0 then S.enter 1 o else S.enter 0 b
 | _=>S
def one(S:Pu)(m:Stm):Pu×Cmds:=if m.isB=true then (rP S m,[]) else (if (bT S m).1.sl.isN=true then (bT S m).1.pass else (bT S m).1,(bT S m).2)
def Pu.bD(S:Pu):Pu:={S with stk:=bO S.stk}
def dX:Nat->Pu->Pu×Cmds
 | 0,S=>match bL S.bD.stk with
  | none=>S.bD.ends none
  | some _=>S.bD.pU
 | n+1,S=>match bL S.bD.stk with
  | none=>S.bD.ends none
  | some m=>if (one S.bD m).1.sl.isN=true then ((dX n (one S.bD m).1).1,(one S.bD m).2++(dX n (one S.bD m).1).2) else one S.bD m
def Pu.wake(S:Pu)(w:Wo):Pu×Cmds:=match bL S.stk with
 | some (.Ur x _)=>dX 300 {S with nm:=bZ S.nm x w,stk:=fO S.stk,sl:=.Um}
 | some (.wait x _)=>dX 300 {S with nm:=bZ S.nm x w,stk:=fO S.stk,sl:=.Um}
 | _=>(S,[])
def later(nw m:Int):Int:=if m > nw then m else nw
def Say.sok(s:Say):Prop:=s.ok/\s.depth<=6
end
mutual
noncomputable def Stm.gd(wt:Bool):Stm->Prop
 | .set _ s=>s.sok
 | .order _ _ s=>s.sok
 | .child _ _ s=>s.sok
 | .UA _ s=>s.sok
 | .send s _ r=>s.sok/\r.sok
 | .drop s=>s.sok
 | .wait _ ss=>wt=true/\ss.length<=4/\∀ s∈ss,s.sok
 | .Ur _ _=>True
 | .fin s=>s.sok
 | .UG s b=>s.sok/\AV wt b
 | .iff s b o=>s.sok/\AV wt b/\AV wt o
noncomputable def AV(wt:Bool):List Stm->Prop
 | []=>True
 | m::ms=>m.gd wt/\AV wt ms
end
mutual
example:=[(by simpa using h)]
theorem Ia{wt:Bool}:∀ {b:List Stm} {i:Nat} {m:Stm},AV wt b->b[i]?=some m->m.gd wt
 | [],_,_,_,h=>by simp at h
 | _::_,0,_,g,h=>by simp only[Ξ,Ο] at h;subst h;simp only[AV] at g;exact g.1
 | _::b,i+1,_,g,h=>by simp only[AV] at g;exact Ia g.2 0e0
theorem t8:∀ {b:List Stm} {i:Nat} {m:Stm},b[i]?=some m->m.dp<=oE b
 | [],_,_,h=>by simp at h
 | _::_,0,_,h=>by simp only[Ξ,Ο] at h;subst h;simp only[oE];omega
 | _::b,i+1,_,h=>by have:=t8 (b:=b) 0e0;simp only[oE];omega
def SA:Stk->Prop
 | []=>True
 | (_,b,_)::r=>oE b+r.length<=20/\SA r
structure xQ(wt:Bool)(st:Stk):Prop where
 ok:yF st
 gd:∀ x∈st,AV wt x.2.1
 dp:SA st
structure Uy(wt:Bool)(S:Pu)(N:Nat):Prop where
 nm:S.nm.length<=N
 md:S.made<=N
 pd:S.pend.length<=N
 an:S.ans.length<=N
 lt:S.lt.length<=N
 lw:∀ k ws,aM S.lt k=some ws->ws.length<=N/\∀ w∈ws,eI w
 pl:S.pl.Ok
 nw:0<=S.nw/\S.nw<=1000000000000
 sk:xQ wt S.stk
 sl:(∀ k,S.sl=.Ur k->∃ x,bL S.stk=some (.Ur x k))/\∀ ts,S.sl=.wait ts->∃ x ss,bL S.stk=some (.wait x ss)
structure Cl where
 r:Addr
 w:Addr
 t:Addr
structure Rn where
 x:Addr
 dx:Addr
 wk:Addr
 wx:Addr
 lb:Addr
 ln:Addr
 nm:Addr
 tk:Addr
 tx:Addr
 dp:Addr
 da:Addr
 lt:Addr
def Rn.cells(R:Rn):List Addr:=[R.x,R.lb,R.ln,R.nm,R.tk,R.dp,R.da,R.lt]
abbrev jS(c:Addr)(R:Rn)(sl:V)(ar:Wo)(nw:Int):HO:=.ins c R.dx [("walk",.ref R.wk),("sleep",sl),("arg",wv ar),("now",.int nw),("names",.ref R.nm),("tickets",.ref R.tk),("letters",.ref R.lt)]
def jH.keep{wk wx lb ln:Addr}(W:jH C H wk wx lb ln st)(k1:∀ o,H wk=some o->H' wk=some o)(k2:∀ o,H lb=some o->H' lb=some o)(k3:∀ o,H ln=some o->H' ln=some o)(kt:aD H H'):jH C H' wk wx lb ln st:=by
 obtain⟨vs,e,h⟩:=W.bl;exact⟨k1 _ W.ins,⟨vs,k2 _ e,h.kp kt⟩,k3 _ W.nu,W.ne,W.UO⟩
def iO.keep{tk tx dp da:Addr}{made:Nat}(T:iO C H tk tx dp da made pend ans)(k1:∀ o,H tk=some o->H' tk=some o)(k2:∀ o,H dp=some o->H' dp=some o)(k3:∀ o,H da=some o->H' da=some o):iO C H' tk tx dp da made pend ans :=
 ⟨k1 _ T.ins,k2 _ T.hp,k3 _ T.ha,T.nda,T.lt,T.asc,T.la,T.dis,T.small⟩
structure bC(C:Cl)(H:Hp)(R:Rn)(as:List Addr)(sl:V)(S:Pu):Prop where
 ins:H R.x=some (.ins C.r R.dx [("walk",.ref R.wk),("sleep",sl),("arg",wv S.ar),("now",.int S.nw),("names",.ref R.nm),("tickets",.ref R.tk),("letters",.ref R.lt)])
 slp:iY H sl S.sl
 wk:jH C.w H R.wk R.wx R.lb R.ln S.stk
 tk:iO C.t H R.tk R.tx R.dp R.da S.made S.pend S.ans
 nm:H R.nm=some (.dK (fE S.nm))
 lt:∃ kvs,H R.lt=some (.dK kvs)/\fX H kvs as S.lt
 nas:as.Nodup
 ab:∀ a∈as,a≠R.lb/\a≠R.ln
 xw:R.x≠R.wk
 xt:R.x≠R.tk
 wt:R.wk≠R.tk
 n1:R.nm≠R.dp
 n2:R.nm≠R.da
 n3:R.nm≠R.lt
 n4:R.lt≠R.dp
 n5:R.lt≠R.da
def cZ{p b:Addr}{u v:HO}(e:H p=some o)(h:H b=some v)(d:v≠o:=by intro z;cases z):Ul H p u b=some v:=by
 rw[aE (dB h e d)];exact h
def aD.cU{p:Addr}{u:HO}(e:H p=some o)(d:∀ xs,o≠.tup xs:=by intro _ z;cases z):aD H (Ul H p u):=fun a xs h=>cZ e h (d xs).symm
end
section
mutual
example:=[(by intro _ z;cases z),d _,(by intro _ _ _ z;cases z),(by simp[Rn.cells]),(fun o h=>c 3e0 h),3e0,(fun o h=>by rw[A.wk.ins] at h;cases h;exact at' A.wk.ins 0e0),(fun o h=>by rw[A.tk.ins] at h;cases h;exact at' A.tk.ins 0e0),.inr k,(Ul H R.x (.ins C.r R.dx [("walk",.ref R.wk),("sleep",UK),("arg",wv ar'),("now",.int nw'),("names",.ref R.nm),("tickets",.ref R.tk),("letters",.ref R.lt)])),.dK (aS kvs 8e0 (.ref l)),.dK (fE (bZ S.nm n w)),(by simp[Rn.cells,z]),(by rw[<- z];exact m),(by rw[z];exact h),.lst (ws.map wv),.lst (r.map wv),(fun o h=>by rw[A.wk.nu] at h;cases h;exact at' A.wk.nu 0e0),(fun o h=>by rw[el] at h;cases h;exact at' el 0e0)]
variable{C:Cl}{R:Rn}{as UM:List Addr}{sl:V}
def bC.keep(A:bC C H R as sl S)(k:∀ b o,H b=some o->b=R.wk\/b∈R.cells\/b∈as->H' b=some o)(kt:aD H H'):bC C H' R as sl S:=by
 obtain⟨kvs,e,L⟩:=A.lt;have c:∀ {b:Addr} {o:HO},b∈R.cells->H b=some o->H' b=some o:=fun {b o} h e=>k b o e (.inr (.inl h));exact {A with
  ins:=c 5e0 A.ins
  slp:=A.slp.kt kt
  wk:=A.wk.keep (fun o h=>k _ o h (.inl rfl)) 4e0 4e0 kt
  tk:=A.tk.keep 4e0 4e0 4e0
  nm:=c 5e0 A.nm
  lt:=⟨kvs,c 5e0 e,L.keep fun a ha o h=>k a o h (.inr (.inr ha))⟩}
def bC.kp(A:bC C H R as sl S)(k:Kp [] H H'):bC C H' R as sl S:=A.keep (fun _ _ h _=>k.at h) (aD.nil k)
def bC.cellK(A:bC C H R as sl S){b:Addr}(h:b∈R.cells\/b∈as):∃ o,H b=some o/\∀ xs,o≠.tup xs:=by
 obtain⟨kvs,e,L⟩:=A.lt;obtain⟨vs,el,_⟩:=A.wk.bl;rcases h with h|h
 ·simp only[Rn.cells,Α,Δ,Φ] at h;rcases h with rfl|rfl|rfl|rfl|rfl|rfl|rfl|rfl
  ·exact⟨_,A.ins,fun _ z=>by cases z⟩
  ·exact⟨_,el,fun _ z=>by cases z⟩
  ·exact⟨_,A.wk.nu,fun _ z=>by cases z⟩
  ·exact⟨_,A.nm,fun _ z=>by cases z⟩
  ·exact⟨_,A.tk.ins,fun _ z=>by cases z⟩
  ·exact⟨_,A.tk.hp,fun _ z=>by cases z⟩
  ·exact⟨_,A.tk.ha,fun _ z=>by cases z⟩
  ·exact⟨_,e,fun _ z=>by cases z⟩
 ·obtain⟨xs,ex⟩:=L.ex b h;exact⟨_,ex,fun _ z=>by cases z⟩
structure Fw(R:Rn)(as UM:List Addr)(H H':Hp):Prop where
 kp:∀ b o,H b=some o->b∉R.cells->b∉as->H' b=some o
 dom:∀ b o,H b=some o->∃ o',H' b=some o'
 new:∀ a∈UM,a∈as\/H a=none
def Fw.refl:Fw R as as H H:=⟨fun _ _ h _ _=>h,fun _ o h=>⟨o,h⟩,fun _ h=>.inl h⟩
def Fw.free(F:Fw R as UM H H'){c:Addr}(h:H' c=none):H c=none:=by
 cases z:H c with
 | none=>rfl
 | some o=>obtain⟨o',z'⟩:=F.dom c o z;rw[h] at z';cases z'
def Fw.trans{Zm:List Addr}{Zg:Hp}(a:Fw R as UM H H')(b:Fw R UM Zm H' Zg):Fw R as Zm H Zg :=
  ⟨fun c o h n m=>b.kp c o (a.kp c o h n m) n (fun z=>by
      rcases a.new c z with y|y
      · exact m y
      · rw[h] at y;cases y),fun c o h=>(by obtain⟨o',h'⟩:=a.dom c o h;exact b.dom c o' h'),fun c h=>by
    rcases b.new c h with y|y
    · exact a.new c y
    · exact .inr (a.free y)⟩
def Fw.of(k:Kp [] H H'):Fw R as as H H':=⟨fun b o h _ _=>k.at h,fun b o h=>⟨o,k.at h⟩,fun _ h=>.inl h⟩
def Fw.set{p:Addr}{o:HO}(h:p∈R.cells\/p∈as):Fw R as as H (Ul H p o) :=
 ⟨fun b u e n m=>by rw[aE (fun z=>by rcases h with h|h;exact n 4e1;exact m 4e1)];exact e,fun b u e=>by by_cases z:b=p;exact⟨o,by rw[z,aA]⟩;exact⟨u,by rw[aE z];exact e⟩,fun _ h=>.inl h⟩
def Fw.ofD(k:Kp D H H')(h:∀ b∈D,b∈R.cells/\∃ o,H' b=some o):Fw R as as H H' :=
 ⟨fun b o e n _=>k b o e fun z=>n (h b z).1,fun b o e=>by by_cases z:b∈D;exact(h b z).2;exact⟨o,k b o e z⟩,fun _ h=>.inl h⟩
def Fw.fresh{c:Addr}(F:Fw R as UM H H')(h:H c=none):Fw R as UM H (Ul H' c o) :=
 ⟨fun b u e n m=>by rw[aE (aF e h)];exact F.kp b u e n m,fun b u e=>by rw[aE (aF e h)];exact F.dom b u e,F.new⟩
def bC.tkp(A:bC C H R as sl S)(F:Fw R as UM H H'):aD H H':=fun b xs h=>F.kp b _ h (fun z=>by
    obtain⟨o,e,d⟩:=A.cellK (.inl z);rw[h] at e;exact d xs (ϖ e).symm) fun z=>by
    obtain⟨o,e,d⟩:=A.cellK (.inr z);rw[h] at e;exact d xs (ϖ e).symm
def bC.hE(A:bC C H R as sl S){c:Addr}(h:H c=none):c∉R.cells/\c∉as:=by
 refine⟨fun z=>?_,fun z=>?_⟩
 ·obtain⟨o,e,d⟩:=A.cellK (.inl z);rw[h] at e;cases e
 ·obtain⟨o,e,d⟩:=A.cellK (.inr z);rw[h] at e;cases e
def bC.attr(A:bC C H R as sl S)(UK:V)(s':Slp)(ar':Wo)(nw':Int)(h:iY H UK s'):bC C 9e0 R as UK {S with sl:=s',ar:=ar',nw:=nw'}:=by
 obtain⟨kvs,e,L⟩:=A.lt;obtain⟨vs,el,_⟩:=A.wk.bl;have kt:aD H 9e0:=aD.cU A.ins;exact {A with
  ins:=aA
  slp:=h.kt kt
  wk:=A.wk.keep (fun o h=>by rw[aE A.xw.symm];exact h) (fun o h=>by rw[el] at h;cases h;exact cZ A.ins el) (fun o h=>by rw[A.wk.nu] at h;cases h;exact cZ A.ins A.wk.nu) kt
  tk:=A.tk.keep (fun o h=>by rw[aE A.xt.symm];exact h) (fun o h=>by rw[A.tk.hp] at h;cases h;exact cZ A.ins A.tk.hp) (fun o h=>by rw[A.tk.ha] at h;cases h;exact cZ A.ins A.tk.ha)
  nm:=cZ A.ins A.nm
  lt:=⟨kvs,cZ A.ins e,L.keep fun a ha o h=>by obtain⟨xs,ex⟩:=L.ex a ha;rw[ex] at h;cases h;exact cZ A.ins ex⟩}
def bC.walk(A:bC C H R as sl S)(W:jH C.w H' R.wk R.wx R.lb R.ln st)(k:Kp [R.lb,R.ln] H H'):bC C H' R as sl {S with stk:=st}:=by
 obtain⟨kvs,e,L⟩:=A.lt;obtain⟨vs,el,_⟩:=A.wk.bl;have at':∀ {b:Addr} {o:HO},H b=some o->(∀ xs,o≠.lst xs)->H' b=some o:=fun {b o} h d=>k b o h (by
  simp only[Α,Δ,Φ,not_or];exact⟨dB h el 1e0,dB h A.wk.nu 1e0⟩)
 have kt:aD H H':=fun b xs h=>at' h 0e0;exact {A with
  ins:=at' A.ins 0e0
  slp:=A.slp.kt kt
  wk:=W
  tk:=⟨at' A.tk.ins 0e0,at' A.tk.hp 0e0,at' A.tk.ha 0e0,A.tk.nda,A.tk.lt,A.tk.asc,A.tk.la,A.tk.dis,A.tk.small⟩
  nm:=at' A.nm 0e0
  lt:=⟨kvs,at' e 0e0,L.keep fun a ha o h=>k a o h (by
   simp only[Α,Δ,Φ,not_or];exact A.ab a ha)⟩}
def bC.uM(_:bC C H R as sl S)(W:jH C.w H' R.wk R.wx R.lb R.ln st)(k:Kp [R.lb,R.ln] H H'):Fw R as as H H':=Fw.ofD k fun b hb=>by
 obtain⟨vs,el,_⟩:=W.bl;simp only[Α,Δ,Φ] at hb;rcases hb with rfl|rfl
 ·exact⟨by simp[Rn.cells],_,el⟩
 ·exact⟨by simp[Rn.cells],_,W.nu⟩
def bC.tick(A:bC C H R as sl S){md:Nat}(T:iO C.t H' R.tk R.tx R.dp R.da md pd an)(k:Kp [R.tk,R.dp,R.da] H H'):bC C H' R as sl {S with made:=md,pend:=pd,ans:=an}:=by
 obtain⟨kvs,e,L⟩:=A.lt;obtain⟨vs,el,_⟩:=A.wk.bl;have at':∀ {b:Addr} {o:HO},H b=some o->(∀ xs,o≠.dK xs)->(∀ C d f,o≠.ins C d f)->H' b=some o:=fun {b o} h d d2=>k b o h (by
  simp only[Α,Δ,Φ,not_or];exact⟨dB h A.tk.ins (d2 _ _ _),dB h A.tk.hp 1e0,dB h A.tk.ha 1e0⟩)
 have gL:∀ {b:Addr} {o:HO},H b=some o->(∀ xs,o≠.dK xs)->b≠R.tk->H' b=some o:=fun {b o} h d d2=>k b o h (by
  simp only[Α,Δ,Φ,not_or];exact⟨d2,dB h A.tk.hp 1e0,dB h A.tk.ha 1e0⟩)
 have atD:∀ {b:Addr} {o:HO},H b=some o->(∀ C d f,o≠.ins C d f)->b≠R.dp->b≠R.da->H' b=some o:=fun {b o} h d d2 d3=>k b o h (by
  simp only[Α,Δ,Φ,not_or];exact⟨dB h A.tk.ins (d _ _ _),d2,d3⟩)
 have kt:aD H H':=fun b xs h=>at' h 0e0 2e0;exact {A with
  ins:=gL A.ins 0e0 A.xt
  slp:=A.slp.kt kt
  wk:=A.wk.keep (fun o h=>by rw[A.wk.ins] at h;cases h;exact gL A.wk.ins 0e0 A.wt) (fun o h=>by rw[el] at h;cases h;exact at' el 0e0 2e0) (fun o h=>by rw[A.wk.nu] at h;cases h;exact at' A.wk.nu 0e0 2e0) kt
  tk:=T
  nm:=atD A.nm 2e0 A.n1 A.n2
  lt:=⟨kvs,atD e 2e0 A.n4 A.n5,L.keep fun a ha o h=>by obtain⟨xs,ex⟩:=L.ex a ha;rw[ex] at h;cases h;exact at' ex 0e0 2e0⟩}
def bC.Bm(_:bC C H R as sl S){md:Nat}(T:iO C.t H' R.tk R.tx R.dp R.da md pd an)(k:Kp [R.tk,R.dp,R.da] H H'):Fw R as as H H':=Fw.ofD k fun b hb=>by
 simp only[Α,Δ,Φ] at hb;rcases hb with rfl|rfl|rfl
 ·exact⟨by simp[Rn.cells],_,T.ins⟩
 ·exact⟨by simp[Rn.cells],_,T.hp⟩
 ·exact⟨by simp[Rn.cells],_,T.ha⟩
def bC.name(A:bC C H R as sl S)(n:Str)(w:Wo):bC C (Ul H R.nm 1e1) R as sl {S with nm:=bZ S.nm n w}:=by
 obtain⟨kvs,e,L⟩:=A.lt;obtain⟨vs,el,_⟩:=A.wk.bl;have at':∀ {b:Addr} {o:HO},H b=some o->(∀ xs,o≠.dK xs)->Ul H R.nm 1e1 b=some o:=fun {b o} h d=>cZ A.nm h 1e0;have kt:aD H _:=fun b xs h=>at' h 0e0;exact {A with
  ins:=at' A.ins 0e0
  slp:=A.slp.kt kt
  wk:=A.wk.keep 6e0 8e1 7e1 kt
  tk:=A.tk.keep 7e0 (fun o h=>by rw[aE A.n1.symm];exact h) (fun o h=>by rw[aE A.n2.symm];exact h)
  nm:=aA
  lt:=⟨kvs,by rw[aE A.n3.symm];exact e,L.keep fun a ha o h=>by obtain⟨xs,ex⟩:=L.ex a ha;rw[ex] at h;cases h;exact at' ex 0e0⟩}
def bC.u9(A:bC C H R as sl S)(e:H R.lt=some (.dK kvs))(hk:aX kvs 8e0=some (.ref l))(r:List Wo):bC C (Ul H l 6e1) R as sl {S with lt:=dJ S.lt k r}/\l∈as:=by
 obtain⟨aa1,e',L⟩:=A.lt;rw[e] at e';cases e';obtain⟨vs,el,_⟩:=A.wk.bl;obtain⟨ws,hl,WB⟩:∃ ws:List Wo,H l=some 5e1/\l∈as:=by
  rcases L.look k with⟨x,_⟩|⟨c,ws,x,_,y,z⟩
  ·rw[x] at hk;cases hk
  ·rw[x] at hk;cases hk;exact⟨ws,z,y⟩
 have at':∀ {b:Addr} {o:HO},H b=some o->(∀ xs,o≠.lst xs)->Ul H l 6e1 b=some o:=fun {b o} h d=>cZ hl h 1e0;have kt:aD H _:=fun b xs h=>at' h 0e0;have nb:=A.ab l WB;refine⟨{A with
  ins:=at' A.ins 0e0
  slp:=A.slp.kt kt
  wk:=A.wk.keep 6e0 (fun o h=>by rw[aE nb.1.symm];exact h) (fun o h=>by rw[aE nb.2.symm];exact h) kt
  tk:=A.tk.keep 7e0 (fun o h=>by rw[A.tk.hp] at h;cases h;exact at' A.tk.hp 0e0) (fun o h=>by rw[A.tk.ha] at h;cases h;exact at' A.tk.ha 0e0)
  nm:=at' A.nm 0e0
  lt:=⟨kvs,at' e 0e0,L.set r hk A.nas⟩},WB⟩
def bC.Ly(A:bC C H R as sl S)(e:H R.lt=some (.dK kvs))(hk:aX kvs 8e0=none)(hl:H l=some 5e1)(n1:l∉R.cells)(n2:l∉as):bC C (Ul H R.lt 0e1) R (as++[l]) sl {S with lt:=S.lt++[(k,ws)]}:=by
 obtain⟨aa1,e',L⟩:=A.lt;rw[e] at e';cases e';obtain⟨vs,el,_⟩:=A.wk.bl;have at':∀ {b:Addr} {o:HO},H b=some o->(∀ xs,o≠.dK xs)->Ul H R.lt 0e1 b=some o:=fun {b o} h d=>cZ e h 1e0;have kt:aD H _:=fun b xs h=>at' h 0e0;exact {A with
  ins:=at' A.ins 0e0
  slp:=A.slp.kt kt
  wk:=A.wk.keep 6e0 8e1 7e1 kt
  tk:=A.tk.keep 7e0 (fun o h=>by rw[aE A.n4.symm];exact h) (fun o h=>by rw[aE A.n5.symm];exact h)
  nm:=by rw[aE A.n3];exact A.nm
  lt:=⟨_,aA,by
   rw[wF _ hk];exact(L.keep fun a ha o h=>by obtain⟨xs,ex⟩:=L.ex a ha;rw[ex] at h;cases h;exact cZ e ex).snoc (cZ e hl)⟩
  nas:=Ϝ.mpr ⟨A.nas,by simp,fun a ha b hb=>by rw[show b=l by simpa using hb];exact fun z=>n2 (by rw[<- z];exact ha)⟩
  ab:=fun a ha=>by
   rcases Κ.mp ha with ha|ha
   ·exact A.ab a ha
   ·rw[show a=l by simpa using ha];exact⟨fun z=>n1 2e1,fun z=>n1 2e1⟩}
def bC.other(A:bC C H R as sl S){c:Addr}{vs:List V}(hc:H c=some (.lst us))(n1:c∉R.cells)(n2:c∉as):bC C (Ul H c (.lst vs)) R as sl S :=
 A.keep (fun b o h m=>by
  rw[aE (fun z=>by
   rcases m with m|m|m
   ·rw[z] at m;rw[m,A.wk.ins] at hc;cases hc
   ·exact n1 3e1
   ·exact n2 3e1)]
  exact h) (aD.cU hc)
end
end
mutual
example:=[Str×List Wo,Int×Wo,N+1,(by simp),V×V,(by cases e),n+1,Str.ofString "-",Str.ofString "+",Str.ofString "*",Str.ofString a,Ul H p o,Key.inr.inj z,S.worth s,Str×Wo,.lst us,Ε3 N,Ul (Ul H1 dx (.own x)) x (.ins C dx []),i∈bY ans ws,ws.take i,ws.map wv,some i,.inr k,(Kp.drop ((K1.mono (by simp)).trans K) hx),(Kp.new (by rw[aE ne.symm];exact hx)),(fun v H2=>v=.Um/\Q x H2),(.tup [.int i,wv w]),(by simpa using e),S.pend.map V.int,.ins C.r dx [],(by simp[fV,h]),(by simp[hx]),.int S.made,(.tup [x,y]),bY ans ws,j∈i::r,Str×Sp,.tup xs,.tup us,.ref a,Ul H1 dx (.own x),(by rw[show(S.enter c bb).sl=S.sl from rfl,hs] at e;cases e),(by rw[show S'.pass.sl=S'.sl from rfl,a] at e;cases e),(by rw[show S.bD.sl=S.sl from rfl,h] at e;cases e),(if num w > 0 then num w else 0),(by simp[Stm.dp];omega),(.tup [.str k,.ref b]),(by intro z;cases z),(by rwa [cH] at z),(by simp[fV,h,z]),ws.take (i+1),(by rw[e];simp),us++[.ref a],.inr "made",(l++[(i,w)]),dD (dD f2),dD (dD f1),.ref a::us,bB ans ws,aD.nil K1]
def put2{x p:Addr}{o' u:HO}(hx:H x=some u)(hp:H p=none):Ul 1e1 x o' x=some o'/\Ul 1e1 x o' p=some o/\Kp [x] H (Ul 1e1 x o')/\x≠p:=by
 have n:x≠p:=aF hx hp;exact⟨aA,by rw[aE n.symm];exact aA,(Kp.new hp).trans (Kp.set 3e0),n⟩
def dD{p:Addr}(h:Ul H a o p=none):H p=none:=by
 by_cases e:p=a
 ·subst e;rw[aA] at h;cases h
 ·rwa [aE e] at h
def Told(C:Cl)(R:Rn)(as UM:List Addr)(H:Hp)(Q:VK)(z:Pu×Cmds):Prop:=∀(sl:V) (c:Addr) (us:List V) (H':Hp),bC C H' R UM sl z.1->H c=none->H' c=some 5e1->jF H' us z.2->Fw R as UM H H'->Q (.ref c) H'
inductive Cn(C:Cl)(vs:List V)(H:Hp)(Q:VK)(E:XK):Prop
 | mk (R:Rn) (as:List Addr) (sl:V) (S:Pu) (v:V) (s:Say) (_:vs=[.ref R.x,v]) (_:bC C H R as sl S) (_:S.pl.Ok) (_:dH H v s) (_:s.sok) (_:Q (wv 3e1) H):Cn C vs H Q E
inductive JG(C:Cl)(vs:List V)(H:Hp)(Q:VK)(E:XK):Prop
 | mk (R:Rn) (as:List Addr) (sl:V) (S:Pu) (n:Str) (_:vs=[.ref R.x,.str n]) (_:bC C H R as sl S) (_:S.made < 1000000) (_:S.pend.length < 1000000) (_:S.nm.length<=1000000) (_:∀ H',bC C H' R as sl (S.qR n)->Fw R as as H H'->Q 2e3 H'):JG C vs H Q E
inductive JD(C:Cl)(vs:List V)(H:Hp)(Q:VK)(E:XK):Prop
 | mk (R:Rn) (as:List Addr) (sl:V) (S:Pu) (w:Wo) (_:vs=[.ref R.x,wv w]) (_:bC C H R as sl S) (_:Told C R as as H Q (S.ends w)):JD C vs H Q E
inductive JN(C:Cl)(vs:List V)(H:Hp)(Q:VK)(E:XK):Prop
 | mk (R:Rn) (as:List Addr) (sl:V) (S:Pu) (_:vs=[.ref R.x]) (_:bC C H R as sl S) (_:Told C R as as H Q S.pU):JN C vs H Q E
inductive dU(C:Cl)(wt:Bool)(g:Stm->Prop)(vs:List V)(H:Hp)(Q:VK)(E:XK):Prop
 | mk (R:Rn) (as:List Addr) (sl:V) (S:Pu) (a:V) (m:Stm) (N:Nat) (_:vs=[.ref R.x,a]) (_:bC C H R as sl S) (_:S.sl=.Um) (_:cG H a m) (_:g m) (_:Uy wt S N) (_:m.gd wt) (_:N<=900000) (_:Told C R as as H Q (bT S m)):dU C wt g vs H Q E
inductive EJ(C:Cl)(wt:Bool)(vs:List V)(H:Hp)(Q:VK)(E:XK):Prop
 | mk (R:Rn) (as:List Addr) (sl:V) (S:Pu) (a:V) (m:Stm) (N:Nat) (_:vs=[.ref R.x,a]) (_:bC C H R as sl S) (_:cG H a m) (_:m.isB=true) (_:Uy wt S N) (_:m.gd wt) (_:bL S.stk=some m) (_:∀ H',bC C H' R as sl (rP S m)->Fw R as as H H'->Q .Um H'):EJ C wt vs H Q E
inductive JH(C:Cl)(wt:Bool)(vs:List V)(H:Hp)(Q:VK)(E:XK):Prop
 | mk (R:Rn) (as:List Addr) (sl:V) (S:Pu) (a:V) (m:Stm) (N:Nat) (_:vs=[.ref R.x,a]) (_:bC C H R as sl S) (_:S.sl=.Um) (_:cG H a m) (_:Uy wt S N) (_:m.gd wt) (_:bL S.stk=some m) (_:N<=900000) (_:Told C R as as H Q (one S m)):JH C wt vs H Q E
inductive MH(C:Cl)(wt:Bool)(vs:List V)(H:Hp)(Q:VK)(E:XK):Prop
 | mk (R:Rn) (as:List Addr) (sl:V) (S:Pu) (N:Nat) (_:vs=[.ref R.x]) (_:bC C H R as sl S) (_:Uy wt {S with sl:=.Um} N) (_:N<=800000) (_:Told C R as as H Q (dX 300 {S with sl:=.Um})):MH C wt vs H Q E
inductive EK(C:Cl)(vs:List V)(H:Hp)(Q:VK)(E:XK):Prop
 | mk (R:Rn) (as:List Addr) (sl:V) (S:Pu) (_:vs=[.ref R.x]) (_:bC C H R as sl S) (_:S.pend.length<=1000000) (_:∀ l,H l=none->Q (.ref l) (Ul H l (.lst 8e2))):EK C vs H Q E
def Mw(F:Uy wt S N)(h:s.sok):eI 3e1:=DZ F.pl h.1
def Lx{y:Str}{a:Sp}{r:List 6e3}:List.lookup y ((y,a)::r)=some a:=by simp only[List.lookup,beq_self_eq_true]
theorem lT{a b:String}{s:Sp}{r:List 6e3}(h:a≠b:=by decide):List.lookup 0e1 ((Str.ofString b,s)::r)=List.lookup 0e1 r:=by
 have:((Str.ofString a:Str)==Str.ofString b)=false:=Β4.mpr fun z=>h 8e4;simp only[List.lookup,this]
def J7{y:Str}{a sp:Sp}{r:List 6e3}(h:List.lookup y ((k,a)::r)=some sp):(y=k/\sp=a)\/List.lookup y r=some sp:=by
 simp only[List.lookup] at h;split at h
 ·next z=>cases h;exact .inl ⟨eq_of_beq z,rfl⟩
 ·exact .inr h
def gO{m:Stm}(h:bL st=some m):∃ k b n r,st=(k,b,n)::r/\b[n]?=some m:=by
 match st,h with
 | (k,b,n)::r,h=>exact⟨k,b,n,r,rfl,h⟩
def l7(S:Pu)(m:Stm):(bT S m).1.stk=S.stk:=by
 cases m<;>simp only[bT,Pu.qR,Pu.ends]
 ·split
  ·split<;>rfl
  ·rfl
 ·split<;>rfl
 ·split<;>rfl
theorem Bd{wt:Bool}:∀ st,xQ wt st->xQ wt (bO st)
 | [],h=>h.ok.elim
 | [x],h=>by simp only[bO];exact h
 | (k,b,n)::(k2,b2,n2)::r,h=>by
  rw[bO];split
  ·have o:=h.ok.2 (k2,b2,n2) 3e0;exact Bd ((k2,b2,mD b2 n2)::r) ⟨⟨BG o,fun x hx=>h.ok.2 x (ϑ _ hx)⟩,fun x hx=>by
    rcases Α.mp hx with rfl|hx
    ·exact h.gd (k2,b2,n2) 3e0
    ·exact h.gd x 1e3,⟨h.dp.2.1,h.dp.2.2⟩⟩
  ·exact h
termination_by st=>st.length
def Uy.bD(F:Uy wt S N)(h:S.sl=.Um):Uy wt S.bD N :=
 {F with sk:=Bd _ F.sk,sl:=⟨fun k e=>3e4,fun k e=>3e4⟩}
def Uy.more{M:Nat}(F:Uy wt S N)(h:N<=M):Uy wt S M :=
 {F with nm:=Χ F.nm h,md:=Χ F.md h,pd:=Χ F.pd h,an:=Χ F.an h,lt:=Χ F.lt h,lw:=fun k ws e=>⟨Χ (F.lw k ws e).1 h,(F.lw k ws e).2⟩}
def xQ.pass{m:Stm}(G:xQ wt st)(h:bL st=some m):xQ wt (fO st):=by
 obtain⟨k,b,n,r,rfl,hm⟩:=gO h;have hn:=(Μ.mp hm).1;exact⟨⟨hn,G.ok.2⟩,fun x hx=>by
  rcases Α.mp hx with rfl|hx
  ·exact G.gd (k,b,n) 3e0
  ·exact G.gd x 1e3,G.dp⟩
theorem xQ.enter{m:Stm}{c:Nat}(G:xQ wt st)(h:bL st=some m)(hg:AV wt bb)(hd:oE bb+1<=m.dp):xQ wt ((c,bb,0)::st):=by
 obtain⟨k,b,n,r,rfl,hm⟩:=gO h;have hn:=(Μ.mp hm).1;have h2:=t8 hm;have h3:=G.dp.1;refine⟨⟨Α2 _,fun x hx=>?_⟩,fun x hx=>?_,?_,G.dp⟩
 ·rcases Α.mp hx with rfl|hx
  ·exact hn
  ·exact G.ok.2 x hx
 ·rcases Α.mp hx with rfl|hx
  ·exact hg
  ·exact G.gd x hx
 ·simp only[Ζ];omega
def Uy.stm(F:Uy wt S N){m:Stm}(h:bL S.stk=some m):m.gd wt:=by
 obtain⟨k,b,n,r,e,hm⟩:=gO h;exact Ia (F.sk.gd (k,b,n) 1e5) hm
def IU(h:S.pl.Ok)(n:Str){w:Wo}(hw:eI w):({S with nm:=bZ S.nm n w}:Pu).pl.Ok :=
 ⟨fun x=>by show eI (iZ (bZ S.nm n w) x);rw[FQ];split;exact hw;exact h.nm x,h.ar,h.an⟩
theorem qM:∀(l:List 0e0) (k:Str) (r:List Wo) (j:Str) (ws:List Wo),aM (dJ l k r) j=some ws->(j=k/\ws=r)\/aM l j=some ws
 | [],_,_,_,_,h=>by simp[dJ,aM] at h
 | p::l,k,r,j,ws,h=>by
  by_cases e:p.1=k
  ·rw[dJ,if_pos e,aM] at h;by_cases e2:p.1=j
   ·rw[if_pos e2] at h;cases h;exact .inl ⟨by rw[<- e2,e],rfl⟩
   ·rw[if_neg e2] at h;exact .inr (by rw[aM,if_neg e2];exact h)
  ·rw[dJ,if_neg e,aM] at h;by_cases e2:p.1=j
   ·rw[if_pos e2] at h;exact .inr (by rw[aM,if_pos e2];exact h)
   ·rw[if_neg e2] at h;rcases qM l k r j ws h with x|x
    ·exact .inl x
    ·exact .inr (by rw[aM,if_neg e2];exact x)
theorem mQ:∀(l:List 0e0) (k:Str) (r:List Wo),(dJ l k r).length=l.length
 | [],_,_=>rfl
 | p::l,k,r=>by
  rw[dJ];split
  ·rfl
  ·simp[mQ l k r]
theorem zZ(h:∀ w∈ws,eI w):eI 8e5:=by
 unfold bB;cases e:ans.find? fun p=>decide (some p.1∈ws) with
 | none=>exact j9
 | some p =>
  have:=List.find?_some e;exact h _ (by simpa using this)
def yN{α:Type}{p:α->Bool}{l:List α}:(l.filter p).length<=l.length:=Γ8 p l
theorem Uy.bT(F:Uy wt S N){m:Stm}(h:bL S.stk=some m)(hs:S.sl=.Um)(hN:N<=900000):Uy wt (bT S m).1 2e0:=by
 have g:=F.stm h;have F1:=F.more 6e1;have UD:(∀ k,S.sl=.Ur k->∃ x,bL S.stk=some (.Ur x k))/\∀ ts,S.sl=.wait ts->∃ x ss,bL S.stk=some (.wait x ss):=F.sl;have put:∀(n:Str) {w:Wo},eI w->Uy wt {S with nm:=bZ S.nm n w} 2e0:=fun n w hw =>
  {F1 with nm:=by (have:=BY S.nm n w;have:=F.nm;show(bZ S.nm n w).length<=N+1;omega),pl:=IU F.pl n hw}
 have qR:∀ n,Uy wt (S.qR n) 2e0:=fun n =>
  have hw:eI (some (S.made:Int)):=fK (by omega) (by have:=F.md;omega)
  {F1 with
   nm:=(put n hw).nm
   pl:=(put n hw).pl
   md:=(by have:=F.md;show S.made+1<=N+1;omega)
   pd:=(by have:=F.pd;show(S.pend++[(S.made:Int)]).length<=N+1;rw[Ν];simp;exact this)}
 cases m with
 | set x s=>exact put x (Mw F g)
 | order x y s=>exact qR x
 | child x y s=>exact qR x
 | UA x s=>exact qR x
 | send s k r=>exact F1
 | drop s =>
  simp only[Internal.bT];split
  ·split
   ·exact {F1 with pd:=Χ yN (Ε7 F.pd)}
   ·exact F1
  ·exact F1
 | wait x ss =>
  simp only[Internal.bT];split
  ·exact {F1 with sl:=⟨fun k e=>5e0,fun ts e=>⟨x,ss,h⟩⟩}
  ·exact put x (zZ fun w hw=>by
    obtain⟨s,WD,rfl⟩:=Β0.mp hw;exact Mw F (g.2.2 s WD))
 | Ur x k =>
  simp only[Internal.bT];split
  ·next w r e =>
   obtain⟨ws,el,rfl⟩:∃ ws,aM S.lt k=some ws/\ws=w::r:=by
    cases el:aM S.lt k with
    | none=>rw[el] at e;cases e
    | some ws=>rw[el] at e;exact⟨ws,rfl,e⟩
   have hl:=F.lw k _ el;exact {put x (hl.2 w 3e0) with
    lt:=(by have:=F.lt;show(dJ S.lt k r).length<=N+1;rw[mQ];omega)
    lw:=fun j vs hj=>by
     rcases qM S.lt k r j vs hj with⟨_,rfl⟩|z
     ·exact⟨by have:=hl.1;simp only[Ζ] at this;omega,fun w hw=>hl.2 w (ϑ _ hw)⟩
     ·exact F1.lw j vs z}
  ·exact {F1 with sl:=⟨fun k' e=>(by cases e;exact⟨x,h⟩),fun ts e=>5e0⟩}
 | fin s=>exact {F1 with pd:=Α2 _,sl:=⟨fun k e=>5e0,fun k e=>5e0⟩}
 | UG s b=>exact F1
 | iff s b o=>exact F1
def nB{s:Slp}(h:s.isN=true):s=.Um:=by cases s<;>first|rfl|cases h
theorem Uy.one(F:Uy wt S N){m:Stm}(h:bL S.stk=some m)(hs:S.sl=.Um)(hN:N<=900000):Uy wt (one S m).1 2e0:=by
 have g:=F.stm h;have F1:=F.more 6e1;have ab1:∀ {st:Stk},Uy wt {S with stk:=st} 2e0->Uy wt {S with stk:=st} 2e0:=fun z=>z;have pass:∀ {S':Pu},Uy wt S' 2e0->S'.sl=.Um->S'.stk=S.stk->Uy wt S'.pass 2e0:=fun {S'} z a b =>
  {z with sk:=(by have:=z.sk;rw[b] at this;show xQ wt (fO S'.stk);rw[b];exact this.pass h),sl:=⟨fun k e=>2e4,fun k e=>2e4⟩}
 have enter:∀(c:Nat) (bb:List Stm),AV wt bb->oE bb+1<=m.dp->Uy wt (S.enter c bb) 2e0:=fun c bb hg hd =>
  {F1 with sk:=F.sk.enter h hg hd,sl:=⟨fun k e=>1e4,fun k e=>1e4⟩}
 by_cases hB:m.isB=true
 ·simp only[Internal.one,if_pos hB];cases m with
  | UG s b =>
   simp only[rP];split
   ·exact pass F1 hs rfl
   ·exact enter 0 b g.2 (by simp[Stm.dp])
  | iff s b o =>
   simp only[rP];split
   ·exact enter 1 o g.2.2 5e4
   ·exact enter 0 b g.2.1 5e4
  | _=>cases hB
 ·simp only[Internal.one,if_neg hB];have D:=F.bT h hs hN;split
  ·next z=>exact pass D (nB z) (l7 S m)
  ·exact D
def jU{m:Stm}(h:m.isB=false):one S m=(if (bT S m).1.sl.isN=true then (bT S m).1.pass else (bT S m).1,(bT S m).2):=by simp[one,h]
def BN{m:Stm}(h:m.isB=true):one S m=(rP S m,[]):=by simp[one,h]
def kT:List.lookup (Str.ofString "set") [((Str.ofString "set":Str),s0),((Str.ofString "order":Str),s1),((Str.ofString "timer":Str),s2),((Str.ofString "child":Str),s3),((Str.ofString "send":Str),s4),((Str.ofString "drop":Str),s5),((Str.ofString "wait":Str),s6),((Str.ofString "hear":Str),s7),((Str.ofString "end":Str),s8)]=some s0:=by rw[Lx]
def g8:List.lookup (Str.ofString "order") [((Str.ofString "set":Str),s0),((Str.ofString "order":Str),s1),((Str.ofString "timer":Str),s2),((Str.ofString "child":Str),s3),((Str.ofString "send":Str),s4),((Str.ofString "drop":Str),s5),((Str.ofString "wait":Str),s6),((Str.ofString "hear":Str),s7),((Str.ofString "end":Str),s8)]=some s1:=by rw[lT,Lx]
def g9:List.lookup (Str.ofString "timer") [((Str.ofString "set":Str),s0),((Str.ofString "order":Str),s1),((Str.ofString "timer":Str),s2),((Str.ofString "child":Str),s3),((Str.ofString "send":Str),s4),((Str.ofString "drop":Str),s5),((Str.ofString "wait":Str),s6),((Str.ofString "hear":Str),s7),((Str.ofString "end":Str),s8)]=some s2:=by rw[lT,lT,Lx]
def g0:List.lookup (Str.ofString "child") [((Str.ofString "set":Str),s0),((Str.ofString "order":Str),s1),((Str.ofString "timer":Str),s2),((Str.ofString "child":Str),s3),((Str.ofString "send":Str),s4),((Str.ofString "drop":Str),s5),((Str.ofString "wait":Str),s6),((Str.ofString "hear":Str),s7),((Str.ofString "end":Str),s8)]=some s3:=by rw[lT,lT,lT,Lx]
def iR:List.lookup (Str.ofString "send") [((Str.ofString "set":Str),s0),((Str.ofString "order":Str),s1),((Str.ofString "timer":Str),s2),((Str.ofString "child":Str),s3),((Str.ofString "send":Str),s4),((Str.ofString "drop":Str),s5),((Str.ofString "wait":Str),s6),((Str.ofString "hear":Str),s7),((Str.ofString "end":Str),s8)]=some s4:=by rw[lT,lT,lT,lT,Lx]
def iP:List.lookup (Str.ofString "drop") [((Str.ofString "set":Str),s0),((Str.ofString "order":Str),s1),((Str.ofString "timer":Str),s2),((Str.ofString "child":Str),s3),((Str.ofString "send":Str),s4),((Str.ofString "drop":Str),s5),((Str.ofString "wait":Str),s6),((Str.ofString "hear":Str),s7),((Str.ofString "end":Str),s8)]=some s5:=by rw[lT,lT,lT,lT,lT,Lx]
def iS:List.lookup (Str.ofString "wait") [((Str.ofString "set":Str),s0),((Str.ofString "order":Str),s1),((Str.ofString "timer":Str),s2),((Str.ofString "child":Str),s3),((Str.ofString "send":Str),s4),((Str.ofString "drop":Str),s5),((Str.ofString "wait":Str),s6),((Str.ofString "hear":Str),s7),((Str.ofString "end":Str),s8)]=some s6:=by rw[lT,lT,lT,lT,lT,lT,Lx]
def iQ:List.lookup (Str.ofString "hear") [((Str.ofString "set":Str),s0),((Str.ofString "order":Str),s1),((Str.ofString "timer":Str),s2),((Str.ofString "child":Str),s3),((Str.ofString "send":Str),s4),((Str.ofString "drop":Str),s5),((Str.ofString "wait":Str),s6),((Str.ofString "hear":Str),s7),((Str.ofString "end":Str),s8)]=some s7:=by rw[lT,lT,lT,lT,lT,lT,lT,Lx]
def kS:List.lookup (Str.ofString "end") [((Str.ofString "set":Str),s0),((Str.ofString "order":Str),s1),((Str.ofString "timer":Str),s2),((Str.ofString "child":Str),s3),((Str.ofString "send":Str),s4),((Str.ofString "drop":Str),s5),((Str.ofString "wait":Str),s6),((Str.ofString "hear":Str),s7),((Str.ofString "end":Str),s8)]=some s8:=by rw[lT,lT,lT,lT,lT,lT,lT,lT,Lx]
def deeds9{σ:Str->Sp->Prop}{y:Str}{sp:Sp}(h:List.lookup y [((Str.ofString "set":Str),s0),((Str.ofString "order":Str),s1),((Str.ofString "timer":Str),s2),((Str.ofString "child":Str),s3),((Str.ofString "send":Str),s4),((Str.ofString "drop":Str),s5),((Str.ofString "wait":Str),s6),((Str.ofString "hear":Str),s7),((Str.ofString "end":Str),s8)]=some sp)(z0:σ "set" s0)(z1:σ "order" s1)(z2:σ "timer" s2)(z3:σ "child" s3)(z4:σ "send" s4)(z5:σ "drop" s5)(z6:σ "wait" s6)(z7:σ "hear" s7)(z8:σ "end" s8):σ y sp:=by
 rcases J7 h with⟨rfl,rfl⟩|h
 ·exact z0
 rcases J7 h with⟨rfl,rfl⟩|h
 ·exact z1
 rcases J7 h with⟨rfl,rfl⟩|h
 ·exact z2
 rcases J7 h with⟨rfl,rfl⟩|h
 ·exact z3
 rcases J7 h with⟨rfl,rfl⟩|h
 ·exact z4
 rcases J7 h with⟨rfl,rfl⟩|h
 ·exact z5
 rcases J7 h with⟨rfl,rfl⟩|h
 ·exact z6
 rcases J7 h with⟨rfl,rfl⟩|h
 ·exact z7
 rcases J7 h with⟨rfl,rfl⟩|h
 ·exact z8
 cases h
def fT(h:bL S.bD.stk=none)(n:Nat):dX n S=S.bD.ends none:=by
 cases n<;>simp only[dX,h]
def j8{m:Stm}(h:bL S.bD.stk=some m):dX 0 S=S.bD.pU:=by simp only[dX,h]
def oW{m:Stm}(h:bL S.bD.stk=some m)(z:(one S.bD m).1.sl.isN=true)(n:Nat):dX 6e0 S=((dX n (one S.bD m).1).1,(one S.bD m).2++(dX n (one S.bD m).1).2):=by simp only[dX,h,z,Γ1]
def j7{m:Stm}(h:bL S.bD.stk=some m)(z:(one S.bD m).1.sl.isN=false)(n:Nat):dX 6e0 S=one S.bD m:=by simp only[dX,h,z,Β5,ϙ]
def HA(S:Pu)(m:Stm):(bT S m).2.length<=1:=by
 cases m<;>simp only[bT,Pu.ends,Ζ,ϕ,Α2,Θ,Γ2]
 ·split
  ·split<;>simp
  ·simp
 ·split<;>simp
 ·split<;>simp
def Eo(S:Pu)(m:Stm):(one S m).2.length<=1:=by
 unfold one;split
 ·simp
 ·exact HA S m
inductive Hap where
 | U2 (m:Int) (w:Wo)|don (m t:Int) (w:Wo)|ltr (m:Int) (k:Str) (w:Wo)
variable{hs:List Hap}
def Hap.ini:Hap->List V
 | .U2 m _=>[.str "begin",.int m]
 | .don m t _=>[.str "done",.int m,.int t]
 | .ltr m k _=>[.str "letter",.int m,.str k]
def Hap.w:Hap->Wo
 | .U2 _ w | .don _ _ w | .ltr _ _ w=>w
def Hap.vs(h:Hap):List V:=h.ini++[wv h.w]
variable{vs:List V}
def Hap.m:Hap->Int
 | .U2 m _ | .don m _ _ | .ltr m _ _=>m
variable{m:Stm}
def nL(H:Hp)(v:V)(h:Hap):Prop:=∃ a,v=.ref a/\H a=some (.tup h.vs)
def Pu.over(S:Pu)(h:Hap):Bool:=match S.sl with
 | .new=>(match h with
  | .U2 _ _=>false
  | _=>true)
 | .ended _=>true
 | .worn=>true
 | _=>(match h with
  | .U2 _ _=>true
  | .don _ i _=>!decide (i∈S.pend)
  | .ltr _ _ _=>false)
def fJ(l:List 0e0)(k:Str)(w:Wo):List 0e0:=match aM l k with
 | some ws=>dJ l k (ws++[w])
 | none=>l++[(k,[w])]
def Pu.at'(S:Pu)(m:Int):Pu:={S with nw:=later S.nw m}
def Pu.done(S:Pu)(i:Int)(w:Wo):Pu:={S with pend:=S.pend.filter fun j=>decide (j≠i),ans:=S.ans++[(i,w)]}
def Pu.fS(S:Pu)(i:Int)(w:Wo):Pu×Cmds:=match S.sl with
 | .wait ts=>if i∈ts then (S.done i w).wake 1e2 else (S.done i w,[])
 | _=>(S.done i w,[])
def Pu.fF(S:Pu)(k:Str)(w:Wo):Pu×Cmds:=match S.sl with
 | .Ur k'=>if k'=k then S.wake w else ({S with lt:=fJ S.lt k w},[])
 | _=>({S with lt:=fJ S.lt k w},[])
def Pu.take(S:Pu)(h:Hap):Pu×Cmds:=if S.over h=true then (S,[]) else match h with
 | .U2 m w=>dX 300 {S with nw:=later S.nw m,ar:=w,sl:=.Um}
 | .don m i w=>(S.at' m).fS i w
 | .ltr m k w=>(S.at' m).fF k w
def fI(b:List Stm):Pu:=⟨[(0,b,0)],.new,none,0,[],0,[],[],[]⟩
inductive JI(C:Cl)(vs:List V)(H:Hp)(Q:VK)(E:XK):Prop
 | mk (R:Rn) (as:List Addr) (sl:V) (S:Pu) (v:V) (h:Hap) (_:vs=[.ref R.x,v]) (_:bC C H R as sl S) (_:S.sl.isN=false) (_:nL H v h) (_:∀ H',Kp [] H H'->Q (.bl (S.over h)) H'):JI C vs H Q E
inductive ES(C:Cl)(wt:Bool)(vs:List V)(H:Hp)(Q:VK)(E:XK):Prop
 | mk (R:Rn) (as:List Addr) (sl:V) (S:Pu) (w:Wo) (N:Nat) (_:vs=[.ref R.x,wv w]) (_:bC C H R as sl S) (_:Uy wt S N) (_:N<=700000) (_:eI w) (_:((∃ k,S.sl=.Ur k)\/∃ ts,S.sl=.wait ts)) (_:Told C R as as H Q (S.wake w)):ES C wt vs H Q E
inductive EN(C:Cl)(wt:Bool)(vs:List V)(H:Hp)(Q:VK)(E:XK):Prop
 | mk (R:Rn) (as:List Addr) (sl:V) (S:Pu) (i:Int) (w:Wo) (N:Nat) (_:vs=[.ref R.x,.int i,wv w]) (_:bC C H R as sl S) (_:Uy wt S N) (_:N<=600000) (_:eI w) (_:i∈S.pend) (_:S.sl.isN=false) (_:Told C R as as H Q (S.fS i w)):EN C wt vs H Q E
def Mm(C:Cl)(R:Rn)(as UM:List Addr)(H:Hp)(Q:VK)(z:Pu×Cmds):Prop:=∀(sl:V) (c:Addr) (us:List V) (H':Hp),bC C H' R UM sl z.1->H c=none->c∉UM->H' c=some 5e1->jF H' us z.2->Fw R as UM H H'->Q (.ref c) H'
inductive JM(C:Cl)(wt:Bool)(vs:List V)(H:Hp)(Q:VK)(E:XK):Prop
 | mk (R:Rn) (as:List Addr) (sl:V) (S:Pu) (k:Str) (w:Wo) (N:Nat) (_:vs=[.ref R.x,.str k,wv w]) (_:bC C H R as sl S) (_:Uy wt S N) (_:N<=600000) (_:eI w) (_:((∃ k,S.sl=.Ur k)\/∃ ts,S.sl=.wait ts)) (_:∀ UM,Mm C R as UM H Q (S.fF k w)):JM C wt vs H Q E
inductive EO(C:Cl)(wt:Bool)(vs:List V)(H:Hp)(Q:VK)(E:XK):Prop
 | mk (R:Rn) (as:List Addr) (sl:V) (S:Pu) (v:V) (h:Hap) (N:Nat) (_:vs=[.ref R.x,v]) (_:bC C H R as sl S) (_:Uy wt S N) (_:N<=500000) (_:S.sl.isN=false) (_:nL H v h) (_:((0<=h.m/\h.m<=1000000000000)/\eI h.w)) (_:∀ UM,Mm C R as UM H Q (S.take h)):EO C wt vs H Q E
inductive AI(C:Cl)(vs:List V)(H:Hp)(Q:VK)(E:XK):Prop
 | mk (x dx pg:Addr) (us:List V) (b:List Stm) (_:vs=[.ref x,.ref pg]) (_:H x=some 9e2) (_:H pg=some 8e3) (_:bU H us b) (_:∀(R:Rn) (sl:V) (H':Hp),R.x=x->bC C H' R [] sl (fI b)->Kp [x] H H'->(∀ a∈R.cells,a=x\/H a=none)->Q .Um H'):AI C vs H Q E
theorem sR(i:Int)(ts:List Int):oM (.int i) (ts.map V.int)=decide (i∈ts):=by
 rw[Ε5];simp[oM,oS]
def nA(ts:List Int):(ts.map V.int).all fD=true:=by simp[fD]
theorem Lo{K:q0B}{b:Addr}{z x y:Str}(n:Nat)(ha:H a=some (.tup [.str z,.str x]))(hb:H b=some (.tup [.str z,.str y])):xP K H 6e0 a b (decide (x=y)):=by
 have:=xP.tup (K:=K) (H:=H) (n:=n) (e:=fun j=>if j=0 then true else decide (x=y)) (iJ.of ha) (iJ.of hb) fun j u v e1 e2=>by
  rcases j with _|_|j
  ·simp only[Ξ,Ο] at e1 e2;subst e1 e2;have:=J5.flat (K:=K) (H:=H) (n:=n) (x:=.str z) (y:=.str z) rfl rfl
   rwa [show oS (.str z) (.str z)=true by simp[oS]] at this
  ·simp only[List.getElem?_cons_succ,Ξ,Ο] at e1 e2;subst e1 e2;have:=J5.flat (K:=K) (H:=H) (n:=n) (x:=.str x) (y:=.str y) rfl rfl
   rwa [Lj] at this
  ·simp at e1
 rw[show((List.range (min [V.str z,V.str x].length [V.str z,V.str y].length)).all (fun j=>if j=0 then true else decide (x=y))&&[V.str z,V.str x].length==[V.str z,V.str y].length)=decide (x=y) by simp[List.range_succ]] at this;exact this
theorem Uy.at'(F:Uy wt S N){m:Int}(h:0<=m/\m<=1000000000000):Uy wt (S.at' m) N :=
 {F with pl:=⟨F.pl.nm,F.pl.ar,F.pl.an⟩,nw:=(by have:=F.nw;show 0<=later S.nw m/\later S.nw m<=1000000000000;unfold later;split<;>omega)}
theorem uX{i:Int}{w:Wo}:∀(l:List 1e0) (x:Wo),fV 4e5 x=fV l x\/fV 4e5 x=w
 | _,none=>.inl (by simp[fV])
 | [],some j=>by
  by_cases h:i=j
  ·exact .inr 0e3
  ·exact .inl 0e3
 | p::r,some j=>by
  by_cases h:p.1=j
  ·exact .inl 0e3
  ·rcases uX (i:=i) (w:=w) r (some j) with z|z
   ·exact .inl 9e4
   ·exact .inr 9e4
def Uy.done(F:Uy wt S N){i:Int}{w:Wo}(hw:eI w):Uy wt (S.done i w) 2e0 :=
 {F.more 6e1 with
  pd:=Χ yN (Ε7 F.pd)
  an:=(by have:=F.an;show(S.ans++[(i,w)]).length<=N+1;simp;exact this)
  pl:=⟨F.pl.nm,F.pl.ar,fun x=>(by
   show eI (fV (S.ans++[(i,w)]) x);rcases uX (i:=i) (w:=w) S.ans x with z|z
   ·rw[z];exact F.pl.an x
   ·rw[z];exact hw)⟩}
theorem u7{k:Str}{ws:List Wo}:∀(l:List 0e0) (j:Str) (vs:List Wo),aM (l++[(k,ws)]) j=some vs->(j=k/\vs=ws)\/aM l j=some vs
 | [],j,vs,h=>by
  rw[Α4,aM] at h;by_cases e:k=j
  ·rw[if_pos e] at h;cases h;exact .inl ⟨e.symm,rfl⟩
  ·rw[if_neg e] at h;cases h
 | p::r,j,vs,h=>by
  rw[ϐ,aM] at h;by_cases e:p.1=j
  ·rw[if_pos e] at h;exact .inr (by rw[aM,if_pos e];exact h)
  ·rw[if_neg e] at h;rcases u7 r j vs h with z|z
   ·exact .inl z
   ·exact .inr (by rw[aM,if_neg e];exact z)
theorem Uy.fJ(F:Uy wt S N){w:Wo}(hw:eI w):Uy wt {S with lt:=fJ S.lt k w} 2e0:=by
 have F1:=F.more 6e1;unfold Internal.fJ;cases e:aM S.lt k with
 | some ws =>
  have hl:=F.lw k ws e;exact {F1 with
   lt:=(by have:=F.lt;show(dJ S.lt k (ws++[w])).length<=N+1;rw[mQ];omega)
   lw:=fun j vs h=>by
    rcases qM S.lt k _ j vs h with⟨_,rfl⟩|z
    ·exact⟨by have:=hl.1;simp;exact this,fun u hu=>by
      rcases Κ.mp hu with hu|hu
      ·exact hl.2 u hu
      ·rw[show u=w by simpa using hu];exact hw⟩
    ·exact F1.lw j vs z}
 | none =>
  exact {F1 with
   lt:=(by have:=F.lt;show(S.lt++[(k,[w])]).length<=N+1;simp;exact this)
   lw:=fun j vs h=>by
    rcases u7 S.lt j vs h with⟨_,rfl⟩|z
    ·exact⟨by simp,fun u hu=>by rw[show u=w by simpa using hu];exact hw⟩
    ·exact F1.lw j vs z}
theorem AD{k:Str}{a b:List Wo}:∀ {l:List 0e0},aM l k=none->dJ (l++[(k,a)]) k b=l++[(k,b)]
 | [],_=>by simp[dJ]
 | p::r,h=>by
  rw[aM] at h;by_cases e:p.1=k
  ·rw[if_pos e] at h;cases h
  ·rw[if_neg e] at h;rw[ϐ,dJ,if_neg e,AD h];rfl
theorem Uy.wake(F:Uy wt S N)(h:bL S.stk=some m){w:Wo}(hw:eI w)(n:Str):Uy wt {S with nm:=bZ S.nm n w,stk:=fO S.stk,sl:=.Um} 2e0 :=
 {F.more 6e1 with
  nm:=(by have:=BY S.nm n w;have:=F.nm;show(bZ S.nm n w).length<=N+1;omega)
  pl:=(IU F.pl n hw)
  sk:=F.sk.pass h
  sl:=⟨fun k e=>5e0,fun k e=>5e0⟩}
def Th{x:Addr}{p:Addr}{u:HO}(k:Kp [x] H G)(gx:G x=some u)(hp:G p=none):H p=none:=by
 cases z:H p with
 | none=>rfl
 | some o =>
  by_cases hz:p=x
  ·subst hz;rw[gx] at hp;cases hp
  ·rw[k.at1 z hz] at hp;cases hp
def LA{pg:Addr}{Q:Addr->Hp->Prop}(ep:H1 pg=some 8e3)(hs:bU H1 us b)(q:∀ x wx lb ln H',Kp [] H1 H'->H1 x=none->H1 lb=none->H1 ln=none->jH C H' x wx lb ln [(0,b,0)]->Q x H') : ∀ x dx,H1 x=none->H1 dx=none->dx≠x->xA C [.ref x,.ref pg] 7e1 5e2 E:=fun x dx hx ZL ne=>by
 have K1:Kp [] H1 7e1:=(Kp.new ZL).trans 4e2;exact⟨x,dx,pg,us,b,rfl,aA,K1.at ep,hs.kp 9e5,fun lb ln H' f1 f2 W K=>⟨rfl,q x dx lb ln H' 3e2 hx 6e5 5e5 W⟩⟩
def Ry{Q:Addr->Hp->Prop}(q:∀ x tx dp da H',Kp [] H1 H'->H1 x=none->H1 dp=none->H1 da=none->iO C H' x tx dp da 0 [] []->Q x H') : ∀ x dx,H1 x=none->H1 dx=none->dx≠x->w9 C [.ref x] 7e1 5e2 E:=fun x dx hx ZL ne=>by
 have K1:Kp [] H1 7e1:=(Kp.new ZL).trans 4e2;exact⟨x,dx,rfl,aA,fun dp da H' f1 f2 T K=>⟨rfl,q x dx dp da H' 3e2 hx 6e5 5e5 T⟩⟩
def Pa{C:Cl}{pg:Addr}{Q:Addr->Hp->Prop}(ep:H1 pg=some 8e3)(hs:bU H1 us b)(q:∀(R:Rn) (sl:V) H',bC C H' R [] sl (fI b)->Kp [] H1 H'->(∀ a∈R.cells,H1 a=none)->Q R.x H') : ∀ x dx,H1 x=none->H1 dx=none->dx≠x->AI C [.ref x,.ref pg] (Ul 0e4 x 9e2) 5e2 E:=fun x dx hx ZL ne=>by
 have K1:Kp [] H1 (Ul 0e4 x 9e2):=(Kp.new ZL).trans 4e2;refine⟨x,dx,pg,us,b,rfl,aA,K1.at ep,hs.kp 9e5,fun R sl H' e1 A K M=>⟨rfl,?_⟩⟩;subst e1;exact q R sl H' A 3e2 fun a ha=>by
  rcases M a ha with rfl|z
  ·exact hx
  ·exact dD (dD z)
inductive zM(C:Addr)(vs:List V)(H:Hp)(Q:VK)(E:XK):Prop
 | mk (tk tx dp da l:Addr) (made:Nat) (pend:List Int) (ans:List 1e0) (ws:List Wo) (_:vs=[.ref tk,.ref l]) (_:iO C H tk tx dp da made pend ans) (_:H l=some (.lst 0e2)) (_:ws.length<=4) (_:ans.length<=1000000) (_:∀ H',Kp [] H H'->Q (wv 8e5) H'):zM C vs H Q E
def Ik(ans:List 1e0)(w:Wo):Bool:=ans.any fun p=>decide (w=some p.1)
def bY(ans:List 1e0):List Wo->List Int
 | []=>[]
 | none::r=>bY ans r
 | some i::r=>if Ik ans 1e2=true then i::bY ans r else bY ans r
def Kb(ans:List 1e0)(w:Wo):(aX (hW ans) (wk w)).isSome=Ik ans w:=by
 induction ans with
 | nil=>simp[hW,xK,Ik]
 | cons p r ih =>
  have e:hW (p::r)=(Key.inl p.1,wv p.2)::hW r:=rfl;rw[e];by_cases h:w=some p.1
  ·subst h;rw[show wk (some p.1)=Key.inl p.1 from rfl,cN rfl];simp[Ik]
  ·rw[cA (fun z=>h (by cases w with
    | none=>cases z
    | some j=>cases z;rfl)),ih]
   simp[Ik,h]
def Il(ans:List 1e0):Ik ans none=false:=by simp[Ik]
theorem qE(ans:List 1e0):∀(l r:List Wo),bY ans (l++r)=bY ans l++bY ans r
 | [],r=>rfl
 | none::l,r=>by simp only[ϐ,bY,qE ans l r]
 | some i::l,r=>by
  simp only[ϐ,bY,qE ans l r];split<;>simp
def CO{w:Wo}(e:ws[i]?=some w):(bY ans 0e5).map V.int=if Ik ans w=true then (bY ans 9e1).map V.int++[wv w] else (bY ans 9e1).map V.int:=by
 rw[Α9,e];simp only[Α1,qE,Α7];cases w with
 | none=>rw[Il];simp[bY]
 | some j =>
  simp only[bY];split<;>simp[wv]
theorem mZ(ans:List 1e0):∀ ws:List Wo,(bY ans ws).length<=ws.length
 | []=>Θ _
 | none::r=>by have:=mZ ans r;simp only[bY,Ζ];omega
 | some i::r=>by
  have:=mZ ans r;simp only[bY,Ζ];split
  ·simp only[Ζ];omega
  ·omega
theorem kD{ans:List 1e0}{i:Int}:∀ {ws:List Wo},i∈bY ans ws↔Ik ans 1e2=true/\some i∈ws
 | []=>by simp[bY]
 | none::r=>by simp[bY,kD (ws:=r)]
 | some j::r=>by
  have ih:=kD (ans:=ans) (i:=i) (ws:=r);simp only[bY];split
  ·next h =>
   simp only[Α,ih,Ο];constructor
   ·rintro(rfl|⟨a,b⟩)
    ·exact⟨h,.inl rfl⟩
    ·exact⟨a,.inr b⟩
   ·rintro⟨a,b|b⟩
    ·exact .inl b
    ·exact .inr ⟨a,b⟩
  ·next h =>
   rw[ih];simp only[Α,Ο];constructor
   ·rintro⟨a,b⟩;exact⟨a,.inr b⟩
   ·rintro⟨a,b|b⟩
    ·subst b;exact absurd a h
    ·exact⟨a,b⟩
theorem Bp(i:Int):∀ ns:List Int,oM (.int i) (ns.map V.int)=decide (i∈ns)
 | []=>by simp[oM]
 | n::r=>by
  have ih:=Bp i r;simp only[oM,ϔ,List.any_cons] at ih ⊢;rw[ih];by_cases h:n=i
  ·subst h;simp[oS]
  ·have:oS (V.int n) (V.int i)=false:=by simp[oS,h]
   rw[this];simp[Ne.symm h]
theorem uJ{α:Type}{p q:α->Bool}:∀ {l:List α},(∀ x∈l,p x=q x)->l.find? p=l.find? q
 | [],_=>rfl
 | x::l,h=>by
  simp only[List.find?,h x 3e0,uJ fun y hy=>h y (ϑ _ hy)]
theorem uK(ans:List 1e0)(ws:List Wo):bB ans ws=((ans.map (·.1)).filter fun i=>decide 8e1).head?:=by
 unfold bB;rw[List.head?_filter,List.find?_map]
 congr 1
 refine uJ fun p hp=>?_;have:Ik ans (some p.1)=true:=by simp only[Ik,List.any_eq_true];exact⟨p,hp,by simp⟩
 simp only[Function.comp,kD,this,true_and]
theorem vU{val:Nat->Int}{j:Int}:∀ {n:Nat},j∈once val n↔∃ k,k < n/\val k=j
 | 0=>by simp[once]
 | n+1=>by
  have ih:=vU (val:=val) (j:=j) (n:=n);have up:(∃ k,k < n+1/\val k=j)↔(∃ k,k < n/\val k=j)\/val n=j:=by
   constructor
   ·rintro⟨k,hk,e⟩;by_cases h:k=n
    ·subst h;exact .inr e
    ·exact .inl ⟨k,by omega,e⟩
   ·rintro(⟨k,hk,e⟩|e)
    ·exact⟨k,by omega,e⟩
    ·exact⟨n,by omega,e⟩
  rw[up,once];split
  ·next h =>
   rw[ih];constructor
   ·exact .inl
   ·rintro(z|z)
    ·exact z
    ·subst z;exact vU.mp h
  ·simp only[Κ,List.mem_singleton,ih];constructor
   ·rintro(z|z)
    ·exact .inl z
    ·exact .inr z.symm
   ·rintro(z|z)
    ·exact .inl z
    ·exact .inr z.symm
def nD:j∈lH ns↔j∈ns:=by
 unfold lH;rw[vU,List.mem_iff_getElem];constructor
 ·rintro⟨k,hk,e⟩;exact⟨k,hk,by rw[Ε8,Τ hk] at e;exact e⟩
 ·rintro⟨k,hk,e⟩;exact⟨k,hk,by rw[Ε8,Τ hk];exact e⟩
def IZ(h:(lH ns).length < 2){i:Int}(hi:i∈ns)(hj:j∈ns):i=j:=by
 have a:=nD.mpr hi;have b:=nD.mpr hj
 match e:lH ns,h with
 | [],_=>rw[e] at a;cases a
 | [x],_ =>
  rw[e] at a b;rw[List.mem_singleton.mp a,List.mem_singleton.mp b]
theorem Fs(h:(lH 4e3).length < 2):bB ans ws=(bY ans ws).head?:=by
 rw[uK];cases e:bY ans ws with
 | nil=>simp
 | cons i r =>
  have hi:i∈bY ans ws:=by rw[e];simp
  have he:∀ j∈bY ans ws,j=i:=fun j hj=>IZ h hj hi;obtain⟨p,hp,ep⟩:=List.any_eq_true.mp (kD.mp hi).1;have ep:i=p.1:=by simpa using ep
  show _=some i;have hm:i∈((ans.map (·.1)).filter fun j=>decide 5e3):=Α6.mpr ⟨Β0.mpr ⟨p,hp,ep.symm⟩,by simp⟩;cases z:((ans.map (·.1)).filter fun j=>decide 5e3) with
  | nil=>rw[z] at hm;cases hm
  | cons x xs =>
   have hx:x∈((ans.map (·.1)).filter fun j=>decide 5e3):=by rw[z];simp
   have:=he x (by rw[e];simpa using(Α6.mp hx).2);rw[this];rfl
theorem CU(h:¬ (lH 4e3).length < 2):∃ i r,((ans.map (·.1)).filter fun i=>decide 8e1)=i::r/\bB ans ws=some i:=by
 have hf:=uK ans ws;cases z:((ans.map (·.1)).filter fun i=>decide 8e1) with
 | cons i r=>rw[z] at hf;exact⟨i,r,rfl,hf⟩
 | nil =>
  exfalso;cases e:lH 4e3 with
  | nil=>rw[e] at h;exact h 3e0
  | cons i r =>
   have hi:i∈bY ans ws:=nD.mp 1e5;obtain⟨p,hp,ep⟩:=List.any_eq_true.mp (kD.mp hi).1;have ep:i=p.1:=by simpa using ep
   have hm:i∈((ans.map (·.1)).filter fun i=>decide 8e1):=Α6.mpr ⟨Β0.mpr ⟨p,hp,ep.symm⟩,by simpa using hi⟩;rw[z] at hm;cases hm
def gK.atW(h:gK H vs ss):∀ {i:Nat} {x:V},vs[i]?=some x->∃ y,ss[i]?=some y/\dH H x y:=by
 induction h with
 | nil=>intro i x e;simp at e
 | cons h _ ih =>
  intro i x e;cases i with
  | zero=>simp only[Ξ,Ο] at e;subst e;exact⟨_,rfl,h⟩
  | succ i=>exact ih 7e2
def gK.OY(h:gK H vs ss):vs.length=ss.length:=by
 induction h with
 | nil=>rfl
 | cons _ _ ih=>simp[ih]
def dO(pend:List Int):List Wo->List Int
 | []=>[]
 | none::r=>dO pend r
 | some i::r=>if i∈pend then i::dO pend r else dO pend r
theorem q9(pend:List Int):∀(l r:List Wo),dO pend (l++r)=dO pend l++dO pend r
 | [],r=>rfl
 | none::l,r=>by simp only[ϐ,dO,q9 pend l r]
 | some i::l,r=>by
  simp only[ϐ,dO,q9 pend l r];split<;>simp
theorem Dp{w:Wo}(e:ws[i]?=some w):(dO pend 0e5).map V.int=if decide (∃ j∈pend,w=some j)=true then (dO pend 9e1).map V.int++[wv w] else (dO pend 9e1).map V.int:=by
 rw[Α9,e];simp only[Α1,q9,Α7];cases w with
 | none=>simp[dO]
 | some j =>
  by_cases h:j∈pend
  ·simp[dO,h,wv]
  ·simp[dO,h]
theorem kG(pend:List Int):∀ ws:List Wo,(dO pend ws).length<=ws.length
 | []=>Θ _
 | none::r=>by have:=kG pend r;simp only[dO,Ζ];omega
 | some i::r=>by
  have:=kG pend r;simp only[dO,Ζ];split
  ·simp only[Ζ];omega
  ·omega
theorem vB{i j:Int}:∀ {l:List Int},j∈uS i l↔j=i\/j∈l
 | []=>by simp[uS]
 | k::r=>by
  have ih:=vB (i:=i) (j:=j) (l:=r);simp only[uS];split
  ·simp
  ·split
   ·next h =>
    subst h;simp only[Α];constructor
    ·exact .inr
    ·rintro(z|z)
     ·exact .inl z
     ·exact z
   ·simp only[Α,ih];constructor
    ·rintro(z|z|z)
     ·exact .inr (.inl z)
     ·exact .inl z
     ·exact .inr (.inr z)
    ·rintro(z|z|z)
     ·exact .inr (.inl z)
     ·exact .inl z
     ·exact .inr (.inr z)
theorem Bq{i:Int}:∀ {l:List Int},l.Pairwise (· < ·)->(uS i l).Pairwise (· < ·)
 | [],_=>by simp[uS]
 | k::r,h=>by
  obtain⟨h1,h2⟩:=Γ0.mp h;simp only[uS];split
  ·next c=>exact Γ0.mpr ⟨fun x hx=>by
    rcases Α.mp hx with rfl|hx
    ·exact c
    ·have:=h1 x hx;omega,h⟩
  ·split
   ·exact h
   ·exact Γ0.mpr ⟨fun x hx=>by
     rcases vB.mp hx with rfl|hx
     ·omega
     ·exact h1 x hx,Bq h2⟩
theorem gN(pend:List Int):∀ ws:List Wo,(bN pend ws).Pairwise (· < ·)
 | []=>.nil
 | none::r=>gN pend r
 | some i::r=>by
  simp only[bN];split
  ·exact Bq (gN pend r)
  ·exact gN pend r
theorem kX{pend:List Int}{j:Int}:∀ {ws:List Wo},j∈bN pend ws↔j∈dO pend ws
 | []=>by simp[bN,dO]
 | none::r=>by simp only[bN,dO];exact kX
 | some i::r=>by
  have ih:=kX (pend:=pend) (j:=j) (ws:=r);simp only[bN,dO];split
  ·rw[vB,ih,Α]
  ·exact ih
theorem vV(val:Nat->Int):∀ n,(once val n).Nodup
 | 0=>by simp[once]
 | n+1=>by
  have ih:=vV val n;rw[once];split
  ·exact ih
  ·next h=>exact Ϝ.mpr ⟨ih,by simp,fun a ha b hb=>by
    rw[List.mem_singleton.mp hb];exact fun z=>h (z▸ha)⟩
theorem BR(hp:ns.Perm (lH (dO pend ws)))(hs:ns.Pairwise (·<=·)):ns=bN pend ws:=by
 refine mR (hp.trans ?_) hs (gN pend ws);refine(List.perm_ext_iff_of_nodup (vV _ _) ((gN pend ws).imp fun h=>by omega)).mpr fun j=>?_;show j∈lH _↔_;rw[nD,kX]
inductive eL(H:Hp):List V->List 4e0->Prop
 | nil:eL H [] []
 | cons {a:Addr} {x y:V} {us:List V} {ps:List 4e0}:H a=some 3e3->eL H us ps->eL H 7e5 ((x,y)::ps)
def eL.kt{ps:List 4e0}(h:eL H us ps)(k:aD H H'):eL H' us ps:=by
 induction h with
 | nil=>exact .nil
 | cons a _ ih=>exact .cons (k _ _ a) ih
def eL.snoc{ps:List 4e0}{x:V}(h:eL H us ps)(e:H a=some 3e3):eL H 2e5 (ps++[(x,y)]):=by
 induction h with
 | nil=>exact .cons e .nil
 | cons b _ ih=>exact .cons b ih
def eL.len{ps:List 4e0}(h:eL H us ps):us.length=ps.length:=by
 induction h with
 | nil=>rfl
 | cons _ _ ih=>simp[ih]
theorem eL.of{H:Hp}:∀ {as:List Addr} {ps:List 4e0},as.length=ps.length->(∀(j:Nat) (a:Addr) (x y:V),as[j]?=some a->ps[j]?=some (x,y)->H a=some 3e3)->eL H (as.map V.ref) ps
 | [],[],_,_=>.nil
 | [],_::_,h,_=>by simp at h
 | _::_,[],h,_=>by simp at h
 | a::as,(x,y)::ps,h,g=>.cons (g 0 a x y rfl rfl) (eL.of (by simpa using h) fun j b x y e1 e2=>g (j+1) b x y (by simpa using e1) (by simpa using e2))
inductive gX(H:Hp):List V->List 0e0->Prop
 | nil:gX H [] []
 | cons {a b:Addr} {k:Str} {ws:List Wo} {us:List V} {ps:List 0e0}:H a=some 6e4->H b=some (.tup 0e2)->gX H us ps->gX H 7e5 ((k,ws)::ps)
def gX.kt(h:gX H us ps)(k:aD H H'):gX H' us ps:=by
 induction h with
 | nil=>exact .nil
 | cons a b _ ih=>exact .cons (k _ _ a) (k _ _ b) ih
def gX.snoc{b:Addr}(h:gX H us ps)(e:H a=some 6e4)(f:H b=some (.tup 0e2)):gX H 2e5 (ps++[(k,ws)]):=by
 induction h with
 | nil=>exact .cons e f .nil
 | cons c d _ ih=>exact .cons c d ih
def gX.len(h:gX H us ps):us.length=ps.length:=by
 induction h with
 | nil=>rfl
 | cons _ _ _ ih=>simp[ih]
def dY(nm:List 4e1):List Str->List 4e0
 | []=>[]
 | n::r=>if iZ nm n=none then dY nm r else (.str n,wv (iZ nm n))::dY nm r
theorem qS(nm:List 4e1):∀ l r:List Str,dY nm (l++r)=dY nm l++dY nm r
 | [],_=>rfl
 | n::l,r=>by
  simp only[ϐ,dY,qS nm l r];split<;>rfl
def dN(lt:List 0e0):List Str->List 0e0
 | []=>[]
 | k::r=>if (aM lt k).getD []=[] then dN lt r else (k,(aM lt k).getD [])::dN lt r
theorem qN(lt:List 0e0):∀ l r:List Str,dN lt (l++r)=dN lt l++dN lt r
 | [],_=>rfl
 | n::l,r=>by
  simp only[ϐ,dN,qN lt l r];split<;>rfl
theorem iX(nm:List 4e1):∀ l:List Str,(dY nm l).length<=l.length
 | []=>Θ _
 | n::l=>by
  have:=iX nm l;simp only[dY];split<;>simp only[Ζ]<;>omega
theorem iW(lt:List 0e0):∀ l:List Str,(dN lt l).length<=l.length
 | []=>Θ _
 | n::l=>by
  have:=iW lt l;simp only[dN];split<;>simp only[Ζ]<;>omega
def Pu.nmS(S:Pu):List 4e0:=dY S.nm (srt (S.nm.map (·.1)))
def Pu.ltS(S:Pu):List 0e0:=dN S.lt (srt (S.lt.map (·.1)))
def Pu.anS(S:Pu):List 4e0:=S.ans.map fun p=>(.int p.1,wv p.2)
def Slp.jK:Slp->Bool
 | .wait _=>true
 | .Ur _=>true
 | _=>false
def pY(H:Hp)(v:V)(S:Pu):Prop:=if S.sl.jK=true then ∃(p pl pn po pa pt:Addr) (sl:V) (un ua ut:List V),v=.ref p/\H p=some (.tup [sl,.ref pl,wv S.ar,.int S.nw,.ref pn,.int S.made,.ref po,.ref pa,.ref pt])/\iY H sl S.sl /\
    H pl=some (.tup ((bR S.stk).map V.int))/\H pn=some (.tup un)/\eL H un S.nmS/\H po=some (.tup 8e2)/\H pa=some (.tup ua)/\eL H ua S.anS/\H pt=some (.tup ut)/\gX H ut S.ltS
  else iY H v S.sl
theorem AM:∀ nm:List 4e1,iU (fE nm)=some (nm.map (·.1))
 | []=>rfl
 | p::r=>by
  have ih:=AM r;show(iU (fE r)).map (p.1::·)=_;rw[ih];rfl
def EU{as:List Addr}(h:fX H kvs as lt):iU kvs=some (lt.map (·.1)):=by
 induction h with
 | nil=>rfl
 | @cons a k ws kvs as lt _ _ ih =>
  show(iU kvs).map (k::·)=_;rw[ih];rfl
theorem Dd:∀ {nm:List 4e1} {n:Str},n∈nm.map (·.1)->aX (fE nm) (.inr n)=some (wv (iZ nm n))
 | [],n,h=>by simp at h
 | p::r,n,h=>by
  show aX ((Key.inr p.1,wv p.2)::fE r) (.inr n)=_;by_cases e:p.1=n
  ·rw[cN (by rw[e]),iZ,if_pos e]
  ·rw[cA (fun z=>e 2e1),iZ,if_neg e];refine Dd ?_;rcases Α.mp h with h|h
   ·exact absurd h.symm e
   ·exact h
def fX.inS{as:List Addr}(h:fX H kvs as lt)(hk:k∈lt.map (·.1)):∃ a ws,aX kvs 2e2=some 9e3/\aM lt k=some ws/\H a=some (.lst 0e2):=by
 rcases h.look k with⟨_,e⟩|⟨a,ws,x,y,_,u⟩
 ·exfalso;clear h
  induction lt with
  | nil=>simp at hk
  | cons p r ih =>
   simp only[aM] at e;split at e
   ·cases e
   ·next hp =>
    rcases Α.mp hk with z|z
    ·exact hp z.symm
    ·exact ih z e
 ·exact⟨a,ws,x,y,u⟩
def iY.word{s:Slp}(h:iY H v s)(hn:s.isN=false):∃(p:Addr) (s0:Str) (r0:List V),v=.ref p/\H p=some (.tup (.str s0::r0))/\oM (.str s0) [.str "wait",.str "hear"]=s.jK:=by
 cases s with
 | Um=>cases hn
 | new=>obtain⟨p,rfl,e⟩:=h;exact⟨p,_,_,rfl,e,by simp[oM,oS,cH,Slp.jK]⟩
 | wait ts=>obtain⟨p,p2,rfl,e,_⟩:=h;exact⟨p,_,_,rfl,e,by simp[oM,oS,cH,Slp.jK]⟩
 | Ur k=>obtain⟨p,rfl,e⟩:=h;exact⟨p,_,_,rfl,e,by simp[oM,oS,cH,Slp.jK]⟩
 | ended w=>obtain⟨p,rfl,e⟩:=h;exact⟨p,_,_,rfl,e,by simp[oM,oS,cH,Slp.jK]⟩
 | worn=>obtain⟨p,rfl,e⟩:=h;exact⟨p,_,_,rfl,e,by simp[oM,oS,cH,Slp.jK]⟩
def cQ{c:TT}{t u:TS}{D:Ends}(h:∀ R:St->Hp->Prop,(∀ Z' H',t D Z' H'->R Z' H')->Cs c (fun _=>R) u D Z H):Cs c t u D Z H:=h (t D) fun _ _ z=>z
inductive EL(C:Addr)(vs:List V)(H:Hp)(Q:VK)(E:XK):Prop
 | mk (wk wx lb ln:Addr) (st:Stk) (_:vs=[.ref wk]) (_:jH C H wk wx lb ln st) (_:∀ p,H p=none->Q (.ref p) (Ul H p (.tup ((bR st).map V.int)))):EL C vs H Q E
inductive EM(C:Cl)(vs:List V)(H:Hp)(Q:VK)(E:XK):Prop
 | mk (R:Rn) (as:List Addr) (sl:V) (S:Pu) (_:vs=[.ref R.x]) (_:bC C H R as sl S) (_:S.sl.isN=false) (_:S.pend.length<=1000000) (_:S.nm.length < 64) (_:S.lt.length < 64) (_:S.ans.length<=1000000) (_:(∀ k ws,aM S.lt k=some ws->ws.length<=1000000)) (_:∀(v:V) (H':Hp),pY H' v S->Kp [] H H'->Q v H'):EM C vs H Q E
def Stm.Bt:Stm->Bool
 | .set _ _ | .order _ _ _ | .UA _ _ | .child _ _ _ | .send _ _ _ | .drop _=>true
 | _=>false
theorem Mz{i M:Int}(h:0 < M)(h':M<=2 ^ 62)(j:Int):CMul (i % M) j:=by
 have:=Int.emod_nonneg i (show M≠0 by omega);have:=Int.emod_lt_of_pos i h;exact .inl ⟨by omega,by omega⟩
def ix32:xW 3 2=some 2:=rfl
structure cE(H:Hp)(r:Addr)(n:Nat):Prop where
 ex:∃ c m s:Int,H r=some (.lst [.int c,.int m,.int s])/\0<=s/\s<=n
def cE.kp{r:Addr}{n:Nat}(R:cE H r n)(h:Kp [] H H'):cE H' r n:=by
 obtain⟨c,m,s,e,x⟩:=R;exact⟨c,m,s,h _ _ e 3e0,x⟩
def cE.new{r p:Addr}{n:Nat}(R:cE H r n)(h:H p=none):cE 1e1 r n:=R.kp (Kp.new h)
def cE.none{r p:Addr}{n:Nat}(R:cE H r n)(h:H p=Option.none):p≠r:=by
 obtain⟨c,m,s,e,_⟩:=R;exact(aF e h).symm
def made1{r p:Addr}{n:Nat}(x:Kp [r] 1e1 H')(R:cE H r n)(h:H p=none):H' p=some o:=x.at1 aA (R.none h)
def EG:Sp:=fun vs H Q _=>∃(r:Addr) (m:Int) (n:Nat),vs=[.ref r,.int m]/\0 < m/\m<=10 ^ 45/\cE H r n/\n<=100000/\∀(g:Int) (H':Hp),0<=g->g < m->cE H' r 6e0->Kp [r] H H'->Q (.int g) H'
def LU{r:Addr}{m:Int}:EG [.ref r,.int m] H Q E=(0 < m/\m<=10 ^ 45/\∃ n,cE H r n/\n<=100000/\∀(g:Int) (H':Hp),0<=g->g < m->cE H' r 6e0->Kp [r] H H'->Q (.int g) H') :=
 propext ⟨fun⟨_,_,n,e,a,b,c⟩=>by cases e;exact⟨a,b,n,c⟩,fun⟨a,b,n,c⟩=>⟨_,_,n,rfl,a,b,c⟩⟩
inductive JB(vs:List V)(H:Hp)(Q:VK)(E:XK):Prop
 | mk (z:Int) (k:Nat) (_:vs=[.int z,.int k]) (_:∀ r H',H r=none->Kp [] H H'->cE H' r k->Q (.ref r) H'):JB vs H Q E
def lU:V->Prop
 | .Um=>True
 | .str _=>True
 | .int _=>True
 | _=>False
inductive oN(H:Hp):Nat->V->V->Prop
 | atom {d:Nat} {v:V}:lU v->oN H (d+1) v v
 | tup {d:Nat} {a b:Addr} {xs ys:List V}:H a=some 7e3->H b=some (.tup ys)->xs.length=ys.length->xs.length<=100000->(∀(i:Nat) x y,xs[i]?=some x->ys[i]?=some y->oN H d x y)->oN H (d+1) 9e3 (.ref b)
def oN.kp{u:V}(h:oN H d v u)(k:Kp [] H H'):oN H' d v u:=by
 induction h with
 | atom a=>exact .atom a
 | tup a b c l _ ih=>exact .tup (k.at a) (k.at b) c l ih
inductive EE(d:Nat)(vs:List V)(H:Hp)(Q:VK)(E:XK):Prop
 | mk (v u:V) (d':Nat) (_:vs=[v,u]) (_:d'=d) (_:oN H d' v u) (_:∀ H',Kp [] H H'->Q (.bl true) H'):EE d vs H Q E
def pV(w:Wo):lU (wv w):=by cases w<;>trivial
def Pc{K:q0B}{b:Addr}{n:Nat}(ea:H a=some (.lst []))(eb:H b=some (.lst [])):xP K H 6e0 a b true :=
 .list (n:=n) (xs:=[]) (ys:=[]) (e:=fun _=>true) (eY.of ea) (eY.of eb) rfl (fun j x y h1 _=>by simp at h1)
theorem cE.up{H:Hp}{r:Addr}{n m:Nat}(R:cE H r n)(h:n<=m):cE H r m:=by
 obtain⟨c,f,s,e,x,y⟩:=R;exact⟨c,f,s,e,x,by omega⟩
def cE.tk{r:Addr}{n:Nat}(R:cE H r n)(k:Kp [r] H H'):aD H H':=.of k fun a ha=>by
 obtain⟨c,f,s,e,_⟩:=R;have:a=r:=by simpa using ha
 exact⟨_,this▸e,fun _ h=>by cases h⟩
def bd:Nat->Nat
 | 0=>3
 | d+1=>2 * bd d+3
theorem Na(d:Nat):3<=bd d:=by
 cases d with
 | zero=>exact Θ _
 | succ d=>rw[bd];omega
inductive Cc(vs:List V)(H:Hp)(Q:VK)(E:XK):Prop
 | mk (r:Addr) (n:Nat) (_:vs=[.ref r]) (_:cE H r n) (_:n<=900) (_:∀(w:Wo) (H':Hp),eI w->cE H' r (n+2)->Kp [r] H H'->Q (wv w) H'):Cc vs H Q E
def EF:Sp:=fun vs H Q _=>∃(r:Addr) (n:Nat),vs=[.ref r]/\cE H r n/\n<=900/\∀(x:Str) (H':Hp),cE H' r 6e0->Kp [r] H H'->Q (.str x) H'
def LS{r:Addr}:EF [.ref r] H Q E = ∃ n,cE H r n/\n<=900/\∀(x:Str) (H':Hp),cE H' r 6e0->Kp [r] H H'->Q (.str x) H' :=
 propext ⟨fun⟨_,n,e,c⟩=>by cases e;exact⟨n,c⟩,fun⟨n,c⟩=>⟨_,n,rfl,c⟩⟩
inductive AF(d:Nat)(vs:List V)(H:Hp)(Q:VK)(E:XK):Prop
 | mk (r:Addr) (dp:Int) (n:Nat) (_:vs=[.ref r,.int dp]) (_:1<=dp) (_:dp<=d) (_:cE H r n) (_:n+bd d<=900) (_:∀(v:V) (s:Say) (H':Hp),dH H' v s->s.ok->(s.depth:Int)<=dp->cE H' r (n+bd d)->Kp [r] H H'->Q v H'):AF d vs H Q E
inductive Cb(vs:List V)(H:Hp)(Q:VK)(E:XK):Prop
 | mk (r:Addr) (n:Nat) (_:vs=[.ref r]) (_:cE H r n) (_:n<=100) (_:∀(v:V) (m:Stm) (H':Hp),cG H' v m->m.gd false/\m.Bt=true->Kp [r] H H'->Q v H'):Cb vs H Q E
def sst{a b:String}(h:a≠b):¬ ((Str.ofString a:Str)=Str.ofString b):=fun z=>h 8e4
def Ls{S:List Addr}{p:Addr}{u:HO}(h:H p=none):Kp S H (Ul 1e1 p u):=fun b x e _=>by rw[aE (aF e h),aE (aF e h)];exact e
def OK6:List Str:=["code","at","mode","letters","awaited","outcome"]
inductive gZ(H:Hp):List V->List 1e0->Prop
 | nil:gZ H [] []
 | cons {a:Addr} {i:Int} {w:Wo} {ds:List V} {r:List 1e0}:H a=some 6e2->gZ H ds r->gZ H (.ref a::ds) ((i,w)::r)
def gZ.kt(h:gZ H ds r)(k:aD H H'):gZ H' ds r:=by
 induction h with
 | nil=>exact .nil
 | cons e _ ih=>exact .cons (k _ _ e) ih
def gZ.len(h:gZ H ds r):ds.length=r.length:=by
 induction h with
 | nil=>rfl
 | cons _ _ ih=>simp[ih]
def gZ.snoc{i:Int}{w:Wo}(h:gZ H ds r)(e:H a=some 6e2):gZ H (ds++[.ref a]) (r++[(i,w)]):=by
 induction h with
 | nil=>exact .cons e .nil
 | cons f _ ih=>exact .cons f ih
def gZ.at(h:gZ H ds r):∀ {j:Nat} {v:V},ds[j]?=some v->∃ a i w,v=.ref a/\r[j]?=some (i,w)/\H a=some 6e2:=by
 induction h with
 | nil=>intro j v e;simp at e
 | cons f _ ih =>
  intro j v e;cases j with
  | zero=>simp only[Ξ,Ο] at e;subst e;exact⟨_,_,_,rfl,rfl,f⟩
  | succ j=>simpa using ih 7e2
def gZ.pairs(h:gZ H ds r):sP H ds (hW r):=by
 refine⟨by rw[h.len];simp[hW],fun j v e1=>?_⟩;obtain⟨a,i,w,rfl,e2,e3⟩:=h.at e1;exact⟨a,.inl i,wv w,rfl,e3,by rw[hW,Ψ,e2];rfl⟩
structure cX(H:Hp)(md nd od dd:Addr)(ot:Str->Option V)(S:Pu):Prop where
 hm:∃ kvs,H md=some (.dK kvs)/\A7 ((kvs.length<=50/\∀ k∈OK6,aX kvs 2e2=ot k)) (aX kvs (.inr "names")=some (.ref nd)) (aX kvs (.inr "arg")=some (wv S.ar)) (aX kvs (.inr "now")=some (.int S.nw)) (aX kvs 3e5=some 2e3) (aX kvs (.inr "open")=some (.ref od)) (aX kvs (.inr "done")=some (.ref dd))
 hn:H nd=some (.dK (fE S.nm))
 ho:H od=some (.lst 8e2)
 hd:∃ ds,H dd=some (.lst ds)/\gZ H ds S.ans
 n1:md≠nd
 n2:od≠dd
 asc:S.pend.Pairwise (· < ·)
 lt:∀ i∈S.pend,0<=i/\i < S.made
 uq:(S.ans.map (·.1)).Nodup
 dis:∀ p∈S.ans,p.1∉S.pend/\p.1 < S.made
def cX.kp{md nd od:Addr}(M:cX H md nd od dd ot S)(k:Kp [] H H'):cX H' md nd od dd ot S:=by
 obtain⟨kvs,e,r⟩:=M.hm;obtain⟨ds,e2,r2⟩:=M.hd;exact {M with hm:=⟨kvs,k.at e,r⟩,hn:=k.at M.hn,ho:=k.at M.ho,hd:=⟨ds,k.at e2,r2.kt (aD.nil k)⟩}
theorem yX:∀(more acc:List (Key×V)),(∀ kv∈more,aX acc kv.1=none)->(more.map (·.1)).Nodup->eW acc more=acc++more
 | [],acc,_,_=>by simp[eW]
 | kv::r,acc,h,nd=>by
  have e:aS acc kv.1 kv.2=acc++[kv]:=by
   have:=h kv 3e0;unfold aS;rw[hJ,this];simp
  have:=yX r (acc++[kv]) (fun x hx=>by
   rw[ϔ,Ϙ] at nd;rw[<- e,gB,if_neg (fun z=>nd.1 (by rw[<- z];exact List.mem_map_of_mem hx))];exact h x 1e3) (by rw[ϔ,Ϙ] at nd;exact nd.2)
  show eW (aS acc kv.1 kv.2) r=_;rw[e,this];simp
def FR{l:List 1e0}(h:(l.map (·.1)).Nodup):eW [] (hW l)=hW l:=by
 rw[yX _ _ (fun _ _=>xK)]
 ·rfl
 ·rw[hW,List.map_map];have:(l.map (·.1)).Nodup:=h
  induction l with
  | nil=>simp
  | cons x r ih =>
   rw[ϔ,Ϙ] at h ⊢;refine⟨fun z=>h.1 ?_,ih h.2 h.2⟩;obtain⟨y,hy,e⟩:=Β0.mp z;simp only[Function.comp_apply,Key.inl.injEq] at e;exact Β0.mpr ⟨y,hy,by simpa using e⟩
inductive tO(d:Nat)(vs:List V)(H:Hp)(Q:VK)(E:XK):Prop
 | mk (v:V) (md nd od dd:Addr) (ot:Str->Option V) (S:Pu) (s:Say) (_:vs=[v,.ref md]) (_:dH H v s) (_:s.depth<=d) (_:s.ok) (_:cX H md nd od dd ot S) (_:S.pl.Ok) (_:∀ H',Kp [] H H'->Q (wv 3e1) H'):tO d vs H Q E
def w_arg:S.worth .arg=S.ar:=rfl
def Sj:S.worth (.ans s)=fV S.ans 3e1:=rfl
def So:S.worth (.neg s)=some (if num 3e1=0 then 1 else 0):=rfl
def Sr{g:Sg}{a b:Say}:S.worth (.two g a b)=some (g.of (S.worth a) (S.worth b)):=rfl
def Tr{w:Wo}{k:Int->Prop}{u:Tg k}:IW (wv w) k u=k (num w):=by cases w<;>rfl
theorem Q9{a b:Wo}(q:Q (.bl (decide (a=b))) H):GV (wv a) (wv b) H Q:=by
 cases a<;>cases b<;>(refine⟨rfl,?_⟩;simpa[wv] using q)
def FL(w:Wo):fV [] w=none:=by cases w<;>rfl
theorem FU{a b c:V}:eW [] [((.inr 8e0:Key),a),(.inr 7e0,b),(.inr 9e0,c)]=[(.inr 8e0,a),(.inr 7e0,b),(.inr 9e0,c)]:=by
 have n1:=sst (show "+"≠"-" by decide);have n2:=sst (show "+"≠"*" by decide);have n3:=sst (show "-"≠"*" by decide);simp[eW,aS,n1,n2,n3]
def Se{a b c:V}:aX [((.inr 8e0:Key),a),(.inr 7e0,b),(.inr 9e0,c)] (.inr 8e0)=some a:=cN rfl
theorem Si{a b c:V}:aX [((.inr 8e0:Key),a),(.inr 7e0,b),(.inr 9e0,c)] (.inr 7e0)=some b:=by
 rw[cA (fun z=>sst (show "+"≠"-" by decide) 2e1),cN rfl]
theorem Sh{a b c:V}:aX [((.inr 8e0:Key),a),(.inr 7e0,b),(.inr 9e0,c)] (.inr 9e0)=some c:=by
 rw[cA (fun z=>sst (show "+"≠"*" by decide) 2e1),cA (fun z=>sst (show "-"≠"*" by decide) 2e1),cN rfl]
theorem gW{a b:String}{x:V}{o:Option V}(e:aX kvs (.inr 0e1)=o)(h:a≠b:=by decide):aX (aS kvs (.inr (Str.ofString b)) x) (.inr 0e1)=o:=by
 rw[gB,if_neg (fun z=>sst h 2e1)];exact e
def AS{a:String}{x:V}:aX (aS kvs (.inr 0e1) x) (.inr 0e1)=some x:=by rw[gB,if_pos rfl]
def mL{k:Key}{x:V}(h:aX kvs k=some y):(aS kvs k x).length=kvs.length:=by
 unfold aS;rw[hJ,h];simp
def ok6{b:Str}{x:V}(hk:k∈OK6)(h:b∉OK6):aX (aS kvs (.inr b) x) 2e2=aX kvs 2e2:=by
 rw[gB,if_neg (fun z=>h (by cases z;exact hk))]
def made6:(Str.ofString "made")∉OK6:=by simp[OK6,cH]
theorem cX.made{md nd od:Addr}(M:cX H md nd od dd ot S)(e:H md=some (.dK kvs)):cX (Ul H md (.dK (aS kvs 3e5 (.int ((S.made:Int)+1))))) md nd od dd ot {S with made:=S.made+1}:=by
 obtain⟨kv,e',l,v1,v2,v3,v4,v5,v6⟩:=M.hm;obtain⟨ds,e2,r2⟩:=M.hd;rw[e] at e';cases e';exact {M with
  hm:=⟨_,aA,⟨by rw[mL v4];exact l.1,fun k hk=>by rw[ok6 hk made6];exact l.2 k hk⟩,gW v1,gW v2,gW v3,AS,gW v5,gW v6⟩
  hn:=by rw[aE M.n1.symm];exact M.hn
  ho:=cZ e M.ho
  hd:=⟨ds,cZ e e2,r2.kt (aD.cU e)⟩
  lt:=fun i hi=>(by have:=M.lt i hi;exact⟨this.1,by show i < ((S.made+1:Nat):Int);omega⟩)
  dis:=fun p hp=>(by have:=M.dis p hp;exact⟨this.1,by show p.1 < ((S.made+1:Nat):Int);omega⟩)}
def cX.open{md nd od:Addr}(M:cX H md nd od dd ot S)(a:pd.Pairwise (· < ·))(b:∀ i∈pd,0<=i/\i < S.made)(c:∀ p∈S.ans,p.1∉pd):cX (Ul H od (.lst (pd.map V.int))) md nd od dd ot {S with pend:=pd}:=by
 obtain⟨kv,e',r⟩:=M.hm;obtain⟨ds,e2,r2⟩:=M.hd;exact {M with
  hm:=⟨kv,cZ M.ho e',r⟩
  hn:=cZ M.ho M.hn
  ho:=aA
  hd:=⟨ds,by rw[aE M.n2.symm];exact e2,r2.kt (aD.cU M.ho)⟩
  asc:=a
  lt:=b
  dis:=fun p hp=>⟨c p hp,(M.dis p hp).2⟩}
def cX.name{H:Hp}{md nd od dd:Addr}{ot:Str->Option V}{S:Pu}(M:cX H md nd od dd ot S)(x:Str)(w:Wo):cX (Ul H nd (.dK (fE (bZ S.nm x w)))) md nd od dd ot {S with nm:=bZ S.nm x w}:=by
 obtain⟨kv,e',r⟩:=M.hm;obtain⟨ds,e2,r2⟩:=M.hd;exact {M with
  hm:=⟨kv,by rw[aE M.n1];exact e',r⟩
  hn:=aA
  ho:=cZ M.hn M.ho
  hd:=⟨ds,cZ M.hn e2,r2.kt (aD.cU M.hn)⟩}
def cX.tk{md nd od:Addr}(M:cX H md nd od dd ot S)(k:Kp D H H')(h:∀ a∈D,a=md\/a=nd\/a=od\/∃ xs,H a=some (.lst xs)):aD H H':=.of k fun a ha=>by
 obtain⟨kv,e',r⟩:=M.hm;rcases h a ha with rfl|rfl|rfl|⟨xs,e⟩
 ·exact⟨_,e',fun _ z=>by cases z⟩
 ·exact⟨_,M.hn,fun _ z=>by cases z⟩
 ·exact⟨_,M.ho,fun _ z=>by cases z⟩
 ·exact⟨_,e,fun _ z=>by cases z⟩
def cX.other{md nd od:Addr}(M:cX H md nd od dd ot S)(e:H op=some 5e1)(n1:op≠od)(n2:op≠dd):cX (Ul H op (.lst vs)) md nd od dd ot S:=by
 obtain⟨kv,e',r⟩:=M.hm;obtain⟨ds,e2,r2⟩:=M.hd;exact {M with
  hm:=⟨kv,cZ e e',r⟩
  hn:=cZ e M.hn
  ho:=by rw[aE n1.symm];exact M.ho
  hd:=⟨ds,by rw[aE n2.symm];exact e2,r2.kt (aD.cU e)⟩}
def Nu(nw:Int)(w:Wo):(if nw+4e4 < 1000000000000 then nw+4e4 else 1000000000000)=uB nw w:=by
 cases w with
 | none=>simp[num,uB]
 | some z=>rfl
def cX.Z7{md nd od:Addr}(M:cX H md nd od dd ot S)(e:H op=some 5e1)(n1:op≠od):op∉[md,nd,od]:=by
 obtain⟨kv,e',r⟩:=M.hm;simp only[Α,Δ,Φ,not_or];exact⟨dB e e' 7e4,dB e M.hn 7e4,n1⟩
inductive EH(vs:List V)(H:Hp)(Q:VK)(E:XK):Prop
 | mk (md nd od dd:Addr) (ot:Str->Option V) (S:Pu) (x:Str) (_:vs=[.ref md,.str x]) (_:cX H md nd od dd ot S) (_:S.made<=100000) (_:S.pend.length<=100000) (_:S.nm.length<=100000) (_:∀ H',cX H' md nd od dd ot (S.qR x)->Kp [md,nd,od] H H'->Q 2e3 H'):EH vs H Q E
inductive MI(vs:List V)(H:Hp)(Q:VK)(E:XK):Prop
 | mk (md nd od dd op:Addr) (ot:Str->Option V) (v:V) (S:Pu) (m:Stm) (us:List V) (cs:Cmds) (_:vs=[.ref md,v,.ref op]) (_:cX H md nd od dd ot S) (_:cG H v m) (_:m.Bt=true) (_:m.gd false) (_:S.pl.Ok) (_:S.made<=100000) (_:S.pend.length<=100000) (_:S.nm.length<=100000) (_:H op=some 5e1) (_:jF H us cs) (_:us.length<=100000) (_:op≠od) (_:op≠dd) (_:∀(H':Hp) (Zd:List V),cX H' md nd od dd ot (bT S m).1->H' op=some (.lst Zd)->jF H' Zd (cs++(bT S m).2)->Kp [md,nd,od,op] H H'->Q .Um H'):MI vs H Q E
theorem kP:∀ {l:List Int} {i:Int} {k:Nat},l.Pairwise (· < ·)->BV i l=some k->l.eraseIdx k=l.filter fun j=>decide (j≠i)
 | [],i,k,_,h=>by simp[BV] at h
 | a::l,i,k,p,h=>by
  rw[Γ0] at p;unfold BV at h;rw[List.findIdx?_cons] at h;by_cases e:a=i
  ·subst e;simp only[decide_true,Γ1,Ο] at h;subst h;rw[List.eraseIdx_cons_zero,List.filter_cons_of_neg 3e0];exact(List.filter_eq_self.mpr fun j hj=>by have:=p.1 j hj;simp;omega).symm
  ·simp only[e,decide_false,ϙ,Β5,ϗ] at h;obtain⟨k',e',rfl⟩:=h;rw[List.eraseIdx_cons_succ,List.filter_cons_of_pos 7e2,kP p.2 e']
def Ey{l:List Int}{i:Int}(h:i∈l):∃ k,BV i l=some k:=by
 cases e:BV i l with
 | some k=>exact⟨k,rfl⟩
 | none =>
  unfold BV at e;rw[List.findIdx?_eq_none_iff] at e;exact absurd (e i h) 3e0
theorem Rj(w:Wo)(p:List Int):oM (wv w) (p.map V.int)=decide (∃ i,i∈p/\w=some i):=by
 cases w with
 | none=>simp[oM,wv,oS]
 | some i=>rw[show wv 1e2=.int i from rfl,sR];simp
def oN.pair{b:Addr}(ha:H a=some 7e3)(hb:H b=some 7e3)(hl:xs.length<=100000)(h:∀ v∈xs,lU v):oN H (d+2) 9e3 (.ref b) :=
 .tup ha hb rfl hl fun i x y e1 e2=>by
  rw[e1] at e2;cases e2;exact .atom (h x (ϓ e1))
def Pu.w(S:Pu)(st:Stk)(x:Slp):Pu:={S with stk:=st,sl:=x}
variable{w:Wo}
def DV(h:m.Bt=true):(bT S m).1.sl=S.sl/\(bT S m).1.lt=S.lt/\(bT S m).1.ar=S.ar/\(bT S m).1.nw=S.nw:=by
 cases m with
 | drop s =>
  simp only[bT];split
  ·split
   ·exact⟨rfl,rfl,rfl,rfl⟩
   ·exact⟨rfl,rfl,rfl,rfl⟩
  ·exact⟨rfl,rfl,rfl,rfl⟩
 | wait _ _=>cases h
 | Ur _ _=>cases h
 | fin _=>cases h
 | UG _ _=>cases h
 | iff _ _ _=>cases h
 | _=>exact⟨rfl,rfl,rfl,rfl⟩
theorem D7(g:AV wt b)(d:oE b<=20):Uy wt (fI b) 0 :=
 {nm:=Θ _,md:=Θ _,pd:=Θ _,an:=Θ _,lt:=Θ _,lw:=fun k ws h=>(by cases h)
  pl:=⟨fun _=>j9,j9,fun w=>(by show eI (fV [] w);rw[FL];exact j9)⟩
  nw:=⟨Int.le_refl _,by show(0:Int)<=1000000000000;decide⟩
  sk:=⟨⟨Α2 _,by simp⟩,fun x hx=>(by rw[show x=(0,b,0) by simpa[fI] using hx];exact g),⟨by simpa using d,trivial⟩⟩
  sl:=⟨fun k e=>5e0,fun k e=>5e0⟩}
def qD{c:TT}{t u:TS}{D:Ends}(h:∀ R:St->Hp->Prop,(∀ Z' H',u D Z' H'->R Z' H')->Cs c t (fun _=>R) D Z H):Cs c t u D Z H:=h (u D) fun _ _ z=>z
def Hy{c:TT}{tb:TS}{D:Ends}(h:∀ b:TS,(∀ D Z H,tb D Z H->b D Z H)->DC c b D Z H):DC c tb D Z H:=h tb fun _ _ _ z=>z
structure CE where
 m:Option Stm
 pt:List Int
 wh:Option Nat
variable{c:List CE}
end
mutual
noncomputable def Stm.sz:Stm->Nat
 | .UG _ b=>bX b+2
 | .iff _ b o=>bX b+bX o+2
 | _=>1
noncomputable def bX:List Stm->Nat
 | []=>0
 | m::r=>m.sz+bX r
end
mutual
noncomputable def z9(pt:List Int)(p:Nat):Stm->List CE
 | .UG s b=>⟨some (.UG s b),pt,some (p+bX b+2)⟩::(yO (pt++[0]) 0 (p+1) b++[⟨none,pt,some p⟩])
 | .iff s b o=>⟨some (.iff s b o),pt,some (p+bX b+2)⟩::(yO (pt++[0]) 0 (p+1) b++(⟨none,pt,some (p+bX b+bX o+2)⟩::yO (pt++[1]) 0 (p+bX b+2) o))
 | m=>[⟨some m,pt,none⟩]
noncomputable def yO(pt:List Int)(k p:Nat):List Stm->List CE
 | []=>[]
 | m::r=>z9 (pt++[(k:Int)]) p m++yO pt (k+1) (p+m.sz) r
end
def Ra(h:m.isB=false):z9 pt p m=[⟨some m,pt,none⟩]:=by
 cases m<;>first|(simp only[z9];done)|cases h
def JR(h:m.isB=false):m.sz=1:=by
 cases m<;>first|(simp only[Stm.sz];done)|cases h
mutual
theorem D8(pt:List Int)(p:Nat):∀ m:Stm,(z9 pt p m).length=m.sz
 | .UG s b=>by simp only[z9,Stm.sz,Ζ,Ν,ϕ,gD]
 | .iff s b o=>by simp only[z9,Stm.sz,Ζ,Ν,gD];omega
 | .set _ _ | .order _ _ _ | .UA _ _ | .child _ _ _ | .send _ _ _ | .drop _ | .wait _ _ | .Ur _ _ | .fin _=>by simp[z9,Stm.sz]
theorem gD(pt:List Int)(k p:Nat):∀ b:List Stm,(yO pt k p b).length=bX b
 | []=>by simp[yO,bX]
 | m::r=>by simp only[yO,bX,Ν,D8,gD]
end
mutual
example:=[b.take n,.iff s b o,b2.take n2,.inr a,bO st,(by simpa using h),((k2,b2,n2)::r),p+bX b+2,.lst xs,xs++ys,((0,b,n)::(k2,b2,n2)::r),pt++[((k+n:Nat):Int)],pt++[(n2:Int)]++[0],((k2,b2,n2+1)::r),b.take (n+1),((0,b,0)::st),((k,b,n)::r)]
theorem gA:∀ {b:List Stm} {n:Nat} {m:Stm},b[n]?=some m->bX 4e1=bX 0e0+m.sz
 | [],n,m,h=>by simp at h
 | x::b,0,m,h=>by
  simp only[Ξ,Ο] at h;subst h;simp[bX]
 | x::b,n+1,m,h=>by
  have:=gA (b:=b) (n:=n) (m:=m) 5e0;simp only[Ζ6,bX] at this ⊢;omega
def tQ(c:List CE)(p:Nat)(xs:List CE):Prop:=∀ i x,xs[i]?=some x->c[p+i]?=some x
def tQ.left{xs ys:List CE}(h:tQ c p 9e0):tQ c p xs:=fun i x e=>h i x (by
 rw[Ζ4 (Μ.mp e).1];exact e)
theorem tQ.right{xs ys:List CE}(h:tQ c p 9e0):tQ c (p+xs.length) ys:=fun i x e=>by
 rw[Nat.add_assoc];exact h (xs.length+i) x (by rw[List.getElem?_append_right (by omega)];simpa using e)
def tQ.head{x:CE}{xs:List CE}(h:tQ c p (x::xs)):c[p]?=some x:=h 0 x rfl
def tQ.tail{x:CE}{xs:List CE}(h:tQ c p (x::xs)):tQ c (p+1) xs:=fun i y e=>by
 rw[Nat.add_assoc,Nat.add_comm 1 i];exact h (i+1) y (by simpa using e)
theorem tQ.at{c:List CE}{pt:List Int}:∀ {b:List Stm} {k p n:Nat} {m:Stm},tQ c p (yO pt k p b)->b[n]?=some m->tQ c (p+bX 0e0) (z9 1e1 (p+bX 0e0) m)
 | [],_,_,_,_,_,h=>by simp at h
 | x::b,k,p,0,m,hi,h=>by
  simp only[Ξ,Ο] at h;subst h;simp only[yO] at hi;simpa[bX] using hi.left
 | x::b,k,p,n+1,m,hi,h=>by
  simp only[yO] at hi;have r:=hi.right;rw[D8] at r;have:=tQ.at (n:=n) (m:=m) r 5e0;rw[Ζ6,bX,<- Nat.add_assoc]
  rwa [show k+1+n=k+(n+1) by omega] at this
inductive Bs(P:List Stm):Stk->Nat->List Int->Prop
 | bot {n:Nat}:Bs P [(0,P,n)] 0 []
 | UG {n k2 n2 B:Nat} {s:Say} {b b2:List Stm} {r:Stk} {pt:List Int}:Bs P 6e0 B pt->b2[n2]?=some (.UG s b)->Bs P 0e1 (B+bX 2e0+1) 2e1
 | X4 {n k2 n2 B:Nat} {s:Say} {b o b2:List Stm} {r:Stk} {pt:List Int}:Bs P 6e0 B pt->b2[n2]?=some 1e0->Bs P 0e1 (B+bX 2e0+1) 2e1
 | if1 {n k2 n2 B:Nat} {s:Say} {b o b2:List Stm} {r:Stk} {pt:List Int}:Bs P 6e0 B pt->b2[n2]?=some 1e0->Bs P ((1,o,n)::(k2,b2,n2)::r) (B+bX 2e0+bX b+2) (pt++[(n2:Int)]++[1])
def iK(P:List Stm):List CE:=yO [] 0 0 P
theorem Bs.inC(h:Bs P st B pt):∃ k b n r,st=(k,b,n)::r/\tQ (iK P) B (yO pt 0 B b):=by
 induction h with
 | bot=>exact⟨_,_,_,_,rfl,fun i x e=>by rw[Γ2];exact e⟩
 | UG hb e ih =>
  obtain⟨_,_,_,_,z,ih⟩:=ih;cases z;have:=tQ.at ih e;simp only[z9,Γ2] at this;exact⟨_,_,_,_,rfl,this.tail.left⟩
 | X4 hb e ih =>
  obtain⟨_,_,_,_,z,ih⟩:=ih;cases z;have:=tQ.at ih e;simp only[z9,Γ2] at this;exact⟨_,_,_,_,rfl,this.tail.left⟩
 | if1 hb e ih =>
  obtain⟨_,_,_,_,z,ih⟩:=ih;cases z;have:=tQ.at ih e;simp only[z9,Γ2] at this;have:=this.tail.right.tail;rw[gD] at this;refine⟨_,_,_,_,rfl,?_⟩
  rwa [show ∀ x y:Nat,x+1+y+1=x+y+2 by omega] at this
def Bs.n{k n:Nat}{r:Stk}(h:Bs P 6e1 B pt)(n':Nat):Bs P ((k,b,n')::r) B pt:=by
 cases h with
 | bot=>exact .bot
 | UG hb e=>exact .UG hb e
 | X4 hb e=>exact .X4 hb e
 | if1 hb e=>exact .if1 hb e
variable{n:Nat}
def Ps(P:List Stm)(st:Stk)(p:Nat):Prop:=∃ B pt k b n r,st=(k,b,n)::r/\Bs P st B pt/\p=B+bX 0e0/\n<=b.length
def GR(p:Nat):Stm->Option Nat
 | .UG _ b=>some 7e0
 | .iff _ b _=>some 7e0
 | _=>none
def Bj(pt:List Int)(p:Nat)(m:Stm):∃ r,z9 pt p m=⟨some m,pt,GR p m⟩::r:=by
 cases m<;>exact⟨_,by simp only[z9,GR];rfl⟩
def Ps.ent(h:Ps P st p)(e:bL st=some m):∃ pt,(iK P)[p]?=some ⟨some m,pt,GR p m⟩:=by
 obtain⟨B,pt,k,b,n,r,rfl,hB,rfl,hn⟩:=h;obtain⟨_,_,_,_,z,i⟩:=hB.inC;cases z;have:=tQ.at i (show b[n]?=some m from e);obtain⟨q,hq⟩:=Bj (pt++[((0+n:Nat):Int)]) (B+bX 0e0) m;rw[hq] at this;exact⟨_,this.head⟩
theorem Ps.pass(h:Ps P st p)(e:bL st=some m):Ps P (fO st) (p+m.sz):=by
 obtain⟨B,pt,k,b,n,r,rfl,hB,rfl,hn⟩:=h;have e':b[n]?=some m:=e;exact⟨B,pt,k,b,n+1,r,rfl,hB.n _,by rw[gA e'];omega,(Μ.mp e').1⟩
theorem Ps.UG{P:List Stm}{st:Stk}{p:Nat}{s:Say}{b:List Stm}(h:Ps P st p)(e:bL st=some (.UG s b)):Ps P 5e1 (p+1):=by
 obtain⟨B,pt,k,b',n,r,rfl,hB,rfl,hn⟩:=h;exact⟨_,_,_,_,_,_,rfl,.UG hB e,by simp[bX],by omega⟩
theorem Ps.X4{P:List Stm}{st:Stk}{p:Nat}{s:Say}{b o:List Stm}(h:Ps P st p)(e:bL st=some 1e0):Ps P 5e1 (p+1):=by
 obtain⟨B,pt,k,b',n,r,rfl,hB,rfl,hn⟩:=h;exact⟨_,_,_,_,_,_,rfl,.X4 hB e,by simp[bX],by omega⟩
theorem Ps.if1{P:List Stm}{st:Stk}{p:Nat}{s:Say}{b o:List Stm}(h:Ps P st p)(e:bL st=some 1e0):Ps P ((1,o,0)::st) 7e0:=by
 obtain⟨B,pt,k,b',n,r,rfl,hB,rfl,hn⟩:=h;exact⟨_,_,_,_,_,_,rfl,.if1 hB e,by simp[bX],by omega⟩
def tW{k:Nat}:bO [(k,b,n)]=[(k,b,n)]:=by simp[bO]
def Hu{k:Nat}{x:Nat×List Stm×Nat}{r:Stk}(h:n≠b.length):bO ((k,b,n)::x::r)=(k,b,n)::x::r:=by
 obtain⟨a,c,d⟩:=x;rw[bO,if_neg h]
def tX{k k2 n2:Nat}{b2:List Stm}{r:Stk}:bO ((k,b,b.length)::(k2,b2,n2)::r)=bO ((k2,b2,mD b2 n2)::r):=by
 rw[bO,if_pos rfl]
theorem Ps.turn:∀(l:Nat) (st:Stk) (p:Nat),st.length=l->Ps P st p -> (p=(iK P).length/\bL 4e0=none/\Ps P 4e0 p)\/(∃ m,bL 4e0=some m/\Ps P 4e0 p)\/∃ UL p' pt,(iK P)[p]?=some ⟨none,pt,some p'⟩/\Ps P UL p'/\bO UL=bO st/\UL.length < st.length:=by
 intro l
 induction l with
 | zero=>intro st p hl h;obtain⟨_,_,_,_,_,_,rfl,_⟩:=h;simp at hl
 | succ l ih =>
  intro st p hl h;have hh:=h;obtain⟨B,pt,k,b,n,r,rfl,hB,rfl,hn⟩:=h;by_cases e:n=b.length
  ·subst e;cases hB with
   | bot =>
    refine .inl ⟨?_,?_,?_⟩
    ·rw[iK,gD,ϝ,Γ2]
    ·rw[tW];simp[bL]
    ·rw[tW];exact hh
   | @UG _ k2 n2 B s _ b2 r pt hb e =>
    refine .inr (.inr ?_);obtain⟨_,_,_,_,z,i⟩:=hb.inC;cases z;have:=tQ.at i e;simp only[z9,Γ2] at this;have j:=this.tail.right.head;rw[gD] at j;rw[ϝ];refine⟨_,_,_,j,⟨_,_,_,_,_,_,rfl,hb,rfl,Nat.le_of_lt (Μ.mp e).1⟩,?_,by simp⟩;rw[tX]
    congr 2
    simp[mD,e,Stm.Af]
   | @X4 _ k2 n2 B s _ o b2 r pt hb e =>
    refine .inr (.inr ?_);obtain⟨_,_,_,_,z,i⟩:=hb.inC;cases z;have:=tQ.at i e;simp only[z9,Γ2] at this;have j:=this.tail.right.head;rw[gD] at j;rw[ϝ];refine⟨_,_,_,j,⟨_,_,_,_,n2+1,_,rfl,hb.n _,by rw[gA e,Stm.sz];omega,(Μ.mp e).1⟩,?_,by simp⟩;rw[tX];simp[mD,e,Stm.Af]
   | @if1 _ k2 n2 B s b0 _ b2 r pt hb e =>
    have hp:Ps P 3e1 (B+bX 2e0+bX b0+2+bX (b.take b.length)):=⟨_,_,_,_,n2+1,_,rfl,hb.n _,by rw[gA e,Stm.sz,ϝ];omega,(Μ.mp e).1⟩;have ec:bO ((1,b,b.length)::(k2,b2,n2)::r)=bO 3e1:=by
     rw[tX];simp[mD,e,Stm.Af]
    rw[ec];rcases ih _ _ (by simp only[Ζ] at hl ⊢;omega) hp with z|z|⟨UL,p',pt',h1,h2,h3,h4⟩
    ·exact .inl z
    ·exact .inr (.inl z)
    ·exact .inr (.inr ⟨UL,p',pt',h1,h2,h3,by simp only[Ζ] at h4 ⊢;omega⟩)
  ·have lt:n < b.length:=by omega
   have ec:bO 6e1=(k,b,n)::r:=by
    cases r with
    | nil=>exact tW
    | cons x r=>exact Hu e
   rw[ec];exact .inr (.inl ⟨b[n],by simp[bL,lt],hh⟩)
def Stm.kw:Stm->Str
 | .set _ _=>"set" | .order _ _ _=>"order" | .UA _ _=>"timer" | .child _ _ _=>"child" | .send _ _ _=>"send" | .drop _=>"drop" | .wait _ _=>"wait" | .Ur _ _=>"hear" | .fin _=>"end" | .UG _ _=>"while" | .iff _ _ _=>"if"
theorem cG.kw(h:cG H v m):∃ a r,v=.ref a/\H a=some (.tup (.str m.kw::r)):=by
 cases h<;>exact⟨_,_,rfl,by assumption⟩
def cG.Ti{o:List Stm}(h:cG H (.ref a) 1e0):∃ v p q us,H a=some (.tup [.str "if",v,.ref p,.ref q])/\H q=some (.tup us)/\bU H us o:=by
 cases h with
 | iff e _ _ _ eq ho=>exact⟨_,_,_,_,e,eq,ho⟩
def Rt(h:m.isB=false):((m.kw=("while":Str))=False)/\((m.kw=("if":Str))=False)/\((m.kw=("jump":Str))=False):=by
 cases m<;>first|(simp[Stm.kw,cH];done)|cases h
theorem PM(m:Stm):1<=m.sz:=by cases m<;>simp only[Stm.sz]<;>omega
theorem kR:∀ b:List Stm,b.length<=bX b
 | []=>by simp
 | m::r=>by have:=kR r;have:=PM m;simp only[Ζ,bX];omega
theorem JQ:∀(b:List Stm) (n:Nat),bX 0e0<=bX b
 | [],_=>by simp
 | _::_,0=>by simp[bX]
 | m::r,n+1=>by have:=JQ r n;simp only[Ζ6,bX];omega
def kp1T{c:Addr}(k:Kp [c] H H')(e:H c=some 8e0):aD H H':=fun a ys h=>k a _ h (by
 simp only[Α,Δ,Φ];intro z;subst z;rw[e] at h;cases h)
def free1{c p:Addr}(k:Kp [c] H G)(e:G c=some o)(h:G p=none):H p=none:=by
 cases z:H p with
 | none=>rfl
 | some u =>
  by_cases hc:p=c
  ·subst hc;rw[e] at h;cases h
  ·rw[k.at1 z hc] at h;cases h
def _root_.Lake.Kp.cJ{p:Addr}(k:Kp [] H H')(h:H' p=none):H p=none:=by
 cases e:H p with
 | none=>rfl
 | some o=>rw[k.at e] at h;cases h
def o8{l k:List Addr}(h1:l.Nodup)(h2:k.Nodup)(t:∀ a∈l,∃ o,G a=some o)(f:∀ a∈k,G a=none):(l++k).Nodup:=Ϝ.mpr ⟨h1,h2,fun x hx y hy z=>by
 obtain⟨o,e⟩:=t x hx;rw[z,f y hy] at e;cases e⟩
def gU{l k:List Addr}(h1:∀ a∈l,∃ o,G a=some o)(h2:∀ a∈k,∃ o,G a=some o):∀ a∈l++k,∃ o,G a=some o:=fun a ha=>(Κ.mp ha).elim (h1 a) (h2 a)
def kL{p:Addr}(h:G p=some o):∀ a∈[p],∃ o,G a=some o:=fun a ha=>by rw[show a=p by simpa using ha];exact⟨o,h⟩
def Sy:Option Nat->V
 | none=>.Um
 | some n=>.int n
def CA(H:Hp)(a:Addr)(e:CE):Prop:=∃ pa,H pa=some (.tup (e.pt.map V.int))/\match e.m with
 | some m=>∃ sv,cG H sv m/\H a=some (.lst [.str m.kw,sv,.ref pa,Sy e.wh])
 | none=>H a=some (.lst [.str "jump",.Um,.ref pa,Sy e.wh])
def CA.there{e:CE}(h:CA H a e):∃ xs,H a=some 8e0:=by
 obtain⟨pa,_,h⟩:=h;cases hm:e.m with
 | none=>rw[hm] at h;exact⟨_,h⟩
 | some m=>rw[hm] at h;obtain⟨_,_,h⟩:=h;exact⟨_,h⟩
def CA.keep{e:CE}(h:CA H a e)(k:∀ o,H a=some o->H' a=some o)(t:aD H H'):CA H' a e:=by
 obtain⟨pa,hp,h⟩:=h;refine⟨pa,t _ _ hp,?_⟩;cases hm:e.m with
 | none=>rw[hm] at h;exact k _ h
 | some m=>rw[hm] at h;obtain⟨sv,hs,h⟩:=h;exact⟨sv,hs.kp t,k _ h⟩
inductive dG(H:Hp):List Addr->List CE->Prop
 | nil:dG H [] []
 | cons {a:Addr} {e:CE} {as:List Addr} {c:List CE}:CA H a e->dG H as c->dG H (a::as) (e::c)
def dG.len{as:List Addr}(h:dG H as c):as.length=c.length:=by
 induction h with
 | nil=>rfl
 | cons _ _ ih=>simp[ih]
def dG.there{as:List Addr}(h:dG H as c):∀ a∈as,∃ xs,H a=some 8e0:=by
 induction h with
 | nil=>simp
 | cons e _ ih =>
  intro a ha;rcases Α.mp ha with rfl|ha
  ·exact e.there
  ·exact ih a ha
def dG.ex{as:List Addr}(h:dG H as c):∀ a∈as,∃ o,H a=some o:=fun a ha=>let ⟨_,e⟩:=h.there a ha;⟨_,e⟩
def dG.keep{as:List Addr}(h:dG H as c)(k:∀ a∈as,∀ o,H a=some o->H' a=some o)(t:aD H H'):dG H' as c:=by
 induction h with
 | nil=>exact .nil
 | cons e _ ih=>exact .cons (e.keep (k _ (by simp)) t) (ih fun a ha=>k a (by simp[ha]))
def dG.app{as bs:List Addr}{d:List CE}(h:dG H as c)(g:dG H bs d):dG H (as++bs) (c++d):=by
 induction h with
 | nil=>exact g
 | cons e _ ih=>exact .cons e ih
def dG.at{as:List Addr}(h:dG H as c):∀ {i:Nat} {e:CE},c[i]?=some e->∃ a,as[i]?=some a/\CA H a e:=by
 induction h with
 | nil=>intro i e z;simp at z
 | cons f _ ih =>
  intro i e z;cases i with
  | zero=>simp only[Ξ,Ο] at z;subst z;exact⟨_,rfl,f⟩
  | succ i=>simpa using ih (by simpa using z)
theorem Bi{pt:List Int}:∀ {b:List Stm} {k p n:Nat} {m:Stm},b[n]?=some m->yO pt k p 4e1=yO pt k p 0e0++z9 1e1 (p+bX 0e0) m
 | [],_,_,_,_,h=>by simp at h
 | x::b,k,p,0,m,h=>by
  simp only[Ξ,Ο] at h;subst h;simp[yO,bX]
 | x::b,k,p,n+1,m,h=>by
  have:=Bi (pt:=pt) (b:=b) (k:=k+1) (p:=p+x.sz) (n:=n) (m:=m) 5e0;simp only[Ζ6,yO,bX] at this ⊢;rw[this,Α5,show k+1+n=k+(n+1) by omega,Nat.add_assoc p]
theorem zP{b:Addr}{ys:List V}(ha:H a=some (.tup xs))(hb:H b=some (.tup ys))(l:xs.length+ys.length<=1000)(h:∀ p H',H' p=some (.tup 9e0)->Kp [] H H'->Q (.ref p) H'):tT (.ref a) (.ref b) H Q:=by
 unfold tT;rw[HR,ha,hb];refine⟨by rw[Ε2];omega,?_⟩;split
 ·next e=>subst e;exact h b H (by simpa using hb) Kp.refl
 ·split
  ·next e=>subst e;exact h a H (by simpa using ha) Kp.refl
  ·exact fun p hp=>h p _ aA (Kp.new hp)
inductive AH(d:Nat)(vs:List V)(H:Hp)(Q:VK)(E:XK):Prop
 | mk (bp pp cl:Addr) (us:List V) (b:List Stm) (pt:List Int) (as:List Addr) (_:vs=[.ref bp,.ref pp,.ref cl]) (_:H bp=some (.tup us)) (_:bU H us b) (_:oE b < d) (_:H pp=some (.tup (pt.map V.int))) (_:pt.length+2 * d<=1000) (_:H cl=some (.lst (as.map V.ref))) (_:as.length+bX b<=100000) (_:∀(H':Hp) (new:List Addr),H' cl=some (.lst ((as++new).map V.ref))->dG H' new (yO pt 0 as.length b)->(∀ a∈new,H a=none)->new.Nodup->Kp [cl] H H'->Q .Um H'):AH d vs H Q E
def six6(h:k∈OK6):k≠("names":Str)/\k≠("arg":Str)/\k≠("now":Str)/\k≠("made":Str)/\k≠("open":Str)/\k≠("done":Str):=by
 simp only[OK6,Α,Δ,Φ] at h;rcases h with rfl|rfl|rfl|rfl|rfl|rfl<;>simp[cH]
def AR{a b:Str}{x:V}{o:Option V}(h:a≠b)(e:aX kvs 3e0=o):aX (aS kvs (.inr b) x) 3e0=o:=by
 rw[gB,if_neg (fun z=>h (Key.inr.inj z))];exact e
def Sf{a:Str}{x:V}:aX (aS kvs 3e0 x) 3e0=some x:=by rw[gB,if_pos rfl]
end
section
mutual
example:=[.dK kvs,.dK Xo,aS kvs (.inr "open") (.ref o2),aS kvs (.inr "now") (.int m),aS kvs (.inr "arg") (wv w),aS kvs (.inr k) v]
variable{md nd od:Addr}
def cX.zV(M:cX H md nd od dd ot S)(e:H md=some 0e0)(Xo:List (Key×V)):Ul H md 1e0 nd=some (.dK (fE S.nm))/\Ul H md 1e0 od=some (.lst (S.pend.map V.int))/\∃ ds,Ul H md 1e0 dd=some (.lst ds)/\gZ (Ul H md 1e0) ds S.ans:=by
 obtain⟨ds,e2,r2⟩:=M.hd;exact⟨by rw[aE M.n1.symm];exact M.hn,cZ e M.ho,ds,cZ e e2,r2.kt (aD.cU e)⟩
def cX.ot6(M:cX H md nd od dd ot S)(e:H md=some 0e0)(hk:k∈OK6)(hy:ot k=some y)(v:V):cX (Ul H md (.dK 5e0)) md nd od dd (fun j=>if j=k then some v else ot j) S:=by
 obtain⟨kv,e',l,v1,v2,v3,v4,v5,v6⟩:=M.hm;rw[e] at e';cases e';obtain⟨b1,b2,b3⟩:=M.zV e 5e0;obtain⟨n1,n2,n3,n4,n5,n6⟩:=six6 hk;exact {M with
  hm:=⟨_,aA,⟨by rw[mL (by rw[l.2 k hk];exact hy)];exact l.1,fun j hj=>by
   rw[gB];by_cases h:j=k
   ·subst h;simp
   ·rw[if_neg (fun z=>h (Key.inr.inj z)),if_neg h];exact l.2 j hj⟩,AR n1.symm v1,AR n2.symm v2,AR n3.symm v3,AR n4.symm v4,AR n5.symm v5,AR n6.symm v6⟩
  hn:=b1
  ho:=b2
  hd:=b3}
def cX.now(M:cX H md nd od dd ot S)(e:H md=some 0e0)(m:Int):cX (Ul H md (.dK 3e0)) md nd od dd ot {S with nw:=m}:=by
 obtain⟨kv,e',l,v1,v2,v3,v4,v5,v6⟩:=M.hm;rw[e] at e';cases e';obtain⟨b1,b2,b3⟩:=M.zV e 3e0;exact {M with
  hm:=⟨_,aA,⟨by rw[mL v3];exact l.1,fun k hk=>by rw[AR (six6 hk).2.2.1 rfl];exact l.2 k hk⟩,gW v1,gW v2,AS,gW v4,gW v5,gW v6⟩
  hn:=b1
  ho:=b2
  hd:=b3}
def cX.arg(M:cX H md nd od dd ot S)(e:H md=some 0e0)(w:Wo):cX (Ul H md (.dK 4e0)) md nd od dd ot {S with ar:=w}:=by
 obtain⟨kv,e',l,v1,v2,v3,v4,v5,v6⟩:=M.hm;rw[e] at e';cases e';obtain⟨b1,b2,b3⟩:=M.zV e 4e0;exact {M with
  hm:=⟨_,aA,⟨by rw[mL v2];exact l.1,fun k hk=>by rw[AR (six6 hk).2.1 rfl];exact l.2 k hk⟩,gW v1,AS,gW v3,gW v4,gW v5,gW v6⟩
  hn:=b1
  ho:=b2
  hd:=b3}
def cX.opn(M:cX H md nd od dd ot S)(e:H md=some 0e0)(UZ:H o2=some (.lst []))(n:o2≠dd):cX (Ul H md (.dK 2e0)) md nd o2 dd ot {S with pend:=[]}:=by
 obtain⟨kv,e',l,v1,v2,v3,v4,v5,v6⟩:=M.hm;rw[e] at e';cases e';obtain⟨b1,b2,b3⟩:=M.zV e 2e0;exact {M with
  hm:=⟨_,aA,⟨by rw[mL v5];exact l.1,fun k hk=>by rw[AR (six6 hk).2.2.2.2.1 rfl];exact l.2 k hk⟩,gW v1,gW v2,gW v3,gW v4,AS,gW v6⟩
  hn:=b1
  ho:=cZ e UZ
  hd:=b3
  n2:=n
  asc:=List.Pairwise.nil
  lt:=fun i hi=>(by simp at hi)
  dis:=fun p hp=>⟨by simp,(M.dis p hp).2⟩}
end
end
mutual
example:=[Str.ofString "names",Str.ofString "open",Str.ofString "mode",Str.ofString "made",Str.ofString "code",Str.ofString "now",Str.ofString "arg",Str.ofString "at"]
structure Fa where
 md:Addr
 nd:Addr
 od:Addr
 dd:Addr
 ld:Addr
 cl:Addr
 cs:List Addr
 las:List Addr
 nk:Nat
 aw:Addr
variable{A:Fa}
def Fa.mut(A:Fa):List Addr:=[A.md,A.nd,A.od,A.dd,A.ld]++A.las
def eT(H:Hp)(A:Fa)(ot:Str->Option V):Slp->Prop
 | .new=>ot "mode"=some (.str "new")
 | .Um=>ot "mode"=some (.str "on")
 | .wait ts=>ot "mode"=some (.str "wait")/\ot "awaited"=some (.ref A.aw)/\H A.aw=some (.lst (ts.map V.int))/\A.aw∉A.mut
 | .Ur _=>ot "mode"=some (.str "hear")
 | .ended w=>ot "mode"=some (.str "ended")/\ot "outcome"=some (wv w)
 | .worn=>ot "mode"=some (.str "worn")
structure bQ(P:List Stm)(H:Hp)(A:Fa)(S:Pu)(p:Nat):Prop where
 ex:∃ ot:Str->Option V,cX H A.md A.nd A.od A.dd ot S/\A5 ((∀ k∈OK6,∃ v,ot k=some v)) (ot "code"=some (.ref A.cl)) (ot "at"=some (.int p)) (ot "letters"=some (.ref A.ld)) (eT H A ot S.sl)
 cl:H A.cl=some (.lst (A.cs.map V.ref))
 co:dG H A.cs (iK P)
 lt:∃ kvs ml,H A.ld=some (.dK kvs)/\fX H kvs A.las ml/\((ml.map (·.1)).Nodup/\ml.length<=A.nk)/\∀ k,(aM ml k).getD []=(aM S.lt k).getD []
 ps:Ps P S.stk p
 n1:A.md≠A.ld
 n2:A.nd≠A.ld
 nl:A.las.Nodup
 s1:A.od≠A.cl/\A.od∉A.cs/\A.dd≠A.cl/\A.dd∉A.cs
 s2:∀ a∈A.las,a≠A.od/\a≠A.dd/\a≠A.cl/\a∉A.cs
inductive JF(vs:List V)(H:Hp)(Q:VK)(E:XK):Prop
 | mk (bp:Addr) (us:List V) (b:List Stm) (_:vs=[.ref bp]) (_:H bp=some (.tup us)) (_:bU H us b) (_:oE b < 9) (_:bX b<=1000) (_:∀(A:Fa) (H':Hp),bQ b H' A (fI b) 0->(∀ a∈A.mut,H a=none)->A.nk=0->(∃ o,H' A.aw=some o)->Kp [] H H'->Q (.ref A.md) H'):JF vs H Q E
def rD{cl x:Addr}{cs:List Addr}(e:H cl=some o)(h:dG H cs c)(n:H x=none):x≠cl/\x∉cs:=by
 refine⟨fun z=>?_,fun z=>?_⟩
 ·rw[z,e] at n;cases n
 ·obtain⟨o,e⟩:=h.ex x z;rw[e] at n;cases n
theorem ps0(b:List Stm):Ps b (fI b).stk 0:=⟨0,[],0,b,0,[],rfl,.bot,by simp[bX],by omega⟩
def eights{a b c d e f g h:V}:eW [] [((.inr 4e0:Key),a),(.inr 7e0,b),(.inr 2e0,c),(.inr 0e0,d),(.inr 6e0,e),(.inr 5e0,f),(.inr 3e0,g),(.inr 1e0,h)]=[((.inr 4e0:Key),a),(.inr 7e0,b),(.inr 2e0,c),(.inr 0e0,d),(.inr 6e0,e),(.inr 5e0,f),(.inr 3e0,g),(.inr 1e0,h)]:=by
 simp[eW,aS,cH]
end
section
mutual
example:=[(by simp),(fun j=>if j=k then some v else ot j),(by intro z;cases z),.ref A.ld,.ref A.cl,.inl rfl,.int p',(b=A.cl\/b∈A.cs\/b=A.ld\/b∈A.las),Str.ofString a]
variable{Zg:Hp}{A' A'':Fa}{S':Pu}{p':Nat}
def bQ.far(F:bQ P H A S p){b:Addr}(hb:b=A.cl\/b∈A.cs\/b=A.ld\/b∈A.las):b≠A.md/\b≠A.nd/\b≠A.od/\b≠A.dd:=by
 obtain⟨ot,M,_⟩:=F.ex;obtain⟨kvs,em,_⟩:=M.hm;obtain⟨ds,ed,_⟩:=M.hd;obtain⟨lk,ml,el,hl,_⟩:=F.lt;have lst:∀ {xs:List V},H b=some (.lst xs)->b≠A.md/\b≠A.nd:=fun e=>⟨dB e em 2e0,dB e M.hn 2e0⟩;rcases hb with rfl|hb|rfl|hb
 ·exact⟨(lst F.cl).1,(lst F.cl).2,F.s1.1.symm,F.s1.2.2.1.symm⟩
 ·obtain⟨xs,e⟩:=F.co.there b hb;exact⟨(lst e).1,(lst e).2,fun z=>F.s1.2.1 (z▸hb),fun z=>F.s1.2.2.2 (z▸hb)⟩
 ·exact⟨F.n1.symm,F.n2.symm,dB el M.ho 2e0,dB el ed 2e0⟩
 ·obtain⟨xs,e⟩:=hl.ex b hb;exact⟨(lst e).1,(lst e).2,(F.s2 b hb).1,(F.s2 b hb).2.1⟩
def bQ.asm(F:bQ P H A S p)(M':cX H' A.md A.nd o2 A.dd ot' S')(XF:∀ k∈OK6,∃ v,ot' k=some v)(c1:ot' "code"=some 4e0)(c2:ot' "at"=some 6e0)(c3:ot' "letters"=some 3e0)(c4:eT H' {A with od:=o2} ot' S'.sl)(K:∀ b o,H b=some o->7e0->H' b=some o)(T:aD H H')(hl:S'.lt=S.lt)(hp:Ps P S'.stk p')(so:o2≠A.cl/\o2∉A.cs)(sl:∀ a∈A.las,a≠o2):bQ P H' {A with od:=o2} S' p':=by
 obtain⟨lk,ml,el,h1,h0,h2⟩:=F.lt;exact⟨⟨ot',M',XF,c1,c2,c3,c4⟩,K _ _ F.cl 5e0,F.co.keep (fun a ha o e=>K a o e (.inr (.inl ha))) T,⟨lk,ml,K _ _ el (.inr (.inr 5e0)),h1.keep (fun a ha o e=>K a o e (.inr (.inr (.inr ha)))),h0,fun k=>by rw[hl];exact h2 k⟩,hp,F.n1,F.n2,F.nl,⟨so.1,so.2,F.s1.2.2.1,F.s1.2.2.2⟩,fun a ha=>⟨sl a ha,(F.s2 a ha).2⟩⟩
def bQ.n8(F:bQ P H A S p)(M':cX H' A.md A.nd A.od A.dd ot' S')(XF:∀ k∈OK6,∃ v,ot' k=some v)(c1:ot' "code"=some 4e0)(c2:ot' "at"=some 6e0)(c3:ot' "letters"=some 3e0)(c4:eT H' A ot' S'.sl)(K:∀ b o,H b=some o->7e0->H' b=some o)(T:aD H H')(hl:S'.lt=S.lt)(hp:Ps P S'.stk p'):bQ P H' A S' p' :=
 F.asm M' XF c1 c2 c3 c4 K T hl hp ⟨F.s1.1,F.s1.2.1⟩ fun a ha=>(F.s2 a ha).1
def bQ.M9(F:bQ P H A S p){las:List Addr}{nk:Nat}(M':cX H' A.md A.nd A.od A.dd ot' S')(XF:∀ k∈OK6,∃ v,ot' k=some v)(c1:ot' "code"=some 4e0)(c2:ot' "at"=some 6e0)(c3:ot' "letters"=some 3e0)(c4:eT H' {A with las:=las,nk:=nk} ot' S'.sl)(K:∀ b o,H b=some o->(b=A.cl\/b∈A.cs)->H' b=some o)(T:aD H H')(hl:∃ kvs ml,H' A.ld=some (.dK kvs)/\fX H' kvs las ml/\((ml.map (·.1)).Nodup/\ml.length<=nk)/\∀ k,(aM ml k).getD []=(aM S'.lt k).getD [])(hp:Ps P S'.stk p')(nd:las.Nodup)(s2:∀ a∈las,a≠A.od/\a≠A.dd/\a≠A.cl/\a∉A.cs):bQ P H' {A with las:=las,nk:=nk} S' p' :=
 ⟨⟨ot',M',XF,c1,c2,c3,c4⟩,K _ _ F.cl 5e0,F.co.keep (fun a ha o e=>K a o e (.inr ha)) T,hl,hp,F.n1,F.n2,nd,F.s1,s2⟩
def eT.keep{s:Slp}(h:eT H A ot s)(k:∀ b o,H b=some o->b∉A.mut->H' b=some o):eT H' A ot s:=by
 cases s with
 | wait ts=>obtain⟨h1,h2,h3,h4⟩:=h;exact⟨h1,h2,k _ _ h3 h4,h4⟩
 | _=>exact h
def bQ.kp(F:bQ P H A S p)(k:Kp [] H H'):bQ P H' A S p:=by
 obtain⟨ot,M,os,c1,c2,c3,c4⟩:=F.ex;exact F.n8 (M.kp k) os c1 c2 c3 (c4.keep fun _ _ e _=>k.at e) (fun _ _ e _=>k.at e) (aD.nil k) rfl F.ps
def bQ.RT(F:bQ P H A S p)(n:S.sl=.Um)(a:Addr):bQ P H {A with aw:=a} S p:=by
 obtain⟨ot,M,os,c1,c2,c3,c4⟩:=F.ex;exact⟨⟨ot,M,os,c1,c2,c3,by rw[n] at c4 ⊢;exact c4⟩,F.cl,F.co,F.lt,F.ps,F.n1,F.n2,F.nl,F.s1,F.s2⟩
def gY(H:Hp)(A:Fa)(op:Addr)(cs:Cmds):Prop:=∃ us,H op=some (.lst us)/\jF H us cs/\op∉A.mut/\op≠A.cl/\op∉A.cs
def gY.kp(h:gY H A op cs)(k:Kp [] H H'):gY H' A op cs:=by
 obtain⟨us,e,c,r⟩:=h;exact⟨us,k.at e,c.kt (aD.nil k),r⟩
structure Fm(D:List Addr)(A A':Fa)(H H':Hp):Prop where
 kp:∀ b o,H b=some o->b∉A.mut->b∉D->H' b=some o
 st:∀ b o,H b=some o->∃ u,H' b=some u
 nw:∀ b∈A'.mut,b∈A.mut\/H b=none
 m1:A'.md=A.md/\A'.cl=A.cl/\A'.cs=A.cs
 nk:A'.nk=A.nk
 na:A'.aw=A.aw\/(H A'.aw=none/\∃ o,H' A'.aw=some o)
def Fm.refl:Fm D A A H H:=⟨fun _ _ e _ _=>e,fun _ o e=>⟨o,e⟩,fun _ h=>.inl h,⟨rfl,rfl,rfl⟩,rfl,.inl rfl⟩
def Fm.trans(x:Fm D A A' H H')(y:Fm D A' A'' H' Zg):Fm D A A'' H Zg:=by
 refine⟨fun b o e h1 h2=>y.kp b o (x.kp b o e h1 h2) (fun z=>?_) h2,fun b o e=>?_,fun b hb=>?_,⟨y.m1.1.trans x.m1.1,y.m1.2.1.trans x.m1.2.1,y.m1.2.2.trans x.m1.2.2⟩,y.nk.trans x.nk,?_⟩
 ·rcases x.nw b z with z|z
  ·exact h1 z
  ·rw[z] at e;cases e
 ·obtain⟨u,e'⟩:=x.st b o e;exact y.st b u e'
 ·rcases y.nw b hb with z|z
  ·exact x.nw b z
  ·refine .inr ?_;cases e:H b with
   | none=>rfl
   | some o =>
    obtain⟨u,e'⟩:=x.st b o e;rw[z] at e';cases e'
 ·rcases y.na with z|⟨z,zz⟩
  ·rw[z];rcases x.na with w|⟨w,o,e⟩
   ·exact .inl w
   ·exact .inr ⟨w,y.st _ o e⟩
  ·refine .inr ⟨?_,zz⟩;cases e:H A''.aw with
   | none=>rfl
   | some o =>
    obtain⟨u,e'⟩:=x.st _ o e;rw[z] at e';cases e'
def Fm.awN(x:Fm D A A H H')(h:H a=none)(e:H' a=some o):Fm D A {A with aw:=a} H H':=⟨x.kp,x.st,x.nw,x.m1,x.nk,.inr ⟨h,o,e⟩⟩
def Fm.of(k:Kp [] H H'):Fm D A A H H':=⟨fun _ _ e _ _=>k.at e,fun _ o e=>⟨o,k.at e⟩,fun _ h=>.inl h,⟨rfl,rfl,rfl⟩,rfl,.inl rfl⟩
def Fm.set{b:Addr}{o:HO}(h:b∈A.mut\/b∈D):Fm D A A H (Ul H b o):=by
 refine⟨fun c u e h1 h2=>by rw[aE (fun z=>by subst z;exact h.elim h1 h2)];exact e,fun c u e=>?_,fun _ h=>.inl h,⟨rfl,rfl,rfl⟩,rfl,.inl rfl⟩;by_cases z:c=b
 ·subst z;exact⟨_,aA⟩
 ·exact⟨u,by rw[aE z];exact e⟩
def Fm.ofK{E:List Addr}(k:Kp E H H')(h:∀ b∈E,(b∈A.mut\/b∈D)/\∃ u,H' b=some u):Fm D A A H H':=by
 refine⟨fun b o e h1 h2=>k b o e (fun z=>(h b z).1.elim h1 h2),fun b o e=>?_,fun _ h=>.inl h,⟨rfl,rfl,rfl⟩,rfl,.inl rfl⟩;by_cases z:b∈E
 ·exact(h b z).2
 ·exact⟨o,k b o e z⟩
def Fm.od(F:Fm D A A H H')(h:H o2=none):Fm D A {A with od:=o2} H H':=by
 refine⟨F.kp,F.st,fun b hb=>?_,⟨rfl,rfl,rfl⟩,rfl,.inl rfl⟩;simp only[Fa.mut,Κ,Α,Δ,Φ] at hb ⊢;rcases hb with(rfl|rfl|rfl|rfl|rfl)|hb
 ·exact .inl 0e0
 ·exact .inl 0e0
 ·exact .inr h
 ·exact .inl 0e0
 ·exact .inl 0e0
 ·exact .inl (.inr hb)
def bQ.tup(F:bQ P H A S p){b:Addr}(hb:b∈A.mut):∃ o,H b=some o/\∀ xs,o≠.tup xs:=by
 obtain⟨ot,M,_⟩:=F.ex;obtain⟨kvs,em,_⟩:=M.hm;obtain⟨ds,ed,_⟩:=M.hd;obtain⟨lk,ml,el,hl,_⟩:=F.lt;simp only[Fa.mut,Κ,Α,Δ,Φ] at hb;rcases hb with(rfl|rfl|rfl|rfl|rfl)|hb
 ·exact⟨_,em,fun _ z=>by cases z⟩
 ·exact⟨_,M.hn,fun _ z=>by cases z⟩
 ·exact⟨_,M.ho,fun _ z=>by cases z⟩
 ·exact⟨_,ed,fun _ z=>by cases z⟩
 ·exact⟨_,el,fun _ z=>by cases z⟩
 ·obtain⟨xs,e⟩:=hl.ex b hb;exact⟨_,e,fun _ z=>by cases z⟩
def bQ.tkp(F:bQ P H A S p)(f:Fm [op] A A' H H')(e:H op=some (.lst us)):aD H H':=fun a xs h=>f.kp a _ h (fun z=>by
 obtain⟨o,e',n⟩:=F.tup z;rw[h] at e';cases e';exact n xs rfl) (by
 simp only[Α,Δ,Φ];intro z;subst z;rw[h] at e;cases e)
def Rz(h:op∉A.mut)(n:op≠o2):op∉({A with od:=o2}:Fa).mut:=by
 simp only[Fa.mut,Κ,Α,Δ,Φ,not_or] at h ⊢;exact⟨⟨h.1.1,h.1.2.1,n,h.1.2.2.2⟩,h.2⟩
def MC(h:∀ j∈OK6,∃ u,ot j=some u):∀ j∈OK6,∃ u,1e0 j=some u:=fun j hj=>by
 by_cases e:j=k
 ·exact⟨v,by simp[e]⟩
 ·obtain⟨u,z⟩:=h j hj;exact⟨u,by simp[e,z]⟩
def cX.six{H0:Hp}{md nd od:Addr}(M:cX H md nd od dd ot S)(e:H md=some (.dK kvs))(hk:k∈OK6)(hy:ot k=some y)(os:∀ j∈OK6,∃ u,ot j=some u)(KM:Kp D H0 H)(TM:aD H0 H)(hd:md∈D)(v:V){P:Hp->Prop}(h:∀ G,cX G md nd od dd 1e0 S->(∀ j∈OK6,∃ u,1e0 j=some u)->Kp D H0 G->aD H0 G->(∀ {b:Addr} {o:HO},H b=some o->o≠.dK kvs->G b=some o)->aD H G->Kp [md] H G->P G):P (Ul H md (.dK (aS kvs (.inr k) v))) :=
 h _ (M.ot6 e hk hy v) (MC os) (KM.trans (Kp.set hd)) (TM.trans (aD.cU e)) (fun e1 d=>cZ e e1 d) (aD.cU e) (Kp.set 0e0)
def tN(l:List (Key×V))(k:Key)(v:V):(aS l k v).length<=l.length+1:=by
 unfold aS;split<;>simp
theorem eK{a b:String}(h:a≠b:=by decide):(fun j=>if j=Str.ofString b then some v else ot j) 8e0=ot 8e0:=by
 simp only;rw[if_neg (sst h)]
def vY:1e0 k=some v:=by simp
end
end
mutual
example:=[(fun _ h=>nomatch h),(fun h=>nomatch h),Str×List Wo,Int×Wo,(by show S.sl.isN=true;rw[n];rfl),S.worth s,(by simp),.int (p':Int),.dK (aS kvs (.inr "at") 7e0),some i∈ws,s.wt ts hs,ans.take i,aD.cU M.hn,.wait x ss]
def cX.as{md nd od:Addr}{S':Pu}(M:cX H md nd od dd ot S)(h:S'.ar=S.ar/\S'.nw=S.nw/\S'.nm=S.nm/\S'.made=S.made/\S'.pend=S.pend/\S'.ans=S.ans):cX H md nd od dd ot S':=by
 obtain⟨h1,h2,h3,h4,h5,h6⟩:=h;exact⟨by rw[h1,h2,h4];exact M.hm,by rw[h3];exact M.hn,by rw[h5];exact M.ho,by rw[h6];exact M.hd,M.n1,M.n2,by rw[h5];exact M.asc,by rw[h5,h4];exact M.lt,by rw[h6];exact M.uq,by rw[h6,h5,h4];exact M.dis⟩
variable{as:List Addr}
def bQ.D0(F:bQ P H A S p)(s1:op∉A.mut)(s2:op≠A.cl)(s3:op∉A.cs){b:Addr}(hb:b=A.cl\/b∈A.cs\/b=A.ld\/b∈A.las):b≠A.md/\b≠A.nd/\b≠A.od/\b≠A.dd/\b≠op:=by
 obtain⟨a1,a2,a3,a4⟩:=F.far hb;refine⟨a1,a2,a3,a4,?_⟩;simp only[Fa.mut,Κ,Α,Δ,Φ,not_or] at s1;rcases hb with rfl|hb|rfl|hb
 ·exact s2.symm
 ·exact fun z=>s3 (z▸hb)
 ·exact fun z=>s1.1.2.2.2.2 z.symm
 ·exact fun z=>s1.2 (z▸hb)
def bQ.new(F:bQ P H A S p){x:Addr}(h:H x=none):(x≠A.cl/\x∉A.cs)/\(∀ a∈A.las,a≠x)/\x∉A.mut:=by
 obtain⟨lk,ml,el,hl,_⟩:=F.lt;refine⟨rD F.cl F.co h,fun a ha=>?_,fun z=>?_⟩
 ·obtain⟨xs,e⟩:=hl.ex a ha;exact aF e h
 ·obtain⟨o,e,_⟩:=F.tup z;rw[h] at e;cases e
def aZ:A.md∈A.mut/\A.nd∈A.mut/\A.od∈A.mut/\A.dd∈A.mut/\A.ld∈A.mut:=by simp[Fa.mut]
def MX(P:List Stm)(A:Fa)(op:Addr)(H:Hp)(Q:VK)(cs:Cmds)(z:Pu×Cmds):Prop:=∀(A':Fa) (p':Nat) (H':Hp),bQ P H' A' z.1 p'->gY H' A' op (cs++z.2)->Fm [op] A A' H H'->Q .Um H'
inductive JC(vs:List V)(H:Hp)(Q:VK)(E:XK):Prop
 | mk (P:List Stm) (A:Fa) (S:Pu) (p:Nat) (w:Wo) (op:Addr) (cs:Cmds) (_:vs=[.ref A.md,wv w,.ref op]) (_:bQ P H A S p) (_:gY H A op cs) (_:cs.length<=1000) (_:MX P A op H Q cs (S.ends w)):JC vs H Q E
inductive Dw(g:Stm->Prop)(vs:List V)(H:Hp)(Q:VK)(E:XK):Prop
 | mk (P:List Stm) (A:Fa) (S:Pu) (p:Nat) (v:V) (m:Stm) (_:vs=[.ref A.md,v]) (_:bQ P H A S p) (_:S.sl=.Um) (_:cG H v m) (_:g m) (_:m.gd true) (_:bL S.stk=some m) (_:S.pl.Ok) (_:S.nm.length<=100000) (_:S.pend.length<=100000) (_:S.ans.length<=100000) (_:∀(A':Fa) (p':Nat) (H':Hp),bQ P H' A' (one S m).1 p'->Fm [] A A' H H'->Q .Um H'):Dw g vs H Q E
theorem Ac(i:Int):∀ ws:List Wo,oM (.int i) (ws.map wv)=decide 9e0
 | []=>by simp[oM]
 | none::r=>by
  have:=Ac i r;simp only[ϔ,Α,reduceCtorEq,false_or] at this ⊢;rw[<- this];simp[oM,wv,oS]
 | some j::r=>by
  have:=Ac i r;simp only[ϔ,Α,Ο] at this ⊢;rw[Ε5] at this ⊢;simp only[Ε6] at this ⊢;rw[<- this];simp only[oM,List.any_cons,Bool.or_eq_true];constructor
  ·rintro(h|h)
   ·exact .inl (by simp only[oS,wv,beq_iff_eq] at h;omega)
   ·exact .inr h
  ·rintro(h|h)
   ·exact .inl (by simp only[oS,wv,beq_iff_eq];omega)
   ·exact .inr h
def Bk(ws:List Wo):(ws.map wv).all fD=true:=by simp[tP]
def Jq{K:q0B}{b:Addr}(ha:H a=some (.lst xs))(hb:H b=some (.lst [])):xP K H 1 a b xs.isEmpty:=by
 cases xs with
 | nil =>
  have:=xP.list (K:=K) (H:=H) (n:=0) (e:=fun _=>true) (eY.of ha) (eY.of hb) rfl (fun j x y e _=>by simp at e);simpa using this
 | cons x xs=>exact xP.Vt (eY.of ha) (eY.of hb) 6e0
theorem nC{pend:List Int}{j:Int}:∀ {ws:List Wo},j∈dO pend ws↔j∈pend/\some j∈ws
 | []=>by simp[dO]
 | none::r=>by simp only[dO,nC (ws:=r)];simp
 | some i::r=>by
  simp only[dO];split
  ·next h =>
   simp only[Α,nC (ws:=r),Ο];constructor
   ·rintro(rfl|h2)
    ·exact⟨h,.inl rfl⟩
    ·exact⟨h2.1,.inr h2.2⟩
   ·rintro⟨h1,rfl|h2⟩
    ·exact .inl rfl
    ·exact .inr ⟨h1,h2⟩
  ·next h =>
   simp only[Α,nC (ws:=r),Ο];constructor
   ·rintro⟨h1,h2⟩;exact⟨h1,.inr h2⟩
   ·rintro⟨h1,rfl|h2⟩
    ·exact absurd h1 h
    ·exact⟨h1,h2⟩
theorem BQ(h:pend.Pairwise (· < ·))(ws:List Wo):pend.filter (fun i=>decide 9e0)=bN pend ws:=by
 refine mR ((List.perm_ext_iff_of_nodup ?_ ((gN pend ws).imp fun h=>by omega)).mpr fun j=>?_) ((h.filter _).imp fun h=>by omega) (gN pend ws)
 ·exact(h.filter _).imp fun h=>by omega
 ·rw[kX,nC,Α6];simp
def dF(ans:List 3e0)(ws:List Wo):List Int:=(ans.filter fun p=>decide (some p.1∈ws)).map (·.1)
def mM(ans:List 3e0)(ws:List Wo):bB ans ws=(dF ans ws).head?:=by
 unfold bB dF
 induction ans with
 | nil=>rfl
 | cons x r ih =>
  by_cases h:some x.1∈ws
  ·simp[Δ2,h]
  ·simp only[Δ2,List.filter_cons,h,decide_false,ϙ,Β5];exact ih
theorem Ds(e:ans[i]?=some (j,w)):(dF (ans.take (i+1)) ws).map V.int=if decide (some j∈ws)=true then (dF 1e1 ws).map V.int++[.int j] else (dF 1e1 ws).map V.int:=by
 unfold dF;rw[Α9,e,Α1,List.filter_append];by_cases h:some j∈ws<;>simp[h]
def Fq{l:List Int}{q:Int->Bool}(e:l[i]?=some j):((l.take (i+1)).filter q).map V.int=if q j=true then ((l.take i).filter q).map V.int++[.int j] else ((l.take i).filter q).map V.int:=by
 rw[Α9,e,Α1,List.filter_append];by_cases h:q j=true<;>simp[h]
def Jr(ans:List 3e0)(ws:List Wo):((dF ans ws).map V.int++[V.Um])[0]?=some (wv (bB ans ws)):=by
 rw[mM];cases dF ans ws<;>rfl
def Gz(ans:List 3e0)(ws:List Wo):(dF ans ws).length<=ans.length:=by
 rw[dF,Γ];exact Γ8 _ _
theorem kU:∀(l:List 2e0) (k:Str) (r:List Wo) (j:Str),aM (dJ l k r) j=if j=k then (aM l k).map (fun _=>r) else aM l j
 | [],k,r,j=>by simp[aM,dJ]
 | p::l,k,r,j=>by
  have ih:=kU l k r j;by_cases h:p.1=k
  ·by_cases hj:j=k
   ·subst hj;simp[dJ,aM,h]
   ·have:¬ p.1=j:=fun z=>hj (z▸h);have hk:¬ k=j:=fun z=>hj z.symm;simp[dJ,aM,h,hj,hk]
  ·simp only[dJ,h,Β5,aM,ih];by_cases hj:j=k
   ·subst hj;simp[h]
   ·simp[hj]
theorem nG:∀(l:List 2e0) (k:Str) (r:List Wo),(dJ l k r).map (·.1)=l.map (·.1)
 | [],_,_=>rfl
 | p::l,k,r=>by
  simp only[dJ];split
  ·rfl
  ·simp[nG l k r]
def uO{l:List 2e0}{r':List Wo}(h:(aM l k).getD []=w::r')(r:List Wo)(j:Str):(aM (dJ l k r) j).getD []=if j=k then r else (aM l j).getD []:=by
 rw[kU];by_cases hj:j=k
 ·rw[if_pos hj,if_pos hj];cases e:aM l k with
  | none=>rw[e] at h;simp at h
  | some v=>rfl
 ·rw[if_neg hj,if_neg hj]
def Slp.md:Slp->Str
 | .new=>"new" | .Um=>"on" | .wait _=>"wait" | .Ur _=>"hear" | .ended _=>"ended" | .worn=>"worn"
def eT.md{s:Slp}(h:eT H A ot s):ot "mode"=some (.str s.md):=by
 cases s with
 | wait ts=>exact h.1
 | ended w=>exact h.1
 | _=>exact h
def Rw(s:Slp):(s.md=("on":Str))=(s.isN=true):=by
 cases s<;>simp[Slp.md,Slp.isN,cH]
def oV(h:bL S.bD.stk=none)(n:Nat):dX n S=S.bD.ends none:=by
 cases n<;>simp only[dX,h]
def yR(h:bL S.bD.stk=some m):dX 0 S=S.bD.pU:=by simp only[dX,h]
def yQ(h:bL S.bD.stk=some m)(n:Nat):dX (n+1) S=if (one S.bD m).1.sl.isN=true then ((dX n (one S.bD m).1).1,(one S.bD m).2++(dX n (one S.bD m).1).2) else one S.bD m:=by simp only[dX,h]
def Ie(h:bO st=bO S.stk)(n:Nat):dX n {S with stk:=st}=dX n S:=by
 have e:({S with stk:=st}:Pu).bD=S.bD:=by simp only[Pu.bD,h]
 cases n<;>simp only[dX,e]
def bQ.stk(F:bQ P H A S p)(h:Ps P st p):bQ P H A {S with stk:=st} p:=by
 obtain⟨ot,M,os,c1,c2,c3,c4⟩:=F.ex;exact F.n8 (M.as ⟨rfl,rfl,rfl,rfl,rfl,rfl⟩) os c1 c2 c3 c4 (fun _ _ e _=>e) (fun _ _ e=>e) rfl h
def bQ.setAt(F:bQ P H A S p)(e:H A.md=some (.dK kvs)){p':Nat}(h:Ps P st p'):bQ P (Ul H A.md 8e0) A {S with stk:=st} p':=by
 obtain⟨ot,M,os,c1,c2,c3,c4⟩:=F.ex;refine F.n8 ((M.ot6 e (k:="at") (by simp[OK6]) c2 7e0).as ⟨rfl,rfl,rfl,rfl,rfl,rfl⟩) (MC os) ((eK).trans c1) vY ((eK).trans c3) ?_ (fun b o z hb=>by rw[aE (F.far hb).1];exact z) (aD.cU e) rfl h;have c5:=eT.keep (H':=Ul H A.md 8e0) c4 (fun b o z hb=>by rw[aE (fun y=>hb (by rw[y];exact aZ.1))];exact z);show eT _ _ _ S.sl;cases hs:S.sl with
 | wait ts=>rw[hs] at c5;obtain⟨a1,a2,a3,a4⟩:=c5;exact⟨(eK).trans a1,(eK).trans a2,a3,a4⟩
 | ended w=>rw[hs] at c5;exact⟨(eK).trans c5.1,(eK).trans c5.2⟩
 | _=>rw[hs] at c5;exact(eK).trans c5
def gY.md(h:gY H A op cs)(e:H A.md=some (.dK kvs))(Xo:List (Key×V)):gY (Ul H A.md (.dK Xo)) A op cs:=by
 obtain⟨us,eo,hC,s⟩:=h;exact⟨us,cZ e eo,hC.kt (aD.cU e),s⟩
theorem L9(h:SA st):st.length<=21:=by
 cases st with
 | nil=>simp
 | cons x r=>obtain⟨a,b,c⟩:=x;have:=h.1;simp only[Ζ];omega
inductive MG(vs:List V)(H:Hp)(Q:VK)(E:XK):Prop
 | mk (P:List Stm) (A:Fa) (S:Pu) (p:Nat) (op:Addr) (N:Nat) (_:vs=[.ref A.md,.ref op]) (_:bQ P H A S p) (_:gY H A op []) (_:Uy true {S with sl:=.Um} N) (_:N<=90000) (_:MX P A op H Q [] (dX 300 {S with sl:=.Um})):MG vs H Q E
def Rr(m:Stm):oM (.str m.kw) [.str "if",.str "while"]=m.isB:=by
 cases m<;>simp[oM,oS,Stm.kw,Stm.isB,cH]
def Ru(m:Stm):(m.kw=("wait":Str))=(∃ x ss,m=.wait x ss):=by
 cases m<;>simp[Stm.kw,cH]
def Rq(m:Stm):(m.kw=("hear":Str))=(∃ x k,m=.Ur x k):=by
 cases m<;>simp[Stm.kw,cH]
def Rp(m:Stm):(m.kw=("end":Str))=(∃ s,m=.fin s):=by
 cases m<;>simp[Stm.kw,cH]
def Ib(h:m.Bt=true)(g:m.gd true):m.gd false:=by
 cases m<;>first|exact g|cases h
def Fm.mono{E:List Addr}{A':Fa}(x:Fm D A A' H H')(h:∀ a∈D,a∈E:=by simp):Fm E A A' H H':=⟨fun b o e h1 h2=>x.kp b o e h1 fun z=>h2 (h b z),x.st,x.nw,x.m1,x.nk,x.na⟩
def Fm.to{A':Fa}(x:Fm D A A' H H')(n:Nat):Fm D {A with nk:=n} {A' with nk:=n} H H':=⟨x.kp,x.st,x.nw,x.m1,rfl,x.na⟩
def Fm.eta{A':Fa}(x:Fm D A A' H H'):Fm D A {A' with nk:=A.nk} H H':=⟨x.kp,x.st,x.nw,x.m1,rfl,x.na⟩
def gY.fm{A':Fa}(O:gY H A op cs)(F:bQ P H A S p)(W:Fm [] A A' H H'):gY H' A' op cs:=by
 obtain⟨us,eo,hC,s1,s2,s3⟩:=O;have T:=F.tkp (W.mono (E:=[op]) 6e0) eo;refine⟨us,W.kp _ _ eo s1 6e0,hC.kt T,fun z=>?_,by rw[W.m1.2.1];exact s2,by rw[W.m1.2.2];exact s3⟩;rcases W.nw op z with z|z
 ·exact s1 z
 ·rw[z] at eo;cases eo
def MB(h:(∃ x ss,m=.wait x ss)\/∃ x k,m=.Ur x k):(one S m).2=[]:=by
 rcases h with⟨x,ss,rfl⟩|⟨x,k,rfl⟩
 ·rw[jU rfl];simp only[bT];split<;>rfl
 ·rw[jU rfl];simp only[bT];split<;>rfl
def En:one S (.fin s)=S.ends 5e0:=by
 rw[jU rfl];rfl
def I8(h:m.Bt=true)(n:S.sl=.Um):one S m=((bT S m).1.pass,(bT S m).2):=by
 have hb:m.isB=false:=by cases m<;>first|rfl|cases h
 rw[jU hb,if_pos (by rw[(DV h).1,n];rfl)]
def tF:one S (.UG s b)=(if num 5e0=0 then S.pass else S.enter 0 b,[]):=by rw[BN rfl];rfl
def tE{o:List Stm}:one S (.iff s b o)=(if num 5e0=0 then S.enter 1 o else S.enter 0 b,[]):=by rw[BN rfl];rfl
def RJ(h1:¬ m.isB=true)(h2:¬ ∃ x ss,m=.wait x ss)(h3:¬ ∃ x k,m=.Ur x k)(h4:¬ ∃ s,m=.fin s):m.Bt=true:=by
 cases m<;>first|rfl|exact absurd rfl h1|exact absurd ⟨_,_,rfl⟩ h2|exact absurd ⟨_,_,rfl⟩ h3|exact absurd ⟨_,rfl⟩ h4
def bQ.RU(F:bQ P H A S p)(x:Str)(w:Wo):bQ P (Ul H A.nd (.dK (fE (bZ S.nm x w)))) A {S with nm:=bZ S.nm x w} p:=by
 obtain⟨ot,M,os,c1,c2,c3,c4⟩:=F.ex;exact F.n8 (M.name x w) os c1 c2 c3 (c4.keep fun b o z hb=>by rw[aE (fun y=>hb (by rw[y];exact aZ.2.1))];exact z) (fun b o z hb=>by rw[aE (F.far hb).2.1];exact z) 2e1 rfl F.ps
def gY.nd(h:gY H A op cs)(F:bQ P H A S p)(Xo:List (Key×V)):gY (Ul H A.nd (.dK Xo)) A op cs:=by
 obtain⟨us,eo,hC,s⟩:=h;obtain⟨ot,M,_⟩:=F.ex;exact⟨us,cZ M.hn eo,hC.kt 2e1,s⟩
inductive Jz(vs:List V)(H:Hp)(Q:VK)(E:XK):Prop
 | mk (P:List Stm) (A:Fa) (S:Pu) (p:Nat) (w:Wo) (op:Addr) (N:Nat) (_:vs=[.ref A.md,wv w,.ref op]) (_:bQ P H A S p) (_:gY H A op []) (_:Uy true S N) (_:N<=80000) (_:eI w) (_:((∃ k,S.sl=.Ur k)\/∃ ts,S.sl=.wait ts)) (_:MX P A op H Q [] (S.wake w)):Jz vs H Q E
def Mg(F:Uy wt S N)(h:(∃ k,S.sl=.Ur k)\/∃ ts,S.sl=.wait ts):∃ x m,bL S.stk=some m/\m.isB=false/\(∀(H:Hp) v,cG H v m->∃ a kw xs,v=.ref a/\H a=some (.tup (.str kw::.str x::xs)))/\∀ w,S.wake w=dX 300 {S with nm:=bZ S.nm x w,stk:=fO S.stk,sl:=.Um}:=by
 rcases h with⟨k,hk⟩|⟨ts,hk⟩
 ·obtain⟨x,UC⟩:=F.sl.1 k hk;exact⟨x,_,UC,rfl,fun H v h=>by cases h with|Ur e=>exact⟨_,_,_,rfl,e⟩,fun w=>by simp only[Pu.wake,UC]⟩
 ·obtain⟨x,ss,UC⟩:=F.sl.2 ts hk;exact⟨x,_,UC,rfl,fun H v h=>by cases h with|wait e _ _=>exact⟨_,_,_,rfl,e⟩,fun w=>by simp only[Pu.wake,UC]⟩
structure Std(S:Pu):Prop where
 nw:S.sl=.new->S.nw=0/\S.pend=[]
 en:∀ w,S.sl=.ended w->S.pend=[]
 wo:S.sl=.worn->S.pend=[]
 he:∀ k,S.sl=.Ur k->(aM S.lt k).getD []=[]
 wt:∀ ts,S.sl=.wait ts->∃ x ss,bL S.stk=some 3e1/\ts.length<=ss.length
theorem Br(i:Int):∀ l:List Int,(uS i l).length<=l.length+1
 | []=>by simp[uS]
 | j::r=>by
  have:=Br i r;simp only[uS];split
  ·simp
  ·split
   ·simp
   ·simp only[Ζ];omega
theorem oI(pend:List Int):∀ ws:List Wo,(bN pend ws).length<=ws.length
 | []=>by simp[bN]
 | none::r=>by have:=oI pend r;simp only[bN,Ζ];omega
 | some i::r=>by
  have:=oI pend r;have:=Br i (bN pend r);simp only[bN,Ζ];split<;>omega
def ET(b:List Stm):Std (fI b):=⟨fun _=>⟨rfl,rfl⟩,0e0,1e0,0e0,0e0⟩
def xC(S:Pu)(w:Wo):Std (S.ends w).1:=⟨1e0,fun _ _=>rfl,1e0,0e0,0e0⟩
def L8(st:bL S.stk=some m)(n:S.sl=.Um)(h:¬ (one S m).1.sl.isN=true):Std (one S m).1:=by
 by_cases hb:m.isB=true
 ·exfalso;apply h;rw[BN hb];cases m<;>first|(simp only[rP];split<;>(show S.sl.isN=true;rw[n];rfl))|cases hb
 ·rw[jU (by simpa using hb)] at h ⊢;by_cases hd:(bT S m).1.sl.isN=true
  ·exfalso;apply h;rw[if_pos hd];exact hd
  ·rw[if_neg hd];cases m with
   | Ur x k =>
    simp only[bT] at hd ⊢;split
    ·next e=>rw[e] at hd;exact absurd 4e0 hd
    ·next e=>exact⟨1e0,0e0,1e0,fun k' hk=>by cases hk;exact e,0e0⟩
   | wait x ss =>
    simp only[bT] at hd ⊢;split
    ·exact⟨1e0,0e0,1e0,0e0,fun ts X2=>by
      cases X2;refine⟨x,ss,st,?_⟩;have:=oI S.pend (ss.map S.worth);rw[Γ] at this;exact this⟩
    ·next e=>rw[if_neg e] at hd;exact absurd 4e0 hd
   | fin s=>exact xC S _
   | drop s =>
    exfalso;apply hd;simp only[bT];split
    ·split<;>(show S.sl.isN=true;rw[n];rfl)
    ·show S.sl.isN=true;rw[n];rfl
   | UG _ _=>exact absurd rfl hb
   | iff _ _ _=>exact absurd rfl hb
   | _=>exact absurd 4e0 hd
theorem oY:∀(n:Nat) (S:Pu),S.sl=.Um->Std (dX n S).1
 | 0,S,h=>by
  cases e:bL S.bD.stk with
  | none=>rw[oV e];exact xC _ _
  | some m=>rw[yR e];exact⟨1e0,0e0,fun _=>rfl,0e0,0e0⟩
 | n+1,S,h=>by
  cases e:bL S.bD.stk with
  | none=>rw[oV e];exact xC _ _
  | some m =>
   rw[yQ e];split
   ·next hn=>exact oY n _ (nB hn)
   ·next hn=>exact L8 e h hn
def Cr(h:Std S)(w:Wo):Std (S.wake w).1:=by
 unfold Pu.wake;split
 ·exact oY _ _ rfl
 ·exact oY _ _ rfl
 ·exact h
def uY(l:List 2e0)(k:Str)(w:Wo)(j:Str):(aM (fJ l k w) j).getD []=if j=k then (aM l k).getD []++[w] else (aM l j).getD []:=by
 unfold fJ;cases e:aM l k with
 | some ws =>
  simp only;rw[kU];by_cases hj:j=k
  ·rw[if_pos hj,if_pos hj,e];rfl
  ·rw[if_neg hj,if_neg hj]
 | none =>
  simp only;have app:∀(l:List 2e0),aM (l++[(k,[w])]) j=match aM l j with|some v=>some v|none=>if k=j then some [w] else none:=fun l=>by
   induction l with
   | nil=>simp[aM]
   | cons x r ih =>
    simp only[ϐ,aM];split
    ·rfl
    ·exact ih
  rw[app];by_cases hj:j=k
  ·subst hj;rw[e];simp
  ·rw[if_neg hj];cases aM l j with
   | some v=>rfl
   | none=>simp only;rw[if_neg (fun z:k=j=>hj z.symm)]
def Cq{ts:List Int}(h:S.sl=.wait ts)(w:∃ x ss,bL S.stk=some 3e1/\ts.length<=ss.length):Std S:=by
 refine⟨fun z=>?_,fun _ z=>?_,fun z=>?_,fun _ z=>?_,fun j z=>?_⟩
 ·rw[h] at z;cases z
 ·rw[h] at z;cases z
 ·rw[h] at z;cases z
 ·rw[h] at z;cases z
 ·rw[h] at z;cases z;exact w
def xD(h:S.sl=.Ur k)(e:(aM S.lt k).getD []=[]):Std S:=by
 refine⟨fun z=>?_,fun _ z=>?_,fun z=>?_,fun j z=>?_,fun _ z=>?_⟩
 ·rw[h] at z;cases z
 ·rw[h] at z;cases z
 ·rw[h] at z;cases z
 ·rw[h] at z;cases z;exact e
 ·rw[h] at z;cases z
def Cp(s:Std S)(n:S.sl.isN=false)(h:Hap):Std (S.take h).1:=by
 unfold Pu.take;split
 ·exact s
 ·next ho =>
  cases h with
  | U2 m w=>exact oY _ _ rfl
  | don m i w =>
   cases hs:S.sl with
   | wait ts =>
    have sd:Std ((S.at' m).done i w):=Cq (show((S.at' m).done i w).sl=.wait ts from hs) 0e1;simp only[Pu.fS,show(S.at' m).sl=S.sl from rfl,hs];split
    ·exact Cr sd _
    ·exact sd
   | Ur k =>
    simp only[Pu.fS,show(S.at' m).sl=S.sl from rfl,hs];exact xD (show((S.at' m).done i w).sl=.Ur k from hs) (s.he k hs)
   | Um=>rw[hs] at n;cases n
   | new=>simp[Pu.over,hs] at ho
   | ended w'=>simp[Pu.over,hs] at ho
   | worn=>simp[Pu.over,hs] at ho
  | ltr m k w =>
   cases hs:S.sl with
   | wait ts =>
    simp only[Pu.fF,show(S.at' m).sl=S.sl from rfl,hs];exact Cq rfl 0e1
   | Ur k' =>
    simp only[Pu.fF,show(S.at' m).sl=S.sl from rfl,hs];split
    ·exact Cr (xD (show(S.at' m).sl=.Ur k' from hs) (s.he k' hs)) _
    ·next hk =>
     refine xD rfl ?_;show(aM (fJ S.lt k w) k').getD []=[];rw[uY,if_neg hk];exact s.he k' hs
   | Um=>rw[hs] at n;cases n
   | new=>simp[Pu.over,hs] at ho
   | ended w'=>simp[Pu.over,hs] at ho
   | worn=>simp[Pu.over,hs] at ho
end
section
mutual
example:=[(c4.keep fun b o z hb=>by rw[aE (fun y=>hb (by rw[y];exact aZ.1))];exact z),(fun b o z hb=>by rw[aE (F.far hb).1];exact z),Ul H A.dd (.lst (ds++[.ref t]))]
def bQ.Ju(F:bQ P H A S p)(e:H A.md=some (.dK kvs))(m:Int):bQ P (Ul H A.md (.dK (aS kvs (.inr "now") (.int m)))) A {S with nw:=m} p:=by
 obtain⟨ot,M,os,c1,c2,c3,c4⟩:=F.ex;exact F.n8 (M.now e m) os c1 c2 c3 0e0 1e0 (aD.cU e) rfl F.ps
def bQ.RS(F:bQ P H A S p)(e:H A.md=some (.dK kvs))(w:Wo):bQ P (Ul H A.md (.dK (aS kvs (.inr "arg") (wv w)))) A {S with ar:=w} p:=by
 obtain⟨ot,M,os,c1,c2,c3,c4⟩:=F.ex;exact F.n8 (M.arg e w) os c1 c2 c3 0e0 1e0 (aD.cU e) rfl F.ps
def bQ.RV(F:bQ P H A S p)(a:pd.Pairwise (· < ·))(b:∀ i∈pd,0<=i/\i < S.made)(c:∀ q∈S.ans,q.1∉pd):bQ P (Ul H A.od (.lst (pd.map V.int))) A {S with pend:=pd} p:=by
 obtain⟨ot,M,os,c1,c2,c3,c4⟩:=F.ex;exact F.n8 (M.open a b c) os c1 c2 c3 (c4.keep fun b o z hb=>by rw[aE (fun y=>hb (by rw[y];exact aZ.2.2.1))];exact z) (fun b o z hb=>by rw[aE (F.far hb).2.2.1];exact z) (aD.cU M.ho) rfl F.ps
def bQ.MY(F:bQ P H A S p)(e:H A.dd=some (.lst ds)){t:Addr}{i:Int}(et:H t=some (.tup [.int i,wv w]))(n1:i∉S.ans.map (·.1))(n2:i∉S.pend)(n3:i < S.made):bQ P 2e0 A {S with ans:=S.ans++[(i,w)]} p:=by
 obtain⟨ot,M,os,c1,c2,c3,c4⟩:=F.ex;obtain⟨kv,e',r⟩:=M.hm;obtain⟨ds',e2,r2⟩:=M.hd;rw[e] at e2;cases e2;have T:aD H 2e0:=aD.cU e;refine F.n8 (ot':=ot) ⟨⟨kv,cZ e e',r⟩,cZ e M.hn,by rw[aE M.n2];exact M.ho,⟨_,aA,(r2.snoc et).kt T⟩,M.n1,M.n2,M.asc,M.lt,?_,?_⟩ os c1 c2 c3 (c4.keep fun b o z hb=>by rw[aE (fun y=>hb (by rw[y];exact aZ.2.2.2.1))];exact z) (fun b o z hb=>by rw[aE (F.far hb).2.2.2];exact z) T rfl F.ps
 ·show((S.ans++[(i,w)]).map (·.1)).Nodup;rw[Α7];exact Ϝ.mpr ⟨M.uq,by simp,fun x hx y hy z=>n1 (by rw[show y=i by simpa using hy] at z;rw[<- z];exact hx)⟩
 ·intro q hq;rcases Κ.mp hq with hq|hq
  ·exact M.dis q hq
  ·rw[show q=(i,w) by simpa using hq];exact⟨n2,n3⟩
def gY.put{b:Addr}{u:HO}(h:gY H A op cs)(e:H b=some o)(hb:b∈A.mut)(d:∀ xs,o≠.tup xs):gY (Ul H b u) A op cs:=by
 obtain⟨us,eo,hC,s⟩:=h;exact⟨us,by rw[aE (fun z=>s.1 (by rw[z];exact hb))];exact eo,hC.kt (aD.cU e d),s⟩
end
end
mutual
example:=[(by omega),FC×Fr,(by simp),(fun x _=>[x]),Β2 _,(by simp[z]),I++[x],(fun _ z=>by cases z),.lst us,f.b2.getD [],N+302,(Ul H fl (.lst (I.map fun x=>.ref x.1.fa))),(fun x _ _=>[x]),(fun _ _=>Θ 1),Str×List Wo,(by simp[y]),(fun _=>[]),(z▸ha),(I++[(x.1,x.2.add (fB y.2 i s))]),(0<=h.m/\h.m<=1000000000000),fB y.2 i s,x.2.b2.getD [],.ref l2,(by simp[hy]),I++[x]++[y],h.same rfl,.inr k,List Stm,vs++[v],(Ul H fl (.lst ((L++[((⟨fa,f1,none⟩:FC),(⟨h,[],none⟩:Fr))]).map fun x=>.ref x.1.fa))),(if _ then (Internal.bT S m).1.pass else (Internal.bT S m).1),(Ul H x.1.fa (.lst [hv,.ref x.1.f1,.ref a])),(if _ then S.enter 1 o else S.enter 0 b),(if _ then S.pass else S.enter 0 b),((I++[x]).map fun x=>V.ref x.1.fa),.lst (us++[v]),Ul H x.1.cur 5e3,aS kvs (.inr k) (.ref l2),.inr (.inr (.inr rfl)),(fun _ _ _ b o=>b++o),.lst (ms.map V.int),Nat.add_le_add h g,(fun _ _ a r=>a++r),(by simp[FC.cells]),.lst (ws.map wv),(fun _ _ _=>Θ 1),Nat.le_of_eq Ν,.inr (.inl rfl),F2.wake e hi _,F1.wake e hw _,(fun _ _ _=>[]),hx m k w rfl,(fun _=>Α2 1),(fun _ _ b=>b),(by simp[hx]),.ref x.1.fa,(by cases e),Bool×Say]
def fX.keys(h:fX H kvs as lt):kvs.map (·.1)=lt.map fun p=>Key.inr p.1:=by
 induction h with
 | nil=>rfl
 | cons _ _ ih=>simp[ih]
def fX.Js{l2:Addr}(e2:H l2=some 4e4)(h:fX H kvs as lt):(lt.map (·.1)).Nodup->as.Nodup->l2∉as->(∃ v,aM lt k=some v)->∃ UM,fX H (kvs.map fun kv=>if kv.1=.inr k then (kv.1,.ref l2) else kv) UM (dJ lt k ws)/\UM.Nodup/\(∀ a∈UM,a=l2\/a∈as)/\l2∈UM:=by
 induction h with
 | nil=>intro _ _ _ ⟨v,z⟩;simp[aM] at z
 | @cons a j vs kvs as lt e hr ih =>
  intro nk na n2 ⟨v,z⟩;rw[ϔ,Ϙ] at nk;rw[Ϙ] at na;by_cases hj:j=k
  ·subst hj;have same:(kvs.map fun kv=>if kv.1=.inr j then (kv.1,.ref l2) else kv)=kvs:=by
    conv=>rhs;rw[<- List.map_id kvs]
    refine List.map_congr_left fun kv hkv=>?_;have:kv.1∈kvs.map (·.1):=List.mem_map_of_mem hkv;rw[hr.keys] at this;obtain⟨q,hq,eq⟩:=Β0.mp this;have:¬ kv.1=.inr j:=fun y=>nk.1 (by
     rw[<- eq] at y;cases y;exact Β0.mpr ⟨q,hq,rfl⟩)
    simp[this]
   refine⟨l2::as,?_,Ϙ.mpr ⟨fun y=>n2 5e1,na.2⟩,fun b hb=>?_,by simp⟩
   ·rw[ϔ,same,dJ,if_pos rfl,if_pos rfl];exact .cons e2 hr
   ·rcases Α.mp hb with hb|hb
    ·exact .inl hb
    ·exact .inr (by simp[hb])
  ·obtain⟨UM,h1,h2,h3,h4⟩:=ih nk.2 na.2 (fun y=>n2 5e1) ⟨v,by simpa[aM,hj] using z⟩;refine⟨a::UM,?_,Ϙ.mpr ⟨fun y=>?_,h2⟩,fun b hb=>?_,by simp[h4]⟩
   ·rw[ϔ,if_neg (fun y=>hj (Key.inr.inj y)),dJ,if_neg hj];exact .cons e h1
   ·rcases h3 a y with y|y
    ·exact n2 5e1
    ·exact na.1 y
   ·rcases Α.mp hb with rfl|hb
    ·exact .inr 2e0
    ·rcases h3 b hb with y|y
     ·exact .inl y
     ·exact .inr 5e1
def fX.Tq{l2:Addr}(e2:H l2=some 4e4)(h:fX H kvs as lt)(nk:(lt.map (·.1)).Nodup)(na:as.Nodup)(n2:l2∉as):∃ UM lt',fX H 7e3 UM lt'/\(lt'.map (·.1)).Nodup/\UM.Nodup/\(∀ a∈UM,a=l2\/a∈as)/\l2∈UM/\aX 7e3 6e2=some 2e2/\∀ j,(aM lt' j).getD []=if j=k then ws else (aM lt j).getD []:=by
 rcases h.look k with⟨z1,z2⟩|⟨a,vs,z1,z2,z3,z4⟩
 ·refine⟨as++[l2],lt++[(k,ws)],?_,?_,Ϝ.mpr ⟨na,by simp,fun x hx y hy z=>n2 (by rw[show y=l2 by simpa using hy] at z;rw[<- z];exact hx)⟩,fun a ha=>(Κ.mp ha).elim .inr (fun y=>.inl (by simpa using y)),by simp,Sf,fun j=>?_⟩
  ·have:aS kvs 6e2 2e2=kvs++[(.inr k,.ref l2)]:=by
    unfold aS;rw[hJ,z1];simp
   rw[this];exact h.snoc e2
  ·rw[Α7];refine Ϝ.mpr ⟨nk,by simp,fun x hx y hy z=>?_⟩;obtain⟨q,hq,e⟩:=Β0.mp hx;have:∀(l:List 4e1),q∈l->aM l k≠none:=fun l=>by
    induction l with
    | nil=>simp
    | cons u r ih =>
     intro hu;rcases Α.mp hu with rfl|hu
     ·simp[aM,e,z,show y=k by simpa using hy]
     ·simp only[aM];split
      ·simp
      ·exact ih hu
   exact this lt hq z2
  ·have app:∀(l:List 4e1),aM (l++[(k,ws)]) j=match aM l j with|some v=>some v|none=>if k=j then some ws else none:=fun l=>by
    induction l with
    | nil=>simp[aM]
    | cons x r ih =>
     simp only[ϐ,aM];split
     ·rfl
     ·exact ih
   rw[app];by_cases hj:j=k
   ·subst hj;rw[z2];simp
   ·rw[if_neg hj];cases aM lt j with
    | some v=>rfl
    | none=>simp only;rw[if_neg (fun z:k=j=>hj z.symm)]
 ·obtain⟨UM,h1,h2,h3,h4⟩:=h.Js e2 nk na n2 ⟨vs,z2⟩;refine⟨UM,dJ lt k ws,?_,by rw[nG];exact nk,h2,h3,h4,Sf,fun j=>?_⟩
  ·have:aS kvs 6e2 2e2=kvs.map fun kv=>if kv.1=.inr k then (kv.1,.ref l2) else kv:=by
    unfold aS;rw[hJ,z1];simp
   rw[this];exact h1
  ·rw[kU];by_cases hj:j=k
   ·rw[if_pos hj,if_pos hj,z2];rfl
   ·rw[if_neg hj,if_neg hj]
def LR{k:Key}{x:V}:(aS kvs k x).length<=kvs.length+1:=by
 unfold aS;split<;>simp
def cX.Mx{md nd od:Addr}(M:cX H md nd od dd ot S)(k:∀ a o,H a=some o->a=md\/a=nd\/a=od\/a=dd->H' a=some o)(T:aD H H'):cX H' md nd od dd ot S:=by
 obtain⟨kvs,e,r⟩:=M.hm;obtain⟨ds,e2,r2⟩:=M.hd;exact {M with hm:=⟨kvs,k _ _ e (.inl rfl),r⟩,hn:=k _ _ M.hn 7e4,ho:=k _ _ M.ho (.inr 7e4),hd:=⟨ds,k _ _ e2 8e3,r2.kt T⟩}
def eT.las{s:Slp}(h:eT H A ot s){las:List Addr}(hl:∀ a∈las,a∈A.las\/H a=none)(k:∀ b o,H b=some o->b∉A.mut->H' b=some o):eT H' {A with las:=las,nk:=n} ot s:=by
 cases s with
 | wait ts =>
  obtain⟨h1,h2,h3,h4⟩:=h;refine⟨h1,h2,k _ _ h3 h4,fun z=>?_⟩;simp only[Fa.mut,Κ,Α,Δ,Φ,not_or] at h4 z;rcases z with z|z
  ·rcases z with z|z|z|z|z
   ·exact h4.1.1 z
   ·exact h4.1.2.1 z
   ·exact h4.1.2.2.1 z
   ·exact h4.1.2.2.2.1 z
   ·exact h4.1.2.2.2.2 z
  ·rcases hl A.aw z with z|z
   ·exact h4.2 z
   ·rw[z] at h3;cases h3
 | _=>exact h
def Ei{las:List Addr}{b:Addr}(h:b∈({A with las:=las,nk:=n}:Fa).mut):b∈A.mut\/b∈las:=by
 simp only[Fa.mut,Κ,Α,Δ,Φ] at h ⊢;rcases h with h|h
 ·exact .inl (.inl h)
 ·exact .inr h
inductive Cf(vs:List V)(H:Hp)(Q:VK)(E:XK):Prop
 | mk (P:List Stm) (A:Fa) (S:Pu) (p:Nat) (v:V) (h:Hap) (N:Nat) (_:vs=[.ref A.md,v]) (_:bQ P H A S p) (_:nL H v h) (_:(9e1/\eI h.w)) (_:Uy true S N) (_:N<=70000) (_:S.sl.isN=false) (_:Std S) (_:A.nk<=1000) (_:∀(A':Fa) (p':Nat) (op:Addr) (us:List V) (H':Hp),bQ P H' A' (S.take h).1 p'->H op=none->H' op=some 8e0->jF H' us (S.take h).2->op∉A'.mut->Fm [] A {A' with nk:=A.nk} H H'->A'.nk<=A.nk+1->Q (.ref op) H'):Cf vs H Q E
def Slp.wh:Slp->Bool
 | .wait _=>true
 | .Ur _=>true
 | _=>false
def Rx(s:Slp):oM (.str s.md) [.str "wait",.str "hear"]=s.wh:=by
 rw[Ε5];cases s<;>simp[oM,oS,Slp.md,Slp.wh,cH]
def Sv{s:Slp}(h:s.wh=true):(∃ k,s=.Ur k)\/∃ ts,s=.wait ts:=by
 cases s<;>first|exact .inl ⟨_,rfl⟩|exact .inr ⟨_,rfl⟩|cases h
def C4(s:Slp):(s.md=("new":Str))=(s=.new):=by
 cases s<;>simp[Slp.md,cH]
def Ek(s:Slp):(s.md=("hear":Str))=(∃ k,s=.Ur k):=by
 cases s<;>simp[Slp.md,cH]
inductive Ck(vs:List V)(H:Hp)(Q:VK)(E:XK):Prop
 | mk (P:List Stm) (A:Fa) (S:Pu) (p:Nat) (N:Nat) (_:vs=[.ref A.md]) (_:bQ P H A S p) (_:Uy true S N) (_:S.sl.isN=false) (_:(∀ ts,S.sl=.wait ts->ts.length<=100000)) (_:∀ v H',iY H' v S.sl->Kp [] H H'->Q v H'):Ck vs H Q E
inductive JE(vs:List V)(H:Hp)(Q:VK)(E:XK):Prop
 | mk (P:List Stm) (A:Fa) (S:Pu) (p r n N:Nat) (_:vs=[.ref r,.ref A.md]) (_:bQ P H A S p) (_:Uy true S N) (_:N<=90000) (_:cE H r n) (_:n<=200) (_:r∉A.mut) (_:r≠A.cl) (_:r∉A.cs) (_:∀(v:V) (h:Hap) (n':Nat) (H':Hp),nL H' v h->(9e1/\eI h.w)->cE H' r n'->n'<=n+20->Kp [r] H H'->Q v H'):JE vs H Q E
def Uy.slp(F:Uy wt S N)(x:Slp)(h1:∀ k,x≠.Ur k)(h2:∀ ts,x≠.wait ts):Uy wt {S with sl:=x,pend:=[]} N :=
 ⟨F.nm,F.md,Α2 _,F.an,F.lt,F.lw,F.pl,F.nw,F.sk,fun k e=>absurd e (h1 k),fun ts e=>absurd e (h2 ts)⟩
theorem j5{wt:Bool}:∀(n:Nat) {S:Pu} {N:Nat},Uy wt S N->S.sl=.Um->N+n<=900000->Uy wt (dX n S).1 (N+n)
 | 0,S,N,F,h,_=>by
  cases e:bL S.bD.stk with
  | none=>rw[fT e];exact(F.bD h).slp _ 7e0 7e0
  | some m=>rw[j8 e];exact(F.bD h).slp _ 7e0 7e0
 | n+1,S,N,F,h,hN=>by
  cases e:bL S.bD.stk with
  | none=>rw[fT e];exact((F.bD h).slp _ 7e0 7e0).more 0e0
  | some m =>
   have F1:=(F.bD h).one e h 0e0;cases z:(one S.bD m).1.sl.isN with
   | true =>
    rw[oW e z];exact(j5 n F1 (nB z) 0e0).more 0e0
   | false=>rw[j7 e z];exact F1.more 0e0
theorem Uy.Mc(F:Uy wt S N){m i:Int}(hm:0<=m/\m<=1000000000000)(hw:eI w)(hi:eI (some i))(hN:N<=800000):Uy wt (S.take (.don m i w)).1 0e1:=by
 have F1:=F.at' hm;have F2:=F1.done (i:=i) hw;unfold Pu.take;split
 ·exact F.more 0e0
 show Uy wt ((S.at' m).fS i w).1 0e1;unfold Pu.fS;split
 ·split
  ·unfold Pu.wake;split
   ·next e=>exact(j5 300 8e4 rfl 0e0).more 0e0
   ·next e=>exact(j5 300 8e4 rfl 0e0).more 0e0
   ·exact F2.more 0e0
  ·exact F2.more 0e0
 ·exact F2.more 0e0
theorem Uy.E3(F:Uy wt S N)(h:Hap)(hm:0<=h.m/\h.m<=1000000000000)(hw:eI h.w)(hi:∀ i∈S.pend,eI (some i))(hN:N<=800000):Uy wt (S.take h).1 0e1:=by
 cases h with
 | U2 m w =>
  unfold Pu.take;split
  ·exact F.more 0e0
  have F1:=F.at' hm;have F2:Uy wt {S with nw:=later S.nw m,ar:=w,sl:=.Um} N:=⟨F1.nm,F1.md,F1.pd,F1.an,F1.lt,F1.lw,⟨F1.pl.nm,hw,F1.pl.an⟩,F1.nw,F1.sk,fun k e=>6e5,fun k e=>6e5⟩;exact(j5 300 F2 rfl 0e0).more 0e0
 | don m i w =>
  by_cases hp:i∈S.pend
  ·exact F.Mc hm hw (hi i hp) hN
  ·have F1:=F.at' hm;unfold Pu.take;split
   ·exact F.more 0e0
   ·next ho =>
    have F2:=F1.done (i:=i) hw;show Uy wt ((S.at' m).fS i w).1 0e1;exfalso;refine ho ?_;unfold Pu.over;cases S.sl<;>simp[hp]
 | ltr m k w =>
  have F1:=F.at' hm;unfold Pu.take;split
  ·exact F.more 0e0
  show Uy wt ((S.at' m).fF k w).1 0e1;unfold Pu.fF;split
  ·split
   ·unfold Pu.wake;split
    ·next e=>exact(j5 300 9e4 rfl 0e0).more 0e0
    ·next e=>exact(j5 300 9e4 rfl 0e0).more 0e0
    ·exact F1.more 0e0
   ·exact(F1.fJ hw).more 0e0
  ·exact(F1.fJ hw).more 0e0
inductive fW(H:Hp):List V->List Hap->Prop
 | nil:fW H [] []
 | cons {v:V} {vs:List V} {h:Hap} {hs:List Hap}:nL H v h->fW H vs hs->fW H (v::vs) (h::hs)
def Aa{h:Hap}(x:nL H v h)(k:aD H H'):nL H' v h:=by
 obtain⟨a,e,f⟩:=x;exact⟨a,e,k _ _ f⟩
def fW.kt(h:fW H vs hs)(k:aD H H'):fW H' vs hs:=by
 induction h with
 | nil=>exact .nil
 | cons a _ ih=>exact .cons (Aa a k) ih
def fW.len(h:fW H vs hs):vs.length=hs.length:=by
 induction h with
 | nil=>rfl
 | cons _ _ ih=>simp[ih]
theorem oX:∀(n:Nat) (S:Pu),(dX n S).1.sl.isN=false
 | 0,S=>by
  cases e:bL S.bD.stk with
  | none=>rw[fT e];rfl
  | some m=>rw[j8 e];rfl
 | n+1,S=>by
  cases e:bL S.bD.stk with
  | none=>rw[fT e];rfl
  | some m =>
   cases z:(one S.bD m).1.sl.isN with
   | true=>rw[oW e z];exact oX n _
   | false=>rw[j7 e z];exact z
def Cy(h:S.sl.isN=false)(w:Wo):(S.wake w).1.sl.isN=false:=by
 unfold Pu.wake;split
 ·exact oX _ _
 ·exact oX _ _
 ·exact h
def Cv(h:S.sl.isN=false)(x:Hap):(S.take x).1.sl.isN=false:=by
 unfold Pu.take;split
 ·exact h
 cases x with
 | U2 m w=>exact oX _ _
 | don m i w =>
  show((S.at' m).fS i w).1.sl.isN=false;unfold Pu.fS;split
  ·split
   ·exact Cy (show((S.at' m).done i w).sl.isN=false from h) _
   ·exact h
  ·exact h
 | ltr m k w =>
  show((S.at' m).fF k w).1.sl.isN=false;unfold Pu.fF;split
  ·split
   ·exact Cy (show(S.at' m).sl.isN=false from h) _
   ·exact h
  ·exact h
def takes:Pu->List Hap->Pu×List Cmds
 | S,[]=>(S,[])
 | S,h::r=>((takes (S.take h).1 r).1,(S.take h).2::(takes (S.take h).1 r).2)
theorem oK(h:Hap):∀(l:List Hap) (S:Pu),takes S (l++[h])=(((takes S l).1.take h).1,(takes S l).2++[((takes S l).1.take h).2])
 | [],S=>by simp[takes]
 | x::l,S=>by
  have:=oK h l (S.take x).1;simp only[ϐ,takes,this]
def fW.gL(h:fW H vs hs):∀ {i:Nat} {v:V},vs[i]?=some v->∃ x,hs[i]?=some x/\nL H v x:=by
 induction h with
 | nil=>intro i v e;simp at e
 | cons a _ ih =>
  intro i v e;cases i with
  | zero=>simp only[Ξ,Ο] at e;subst e;exact⟨_,rfl,a⟩
  | succ i=>exact ih (by simpa using e)
def fW.snoc{h:Hap}(x:fW H vs hs)(a:nL H v h):fW H 8e2 (hs++[h]):=by
 induction x with
 | nil=>exact .cons a .nil
 | cons b _ ih=>exact .cons b ih
def bQ.oth(F:bQ P H A S p)(e:H op=some 8e0)(s1:op∉A.mut)(s2:op≠A.cl)(s3:op∉A.cs)(hw:∀ ts:List Int,S.sl=.wait ts->us≠ts.map V.int):bQ P (Ul H op (.lst vs)) A S p:=by
 obtain⟨ot,M,os,c1,c2,c3,c4⟩:=F.ex;refine F.n8 (M.other e (fun z=>s1 (by rw[z];exact aZ.2.2.1)) (fun z=>s1 (by rw[z];exact aZ.2.2.2.1))) os c1 c2 c3 ?_ (fun b o z hb=>by rw[aE (F.D0 s1 s2 s3 hb).2.2.2.2];exact z) (aD.cU e) rfl F.ps;cases hs:S.sl with
 | wait ts =>
  rw[hs] at c4;obtain⟨h1,h2,h3,h4⟩:=c4;refine⟨h1,h2,?_,h4⟩;rw[aE (fun z=>by
   rw[z,e] at h3;cases h3;exact hw ts hs rfl)]
  exact h3
 | _=>rw[hs] at c4;exact c4
def bQ.kind(F:bQ P H A S p){b:Addr}(hb:b∈A.mut):∃ o,H b=some o/\∀ c d fs,o≠.ins c d fs:=by
 obtain⟨ot,M,_⟩:=F.ex;obtain⟨kvs,em,_⟩:=M.hm;obtain⟨ds,ed,_⟩:=M.hd;obtain⟨lk,ml,el,hl,_⟩:=F.lt;simp only[Fa.mut,Κ,Α,Δ,Φ] at hb;rcases hb with(rfl|rfl|rfl|rfl|rfl)|hb
 ·exact⟨_,em,fun _ _ _ z=>by cases z⟩
 ·exact⟨_,M.hn,fun _ _ _ z=>by cases z⟩
 ·exact⟨_,M.ho,fun _ _ _ z=>by cases z⟩
 ·exact⟨_,ed,fun _ _ _ z=>by cases z⟩
 ·exact⟨_,el,fun _ _ _ z=>by cases z⟩
 ·obtain⟨xs,e⟩:=hl.ex b hb;exact⟨_,e,fun _ _ _ z=>by cases z⟩
def bQ.Rl(F:bQ P H A S p)(k:∀ b o,H b=some o->(b∈A.mut\/b=A.cl\/b∈A.cs\/b=A.aw)->H' b=some o)(t:aD H H'):bQ P H' A S p:=by
 obtain⟨ot,M,os,c1,c2,c3,c4⟩:=F.ex;refine F.n8 (M.Mx (fun a o e h=>k a o e (.inl (by
  rcases h with rfl|rfl|rfl|rfl
  ·exact aZ.1
  ·exact aZ.2.1
  ·exact aZ.2.2.1
  ·exact aZ.2.2.2.1))) t) os c1 c2 c3 ?_ (fun b o e hb=>k b o e (by
  rcases hb with hb|hb|hb|hb
  ·exact .inr (.inl hb)
  ·exact .inr (.inr (.inl hb))
  ·exact .inl (by rw[hb];exact aZ.2.2.2.2)
  ·exact .inl (by simp[Fa.mut,hb]))) t rfl F.ps
 cases hs:S.sl with
 | wait ts =>
  rw[hs] at c4;obtain⟨h1,h2,h3,h4⟩:=c4;exact⟨h1,h2,k _ _ h3 8e3,h4⟩
 | _=>rw[hs] at c4;exact c4
def IP{hv:List V}(h:fW H hv hs)(n:hs≠[])(ts:List Int):hv≠ts.map V.int:=by
 cases h with
 | nil=>exact absurd rfl n
 | cons a _ =>
  obtain⟨x,rfl,_⟩:=a;cases ts<;>simp
def hap1(h:Hap):h.vs[1]?=some (.int h.m):=by cases h<;>rfl
inductive JK(vs:List V)(H:Hp)(Q:VK)(E:XK):Prop
 | mk (bp cc:Addr) (us:List V) (b:List Stm) (ms:List Int) (_:vs=[.ref bp,.ref cc]) (_:H bp=some (.tup us)) (_:bU H us b) (_:AV true b) (_:oE b < 9) (_:bX b<=1000) (_:H cc=some 0e4) (_:ms.length<=63) (_:∀(rl:Addr) (hv:List V) (hs:List Hap) (H':Hp),H' rl=some (.lst hv)->fW H' hv hs->(∀ h∈hs,9e1/\eI h.w)->hs.length<=ms.length->Kp [] H H'->Q (.ref rl) H'):JK vs H Q E
def gK.ED(h:gK H vs ss)(a:dH H v s):gK H 8e2 (ss++[s]):=by
 induction ss generalizing vs with
 | nil=>cases h;exact .cons a .nil
 | cons x r ih=>cases h with|cons b c=>exact .cons b (ih c)
inductive JL(vs:List V)(H:Hp)(Q:VK)(E:XK):Prop
 | mk (r:Addr) (n:Nat) (_:vs=[.ref r]) (_:cE H r n) (_:n<=20) (_:∀(v:V) (m:Stm) (H':Hp),cG H' v m->m.gd true->m.isB=false->Kp [r] H H'->Q v H'):JL vs H Q E
def Lm(h:m.Bt=true)(g:m.gd false):m.gd true:=by
 cases m<;>first|exact g|cases h
def RH(h:m.Bt=true):m.isB=false:=by cases m<;>first|rfl|cases h
structure Fr where
 hd:Option 7e5
 b1:List Stm
 b2:Option 7e2
variable{f:Fr}
structure FC where
 fa:Addr
 f1:Addr
 f2:Option Addr
variable{x:FC×Fr}{I:List 1e0}
def FC.cells(c:FC):List Addr:=c.fa::c.f1::c.f2.toList
def FC.cur(c:FC):Addr:=c.f2.getD c.f1
def rv:Option Addr->V
 | none=>.Um
 | some a=>.ref a
def GW(H:Hp)(v:V):Option 7e5->Prop
 | none=>v=.Um
 | some (i,s)=>∃ a sv,v=.ref a/\H a=some (.tup [.str (if i=true then "if" else "while"),sv])/\dH H sv s
def B2At(H:Hp):Option Addr->Option 7e2->Prop
 | none,none=>True
 | some a,some b=>∃ us,H a=some 8e0/\bU H us b
 | _,_=>False
def pW(H:Hp)(c:FC)(f:Fr):Prop:=∃ hv VP,H c.fa=some (.lst [hv,.ref c.f1,rv c.f2])/\GW H hv f.hd/\H c.f1=some (.lst VP)/\bU H VP f.b1/\B2At H c.f2 f.b2
def GW.kt(x:GW H v h)(t:aD H H'):GW H' v h:=by
 cases h with
 | none=>exact x
 | some p=>obtain⟨i,s⟩:=p;obtain⟨a,sv,e,e1,e2⟩:=x;exact⟨a,sv,e,t _ _ e1,e2.kp t⟩
def B2At.keep{o:Option Addr}{b:Option 7e2}(x:B2At H o b)(k:∀ a∈o.toList,∀ u,H a=some u->H' a=some u)(t:aD H H'):B2At H' o b:=by
 cases o with
 | none=>cases b<;>exact x
 | some a =>
  cases b with
  | none=>exact x
  | some b=>obtain⟨us,e,h⟩:=x;exact⟨us,k a 2e0 _ e,h.kp t⟩
def pW.keep{c:FC}(h:pW H c f)(k:∀ a∈c.cells,∀ o,H a=some o->H' a=some o)(t:aD H H'):pW H' c f:=by
 obtain⟨hv,VP,e1,e2,e3,e4,e5⟩:=h;exact⟨hv,VP,k _ 3e4 _ e1,e2.kt t,k _ 3e4 _ e3,e4.kp t,e5.keep (fun a ha=>k a (by simp[FC.cells] at ha ⊢;exact .inr (.inr ha))) t⟩
def Fr.add(f:Fr)(m:Stm):Fr:=match f.b2 with
 | none=>{f with b1:=f.b1++[m]}
 | some b=>{f with b2:=some (b++[m])}
def bU.ED{ss:List Stm}{s:Stm}(h:bU H vs ss)(a:cG H v s):bU H 8e2 (ss++[s]):=by
 induction ss generalizing vs with
 | nil=>cases h;exact .cons a .nil
 | cons x r ih=>cases h with|cons b c=>exact .cons b (ih c)
def pW.add{c:FC}(h:pW H c f)(nd:c.cells.Nodup)(hm:cG H v m):∃ us b,H c.cur=some 8e0/\bU H us b/\(b=f.b1\/f.b2=some b)/\pW (Ul H c.cur 5e3) c (f.add m):=by
 obtain⟨hv,VP,e1,e2,e3,e4,e5⟩:=h;obtain⟨fa,f1,f2⟩:=c;obtain⟨hd,b1,b2⟩:=f;cases f2 with
 | none =>
  cases b2 with
  | some b=>exact e5.elim
  | none =>
   have n1:fa≠f1:=by simp[FC.cells] at nd;exact nd
   have t:aD H (Ul H f1 (.lst (VP++[v]))):=aD.cU e3;exact⟨VP,b1,e3,e4,.inl rfl,hv,VP++[v],(by show Ul H f1 _ fa=_;rw[aE n1];exact e1),e2.kt t,aA,(e4.kp t).ED (hm.kp t),trivial⟩
 | some a =>
  cases b2 with
  | none=>exact e5.elim
  | some b =>
   obtain⟨V9,e6,e7⟩:=e5;have n1:fa≠a/\f1≠a:=by simp[FC.cells] at nd;exact⟨nd.1.2,nd.2⟩
   have t:aD H (Ul H a (.lst (V9++[v]))):=aD.cU e6;exact⟨V9,b,e6,e7,.inr rfl,hv,VP,(by show Ul H a _ fa=_;rw[aE n1.1];exact e1),e2.kt t,(by show Ul H a _ f1=_;rw[aE n1.2];exact e3),e4.kp t,V9++[v],aA,(e7.kp t).ED (hm.kp t)⟩
def dW(L:List 1e0):List Addr:=L.flatMap fun x=>x.1.cells
structure iG(H:Hp)(fl:Addr)(L:List 1e0):Prop where
 e:H fl=some (.lst (L.map fun x=>.ref x.1.fa))
 fr:∀ x∈L,pW H x.1 x.2
 nd:(fl::dW L).Nodup
def bK(L M:List 1e0):dW (L++M)=dW L++dW M:=by simp[dW]
def bW(x:FC×Fr):dW [x]=x.1.cells:=by simp[dW]
def lY{L:List 1e0}(h:x∈L)(ha:a∈x.1.cells):a∈dW L:=List.mem_flatMap.mpr ⟨x,h,ha⟩
def iG.keep{L:List 1e0}(F:iG H fl L)(k:∀ a∈fl::dW L,∀ o,H a=some o->H' a=some o)(t:aD H H'):iG H' fl L :=
 ⟨k _ 2e0 _ F.e,fun x hx=>(F.fr x hx).keep (fun a ha=>k a (ϑ _ (lY hx ha))) t,F.nd⟩
def iG.kp{L:List 1e0}(F:iG H fl L)(k:Kp [] H H'):iG H' fl L:=F.keep (fun _ _ _ e=>k.at e) (aD.nil k)
def pW.lst{c:FC}(h:pW H c f):∀ a∈c.cells,∃ xs,H a=some (.lst xs):=by
 obtain⟨hv,VP,e1,e2,e3,e4,e5⟩:=h;intro a ha;simp only[FC.cells,Α] at ha;rcases ha with rfl|rfl|ha
 ·exact⟨_,e1⟩
 ·exact⟨_,e3⟩
 ·cases h2:c.f2 with
  | none=>rw[h2] at ha;simp at ha
  | some b =>
   rw[h2] at ha e5;cases hb:f.b2 with
   | none=>rw[hb] at e5;exact e5.elim
   | some b'=>rw[hb] at e5;obtain⟨us,e,_⟩:=e5;rw[show a=b by simpa using ha];exact⟨_,e⟩
def iG.free{p:Addr}{L:List 1e0}(F:iG H fl L)(h:H p=none):p∉fl::dW L:=fun z=>by
 rcases Α.mp z with rfl|z
 ·rw[F.e] at h;cases h
 ·obtain⟨x,hx,hp⟩:=List.mem_flatMap.mp z;obtain⟨xs,e⟩:=(F.fr x hx).lst p hp;rw[h] at e;cases e
def iG.app(F:iG H fl 6e0)(hm:cG H v m):∃ us b,H x.1.cur=some 8e0/\bU H us b/\(b=x.2.b1\/x.2.b2=some b)/\x.1.cur∈x.1.cells/\iG 6e3 fl (I++[(x.1,x.2.add m)]):=by
 have nd:=F.nd;rw[bK,bW,Ϙ,Ϝ] at nd;obtain⟨us,b,e1,e2,e3,e4⟩:=(F.fr x 2e0).add nd.2.2.1 hm;have hc:x.1.cur∈x.1.cells:=by
  cases h:x.1.f2<;>simp[FC.cur,FC.cells,h]
 have t:aD H 6e3:=aD.cU e1;refine⟨us,b,e1,e2,e3,hc,⟨?_,fun y hy=>?_,?_⟩⟩
 ·rw[aE (fun z=>nd.1 (by rw[z];simp[hc]))];rw[F.e];simp
 ·rcases Κ.mp hy with hy|hy
  ·refine(F.fr y 3e2).keep (fun a ha o e=>?_) t;rw[aE (fun z=>nd.2.2.2 a (lY hy ha) _ hc z)];exact e
  ·rw[show y=(x.1,x.2.add m) by simpa using hy];exact e4
 ·rw[bK,bW];exact Ϙ.mpr ⟨nd.1,Ϝ.mpr nd.2⟩
def iG.pop(F:iG H fl 6e0):iG 1e1 fl I/\pW 1e1 x.1 x.2:=by
 have nd:=F.nd;rw[bK,bW,Ϙ,Ϝ] at nd;have t:aD H 1e1:=aD.cU F.e;have k:∀ y∈I++[x],pW 1e1 y.1 y.2:=fun y hy=>(F.fr y hy).keep (fun a ha o e=>by
  rw[aE (fun z=>nd.1 (by
   rw[<- z];have:=lY hy ha;rw[bK,bW] at this;exact this))]
  exact e) t
 exact⟨⟨aA,fun y hy=>k y 3e2,Ϙ.mpr ⟨fun z=>nd.1 5e0,nd.2.1⟩⟩,k x 2e0⟩
def iG.push{fa f1:Addr}{L:List 1e0}{hv:V}(F:iG H fl L)(e1:H fa=some (.lst [hv,.ref f1,.Um]))(e2:H f1=some (.lst []))(hh:GW H hv h)(n1:fa∉fl::dW L)(n2:f1∉fl::dW L)(n3:fa≠f1):iG 9e2 fl (L++[((⟨fa,f1,none⟩:FC),(⟨h,[],none⟩:Fr))]):=by
 have nd:=F.nd;rw[Ϙ] at nd;rw[Α,not_or] at n1 n2;have t:aD H 9e2:=aD.cU F.e;refine⟨aA,fun y hy=>?_,?_⟩
 ·rcases Κ.mp hy with hy|hy
  ·exact(F.fr y hy).keep (fun a ha o e=>by rw[aE (fun z=>nd.1 (by rw[<- z];exact lY hy ha))];exact e) t
  ·rw[show y=((⟨fa,f1,none⟩:FC),(⟨h,[],none⟩:Fr)) by simpa using hy];exact⟨hv,[],by rw[aE n1.1];exact e1,hh.kt t,by rw[aE n2.1];exact e2,.nil,trivial⟩
 ·rw[bK,bW,Ϙ];refine⟨fun z=>?_,Ϝ.mpr ⟨nd.2,by simp[FC.cells,n3],fun a ha b hb z=>?_⟩⟩
  ·rcases Κ.mp z with z|z
   ·exact nd.1 z
   ·simp only[FC.cells,Option.toList_none,Α,Δ,Φ] at z;rcases z with z|z
    ·exact n1.1 z.symm
    ·exact n2.1 z.symm
  ·simp only[FC.cells,Option.toList_none,Α,Δ,Φ] at hb;rcases hb with rfl|rfl
   ·exact n1.2 7e1
   ·exact n2.2 7e1
def iG.snd{hv:V}(F:iG H fl 6e0)(f0:x.1.f2=none)(e1:H x.1.fa=some (.lst [hv,.ref x.1.f1,.Um]))(e2:H a=some (.lst []))(n:a∉fl::dW 6e0):iG 1e3 fl (I++[(⟨x.1.fa,x.1.f1,some a⟩,⟨x.2.hd,x.2.b1,some []⟩)]):=by
 have nd:=F.nd;rw[bK,bW,Ϙ,Ϝ] at nd;rw[bK,bW,Α,Κ,not_or,not_or] at n;have hc:x.1.cells=[x.1.fa,x.1.f1]:=by simp[FC.cells,f0]
 rw[hc] at nd n;have t:aD H 1e3:=aD.cU e1;obtain⟨X3,VP,g1,g2,g3,g4,g5⟩:=F.fr x 2e0;rw[e1] at g1;have ehv:X3=hv:=by
  have g:=ϖ g1;simp only[HO.lst.injEq,List.cons.injEq] at g;exact g.1.symm
 subst ehv;have n12:x.1.fa≠x.1.f1:=by simpa using nd.2.2.1
 refine⟨?_,fun y hy=>?_,?_⟩
 ·rw[aE (fun z=>nd.1 (by rw[z];simp))];rw[F.e];simp
 ·rcases Κ.mp hy with hy|hy
  ·exact(F.fr y 3e2).keep (fun b hb o e=>by rw[aE (fun z=>nd.2.2.2 b (lY hy hb) x.1.fa 2e0 z)];exact e) t
  ·rw[show y=(⟨x.1.fa,x.1.f1,some a⟩,⟨x.2.hd,x.2.b1,some []⟩) by simpa using hy];exact⟨X3,VP,aA,g2.kt t,by rw[aE n12.symm];exact g3,g4.kp t,[],by rw[aE (fun z=>n.2.2 5e0)];exact e2,.nil⟩
 ·rw[bK,bW,Ϙ];refine⟨fun z=>?_,Ϝ.mpr ⟨nd.2.1,?_,fun b hb c WT z=>?_⟩⟩
  ·rcases Κ.mp z with z|z
   ·exact nd.1 5e0
   ·simp only[FC.cells,Α1,Α,Δ,Φ] at z;rcases z with z|z|z
    ·exact nd.1 5e0
    ·exact nd.1 5e0
    ·exact n.1 z.symm
  ·have h1:¬ a=x.1.fa:=fun z=>n.2.2 5e0;have h2:¬ a=x.1.f1:=fun z=>n.2.2 5e0;simp[FC.cells,n12];exact⟨fun z=>h1 z.symm,fun z=>h2 z.symm⟩
  ·simp only[FC.cells,Α1,Α,Δ,Φ] at WT;rcases WT with rfl|rfl|rfl
   ·exact nd.2.2.2 b hb _ 2e0 z
   ·exact nd.2.2.2 b hb _ 2e0 z
   ·exact n.2.1 (z▸hb)
def PH{o:Option Addr}(h:rv o=.Um):o=none:=by
 cases o with
 | none=>rfl
 | some a=>cases h
theorem CN{c:FC}{u:V}:gL [u,.ref c.f1,rv c.f2] (1+if (!decide (rv c.f2=V.Um))=true then 1 else 0)=some (.ref c.cur):=by
 obtain⟨fa,f1,f2⟩:=c;cases f2<;>rfl
def pW.cu{c:FC}(h:pW H c f):∃ us,H c.cur=some 8e0:=h.lst _ (by cases e:c.f2<;>simp[FC.cur,FC.cells,e])
def Ej(I:List 1e0)(x:FC×Fr):gL 4e3 (-1)=some 5e5:=by
 rw[Α7];exact jZ _ _
def Lu(I:List 1e0)(x:FC×Fr):4e3[((I++[x]).map fun x=>V.ref x.1.fa).length - 1]?=some 5e5:=by simp
def FJ(I:List 1e0)(x:FC×Fr):((I++[x]).map fun x=>V.ref x.1.fa).dropLast=I.map fun x=>V.ref x.1.fa:=by simp
def fB(f:Fr)(i:Bool)(s:Say):Stm:=if i=true then .iff s f.b1 9e0 else .UG s f.b1
inductive JA(vs:List V)(H:Hp)(Q:VK)(E:XK):Prop
 | mk (fl:Addr) (I:List 1e0) (x y:FC×Fr) (i:Bool) (s:Say) (_:vs=[.ref fl]) (_:iG H fl 4e2) (_:y.2.hd=some (i,s)) (_:(∀ z∈I++[x]++[y],z.2.b1.length<=1000/\(z.2.b2.getD []).length<=1000)) (_:∀ H',iG H' fl 8e1->Kp (fl::x.1.cells) H H'->Q .Um H'):JA vs H Q E
def Gf(j:Nat)(f:Fr):Prop:=AV true f.b1/\AV true 9e0/\oE f.b1+j<=5/\oE 9e0+j<=5/\(j≠0->∃ i s,f.hd=some (i,s)/\s.sok)
def AN(L:List 1e0):Nat:=(L.map fun x=>bX x.2.b1+bX 1e2+2).sum
def GL(L:List 1e0):Prop:=∀ j x,L[j]?=some x->Gf j x.2
def lD(L M:List 1e0):AN (L++M)=AN L+AN M:=by simp[AN]
def lE(x:FC×Fr):AN [x]=bX x.2.b1+bX 1e2+2:=by simp[AN]
def GL.top(h:GL 6e0):Gf I.length x.2:=h I.length x 2e0
def GL.init(h:GL 6e0):GL I:=fun j y e=>h j y (by rw[Ζ4 (Μ.mp e).1];exact e)
theorem GL.snoc(h:GL I)(g:Gf I.length x.2):GL 6e0:=fun j y e=>by
 by_cases hj:j < I.length
 ·rw[Ζ4 hj] at e;exact h j y e
 ·have:j=I.length:=by
   have:=(Μ.mp e).1;simp at this;omega
  subst this;simp at e;subst e;exact g
theorem EW:∀(a b:List Stm),bX (a++b)=bX a+bX b
 | [],b=>by simp[bX]
 | x::a,b=>by simp only[ϐ,bX,EW a b];omega
theorem t7:∀(a:List Stm) (m:Stm),oE (a++[m])=max (oE a) m.dp
 | [],m=>by simp[oE]
 | x::a,m=>by simp only[ϐ,oE,t7 a m];omega
theorem uN{wt:Bool}:∀ {a:List Stm} {m:Stm},AV wt a->m.gd wt->AV wt (a++[m])
 | [],m,_,h=>⟨h,trivial⟩
 | x::a,m,g,h=>⟨g.1,uN g.2 h⟩
theorem GY(f:Fr)(m:Stm):bX (f.add m).b1+bX ((f.add m).b2.getD [])=bX f.b1+bX 9e0+m.sz:=by
 unfold Fr.add;cases h:f.b2<;>simp[h,EW,bX]<;>omega
theorem Gf.add{j:Nat}(g:Gf j f)(gm:m.gd true)(dm:m.dp+j<=5):Gf j (f.add m):=by
 obtain⟨g1,g2,g3,g4,g5⟩:=g;unfold Fr.add;cases h:f.b2 with
 | none =>
  rw[h] at g2 g4;exact⟨uN g1 gm,g2,by show oE (f.b1++[m])+j<=5;rw[t7];omega,g4,g5⟩
 | some b =>
  rw[h] at g2 g4;exact⟨g1,uN (show AV true b from g2) gm,g3,by show oE (b++[m])+j<=5;rw[t7];have:oE b+j<=5:=g4;omega,g5⟩
theorem Ht{j:Nat}{i:Bool}(g:Gf (j+1) f)(hs:s.sok):(fB f i s).gd true/\(fB f i s).dp+j<=5/\(fB f i s).sz<=bX f.b1+bX 9e0+2:=by
 obtain⟨g1,g2,g3,g4,g5⟩:=g;cases i with
 | true=>exact⟨⟨hs,g1,g2⟩,by simp only[fB,Γ1,Stm.dp];omega,by simp only[fB,Γ1,Stm.sz];omega⟩
 | false=>exact⟨⟨hs,g1⟩,by simp only[fB,ϙ,Β5,Stm.dp];omega,by simp only[fB,ϙ,Β5,Stm.sz];omega⟩
theorem DA{L:List 1e0}(h:x∈L):bX x.2.b1+bX 1e2+2<=AN L:=by
 induction L with
 | nil=>simp at h
 | cons y r ih =>
  rcases Α.mp h with rfl|h
  ·simp[AN]
  ·have:=ih h;simp only[AN,ϔ,List.sum_cons] at this ⊢;omega
theorem DR{y:FC×Fr}{i:Bool}(g:GL 4e2)(h:y.2.hd=some (i,s))(hs:s.sok):GL 8e1/\AN 8e1<=AN 4e2:=by
 have gy:=g.top;rw[Ν,List.length_singleton] at gy;obtain⟨c1,c2,c3⟩:=Ht (i:=i) gy hs;refine⟨g.init.init.snoc (g.init.top.add c1 c2),?_⟩;rw[lD,lD,lD,lE,lE,lE];have:=GY x.2 0e2;show AN I+(bX (x.2.add 0e2).b1+bX ((x.2.add 0e2).b2.getD [])+2)<=_;omega
inductive JJ(vs:List V)(H:Hp)(Q:VK)(E:XK):Prop
 | mk (cl:Addr) (ms:List Int) (_:vs=[.ref cl]) (_:H cl=some 0e4) (_:ms.length<=63) (_:∀(p:Addr) (us:List V) (b:List Stm) (H':Hp),H' p=some (.tup us)->bU H' us b->AV true b->oE b<=5->bX b<=2 * ms.length->Kp [] H H'->Q (.ref p) H'):JJ vs H Q E
def Stm.nms(m:Stm):List Str:=Stm.rec (motive_1:=fun _=>List Str) (motive_2:=fun _=>List Str) 3e0 2e1 3e0 2e1 0e5 6e1 3e0 3e0 6e1 3e5 9e3 [] 2e4 m
def sM(b:List Stm):List Str:=Stm.rec_1 (motive_1:=fun _=>List Str) (motive_2:=fun _=>List Str) 3e0 2e1 3e0 2e1 0e5 6e1 3e0 3e0 6e1 3e5 9e3 [] 2e4 b
def Stm.Pd(L:List Str)(m:Stm):Prop:=∀ x∈m.nms,x∈L
def vE(L:List Str)(b:List Stm):Prop:=∀ x∈sM b,x∈L
def IJ(g:vE L b)(h:b[i]?=some m):m.Pd L:=by
 induction b generalizing i with
 | nil=>cases h
 | cons y r ih =>
  cases i with
  | zero =>
   obtain rfl:y=m:=ϖ h;exact fun x hx=>g x (Ε9 (sM r) hx)
  | succ i=>exact ih (fun x hx=>g x (Ϛ y.nms hx)) h
def IL(b:List Stm):(sM b).length<=bX b:=Stm.rec_1 (motive_1:=fun m=>m.nms.length<=m.sz) (motive_2:=fun b=>(sM b).length<=bX b) 3e1 5e4 3e1 5e4 (fun _ _ _=>Α2 1) 2e5 3e1 3e1 2e5 (fun _ b h=>show(sM b).length<=bX b+2 from Ε7 (Ε7 h))
 (fun _ b o h g=>show(sM b++sM o).length<=bX b+bX o+2 from Χ 6e4 (Ε7 (Ε7 1e4))) (Θ 0) (fun m r h g=>show(m.nms++sM r).length<=m.sz+bX r from Χ 6e4 1e4) b
theorem Gv(l:List (Str×Wo))(n:Str)(w:Wo):(bZ l n w).map (·.1)=if n∈l.map (·.1) then l.map (·.1) else l.map (·.1)++[n]:=by
 have e:(l.any fun p=>decide (p.1=n))=true↔n∈l.map (·.1):=by
  rw[List.any_eq_true,Β0];constructor
  ·rintro⟨p,h,e⟩;exact⟨p,h,by simpa using e⟩
  ·rintro⟨p,h,e⟩;exact⟨p,h,by simpa using e⟩
 unfold bZ;by_cases h:n∈l.map (·.1)
 ·rw[if_pos (e.mpr h),if_pos h,List.map_map];refine List.map_congr_left fun p _=>?_;simp only[Function.comp];split<;>rfl
 ·rw[if_neg (fun z=>h (e.mp z)),if_neg h];simp
structure fH(L:List Str)(S:Pu):Prop where
 nd:(S.nm.map (·.1)).Nodup
 sub:∀ n∈S.nm.map (·.1),n∈L
 stk:∀ x∈S.stk,vE L x.2.1
def fH.put(h:fH L S){n:Str}(hn:n∈L)(w:Wo):fH L {S with nm:=bZ S.nm n w}:=by
 have e:=Gv S.nm n w;refine⟨?_,?_,h.stk⟩
 ·show((bZ S.nm n w).map (·.1)).Nodup;rw[e];split
  ·exact h.nd
  ·next hc =>
   rw[Ϝ];exact⟨h.nd,by simp,fun a ha b hb=>by rw[show b=n by simpa using hb];intro z;exact hc 7e1⟩
 ·show ∀ x∈(bZ S.nm n w).map (·.1),x∈L;rw[e];split
  ·exact h.sub
  ·intro x hx;rcases Κ.mp hx with hx|hx
   ·exact h.sub x hx
   ·rw[show x=n by simpa using hx];exact hn
def fH.same{T:Pu}(h:fH L S)(e1:T.nm=S.nm)(e2:T.stk=S.stk):fH L T:=⟨by rw[e1];exact h.nd,by rw[e1];exact h.sub,by rw[e2];exact h.stk⟩
def fH.bT(h:fH L S)(g:m.Pd L):fH L (bT S m).1:=by
 cases m with
 | set x s=>replace g:=g _ 4e0;exact h.put g _
 | order x y s=>replace g:=g _ 4e0;exact(h.put g _).same rfl rfl
 | child x y s=>replace g:=g _ 4e0;exact(h.put g _).same rfl rfl
 | UA x s=>replace g:=g _ 4e0;exact(h.put g _).same rfl rfl
 | send s k r=>exact h
 | drop s =>
  simp only[Internal.bT];split
  ·split
   ·exact h.same rfl rfl
   ·exact h
  ·exact h
 | Ur x k =>
  replace g:=g _ 4e0;simp only[Internal.bT];split
  ·exact(h.put g _).same rfl rfl
  ·exact h.same rfl rfl
 | wait x ss =>
  replace g:=g _ 4e0;simp only[Internal.bT];split
  ·exact h.same rfl rfl
  ·exact h.put g _
 | fin s=>exact h.same rfl rfl
 | UG s b=>exact h
 | iff s b o=>exact h
theorem qB{L:List Str}:∀ st:Stk,(∀ x∈st,vE L x.2.1)->∀ x∈bO st,vE L x.2.1
 | [],h=>by simpa[bO] using h
 | [a],h=>by simpa[bO] using h
 | (k,b,n)::(k2,b2,n2)::r,h=>by
  rw[bO];split
  ·refine qB ((k2,b2,mD b2 n2)::r) fun x hx=>?_;rcases Α.mp hx with rfl|hx
   ·exact h (k2,b2,n2) 2e0
   ·exact h x 4e5
  ·exact h
termination_by st=>st.length
def rA(h:∀ x∈st,vE L x.2.1):∀ x∈fO st,vE L x.2.1:=by
 cases st with
 | nil=>exact h
 | cons a r =>
  obtain⟨k,b,n⟩:=a;intro x hx;simp only[fO,Α] at hx;rcases hx with rfl|hx
  ·exact h (k,b,n) 2e0
  ·exact h x 4e5
def fH.bL(h:fH L S)(e:bL S.stk=some m):m.Pd L:=by
 cases hs:S.stk with
 | nil=>rw[hs] at e;cases e
 | cons a r =>
  obtain⟨k,b,n⟩:=a;rw[hs] at e;exact IJ (h.stk (k,b,n) (by rw[hs];simp)) e
def fH.one(h:fH L S)(e:Internal.bL S.stk=some m):fH L (one S m).1:=by
 have g:=h.bL e;have en:∀(c:Nat) (b:List Stm),vE L b->fH L (S.enter c b):=fun c b hb=>⟨h.nd,h.sub,fun x hx=>by
  rcases Α.mp hx with rfl|hx
  ·exact hb
  ·exact h.stk x hx⟩
 have ps:∀ T:Pu,fH L T->fH L T.pass:=fun T hT=>⟨hT.nd,hT.sub,rA hT.stk⟩;unfold Internal.one;split
 ·cases m with
  | UG s b =>
   show fH L 3e3;split
   ·exact ps S h
   ·exact en 0 b g
  | iff s b o =>
   show fH L 2e3;split
   ·exact en 1 o fun x hx=>g x (Ϛ (sM b) hx)
   ·exact en 0 b fun x hx=>g x (Ε9 (sM o) hx)
  | _=>exact h
 ·show fH L 0e3;split
  ·exact ps _ (h.bT g)
  ·exact h.bT g
theorem sY{L:List Str}:∀(n:Nat) {S:Pu},fH L S->fH L (dX n S).1
 | 0,S,h=>by
  have hc:fH L S.bD:=⟨h.nd,h.sub,qB _ h.stk⟩;cases e:bL S.bD.stk with
  | none=>rw[fT e];exact hc.same rfl rfl
  | some m=>rw[j8 e];exact hc.same rfl rfl
 | n+1,S,h=>by
  have hc:fH L S.bD:=⟨h.nd,h.sub,qB _ h.stk⟩;cases e:bL S.bD.stk with
  | none=>rw[fT e];exact hc.same rfl rfl
  | some m =>
   cases z:(one S.bD m).1.sl.isN with
   | true=>rw[oW e z];exact sY n (hc.one e)
   | false=>rw[j7 e z];exact hc.one e
def fH.wake(h:fH L S)(w:Wo):fH L (S.wake w).1:=by
 unfold Pu.wake;split
 ·next x k e =>
  have g:=h.bL e;replace g:=g _ 4e0;have h1:=h.put g w;exact sY 300 ⟨h1.nd,h1.sub,rA h.stk⟩
 ·next x ss e =>
  have g:=h.bL e;replace g:=g _ 4e0;have h1:=h.put g w;exact sY 300 ⟨h1.nd,h1.sub,rA h.stk⟩
 ·exact h
def fH.take(h:fH L S)(x:Hap):fH L (S.take x).1:=by
 unfold Pu.take;split
 ·exact h
 cases x with
 | U2 m w=>exact sY 300 (h.same rfl rfl)
 | don m i w =>
  show fH L ((S.at' m).fS i w).1;unfold Pu.fS;split
  ·split
   ·exact(h.same (T:=(S.at' m).done i w) rfl rfl).wake _
   ·exact h.same rfl rfl
  ·exact h.same rfl rfl
 | ltr m k w =>
  show fH L ((S.at' m).fF k w).1;unfold Pu.fF;split
  ·split
   ·exact(h.same (T:=S.at' m) rfl rfl).wake _
   ·exact h.same rfl rfl
  ·exact h.same rfl rfl
theorem qT:∀ {a L:List Str},a.Nodup->(∀ x∈a,x∈L)->a.length<=L.length
 | [],L,_,_=>Α2 _
 | x::a,L,nd,h=>by
  rw[Ϙ] at nd;have hx:=h x 2e0;have:=qT (a:=a) (L:=L.erase x) nd.2 fun y hy=>(List.mem_erase_of_ne (fun z:y=x=>nd.1 (by rw[<- z];exact hy))).mpr (h y (ϑ _ hy));have hl:=List.length_erase_of_mem hx;have hp:0 < L.length:=List.length_pos_of_mem hx;simp only[Ζ];omega
def fH.len(h:fH L S):S.nm.length<=L.length:=by
 have:=qT h.nd h.sub
 rwa [Γ] at this
structure gJ(K:List Str)(S:Pu):Prop where
 nd:(S.lt.map (·.1)).Nodup
 sub:∀ n∈S.lt.map (·.1),n∈K
theorem pQ(r:List Wo):∀(l:List 4e1) (k:Str),(dJ l k r).map (·.1)=l.map (·.1)
 | [],_=>rfl
 | p::l,k=>by
  simp only[dJ];split
  ·rfl
  ·simp only[ϔ,pQ r l k]
theorem u0:∀ {l:List 4e1} {k:Str},aM l k=none->k∉l.map (·.1)
 | [],_,_=>by simp
 | p::l,k,h=>by
  simp only[aM] at h;split at h
  ·cases h
  ·next hp =>
   simp only[ϔ,Α,not_or];exact⟨fun z=>hp z.symm,u0 h⟩
def gJ.same{T:Pu}(h:gJ K S)(e:T.lt=S.lt):gJ K T:=⟨by rw[e];exact h.nd,by rw[e];exact h.sub⟩
def gJ.add(h:gJ K S)(hk:k∈K)(w:Wo):gJ K {S with lt:=fJ S.lt k w}:=by
 cases e:aM S.lt k with
 | some ws =>
  have ea:fJ S.lt k w=dJ S.lt k (ws++[w]):=by simp only[fJ,e]
  have kk:=pQ (ws++[w]) S.lt k;exact⟨by show((fJ S.lt k w).map (·.1)).Nodup;rw[ea,kk];exact h.nd,by show ∀ n∈(fJ S.lt k w).map (·.1),n∈K;rw[ea,kk];exact h.sub⟩
 | none =>
  have ea:fJ S.lt k w=S.lt++[(k,[w])]:=by simp only[fJ,e]
  have nk:=u0 e;refine⟨?_,?_⟩
  ·show((fJ S.lt k w).map (·.1)).Nodup;rw[ea,Α7,Ϝ];exact⟨h.nd,by simp,fun a ha b hb=>by rw[show b=k by simpa using hb];intro z;exact nk 7e1⟩
  ·show ∀ n∈(fJ S.lt k w).map (·.1),n∈K;rw[ea,Α7];intro n hn;rcases Κ.mp hn with hn|hn
   ·exact h.sub n hn
   ·rw[show n=k by simpa using hn];exact hk
def gJ.bT(h:gJ K S)(m:Stm):gJ K (bT S m).1:=by
 cases m with
 | drop s =>
  simp only[Internal.bT];split
  ·split
   ·exact h.same rfl
   ·exact h
  ·exact h
 | Ur x k =>
  simp only[Internal.bT];split
  ·next w r e=>exact⟨by show((dJ S.lt k r).map (·.1)).Nodup;rw[pQ];exact h.nd,by show ∀ n∈(dJ S.lt k r).map (·.1),n∈K;rw[pQ];exact h.sub⟩
  ·exact h.same rfl
 | wait x ss =>
  simp only[Internal.bT];split
  ·exact h.same rfl
  ·exact h.same rfl
 | _=>exact h.same rfl
def gJ.one(h:gJ K S)(m:Stm):gJ K (one S m).1:=by
 unfold Internal.one;split
 ·cases m with
  | UG s b=>show gJ K 3e3;split<;>exact h.same rfl
  | iff s b o=>show gJ K 2e3;split<;>exact h.same rfl
  | _=>exact h
 ·show gJ K 0e3;split
  ·exact(h.bT m).same rfl
  ·exact h.bT m
theorem sV{K:List Str}:∀(n:Nat) {S:Pu},gJ K S->gJ K (dX n S).1
 | 0,S,h=>by
  have hc:gJ K S.bD:=h.same rfl;cases e:bL S.bD.stk with
  | none=>rw[fT e];exact hc.same rfl
  | some m=>rw[j8 e];exact hc.same rfl
 | n+1,S,h=>by
  have hc:gJ K S.bD:=h.same rfl;cases e:bL S.bD.stk with
  | none=>rw[fT e];exact hc.same rfl
  | some m =>
   cases z:(one S.bD m).1.sl.isN with
   | true=>rw[oW e z];exact sV n (hc.one m)
   | false=>rw[j7 e z];exact hc.one m
def gJ.wake(h:gJ K S)(w:Wo):gJ K (S.wake w).1:=by
 unfold Pu.wake;split
 ·exact sV 300 5e2
 ·exact sV 300 5e2
 ·exact h
def gJ.take(h:gJ K S)(x:Hap)(hx:∀ m k w,x=.ltr m k w->k∈K):gJ K (S.take x).1:=by
 unfold Pu.take;split
 ·exact h
 cases x with
 | U2 m w=>exact sV 300 5e2
 | don m i w =>
  show gJ K ((S.at' m).fS i w).1;unfold Pu.fS;split
  ·split
   ·exact(h.same (T:=(S.at' m).done i w) rfl).wake _
   ·exact h.same rfl
  ·exact h.same rfl
 | ltr m k w =>
  show gJ K ((S.at' m).fF k w).1;unfold Pu.fF;split
  ·split
   ·exact(h.same (T:=S.at' m) rfl).wake _
   ·exact((h.same (T:=S.at' m) rfl).add 1e5 w).same rfl
  ·exact((h.same (T:=S.at' m) rfl).add 1e5 w).same rfl
def gJ.len(h:gJ K S):S.lt.length<=K.length:=by
 have:=qT h.nd h.sub
 rwa [Γ] at this
def IK:fH (sM b) (fI b):=⟨by simp[fI],by simp[fI],fun x hx=>by rw[show x=(0,b,0) by simpa[fI] using hx];exact fun _ h=>h⟩
def IA:gJ K (fI b):=⟨by simp[fI],by simp[fI]⟩
def Hap.key:Hap->Option Str
 | .ltr _ k _=>some k
 | _=>none
def Ip(hs:List Hap):List Str:=hs.filterMap Hap.key
def FH{h:Hap}(hm:h∈hs):∀ m k w,h=.ltr m k w->k∈Ip hs:=fun m k w e=>List.mem_filterMap.mpr ⟨h,hm,by rw[e];rfl⟩
def FE(hs:List Hap):(Ip hs).length<=hs.length:=List.length_filterMap_le _ _
def pY.kt(h:pY H v S)(k:aD H H'):pY H' v S:=by
 unfold pY at *;split at h
 ·next hg =>
  rw[if_pos hg];obtain⟨p,pl,pn,po,pa,pt,sl,un,ua,ut,e,a1,a2,a3,a4,a5,a6,a7,a8,a9,a10⟩:=h;exact⟨p,pl,pn,po,pa,pt,sl,un,ua,ut,e,k _ _ a1,a2.kt k,k _ _ a3,k _ _ a4,a5.kt k,k _ _ a6,k _ _ a7,a8.kt k,k _ _ a9,a10.kt k⟩
 ·next hg =>
  rw[if_neg hg];exact h.kt k
end
section
variable{K:q0B}{b:Addr}{x:V}{ys:List V}
end
def Fw.Ro{R:Rn}{UM:List Addr}{G0:Hp}(F:Fw R as UM G H')(k:Kp [] G0 G)(h:∀ a,a∈R.cells\/a∈as->G0 a=none):Kp [] G0 H':=fun b o e _=>F.kp b o (k.at e) (fun z=>by rw[h b (.inl z)] at e;cases e) (fun z=>by rw[h b (.inr z)] at e;cases e)
def Ef{ys:List V}(h:∀ y∈ys,y∈ns.map V.int):∃ ms:List Int,ys=ms.map V.int/\ms.length=ys.length:=by
 induction ys with
 | nil=>exact⟨[],rfl,rfl⟩
 | cons y r ih =>
  obtain⟨ms,e,l⟩:=ih fun z hz=>h z (by simp[hz]);obtain⟨n,_,rfl⟩:=Β0.mp (h y (by simp));exact⟨n::ms,by rw[e];rfl,by simp[l]⟩
structure In13(C:Cl)(b:List Stm)(md:Addr)(G0 G:Hp)(R:Rn)(as:List Addr)(sl:V)(A:Fa)(p:Nat)(S T:Pu):Prop where
 ra:bC C G R as sl S
 fl:bQ b G A T p
 md:A.md=md
 sep:∀ x,x∈R.cells\/x∈as->x∉A.mut/\x≠A.cl/\x∉A.cs/\x≠A.aw
 aw:∃ o,G A.aw=some o
 kb:Kp [] G0 G
 nb:∀ x,x∈R.cells\/x∈as\/x∈A.mut->G0 x=none
section
mutual
example:=[.inr w,(by simp),.inl hx,.inr (.inr (.inr rfl))]
variable{C:Cl}{md:Addr}{G0 G':Hp}{R:Rn}{YX:List Addr}{sl WG:V}{A':Fa}{p':Nat}{S' T T':Pu}
def In13.kp(J:In13 C b md G0 G R as sl A p S T)(k:Kp [] G G'):In13 C b md G0 G' R as sl A p S T :=
 ⟨J.ra.kp k,J.fl.kp k,J.md,J.sep,let ⟨o,e⟩:=J.aw;⟨o,k.at e⟩,J.kb.trans k,J.nb⟩
def In13.free(J:In13 C b md G0 G R as sl A p S T){x:Addr}(h:G x=none):G0 x=none:=by
 cases e:G0 x with
 | none=>rfl
 | some o=>rw[J.kb.at e] at h;cases h
def In13.run(J:In13 C b md G0 G R as sl A p S T)(W:Fw R as YX G G')(RA:bC C G' R YX WG S'):In13 C b md G0 G' R YX WG A p S' T/\aD G G':=by
 have T5:=J.ra.tkp W;have hnc:∀ z,(z∈A.mut\/z=A.cl\/z∈A.cs\/z=A.aw)->z∉R.cells/\z∉as:=fun z hz=>by
  have no:¬ (z∈R.cells\/z∈as):=fun w=>by
   obtain⟨s1,s2,s3,s4⟩:=J.sep z w;rcases hz with hz|hz|hz|hz
   ·exact s1 hz
   ·exact s2 hz
   ·exact s3 hz
   ·exact s4 hz
  exact⟨fun w=>no (.inl w),fun w=>no 0e0⟩
 obtain⟨o,Wh⟩:=J.aw;refine⟨⟨RA,J.fl.Rl (fun z o e hz=>W.kp z o e (hnc z hz).1 (hnc z hz).2) T5,J.md,fun z hz=>?_,⟨o,W.kp _ _ Wh (hnc _ 3e0).1 (hnc _ 3e0).2⟩,W.Ro J.kb (fun a h=>J.nb a (h.elim .inl (fun z=>.inr (.inl z)))),fun x hx=>?_⟩,T5⟩
 ·rcases hz with hz|hz
  ·exact J.sep z (.inl hz)
  ·rcases W.new z hz with w|w
   ·exact J.sep z 0e0
   ·obtain⟨g1,g2,g3⟩:=J.fl.new w;exact⟨g3,g1.1,g1.2,fun y=>by rw[y,Wh] at w;cases w⟩
 ·rcases hx with hx|hx|hx
  ·exact J.nb x 2e0
  ·rcases W.new x hx with w|w
   ·exact J.nb x (.inr (.inl w))
   ·exact J.free w
  ·exact J.nb x (.inr (.inr hx))
def In13.mod(J:In13 C b md G0 G R as sl A p S T)(W:Fm [] A {A' with nk:=A.nk} G G')(F:bQ b G' A' T' p'):In13 C b md G0 G' R as sl A' p' S T'/\aD G G':=by
 obtain⟨ot,M,_⟩:=J.fl.ex;have T6:aD G G':=J.fl.tkp (W.mono (E:=[A.od]) 1e0) M.ho;obtain⟨o,Wh⟩:=J.aw;have RA6:=J.ra.keep (fun z o e hz=>W.kp z o e (by
  rcases hz with rfl|hz|hz
  ·intro w;obtain⟨o',e',hk'⟩:=J.fl.kind w;have:=J.ra.wk.ins;rw[this] at e';cases e';exact hk' _ _ _ rfl
  ·exact(J.sep z (.inl hz)).1
  ·exact(J.sep z (.inr hz)).1) 1e0) T6
 refine⟨⟨RA6,F,(show A'.md=A.md from W.m1.1).trans J.md,fun z hz=>?_,?_,fun x u e _=>W.kp x u (J.kb.at e) (fun w=>by rw[J.nb x (.inr 0e0)] at e;cases e) 1e0,fun x hx=>?_⟩,T6⟩
 ·have old:=J.sep z hz;obtain⟨o,ez,_⟩:=J.ra.cellK hz;refine⟨fun w=>?_,by rw[show A'.cl=A.cl from W.m1.2.1];exact old.2.1,by rw[show A'.cs=A.cs from W.m1.2.2];exact old.2.2.1,fun w=>?_⟩
  ·rcases W.nw z w with w|w
   ·exact old.1 w
   ·rw[w] at ez;cases ez
  ·rcases W.na with u|⟨u,_⟩
   ·exact old.2.2.2 (w.trans u)
   ·rw[<- show z=({A' with nk:=A.nk}:Fa).aw from w,ez] at u;cases u
 ·rcases W.na with u|⟨_,u⟩
  ·rw[show A'.aw=A.aw from u];exact W.st _ _ Wh
  ·exact u
 ·rcases hx with hx|hx|hx
  ·exact J.nb x 2e0
  ·exact J.nb x (.inr 2e0)
  ·rcases W.nw x hx with w|w
   ·exact J.nb x (.inr 0e0)
   ·exact J.free w
end
end
mutual
example:=[(by simp),Str×List Wo,(JP _).filter _]
structure Pu13(b:List Stm)(hs:List Hap)(S:Pu)(i:Nat):Prop where
 ft:Uy true S (302 * i)
 hn:S.sl.isN=false
 sd:Std S
 nm:fH (sM b) S
 lt:gJ (Ip hs) S
theorem Pu13.UO(P:Pu13 b hs S i)(hi:i<=63)(hb:bX b<=62)(hl:hs.length<=63):S.pend.length<=1000000/\S.nm.length < 64/\S.lt.length < 64/\S.ans.length<=1000000/\∀ k ws,aM S.lt k=some ws->ws.length<=1000000:=by
 have a1:=P.ft.pd;have a2:=P.ft.an;have a3:=P.nm.len;have a4:=IL b;have a5:=P.lt.len;have a6:=FE hs;exact⟨by omega,by omega,by omega,by omega,fun k ws h=>by have:=(P.ft.lw k ws h).1;omega⟩
theorem Pu13.take(P:Pu13 b hs S i){x:Hap}(hx:x∈hs)(hf:(0<=x.m/\x.m<=1000000000000)/\eI x.w)(hi:i<=63)(hp:∀ j∈S.pend,0<=j/\j < (S.made:Int)):Pu13 b hs (S.take x).1 (i+1) :=
 ⟨by
  rw[show 302 * (i+1)=302 * i+302 by omega];exact P.ft.E3 x hf.1 hf.2 (fun j hj=>fK (by have:=(hp j hj).1;omega) (by have:=(hp j hj).2;have:=P.ft.md;omega)) (by omega),Cv P.hn x,Cp P.sd P.hn x,P.nm.take x,P.lt.take x (FH hx)⟩
theorem oN.RW{u:V}{s:Slp}(h1:iY H v s)(h2:iY H u s)(n:s.isN=false)(hs:∀ ts,s=.wait ts->ts.length<=100000):oN H 3 v u:=by
 cases s with
 | Um=>cases n
 | wait ts =>
  have hl:=hs ts rfl;obtain⟨p,p2,rfl,e,e2⟩:=h1;obtain⟨q,q2,rfl,f,f2⟩:=h2;refine .tup e f rfl 0e0 fun i x y a b=>?_
  match i,a,b with
  | 0,a,b =>
   simp only[Ξ,Ο] at a b;subst a b;exact .atom trivial
  | 1,a,b =>
   simp only[List.getElem?_cons_succ,Ξ,Ο] at a b;subst a b;refine oN.pair (d:=0) e2 f2 (by rw[Γ];omega) fun v hv=>?_;obtain⟨j,_,rfl⟩:=Β0.mp hv;trivial
  | k+2,a,b=>simp at a
 | ended w =>
  obtain⟨p,rfl,e⟩:=h1;obtain⟨q,rfl,f⟩:=h2;refine oN.pair (d:=1) e f 0e0 fun v hv=>?_;simp only[Α,Δ,Φ] at hv;rcases hv with rfl|rfl
  ·trivial
  ·exact pV w
 | Ur k =>
  obtain⟨p,rfl,e⟩:=h1;obtain⟨q,rfl,f⟩:=h2;refine oN.pair (d:=1) e f 0e0 fun v hv=>?_;simp only[Α,Δ,Φ] at hv;rcases hv with rfl|rfl<;>trivial
 | new =>
  obtain⟨p,rfl,e⟩:=h1;obtain⟨q,rfl,f⟩:=h2;refine oN.pair (d:=1) e f 0e0 fun v hv=>?_;simp only[Α,Δ,Φ] at hv;subst hv;trivial
 | worn =>
  obtain⟨p,rfl,e⟩:=h1;obtain⟨q,rfl,f⟩:=h2;refine oN.pair (d:=1) e f 0e0 fun v hv=>?_;simp only[Α,Δ,Φ] at hv;subst hv;trivial
def LC{X:Cx}(K:q0B)(n:Nat)(e:X.K=K)(hu:X.A.units+n < cLine):jG X (compareOp .NotEq) (Nk K n):=by subst e;exact Dn n hu
theorem IE(s:Slp):oM (.str s.md) [.str "wait",.str "hear"]=s.jK:=by
 cases s<;>(simp only[Slp.md,Slp.jK];decide +kernel)
def vJ{k:Nat}{x:Nat×List Stm×Nat}{r:Stk}:bR ((k,b,n)::x::r)=bR (x::r)++[(k:Int),(n:Int)]:=by
 simp[bR]
def Bs.nums(h:Bs P st B pt):∀ k b n r,st=(k,b,n)::r->bR st=pt++[(n:Int)]:=by
 induction h with
 | bot=>intro k b n r e;cases e;rfl
 | UG hb e ih=>intro k b n r e2;cases e2;rw[vJ,ih _ _ _ _ rfl,Α5,Α5,Α5];rfl
 | X4 hb e ih=>intro k b n r e2;cases e2;rw[vJ,ih _ _ _ _ rfl,Α5,Α5,Α5];rfl
 | if1 hb e ih=>intro k b n r e2;cases e2;rw[vJ,ih _ _ _ _ rfl,Α5,Α5,Α5];rfl
def Ps.Te(h:Ps P st p)(e:bL st=some m):(iK P)[p]?=some ⟨some m,bR st,GR p m⟩:=by
 obtain⟨B,pt,k,b,n,r,rfl,hB,rfl,hn⟩:=h;have en:=hB.nums _ _ _ _ rfl;obtain⟨_,_,_,_,z,i⟩:=hB.inC;cases z;have:=tQ.at i (show b[n]?=some m from e);obtain⟨q,hq⟩:=Bj (pt++[((0+n:Nat):Int)]) (B+bX (b.take n)) m;rw[hq] at this;rw[en];have:=this.head
 rwa [Γ2] at this
theorem qO(m:List 1e0):∀ l:List Str,dN m l=(l.filter fun k=>decide ((aM m k).getD []≠[])).map fun k=>(k,(aM m k).getD [])
 | []=>rfl
 | k::r=>by
  simp only[dN,List.filter_cons,qO m r];by_cases h:(aM m k).getD []=[]
  ·simp[h]
  ·simp[h]
theorem uZ:∀ {m:List 1e0} {k:Str},(aM m k).getD []≠[]->k∈m.map (·.1)
 | [],k,h=>absurd rfl h
 | p::r,k,h=>by
  simp only[aM] at h;split at h
  ·next e=>simp[e]
  ·exact ϑ _ (uZ h)
def JP(l:List Str):(srt l).Pairwise FK:=(List.pairwise_mergeSort (le:=J6) (fun a b c h g=>gE.mpr (qK (gE.mp h) (gE.mp g))) (fun a b=>by
    rcases yW a b with h|h
    · rw[gE.mpr h];simp
    · rw[gE.mpr h];simp) l).imp fun h=>gE.mp h
def JO{l:List Str}{x:Str}:x∈srt l↔x∈l:=(Ζ7 l J6).mem_iff
theorem Iz{m1 m2:List 1e0}(n1:(m1.map (·.1)).Nodup)(n2:(m2.map (·.1)).Nodup)(h:∀ k,(aM m1 k).getD []=(aM m2 k).getD []):dN m1 (srt (m1.map (·.1)))=dN m2 (srt (m2.map (·.1))):=by
 rw[qO,qO,show(fun k=>(k,(aM m1 k).getD []))=fun k=>(k,(aM m2 k).getD []) from funext fun k=>by rw[h],show(fun k=>decide ((aM m1 k).getD []≠[]))=fun k=>decide ((aM m2 k).getD []≠[]) from funext fun k=>by rw[h]]
 congr 1
 refine AA ((List.perm_ext_iff_of_nodup ?_ ?_).mpr fun k=>?_) 2e0 2e0
 ·exact(((Ζ7 (m1.map (·.1)) J6).nodup_iff).mpr n1).filter _
 ·exact(((Ζ7 (m2.map (·.1)) J6).nodup_iff).mpr n2).filter _
 ·simp only[Α6,JO,Ε6];exact⟨fun z=>⟨uZ z.2,z.2⟩,fun z=>⟨uZ (by rw[h];exact z.2),z.2⟩⟩
def gZ.prv(h:gZ H ds r):eL H ds (r.map fun p=>(.int p.1,wv p.2)):=by
 induction h with
 | nil=>exact .nil
 | cons a _ ih=>exact .cons a ih
def Uy.jK(F:Uy wt S N)(h:S.sl.jK=true):∃ m,bL S.stk=some m:=by
 cases e:S.sl with
 | wait ts=>obtain⟨x,ss,z⟩:=F.sl.2 ts e;exact⟨_,z⟩
 | Ur k=>obtain⟨x,z⟩:=F.sl.1 k e;exact⟨_,z⟩
 | _=>rw[e] at h;cases h
def oN.mono{u:V}(h:oN H d v u):oN H (d+1) v u:=by
 induction h with
 | atom a=>exact .atom a
 | tup e f l m _ ih=>exact .tup e f l m ih
structure GU(H:Hp)(d:Nat)(xs ys:List V):Prop where
 len:xs.length=ys.length
 at':∀(j:Nat) x y,xs[j]?=some x->ys[j]?=some y->oN H d x y
end
section
mutual
example:=[(by simp),(.atom (show lU (.int _) from trivial)),(ih g fun p hp=>f p (ϑ _ hp))]
variable{b:Addr}{x:V}{ys:List V}
def GU.nil:GU H d [] []:=⟨rfl,fun j x y e=>by simp at e⟩
def GU.cons(h:oN H d x y)(t:GU H d xs ys):GU H d (x::xs) (y::ys):=⟨by simp[t.len],fun j u v e1 e2=>by
 cases j with
 | zero =>
  simp only[Ξ,Ο] at e1 e2;subst e1 e2;exact h
 | succ j=>exact t.at' j u v (by simpa using e1) (by simpa using e2)⟩
def GU.tup(h:GU H d xs ys)(ha:H a=some (.tup xs))(hb:H b=some (.tup ys))(l:xs.length<=100000):oN H (d+1) (.ref a) (.ref b):=.tup ha hb h.len l h.at'
def Jm{ps:List (V×V)}(h:eL H us ps)(g:eL H vs ps)(f:∀ p∈ps,lU p.1/\lU p.2):GU H (d+2) us vs:=by
 induction h generalizing vs with
 | nil=>cases g;exact .nil
 | @cons a x y us ps e _ ih =>
  cases g with
  | cons e2 g =>
   have:=f (x,y) 0e0;exact .cons ((GU.cons (.atom this.1) (.cons (.atom this.2) .nil)).tup e e2 0e0) 2e0
def O0(h:gX H us ps)(g:gX H vs ps)(f:∀ p∈ps,p.2.length<=100000):GU H (d+3) us vs:=by
 induction h generalizing vs with
 | nil=>cases g;exact .nil
 | @cons a b k ws us ps e e' _ ih =>
  cases g with
  | cons e2 Wg g =>
   refine .cons ((GU.cons (.atom (show lU (.str _) from trivial)) (.cons (oN.pair (d:=d) e' Wg (by rw[Γ];exact f (k,ws) 0e0) fun v hv=>?_) .nil)).tup e e2 0e0) 2e0;obtain⟨w,_,rfl⟩:=Β0.mp hv;exact pV w
theorem vF(nm:List (Str×Wo)):∀(l:List Str),∀ p∈dY nm l,lU p.1/\lU p.2
 | [],p,h=>by simp[dY] at h
 | k::l,p,h=>by
  simp only[dY] at h;split at h
  ·exact vF nm l p h
  ·rcases Α.mp h with rfl|h
   ·exact⟨trivial,pV _⟩
   ·exact vF nm l p h
theorem vA{m:List (Str×List Wo)}:∀ {l:List Str} {p:Str×List Wo},p∈dN m l->aM m p.1=some p.2
 | [],p,h=>by simp[dN] at h
 | k::l,p,h=>by
  simp only[dN] at h;split at h
  ·exact vA h
  ·next e =>
   rcases Α.mp h with rfl|h
   ·cases z:aM m k with
    | none=>rw[z] at e;exact absurd rfl e
    | some ws=>rfl
   ·exact vA h
def Rk(ts:List Int):∀ v∈ts.map V.int,lU v:=fun v hv=>by
 obtain⟨i,_,rfl⟩:=Β0.mp hv;trivial
theorem ML(h:pY H x S)(g:pY H y S)(F:Uy true S N)(lN:N<=90000)(n:S.sl.isN=false)(w:∀ ts,S.sl=.wait ts->ts.length<=100000)(lk:S.stk.length<=100):oN H 5 x y:=by
 unfold pY at h g;split at h
 ·next hg =>
  rw[if_pos hg] at g;obtain⟨p,pl,pn,po,pa,pt,sl,un,ua,ut,rfl,a1,a2,a3,a4,a5,a6,a7,a8,a9,a10⟩:=h;obtain⟨q,ql,qn,qo,qa,qt,UK,un',ua',ut',rfl,b1,b2,b3,b4,b5,b6,b7,b8,b9,b10⟩:=g;have f1:=F.nm;have f2:=F.pd;have f3:=F.an;have f4:=F.lt;have f5:=vI S.stk;have sl:∀ l:List Str,(srt l).length=l.length:=fun l=>(Ζ7 l J6).length_eq;have lt:∀ {n:Nat},n<=N->n<=100000:=fun h=>Χ h (Χ lN (by decide));have l5:un.length<=100000:=by
   rw[a5.len];exact Χ (iX S.nm _) (by rw[sl,Γ];exact lt f1)
  have l10:ut.length<=100000:=by
   rw[a10.len];exact Χ (iW S.lt _) (by rw[sl,Γ];exact lt f4)
  have l8:ua.length<=100000:=by
   rw[a8.len];show(S.ans.map fun p=>((.int p.1,wv p.2):V×V)).length<=100000;rw[Γ];exact lt f3
  refine(GU.cons (oN.RW a2 b2 n w).mono (.cons (oN.pair (d:=2) a3 b3 (by rw[Γ];omega) (Rk _)) (.cons (.atom (pV _)) (.cons 1e0 (.cons ((Jm (d:=1) a5 b5 (vF _ _)).tup a4 b4 l5) (.cons 1e0 (.cons (oN.pair (d:=2) a6 b6 (by rw[Γ];exact lt f2) (Rk _)) (.cons ((Jm (d:=1) a8 b8 fun p hp=>?_).tup a7 b7 l8) (.cons ((O0 (d:=0) a10 b10 fun p hp=>?_).tup a9 b9 l10) .nil))))))))).tup a1 b1 0e0
  ·obtain⟨z,_,rfl⟩:=Β0.mp hp;exact⟨trivial,pV _⟩
  ·exact lt (F.lw _ _ (vA hp)).1
 ·next hg =>
  rw[if_neg hg] at g;exact(oN.RW h g n w).mono.mono
end
end
mutual
example:=[aD.nil k]
structure Q19(H G:Hp)(S:Pu)(sv:V)(pa pn ah l:Addr)(un ut:List V):Prop where
 ea:G ah=some (.tup [sv,.ref pa,wv S.ar,.int S.nw,.ref pn])
 sl:iY G sv S.sl
 pl:G pa=some (.tup ((bR S.stk).map V.int))
 en:G pn=some (.tup un)
 hp:eL G un S.nmS
 eu:G l=some (.lst ut)
 ht:gX G ut S.ltS
 kk:Kp [] H G
def Q19.kp{G':Hp}{sv:V}{pa pn ah:Addr}{un ut:List V}(h:Q19 H G S sv pa pn ah l un ut)(k:Kp [] G G'):Q19 H G' S sv pa pn ah l un ut :=
 ⟨k.at h.ea,h.sl.kt 0e0,k.at h.pl,k.at h.en,h.hp.kt 0e0,k.at h.eu,h.ht.kt 0e0,h.kk.trans k⟩
theorem Pu13.wtl(P:Pu13 b hs S i):∀ ts,S.sl=.wait ts->ts.length<=100000:=fun ts X2=>by
 obtain⟨x',ss,UC,hl⟩:=P.sd.wt ts X2;have:=(P.ft.stm UC).2.1;omega
inductive Ce(vs:List V)(H:Hp)(Q:VK)(E:XK):Prop
 | mk (P:List Stm) (A:Fa) (S:Pu) (p N:Nat) (_:vs=[.ref A.md]) (_:bQ P H A S p) (_:Uy true S N) (_:N<=90000) (_:S.sl.isN=false) (_:Std S) (_:S.nm.length < 64) (_:A.nk < 64) (_:(S.lt.map (·.1)).Nodup) (_:∀(v:V) (H':Hp),pY H' v S->Kp [] H H'->Q v H'):Ce vs H Q E
end
local macro_rules | `(tactic| wp_walk) => `(tactic| wp_walk using true_and)
local macro_rules | `(tactic| wp_walk using $ts,*) => do
  let us ← ts.getElems.mapM fun t => `(Lean.Parser.Tactic.simpLemma| $t:term)
  let vs <- ("Pz RK BZ PU LU LS Tr SN SO SQ SR SS SU SV SW Np Nm Nn Q2 Qj Ov Q1 OB Qx HS Tc S5 S9 Td Ud NF QM HD S4 QH Q7 NO NS Ow NG Ny QX Ox Qh Ta QN Tb Oy HL Oa N8 KJ NX Qw QZ Qi QY QU QT KY KU KW HM HN KR Qz QA Nv Nx Nw ND Q6 Q5 NH Ot Oq Q3 S6 Ol Oo Om Qk Ql Qm Qn Kn Kv HF HG Oj Od Oc S7 KL QI QJ xS uC uF uD uE xT sF sI sG sH Fk Fl CP CQ Qp Qq Oi Oh QQ KI QR NV Ks Kq K0 OK Qr NT Ob SY S2 S3 La HR NI Ko Kx Li NU S8 Qu Oz Lg OI OE OG HU OH OJ OF Ku QK Qs DX Qv OC Nz HK Ou HJ Fn OA Lc OL OM Of OD NK Ky HI HH Kz NJ NY Qy NB Qo Og QF QG QL HP Lb NM Oe QD QB QE QC QW QV QO QP Q0 Ld KQ HQ Qt Lf KO Lh Le HE NW Q4 Ss TQ MV Sq TK Sk Sl Sm Sn TH aA List.set_cons_zero List.set_cons_succ List.getElem?_cons_zero List.getElem?_cons_succ @Lake.start @C0 @IC @List.cons_append @List.nil_append @List.append_nil @List.replicate_succ @List.replicate_zero @List.length_cons @List.length_nil @Nat.reduceAdd @Nat.reduceSub @Nat.zero_add @Nat.add_zero @Nat.reduceLeDiff @Nat.reducePow @Nat.reduceLT @true_and @and_true @false_and @and_false @forall_const reduceIte @cH @String.reduceEq @Int.reduceToNat @Int.reducePow @Int.reduceNeg @Int.reduceSub @Int.reduceAdd @Int.reduceMul @Int.reduceLT @Int.reduceLE @Int.reduceEq @sizeLine @Uj @TF @decide_true @decide_false @Bool.not_true @Bool.not_false @Bool.false_eq_true".splitOn " ").toArray.mapM fun(n:String)=>do
    let p:=n.splitOn "@";let x:=Lean.mkIdent (p.getLastD "").toName
    if p.length=1 then `(Lean.Parser.Tactic.simpLemma| ↓ $x:term) else `(Lean.Parser.Tactic.simpLemma| $x:term)
  let ws:=us++vs
  `(tactic| try simp (config := { dsimp := false }) only [$ws,*])
noncomputable def EI(K:q0B):Sp:=fun vs H Q _=>∃(a:Addr) (ns:List Int),vs=[.ref a]/\eY K H a (ns.map V.int)/\ns.length<=63/\∀ H',Q (.bl true) H'
section
mutual
example:=[(by simp),(by omega),.lst [],(by simp[OK6]),pdg pv0 aC,pix aN pv1 aB,(by decide),6e0,aU bM,.inr "at",pv 0,T.r 44,bE T,pcl 2e1 1e1 (pa2 pv0 aB),(by intro z;cases z),aD.nil N,fI b,i+1,(.inl (by simp[Rn.cells])),S.worth s,I++[x],(fun _ _=>rfl),aD.nil N4,.ref a,fE (bZ S.nm x w),pv 1,pix aN pv0 aB,Kp.new hp,(bN S.pend ws).map V.int,(fun _ _ h=>h),9e2,F1.free hc,.inr k,.ref l2,.dK (aS lk 2e3 3e3),.ref p2,aS kvs 2e3 5e3,ns.map V.str,.lst 7e3,pa1 pv1,(by with_unfolding_all rfl),aL T.aT T.cS pv0,ptc aY pv3 aC,ptc aY pv2 aC,bH i8 aB aB,ns.take i,aD.nil K1,.ref cl,.ref p,new++[pe],F1.trans (Fw.of N4),(z▸ha),pdg pv1 aC,tail rfl _ UK c us H' A' hc ec hC FF,later S.nw m,jS t.aP R (sl) S.ar 4e5,aL T.aT T.dR pv0,S.pend.map V.int,ptc aY pv5 aC,fY eE aB,.lst [wv w],.inl aZ.1,Or.inl rfl,.don m i w,aD.nil N3,A1.kp N4,.ref fl,.int kd,.int p,.inr "now",(aS UE 9e6 (.int (if m > S.nw then m else S.nw))),new++[pe],.lst (((as++1e7++UH)++[pj]).map V.ref),(pmt pv0 T.aT (dZ T) (T.r 41) (pa1 5e0)),some (S.made:Int),(by intro _ z;cases z),.lst (us++[.ref pt]),(by decide +kernel),Fw.of N4,ws.map wv,.lst 9e7,aV (pa1 aC),.ref A0.md,Kp.new h1,pa1 pv2,.ref dk,.U2 m w,T.r 47,.int z,(fun j hj=>by rw[show j=0 by simpa using hj];exact⟨_,rfl,rfl,.inl rfl⟩),(eD.free rfl rfl rfl rfl rfl 9e2 rfl 6e0 rfl 9e8),(.lst [.str "jump",.Um,.ref ph,.int ((as.length+new.length+bX b'+bX o'+2:Nat):Int)]),(.lst [.str "while",.ref a0,.ref ph,.int ((as.length+new.length+bX b'+2:Nat):Int)]),(.lst [.str "if",.ref a0,.ref ph,.int ((as.length+new.length+bX b'+2:Nat):Int)]),j≠i,((S.pend.filter fun j=>decide 4e9).map V.int),((k,b,n)::r),6e9,((bR 7e9).map V.int++[.int kx]),Kp.new (o:=.lst [.ref p3]) h4,(by simpa[Say.depth] using d1),.cons ((q0D h4).at aA) .nil,([]:List Wo).map wv,.lst 2e10,(.tup [.str "hear",.str k]),bB S.ans ws,new++[pe]++UH++[pj],(fun _ _ _ e=>N.at e),hv.kp (aD.new hp),aL T.aT T.gF pv0,.lst [.ref fa],.lst (hv++[v]),ptc aY pv1 aB,.inr "mode",.inr "code",pa1 pv0,.ref A0.cl,(p1:Int)+1,hs.take i,.lst ws,.Ur x k,dC T 4,.dK [],(.lst [.Um,.ref f1,.Um]),(Ul (Ul H f1 2e0) fa 3e12),.lst ((bY ans ws).map V.int),aW cK rfl T.jW eV 9e3,pix aN pv1 (fY eE aB),.lst (vs++[.ref p]),pa2 aC aC,aU 9e12,aL T.c9 T.e9 pv0,A0.cs.map V.ref,.lst (r.map wv),.str S.sl.md,KG.trans N3,aG (aK vZ),F3.free hc,.wait x ss,.ref A0.ld,as++[p2],.lst ut,.lst un,hZ rfl,.dK kC,.dK kB,.dK kA,.dK k9,.dK k8,pa2 pv0 aB,(if ib=true then "if" else "while"),(.tup [.str 0e15,sv]),pcl (gM T) (T.r 45) 5e11,fE (bZ S.nm x (bB S.ans ws)),Ul (Ul G2 md 2e12) nd 2e12,Ul G3 op (.lst (us++[.ref p])),(Vl.app (.cons e3 .nil)).kt t4,bF cO rfl T.dP cL 4e8,aW cK rfl T.jW eV 4e8,aL T.aT T.i5 pv0,(.lst ((as++9e4).map V.ref)),(ppt pv0 aC (bH cR 4e0 aB)),(K3.trans (Kp.set 0e0)),(ws++[w]).map wv,.tup [.str "worn"],(by simp;try omega),M3.other Ve XE Xd,(by simpa using h),(by rw[Ψ,ea];rfl),aL T.c9 T.iI pv0,aL T.bI T.gS pv0,aL T.aT T.o7 pv0,.inr "letters",ppt pv0 aC aC,i∈bY ans ws,(Α6.mp hj).1,(by exact hu),WX.trans W',S.worth s2,S.worth s1,F2.free hc,.ltr m k w,pa1 pv3,.ref p1,.ref op,.lst us,.drop s,pa1 aB,aK pv2,T.r 53,T.r 0,(.ins t.aP dx [("walk",.ref wk),("sleep",.ref p),("arg",.Um),("now",.int 0),("names",.ref nm),("tickets",.ref tk)]),(.ins t.aP dx [("walk",.ref wk),("sleep",.ref p),("arg",.Um),("now",.int 0)]),as++1e7++UH,(.ins t.aP dx [("walk",.ref wk),("sleep",.ref p),("arg",.Um)]),(.lst [.int ((p1+bX b+2:Nat):Int),.int 7e11]),(fun a ha o e=>KE _ _ (fun z=>Yg.2 1e5) e),(M4.as ⟨rfl,rfl,rfl,rfl,rfl,rfl⟩),(.lst ((bR 6e9).map V.int)),.int (((p1+bX b+2:Nat):Int):Int),(.ins t.aP dx [("walk",.ref wk)]),jS t.aP R 8e4 S.ar S.nw,aS UE 9e6 (.int m),(pix aN (pix aN 4e0 4e0) aB),(.tup [.str "wait",.ref l5]),aD.new hp,(by simp[z]),(fun z=>n 6e20),(bR S.stk).map V.int,Fw.of N3,F1.trans 9e20,ds++[.ref pt],aV (pa2 aC pv1),F1.free (dD h4),(z▸aZ.2.2.2.1),ptc jP pv1 aB,ptc aY pv0 aC,ns.take 7e1,(by simp;omega),bN S.pend ws,WY n (ϓ en),(by simp[hz]),K1.trans K2,i∈S.pend,(fun _=>rfl),aG (aK cI),KH b o e n,ws.take i,h.2.at el,aD.nil NL,(z▸aZ.1),Fw.of N2,A3.kp N4,.ref R.x,.inl rfl,ws++[w],aF e fm,VC a ha,S.at' m,KG.at e,301 - i,.tup un,.ref bp,us++Wv,mW rfl,kO rfl,i6 T 6,T.r 67,.ref r,pgn 3,k7 aB,T.r 4,T.r 3,(fun a ha=>by simp only[Α,Δ,Φ] at ha;rcases ha with rfl|rfl|rfl;exact .inl rfl;exact .inr 4e23;exact .inr (.inr 4e23)),(fun _ _ h=>look1 rfl h),(eD.free rfl rfl rfl rfl rfl 4e25 rfl 7e0 rfl (fun j hj=>by rw[show j=2 by simpa using hj];exact⟨_,rfl,rfl,.inl rfl⟩)),T.r 54,pix aN pv0 pv3,aO (pcl IH 6e25 (pa3 (pix aN 7e25 aB) (bH jA pv4 (aV 7e18)) pv2)),(dU ⟨t.aP,t.aQ,t.aJ⟩ true (fun m=>∃ x y s,m=.order x y s\/m=.child x y s)),(((K1.trans K2).trans 3e8).trans (K3.trans K4)).trans (Kp.new hp),pcl IH 7e8 (pa2 pv0 (bH i9 pv1 aB)),(dF S.ans ws).map V.int,.lst 2e26,(.ins t.aQ wx [("blocks",.ref lb),("numbers",.ref ln)]),(fun z=>Y9 (z▸ha)),(fun a ha _ e=>KS.at1 e 5e26),.inr "open",aS X6 7e26 (.ref o2),aS UW 7e26 (.ref o2),5e26,(Fm.ofK KM fun b hb=>?_),((Fm.of N1).trans 1e27),(.lst [.str m.kw,.ref a0,.ref ph,.Um]),kZ (v:=.ty "tuple") rfl T.dP cL rfl,kZ (v:=.ty "list") rfl T.Cz zW rfl,T.r 16,(aO (pmt0 9e15 T.c9 (iD T) 6e27)),(by simp only[Γ,Ν,Ζ,ϕ];omega),(.lst [.str "wait",.str "hear"]),Kp.new YA,(Kp.new hle).trans 0e28,r.map wv,T.r 15,pmt0 pv0 T.c9 (gH T) 3e28,T.r 46,pcl (jO T) 5e28 (pa1 pv0),(by simp only[Say.depth];omega),.int ((p+1:Nat):Int),(by rw[bK,bW];simp[FC.cells]),(bF cO rfl T.dP cL (pa1 4e0)),(.lst [.ref ht,.ref WQ,.Um]),aS UW (.inr "arg") (wv w),(.tup [.str "ended",wv w]),(l++[(n:Int)]).map V.int,Ul H3 c (.lst 3e24),(fun _ _ _ e=>N1.at e),c0 aC (pa3 aC aC aC),(Ul G4 l5 (.tup 8e2)),F3.trans 9e20,(Fm.of N2).trans W',(fE (bZ S.nm x 4e7)),(fE (bZ S.nm x 9e1)),(by rw[et];exact O1),(by rw[et];exact F),gU hC.ex (kL ee),(fun b o e hb=>?_),aL T.aT T.gR pv0,(Dm 1 (Fx hr 7e0)),F3.free (dD h4),(z▸aZ.2.2.2.2),.inr "awaited",ptc jP pv3 aB,ptc aY pv4 aB,ptc aY pv2 aB,(eK).trans c3,(eK).trans c1,(z▸aZ.2.2.1),.dK (hW ans),M1.Z7 Vb XE,K6.trans K7,aD.nil N9,aD.nil N2,aD.nil KZ,aD.nil K2,Kp [] H G,A3.tkp F3,A2.tkp F2,nomark _,NZ.at eh,A3.kp N3,A1.kp N3,fE S.nm,.ref rl,.ref pt,.ref p3,.ref md,.lst xs,some 2,T.r 64,T.r 63,T.r 62,T.r 57,T.r 55,T.r 52,T.r 43,T.r 39,T.r 35,T.r 10,FC×Fr,.ref l,.int n,.int j,.int i,9e8,0e15,(cX G A0.md A0.nd A0.od A0.dd VJ S/\G a=some (.tup [.str "wait",.str x,.ref pp])/\G p2=some (.lst 2e26)/\G p3=some (.lst 8e2)/\Kp [A0.md] G1 G/\aD G1 G),pix aN (pix aN pv0 9e5) (bH cR aB (bF gP rfl T.yE lW (pa1 (pcr kF (pix aN (pix aN pv0 9e5) aB) cI)))),pmt0 pv4 T.aT (mE T) (T.r 30),pcl (jN T 5) 7e24 (pa2 8e35 (pcl (rS T) (T.r 68) 2e18)),(aG (aK (aV (c0 aC (pa3 2e15 (pix aN (aU 9e12) 3e1) (pcl 1e12 7e8 9e14)))))),(Fm.set (b:=A1.md) (o:=.dK (aS UW 9e0 (.int (((p1+1:Nat):Int):Int)))) (.inl aZ.1)),.int (((p1+1:Nat):Int):Int),(pH PySem.F.slot_list_pop PySem.F.type_list_pop An (pdg 4e0 5e0) 7e18),(.lst [.str "jump",.Um,.ref ph,.int ((as.length+new.length:Nat):Int)]),(dU ⟨t.aP,t.aQ,t.aJ⟩ true (fun m=>∃ s k r,m=.send s k r)),(fun C s H ex pn=>⟨iF (eC jV (pv 0) 5e2 0e4) ,(pv 0) ⟩),(dU ⟨t.aP,t.aQ,t.aJ⟩ true (fun m=>∃ x ss,m=.wait x ss)),(dU ⟨t.aP,t.aQ,t.aJ⟩ true (fun m=>∃ x s,m=.set x s)),(dU ⟨t.aP,t.aQ,t.aJ⟩ true (fun m=>∃ x s,m=.UA x s)),(dU ⟨t.aP,t.aQ,t.aJ⟩ true (fun m=>∃ x k,m=.Ur x k)),(dU ⟨t.aP,t.aQ,t.aJ⟩ true (fun m=>∃ s,m=.drop s)),(aG (aK (aV (pa3 aC 2e15 (pcl 1e12 7e8 9e14))))),(dU ⟨t.aP,t.aQ,t.aJ⟩ true (fun m=>∃ s,m=.fin s)),(ppt pv0 aC (aW 3e14 rfl T.AU oB (pa2 4e0 pv4))),(pcl IH (T.r 1) (c0 6e2 (c0 pv1 (pa3 pv2 pv3 pv4)))),(.tup [.str "timer",.int S.made,.int (uB S.nw 9e1)]),.dK (aS kvs (.inr "made") (.int ((S.made:Int)+1))),Ul H ln (.lst ((l++[((n+1:Nat):Int)]).map V.int)),(pif 4e31 (aG (aK (aV (pa2 aC 1e26))))),pcl 6e24 9e18 (pa2 (pix aN pv4 aB) pv0),(aG (aO (pmt 9e15 T.c9 (pB T) (T.r 17) 7e18))),S.worth r,(.tup [.str "send",wv 9e1,.str k,wv 2e38]),(.tup [.str "order",.int S.made,.str y,wv 9e1]),(.tup [.str "child",.int S.made,.str y,wv 9e1]),(pF (v:=.int 1000000000) rfl T.lX ⟨_,rfl⟩),(aK (aV (pa2 aC (pcl 1e12 7e8 9e14)))),(by rw[show a=p2 by simpa using ha];exact WZ),(.tup [sv,.ref pa,wv S.ar,.int S.nw,.ref pn]),aD.nil (((NL.trans K3).trans NP).trans Kt),(.tup [.int S.made,.ref po,.ref pd,.ref pt]),(nE rfl T.rJ (pa1 (aW cK rfl T.jW eV 5e11))),(fun a ha o e=>KE _ _ (fun z=>npn 1e5) e),(fun a ha _ e=>KS.at1 e (fun z=>nc5 1e5)),(pmt pv0 T.aT (lG T) (T.r 42) (pa1 5e0)),(fun a ha o e=>KE _ _ (fun z=>YK 1e5) e),aO (pcl (BJ T) (T.r 61) (pa2 pv0 pv2)),(.lst ((I++[x]).map fun x=>.ref x.1.fa)),(Fw.set (p:=l) (o:=.lst 2e28) (.inr WB)),(Fw.set (p:=l) (o:=.lst 3e16) (.inr WB)),.tup ((pt++[(i:Int)]++[0]).map V.int),(fun b o e hb=>KM.at1 e (F1.far hb).1),(bB S.ans ws=none/\bN S.pend ws≠[]),(M7.as ⟨rfl,rfl,rfl,rfl,rfl,rfl⟩),(aO (pmt0 1e4 T.bI (jM T) (T.r 11))),aK (pmt0 pv0 T.aT (vK T) (T.r 36)),(.lst [.str "jump",.Um,.ref ph,.Um]),(S.pend++[(S.made:Int)]).map V.int,(pcl (pD T) (T.r 56) (pa2 pv0 5e0)),(eL G xs (dY S.nm 5e4)/\Kp [] G2 G),(aG (aO (pcl (pC T) (T.r 50) 9e3))),(fun z=>by rw[z] at l0;simp at l0),(.tup [.str "ended",.str "worn"]),y8 pv0 0e25 0e25 0e25,(Z=[some 7e4,some 6e6,v2,v3,v4]),(dF S.ans ws).map V.int++[.Um],((Fm.ofK KF fun b hb=>?_).od Zx),(pcl IH 9e18 (pa2 6e2 pv1)),jS t.aP R (.ref p6) S.ar S.nw,((∀ a∈fl::dW 0e2,H a=none)),(p1:Int)=((iK P0).length:Int),((as++9e4++UH++[pj]).map V.ref),as.length+new.length+bX b'+2,(.tup [.str "letter",.int m]),(by rw[aE n1.symm];exact aA),(0<=h.m/\h.m<=1000000000000),(.tup [.str "begin",.int m]),.int ((p1+bX b+2:Nat):Int),rC (pix aN pv2 pv6) aB wW,(ptc aY (pix aN 6e5 aB) aC),jS t.aP R (.Um) S.ar S.nw,(.tup [.str "drop",.int i]),(.tup [.str "done",.int m]),(Ul H4 p2 (.tup [v,u,u2])),(S.lt++[(k,([]:List Wo))]),.lst (ws.map wv++[wv w]),(Ul GW1a A1.md (.dK 9e26)),Int.emod_lt_of_pos _ m0,(eX (eC jV 5e0 4e0 0e4)),(Ul G5 A0.dd (.lst 1e21)),(Ul G2a A0.md (.dK 0e7)),(Ul G2a A0.md (.dK 8e26)),(KK.trans (N2.mono 0e0)),(A1.uM W2 (K2.mono 0e0)),(.tup [.str "end",wv w]),(Ul G5 A0.nd (.dK 3e15)),(Ul G2 A0.nd (.dK 4e2)),(Ul G2 A0.md (.dK 0e7)),(.lst (8e9++[.int nx])),.int ((p1+1:Nat):Int),.inr (.inr (.inr ha)),(fun h=>.inr (.inl h)),(fun a _ o h=>N2.at h),as.length+new.length,aD.nil (NL.trans Kt),List.cons_ne_nil _ _,(Ul H1 od (.lst 5e9)),(.dK (aS UE 9e0 8e28)),(Fm.of NQ).trans W',kp1T Yh (KZ.at eG),(fun _ h=>nomatch h),(fun _ H1=>Q .Um H1),(fE (bZ S.nm n 4e7)),(by simp[Fa.mut,a5]),(by rw[e0];exact ok),(by rw[W'.nk];omega),(.tup [.int i,wv w]),.tup (.str kd::xs),(by simpa using hm),(by simpa using YV),(by simp[Fa.mut,y]),(by rw[e0];exact W),.tup [.str "new"],(.tup [.Um,.int 0]),.int (S.made:Int),aL T.bI T.gQ pv0,aL T.aT T.yY pv0,(Dn 1 (Fx hr 7e0)),.int ((p:Int)+1),(by split<;>simp),A1.cs.map V.ref,z.2.b2.getD [],y.2.b2.getD [],(by simp[a1,a5]),(by rw[hg];simp),(by rw[eG];simp),Str.ofString j,Ax pv4 (mK aB),(q0D m2).at aA,ws++[V.ref p],ptc mI pv3 cI,ptc jP pv2 aB,pcr aY pv2 aC,(by rw[hn];rfl),S1.bD.worth s,.int (p':Int),.cons YY .nil,(eK).trans d3,(eK).trans d1,(eK).trans c2,rC pv0 aB wW,ms.map V.int,(by exact rfl),S.ans.take i,I'++[y]++[x],.iff s b' o',some j∈ws,pa2 pv0 pv4,(by simp[wv]),(by simp[hb]),(aO (tI 1e13)),(aG (aK 8e0)),(aG (aK 6e2)),aD.nil J.kb,W2.trans W',TM.trans T4,N1.trans N2,F2.trans F4,F2.trans F3,F1.trans F3,A2.Bm T3 K4,.ltr m k0 w,pa2 pv3 aB,(by cases e),Or.inr rfl,MW rv R.da,F6.free hc,F4.free hc,300 - many,.ref A0.aw,.lst [.Um],(fun z=>?_),aD.nil NR,aD.nil NQ,aD.nil K9,aD.nil K8,aD.new m2,aD.new m1,aD.new h2,V.ref R.x,Kp.new m2,Kp.new m1,Kp.new hc,Kp.new h9,Kp.new h6,Kp.new h5,Kp.new h4,Kp.new h3,Kp.new ZT,D6.new h6,D5.new h2,.str "on"]
variable{P:Program}{w:World}{K:q0B}(T:Tx P w base K mg t)
theorem BD:Ok T 7e24 1 (fun _ _ _ _=>False):=(T.r 67).ok (fun vs H Q E h=>False.elim h) (fun UI A outer s H vs Q E hr _ h=>False.elim h)
theorem vQ:Ok T 5e34 1 JB:=by
 nomatch T.r 43
 ·obtain⟨z,k,rfl,_⟩:=h;rfl
 ·obtain⟨z,k,rfl,q⟩:=h
  nomatch (pss2 (pif (ptc RF pv0 4e4) (aG (aK (aU (pa3 (bH i9 pv0 4e4) aB pv1))))) (aK (aU (pa3 pv0 aB pv1)))),0
  wp_walk;split
  ·exact fun r ZT=>q r _ ZT 9e54 ⟨_,_,_,aA,by omega,by omega⟩
  ·exact fun r ZT=>q r _ ZT 9e54 ⟨_,_,_,aA,by omega,by omega⟩
theorem bE:Ok T 1e1 1 EG:=by
 nomatch T.r 44
 ·obtain⟨r,m,n,rfl,_⟩:=h;rfl
 ·obtain⟨r,m,n,rfl,m0,m1,⟨c,f,s,hr0,s0,s1⟩,hn,q⟩:=h
  nomatch (aI (lA (bH cR 6e2 aB) 1e50) (aI (pif (ptc aY 6e2 aB) (pss3 (pst 2 (bH vW 6e2 pv1)) (lA (bH BO 6e2 pv1) 1e50) 8e18)) (pss3 (pst 3 (bH vW (bH cR 6e2 (bH oH aB 6e2)) aB)) (pst 3 (bH vW (bH oH pv3 pv3) aB)) (aK (bH vW (bH BO (bH vW (bH oH pv3 (bH cR (bH cR pv3 aB) (bH oH aB 6e2))) aB) aB) pv1))))),0
  exists hr0,ix32
  split
  ·exact⟨m0,⟨m0,log2_lt m0 m1⟩,q _ _ (Int.emod_nonneg _ 1e0) 8e43 ⟨_,_,_,aA,by omega,by omega⟩ ((Kp.set 0e0).trans (Kp.set 0e0))⟩
  ·exact⟨Em 7e0 7e0,Mz 7e0 7e0 _,Mz 7e0 7e0 _,⟨by decide,by decide⟩,m0,q _ _ (Int.emod_nonneg _ 1e0) 8e43 ⟨_,_,_,aA,by omega,by omega⟩ (Kp.set 0e0)⟩
theorem pC:Ok T (T.r 50) 1 JA:=by
 nomatch T.r 50
 ·obtain⟨fl,I,x,y,i,s,rfl,_⟩:=h;rfl
 ·obtain⟨fl,I,x,y,i,s,rfl,F,hh,hl,q⟩:=h;have hu:=lF hr
  nomatch (pss2 (lA (tI pv0) (Ji rfl (fP (pgn 1) (fP (pgn 2) (fP 9e24 tK))))) (fZ (ptc aY 5e0 aC) (aG (aO (dS 7e35 (bH jA pv1 (aV (pa2 7e15 (bF cO rfl T.dP cL (pa1 (Pt pv3 (mK 8e0)))))))))) (aG (aO (dS 7e35 (bH jA pv1 (aV (pa1 7e15)))))))),0
  have la:=Lu 0e2 y;have ld:=FJ 0e2 y;have ef:=F.e;obtain⟨P1,FY⟩:=F.pop;obtain⟨hv,VP,e1,e2,e3,e4,e5⟩:=FY;rw[hh] at e2;obtain⟨ha,sv,rfl,eh,hS⟩:=e2;have K1:Kp (fl::x.1.cells) H (Ul H fl 8e39):=Kp.set 0e0;left
  exists ef,la,ld
  refine⟨_,eY.of e1,rfl,?_⟩;generalize Ul H fl 8e39=G1 at *;wp_walk;right;obtain⟨ux,ex⟩:=(P1.fr x 0e0).cu;obtain⟨hvx,usx,x1,_⟩:=P1.fr x 0e0;have ep:=P1.e;have l1:=Ej I x;have tl:∀(m:Stm) (p:Addr) (GP:Hp) (Kc:VK) (ys:List V),m=fB y.2 i s->GP p=some (.tup ys)->ys.length<=4->(∀ pt Gt,Gt pt=some (.tup ([.str (if i=true then "if" else "while"),sv]++ys))->Kp [] GP Gt->cG Gt 4e33 m)->Kp [] G1 GP->(∀ pt Gt us,Gt x.1.cur=some 5e18->us.length < 16777216->Q .Um (Ul Gt x.1.cur 6e7)->Kc 4e33 Gt)->tT (.ref ha) 8e4 GP Kc:=fun m p GP Kc ys em ep ly hm KP k=>by
   refine zP (KP.at eh) ep 8e21 fun pt Gt et Kt=>?_;subst em;have KT:=KP.trans Kt;obtain⟨us,b,c1,c2,c3,c4,c5⟩:=(P1.kp KT).app (hm pt Gt et Kt);have lu:=c2.len;have lx:=hl x 0e0;refine k _ _ _ c1 ?_ (q _ c5 (fun z o e n=>?_))
   ·rcases c3 with rfl|c3
    ·omega
    ·rw[c3] at lx;have:b.length<=1000:=lx.2;omega
   ·rw[aE (fun y=>n (by rw[y];exact ϑ _ c4))];exact KT.at (K1 z o e n)
  clear q P1 F la ld ef hl;cases i with
  | true =>
   replace eh:G1 ha=some (.tup [.str "if",sv]):=eh
   exists eh,ep,l1,x1,CN,ex,e3
   refine fun l hl=>?_;generalize hg:Ul G1 l (.tup VP)=G2;have NL:Kp [] G1 G2:=hg▸Kp.new hl;have el:G2 l=some (.tup VP):=hg▸aA;clear hg;have ny:∀(q2 p:Addr) (V9:List V) (G3:Hp) (Kc:VK),G3 q2=some (.tup V9)->bU G3 V9 3e48->Kp [] G2 G3->G3 p=none->(∀ pt Gt us,Gt x.1.cur=some 5e18->us.length < 16777216->Q .Um (Ul Gt x.1.cur 6e7)->Kc 4e33 Gt)->tT (.ref ha) 8e4 (Ul G3 p (.tup [.ref l,.ref q2])) Kc:=fun q2 p V9 G3 Kc z1 z2 K3 hp k=>by
    have NP:=q0D (o:=.tup [.ref l,.ref q2]) hp;refine tl _ p _ Kc [.ref l,.ref q2] rfl aA 0e0 (fun pt Gt et Kt=>?_) ((NL.trans K3).trans NP) k;have TT:=aD.nil (NP.trans Kt);exact .iff et (hS.kp 0e39) (TT _ _ (K3.at el)) (e4.kp 0e39) (TT _ _ z1) (z2.kp TT)
   clear tl;cases hy2:y.1.f2 with
   | none =>
    have hb:y.2.b2.getD []=[]:=by
     rw[hy2] at e5;cases h:y.2.b2 with
     | none=>rfl
     | some b=>rw[h] at e5;exact e5.elim
    exists rv
    exact fun le hle q2 YA p hp=>ny q2 p [] _ _ aA (by rw[hb];exact .nil) 1e28 hp fun pt Gt us c1 c2 c3=>by rw[c1];exact⟨c2,c3⟩
   | some a2 =>
    rw[hy2] at e5;obtain⟨V9,e6,e7⟩:∃ V9,G1 a2=some (.lst V9)/\bU G1 V9 3e48:=by
     cases h:y.2.b2 with
     | none=>rw[h] at e5;exact e5.elim
     | some b=>rw[h] at e5;obtain⟨us,e6,e7⟩:=e5;exact⟨us,e6,e7⟩
    replace e6:=NL.at e6;replace e7:=e7.kp 9e22
    exists rv,e6
    split
    ·exact fun q2 YA p hp=>ny q2 p V9 _ _ aA (e7.kp (aD.nil 0e28)) 0e28 hp fun pt Gt us c1 c2 c3=>by rw[c1];exact⟨c2,c3⟩
    ·next ht =>
     have hu:V9=[]:=by cases V9<;>simp at ht ⊢
     subst hu;exact fun le hle q2 YA p hp=>ny q2 p [] _ _ aA (e7.kp (aD.nil 1e28)) 1e28 hp fun pt Gt us c1 c2 c3=>by rw[c1];exact⟨c2,c3⟩
  | false =>
   replace eh:G1 ha=some (.tup [.str "while",sv]):=eh
   exists eh,ep,l1,x1,CN,ex,e3
   refine fun l hl p hp=>?_;have NL:=(q0D (o:=.tup VP) hl).trans (Kp.new (o:=.tup [.ref l]) hp);exact tl _ p _ _ [.ref l] rfl aA 0e0 (fun pt Gt et Kt=>.UG et (hS.kp 5e45) (Kt.at ((q0D hp).at aA)) (e4.kp 5e45)) NL fun pt Gt us c1 c2 c3=>by rw[c1];exact⟨c2,c3⟩
theorem gM:Ok T (T.r 45) 2 EF:=by
 nomatch T.r 45
 ·obtain⟨r,n,rfl,_⟩:=h;rfl
 ·obtain⟨r,n,rfl,hR,hn,q⟩:=h
  nomatch (aG (aK (pix aN (aU 7e29) 3e1))),0
  wp_walk;refine fun p hp=>⟨_,hR.new hp,by omega,fun g H1 a1 b1 R1 K1=>?_⟩
  exists made1 K1 hR hp
  refine iM a1 b1 fun v hv=>?_;have K:=(Kp.new (S:=[r]) hp).trans K1;simp only[Α,Δ,Φ] at hv;rcases hv with rfl|rfl|rfl|rfl<;>exact q _ _ R1 K
theorem AK(hn:3<=n)(IH:fG P w K mg base U7 n (t.a 47) (t.d 47) ["deck","deep"] (AF d)):Ok T 7e8 (n+1) (AF (d+1)):=by
 nomatch T.r 47
 ·obtain⟨r,dp,n,rfl,_⟩:=h;rfl
 ·obtain⟨r,dp,n0,rfl,d1,d2,hR,hn0,q⟩:=h
  nomatch (aI (pst 2 3e1) (aI (pif 2e49 (aG (aK (aV (pa2 aC 2e15))))) (aI (pif (PW.pt (Jn 2e49 (Dr 5e21))) (aG (aK (pix aN (aU (c0 (aV (pa2 aC 3e1)) (c0 1e8 (pa3 1e8 1e8 (aV (pa2 aC 9e5)))))) 3e1)))) (aI (pif 4e31 (aG (aK (aV (pa2 aC (pix aN (aU (c0 4e4 (pa3 (fY eE 4e4) aB aB))) 3e1)))))) (aI 9e37 (pss3 9e37 (pst 3 1e26) (aK (aV (pa3 (pix aN (aU (c0 aC 7e29)) 3e1) pv3 1e26))))))))),0
  left;wp_walk;have bp:=Na d;have be:bd (d+1)=2 * bd d+3:=rfl;refine⟨_,hR,by omega,fun g H1 a1 b1 R1 K1=>?_⟩;right;left;wp_walk;split
  ·refine⟨_,R1,by omega,fun x H2 R2 K2=>?_⟩;wp_walk;exact fun p hp=>q _ (.name x) _ (.name aA) trivial 0e10 ((R2.new hp).up 1e0) ((K1.trans K2).trans 7e2)
  right;left;wp_walk;simp only[Tf];split
  ·refine⟨_,R1,by omega,fun g2 H2 a2 b2 R2 K2=>?_⟩;wp_walk;refine fun p1 h1 p2 h2 p3 h3 p4 h4 p5 h5 p6 h6=>⟨_,(((((R2.new h1).new h2).new h3).new h4).new h5).new h6,by omega,fun g3 H3 a3 b3 R3 K3=>?_⟩;have q1:=(R2.none h1);have q2:=((R2.new (o:=.tup [.str "number",.int g2]) h1).none h2);have q3:=(((R2.new (o:=.tup [.str "number",.int g2]) h1).new (o:=.tup [.str "none"]) h2).none h3);have q4:=((((R2.new (o:=.tup [.str "number",.int g2]) h1).new (o:=.tup [.str "none"]) h2).new (o:=.tup [.str "arg"]) h3).none h4);have q5:=(((((R2.new (o:=.tup [.str "number",.int g2]) h1).new (o:=.tup [.str "none"]) h2).new (o:=.tup [.str "arg"]) h3).new (o:=.tup [.str "now"]) h4).none h5);have q6:=((((((R2.new (o:=.tup [.str "number",.int g2]) h1).new (o:=.tup [.str "none"]) h2).new (o:=.tup [.str "arg"]) h3).new (o:=.tup [.str "now"]) h4).new (o:=.tup [.str "number",.int (-7)]) h5).none h6);have N6:=q0D (o:=.lst [.ref p1,.ref p2,.ref p3,.ref p4,.ref p5]) h6;have N5:=(q0D (o:=.tup [.str "number",.int (-7)]) h5).trans N6;have N4:=(q0D (o:=.tup [.str "now"]) h4).trans N5;have N3:=(q0D (o:=.tup [.str "arg"]) h3).trans N4;have N2:=(q0D (o:=.tup [.str "none"]) h2).trans N3;have N1:=(q0D (o:=.tup [.str "number",.int g2]) h1).trans N2;have t1:=K3.at1 (N2.at aA) q1;have t2:=K3.at1 (N3.at aA) q2;have t3:=K3.at1 (N4.at aA) q3;have t4:=K3.at1 (N5.at aA) q4;have t5:=K3.at1 (N6.at aA) q5;have t6:=K3.at1 aA q6;have K:=((K1.trans K2).trans (N1.mono (T:=[r]) 0e0)).trans K3
   exists t6
   refine iM a3 b3 fun v hv=>?_;simp only[Α,Δ,Φ] at hv;rcases hv with rfl|rfl|rfl|rfl|rfl
   ·exact q _ (.num g2) _ (.num t1) ⟨by omega,by omega⟩ 0e10 (R3.up 1e0) K
   ·exact q _ .Um _ (.Um t2) trivial 0e10 (R3.up 1e0) K
   ·exact q _ .arg _ (.arg t3) trivial 0e10 (R3.up 1e0) K
   ·exact q _ .now _ (.now t4) trivial 0e10 (R3.up 1e0) K
   ·exact q _ (.num (-7)) _ (.num t5) ⟨by decide,by decide⟩ 0e10 (R3.up 1e0) K
  rename_i hc
  right;left;wp_walk;split
  ·refine fun p hp=>⟨_,R1.new hp,by omega,fun g2 H2 a2 b2 R2 K2=>?_⟩
   exists made1 K2 R1 hp
   refine iM a2 b2 fun v hv=>?_;wp_walk;refine fun p2 h2=>?_;have K:=((K1.trans 7e2).trans K2).trans (Kp.new (o:=.tup [.str "number",v]) h2);simp only[Α,Δ,Φ] at hv;rcases hv with rfl|rfl|rfl|rfl<;>exact q _ (.num _) _ (.num aA) ⟨by decide,by decide⟩ 0e10 ((R2.new h2).up 1e0) K
  right;left;wp_walk;split
  ·refine⟨r,dp - 1,_,rfl,by omega,by omega,R1,by omega,fun v s H2 hv ok ZK R2 K2=>?_⟩;wp_walk;exact fun p hp=>q _ (.ans s) _ (.ans aA 8e10) ok 7e28 ((R2.new hp).up 1e0) ((K1.trans K2).trans 7e2)
  right;left;wp_walk;split
  ·refine⟨r,dp - 1,_,rfl,by omega,by omega,R1,by omega,fun v s H2 hv ok ZK R2 K2=>?_⟩;wp_walk;exact fun p hp=>q _ (.neg s) _ (.neg aA 8e10) ok 7e28 ((R2.new hp).up 1e0) ((K1.trans K2).trans 7e2)
  right;left;wp_walk;refine⟨r,dp - 1,_,rfl,by omega,by omega,R1,by omega,fun u s1 H2 hv1 ok1 hd1 R2 K2=>?_⟩;right;wp_walk;refine fun p hp=>⟨_,R2.new hp,by omega,fun g3 H3 a3 b3 R3 K3=>?_⟩
  exists made1 K3 R2 hp
  refine iM a3 b3 fun v hv=>?_;wp_walk;refine⟨r,dp - 1,_,rfl,by omega,by omega,R3,by omega,fun u2 s2 H4 hv2 ok2 hd2 R4 K4 p2 h2=>?_⟩;have K:=(((K1.trans K2).trans 7e2).trans K3).trans (K4.trans (Kp.new (o:=.tup [v,u,u2]) h2));have T1:aD H2 4e43:=(((aD.new hp).trans ((R2.new hp).tk K3)).trans (R3.tk K4)).trans 9e53;have fin:∀ gg:Sg,v=.str gg.s->Q 5e3 4e43:=fun gg e=>by
   subst e;exact q _ (.two gg s1 s2) _ (.two aA (hv1.kp T1) (hv2.kp 9e53)) ⟨ok1,ok2⟩ 7e28 ((R4.new h2).up 1e0) K
  simp only[Α,Δ,Φ] at hv;rcases hv with e|e|e|e|e
  ·exact fin .add e
  ·exact fin .sub e
  ·exact fin .mul e
  ·exact fin .lt e
  ·exact fin .eq e
theorem dC(T:Tx P w base K mg t):∀ d,fG P w K mg base U7 (d+3) (t.a 47) (t.d 47) ["deck","deep"] (AF d):=by
 intro d
 induction d with
 | zero=>exact⟨fun _ _ _ _ x=>by (obtain⟨_,_,_,_,h,h',_⟩:=x;exact absurd h 1e0),fun _ _ _ _ _ _ _ _ _ _ _ _ _ x=>by (obtain⟨_,_,_,_,h,h',_⟩:=x;exact absurd h 1e0)⟩
 | succ d ih=>exact AK T 1e0 ih
theorem BK:Ok T (T.r 48) 9 Cb:=by
 nomatch T.r 48
 ·obtain⟨r,n,rfl,_⟩:=h;rfl
 ·obtain⟨r,n,rfl,hR,hn,q⟩:=h
  nomatch (aI (pst 1 3e1) (aI (pif 5e21 2e37) (aI (pif 5e21 0e36) (aI (pif 2e11 2e37) (pss3 (pif 2e11 0e36) (pif 2e11 (aG (aK (aV (c0 aC (pa3 (pcl 1e12 7e8 9e14) (pix aN 0e13 3e1) (pcl 1e12 7e8 9e14))))))) 7e38))))),0
  left;wp_walk;have b4:bd 4=93:=rfl;refine⟨_,hR,by omega,fun g H1 a1 b1 R1 K1=>?_⟩;right;left;wp_walk;split
  ·refine⟨_,R1,by omega,fun x H2 R2 K2=>?_⟩;wp_walk;refine⟨r,4,_,rfl,by decide,by decide,R2,by omega,fun v s H3 hv ok hd R3 K3 p hp=>?_⟩;exact q _ (.set x s) _ (.set aA 8e10) ⟨⟨ok,by omega⟩,rfl⟩ (((K1.trans K2).trans K3).trans 7e2)
  right;left;wp_walk;split
  ·refine⟨_,R1,by omega,fun x H2 R2 K2=>?_⟩;wp_walk;refine fun p1 h1=>⟨_,R2.new h1,by omega,fun g3 H3 a3 b3 R3 K3=>?_⟩
   exists made1 K3 R2 h1
   refine iM a3 b3 fun y hy=>?_;wp_walk;obtain⟨z,rfl⟩:∃ z:Str,y=.str z:=by simp only[Α,Δ,Φ] at hy;rcases hy with rfl|rfl<;>exact⟨_,rfl⟩
   refine⟨r,3,_,rfl,by decide,by decide,R3,by omega,fun v s H4 hv ok hd R4 K4 p hp=>?_⟩;exact q _ (.order x z s) _ (.order aA 8e10) ⟨⟨ok,by omega⟩,rfl⟩ 0e26
  right;left;wp_walk;split
  ·refine⟨_,R1,by omega,fun x H2 R2 K2=>?_⟩;wp_walk;refine⟨r,3,_,rfl,by decide,by decide,R2,by omega,fun v s H3 hv ok hd R3 K3 p hp=>?_⟩;exact q _ (.UA x s) _ (.UA aA 8e10) ⟨⟨ok,by omega⟩,rfl⟩ (((K1.trans K2).trans K3).trans 7e2)
  right;left;wp_walk;split
  ·refine⟨_,R1,by omega,fun x H2 R2 K2=>?_⟩;wp_walk;refine fun p1 h1=>⟨_,R2.new h1,by omega,fun g3 H3 a3 b3 R3 K3=>?_⟩
   exists made1 K3 R2 h1
   refine iM a3 b3 fun y hy=>?_;wp_walk;obtain⟨z,rfl⟩:∃ z:Str,y=.str z:=by simp only[Α,Δ,Φ] at hy;rcases hy with rfl|rfl<;>exact⟨_,rfl⟩
   refine⟨r,3,_,rfl,by decide,by decide,R3,by omega,fun v s H4 hv ok hd R4 K4 p hp=>?_⟩;exact q _ (.child x z s) _ (.child aA 8e10) ⟨⟨ok,by omega⟩,rfl⟩ 0e26
  right;left;wp_walk;split
  ·refine⟨r,2,_,rfl,by decide,by decide,R1,by omega,fun v s H2 hv ok hd R2 K2=>?_⟩;wp_walk;refine fun p1 h1=>⟨_,R2.new h1,by omega,fun g3 H3 a3 b3 R3 K3=>?_⟩
   exists made1 K3 R2 h1
   refine iM a3 b3 fun y hy=>?_;wp_walk;obtain⟨z,rfl⟩:∃ z:Str,y=.str z:=by simp only[Α,Δ,Φ] at hy;rcases hy with rfl|rfl<;>exact⟨_,rfl⟩
   refine⟨r,3,_,rfl,by decide,by decide,R3,by omega,fun v2 s2 H4 hv2 ok2 hd2 R4 K4 p hp=>?_⟩;have T1:aD H2 (Ul H4 p (.tup [.str "send",v,.str z,v2])):=(((aD.new h1).trans ((R2.new h1).tk K3)).trans (R3.tk K4)).trans 5e20;exact q _ (.send s z s2) _ (.send aA (hv.kp T1) (hv2.kp 5e20)) ⟨⟨⟨ok,by omega⟩,ok2,by omega⟩,rfl⟩ 0e26
  right;wp_walk;refine⟨r,2,_,rfl,by decide,by decide,R1,by omega,fun v s H2 hv ok hd R2 K2 p hp=>?_⟩;exact q _ 6e18 _ (.drop aA 8e10) ⟨⟨ok,by omega⟩,rfl⟩ ((K1.trans K2).trans 7e2)
theorem Au:Ok T (T.r 49) 12 JL:=by
 nomatch T.r 49
 ·obtain⟨r,n,rfl,_⟩:=h;rfl
 ·obtain⟨r,n,rfl,hR,hn,q⟩:=h
  nomatch (aI (pst 1 3e1) (aI (pif 5e21 (pss2 (jC (i:=2) (fr:=[0]) (N:=["k","deck"]) rfl 0e3 0e9 (nE rfl T.rJ (pa1 (bH cR aB 3e1))) (fun C s H ex pn=>⟨Az,(tG 1e12 (hr.mono 1e0) rfl (T.r 47).m (T.r 47).fn.kp (T.r 47).bd .nil pass0 (c0 5e2 (c0 aB bM))) ⟩) sc rfl 2e6) (aK (aV (pa3 aC 2e15 7e15))))) (pss3 (pif 2e11 (aG (aK (aV (pa3 aC 2e15 (pix aN 0e13 3e1)))))) (pif (PW.pt (fR 2e11 (eX (ptc aY 3e1 aB)))) (aG 7e38)) (aK (pcl (BK T) (T.r 48) 5e11))))),0
  have bb:bd 4=93:=rfl;left;wp_walk;refine⟨_,hR,by omega,fun g G1 a1 b1 D1 K1=>?_⟩;wp_walk;right;left;refine cQ fun RI Uu=>?_;wp_walk;split
  ·refine Uu _ _ ?_;clear Uu RI;left;wp_walk;refine⟨_,D1,by omega,fun gm G4 a4 b4 D4 K4=>⟨⟨by omega,by omega⟩,?_⟩⟩;obtain⟨Pv,Uw⟩:∃ Pv:Nat->List V->Hp->Prop,∀ i xs G,Pv i xs G = ∃ ss:List Say,gK G xs ss/\ss.length=i/\i<=4/\(∀ s∈ss,s.sok)/\cE G r (n+2+93 * i)/\Kp [r] H G:=⟨_,fun _ _ _=>rfl⟩;refine Bw (lo:=0) Pv ?_ ?_ ?_ ?_
   ·rw[Uw];exact⟨[],.nil,rfl,by omega,by simp,D4,K1.trans K4⟩
   ·intro i xs G h;rw[Uw] at h;obtain⟨ss,hS,lS,l3,_⟩:=h;have lv:=hS.OY;omega
   ·intro i xs G hi h;rw[Uw] at h;obtain⟨ss,hS,lS,l3,hL,DG,KG⟩:=h
    exists bA,Α8
    refine⟨r,2,_,rfl,by decide,by decide,DG,by omega,fun v s G5 hv ok hd D5 K5=>?_⟩;show Pv 7e1 _ _;rw[Uw];refine⟨ss++[s],(hS.kp (DG.tk K5)).ED hv,by simp[lS],by omega,fun y hy=>?_,D5.up 1e0,KG.trans K5⟩;rcases Κ.mp hy with hy|hy
    ·exact hL y hy
    ·rw[show y=s by simpa using hy];exact⟨ok,by omega⟩
   intro xs G h l hl;rw[Uw] at h;obtain⟨ss,hS,lS,l3,hL,DG,KG⟩:=h;have nlr:=DG.none hl;have NL:=q0D (o:=.lst xs) hl;have el:Ul G l 7e33 l=some 7e33:=aA;replace hS:=hS.kp 9e22;replace DG:=DG.kp NL;replace KG:=KG.trans (NL.mono (T:=[r]) 0e0);generalize Ul G l 7e33=G8 at *;clear NL hl Uw Pv;right;wp_walk;refine⟨_,DG,by omega,fun x G9 D9 K9=>?_⟩;have el9:=K9.at1 el nlr
   exists el9
   refine fun p8 h8 p9 h9=>?_;have N:=(q0D (o:=.tup xs) h8).trans (Kp.new (o:=.tup [.str "wait",.str x,.ref p8]) h9);exact q _ 8e13 _ (.wait aA ((q0D h9).at aA) (hS.kp ((DG.tk K9).trans 5e1))) ⟨rfl,by omega,hL⟩ rfl ((KG.trans K9).trans (N.mono 0e0))
  clear Uu RI;right;left;wp_walk;split
  ·refine⟨_,D1,by omega,fun x G2 D2 K2=>?_⟩;wp_walk;refine fun p1 h1=>⟨_,D2.new h1,by omega,fun g3 G3 a3 b3 D3 K3=>?_⟩
   exists made1 K3 D2 h1
   refine iM a3 b3 fun y hy=>?_;obtain⟨z,rfl⟩:∃ z:Str,y=.str z:=by simp only[Α,Δ,Φ] at hy;rcases hy with rfl|rfl<;>exact⟨_,rfl⟩
   wp_walk;intro p4 h4;exact q _ (.Ur x z) _ (.Ur aA) trivial rfl ((((K1.trans K2).trans 3e8).trans K3).trans 7e54)
  right;refine cD fun R4 XQ=>?_;refine cQ fun RI Uu=>?_
  suffices fin:(∀ n' G,cE G r n'->n'<=n+2->Kp [r] H G->RI [some 8e24,some (.int g),none] G)/\(∀ n' G,cE G r n'->n'<=n+2->Kp [r] H G->R4 [some 8e24,some (.int g),none] G) by
   wp_walk;split
   ·refine⟨_,D1,by omega,fun g2 G2 a2 b2 D2 K2=>?_⟩;split
    ·exact fin.1 _ _ D2 1e0 2e22
    ·exact fin.2 _ _ D2 1e0 2e22
   ·exact fin.2 _ _ D1 1e0 K1
  refine⟨fun n' G DG ln KG=>Uu _ _ ?_,fun n' G DG ln KG=>?_⟩
  ·clear Uu RI;wp_walk;refine⟨r,3,_,rfl,by decide,by decide,DG,by omega,fun v s G5 hv ok hd D5 K5=>?_⟩;wp_walk;intro p4 h4;exact q _ (.fin s) _ (.fin aA (hv.kp (aD.new h4))) ⟨ok,by omega⟩ rfl ((KG.trans K5).trans 7e54)
  ·clear Uu RI;refine XQ _ _ ?_;clear XQ;clear R4;wp_walk;refine⟨r,_,rfl,DG,by omega,fun v m G5 hm ⟨gm,UU⟩ K5=>?_⟩;wp_walk;exact q _ m _ hm (Lm UU gm) (RH UU) (KG.trans K5)
theorem x8:Ok T (T.r 51) 20 JJ:=by
 nomatch T.r 51
 ·obtain⟨cl,ms,rfl,_⟩:=h;rfl
 ·obtain⟨cl,ms,rfl,ec,lm,q⟩:=h
  nomatch (aI (pst 1 (aU (pa1 (aU (pa3 cI 8e0 cI))))) (pss3 (Ay Δ6 rfl (iE pv0) (pgn 2) (pss3 (pst 3 (pcl (vQ T) 5e34 (pa2 pv2 aB))) (pst 4 (pcl 2e1 1e1 3e52)) (fZ (PW.pt (fR (ptc jP pv4 aB) (eX (ptc jP 6e12 aB)))) (aG (aO (dS pv1 (aU (pa3 (aV (pa2 (pix aN (aU 7e29) pv4) (pcl 1e12 7e8 3e52))) 8e0 cI))))) (aG (fZ (PW.pt (fR 3e31 (eX (ptc Er 6e12 aB)))) 1e41 (aG (fZ (PW.pt (fR 3e31 (fR (ptc Er 6e12 aB) (fR (ptc aY (pix aN (pix aN 7e12 aB) aB) aC) (eX (ptc mI (pix aN 7e12 aB) cI)))))) (aG (lA 8e0 (rC 7e12 aB wW))) (aG (aO (dS (pix aN 7e12 (bH cR aB (bF gP rfl T.yE lW (pa1 (pcr kF (pix aN 7e12 aB) cI))))) (pcl (Au T) (T.r 49) 2e18))))))))))) (pJ Δ6 (ptc Er 6e12 aB) 1e41) (aK (bF cO rfl T.dP cL (pa1 (pix aN 5e0 aB)))))),0
  left;wp_walk;refine fun f1 h1 fa h2 fl h3=>?_;have n1:fa≠f1:=fun z=>by rw[z,aA] at h2;cases h2
  have n2:fl≠fa:=fun z=>by rw[z,aA] at h3;cases h3
  have n3:fl≠f1:=fun z=>by rw[z,aE n1.symm,aA] at h3;cases h3
  have e1:Ul 4e12 fl 0e11 f1=some 2e0:=by rw[aE n3.symm,aE n1.symm,aA]
  have e2:Ul 4e12 fl 0e11 fa=some 3e12:=by rw[aE n2.symm,aA]
  have e3:Ul 4e12 fl 0e11 fl=some 0e11:=aA;have K1:Kp [] H (Ul 4e12 fl 0e11):=((Kp.new h1).trans (Kp.new h2)).trans 8e54;have z2:H fa=none:=by rw[aE n1] at h2;exact h2
  have z3:H fl=none:=by rw[aE n2,aE n3] at h3;exact h3
  have F1:iG (Ul 4e12 fl 0e11) fl ([]++[(⟨fa,f1,none⟩,⟨none,[],none⟩)]):=⟨e3,fun x hx=>by
   rw[show x=(⟨fa,f1,none⟩,⟨none,[],none⟩) by simpa using hx];exact⟨.Um,[],e2,rfl,e1,.nil,trivial⟩,by simp[dW,FC.cells,n1,n2,n3]⟩
  have fr1:∀ a∈fl::dW ([]++[((⟨fa,f1,none⟩:FC),(⟨none,[],none⟩:Fr))]),H a=none:=fun a ha=>by
   simp only[Α4,dW,List.flatMap_cons,List.flatMap_nil,FC.cells,Option.toList_none,ϛ,Α,Δ,Φ] at ha;rcases ha with rfl|rfl|rfl
   ·exact z3
   ·exact z2
   ·exact h1
  generalize Ul 4e12 fl 0e11=G1 at *;clear e1 e2 e3 h2 h3;right;left;wp_walk;have ec1:=K1.at ec;refine⟨⟨_,eY.of ec1⟩,?_⟩;obtain⟨Pv,Uw⟩:∃ Pv:Nat->St->Hp->Prop,∀ i Z G,Pv i Z G=E5 fun(v2 v3 v4:Option V) (I:List 9e34) (x:FC×Fr)=>A7 5e41 (iG G fl 0e2) (GL 0e2) (AN 0e2<=2 * i+2) (I.length<=5) 0e42 5e32:=⟨_,fun _ _ _=>rfl⟩;refine Bl (xs:=ms.map V.int) Pv ?_ ?_ ?_ ?_
  ·rw[Uw];exact⟨_,_,_,[],_,rfl,F1,(show GL [] from fun j x e=>by simp at e).snoc ⟨trivial,trivial,by simp[oE],by simp[oE],fun z=>absurd rfl z⟩,by simp[AN,bX],by simp,fr1,K1⟩
  ·intro i Z G _ h;rw[Uw] at h;obtain⟨_,_,_,_,_,_,_,_,_,_,_,k⟩:=h;exact eY.of (k.at ec)
  ·intro i y Z G hi h;rw[Uw] at h;obtain⟨v2,v3,v4,I,x,rfl,F,gl,sz,ll,fr,KG⟩:=h;obtain⟨z,rfl⟩:=Lp hi;have hil:i < ms.length:=by have:=(Μ.mp hi).1;simpa using this
   have back:∀(v2 v3 v4:Option V) (I:List 9e34) (x:FC×Fr) (G':Hp),iG G' fl 0e2->GL 0e2->AN 0e2<=2 * 7e1+2->I.length<=5->(∀ a∈fl::dW 0e2,H a=none)->Kp [] H G'->Pv 7e1 [some 7e4,some 6e6,v2,v3,v4] G':=fun v2 v3 v4 I x G' x1 x2 x3 x4 x5 x6=>by
    rw[Uw];exact⟨_,_,_,I,x,rfl,x1,x2,x3,x4,x5,x6⟩
   clear Uw;left;wp_walk;refine⟨z,3,rfl,fun dk G3 XS K3 RD=>?_⟩;wp_walk;right;left;wp_walk;refine⟨_,RD,by omega,fun kd G4 a4 b4 D4 K4=>?_⟩;have fdk:=F.free XS;have Zw:H dk=none:=KG.cJ XS;have KK:Kp [] G G4:=fun b o e _=>K4.at1 (K3.at e) (aF e XS);replace F:=F.kp KK;replace KG:=KG.trans KK;wp_walk;right;have VS:=F.e;have le:((I++[x]).map fun x=>V.ref x.1.fa).length=I.length+1:=by simp
   have l1:=Ej I x;have FX:=F.fr x 0e0;have FX0:=FX;obtain⟨hvx,usx,x1,x2,x3,x4,x5⟩:=FX;have Z4:∀ z∈I++[x],z.2.b1.length<=1000/\(z.2.b2.getD []).length<=1000:=fun z hz=>by
    have:=DA hz;have:=kR z.2.b1;have:=kR 2e48;omega
   have gx:=gl.top;refine cQ fun RI Uu=>?_;refine qD fun RE Vm=>?_
   suffices fin:(kd < 4->I.length < 5->RI [some 7e4,some 6e6,some 8e8,some 5e8,some 7e6] G4)/\RE [some 7e4,some 6e6,some 8e8,some 5e8,some 7e6] G4 by
    exists VS,le
    split
    ·next h1 =>
     split
     ·next h2=>exact fin.1 h1 1e0
     ·exact fin.2
    ·exact fin.2
   refine⟨fun k4 l5=>Uu _ _ ?_,Vm _ _ ?_⟩
   ·clear Uu RI Vm RE
    exists VS
    refine fun pl UU=>?_;refine iM a4 8e21 fun v hv=>?_;obtain⟨ib,rfl⟩:∃ ib:Bool,v=.str 5e35:=by
     simp only[Α,Δ,Φ] at hv;rcases hv with rfl|rfl|rfl|rfl
     ·exact⟨true,rfl⟩
     ·exact⟨false,rfl⟩
     ·exact⟨true,rfl⟩
     ·exact⟨true,rfl⟩
    have NP:=q0D (o:=.lst [.str "if",.str "while",.str "if",.str "if"]) UU;have DP:=D4.kp NP;have FP:=F.kp NP;have KP:=KG.trans NP;have abU:dk∉fl::dW 0e2:=fdk;generalize Ul G4 pl (.lst [.str "if",.str "while",.str "if",.str "if"])=G5 at *;have bb:bd 4=93:=rfl;wp_walk;refine⟨dk,3,_,rfl,by decide,by decide,DP,by omega,fun sv s G6 hs ok hd D6 K6=>?_⟩;have KX:∀ b o,G5 b=some o->b≠dk->G6 b=some o:=fun b o e n=>K6.at1 e n;have F6:=FP.keep (fun a ha o e=>KX a o e (fun z=>fdk 1e5)) (DP.tk K6);have KH6:Kp [] H G6:=fun b o e _=>KX b o (KP.at e) (aF e Zw);wp_walk;refine fun ht h1 WQ h2 Ym h3=>?_;have N1:=q0D (o:=.tup [.str 5e35,sv]) h1;have N2:=q0D (o:=.lst []) h2;have N3:=q0D (o:=.lst [.ref ht,.ref WQ,.Um]) h3;have m1:=((F6.kp N1).kp N2).free h3;have m2:=(F6.kp N1).free h2;have z1:H WQ=none:=(KH6.trans N1).cJ h2;have z2:H Ym=none:=((KH6.trans N1).trans N2).cJ h3;have m3:Ym≠WQ:=fun z=>by rw[z,aA] at h3;cases h3
    have NN:=(N1.trans N2).trans N3;have eh:=N3.at (N2.at (show Ul G6 ht 1e15 ht=some 1e15 from aA));have e2:=N3.at (show Ul (Ul G6 ht 1e15) WQ 2e0 WQ=some 2e0 from aA);have e1:Ul (Ul (Ul G6 ht 1e15) WQ 2e0) Ym 1e29 Ym=some 1e29:=aA;generalize Ul (Ul (Ul G6 ht 1e15) WQ 2e0) Ym 1e29=G7 at *;have F7:=(F6.kp NN).push e1 e2 (h:=some (ib,s)) ⟨ht,sv,rfl,eh,hs.kp (aD.nil NN)⟩ m1 m2 m3;have aaL:=(F6.kp NN).e
    exists aaL
    refine⟨by rw[le];omega,?_⟩;rw[show((I++[x]).map fun x=>V.ref x.1.fa)++[V.ref Ym]=(0e2++[((⟨Ym,WQ,none⟩:FC),(⟨some (ib,s),[],none⟩:Fr))]).map fun x=>V.ref x.1.fa by simp];refine back _ _ _ 0e2 _ _ F7 (gl.snoc ⟨trivial,trivial,by simp[oE];omega,by simp[oE];omega,fun _=>⟨ib,s,rfl,ok,by omega⟩⟩) ?_ 8e21 (fun b hb=>?_) (fun b o e _=>by
     rw[aE (aF e (fr fl 0e0))];exact NN.at (KH6.at e))
    ·rw[lD,lE];show AN 0e2+(bX []+bX []+2)<=_;have:bX []=0:=by simp[bX]
     omega
    ·rw[bK,bW] at hb;rcases Α.mp hb with hb|hb
     ·exact fr b 0e51
     ·rcases Κ.mp hb with hb|hb
      ·exact fr b 0e51
      ·simp only[FC.cells,Option.toList_none,Α,Δ,Φ] at hb;rcases hb with rfl|rfl
       ·exact z2
       ·exact z1
   ·clear Uu RI Vm RE;refine cQ fun RI Uu=>?_;refine qD fun RE Vm=>?_
    suffices fin:(0 < I.length->RI [some 7e4,some 6e6,some 8e8,some 5e8,some 7e6] G4)/\RE [some 7e4,some 6e6,some 8e8,some 5e8,some 7e6] G4 by
     exists VS,le
     split
     ·split
      ·next h2=>exact fin.1 1e0
      ·exact fin.2
     ·exact fin.2
    refine⟨fun l0=>Uu _ _ ?_,Vm _ _ ?_⟩
    ·clear Uu RI Vm RE;obtain⟨I',y,rfl⟩:∃ I' y,I=I'++[y]:=⟨I.dropLast,I.getLast 2e41,(List.dropLast_concat_getLast _).symm⟩;obtain⟨i0,s0,hh,hs0⟩:=gx.2.2.2.2 1e0;wp_walk;refine⟨fl,I',y,x,i0,s0,rfl,F,hh,Z4,fun G5 F5 K5=>?_⟩;obtain⟨c1,c2⟩:=DR gl hh hs0;refine back _ _ _ I' _ G5 F5 c1 1e0 (by rw[Ν] at ll;simp at ll;omega) (fun a ha=>fr a ?_) ?_
     ·rw[bK,bW] at ha;rw[bK,bK,bW];rcases Α.mp ha with ha|ha
      ·simp[ha]
      ·rcases Κ.mp ha with ha|ha
       ·simp[ha]
       ·simp[show a∈y.1.cells from ha]
     ·intro b o e _;refine K5 b o 9e23 2e53;have:b∈fl::dW 5e50:=by
       rw[bK,bK,bW];rcases Α.mp z with z|z
       ·simp[z]
       ·simp[z]
      rw[fr b this] at e;cases e
    ·clear Uu RI Vm RE;refine cQ fun RI Uu=>?_;refine qD fun RE Vm=>?_
     suffices fin:(0 < I.length->x.1.f2=none->RI [some 7e4,some 6e6,some 8e8,some 5e8,some 7e6] G4)/\RE [some 7e4,some 6e6,some 8e8,some 5e8,some 7e6] G4 by
      by_cases l0:0 < I.length
      ·obtain⟨i0,s0,hh,hs0⟩:=gx.2.2.2.2 1e0;rw[hh] at x2;obtain⟨ha,sv,rfl,eh,hS⟩:=x2
       exists VS,le,l1,x1,eh
       repeat' split
       all_goals first|exact fin.2|exact fin.1 l0 (PH ‹_›)
      ·skip
       exists VS,le
       split
       ·rw[if_neg 1e0];exact fin.2
       ·exact fin.2
     refine⟨fun l0 f0=>Uu _ _ ?_,Vm _ _ ?_⟩
     ·clear Uu RI Vm RE;rw[f0] at x1;replace x1:G4 x.1.fa=some (.lst [hvx,.ref x.1.f1,.Um]):=x1
      exists VS,l1,x1
      refine fun a ha=>?_;generalize hg:Ul G4 a 2e0=G5;have NA:Kp [] G4 G5:=hg▸Kp.new ha;have ea:G5 a=some 2e0:=hg▸aA;clear hg;have na:=F.free ha;replace F:=F.kp NA;replace VS:=NA.at VS;replace x1:=NA.at x1;have fa0:H a=none:=KG.cJ ha;replace KG:=KG.trans NA;have F5:=F.snd f0 x1 ea na
      exists VS,l1,x1
      rw[show xW 3 2=some 2 from rfl];show Pv 7e1 _ (Ul G5 x.1.fa (.lst [hvx,.ref x.1.f1,.ref a]));obtain⟨g1,g2,g3,g4,g5⟩:=gx;have hb:x.2.b2=none:=by
       cases h:x.2.b2 with
       | none=>rfl
       | some b=>rw[f0,h] at x5;exact x5.elim
      rw[hb] at g2 g4;refine back _ _ _ I _ _ F5 (gl.init.snoc ⟨g1,g2,g3,g4,g5⟩) ?_ ll (fun b UT=>?_) (fun b o e _=>by
       rw[aE (fun z=>by
        rw[z,fr x.1.fa 9e28] at e;cases e)]
       exact KG.at e)
      ·have:=sz;rw[lD,lE,hb] at this;rw[lD,lE];show AN I+(bX x.2.b1+bX (([]:List Stm))+2)<=_;have h0:bX ((none:Option (List Stm)).getD [])=bX ([]:List Stm):=rfl;omega
      ·rw[bK,bW] at UT;rcases Α.mp UT with UT|UT
       ·exact fr b (by simp[UT])
       ·rcases Κ.mp UT with UT|UT
        ·exact fr b (by rw[bK];simp[UT])
        ·simp only[FC.cells,Α1,Α,Δ,Φ] at UT;rcases UT with rfl|rfl|rfl
         ·exact fr _ 9e28
         ·exact fr _ 9e28
         ·exact fa0
     ·clear Uu RI Vm RE;obtain⟨ux,ex⟩:=FX0.cu
      exists VS,l1,x1,CN,ex
      refine⟨dk,_,rfl,D4,by omega,fun v m G5 hm gm hB K5=>?_⟩;have F5:=F.keep (fun a ha o e=>K5.at1 e (fun z=>fdk 1e5)) (D4.tk K5);have KH5:Kp [] H G5:=fun b o e _=>K5.at1 9e23 (aF e Zw);obtain⟨us,b,c1,c2,c3,c4,c5⟩:=F5.app hm;have lx:=Z4 x 0e0;have lb:us.length<=1000:=by
       have lu:=c2.len;rcases c3 with rfl|c3
       ·omega
       ·rw[c3] at lx;have:b.length<=1000:=lx.2;omega
      have Xv:H x.1.cur=none:=fr _ (by rw[bK,bW];simp[c4]);have dm:m.dp=0:=by cases m<;>first|rfl|cases hB
      have sm:m.sz=1:=JR hB;have bk:Pv 7e1 [some 7e4,some 6e6,some 8e8,some 5e8,some 7e6] (Ul G5 x.1.cur (.lst (us++[v]))):=back _ _ _ I _ _ c5 (gl.init.snoc (gx.add gm 1e0)) (by
       have ha:=GY x.2 m;have:=sz;rw[lD,lE] at this ⊢;show AN I+(bX (x.2.add m).b1+bX ((x.2.add m).b2.getD [])+2)<=_;omega) ll (fun b hb=>fr b (by
       rw[bK,bW] at hb ⊢;exact hb)) (fun b o e _=>by rw[aE (aF e Xv)];exact KH5.at e)
      exists c1
      exact⟨by omega,bk⟩
  intro Z G h;rw[Uw,Γ] at h;obtain⟨v2,v3,v4,I,x,rfl,F,gl,sz,ll,fr,KG⟩:=h;clear Uw;right;left;refine Hy fun tb Y5=>?_;obtain⟨Y,hY⟩:∃ Y:Nat->St->Hp->Prop,∀ m Z G,Y m Z G=E2 fun(I:List 9e34) (x:FC×Fr)=>A7 5e41 (iG G fl 0e2) (GL 0e2) (AN 0e2<=2 * ms.length+2) 0e42 5e32 (m=I.length):=⟨_,fun _ _ _=>rfl⟩;refine⟨Y,⟨_,(hY _ _ _).mpr ⟨I,x,rfl,F,gl,by omega,fr,KG,rfl⟩⟩,?_⟩;clear F gl sz fr KG I x ll;intro m Z G hG;rw[hY] at hG;obtain⟨I,x,rfl,F,gl,sz,fr,KG,rfl⟩:=hG;have VS:=F.e;have le:((I++[x]).map fun x=>V.ref x.1.fa).length=I.length+1:=by simp
  have Z4:∀ z∈I++[x],z.2.b1.length<=1000/\(z.2.b2.getD []).length<=1000:=fun z hz=>by
   have:=DA hz;have:=kR z.2.b1;have:=kR 2e48;omega
  have gx:=gl.top
  exists VS,le
  by_cases l0:0 < I.length
  ·rw[if_pos 1e0];refine⟨fun Z' G'=>∃ m',m' < I.length/\Y m' Z' G',fun _ _ z=>z,?_⟩;refine Y5 _ _ _ ?_;clear Y5 tb;obtain⟨I',y,rfl⟩:∃ I' y,I=I'++[y]:=⟨I.dropLast,I.getLast 2e41,(List.dropLast_concat_getLast _).symm⟩;obtain⟨i0,s0,hh,hs0⟩:=gx.2.2.2.2 1e0;wp_walk;refine⟨fl,I',y,x,i0,s0,rfl,F,hh,Z4,fun G5 F5 K5=>?_⟩;obtain⟨c1,c2⟩:=DR gl hh hs0;refine⟨I'.length,by simp,(hY _ _ _).mpr ⟨I',_,rfl,F5,c1,by omega,fun a ha=>fr a ?_,?_,rfl⟩⟩
   ·rw[bK,bW] at ha;rw[bK,bK,bW];rcases Α.mp ha with ha|ha
    ·simp[ha]
    ·rcases Κ.mp ha with ha|ha
     ·simp[ha]
     ·simp[show a∈y.1.cells from ha]
   ·intro b o e _;refine K5 b o 9e23 2e53;have:b∈fl::dW 5e50:=by
     rw[bK,bK,bW];rcases Α.mp z with z|z
     ·simp[z]
     ·simp[z]
    rw[fr b this] at e;cases e
  ·rw[if_neg 1e0];have hI:I=[]:=by cases I with|nil=>rfl|cons _ _=>simp at l0
   subst hI;clear hY Y5;right;obtain⟨hvx,usx,x1,x2,x3,x4,x5⟩:=F.fr x 0e0;replace VS:G fl=some (.lst [.ref x.1.fa]):=VS
   exists VS,x1,x3
   refine fun p hp=>?_;have N:=q0D (o:=.tup usx) hp;have:=DA (show x∈[]++[x] by simp);exact q p usx x.2.b1 _ aA (x4.kp 5e1) gx.1 (by have:=gx.2.2.1;omega) 1e0 (KG.trans N)
theorem Dx(hn:3<=n)(IH:fG P w K mg base U7 n (t.a 54) (t.d 54) ["block","path","code"] (AH d)):Ok T 6e25 (n+1) (AH (d+1)):=by
 nomatch T.r 54
 ·obtain⟨bp,pp,cl,us,b,pt,as,rfl,_⟩:=h;rfl
 ·obtain⟨bp,pp,cl,us,b,pt,as,rfl,eb,hs,hd,ep,lp,ec,lc,q⟩:=h
  nomatch (aG (Ay Δ6 rfl 2e39 9e24 (aI (pst 4 (bH jA pv1 (aV 2e18))) (aI (pst 5 (pix aN 7e25 aB)) (aI (pst 6 8e15) (pss3 (aO (dS pv2 (aU (c0 pv5 (pa3 7e25 pv4 cI))))) (pif 8e5 (pss3 8e25 (aO (dS pv2 (aU (c0 aC (pa3 cI pv4 pv6))))) (lA 8e15 9e42))) (pif 8e5 (aI 8e25 (aI (aO (dS pv2 (aU (c0 aC (pa3 cI pv4 cI))))) (aI (lA 8e15 9e42) (pss3 (pst 7 (bH i9 8e15 aB)) 8e25 (lA 8e15 (rC (pix aN pv2 pv7) aB wW))))))))))))),0
  have lus:=hs.len;have Z4:=kR b
  exists eb
  refine⟨⟨by omega,by omega⟩,?_⟩;obtain⟨Pv,Uw⟩:∃ Pv:Nat->St->Hp->Prop,∀ i Z G,Pv i Z G=E6 fun(v3 v4 v5 v6 v7:Option V) (new:List Addr)=>A6 (Z=[some 2e24,some (.ref pp),some 7e4,v3,v4,v5,v6,v7]) (G cl=some (.lst ((as++new).map V.ref))) (dG G new (yO pt 0 as.length (b.take i))) ((∀ a∈new,H a=none)) (new.Nodup) (Kp [cl] H G):=⟨_,fun _ _ _=>rfl⟩;refine yP (lo:=0) Pv ?_ ?_ ?_
  ·rw[Uw];exact⟨_,_,_,_,_,[],rfl,by simpa using ec,by simpa[yO] using .nil,by simp,by simp,Kp.refl⟩
  ·intro i Z G hi h;rw[Uw] at h;obtain⟨v3,v4,v5,v6,v7,new,rfl,eG,hC,fN,nd,KG⟩:=h;have TG:=kp1T KG ec;have eG0:=eG;obtain⟨sv,ev⟩:∃ sv,us[i]?=some sv:=⟨us[i]' 1e0,by simp⟩;obtain⟨m,em,hm⟩:=hs.at ev;replace hm:=hm.kp TG;have Vr:=TG _ _ eb;have epG:=TG _ _ ep;have ix:gL us (i:Nat)=some sv:=dQ ev;obtain⟨a0,r0,rfl,e0⟩:=hm.kw;have lt:as.length+new.length+m.sz<=100000:=by
    have h1:=JQ b 7e1;rw[gA em] at h1;have h2:=hC.len;rw[gD] at h2;omega
   have el:((as++new).map V.ref).length=as.length+new.length:=by simp
   have back:∀(v3 v4 v5 v6 v7:Option V) (Wq:List Addr) (G':Hp),G' cl=some (.lst ((as++Wq).map V.ref))->dG G' Wq (yO pt 0 as.length (b.take i)++z9 (pt++[(i:Int)]) 4e45 m)->(∀ a∈Wq,H a=none)->Wq.Nodup->Kp [cl] H G'->Pv 7e1 [some 2e24,some (.ref pp),some 7e4,v3,v4,v5,v6,v7] G':=fun v3 v4 v5 v6 v7 Wq G' x1 x2 x3 x4 x5=>by
    rw[Uw];have h2:=hC.len;rw[gD] at h2;rw[h2] at x2;refine⟨_,_,_,_,_,Wq,rfl,x1,?_,x3,x4,x5⟩;rw[Bi em,Γ2];exact x2
   clear Uw;left
   exists Int.zero_add
   refine fun p1 h1=>?_;have N1:=q0D (o:=.tup [.int (i:Nat)]) h1;refine zP (N1.at epG) aA (by simp only[Γ,Ζ,ϕ];omega) fun ph G1 eh K1=>?_;replace eh:G1 ph=some (.tup ((pt++[(i:Int)]).map V.int)):=by rw[eh];simp
   replace K1:=N1.trans K1;replace hm:=hm.kp 6e4;replace hC:=hC.keep (fun _ _ _ e=>K1.at e) 6e4;replace eG:=K1.at eG;replace e0:=K1.at e0;replace Vr:=K1.at Vr;wp_walk;right;left
   exists Vr,Int.zero_add,ix,e0
   right;left
   exists eG,el
   right;left
   exists eG,Vr,Int.zero_add,ix
   refine fun pe Yz=>?_;have N4:=q0D (o:=.lst [.str m.kw,.ref a0,.ref ph,.Um]) Yz;have ee:Ul G1 pe 3e27 pe=some 3e27:=aA;have Zy:H pe=none:=free1 KG eG0 (K1.cJ Yz);have Ya:pe≠cl:=fun z=>by rw[z,eG] at Yz;cases Yz
   have npn:pe∉new:=fun z=>by
    obtain⟨xs,e⟩:=hC.there pe z;rw[e] at Yz;cases Yz
   have KN:=K1.trans N4;replace hm:=hm.kp 2e2;replace hC:=hC.keep (fun _ _ _ e=>N4.at e) 2e2;replace eG:=N4.at eG;replace e0:=N4.at e0;replace Vr:=N4.at Vr;replace eh:=N4.at eh;generalize Ul G1 pe 3e27=G2 at *
   exists eG
   refine⟨by rw[el];omega,?_⟩;have ea:(as++new).map V.ref++[V.ref pe]=(as++9e4).map V.ref:=by simp
   rw[ea];have KS:Kp [cl] G2 (Ul G2 cl 0e16):=Kp.jQ;have TS:=kp1T KS eG;have Y9:cl∉new:=fun z=>by rw[fN cl z] at ec;cases ec
   replace eG:Ul G2 cl 0e16 cl=some 0e16:=aA;replace ee:=KS.at1 ee Ya;replace hm:=hm.kp TS;replace hC:=hC.keep 6e26 TS;replace e0:=TS _ _ e0;replace Vr:=TS _ _ Vr;replace eh:=TS _ _ eh;have KH:Kp [cl] H (Ul G2 cl 0e16):=(KG.trans (KN.mono 0e0)).trans KS;generalize Ul G2 cl 0e16=G3 at *;have fN':∀ a∈new++[pe],H a=none:=fun a ha=>by
    rcases Κ.mp ha with ha|ha
    ·exact fN a ha
    ·rw[show a=pe by simpa using ha];exact Zy
   have nd':(new++[pe]).Nodup:=Ϝ.mpr ⟨nd,by simp,fun x hx y hy z=>npn (by rw[show y=pe by simpa using hy] at z;rw[<- z];exact hx)⟩;have th3:=gU hC.ex (kL ee);clear K1 N1 N4 KN KS TS ea KG TG Yz h1;right;by_cases hB:m.isB=false
   ·obtain⟨w1,w2,_⟩:=Rt hB
    exists w1,w2
    exact back _ _ _ _ _ _ _ eG (by rw[Ra hB];exact hC.app (.cons ⟨ph,eh,_,hm,ee⟩ .nil)) fN' nd' KH
   cases hm with
   | @UG a p v s vs b' e hv WN UT =>
    have hm:cG G3 (.ref a0) (.UG s b'):=.UG e hv WN UT;have lt':as.length+new.length+bX b'+2<=100000:=by simp only[Stm.sz] at lt;omega
    have dl:oE b' < d:=by have:=t8 em;simp only[Stm.dp] at this;omega
    refine cD fun R5 ZE=>?_;refine cQ fun RI Uu=>?_
    exists Stm.kw
    refine Uu _ _ ?_;clear Uu RI;have Zp:=ee;left
    exists Vr,Int.zero_add,ix,e
    refine fun pz hz=>?_;have NZ:=q0D (o:=.tup [.int 0]) hz;refine zP 9e32 aA 8e27 fun pq GZ eq KZ=>?_;replace KZ:=NZ.trans KZ;replace eq:GZ pq=some 1e40:=by rw[eq];simp
    refine⟨_,pq,cl,_,_,pt++[(i:Int)]++[0],as++9e4,rfl,KZ.at WN,(UT).kp 3e32,dl,eq,by simp only[Ν,Ζ,ϕ];omega,KZ.at eG,by simp only[Ν,Ζ,ϕ];omega,fun Xq UH e50 U8 VC YH Yh=>?_⟩;wp_walk;right;have XI:=(aD.nil KZ).trans 0e46;have VQ:Kp [cl] G3 Xq:=(KZ.mono 0e0).trans Yh;have XM:∀ a∈UH,H a=none:=fun a ha=>free1 KH eG (KZ.cJ 7e23);have x50:∀ a∈UH,G3 a=none:=fun a ha=>KZ.cJ 7e23;replace KH:=KH.trans VQ;replace eh:=XI _ _ eh;replace ee:=VQ.at1 ee Ya;replace hC:=hC.keep (fun a ha _ e=>VQ.at1 e 0e27) XI;replace hm:=hm.kp XI;replace eG:=e50;clear KZ Yh NZ hz eq;have nc5:cl∉UH:=fun z=>by rw[XM cl z] at ec;cases ec
    have YE:UH.length=bX b':=by rw[U8.len,gD]
    have ee1:=ee;have nd5:(new++[pe]++UH).Nodup:=o8 nd' YH th3 x50;have th5:=gU 5e30 U8.ex;left
    exists eG
    refine fun pj hp=>?_;generalize hg:Ul Xq pj 4e36=G6;have N:Kp [] Xq G6:=hg▸Kp.new hp;have Vw:G6 pj=some 4e36:=hg▸aA;clear hg;have YJ:pj≠cl:=fun z=>by rw[z,eG] at hp;cases hp
    have fpj:H pj=none:=free1 KH eG hp;have YV:Xq pj=none:=hp;replace eh:=N.at eh;replace ee:=N.at ee;replace eG:=N.at eG;replace hC:=hC.keep 7e10 5e1;replace U8:=U8.keep 7e10 5e1;replace hm:=hm.kp 5e1;replace KH:=KH.trans (N.mono 0e0)
    exists eG
    refine⟨by simp only[Γ,Ν,Ζ,ϕ];omega,?_⟩;rw[show(3e19).map V.ref++[V.ref pj]=(3e19++[pj]).map V.ref by simp];have KS:Kp [cl] G6 (Ul G6 cl 2e7):=Kp.jQ;have TS:=kp1T KS eG;replace eG:Ul G6 cl 2e7 cl=some 2e7:=aA;replace eh:=TS _ _ eh;replace ee:=KS.at1 ee Ya;replace Vw:=KS.at1 Vw YJ;replace hC:=hC.keep 6e26 TS;replace U8:=U8.keep 4e39 TS;replace hm:=hm.kp TS;replace KH:=KH.trans KS;generalize Ul G6 cl 2e7=G7 at *;clear KS TS N hp;right;have ixe:gL 2e42 ((as.length+new.length:Nat):Int)=some (.ref pe):=dQ 0e0;have YK:pe∉UH:=fun z=>by rw[x50 pe z] at Zp;cases Zp
    have YJ:pj≠pe:=fun z=>by rw[z,ee1] at YV;cases YV
    exists eG,ixe,ee,Stm.kw
    rw[show xW 4 3=some 3 from rfl,show(List.map V.ref (as++9e4++UH++[pj])).length=as.length+new.length+bX b'+2 from by simp[YE];omega];show R5 _ (Ul G7 pe 2e9);have TS:aD G7 (Ul G7 pe 2e9):=aD.cU ee;replace ee:Ul G7 pe 2e9 pe=some 2e9:=aA;have KE:∀ a u,a≠pe->G7 a=some u->Ul G7 pe 2e9 a=some u:=fun a u n e=>by rw[aE n];exact e
    replace eG:=KE _ _ Ya.symm eG;replace hm:=hm.kp TS;replace KH:Kp [cl] H (Ul G7 pe 2e9):=fun b o e n=>by rw[aE (aF e Zy)];exact KH b o e n
    replace eh:=TS _ _ eh;replace hC:=hC.keep 3e39 TS;replace U8:=U8.keep 6e39 TS;replace Vw:=KE _ _ YJ Vw;generalize Ul G7 pe 2e9=G8 at *;clear TS KE;refine ZE _ _ ?_;clear ZE;clear R5
    exists Stm.kw
    refine back _ _ _ _ _ 6e10 _ 6e48 ?_ ?_ ?_ KH
    ·simp only[z9];have h5:=U8;rw[show(as++9e4).length=as.length+new.length+1 by simp;omega] at h5;have:=hC.app ((dG.cons (e:=⟨some (.UG s b'),pt++[(i:Int)],some 3e42⟩) ⟨ph,eh,_,hm,ee⟩ h5).app (.cons (e:=⟨none,pt++[(i:Int)],some 4e45⟩) ⟨ph,eh,Vw⟩ .nil));simpa using this
    ·intro a ha;simp only[Κ,Α,Δ,Φ] at ha;rcases ha with((ha|rfl)|ha)|rfl
     ·exact fN a ha
     ·exact Zy
     ·exact XM a ha
     ·exact fpj
    ·exact o8 nd5 0e0 th5 0e47
   | @iff a p q v s vs Zd b' o' e hv WN UT eq' WC =>
    have hm:cG G3 (.ref a0) 6e50:=.iff e hv WN UT eq' WC;have lt':as.length+new.length+bX b'+bX o'+2<=100000:=by simp only[Stm.sz] at lt;omega
    have dl:oE b' < d:=by have:=t8 em;simp only[Stm.dp] at this;omega
    have dl2:oE o' < d:=by have:=t8 em;simp only[Stm.dp] at this;omega
    refine cD fun R5 ZE=>?_
    exists Stm.kw
    refine ZE _ _ ?_;clear ZE;clear R5;refine cQ fun RI Uu=>?_
    exists Stm.kw
    refine Uu _ _ ?_;clear Uu RI;have Zp:=ee;left
    exists Vr,Int.zero_add,ix,e
    refine fun pz hz=>?_;have NZ:=q0D (o:=.tup [.int 0]) hz;refine zP 9e32 aA 8e27 fun pq GZ eq KZ=>?_;replace KZ:=NZ.trans KZ;replace eq:GZ pq=some 1e40:=by rw[eq];simp
    refine⟨_,pq,cl,_,_,pt++[(i:Int)]++[0],as++9e4,rfl,KZ.at WN,(UT).kp 3e32,dl,eq,by simp only[Ν,Ζ,ϕ];omega,KZ.at eG,by simp only[Ν,Ζ,ϕ];omega,fun Xq UH e50 U8 VC YH Yh=>?_⟩;wp_walk;right;have XI:=(aD.nil KZ).trans 0e46;have VQ:Kp [cl] G3 Xq:=(KZ.mono 0e0).trans Yh;have XM:∀ a∈UH,H a=none:=fun a ha=>free1 KH eG (KZ.cJ 7e23);have x50:∀ a∈UH,G3 a=none:=fun a ha=>KZ.cJ 7e23;replace KH:=KH.trans VQ;replace eh:=XI _ _ eh;replace Vr:=XI _ _ Vr;replace ee:=VQ.at1 ee Ya;replace hC:=hC.keep (fun a ha _ e=>VQ.at1 e 0e27) XI;replace hm:=hm.kp XI;replace eG:=e50;clear KZ Yh NZ hz eq;have nc5:cl∉UH:=fun z=>by rw[XM cl z] at ec;cases ec
    have YE:UH.length=bX b':=by rw[U8.len,gD]
    have ee1:=ee;have nd5:(new++[pe]++UH).Nodup:=o8 nd' YH th3 x50;have th5:=gU 5e30 U8.ex;left
    exists eG
    refine fun pj hp=>?_;generalize hg:Ul Xq pj 7e40=G6;have N:Kp [] Xq G6:=hg▸Kp.new hp;have Vw:G6 pj=some 7e40:=hg▸aA;clear hg;have YJ:pj≠cl:=fun z=>by rw[z,eG] at hp;cases hp
    have fpj:H pj=none:=free1 KH eG hp;have YV:Xq pj=none:=hp;replace eh:=N.at eh;replace Vr:=N.at Vr;replace ee:=N.at ee;replace eG:=N.at eG;replace hC:=hC.keep 7e10 5e1;replace U8:=U8.keep 7e10 5e1;replace hm:=hm.kp 5e1;replace KH:=KH.trans (N.mono 0e0)
    exists eG
    refine⟨by simp only[Γ,Ν,Ζ,ϕ];omega,?_⟩;rw[show(3e19).map V.ref++[V.ref pj]=(3e19++[pj]).map V.ref by simp];have KS:Kp [cl] G6 (Ul G6 cl 2e7):=Kp.jQ;have TS:=kp1T KS eG;replace eG:Ul G6 cl 2e7 cl=some 2e7:=aA;replace eh:=TS _ _ eh;replace Vr:=TS _ _ Vr;replace ee:=KS.at1 ee Ya;replace Vw:=KS.at1 Vw YJ;replace hC:=hC.keep 6e26 TS;replace U8:=U8.keep 4e39 TS;replace hm:=hm.kp TS;replace KH:=KH.trans KS;generalize Ul G6 cl 2e7=G7 at *;clear KS TS N hp;right;have ixe:gL 2e42 ((as.length+new.length:Nat):Int)=some (.ref pe):=dQ 0e0;have YK:pe∉UH:=fun z=>by rw[x50 pe z] at Zp;cases Zp
    have aaA:pj≠pe:=fun z=>by rw[z,ee1] at YV;cases YV
    refine cD fun R52 ZF=>?_
    exists eG,ixe,ee,Stm.kw
    rw[show xW 4 3=some 3 from rfl,show(List.map V.ref (as++9e4++UH++[pj])).length=as.length+new.length+bX b'+2 from by simp[YE];omega];show R52 _ (Ul G7 pe 3e9);have TS:aD G7 (Ul G7 pe 3e9):=aD.cU ee;replace ee:Ul G7 pe 3e9 pe=some 3e9:=aA;have KE:∀ a u,a≠pe->G7 a=some u->Ul G7 pe 3e9 a=some u:=fun a u n e=>by rw[aE n];exact e
    replace eG:=KE _ _ Ya.symm eG;replace hm:=hm.kp TS;replace KH:Kp [cl] H (Ul G7 pe 3e9):=fun b o e n=>by rw[aE (aF e Zy)];exact KH b o e n
    replace eh:=TS _ _ eh;replace Vr:=TS _ _ Vr;replace hC:=hC.keep 3e39 TS;replace U8:=U8.keep 6e39 TS;replace Vw:=KE _ _ aaA Vw;generalize Ul G7 pe 3e9=G8 at *;clear TS KE;refine ZF _ _ ?_;clear ZF;clear R52;left
    exists eG
    rw[show((List.map V.ref (as++9e4++UH++[pj])).length:Int) - 1=((as.length+new.length+bX b'+1:Nat):Int) by simp[YE];omega];right;replace eG:G8 cl=some (.lst ((as++6e10).map V.ref)):=by rw[eG];simp
    have nd6:(new++[pe]++UH++[pj]).Nodup:=o8 nd5 0e0 th5 0e47;have th6:=gU (gU 5e30 U8.ex) (kL Vw);clear e WN UT eq' WC;obtain⟨_,_,_,_,e,eq',WC⟩:=hm.Ti;left
    exists Vr,Int.zero_add,ix,e
    refine fun pz hz=>?_;have NZ:=q0D (o:=.tup [.int 1]) hz;refine zP 9e32 aA 8e27 fun pq GZ eq KZ=>?_;replace KZ:=NZ.trans KZ;replace eq:GZ pq=some (.tup ((pt++[(i:Int)]++[1]).map V.int)):=by rw[eq];simp
    refine⟨_,pq,cl,_,_,pt++[(i:Int)]++[1],as++6e10,rfl,KZ.at eq',(WC).kp 3e32,dl2,eq,by simp only[Ν,Ζ,ϕ];omega,KZ.at eG,by simp only[Ν,Ζ,ϕ];omega,fun Xr Xp e54 h54 XN aa3 K54=>?_⟩;wp_walk;right;have T54:=(aD.nil KZ).trans (kp1T K54 (KZ.at eG));have WJ:Kp [cl] G8 Xr:=(KZ.mono 0e0).trans K54;have f54:∀ a∈Xp,H a=none:=fun a ha=>free1 KH eG (KZ.cJ (XN a ha));have x54:∀ a∈Xp,G8 a=none:=fun a ha=>KZ.cJ (XN a ha);replace KH:=KH.trans WJ;replace eh:=T54 _ _ eh;replace ee:=WJ.at1 ee Ya;replace Vw:=WJ.at1 Vw YJ;replace hC:=hC.keep (fun a ha _ e=>WJ.at1 e 0e27) T54;replace U8:=U8.keep (fun a ha _ e=>WJ.at1 e (fun z=>nc5 1e5)) T54;replace hm:=hm.kp T54;replace eG:=e54;clear KZ K54 NZ hz eq;have l54:Xp.length=bX o':=by rw[h54.len,gD]
    have ixj:gL ((as++6e10++Xp).map V.ref) ((as.length+new.length+bX b'+1:Nat):Int)=some (.ref pj):=dQ (by
     rw[Ψ,<- YE,show as++6e10++Xp=(as++new++[pe]++UH)++(pj::Xp) by simp,List.getElem?_append_right 8e21];simp only[Ν,Ζ,ϕ];rw[show as.length+new.length+UH.length+1 - (as.length+new.length+(0+1)+UH.length)=0 by omega];rfl)
    have abT:=Vw;have aa5:pj∉new:=fun z=>by
     have h:=(Ϝ.mp nd6).2.2 pj 6e20 pj 0e0;exact h rfl
    have aa4:pj∉UH:=fun z=>by
     have h:=(Ϝ.mp nd6).2.2 pj 6e20 pj 0e0;exact h rfl
    have Z9:pj∉Xp:=fun z=>by
     obtain⟨o,e⟩:=th6 pj 0e0;rw[x54 pj z] at e;cases e
    have nd7:(new++[pe]++UH++[pj]++Xp).Nodup:=o8 nd6 aa3 th6 x54
    exists eG,ixj,Vw,Stm.kw
    rw[show xW 4 3=some 3 from rfl,show(List.map V.ref (as++6e10++Xp)).length=as.length+new.length+bX b'+bX o'+2 from by simp[YE,l54];omega];show Pv 7e1 _ (Ul Xr pj 1e9);have TS:aD Xr (Ul Xr pj 1e9):=aD.cU Vw;replace Vw:Ul Xr pj 1e9 pj=some 1e9:=aA;have KE:∀ a u,a≠pj->Xr a=some u->Ul Xr pj 1e9 a=some u:=fun a u n e=>by rw[aE n];exact e
    replace eG:=KE _ _ YJ.symm eG;replace hm:=hm.kp TS;replace KH:Kp [cl] H (Ul Xr pj 1e9):=fun b o e n=>by rw[aE (aF e fpj)];exact KH b o e n
    replace eh:=TS _ _ eh;replace hC:=hC.keep (fun a ha o e=>KE _ _ (fun z=>aa5 1e5) e) TS;replace U8:=U8.keep (fun a ha o e=>KE _ _ (fun z=>aa4 1e5) e) TS;replace h54:=h54.keep (fun a ha o e=>KE _ _ (fun z=>Z9 1e5) e) TS;replace ee:=KE _ _ aaA.symm ee;generalize Ul Xr pj 1e9=G9 at *;clear TS KE;refine back _ _ _ _ _ (new++[pe]++UH++[pj]++Xp) _ 6e48 ?_ ?_ nd7 KH
    ·simp only[z9];have h5:=U8;rw[show(as++9e4).length=as.length+new.length+1 by simp;omega] at h5;have h6:=h54;rw[show(as++6e10).length=as.length+new.length+bX b'+2 by simp[YE];omega] at h6;have:=hC.app ((dG.cons (e:=⟨some 6e50,pt++[(i:Int)],some 3e42⟩) ⟨ph,eh,_,hm,ee⟩ h5).app (.cons (e:=⟨none,pt++[(i:Int)],some (as.length+new.length+bX b'+bX o'+2)⟩) ⟨ph,eh,Vw⟩ h6));simpa using this
    ·intro a ha;simp only[Κ,Α,Δ,Φ] at ha;rcases ha with(((ha|rfl)|ha)|rfl)|ha
     ·exact fN a ha
     ·exact Zy
     ·exact XM a ha
     ·exact fpj
     ·exact f54 a ha
   | _=>exact absurd rfl hB
  intro Z G h;rw[Uw,Int.toNat_natCast,<- lus,ϝ] at h;obtain⟨v3,v4,v5,v6,v7,new,rfl,eG,hC,fN,nd,KG⟩:=h;exact q G new eG hC fN nd KG
theorem Di(T:Tx P w base K mg t):∀ d,fG P w K mg base U7 (d+3) (t.a 54) (t.d 54) ["block","path","code"] (AH d):=by
 intro d
 induction d with
 | zero=>exact⟨fun _ _ _ _ x=>by (obtain⟨_,_,_,_,_,_,_,_,_,_,h,_⟩:=x;exact absurd h 1e0),fun _ _ _ _ _ _ _ _ _ _ _ _ _ x=>by (obtain⟨_,_,_,_,_,_,_,_,_,_,h,_⟩:=x;exact absurd h 1e0)⟩
 | succ d ih=>exact Dx T 1e0 ih
theorem y7:Ok T 3e34 13 JF:=by
 nomatch T.r 55
 ·obtain⟨bp,us,b,rfl,_⟩:=h;rfl
 ·obtain⟨bp,us,b,rfl,eb,hs,hd,hz,q⟩:=h
  nomatch (aI (pst 1 8e0) (aI (aO (pcl (Di T 9) 6e25 (pa3 pv0 (aV bM) pv1))) (aI (pst 2 (Eu (fQ aC pv1 (fQ aC aB (fQ aC aC (fQ aC kH (fQ aC cI (fQ aC aB (fQ aC aB (fQ aC 8e0 Ez)))))))) rfl rfl 6e45 7e0)) (aI (ppt pv2 aC 8e0) (aI (ppt pv2 aC kH) (pss3 (ppt pv2 aC 8e0) (ppt pv2 aC cI) 8e18)))))),0
  left;wp_walk;refine fun cl hc=>?_;have K1:=q0D (o:=.lst []) hc;have e1:Ul H cl 2e0 cl=some (.lst (([]:List Addr).map V.ref)):=aA;replace eb:=K1.at eb;replace hs:=hs.kp 6e4;generalize Ul H cl 2e0=G1 at *;right;left;wp_walk;refine fun pe he=>?_;have K2:=q0D (o:=.tup []) he;refine⟨bp,pe,cl,us,b,[],[],rfl,K2.at eb,hs.kp 4e32,hd,aA,by simp,K2.at e1,by simp;omega,fun G2 cs e2 hC fr nd K3=>?_⟩;wp_walk;right;left;wp_walk;have Zi:Kp [] H G2:=fun b o e _=>K3.at1 (K2.at (K1.at e)) (fun z=>by rw[z,hc] at e;cases e);have fr':∀ a∈cs,H a=none:=fun a ha=>K1.cJ (K2.cJ (fr a ha));rw[Α4] at e2;rw[ϕ] at hC;refine fun md Xm nd Y2 od Xy=>?_;have x1:nd≠md:=fun z=>by rw[z,aA] at Y2;cases Y2
  have x2:od≠nd:=fun z=>by rw[z,aA] at Xy;cases Xy
  have x3:od≠md:=fun z=>by rw[z,aE x1.symm,aA] at Xy;cases Xy
  rw[aE x1] at Y2;rw[aE x2,aE x3] at Xy;refine⟨by rw[aE x3.symm,aE x1.symm,aA],[(.inr "code",.ref cl),(.inr "at",.int 0),(.inr "mode",.str "new"),(.inr "names",.ref nd),(.inr "arg",.Um),(.inr "now",.int 0),(.inr "made",.int 0),(.inr "open",.ref od)],rfl,by simp,?_⟩;rw[eights];obtain⟨k8,hk8⟩:∃ k:List (Key×V),k=[(.inr "code",.ref cl),(.inr "at",.int 0),(.inr "mode",.str "new"),(.inr "names",.ref nd),(.inr "arg",.Um),(.inr "now",.int 0),(.inr "made",.int 0),(.inr "open",.ref od)]:=⟨_,rfl⟩;rw[<- hk8];have lk8:k8.length=8:=by rw[hk8];rfl
  have NA:Kp [] G2 (Ul (Ul 4e15 od 2e0) md 8e14):=fun b o e _=>by rw[aE (aF e Xm),aE (aF e Xy),aE (aF e Y2),aE (aF e Xm)];exact e
  have eM:Ul (Ul 4e15 od 2e0) md 8e14 md=some 8e14:=aA;have eN:Ul (Ul 4e15 od 2e0) md 8e14 nd=some 2e12:=by rw[aE x1,aE x2.symm,aA]
  have eO:Ul (Ul 4e15 od 2e0) md 8e14 od=some 2e0:=by rw[aE x3,aA]
  generalize Ul (Ul 4e15 od 2e0) md 8e14=G3 at *;have fm:H md=none:=Zi.cJ Xm;have fn:H nd=none:=Zi.cJ Y2;have fo:H od=none:=Zi.cJ Xy;have yo:od≠cl/\od∉cs:=rD e2 hC Xy;have KH:=Zi.trans NA;have Wg:=e2;have hC':=hC;have aaV:=Xm;replace e2:=NA.at e2;replace hC:=hC.keep (fun _ _ _ e=>NA.at e) (aD.nil NA);clear NA K3 Zi K2 K1 Y2 Xy he;have Yg:md≠cl/\md∉cs:=rD Wg hC' aaV;right;left
  exists eM
  refine fun dd hX=>?_;generalize hg:Ul G3 dd 2e0=G3a;have N:Kp [] G3 G3a:=hg▸Kp.new hX;have VR:G3a dd=some 2e0:=hg▸aA;clear hg;have fdd:H dd=none:=KH.cJ hX;have ydd:dd≠cl/\dd∉cs:=rD e2 hC hX;have Wa:dd≠md:=fun z=>by rw[z,eM] at hX;cases hX
  have abP:dd≠nd:=fun z=>by rw[z,eN] at hX;cases hX
  have aaI:dd≠od:=fun z=>by rw[z,eO] at hX;cases hX
  replace eN:=N.at eN;replace eO:=N.at eO;replace e2:=N.at e2;replace eM:=N.at eM;replace hC:=hC.keep 7e10 5e1;replace KH:=KH.trans N;clear N hX
  exists eM
  refine⟨by omega,?_⟩;obtain⟨k9,hk9⟩:∃ k,aS (κ:=Key) k8 (.inr (Str.ofString "done")) (.ref dd)=k:=⟨_,rfl⟩;have lk9:k9.length<=k8.length+1:=hk9▸tN _ _ _;rw[hk9];have TS:aD G3a (Ul G3a md 7e14):=aD.cU eM;have KE:∀ a u,a≠md->G3a a=some u->Ul G3a md 7e14 a=some u:=fun a u n e=>by rw[aE n];exact e
  replace eM:Ul G3a md 7e14 md=some 7e14:=aA;replace hC:=hC.keep 6e19 TS;replace KH:Kp [] H (Ul G3a md 7e14):=fun b o e n=>KE _ _ 6e23 6e22;replace eN:=KE _ _ x1 eN;replace eO:=KE _ _ x3 eO;replace e2:=KE _ _ Yg.1.symm e2;replace VR:=KE _ _ Wa VR;generalize Ul G3a md 7e14=G3x at *;clear TS KE;right;left
  exists eM
  refine fun ld hX=>?_;generalize hg:Ul G3x ld 2e12=G3xa;have N:Kp [] G3x G3xa:=hg▸Kp.new hX;have Xj:G3xa ld=some 2e12:=hg▸aA;clear hg;have fld:H ld=none:=KH.cJ hX;have V3:ld≠cl/\ld∉cs:=rD e2 hC hX;have Wb:ld≠md:=fun z=>by rw[z,eM] at hX;cases hX
  have aaH:ld≠nd:=fun z=>by rw[z,eN] at hX;cases hX
  have abR:ld≠od:=fun z=>by rw[z,eO] at hX;cases hX
  have abM:ld≠dd:=fun z=>by rw[z,VR] at hX;cases hX
  replace eN:=N.at eN;replace eO:=N.at eO;replace e2:=N.at e2;replace VR:=N.at VR;replace eM:=N.at eM;replace hC:=hC.keep 7e10 5e1;replace KH:=KH.trans N;clear N hX
  exists eM
  refine⟨by omega,?_⟩;obtain⟨kA,hkA⟩:∃ k,aS (κ:=Key) k9 (.inr (Str.ofString "letters")) (.ref ld)=k:=⟨_,rfl⟩;have lkA:kA.length<=k9.length+1:=hkA▸tN _ _ _;rw[hkA];have TS:aD G3xa (Ul G3xa md 6e14):=aD.cU eM;have KE:∀ a u,a≠md->G3xa a=some u->Ul G3xa md 6e14 a=some u:=fun a u n e=>by rw[aE n];exact e
  replace eM:Ul G3xa md 6e14 md=some 6e14:=aA;replace hC:=hC.keep 6e19 TS;replace KH:Kp [] H (Ul G3xa md 6e14):=fun b o e n=>KE _ _ 6e23 6e22;replace eN:=KE _ _ x1 eN;replace eO:=KE _ _ x3 eO;replace e2:=KE _ _ Yg.1.symm e2;replace VR:=KE _ _ Wa VR;replace Xj:=KE _ _ Wb Xj;generalize Ul G3xa md 6e14=G3xx at *;clear TS KE;right;left
  exists eM
  refine fun aw hX=>?_;have N:=q0D (o:=.lst []) hX;have Wh:Ul G3xx aw 2e0 aw=some 2e0:=aA;have faw:H aw=none:=KH.cJ hX;have yaw:aw≠cl/\aw∉cs:=rD e2 hC hX;have Yf:aw≠md:=fun z=>by rw[z,eM] at hX;cases hX
  have abO:aw≠nd:=fun z=>by rw[z,eN] at hX;cases hX
  have abQ:aw≠od:=fun z=>by rw[z,eO] at hX;cases hX
  have abL:aw≠dd:=fun z=>by rw[z,VR] at hX;cases hX
  have abN:aw≠ld:=fun z=>by rw[z,Xj] at hX;cases hX
  replace eN:=N.at eN;replace eO:=N.at eO;replace e2:=N.at e2;replace VR:=N.at VR;replace Xj:=N.at Xj;replace eM:=N.at eM;replace hC:=hC.keep 7e10 5e1;replace KH:=KH.trans N;generalize Ul G3xx aw 2e0=G3xxa at *;clear N hX
  exists eM
  refine⟨by omega,?_⟩;obtain⟨kB,hkB⟩:∃ k,aS (κ:=Key) kA (.inr (Str.ofString "awaited")) (.ref aw)=k:=⟨_,rfl⟩;have lkB:kB.length<=kA.length+1:=hkB▸tN _ _ _;rw[hkB];have TS:aD G3xxa (Ul G3xxa md 5e14):=aD.cU eM;have KE:∀ a u,a≠md->G3xxa a=some u->Ul G3xxa md 5e14 a=some u:=fun a u n e=>by rw[aE n];exact e
  replace eM:Ul G3xxa md 5e14 md=some 5e14:=aA;replace hC:=hC.keep 6e19 TS;replace KH:Kp [] H (Ul G3xxa md 5e14):=fun b o e n=>KE _ _ 6e23 6e22;replace eN:=KE _ _ x1 eN;replace eO:=KE _ _ x3 eO;replace e2:=KE _ _ Yg.1.symm e2;replace VR:=KE _ _ Wa VR;replace Xj:=KE _ _ Wb Xj;replace Wh:=KE _ _ Yf Wh;generalize Ul G3xxa md 5e14=G3xxx at *;clear TS KE;right;left
  exists eM
  refine⟨by omega,?_⟩;obtain⟨kC,hkC⟩:∃ k,aS (κ:=Key) kB (.inr (Str.ofString "outcome")) .Um=k:=⟨_,rfl⟩;have J7:kC.length<=kB.length+1:=hkC▸tN _ _ _;rw[hkC];have TS:aD G3xxx (Ul G3xxx md 4e14):=aD.cU eM;have KE:∀ a u,a≠md->G3xxx a=some u->Ul G3xxx md 4e14 a=some u:=fun a u n e=>by rw[aE n];exact e
  replace eM:Ul G3xxx md 4e14 md=some 4e14:=aA;replace hC:=hC.keep 6e19 TS;replace KH:Kp [] H (Ul G3xxx md 4e14):=fun b o e n=>KE _ _ 6e23 6e22;replace eN:=KE _ _ x1 eN;replace eO:=KE _ _ x3 eO;replace e2:=KE _ _ Yg.1.symm e2;replace VR:=KE _ _ Wa VR;replace Xj:=KE _ _ Wb Xj;replace Wh:=KE _ _ Yf Wh;generalize Ul G3xxx md 4e14=G3xxxx at *;clear TS KE;right;wp_walk;obtain rfl:kC=[(.inr "code",.ref cl),(.inr "at",.int 0),(.inr "mode",.str "new"),(.inr "names",.ref nd),(.inr "arg",.Um),(.inr "now",.int 0),(.inr "made",.int 0),(.inr "open",.ref od),(.inr "done",.ref dd),(.inr "letters",.ref ld),(.inr "awaited",.ref aw),(.inr "outcome",.Um)]:=by rw[<- hkC,<- hkB,<- hkA,<- hk9,hk8];simp[aS,cH]
  refine q ⟨md,nd,od,dd,ld,cl,cs,[],0,aw⟩ _ ?_ ?_ rfl ⟨_,Wh⟩ KH
  ·have vv:∀ j:String,aX (κ:=Key) [(.inr "code",.ref cl),(.inr "at",.int 0),(.inr "mode",.str "new"),(.inr "names",.ref nd),(.inr "arg",.Um),(.inr "now",.int 0),(.inr "made",.int 0),(.inr "open",.ref od),(.inr "done",.ref dd),(.inr "letters",.ref ld),(.inr "awaited",.ref aw),(.inr "outcome",.Um)] (.inr 7e48)=(([(.inr "code",.ref cl),(.inr "at",.int 0),(.inr "mode",.str "new"),(.inr "names",.ref nd),(.inr "arg",.Um),(.inr "now",.int 0),(.inr "made",.int 0),(.inr "open",.ref od),(.inr "done",.ref dd),(.inr "letters",.ref ld),(.inr "awaited",.ref aw),(.inr "outcome",.Um)]:List (Key×V)).find? fun kv=>decide (kv.1=.inr 7e48)).map (·.2):=fun _=>rfl;refine⟨⟨fun j=>aX (κ:=Key) [(.inr "code",.ref cl),(.inr "at",.int 0),(.inr "mode",.str "new"),(.inr "names",.ref nd),(.inr "arg",.Um),(.inr "now",.int 0),(.inr "made",.int 0),(.inr "open",.ref od),(.inr "done",.ref dd),(.inr "letters",.ref ld),(.inr "awaited",.ref aw),(.inr "outcome",.Um)] (.inr j),⟨⟨_,eM,⟨by simp,fun _ _=>rfl⟩,?_,?_,?_,?_,?_,?_⟩,eN,eO,⟨[],VR,.nil⟩,x1.symm,aaI.symm,List.Pairwise.nil,by simp[fI],by simp[fI],by simp[fI]⟩,?_,?_,?_,?_,?_⟩,e2,hC,⟨[],[],Xj,.nil,by simp,fun _=>rfl⟩,ps0 b,Wb.symm,aaH.symm,by simp,⟨yo.1,yo.2,ydd.1,ydd.2⟩,by simp⟩
   all_goals first|(rw[vv];simp[cH,fI,wv];done)|(dsimp only;rw[vv];simp[cH];done)|(show aX (κ:=Key) [(.inr "code",.ref cl),(.inr "at",.int 0),(.inr "mode",.str "new"),(.inr "names",.ref nd),(.inr "arg",.Um),(.inr "now",.int 0),(.inr "made",.int 0),(.inr "open",.ref od),(.inr "done",.ref dd),(.inr "letters",.ref ld),(.inr "awaited",.ref aw),(.inr "outcome",.Um)] (.inr (Str.ofString "mode"))=_;rw[vv];simp[cH];done)|skip
   intro k hk;simp only[OK6,Α,Δ,Φ] at hk;rcases hk with rfl|rfl|rfl|rfl|rfl|rfl<;>(simp only[vv];simp[cH])
  ·intro a ha;simp only[Fa.mut,ϛ,Α,Δ,Φ] at ha;rcases ha with rfl|rfl|rfl|rfl|rfl<;>assumption
theorem jO:Ok T 5e28 2 Cc:=by
 nomatch T.r 46
 ·obtain⟨r,n,rfl,_⟩:=h;rfl
 ·obtain⟨r,n,rfl,hR,hn,q⟩:=h
  nomatch (aI (pst 1 3e1) (pss3 (pif 2e11 5e22) (pif 2e11 (aG (aK (pix aN (aU (c0 4e4 (pa3 (fY eE 4e4) (bH oH aB 4e4) 9e5))) 3e1)))) (aK 3e1))),0
  wp_walk;refine⟨_,hR,by omega,fun g H1 a1 b1 R1 K1=>?_⟩;split
  ·exact q none _ j9 (R1.up 1e0) K1
  split
  ·refine⟨⟨by decide,by decide,by decide⟩,Em 7e0 7e0,fun p hp=>⟨_,R1.new hp,by omega,fun g2 H2 a2 b2 R2 K2=>?_⟩⟩
   exists made1 K2 R1 hp
   refine iM a2 b2 fun v hv=>?_;simp only[Α,Δ,Φ] at hv;have K:=K1.trans ((Kp.new hp).trans K2);rcases hv with rfl|rfl|rfl|rfl<;>exact q (some _) _ (fK 7e0 7e0) R2 K
  ·refine⟨_,R1,by omega,fun g2 H2 a2 b2 R2 K2=>?_⟩;exact q (some _) _ (fK 1e0 1e0) R2 2e22
theorem sN:Ok T (T.r 65) 4 JE:=by
 nomatch T.r 65
 ·obtain⟨P0,A0,S,p,r,n,N,rfl,_⟩:=h;rfl
 ·obtain⟨P0,A0,S,p,r,n,N,rfl,F,FT,lN,hR,hn,s1,s2,s3,q⟩:=h
  nomatch (aI (pst 2 (pix aN (aU (pa2 3e1 (pcl 2e1 1e1 (pa2 pv0 (bH cR 4e4 aB))))) (bF gP rfl T.yE lW (pa1 (pcr aY 3e1 aB))))) (aI (pst 3 3e1) (aI (pif (ptc aY pv3 aB) (aG (aK (aV (pa3 aC pv2 6e28))))) (aI (pif 2e31 (pss3 (pst 4 3e1) (pif (PW.pt (fR (ptc 8e47 2e5 8e0) (eX 2e31))) (aG (pst 4 (pix aN 2e5 (pcl 2e1 1e1 (pa2 pv0 (aW cK rfl T.jW eV (pa1 2e5)))))))) (aK (aV (c0 aC (pa3 pv2 pv4 6e28)))))) (pss3 (pst 5 (pix aN 0e13 3e1)) (pif (PW.pt (fR (ptc aY 2e5 aC) (eX 2e31))) (aG (pst 5 (pix aN (pix aN (pix aN 2e5 2e5) aB) aB)))) (aK (aV (c0 aC (pa3 pv2 pv5 6e28))))))))),0
  obtain⟨ot,M0,Vh,c1,c2,c3,c4⟩:=F.ex;obtain⟨UE,Ux,US,t1,t2,t3,t4,t5,t6⟩:=M0.hm;have vm:aX UE 3e11=some 4e13:=(US.2 _ 3e0).trans c4.md;have va7:aX UE 9e0=some 8e6:=(US.2 _ 3e0).trans c2;have vc7:aX UE 4e11=some 6e11:=(US.2 _ 3e0).trans c1;have rmd:A0.md≠r:=fun z=>s1 0e23;have rod:A0.od≠r:=fun z=>s1 7e31;have lpd:=FT.pd;left;wp_walk;refine⟨n,hR,by omega,fun g1 H1 a1 b1 D1 K1=>⟨_,D1,by omega,fun g2 H2 a2 b2 D2 K2 p1 h1=>⟨_,D2.new h1,by omega,fun g3 H3 a3 b3 D3 K3=>?_⟩⟩⟩
  exists made1 K3 D2 h1
  refine iM 0e48 0e48 fun v hv=>?_;obtain⟨mo,rfl,hm⟩:∃ mo:Int,v=.int mo/\0<=mo/\mo<=1000000000000:=by
   simp only[Α,Δ,Φ] at hv;rcases hv with rfl|rfl
   ·exact⟨_,rfl,by omega,by omega⟩
   ·exact⟨_,rfl,by omega,by omega⟩
  have KK:Kp [r] H H3:=((K1.trans K2).trans 3e8).trans K3;clear K1 K2 K3 D1 D2 h1 hv;wp_walk;right;left;wp_walk;refine⟨_,D3,by omega,fun kd H4 a4 b4 D4 K4=>?_⟩;replace KK:=KK.trans K4;clear K4 D3;wp_walk;right;left;wp_walk;split
  ·refine⟨r,_,rfl,D4,by omega,fun w H5 hw D5 K5=>?_⟩;wp_walk;intro p5 h5;exact q _ (.U2 mo w) _ _ ⟨p5,rfl,aA⟩ ⟨hm,hw⟩ (D5.new h5) 1e0 ((KK.trans K5).trans 6e54)
  right;left;refine cQ fun RI Uu=>?_;wp_walk;split
  ·refine Uu _ _ ?_;clear Uu RI;left;wp_walk;refine⟨_,D4,by omega,fun tk H5 a5 b5 D5 K5=>?_⟩;replace KK:=KK.trans K5;wp_walk;right;refine cD fun R6 XR=>?_;refine cQ fun RI Uu=>?_
   suffices fin:∀(j:Int) (n':Nat) (G:Hp),cE G r n'->n'<=n+8->Kp [r] H G->R6 [some 8e24,some 2e8,some (.int mo),some 7e6,some 2e35,none] G by
    have Y3:=KK.at1 M0.ho rod;have U4:=KK.at1 Ux rmd
    exists U4,t5,Y3
    refine fun p2 h2=>⟨_,Jq ((q0D h2).at Y3) aA,?_⟩;have N2:=q0D (o:=.lst []) h2;split
    ·next hp =>
     split
     ·refine Uu _ _ ?_;replace Y3:=N2.at Y3;replace U4:=N2.at U4;have pos:0 < S.pend.length:=by
       cases e:S.pend with
       | nil=>rw[e] at hp;simp at hp
       | cons _ _=>simp
      exists U4,t5,Y3
      rw[Γ];refine⟨by omega,by omega,_,D5.new h2,by omega,fun g H' ag bg D6 K6=>?_⟩;have ho6:=K6.at1 Y3 rod;obtain⟨j,ej⟩:∃ j,gL 7e5 g=some 2e35:=by
       obtain⟨g',rfl⟩:∃ g':Nat,g=(g':Int):=⟨g.toNat,by omega⟩;exact⟨S.pend[g']' 1e0,dQ 0e0⟩
      exists ho6,ej
      exact fin j _ _ D6 1e0 ((KK.trans (N2.mono 0e0)).trans K6)
     ·exact fin tk _ _ 1e55 1e0 3e44
    ·exact fin tk _ _ 1e55 1e0 3e44
   intro j n' G RG ln KG;clear RI Uu;refine XR _ _ ?_;clear XR;clear R6;wp_walk;refine⟨r,_,rfl,RG,by omega,fun w H6 hw D6 K6=>?_⟩;wp_walk;intro p6 h6;exact q _ (.don mo j w) _ _ ⟨p6,rfl,aA⟩ ⟨hm,hw⟩ 0e55 1e0 ((KG.trans K6).trans 5e54)
  clear Uu RI;right;left;wp_walk;refine fun p5 h5=>⟨_,D4.new h5,by omega,fun g5 G5 a5 b5 D5 K5=>?_⟩
  exists made1 K5 D4 h5
  refine iM a5 b5 fun y5 hy5=>?_;obtain⟨z5,rfl⟩:∃ z:Str,y5=.str z:=by simp only[Α,Δ,Φ] at hy5;rcases hy5 with rfl|rfl<;>exact⟨_,rfl⟩
  replace KK:Kp [r] H G5:=(KK.trans 6e54).trans K5;wp_walk;right;refine cD fun R6 XR=>?_;refine cQ fun RI Uu=>?_
  suffices fin:∀ z:Str,R6 [some 8e24,some 2e8,some (.int mo),some 7e6,none,some (.str z)] G5 by
   have U4:=KK.at1 Ux rmd
   exists U4,vm,Ek
   split
   ·next hh =>
    rw[Ek] at hh;obtain⟨k',hs⟩:=hh;obtain⟨x,UC⟩:=FT.sl.1 k' hs;obtain⟨pt,ec⟩:=F.ps.ent UC;obtain⟨a,ea,pa,XZ,sv,Vn,eA⟩:=F.co.at ec;have ar:a≠r:=fun z=>s3 (z▸ϓ ea);have eA5:=KK.at1 eA ar;replace Vn:=Vn.kp (hR.tk KK);have ix:gL 2e13 (p:Int)=some 3e2:=dQ 8e16;have Wf:=KK.at1 F.cl (fun z=>s2 z.symm);cases Vn with
    | @Ur a0 x k' e1 =>
     split
     ·refine Uu _ _ ?_
      exists U4,va7,vc7,Wf,ix,eA5,e1
      exact fin _
     ·exact fin _
   ·exact fin _
  intro z;clear RI Uu;refine XR _ _ ?_;clear XR;clear R6;wp_walk;refine⟨r,_,rfl,D5,by omega,fun w H6 hw D6 K6=>?_⟩;wp_walk;intro p6 h6;exact q _ (.ltr mo z w) _ _ ⟨p6,rfl,aA⟩ ⟨hm,hw⟩ 0e55 1e0 ((KK.trans K6).trans 5e54)
theorem rR:Ok T 2e34 1 JC:=by
 nomatch T.r 57
 ·obtain⟨P0,A0,S,p,w,op,cs,rfl,_⟩:=h;rfl
 ·obtain⟨P0,A0,S,p,w,op,cs,rfl,F,O,lc,q⟩:=h
  nomatch (aI 3e17 (pss3 (ppt pv0 aC pv1) (ppt pv0 aC 8e0) (aO (dS pv2 2e21)))),0
  obtain⟨ot,M0,Vh,c1,c2,c3,c4⟩:=F.ex;obtain⟨us,eo,hC,s1,s2,s3⟩:=O;have lu:=hC.len;have F0:=F;have e00:=eo;have KM:Kp [A0.md] H H:=Kp.refl;have TM:aD H H:=fun _ _ e=>e;obtain⟨UE,Ux,US,_⟩:=M0.hm;obtain⟨y0,ZY⟩:=Vh "mode" 3e0;left
  exists Ux
  refine⟨by omega,?_⟩;refine M0.six Ux (k:="mode") 3e0 ZY Vh KM TM 0e0 (.str "ended") fun G1 M1 Wr KM TM YD Yi Zj=>?_;replace eo:=YD eo 4e1;replace hC:=hC.kt Yi;clear YD Yi Zj Ux US;right;obtain⟨UW,Uz,Vu,_⟩:=M1.hm;obtain⟨y1,ZZ⟩:=Wr "outcome" 3e0;left
  exists Uz
  refine⟨by omega,?_⟩;refine M1.six Uz (k:="outcome") 3e0 ZZ Wr KM TM 0e0 (wv w) fun G2 M2 Xe KM TM XD Xh XH=>?_;replace eo:=XD eo 4e1;replace hC:=hC.kt Xh;clear XD Xh XH Uz Vu;right;left;obtain⟨X6,U0,Y7,_⟩:=M2.hm
  exists U0
  refine fun o2 UZ=>?_;generalize hg:Ul G2 o2 2e0=G2a;have N:Kp [] G2 G2a:=hg▸Kp.new UZ;have Vj:G2a o2=some 2e0:=hg▸aA;clear hg;have Zx:H o2=none:=by
   cases e:H o2 with
   | none=>rfl
   | some o =>
    by_cases z:o2=A0.md
    ·rw[z,U0] at UZ;cases UZ
    ·rw[KM.at1 e z] at UZ;cases UZ
  have Xd:op≠o2:=aF eo UZ;have nd2:o2≠A0.dd:=fun z=>by
   obtain⟨ds,ed,_⟩:=M2.hd;rw[z,ed] at UZ;cases UZ
  replace M2:=M2.kp N;replace U0:=N.at U0;replace eo:=N.at eo;replace hC:=hC.kt 5e1;replace KM:=KM.trans (N.mono (T:=[A0.md]) 0e0);replace TM:=TM.trans 5e1
  exists U0
  refine⟨by omega,?_⟩;have M3:=M2.opn U0 Vj nd2;have KS2:Kp [A0.md] G2a 2e44:=Kp.jQ;have TS2:aD G2a 2e44:=aD.cU U0;replace eo:=cZ (u:=.dK 8e26) U0 eo;replace hC:=hC.kt TS2;replace KM:=KM.trans KS2;replace TM:=TM.trans TS2;generalize Ul G2a A0.md (.dK 8e26)=G3 at *;clear KS2 TS2 U0 Y7 N UZ Vj;right
  exists eo
  refine fun pt W9=>?_;generalize hg:Ul G3 pt 5e44=G3b;have N:Kp [] G3 G3b:=hg▸Kp.new W9;have YY:G3b pt=some 5e44:=hg▸aA;clear hg;replace M3:=M3.kp N;replace eo:=N.at eo;replace hC:=hC.kt 5e1;replace KM:=KM.trans (N.mono (T:=[A0.md]) 0e0);replace TM:=TM.trans 5e1
  exists eo
  refine⟨by omega,?_⟩;have T4:aD G3b (Ul G3b op 6e7):=aD.cU eo;have K4:Kp [op] G3b (Ul G3b op 6e7):=Kp.jQ;have hC4:=(hC.app 7e49).kt T4;have nod:op≠A0.dd:=fun z=>s1 4e21;have nom:op≠A0.md:=fun z=>s1 0e23;have M4:=M3.other (vs:=us++[.ref pt]) eo Xd nod;have KF:Kp [A0.md,op] H (Ul G3b op 6e7):=fun b o e n=>K4.at1 (KM.at1 e 7e20) 7e20;obtain⟨w1,w2,w3⟩:=F0.new Zx;refine q _ p _ (F0.asm 7e19 Xe ?_ ?_ ?_ ⟨?_,?_⟩ 6e30 6e51 rfl F0.ps w1 w2) ⟨_,aA,hC4,Rz s1 Xd,s2,s3⟩ 7e41
  ·simp[cH,c1]
  ·simp[cH,c2]
  ·simp[cH,c3]
  ·simp[cH]
  ·simp
  ·obtain⟨a1,a2,a3,a4,a5⟩:=F0.D0 s1 s2 s3 hb;exact KF b o e 4e48
  ·simp only[Α,Δ,Φ] at hb;rcases hb with rfl|rfl
   ·obtain⟨kv,e,_⟩:=M4.hm;exact⟨.inl aZ.1,_,e⟩
   ·exact⟨.inr 0e0,_,aA⟩
theorem nS:Ok T 4e34 1 Dv:=by
 nomatch T.r 52
 ·obtain⟨n,rfl,_⟩:=h;rfl
 ·obtain⟨n,rfl,q⟩:=h
  nomatch (aG (aK (aW 3e14 rfl T.AU oB (pa2 (fY eE 4e4) (aW 4e24 rfl T.GS zX (pa2 4e4 pv0)))))),0
  wp_walk;exact q
theorem Dy(hn:3<=n)(IH:fG P w K mg base U7 n (t.a 53) (t.d 53) ["saying","run"] (tO d)):Ok T 9e18 (n+1) (tO (d+1)):=by
  nomatch T.r 53
  · obtain⟨v,md,nd,od,dd,ot,S,s,rfl,_⟩:=h;rfl
  · obtain⟨v,md,nd,od,dd,ot,S,s,rfl,hS,hd,Ut,M,hP,q⟩:=h;have hu:=lF hr
    nomatch (aI (pst 2 6e2) (aI (pif 3e4 3e51) (aI (pif 3e4 5e22) (aI (pif 3e4 (aG (aK (tH hu 2e5 6e2 ⟨rfl,rfl,rfl,rfl⟩)))) (aI (pif 3e4 (aG (aK 2e5))) (aI (pif 3e4 (aG (aK (pcl (nS T) 4e34 (pa1 2e5))))) (aI (pst 3 8e41) (aI (pif 3e4 (aG (aK (tH hu (bF ((CH rfl)) rfl T.J4 Kf (pa1 2e5)) pv3 ⟨rfl,rfl,rfl,rfl⟩)))) (aI (pif 3e4 (aG (aK (bF gP rfl T.yE lW (pa1 (MD (pcr mI pv3 cI) (mK (pcr aY pv3 aB)))))))) (aI (pst 4 8e41) (aI (pif 3e4 (aG (aK (bF gP rfl T.yE lW (pa1 (pcr aY pv3 pv4)))))) (aI (pst 5 (Ax pv3 (mK aB))) (pss3 (pst 6 8e48) (pif 3e4 (aG (aK (bF gP rfl T.yE lW (pa1 (pcr jP pv5 pv6)))))) (aK (pcl (nS T) 4e34 (pa1 (pdg (Eu (fQ aC (bH cR pv5 pv6) (fQ aC (bH i9 pv5 pv6) (fQ aC (bH oH pv5 pv6) Ez))) rfl rfl 6e45 7e0) pv2))))))))))))))))),0
    obtain⟨kvs,em,_,v1,v2,v3,v4,v5,v6⟩:=M.hm;cases hS with
    | num e =>
      exists e
      exact q _ Kp.refl
    | Um e =>
      exists e
      exact q _ Kp.refl
    | @name a x e =>
      exists e,em,v1,M.hn,o9
      exact q _ Kp.refl
    | arg e =>
      exists e,em,v2
      exact q _ Kp.refl
    | now e =>
      exists e,em,v3
      exact q _ Kp.refl
    | @ans a v s e h1 =>
      exists e
      simp only[Say.depth] at hd;refine⟨_,md,nd,od,dd,ot,S,_,rfl,h1,by omega,Ut,M,hP,fun H1 K1=>?_⟩;obtain⟨ds,ed,rd⟩:=M.hd
      exists K1.at em,v6,K1.at ed
      refine⟨_,(rd.kt 6e4).pairs,fun p hp=>?_⟩
      exists FR M.uq,oO
      rw[Sj] at q;exact q _ (K1.trans 7e2)
    | @neg a v s e h1 =>
      exists e
      simp only[Say.depth] at hd;refine⟨_,md,nd,od,dd,ot,S,_,rfl,h1,by omega,Ut,M,hP,fun H1 K1=>?_⟩;rw[So] at q;cases hw:S.worth s with
      | none =>
        rw[hw] at q
        exists wv
        exact q _ K1
      | some z =>
        rw[hw] at q
        exists wv,reduceCtorEq
        by_cases hz:z=0
        · subst hz;exact q _ K1
        · have:=q _ K1;simp only[num,Ε1,hz,Β5,wv] at this;simpa[hz] using this
    | @two a v u g s1 s2 e h1 h2 =>
      simp only[Say.depth] at hd;rw[Sr] at q;have w1:eI 9e17:=DZ hP Ut.1;have w2:eI 8e17:=DZ hP Ut.2;have b1:=uV w1;have b2:=uV w2;cases g <;>
      ( exists e,Sg.s
        refine⟨_,md,nd,od,dd,ot,S,_,rfl,h1,by omega,Ut.1,M,hP,fun H1 K1=>?_⟩
        exists K1.at e,Sg.s
        refine⟨_,md,nd,od,dd,ot,S,_,rfl,h2.kp 6e4,by omega,Ut.2,M.kp K1,hP,fun H2 K2=>?_⟩;have q0:=q;replace q:=q H2 2e22;wp_walk)
      case eq =>
        refine Q9 ?_;wp_walk;rw[show(Sg.eq.of 9e17 8e17)=if S.worth s1=S.worth s2 then 1 else 0 from rfl] at q;simpa[wv] using q
      case lt =>
        exists Ε6
        exact q
      all_goals (
        refine fun p hp=>⟨Em 1e0 1e0,[(.inr "+",.int (num 9e17+num 8e17)),(.inr "-",.int (num 9e17 - num 8e17)),(.inr "*",.int (num 9e17 * num 8e17))],rfl,by simp,?_⟩
        exists FU,Se,Si,Sh
        exact q0 _ ((K1.trans K2).trans (Ls hp)))
theorem i6(T:Tx P w base K mg t):∀ d,fG P w K mg base U7 (d+3) (t.a 53) (t.d 53) ["saying","run"] (tO d):=by
 intro d
 induction d with
 | zero=>exact⟨fun _ _ _ _ x=>by (obtain⟨_,_,_,_,_,_,_,s,_,_,h,_⟩:=x;exact absurd h (by have:=s.mY;omega)),fun _ _ _ _ _ _ _ _ _ _ _ _ _ x=>by (obtain⟨_,_,_,_,_,_,_,s,_,_,h,_⟩:=x;exact absurd h (by have:=s.mY;omega))⟩
 | succ d ih=>exact Dy T 1e0 ih
theorem As:Ok T (T.r 59) 11 (Dw (fun m=>∃ x ss,m=.wait x ss)):=by
 nomatch T.r 59
 ·obtain⟨P0,A0,S,p,v,m,rfl,_⟩:=h;rfl
 ·obtain⟨P0,A0,S,p,v,m,rfl,F,sn,hs,gm,g,st,hP,b1,b2,b3,q⟩:=h
  nomatch (aI (wC (i:=2) sc rfl 5e52 (k5 (fr:=[0]) (N:=["saying","run"]) rfl 0e3 (eD.free rfl rfl rfl rfl rfl 4e25 rfl 7e0 rfl 4e35) (Jk 5e0) (fun C s H ex pn=>⟨Az,(tG 6e24 (hr.mono 1e0) rfl (T.r 53).m (T.r 53).fn.kp (T.r 53).bd .nil pass0 (c0 0e1 (c0 5e2 bM))) ⟩))) (aI (BX (i:=3) (fr:=[2]) (N:=["ticket","worth","worths"]) rfl 0e3 (kM.of (M:=["ticket","worths"]) 5e25 rfl 7e0 rfl) (iE 4e0) (fun C s H ex pn=>⟨iF (eC jV 0e1 (pv 2) 0e4) ,0e1 ⟩) sc rfl 2e6) (aI (ppt pv0 aC (k5 (fr:=[2]) (N:=["ticket","worths"]) rfl 0e3 5e25 (iE 4e0) 6e36)) (pss3 (pif (PW.pt (fR (ptc 8e30 pv3 8e0) (eX (ptc 8e47 4e0 8e0)))) (pss2 3e17 tL)) (ppt 4e0 5e0 (pix aN (bH cR pv3 (aU (pa1 cI))) aB)) 1e16)))),0
  obtain⟨x,ss,rfl⟩:=gm;cases hs with
  | @wait a pp x vs ss e1 e2 hss =>
   obtain⟨_,g4,gs⟩:=g;have lv:=hss.OY;obtain⟨ot,M0,Vh,c1,c2,c3,c4⟩:=F.ex;left
   exists e1
   refine⟨⟨_,iJ.of e2⟩,?_⟩;obtain⟨Pv,Uw⟩:∃ Pv:Nat->List V->Hp->Prop,∀ i xs G,Pv i xs G=(Kp [] H G/\xs=((ss.take i).map S.worth).map wv):=⟨_,fun _ _ _=>rfl⟩;refine Iv (ys:=vs) Pv ?_ ?_ ?_ ?_ ?_
   ·rw[Uw];exact⟨Kp.refl,rfl⟩
   ·intro i xs G h;rw[Uw] at h;rw[h.2,Γ,Γ,Α3];omega
   ·intro i xs G h;rw[Uw] at h;exact iJ.of (h.1.at e2)
   ·intro i y xs G hi ey h;rw[Uw] at h;obtain⟨k,rfl⟩:=h;obtain⟨s0,es,h0⟩:=hss.atW ey;obtain⟨sk1,sk2⟩:=gs s0 (ϓ es)
    exists bA,Α8
    refine⟨y,A0.md,A0.nd,A0.od,A0.dd,ot,S,s0,rfl,h0.kp (aD.nil k),sk2,sk1,M0.kp k,hP,fun G' k'=>?_⟩;show Pv 7e1 _ _;rw[Uw,Α9,es];exact⟨k.trans k',by simp⟩
   intro xs G h p1 Xn;rw[Uw] at h;obtain⟨k,rfl⟩:=h;rw[lv,ϝ];obtain⟨ws,Vo⟩:∃ ws,ws=ss.map S.worth:=⟨_,rfl⟩;have hd:bT S 8e13=if bB S.ans ws=none/\bN S.pend ws≠[] then ({S with sl:=.wait 9e21},[]) else ({S with nm:=bZ S.nm x 5e10},[]):=by rw[Vo];rfl
   rw[<- Vo];have lw:ws.length<=4:=by rw[Vo,Γ];exact g4
   clear Vo Uw Pv;have N1:=k.trans (q0D (o:=.lst 9e7) Xn);have f1:Ul G p1 0e8 p1=some 0e8:=aA;generalize Ul G p1 0e8=G1 at *;have F1:=F.kp N1;have M1:=M0.kp N1;replace e1:=N1.at e1;right;left;obtain⟨UW,Uz,Vu,u1,u2,u3,u4,u5,u6⟩:=M1.hm;obtain⟨ds,ed,V6⟩:=M1.hd;have Z3:=V6.len
   exists Uz,u6
   refine⟨⟨_,eY.of ed⟩,?_⟩;obtain⟨Pw,UQ⟩:∃ Pw:Nat->List V->Hp->Prop,∀ i xs G',Pw i xs G'=(G'=G1/\xs=(dF 4e50 ws).map V.int):=⟨_,fun _ _ _=>rfl⟩;refine Iu (ys:=ds) Pw ?_ ?_ ?_ ?_ ?_
   ·rw[UQ];exact⟨rfl,rfl⟩
   ·intro i xs G' h;rw[UQ] at h;have:=Γ8 (fun p:Int×Wo=>decide (some p.1∈ws)) 4e50;rw[h.2,Γ,dF,Γ];rw[Α3] at this;omega
   ·intro i xs G' h;rw[UQ] at h;rw[h.1];exact eY.of ed
   ·intro i y xs G' hi ey h;rw[UQ] at h;obtain⟨rfl,rfl⟩:=h;obtain⟨t0,j0,w0,rfl,ej,et⟩:=V6.at ey;refine⟨t0,_,_,rfl,iJ.of et,?_⟩
    exists bA,Α8,f1,Ac
    refine⟨rfl,Bk ws,?_⟩;rw[UQ,UQ,Ds ej];split
    ·next h=>exact⟨rfl,(if_pos 7e16).symm⟩
    ·next h=>exact⟨rfl,(if_neg 7e16).symm⟩
   intro xs G' h p2 WZ;rw[UQ,Z3,ϝ] at h;obtain⟨rfl,rfl⟩:=h;clear UQ Pw;have N2:=q0D (o:=.lst 2e26) WZ;have f2:Ul G' p2 3e26 p2=some 3e26:=aA;have n12:p2≠A0.md:=fun z=>by rw[z,Uz] at WZ;cases WZ
   generalize Ul G' p2 3e26=G2 at *;replace F1:=F1.kp N2;replace M1:=M1.kp N2;replace e1:=N2.at e1;replace f1:=N2.at f1;replace N1:=N1.trans N2;clear Uz Vu u1 u2 u3 u4 u5 u6 ed V6 N2 UW ds Z3;right;left;obtain⟨UW,Uz,Vu,u1,u2,u3,u4,u5,u6⟩:=M1.hm;obtain⟨y1,ZZ⟩:=Vh "awaited" 3e0
   exists Uz,u5
   refine⟨⟨_,eY.of M1.ho⟩,?_⟩;obtain⟨Pw,UQ⟩:∃ Pw:Nat->List V->Hp->Prop,∀ i xs G',Pw i xs G'=(G'=G2/\xs=((S.pend.take i).filter fun j=>decide 7e50).map V.int):=⟨_,fun _ _ _=>rfl⟩;refine kQ (ys:=S.pend.map V.int) Pw ?_ ?_ ?_ ?_ ?_
   ·rw[UQ];exact⟨rfl,rfl⟩
   ·intro i xs G' h;rw[UQ] at h;have:=Γ8 (fun j=>decide 7e50) (S.pend.take i);rw[h.2,Γ];rw[Α3] at this;omega
   ·intro i xs G' h;rw[UQ] at h;rw[h.1];exact eY.of M1.ho
   ·intro i y xs G' hi ey h;rw[UQ] at h;obtain⟨rfl,rfl⟩:=h;rw[Ψ] at ey;obtain⟨j0,ej,rfl⟩:=ϗ.mp ey
    exists bA,Α8,f1,Ac
    refine⟨rfl,Bk ws,?_⟩;rw[UQ,UQ,Fq ej];split
    ·next h=>exact⟨rfl,(if_pos 7e16).symm⟩
    ·next h=>exact⟨rfl,(if_neg 7e16).symm⟩
   intro xs G' h p3 XY;rw[UQ,Γ,ϝ,BQ M1.asc] at h;obtain⟨rfl,rfl⟩:=h;clear UQ Pw;have N2:=q0D (o:=.lst 8e2) XY;have f3:Ul G' p3 (.lst 8e2) p3=some (.lst 8e2):=aA;obtain⟨w1,w2,w3⟩:=F1.new XY;have fp3:H p3=none:=N1.cJ XY;replace F1:=F1.kp N2;replace M1:=M1.kp N2;replace e1:=N2.at e1;replace Uz:=N2.at Uz;replace f2:=N2.at f2;replace N1:=N1.trans N2;generalize Ul G' p3 (.lst 8e2)=G1 at *;have KM:Kp [A0.md] G1 G1:=Kp.refl;have TM:aD G1 G1:=fun _ _ e=>e;have Wr:=Vh
   exists Uz
   refine⟨by omega,?_⟩;refine M1.six Uz (k:="awaited") 3e0 ZZ Wr KM TM 0e0 5e33 fun G2 M2 Xe KM TM XD Xh XH=>?_;replace f2:=XD f2 4e1;replace f3:=XD f3 4e1;replace e1:=XD e1 4e1;clear XD Xh XH Uz Vu;right;obtain⟨VJ,M2,Xe,d1,d2,d3,da,dm⟩:∃ VJ:Str->Option V,cX G2 A0.md A0.nd A0.od A0.dd VJ S/\(∀ k∈OK6,∃ v,VJ k=some v)/\VJ "code"=some 6e11/\VJ "at"=some 8e6/\VJ "letters"=some 9e13/\VJ "awaited"=some 5e33/\VJ "mode"=some 2e55:=⟨_,M2,Xe,(eK).trans c1,(eK).trans c2,(eK).trans c3,vY,(eK).trans (by rw[sn] at c4;exact c4)⟩;have kn2:(fE S.nm).length<=100000:=by rw[fE,Γ];exact b1
   refine cD fun R4 XQ=>?_;refine cQ fun RI Uu=>?_
   suffices fin:(bB S.ans ws=none/\bN S.pend ws≠[]->∀ G,6e35->RI [some 2e8,some 3e2,some 3e18,some 5e3] G)/\(¬ 3e40->∀ G,6e35->R4 [some 2e8,some 3e2,some 3e18,some 5e3] G) by
    obtain⟨X6,U0,Y7,t1,t2,t3,t4,t5,t6⟩:=M2.hm;have va:aX X6 1e31=some 5e33:=(Y7.2 _ 3e0).trans da
    exists f2
    refine fun q1 h1=>⟨_,Jq ((q0D h1).at f2) aA,?_⟩;generalize hg:Ul G2 q1 2e0=G3;have NQ:Kp [] G2 G3:=hg▸Kp.new h1;clear hg;replace M2:=M2.kp NQ;replace U0:=NQ.at U0;replace f2:=NQ.at f2;replace f3:=NQ.at f3;replace e1:=NQ.at e1;replace KM:=KM.trans (NQ.mono (T:=[A0.md]) 0e0);replace TM:=TM.trans 4e53
    exists U0,va
    split
    ·next hr =>
     have hf:bB S.ans ws=none:=by rw[mM];simpa using hr
     refine fun q2 h2=>⟨_,Jq ((q0D h2).at f3) aA,?_⟩;have NR:=q0D (o:=.lst []) h2;split
     ·next ho=>exact fin.1 ⟨hf,by simpa using ho⟩ _ ⟨M2.kp NR,NR.at e1,NR.at f2,NR.at f3,KM.trans (NR.mono 0e0),TM.trans 3e53⟩
     ·next ho=>exact fin.2 (fun z=>ho (by simpa using z.2)) _ ⟨M2.kp NR,NR.at e1,NR.at f2,NR.at f3,KM.trans (NR.mono 0e0),TM.trans 3e53⟩
    ·next hr=>exact fin.2 (fun z=>hr (by have:=z.1;rw[mM] at this;simpa using this)) _ ⟨M2,e1,f2,f3,KM,TM⟩
   clear KM TM M2 e1 f2 f3;refine⟨fun cw G3 ⟨M3,e1,f2,f3,KM,TM⟩=>Uu _ _ ?_,fun cw G3 ⟨M3,e1,f2,f3,KM,TM⟩=>?_⟩
   ·clear Uu RI;have os3:=Xe;obtain⟨Xc,U3,VX,_⟩:=M3.hm;obtain⟨y3,hy3⟩:=os3 "mode" 3e0;left
    exists U3
    refine⟨by omega,?_⟩;refine M3.six U3 (k:="mode") 3e0 hy3 os3 KM TM 0e0 (.str "wait") fun G4 M4 os4 KM TM Z2 TS3 Zk=>?_;replace f3:=Z2 f3 4e1;clear Z2 TS3 Zk U3 VX;right;wp_walk;have h1:one S 8e13=({S with sl:=.wait 9e21},[]):=by rw[jU rfl,hd,if_pos cw];rfl
    rw[h1] at q;refine q {A0 with aw:=p3} p G4 ((F1.RT sn p3).n8 7e19 os4 9e49 ((eK).trans d2) 8e49 ⟨vY,(eK).trans da,f3,w3⟩ 2e40 TM rfl F1.ps) (((Fm.of N1).trans 1e27).awN fp3 f3);rw[show b=A0.md by simpa using hb];obtain⟨kv,e,_⟩:=M4.hm;exact⟨.inl aZ.1,_,e⟩
   ·clear Uu RI;refine XQ _ _ ?_;clear XQ;clear R4;obtain⟨Xc,U3,VX,t1,t2,t3,t4,t5,t6⟩:=M3.hm;left
    exists U3,t1,f2,e1,M3.hn
    refine fun p4 h4=>?_;generalize hg:Ul G3 p4 1e53=G4;have N4:Kp [] G3 G4:=hg▸Kp.new h4;have e4:G4 p4=some 1e53:=hg▸aA;clear hg;replace M3:=M3.kp N4;replace U3:=N4.at U3;replace f2:=N4.at f2;replace e1:=N4.at e1;replace KM:=KM.trans (N4.mono (T:=[A0.md]) 0e0);replace TM:=TM.trans 2e2
    exists f2,e4
    refine⟨by have:=Gz S.ans ws;rw[Γ];omega,fun p5 h5=>?_⟩;rw[Jr];have N5:=q0D (o:=.lst 6e41) h5;replace M3:=M3.kp N5;replace U3:=N5.at U3;replace e1:=N5.at e1;replace KM:=KM.trans (N5.mono (T:=[A0.md]) 0e0);replace TM:=TM.trans (aD.nil N5);generalize Ul G4 p5 (.lst 6e41)=G5 at *
    exists U3,t1,e1,M3.hn,gG
    refine⟨by omega,?_⟩;have M6:=M3.name x 5e10;have TN:aD G5 6e44:=aD.cU M3.hn;have KN:Kp [A0.md,A0.nd] G5 6e44:=Kp.set 0e0;replace KM:=(KM.mono (T:=[A0.md,A0.nd]) 0e0).trans KN;replace TM:=TM.trans TN;generalize Ul G5 A0.nd (.dK 3e15)=G6 at *;clear U3 VX t1 t2 t3 t4 t5 t6 N4 N5 TN KN;have os6:=Xe;right;obtain⟨kv6,em6,lk6,_⟩:=M6.hm;have vat:aX kv6 9e0=some 8e6:=(lk6.2 _ 3e0).trans d2;obtain⟨y6,hy6⟩:=os6 "at" 3e0
    exists em6,vat
    refine⟨by omega,?_⟩;refine M6.six em6 (k:="at") 3e0 hy6 os6 KM TM 0e0 9e47 fun G7 M7 os7 KM TM kp6 TS6 KS6=>?_;clear kp6 TS6 KS6 em6 lk6;have h1:one S 8e13=(({S with nm:=bZ S.nm x 5e10}:Pu).pass,[]):=by rw[jU rfl,hd,if_neg cw,if_pos (by rw[show(({S with nm:=bZ S.nm x 5e10}:Pu).sl)=S.sl from rfl,sn];rfl)]
    rw[h1] at q;have VI:=F1.ps.pass st;rw[JR rfl] at VI;refine q A0 (p+1) G7 (F1.n8 4e40 os7 9e49 vY 8e49 ?_ (fun b o e hb=>KM b o e (by have:=F1.far hb;simp[this.1,this.2.1])) TM rfl VI) 2e27
    ·show eT _ _ _ S.sl;rw[sn] at c4 ⊢;exact(eK).trans dm
    ·simp only[Α,Δ,Φ] at hb;rcases hb with rfl|rfl
     ·obtain⟨kv,e,_⟩:=M7.hm;exact⟨.inl aZ.1,_,e⟩
     ·exact⟨.inl aZ.2.1,_,M7.hn⟩
theorem Ar:Ok T (T.r 60) 1 (Dw (fun m=>∃ x k,m=.Ur x k)):=by
 nomatch T.r 60
 ·obtain⟨P0,A0,S,p,v,m,rfl,_⟩:=h;rfl
 ·obtain⟨P0,A0,S,p,v,m,rfl,F,sn,hs,gm,g,st,hP,b1,b2,b3,q⟩:=h;have hu:=lF hr
  nomatch (pss3 (pif (ptc 8e30 (rB hu 4e0 5e0 8e0 ⟨rfl,rfl,rfl,rfl⟩) 8e0) (pss2 3e17 tL)) (ppt 4e0 5e0 3e36) 1e16),0
  obtain⟨x,k,rfl⟩:=gm;cases hs with
  | @Ur a x k e1 =>
   obtain⟨ot,M0,Vh,c1,c2,c3,c4⟩:=F.ex;obtain⟨lk,ml,el,hl,Y6,hq⟩:=F.lt;obtain⟨UE,Ux,US,t1,t2,t3,t4,t5,t6⟩:=M0.hm;have vl:aX UE 2e17=some 9e13:=(US.2 _ 3e0).trans c3;have kn2:(fE S.nm).length<=100000:=by rw[fE,Γ];exact b1
   refine cD fun R1 ZD=>?_;refine cQ fun RI Uu=>?_
   suffices fin:((aM S.lt k).getD []=[]->∀ G,Kp [] H G->RI [some 2e8,some 3e2] G)/\(∀ w r l,(aM S.lt k).getD []=w::r->aX lk 2e3=some 0e35->l∈A0.las->∀ G,G l=some (.lst ((w::r).map wv))->Kp [] H G->R1 [some 2e8,some 3e2] G) by
    exists Ux,vl,e1,el
    refine fun p1 h1=>?_;have N1:=q0D (o:=.lst []) h1;have e0:Ul H p1 2e0 p1=some 2e0:=aA;have hl':=hl.keep 6e29;have el':=N1.at el;obtain⟨l,ws,hv,WA,Vo,hx⟩:∃ l ws,(aX lk 2e3).getD 3e18=.ref l/\Ul H p1 2e0 l=some 0e8/\(aM S.lt k).getD []=ws/\(ws≠[]->aX lk 2e3=some 0e35/\l∈A0.las):=by
     rcases hl'.look k with⟨z1,z2⟩|⟨l,ws,z1,z2,z3,z4⟩
     ·exact⟨p1,[],by rw[z1];rfl,e0,by rw[<- hq k,z2];rfl,fun z=>absurd rfl z⟩
     ·exact⟨l,ws,by rw[z1];rfl,z4,by rw[<- hq k,z2];rfl,fun _=>⟨z1,z3⟩⟩
    generalize Ul H p1 2e0=G1 at *
    exists el',hv
    refine fun p2 h2=>?_;have N2:=q0D (o:=.lst []) h2;have Xl:=N2.at WA;refine⟨_,Jq Xl aA,?_⟩;cases ws with
    | nil=>exact fin.1 Vo _ 7e51
    | cons w r =>
     obtain⟨x1,x2⟩:=hx 0e0;exact fin.2 w r l Vo x1 x2 _ Xl 7e51
   refine⟨fun hn G1 N1=>Uu _ _ ?_,fun w r l hn hv hll G1 Xu N1=>?_⟩
   ·clear Uu RI;have M1:=M0.kp N1;have Wr:=Vh;have KM:Kp [A0.md] G1 G1:=Kp.refl;have TM:aD G1 G1:=fun _ _ e=>e;have F1:=F.kp N1;obtain⟨UW,Uz,Vu,_⟩:=M1.hm;obtain⟨y1,ZZ⟩:=Wr "mode" 3e0;left
    exists Uz
    refine⟨by omega,?_⟩;refine M1.six Uz (k:="mode") 3e0 ZZ Wr KM TM 0e0 (.str "hear") fun G2 M2 Xe KM TM XD Xh XH=>?_;clear XD Xh XH Uz Vu;right;wp_walk;have h1:one S 0e12=({S with sl:=.Ur k},[]):=by
     have:bT S 0e12=({S with sl:=.Ur k},[]):=by simp only[bT,hn]
     rw[jU rfl,this];rfl
    rw[h1] at q;refine q A0 p G2 (F1.n8 (M2.as ⟨rfl,rfl,rfl,rfl,rfl,rfl⟩) Xe 6e31 0e50 5e31 vY 2e40 TM rfl F1.ps) 2e27;rw[show b=A0.md by simpa using hb];obtain⟨kv,e,_⟩:=M2.hm;exact⟨.inl aZ.1,_,e⟩
   ·clear Uu RI;refine ZD _ _ ?_;clear ZD;clear R1;have F1:=F.kp N1;have M1:=M0.kp N1;replace Ux:=N1.at Ux;replace e1:=N1.at e1;replace el:=N1.at el;replace hl:=hl.keep 6e29;left
    exists Ux,t1,vl,el,e1,M1.hn,hv,Xu
    rw[show(wv w::r.map wv).tail=r.map wv from rfl];obtain⟨g1,g2,g3,g4⟩:=F1.s2 l hll;have fl:=F1.far (.inr (.inr (.inr hll)));have M2:=M1.other (vs:=r.map wv) Xu g1 g2;have Xl:=hl.set r hv F1.nl;have KM:Kp [A0.md,A0.nd,l] G1 (Ul G1 l 3e13):=Kp.set 0e0;have TM:aD G1 (Ul G1 l 3e13):=aD.cU Xu;replace Ux:=cZ (u:=.lst 2e28) Xu Ux;replace el:=cZ (u:=.lst 2e28) Xu el;replace e1:=TM _ _ e1;have Zr:Ul G1 l 3e13 l=some 3e13:=aA;generalize Ul G1 l 3e13=G2 at *
    exists Ux,t1,e1,M2.hn,gG
    refine⟨by omega,?_⟩;have M3:=M2.name x w;have TN:aD G2 7e44:=aD.cU M2.hn;have KN:Kp [A0.md,A0.nd,l] G2 7e44:=Kp.set 0e0;replace el:Ul G2 A0.nd (.dK 4e2) A0.ld=some (.dK lk):=by rw[aE F.n2.symm];exact el
    replace Zr:=cZ (u:=.dK 4e2) M2.hn Zr;replace Xl:=Xl.keep (H':=Ul G2 A0.nd (.dK 4e2)) (fun a ha o e=>by rw[aE (F1.far 1e45).2.1];exact e);replace KM:=KM.trans KN;replace TM:=TM.trans TN;generalize Ul G2 A0.nd (.dK 4e2)=G3 at *;clear Ux US t1 t2 t3 t4 t5 t6 TN KN;have os3:=Vh;right;obtain⟨Xc,U3,VX,_⟩:=M3.hm;have vat:aX Xc 9e0=some 8e6:=(VX.2 _ 3e0).trans c2;obtain⟨y3,hy3⟩:=os3 "at" 3e0
    exists U3,vat
    refine⟨by omega,?_⟩;refine M3.six U3 (k:="at") 3e0 hy3 os3 KM TM 0e0 9e47 fun G4 M4 os4 KM TM Z2 TS3 Zk=>?_;replace el:=Zk _ _ el (by simp[F.n1.symm]);replace Zr:=Z2 Zr 4e1;replace Xl:=Xl.keep fun a ha o e=>Zk a o e (by simp[(F1.far 1e45).1]);clear Z2 TS3 Zk U3 VX;have h1:one S 0e12=(({S with nm:=bZ S.nm x w,lt:=dJ S.lt k r}:Pu).pass,[]):=by
     have:bT S 0e12=({S with nm:=bZ S.nm x w,lt:=dJ S.lt k r},[]):=by simp only[bT,hn]
     rw[jU rfl,this,if_pos (by rw[show(({S with nm:=bZ S.nm x w,lt:=dJ S.lt k r}:Pu).sl)=S.sl from rfl,sn];rfl)]
    rw[h1] at q;have VI:=F1.ps.pass st;rw[JR rfl] at VI;refine q A0 (p+1) G4 (F1.M9 7e19 os4 6e31 vY 5e31 ?_ 6e30 TM ⟨lk,_,el,Xl,⟨by rw[nG];exact Y6.1,by rw[mQ];exact Y6.2⟩,fun j=>?_⟩ VI F1.nl F1.s2) 2e27
    ·show eT _ _ _ S.sl;rw[sn] at c4 ⊢;exact(eK).trans c4
    ·have UT:b=A0.cl\/b∈A0.cs\/b=A0.ld\/b∈A0.las:=hb.elim .inl 2e45;have hf:=F1.far UT;refine KM b o e ?_;simp only[Α,Δ,Φ,not_or];refine⟨hf.1,hf.2.1,fun z=>?_⟩;subst z;rcases hb with hb|hb
     ·exact g3 hb
     ·exact g4 hb
    ·show _=(aM (dJ S.lt k r) j).getD [];rw[uO hn,uO (by rw[hq k];exact hn),hq j]
    ·simp only[Α,Δ,Φ] at hb;rcases hb with rfl|rfl|rfl
     ·obtain⟨kv,e,_⟩:=M4.hm;exact⟨.inl aZ.1,_,e⟩
     ·exact⟨.inl aZ.2.1,_,M4.hn⟩
     ·exact⟨.inl (by simp[Fa.mut,hll]),_,Zr⟩
theorem pD:Ok T (T.r 56) 1 EH:=by
 nomatch T.r 56
 ·obtain⟨md,nd,od,dd,ot,S,x,rfl,_⟩:=h;rfl
 ·obtain⟨md,nd,od,dd,ot,S,x,rfl,M,b1,b2,b3,q⟩:=h
  nomatch (aI 1e16 (pss3 (aO (dS 4e0 (bH i9 4e0 aB))) (ppt 4e0 pv1 (bH i9 4e0 aB)) (aK (bH i9 4e0 aB)))),0
  obtain⟨kvs,em,lk,v1,v2,v3,v4,v5,v6⟩:=M.hm;left
  exists em,v4
  have M1:=M.made em;have K1:Kp [md,nd,od] H (Ul H md 7e37):=Kp.set 0e0;refine⟨by omega,?_⟩;generalize Ul H md 7e37=G1 at *;right;left;obtain⟨UW,Uz,Vu,x1,x2,x3,x4,x5,x6⟩:=M1.hm;have e4:((({S with made:=S.made+1}:Pu).made:Nat):Int) - 1=(S.made:Int):=by show((S.made+1:Nat):Int) - 1=_;omega
  exists Uz,x5,M1.ho,x4,e4
  refine⟨by rw[Γ];show S.pend.length < _;omega,?_⟩;have ea:S.pend.map V.int++[V.int (S.made:Int)]=(S.pend++[(S.made:Int)]).map V.int:=by simp
  rw[show({S with made:=S.made+1}:Pu).pend=S.pend from rfl,ea];have M2:=M1.open (pd:=S.pend++[(S.made:Int)]) (List.pairwise_append.mpr ⟨M.asc,by simp,fun i hi j hj=>by rw[show j=(S.made:Int) by simpa using hj];exact(M.lt i hi).2⟩) (fun i hi=>by
   rcases Κ.mp hi with hi|hi
   ·have:=M.lt i hi;exact⟨this.1,by show i < ((S.made+1:Nat):Int);omega⟩
   ·rw[show i=(S.made:Int) by simpa using hi];exact⟨by omega,by show(S.made:Int) < ((S.made+1:Nat):Int);omega⟩) (fun p hp hi=>by
   have d:=M.dis p hp;rcases Κ.mp hi with hi|hi
   ·exact d.1 hi
   ·have:p.1=(S.made:Int):=by simpa using hi
    omega)
  have K2:Kp [md,nd,od] H _:=K1.trans (Kp.set (p:=od) (o:=.lst 8e40) 0e0);generalize Ul G1 od (.lst 8e40)=G2 at *;right;left;obtain⟨X6,U0,Y7,y1,y2,y3,y4,y5,y6⟩:=M2.hm;have ep:aS 2e33 (.inr x) 5e47=fE (bZ S.nm x 4e7):=gG S.nm x 4e7;have l1:(fE S.nm).length<=100000:=by rw[fE,Γ];exact b3
  have XX:G2 nd=some (.dK 2e33):=M2.hn
  exists U0,y1,y4,e4,XX,ep
  refine⟨by omega,?_⟩;have M3:=M2.name x 4e7;have K3:Kp [md,nd,od] H _:=K2.trans (Kp.set (p:=nd) (o:=.dK 1e30) 0e0);replace M3:cX (Ul G2 nd (.dK 1e30)) md nd od dd ot (S.qR x):=M3;generalize Ul G2 nd (.dK 1e30)=G3 at *;right;obtain⟨Xc,U3,VX,z1,z2,z3,z4,z5,z6⟩:=M3.hm
  exists U3,z4
  rw[show(((S.qR x).made:Nat):Int) - 1=(S.made:Int) from by show((S.made+1:Nat):Int) - 1=_;omega];exact q G3 M3 K3
theorem xZ:Ok T (T.r 58) 10 MI:=by
 nomatch T.r 58
 ·obtain⟨md,nd,od,dd,op,ot,v,S,m,us,cs,rfl,_⟩:=h;rfl
 ·obtain⟨md,nd,od,dd,op,ot,v,S,m,us,cs,rfl,M,hs,UU,g,hP,b1,b2,b3,eo,hC,b4,XE,Xd,q⟩:=h
  nomatch (pss3 (pst 3 5e0) (pst 4 (pcl 6e24 9e18 (pa2 7e12 pv0))) (fZ 2e4 (aG (ppt 4e0 5e0 pv4)) (aG (fZ 2e4 (pss2 (pst 5 (aW 4e24 rfl T.GS zX (pa2 4e4 (bH cR 4e0 (aW 3e14 rfl T.AU oB (pa2 aB 8e48)))))) (aO (dS pv2 (aV (pa3 aC 9e40 pv5))))) (aG (fZ 2e4 (aG (aO (dS pv2 (aV (c0 aC (pa3 (pcl 6e24 9e18 (pa2 5e0 pv0)) 5e0 pv4)))))) (aG (fZ 2e4 (aG (pif (eC jV pv4 4e0 0e4) (pss2 (aO (pH PySem.F.slot_list_remove PySem.F.type_list_remove II 4e0 (pa1 pv4))) (aO (dS pv2 (aV (pa2 aC pv4))))))) (aG (aO (dS pv2 (aV (c0 pv3 (pa3 9e40 5e0 pv4)))))))))))))),0
  cases hs with
  | @set a x v s e1 h1 =>
   have i1:gL [V.str "set",.str x,v] (-1)=some v:=rfl;left
   exists e1
   right;left
   exists e1,i1
   refine⟨v,md,nd,od,dd,ot,S,s,rfl,h1,g.2,g.1,M,hP,fun H1 K1=>?_⟩;have M1:=M.kp K1;have e2:=K1.at e1;have Vb:=K1.at eo;have Wy:=hC.kt 6e4;have T1:=aD.nil K1;obtain⟨kvs,em,lk,v1,v2,v3,v4,v5,v6⟩:=M1.hm;right;have l1:(fE S.nm).length<=100000:=by rw[fE,Γ];exact b3
   exists em,v1,M1.hn,e2,gG
   refine⟨by omega,?_⟩;have M2:=M1.name x 9e1;have t2:aD H1 (Ul H1 nd (.dK 2e30)):=aD.cU M1.hn;exact q _ us M2 (cZ M1.hn Vb) (by show jF _ us (cs++[]);rw[ϛ];exact Wy.kt t2) ((K1.mono 0e0).trans (Kp.set 0e0))
  | @order a x y v s e1 h1 =>
   have i1:gL [V.str "order",.str x,.str y,v] (-1)=some v:=rfl;left
   exists e1
   right;left
   exists e1,i1
   refine⟨v,md,nd,od,dd,ot,S,s,rfl,h1,g.2,g.1,M,hP,fun H1 K1=>?_⟩;have M1:=M.kp K1;have e2:=K1.at e1;have Vb:=K1.at eo;have Wy:=hC.kt 6e4;have T1:=aD.nil K1;obtain⟨kvs,em,lk,v1,v2,v3,v4,v5,v6⟩:=M1.hm;right
   exists e2,Vb
   refine⟨md,nd,od,dd,ot,S,x,rfl,M1,b1,b2,b3,fun H2 M2 K2=>?_⟩;have T2:aD H1 H2:=M1.tk K2 3e25;have Wx:=T2 _ _ e2;have Vj:=K2 _ _ Vb 9e31;have Xw:=Wy.kt T2;have KK:Kp [md,nd,od,op] H H2:=(K1.mono 0e0).trans (K2.mono 0e0)
   exists Wx,Vj
   refine fun p hp=>?_;generalize hg:Ul H2 p 4e38=G3;have N3:Kp [] H2 G3:=hg▸Kp.new hp;have e3:G3 p=some 4e38:=hg▸aA;clear hg;have Ve:=N3.at Vj;have M3:=M2.kp N3;have Vl:=Xw.kt 4e6;have K3:=KK.trans (N3.mono (T:=[md,nd,od,op]) 0e0)
   exists Ve
   refine⟨by omega,?_⟩;have t4:aD G3 5e15:=aD.cU Ve;exact q _ _ 6e16 aA 6e15 2e16
  | @child a x y v s e1 h1 =>
   have i1:gL [V.str "child",.str x,.str y,v] (-1)=some v:=rfl;left
   exists e1
   right;left
   exists e1,i1
   refine⟨v,md,nd,od,dd,ot,S,s,rfl,h1,g.2,g.1,M,hP,fun H1 K1=>?_⟩;have M1:=M.kp K1;have e2:=K1.at e1;have Vb:=K1.at eo;have Wy:=hC.kt 6e4;have T1:=aD.nil K1;obtain⟨kvs,em,lk,v1,v2,v3,v4,v5,v6⟩:=M1.hm;right
   exists e2,Vb
   refine⟨md,nd,od,dd,ot,S,x,rfl,M1,b1,b2,b3,fun H2 M2 K2=>?_⟩;have T2:aD H1 H2:=M1.tk K2 3e25;have Wx:=T2 _ _ e2;have Vj:=K2 _ _ Vb 9e31;have Xw:=Wy.kt T2;have KK:Kp [md,nd,od,op] H H2:=(K1.mono 0e0).trans (K2.mono 0e0)
   exists Wx,Vj
   refine fun p hp=>?_;generalize hg:Ul H2 p 5e38=G3;have N3:Kp [] H2 G3:=hg▸Kp.new hp;have e3:G3 p=some 5e38:=hg▸aA;clear hg;have Ve:=N3.at Vj;have M3:=M2.kp N3;have Vl:=Xw.kt 4e6;have K3:=KK.trans (N3.mono (T:=[md,nd,od,op]) 0e0)
   exists Ve
   refine⟨by omega,?_⟩;have t4:aD G3 5e15:=aD.cU Ve;exact q _ _ 6e16 aA 6e15 2e16
  | @UA a x v s e1 h1 =>
   have i1:gL [V.str "timer",.str x,v] (-1)=some v:=rfl;left
   exists e1
   right;left
   exists e1,i1
   refine⟨v,md,nd,od,dd,ot,S,s,rfl,h1,g.2,g.1,M,hP,fun H1 K1=>?_⟩;have M1:=M.kp K1;have e2:=K1.at e1;have Vb:=K1.at eo;have Wy:=hC.kt 6e4;have T1:=aD.nil K1;obtain⟨kvs,em,lk,v1,v2,v3,v4,v5,v6⟩:=M1.hm;right
   exists e2,Vb,em,v3,Nu
   refine⟨md,nd,od,dd,ot,S,x,rfl,M1,b1,b2,b3,fun H2 M2 K2=>?_⟩;have T2:aD H1 H2:=M1.tk K2 3e25;have Wx:=T2 _ _ e2;have Vj:=K2 _ _ Vb 9e31;have Xw:=Wy.kt T2;have KK:Kp [md,nd,od,op] H H2:=(K1.mono 0e0).trans (K2.mono 0e0)
   exists Wx,Vj
   refine fun p hp=>?_;generalize hg:Ul H2 p 6e37=G3;have N3:Kp [] H2 G3:=hg▸Kp.new hp;have e3:G3 p=some 6e37:=hg▸aA;clear hg;have Ve:=N3.at Vj;have M3:=M2.kp N3;have Vl:=Xw.kt 4e6;have K3:=KK.trans (N3.mono (T:=[md,nd,od,op]) 0e0)
   exists Ve
   refine⟨by omega,?_⟩;have t4:aD G3 5e15:=aD.cU Ve;exact q _ _ 6e16 aA 6e15 2e16
  | @send a k v u s r e1 h1 h2 =>
   have i1:gL [V.str "send",v,.str k,u] (-1)=some u:=rfl;left
   exists e1
   right;left
   exists e1,i1
   refine⟨u,md,nd,od,dd,ot,S,r,rfl,h2,g.2.2,g.2.1,M,hP,fun H1 K1=>?_⟩;have M1:=M.kp K1;have e2:=K1.at e1;have Vb:=K1.at eo;have Wy:=hC.kt 6e4;have T1:=aD.nil K1;obtain⟨kvs,em,lk,v1,v2,v3,v4,v5,v6⟩:=M1.hm;right
   exists e2,Vb
   refine⟨v,md,nd,od,dd,ot,S,s,rfl,h1.kp T1,g.1.2,g.1.1,M1,hP,fun H2 K2=>?_⟩;have M2:=M1.kp K2;have Wx:=K2.at e2;have Vj:=K2.at Vb;have Xw:=Wy.kt 4e32;have KK:Kp [md,nd,od,op] H H2:=(K1.trans K2).mono 0e0
   exists Wx,Vj
   refine fun p hp=>?_;generalize hg:Ul H2 p 3e38=G3;have N3:Kp [] H2 G3:=hg▸Kp.new hp;have e3:G3 p=some 3e38:=hg▸aA;clear hg;have Ve:=N3.at Vj;have M3:=M2.kp N3;have Vl:=Xw.kt 4e6;have K3:=KK.trans (N3.mono (T:=[md,nd,od,op]) 0e0)
   exists Ve
   refine⟨by omega,?_⟩;have t4:aD G3 5e15:=aD.cU Ve;exact q _ _ 6e16 aA 6e15 2e16
  | @drop a v s e1 h1 =>
   have i1:gL [V.str "drop",v] (-1)=some v:=rfl;left
   exists e1
   right;left
   exists e1,i1
   refine⟨v,md,nd,od,dd,ot,S,s,rfl,h1,g.2,g.1,M,hP,fun H1 K1=>?_⟩;have M1:=M.kp K1;have e2:=K1.at e1;have Vb:=K1.at eo;have Wy:=hC.kt 6e4;have T1:=aD.nil K1;obtain⟨kvs,em,lk,v1,v2,v3,v4,v5,v6⟩:=M1.hm;right
   exists em,v5,M1.ho,Rj
   refine⟨tP _,nA _,?_⟩;have KK:Kp [md,nd,od,op] H H1:=K1.mono 0e0;by_cases hp:∃ i,i∈S.pend/\S.worth s=some i
   ·rw[if_pos hp];obtain⟨i,hi,hw⟩:=hp;have hwv:wv 9e1=.int i:=by rw[hw];rfl
    have hd:bT S 6e18=({S with pend:=S.pend.filter fun j=>decide 4e9},[[.str "drop",.int i]]):=by simp only[bT,hw,if_pos hi]
    rw[hd] at q;obtain⟨k,hk⟩:=Ey hi;have ef:=kP M.asc hk;rw[hwv];wp_walk;refine⟨S.pend,M1.ho,?_⟩
    exists hk
    rw[ef];have M2:=M1.open (pd:=S.pend.filter fun j=>decide 4e9) (M.asc.filter _) (fun j hj=>M.lt j 5e17) (fun p hp hj=>(M.dis p hp).1 5e17);have T2:aD H1 7e45:=aD.cU M1.ho;have Vj:Ul H1 od (.lst 5e9) op=some 5e18:=by rw[aE XE];exact Vb
    have Xw:=Wy.kt T2;have K2:Kp [md,nd,od,op] H 7e45:=KK.trans (Kp.set 0e0);generalize Ul H1 od (.lst 5e9)=G2 at *
    exists Vj,hwv
    refine fun p hp=>?_;generalize hg:Ul G2 p 2e43=G3;have N3:Kp [] G2 G3:=hg▸Kp.new hp;have e3:G3 p=some 2e43:=hg▸aA;clear hg;have Ve:=N3.at Vj;have M3:=M2.kp N3;have Vl:=Xw.kt 4e6;have K3:=K2.trans (N3.mono (T:=[md,nd,od,op]) 0e0)
    exists Ve
    refine⟨by omega,?_⟩;have t4:aD G3 5e15:=aD.cU Ve;exact q _ _ 6e16 aA 6e15 2e16
   ·rw[if_neg hp];have hd:bT S 6e18=(S,[]):=by
     cases hw:S.worth s with
     | none=>simp only[bT,hw]
     | some i=>simp only[bT,hw,if_neg (show ¬ i∈S.pend from fun z=>hp ⟨i,z,hw⟩)]
    rw[hd] at q;wp_walk;exact q _ us M1 Vb (by show jF _ us (cs++[]);rw[ϛ];exact Wy) KK
  | _=>cases UU
theorem BJ:Ok T (T.r 61) 14 MG:=by
 nomatch T.r 61
 ·obtain⟨P0,A0,S,p,op,N,rfl,_⟩:=h;rfl
 ·obtain⟨P0,A0,S,p,op,N,rfl,F,O,FT,lN,q⟩:=h
  nomatch (pss3 (pst 2 aB) 3e17 (pJ Δ6 (ptc aY 4e0 aC) (aI (pif (ptc aY 4e0 (aW cK rfl T.jW eV (pa1 4e0))) (pss2 (aO (pcl (rR T) 2e34 (pa3 pv0 cI pv1))) tL)) (aI (lA (pix aN 4e0 4e0) (Ji rfl (fP 9e24 (fP (pgn 4) (fP (pgn 5) (fP (pgn 6) tK)))))) (aI (pif 2e4 (pss2 (ppt pv0 aC pv6) BW)) (pss3 (pif 4e31 (aI 3e17 (pss3 (ppt pv0 aC 8e0) (aO (dS pv1 1e8)) tL))) (pst 2 (bH cR pv2 aB)) (fZ (eC jV pv3 0e13 0e4) (aG (ppt pv0 aC (pix aN (aU (pa2 pv6 (bH cR 4e0 aB))) (bF gP rfl T.yE lW (pa1 (pcr BP (Ax 0e38 (mK aB)) aB)))))) (aG (fZ 2e4 (aG (aO (pcl (As T) (T.r 59) 8e50))) (aG (fZ 2e4 (aG (aO (pcl (Ar T) (T.r 60) 8e50))) (aG (fZ 2e4 (aG (aO (pcl (rR T) 2e34 (pa3 pv0 0e38 pv1)))) (pss2 (aO (pcl (xZ T) (T.r 58) (pa3 pv0 pv4 pv1))) 1e16)))))))))))))),0
  left;wp_walk;right;obtain⟨ot,M0,Vh,c1,c2,c3,c4⟩:=F.ex;have KM:Kp [A0.md] H H:=Kp.refl;have TM:aD H H:=fun _ _ e=>e;obtain⟨UE,Ux,US,_⟩:=M0.hm;obtain⟨y0,ZY⟩:=Vh "mode" 3e0;left
  exists Ux
  refine⟨by omega,?_⟩;refine M0.six Ux (k:="mode") 3e0 ZY Vh KM TM 0e0 2e55 fun G1 M1 Wr KM TM YD Yi Zj=>?_;clear YD Yi Zj Ux US;right;obtain⟨S0,hS0⟩:∃ S0:Pu,S0={S with sl:=.Um}:=⟨_,rfl⟩;rw[<- hS0] at q FT;have F1:bQ P0 G1 A0 S0 p:=by
   rw[hS0];exact F.n8 (M1.as ⟨rfl,rfl,rfl,rfl,rfl,rfl⟩) Wr 6e31 0e50 5e31 vY (fun b o e hb=>KM.at1 e (F.far hb).1) TM rfl F.ps
  have O1:gY G1 A0 op []:=by
   obtain⟨us,eo,hC,s1,s2,s3⟩:=O;exact⟨us,KM.at1 eo (fun z=>s1 0e23),hC.kt TM,s1,s2,s3⟩
  have W1:Fm [op] A0 A0 H G1:=Fm.ofK KM fun b hb=>by
   rw[show b=A0.md by simpa using hb];obtain⟨kv,e,_⟩:=M1.hm;exact⟨.inl aZ.1,_,e⟩
  have sn0:S0.sl=.Um:=by rw[hS0]
  clear hS0 F O M0 M1 Vh Wr c1 c2 c3 c4 KM TM;refine Hy fun tb Y5=>?_;obtain⟨Y,hY⟩:∃ Y:Nat->St->Hp->Prop,∀ m Z G,Y m Z G=E9 fun(w3 w4 w5 w6:Option V) (S1:Pu) (A1:Fa) (p1 i:Nat) (cs:Cmds)=>A7 (Z=[some 2e8,some 4e18,some (.int (i:Int)),w3,w4,w5,w6]) (bQ P0 G A1 S1 p1) (gY G A1 op cs) (Fm [op] A0 A1 H G) (i<=300) (cs.length<=i) ((S1.sl=.Um/\dX 300 S0=((dX (300 - i) S1).1,cs++(dX (300 - i) S1).2)/\Uy true S1.bD (N+i)/\m=0e24 * 1000+S1.stk.length\/S1.sl.isN=false/\dX 300 S0=(S1,cs)/\m=0)):=⟨_,fun _ _ _=>rfl⟩;refine⟨Y,⟨_,(hY _ _ _).mpr ⟨none,none,none,none,S0,A0,p,0,[],rfl,F1,O1,W1,by omega,by simp,.inl ⟨sn0,by simp,FT.bD sn0,rfl⟩⟩⟩,?_⟩;intro m Z G hG;rw[hY] at hG;obtain⟨w3,w4,w5,w6,S1,A1,p1,i,cs,rfl,F1,O1,W1,hi,lc,hg⟩:=hG;obtain⟨ot,M1,Wr,c1,c2,c3,c4⟩:=F1.ex;obtain⟨UW,Uz,Vu,t1,t2,t3,t4,t5,t6⟩:=M1.hm;have Vz:A1.md=A0.md:=W1.m1.1;rw[Vz] at Uz;have vm:aX UW 3e11=some (.str S1.sl.md):=(Vu.2 _ 3e0).trans c4.md;have va:aX UW 9e0=some (.int p1):=(Vu.2 _ 3e0).trans c2;have vc:aX UW 4e11=some (.ref A1.cl):=(Vu.2 _ 3e0).trans c1
  exists Uz,vm,Rw
  rcases hg with⟨sn,hg,Wc,rfl⟩|⟨sn,hg,rfl⟩
  ·rw[if_pos (by rw[sn];rfl)];refine⟨fun Z' G'=>∃ m',m' < 0e24 * 1000+S1.stk.length/\Y m' Z' G',fun _ _ z=>z,?_⟩;refine Y5 _ _ _ ?_;clear Y5 tb;have lcl:(A1.cs.map V.ref).length=(iK P0).length:=by rw[Γ,F1.co.len]
   have Wf:=F1.cl;rcases Ps.turn _ S1.stk p1 rfl F1.ps with⟨ep,es,VI⟩|⟨m,es,VI⟩|⟨UL,p',pt,ec,VI,hcm,UN⟩
   ·skip;left;refine cQ fun RI Uu=>?_
    exists Uz,va,vc,Wf,lcl,ep
    refine Uu _ _ ?_;clear Uu RI;left;wp_walk;refine⟨P0,A1,S1.bD,p1,none,op,cs,by rw[Vz];rfl,F1.stk VI,O1,by omega,fun A' p2 G' F' O' W'=>?_⟩;wp_walk;right;wp_walk;refine q A' p2 G' ?_ ?_ (W1.trans W')
    ·rw[hg,oV es];exact F'
    ·rw[hg,oV es];exact O'
   ·obtain⟨pt,ec⟩:=VI.ent es;have pl:p1 < (iK P0).length:=(Μ.mp ec).1;obtain⟨a,ea,pa,XZ,sv,Vn,eA⟩:=F1.co.at ec;have ix:gL 1e48 (p1:Int)=some 3e2:=dQ 8e16;have pn:1e42=False:=by simp;omega
    have U0:=Uz;rw[<- Vz] at U0;have sT:bL S1.bD.stk=some m:=es;have nT:S1.bD.sl=.Um:=sn;replace F1:bQ P0 G A1 S1.bD p1:=F1.stk VI;have kj:((m.kw=("jump":Str)))=False:=by cases m<;>simp[Stm.kw,cH]
    have gm:=Wc.stm sT;left
    exists Uz,va,vc,Wf,lcl,pn
    right;left
    exists Uz,va,vc,Wf,ix
    refine⟨_,eY.of eA,rfl,?_⟩;wp_walk;right;left
    exists kj
    right;left;refine cQ fun RI Uu=>?_;wp_walk;by_cases hi3:i=300
    ·rw[if_pos 1e0];refine Uu _ _ ?_;clear Uu RI;rw[<- Vz];obtain⟨ot,M0,Vh,c1,c2,c3,c4⟩:=F1.ex;obtain⟨us,eo,hC,s1,s2,s3⟩:=O1;have lu:=hC.len;have F0:=F1;have e00:=eo;have KM:Kp [A1.md] G G:=Kp.refl;have TM:aD G G:=fun _ _ e=>e;obtain⟨UE,Ux,US,_⟩:=M0.hm;obtain⟨y0,ZY⟩:=Vh "mode" 3e0;left
     exists Ux
     refine⟨by omega,?_⟩;refine M0.six Ux (k:="mode") 3e0 ZY Vh KM TM 0e0 (.str "worn") fun GW1 M1 Wr KM TM YD Yi Zj=>?_;replace eo:=YD eo 4e1;replace hC:=hC.kt Yi;clear YD Yi Zj Ux US;right;left;obtain⟨UW,Uz,Vu,_⟩:=M1.hm
     exists Uz
     refine fun o2 UZ=>?_;generalize hg:Ul GW1 o2 2e0=GW1a;have N:Kp [] GW1 GW1a:=hg▸Kp.new UZ;have Vj:GW1a o2=some 2e0:=hg▸aA;clear hg;have Zx:G o2=none:=by
      cases e:G o2 with
      | none=>rfl
      | some o =>
       by_cases z:o2=A1.md
       ·rw[z,Uz] at UZ;cases UZ
       ·rw[KM.at1 e z] at UZ;cases UZ
     have Xd:op≠o2:=aF eo UZ;have nd2:o2≠A1.dd:=fun z=>by
      obtain⟨ds,ed,_⟩:=M1.hd;rw[z,ed] at UZ;cases UZ
     replace M1:=M1.kp N;replace Uz:=N.at Uz;replace eo:=N.at eo;replace hC:=hC.kt 5e1;replace KM:=KM.trans (N.mono (T:=[A1.md]) 0e0);replace TM:=TM.trans 5e1
     exists Uz
     refine⟨by omega,?_⟩;have M2:=M1.opn Uz Vj nd2;have XH:Kp [A1.md] GW1a 7e43:=Kp.jQ;have Xh:aD GW1a 7e43:=aD.cU Uz;replace eo:=cZ (u:=.dK 9e26) Uz eo;replace hC:=hC.kt Xh;replace KM:=KM.trans XH;replace TM:=TM.trans Xh;generalize Ul GW1a A1.md (.dK 9e26)=GW2 at *;clear XH Xh Uz Vu N UZ Vj;right;left
     exists eo
     refine fun pt W9=>?_;generalize hg:Ul GW2 pt 4e16=GW2b;have N:Kp [] GW2 GW2b:=hg▸Kp.new W9;have YY:GW2b pt=some 4e16:=hg▸aA;clear hg;replace M2:=M2.kp N;replace eo:=N.at eo;replace hC:=hC.kt 5e1;replace KM:=KM.trans (N.mono (T:=[A1.md]) 0e0);replace TM:=TM.trans 5e1
     exists eo
     refine⟨by omega,?_⟩;have T4:aD GW2b (Ul GW2b op 6e7):=aD.cU eo;have K4:Kp [op] GW2b (Ul GW2b op 6e7):=Kp.jQ;have hC4:=(hC.app 7e49).kt T4;right;have nod:op≠A1.dd:=fun z=>s1 4e21;have nom:op≠A1.md:=fun z=>s1 0e23;have M4:=M2.other (vs:=us++[.ref pt]) eo Xd nod;have KF:Kp [A1.md,op] G (Ul GW2b op 6e7):=fun b o e n=>K4.at1 (KM.at1 e 7e20) 7e20;obtain⟨w1,w2,w3⟩:=F0.new Zx;wp_walk;have ge:dX 300 S0=(S1.bD.pU.1,cs++S1.bD.pU.2):=by rw[hg,show 300 - i=0 by omega,yR sT]
     rw[ge] at q;refine q _ p1 _ (F0.asm (S':=S1.bD.pU.1) 7e19 Wr ?_ ?_ ?_ ?_ 6e30 6e51 rfl F0.ps w1 w2) ⟨_,aA,hC4,Rz s1 Xd,s2,s3⟩ (W1.trans 7e41)
     ·simp[cH,c1]
     ·simp[cH,c2]
     ·simp[cH,c3]
     ·show eT _ _ _ Slp.worn;simp[eT]
     ·obtain⟨a1,a2,a3,a4,a5⟩:=F0.D0 s1 s2 s3 hb;exact KF b o e 4e48
     ·simp only[Α,Δ,Φ] at hb;rcases hb with rfl|rfl
      ·obtain⟨kv,e,_⟩:=M4.hm;exact⟨.inl aZ.1,_,e⟩
      ·exact⟨.inr 0e0,_,aA⟩
    rw[if_neg 1e0];clear Uu RI;right;left;wp_walk;right;have back:∀(w3 w4 w5 w6:Option V) (A':Fa) (p':Nat) (G':Hp),bQ P0 G' A' (one S1.bD m).1 p'->gY G' A' op (cs++(one S1.bD m).2)->Fm [op] A1 A' G G'->∃ m',m' < 0e24 * 1000+S1.stk.length/\Y m' [some 2e8,some 4e18,some (.int ((i:Int)+1)),w3,w4,w5,w6] G':=fun w3 w4 w5 w6 A' p' G' F' O' W'=>by
     have FX:=Wc.one sT nT 1e0;have UC:=yQ sT (299 - i);rw[show 299 - i+1=300 - i by omega] at UC;have l1:=Eo S1.bD m;have l2:=L9 FX.sk.dp;by_cases hn:(one S1.bD m).1.sl.isN=true
     ·rw[if_pos hn] at UC;refine⟨(301 - 7e1) * 1000+(one S1.bD m).1.stk.length,by omega,(hY _ _ _).mpr ⟨w3,w4,w5,w6,(one S1.bD m).1,A',p',i+1,cs++(one S1.bD m).2,rfl,F',O',W1.trans W',by omega,by rw[Ν];omega,.inl ⟨nB hn,?_,FX.bD (nB hn),rfl⟩⟩⟩;rw[hg,UC,show 300 - 7e1=299 - i by omega,Α5]
     ·rw[if_neg hn] at UC;exact⟨0,by omega,(hY _ _ _).mpr ⟨w3,w4,w5,w6,(one S1.bD m).1,A',p',i+1,cs++(one S1.bD m).2,rfl,F',O',W1.trans W',by omega,by rw[Ν];omega,.inr ⟨by simpa using hn,by rw[hg,UC],rfl⟩⟩⟩
    clear hY;refine cQ fun RI Uu=>?_
    exists Rr
    refine fun pq hpq=>⟨rfl,rfl,?_⟩;generalize hg:Ul G pq (.lst [.str "if",.str "while"])=G2;have NQ:Kp [] G G2:=hg▸Kp.new hpq;clear hg;replace F1:=F1.kp NQ;replace O1:=O1.kp NQ;replace Vn:=Vn.kp 4e53;replace Uz:=NQ.at Uz;replace U0:=NQ.at U0;replace back:=fun w3 w4 w5 w6 A' p' G' F' O' W'=>back w3 w4 w5 w6 A' p' G' F' O' 9e45;have b1:=Wc.nm;have b2:=Wc.pd;have b3:=Wc.an;have b4:=Wc.md;split
    ·next hb =>
     refine Uu _ _ ?_;clear Uu RI;obtain⟨VJ,M2,Xe,d1,d2,d3,d4⟩:=F1.ex;cases Vn with
     | @UG a0 pb v s vs b e1 hv epb hbb =>
      obtain⟨gs,gb⟩:=gm;rw[show Sy (GR p1 (Stm.UG s b))=.int ((p1+bX b+2:Nat):Int) from rfl]
      exists Uz,va,e1
      refine fun pl hl=>?_;generalize hg:Ul G2 pl 5e19=G3;have NL:Kp [] G2 G3:=hg▸Kp.new hl;have el:G3 pl=some 5e19:=hg▸aA;clear hg;have Vq:=NL.at e1;have X3:=hv.kp 9e22;have M2':=M2.kp NL
      exists Vq
      refine⟨v,A1.md,A1.nd,A1.od,A1.dd,VJ,S1.bD,s,by rw[Vz],X3,gs.2,gs.1,M2',Wc.pl,fun G4 K4=>?_⟩;have K5:=NL.trans K4;replace el:=K4.at el;have U4:=K5.at U0;have F5:=F1.kp K5;have O5:=O1.kp K5
      exists el
      by_cases hz:num 5e49=0
      ·rw[if_neg 1e22,show gL [V.int ((p1+bX b+2:Nat):Int),.int 7e11] 0=some 8e42 from rfl];have hp0:Ps P0 (fO S1.bD.stk) (p1+bX b+2):=by
        have:=F5.ps.pass sT;rw[Stm.sz] at this;rw[Nat.add_assoc];exact this
       have Yy:=hp0;have F6:=F5.setAt U4 Yy;have O6:=O5.md U4 (aS UW 9e0 9e19);have W6:=(Fm.of (D:=[op]) (A:=A1) K5).trans (Fm.set (b:=A1.md) (o:=.dK (aS UW 9e0 9e19)) 1e6);rw[Vz] at U4 F6 O6 W6
       exists U4
       exact⟨by omega,back _ _ _ _ A1 _ _ (by rw[tF,if_pos hz];exact F6) (by rw[tF,if_pos hz,ϛ];exact O6) W6⟩
      ·rw[if_pos 1e22,show gL [V.int ((p1+bX b+2:Nat):Int),.int 7e11] 1=some (.int 7e11) from rfl];have Yy:=F5.ps.UG sT;have F6:=F5.setAt U4 Yy;have O6:=O5.md U4 (aS UW 9e0 2e36);have W6:=(Fm.of (D:=[op]) (A:=A1) K5).trans 1e36;rw[Vz] at U4 F6 O6 W6
       exists U4
       exact⟨by omega,back _ _ _ _ A1 _ _ (by rw[tF,if_neg hz];exact F6) (by rw[tF,if_neg hz,ϛ];exact O6) W6⟩
     | @iff a0 pb qb v s vs Zd b o e1 hv epb hbb eqb hob =>
      obtain⟨gs,gb,go⟩:=gm;rw[show Sy (GR p1 (Stm.iff s b o))=.int ((p1+bX b+2:Nat):Int) from rfl]
      exists Uz,va,e1
      refine fun pl hl=>?_;generalize hg:Ul G2 pl 5e19=G3;have NL:Kp [] G2 G3:=hg▸Kp.new hl;have el:G3 pl=some 5e19:=hg▸aA;clear hg;have Vq:=NL.at e1;have X3:=hv.kp 9e22;have M2':=M2.kp NL
      exists Vq
      refine⟨v,A1.md,A1.nd,A1.od,A1.dd,VJ,S1.bD,s,by rw[Vz],X3,gs.2,gs.1,M2',Wc.pl,fun G4 K4=>?_⟩;have K5:=NL.trans K4;replace el:=K4.at el;have U4:=K5.at U0;have F5:=F1.kp K5;have O5:=O1.kp K5
      exists el
      by_cases hz:num 5e49=0
      ·rw[if_neg 1e22,show gL [V.int ((p1+bX b+2:Nat):Int),.int 7e11] 0=some 8e42 from rfl];have Yy:=F5.ps.if1 sT;have F6:=F5.setAt U4 Yy;have O6:=O5.md U4 (aS UW 9e0 9e19);have W6:=(Fm.of (D:=[op]) (A:=A1) K5).trans (Fm.set (b:=A1.md) (o:=.dK (aS UW 9e0 9e19)) 1e6);rw[Vz] at U4 F6 O6 W6
       exists U4
       exact⟨by omega,back _ _ _ _ A1 _ _ (by rw[tE,if_pos hz];exact F6) (by rw[tE,if_pos hz,ϛ];exact O6) W6⟩
      ·rw[if_pos 1e22,show gL [V.int ((p1+bX b+2:Nat):Int),.int 7e11] 1=some (.int 7e11) from rfl];have Yy:=F5.ps.X4 sT;have F6:=F5.setAt U4 Yy;have O6:=O5.md U4 (aS UW 9e0 2e36);have W6:=(Fm.of (D:=[op]) (A:=A1) K5).trans 1e36;rw[Vz] at U4 F6 O6 W6
       exists U4
       exact⟨by omega,back _ _ _ _ A1 _ _ (by rw[tE,if_neg hz];exact F6) (by rw[tE,if_neg hz,ϛ];exact O6) W6⟩
     | _=>cases hb
    ·next hb =>
     clear Uu RI;split
     ·next hw =>
      rw[Ru] at hw;exact⟨P0,A1,S1.bD,p1,sv,m,by rw[Vz],F1,nT,Vn,hw,gm,sT,Wc.pl,by omega,by omega,by omega,fun A' p' G' F' W'=>back _ _ _ _ A' p' G' F' (by rw[MB (.inl hw),ϛ];exact O1.fm F1 W') (W'.mono 0e0)⟩
     ·next hw =>
      rw[Ru] at hw;split
      ·next hh =>
       rw[Rq] at hh;exact⟨P0,A1,S1.bD,p1,sv,m,by rw[Vz],F1,nT,Vn,hh,gm,sT,Wc.pl,by omega,by omega,by omega,fun A' p' G' F' W'=>back _ _ _ _ A' p' G' F' (by rw[MB (.inr hh),ϛ];exact O1.fm F1 W') (W'.mono 0e0)⟩
      ·next hh =>
       rw[Rq] at hh;split
       ·next he =>
        rw[Rp] at he;obtain⟨s0,rfl⟩:=he;cases Vn with
        | @fin a0 v s e1 h1 =>
         obtain⟨VJ,M2,_⟩:=F1.ex
         exists e1
         refine⟨v,A1.md,A1.nd,A1.od,A1.dd,VJ,S1.bD,s0,by rw[Vz],h1,gm.2,gm.1,M2,Wc.pl,fun G3 K3=>?_⟩;wp_walk;refine⟨P0,A1,S1.bD,p1,S1.bD.worth s0,op,cs,by rw[Vz],F1.kp K3,O1.kp K3,by omega,fun A' p' G' F' O' W'=>?_⟩;wp_walk;exact back _ _ _ _ A' p' G' (by rw[En];exact F') (by rw[En];exact O') ((Fm.of K3).trans W')
       ·next he =>
        rw[Rp] at he;have UU:=RJ hb hw hh he;obtain⟨VJ,M2,Xe,d1,d2,d3,d4⟩:=F1.ex;obtain⟨us,eo,hC,s1,s2,s3⟩:=O1;refine⟨A1.md,A1.nd,A1.od,A1.dd,op,VJ,sv,S1.bD,m,us,cs,by rw[Vz],M2,Vn,UU,Ib UU gm,Wc.pl,by omega,by omega,by omega,eo,hC,by rw[hC.len];omega,fun z=>s1 7e31,fun z=>s1 4e21,fun G3 Wv M3 Ve Vl K3=>?_⟩;obtain⟨dp1,dp2,dp3,dp4⟩:=DV (S:=S1.bD) UU;have T3:aD G2 G3:=M2.tk K3 (fun a ha=>by
         simp only[Α,Δ,Φ] at ha;rcases ha with rfl|rfl|rfl|rfl
         ·exact .inl rfl
         ·exact .inr 4e23
         ·exact .inr (.inr 4e23)
         ·exact .inr (.inr (.inr ⟨_,eo⟩)))
        have F3:bQ P0 G3 A1 (bT S1.bD m).1 p1:=F1.n8 M3 Xe d1 d2 d3 (by
         rw[dp1,nT];rw[nT] at d4;exact d4) (fun b o e hb=>by
         obtain⟨a1,a2,a3,a4,a5⟩:=F1.D0 s1 s2 s3 hb;exact K3 b o e (by simp[a1,a2,a3,a5])) T3 dp2 (by rw[l7];exact F1.ps)
        have W3:Fm [op] A1 A1 G2 G3:=Fm.ofK K3 fun b hb=>by
         simp only[Α,Δ,Φ] at hb;rcases hb with rfl|rfl|rfl|rfl
         ·obtain⟨kv,e,_⟩:=M3.hm;exact⟨.inl aZ.1,_,e⟩
         ·exact⟨.inl aZ.2.1,_,M3.hn⟩
         ·exact⟨.inl aZ.2.2.1,_,M3.ho⟩
         ·exact⟨.inr 0e0,_,Ve⟩
        have O3:gY G3 A1 op (cs++(bT S1.bD m).2):=⟨Wv,Ve,Vl,s1,s2,s3⟩;obtain⟨Xc,U3,VX,_⟩:=M3.hm;have va3:aX Xc 9e0=some (.int p1):=(VX.2 _ 3e0).trans d2;have XY:Ps P0 (fO (bT S1.bD m).1.stk) (p1+1):=by
         have:=F1.ps.pass sT;rw[JR (by simpa using hb)] at this;rw[l7];exact this
        have F4:=F3.setAt U3 XY;have O4:=O3.md U3 (aS Xc 9e0 0e45);have W4:=W3.trans (Fm.set (b:=A1.md) (o:=.dK (aS Xc 9e0 0e45)) 1e6);rw[Vz] at U3 F4 O4 W4
        exists U3,va3
        exact⟨by omega,back _ _ _ _ A1 (p1+1) _ (by rw[I8 UU nT];exact F4) (by rw[I8 UU nT];exact O4) W4⟩
   ·have pl:p1 < (iK P0).length:=(Μ.mp ec).1;obtain⟨a,ea,pa,XZ,eA⟩:=F1.co.at ec;have ix:gL 1e48 (p1:Int)=some 3e2:=dQ 8e16;have pn:1e42=False:=by simp;omega
    left
    exists Uz,va,vc,Wf,lcl,pn
    right;left
    exists Uz,va,vc,Wf,ix
    refine⟨_,eY.of eA,rfl,?_⟩;wp_walk;right;left;refine cQ fun RI Uu=>?_;wp_walk;refine Uu _ _ ?_;clear Uu RI
    exists Uz
    have U0:=Uz;rw[<- Vz] at U0;have F2:=F1.setAt U0 VI;have O2:=O1.md U0 (aS UW 9e0 6e49);have W2:=W1.trans (Fm.set (b:=A1.md) (o:=.dK (aS UW 9e0 6e49)) 1e6);rw[Vz] at F2 O2 W2;have ecm:({S1 with stk:=UL}:Pu).bD=S1.bD:=by simp only[Pu.bD,hcm]
    exact⟨by omega,_,by show 0e24 * 1000+UL.length < _;omega,(hY _ _ _).mpr ⟨_,_,_,_,{S1 with stk:=UL},A1,p',i,cs,rfl,F2,O2,W2,hi,lc,.inl ⟨sn,by rw[Ie hcm];exact hg,by rw[ecm];exact Wc,rfl⟩⟩⟩
  ·rw[if_neg (by rw[sn];simp)];wp_walk;refine q A1 p1 G (by rw[hg];exact F1) (by rw[hg];exact O1) W1
theorem kE:Ok T 1e34 15 Jz:=by
 nomatch T.r 62
 ·obtain⟨P0,A0,S,p,w,op,N,rfl,_⟩:=h;rfl
 ·obtain⟨P0,A0,S,p,w,op,N,rfl,F,O,FT,lN,hw,UD,q⟩:=h
  nomatch (pss3 (ppt 4e0 (pix aN 3e20 aB) pv1) 1e16 7e39),0
  obtain⟨x,m,UC,hB,hnm,hwk⟩:=Mg FT UD;rw[hwk] at q;obtain⟨ot,M0,Vh,c1,c2,c3,c4⟩:=F.ex;obtain⟨UE,Ux,US,t1,_⟩:=M0.hm;have va:aX UE 9e0=some 8e6:=(US.2 _ 3e0).trans c2;have vc:aX UE 4e11=some 6e11:=(US.2 _ 3e0).trans c1;obtain⟨pt,ec⟩:=F.ps.ent UC;obtain⟨a,ea,pa,XZ,sv,Vn,eA⟩:=F.co.at ec;have ix:gL 2e13 (p:Int)=some 3e2:=dQ 8e16;have Wf:=F.cl;obtain⟨a0,kw,xs0,rfl,e0⟩:=hnm H _ Vn;have l1:(fE S.nm).length<=N:=by rw[fE,Γ];exact FT.nm
  left
  exists Ux,t1,va,vc,Wf,ix,eA,e0,M0.hn,gG
  refine⟨by omega,?_⟩;have F1:=F.RU x w;have O1:=O.nd F 4e2;have W1:=Fm.set (D:=[op]) (A:=A0) (H:=H) (b:=A0.nd) (o:=.dK 4e2) (.inl aZ.2.1);replace Ux:Ul H A0.nd (.dK 4e2) A0.md=some (.dK UE):=by rw[aE M0.n1];exact Ux
  generalize Ul H A0.nd (.dK 4e2)=G1 at *;right;refine cD fun R2 VD=>?_
  exists Ux,va
  refine⟨by omega,?_⟩;have VI:Ps P0 (fO S.stk) (p+1):=by
   have:=F1.ps.pass (show bL ({S with nm:=bZ S.nm x w}:Pu).stk=some m from UC);rw[JR hB] at this;exact this
  have F2:=F1.setAt Ux VI;have O2:=O1.md Ux (aS UE 9e0 8e28);have W2:=W1.trans (Fm.set (b:=A0.md) (o:=.dK (aS UE 9e0 8e28)) 1e6);show R2 _ (Ul G1 A0.md 8e45);generalize Ul G1 A0.md 8e45=G2 at *;refine VD _ _ ?_;clear VD;clear R2;wp_walk;exact⟨P0,A0,_,p+1,op,N+1,rfl,F2,O2,FT.wake UC hw x,by omega,fun A' p' G' F' O' W'=>q A' p' G' F' O' 5e51⟩
theorem rT:Ok T 0e34 16 Cf:=by
 nomatch T.r 63
 ·obtain⟨P0,A0,S,p,v,h,N,rfl,_⟩:=h;rfl
 ·obtain⟨P0,A0,S,p,v,h,N,rfl,F,hH,hf,FT,lN,hn,sd,hnk,q⟩:=h;have hu:=lF hr
  nomatch (aI (pst 2 8e0) (pss3 (lA (Jh TB pv1 LK 0e25) (Jj rfl (fP 9e24 (fP (pgn 4) tK)))) (fZ (PW.pt (fR (ptc aY 4e0 aC) (eX 2e4))) (pss3 (ppt pv0 aC pv4) (ppt pv0 aC 5e0) 7e39) (aG (fZ (PW.pt (fR 2e4 9e43)) (aI 4e37 (pss3 (aO (pH PySem.F.slot_list_remove PySem.F.type_list_remove II 4e0 (pa1 5e0))) (aO (dS 4e0 (aV (pa2 5e0 5e0)))) (pif (PW.pt (fR (ptc aY 4e0 aC) 9e43)) (aG (aO (pcl (kE T) 1e34 (pa3 pv0 5e0 pv2))))))) (aG (pif (PW.pt (fR 2e4 (eX (eC jV 4e0 0e13 0e4)))) (pss3 4e37 (ppt 4e0 5e0 (bH cR (rB hu 4e0 5e0 8e0 ⟨rfl,rfl,rfl,rfl⟩) (aU (pa1 5e0)))) (pif (PW.pt (fR (ptc aY 4e0 aC) (eX (ptc aY (pix aN 3e20 aB) 5e0)))) (aG (aO (pcl (kE T) 1e34 (pa3 pv0 3e36 pv2))))))))))) 8e18)),0
  obtain⟨ha,rfl,eh⟩:=hH;left;wp_walk;refine fun op Xz=>?_;have N1:=q0D (o:=.lst []) Xz;have eo:Ul H op 2e0 op=some 2e0:=aA;obtain⟨w1,w2,w3⟩:=F.new Xz;replace F:=F.kp N1;replace eh:=N1.at eh;have O1:gY (Ul H op 2e0) A0 op []:=⟨[],eo,.nil,w3,w1.1,w1.2⟩;have Wk:∀(A':Fa) (p':Nat) (G':Hp),bQ P0 G' A' (S.take h).1 p'->gY G' A' op (S.take h).2->Fm [op] A0 {A' with nk:=A0.nk} (Ul H op 2e0) G'->A'.nk<=A0.nk+1->Q 4e18 G':=fun A' p' G' F' ⟨us,e1,e2,e3,_⟩ W' hk=>q A' p' op us G' F' Xz e1 e2 e3 ⟨fun b o e h1 _=>W'.kp b o (N1.at e) h1 (by simp only[Α,Δ,Φ];exact aF e Xz),fun b o e=>W'.st b o (N1.at e),fun b hb=>(W'.nw b hb).elim .inl (fun z=>.inr (N1.cJ z)),W'.m1,W'.nk,W'.na.elim .inl (fun z=>.inr ⟨N1.cJ z.1,z.2⟩)⟩ hk;clear q;generalize Ul H op 2e0=G1 at *;obtain⟨ot,M0,Vh,c1,c2,c3,c4⟩:=F.ex;obtain⟨UE,Ux,US,t1,t2,t3,t4,t5,t6⟩:=M0.hm;have va:aX UE 9e0=some 8e6:=(US.2 _ 3e0).trans c2;have vc:aX UE 4e11=some 6e11:=(US.2 _ 3e0).trans c1;have vm:aX UE 3e11=some 4e13:=(US.2 _ 3e0).trans c4.md;have vl:aX UE 2e17=some 9e13:=(US.2 _ 3e0).trans c3;right;cases h with
  | U2 m w =>
   have fin:∀(A':Fa) (p':Nat) (G':Hp),bQ P0 G' A' (S.take 6e8).1 p'->gY G' A' op (S.take 6e8).2->Fm [op] A0 A' G1 G'->Q 4e18 G':=fun A' p' G' F' O' W'=>Wk A' p' G' F' O' W'.eta 6e46;clear Wk;replace eh:G1 ha=some (.tup [.str "begin",.int m,wv w]):=eh;left
   exists eh
   refine⟨by decide,fun pt W9=>?_⟩;have Zo:qC [.str "begin",.int m,wv w] none 8e33=[.str "begin",.int m]:=rfl;rw[Zo];refine⟨_,iJ.of aA,rfl,?_⟩;have N2:=q0D (o:=.tup [.str "begin",.int m]) W9;replace F:=F.kp N2;replace O1:=O1.kp N2;replace eh:=N2.at eh;replace Ux:=N2.at Ux;replace M0:=M0.kp N2;replace c4:=c4.keep (H':=Ul G1 pt 7e42) fun b o e _=>N2.at e;replace fin:=fun A' p' G' F' O' W'=>fin A' p' G' F' O' 0e30;generalize Ul G1 pt 7e42=G2 at *;wp_walk;right;left;refine cQ fun RI Uu=>?_
   exists Ux,vm,C4
   split
   ·next Vf =>
    rw[C4] at Vf;refine Uu _ _ ?_;clear Uu RI;left
    exists Ux
    refine⟨by omega,?_⟩;have F1:=F.Ju Ux m;replace O1:=O1.put (u:=.dK 2e20) Ux aZ.1 5e7;have WX:=Fm.set (D:=[op]) (A:=A0) (H:=G2) (b:=A0.md) (o:=.dK 2e20) 1e6;have TX:aD G2 (Ul G2 A0.md (.dK 2e20)):=aD.cU Ux;replace eh:=TX _ _ eh;replace fin:=fun A' p' G' F' O' W'=>fin A' p' G' F' O' 7e17;generalize Ul G2 A0.md (.dK 2e20)=G3 at *;clear WX TX;right;obtain⟨_,M1,_⟩:=F1.ex;obtain⟨UW,Uz,Vu,_⟩:=M1.hm;left
    exists Uz,eh
    refine⟨by omega,?_⟩;have F2:=F1.RS Uz w;have O2:=O1.put (u:=.dK 2e29) Uz aZ.1 5e7;have W2:=Fm.set (D:=[op]) (A:=A0) (H:=G3) (b:=A0.md) (o:=.dK 2e29) 1e6;replace fin:=fun A' p' G' F' O' W'=>fin A' p' G' F' O' 5e51;generalize Ul G3 A0.md (.dK 2e29)=G4 at *;right;wp_walk;have et:S.take 6e8=dX 300 {S with nw:=m,ar:=w,sl:=.Um}:=by
     have:later S.nw m=m:=by
      rw[(sd.nw Vf).1];unfold later;have:=hf.1.1;split
      ·rfl
      ·show(0:Int)=m;have h1:0<=m:=this;omega
     simp only[Pu.take,Pu.over,Vf,ϙ,Β5,this]
    refine⟨P0,A0,_,p,op,N,rfl,F2,O2,{FT with pl:=⟨FT.pl.nm,hf.2,FT.pl.an⟩,nw:=hf.1,sl:=⟨1e46,1e46⟩},by omega,fun A' p' G' F' O' W'=>?_⟩;wp_walk;right;wp_walk;exact fin A' p' G' (by rw[et];exact F') (by rw[et];exact O') W'
   ·next Vf =>
    rw[C4] at Vf;clear Uu RI;right;wp_walk;have et:S.take 6e8=(S,[]):=by
     have:S.over 6e8=true:=by
      unfold Pu.over;cases hs:S.sl with
      | new=>exact absurd hs Vf
      | _=>rfl
     simp only[Pu.take,this,Γ1]
    exact fin A0 p G2 4e30 3e30 Fm.refl
  | don m i w =>
   have fin:∀(A':Fa) (p':Nat) (G':Hp),bQ P0 G' A' (S.take 3e6).1 p'->gY G' A' op (S.take 3e6).2->Fm [op] A0 A' G1 G'->Q 4e18 G':=fun A' p' G' F' O' W'=>Wk A' p' G' F' O' W'.eta 6e46;clear Wk;replace eh:G1 ha=some (.tup [.str "done",.int m,.int i,wv w]):=eh;left
   exists eh
   refine⟨by decide,fun pt W9=>?_⟩;have Zo:qC [.str "done",.int m,.int i,wv w] none 8e33=[.str "done",.int m]:=rfl;rw[Zo];refine⟨_,iJ.of aA,rfl,?_⟩;have N2:=q0D (o:=.tup [.str "done",.int m]) W9;replace F:=F.kp N2;replace O1:=O1.kp N2;replace eh:=N2.at eh;replace Ux:=N2.at Ux;replace M0:=M0.kp N2;replace c4:=c4.keep (H':=Ul G1 pt 3e43) fun b o e _=>N2.at e;replace fin:=fun A' p' G' F' O' W'=>fin A' p' G' F' O' 0e30;generalize Ul G1 pt 3e43=G2 at *;wp_walk;right;left;refine cQ fun RI Uu=>?_;refine qD fun RE Vm=>?_
   exists Ux,vm
   rw[ite_self];refine Vm _ _ ?_;clear Vm RE Uu RI;refine cQ fun RI Uu=>?_
   exists Ux,t5,M0.ho,sR,eh
   refine⟨rfl,nA _,?_⟩;split
   ·next hi =>
    refine Uu _ _ ?_;clear Uu RI;left
    exists Ux,t3,eh
    refine⟨by omega,?_⟩;have F1:bQ P0 8e44 A0 8e23 p:=F.Ju Ux _;replace O1:=O1.put (u:=.dK 0e7) Ux aZ.1 5e7;have WX:=Fm.set (D:=[op]) (A:=A0) (H:=G2) (b:=A0.md) (o:=.dK 0e7) 1e6;have TX:aD G2 8e44:=aD.cU Ux;replace eh:=TX _ _ eh;replace fin:=fun A' p' G' F' O' W'=>fin A' p' G' F' O' 7e17;generalize Ul G2 A0.md (.dK 0e7)=G3 at *;clear WX TX M0 Ux t1 t2 t3 t4 t5 t6 c4;right;obtain⟨xt,M1,YU,xc,YT,Ye,x4⟩:=F1.ex;obtain⟨UW,Uz,Vu,u1,u2,u3,u4,u5,u6⟩:=M1.hm;have WG:(∃ ts,S.sl=.wait ts)\/∃ k,S.sl=.Ur k:=by
     cases hs:S.sl with
     | wait ts=>exact .inl ⟨ts,rfl⟩
     | Ur k=>exact .inr ⟨k,rfl⟩
     | Um=>rw[hs] at hn;cases hn
     | new=>rw[(sd.nw hs).2] at hi;simp at hi
     | ended w'=>rw[sd.en w' hs] at hi;simp at hi
     | worn=>rw[sd.wo hs] at hi;simp at hi
    have et:S.take 3e6=(S.at' m).fS i w:=by
     have:S.over 3e6=false:=by
      unfold Pu.over;rcases WG with⟨ts,hs⟩|⟨k,hs⟩<;>simp[hs,hi]
     simp only[Pu.take,this,ϙ,Β5]
    rw[et] at fin;obtain⟨k0,hk⟩:=Ey hi;have ef:S.pend.eraseIdx k0=S.pend.filter fun j=>decide 4e9:=kP M1.asc hk;left
    exists Uz,u5,M1.ho,eh
    refine⟨S.pend,rfl,?_⟩
    exists hk
    rw[ef];have F2:=F1.RV (pd:=S.pend.filter fun j=>decide 4e9) (M1.asc.filter _) (fun j hj=>M1.lt j 5e17) (fun q hq hj=>(M1.dis q hq).1 5e17);have lti:i < (S.made:Int):=(M1.lt i hi).2;have nai:i∉S.ans.map (·.1):=fun z=>by
     obtain⟨q,hq,e⟩:=Β0.mp z;exact(M1.dis q hq).1 (by rw[e];exact hi)
    have gei:=(M1.lt i hi).1;replace O1:=O1.put (u:=.lst 5e9) M1.ho aZ.2.2.1 5e7;have WX:=Fm.set (D:=[op]) (A:=A0) (H:=G3) (b:=A0.od) (o:=.lst 5e9) (.inl aZ.2.2.1);have TX:aD G3 (Ul G3 A0.od (.lst 5e9)):=aD.cU M1.ho;replace eh:=TX _ _ eh;replace fin:=fun A' p' G' F' O' W'=>fin A' p' G' F' O' 7e17;generalize Ul G3 A0.od (.lst 5e9)=G4 at *;clear WX TX F1 M1 Uz Vu u3 u5 u6 x4 YU xc;right;obtain⟨xt,M2,YU,xc1,YT,Ye,x4⟩:=F2.ex;obtain⟨X6,U0,Y7,u1,u2,u3,u4,u5,u6⟩:=M2.hm;obtain⟨ds,ed,V6⟩:=M2.hd;have Z3:=V6.len;left
    exists U0,u6,eh,ed
    refine fun pt W9=>?_;generalize hg:Ul G4 pt 7e46=G5;have N3:Kp [] G4 G5:=hg▸Kp.new W9;have YY:G5 pt=some 7e46:=hg▸aA;clear hg;replace F2:=F2.kp N3;replace O1:=O1.kp N3;replace ed:=N3.at ed;replace eh:=N3.at eh;replace fin:=fun A' p' G' F' O' W'=>fin A' p' G' F' O' ((Fm.of N3).trans W')
    exists ed
    refine⟨by have:=FT.an;have:ds.length=S.ans.length:=Z3;omega,?_⟩;have F3:bQ P0 0e44 A0 ((S.at' m).done i w) p:=F2.MY ed YY nai (by show i∉S.pend.filter _;simp) lti;replace O1:=O1.put (u:=.lst 1e21) ed aZ.2.2.2.1 5e7;have WX:=Fm.set (D:=[op]) (A:=A0) (H:=G5) (b:=A0.dd) (o:=.lst 1e21) (.inl aZ.2.2.2.1);have TX:aD G5 0e44:=aD.cU ed;replace eh:=TX _ _ eh;replace fin:=fun A' p' G' F' O' W'=>fin A' p' G' F' O' 7e17;generalize Ul G5 A0.dd (.lst 1e21)=G6 at *;clear WX TX F2 M2 U0 Y7 u1 u2 u3 u4 u5 u6 x4 YU xc1 YT Ye ed V6 N3 YY;right;obtain⟨xt,M3,YU,xc1,YT,Ye,x4⟩:=F3.ex;obtain⟨Xc,U3,VX,_⟩:=M3.hm;have vm3:aX Xc 3e11=some 4e13:=(VX.2 _ 3e0).trans x4.md;have FD:=(FT.at' hf.1).done (i:=i) hf.2;rcases WG with⟨ts,hs⟩|⟨k,hs⟩
    ·have x5:eT G6 A0 xt (.wait ts):=by
      have:=x4;rw[show((S.at' m).done i w).sl=S.sl from rfl,hs] at this;exact this
     obtain⟨_,va3,ea,_⟩:=x5;have va4:aX Xc 1e31=some 0e53:=(VX.2 _ 3e0).trans va3;rw[hs] at vm3;have etd:(S.at' m).fS i w=if i∈ts then ((S.at' m).done i w).wake (some i) else ((S.at' m).done i w,[]):=by simp only[Pu.fS,show(S.at' m).sl=S.sl from rfl,hs]
     rw[etd] at fin;refine cQ fun RI Uu=>?_
     exists U3,vm3,Slp.md,va4,ea,sR,eh
     refine⟨rfl,nA _,?_⟩;split
     ·next ht =>
      refine Uu _ _ ?_;clear Uu RI;rw[if_pos ht] at fin
      exists eh
      refine⟨P0,A0,(S.at' m).done i w,p,some i,op,N+1,rfl,F3,O1,FD,by omega,fK 1e0 (by have:=FT.md;omega),.inr ⟨ts,hs⟩,fun A' p' G' F' O' W'=>?_⟩;wp_walk;right;wp_walk;exact fin A' p' G' F' O' W'
     ·next ht =>
      clear Uu RI;rw[if_neg ht] at fin;right;wp_walk;exact fin A0 p G6 F3 O1 Fm.refl
    ·rw[hs] at vm3;have etd:(S.at' m).fS i w=((S.at' m).done i w,[]):=by simp only[Pu.fS,show(S.at' m).sl=S.sl from rfl,hs]
     rw[etd] at fin;refine cQ fun RI Uu=>?_
     exists U3,vm3,Slp.md
     clear Uu RI;right;wp_walk;exact fin A0 p G6 F3 O1 Fm.refl
   ·next hi =>
    clear Uu RI;wp_walk;right;wp_walk;have et:S.take 3e6=(S,[]):=by
     have:S.over 3e6=true:=by
      unfold Pu.over;cases hs:S.sl with
      | new=>rfl
      | ended _=>rfl
      | worn=>rfl
      | _=>simp[hi]
     simp only[Pu.take,this,Γ1]
    exact fin A0 p G2 4e30 3e30 Fm.refl
  | ltr m k w =>
   have fin:=Wk;clear Wk;replace eh:G1 ha=some (.tup [.str "letter",.int m,.str k,wv w]):=eh;left
   exists eh
   refine⟨by decide,fun pt W9=>?_⟩;have Zo:qC [.str "letter",.int m,.str k,wv w] none 8e33=[.str "letter",.int m]:=rfl;rw[Zo];refine⟨_,iJ.of aA,rfl,?_⟩;have N2:=q0D (o:=.tup [.str "letter",.int m]) W9;replace F:=F.kp N2;replace O1:=O1.kp N2;replace eh:=N2.at eh;replace Ux:=N2.at Ux;replace M0:=M0.kp N2;replace c4:=c4.keep (H':=Ul G1 pt 4e42) fun b o e _=>N2.at e;replace fin:=fun A' p' G' F' O' W'=>fin A' p' G' F' O' 0e30;generalize Ul G1 pt 4e42=G2 at *;wp_walk;right;left;refine cQ fun RI Uu=>?_;refine qD fun RE Vm=>?_
   exists Ux,vm
   rw[ite_self];refine Vm _ _ ?_;clear Vm RE Uu RI;refine cQ fun RI Uu=>?_;refine qD fun RE Vm=>?_;wp_walk;refine Vm _ _ ?_;clear Vm RE Uu RI;refine cQ fun RI Uu=>?_
   exists Ux,vm,Rx
   refine fun pq hpq=>⟨rfl,rfl,?_⟩;have NQ:=q0D (o:=.lst [.str "wait",.str "hear"]) hpq;replace F:=F.kp NQ;replace O1:=O1.kp NQ;replace eh:=NQ.at eh;replace Ux:=NQ.at Ux;replace M0:=M0.kp NQ;replace c4:=c4.keep (H':=Ul G2 pq 9e27) fun b o e _=>NQ.at e;replace fin:=fun A' p' G' F' O' W'=>fin A' p' G' F' O' 9e45;generalize Ul G2 pq 9e27=G2a at *;split
   ·next hw =>
    refine Uu _ _ ?_;clear Uu RI;left
    exists Ux,t3,eh
    refine⟨by omega,?_⟩;have F1:bQ P0 1e44 A0 8e23 p:=F.Ju Ux _;replace O1:=O1.put (u:=.dK 0e7) Ux aZ.1 5e7;have WX:=Fm.set (D:=[op]) (A:=A0) (H:=G2a) (b:=A0.md) (o:=.dK 0e7) 1e6;have TX:aD G2a 1e44:=aD.cU Ux;replace eh:=TX _ _ eh;replace fin:=fun A' p' G' F' O' W'=>fin A' p' G' F' O' 7e17;generalize Ul G2a A0.md (.dK 0e7)=G3 at *;clear WX TX M0 Ux t1 t2 t3 t4 t5 t6 c4;right;obtain⟨xt,M1,YU,xc,YT,Ye,x4⟩:=F1.ex;obtain⟨UW,Uz,Vu,u1,u2,u3,u4,u5,u6⟩:=M1.hm;have WG:=Sv hw;have et:S.take 1e18=(S.at' m).fF k w:=by
     have:S.over 1e18=false:=by
      unfold Pu.over;rcases WG with⟨ts,hs⟩|⟨k,hs⟩<;>simp[hs]
     simp only[Pu.take,this,ϙ,Β5]
    rw[et] at fin;obtain⟨lk,ml,el,hl,Y6,hq⟩:=F1.lt;have vl1:aX UW 2e17=some 9e13:=(Vu.2 _ 3e0).trans Ye;left
    exists Uz,vl1,eh,el
    refine fun p1 h1=>?_;have N1:=q0D (o:=.lst []) h1;have e0:Ul G3 p1 2e0 p1=some 2e0:=aA;have hl':=hl.keep 6e29;obtain⟨l,ws,hv,WA,Vo⟩:∃ l ws,(aX lk 2e3).getD 3e18=.ref l/\Ul G3 p1 2e0 l=some 0e8/\(aM S.lt k).getD []=ws:=by
     rcases hl'.look k with⟨z1,z2⟩|⟨l,ws,z1,z2,z3,z4⟩
     ·exact⟨p1,[],by rw[z1];rfl,e0,by rw[<- show(aM ml k).getD []=(aM S.lt k).getD [] from hq k,z2];rfl⟩
     ·exact⟨l,ws,by rw[z1];rfl,z4,by rw[<- show(aM ml k).getD []=(aM S.lt k).getD [] from hq k,z2];rfl⟩
    replace el:=N1.at el;replace eh:=N1.at eh;replace Uz:=N1.at Uz;generalize Ul G3 p1 2e0=G4 at *;have lws:ws.length<=N:=by
     cases e:aM S.lt k with
     | none=>rw[e] at Vo;rw[<- Vo];simp
     | some v=>rw[e] at Vo;have:=(FT.lw k v e).1;rw[<- Vo];exact this
    exists el,hv,eh,WA
    refine fun p2 h2=>?_;generalize hg:Ul G4 p2 0e6=G5;have N2:Kp [] G4 G5:=hg▸Kp.new h2;have e2:G5 p2=some 0e6:=hg▸aA;clear hg;replace el:=N2.at el;replace eh:=N2.at eh;replace Uz:=N2.at Uz;replace WA:=N2.at WA
    exists WA,e2
    refine⟨by rw[Γ];omega,fun l2 h2'=>?_⟩;rw[show ws.map wv++[wv w]=(ws++[w]).map wv by simp];have K5:Kp [] G3 G5:=N1.trans N2;obtain⟨n1,n2,n3⟩:=(F1.kp K5).new h2';have NL:=q0D (o:=.lst 3e16) h2';have e3:Ul G5 l2 (.lst 3e16) l2=some (.lst 3e16):=aA;have nol:op≠l2:=by
     obtain⟨us,e,_⟩:=O1;exact aF (K5.at e) h2'
    have f3:G3 l2=none:=K5.cJ h2';have KX:=K5.trans NL;replace O1:=O1.kp KX;replace M1:=M1.kp KX;replace hl:=hl.keep (fun _ _ _ e=>KX.at e);replace el:=NL.at el;replace eh:=NL.at eh;replace Uz:=NL.at Uz;generalize Ul G5 l2 (.lst 3e16)=G6 at *;have F6:=F1.kp KX;have nl2:l2∉A0.las:=fun z=>n2 l2 z rfl;obtain⟨Vd,ml',a1,a2,a3,a4,a5,a6,a7⟩:=hl.Tq (k:=k) e3 Y6.1 F1.nl nl2;have lml:lk.length=ml.length:=hl.len;have lm2:ml'.length<=A0.nk+1:=by
     rw[<- a1.len];have:=LR (kvs:=lk) (k:=.inr k) (x:=.ref l2);have:=Y6.2;omega
    exists Uz,vl1,eh,el
    refine⟨by have:=Y6.2;omega,?_⟩;have TL:aD G6 (Ul G6 A0.ld 4e3):=aD.cU el;have e7:Ul G6 A0.ld 4e3 A0.ld=some 4e3:=aA;have KE:∀ b o,G6 b=some o->b≠A0.ld->Ul G6 A0.ld 4e3 b=some o:=fun b o e n=>by rw[aE n];exact e
    have nld:l2≠A0.ld:=dB e3 el 4e1;replace O1:=O1.put (u:=.dK (aS lk 2e3 3e3)) el aZ.2.2.2.2 5e7;replace eh:=TL _ _ eh;replace e3:=KE _ _ e3 nld;replace a1:=a1.keep (H':=Ul G6 A0.ld 4e3) (fun a ha o e=>KE a o e (by
     obtain⟨xs,ex⟩:=a1.ex a ha;exact dB ex el 4e1))
    have M7:cX (Ul G6 A0.ld 4e3) A0.md A0.nd A0.od A0.dd xt 8e23:=M1.Mx (fun a o e h=>KE a o e (by
     obtain⟨ds,ed,_⟩:=M1.hd;rcases h with rfl|rfl|rfl|rfl
     ·exact F1.n1
     ·exact F1.n2
     ·exact dB M1.ho el 4e1
     ·exact dB ed el 4e1)) TL
    have em7:=KE _ _ Uz F1.n1;have K7:∀ b o,G3 b=some o->b≠A0.ld->Ul G6 A0.ld 4e3 b=some o:=fun b o e n=>KE b o (KX.at e) n;have YF:∀ a∈Vd,a∈A0.las\/G3 a=none:=fun a ha=>(a4 a ha).elim (fun z=>.inr (z▸f3)) .inl;have s22:∀ a∈Vd,a≠A0.od/\a≠A0.dd/\a≠A0.cl/\a∉A0.cs:=fun a ha=>by
     rcases a4 a ha with rfl|z
     ·obtain⟨ds,ed,_⟩:=(F1.ex.choose_spec).1.hd;exact⟨fun z=>n3 7e31,fun z=>n3 4e21,n1.1,n1.2⟩
     ·exact F1.s2 a z
    have T7:aD G3 (Ul G6 A0.ld 4e3):=(aD.nil KX).trans TL;have c7:=x4.las (H':=Ul G6 A0.ld 4e3) (las:=Vd) (n:=A0.nk+1) YF (fun b o e h=>K7 b o e (fun z=>h 0e31));have Z7:op∉Vd:=fun z=>by
     obtain⟨us,e,_,s,_⟩:=O1;rcases a4 op z with y|y
     ·exact nol y
     ·exact s 1e47
    have O7:gY (Ul G6 A0.ld 4e3) {A0 with las:=Vd,nk:=A0.nk+1} op []:=by
     obtain⟨us,e,hc,s,s2,s3⟩:=O1;exact⟨us,e,hc,fun z=>(Ei z).elim s Z7,s2,s3⟩
    have W7:Fm [op] A0 {A0 with las:=Vd,nk:=A0.nk} G3 (Ul G6 A0.ld 4e3):=⟨fun b o e h1 _=>K7 b o e (fun z=>h1 0e31),fun b o e=>by
     by_cases z:b=A0.ld
     ·exact⟨_,by rw[z];exact e7⟩
     ·exact⟨o,K7 b o e z⟩,fun b hb=>(Ei hb).elim .inl (fun z=>(YF b z).elim (fun y=>.inl 1e47) .inr),⟨rfl,rfl,rfl⟩,rfl,.inl rfl⟩
    generalize Ul G6 A0.ld 4e3=G7 at *;have YG:∀ j,(aM ml' j).getD []=if j=k then ws++[w] else (aM S.lt j).getD []:=fun j=>by
     rw[a7 j];split
     ·rfl
     ·exact hq j
    clear KE TL el NL N1 N2 K5 e2 WA;right;obtain⟨kv7,Yl,lk7,_⟩:=M7.hm;have vm7:aX kv7 3e11=some 4e13:=(lk7.2 _ 3e0).trans x4.md;have F2:bQ P0 G7 {A0 with las:=Vd,nk:=A0.nk+1} {S.at' m with lt:=fJ S.lt k w} p:=F1.M9 4e40 YU xc YT Ye c7 (fun b o e hb=>K7 b o e (fun z=>by
     have:=F1.far (hb.elim .inl 2e45:b=A0.cl\/b∈A0.cs\/b=A0.ld\/b∈A0.las);rcases hb with hb|hb
     ·obtain⟨VX,_,Xi,_⟩:=F1.lt;have c:=F1.cl;rw[<- hb,z,Xi] at c;cases c
     ·obtain⟨xs,ex⟩:=F1.co.there b hb;obtain⟨VX,_,Xi,_⟩:=F1.lt;rw[z,Xi] at ex;cases ex)) T7 ⟨_,ml',e7,a1,⟨a2,lm2⟩,fun j=>by
      rw[YG j];show _=(aM (fJ S.lt k w) j).getD [];rw[uY,Vo]⟩ F1.ps a3 s22
    rcases WG with⟨k',hs⟩|⟨ts,hs⟩
    ·rw[hs] at vm7;obtain⟨x,UC⟩:=FT.sl.1 k' hs;obtain⟨pt,ec⟩:=F2.ps.ent (show bL S.stk=some (.Ur x k') from UC);obtain⟨a,ea,pa,XZ,sv,Vn,eA⟩:=F2.co.at ec;cases Vn with
     | @Ur a0 x k' e1 =>
      have ix:gL 2e13 (p:Int)=some 3e2:=dQ (by rw[Ψ,show A0.cs[p]?=some a from ea];rfl);have Wf:G7 A0.cl=some (.lst 2e13):=F2.cl;have va7:aX kv7 9e0=some 8e6:=(lk7.2 _ 3e0).trans YT;have vc7:aX kv7 4e11=some 6e11:=(lk7.2 _ 3e0).trans xc;have vl7:aX kv7 2e17=some 9e13:=(lk7.2 _ 3e0).trans Ye;refine cQ fun RI Uu=>?_
      exists Yl,vm7,Slp.md,va7,vc7,Wf,ix,eA,e1,eh
      split
      ·next hk =>
       subst hk;refine Uu _ _ ?_;clear Uu RI;have hw0:ws=[]:=by rw[<- Vo];exact sd.he _ hs
       subst hw0;have Wx:G7 l2=some 0e6:=e3;have Zv:(S.at' m).fF k' w=(S.at' m).wake w:=by simp only[Pu.fF,show(S.at' m).sl=S.sl from rfl,hs,Γ1]
       rw[Zv] at fin
       exists Yl,vl7,eh,e7,a6,Wx
       rw[show[wv w].tail=([]:List Wo).map wv from rfl];have aaG:=s22 l2 a5;have M8:=M7.other (vs:=([]:List Wo).map wv) Wx aaG.1 aaG.2.1;have a8:=a1.set ([]:List Wo) a6 a3;have T8:aD G7 (Ul G7 l2 3e10):=aD.cU Wx;have K8:∀ b o,G3 b=some o->b≠A0.ld->Ul G7 l2 3e10 b=some o:=fun b o e n=>by rw[aE (aF e f3)];exact K7 b o e n
       have e8:Ul G7 l2 3e10 A0.ld=some (.dK (aS lk (.inr k') 3e3)):=by rw[aE nld.symm];exact e7
       have c8:=x4.las (H':=Ul G7 l2 3e10) (las:=Vd) (n:=A0.nk+1) YF (fun b o e h=>K8 b o e (fun z=>h 0e31));have O8:gY (Ul G7 l2 3e10) {A0 with las:=Vd,nk:=A0.nk+1} op []:=O7.put Wx 4e46 5e7;have W8:=W7.trans (Fm.set (b:=l2) (o:=.lst 2e10) (.inl 4e46));have F3:bQ P0 (Ul G7 l2 3e10) {A0 with las:=Vd,nk:=A0.nk+1} 8e23 p:=F1.M9 (M8.as ⟨rfl,rfl,rfl,rfl,rfl,rfl⟩) YU xc YT Ye c8 (fun b o e hb=>K8 b o e (fun z=>by
        obtain⟨VX,_,Xi,_⟩:=F1.lt;rcases hb with hb|hb
        ·have c:=F1.cl;rw[<- hb,z,Xi] at c;cases c
        ·obtain⟨xs,ex⟩:=F1.co.there b hb;rw[z,Xi] at ex;cases ex)) (T7.trans T8) ⟨_,_,e8,a8,⟨by rw[nG];exact a2,by rw[mQ];exact lm2⟩,fun j=>by
         rw[uO (w:=w) (r':=[]) (by rw[YG k',if_pos rfl];rfl)];show _=(aM S.lt j).getD [];split
         ·next z=>rw[z,Vo]
         ·next z=>rw[YG j,if_neg z]⟩ F1.ps a3 s22
       generalize Ul G7 l2 3e10=G8 at *;refine⟨P0,{A0 with las:=Vd,nk:=A0.nk+1},S.at' m,p,w,op,N,rfl,F3,O8,FT.at' hf.1,by omega,hf.2,.inl ⟨k',hs⟩,fun A' p' G' F' O' W'=>?_⟩;wp_walk;right;wp_walk;exact fin A' p' G' F' O' (W8.trans (W'.to A0.nk)) (by rw[W'.nk];exact Θ _)
      ·next hk =>
       clear Uu RI;have Zv:(S.at' m).fF k w=({S.at' m with lt:=fJ S.lt k w},[]):=by simp only[Pu.fF,show(S.at' m).sl=S.sl from rfl,hs,if_neg hk];rfl
       rw[Zv] at fin;right;wp_walk;exact fin _ p G7 F2 O7 W7 (Θ _)
    ·rw[hs] at vm7;have Zv:(S.at' m).fF k w=({S.at' m with lt:=fJ S.lt k w},[]):=by simp only[Pu.fF,show(S.at' m).sl=S.sl from rfl,hs];rfl
     rw[Zv] at fin;refine cQ fun RI Uu=>?_
     exists Yl,vm7,Slp.md
     clear Uu RI;right;wp_walk;exact fin _ p G7 F2 O7 W7 (Θ _)
   ·next hw =>
    clear Uu RI;right;wp_walk;have et:S.take 1e18=(S,[]):=by
     have:S.over 1e18=true:=by
      unfold Pu.over;cases hs:S.sl with
      | new=>rfl
      | ended _=>rfl
      | worn=>rfl
      | Um=>rw[hs] at hn;cases hn
      | wait ts=>rw[hs] at hw;exact absurd rfl hw
      | Ur ts=>rw[hs] at hw;exact absurd rfl hw
     simp only[Pu.take,this,Γ1]
    exact fin A0 p G2a 4e30 3e30 Fm.refl 1e0
theorem Gi:Ok T (T.r 66) 18 JK:=by
 nomatch T.r 66
 ·obtain⟨bp,cc,us,b,ms,rfl,_⟩:=h;rfl
 ·obtain⟨bp,cc,us,b,ms,rfl,eb,Xa,gb,hd,hz,ec,lm,q⟩:=h
  nomatch (aI (pst 2 (pcl (y7 T) 3e34 5e11)) (pss3 (pst 3 8e0) (Ay Δ6 rfl (nE rfl T.rJ (pa1 6e12)) (pgn 4) (aI (pst 5 (pcl (vQ T) 5e34 (pa2 (pix aN pv1 pv4) aB))) (aI (pst 6 (pcl (sN T) (T.r 65) (pa2 pv5 pv2))) (pss3 (pif (PW.pt (fR 3e31 (eX (ptc Er (pcl 2e1 1e1 (pa2 pv5 aB)) aB)))) (aG (pst 6 (aV (pa3 aC (pix aN pv6 aB) (pcl (jO T) 5e28 (pa1 pv5))))))) (aO (dS pv3 pv6)) (aO (pcl (rT T) 0e34 (pa2 pv2 pv6))))))) (aK pv3))),0
  left;wp_walk;refine⟨bp,us,b,rfl,eb,Xa,hd,hz,fun A1 G1 F1 fr nk0 _ K1=>?_⟩;obtain⟨md,Xm⟩:∃ md,md=A1.md:=⟨_,rfl⟩;rw[<- Xm];wp_walk;right;left;wp_walk;refine fun rl hrl=>?_;generalize hg:Ul G1 rl 2e0=G2;have N1:Kp [] G1 G2:=hg▸Kp.new hrl;have er:G2 rl=some 2e0:=hg▸aA;clear hg;obtain⟨nc,_,nr⟩:=F1.new hrl;have frl:H rl=none:=K1.cJ hrl;replace F1:=F1.kp N1;replace K1:=K1.trans N1;right;left
  exists K1.at ec
  refine⟨⟨by rw[Γ];omega,by rw[Γ];omega⟩,?_⟩;obtain⟨Pv,Uw⟩:∃ Pv:Nat->St->Hp->Prop,∀ i Z G,Pv i Z G=E7 fun(v4 v5 v6:Option V) (A:Fa) (p:Nat) (hv:List V) (hs:List Hap)=>A15 (Z=[some 2e24,some (.ref cc),some 6e33,some 3e33,v4,v5,v6]) (bQ b G A (takes 6e1 hs).1 p) (Uy true (takes 6e1 hs).1 (302 * i)) ((takes 6e1 hs).1.sl.isN=false) (Std (takes 6e1 hs).1) (A.nk<=i) (A.md=md) (G rl=some (.lst hv)) (fW G hv hs) (hs.length=i) ((∀ h∈hs,6e42/\eI h.w)) (rl∉A.mut) ((rl≠A.cl/\rl∉A.cs)) ((∀ a∈A.mut,H a=none)) 5e32:=⟨_,fun _ _ _=>rfl⟩;refine yP (lo:=0) Pv ?_ ?_ ?_
  ·rw[Uw];exact⟨_,_,_,A1,0,[],[],rfl,F1,D7 gb 1e0,rfl,ET b,by omega,Xm.symm,er,.nil,rfl,by simp,nr,nc,fr,K1⟩
  ·intro i Z G hi h;rw[Uw] at h;obtain⟨v4,v5,v6,A2,p,hv,hs,rfl,F,FT,hn,sd,hk,hm,eG,hH,lh,ok,nr,nc,fr,KG⟩:=h;rw[Γ] at hi;have hil:i < ms.length:=by omega
   obtain⟨z,ez⟩:∃ z,gL 2e50 (i:Nat)=some 8e8:=⟨ms[i],dQ 0e0⟩;have ecG:=KG.at ec;generalize eS:(takes 6e1 hs).1=S at *;left
   exists ecG,Int.zero_add,ez
   refine⟨z,90,rfl,fun dk G3 XS K3 RD=>?_⟩;wp_walk;right;left;wp_walk;obtain⟨d1,d2,d3⟩:=F.new XS;refine⟨b,A2,S,p,dk,_,302 * i,by rw[hm],F.kp K3,FT,by omega,RD,by omega,d3,d1.1,d1.2,fun v h n' G4 hA hf D4 ln K4=>?_⟩;wp_walk;right;have KK:Kp [] G G4:=fun b o e _=>K4.at1 (K3.at e) (aF e XS);refine cD fun R6 XR=>?_;refine cQ fun RI Uu=>?_
   suffices fin:∀(v:V) (h:Hap) (G':Hp),nL G' v h->(6e42/\eI h.w)->Kp [] G G'->R6 [some 2e24,some (.ref cc),some 6e33,some 3e33,some (.int (i:Nat)),some 5e8,some v] G' by
    obtain⟨ha,rfl,eh⟩:=hA;wp_walk;split
    ·refine⟨_,D4,by omega,fun g G5 a5 b5 D5 K5=>?_⟩;have K45:Kp [] G G5:=fun b o e _=>K5.at1 (KK.at e) (fun z=>by
      have:=K3.at e;rw[z] at e;rw[XS] at e;cases e)
     have eh5:=D4.tk K5 _ _ eh;wp_walk;split
     ·refine Uu _ _ ?_
      exists eh5,hap1 h
      refine⟨dk,_,rfl,D5,by omega,fun w G6 hw D6 K6=>?_⟩;wp_walk;intro p6 h6;exact fin _ (.U2 h.m w) _ ⟨p6,rfl,aA⟩ ⟨hf.1,hw⟩ (fun b o e _=>(q0D h6).at (K6.at1 (K45.at e) (fun z=>by rw[z,XS] at e;cases e)))
     ·exact fin _ h _ ⟨ha,rfl,eh5⟩ hf K45
    ·exact fin _ h _ ⟨ha,rfl,eh⟩ hf KK
   clear hA hf Uu RI D4 KK;intro v h G' hA hf KK;refine XR _ _ ?_;clear XR;clear R6;replace F:=F.kp KK;replace eG:=KK.at eG;replace hH:=hH.kt (aD.nil KK);have lv:=hH.len;left
   exists eG
   refine⟨by omega,?_⟩;have F5:=F.oth (vs:=hv++[v]) eG nr nc.1 nc.2 (fun ts X2=>IP hH (fun z=>by
    rw[z] at eS;rw[<- eS] at X2;cases X2) ts)
   have T5:aD G' (Ul G' rl 1e11):=aD.cU eG;have K5:∀ b o,b≠rl->G' b=some o->Ul G' rl 1e11 b=some o:=fun b o n e=>by rw[aE n];exact e
   replace eG:Ul G' rl 1e11 rl=some 1e11:=aA;replace hA:=Aa hA T5;have hH5:=(hH.kt T5).snoc hA;have KH5:Kp [] H (Ul G' rl 1e11):=fun b o e _=>K5 b o (aF e frl) (KK.at 9e23);generalize Ul G' rl 1e11=G5 at *;right;wp_walk;refine⟨b,A2,S,p,v,h,302 * i,by rw[hm],F5,hA,hf,FT,by omega,hn,sd,by omega,fun A' p' op Zd G6 F6 Xz e6 c6 n6 W6 hk6=>?_⟩;show Pv 7e1 _ _;rw[Uw];obtain⟨_,M5,_⟩:=F5.ex;have es:(takes 6e1 (hs++[h])).1=(S.take h).1:=by rw[oK,eS]
   have T6:aD G5 G6:=F5.tkp ((show Fm [] A2 {A' with nk:=A2.nk} G5 G6 from W6).mono (E:=[rl]) 0e0) eG;have e6r:G6 rl=some 1e11:=W6.kp _ _ eG nr 0e0;refine⟨_,_,_,A',p',hv++[v],hs++[h],rfl,by rw[es];exact F6,?_,?_,?_,by omega,W6.m1.1.trans hm,e6r,hH5.kt T6,by simp[lh],?_,fun z=>?_,⟨by rw[show A'.cl=A2.cl from W6.m1.2.1];exact nc.1,by rw[show A'.cs=A2.cs from W6.m1.2.2];exact nc.2⟩,fun a ha=>?_,fun b o e _=>W6.kp b o (KH5.at e) (fun z=>by rw[fr b z] at e;cases e) 0e0⟩
   ·rw[es,show 302 * 7e1=302 * i+302 by omega];exact FT.E3 h hf.1 hf.2 (fun j hj=>fK (by have:=(M5.lt j hj).1;omega) (by have:=(M5.lt j hj).2;have:=FT.md;omega)) 1e0
   ·rw[es];exact Cv hn h
   ·rw[es];exact Cp sd hn h
   ·intro x hx;rcases Κ.mp hx with hx|hx
    ·exact ok x hx
    ·rw[show x=h by simpa using hx];exact hf
   ·rcases W6.nw rl z with z|z
    ·exact nr z
    ·rw[eG] at z;cases z
   ·rcases W6.nw a ha with z|z
    ·exact fr a z
    ·exact KH5.cJ z
  intro Z G h;rw[Uw,Γ] at h;obtain⟨v4,v5,v6,A2,p,hv,hs,rfl,F,FT,hn,sd,hk,hm,eG,hH,lh,ok,nr,nc,fr,KG⟩:=h;right;wp_walk;exact q rl hv hs G eG hH ok 1e0 KG
theorem BI:Ok T (T.r 13) 1 (xA t.aQ):=by
 nomatch T.r 13
 ·obtain⟨x,dx,p,us,b,rfl,_⟩:=h;rfl
 ·obtain⟨x,dx,p,us,b,rfl,e,ep,hU,q⟩:=h
  nomatch (pss2 (dM T.c9 T.iI pv0 (aU 9e3)) (dM T.c9 T.e9 pv0 (aU 7e18))),0
  exists e
  refine fun lb f1=>?_;have n1:x≠lb:=aF e f1
  exists aE n1,e
  refine fun ln f2=>?_;have n2:x≠ln:=aF aA f2;have n3:lb≠ln:=aF 5e42 f2
  exists aE n2
  rw[aE n2.symm,aE n3.symm] at f2;have npx:p≠x:=dB ep e 4e1;have npl:=aF ep f1;have npn:=aF ep f2;have KK:Kp [x] H (Ul (Ul (Ul (Ul H lb (.lst [.ref p])) x (.ins t.aQ dx [("blocks",.ref lb)])) ln (.lst [.int 0])) x (.ins t.aQ dx [("blocks",.ref lb),("numbers",.ref ln)])):=fun b o eb nb=>by
   have Y8:b≠x:=by simpa using nb
   rw[aE Y8,aE (aF eb f2),aE Y8,aE (aF eb f1)];exact eb
  have TT:aD H _:=fun a xs ea=>KK a _ ea (by simp only[Α,Δ,Φ];exact dB ea e 4e1);refine q lb ln _ f1 f2 ⟨aA,⟨[.ref p],?_,.one (TT _ _ ep) (hU.kp TT)⟩,?_,n3,by simp⟩ KK
  ·rw[aE n1.symm,aE n3,aE n1.symm];exact aA
  ·rw[aE n2.symm];exact aA
theorem vN:Ok T (T.r 5) 1 (w9 t.aJ):=by
 nomatch T.r 5
 ·obtain⟨x,dx,rfl,_⟩:=h;rfl
 ·obtain⟨x,dx,rfl,e,q⟩:=h
  nomatch (pss3 (dM T.bI T.qQ pv0 aB) (dM T.bI T.gS pv0 kH) (dM T.bI T.gQ pv0 kH)),0
  exists e
  refine fun dp f1=>?_;have n1:x≠dp:=aF aA f1
  exists aE n1
  refine fun da f2=>?_;have n2:x≠da:=aF aA f2;have n3:dp≠da:=aF 5e42 f2
  exists aE n2
  rw[aE n1.symm] at f1;rw[aE n2.symm,aE n3.symm,aE n2.symm] at f2;refine q dp da _ f1 f2 ⟨aA,?_,?_,n3,by simp,.nil,by simp,by simp,by decide⟩ ?_
  ·rw[aE n1.symm,aE n3,aE n1.symm];exact aA
  ·rw[aE n2.symm];exact aA
  ·intro b o eb nb;have Y8:b≠x:=by simpa using nb
   rw[aE Y8,aE (aF eb f2),aE Y8,aE (aF eb f1),aE Y8];exact eb
theorem De:Ok T (T.r 28) 3 (AI ⟨t.aP,t.aQ,t.aJ⟩):=by
 nomatch T.r 28
 ·obtain⟨x,dx,pg,us,b,rfl,_⟩:=h;rfl
 ·obtain⟨x,dx,pg,us,b,rfl,e,ep,hs,q⟩:=h
  nomatch (aI (dM T.aT T.i5 pv0 (Ew T.C5 (BI T) (hr.mono 1e0) rfl T.Rv (T.r 13).bd .nil pass0 9e3)) (aI (dM T.aT T.dR pv0 1e8) (aI (dM T.aT T.yY pv0 cI) (aI (dM T.aT T.o7 pv0 aB) (pss3 (dM T.aT T.gF pv0 kH) (dM T.aT T.cS pv0 (Jf T.qP (vN T) (hr.mono 1e0) rfl T.IB (T.r 5).bd .nil pass0)) (dM T.aT T.gR pv0 kH)))))),0
  left
  exists e
  refine LA ep hs fun wk wx lb ln Gw Kw hwk hlb VU W0=>?_;have ew:=Kw.at e
  exists ew
  have g1:Ul Gw x 0e20 x=some 0e20:=aA;have K1:Kp [x] Gw (Ul Gw x 0e20):=Kp.set 0e0;generalize Ul Gw x 0e20=G1 at *;right;left
  exists g1
  refine fun p h2=>?_;obtain⟨g2,f2,K2,n2⟩:=put2 (o:=.tup [.str "new"]) (o':=.ins t.aP dx [("walk",.ref wk),("sleep",.ref p)]) g1 h2
  exists aE n2,g1
  generalize Ul (Ul G1 p 3e47) x (.ins t.aP dx [("walk",.ref wk),("sleep",.ref p)])=G2 at *;right;left
  exists g2
  have g3:Ul G2 x 4e19 x=some 4e19:=aA;have K3:Kp [x] G2 (Ul G2 x 4e19):=Kp.set 0e0;generalize Ul G2 x 4e19=G3 at *;right;left
  exists g3
  have g4:Ul G3 x 2e19 x=some 2e19:=aA;have K4:Kp [x] G3 (Ul G3 x 2e19):=Kp.set 0e0;generalize Ul G3 x 2e19=G4 at *;right;left
  exists g4
  refine fun nm h5=>?_;obtain⟨g5,f5,K5,n5⟩:=put2 (o:=.dK []) (o':=.ins t.aP dx [("walk",.ref wk),("sleep",.ref p),("arg",.Um),("now",.int 0),("names",.ref nm)]) g4 h5
  exists aE n5,g4
  generalize Ul (Ul G4 nm 2e12) x (.ins t.aP dx [("walk",.ref wk),("sleep",.ref p),("arg",.Um),("now",.int 0),("names",.ref nm)])=G5 at *;right;left
  exists g5
  refine Ry fun tk tx dp da Gt Kt htk ZK hda T0=>?_;have et:=Kt.at g5
  exists et
  have g6:Ul Gt x 1e19 x=some 1e19:=aA;have K6:Kp [x] Gt (Ul Gt x 1e19):=Kp.set 0e0;generalize Ul Gt x 1e19=G6 at *;right
  exists g6
  refine fun lt h7=>?_;obtain⟨g7,f7,K7,n7⟩:=put2 (o:=.dK []) (o':=.ins t.aP dx [("walk",.ref wk),("sleep",.ref p),("arg",.Um),("now",.int 0),("names",.ref nm),("tickets",.ref tk),("letters",.ref lt)]) g6 h7
  exists aE n7,g6
  generalize Ul (Ul G6 lt 2e12) x (.ins t.aP dx [("walk",.ref wk),("sleep",.ref p),("arg",.Um),("now",.int 0),("names",.ref nm),("tickets",.ref tk),("letters",.ref lt)])=G7 at *;have KA:Kp [x] H G4:=((((Kw.mono 0e0).trans K1).trans K2).trans K3).trans K4;have KB:Kp [x] H Gt:=(KA.trans K5).trans (Kt.mono 0e0);have KC:Kp [x] H G6:=KB.trans K6;have xwk:x≠wk:=aF e hwk;have xtk:x≠tk:=aF g5 htk;have W7:Kp [x] Gw G7:=(((((K1.trans K2).trans K3).trans K4).trans K5).trans (Kt.mono 0e0)).trans 0e32;have P7:Kp [x] G2 G7:=(((K3.trans K4).trans K5).trans (Kt.mono 0e0)).trans 0e32;have N7:Kp [x] G5 G7:=(Kt.mono 0e0).trans 0e32;have T7:Kp [x] Gt G7:=K6.trans K7;have KD:Kp [x] H G7:=KC.trans K7;have W5:Kp [x] Gw G5:=((((K1.trans K2).trans K3).trans K4).trans K5);have xlb:lb≠x:=(aF e hlb).symm;have xln:ln≠x:=(aF e VU).symm;have xdp:dp≠x:=(aF g5 ZK).symm;have xda:da≠x:=(aF g5 hda).symm;have nm6:=K6.at1 (Kt.at f5) n5.symm;have dp6:=K6.at1 T0.hp xdp;have da6:=K6.at1 T0.ha xda;have wk5:=W5.at1 W0.ins xwk.symm;have fr4:H nm=none:=Th KA g4 h5;have Zz:∀ {a:Addr},G5 a=none->H a=none:=fun h=>Th (KA.trans K5) g5 h;have aaM:H lt=none:=Th KC g6 h7;have kt7:aD Gw G7:=fun b xs hb=>W7.at1 hb (dB hb ew 4e1);refine q ⟨x,dx,wk,wx,lb,ln,nm,tk,tx,dp,da,lt⟩ 8e4 G7 rfl ⟨g7,⟨p,rfl,P7.at1 f2 n2.symm⟩,W0.keep (fun o h=>W7.at1 h xwk.symm) (fun o h=>W7.at1 h xlb) (fun o h=>W7.at1 h xln) kt7,T0.keep (fun o h=>T7.at1 h xtk.symm) (fun o h=>T7.at1 h xdp) (fun o h=>T7.at1 h xda),N7.at1 f5 n5.symm,⟨[],f7,.nil⟩,by simp,by simp,xwk,xtk,aF wk5 htk,aF f5 ZK,aF f5 hda,aF nm6 h7,(aF dp6 h7).symm,(aF da6 h7).symm⟩ KD fun a ha=>?_;simp only[Rn.cells,Α,Δ,Φ] at ha;rcases ha with rfl|rfl|rfl|rfl|rfl|rfl|rfl|rfl
  ·exact .inl rfl
  ·exact .inr hlb
  ·exact .inr VU
  ·exact .inr fr4
  ·exact .inr (Zz htk)
  ·exact .inr (Zz ZK)
  ·exact .inr (Zz hda)
  ·exact .inr aaM
theorem Co(IH:fG P w K mg base U7 n (t.a 67) (t.d 67) ["one","other"] (EE d)):Ok T 7e24 (n+1) (EE (d+1)):=by
 nomatch T.r 67
 ·obtain⟨v,u,d1,rfl,_⟩:=h;rfl
 ·obtain⟨v,u,d1,rfl,hd,hA,q⟩:=h
  nomatch (aI (pif (PW.pt (Jn (lB (aW pZ rfl T.eR eZ (pa2 pv0 (kZ (v:=.ty "bool") rfl T.J3 Ke rfl)))) (Dr (ptc BP (aW yK rfl T.eR eZ (pa2 pv0 5e27)) (aW yK rfl T.eR eZ (pa2 pv1 5e27)))))) 6e13) (aI (pif (ptc BP (aW pZ rfl T.eR eZ (pa2 pv0 4e27)) (aW pZ rfl T.eR eZ (pa2 pv1 4e27))) 6e13) (pss3 (pif (wD (lB (aW Fc rfl T.eR eZ (pa2 pv0 (LI (pa2 5e27 4e27)))))) (aG (aK (pcr aY pv0 pv1)))) (pif (ptc BP (aW cK rfl T.jW eV 5e11) 6e12) 6e13) (aK (pcr 8e30 (k5 (fr:=[0,1]) (N:=["k","one","other"]) rfl 0e3 (eD.free rfl rfl rfl rfl rfl (fun _ _ h=>by first|exact h|exact look2 7e0 h) rfl 7e0 rfl (fun j hj=>by rcases(show j=0\/j=1 by simpa using hj) with rfl|rfl<;>exact⟨_,rfl,rfl,.inl rfl⟩)) 2e39 (fun C s H ex pn=>⟨iF (wD (lB (tG IH (hr.mono 1e0) rfl (T.r 67).m (T.r 67).fn.kp (T.r 67).bd .nil pass0 (c0 (Je aN 5e2 0e1 1e2) (c0 (Je aN (pv 2) 0e1 1e2) bM))))) ,0e1 ⟩)) 8e0))))),0
  cases hA with
  | atom h =>
   cases v with
   | Um =>
    wp_walk;refine fun p hp=>?_;refine⟨["list","tuple"],_,rfl,rfl,?_⟩;simp only[rN]
    exists show(["list","tuple"].any (CZ "NoneType"))=false by decide,Bool.not_false
    exact q _ 7e2
   | str z =>
    wp_walk;refine fun p hp=>?_;refine⟨["list","tuple"],_,rfl,rfl,?_⟩;simp only[rN]
    exists show(["list","tuple"].any (CZ "str"))=false by decide,Bool.not_false
    exact q _ 7e2
   | int z =>
    wp_walk;refine fun p hp=>?_;refine⟨["list","tuple"],_,rfl,rfl,?_⟩;simp only[rN]
    exists show(["list","tuple"].any (CZ "int"))=false by decide,Bool.not_false
    exact q _ 7e2
   | _=>exact h.elim
  | @tup dd a b xs ys ea eb hl hx hi =>
   obtain rfl:dd=d:=by omega
   exists ea,eb
   refine fun p hp=>?_;generalize hg:Ul H p (.UJ (zQ ["list","tuple"]) (.tup [.ty "list",.ty "tuple"]))=G1;have N1:Kp [] H G1:=hg▸Kp.new hp;clear hg;refine⟨["list","tuple"],_,rfl,rfl,?_⟩;have ea1:=N1.at ea;have eb1:=N1.at eb;have ek:rN G1 3e2=some "tuple":=by
    simp only[rN,ea1];rfl
   exists ek,show(["list","tuple"].any (CZ "tuple"))=true by decide,ea1,eb1,hl
   refine⟨by omega,?_⟩;refine Bw (lo:=0) (fun j zs G=>zs=[]/\Kp [] G1 G) ⟨rfl,Kp.refl⟩ ?_ ?_ ?_
   ·rintro j zs G ⟨rfl,_⟩;simp
   ·rintro j zs G hj ⟨rfl,KG⟩;have ea2:=KG.at ea1;have eb2:=KG.at eb1;have hj1:j < xs.length:=by omega
    have hj2:j < ys.length:=by omega
    have i1:gL xs (j:Int)=some xs[j]:=by rw[dQ];exact Τ hj1
    have i2:gL ys (j:Int)=some ys[j]:=by rw[dQ];exact Τ hj2
    have hc:=hi j _ _ (Τ hj1) (Τ hj2)
    exists bA,Α8,Int.zero_add,ea2,eb2,i1,i2
    refine⟨_,_,dd,rfl,rfl,hc.kp (N1.trans KG),fun H' K'=>?_⟩;wp_walk;exact KG.trans K'
   rintro zs G ⟨rfl,KG⟩ l h2;wp_walk;refine fun l2 h3=>⟨true,Pc ((q0D h3).at aA) aA,?_⟩;exact q _ ((N1.trans KG).trans ((Kp.new h2).trans 8e54))
theorem jN{t:Ad}(T:Tx P w base K mg t):∀ d,fG P w K mg base U7 (d+1) (t.a 67) (t.d 67) ["one","other"] (EE d)
 | 0=>(BD T).imp fun vs H Q E ⟨v,u,d',_,hd,h,_⟩=>by subst hd;cases h
 | d+1=>Co T (jN T d)
theorem iA:Ok T (T.r 7) 1 (Ci t.aJ):=by
 nomatch T.r 7
 ·obtain⟨tk,tx,dp,da,made,pend,ans,w,rfl,_⟩:=h;rfl
 ·obtain⟨tk,tx,dp,da,made,pend,ans,w,rfl,R,q⟩:=h;have hu:=lF hr
  nomatch (aG (aK (Pq (Et hu pv1 0e17)))),0
  exists R.ins,R.hp,wA
  exact q
theorem qW:Ok T (T.r 32) 2 (JI ⟨t.aP,t.aQ,t.aJ⟩):=by
 nomatch T.r 32
 ·obtain⟨R,as,sl,S,v,h,rfl,_⟩:=h;rfl
 ·obtain⟨R,as,sl,S,v,h,rfl,A,hn,hH,q⟩:=h
  nomatch (aI (pst 2 5e0) (pss3 (pif 0e43 (aG (aK (pcr BP pv2 aC)))) (pif (eC jV (pix aN 6e5 aB) (aV 9e12) 0e4) 6e13) (aK (MD 3e49 (mK (Pp 3e49 (mK (Pr (pmt 1e4 T.bI (iA T) (T.r 7) (pa1 5e0)))))))))),0
  obtain⟨a,rfl,eh⟩:=hH;cases es:S.sl with
  | Um=>rw[es] at hn;cases hn
  | new =>
   have UD:=A.slp;rw[es] at UD;obtain⟨p,rfl,ep⟩:=UD;cases h with
   | U2 m w =>
    simp only[Hap.vs,Hap.ini,Hap.w,ϐ,Α4] at eh;rw[show S.over 6e8=false by simp only[Pu.over,es]] at q
    exists A.ins,eh,ep
    exact q _ Kp.refl
   | don m i w =>
    simp only[Hap.vs,Hap.ini,Hap.w,ϐ,Α4] at eh;rw[show S.over 3e6=true by simp only[Pu.over,es]] at q
    exists A.ins,eh,ep
    exact q _ Kp.refl
   | ltr m k w =>
    simp only[Hap.vs,Hap.ini,Hap.w,ϐ,Α4] at eh;rw[show S.over 1e18=true by simp only[Pu.over,es]] at q
    exists A.ins,eh,ep
    exact q _ Kp.refl
  | wait ts =>
   have UD:=A.slp;rw[es] at UD;obtain⟨p,p2,rfl,ep,Zs⟩:=UD;cases h with
   | U2 m w =>
    simp only[Hap.vs,Hap.ini,Hap.w,ϐ,Α4] at eh;rw[show S.over 6e8=true by simp only[Pu.over,es]] at q
    exists A.ins,eh,ep
    refine fun p9 h9=>⟨rfl,by decide +kernel,?_⟩;rw[if_neg 7e7];have N9:=q0D (o:=.tup [.str "ended",.str "worn"]) h9
    exists N9.at eh
    exact q _ N9
   | don m i w =>
    simp only[Hap.vs,Hap.ini,Hap.w,ϐ,Α4] at eh;rw[show S.over 3e6 = !decide 3e22 by simp only[Pu.over,es]] at q
    exists A.ins,eh,ep
    refine fun p9 h9=>⟨rfl,by decide +kernel,?_⟩;rw[if_neg 7e7];have N9:=q0D (o:=.tup [.str "ended",.str "worn"]) h9;have A9:=A.kp N9;have eh9:=N9.at eh;generalize Ul H p9 3e41=G9 at *
    exists A9.ins,A9.tk.ins,eh9
    refine⟨R.tk,R.tx,R.dp,R.da,_,_,_,some i,rfl,A9.tk,?_⟩;wp_walk;rw[show decide (∃ j,j∈S.pend/\(some i:Wo)=some j)=decide 3e22 by simp];exact q _ N9
   | ltr m k0 w =>
    simp only[Hap.vs,Hap.ini,Hap.w,ϐ,Α4] at eh;rw[show S.over 2e52=false by simp only[Pu.over,es]] at q
    exists A.ins,eh,ep
    refine fun p9 h9=>⟨rfl,by decide +kernel,?_⟩;rw[if_neg 7e7];have N9:=q0D (o:=.tup [.str "ended",.str "worn"]) h9
    exists N9.at eh
    exact q _ N9
  | Ur k =>
   have UD:=A.slp;rw[es] at UD;obtain⟨p,rfl,ep⟩:=UD;cases h with
   | U2 m w =>
    simp only[Hap.vs,Hap.ini,Hap.w,ϐ,Α4] at eh;rw[show S.over 6e8=true by simp only[Pu.over,es]] at q
    exists A.ins,eh,ep
    refine fun p9 h9=>⟨rfl,by decide +kernel,?_⟩;rw[if_neg 7e7];have N9:=q0D (o:=.tup [.str "ended",.str "worn"]) h9
    exists N9.at eh
    exact q _ N9
   | don m i w =>
    simp only[Hap.vs,Hap.ini,Hap.w,ϐ,Α4] at eh;rw[show S.over 3e6 = !decide 3e22 by simp only[Pu.over,es]] at q
    exists A.ins,eh,ep
    refine fun p9 h9=>⟨rfl,by decide +kernel,?_⟩;rw[if_neg 7e7];have N9:=q0D (o:=.tup [.str "ended",.str "worn"]) h9;have A9:=A.kp N9;have eh9:=N9.at eh;generalize Ul H p9 3e41=G9 at *
    exists A9.ins,A9.tk.ins,eh9
    refine⟨R.tk,R.tx,R.dp,R.da,_,_,_,some i,rfl,A9.tk,?_⟩;wp_walk;rw[show decide (∃ j,j∈S.pend/\(some i:Wo)=some j)=decide 3e22 by simp];exact q _ N9
   | ltr m k0 w =>
    simp only[Hap.vs,Hap.ini,Hap.w,ϐ,Α4] at eh;rw[show S.over 2e52=false by simp only[Pu.over,es]] at q
    exists A.ins,eh,ep
    refine fun p9 h9=>⟨rfl,by decide +kernel,?_⟩;rw[if_neg 7e7];have N9:=q0D (o:=.tup [.str "ended",.str "worn"]) h9
    exists N9.at eh
    exact q _ N9
  | ended w =>
   have UD:=A.slp;rw[es] at UD;obtain⟨p,rfl,ep⟩:=UD;have e0:∃(kd:Str) (xs:List V),H a=some 8e46:=by cases h<;>exact⟨_,_,eh⟩
   obtain⟨kd,xs,e0⟩:=e0;rw[show S.over (h)=true by simp only[Pu.over,es]] at q
   exists A.ins,e0,ep
   refine fun p9 h9=>⟨rfl,by decide +kernel,?_⟩;rw[if_pos 7e7];exact q _ 4e54
  | worn =>
   have UD:=A.slp;rw[es] at UD;obtain⟨p,rfl,ep⟩:=UD;have e0:∃(kd:Str) (xs:List V),H a=some 8e46:=by cases h<;>exact⟨_,_,eh⟩
   obtain⟨kd,xs,e0⟩:=e0;rw[show S.over (h)=true by simp only[Pu.over,es]] at q
   exists A.ins,e0,ep
   refine fun p9 h9=>⟨rfl,by decide +kernel,?_⟩;rw[if_pos 7e7];exact q _ 4e54
theorem iD:Ok T 6e27 1 (pS t.aQ):=by
 nomatch T.r 16
 ·obtain⟨wk,wx,lb,ln,k,n,b,r,rfl,_⟩:=h;rfl
 ·obtain⟨wk,wx,lb,ln,k,n,b,r,rfl,W,q⟩:=h
  nomatch (aG (LN 1e13 9e5 Rg aB Eg wW)),0
  obtain⟨vs,eb,hB⟩:=W.bl;obtain⟨l,el,WM⟩:=qU k n b r;have en:=W.nu;rw[el] at en;have i2:gL 4e29 (-1)=some 1e35:=by rw[Α7];exact jZ _ _
  have i3:xW ((l++[(n:Int)]).map V.int).length (-1)=some l.length:=by
   unfold xW;simp;omega
  have i4:((l++[(n:Int)]).map V.int).set l.length (.int ((n:Int)+1))=(l++[((n+1:Nat):Int)]).map V.int:=by simp
  exists W.ins,en,i2,i3,i4
  have n1:wk≠ln:=dB W.ins W.nu 4e1;have K1:Kp [ln] H 8e37:=Kp.jQ;have T1:aD H 8e37:=fun a xs e=>by rw[aE (dB e W.nu 4e1)];exact e
  exact q _ ⟨by rw[aE n1];exact W.ins,⟨vs,by rw[aE W.ne];exact eb,(hB.kp T1).turn⟩,by rw[aA,WM],W.ne,W.UO⟩ K1
theorem gH:Ok T 3e28 1 (xB t.aQ):=by
 nomatch T.r 15
 ·obtain⟨wk,wx,lb,ln,k,n,b,r,m,rfl,_⟩:=h;rfl
 ·obtain⟨wk,wx,lb,ln,k,n,b,r,m,rfl,W,hm,q⟩:=h
  nomatch (aG (aK (pix aN (pix aN 9e16 9e5) (pix aN 1e13 9e5)))),0
  obtain⟨vs,eb,hB⟩:=W.bl;obtain⟨ws,p,us,rfl,ep,hU,_,_⟩:=hB.last;obtain⟨l,el,_⟩:=qU k n b r;have en:=W.nu;rw[el] at en;have hn:n < us.length:=by
   have:=(Μ.mp hm).1;have:=hU.len;omega
  obtain⟨m',hm',hM⟩:=hU.at (Τ hn);rw[hm] at hm';cases hm';have i1:gL 0e49 (-1)=some 8e4:=jZ _ _;have i2:gL 4e29 (-1)=some 1e35:=by rw[Α7];exact jZ _ _
  have i3:gL us (n:Int)=some us[n]:=dQ (Τ hn)
  exists W.ins,eb,en,i1,i2,ep,i3
  exact q _ hM
theorem Ap:Ok T (T.r 18) 2 (zO t.aQ):=by
 nomatch T.r 18
 ·obtain⟨wk,wx,lb,ln,k,n,b,x,r,m,rfl,_⟩:=h;rfl
 ·obtain⟨wk,wx,lb,ln,k,n,b,⟨kx,bx,nx⟩,r,m,rfl,W,hm,q⟩:=h
  nomatch (aI (aO (tI 9e16)) (pss3 1e51 1e51 (pif (ptc aY (pix aN 4e28 aB) aC) (aG (aO (pmt0 pv0 T.c9 (iD T) 6e27)))))),0
  obtain⟨vs,eb,hB⟩:=W.bl;have n1:wk≠ln:=dB W.ins W.nu 4e1;have n2:wk≠lb:=dB W.ins eb 4e1;obtain⟨ws,p,us,rfl,ep,hU,hBr,_⟩:=hB.last;have hB2:=hBr 0e0;have nu0:H ln=some 9e44:=by rw[W.nu,qV];simp
  have UO:=W.UO;simp only[Ζ] at UO;left
  exists W.ins,eb,qJ,List.dropLast_concat
  have T1:=aD.dJ (ys:=ws) eb;have i1:Ul H lb 9e11 wk=some 4e26:=by rw[aE n2];exact W.ins
  have i2:Ul H lb 9e11 ln=some 9e44:=by rw[aE W.ne.symm];exact nu0
  have i3:Ul H lb 9e11 lb=some 9e11:=aA;have K1:Kp [lb] H (Ul H lb 9e11):=Kp.jQ;have B1:=hB2.kp T1;generalize Ul H lb 9e11=G at *;right;left
  exists i1,i2,qJ,List.dropLast_concat
  have T2:=aD.dJ (ys:=(bR 7e9).map V.int++[.int kx]) i2;have j1:Ul G ln (.lst 8e9) wk=some 4e26:=by rw[aE n1];exact i1
  have j2:Ul G ln (.lst 8e9) ln=some (.lst 8e9):=aA;have j3:Ul G ln (.lst 8e9) lb=some 9e11:=by rw[aE W.ne];exact i3
  have K2:Kp [ln] G (Ul G ln (.lst 8e9)):=Kp.jQ;have B2:=B1.kp T2;generalize Ul G ln (.lst 8e9)=G2 at *;right;left
  exists j1,j2,qJ,List.dropLast_concat
  have T3:=aD.dJ (ys:=(bR 7e9).map V.int) j2;have W3:jH t.aQ (Ul G2 ln 8e19) wk wx lb ln 7e9:=⟨by rw[aE n1];exact j1,⟨ws,by rw[aE W.ne];exact j3,B2.kp T3⟩,aA,W.ne,by simp only[Ζ];omega⟩;have K3:Kp [ln] G2 (Ul G2 ln 8e19):=Kp.jQ;generalize Ul G2 ln 8e19=G3 at *;right;have K13:Kp [lb,ln] H G3:=((K1.mono 0e0).trans (K2.mono 0e0)).trans (K3.mono 0e0)
  exists W3.ins
  refine⟨wk,wx,lb,ln,k,n,b,r,m,rfl,W3,hm,fun v hv=>?_⟩;obtain⟨a,kd,xs,rfl,ea,hk⟩:=hv.Rm
  exists ea
  by_cases hi:m.Af=true
  ·rw[hi] at hk q;have hkd:kd = "if":=by simpa using hk
   subst hkd
   exists W3.ins
   exact⟨wk,wx,lb,ln,k,n,b,r,rfl,W3,fun H4 W4 K4=>q H4 W4 (K13.trans (K4.mono 0e0))⟩
  ·have XW:m.Af=false:=by simpa using hi
   rw[XW] at hk q;have hkd:(kd = "if")=False:=by simpa using hk
   exists hkd
   exact q G3 W3 K13
theorem xY:Ok T (T.r 14) 3 (Cm t.aQ):=by
 nomatch T.r 14
 ·obtain⟨wk,wx,lb,ln,st,rfl,_⟩:=h;rfl
 ·obtain⟨wk,wx,lb,ln,st,rfl,W0,ok0,q0,q1⟩:=h
  nomatch (pss2 (pJ Δ6 (ptc aY (pix aN 1e13 9e5) (aW cK rfl T.jW eV (pa1 (pix aN 9e16 9e5)))) (pss2 (pif (ptc aY (aW cK rfl T.jW eV (pa1 9e16)) aB) 5e22) (aO (pmt0 pv0 T.c9 (Ap T) (T.r 18))))) (aK 4e28)),0
  obtain⟨Y,hV⟩:∃ Y:Nat->St->Hp->Prop,∀ m Z G,Y m Z G = ∃ UL:Stk,Z=[some (.ref wk)]/\jH t.aQ G wk wx lb ln UL/\yF UL/\bO UL=bO st/\m=UL.length/\Kp [lb,ln] H G:=⟨_,fun _ _ _=>rfl⟩
  try simp only[Lake.start,ϔ,List.map_nil,Ζ,ϕ,Nat.reduceAdd,Nat.reduceSub,List.replicate_zero,ϛ]
  refine⟨Y,⟨st.length,?_⟩,?_⟩
  ·rw[hV];exact⟨st,rfl,W0,ok0,rfl,rfl,Kp.refl⟩
  intro m Z G hG;rw[hV] at hG;obtain⟨UL,rfl,W,ok,Yq,rfl,KG⟩:=hG;have back:∀(VY:Stk) (G2:Hp),jH t.aQ G2 wk wx lb ln VY->yF VY->bO VY=bO st->VY.length < UL.length->Kp [lb,ln] H G2->∃ m',m' < UL.length/\Y m' [some (.ref wk)] G2:=fun VY G2 a b c d e=>by
   refine⟨VY.length,d,?_⟩;rw[hV];exact⟨VY,rfl,a,b,c,rfl,e⟩
  clear hV
  match UL,ok with
  | (k,b,n)::r,ok =>
   obtain⟨vs,eb,hB⟩:=W.bl;obtain⟨ws,p,us,rfl,ep,hU,hBr,hBn⟩:=hB.last;obtain⟨l,el,_⟩:=qU k n b r;have en:=W.nu;rw[el] at en;have i1:gL 0e49 (-1)=some 8e4:=jZ _ _;have i2:gL 4e29 (-1)=some 1e35:=by rw[Α7];exact jZ _ _
   have lu:=hU.len;have lw:=hB.len
   exists W.ins,eb,en,i1,i2,ep
   by_cases hn:n=b.length
   ·rw[if_pos 1e0]
    exists W.ins,eb,en
    refine⟨fun Z' G'=>∃ m',m' < r.length+1/\Y m' Z' G',fun _ _ z=>z,?_⟩
    match r,ok,W,Yq,back,hBn,lw with
    | [],ok,W,Yq,back,hBn,lw =>
     have e0:bO st=[(k,b,n)]:=by rw[<- Yq];simp[bO]
     rw[if_pos (by have:=lw.1;simp only[Ζ,ϕ] at this;omega)];exact q0 G 2e47 5e46 (by rw[e0];simp[bL,hn]) KG
    | (k2,b2,n2)::r,ok,W,Yq,back,hBn,lw =>
     rw[if_neg (by have:=lw.1;simp only[Ζ] at this;omega)];have h2:n2 < b2.length:=ok.2 (k2,b2,n2) 0e0;have hm:b2[n2]?=some b2[n2]:=Τ h2;have ho:mD b2 n2=if (b2[n2]).Af=true then n2+1 else n2:=by unfold mD;rw[hm]
     refine⟨wk,wx,lb,ln,k2,n2,b2,(k,b,n),r,b2[n2],rfl,W,hm,fun H' W' K'=>?_⟩;rw[<- ho] at W';refine back _ H' W' ⟨BG h2,fun x hx=>ok.2 x (ϑ _ hx)⟩ ?_ 0e0 (Kp.trans KG K');rw[<- Yq]
     conv=>rhs;rw[bO]
     rw[if_pos hn]
   ·rw[if_neg 1e0];have h2:n < b.length:=by have:=ok.1;omega
    have hm:b[n]?=some b[n]:=Τ h2;have e0:bO st=(k,b,n)::r:=by
     rw[<- Yq];cases r with
     | nil=>simp[bO]
     | cons x r=>obtain⟨k2,b2,n2⟩:=x;simp[bO,hn]
    exact⟨wk,wx,lb,ln,k,n,b,r,b[n],rfl,W,hm,fun v hv=>q1 b[n] v G 2e47 5e46 (by rw[e0];exact hm) hv KG⟩
theorem jM:Ok T (T.r 11) 1 (ER t.aJ):=by
 nomatch T.r 11
 ·obtain⟨tk,tx,dp,da,made,pend,ans,rfl,_⟩:=h;rfl
 ·obtain⟨tk,tx,dp,da,made,pend,ans,rfl,R,q⟩:=h
  nomatch (aG (aO (Gk 0e17))),0
  exists R.ins,R.hp
  have n1:=R.n1;exact q _ ⟨by rw[aE n1.1];exact R.ins,aA,by rw[aE R.nda.symm];exact R.ha,R.nda,by simp,.nil,R.la,by simp,R.small⟩ Kp.jQ
theorem yZ:Ok T 6e34 2 (JD ⟨t.aP,t.aQ,t.aJ⟩):=by
 nomatch T.r 39
 ·obtain⟨R,as,sl,S,w,rfl,_⟩:=h;rfl
 ·obtain⟨R,as,sl,S,w,rfl,A,q⟩:=h
  nomatch (pss3 (dM T.aT T.dR pv0 2e21) 5e40 (aK (aU (pa1 2e21)))),0
  left
  exists A.ins
  refine fun p hp=>?_;have N1:=q0D (o:=.tup [.str "ended",wv w]) hp;have e1:Ul H p 3e29 p=some 3e29:=aA;have A1:=A.kp N1
  exists N1.at A.ins
  have A2:=A1.attr 8e4 (.ended w) S.ar S.nw ⟨p,rfl,e1⟩;have F2:=(Fw.of (R:=R) (as:=as) N1).trans (Fw.set (p:=R.x) (o:=1e20) 8e1);generalize Ul (Ul H p 3e29) R.x 1e20=G2 at *;right;left
  exists A2.ins,A2.tk.ins
  refine⟨R.tk,R.tx,R.dp,R.da,_,_,_,rfl,A2.tk,fun H3 T3 K3=>?_⟩;have K4:Kp [R.tk,R.dp,R.da] G2 H3:=K3.mono 5e16
  have A3:=A2.tick T3 K4;have F3:=F2.trans 1e52;wp_walk;right;wp_walk;refine fun p3 h3 c h4=>?_;have N3:=(q0D (o:=.tup [.str "end",wv w]) h3).trans 9e9;exact q _ c [.ref p3] _ 0e33 9e30 aA 1e10 9e29
theorem xX:Ok T (T.r 40) 2 (JN ⟨t.aP,t.aQ,t.aJ⟩):=by
 nomatch T.r 40
 ·obtain⟨R,as,sl,S,rfl,_⟩:=h;rfl
 ·obtain⟨R,as,sl,S,rfl,A,q⟩:=h
  nomatch (pss3 (dM T.aT T.dR pv0 1e8) 5e40 (aK (aU (pa1 1e8)))),0
  left
  exists A.ins
  refine fun p hp=>?_;have N1:=q0D (o:=.tup [.str "worn"]) hp;have e1:Ul H p 4e16 p=some 4e16:=aA;have A1:=A.kp N1
  exists N1.at A.ins
  have A2:=A1.attr 8e4 (.worn) S.ar S.nw ⟨p,rfl,e1⟩;have F2:=(Fw.of (R:=R) (as:=as) N1).trans (Fw.set (p:=R.x) (o:=1e20) 8e1);generalize Ul (Ul H p 4e16) R.x 1e20=G2 at *;right;left
  exists A2.ins,A2.tk.ins
  refine⟨R.tk,R.tx,R.dp,R.da,_,_,_,rfl,A2.tk,fun H3 T3 K3=>?_⟩;have K4:Kp [R.tk,R.dp,R.da] G2 H3:=K3.mono 5e16
  have A3:=A2.tick T3 K4;have F3:=F2.trans 1e52;wp_walk;right;wp_walk;refine fun p3 h3 c h4=>?_;have N3:=(q0D (o:=.tup [.str "worn"]) h3).trans 9e9;exact q _ c [.ref p3] _ 0e33 9e30 aA 1e10 9e29
theorem mG:Ok T 2e25 1 MJ:=by
 nomatch T.r 3
 ·obtain⟨w,rfl,_⟩:=h;rfl
 ·obtain⟨w,rfl,q⟩:=h
  nomatch (aG (aK (pG (ptc mI pv0 cI) aB pv0))),0
  exists DK
  cases w with
  | none=>exact q
  | some n=>exact q
theorem sZ:Ok T 0e19 1 Dv:=by
 nomatch T.r 0
 ·obtain⟨n,rfl,_⟩:=h;rfl
 ·obtain⟨n,rfl,q⟩:=h
  nomatch (aG (aK (aW 3e14 rfl T.AU oB (pa2 (fY eE 6e38) (aW 4e24 rfl T.GS zX (pa2 6e38 pv0)))))),0
  wp_walk;exact q
theorem i7:Ok T 1e25 1 MK:=by
 nomatch T.r 4
 ·obtain⟨b,rfl,_⟩:=h;rfl
 ·obtain⟨b,rfl,q⟩:=h
  nomatch (aG (aK (pG (lB pv0) aB aB))),0
  wp_walk;cases b<;>exact q
theorem Gh:Ok T (T.r 2) 2 Cd:=by
 nomatch T.r 2
 ·obtain⟨g,a,b,rfl,_⟩:=h;rfl
 ·obtain⟨g,a,b,rfl,ha,q⟩:=h
  nomatch (aI (pif 6e21 (aG (aK (pcl (i7 T) 1e25 (pa1 (pcr aY pv1 pv2)))))) (aI (pst 3 (pcl (mG T) 2e25 9e3)) (aI (pst 4 (pcl (mG T) 2e25 4e8)) (aI (pif 6e21 (aG (aK (pcl (i7 T) 1e25 (pa1 (pcr jP pv3 pv4)))))) (pss3 (pif 6e21 (aG (aK (pcl (sZ T) 0e19 (pa1 (bH cR pv3 pv4)))))) (pif 6e21 (aG (aK (pcl (sZ T) 0e19 (pa1 (bH i9 pv3 pv4)))))) (aK (pcl (sZ T) 0e19 (pa1 (bH oH pv3 pv4))))))))),0
  have b1:=uV ha;cases g with
  | eq =>
   exists Sg.s
   have sc0:U6 .Um .Um=true:=rfl;have sc1:∀ i,U6 .Um 3e35=true:=fun _=>rfl;have sc2:∀ i,U6 3e35 .Um=true:=fun _=>rfl;have sc3:∀ i j,U6 3e35 2e35=true:=fun _ _=>rfl;cases a with
   | none=>cases b with
    | none=>simpa[GV,sc0,sc1,sc2,sc3,wv,BZ,Sg.of] using q
    | some n=>simpa[GV,sc0,sc1,sc2,sc3,wv,BZ,Sg.of] using q
   | some m=>cases b with
    | none=>simpa[GV,sc0,sc1,sc2,sc3,wv,BZ,Sg.of] using q
    | some n=>simpa[GV,sc0,sc1,sc2,sc3,wv,BZ,Sg.of] using q
  | lt =>
   exists Sg.s,Ε6
   exact q
  | add =>
   exists Sg.s
   exact q
  | sub =>
   exists Sg.s
   exact q
  | mul =>
   exists Sg.s
   exact⟨Em 1e0 1e0,q⟩
theorem Dz(hn:3<=n)(IH:fG P w K mg base U7 n (t.a 1) (t.d 1) ["saying","names","arg","now","answers"] (L6 d)):Ok T (T.r 1) (n+1) (L6 (d+1)):=by
  nomatch T.r 1
  · obtain⟨v,dn,da,p,s,rfl,_⟩:=h;rfl
  · obtain⟨v,dn,da,p,s,rfl,hS,hd,Ut,hN,hA,hP,q⟩:=h;have hu:=lF hr
    nomatch (aI (pst 5 6e2) (aI (pif 8e5 3e51) (aI (pif 8e5 5e22) (aI (pif 8e5 (aG (aK (tH hu pv1 6e2 ⟨rfl,rfl,rfl,rfl⟩)))) (aI (pif 8e5 (aG 8e18)) (aI (pif 8e5 (aG (aK (pcl (sZ T) 0e19 2e18)))) (aI (pst 6 5e37) (aI (pif 8e5 (aG (aK (tH hu pv4 pv6 ⟨rfl,rfl,rfl,rfl⟩)))) (pss3 (pif 8e5 (aG (aK (pcl (i7 T) 1e25 (pa1 (pcr aY (pcl (mG T) 2e25 (pa1 pv6)) aB)))))) (pst 7 5e37) (aK (pcl (Gh T) (T.r 2) (pa3 pv5 pv6 pv7)))))))))))),0
    cases hS with
    | num e =>
      exists e
      exact q
    | Um e =>
      exists e
      exact q
    | name e =>
      obtain⟨kvs,ek,hk⟩:=hN
      exists e,ek,hk
      exact q
    | arg e =>
      exists e
      exact q
    | now e =>
      exists e
      exact q
    | ans e h1 =>
      exists e
      simp only[Say.depth] at hd;refine⟨_,_,_,p,_,rfl,h1,by omega,Ut,hN,hA,hP,?_⟩;obtain⟨kvs,ek,hk⟩:=hA
      exists e,ek,hk
      exact q
    | neg e h1 =>
      exists e
      simp only[Say.depth] at hd;refine⟨_,_,_,p,_,rfl,h1,by omega,Ut,hN,hA,hP,?_⟩
      exists e,Ε6
      exact q
    | @two a v u g s1 s2 e h1 h2 =>
      simp only[Say.depth] at hd;cases g <;>
      ( exists e,Sg.s
        refine⟨_,_,_,p,_,rfl,h1,by omega,Ut.1,hN,hA,hP,?_⟩
        exists e,Sg.s
        refine⟨_,_,_,p,_,rfl,h2,by omega,Ut.2,hN,hA,hP,?_⟩
        exists e,Sg.s
        exact⟨_,_,_,rfl,DZ hP Ut.1,q⟩)
theorem Dj(T:Tx P w base K mg t):∀ d,fG P w K mg base U7 (d+3) (t.a 1) (t.d 1) ["saying","names","arg","now","answers"] (L6 d):=by
 intro d
 induction d with
 | zero=>exact⟨fun _ _ _ _ x=>by (obtain⟨_,_,_,_,s,_,_,h,_⟩:=x;exact absurd h (by have:=s.mY;omega)),fun _ _ _ _ _ _ _ _ _ _ _ _ _ x=>by (obtain⟨_,_,_,_,s,_,_,h,_⟩:=x;exact absurd h (by have:=s.mY;omega))⟩
 | succ d ih=>exact Dz T 1e0 ih
theorem dZ:Ok T (T.r 41) 10 (Cn ⟨t.aP,t.aQ,t.aJ⟩):=by
 nomatch T.r 41
 ·obtain⟨R,as,sl,S,v,s,rfl,_⟩:=h;rfl
 ·obtain⟨R,as,sl,S,v,s,rfl,A,ok,hS,so,q⟩:=h
  nomatch (aG (aK (pcl (Dj T 6) (T.r 1) (c0 pv1 (c0 9e10 (pa3 7e47 1e17 (aL T.bI T.gQ 1e4))))))),0
  exists A.ins,A.tk.ins
  exact⟨v,R.nm,R.da,S.pl,s,rfl,hS,so.2,so.1,⟨_,A.nm,o9 S.nm⟩,⟨_,A.tk.ha,oO S.ans⟩,ok,q⟩
theorem pB:Ok T (T.r 17) 2 (rF t.aQ):=by
 nomatch T.r 17
 ·obtain⟨wk,wx,lb,ln,k,n,c,b,bb,r,m,rfl,_⟩:=h;rfl
 ·obtain⟨wk,wx,lb,ln,k,n,c,b,bb,r,m,rfl,W,hm,hs,ZU,q⟩:=h
  nomatch (pss2 (aO (dS 9e16 (pix aN 4e28 (bH cR aB pv1)))) (aO (pH PySem.F.slot_list_extend PySem.F.type_list_extend sW 1e13 (pa1 (aU (pa2 pv1 aB)))))),0
  obtain⟨vs,eb,hB⟩:=W.bl;have n1:wk≠ln:=dB W.ins W.nu 4e1;have n2:wk≠lb:=dB W.ins eb 4e1;have lv:=hB.len
  exists W.ins,eb
  refine⟨wk,wx,lb,ln,k,n,b,r,m,rfl,W,hm,fun v hv=>?_⟩;obtain⟨a,p,xs,us,rfl,ea,hat,ep,hU⟩:=hv.subAt hs
  exists ea,hat,eb
  have lf:=W.UO;simp only[Ζ] at lv lf;refine⟨by omega,?_⟩;have T1:=aD.dJ (ys:=vs++[V.ref p]) eb;have i1:Ul H lb 8e12 wk=some 4e26:=by rw[aE n2];exact W.ins
  have i2:Ul H lb 8e12 ln=some 8e19:=by rw[aE W.ne.symm];exact W.nu
  have i3:Ul H lb 8e12 lb=some 8e12:=aA;have K1:Kp [lb] H (Ul H lb 8e12):=Kp.jQ;have B1:=hB.kp T1;have U1:=hU.kp T1;have p1:=T1 _ _ ep;generalize Ul H lb 8e12=G at *
  exists i1,i2
  refine fun l0 f0=>?_;have N0:=q0D (o:=.lst [.int c,.int 0]) f0
  exists N0.at i2,Γ
  have ll:=vI 7e9;simp only[Ζ] at ll;refine⟨by omega,?_⟩;have nl0:ln≠l0:=aF i2 f0;have nb0:lb≠l0:=aF i3 f0;have nw0:wk≠l0:=aF i1 f0;have T2:aD G (Ul (Ul G l0 (.lst [.int c,.int 0])) ln (.lst ((bR 7e9).map V.int++[.int c,.int 0]))):=(aD.nil N0).tr (aD.dJ (N0.at i2));refine q _ ⟨by rw[aE n1,aE nw0];exact i1,⟨_,by rw[aE W.ne,aE nb0];exact i3,.cons (B1.kp T2) (T2 _ _ p1) (U1.kp T2)⟩,by rw[aA,qV];simp,W.ne,by simp only[Ζ];omega⟩ ?_;intro d o ed nd;simp only[Α,Δ,Φ,not_or] at nd;have g1:=K1.at1 ed nd.1;rw[aE nd.2,aE (aF g1 f0)];exact g1
theorem Df:Ok T (T.r 38) 11 (EJ ⟨t.aP,t.aQ,t.aJ⟩ true):=by
 nomatch T.r 38
 ·obtain⟨R,as,sl,S,a,m,N,rfl,_⟩:=h;rfl
 ·obtain⟨R,as,sl,S,a,m,N,rfl,A,hs,hB,F,g,UC,q⟩:=h
  nomatch (aG (fZ (eC qZ 3e7 (aV (pa2 cI aB)) 0e4) 1e38 (aG (fZ (ptc aY 5e0 aC) 1e38 (aG 7e27))))),0
  obtain⟨k0,b0,n0,r0,VO,Y1⟩:=gO UC;have d0:=F.sk.dp;rw[VO] at d0;have ZU:r0.length<=90:=by have:=d0.1;omega
  have enter:∀(G:Hp) (_:bC ⟨t.aP,t.aQ,t.aJ⟩ G R as sl S) (_:Fw R as as H G) (c:Nat) (bb:List Stm),m.sub c=some bb->(∀ H',bC ⟨t.aP,t.aQ,t.aJ⟩ H' R as sl (S.enter c bb)->Fw R as as H H'->Q .Um H')->rF t.aQ [.ref R.wk,.int (c:Int)] G 2e46 E0:=fun G A FG c bb XC q=>by
   have W:=A.wk;rw[VO] at W;refine⟨R.wk,R.wx,R.lb,R.ln,k0,n0,c,b0,bb,r0,m,rfl,W,Y1,XC,ZU,fun H1 W1 K1=>?_⟩;rw[<- VO] at W1;exact q H1 (A.walk W1 K1) (FG.trans (A.uM W1 K1))
  have pass:∀(G:Hp) (_:bC ⟨t.aP,t.aQ,t.aJ⟩ G R as sl S) (_:Fw R as as H G),(∀ H',bC ⟨t.aP,t.aQ,t.aJ⟩ H' R as sl S.pass->Fw R as as H H'->Q .Um H')->pS t.aQ [.ref R.wk] G 2e46 E0:=fun G A FG q=>by
   have W:=A.wk;rw[VO] at W;refine⟨R.wk,R.wx,R.lb,R.ln,k0,n0,b0,r0,rfl,W,fun H1 W1 K1=>?_⟩;have e:(k0,b0,n0+1)::r0=fO S.stk:=by rw[VO];rfl
   rw[e] at W1;exact q H1 (A.walk W1 (K1.mono 0e0)) (FG.trans (A.uM W1 (K1.mono 0e0)))
  cases hs with
  | @UG a p v s vs b e1 h1 e2 h2 =>
   simp only[rP] at q
   exists A.ins,e1
   refine⟨R,as,sl,S,v,s,rfl,A,F.pl,h1,g.1,?_⟩
   exists A.ins,A.wk.ins,e1
   refine fun p0 h0=>⟨tP _,flat01,?_⟩;rw[yS];have N0:=q0D (o:=.tup [.Um,.int 0]) h0;have A0:=A.kp N0;have e0:=N0.at e1;have F0:=Fw.of (R:=R) (as:=as) N0;generalize Ul H p0 4e47=G0 at *;by_cases hw:num 9e1=0
   ·rw[if_pos hw] at q;rw[decide_eq_true hw]
    exists A0.ins,A0.wk.ins,e0
    exact pass G0 A0 F0 q
   ·rw[if_neg hw] at q;rw[Β7 hw]
    exists A0.ins,A0.wk.ins,e0
    exact enter G0 A0 F0 0 b rfl q
  | @iff a p p2 v s vs us b o e1 h1 e2 h2 e3 h3 =>
   simp only[rP] at q
   exists A.ins,e1
   refine⟨R,as,sl,S,v,s,rfl,A,F.pl,h1,g.1,?_⟩
   exists A.ins,A.wk.ins,e1
   refine fun p0 h0=>⟨tP _,flat01,?_⟩;rw[yS];have N0:=q0D (o:=.tup [.Um,.int 0]) h0;have A0:=A.kp N0;have e0:=N0.at e1;have F0:=Fw.of (R:=R) (as:=as) N0;generalize Ul H p0 4e47=G0 at *;by_cases hw:num 9e1=0
   ·rw[if_pos hw] at q;rw[decide_eq_true hw]
    exists A0.ins,A0.wk.ins,e0
    exact enter G0 A0 F0 1 o rfl q
   ·rw[if_neg hw] at q;rw[Β7 hw]
    exists A0.ins,A0.wk.ins,e0
    exact enter G0 A0 F0 0 b rfl q
  | _=>cases hB
theorem IT:Ok T (T.r 20) 11 8e36:=by
 nomatch T.r 20
 ·obtain⟨R,as,sl,S,a,m,N,rfl,_⟩:=h;rfl
 ·obtain⟨R,as,sl,S,a,m,N,rfl,A,UD,hs,⟨x,s,rfl⟩,F,g,hN,q⟩:=h
  nomatch (pss2 (ppt 9e10 5e0 3e7) (aK 8e0)),0
  cases hs with
  | @set a x v s e1 h1 =>
   have l1:(fE S.nm).length<=N:=by rw[fE,Γ];exact F.nm
   left
   exists A.ins,e1
   refine⟨R,as,sl,S,v,s,rfl,A,F.pl,h1,g,?_⟩
   exists A.ins,e1,A.nm,gG
   refine⟨by omega,?_⟩;have A1:=A.name x 9e1;have F1:=Fw.set (R:=R) (as:=as) (H:=H) (o:=.dK 2e30) (p:=R.nm) 8e1;generalize Ul H R.nm (.dK 2e30)=G1 at *;right;wp_walk;refine fun c hc=>?_;have N4:=q0D (o:=.lst []) hc;exact q _ c [] _ 5e6 1e3 aA .nil 0e5
theorem vO:Ok T (T.r 6) 1 (Cg t.aJ):=by
 nomatch T.r 6
 ·obtain⟨tk,tx,dp,da,made,pend,ans,rfl,_⟩:=h;rfl
 ·obtain⟨tk,tx,dp,da,made,pend,ans,rfl,R,hm,hl,q⟩:=h
  nomatch (aI (pst 1 (aL T.bI T.qQ pv0)) (pss3 (LM T.bI T.qQ pv0 aB) (ppt 0e17 pv1 vZ) (aK pv1))),0
  exists R.ins
  have n1:=R.n1;have nk:(made:Int)∉pend:=fun z=>by have:=R.lt _ z;omega
  exists aE n1.1.symm,R.hp,wF (.bl true) (Gp nk)
  refine⟨by simp only[jB,Γ];omega,?_⟩;refine q _ ⟨by rw[aE n1.1];exact aA,by rw[aA];simp[jB],by rw[aE R.nda.symm,aE n1.2.symm];exact R.ha,R.nda,fun i hi=>?_,?_,fun p hp=>?_,fun p hp z=>?_,by omega⟩ ?_
  ·rcases Κ.mp hi with hi|hi
   ·have:=R.lt i hi;omega
   ·rw[show i=(made:Int) by simpa using hi];omega
  ·refine List.pairwise_append.mpr ⟨R.asc,by simp,fun i hi j hj=>?_⟩;rw[show j=(made:Int) by simpa using hj];exact(R.lt i hi).2
  ·have:=R.la p hp;omega
  ·rcases Κ.mp z with z|z
   ·exact R.dis p hp z
   ·have:=R.la p hp;rw[show p.1=(made:Int) by simpa using z] at this;omega
  ·intro b o eb nb;simp only[Α,Δ,Φ,not_or] at nb;rw[aE nb.2,aE nb.1];exact eb
theorem lG:Ok T (T.r 42) 2 (JG ⟨t.aP,t.aQ,t.aJ⟩):=by
 nomatch T.r 42
 ·obtain⟨R,as,sl,S,n,rfl,_⟩:=h;rfl
 ·obtain⟨R,as,sl,S,n,rfl,A,b1,b2,b3,q⟩:=h
  nomatch (pss3 (pst 2 (pmt0 1e4 T.bI (vO T) (T.r 6))) (ppt 9e10 pv1 pv2) 8e18),0
  left
  exists A.ins,A.tk.ins
  refine⟨R.tk,R.tx,R.dp,R.da,S.made,S.pend,S.ans,rfl,A.tk,b1,b2,fun H1 T1 K1=>?_⟩;have K2:Kp [R.tk,R.dp,R.da] H H1:=K1.mono 5e16
  have A1:=A.tick T1 K2;have F1:=A.Bm T1 K2;wp_walk;right;left;have ep:aS 2e33 (.inr n) 5e47=fE (bZ S.nm n 4e7):=gG S.nm n 4e7;have l1:(fE S.nm).length<=1000000:=by rw[fE,Γ];exact b3
  exists A1.ins,A1.nm,ep
  refine⟨by omega,?_⟩;have A2:=A1.name n 4e7;have F2:=F1.trans (Fw.set (R:=R) (as:=as) (H:=H1) (o:=.dK 3e46) (p:=R.nm) 8e1);generalize Ul H1 R.nm (.dK 3e46)=G2 at *;right;wp_walk;exact q G2 A2 F2
theorem vP:Ok T (T.r 21) 11 9e25:=by
 nomatch T.r 21
 ·obtain⟨R,as,sl,S,a,m,N,rfl,_⟩:=h;rfl
 ·obtain⟨R,as,sl,S,a,m,N,rfl,A,UD,hs,⟨x,y,s,hm⟩,F,g,hN,q⟩:=h
  nomatch (pss3 (pst 2 3e7) (pst 3 5e39) (aK (aU (pa1 (aV (c0 5e0 (pa3 pv3 5e0 pv2))))))),0
  rcases hm with rfl|rfl
  ·cases hs with
   | @order a x y v s e1 h1 =>
    left
    exists A.ins,e1
    refine⟨R,as,sl,S,v,s,rfl,A,F.pl,h1,g,?_⟩;wp_walk;right;left
    exists A.ins,e1
    refine⟨R,as,sl,S,x,rfl,A,by have:=F.md;omega,by have:=F.pd;omega,by have:=F.nm;omega,fun H1 A1 F1=>?_⟩;have e2:=A.tkp F1 _ _ e1;wp_walk;right
    exists e2
    refine fun p3 h3 c h4=>?_;have N3:=(q0D (o:=.tup [.str "order",.int S.made,.str y,wv 9e1]) h3).trans 9e9;exact q _ c [.ref p3] _ 1e33 3e21 aA 1e10 0e21
  ·cases hs with
   | @child a x y v s e1 h1 =>
    left
    exists A.ins,e1
    refine⟨R,as,sl,S,v,s,rfl,A,F.pl,h1,g,?_⟩;wp_walk;right;left
    exists A.ins,e1
    refine⟨R,as,sl,S,x,rfl,A,by have:=F.md;omega,by have:=F.pd;omega,by have:=F.nm;omega,fun H1 A1 F1=>?_⟩;have e2:=A.tkp F1 _ _ e1;wp_walk;right
    exists e2
    refine fun p3 h3 c h4=>?_;have N3:=(q0D (o:=.tup [.str "child",.int S.made,.str y,wv 9e1]) h3).trans 9e9;exact q _ c [.ref p3] _ 1e33 3e21 aA 1e10 0e21
theorem Dh:Ok T (T.r 22) 11 9e36:=by
 nomatch T.r 22
 ·obtain⟨R,as,sl,S,a,m,N,rfl,_⟩:=h;rfl
 ·obtain⟨R,as,sl,S,a,m,N,rfl,A,UD,hs,⟨x,s,rfl⟩,F,g,hN,q⟩:=h
  nomatch (aI (pst 2 3e7) (pss3 (pst 3 (aW 4e24 rfl T.GS zX (pa2 (pF (v:=.int 1000000000000) rfl T.sE ⟨_,rfl⟩) (pG (ptc mI pv2 cI) 1e17 (bH cR 1e17 (aW 3e14 rfl T.AU oB (pa2 aB pv2))))))) (pst 4 5e39) (aK (aU (pa1 (aV (pa3 aC pv4 pv3))))))),0
  cases hs with
  | @UA a x v s e1 h1 =>
   left
   exists A.ins,e1
   refine⟨R,as,sl,S,v,s,rfl,A,F.pl,h1,g,?_⟩;wp_walk;right;refine cD fun R2 VD=>?_
   exists A.ins,DK
   have rest:R2 [some 0e54,some (V.ref a),some (wv 9e1),some (V.int (uB S.nw 9e1)),none] H:=by
    refine VD _ _ ?_;left
    exists A.ins,e1
    refine⟨R,as,sl,S,x,rfl,A,by have:=F.md;omega,by have:=F.pd;omega,by have:=F.nm;omega,fun H1 A1 F1=>?_⟩;wp_walk;right;wp_walk;refine fun p3 h3 c h4=>?_;have N3:=(q0D (o:=.tup [.str "timer",.int S.made,.int (uB S.nw 9e1)]) h3).trans 9e9;exact q _ c [.ref p3] _ 1e33 3e21 aA 1e10 0e21
   cases hw:S.worth s with
   | none =>
    rw[hw] at rest;rw[if_pos rfl];exact rest
   | some z =>
    rw[hw] at rest;rw[if_neg 0e0]
    exists wv
    exact rest
theorem Ge:Ok T (T.r 23) 11 5e36:=by
 nomatch T.r 23
 ·obtain⟨R,as,sl,S,a,m,N,rfl,_⟩:=h;rfl
 ·obtain⟨R,as,sl,S,a,m,N,rfl,A,UD,hs,⟨s,k,r,rfl⟩,F,g,hN,q⟩:=h
  nomatch (aG (aK (aU (pa1 (aV (c0 aC (pa3 3e7 5e0 3e7))))))),0
  cases hs with
  | @send a k v u s r e1 h1 h2 =>
   exists A.ins,e1
   refine⟨R,as,sl,S,v,s,rfl,A,F.pl,h1,g.1,?_⟩
   exists A.ins,e1
   refine⟨R,as,sl,S,u,r,rfl,A,F.pl,h2,g.2,?_⟩;wp_walk;have F1:Fw R as as H H:=Fw.refl;refine fun p3 h3 c h4=>?_;have N3:=(q0D (o:=.tup [.str "send",wv 9e1,.str k,wv 2e38]) h3).trans 9e9;exact q _ c [.ref p3] _ (A.kp N3) 3e21 aA 1e10 0e21
theorem mF:Ok T 8e34 1 (Cj t.aJ):=by
 nomatch T.r 10
 ·obtain⟨tk,tx,dp,da,made,pend,ans,i,rfl,_⟩:=h;rfl
 ·obtain⟨tk,tx,dp,da,made,pend,ans,i,rfl,R,hi,q⟩:=h
  nomatch (aG (aO (Jb 0e17 pv1 ⟨rfl,rfl,rfl,rfl⟩))),0
  obtain⟨v,hv⟩:=Gq hi
  exists R.ins,R.hp,hv,Gm
  have n1:=R.n1;exact q _ ⟨by rw[aE n1.1];exact R.ins,aA,by rw[aE R.nda.symm];exact R.ha,R.nda,fun j hj=>R.lt j 5e17,R.asc.filter _,R.la,fun p hp z=>R.dis p hp ((Α6.mp z).1),R.small⟩ Kp.jQ
theorem Gc:Ok T (T.r 24) 11 1e37:=by
 nomatch T.r 24
 ·obtain⟨R,as,sl,S,a,m,N,rfl,_⟩:=h;rfl
 ·obtain⟨R,as,sl,S,a,m,N,rfl,A,UD,hs,⟨s,rfl⟩,F,g,hN,q⟩:=h
  nomatch (aI (pst 2 3e7) (pss3 (pif (wD (lB (pmt 1e4 T.bI (iA T) (T.r 7) 4e8))) 2e51) (aO (pmt 1e4 T.bI (mF T) 8e34 4e8)) (aK (aU (pa1 (aV (pa2 aC pv2))))))),0
  cases hs with
  | @drop a v s e1 h1 =>
   left
   exists A.ins,e1
   refine⟨R,as,sl,S,v,s,rfl,A,F.pl,h1,g,?_⟩;wp_walk;right;left
   exists A.ins,A.tk.ins
   refine⟨R.tk,R.tx,R.dp,R.da,_,_,_,S.worth s,rfl,A.tk,?_⟩;by_cases hp:∃ i,i∈S.pend/\S.worth s=some i
   ·rw[decide_eq_true hp];obtain⟨i,hi,hw⟩:=hp;have hwv:wv 9e1=.int i:=by rw[hw];rfl
    have hd:bT S 6e18=({S with pend:=S.pend.filter fun j=>decide 4e9},[[.str "drop",.int i]]):=by simp only[bT,hw,if_pos hi]
    rw[hd] at q;wp_walk;right;left
    exists A.ins,A.tk.ins,hwv
    refine⟨R.tk,R.tx,R.dp,R.da,_,_,_,i,rfl,A.tk,hi,fun H3 T3 K3=>?_⟩;have K4:Kp [R.tk,R.dp,R.da] H H3:=K3.mono 5e16
    have A3:=A.tick T3 K4;have F3:=A.Bm T3 K4;wp_walk;right;wp_walk;refine fun p3 h3 c h4=>?_;have N3:=(q0D (o:=.tup [.str "drop",.int i]) h3).trans 9e9;exact q _ c [.ref p3] _ 0e33 9e30 aA 1e10 9e29
   ·rw[Β7 hp];have hd:bT S 6e18=(S,[]):=by
     cases hw:S.worth s with
     | none=>simp only[bT,hw]
     | some i=>simp only[bT,hw,if_neg (show ¬ i∈S.pend from fun z=>hp ⟨i,z,hw⟩)]
    rw[hd] at q;wp_walk;have F1:Fw R as as H H:=Fw.refl;refine fun c hc=>?_;have N4:=q0D (o:=.lst []) hc;exact q _ c [] _ (A.kp N4) 1e3 aA .nil 0e5
theorem nJ:Ok T (T.r 12) 1 (zM t.aJ):=by
 nomatch T.r 12
 ·obtain⟨tk,tx,dp,da,l,made,pend,ans,ws,rfl,_⟩:=h;rfl
 ·obtain⟨tk,tx,dp,da,l,made,pend,ans,ws,rfl,A,el,h4,ha,q⟩:=h;have hu:=lF hr
  nomatch (pss3 (wC (i:=2) sc rfl 5e52 (k5 (fr:=[0]) (N:=["worth","self"]) rfl 0e3 (eD.free rfl rfl rfl rfl rfl 4e25 rfl 7e0 rfl 4e35) (iE pv1) (fun C s H ex pn=>⟨iF (Py (Et hu 0e1 (aL T.bI T.gQ 5e2))) ,0e1 ⟩))) (pif (ptc jP (aW CI rfl T.jW eV (pa1 (bF (yL rfl) rfl T.Mi Hb 4e8))) aB) (aG (aK (pG (tM pv2 4e22) (pix aN pv2 aB) cI)))) (LP (aK (pix aN (k5 (fr:=[2]) (N:=["ticket","tickets"]) rfl 0e3 5e25 (LJ 6e47) 6e36) aB)))),0
  left
  exists el
  refine⟨⟨_,eY.of el⟩,?_⟩;obtain⟨Pv,Uw⟩:∃ Pv:Nat->List V->Hp->Prop,∀ i xs G,Pv i xs G=(G=H/\xs=(bY ans 7e22).map V.int):=⟨_,fun _ _ _=>rfl⟩;refine kQ (ys:=ws.map wv) Pv ?_ ?_ ?_ ?_ ?_
  ·rw[Uw];exact⟨rfl,rfl⟩
  ·intro i xs G h;rw[Uw] at h;rw[h.2,Γ];have:=mZ ans 7e22;have:(ws.take i).length<=ws.length:=by rw[Α3];omega
   omega
  ·intro i xs G h;rw[Uw] at h;rw[h.1];exact eY.of el
  ·intro i y xs G hi ey h;rw[Uw] at h;obtain⟨rfl,rfl⟩:=h;obtain⟨w0,ew,rfl⟩:∃ w0,ws[i]?=some w0/\y=wv w0:=by
    rw[Ψ] at ey;obtain⟨w0,a,b⟩:=ϗ.mp ey;exact⟨w0,a,b.symm⟩
   exists bA,Α8,A.ins,A.ha,Kb
   rw[Uw,Uw,CO ew];split
   ·exact⟨rfl,rfl⟩
   ·exact⟨rfl,rfl⟩
  intro xs G h p hp;rw[Uw] at h;obtain⟨rfl,rfl⟩:=h;rw[show ws.take (ws.map wv).length=ws by rw[Γ,ϝ]];right
  exists aA
  refine⟨bY ans ws,rfl,Χ (mZ ans ws) h4,fun c hc=>⟨_,rfl,?_⟩⟩;have n1:p≠c:=aF aA hc;have K2:∀ o,Kp [] G (Ul (Ul G p 5e12) c o):=fun o=>(Kp.new hp).trans 3e54;have e2:∀ o,Ul (Ul G p 5e12) c o p=some 5e12:=fun o=>by rw[aE n1,aA]
  generalize hG2:Ul (Ul G p 5e12) c _=G2;replace K2:Kp [] G G2:=hG2▸K2 _;replace e2:G2 p=some 5e12:=hG2▸e2 _;clear hG2;have A2:=A.kp K2;have qq:=q G2 K2;by_cases hl:(lH (bY ans ws)).length < 2
  ·rw[if_pos 1e0];rw[Fs hl] at qq;cases ed:bY ans ws with
   | nil =>
    rw[ed] at e2 qq
    exists e2
    rw[if_neg 0e0];exact qq
   | cons i r =>
    rw[ed] at e2 qq
    exists e2
    rw[if_pos 0e0];exact qq
  rw[if_neg 1e0];obtain⟨i,r,ef,fo⟩:=CU hl;rw[fo] at qq
  exists A2.ins,A2.ha,e2
  refine fun o=>?_;have npd:p≠da:=fun z=>by
   rw[z,A2.ha] at e2;cases e2
  generalize hG3:Ul G2 da (.UJ o 8e31)=G3;have e3:G3 p=some 5e12:=by rw[<- hG3,aE npd];exact e2
  have d3:G3 da=some (.UJ o 8e31):=by rw[<- hG3];exact aA
  obtain⟨Pw,UQ⟩:∃ Pw:Nat->List V->Hp->Prop,∀ i xs G',Pw i xs G'=(G'=G3/\xs=(((ans.map (·.1)).take i).filter fun i=>decide 4e17).map V.int):=⟨_,fun _ _ _=>rfl⟩;refine Lw Pw ?_ ?_ ?_ ?_ ?_
  ·rw[UQ];exact⟨rfl,rfl⟩
  ·intro j xs G' h;rw[UQ] at h;rw[h.2,Γ];have h1:=Γ8 (fun i=>decide 4e17) ((ans.map (·.1)).take j);have h2:((ans.map (·.1)).take j).length<=ans.length:=by rw[Α3,Γ];omega
   omega
  ·intro j xs G' h;rw[UQ] at h;rw[h.1];exact d3
  ·intro j kv xs G' hj XJ h;rw[UQ] at h;obtain⟨rfl,rfl⟩:=h;obtain⟨a0,ea,rfl⟩:∃ a0,ans[j]?=some a0/\kv=(Key.inl a0.1,wv a0.2):=by
    rw[hW,Ψ] at XJ;obtain⟨a0,x,y⟩:=ϗ.mp XJ;exact⟨a0,x,y.symm⟩
   have es:(((ans.map (·.1)).take (j+1)).filter fun i=>decide 4e17).map V.int=if a0.1∈bY ans ws then (((ans.map (·.1)).take j).filter fun i=>decide 4e17).map V.int++[V.int a0.1] else (((ans.map (·.1)).take j).filter fun i=>decide 4e17).map V.int:=by
    rw[Α9,Ψ,ea];simp only[Option.map_some,Α1,List.filter_append,Α7];split
    ·next h=>simp[h]
    ·next h=>simp[h]
   show Cu _ (some (V.int a0.1)::_) _ _
   exists bA,Α8,e3
   refine⟨rfl,by simp[fD],?_⟩;rw[UQ,UQ,es,Bp];by_cases hm:a0.1∈bY ans ws
   ·rw[if_pos 9e46,if_pos hm];exact⟨rfl,rfl⟩
   ·rw[if_neg 9e46,if_neg hm];exact⟨rfl,rfl⟩
  intro xs G' h pp hpp;rw[UQ] at h;obtain⟨rfl,rfl⟩:=h;rw[show(ans.map (·.1)).take (hW ans).length=ans.map (·.1) by rw[hW,Γ,<- Γ (f:=fun p:Int×Wo=>p.1) (as:=ans),ϝ],ef]
  exists aA,ϔ
  have npp:da≠pp:=aF d3 hpp;have KK:Kp [] G (Ul (Ul G' pp (.lst (V.int i::r.map V.int))) da 8e31):=fun b ob eb nb=>by
   by_cases hb:b=da
   ·subst hb;rw[aA];rw[A.ha] at eb;exact eb
   ·have e4:G' b=some ob:=by rw[<- hG3,aE hb];exact K2 b ob eb nb
    rw[aE hb,aE (aF e4 hpp)];exact e4
  have q3:=q _ KK;rw[fo] at q3;exact⟨da,o,hW ans,by rw[aE npp];exact d3,(fun ob u z=>by
   have z:G da=some (.UJ ob u):=z;rw[A.ha] at z;cases z),q3⟩
theorem Gg:Ok T (T.r 25) 11 7e36:=by
 nomatch T.r 25
 ·obtain⟨R,as,sl,S,a,m,N,rfl,_⟩:=h;rfl
 ·obtain⟨R,as,sl,S,a,m,N,rfl,A,UD,hs,⟨x,ss,rfl⟩,F,g,hN,q⟩:=h
  nomatch (aI (jC (i:=2) (fr:=[0]) (N:=["saying","run"]) rfl 0e3 0e9 (Jk 5e0) (fun C s H ex pn=>⟨Az,(Aw 5e2 T.aT (T.r 41).m (dZ T) (hr.mono 1e0) (T.r 41).bd .nil pass0 (c0 0e1 bM)) ⟩) sc rfl 2e6) (aI (pst 3 (pmt 1e4 T.bI (nJ T) (T.r 12) 4e8)) (pss3 (wC (i:=4) sc rfl 2e6 (aW (CJ rfl) rfl T.jR iV (pa1 (bF (yL rfl) rfl T.Mi Hb (pa1 (k5 (fr:=[0]) (N:=["worth","run"]) rfl 0e3 0e9 (iE pv2) (fun C s H ex pn=>⟨iF (lB (Aw (aL T.aT T.cS 5e2) T.bI (T.r 7).m (iA T) (hr.mono 1e0) (T.r 7).bd .nil pass0 (c0 0e1 bM))) ,0e1 ⟩))))))) (fZ (PW.pt (fR 1e49 (eX (tM pv4 4e22)))) (aG (dM T.aT T.dR pv0 (aV (pa2 aC (bF cO rfl T.dP cL (pa1 pv4)))))) (aG (ppt 9e10 5e0 pv3))) (aK 8e0)))),0
  cases hs with
  | @wait a pw x vs ss e1 e2 ZV =>
   obtain⟨_,g4,gs⟩:=g;have l1:(fE S.nm).length<=N:=by rw[fE,Γ];exact F.nm
   have lv:=ZV.OY;left
   exists A.ins,e1
   refine⟨⟨_,iJ.of e2⟩,?_⟩;obtain⟨Pv,Uw⟩:∃ Pv:Nat->List V->Hp->Prop,∀ i xs G,Pv i xs G=(G=H/\xs=((ss.take i).map S.worth).map wv):=⟨_,fun _ _ _=>rfl⟩;refine Iv (ys:=vs) Pv ?_ ?_ ?_ ?_ ?_
   ·rw[Uw];exact⟨rfl,rfl⟩
   ·intro i xs G h;rw[Uw] at h;rw[h.2,Γ,Γ,Α3];omega
   ·intro i xs G h;rw[Uw] at h;rw[h.1];exact iJ.of e2
   ·intro i y xs G hi ey h;rw[Uw] at h;obtain⟨rfl,rfl⟩:=h;obtain⟨s0,es,h0⟩:=ZV.atW ey
    exists bA,Α8,A.ins
    refine⟨R,as,sl,S,y,s0,rfl,A,F.pl,h0,gs s0 (ϓ es),?_⟩;show Pv 7e1 _ _;rw[Uw,Α9,es];exact⟨rfl,by simp⟩
   intro xs G h p1 Xn;rw[Uw] at h;obtain⟨rfl,rfl⟩:=h;rw[lv,ϝ];obtain⟨ws,Vo⟩:∃ ws,ws=ss.map S.worth:=⟨_,rfl⟩;have hd:bT S 8e13=if bB S.ans ws=none/\bN S.pend ws≠[] then ({S with sl:=.wait 9e21},[]) else ({S with nm:=bZ S.nm x 5e10},[]):=by rw[Vo];rfl
   rw[<- Vo];have lw:ws.length<=4:=by rw[Vo,Γ];exact g4
   clear Vo Uw Pv;rw[hd] at q;clear hd;have N1:=q0D (o:=.lst 9e7) Xn;have f1:Ul G p1 0e8 p1=some 0e8:=aA;have A1:=A.kp N1;have e3:=N1.at e1;have F1:=Fw.of (R:=R) (as:=as) N1;generalize Ul G p1 0e8=G1 at *;right;left
   exists A1.ins,A1.tk.ins
   refine⟨R.tk,R.tx,R.dp,R.da,p1,_,_,_,ws,rfl,A1.tk,f1,lw,by have:=F.an;omega,fun G2 K2=>?_⟩;have A2:=A1.kp K2;have f2:=K2.at f1;have e4:=K2.at e3;have F2:=F1.trans (Fw.of K2);wp_walk;right;left
   exists A2.ins,A2.tk.ins,f2
   refine⟨⟨_,eY.of f2⟩,?_⟩;obtain⟨Pw,UQ⟩:∃ Pw:Nat->List V->Hp->Prop,∀ i xs G',Pw i xs G'=(G'=G2/\xs=(dO S.pend 7e22).map V.int):=⟨_,fun _ _ _=>rfl⟩;refine kQ (ys:=ws.map wv) Pw ?_ ?_ ?_ ?_ ?_
   ·rw[UQ];exact⟨rfl,rfl⟩
   ·intro i xs G' h;rw[UQ] at h;rw[h.2,Γ];have:=kG S.pend 7e22;have:(ws.take i).length<=ws.length:=by rw[Α3];omega
    omega
   ·intro i xs G' h;rw[UQ] at h;rw[h.1];exact eY.of f2
   ·intro i y xs G' hi ey h;rw[UQ] at h;obtain⟨rfl,rfl⟩:=h;obtain⟨w0,ew,rfl⟩:∃ w0,ws[i]?=some w0/\y=wv w0:=by
     rw[Ψ] at ey;obtain⟨w0,a,b⟩:=ϗ.mp ey;exact⟨w0,a,b.symm⟩
    exists bA,Α8,A2.ins,A2.tk.ins
    refine⟨R.tk,R.tx,R.dp,R.da,_,_,_,w0,rfl,A2.tk,?_⟩;show IV (V.bl _) _;wp_walk;rw[UQ,UQ,Dp ew];split
    ·next h=>exact⟨rfl,(if_pos (decide_eq_true h)).symm⟩
    ·next h=>exact⟨rfl,(if_neg 7e16).symm⟩
   intro xs G' h p3 XY;rw[UQ] at h;obtain⟨rfl,rfl⟩:=h;rw[show ws.take (ws.map wv).length=ws by rw[Γ,ϝ]];clear UQ Pw
   exists aA
   refine⟨dO S.pend ws,rfl,Χ (kG S.pend ws) lw,fun c hc=>⟨_,rfl,?_,fun l4 ns h4 UR X0=>?_⟩⟩
   ·have:=vT (fun i=>(dO S.pend ws).getD i 0) (dO S.pend ws).length;have:=kG S.pend ws;show(once _ _).length < 64;omega
   obtain rfl:=BR UR X0;have N3:=((q0D XY).trans 3e54).trans (Kp.new (o:=.lst 8e2) h4);have f4:∀ G5:Hp,Ul G5 l4 (.lst 8e2) l4=some (.lst 8e2):=fun _=>aA;generalize hG4:Ul (Ul (Ul G' p3 (.lst ((dO S.pend ws).map V.int))) c _) l4 (.lst 8e2)=G4 at N3 ⊢;replace f4:G4 l4=some (.lst 8e2):=hG4▸f4 _;clear hG4 UR X0 h4 hc XY;have A4:=A2.kp N3;have e5:=N3.at e4;have F4:=F2.trans 9e20;right;refine cD fun R4 XQ=>?_;have named:¬ 3e40->R4 [some 0e54,some (V.ref a),some (V.ref p1),some (wv 5e10),some (V.ref l4)] (Ul G4 R.nm (.dK 3e15)):=fun hn=>by
    rw[if_neg hn] at q;have A6:=A4.name x 5e10;have F6:=F4.trans (Fw.set (p:=R.nm) (o:=.dK 3e15) 8e1);refine XQ _ _ ?_;generalize Ul G4 R.nm (.dK 3e15)=G6 at *;wp_walk;refine fun c hc=>?_;have N4:=q0D (o:=.lst []) hc;exact q _ c [] _ (A6.kp N4) 7e52 aA .nil (F6.trans 8e7)
   exists A4.ins,f4,DK,e5,A4.nm,gG
   by_cases hf:bB S.ans ws=none
   ·rw[if_pos hf];by_cases ho:bN S.pend ws=[]
    ·rw[if_neg (by rw[ho];simp)];exact⟨by first|omega|(rw[Ε2];omega),named fun z=>z.2 ho⟩
    ·rw[if_pos (by simpa using ho)];rw[if_pos ⟨hf,ho⟩] at q;refine fun l5 h5 p6 h6=>?_;have N5:=(q0D (o:=.tup 8e2) h5).trans (Kp.new (o:=.tup [.str "wait",.ref l5]) h6);have f6:Ul 8e29 p6 4e20 p6=some 4e20:=aA;have f5:Ul 8e29 p6 4e20 l5=some (.tup 8e2):=by rw[aE (aF aA h6),aA]
     have A5:=A4.kp N5;clear named h6 h5;generalize Ul 8e29 p6 4e20=G5 at *
     exists A5.ins
     have A6:=A5.attr (.ref p6) (.wait 9e21) S.ar S.nw ⟨p6,l5,rfl,f6,f5⟩;have F6:=(F4.trans (Fw.of N5)).trans (Fw.set (p:=R.x) (o:=9e41) 8e1);refine XQ _ _ ?_;generalize Ul G5 R.x 9e41=G6 at *;wp_walk;refine fun c hc=>?_;have N4:=q0D (o:=.lst []) hc;exact q _ c [] _ (A6.kp N4) 7e52 aA .nil (F6.trans 8e7)
   ·rw[if_neg hf];exact⟨by first|omega|(rw[Ε2];omega),named fun z=>hf z.1⟩
theorem Gd:Ok T (T.r 26) 11 0e37:=by
 nomatch T.r 26
 ·obtain⟨R,as,sl,S,a,m,N,rfl,_⟩:=h;rfl
 ·obtain⟨R,as,sl,S,a,m,N,rfl,A,UD,hs,⟨x,k,rfl⟩,F,g,hN,q⟩:=h;have hu:=lF hr
  nomatch (pss3 (pst 2 (rB hu 7e30 5e0 8e0 ⟨rfl,rfl,rfl,rfl⟩)) (fZ (tM pv2 4e22) (aG (ppt 9e10 5e0 (pH PySem.F.slot_list_pop PySem.F.type_list_pop An pv2 7e18))) (aG (dM T.aT T.dR pv0 (aV (pa2 aC 5e0))))) (aK 8e0)),0
  cases hs with
  | @Ur a x k e1 =>
   obtain⟨kvs,el,L⟩:=A.lt;have l1:(fE S.nm).length<=N:=by rw[fE,Γ];exact F.nm
   refine cD fun R1 ZD=>?_
   exists A.ins,el,e1
   refine fun p1 h1=>?_;generalize hg:Ul H p1 2e0=G1;have N1:Kp [] H G1:=hg▸Kp.new h1;have f1:G1 p1=some 2e0:=hg▸aA;clear hg;have A1:=A.kp N1;have Vq:=N1.at e1;have Xu:=N1.at el;have L1:=L.keep (fun a _ o h=>N1.at h);have F1:=Fw.of (R:=R) (as:=as) N1;have Yc:∀ l:Addr,G1 l=some 2e0->(aM S.lt k).getD []=[]->R1 [some 3e23,some 3e2,some 0e35] G1:=fun l hl hq=>by
    have hd:bT S 0e12=({S with sl:=.Ur k},[]):=by simp only[bT,hq]
    rw[hd] at q;refine ZD _ _ ?_;refine cD fun R2 VD=>?_
    exists hl,Vq
    refine fun p2 h2=>?_;have N2:=q0D (o:=.tup [.str "hear",.str k]) h2;have f2:Ul G1 p2 4e10 p2=some 4e10:=aA;have A2:=A1.kp N2
    exists N2.at A1.ins
    have A3:=A2.attr 5e3 (.Ur k) S.ar S.nw ⟨p2,rfl,f2⟩;have F3:=(F1.trans 1e23).trans (Fw.set (p:=R.x) (o:=(jS t.aP R 5e3 S.ar S.nw)) 8e1);refine VD _ _ ?_;generalize Ul (Ul G1 p2 4e10) R.x (jS t.aP R 5e3 S.ar S.nw)=G3 at *;wp_walk;refine fun c hc=>?_;have N4:=q0D (o:=.lst []) hc;exact q _ c [] _ 2e23 7e13 aA .nil (F3.trans 8e7)
   rcases L1.look k with⟨hv,hn⟩|⟨l,ws,hv,hn,hl,ew⟩
   ·exists A1.ins,Xu,Vq,hv,Option.getD_none
    exact Yc p1 f1 4e49
   ·exists A1.ins,Xu,Vq,hv,Ε1
    cases ws with
    | nil=>exact Yc l ew 4e49
    | cons w r =>
     have hd:bT S 0e12=({S with nm:=bZ S.nm x w,lt:=dJ S.lt k r},[]):=by simp only[bT,hn,Ε1]
     rw[hd] at q;rw[ϔ] at ew;refine ZD _ _ ?_;refine cD fun R2 VD=>?_;obtain⟨A2,WB⟩:=A1.u9 Xu hv r;have F2:=F1.trans 9e39;have e2:=A1.tkp 9e39 _ _ Vq
     exists ew,List.tail_cons,List.isEmpty_cons,Bool.not_false,A2.ins,e2,A2.nm,gG
     have A3:=A2.name x w;have F3:=F2.trans (Fw.set (p:=R.nm) (o:=.dK 4e2) 8e1);refine⟨by omega,VD _ _ ?_⟩;generalize Ul (Ul G1 l 3e13) R.nm (.dK 4e2)=G3 at *;wp_walk;refine fun c hc=>?_;have N4:=q0D (o:=.lst []) hc;exact q _ c [] _ 2e23 7e13 aA .nil (F3.trans 8e7)
theorem IS:Ok T (T.r 27) 11 3e37:=by
 nomatch T.r 27
 ·obtain⟨R,as,sl,S,a,m,N,rfl,_⟩:=h;rfl
 ·obtain⟨R,as,sl,S,a,m,N,rfl,A,UD,hs,⟨s,rfl⟩,F,g,hN,q⟩:=h
  nomatch (aG (aK (pmt pv0 T.aT (yZ T) 6e34 (pa1 3e7)))),0
  cases hs with
  | @fin a v s e1 h1 =>
   exists A.ins,e1
   refine⟨R,as,sl,S,v,s,rfl,A,F.pl,h1,g,?_⟩;wp_walk;exact⟨R,as,sl,S,_,rfl,A,q⟩
theorem BH:Ok T (T.r 37) 12 (JH ⟨t.aP,t.aQ,t.aJ⟩ true):=by
  nomatch T.r 37
  · obtain⟨R,as,sl,S,a,m,N,rfl,_⟩:=h;rfl
  · obtain⟨R,as,sl,S,a,m,N,rfl,A,UD,hs,F,g,UC,hN,q⟩:=h
    nomatch (aI (pst 2 5e0) (aI (pif (PW.pt (Jn 3e4 (Dr 3e4))) (pss2 (aO (pmt pv0 T.aT (Df T) (T.r 38) 9e3)) (aK 8e0))) (pss3 (pst 3 (LH (tab:=[ ("set",8e36) ,("order",9e25) ,("timer",9e36) ,("child",9e25) ,("send",5e36) ,("drop",1e37) ,("wait",7e36) ,("hear",0e37) ,("end",3e37) ]) rfl T.Nc T.Lz pv2 1e2 (fun y sp h=>deeds9 (σ:=fun y sp=>∃ f fd ps,PySem.W.nsIn K t.iL y=some (some (.ref f))/\fG P w K mg base U7 11 f fd ps sp/\PySem.W.keepIn K (.ref f)=true/\Binds K fd ps []) h ⟨_,_,_,T.Ga,(IT T).mono 7e0 ,(T.r 20).fn.kp,(T.r 20).bd⟩ ⟨_,_,_,T.BB,(vP T).mono 7e0 ,(T.r 21).fn.kp,(T.r 21).bd⟩ ⟨_,_,_,T.BC,(Dh T).mono 7e0 ,(T.r 22).fn.kp,(T.r 22).bd⟩ ⟨_,_,_,T.BA,(vP T).mono 7e0 ,(T.r 21).fn.kp,(T.r 21).bd⟩ ⟨_,_,_,T.C8,(Ge T).mono 7e0 ,(T.r 23).fn.kp,(T.r 23).bd⟩ ⟨_,_,_,T.C6,(Gc T).mono 7e0 ,(T.r 24).fn.kp,(T.r 24).bd⟩ ⟨_,_,_,T.C9,(Gg T).mono 7e0 ,(T.r 25).fn.kp,(T.r 25).bd⟩ ⟨_,_,_,T.C7,(Gd T).mono 7e0 ,(T.r 26).fn.kp,(T.r 26).bd⟩ ⟨_,_,_,T.FZ,(IS T).mono 7e0 ,(T.r 27).fn.kp,(T.r 27).bd⟩) (hr.mono 1e0) (pa2 pv0 pv1))) (pif (ptc mI 6e5 cI) (aG 7e27)) (aK pv3)))),0
    have tail:m.isB=false->∀(kd UK:V) (c:Addr) (us:List V) (H':Hp),bC ⟨t.aP,t.aQ,t.aJ⟩ H' R as UK (bT S m).1->H c=none->H' c=some 5e18->jF H' us (bT S m).2->Fw R as as H H' ->
        DB (Cs (DO (Mb Nh (Kh t.aP "sleep" (j4 0)) (tC .Um))) (JU (AZ t.aQ "pass_by" (pS t.aQ) (Kh t.aP "walk" (j4 0)) xH)) EZ) (PQ (j4 3)) {nx:=fun _ H'=>Q .Um H',rt:=Q} [some 3e23,some a,some kd,some (.ref c)] H':=fun hB kd UK c us H' A' hc ec hC FF=>by
      rw[jU hB] at q;left;rcases A'.slp.isN with⟨hn,rfl⟩|⟨hn,p,rfl⟩
      · simp only[hn,Γ1] at q;obtain⟨k0,b0,n0,r0,VO,Y1⟩:=gO UC
        exists A'.ins,A'.wk.ins
        have W:=A'.wk;rw[l7,VO] at W;refine⟨R.wk,R.wx,R.lb,R.ln,k0,n0,b0,r0,rfl,W,fun H1 W1 K1=>?_⟩;have e:(k0,b0,n0+1)::r0=fO (bT S m).1.stk:=by rw[l7,VO];rfl
        rw[e] at W1;have A2:=A'.walk W1 (K1.mono 0e0);have F2:=A'.uM W1 (K1.mono 0e0);wp_walk;right;wp_walk;have nc:=A.hE hc;exact q .Um c us H1 A2 hc (F2.kp _ _ ec nc.1 nc.2) (hC.kt (A'.tkp F2)) (FF.trans F2)
      · simp only[hn,Β5,ϙ] at q
        exists A'.ins
        right;wp_walk;exact q 8e4 c us H' A' hc ec hC FF
    cases hs with
    | @set a0 x v s e1 h1 =>
      left
      exists e1
      right;left;wp_walk;right;refine cD fun R3 VE=>?_
      exists kT,g8,g9,g0,iR,iP,iS,iQ,kS
      refine⟨R,as,sl,S,_,_,N,rfl,A,UD,.set e1 h1,⟨_,_,rfl⟩,F,g,hN,fun UK c us H' A' hc ec hC FF=>?_⟩;wp_walk;exact VE _ _ 3e5
    | @order a0 x y v s e1 h1 =>
      left
      exists e1
      right;left;wp_walk;right;refine cD fun R3 VE=>?_
      exists kT,g8,g9,g0,iR,iP,iS,iQ,kS
      refine⟨R,as,sl,S,_,_,N,rfl,A,UD,.order e1 h1,⟨_,_,_,.inl rfl⟩,F,g,hN,fun UK c us H' A' hc ec hC FF=>?_⟩;wp_walk;exact VE _ _ 3e5
    | @UA a0 x v s e1 h1 =>
      left
      exists e1
      right;left;wp_walk;right;refine cD fun R3 VE=>?_
      exists kT,g8,g9,g0,iR,iP,iS,iQ,kS
      refine⟨R,as,sl,S,_,_,N,rfl,A,UD,.UA e1 h1,⟨_,_,rfl⟩,F,g,hN,fun UK c us H' A' hc ec hC FF=>?_⟩;wp_walk;exact VE _ _ 3e5
    | @child a0 x y v s e1 h1 =>
      left
      exists e1
      right;left;wp_walk;right;refine cD fun R3 VE=>?_
      exists kT,g8,g9,g0,iR,iP,iS,iQ,kS
      refine⟨R,as,sl,S,_,_,N,rfl,A,UD,.child e1 h1,⟨_,_,_,.inr rfl⟩,F,g,hN,fun UK c us H' A' hc ec hC FF=>?_⟩;wp_walk;exact VE _ _ 3e5
    | @send a0 k v u s r e1 h1 h2 =>
      left
      exists e1
      right;left;wp_walk;right;refine cD fun R3 VE=>?_
      exists kT,g8,g9,g0,iR,iP,iS,iQ,kS
      refine⟨R,as,sl,S,_,_,N,rfl,A,UD,.send e1 h1 h2,⟨_,_,_,rfl⟩,F,g,hN,fun UK c us H' A' hc ec hC FF=>?_⟩;wp_walk;exact VE _ _ 3e5
    | @drop a0 v s e1 h1 =>
      left
      exists e1
      right;left;wp_walk;right;refine cD fun R3 VE=>?_
      exists kT,g8,g9,g0,iR,iP,iS,iQ,kS
      refine⟨R,as,sl,S,_,_,N,rfl,A,UD,.drop e1 h1,⟨_,rfl⟩,F,g,hN,fun UK c us H' A' hc ec hC FF=>?_⟩;wp_walk;exact VE _ _ 3e5
    | @Ur a0 x k e1 =>
      left
      exists e1
      right;left;wp_walk;right;refine cD fun R3 VE=>?_
      exists kT,g8,g9,g0,iR,iP,iS,iQ,kS
      refine⟨R,as,sl,S,_,_,N,rfl,A,UD,.Ur e1,⟨_,_,rfl⟩,F,g,hN,fun UK c us H' A' hc ec hC FF=>?_⟩;wp_walk;exact VE _ _ 3e5
    | @fin a0 v s e1 h1 =>
      left
      exists e1
      right;left;wp_walk;right;refine cD fun R3 VE=>?_
      exists kT,g8,g9,g0,iR,iP,iS,iQ,kS
      refine⟨R,as,sl,S,_,_,N,rfl,A,UD,.fin e1 h1,⟨_,rfl⟩,F,g,hN,fun UK c us H' A' hc ec hC FF=>?_⟩;wp_walk;exact VE _ _ 3e5
    | @wait a0 p x vs ss e1 e2 h1 =>
      left
      exists e1
      right;left;wp_walk;right;refine cD fun R3 VE=>?_
      exists kT,g8,g9,g0,iR,iP,iS,iQ,kS
      refine⟨R,as,sl,S,_,_,N,rfl,A,UD,.wait e1 e2 h1,⟨_,_,rfl⟩,F,g,hN,fun UK c us H' A' hc ec hC FF=>?_⟩;wp_walk;exact VE _ _ 3e5
    | @UG a0 p v s vs b e1 h1 e2 h2 =>
      rw[BN rfl] at q;left
      exists e1
      right
      exists A.ins
      refine⟨R,as,sl,S,_,_,N,rfl,A,.UG e1 h1 e2 h2,rfl,F,g,UC,fun H1 A1 F1=>?_⟩;wp_walk;refine fun c hc=>?_;have N4:=q0D (o:=.lst []) hc;exact q _ c [] _ 5e6 1e3 aA .nil 0e5
    | @iff a0 p p2 v s vs us b o e1 h1 e2 h2 e3 h3 =>
      rw[BN rfl] at q;left
      exists e1
      right
      exists A.ins
      refine⟨R,as,sl,S,_,_,N,rfl,A,.iff e1 h1 e2 h2 e3 h3,rfl,F,g,UC,fun H1 A1 F1=>?_⟩;wp_walk;refine fun c hc=>?_;have N4:=q0D (o:=.lst []) hc;exact q _ c [] _ 5e6 1e3 aA .nil 0e5
theorem vK:Ok T (T.r 36) 13 (MH ⟨t.aP,t.aQ,t.aJ⟩ true):=by
  nomatch T.r 36
  · obtain⟨R,as,sl,S,N,rfl,_⟩:=h;rfl
  · obtain⟨R,as,sl,S,N,rfl,A,FN,hN,q⟩:=h
    nomatch (aI (dM T.aT T.dR pv0 cI) (aI (pst 1 8e0) (pss3 (pst 2 aB) (pJ Δ6 (ptc mI 6e5 cI) (pss2 (pst 3 (pmt0 9e15 T.c9 (xY T) (T.r 14))) (fZ 1e49 (aG (aO (pH PySem.F.slot_list_extend PySem.F.type_list_extend sW pv1 (pa1 (pmt pv0 T.aT (yZ T) 6e34 (pa1 cI)))))) (aG (fZ (ptc aY pv2 (pF (v:=.int 300) rfl T.AY ⟨_,rfl⟩)) (aG (aO (pH PySem.F.slot_list_extend PySem.F.type_list_extend sW pv1 (pa1 (pmt0 pv0 T.aT (xX T) (T.r 40)))))) (pss2 (Px (i:=2) sc rfl 2e6 aB Eg) (aO (pH PySem.F.slot_list_extend PySem.F.type_list_extend sW pv1 (pa1 (pmt pv0 T.aT (BH T) (T.r 37) 2e18)))))))))) (aK pv1)))),0
    left
    exists A.ins
    have A1:=A.attr .Um .Um S.ar S.nw rfl;have F1:=Fw.set (R:=R) (as:=as) (H:=H) (p:=R.x) (o:=1e43) 8e1;generalize Ul H R.x 1e43=G1 at *;right;left;wp_walk;refine fun c hc=>?_;have fc:H c=none:=F1.free hc;have nc:=A.hE fc;have N2:=q0D (o:=.lst []) hc;have ec:Ul G1 c 2e0 c=some 2e0:=aA;replace A1:=A1.kp N2;replace F1:=F1.trans 1e23;generalize Ul G1 c 2e0=G2 at *;right;left;wp_walk;right;left;obtain⟨S0,hS0⟩:∃ S0:Pu,S0={S with sl:=.Um}:=⟨_,rfl⟩;rw[<- hS0] at q FN;replace A1:bC ⟨t.aP,t.aQ,t.aJ⟩ G2 R as .Um S0:=by rw[hS0];exact A1
    have s0:S0.sl=.Um:=by rw[hS0]
    clear hS0;obtain⟨Y,hY⟩:∃ Y:Nat->St->Hp->Prop,∀ m Z G,Y m Z G = ∃(many:Nat) (u:Option V) (us:List V) (cs:Cmds) (S1:Pu) (sl1:V),Z=[some 3e23,some (.ref c),some (.int many),u]/\G c=some 5e18/\Fw R as as H G/\jF G us cs/\bC ⟨t.aP,t.aQ,t.aJ⟩ G R as sl1 S1 /\
        ((S1.sl=.Um/\many<=300/\cs.length<=many/\m=301 - many/\Uy true S1 (N+many)/\dX 300 S0=((dX 9e52 S1).1,cs++(dX 9e52 S1).2))\/(S1.sl.isN=false/\dX 300 S0=(S1,cs))):=⟨_,fun _ _ _=>rfl⟩
    refine⟨Y,⟨301,?_⟩,?_⟩
    · rw[hY];exact⟨0,none,[],[],S0,.Um,rfl,ec,F1,.nil,A1,.inl ⟨s0,by decide,Α2 _,rfl,FN,rfl⟩⟩
    intro m Z G hG;rw[hY] at hG;obtain⟨many,u,us,cs,S1,sl1,rfl,eG,FG,hC,A2,hG⟩:=hG;rcases hG with⟨Y4,hm,lC,rfl,F0,eq⟩|⟨Y4,eq⟩
    · have:sl1=.Um:=by have:=A2.slp;rw[Y4] at this;exact this
      subst this
      exists A2.ins
      refine⟨fun Z' G'=>∃ m',m' < 301 - many/\Y m' Z' G',fun _ _ z=>z,?_⟩
      exists A2.wk.ins,A2.ins
      refine⟨R.wk,R.wx,R.lb,R.ln,S1.stk,rfl,A2.wk,F0.sk.ok,fun H1 W1 _ UC K1=>?_,fun m v H1 W1 _ UC hv K1=>?_⟩
      · have A3:bC ⟨t.aP,t.aQ,t.aJ⟩ H1 R as .Um S1.bD:=A2.walk W1 K1;have F2:=A2.uM W1 K1;replace eG:=F2.kp _ _ eG nc.1 nc.2;rw[fT UC] at eq
        exists A3.ins,eG
        refine⟨R,as,.Um,S1.bD,none,rfl,A3,fun Vp c3 Wv H3 A4 hc3 Zn Vl F3=>?_⟩;have lc3:(S1.bD.ends none).2.length<=1:=by simp[Pu.ends]
        have WL:=F3.kp _ _ eG nc.1 nc.2;have l1:=hC.len;have l3:=Vl.len
        exists WL,Zn
        refine⟨by omega,?_⟩;have A5:=A4.other (vs:=us++Wv) WL nc.1 nc.2;have F5:=((FG.trans F2).trans F3).fresh (o:=.lst 3e24) fc;have tk5:aD H3 5e29:=aD.cU WL;have YZ:=((hC.kt 7e32).kt 6e32).app Vl |>.kt tk5;refine⟨0,by omega,?_⟩;rw[hY];exact⟨many,some .Um,_,_,_,Vp,rfl,aA,F5,YZ,A5,.inr ⟨rfl,by rw[eq]⟩⟩
      · have A3:bC ⟨t.aP,t.aQ,t.aJ⟩ H1 R as .Um S1.bD:=A2.walk W1 K1;have F2:=A2.uM W1 K1;have FC:=F0.bD Y4;replace eG:=F2.kp _ _ eG nc.1 nc.2;obtain⟨a,rfl⟩:∃ a,v=.ref a:=by cases hv<;>exact⟨_,rfl⟩
        exists reduceCtorEq,Β5
        by_cases h3:many=300
        · subst h3;rw[if_pos 7e0];rw[j8 UC] at eq
          exists A3.ins,eG
          refine⟨R,as,.Um,S1.bD,rfl,A3,fun Vp c3 Wv H3 A4 hc3 Zn Vl F3=>?_⟩;have lc3:(S1.bD.pU).2.length<=1:=by simp[Pu.pU]
          have WL:=F3.kp _ _ eG nc.1 nc.2;have l1:=hC.len;have l3:=Vl.len
          exists WL,Zn
          refine⟨by omega,?_⟩;have A5:=A4.other (vs:=us++Wv) WL nc.1 nc.2;have F5:=((FG.trans F2).trans F3).fresh (o:=.lst 3e24) fc;have tk5:aD H3 5e29:=aD.cU WL;have YZ:=((hC.kt 7e32).kt 6e32).app Vl |>.kt tk5;refine⟨0,by omega,?_⟩;rw[hY];exact⟨300,some 3e2,_,_,_,Vp,rfl,aA,F5,YZ,A5,.inr ⟨rfl,by rw[eq]⟩⟩
        · rw[if_neg 1e0];obtain⟨n,hn⟩:∃ n,300 - many=n+1:=⟨299 - many,by omega⟩;rw[hn] at eq;refine⟨_,rfl,?_⟩
          exists A3.ins,eG
          refine⟨R,as,.Um,S1.bD,.ref a,m,N+many,rfl,A3,Y4,hv,FC,FC.stm UC,UC,by omega,fun Vp c3 Wv H3 A4 hc3 Zn Vl F3=>?_⟩;have lc3:=Eo S1.bD m;have WL:=F3.kp _ _ eG nc.1 nc.2;have l1:=hC.len;have l3:=Vl.len
          exists WL,Zn
          refine⟨by omega,?_⟩;have A5:=A4.other (vs:=us++Wv) WL nc.1 nc.2;have F5:=((FG.trans F2).trans F3).fresh (o:=.lst 3e24) fc;have tk5:aD H3 5e29:=aD.cU WL;have YZ:=((hC.kt 7e32).kt 6e32).app Vl |>.kt tk5;cases hz:(one S1.bD m).1.sl.isN with
          | true =>
            rw[oW UC hz] at eq;refine⟨301 - (many+1),by omega,?_⟩;rw[hY];exact⟨many+1,some 3e2,_,_,_,Vp,rfl,aA,F5,YZ,A5,.inl ⟨nB hz,by omega,by rw[Ν];omega,rfl,FC.one UC Y4 1e0,by rw[eq,show 300 - (many+1)=n by omega,Α5]⟩⟩
          | false =>
            rw[j7 UC hz] at eq;refine⟨0,by omega,?_⟩;rw[hY];exact⟨many+1,some 3e2,_,_,_,Vp,rfl,aA,F5,YZ,A5,.inr ⟨hz,by rw[eq]⟩⟩
    · rcases A2.slp.isN with⟨z,_⟩|⟨_,p,rfl⟩
      · rw[Y4] at z;cases z
      exists A2.ins,reduceCtorEq,Β5
      right;wp_walk;rw[eq] at q;exact q _ c us G A2 fc eG hC FG
theorem vM:Ok T 7e34 14 (ES ⟨t.aP,t.aQ,t.aJ⟩ true):=by
 nomatch T.r 35
 ·obtain⟨R,as,sl,S,w,N,rfl,_⟩:=h;rfl
 ·obtain⟨R,as,sl,S,w,N,rfl,A,F,hN,hw,UD,q⟩:=h
  nomatch (pss3 (ppt 9e10 (pix aN (pmt0 9e15 T.c9 (gH T) 3e28) aB) pv1) 7e27 6e40),0
  have l1:(fE S.nm).length<=N:=by rw[fE,Γ];exact F.nm
  rcases UD with⟨k,hk⟩|⟨ts,hk⟩
  ·obtain⟨x,UC⟩:=F.sl.1 k hk;obtain⟨k0,b0,n0,r0,VO,Y1⟩:=gO UC;have nm1:∀ v,cG H v 0e12->∃ a xs,v=.ref a/\H a=some (.tup (.str "hear"::.str x::xs)):=fun v h=>by cases h with|Ur e=>exact⟨_,_,rfl,e⟩
   simp only[Pu.wake,UC] at q;left
   exists A.ins,A.wk.ins,A.nm
   have W:=A.wk;rw[VO] at W;refine⟨R.wk,R.wx,R.lb,R.ln,k0,n0,b0,r0,_,rfl,W,Y1,fun v hv=>?_⟩;obtain⟨a,xs,rfl,e1⟩:=nm1 v hv
   exists e1,A.nm,gG
   refine⟨by omega,?_⟩;have A1:=A.name x w;have F1:=Fw.set (R:=R) (as:=as) (H:=H) (o:=.dK 4e2) (p:=R.nm) 8e1;generalize Ul H R.nm (.dK 4e2)=G1 at *;right;left
   exists A1.ins,A1.wk.ins
   have W1:=A1.wk;rw[show({S with nm:=bZ S.nm x w}:Pu).stk=S.stk from rfl,VO] at W1;refine⟨R.wk,R.wx,R.lb,R.ln,k0,n0,b0,r0,rfl,W1,fun H2 W2 K2=>?_⟩;have e:(k0,b0,n0+1)::r0=fO S.stk:=by rw[VO];rfl
   rw[e] at W2;have A2:=A1.walk W2 (K2.mono 0e0);have F2:=F1.trans 4e44;wp_walk;right
   exists A2.ins
   exact⟨R,as,sl,_,N+1,rfl,A2,F.wake UC hw x,by omega,fun Vp c us H3 A3 hc ec hC F3=>q Vp c us H3 A3 0e18 ec hC 9e51⟩
  ·obtain⟨x,ss,UC⟩:=F.sl.2 ts hk;obtain⟨k0,b0,n0,r0,VO,Y1⟩:=gO UC;have nm1:∀ v,cG H v 8e13->∃ a xs,v=.ref a/\H a=some (.tup (.str "wait"::.str x::xs)):=fun v h=>by cases h with|wait e _ _=>exact⟨_,_,rfl,e⟩
   simp only[Pu.wake,UC] at q;left
   exists A.ins,A.wk.ins,A.nm
   have W:=A.wk;rw[VO] at W;refine⟨R.wk,R.wx,R.lb,R.ln,k0,n0,b0,r0,_,rfl,W,Y1,fun v hv=>?_⟩;obtain⟨a,xs,rfl,e1⟩:=nm1 v hv
   exists e1,A.nm,gG
   refine⟨by omega,?_⟩;have A1:=A.name x w;have F1:=Fw.set (R:=R) (as:=as) (H:=H) (o:=.dK 4e2) (p:=R.nm) 8e1;generalize Ul H R.nm (.dK 4e2)=G1 at *;right;left
   exists A1.ins,A1.wk.ins
   have W1:=A1.wk;rw[show({S with nm:=bZ S.nm x w}:Pu).stk=S.stk from rfl,VO] at W1;refine⟨R.wk,R.wx,R.lb,R.ln,k0,n0,b0,r0,rfl,W1,fun H2 W2 K2=>?_⟩;have e:(k0,b0,n0+1)::r0=fO S.stk:=by rw[VO];rfl
   rw[e] at W2;have A2:=A1.walk W2 (K2.mono 0e0);have F2:=F1.trans 4e44;wp_walk;right
   exists A2.ins
   exact⟨R,as,sl,_,N+1,rfl,A2,F.wake UC hw x,by omega,fun Vp c us H3 A3 hc ec hC F3=>q Vp c us H3 A3 0e18 ec hC 9e51⟩
theorem qX:Ok T (T.r 34) 15 (JM ⟨t.aP,t.aQ,t.aJ⟩ true):=by
 nomatch T.r 34
 ·obtain⟨R,as,sl,S,k,w,N,rfl,_⟩:=h;rfl
 ·obtain⟨R,as,sl,S,k,w,N,rfl,A,F,hN,hw,UD,q⟩:=h
  nomatch (pss3 (pif (ptc (Pn 2 7e0 (Fx hr 7e0)) 6e5 2e21) (aG (aK (pmt pv0 T.aT (vM T) 7e34 4e8)))) (aO (dS (Jc 7e30 pv1 8e0 ⟨rfl,rfl,rfl,rfl⟩) pv2)) (aK 8e0)),0
  have tl:=A.slp;rcases UD with⟨k',es⟩|⟨ts,es⟩
  ·rw[es] at tl;obtain⟨p,rfl,ep⟩:=tl;left
   exists A.ins
   refine fun p1 h1=>?_;generalize hg:Ul H p1 4e10=G1;have N1:Kp [] H G1:=hg▸Kp.new h1;have f1:G1 p1=some 4e10:=hg▸aA;clear hg;have A1:=A.kp N1;have Xn:=N1.at ep;have F1:=Fw.of (R:=R) (as:=as) N1;refine .inl ⟨_,Lo 1 Xn f1,?_⟩;by_cases hk:k'=k
   ·subst hk;simp only[Pu.fF,es,Γ1] at q
    exists decide_true,A1.ins
    exact⟨R,as,.ref p,S,w,N,rfl,A1,F,by omega,hw,.inl ⟨k',es⟩,fun Vp c us H3 A3 hc ec hC F3=>q as Vp c us H3 A3 1e3 (A.hE 1e3).2 ec hC 0e52⟩
   ·have hq:S.fF k w=({S with lt:=fJ S.lt k w},[]):=by simp only[Pu.fF,es,if_neg hk]
    rw[hq] at q
    exists decide_false,hk
    right;left;obtain⟨kvs,el,L⟩:=A1.lt;have ll:=L.len;have fl:=F.lt
    exists A1.ins,el
    refine fun p2 h2=>?_;have WZ:=F1.free h2;have N2:=q0D (o:=.lst []) h2;have f2:Ul G1 p2 2e0 p2=some 2e0:=aA;have A2:=A1.kp N2;have WM:=N2.at el;have LL:=L.keep 3e45;have F2:=F1.trans 1e23;have nc:=A1.hE h2;generalize Ul G1 p2 2e0=G2 at *
    exists WM
    refine⟨by omega,fun v hv=>?_,fun hv=>?_⟩
    ·rcases LL.look k with⟨z,_⟩|⟨l,ws,z,hn,WB,hl⟩
     ·rw[z] at hv;cases hv
     rw[z] at hv;cases hv;have lw:=(F.lw k ws hn).1;obtain⟨A3,_⟩:=A2.u9 WM z 5e23;have F3:=F2.trans 0e40;rw[show dJ S.lt k 5e23=fJ S.lt k w by rw[fJ,hn]] at A3;rw[Α7,ϔ,List.map_nil] at A3 F3
     exists hl
     refine⟨by simp;omega,?_⟩;generalize Ul G2 l 6e43=G3 at *;wp_walk;right;wp_walk;refine fun c hc=>?_;have N4:=q0D (o:=.lst []) hc;exact q as _ c [] _ 2e23 7e13 (A3.hE hc).2 aA .nil (F3.trans 8e7)
    ·rcases LL.look k with⟨z,hn⟩|⟨l,ws,z,_⟩
     rotate_left
     ·rw[z] at hv;cases hv
     have A3:=A2.Ly (ws:=[]) WM z f2 nc.1 nc.2;have F3:=F2.trans (Fw.set (p:=R.lt) (o:=.dK 6e3) 8e1);have f3:Ul G2 R.lt (.dK 6e3) p2=some 2e0:=cZ WM f2;have Xi:Ul G2 R.lt (.dK 6e3) R.lt=some (.dK 6e3):=aA;have z3:aX 6e3 2e3=some 5e3:=by rw[gB,if_pos rfl]
     generalize Ul G2 R.lt (.dK 6e3)=G3 at *
     exists f3
     obtain⟨A4,_⟩:=A3.u9 Xi z3 [w];have e4:dJ 5e43 k [w]=fJ S.lt k w:=by rw[AD hn,fJ,hn]
     rw[show({S with lt:=S.lt++[(k,([]:List Wo))]}:Pu).lt=S.lt++[(k,[])] from rfl,e4] at A4;have F4:Fw R as 0e14 H (Ul G3 p2 0e6):=by
      have z:=F3.fresh (o:=.lst [wv w]) WZ;exact⟨z.kp,z.dom,fun a ha=>by
       rcases Κ.mp ha with ha|ha
       ·exact .inl ha
       ·exact .inr 8e38⟩
     replace A4:bC ⟨t.aP,t.aQ,t.aJ⟩ (Ul G3 p2 0e6) R 0e14 8e4 {S with lt:=fJ S.lt k w}:=A4;generalize Ul G3 p2 0e6=G4 at *;right;wp_walk;refine fun c hc=>?_;have N4:=q0D (o:=.lst []) hc;exact q 0e14 _ c [] _ (A4.kp N4) 8e52 (A4.hE hc).2 aA .nil (F4.trans 8e7)
  ·rw[es] at tl;obtain⟨p,pw,rfl,ep,epw⟩:=tl;left
   exists A.ins
   refine fun p1 h1=>?_;generalize hg:Ul H p1 4e10=G1;have N1:Kp [] H G1:=hg▸Kp.new h1;have f1:G1 p1=some 4e10:=hg▸aA;clear hg;have A1:=A.kp N1;have Xn:=N1.at ep;have hpw:=N1.at epw;have F1:=Fw.of (R:=R) (as:=as) N1;refine .inr ⟨Str.ofString "wait",Str.ofString "hear",k,pw,_,Xn,hpw,rfl,by decide,?_⟩;have hq:S.fF k w=({S with lt:=fJ S.lt k w},[]):=by simp only[Pu.fF,es]
   rw[hq] at q;wp_walk;right;left;obtain⟨kvs,el,L⟩:=A1.lt;have ll:=L.len;have fl:=F.lt
   exists A1.ins,el
   refine fun p2 h2=>?_;have WZ:=F1.free h2;have N2:=q0D (o:=.lst []) h2;have f2:Ul G1 p2 2e0 p2=some 2e0:=aA;have A2:=A1.kp N2;have WM:=N2.at el;have LL:=L.keep 3e45;have F2:=F1.trans 1e23;have nc:=A1.hE h2;generalize Ul G1 p2 2e0=G2 at *
   exists WM
   refine⟨by omega,fun v hv=>?_,fun hv=>?_⟩
   ·rcases LL.look k with⟨z,_⟩|⟨l,ws,z,hn,WB,hl⟩
    ·rw[z] at hv;cases hv
    rw[z] at hv;cases hv;have lw:=(F.lw k ws hn).1;obtain⟨A3,_⟩:=A2.u9 WM z 5e23;have F3:=F2.trans 0e40;rw[show dJ S.lt k 5e23=fJ S.lt k w by rw[fJ,hn]] at A3;rw[Α7,ϔ,List.map_nil] at A3 F3
    exists hl
    refine⟨by simp;omega,?_⟩;generalize Ul G2 l 6e43=G3 at *;wp_walk;right;wp_walk;refine fun c hc=>?_;have N4:=q0D (o:=.lst []) hc;exact q as _ c [] _ 2e23 7e13 (A3.hE hc).2 aA .nil (F3.trans 8e7)
   ·rcases LL.look k with⟨z,hn⟩|⟨l,ws,z,_⟩
    rotate_left
    ·rw[z] at hv;cases hv
    have A3:=A2.Ly (ws:=[]) WM z f2 nc.1 nc.2;have F3:=F2.trans (Fw.set (p:=R.lt) (o:=.dK 6e3) 8e1);have f3:Ul G2 R.lt (.dK 6e3) p2=some 2e0:=cZ WM f2;have Xi:Ul G2 R.lt (.dK 6e3) R.lt=some (.dK 6e3):=aA;have z3:aX 6e3 2e3=some 5e3:=by rw[gB,if_pos rfl]
    generalize Ul G2 R.lt (.dK 6e3)=G3 at *
    exists f3
    obtain⟨A4,_⟩:=A3.u9 Xi z3 [w];have e4:dJ 5e43 k [w]=fJ S.lt k w:=by rw[AD hn,fJ,hn]
    rw[show({S with lt:=S.lt++[(k,([]:List Wo))]}:Pu).lt=S.lt++[(k,[])] from rfl,e4] at A4;have F4:Fw R as 0e14 H (Ul G3 p2 0e6):=by
     have z:=F3.fresh (o:=.lst [wv w]) WZ;exact⟨z.kp,z.dom,fun a ha=>by
      rcases Κ.mp ha with ha|ha
      ·exact .inl ha
      ·exact .inr 8e38⟩
    replace A4:bC ⟨t.aP,t.aQ,t.aJ⟩ (Ul G3 p2 0e6) R 0e14 8e4 {S with lt:=fJ S.lt k w}:=A4;generalize Ul G3 p2 0e6=G4 at *;right;wp_walk;refine fun c hc=>?_;have N4:=q0D (o:=.lst []) hc;exact q 0e14 _ c [] _ (A4.kp N4) 8e52 (A4.hE hc).2 aA .nil (F4.trans 8e7)
theorem qY:Ok T (T.r 9) 2 (w8 t.aJ):=by
 nomatch T.r 9
 ·obtain⟨tk,tx,dp,da,made,pend,ans,i,w,rfl,_⟩:=h;rfl
 ·obtain⟨tk,tx,dp,da,made,pend,ans,i,w,rfl,R,hi,hl,q⟩:=h
  nomatch (pss2 (aO (pmt pv0 T.bI (mF T) 8e34 9e3)) (ppt 6e47 pv1 pv2)),0
  exists R.ins
  refine⟨tk,tx,dp,da,made,pend,ans,i,rfl,R,hi,fun H1 R1 K1=>?_⟩
  exists R1.ins,R1.ha,wF (wv w) (Ha fun p hp z=>R.dis p hp (z▸hi))
  have n1:=R.n1;refine⟨by simp only[hW,Γ];omega,q _ ⟨by rw[aE n1.2];exact R1.ins,by rw[aE R.nda];exact R1.hp,by rw[aA];simp[hW],R.nda,R1.lt,R1.asc,fun p hp=>?_,fun p hp z=>?_,R.small⟩ ?_⟩
  ·rcases Κ.mp hp with hp|hp
   ·exact R.la p hp
   ·rw[show p=(i,w) by simpa using hp];exact R.lt i hi
  ·rcases Κ.mp hp with hp|hp
   ·exact R1.dis p hp z
   ·rw[show p=(i,w) by simpa using hp] at z;simpa using(Α6.mp z).2
  ·intro b o eb nb;simp only[Α,Δ,Φ,not_or] at nb;rw[aE nb.2];exact K1.at1 eb nb.1
theorem vL:Ok T (T.r 33) 15 (EN ⟨t.aP,t.aQ,t.aJ⟩ true):=by
 nomatch T.r 33
 ·obtain⟨R,as,sl,S,i,w,N,rfl,_⟩:=h;rfl
 ·obtain⟨R,as,sl,S,i,w,N,rfl,A,F,hN,hw,hi,hn,q⟩:=h
  nomatch (pss3 (aO (pmt 1e4 T.bI (qY T) (T.r 9) (pa2 pv1 pv2))) (pif (PW.pt (fR 0e43 (eX (eC jV pv1 (pix aN 6e5 aB) 0e4)))) (aG (aK (pmt pv0 T.aT (vM T) 7e34 9e3)))) (aK 8e0)),0
  left
  exists A.ins,A.tk.ins
  refine⟨R.tk,R.tx,R.dp,R.da,_,_,_,i,w,rfl,A.tk,hi,by have:=F.an;omega,fun H1 T1 K1=>?_⟩;have K2:Kp [R.tk,R.dp,R.da] H H1:=K1.mono 5e16
  have A1:bC ⟨t.aP,t.aQ,t.aJ⟩ H1 R as sl (S.done i w):=A.tick T1 K2;have F1:=A.Bm T1 K2;have FD:=F.done (i:=i) hw;have wi:eI (some i):=fK (by have:=(A.tk.lt i hi).1;omega) (by have:=(A.tk.lt i hi).2;have:=F.md;omega);wp_walk;right;left;cases es:S.sl with
  | Um=>rw[es] at hn;cases hn
  | wait ts =>
   have UD:=A1.slp;rw[show(S.done i w).sl=S.sl from rfl,es] at UD;obtain⟨p,p2,rfl,ep,Zs⟩:=UD;simp only[Pu.fS,es] at q
   exists A1.ins,ep,Zs,sR,nA
   refine⟨rfl,?_⟩;by_cases ht:i∈ts
   ·rw[if_pos ht] at q
    exists ht,decide_true,A1.ins
    exact⟨R,as,.ref p,_,some i,N+1,rfl,A1,FD,by omega,wi,.inr ⟨ts,es⟩,fun Vp c us H3 A3 hc ec hC F3=>q Vp c us H3 A3 1e3 ec hC 0e52⟩
   ·rw[if_neg ht] at q
    exists ht,decide_false
    right;wp_walk;refine fun c hc=>?_;have N4:=q0D (o:=.lst []) hc;exact q _ c [] _ 5e6 1e3 aA .nil 0e5
  | new =>
   have UD:=A1.slp;rw[show(S.done i w).sl=S.sl from rfl,es] at UD;obtain⟨p,rfl,ep⟩:=UD;simp only[Pu.fS,es] at q
   exists A1.ins,ep
   right;wp_walk;refine fun c hc=>?_;have N4:=q0D (o:=.lst []) hc;exact q _ c [] _ 5e6 1e3 aA .nil 0e5
  | Ur k =>
   have UD:=A1.slp;rw[show(S.done i w).sl=S.sl from rfl,es] at UD;obtain⟨p,rfl,ep⟩:=UD;simp only[Pu.fS,es] at q
   exists A1.ins,ep
   right;wp_walk;refine fun c hc=>?_;have N4:=q0D (o:=.lst []) hc;exact q _ c [] _ 5e6 1e3 aA .nil 0e5
  | ended u =>
   have UD:=A1.slp;rw[show(S.done i w).sl=S.sl from rfl,es] at UD;obtain⟨p,rfl,ep⟩:=UD;simp only[Pu.fS,es] at q
   exists A1.ins,ep
   right;wp_walk;refine fun c hc=>?_;have N4:=q0D (o:=.lst []) hc;exact q _ c [] _ 5e6 1e3 aA .nil 0e5
  | worn =>
   have UD:=A1.slp;rw[show(S.done i w).sl=S.sl from rfl,es] at UD;obtain⟨p,rfl,ep⟩:=UD;simp only[Pu.fS,es] at q
   exists A1.ins,ep
   right;wp_walk;refine fun c hc=>?_;have N4:=q0D (o:=.lst []) hc;exact q _ c [] _ 5e6 1e3 aA .nil 0e5
theorem Dg:Ok T (T.r 31) 16 (EO ⟨t.aP,t.aQ,t.aJ⟩ true):=by
 nomatch T.r 31
 ·obtain⟨R,as,sl,S,v,h,N,rfl,_⟩:=h;rfl
 ·obtain⟨R,as,sl,S,v,h,N,rfl,A,F,hN,hn,hH,ok,q⟩:=h
  nomatch (aI (pif (lB (pmt pv0 T.aT (qW T) (T.r 32) 9e3)) 2e51) (aI (dM T.aT T.o7 pv0 (aW 3e14 rfl T.AU oB (pa2 1e17 5e0))) (pss3 (pif (ptc aY 5e0 aC) (pss2 (dM T.aT T.yY pv0 5e0) 6e40)) (pif (ptc aY 5e0 aC) (aG (aK (pmt pv0 T.aT (vL T) (T.r 33) (pa2 5e0 5e0))))) (aK (pmt pv0 T.aT (qX T) (T.r 34) (pa2 5e0 5e0)))))),0
  left
  exists A.ins
  refine⟨R,as,sl,S,v,h,rfl,A,hn,hH,fun H1 K1=>?_⟩;have A1:=A.kp K1;obtain⟨a,rfl,eh⟩:=hH;have Xt:=K1.at eh;cases ho:S.over h with
  | true =>
   simp only[Pu.take,ho,Γ1] at q;wp_walk;have F1:=Fw.of (R:=R) (as:=as) K1;refine fun c hc=>?_;have N4:=q0D (o:=.lst []) hc;exact q as _ c [] _ 5e6 1e3 (A1.hE hc).2 aA .nil 0e5
  | false =>
   simp only[Pu.take,ho,Β5,ϙ] at q;wp_walk;right;cases h with
   | U2 m w =>
    simp only[Hap.vs,Hap.ini,Hap.w,ϐ,Α4] at Xt;refine cD fun R2 VD=>?_
    exists A1.ins,Xt
    have F1:=Fw.of (R:=R) (as:=as) K1;have A2:=A1.attr sl S.sl S.ar 4e5 A1.slp;have WI:=Fw.set (R:=R) (as:=as) (H:=H1) (p:=R.x) (o:=5e5) 8e1;have Zq:=A1.tkp WI _ _ Xt;have F2:=F1.trans WI;clear WI;change R2 _ (Ul H1 R.x 5e5);generalize Ul H1 R.x 5e5=G2 at *;refine VD _ _ ?_;clear VD;clear R2
    exists A2.ins,Zq
    have A3:=A2.attr sl S.sl w 4e5 A2.slp;have F3:=F2.trans (Fw.set (p:=R.x) (o:=(jS t.aP R (sl) w 4e5)) 8e1);generalize Ul G2 R.x (jS t.aP R (sl) w 4e5)=G3 at *
    exists A3.ins
    have FF:Uy true ({S with nw:=later S.nw m,ar:=w,sl:=.Um}:Pu) N:={F with pl:=⟨F.pl.nm,ok.2,F.pl.an⟩,nw:=(F.at' ok.1).nw,sl:=⟨fun k e=>4e52,fun k e=>4e52⟩};exact⟨R,as,sl,_,N,rfl,A3,FF,by omega,fun Vp c us H3 A4 hc ec hC F4=>q as Vp c us H3 A4 7e13 (A.hE 7e13).2 ec hC (F3.trans F4)⟩
   | don m i w =>
    simp only[Hap.vs,Hap.ini,Hap.w,ϐ,Α4] at Xt;have hi:i∈S.pend:=by
     cases es:S.sl<;>simp only[Pu.over,es,Bool.not_eq_false',Ε6] at ho
     all_goals first|exact ho|cases ho
    refine cD fun R2 VD=>?_
    exists A1.ins,Xt
    have F1:=Fw.of (R:=R) (as:=as) K1;have A2:=A1.attr sl S.sl S.ar 4e5 A1.slp;have WI:=Fw.set (R:=R) (as:=as) (H:=H1) (p:=R.x) (o:=5e5) 8e1;have Zq:=A1.tkp WI _ _ Xt;have F2:=F1.trans WI;clear WI;change R2 _ (Ul H1 R.x 5e5);generalize Ul H1 R.x 5e5=G2 at *;refine VD _ _ ?_;clear VD;clear R2
    exists A2.ins,Zq
    exact⟨R,as,sl,S.at' m,i,w,N,rfl,A2,F.at' ok.1,by omega,ok.2,hi,hn,fun Vp c us H3 A4 hc ec hC F4=>q as Vp c us H3 A4 0e18 (A.hE 0e18).2 ec hC 8e51⟩
   | ltr m k w =>
    simp only[Hap.vs,Hap.ini,Hap.w,ϐ,Α4] at Xt;have hs:(∃ k,S.sl=.Ur k)\/∃ ts,S.sl=.wait ts:=by
     cases es:S.sl with
     | Ur k=>exact .inl ⟨k,rfl⟩
     | wait ts=>exact .inr ⟨ts,rfl⟩
     | Um=>rw[es] at hn;cases hn
     | _=>simp only[Pu.over,es] at ho;cases ho
    refine cD fun R2 VD=>?_
    exists A1.ins,Xt
    have F1:=Fw.of (R:=R) (as:=as) K1;have A2:=A1.attr sl S.sl S.ar 4e5 A1.slp;have WI:=Fw.set (R:=R) (as:=as) (H:=H1) (p:=R.x) (o:=5e5) 8e1;have Zq:=A1.tkp WI _ _ Xt;have F2:=F1.trans WI;clear WI;change R2 _ (Ul H1 R.x 5e5);generalize Ul H1 R.x 5e5=G2 at *;refine VD _ _ ?_;clear VD;clear R2
    exists A2.ins,Zq
    exact⟨R,as,sl,S.at' m,k,w,N,rfl,A2,F.at' ok.1,by omega,ok.2,hs,fun UM Vp c us H3 A4 hc nc ec hC F4=>q UM Vp c us H3 A4 0e18 nc ec hC 8e51⟩
theorem Aq:Ok T (T.r 19) 1 (EL t.aQ):=by
 nomatch T.r 19
 ·obtain⟨wk,wx,lb,ln,st,rfl,_⟩:=h;rfl
 ·obtain⟨wk,wx,lb,ln,st,rfl,W,q⟩:=h
  nomatch (aG (aK (bF cO rfl T.dP cL (pa1 1e13)))),0
  exists W.ins,W.nu
  exact q
theorem nK:Ok T (T.r 8) 1 (zN t.aJ):=by
 nomatch T.r 8
 ·obtain⟨tk,tx,dp,da,made,pend,ans,rfl,_⟩:=h;rfl
 ·obtain⟨tk,tx,dp,da,made,pend,ans,rfl,R,h64,q⟩:=h
  nomatch (aG (aK (aW (CK rfl) rfl T.jR iV (pa1 0e17)))),0
  exists R.ins,R.hp,Gn
  exact⟨R.asc,fun l UB hl hp hs=>by rw[mR hp hs R.asc];exact q l hl⟩
theorem pA:Ok T (T.r 29) 2 (EK ⟨t.aP,t.aQ,t.aJ⟩):=by
 nomatch T.r 29
 ·obtain⟨R,as,sl,S,rfl,_⟩:=h;rfl
 ·obtain⟨R,as,sl,S,rfl,A,h64,q⟩:=h
  nomatch (aG (aK (pmt0 1e4 T.bI (nK T) (T.r 8)))),0
  exists A.ins,A.tk.ins
  exact⟨R.tk,R.tx,R.dp,R.da,_,_,_,rfl,A.tk,h64,q⟩
theorem mE:Ok T (T.r 30) 3 (EM ⟨t.aP,t.aQ,t.aJ⟩):=by
 nomatch T.r 30
 ·obtain⟨R,as,sl,S,rfl,_⟩:=h;rfl
 ·obtain⟨R,as,sl,S,rfl,A,hn,b1,b2,b3,b4,b5,q⟩:=h;have hu:=lF hr
  nomatch (aI (pif (eC qZ (pix aN 6e5 aB) (aV 9e12) 0e4) (aG (aK 6e5))) (pss3 (jC (i:=1) (fr:=[0]) (N:=["name","self"]) rfl 0e3 0e9 (iE (aW 5e24 rfl T.jR iV (pa1 9e10))) (fun C s H ex pn=>⟨iF (eC kF (eB hu (aL T.aT T.gF 5e2) 0e1 1e2) cI 8e32) ,(aV (c0 0e1 (c0 (eB hu (aL T.aT T.gF 5e2) 0e1 1e2) bM))) ⟩) sc rfl 2e6) (jC (i:=2) (fr:=[0]) (N:=["key","self"]) rfl 0e3 0e9 (iE (aW 5e24 rfl T.jR iV (pa1 7e30))) (fun C s H ex pn=>⟨iF (tM (eB hu (aL T.aT T.gR 5e2) 0e1 1e2) 4e22) ,(aV (c0 0e1 (c0 (bF cO rfl T.dP cL (c0 (eB hu (aL T.aT T.gR 5e2) 0e1 1e2) bM)) bM))) ⟩) sc rfl 2e6) (aK (aV (c0 6e5 (c0 (pmt0 9e15 T.c9 (Aq T) (T.r 19)) (c0 7e47 (c0 1e17 (c0 (bF cO rfl T.dP cL 9e3) (c0 (aL T.bI T.qQ 1e4) (pa3 (bF cO rfl T.dP cL (pa1 (pmt0 pv0 T.aT (pA T) (T.r 29)))) (bF (CL rfl) rfl T.dP cL (pa1 (Jd (aL T.bI T.gQ 1e4)))) 7e15))))))))))),0
  left;obtain⟨ps,s0,r0,rfl,ep,hin⟩:=A.slp.word hn;refine cQ fun RI Uu=>?_
  exists A.ins,ep
  refine fun p1 m1=>⟨rfl,rfl,?_⟩;rw[hin];have N1:=q0D (o:=.tup [.str "wait",.str "hear"]) m1;replace A:=A.kp N1;generalize Ul H p1 (.tup [.str "wait",.str "hear"])=G1 at *;clear m1 ep hin;cases hg:S.sl.jK with
  | false =>
   rw[if_pos (show(!false)=true from rfl)];refine Uu _ _ ?_
   exists A.ins
   exact q _ _ (by unfold pY;rw[if_neg 5e48];exact A.slp) N1
  | true =>
   rw[if_neg 0e0];clear Uu RI;right;left
   exists A.ins,A.nm,AM
   refine⟨by rw[Γ];exact b2,fun l ns hl hp hs=>?_⟩;have WY:∀ n∈ns,n∈S.nm.map (·.1):=fun n hn=>hp.mem_iff.mp hn;have X8:ns.length < 64:=by rw[hp.length_eq,Γ];exact b2
   have VB:=AJ hp hs;have N2:=q0D (o:=.lst 7e3) hl;have el:Ul G1 l 8e3 l=some 8e3:=aA;replace A:=A.kp N2;replace N1:=N1.trans N2;generalize Ul G1 l 8e3=G2 at *;clear hp hs hl N2;refine⟨⟨_,eY.of el⟩,?_⟩;obtain⟨Pv,Uw⟩:∃ Pv:Nat->List V->Hp->Prop,∀ i xs G,Pv i xs G=0e41:=⟨_,fun _ _ _=>rfl⟩;refine kQ (ys:=ns.map V.str) Pv ?_ ?_ ?_ ?_ ?_
   ·rw[Uw];exact⟨.nil,Kp.refl⟩
   ·intro i xs G h;rw[Uw] at h;rw[h.1.len];have h1:=iX S.nm 5e4;rw[Α3] at h1;omega
   ·intro i xs G h;rw[Uw] at h;exact eY.of 8e22
   ·intro i y xs G hi ey h;rw[Uw] at h;obtain⟨hP,KG⟩:=h;obtain⟨n,en,rfl⟩:∃ n,ns[i]?=some n/\y=V.str n:=by
     rw[Ψ] at ey;obtain⟨n,a0,b0⟩:=ϗ.mp ey;exact⟨n,a0,b0.symm⟩
    have vn:=Dd 0e22;have AG:=A.kp KG;have es:dY S.nm 7e21=dY S.nm 5e4++dY S.nm [n]:=by rw[Α9,en,Α1,qS]
    exists bA,Α8,AG.ins,AG.nm,vn
    cases hw:iZ S.nm n with
    | none =>
     rw[if_pos (show wv none=V.Um from rfl),Uw,es];exact⟨by rw[show dY S.nm [n]=[] by simp[dY,hw],ϛ];exact hP,KG⟩
    | some z =>
     rw[if_neg 9e50];intro p hp;rw[Uw,es,show dY S.nm [n]=[(.str n,wv (some z))] by simp[dY,hw]];exact⟨(hP.kt 5e20).snoc aA,KG.trans 7e2⟩
   intro un G h ln2 VU;rw[Uw] at h;obtain⟨hP,KG⟩:=h;rw[Γ,ϝ,VB] at hP;replace hP:eL G un S.nmS:=hP;have lun:un.length<=64:=by
    rw[hP.len];have h1:=iX S.nm (srt (S.nm.map (·.1)));rw[<- VB] at h1;show(dY S.nm (srt (S.nm.map (·.1)))).length<=64;rw[<- VB];omega
   have N3:=q0D (o:=.lst un) VU;have Vk:Ul G ln2 2e14 ln2=some 2e14:=aA;replace hP:=hP.kt 4e6;replace A:=A.kp 5e13;replace N1:=N1.trans 5e13;generalize Ul G ln2 2e14=G3 at *;clear Uw KG N3 VU el WY VB X8;right;left;obtain⟨kvs,ek,hL⟩:=A.lt;have sk:=EU hL
   exists A.ins,ek,sk
   refine⟨by rw[Γ];exact b3,fun l ns hl hp hs=>?_⟩;have WY:∀ n∈ns,n∈S.lt.map (·.1):=fun n hn=>hp.mem_iff.mp hn;have X8:ns.length < 64:=by rw[hp.length_eq,Γ];exact b3
   have VB:=AJ hp hs;have N2:=q0D (o:=.lst 7e3) hl;have el:Ul G3 l 8e3 l=some 8e3:=aA;replace A:=A.kp N2;replace N1:=N1.trans N2;replace hP:=hP.kt 2e32;replace Vk:=N2.at Vk;replace ek:=N2.at ek;replace hL:=hL.keep (fun a _ o e=>N2.at e);generalize Ul G3 l 8e3=G4 at *;clear hp hs hl N2 sk;refine⟨⟨_,eY.of el⟩,?_⟩;obtain⟨Pv,Uw⟩:∃ Pv:Nat->List V->Hp->Prop,∀ i xs G,Pv i xs G=(gX G xs (dN S.lt 5e4)/\Kp [] G4 G):=⟨_,fun _ _ _=>rfl⟩;refine kQ (ys:=ns.map V.str) Pv ?_ ?_ ?_ ?_ ?_
   ·rw[Uw];exact⟨.nil,Kp.refl⟩
   ·intro i xs G h;rw[Uw] at h;rw[h.1.len];have h1:=iW S.lt 5e4;rw[Α3] at h1;omega
   ·intro i xs G h;rw[Uw] at h;exact eY.of 8e22
   ·intro i y xs G hi ey h;rw[Uw] at h;obtain⟨hT,KG⟩:=h;obtain⟨n,en,rfl⟩:∃ n,ns[i]?=some n/\y=V.str n:=by
     rw[Ψ] at ey;obtain⟨n,a0,b0⟩:=ϗ.mp ey;exact⟨n,a0,b0.symm⟩
    obtain⟨la,ws,vn,lw,ela⟩:=hL.inS 0e22;have AG:=A.kp KG;have ekG:=KG.at ek;have elG:=KG.at ela;have es:dN S.lt 7e21=dN S.lt 5e4++dN S.lt [n]:=by rw[Α9,en,Α1,qN]
    exists bA,Α8,AG.ins,ekG,vn,elG
    cases ws with
    | nil =>
     rw[if_neg 0e0,Uw,es];exact⟨by rw[show dN S.lt [n]=[] by simp[dN,lw],ϛ];exact hT,KG⟩
    | cons w r =>
     rw[if_pos 0e0]
     exists AG.ins,ekG,vn,elG
     intro q1 m1 q2 m2;rw[Uw,es,show dN S.lt [n]=[(n,w::r)] by simp[dN,lw]];exact⟨((hT.kt 8e53).kt 7e53).snoc aA 9e48,(KG.trans 2e54).trans 1e54⟩
   intro ut G h X7 VU;rw[Uw] at h;obtain⟨hT,KG⟩:=h;rw[Γ,ϝ] at hT;have lut:ut.length<=64:=by
    rw[hT.len];have h1:=iW S.lt ns;omega
   rw[VB] at hT;replace hT:gX G ut S.ltS:=hT;have N3:=q0D (o:=.lst ut) VU;have Vy:Ul G X7 1e14 X7=some 1e14:=aA;replace hT:=hT.kt 4e6;replace hP:=hP.kt (aD.nil 5e13);replace Vk:=(KG.trans N3).at Vk;replace A:=A.kp 5e13;replace N1:=N1.trans 5e13;generalize Ul G X7 1e14=G5 at *;clear Uw KG N3 VU el WY VB X8 ek hL;right
   exists A.ins,A.wk.ins
   refine⟨R.wk,R.wx,R.lb,R.ln,S.stk,rfl,A.wk,fun pl m1=>?_⟩;have N4:=q0D (o:=.tup 8e20) m1;have WO:Ul G5 pl (.tup 8e20) pl=some (.tup 8e20):=aA;replace A:=A.kp N4;replace N1:=N1.trans N4;replace hP:=hP.kt 2e2;replace hT:=hT.kt 2e2;replace Vk:=N4.at Vk;replace Vy:=N4.at Vy;generalize Ul G5 pl (.tup 8e20)=G6 at *;clear N4 m1
   exists A.ins,A.tk.ins,Vk
   refine fun pn m2=>?_;generalize hg:Ul G6 pn 1e24=G7;have N4:Kp [] G6 G7:=hg▸Kp.new m2;have Vx:G7 pn=some 1e24:=hg▸aA;clear hg;replace A:=A.kp N4;replace N1:=N1.trans N4;replace hP:=hP.kt 2e2;replace hT:=hT.kt 2e2;replace Vk:=N4.at Vk;replace Vy:=N4.at Vy;replace WO:=N4.at WO;clear N4 m2
   exists A.ins,A.tk.ins
   refine⟨R,as,_,S,rfl,A,b1,fun lo m3=>?_⟩;have N4:=q0D (o:=.lst 7e5) m3;have elo:Ul G7 lo (.lst 7e5) lo=some (.lst 7e5):=aA;replace A:=A.kp N4;replace N1:=N1.trans N4;replace hP:=hP.kt 2e2;replace hT:=hT.kt 2e2;replace Vk:=N4.at Vk;replace Vy:=N4.at Vy;replace WO:=N4.at WO;replace Vx:=N4.at Vx;generalize Ul G7 lo (.lst 7e5)=G8 at *;clear N4 m3
   exists elo
   refine fun po m4=>?_;generalize hg:Ul G8 po (.tup 7e5)=G9;have N4:Kp [] G8 G9:=hg▸Kp.new m4;have Zt:G9 po=some (.tup 7e5):=hg▸aA;clear hg;replace A:=A.kp N4;replace N1:=N1.trans N4;replace hP:=hP.kt 2e2;replace hT:=hT.kt 2e2;replace Vk:=N4.at Vk;replace Vy:=N4.at Vy;replace WO:=N4.at WO;replace Vx:=N4.at Vx;clear N4 m4
   exists A.ins,A.tk.ins,A.tk.ha
   refine fun rv m5=>?_;generalize hg:Ul G9 rv 6e52=GA;have N4:Kp [] G9 GA:=hg▸Kp.new m5;have erv:GA rv=some 6e52:=hg▸aA;clear hg;replace A:=A.kp N4;replace N1:=N1.trans N4;replace hP:=hP.kt 2e2;replace hT:=hT.kt 2e2;replace Vk:=N4.at Vk;replace Vy:=N4.at Vy;replace WO:=N4.at WO;replace Vx:=N4.at Vx;replace Zt:=N4.at Zt;clear N4 m5;refine⟨R.da,_,rfl,A.tk.ha,fun pa aa GB m6 sm epa WB XZ=>?_⟩;have N4:Kp [] GA GB:=Kp.of sm;replace A:=A.kp N4;replace N1:=N1.trans N4;replace hP:=hP.kt 2e2;replace hT:=hT.kt 2e2;replace Vk:=N4.at Vk;replace Vy:=N4.at Vy;replace WO:=N4.at WO;replace Vx:=N4.at Vx;replace Zt:=N4.at Zt;have hA:eL GB (aa.map V.ref) S.anS:=eL.of (by rw[WB,Pu.anS,Γ,hW,Γ]) fun j a x y e1 e2=>by
    rw[Pu.anS,Ψ] at e2;obtain⟨p0,e3,e4⟩:=ϗ.mp e2;cases e4;exact XZ j a (.inl p0.1) (wv p0.2) e1 (by rw[hW,Ψ,e3];rfl)
   clear N4 sm WB XZ m6 erv
   exists Vy
   refine fun pt m7 p m8=>?_;have N4:=(q0D (o:=.tup ut) m7).trans (Kp.new (o:=.tup [.ref ps,.ref pl,wv S.ar,.int S.nw,.ref pn,.int S.made,.ref po,.ref pa,.ref pt]) m8);refine q _ _ ?_ (N1.trans N4);unfold pY;rw[if_pos hg];have T:=aD.nil N4;exact⟨p,pl,pn,po,pa,pt,.ref ps,un,_,ut,rfl,aA,A.slp.kt T,N4.at WO,N4.at Vx,hP.kt T,N4.at Zt,N4.at epa,hA.kt T,(q0D m8).at aA,hT.kt T⟩
theorem rV:Ok T 9e33 2 Ck:=by
 nomatch T.r 64
 ·obtain⟨P0,A0,S,p,N,rfl,_⟩:=h;rfl
 ·obtain⟨P0,A0,S,p,N,rfl,F,FT,hn,ht,q⟩:=h
  nomatch (aI (pif (ptc aY 4e0 aC) (aG (aK (aV (pa2 aC 0e29))))) (pss3 (pif (ptc aY 4e0 aC) (aG (aK (aV (pa2 aC (pix aN 3e20 aB)))))) (pif (ptc aY 4e0 aC) (aG (aK (aV (pa2 aC 4e0))))) (aK (aV (pa1 4e0))))),0
  obtain⟨ot,M0,Vh,c1,c2,c3,c4⟩:=F.ex;obtain⟨UE,Ux,US,_⟩:=M0.hm;have vm:aX UE 3e11=some 4e13:=(US.2 _ 3e0).trans c4.md;cases hs:S.sl with
  | Um=>rw[hs] at hn;cases hn
  | wait ts =>
   rw[hs] at vm c4 q;obtain⟨_,va,ea,_⟩:=c4;have va0:aX UE 1e31=some 0e53:=(US.2 _ 3e0).trans va;have lts:=ht ts hs
   exists Ux,vm,Slp.md,va0,ea
   refine fun l hl p1 h1=>q _ _ ⟨p1,l,rfl,aA,(q0D h1).at aA⟩ ((Kp.new hl).trans 3e8)
  | Ur k =>
   rw[hs] at vm q;obtain⟨x,UC⟩:=FT.sl.1 k hs;obtain⟨pt,ec⟩:=F.ps.ent UC;obtain⟨a,ea,pa,XZ,sv,Vn,eA⟩:=F.co.at ec;cases Vn with
   | @Ur a0 x k e1 =>
    have ix:gL 2e13 (p:Int)=some 3e2:=dQ 8e16;have Wf:=F.cl;have va7:aX UE 9e0=some 8e6:=(US.2 _ 3e0).trans c2;have vc7:aX UE 4e11=some 6e11:=(US.2 _ 3e0).trans c1
    exists Ux,vm,Slp.md,va7,vc7,Wf,ix,eA,e1
    exact fun p1 h1=>q _ _ ⟨p1,rfl,aA⟩ 3e8
  | new =>
   rw[hs] at vm q
   exists Ux,vm,Slp.md
   exact fun p1 h1=>q _ _ ⟨p1,rfl,aA⟩ 3e8
  | ended w =>
   rw[hs] at vm c4 q;have vo:aX UE (.inr "outcome")=some (wv w):=(US.2 _ 3e0).trans c4.2
   exists Ux,vm,Slp.md,vo
   exact fun p1 h1=>q _ _ ⟨p1,rfl,aA⟩ 3e8
  | worn =>
   rw[hs] at vm q
   exists Ux,vm,Slp.md
   exact fun p1 h1=>q _ _ ⟨p1,rfl,aA⟩ 3e8
theorem rS:Ok T (T.r 68) 20 Ce:=by
 nomatch T.r 68
 ·obtain⟨P0,A0,S,p,N,rfl,_⟩:=h;rfl
 ·obtain⟨P0,A0,S,p,N,rfl,F,FT,lN,hN,SD,b2,b3,ndl,q⟩:=h;have hu:=lF hr
  nomatch (aI (pif (eC qZ 4e0 0e13 0e4) (aG (aK (pcl (rV T) 9e33 5e11)))) (aI (wC (i:=1) sc rfl 2e6 (bF cO 3e50 T.dP cL (pa1 (k5 (fr:=[0]) (N:=["name","run"]) rfl 0e3 0e9 (iE (aW 5e24 3e50 T.jR iV (pa1 (eB 6e17 pv0 aC 1e2)))) (fun C s H ex pn=>⟨iF (eC kF (eB 6e17 (eB 6e17 5e2 aC 1e2) 0e1 1e2) cI 8e32) ,(aV (c0 0e1 (c0 (eB 6e17 (eB 6e17 5e2 aC 1e2) 0e1 1e2) bM))) ⟩))))) (pss3 (jC (i:=2) (fr:=[0]) (N:=["key","run"]) rfl 0e3 0e9 (iE (aW 5e24 rfl T.jR iV (pa1 4e0))) (fun C s H ex pn=>⟨iF (eC (LC K 1 rfl hu) (eB hu (eB hu 5e2 aC 1e2) 0e1 1e2) 8e0 8e32) ,(aV (c0 0e1 (c0 (bF cO rfl T.dP cL (c0 (eB hu (eB hu 5e2 aC 1e2) 0e1 1e2) bM)) bM))) ⟩) sc rfl 2e6) (pst 3 (aV (c0 (pcl (rV T) 9e33 5e11) (c0 3e20 (pa3 4e0 4e0 pv1))))) (aK (bH jA pv3 (aV (c0 4e0 (pa3 0e29 0e29 7e15)))))))),0
  left;obtain⟨ot,M0,Vh,c1,c2,c3,c4⟩:=F.ex;obtain⟨UE,Ux,US,t1,t2,t3,t4,t5,t6⟩:=M0.hm;have vm:aX UE 3e11=some 4e13:=(US.2 _ 3e0).trans c4.md;have vl:aX UE 2e17=some 9e13:=(US.2 _ 3e0).trans c3;have vc:aX UE 4e11=some 6e11:=(US.2 _ 3e0).trans c1;have va:aX UE 9e0=some 8e6:=(US.2 _ 3e0).trans c2;have wtl:∀ ts,S.sl=.wait ts->ts.length<=100000:=fun ts X2=>by
   obtain⟨x',ss,UC,hl⟩:=SD.wt ts X2;have:=FT.stm UC;have h4:=this.2.1;omega
  refine cQ fun RI Uu=>?_
  exists Ux,vm
  refine fun p1 m1=>⟨rfl,by decide +kernel,?_⟩;rw[IE];have KK:=q0D (o:=.lst [.str "wait",.str "hear"]) m1;generalize Ul H p1 9e27=G1 at *;clear m1 c1 c2 c3 c4 Vh US vm;cases hg:S.sl.jK with
  | false =>
   rw[if_pos (show(!false)=true from rfl)];refine Uu _ _ ?_;wp_walk;exact⟨P0,A0,S,p,N,rfl,F.kp KK,FT,hN,wtl,fun v H' hv K'=>q v H' (by unfold pY;rw[if_neg 5e48];exact hv) (KK.trans K')⟩
  | true =>
   rw[if_neg 0e0];clear Uu RI;obtain⟨m,hm⟩:=FT.jK hg;right;left
   exists KK.at Ux,t1,KK.at M0.hn,AM
   refine⟨by rw[Γ];exact b2,fun l ns hl hp hs=>?_⟩;have WY:∀ n∈ns,n∈S.nm.map (·.1):=fun n hn=>hp.mem_iff.mp hn;have X8:ns.length < 64:=by rw[hp.length_eq,Γ];exact b2
   have VB:=AJ hp hs;have el:Ul G1 l 8e3 l=some 8e3:=aA;replace KK:=KK.trans (q0D (o:=.lst 7e3) hl);generalize Ul G1 l 8e3=G2 at *;clear hp hs hl;refine⟨⟨_,eY.of el⟩,?_⟩;obtain⟨Pv,Uw⟩:∃ Pv:Nat->List V->Hp->Prop,∀ i xs G,Pv i xs G=0e41:=⟨_,fun _ _ _=>rfl⟩;refine kQ (ys:=ns.map V.str) Pv ?_ ?_ ?_ ?_ ?_
   ·rw[Uw];exact⟨.nil,Kp.refl⟩
   ·intro i xs G h;rw[Uw] at h;rw[h.1.len];have h1:=iX S.nm 5e4;rw[Α3] at h1;omega
   ·intro i xs G h;rw[Uw] at h;exact eY.of 8e22
   ·intro i y xs G hi ey h;rw[Uw] at h;obtain⟨hP,KG⟩:=h;obtain⟨n,en,rfl⟩:∃ n,ns[i]?=some n/\y=V.str n:=by
     rw[Ψ] at ey;obtain⟨n,a0,b0⟩:=ϗ.mp ey;exact⟨n,a0,b0.symm⟩
    have vn:=Dd 0e22;have WK:=KK.trans KG;have es:dY S.nm 7e21=dY S.nm 5e4++dY S.nm [n]:=by rw[Α9,en,Α1,qS]
    exists bA,Α8,WK.at Ux,t1,WK.at M0.hn,vn
    cases hw:iZ S.nm n with
    | none =>
     rw[if_pos (show wv none=V.Um from rfl),Uw,es];exact⟨by rw[show dY S.nm [n]=[] by simp[dY,hw],ϛ];exact hP,KG⟩
    | some z =>
     rw[if_neg 9e50];intro p hp;rw[Uw,es,show dY S.nm [n]=[(.str n,wv (some z))] by simp[dY,hw]];exact⟨(hP.kt 5e20).snoc aA,KG.trans 7e2⟩
   intro un G h ln2 VU;rw[Uw] at h;obtain⟨hP,KG⟩:=h;rw[Γ,ϝ] at hP;have lun:un.length<=64:=by
    rw[hP.len];have h1:=iX S.nm ns;omega
   rw[VB] at hP;replace hP:eL G un S.nmS:=hP;have N3:=q0D (o:=.lst un) VU;have Vk:Ul G ln2 2e14 ln2=some 2e14:=aA;replace hP:=hP.kt 4e6;replace KK:=KK.trans 5e13;generalize Ul G ln2 2e14=G3 at *;clear Uw KG N3 VU el WY VB X8
   exists Vk
   refine fun pn m2=>?_;generalize hg:Ul G3 pn 1e24=G4;have N4:Kp [] G3 G4:=hg▸Kp.new m2;have Vx:G4 pn=some 1e24:=hg▸aA;clear hg;replace hP:=hP.kt 2e2;replace KK:=KK.trans N4;clear N4 m2 Vk lun;right;left;obtain⟨kvs,ml,ek,hL,⟨ndm,lnm⟩,eml⟩:=F.lt;have sk:=EU hL
   exists KK.at Ux,vl,KK.at ek,sk
   refine⟨by rw[Γ];omega,fun l ns hl hp hs=>?_⟩;have WY:∀ n∈ns,n∈ml.map (·.1):=fun n hn=>hp.mem_iff.mp hn;have X8:ns.length < 64:=by rw[hp.length_eq,Γ];omega
   have VB:=AJ hp hs;have N2:=q0D (o:=.lst 7e3) hl;have el:Ul G4 l 8e3 l=some 8e3:=aA;replace hP:=hP.kt 2e32;replace Vx:=N2.at Vx;replace KK:=KK.trans N2;generalize Ul G4 l 8e3=G5 at *;clear hp hs hl N2 sk;refine⟨⟨_,eY.of el⟩,?_⟩;obtain⟨Pv,Uw⟩:∃ Pv:Nat->List V->Hp->Prop,∀ i xs G,Pv i xs G=(gX G xs (dN ml 5e4)/\Kp [] G5 G):=⟨_,fun _ _ _=>rfl⟩;refine kQ (ys:=ns.map V.str) Pv ?_ ?_ ?_ ?_ ?_
   ·rw[Uw];exact⟨.nil,Kp.refl⟩
   ·intro i xs G h;rw[Uw] at h;rw[h.1.len];have h1:=iW ml 5e4;rw[Α3] at h1;omega
   ·intro i xs G h;rw[Uw] at h;exact eY.of 8e22
   ·intro i y xs G hi ey h;rw[Uw] at h;obtain⟨hT,KG⟩:=h;obtain⟨n,en,rfl⟩:∃ n,ns[i]?=some n/\y=V.str n:=by
     rw[Ψ] at ey;obtain⟨n,a0,b0⟩:=ϗ.mp ey;exact⟨n,a0,b0.symm⟩
    obtain⟨la,ws,vn,lw,ela⟩:=hL.inS 0e22;have WK:=KK.trans KG;have es:dN ml 7e21=dN ml 5e4++dN ml [n]:=by rw[Α9,en,Α1,qN]
    exists bA,Α8,WK.at Ux,vl,WK.at ek,vn
    refine fun q0 m0=>⟨_,Jq ((WK.trans (Kp.new m0)).at ela) aA,?_⟩;generalize hg:Ul G q0 2e0=G6;have N0:Kp [] G G6:=hg▸Kp.new m0;clear hg;replace WK:=WK.trans N0;replace KG:=KG.trans N0;replace hT:=hT.kt (aD.nil N0);clear N0 m0;cases ws with
    | nil =>
     rw[if_neg 0e0,Uw,es];exact⟨by rw[show dN ml [n]=[] by simp[dN,lw],ϛ];exact hT,KG⟩
    | cons w r =>
     rw[if_pos 0e0]
     exists WK.at Ux,vl,WK.at ek,vn,WK.at ela
     intro q1 m1 q2 m2;rw[Uw,es,show dN ml [n]=[(n,w::r)] by simp[dN,lw]];exact⟨((hT.kt 8e53).kt 7e53).snoc aA 9e48,(KG.trans 2e54).trans 1e54⟩
   intro ut G h X7 VU;rw[Uw] at h;obtain⟨hT,KG⟩:=h;rw[Γ,ϝ] at hT;have lut:ut.length<=64:=by
    rw[hT.len];have h1:=iW ml ns;omega
   rw[VB,Iz ndm ndl eml] at hT;replace hT:gX G ut S.ltS:=hT;have N3:=KG.trans (q0D (o:=.lst ut) VU);have Vy:Ul G X7 1e14 X7=some 1e14:=aA;replace hT:=hT.kt (aD.new (o:=.lst ut) VU);replace hP:=hP.kt 4e6;replace Vx:=N3.at Vx;replace KK:=KK.trans N3;generalize Ul G X7 1e14=G7 at *;clear Uw KG N3 VU el WY VB X8 ek hL vl ndm lnm eml;right;left;wp_walk;refine⟨P0,A0,S,p,N,rfl,F.kp KK,FT,hN,wtl,fun sv G8 Vn K8=>?_⟩;obtain⟨ea,eca,hce⟩:=F.co.at (F.ps.Te hm);obtain⟨pa,epa,sv',_,eea⟩:=hce;have ixc:gL 2e13 (p:Int)=some (.ref ea):=dQ (by rw[Ψ,eca];rfl);replace hT:=hT.kt 6e53;replace hP:=hP.kt 6e53;replace Vx:=K8.at Vx;replace Vy:=K8.at Vy;replace KK:=KK.trans K8;clear K8 hm eca
   exists KK.at Ux,vc,va,KK.at F.cl,ixc,KK.at eea,t2,t3
   refine fun ah m9=>?_;have N9:=q0D (o:=.tup [sv,.ref pa,wv S.ar,.int S.nw,.ref pn]) m9;have J:Q19 H (Ul G8 ah 9e38) S sv pa pn ah X7 un ut:=⟨aA,Vn.kt 1e32,(KK.trans N9).at epa,N9.at Vx,hP.kt 1e32,N9.at Vy,hT.kt 1e32,KK.trans N9⟩;generalize Ul G8 ah 9e38=G9 at *;clear N9 m9 ixc eea vc va Vn hT hP Vx Vy KK epa;right;have lpd:=FT.pd;have lan:=FT.an;obtain⟨ds,eds,V6⟩:=M0.hd;have Z3:=V6.len
   exists J.kk.at Ux,t4,t5,J.kk.at M0.ho
   refine fun po mo=>?_;generalize hg:Ul G9 po (.tup 7e5)=YW;have No:Kp [] G9 YW:=hg▸Kp.new mo;have eo:YW po=some (.tup 7e5):=hg▸aA;clear hg;replace J:=J.kp No;clear No mo
   exists J.kk.at Ux,t6,J.kk.at eds
   refine fun pd md=>?_;generalize hg:Ul YW pd (.tup ds)=G11;have Nd:Kp [] YW G11:=hg▸Kp.new md;have ed:G11 pd=some (.tup ds):=hg▸aA;clear hg;replace J:=J.kp Nd;replace eo:=Nd.at eo;clear Nd md
   exists J.eu
   refine fun pt mt=>?_;generalize hg:Ul G11 pt (.tup ut)=G12;have Nt:Kp [] G11 G12:=hg▸Kp.new mt;have et:G12 pt=some (.tup ut):=hg▸aA;clear hg;replace J:=J.kp Nt;replace eo:=Nt.at eo;replace ed:=Nt.at ed;clear Nt mt;wp_walk;refine fun pf mf=>?_;generalize hg:Ul G12 pf 1e39=G13;have Nf:Kp [] G12 G13:=hg▸Kp.new mf;have ef:G13 pf=some 1e39:=hg▸aA;clear hg;replace J:=J.kp Nf;replace eo:=Nf.at eo;replace ed:=Nf.at ed;replace et:=Nf.at et;clear Nf mf;refine zP J.ea ef 0e0 fun rv G14 erv Kr=>?_;replace J:=J.kp Kr;refine q _ _ ?_ J.kk;unfold pY;rw[if_pos hg];exact⟨rv,pa,pn,po,pd,pt,sv,un,ds,ut,rfl,erv,J.sl,J.pl,J.en,J.hp,Kr.at eo,Kr.at ed,(V6.kt (aD.nil J.kk)).prv,Kr.at et,J.ht⟩
theorem Pe:Ok T (T.r 69) 60 (EI K):=by
 nomatch T.r 69
 ·obtain⟨a,ns,rfl,_⟩:=h;rfl
 ·obtain⟨a,ns,rfl,hS,h63,q⟩:=h
  nomatch (aI (pst 1 (pcl (x8 T) (T.r 51) (pa1 4e41))) (aI (pst 2 (pcl (Gi T) (T.r 66) (pa2 pv1 4e41))) (aI (pst 3 (pcl (y7 T) 3e34 9e3)) (aI (pst 4 (Ew T.IF (De T) (hr.mono 1e0) rfl T.Tn (T.r 28).bd .nil pass0 9e3)) (pss3 (pif (wD (lB (pcl (jN T 5) 7e24 (pa2 8e35 1e8)))) 6e13) (Ay Δ6 rfl (iE pv2) (pgn 5) (pss3 (aO (pmt pv4 T.aT (Dg T) (T.r 31) (pa1 pv5))) (aO (pcl (rT T) 0e34 (pa2 pv3 pv5))) (pif (wD (lB 9e35)) 6e13))) (aK 9e35)))))),0
  left;wp_walk;refine⟨a,_,2,1,63,rfl,hS,⟨rfl,rfl,rfl⟩,⟨by decide,by decide,by decide⟩,fun ys q1 hy ly m1=>?_⟩;obtain⟨ms,rfl,lm⟩:=Ef hy;rw[Γ,Γ] at ly;have N1:=q0D (o:=.lst 2e50) m1;replace hS:=N1.same.seq hS;refine⟨q1,ms,rfl,aA,by omega,fun p1 us b G1 ep Xa gb db zb K1=>?_⟩;replace hS:=K1.same.seq hS;have zb2:bX b<=62:=by omega
  clear N1 m1 hy K1 zb ly lm;wp_walk;right;left;wp_walk;refine⟨a,_,2,2,63,rfl,hS,⟨rfl,rfl,rfl⟩,⟨by decide,by decide,by decide⟩,fun ys q2 hy ly2 m2=>?_⟩;obtain⟨ms2,rfl,lm2⟩:=Ef hy;rw[Γ,Γ] at ly2;have N2:=q0D (o:=.lst (ms2.map V.int)) m2;refine⟨p1,q2,us,b,ms2,rfl,N2.at ep,Xa.kp 2e32,gb,by omega,by omega,aA,by omega,fun rl hv hs G2 er hH ok lh K2=>?_⟩;replace K2:=N2.trans K2;replace ep:=K2.at ep;replace Xa:=Xa.kp 4e32;replace hS:=K2.same.seq hS;have l31:hs.length<=31:=by omega
  have lix:∀ k:Nat,k < hs.length->2+2 * k < ns.length:=fun k hk=>by omega
  clear N2 m2 hy K2 ly2 lm2 lh;wp_walk;right;left;wp_walk;refine⟨p1,us,b,rfl,ep,Xa,by omega,by omega,fun A1 G3 F3 Yn nk0 xaw K3=>?_⟩;obtain⟨md,Xm⟩:∃ md,md=A1.md:=⟨_,rfl⟩;rw[<- Xm];replace ep:=K3.at ep;replace Xa:=Xa.kp (aD.nil K3);wp_walk;right;left;have lu:=Xa.len;have lbz:=kR b
  exists ep
  refine Pa ep Xa fun R sl G4 RA K4 NR=>?_;have lh2:=hH.len;have J0:In13 ⟨t.aP,t.aQ,t.aJ⟩ b md G2 G4 R [] sl A1 0 6e1 6e1:=by
   obtain⟨oaw,Wh⟩:=xaw;refine⟨RA,F3.kp K4,Xm.symm,fun x hx=>?_,⟨_,K4.at Wh⟩,K3.trans K4,fun x hx=>?_⟩
   ·rcases hx with hx|hx
    ·have hn:=NR x hx;obtain⟨w1,w2,w3⟩:=F3.new hn;exact⟨w3,w1.1,w1.2,fun z=>by rw[z,Wh] at hn;cases hn⟩
    ·simp at hx
   ·rcases hx with hx|hx|hx
    ·exact K3.cJ (NR x hx)
    ·simp at hx
    ·exact Yn x hx
  have P0:Pu13 b hs 6e1 0:=⟨D7 gb 1e0,rfl,ET b,IK,IA⟩;clear RA F3 K4 NR xaw Yn K3 ep Xa lu lbz;right;left
  exists J0.ra.ins
  have Wj:=P0.UO 1e0 zb2 1e0;refine⟨R,[],_,_,rfl,J0.ra,P0.hn,Wj.1,Wj.2.1,Wj.2.2.1,Wj.2.2.2.1,Wj.2.2.2.2,fun v5 G5 h5 K5=>?_⟩;wp_walk;refine fun q6 m6=>?_;have N6:=q0D (o:=.tup [.str "new"]) m6;obtain⟨p5,rfl,e5⟩:∃ p5,v5=.ref p5/\G5 p5=some 3e47:=h5;refine⟨_,_,5,rfl,rfl,oN.pair (d:=3) (N6.at e5) aA 0e0 (fun v hv=>by rw[show v=.str "new" by simpa using hv];trivial),fun G7 K7=>?_⟩;replace J0:=J0.kp ((K5.trans N6).trans K7);clear K5 N6 K7 m6 e5 Wj;wp_walk;right;left;have er7:=J0.kb.at er
  exists er7
  refine⟨⟨_,eY.of er7⟩,?_⟩;obtain⟨Pv,Uw⟩:∃ Pv:Nat->St->Hp->Prop,∀ i Z G,Pv i Z G=E5 fun(v5:Option V) (as:List Addr) (sl:V) (A:Fa) (p:Nat)=>A4 (Z=[some 3e2,some 3e18,some 3e33,some 6e33,some 3e23,v5]) (In13 ⟨t.aP,t.aQ,t.aJ⟩ b md G2 G R as sl A p (takes 6e1 8e11).1 (takes 6e1 8e11).1) (Pu13 b hs (takes 6e1 8e11).1 i) (A.nk<=i):=⟨_,fun _ _ _=>rfl⟩;refine Bl (xs:=hv) Pv ?_ ?_ ?_ ?_
  ·rw[Uw];exact⟨_,[],sl,A1,0,rfl,J0,P0,by omega⟩
  ·intro i Z G _ h;rw[Uw] at h;obtain⟨_,_,_,_,_,_,J,_⟩:=h;exact eY.of (J.kb.at er)
  ·intro i y Z G hi h;rw[Uw] at h;clear J0 P0 er7;obtain⟨v5,as,sl,A,p,rfl,J,P,hk⟩:=h;obtain⟨x,ex,hx⟩:=hH.gL hi;have hf:=ok x (ϓ ex);have il:i < hs.length:=(Μ.mp ex).1;have es:takes 6e1 (hs.take 7e1)=(((takes 6e1 8e11).1.take x).1,(takes 6e1 8e11).2++[((takes 6e1 8e11).1.take x).2]):=by rw[Α9,ex,Α1,oK]
   generalize eS:(takes 6e1 8e11).1=S at *;left
   exists J.ra.ins
   refine⟨R,as,_,S,y,x,302 * i,rfl,J.ra,P.ft,by omega,P.hn,Aa hx 4e51,hf,fun YX WG c uc G5 RA5 hc nc ec hC W5=>?_⟩;replace J:=(J.run W5 RA5).1;clear W5 RA5 hc nc ec hC;wp_walk;right;left;wp_walk;refine⟨b,A,S,p,y,x,302 * i,by rw[J.md],J.fl,Aa hx 4e51,hf,P.ft,by omega,P.hn,P.sd,by omega,fun A' p' op Zd G6 F6 Xz e6 c6 n6 W6 hk6=>?_⟩;have P6:=P.take (ϓ ex) hf 1e0 (by obtain⟨_,M,_⟩:=J.fl.ex;exact M.lt);replace J:=(J.mod W6 F6).1;clear W6 F6 Xz e6 c6 n6 P;wp_walk;right;have UO:=P6.UO 1e0 zb2 1e0
   exists J.ra.ins
   refine⟨R,YX,_,_,rfl,J.ra,P6.hn,UO.1,UO.2.1,UO.2.2.1,UO.2.2.2.1,UO.2.2.2.2,fun v8 G8 h8 K8=>?_⟩;replace J:=J.kp K8;clear K8;wp_walk;refine⟨b,A',_,p',302 * 7e1,by rw[J.md],J.fl,P6.ft,by omega,P6.hn,P6.sd,UO.2.1,by omega,P6.lt.nd,fun v9 G9 h9 K9=>?_⟩;replace J:=J.kp K9;replace h8:=h8.kt 5e53;clear K9;wp_walk;refine⟨v8,v9,5,rfl,rfl,ML h8 h9 P6.ft 1e0 P6.hn (P6.wtl) J.ra.wk.UO,fun YW Zh=>?_⟩;replace J:=J.kp Zh;clear h8 h9 Zh;wp_walk;rw[Uw];rw[show(takes 6e1 (hs.take 7e1)).1=(S.take x).1 by rw[es]];exact⟨_,YX,_,A',p',rfl,J,P6,by omega⟩
  intro Z G h;rw[Uw] at h;clear J0 P0 er7;obtain⟨v5,as,sl,A,p,rfl,J,P,hk⟩:=h;right;have UO:=P.UO 1e0 zb2 1e0
  exists J.ra.ins
  refine⟨R,as,_,_,rfl,J.ra,P.hn,UO.1,UO.2.1,UO.2.2.1,UO.2.2.2.1,UO.2.2.2.2,fun v8 G8 h8 K8=>?_⟩;replace J:=J.kp K8;clear K8;wp_walk;refine⟨b,A,_,p,302 * hv.length,by rw[J.md],J.fl,P.ft,by omega,P.hn,P.sd,UO.2.1,by omega,P.lt.nd,fun v9 G9 h9 K9=>?_⟩;replace J:=J.kp K9;replace h8:=h8.kt 5e53;clear K9;wp_walk;refine⟨v8,v9,5,rfl,rfl,ML h8 h9 P.ft 1e0 P.hn (P.wtl) J.ra.wk.UO,fun YW Zh=>?_⟩;replace J:=J.kp Zh;clear h8 h9 Zh;exact q _
end
end
def J2{q:Program}{K:Params->q0B}{t:Nat}{r:PySem.W.RowW}{d:DefRec}{kwd:List (Str×Expr)}{run:Value->List Value->Sem Value}(e:∀ P:Params,as=List.map (fun x=>x.fst) (K P))(H:PySem.W.WalkO q loose XP (PySem.W.kHook K as e).says r d kwd run):PySem.W.WalkX q loose XP (PySem.W.X.obsZ as) (PySem.W.X.valZ K n t) r d kwd run:=fun w s₀ s₁ mg mb G y a o pm cd doc dV kV h1 h2 h3 h4 h5 h6 args vals bs L=>by
 obtain⟨_,f,_,_⟩:=PySem.W.X.z_facts e y;exact H w s₀ s₁ mg mb G (show PySem.W.InK K w s₁.heap from fun p ob hp=>L.keeps _ _ (f p ob hp)) a o pm cd doc dV kV h1 h2 h3 h4 h5 h6 args vals bs
theorem cF{p:Prop}{l:List Prop}(h:p)(g:∀ i,l.getD i True):∀ i,(p::l).getD i True
 | 0=>h
 | i+1=>g i
section
open PySem.W
def MZ{l:OpenLaw}{w:World}{K:Frag}{h:Heap}{fa:Addr}(X:K.In h)(G:h.Ns mainGlobals mg)(hfa:mg "law"=some (.ref fa)){f0 f1 f2 f3 f4 f5 f6 f7 f8 f9 f10 f11 f12 f13 f14 f15 f16 f17 f18 f19 f20 f21 f22 f23 f24 f25 f26 f27 f28 f29 f30 f31 f32 f33 f34 f35 f36 f37 f38 f39 f40 f41 f42 f43 f44 f45 f46 f47 f48 f49 XM f51 f52 f53 f54 f55 f56 f57 f58 f59 f60 f61 f62 f63 f64 f65 f66 f67 f68 f69:Addr}{d0 d1 d2 d3 d4 d5 d6 d7 d8 d9 d10 d11 d12 d13 d14 d15 d16 d17 d18 d19 d20 d21 d22 d23 d24 d25 d26 d27 d28 d29 d30 d31 d32 d33 d34 d35 d36 d37 d38 d39 d40 d41 d42 d43 d44 d45 d46 d47 d48 d49 d50 d51 d52 d53 d54 d55 d56 d57 d58 d59 d60 d61 d62 d63 d64 d65 d66 d67 d68 d69:FuncData}{aJ:Addr}{aQ:Addr}{aP:Addr}{tk0:Tok}{tk1:Tok}{tk2:Tok}{WH:Addr}{te3:Array DictEntry}{tn3:Nat}(We:nsIn K mainGlobals "Tickets"=some (some (.ref aJ)))(Ws:plainGet K aJ Str.empty=true)(Wl:hasDictIn K aJ=true)(Wt:plainOver K aJ=true)(Wu:findIn K (.ref aJ) "__setattr__"=some (some (.builtin "object.__setattr__")))(qP:makesIn K aJ=true)(Wp:keepIn K (.ref aJ)=true)(Yj:nsIn K mainGlobals "Walk"=some (some (.ref aQ)))(YM:plainGet K aQ Str.empty=true)(Yr:hasDictIn K aQ=true)(YN:plainOver K aQ=true)(YQ:findIn K (.ref aQ) "__setattr__"=some (some (.builtin "object.__setattr__")))(C5:makesIn K aQ=true)(YC:keepIn K (.ref aQ)=true)(Zl:nsIn K mainGlobals "Run"=some (some (.ref aP)))(aaD:plainGet K aP Str.empty=true)(ZI:hasDictIn K aP=true)(aaE:plainOver K aP=true)(aaF:findIn K (.ref aP) "__setattr__"=some (some (.builtin "object.__setattr__")))(IF:makesIn K aP=true)(Z1:keepIn K (.ref aP)=true)(F0:Gf0 K "kept" Jt f0 d0)(F1:Gf0 K "worth_of" zL f1 d1)(F2:Gf0 K "joined" B8 f2 d2)(F3:Gf0 K "number_of" wV f3 d3)(F4:Gf0 K "one_or_nought" nZ f4 d4)(F5:Gm0 K aJ "__init__" "Tickets.__init__" nW f5 d5)(F6:Gm0 K aJ "make" "Tickets.make" nX f6 d6)(F7:Gm0 K aJ "is_open" "Tickets.is_open" lO f7 d7)(F8:Gm0 K aJ "those_open" "Tickets.those_open" jE f8 d8)(F9:Gm0 K aJ "finish" "Tickets.finish" lM f9 d9)(F10:Gm0 K aJ "shut" "Tickets.shut" nY f10 d10)(F11:Gm0 K aJ "shut_all" "Tickets.shut_all" kJ f11 d11)(F12:Gm0 K aJ "first_done" "Tickets.first_done" jD f12 d12)(F13:Gm0 K aQ "__init__" "Walk.__init__" wK f13 d13)(F14:Gm0 K aQ "come_to" "Walk.come_to" pL f14 d14)(F15:Gm0 K aQ "stands_at" "Walk.stands_at" mO f15 d15)(F16:Gm0 K aQ "pass_by" "Walk.pass_by" pM f16 d16)(F17:Gm0 K aQ "enter" "Walk.enter" rW f17 d17)(F18:Gm0 K aQ "leave" "Walk.leave" rX f18 d18)(F19:Gm0 K aQ "place" "Walk.place" rY f19 d19)(F20:Gf0 K "do_set" EB f20 d20)(F21:Gf0 K "do_order" zE f21 d21)(F22:Gf0 K "do_timer" zF f22 d22)(F23:Gf0 K "do_send" B6 f23 d23)(F24:Gf0 K "do_drop" B4 f24 d24)(F25:Gf0 K "do_wait" B7 f25 d25)(F26:Gf0 K "do_hear" B5 f26 d26)(F27:Gf0 K "do_end" EA f27 d27)(F28:Gm0 K aP "__init__" "Run.__init__" zA f28 d28)(F29:Gm0 K aP "open_tickets" "Run.open_tickets" kI f29 d29)(F30:Gm0 K aP "state" "Run.state" wI f30 d30)(F31:Gm0 K aP "take" "Run.take" zC f31 d31)(F32:Gm0 K aP "passes_over" "Run.passes_over" lK f32 d32)(F33:Gm0 K aP "take_done" "Run.take_done" nV f33 d33)(F34:Gm0 K aP "take_letter" "Run.take_letter" lL f34 d34)(F35:Gm0 K aP "wake" "Run.wake" zD f35 d35)(F36:Gm0 K aP "go_on" "Run.go_on" y9 f36 d36)(F37:Gm0 K aP "do_one" "Run.do_one" wH f37 d37)(F38:Gm0 K aP "look" "Run.look" zB f38 d38)(F39:Gm0 K aP "end" "Run.end" B3 f39 d39)(F40:Gm0 K aP "wear_out" "Run.wear_out" pK f40 d40)(F41:Gm0 K aP "worth" "Run.worth" wJ f41 d41)(F42:Gm0 K aP "new_ticket" "Run.new_ticket" mN f42 d42)(F43:Gf0 K "_law_deck" zG f43 d43)(F44:Gf0 K "_law_pick" zJ f44 d44)(F45:Gf0 K "_law_name" zI f45 d45)(F46:Gf0 K "_law_worth" wU f46 d46)(F47:Gf0 K "_law_saying" sA f47 d47)(F48:Gf0 K "_law_plain" wN f48 d48)(F49:Gf0 K "_law_simple" sC f49 d49)(F50:Gf0 K "_law_closed" rZ XM d50)(F51:Gf0 K "_law_program" pP f51 d51)(F52:Gf0 K "_law_bounded" pN f52 d52)(F53:Gf0 K "_law_says" zK f53 d53)(F54:Gf0 K "_law_flat" zH f54 d54)(F55:Gf0 K "_law_new" B9 f55 d55)(F56:Gf0 K "_law_ticket" sD f56 d56)(F57:Gf0 K "_law_ended" wM f57 d57)(F58:Gf0 K "_law_do_plain" pO f58 d58)(F59:Gf0 K "_law_do_wait" r9 f59 d59)(F60:Gf0 K "_law_do_hear" r8 f60 d60)(F61:Gf0 K "_law_go" EC f61 d61)(F62:Gf0 K "_law_goes_behind" lP f62 d62)(F63:Gf0 K "_law_takes" wQ f63 d63)(F64:Gf0 K "_law_waits" wR f64 d64)(F65:Gf0 K "_law_happening" mP f65 d65)(F66:Gf0 K "_law_row" Ca f66 d66)(F67:Gf0 K "_law_alike" wL f67 d67)(F68:Gf0 K "_law_state" wO f68 d68)(F69:Gf0 K "law" MF f69 d69)(qQ:findIn K (.ref aJ) "made"=some none)(gS:findIn K (.ref aJ) "pending"=some none)(gQ:findIn K (.ref aJ) "answers"=some none)(iI:findIn K (.ref aQ) "blocks"=some none)(e9:findIn K (.ref aQ) "numbers"=some none)(i5:findIn K (.ref aP) "walk"=some none)(dR:findIn K (.ref aP) "sleep"=some none)(yY:findIn K (.ref aP) "arg"=some none)(o7:findIn K (.ref aP) "now"=some none)(gF:findIn K (.ref aP) "names"=some none)(cS:findIn K (.ref aP) "tickets"=some none)(gR:findIn K (.ref aP) "letters"=some none)(v0:nsIn K mainGlobals "GREATEST_WORTH"=some (some (.int 1000000000 tk0)))(v1:nsIn K mainGlobals "GREATEST_MOMENT"=some (some (.int 1000000000000 tk1)))(v2:nsIn K mainGlobals "MOST_AT_ONCE"=some (some (.int 300 tk2)))(v3:nsIn K mainGlobals "DEEDS"=some (some (.ref WH)))(u3:K.lookup WH=some {cls:=.type "dict",data:=.dict te3 tn3})(aa8:nsIn K WH "set"=some (some (.ref f20)))(aa9:nsIn K WH "order"=some (some (.ref f21)))(abA:nsIn K WH "timer"=some (some (.ref f22)))(abB:nsIn K WH "child"=some (some (.ref f21)))(abC:nsIn K WH "send"=some (some (.ref f23)))(abD:nsIn K WH "drop"=some (some (.ref f24)))(abE:nsIn K WH "wait"=some (some (.ref f25)))(abF:nsIn K WH "hear"=some (some (.ref f26)))(abG:nsIn K WH "end"=some (some (.ref f27)))(J3:nsIn K mainGlobals "bool"=some none)(J4:nsIn K mainGlobals "dict"=some none)(yE:nsIn K mainGlobals "int"=some none)(eR:nsIn K mainGlobals "isinstance"=some none)(jW:nsIn K mainGlobals "len"=some none)(Cz:nsIn K mainGlobals "list"=some none)(AU:nsIn K mainGlobals "max"=some none)(GS:nsIn K mainGlobals "min"=some none)(rJ:nsIn K mainGlobals "range"=some none)(Mi:nsIn K mainGlobals "set"=some none)(jR:nsIn K mainGlobals "sorted"=some none)(dP:nsIn K mainGlobals "tuple"=some none)(kl3:KeysLit w.params te3.toList) : ∃ fd:FuncData,(∀(s:Shared) (v:Value),BindsTo s fd ⟨[v],[]⟩ [("script",v)])/\∀ base:Heap,K.In base->base.Ns mainGlobals mg->fG l.prog w K mg base U7 60 fa fd ["script"] (EI K):=by
 have e:=hfa.symm.trans (mg_of X G F69.a);cases e;refine⟨d69,?_,fun base _ _=>Pe (?_:Tx l.prog w base K mg ⟨fun i=>[f0,f1,f2,f3,f4,f5,f6,f7,f8,f9,f10,f11,f12,f13,f14,f15,f16,f17,f18,f19,f20,f21,f22,f23,f24,f25,f26,f27,f28,f29,f30,f31,f32,f33,f34,f35,f36,f37,f38,f39,f40,f41,f42,f43,f44,f45,f46,f47,f48,f49,XM,f51,f52,f53,f54,f55,f56,f57,f58,f59,f60,f61,f62,f63,f64,f65,f66,f67,f68,fa].getD i fa,fun i=>[d0,d1,d2,d3,d4,d5,d6,d7,d8,d9,d10,d11,d12,d13,d14,d15,d16,d17,d18,d19,d20,d21,d22,d23,d24,d25,d26,d27,d28,d29,d30,d31,d32,d33,d34,d35,d36,d37,d38,d39,d40,d41,d42,d43,d44,d45,d46,d47,d48,d49,d50,d51,d52,d53,d54,d55,d56,d57,d58,d59,d60,d61,d62,d63,d64,d65,d66,d67,d68,d69].getD i d0,tk0,tk1,tk2,WH,aJ,aQ,aP⟩)⟩
 ·obtain⟨_,_,_,_,_,_,_,_,_,rfl,_⟩:=F69.F.ex;exact fun s v=>.of_eq rfl
 ·exact⟨cF (F0.go X G) (cF (F1.go X G) (cF (F2.go X G) (cF (F3.go X G) (cF (F4.go X G) (cF F5.go (cF F6.go (cF F7.go (cF F8.go (cF F9.go (cF F10.go (cF F11.go (cF F12.go (cF F13.go (cF F14.go (cF F15.go (cF F16.go (cF F17.go (cF F18.go (cF F19.go (cF (F20.go X G) (cF (F21.go X G) (cF (F22.go X G) (cF (F23.go X G) (cF (F24.go X G) (cF (F25.go X G) (cF (F26.go X G) (cF (F27.go X G) (cF F28.go (cF F29.go (cF F30.go (cF F31.go (cF F32.go (cF F33.go (cF F34.go (cF F35.go (cF F36.go (cF F37.go (cF F38.go (cF F39.go (cF F40.go (cF F41.go (cF F42.go (cF (F43.go X G) (cF (F44.go X G) (cF (F45.go X G) (cF (F46.go X G) (cF (F47.go X G) (cF (F48.go X G) (cF (F49.go X G) (cF (F50.go X G) (cF (F51.go X G) (cF (F52.go X G) (cF (F53.go X G) (cF (F54.go X G) (cF (F55.go X G) (cF (F56.go X G) (cF (F57.go X G) (cF (F58.go X G) (cF (F59.go X G) (cF (F60.go X G) (cF (F61.go X G) (cF (F62.go X G) (cF (F63.go X G) (cF (F64.go X G) (cF (F65.go X G) (cF (F66.go X G) (cF (F67.go X G) (cF (F68.go X G) (cF (F69.go X G) (fun _=>trivial)))))))))))))))))))))))))))))))))))))))))))))))))))))))))))))))))))))),⟨Ws,Wl,Wt,Wu⟩,(mg_of X G We),⟨qP,F5.a,F5.i,Wp⟩,⟨YM,Yr,YN,YQ⟩,(mg_of X G Yj),⟨C5,F13.a,F13.i,YC⟩,⟨aaD,ZI,aaE,aaF⟩,(mg_of X G Zl),⟨IF,F28.a,F28.i,Z1⟩,qQ,gS,gQ,iI,e9,i5,dR,yY,o7,gF,cS,gR,(mg_of X G v0),(mg_of X G v1),(mg_of X G v2),(mg_of X G v3),⟨_,_,u3,kl3⟩,aa8,aa9,abA,abB,abC,abD,abE,abF,abG,(Ε4 X G J3),(Ε4 X G J4),(Ε4 X G yE),(Ε4 X G eR),(Ε4 X G jW),(Ε4 X G Cz),(Ε4 X G AU),(Ε4 X G GS),(Ε4 X G rJ),(Ε4 X G Mi),(Ε4 X G jR),(Ε4 X G dP)⟩
end
theorem walk{l:PySem.W.OpenLaw}{q:Program}{YP:World->Heap->Prop}{d:DefRec}{K:Params->q0B}(hn:l.most=some 63)(ZJ:d.params.defaults=[])(hY:∀(w:World) (h:Heap),YP w h->(K w.params).In h)(F:∀(w:World) (mg:q0C) (fa:Addr) (h:Heap),(K w.params).In h->h.Ns mainGlobals mg->mg d.name=some (.ref fa) -> ∃ fd:FuncData,(∀(s:Shared) (u:Value),BindsTo s fd ⟨[u],[]⟩ [("script",u)])/\∀ base:Heap,(K w.params).In base->base.Ns mainGlobals mg->fG l.prog w (K w.params) mg base U7 60 fa fd ["script"] (EI (K w.params))) : PySem.W.WalkO q loose XP YP l.row.toRowW d [] (fun f vs=>PySem.call f vs) :=
 Lake.Mh (n:=63) (k:=60) (x:="script") (CX:=fun _=>U7) (sp:=fun w=>EI (K w.params)) hn (by decide) ZJ ⟨rfl,by decide,by decide⟩ hY F (fun _ _ a ns hl _ hS=>⟨a,ns,rfl,hS,hl,fun _=>rfl⟩) fun _ _ _ _ _ z=>z
end Internal
open PySem PySem.W PyProof.Rows
set_option maxRecDepth 100000 in
set_option maxHeartbeats 0 in
theorem PySem.Challenge.cw_outlast_k19_states_told_holds : PySem.Challenge.rw_outlast_k19_states_told.Holds := by
 w_on;o_law;z_head;(case hw=>w_witness2)
 k_fill
 refine Internal.J2 (fun _=>rfl) ?_;refine Internal.walk (l:=PySem.Challenge.rw_outlast_k19_states_told) rfl rfl (fun w h Y=>PySem.W.kIn_of Y) ?F
 case F =>
  intro w mg fa h KX G ZO;apply Internal.MZ KX G ZO
  iterate 129 (first|(apply Internal.Rh<;>k_is)|(apply Internal.Ri<;>k_is)|k_is)
  exact⟨⟨_,_,rfl,rfl⟩,⟨_,_,rfl,rfl⟩,⟨_,_,rfl,rfl⟩,⟨_,_,rfl,rfl⟩,⟨_,_,rfl,rfl⟩,⟨_,_,rfl,rfl⟩,⟨_,_,rfl,rfl⟩,⟨_,_,rfl,rfl⟩,⟨_,_,rfl,rfl⟩,trivial⟩
