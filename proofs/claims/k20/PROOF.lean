import PyProof.Rows.All
import Wide.All
import OpenK.AllK
import Wide.FinOn
import Lean
import PyProof.EqAt
import PyProof.EqKinds
import PyProof.TupleCall
import PySem.Challenge.RW_outlast_k20_whole_alike_states_go_on_ali
set_option Elab.async false
set_option linter.all false
set_option genInjectivity false
set_option compiler.extract_closed false
set_option bootstrap.genMatcherCode false
set_option genSizeOf false
set_option maxRecDepth 100000
local macro_rules | `(tactic| omega) => `(tactic| first | assumption | lia | omega +splitDisjunctions)
noncomputable section
local macro_rules
|`(mutual example:=[$ts,*] $cs:command* end)=>do
 let f(D:Array Lean.Syntax)(s:Lean.Syntax):=s.rewriteBottomUp fun s=>if s.isOfKind `scientific then (match s[0].getAtomVal.splitOn "e" with|[a,b]=>D[10*b.toNat!+a.toNat!]!|_=>s) else s.setInfo .none
 let D:=ts.getElems.foldl (fun D t=>D.push (f D t)) #[]
 return Lean.mkNullNode (cs.map fun c=>let s:=f D c;if s.isOfKind `Lean.Parser.Command.declaration&&(s[1].isOfKind `Lean.Parser.Command.definition||s[1].isOfKind `Lean.Parser.Command.abbrev) then s.setArg 0 (s[0].setArg 4 (Lean.mkNullNode #[Lean.mkNode `Lean.Parser.Command.noncomputable #[Lean.mkAtom "noncomputable"]])) else s)
namespace PySem.W.Fast
mutual
example:=[]
def K:=Nat
def tw17707722012445282917:=K
def tw189872576455974741:=K
def tw11732237375539496664:=K
def tw16421804269322719173:=K
def tw6013763556922494217:=K
def tw13478464813318193261:=K
def tw9032252338353826698:=K
def tw7336270464174119441:=K
def tw4307538611717997246:=K
def tw17014693435335022340:=K
def tw15577551488600379300:=K
def tw18417015917544045571:=K
def tw2851698645129962282:=K
def tw16541650556914167257:=K
def tw658385301144557985:=K
def tw5901942728937849537:=K
def tw12265526424952039291:=K
def tw536687907497602138:=K
def tw6841901392845412357:=K
def tw10333287374922127579:=K
def tw15469200219145564761:=K
def tw11987694824910091946:=K
def tw17587667877331415973:=K
def tw15602050110279106416:=K
def tw845385648778322127:=K
def tw17324911268620485263:=K
def tw136777274336295624:=K
def tw11976401261071631179:=K
def tw13363916440123876636:=K
def tw4775987755733084954:=K
def tw3882882388239537962:=K
def tw6136545165978719627:=K
def tw11181641253388220984:=K
def tw10493069044973672549:=K
def tw9314672075366323486:=K
def tw12250607053935213859:=K
def tw8838446342279619401:=K
def tw2265749579756595091:=K
def tw6689585569203369862:=K
def tw7430732668539883810:=K
def tw17598539610476988851:=K
def tw12940945691474822440:=K
def tw9981395283454906479:=K
def tw12052048074451110447:=K
def tw14444140949237021606:=K
def tw11726684303048881837:=K
def tw7164444282985058224:=K
def tw3788971762978685985:=K
def tw1087288963296732637:=K
def tw6682064363766519133:=K
def tw504020188230293290:=K
def tw15887992402163038201:=K
def tw13953819159832790355:=K
def tw644363545370731426:=K
def tw8418764804428161824:=K
def tw10901495482147884105:=K
def tw11101257155421038994:=K
def tw16478010501401204702:=K
def tw4203142243503845073:=K
def tw9365985874078149479:=K
def tw15091265753957062467:=K
def tw14311759872825208061:=K
def tw8734554036173886549:=K
def tw15672363928803552105:=K
def tw9846383724370982560:=K
def tw6327755035169312525:=K
def tw13086354930684175774:=K
def tw4273557672107771747:=K
def tw4846339009944117312:=K
def tw16112710485792417767:=K
def tw1256356732079081348:=K
def tw4436208624492754321:=K
def tw11055985139083339399:=K
def tw4298828329223577935:=K
def tw1829401830729054845:=K
def tw51370786885211124:=K
def tw20763898219425919:=K
def tw13593768156123194157:=K
def tw16311446605890701635:=K
def tw10937772706905591687:=K
def tw17658973699949915600:=K
def tw16060988484633475101:=K
def tw2155843054324293989:=K
def tw5250229250391963519:=K
def tw3178990947183672964:=K
def tw959299902354267817:=K
def tw11996706322592862724:=K
def tw2880633824155832784:=K
def tw12319117753421503139:=K
def tw12255082906582134724:=K
def tw11223568450611496411:=K
def tw4857725735061507045:=K
def tw14709760962192052990:=K
def tw14009255752016871917:=K
def tw1937226649123733948:=K
def tw9483256696693606325:=K
def tw12978968348711371761:=K
def tw4547019822618891029:=K
def tw8052870823630537778:=K
def tw1965592487841498803:=K
def tw7856198584985600412:=K
def tw798112021481237870:=K
def tw5966956622068091565:=K
def tw3809255117070126807:=K
def tw12848986112674047883:=K
def tw13795609066049189440:=K
def tw1963168544278261300:=K
def tw15523459879225009002:=K
def tw2525975704675976480:=K
def tw10823239512968548179:=K
def tw7532543449024819625:=K
def tw8545858639499193858:=K
def tw6864272550367227741:=K
def tw9675478323883273450:=K
def tw7473165221651667240:=K
def tw5753511471872849492:=K
def tw2066774229824494633:=K
def tw15312623011775898294:=K
def tw118669482096855677:=K
def tw426647893900904259:=K
def tw12675196809127525683:=K
def tw14049467828748155796:=K
def tw13414942451688005328:=K
def tw326829296472561405:=K
def tw9793342473641049092:=K
def tw4090722021902587853:=K
def tw15564121237272974139:=K
def tw9428918295362537254:=K
def tw11562119791382058563:=K
def tw11095806737180137754:=K
def tw7412189629197418475:=K
def tw6337559944105716954:=K
def tw4911349316752494733:=K
def tw9413470094239844079:=K
def tw6348469612205346296:=K
def tw10051270044189276232:=K
def tw8550326097266695153:=K
def tw18078014943839962387:=K
def tw13698459017218597004:=K
def tw5414929867677168172:=K
def tw15854245561598946863:=K
def tw6192105357068204535:=K
def tw4152549419043365045:=K
def tw3516255201702886896:=K
def tw4236065191054307590:=K
def tw2266422483114348295:=K
def tw18018187504621466311:=K
def tw1008916849936694847:=K
def tw14697716074676681379:=K
def tw9180441017315270273:=K
def tw6927895474829965397:=K
def tw15707961531333972107:=K
def tw8129155535172598097:=K
def tw10644685678976423698:=K
def tw3995819573097421869:=K
def tw7838970808422798844:=K
def tw18059083273049178697:=K
def tw3662930130047004291:=K
def tw10980814484746796910:=K
def tw5191442240989444536:=K
def tw2974007784614318245:=K
def tw8182204950419773094:=K
def tw10985177820698884059:=K
def tw1809341076380753821:=K
def tw15645106364167629153:=K
def tw6537565948625417883:=K
def tw9129944876760813440:=K
def tw1031820684468889110:=K
def tw6328977607769302096:=K
def tw16943585450561293466:=K
def tw5414364119595792623:=K
def tw14607266150192934563:=K
def tw13631956056071443920:=K
def tw1818045893946212496:=K
def tw15027845901769279788:=K
def tw1353048697536464329:=K
def tw3518495709845419895:=K
def tw12844154605988265490:=K
def tw6529500305591461381:=K
def tw7450318838473268804:=K
def tw14453311557741453076:=K
def tw13687017927047420837:=K
def tw13599882721257502247:=K
def tw5629036080272621156:=K
def tw7293279184610953156:=K
def tw15748402067691148097:=K
def tw6117779881751637383:=K
def tw2178239362998199427:=K
def tw17004643420923365116:=K
def tw12909267868571975012:=K
def tw11489494319706544623:=K
def tw13706543500724583947:=K
def tw15469559927543989590:=K
def tw2907392778178502957:=K
def tw9681457847288583756:=K
def tw5227339385339276434:=K
def tw13831328513367889905:=K
def tw4240930588761099831:=K
def tw2592724993445638218:=K
def tw14209386801571284668:=K
def tw17365522219321543101:=K
def tw17866168374140741559:=K
def tw4218683225161536712:=K
def tw16616007690230382456:=K
def tw15607461311467017080:=K
def tw13473467954036515817:=K
def tw11343843160102448892:=K
def tw16371328699323567173:=K
def tw9198881636176527273:=K
def tw9101270150779911515:=K
def tw2101217568486739481:=K
def tw1391539993684250287:=K
def tw14925955526341527741:=K
def tw474276219424857123:=K
def tw4902062040990179685:=K
def tw5320379337292545856:=K
def tw4919499630085942777:=K
def tw5179585100977785947:=K
def tw15659967099158495289:=K
def tw11838669830885491477:=K
def tw5996434882235861615:=K
def tw17978260358977455603:=K
def tw1001973392242725597:=K
def tw8014960122317041385:=K
def tw11726879503748280278:=K
def tw921665603488803872:=K
def tw7883407439273009191:=K
def tw3902754592918257537:=K
def tw11739125223259683671:=K
def tw9946345803839552745:=K
def tw5865828859449922318:=K
def tw13090164956416576749:=K
def tw11190945445400301736:=K
def tw7210948171010805058:=K
def tw13402930880053313886:=K
def tw1099349720527006585:=K
def tw14047318740500877281:=K
def tw7823600323449344377:=K
def tw6152972671269741705:=K
def tw4246085613565636181:=K
def tw12267389506061540426:=K
def tw6515284232518196853:=K
def tw4334767466980891706:=K
def tw9324856684261578299:=K
def tw3656748198354229115:=K
def tw3589796479070301630:=K
def tw14685867968342230556:=K
def tw5201260683580154844:=K
def tw5032049363072919397:=K
def tw2734881087635932463:=K
def tw12525445976843333017:=K
def tw11690515291369534239:=K
def tw3352986953846450554:=K
def tw14360335878282384521:=K
def tw4665887034028071333:=K
def tw12497355580601219825:=K
def tw15263182978903781201:=K
def tw8261757983813072376:=K
def tw14520630598598053490:=K
def tw12864133489754611429:=K
def tw18187521649141959400:=K
def tw12318976705221078940:=K
def tw8234008384841666433:=K
def tw9794690942804275163:=K
def tw2575015013669189618:=K
def tw1816759389321239703:=K
def tw12097320485638077496:=K
def tw12043926403463036718:=K
def tw8839354078797720728:=K
def tw17143214259961639141:=K
def tw1963909320216377645:=K
def tw15841590204456429709:=K
def tw6437490379601824687:=K
def tw2851509484540668000:=K
def tw12509972090661732434:=K
def tw12541959478725104121:=K
def tw868774533583452616:=K
def tw12735128171493580762:=K
def tw1266205085905154104:=K
def tw11133408153717713795:=K
def tw2268036703578365382:=K
def tw10108017394216763582:=K
def tw980186583396513185:=K
def tw4755890866937732825:=K
def tw15908238658323975951:=K
def tw9586665914411171198:=K
def tw7747368328004499327:=K
def tw5261753038160236877:=K
def tw2856024714543715404:=K
def tw2284343434074611041:=K
def tw17533787932330674765:=K
def tw12947618535614197493:=K
def tw11628986274283090149:=K
def tw7685189200291254238:=K
def tw7268679661807969136:=K
def tw16442020580217153726:=K
def tw14611559503476397949:=K
def tw1332405092314777986:=K
def tw6790009426003238832:=K
def tw3331893446129573502:=K
def tw13025963705517659467:=K
def tw18326953211798413971:=K
def tw914692174300135803:=K
def tw8215705796968315458:=K
def tw1988416801437568117:=K
def tw16713350462074498833:=K
def tw8814706418047847559:=K
def tw12903031371164695673:=K
def tw8764756989839377750:=K
def tw10705556883419792428:=K
def tw12313326414323059206:=K
def tw14212948123513267825:=K
def tw6032071774499487504:=K
def tw9249726514045335226:=K
def tw6606382815169760683:=K
def tw4874193352279449242:=K
def tw8551687243818686460:=K
def tw2655605138276638240:=K
def tw10218009469733084293:=K
def tw7937544773178701643:=K
def tw8119289555783929871:=K
def tw6209425499977929305:=K
def tw16264325998160106873:=K
def tw2059568511605425745:=K
def tw17200000340543918689:=K
def tw2742523315242678599:=K
def tw2451385766621421191:=K
def tw1567746398684867959:=K
def tw11009734402839553513:=K
def tw4935500854191214137:=K
def tw4015299956041074048:=K
def tw9085306093883815811:=K
def tw18012606700939876802:=K
def tw14397505893210506099:=K
def tw12990417148528802916:=K
def tw1297653315522554770:=K
def tw3590398660366211660:=K
def tw5401993574986880787:=K
def tw6986439932264949144:=K
def tw16719716123853029335:=K
def tw11954022260773930332:=K
def tw15174014168021272205:=K
def tw12533036424289144347:=K
def tw16687553365021498854:=K
def tw14292725253004649755:=K
def tw4712136711067776744:=K
def tw3579819642232367888:=K
def tw17841673672566997903:=K
def tw6299035950616738465:=K
def tw9793707545686117883:=K
def tw5072259708821741674:=K
def tw12572869868703809168:=K
def tw10143819965828951270:=K
def tw17754507967629474397:=K
def tw17560871570541268272:=K
def tw16094754831717216001:=K
def tw13955329562468244109:=K
def tw5089318352616958797:=K
def tw2117452276469457868:=K
def tw18392238798346174635:=K
def tw10655145308970104721:=K
def tw6542404193407721225:=K
def tw843902406350591644:=K
def tw7062524102597489195:=K
def tw10160738223095653105:=K
def tw10700173627074241605:=K
def tw2573510145343992141:=K
def tw16452866664904140920:=K
def tw15604013537522974607:=K
def tw8112796797303320828:=K
def tw5657466481296270153:=K
def tw1750433665735882620:=K
def tw15634880054432756027:=K
def tw8441209633605477254:=K
def tw1391816895761501521:=K
def tw6422233735686663158:=K
def tw796412052769585011:=K
def tw3781613645237654803:=K
def tw5677134543526674774:=K
def tw4675793046975231540:=K
def tw9658591007384770231:=K
def tw955939861398988856:=K
def tw4733701409261530788:=K
def tw2186769988608388105:=K
def tw17664059495381612436:=K
def tw16191553373004255443:=K
def tw15443074266109170584:=K
def tw14785234850594404449:=K
def tw1433218870384209119:=K
def tw14032672124282913038:=K
def tw13365134370146053125:=K
def tw12638814524778166115:=K
def tw12261702582519259947:=K
def tw10591750251459635955:=K
def tw7495187759821824932:=K
def tw7728891455053333582:=K
def tw3180475390824455488:=K
def tw8099887151170208940:=K
def tw1440021056606044211:=K
def tw13825776884050049853:=K
def tw10086689527806707167:=K
def tw4935797721522869195:=K
def tw4894120826184259266:=K
def tw2806945956242656137:=K
def tw2588213032537736899:=K
def tw18385098131734035994:=K
def tw11770856334742313478:=K
def tw9960554169478756473:=K
def tw9907537574729088938:=K
def tw9607998792258246240:=K
def tw9587614042483994676:=K
def tw9438304820882614956:=K
def tw9393236362683249940:=K
def tw9337824879429051123:=K
def tw9222457159959947348:=K
def tw9213507417963062915:=K
def tw9188937851871152703:=K
def tw8845883439025983759:=K
def tw8793229367226504875:=K
def tw8680467026779801352:=K
def tw8677194057745992685:=K
def tw8662589605748724775:=K
def tw8650407802576657482:=K
def tw8583858599022037215:=K
def tw8445413178507247171:=K
def tw8392823945901305810:=K
def tw8376017263865552102:=K
def tw8369450833022836913:=K
def tw8351440592169702419:=K
def tw8315744700074606877:=K
def tw8242406696139864782:=K
def tw8200478980010591282:=K
def tw7986812935867050739:=K
def tw7830000999817487307:=K
def tw77901764439332294:=K
def tw7630631031703821358:=K
def tw7596878074773115713:=K
def tw7473896403914298574:=K
def tw7415192733016039047:=K
def tw7353592721248547983:=K
def tw7265190498802452555:=K
def tw710001788953990418:=K
def tw6972524444637007292:=K
def tw6968098131755539354:=K
def tw6851033157352302290:=K
def tw6818114621430838478:=K
def tw6773682202560560389:=K
def tw6681702516723801018:=K
def tw6473506679213151171:=K
def tw6240890274768104536:=K
def tw6164708587411581064:=K
def tw6026843034382368109:=K
end
end PySem.W.Fast
set_option hygiene false in
local macro_rules | `(tactic| trivial) => `(tactic| first | exact .inl rfl | exact .inr rfl | exact .inr (.inl rfl) | exact .inr (.inr rfl) | exact fun _ => rfl | exact fun _ _ => rfl | exact hr.mono (by omega) | exact nZ hr | exact nomark _ | exact List.not_mem_nil | (intro z; cases z; done) | (intro _ z; cases z; done) | exact fun _ _ _ _ _ _ => by repeat (first | exact b0 rfl | refine bS fun _ => ?_) | assumption | (simp_all; done))
mutual
example:=[]
abbrev q0A:=PySem.Value->PySem.Shared->Prop
abbrev q0B:=PySem.W.Frag
abbrev q0C:=PySem.Str->Option PySem.Value
def Α:=@List.mem_cons
def Β:=@PySem.wpAny_bind
def Γ:=@List.length_map
def Δ:=@List.not_mem_nil
def Ε:=@List.length_cons
def Ζ:=@Nat.le_refl
def Η:=@List.size_toArray
def Θ:=@PySem.Heap.get?_push_of_some
def Ι:=@PySem.wpAny_pure
def Κ:=@List.mem_append
def Λ:=@Nat.le_trans
def Μ:=@PySem.Heap.lt_size
def Ν:=@List.getElem?_eq_some_iff
def Ξ:=@List.length_append
def Ο:=@List.getElem?_cons_zero
def Ρ:=@List.mem_cons_of_mem
def Τ:=@Nat.ne_of_lt
def Υ:=@Option.some.injEq
def Φ:=@PySem.Heap.get?_push_size
def Χ:=@Nat.lt_of_lt_of_le
def Ψ:=@or_false
def Ω:=@Bool.false_ne_true
def ϐ:=@List.cons_append
def ϑ:=@List.map_cons
def ϒ:=@List.mem_of_getElem?
def ϓ:=@Option.some.inj
def ϔ:=@List.length_nil
def ϕ:=@List.getElem?_eq_getElem
def ϖ:=@List.getElem?_map
def ϗ:=@List.nodup_cons
def Ϙ:=@Bool.false_eq_true
def ϙ:=@List.nodup_append
def Ϛ:=@List.mem_map
def ϛ:=@Option.map_eq_some_iff
def Ϝ:=@List.append_nil
def ϝ:=@List.mem_append_right
def Α0:=@Nat.lt_irrefl
def Α1:=@Nat.zero_le
def Α2:=@List.take_length
def Α3:=@List.nil_append
def Α4:=@List.map_append
def Α5:=@Option.toList_some
def Α6:=@List.mem_filter
def Α7:=@PySem.Calls.callWith_builtin
def Α8:=@List.length_take
def Α9:=@PySem.wpAny_holding
def Β0:=@List.forall_mem_cons
def Β1:=@Option.join_some
def Β2:=@beq_eq_false_iff_ne
def Β3:=@List.take_add_one
def Β4:=@if_false
def Β5:=@PySem.wpAny_mono
def Β6:=@Bool.and_eq_true
def Β7:=@decide_eq_false
def Β8:=@PySem.wpAny_newObj_type
def Β9:=@PySem.F.called_set
def Γ0:=@List.pairwise_cons
def Γ1:=@if_true
def Γ2:=@PySem.sizeLine_eq
def Γ3:=@PySem.F.plainAttrs_dict
def Γ4:=@Array.length_toList
def Γ5:=@Nat.zero_add
def Γ6:=@PySem.wpAny_setState_of
def Γ7:=@List.mem_singleton
def Γ8:=@PySem.F.slot_dict_get
def Γ9:=@List.length_filter_le
def Δ0:=@Array.getElem?_toList
def Δ1:=@PySem.call_meetsIn
def Δ2:=@Array.getElem?_eq_getElem
def Δ3:=@List.find?_cons
def Δ4:=@PySem.Calls.spliced_cons
def Δ5:=@Option.isSome_iff_exists
def Δ6:=@PySem.mem_of_lookup
def Δ7:=@PySem.PassesOwn.never
def Δ8:=@PySem.lookup_relabel_local
def Δ9:=@PySem.Calls.evalArgs_plain
def Ε0:=@PySem.Around.under_plainId
def Ε1:=@PySem.wpAny_truthy_bool
def Ε2:=@Option.getD_some
def Ε3:=@Nat.lt_of_le_of_lt
def Ε4:=@List.mem_cons_self
def Ε5:=@Nat.le_succ
def Ε6:=@decide_eq_true_eq
def Ε7:=@List.getD_eq_getElem?_getD
def Ε8:=@PySem.wpAny_passesOwn
def Ε9:=@PySem.codeAny_builtin
def Ζ0:=@Bool.false_and
def Ζ1:=@List.all_eq_true
def Ζ2:=@List.pairwise_iff_getElem
def Ζ3:=@List.getElem?_eq_none_iff
def Ζ4:=@List.getElem?_append_left
def Ζ5:=@PyProof.Rows.F.plain_set_update_loop
def Ζ6:=@List.take_succ_cons
end
namespace Lake
open PySem PySem.Spec PyProof.Rows
mutual
example:=[]
variable{C a b:Addr}{A:Around}{g':Array GenState}{op:CmpOp}{c e tg:Expr}{fd:FuncData}{base h:Heap}{UJ:List (Addr×Obj)}{kw:List (Str×Value)}{ch fp:List Addr}{outer:List Env}{es:List Expr}{body:List Stmt}{ps:List Str}{us:List Value}{M:Model}{i k n t':Nat}{o:Obj}{pos:Pos}{P:Program}{scope:Scope}{pl:Sem Bool}{s s':Shared}{x:Str}{Q:Unit->Shared->Prop}{u:Value}{f:Value->Value->Sem Value}{w:World}{E:q0A}{K:q0B}{mg:q0C}
set_option genInjectivity true in
inductive Key where
 | inl (i:Int)|inr (x:Str)|no
 deriving DecidableEq
set_option backward.eqns.nonrecursive false in
def yY:Key->Value->Bool
 | .inl k,v=>Value.isInt k v
 | .inr x,v=>Value.isStrOf x v
 | .no,.none=>true
 | .no,_=>false
def Ue(w:World):Key->Int
 | .inl k=>hashInt k
 | .inr x=>hashStr w x
 | .no=>reduceHash 0xFCA86420
theorem eW:∀{k:Key} {v:Value},yY k v=true->(∃i t,k=Key.inl i/\v=Value.int i t)\/(∃x t,k=Key.inr x/\v=Value.str x t)\/(k=Key.no/\v=Value.none)
 | .inl i,v,h=>by
  obtain⟨t,e⟩:=Value.isInt_shape (k:=i) (v:=v) h;exact .inl ⟨i,t,rfl,e⟩
 | .inr x,v,h=>by
  obtain⟨t,e⟩:=Value.isStrOf_shape (x:=x) (v:=v) h;exact .inr (.inl ⟨x,t,rfl,e⟩)
 | .no,v,h=>by
  cases v<;>first|exact .inr (.inr ⟨rfl,rfl⟩)|cases h
def FQ(i:Int)(t:Tok):yY (.inl i) (.int i t)=true:=by simp[yY,Value.isInt]
def FR(x:Str)(t:Tok):yY (.inr x) (.str x t)=true:=by simp[yY,Value.isStrOf]
theorem Ph(a b:Int):decide (Key.inl a=Key.inl b)=(a==b):=by
 by_cases e:a=b
 ·subst e;simp
 ·have h:¬ Key.inl a=Key.inl b:=λq=>e (Key.inl.inj q);rw[Β7 h];exact(Β2.mpr e).symm
theorem Pj(a b:Str):decide (Key.inr a=Key.inr b)=decide (a=b):=by
 by_cases e:a=b
 ·subst e;simp
 ·have h:¬ Key.inr a=Key.inr b:=λq=>e (Key.inr.inj q);rw[Β7 h,Β7 e]
def bI(prog:Program)(w:World):PySem.KeyKind prog w Key where
 is:=yY
 hash:=Ue w
 inj:=λv a b ha hb=>by
  rcases eW ha with⟨i,t,rfl,rfl⟩|⟨x,t,rfl,rfl⟩|⟨rfl,rfl⟩<;>rcases eW hb with⟨j,u,rfl,e⟩|⟨y,u,rfl,e⟩|⟨rfl,e⟩ <;>
   first|rfl|(cases e<;>rfl)
 byValue:=λk v h=>by
  rcases eW h with⟨i,t,rfl,rfl⟩|⟨x,t,rfl,rfl⟩|⟨rfl,rfl⟩<;>rfl
 pyHash:=λhv h=>by
  rcases eW hv with⟨i,t,rfl,rfl⟩|⟨x,t,rfl,rfl⟩|⟨rfl,rfl⟩
  ·exact wpAny_pyHash_int h
  ·exact wpAny_pyHash_str h
  ·exact PySem.W.pyHash_slot (T:="NoneType") rfl F.slot_NoneType_hash F.entry_NoneType_hash (F.args_NoneType_hash_1 _) (beq_builtin_none _) (.inl rfl) (Β (Ι (Β (wpAny_mkInt (Ι ⟨_,_,rfl,h⟩)))))
 eqBool:=λhu hv h=>by
  rcases eW hu with⟨i,t,rfl,rfl⟩|⟨x,t,rfl,rfl⟩|⟨rfl,rfl⟩<;>rcases eW hv with⟨j,u,rfl,rfl⟩|⟨y,u,rfl,rfl⟩|⟨rfl,rfl⟩
  ·rw[Ph] at h;exact wpAny_eqBool_int h
  ·exact SeqAt.EqAt.int_str i t y u _ _ _ _ h
  ·exact SeqAt.EqAt.int_none i t _ _ _ _ h
  ·exact SeqAt.EqAt.str_int x t j u _ _ _ _ h
  ·rw[Pj] at h;exact wpAny_eqBool_str h
  ·exact SeqAt.EqAt.str_none x t _ _ _ _ h
  ·exact SeqAt.EqAt.none_int j u _ _ _ _ h
  ·exact SeqAt.EqAt.none_str y u _ _ _ _ h
  ·exact SeqAt.EqAt.same .none _ _ _ _ h
 «strs»:=λk x t v h=>by
  rcases eW h with⟨i,u,rfl,e⟩|⟨y,u,rfl,e⟩|⟨rfl,e⟩
  ·exact nomatch e
  ·injection e with e1 _
   subst e1;cases v<;>rfl
  ·exact nomatch e
def BB(prog:Program)(w:World)(i:Int)(t:Tok):(bI prog w).is (.inl i) (.int i t)=true:=FQ i t
def BC(prog:Program)(w:World)(x:Str)(t:Tok):(bI prog w).is (.inr x) (.str x t)=true:=FR x t
set_option genInjectivity true in
inductive V where
 | UL|bl (b:Bool)|int (i:Int)|str (x:Str)|byt (b:Array UInt8)|flt (b:UInt64)|ref (a:Addr)|ty (n:String)
 deriving DecidableEq
variable{vs xs:List V}{v:V}
def bQ:V->Value->Prop
 | .UL,u=>u=Value.none
 | .bl b,u=>u=Value.bool b
 | .int i,u=>∃t,u=Value.int i t
 | .str x,u=>∃t,u=Value.str x t
 | .byt b,u=>∃t,u=Value.bytes b t
 | .flt b,u=>∃t,u=Value.float b t
 | .ref a,u=>u=Value.ref a
 | .ty n,u=>u=Value.type n
abbrev UO:List V->List Value->Prop:=Paired bQ
def UO.length(r:UO xs us):xs.length=us.length:=Paired.length r
theorem UO.get:∀{xs:List V} {us:List Value} {i:Nat} {x:V},UO xs us->xs[i]?=some x->∃u,us[i]?=some u/\bQ x u
 | _,_,_,_,.nil,e=>by simp at e
 | _,_,0,_,.cons r _,e=>by simp at e;subst e;exact⟨_,rfl,r⟩
 | _,_,i+1,x,.cons _ t,e=>by
  obtain⟨u,h1,h2⟩:=UO.get (i:=i) (x:=x) t (by simpa using e);exact⟨u,by simpa using h1,h2⟩
theorem UO.set{x:V}{u:Value}(r:bQ x u):∀{xs:List V} {us:List Value} (i:Nat),UO xs us->UO (xs.set i x) (us.set i u)
 | _,_,_,.nil=>.nil
 | _,_,0,.cons _ t=>.cons r t
 | _,_,i+1,.cons q t=>.cons q (UO.set r i t)
def UO.append{ys:List V}{ws:List Value}(h:UO xs us)(s:UO ys ws):UO (xs++ys) (us++ws):=by
 induction h with
 | nil=>exact s
 | cons r _ ih=>exact .cons r ih
theorem UO.take:∀{xs:List V} {us:List Value} (n:Nat),UO xs us->UO (xs.take n) (us.take n)
 | _,_,0,_=>.nil
 | _,_,_+1,.nil=>.nil
 | _,_,n+1,.cons r t=>.cons r (UO.take n t)
theorem UO.drop:∀{xs:List V} {us:List Value} (n:Nat),UO xs us->UO (xs.drop n) (us.drop n)
 | _,_,0,r=>r
 | _,_,_+1,.nil=>.nil
 | _,_,n+1,.cons _ t=>UO.drop n t
theorem UO.none_of:∀{xs:List V} {us:List Value} {i:Nat},UO xs us->xs[i]?=none->us[i]?=none:=λ{xs us i} r e=>by
 have h1:=r.length;have h2:xs.length<=i:=Ζ3.mp e;exact Ζ3.mpr (by omega)
def kP:Option V->Option Value->Prop
 | some v,some u=>bQ v u
 | none,none=>True
 | _,_=>False
def KV{κ:Type}:List (κ×V)->List (κ×Value)->Prop:=Paired fun(p:κ×V) (q:κ×Value)=>p.1=q.1/\bQ p.2 q.2
def kV:Key->V
 | .inl i=>.int i
 | .inr x=>.str x
 | .no=>.UL
set_option genInjectivity true in
inductive HO where
 /-- a list -/
 | lst (xs:List V)
 /-- a tuple (never changes) -/
 | tup (xs:List V)
 /-- a dict whose keys are ints and texts;one whose keys are tuples of ints and texts (the empty one is both) -/
 | dK (kvs:List (Key×V))|dT (kvs:List (List Key×V))
 /-- a set of ints: UN members,UN size -/
 | set (S:Int->Bool) (n:Nat)
 /-- an instance of the class at C,UN dict at dx,UN attributes -/
 | ins (C dx:Addr) (fs:List (Str×V))
 /-- the dict of the instance at x -/
 | own (x:Addr)
 /-- the dict of an exception -/
 | xd (fs:List (Str×V))
 /-- a bound method,f of x -/
 | met (f x:Addr)
 /-- a range object lo,lo+1,.. below hi -/
 | rng (lo hi:Int)
 /-- a thing that is known to the object (the script;a dict while a loop walks it): read,never written while it is so -/
 | Vi (o:Obj) (u:HO)
 /-- a code object's table -/
 | YD (ps:Array Value)
 /-- any other thing,by what is true of UN one object (a def of abY own: SetO a S n:=HO.ext λh=>..) -/
 | ext (φ:Heap->Prop)
abbrev Hp:=Addr->Option HO
variable{H:Hp}
def UK(H:Hp)(a:Addr)(o:HO):Hp:=λb=>if b=a then some o else H b
def aA{o:HO}:UK H a o a=some o:=by unfold UK;rw[if_pos rfl]
def aC{o:HO}(h:b≠a):UK H a o b=H b:=by unfold UK;rw[if_neg h]
def c0{o u:HO}(h:H a=some o)(h':H b=some u)(d:o≠u):a≠b:=by
 intro e;subst e;rw[h] at h';exact d (ϓ h')
def aF{o:HO}(h:H a=some o)(h':H b=none):a≠b:=by
 intro e;subst e;rw[h] at h';cases h'
end
section
variable(P:Program)(w:World)
noncomputable def eE(H:Hp)(h:Heap)(a:Addr):HO->Prop
  | .lst xs=>xs.length<=sizeLine/\∃(UN:List Value) (n:Nat),UO xs UN/\h.get? a=some {cls:=.type "list",data:=.seq UN.toArray n}
  | .tup xs=>xs.length<=sizeLine/\∃UN:List Value,UO xs UN/\IsTup h a UN.toArray
  | .dK kvs=>kvs.length<=sizeLine/\(a==sysModules)=false/\∃vs,KV kvs vs/\h.DictOf (bI P w) a vs
  | .dT kvs=>kvs.length<=sizeLine/\(a==sysModules)=false/\∃xs:List (List Key×Addr×Value),
      Paired (fun(p:List Key×V) (q:List Key×Addr×Value)=>p.1=q.1/\H q.2.1=some (.tup (p.1.map kV))/\bQ p.2 q.2.2) kvs xs /\
      ∃o es ep,h.get? a=some o/\o.ExactDict/\o.data=.dict es ep/\es.toList=xs.map (entryOfKey (tupleKind (bI P w)))/\(xs.map (·.1)).Nodup
  | .set S n=>h.SetOf (intKind P w) a S n
  | .ins C dx fs=>H dx=some (.own a)/\fs.length<=1000/\dx≠a/\h.get? a=some (PySem.W.instObj C dx) /\
      ∃mA,h.Ns1 dx mA/\(∀f,kP (fs.lookup f) (mA f))/\PySem.Within mA (fs.map (·.1))
  | .own _=>∃o,h.get? a=some o
  | .xd fs=>∃mA,h.Ns1 a mA/\∀f,kP (fs.lookup f) (mA f)
  | .rng lo hi=>∃t u v,h.get? a=some {cls:=.type "range",data:=.fields #[.int lo t,.int hi u,.int 1 v]}
  | .Vi o u=>h.get? a=some o/\eE H h a u
  | .YD ps=>h.get? a=some {cls:=.none,data:=.fields ps}
  | .met f x=>h.get? a=some (PySem.W.methodObj (.ref f) (.ref x))
  | .ext φ=>φ h/\(∃o,h.get? a=some o)/\∀h1 h2:Heap,φ h1->(∀o,h1.get? a=some o->h2.get? a=some o)->φ h2
def HOk(H:Hp)(h:Heap):Prop:=∀a o,H a=some o->eE P w H h a o
end
section
mutual
example:=[.inl rfl,.own a,PySem.W.methodObj (.ref f) (.ref y)]
variable{H':Hp}{h':Heap}{o:HO}
def eE.lt(x:eE P w H h a o):a < h.objs.size:=by
 cases o with
 | lst xs=>obtain⟨_,_,_,_,e⟩:=x;exact Μ e
 | tup xs=>obtain⟨_,_,_,p⟩:=x;exact p.lt
 | dK kvs=>obtain⟨_,_,_,_,o,_,_,e,_⟩:=x;exact Μ e
 | dT kvs=>obtain⟨_,_,_,_,o,_,_,e,_⟩:=x;exact Μ e
 | set S n=>obtain⟨o,_,_,_,e,_⟩:=x;exact Μ e
 | ins C dx fs=>obtain⟨_,_,_,e,_⟩:=x;exact Μ e
 | own y=>obtain⟨_,e⟩:=x;exact Μ e
 | xd fs=>obtain⟨_,⟨_,_,_,e,_⟩,_⟩:=x;exact Μ e
 | rng lo hi=>obtain⟨_,_,_,e⟩:=x;exact Μ e
 | Vi ob u=>obtain⟨e,_⟩:=x;exact Μ e
 | YD ps=>exact Μ (show h.get? a=some _ from x)
 | met f y=>exact Μ (show h.get? a=some _ from x)
 | ext φ=>obtain⟨_,⟨_,e⟩,_⟩:=x;exact Μ e
theorem Paired.Pr{α β:Type}{F G:α->β->Prop}:∀{l₁:List α} {l₂:List β},Paired F l₁ l₂->(∀a b,F a b->G a b)->Paired G l₁ l₂
 | _,_,.nil,_=>.nil
 | _,_,.cons r t,f=>.cons (f _ _ r) (Paired.Pr t f)
def eE.tF(x:eE P w H h a o)(k:∀b u,(b=a\/H b=some 1e0)->h.get? b=some u->h'.get? b=some u)(ho:∀b,H b=some 1e0->H' b=some 1e0)(ht:∀b xs,H b=some (.tup xs)->H' b=some (.tup xs)):eE P w H' h' a o:=by
 induction o with
 | lst xs=>obtain⟨z,UN,n,r,e⟩:=x;exact⟨z,UN,n,r,k _ _ 0e0 e⟩
 | tup xs=>obtain⟨z,UN,r,ob,e,c⟩:=x;exact⟨z,UN,r,ob,k _ _ 0e0 e,c⟩
 | dK kvs=>obtain⟨z,y,vs,r,ob,es,ep,e,c⟩:=x;exact⟨z,y,vs,r,ob,es,ep,k _ _ 0e0 e,c⟩
 | dT kvs =>
  obtain⟨z,y,xs,r,ob,es,ep,e,c⟩:=x;exact⟨z,y,xs,Paired.Pr r λp q z=>⟨z.1,ht _ _ z.2.1,z.2.2⟩,ob,es,ep,k _ _ 0e0 e,c⟩
 | set S n=>obtain⟨ob,es,ep,t,e,c⟩:=x;exact⟨ob,es,ep,t,k _ _ 0e0 e,c⟩
 | ins C dx fs =>
  obtain⟨d,z,ne,e,mA,⟨od,es,ep,e2,c⟩,r⟩:=x;exact⟨ho _ d,z,ne,k _ _ 0e0 e,mA,⟨od,es,ep,k _ _ (.inr d) e2,c⟩,r⟩
 | own y=>obtain⟨ob,e⟩:=x;exact⟨ob,k _ _ 0e0 e⟩
 | xd fs=>obtain⟨mA,⟨od,es,ep,e,c⟩,r⟩:=x;exact⟨mA,⟨od,es,ep,k _ _ 0e0 e,c⟩,r⟩
 | rng lo hi=>obtain⟨t,u,v,e⟩:=x;exact⟨t,u,v,k _ _ 0e0 e⟩
 | Vi ob u ih=>obtain⟨e,q⟩:=x;exact⟨k _ _ 0e0 e,ih q⟩
 | YD ps =>
  have e:h.get? a=some {cls:=.none,data:=.fields ps}:=x;show h'.get? a=some {cls:=.none,data:=.fields ps};exact k a _ 0e0 e
 | met f y =>
  have e:h.get? a=some 2e0:=x;show h'.get? a=some 2e0;exact k a _ 0e0 e
 | ext φ=>obtain⟨p,⟨o,e⟩,st⟩:=x;exact⟨st _ _ p λo q=>k _ _ 0e0 q,⟨o,k _ _ 0e0 e⟩,st⟩
def HOk.lt(x:HOk P w H h)(e:H a=some o):a < h.objs.size:=(x a o e).lt
def HOk.fresh(x:HOk P w H h)(e:h.objs.size<=a):H a=none:=by
 cases q:H a with
 | none=>rfl
 | some u=>exact absurd (Χ (x.lt q) e) (Α0 _)
def HOk.kept(x:HOk P w H h)(k:∀b u,h.get? b=some u->h'.get? b=some u):HOk P w H h':=λa o e =>
 (x a o e).tF (λb u _ q=>k b u q) (λ_ q=>q) λ_ _ q=>q
def HOk.laid(x:HOk P w H h)(k:∀b u,h.get? b=some u->h'.get? b=some u)(hp:h.objs.size<=a)(new:eE P w (UK H a o) h' a o):HOk P w (UK H a o) h':=λb u e=>by
 have hn:=x.fresh hp;by_cases hb:b=a
 ·subst hb;rw[aA] at e;cases e;exact new
 ·rw[aC hb] at e;exact(x b u e).tF (λc v _ q=>k c v q) (λc q=>by rw[aC (aF q hn)];exact q) λc xs q=>by rw[aC (aF q hn)];exact q
end
end
def Rd(H:Hp)(a:Addr)(u:HO):Prop:=H a=some u\/∃o,H a=some (.Vi o u)
def Rd.ok{u:HO}(r:Rd H a u)(x:HOk P w H h):eE P w H h a u:=by
 rcases r with r|⟨o,r⟩
 ·exact x a u r
 ·obtain⟨_,q⟩:=x a _ r;exact q
noncomputable def Mut:Option HO->Prop
 | some (.lst _)=>True
 | some (.dK _)=>True
 | some (.dT _)=>True
 | some (.set _ _)=>True
 | some (.ins _ _ _)=>True
 | some (.ext _)=>True
 | _=>False
section
variable{h':Heap}{x e:Addr}{o':HO}
def HOk.write(ok:HOk P w H h)(mu:Mut (H x))(he:e=x\/H e=some (.own x))(k:∀b u,b≠e->h.get? b=some u->h'.get? b=some u)(Zv:∃u,h'.get? e=some u)(new:eE P w (UK H x o') h' x o'):HOk P w (UK H x o') h':=λb u q=>by
 have aaK:∀c y,H c=some (.own y)->c≠x:=λc y r z=>by subst z;rw[r] at mu;exact mu
 have abK:∀c xs,H c=some (.tup xs)->c≠x:=λc xs r z=>by subst z;rw[r] at mu;exact mu
 by_cases hb:b=x
 ·subst hb;rw[aA] at q;cases q;exact new
 ·rw[aC hb] at q;by_cases YT:b=e
  ·have q':H b=some (.own x):=by
    rcases he with z|z
    ·exact absurd (YT.trans z) hb
    ·rw[YT];exact z
   rw[q] at q';cases q';obtain⟨v,hv⟩:=Zv;exact⟨v,by rw[YT];exact hv⟩
  ·refine(ok b u q).tF (λc v hc r=>k c v ?_ r) (λc r=>by rw[aC (aaK c b r)];exact r) λc xs r=>by rw[aC (abK c xs r)];exact r
   rcases hc with rfl|hc
   ·exact YT
   ·rintro rfl;rcases he with z|z
    ·exact aaK c b hc z
    ·rw[hc] at z;cases z;exact hb rfl
end
structure Un(fs ex:List Addr)(H H':Hp)(h h':Heap):Prop where
 keep:∀b o,h.get? b=some o->H b=none->b∉fs->b∉ex->h'.get? b=some o
 slot:∀b o,h.get? b=some o->H b=none->b∈fs->b∉ex->∃sl,h'.get? b=some {o with slots:=sl}
 free:∀b o,h.get? b=some o->H b=none->b∉ex->H' b=none
 there:∀b o,h.get? b=some o->b∉ex->∃o',h'.get? b=some o'
 yG:∀b xs,H b=some (.tup xs)->H' b=some (.tup xs)
 uT:∀b o u,H b=some (.Vi o u)->H' b=some (.Vi o u)
 yF:∀b ps,H b=some (.YD ps)->∃more,H' b=some (.YD (ps++more))
section
mutual
example:=[(hm b _ q λz=>z),aF q hn]
variable{fs Yk ex ex':List Addr}{H1 H2:Hp}{h1 h2 h':Heap}{x e:Addr}{o:HO}
def Un.any(u:Un fs ex H H1 h h1){ob:Obj}(q:h.get? b=some ob)(n:H b=none)(hx:b∉ex):∃sl,h1.get? b=some {ob with slots:=sl}:=by
 by_cases hb:b∈fs
 ·exact u.slot b ob q n hb hx
 ·exact⟨ob.slots,u.keep b ob q n hb hx⟩
def Un.kept(k:∀b u,h.get? b=some u->h'.get? b=some u):Un fs ex H H h h' :=
 ⟨λb ob q _ _ _=>k b ob q,λb ob q _ _ _=>⟨ob.slots,k b ob q⟩,λ_ _ _ n _=>n,λb ob q _=>⟨ob,k b ob q⟩,λ_ _ q=>q,λ_ _ _ q=>q,λ_ ps q=>⟨#[],by rw[q];simp⟩⟩
def Un.refl:Un fs ex H H h h:=Un.kept λ_ _ q=>q
def Un.laid(k:∀b u,h.get? b=some u->h'.get? b=some u)(hp:h.objs.size<=a)(hn:H a=none):Un fs ex H (UK H a o) h h' where
 keep:=λb u q _ _ _=>k b u q
 slot:=λb u q _ _ _=>⟨u.slots,k b u q⟩
 free:=λb u q n _=>by rw[aC (Τ (Χ (Μ q) hp))];exact n
 there:=λb u q _=>⟨u,k b u q⟩
 yG:=λb xs q=>by rw[aC 1e0];exact q
 uT:=λb u xs q=>by rw[aC 1e0];exact q
 yF:=λb ps q=>⟨#[],by rw[aC 1e0,q];simp⟩
def Un.write(mu:Mut (H x))(he:e=x\/H e=some (.own x))(k:∀b u,b≠e->h.get? b=some u->h'.get? b=some u)(Zv:∃u,h'.get? e=some u):Un fs ex H (UK H x o) h h':=by
 have hx:∀b,H b=none->b≠x:=λb n z=>by subst z;rw[n] at mu;exact mu
 have hb:∀b,H b=none->b≠e:=λb n z=>by
  subst z;rcases he with r|r
  ·exact hx b n r
  ·rw[n] at r;cases r
 have hm:∀b u,H b=some u->¬ Mut (some u)->b≠x:=λb u q nm z=>by subst z;rw[q] at mu;exact nm mu
 refine⟨λb u q n _ _=>k b u (hb b n) q,λb u q n _ _=>⟨u.slots,k b u (hb b n) q⟩,λb u q n _=>by rw[aC (hx b n)];exact n,λb u q _=>?_,
  λb xs q=>by rw[aC 0e0];exact q,λb u xs q=>by rw[aC 0e0];exact q,λb ps q=>⟨#[],by rw[aC 0e0,q];simp⟩⟩
 by_cases YT:b=e
 ·subst YT;exact Zv
 ·exact⟨u,k b u YT q⟩
end
end
mutual
example:=[Addr×Obj,trk h H]
def trk(h:Heap)(H:Hp):List Addr:=(List.range h.objs.size).filter λa=>(H a).isSome
def Ah(h:Heap)(H:Hp):Heap:=PySem.W.hideAll h 1e0
def FK(h:Heap)(H:Hp):(Ah h H).objs.size=h.objs.size:=PySem.W.hideAll_size _ _
def Iw(e:h.get? b=some o)(n:H b=none):(Ah h H).get? b=some o :=
 PySem.W.hideAll_get _ e λhm=>by
  have q:(H b).isSome=true:=(Α6.mp hm).2;rw[n] at q;simp at q
def LU(e:(Ah h H).get? b=some o):h.get? b=some o/\H b=none:=by
 have e':h.get? b=some o:=PySem.W.of_hideAll 1e0 e;refine⟨e',?_⟩;cases q:H b with
 | none=>rfl
 | some x =>
  have hm:b∈trk h H:=Α6.mpr ⟨List.mem_range.mpr (Μ e'),by simp[q]⟩;have z:(Ah h H).get? b=none:=PySem.W.hideAll_none 1e0 hm;rw[z] at e;cases e
def Kx(g h:Heap)(L:Addr):List 0e0:=(List.range h.objs.size).filterMap λa=>if a=L\/(g.get? a).isSome=true then none else (h.get? a).map λo=>(a,o)
def rest(g h:Heap)(L d:Addr):List 0e0:=(Kx g h L).filter λp=>decide (p.1≠d)
structure Mod(K:q0B)(mg:q0C)(base:Heap):Prop where
 kin:K.In base
 glob:base.Ns mainGlobals mg
 blt:∃mb,base.Ns builtinsNs mb/\∀x:Str,x≠"__name__"->mb x=bootBuiltins x
 nolimit:base.NoLimit
structure Cx where
 prog:Program
 w:World
 K:q0B
 mg:Str->Option Value
 base:Heap
 A:Around
 N:List Str
 s₀:Shared
 H₀:Hp
 env:Env
 outer:List Env
 stack:List Env
 ex:List Addr
 fn:Str->Bool
 calm:Bool
 pn:List 0e0
 xe:Value->Shared->Prop
variable{X:Cx}
def frs(l:List Env):List Addr:=l.filterMap (·.frame)
abbrev Cx.fs(X:Cx):List Addr:=frs X.outer
def Vis(sc:Scope)(x:Str):Prop:=sc.names.lookup x=some .local\/sc.names.lookup x=some .cell\/sc.names.lookup x=some .free
def Loc(sc:Scope)(x:Str):Prop:=sc.names.lookup x=some .local\/sc.names.lookup x=some .cell
def Look(env:Env)(h:Heap)(m:q0C)(x:Str)(u:Value):Prop :=
 (env.kindOf x=some .local/\m x=some u)\/((env.kindOf x=some .cell\/env.kindOf x=some .free)/\∃c,env.cells.lookup x=some c/\h.IsCell c (some u))
structure Cx.Ok(X:Cx):Prop where
 mod:Mod X.K X.mg X.base
 kind:X.env.scope.kind=.function
 glob:X.env.globals=mainGlobals
 blt:X.env.builtins=builtinsNs
 above:X.s₀.heap.objs.size<=X.env.locals
 inj:∀x y c,X.env.cells.lookup x=some c->X.env.cells.lookup y=some c->x=y
 has:∀x,(X.env.kindOf x=some .cell\/X.env.kindOf x=some .free)->∃c,X.env.cells.lookup x=some c
 cab:∀x c,X.fn x=true->X.env.cells.lookup x=some c->X.s₀.heap.objs.size<=c
 hd:X.calm=true->X.A.handled=none
 frames:X.A.frames=some X.stack
 stk:X.stack=X.outer\/(X.stack=X.env::X.outer/\X.env.frame=some X.env.locals)
 exf:∀b∈X.ex,b≠X.env.locals/\∀x c,X.env.cells.lookup x=some c->c≠b
 bs:∀b o,X.base.get? b=some o->X.s₀.heap.get? b=some o/\X.H₀ b=none
 bsz:X.base.objs.size<=X.s₀.heap.objs.size
 BI:∀b o,X.base.get? b=some o->b∉X.ex
 Fz:∀b∈X.ex,b∉X.fs
 pF:X.s₀.heap.FunFrames X.base X.outer
 frf:∀b∈X.fs,X.H₀ b=none
structure UM(X:Cx)(UJ:List 0e0)(Z:List (Option V))(H:Hp)(s:Shared):Prop where
 ok:X.Ok
 os:s.os=X.s₀.os
 bare:AllBare s.gens
 base:Un X.fs X.ex X.H₀ H X.s₀.heap s.heap
 loc:∃m,s.heap.Ns X.env.locals m/\∀(i:Nat) (x:Str) (v:V),X.N[i]?=some x->Z[i]?=some (some v)->Vis X.env.scope x->∃u,bQ v u/\Look X.env s.heap m x u
 cell:∀x c,X.env.cells.lookup x=some c->∃v,s.heap.IsCell c v
 free:H X.env.locals=none
 kE:∀x c,X.env.cells.lookup x=some c->H c=none
 pin:∀p∈X.pn++UJ,s.heap.get? p.1=some p.2/\H p.1=none/\p.1≠X.env.locals/\p.1∉X.fs/\∀v,p.2.data≠.cell v
 UQ:HOk X.prog X.w H s.heap
 len:Z.length=X.N.length
end
section
mutual
example:=[(by simp),Χ (Μ e) I.ok.above,Yz b o e hx,Τ (Χ (Μ e) (I.ok.cab x c hfn hc)),(b∈X.ex\/X.s₀.heap.objs.size<=b),I.base.keep b o e n hb hx,(λz=>hc (by simp[z])),I.base.free b o e n hx,I.kE x c e,storeName X.env x u,Z.set i (some v),I.ok.BI b o e,frs X.stack,(λ_ q=>q),Ne.symm hj,I.YM x c e,neL b o e]
variable{Z:List (Option V)}{H':Hp}{h':Heap}
def Cx.Ok.Ug(ok:X.Ok)(e:X.base.get? b=some o):b∉X.fs:=λhb=>by
 have:=(ok.pF.mem hb).1;rw[e] at this;cases this
def UM.bs(I:UM X UJ Z H s):∀b o,X.base.get? b=some o->s.heap.get? b=some o/\H b=none:=λb o e =>
 ⟨I.base.keep b o (I.ok.bs b o e).1 (I.ok.bs b o e).2 (I.ok.Ug e) 1e1,I.base.free b o (I.ok.bs b o e).1 (I.ok.bs b o e).2 1e1⟩
def UM.bk(I:UM X UJ Z H s):∀b o,X.base.get? b=some o->s.heap.get? b=some o:=λb o e=>(I.bs b o e).1
def UM.mod(I:UM X UJ Z H s):Mod X.K X.mg X.base:=I.ok.mod
def UM.kIn(I:UM X UJ Z H s):X.K.In s.heap:=I.ok.mod.kin.keeps I.bk
def UM.fr(I:UM X UJ Z H s):∃m,Fr X.base X.env.locals s.heap m :=
 let ⟨m,hn,_⟩:=I.loc
 ⟨m,hn,I.bk,Λ I.ok.bsz I.ok.above⟩
def UM.lt(I:UM X UJ Z H s):X.env.locals < s.heap.objs.size:=let ⟨_,hn,_⟩:=I.loc;hn.lt
def UM.sz(I:UM X UJ Z H s):X.s₀.heap.objs.size<=s.heap.objs.size:=Λ I.ok.above (Nat.le_of_lt I.lt)
def UM.RU(I:UM X UJ Z H s)(h:s.heap.objs.size<=a):a∉X.fs:=λhb=>by
 obtain⟨_,o,ho,_⟩:=I.ok.pF.mem hb;exact absurd (Χ (Μ ho) (Λ I.sz h)) (Α0 _)
def UM.YM(I:UM X UJ Z H s):∀x c,X.env.cells.lookup x=some c->c≠X.env.locals:=λx c e z=>by
 obtain⟨v,o,ho,hd⟩:=I.cell x c e;obtain⟨m,⟨o',es,ep,Xe,hd',_⟩,_⟩:=I.loc;rw[z,Xe] at ho;cases ho;rw[hd'] at hd;cases hd
def UM.pF(I:UM X UJ Z H s):s.heap.FunFrames X.base X.outer:=by
 have all:∀(l:List Env),(∀b∈frs l,b∈X.fs)->X.s₀.heap.FunFrames X.base l->s.heap.FunFrames X.base l:=by
  intro l
  induction l with
  | nil=>intro _ _;trivial
  | cons env r ih =>
   intro hs hl;obtain⟨hk,⟨L,o,hf,hn,ho,hd⟩,hr⟩:=hl;have hL:L∈X.fs:=hs L (by unfold frs;rw[List.filterMap_cons,hf];exact Ε4);obtain⟨sl,e⟩:=I.base.slot L o ho (I.ok.frf L hL) hL λz=>I.ok.Fz L z hL;exact⟨hk,⟨L,_,hf,hn,e,hd⟩,ih (λb hb=>hs b (by unfold frs;rw[List.filterMap_cons,hf];exact Ρ _ hb)) hr⟩
 exact all X.outer (λ_ hb=>hb) I.ok.pF
theorem UM.stack(I:UM X UJ Z H s):s.heap.FunFrames X.base X.stack:=by
 rcases I.ok.stk with e|⟨e,hf⟩
 ·rw[e];exact I.pF
 ·rw[e];obtain⟨m,hn,_⟩:=I.loc;refine .cons (by rw[I.ok.kind];decide) hf hn ?_ I.pF;exact Heap.get?_none_of_le (Λ I.ok.bsz I.ok.above)
def UM.rX(I:UM X UJ Z H s):∀b∈frs X.stack,b∈X.env.locals::X.fs:=λb hb=>by
 rcases I.ok.stk with e|⟨e,hf⟩
 ·rw[e] at hb;exact Ρ _ hb
 ·rw[e] at hb;unfold frs at hb;rw[List.filterMap_cons,hf] at hb;exact hb
def UM.AV(I:UM X UJ Z H s):∀b∈frs X.stack,H b=none:=λb hb=>by
 rcases Α.mp (I.rX b hb) with e|hb
 ·rw[e];exact I.free
 ·obtain⟨_,o,ho,_⟩:=I.ok.pF.mem hb;exact I.base.free b o ho (I.ok.frf b hb) λz=>I.ok.Fz b z hb
def UM.step{d':Drawn}(I:UM X UJ Z H s)(XN:∀b∈ch,4e0/\b≠X.env.locals/\(∀x c,X.env.cells.lookup x=some c->c≠b)/\∀p∈X.pn++UJ,p.1≠b)(keep:∀b o,b≠X.env.locals->b∉X.fs->b∉ch->s.heap.get? b=some o->H b=none->h'.get? b=some o)(slot:∀b o,b≠X.env.locals->b∈X.fs->b∉ch->s.heap.get? b=some o->H b=none->∃sl,h'.get? b=some {o with slots:=sl})(free:∀b o,b∉ch->s.heap.get? b=some o->H b=none->H' b=none)(there:∀b o,b∉ch->s.heap.get? b=some o->∃o',h'.get? b=some o')(yG:∀b xs,H b=some (.tup xs)->H' b=some (.tup xs))(uT:∀b o u,H b=some (.Vi o u)->H' b=some (.Vi o u))(yF:∀b ps,H b=some (.YD ps)->∃more,H' b=some (.YD (ps++more)))(ns:∀m,s.heap.Ns X.env.locals m->h'.Ns X.env.locals m)(UQ:HOk X.prog X.w H' h')(hg:AllBare g') : UM X UJ Z H' {s with heap:=h',gens:=g',drawn:=d',toks:=t'}:=by
 have neL:∀b o,X.s₀.heap.get? b=some o->b≠X.env.locals:=λb o e=>Τ 1e0;have Yz:∀b o,X.s₀.heap.get? b=some o->b∉X.ex->b∉ch:=λb o e hx hb=>by
  rcases(XN b hb).1 with z|z
  ·exact hx z
  ·exact absurd (Χ (Μ e) z) (Α0 _)
 have cellK:∀x c,X.env.cells.lookup x=some c->∀v,s.heap.IsCell c v->h'.IsCell c v:=λx c e v ⟨o,ho,hd⟩=>by
  have nch:c∉ch:=λz=>(XN c z).2.2.1 x c e rfl;by_cases hc:c∈X.fs
  ·obtain⟨sl,q⟩:=slot c o 5e1 hc nch ho 8e0;exact⟨_,q,hd⟩
  ·exact⟨o,keep c o 5e1 hc nch ho 8e0,hd⟩
 refine⟨I.ok,I.os,hg,⟨λb o e n hb hx=>?_,λb o e n hb hx=>?_,λb o e n hx=>?_,λb o e hx=>?_,λb xs e=>yG b xs (I.base.yG b xs e),λb o xs e=>uT b o xs (I.base.uT b o xs e),λb ps e=>?_⟩,?_,λx c e=>?_,?_,λx c e=>?_,λp hp=>?_,UQ,I.len⟩
 ·exact keep b o 6e1 hb 2e0 5e0 7e0
 ·obtain⟨sl,e1⟩:=I.base.slot b o e n hb hx;obtain⟨Va,e2⟩:=slot b _ 6e1 hb 2e0 e1 7e0;exact⟨Va,e2⟩
 ·obtain⟨o',e1⟩:=I.base.there b o e hx;exact free b o' 2e0 e1 7e0
 ·obtain⟨o',e1⟩:=I.base.there b o e hx;exact there b o' 2e0 e1
 ·obtain⟨m1,e1⟩:=I.base.yF b ps e;obtain⟨m2,e2⟩:=yF b _ e1;exact⟨m1++m2,by rw[e2,Array.append_assoc]⟩
 ·obtain⟨m,hn,hl⟩:=I.loc;refine⟨m,ns m hn,λi x v e1 e2 e3=>?_⟩;obtain⟨u,r,l⟩:=hl i x v e1 e2 e3;refine⟨u,r,?_⟩;rcases l with l|⟨k,c,e,z⟩
  ·exact .inl l
  ·exact .inr ⟨k,c,e,cellK x c e _ z⟩
 ·obtain⟨v,z⟩:=I.cell x c e;exact⟨v,cellK x c e v z⟩
 ·obtain⟨m,⟨o,_,_,ho,_⟩,_⟩:=I.loc;exact free _ o (λz=>(XN _ z).2.1 rfl) ho I.free
 ·obtain⟨v,o,ho,hd⟩:=I.cell x c e;exact free c o (λz=>(XN c z).2.2.1 x c e rfl) ho 8e0
 ·obtain⟨e,n,ne,nf,d⟩:=I.pin p hp;have nch:p.1∉ch:=λz=>(XN p.1 z).2.2.2 p hp rfl;exact⟨keep p.1 p.2 ne nf nch e n,free p.1 p.2 nch e n,ne,nf,d⟩
def UM.un(I:UM X UJ Z H s)(u:Un X.fs [] H H' s.heap h')(UQ:HOk X.prog X.w H' h'):UM X UJ Z H' {s with heap:=h',toks:=t'}:=by
 obtain⟨m,⟨o,es,ep,ho,r⟩,_⟩:=id I.loc;obtain⟨sl,hL⟩:=u.any ho I.free 0e0;exact I.step (g':=s.gens) (d':=s.drawn) (ch:=[]) (λ_ z=>nomatch z) (λb o _ hb _ e n=>u.keep b o e n hb 0e0) (λb o _ hb _ e n=>u.slot b o e n hb 0e0) (λb o _ e n=>u.free b o e n 0e0) (λb o _ e=>u.there b o e 0e0) u.yG u.uT u.yF (λm' hm=>by
  obtain⟨o',Z3,Xo,Xe,r'⟩:=hm;rw[ho] at Xe;cases Xe;exact⟨_,Z3,Xo,hL,r'⟩) UQ I.bare
def UM.call{d':Drawn}(I:UM X UJ Z H s)(u:Un 2e1 ch H H' s.heap h')(UQ:HOk X.prog X.w H' h')(hg:AllBare g')(XN:∀b∈ch,4e0/\b≠X.env.locals/\(∀x c,X.env.cells.lookup x=some c->c≠b)/\∀p∈X.pn++UJ,p.1≠b) : UM X UJ Z H' {s with heap:=h',gens:=g',drawn:=d',toks:=t'}:=by
 obtain⟨m,⟨o,es,ep,ho,r⟩,_⟩:=id I.loc;obtain⟨sl,hL⟩:=u.any ho I.free λz=>(XN _ z).2.1 rfl;exact I.step (ch:=ch) XN (λb o hL hb hc e n=>u.keep b o e n (λz=>(Α.mp (I.rX b z)).elim hL hb) hc) (λb o _ _ hc e n=>u.any e n hc) (λb o hc e n=>u.free b o e n hc) (λb o hc e=>u.there b o e hc) u.yG u.uT u.yF (λm' hm=>by
  obtain⟨o',Z3,Xo,Xe,r'⟩:=hm;rw[ho] at Xe;cases Xe;exact⟨_,Z3,Xo,hL,r'⟩) UQ hg
def UM.turned{it:Addr}(I:UM X UJ Z H s)(k:∀b o,b≠it->s.heap.get? b=some o->h'.get? b=some o)(hn:H it=none)(hL:it≠X.env.locals)(h1:it∈X.ex\/X.s₀.heap.objs.size<=it)(h2:∀x c,X.env.cells.lookup x=some c->c≠it)(h3:∀p∈X.pn++UJ,p.1≠it):UM X UJ Z H {s with heap:=h',toks:=t'}:=by
 have nit:∀b u,H b=some u->b≠it:=λb u e z=>by rw[z,hn] at e;cases e
 refine I.step (g':=s.gens) (d':=s.drawn) (ch:=[it]) (λb hb=>?_) (λb o _ _ hc e _=>k b o 6e0 e) (λb o _ _ hc e _=>⟨o.slots,k b o 6e0 e⟩) (λ_ _ _ _ n=>n)
  (λb o hc e=>⟨o,k b o 6e0 e⟩) (λ_ _ e=>e) (λ_ _ _ e=>e) (λb ps e=>⟨#[],by rw[e];simp⟩) (λm hm=>?_) (λb u e=>?_) I.bare
 ·have e:b=it:=by simpa using hb
  subst e;exact⟨h1,hL,h2,h3⟩
 ·obtain⟨o,es,ep,ho,r⟩:=hm;exact⟨o,es,ep,k _ o (Ne.symm hL) ho,r⟩
 ·refine(I.UQ b u e).tF (λc v hc q=>k c v ?_ q) 3e1 λ_ _ q=>q;rcases hc with z|z
  ·rw[z];exact nit b u e
  ·exact nit c _ z
def UM.tok(I:UM X UJ Z H s)(t:Nat):UM X UJ Z H {s with toks:=t}:=I.un (h':=s.heap) (t':=t) Un.refl I.UQ
def UM.kept(I:UM X UJ Z H s)(k:∀b u,s.heap.get? b=some u->h'.get? b=some u):UM X UJ Z H {s with heap:=h',toks:=t'}:=I.un (Un.kept k) (I.UQ.kept k)
def UM.laid{o:HO}(I:UM X UJ Z H s)(k:∀b u,s.heap.get? b=some u->h'.get? b=some u)(hp:s.heap.objs.size<=a)(new:eE X.prog X.w (UK H a o) h' a o) : UM X UJ Z (UK H a o) {s with heap:=h',toks:=t'}:=I.un (Un.laid k hp (I.UQ.fresh hp)) (I.UQ.laid k hp new)
def UM.write{x e:Addr}{o:HO}(I:UM X UJ Z H s)(mu:Mut (H x))(he:e=x\/H e=some (.own x))(k:∀b u,b≠e->s.heap.get? b=some u->h'.get? b=some u)(Zv:∃u,h'.get? e=some u)(new:eE X.prog X.w (UK H x o) h' x o):UM X UJ Z (UK H x o) {s with heap:=h',toks:=t'}:=I.un (Un.write mu he k Zv) (I.UQ.write mu he k Zv new)
def UM.qB{YB:List (Addr×Obj)}(I:UM X UJ Z H s)(h:∀p∈YB,s.heap.get? p.1=some p.2/\H p.1=none/\p.1≠X.env.locals/\p.1∉X.fs/\∀v,p.2.data≠.cell v):UM X YB Z H s :=
 ⟨I.ok,I.os,I.bare,I.base,I.loc,I.cell,I.free,I.kE,λp hp=>(Κ.mp hp).elim (λz=>I.pin p (List.mem_append_left _ z)) (h p),I.UQ,I.len⟩
def BH{N:List Str}(hN:N.Nodup){j:Nat}(a:N[i]?=some x)(b:N[j]?=some x):i=j:=by
 obtain⟨h1,e1⟩:=Ν.mp a;obtain⟨h2,e2⟩:=Ν.mp b;exact(List.getElem_inj hN).mp (e1.trans e2.symm)
def rY(I:UM X UJ Z H s)(hN:X.N.Nodup)(hi:X.N[i]?=some x)(hx:Loc X.env.scope x)(r:bQ v u)(h:∀s',UM X UJ 0e1 H s'->(∃a,Heap.SameBut a s.heap s'.heap/\(a=X.env.locals\/X.env.cells.lookup x=some a))->Q () s')(hf:X.fn x=true\/X.env.scope.names.lookup x=some .local:=by trivial):wpAny M A 9e0 Q E s:=by
 obtain⟨m,hn,hl⟩:=id I.loc;have aa2:(X.env.scope.kind==.class||(X.env.scope.kind==.module&&X.env.locals !=X.env.globals))=false:=by rw[I.ok.kind];rfl
 have hiσ:i < Z.length:=by rw[I.len];exact(Ν.mp hi).1
 have YM:=I.YM;have tracked:∀{a:Addr} {h':Heap},(∃o,s.heap.get? a=some o/\H a=none)->Heap.SameBut a s.heap h'->HOk X.prog X.w H h':=λ{a h'} ha hs b ob e=>by
  obtain⟨_,_,Yo⟩:=ha;refine(I.UQ b ob e).tF (λc w' hc q=>(hs.2 c ?_).trans q) 3e1 λ_ _ q=>q;rintro rfl;rcases hc with rfl|hc
  ·rw[Yo] at e;cases e
  ·rw[Yo] at hc;cases hc
 rcases hx with hk|hk
 ·refine wpAny_storeName_local hk hn (λh' hn' hs=>?_) aa2;obtain⟨oL,_,_,hoL,_⟩:=id hn;refine h _ ⟨I.ok,I.os,I.bare,⟨λb o e n hb hx=>?_,λb o e n hb hx=>?_,I.base.free,λb o e hx=>?_,I.base.yG,I.base.uT,I.base.yF⟩,⟨_,hn',λj y v' e1 e2 e3=>?_⟩,λy c e=>?_,I.free,I.kE,λp hp=>?_,tracked ⟨oL,hoL,I.free⟩ hs,by simpa using I.len⟩ ⟨_,hs,.inl rfl⟩
  ·exact(hs.2 b (Τ 1e0)).trans 5e0
  ·obtain⟨sl,e1⟩:=I.base.slot b o e n hb hx;exact⟨sl,(hs.2 b (Τ 1e0)).trans e1⟩
  ·obtain⟨o',e1⟩:=I.base.there b o e hx;exact⟨o',(hs.2 b (Τ 1e0)).trans e1⟩
  ·by_cases hj:j=i
   ·subst hj;rw[hi] at e1;cases e1;rw[List.getElem?_set_self hiσ] at e2;cases e2;exact⟨u,r,.inl ⟨hk,by simp⟩⟩
   ·rw[List.getElem?_set_ne 4e1] at e2;obtain⟨u',r',q⟩:=hl j y v' e1 e2 e3;refine⟨u',r',?_⟩;rcases q with⟨k,e⟩|⟨k,c,e,z⟩
    ·refine .inl ⟨k,?_⟩;have:y≠x:=λe=>hj (BH hN e1 (e▸hi));simp[this,e]
    ·exact .inr ⟨k,c,e,z.sameBut hs (YM y c e)⟩
  ·obtain⟨w',z⟩:=I.cell y c e;exact⟨w',z.sameBut hs (YM y c e)⟩
  ·obtain⟨e,n,ne,nf,d⟩:=I.pin p hp;exact⟨(hs.2 p.1 ne).trans e,n,ne,nf,d⟩
 ·have hfn:X.fn x=true:=by
   rcases hf with z|z
   ·exact z
   ·rw[z] at hk;cases hk
  obtain⟨c,hc⟩:=I.ok.has x (.inl hk);obtain⟨w',z⟩:=I.cell x c hc;refine wpAny_storeName_cell I.ok.kind hk hc z (λh' Xu hs=>?_);obtain⟨oc,hoc,abB⟩:=id z;refine h {s with heap:=h'} ⟨I.ok,I.os,I.bare,⟨λb o e n hb hx=>?_,λb o e n hb hx=>?_,I.base.free,λb o e hx=>?_,I.base.yG,I.base.uT,I.base.yF⟩,⟨m,hn.sameBut hs (Ne.symm (YM x c hc)),λj y v' e1 e2 e3=>?_⟩,λy c' e=>?_,I.free,I.kE,λp hp=>?_,tracked ⟨oc,hoc,I.kE x c hc⟩ hs,by simpa using I.len⟩ ⟨c,hs,.inr hc⟩
  ·exact(hs.2 b 3e0).trans 5e0
  ·obtain⟨sl,e1⟩:=I.base.slot b o e n hb hx;exact⟨sl,(hs.2 b 3e0).trans e1⟩
  ·obtain⟨o',e1⟩:=I.base.there b o e hx;exact⟨o',(hs.2 b 3e0).trans e1⟩
  ·by_cases hj:j=i
   ·subst hj;rw[hi] at e1;cases e1;rw[List.getElem?_set_self hiσ] at e2;cases e2;exact⟨u,r,.inr ⟨.inl hk,c,hc,Xu⟩⟩
   ·rw[List.getElem?_set_ne 4e1] at e2;obtain⟨u',r',q⟩:=hl j y v' e1 e2 e3;refine⟨u',r',?_⟩;rcases q with q|⟨k,c',e,z'⟩
    ·exact .inl q
    ·refine .inr ⟨k,c',e,z'.sameBut hs ?_⟩;rintro rfl;exact hj (BH hN e1 (I.ok.inj _ _ _ e hc▸hi))
  ·by_cases hcc:c'=c
   ·subst hcc;exact⟨_,Xu⟩
   ·obtain⟨w2,z2⟩:=I.cell y c' e;exact⟨w2,z2.sameBut hs hcc⟩
  ·obtain⟨e,n,ne,nf,d⟩:=I.pin p hp;refine⟨(hs.2 p.1 ?_).trans e,n,ne,nf,d⟩;intro q;rw[q,hoc] at e;have q':oc=p.2:=ϓ e;exact d w' (by rw[<- q'];exact abB)
def xK(I:UM X UJ Z H s)(hN:X.N.Nodup)(hi:X.N[i]?=some x)(hx:Loc X.env.scope x)(r:bQ v u)(h:∀s',UM X UJ 0e1 H s'->Q () s')(hf:X.fn x=true\/X.env.scope.names.lookup x=some .local:=by trivial):wpAny M A 9e0 Q E s :=
 rY I hN hi hx r (λs' I' _=>h s' I') hf
def UM.Qz(I:UM X UJ Z H s)(ho:s'.os=s.os)(u:Un 2e1 ch H H' s.heap s'.heap)(UQ:HOk X.prog X.w H' s'.heap)(hg:AllBare s'.gens)(XN:∀b∈ch,4e0/\b≠X.env.locals/\(∀x c,X.env.cells.lookup x=some c->c≠b)/\∀p∈X.pn++UJ,p.1≠b):UM X UJ Z H' s':=by
 obtain⟨h',g',d',t',o'⟩:=s';have e:o'=s.os:=ho;subst e;exact I.call (g':=g') (t':=t') (d':=d') u UQ hg XN
end
end
mutual
example:=[Addr×Obj,model X.prog X.w,eval e X.env,TP X UJ Z Q,SP X UJ D]
abbrev XK:=Value->Option Addr->Hp->Prop
abbrev St:=List (Option V)
variable{Z:St}
abbrev VK:=V->Hp->Prop
abbrev TE:=St->Hp->VK->Prop
variable{t te:TE}
abbrev TT:=St->Hp->(Bool->Hp->Prop)->Prop
abbrev TA:=St->Hp->(List V->Hp->Prop)->Prop
structure Ends where
 nx:St->Hp->Prop
 rt:VK
 bk:St->Hp->Prop:=λ_ _=>False
 ct:St->Hp->Prop:=λ_ _=>False
variable{D:Ends}
abbrev TS:=Ends->St->Hp->Prop
variable{tb:TS}
inductive EP(X:Cx)(UJ:List 0e0)(Z:St)(Q:VK)(u:Value)(s':Shared):Prop
 | mk (v:V) (H':Hp) (I:UM X UJ Z H' s') (r:bQ v u) (q:Q v H'):EP X UJ Z Q u s'
def TP(X:Cx)(UJ:List 0e0)(Z:St)(Q:Bool->Hp->Prop)(b:Bool)(s':Shared):Prop:=∃H',UM X UJ Z H' s'/\Q b H'
inductive AP(X:Cx)(UJ:List 0e0)(Z:St)(Q:List V->Hp->Prop)(us:List Value)(s':Shared):Prop
 | mk (vs:List V) (H':Hp) (I:UM X UJ Z H' s') (r:UO vs us) (q:Q vs H'):AP X UJ Z Q us s'
def SP(X:Cx)(UJ:List 0e0)(D:Ends)(f:Flow)(s':Shared):Prop :=
 match f with
 | .next=>∃Z' H',UM X UJ Z' H' s'/\D.nx Z' H'
 | .brk=>∃Z' H',UM X UJ Z' H' s'/\D.bk Z' H'
 | .cont=>∃Z' H',UM X UJ Z' H' s'/\D.ct Z' H'
 | .ret u=>∃v Z' H',UM X UJ Z' H' s'/\bQ v u/\D.rt v H'
def PE(X:Cx)(e:Expr)(t:TE):Prop :=
 ∀(UJ:List 0e0) (s:Shared) (Z:St) (H:Hp) (Q:VK),UM X UJ Z H s->t Z H Q->wpAny 1e0 X.A 2e0 (EP X UJ Z Q) X.xe s
def PT(X:Cx)(e:Expr)(t:TT):Prop :=
 ∀(UJ:List 0e0) (s:Shared) (Z:St) (H:Hp) (Q:Bool->Hp->Prop),UM X UJ Z H s->t Z H Q->wpAny 1e0 X.A (isTrue e X.env 2e0) 3e0 X.xe s
def PW(X:Cx)(e:Expr)(t:TT):Prop :=
 ∀(whole:Sem Value) (UJ:List 0e0) (s:Shared) (Z:St) (H:Hp) (Q:Bool->Hp->Prop),UM X UJ Z H s->t Z H Q->wpAny 1e0 X.A (isTrue e X.env whole) 3e0 X.xe s
def PW.pt{t:TT}(h:PW X e t):PT X e t:=h _
def PA(X:Cx)(es:List Expr)(t:TA):Prop :=
 ∀(pos:Pos) (UJ:List 0e0) (s:Shared) (Z:St) (H:Hp) (Q:List V->Hp->Prop),UM X UJ Z H s->t Z H Q->wpAny 1e0 X.A (spliced (backTo pos (starEach es X.env))) (AP X UJ Z Q) X.xe s
def PS(X:Cx)(st:Stmt)(t:TS):Prop :=
 ∀(UJ:List 0e0) (s:Shared) (Z:St) (H:Hp) (D:Ends),UM X UJ Z H s->t D Z H->wpAny 1e0 X.A (exec st X.env) 4e0 X.xe s
def VW(X:Cx)(st:List Stmt)(t:TS):Prop :=
 ∀(UJ:List 0e0) (s:Shared) (Z:St) (H:Hp) (D:Ends),UM X UJ Z H s->t D Z H->wpAny 1e0 X.A (execs st X.env) 4e0 X.xe s
def thn{α:Type}{t:Sem α}{Q Q':α->Shared->Prop}(h:wpAny M A t Q E s)(hQ:∀a s,Q a s->Q' a s):wpAny M A t Q' E s:=Β5 h hQ λ_ _ x=>x
end
section
mutual
example:=[model X.prog X.w,x==("__debug__":Str),.Name x pos,(thn (ha UJ s Z H _ I h) λv s1 ⟨x,H1,I1,r1,q1⟩=>?_),ha UJ s Z H _ I h,(by rw[I.ok.glob];exact I.mod.glob.keeps I.bk),(thn (ha UJ s Z H Q I h) λc s1 e=>?_),a::b::rest,.BoolOp .And 7e0 pos,.BoolOp .Or 7e0 pos,.BoolOp .And (b::rest) pos,.BoolOp .Or (b::rest) pos,.Compare a [op] [b] pos,.UnaryOp .Not a pos,h UJ s Z H _ I hw,h UJ s Z H Q I hw]
def lV(i:Nat):TE:=λZ H Q=>∃v,Z[i]?=some (some v)/\Q v H
def tC(v:V):TE:=λ_ H Q=>Q v H
theorem lB(hN:X.N[i]?=some x)(hv:Vis X.env.scope x)(hd:1e0=false:=by decide)(Xv:(x==("__classdict__":Str))=false:=by decide):PE X 2e0 (lV i):=by
 intro UJ s Z H Q I h;obtain⟨v,e,h⟩:=h;obtain⟨m,hn,hl⟩:=I.loc;obtain⟨u,r,l⟩:=hl i x v hN e hv;have fin:EP X UJ Z Q u s:=⟨v,H,I,r,h⟩;rcases l with⟨hk,hm⟩|⟨hk,c,hc,Ww⟩
 ·exact wpAny_Name (wpAny_loadName_local I.ok.kind hk hn hm fin) hd
 ·rcases hk with hk|hk
  ·exact wpAny_Name (wpAny_loadName_cell I.ok.kind hk hc Ww fin) hd
  ·exact wpAny_Name (wpAny_loadName_free I.ok.kind hk hc Ww fin Xv) hd
def aB{i j pos}:PE X (.Constant (.int i) j pos) (tC (.int i)):=λ_ _ _ H _ I h=>wpAny_Constant_int ⟨.int i,H,I.tok _,⟨_,rfl⟩,h⟩
def BY{b j pos}:PE X (.Constant (.bool b) j pos) (tC (.bl b)):=λ_ _ _ H _ I h=>Constant_bool ⟨.bl b,H,I,rfl,h⟩
def cK{j pos}:PE X (.Constant .none j pos) (tC .UL):=λ_ _ _ H _ I h=>Constant_none ⟨.UL,H,I,rfl,h⟩
def aE{x j pos}:PE X (.Constant (.str x) j pos) (tC (.str x)):=λ_ _ _ H _ I h=>Calls.Constant_str ⟨.str x,H,I.tok _,⟨_,rfl⟩,h⟩
def Gl(X:Cx)(x:Str):Prop:=X.env.kindOf x=some .globalImplicit
theorem tJ{Q:q0A}(I:UM X UJ Z H s)(hg:Gl X x)(hm:X.mg x=some u)(h:Q u s)(hd:1e0=false:=by decide):wpAny 0e0 X.A (eval 2e0 X.env) Q E s :=
 Calls.Name_function_global I.ok.kind hg (Calls.loadGlobal_global 5e0 hm h) hd
theorem C5{Q:q0A}(I:UM X UJ Z H s)(hg:Gl X x)(hm:X.mg x=none)(hv:bootBuiltins x=some u)(h:Q u s)(hn:x≠"__name__":=by decide)(hd:1e0=false:=by decide):wpAny 0e0 X.A (eval 2e0 X.env) Q E s:=by
 obtain⟨mb,h1,h2⟩:=I.mod.blt;exact Calls.Name_function_global I.ok.kind hg (Calls.loadGlobal_builtin 5e0 hm (by rw[I.ok.blt];exact h1.keeps I.bk) ((h2 x hn).trans hv) h) hd
theorem pY(hg:Gl X x)(hm:X.mg x=some u)(r:bQ v u)(hd:1e0=false:=by decide):PE X 2e0 (tC v) :=
 λ_ _ _ H _ I h=>tJ I hg hm ⟨v,H,I,r,h⟩ hd
variable{a b:Expr}{ta tb:TE}
def PC(X:Cx)(op:CmpOp)(a b:Expr)(t:TE):Prop :=
 ∀(UJ:List (Addr×Obj)) (s:Shared) (Z:St) (H:Hp) (Q:VK),UM X UJ Z H s->t Z H Q ->
  wpAny 0e0 X.A (eval a X.env) (λv s₁=>wpAny 0e0 X.A (eval b X.env) (λu s₂=>wpAny 0e0 X.A (compareOp op v u) (EP X UJ Z Q) X.xe s₂) X.xe s₁) X.xe s
def tB(t:TE):TT:=λZ H Q=>t Z H λx H1=>∃c,x=.bl c/\Q c H1
def PM(h:PC X op a b t)(h1:behindInMarks op b=false:=by rfl):PE X 2e1 t:=λUJ s Z H Q I hw=>wpAny_Compare1 5e1 h1
def PU(h:PC X op a b t)(h1:behindInMarks op b=false:=by rfl):PT X 2e1 (tB t):=by
 intro UJ s Z H Q I hw;refine wpAny_isTrue_Compare1 (thn 4e1 λv s1 h1=>thn h1 λu s2 h2=>thn h2 λc s3 ⟨x,H1,I1,r1,q1⟩=>?_) h1;obtain⟨d,rfl,q⟩:=q1;cases r1;exact Ε1 ⟨H1,I1,q⟩
def AH(h:PE X e t)(he:∀whole,isTrue e X.env whole=(do let v <- whole;standAt e.pos;holding [v] (truthy v)):=by trivial):PT X e (tB t):=by
 intro UJ s Z H Q I hw;refine isTrue_plain (thn 4e1 λv s1 ⟨x,H1,I1,r1,q1⟩=>?_) (he _);obtain⟨d,rfl,q⟩:=q1;cases r1;exact Ε1 ⟨H1,I1,q⟩
variable{tA tB':TT}{rest:List Expr}
def So(t u:TT):TT:=λZ H Q=>t Z H λc H1=>if c=true then u Z H1 Q else Q false H1
def Ux(t u:TT):TT:=λZ H Q=>t Z H λc H1=>if c=true then Q true H1 else u Z H1 Q
def Ss(t:TT):TT:=λZ H Q=>t Z H λc H1=>Q (!c) H1
def dR(ha:PT X a tA):PW X (.BoolOp .And [a] pos) tA:=by
 intro wh UJ s Z H Q I h;refine isTrue_and 6e0;cases c with
 | true=>exact isTrue_and_nil e
 | false=>exact e
def wL(ha:PT X a tA):PW X (.BoolOp .Or [a] pos) tA:=by
 intro wh UJ s Z H Q I h;refine isTrue_or 6e0;cases c with
 | false=>exact isTrue_or_nil e
 | true=>exact e
def eU(ha:PT X a tA)(hb:PW X 0e1 tB'):PW X 8e0 (So tA tB'):=by
 intro wh UJ s Z H Q I h;refine isTrue_and (thn 4e0 λc s1 ⟨H1,I1,q1⟩=>?_);cases c with
 | true=>exact hb wh UJ s1 Z H1 Q I1 q1
 | false=>exact⟨H1,I1,q1⟩
def zE(ha:PT X a tA)(hb:PW X 1e1 tB'):PW X 9e0 (Ux tA tB'):=by
 intro wh UJ s Z H Q I h;refine isTrue_or (thn 4e0 λc s1 ⟨H1,I1,q1⟩=>?_);cases c with
 | true=>exact⟨H1,I1,q1⟩
 | false=>exact hb wh UJ s1 Z H1 Q I1 q1
def PV(ha:PT X a tA):PT X 3e1 (Ss tA):=by
 intro UJ s Z H Q I h;exact isTrue_not (ha UJ s Z H (λc H1=>Q (!c) H1) I h)
def J6(ta tb:TE):TE:=λZ H Q=>ta Z H λx H1=>∃c,x=.bl c/\if c=true then tb Z H1 Q else Q (.bl false) H1
def Qd(ta tb:TE):TE:=λZ H Q=>ta Z H λx H1=>∃c,x=.bl c/\if c=true then Q (.bl true) H1 else tb Z H1 Q
def Kb(ta:TE):TE:=λZ H Q=>ta Z H λx H1=>∃c,x=.bl c/\Q (.bl (!c)) H1
def mN{op}(h:PE X a t):PE X (.BoolOp op [a] pos) t:=λUJ s Z H Q I hw=>BoolOp_one 5e1
def PL(ha:PE X a ta)(hb:PE X 0e1 tb):PE X 8e0 (J6 ta tb):=by
 intro UJ s Z H Q I h;refine BoolOp_and 3e0;obtain⟨c,rfl,q1⟩:=q1;cases r1;refine Ε1 ?_;cases c with
 | true=>exact hb UJ s1 Z H1 Q I1 q1
 | false=>exact⟨.bl false,H1,I1,rfl,q1⟩
def MT(ha:PE X a ta)(hb:PE X 1e1 tb):PE X 9e0 (Qd ta tb):=by
 intro UJ s Z H Q I h;refine BoolOp_or 3e0;obtain⟨c,rfl,q1⟩:=q1;cases r1;refine Ε1 ?_;cases c with
 | false=>exact hb UJ s1 Z H1 Q I1 q1
 | true=>exact⟨.bl true,H1,I1,rfl,q1⟩
def PN(ha:PE X a ta):PE X 3e1 (Kb ta):=by
 intro UJ s Z H Q I h;refine UnaryOp_ 3e0;obtain⟨c,rfl,q1⟩:=q1;cases r1;exact not_of (Ε1 ⟨.bl (!c),H1,I1,rfl,q1⟩)
def Uv(t:TT)(ta tb:TE):TE:=λZ H Q=>t Z H λc H1=>if c=true then ta Z H1 Q else tb Z H1 Q
def pZ(hc:PT X c tA)(ha:PE X a ta)(hb:PE X b tb):PE X (.IfExp c a b pos) (Uv tA ta tb):=by
 intro UJ s Z H Q I h;refine wpAny_IfExp (thn (hc UJ s Z H _ I h) λd s1 ⟨H1,I1,q1⟩=>?_);cases d with
 | true=>exact ha UJ s1 Z H1 Q I1 q1
 | false=>exact hb UJ s1 Z H1 Q I1 q1
end
end
mutual
example:=[]
def fV(K:q0B)(H:Hp)(a:Addr)(xs:List V):Prop :=
 Rd H a (.lst xs) \/
  ∃(o:Obj) (UN:Array Value) (n:Nat),K.lookup a=some o/\o.cls=.type "list"/\o.dict=none/\o.data=.seq UN n/\UN.size<=sizeLine/\UO xs UN.toList
def iR(K:q0B)(H:Hp)(a:Addr)(xs:List V):Prop :=
 Rd H a (.tup xs) \/
  ∃(o:Obj) (UN:Array Value) (n:Nat),K.lookup a=some o/\o.cls=.type "tuple"/\o.data=.seq UN n/\UN.size<=sizeLine/\UO xs UN.toList
def Ti:Value->Option V
 | .none=>some .UL
 | .bool b=>some (.bl b)
 | .int i _=>some (.int i)
 | .str x _=>some (.str x)
 | .bytes b _=>some (.byt b)
 | .float b _=>some (.flt b)
 | .ref a=>some (.ref a)
 | .type n=>some (.ty n)
 | _=>none
def bQ.abs{x:V}(r:bQ x u):Ti u=some x:=by
 cases x with
 | UL=>cases r;rfl
 | bl _=>cases r;rfl
 | int _=>obtain⟨t,rfl⟩:=r;rfl
 | str _=>obtain⟨t,rfl⟩:=r;rfl
 | byt _=>obtain⟨t,rfl⟩:=r;rfl
 | flt _=>obtain⟨t,rfl⟩:=r;rfl
 | ref _=>cases r;rfl
 | ty _=>cases r;rfl
def bQ.inj{x y:V}(r:bQ x u)(q:bQ y u):x=y:=ϓ (r.abs.symm.trans q.abs)
def UO.inj{ys:List V}(h:UO xs us)(g:UO ys us):xs=ys:=by
 induction h generalizing ys with
 | nil=>cases g;rfl
 | cons r t ih =>
  cases g with
  | cons r' t'=>rw[r.inj r',ih t']
end
section
mutual
example:=[]
variable{ys:List V}
def fV.of(h:H a=some (.lst xs)):fV K H a xs:=.inl (.inl h)
def iR.of(h:H a=some (.tup xs)):iR K H a xs:=.inl (.inl h)
theorem UM.list(I:UM X UJ Z H s)(h:fV X.K H a xs):∃UN:List Value,UO xs UN/\PlainL s.heap a UN.toArray/\xs.length<=sizeLine:=by
 rcases h with h|⟨o,UN,n,hk,hc,hd,hs,hz,r⟩
 ·obtain⟨z,UN,n,r,e⟩:=h.ok I.UQ;exact⟨UN,r,⟨_,n,e,rfl,rfl,rfl⟩,z⟩
 ·refine⟨UN.toList,r,⟨o,n,I.kIn a o hk,hc,hd,by simpa using hs⟩,?_⟩;have e:=r.length;simp only[Γ4] at e;omega
theorem UM.tuple(I:UM X UJ Z H s)(h:iR X.K H a xs):∃UN:List Value,UO xs UN/\IsTup s.heap a UN.toArray/\xs.length<=sizeLine:=by
 rcases h with h|⟨o,UN,n,hk,hc,hs,hz,r⟩
 ·obtain⟨z,UN,r,p⟩:=h.ok I.UQ;exact⟨UN,r,p,z⟩
 ·refine⟨UN.toList,r,⟨o,I.kIn a o hk,hc,n,by simpa using hs⟩,?_⟩;have e:=r.length;simp only[Γ4] at e;omega
def UM.II(I:UM X UJ Z H s)(h:fV X.K H a xs)(h':fV X.K H a ys):xs=ys:=by
 obtain⟨UN,r,⟨o,n,e,_,_,d⟩,_⟩:=I.list h;obtain⟨its',r',⟨o',n',e',_,_,d'⟩,_⟩:=I.list h';rw[e] at e';cases e';rw[d] at d';injection d' with d1 _
 have:UN=its':=by simpa using congrArg Array.toList d1
 subst this;exact r.inj r'
def UM.GX(I:UM X UJ Z H s)(h:iR X.K H a xs)(h':iR X.K H a ys):xs=ys:=by
 obtain⟨UN,r,⟨o,e,_,n,d⟩,_⟩:=I.tuple h;obtain⟨its',r',⟨o',e',_,n',d'⟩,_⟩:=I.tuple h';rw[e] at e';cases e';rw[d] at d';injection d' with d1 _
 have:UN=its':=by simpa using congrArg Array.toList d1
 subst this;exact r.inj r'
end
end
mutual
example:=[]
abbrev Cx.yI(X:Cx)(E:q0A):Cx:={X with xe:=E}
abbrev Cx.nox(X:Cx):Cx:=X.yI λ_ _=>False
def Cx.Ok.yI(ok:X.Ok)(E:q0A):(X.yI E).Ok :=
 ⟨ok.mod,ok.kind,ok.glob,ok.blt,ok.above,ok.inj,ok.has,ok.cab,ok.hd,ok.frames,ok.stk,ok.exf,ok.bs,ok.bsz,ok.BI,ok.Fz,ok.pF,ok.frf⟩
def Cx.Ok.mW(ok:(X.yI E).Ok):X.Ok :=
 ⟨ok.mod,ok.kind,ok.glob,ok.blt,ok.above,ok.inj,ok.has,ok.cab,ok.hd,ok.frames,ok.stk,ok.exf,ok.bs,ok.bsz,ok.BI,ok.Fz,ok.pF,ok.frf⟩
end
section
mutual
example:=[X.yI E]
def UM.yI(I:UM X UJ Z H s)(E:q0A):UM 0e0 UJ Z H s:=⟨I.ok.yI E,I.os,I.bare,I.base,I.loc,I.cell,I.free,I.kE,I.pin,I.UQ,I.len⟩
def UM.mW(I:UM 0e0 UJ Z H s):UM X UJ Z H s:=⟨I.ok.mW,I.os,I.bare,I.base,I.loc,I.cell,I.free,I.kE,I.pin,I.UQ,I.len⟩
def SP.mW{f:Flow}(h:SP 0e0 UJ D f s'):SP X UJ D f s':=by
 cases f with
 | next=>obtain⟨Z',H',I,q⟩:=h;exact⟨Z',H',I.mW,q⟩
 | brk=>obtain⟨Z',H',I,q⟩:=h;exact⟨Z',H',I.mW,q⟩
 | cont=>obtain⟨Z',H',I,q⟩:=h;exact⟨Z',H',I.mW,q⟩
 | ret u=>obtain⟨v,Z',H',I,r,q⟩:=h;exact⟨v,Z',H',I.mW,r,q⟩
def VW.nox{st:List Stmt}{t:TS}(h:VW X.nox st t):VW X st t:=λUJ s Z H D I hw =>
 Β5 (h UJ s Z H D (I.yI _) hw) (λ_ _ q=>q.mW) λ_ _ z=>False.elim z
end
end
section
mutual
example:=[he UJ s Z H _ I h]
variable{st:Stmt}{rest:List Stmt}{t u:TS}
def Fi:TS:=λD Z H=>D.nx Z H
def DD(t u:TS):TS:=λD Z H=>t {D with nx:=u D} Z H
def L9:VW X [] Fi:=λ_ _ Z H _ I h=>wpAny_execs_nil ⟨Z,H,I,h⟩
def aG(h1:PS X st t)(h2:VW X rest u):VW X (st::rest) (DD t u):=by
 intro UJ s Z H D I h;refine wpAny_execs_cons (thn (h1 UJ s Z H {D with nx:=u D} I h) λf s1 q=>?_);cases f with
 | next =>
  obtain⟨Z',H',I',q⟩:=q;exact h2 UJ s1 Z' H' D I' q
 | ret v=>exact q
 | brk=>exact q
 | cont=>exact q
def aI(h1:PS X st t):VW X [st] t:=by
 intro UJ s Z H D I h;refine wpAny_execs_cons (thn (h1 UJ s Z H D I h) λf s1 q=>?_);cases f with
 | next=>exact wpAny_execs_nil q
 | ret v=>exact q
 | brk=>exact q
 | cont=>exact q
def Nc:TS:=λD Z H=>D.ct Z H
def B4:PS X (.Continue pos) Nc:=λ_ _ Z H _ I h=>wpAny_Continue ⟨Z,H,I,h⟩
def UM.quiet(I:UM X UJ Z H s):interactive X.env=false:=by simp[interactive,I.ok.kind]
def J8(te:TE):TS:=λD Z H=>te Z H λ_ H1=>D.nx Z H1
def aQ(he:PE X e te)(hs:swapsWith e none pos.line X.env=pure false:=by rfl):PS X (.Expr e pos) (J8 te):=by
 intro UJ s Z H D I h;exact wpAny_Expr_any (thn 0e0 λv s1 ⟨x,H1,I1,r1,q1⟩=>⟨Z,H1,I1,q1⟩) I.quiet hs
def Qe(te:TE):TS:=λD Z H=>te Z H D.rt
def aK(he:PE X e te):PS X (.Return (some e) pos) (Qe te):=by
 intro UJ s Z H D I h;exact wpAny_Return_some (thn 0e0 λv s1 ⟨x,H1,I1,r1,q1⟩=>⟨x,Z,H1,I1,r1,q1⟩)
def Ng:TS:=λD _ H=>D.rt .UL H
def tV:PS X (.Return none pos) Ng:=λ_ _ Z H _ I h=>wpAny_Return_none ⟨.UL,Z,H,I,rfl,h⟩
def Cy(c:TT)(t u:TS):TS:=λD Z H=>c Z H λb H1=>if b=true then t D Z H1 else u D Z H1
def fY{a b:List Stmt}{tc:TT}(hc:PT X c tc)(ha:VW X a t)(hb:VW X b u):PS X (.If c a b pos) (Cy tc t u):=by
 intro UJ s Z H D I h;refine wpAny_If (thn (hc UJ s Z H _ I h) λd s1 ⟨H1,I1,q1⟩=>?_);cases d with
 | true=>exact ha UJ s1 Z H1 D I1 q1
 | false=>exact hb UJ s1 Z H1 D I1 q1
end
end
mutual
example:=[model X.prog X.w,Addr×Obj,St->Hp->Prop]
abbrev TG:=V->St->Hp->2e0->Prop
variable{g:TG}
abbrev TGs:=List V->St->Hp->2e0->Prop
def PG(X:Cx)(target:Expr)(t:TG):Prop :=
 ∀(UJ:List 1e0) (s:Shared) (Z:St) (H:Hp) (v:V) (u:Value) (Q:St->Hp->Prop),UM X UJ Z H s->bQ v u->t v Z H Q ->
  wpAny 0e0 X.A (assign target X.env u) (λ_ s'=>∃Z' H',UM X UJ Z' H' s'/\Q Z' H') X.xe s
def PGs(X:Cx)(ts:List Expr)(t:TGs):Prop :=
 ∀(UJ:List 1e0) (s:Shared) (Z:St) (H:Hp) (vs:List V) (us:List Value) (Q:St->Hp->Prop),UM X UJ Z H s->UO vs us->t vs Z H Q ->
  wpAny 0e0 X.A (assignInOrder ((assignEach ts X.env).map (·.2)) us) (λ_ s'=>∃Z' H',UM X UJ Z' H' s'/\Q Z' H') X.xe s
abbrev TSet:=V->V->V->Hp->(Hp->Prop)->Prop
def PSet(X:Cx)(t:TSet):Prop :=
 ∀(UJ:List 1e0) (s:Shared) (Z:St) (H:Hp) (o i v:V) (ov iv u:Value) (Q:Hp->Prop),UM X UJ Z H s->bQ o ov->bQ i iv->bQ v u->t o i v H Q ->
  wpAny 0e0 X.A (setItem ov iv u) (λ_ s'=>∃H',UM X UJ Z H' s'/\Q H') X.xe s
abbrev TIp:=V->V->Hp->VK->Prop
def PIp(X:Cx)(op:Operator)(t:TIp):Prop :=
 ∀(UJ:List 1e0) (s:Shared) (Z:St) (H:Hp) (x y:V) (v u:Value) (Q:VK),UM X UJ Z H s->bQ x v->bQ y u->t x y H Q ->
  wpAny 0e0 X.A (inplaceOp op v u) (EP X UJ Z Q) X.xe s
end
section
mutual
example:=[model X.prog X.w,he UJ s Z H _ I h,hi UJ s1 Z H1 _ I1 q1,.Subscript o i pos,ho UJ s Z H _ I h,.Name x pos']
def jU(i:Nat):TG:=λv Z H Q=>Q (Z.set i (some v)) H
def tT(hN:X.N.Nodup)(hi:X.N[i]?=some x)(hx:Loc X.env.scope x)(hf:X.fn x=true\/X.env.scope.names.lookup x=some .local:=by trivial):PG X (.Name x pos) (jU i):=by
 intro UJ s Z H v u Q I r h;exact wpAny_assign_Name (xK I hN hi hx r (λs' I'=>⟨_,H,I',h⟩) hf)
def LC:TGs:=λvs Z H Q=>vs=[]/\Q Z H
def Ee(t:TG)(u:TGs):TGs:=λvs Z H Q=>∃v r,vs=v::r/\t v Z H λZ' H'=>u r Z' H' Q
def tU:PGs X [] LC:=by
 intro UJ s Z H vs us Q I r h;obtain⟨e,h⟩:=h;subst e;cases r;exact assignInOrder_nil ⟨Z,H,I,h⟩
def fQ{t:TG}{u:TGs}(h1:PG X e t)(h2:PGs X es u)(hs:(assignEach (e::es) X.env).map (·.2)=assign e X.env::(assignEach es X.env).map (·.2):=by rfl):PGs X (e::es) (Ee t u):=by
 intro UJ s Z H vs us Q I r h;obtain⟨v,vr,e1,h⟩:=h;subst e1;cases r with
 | cons r rr =>
  rw[hs];refine assignInOrder_cons (thn (h1 UJ s Z H _ _ _ I r h) λ_ s1 ⟨σ1,H1,I1,q1⟩=>?_);exact h2 UJ s1 σ1 H1 _ _ Q I1 rr q1
def LD(K:q0B)(n:Nat)(t:TGs):TG:=λv Z H Q=>∃a xs,v=.ref a/\iR K H a xs/\xs.length=n/\t xs Z H Q
def Jt{t:TGs}(hc:X.calm=true)(h:PGs X es t)(hn:(assignEach es X.env).length=n:=by rfl)(UY:(assignEach es X.env).findIdx? (·.1)=none:=by rfl):PG X (.Tuple es k pos) (LD X.K n t):=by
 intro UJ s Z H v u Q I r hw;obtain⟨a,xs,e1,hq,hl,hw⟩:=hw;subst e1;cases r;obtain⟨UN,rv,ht,hz⟩:=I.tuple hq;refine assign_Tuple_tuple (I.ok.hd hc) ht (by simp[hn,<- hl,rv.length]) UY λh' hx=>?_;have I1:UM X UJ Z H {s with heap:=h'}:=I.kept (t':=s.toks) λb o e=>hx b o (Τ (Μ e)) e;exact h UJ _ Z H xs _ Q I1 (by simpa using rv) hw
def Rv(to ti:TE)(t:TSet):TG:=λv Z H Q=>to Z H λo H1=>ti Z H1 λi H2=>t o i v H2 λH3=>Q Z H3
def rR{o i:Expr}{to ti:TE}{t:TSet}(ho:PE X o to)(hi:PE X i ti)(hs:PSet X t)
    (ha:∀v,assign 3e0 X.env v=(do
      let ov <- holding [v] (eval o X.env);let iv <- holding [v,ov] (eval i X.env)
      standAt pos
      holding [v,ov,iv] (setItem ov iv v)
      release [v,ov,iv] []):=by trivial):PG X 3e0 (Rv to ti t):=by
  intro UJ s Z H v u Q I r h;rw[ha];refine Β (Α9 (thn 4e0 λov s1 ⟨x,H1,I1,r1,q1⟩=>?_));refine Β (Α9 (thn 2e0 λiv s2 ⟨y,H2,I2,r2,q2⟩=>?_));refine Β (wpAny_standAt (Β (Α9 (thn (hs UJ s2 Z H2 x y v ov iv u _ I2 r1 r2 r q2) λ_ s3 ⟨H3,I3,q3⟩=>?_))));exact wpAny_release ⟨Z,H3,I3,q3⟩
def GV(te:TE)(g:TG):TS:=λD Z H=>te Z H λx H1=>g x Z H1 D.nx
def lD(he:PE X e te)(hg:PG X tg g)(hs:swapsWithSole [tg] e pos.line X.env=pure false:=by rfl)(hw:swappedStores [tg] e X.env=pure none:=by rfl)(h1:(assignEach [tg] X.env).map (·.2)=[assign tg X.env]:=by rfl):PS X (.Assign [tg] e pos) (GV te g):=by
 intro UJ s Z H D I h;refine wpAny_Assign_stores (thn 1e0 λv s1 ⟨x,H1,I1,r1,q1⟩=>?_) hs hw;rw[h1];exact thn (hg UJ s1 Z H1 x v _ I1 r1 q1) λ_ s2 q=>q
def AF{pos':Pos}(hN:X.N.Nodup)(hi:X.N[i]?=some x)(hx:Loc X.env.scope x)(he:PE X e te)(hs:swapsWith e (some 5e0) pos.line X.env=pure false:=by rfl)(hf:X.fn x=true\/X.env.scope.names.lookup x=some .local:=by trivial) : PS X (.Assign [.Name x pos'] e pos) (GV te (jU i)):=by
 intro UJ s Z H D I h;refine wpAny_Assign_Name (thn 1e0 λv s1 ⟨y,H1,I1,r1,q1⟩=>?_) hs;exact xK I1 hN hi hx r1 (λs2 I2=>⟨_,H1,I2,q1⟩) hf
def Sq(i:Nat)(te:TE)(ti:TIp):TS:=λD Z H=>∃x,Z[i]?=some (some x)/\te Z H λy H1=>ti x y H1 λz H2=>D.nx (Z.set i (some z)) H2
def PR{op:Operator}{ti:TIp}{pos':Pos}(hN:X.N.Nodup)(hi:X.N[i]?=some x)(hx:Loc X.env.scope x)(he:PE X e te)(ho:PIp X op ti)(hf:X.fn x=true\/X.env.scope.names.lookup x=some .local:=by trivial) : PS X (.AugAssign 5e0 op e pos) (Sq i te ti):=by
 intro UJ s Z H D I h;obtain⟨v,e1,h⟩:=h;obtain⟨m,hn,hl⟩:=I.loc;have vis:Vis X.env.scope x:=by rcases hx with k|k;exact .inl k;exact .inr (.inl k)
 obtain⟨u,r,l⟩:=hl i x v hi e1 vis;refine wpAny_AugAssign_Name ?_;have go:wpAny 0e0 X.A (eval e X.env) (λw s₂=>wpAny 0e0 X.A (inplaceOp op u w) (λr s₃=>wpAny 0e0 X.A (storeName X.env x r) (λ_=>SP X UJ D .next) X.xe s₃) X.xe s₂) X.xe s:=by
  refine thn 1e0 λw s1 ⟨y,H1,I1,r1,q1⟩=>?_;refine thn (ho UJ s1 Z H1 v y u w _ I1 r r1 q1) λz s2 ⟨zv,H2,I2,r2,q2⟩=>?_;exact xK I2 hN hi hx r2 (λs3 I3=>⟨_,H2,I3,q2⟩) hf
 rcases l with⟨hk,hm⟩|⟨hk,c,hc,Ww⟩
 ·exact wpAny_loadName_local I.ok.kind hk hn hm go
 ·rcases hk with hk|hk
  ·exact wpAny_loadName_cell I.ok.kind hk hc Ww go
  ·rcases hx with k|k
   ·have:X.env.scope.names.lookup x=some .free:=hk;rw[k] at this;cases this
   ·have:X.env.scope.names.lookup x=some .free:=hk;rw[k] at this;cases this
def Nb(to ti te:TE)(Wr:V->V->Hp->VK->Prop)(Zm:TIp)(Wt:TSet):TS:=λD Z H=>to Z H λo H1=>ti Z H1 λi H2=>Wr o i H2 λx H3=>te Z H3 λy H4=>Zm x y H4 λz H5=>Wt o i z H5 λH6=>D.nx Z H6
def PGet(X:Cx)(t:V->V->Hp->VK->Prop):Prop :=
 ∀(UJ:List (Addr×Obj)) (s:Shared) (Z:St) (H:Hp) (o i:V) (ov iv:Value) (Q:VK),UM X UJ Z H s->bQ o ov->bQ i iv->t o i H Q ->
  wpAny 0e0 X.A (getItem ov iv) (EP X UJ Z Q) X.xe s
def L6{o i:Expr}{to ti:TE}{Wr:V->V->Hp->VK->Prop}{Zm:TIp}{Wt:TSet}{op:Operator}{XF:Pos}(ho:PE X o to)(hi:PE X i ti)(hg:PGet X Wr)(he:PE X e te)(hp:PIp X op Zm)(hs:PSet X Wt)
    (ha:∀ov iv new,augStore i ov iv new=(do holding [new,ov,iv] (setItem ov iv new);release [new,ov,iv] [];pure .next):=by intros;rfl):PS X (.AugAssign (.Subscript o i XF) op e pos) (Nb to ti te Wr Zm Wt):=by
  intro UJ s Z H D I h;refine wpAny_AugAssign_SubscriptAny (thn 4e0 λov s1 ⟨x1,H1,I1,r1,q1⟩=>?_) ha;refine thn 2e0 λiv s2 ⟨x2,H2,I2,r2,q2⟩=>?_;refine thn (hg UJ s2 Z H2 x1 x2 ov iv _ I2 r1 r2 q2) λold s3 ⟨x3,H3,I3,r3,q3⟩=>?_;refine thn (he UJ s3 Z H3 _ I3 q3) λv s4 ⟨x4,H4,I4,r4,q4⟩=>?_;refine thn (hp UJ s4 Z H4 x3 x4 old v _ I4 r3 r4 q4) λnew s5 ⟨x5,H5,I5,r5,q5⟩=>?_;exact thn (hs UJ s5 Z H5 x1 x2 x5 ov iv new _ I5 r1 r2 r5 q5) λ_ s6 ⟨H6,I6,q6⟩=>⟨Z,H6,I6,q6⟩
def UD(f:Int->Int->Int):TIp:=λx y H Q=>∃i j,x=.int i/\y=.int j/\Q (.int (f i j)) H
def Pc:PIp X .Add (UD λi j=>i+j):=by
 intro UJ s Z H x y v u Q I r1 r2 h;obtain⟨i,j,e1,e2,q⟩:=h;subst e1;subst e2;obtain⟨t,rfl⟩:=r1;obtain⟨t',rfl⟩:=r2;exact iadd_int ⟨.int _,H,I.tok _,⟨_,rfl⟩,q⟩
end
end
section
noncomputable def DE(c:TT)(tb:TS):TS:=λD Z H=>∃W:Nat->St->Hp->Prop,(∃m,W m Z H)/\∀m Z H,W m Z H ->
 c Z H λb H1=>if b=true then ∃N:St->Hp->Prop,(∀Z' H',N Z' H'->∃m',m' < m/\W m' Z' H')/\tb {D with nx:=N,ct:=N,bk:=D.nx} Z H1 else D.nx Z H1
def qC{tc:TT}(hp:PassesOwn (model X.prog X.w) X.A X.env X.xe)(hc:PT X c tc)(hb:VW X body tb):PS X (.While c body [] pos) (DE tc tb):=by
 intro UJ s Z H D I h;obtain⟨W,⟨m0,w0⟩,turn⟩:=h;refine wpAny_While (codeAny_whileLoop (λn s'=>∃Z' H',UM X UJ Z' H' s'/\W n Z' H') ?_ m0 ⟨Z,H,I,w0⟩);rintro n s1 ⟨σ1,H1,I1,w1⟩;refine Ε8 hp (thn (hc UJ s1 σ1 H1 _ I1 (turn n σ1 H1 w1)) λb s2 ⟨H2,I2,q2⟩=>?_);cases b with
 | true =>
  obtain⟨N,hN,q2⟩:=q2;rw[if_pos rfl];refine Ε8 hp (thn (hb UJ s2 σ1 H2 _ I2 q2) λf s3 q3=>?_);cases f with
  | next =>
   obtain⟨σ3,H3,I3,n3⟩:=q3;obtain⟨m',hm,w3⟩:=hN σ3 H3 n3;exact⟨m',hm,σ3,H3,I3,w3⟩
  | cont =>
   obtain⟨σ3,H3,I3,n3⟩:=q3;obtain⟨m',hm,w3⟩:=hN σ3 H3 n3;exact⟨m',hm,σ3,H3,I3,w3⟩
  | brk=>exact q3
  | ret v=>exact q3
 | false =>
  rw[if_neg Ω];exact wpAny_execs_nil ⟨σ1,H2,I2,q2⟩
end
mutual
example:=[(by simp),Addr×Obj,.ref it,I.ok.hd hc,model P w,(λb o hb e=>eb b o hb e),(by decide),(λb o hb e=>(sb.2 b hb).trans e),letOwnedTupleGo tg (.ref it) u,(by simpa using hu),(by rw[z];exact hb),model X.prog X.w,(by simp;omega)]
structure It where
 go:Nat->Hp->Prop
 Wu:Nat->Hp->V->Hp->Prop
 stop:Nat->Hp->Prop
def lU(X:Cx)(UJ:List 1e0)(H:Hp)(b:Addr):Prop :=
 H b=none/\b≠X.env.locals/\b∉X.fs/\(b∈X.ex\/X.s₀.heap.objs.size<=b)/\(∀x c,X.env.cells.lookup x=some c->c≠b)/\∀p∈X.pn++UJ,p.1≠b
def UM.Il{H':Hp}(I:UM X UJ Z H s)(hb:s.heap.objs.size<=b)(hn:H' b=none):lU X UJ H' b:=by
 refine⟨hn,Nat.ne_of_gt (Χ I.lt hb),I.RU hb,.inr (Λ I.sz hb),λx c e z=>?_,λp hp z=>?_⟩
 ·obtain⟨v,q⟩:=I.cell x c e;exact absurd (Χ q.lt 0e1) (Α0 _)
 ·exact absurd (Χ (Μ (I.pin p hp).1) 0e1) (Α0 _)
structure Turn(P:Program)(w:World)(K:q0B)(tg:Expr)(J:It)(fp:List Addr)(it:Addr)(tn:Nat->Heap->Prop):Prop where
 mem:it∈fp
 obj:∀i h,tn i h->∀b∈fp,∃o,h.get? b=some o/\∀v,o.data≠.cell v
 keep:∀i h h',tn i h->(∀b∈fp,∀o,h.get? b=some o->h'.get? b=some o)->tn i h'
 item:∀(X:Cx),X.prog=P->X.w=w->X.K=K->X.calm=true->∀(i:Nat) (UJ:List 1e0) (s:Shared) (Z:St) (H:Hp) (E:q0A),UM X UJ Z H s->(∀b∈fp,lU X UJ H b)->tn i s.heap->J.go i H ->
  wpAny 4e0 X.A (pyNext 2e0) (λr s1=>∃u,r=some u /\
   wpAny 4e0 X.A 8e0 (λ_ s2=>∃x H',UM X UJ Z H' s2/\bQ x u/\J.Wu i H x H'/\tn (i+1) s2.heap/\∀b∈fp,H' b=none) E s1) E s
 done:∀(X:Cx),X.prog=P->X.w=w->X.K=K->X.calm=true->∀(i:Nat) (UJ:List 1e0) (s:Shared) (Z:St) (H:Hp) (E:q0A),UM X UJ Z H s->(∀b∈fp,lU X UJ H b)->tn i s.heap->J.stop i H ->
  wpAny 4e0 X.A (pyNext 2e0) (λr s1=>r=none/\UM X UJ Z H s1) E s
 self:∀(A:Around) (i:Nat) (s:Shared) (Q:q0A) (E:q0A),tn i s.heap->Q 2e0 s->wpAny 4e0 A (pyIter 2e0) Q E s
abbrev TI:=St->Hp->(It->Hp->Prop)->Prop
def PIE(X:Cx)(UJ:List 1e0)(Z:St)(tg:Expr)(R:It->Hp->Prop)(ZD:Value)(s2:Shared):Prop :=
 ∃(it:Addr) (fp:List Addr) (tn:Nat->Heap->Prop) (J:It) (H':Hp),ZD=.ref it/\UM X UJ Z H' s2/\Turn X.prog X.w X.K tg J fp it tn/\tn 0 s2.heap/\(∀b∈fp,lU X UJ H' b)/\R J H'
def PI(X:Cx)(tg iter:Expr)(wi:TI):Prop :=
 ∀(UJ:List 1e0) (s:Shared) (Z:St) (H:Hp) (R:It->Hp->Prop),UM X UJ Z H s->wi Z H R ->
  wpAny 1e1 X.A (eval iter X.env) (λv s1=>wpAny 1e1 X.A (pyIter v) (PIE X UJ Z tg R) X.xe s1) X.xe s
def Eg{it:Addr}{n:String}{vs:Array Value}(ho:s.heap.get? it=some o)(hc:o.cls=.type n)(hd:o.data=.fields vs)(hn:["enumerate","zip","dict_itemiterator","dict_reverseitemiterator","odict_iterator","itertools.zip_longest","itertools.pairwise"].contains n=false)(hQ:Q () s):wpAny M A 8e0 Q E s:=by
  unfold letOwnedTupleGo;cases tg<;>first
    | exact Ι hQ
    | (cases u<;>first
        | exact Ι hQ
        | (refine Β (wpAny_load ho ?_)
           rw[hc,hd];show wpAny M A (if (["enumerate","zip","dict_itemiterator","dict_reverseitemiterator","odict_iterator","itertools.zip_longest","itertools.pairwise"].contains n&&vs[0]?==some (rawInt _))=true then _ else _) Q E s;rw[if_neg (by intro h;rw[hn,Ζ0] at h;cases h)];exact Ι hQ))
def WG(K:q0B)(a:Addr):It :=
 ⟨λi H=>∃xs x,fV K H a xs/\xs[i]?=some x,λi H x H'=>H'=H/\∀xs,fV K H a xs->xs[i]?=some x,λi H=>∃xs,fV K H a xs/\xs.length<=i⟩
def Itt(K:q0B)(a:Addr):It :=
 ⟨λi H=>∃xs x,iR K H a xs/\xs[i]?=some x,λi H x H'=>H'=H/\∀xs,iR K H a xs->xs[i]?=some x,λi H=>∃xs,iR K H a xs/\xs.length<=i⟩
def WZ(lo:Int)(n:Nat):It:=⟨λi _=>i < n,λi H x H'=>H'=H/\x=.int (lo+i),λi _=>n<=i⟩
theorem Ha(a it:Addr):Turn P w K tg (WG K a) [it] it (λi h=>h.IsListIter it a i) where
 mem:=by simp
 obj:=λi h st b hb=>by
  have e:b=it:=by simpa using hb
  subst e;obtain⟨o,e,c,d⟩:=st;exact⟨o,e,λv z=>by rw[d] at z;cases z⟩
 keep:=λi h h' st k=>st.at λo e=>k it 0e0 o e
 item:=by
  intro X hP hw hK hc i UJ s Z H E I hf st hg;subst hP hw hK;obtain⟨xs,x,hq,hx⟩:=hg;obtain⟨UN,rv,p,hz⟩:=I.list hq;obtain⟨u,hu,ru⟩:=rv.get hx;obtain⟨f0,f1,f2,f3,f4,f5⟩:=hf it 0e0;refine wpAny_pyNext_list_item st p.isList (x:=u) 9e0 λh' Vd sb=>?_;have I1:UM X UJ Z H {s with heap:=h'}:=I.turned (t':=s.toks) 7e0 f0 f1 f3 f4 f5;obtain⟨o,e,c,d⟩:=id Vd;exact⟨u,rfl,Eg (s:={s with heap:=h'}) e c d 6e0 ⟨x,H,I1,ru,⟨rfl,λys hy=>by rw[I.II hy hq];exact hx⟩,Vd,λb hb=>(hf b hb).1⟩⟩
 done:=by
  intro X hP hw hK hc i UJ s Z H E I hf st hg;subst hP hw hK;obtain⟨xs,hq,hx⟩:=hg;obtain⟨UN,rv,p,hz⟩:=I.list hq;obtain⟨f0,f1,f2,f3,f4,f5⟩:=hf it 0e0;have hl:=rv.length;exact wpAny_pyNext_list_end 3e0 st p.isList 2e1 λh' eb=>⟨rfl,I.turned (t':=s.toks) 5e0 f0 f1 f3 f4 f5⟩
 self:=λ_ _ _ _ _ st h=>wpAny_pyIter_listiter st h
theorem DI(a it:Addr):Turn P w K tg (Itt K a) [it] it (λi h=>h.IsTupleIter it a i) where
 mem:=by simp
 obj:=λi h st b hb=>by
  have e:b=it:=by simpa using hb
  subst e;obtain⟨o,e,c,d⟩:=st;exact⟨o,e,λv z=>by rw[d] at z;cases z⟩
 keep:=λi h h' st k=>st.at λo e=>k it 0e0 o e
 item:=by
  intro X hP hw hK hc i UJ s Z H E I hf st hg;subst hP hw hK;obtain⟨xs,x,hq,hx⟩:=hg;obtain⟨UN,rv,p,hz⟩:=I.tuple hq;obtain⟨u,hu,ru⟩:=rv.get hx;obtain⟨f0,f1,f2,f3,f4,f5⟩:=hf it 0e0;refine wpAny_pyNext_tuple_item st (show s.heap.IsTuple a UN.toArray from p) (x:=u) 9e0 λh' Vd sb=>?_;have I1:UM X UJ Z H {s with heap:=h'}:=I.turned (t':=s.toks) 7e0 f0 f1 f3 f4 f5;obtain⟨o,e,c,d⟩:=id Vd;exact⟨u,rfl,Eg (s:={s with heap:=h'}) e c d 6e0 ⟨x,H,I1,ru,⟨rfl,λys hy=>by rw[I.GX hy hq];exact hx⟩,Vd,λb hb=>(hf b hb).1⟩⟩
 done:=by
  intro X hP hw hK hc i UJ s Z H E I hf st hg;subst hP hw hK;obtain⟨xs,hq,hx⟩:=hg;obtain⟨UN,rv,p,hz⟩:=I.tuple hq;obtain⟨f0,f1,f2,f3,f4,f5⟩:=hf it 0e0;have hl:=rv.length;exact wpAny_pyNext_tuple_end 3e0 st (show s.heap.IsTuple a UN.toArray from p) 2e1 λh' eb=>⟨rfl,I.turned (t':=s.toks) 5e0 f0 f1 f3 f4 f5⟩
 self:=λ_ _ _ _ _ st h=>wpAny_pyIter_tupleiter st h
theorem DH(it:Addr)(lo:Int)(n:Nat):Turn P w K tg (WZ lo n) [it] it (λi h=>IsRangeIter h it (lo+(i:Nat) * 1) ((n:Int) - (i:Nat)) 1) where
 mem:=by simp
 obj:=λi h st b hb=>by
  have e:b=it:=by simpa using hb
  subst e;exact⟨_,st,λv z=>by
   have z':Data.fields _=Data.cell v:=z;cases z'⟩
 keep:=λi h h' st k=>k it 0e0 _ st
 item:=by
  intro X hP hw hK hc i UJ s Z H E I hf st hg;subst hP hw hK;obtain⟨f0,f1,f2,f3,f4,f5⟩:=hf it 0e0;have W:=Walks.range (prog:=X.prog) (w:=X.w) 3e0 it lo 1 n;refine W.item i s _ _ hg st λv h' tk hv Vd kk=>?_;obtain⟨t,rfl⟩:=hv;have I1:UM X UJ Z H {s with heap:=h',toks:=tk}:=I.turned (λb o hb e=>kk b o (by simpa using hb) e) f0 f1 f3 f4 f5;refine⟨_,rfl,Eg (s:={s with heap:=h',toks:=tk}) (n:="range_iterator") Vd rfl rfl 6e0 ⟨.int (lo+i),H,I1,⟨t,?_⟩,⟨rfl,rfl⟩,Vd,λb hb=>(hf b hb).1⟩⟩;rw[Int.mul_one]
 done:=by
  intro X hP hw hK hc i UJ s Z H E I hf st hg;subst hP hw hK;obtain⟨f0,f1,f2,f3,f4,f5⟩:=hf it 0e0;exact wpAny_pyNext_range_end 3e0 st (by have:n<=i:=hg;omega) λh' eb=>⟨rfl,I.turned (t':=s.toks) 5e0 f0 f1 f3 f4 f5⟩
 self:=λ_ _ _ _ _ st h=>wpAny_pyIter_rangeiter st h
end
section
mutual
example:=[I1.UQ.fresh (Ζ _),2 ^ 62,ϝ _ (ϝ _ (k7 hb e)),hl UJ s Z H _ I h,model X.prog X.w,Addr×Obj]
def u0(K:q0B)(tl:TE):TI:=λZ H R=>tl Z H λx H1=>∃a,x=.ref a/\(∃xs,fV K H1 a xs)/\R (WG K a) H1
def Pa(K:q0B)(tl:TE):TI:=λZ H R=>tl Z H λx H1=>∃a,x=.ref a/\(∃xs,iR K H1 a xs)/\R (Itt K a) H1
def jY{l:Expr}{tl:TE}(hl:PE X l tl):PI X tg l (u0 X.K tl):=by
 intro UJ s Z H R I h;refine thn 3e0 λv s1 ⟨x,H1,I1,r1,q1⟩=>?_;obtain⟨a,e,⟨xs,hq⟩,q⟩:=q1;subst e;cases r1;obtain⟨UN,rv,p,hz⟩:=I1.list hq;refine wpAny_pyIter_list p.isList ?_;refine⟨s1.heap.objs.size,[s1.heap.objs.size],_,_,H1,rfl,I1.kept (t':=s1.toks) λb o e=>Θ _ e,Ha a _,⟨_,Φ _ rfl,rfl,rfl⟩,λb hb=>?_,q⟩;have e:b=s1.heap.objs.size:=by simpa using hb
 subst e;exact I1.Il (Ζ _) 0e0
def Ju{l:Expr}{tl:TE}(hl:PE X l tl):PI X tg l (Pa X.K tl):=by
 intro UJ s Z H R I h;refine thn 3e0 λv s1 ⟨x,H1,I1,r1,q1⟩=>?_;obtain⟨a,e,⟨xs,hq⟩,q⟩:=q1;subst e;cases r1;obtain⟨UN,rv,p,hz⟩:=I1.tuple hq;refine wpAny_pyIter_tuple (show s1.heap.IsTuple a UN.toArray from p) ?_;refine⟨s1.heap.objs.size,[s1.heap.objs.size],_,_,H1,rfl,I1.kept (t':=s1.toks) λb o e=>Θ _ e,DI a _,⟨_,Φ _ rfl,rfl,rfl⟩,λb hb=>?_,q⟩;have e:b=s1.heap.objs.size:=by simpa using hb
 subst e;exact I1.Il (Ζ _) 0e0
theorem Jx{R:It->Hp->Prop}{lo hi:Int}{t u v:Tok}{tk:Nat}(I:UM X UJ Z H s)(h1:-1e0<=lo)(h2:lo < 2 ^ 62)(h3:-1e0<=hi)(h4:hi < 2 ^ 62)(q:R (WZ lo (hi - lo).toNat) H):wpAny 4e0 X.A (pyIter (.ref s.heap.objs.size)) (PIE X UJ Z tg R) E {s with heap:=s.heap.push {cls:=.type "range",data:=.fields #[.int lo t,.int hi u,.int 1 v]},toks:=tk}:=by
 refine wpAny_pyIter_range (IsRange.new ..) (small_one h1 h2 h3 h4) ?_;have I1:UM X UJ Z H {s with heap:=s.heap.push {cls:=.type "range",data:=.fields #[.int lo t,.int hi u,.int 1 v]},toks:=tk}:=I.kept λb o e=>Θ _ e;refine⟨(s.heap.push {cls:=.type "range",data:=.fields #[.int lo t,.int hi u,.int 1 v]}).objs.size,[(s.heap.push {cls:=.type "range",data:=.fields #[.int lo t,.int hi u,.int 1 v]}).objs.size],_,_,H,rfl,
  I1.kept (t':=tk) λb o e=>Θ _ e,DH _ lo (hi - lo).toNat,?_,λb hb=>?_,q⟩
 ·have e1:lo+((0:Nat):Int) * 1=lo:=by simp
  have e2:(((hi - lo).toNat:Nat):Int) - ((0:Nat):Int)=Builtin.Range.rangeSize lo hi 1:=by rw[rangeSize_one];split<;>omega
  show IsRangeIter _ _ (lo+((0:Nat):Int) * 1) ((((hi - lo).toNat:Nat):Int) - ((0:Nat):Int)) 1;rw[e1,e2];exact Φ _ rfl
 ·have e:b=(s.heap.push {cls:=.type "range",data:=.fields #[.int lo t,.int hi u,.int 1 v]}).objs.size:=by simpa using hb
  subst e;exact I1.Il (Ζ _) 0e0
def Br(ta:TA):TI:=λZ H R=>ta Z H λvs H1=>∃j:Int,vs=[.int j]/\-1e0<=j/\j < 2 ^ 62/\R (WZ 0 j.toNat) H1
theorem nO{a:Expr}{ta:TA}{p:Pos}(hg:Gl X "range")(hm:X.mg "range"=none)(ha:PA X [a] ta)(hs:starEach [a] X.env=[(false,eval a X.env)]:=by rfl):PI X tg (.Call (.Name "range" p) [a] [] pos) (Br ta):=by
 intro UJ s Z H R I h;refine Call_ (C5 I hg hm boot_range (PyProof.Rows.callWith_type1 (thn (ha pos UJ s Z H _ I h) λus s1 ⟨vs,H1,I1,r1,q1⟩=>?_) hs rfl));obtain⟨j,e,q1,q2,q⟩:=q1;subst e;cases r1 with
 | cons r rr =>
  cases rr;obtain⟨t,rfl⟩:=r;exact call_range_1 (Jx I1 (by omega) (by omega) q1 q2 (by simpa using q))
def Ka(wi:TI)(g:TG)(tb:TS):TS:=λD Z H=>wi Z H λJ H1=>∃W:Nat->Nat->St->Hp->Prop,(∃m,W 0 m Z H1)/\∀i m Z H,W i m Z H ->
 (J.stop i H/\D.nx Z H)\/(J.go i H/\∃N:St->Hp->Prop,(∀Z' H',N Z' H'->∃m',m' < m/\W (i+1) m' Z' H')/\∀x H',J.Wu i H x H'->g x Z H' λσ2 H2=>tb {D with nx:=N,ct:=N,bk:=D.nx} σ2 H2)
def wJ(fp:List Addr)(h:Heap):List 5e0:=fp.filterMap λb=>(h.get? b).map λo=>(b,o)
def k7(hb:b∈fp)(e:h.get? b=some o):(b,o)∈wJ fp h:=List.mem_filterMap.mpr ⟨b,hb,by rw[e];rfl⟩
def Gj{p:Addr×Obj}(hp:p∈wJ fp h):p.1∈fp/\h.get? p.1=some p.2:=by
 obtain⟨b,hb,e⟩:=List.mem_filterMap.mp hp;cases q:h.get? b with
 | none=>rw[q] at e;cases e
 | some o =>
  rw[q] at e;have e':(b,o)=p:=ϓ e;subst e';exact⟨hb,q⟩
def UM.pinned(I:UM X UJ Z H s)(hf:∀b∈fp,lU X UJ H b)(ho:∀b∈fp,∃o,s.heap.get? b=some o/\∀v,o.data≠.cell v):UM X (UJ++wJ fp s.heap) Z H s :=
 I.qB λp hp=>(Κ.mp hp).elim (λz=>I.pin p (ϝ _ z)) λz=>by
  obtain⟨hb,e⟩:=Gj z;obtain⟨f0,f1,f2,_⟩:=hf p.1 hb;obtain⟨o,e',d⟩:=ho p.1 hb;rw[e] at e';cases e';exact⟨e,f0,f1,f2,d⟩
def UM.xP{pl:List 5e0}(I:UM X (UJ++pl) Z H s):UM X UJ Z H s:=I.qB λp hp=>I.pin p (ϝ _ (List.mem_append_left _ hp))
def AE{iter:Expr}{wi:TI}(hp:PassesOwn 4e0 X.A X.env X.xe)(hc:X.calm=true)(hi:PI X tg iter wi)(hg:PG X tg g)(hb:VW X body tb)(hs:∀x,foldedSetIterable iter X.env x=pure x:=by trivial):PS X (.For tg iter body [] pos) (Ka wi g tb):=by
 intro UJ s Z H D I h;refine wpAny_For (thn (hi UJ s Z H _ I h) λv s1 h1=>thn h1 λZD s2 h2=>?_) hs;obtain⟨it,fp,tn,J,H2,e,I2,T,Wa,f2,W,⟨m0,w0⟩,turn⟩:=h2;subst e;have Wq:∀{H':Hp},(∀b∈fp,H' b=none)->∀b∈fp,lU X UJ H' b:=λhn b hb=>⟨hn b hb,(f2 b hb).2⟩;refine codeAny_forLoop_any (λn s'=>∃i Z' H',UM X UJ Z' H' s'/\tn i s'.heap/\(∀b∈fp,H' b=none)/\W i n Z' H') ?_ m0 ⟨0,Z,H2,I2,Wa,λb hb=>(f2 b hb).1,w0⟩;rintro n s3 ⟨i,σ3,H3,I3,ZI,YR,w3⟩;rcases turn i n σ3 H3 w3 with⟨stop,qn⟩|⟨go,N,hN,step⟩
 ·refine Ε8 hp (thn (T.done X rfl rfl rfl hc i UJ s3 σ3 H3 X.xe I3 (Wq YR) ZI stop) λr s4 ⟨hr,I4⟩=>?_);subst hr;exact wpAny_execs_nil ⟨σ3,H3,I4,qn⟩
 ·refine Ε8 hp (thn (T.item X rfl rfl rfl hc i UJ s3 σ3 H3 X.xe I3 (Wq YR) ZI go) λr s4 ⟨u,hr,h4⟩=>?_);subst hr;refine Ε8 hp (thn h4 λ_ s5 ⟨x,H5,I5,r5,y5,st5,Z8⟩=>?_);have I5':=I5.pinned (Wq Z8) (T.obj _ _ st5);refine Ε8 hp (thn (hg _ s5 σ3 H5 x u _ I5' r5 (step x H5 y5)) λ_ s6 ⟨σ6,H6,I6,q6⟩=>?_);refine Ε8 hp (thn (hb _ s6 σ6 H6 _ I6 q6) λf s7 q7=>?_);have again:∀{σ7:St} {H7:Hp},UM X (UJ++wJ fp s5.heap) σ7 H7 s7->N σ7 H7->∃m,m < n/\∃i Z' H',UM X UJ Z' H' s7/\tn i s7.heap/\(∀b∈fp,H' b=none)/\W i m Z' H':=λ{σ7 H7} I7 n7=>by
   obtain⟨m',hm,w7⟩:=hN σ7 H7 n7;refine⟨m',hm,i+1,σ7,H7,I7.xP,T.keep _ _ _ st5 λb hb o e=>(I7.pin (b,o) 2e0).1,λb hb=>?_,w7⟩;obtain⟨o,e,d⟩:=T.obj _ _ st5 b hb;exact(I7.pin (b,o) 2e0).2.1
  cases f with
  | next=>obtain⟨σ7,H7,I7,n7⟩:=q7;exact again I7 n7
  | cont=>obtain⟨σ7,H7,I7,n7⟩:=q7;exact again I7 n7
  | brk=>obtain⟨σ7,H7,I7,q7⟩:=q7;exact⟨σ7,H7,I7.xP,q7⟩
  | ret v=>obtain⟨x7,σ7,H7,I7,r7,q7⟩:=q7;exact⟨x7,σ7,H7,I7.xP,r7,q7⟩
end
end
mutual
example:=[i+1,model X.prog X.w,Addr×Obj,EP X UJ Z Q]
theorem Ik(Pv:Nat->St->Hp->Prop)(h0:Pv 0 Z H)(hl:∀i Z H,i<=xs.length->Pv i Z H->fV K H a xs)(hs:∀i x Z H,xs[i]?=some x->Pv i Z H->g x Z H λσ2 H2=>tb {D with nx:=Pv 0e0,ct:=Pv 0e0,bk:=D.nx} σ2 H2)(hd:∀Z H,Pv xs.length Z H->D.nx Z H) : ∃W:Nat->Nat->St->Hp->Prop,(∃m,W 0 m Z H)/\∀i m Z H,W i m Z H -> ((WG K a).stop i H/\D.nx Z H)\/((WG K a).go i H/\∃N:St->Hp->Prop,(∀Z' H',N Z' H'->∃m',m' < m/\W 0e0 m' Z' H')/\∀x H',(WG K a).Wu i H x H'->g x Z H' λσ2 H2=>tb {D with nx:=N,ct:=N,bk:=D.nx} σ2 H2):=by
 refine⟨λi m Z H=>m=xs.length - i/\i<=xs.length/\Pv i Z H,⟨xs.length,by simp,Α1 _,h0⟩,?_⟩;rintro i m Z H ⟨rfl,hi,p⟩;have q:=hl i Z H hi p;by_cases Ve:i < xs.length
 ·refine .inr ⟨⟨xs,xs[i],q,by simp[Ve]⟩,Pv 0e0,λZ' H' p'=>⟨xs.length - 0e0,by omega,rfl,Ve,p'⟩,λx H' y=>?_⟩;obtain⟨e,y⟩:=y;subst e;exact hs i x Z _ (y xs q) p
 ·have e:i=xs.length:=by omega
  subst e;exact .inl ⟨⟨xs,q,Ζ _⟩,hd Z H p⟩
theorem qV{lo:Int}(Pv:Nat->St->Hp->Prop)(h0:Pv 0 Z H)(hs:∀i Z H,i < n->Pv i Z H->g (.int (lo+i)) Z H λσ2 H2=>tb {D with nx:=Pv 0e0,ct:=Pv 0e0,bk:=D.nx} σ2 H2)(hd:∀Z H,Pv n Z H->D.nx Z H) : ∃W:Nat->Nat->St->Hp->Prop,(∃m,W 0 m Z H)/\∀i m Z H,W i m Z H -> ((WZ lo n).stop i H/\D.nx Z H)\/((WZ lo n).go i H/\∃N:St->Hp->Prop,(∀Z' H',N Z' H'->∃m',m' < m/\W 0e0 m' Z' H')/\∀x H',(WZ lo n).Wu i H x H'->g x Z H' λσ2 H2=>tb {D with nx:=N,ct:=N,bk:=D.nx} σ2 H2):=by
 refine⟨λi m Z H=>m=n - i/\i<=n/\Pv i Z H,⟨n,by simp,Α1 _,h0⟩,?_⟩;rintro i m Z H ⟨rfl,hi,p⟩;by_cases Ve:i < n
 ·refine .inr ⟨Ve,Pv 0e0,λZ' H' p'=>⟨n - 0e0,by omega,rfl,Ve,p'⟩,λx H' y=>?_⟩;obtain⟨e,y⟩:=y;subst e y;exact hs i Z _ Ve p
 ·have e:i=n:=by omega
  subst e;exact .inl ⟨Ζ _,hd Z H p⟩
abbrev R2:=V->V->Hp->VK->Prop
variable{r:R2}
def jR(X:Cx)(f:Value->Value->Sem Value)(r:R2):Prop :=
 ∀(UJ:List 2e0) (s:Shared) (Z:St) (H:Hp) (x y:V) (v u:Value) (Q:VK),UM X UJ Z H s->bQ x v->bQ y u->r x y H Q ->
  wpAny 1e0 X.A (f v u) 3e0 X.xe s
def Th(X:Cx)(f:Value->Sem Value)(r:V->Hp->VK->Prop):Prop :=
 ∀(UJ:List 2e0) (s:Shared) (Z:St) (H:Hp) (x:V) (v:Value) (Q:VK),UM X UJ Z H s->bQ x v->r x H Q ->
  wpAny 1e0 X.A (f v) 3e0 X.xe s
def gN(X:Cx)(f:Value)(r:List V->Hp->VK->Prop):Prop :=
 ∀(UJ:List 2e0) (s:Shared) (Z:St) (H:Hp) (xs:List V) (us:List Value) (Q:VK),UM X UJ Z H s->UO xs us->r xs H Q ->
  wpAny 1e0 X.A (call f us) 3e0 X.xe s
def Tf(X:Cx)(r:V->Hp->(Bool->Hp->Prop)->Prop):Prop :=
 ∀(UJ:List 2e0) (s:Shared) (Z:St) (H:Hp) (x:V) (v:Value) (Q:Bool->Hp->Prop),UM X UJ Z H s->bQ x v->r x H Q ->
  wpAny 1e0 X.A (truthy v) (TP X UJ Z Q) X.xe s
def Mu(r:R2)(ta tb:TE):TE:=λZ H Q=>ta Z H λx H1=>tb Z H1 λy H2=>r x y H2 Q
def Uz(r:V->Hp->VK->Prop)(ta:TE):TE:=λZ H Q=>ta Z H λx H1=>r x H1 Q
def rI(C:Int->Int->Prop)(g:Int->Int->V):R2:=λx y H Q=>∃i j,x=.int i/\y=.int j/\C i j/\Q (g i j) H
def Ks(g:Int->Int->V):R2:=λx y H Q=>∃i j,x=.int i/\y=.int j/\Q (g i j) H
def rU(g:Int->V):V->Hp->VK->Prop:=λx H Q=>∃i,x=.int i/\Q (g i) H
end
section
mutual
example:=[g i j,model X.prog X.w,f (.int i t) (.int j u),intBits_le_64 h1 h2,ha UJ s Z H _ I h]
variable{a b:Expr}{ta tb tc:TE}
def Nw(ha:PE X a ta)(hb:PE X b tb){R:V->V->Hp->Prop}(I:UM X UJ Z H s)(h:ta Z H λx H1=>tb Z H1 λy H2=>R x y H2){Q:q0A}(hf:∀v u s2 x y H2,UM X UJ Z H2 s2->bQ x v->bQ y u->R x y H2->wpAny 1e0 X.A (f v u) Q X.xe s2) : wpAny 1e0 X.A (eval a X.env) (λv s₁=>wpAny 1e0 X.A (eval b X.env) (λu s₂=>wpAny 1e0 X.A (f v u) Q X.xe s₂) X.xe s₁) X.xe s:=by
 refine thn 4e0 λv s1 ⟨x,H1,I1,r1,q1⟩=>?_;refine thn (hb UJ s1 Z H1 _ I1 q1) λu s2 ⟨y,H2,I2,r2,q2⟩=>?_;exact hf v u s2 x y H2 I2 r1 r2 q2
def bE{op:Operator}(ho:jR X (binaryOp op) r)(ha:PE X a ta)(hb:PE X b tb):PE X (.BinOp a op b pos) (Mu r ta tb):=by
 intro UJ s Z H Q I h;exact wpAny_BinOp (Nw ha hb I h λv u s2 x y H2 I2 rx ry q=>ho UJ s2 Z H2 x y v u Q I2 rx ry q)
def fX{op:UnaryOp}{r:V->Hp->VK->Prop}(ho:Th X (unaryOp op) r)(ha:PE X a ta):PE X (.UnaryOp op a pos) (Uz r ta):=by
 intro UJ s Z H Q I h;exact UnaryOp_ (thn 4e0 λv s1 ⟨x,H1,I1,r1,q1⟩=>ho UJ s1 Z H1 x v Q I1 r1 q1)
def S8{C:Int->Int->Prop}{g:Int->Int->Int}(rule:∀(i j:Int) (t u:Tok) (s:Shared) (Q:q0A) (E:q0A),C i j->Q (.int 0e0 s.toks) {s with toks:=s.toks+1}->wpAny 1e0 X.A 2e0 Q E s) : jR X f (rI C λi j=>.int 0e0):=by
 intro UJ s Z H x y v u Q I rx ry h;obtain⟨i,j,rfl,rfl,hc,q⟩:=h;obtain⟨t,rfl⟩:=rx;obtain⟨t',rfl⟩:=ry;exact rule i j t t' s _ _ hc ⟨.int 0e0,H,I.tok _,⟨_,rfl⟩,q⟩
def RV{g:Int->Int->Int}(rule:∀(i j:Int) (t u:Tok) (s:Shared) (Q:q0A) (E:q0A),Q (.int 0e0 s.toks) {s with toks:=s.toks+1}->wpAny 1e0 X.A 2e0 Q E s) : jR X f (Ks λi j=>.int 0e0):=by
 intro UJ s Z H x y v u Q I rx ry h;obtain⟨i,j,rfl,rfl,q⟩:=h;obtain⟨t,rfl⟩:=rx;obtain⟨t',rfl⟩:=ry;exact rule i j t t' s _ _ ⟨.int 0e0,H,I.tok _,⟨_,rfl⟩,q⟩
def LX{g:Int->Int->Bool}(rule:∀(i j:Int) (t u:Tok) (s:Shared) (Q:q0A) (E:q0A),Q (.bool 0e0) s->wpAny 1e0 X.A 2e0 Q E s) : jR X f (Ks λi j=>.bl 0e0):=by
 intro UJ s Z H x y v u Q I rx ry h;obtain⟨i,j,rfl,rfl,q⟩:=h;obtain⟨t,rfl⟩:=rx;obtain⟨t',rfl⟩:=ry;exact rule i j t t' s _ _ ⟨.bl 0e0,H,I,rfl,q⟩
def CPow(i j:Int):Prop:=0<=j/\j<=1000000/\i.natAbs < 2 ^ 64
def CMul(i j:Int):Prop:=(-(2 ^ 64) < i/\i < 2 ^ 64)\/(-(2 ^ 64) < j/\j < 2 ^ 64)
def CMul.ok{i j:Int}(h:CMul i j):IntMulOk i j:=by
 rcases h with⟨h1,h2⟩|⟨h1,h2⟩
 ·exact .of_left 3e0
 ·exact .of_right 3e0
def PF:jR X (binaryOp .Add) (Ks λi j=>.int (i+j)):=RV λ_ _ _ _ _ _ _ q=>add_int q
def jK:jR X (binaryOp .Sub) (Ks λi j=>.int (i - j)):=RV λ_ _ _ _ _ _ _ q=>sub_int q
def mK:jR X (binaryOp .Mult) (rI CMul λi j=>.int (i * j)):=S8 λ_ _ _ _ _ _ _ hc q=>mul_int q hc.ok
theorem wF:jR X (binaryOp .Mod) (rI (λ_ j=>0 < j) λi j=>.int (i % j)):=S8 λi j _ _ _ _ _ hc q=>by
 have h1:(0:Int) < j:=hc;exact mod_int' (by omega) (by rw[Int.fmod_eq_emod_of_nonneg i (by omega)];exact q)
def iU:jR X (binaryOp .Pow) (rI CPow λi j=>.int (i ^ j.toNat)):=S8 λ_ _ _ _ _ _ _ hc q=>pow_int_small hc.1 hc.2.1 hc.2.2 q
def UH{f:Value->Sem Value}{g:Int->Int}(rule:∀(i:Int) (t:Tok) (s:Shared) (Q:q0A) (E:q0A),Q (.int (g i) s.toks) {s with toks:=s.toks+1}->wpAny 1e0 X.A (f (.int i t)) Q E s) : Th X f (rU λi=>.int (g i)):=by
 intro UJ s Z H x v Q I rx h;obtain⟨i,rfl,q⟩:=h;obtain⟨t,rfl⟩:=rx;exact rule i t s _ _ ⟨.int (g i),H,I.tok _,⟨_,rfl⟩,q⟩
def eD:Th X (unaryOp .USub) (rU λi=>.int (-i)):=UH λ_ _ _ _ _ q=>neg_int q
end
end
mutual
example:=[]
def VJ:V->V->Bool
 | .UL,.UL=>true | .UL,.int _=>true | .int _,.UL=>true | .UL,.bl _=>true | .bl _,.UL=>true | .UL,.str _=>true | .str _,.UL=>true
 | .int _,.int _=>true | .bl _,.bl _=>true | .str _,.str _=>true | .byt _,.byt _=>true
 | .int _,.str _=>true | .str _,.int _=>true | .bl _,.str _=>true | .str _,.bl _=>true
 | _,_=>false
def Kr:R2:=λx y H Q=>VJ x y=true/\Q (.bl (decide (x=y))) H
def Se:R2:=λx y H Q=>VJ x y=true/\Q (.bl (!decide (x=y))) H
theorem DW{i j:Int}:decide (V.int i=V.int j)=(i==j):=by
 rw[Bool.eq_iff_iff];simp
theorem HK{i j:Bool}:decide (V.bl i=V.bl j)=(i==j):=by
 rw[Bool.eq_iff_iff];simp
theorem DX{i j:Str}:decide (V.str i=V.str j)=(i==j):=by
 rw[Bool.eq_iff_iff];simp
theorem DV{i j:Array UInt8}:decide (V.byt i=V.byt j)=(i.toList==j.toList):=by
 rw[Bool.eq_iff_iff];cases i;cases j;simp
end
section
mutual
example:=[(cE I q (by simp)),(by omega),(by simp only[Η];omega),.Compare a [op] [b] pos,(if k then 1 else 0),(y.length:Int) !=0,(y.size:Int) !=0,compareOp op,Mu r ta tb,I.ok.hd hc,cE I q ?_]
variable{a b:Expr}{ta tb tc:TE}
def cE{Q:VK}{k k':Bool}(I:UM X UJ Z H s)(q:Q (.bl k) H)(e:k=k'):EP X UJ Z Q (.bool k') s:=by
 subst e;exact⟨.bl k,H,I,rfl,q⟩
def aY:jR X (compareOp .Eq) Kr:=by
 intro UJ s Z H x y v u Q I rx ry h;obtain⟨hs,q⟩:=h;cases x with
 | UL =>
  cases rx;cases y with
  | UL=>cases ry;exact PySem.EqNone.eq_none_none 0e0
  | bl j=>cases ry;exact PySem.EqNone.eq_none_bool 0e0
  | int j=>obtain⟨t',rfl⟩:=ry;exact PySem.EqNone.eq_none_int 0e0
  | str j=>obtain⟨t',rfl⟩:=ry;exact PySem.EqNone.eq_none_str 0e0
  | _=>exact absurd (show false=true from hs) Ω
 | bl i =>
  cases rx;cases y with
  | UL=>cases ry;exact PySem.EqNone.eq_bool_none 0e0
  | bl j=>cases ry;exact eq_bool (cE I q HK)
  | str j=>obtain⟨t',rfl⟩:=ry;exact PySem.EqMixed.eq_bool_str 0e0
  | _=>exact absurd (show false=true from hs) Ω
 | int i =>
  obtain⟨t,rfl⟩:=rx;cases y with
  | UL=>cases ry;exact PySem.EqNone.eq_int_none 0e0
  | int j=>obtain⟨t',rfl⟩:=ry;exact eq_int (cE I q DW)
  | str j=>obtain⟨t',rfl⟩:=ry;exact PySem.EqMixed.eq_int_str 0e0
  | _=>exact absurd (show false=true from hs) Ω
 | str i =>
  obtain⟨t,rfl⟩:=rx;cases y with
  | UL=>cases ry;exact PySem.EqNone.eq_str_none 0e0
  | bl j=>cases ry;exact PySem.EqMixed.eq_str_bool 0e0
  | int j=>obtain⟨t',rfl⟩:=ry;exact PySem.EqMixed.eq_str_int 0e0
  | str j=>obtain⟨t',rfl⟩:=ry;exact eq_str (cE I q DX)
  | _=>exact absurd (show false=true from hs) Ω
 | byt i =>
  obtain⟨t,rfl⟩:=rx;cases y with
  | byt j=>obtain⟨t',rfl⟩:=ry;exact PySem.W.eq_bytes (cE I q DV)
  | _=>exact absurd (show false=true from hs) Ω
 | _=>cases y<;>exact absurd (show false=true from hs) Ω
def Jk:jR X (compareOp .NotEq) Se:=by
 intro UJ s Z H x y v u Q I rx ry h;obtain⟨hs,q⟩:=h;cases x with
 | UL =>
  cases rx;cases y with
  | UL=>cases ry;exact PySem.EqNone.ne_none_none 0e0
  | bl j=>cases ry;exact PySem.EqNone.ne_none_bool 0e0
  | int j=>obtain⟨t',rfl⟩:=ry;exact PySem.EqNone.ne_none_int 0e0
  | str j=>obtain⟨t',rfl⟩:=ry;exact PySem.EqNone.ne_none_str 0e0
  | _=>exact absurd (show false=true from hs) Ω
 | bl i =>
  cases rx;cases y with
  | UL=>cases ry;exact PySem.EqNone.ne_bool_none 0e0
  | bl j=>cases ry;exact ne_bool (cE I q (congrArg not HK))
  | str j=>obtain⟨t',rfl⟩:=ry;exact PySem.EqMixed.ne_bool_str 0e0
  | _=>exact absurd (show false=true from hs) Ω
 | int i =>
  obtain⟨t,rfl⟩:=rx;cases y with
  | UL=>cases ry;exact PySem.EqNone.ne_int_none 0e0
  | int j=>obtain⟨t',rfl⟩:=ry;exact ne_int (cE I q (congrArg not DW))
  | str j=>obtain⟨t',rfl⟩:=ry;exact PySem.EqMixed.ne_int_str 0e0
  | _=>exact absurd (show false=true from hs) Ω
 | str i =>
  obtain⟨t,rfl⟩:=rx;cases y with
  | UL=>cases ry;exact PySem.EqNone.ne_str_none 0e0
  | bl j=>cases ry;exact PySem.EqMixed.ne_str_bool 0e0
  | int j=>obtain⟨t',rfl⟩:=ry;exact PySem.EqMixed.ne_str_int 0e0
  | str j=>obtain⟨t',rfl⟩:=ry;exact ne_str (cE I q (congrArg not DX))
  | _=>exact absurd (show false=true from hs) Ω
 | byt i =>
  obtain⟨t,rfl⟩:=rx;cases y with
  | byt j=>obtain⟨t',rfl⟩:=ry;exact PySem.W.ne_bytes (cE I q (congrArg not DV))
  | _=>exact absurd (show false=true from hs) Ω
 | _=>cases y<;>exact absurd (show false=true from hs) Ω
theorem jX:jR X (compareOp .Lt) (Ks λi j=>.bl (decide (i < j))):=LX λ_ _ _ _ _ _ _ q=>lt_int q
theorem RX:jR X (compareOp .LtE) (Ks λi j=>.bl (decide (i<=j))):=LX λ_ _ _ _ _ _ _ q=>le_int q
theorem Ez:jR X (compareOp .Gt) (Ks λi j=>.bl (decide (j < i))):=LX λ_ _ _ _ _ _ _ q=>gt_int q
theorem RW:jR X (compareOp .GtE) (Ks λi j=>.bl (decide (j<=i))):=LX λ_ _ _ _ _ _ _ q=>ge_int q
theorem PK:jR X (compareOp .Is) (λx y H Q=>y=.UL/\Q (.bl (decide (x=.UL))) H):=by
 intro UJ s Z H x y v u Q I rx ry h;obtain⟨rfl,q⟩:=h;cases ry;refine is_none_gen 0e1;cases x<;>first
  | (cases rx;rfl)
  | (obtain⟨t,rfl⟩:=rx;rfl)
theorem LY:jR X (compareOp .IsNot) (λx y H Q=>y=.UL/\Q (.bl (!decide (x=.UL))) H):=by
 intro UJ s Z H x y v u Q I rx ry h;obtain⟨rfl,q⟩:=h;cases ry;refine isnot_none_gen 0e1;cases x<;>first
  | (cases rx;rfl)
  | (obtain⟨t,rfl⟩:=rx;rfl)
def jR.or{r':R2}(h:jR X f r)(h':jR X f r'):jR X f (λx y H Q=>r x y H Q\/r' x y H Q):=by
 intro UJ s Z H x y v u Q I rx ry q;rcases q with q|q
 ·exact h UJ s Z H x y v u Q I rx ry q
 ·exact h' UJ s Z H x y v u Q I rx ry q
theorem nomark(b:Expr)(h:op≠.In:=by decide)(h2:op≠.NotIn:=by decide):behindInMarks op b=false:=by
 have e1:(op==CmpOp.In)=false:=by cases op<;>first|rfl|exact absurd rfl h
 have e2:(op==CmpOp.NotIn)=false:=by cases op<;>first|rfl|exact absurd rfl h2
 cases b<;>first|rfl|(show(_&&(op==CmpOp.In||op==CmpOp.NotIn)&&_)=false;rw[e1,e2,Bool.or_self,Bool.and_false,Ζ0])
def L0(ho:jR X 7e0 r)(ha:PE X a ta)(hb:PE X b tb)(hm:behindInMarks op b=false):PE X 3e0 8e0:=by
 intro UJ s Z H Q I h;exact wpAny_Compare1 (Nw ha hb I h λv u s2 x y H2 I2 rx ry q=>ho UJ s2 Z H2 x y v u Q I2 rx ry q) hm
def CA(t:TE):TT:=λZ H Q=>t Z H λx H'=>∃k,x=.bl k/\Q k H'
def dQ(ho:jR X 7e0 r)(ha:PE X a ta)(hb:PE X b tb)(hm:behindInMarks op b=false):PT X 3e0 (CA 8e0):=by
 intro UJ s Z H Q I h;refine wpAny_isTrue_Compare1 (thn (ha UJ s Z H _ I h) λv s1 ⟨x,H1,I1,r1,q1⟩=>thn (hb UJ s1 Z H1 _ I1 q1) λu s2 ⟨y,H2,I2,r2,q2⟩ =>
  thn (ho UJ s2 Z H2 x y v u _ I2 r1 r2 q2) λc s3 ⟨z,H3,I3,r3,k,e,q3⟩=>?_) hm
 subst e;cases r3;exact Ε1 ⟨H3,I3,q3⟩
def Qn(K:q0B)(x:V)(H:Hp)(k:Bool):Prop :=
 match x with
 | .UL=>k=false
 | .bl b=>k=b
 | .int i=>k=(i !=0)
 | .str y=>y.length<=sizeLine/\k=5e0
 | .byt y=>y.size<=sizeLine/\k=6e0
 | .ref p=>(∃xs,fV K H p xs/\k = !xs.isEmpty)\/(∃xs,iR K H p xs/\k = !xs.isEmpty)\/∃kvs,H p=some (.dK kvs)/\k = !kvs.isEmpty
 | _=>False
def C3{κ:Type}{kvs:List (κ×V)}{vs:List (κ×Value)}(r:KV kvs vs):(!vs.isEmpty) = !kvs.isEmpty:=by
 cases r<;>rfl
def vB{UN:List Value}(r:UO xs UN):(!UN.toArray.isEmpty) = !xs.isEmpty:=by
 cases r<;>simp
theorem line63:(sizeLine:Nat) < 2 ^ 63:=by rw[Γ2];decide
theorem DF:Tf X (λx H Q=>∃k,Qn X.K x H k/\Q k H):=by
 intro UJ s Z H x v Q I rx h;obtain⟨k,e,q⟩:=h;have hl:=line63;have hs:sizeLine=16777216:=Γ2;cases x with
 | UL =>
  cases rx;have e':k=false:=e;subst e';exact truthy_none ⟨H,I,q⟩
 | bl b =>
  cases rx;have e':k=b:=e;subst e';exact Ε1 ⟨H,I,q⟩
 | int i =>
  obtain⟨t,rfl⟩:=rx;have e':k=(i !=0):=e;subst e';exact PySem.P.truthy_int ⟨H,I,q⟩
 | str y =>
  obtain⟨t,rfl⟩:=rx;obtain⟨hy,e'⟩:y.length<=sizeLine/\k=5e0:=e;subst e';exact PySem.P.truthy_str 1e0 ⟨H,I.tok _,q⟩
 | byt y =>
  obtain⟨t,rfl⟩:=rx;obtain⟨hy,e'⟩:y.size<=sizeLine/\k=6e0:=e;subst e';exact PySem.W.truthy_bytes 1e0 ⟨H,I.tok _,q⟩
 | ref p =>
  cases rx;have e':(∃xs,fV X.K H p xs/\k = !xs.isEmpty)\/(∃xs,iR X.K H p xs/\k = !xs.isEmpty)\/∃kvs,H p=some (.dK kvs)/\k = !kvs.isEmpty:=e;rcases e' with⟨xs,hx,e'⟩|⟨xs,hx,e'⟩|⟨kvs,hx,e'⟩
  ·subst e';obtain⟨UN,r,pl,hz⟩:=I.list hx;have hlen:=r.length;exact wpAny_truthy_list pl.isList 2e0 ⟨H,I.tok _,by rw[vB r];exact q⟩
  ·subst e';obtain⟨UN,r,pl,hz⟩:=I.tuple hx;have hlen:=r.length;exact truthy_tuple pl 2e0 ⟨H,I.tok _,by rw[vB r];exact q⟩
  ·subst e';obtain⟨hz,hS,vs,r,m⟩:kvs.length<=sizeLine/\(p==sysModules)=false/\∃vs,KV kvs vs/\s.heap.DictOf (bI X.prog X.w) p vs:=I.UQ p _ hx;have hlen:kvs.length=vs.length:=Paired.length r;exact wpAny_truthy_dict hS m 1e0 ⟨H,I.tok _,by rw[C3 r];exact q⟩
 | _=>exact(show False from e).elim
def Dp:jR X (binaryOp .Add) (λx y H Q=>∃i j,x=.str i/\y=.str j/\i.length+j.length<=sizeLine/\Q (.str (i++j)) H):=by
 intro UJ s Z H x y v u Q I rx ry h;obtain⟨i,j,rfl,rfl,hz,q⟩:=h;obtain⟨t,rfl⟩:=rx;obtain⟨t',rfl⟩:=ry;exact add_str (λt' tk=>⟨.str (i++j),H,I.tok _,⟨_,rfl⟩,q⟩) hz
def vals1{x:V}(r:UO [x] us):∃u,us=[u]/\bQ x u:=by
 cases r with
 | cons r1 r2=>cases r2;exact⟨_,rfl,r1⟩
def vals2{x y:V}(r:UO [x,y] us):∃u w',us=[u,w']/\bQ x u/\bQ y w':=by
 cases r with
 | cons r1 r2 =>
  cases r2 with
  | cons r3 r4=>cases r4;exact⟨_,_,rfl,r1,r3⟩
def Fp(hc:X.calm=true):gN X (.builtin "max") (λxs H Q=>∃i j,xs=[.int i,.int j]/\Q (.int (if j > i then j else i)) H):=by
 intro UJ s Z H xs us Q I r h;obtain⟨i,j,rfl,q⟩:=h;obtain⟨u,w',rfl,⟨t,rfl⟩,⟨t',rfl⟩⟩:=vals2 r;refine max_two_ints 9e0 λh' tk k=>⟨_,H,I.kept k,?_,q⟩;by_cases hj:j > i
 ·rw[if_pos hj,if_pos hj];exact⟨_,rfl⟩
 ·rw[if_neg hj,if_neg hj];exact⟨_,rfl⟩
def Fq(hc:X.calm=true):gN X (.builtin "min") (λxs H Q=>∃i j,xs=[.int i,.int j]/\Q (.int (if j < i then j else i)) H):=by
 intro UJ s Z H xs us Q I r h;obtain⟨i,j,rfl,q⟩:=h;obtain⟨u,w',rfl,⟨t,rfl⟩,⟨t',rfl⟩⟩:=vals2 r;refine min_two_ints 9e0 λh' tk k=>⟨_,H,I.kept k,?_,q⟩;by_cases hj:j < i
 ·rw[if_pos hj,if_pos hj];exact⟨_,rfl⟩
 ·rw[if_neg hj,if_neg hj];exact⟨_,rfl⟩
def Fo:gN X (.type "int") (λxs H Q=>(∃i,xs=[.int i]/\Q (.int i) H)\/∃k,xs=[.bl k]/\Q (.int 4e0) H):=by
 intro UJ s Z H xs us Q I r h;rcases h with⟨i,rfl,q⟩|⟨k,rfl,q⟩
 ·obtain⟨u,rfl,t,rfl⟩:=vals1 r;exact call_int_int ⟨.int i,H,I,⟨_,rfl⟩,q⟩
 ·obtain⟨u,rfl,r1⟩:=vals1 r;cases r1;exact call_int_bool ⟨.int 4e0,H,I.tok _,⟨_,rfl⟩,q⟩
def Td(K:q0B)(x:V)(H:Hp)(n:Nat):Prop :=
 match x with
 | .str y=>y.length<=sizeLine/\n=y.length
 | .byt y=>y.size<=sizeLine/\n=y.size
 | .ref p=>(∃xs,fV K H p xs/\n=xs.length)\/∃xs,iR K H p xs/\n=xs.length
 | _=>False
theorem uC:gN X (.builtin "len") (λxs H Q=>∃x n,xs=[x]/\Td X.K x H n/\Q (.int n) H):=by
 intro UJ s Z H xs us Q I r h;obtain⟨x,n,rfl,e,q⟩:=h;obtain⟨u,rfl,rx⟩:=vals1 r;have hl:=line63;have hs:sizeLine=16777216:=Γ2;cases x with
 | str y =>
  obtain⟨t,rfl⟩:=rx;obtain⟨hy,e'⟩:y.length<=sizeLine/\n=y.length:=e;subst e';exact len_str 1e0 ⟨.int _,H,I.tok _,⟨_,rfl⟩,q⟩
 | byt y =>
  obtain⟨t,rfl⟩:=rx;obtain⟨hy,e'⟩:y.size<=sizeLine/\n=y.size:=e;subst e';exact PySem.W.len_bytes 1e0 ⟨.int _,H,I.tok _,⟨_,rfl⟩,q⟩
 | ref p =>
  cases rx;have e':(∃xs,fV X.K H p xs/\n=xs.length)\/∃xs,iR X.K H p xs/\n=xs.length:=e;rcases e' with⟨xs,hx,e'⟩|⟨xs,hx,e'⟩
  ·subst e';obtain⟨UN,r',pl,hz⟩:=I.list hx;have hlen:=r'.length;exact Calls.call_len_list pl.isList 2e0 ⟨.int xs.length,H,I.tok _,⟨_,by simp only[Η];rw[hlen]⟩,q⟩
  ·subst e';obtain⟨UN,r',pl,hz⟩:=I.tuple hx;have hlen:=r'.length;exact len_tuple pl 2e0 ⟨.int xs.length,H,I.tok _,⟨_,by simp only[Η];rw[hlen]⟩,q⟩
 | _=>exact(show False from e).elim
end
end
structure CI(h:Heap)(x dx C:Addr)(mA:q0C):Prop where
 obj:h.get? x=some (PySem.W.instObj C dx)
 ns:h.Ns1 dx mA
 ne:dx≠x
def Ga{dx:Addr}{mA:q0C}(n:h.Ns1 dx mA):∃od,h.get? dx=some od/\∀name,PySem.W.lookIn name od=some (mA name):=by
 obtain⟨o,es,ep,ho,hd,hk,_,hm⟩:=n;refine⟨o,ho,λname=>?_⟩;have e:=hm name;unfold nsFind findBy at e;rw[<- Array.find?_toList] at e;unfold PySem.W.lookIn;rw[hd];dsimp only;split
 ·rename_i y q
  rw[q] at e;exact congrArg some e
 ·rename_i q
  rw[q] at e;have a:es.toList.any (·.refKey)=false:=by
   rw[List.any_eq_false];intro y hy;obtain⟨z,t,WN⟩:=hk y (Array.mem_toList_iff.mp hy);simp[DictEntry.refKey,WN]
  have a':¬ es.toList.any (·.refKey)=true:=by rw[a];exact Ω
  rw[if_neg a'];exact congrArg some e
def CI.look{x dx:Addr}{mA:q0C}(I:CI h x dx C mA):∃od,PySem.W.InstAt h x (PySem.W.instObj C dx) C (some od)/\∀name,PySem.W.lookIn name od=some (mA name) :=
 let ⟨od,ho,hl⟩:=Ga I.ns
 ⟨od,⟨I.obj,rfl,rfl,ho⟩,hl⟩
section
mutual
example:=[model prog w,.ref f,.ref C,.ref x,s.heap.objs.size+1]
variable{prog:Program}{x dx f:Addr}{mA:q0C}{name:Str}{v:Value}
def LG{expr:Bool}{Q:q0A}(X:K.In s.heap)(I:CI s.heap x dx C mA)(hg:PySem.W.plainGet K C name=true)(hh:PySem.W.hasDictIn K C=true)(ha:PySem.W.findIn K 2e0 name=some none)(hv:mA name=some v)(Yv:PySem.W.handedIn v=true)(h:Q v {s with toks:=s.toks+1}) : wpAny 0e0 A (getAttr 3e0 name expr) Q E s:=by
 obtain⟨od,J,hl⟩:=I.look;exact PySem.W.get_value X J (PySem.W.plainGet_of hg).1 (PySem.W.findObj_own hh ha rfl (by rw[hl,hv])) Yv h
def Ir{Q:Value×List Value->Shared->Prop}(X:K.In s.heap)(I:CI s.heap x dx C mA)(hg:PySem.W.plainGet K C name=true)(hf:PySem.W.findIn K 2e0 name=some (some 1e0))(ht:PySem.W.isFn K 1e0=true)(hv:mA name=none)(h:Q (.ref f,[.ref x]) s) : wpAny 0e0 A (getMethod 3e0 name pl) Q E s:=by
 obtain⟨od,J,hl⟩:=I.look;exact PySem.W.method_fn X J (PySem.W.plainGet_of hg).1 (PySem.W.plainGet_of hg).2 hf (beq_iff_eq.mp ht) (by show(PySem.W.lookIn name od).map (·.isSome)=some false;rw[hl,hv];rfl) h
theorem Ml{ns:List Str}(X:K.In s.heap)(I:CI s.heap x dx C mA)(hs:PySem.W.findIn K 2e0 "__setattr__"=some (some (.builtin "object.__setattr__")))(hp:PySem.W.plainOver K C=true)(ht:PySem.W.takerIn K C name=some none)(hh:PySem.W.hasDictIn K C=true)(hw:PySem.Within mA ns)(hsz:ns.length<=sizeLine)(h:∀h',CI h' x dx C (λy=>if y=name then some v else mA y)->Heap.SameBut dx s.heap h'->Q () {s with heap:=h',toks:=s.toks+2}) : wpAny 0e0 A (setAttr 3e0 name v) Q E s:=by
 obtain⟨od,J,hl⟩:=I.look;refine PySem.W.set_plain X J hs (PySem.W.osa_open (s:={s with toks:=s.toks+1}) (r:=none) X J hp ht λb=>?_);obtain⟨cd,hc,hd'⟩:=PySem.W.any_some hh;have hx:s.heap.get? x=some ⟨.ref C,some dx,.plain,#[]⟩:=I.obj;refine Β (Ι (Β (Β (wpAny_loadPart hx (Β (PySem.W.Looks.here (s:={s with toks:=s.toks+1}) (PySem.W.looks_clsIn X hc) ?_))))));rw[hd'];refine Ι (a:=some dx) (Β (Ι (Β ?_)));refine wpAny_nsSet1 (s:={s with toks:=s.toks+1}) I.ns λh' Yr hs2=>?_;obtain⟨oD,esD,epD,hoD,hdD,hcD⟩:=Yr.count (PySem.Within.cons name v hw);refine Β (wpAny_lookBehind hoD (by rw[hdD];exact pastItsLine_dict (Λ hcD (by rw[Ε];omega))) ?_);exact Ι (h _ ⟨(hs2.2 _ (Ne.symm I.ne)).trans I.obj,Yr,I.ne⟩ hs2)
def IP{R:Result->Shared->Prop}{vs:List Value}(X:K.In s.heap)(hm:PySem.W.makesIn K C=true)(hi:PySem.W.findIn K 2e0 "__init__"=some (some 1e0))(hf:PySem.W.typeIn K 1e0=some (.type "function"))(h:codeAny 0e0 (A.under (.builtin "type.__call__" ⟨.ref C::vs,kw⟩)) (.call 1e0 ⟨.ref 4e0::vs,kw⟩) (PySem.W.InitBack 4e0 R) {s with heap:=(s.heap.push PySem.W.emptyDict).push (PySem.W.instObj C s.heap.objs.size)}) : codeAny 0e0 A (.call 2e0 ⟨vs,kw⟩) R s:=by
 obtain⟨hh,g,d,t,os⟩:=s;exact PySem.W.make_core (PySem.W.makes_of X hm) (PySem.W.looks_findIn X hi) (λself=>PySem.W.bind_fn X self hf) (.inl rfl) h
end
end
mutual
example:=[Str×V,(if k=f then (k,v)::r else (k,x)::jB f v r),((k,x)::r)]
def jB(f:Str)(v:V):List 0e0->List 0e0
 | []=>[(f,v)]
 | (g,x)::r=>if g=f then (g,v)::r else (g,x)::jB f v r
theorem sH(f g:Str)(v:V):∀fs:List 0e0,(jB f v fs).lookup g=if g=f then some v else fs.lookup g
 | []=>by
  show List.lookup g [(f,v)]=_;by_cases h:g=f
  ·have hb:(g==f)=true:=beq_iff_eq.mpr h;simp only[List.lookup,hb,if_pos h]
  ·have hb:(g==f)=false:=Β2.mpr h;simp only[List.lookup,hb,if_neg h]
 | (k,x)::r=>by
  have ih:=sH f g v r;rw[show jB f v 2e0=1e0 from rfl];by_cases hk:k=f
  ·rw[if_pos hk];by_cases h:g=k
   ·have hb:(g==k)=true:=beq_iff_eq.mpr h;simp only[List.lookup,hb,if_pos (h.trans hk)]
   ·have hb:(g==k)=false:=Β2.mpr h;simp only[List.lookup,hb,if_neg (λe:g=f=>h (e.trans hk.symm))]
  ·rw[if_neg hk];by_cases h:g=k
   ·have hb:(g==k)=true:=beq_iff_eq.mpr h;simp only[List.lookup,hb,if_neg (λe:g=f=>hk (h.symm.trans e))]
   ·have hb:(g==k)=false:=Β2.mpr h;simp only[List.lookup,hb];exact ih
theorem q9(f:Str)(v:V):∀fs:List 0e0,f∈(jB f v fs).map (·.1)/\∀g,g∈fs.map (·.1)->g∈(jB f v fs).map (·.1)
 | []=>⟨by simp[jB],λg h=>by simp at h⟩
 | (k,x)::r=>by
  obtain⟨i1,i2⟩:=q9 f v r;rw[show jB f v 2e0=1e0 from rfl];by_cases hk:k=f
  ·rw[if_pos hk];subst hk;exact⟨by simp,λg h=>by simpa using h⟩
  ·rw[if_neg hk];refine⟨?_,λg h=>?_⟩
   ·rw[ϑ];exact Ρ _ i1
   ·rw[ϑ] at h ⊢;rcases Α.mp h with e|e
    ·exact Α.mpr (.inl e)
    ·exact Ρ _ (i2 g e)
theorem sF(f:Str)(v:V):∀fs:List 0e0,(jB f v fs).length<=fs.length+1
 | []=>by simp[jB]
 | (k,x)::r=>by
  have ih:=sF f v r;rw[show jB f v 2e0=1e0 from rfl];by_cases hk:k=f
  ·rw[if_pos hk,Ε,Ε];omega
  ·rw[if_neg hk,Ε,Ε];omega
def kP.some_of{o:Option Value}(r:kP (some v) o):∃u,o=some u/\bQ v u:=by
 cases o with
 | none=>exact(show False from r).elim
 | some u=>exact⟨u,rfl,r⟩
def kP.none_of{o:Option Value}(r:kP none o):o=none:=by
 cases o with
 | none=>rfl
 | some u=>exact(show False from r).elim
def FJ(r:bQ v u):PySem.W.handedIn u=true:=by
 cases v with
 | UL=>cases (show u=Value.none from r);rfl
 | bl b=>cases (show u=Value.bool b from r);rfl
 | int i=>obtain⟨t,e⟩:=(show ∃t,u=Value.int i t from r);cases e;rfl
 | str x=>obtain⟨t,e⟩:=(show ∃t,u=Value.str x t from r);cases e;rfl
 | byt b=>obtain⟨t,e⟩:=(show ∃t,u=Value.bytes b t from r);cases e;rfl
 | flt b=>obtain⟨t,e⟩:=(show ∃t,u=Value.float b t from r);cases e;rfl
 | ref a=>cases (show u=Value.ref a from r);rfl
 | ty n=>cases (show u=Value.type n from r);rfl
end
section
variable{H':Hp}{h':Heap}{dx:Addr}{fs Yk:List (Str×V)}
def Aj(UQ:HOk P w H h)(e:H a=some (.ins C dx fs)):∃mA,CI h a dx C mA/\(∀f,kP (fs.lookup f) (mA f))/\PySem.Within mA (fs.map (·.1))/\fs.length<=1000/\H dx=some (.own a):=by
 obtain⟨d,z,ne,ob,mA,n,r,q⟩:=(show eE P w H h a (.ins C dx fs) from UQ a _ e);exact⟨mA,⟨ob,n,ne⟩,r,q,z,d⟩
end
mutual
example:=[.ref C,.ref f]
structure Cls(K:q0B)(C:Addr):Prop where
 pg:PySem.W.plainGet K C Str.empty=true
 hd:PySem.W.hasDictIn K C=true
 po:PySem.W.plainOver K C=true
 sa:PySem.W.findIn K 0e0 "__setattr__"=some (some (.builtin "object.__setattr__"))
def Cls.get(c:Cls K C)(f:Str):PySem.W.plainGet K C f=true:=c.pg
def eZ(K:q0B)(C:Addr)(f:Str):Prop:=PySem.W.findIn K 0e0 f=some none
def eZ.Sy{f:Str}(n:eZ K C f):PySem.W.takerIn K C f=some none:=by
 unfold PySem.W.takerIn;rw[show PySem.W.findIn K 0e0 f=some none from n];rfl
structure Meth(K:q0B)(C:Addr)(m:Str)(f:Addr):Prop where
 at_:PySem.W.findIn K 0e0 m=some (some 1e0)
 fn:PySem.W.isFn K 1e0=true
 kp:PySem.W.keepIn K 1e0=true
end
section
mutual
example:=[s.heap.objs.size+1,PySem.W.instObj C s.heap.objs.size,model X.prog X.w,model prog w,.ins C dx fs,.ref a,(if g=f then some u else mA g),(λb u q=>Θ _ q),eval e env]
variable{dx:Addr}{fs:List (Str×V)}{f:Str}
def uX{b:Bool}{Q:q0A}(I:UM X UJ Z H s)(e:H a=some 4e0)(c:Cls X.K C)(n:eZ X.K C f)(l:fs.lookup f=some v)(h:∀u s',UM X UJ Z H s'->bQ v u->Q u s'):wpAny 2e0 A (getAttr 5e0 f b) Q E s:=by
 obtain⟨mA,O,r,_,_,_⟩:=Aj I.UQ e;obtain⟨u,hu,ru⟩:=kP.some_of (v:=v) (o:=mA f) (by rw[<- l];exact r f);exact LG I.kIn O (c.get f) c.hd n hu (FJ ru) (h u _ (I.tok _) ru)
def uY{m:Str}{g:Addr}{Q:Value×List Value->Shared->Prop}(I:UM X UJ Z H s)(e:H a=some 4e0)(c:Cls X.K C)(k:Meth X.K C m g)(l:fs.lookup m=none)(h:Q (.ref g,[.ref a]) s):wpAny 2e0 A (getMethod 5e0 m pl) Q E s:=by
 obtain⟨mA,O,r,_,_,_⟩:=Aj I.UQ e;have hn:mA m=none:=kP.none_of (by rw[<- l];exact r m);exact Ir I.kIn O (c.get m) k.at_ k.fn hn h
theorem xA{y:V}(I:UM X UJ Z H s)(e:H a=some 4e0)(c:Cls X.K C)(n:eZ X.K C f)(hl:fs.length < 1000)(ry:bQ y u)(h:∀s',UM X UJ Z (UK H a (.ins C dx (jB f y fs))) s'->Q () s'):wpAny 2e0 A (setAttr 5e0 f u) Q E s:=by
 obtain⟨mA,O,r,wi,_,ho⟩:=Aj I.UQ e;have hz:(fs.map (·.1)).length<=sizeLine:=by rw[Γ,Γ2];omega
 refine Ml I.kIn O c.sa c.po n.Sy c.hd wi hz λh' O' sb=>h _ ?_;have hd:∃o,h'.get? dx=some o:=let ⟨o,_,_,e',_⟩:=O'.ns;⟨o,e'⟩;refine I.write (x:=a) (e:=dx) (by rw[e];exact True.intro) (.inr ho) (λb q hb z=>(sb.2 b hb).trans z) hd ?_;refine⟨by rw[aC O.ne];exact ho,?_,O.ne,O'.obj,_,O'.ns,λg=>?_,λg hg=>?_⟩
 ·have:=sF f y fs;omega
 ·show kP ((jB f y fs).lookup g) 6e0;rw[sH];by_cases q:g=f
  ·rw[if_pos q,if_pos q];exact ry
  ·rw[if_neg q,if_neg q];exact r g
 ·by_cases q:g=f
  ·rw[q];exact(q9 f y fs).1
  ·refine(q9 f y fs).2 g (wi g λz=>hg ?_);show 6e0=none;rw[if_neg q];exact z
def UM.made(I:UM X UJ Z H s):UM X UJ Z (UK (UK H s.heap.objs.size (.own 0e0)) 0e0 (.ins C s.heap.objs.size [])) {s with heap:=(s.heap.push PySem.W.emptyDict).push 1e0}:=by
 have e1:(s.heap.push PySem.W.emptyDict).get? s.heap.objs.size=some PySem.W.emptyDict:=Φ s.heap rfl;have e2:((s.heap.push PySem.W.emptyDict).push 1e0).get? 0e0=some 1e0:=by
  have:=Φ (s.heap.push PySem.W.emptyDict) (o:=PySem.W.instObj C s.heap.objs.size) rfl
  rwa [Heap.size_push] at this
 have e3:(s.heap.push PySem.W.emptyDict).Ns s.heap.objs.size (λ_=>none):=⟨PySem.W.emptyDict,#[],_,e1,rfl,(λe he=>absurd he (by simp)),λ_=>rfl⟩;have I1:=I.laid (a:=s.heap.objs.size) (o:=.own 0e0) (h':=s.heap.push PySem.W.emptyDict) (t':=s.toks) 7e0 (Ζ _) ⟨_,e1⟩;refine I1.laid (a:=s.heap.objs.size+1) (o:=.ins C s.heap.objs.size []) (t':=s.toks) 7e0 (Nat.le_of_eq (Heap.size_push _ _)) ?_;have ne:s.heap.objs.size≠s.heap.objs.size+1:=Τ (Nat.lt_succ_self _);refine⟨by rw[aC ne,aA],Α1 _,ne,e2,λ_=>none,(Heap.Ns1.of_empty e3).at λo q=>Θ _ q,λ_=>True.intro,λy hy=>absurd rfl hy⟩
def Kz{prog:Program}{env:Env}{Q:q0A}(hb:attributeBase e f env 8e0=eval e env)(h:wpAny 3e0 A 8e0 (λo s₁=>wpAny 3e0 A (getAttr o f true) Q E s₁) E s):wpAny 3e0 A (eval (.Attribute e f pos) env) Q E s :=
 Attribute_any_ h (by rw[arm_eval_Attribute,hb])
end
end
noncomputable def Tc(X:Cx)(op:Operator)(rd:V->V->Hp->VK->Prop):Prop :=
 ∀(UJ:List (Addr×Obj)) (s:Shared) (Z:St) (H:Hp) (x y:V) (u v:Value) (Q:VK),UM X UJ Z H s->bQ x u->bQ y v->rd x y H Q->wpAny (model X.prog X.w) X.A (inplaceOp op u v) (EP X UJ Z Q) X.xe s
section
variable{o value:Expr}{f:Str}{pos' XF:Pos}{ta tv:TE}
def Uj:V->V->Hp->VK->Prop:=λx y H Q=>∃i j,x=.int i/\y=.int j/\Q (.int (i+j)) H
def Pb:Tc X .Add Uj:=by
 rintro UJ s Z H x y u v Q I rx ry ⟨i,j,rfl,rfl,q⟩;obtain⟨t,rfl⟩:=(show ∃t,u=Value.int i t from rx);obtain⟨t',rfl⟩:=(show ∃t',v=Value.int j t' from ry);exact PyProof.Rows.iadd_int ⟨.int (i+j),H,I.tok _,⟨_,rfl⟩,q⟩
end
section
variable{Q:q0A}{c:Value}{b:Bool}
end
mutual
example:=[(.builtin "type.__call__" ⟨.ref C::us,kw⟩)]
structure Room(k:Nat)(A:Around):Prop where
 hd:A.handled=none
 dp:A.depth+3 * k+5 < recursionLimit
 un:A.units+16 * k+200 < cLine
 gd:A.guards=some []
theorem Room.mono{j:Nat}(r:Room k A)(h:j<=k):Room j A:=⟨r.hd,by have:=r.dp;omega,by have:=r.un;omega,r.gd⟩
theorem Room.deeper(r:Room (k+1) A)(env:Env):Room k (A.deeper env) :=
 ⟨r.hd,by have:=r.dp;show A.depth+1+3 * k+5 < _;omega,by have:=r.un;show A.units+3+16 * k+200 < _;omega,r.gd⟩
def C7:(A.under 0e0).depth=A.depth+1:=by
 first|rfl|simp[Around.under,Code.weight,Code.isCreation,Code.isGuard,Code.isCaller,Code.frames,Code.isFrame,guardIds]
def C8:(A.under 0e0).units=A.units+1:=by
 first|rfl|simp[Around.under,Code.cUnits,Code.frames,Code.isFrame]
theorem Room.make(r:Room (k+1) A)(C:Addr)(us:List Value)(kw:List (Str×Value)):Room k (A.under 0e0) :=
 ⟨r.hd,by have:=r.dp;rw[C7];omega,by have:=r.un;rw[C8];omega,by first|exact r.gd|(simp only[Around.under];exact r.gd)|(have:=r.gd;simp[Around.under,Code.guards,Code.isGuard,guardIds,this])⟩
theorem Room.depth(r:Room k A):A.depth < recursionLimit:=by have:=r.dp;omega
theorem Room.units(r:Room k A):A.units+64 < cLine:=by have:=r.un;omega
def xN:TA:=λ_ H Q=>Q [] H
def mV(ta:TE)(tr:TA):TA:=λZ H Q=>ta Z H λx H1=>tr Z H1 λxs H2=>Q (x::xs) H2
end
section
mutual
example:=[(thn (h pos UJ s Z H _ I hq) λus s1 ⟨xs,H1,I1,r,z,q⟩=>⟨by rw[<- r.length];exact z,?_⟩),(λb u e=>Θ _ e)]
variable{t:TA}
def bO:PA X [] xN:=λ_ _ _ _ H Q I h=>Calls.spliced_nil ⟨[],H,I,.nil,h⟩
def EA(ha:PE X e te)(hr:PA X es t)(hs:starEach (e::es) X.env=(false,eval e X.env)::starEach es X.env:=by rfl):PA X (e::es) (mV te t):=by
 intro pos UJ s Z H Q I h;rw[hs];show wpAny _ _ (spliced ((false,eval e X.env)::backTo pos (starEach es X.env))) _ _ s;refine Δ4 (thn (ha UJ s Z H _ I h) λu s1 ⟨x,H1,I1,r1,q1⟩=>?_);exact thn (hr pos UJ s1 Z H1 _ I1 q1) λus s2 ⟨xs,H2,I2,r2,q2⟩=>⟨x::xs,H2,I2,.cons r1 r2,q2⟩
def Sx(t:TA):TE:=λZ H Q=>t Z H λxs H1=>xs.length<=sizeLine/\∀p,H1 p=none->Q (.ref p) (UK H1 p (.tup xs))
def Sr(t:TA):TE:=λZ H Q=>t Z H λxs H1=>xs.length<=sizeLine/\∀p,H1 p=none->Q (.ref p) (UK H1 p (.lst xs))
def aX{x1}(h:PA X es t):PE X (.Tuple es x1 pos) (Sx t):=by
 intro UJ s Z H Q I hq;refine wpAny_Tuple_spliced 0e0;have hf:H1 s1.heap.objs.size=none:=I1.UQ.fresh (Ζ _);refine⟨.ref s1.heap.objs.size,UK H1 s1.heap.objs.size (.tup xs),I1.laid (t':=s1.toks) 1e0 (Ζ _) ?_,rfl,q _ hf⟩;exact⟨z,us,r,⟨_,Φ _ rfl,rfl,_,rfl⟩⟩
def aT(h:PA X es t):PE X (.List es pos) (Sr t):=by
 intro UJ s Z H Q I hq;refine wpAny_List_spliced 0e0;have hf:H1 s1.heap.objs.size=none:=I1.UQ.fresh (Ζ _);refine⟨.ref s1.heap.objs.size,UK H1 s1.heap.objs.size (.lst xs),I1.laid (t':=s1.toks) 1e0 (Ζ _) ?_,rfl,q _ hf⟩;exact⟨z,us,0,r,Φ _ rfl⟩
end
end
mutual
example:=[]
abbrev Sp:=List V->Hp->VK->XK->Prop
abbrev CXT:=List Env->Hp->Shared->XK->Value->Shared->Prop
variable{CX:CXT}
structure Env0(P:Program)(w:World)(K:q0B)(mg:q0C)(base:Heap)(A:Around)(outer:List Env)(s:Shared)(H:Hp):Prop where
 frames:A.frames=some outer
 mod:Mod K mg base
 bs:∀b o,base.get? b=some o->s.heap.get? b=some o/\H b=none
 bsz:base.objs.size<=s.heap.objs.size
 pF:s.heap.FunFrames base outer
 frf:∀b∈frs outer,H b=none
 UQ:HOk P w H s.heap
 bare:AllBare s.gens
def CE(outer:List Env)(P:Program)(w:World)(H:Hp)(s:Shared)(Q:VK)(u:Value)(s':Shared):Prop :=
 ∃v H',s'.os=s.os/\AllBare s'.gens/\Un (frs outer) [] H H' s.heap s'.heap/\HOk P w H' s'.heap/\bQ v u/\Q v H'
def CR(CX:CXT)(outer:List Env)(P:Program)(w:World)(H:Hp)(s:Shared)(Q:VK)(E:XK)(r:Result)(s':Shared):Prop :=
 match r with
 | .ok (.ret u)=>CE outer P w H s Q u s'
 | .ok _=>False
 | .error e=>CX outer H s E e s'
structure gH(P:Program)(w:World)(K:q0B)(mg:q0C)(base:Heap)(CX:CXT)(k:Nat)(f:Addr)(fd:FuncData)(ps:List Str)(sp:Sp):Prop where
 len:∀vs H Q E,sp vs H Q E->vs.length=ps.length
 run:∀(A:Around) (outer:List Env) (s:Shared) (H:Hp) (args:Args) (us:List Value) (vs:List V) (Q:VK) (E:XK),Room k A->Env0 P w K mg base A outer s H->BindsTo s fd args (ps.zip us)->UO vs us->sp vs H Q E ->
  codeAny (model P w) A (.call (.ref f) args) (CR CX outer P w H s Q E) s
def gH.mono{j:Nat}{f:Addr}{sp:Sp}(F:gH P w K mg base CX j f fd ps sp)(h:j<=k) : gH P w K mg base CX k f fd ps sp:=⟨F.len,λA outer s H args us vs Q E hr=>F.run A outer s H args us vs Q E (hr.mono h)⟩
def Env0.make(e:Env0 P w K mg base A outer s H)(C:Addr)(us:List Value)(kw:List (Str×Value)) : Env0 P w K mg base (A.under (.builtin "type.__call__" ⟨.ref C::us,kw⟩)) outer s H:=⟨by first|exact e.frames|(simpa[Around.under,Code.envs,Code.isFrame,pushEnvs] using e.frames),e.mod,e.bs,e.bsz,e.pF,e.frf,e.UQ,e.bare⟩
end
section
def UM.Rp(I:UM X UJ Z H s):Env0 X.prog X.w X.K X.mg X.base X.A X.stack s H :=
 ⟨I.ok.frames,I.ok.mod,I.bs,Λ I.ok.bsz I.sz,I.stack,I.AV,I.UQ,I.bare⟩
def UM.after{Q:VK}(I:UM X UJ Z H s)(h:CE X.stack X.prog X.w H s Q u s'):EP X UJ Z Q u s':=by
 obtain⟨v,H',os,bare,un,UQ,r,q⟩:=h;obtain⟨hh,g,d,t,Yd⟩:=s';obtain rfl:Yd=s.os:=os;exact⟨v,H',I.call (h':=hh) (g':=g) (d':=d) (t':=t) (ch:=[]) un UQ bare (λb z=>absurd z (by simp)),r,q⟩
end
mutual
example:=[vs++Vx]
def Fg(sp:Sp)(Vx:List V)(E:XK)(t:TA):TE:=λZ H Q=>t Z H λvs H1=>sp 0e0 H1 Q E
def Cz(C:Addr)(m:Str)(sp:Sp)(Vx:List V)(E:XK)(ta:TE)(t:TA):TE:=λZ H Q=>ta Z H λx H1=>∃a dx fs,x=.ref a/\H1 a=some (.ins C dx fs)/\fs.lookup m=none /\
 t Z H1 λvs H2=>sp (x::0e0) H2 Q E
def Fh(C:Addr)(sp:Sp)(Vx:List V)(E:XK)(t:TA):TE:=λZ H Q=>t Z H λvs H1=>∀x dx,H1 x=none->H1 dx=none->dx≠x ->
 sp (.ref x::0e0) (UK (UK H1 dx (.own x)) x (.ins C dx [])) (λv H2=>v=.UL/\Q (.ref x) H2) E
def Binds(K:q0B)(fd:FuncData)(ps:List Str)(ds:List Value):Prop :=
 ∀(s:Shared) (us:List Value),K.In s.heap->(us++ds).length=ps.length->BindsTo s fd ⟨us,[]⟩ (ps.zip (us++ds))
def Binds.all(h:∀us:List Value,us.length=ps.length->bindArgs fd ⟨us,[]⟩=pure (ps.zip us)):Binds K fd ps []:=λs us _ hl=>by
 rw[Ϝ] at hl ⊢;exact .of_eq (h us hl)
def Passes(CX:CXT)(X:Cx)(E:XK):Prop:=∀(UJ:List (Addr×Obj)) (Z:St) (H:Hp) (s:Shared) (e:Value) (s':Shared),UM X UJ Z H s->CX X.stack H s E e s'->X.xe e s'
end
section
mutual
example:=[e::es,s.heap.objs.size+1,vs++Vx,.ref f,.ref C,.Attribute o m apos,us++ds,x==("__debug__":Str),starEach es X.env,tJ I hg hm ?_ Xw,.Name x p,(thn (ha pos UJ s Z H _ I h) λus s1 ⟨vs,H1,I1,r,q⟩=>⟨I1.kIn,?_⟩),(thn (he UJ s Z H _ I h) λu s1 ⟨x,H1,I1,rx,a,dx,fs,ex,ea,l,q⟩=>?_),backToKw pos (keywordEach [] X.env),getMethod ov m pl,model X.prog X.w,EP X UJ Z Q]
variable{f:Addr}{sp:Sp}{Vx:List V}{ds:List Value}{E:XK}{m:Str}{p apos:Pos}{o:Expr}{ta:TE}{t:TA}
def AK{Q:VK}(F:gH X.prog X.w X.K X.mg X.base CX k f fd ps sp)(hr:Room k X.A)(hb:Binds X.K fd ps ds)(hd:UO Vx ds)(hx:Passes CX X E)(I:UM X UJ Z H s)(r:UO vs us)(h:sp 2e0 H Q E):wpAny 5e1 X.A (call 3e0 us) 6e1 X.xe s:=by
 have r2:UO 2e0 6e0:=r.append hd;have hl:(us++ds).length=ps.length:=by rw[<- r2.length];exact F.len _ _ _ _ h
 refine wpAny_call (codeAny_mono (F.run X.A X.stack s H ⟨us,[]⟩ 6e0 2e0 Q E hr I.Rp (hb s us I.kIn hl) r2 h) λr s' hq=>?_);cases r with
 | error e=>exact hx UJ Z H s e s' I hq
 | ok fl =>
  cases fl with
  | ret u=>exact I.after hq
  | next=>exact False.elim hq
  | brk=>exact False.elim hq
  | cont=>exact False.elim hq
theorem Az(F:gH X.prog X.w X.K X.mg X.base CX k f fd ps sp)(hr:Room k X.A)(hg:Gl X x)(hm:X.mg x=some 3e0)(hk:PySem.W.keepIn X.K 3e0=true)(hb:Binds X.K fd ps ds)(hd:UO Vx ds)(hx:Passes CX X E)(ha:PA X 0e0 t)(Xw:7e0=false:=by decide)(he:starEach 0e0 X.env=(false,eval e X.env)::starEach es X.env:=by rfl)(Vm:(backTo pos 8e0).any (·.1)=false:=by rfl) : PE X (.Call 0e1 0e0 [] pos) (Fg sp Vx E t):=by
 intro UJ s Z H Q I h;refine wpAny_Call_Name_kw 9e0;refine PySem.W.callWith_K (h₀:=X.base) I.ok.mod.kin hk 1e1 he Vm;exact AK F hr hb hd hx I1 r q
def AB(he:PE X o ta)(c:Cls X.K C)(hm:Meth X.K C m f)(F:gH X.prog X.w X.K X.mg X.base CX k f fd ps sp)(hr:Room k X.A)(hb:Binds X.K fd ps ds)(hd:UO Vx ds)(hx:Passes CX X E)(ha:PA X 0e0 t)
    (UY:starEach 0e0 X.env=(false,eval e X.env)::starEach es X.env:=by rfl) (Vm:(backTo pos 8e0).any (·.1)=false:=by rfl)
    (ht:eval (.Call 5e0 0e0 [] pos) X.env=(do
      let ov <- eval o X.env
      standAt apos.atName
      let (f,first) <- holding [ov] 4e1
      callWith pos f first (backTo pos (starEach 0e0 X.env)) 3e1):=by rfl) :
    PE X (.Call 5e0 0e0 [] pos) (Cz C m sp Vx E ta t):=by
  intro UJ s Z H Q I h;refine PySem.W.methodCall_KW (pl:=pl) 2e1 ht;subst ex;obtain rfl:u=Value.ref a:=rx;refine uY I1 ea c hm l ?_;refine PySem.W.callWith_K (first:=[.ref a]) (h₀:=X.base) I.ok.mod.kin hm.kp (thn (ha pos UJ s1 Z H1 _ I1 q) λus s2 ⟨vs,H2,I2,r,q2⟩=>⟨I2.kIn,?_⟩) UY Vm
  exact AK (us:=.ref a::us) (vs:=.ref a::vs) F hr hb hd hx I2 (.cons rfl r) q2
def Jr(he:PE X o ta)(c:Cls X.K C)(hm:Meth X.K C m f)(F:gH X.prog X.w X.K X.mg X.base CX k f fd ps sp)(hr:Room k X.A)(hb:Binds X.K fd ps ds)(hd:UO Vx ds)(hx:Passes CX X E)
    (ht:eval (.Call 5e0 [] [] pos) X.env=(do
      let ov <- eval o X.env
      standAt apos.atName
      let (f,first) <- holding [ov] 4e1
      callWith pos f first (backTo pos (starEach [] X.env)) 3e1):=by rfl) :
    PE X (.Call 5e0 [] [] pos) (Cz C m sp Vx E ta xN):=by
  intro UJ s Z H Q I h;refine PySem.W.methodCall_KW (pl:=pl) 2e1 ht;subst ex;obtain rfl:u=Value.ref a:=rx;refine uY I1 ea c hm l ?_;exact PySem.W.callWith_K0 (first:=[.ref a]) I1.kIn hm.kp (AK (us:=[.ref a]) (vs:=[.ref a]) F hr hb hd hx I1 (.cons rfl .nil) q)
structure Mk(K:q0B)(C f:Addr):Prop where
 makes:PySem.W.makesIn K C=true
 init:PySem.W.findIn K 4e0 "__init__"=some (some 3e0)
 fn:PySem.W.isFn K 3e0=true
 kp:PySem.W.keepIn K 4e0=true
def B8{Q:VK}(M:Mk X.K C f)(F:gH X.prog X.w X.K X.mg X.base CX k f fd ps sp)(hr:Room (k+1) X.A)(hb:Binds X.K fd ps ds)(hd:UO Vx ds)(hx:Passes CX X E)(I:UM X UJ Z H s)(r:UO vs us)(h:∀x dx,H x=none->H dx=none->dx≠x->sp (.ref x::2e0) (UK (UK H dx (.own x)) x (.ins C dx [])) (λv H2=>v=.UL/\Q (.ref x) H2) E) : wpAny 5e1 X.A (call 4e0 us) 6e1 X.xe s:=by
 have hq:=h 1e0 s.heap.objs.size (I.UQ.fresh (Ε5 _)) (I.UQ.fresh (Ζ _)) (Τ (Nat.lt_succ_self _));have I2:=UM.made (C:=C) I;have r2:UO (V.ref 1e0::2e0) (Value.ref 1e0::6e0):=.cons rfl (r.append hd);have hl:(Value.ref 1e0::us++ds).length=ps.length:=by
  have e:=r2.length;rw[F.len _ _ _ _ hq] at e;exact e.symm
 refine wpAny_call (IP (f:=f) I.kIn M.makes M.init (beq_iff_eq.mp M.fn) (codeAny_mono (F.run _ X.stack _ _ ⟨Value.ref 1e0::us,[]⟩ (Value.ref 1e0::6e0) _ _ E (hr.make C us [])
  (I2.Rp.make C us []) (hb _ (Value.ref 1e0::us) I2.kIn hl) r2 hq) λr s' hq'=>?_))
 cases r with
 | error e=>exact hx UJ Z _ _ e s' I2 hq'
 | ok fl =>
  cases fl with
  | ret u =>
   obtain⟨v,H',I3,rv,ev,q3⟩:=I2.after hq';subst ev;exact⟨rv,⟨V.ref 1e0,H',I3,rfl,q3⟩⟩
  | next=>exact False.elim hq'
  | brk=>exact False.elim hq'
  | cont=>exact False.elim hq'
theorem AA(M:Mk X.K C f)(F:gH X.prog X.w X.K X.mg X.base CX k f fd ps sp)(hr:Room (k+1) X.A)(hg:Gl X x)(hm:X.mg x=some 4e0)(hb:Binds X.K fd ps ds)(hd:UO Vx ds)(hx:Passes CX X E)(ha:PA X 0e0 t)(Xw:7e0=false:=by decide)(he:starEach 0e0 X.env=(false,eval e X.env)::starEach es X.env:=by rfl)(Vm:(backTo pos 8e0).any (·.1)=false:=by rfl) : PE X (.Call 0e1 0e0 [] pos) (Fh C sp Vx E t):=by
 intro UJ s Z H Q I h;refine wpAny_Call_Name_kw 9e0;refine PySem.W.callWith_K (h₀:=X.base) I.ok.mod.kin M.kp 1e1 he Vm;exact B8 M F hr hb hd hx I1 r q
theorem Jq(M:Mk X.K C f)(F:gH X.prog X.w X.K X.mg X.base CX k f fd ps sp)(hr:Room (k+1) X.A)(hg:Gl X x)(hm:X.mg x=some 4e0)(hb:Binds X.K fd ps ds)(hd:UO Vx ds)(hx:Passes CX X E)(Xw:7e0=false:=by decide):PE X (.Call 0e1 [] [] pos) (Fh C sp Vx E xN):=by
 intro UJ s Z H Q I h;refine wpAny_Call_Name_kw 9e0;exact PySem.W.callWith_K0 I.kIn M.kp (B8 (us:=[]) M F hr hb hd hx I .nil h)
end
end
section
variable{f:Addr}{ks:List Str}{sp:Sp}{E:XK}{m:Str}{p apos acF:Pos}{o:Expr}{kws:List Keyword}{ta:TE}{t tk:TA}{nm:Option Str}
variable{g:List Value->List Value->List Value}{gV:List V->List V->List V}
end
mutual
example:=[((p,w)::P.zip vs),start N vs,Ae CX P w K mg base N qual scope f U9 A outer s H E,envOfC qual scope s.heap.objs.size f cd,PySem.W.fnOf name qual params body scope dV kV doc pm an U9 ct,x.above y c (Δ6 h),s.heap.objs.size+1,(by simpa using hi),(by simpa using h2),(by simpa using h1),Str×Value,ps.zip us]
structure mX(N P:List Str)(sc:Scope):Prop where
 kind:sc.kind=.function
 co:sc.isCoroutine=false
 gen:sc.isGenerator=false
 nd:N.Nodup
 pre:N.take P.length=P
 par:∀x∈P,sc.names.lookup x=some .local\/sc.names.lookup x=some .cell
 dY:∀y∈sc.names,y.2≠.free
theorem yN{kindOf:Str->Option NameKind}{x:Str}:∀{binds:List 0e1} {m:q0C},(∀v,(x,v)∉binds)->bindL kindOf binds m x=m x
 | [],_,_=>rfl
 | (n,v)::r,m,h=>by
  unfold bindL;rw[yN λw hw=>h w (Ρ _ hw)];split
  ·have:x≠n:=by rintro rfl;exact h v Ε4
   simp[this]
  ·rfl
theorem yL{kindOf:Str->Option NameKind}{x:Str}:∀{binds:List 0e1} {m:q0C},(∀v,(x,v)∉binds)->bindC kindOf binds m x=m x
 | [],_,_=>rfl
 | (n,v)::r,m,h=>by
  unfold bindC;rw[yL λw hw=>h w (Ρ _ hw)];split
  ·rfl
  ·have:x≠n:=by rintro rfl;exact h v Ε4
   simp[this]
theorem yM{kindOf:Str->Option NameKind}{x:Str}{v:Value}:∀{P:List Str} {vs:List Value} {i:Nat} {m:q0C},P.Nodup->P[i]?=some x->vs[i]?=some v->kindOf x=some .local -> bindL kindOf (P.zip vs) m x=some v
 | [],_,_,_,_,h,_,_=>by simp at h
 | _::_,[],_,_,_,_,h,_=>by simp at h
 | p::P,w::vs,0,m,nd,h1,h2,hk=>by
  simp at h1 h2;subst h1;subst h2;show bindL kindOf 0e0 m p=_;unfold bindL;rw[yN λv hv=>(ϗ.mp nd).1 (List.of_mem_zip hv).1,if_pos hk];simp
 | p::P,w::vs,i+1,m,nd,h1,h2,hk=>by
  show bindL kindOf 0e0 m x=_;unfold bindL;exact yM (i:=i) (ϗ.mp nd).2 9e0 8e0 hk
theorem yK{kindOf:Str->Option NameKind}{x:Str}{v:Value}:∀{P:List Str} {vs:List Value} {i:Nat} {m:q0C},P.Nodup->P[i]?=some x->vs[i]?=some v->kindOf x≠some .local -> bindC kindOf (P.zip vs) m x=some v
 | [],_,_,_,_,h,_,_=>by simp at h
 | _::_,[],_,_,_,_,h,_=>by simp at h
 | p::P,w::vs,0,m,nd,h1,h2,hk=>by
  simp at h1 h2;subst h1;subst h2;show bindC kindOf 0e0 m p=_;unfold bindC;rw[yL λv hv=>(ϗ.mp nd).1 (List.of_mem_zip hv).1,if_neg hk];simp
 | p::P,w::vs,i+1,m,nd,h1,h2,hk=>by
  show bindC kindOf 0e0 m x=_;unfold bindC;exact yK (i:=i) (ϗ.mp nd).2 9e0 8e0 hk
def start(N:List Str)(vs:List V):St:=vs.map some++List.replicate (N.length - vs.length) none
def Ae(CX:CXT)(P:Program)(w:World)(K:q0B)(mg:q0C)(base:Heap)(N:List Str)(qual:Str)(scope:Scope)(f:Addr)(cd:Value)(A:Around)(outer:List Env)(s:Shared)(H:Hp)(E:XK):Cx where
 prog:=P
 w:=w
 K:=K
 mg:=mg
 base:=base
 A:=A.deeper 3e0
 N:=N
 s₀:=s
 H₀:=H
 env:=envOfC qual scope s.heap.objs.size f cd
 outer:=outer
 stack:=envOfC qual scope s.heap.objs.size f cd::outer
 ex:=[]
 calm:=true
 fn:=λ_=>true
 pn:=[]
 xe:=λe s'=>wpAny (model P w) (A.deeper 3e0) (leaving 3e0 e) (λ_ Zj=>CX outer H s E e Zj) (λe' Zj=>CX outer H s E e' Zj) s'
def Bg{sc:Scope}(h:sc.names.lookup x=some .cell):∃c,(cellsFrom n sc.names []).lookup x=some c:=by
 have q:=PySem.W.cellsFrom_some sc.names n [] (.inl h);exact Δ5.mp q
theorem FO{N:List Str}{qual:Str}{f:Addr}{cd:Value}{s1:Shared}{E:XK}(S:mX N ps scope)(hd:A.handled=none)(e0:Env0 P w K mg base A outer s H)(hl:vs.length=ps.length)(r:UO vs us)(x:InCallC s s.heap.objs.size (bindL (envOfC qual scope s.heap.objs.size f cd).kindOf 1e1 λ_=>none) (cellsFrom 6e0 scope.names []) (bindC (envOfC qual scope s.heap.objs.size f cd).kindOf 1e1 λ_=>none) s1) : UM (Ae CX P w K mg base N qual scope f cd A outer s H E) [] 1e0 H s1:=by
 have Vm:ps.length<=N.length:=by have:=congrArg List.length S.pre;rw[Α8] at this;omega
 obtain⟨h1,tk,rfl,hk⟩:=x.done;have noA:∀b:Addr,b∉(Ae CX P w K mg base N qual scope f cd A outer s H E).ex:=λb z=>absurd (show b∈([]:List Addr) from z) (by simp);refine⟨⟨e0.mod,S.kind,rfl,rfl,Ζ _,λy z c h1 h2=>?_,λy hy=>?_,λy c _ h=>?_,λ_=>hd,Around.frames_deeper e0.frames,.inr ⟨rfl,rfl⟩,λb z=>absurd z (noA b),e0.bs,e0.bsz,λb _ _=>noA b,λb z=>absurd z (noA b),e0.pF,e0.frf⟩,
  rfl,e0.bare,Un.kept hk,⟨_,x.toInCall.ns,λi y v h1 h2 h3=>?_⟩,λy c h=>⟨_,x.cell y c h⟩,e0.UQ.fresh (Ζ _),λy c h=>?_,λp hp=>absurd (show p∈([]:List (Addr×Obj)) from hp) (by simp),e0.UQ.kept hk,?_⟩
 ·exact name_of_addr x.apart (Δ6 h1) (Δ6 h2)
 ·have hy:scope.names.lookup y=some .cell\/scope.names.lookup y=some .free:=hy;rcases hy with hy|hy
  ·exact Bg hy
  ·exact absurd rfl (S.dY _ (Δ6 hy))
 ·exact Nat.le_of_lt 5e0
 ·have hi:i < vs.length:=by
   unfold start at h2;by_cases hi:i < vs.length
   ·exact hi
   ·rw[List.getElem?_append_right 7e0] at h2;rw[List.getElem?_replicate] at h2;split at h2<;>cases h2
  have ha:vs[i]?=some v:=by
   unfold start at h2;rw[Ζ4 7e0,ϖ] at h2;cases e:vs[i]? with
   | none=>rw[e] at h2;cases h2
   | some a=>rw[e] at h2;cases h2;rfl
  obtain⟨u,hu,rv⟩:=r.get ha;have hp:ps[i]?=some y:=by
   rw[<- S.pre,List.getElem?_take_of_lt (by omega)];exact h1
  have ndP:ps.Nodup:=by rw[<- S.pre];exact S.nd.sublist (List.take_sublist _ _)
  refine⟨u,rv,?_⟩;rcases S.par y (ϒ hp) with k|k
  ·exact .inl ⟨k,yM ndP hp hu k⟩
  ·obtain⟨c,e⟩:=Bg (n:=s.heap.objs.size+1) k;refine .inr ⟨.inl k,c,e,?_⟩;have q:=x.cell y c e;rw[yK ndP hp hu (by show scope.names.lookup y≠_;rw[k];decide)] at q;exact q
 ·exact e0.UQ.fresh (Nat.le_of_lt 5e0)
 ·unfold start;show _=N.length;rw[Ξ,Γ,List.length_replicate];omega
def Rt{f:Addr}{name qual:Str}{params:Arguments}{dV kV doc pm U9 ct oc:Value}{an od:Option Addr}{Xf:Array (Option Value)}{N:List Str}{sp:Sp}(lk:K.lookup f=some ⟨oc,od,.func 4e0,Xf⟩)(Xv:PySem.W.codeIn K U9 qual=true)(S:mX N ps scope)(len:∀vs H Q E,sp vs H Q E->vs.length=ps.length)(V6:∀(A:Around) (outer:List Env) (s:Shared) (H:Hp) (vs:List V) (Q:VK) (E:XK),Room k (A.deeper (envOfC qual scope s.heap.objs.size f U9))->sp vs H Q E -> ∃t,VW 2e0 body t/\t {nx:=λ_ H'=>Q .UL H',rt:=Q} 1e0 H) : gH P w K mg base CX (k+1) f 4e0 ps sp:=by
 refine⟨len,λA outer s H args us vs Q E hr e0 hb r Yu=>?_⟩;have hl:=len _ _ _ _ Yu;have KX:K.In s.heap:=e0.mod.kin.keeps λb o e=>(e0.bs b o e).1;have lim:s.heap.NoLimit:=e0.mod.nolimit.keeps λb o e=>(e0.bs b o e).1;have VB:∀y∈ps.zip us,scope.names.lookup y.1=some .local\/(scope.names.lookup y.1=some .cell/\((cellsFrom 6e0 scope.names []).lookup y.1).isSome=true):=fun⟨n,v⟩ hy=>by
  rcases S.par n (List.of_mem_zip hy).1 with q|q
  ·exact .inl q
  ·exact .inr ⟨q,PySem.W.cellsFrom_some _ _ _ (.inl q)⟩
 refine codeAny_call_function hr.depth (KX _ _ lk) rfl S.co S.gen rfl (PySem.W.codeRec_of KX Xv) (hb _ _ _ _ ?_);refine wpAny_newFunctionEnv_cells S.kind VB λenv he s1 x=>?_;subst he;refine⟨lim.keeps x.toInCall.keep,codeAny_func ?_⟩;obtain⟨t,ht,hq⟩:=V6 A outer s H vs Q E (hr.deeper _) Yu;have I:UM 2e0 [] 1e0 H s1:=FO S hr.hd e0 hl r x;refine Β5 (ht [] s1 1e0 H _ I hq) (λfl s' hs=>?_) λe s' hs=>hs;have fin:∀{Z':St} {H':Hp} {v:V} {u:Value},UM 2e0 [] Z' H' s'->bQ v u->Q v H'->CE outer P w H s Q u s' :=
  λ{Z' H' v u} J rv q=>⟨v,H',J.os,J.bare,J.base,J.UQ,rv,q⟩
 cases fl with
 | ret u =>
  obtain⟨v,Z',H',J,rv,q⟩:=hs;exact fin J rv q
 | next =>
  obtain⟨Z',H',J,q⟩:=hs;exact fin (v:=V.UL) (u:=Value.none) J rfl q
 | brk =>
  obtain⟨_,_,_,q⟩:=hs;exact False.elim q
 | cont =>
  obtain⟨_,_,_,q⟩:=hs;exact False.elim q
end
section
variable{p:Pos}{t:TA}{id T:String}{r:List V->Hp->VK->Prop}
def Up(r:List V->Hp->VK->Prop)(t:TA):TE:=λZ H Q=>t Z H λvs H1=>r vs H1 Q
theorem bF(hc:gN X (.builtin id) r)(hg:Gl X x)(hm:X.mg x=none)(hv:bootBuiltins x=some (.builtin id))(ha:PA X (e::es) t)(hn:x≠"__name__":=by decide)(Xw:(x==("__debug__":Str))=false:=by decide)(he:starEach (e::es) X.env=(false,eval e X.env)::starEach es X.env:=by rfl)(Vm:(backTo pos (starEach es X.env)).any (·.1)=false:=by rfl):PE X (.Call (.Name x p) (e::es) [] pos) (Up r t):=by
 intro UJ s Z H Q I h;refine wpAny_Call_Name_kw (C5 I hg hm hv ?_ hn Xw);exact PyProof.Rows.callWith_builtin1 (thn (ha pos UJ s Z H _ I h) λus s1 ⟨vs,H1,I1,r1,q1⟩=>hc UJ s1 Z H1 vs us Q I1 r1 q1) he Vm
theorem bR(hc:gN X (.type T) r)(hg:Gl X x)(hm:X.mg x=none)(hv:bootBuiltins x=some (.type T))(ha:PA X (e::es) t)(hn:x≠"__name__":=by decide)(Xw:(x==("__debug__":Str))=false:=by decide)(he:starEach (e::es) X.env=(false,eval e X.env)::starEach es X.env:=by rfl)(Vm:(backTo pos (starEach es X.env)).any (·.1)=false:=by rfl):PE X (.Call (.Name x p) (e::es) [] pos) (Up r t):=by
 intro UJ s Z H Q I h;refine wpAny_Call_Name_kw (C5 I hg hm hv ?_ hn Xw);exact PyProof.Rows.callWith_type1 (thn (ha pos UJ s Z H _ I h) λus s1 ⟨vs,H1,I1,r1,q1⟩=>hc UJ s1 Z H1 vs us Q I1 r1 q1) he Vm
end
end Lake
namespace HT
open PySem PyProof.Rows
section
open PySem.SeqAt
open PySem.AutoSeq1 (wpAny_loadPart')
open PySem.MeetsSeq PySem.MeetsSeq2 PySem.MeetsSeq3
end
section
mutual
example:=[gZ items.size items.size hi - gZ items.size 0 lo,(Ι ⟨_,rfl,Ι h⟩),model prog w,.ref t,gZ items.size 0 lo,(by decide),.ref sl,(if v < 0 then max (v+(n:Int)) 0 else min v (n:Int)),(if v < 0 then (v+(n:Int)).toNat else min v.toNat n),PySem.F.args_tuple_add_2 _ _,.ref s.heap.objs.size,(by simpa using hv)]
variable{prog:Program}{w:World}{A:Around}{E:q0A}{s:Shared}
def KR{t b:Addr}{vs ws:List Value}{Q:q0A}(ht:IsTup s.heap t vs.toArray)(hb:IsTup s.heap b ws.toArray)(hv:vs≠[])(h1:ws=[]->Q 3e0 s)(h2:ws≠[]->Q 0e1 {s with heap:=s.heap.push {cls:=.type "tuple",data:=.seq (vs++ws).toArray}})(hsz:vs.length+ws.length<=sizeLine):wpAny 2e0 A (binaryOp .Add 3e0 (.ref b)) Q E s:=by
 obtain⟨⟨cls,dd,data,sl⟩,ho,hc,n,hd⟩:=id ht;obtain⟨⟨ab6,dd2,data2,U5⟩,Vr,hc2,n2,hd2⟩:=id hb;simp only at hc hd hc2 hd2;subst hc hd hc2 hd2;have e:vs.toArray++ws.toArray=(vs++ws).toArray:=by simp
 by_cases hw:ws=[]
 ·exact concat_meets ⟨_,ho,rfl⟩ ⟨_,Vr,rfl⟩ noFill_tuple_add seq_tuple_add PySem.F.slot_tuple_add PySem.F.entry_tuple_add 9e0
   (tuple_addW1 t b vs.toArray ws.toArray n n2 dd dd2 sl U5 1e1 (by simp[hw])) ⟨ho,Vr,h1 hw⟩
 ·refine concat_meets ⟨_,ho,rfl⟩ ⟨_,Vr,rfl⟩ noFill_tuple_add seq_tuple_add PySem.F.slot_tuple_add PySem.F.entry_tuple_add 9e0
   (tuple_addW2 t b vs.toArray ws.toArray n n2 dd dd2 sl U5 1e1 (by simpa using hw) (by rw[Η,Η];exact hsz)) ⟨ho,Vr,?_⟩
  rw[e];exact h2 hw
set_option backward.eqns.nonrecursive false in
def gZ(n d:Nat):Option Int->Nat
 | none=>d
 | some v=>if v < 0 then (v+(n:Int)).toNat else min v.toNat n
def JB(n d:Nat):gZ n d none=d:=rfl
theorem Mh(n d k:Nat):gZ n d (some (k:Int))=min k n:=by
 show(if (k:Int) < 0 then ((k:Int)+(n:Int)).toNat else min (k:Int).toNat n)=min k n;rw[if_neg (by omega),Int.toNat_natCast]
theorem P4(n d:Nat)(hd:d<=n)(o:Option Int):gZ n d o<=n:=by
 cases o with
 | none=>exact hd
 | some v =>
  show 8e0<=n;by_cases hv:v < 0
  ·rw[if_pos hv];omega
  ·rw[if_neg hv];exact Nat.min_le_right _ _
theorem DT(v:Int)(n d:Nat):7e0=((gZ n d (some v):Nat):Int):=by
 show 7e0=((8e0:Nat):Int);by_cases hv:v < 0
 ·simp only[if_pos hv];omega
 ·simp only[if_neg hv];omega
theorem CM(lo hi:Option Int)(n:Nat):Builtin.Slice.sliceAdjust lo hi 1 (n:Int)=(((gZ n 0 lo:Nat):Int),((gZ n n hi:Nat):Int)):=by
 have h1:¬ ((1:Int) < 0):=by omega
 unfold Builtin.Slice.sliceAdjust;simp only[h1,Β4];refine Prod.ext ?_ ?_
 ·cases lo with
  | none=>rfl
  | some v=>exact DT v n 0
 ·cases hi with
  | none=>rfl
  | some v=>exact DT v n n
theorem Dt(i j:Nat):Builtin.Slice.slicePlaces (i:Int) (j:Int) 1=j - i:=by
 unfold Builtin.Slice.slicePlaces;have h1:(1:Int) > 0:=by omega
 simp only[h1,Γ1,Int.ediv_one];split<;>omega
def xC{v:Value}{o:Option Int}{Q:Option Int->Shared->Prop}(p:IsPart v o)(h:Q o s):wpAny 2e0 A (Builtin.Slice.slicePartIndex v) Q E s:=by
 cases p with
 | none=>exact slicePart_none h
 | int i t=>exact slicePart_int h
theorem rT{sl:Addr}{vl vu:Value}{lo hi:Option Int}{n:Nat}{Q:Int×Int×Nat->Shared->Prop}(hs:s.heap.IsSliceOf sl vl vu .none)(pl:IsPart vl lo)(pu:IsPart vu hi)(h:Q (((gZ n 0 lo:Nat):Int),1,gZ n n hi - gZ n 0 lo) s):wpAny 2e0 A (Builtin.Slice.sliceApplied 6e0 (pure (n:Int))) Q E s:=by
 obtain⟨os,hos,hcs,Xx⟩:=id hs;unfold Builtin.Slice.sliceApplied Builtin.Slice.sliceFields;refine Β (Β (wpAny_field hos Xx (x:=vl) rfl (Β (wpAny_field hos Xx (x:=vu) rfl (Β (wpAny_field hos Xx (x:=.none) rfl (Ι ?_)))))));refine Β (slicePart_none ?_);show wpAny _ _ (if ((1:Int)==0)=true then _ else _) _ _ s;rw[if_neg 5e0];refine Β (xC pl (Β (xC pu (Β (Ι ?_)))));show wpAny _ _ (match Builtin.Slice.sliceAdjust lo hi 1 (n:Int) with|(lo,hi)=>pure (lo,(1:Int),Builtin.Slice.slicePlaces lo hi 1)) _ _ s;rw[CM lo hi n];show wpAny _ _ (pure (((gZ n 0 lo:Nat):Int),(1:Int),Builtin.Slice.slicePlaces ((gZ n 0 lo:Nat):Int) ((gZ n n hi:Nat):Int) 1)) _ _ s;rw[Dt];exact Ι h
theorem Jv(xs:Array Value)(i k:Nat):((List.range k).filterMap fun(m:Nat)=>xs[((i:Int)+(m:Int) * 1).toNat]?).toArray=((xs.toList.drop i).take k).toArray:=by
 have e:(fun(m:Nat)=>xs[((i:Int)+(m:Int) * 1).toNat]?)=λm=>xs[i+m]?:=by
  funext m;have:((i:Int)+(m:Int) * 1).toNat=i+m:=by omega
  rw[this]
 rw[e];have:=pick_run xs i k;rw[List.filterMap_map] at this;have e2:((λx=>xs[x]?)∘λx=>i+x)=λm=>xs[i+m]?:=rfl;rw[e2] at this;rw[this]
theorem pG{t sl:Addr}{items:Array Value}{vl vu:Value}{lo hi:Option Int}{Q:q0A}(ht:IsTup s.heap t items)(hs:s.heap.IsSliceOf sl vl vu .none)(pl:IsPart vl lo)(pu:IsPart vu hi)(hw:¬ (gZ items.size 0 lo=0/\gZ items.size items.size hi=items.size))(h:Q 0e1 {s with heap:=s.heap.push {cls:=.type "tuple",data:=.seq ((items.toList.drop 4e0).take 0e0).toArray}})(hsz:items.size<=sizeLine):wpAny 2e0 A (getItem 3e0 6e0) Q E s:=by
 have Wz:sizeOk (.seq ((items.toList.drop 4e0).take 0e0).toArray):=by
  show((items.toList.drop 4e0).take 0e0).toArray.size<=sizeLine;rw[Η,Α8,List.length_drop,Γ4];omega
 have hj:gZ items.size items.size hi<=items.size:=P4 _ _ (Ζ _) hi;obtain⟨os,hos,hcs,Xx⟩:=id hs;have hTs:s.TypeIs 6e0 "slice":=⟨os,hos,hcs⟩;unfold getItem
 try with_reducible refine Α9 ?_
 first|refine Β (Ι ?_)|skip
 refine Β (wpAny_sequenceKey ht.typeIs 5e0 ?_);refine Β (wpAny_callSpecial?_slot (name:=Str.ofString "__getitem__") ht.typeIs PyProof.Rows.slot_tuple_getitem
  (wpAny_call_entry PyProof.Rows.slot_tuple_getitem ht.typeIs entry_tuple_getitem ?_ (args_tuple_getitem _ _)))
 show wpAny _ _ (Builtin.Tuple.tupleItemsOf 3e0 >>= _) _ _ s;refine Β (tupleItemsOf_ ht ?_);refine Β (wpAny_typeOf hTs ?_);rw[if_pos 5e0];refine Β (rT hs pl pu ?_);have hno:¬ ((((gZ items.size 0 lo:Nat):Int)==0&&(1:Int)==1&&0e0==items.size)=true):=by
  intro q;rw[Β6,Β6] at q;have q1:((gZ items.size 0 lo:Nat):Int)=0:=eq_of_beq q.1.1;have q2:gZ items.size items.size hi - gZ items.size 0 lo=items.size:=eq_of_beq q.2;exact hw ⟨by omega,by omega⟩
 show wpAny _ _ (if (((gZ items.size 0 lo:Nat):Int)==0&&(1:Int)==1&&0e0==items.size)=true then _ else _) _ _ s;rw[if_neg hno,Jv]
 first
  | exact Β (m:=Builtin.Tuple.tupleExact _) (Β8 1e0 Wz)
  | exact Β (m:=Builtin.Tuple.tupleExact _) (Β8 (Β (Ι 1e0)) Wz)
  | exact Β (Β (m:=Builtin.Tuple.tupleExact _) (Β8 (Ι 1e0) Wz))
  | exact Β (Β (m:=Builtin.Tuple.tupleExact _) (Β8 1e0 Wz))
end
end
end HT
namespace Lake
open PySem PySem.Spec PyProof.Rows
mutual
example:=[Addr×Obj]
variable{a:Addr}{X:Cx}{H:Hp}{UJ:List 0e0}{xs:List (List Key×Addr×Value)}{kvs:List (List Key×V)}{Ws:List (TE×TE)}{us:List Value}{n t':Nat}{o:Option V}{pos:Pos}{P:Program}{s:Shared}{Z:St}{y:V}{u:Value}{w:World}{Q:q0A}
abbrev TO:=St->Hp->(Option Int->Hp->Prop)->Prop
def PO(X:Cx)(e:Option Expr)(t:TO):Prop :=
 ∀(UJ:List 0e0) (s:Shared) (Z:St) (H:Hp) (Q:Option Int->Hp->Prop),UM X UJ Z H s->t Z H Q ->
  wpAny (model X.prog X.w) X.A (evalPart e X.env) (λu s'=>∃o H',UM X UJ Z H' s'/\IsPart u o/\Q o H') X.xe s
def Fj:TO:=λ_ H Q=>Q none H
def Kd(t:TE):TO:=λZ H Q=>t Z H λx H1=>∃i,x=.int i/\Q (some i) H1
def C2{ns:List Int}:∀{us:List Value},UO (ns.map V.int) us->IntsAre us ns:=by
 induction ns with
 | nil=>intro us r;rw[List.map_nil] at r;cases r;exact .nil
 | cons n ns ih =>
  intro us r;rw[ϑ] at r;cases r with
  | cons r1 r2 =>
   obtain⟨t,e⟩:=r1;subst e;exact .cons n t (ih r2)
end
section
mutual
example:=[HT.gZ xs.length xs.length hi - HT.gZ xs.length 0 lo,HT.gZ xs.length 0 lo,.Slice lo hi none p2,(λb ob q=>Θ _ q),I.UQ.fresh (Ζ _),model X.prog X.w,oQ xs lo hi,EP X UJ Z Q]
variable{e:Expr}{te:TE}{lo hi:Option Expr}{tl th:TO}{p2:Pos}
def EE:PO X none Fj:=by
 intro UJ s Z H Q I h;rw[evalPart_none];exact Ι ⟨none,H,I,.none,h⟩
def jZ(h:PE X e te):PO X (some e) (Kd te):=by
 intro UJ s Z H Q I hw;rw[evalPart_some];refine thn (h UJ s Z H _ I hw) λu s1 ⟨x,H1,I1,r1,q1⟩=>?_;obtain⟨i,rfl,q⟩:=q1;obtain⟨t,rfl⟩:=r1;exact⟨some i,H1,I1,.int i t,q⟩
def Kv(X:Cx)(r:V->Option Int->Option Int->Hp->VK->Prop):Prop :=
 ∀(UJ:List (Addr×Obj)) (s:Shared) (Z:St) (H:Hp) (x:V) (v vl vu:Value) (lo hi:Option Int) (sl:Addr) (Q:VK),UM X UJ Z H s->bQ x v->s.heap.IsSliceOf sl vl vu .none->IsPart vl lo->IsPart vu hi->r x lo hi H Q ->
  ∃T id,typeLookup (.type T) "__getitem__"=pure (some (.builtin id))/\s.TypeIs v T/\wpAny 5e0 X.A (getItem v (.ref sl)) 7e0 X.xe s
def Kv.or{r r':V->Option Int->Option Int->Hp->VK->Prop}(h:Kv X r)(h':Kv X r'):Kv X (λx lo hi H Q=>r x lo hi H Q\/r' x lo hi H Q):=by
 intro UJ s Z H x v vl vu lo hi sl Q I rx hs pl pu q;rcases q with q|q
 ·exact h UJ s Z H x v vl vu lo hi sl Q I rx hs pl pu q
 ·exact h' UJ s Z H x v vl vu lo hi sl Q I rx hs pl pu q
def Uy(r:V->Option Int->Option Int->Hp->VK->Prop)(te:TE)(tl th:TO):TE:=λZ H Q=>te Z H λx H1=>tl Z H1 λl H2=>th Z H2 λu H3=>r x l u H3 Q
def BZ{r:V->Option Int->Option Int->Hp->VK->Prop}(hr:Kv X r)(he:PE X e te)(hl:PO X lo tl)(hu:PO X hi th):PE X (.Subscript e 2e0 pos) (Uy r te tl th):=by
 intro UJ s Z H Q I h;refine Subscript_ (thn (he UJ s Z H _ I h) λv s1 ⟨x,H1,I1,r1,q1⟩=>?_);refine wpAny_Slice (thn (hl UJ s1 Z H1 _ I1 q1) λvl s2 ⟨l,H2,I2,pl,q2⟩=>thn (hu UJ s2 Z H2 _ I2 q2) λvu s3 ⟨u,H3,I3,pu,q3⟩=>?_);rw[evalPart_none];refine Ι ?_;have I4:UM X UJ Z H3 {s3 with heap:=s3.heap.push {cls:=.type "slice",data:=.fields #[vl,vu,.none]}}:=I3.kept (t':=s3.toks) λb ob q=>Θ _ q;obtain⟨T,id,hT,ht,hg⟩:=hr UJ {s3 with heap:=s3.heap.push {cls:=.type "slice",data:=.fields #[vl,vu,.none]}} Z H3 x v vl vu l u s3.heap.objs.size Q I4 r1 (Heap.IsSliceOf.new ..) pl pu q3;show wpAny 5e0 X.A (subscriptTail e 2e0 v (.ref s3.heap.objs.size)) 7e0 X.xe {s3 with heap:=s3.heap.push {cls:=.type "slice",data:=.fields #[vl,vu,.none]}};exact tail_any (ops:=[.ref s3.heap.objs.size,v]) ht hT hg (by with_unfolding_all rfl)
def oQ(xs:List V)(lo hi:Option Int):List V:=(xs.drop 1e0).take 0e0
theorem sC(xs:List V)(lo hi:Option Int):(oQ xs lo hi).length<=xs.length:=by
 unfold oQ;rw[Α8,List.length_drop];omega
def Uo(K:q0B):V->Option Int->Option Int->Hp->VK->Prop:=λx lo hi H Q=>∃a xs,x=.ref a/\iR K H a xs /\
 ¬ (HT.gZ xs.length 0 lo=0/\HT.gZ xs.length xs.length hi=xs.length)/\∀p,H p=none->Q (.ref p) (UK H p (.tup 6e0))
def P8:Kv X (Uo X.K):=by
 intro UJ s Z H x v vl vu lo hi sl Q I rx hs pl pu h;obtain⟨a,xs,rfl,hx,hw,q⟩:=h;cases rx;obtain⟨UN,r,ht,hz⟩:=I.tuple hx;have hlen:UN.toArray.size=xs.length:=by rw[Η];exact r.length.symm
 refine⟨"tuple",_,PyProof.Rows.slot_tuple_getitem.lookup,ht.typeIs,?_⟩;refine HT.pG ht hs pl pu (by rw[hlen];exact hw) ?_ (by rw[hlen];exact hz);rw[hlen];refine⟨.ref s.heap.objs.size,_,I.laid (t':=s.toks) (o:=.tup 6e0) 3e0 (Ζ _) ?_,rfl,q _ 4e0⟩;exact⟨Λ (sC xs lo hi) hz,_,(r.drop 1e0).take 0e0,IsTup.new _ _⟩
def R9(K:q0B):R2:=λx y H Q=>∃a b xs ys,x=.ref a/\y=.ref b/\iR K H a xs/\iR K H b ys/\xs≠[]/\xs.length+ys.length<=sizeLine /\
 (ys=[]->Q (.ref a) H)/\(ys≠[]->∀p,H p=none->Q (.ref p) (UK H p (.tup (xs++ys))))
def UO.tM{xs:List V}(r:UO xs us):us=[]↔xs=[]:=by
 cases r with
 | nil=>simp
 | cons _ _=>simp
def Ey:jR X (binaryOp .Add) (R9 X.K):=by
 intro UJ s Z H x y v u Q I rx ry h;obtain⟨a,b,xs,ys,rfl,rfl,ha,hb,hx,hz,q1,q2⟩:=h;cases rx;cases ry;obtain⟨UN,r1,p1,_⟩:=I.tuple ha;obtain⟨VH,r2,p2,_⟩:=I.tuple hb;refine HT.KR p1 p2 (λz=>hx (r1.tM.mp z)) (λz=>⟨.ref a,H,I,rfl,q1 (r2.tM.mp z)⟩) (λz=>?_) (by rw[<- r1.length,<- r2.length];exact hz);refine⟨.ref s.heap.objs.size,_,I.laid (t':=s.toks) (o:=.tup (xs++ys)) 3e0 (Ζ _) ?_,rfl,q2 (λw=>z (r2.tM.mpr w)) _ 4e0⟩;exact⟨by rw[Ξ];exact hz,_,r1.append r2,IsTup.new _ _⟩
end
end
mutual
example:=[(by omega),model X.prog X.w,EP X UJ Z Q,Addr×Obj]
def x9(n:Nat)(i:Int):Option Nat:=if 0<=i then (if i < n then some i.toNat else none) else if -(n:Int)<=i then some (i+n).toNat else none
def gY{α:Type}(xs:List α)(i:Int):Option α:=(x9 xs.length i).bind λj=>xs[j]?
theorem Em{i:Int}{j:Nat}(h:x9 n i=some j):seqIndex? i n=some j/\j < n/\-(n:Int)<=i/\i < n:=by
 unfold x9 at h;by_cases h0:0<=i
 ·rw[if_pos h0] at h;by_cases h1:i < n
  ·rw[if_pos h1] at h;have e:i.toNat=j:=ϓ h;exact⟨by rw[seqIndex_of h0 h1,e],by omega,by omega,h1⟩
  ·rw[if_neg h1] at h;cases h
 ·rw[if_neg h0] at h;by_cases h1:-(n:Int)<=i
  ·rw[if_pos h1] at h;have e:(i+n).toNat=j:=ϓ h;exact⟨by rw[seqIndex_neg 0e0 h1,e],by omega,h1,by omega⟩
  ·rw[if_neg h1] at h;cases h
def tH{α:Type}{xs:List α}{i:Int}{v:α}(h:gY xs i=some v):∃j,seqIndex? i xs.length=some j/\xs[j]?=some v/\j < xs.length/\-(xs.length:Int)<=i/\i < xs.length:=by
 unfold gY at h;cases e:x9 xs.length i with
 | none=>rw[e] at h;cases h
 | some j =>
  rw[e] at h;obtain⟨h1,h2,h3,h4⟩:=Em e;exact⟨j,h1,h,h2,h3,h4⟩
theorem eI{α:Type}{xs:List α}{j:Nat}{v:α}(h:xs[j]?=some v):gY xs (j:Int)=some v:=by
 have hj:j < xs.length:=(Ν.mp h).1;have e:x9 xs.length (j:Int)=some j:=by
  unfold x9;rw[if_pos 0e0,if_pos 0e0];simp
 unfold gY;rw[e];exact h
theorem j8{α:Type}(xs:List α)(v:α):gY (xs++[v]) (-1)=some v:=by
 have hl:(xs++[v]).length=xs.length+1:=by simp
 have e:x9 (xs++[v]).length (-1)=some xs.length:=by
  unfold x9;rw[hl,if_neg (by decide),if_pos 0e0]
  congr 1
  omega
 unfold gY;rw[e];show(xs++[v])[xs.length]?=some v;simp
def DO(b:Expr):Prop:=∀o i,subscripted b false o i=operate [o,i] (getItem o i)
def DN(X:Cx)(r:R2):Prop :=
 ∀(value slice:Expr) (UJ:List 3e0) (s:Shared) (Z:St) (H:Hp) (x y:V) (v u:Value) (Q:VK),UM X UJ Z H s->bQ x v->bQ y u->r x y H Q ->
  subscripted slice false v u=operate [v,u] (getItem v u)->wpAny 1e0 X.A (subscriptTail value slice v u) 2e0 X.xe s
def UB(X:Cx)(id:String)(r:V->List V->Hp->VK->Prop):Prop :=
 ∀(UJ:List 3e0) (s:Shared) (Z:St) (H:Hp) (x:V) (xs:List V) (v:Value) (us:List Value) (Q:VK),UM X UJ Z H s->bQ x v->UO xs us->r x xs H Q ->
  wpAny 1e0 X.A (call (.builtin id) (v::us)) 2e0 X.xe s
end
section
mutual
example:=[CY x,(by omega),(λw hw=>mC rx fx r fs w (by simpa using hw)),.tup ys,.lst xs,(by rw[hk];exact⟨_,I',q⟩),UK H p (.lst (xs.set j v)),(by rw[hj];simpa using ew),(by rw[Η]<;>omega),oQ xs lo hi]
variable{a b:Expr}{ta tb:TE}
def DN.or{r r':R2}(h:DN X r)(h':DN X r'):DN X (λx y H Q=>r x y H Q\/r' x y H Q):=by
 intro value slice UJ s Z H x y v u Q I rx ry q hs;rcases q with q|q
 ·exact h value slice UJ s Z H x y v u Q I rx ry q hs
 ·exact h' value slice UJ s Z H x y v u Q I rx ry q hs
def RY{r:R2}(hr:DN X r)(ha:PE X a ta)(hb:PE X b tb)(hs:DO b):PE X (.Subscript a b pos) (Mu r ta tb):=by
 intro UJ s Z H Q I h;exact Subscript_ (Nw ha hb I h λv u s2 x y H2 I2 rx ry q=>hr a b UJ s2 Z H2 x y v u Q I2 rx ry q (hs _ _))
def Sa(K:q0B):R2:=λx y H Q=>∃p xs i v,x=.ref p/\y=.int i/\fV K H p xs/\gY xs i=some v/\Q v H
def Sd(K:q0B):R2:=λx y H Q=>∃p xs i v,x=.ref p/\y=.int i/\iR K H p xs/\gY xs i=some v/\Q v H
def Sb:R2:=λx y H Q=>∃z i c,x=.str z/\y=.int i/\z.length<=sizeLine/\gY z.cps.toList i=some c/\Q (.str ⟨#[c]⟩) H
theorem En:DN X (Sa X.K):=by
 intro value slice UJ s Z H x y v u Q I rx ry h hs;obtain⟨p,xs,i,z,rfl,rfl,hq,he,q⟩:=h;cases rx;obtain⟨t,rfl⟩:=ry;obtain⟨UN,r,pl,hz⟩:=I.list hq;obtain⟨j,h1,h2,h3,h4,h5⟩:=tH he;obtain⟨w,ew,VI⟩:=r.get h2;have hl:=r.length;have hn:=line63;have fin:EP X UJ Z Q w s:=⟨z,H,I,VI,q⟩;by_cases h0:0<=i
 ·have hj:i.toNat=j:=by
   rw[seqIndex_of h0 h5] at h1;exact ϓ h1
  exact item_listR pl.isList h0 1e0 7e0 fin hs
 ·have hj:(i+(UN.toArray.size:Int)).toNat=j:=by
   rw[seqIndex_neg 1e0 h4] at h1;rw[Η,<- hl];exact ϓ h1
  exact subscriptTail_builtinR (x:=w) pl.isList.typeIs slot_list_getitem.lookup
   (wpAny_getItem_list_neg (Q:=λr s'=>r=w/\EP X UJ Z Q r s') pl.isList 1e0 8e0 1e0 7e0 ⟨rfl,fin⟩) hs
theorem Pg:DN X (Sd X.K):=by
 intro value slice UJ s Z H x y v u Q I rx ry h hs;obtain⟨p,xs,i,z,rfl,rfl,hq,he,q⟩:=h;cases rx;obtain⟨t,rfl⟩:=ry;obtain⟨UN,r,pl,hz⟩:=I.tuple hq;obtain⟨j,h1,h2,h3,h4,h5⟩:=tH he;obtain⟨w,ew,VI⟩:=r.get h2;have hl:=r.length;have hn:=line63;have fin:EP X UJ Z Q w s:=⟨z,H,I,VI,q⟩;exact subscriptTail_builtinR (x:=w) pl.typeIs slot_tuple_getitem.lookup
  (getItem_tuple (j:=j) (Q:=λr s'=>r=w/\EP X UJ Z Q r s') pl 1e0 1e0 (by rw[Η,<- hl];exact h1) (by simpa using ew) ⟨rfl,fin⟩) hs
theorem Pf:DN X Sb:=by
 intro value slice UJ s Z H x y v u Q I rx ry h hs;obtain⟨z,i,c,rfl,rfl,hz,he,q⟩:=h;obtain⟨t,rfl⟩:=rx;obtain⟨t',rfl⟩:=ry;obtain⟨j,h1,h2,h3,h4,h5⟩:=tH he;have hl:z.cps.toList.length=z.length:=by simp[Str.length]
 rw[hl] at h1 h4 h5;have hn:=line63;exact tail_any (typeIs_str s z t) slot_str_getitem.lookup (getItem_str (c:=c) (by
  have e1:decide (i < -(2 ^ 63:Int))=false:=Β7 1e0;have e2:decide (i >= 2 ^ 63)=false:=Β7 1e0;rw[e1,e2,Bool.or_false]) (by rw[h1];simpa using h2) ⟨.str ⟨#[c]⟩,H,I.tok _,⟨_,rfl⟩,q⟩) hs
def UE(K:q0B):R2:=λx y H Q=>Sa K x y H Q\/Sd K x y H Q\/Sb x y H Q
def Pe:DN X (UE X.K):=En.or (Pg.or Pf)
def C9(UN:List Value)(n j:Nat)(u:Value):Obj.mapSeq (·.setIfInBounds j u) {cls:=.type "list",data:=.seq UN.toArray n}={cls:=.type "list",data:=.seq (UN.set j u).toArray n}:=by
 simp[Obj.mapSeq]
def UM.lst{p:Addr}{xs:List V}(I:UM X UJ Z H s)(h:H p=some 4e0) : ∃(UN:List Value) (n:Nat),UO xs UN/\s.heap.get? p=some {cls:=.type "list",data:=.seq UN.toArray n}/\xs.length<=sizeLine:=by
 obtain⟨z,UN,n,r,e⟩:=I.UQ p _ h;exact⟨UN,n,r,e,z⟩
def UM.Pq{p:Addr}{xs ys:List V}{UN its':List Value}{n':Nat}{f:Obj->Obj}(I:UM X UJ Z H s)(h:H p=some 4e0)(ho:s.heap.get? p=some {cls:=.type "list",data:=.seq UN.toArray n})(hf:f {cls:=.type "list",data:=.seq UN.toArray n}={cls:=.type "list",data:=.seq its'.toArray n'})(r:UO ys its')(hz:ys.length<=sizeLine)(t:Nat) : UM X UJ Z (UK H p (.lst ys)) {s with heap:=s.heap.update p f,toks:=t}:=by
 have e:(s.heap.update p f).get? p=some {cls:=.type "list",data:=.seq its'.toArray n'}:=by
  rw[Heap.get?_update_self f ho (by rw[hf]<;>rfl),hf]
 refine I.write (x:=p) (e:=p) (by rw[h];trivial) (.inl rfl) (λb u hb q=>(Heap.get?_update_other _ _ (Ne.symm hb)).trans q) ⟨_,e⟩ ?_;exact⟨hz,its',n',r,e⟩
def Sf:V->V->V->Hp->(Hp->Prop)->Prop:=λo i v H Q=>∃p xs k j,o=.ref p/\i=.int k/\H p=some 4e0/\x9 xs.length k=some j/\Q 6e0
theorem JF:PSet X Sf:=by
 intro UJ s Z H o i v ov iv u Q I ro ri rv h;obtain⟨p,xs,k,j,rfl,rfl,hp,hj,q⟩:=h;cases ro;obtain⟨t,rfl⟩:=ri;obtain⟨UN,n,r,ho,hz⟩:=I.lst hp;obtain⟨h1,h2,h3,h4⟩:=Em hj;have hl:=r.length;have hn:=line63;have I':UM X UJ Z 6e0 {s with heap:=s.heap.update p (Obj.mapSeq (·.setIfInBounds j u))} :=
  I.Pq hp ho (C9 UN n j u) (r.set rv j) (by rw[List.length_set];exact hz) s.toks
 by_cases h0:0<=k
 ·have hk:k.toNat=j:=by
   rw[seqIndex_of h0 h4] at h1;exact ϓ h1
  exact PySem.W.ki_setAt ho h0 1e0 (by rw[Η,<- hl];exact h4) 5e0
 ·have hk:(k+(UN.toArray.size:Int)).toNat=j:=by
   rw[seqIndex_neg 1e0 h3] at h1;rw[Η,<- hl];exact ϓ h1
  exact PySem.W.ki_setBack ho 1e0 (by rw[Η,<- hl];exact h3) 1e0 5e0
theorem AN(lo hi:Option Int)(n:Nat):(sliceBounds lo hi none n).1=((HT.gZ n 0 lo:Nat):Int)/\(sliceBounds lo hi none n).2.1=((HT.gZ n n hi:Nat):Int)/\(sliceBounds lo hi none n).2.2=1:=by
 refine⟨?_,?_,rfl⟩
 ·cases lo with
  | none=>simp[sliceBounds,HT.gZ]
  | some i =>
   simp only[sliceBounds,HT.gZ,Option.getD_none,show(1:Int) > 0 by decide,Γ1];by_cases h:i < 0
   ·simp only[h,Γ1]<;>omega
   ·simp only[h,Β4]<;>omega
 ·cases hi with
  | none=>simp[sliceBounds,HT.gZ]
  | some i =>
   simp only[sliceBounds,HT.gZ,Option.getD_none,show(1:Int) > 0 by decide,Γ1];by_cases h:i < 0
   ·simp only[h,Γ1]<;>omega
   ·simp only[h,Β4]<;>omega
def yE(UN:List Value)(lo hi:Option Int):slicePick UN.toArray lo hi none=((UN.drop (HT.gZ UN.length 0 lo)).take (HT.gZ UN.length UN.length hi - HT.gZ UN.length 0 lo)).toArray:=by
 obtain⟨h1,h2,h3⟩:=AN lo hi UN.toArray.size;unfold slicePick;rw[h1,h2,h3];simp only[sliceRange_one,pick_run,Η]<;>rfl
def Um(K:q0B):V->Option Int->Option Int->Hp->VK->Prop:=λx lo hi H Q=>∃a xs,x=.ref a/\fV K H a xs/\∀p,H p=none->Q (.ref p) (UK H p (.lst 9e0))
theorem Mm:Kv X (Um X.K):=by
 intro UJ s Z H x v vl vu lo hi sl Q I rx hs pl pu h;obtain⟨a,xs,rfl,hx,q⟩:=h;cases rx;obtain⟨UN,r,ht,hz⟩:=I.list hx;have hlen:=r.length;refine⟨"list",_,slot_list_getitem.lookup,ht.isList.typeIs,?_⟩;refine wpAny_getItem_list_slice ht.isList hs pl pu .none (by simp) ?_ 8e0;rw[yE,<- hlen];refine⟨.ref s.heap.objs.size,_,I.laid (t':=s.toks) (o:=.lst 9e0) (λb ob q=>Θ _ q) (Ζ _) ?_,rfl,q _ (I.UQ.fresh (Ζ _))⟩;exact⟨Λ (sC xs lo hi) hz,_,0,(r.drop (HT.gZ xs.length 0 lo)).take (HT.gZ xs.length xs.length hi - HT.gZ xs.length 0 lo),Φ _ rfl⟩
set_option backward.eqns.nonrecursive false in
def eK:V->Bool
 | .UL=>true
 | .bl _=>true
 | .int _=>true
 | .str _=>true
 | _=>false
set_option backward.eqns.nonrecursive false in
def yR:V->V->Bool
 | .UL,.UL=>true
 | .bl a,.bl b=>a==b
 | .bl a,.int b=>(if a then 1 else 0)==b
 | .int a,.bl b=>a==(if b then 1 else 0)
 | .int a,.int b=>a==b
 | .str a,.str b=>a==b
 | _,_=>false
def Ih{A:Around}{x:V}{v:Value}(ry:bQ y u)(rx:bQ x v)(fy:eK y=true)(fx:eK x=true):SeqAt.EqAt A s u v (yR y x):=by
 cases y with
 | UL =>
  cases ry;cases x with
  | UL=>cases rx;exact SeqAt.EqAt.same _
  | bl b=>cases rx;exact SeqAt.EqAt.none_bool b
  | int b=>obtain⟨t,rfl⟩:=rx;exact SeqAt.EqAt.none_int b t
  | str b=>obtain⟨t,rfl⟩:=rx;exact SeqAt.EqAt.none_str b t
  | _=>exact absurd (show false=true from fx) Ω
 | bl a =>
  cases ry;cases x with
  | UL=>cases rx;exact SeqAt.EqAt.bool_none a
  | bl b=>cases rx;exact SeqAt.EqAt.bool_bool a b
  | int b=>obtain⟨t,rfl⟩:=rx;exact SeqAt.EqAt.bool_int a b t
  | str b=>obtain⟨t,rfl⟩:=rx;exact SeqAt.EqAt.bool_str a b t
  | _=>exact absurd (show false=true from fx) Ω
 | int a =>
  obtain⟨t',rfl⟩:=ry;cases x with
  | UL=>cases rx;exact SeqAt.EqAt.int_none a t'
  | bl b=>cases rx;exact SeqAt.EqAt.int_bool a t' b
  | int b=>obtain⟨t,rfl⟩:=rx;exact SeqAt.EqAt.int_int a t' b t
  | str b=>obtain⟨t,rfl⟩:=rx;exact SeqAt.EqAt.int_str a t' b t
  | _=>exact absurd (show false=true from fx) Ω
 | str a =>
  obtain⟨t',rfl⟩:=ry;cases x with
  | UL=>cases rx;exact SeqAt.EqAt.str_none a t'
  | bl b=>cases rx;exact SeqAt.EqAt.str_bool a t' b
  | int b=>obtain⟨t,rfl⟩:=rx;exact SeqAt.EqAt.str_int a t' b t
  | str b=>obtain⟨t,rfl⟩:=rx;exact SeqAt.EqAt.str_str a t' b t
  | _=>exact absurd (show false=true from fx) Ω
 | _=>exact absurd (show false=true from fy) Ω
def CY(x:V)(u:Value):Bool:=match u with
 | .none=>yR .UL x
 | .bool b=>yR (.bl b) x
 | .int i _=>yR (.int i) x
 | .str z _=>yR (.str z) x
 | _=>false
def Ii{x:V}(r:bQ y u)(f:eK y=true):CY x u=yR y x:=by
 cases y with
 | UL=>cases r;rfl
 | bl b=>cases r;rfl
 | int i=>obtain⟨t,rfl⟩:=r;rfl
 | str z=>obtain⟨t,rfl⟩:=r;rfl
 | _=>exact absurd (show false=true from f) Ω
theorem pD{x:V}:∀{xs:List V} {us:List Value},UO xs us->xs.all eK=true->us.any 0e0=xs.any λy=>yR y x
 | _,_,.nil,_=>rfl
 | y::xs,u::us,.cons r t,f=>by
  rw[List.all_cons,Β6] at f;rw[List.any_cons,List.any_cons,Ii r f.1,pD t f.2]
theorem mC{A:Around}{s:Shared}{x:V}{v:Value}(rx:bQ x v)(fx:eK x=true):∀{xs:List V} {us:List Value},UO xs us->xs.all eK=true->∀u∈us,SeqAt.EqAt A s u v (CY x u)
 | _,_,.nil,_=>λu hu=>by cases hu
 | y::xs,u::us,.cons r t,f=>λu' hu=>by
  rw[List.all_cons,Β6] at f;rcases Α.mp hu with rfl|hu
  ·rw[Ii r f.1];exact Ih r rx f.1 fx
  ·exact mC rx fx t f.2 u' hu
def u7(x:V)(xs:List V):Bool:=xs.any λy=>yR y x
def Uu(K:q0B)(neg:Bool):R2:=λx y H Q=>∃p xs,y=.ref p/\(fV K H p xs\/iR K H p xs)/\eK x=true/\xs.all eK=true/\Q (.bl (if neg then !u7 x xs else u7 x xs)) H
def Gv:jR X (compareOp .In) (Uu X.K false):=by
 intro UJ s Z H x y v u Q I rx ry h;obtain⟨p,xs,rfl,hq,fx,fs,q⟩:=h;cases ry;rcases hq with hq|hq
 ·obtain⟨UN,r,pl,hz⟩:=I.list hq;refine SeqAt.in_listAt 0e0 pl.isList 2e0 ⟨.bl _,H,I,rfl,?_⟩;rw[show UN.toArray.any 0e0=UN.any 0e0 by simp,pD r fs];exact q
 ·obtain⟨UN,r,pl,hz⟩:=I.tuple hq;refine SeqAt.in_tupleAt 0e0 pl 2e0 ⟨.bl _,H,I,rfl,?_⟩;rw[show UN.toArray.any 0e0=UN.any 0e0 by simp,pD r fs];exact q
def Ay:jR X (compareOp .NotIn) (Uu X.K true):=by
 intro UJ s Z H x y v u Q I rx ry h;obtain⟨p,xs,rfl,hq,fx,fs,q⟩:=h;cases ry;rcases hq with hq|hq
 ·obtain⟨UN,r,pl,hz⟩:=I.list hq;refine SeqAt.notIn_listAt 0e0 pl.isList 2e0 ⟨.bl _,H,I,rfl,?_⟩;rw[show UN.toArray.any 0e0=UN.any 0e0 by simp,pD r fs];exact q
 ·obtain⟨UN,r,pl,hz⟩:=I.tuple hq;refine SeqAt.notIn_tupleAt 0e0 pl 2e0 ⟨.bl _,H,I,rfl,?_⟩;rw[show UN.toArray.any 0e0=UN.any 0e0 by simp,pD r fs];exact q
theorem xX:gN X (.type "tuple") (λxs H Q=>∃p ys,xs=[.ref p]/\((fV X.K H p ys/\∀l,H l=none->Q (.ref l) (UK H l 3e0))\/(iR X.K H p ys/\Q (.ref p) H))):=by
 intro UJ s Z H xs us Q I r h;obtain⟨p,ys,rfl,h⟩:=h;obtain⟨u,rfl,rx⟩:=vals1 r;cases rx;rcases h with⟨hq,q⟩|⟨hq,q⟩
 ·obtain⟨UN,r',pl,hz⟩:=I.list hq;have hlen:=r'.length;refine call_tuple_list pl.isList (λh' kp=>?_) (by simp only[Η]<;>omega);have I1:UM X UJ Z H {s with heap:=h'}:=I.kept (t':=s.toks) kp;have I2:UM X UJ Z (UK H h'.objs.size 3e0) {s with heap:=h'.push {cls:=.type "tuple",data:=.seq UN.toArray}} :=
   I1.laid (t':=s.toks) (λb o e=>Θ _ e) (Ζ _) (show eE X.prog X.w _ _ _ 3e0 from ⟨hz,UN,r',IsTup.new _ _⟩)
  exact⟨.ref h'.objs.size,_,I2,rfl,q _ (I1.UQ.fresh (Ζ _))⟩
 ·obtain⟨UN,r',pl,hz⟩:=I.tuple hq;exact call_tuple_same pl ⟨.ref p,H,I,rfl,q⟩
def UG(K:q0B)(T:String)(x:V)(H:Hp):Prop:=match x with
  | .str _=>T = "str"
  | .int _=>T = "int"
  | .ref p=>(T = "list"/\∃xs,fV K H p xs)\/(T = "tuple"/\∃o,K.lookup p=some o/\o.cls=.type "tuple"/\o.dict=none) \/
      (T = "dict"/\((∃kvs,H p=some (.dK kvs))\/∃kvs,H p=some (.dT kvs)))\/(T = "set"/\∃S n,H p=some (.set S n))
  | _=>False
def DJ{T:String}{x:V}{v:Value}(I:UM X UJ Z H s)(r:bQ x v)(ty:UG X.K T x H) : s.TypeIs v T/\∀a,v=.ref a->∃ob,s.heap.get? a=some ob/\ob.dict=none:=by
 cases x with
 | str z =>
  obtain⟨t,rfl⟩:=r;cases (show T = "str" from ty);exact⟨typeIs_str s z t,λ_ e=>nomatch e⟩
 | int i =>
  obtain⟨t,rfl⟩:=r;cases (show T = "int" from ty);exact⟨typeIs_int s i t,λ_ e=>nomatch e⟩
 | ref p =>
  cases r;rcases ty with⟨rfl,xs,hq⟩|⟨rfl,o,hk,hc,hd⟩|⟨rfl,hk⟩|⟨rfl,S,n,hk⟩
  ·obtain⟨UN,_,pl,_⟩:=I.list hq;refine⟨pl.isList.typeIs,λa e=>?_⟩;cases e;obtain⟨o,n,e,c,hd,_⟩:=pl;exact⟨o,e,hd⟩
  ·refine⟨⟨o,I.kIn p o hk,hc⟩,λa e=>?_⟩;cases e;exact⟨o,I.kIn _ o hk,hd⟩
  ·have z:∃o,s.heap.get? p=some o/\o.ExactDict:=by
    rcases hk with⟨kvs,hk⟩|⟨kvs,hk⟩
    ·obtain⟨_,_,_,_,o,_,_,e,ex,_⟩:=I.UQ p _ hk;exact⟨o,e,ex⟩
    ·obtain⟨_,_,_,_,o,_,_,e,ex,_⟩:=I.UQ p _ hk;exact⟨o,e,ex⟩
   obtain⟨o,e,ex⟩:=z;refine⟨⟨o,e,ex.1⟩,λa e2=>?_⟩;cases e2;exact⟨o,e,ex.2.1⟩
  ·obtain⟨o,_,_,_,e,ex,_⟩:=I.UQ p _ hk;refine⟨⟨o,e,ex.1⟩,λa e2=>?_⟩;cases e2;exact⟨o,e,ex.2.1⟩
 | _=>exact False.elim ty
variable{o e:Expr}{es:List Expr}{to:TE}{t:TA}{name:Str}{apos US:Pos}{T id:String}{r:V->List V->Hp->VK->Prop}
end
end
mutual
example:=[]
def MD(X:Cx)(id:String)(r:V->List V->Hp->VK->Prop):Prop :=
 ∀(UJ:List (Addr×Obj)) (s:Shared) (Z:St) (H:Hp) (x:V) (xs:List V) (v:Value) (us:List Value) (Q:VK),UM X UJ Z H s->bQ x v->UO xs us->r x xs H Q ->
  wpAny (model X.prog X.w) X.A (call (.builtin id) (v::us)) (EP X UJ Z Q) X.xe s
def UO.one{x:V}(h:UO [x] us):∃u,us=[u]/\bQ x u:=by
 cases h with
 | cons r t=>cases t;exact⟨_,rfl,r⟩
theorem UO.zero:∀{us:List Value},UO [] us->us=[]
 | _,.nil=>rfl
def UO.dropLast{xs:List V}(h:UO xs us):UO xs.dropLast us.dropLast:=by
 induction h with
 | nil=>exact .nil
 | cons r t ih =>
  cases t with
  | nil=>exact .nil
  | cons q t'=>exact .cons r ih
theorem UO.eraseIdx:∀{xs:List V} {us:List Value} (i:Nat),UO xs us->UO (xs.eraseIdx i) (us.eraseIdx i)
 | _,_,_,.nil=>.nil
 | _,_,0,.cons _ t=>t
 | _,_,i+1,.cons r t=>.cons r (UO.eraseIdx i t)
theorem CZ{α:Type}(l:List α):l.eraseIdx (l.length - 1)=l.dropLast:=by
 induction l with
 | nil=>rfl
 | cons a r ih =>
  cases r with
  | nil=>rfl
  | cons b r =>
   have e:(a::b::r).length - 1=((b::r).length - 1)+1:=by
    have h1:(a::b::r).length=r.length+2:=rfl;have h2:(b::r).length=r.length+1:=rfl;omega
   rw[e,List.eraseIdx_cons_succ,ih]
   all_goals rfl
theorem rB{α:Type}:∀(l:List α) (i:Nat),(l.eraseIdx i).length<=l.length
 | [],_=>Ζ _
 | _::_,0=>Ε5 _
 | _::r,i+1=>Nat.succ_le_succ (rB r i)
end
section
mutual
example:=[Obj.mapSeq f]
variable{l b:Addr}{xs ys zs:List V}
def UM.vJ{UN its':List Value}{f:Array Value->Array Value}(I:UM X UJ Z H s)(hH:H l=some (.lst xs))(e:s.heap.get? l=some {cls:=.type "list",data:=.seq UN.toArray n})(hf:f UN.toArray=its'.toArray)(hv:UO ys its')(hz:ys.length<=sizeLine) : UM X UJ Z (UK H l (.lst ys)) {s with heap:=s.heap.update l 0e0,toks:=t'}:=by
 have q:=PySem.IsL.update e f;rw[hf] at q;refine I.write (x:=l) (e:=l) (by rw[hH];exact trivial) (.inl rfl) (λb' u hb hu=>(Heap.get?_update_other s.heap 0e0 (Ne.symm hb)).trans hu) ⟨_,q⟩ ?_;exact⟨hz,its',_,hv,q⟩
def UM.LP{UN:List Value}(I:UM X UJ Z H s)(hv:UO ys UN)(hz:ys.length<=sizeLine) : UM X UJ Z (UK H s.heap.objs.size (.lst ys)) {s with heap:=s.heap.push {cls:=.type "list",data:=.seq UN.toArray},toks:=t'} :=
 I.laid (λ_ _ q=>Θ _ q) (Ζ _) ⟨hz,UN,0,hv,Φ _ rfl⟩
def UM.fresh(I:UM X UJ Z H s):H s.heap.objs.size=none:=I.UQ.fresh (Ζ _)
def UM.Ap(I:UM X UJ Z H s)(hH:H l=some (.lst xs)):xs.length<=sizeLine/\∃(UN:List Value) (n:Nat),UO xs UN/\xs.length=UN.length/\s.heap.get? l=some {cls:=.type "list",data:=.seq UN.toArray n}:=by
 obtain⟨z,UN,n,r,e⟩:=I.UQ l _ hH;exact⟨z,UN,n,r,r.length,e⟩
theorem IY(h:n<=sizeLine):Builtin.List.listTooLong n=false:=by
 unfold Builtin.List.listTooLong;exact Β7 (by omega)
end
end
section
mutual
example:=[.lst xs,(by rw[Η];omega),.lst (xs++zs),r.append r2]
def Md:V->List V->Hp->VK->Prop:=λx vs H Q=>∃l xs y,x=.ref l/\vs=[y]/\H l=some 0e0/\xs.length < sizeLine/\Q .UL (UK H l (.lst (xs++[y])))
theorem Ge:MD X "list.append" Md:=by
 intro UJ s Z H x vs v us Q I rx rv h;obtain⟨l,xs,y,rfl,rfl,hH,hz,q⟩:=h;cases rx;obtain⟨u,rfl,ru⟩:=rv.one;obtain⟨z,UN,n,r,hl,e⟩:=I.Ap hH;refine call_meets F.slot_list_append ⟨_,e,rfl⟩ F.entry_list_append (F.args_list_append_2 _ _) (PySem.list_append l UN.toArray n u 1e0) ⟨e,?_⟩;refine⟨.UL,_,I.vJ (its':=UN++[u]) hH e (by simp) (r.append (.cons ru .nil)) ?_,rfl,q⟩;rw[Ξ,List.length_singleton];omega
def Me:V->List V->Hp->VK->Prop:=λx vs H Q=>∃l b xs zs,x=.ref l/\vs=[.ref b]/\H l=some 0e0/\H b=some (.lst zs)/\xs.length+zs.length<=sizeLine/\Q .UL (UK H l 2e0)
theorem Gg:MD X "list.extend" Me:=by
 intro UJ s Z H x vs v us Q I rx rv h;obtain⟨l,b,xs,zs,rfl,rfl,hH,hB,hz,q⟩:=h;cases rx;obtain⟨u,rfl,ru⟩:=rv.one;cases ru;obtain⟨z,UN,n,r,hl,e⟩:=I.Ap hH;obtain⟨z2,VH,n2,r2,XO,e2⟩:=I.Ap hB;have hsz:UN.toArray.size+VH.toArray.size<=sizeLine:=by rw[Η,Η];omega
 have aaF:¬ (!UN.toArray.isEmpty&&Builtin.List.listTooLong (UN.toArray.size+VH.toArray.size))=true:=by
  rw[IY hsz,Bool.and_false];exact Ω
 refine call_meets F.slot_list_extend ⟨_,e,rfl⟩ F.entry_list_extend (F.args_list_extend_2 _ _)
  (AutoSeq1.list_extend_list_list_0 l UN.toArray n b VH.toArray n2 aaF 1e0 (by omega)) ⟨e,e2,?_⟩
 refine⟨.UL,_,I.vJ (its':=UN++VH) hH e (by simp) 3e0 ?_,rfl,q⟩;rw[Ξ];omega
def Ul:V->List V->Hp->VK->Prop:=λx vs H Q=>∃l xs y,x=.ref l/\vs=[]/\H l=some 0e0/\xs[xs.length - 1]?=some y/\Q y (UK H l (.lst xs.dropLast))
theorem Pt:MD X "list.pop" Ul:=by
 intro UJ s Z H x vs v us Q I rx rv h;obtain⟨l,xs,y,rfl,rfl,hH,hy,q⟩:=h;cases rx;have hus:=rv.zero;subst hus;obtain⟨z,UN,n,r,hl,e⟩:=I.Ap hH;obtain⟨u,hu,ru⟩:=r.get hy;have hy':UN.toArray[UN.toArray.size - 1]?=some u:=by
  show UN.toArray[UN.length - 1]?=some u;rw[<- Δ0,<- hl];exact hu
 refine call_meets F.slot_list_pop ⟨_,e,rfl⟩ F.entry_list_pop (F.args_list_pop_1 _) (MeetsSeq.list_pop_last l UN.toArray n u hy' 1e0) ⟨e,?_⟩;refine⟨y,_,I.vJ (its':=UN.dropLast) hH e ?_ r.dropLast ?_,ru,q⟩
 ·show UN.toArray.eraseIdxIfInBounds (UN.toArray.size - 1)=UN.dropLast.toArray;rw[Η,List.eraseIdxIfInBounds_toArray,CZ]
 ·rw[List.length_dropLast];omega
def PY:V->List V->Hp->VK->Prop:=λx vs H Q=>∃l xs i k y,x=.ref l/\vs=[.int i]/\H l=some 0e0/\-(2 ^ 63)<=i/\i < 2 ^ 63/\seqIndex? i xs.length=some k/\xs[k]?=some y/\Q y (UK H l (.lst (xs.eraseIdx k)))
theorem IS:MD X "list.pop" PY:=by
 intro UJ s Z H x vs v us Q I rx rv h;obtain⟨l,xs,i,k,y,rfl,rfl,hH,h1,h2,hk,hy,q⟩:=h;cases rx;obtain⟨u,rfl,ru⟩:=rv.one;obtain⟨t,rfl⟩:=ru;obtain⟨z,UN,n,r,hl,e⟩:=I.Ap hH;obtain⟨w,hw,VI⟩:=r.get hy;refine call_meets F.slot_list_pop ⟨_,e,rfl⟩ F.entry_list_pop (F.args_list_pop_2 _ _)
  (MeetsSeq.list_pop_at l UN.toArray n i t k w (fitsIndex_both h1 h2) (by rw[Η,<- hl];exact hk) (by rw[<- Δ0];exact hw) 1e0) ⟨e,?_⟩
 refine⟨y,_,I.vJ (its':=UN.eraseIdx k) hH e ?_ (r.eraseIdx k) ?_,VI,q⟩
 ·show UN.toArray.eraseIdxIfInBounds k=(UN.eraseIdx k).toArray;rw[List.eraseIdxIfInBounds_toArray]
 ·have:=rB xs k;omega
def Uk:R2:=λx y H Q=>∃l b xs zs,x=.ref l/\y=.ref b/\H l=some 0e0/\H b=some (.lst zs)/\xs.length+zs.length<=sizeLine/\∀p,H p=none->Q (.ref p) (UK H p 2e0)
theorem PH:jR X (binaryOp .Add) Uk:=by
 intro UJ s Z H x y v u Q I rx ry h;obtain⟨l,b,xs,zs,rfl,rfl,hH,hB,hz,q⟩:=h;cases rx;cases ry;obtain⟨z,UN,n,r,hl,e⟩:=I.Ap hH;obtain⟨z2,VH,n2,r2,XO,e2⟩:=I.Ap hB;refine PySem.P.add_list e e2 ?_ (by rw[Η,Η];omega);have ea:UN.toArray++VH.toArray=(UN++VH).toArray:=by simp
 rw[ea];exact⟨.ref _,_,I.LP (t':=s.toks) 3e0 (by rw[Ξ];omega),rfl,q _ I.fresh⟩
end
end
section
mutual
example:=[κ×V,κ×Value,(kvs.any λkv=>decide (kv.1=k)),kv.1=k,h1.trans z,(kvs.map λkv=>if kv.1=k then (kv.1,y) else kv),aR kvs k y,e.trans z]
variable{κ:Type}[DecidableEq κ]
def aZ(kvs:List 0e0)(k:κ):Option V:=(kvs.find? λkv=>decide 3e0).map (·.2)
def aR(kvs:List 0e0)(k:κ)(v:V):List 0e0 :=
 if 2e0=true then kvs.map (λkv=>if kv.1=k then (kv.1,v) else kv) else kvs++[(k,v)]
def sD(kvs:List 0e0)(k:κ):List 0e0:=kvs.filter λkv=>decide (kv.1≠k)
def xQ{k:κ}:aZ ([]:List 0e0) k=none:=rfl
def cL{p:κ×V}{r:List 0e0}{k:κ}(e:p.1=k):aZ (p::r) k=some p.2:=by simp[aZ,Δ3,e]
def cD{p:κ×V}{r:List 0e0}{k:κ}(e:¬ p.1=k):aZ (p::r) k=aZ r k:=by simp[aZ,Δ3,e]
theorem iA(k:κ):∀kvs:List 0e0,2e0=(aZ kvs k).isSome
 | []=>rfl
 | p::r=>by
  rw[List.any_cons];by_cases e:p.1=k
  ·simp only[cL e,decide_eq_true e,Bool.true_or,Option.isSome_some]
  ·rw[cD e,Β7 e,Bool.false_or];exact iA k r
theorem CD(k j:κ)(y:V):∀kvs:List 0e0,aZ 5e0 j=(aZ kvs j).map λx=>if j=k then y else x
 | []=>rfl
 | p::r=>by
  have ih:=CD k j y r;rw[ϑ];by_cases h:p.1=k
  ·rw[if_pos h];by_cases e:p.1=j
   ·rw[cL (p:=(p.1,y)) e,cL e,Option.map_some,if_pos (e.symm.trans h)]
   ·rw[cD (p:=(p.1,y)) e,cD e,ih]
  ·rw[if_neg h];by_cases e:p.1=j
   ·rw[cL (p:=p) e,cL e,Option.map_some,if_neg (λz=>h 7e0)]
   ·rw[cD (p:=p) e,cD e,ih]
theorem zX(k j:κ)(y:V):∀kvs:List 0e0,aZ kvs k=none->aZ (kvs++[(k,y)]) j=if j=k then some y else aZ kvs j
 | [],_=>by
  by_cases e:k=j
  ·rw[if_pos e.symm];exact cL (p:=(k,y)) e
  ·rw[if_neg (λz=>e z.symm)];exact cD (p:=(k,y)) e
 | p::r,hn=>by
  rw[ϐ];have hk:¬ p.1=k:=λz=>by rw[cL z] at hn;cases hn
  rw[cD hk] at hn;have ih:=zX k j y r hn;by_cases e:p.1=j
  ·rw[cL e,cL e,if_neg (λz=>hk 7e0)]
  ·rw[cD e,cD e,ih]
theorem gA(kvs:List 0e0)(k j:κ)(y:V):aZ 6e0 j=if j=k then some y else aZ kvs j:=by
 unfold aR;by_cases a:2e0=true
 ·rw[if_pos a,CD];rw[iA] at a;by_cases e:j=k
  ·obtain⟨x,hx⟩:=Δ5.mp a;rw[if_pos e,e,hx,Option.map_some,if_pos rfl]
  ·rw[if_neg e];cases aZ kvs j with
   | none=>rfl
   | some x=>rw[Option.map_some,if_neg e]
 ·rw[if_neg a];refine zX k j y kvs ?_;rw[iA] at a;cases q:aZ kvs k with
  | none=>rfl
  | some x=>rw[q] at a;exact(a rfl).elim
theorem iP(kvs:List 0e0)(k:κ)(v:V):(aR kvs k v).length<=kvs.length+1:=by
 unfold aR;split
 ·rw[Γ];omega
 ·rw[Ξ,Ε,ϔ];omega
theorem wK{kvs:List 0e0}{k:κ}(v:V)(h:aZ kvs k=none):aR kvs k v=kvs++[(k,v)]:=by
 unfold aR;rw[iA,h];exact if_neg (by decide)
def kP.qY{u:Option Value}(r:kP o u):o.isSome=u.isSome:=by
 cases o with
 | none=>cases u with
  | none=>rfl
  | some _=>exact(show False from r).elim
 | some _=>cases u with
  | none=>exact(show False from r).elim
  | some _=>rfl
def kP.getD{u:Option Value}{d:V}{d':Value}(r:kP o u)(rd:bQ d d'):bQ (o.getD d) (u.getD d'):=by
 cases o with
 | none=>cases u with
  | none=>exact rd
  | some _=>exact(show False from r).elim
 | some _=>cases u with
  | none=>exact(show False from r).elim
  | some _=>exact r
def KV.val{kvs:List 0e0}{vs:List 1e0}(r:KV kvs vs)(k:κ):kP (aZ kvs k) (valueAt vs k):=by
 unfold KV at r
 induction r with
 | nil=>exact True.intro
 | @cons p q ps qs h t ih =>
  obtain⟨h1,h2⟩:=h;by_cases e:p.1=k
  ·have e':q.1=k:=h1.symm.trans e;have b:valueAt (q::qs) k=some q.2:=by simp[valueAt,Δ3,e']
   rw[cL e,b];exact h2
  ·have e':¬ q.1=k:=λz=>e 4e0;have b:valueAt (q::qs) k=valueAt qs k:=by simp[valueAt,Δ3,e']
   rw[cD e,b];exact ih
theorem KV.any{kvs:List 0e0}{vs:List 1e0}(r:KV kvs vs)(k:κ):2e0=vs.any λkv=>decide 3e0:=by
 unfold KV at r
 induction r with
 | nil=>rfl
 | cons h t ih=>rw[List.any_cons,List.any_cons,ih,h.1]
def KV.JA{kvs:List 0e0}{vs:List 1e0}(r:KV kvs vs)(k:κ)(ry:bQ y u) : KV 5e0 (vs.map λkv=>if kv.1=k then (kv.1,u) else kv):=by
 unfold KV at r ⊢
 induction r with
 | nil=>exact .nil
 | @cons p q ps qs h t ih =>
  rw[ϑ,ϑ];refine .cons ?_ ih;obtain⟨h1,h2⟩:=h;by_cases e:p.1=k
  ·rw[if_pos e,if_pos (h1.symm.trans e)];exact⟨h1,ry⟩
  ·rw[if_neg e,if_neg (λz=>e 4e0)];exact⟨h1,h2⟩
theorem KV.put{kvs:List 0e0}{vs:List 1e0}(r:KV kvs vs)(k:κ)(ry:bQ y u):KV 6e0 (stored vs k u):=by
 unfold aR stored;rw[r.any k];by_cases e:(vs.any λkv=>decide 3e0)=true
 ·rw[if_pos e,if_pos e];exact r.JA k ry
 ·rw[if_neg e,if_neg e];exact Paired.snoc r ⟨rfl,ry⟩
theorem KV.drop{kvs:List 0e0}{vs:List 1e0}(r:KV kvs vs)(k:κ):KV (sD kvs k) (without vs k):=by
 unfold KV at r ⊢;unfold sD without
 induction r with
 | nil=>exact .nil
 | @cons p q ps qs h t ih =>
  obtain⟨h1,h2⟩:=h;rw[List.filter_cons,List.filter_cons];by_cases e:p.1=k
  ·have a:¬ decide (p.1≠k)=true:=by simp[e]
   have b:¬ decide (q.1≠k)=true:=by simp[h1.symm.trans e]
   rw[if_neg a,if_neg b];exact ih
  ·have e':¬ q.1=k:=λz=>e 4e0;have a:decide (p.1≠k)=true:=by simp[e]
   have b:decide (q.1≠k)=true:=by simp[e']
   rw[if_pos a,if_pos b];exact .cons ⟨h1,h2⟩ ih
def KV.length{kvs:List 0e0}{vs:List 1e0}(r:KV kvs vs):kvs.length=vs.length:=Paired.length r
def HM(kvs:List 0e0)(k:κ):(sD kvs k).length<=kvs.length:=Γ9 _ _
end
end
mutual
example:=[h1.trans z]
def n8{k:Key}(r:bQ (kV k) u):(bI P w).is k u=true:=by
 cases k with
 | inl i=>obtain⟨t,e⟩:=(show ∃t,u=Value.int i t from r);subst e;exact BB P w i t
 | inr x=>obtain⟨t,e⟩:=(show ∃t,u=Value.str x t from r);subst e;exact BC P w x t
 | no=>cases (show u=Value.none from r);rfl
theorem yX{P:Program}{w:World}:∀{ks:List Key} {us:List Value},UO (ks.map kV) us->ItemsAre (bI P w) ks us
 | [],_,r=>by rw[List.map_nil] at r;cases r;exact .nil
 | k::ks,_,r=>by
  rw[ϑ] at r;cases r with
  | cons h t=>exact .cons (n8 h) (yX t)
abbrev KT(H:Hp):List (List Key×V)->List (List Key×Addr×Value)->Prop:=Paired λp q=>p.1=q.1/\H q.2.1=some (.tup (p.1.map kV))/\bQ p.2 q.2.2
def KT.val(r:KT H kvs xs)(k:List Key):kP (aZ kvs k) ((atKey xs k).map (·.2)):=by
 induction r with
 | nil=>exact True.intro
 | @cons p q ps qs h t ih =>
  obtain⟨h1,_,h2⟩:=h;by_cases e:p.1=k
  ·have e':q.1=k:=h1.symm.trans e;have b:atKey (q::qs) k=some q.2:=by simp[atKey,Δ3,e']
   rw[cL e,b];exact h2
  ·have e':¬ q.1=k:=λz=>e 0e0;have b:atKey (q::qs) k=atKey qs k:=by simp[atKey,Δ3,e']
   rw[cD e,b];exact ih
def KT.JA(r:KT H kvs xs)(k:List Key)(ry:bQ y u) : KT H (kvs.map λkv=>if kv.1=k then (kv.1,y) else kv) (xs.map (putAt k u)):=by
 induction r with
 | nil=>exact .nil
 | @cons p q ps qs h t ih =>
  rw[ϑ,ϑ];refine .cons ?_ ih;obtain⟨h1,h2,h3⟩:=h;unfold putAt;by_cases e:p.1=k
  ·rw[if_pos e,if_pos (h1.symm.trans e)];exact⟨h1,h2,ry⟩
  ·rw[if_neg e,if_neg (λz=>e 0e0)];exact⟨h1,h2,h3⟩
theorem KT.put(r:KT H kvs xs)(k:List Key){b:Addr}(hb:H b=some (.tup (k.map kV)))(ry:bQ y u) : KT H (aR kvs k y) (storedH xs k b u):=by
 have e:(kvs.any λkv=>decide (kv.1=k))=(atKey xs k).isSome:=by
  rw[iA,(r.val k).qY,Option.isSome_map]
 unfold aR storedH;rw[e];by_cases q:(atKey xs k).isSome=true
 ·rw[if_pos q,if_pos q];exact r.JA k ry
 ·rw[if_neg q,if_neg q];exact Paired.snoc r ⟨rfl,hb,ry⟩
def KT.keeps{H':Hp}(r:KT H kvs xs)(ht:∀b ys,H b=some (.tup ys)->H' b=some (.tup ys)):KT H' kvs xs :=
 Paired.Pr r λ_ _ z=>⟨z.1,ht _ _ z.2.1,z.2.2⟩
end
section
mutual
example:=[bI P w,a==sysModules,.dT kvs,.dK kvs,.tup (ks.map kV)]
variable{h:Heap}
def MU{u:HO}(ok:HOk P w H h)(e:Rd H a u):eE P w H h a u:=e.ok ok
def uI{kvs:List (Key×V)}(ok:HOk P w H h)(e:Rd H a 3e0):kvs.length<=sizeLine/\1e0=false/\∃vs,KV kvs vs/\h.DictOf 0e0 a vs :=
 show eE P w H h a 3e0 from MU ok e
def nX{kvs:List (Key×V)}(ok:HOk P w H h)(e:H a=some 3e0):kvs.length<=sizeLine/\1e0=false/\∃vs,KV kvs vs/\h.DictOf 0e0 a vs:=uI ok (.inl e)
def qZ{ks:List Key}(ok:HOk P w H h)(e:H a=some 4e0):(tupleKind 0e0).is h ks a:=by
 obtain⟨_,UN,r,o,h1,h2,n,h3⟩:=(show eE P w H h a 4e0 from ok a _ e);exact⟨o,UN.toArray,n,h1,h2,h3,by simpa using yX r⟩
def uM(ok:HOk P w H h)(e:Rd H a 2e0):kvs.length<=sizeLine/\1e0=false /\ ∃xs,KT H kvs xs/\h.DictOfH (tupleKind 0e0) a xs:=by
 obtain⟨z,y,xs,r,o,es,ep,h1,h2,h3,h4,h5⟩:=(show eE P w H h a 2e0 from MU ok e);refine⟨z,y,xs,r,o,es,ep,h1,h2,h3,h4,λx hx=>?_,h5⟩;have all:∀{l:List (List Key×V)} {m:List (List Key×Addr×Value)},KT H l m->∀x∈m,(tupleKind 0e0).is h x.1 x.2.1:=by
  intro l m q
  induction q with
  | nil=>intro x hx;exact nomatch hx
  | @cons p q ps qs hq t ih =>
   intro x hx;rcases Α.mp hx with e|hx
   ·subst e;exact qZ ok (by rw[<- hq.1];exact hq.2.1)
   ·exact ih x hx
 exact all r x hx
def QB(ok:HOk P w H h)(e:H a=some 2e0):kvs.length<=sizeLine/\1e0=false /\ ∃xs,KT H kvs xs/\h.DictOfH (tupleKind 0e0) a xs:=uM ok (.inl e)
end
end
mutual
example:=[.dK kvs,aR kvs k v,.tup (k.map kV)]
def DGet(H:Hp)(a:Addr)(y:V)(r:Option V):Prop :=
 (∃kvs k,Rd H a 0e0/\y=kV k/\r=aZ kvs k)\/∃kvs k b,Rd H a (.dT kvs)/\y=.ref b/\H b=some 2e0/\r=aZ kvs k
def DPut(H:Hp)(a:Addr)(y v:V)(H':Hp):Prop :=
 (∃kvs k,H a=some 0e0/\y=kV k/\kvs.length < sizeLine/\H'=UK H a (.dK 1e0)) \/
 ∃kvs k b,H a=some (.dT kvs)/\y=.ref b/\H b=some 2e0/\kvs.length < sizeLine/\H'=UK H a (.dT 1e0)
def DGet.k{kvs:List (Key×V)}{k:Key}(e:H a=some 0e0):DGet H a (kV k) (aZ kvs k):=.inl ⟨kvs,k,.inl e,rfl,rfl⟩
def DPut.k{kvs:List (Key×V)}{k:Key}{v:V}(e:H a=some 0e0)(hl:kvs.length < sizeLine):DPut H a (kV k) v (UK H a (.dK 1e0)):=.inl ⟨kvs,k,e,rfl,hl,rfl⟩
end
section
mutual
example:=[I.tok _,tupleKind_room_in1 hu,model X.prog X.w,qZ I.UQ eb,.ref a,(by rw[e];exact True.intro),(by rw[l];exact rel.val k),UK H a ob]
variable{v:V}{r:Value}{A:Around}{E:q0A}
theorem UM.big(I:UM X UJ Z H s):sysModules < s.heap.objs.size:=by
 have h:mainGlobals < s.heap.objs.size:=(I.mod.glob.keeps I.bk).lt;exact Nat.lt_trans (by decide) h
def Fu(hu:A.units+1 < cLine)(I:UM X UJ Z H s)(g:DGet H a y (some v))(ry:bQ y u)(h:∀w' s',UM X UJ Z H s'->bQ v w'->Q w' s') : wpAny 2e0 A (getItem 4e0 u) Q E s:=by
 rcases g with⟨kvs,k,e,ey,l⟩|⟨kvs,k,b,e,ey,eb,l⟩
 ·subst ey;obtain⟨z,hd,vs,rel,dd⟩:=uI I.UQ e;obtain⟨w',hw,VI⟩:=kP.some_of (v:=v) (o:=valueAt vs k) 6e0;exact wpAny_getItem_of (n8 ry) dd.mapOf hw (h w' _ 0e0 VI)
 ·subst ey;cases (show u=Value.ref b from ry);obtain⟨z,hd,xs,rel,dd⟩:=uM I.UQ e;obtain⟨w',hw,VI⟩:=kP.some_of (v:=v) (o:=(atKey xs k).map (·.2)) 6e0;obtain⟨p,hp,Xy⟩:=ϛ.mp hw;refine wpAny_getItem_heap 1e0 3e0 dd hp ?_;rw[Xy];exact h w' _ 0e0 VI
def Tz(hu:A.units+1 < cLine)(I:UM X UJ Z H s)(g:DGet H a y o)(ry:bQ y u)(h:∀s',UM X UJ Z H s'->Q (.bool o.isSome) s') : wpAny 2e0 A (compareOp .In u 4e0) Q E s:=by
 rcases g with⟨kvs,k,e,ey,l⟩|⟨kvs,k,b,e,ey,eb,l⟩
 ·subst ey;obtain⟨z,hd,vs,rel,dd⟩:=uI I.UQ e;refine wpAny_in_of (n8 ry) hd dd.mapOf ?_;rw[<- (rel.val k).qY,<- l];exact h _ 0e0
 ·subst ey;cases (show u=Value.ref b from ry);obtain⟨z,hd,xs,rel,dd⟩:=uM I.UQ e;refine wpAny_in_heap 1e0 3e0 hd dd ?_;have q:=(rel.val k).qY;rw[Option.isSome_map] at q;rw[<- q,<- l];exact h _ 0e0
def nB{h':Heap}{ob:HO}(I:UM X UJ Z H s)(mu:Mut (H a))(hs:Heap.SameBut a s.heap h')(he:∃q,h'.get? a=some q)(new:eE X.prog X.w 7e0 h' a ob) : UM X UJ Z 7e0 {s with heap:=h',toks:=t'} :=
 I.write (x:=a) (e:=a) mu (.inl rfl) (λb q hb z=>(hs.2 b hb).trans z) he new
def oR{H':Hp}{h':Heap}{kvs:List (Key×V)}{vs:List (Key×Value)}(z:kvs.length<=sizeLine)(hd:(a==sysModules)=false)(rel:KV kvs vs)(dd:h'.DictOf (bI P w) a vs) : eE P w H' h' a (.dK kvs):=⟨z,hd,vs,rel,dd⟩
theorem Fv{H':Hp}{Q:Unit->Shared->Prop}(hu:A.units+1 < cLine)(I:UM X UJ Z H s)(g:DPut H a y v H')(ry:bQ y u)(rv:bQ v r)(h:∀s',UM X UJ Z H' s'->Q () s') : wpAny 2e0 A (setItem 4e0 u r) Q E s:=by
 rcases g with⟨kvs,k,e,ey,l,eH⟩|⟨kvs,k,b,e,ey,eb,l,eH⟩
 ·subst ey eH;obtain⟨z,hd,vs,rel,dd⟩:=nX I.UQ e;have hz:vs.length<=sizeLine:=by rw[<- rel.length];exact z
  have hl:(aR kvs k v).length<=sizeLine:=by have:=iP kvs k v;omega
  refine wpAny_setItem_pairs (hsz:=hz) (n8 ry) dd λh' Wc hs=>h _ ?_;have he:∃q,h'.get? a=some q:=let ⟨q,_,_,hq,_⟩:=Wc;⟨q,hq⟩;exact nB I 5e0 hs he (oR hl hd (rel.put k rv) Wc)
 ·subst ey eH;cases (show u=Value.ref b from ry);obtain⟨z,hd,xs,rel,dd⟩:=QB I.UQ e;have hz:xs.length<=sizeLine:=by rw[<- Paired.length rel];exact z
  have hl:(aR kvs k v).length<=sizeLine:=by have:=iP kvs k v;omega
  refine wpAny_setItem_heap (hsz:=hz) 1e0 3e0 dd λh' Wc hs=>h _ ?_;obtain⟨q,es,ep,hq,h2,h3,h4,_,h5⟩:=Wc;refine nB I 5e0 hs ⟨q,hq⟩ ⟨hl,hd,_,(rel.put k eb rv).keeps λc ys ec=>?_,q,es,ep,hq,h2,h3,h4,h5⟩;rw[aC (c0 ec e (λz=>nomatch z))];exact ec
end
end
section
variable{kvs:List (Key×V)}{k:Key}{A:Around}{E:q0A}
def QA{v:V}{more:List Value}(I:UM X UJ Z H s)(e:H a=some (.dK kvs))(ry:bQ (kV k) u)(l:aZ kvs k=some v)(hm:more=[]\/∃x,more=[x])(h:∀w' s',UM X UJ Z (UK H a (.dK (sD kvs k))) s'->bQ v w'->Q w' s'):wpAny (model X.prog X.w) A (call (.builtin "dict.pop") (.ref a::u::more)) Q E s:=by
 obtain⟨z,hd,vs,rel,dd⟩:=nX I.UQ e;obtain⟨w',hw,VI⟩:=kP.some_of (v:=v) (o:=valueAt vs k) (by rw[<- l];exact rel.val k);have hp:(keyPart u).isSome=true:=by
  cases k with
  | inl i=>obtain⟨t,q⟩:=(show ∃t,u=Value.int i t from ry);subst q;rfl
  | inr x=>obtain⟨t,q⟩:=(show ∃t,u=Value.str x t from ry);subst q;rfl
  | no=>cases (show u=Value.none from ry);rfl
 have ha:argsOk "dict.pop" ⟨.ref a::u::more,[]⟩:=by
  rcases hm with q|⟨x,q⟩
  ·subst q;exact PySem.F.args_dict_pop_2 _ _
  ·subst q;exact PySem.F.args_dict_pop_3 _ _ _
 refine Δ1 PySem.F.slot_dict_pop dd.typeIs PySem.F.entry_dict_pop ha (meets_dict_pop_there (bI X.prog X.w) a (n8 ry) more hm hp)
  ⟨vs,w',dd,by rw[<- rel.length];exact z,hw,λh' Wc hs=>h w' _ ?_ VI⟩
 have he:∃q,h'.get? a=some q:=let ⟨q,_,_,hq,_⟩:=Wc;⟨q,hq⟩;exact nB I (by rw[e];exact True.intro) hs he (oR (Λ (HM kvs k) z) hd (rel.drop k) Wc)
end
def Ku(i:Expr):Prop:=∀ov iv,subscripted i false ov iv=operate [ov,iv] (getItem ov iv)
def Fe{prog:Program}{A:Around}{E:q0A}{env:Env}{value slice:Expr}{T id:String}(hl:typeLookup (.type T) "__getitem__"=pure (some (.builtin id)))(hs:Ku slice)(h:wpAny (model prog w) A (eval value env) (λo s₁=>wpAny (model prog w) A (eval slice env) (λi s₂=>s₂.TypeIs o T/\wpAny (model prog w) A (getItem o i) Q E s₂) E s₁) E s) : wpAny (model prog w) A (eval (.Subscript value slice pos) env) Q E s:=by
 refine Subscript_ (Β5 h (λo s₁ h₁=>Β5 h₁ (λi s₂ h₂=>?_) λ_ _ x=>x) λ_ _ x=>x);obtain⟨hT,h₂⟩:=h₂;unfold subscriptTail;refine Β ?_;rw[getitemInPython_of_ne hT.not_modules];refine Β (wpAny_specialOf hT hl ?_);have fin:wpAny (model prog w) A (subscripted slice false o i) (λr s₃=>wpAny (model prog w) A (letTemporaryGo value o r >>= λ_=>pure r) Q E s₃) E s₂:=by
  rw[hs o i];exact wpAny_operating (Β5 h₂ (λr s₃ h₃=>Β (wpAny_letTemporaryGo (Ι h₃))) λ_ _ x=>x)
 first
  | exact Ι (Β fin)
  | exact Β (Ι (Β fin))
  | exact Β fin
def Bk(I:UM X UJ Z H s)(g:DGet H a y o):s.TypeIs (.ref a) "dict":=by
 rcases g with⟨kvs,k,e,_,_⟩|⟨kvs,k,b,e,_,_,_⟩
 ·obtain⟨_,_,vs,_,dd⟩:=uI I.UQ e;exact dd.typeIs
 ·obtain⟨_,_,xs,_,dd⟩:=uM I.UQ e;exact dd.typeIs
section
variable{o i e value:Expr}{pos' XF:Pos}{td ty tv:TE}
end
def Bl(h:Heap)(hb:sysModules < h.objs.size):eE P w H (h.push {cls:=.type "dict",data:=.dict #[]}) h.objs.size (.dK []) :=
 ⟨Α1 _,Β2.mpr (Ne.symm (Τ hb)),[],.nil,Heap.DictOf.new h⟩
def J7:TE:=λ_ H Q=>∀p,H p=none->Q (.ref p) (UK H p (.dK []))
section
def kJ:PE X (.Dict [] [] pos) J7:=λUJ s Z H Q I h =>
 wpAny_Dict_empty ⟨.ref s.heap.objs.size,_,I.laid (a:=s.heap.objs.size) (o:=.dK []) (t':=s.toks) (λ_ _ q=>Θ _ q) (Ζ _) (Bl s.heap I.big),rfl,h _ (I.UQ.fresh (Ζ _))⟩
end
mutual
example:=[Key×V,aR kvs p.1 p.2,Option Expr,TE×TE,(if ([]:List Keyword).isEmpty then 0 else 1),apos.endLine==US.line,(starEach [e,f] X.env),keywordEach [] X.env,starEach [e] X.env,(λx=>x.1.isSome),eval o X.env,Value×Value,(λx=>!x.1),Key×Value]
def pA:List 3e0->St->Hp->(List (V×V)->Hp->Prop)->Prop
 | [],_,H,Q=>Q [] H
 | (tk,tv)::r,Z,H,Q=>tk Z H λx H1=>tv Z H1 λy H2=>pA r Z H2 λps H3=>Q ((x,y)::ps) H3
abbrev VV:List (V×V)->List 1e1->Prop:=Paired λp q=>bQ p.1 q.1/\bQ p.2 q.2
def PPs(X:Cx)(pos:Pos)(keys:List 2e0)(values:List Expr)(Ws:List 3e0):Prop :=
 ∀(UJ:List (Addr×Obj)) (s:Shared) (Z:St) (H:Hp) (Q:List (V×V)->Hp->Prop),UM X UJ Z H s->pA Ws Z H Q ->
  wpAny (model X.prog X.w) X.A (evalPairs (pairTrees keys values X.env pos)) (λvs s'=>∃ps H',UM X UJ Z H' s'/\VV ps vs/\Q ps H') X.xe s
def EG:PPs X pos [] [] []:=λUJ s Z H Q I h=>pairTrees_nil_walk ⟨[],H,I,.nil,h⟩
def fR{k v:Expr}{ks:List 2e0}{vs:List Expr}{tk tv:TE}(hk:PE X k tk)(hv:PE X v tv)(hr:PPs X pos ks vs Ws) : PPs X pos (some k::ks) (v::vs) ((tk,tv)::Ws):=λUJ s Z H Q I h =>
 pairTrees_cons_walk (thn (hk UJ s Z H _ I h) λu s1 ⟨x,H1,I1,rx,q1⟩=>thn (hv UJ s1 Z H1 _ I1 q1) λw2 s2 ⟨y,H2,I2,ry,q2⟩ =>
  thn (hr UJ s2 Z H2 _ I2 q2) λws s3 ⟨ps,H3,I3,rel,q3⟩=>⟨(x,y)::ps,H3,I3,.cons ⟨rx,ry⟩ rel,q3⟩)
def e9(kvs more:List 0e0):List 0e0:=more.foldl (λacc kv=>aR acc kv.1 kv.2) kvs
def KV.merge:∀{more:List 0e0} {rs:List 3e1} {kvs:List 0e0} {vs:List 3e1},KV more rs->KV kvs vs->KV (e9 kvs more) (merged vs rs):=by
 intro more rs kvs vs r;unfold KV at r
 induction r generalizing kvs vs with
 | nil=>intro q;exact q
 | @cons p q ps qs h t ih =>
  intro r0;have e:KV 1e0 (stored vs q.1 q.2):=by
   have:=r0.put p.1 h.2;rw[<- h.1];exact this
  exact ih e
theorem n9:∀(more kvs:List 0e0),(e9 kvs more).length<=kvs.length+more.length
 | [],kvs=>by show kvs.length<=kvs.length+0;omega
 | p::r,kvs=>by
  have h1:=n9 r 1e0;have h2:=iP kvs p.1 p.2;show(e9 1e0 r).length<=_;rw[Ε];omega
theorem uE{P:Program}{w:World}:∀{kvs:List 0e0} {ws:List 1e1},VV (kvs.map λkv=>(kV kv.1,kv.2)) ws->∃rs,Carries (bI P w) ws rs/\KV kvs rs
 | [],_,r=>by rw[List.map_nil] at r;cases r;exact⟨[],True.intro,.nil⟩
 | p::kvs,_,r=>by
  rw[ϑ] at r;cases r with
  | @cons a b as bs h t =>
   obtain⟨rs,c,q⟩:=uE (P:=P) (w:=w) t;obtain⟨b1,b2⟩:=b;exact⟨(p.1,b2)::rs,⟨n8 h.1,rfl,c⟩,.cons ⟨rfl,h.2⟩ q⟩
def Nf(Ws:List 3e0):TE:=λZ H Q=>∀p,H p=none->pA Ws Z (UK H p (.dK [])) λps H2=>H2 p=some (.dK [])/\∃kvs:List 0e0,ps=kvs.map (λkv=>(kV kv.1,kv.2))/\kvs.length<=15/\Q (.ref p) (UK H2 p (.dK (e9 [] kvs)))
theorem EC{keys:List 2e0}{values:List Expr}(h:PPs X pos keys values Ws)(Xt:keys.all (·.isSome)=true)(hl:keys.length=values.length)(h0:keys≠[])(h15:keys.length<=15):PE X (.Dict keys values pos) (Nf Ws):=by
 intro UJ s Z H Q I q;have hn:=I.UQ.fresh (Ζ s.heap.objs.size);have I1:=I.laid (a:=s.heap.objs.size) (o:=.dK []) (h':=s.heap.push {cls:=.type "dict",data:=.dict #[]}) (t':=s.toks) (λ_ _ q=>Θ _ q) (Ζ _) (Bl s.heap I.big);refine wpAny_Dict_walk (knd:=bI X.prog X.w) Xt hl h0 h15 (thn (h UJ _ Z _ _ I1 (q _ hn)) λws s2 ⟨ps,H2,I2,rel,e,kvs,ep,lk,q2⟩=>?_);subst ep;obtain⟨rs,c,rk⟩:=uE (P:=X.prog) (w:=X.w) rel;obtain⟨z,hd,ZL,r0,dd⟩:=nX I2.UQ e;cases r0;refine⟨rs,c,dd,λh' Wc hs=>⟨.ref s.heap.objs.size,_,?_,rfl,q2⟩⟩;have hz:(e9 [] kvs).length<=sizeLine:=by
  have h1:=n9 kvs [];rw[ϔ] at h1;rw[Γ2];omega
 have he:∃q,h'.get? s.heap.objs.size=some q:=let ⟨q,_,_,hq,_⟩:=Wc;⟨q,hq⟩;exact nB I2 (by rw[e];exact True.intro) hs he (oR hz hd (rk.merge .nil) Wc)
structure M1(X:Cx)(o:Expr)(m:Str)(apos:Pos)(e:Expr)(US:Pos):Prop where
 base:attributeBase o m X.env 0e1=eval o X.env
 U2:((backTo US 8e0).all 2e1&&(backToKw US 7e0).all 9e0
 &&decide (([e]:List Expr).length+([]:List Keyword).length+4e0 < 30))=true
 line:5e0=true
 trees:backTo US 8e0=[(false,eval e X.env)]
structure M2(X:Cx)(o:Expr)(m:Str)(apos:Pos)(e f:Expr)(US:Pos):Prop where
 base:attributeBase o m X.env 0e1=eval o X.env
 U2:((backTo US 6e0).all 2e1&&(backToKw US 7e0).all 9e0
 &&decide (([e,f]:List Expr).length+([]:List Keyword).length+4e0 < 30))=true
 line:5e0=true
 trees:backTo US 6e0=[(false,eval e X.env),(false,eval f X.env)]
def UA(H:Hp)(a:Addr):Prop:=(∃kvs,Rd H a (.dK kvs))\/∃kvs,Rd H a (.dT kvs)
def qX(I:UM X UJ Z H s)(d:UA H a) : s.TypeIs (.ref a) "dict"/\(∀b,Value.ref a=.ref b->∃ob,s.heap.get? b=some ob/\ob.dict=none)/\(a==sysModules)=false:=by
 rcases d with⟨kvs,e⟩|⟨kvs,e⟩
 ·obtain⟨_,hd,vs,_,dd⟩:=uI I.UQ e;refine⟨dd.typeIs,λb q=>?_,hd⟩;cases q;obtain⟨ob,_,_,h1,h2,_⟩:=dd;exact⟨ob,h1,h2.2.1⟩
 ·obtain⟨_,hd,xs,_,dd⟩:=uM I.UQ e;refine⟨dd.typeIs,λb q=>?_,hd⟩;cases q;obtain⟨ob,_,_,h1,h2,_⟩:=dd;exact⟨ob,h1,h2.2.1⟩
end
section
variable{d:V}{r:Value}{A:Around}{E:q0A}
def NM(hu:A.units+1 < cLine)(I:UM X UJ Z H s)(g:DGet H a y o)(ry:bQ y u)(h:∀w' s',UM X UJ Z H s'->bQ (o.getD .UL) w'->Q w' s') : wpAny (model X.prog X.w) A (call (.builtin "dict.get") [.ref a,u]) Q E s:=by
 rcases g with⟨kvs,k,e,ey,l⟩|⟨kvs,k,b,e,ey,eb,l⟩
 ·subst ey;obtain⟨z,hd,vs,rel,dd⟩:=uI I.UQ e;refine Δ1 Γ8 dd.typeIs PySem.F.entry_dict_get (PySem.F.args_dict_get_2 _ _) (meets_dict_get (bI X.prog X.w) a (n8 ry) hd) ⟨_,dd.mapOf,h _ _ (I.tok _) ?_⟩;rw[l];exact(rel.val k).getD rfl
 ·subst ey;cases (show u=Value.ref b from ry);obtain⟨z,hd,xs,rel,dd⟩:=uM I.UQ e;refine Δ1 Γ8 dd.typeIs PySem.F.entry_dict_get (PySem.F.args_dict_get_2 _ _) (meetsH_dict_get (tupleKind (bI X.prog X.w)) a b hd) ⟨tupleKind_room_in1 hu,k,xs,qZ I.UQ eb,dd,h _ _ (I.tok _) ?_⟩;rw[l];exact(rel.val k).getD rfl
def NS(hu:A.units+1 < cLine)(I:UM X UJ Z H s)(g:DGet H a y o)(ry:bQ y u)(rd:bQ d r)(h:∀w' s',UM X UJ Z H s'->bQ (o.getD d) w'->Q w' s') : wpAny (model X.prog X.w) A (call (.builtin "dict.get") [.ref a,u,r]) Q E s:=by
 rcases g with⟨kvs,k,e,ey,l⟩|⟨kvs,k,b,e,ey,eb,l⟩
 ·subst ey;obtain⟨z,hd,vs,rel,dd⟩:=uI I.UQ e;refine Δ1 Γ8 dd.typeIs PySem.F.entry_dict_get (PySem.F.args_dict_get_3 _ _ _) (meets_dict_get_default (bI X.prog X.w) a (n8 ry) hd r) ⟨_,dd.mapOf,h _ _ (I.tok _) ?_⟩;rw[l];exact(rel.val k).getD rd
 ·subst ey;cases (show u=Value.ref b from ry);obtain⟨z,hd,xs,rel,dd⟩:=uM I.UQ e;refine Δ1 Γ8 dd.typeIs PySem.F.entry_dict_get (PySem.F.args_dict_get_3 _ _ _) (meetsH_dict_get_default (tupleKind (bI X.prog X.w)) a b hd r) ⟨tupleKind_room_in1 hu,k,xs,qZ I.UQ eb,dd,h _ _ (I.tok _) ?_⟩;rw[l];exact(rel.val k).getD rd
end
section
variable{o e f:Expr}{apos US:Pos}{td ty tx:TE}
end
section
variable{kvs:List (Key×V)}{A:Around}{E:q0A}
end
section
variable{A:Around}{E:q0A}
end
end Lake
namespace Att
open PySem PySem.W PySem.Calls PyProof.Rows
mutual
example:=[.bool true,ns.map WData.int,true==true]
variable{h:Heap}{l:OpenLaw}
def sY{P:Params}:∀(ns:List Int) (vs:List Value),WellAll P h vs 1e0->IntsAre vs ns:=by
 intro ns
 induction ns with
 | nil =>
  intro vs w;rw[List.map_nil] at w;cases w;exact .nil
 | cons n ns ih =>
  intro vs w;rw[ϑ] at w;cases w with
  | cons a b =>
   cases a;exact .cons _ _ (ih _ b)
theorem GQ{n:Nat}(hn:l.most=some n){P:Params}{args:List WData}{vals:List Value}(X7:l.row.toRowW.claim.pre args=true)(hwl:WellAll P h vals args) : ∃a vs ns,vals=[Value.ref a]/\args=[WData.list 1e0]/\h.get? a=some {cls:=.type "list",data:=.seq vs.toArray}/\IntsAre vs ns/\ns.length<=n:=by
 have hsh:WShape.hasAll [] args [.list .int]=true:=(pre_splitW X7).1;have hc:l.pre.holds [] {args:=args}=true:=(pre_splitW X7).2;obtain⟨d,r,rfl,h1,h2⟩:=hasAllW_cons hsh;obtain rfl:=hasAllW_nil h2;obtain⟨xs,rfl,h3⟩:=hasW_list h1;obtain⟨ns,rfl⟩:=items_int h3;have hlen:ns.length<=n:=by
  unfold OpenLaw.pre at hc;have h4:(WTm.not (.lt (.lit (.int (n:Int))) (.len (.arg 0)))).holds [] {args:=[.list (ns.map .int)]}=true:=by
   have h4:=(holds_andW hc).1;rw[hn] at h4;exact h4
  have h5:=condW_of h4 (w_not (w_lt w_lit (w_len_list (w_arg rfl))));rw[Γ] at h5;refine Nat.le_of_not_lt λq=>?_;have q':(n:Int) < ((ns.length:Nat):Int):=by omega
  first
   | (rw[decide_eq_true q'] at h5;exact absurd h5 (by decide))
   | (simp at h5;omega)
 cases hwl with
 | cons w1 w2 =>
  cases w2;cases w1 with
  | list ho Xt=>exact⟨_,_,ns,rfl,rfl,ho,sY ns _ Xt,hlen⟩
theorem GI(l:OpenLaw)(args:List WData):l.row.toRowW.claim.post args 0e0 args=true :=
 postW_of (r:=l.row.toRowW) (X:=2e0)
  (show WShape.has [] 0e0 .bool=true by first|rfl|decide|simp[WShape.has,WShape.arms,WShape.armsAll])
  (show(WTm.eq .res (.lit 0e0)).value [] {args:=args,res:=some 0e0,after:=args}=some (.bool 2e0) from w_eq_bool (w_res rfl) w_lit) rfl
def Bb{n:Nat}{q:Program}{loose:List Str}{XP:(q0C)->Heap->Prop}{YP:World->Heap->Prop}{d:DefRec}(hn:l.most=some n)(hdf:d.params.defaults=[])(call:∀(w:World) (s₀ s₁:Shared) (mg mb:q0C) (fa:Addr) (o:Obj) (pm cd doc:Value) (a:Addr) (vs:List Value) (ns:List Int), Ground q loose [] XP w s₀ mg mb s₁.heap->YP w s₁.heap -> s₁.heap.get? fa=some o->o.data=.func (docDef d.name d.params d.body d.scope pm cd doc)->s₁.heap.CodeRec cd d.name->mg d.name=some (.ref fa) -> s₁.heap.get? a=some {cls:=.type "list",data:=.seq vs.toArray}->IntsAre vs ns->ns.length<=n->s₁.gens = #[] -> codeAny (model l.prog w) callerA (.call (.ref fa) ⟨[.ref a],[]⟩) (λr s'=>r=.ok (.ret 0e0)/\OldK s₁.heap s'.heap/\s'.os=s₁.os/\AllBare s'.gens) s₁) : WalkO q loose XP YP l.row.toRowW d [] (λf vs=>PySem.call f vs):=by
 intro w s₀ s₁ mg mb G Y fa o pm cd doc dV kV ho hd Xv hD hmg hg args vals as X7 acB hrd hwl hlo;obtain rfl:dV=.none:=Dflts.none hD hdf;obtain rfl:kV=.none:=Dflts.noKw hD;obtain⟨a,vs,ns,rfl,rfl,Y1,hints,hlen⟩:=GQ hn X7 hwl;refine enter_call (codeAny_mono (call w s₀ s₁ mg mb fa o pm cd doc a vs ns G Y ho (fd_plain hd) Xv hmg Y1 hints hlen hg) λr s' hq=>?_);obtain⟨rfl,h2,h3,h4⟩:=hq;exact⟨.inl ⟨.bool true,.bool true,[],rfl,λ_=>rfl,.bool true,GI l _,λ_=>⟨List.Pairwise.nil,λ_ hm=>(nomatch hm)⟩⟩,h2,h3,h4⟩
end
section
mutual
example:=[]
variable{prog:Program}{w:World}{A:Around}{E:q0A}{s:Shared}{K:Frag}
def Ar(h:Heap):Heap:={h with objs:=#[]}
def oU(h:Heap)(b:Addr):(Ar h).get? b=none:=by
 cases e:(Ar h).get? b with
 | none=>rfl
 | some o=>exact absurd (Μ e) (Nat.not_lt_zero _)
def ledger(h:Heap)(L d:Addr):List (Addr×Obj):=(List.range h.objs.size).filterMap λa=>if a=L\/a=d then none else (h.get? a).map λo=>(a,o)
def kZ{L d a:Addr}{o:Obj}:(a,o)∈ledger h L d↔a≠L/\a≠d/\h.get? a=some o:=by
 unfold ledger;rw[List.mem_filterMap];constructor
 ·rintro⟨b,_,e⟩;split at e
  ·cases e
  ·rename_i hb
   obtain⟨o',ho,e'⟩:=ϛ.mp e;cases e';exact⟨λq=>hb (.inl q),λq=>hb (.inr q),ho⟩
 ·rintro⟨n1,n2,ho⟩;refine⟨a,List.mem_range.mpr (Μ ho),?_⟩;rw[if_neg (show ¬ (a=L\/a=d) from λq=>q.elim n1 n2),ho]<;>rfl
def mD{L d:Addr}{od:Obj}(Vv:d≠L)(ho:h.get? d=some od):News (Ar h) L h ([]++(d,od)::ledger h L d):=by
 rintro⟨a,o⟩ hp;rcases Α.mp hp with e|hp
 ·cases e;exact⟨ho,Vv,oU _ _⟩
 ·obtain⟨n1,n2,e⟩:=kZ.mp hp;exact⟨e,n1,oU _ _⟩
def C1{L:Addr}{m:q0C}(n:h.Ns L m):Fr (Ar h) L h m :=
 ⟨n,λb o e=>(by rw[oU] at e;cases e),Α1 _⟩
end
end
end Att
namespace Lake
open PySem PySem.Spec PyProof.Rows
mutual
example:=[ns.map V.int,Ah s₁.heap H,(by rw[q];simp),(by simp),(λr s'=>r=.ok (.ret (.bool true))/\OldK s₁.heap s'.heap/\s'.os=s₁.os/\AllBare s'.gens),(.call (.ref fa) ⟨[.ref a],[]⟩),(λv _=>v=.bl true),(λ_ _ _=>False),K w.params,model P w,if_neg hb]
variable{f:Addr}{fd:FuncData}{k:Nat}{st:Stmt}{x:Str}
theorem nR:∀{vs:List Value} {ns:List Int},IntsAre vs ns->UO 0e0 vs
 | _,_,.nil=>.nil
 | _,_,.cons n t h=>.cons ⟨t,rfl⟩ (nR h)
def Only(H:Hp):Prop:=∀b,H b=none\/∃o xs,H b=some (.Vi o (.lst xs))
def ID{P:Program}{w:World}{K:q0B}{mg mb:q0C}{CX:CXT}{fa a:Addr}{sp:Sp}{s₁:Shared}{vs:List Value}{ns:List Int}(KX:K.In s₁.heap)(WO:s₁.heap.Ns mainGlobals mg)(hb:s₁.heap.Ns builtinsNs mb)(hbb:∀x:Str,x≠"__name__"->mb x=bootBuiltins x)(aa8:s₁.heap.NoLimit)(hg:s₁.gens = #[])(ha:s₁.heap.get? a=some {cls:=.type "list",data:=.seq vs.toArray})(hi:IntsAre vs ns)(hl:ns.length<=sizeLine)(hr:Room k callerA)(F:∀base:Heap,K.In base->base.Ns mainGlobals mg->gH P w K mg base CX k fa fd [x] sp)(aaC:∀(s:Shared) (u:Value),BindsTo s fd ⟨[u],[]⟩ [(x,u)])(Yu:∀H:Hp,Only H->fV K H a 0e0->sp [.ref a] H 6e0 λ_ _ _=>False)(hCX:∀H e s',CX [] H s₁ 7e0 e s'->False) : codeAny 9e0 callerA 5e0 4e0 s₁:=by
  have rv:=nR hi;have abG:=hi.length;have core:∀H:Hp,Only H->fV K H a 0e0->HOk P w H s₁.heap->(∀b,H b≠none->b=a)->(H a≠none->K.lookup a=none) ->
      codeAny 9e0 callerA 5e0 4e0 s₁:=by
    intro H hO hS UQ hA hK;have Wv:∀{b:Addr} {o:Obj},s₁.heap.get? b=some o->H b=none->(Ah s₁.heap H).get? b=some o:=λe n=>Iw e n;have noA:∀{b:Addr} {o:Obj} {es:Array DictEntry} {ep:Nat},s₁.heap.get? b=some o->o.data=.dict es ep->H b=none:=λ{b o es ep} e d=>by
      cases q:H b with
      | none=>rfl
      | some u =>
        have e':b=a:=hA b 2e0;subst e';rw[ha] at e;cases e;have d':Data.seq vs.toArray _=Data.dict es ep:=d;cases d'
    have nsK:∀{b:Addr} {m:q0C},s₁.heap.Ns b m->(Ah s₁.heap H).Ns b m:=λ{b m} ⟨o,es,ep,e,d,r⟩=>⟨o,es,ep,Wv e (noA e d),d,r⟩;have hKb:K.In 1e0:=λb o e=>Wv (KX b o e) (by
      cases q:H b with
      | none=>rfl
      | some u =>
        have e':b=a:=hA b 2e0;subst e';rw[hK 2e0] at e;cases e)
    have hM:Mod K mg 1e0:=⟨hKb,nsK WO,⟨mb,nsK hb,hbb⟩,let ⟨mc,h1,h2⟩:=aa8;⟨mc,nsK h1,h2⟩⟩;have e0:Env0 P w K mg 1e0 callerA [] s₁ H:=⟨rfl,hM,λb o e=>LU e,Nat.le_of_eq (FK _ _),trivial,λb hb=>absurd (show b∈([]:List Addr) from hb) 3e0,UQ,.of_eq hg⟩;refine codeAny_mono ((F _ hKb (nsK WO)).run callerA [] s₁ H ⟨[.ref a],[]⟩ [.ref a] [.ref a] _ _ hr e0 (aaC s₁ (.ref a)) (.cons rfl .nil) (Yu H hO hS)) λr s' h=>?_;cases r with
    | error e=>exact(hCX H e s' h).elim
    | ok fl =>
      cases fl with
      | next=>exact False.elim h
      | brk=>exact False.elim h
      | cont=>exact False.elim h
      | ret u =>
        obtain⟨v,H',os,bare,un,abC,r',q⟩:=h;have q':v=.bl true:=q;subst q';obtain rfl:u=Value.bool true:=r';refine⟨rfl,OldK.of_keep λb o e=>?_,os,bare⟩;cases q:H b with
        | none=>exact un.keep b o e q (by intro z;exact absurd (show b∈([]:List Addr) from z) 3e0) 3e0
        | some u =>
          rcases hO b with z|⟨ob,xs,z⟩
          · rw[q] at z;cases z
          · have z2:=un.uT b ob _ z;obtain⟨e1,_⟩:=UQ b _ z;obtain⟨e2,_⟩:=abC b _ z2;rw[e] at e1;cases e1;exact e2
  cases hk:K.lookup a with
  | some o =>
    have e:=KX a o hk;rw[ha] at e;cases e;refine core (λ_=>none) (λ_=>.inl rfl) (.inr ⟨_,vs.toArray,_,hk,rfl,rfl,rfl,by rw[Η,abG];exact hl,by simpa using rv⟩) (λb u z=>by have z':(none:Option HO)=some u:=z;cases z') (λb z=>absurd rfl z) λz=>absurd rfl z
  | none =>
    refine core (λb=>if b=a then some (.Vi {cls:=.type "list",data:=.seq vs.toArray} (.lst 0e0)) else none) (λb=>?_) (.inl (.inr ⟨{cls:=.type "list",data:=.seq vs.toArray},if_pos rfl⟩)) (λb u z=>?_) (λb z=>?_) λ_=>hk
    · by_cases hb:b=a
      · exact .inr ⟨_,_,if_pos hb⟩
      · exact .inl 0e1
    · by_cases hb:b=a
      · have z':=(if_pos hb).symm.trans z;cases z';subst hb;exact⟨ha,by rw[Γ];exact hl,vs,_,rv,ha⟩
      · have z':=(if_neg hb).symm.trans z;cases z'
    · by_cases hb:b=a
      · exact hb
      · exact absurd 0e1 z
def MA{l:PySem.W.OpenLaw}{n:Nat}{q:Program}{loose:List Str}{XP:(q0C)->Heap->Prop}{YP:World->Heap->Prop}{d:DefRec}{K:Params->q0B}{CX:World->CXT}{sp:World->Sp}(hn:l.most=some n)(Yr:n<=sizeLine)(hdf:d.params.defaults=[])(hr:Room k callerA)(hY:∀(w:World) (h:Heap),YP w h->(K w.params).In h)(F:∀(w:World) (mg:q0C) (fa:Addr) (h:Heap),(K w.params).In h->h.Ns mainGlobals mg->mg d.name=some (.ref fa) -> ∃fd:FuncData,(∀(s:Shared) (u:Value),BindsTo s fd ⟨[u],[]⟩ [(x,u)]) /\ ∀base:Heap,(K w.params).In base->base.Ns mainGlobals mg->gH l.prog w 8e0 mg base (CX w) k fa fd [x] (sp w))(Yu:∀(w:World) (H:Hp) (a:Addr) (ns:List Int),ns.length<=n->Only H->fV 8e0 H a 0e0->sp w [.ref a] H 6e0 λ_ _ _=>False)(hCX:∀(w:World) (H:Hp) (s:Shared) (e:Value) (s':Shared),CX w [] H s 7e0 e s'->False) : PySem.W.WalkO q loose XP YP l.row.toRowW d [] (λf vs=>PySem.call f vs):=by
 refine Att.Bb hn hdf λw s₀ s₁ mg mb fa o pm cd doc a vs ns G Y ho hd Xv hmg Y1 hints hlen hg=>?_;have KX:=hY w _ Y;obtain⟨fd,hb,hF⟩:=F w mg fa _ KX G.T.g hmg;exact ID KX G.T.g G.T.b G.T.builtins G.T.nolimit hg Y1 hints (Λ hlen Yr) hr hF hb (λH hO hS=>Yu w H a ns hlen hO hS) λH e s'=>hCX w H s₁ e s'
def bW(s:Stmt)(j:Nat):Stmt:=match s with
 | .ClassDef _ _ _ body _ _ _ _ _ _ _=>body.getD j (.Pass ⟨0,0,0,0⟩)
 | _=>.Pass ⟨0,0,0,0⟩
def iH(s:Stmt):Arguments:=match s with
 | .FunctionDef _ a _ _ _ _ _ _ _ _=>a
 | _=>{posonlyargs:=[],args:=[],vararg:=none,kwonlyargs:=[],kw_defaults:=[],kwarg:=none,defaults:=[]}
def gB(s:Stmt):List Stmt:=match s with
 | .FunctionDef _ _ b _ _ _ _ _ _ _=>b
 | _=>[]
def cU(s:Stmt):Scope:=match s with
 | .FunctionDef _ _ _ _ _ _ sc _ _ _=>sc
 | _=>{kind:=.function,names:=[],isGenerator:=false,isCoroutine:=false}
abbrev VD:CXT:=λ_ _ _ _ _ _=>False
abbrev E0:XK:=λ_ _ _=>False
def pass0{X:Cx}:Passes VD X E0:=λ_ _ _ _ _ _ _ h=>h.elim
structure Fun(K:q0B)(x qual:Str)(st:Stmt)(f:Addr)(fd:FuncData):Prop where
 ex:∃(oc:Value) (od:Option Addr) (kV doc pm:Value) (an:Option Addr) (U9 ct:Value) (Xf:Array (Option Value)),
  fd=PySem.W.fnOf x qual (iH st) (gB st) (cU st) .none kV doc pm an U9 ct/\K.lookup f=some ⟨oc,od,.func fd,Xf⟩/\PySem.W.codeIn K U9 qual=true
 kp:PySem.W.keepIn K (.ref f)=true
end
section
variable{P:Program}{w:World}{K:q0B}{mg:q0C}{base:Heap}
def Fun.ok{qual:Str}{N ps:List Str}{sp:Sp}(F:Fun K x qual st f fd)(S:mX N ps (cU st))(len:∀vs H Q E,sp vs H Q E->vs.length=ps.length)(V6:∀(U9:Value) (A:Around) (outer:List Env) (s:Shared) (H:Hp) (vs:List V) (Q:VK) (E:XK),Room k (A.deeper (envOfC qual (cU st) s.heap.objs.size f U9))->sp vs H Q E -> ∃t,VW (Ae VD P w K mg base N qual (cU st) f U9 A outer s H E).nox (gB st) t/\t {nx:=λ_ H'=>Q .UL H',rt:=Q} (start N vs) H):gH P w K mg base VD (k+1) f fd ps sp:=by
 obtain⟨oc,od,kV,doc,pm,an,U9,ct,Xf,rfl,lk,Xv⟩:=F.ex;refine Rt lk Xv S len λA outer s H vs Q E hr Yu=>?_;obtain⟨t,h,q⟩:=V6 U9 A outer s H vs Q E hr Yu;exact⟨t,h.nox,q⟩
def Fun.binds{qual:Str}{ps:List Str}(F:Fun K x qual st f fd)(h:∀(kV doc pm:Value) (an:Option Addr) (U9 ct:Value) (us:List Value),us.length=ps.length->bindArgs (PySem.W.fnOf x qual (iH st) (gB st) (cU st) .none kV doc pm an U9 ct) ⟨us,[]⟩=pure (ps.zip us)):Binds K fd ps []:=by
 obtain⟨oc,od,kV,doc,pm,an,U9,ct,Xf,rfl,lk,Xv⟩:=F.ex;exact .all (h kV doc pm an U9 ct)
def Io{qual:Str}{oc:Value}{od an:Option Addr}{Xf:Array (Option Value)}{kV doc pm U9 ct:Value}(l:K.lookup f=some ⟨oc,od,.func (PySem.W.fnOf x qual (iH st) (gB st) (cU st) .none kV doc pm an U9 ct),Xf⟩)(c:PySem.W.codeIn K U9 qual=true)(k:PySem.W.keepIn K (.ref f)=true):Fun K x qual st f (PySem.W.fnOf x qual (iH st) (gB st) (cU st) .none kV doc pm an U9 ct):=⟨⟨oc,od,kV,doc,pm,an,U9,ct,Xf,rfl,l,c⟩,k⟩
end
theorem nZ{A:Around}(hr:Room k A):A.units+1 < cLine:=Ε3 (Nat.add_le_add_left (by decide:1<=64) _) hr.units
theorem small1000{n:Nat}(h:n<=1000):n < sizeLine:=Ε3 h (by decide)
section
variable{X:Cx}
theorem pv(i:Nat){pos:Pos}(hN:X.N[i]?=some x:=by rfl)(hv:Vis X.env.scope x:=by trivial)(hd:(x==("__debug__":Str))=false:=by decide)(Xv:(x==("__classdict__":Str))=false:=by decide):PE X (.Name x pos) (lV i):=lB hN hv hd Xv
end
def Same(H H':Hp):Prop:=∀b o,H b=some o->H' b=some o
def Same.seq{K:q0B}{H H':Hp}{a:Addr}{xs:List V}(e:Same H H')(h:fV K H a xs):fV K H' a xs:=by
 rcases h with(h|⟨o,h⟩)|h
 ·exact .inl (.inl (e _ _ h))
 ·exact .inl (.inr ⟨o,e _ _ h⟩)
 ·exact .inr h
section
variable{X:Cx}
end
section
variable{κ:Type}[DecidableEq κ]
end
end Lake
set_option maxHeartbeats 4000000
namespace Lake
open PySem PySem.Spec PyProof.Rows
mutual
example:=[]
variable{a it l:Addr}{A:Around}{items:Array Value}{r:Bool}{X:Cx}{tg:Expr}{h:Heap}{H:Hp}{g:Int->Int->V}{J:It}{UJ:List (Addr×Obj)}{kvs:List (Key×V)}{cl:List (Str×Addr)}{R:List (V×V)->Hp->Prop}{fp:List Addr}{es:List Expr}{ns:List Int}{fr:List Nat}{vs xs ys:List V}{k:List V->Prop}{i j m0 n:Nat}{tn:Nat->Heap->Prop}{Pv:Nat->List V->Hp->Prop}{W:Nat->Nat->List V->Hp->Prop}{o:Option HO}{O:Option Int->Hp->Prop}{o0 o1 o2:Option V}{Q:Option Value->Shared->Prop}{pos:Pos}{P:Program}{sc:Scope}{t:SetTable}{s:Shared}{Z:St}{N:St->Hp->Prop}{x y:Str}{v:Value}{RR:Value->Addr->Result->Shared->Prop}{w:World}{E:q0A}{K:q0B}
theorem lY:bootBuiltins "int"=some (.type "int"):=by decide +kernel
theorem KI:bootBuiltins "dict"=some (.type "dict"):=by decide +kernel
theorem fB:bootBuiltins "tuple"=some (.type "tuple"):=by decide +kernel
theorem oP:bootBuiltins "max"=some (.builtin "max"):=by decide +kernel
theorem Ac:bootBuiltins "min"=some (.builtin "min"):=by decide +kernel
theorem m9:bootBuiltins "sorted"=some (.builtin "sorted"):=by decide +kernel
theorem fK:bootBuiltins "len"=some (.builtin "len"):=by decide +kernel
end
section
def Qk(_ j:Int):Prop:=0 < j/\j.natAbs.log2 < 9000
theorem BS:jR X (binaryOp .FloorDiv) (rI Qk λi j=>.int (i / j)):=S8 λi j _ _ _ _ _ hc q=>by
 have h1:(0:Int) < j:=hc.1;exact floordiv_int (by omega) (by rw[Int.fdiv_eq_ediv_of_nonneg i (by omega)];exact q) (.inl (PyProof.noPylong_of_log2 hc.2))
theorem log2_lt{j:Int}(h0:0 < j)(h:j<=10 ^ 45):j.natAbs.log2 < 9000:=by
 have h1:j.natAbs<=10 ^ 45:=by omega
 have h2:j.natAbs < 2 ^ 150:=Ε3 h1 (by decide);have h3:j.natAbs.log2 < 150:=(Nat.log2_lt (by omega)).mpr h2;omega
end
noncomputable def mB:Expr->Bool
 | .Starred ..=>true
 | _=>false
def GU{e:Expr}{env:Env}(h:mB e=false):starEach (e::es) env=(false,eval e env)::starEach es env:=by
 cases e<;>first|rfl|cases h
section
variable{e:Expr}{te:TE}{t:TA}
def dJ(ha:PE X e te)(hr:PA X es t)(h:mB e=false:=by rfl):PA X (e::es) (mV te t):=EA ha hr (GU h)
end
noncomputable abbrev vQ(prog:Program)(w:World)(A:Around)(env:Env)(R:Result->Shared->Prop):Value->Shared->Prop:=notedBy (model prog w) A env λe s'=>R (.error e) s'
noncomputable abbrev Fl(ifs:List Expr)(env:Env):Sem Bool:=forIn ifs true λc r=>if r=true then do let ok <- isTrue c env (eval c env);pure (ForInStep.yield ok) else pure (ForInStep.yield r)
section
variable{prog:Program}{R:Result->Shared->Prop}
def Bi{elt target iter:Expr}{ifs:List Expr}{scope:Scope}{it acc:Value}{env:Env}(I:Nat->Shared->Prop)(turn:∀n s,I n s->wpAny (model prog w) A (pyNext it) (λr s₁=>match r with|none=>R (.ok .next) s₁|some v=>wpAny (model prog w) A (letOwnedTupleGo target it v) (λ_ s₁'=>wpAny (model prog w) A (assign target env v) (λ_ s₂ => wpAny (model prog w) A (Fl ifs env) (λok s₃ => if ok=true then wpAny (model prog w) A (eval elt env) (λx s₄ => wpAny (model prog w) A (call (.builtin "list.append") [acc,x]) (λ_ s₅=>∃m,m < n/\I m s₅) (vQ prog w A env R) s₄) (vQ prog w A env R) s₃ else ∃m,m < n/\I m s₃) (vQ prog w A env R) s₂) (vQ prog w A env R) s₁') (vQ prog w A env R) s₁) (vQ prog w A env R) s)(n:Nat)(h:I n s):codeAny (model prog w) A (.compLoop (.ListComp elt [⟨target,iter,ifs,0⟩] scope pos) 0 it acc env) R s:=by
 refine codeAny_loop rfl I (λn s hI=>?_) n h;show wpAny _ A ((compTurn (.ListComp elt [⟨target,iter,ifs,0⟩] scope pos) 0 it acc env).onRaise (λx=>do noteFrame x env;theTreesLotGoes x)) _ _ s;refine wpAny_noted ?_;rw[compTurn_list];refine Β (wpAny_standAt (Β (Β5 (turn n s hI) (λr s₁ h₁=>?_) λ_ _ h'=>h')));cases r with
 | none=>exact Ι h₁
 | some v =>
  refine Β (Β5 h₁ (λ_ s₁' h₁'=>?_) λ_ _ h'=>h');refine Β (Β5 h₁' (λ_ s₂ h₂=>Β (Β5 h₂ (λok s₃ h₃=>?_) λ_ _ h'=>h')) λ_ _ h'=>h');cases ok with
  | false=>exact Ι ⟨rfl,h₃⟩
  | true =>
   exact Β (Β (Β5 h₃ (λx s₄ h₄=>Β (Β5 h₄ (λ_ s₅ h₅=>Ι (Ι ⟨rfl,h₅⟩)) λ_ _ h'=>h')) λ_ _ h'=>h'))
end
noncomputable def cN(X:Cx)(sc:Scope)(cl:List (Str×Addr))(C:Addr)(N:List Str)(s:Shared)(H:Hp)(ex:List Addr)(pn:List (Addr×Obj)):Cx :=
 {X with env:=compEnvC sc cl C X.env,N:=N,s₀:=s,H₀:=H,outer:=X.stack,ex:=ex,fn:=λ_=>false,pn:=pn}
structure eC(X:Cx)(sc:Scope)(cl:List (Str×Addr))(x:Str)(fr:List Nat)(N:List Str):Prop where
 kind:sc.kind=.function
 rG:∀y∈sc.names,y.2≠.cell
 names:∀y∈sc.names,y.2=.local->sc.names.lookup y.1=some .local
 xY:closureFor sc X.env=pure cl
 sub:∀y c,cl.lookup y=some c->X.env.cells.lookup y=some c
 has:∀y,((relabel sc X.env).names.lookup y=some .cell\/(relabel sc X.env).names.lookup y=some .free)->∃c,cl.lookup y=some c
 Xg:sc.names.lookup x=some .local
 nd:N.Nodup
 N0:N=x::fr.map λj=>X.N.getD j x
 XM:∀j∈fr,∃y,X.N[j]?=some y/\X.env.kindOf y=some .cell/\((relabel sc X.env).names.lookup y=some .cell\/(relabel sc X.env).names.lookup y=some .free)
def bC(fr:List Nat)(Z:St):St:=fr.map λj=>(Z[j]?).join
section
mutual
example:=[S.sub y c e,some v,X.pn++UJ,cN X sc cl C N s H fp 2e0,Χ (Μ e) hC,I.rX b hm]
variable{C:Addr}{N:List Str}
def KU(I:UM X UJ Z H s)(S:eC X sc cl x fr N)(hf:∀b∈fp,lU X UJ H b)(Wl:∀b∈fp,b < s.heap.objs.size)(hC:s.heap.objs.size<=C) : (cN X sc cl C N s H fp 2e0).Ok where
 mod:=I.ok.mod
 kind:=S.kind
 glob:=I.ok.glob
 blt:=I.ok.blt
 above:=hC
 inj:=λy z c h1 h2=>I.ok.inj y z c (S.sub y c h1) (S.sub z c h2)
 has:=S.has
 cab:=λ_ _ h=>by cases h
 hd:=I.ok.hd
 frames:=I.ok.frames
 stk:=.inl rfl
 exf:=λb hb=>⟨Τ (Χ (Wl b hb) hC),λy c e=>(hf b hb).2.2.2.2.1 y c 0e0⟩
 bs:=I.bs
 bsz:=Λ I.ok.bsz I.sz
 BI:=λb o e hb=>by
  rcases(hf b hb).2.2.2.1 with z|z
  ·exact I.ok.BI b o e z
  ·exact absurd (Χ (Μ e) (Λ I.ok.bsz z)) (Α0 _)
 Fz:=λb hb hm=>by
  rcases Α.mp 5e0 with z|z
  ·exact(hf b hb).2.1 z
  ·exact(hf b hb).2.2.1 z
 pF:=I.stack
 frf:=I.AV
def nostk(I:UM X UJ Z H s){b:Addr}(h1:b≠X.env.locals)(h2:b∉X.fs):b∉frs X.stack:=λhm=>by
 rcases Α.mp 5e0 with z|z
 ·exact h1 z
 ·exact h2 z
def HG(I:UM X UJ Z H s)(S:eC X sc cl x fr N)(hf:∀b∈fp,lU X UJ H b)(Wl:∀b∈fp,b < s.heap.objs.size)(hC:s.heap.objs.size<=C){h1:Heap}{t1:Nat}{m0:q0C}(hn:h1.Ns C m0)(hk:∀b o,s.heap.get? b=some o->h1.get? b=some o):UM 3e0 [] (none::bC fr Z) H {s with heap:=h1,toks:=t1}:=by
 refine⟨KU I S hf Wl hC,rfl,I.bare,Un.kept hk,⟨m0,hn,λi y v e1 e2 e3=>?_⟩,λy c e=>?_,I.UQ.fresh hC,λy c e=>I.kE y c 0e0,λp hp=>?_,I.UQ.kept hk,?_⟩
 ·have VQ:N[i]?=some y:=e1;rw[S.N0] at VQ;cases i with
  | zero =>
   have z:(some (none:Option V))=some 1e0:=e2;cases z
  | succ j =>
   have Vy:(fr.map λj=>X.N.getD j x)[j]?=some y:=VQ;have WI:(bC fr Z)[j]?=some 1e0:=e2;unfold bC at WI;rw[ϖ] at Vy WI;cases q:fr[j]? with
   | none=>rw[q] at Vy;cases Vy
   | some k =>
    rw[q] at Vy WI;have ey:X.N.getD k x=y:=ϓ Vy;have ev:(Z[k]?).join=some v:=ϓ WI;obtain⟨y',hy,VB,XA⟩:=S.XM k (ϒ q);have eyy:y=y':=by
     rw[<- ey,Ε7,hy];rfl
    subst eyy;have ev':Z[k]?=some 1e0:=by
     cases z:Z[k]? with
     | none=>rw[z] at ev;cases ev
     | some o =>
      rw[z] at ev;have ev2:o=some v:=ev;rw[ev2]
    obtain⟨m,_,hl⟩:=I.loc;obtain⟨u,r,l⟩:=hl k y v hy ev' (.inr (.inl VB));refine⟨u,r,.inr ⟨XA,?_⟩⟩;rcases l with⟨z,_⟩|⟨_,c,hc,o,ho,hd⟩
    ·rw[VB] at z;cases z
    ·obtain⟨c',Xu⟩:=S.has y XA;have z:=S.sub y c' Xu;rw[hc] at z;cases z;exact⟨c,Xu,o,hk c o ho,hd⟩
 ·obtain⟨v,o,ho,hd⟩:=I.cell y c 0e0;exact⟨v,o,hk c o ho,hd⟩
 ·have hp':p∈X.pn++UJ:=by
   have z:p∈2e0++[]:=hp;simpa using z
  obtain⟨e,n,ne,nf,d⟩:=I.pin p hp';exact⟨hk _ _ e,n,Τ 4e0,nostk I ne nf,d⟩
 ·show(none::bC fr Z).length=N.length;rw[S.N0];simp[bC]
def HF(I:UM X UJ Z H s)(hf:∀b∈fp,lU X UJ H b){D:Addr}{pl:List (Addr×Obj)}{Z':St}{H':Hp}{s':Shared}(J:UM 3e0 pl Z' H' s')(hC:s.heap.objs.size<=C)(hD:s.heap.objs.size<=D)(YS:D≠C)(Xb:H' D=none){vals:List Value}{k:Nat}(hg:s'.heap.get? D=some {cls:=.type "list",data:=.seq vals.toArray k})(rv:UO xs vals)(hz:xs.length<=sizeLine){h':Heap}(hs:Heap.SameBut C s'.heap h'):UM X UJ Z (UK H' D (.lst xs)) {s' with heap:=h'}:=by
 have lt:∀{b:Addr} {o:Obj},s.heap.get? b=some o->b < s.heap.objs.size:=λe=>Μ e;have Yz:∀{b:Addr} {o:Obj},s.heap.get? b=some o->b≠C:=λe=>Τ 4e0;have neD:∀{b:Addr} {o:Obj},s.heap.get? b=some o->b≠D:=λe=>Τ (Χ (Μ e) hD);have Zd:∀{b:Addr} {o:HO},H b=some o->b≠D:=λe=>Τ (Χ (I.UQ.lt e) hD);have base:Un (frs X.stack) fp H H' s.heap s'.heap:=J.base;have HC:H' C=none:=J.free;refine I.Qz (s':={s' with heap:=h'}) (ch:=fp) J.os ⟨λb o e n hb hx=>?_,λb o e n hb hx=>?_,λb o e n hx=>?_,λb o e hx=>?_,λb ys e=>?_,λb o u e=>?_,λb ps e=>?_⟩ (λb u e=>?_) J.bare (λb hb=>?_)
 ·exact(hs.2 b (Yz e)).trans (base.keep b o e n hb hx)
 ·obtain⟨sl,q⟩:=base.slot b o e n hb hx;exact⟨sl,(hs.2 b (Yz e)).trans q⟩
 ·rw[aC (neD e)];exact base.free b o e n hx
 ·obtain⟨o',q⟩:=base.there b o e hx;exact⟨o',(hs.2 b (Yz e)).trans q⟩
 ·rw[aC (Zd e)];exact base.yG b ys e
 ·rw[aC (Zd e)];exact base.uT b o u e
 ·rw[aC (Zd e)];exact base.yF b ps e
 ·by_cases hb:b=D
  ·subst hb;rw[aA] at e;cases e;exact⟨hz,vals,k,rv,(hs.2 b YS).trans hg⟩
  ·rw[aC hb] at e;have tC:∀{c:Addr} {o:HO},H' c=some o->c≠C:=λq z=>by rw[z,HC] at q;cases q
   have tD:∀{c:Addr} {o:HO},H' c=some o->c≠D:=λq z=>by rw[z,Xb] at q;cases q
   refine(J.UQ b u e).tF (λc v hc q=>(hs.2 c ?_).trans q) (λc q=>by rw[aC (tD q)];exact q) λc ys q=>by rw[aC (tD q)];exact q
   rcases hc with z|z
   ·rw[z];exact tC e
   ·exact tC z
 ·obtain⟨_,f1,_,f3,f4,f5⟩:=hf b hb;exact⟨f3,f1,f4,f5⟩
end
end
mutual
example:=[some y::bC fr Z]
def XG(Y:Cx)(ifs:List Expr)(t:TT):Prop :=
 ∀(UJ:List (Addr×Obj)) (s:Shared) (Z:St) (H:Hp) (Q:Bool->Hp->Prop),UM Y UJ Z H s->t Z H Q->wpAny (model Y.prog Y.w) Y.A (Fl ifs Y.env) (TP Y UJ Z Q) Y.xe s
def Nj:TT:=λ_ H Q=>Q true H
def AI{Y:Cx}:XG Y [] Nj:=λ_ _ _ H _ I h=>wpAny_tests_nil ⟨H,I,h⟩
def j4{Y:Cx}{c:Expr}{t:TT}(h:PT Y c t):XG Y [c] t:=λUJ s Z H Q I hw=>wpAny_tests_one (h UJ s Z H Q I hw)
@[irreducible] def kM(wi:TI)(fr:List Nat)(tc:TT)(te:TE):TE:=λZ H Q=>wi Z H λJ H1=>∃W:Nat->Nat->List V->Hp->Prop,(∃m,W 0 m [] H1)/\∀i m xs H,W i m xs H->xs.length<=1000000 /\
  ((J.stop i H/\∀p,H p=none->Q (.ref p) (UK H p (.lst xs))) \/
   (J.go i H/\∀y H',J.Wu i H y H'->tc 0e0 H' λb H2=>if b=true then te 0e0 H2 (λz H3=>∃m',m' < m/\W (i+1) m' (xs++[z]) H3) else ∃m',m' < m/\W (i+1) m' xs H2))
end
section
variable{N:List Str}{elt iter:Expr}{px:Pos}{ifs:List Expr}{wi:TI}{tc:TT}{te:TE}
theorem sA{g:TG}{τ0:St}{O:St->Prop}(hc:X.calm=true)(hx:∀e s,¬ X.xe e s)(NC:∀y∈sc.names,y.2≠.cell)(KD:sc.kind=.function)(SB:∀y c,cl.lookup y=some c->X.env.cells.lookup y=some c)(hpg:∀C s H ex pn,PG (cN X sc cl C N s H ex pn) tg g)(hb:∀C s H ex pn,XG (cN X sc cl C N s H ex pn) ifs tc/\PE (cN X sc cl C N s H ex pn) elt te){Q:VK}(I:UM X UJ Z H s)(T:Turn X.prog X.w X.K tg J fp it tn)(st:tn 0 s.heap)(hf:∀b∈fp,lU X UJ H b)(abE:∀(C:Addr) (h1:Heap) (t1:Nat) (m0:q0C),(∀b∈fp,b < s.heap.objs.size)->s.heap.objs.size<=C->h1.Ns C m0->(∀b o,s.heap.get? b=some o->h1.get? b=some o)->UM (cN X sc cl C N s H fp (X.pn++UJ)) [] τ0 H {s with heap:=h1,toks:=t1})(ok0:O τ0)(w0:W 0 m0 [] H)(turn:∀i m xs H,W i m xs H->xs.length<=1000000 /\ ((J.stop i H/\∀p,H p=none->Q (.ref p) (UK H p (.lst xs))) \/ (J.go i H/\∀y H',J.Wu i H y H'->∀σ1,O σ1->g y σ1 H' λσ2 H1=>O σ2/\tc σ2 H1 λb H2=>if b=true then te σ2 H2 (λz H3=>∃m',m' < m/\W (i+1) m' (xs++[z]) H3) else ∃m',m' < m/\W (i+1) m' xs H2)))(fin:∀(D C:Addr) (s':Shared) (m':q0C) (H':Hp),s'.heap.Ns C m'->lU X UJ H' C->(∀h',Heap.SameBut C s'.heap h'->UM X UJ Z H' {s' with heap:=h'})->Q (.ref D) H'->RR (.ref D) C (.ok .next) s') : wpAny (model X.prog X.w) X.A (newList []) (λacc s₃=>wpAny (model X.prog X.w) X.A (newFunctionEnv sc X.env.globals cl [] X.env.qual none .none (some X.env)) (λV1 s₄ => codeAny (model X.prog X.w) X.A (.compStart (.ListComp elt [⟨tg,iter,ifs,0⟩] sc pos) 0 (.ref it) acc {V1 with scope:=relabel sc X.env}) (RR acc V1.locals) s₄) E s₃) E s:=by
  refine Β8 (wpAny_newFunctionEnv NC (by intro y hy;simp at hy) (λh₁ Y0 X8=>?_) KD);dsimp only at Y0 X8 ⊢;generalize hH2:s.heap.push {cls:=.type "list",dict:=none,data:=.seq ([]:List Value).toArray}=G2 at Y0 X8 ⊢;have hCs:G2.objs.size=s.heap.objs.size+1:=by rw[<- hH2,Heap.size_push]
  have YS:s.heap.objs.size≠G2.objs.size:=by rw[hCs];exact Τ (Nat.lt_succ_self _)
  have hC:s.heap.objs.size<=G2.objs.size:=by rw[hCs];exact Ε5 _
  have below:∀b,b < s.heap.objs.size->b≠G2.objs.size:=λb hb=>by rw[hCs];exact Τ (Nat.lt_succ_of_lt hb)
  have old:∀b o,s.heap.get? b=some o->h₁.get? b=some o:=λb o e=>X8.extBut b o (below b (Μ e)) (Θ _ (hH2▸Θ _ e));have hD1:h₁.get? s.heap.objs.size=some {cls:=.type "list",data:=.seq ([]:List Value).toArray 0}:=X8.extBut _ _ YS (Θ _ (hH2▸Φ _ rfl));have Wl:∀b∈fp,b < s.heap.objs.size:=λb hbm=>by
    obtain⟨o,e,_⟩:=T.obj 0 s.heap st b hbm;exact Μ e
  have Xb:H s.heap.objs.size=none:=I.UQ.fresh (Ζ _);have aaW:s.heap.objs.size∉frs X.stack:=λhm=>by
    rcases Α.mp (I.rX _ hm) with z|z
    · exact absurd I.lt (by rw[<- z];exact Α0 _)
    · exact I.RU (Ζ _) z
  have ZM:∀y c,cl.lookup y=some c->c≠s.heap.objs.size:=λy c e z=>by
    obtain⟨v,q⟩:=I.cell y c (SB y c e);exact absurd q.lt (by rw[z];exact Α0 _)
  have aaV:∀p∈X.pn++UJ,p.1≠s.heap.objs.size:=λp hp z=>absurd (Μ (I.pin p hp).1) (by rw[z];exact Α0 _);have Dfp:s.heap.objs.size∉fp:=λhm=>Α0 _ (Wl _ hm);have loop:∀s₃:Shared,s₃={s with heap:=h₁,toks:=s.toks+([]:List (Str×Value)).length} ->
      codeAny (model X.prog X.w) X.A (.compLoop (.ListComp elt [⟨tg,iter,ifs,0⟩] sc pos) 0 (.ref it) (.ref s.heap.objs.size) (compEnvC sc cl G2.objs.size X.env)) (RR (.ref s.heap.objs.size) G2.objs.size) s₃:=by
    rintro s₃ rfl;have I0:=abE G2.objs.size h₁ (s.toks+([]:List (Str×Value)).length) _ Wl hC Y0 old;refine Bi (λn s'=>∃(i:Nat) (xs:List V) (vals:List Value) (k:Nat) (v0:St) (H':Hp),UM (cN X sc cl G2.objs.size N s H fp (X.pn++UJ)) [] v0 H' s'/\O v0/\tn i s'.heap/\(∀b∈fp,H' b=none) /\
      s'.heap.get? s.heap.objs.size=some {cls:=.type "list",data:=.seq vals.toArray k}/\UO xs vals/\H' s.heap.objs.size=none/\W i n xs H') ?_ m0
      ⟨0,[],[],0,τ0,H,I0,ok0,T.keep _ _ _ st λb _ o e=>old b o e,λb hb=>(hf b hb).1,hD1,.nil,Xb,w0⟩
    rintro n s1 ⟨i,xs,vals,k,v0,H1,I1,ok1,st1,fr1,hg1,rv1,aa0,w1⟩;have hlen:=rv1.length;obtain⟨hz,step⟩:=turn i n xs H1 w1;have hz2:xs.length<=sizeLine:=Λ hz (by decide);have Wq:∀{H':Hp} {pl:List (Addr×Obj)},(∀b∈fp,H' b=none)->(∀p∈pl,p.1=s.heap.objs.size)->∀b∈fp,lU (cN X sc cl G2.objs.size N s H fp (X.pn++UJ)) pl H' b:=λ{H' pl} hn Vm b hb =>
      ⟨hn b hb,below b (Wl b hb),nostk I (hf b hb).2.1 (hf b hb).2.2.1,.inl hb,λy c e=>(hf b hb).2.2.2.2.1 y c (SB y c e),λp hp z=>by
        rcases Κ.mp hp with q|q
        · exact(hf b hb).2.2.2.2.2 p q z
        · exact Dfp (by rw[<- Vm p q,z];exact hb)⟩
    have I1':UM (cN X sc cl G2.objs.size N s H fp (X.pn++UJ)) [(s.heap.objs.size,{cls:=.type "list",data:=.seq vals.toArray k})] v0 H1 s1:=I1.qB λp hp=>by
      have e:p=(s.heap.objs.size,{cls:=.type "list",data:=.seq vals.toArray k}):=by simpa using hp
      subst e;exact⟨hg1,aa0,YS,aaW,λv z=>by cases z⟩
    rcases step with⟨stop,hq⟩|⟨go,step⟩
    · refine thn (T.done (cN X sc cl G2.objs.size N s H fp (X.pn++UJ)) rfl rfl rfl hc i [(s.heap.objs.size,{cls:=.type "list",data:=.seq vals.toArray k})] s1 _ H1 _ I1' (Wq fr1 λp hp=>by
        have e:p=(s.heap.objs.size,{cls:=.type "list",data:=.seq vals.toArray k}):=by simpa using hp
        rw[e]) st1 stop) λr s2 ⟨hr,I2⟩=>?_
      subst hr;obtain⟨g2,n2,_⟩:=I2.pin (s.heap.objs.size,{cls:=.type "list",data:=.seq vals.toArray k}) (ϝ _ (by simp));obtain⟨m2,Yr,_⟩:=I2.loc;have hCn:UK H1 s.heap.objs.size (.lst xs) G2.objs.size=none:=by
        rw[aC (Ne.symm YS)];exact I2.free
      exact fin s.heap.objs.size G2.objs.size s2 m2 _ Yr (I.Il hC hCn) (λh' We=>HF I hf I2 hC (Ζ _) YS n2 g2 rv1 hz2 We) (hq _ n2)
    · refine thn (T.item (cN X sc cl G2.objs.size N s H fp (X.pn++UJ)) rfl rfl rfl hc i [(s.heap.objs.size,{cls:=.type "list",data:=.seq vals.toArray k})] s1 _ H1 _ I1' (Wq fr1 λp hp=>by
        have e:p=(s.heap.objs.size,{cls:=.type "list",data:=.seq vals.toArray k}):=by simpa using hp
        rw[e]) st1 go) λr s2 ⟨u,hr,h2⟩=>?_
      subst hr;refine thn h2 λ_ s3 ⟨y,H3,I3,r3,y3,ZI,YR⟩=>?_;have I3':=I3.pinned (Wq YR λp hp=>by
        have e:p=(s.heap.objs.size,{cls:=.type "list",data:=.seq vals.toArray k}):=by simpa using hp
        rw[e]) (T.obj _ _ ZI)
      have back:∀{σ9:St} {H9:Hp} {s9:Shared},UM (cN X sc cl G2.objs.size N s H fp (X.pn++UJ)) ([(s.heap.objs.size,{cls:=.type "list",data:=.seq vals.toArray k})]++wJ fp s3.heap) σ9 H9 s9 ->
          tn (i+1) s9.heap/\(∀b∈fp,H9 b=none)/\s9.heap.get? s.heap.objs.size=some {cls:=.type "list",data:=.seq vals.toArray k}/\H9 s.heap.objs.size=none:=λ{σ9 H9 s9} I9=>by
        refine⟨T.keep _ _ _ ZI λb hb o e=>(I9.pin (b,o) (ϝ _ (ϝ _ (k7 hb e)))).1,λb hb=>?_,?_⟩
        · obtain⟨o,e,d⟩:=T.obj _ _ ZI b hb;exact(I9.pin (b,o) (ϝ _ (ϝ _ (k7 hb e)))).2.1
        · obtain⟨a1,a2,_⟩:=I9.pin (s.heap.objs.size,{cls:=.type "list",data:=.seq vals.toArray k}) (ϝ _ (List.mem_append_left _ (by simp)));exact⟨a1,a2⟩
      have noX:∀e s',(cN X sc cl G2.objs.size N s H fp (X.pn++UJ)).xe e s'->vQ X.prog X.w X.A (compEnvC sc cl G2.objs.size X.env) (RR (.ref s.heap.objs.size) G2.objs.size) e s':=λe s' z=>(hx e s' z).elim;refine Β5 (hpg _ _ _ _ _ _ s3 _ H3 y u _ I3' r3 (step y H3 y3 v0 ok1)) (λ_ s4 ⟨σ4,H4,I4,ok4,hstep⟩=>?_) noX;obtain⟨hbT,hbE⟩:=hb G2.objs.size s H fp (X.pn++UJ);refine Β5 (hbT _ s4 _ H4 _ I4 hstep) (λok s5 ⟨H5,I5,q5⟩=>?_) noX;cases ok with
      | false =>
        rw[if_neg Ω];have q5':∃m',m' < n/\W (i+1) m' xs H5:=q5;obtain⟨m',hm,w5⟩:=q5';obtain⟨b1,b2,b3,b4⟩:=back I5;exact⟨m',hm,i+1,xs,vals,k,σ4,H5,I5.qB (λp hp=>absurd hp (by simp)),ok4,b1,b2,b3,rv1,b4,w5⟩
      | true =>
        rw[if_pos rfl];refine Β5 (hbE _ s5 _ H5 _ I5 q5) (λz s6 ⟨v6,H6,I6,r6,q6⟩=>?_) noX;obtain⟨m',hm,w6⟩:=q6;obtain⟨b1,b2,b3,b4⟩:=back I6;refine call_meets F.slot_list_append ⟨_,b3,rfl⟩ F.entry_list_append (F.args_list_append_2 _ _) (PySem.list_append s.heap.objs.size vals.toArray k z (by rw[Η];omega)) ⟨b3,?_⟩;have q7:=PySem.IsL.update b3 (λa:Array Value=>a.push z);have aaG:vals.toArray.push z=(vals++[z]).toArray:=by simp
        rw[aaG] at q7;have I6':UM (cN X sc cl G2.objs.size N s H fp (X.pn++UJ)) [] σ4 H6 s6:=I6.qB (λp hp=>absurd hp (by simp));have others:∀b o,b≠s.heap.objs.size->s6.heap.get? b=some o->(s6.heap.update s.heap.objs.size (Obj.mapSeq λa=>a.push z)).get? b=some o:=λb o Vl e=>(Heap.get?_update_other _ _ (Ne.symm Vl)).trans e;refine⟨m',hm,i+1,xs++[v6],vals++[z],_,σ4,H6,I6'.turned (it:=s.heap.objs.size) others b4 YS (.inr (Ζ _)) ZM (λp hp z'=>?_),ok4,T.keep _ _ _ b1 λb Vl o e=>others b o (λz'=>Dfp (by rw[<- z'];exact Vl)) e,b2,q7,rv1.append (.cons r6 .nil),b4,w6⟩;have hp':p∈X.pn++UJ:=by
          have z2:p∈(X.pn++UJ)++[]:=hp;simpa using z2
        exact aaV p hp' z'
  exact codeAny_compStart_list (loop _ rfl) (T.self _ _ _ _ _ (T.keep _ _ _ st λb _ o e=>old b o e) (loop _ rfl))
def uH(hc:X.calm=true)(hx:∀e s,¬ X.xe e s)(S:eC X sc cl x fr N)(hb:∀C s H ex pn,XG (cN X sc cl C N s H ex pn) ifs tc/\PE (cN X sc cl C N s H ex pn) elt te){Q:VK}(I:UM X UJ Z H s)(T:Turn X.prog X.w X.K (.Name x px) J fp it tn)(st:tn 0 s.heap)(hf:∀b∈fp,lU X UJ H b)(w0:W 0 m0 [] H)(turn:∀i m xs H,W i m xs H->xs.length<=1000000 /\ ((J.stop i H/\∀p,H p=none->Q (.ref p) (UK H p (.lst xs))) \/ (J.go i H/\∀y H',J.Wu i H y H'->tc (some y::bC fr Z) H' λb H2=>if b=true then te (some y::bC fr Z) H2 (λz H3=>∃m',m' < m/\W (i+1) m' (xs++[z]) H3) else ∃m',m' < m/\W (i+1) m' xs H2)))(fin:∀(D C:Addr) (s':Shared) (m':q0C) (H':Hp),s'.heap.Ns C m'->lU X UJ H' C->(∀h',Heap.SameBut C s'.heap h'->UM X UJ Z H' {s' with heap:=h'})->Q (.ref D) H'->RR (.ref D) C (.ok .next) s') : wpAny (model X.prog X.w) X.A (newList []) (λacc s₃=>wpAny (model X.prog X.w) X.A (newFunctionEnv sc X.env.globals cl [] X.env.qual none .none (some X.env)) (λV1 s₄ => codeAny (model X.prog X.w) X.A (.compStart (.ListComp elt [⟨.Name x px,iter,ifs,0⟩] sc pos) 0 (.ref it) acc {V1 with scope:=relabel sc X.env}) (RR acc V1.locals) s₄) E s₃) E s :=
 sA (τ0:=none::bC fr Z) (O:=λσ1=>∃v0,σ1=v0::bC fr Z) (g:=jU 0) hc hx S.rG S.kind S.sub (λC s H ex pn=>tT (i:=0) S.nd (show N[0]?=some x by rw[S.N0];rfl) (.inl (Δ8 S.Xg)) (.inr (Δ8 S.Xg))) hb I T st hf
  (λC h1 t1 m0 Wl hC hn hk=>HG I S hf Wl hC hn hk) ⟨_,rfl⟩ w0
  (λi m xs H w=>let ⟨l,z⟩:=turn i m xs H w;⟨l,z.imp id fun⟨g,h⟩=>⟨g,λy H' hy σ1 ⟨v0,e⟩=>by subst e;exact⟨⟨_,rfl⟩,h y H' hy⟩⟩⟩) fin
def pX(hc:X.calm=true)(hx:∀e s,¬ X.xe e s)(S:eC X sc cl x fr N)(hi:PI X (.Name x px) iter wi)(hb:∀C s H ex pn,XG (cN X sc cl C N s H ex pn) ifs tc/\PE (cN X sc cl C N s H ex pn) elt te)(hs:∀v,foldedSetIterable iter X.env v=pure v:=by trivial):PE X (.ListComp elt [⟨.Name x px,iter,ifs,0⟩] sc pos) (kM wi fr tc te):=by
 intro UJ s Z H Q I h;unfold kM at h;rw[eval_ListComp];refine wpAny_comprehension_free (use:=none) rfl hs S.xY S.kind S.names ?_;refine thn (hi UJ s Z H _ I h) λv s1 h1=>thn h1 λZD s2 h2=>?_;obtain⟨it,fp,tn,J,H2,e,I2,T,Wa,f2,W,⟨m0,w0⟩,turn⟩:=h2;subst e;refine uH (RR:=λacc C=>compPost (model X.prog X.w) X.A X.xe none (EP X UJ Z Q) acc C) hc hx S hb I2 T Wa f2 w0 turn ?_;intro D C s' m' H' hn _ Wk q;exact⟨m',hn,λh' We=>⟨.ref D,H',Wk h' We,rfl,q⟩⟩
end
theorem eC.dY(kind:sc.kind=.function)(nc:(sc.names.all λy=>y.2 !=.cell&&y.2 !=.free)=true)(nm:(sc.names.all λy=>!(y.2==.local)||sc.names.lookup y.1==some .local)=true)(Xg:sc.names.lookup x=some .local):eC X sc [] x [] [x] where
 kind:=kind
 rG:=λy hy e=>by
  have h:=Ζ1.mp nc y hy;rw[e] at h;exact absurd h (by decide)
 names:=λy hy e=>by
  have h:=Ζ1.mp nm y hy;rw[e] at h;simpa using h
 xY:=closureFor_none λy hy e=>by
  have h:=Ζ1.mp nc y hy;rw[e] at h;exact absurd h (by decide)
 sub:=λy c h=>by cases h
 has:=λy h=>by
  exfalso;have key:∀l:List (Str×NameKind),(l.all λy=>y.2 !=.cell&&y.2 !=.free)=true->∀k,(l.map fun(n,k)=>if (k==NameKind.free&&X.env.scope.kind==.function&&X.env.kindOf n==some .cell) then (n,NameKind.cell) else (n,k)).lookup y=some k->k≠.cell/\k≠.free:=by
   intro l
   induction l with
   | nil=>intro _ k e;cases e
   | cons p r ih =>
    obtain⟨n,kk⟩:=p;intro ha k e;rw[List.all_cons,Β6,Β6] at ha;obtain⟨⟨h1,h2⟩,h3⟩:=ha;have Zs:(kk==NameKind.free)=false:=by simpa using h2
    rw[ϑ] at e;dsimp only at e;rw[Zs,Ζ0,Ζ0,if_neg Ω,List.lookup_cons] at e;cases q:(y==n) with
    | true =>
     rw[q] at e;have e':kk=k:=ϓ e;subst e';exact⟨by simpa using h1,by simpa using h2⟩
    | false =>
     rw[q] at e;exact ih h3 k e
  rcases h with h|h
  ·exact(key sc.names nc _ h).1 rfl
  ·exact(key sc.names nc _ h).2 rfl
 Xg:=Xg
 nd:=by simp
 N0:=rfl
 XM:=λj hj=>by cases hj
section
def P6:Kv X (λx lo hi H Q=>∃z,x=.str z/\z.length<=sizeLine/\Q (.str (Txt.slice z lo hi)) H):=by
 intro UJ s Z H x v vl vu lo hi sl Q I rx hs pl pu h;obtain⟨z,rfl,hz,q⟩:=h;obtain⟨t,rfl⟩:=rx;have fin:∀t' k,EP X UJ Z Q (.str (Txt.slice z lo hi) t') {s with toks:=k}:=λt' k=>⟨.str _,H,I.tok _,⟨_,rfl⟩,q⟩;refine⟨"str",_,F.slot_str_getitem.lookup,typeIs_str s z t,?_⟩;cases pl with
 | none =>
  cases pu with
  | none=>exact wpAny_getItem_str_slice (l:=none) (u:=none) (st:=none) hs rfl (post_val_or_str ⟨Λ (Txt.slice_le z _ _) hz,fin⟩)
  | int j uj=>exact wpAny_getItem_str_slice (l:=none) (u:=some (j,uj)) (st:=none) hs rfl (post_val_or_str ⟨Λ (Txt.slice_le z _ _) hz,fin⟩)
 | int i ui =>
  cases pu with
  | none=>exact wpAny_getItem_str_slice (l:=some (i,ui)) (u:=none) (st:=none) hs rfl (post_val_or_str ⟨Λ (Txt.slice_le z _ _) hz,fin⟩)
  | int j uj=>exact wpAny_getItem_str_slice (l:=some (i,ui)) (u:=some (j,uj)) (st:=none) hs rfl (post_val_or_str ⟨Λ (Txt.slice_le z _ _) hz,fin⟩)
end
def cW(n:Nat)(Pv:Nat->List V->Hp->Prop)(i m:Nat)(xs:List V)(H:Hp):Prop:=m=n - i/\i<=n/\Pv i xs H
theorem cW.next(hi:i < n)(p:Pv (i+1) xs H):∃m',m' < n - i/\cW n Pv (i+1) m' xs H:=⟨n - (i+1),by omega,rfl,hi,p⟩
section
variable{tc:TT}{te:TE}{Q:VK}
theorem Ft(Pv:Nat->List V->Hp->Prop)(h0:Pv 0 [] H)(hz:∀i xs H,Pv i xs H->xs.length<=1000000)(hl:∀i xs H,Pv i xs H->fV K H a ys)(hs:∀i y xs H,i < ys.length->ys[i]?=some y->Pv i xs H->tc (some y::bC fr Z) H λb H2=>if b=true then te (some y::bC fr Z) H2 (λz H3=>∃m',m' < ys.length - i/\cW ys.length Pv (i+1) m' (xs++[z]) H3) else ∃m',m' < ys.length - i/\cW ys.length Pv (i+1) m' xs H2)(hd:∀xs H,Pv ys.length xs H->∀p,H p=none->Q (.ref p) (UK H p (.lst xs))) : ∃W:Nat->Nat->List V->Hp->Prop,(∃m,W 0 m [] H)/\∀i m xs H,W i m xs H->xs.length<=1000000 /\ (((WG K a).stop i H/\∀p,H p=none->Q (.ref p) (UK H p (.lst xs))) \/ ((WG K a).go i H/\∀y H',(WG K a).Wu i H y H'->tc (some y::bC fr Z) H' λb H2=>if b=true then te (some y::bC fr Z) H2 (λz H3=>∃m',m' < m/\W (i+1) m' (xs++[z]) H3) else ∃m',m' < m/\W (i+1) m' xs H2)):=by
 refine⟨cW ys.length Pv,⟨ys.length,by simp,Α1 _,h0⟩,?_⟩;rintro i m xs H ⟨rfl,hi,p⟩;refine⟨hz i xs H p,?_⟩;have q:=hl i xs H p;by_cases Ve:i < ys.length
 ·refine .inr ⟨⟨ys,ys[i],q,by simp[Ve]⟩,λy H' yy=>?_⟩;obtain⟨e,yy⟩:=yy;subst e;exact hs i y xs _ Ve (yy ys q) p
 ·have e:i=ys.length:=by omega
  subst e;exact .inl ⟨⟨ys,q,Ζ _⟩,hd xs H p⟩
theorem CU{lo:Int}(Pv:Nat->List V->Hp->Prop)(h0:Pv 0 [] H)(hz:∀i xs H,Pv i xs H->xs.length<=1000000)(hs:∀i xs H,i < n->Pv i xs H->tc (some (.int (lo+i))::bC fr Z) H λb H2=>if b=true then te (some (.int (lo+i))::bC fr Z) H2 (λz H3=>∃m',m' < n - i/\cW n Pv (i+1) m' (xs++[z]) H3) else ∃m',m' < n - i/\cW n Pv (i+1) m' xs H2)(hd:∀xs H,Pv n xs H->∀p,H p=none->Q (.ref p) (UK H p (.lst xs))) : ∃W:Nat->Nat->List V->Hp->Prop,(∃m,W 0 m [] H)/\∀i m xs H,W i m xs H->xs.length<=1000000 /\ (((WZ lo n).stop i H/\∀p,H p=none->Q (.ref p) (UK H p (.lst xs))) \/ ((WZ lo n).go i H/\∀y H',(WZ lo n).Wu i H y H'->tc (some y::bC fr Z) H' λb H2=>if b=true then te (some y::bC fr Z) H2 (λz H3=>∃m',m' < m/\W (i+1) m' (xs++[z]) H3) else ∃m',m' < m/\W (i+1) m' xs H2)):=by
 refine⟨cW n Pv,⟨n,by simp,Α1 _,h0⟩,?_⟩;rintro i m xs H ⟨rfl,hi,p⟩;refine⟨hz i xs H p,?_⟩;by_cases Ve:i < n
 ·refine .inr ⟨Ve,λy H' yy=>?_⟩;obtain⟨e,rfl⟩:=yy;subst e;exact hs i xs _ Ve p
 ·have e:i=n:=by omega
  subst e;exact .inl ⟨Ζ _,hd xs H p⟩
end
section
variable{tc:TT}{te:TE}{H1:Hp}{Q:VK}
end
def vM{l:List (Str×NameKind)}{k:NameKind}(h:l.lookup y=some k):(y,k)∈l:=Δ6 h
theorem eC.free{N:List Str}(kind:sc.kind=.function)(nc:(sc.names.all λy=>y.2 !=.cell)=true)(nm:(sc.names.all λy=>!(y.2==.local)||sc.names.lookup y.1==some .local)=true)(Xg:sc.names.lookup x=some .local)(xY:closureFor sc X.env=pure cl)(sub:∀y c,cl.lookup y=some c->X.env.cells.lookup y=some c)(has:((relabel sc X.env).names.all λy=>(y.2 !=.cell&&y.2 !=.free)||(cl.lookup y.1).isSome)=true)(nd:N.Nodup)(N0:N=x::fr.map λj=>X.N.getD j x)(XM:∀j∈fr,∃y,X.N[j]?=some y/\X.env.kindOf y=some .cell/\((relabel sc X.env).names.lookup y=some .cell\/(relabel sc X.env).names.lookup y=some .free)):eC X sc cl x fr N where
 kind:=kind
 rG:=λy hy e=>by
  have h:=Ζ1.mp nc y hy;rw[e] at h;exact absurd h (by decide)
 names:=λy hy e=>by
  have h:=Ζ1.mp nm y hy;rw[e] at h;simpa using h
 xY:=xY
 sub:=sub
 has:=λy h=>by
  have key:∀k,(relabel sc X.env).names.lookup y=some k->(k=.cell\/k=.free)->∃c,cl.lookup y=some c:=λk e hk=>by
   have h:=Ζ1.mp has (y,k) (vM e);rcases hk with rfl|rfl
   ·exact Δ5.mp (by simpa using h)
   ·exact Δ5.mp (by simpa using h)
  rcases h with h|h
  ·exact key _ h (.inl rfl)
  ·exact key _ h (.inr rfl)
 Xg:=Xg
 nd:=nd
 N0:=N0
 XM:=XM
section
variable{N:List Str}{elt iter:Expr}{px:Pos}{ifs:List Expr}{wi:TI}{tc:TT}{te:TE}
def lE{py XE:Pos}(hc:X.calm=true)(hx:∀e s,¬ X.xe e s)(S:eC X sc cl x fr N)(hi:PI X (.Name x px) iter wi)(hb:∀C s H ex pn,XG (cN X sc cl C N s H ex pn) ifs tc/\PE (cN X sc cl C N s H ex pn) elt te)(hN:X.N.Nodup)(hy:X.N[i]?=some y)(hl:Loc X.env.scope y)(hsw:swapsWith (.ListComp elt [⟨.Name x px,iter,ifs,0⟩] sc pos) (some (.Name y py)) XE.line X.env=pure true:=by rfl)(hs:∀v,foldedSetIterable iter X.env v=pure v:=by trivial)(hf:X.fn y=true\/X.env.scope.names.lookup y=some .local:=by trivial) : PS X (.Assign [.Name y py] (.ListComp elt [⟨.Name x px,iter,ifs,0⟩] sc pos) XE) (GV (kM wi fr tc te) (jU i)):=by
 intro UJ s Z H D I h;have h:kM wi fr tc te Z H (λx H1=>jU i x Z H1 D.nx):=h;unfold kM at h;rw[exec_Assign_Name_used _ _ _ _ hsw];refine Β (wpAny_standAt (Β ?_));show wpAny _ X.A (do let _ <- comprehension (.ListComp elt [⟨.Name x px,iter,ifs,0⟩] sc pos) sc X.env _ (newList []) false (eval iter X.env) (some (assign (.Name y py) X.env))) _ _ s;refine Β (Β5 (wpAny_comprehension_free (use:=some (assign (.Name y py) X.env)) (Q:=λ_ s'=>SP X UJ D .next s') rfl hs S.xY S.kind S.names
  (thn (hi UJ s Z H _ I h) λv s1 h1=>thn h1 λZD s2 h2=>?_)) (λ_ s' hq=>Ι (Ι hq)) λ_ _ e=>e)
 obtain⟨it,fp,tn,J,H2,e,I2,T,Wa,f2,W,⟨m0,w0⟩,turn⟩:=h2;subst e;refine uH (Q:=λx H1=>jU i x Z H1 D.nx) (RR:=λacc C=>compPost (model X.prog X.w) X.A X.xe (some (assign (.Name y py) X.env)) (λ_ s'=>SP X UJ D .next s') acc C) hc hx S hb I2 T Wa f2 w0 turn ?_;intro D' C s' m' H' hn fC Wk q;show wpAny _ X.A (assign (.Name y py) X.env (.ref D')) _ _ _;have I':UM X UJ Z H' s':=Wk s'.heap (Heap.SameBut.refl ..);refine wpAny_assign_Name (rY (v:=.ref D') I' hN hy hl rfl (λZj I'' ⟨a,hsa,ha⟩=>?_) hf);obtain⟨f0,f1,f2',f3,f4,f5⟩:=fC;have hCa:C≠a:=λz=>by
  rcases ha with ha|ha
  ·exact f1 (z.trans ha)
  ·exact f4 y a ha z.symm
 refine⟨m',hn.sameBut hsa hCa,λh' We=>?_⟩;exact⟨Z.set i (some (.ref D')),H',I''.turned (t':=Zj.toks) (λb o Vl e=>(We.2 b Vl).trans e) f0 f1 f3 f4 f5,q⟩
end
section
variable{prog:Program}
end
section
mutual
example:=[.int i,.int j,.str y,.str x]
variable{Q:VK}{i j:Int}{v:V}
def Nm:lV 0 (some v::Z) H Q=Q v H:=by simp[lV]
def yH{o:Option V}:lV (n+1) (o::Z) H Q=lV n Z H Q:=by simp[lV]
def SO:lV 1 (o0::some v::Z) H Q=Q v H:=(yH.trans Nm)
def SR:lV 2 (o0::o1::some v::Z) H Q=Q v H:=(yH.trans SO)
def SS:lV 3 (o0::o1::o2::some v::Z) H Q=Q v H:=(yH.trans SR)
def SU{o3:Option V}:lV 4 (o0::o1::o2::o3::some v::Z) H Q=Q v H:=(yH.trans SS)
def SV{o3 o4:Option V}:lV 5 (o0::o1::o2::o3::o4::some v::Z) H Q=Q v H:=(yH.trans SU)
def SW{o3 o4 o5:Option V}:lV 6 (o0::o1::o2::o3::o4::o5::some v::Z) H Q=Q v H:=(yH.trans SV)
def SX{o3 o4 o5 o6:Option V}:lV 7 (o0::o1::o2::o3::o4::o5::o6::some v::Z) H Q=Q v H:=(yH.trans SW)
def SY{o3 o4 o5 o6 o7:Option V}:lV 8 (o0::o1::o2::o3::o4::o5::o6::o7::some v::Z) H Q=Q v H:=(yH.trans SX)
def S3{o3 o4 o5 o6 o7 o8:Option V}:lV 9 (o0::o1::o2::o3::o4::o5::o6::o7::o8::some v::Z) H Q=Q v H:=(yH.trans SY)
def SQ{o3 o4 o5 o6 o7 o8 o9:Option V}:lV 10 (o0::o1::o2::o3::o4::o5::o6::o7::o8::o9::some v::Z) H Q=Q v H:=(yH.trans S3)
def C6{α β:Type}{f:α->β}{a:α}{l:List α}:List.map f (a::l)=f a::List.map f l:=rfl
def IM{α β:Type}{f:α->β}:List.map f []=[]:=rfl
def Ur{C:Int->Int->Prop}:rI C g 0e0 1e0 H Q=(C i j/\Q (g i j) H):=by simp[rI]
def SM:Ks g 0e0 1e0 H Q=Q (g i j) H:=by simp[Ks]
def Us{g:Int->V}:rU g 0e0 H Q=Q (g i) H:=by simp[rU]
def w_lit(h:Nat.ble n 1000=true):(n<=sizeLine)=True:=eq_true (Nat.le_of_lt (small1000 (Nat.le_of_ble_eq_true h)))
theorem SG:Kr 0e0 1e0 H Q=Q (.bl (decide (i=j))) H:=by simp only[Kr,show VJ 0e0 1e0=true from rfl,V.int.injEq,true_and]
theorem SH:Kr 3e0 2e0 H Q=Q (.bl (decide (x=y))) H:=by simp only[Kr,show VJ 3e0 2e0=true from rfl,V.str.injEq,true_and]
theorem SI:Se 0e0 1e0 H Q=Q (.bl (!decide (i=j))) H:=by simp only[Se,show VJ 0e0 1e0=true from rfl,V.int.injEq,true_and]
theorem SJ:Se 3e0 2e0 H Q=Q (.bl (!decide (x=y))) H:=by simp only[Se,show VJ 3e0 2e0=true from rfl,V.str.injEq,true_and]
end
end
def cZ{a b:String}:(Str.ofString a=Str.ofString b)=(a=b):=by
 refine propext ⟨λh=>?_,λh=>by rw[h]⟩;rw[Str.ofString_eq_toList,Str.ofString_eq_toList] at h;have e:(a.toList.map Char.toNat)=(b.toList.map Char.toNat):=by
  have:=congrArg (λz:Str=>z.cps.toList) h;simpa using this
 have inj:∀x y:Char,x.toNat=y.toNat->x=y:=λx y q=>Char.ext (UInt32.toNat_inj.mp q);have:=(List.map_inj_right (f:=Char.toNat) (λx y q=>inj x y q)).mp e;exact String.toList_inj.mp this
def Kp(S:List Addr)(H H':Hp):Prop:=∀b o,H b=some o->b∉S->H' b=some o
section
mutual
example:=[UK H p o]
variable{S T:List Addr}{H1 H2:Hp}{p:Addr}{o:HO}
def Kp.refl:Kp S H H:=λ_ _ h _=>h
def Kp.trans(x:Kp S H H1)(y:Kp S H1 H2):Kp S H H2:=λb o h n=>y b o (x b o h n) n
def Kp.mono(x:Kp S H H1)(h:∀b∈S,b∈T):Kp T H H1:=λb o e n=>x b o e λz=>n (h b z)
def Kp.new(h:H p=none):Kp S H 0e0:=λb u e _=>by rw[aC (aF e h)];exact e
def q0D(h:H p=none):Kp [] H 0e0:=Kp.new h
def Kp.set(h:p∈S):Kp S H 0e0:=λb u e n=>by rw[aC (show b≠p from λz=>n (by rw[z];exact h))];exact e
def Kp.at(x:Kp S H H1)(e:H a=some o)(n:a∉S:=by trivial):H1 a=some o:=x a o e n
def Kp.same(x:Kp [] H H1):Same H H1:=λb o e=>x b o e (by simp)
def Kp.of(x:Same H H1):Kp S H H1:=λb o e _=>x b o e
def Kp.drop(x:Kp (p::S) H H1)(h:H p=none):Kp S H H1:=λb o e n=>x b o e (by
 simp only[Α,not_or];exact⟨aF e h,n⟩)
end
end
mutual
example:=[.lst xs,.tup xs,.ref p,oQ xs lo hi]
abbrev Tg{α:Type}(_:α):Type:=Unit
def iY{α:Type}(o:Option α)(k:α->Prop)(_u:Tg k:=()):Prop:=match o with
 | some x=>k x
 | none=>False
def Jd(x:V)(k:Bool->Prop)(_u:Tg k:=()):Prop:=match x with
 | .bl b=>k b
 | _=>False
def eX(o:Option HO)(k:List V->Prop)(_u:Tg k:=()):Prop:=match o with
 | some 0e0=>k xs
 | _=>False
def oC(o:Option HO)(k:List V->Prop)(_u:Tg k:=()):Prop:=match o with
 | some 0e0=>k xs
 | some 1e0=>k xs
 | _=>False
def dB(o:Option HO)(k:List (Key×V)->Prop)(_u:Tg k:=()):Prop:=match o with
 | some (.dK xs)=>k xs
 | _=>False
def bH(x:V)(k:Addr->Prop)(_u:Tg k:=()):Prop:=match x with
 | .ref p=>k p
 | _=>False
def gU(x:V)(k:Int->Prop)(_u:Tg k:=()):Prop:=match x with
 | .int i=>k i
 | _=>False
def dI{α:Type}{o:Option α}{k:α->Prop}(h:iY o k):∃x,o=some x/\k x:=by
 cases o with
 | none=>exact h.elim
 | some x=>exact⟨x,rfl,h⟩
def PD{x:V}{k:Bool->Prop}(h:Jd x k):∃b,x=.bl b/\k b:=by
 cases x with
 | bl b=>exact⟨b,rfl,h⟩
 | _=>exact h.elim
def vZ{x:V}{k:Bool->Prop}:(∃b,x=.bl b/\k b)=Jd x k:=by
 refine propext ⟨fun⟨b,e,h⟩=>by subst e;exact h,PD⟩
def aU{x:V}{k:Addr->Prop}(h:bH x k):∃b,x=.ref b/\k b:=by
 cases x with
 | ref b=>exact⟨b,rfl,h⟩
 | _=>exact h.elim
def eQ{x:V}{k:Int->Prop}(h:gU x k):∃b,x=.int b/\k b:=by
 cases x with
 | int b=>exact⟨b,rfl,h⟩
 | _=>exact h.elim
def fO(h:eX o k):∃xs,o=some 0e0/\k xs:=by
 unfold eX at h;split at h
 ·exact⟨_,rfl,h⟩
 ·exact h.elim
def pW(h:oC o k):∃xs,(o=some 0e0\/o=some 1e0)/\k xs:=by
 unfold oC at h;split at h
 ·exact⟨_,.inl rfl,h⟩
 ·exact⟨_,.inr rfl,h⟩
 ·exact h.elim
def dF{k:List (Key×V)->Prop}(h:dB o k):∃xs,o=some (.dK xs)/\k xs:=by
 unfold dB at h;split at h
 ·exact⟨_,rfl,h⟩
 ·exact h.elim
def Tn:R2:=λx y H Q=>match x with
 | .ref p=>oC (H p) λxs=>gU y λi=>iY (gY xs i) λv=>Q v H
 | .str z=>gU y λi=>z.length<=sizeLine/\iY (gY z.cps.toList i) λc=>Q (.str ⟨#[c]⟩) H
 | _=>False
def KJ(H:Hp)(Q:VK)(a:Addr)(oa ob:Option HO):Prop:=match oa,ob with
 | some 0e0,some (.lst ys)=>xs.length+ys.length<=sizeLine/\∀p,H p=none->Q 2e0 (UK H p (.lst (xs++ys)))
 | some 1e0,some (.tup ys)=>xs≠[]/\xs.length+ys.length<=sizeLine/\(ys≠[]->∀p,H p=none->Q 2e0 (UK H p (.tup (xs++ys))))/\(ys=[]->Q (.ref a) H)
 | _,_=>False
def Hn:R2:=λx y H Q=>match x,y with
 | .int i,.int j=>Q (.int (i+j)) H
 | .str a,.str b=>a.length+b.length<=sizeLine/\Q (.str (a++b)) H
 | .ref a,.ref b=>KJ H Q a (H a) (H b)
 | _,_=>False
def Hq(lo hi:Option Int)(H:Hp)(Q:VK)(o:Option HO):Prop:=match o with
 | some 0e0=>∀p,H p=none->Q 2e0 (UK H p (.lst 3e0))
 | some 1e0=>¬ (HT.gZ xs.length 0 lo=0/\HT.gZ xs.length xs.length hi=xs.length)/\∀p,H p=none->Q 2e0 (UK H p (.tup 3e0))
 | _=>False
def S7:V->Option Int->Option Int->Hp->VK->Prop:=λx lo hi H Q=>match x with
 | .str z=>z.length<=sizeLine/\Q (.str (Txt.slice z lo hi)) H
 | .ref a=>Hq lo hi H Q (H a)
 | _=>False
def KQ:List V->Hp->VK->Prop:=λvs H Q=>match vs with
 | [.str z]=>z.length<=sizeLine/\Q (.int z.length) H
 | [.ref p]=>oC (H p) λxs=>Q (.int xs.length) H
 | _=>False
def Qy:V->V->V->Hp->(Hp->Prop)->Prop:=λo i v H Q=>bH o λp=>gU i λk=>eX (H p) λxs=>iY (x9 xs.length k) λj=>Q (UK H p (.lst (xs.set j v)))
set_option backward.eqns.nonrecursive false in
def jT:V->Option Key
 | .int i=>some (.inl i)
 | .str x=>some (.inr x)
 | .UL=>some .no
 | _=>none
def Am{y:V}{k:Key}(h:jT y=some k):y=kV k:=by
 cases y<;>simp only[jT,Υ,reduceCtorEq] at h<;>subst h<;>rfl
def MH(td ty:TE):TE:=λZ H Q=>td Z H λx H1=>bH x λa=>dB (H1 a) λ_=>ty Z H1 λy H2=>dB (H2 a) λkvs=>iY (jT y) λk=>Q ((aZ kvs k).getD .UL) H2
def Ny(td ty:TE):TE:=λZ H Q=>td Z H λx H1=>ty Z H1 λy H2=>bH x λa=>dB (H2 a) λkvs=>iY (jT y) λk=>iY (aZ kvs k) λv=>Q v H2
def NG(td ty tv:TE):TS:=λD Z H=>tv Z H λv H1=>td Z H1 λx H2=>ty Z H2 λy H3=>bH x λa=>dB (H3 a) λkvs=>iY (jT y) λk=>kvs.length < sizeLine/\D.nx Z (UK H3 a (.dK (aR kvs k v)))
def Tj(neg:Bool):R2:=λx y H Q=>bH y λp=>oC (H p) λxs=>eK x=true/\xs.all eK=true/\Q (.bl (if neg=true then !u7 x xs else u7 x xs)) H
def KO:List V->Hp->VK->Prop:=λvs H Q=>match vs with
 | [.int i]=>Q (.int i) H
 | [.bl k]=>Q (.int (if k=true then 1 else 0)) H
 | _=>False
def NB:R2:=λx y H Q=>match y with
 | .UL=>Q (.bl (decide (x=.UL))) H
 | _=>False
def MJ:R2:=λx y H Q=>match y with
 | .UL=>Q (.bl (!decide (x=.UL))) H
 | _=>False
def ND:List V->Hp->VK->Prop:=λvs H Q=>match vs with
 | [.int i,.int j]=>Q (.int (if j > i then j else i)) H
 | _=>False
def NF:List V->Hp->VK->Prop:=λvs H Q=>match vs with
 | [.int i,.int j]=>Q (.int (if j < i then j else i)) H
 | _=>False
def Qo(to te:TE):TE:=λZ H Q=>to Z H λx H1=>bH x λa=>eX (H1 a) λ_=>te Z H1 λy H2=>eX (H2 a) λxs=>xs.length < sizeLine/\Q .UL (UK H2 a (.lst (xs++[y])))
def Qv(to:TE):TE:=λZ H Q=>to Z H λx H1=>bH x λa=>eX (H1 a) λxs=>iY (xs[xs.length - 1]?) λy=>Q y (UK H1 a (.lst xs.dropLast))
end
section
mutual
example:=[(λe=>.inl (.inl e)),.inl ‹_›,.inl e,(thn (ho UJ s Z H _ I h) λv s1 ⟨x,H1,I1,r1,q1⟩=>?_),(.inl ⟨rfl,xs,.inl (.inl e1)⟩),apos.endLine==US.line,starEach [] X.env,eval o X.env]
def DN.imp{r r':R2}(h:DN X r)(f:∀x y H Q,r' x y H Q->r x y H Q):DN X r':=λvalue slice UJ s Z H x y v u Q I rx ry q=>h value slice UJ s Z H x y v u Q I rx ry (f _ _ _ _ q)
def jR.imp{f:Value->Value->Sem Value}{r r':R2}(h:jR X f r)(g:∀x y H Q,r' x y H Q->r x y H Q):jR X f r':=λUJ s Z H x y v u Q I rx ry q=>h UJ s Z H x y v u Q I rx ry (g _ _ _ _ q)
def aN:DN X Tn:=Pe.imp λx y H Q h=>by
 cases x with
 | ref p =>
  obtain⟨xs,e,h⟩:=pW h;obtain⟨i,rfl,h⟩:=eQ h;obtain⟨v,e2,h⟩:=dI h;rcases e with e|e
  ·exact .inl ⟨_,_,_,_,rfl,rfl,.inl 2e0,e2,h⟩
  ·exact .inr (.inl ⟨_,_,_,_,rfl,rfl,.inl 2e0,e2,h⟩)
 | str z =>
  obtain⟨i,rfl,h1,h⟩:=eQ h;obtain⟨v,e2,h⟩:=dI h;exact .inr (.inr ⟨_,_,_,rfl,rfl,h1,e2,h⟩)
 | _=>exact h.elim
def cH:jR X (binaryOp .Add) Hn:=(PF.or (Dp.or (PH.or Ey))).imp λx y H Q h=>by
 unfold Hn KJ at h;split at h
 ·exact .inl ⟨_,_,rfl,rfl,h⟩
 ·exact .inr (.inl ⟨_,_,rfl,rfl,h.1,h.2⟩)
 ·split at h
  ·exact .inr (.inr (.inl ⟨_,_,_,_,rfl,rfl,‹_›,‹_›,h.1,h.2⟩))
  ·exact .inr (.inr (.inr ⟨_,_,_,_,rfl,rfl,.inl 1e0,.inl 1e0,h.1,h.2.1,h.2.2.2,h.2.2.1⟩))
  ·exact h.elim
 ·exact h.elim
def Sn:Kv X S7:=λUJ s Z H x v vl vu lo hi sl Q I rx hs pl pu h=>by
 refine(Mm.or (P8.or P6)) UJ s Z H x v vl vu lo hi sl Q I rx hs pl pu ?_;unfold S7 Hq at h;split at h
 ·exact .inr (.inr ⟨_,rfl,h.1,h.2⟩)
 ·split at h
  ·exact .inl ⟨_,_,rfl,.inl 1e0,h⟩
  ·exact .inr (.inl ⟨_,_,rfl,.inl 1e0,h.1,h.2⟩)
  ·exact h.elim
 ·exact h.elim
def cP:gN X (.builtin "len") KQ:=λUJ s Z H xs us Q I r h=>by
 unfold KQ at h;split at h
 ·exact uC UJ s Z H _ us Q I r ⟨_,_,rfl,⟨h.1,rfl⟩,h.2⟩
 ·obtain⟨ys,e,h⟩:=pW h;rcases e with e|e
  ·exact uC UJ s Z H _ us Q I r ⟨_,_,rfl,.inl ⟨_,.inl 2e0,rfl⟩,h⟩
  ·exact uC UJ s Z H _ us Q I r ⟨_,_,rfl,.inr ⟨_,.inl 2e0,rfl⟩,h⟩
 ·exact h.elim
def w9:PSet X Qy:=λUJ s Z H o i v ov iv u Q I ro ri rv h=>by
 obtain⟨p,rfl,h⟩:=aU h;obtain⟨k,rfl,h⟩:=eQ h;obtain⟨xs,e,h⟩:=fO h;obtain⟨j,e2,h⟩:=dI h;exact JF UJ s Z H _ _ v ov iv u Q I ro ri rv ⟨_,_,_,_,rfl,rfl,e,e2,h⟩
def iT:jR X (compareOp .In) (Tj false):=Gv.imp λx y H Q h=>by
 obtain⟨p,rfl,h⟩:=aU h;obtain⟨xs,e,h1,h2,h⟩:=pW h;exact⟨_,_,rfl,e.imp 0e0 0e0,h1,h2,h⟩
def rN:jR X (compareOp .NotIn) (Tj true):=Ay.imp λx y H Q h=>by
 obtain⟨p,rfl,h⟩:=aU h;obtain⟨xs,e,h1,h2,h⟩:=pW h;exact⟨_,_,rfl,e.imp 0e0 0e0,h1,h2,h⟩
def gO:gN X (.type "int") KO:=λUJ s Z H xs us Q I r h=>by
 refine Fo UJ s Z H xs us Q I r ?_;unfold KO at h;split at h
 ·exact .inl ⟨_,rfl,h⟩
 ·exact .inr ⟨_,rfl,by
   rename_i k
   cases k<;>exact h⟩
 ·exact h.elim
def mJ:jR X (compareOp .Is) NB:=PK.imp λx y H Q h=>by
 cases y with
 | UL=>exact⟨rfl,h⟩
 | _=>exact h.elim
def nN:jR X (compareOp .IsNot) MJ:=LY.imp λx y H Q h=>by
 cases y with
 | UL=>exact⟨rfl,h⟩
 | _=>exact h.elim
def iE(hc:X.calm=true):gN X (.builtin "max") ND:=λUJ s Z H xs us Q I r h=>by
 refine Fp hc UJ s Z H xs us Q I r ?_;unfold ND at h;split at h
 ·exact⟨_,_,rfl,h⟩
 ·exact h.elim
def nA(hc:X.calm=true):gN X (.builtin "min") NF:=λUJ s Z H xs us Q I r h=>by
 refine Fq hc UJ s Z H xs us Q I r ?_;unfold NF at h;split at h
 ·exact⟨_,_,rfl,h⟩
 ·exact h.elim
variable{o e:Expr}{to te:TE}{apos US:Pos}
theorem dM(ho:PE X o to)(he:PE X e te)(Vp:attributeBase o "append" X.env 7e0=eval o X.env:=by rfl)(YX:((backTo US (starEach [e] X.env)).all (λx=>!x.1)&&(backToKw US (keywordEach [] X.env)).all (λx=>x.1.isSome)&&decide ([e].length+([]:List Keyword).length+(if ([]:List Keyword).isEmpty then 0 else 1) < 30))=true:=by rfl)(Vq:5e0=true:=by rfl)(hs:starEach [e] X.env=(false,eval e X.env)::starEach [] X.env:=by rfl)(Wm:(backTo US 6e0).any (·.1)=false:=by rfl) : PE X (.Call (.Attribute o "append" apos) [e] [] US) (Qo to te):=by
 intro UJ s Z H Q I h;refine wpAny_Call_method_late Vp YX Vq rfl 3e0;obtain⟨a,rfl,q1⟩:=aU q1;obtain⟨xs,e1,q1⟩:=fO q1;obtain⟨h1,h2⟩:=DJ (T:="list") I1 r1 4e0;refine⟨"list","list.append",PySem.F.plainAttrs_list,PySem.F.slot_list_append,PySem.F.type_list_append,h1,h2,?_⟩;have q2:mV te xN Z H1 (λvs H2=>vs.length=1/\eX (H2 a) λxs=>xs.length < sizeLine/\Q .UL (UK H2 a (.lst (xs++vs)))):=by
  simpa only[mV,xN,Ε,ϔ,Γ5,true_and] using q1
 have hA:=EA he bO hs US UJ s1 Z H1 _ I1 q2;rw[hs] at hA ⊢;refine Α7 (by show(false||(backTo US 6e0).any (·.1))=false;rw[Wm]<;>rfl) (Δ9 ?_);refine thn hA λus s2 ⟨vs,H2,I2,r2,l2,q3⟩=>?_;obtain⟨xs,e3,q4,q5⟩:=fO q3
 match vs,l2,r2,q5 with
 | [y],_,r2,q5=>exact Ge UJ s2 Z H2 _ _ v us Q I2 r1 r2 ⟨_,_,_,rfl,rfl,e3,q4,q5⟩
def tS(ho:PE X o to)(Vp:attributeBase o "pop" X.env 7e0=eval o X.env:=by rfl)(Vq:5e0=true:=by rfl):PE X (.Call (.Attribute o "pop" apos) [] [] US) (Qv to):=by
 intro UJ s Z H Q I h;refine wpAny_Call_method0_late Vp Vq 3e0;obtain⟨a,rfl,q1⟩:=aU q1;obtain⟨xs,e1,q1⟩:=fO q1;obtain⟨y,e2,q1⟩:=dI q1;obtain⟨h1,h2⟩:=DJ (T:="list") I1 r1 4e0;exact⟨"list","list.pop",PySem.F.plainAttrs_list,PySem.F.slot_list_pop,PySem.F.type_list_pop,h1,h2,Α7 rfl (PySem.evalArgs_none (Pt UJ s1 Z H1 _ [] v [] Q I1 r1 .nil ⟨_,_,_,rfl,rfl,e1,e2,q1⟩))⟩
end
end
section
variable{o i e value:Expr}{pos' apos US:Pos}{td ty tv:TE}
def tR(hu:X.A.units+1 < cLine)(ho:PE X o td)(he:PE X e ty)(m:M1 X o "get" apos e US):PE X (.Call (.Attribute o "get" apos) [e] [] US) (MH td ty):=by
 intro UJ s Z H Q I h;refine wpAny_Call_method m.base m.U2 m.line Γ3 Γ8 PySem.F.type_dict_get (thn (ho UJ s Z H _ I h) λu s1 ⟨x,H1,I1,rx,q1⟩=>?_);obtain⟨a,rfl,q1⟩:=aU q1;obtain⟨kvs,e1,q1⟩:=dF q1;obtain rfl:u=Value.ref a:=rx;obtain⟨t1,t2,_⟩:=qX I1 (.inl ⟨_,.inl e1⟩);refine⟨t1,t2,?_⟩;rw[m.trees];refine Α7 rfl (Δ9 (Δ4 (thn (he UJ s1 Z H1 _ I1 q1) λiv s2 ⟨y,H2,I2,ry,q2⟩=>Calls.spliced_nil ?_)));obtain⟨kvs,e1,q2⟩:=dF q2;obtain⟨k,e2,q2⟩:=dI q2;have g:DGet H2 a y (aZ kvs k):=by rw[Am e2];exact DGet.k e1
 exact NM hu I2 g ry λw' s3 I3 VI=>⟨_,H2,I3,VI,q2⟩
def mM(hu:X.A.units+1 < cLine)(ho:PE X o td)(hi:PE X i ty)(hs:Ku i):PE X (.Subscript o i pos) (Ny td ty):=by
 intro UJ s Z H Q I h;refine Fe PySem.F.slot_dict_getitem.lookup hs (thn (ho UJ s Z H _ I h) λu s1 ⟨x,H1,I1,rx,q1⟩=>thn (hi UJ s1 Z H1 _ I1 q1) λiv s2 ⟨y,H2,I2,ry,q2⟩=>?_);obtain⟨a,rfl,q2⟩:=aU q2;obtain⟨kvs,e1,q2⟩:=dF q2;obtain⟨k,e2,q2⟩:=dI q2;obtain⟨v,e3,q2⟩:=dI q2;obtain rfl:u=Value.ref a:=rx;have g:DGet H2 a y (some v):=by rw[Am e2,<- e3];exact DGet.k e1
 exact⟨Bk I2 g,Fu hu I2 g ry λw' s3 I3 VI=>⟨v,H2,I3,VI,q2⟩⟩
def L7(hu:X.A.units+1 < cLine)(ho:PE X o td)(hi:PE X i ty)(hv:PE X value tv)(hs:swapsWith value (some (.Subscript o i pos')) pos.line X.env=pure false:=by rfl) : PS X (.Assign [.Subscript o i pos'] value pos) (NG td ty tv):=by
 intro UJ s Z H D I h;refine wpAny_Assign_Subscript (thn (hv UJ s Z H _ I h) λr s1 ⟨v,H1,I1,rv,q1⟩=>thn (ho UJ s1 Z H1 _ I1 q1) λu s2 ⟨x,H2,I2,rx,q2⟩=>thn (hi UJ s2 Z H2 _ I2 q2) λiv s3 ⟨y,H3,I3,ry,q3⟩=>?_) hs;obtain⟨a,rfl,q3⟩:=aU q3;obtain⟨kvs,e1,q3⟩:=dF q3;obtain⟨k,e2,q3⟩:=dI q3;obtain rfl:u=Value.ref a:=rx;have g:DPut H3 a y v (UK H3 a (.dK (aR kvs k v))):=by rw[Am e2];exact DPut.k e1 q3.1
 exact Fv hu I3 g ry rv λs4 I4=>⟨Z,_,I4,q3.2⟩
end
section
mutual
example:=[.ref p,.int i,some (.lst vs),.str x,(.inl ⟨by decide,by decide⟩)]
variable{Q:VK}{D:Ends}{t u:TS}{te ta tb tc to ti:TE}{tl th:TO}{g:TG}{gs:TGs}{tt tt':TT}{as:TA}{i j:Int}{v w:V}{b:Bool}{p:Addr}{r r':R2}{B:Bool->Hp->Prop}
def Ri:DD t u D Z H=t {D with nx:=u D} Z H:=rfl
def QE:GV te g D Z H=te Z H λx H1=>g x Z H1 D.nx:=rfl
def OJ:jU n v Z H N=N (Z.set n (some v)) H:=rfl
def Rh:Qe te D Z H=te Z H D.rt:=rfl
def OP:Ng D Z H=D.rt .UL H:=rfl
def QT:Cy tt t u D Z H=tt Z H λb H1=>if b=true then t D Z H1 else u D Z H1:=rfl
def Ic:CA te Z H B=te Z H λx H'=>Jd x λk=>B k H':=by simp only[CA,vZ]
def T9:tB te Z H B=te Z H λx H'=>Jd x λk=>B k H':=by simp only[tB,vZ]
def TK:Uv tt ta tb Z H Q=tt Z H λc H1=>if c=true then ta Z H1 Q else tb Z H1 Q:=rfl
def TV:Mu r ta tb Z H Q=ta Z H λx H1=>tb Z H1 λy H2=>r x y H2 Q:=rfl
def Ua{q:V->Hp->VK->Prop}:Uz q ta Z H Q=ta Z H λx H1=>q x H1 Q:=rfl
def UC:tC v Z H Q=Q v H:=rfl
def Oc{A:List V->Hp->Prop}:mV te as Z H A=te Z H λx H1=>as Z H1 λxs H2=>A (x::xs) H2:=rfl
def Q2{A:List V->Hp->Prop}:xN Z H A=A [] H:=rfl
def HN{sp:Sp}{E:XK}:Fg sp [] E as Z H Q=as Z H λvs H1=>sp vs H1 Q E:=by simp only[Fg,Ϝ]
def TH{q:List V->Hp->VK->Prop}:Up q as Z H Q=as Z H λvs H1=>q vs H1 Q:=rfl
def QX:Sr as Z H Q=as Z H λxs H1=>xs.length<=sizeLine/\∀p,H1 p=none->Q 0e0 (UK H1 p (.lst xs)):=rfl
def Ro:Sx as Z H Q=as Z H λxs H1=>xs.length<=sizeLine/\∀p,H1 p=none->Q 0e0 (UK H1 p (.tup xs)):=rfl
def Oj:J7 Z H Q = ∀p,H p=none->Q 0e0 (UK H p (.dK [])):=rfl
def Ol:J8 te D Z H=te Z H λ_ H1=>D.nx Z H1:=rfl
def OK:Fi D Z H=D.nx Z H:=rfl
def Od:Nc D Z H=D.ct Z H:=rfl
def NY:J6 ta tb Z H Q=ta Z H λx H1=>Jd x λc=>if c=true then tb Z H1 Q else Q (.bl false) H1:=by simp only[J6,vZ]
def Rb:Qd ta tb Z H Q=ta Z H λx H1=>Jd x λc=>if c=true then Q (.bl true) H1 else tb Z H1 Q:=by simp only[Qd,vZ]
def OL:Kb ta Z H Q=ta Z H λx H1=>Jd x λc=>Q (.bl (!c)) H1:=by simp only[Kb,vZ]
def QC:So tt tt' Z H B=tt Z H λc H1=>if c=true then tt' Z H1 B else B false H1:=rfl
def TY:Ux tt tt' Z H B=tt Z H λc H1=>if c=true then B true H1 else tt' Z H1 B:=rfl
def Q3:Ss tt Z H B=tt Z H λc H1=>B (!c) H1:=rfl
def TZ{q:V->Option Int->Option Int->Hp->VK->Prop}:Uy q te tl th Z H Q=te Z H λx H1=>tl Z H1 λl H2=>th Z H2 λu H3=>q x l u H3 Q:=rfl
def Jf{k:Int->Prop}:(∃i,v=.int i/\k i)=gU v k:=propext ⟨fun⟨i,e,h⟩=>by subst e;exact h,eQ⟩
def OM:Kd te Z H O=te Z H λx H1=>gU x λi=>O (some i) H1:=by simp only[Kd,Jf]
def HX:Fj Z H O=O none H:=rfl
def Ow{s:TSet}:Rv to ti s v Z H N=to Z H λo H1=>ti Z H1 λi H2=>s o i v H2 λH3=>N Z H3:=rfl
def Ov:LC [] Z H N=N Z H:=by simp[LC]
def Lj:Ee g gs (v::vs) Z H N=g v Z H λZ' H'=>gs vs Z' H' N:=propext ⟨fun⟨_,_,e,h⟩=>by cases e;exact h,λh=>⟨_,_,rfl,h⟩⟩
def Ot:MH ta tb Z H Q=ta Z H λx H1=>bH x λa=>dB (H1 a) λ_=>tb Z H1 λy H2=>dB (H2 a) λkvs=>iY (jT y) λk=>Q ((aZ kvs k).getD .UL) H2:=rfl
def QR:Ny ta tb Z H Q=ta Z H λx H1=>tb Z H1 λy H2=>bH x λa=>dB (H2 a) λkvs=>iY (jT y) λk=>iY (aZ kvs k) λv=>Q v H2:=rfl
def Rf:NG ta tb tc D Z H=tc Z H λv H1=>ta Z H1 λx H2=>tb Z H2 λy H3=>bH x λa=>dB (H3 a) λkvs=>iY (jT y) λk=>kvs.length < sizeLine/\D.nx Z (UK H3 a (.dK (aR kvs k v))):=rfl
def QD:Qo to te Z H Q=to Z H λx H1=>bH x λa=>eX (H1 a) λ_=>te Z H1 λy H2=>eX (H2 a) λxs=>xs.length < sizeLine/\Q .UL (UK H2 a (.lst (xs++[y]))):=rfl
def Rc:Qv to Z H Q=to Z H λx H1=>bH x λa=>eX (H1 a) λxs=>iY (xs[xs.length - 1]?) λy=>Q y (UK H1 a (.lst xs.dropLast)):=rfl
def Q8{α:Type}{z:α}{k:α->Prop}{u:Tg k}:@iY _ (some z) k u=k z:=rfl
def Q7{k:Bool->Prop}{u:Tg k}:@Jd (.bl b) k u=k b:=rfl
def Lq{k:Addr->Prop}{u:Tg k}:@bH 0e0 k u=k p:=rfl
def Lo{k:Int->Prop}{u:Tg k}:@gU 1e0 k u=k i:=rfl
def Lp{u:Tg k}:@eX 2e0 k u=k vs:=rfl
def HY{u:Tg k}:@oC 2e0 k u=k vs:=rfl
def HZ{u:Tg k}:@oC (some (.tup vs)) k u=k vs:=rfl
def Ln{k:List (Key×V)->Prop}{u:Tg k}:@dB (some (.dK kvs)) k u=k kvs:=rfl
def QV:Tn 0e0 w H Q=oC (H p) λxs=>gU w λi=>iY (gY xs i) λv=>Q v H:=rfl
def QW:Tn 3e0 w H Q=gU w λi=>x.length<=sizeLine/\iY (gY x.cps.toList i) λc=>Q (.str ⟨#[c]⟩) H:=rfl
def NV:Hn 1e0 (.int j) H Q=Q (.int (i+j)) H:=rfl
def NX:Hn 3e0 (.str y) H Q=(x.length+y.length<=sizeLine/\Q (.str (x++y)) H):=rfl
def NW:Hn (.ref a) 0e0 H Q=KJ H Q a (H a) (H p):=rfl
def Ob{us:List V}:KJ H Q a 2e0 (some (.lst us))=(vs.length+us.length<=sizeLine/\∀p,H p=none->Q 0e0 (UK H p (.lst (vs++us)))):=rfl
def Rm{lo hi:Option Int}:S7 3e0 lo hi H Q=(x.length<=sizeLine/\Q (.str (Txt.slice x lo hi)) H):=rfl
def Rl{lo hi:Option Int}:S7 (.ref a) lo hi H Q=Hq lo hi H Q (H a):=rfl
def Oe{lo hi:Option Int}:Hq lo hi H Q 2e0 = ∀p,H p=none->Q 0e0 (UK H p (.lst (oQ vs lo hi))):=rfl
def OH:KQ [.str x] H Q=(x.length<=sizeLine/\Q (.int x.length) H):=rfl
def OG:KQ [.ref p] H Q=oC (H p) λxs=>Q (.int xs.length) H:=rfl
def Rj{N:Hp->Prop}:Qy 0e0 1e0 v H N=eX (H p) λxs=>iY (x9 xs.length i) λj=>N (UK H p (.lst (xs.set j v))):=rfl
def TQ{neg:Bool}:Tj neg v 0e0 H Q=oC (H p) λxs=>eK v=true/\xs.all eK=true/\Q (.bl (if neg=true then !u7 v xs else u7 v xs)) H:=rfl
def OD:jT 1e0=some (.inl i):=rfl
def OF:jT 3e0=some (.inr x):=rfl
def OE:jT .UL=some .no:=rfl
theorem DZ{α:Type}{xs:List α}{k:Nat}:gY xs (OfNat.ofNat k)=xs[k]?:=by
 show gY xs ((k:Nat):Int)=xs[k]?;cases e:xs[k]? with
 | some z=>exact eI e
 | none =>
  have:=Ζ3.mp e;unfold gY x9;rw[if_pos (by omega),if_neg (by omega)];rfl
def QF{α:Type}{xs:List α}:gY xs 0=xs[0]?:=DZ (k:=0)
def QG{α:Type}{xs:List α}:gY xs 1=xs[1]?:=DZ (k:=1)
def QH{α:Type}{xs:List α}:gY xs 2=xs[2]?:=DZ (k:=2)
def QI{α:Type}{xs:List α}:gY xs 3=xs[3]?:=DZ (k:=3)
theorem KY:CMul 2 j=True:=eq_true 4e0
theorem K0:CMul 3 j=True:=eq_true 4e0
theorem Le:CPow 10 9=True:=eq_true ⟨by decide,by decide,by decide⟩
theorem HQ:CPow 10 12=True:=eq_true ⟨by decide,by decide,by decide⟩
theorem HR:CPow 10 18=True:=eq_true ⟨by decide,by decide,by decide⟩
theorem OC{m:Nat}:x9 (m+1) 0=some 0:=by simp[x9]<;>omega
def Oz:KO [.int i] H Q=Q 1e0 H:=rfl
def Oy:KO [.bl b] H Q=Q (.int (if b=true then 1 else 0)) H:=rfl
theorem TR:NB v .UL H Q=Q (.bl (decide (v=.UL))) H:=by cases v<;>rfl
theorem Lk:MJ v .UL H Q=Q (.bl (!decide (v=.UL))) H:=by cases v<;>rfl
def QY:ND [.int i,.int j] H Q=Q (.int (if j > i then j else i)) H:=rfl
def QZ:NF [.int i,.int j] H Q=Q (.int (if j < i then j else i)) H:=rfl
theorem QK{c:Prop}[Decidable c]{P R:Prop}:(if (decide c)=true then P else R)=if c then P else R:=by
 by_cases h:c<;>simp[h]
theorem QL{c:Prop}[Decidable c]{P R:Prop}:(if (!decide c)=true then P else R)=if c then R else P:=by
 by_cases h:c<;>simp[h]
def OB{P R:Prop}:(if true=true then P else R)=P:=rfl
def OA{P R:Prop}:(if false=true then P else R)=R:=rfl
end
end
mutual
example:=[]
def Ub{a b:Prop}[Decidable a][Decidable b]{P R:Prop}:(if a then P else if b then P else R)=if a\/b then P else R:=by
 by_cases ha:a<;>by_cases hb:b<;>simp[ha,hb]
def Kp.at1{r:Addr}{H':Hp}{o:HO}(x:Kp [r] H H')(e:H a=some o)(n:a≠r):H' a=some o:=x a o e (by simpa using n)
theorem iV{i:Int}{k:V->Prop}(h0:0<=i)(h1:i < (xs.length:Int))(q:∀v∈xs,k v):iY (gY xs i) k:=by
 have hk:i.toNat < xs.length:=by omega
 have ek:i=((i.toNat:Nat):Int):=by omega
 have e:gY xs ((i.toNat:Nat):Int)=some xs[i.toNat]:=eI (ϕ hk);rw[<- ek] at e;rw[e];exact q _ (List.getElem_mem hk)
def on1(vs:List V)(k:V->Prop)(_u:Tg k:=()):Prop:=match vs with
 | [v]=>k v
 | _=>False
def lp(J:It)(g:TG)(tb:TS)(D:Ends)(Z:St)(H:Hp):Prop:=∃W:Nat->Nat->St->Hp->Prop,(∃m,W 0 m Z H)/\∀i m Z H,W i m Z H ->
 (J.stop i H/\D.nx Z H)\/(J.go i H/\∃N:St->Hp->Prop,(∀Z' H',N Z' H'->∃m',m' < m/\W (i+1) m' Z' H')/\∀x H',J.Wu i H x H'->g x Z H' λσ2 H2=>tb {D with nx:=N,ct:=N,bk:=D.nx} σ2 H2)
end
section
mutual
example:=[]
variable{D:Ends}{g:TG}{tb:TS}{as:TA}{te:TE}{v w:V}
def PB{k:V->Prop}:(∃z,vs=[z]/\k z)=on1 vs k:=by
 refine propext ⟨fun⟨z,e,h⟩=>by subst e;exact h,λh=>?_⟩;unfold on1 at h;split at h
 ·exact⟨_,rfl,h⟩
 ·exact h.elim
def Q6{k:V->Prop}{u:Tg k}:@on1 [v] k u=k v:=rfl
def Li:Ka (Br as) g tb D Z H=as Z H λvs H1=>on1 vs λv=>gU v λj=>(-(2 ^ 62)<=j/\j < 2 ^ 62)/\lp (WZ 0 j.toNat) g tb D Z H1:=by
 unfold Ka Br
 congr 1
 funext vs H1;refine propext ⟨fun⟨j,e,h1,h2,h⟩=>by subst e;exact⟨⟨h1,h2⟩,h⟩,λh=>?_⟩;unfold on1 at h;split at h
 ·obtain⟨j,rfl,⟨h1,h2⟩,h⟩:=eQ h;exact⟨j,rfl,h1,h2,h⟩
 ·exact h.elim
def Oo:Ka (u0 K te) g tb D Z H=te Z H λx H1=>bH x λa=>(∃xs,fV K H1 a xs)/\lp (WG K a) g tb D Z H1:=by
 unfold Ka u0
 congr 1
 funext x H1;exact propext ⟨fun⟨a,e,h1,h⟩=>by subst e;exact⟨h1,h⟩,λh=>by obtain⟨a,rfl,h1,h⟩:=aU h;exact⟨a,rfl,h1,h⟩⟩
end
end
noncomputable def lc(J:It)(fr:List Nat)(tc:TT)(te:TE)(Z:St)(H:Hp)(Q:VK):Prop:=∃W:Nat->Nat->List V->Hp->Prop,(∃m,W 0 m [] H)/\∀i m xs H,W i m xs H->xs.length<=1000000 /\
  ((J.stop i H/\∀p,H p=none->Q (.ref p) (UK H p (.lst xs))) \/
   (J.go i H/\∀y H',J.Wu i H y H'->tc (some y::bC fr Z) H' λb H2=>if b=true then te (some y::bC fr Z) H2 (λz H3=>∃m',m' < m/\W (i+1) m' (xs++[z]) H3) else ∃m',m' < m/\W (i+1) m' xs H2))
section
mutual
example:=[(λz H3=>Pv (i+1) (xs++[z]) H3),some (.int (lo+i))::bC fr Z,UK H p (.lst xs),some y::bC fr Z]
variable{tc:TT}{te tl:TE}{H1:Hp}{Q:VK}{as:TA}
def Lc:kM (Br as) fr tc te Z H Q=as Z H λvs H1=>on1 vs λv=>gU v λj=>(-(2 ^ 62)<=j/\j < 2 ^ 62)/\lc (WZ 0 j.toNat) fr tc te Z H1 Q:=by
 unfold kM Br
 congr 1
 funext vs H1;refine propext ⟨fun⟨j,e,h1,h2,h⟩=>by subst e;exact⟨⟨h1,h2⟩,h⟩,λh=>?_⟩;unfold on1 at h;split at h
 ·obtain⟨j,rfl,⟨h1,h2⟩,h⟩:=eQ h;exact⟨j,rfl,h1,h2,h⟩
 ·exact h.elim
def Lb:kM (u0 K tl) fr tc te Z H Q=tl Z H λx H1=>bH x λa=>(∃xs,fV K H1 a xs)/\lc (WG K a) fr tc te Z H1 Q:=by
 unfold kM u0
 congr 1
 funext x H1;exact propext ⟨fun⟨a,e,h1,h⟩=>by subst e;exact⟨h1,h⟩,λh=>by obtain⟨a,rfl,h1,h⟩:=aU h;exact⟨a,rfl,h1,h⟩⟩
def BP(x:V)(k:Str->Prop)(_u:Tg k:=()):Prop:=match x with
 | .str p=>k p
 | _=>False
def Lr{k:Str->Prop}{u:Tg k}:@BP (.str x) k u=k x:=rfl
def OY{B:Bool->Hp->Prop}:Nj Z H B=B true H:=rfl
def QM:bC [] Z=[]:=rfl
def Be(hi:i < n):(∃m',m' < n - i/\cW n Pv (i+1) m' xs H)=Pv (i+1) xs H :=
 propext ⟨fun⟨_,_,_,_,h⟩=>h,λh=>cW.next hi h⟩
def IE{lo:Int}(Pv:Nat->List V->Hp->Prop)(h0:Pv 0 [] H)(hz:∀i xs H,Pv i xs H->xs.length<=1000000)(hs:∀i xs H,i < n->Pv i xs H->tc 1e0 H λb H2=>if b=true then te 1e0 H2 0e0 else Pv (i+1) xs H2)(hd:∀xs H,Pv n xs H->∀p,H p=none->Q (.ref p) 2e0):lc (WZ lo n) fr tc te Z H Q :=
 CU Pv h0 hz (λi xs H hi h=>by simp only[Be hi];exact hs i xs H hi h) hd
def pN(Pv:Nat->List V->Hp->Prop)(h0:Pv 0 [] H)(hz:∀i xs H,Pv i xs H->xs.length<=1000000)(hl:∀i xs H,Pv i xs H->fV K H a ys)(hs:∀i y xs H,i < ys.length->ys[i]?=some y->Pv i xs H->tc 3e0 H λb H2=>if b=true then te 3e0 H2 0e0 else Pv (i+1) xs H2)(hd:∀xs H,Pv ys.length xs H->∀p,H p=none->Q (.ref p) 2e0):lc (WG K a) fr tc te Z H Q :=
 Ft Pv h0 hz hl (λi y xs H hi e h=>by simp only[Be hi];exact hs i y xs H hi e h) hd
end
end
noncomputable def KW(kb:List (Key×V)):List (Key×V)->Bool
 | []=>true
 | (k,v)::r=>match aZ kb k with
  | none=>false
  | some y=>yR v y&&KW kb r
mutual
inductive xU(K:q0B)(H:Hp):Nat->V->V->Bool->Prop
 | flat {n:Nat} {x y:V}:eK x=true->eK y=true->xU K H n x y (yR x y)
 | same {n:Nat} {a:Addr}:xU K H n (.ref a) (.ref a) true
 | refs {n:Nat} {a b:Addr} {r:Bool}:a≠b->qO K H n a b r->xU K H n (.ref a) (.ref b) r
inductive qO(K:q0B)(H:Hp):Nat->Addr->Addr->Bool->Prop
 | list {n:Nat} {a b:Addr} {xs ys:List V} {e:Nat->Bool}:fV K H a xs->fV K H b ys->xs.length=ys.length->(∀j x y,xs[j]?=some x->ys[j]?=some y->xU K H n x y (e j))->qO K H (n+1) a b ((List.range xs.length).all e)
 | VS {n:Nat} {a b:Addr} {xs ys:List V}:fV K H a xs->fV K H b ys->xs.length≠ys.length->qO K H (n+1) a b false
 | tup {n:Nat} {a b:Addr} {xs ys:List V} {e:Nat->Bool}:iR K H a xs->iR K H b ys->(∀j x y,xs[j]?=some x->ys[j]?=some y->xU K H n x y (e j))->qO K H (n+1) a b ((List.range (min xs.length ys.length)).all e&&xs.length==ys.length)
end
section
mutual
example:=[.ref b,.ref a,(by omega),(by show A.units+1+_ < _;omega),he j x y ex ey]
theorem jV{UN:List Value}(r:UO xs UN)(h:j < UN.toArray.size):∃x,xs[j]?=some x/\bQ x UN.toArray[j]:=by
 have hj:j < xs.length:=by have:=r.length;simp only[Η] at h;omega
 have e:=ϕ hj;obtain⟨u,g,ru⟩:=r.get e;refine⟨_,e,?_⟩;obtain⟨_,q⟩:=Ν.mp g;have:UN.toArray[j]=u:=by simpa using q
 rw[this];exact ru
theorem D8:∀(n:Nat),(∀{a b:Addr} {r:Bool},qO X.K H n a b r->∀{A:Around},UM X UJ Z H s->A.units+n < cLine->SeqAt.RcAt A s 1e0 0e0 r)/\(∀{x y:V} {b:Bool},xU X.K H n x y b->∀{A:Around} {v u:Value},UM X UJ Z H s->bQ x v->bQ y u->A.units+n < cLine->SeqAt.EqAt A s v u b):=by
 intro n;have up:∀{n:Nat},(∀{a b:Addr} {r:Bool},qO X.K H n a b r->∀{A:Around},UM X UJ Z H s->A.units+n < cLine->SeqAt.RcAt A s 1e0 0e0 r)->(∀{x y:V} {b:Bool},xU X.K H n x y b->∀{A:Around} {v u:Value},UM X UJ Z H s->bQ x v->bQ y u->A.units+n < cLine->SeqAt.EqAt A s v u b):=by
  intro n rc x y b h A v u I rx ry hu;cases h with
  | flat fx fy=>exact Ih rx ry fx fy
  | same =>
   cases rx;cases ry;exact SeqAt.EqAt.same _
  | refs ne h =>
   cases rx;cases ry;exact SeqAt.EqAt.of_refs ne (rc h I hu)
 suffices g:∀{a b:Addr} {r:Bool},qO X.K H n a b r->∀{A:Around},UM X UJ Z H s->A.units+n < cLine->SeqAt.RcAt A s 1e0 0e0 r from ⟨g,up g⟩
 induction n with
 | zero=>intro a b r h;cases h
 | succ n ih =>
  intro a b r h A I hu;have ih:=@up n @ih;cases h with
  | list hx hy hl he =>
   obtain⟨UN,r1,p1,z1⟩:=I.list hx;obtain⟨Yx,r2,p2,z2⟩:=I.list hy;have l1:=r1.length;have l2:=r2.length;have:=SeqAt.RcAt.lists p1.isList p2.isList (by simp only[Η];omega) 2e0 (A:=A) (λj h1 h2=>by
    obtain⟨x,ex,rx⟩:=jV r1 h1;obtain⟨y,ey,ry⟩:=jV r2 h2;exact ih 4e0 I rx ry 3e0)
   rw[Η,<- l1] at this;exact this
  | VS hx hy hl =>
   obtain⟨UN,r1,p1,z1⟩:=I.list hx;obtain⟨Yx,r2,p2,z2⟩:=I.list hy;have l1:=r1.length;have l2:=r2.length;exact SeqAt.RcAt.lists_lengths p1.isList p2.isList (by simp only[Η,bne_iff_ne,ne_eq];omega) 2e0
  | tup hx hy he =>
   obtain⟨UN,r1,p1,z1⟩:=I.tuple hx;obtain⟨Yx,r2,p2,z2⟩:=I.tuple hy;have l1:=r1.length;have l2:=r2.length;have:=SeqAt.RcAt.tuples (show s.heap.IsTuple _ UN.toArray from p1) (show s.heap.IsTuple _ Yx.toArray from p2) 2e0 (A:=A) (λj h1 h2=>by
    obtain⟨x,ex,rx⟩:=jV r1 h1;obtain⟨y,ey,ry⟩:=jV r2 h2;exact ih 4e0 I rx ry 3e0)
   rw[Η,Η,<- l1,<- l2] at this;exact this
def Ig{x y:V}{b:Bool}(h:xU X.K H n x y b){u:Value}(I:UM X UJ Z H s)(rx:bQ x v)(ry:bQ y u)(hu:A.units+n < cLine):SeqAt.EqAt A s v u b:=(D8 n).2 h I rx ry hu
def Jy{b:Addr}(h:qO X.K H n a b r)(I:UM X UJ Z H s)(hu:A.units+n < cLine):SeqAt.RcAt A s 1e0 0e0 r:=(D8 n).1 h I hu
end
end
section
variable{o e:Expr}{to te:TE}{apos US:Pos}
end
section
mutual
example:=[]
variable{Q:VK}{b p:Addr}{x:V}
def Ox{t:TGs}:LD K n t (.ref a) Z H N = ∃xs,iR K H a xs/\xs.length=n/\t xs Z H N:=by simp[LD]
def TB:((0:Nat):Int)=0:=rfl
def TC:((1:Nat):Int)=1:=rfl
def TF:((2:Nat):Int)=2:=rfl
end
end
noncomputable def wA(o:Option HO)(k:List V->Prop)(_u:Tg k:=()):Prop:=match o with
 | some (.tup xs)=>k xs
 | _=>False
def BQ(h:wA o k):∃xs,o=some (.tup xs)/\k xs:=by
 unfold wA at h;split at h
 ·exact⟨_,rfl,h⟩
 ·exact h.elim
noncomputable def Hz:R2:=λx y H Q=>bH x λa=>bH y λb=>wA (H a) λxs=>wA (H b) λys=>xs.length+ys.length<=sizeLine/\(if xs=[] then Q y H else if ys=[] then Q x H else ∀p,H p=none->Q (.ref p) (UK H p (.tup (xs++ys))))
section
def Jj:jR X (binaryOp .Add) (λx y H Q=>∃a b ys,x=.ref a/\y=.ref b/\iR X.K H a []/\iR X.K H b ys/\Q (.ref b) H):=by
 intro UJ s Z H x y v u Q I rx ry h;obtain⟨a,b,ys,rfl,rfl,ha,hb,q⟩:=h;cases rx;cases ry;obtain⟨UN,r1,p1,_⟩:=I.tuple ha;obtain⟨VH,r2,p2,_⟩:=I.tuple hb;have l1:UN=[]:=r1.tM.mpr rfl;obtain⟨⟨c1,d1,t1,o1⟩,ho,rfl,n,rfl⟩:=p1;obtain⟨⟨c2,d2,t2,o2⟩,Vr,rfl,n2,rfl⟩:=p2;exact concat_meets ⟨_,ho,rfl⟩ ⟨_,Vr,rfl⟩ noFill_tuple_add seq_tuple_add PySem.F.slot_tuple_add PySem.F.entry_tuple_add (PySem.F.args_tuple_add_2 _ _) (tuple_addW0 a b UN.toArray VH.toArray n n2 d1 d2 o1 o2 (by simp[l1])) ⟨ho,Vr,.ref b,H,I,rfl,q⟩
def LZ:jR X (binaryOp .Add) Hz:=(Jj.or Ey).imp λx y H Q h=>by
 obtain⟨a,rfl,h1⟩:=aU h;obtain⟨b,rfl,h2⟩:=aU h1;obtain⟨xs,e1,h3⟩:=BQ h2;obtain⟨ys,e2,h4,h5⟩:=BQ h3;by_cases c:xs=[]
 ·rw[if_pos c] at h5;subst c;exact .inl ⟨a,b,ys,rfl,rfl,.inl (.inl e1),.inl (.inl e2),h5⟩
 ·rw[if_neg c] at h5;refine .inr ⟨a,b,xs,ys,rfl,rfl,.inl (.inl e1),.inl (.inl e2),c,h4,λz=>?_,λz=>?_⟩
  ·rw[if_pos z] at h5;exact h5
  ·rw[if_neg z] at h5;exact h5
end
section
variable{Q:VK}{b p:Addr}{lo hi:Option Int}
def Ls{u:Tg k}:@wA (some (.tup vs)) k u=k vs:=rfl
def Ib:Hz (.ref a) (.ref b) H Q=wA (H a) λxs=>wA (H b) λys=>xs.length+ys.length<=sizeLine/\(if xs=[] then Q (.ref b) H else if ys=[] then Q (.ref a) H else ∀p,H p=none->Q (.ref p) (UK H p (.tup (xs++ys)))):=rfl
def Of:Hq lo hi H Q (some (.tup vs))=(¬ (HT.gZ vs.length 0 lo=0/\HT.gZ vs.length vs.length hi=vs.length)/\∀p,H p=none->Q (.ref p) (UK H p (.tup (oQ vs lo hi)))):=rfl
end
def Ao:typeLookup (.type "list") "keys"=pure none:=by rw[typeLookup_type,builtinLookup_eq_fast];kernel_rfl
section
mutual
example:=[(by omega),bI P W,Key×Value,model P W,.ref a,(Builtin.«dict.update.loop» ⟨[.ref d,.ref it,rawInt i,.none],[]⟩),pyNext (.ref it) >>= _,(by decide +kernel),stored acc k v,.ret .none]
variable{prog:Program}
theorem FU{UN:Array Value}(hx:s.heap.get? a=some {cls:=.type "list",data:=.seq UN n})(hA:A.handled=none)(hq:∀h' tk,(∀b o,s.heap.get? b=some o->h'.get? b=some o)->Q none {s with heap:=h',toks:=tk}):wpAny (model prog w) A (getAttr? 4e0 "keys") Q E s:=by
 obtain⟨hp,g,d,tk,os⟩:=s;have hT:∀t,(⟨hp,g,d,t,os⟩:Shared).TypeIs 4e0 "list":=λt=>⟨_,hx,rfl⟩;have f1:=sub_AttributeError;have f2:=F.slot_list_getattribute.lookup;have f3:=F.slot_list_getattribute.bind 4e0;unfold getAttr? getAttrBy? getAttrBy
 repeat (any_goals (first|assumption|exact hT _|((with_reducible show wpAny _ _ (call (Value.builtin "list.__getattribute__") _ _) _ _ _);refine call_meets F.slot_list_getattribute (hT _) am_entry_list_getattribute (F.args_list_getattribute_2 _ _) (meets_getattribute_miss_list a UN n #[] "keys" _ Ao 7e0 7e0) ⟨hx,hA,λh' ZJ e hx'=>?_⟩)|wp_step))
 obtain⟨t',u',he⟩:=hx'.there;show wpAny _ _ (getattributeRaised _ _ _ _ _ _ _) _ _ _;unfold getattributeRaised;have f5:=am_list_getattr_none
 repeat (any_goals (first|assumption|wp_step))
 exact hq _ _ hx'.keeps
theorem nP:plainId "dict.update.loop"=true:=by decide +kernel
def yQ:entryFor table "dict.update.loop"=some Builtin.«dict.update.loop»:=entryFor_of_fast (by kernel_rfl)
theorem My{W:World}{d t:Addr}{kv:Value}{k:Key}{acc:List 2e0}{Q:PySem.Fin->Shared->Prop}(hit:s.heap.IsListIter it l i)(hl:s.heap.IsList l items)(hx:items[i]?=some (.ref t))(ht:s.heap.IsTuple t #[kv,v])(hk:(bI P W).is k kv=true)(hd:s.heap.DictOf 1e0 d acc)(hsz:acc.length<=sizeLine)(ndi:d≠it)(nti:t≠it)(hq:∀h' tk,h'.IsListIter it l (i+1)->h'.DictOf 1e0 d 8e0->(∀b o,b≠d->b≠it->s.heap.get? b=some o->h'.get? b=some o)->Q (.again (.builtin "dict.update.loop" ⟨[.ref d,.ref it,rawInt (i+1),.none],[]⟩)) {s with heap:=h',toks:=tk}) : wpAny 3e0 A 5e0 Q E s:=by
 unfold Builtin.«dict.update.loop»;show wpAny _ _ 6e0 _ _ _;refine Β (wpAny_pyNext_list_item hit hl hx λh1 aa5 sb=>?_);dsimp only;refine Β (Α9 ?_);refine Β (wpAny_tryCatch ?_);unfold Builtin.Dict.pairItems;obtain⟨o,ho,hc,m,YW⟩:=ht;have ho1:h1.get? t=some o:=(sb.2 t nti).trans ho;refine Β (wpAny_typeOf (T:="tuple") ⟨o,ho1,hc⟩ ?_);rw[if_pos (by decide)];refine Β (wpAny_seqItems ho1 YW (Ι ?_));show wpAny _ _ (holding [kv,v] (dictSet d kv v)) _ _ _;refine Α9 (wpAny_dictSet_pairs hk (hd.sameBut sb ndi) (λh2 hd2 sb2=>?_) hsz);refine Ι (hq h2 _ ?_ hd2 λb o b1 b2 e=>(sb2.2 b b1).trans ((sb.2 b b2).trans e));exact aa5.at λo e=>(sb2.2 it ndi.symm).trans e
def Qh{W:World}{d:Addr}{Q:PySem.Fin->Shared->Prop}(hh:A.handled=none)(hit:s.heap.IsListIter it l i)(hl:s.heap.IsList l items)(hx:items[i]?=none)(hq:∀h',(∀b o,b≠it->s.heap.get? b=some o->h'.get? b=some o)->Q (.done 9e0) {s with heap:=h'}) : wpAny 3e0 A 5e0 Q E s:=by
 unfold Builtin.«dict.update.loop»;show wpAny _ _ 6e0 _ _ _;refine Β (wpAny_pyNext_list_end hh hit hl hx λh1 eb=>?_);dsimp only;show wpAny _ _ (Builtin.Dict.addKeywords d [] >>= _) _ _ _;exact Β (Ι (Ι (hq h1 λb o b1 e=>eb b o b1 e)))
theorem Qg{W:World}{d:Addr}{items:List Value}(ps:List 2e0)(ndi:d≠it)(ndl:l≠d)(nli:l≠it):∀(m i:Nat),items.length=i+m->∀(A:Around) (R:Result->Shared->Prop) (s:Shared) (acc:List 2e0),A.handled=none->s.heap.IsListIter it l i->s.heap.IsList l items.toArray -> (∀j,i<=j->j < items.length->∃(t:Addr) (kv:Value) (k:Key) (v:Value),items[j]?=some (.ref t)/\ps[j]?=some (k,v)/\s.heap.IsTuple t #[kv,v]/\(bI P W).is k kv=true/\t≠it/\t≠d) -> s.heap.DictOf 1e0 d acc->acc.length+m<=sizeLine->ps.length=items.length -> (∀h' tk,h'.DictOf 1e0 d (merged acc (ps.drop i))->(∀b o,b≠d->b≠it->s.heap.get? b=some o->h'.get? b=some o)->R (.ok 9e0) {s with heap:=h',toks:=tk}) -> codeAny 3e0 A (.builtin "dict.update.loop" ⟨[.ref d,.ref it,rawInt i,.none],[]⟩) R s:=by
 intro m
 induction m with
 | zero =>
  intro i hm A R s acc hh hit hl hp hd hsz V7 q;refine Ε9 yQ ?_;rw[Ε0 nP _];refine Qh (A:=A.in1) hh hit hl (by simp;omega) λh' k=>?_;have e:ps.drop i=[]:=List.drop_of_length_le 0e0;rw[e] at q;exact q h' s.toks (by
   obtain⟨o,es,ep,ho,r⟩:=hd;exact⟨o,es,ep,k _ _ ndi ho,r⟩) λb o _ b2 e=>k b o b2 e
 | succ m ih =>
  intro i hm A R s acc hh hit hl hp hd hsz V7 q;refine Ε9 yQ ?_;rw[Ε0 nP _];obtain⟨t,kv,k,v,e1,e2,ht,hk,n1,n2⟩:=hp i (Ζ _) 0e0;refine My (A:=A.in1) hit hl (by simpa using e1) ht hk hd 0e0 ndi n1 λh' tk aa4 hd' kp=>?_;refine⟨plainId_quiet nP _,?_⟩;have c:((i:Int)+1)=((i+1:Nat):Int):=by omega
  rw[c];have es:ps.drop i=(k,v)::ps.drop (i+1):=by
   obtain⟨Ve,e3⟩:=Ν.mp e2;rw[List.drop_eq_getElem_cons Ve,e3]
  refine ih (i+1) 0e0 A R _ 8e0 hh aa4 (hl.at λo e=>kp l o ndl nli e) (λj h1 h2=>?_) hd' ?_ V7 λh'' ZJ aa3 kp'=>?_
  ·obtain⟨t,kv,k,v,e1,e2,ht,hk,n1,n2⟩:=hp j 0e0 h2;obtain⟨o,ho,r⟩:=ht;exact⟨t,kv,k,v,e1,e2,⟨o,kp t o n2 n1 ho,r⟩,hk,n1,n2⟩
  ·have:=stored_length_le acc k v;omega
  ·refine q h'' ZJ ?_ λb o b1 b2 e=>kp' b o b1 b2 (kp b o b1 b2 e);rw[es];exact aa3
end
end
mutual
example:=[.Vi o (.dK kvs),Key×V,(by simp),aR acc kv.1 kv.2,.dK (e9 [] kvs),bI X.prog X.w,(.tup [kV k,v]),Itd a o kvs,Key×Value,(by decide)]
def tG(H:Hp)(xs:List V)(kvs:List 1e0):Prop:=xs.length=kvs.length/\∀(j:Nat) (x:V),xs[j]?=some x->∃(t:Addr) (k:Key) (v:V),x=.ref t/\H t=some 6e0/\kvs[j]?=some (k,v)
def CN:List V->Hp->VK->Prop:=λvs H Q=>on1 vs λx=>bH x λl=>eX (H l) λxs=>∃kvs,tG H xs kvs/\∀p,H p=none->Q (.ref p) (UK H p 4e0)
def Pm{W:World}(ok:HOk P W H h):∀{xs:List V} {UN:List Value} {kvs:List 1e0},UO xs UN->tG H xs kvs->∃ps:List 8e0,KV kvs ps/\ps.length=UN.length /\ ∀j,j < UN.length->∃(t:Addr) (kv:Value) (k:Key) (v:Value),UN[j]?=some (.ref t)/\ps[j]?=some (k,v)/\h.IsTuple t #[kv,v]/\(bI P W).is k kv=true/\H t≠none:=by
 intro xs UN kvs r
 induction r generalizing kvs with
 | nil =>
  intro p;cases kvs with
  | nil=>exact⟨[],.nil,rfl,λj hj=>absurd hj (Nat.not_lt_zero _)⟩
  | cons a b=>cases p.1
 | cons r rr ih =>
  intro p;cases kvs with
  | nil=>cases p.1
  | cons kv kvs =>
  rename_i x xs y ys
  obtain⟨t,k,v,rfl,ht,e⟩:=p.2 0 _ rfl;cases r;have e':kv=(k,v):=by simpa using e
  subst e';obtain⟨ps,h1,h2,h3⟩:=ih (kvs:=kvs) ⟨by simpa using p.1,λj y hy=>by
   obtain⟨t,k,v,a,b,c⟩:=p.2 (j+1) y (by simpa using hy);exact⟨t,k,v,a,b,by simpa using c⟩⟩
  obtain⟨_,UN,ri,hi⟩:=(show eE P W H h t 6e0 from ok t _ ht);cases ri with
  | cons r1 ri=>cases ri with
   | cons r2 ri =>
    cases ri;refine⟨(k,_)::ps,.cons ⟨rfl,r2⟩ h1,by simp[h2],λj hj=>?_⟩;cases j with
    | zero=>exact⟨t,_,k,_,rfl,rfl,hi,n8 r1,by rw[ht];simp⟩
    | succ j =>
     obtain⟨t',XS,k',v',a,b,c⟩:=h3 j (by simpa using hj);exact⟨t',XS,k',v',by simpa using a,by simpa using b,c⟩
theorem vN:∀(more acc:List 1e0),(e9 acc more).length<=acc.length+more.length
 | [],acc=>Ζ _
 | kv::more,acc=>by
  have h1:=vN more 3e0;have h2:=iP acc kv.1 kv.2;show(e9 3e0 more).length<=_;simp only[Ε];omega
theorem CO(hc:X.calm=true):gN X (.type "dict") CN:=λUJ s Z H vs us Q I r h=>by
 have h0:=h;unfold CN at h0;rw[<- PB] at h0;obtain⟨x,rfl,h1⟩:=h0;obtain⟨l,rfl,h2⟩:=aU h1;obtain⟨xs,el,kvs,hp,q⟩:=fO h2;obtain⟨u,rfl,ru⟩:=r.one;cases ru;obtain⟨z,UN,n,ri,hlen,eo⟩:=I.Ap el;obtain⟨ps,rel,abL,pat⟩:=Pm I.UQ ri hp;have hA:=I.ok.hd hc;refine callType_codes (Q₁:=λobj s₁=>obj=.ref s.heap.objs.size/\s₁={s with heap:=s.heap.push {cls:=.type "dict",data:=.dict #[]}}) F.kt_called_dict (F.kt_typeCall_dict_1 _) F.entry_dict_init (kt_code_dict_new _ ⟨rfl,rfl⟩) ?_;rintro obj s₁ ⟨rfl,rfl⟩;have VG:(s.heap.push {cls:=.type "dict",data:=.dict #[]}).DictOf 5e0 s.heap.objs.size []:=Heap.DictOf.new s.heap;refine⟨VG.typeIs,F.args_dict_init_2 _ _,?_⟩;unfold Builtin.«dict.__init__» Builtin.Dict.selfAndRest;refine Β (Β (wpAny_notOrdered_dict VG.typeIs ?_));show wpAny _ _ (pure (s.heap.objs.size,[Value.ref l])) _ _ _;refine Ι ?_;show wpAny _ _ (Builtin.Dict.updateFrom "dict.__init__" s.heap.objs.size (.ref l) [] .none) _ _ _;unfold Builtin.Dict.updateFrom;have Vz:(s.heap.push {cls:=.type "dict",data:=.dict #[]}).get? l=some {cls:=.type "list",data:=.seq UN.toArray n}:=Θ _ eo;refine Β (wpAny_typeOf (T:="list") ⟨_,Vz,rfl⟩ ?_);rw[if_pos 9e0];refine Β (FU Vz hA λh' tk kp=>?_);rw[if_pos (show(none:Option Value).isNone=true from rfl)];refine Β (wpAny_rule ?_);have Xc:h'.IsList l UN.toArray:=⟨_,kp _ _ Vz,rfl,n,rfl⟩;refine Β (wpAny_pyIter_list Xc (Ι ⟨plainId_quiet nP _,?_⟩));have hD:s.heap.objs.size < h'.objs.size:=Μ (kp _ _ (Φ _ rfl));have old:∀b o,s.heap.get? b=some o->(h'.push {cls:=.type "list_iterator",data:=.fields #[.ref l,rawInt 0]}).get? b=some o:=λb o e=>Θ _ (kp b o (Θ _ e));have lt:∀b o,s.heap.get? b=some o->b < s.heap.objs.size:=λb o e=>Μ e;have ll:=lt _ _ eo;refine Qg ps (Τ hD) (Τ ll) (Τ (Nat.lt_trans ll hD)) UN.length 0 2e0 X.A.in1 _ _ [] hA ⟨_,Φ _ rfl,rfl,rfl⟩ ⟨_,old _ _ eo,rfl,n,rfl⟩ (λj _ hj=>?_) ?_ (by simp only[ϔ];omega) abL λhF tkF hdF kpF=>?_
 ·obtain⟨t,kv,k,v,a1,a2,⟨o,ho,r⟩,a4,_⟩:=pat j hj;have tl:=lt _ _ ho;exact⟨t,kv,k,v,a1,a2,⟨o,old _ _ ho,r⟩,a4,Τ (Nat.lt_trans tl hD),Τ tl⟩
 ·obtain⟨o,es,ep,ho,r⟩:=VG;exact⟨o,es,ep,Θ _ (kp _ _ ho),r⟩
 ·rw[List.drop_zero] at hdF;have kl:kvs.length<=sizeLine:=by rw[<- hp.1];exact z
  have ml:=vN kvs [];refine⟨rfl,.ref s.heap.objs.size,UK H s.heap.objs.size 4e0,I.laid (λb o e=>kpF b o (Τ (lt _ _ e)) (Τ (Nat.lt_trans (lt _ _ e) hD)) (old _ _ e)) (Ζ _)
   (oR (by simp only[ϔ] at ml;omega) (Β2.mpr (Ne.symm (Τ I.big))) (rel.merge .nil) hdF),rfl,q _ (I.UQ.fresh (Ζ _))⟩
def Itd(a:Addr)(o:Obj)(kvs:List 1e0):It :=
 ⟨λi H=>i < kvs.length/\H a=some 0e0,λi H x H'=>H'=H/\∃kv,kvs[i]?=some kv/\x=kV kv.1,λi H=>i=kvs.length/\H a=some 0e0⟩
def pM{W:World}{k:Key}(h:(bI P W).is k v=true):bQ (kV k) v:=by
 rcases eW h with⟨i,t,rfl,rfl⟩|⟨x,t,rfl,rfl⟩|⟨rfl,rfl⟩
 ·exact⟨t,rfl⟩
 ·exact⟨t,rfl⟩
 ·rfl
def Im{o:Obj}{es:Array DictEntry}{ep:Nat}(I:UM X UJ Z H s)(e:H a=some 0e0)(ho:o.data=.dict es ep) : ∃vs,KV kvs vs/\s.heap.DictAt 5e0 a vs ep:=by
 obtain⟨h1,_,_,vs,rel,o',Z3,Xo,h2,h3,h4,r⟩:=(show eE X.prog X.w H s.heap a 0e0 from I.UQ a _ e);rw[h1] at h2;cases h2;rw[ho] at h4;cases h4;exact⟨vs,rel,o,es,h1,h3,ho,r⟩
def KV.at{vs:List 8e0}(r:KV kvs vs){kv:Key×V}(e:kvs[i]?=some kv):∃v,vs[i]?=some (kv.1,v):=by
 unfold KV at r
 induction r generalizing i with
 | nil=>simp at e
 | @cons p q ps qs h t ih=>cases i with
  | zero =>
   have e':p=kv:=by simpa using e
   subst e';exact⟨q.2,by simp[h.1]⟩
  | succ i=>simpa using ih (i:=i) (by simpa using e)
theorem GY(a it:Addr)(o:Obj)(kvs:List 1e0)(es:Array DictEntry)(ep:Nat)(ho:o.data=.dict es ep):Turn P w K tg 7e0 [it] it (λi h=>h.IsKeyIter it a i kvs.length ep) where
 mem:=by simp
 obj:=λi h st b hb=>by
  have e:b=it:=by simpa using hb
  subst e;obtain⟨o,e,c,d⟩:=st;exact⟨o,e,λv z=>by rw[d] at z;cases z⟩
 keep:=λi h h' st k=>st.at λo e=>k it 2e0 o e
 item:=by
  intro X hP hw hK hc i UJ s Z H E I hf st hg;subst hP hw hK;obtain⟨hi,hq⟩:=hg;obtain⟨vs,rel,dd⟩:=Im I hq ho;have hk:=ϕ hi;obtain⟨v,hv⟩:=rel.at hk;obtain⟨f0,f1,f2,f3,f4,f5⟩:=hf it 2e0;rw[rel.length] at st;refine wpAny_pyNext_dict_item st dd hv λkey h' WN Vd sb=>?_;have I1:UM X UJ Z H {s with heap:=h'}:=I.turned (t':=s.toks) (λb o hb e=>(sb.2 b hb).trans e) f0 f1 f3 f4 f5;rw[<- rel.length] at Vd;obtain⟨o',e,c,d⟩:=id Vd;exact⟨key,rfl,Eg (s:={s with heap:=h'}) e c d 9e0 ⟨kV (kvs[i]).1,H,I1,pM WN,⟨rfl,_,hk,rfl⟩,Vd,λb hb=>(hf b hb).1⟩⟩
 done:=by
  intro X hP hw hK hc i UJ s Z H E I hf st hg;subst hP hw hK;obtain⟨hi,hq⟩:=hg;obtain⟨vs,rel,dd⟩:=Im I hq ho;obtain⟨f0,f1,f2,f3,f4,f5⟩:=hf it 2e0;rw[rel.length] at st hi;exact wpAny_pyNext_dict_end (I.ok.hd hc) st dd (Ζ3.mpr (by omega)) λh' eb=>⟨rfl,I.turned (t':=s.toks) (λb o hb e=>eb b o hb e) f0 f1 f3 f4 f5⟩
 self:=λ_ _ _ _ _ st h=>wpAny_pyIter_keyiter st h
def O9(tl:TE):TI:=λZ H R=>tl Z H λx H1=>bH x λa=>dB (H1 a) λkvs=>∀o,R 7e0 (UK H1 a 0e0)
def L4{l:Expr}{tl:TE}(hl:PE X l tl):PI X tg l (O9 tl):=by
 intro UJ s Z H R I h;refine thn (hl UJ s Z H _ I h) λv s1 ⟨x,H1,I1,r1,q1⟩=>?_;obtain⟨a,rfl,q2⟩:=aU q1;obtain⟨kvs,e,q⟩:=dF q2;cases r1;obtain⟨z,hd,vs,rel,dd⟩:=nX I1.UQ e;obtain⟨ep,dat⟩:=dd.dictAt;obtain⟨o,es,ho,hx,YW,r⟩:=id dat;have I2:UM X UJ Z (UK H1 a 0e0) s1:=I1.write (t':=s1.toks) (x:=a) (e:=a) (by rw[e];exact True.intro) (.inl rfl) (λ_ _ _ q=>q) ⟨o,ho⟩ ⟨ho,oR z hd rel dd⟩;refine wpAny_pyIter_dict hd dat ?_;have F:(UK H1 a 0e0) s1.heap.objs.size=none:=I2.UQ.fresh (Ζ _);refine⟨s1.heap.objs.size,[s1.heap.objs.size],_,_,_,rfl,I2.kept (t':=s1.toks) λb o e=>Θ _ e,GY a _ o kvs es ep YW,?_,λb hb=>?_,q o⟩
 ·rw[rel.length];exact⟨_,Φ _ rfl,rfl,rfl⟩
 ·have e:b=s1.heap.objs.size:=by simpa using hb
  subst e;exact I2.Il (Ζ _) F
end
section
variable{tc:TT}{te tl:TE}{Q:VK}
def La:kM (O9 tl) fr tc te Z H Q=tl Z H λx H1=>bH x λa=>dB (H1 a) λkvs=>∀o,lc (Itd a o kvs) fr tc te Z (UK H1 a (.Vi o (.dK kvs))) Q:=by
 unfold kM O9;rfl
theorem LN{o:Obj}(Pv:Nat->List V->Hp->Prop)(h0:Pv 0 [] H)(hz:∀i xs H,Pv i xs H->xs.length<=1000000)(hl:∀i xs H,Pv i xs H->H a=some (.Vi o (.dK kvs)))(hs:∀i kv xs H,i < kvs.length->kvs[i]?=some kv->Pv i xs H->tc (some (kV kv.1)::bC fr Z) H λb H2=>if b=true then te (some (kV kv.1)::bC fr Z) H2 (λz H3=>Pv (i+1) (xs++[z]) H3) else Pv (i+1) xs H2)(hd:∀xs H,Pv kvs.length xs H->∀p,H p=none->Q (.ref p) (UK H p (.lst xs))):lc (Itd a o kvs) fr tc te Z H Q:=by
 refine⟨cW kvs.length Pv,⟨kvs.length,by simp,Α1 _,h0⟩,?_⟩;rintro i m xs H ⟨rfl,hi,p⟩;refine⟨hz i xs H p,?_⟩;by_cases Ve:i < kvs.length
 ·refine .inr ⟨⟨Ve,hl i xs H p⟩,λy H' yy=>?_⟩;obtain⟨e,kv,hk,rfl⟩:=yy;subst e;simp only[Be Ve];exact hs i kv xs _ Ve hk p
 ·have e:i=kvs.length:=by omega
  subst e;exact .inl ⟨⟨rfl,hl _ xs H p⟩,hd xs H p⟩
end
section
variable{td ty tx:TE}{Q:VK}{D:Ends}{v w x:V}
def Lf:CN [.ref l] H Q=eX (H l) λxs=>∃kvs,tG H xs kvs/\∀p,H p=none->Q (.ref p) (UK H p (.dK (e9 [] kvs))):=rfl
end
def HB:List V->Hp->VK->Prop:=λvs H Q=>on1 vs λx=>bH x λp=>eX (H p) λys=>∀l,H l=none->Q (.ref l) (UK H l (.tup ys))
def Jg{x:V}{k:Str->Prop}(h:BP x k):∃z,x=.str z/\k z:=by
 unfold BP at h;split at h
 ·exact⟨_,rfl,h⟩
 ·exact h.elim
def jJ{k:V->Prop}(h:on1 vs k):∃v,vs=[v]/\k v:=by
 unfold on1 at h;split at h
 ·exact⟨_,rfl,h⟩
 ·exact h.elim
section
def eJ:gN X (.type "tuple") HB:=λUJ s Z H xs us Q I r h=>by
 obtain⟨x,rfl,h⟩:=jJ h;obtain⟨p,rfl,h⟩:=aU h;obtain⟨ys,e,h⟩:=fO h;exact xX UJ s Z H _ us Q I r ⟨_,_,rfl,.inl ⟨.inl (.inl e),h⟩⟩
end
section
variable{T:String}{r:V->List V->Hp->VK->Prop}{to:TE}{t:TA}{Q:VK}{i:Int}{p:Addr}{ys:List Str}
def LB:HB [.ref p] H Q=eX (H p) λys=>∀l,H l=none->Q (.ref l) (UK H l (.tup ys)):=rfl
end
abbrev TJ:=Str->St->Hp->(Str->Hp->Prop)->Prop
section
variable{e a b:Expr}{te:TE}{tj:TJ}
end
noncomputable def Uw(r:V->List V->Hp->VK->Prop)(to:TE)(t:TA):TE:=λZ H Q=>to Z H λx H1=>bH x λa=>eX (H1 a) λ_=>t Z H1 λxs H2=>r (.ref a) xs H2 Q
noncomputable def Qs:V->List V->Hp->VK->Prop:=λx vs H Q=>bH x λa=>on1 vs λy=>bH y λb=>eX (H a) λxs=>eX (H b) λzs=>xs.length+zs.length<=sizeLine/\Q .UL (UK H a (.lst (xs++zs)))
noncomputable def MK:V->List V->Hp->VK->Prop:=λx vs H Q=>bH x λa=>on1 vs λy=>gU y λi=>eX (H a) λxs=>i=0/\iY xs[0]? λv=>Q v (UK H a (.lst xs.tail))
section
variable{o e:Expr}{to:TE}{t:TA}{name:Str}{apos US:Pos}{id:String}{r:V->List V->Hp->VK->Prop}
theorem qA(slot:Slot "list" name id)(hty:typeOf (.builtin id)=pure (.type "method_descriptor"))(hm:MD X id r)(ho:PE X o to)(ha:PA X (e::es) t)(Vp:attributeBase o name X.env (eval o X.env)=eval o X.env:=by rfl)(YX:((backTo US (starEach (e::es) X.env)).all (λx=>!x.1)&&(backToKw US (keywordEach [] X.env)).all (λx=>x.1.isSome)&&decide ((e::es).length+([]:List Keyword).length+(if ([]:List Keyword).isEmpty then 0 else 1) < 30))=true:=by rfl)(Vq:(apos.endLine==US.line)=true:=by rfl)(hs:starEach (e::es) X.env=(false,eval e X.env)::starEach es X.env:=by rfl)(Wm:(backTo US (starEach es X.env)).any (·.1)=false:=by rfl) : PE X (.Call (.Attribute o name apos) (e::es) [] US) (Uw r to t):=by
 intro UJ s Z H Q I h;refine wpAny_Call_method_late Vp YX Vq rfl (thn (ho UJ s Z H _ I h) λv s1 ⟨x,H1,I1,r1,q1⟩=>?_);obtain⟨a,rfl,q1⟩:=aU q1;obtain⟨xs,e1,q1⟩:=fO q1;obtain⟨h1,h2⟩:=DJ (T:="list") I1 r1 (.inl ⟨rfl,xs,.inl (.inl e1)⟩);refine⟨"list",id,PySem.F.plainAttrs_list,slot,hty,h1,h2,?_⟩;have hA:=ha US UJ s1 Z H1 _ I1 q1;rw[hs] at hA ⊢;refine Α7 (by show(false||(backTo US (starEach es X.env)).any (·.1))=false;rw[Wm]<;>rfl) (Δ9 ?_);exact thn hA λus s2 ⟨vs,H2,I2,r2,q2⟩=>hm UJ s2 Z H2 _ vs v us Q I2 r1 r2 q2
def tL:MD X "list.extend" Qs:=λUJ s Z H x vs v us Q I rx rv h=>by
 obtain⟨a,rfl,h1⟩:=aU h;obtain⟨y,rfl,h2⟩:=jJ h1;obtain⟨b,rfl,h3⟩:=aU h2;obtain⟨xs,e1,h4⟩:=fO h3;obtain⟨zs,e2,h5⟩:=fO h4;exact Gg UJ s Z H _ _ v us Q I rx rv ⟨_,_,_,_,rfl,rfl,e1,e2,h5⟩
theorem Aq:MD X "list.pop" MK:=λUJ s Z H x vs v us Q I rx rv h=>by
 obtain⟨a,rfl,h1⟩:=aU h;obtain⟨y,rfl,h2⟩:=jJ h1;obtain⟨i,rfl,h3⟩:=eQ h2;obtain⟨xs,e1,rfl,h4⟩:=fO h3;obtain⟨y,e2,h5⟩:=dI h4;cases xs with
 | nil=>cases e2
 | cons z zs=>exact IS UJ s Z H _ _ v us Q I rx rv ⟨_,_,_,0,y,rfl,rfl,e1,by decide,by decide,by simp[seqIndex?],e2,h5⟩
end
mutual
example:=[!xs.isEmpty]
def GW:Option HO->Option Bool
 | some (.lst xs)=>some 0e0
 | some (.tup xs)=>some 0e0
 | some (.dK kvs)=>some (!kvs.isEmpty)
 | _=>none
set_option backward.eqns.nonrecursive false in
def xO(H:Hp):V->Option Bool
 | .UL=>some false
 | .bl b=>some b
 | .int i=>some (i !=0)
 | .ref p=>GW (H p)
 | _=>none
def AX{x:V}{k:Bool}(h:xO H x=some k):Qn K x H k:=by
 cases x with
 | UL=>cases h;rfl
 | bl b=>cases h;rfl
 | int i=>cases h;rfl
 | ref p =>
  simp only[xO] at h;unfold GW at h;split at h
  ·next e=>cases h;exact .inl ⟨_,.inl (.inl e),rfl⟩
  ·next e=>cases h;exact .inr (.inl ⟨_,iR.of e,rfl⟩)
  ·next e=>cases h;exact .inr (.inr ⟨_,e,rfl⟩)
  ·cases h
 | _=>cases h
def Ke(ta:TE):TT:=λZ H Q=>ta Z H λx H'=>iY (xO H' x) λk=>Q k H'
def tW{a:Expr}{ta:TE}(ha:PE X a ta)(he:∀whole,isTrue a X.env whole=(do let v <- whole;standAt a.pos;holding [v] (truthy v))):PT X a (Ke ta):=by
 intro UJ s Z H Q I h;exact isTrue_plain (thn (ha UJ s Z H _ I h) λv s1 ⟨x,H1,I1,r1,q1⟩=>by
  obtain⟨k,e,q⟩:=dI q1;exact DF UJ s1 Z H1 x v Q I1 r1 ⟨k,AX e,q⟩) (he _)
end
section
mutual
example:=[.ref p,some y::bC fr Z,!vs.isEmpty]
variable{te to:TE}{t:TA}{tj:TJ}{Q:VK}{acc:Str}{r:V->List V->Hp->VK->Prop}{QS:Str->Hp->Prop}{B:Bool->Hp->Prop}{D:Ends}{p q:Addr}{v:V}{b:Bool}{i:Int}
def Om:Str.empty++x=x:=by
 show(⟨#[]++x.cps⟩:Str)=x;rw[Array.empty_append]
def TU:Uw r to t Z H Q=to Z H λx H1=>bH x λa=>eX (H1 a) λ_=>t Z H1 λxs H2=>r (.ref a) xs H2 Q:=rfl
def QP:Qs 0e0 [.ref q] H Q=eX (H p) λxs=>eX (H q) λzs=>xs.length+zs.length<=sizeLine/\Q .UL (UK H p (.lst (xs++zs))):=rfl
def ON:MK 0e0 [.int 0] H Q=eX (H p) λxs=>(0:Int)=0/\iY xs[0]? λv=>Q v (UK H p (.lst xs.tail)):=rfl
def Lz:Ke te Z H B=te Z H λx H'=>iY (xO H' x) λk=>B k H':=rfl
def OW:xO H .UL=some false:=rfl
def OS:xO H (.bl b)=some b:=rfl
def OU:xO H (.int i)=some (i !=0):=rfl
def Ie:xO H 0e0=GW (H p):=rfl
def OV:GW (some (.lst vs))=some 2e0:=rfl
def OX:GW (some (.tup vs))=some 2e0:=rfl
def OT:GW (some (.dK kvs))=some (!kvs.isEmpty):=rfl
variable{tc:TT}{tl:TE}
def Ld:kM (Pa K tl) fr tc te Z H Q=tl Z H λx H1=>bH x λa=>(∃xs,iR K H1 a xs)/\lc (Itt K a) fr tc te Z H1 Q:=by
 unfold kM Pa
 congr 1
 funext x H1;exact propext ⟨fun⟨a,e,h1,h⟩=>by subst e;exact⟨h1,h⟩,λh=>by obtain⟨a,rfl,h1,h⟩:=aU h;exact⟨a,rfl,h1,h⟩⟩
theorem IF(Pv:Nat->List V->Hp->Prop)(h0:Pv 0 [] H)(hz:∀i xs H,Pv i xs H->xs.length<=1000000)(hl:∀i xs H,Pv i xs H->iR K H a ys)(hs:∀i y xs H,i < ys.length->ys[i]?=some y->Pv i xs H->tc 1e0 H λb H2=>if b=true then te 1e0 H2 (λz H3=>Pv (i+1) (xs++[z]) H3) else Pv (i+1) xs H2)(hd:∀xs H,Pv ys.length xs H->∀p,H p=none->Q 0e0 (UK H p (.lst xs))):lc (Itt K a) fr tc te Z H Q:=by
 refine⟨cW ys.length Pv,⟨ys.length,by simp,Α1 _,h0⟩,?_⟩;rintro i m xs H ⟨rfl,hi,p⟩;refine⟨hz i xs H p,?_⟩;have q:=hl i xs H p;by_cases Ve:i < ys.length
 ·refine .inr ⟨⟨ys,ys[i],q,by simp[Ve]⟩,λy H' yy=>?_⟩;obtain⟨e,yy⟩:=yy;subst e;simp only[Be Ve];exact hs i y xs _ Ve (yy ys q) p
 ·have e:i=ys.length:=by omega
  subst e;exact .inl ⟨⟨ys,q,Ζ _⟩,hd xs H p⟩
end
end
section
theorem Mf{b:Addr}(h:qO X.K H n a b r)(I:UM X UJ Z H s)(hu:A.units+n < cLine):SeqAt.RcNeAt A s (.ref a) (.ref b) (!r):=by
 cases h with
 | list hx hy hl he =>
  obtain⟨UN,r1,p1,z1⟩:=I.list hx;obtain⟨Yx,r2,p2,z2⟩:=I.list hy;have l1:=r1.length;have l2:=r2.length;have:=SeqAt.RcNeAt.lists p1.isList p2.isList (by simp only[Η];omega) (by omega) (A:=A) (λj h1 h2=>by
   obtain⟨x,ex,rx⟩:=jV r1 h1;obtain⟨y,ey,ry⟩:=jV r2 h2;exact Ig (he j x y ex ey) I rx ry (by show A.units+1+_ < _;omega))
  rw[Η,<- l1] at this;exact this
 | VS hx hy hl =>
  obtain⟨UN,r1,p1,z1⟩:=I.list hx;obtain⟨Yx,r2,p2,z2⟩:=I.list hy;have l1:=r1.length;have l2:=r2.length;exact SeqAt.RcNeAt.lists_lengths p1.isList p2.isList (by simp only[Η,bne_iff_ne,ne_eq];omega) (by omega)
 | tup hx hy he =>
  obtain⟨UN,r1,p1,z1⟩:=I.tuple hx;obtain⟨Yx,r2,p2,z2⟩:=I.tuple hy;have l1:=r1.length;have l2:=r2.length;have:=SeqAt.RcNeAt.tuples (show s.heap.IsTuple _ UN.toArray from p1) (show s.heap.IsTuple _ Yx.toArray from p2) (by omega) (A:=A) (λj h1 h2=>by
   obtain⟨x,ex,rx⟩:=jV r1 h1;obtain⟨y,ey,ry⟩:=jV r2 h2;exact Ig (he j x y ex ey) I rx ry (by show A.units+1+_ < _;omega))
  rw[Η,Η,<- l1,<- l2] at this;exact this
end
def Qu(K:q0B)(n:Nat):R2:=λx y H Q=>bH x λa=>bH y λb=>∃r,qO K H n a b r/\Q (.bl (!r)) H
def Qq(K:q0B)(n:Nat):R2:=λx y H Q=>bH x λa=>bH y λb=>∃r,qO K H n a b r/\Q (.bl r) H
theorem oT{k:Nat}(hr:Room k A)(h:n<=60):A.units+n < cLine:=Ε3 (Nat.add_le_add_left (by omega:n<=64) _) hr.units
section
def lA(n:Nat)(hu:X.A.units+n < cLine):jR X (compareOp .NotEq) (Qu X.K n):=λUJ s Z H x y v u Q I rx ry h=>by
 obtain⟨a,rfl,h1⟩:=aU h;obtain⟨b,rfl,r,e,q⟩:=aU h1;cases rx;cases ry;exact Mf e I hu X.prog X.w X.xe _ (cE I q rfl)
def Dq(n:Nat)(hu:X.A.units+n < cLine):jR X (compareOp .Eq) (Qq X.K n):=λUJ s Z H x y v u Q I rx ry h=>by
 obtain⟨a,rfl,h1⟩:=aU h;obtain⟨b,rfl,r,e,q⟩:=aU h1;cases rx;cases ry;exact Jy e I hu X.prog X.w X.xe _ (cE I q rfl)
end
section
variable{Q:VK}{b p:Addr}{i:Int}
def Q1:Qu K n (.ref a) (.ref b) H Q = ∃r,qO K H n a b r/\Q (.bl (!r)) H:=rfl
def QN:Qq K n (.ref a) (.ref b) H Q = ∃r,qO K H n a b r/\Q (.bl r) H:=rfl
end
def Str.cs(x:Str):List Nat:=x.cps.toList
section
variable{Q:VK}{p:Addr}{z:Str}{neg:Bool}{v:V}
end
mutual
example:=[fs.lookup f]
set_option backward.eqns.nonrecursive false in
def iX(C:Addr)(o:Option HO)(k:Addr->List (Str×V)->Prop)(_u:Tg k:=()):Prop:=match o with
 | some (.ins C' dx fs)=>C'=C/\k dx fs
 | _=>False
def mI{C:Addr}{k:Addr->List (Str×V)->Prop}(h:iX C o k):∃dx fs,o=some (.ins C dx fs)/\k dx fs:=by
 unfold iX at h;split at h
 ·obtain⟨rfl,h⟩:=h;exact⟨_,_,rfl,h⟩
 ·exact h.elim
def KL(C:Addr)(f:Str)(ta:TE):TE:=λZ H Q=>ta Z H λx H1=>bH x λa=>iX C (H1 a) λ_ fs=>iY 0e0 λv=>Q v H1
def ML(C:Addr)(f:Str)(ta tv:TE):TS:=λD Z H=>tv Z H λy H1=>ta Z H1 λx H2=>bH x λa=>iX C (H2 a) λdx fs=>fs.length < 1000/\D.nx Z (UK H2 a (.ins C dx (jB f y fs)))
def MF(C:Addr)(f:Str)(ta tv:TE):TS:=λD Z H=>ta Z H λx H1=>bH x λa=>iX C (H1 a) λ_ fs=>iY 0e0 λv=>tv Z H1 λy H2=>gU v λi=>gU y λj=>iX C (H2 a) λdx Yk=>Yk.length < 1000/\D.nx Z (UK H2 a (.ins C dx (jB f (.int (i+j)) Yk)))
end
section
variable{o e value:Expr}{f:Str}{pos' XF:Pos}{ta tv:TE}{C:Addr}
def aL(c:Cls X.K C)(n:eZ X.K C f)(he:PE X e ta)(hb:attributeBase e f X.env (eval e X.env)=eval e X.env:=by rfl):PE X (.Attribute e f pos) (KL C f ta):=λUJ s Z H Q I h=>by
 refine Kz hb (thn (he UJ s Z H _ I h) λu s1 ⟨x,H1,I1,rx,q1⟩=>?_);obtain⟨a,rfl,q2⟩:=aU q1;obtain⟨dx,fs,ea,q3⟩:=mI q2;obtain⟨v,l,q⟩:=dI q3;obtain rfl:u=Value.ref a:=rx;exact uX I1 ea c n l λu' s2 I2 ru=>⟨v,H1,I2,ru,q⟩
def dN(c:Cls X.K C)(n:eZ X.K C f)(ha:PE X o ta)(hv:PE X value tv)(hs:swapsWith value (some (.Attribute o f pos')) pos.line X.env=pure false:=by rfl):PS X (.Assign [.Attribute o f pos'] value pos) (ML C f ta tv):=λUJ s Z H D I h=>by
 refine plainObj_wpAny_Assign_Attribute (thn (hv UJ s Z H _ I h) λu s1 ⟨y,H1,I1,ry,q⟩=>thn (ha UJ s1 Z H1 _ I1 q) λov s2 ⟨x,H2,I2,rx,q1⟩=>?_) hs;obtain⟨a,rfl,q2⟩:=aU q1;obtain⟨dx,fs,ea,l,q3⟩:=mI q2;obtain rfl:ov=Value.ref a:=rx;exact xA I2 ea c n l ry λs3 I3=>⟨Z,_,I3,q3⟩
def L5(c:Cls X.K C)(n:eZ X.K C f)(ha:PE X o ta)(hv:PE X value tv):PS X (.AugAssign (.Attribute o f XF) .Add value pos) (MF C f ta tv):=λUJ s Z H D I h=>by
 refine wpAny_AugAssign_AttributeAny (thn (ha UJ s Z H _ I h) λov s1 ⟨x,H1,I1,rx,q1⟩=>?_);obtain⟨a,rfl,q2⟩:=aU q1;obtain⟨dx,fs,ea,q3⟩:=mI q2;obtain⟨v,l,q⟩:=dI q3;obtain rfl:ov=Value.ref a:=rx;refine uX I1 ea c n l λu s2 I2 ru=>thn (hv UJ s2 Z H1 _ I2 q) λw3 s3 ⟨y,H2,I3,ry,q4⟩=>?_;obtain⟨i,rfl,q5⟩:=eQ q4;obtain⟨j,rfl,q6⟩:=eQ q5;obtain⟨dx',Yk,ea',l',q7⟩:=mI q6;refine thn (Pb UJ s3 Z H2 (.int i) (.int j) u w3 (λz H3=>z=.int (i+j)/\H3=H2) I3 ru ry ⟨i,j,rfl,rfl,rfl,rfl⟩) λw4 s4 ⟨z,H3,I4,rz,ez,eH⟩=>?_;subst ez eH;exact xA I4 ea' c n l' rz λs5 I5=>⟨Z,_,I5,q7⟩
end
section
mutual
example:=[Str.ofString x,Str×V,((Str.ofString y,v)::r),fs.lookup f]
variable{C dx:Addr}{fs:List 1e0}{k:Addr->List 1e0->Prop}{m f:Str}{sp:Sp}{E:XK}{ta tv:TE}{t:TA}{Q:VK}{D:Ends}{v u:V}{r:List 1e0}
def D0{u:Tg k}:@iX C (some (.ins C dx fs)) k u=k dx fs:=by simp[iX]
def QQ:KL C f ta Z H Q=ta Z H λx H1=>bH x λa=>iX C (H1 a) λ_ fs=>iY 3e0 λv=>Q v H1:=rfl
def OQ:ML C f ta tv D Z H=tv Z H λy H1=>ta Z H1 λx H2=>bH x λa=>iX C (H2 a) λdx fs=>fs.length < 1000/\D.nx Z (UK H2 a (.ins C dx (jB f y fs))):=rfl
def N8:MF C f ta tv D Z H=ta Z H λx H1=>bH x λa=>iX C (H1 a) λ_ fs=>iY 3e0 λv=>tv Z H1 λy H2=>gU v λi=>gU y λj=>iX C (H2 a) λdx Yk=>Yk.length < 1000/\D.nx Z (UK H2 a (.ins C dx (jB f (.int (i+j)) Yk))):=rfl
def HW:Cz C m sp [] E ta t Z H Q=ta Z H λx H1=>bH x λa=>iX C (H1 a) λ_ fs=>fs.lookup m=none/\t Z H1 λvs H2=>sp (.ref a::vs) H2 Q E:=by
 unfold Cz
 congr 1
 funext x H1;refine propext ⟨fun⟨a,dx,fs,e,e1,l,h⟩=>?_,λh=>?_⟩
 ·subst e;show iX C (H1 a) _;rw[e1,D0];simp only[Ϝ] at h;exact⟨l,h⟩
 ·obtain⟨a,rfl,h⟩:=aU h;obtain⟨dx,fs,e1,l,h⟩:=mI h;exact⟨a,dx,fs,rfl,e1,l,by simpa only[Ϝ] using h⟩
def OI:Fh C sp [] E t Z H Q=t Z H λvs H1=>∀x dx,H1 x=none->H1 dx=none->dx≠x->sp (.ref x::vs) (UK (UK H1 dx (.own x)) x (.ins C dx [])) (λv H2=>v=.UL/\Q (.ref x) H2) E:=by
 unfold Fh;simp only[Ϝ]
def I8{x y:String}:(Str.ofString x=Str.ofString y)=(x=y):=cZ
def HV{x y:String}:List.lookup 0e0 2e0=if x=y then some v else List.lookup 0e0 r:=by
 by_cases h:x=y
 ·subst h;simp[List.lookup]
 ·have:(Str.ofString x==Str.ofString y)=false:=Β2.mpr λz=>h (I8▸z);simp only[List.lookup,this,if_neg h]
def Fx:List.lookup x ([]:List 1e0)=none:=rfl
def OO{x y:String}:jB 0e0 u 2e0=if y=x then (Str.ofString y,u)::r else (Str.ofString y,v)::jB 0e0 u r:=by
 rw[show jB 0e0 u 2e0=(if Str.ofString y=Str.ofString x then (Str.ofString y,u)::r else (Str.ofString y,v)::jB 0e0 u r) from rfl];by_cases h:y=x
 ·rw[if_pos h,if_pos (by rw[h])]
 ·rw[if_neg h,if_neg λz=>h (I8▸z)]
def Lv:jB x u []=[(x,u)]:=rfl
end
end
section
variable{Q:VK}{x:V}{p:Addr}{t:TA}{i:Int}{z:Str}{b:Bool}
end
def g8{a b:Str}:yR (.str a) (.str b)=(a==b):=rfl
def iI{a b:Int}:yR (.int a) (.int b)=(a==b):=rfl
section
variable{o:Obj}
def UM.Mx(I:UM X UJ Z H s)(e:H a=some (.Vi o (.dK kvs)))(Vv:∀ob u,X.H₀ a≠some (.Vi ob u)):UM X UJ Z (UK H a (.dK kvs)) s:=by
 have nn:∀{b:Addr},H b=none->b≠a:=λh z=>by subst z;rw[e] at h;cases h
 refine⟨I.ok,I.os,I.bare,⟨I.base.keep,I.base.slot,λb ob q n hx=>?_,I.base.there,λb xs q=>?_,λb ob u q=>?_,λb ps q=>?_⟩,I.loc,I.cell,?_,λx c hc=>?_,λp hp=>?_,λb u q=>?_,I.len⟩
 ·have:=I.base.free b ob q n hx;rw[aC (nn this)];exact this
 ·have:=I.base.yG b xs q;rw[aC (c0 this e (by intro z;cases z))];exact this
 ·have h1:=I.base.uT b ob u q;rw[aC (λz=>by subst z;exact Vv _ _ q)];exact h1
 ·obtain⟨more,h1⟩:=I.base.yF b ps q;exact⟨more,by rw[aC (c0 h1 e (by intro z;cases z))];exact h1⟩
 ·rw[aC (nn I.free)];exact I.free
 ·rw[aC (nn (I.kE x c hc))];exact I.kE x c hc
 ·obtain⟨h1,h2,h3⟩:=I.pin p hp;exact⟨h1,by rw[aC (nn h2)];exact h2,h3⟩
 ·have own:∀b c,H b=some (.own c)->UK H a (.dK kvs) b=some (.own c):=λb c q=>by rw[aC (c0 q e (by intro z;cases z))];exact q
  have tup:∀b xs,H b=some (.tup xs)->UK H a (.dK kvs) b=some (.tup xs):=λb c q=>by rw[aC (c0 q e (by intro z;cases z))];exact q
  by_cases hb:b=a
  ·subst hb;rw[aA] at q;cases q;exact eE.tF (I.UQ b _ e).2 (λ_ _ _ z=>z) (λb q=>own b _ q) tup
  ·rw[aC hb] at q;exact(I.UQ b u q).tF (λ_ _ _ z=>z) (λb q=>own b _ q) tup
end
mutual
example:=[UK H a (.dK kvs),.Vi o (.dK kvs),.Vi ob u]
def Nk(H₀:Hp)(D:Ends):Ends :=
 {nx:=λZ H=>∃a o kvs,H a=some 1e0/\(∀ob u,H₀ a≠some 2e0)/\D.nx Z 0e0
  bk:=λZ H=>∃a o kvs,H a=some 1e0/\(∀ob u,H₀ a≠some 2e0)/\D.bk Z 0e0
  ct:=λZ H=>∃a o kvs,H a=some 1e0/\(∀ob u,H₀ a≠some 2e0)/\D.ct Z 0e0
  rt:=λv H=>∃a o kvs,H a=some 1e0/\(∀ob u,H₀ a≠some 2e0)/\D.rt v 0e0}
def Nh(H₀:Hp)(t:TS):TS:=λD Z H=>t (Nk H₀ D) Z H
def L8{st:Stmt}{t:TS}(h:PS X st t):PS X st (Nh X.H₀ t):=λUJ s Z H D I hq =>
 thn (h UJ s Z H _ I hq) λf s' q=>by
  cases f with
  | next=>obtain⟨Z',H',I',a,o,kvs,e,Vv,q⟩:=q;exact⟨Z',_,I'.Mx e Vv,q⟩
  | brk=>obtain⟨Z',H',I',a,o,kvs,e,Vv,q⟩:=q;exact⟨Z',_,I'.Mx e Vv,q⟩
  | cont=>obtain⟨Z',H',I',a,o,kvs,e,Vv,q⟩:=q;exact⟨Z',_,I'.Mx e Vv,q⟩
  | ret u=>obtain⟨v,Z',H',I',r,a,o,kvs,e,Vv,q⟩:=q;exact⟨v,Z',_,I'.Mx e Vv,r,q⟩
def Qp(ty td:TE):TE:=λZ H Q=>ty Z H λy H1=>td Z H1 λx H2=>bH x λa=>dB (H2 a) λkvs=>iY (jT y) λk=>Q (.bl (aZ kvs k).isSome) H2
def Hs(td ty:TE):TE:=λZ H Q=>td Z H λx H1=>bH x λa=>dB (H1 a) λ_=>ty Z H1 λy H2=>dB (H2 a) λkvs=>iY (jT y) λk=>iY (aZ kvs k) λv=>Q v (UK H2 a (.dK (sD kvs k)))
def Hr(td ty tx:TE):TE:=λZ H Q=>td Z H λx H1=>bH x λa=>dB (H1 a) λ_=>ty Z H1 λy H2=>tx Z H2 λz H3=>dB (H3 a) λkvs=>iY (jT y) λk=>Q ((aZ kvs k).getD z) H3
def Al{y:V}{k:Key}(h:jT y=some k):y=kV k:=by
 cases y<;>simp[jT] at h<;>subst h<;>rfl
end
section
mutual
example:=[ho UJ s Z H _ I h,(thn 0e0 λu s1 ⟨x,H1,I1,rx,q1⟩=>?_),he UJ s1 Z H1 _ I1 q3,(.inl ⟨U7,.inl e0⟩),(thn (hf UJ s2 Z H2 _ I2 q4) λfv s3 ⟨z,H3,I3,rz,q5⟩=>Calls.spliced_nil ?_),bI X.prog X.w]
variable{o e f:Expr}{apos US:Pos}{td ty tx:TE}
def Jn(ho:PE X o td)(he:PE X e ty)(m:M1 X o "pop" apos e US):PE X (.Call (.Attribute o "pop" apos) [e] [] US) (Hs td ty):=λUJ s Z H Q I h=>by
 refine wpAny_Call_method m.base m.U2 m.line Γ3 PySem.F.slot_dict_pop PySem.F.type_dict_pop 1e0;obtain⟨a,rfl,q2⟩:=aU q1;obtain⟨U7,e0,q3⟩:=dF q2;obtain rfl:u=Value.ref a:=rx;obtain⟨t1,t2,_⟩:=qX I1 3e0;refine⟨t1,t2,?_⟩;rw[m.trees];refine Α7 rfl (Δ9 (Δ4 (thn 2e0 λiv s2 ⟨y,H2,I2,ry,q4⟩=>Calls.spliced_nil ?_)));obtain⟨kvs,ea,q5⟩:=dF q4;obtain⟨k,ek,q6⟩:=dI q5;obtain⟨v,l,q7⟩:=dI q6;cases Al ek;exact QA I2 ea ry l (.inl rfl) λw' s3 I3 VI=>⟨v,_,I3,VI,q7⟩
def rQ(hu:X.A.units+1 < cLine)(ho:PE X o td)(he:PE X e ty)(hf:PE X f tx)(m:M2 X o "get" apos e f US):PE X (.Call (.Attribute o "get" apos) [e,f] [] US) (Hr td ty tx):=λUJ s Z H Q I h=>by
 refine wpAny_Call_method m.base m.U2 m.line Γ3 Γ8 PySem.F.type_dict_get 1e0;obtain⟨a,rfl,q2⟩:=aU q1;obtain⟨U7,e0,q3⟩:=dF q2;obtain rfl:u=Value.ref a:=rx;obtain⟨t1,t2,_⟩:=qX I1 3e0;refine⟨t1,t2,?_⟩;rw[m.trees];refine Α7 rfl (Δ9 (Δ4 (thn 2e0 λiv s2 ⟨y,H2,I2,ry,q4⟩ =>
  Δ4 4e0)))
 obtain⟨kvs,ea,q6⟩:=dF q5;obtain⟨k,ek,q7⟩:=dI q6;cases Al ek;exact NS hu I3 (DGet.k ea) ry rz λw' s4 I4 VI=>⟨_,H3,I4,VI,q7⟩
def EB(hu:X.A.units+1 < cLine)(hi:PE X e ty)(ho:PE X o td):PC X .In e o (Qp ty td):=λUJ s Z H Q I h=>by
 refine thn (hi UJ s Z H _ I h) λiv s1 ⟨y,H1,I1,ry,q1⟩=>thn (ho UJ s1 Z H1 _ I1 q1) λu s2 ⟨x,H2,I2,rx,q2⟩=>?_;obtain⟨a,rfl,q3⟩:=aU q2;obtain⟨kvs,e0,q4⟩:=dF q3;obtain⟨k,ek,q5⟩:=dI q4;obtain rfl:u=Value.ref a:=rx;cases Al ek;exact Tz hu I2 (DGet.k e0) ry λs3 I3=>⟨.bl (aZ kvs k).isSome,H2,I3,rfl,q5⟩
def DR(td:TE):TE:=λZ H Q=>td Z H λx H1=>bH x λa=>dB (H1 a) λ_=>Q .UL (UK H1 a (.dK []))
def Gz(ho:PE X o td)(Vp:attributeBase o "clear" X.env (eval o X.env)=eval o X.env:=by rfl)(Vq:(apos.endLine==US.line)=true:=by rfl):PE X (.Call (.Attribute o "clear" apos) [] [] US) (DR td):=λUJ s Z H Q I h=>by
 refine wpAny_Call_method0_late Vp Vq (thn 0e0 λv s1 ⟨x,H1,I1,r1,q1⟩=>?_);obtain⟨a,rfl,q2⟩:=aU q1;obtain⟨kvs,e0,q3⟩:=dF q2;obtain rfl:v=Value.ref a:=r1;obtain⟨t1,t2,_⟩:=qX I1 (.inl ⟨kvs,.inl e0⟩);refine⟨"dict","dict.clear",Γ3,PySem.F.slot_dict_clear,PySem.F.type_dict_clear,t1,t2,Α7 rfl (PySem.evalArgs_none ?_)⟩;obtain⟨z,hd,vs,rel,dd⟩:=nX I1.UQ e0;refine Δ1 PySem.F.slot_dict_clear dd.typeIs PySem.F.entry_dict_clear (PySem.F.args_dict_clear_1 _) (meets_dict_clear 5e0 a)
  ⟨vs,dd,by rw[<- rel.length];exact z,λh' Wc hs=>⟨.UL,_,?_,rfl,q3⟩⟩
 have he:∃q,h'.get? a=some q:=let ⟨q,_,_,hq,_⟩:=Wc;⟨q,hq⟩;exact nB I1 (by rw[e0];exact True.intro) hs he (oR (Α1 _) hd .nil Wc)
def MG(td ty tx:TE):TE:=λZ H Q=>td Z H λx H1=>bH x λa=>dB (H1 a) λ_=>ty Z H1 λy H2=>tx Z H2 λz H3=>dB (H3 a) λkvs=>iY (jT y) λk=>kvs.length < sizeLine /\
 (∀v,aZ kvs k=some v->Q v H3)/\(aZ kvs k=none->Q z (UK H3 a (.dK (aR kvs k z))))
theorem Jo(ho:PE X o td)(he:PE X e ty)(hf:PE X f tx)(m:M2 X o "setdefault" apos e f US):PE X (.Call (.Attribute o "setdefault" apos) [e,f] [] US) (MG td ty tx):=λUJ s Z H Q I h=>by
 refine wpAny_Call_method m.base m.U2 m.line Γ3 PySem.F.slot_dict_setdefault PySem.F.type_dict_setdefault 1e0;obtain⟨a,rfl,q2⟩:=aU q1;obtain⟨U7,e0,q3⟩:=dF q2;obtain rfl:u=Value.ref a:=rx;obtain⟨t1,t2,_⟩:=qX I1 3e0;refine⟨t1,t2,?_⟩;rw[m.trees];refine Α7 rfl (Δ9 (Δ4 (thn 2e0 λiv s2 ⟨y,H2,I2,ry,q4⟩ =>
  Δ4 4e0)))
 obtain⟨kvs,ea,q6⟩:=dF q5;obtain⟨k,ek,hl,q7,q8⟩:=dI q6;cases Al ek;obtain⟨z',hd,vs,rel,dd⟩:=nX I3.UQ ea;refine Δ1 PySem.F.slot_dict_setdefault dd.typeIs PySem.F.entry_dict_setdefault (PySem.F.args_dict_setdefault_3 _ _ _) (kt_meets_setdefault 5e0 a (n8 ry) hd fv)
  ⟨vs,dd,by rw[<- rel.length];exact z',λv hv=>?_,λhv h' Wc hs=>?_⟩
 ·have:=rel.val k;rw[hv] at this;cases l:aZ kvs k with
  | none=>rw[l] at this;exact this.elim
  | some w=>rw[l] at this;exact⟨w,H3,I3.tok _,this,q7 w l⟩
 ·have:=rel.val k;rw[hv] at this;cases l:aZ kvs k with
  | some w=>rw[l] at this;exact this.elim
  | none =>
   have he:∃q,h'.get? a=some q:=let ⟨q,_,_,hq,_⟩:=Wc;⟨q,hq⟩;exact⟨z,_,nB I3 (by rw[ea];exact True.intro) hs he (oR (by have:=iP kvs k z;omega) hd (rel.put k rz) Wc),rz,q8 l⟩
end
end
section
mutual
example:=[]
variable{td ty tx:TE}{H₀:Hp}{Q:VK}{t:TS}{D:Ends}{v:V}
def OR:Nh H₀ t D Z H=t (Nk H₀ D) Z H:=rfl
def Oh:Qp ty td Z H Q=ty Z H λy H1=>td Z H1 λx H2=>bH x λa=>dB (H2 a) λkvs=>iY (jT y) λk=>Q (.bl (aZ kvs k).isSome) H2:=rfl
def Lg:Hs td ty Z H Q=td Z H λx H1=>bH x λa=>dB (H1 a) λ_=>ty Z H1 λy H2=>dB (H2 a) λkvs=>iY (jT y) λk=>iY (aZ kvs k) λv=>Q v (UK H2 a (.dK (sD kvs k))):=rfl
def HU:Hr td ty tx Z H Q=td Z H λx H1=>bH x λa=>dB (H1 a) λ_=>ty Z H1 λy H2=>tx Z H2 λz H3=>dB (H3 a) λkvs=>iY (jT y) λk=>Q ((aZ kvs k).getD z) H3:=rfl
def HS:DR td Z H Q=td Z H λx H1=>bH x λa=>dB (H1 a) λ_=>Q .UL (UK H1 a (.dK [])):=rfl
def Lh:MG td ty tx Z H Q=td Z H λx H1=>bH x λa=>dB (H1 a) λ_=>ty Z H1 λy H2=>tx Z H2 λz H3=>dB (H3 a) λkvs=>iY (jT y) λk=>kvs.length < sizeLine/\(∀v,aZ kvs k=some v->Q v H3)/\(aZ kvs k=none->Q z (UK H3 a (.dK (aR kvs k z)))):=rfl
end
end
def MI:V->V->Hp->VK->Prop:=λx y H Q=>bH x λp=>gU y λi=>eX (H p) λxs=>iY (gY xs i) λv=>Q v H
def Qt:TIp:=λx y H Q=>gU x λi=>gU y λj=>Q (.int (i+j)) H
section
theorem Rw:PGet X MI:=λUJ s Z H o i ov iv Q I ro ri h=>by
 obtain⟨p,rfl,h1⟩:=aU h;obtain⟨k,rfl,h2⟩:=eQ h1;obtain⟨xs,e,h3⟩:=fO h2;obtain⟨v,ea,q⟩:=dI h3;cases ro;obtain⟨t,rfl⟩:=ri;obtain⟨UN,r,pl,hz⟩:=I.list (fV.of e);obtain⟨j,g1,g2,g3,g4,g5⟩:=tH ea;obtain⟨w,ew,VI⟩:=r.get g2;have hl:=r.length;have hn:=line63;have fin:EP X UJ Z Q w s:=⟨v,H,I,VI,q⟩;by_cases h0:0<=k
 ·have hj:k.toNat=j:=by
   rw[seqIndex_of h0 g5] at g1;exact ϓ g1
  exact wpAny_getItem_list pl.isList h0 (by omega) (by rw[hj];simpa using ew) fin
 ·have hj:(k+(UN.toArray.size:Int)).toNat=j:=by
   rw[seqIndex_neg (by omega) g4] at g1;rw[Η,<- hl];exact ϓ g1
  exact wpAny_getItem_list_neg pl.isList (by omega) (by rw[Η];omega) (by omega) (by rw[hj];simpa using ew) fin
def El:PIp X .Add Qt:=λUJ s Z H x y v u Q I r1 r2 h=>by
 obtain⟨i,rfl,h1⟩:=eQ h;obtain⟨j,rfl,q⟩:=eQ h1;exact Pc UJ s Z H _ _ v u Q I r1 r2 ⟨i,j,rfl,rfl,q⟩
end
structure Qm(P:Params)(K:q0B)(d:Addr):Prop where
 ex:∃es n,K.lookup d=some {cls:=.type "dict",data:=.dict es n}/\PySem.W.KeysLit P es.toList
noncomputable def Nd(tab:List (Str×Sp))(tk:TE)(t:TA):TE:=λZ H Q=>tk Z H λy H1=>BP y λx=>iY (tab.lookup x) λsp=>t Z H1 λvs H2=>sp vs H2 Q E0
theorem L3{p pos':Pos}{d:Addr}{ke e:Expr}{tk:TE}{t:TA}{k:Nat}{tab:List (Str×Sp)}(hg:Gl X x)(hm:X.mg x=some (.ref d))(M:Qm X.w.params X.K d)(hk:PE X ke tk)(hs:Ku ke)
    (F:∀y sp,tab.lookup y=some sp->∃f fd ps,PySem.W.nsIn X.K d y=some (some (.ref f))/\gH X.prog X.w X.K X.mg X.base VD k f fd ps sp/\PySem.W.keepIn X.K (.ref f)=true/\Binds X.K fd ps [])
    (hr:Room k X.A) (ha:PA X (e::es) t) (hd:(x==("__debug__":Str))=false:=by decide) (he:starEach (e::es) X.env=(false,eval e X.env)::starEach es X.env:=by rfl) (Vm:(backTo pos (starEach es X.env)).any (·.1)=false:=by rfl)
    (hc:eval (.Call (.Subscript (.Name x p) ke pos') (e::es) [] pos) X.env=(do
      let f <- eval (.Subscript (.Name x p) ke pos') X.env
      callWith pos f [] (backTo pos (starEach (e::es) X.env)) (backToKw pos (keywordEach [] X.env))):=by rfl) :
    PE X (.Call (.Subscript (.Name x p) ke pos') (e::es) [] pos) (Nd tab tk t):=λUJ s Z H Q I h=>by
  obtain⟨Z3,n',lk,kl⟩:=M.ex;refine PyProof.Rows.Call_ (Fe (T:="dict") PySem.F.slot_dict_getitem.lookup hs (thn (pY (v:=.ref d) hg hm rfl hd UJ s Z H (λv H'=>v=.ref d/\tk Z H' _) I ⟨rfl,h⟩) λo s1 ⟨v,H1,I1,r1,ev,q1⟩=>?_)) hc;subst ev;obtain rfl:o=Value.ref d:=r1;refine thn (hk UJ s1 Z H1 _ I1 q1) λi s2 ⟨y,H2,I2,ry,q2⟩=>?_;obtain⟨z,rfl,q3⟩:=Jg q2;obtain⟨sp,el,q4⟩:=dI q3;obtain⟨f,fd,ps,WO,hf,hkp,hb⟩:=F z sp el;obtain⟨t',rfl⟩:=ry;obtain⟨m,fr⟩:=I2.fr;refine⟨⟨_,I2.kIn _ _ lk,rfl⟩,PySem.W.topGetDict_K fr I2.mod.kin lk kl WO ?_⟩;refine PySem.W.callWith_K (h₀:=X.base) I2.mod.kin hkp (thn (ha pos UJ _ Z H2 _ (I2.tok _) q4) λus s3 ⟨vs,H3,I3,r3,q5⟩=>⟨I3.kIn,?_⟩) he Vm;exact AK (E:=E0) hf hr hb .nil pass0 I3 r3 (by simpa using q5)
section
mutual
example:=[]
variable{tab:List (Str×Sp)}{tk to ti te:TE}{t:TA}{Q:VK}{D:Ends}{p:Addr}{i j:Int}{Wr:V->V->Hp->VK->Prop}{Zm:TIp}{Wt:TSet}
def Og:Nd tab tk t Z H Q=tk Z H λy H1=>BP y λx=>iY (tab.lookup x) λsp=>t Z H1 λvs H2=>sp vs H2 Q E0:=rfl
def Ou:MI (.ref p) (.int i) H Q=eX (H p) λxs=>iY (gY xs i) λv=>Q v H:=rfl
def QU:Qt (.int i) (.int j) H Q=Q (.int (i+j)) H:=rfl
def Oa:Nb to ti te Wr Zm Wt D Z H=to Z H λo H1=>ti Z H1 λi H2=>Wr o i H2 λx H3=>te Z H3 λy H4=>Zm x y H4 λz H5=>Wt o i z H5 λH6=>D.nx Z H6:=rfl
def QJ{i:Nat}{ti:TIp}:Sq i te ti D Z H = ∃x,Z[i]?=some (some x)/\te Z H λy H1=>ti x y H1 λz H2=>D.nx (Z.set i (some z)) H2:=rfl
end
end
mutual
example:=[]
def intKeys:List (Key×V)->Option (List Int)
 | []=>some []
 | (.inl i,_)::r=>(intKeys r).map (i::·)
 | _=>none
theorem vA:∀{kvs:List (Key×V)} {ns:List Int},intKeys kvs=some ns->kvs.length=ns.length/\∀(j:Nat) (k:Key) (x:V),kvs[j]?=some (k,x)->∃i:Int,k=.inl i/\ns[j]?=some i
 | [],ns,h=>by cases h;exact⟨rfl,λj k x e=>by simp at e⟩
 | (k,v)::kvs,ns,h=>by
  cases k with
  | inl i =>
   simp only[intKeys,ϛ] at h;obtain⟨ms,e,rfl⟩:=h;obtain⟨l,f⟩:=vA e;refine⟨by simp[l],λj k x ej=>?_⟩;cases j with
   | zero=>simp only[Ο,Υ,Prod.mk.injEq] at ej;exact⟨i,ej.1.symm,rfl⟩
   | succ j=>exact f j k x (by simpa using ej)
  | _=>cases h
def Ej:∀{vs:List Value},vs.length=ns.length->(∀(j:Nat) (v:Value),vs[j]?=some v->∃i t,ns[j]?=some i/\v=Value.int i t)->IntsAre vs ns:=by
 induction ns with
 | nil =>
  intro vs hl _;cases vs with
  | nil=>exact .nil
  | cons _ _=>simp at hl
 | cons n ns ih =>
  intro vs hl h;cases vs with
  | nil=>simp at hl
  | cons v vs =>
   obtain⟨i,t,e,rfl⟩:=h 0 v rfl;cases e;exact .cons _ _ (ih (by simpa using hl) λj v e=>h (j+1) v (by simpa using e))
def eE.there{o:HO}(x:eE P w H h a o):∃ob,h.get? a=some ob:=by
 cases o with
 | lst xs=>obtain⟨_,_,_,_,e⟩:=x;exact⟨_,e⟩
 | tup xs=>obtain⟨_,_,_,o,e,_⟩:=x;exact⟨_,e⟩
 | dK kvs=>obtain⟨_,_,_,_,o,_,_,e,_⟩:=x;exact⟨_,e⟩
 | dT kvs=>obtain⟨_,_,_,_,o,_,_,e,_⟩:=x;exact⟨_,e⟩
 | set S n=>obtain⟨o,_,_,_,e,_⟩:=x;exact⟨_,e⟩
 | ins C dx fs=>obtain⟨_,_,_,e,_⟩:=x;exact⟨_,e⟩
 | own y=>obtain⟨_,e⟩:=x;exact⟨_,e⟩
 | xd fs=>obtain⟨_,⟨_,_,_,e,_⟩,_⟩:=x;exact⟨_,e⟩
 | rng lo hi=>obtain⟨_,_,_,e⟩:=x;exact⟨_,e⟩
 | Vi ob u=>obtain⟨e,_⟩:=x;exact⟨_,e⟩
 | YD ps=>exact⟨_,(show h.get? a=some _ from x)⟩
 | met f y=>exact⟨_,(show h.get? a=some _ from x)⟩
 | ext φ=>obtain⟨_,⟨_,e⟩,_⟩:=x;exact⟨_,e⟩
end
section
variable{Q:VK}{p:Addr}
end
section
variable{h':Heap}
end
noncomputable def SOk(t:Bool)(h:Heap)(a:Addr)(us:Array Value):Prop:=match t with
 | true=>h.IsTuple a us
 | false=>h.IsList a us
section
variable{prog:Program}
end
section
variable{prog:Program}
end
section
variable{t:Bool}
end
section
variable{elts:List Expr}{k:Nat}{tp:Pos}
end
section
variable{D:Ends}{g:TG}{tb:TS}{as:TA}
end
structure i5(X:Cx)(sc:Scope)(cl:List (Str×Addr))(x y0:Str)(fr:List Nat)(N:List Str):Prop where
 kind:sc.kind=.function
 rG:∀y∈sc.names,y.2≠.cell
 names:∀y∈sc.names,y.2=.local->sc.names.lookup y.1=some .local
 xY:closureFor sc X.env=pure cl
 sub:∀y c,cl.lookup y=some c->X.env.cells.lookup y=some c
 has:∀y,((relabel sc X.env).names.lookup y=some .cell\/(relabel sc X.env).names.lookup y=some .free)->∃c,cl.lookup y=some c
 Xg:sc.names.lookup x=some .local
 Mw:sc.names.lookup y0=some .local
 nd:N.Nodup
 N0:N=x::y0::fr.map λj=>X.N.getD j x
 XM:∀j∈fr,∃y,X.N[j]?=some y/\X.env.kindOf y=some .cell/\((relabel sc X.env).names.lookup y=some .cell\/(relabel sc X.env).names.lookup y=some .free)
section
variable{C:Addr}{y0:Str}{N:List Str}
def HH(I:UM X UJ Z H s)(S:i5 X sc cl x y0 fr N)(hf:∀b∈fp,lU X UJ H b)(Wl:∀b∈fp,b < s.heap.objs.size)(hC:s.heap.objs.size<=C) : (cN X sc cl C N s H fp (X.pn++UJ)).Ok where
 mod:=I.ok.mod
 kind:=S.kind
 glob:=I.ok.glob
 blt:=I.ok.blt
 above:=hC
 inj:=λn z c h1 h2=>I.ok.inj n z c (S.sub n c h1) (S.sub z c h2)
 has:=S.has
 cab:=λ_ _ h=>by cases h
 hd:=I.ok.hd
 frames:=I.ok.frames
 stk:=.inl rfl
 exf:=λb hb=>⟨Τ (Χ (Wl b hb) hC),λn c e=>(hf b hb).2.2.2.2.1 n c (S.sub n c e)⟩
 bs:=I.bs
 bsz:=Λ I.ok.bsz I.sz
 BI:=λb o e hb=>by
  rcases(hf b hb).2.2.2.1 with z|z
  ·exact I.ok.BI b o e z
  ·exact absurd (Χ (Μ e) (Λ I.ok.bsz z)) (Α0 _)
 Fz:=λb hb hm=>by
  rcases Α.mp (I.rX b hm) with z|z
  ·exact(hf b hb).2.1 z
  ·exact(hf b hb).2.2.1 z
 pF:=I.stack
 frf:=I.AV
def Fs(I:UM X UJ Z H s)(S:i5 X sc cl x y0 fr N)(hf:∀b∈fp,lU X UJ H b)(Wl:∀b∈fp,b < s.heap.objs.size)(hC:s.heap.objs.size<=C){h1:Heap}{t1:Nat}{m0:q0C}(hn:h1.Ns C m0)(hk:∀b o,s.heap.get? b=some o->h1.get? b=some o):UM (cN X sc cl C N s H fp (X.pn++UJ)) [] (none::none::bC fr Z) H {s with heap:=h1,toks:=t1}:=by
 refine⟨HH I S hf Wl hC,rfl,I.bare,Un.kept hk,⟨m0,hn,λi y v e1 e2 e3=>?_⟩,λy c e=>?_,I.UQ.fresh hC,λy c e=>I.kE y c (S.sub y c e),λp hp=>?_,I.UQ.kept hk,?_⟩
 ·have VQ:N[i]?=some y:=e1;rw[S.N0] at VQ
  match i,VQ,e2 with
  | 0,_,e2=>exact absurd (show(some (none:Option V))=some (some v) from e2) (by simp)
  | 1,_,e2=>exact absurd (show(some (none:Option V))=some (some v) from e2) (by simp)
  | j+2,VQ,e2 =>
   have Vy:(fr.map λj=>X.N.getD j x)[j]?=some y:=VQ;have WI:(bC fr Z)[j]?=some (some v):=e2;unfold bC at WI;rw[ϖ] at Vy WI;cases q:fr[j]? with
   | none=>rw[q] at Vy;cases Vy
   | some k =>
    rw[q] at Vy WI;have ey:X.N.getD k x=y:=ϓ Vy;have ev:(Z[k]?).join=some v:=ϓ WI;obtain⟨y',hy,VB,XA⟩:=S.XM k (ϒ q);have eyy:y=y':=by
     rw[<- ey,Ε7,hy];rfl
    subst eyy;have ev':Z[k]?=some (some v):=by
     cases z:Z[k]? with
     | none=>rw[z] at ev;cases ev
     | some o =>
      rw[z] at ev;have ev2:o=some v:=ev;rw[ev2]
    obtain⟨m,_,hl⟩:=I.loc;obtain⟨u,r,l⟩:=hl k y v hy ev' (.inr (.inl VB));refine⟨u,r,.inr ⟨XA,?_⟩⟩;rcases l with⟨z,_⟩|⟨_,c,hc,o,ho,hd⟩
    ·rw[VB] at z;cases z
    ·obtain⟨c',Xu⟩:=S.has y XA;have z:=S.sub y c' Xu;rw[hc] at z;cases z;exact⟨c,Xu,o,hk c o ho,hd⟩
 ·obtain⟨v,o,ho,hd⟩:=I.cell y c (S.sub y c e);exact⟨v,o,hk c o ho,hd⟩
 ·have hp':p∈X.pn++UJ:=by
   have z:p∈(X.pn++UJ)++[]:=hp;simpa using z
  obtain⟨e,n,ne,nf,d⟩:=I.pin p hp';exact⟨hk _ _ e,n,Τ (Χ (Μ e) hC),nostk I ne nf,d⟩
 ·show(none::none::bC fr Z).length=N.length;rw[S.N0];simp[bC]
end
@[irreducible] def oZ(K:q0B)(wi:TI)(fr:List Nat)(tc:TT)(te:TE):TE:=λZ H Q=>wi Z H λJ H1=>∃W:Nat->Nat->List V->Hp->Prop,(∃m,W 0 m [] H1)/\∀i m xs H,W i m xs H->xs.length<=1000000 /\
  ((J.stop i H/\∀p,H p=none->Q (.ref p) (UK H p (.lst xs))) \/
   (J.go i H/\∀v H',J.Wu i H v H'->∃p y y2,v=.ref p/\iR K H' p [y,y2]/\tc (some y::some y2::bC fr Z) H' λb H2=>if b=true then te (some y::some y2::bC fr Z) H2 (λz H3=>∃m',m' < m/\W (i+1) m' (xs++[z]) H3) else ∃m',m' < m/\W (i+1) m' xs H2))
section
variable{y0:Str}{N:List Str}{elt iter:Expr}{px py tp:Pos}{tk:Nat}{ifs:List Expr}{wi:TI}{tc:TT}{te:TE}
def r9(hc:X.calm=true)(hx:∀e s,¬ X.xe e s)(S:i5 X sc cl x y0 fr N)(hb:∀C s H ex pn,XG (cN X sc cl C N s H ex pn) ifs tc/\PE (cN X sc cl C N s H ex pn) elt te){Q:VK}(I:UM X UJ Z H s)(T:Turn X.prog X.w X.K (.Tuple [.Name x px,.Name y0 py] tk tp) J fp it tn)(st:tn 0 s.heap)(hf:∀b∈fp,lU X UJ H b)(w0:W 0 m0 [] H)(turn:∀i m xs H,W i m xs H->xs.length<=1000000 /\ ((J.stop i H/\∀p,H p=none->Q (.ref p) (UK H p (.lst xs))) \/ (J.go i H/\∀v H',J.Wu i H v H'->∃p y y2,v=.ref p/\iR X.K H' p [y,y2]/\tc (some y::some y2::bC fr Z) H' λb H2=>if b=true then te (some y::some y2::bC fr Z) H2 (λz H3=>∃m',m' < m/\W (i+1) m' (xs++[z]) H3) else ∃m',m' < m/\W (i+1) m' xs H2)))(fin:∀(D C:Addr) (s':Shared) (m':q0C) (H':Hp),s'.heap.Ns C m'->lU X UJ H' C->(∀h',Heap.SameBut C s'.heap h'->UM X UJ Z H' {s' with heap:=h'})->Q (.ref D) H'->RR (.ref D) C (.ok .next) s') : wpAny (model X.prog X.w) X.A (newList []) (λacc s₃=>wpAny (model X.prog X.w) X.A (newFunctionEnv sc X.env.globals cl [] X.env.qual none .none (some X.env)) (λV1 s₄ => codeAny (model X.prog X.w) X.A (.compStart (.ListComp elt [⟨.Tuple [.Name x px,.Name y0 py] tk tp,iter,ifs,0⟩] sc pos) 0 (.ref it) acc {V1 with scope:=relabel sc X.env}) (RR acc V1.locals) s₄) E s₃) E s :=
  sA (τ0:=none::none::bC fr Z) (O:=λσ1=>∃v0 v1,σ1=v0::v1::bC fr Z) (g:=LD X.K 2 (Ee (jU 0) (Ee (jU 1) LC))) hc hx S.rG S.kind S.sub
    (λC s H ex pn=>Jt hc (fQ (tT (i:=0) S.nd (show N[0]?=some x by rw[S.N0];rfl) (.inl (Δ8 S.Xg)) (.inr (Δ8 S.Xg))) (fQ (tT (i:=1) S.nd (show N[1]?=some y0 by rw[S.N0];rfl) (.inl (Δ8 S.Mw)) (.inr (Δ8 S.Mw))) tU))) hb I T st hf
    (λC h1 t1 m0 Wl hC hn hk=>Fs I S hf Wl hC hn hk) ⟨_,_,rfl⟩ w0
    (λi m xs H w=>let ⟨l,z⟩:=turn i m xs H w;⟨l,z.imp id fun⟨g,h⟩=>⟨g,λv H' hy σ1 ⟨v0,v1,e⟩=>by
      subst e;obtain⟨pp,y,y2,rfl,hpp,hs⟩:=h v H' hy;exact⟨pp,[y,y2],rfl,hpp,rfl,_,_,rfl,_,_,rfl,rfl,⟨_,_,rfl⟩,hs⟩⟩⟩) fin
def Jm(hc:X.calm=true)(hx:∀e s,¬ X.xe e s)(S:i5 X sc cl x y0 fr N)(hi:PI X (.Tuple [.Name x px,.Name y0 py] tk tp) iter wi)(hb:∀C s H ex pn,XG (cN X sc cl C N s H ex pn) ifs tc/\PE (cN X sc cl C N s H ex pn) elt te)(hs:∀v,foldedSetIterable iter X.env v=pure v:=by trivial):PE X (.ListComp elt [⟨.Tuple [.Name x px,.Name y0 py] tk tp,iter,ifs,0⟩] sc pos) (oZ X.K wi fr tc te):=by
 intro UJ s Z H Q I h;unfold oZ at h;rw[eval_ListComp];refine wpAny_comprehension_free (use:=none) rfl hs S.xY S.kind S.names ?_;refine thn (hi UJ s Z H _ I h) λv s1 h1=>thn h1 λZD s2 h2=>?_;obtain⟨it,fp,tn,J,H2,e,I2,T,Wa,f2,W,⟨m0,w0⟩,turn⟩:=h2;subst e;refine r9 (RR:=λacc C=>compPost (model X.prog X.w) X.A X.xe none (EP X UJ Z Q) acc C) hc hx S hb I2 T Wa f2 w0 turn ?_;intro D C s' m' H' hn _ Wk q;exact⟨m',hn,λh' We=>⟨.ref D,H',Wk h' We,rfl,q⟩⟩
end
def i5.of{y0:Str}{N M:List Str}(S:eC X sc cl x fr M)(Mw:sc.names.lookup y0=some .local)(nd:N.Nodup)(N0:N=x::y0::fr.map λj=>X.N.getD j x):i5 X sc cl x y0 fr N :=
 ⟨S.kind,S.rG,S.names,S.xY,S.sub,S.has,S.Xg,Mw,nd,N0,S.XM⟩
noncomputable def lc2(K:q0B)(J:It)(fr:List Nat)(tc:TT)(te:TE)(Z:St)(H:Hp)(Q:VK):Prop:=∃W:Nat->Nat->List V->Hp->Prop,(∃m,W 0 m [] H)/\∀i m xs H,W i m xs H->xs.length<=1000000 /\
  ((J.stop i H/\∀p,H p=none->Q (.ref p) (UK H p (.lst xs))) \/
   (J.go i H/\∀v H',J.Wu i H v H'->∃p y y2,v=.ref p/\iR K H' p [y,y2]/\tc (some y::some y2::bC fr Z) H' λb H2=>if b=true then te (some y::some y2::bC fr Z) H2 (λz H3=>∃m',m' < m/\W (i+1) m' (xs++[z]) H3) else ∃m',m' < m/\W (i+1) m' xs H2))
section
variable{tc:TT}{te:TE}{Q:VK}{as:TA}
end
section
variable{o:Expr}{to:TE}{apos US:Pos}
end
section
variable{Q:VK}{p:Addr}{to:TE}
end
section
variable{Q:VK}{p b:Addr}
end
section
variable{y0:Str}{N:List Str}{elt iter:Expr}{px px0 tp:Pos}{tk:Nat}{ifs:List Expr}{wi:TI}{tc:TT}{te:TE}
def B5{py XE:Pos}(hc:X.calm=true)(hx:∀e s,¬ X.xe e s)(S:i5 X sc cl x y0 fr N)(hi:PI X (.Tuple [.Name x px,.Name y0 px0] tk tp) iter wi)(hb:∀C s H ex pn,XG (cN X sc cl C N s H ex pn) ifs tc/\PE (cN X sc cl C N s H ex pn) elt te)(hN:X.N.Nodup)(hy:X.N[i]?=some y)(hl:Loc X.env.scope y)(hsw:swapsWith (.ListComp elt [⟨.Tuple [.Name x px,.Name y0 px0] tk tp,iter,ifs,0⟩] sc pos) (some (.Name y py)) XE.line X.env=pure true:=by rfl)(hs:∀v,foldedSetIterable iter X.env v=pure v:=by trivial)(hf:X.fn y=true\/X.env.scope.names.lookup y=some .local:=by trivial) : PS X (.Assign [.Name y py] (.ListComp elt [⟨.Tuple [.Name x px,.Name y0 px0] tk tp,iter,ifs,0⟩] sc pos) XE) (GV (oZ X.K wi fr tc te) (jU i)):=by
 intro UJ s Z H D I h;have h:oZ X.K wi fr tc te Z H (λx H1=>jU i x Z H1 D.nx):=h;unfold oZ at h;rw[exec_Assign_Name_used _ _ _ _ hsw];refine Β (wpAny_standAt (Β ?_));show wpAny _ X.A (do let _ <- comprehension (.ListComp elt [⟨.Tuple [.Name x px,.Name y0 px0] tk tp,iter,ifs,0⟩] sc pos) sc X.env _ (newList []) false (eval iter X.env) (some (assign (.Name y py) X.env))) _ _ s;refine Β (Β5 (wpAny_comprehension_free (use:=some (assign (.Name y py) X.env)) (Q:=λ_ s'=>SP X UJ D .next s') rfl hs S.xY S.kind S.names
  (thn (hi UJ s Z H _ I h) λv s1 h1=>thn h1 λZD s2 h2=>?_)) (λ_ s' hq=>Ι (Ι hq)) λ_ _ e=>e)
 obtain⟨it,fp,tn,J,H2,e,I2,T,Wa,f2,W,⟨m0,w0⟩,turn⟩:=h2;subst e;refine r9 (Q:=λx H1=>jU i x Z H1 D.nx) (RR:=λacc C=>compPost (model X.prog X.w) X.A X.xe (some (assign (.Name y py) X.env)) (λ_ s'=>SP X UJ D .next s') acc C) hc hx S hb I2 T Wa f2 w0 turn ?_;intro D' C s' m' H' hn fC Wk q;show wpAny _ X.A (assign (.Name y py) X.env (.ref D')) _ _ _;have I':UM X UJ Z H' s':=Wk s'.heap (Heap.SameBut.refl ..);refine wpAny_assign_Name (rY (v:=.ref D') I' hN hy hl rfl (λZj I'' ⟨a,hsa,ha⟩=>?_) hf);obtain⟨f0,f1,f2',f3,f4,f5⟩:=fC;have hCa:C≠a:=λz=>by
  rcases ha with ha|ha
  ·exact f1 (z.trans ha)
  ·exact f4 y a ha z.symm
 refine⟨m',hn.sameBut hsa hCa,λh' We=>?_⟩;exact⟨Z.set i (some (.ref D')),H',I''.turned (t':=Zj.toks) (λb o Vl e=>(We.2 b Vl).trans e) f0 f1 f3 f4 f5,q⟩
end
section
variable{a b:TS}{D:Ends}
def bU(h:∀R:St->Hp->Prop,(∀Z' H',b D Z' H'->R Z' H')->a {D with nx:=R} Z H):DD a b D Z H:=h (b D) λ_ _ x=>x
end
section
variable{td ty tv:TE}{Ws:List (TE×TE)}{tk:TE}{Q:VK}{D:Ends}
def H8:pA [] Z H R=R [] H:=rfl
def Lu:pA ((tk,tv)::Ws) Z H R=tk Z H λx H1=>tv Z H1 λy H2=>pA Ws Z H2 λps H3=>R ((x,y)::ps) H3:=rfl
end
section
variable{W:World}{dd:Addr}{es:Array DictEntry}{ep:Nat}
end
section
open PySem.W
variable{p:Array Nat}
end
section
open PySem.W
variable{W:World}
end
section
variable{W:World}{b:Addr}{es fs:Array DictEntry}{ep fp:Nat}
end
section
variable{D:Ends}{g:TG}{tb:TS}{as:TA}{Q:VK}{b:Addr}{p:Addr}
def Oi{Ws:List (TE×TE)}:Nf Ws Z H Q = ∀p,H p=none->pA Ws Z (UK H p (.dK [])) λps H2=>H2 p=some (.dK [])/\∃kvs:List (Key×V),ps=kvs.map (λkv=>(kV kv.1,kv.2))/\kvs.length<=15/\Q (.ref p) (UK H2 p (.dK (e9 [] kvs))):=rfl
end
section
variable{Q:VK}{x:V}{p:Addr}{i:Int}{z:Str}
end
def Sv(ta tb:TE):TE:=λZ H Q=>ta Z H λx H1=>iY (xO H1 x) λc=>if c=true then Q x H1 else tb Z H1 Q
section
variable{a b:Expr}{rest:List Expr}{ta tb:TE}
def PQ(ha:PE X a ta)(hb:PE X (.BoolOp .Or (b::rest) pos) tb):PE X (.BoolOp .Or (a::b::rest) pos) (Sv ta tb):=by
 intro UJ s Z H Q I h;refine BoolOp_or (thn (ha UJ s Z H _ I h) λv s1 ⟨x,H1,I1,r1,q1⟩=>?_);obtain⟨k,e,q⟩:=dI q1;refine thn (DF UJ s1 Z H1 x v (λc H2=>c=k/\H2=H1) I1 r1 ⟨k,AX e,rfl,rfl⟩) λc s2 ⟨H2,I2,e1,e2⟩=>?_;subst e1 e2;cases c with
 | true=>exact⟨x,_,I2,r1,q⟩
 | false=>exact hb UJ s2 Z _ Q I2 q
end
mutual
example:=[ns.map V.int]
def Je(x:V)(k:Int->Prop)(_u:Tg k:=()):Prop:=match x with
 | .UL=>k 0
 | .int i=>k i
 | _=>False
def Su(ta:TE):TE:=λZ H Q=>ta Z H λx H1=>Je x λi=>Q (.int i) H1
def AD{a b:Expr}{rest:List Expr}{ta:TE}(ha:PE X a ta)(hb:PE X (.BoolOp .Or (b::rest) pos) (tC (.int 0))):PE X (.BoolOp .Or (a::b::rest) pos) (Su ta):=by
 intro UJ s Z H Q I h;refine BoolOp_or (thn (ha UJ s Z H _ I h) λv s1 ⟨x,H1,I1,r1,q1⟩=>?_);have hk:∃k,xO H1 x=some k/\(if k=true then Q x H1 else Q (.int 0) H1):=by
  cases x with
  | UL=>exact⟨false,rfl,q1⟩
  | int i =>
   refine⟨i !=0,rfl,?_⟩;by_cases hi:i=0
   ·subst hi;exact q1
   ·rw[if_pos (by simpa using hi)];exact q1
  | _=>exact q1.elim
 obtain⟨k,e,q⟩:=hk;refine thn (DF UJ s1 Z H1 x v (λc H2=>c=k/\H2=H1) I1 r1 ⟨k,AX e,rfl,rfl⟩) λc s2 ⟨H2,I2,e1,e2⟩=>?_;subst e1 e2;cases c with
 | true=>exact⟨x,_,I2,r1,q⟩
 | false=>exact hb UJ s2 Z _ Q I2 q
def B3(i:Int)(ns:List Int):Option Nat:=ns.findIdx? λj=>decide (j=i)
def Qw:V->List V->Hp->VK->Prop:=λx vs H Q=>bH x λl=>on1 vs λy=>gU y λi=>∃ns:List Int,H l=some (.lst 0e0)/\iY (B3 i ns) λk=>Q .UL (UK H l (.lst ((ns.eraseIdx k).map V.int)))
theorem xR:∀{ns:List Int} {us:List Value},UO 0e0 us->∀(j:Nat) (h:j < us.length) (h':j < ns.length),∃k:Tok,us[j]=.int ns[j] k
 | [],_,.nil,j,h,_=>absurd h (by simp)
 | n::ns,u::us,.cons r t,0,_,_=>r
 | n::ns,u::us,.cons r t,j+1,h,h'=>xR (ns:=ns) (us:=us) t j (by simpa using h) (by simpa using h')
theorem uP:∀(ns:List Int) (k:Nat),(ns.map V.int).eraseIdx k=(ns.eraseIdx k).map V.int
 | [],_=>rfl
 | _::_,0=>rfl
 | n::ns,k+1=>by simp only[ϑ,List.eraseIdx_cons_succ,uP ns k]
end
section
theorem IT:MD X "list.remove" Qw:=λUJ s Z H x vs v us Q I rx rv h=>by
 obtain⟨l,rfl,h1⟩:=aU h;obtain⟨y,rfl,h2⟩:=jJ h1;obtain⟨i,rfl,ns,hH,h3⟩:=eQ h2;obtain⟨k,ek,q⟩:=dI h3;cases rx;obtain⟨u,rfl,ru⟩:=rv.one;obtain⟨t,rfl⟩:=ru;obtain⟨z,UN,n,r,hl,e⟩:=I.Ap hH;have hl':UN.length=ns.length:=by rw[<- r.length,Γ]
 obtain⟨hk,hk1,hk2⟩:=List.findIdx?_eq_some_iff_getElem.mp ek;have isI:∀(j:Nat) (h:j < UN.length),∃tk:Tok,UN[j]=.int (ns[j]'(by omega)) tk:=λj h=>xR r j h (by omega);obtain⟨g,hg⟩:∃g:Value->Bool,g=λy=>(match y with | .int a _=>a==i|_=>false):=⟨_,rfl⟩;refine call_meets PySem.F.slot_list_remove ⟨_,e,rfl⟩ PySem.F.entry_list_remove (PySem.F.args_list_remove_2 _ _)
  (MeetsSeq.list_remove l UN.toArray n (.int i t) g (λy hy=>?_) k (by simp only[Η];omega) ?_ ?_ (by rw[Η];omega)) ⟨e,?_⟩
 ·obtain⟨j,hj,rfl⟩:=Array.mem_iff_getElem.mp hy;obtain⟨tk,et⟩:=isI j (by simpa using hj);rw[List.getElem_toArray,et,hg];exact MeetsSeq.EqGives.int _ _ _ _
 ·obtain⟨tk,et⟩:=isI k (by omega);rw[List.getElem_toArray,et,hg];simpa using hk1
 ·intro m hm Ve;obtain⟨tk,et⟩:=isI m (by simpa using hm);rw[List.getElem_toArray,et,hg];simpa using hk2 m Ve
 ·refine⟨.UL,_,I.vJ (its':=UN.eraseIdx k) hH e ?_ ?_ ?_,rfl,q⟩
  ·show UN.toArray.eraseIdxIfInBounds k=(UN.eraseIdx k).toArray;rw[List.eraseIdxIfInBounds_toArray]
  ·rw[show(ns.eraseIdx k).map V.int=(ns.map V.int).eraseIdx k by rw[uP]];exact r.eraseIdx k
  ·have:=rB ns k;simp only[Γ] at this ⊢;omega
end
section
mutual
example:=[]
variable{Q:VK}{ta tb:TE}{i:Int}
def Ra:Sv ta tb Z H Q=ta Z H λx H1=>iY (xO H1 x) λc=>if c=true then Q x H1 else tb Z H1 Q:=rfl
def Q9:Su ta Z H Q=ta Z H λx H1=>Je x λi=>Q (.int i) H1:=rfl
def Q4{k:Int->Prop}{u:Tg k}:Je (.int i) k u=k i:=rfl
def Q5{k:Int->Prop}{u:Tg k}:Je .UL k u=k 0:=rfl
def Rg:Qw (.ref l) [.int i] H Q = ∃ns:List Int,H l=some (.lst (ns.map V.int))/\iY (B3 i ns) λk=>Q .UL (UK H l (.lst ((ns.eraseIdx k).map V.int))):=rfl
end
end
mutual
example:=[(by omega),lo+hi,(by simpa using Yp)]
def Rising(l:List Nat):Prop:=l.Pairwise (· < ·)
theorem uA(xs:Array Nat)(j:Nat)(hr:Rising xs.toList):∀(fuel lo hi:Nat),hi - lo<=fuel->lo<=hi->hi<=xs.size -> (∀i (h:i < xs.size),i < lo->xs[i] < j)->(∀i (h:i < xs.size),hi<=i->j<=xs[i]) -> (∀i (h:i < xs.size),i < SetTable.below.go xs j fuel lo hi->xs[i] < j)/\(∀i (h:i < xs.size),SetTable.below.go xs j fuel lo hi<=i->j<=xs[i])/\SetTable.below.go xs j fuel lo hi<=xs.size
 | 0,lo,hi,hf,hl,hh,h1,h2=>by
  have:lo=hi:=by omega
  subst this;exact⟨h1,h2,hh⟩
 | fuel+1,lo,hi,hf,hl,hh,h1,h2=>by
  have mono:∀i k (hi:i < xs.size) (hk:k < xs.size),i < k->xs[i] < xs[k]:=λi k hi hk hik=>by
   have:=Ζ2.mp hr i k (by simpa using hi) (by simpa using hk) hik;simpa using this
  unfold SetTable.below.go;by_cases c:lo < hi
  ·rw[if_pos c];have hm:1e0 / 2 < xs.size:=by omega
   have em:xs.getD (1e0 / 2) j=xs[1e0 / 2]:=by simp[Array.getD,hm]
   simp only[em];by_cases d:xs[1e0 / 2] < j
   ·rw[if_pos d];refine uA xs j hr fuel _ hi 0e0 0e0 hh (λi h Ve=>?_) h2;by_cases e:i=1e0 / 2
    ·subst e;exact d
    ·exact Nat.lt_trans (mono i _ h hm 0e0) d
   ·rw[if_neg d];refine uA xs j hr fuel lo _ 0e0 0e0 0e0 h1 (λi h hle=>?_);by_cases e:i=1e0 / 2
    ·subst e;omega
    ·have:=mono _ i hm h 0e0;omega
  ·rw[if_neg c];have:lo=hi:=by omega
   subst this;exact⟨h1,h2,hh⟩
theorem oO(xs:Array Nat)(j:Nat)(hr:Rising xs.toList):(∀i (h:i < xs.size),i < SetTable.below xs j->xs[i] < j)/\(∀i (h:i < xs.size),SetTable.below xs j<=i->j<=xs[i])/\SetTable.below xs j<=xs.size :=
 uA xs j hr xs.size 0 xs.size 0e0 0e0 (Ζ _) (λi h Ve=>absurd Ve 0e0) (λi h hle=>absurd h 0e0)
theorem x8{xs:Array Nat}(hr:Rising xs.toList)(hn:¬ xs[SetTable.below xs j]?=some j):Rising (SetTable.insertAt xs (SetTable.below xs j) j).toList:=by
 obtain⟨h1,h2,h3⟩:=oO xs j hr;rw[SetTable.toList_insertAt];generalize hb:SetTable.below xs j=b at *;unfold Rising at *;have split:=List.pairwise_append.mp (show(xs.toList.take b++xs.toList.drop b).Pairwise (· < ·) by rw[List.take_append_drop];exact hr);have lt:∀x∈xs.toList.take b,x < j:=λx hx=>by
  obtain⟨i,hi,rfl⟩:=List.mem_iff_getElem.mp hx;have Yp:i < b/\i < xs.size:=by simpa[Nat.lt_min] using hi
  have:=h1 i Yp.2 Yp.1;simpa using this
 have gt:∀x∈xs.toList.drop b,j < x:=λx hx=>by
  obtain⟨i,hi,rfl⟩:=List.mem_iff_getElem.mp hx;have Yp:b+i < xs.size:=by simp at hi;omega
  have hle:=h2 (b+i) Yp 0e0;have Vv:xs[b+i]≠j:=λe=>by
   by_cases hz:i=0
   ·subst hz;exact hn (by rw[Δ2 2e0];simpa using e)
   ·have Vl:b < xs.size:=by omega
    have h0:=h2 b Vl (Ζ _);have:=Ζ2.mp hr b (b+i) (by simpa using Vl) 2e0 0e0;simp at this;omega
  have:xs.toList.drop b=xs.toList.drop b:=rfl;simp only[List.getElem_drop,Array.getElem_toList];omega
 refine List.pairwise_append.mpr ⟨split.1,Γ0.mpr ⟨gt,split.2.1⟩,λx hx y hy=>?_⟩;rcases Α.mp hy with rfl|hy
 ·exact lt x hx
 ·exact split.2.2 x hx y hy
theorem uQ{α:Type}:∀{l:List α} {i:Nat} (h:i < l.length),(l[i]::l.eraseIdx i).Perm l
 | a::l,0,_=>by simp
 | a::l,i+1,h=>by
  have:=uQ (l:=l) (i:=i) (by simpa using h);simp only[List.getElem_cons_succ,List.eraseIdx_cons_succ];exact(List.Perm.swap _ _ _).trans (this.cons a)
theorem ED{α:Type}(next:Nat->Nat):∀(fuel k:Nat) (left:List α) (out:Array α),fuel=left.length->∃aaO:Array α,pickOrder.go next fuel k left out=aaO/\aaO.toList.Perm (out.toList++left)
 | 0,k,left,out,h=>by
  have:left=[]:=List.length_eq_zero_iff.mp h.symm;subst this;exact⟨out,by simp[pickOrder.go],by simp⟩
 | fuel+1,k,left,out,h=>by
  have hp:0 < left.length:=by omega
  have hi:next k % left.length < left.length:=Nat.mod_lt _ hp
  obtain⟨o,e,p⟩:=ED next fuel (k+1) (left.eraseIdx (next k % left.length)) (out.push left[next k % left.length]) (by rw[List.length_eraseIdx_of_lt hi];omega)
  refine⟨o,?_,p.trans ?_⟩
  ·rw[pickOrder.go,ϕ hi];exact e
  ·rw[Array.toList_push,List.append_assoc];refine List.Perm.append_left _ ?_;exact uQ hi
def GH{α:Type}(next:Nat->Nat)(xs:Array α):(pickOrder next xs).toList.Perm xs.toList:=by
 obtain⟨o,e,p⟩:=ED next xs.size 0 xs.toList #[] (by simp)
 unfold pickOrder;rw[e];simpa using p
structure nW(w:World)(t:SetTable):Prop where
 rise:Rising t.place.toList
 led:w.params.followText "set-order"=true\/t.led=true
 dum:t.dummies = #[]
 msk:t.mask=7
 pln:t.plain=true
def Bq(j:Nat):SetTable.has #[] j=false:=by simp[SetTable.has]
def Dv(h:t.slot j=.empty):¬ t.place[SetTable.below t.place j]?=some j:=λe=>by
 unfold SetTable.slot at h;simp only[e,beq_self_eq_true,Γ1] at h;cases h
def xD(hd:t.dummies = #[])(j:Nat):t.slot j=.empty\/(∃i,t.slot j=.live i/\j∈t.place.toList):=by
 unfold SetTable.slot;rw[hd,Bq];by_cases h:t.place[SetTable.below t.place j]?=some j
 ·refine .inr ⟨SetTable.below t.place j,by simp only[h,beq_self_eq_true,Γ1],?_⟩;rw[<- Δ0] at h;exact ϒ h
 ·refine .inl ?_;have:(t.place[SetTable.below t.place j]?==some j)=false:=by simpa using h
  simp[this]
theorem free4{l:List Nat}(h:l.length<=3):∃j,j < 8/\j∉l:=by
 match l,h with
 | [],_=>exact⟨0,by decide,by simp⟩
 | [a],_=>by_cases h0:a=0;exact⟨1,by decide,by simp;omega⟩;exact⟨0,by decide,by simp;omega⟩
 | [a,b],_ =>
  by_cases h0:a=0\/b=0
  ·by_cases h1:a=1\/b=1
   ·exact⟨2,by decide,by simp;omega⟩
   ·exact⟨1,by decide,by simp;omega⟩
  ·exact⟨0,by decide,by simp;omega⟩
 | [a,b,c],_ =>
  by_cases h0:a=0\/b=0\/c=0
  ·by_cases h1:a=1\/b=1\/c=1
   ·by_cases h2:a=2\/b=2\/c=2
    ·exact⟨3,by decide,by simp;omega⟩
    ·exact⟨2,by decide,by simp;omega⟩
   ·exact⟨1,by decide,by simp;omega⟩
  ·exact⟨0,by decide,by simp;omega⟩
def X6(i:Nat):Nat:=(i * 5+1) % 8
def hops:Nat->Nat->Nat
 | 0,i=>i
 | m+1,i=>hops m (X6 i)
theorem Iz:∀i,i < 8->∀j,j < 8->∃m,m < 8/\hops m i=j:=by decide
end
section
variable(hd:t.dummies = #[])(hm:t.mask=7){h:Int}
abbrev prb(i pt:Nat):SetTable.Probe:=⟨i,0,i,pt,none⟩
include hd hm
mutual
example:=[(λ_=>h+1),prb i pt,(by omega),(by decide),(Nat.mod_lt _ 3e0),(i * 5+1+pt / 32),3e0,SetTable.bits h % 8,SetTable.bits h,.empty j none]
theorem adv(i pt:Nat):t.advance 1e0=prb (5e0 % 8) (pt / 32):=by
 have:5e0 % 8 < 8:=Nat.mod_lt _ 6e0;simp only[SetTable.advance,SetTable.leap,hm,SetTable.runEnd];simp
 try omega
theorem Eh(fuel i pt:Nat):(t.slot i=.empty/\SetTable.probe.go t 0e0 h (fuel+1) 1e0=some (.empty i none))\/SetTable.probe.go t 0e0 h (fuel+1) 1e0=SetTable.probe.go t 0e0 h fuel (prb (5e0 % 8) (pt / 32)):=by
 rcases xD hd i with e|⟨k,e,_⟩
 ·refine .inl ⟨e,?_⟩;unfold SetTable.probe.go;simp only[e]
 ·refine .inr ?_
  conv=>lhs;unfold SetTable.probe.go
  simp only[e];rw[if_neg (by simp;try omega),adv hd hm]
theorem Ei:∀(m fuel i:Nat),m < fuel->i < 8->t.slot (hops m i)=.empty->∃j,t.slot j=.empty/\SetTable.probe.go t 0e0 h fuel (prb i 0)=some 9e0
 | 0,fuel+1,i,_,hi,he=>by
  refine⟨i,he,?_⟩;have e:t.slot i=.empty:=he;unfold SetTable.probe.go;simp only[e]
 | m+1,fuel+1,i,hf,hi,he=>by
  rcases Eh hd hm (h:=h) fuel i 0 with⟨e,g⟩|g
  ·exact⟨i,e,g⟩
  ·rw[g];exact Ei m fuel _ 2e0 4e0 he
theorem Iv(hp:t.place.size<=3):∀(d fuel i pt:Nat),pt < 32 ^ d->d+8<=fuel->i < 8->∃j,t.slot j=.empty/\SetTable.probe.go t 0e0 h fuel 1e0=some 9e0
 | 0,fuel,i,pt,h1,h2,hi=>by
  have:pt=0:=by simpa using h1
  subst this;obtain⟨j,hj,hn⟩:=free4 (l:=t.place.toList) (by simpa using hp);obtain⟨m,hm',e⟩:=Iz i hi j hj;refine Ei hd hm m fuel i 2e0 hi ?_;rw[e];rcases xD hd j with z|⟨_,_,z⟩
  ·exact z
  ·exact absurd z hn
 | d+1,0,i,pt,h1,h2,hi=>absurd h2 2e0
 | d+1,fuel+1,i,pt,h1,h2,hi=>by
  rcases Eh hd hm (h:=h) fuel i pt with⟨e,g⟩|g
  ·exact⟨i,e,g⟩
  ·rw[g];exact Iv hp d fuel _ _ (by rw[Nat.pow_succ] at h1;omega) 2e0 4e0
theorem FI(hp:t.place.size<=3):∃j,t.slot j=.empty/\t.freeSlot h=some (j,false):=by
 have hb:SetTable.bits h < 32 ^ 13:=by
  unfold SetTable.bits;have h1:=Int.emod_lt_of_pos h (show(0:Int) < 2 ^ 64 by decide);have h2:=Int.emod_nonneg h (show(2 ^ 64:Int)≠0 by decide);have:(32:Nat) ^ 13=36893488147419103232:=by decide
  omega
 have hs:t.probeStart h=prb 7e0 8e0:=by
  unfold SetTable.probeStart SetTable.runEnd;rw[hm];have:SetTable.bits h % 8 < 8:=Nat.mod_lt _ 6e0;simp
  try omega
 obtain⟨j,e,g⟩:=Iv hd hm (h:=h) hp 13 (10 * SetTable.turns t.mask) 7e0 8e0 hb (by rw[hm];decide) 4e0;refine⟨j,e,?_⟩;unfold SetTable.freeSlot SetTable.probe;rw[hs,g];rfl
end
end
mutual
example:=[Int×Value]
theorem LM(T:nW w t)(es:Array 0e0)(h:Int)(x:Value)(hp:t.place.size<=3)(hf:t.place.size=es.size):nW w (layNew t es h x).2.1:=by
 obtain⟨slot,hs,e⟩:=FI T.dum T.msk (h:=h) hp;have Tp:nW w (t.put slot).1:=by
  refine⟨x8 T.rise (Dv hs),T.led,?_,T.msk,T.pln⟩;show(if SetTable.has t.dummies slot=true then _ else t.dummies) = #[];rw[T.dum,Bq];rfl
 unfold layNew;rw[e];show nW w ((t.put slot).1.orStandIn _);have h1:=(SetTable.insertAt_perm es (t.put slot).2 (h,x)).length_eq;rw[Γ4,Γ4,Array.size_push] at h1;have h2:(t.put slot).1.place.size=t.place.size+1:=by
  have:=(SetTable.insertAt_perm t.place (SetTable.below t.place slot) slot).length_eq;rw[Γ4,Γ4,Array.size_push] at this;exact this
 have fit:(t.put slot).1.fits (SetTable.insertAt es (t.put slot).2 (h,x)).size=true:=by
  unfold SetTable.fits SetTable.fill;rw[Tp.dum,h2,h1,Tp.msk,hf];simp;omega
 unfold SetTable.orStandIn;rw[if_pos fit];exact Tp
def By:Value->Int
 | .int i _=>i
 | _=>0
def qQ(P:Program)(w:World)(a:Addr)(ns:List Int)(h:Heap):Prop:=∃(o:Obj) (es:Array 0e0) (ep:Nat) (t:SetTable),h.get? a=some o/\o.ExactSet/\o.data=.set es ep t/\ElemsOf (intKind P w) es.toList/\es.size < scanBound/\t.fits es.size=true/\nW w t/\(∀e∈es.toList,∃i tk,e.2=Value.int i tk)/\(es.toList.map λe=>By e.2).Perm ns
def qQ.keep{h':Heap}(x:qQ P w a ns h)(k:∀o,h.get? a=some o->h'.get? a=some o):qQ P w a ns h':=by
 obtain⟨o,es,ep,t,e,r⟩:=x;exact⟨o,es,ep,t,k o e,r⟩
end
section
def Pd{i:Int}:(intKind P w).is i v=true↔∃tk,v=.int i tk:=by
 constructor
 ·intro h;cases v with
  | int j tk=>exact⟨tk,by have:Value.isInt i (.int j tk)=true:=h;simp[Value.isInt] at this;rw[this]⟩
  | _=>cases h
 ·rintro⟨tk,rfl⟩;exact intKind_is _ _ _ _
theorem Ba{o:Obj}{es:Array (Int×Value)}{ep:Nat}(ho:s.heap.get? a=some o)(hex:o.ExactSet)(hd:o.data=.set es ep t)
    {Vg:Array (Int×Value)} {t2:SetTable}  (Yn:ElemsOf (intKind P w) Vg.toList) (hb:Vg.size < scanBound) (hf:t2.fits Vg.size=true) (T:nW w t2) (hi:∀e∈Vg.toList,∃i tk,e.2=Value.int i tk) (hp:(Vg.toList.map λe=>By e.2).Perm ns) (h4:Vg.size<=4)
    {Wb:Bool} {X:Sem (Option Bool)} {R:Option Bool->Shared->Prop} (h:∀h',Heap.SameBut a s.heap h'->qQ P w a ns h'->R (some true) {s with heap:=h'}) :
    wpAny (model P w) A (do
        storeSet a Vg t2
        if (!Wb&&t2.tooFull)=true then X else pure (some true)) R E s:=by
  refine Β (wpAny_storeSet_of ho hd ?_ (fits_of_scanBound hb));have full:t2.tooFull=false:=by
    have h1:t2.place.size=Vg.size:=by
      have:=hf;unfold SetTable.fits at this;simp only[Β6,beq_iff_eq] at this;exact this.1
    unfold SetTable.tooFull SetTable.fill;rw[T.dum,h1];have:=T.msk;simp;omega
  rw[full,Bool.and_false];simp only[Ϙ,Β4];have hg:(s.heap.update a (Obj.putSet Vg t2)).get? a=some {o with data:=.set Vg (ep+1) t2}:=by
    have:=Heap.get?_update_self (Obj.putSet Vg t2) ho (by rw[putSet_of Vg t2 hd];rfl);rw[putSet_of Vg t2 hd] at this;exact this
  exact Ι (h _ (Heap.SameBut.update s.heap a (Obj.putSet Vg t2)) ⟨_,Vg,ep+1,t2,hg,hex,rfl,Yn,hb,hf,T,hi,hp⟩)
theorem CL{i:Int}{tk:Tok}{Q:Bool->Shared->Prop}(hS:qQ P w a ns s.heap)(hn:ns.length<=3)(h:∀h',Heap.SameBut a s.heap h'->qQ P w a (if i∈ns then ns else ns++[i]) h'->∀b,Q b {s with heap:=h'}):wpAny (model P w) A (setAddHashed a (.int i tk) ((intKind P w).hash i)) Q E s:=by
 obtain⟨o,es,ep,t,ho,hex,hd,Yn,hb,hf,T,hi,hp⟩:=hS;have WN:(intKind P w).is i (.int i tk)=true:=intKind_is _ _ _ _;have hl:es.size=ns.length:=by have:=hp.length_eq;simpa using this
 have b1:scanBound=4096:=rfl;unfold setAddHashed setAddHashedIn;refine Α9 (Β (Γ6 ho hd hf ?_));dsimp only;rw[byScan_of (knd:=intKind P w) rfl hb Yn];simp only[↓reduceIte];unfold setAddByScan;refine Β ?_;refine Β (wpAny_rule ?_);refine Β (wpAny_setScan_of WN ho hd hf Yn ?_);cases hr:List.findIdx? (λe=>(intKind P w).is i e.2) es.toList with
 | some j =>
  dsimp only;obtain⟨hj,hpj,_⟩:=List.findIdx?_eq_some_iff_getElem.mp hr;obtain⟨ZJ,et⟩:=Pd.mp hpj;have hm:i∈ns:=hp.mem_iff.mp (Ϛ.mpr ⟨es.toList[j],List.getElem_mem hj,by rw[et];rfl⟩);rw[if_pos hm] at h;refine Ι (Ι ?_);exact h s.heap (Heap.SameBut.refl a s.heap) ⟨o,es,ep,t,ho,hex,hd,Yn,hb,hf,T,hi,hp⟩ _
 | none =>
  dsimp only;have hm:i∉ns:=λz=>by
   obtain⟨e,he,ek⟩:=Ϛ.mp (hp.mem_iff.mpr z);obtain⟨k,ZJ,ev⟩:=hi e he;have h1:=List.findIdx?_eq_none_iff.mp hr e he;rw[ev] at ek h1;have:k=i:=ek;subst this;rw[intKind_is] at h1;cases h1
  rw[if_neg hm] at h;have Vj:=layNew_perm t es ((intKind P w).hash i) (.int i tk);have Wy:=layNew_fits t es ((intKind P w).hash i) (.int i tk);have hsz:t.place.size=es.size:=by
   have:=hf;unfold SetTable.fits at this;simp only[Β6,beq_iff_eq] at this;exact this.1
  have T1:=LM T es ((intKind P w).hash i) (.int i tk) (by omega) hsz;generalize layNew t es ((intKind P w).hash i) (.int i tk)=Y at Vj Wy T1 ⊢;obtain⟨Vg,t1,Wb,ab9⟩:=Y;dsimp only at Vj Wy T1 ⊢;rw[Array.toList_push] at Vj;have aaE:ElemsOf (intKind P w) Vg.toList:=(Yn.push WN rfl).perm Vj;have sz:Vg.size=es.size+1:=by
   have:=Vj.length_eq;simpa using this
  have hi1:∀e∈Vg.toList,∃i tk,e.2=Value.int i tk:=λe he=>by
   rcases Κ.mp (Vj.mem_iff.mp he) with he|he
   ·exact hi e he
   ·rw[show e=_ by simpa using he];exact⟨i,tk,rfl⟩
  have XR:(Vg.toList.map λe=>By e.2).Perm (ns++[i]):=by
   refine(Vj.map _).trans ?_;rw[Α4];exact hp.append (.refl _)
  have hgw:∀(b:Bool) {s₁:Shared} {Q':Unit->Shared->Prop},Q' () s₁->wpAny (model P w) A (match b with|true=>rule "set.scan.the-table-gave-way" | false=>pure ()) Q' E s₁:=λb s₁ Q' hq=>by
   cases b
   ·exact Ι hq
   ·exact wpAny_rule hq
  refine Β (hgw _ ?_);split
  ·refine Β ?_;rw[hashByValue_scannable 8 rfl];refine Ι ?_;simp only[plainKind,↓reduceIte];exact Ba ho hex hd aaE (by omega) Wy T1 hi1 XR (by omega) λh' hs X4=>Ι (h h' hs X4 _)
  ·refine Β (Ι ?_);simp only[↓reduceIte];exact Ba ho hex hd aaE (by omega) Wy T1 hi1 XR (by omega) λh' hs X4=>Ι (h h' hs X4 _)
end
noncomputable def once(val:Nat->Int):Nat->List Int
 | 0=>[]
 | i+1=>if val i∈once val i then once val i else once val i++[val i]
theorem wB(val:Nat->Int):∀i,(once val i).length<=i
 | 0=>Ζ _
 | i+1=>by
  have:=wB val i;rw[once];split
  ·omega
  ·rw[Ξ];simp;omega
section
variable{R:Result->Shared->Prop}{wr:List Addr}{Gs:Array GenState->Array GenState->Prop}{Pi:Nat->Value->Prop}{St:Nat->Shared->Prop}
theorem BA(W:WalksS P w A.in1 it fp wr Gs n Pi St)(z:Addr)(hz:z∉fp)(val:Nat->Int)(Y6:∀i v,Pi i v->∃t,v=.int (val i) t)(hn:n<=4) : ∀(k i:Nat) (s:Shared),n - i=k->i<=n->St i s->qQ P w z (once val i) s.heap -> (∀s',Moved (z::wr) Gs s s'->qQ P w z (once val n) s'.heap->R (.ok (.ret .none)) s')->codeAny (model P w) A (.builtin "set.update.loop" ⟨[.ref z,.ref it],[]⟩) R s:=by
 have zw:z∉wr:=λh=>hz (W.sub _ h);have up:∀b∈wr,b∈z::wr:=λb hb=>Ρ _ hb;intro k
 induction k with
 | zero =>
  intro i s hk hi st hS hR;obtain rfl:i=n:=by omega
  refine Ε9 PyProof.Rows.F.entry_set_update_loop ?_;rw[Ε0 Ζ5 _];show wpAny _ A.in1 (pyNext (.ref it) >>= _) _ _ s;refine Β (W.done s _ _ st λs' hm=>?_);show wpAny _ A.in1 (ret Value.none) _ _ s';exact Ι (hR s' (hm.mono up) (hS.keep λo e=>hm.heap z _ zw e))
 | succ k ih =>
  intro i s hk hi st hS hR;have lt:i < n:=by omega
  refine Ε9 PyProof.Rows.F.entry_set_update_loop ?_;rw[Ε0 Ζ5 _];show wpAny _ A.in1 (pyNext (.ref it) >>= _) _ _ s;refine Β (W.item i s _ _ lt st λv s' hP Vd hm=>?_);obtain⟨t,rfl⟩:=Y6 i v hP;have X4:qQ P w z (once val i) s'.heap:=hS.keep λo e=>hm.heap z _ zw e;show wpAny _ A.in1 (holding [Value.int (val i) t] (setAdd z (.int (val i) t)) >>= _) _ _ s';refine Β (Α9 ?_);unfold setAdd;refine Α9 ?_;refine Β ((intKind P w).pyHash (k:=val i) (intKind_is _ _ _ _) ?_);have room:(once val i).length<=3:=by have:=wB val i;omega
  refine CL (s:={s' with toks:=s'.toks+1}) X4 room λh' sb hS2 b=>?_;refine Ι ⟨plainId_quiet Ζ5 _,ih (i+1) _ (by omega) lt (W.frame _ s' _ _ Vd (Ε5 _) λc hc o e=>?_) hS2 λs2 hm2 hS3=>?_⟩
  ·rw[sb.2 c (λh:c=z=>hz (by rw[<- h];exact hc))];exact e
  ·refine hR s2 (Moved.trans W.gtrans ((hm.mono up).then_heap (Ε5 _) λc o hc e=>?_) hm2) hS3;rw[sb.2 c (λh:c=z=>hc (by rw[h];exact Ε4))];exact e
end
section
abbrev oA(led:Bool):Obj:={cls:=.type "set",dict:=none,data:=.set #[] 0 (.fresh 0 0 led)}
def Di(a:Value){Q₁:q0A}(h:∀led:Bool,(w.params.followText "set-order"=true\/led=true)->Q₁ (.ref s.heap.objs.size) {s with heap:=s.heap.push (oA led)}) : codeAny (model P w) A (.call (.builtin "set.__new__") ⟨[.type "set",a],[]⟩) (wants Q₁ E) s:=by
 refine codeAny_of_tree ?_;show wpAny _ A.in1 (do checkBuiltinCall "set.__new__" ⟨[.type "set",a],[]⟩;again (.builtin "set.__new__" ⟨[.type "set",a],[]⟩)) _ _ s;refine Β (wpAny_of_eq (PySem.F.newCall_set_1 a) (Ι ⟨plainId_quiet PySem.F.plain_set_new _,Ε9 PySem.F.entry_set_new ?_⟩));rw[Ε0 PySem.F.plain_set_new _];unfold Builtin.«set.__new__» Builtin.Frozenset.newClass;have X9:=sub_set_self;obtain⟨hp,g,d,tk,os⟩:=s;dsimp only;wp_walk;refine wpAny_askSetting (Ι ?_);dsimp only;simp only[newObj];refine Β (wpAny_alloc (Ι ?_));refine Ι (h _ ?_);cases e:w.params.followText "set-order" with
 | true=>exact .inl rfl
 | false =>
  refine .inr ?_;show(!w.params.followText "set-order")=true;rw[e];rfl
def Fy{led:Bool}(h:w.params.followText "set-order"=true\/led=true):nW w (.fresh 0 0 led):=⟨.nil,h,rfl,rfl,rfl⟩
set_option maxHeartbeats 8000000 in
theorem Bf{Q:q0A}(hh:A.handled=none)(hl:s.heap.IsList l items)(hi:IntsAre items.toList ns)(h4:items.size<=4)(h:∀(h':Heap) (tk:Nat),qQ P w s.heap.objs.size (once (λi=>ns.getD i 0) items.size) h'->(∀b o,b < s.heap.objs.size->s.heap.get? b=some o->h'.get? b=some o)->Q (.ref s.heap.objs.size) {s with heap:=h',toks:=tk}) : wpAny (model P w) A (call (.type "set") [.ref l]) Q E s:=by
  obtain⟨c,tl,acC⟩:=Β9.mro;have abW:=Β9.made;have X9:=Β9.sub;refine wpAny_call (codeAny_of_tree ?_);show wpAny _ _ (callAny (.type "set") _) _ _ _;refine Ι ⟨Code.quiet_builtin _ (by decide +kernel),Ε9 PySem.F.entry_type_call ?_⟩;rw[Around.under_plain (weight_type_call_type "set" [.ref l] []) rfl];have h1:=Β9.notType;have h2:=Β9.canCreate;have YU:=PySem.F.typeCall_set_1 (.ref l)
  repeat (any_goals (first|assumption|wp_step))
  refine codeAny_mono (Di (.ref l) (E:=E) (Q₁:=λobj s₁=>∃led:Bool,(w.params.followText "set-order"=true\/led=true)/\obj=.ref s.heap.objs.size/\s₁={s with heap:=s.heap.push (oA led)}) λled YZ=>⟨led,YZ,rfl,rfl⟩) λr s₁ hr=>?_;cases r with
  | error e=>exact hr
  | ok fl =>
    cases fl with
    | ret obj =>
      obtain⟨led,YZ,rfl,rfl⟩:=hr;have hS:(s.heap.push (oA led)).get? s.heap.objs.size=some (oA led):=Φ _ rfl;have hT:Shared.TypeIs {s with heap:=s.heap.push (oA led)} (.ref s.heap.objs.size) "set":=⟨_,hS,rfl⟩;have hli:=Β9.init.lookup;have hbi:=Β9.init.bind (.ref s.heap.objs.size)
      repeat (any_goals (first|assumption|wp_step))
      refine codeAny_mono (codeAny_call_builtin (R:=wants (λr s₂=>r=.none/\∃h' tk,s₂={s with heap:=h',toks:=tk}/\qQ P w s.heap.objs.size (once (λi=>ns.getD i 0) items.size) h' /\
          (∀b o,b < s.heap.objs.size->s.heap.get? b=some o->h'.get? b=some o)) E) Β9.init.plain PySem.F.entry_set_init (check_set_init_1 hT ?_)) λr₂ s₂ hr₂=>?_
      · obtain⟨ol,hol,hcl,nl,hdl⟩:=hl;obtain⟨acH,aaN,abX,Zg⟩:=ol;simp only at hcl hdl;subst hcl hdl;have abD:(s.heap.push (oA led)).get? l=some ⟨.type "list",aaN,.seq items nl,Zg⟩:=Θ _ hol;have acE:=PySem.F.sub_list_set;have acD:=PySem.F.sub_list_frozenset;have Vv:(Value.type "list"==Value.type "dict")=false:=by decide
        have Xc:(s.heap.push (oA led)).IsList l items:=⟨_,abD,rfl,nl,rfl⟩;unfold Builtin.«set.__init__» noKeywords Builtin.Frozenset.updateFrom;generalize hPI:pyIter=PI;wp_walk;subst hPI;refine wpAny_pyIter_list Xc ?_;refine Β (wpAny_runValue ?_);have lS:l < s.heap.objs.size:=Μ hol;have hh3:A.in1.in1.in1.handled=none:=by simp[hh]
        have sz:(s.heap.push (oA led)).objs.size=s.heap.objs.size+1:=Heap.size_push _ _;have abA:l≠(s.heap.push (oA led)).objs.size:=Τ (by rw[sz];exact Nat.lt_succ_of_lt lS);have hSf:s.heap.objs.size∉[(s.heap.push (oA led)).objs.size,l]:=by
          simp only[Α,Δ,Ψ,not_or];exact⟨Τ (by rw[sz];exact Nat.lt_succ_self _),Nat.ne_of_gt lS⟩
        have Y6:∀(i:Nat) (v:Value),items[i]?=some v->∃t,v=.int ((λi=>ns.getD i 0) i) t:=λi v hv=>IntsAre.int_at hi i v (by rw[Δ0];exact hv);refine BA ((Walks.list hh3 _ l abA items).toS) s.heap.objs.size hSf (λi=>ns.getD i 0) Y6 h4 (items.size - 0) 0 _ (by omega) (Α1 _) ⟨⟨_,Φ _ rfl,rfl,rfl⟩,(Xc.push _)⟩ ?hS0 ?hR
        case hS0=>exact⟨_,#[],0,_,Θ _ hS,⟨rfl,rfl,rfl⟩,rfl,λe he=>(by simp at he),by decide,rfl,Fy YZ,by simp,.nil⟩
        case hR =>
          intro s' hm X4;obtain⟨h',g',d',ZJ,Yd⟩:=s';have eg:g'=s.gens:=hm.gens;have ed:d'=s.drawn:=hm.drawn;have eo:Yd=s.os:=hm.os;subst eg ed eo;show wpAny _ _ _ _ _ _;refine Ι ?_;show wpAny _ _ (ret Value.none) _ _ _;refine Ι ⟨rfl,h',ZJ,rfl,X4,λb o hb e=>?_⟩;exact hm.heap b o (by simp only[Α,Δ,Ψ,not_or];exact⟨Τ hb,Τ (by rw[sz];exact Nat.lt_succ_of_lt hb)⟩) (Θ _ (Θ _ e))
      · cases r₂ with
        | error e=>exact hr₂
        | ok fl₂ =>
          cases fl₂ with
          | ret r =>
            obtain⟨rfl,h',tk,rfl,X4,hk'⟩:=hr₂
            repeat (any_goals (first|assumption|wp_step))
            exact h _ _ X4 hk'
          | _=>exact hr₂.elim
    | _=>exact hr.elim
end
mutual
example:=[(by decide +kernel),(by kernel_rfl),(by rw[typeLookup_type,builtinLookup_eq_fast];kernel_rfl),(by rw[isSubtype_type];kernel_rfl),(by first|exact .inl 0e0|exact .inr 0e0)]
def BX:Manifest.owners.lookup (String.ofList ['r','o','t','a','r','e','t','i','_','t','e','s'].reverse)=some Manifest.sig_set_iterator:=by kernel_rfl
theorem fT:Slot "set_iterator" "__next__" "set_iterator.__next__" :=
 .of (owner:="set_iterator") (n:="__next__") 2e0 0e0 0e0 0e0
  4e0 3e0
def nY:entryFor table "set_iterator.__next__"=some Builtin.«set_iterator.__next__»:=entryFor_of_tree 1e0
def pE(a:Value):argsOk "set_iterator.__next__" ⟨[a],[]⟩:=by
 unfold argsOk;rw[signature?_of (id:="set_iterator.__next__") (n:=['_','_','t','x','e','n','_','_']) (o:=['r','o','t','a','r','e','t','i','_','t','e','s']) 1e0 BX];kernel_rfl
theorem qL:Slot "set_iterator" "__iter__" "set_iterator.__iter__" :=
 .of (owner:="set_iterator") (n:="__iter__") 2e0 0e0 0e0 0e0
  4e0 3e0
theorem xZ:entryFor table "set_iterator.__iter__"=some Builtin.«dict_keyiterator.__iter__» :=
 entryFor_alias (id':="dict_keyiterator.__iter__") 1e0 rfl 0e0 1e0
def z9(a:Value):argsOk "set_iterator.__iter__" ⟨[a],[]⟩:=by
 unfold argsOk;rw[signature?_of (id:="set_iterator.__iter__") (n:=['_','_','r','e','t','i','_','_']) (o:=['r','o','t','a','r','e','t','i','_','t','e','s']) 1e0 BX];kernel_rfl
theorem uO:entryFor table "set.__iter__"=some Builtin.«frozenset.__iter__» :=
 entryFor_alias (id':="frozenset.__iter__") 1e0 rfl 0e0 1e0
end
section
mutual
example:=[.ref it,(by simp),(by omega),Int×Value,model P w,w.params.setOrder a ep,rawInt (Va:Nat),lM w a es ep,Ι ?_,Β (wpAny_askSetting (Ι ?_)),Β (Γ6 e1 e3 e4 (Ι ?_)),Γ6 e1 e3 e4 ?_,(if w.params.followText "set-order"=true then _ else _),wpAny_call_entry fT ki.ty nY ?_ (pE _),Ι (Β (wpAny_fieldsOf i1 i3 ?_)),!t.plain&&decide (es.size > 1),(setEntries a >>= λ_=>_),(λh=>hb (by simp[h])),(Β8 ?_ (by size_fits)),(by rw[mL];exact hi),Int.toNat (sl:Nat),Int.toNat (ep:Nat)]
variable{es:Array 3e0}{ep:Nat}
def j7(w:World)(h:Heap)(a:Addr)(es:Array 3e0)(ep:Nat)(t:SetTable):Prop:=∃o,h.get? a=some o/\o.ExactSet/\o.data=.set es ep t/\t.fits es.size=true/\nW w t
def j7.to{h':Heap}(x:j7 w h a es ep t)(k:∀o,h.get? a=some o->h'.get? a=some o):j7 w h' a es ep t:=let ⟨o,e,r⟩:=x;⟨o,k _ e,r⟩
def j7.lt(x:j7 w h a es ep t):a < h.objs.size:=let ⟨_,e,_⟩:=x;Μ e
def j7.ty(x:j7 w s.heap a es ep t):s.TypeIs (.ref a) "set":=let ⟨o,e,c,_⟩:=x;⟨o,e,c.1⟩
def lM(w:World)(a:Addr)(es:Array 3e0)(ep:Nat):Array 3e0:=if w.params.followText "set-order"=true then pickOrder 5e0 es else es
def wG:(lM w a es ep).toList.Perm es.toList:=by
 unfold lM;split
 ·exact GH _ _
 ·exact .refl _
def mL:(lM w a es ep).size=es.size:=by have:=(wG (w:=w) (a:=a) (es:=es) (ep:=ep)).length_eq;simpa using this
def zZ(w:World)(t:SetTable)(i sl:Nat):Prop:=w.params.followText "set-order"=true\/SetTable.below t.place sl=i
def xV(w:World)(h:Heap)(it a:Addr)(i n ep:Nat)(t:SetTable):Prop:=∃o sl,h.get? it=some o/\o.cls=.type "set_iterator"/\o.data=.fields #[.int (sl:Nat) 0,.int (i:Nat) 0,.ref a,.int (n:Nat) 0,.int (ep:Nat) 0]/\zZ w t i sl
def xV.to{h':Heap}(x:xV w h it a i n ep t)(k:∀o,h.get? it=some o->h'.get? it=some o):xV w h' it a i n ep t:=let ⟨o,sl,e,r⟩:=x;⟨o,sl,k _ e,r⟩
def xV.ty(x:xV w s.heap it a i n ep t):s.TypeIs 0e0 "set_iterator":=let ⟨o,_,e,c,_⟩:=x;⟨o,e,c⟩
theorem GS(T:nW w t):zZ w t 0 0:=.inr (by
 obtain⟨h1,h2,h3⟩:=oO t.place 0 T.rise;by_cases z:SetTable.below t.place 0=0
 ·exact z
 ·have:=h1 0 2e0 2e0;omega)
theorem GR(T:nW w t)(e:t.place[i]?=some j):SetTable.below t.place (j+1)=i+1:=by
 obtain⟨hi,ej⟩:=Array.getElem?_eq_some_iff.mp e;obtain⟨h1,h2,h3⟩:=oO t.place (j+1) T.rise;by_cases c:SetTable.below t.place (j+1)<=i
 ·have:=h2 i hi c;omega
 ·by_cases d:i+1 < SetTable.below t.place (j+1)
  ·have h4:i+1 < t.place.size:=by omega
   have h5:=h1 (i+1) h4 d;have h6:=Ζ2.mp T.rise i (i+1) (by simpa using hi) (by simpa using h4) 2e0;simp at h6;omega
  ·omega
theorem JE{Q:q0A}(x:j7 w s.heap a es ep t)(q:Q (.ref s.heap.objs.size) {s with heap:=s.heap.push {cls:=.type "set_iterator",data:=.fields #[.int 0 0,.int 0 0,.ref a,.int es.size 0,.int ep 0]}}):wpAny 4e0 A (pyIter (.ref a)) Q E s:=by
 obtain⟨o,e1,e2,e3,e4,T⟩:=id x;refine wpAny_pyIter_slot x.ty F.slot_set_iter (wpAny_call_entry F.slot_set_iter x.ty uO ?_ (F.args_set_iter_1 _));unfold Builtin.«frozenset.__iter__»;refine Β ?_;show wpAny _ _ ((pure (Value.ref a,([]:List Value)):Sem _) >>= λz=>Builtin.Frozenset.addrOf z.1) _ _ s;refine Β (Ι 8e0);refine Β (Β (Β (Γ6 e1 e3 e4 (Ι 8e0))));refine Β (Β 1e1);refine Β 9e0;refine Ι ?_;show wpAny _ _ (if (!w.params.followText "set-order"&&5e1)=true then _ else _) _ _ s;rw[T.pln];simp only[Bool.not_true,Ζ0,Bool.and_false,Ϙ,Β4];refine Β (Ι (Β 0e1));refine Β (Β8 (Ι ⟨_,rfl,"set_iterator",_,⟨_,Φ _ rfl,rfl⟩,fT.lookup,by simpa[rawInt] using q⟩))
theorem xS{sl:Nat}{Q:Option (Value×Nat)->Shared->Prop}(x:j7 w s.heap a es ep t)(hs:zZ w t i sl)(q1:∀e Va,7e0[i]?=some e->zZ w t (i+1) Va->Q (some (e.2,Va)) s)(q0:7e0[i]?=none->Q none s):wpAny 4e0 A (setNext a sl i ep) Q E s:=by
 obtain⟨o,e1,e2,e3,e4,T⟩:=id x;unfold setNext;refine Β 1e1;dsimp only;refine Β 9e0;show wpAny _ _ 2e1 _ _ s;by_cases c:w.params.followText "set-order"=true
 ·rw[if_pos c,if_neg 1e0];unfold setWalk;refine Β (Β 1e1);dsimp only;refine Β 9e0;show wpAny _ _ 2e1 _ _ s;rw[if_pos c];refine Β (wpAny_askSetting (Ι 8e0));show Q (Option.map _ (pickOrder 5e0 es)[i]?) s;have eo:lM w a es ep=pickOrder 5e0 es:=if_pos c;rw[eo] at q1 q0;cases h:(pickOrder 5e0 es)[i]? with
  | none=>exact q0 h
  | some e=>exact q1 e sl h (.inl c)
 ·rw[if_neg c];have eo:lM w a es ep=es:=if_neg c;rw[eo] at q1 q0;have hb:SetTable.below t.place sl=i:=hs.resolve_left c;have hl:t.led=true:=T.led.resolve_left c;show wpAny _ _ (if 5e1=true then _ else _) _ _ s;rw[T.pln];simp only[Bool.not_true,Ζ0,Ϙ,Β4];show wpAny _ _ ((if (!t.led&&!es.isEmpty)=true then unsupported "set:maker-not-led" else pure ()) >>= λ_=>_) _ _ s;rw[hl];simp only[Bool.not_true,Ζ0,Ϙ,Β4];refine Β (Ι 8e0);rw[hb];have hz:t.place.size=es.size:=by
   have:=e4;unfold SetTable.fits at this;simp only[Β6,beq_iff_eq] at this;exact this.1
  by_cases d:i < es.size
  ·have h1:es[i]?=some es[i]:=Δ2 d;have h2:t.place[i]?=some (t.place[i]' 2e0):=Δ2 2e0;rw[h1,h2];exact q1 _ _ h1 (.inr (GR T h2))
  ·have h1:es[i]?=none:=Array.getElem?_eq_none 2e0;rw[h1];exact q0 h1
def JG(ki:xV w s.heap it a i es.size ep t)(x:j7 w s.heap a es ep t){e:Int×Value}(he:7e0[i]?=some e)(q:∀h',xV w h' it a (i+1) es.size ep t->Heap.SameBut it s.heap h'->Q (some e.2) {s with heap:=h'}):wpAny 4e0 A (pyNext 0e0) Q E s:=by
 obtain⟨oi,sl,i1,i2,i3,i4⟩:=id ki;obtain⟨o,e1,e2,e3,e4,T⟩:=id x;have lt:i < es.size:=by have:=(Array.getElem?_eq_some_iff.mp he).1;rw[mL] at this;exact this
 unfold pyNext;refine Β (wpAny_attempt (wpAny_callSpecial?_slot (name:=Str.ofString "__next__") ki.ty fT
  3e1))
 unfold Builtin.«set_iterator.__next__»;refine Β 4e1;show wpAny _ _ 6e1 _ _ s;refine Β 0e1;rw[if_neg 1e0];show wpAny _ _ (setNext a 0e2 (Int.toNat (i:Nat)) 1e2 >>= λz=>_) _ _ s;simp only[Int.toNat_natCast];refine Β ?_;refine xS x i4 (λe' Va he' We=>?_) λz=>by rw[z] at he;cases he
 rw[he] at he';cases he';show wpAny _ _ (setField 0e0 0 6e0 >>= λ_=>_) _ _ s;refine Β (wpAny_setField i1 i3 1e0 ?_);have j1:(s.heap.update it (Obj.mapFields (·.setIfInBounds 0 6e0))).get? it=some (Obj.mapFields (·.setIfInBounds 0 6e0) oi):=Heap.get?_update_self _ i1 (Obj.isFreed_of_fields (Obj.data_mapFields i3 _));have j3:(Obj.mapFields (·.setIfInBounds 0 6e0) oi).data=.fields #[.int (Va:Nat) 0,.int (i:Nat) 0,.ref a,.int (es.size:Nat) 0,.int (ep:Nat) 0]:=by rw[Obj.data_mapFields i3];simp[rawInt]
 show wpAny _ _ (setField 0e0 1 (rawInt ((i:Int)+1)) >>= λ_=>_) _ _ _;refine Β (wpAny_setField j1 j3 1e0 ?_);refine Ι ⟨_,rfl,Ι (q _ ⟨_,Va,Heap.get?_update_self _ j1 (Obj.isFreed_of_fields (Obj.data_mapFields j3 _)),((Obj.cls_mapFields ..).trans (Obj.cls_mapFields ..)).trans i2,by rw[Obj.data_mapFields j3];simp[rawInt],We⟩ ((Heap.SameBut.update ..).trans (Heap.SameBut.update ..)))⟩
theorem Mj(hh:A.handled=none)(ki:xV w s.heap it a es.size es.size ep t)(x:j7 w s.heap a es ep t)(q:∀h',Heap.ExtBut it s.heap h'->Q none {s with heap:=h'}):wpAny 4e0 A (pyNext 0e0) Q E s:=by
 obtain⟨oi,sl,i1,i2,i3,i4⟩:=id ki;obtain⟨o,e1,e2,e3,e4,T⟩:=id x;unfold pyNext;refine Β (wpAny_attempt (wpAny_callSpecial?_slot (name:=Str.ofString "__next__") ki.ty fT
  3e1))
 unfold Builtin.«set_iterator.__next__»;refine Β 4e1;show wpAny _ _ 6e1 _ _ s;refine Β 0e1;rw[if_neg 1e0];show wpAny _ _ (setNext a 0e2 (Int.toNat (es.size:Nat)) 1e2 >>= λz=>_) _ _ s;simp only[Int.toNat_natCast];refine Β ?_;refine xS x i4 (λe' Va he' We=>by
  have:=(Array.getElem?_eq_some_iff.mp he').1;rw[mL] at this;omega) λ_=>?_
 show wpAny _ _ (setField 0e0 2 .none >>= λ_=>_) _ _ s;refine Β (wpAny_setField i1 i3 1e0 ?_);show wpAny _ _ (newExc (.type "StopIteration") [] >>= λ_=>_) _ _ _;refine Β ?_;simp only[newExc,newTuple];refine Β 8e1;refine Β (m:=firstArgMember _ _) (wpAny_of_eq (a:=Value.none) (by first|rfl|(simp only[firstArgMember];rfl)) 8e1)
 unfold raiseNew;refine Β (wpAny_handled ?_);rw[show A.in1.handled=none from hh];refine Β (Ι (wpAny_throw ?_));refine Β (wpAny_isInstance (T:="StopIteration") (b:=true) ⟨_,Φ _ rfl,rfl⟩ (show _ from isSubtype_stop) ?_);exact Ι (q _ (((Heap.SameBut.update ..).extBut.push _).push _))
def JH{Q:q0A}(ki:xV w s.heap it a i n ep t)(h:Q 0e0 s):wpAny 4e0 A (pyIter 0e0) Q E s:=by
 refine wpAny_pyIter_slot ki.ty qL (wpAny_call_entry qL ki.ty xZ ?_ (z9 _));show wpAny _ _ (ret 0e0) _ _ s;exact Ι ⟨_,rfl,"set_iterator",_,ki.ty,fT.lookup,h⟩
def Hb(hh:A.handled=none)(it a:Addr)(ne:a≠it)(es:Array 3e0)(ep:Nat)(t:SetTable) : Walks P w A it [it,a] [it] es.size (λi v=>∃e,7e0[i]?=some e/\v=e.2) (λi h=>xV w h it a i es.size ep t/\j7 w h a es ep t) where
 sub:=λb hb=>by simp at hb;simp[hb]
 frame:=λ_ _ _ st hk=>⟨st.1.to λo e=>hk it 1e0 o e,st.2.to λo e=>hk a 1e0 o e⟩
 item:=λi s Q E hi st hQ=>JG st.1 st.2 (Δ2 9e1) λh' k2 sb=>hQ _ h' s.toks ⟨_,Δ2 9e1,rfl⟩ ⟨k2,st.2.to λo e=>sb.extBut a o ne e⟩ λb o hb e=>sb.extBut b o 7e1 e
 done:=λs Q E st hQ=>Mj hh st.1 st.2 λh' he=>hQ h' s.toks λb o hb e=>he b o 7e1 e
 self:=λ_ _ _ _ st hQ=>JH st.1 hQ
end
end
section
variable{prog:Program}{r:Addr}{es:Array (Int×Value)}{ep:Nat}
theorem Iy{Q:Bool->Shared->Prop}(hT:s.TypeIs (.ref r) "set")(h:Q false s):wpAny (model prog w) A (Builtin.List.listLengthHint (.ref r)) Q E s:=by
 unfold Builtin.List.listLengthHint;refine Β (wpAny_specialOf hT PySem.F.slot_set_len.lookup ?_);generalize hid:("set.__len__":String)=id0
 wp_delta
 rw[show splitId id0=some ("set","__len__") from by subst hid;decide +kernel];subst hid;refine Β (wpAny_isInstance (T:="set") (b:=true) hT (by rw[isSubtype_type];kernel_rfl) ?_);refine wpAny_ite_split (λZu=>absurd Zu (by decide)) (λ_=>?_);refine wpAny_ite_split (λ_=>?_) (λZu=>absurd (by decide +kernel) Zu);refine Β (wpAny_typeOf hT ?_);exact Ι h
open PySem.W in
theorem Mp:KdlSrc prog w "set" a a es.size (λi v=>∃e,(lM w a es ep)[i]?=some e/\v=e.2) (λh=>j7 w h a es ep t) where
 type:=λ_ hm=>hm.ty
 there:=λ_ hm=>⟨hm.lt,hm.lt⟩
 keep:=λ_ _ hm hk=>hm.to λo e=>hk a (.inl rfl) o e
 notList:=by decide
 notTuple:=by decide
 hint:=λ_ _ _ _ hm hq=>Iy hm.ty hq
 iter:=λ_ _ hh hm=>⟨_,_,(λ_ _ hq=>JE hm hq),Hb hh _ a (Τ hm.lt) es ep t,⟨⟨_,0,Φ _ rfl,rfl,rfl,GS (let ⟨_,_,_,_,_,T⟩:=hm;T)⟩,hm.to λo e=>Θ _ e⟩⟩
end
mutual
example:=[List.Mem.head _,(by omega),.lst (U0.map V.int),.ref l,seqObj "list" vs.toArray 0,List.Mem.tail _ mem,CJ P w p ns,.type "set",I.ok.hd hc]
theorem Hm:bootBuiltins "set"=some 7e0:=by decide +kernel
def look1{k z:Str}{c:Addr}{r:List (Str×Addr)}(e:List.lookup k r=some a)(h:List.lookup z [(k,a)]=some c):List.lookup z r=some c:=by
 simp only[List.lookup] at h;split at h
 ·next y=>cases h;rw[eq_of_beq y];exact e
 ·cases h
def CJ(P:Program)(w:World)(a:Addr)(ns:List Int):HO:=.ext (qQ P w a ns)
def Mi(x:qQ X.prog X.w a ns h):eE X.prog X.w H h a (CJ X.prog X.w a ns) :=
 ⟨x,let ⟨o,_,_,_,e,_⟩:=x;⟨o,e⟩,λ_ _ y k=>y.keep k⟩
def lL(ns:List Int):List Int:=once (λi=>ns.getD i 0) ns.length
def Hv(P:Program)(w:World):List V->Hp->VK->Prop:=λvs H Q=>on1 vs λx=>bH x λp=>∃ns:List Int,H p=some (.lst (ns.map V.int))/\ns.length<=4/\∀l,H l=none->Q 3e0 (UK H l (CJ P w l (lL ns)))
theorem yP(hc:X.calm=true):gN X 7e0 (Hv X.prog X.w):=λUJ s Z H xs us Q I r h=>by
 obtain⟨x,rfl,h1⟩:=jJ h;obtain⟨p,rfl,ns,e,h4,q⟩:=aU h1;obtain⟨u,rfl,ru⟩:=vals1 r;cases ru;obtain⟨UN,r',pl,hz⟩:=I.list (fV.of e);have hi:IntsAre UN ns:=C2 r';have hlen:=r'.length;have lm:UN.toArray.size=ns.length:=by simpa using hlen.symm
 refine Bf (items:=UN.toArray) 8e0 pl.isList (by simpa using hi) 1e0 λh' tk hS kp=>?_;rw[lm] at hS;exact⟨.ref s.heap.objs.size,_,I.laid (t':=tk) (λb o e=>kp b o (Μ e) e) (Ζ _) (Mi hS),rfl,q _ (I.UQ.fresh (Ζ _))⟩
def Hu(P:Program)(w:World):List V->Hp->VK->Prop:=λvs H Q=>on1 vs λx=>bH x λp=>∃ns:List Int,H p=some 6e0/\Q (.int ns.length) H
theorem CP:gN X (.builtin "len") (Hu X.prog X.w):=λUJ s Z H xs us Q I r h=>by
 obtain⟨x,rfl,h1⟩:=jJ h;obtain⟨p,rfl,ns,e,q⟩:=aU h1;obtain⟨u,rfl,ru⟩:=vals1 r;cases ru;obtain⟨⟨o,es,ep,t,ho,hex,hd,Yn,hb,hf,T,hi,hp⟩,_⟩:=I.UQ p _ e;have hl:es.size=ns.length:=by have:=hp.length_eq;simpa using this
 have b1:scanBound=4096:=rfl;refine call_len_set ho hex hd hf 1e0 ?_;exact⟨.int ns.length,H,I.tok _,⟨_,by rw[hl]⟩,q⟩
def Hw(P:Program)(w:World):List V->Hp->VK->Prop:=λvs H Q=>on1 vs λx=>bH x λp=>∃ns:List Int,H p=some 6e0/\ns.length < 64/\∀(l:Addr) (U0:List Int),H l=none->U0.Perm ns->U0.Pairwise (·<=·)->Q 3e0 (UK H l 2e0)
theorem CQ(hc:X.calm=true):gN X (.builtin "sorted") (Hw X.prog X.w):=λUJ s Z H xs us Q I r h=>by
 obtain⟨x,rfl,h1⟩:=jJ h;obtain⟨p,rfl,ns0,e,h64,q0⟩:=aU h1;obtain⟨u,rfl,ru⟩:=vals1 r;cases ru;obtain⟨⟨od,es,ep,t,ho,hex,hd,Yn,hb,hf,T,hi,hp0⟩,_⟩:=I.UQ p _ e;have hl:es.size=ns0.length:=by have:=hp0.length_eq;simpa using this
 obtain⟨m,hn,_⟩:=I.loc;have Vv:p≠X.env.locals:=aF e I.free;obtain⟨ns,Xn⟩:∃ns,ns=(lM X.w p es ep).toList.map λe=>By e.2:=⟨_,rfl⟩;have pns:ns.Perm ns0:=by rw[Xn];exact(wG.map _).trans hp0
 have lns:ns.length=es.size:=by rw[Xn];simp[mL]
 have q:∀(l:Addr) (U0:List Int),H l=none->U0.Perm ns->U0.Pairwise (·<=·)->Q 3e0 (UK H l 2e0):=λl U0 a b c=>q0 l U0 a (b.trans pns) c;refine PySem.W.kdu_sorted (Mp (a:=p) (es:=es) (ep:=ep) (t:=t)) 8e0 (Att.C1 hn) (Att.mD Vv ho) ⟨od,ho,hex,hd,hf,T⟩ (by rw[Γ2];omega) λD h' tk vs F N lt hlen hP=>?_;have hI:IntsAre vs ns:=Ej 1e0 λj v ev=>by
  obtain⟨e,e1,rfl⟩:=hP j v ev;have VQ:(lM X.w p es ep).toList[j]?=some e:=by rw[Δ0];exact e1
  obtain⟨i,tk,et⟩:=hi e (wG.mem_iff.mp (ϒ VQ));exact⟨i,tk,by rw[Xn,ϖ,VQ];simp only[Option.map_some,et,By],et⟩
 have hD:h'.get? D=some 4e0:=(N _ 0e0).1;have old:∀b o,b≠X.env.locals->s.heap.get? b=some o->h'.get? b=some o/\b < D:=λb o nb eb=>by
  by_cases hb:b=p
  ·subst hb;rw[ho] at eb;cases eb;exact⟨(N _ (List.Mem.tail _ 0e0)).1,lt _ 0e0⟩
  ·have mem:=Att.kZ (h:=s.heap) (L:=X.env.locals) (d:=p) |>.mpr ⟨nb,hb,eb⟩;exact⟨(N _ (List.Mem.tail _ 5e0)).1,lt _ 5e0⟩
 have g:MeetsIn X.prog X.w (Builtin.«list.sort» ⟨[.ref D],[]⟩) (λ_ R s=>s.heap.get? D=some 4e0/\∀(out:Array Value) (U0:List Int),IntsAre out.toList U0->U0.Perm ns->U0.Pairwise (·<=·)->R (.ok (.ret .none)) {s with heap:=sortedHeap s.heap D vs out}) :=
  λA R s ⟨g1,g2⟩=>list_sort_tree g1 hI 1e0 λout U0 a b c=>g2 out U0 a b c
 refine Δ1 PySem.F.slot_list_sort ⟨_,hD,rfl⟩ PySem.F.entry_list_sort (PySem.F.args_list_sort_1 _) g ⟨hD,λout U0 hI' hp hs=>?_⟩;have Xs:D≠X.env.locals:=(N _ 0e0).2.1;have Xb:H D=none:=by
  cases z:H D with
  | none=>rfl
  | some o =>
   obtain⟨ob,eb⟩:=(I.UQ D o z).there;exact absurd (old D ob Xs eb).2 (Α0 _)
 have new:∀b o,b≠X.env.locals->s.heap.get? b=some o->(sortedHeap h' D vs out).get? b=some o:=λb o nb eb=>by
  obtain⟨h1,h2⟩:=old b o nb eb;rw[sortedHeap_old (Τ h2) (Μ h1)];exact h1
 obtain⟨e',Z9⟩:=sortedHeap_at (out:=out) hD;have WO:∀m',s.heap.Ns X.env.locals m'->(sortedHeap h' D vs out).Ns X.env.locals m':=λm' hm=>by
  have em:m'=m:=by
   obtain⟨o1,Vg,WJ,a1,b1,_,c1⟩:=hm;obtain⟨o2,es2,Z0,a2,b2,_,c2⟩:=hn;rw[a1] at a2;cases a2;rw[b1] at b2;cases b2;funext y;rw[<- c1,<- c2]
  subst em;obtain⟨o1,Vg,WJ,a1,r1⟩:=F.ns;exact⟨o1,Vg,WJ,by rw[sortedHeap_old Xs.symm (Μ a1)];exact a1,r1⟩
 have nn:∀{b:Addr} {o:HO},H b=some o->b≠D:=λh z=>by subst z;rw[Xb] at h;cases h
 have nl:∀{b:Addr} {o:HO},H b=some o->b≠X.env.locals:=λh=>aF h I.free;refine⟨.ref D,UK H D 2e0,show UM X UJ Z _ {s with heap:=sortedHeap h' D vs out,gens:=s.gens,drawn:=s.drawn,toks:=tk} from I.step (g':=s.gens) (d':=s.drawn) (t':=tk) (ch:=[]) (λ_ z=>nomatch z) (λb o nb _ _ eb _=>new b o nb eb) (λb o nb _ _ eb _=>⟨o.slots,new b o nb eb⟩) (λb o _ eb hb=>?_) (λb o _ eb=>?_)
  (λb xs hb=>by rw[aC (nn hb)];exact hb) (λb o u hb=>by rw[aC (nn hb)];exact hb) (λb ps hb=>⟨#[],by rw[aC (nn hb),hb];simp⟩) WO (λb o hb=>?_) I.bare,rfl,q D U0 Xb hp hs⟩
 ·by_cases V4:b=D
  ·subst V4;by_cases V5:b=X.env.locals
   ·exact absurd V5 Xs
   ·exact absurd (old b o V5 eb).2 (Α0 _)
  ·rw[aC V4];exact hb
 ·by_cases V5:b=X.env.locals
  ·subst V5;obtain⟨o1,Vg,WJ,a1,r1⟩:=WO m hn;exact⟨o1,a1⟩
  ·exact⟨o,new b o V5 eb⟩
 ·by_cases V4:b=D
  ·subst V4;rw[aA] at hb;cases hb;exact⟨by rw[Γ,hp.length_eq,Γ2];omega,out.toList,e',nR hI',Z9⟩
  ·rw[aC V4] at hb;refine(I.UQ b o hb).tF (λc v hc ev=>?_) (λc hc=>by rw[aC (nn hc)];exact hc) λc xs hc=>by rw[aC (nn hc)];exact hc
   rcases hc with hc|hc
   ·subst hc;exact new c v (nl hb) ev
   ·exact new c v (nl hc) ev
end
section
variable{Q:VK}{p:Addr}
def Lw:Hv P w [.ref p] H Q = ∃ns:List Int,H p=some (.lst (ns.map V.int))/\ns.length<=4/\∀l,H l=none->Q (.ref l) (UK H l (CJ P w l (lL ns))):=rfl
def Lm:Hu P w [.ref p] H Q = ∃ns:List Int,H p=some (CJ P w p ns)/\Q (.int ns.length) H:=rfl
def Ia:Hw P w [.ref p] H Q = ∃ns:List Int,H p=some (CJ P w p ns)/\ns.length < 64/\∀(l:Addr) (U0:List Int),H l=none->U0.Perm ns->U0.Pairwise (·<=·)->Q (.ref l) (UK H l (.lst (U0.map V.int))):=rfl
end
noncomputable def Qr(K:q0B)(n:Nat):R2:=λx y H Q=>bH x λa=>bH y λb=>(∃r,qO K H n a b r/\Q (.bl r) H) \/
 ∃(z z' u:Str) (p:Addr) (ts:List V),H a=some (.tup [.str z,.ref p])/\H p=some (.tup ts)/\H b=some (.tup [.str z',.str u])/\z≠z'/\Q (.bl false) H
theorem PJ(n:Nat)(hn:2<=n)(hu:X.A.units+n < cLine):jR X (compareOp .Eq) (Qr X.K n):=λUJ s Z H x y v u Q I rx ry h=>by
 obtain⟨a,rfl,h1⟩:=aU h;obtain⟨b,rfl,h2⟩:=aU h1;cases rx;cases ry;rcases h2 with⟨r,e,q⟩|⟨z,z',k,p,ts,ea,ep,eb,ne,q⟩
 ·exact Jy e I hu X.prog X.w X.xe _ (cE I q rfl)
 ·obtain⟨UN,r1,p1,_⟩:=I.tuple (iR.of ea);obtain⟨Yx,r2,p2,_⟩:=I.tuple (iR.of eb);obtain⟨kts,r3,p3,_⟩:=I.tuple (iR.of ep);cases r1 with
  | cons a1 r1 =>
  cases r1 with
  | cons a2 r1 =>
  cases r1;cases r2 with
  | cons b1 r2 =>
  cases r2 with
  | cons b2 r2 =>
  cases r2;obtain⟨t1,rfl⟩:=a1;cases a2;obtain⟨t2,rfl⟩:=b1;obtain⟨t3,rfl⟩:=b2;have:=SeqAt.RcAt.tuples (A:=X.A) (e:=λj=>if j=0 then (z==z') else false) (show s.heap.IsTuple a #[_,_] from p1) (show s.heap.IsTuple b #[_,_] from p2) (by omega) (λj h1 h2=>by
   match j,h1 with
   | 0,_=>exact SeqAt.EqAt.str_str z t1 z' t2
   | 1,_=>exact SeqAt.EqAt.tuple_str k t3 (show s.heap.IsTuple p kts.toArray from p3) (by show X.A.units+1 < _;omega))
  have nz:(z==z')=false:=Β2.mpr ne;have ef:((List.range (min (2:Nat) 2)).all (λj=>if j=0 then (z==z') else false)&&((2:Nat)==2))=false:=by rw[nz];rfl
  have:=this X.prog X.w X.xe (EP X UJ Z Q) (by
   show EP X UJ Z Q (.bool ((List.range (min (2:Nat) 2)).all (λj=>if j=0 then (z==z') else false)&&((2:Nat)==2))) s;rw[ef];exact cE I q rfl)
  exact this
section
variable{Q:VK}{b:Addr}
def QO:Qr K n (.ref a) (.ref b) H Q=((∃r,qO K H n a b r/\Q (.bl r) H)\/∃(z z' u:Str) (p:Addr) (ts:List V),H a=some (.tup [.str z,.ref p])/\H p=some (.tup ts)/\H b=some (.tup [.str z',.str u])/\z≠z'/\Q (.bl false) H):=rfl
end
mutual
example:=[List.Mem.head _,(by omega),seqObj "list" vs.toArray 0,List.Mem.tail _ mem,.lst (U0.map V.str)]
def jC:List (Key×V)->Option (List Str)
 | []=>some []
 | (.inr i,_)::r=>(jC r).map (i::·)
 | _=>none
theorem xM:∀{kvs:List (Key×V)} {ns:List Str},jC kvs=some ns->kvs.length=ns.length/\∀(j:Nat) (k:Key) (x:V),kvs[j]?=some (k,x)->∃i:Str,k=.inr i/\ns[j]?=some i
 | [],ns,h=>by cases h;exact⟨rfl,λj k x e=>by simp at e⟩
 | (k,v)::kvs,ns,h=>by
  cases k with
  | inr i =>
   simp only[jC,ϛ] at h;obtain⟨ms,e,rfl⟩:=h;obtain⟨l,f⟩:=xM e;refine⟨by simp[l],λj k x ej=>?_⟩;cases j with
   | zero=>simp only[Ο,Υ,Prod.mk.injEq] at ej;exact⟨i,ej.1.symm,rfl⟩
   | succ j=>exact f j k x (by simpa using ej)
  | _=>cases h
def Mt{ns:List Str}:∀{vs:List Value},vs.length=ns.length->(∀(j:Nat) (v:Value),vs[j]?=some v->∃i t,ns[j]?=some i/\v=Value.str i t)->StrsAre vs ns:=by
 induction ns with
 | nil =>
  intro vs hl _;cases vs with
  | nil=>exact .nil
  | cons _ _=>simp at hl
 | cons n ns ih =>
  intro vs hl h;cases vs with
  | nil=>simp at hl
  | cons v vs =>
   obtain⟨i,t,e,rfl⟩:=h 0 v rfl;cases e;exact .cons _ _ (ih (by simpa using hl) λj v e=>h (j+1) v (by simpa using e))
def DK{vs:List Value}{ss:List Str}(h:StrsAre vs ss):UO (ss.map V.str) vs:=by
 induction h with
 | nil=>exact .nil
 | cons y t _ ih=>exact .cons ⟨t,rfl⟩ ih
def Hy:List V->Hp->VK->Prop:=λvs H Q=>on1 vs λx=>bH x λp=>dB (H p) λkvs=>iY (jC kvs) λns=>ns.length < 64/\∀(l:Addr) (U0:List Str),H l=none->U0.Perm ns->sortedS U0=true->Q (.ref l) (UK H l 4e0)
theorem uD(hc:X.calm=true):gN X (.builtin "sorted") Hy:=λUJ s Z H xs us Q I r h=>by
 obtain⟨x,rfl,h1⟩:=jJ h;obtain⟨p,rfl,h2⟩:=aU h1;obtain⟨kvs,e,h3⟩:=dF h2;obtain⟨ns,ek,h64,q⟩:=dI h3;obtain⟨u,rfl,ru⟩:=vals1 r;cases ru;obtain⟨hl,hk⟩:=xM ek;obtain⟨z,hd,ZL,rel,dd⟩:=nX I.UQ e;obtain⟨ep,dat⟩:=dd.dictAt;obtain⟨od,es,ho,_⟩:=id dat;obtain⟨m,hn,_⟩:=I.loc;have Vv:p≠X.env.locals:=aF e I.free;have l0:=rel.length;refine PySem.W.kdu_sorted (PySem.W.kdl_dict (knd:=bI X.prog X.w) (kvs:=ZL) (ep:=ep) hd) (I.ok.hd hc) (Att.C1 hn) (Att.mD Vv ho) dat 1e0 λD h' tk vs F N lt hlen hP=>?_;have hI:StrsAre vs ns:=Mt 1e0 λj v ev=>by
  obtain⟨k,x,e1,e2⟩:=hP j v ev;have hj:j < kvs.length:=by
   have:=(Ν.mp e1).1;omega
  obtain⟨⟨k',x'⟩,Yh⟩:∃y,kvs[j]?=some y:=⟨_,ϕ hj⟩;obtain⟨v',e3⟩:=KV.at rel Yh;rw[e1] at e3;cases e3;obtain⟨i,rfl,ei⟩:=hk j _ _ Yh;obtain⟨t,et⟩:=(show ∃t,v=Value.str i t from pM e2);exact⟨i,t,ei,et⟩
 have hD:h'.get? D=some 2e0:=(N _ 0e0).1;have old:∀b o,b≠X.env.locals->s.heap.get? b=some o->h'.get? b=some o/\b < D:=λb o nb eb=>by
  by_cases hb:b=p
  ·subst hb;rw[ho] at eb;cases eb;exact⟨(N _ (List.Mem.tail _ 0e0)).1,lt _ 0e0⟩
  ·have mem:=Att.kZ (h:=s.heap) (L:=X.env.locals) (d:=p) |>.mpr ⟨nb,hb,eb⟩;exact⟨(N _ (List.Mem.tail _ 3e0)).1,lt _ 3e0⟩
 have g:MeetsIn X.prog X.w (Builtin.«list.sort» ⟨[.ref D],[]⟩) (λ_ R s=>s.heap.get? D=some 2e0/\∀(out:Array Value) (U0:List Str),StrsAre out.toList U0->U0.Perm ns->sortedS U0=true->R (.ok (.ret .none)) {s with heap:=sortedHeap s.heap D vs out}) :=
  λA R s ⟨g1,g2⟩=>list_sort_treeK strKind_oneLt g1 hI.keysOf (λv₁ v₂ rest e=>keyKind_strs (by rw[<- e];exact hI)) 1e0 λVd hp hs=>by
   obtain⟨ss',h1,h2,h3⟩:=sorted_out_str hI hp hs;exact g2 _ ss' h1 h2 h3
 refine Δ1 PySem.F.slot_list_sort ⟨_,hD,rfl⟩ PySem.F.entry_list_sort (PySem.F.args_list_sort_1 _) g ⟨hD,λout U0 hI' hp hs=>?_⟩;have Xs:D≠X.env.locals:=(N _ 0e0).2.1;have Xb:H D=none:=by
  cases z:H D with
  | none=>rfl
  | some o =>
   obtain⟨ob,eb⟩:=(I.UQ D o z).there;exact absurd (old D ob Xs eb).2 (Α0 _)
 have new:∀b o,b≠X.env.locals->s.heap.get? b=some o->(sortedHeap h' D vs out).get? b=some o:=λb o nb eb=>by
  obtain⟨h1,h2⟩:=old b o nb eb;rw[sortedHeap_old (Τ h2) (Μ h1)];exact h1
 obtain⟨e',Z9⟩:=sortedHeap_at (out:=out) hD;have WO:∀m',s.heap.Ns X.env.locals m'->(sortedHeap h' D vs out).Ns X.env.locals m':=λm' hm=>by
  have em:m'=m:=by
   obtain⟨o1,Vg,WJ,a1,b1,_,c1⟩:=hm;obtain⟨o2,es2,Z0,a2,b2,_,c2⟩:=hn;rw[a1] at a2;cases a2;rw[b1] at b2;cases b2;funext y;rw[<- c1,<- c2]
  subst em;obtain⟨o1,Vg,WJ,a1,r1⟩:=F.ns;exact⟨o1,Vg,WJ,by rw[sortedHeap_old Xs.symm (Μ a1)];exact a1,r1⟩
 have nn:∀{b:Addr} {o:HO},H b=some o->b≠D:=λh z=>by subst z;rw[Xb] at h;cases h
 have nl:∀{b:Addr} {o:HO},H b=some o->b≠X.env.locals:=λh=>aF h I.free;refine⟨.ref D,UK H D 4e0,show UM X UJ Z _ {s with heap:=sortedHeap h' D vs out,gens:=s.gens,drawn:=s.drawn,toks:=tk} from I.step (g':=s.gens) (d':=s.drawn) (t':=tk) (ch:=[]) (λ_ z=>nomatch z) (λb o nb _ _ eb _=>new b o nb eb) (λb o nb _ _ eb _=>⟨o.slots,new b o nb eb⟩) (λb o _ eb hb=>?_) (λb o _ eb=>?_)
  (λb xs hb=>by rw[aC (nn hb)];exact hb) (λb o u hb=>by rw[aC (nn hb)];exact hb) (λb ps hb=>⟨#[],by rw[aC (nn hb),hb];simp⟩) WO (λb o hb=>?_) I.bare,rfl,q D U0 Xb hp hs⟩
 ·by_cases V4:b=D
  ·subst V4;by_cases V5:b=X.env.locals
   ·exact absurd V5 Xs
   ·exact absurd (old b o V5 eb).2 (Α0 _)
  ·rw[aC V4];exact hb
 ·by_cases V5:b=X.env.locals
  ·subst V5;obtain⟨o1,Vg,WJ,a1,r1⟩:=WO m hn;exact⟨o1,a1⟩
  ·exact⟨o,new b o V5 eb⟩
 ·by_cases V4:b=D
  ·subst V4;rw[aA] at hb;cases hb;exact⟨by rw[Γ,hp.length_eq];omega,out.toList,e',DK hI',Z9⟩
  ·rw[aC V4] at hb;refine(I.UQ b o hb).tF (λc v hc ev=>?_) (λc hc=>by rw[aC (nn hc)];exact hc) λc xs hc=>by rw[aC (nn hc)];exact hc
   rcases hc with hc|hc
   ·subst hc;exact new c v (nl hb) ev
   ·exact new c v (nl hc) ev
end
section
variable{Q:VK}{p:Addr}
def Ly:Hy [.ref p] H Q=dB (H p) λkvs=>iY (jC kvs) λns=>ns.length < 64/\∀(l:Addr) (U0:List Str),H l=none->U0.Perm ns->sortedS U0=true->Q (.ref l) (UK H l (.lst (U0.map V.str))):=rfl
end
end Lake
namespace PySem
open AutoSeq1 (wpAny_loadPart')
open PyProof.Rows PySem.W
section
variable {prog:Program} {w:World} {A:Around} {E:q0A} {s:Shared} {K:Type} [DecidableEq K] {knd:KeyKind prog w K} {r d:Addr} {kvs:List (K×Value)} {ep:Nat}
def l8{Q₁:q0A}(hh:A.handled=none)(hv:s.heap.IsItemsView r d)(hm:s.heap.DictAt knd d kvs ep)(hn:kvs.length<=sizeLine)(hQ:∀(h':Heap) (tk:Nat) (as:List Addr),(∀b o,s.heap.get? b=some o->h'.get? b=some o)->as.length=kvs.length->KdxG knd kvs s.heap.objs.size h' as->Q₁ (.ref h'.objs.size) {s with heap:=h'.push {cls:=.type "tuple",data:=.seq (as.map Value.ref).toArray},toks:=tk}) : codeAny (model prog w) A (.call (.builtin "tuple.__new__") ⟨[.type "tuple",.ref r],[]⟩) (wants Q₁ E) s:=by
 refine codeAny_of_tree ?_;show wpAny _ A.in1 (do checkBuiltinCall "tuple.__new__" ⟨[.type "tuple",.ref r],[]⟩;again (.builtin "tuple.__new__" ⟨[.type "tuple",.ref r],[]⟩)) _ _ s;refine Β (wpAny_of_eq (F.newCall_tuple_1 _) (Ι ⟨plainId_quiet F.plain_tuple_new _,Ε9 F.entry_tuple_new ?_⟩));rw[Ε0 F.plain_tuple_new _];have X9:=sub_tuple_self;have abV:=init_tuple_lookup;have hmh:=madeHere_tuple;have hTI:s.TypeIs (.ref r) "dict_items":=let ⟨o,ho,x,_⟩:=hv;⟨o,ho,x⟩;wp_walk using wpAny_typeOf hTI,kdx_collect (A:=A.in1) (knd:=knd) (kvs:=kvs) (ep:=ep) hh hv hm hn;intro h' tk as hk hl hG;show wpAny _ _ (Builtin.Tuple.tupleExact (as.map Value.ref).toArray >>= λv=>ret v) _ _ _;unfold Builtin.Tuple.tupleExact;refine Β (Β8 ?_ (by show(as.map Value.ref).toArray.size<=sizeLine;simpa[hl] using hn));refine Ι ?_;exact hQ h' tk as hk hl hG
theorem qR{Q:q0A}(hh:A.handled=none)(hv:s.heap.IsItemsView r d)(hm:s.heap.DictAt knd d kvs ep)(hn:kvs.length<=sizeLine)(hQ:∀(h':Heap) (tk:Nat) (as:List Addr),(∀b o,s.heap.get? b=some o->h'.get? b=some o)->as.length=kvs.length->KdxG knd kvs s.heap.objs.size h' as->Q (.ref h'.objs.size) {s with heap:=h'.push {cls:=.type "tuple",data:=.seq (as.map Value.ref).toArray},toks:=tk}) : wpAny (model prog w) A (call (.type "tuple") [.ref r]) Q E s:=by
 refine callType_codes (Q₁:=λobj s₁=>s₁.TypeIs obj "tuple"/\Q obj s₁) F.called_tuple (F.typeCall_tuple_1 _) F.entry_object_init
  (l8 (knd:=knd) (kvs:=kvs) (ep:=ep) hh hv hm hn λh' tk as hk hl hG=>⟨⟨_,Φ _ rfl,rfl⟩,hQ h' tk as hk hl hG⟩) λobj s₁ h₁=>?_
 exact⟨h₁.1,F.args_object_init_2 obj _,object_init_meets F.called_tuple.init.lookup F.called_tuple.made (by decide) prog w A.in1 _ s₁ ⟨h₁.1,rfl,h₁.2⟩⟩
end
end PySem
namespace Lake
open PySem PySem.Spec PyProof.Rows
variable{a:Addr}{items:Array Value}{X:Cx}{H:Hp}{kvs:List (Key×V)}{ns:List Int}{vs:List Value}{i n:Nat}{st:SortSt}
def Np(a d:Addr):HO:=.ext λh=>h.IsItemsView a d
section
variable{o:Expr}{td:TE}{apos US:Pos}
def Ht(td:TE):TE:=λZ H Q=>td Z H λx H1=>bH x λa=>dB (H1 a) λ_=>∀r,H1 r=none->Q (.ref r) (UK H1 r (Np r a))
def Jp(ho:PE X o td)(Vp:attributeBase o "items" X.env (eval o X.env)=eval o X.env:=by rfl)(Vq:(apos.endLine==US.line)=true:=by rfl):PE X (.Call (.Attribute o "items" apos) [] [] US) (Ht td):=λUJ s Z H Q I h=>by
 refine wpAny_Call_method0_late Vp Vq (thn (ho UJ s Z H _ I h) λv s1 ⟨x,H1,I1,r1,q1⟩=>?_);obtain⟨a,rfl,q2⟩:=aU q1;obtain⟨kvs,e0,q3⟩:=dF q2;obtain rfl:v=Value.ref a:=r1;obtain⟨t1,t2,_⟩:=qX I1 (.inl ⟨kvs,.inl e0⟩);refine⟨"dict","dict.items",Γ3,PySem.F.slot_dict_items,PySem.F.type_dict_items,t1,t2,Α7 rfl (PySem.evalArgs_none ?_)⟩;obtain⟨z,hd,vs,rel,dd⟩:=nX I1.UQ e0;refine Δ1 PySem.F.slot_dict_items dd.typeIs PySem.F.entry_dict_items (PySem.F.args_dict_items_1 _) (meets_dict_items (bI X.prog X.w) a hd) ⟨⟨vs,dd⟩,?_⟩;have I2:=I1.laid (t':=s1.toks) (λb o e=>Θ _ e) (Ζ _) (show eE X.prog X.w _ (s1.heap.push {cls:=.type "dict_items",data:=.fields #[.ref a]}) _ (Np s1.heap.objs.size a) from ⟨⟨_,Φ _ rfl,rfl,rfl⟩,⟨_,Φ _ rfl⟩,λh1 h2 ⟨o,ho,x⟩ k=>⟨o,k o ho,x⟩⟩);exact⟨.ref _,_,I2,rfl,q3 _ (I1.UQ.fresh (Ζ _))⟩
end
mutual
example:=[Key×V,as.map V.ref,.tup 1e0,(.tup [kV k,x]),lX as kvs H]
def KV.atR{vs:List (Key×Value)}(r:KV kvs vs){k:Key}{x:V}(e:kvs[i]?=some (k,x)):∃v,vs[i]?=some (k,v)/\bQ x v:=by
 unfold KV at r
 induction r generalizing i with
 | nil=>simp at e
 | @cons p q ps qs h t ih=>cases i with
  | zero =>
   have e':p=(k,x):=by simpa using e
   subst e';exact⟨q.2,by rw[Ο,show k=q.1 from h.1],h.2⟩
  | succ i=>simpa using ih (i:=i) (by simpa using e)
theorem zY:∀as:List Addr,UO 1e0 (as.map Value.ref)
 | []=>.nil
 | a::as=>.cons rfl (zY as)
def lX:List Addr->List 0e0->Hp->Hp
 | a::as,(k,x)::kvs,H=>UK 4e0 a 3e0
 | _,_,H=>H
theorem mZ{H:Hp}{b:Addr}:∀{as:List Addr} {kvs:List 0e0},b∉as->lX as kvs H b=H b
 | [],_,_=>by simp[lX]
 | a::as,[],_=>by simp[lX]
 | a::as,(k,x)::kvs,h=>by
  simp only[Α,not_or] at h;rw[lX,aC h.1,mZ h.2]
theorem t9{H:Hp}{a:Addr}{k:Key}{x:V}:∀{as:List Addr} {kvs:List 0e0} {j:Nat},as.Nodup->as[j]?=some a->kvs[j]?=some (k,x)->lX as kvs H a=some 3e0
 | [],_,_,_,h,_=>by simp at h
 | b::as,[],_,_,_,h=>by simp at h
 | b::as,(k',x')::kvs,0,_,h1,h2=>by
  simp only[Ο,Υ,Prod.mk.injEq] at h1 h2;obtain⟨rfl,rfl⟩:=h2;subst h1;rw[lX,aA]
 | b::as,(k',x')::kvs,j+1,nd,h1,h2=>by
  rw[ϗ] at nd;simp only[List.getElem?_cons_succ] at h1 h2;have:a≠b:=λz=>nd.1 (by rw[<- z];exact ϒ h1);rw[lX,aC this,t9 nd.2 h1 h2]
theorem Hj{b:Addr}{o:HO}{as:List Addr}(nd:as.Nodup)(hl:as.length=kvs.length)(hb:b∈as)(h:lX as kvs H b=some o):∃(j:Nat) (k:Key) (x:V),as[j]?=some b/\kvs[j]?=some (k,x)/\o=.tup [kV k,x]:=by
 obtain⟨j,hj⟩:=List.mem_iff_getElem?.mp hb;have Ve:j < kvs.length:=by have:=(Ν.mp hj).1;omega
 obtain⟨⟨k,x⟩,e⟩:∃y,kvs[j]?=some y:=⟨_,ϕ Ve⟩;rw[t9 nd hj e] at h;exact⟨j,k,x,hj,e,(ϓ h).symm⟩
def HA:List V->Hp->VK->Prop:=λvs H Q=>on1 vs λx=>bH x λr=>∃(d:Addr) (kvs:List 0e0),H r=some (Np r d)/\H d=some (.dK kvs)/\∀(l:Addr) (as:List Addr) (H':Hp),H l=none->Same H H'->H' l=some 2e0->as.length=kvs.length->(∀(j:Nat) (a:Addr) (k:Key) (x:V),as[j]?=some a->kvs[j]?=some (k,x)->H' a=some 3e0)->Q (.ref l) H'
theorem CT(hc:X.calm=true):gN X (.type "tuple") HA:=λUJ s Z H xs us Q I rr h=>by
 obtain⟨x,rfl,h1⟩:=jJ h;obtain⟨r,rfl,d,kvs,er,ed,q⟩:=aU h1;obtain⟨u,rfl,ru⟩:=vals1 rr;cases ru;have hv:s.heap.IsItemsView r d:=(I.UQ r _ er).1;obtain⟨z,hd,ZL,rel,dd⟩:=nX I.UQ ed;obtain⟨ep,dat⟩:=dd.dictAt;have l0:=rel.length;refine qR (knd:=bI X.prog X.w) (kvs:=ZL) (ep:=ep) (I.ok.hd hc) hv dat (by omega) λh' tk as hk hl hG=>?_;have fresh:∀{b:Addr},s.heap.objs.size<=b->H b=none:=λhb=>I.UQ.fresh hb;have Zl:∀b o,H b=some o->∃ob,s.heap.get? b=some ob:=λb o e=>(I.UQ b o e).there;have hl0:H h'.objs.size=none:=by
  cases e:H h'.objs.size with
  | none=>rfl
  | some o =>
   obtain⟨ob,eb⟩:=Zl _ _ e;exact absurd (Μ (hk _ _ eb)) (Α0 _)
 have nd:as.Nodup:=hG.rise.imp λh=>Τ h;have aH:∀a∈as,H a=none:=λa ha=>fresh (Nat.le_of_lt (hG.above a ha));have nl:h'.objs.size∉as:=λz=>absurd (hG.there z) (Α0 _);have hlk:as.length=kvs.length:=by omega
 have same:Same H (UK 4e0 h'.objs.size 2e0):=λb o e=>by
  have h1:b≠h'.objs.size:=λz=>by rw[z,hl0] at e;cases e
  have h2:b∉as:=λz=>by rw[aH b z] at e;cases e
  rw[aC h1,mZ h2];exact e
 have V9:∀b o,s.heap.get? b=some o->(h'.push {cls:=.type "tuple",data:=.seq (as.map Value.ref).toArray}).get? b=some o:=λb o e=>Θ _ (hk b o e);refine⟨.ref h'.objs.size,UK 4e0 h'.objs.size 2e0,show UM X UJ Z _ {s with heap:=h'.push {cls:=.type "tuple",data:=.seq (as.map Value.ref).toArray},gens:=s.gens,drawn:=s.drawn,toks:=tk} from I.step (g':=s.gens) (d':=s.drawn) (t':=tk) (ch:=[]) (λ_ z=>nomatch z) (λb o nb _ _ eb _=>V9 b o eb) (λb o nb _ _ eb _=>⟨o.slots,V9 b o eb⟩) (λb o _ eb hb=>?_) (λb o _ eb=>⟨o,V9 b o eb⟩)
  (λb xs hb=>same b _ hb) (λb o u hb=>same b _ hb) (λb ps hb=>⟨#[],by rw[same b _ hb];simp⟩) (λm hm=>?_) (λb o hb=>?_) I.bare,rfl,q _ as _ hl0 same aA hlk λj a k x e1 e2=>?_⟩
 ·have h1:b≠h'.objs.size:=Τ (Μ (hk b o eb));have h2:b∉as:=λz=>absurd (Nat.lt_trans (hG.above b z) (Μ eb)) (Α0 _);rw[aC h1,mZ h2];exact hb
 ·obtain⟨o1,Vg,WJ,a1,r1⟩:=hm;exact⟨o1,Vg,WJ,V9 _ _ a1,r1⟩
 ·by_cases h1:b=h'.objs.size
  ·subst h1;rw[aA] at hb;cases hb;exact⟨by rw[Γ];omega,as.map Value.ref,zY as,IsTup.new _ _⟩
  ·rw[aC h1] at hb;by_cases h2:b∈as
   ·obtain⟨j,k,x,e1,e2,rfl⟩:=Hj nd hlk h2 hb;obtain⟨key,k',x',e3,e4,e5⟩:=hG.pairs j b e1;obtain⟨v,e6,e7⟩:=KV.atR rel e2;rw[e3] at e6;cases e6;exact⟨by show 2<=sizeLine;rw[Γ2];decide,[key,x'],.cons (pM e4) (.cons e7 .nil),⟨_,Θ _ e5,rfl,_,rfl⟩⟩
   ·rw[mZ h2] at hb;exact(I.UQ b o hb).tF (λc v _ ev=>V9 c v ev) (λc hc=>same _ _ hc) λc xs hc=>same _ _ hc
 ·have:a≠h'.objs.size:=λz=>nl (by rw[<- z];exact ϒ e1);rw[aC this,t9 nd e1 e2]
end
section
variable{Q:VK}{p:Addr}{td:TE}{Z:St}
def Ll:Ht td Z H Q=td Z H λx H1=>bH x λa=>dB (H1 a) λ_=>∀r,H1 r=none->Q (.ref r) (UK H1 r (Np r a)):=rfl
def LA:HA [.ref p] H Q = ∃(d:Addr) (kvs:List (Key×V)),H p=some (Np p d)/\H d=some (.dK kvs)/\∀(l:Addr) (as:List Addr) (H':Hp),H l=none->Same H H'->H' l=some (.tup (as.map V.ref))->as.length=kvs.length->(∀(j:Nat) (a:Addr) (k:Key) (x:V),as[j]?=some a->kvs[j]?=some (k,x)->H' a=some (.tup [kV k,x]))->Q (.ref l) H':=rfl
end
mutual
example:=[]
def Hf(a b:Str):Prop:=a.cps.toList<=b.cps.toList
def yZ{a b c:Str}(h:Hf a b)(g:Hf b c):Hf a c:=List.le_trans h g
def IG{a b:Str}(h:Hf a b)(g:Hf b a):a=b:=by
 have e:=List.le_antisymm h g;obtain⟨⟨x⟩⟩:=a;obtain⟨⟨y⟩⟩:=b;simp only at e;rw[e]
def FW(a b:Str):Hf a b\/Hf b a:=List.le_total a.cps.toList b.cps.toList
theorem wM:∀{l:List Str} {p:Str},risingS p l=true->(p::l).Pairwise Hf
 | [],p,_=>by simp
 | x::r,p,h=>by
  rw[risingS,Β6,Bool.not_eq_true',ltCps_eq,decide_eq_false_iff_not,List.not_lt] at h;have ih:=wM h.2;rw[Γ0];refine⟨λy hy=>?_,ih⟩;rcases Α.mp hy with rfl|hy
  ·exact h.1
  ·exact yZ h.1 ((Γ0.mp ih).1 y hy)
def Dw{l:List Str}(h:sortedS l=true):l.Pairwise Hf:=by
 cases l with
 | nil=>exact .nil
 | cons x r=>exact wM h
theorem EI:∀{a b:List Str},a.Perm b->a.Pairwise Hf->b.Pairwise Hf->a=b
 | [],b,p,_,_=>by rw[List.nil_perm.mp p]
 | x::a,[],p,_,_=>by have:=p.length_eq;simp at this
 | x::a,y::b,p,ha,hb=>by
  rw[Γ0] at ha hb;have e:x=y:=by
   have h1:x∈y::b:=p.mem_iff.mp (by simp);have h2:y∈x::a:=p.mem_iff.mpr (by simp);rcases Α.mp h1 with h1|h1
   ·exact h1
   rcases Α.mp h2 with h2|h2
   ·exact h2.symm
   exact IG (ha.1 y h2) (hb.1 x h1)
  subst e;rw[EI p.cons_inv ha.2 hb.2]
def Pn(a b:Str):Bool:=!(ltCps b.cps.toList a.cps.toList)
def nH{a b:Str}:Pn a b=true↔Hf a b:=by
 rw[Pn,Bool.not_eq_true',ltCps_eq,decide_eq_false_iff_not,List.not_lt];exact Iff.rfl
def srt(l:List Str):List Str:=l.mergeSort Pn
def JZ{l ns:List Str}(p:ns.Perm l)(h:sortedS ns=true):ns=srt l:=by
 refine EI (p.trans (List.mergeSort_perm l Pn).symm) (Dw h) ?_;have:=List.pairwise_mergeSort (le:=Pn) (λa b c h g=>nH.mpr (yZ (nH.mp h) (nH.mp g))) (λa b=>by
  rcases FW a b with h|h
  ·rw[nH.mpr h];simp
  ·rw[nH.mpr h];simp) l
 exact this.imp λh=>nH.mp h
theorem Es:∀(f n r:Nat),r<=1->minRun' f n r<=n+r
 | 0,n,r,_=>Nat.le_of_eq rfl
 | f+1,n,r,hr=>by
  rw[minRun'_succ];split
  ·omega
  ·have:=Es f (n / 2) (max r (n % 2)) (by omega);omega
end
section
mutual
example:=[(by omega),arrOf st,model prog w,(Obj.mapSeq λ_=>#[]),pairsOf (u::v::rest),wpS_get ?_,(by simp),u::v::rest,seqObj "tuple" vs.toArray 0,seqObj "list" #[] e1,seqObj "list" #[] 0,pairsOf vs]
variable{prog:Program}{w:World}{A:Around}{E:q0A}{s:Shared}{b0:Array Keyed}
theorem PZ{C:Option Nat->SortSt->Prop}(ik:IntKeys b0)(sb:SBase b0 st)(one:1<=b0.size)(up:∀n,1<=n->n < b0.size->K 1e0 (n - 1)<=K 1e0 n)(q:SortedTo 1e0 b0.size->C (some b0.size) st):wpS 2e0 A E s (countRun' 0 b0.size) C st:=by
 rw[countRun0_eq];refine wpS_bind (wpS_ascLoop ik (Ζ _) (Ζ 1) one sb (λi j a b=>?_) λn n1 n2 so oz=>?_)
 ·obtain rfl:i=j:=by omega
  exact Int.le_refl _
 ·have en:n=b0.size:=by
   rcases oz with z|z
   ·exact z
   ·rcases Nat.lt_or_ge n b0.size with y|y
    ·have:=up n n1 y;omega
    ·omega
  dsimp only;rw[en] at so ⊢;rw[if_pos 6e0];exact wpS_pure (q so)
theorem Mn{C:Unit->SortSt->Prop}(ik:IntKeys b0)(sb:SBase b0 st)(two:2<=b0.size)(up:∀n,1<=n->n < b0.size->K 1e0 (n - 1)<=K 1e0 n)(q:∀Vd,(arrOf Vd).Perm b0->failedOf Vd=none->SortedTo (arrOf Vd) b0.size->C () Vd):wpS 2e0 A E s sortRuns' C st:=by
 rw[sortRuns'_eq];refine wpS_bind 5e0;dsimp only;have mr:=Es b0.size b0.size 0 0e0;simp only[sb.size];obtain⟨P1,hP1⟩:∃P1:SortSt->Prop,∀z,P1 z=(arrOf z=arrOf st/\failedOf z=none/\pendingOf z = #[(0,b0.size,0)]/\SortedTo (arrOf z) b0.size):=⟨_,λ_=>rfl⟩;refine wpS_bind (wpS_mono (wpS_forRange (I:=λx c z=>(x=0/\c=(none,0)/\z=st)\/(1<=x/\c=(none,b0.size)/\P1 z)) (Q:=λc z=>c=(none,b0.size)/\P1 z) ?stp ?end0 (.inl ⟨rfl,rfl,rfl⟩)) ?aft)
 case end0 =>
  rintro c z (⟨a,_,_⟩|⟨_,a,b⟩)
  ·omega
  ·exact⟨a,b⟩
 case stp =>
  rintro x c z _ _ (⟨rfl,rfl,rfl⟩|⟨_,rfl,b⟩)
  ·dsimp only;rw[if_neg 0e0];simp only[Nat.sub_zero,Γ5];refine wpS_bind (PZ ik sb 0e0 up λso=>?_);dsimp only;rw[if_neg 0e0];refine wpS_bind 5e0;rw[show(pendingOf z).back?=none by rw[sb.pend];rfl];dsimp only;refine wpS_bind (wpS_modify (wpS_pure (.inr ⟨Ζ _,rfl,?_⟩)));rw[hP1];exact⟨rfl,sb.failed,by show(pendingOf z).push _=_;rw[sb.pend];rfl,so⟩
  ·dsimp only;rw[if_pos (Ζ _)];exact wpS_pure ⟨rfl,b⟩
 case aft =>
  rintro c z ⟨rfl,b⟩;rw[hP1] at b;dsimp only;refine wpS_bind (wpS_mono (wpS_forRange (I:=λ_ c y=>y=z/\c=(none,())) (Q:=λc y=>y=z/\c=(none,())) ?_ (λ_ _ e=>e) ⟨rfl,rfl⟩) ?_)
  ·rintro x c y _ _ ⟨rfl,rfl⟩;refine wpS_bind 5e0;rw[if_pos (by rw[b.2.2.1];exact Ζ 1)];exact wpS_pure ⟨rfl,rfl⟩
  ·rintro c y ⟨rfl,rfl⟩;exact wpS_pure (q _ (b.1▸sb.perm) b.2.1 b.2.2.2)
def IC(hI:IntsAre vs ns):∀{i:Nat} {n:Int},ns[i]?=some n->∃t,vs[i]?=some (.int n t):=by
 induction hI with
 | nil=>intro i n h;simp at h
 | cons m t _ ih =>
  intro i n h;cases i with
  | zero =>
   simp only[Ο,Υ] at h;subst h;exact⟨t,rfl⟩
  | succ i=>exact ih (by simpa using h)
def MC(hI:IntsAre vs ns){n:Int}(h:ns[i]?=some n):K 1e1 i=n:=by
 obtain⟨t,e⟩:=IC hI h;have z:1e1[i]?=some (.int n t,.int n t):=by
  rw[<- Δ0,pairsOf_toList,List.getElem?_zip_eq_some];exact⟨e,e⟩
 unfold K;rw[z];rfl
theorem An{C:Fin->Shared->Prop}(ho:s.heap.get? a=some (seqObj "list" vs.toArray n))(hI:IntsAre vs ns)(hr:ns.Pairwise (·<=·))(hz:vs.length<=sizeLine)(q:∀(out:Array Value) (U0:List Int),IntsAre out.toList U0->U0.Perm ns->U0.Pairwise (·<=·)->C (.done (.ret .none)) {s with heap:=sortedHeap s.heap a vs out}) : wpAny 2e0 A (Builtin.«list.sort» ⟨[.ref a],[]⟩) C E s:=by
 by_cases U2:vs.length < 64
 ·exact list_sort_tree ho hI U2 q
 have lI:vs.length=ns.length:=hI.length;have la:a < s.heap.objs.size:=Μ ho;rw[list_sort_plain];refine Β (listItems_at ho rfl (Β (listUpdate_at ho rfl ?_)));obtain⟨e1,o1⟩:∃e1,(s.heap.update a 3e0).get? a=some 9e0:=⟨_,get?_update_seq ho (λ_=>#[])⟩;refine Β (seqEpoch_at o1 rfl (Β (wpAny_newTuple (Β (wpAny_newList (Α9 ?_))))));have o6:(((s.heap.update a 3e0).push 8e0).push 0e1).get? a=some 9e0:=Θ _ (Θ _ o1);show wpAny 2e0 A _ C E {s with heap:=((s.heap.update a 3e0).push 8e0).push 0e1};dsimp only;have Vv:¬ vs.toArray.size < 2:=by rw[Η];omega
 rw[if_neg Vv,if_neg Vv];obtain⟨u,v,rest,rfl⟩:∃u v rest,vs=u::v::rest:=by
  match vs,U2 with
  | [],z=>exact absurd 6e0 z
  | [_],z=>exact absurd 6e0 z
  | u::v::rest,_=>exact⟨u,v,rest,rfl⟩
 rw[keyKind_ints hI];refine Β (Ι (Β (Β5 (Mn (b0:=pairsOf 7e0) (st:=SortSt.mk' oneType' ((u::v::rest).toArray.zip (u::v::rest).toArray) #[] 7 none)
  (C:=λ_ z=>(arrOf z).Perm 4e0/\failedOf z=none/\SortedTo (arrOf z) (pairsOf 7e0).size)
  hI.intKeys ⟨Array.Perm.refl _,rfl,rfl,rfl⟩ (by rw[pairsOf_size];simp) (λi i1 i2=>?_) λz x y c=>⟨x,y,c⟩) ?_ λ_ _ e=>e)))
 ·rw[pairsOf_size] at i2;have l1:i - 1 < ns.length:=by omega
  have l2:i < ns.length:=by omega
  show K 4e0 (i - 1)<=K 4e0 i;rw[MC hI (ϕ l1),MC hI (ϕ l2)];exact Ζ2.mp hr (i - 1) i l1 l2 0e0
 rintro⟨⟨⟩,z⟩ s' ⟨rfl,hp,hf,hs⟩;dsimp only;refine Β (seqEpoch_at o6 rfl (Β (listUpdate_at o6 rfl ?_ (hsz2:=by refine Λ (Nat.le_of_eq ((Array.size_map ..).trans (hp.size_eq.trans (pairsOf_size _)))) ?_;omega))));rw[hf];simp only[bne_self_eq_false,Ϙ,Β4];obtain⟨U0,h1,h2,h3⟩:=sorted_out hI hp hs;exact Ι (q _ U0 h1 h2 h3)
end
end
noncomputable def Hx:List V->Hp->VK->Prop:=λvs H Q=>on1 vs λx=>bH x λp=>dB (H p) λkvs=>iY (intKeys kvs) λns=>ns.Pairwise (· < ·)/\∀(l:Addr) (U0:List Int),H l=none->U0.Perm ns->U0.Pairwise (·<=·)->Q (.ref l) (UK H l (.lst (U0.map V.int)))
theorem CS(hc:X.calm=true):gN X (.builtin "sorted") Hx:=λUJ s Z H xs us Q I r h=>by
 obtain⟨x,rfl,h1⟩:=jJ h;obtain⟨p,rfl,h2⟩:=aU h1;obtain⟨kvs,e,h3⟩:=dF h2;obtain⟨ns,ek,aa1,q⟩:=dI h3;obtain⟨u,rfl,ru⟩:=vals1 r;cases ru;obtain⟨hl,hk⟩:=vA ek;obtain⟨z,hd,ZL,rel,dd⟩:=nX I.UQ e;obtain⟨ep,dat⟩:=dd.dictAt;obtain⟨od,es,ho,_⟩:=id dat;obtain⟨m,hn,_⟩:=I.loc;have Vv:p≠X.env.locals:=aF e I.free;have l0:=rel.length;refine PySem.W.kdu_sorted (PySem.W.kdl_dict (knd:=bI X.prog X.w) (kvs:=ZL) (ep:=ep) hd) (I.ok.hd hc) (Att.C1 hn) (Att.mD Vv ho) dat (by omega) λD h' tk vs F N lt hlen hP=>?_;have hI:IntsAre vs ns:=Ej (by omega) λj v ev=>by
  obtain⟨k,x,e1,e2⟩:=hP j v ev;have hj:j < kvs.length:=by
   have:=(Ν.mp e1).1;omega
  obtain⟨⟨k',x'⟩,Yh⟩:∃y,kvs[j]?=some y:=⟨_,ϕ hj⟩;obtain⟨v',e3⟩:=KV.at rel Yh;rw[e1] at e3;cases e3;obtain⟨i,rfl,ei⟩:=hk j _ _ Yh;obtain⟨t,et⟩:=(show ∃t,v=Value.int i t from pM e2);exact⟨i,t,ei,et⟩
 have hD:h'.get? D=some (seqObj "list" vs.toArray 0):=(N _ (List.Mem.head _)).1;have old:∀b o,b≠X.env.locals->s.heap.get? b=some o->h'.get? b=some o/\b < D:=λb o nb eb=>by
  by_cases hb:b=p
  ·subst hb;rw[ho] at eb;cases eb;exact⟨(N _ (List.Mem.tail _ (List.Mem.head _))).1,lt _ (List.Mem.head _)⟩
  ·have mem:=Att.kZ (h:=s.heap) (L:=X.env.locals) (d:=p) |>.mpr ⟨nb,hb,eb⟩;exact⟨(N _ (List.Mem.tail _ (List.Mem.tail _ mem))).1,lt _ (List.Mem.tail _ mem)⟩
 have g:MeetsIn X.prog X.w (Builtin.«list.sort» ⟨[.ref D],[]⟩) (λ_ R s=>s.heap.get? D=some (seqObj "list" vs.toArray 0)/\∀(out:Array Value) (U0:List Int),IntsAre out.toList U0->U0.Perm ns->U0.Pairwise (·<=·)->R (.ok (.ret .none)) {s with heap:=sortedHeap s.heap D vs out}) :=
  λA R s ⟨g1,g2⟩=>An g1 hI (aa1.imp λh=>Int.le_of_lt h) (by omega) λout U0 a b c=>g2 out U0 a b c
 refine Δ1 PySem.F.slot_list_sort ⟨_,hD,rfl⟩ PySem.F.entry_list_sort (PySem.F.args_list_sort_1 _) g ⟨hD,λout U0 hI' hp hs=>?_⟩;have Xs:D≠X.env.locals:=(N _ (List.Mem.head _)).2.1;have Xb:H D=none:=by
  cases z:H D with
  | none=>rfl
  | some o =>
   obtain⟨ob,eb⟩:=(I.UQ D o z).there;exact absurd (old D ob Xs eb).2 (Α0 _)
 have new:∀b o,b≠X.env.locals->s.heap.get? b=some o->(sortedHeap h' D vs out).get? b=some o:=λb o nb eb=>by
  obtain⟨h1,h2⟩:=old b o nb eb;rw[sortedHeap_old (Τ h2) (Μ h1)];exact h1
 obtain⟨e',Z9⟩:=sortedHeap_at (out:=out) hD;have WO:∀m',s.heap.Ns X.env.locals m'->(sortedHeap h' D vs out).Ns X.env.locals m':=λm' hm=>by
  have em:m'=m:=by
   obtain⟨o1,Vg,WJ,a1,b1,_,c1⟩:=hm;obtain⟨o2,es2,Z0,a2,b2,_,c2⟩:=hn;rw[a1] at a2;cases a2;rw[b1] at b2;cases b2;funext y;rw[<- c1,<- c2]
  subst em;obtain⟨o1,Vg,WJ,a1,r1⟩:=F.ns;exact⟨o1,Vg,WJ,by rw[sortedHeap_old Xs.symm (Μ a1)];exact a1,r1⟩
 have nn:∀{b:Addr} {o:HO},H b=some o->b≠D:=λh z=>by subst z;rw[Xb] at h;cases h
 have nl:∀{b:Addr} {o:HO},H b=some o->b≠X.env.locals:=λh=>aF h I.free;refine⟨.ref D,UK H D (.lst (U0.map V.int)),show UM X UJ Z _ {s with heap:=sortedHeap h' D vs out,gens:=s.gens,drawn:=s.drawn,toks:=tk} from I.step (g':=s.gens) (d':=s.drawn) (t':=tk) (ch:=[]) (λ_ z=>nomatch z) (λb o nb _ _ eb _=>new b o nb eb) (λb o nb _ _ eb _=>⟨o.slots,new b o nb eb⟩) (λb o _ eb hb=>?_) (λb o _ eb=>?_)
  (λb xs hb=>by rw[aC (nn hb)];exact hb) (λb o u hb=>by rw[aC (nn hb)];exact hb) (λb ps hb=>⟨#[],by rw[aC (nn hb),hb];simp⟩) WO (λb o hb=>?_) I.bare,rfl,q D U0 Xb hp hs⟩
 ·by_cases V4:b=D
  ·subst V4;by_cases V5:b=X.env.locals
   ·exact absurd V5 Xs
   ·exact absurd (old b o V5 eb).2 (Α0 _)
  ·rw[aC V4];exact hb
 ·by_cases V5:b=X.env.locals
  ·subst V5;obtain⟨o1,Vg,WJ,a1,r1⟩:=WO m hn;exact⟨o1,a1⟩
  ·exact⟨o,new b o V5 eb⟩
 ·by_cases V4:b=D
  ·subst V4;rw[aA] at hb;cases hb;exact⟨by rw[Γ,hp.length_eq];omega,out.toList,e',nR hI',Z9⟩
  ·rw[aC V4] at hb;refine(I.UQ b o hb).tF (λc v hc ev=>?_) (λc hc=>by rw[aC (nn hc)];exact hc) λc xs hc=>by rw[aC (nn hc)];exact hc
   rcases hc with hc|hc
   ·subst hc;exact new c v (nl hb) ev
   ·exact new c v (nl hc) ev
section
variable{Q:VK}{p:Addr}
def Lx:Hx [.ref p] H Q=dB (H p) λkvs=>iY (intKeys kvs) λns=>ns.Pairwise (· < ·)/\∀(l:Addr) (U0:List Int),H l=none->U0.Perm ns->U0.Pairwise (·<=·)->Q (.ref l) (UK H l (.lst (U0.map V.int))):=rfl
end
theorem B0{xs:List V}{UN:List Value}(r:UO xs UN):∀js:List Nat,∃ys,UO ys (js.filterMap λx=>UN.toArray[x]?)/\(∀y∈ys,y∈xs)/\ys.length<=js.length
 | []=>⟨[],.nil,by simp,by simp⟩
 | j::js=>by
  obtain⟨ys,h1,h2,h3⟩:=B0 r js;cases e:xs[j]? with
  | none =>
   have e':=r.none_of e;refine⟨ys,?_,h2,by simp only[Ε];omega⟩;rw[List.filterMap_cons_none (by simpa using e')];exact h1
  | some x =>
   obtain⟨u,e',ru⟩:=r.get e;refine⟨x::ys,?_,λy hy=>?_,by simp only[Ε];omega⟩
   ·rw[List.filterMap_cons_some (by simpa using e')];exact .cons ru h1
   ·rcases Α.mp hy with rfl|hy
    ·exact ϒ e
    ·exact h2 y hy
theorem GN{lo hi:Option Int}{k:Int}(h:0 < k)(n:Nat):(sliceRange (sliceBounds lo hi (some k) n).1 (sliceBounds lo hi (some k) n).2.1 (sliceBounds lo hi (some k) n).2.2).length<=n:=by
 have a1:0<=(sliceBounds lo hi (some k) n).1:=by
  cases lo with
  | none=>simp[sliceBounds,h]
  | some i=>simp only[sliceBounds,Ε2,show k > 0 from h,Γ1];omega
 have a2:(sliceBounds lo hi (some k) n).2.1<=n:=by
  cases hi with
  | none=>simp[sliceBounds,h]
  | some i=>simp only[sliceBounds,Ε2,show k > 0 from h,Γ1];omega
 have a3:(sliceBounds lo hi (some k) n).2.2=k:=rfl;generalize sliceBounds lo hi (some k) n=z at *;obtain⟨b,c,d⟩:=z;simp only at a1 a2 a3;subst a3;unfold sliceRange;simp only[Γ,List.length_range,show d > 0 from h,Γ1];split
 ·next hl =>
  have:(c - b+d - 1) / d<=c - b:=by
   refine Int.lt_add_one_iff.mp ?_;refine Int.ediv_lt_of_lt_mul h ?_;have m:(c - b) * 1<=(c - b) * d:=Int.mul_le_mul_of_nonneg_left (by omega) (by omega);rw[Int.add_mul];generalize (c - b) * d=y at *;omega
  omega
 ·simp
section
variable{fr:List Nat}{tc:TT}{te tl:TE}{Z:St}{Q:VK}{K:q0B}
def HP:oZ K (u0 K tl) fr tc te Z H Q=tl Z H λx H1=>bH x λa=>(∃xs,fV K H1 a xs)/\lc2 K (WG K a) fr tc te Z H1 Q:=by
 unfold oZ u0
 congr 1
 funext x H1;exact propext ⟨fun⟨a,e,h1,h⟩=>by subst e;exact⟨h1,h⟩,λh=>by obtain⟨a,rfl,h1,h⟩:=aU h;exact⟨a,rfl,h1,h⟩⟩
theorem Bz{ys:List V}(Pv:Nat->List V->Hp->Prop)(h0:Pv 0 [] H)(hz:∀i xs H,Pv i xs H->xs.length<=1000000)(hl:∀i xs H,Pv i xs H->fV K H a ys)(hs:∀(i:Nat) y xs H,i < ys.length->ys[i]?=some y->Pv i xs H->∃p y1 y2,y=.ref p/\iR K H p [y1,y2]/\tc (some y1::some y2::bC fr Z) H λb H2=>if b=true then te (some y1::some y2::bC fr Z) H2 (λz H3=>Pv (i+1) (xs++[z]) H3) else Pv (i+1) xs H2)(hd:∀xs H,Pv ys.length xs H->∀p,H p=none->Q (.ref p) (UK H p (.lst xs))):lc2 K (WG K a) fr tc te Z H Q:=by
 refine⟨cW ys.length Pv,⟨ys.length,by simp,Α1 _,h0⟩,?_⟩;rintro i m xs H ⟨rfl,hi,pv⟩;refine⟨hz i xs H pv,?_⟩;have q1:=hl i xs H pv;by_cases lt:i < ys.length
 ·refine .inr ⟨⟨ys,ys[i],q1,by simp[lt]⟩,λv H' yy=>?_⟩;obtain⟨e,yy⟩:=yy;subst e;obtain⟨p,y1,y2,ey,hp,hh⟩:=hs i v xs H' lt (yy ys q1) pv;refine⟨p,y1,y2,ey,hp,?_⟩;simp only[Be lt];exact hh
 ·refine .inl ⟨⟨ys,q1,by omega⟩,?_⟩;exact hd xs H ((show i=ys.length by omega)▸pv)
end
def uB:R2:=Hz
def jL:jR X (binaryOp .Add) uB:=LZ
section
variable{prog:Program}{w:World}{A:Around}{E:q0A}{s:Shared}
theorem uL{it t:Addr}{items:Array Value}(Vv:t≠it):∀(n i:Nat) (s:Shared) (Q:List Value->Shared->Prop),s.heap.IsListIter it t i->s.heap.IsList t items->i+n<=items.size -> (∀h',Heap.IsListIter h' it t (i+n)->Heap.SameBut it s.heap h'->Q ((items.toList.drop i).take n) {s with heap:=h'})->wpAny (model prog w) A (draw (.ref it) n) Q E s
 | 0,i,s,Q,hit,_,_,hQ=>by
  show wpAny _ _ (pure []) Q E s;exact Ι (by simpa using hQ s.heap hit (Heap.SameBut.refl ..))
 | n+1,i,s,Q,hit,ht,hle,hQ=>by
  have Ve:i < items.size:=by omega
  show wpAny _ _ (pyNext (.ref it) >>= _) Q E s;refine Β (wpAny_pyNext_list_item hit ht (x:=items[i]) (by simp[Ve]) λh₁ YY hs₁=>?_);refine Β (Α9 (uL Vv n (i+1) _ _ YY (ht.extBut hs₁.extBut Vv) (by omega) λh₂ aa6 hs₂=>Ι ?_));have hd:items.toList.drop i=items[i]::items.toList.drop (i+1):=by simp[List.drop_eq_getElem_cons,Ve]
  have:=hQ h₂ (by rw[show i+(n+1)=i+1+n by omega];exact aa6) (hs₁.trans hs₂);rw[hd,Ζ6] at this;exact this
theorem qN{t:Addr}{Q:List Value->Shared->Prop}(hh:A.handled=none)(ht:s.heap.IsList t items)(hQ:∀h',Heap.ExtBut s.heap.objs.size s.heap h'->Q items.toList {s with heap:=h'}):wpAny (model prog w) A (unpackItems (.ref t) items.size none) Q E s:=by
 have Ve:t≠s.heap.objs.size:=by obtain⟨o,ho,_⟩:=ht;exact Τ (Μ ho)
 unfold unpackItems;refine Β ?_
 ·unfold notIterableAtAll;refine Β (wpAny_specialOf ht.typeIs slot_list_iter.lookup ?_);refine Ι ?_;simp only[Ϙ,Β4];refine Β (Α9 (wpAny_pyIter_list ht ?_));refine Β (Α9 (uL Ve items.size 0 _ _ ⟨_,Φ _ rfl,rfl,rfl⟩ (ht.push _) (by omega) λh₁ YY hs₁=>?_));have Xt:List.take items.size (List.drop 0 items.toList)=items.toList:=by
   rw[List.drop_zero];exact List.take_of_length_le (by simp)
  rw[Xt];rw[if_neg (by simp)];have ht₁:h₁.IsList t items:=(ht.push _).extBut hs₁.extBut Ve;refine Β (Α9 (wpAny_pyNext_list_end hh YY ht₁ (by simp) λh₂ he₂=>?_));simp only[Option.isSome_none,Ϙ,Β4];refine Ι (hQ h₂ λb o hb e=>he₂ b o hb (hs₁.extBut b o hb (Θ _ e)))
def oN{env:Env}{elts:List Expr}{x1}{pos:Pos}{t:Addr}{Q:Unit->Shared->Prop}(hh:A.handled=none)(ht:s.heap.IsList t items)(hn:(assignEach elts env).length=items.size)(aaI:(assignEach elts env).findIdx? (·.1)=none)(h:∀h',Heap.ExtBut s.heap.objs.size s.heap h'->wpAny (model prog w) A (assignInOrder ((assignEach elts env).map (·.2)) items.toList) Q E {s with heap:=h'}) : wpAny (model prog w) A (assign (.Tuple elts x1 pos) env (.ref t)) Q E s:=by
 rw[assign_Tuple];refine Β (wpAny_standAt ?_);unfold unpack;rw[hn,aaI];exact Β (Α9 (qN hh ht h))
end
section
variable{pos:Pos}
def Ru(K:q0B)(n:Nat)(t:TGs):TG:=λv Z H Q=>∃a xs,v=.ref a/\fV K H a xs/\xs.length=n/\t xs Z H Q
def Js{es:List Expr}{k:Nat}{t:TGs}(hc:X.calm=true)(h:PGs X es t)(hn:(assignEach es X.env).length=n:=by rfl)(UY:(assignEach es X.env).findIdx? (·.1)=none:=by rfl):PG X (.Tuple es k pos) (Ru X.K n t):=by
 intro UJ s Z H v u Q I r hw;obtain⟨a,xs,e1,hq,hl,hw⟩:=hw;subst e1;cases r;obtain⟨UN,rv,ht,hz⟩:=I.list hq;refine oN (I.ok.hd hc) ht.isList (by simp[hn,<- hl,rv.length]) UY λh' hx=>?_;have I1:UM X UJ Z H {s with heap:=h'}:=I.kept (t':=s.toks) λb o e=>hx b o (Τ (Μ e)) e;exact h UJ _ Z H xs _ Q I1 (by simpa using rv) hw
def Oq{K:q0B}{t:TGs}{Z:St}{Q:St->Hp->Prop}:Ru K n t (.ref a) Z H Q = ∃xs,fV K H a xs/\xs.length=n/\t xs Z H Q:=propext ⟨fun⟨b,xs,e,h⟩=>by cases e;exact⟨xs,h⟩,fun⟨xs,h⟩=>⟨a,xs,rfl,h⟩⟩
end
mutual
example:=[]
def j9(i:Nat):TE:=λZ H Q=>iY (Z[i]?).join λv=>Q v H
def DS(t:TE):TT:=λZ H B=>t Z H λx H'=>Jd x λk=>B k H'
def Ho(sp:Sp)(t:TA):TE:=λZ H Q=>t Z H λvs H1=>sp vs H1 Q E0
def Bd(C:Addr)(m:Str)(sp:Sp)(ta:TE)(t:TA):TE:=λZ H Q=>ta Z H λx H1=>bH x λa=>iX C (H1 a) λ_ fs=>fs.lookup m=none/\t Z H1 λvs H2=>sp (.ref a::vs) H2 Q E0
end
section
mutual
example:=[]
variable{e:Expr}{te ta:TE}{t:TA}{sp:Sp}{C:Addr}{m:Str}
def PE.cV(h:PE X e (lV i)):PE X e (j9 i):=λUJ s Z H Q I q=>h UJ s Z H Q I (by
 obtain⟨v,e,q⟩:=dI q;refine⟨v,?_,q⟩;cases z:Z[i]? with
 | none=>rw[z] at e;cases e
 | some o=>rw[z] at e;cases o with
  | none=>cases e
  | some u=>cases e;rfl)
def PT.cT(h:PT X e (CA te)):PT X e (DS te):=λUJ s Z H Q I q=>h UJ s Z H Q I (by rw[Ic];exact q)
def PE.cC(h:PE X e (Fg sp [] E0 t)):PE X e (Ho sp t):=λUJ s Z H Q I q=>h UJ s Z H Q I (by rw[HN];exact q)
def PE.cM(h:PE X e (Cz C m sp [] E0 ta t)):PE X e (Bd C m sp ta t):=λUJ s Z H Q I q=>h UJ s Z H Q I (by rw[HW];exact q)
end
end
section
mutual
example:=[]
variable{v:V}{o0 o1 o2 o3 o4 o5 o6:Option V}{Z:St}{Q:VK}{B:Bool->Hp->Prop}{te ta:TE}{t:TA}{sp:Sp}{C:Addr}{m:Str}
def To:j9 0 (some v::Z) H Q=Q v H:=rfl
def Tq:j9 1 (o0::some v::Z) H Q=Q v H:=rfl
def Tr:j9 2 (o0::o1::some v::Z) H Q=Q v H:=rfl
def Ts:j9 3 (o0::o1::o2::some v::Z) H Q=Q v H:=rfl
def Tt:j9 4 (o0::o1::o2::o3::some v::Z) H Q=Q v H:=rfl
def Tu:j9 5 (o0::o1::o2::o3::o4::some v::Z) H Q=Q v H:=rfl
def Tv:j9 6 (o0::o1::o2::o3::o4::o5::some v::Z) H Q=Q v H:=rfl
def Tw:j9 7 (o0::o1::o2::o3::o4::o5::o6::some v::Z) H Q=Q v H:=rfl
def NJ:DS te Z H B=te Z H λx H'=>Jd x λk=>B k H':=rfl
def NH:Ho sp t Z H Q=t Z H λvs H1=>sp vs H1 Q E0:=rfl
def NI:Bd C m sp ta t Z H Q=ta Z H λx H1=>bH x λa=>iX C (H1 a) λ_ fs=>fs.lookup m=none/\t Z H1 λvs H2=>sp (.ref a::vs) H2 Q E0:=rfl
end
end
theorem GK{L U k:Int}(h:0 < k)(hL:0<=L)(hU:0<=U)(n:Nat):k * ((sliceRange (sliceBounds (some L) (some U) (some k) n).1 (sliceBounds (some L) (some U) (some k) n).2.1 (sliceBounds (some L) (some U) (some k) n).2.2).length:Int)<=max 0 (min U n - L)+k - 1:=by
 have a1:(sliceBounds (some L) (some U) (some k) n).1=min L n:=by
  simp only[sliceBounds,Ε2,show k > 0 from h,Γ1];omega
 have a2:(sliceBounds (some L) (some U) (some k) n).2.1=min U n:=by
  simp only[sliceBounds,Ε2,show k > 0 from h,Γ1];omega
 have a3:(sliceBounds (some L) (some U) (some k) n).2.2=k:=rfl;rw[a1,a2,a3];unfold sliceRange;simp only[Γ,List.length_range,show k > 0 from h,Γ1];split
 ·next hl =>
  have q:k * ((min U n - min L n+k - 1) / k)<=min U n - min L n+k - 1:=Int.mul_ediv_self_le (by omega);have p:0<=(min U n - min L n+k - 1) / k:=Int.ediv_nonneg (by omega) (by omega);rw[Int.toNat_of_nonneg p];generalize k * ((min U n - min L n+k - 1) / k)=y at *;omega
 ·simp;omega
section
noncomputable def Sw(K:q0B)(te:TE)(tl th ts:TO):TE:=λZ H Q=>te Z H λx H1=>tl Z H1 λl H2=>th Z H2 λu H3=>ts Z H3 λk H4=>∃a xs m L U,x=.ref a/\fV K H4 a xs/\(l=some L/\u=some U/\k=some m)/\(0 < m/\0<=L/\0<=U)/\∀(ys:List V) p,(∀y∈ys,y∈xs)->m * (ys.length:Int)<=max 0 (min U xs.length - L)+m - 1->H4 p=none->Q (.ref p) (UK H4 p (.lst ys))
theorem zD{e:Expr}{te:TE}{lo hi:Option Expr}{st:Expr}{tl th ts:TO}{p2 pos:Pos}(he:PE X e te)(hl:PO X lo tl)(hu:PO X hi th)(hs:PO X (some st) ts):PE X (.Subscript e (.Slice lo hi (some st) p2) pos) (Sw X.K te tl th ts):=by
 intro UJ s Z H Q I h;refine Subscript_ (thn (he UJ s Z H _ I h) λv s1 ⟨x,H1,I1,r1,q1⟩=>?_);refine wpAny_Slice (thn (hl UJ s1 Z H1 _ I1 q1) λvl s2 ⟨l,H2,I2,pl,q2⟩=>thn (hu UJ s2 Z H2 _ I2 q2) λvu s3 ⟨u,H3,I3,pu,q3⟩=>thn (hs UJ s3 Z H3 _ I3 q3) λvk s4 ⟨k,H4,I4',pk,q4⟩=>?_);have I4:UM X UJ Z H4 {s4 with heap:=s4.heap.push {cls:=.type "slice",data:=.fields #[vl,vu,vk]}}:=I4'.kept (t':=s4.toks) λb ob q=>Θ _ q;obtain⟨a,xs,m,L,U,rfl,hx,⟨rfl,rfl,rfl⟩,⟨hm,hL,hU⟩,q⟩:=q4;cases r1;obtain⟨UN,r,ht,hz⟩:=I4.list hx;have hlen:=r.length;show wpAny (model X.prog X.w) X.A (subscriptTail e (.Slice lo hi (some st) p2) (.ref a) (.ref s4.heap.objs.size)) (EP X UJ Z Q) X.xe {s4 with heap:=s4.heap.push {cls:=.type "slice",data:=.fields #[vl,vu,vk]}};refine tail_any (ops:=[.ref a,.ref s4.heap.objs.size]) ht.isList.typeIs slot_list_getitem.lookup ?_ (by with_unfolding_all rfl);refine wpAny_getItem_list_slice ht.isList (Heap.IsSliceOf.new ..) pl pu pk (by intro z;cases z;omega) ?_ (by rw[Η]<;>omega);obtain⟨ys,h1,h2,h3⟩:=B0 r (sliceRange (sliceBounds (some L) (some U) (some m) UN.toArray.size).1 (sliceBounds (some L) (some U) (some m) UN.toArray.size).2.1 (sliceBounds (some L) (some U) (some m) UN.toArray.size).2.2);have h4:=GN (lo:=some L) (hi:=some U) hm UN.toArray.size;have h6:=GK hm hL hU UN.toArray.size;rw[Η] at h4 h6;have h5:ys.length<=xs.length:=by rw[Η] at h3;omega
 have h7:m * (ys.length:Int)<=max 0 (min U xs.length - L)+m - 1:=by
  rw[Η] at h3;have:m * (ys.length:Int)<=m * ((sliceRange (sliceBounds (some L) (some U) (some m) UN.length).1 (sliceBounds (some L) (some U) (some m) UN.length).2.1 (sliceBounds (some L) (some U) (some m) UN.length).2.2).length:Int):=Int.mul_le_mul_of_nonneg_left (by omega) (by omega);rw[hlen];omega
 refine⟨.ref (s4.heap.push {cls:=.type "slice",data:=.fields #[vl,vu,vk]}).objs.size,_,I4.laid (t':=s4.toks) (o:=.lst ys) (λb ob q=>Θ _ q) (Ζ _) ?_,rfl,q ys _ h2 h7 (I4.UQ.fresh (Ζ _))⟩;exact⟨Λ h5 hz,_,0,h1,Φ _ rfl⟩
def Rk{K:q0B}{te:TE}{tl th ts:TO}{Z:St}{Q:VK}:Sw K te tl th ts Z H Q=te Z H λx H1=>tl Z H1 λl H2=>th Z H2 λu H3=>ts Z H3 λk H4=>∃a xs m L U,x=.ref a/\fV K H4 a xs/\(l=some L/\u=some U/\k=some m)/\(0 < m/\0<=L/\0<=U)/\∀(ys:List V) p,(∀y∈ys,y∈xs)->m * (ys.length:Int)<=max 0 (min U xs.length - L)+m - 1->H4 p=none->Q (.ref p) (UK H4 p (.lst ys)):=rfl
end
mutual
inductive CK(H:Hp):V->PyData->Prop
 | UL:CK H .UL .none
 | int (i:Int):CK H (.int i) (.int i)
 | str (x:Str):CK H (.str x) (.str x)
 | tup {a:Addr} {xs:List V} {ds:List PyData}:H a=some (.tup xs)->Ko H xs ds->CK H (.ref a) (.tuple ds)
inductive Ko(H:Hp):List V->List PyData->Prop
 | nil:Ko H [] []
 | cons {v:V} {d:PyData} {vs:List V} {ds:List PyData}:CK H v d->Ko H vs ds->Ko H (v::vs) (d::ds)
end
section
variable{UJ:List (Addr×Obj)}{Z:St}{s:Shared}
mutual
theorem CK.reads(I:UM X UJ Z H s):∀{v:V} {d:PyData},CK H v d->∀{u:Value},bQ v u->Reads s.heap u d []
 | _,_,.UL,_,r=>by cases r;exact .none
 | _,_,.int i,_,r=>by obtain⟨t,rfl⟩:=r;exact .int i t
 | _,_,.str x,_,r=>by obtain⟨t,rfl⟩:=r;exact .str x t
 | _,_,.tup e h,_,r=>by
  cases r;obtain⟨UN,rv,⟨o,e1,c,n,d1⟩,_⟩:=I.tuple (iR.of e);exact .tuple e1 c d1 (h.reads I (by simpa using rv))
theorem Ko.reads(I:UM X UJ Z H s):∀{vs:List V} {ds:List PyData},Ko H vs ds->∀{us:List Value},UO vs us->ReadsAll s.heap us ds []
 | _,_,.nil,_,r=>by cases r;exact .nil
 | _,_,.cons h t,_,r=>by
  cases r with
  | cons r1 r2=>exact ReadsAll.cons (h.reads I r1) (t.reads I r2)
end
end
theorem DQ:bootBuiltins "repr"=some (.builtin "repr"):=by decide +kernel
noncomputable def Qx:List V->Hp->VK->Prop:=λvs H Q=>on1 vs λx=>∃a d,x=.ref a/\CK H x d/\d.showable=true/\d.hasDict=false/\d.depth<=20/\d.shown.length<=sizeLine/\Q (.str d.shown) H
theorem yO(hg:X.A.guards=some [])(hu:X.A.units+21 < cLine):gN X (.builtin "repr") Qx:=λUJ s Z H xs us Q I r h=>by
 obtain⟨x,rfl,a,d,rfl,ht,hs,hd,hp,hz,q⟩:=jJ h;obtain⟨u,rfl,ru⟩:=vals1 r;have rd:=ht.reads I ru;cases ru;exact repr_of_reads' rd hs (λz=>by rw[hd] at z;cases z) hg (by omega) (λ_ _ e=>e) (λh' u tk hk=>⟨.str _,H,I.kept hk,⟨u,rfl⟩,q⟩) hz
end Lake
namespace Internal
open PySem Lake
variable{XP:(q0C)->Heap->Prop}{C a dd fl o2 op:Addr}{Xf:Array (Option Value)}{wt:Bool}{o:HO}{base:Heap}{G H H' H1:Hp}{i j:Int}{kvs:List (Key×V)}{D:List Addr}{ns pd pend pt ts:List Int}{K L loose:List Str}{ds us xs ys:List V}{B N p:Nat}{s0 s1 s2 s3 s4 s5 s6 s7 s8:Sp}{Z:St}{k q:Str}{ot ot':Str->Option V}{v y:V}{Q:VK}{E:XK}{mg:q0C}
local macro_rules | `(tactic| exists $ts,*) => `(tactic| wp_walk using $ts,*)
set_option hygiene false in
local macro_rules | `(tactic| nomatch $a) => `(tactic| refine ($a).ok (fun vs H Q E h => ?_) (fun cdv A outer s H vs Q E hr sc h => ?_))
set_option hygiene false in
local macro_rules | `(tactic| nomatch $a, 0) => `(tactic| (refine ⟨_, $a, ?_⟩; clear sc; try dsimp only [Lake.start, C6, IM, List.cons_append, List.nil_append, List.replicate_succ, List.replicate_zero, List.length_cons, List.length_nil, Nat.reduceAdd, Nat.reduceSub, Nat.zero_add]))
set_option hygiene false in
local macro_rules | `(tactic| left) => `(tactic| (refine bU fun R0 hR0 => ?_; try dsimp only))
set_option hygiene false in
local macro_rules | `(tactic| right) => `(tactic| (refine hR0 _ _ ?_; clear hR0; try clear R0))
local macro_rules | `(tactic| and_intros) => `(tactic| try dsimp only [Lake.start, C6, IM, List.cons_append, List.nil_append, List.replicate_succ, List.replicate_zero, List.length_cons, List.length_nil, Nat.reduceAdd, Nat.reduceSub, Nat.zero_add])
local macro_rules | `(tactic| infer_instance) => `(tactic| first | exact ⟨rfl, by first | exact Or.inl rfl | exact Or.inr (Or.inl rfl) | exact Or.inr (Or.inr rfl), by decide, by decide⟩ | exact ⟨rfl, rfl, rfl, by decide +kernel, rfl, by decide +kernel, by decide +kernel⟩)
seal PE PA PT PW PS VW PI PG PGs XG PO PPs
mutual
example:=[]
inductive A5(p0 p1 p2 p3 p4:Prop):Prop
 | mk (_:p0) (_:p1) (_:p2) (_:p3) (_:p4):A5 p0 p1 p2 p3 p4
inductive A6(p0 p1 p2 p3 p4 p5:Prop):Prop
 | mk (_:p0) (_:p1) (_:p2) (_:p3) (_:p4) (_:p5):A6 p0 p1 p2 p3 p4 p5
inductive A7(p0 p1 p2 p3 p4 p5 p6:Prop):Prop
 | mk (_:p0) (_:p1) (_:p2) (_:p3) (_:p4) (_:p5) (_:p6):A7 p0 p1 p2 p3 p4 p5 p6
inductive A15(p0 p1 p2 p3 p4 p5 p6 p7 p8 p9 p10 p11 p12 p13 p14:Prop):Prop
 | mk (_:p0) (_:p1) (_:p2) (_:p3) (_:p4) (_:p5) (_:p6) (_:p7) (_:p8) (_:p9) (_:p10) (_:p11) (_:p12) (_:p13) (_:p14):A15 p0 p1 p2 p3 p4 p5 p6 p7 p8 p9 p10 p11 p12 p13 p14
inductive E2{α0 α1:Type}(P:α0->α1->Prop):Prop
 | mk (a0:α0) (a1:α1) (_:P a0 a1):E2 P
inductive E5{α0 α1 α2 α3 α4:Type}(P:α0->α1->α2->α3->α4->Prop):Prop
 | mk (a0:α0) (a1:α1) (a2:α2) (a3:α3) (a4:α4) (_:P a0 a1 a2 a3 a4):E5 P
inductive E6{α0 α1 α2 α3 α4 α5:Type}(P:α0->α1->α2->α3->α4->α5->Prop):Prop
 | mk (a0:α0) (a1:α1) (a2:α2) (a3:α3) (a4:α4) (a5:α5) (_:P a0 a1 a2 a3 a4 a5):E6 P
inductive E7{α0 α1 α2 α3 α4 α5 α6:Type}(P:α0->α1->α2->α3->α4->α5->α6->Prop):Prop
 | mk (a0:α0) (a1:α1) (a2:α2) (a3:α3) (a4:α4) (a5:α5) (a6:α6) (_:P a0 a1 a2 a3 a4 a5 a6):E7 P
inductive E9{α0 α1 α2 α3 α4 α5 α6 α7 α8:Type}(P:α0->α1->α2->α3->α4->α5->α6->α7->α8->Prop):Prop
 | mk (a0:α0) (a1:α1) (a2:α2) (a3:α3) (a4:α4) (a5:α5) (a6:α6) (a7:α7) (a8:α8) (_:P a0 a1 a2 a3 a4 a5 a6 a7 a8):E9 P
inductive E11{α0 α1 α2 α3 α4 α5 α6 α7 α8 α9 α10:Type}(P:α0->α1->α2->α3->α4->α5->α6->α7->α8->α9->α10->Prop):Prop
 | mk (a0:α0) (a1:α1) (a2:α2) (a3:α3) (a4:α4) (a5:α5) (a6:α6) (a7:α7) (a8:α8) (a9:α9) (XY:α10) (_:P a0 a1 a2 a3 a4 a5 a6 a7 a8 a9 XY):E11 P
structure Ql(K:q0B)(x q:Str)(st:Stmt)(ns ps:List Str)(f:Addr)(d:FuncData)(M:Prop):Prop where
 fn:Fun K x q st f d
 bd:Binds K d ps []
 sc:mX ns ps (cU st)
 m:M
abbrev kO(K:q0B)(mg:q0C)(x:Str)(st:Stmt)(ns ps:List Str)(f:Addr)(d:FuncData):Prop:=Ql K x x st ns ps f d (mg x=some (.ref f))
abbrev mY(K:q0B)(C:Addr)(x q:Str)(st:Stmt)(ns ps:List Str)(f:Addr)(d:FuncData):Prop:=Ql K x q st ns ps f d (Meth K C x f)
end
section
open PySem.Spec PyProof.Rows
mutual
example:=[some (.ref f),.ref f,cU st,PySem.W.fnOf x x (iH st) (gB st) (cU st) .none kV doc pm an U9 ct,PySem.W.fnOf x q (iH st) (gB st) (cU st) .none kV doc pm an U9 ct,ps.zip us]
variable{P:Program}{w:World}{K:q0B}{h:Heap}{x:Str}{st:Stmt}{ns ps:List Str}{f:Addr}{d:FuncData}{M:Prop}{k:Nat}{sp:Sp}
def Ql.ok(g:Ql K x q st ns ps f d M)(len:∀vs H Q E,sp vs H Q E->vs.length=ps.length)(V6:∀(U9:Value) (A:Around) (outer:List Env) (s:Shared) (H:Hp) (vs:List V) (Q:VK) (E:XK),Room k (A.deeper (envOfC q 2e0 s.heap.objs.size f U9))->ns.Nodup->sp vs H Q E -> ∃t,VW (Ae VD P w K mg base ns q 2e0 f U9 A outer s H E).nox (gB st) t/\t {nx:=λ_ H'=>Q .UL H',rt:=Q} (start ns vs) H):gH P w K mg base VD (k+1) f d ps sp:=g.fn.ok g.sc len λU9 A outer s H vs Q E hr h=>V6 U9 A outer s H vs Q E hr g.sc.nd h
def b0{P:List Value->Prop}(h:P []):∀us:List Value,us.length=0->P us:=λus e=>by rw[List.length_eq_zero_iff.mp e];exact h
theorem bS{P:List Value->Prop}{n:Nat}(h:∀a,∀us:List Value,us.length=n->P (a::us)):∀us:List Value,us.length=n+1->P us
 | [],e=>by cases e
 | a::us,e=>h a us (Nat.succ.inj e)
structure Gf0(K:q0B)(x:Str)(st:Stmt)(f:Addr)(d:FuncData):Prop where
 a:PySem.W.nsIn K mainGlobals x=some 0e0
 F:Fun K x x st f d
structure Gm0(K:q0B)(C:Addr)(x q:Str)(st:Stmt)(f:Addr)(d:FuncData):Prop where
 a:PySem.W.findIn K (.ref C) x=some 0e0
 i:PySem.W.isFn K 1e0=true
 F:Fun K x q st f d
def Rx{oc:Value}{od an:Option Addr}{kV doc pm U9 ct:Value}(a:PySem.W.nsIn K mainGlobals x=some 0e0)(l:K.lookup f=some ⟨oc,od,.func 3e0,Xf⟩)(c:PySem.W.codeIn K U9 x=true)(k:PySem.W.keepIn K 1e0=true):Gf0 K x st f 3e0:=⟨a,Io l c k⟩
def Ry{oc:Value}{od an:Option Addr}{kV doc pm U9 ct:Value}(a:PySem.W.findIn K (.ref C) x=some 0e0)(i:PySem.W.isFn K 1e0=true)(l:K.lookup f=some ⟨oc,od,.func 4e0,Xf⟩)(c:PySem.W.codeIn K U9 q=true)(k:PySem.W.keepIn K 1e0=true):Gm0 K C x q st f 4e0:=⟨a,i,Io l c k⟩
def Gf0.go(F:Gf0 K x st f d)(X:K.In h)(G:h.Ns mainGlobals mg)(b:∀(kV doc pm:Value) (an:Option Addr) (U9 ct:Value) (us:List Value),us.length=ps.length->bindArgs 3e0 ⟨us,[]⟩=pure 5e0:=by trivial)(sc:mX ns ps 2e0:=by infer_instance):kO K mg x st ns ps f d:=⟨F.F,F.F.binds b,sc,PySem.W.mg_of X G F.a⟩
def Gm0.go(F:Gm0 K C x q st f d)(b:∀(kV doc pm:Value) (an:Option Addr) (U9 ct:Value) (us:List Value),us.length=ps.length->bindArgs 4e0 ⟨us,[]⟩=pure 5e0:=by trivial)(sc:mX ns ps 2e0:=by infer_instance):mY K C x q st ns ps f d:=⟨F.F,F.F.binds b,sc,F.a,F.i,F.F.kp⟩
end
end
section
open PySem.Spec PyProof.Rows
mutual
example:=[.Name x pos,e::es,.Attribute o m apos,Mu r ta tb,backToKw pos (keywordEach [] X.env),.Compare a [op] [b] pos,x==("__debug__":Str),starEach es X.env,getMethod ov m pl,compareOp op]
variable{X:Cx}{x:Str}{p pos:Pos}{e o:Expr}{es:List Expr}{t:TA}{k:Nat}{f:Addr}{fd:FuncData}{ns ps:List Str}{sp:Sp}{st:Stmt}{ta td ty te tb tv:TE}{a b i value:Expr}
theorem pcl(F:gH X.prog X.w X.K X.mg X.base VD k f fd ps sp)(g:kO X.K X.mg x st ns ps f fd)(ha:PA X 1e0 t)(hr:Room k X.A:=by trivial)(hg:Gl X x:=by rfl)(Xw:6e0=false:=by decide)(he:starEach 1e0 X.env=(false,eval e X.env)::starEach es X.env:=by rfl)(Vm:(backTo pos 7e0).any (·.1)=false:=by rfl) : PE X (.Call (.Name x p) 1e0 [] pos) (Ho sp t):=(Az F hr hg g.m g.fn.kp g.bd .nil pass0 ha Xw he Vm).cC
def pmt{m:Str}{apos:Pos}{pl:Sem Bool}(he:PE X o ta)(c:Cls X.K C)(F:gH X.prog X.w X.K X.mg X.base VD k f fd ps sp)(g:mY X.K C m q st ns ps f fd)(ha:PA X 1e0 t)(hr:Room k X.A:=by trivial)
    (UY:starEach 1e0 X.env=(false,eval e X.env)::starEach es X.env:=by rfl) (Vm:(backTo pos 7e0).any (·.1)=false:=by rfl)
    (ht:eval (.Call 2e0 1e0 [] pos) X.env=(do
      let ov <- eval o X.env
      standAt apos.atName
      let (f,first) <- holding [ov] 8e0
      callWith pos f first (backTo pos (starEach 1e0 X.env)) 4e0):=by rfl) :
    PE X (.Call 2e0 1e0 [] pos) (Bd C m sp ta t):=(AB he c g.m F hr g.bd .nil pass0 ha UY Vm ht).cM
def pmt0{m:Str}{apos:Pos}{pl:Sem Bool}(he:PE X o ta)(c:Cls X.K C)(F:gH X.prog X.w X.K X.mg X.base VD k f fd ps sp)(g:mY X.K C m q st ns ps f fd)(hr:Room k X.A:=by trivial)
    (ht:eval (.Call 2e0 [] [] pos) X.env=(do
      let ov <- eval o X.env
      standAt apos.atName
      let (f,first) <- holding [ov] 8e0
      callWith pos f first (backTo pos (starEach [] X.env)) 4e0):=by rfl) :
    PE X (.Call 2e0 [] [] pos) (Bd C m sp ta xN):=(Jr he c g.m F hr g.bd .nil pass0 ht).cM
def pst{pos':Pos}(i:Nat)(he:PE X e te)(hN:X.N.Nodup:=by trivial)(hi:X.N[i]?=some x:=by rfl)(hx:Loc X.env.scope x:=by trivial)(hs:swapsWith e (some (.Name x pos')) pos.line X.env=pure false:=by rfl)(hf:X.fn x=true\/X.env.scope.names.lookup x=some .local:=by trivial) : PS X (.Assign [.Name x pos'] e pos) (GV te (jU i)):=AF hN hi hx he hs hf
def pgn(i:Nat)(hN:X.N.Nodup:=by trivial)(hi:X.N[i]?=some x:=by rfl)(hx:Loc X.env.scope x:=by trivial)(hf:X.fn x=true\/X.env.scope.names.lookup x=some .local:=by trivial):PG X 0e0 (jU i):=tT hN hi hx hf
def pdg(ho:PE X o td)(hi:PE X i ty)(hs:Ku i:=by trivial)(hu:X.A.units+1 < cLine:=by trivial):PE X (.Subscript o i pos) (Ny td ty):=mM hu ho hi hs
def ppt{pos':Pos}(ho:PE X o td)(hi:PE X i ty)(hv:PE X value tv)(hs:swapsWith value (some (.Subscript o i pos')) pos.line X.env=pure false:=by rfl)(hu:X.A.units+1 < cLine:=by trivial) : PS X (.Assign [.Subscript o i pos'] value pos) (NG td ty tv):=L7 hu ho hi hv hs
def ptc{op:CmpOp}{r:R2}(ho:jR X 9e0 r)(ha:PE X a ta)(hb:PE X b tb)(hm:behindInMarks op b=false:=by trivial):PT X 5e0 (DS 3e0):=(dQ ho ha hb hm).cT
def pcr{op:CmpOp}{r:R2}(ho:jR X 9e0 r)(ha:PE X a ta)(hb:PE X b tb)(hm:behindInMarks op b=false:=by trivial):PE X 5e0 3e0:=L0 ho ha hb hm
def pix{r:R2}(hr:DN X r)(ha:PE X a ta)(hb:PE X b tb)(hs:DO b:=by trivial):PE X (.Subscript a b pos) 3e0:=RY hr ha hb hs
def pa1{t1:TE}{e1:Expr}(a:PE X e1 t1)(i:mB e1=false:=by rfl):PA X [e1] (mV t1 xN):=dJ a bO i
def pa2{t1 t2:TE}{e1 e2:Expr}(a:PE X e1 t1)(b:PE X e2 t2)(i:mB e1=false:=by rfl)(j:mB e2=false:=by rfl):PA X [e1,e2] (mV t1 (mV t2 xN)):=dJ a (pa1 b j) i
def pa3{t1 t2 t3:TE}{e1 e2 e3:Expr}(a:PE X e1 t1)(b:PE X e2 t2)(c:PE X e3 t3)(i:mB e1=false:=by rfl)(j:mB e2=false:=by rfl)(k:mB e3=false:=by rfl):PA X [e1,e2,e3] (mV t1 (mV t2 (mV t3 xN))):=dJ a (pa2 b c j k) i
def pss2{s1 s2:Stmt}{t1 t2:TS}(a:PS X s1 t1)(b:PS X s2 t2):VW X [s1,s2] (DD t1 t2):=aG a (aI b)
def pss3{s1 s2 s3:Stmt}{t1 t2 t3:TS}(a:PS X s1 t1)(b:PS X s2 t2)(c:PS X s3 t3):VW X [s1,s2,s3] (DD t1 (DD t2 t3)):=aG a (pss2 b c)
def pif{c:Expr}{l:List Stmt}{tc:TT}{t1:TS}(hc:PT X c tc)(ha:VW X l t1):PS X (.If c l [] pos) (Cy tc t1 Fi):=fY hc ha L9
def Pk(X:Cx)(i:Nat)(x:Str):Prop:=X.N[i]?=some x/\Vis X.env.scope x/\6e0=false/\(x==("__classdict__":Str))=false
def pv0(h:Pk X 0 x:=by infer_instance):PE X 0e0 (j9 0):=(lB h.1 h.2.1 h.2.2.1 h.2.2.2).cV
def pv1(h:Pk X 1 x:=by infer_instance):PE X 0e0 (j9 1):=(lB h.1 h.2.1 h.2.2.1 h.2.2.2).cV
def pv2(h:Pk X 2 x:=by infer_instance):PE X 0e0 (j9 2):=(lB h.1 h.2.1 h.2.2.1 h.2.2.2).cV
def pv3(h:Pk X 3 x:=by infer_instance):PE X 0e0 (j9 3):=(lB h.1 h.2.1 h.2.2.1 h.2.2.2).cV
def pv4(h:Pk X 4 x:=by infer_instance):PE X 0e0 (j9 4):=(lB h.1 h.2.1 h.2.2.1 h.2.2.2).cV
def pv5(h:Pk X 5 x:=by infer_instance):PE X 0e0 (j9 5):=(lB h.1 h.2.1 h.2.2.1 h.2.2.2).cV
def pv6(h:Pk X 6 x:=by infer_instance):PE X 0e0 (j9 6):=(lB h.1 h.2.1 h.2.2.1 h.2.2.2).cV
def pv7(h:Pk X 7 x:=by infer_instance):PE X 0e0 (j9 7):=(lB h.1 h.2.1 h.2.2.1 h.2.2.2).cV
end
end
def top(i:Nat):Stmt:=PySem.Challenge.pw_outlast_k20_whole_alike_states_go_on_ali.main.body.getD i (.Pass ⟨0,0,0,0⟩)
mutual
example:=[top 25,k _ _ e,top 11,.ref a,top 13,ev p s,(if n < 1000000000 then n else 1000000000),(if num a < num b then (1:Int) else 0),(if num (ev p s)=0 then 1 else 0),(.int (if b=true then 1 else 0)),(if a=b then (1:Int) else 0),some (.ref (t.a 21)),.int (clamp n),.int (num w),(by decide)]
abbrev JC:Stmt:=top 4
abbrev zS:Stmt:=top 6
abbrev Ce:Stmt:=top 7
abbrev wZ:Stmt:=top 8
abbrev oI:Stmt:=top 9
abbrev oF:Stmt:=bW 2e0 0
abbrev oG:Stmt:=bW 2e0 1
abbrev lR:Stmt:=bW 2e0 2
abbrev jO:Stmt:=bW 2e0 3
abbrev lQ:Stmt:=bW 2e0 4
abbrev oH:Stmt:=bW 2e0 5
abbrev kL:Stmt:=bW 2e0 6
abbrev jN:Stmt:=bW 2e0 7
abbrev wU:Stmt:=bW 4e0 0
abbrev qE:Stmt:=bW 4e0 1
abbrev mR:Stmt:=bW 4e0 2
abbrev qF:Stmt:=bW 4e0 3
abbrev sM:Stmt:=bW 4e0 4
abbrev sN:Stmt:=bW 4e0 5
abbrev sO:Stmt:=bW 4e0 6
abbrev EK:Stmt:=top 16
abbrev zK:Stmt:=top 17
abbrev zL:Stmt:=top 18
abbrev Cc:Stmt:=top 19
abbrev Ca:Stmt:=top 20
abbrev Cd:Stmt:=top 21
abbrev Cb:Stmt:=top 22
abbrev EJ:Stmt:=top 23
abbrev zG:Stmt:=bW 0e0 0
abbrev wQ:Stmt:=bW 0e0 1
abbrev kK:Stmt:=bW 0e0 2
abbrev wO:Stmt:=bW 0e0 3
abbrev zI:Stmt:=bW 0e0 4
abbrev lO:Stmt:=bW 0e0 5
abbrev oE:Stmt:=bW 0e0 6
abbrev lP:Stmt:=bW 0e0 7
abbrev zJ:Stmt:=bW 0e0 8
abbrev zF:Stmt:=bW 0e0 9
abbrev wN:Stmt:=bW 0e0 10
abbrev zH:Stmt:=bW 0e0 11
abbrev B9:Stmt:=bW 0e0 12
abbrev qD:Stmt:=bW 0e0 13
abbrev wR:Stmt:=bW 0e0 14
abbrev mQ:Stmt:=bW 0e0 15
abbrev zM:Stmt:=top 28
abbrev zQ:Stmt:=top 29
abbrev zO:Stmt:=top 30
abbrev wY:Stmt:=top 31
abbrev sS:Stmt:=top 32
abbrev wW:Stmt:=top 33
abbrev sU:Stmt:=top 34
abbrev sP:Stmt:=top 35
abbrev qI:Stmt:=top 36
abbrev qG:Stmt:=top 37
abbrev zR:Stmt:=top 38
abbrev zN:Stmt:=top 39
abbrev Cf:Stmt:=top 40
abbrev sV:Stmt:=top 41
abbrev wV:Stmt:=top 42
abbrev qH:Stmt:=top 43
abbrev sR:Stmt:=top 44
abbrev sQ:Stmt:=top 45
abbrev EL:Stmt:=top 46
abbrev lT:Stmt:=top 47
abbrev wX:Stmt:=top 48
abbrev mS:Stmt:=top 50
abbrev Cg:Stmt:=top 51
abbrev zP:Stmt:=top 52
abbrev MV:Stmt:=top 53
set_option genSizeOf false in
structure Ad where
 a:Nat->Addr
 d:Nat->FuncData
 vE:Tok
 sZ:Tok
 Bx:Tok
 iS:Addr
 aJ:Addr
 aP:Addr
 aO:Addr
variable{t:Ad}
def Si(K:q0B)(mg:q0C)(t:Ad):List Prop:=[kO K mg "kept" JC ["number"] ["number"] (t.a 0) (t.d 0),kO K mg "worth_of" zS ["saying","names","arg","now","answers","kind","one","other"] ["saying","names","arg","now","answers"] (t.a 1) (t.d 1),kO K mg "joined" Ce ["sign","one","other","left","right"] ["sign","one","other"] (t.a 2) (t.d 2),kO K mg "number_of" wZ ["worth"] ["worth"] (t.a 3) (t.d 3),kO K mg "one_or_nought" oI ["truth"] ["truth"] (t.a 4) (t.d 4),mY K t.aJ "__init__" "Tickets.__init__" oF ["self"] ["self"] (t.a 5) (t.d 5),mY K t.aJ "make" "Tickets.make" oG ["self","ticket"] ["self"] (t.a 6) (t.d 6),mY K t.aJ "is_open" "Tickets.is_open" lR ["self","ticket"] ["self","ticket"] (t.a 7) (t.d 7),mY K t.aJ "those_open" "Tickets.those_open" jO ["self"] ["self"] (t.a 8) (t.d 8),mY K t.aJ "finish" "Tickets.finish" lQ ["self","ticket","worth"] ["self","ticket","worth"] (t.a 9) (t.d 9),mY K t.aJ "shut" "Tickets.shut" oH ["self","ticket"] ["self","ticket"] (t.a 10) (t.d 10),mY K t.aJ "shut_all" "Tickets.shut_all" kL ["self"] ["self"] (t.a 11) (t.d 11),mY K t.aJ "first_done" "Tickets.first_done" jN ["self","worths","tickets"] ["self","worths"] (t.a 12) (t.d 12),mY K t.aP "__init__" "Walk.__init__" wU ["self","program"] ["self","program"] (t.a 13) (t.d 13),mY K t.aP "come_to" "Walk.come_to" qE ["self"] ["self"] (t.a 14) (t.d 14),mY K t.aP "stands_at" "Walk.stands_at" mR ["self"] ["self"] (t.a 15) (t.d 15),mY K t.aP "pass_by" "Walk.pass_by" qF ["self"] ["self"] (t.a 16) (t.d 16),mY K t.aP "enter" "Walk.enter" sM ["self","which"] ["self","which"] (t.a 17) (t.d 17),mY K t.aP "leave" "Walk.leave" sN ["self"] ["self"] (t.a 18) (t.d 18),mY K t.aP "place" "Walk.place" sO ["self"] ["self"] (t.a 19) (t.d 19),kO K mg "do_set" EK ["run","statement"] ["run","statement"] (t.a 20) (t.d 20),kO K mg "do_order" zK ["run","statement","worth","ticket"] ["run","statement"] (t.a 21) (t.d 21),kO K mg "do_timer" zL ["run","statement","worth","due","ticket"] ["run","statement"] (t.a 22) (t.d 22),kO K mg "do_send" Cc ["run","statement"] ["run","statement"] (t.a 23) (t.d 23),kO K mg "do_drop" Ca ["run","statement","ticket"] ["run","statement"] (t.a 24) (t.d 24),kO K mg "do_wait" Cd ["run","statement","worths","ticket","pending"] ["run","statement"] (t.a 25) (t.d 25),kO K mg "do_hear" Cb ["run","statement","worths"] ["run","statement"] (t.a 26) (t.d 26),kO K mg "do_end" EJ ["run","statement"] ["run","statement"] (t.a 27) (t.d 27),mY K t.aO "__init__" "Run.__init__" zG ["self","program"] ["self","program"] (t.a 28) (t.d 28),mY K t.aO "waits" "Run.waits" wQ ["self"] ["self"] (t.a 29) (t.d 29),mY K t.aO "open_tickets" "Run.open_tickets" kK ["self"] ["self"] (t.a 30) (t.d 30),mY K t.aO "state" "Run.state" wO ["self","names","letters"] ["self"] (t.a 31) (t.d 31),mY K t.aO "take" "Run.take" zI ["self","happening"] ["self","happening"] (t.a 32) (t.d 32),mY K t.aO "passes_over" "Run.passes_over" lO ["self","happening","kind"] ["self","happening"] (t.a 33) (t.d 33),mY K t.aO "take_done" "Run.take_done" oE ["self","ticket","worth"] ["self","ticket","worth"] (t.a 34) (t.d 34),mY K t.aO "take_letter" "Run.take_letter" lP ["self","key","worth"] ["self","key","worth"] (t.a 35) (t.d 35),mY K t.aO "wake" "Run.wake" zJ ["self","worth"] ["self","worth"] (t.a 36) (t.d 36),mY K t.aO "go_on" "Run.go_on" zF ["self","commands","many","statement"] ["self"] (t.a 37) (t.d 37),mY K t.aO "do_one" "Run.do_one" wN ["self","statement","kind","commands"] ["self","statement"] (t.a 38) (t.d 38),mY K t.aO "look" "Run.look" zH ["self","statement"] ["self","statement"] (t.a 39) (t.d 39),mY K t.aO "end" "Run.end" B9 ["self","worth"] ["self","worth"] (t.a 40) (t.d 40),mY K t.aO "wear_out" "Run.wear_out" qD ["self"] ["self"] (t.a 41) (t.d 41),mY K t.aO "worth" "Run.worth" wR ["self","saying"] ["self","saying"] (t.a 42) (t.d 42),mY K t.aO "new_ticket" "Run.new_ticket" mQ ["self","name","ticket"] ["self","name"] (t.a 43) (t.d 43),kO K mg "_law_deck" zM ["cell","turn"] ["cell","turn"] (t.a 44) (t.d 44),kO K mg "_law_pick" zQ ["deck","many","found","number"] ["deck","many"] (t.a 45) (t.d 45),kO K mg "_law_name" zO ["deck"] ["deck"] (t.a 46) (t.d 46),kO K mg "_law_worth" wY ["deck","kind"] ["deck"] (t.a 47) (t.d 47),kO K mg "_law_saying" sS ["deck","deep","kind","one"] ["deck","deep"] (t.a 48) (t.d 48),kO K mg "_law_plain" wW ["deck","kind"] ["deck"] (t.a 49) (t.d 49),kO K mg "_law_simple" sU ["deck","kind","sayings"] ["deck"] (t.a 50) (t.d 50),kO K mg "_law_closed" sP ["frames","head","first","second"] ["frames"] (t.a 51) (t.d 51),kO K mg "_law_program" qI ["cells","frames","cell","deck","kind"] ["cells"] (t.a 52) (t.d 52),kO K mg "_law_bounded" qG ["number"] ["number"] (t.a 53) (t.d 53),kO K mg "_law_says" zR ["saying","run","word","one","other","left","right"] ["saying","run"] (t.a 54) (t.d 54),kO K mg "_law_flat" zN ["block","path","code","k","here","word","at","over"] ["block","path","code"] (t.a 55) (t.d 55),kO K mg "_law_new" Cf ["program","code","run"] ["program"] (t.a 56) (t.d 56),kO K mg "_law_ticket" sV ["run","name"] ["run","name"] (t.a 57) (t.d 57),kO K mg "_law_ended" wV ["run","worth","orders"] ["run","worth","orders"] (t.a 58) (t.d 58),kO K mg "_law_do_plain" qH ["run","some","orders","word","worth","due"] ["run","some","orders"] (t.a 59) (t.d 59),kO K mg "_law_do_wait" sR ["run","some","worths","ready"] ["run","some"] (t.a 60) (t.d 60),kO K mg "_law_do_hear" sQ ["run","some"] ["run","some"] (t.a 61) (t.d 61),kO K mg "_law_go" EL ["run","orders","steps","word","some","path","where"] ["run","orders"] (t.a 62) (t.d 62),kO K mg "_law_goes_behind" lT ["run","worth","orders"] ["run","worth","orders"] (t.a 63) (t.d 63),kO K mg "_law_takes" wX ["run","happening","orders","word","moment"] ["run","happening"] (t.a 64) (t.d 64),kO K mg "_law_happening" mS ["deck","run","moment","kind","ticket","key"] ["deck","run"] (t.a 65) (t.d 65),kO K mg "_law_row" Cg ["program","cells","run","row","k","deck","happening"] ["program","cells"] (t.a 66) (t.d 66),kO K mg "_law_over" zP ["deck","model","moment"] ["deck","model"] (t.a 67) (t.d 67),kO K mg "law" MV ["script","program","row","model","one","other","states","k","deck","some","commands"] ["script"] (t.a 68) (t.d 68)]
structure Tx(P:Program)(w:World)(base:Heap)(K:q0B)(mg:q0C)(t:Ad):Prop where
 r:∀i,(Si K mg t).getD i True
 bG:Cls K t.aJ
 IL:mg "Tickets"=some (.ref t.aJ)
 rD:Mk K t.aJ (t.a 5)
 cY:Cls K t.aP
 RO:mg "Walk"=some (.ref t.aP)
 Dd:Mk K t.aP (t.a 13)
 aM:Cls K t.aO
 RN:mg "Run"=some (.ref t.aO)
 Et:Mk K t.aO (t.a 28)
 rE:eZ K t.aJ "made"
 gS:eZ K t.aJ "pending"
 gQ:eZ K t.aJ "answers"
 iQ:eZ K t.aP "blocks"
 fE:eZ K t.aP "numbers"
 jG:eZ K t.aO "walk"
 dH:eZ K t.aO "sleep"
 y9:eZ K t.aO "arg"
 pP:eZ K t.aO "now"
 gD:eZ K t.aO "names"
 cQ:eZ K t.aO "tickets"
 gR:eZ K t.aO "letters"
 lZ:mg "GREATEST_WORTH"=some (.int 1000000000 t.vE)
 sX:mg "GREATEST_MOMENT"=some (.int 1000000000000 t.sZ)
 Bc:mg "MOST_AT_ONCE"=some (.int 300 t.Bx)
 Nx:mg "DEEDS"=some (.ref t.iS)
 LR:Qm w.params K t.iS
 Gi:PySem.W.nsIn K t.iS "set"=some (some (.ref (t.a 20)))
 BE:PySem.W.nsIn K t.iS "order"=some 1e1
 BF:PySem.W.nsIn K t.iS "timer"=some (some (.ref (t.a 22)))
 BD:PySem.W.nsIn K t.iS "child"=some 1e1
 Dg:PySem.W.nsIn K t.iS "send"=some (some (.ref (t.a 23)))
 De:PySem.W.nsIn K t.iS "drop"=some (some (.ref (t.a 24)))
 Dh:PySem.W.nsIn K t.iS "wait"=some (some (.ref (t.a 25)))
 Df:PySem.W.nsIn K t.iS "hear"=some (some (.ref (t.a 26)))
 Gh:PySem.W.nsIn K t.iS "end"=some (some (.ref (t.a 27)))
 Kn:mg "dict"=none
 yJ:mg "int"=none
 lH:mg "len"=none
 A8:mg "max"=none
 Hc:mg "min"=none
 r8:mg "range"=none
 Fn:mg "repr"=none
 MB:mg "set"=none
 nS:mg "sorted"=none
 iB:mg "tuple"=none
abbrev Ok{P:Program}{w:World}{base:Heap}{K:q0B}{mg:q0C}{t:Ad}(_:Tx P w base K mg t){x q:Str}{st:Stmt}{ns ps:List Str}{f:Addr}{d:FuncData}{M:Prop}(_:Ql K x q st ns ps f d M)(n:Nat)(sp:Sp):Prop:=gH P w K mg base VD n f d ps sp
def UI{CX:CXT}{P:Program}{w:World}{K:q0B}{N:List Str}{sc:Scope}{f:Addr}{cd:Value}{A:Around}{o:List Env}{s:Shared}:(Ae CX P w K mg base N q sc f cd A o s H E).K=K:=rfl
def Uq{CX:CXT}{P:Program}{w:World}{K:q0B}{N:List Str}{sc:Scope}{f:Addr}{cd:Value}{A:Around}{o:List Env}{s:Shared}:(Ae CX P w K mg base N q sc f cd A o s H E).nox.K=K:=rfl
def small{n:Nat}(h:n<=1000):n<=sizeLine:=Nat.le_of_lt (small1000 h)
def Eu(h0:-(2 ^ 64) < i)(h1:i < 2 ^ 64):CMul i j:=.inl ⟨h0,h1⟩
structure Ut(H:Hp)(r:Addr):Prop where
 ex:∃c l f:Int,H r=some (.lst [.int c,.int l,.int f])/\0<=l/\l < 536870909
def clamp(n:Int):Int:=if 6e0 > -1000000000 then 6e0 else -1000000000
def Dx:Sp:=λvs H Q _=>∃n:Int,vs=[.int n]/\Q 2e1 H
def PX{n:Int}:Dx [.int n] H Q E=Q 2e1 H:=propext ⟨fun⟨_,e,h⟩=>by cases e;exact h,λh=>⟨_,rfl,h⟩⟩
theorem l7(n:Int):-1000000000<=clamp n/\clamp n<=1000000000:=by
 unfold clamp
 repeat' split
 all_goals omega
def kS:yR .UL .UL=true:=rfl
def kR:yR .UL (.int i)=false:=rfl
def kQ:yR (.int i) .UL=false:=rfl
abbrev Wo:=Option Int
variable{an ans l r:List (Int×Wo)}{lt ps:List (Str×List Wo)}{ws:List Wo}
set_option backward.eqns.nonrecursive false in
def wv:Wo->V
 | none=>.UL
 | some n=>.int n
def num(w:Wo):Int:=w.getD 0
def wk:Wo->Key
 | none=>.no
 | some n=>.inl n
def dU(w:Wo):Prop:=∀n,w=some n->-1000000000<=n/\n<=1000000000
theorem DL{a b:Wo}(h:wv a=wv b):a=b:=by cases a<;>cases b<;>simp_all [wv]
def Qi(w:Wo):jT (wv w)=some (wk w):=by cases w<;>rfl
def DM(w:Wo):(wv w=.UL)=(w=none):=by cases w<;>simp[wv]
def t7(w:Wo):eK (wv w)=true:=by cases w<;>rfl
def kF:dU none:=λ_ h=>nomatch h
def fL{n:Int}(h0:-1000000000<=n)(h1:n<=1000000000):dU (some n):=λm h=>by cases h;exact⟨h0,h1⟩
theorem vC{w:Wo}(h:dU w):-1000000000<=num w/\num w<=1000000000:=by
 cases w with
 | none=>exact⟨by decide,by decide⟩
 | some n=>exact h n rfl
def MZ:Sp:=λvs H Q _=>∃w:Wo,vs=[wv w]/\Q 3e1 H
def R8{w:Wo}:MZ [wv w] H Q E=Q 3e1 H :=
 propext ⟨fun⟨u,e,h⟩=>by simp only[List.cons.injEq,and_true] at e;rw[DL e];exact h,λh=>⟨w,rfl,h⟩⟩
def M9:Sp:=λvs H Q _=>∃b:Bool,vs=[.bl b]/\Q 9e0 H
def B7{b:Bool}:M9 [.bl b] H Q E=Q 9e0 H :=
 propext ⟨fun⟨u,e,h⟩=>by cases e;exact h,λh=>⟨b,rfl,h⟩⟩
inductive Sg where
 | add|sub|mul|lt|eq
set_option backward.eqns.nonrecursive false in
def Sg.s:Sg->Str
 | .add=>"+" | .sub=>"-" | .mul=>"*" | .lt=>"<" | .eq=>"="
def Sg.of(g:Sg)(a b:Wo):Int :=
 match g with
 | .add=>clamp (num a+num b) | .sub=>clamp (num a - num b) | .mul=>clamp (num a * num b) | .lt=>if num a < num b then 1 else 0 | .eq=>if a=b then 1 else 0
theorem Sg.MP(g:Sg)(a b:Wo):-1000000000<=g.of a b/\g.of a b<=1000000000:=by
 cases g
 ·exact l7 _
 ·exact l7 _
 ·exact l7 _
 ·show -1000000000<=7e0/\7e0<=1000000000;split<;>decide
 ·show -1000000000<=0e1/\0e1<=1000000000;split<;>decide
inductive Cm(vs:List V)(H:Hp)(Q:VK)(E:XK):Prop
 | mk (g:Sg) (a b:Wo) (_:vs=[.str g.s,wv a,wv b]) (_:dU a) (_:Q (.int (g.of a b)) H):Cm vs H Q E
inductive Say where
 | num (n:Int)|UL|name (x:Str)|arg|now|ans (s:Say)|neg (s:Say)|two (g:Sg) (a b:Say)
variable{ss:List Say}{h:Option (Bool×Say)}
inductive dE(H:Hp):V->Say->Prop
 | num {a:Addr} {n:Int}:H a=some (.tup [.str "number",.int n])->dE H 3e0 (.num n)
 | UL {a:Addr}:H a=some (.tup [.str "none"])->dE H 3e0 .UL
 | name {a:Addr} {x:Str}:H a=some (.tup [.str "name",.str x])->dE H 3e0 (.name x)
 | arg {a:Addr}:H a=some (.tup [.str "arg"])->dE H 3e0 .arg
 | now {a:Addr}:H a=some (.tup [.str "now"])->dE H 3e0 .now
 | ans {a:Addr} {v:V} {s:Say}:H a=some (.tup [.str "answer",v])->dE H v s->dE H 3e0 (.ans s)
 | neg {a:Addr} {v:V} {s:Say}:H a=some (.tup [.str "not",v])->dE H v s->dE H 3e0 (.neg s)
 | two {a:Addr} {v u:V} {g:Sg} {s r:Say}:H a=some (.tup [.str g.s,v,u])->dE H v s->dE H u r->dE H 3e0 (.two g s r)
def aD(H H':Hp):Prop:=∀a xs,H a=some (.tup xs)->H' a=some (.tup xs)
def dE.kp{s:Say}(h:dE H v s)(k:aD H H'):dE H' v s:=by
 induction h with
 | num e=>exact .num 1e0
 | UL e=>exact .UL 1e0
 | name e=>exact .name 1e0
 | arg e=>exact .arg 1e0
 | now e=>exact .now 1e0
 | ans e _ ih=>exact .ans 1e0 ih
 | neg e _ ih=>exact .neg 1e0 ih
 | two e _ _ i1 i2=>exact .two 1e0 i1 i2
def aD.of{S:List Addr}(k:Kp S H H')(h:∀a∈S,∃o,H a=some o/\∀xs,o≠.tup xs):aD H H':=λa xs e=>k a _ e λz=>by
 obtain⟨o,e',d⟩:=h a z;rw[e] at e';exact d xs (ϓ e').symm
def aD.new{p:Addr}(h:H p=none):aD H (UK H p o):=λa xs e=>by rw[aC (aF e h)];exact e
def aD.trans{H2:Hp}(a:aD H H1)(b:aD H1 H2):aD H H2:=λx xs e=>b x xs (a x xs e)
def Say.depth:Say->Nat
 | .ans s=>s.depth+1 | .neg s=>s.depth+1 | .two _ a b=>max a.depth b.depth+1 | .num _=>1 | .UL=>1 | .name _=>1 | .arg=>1 | .now=>1
def Say.ok:Say->Prop
 | .num n=>-1000000000<=n/\n<=1000000000 | .ans s=>s.ok | .neg s=>s.ok | .two _ a b=>a.ok/\b.ok|_=>True
def Say.nC(s:Say):1<=s.depth:=by cases s<;>simp[Say.depth]
structure Pl where
 nm:Str->Wo
 ar:Wo
 now:Int
 an:Wo->Wo
structure Pl.Ok(p:Pl):Prop where
 nm:∀x,dU (p.nm x)
 ar:dU p.ar
 an:∀w,dU (p.an w)
def ev(p:Pl):Say->Wo
 | .num n=>some n
 | .UL=>none
 | .name x=>p.nm x
 | .arg=>p.ar
 | .now=>some (clamp p.now)
 | .ans s=>p.an 5e0
 | .neg s=>some 8e0
 | .two g a b=>some (g.of (ev p a) (ev p b))
theorem Ea{p:Pl}(hp:p.Ok):∀{s:Say},s.ok->dU 5e0
 | .num n,h=>fL h.1 h.2
 | .UL,_=>kF
 | .name x,_=>hp.nm x
 | .arg,_=>hp.ar
 | .now,_=>fL (l7 _).1 (l7 _).2
 | .ans s,_=>hp.an _
 | .neg s,_=>by
  show dU (some 8e0);split<;>exact fL 4e1 4e1
 | .two g a b,_=>fL (g.MP _ _).1 (g.MP _ _).2
def Te(H:Hp)(d:Addr)(f:Str->Wo):Prop:=∃kvs,H d=some (.dK kvs)/\∀x,(aZ kvs (.inr x)).getD .UL=wv (f x)
def Ta(H:Hp)(d:Addr)(f:Wo->Wo):Prop:=∃kvs,H d=some (.dK kvs)/\∀w,(aZ kvs (wk w)).getD .UL=wv (f w)
inductive Mo(d:Nat)(vs:List V)(H:Hp)(Q:VK)(E:XK):Prop
 | mk (v:V) (dn da:Addr) (p:Pl) (s:Say) (_:vs=[v,.ref dn,wv p.ar,.int p.now,.ref da]) (_:dE H v s) (_:s.depth<=d) (_:s.ok) (_:Te H dn p.nm) (_:Ta H da p.an) (_:p.Ok) (_:Q (wv 5e0) H):Mo d vs H Q E
set_option genInjectivity true in
inductive Stm where
 | set (x:Str) (s:Say)|order (x y:Str) (s:Say)|UX (x:Str) (s:Say)|child (x y:Str) (s:Say)|send (s:Say) (k:Str) (r:Say)|drop (s:Say)
 | wait (x:Str) (ss:List Say)|UP (x k:Str)|fin (s:Say)|U4 (s:Say) (b:List Stm)|iff (s:Say) (b o:List Stm)
variable{P b bb ms:List Stm}
inductive gJ(H:Hp):List V->List Say->Prop
 | nil:gJ H [] []
 | cons {v:V} {vs:List V} {s:Say} {ss:List Say}:dE H v s->gJ H vs ss->gJ H (v::vs) (s::ss)
def gJ.kp{vs:List V}(h:gJ H vs ss)(k:aD H H'):gJ H' vs ss:=by
 induction h with
 | nil=>exact .nil
 | cons a _ ih=>exact .cons (a.kp k) ih
end
mutual
inductive cF(H:Hp):V->Stm->Prop
 | set {a:Addr} {x:Str} {v:V} {s:Say}:H a=some (.tup [.str "set",.str x,v])->dE H v s->cF H (.ref a) (.set x s)
 | order {a:Addr} {x y:Str} {v:V} {s:Say}:H a=some (.tup [.str "order",.str x,.str y,v])->dE H v s->cF H (.ref a) (.order x y s)
 | UX {a:Addr} {x:Str} {v:V} {s:Say}:H a=some (.tup [.str "timer",.str x,v])->dE H v s->cF H (.ref a) (.UX x s)
 | child {a:Addr} {x y:Str} {v:V} {s:Say}:H a=some (.tup [.str "child",.str x,.str y,v])->dE H v s->cF H (.ref a) (.child x y s)
 | send {a:Addr} {k:Str} {v u:V} {s r:Say}:H a=some (.tup [.str "send",v,.str k,u])->dE H v s->dE H u r->cF H (.ref a) (.send s k r)
 | drop {a:Addr} {v:V} {s:Say}:H a=some (.tup [.str "drop",v])->dE H v s->cF H (.ref a) (.drop s)
 | wait {a p:Addr} {x:Str} {vs:List V} {ss:List Say}:H a=some (.tup [.str "wait",.str x,.ref p])->H p=some (.tup vs)->gJ H vs ss->cF H (.ref a) (.wait x ss)
 | UP {a:Addr} {x k:Str}:H a=some (.tup [.str "hear",.str x,.str k])->cF H (.ref a) (.UP x k)
 | fin {a:Addr} {v:V} {s:Say}:H a=some (.tup [.str "end",v])->dE H v s->cF H (.ref a) (.fin s)
 | U4 {a p:Addr} {v:V} {s:Say} {vs:List V} {b:List Stm}:H a=some (.tup [.str "while",v,.ref p])->dE H v s->H p=some (.tup vs)->bY H vs b->cF H (.ref a) (.U4 s b)
 | iff {a p q:Addr} {v:V} {s:Say} {vs us:List V} {b o:List Stm}:H a=some (.tup [.str "if",v,.ref p,.ref q])->dE H v s->H p=some (.tup vs)->bY H vs b->H q=some (.tup us)->bY H us o->cF H (.ref a) (.iff s b o)
inductive bY(H:Hp):List V->List Stm->Prop
 | nil:bY H [] []
 | cons {v:V} {vs:List V} {x:Stm} {xs:List Stm}:cF H v x->bY H vs xs->bY H (v::vs) (x::xs)
end
def cF.kp(k:aD H H'){m:Stm}(h:cF H v m):cF H' v m :=
 cF.rec (motive_1:=λv m _=>cF H' v m) (motive_2:=λvs ms _=>bY H' vs ms)
  (λe s=>.set (k _ _ e) (s.kp k)) (λe s=>.order (k _ _ e) (s.kp k)) (λe s=>.UX (k _ _ e) (s.kp k)) (λe s=>.child (k _ _ e) (s.kp k))
  (λe s r=>.send (k _ _ e) (s.kp k) (r.kp k)) (λe s=>.drop (k _ _ e) (s.kp k)) (λe f s=>.wait (k _ _ e) (k _ _ f) (s.kp k)) (λe=>.UP (k _ _ e)) (λe s=>.fin (k _ _ e) (s.kp k))
  (λe s f _ b=>.U4 (k _ _ e) (s.kp k) (k _ _ f) b) (λe s f _ f' _ b b'=>.iff (k _ _ e) (s.kp k) (k _ _ f) b (k _ _ f') b') .nil (λ_ _ a b=>.cons a b) h
def bY.kp(k:aD H H'){vs:List V}(h:bY H vs ms):bY H' vs ms :=
 bY.rec (motive_1:=λv m _=>cF H' v m) (motive_2:=λvs ms _=>bY H' vs ms)
  (λe s=>.set (k _ _ e) (s.kp k)) (λe s=>.order (k _ _ e) (s.kp k)) (λe s=>.UX (k _ _ e) (s.kp k)) (λe s=>.child (k _ _ e) (s.kp k))
  (λe s r=>.send (k _ _ e) (s.kp k) (r.kp k)) (λe s=>.drop (k _ _ e) (s.kp k)) (λe f s=>.wait (k _ _ e) (k _ _ f) (s.kp k)) (λe=>.UP (k _ _ e)) (λe s=>.fin (k _ _ e) (s.kp k))
  (λe s f _ b=>.U4 (k _ _ e) (s.kp k) (k _ _ f) b) (λe s f _ f' _ b b'=>.iff (k _ _ e) (s.kp k) (k _ _ f) b (k _ _ f') b') .nil (λ_ _ a b=>.cons a b) h
mutual
noncomputable def Stm.dp:Stm->Nat
 | .U4 _ b=>oS b+1
 | .iff _ b o=>max (oS b) (oS o)+1
 | .set _ _=>0
 | .order _ _ _=>0
 | .UX _ _=>0
 | .child _ _ _=>0
 | .send _ _ _=>0
 | .drop _=>0
 | .wait _ _=>0
 | .UP _ _=>0
 | .fin _=>0
noncomputable def oS:List Stm->Nat
 | []=>0
 | m::ms=>max m.dp (oS ms)
end
mutual
example:=[Int×Wo,Str×Wo,S.worth s,Str×List Wo,((k,b,n)::r),jM pend,some i,Key×V,.inl i,bN st,.tup us,(by intro z;cases z),ss.map S.worth,(by simp),(pend.filter λj=>decide (j≠i)),(λz=>hj (Key.inr.inj z)),.lst (ws.map wv),cB l n w,(by rw[h]),.inr k,Key.inr.inj z,(l.any λp=>decide (p.1=n)),((Key.inl p.1,wv p.2)::iD r),(if z > 0 then z else 0),(by simpa using e),.ins C dx [],((k,b,n')::r)]
def bY.at{vs:List V}(h:bY H vs ms):∀{i:Nat} {x:V},vs[i]?=some x->∃m,ms[i]?=some m/\cF H x m:=by
 induction ms generalizing vs with
 | nil=>cases h;intro i x e;simp at e
 | cons m ms ih =>
  cases h with
  | cons a b =>
   intro i x e;cases i with
   | zero=>simp only[Ο,Υ] at e;subst e;exact⟨_,rfl,a⟩
   | succ i=>exact ih b 4e2
def bY.len{vs:List V}(h:bY H vs ms):ms.length=vs.length:=by
 induction ms generalizing vs with
 | nil=>cases h;rfl
 | cons m ms ih =>
  cases h with
  | cons a b=>simp[ih b]
def LI{ms:List Int}{i:Nat}(h:(ms.map V.int)[i]?=some y):∃z:Int,y=.int z:=by
 rw[ϖ] at h;cases e:ms[i]? with
 | none=>rw[e] at h;cases h
 | some z=>rw[e] at h;exact⟨z,(ϓ h).symm⟩
theorem yW(w:Wo):u7 (wv w) [.UL,.int 0]=decide (num w=0):=by
 cases w with
 | none=>rfl
 | some n =>
  by_cases h:n=0
  ·subst h;rfl
  ·have h':¬ (0=n):=λz=>h z.symm;simp[u7,wv,g8,iI,kS,kR,kQ,num,h,h']
theorem flat01:([.UL,.int 0]:List V).all eK=true:=by decide
def aD.nil(k:Kp [] H H'):aD H H':=λa xs e=>k a _ e 3e1
def _root_.Lake.Kp.iZ:Kp [a] H (UK H a o):=Kp.set 3e1
def jM(pend:List Int):List 7e0:=pend.map λi=>(.inl i,.bl true)
def iD(ans:List 0e0):List 7e0:=ans.map λp=>(.inl p.1,wv p.2)
structure i6(C:Addr)(H:Hp)(tk tx dp da:Addr)(made:Nat)(pend:List Int)(ans:List 0e0):Prop where
 ins:H tk=some (.ins C tx [("made",.int made),("pending",.ref dp),("answers",.ref da)])
 hp:H dp=some (.dK 5e0)
 ha:H da=some (.dK (iD ans))
 nda:dp≠da
 lt:∀i∈pend,0<=i/\i < made
 asc:pend.Pairwise (· < ·)
 la:∀p∈ans,0<=p.1/\p.1 < made
 dis:∀p∈ans,p.1∉pend
 small:made<=1000000
def i6.n1{tk tx dp da:Addr}{made:Nat}(T:i6 C H tk tx dp da made pend ans):tk≠dp/\tk≠da:=⟨c0 T.ins T.hp 1e1,c0 T.ins T.ha 1e1⟩
def i6.kp{tk tx dp da:Addr}{made:Nat}(T:i6 C H tk tx dp da made pend ans)(k:Kp [] H H'):i6 C H' tk tx dp da made pend ans :=
 ⟨k.at T.ins,k.at T.hp,k.at T.ha,T.nda,T.lt,T.asc,T.la,T.dis,T.small⟩
theorem wI(pend:List Int)(w:Wo):(aZ 5e0 (wk w)).isSome=decide (∃i∈pend,w=some i):=by
 induction pend with
 | nil=>simp[jM,xQ]
 | cons i r ih =>
  have e:jM (i::r)=(Key.inl i,V.bl true)::jM r:=rfl;rw[e];by_cases h:w=some i
  ·subst h;rw[show wk 6e0=Key.inl i from rfl,cL rfl];simp
  ·rw[cD (λz=>h (by cases w with
    | none=>cases z
    | some j=>cases z;rfl)),ih]
   simp[h]
theorem GC(pend:List Int)(i:Int):sD 5e0 8e0=jM 4e1:=by
 unfold sD jM;rw[List.filter_map]
 congr 1
 apply List.filter_congr;intro j _;simp
def GD(pend:List Int):intKeys 5e0=some pend:=by
 induction pend with
 | nil=>rfl
 | cons i r ih =>
  show(intKeys (jM r)).map (i::·)=_;rw[ih];rfl
theorem GF(h:i∉pend):aZ 5e0 8e0=none:=by
 have:=wI pend 6e0;rw[show decide (∃j∈pend,some i=some j)=false by simp[h]] at this;cases e:aZ 5e0 8e0 with
 | none=>rfl
 | some v=>rw[show wk 6e0=.inl i from rfl,e] at this;cases this
theorem GG(h:i∈pend):∃v,aZ 5e0 8e0=some v:=by
 have:=wI pend 6e0;rw[show decide (∃j∈pend,some i=some j)=true by simpa using h] at this;exact Δ5.mp this
def Hl(h:∀p∈ans,p.1≠i):aZ (iD ans) 8e0=none:=by
 induction ans with
 | nil=>rfl
 | cons p r ih =>
  have e:iD (p::r)=(Key.inl p.1,wv p.2)::iD r:=rfl;rw[e,cD (λz=>h p 3e1 (by cases z;rfl)),ih λq hq=>h q (Ρ _ hq)]
def mU{a b:List Int}(p:a.Perm b)(ha:a.Pairwise (·<=·))(hb:b.Pairwise (· < ·)):a=b :=
 List.Perm.eq_of_pairwise (λx y _ _ h1 h2=>Int.le_antisymm h1 h2) ha (hb.imp λh=>Int.le_of_lt h) p
inductive xF(C:Addr)(vs:List V)(H:Hp)(Q:VK)(E:XK):Prop
 | mk (x dx:Addr) (_:vs=[.ref x]) (_:H x=some 5e2) (_:∀(dp da:Addr) (H':Hp),H dp=none->H da=none->i6 C H' x dx dp da 0 [] []->Kp [x] H H'->Q .UL H'):xF C vs H Q E
inductive Co(C:Addr)(vs:List V)(H:Hp)(Q:VK)(E:XK):Prop
 | mk (tk tx dp da:Addr) (made:Nat) (pend:List Int) (ans:List 0e0) (_:vs=[.ref tk]) (_:i6 C H tk tx dp da made pend ans) (_:made < 1000000) (_:pend.length < 1000000) (_:∀H',i6 C H' tk tx dp da (made+1) (pend++[(made:Int)]) ans->Kp [tk,dp] H H'->Q (.int made) H'):Co C vs H Q E
inductive Cp(C:Addr)(vs:List V)(H:Hp)(Q:VK)(E:XK):Prop
 | mk (tk tx dp da:Addr) (made:Nat) (pend:List Int) (ans:List 0e0) (w:Wo) (_:vs=[.ref tk,wv w]) (_:i6 C H tk tx dp da made pend ans) (_:Q (.bl (decide (∃i∈pend,w=some i))) H):Cp C vs H Q E
inductive zU(C:Addr)(vs:List V)(H:Hp)(Q:VK)(E:XK):Prop
 | mk (tk tx dp da:Addr) (made:Nat) (pend:List Int) (ans:List 0e0) (_:vs=[.ref tk]) (_:i6 C H tk tx dp da made pend ans) (_:pend.length<=1000000) (_:∀l,H l=none->Q (.ref l) (UK H l (.lst (pend.map V.int)))):zU C vs H Q E
inductive Cq(C:Addr)(vs:List V)(H:Hp)(Q:VK)(E:XK):Prop
 | mk (tk tx dp da:Addr) (made:Nat) (pend:List Int) (ans:List 0e0) (i:Int) (_:vs=[.ref tk,.int i]) (_:i6 C H tk tx dp da made pend ans) (_:i∈pend) (_:∀H',i6 C H' tk tx dp da made 4e1 ans->Kp [dp] H H'->Q .UL H'):Cq C vs H Q E
inductive xE(C:Addr)(vs:List V)(H:Hp)(Q:VK)(E:XK):Prop
 | mk (tk tx dp da:Addr) (made:Nat) (pend:List Int) (ans:List 0e0) (i:Int) (w:Wo) (_:vs=[.ref tk,.int i,wv w]) (_:i6 C H tk tx dp da made pend ans) (_:i∈pend) (_:ans.length < 1000000) (_:∀H',i6 C H' tk tx dp da made 4e1 (ans++[(i,w)])->Kp [dp,da] H H'->Q .UL H'):xE C vs H Q E
inductive E3(C:Addr)(vs:List V)(H:Hp)(Q:VK)(E:XK):Prop
 | mk (tk tx dp da:Addr) (made:Nat) (pend:List Int) (ans:List 0e0) (_:vs=[.ref tk]) (_:i6 C H tk tx dp da made pend ans) (_:∀H',i6 C H' tk tx dp da made [] ans->Kp [dp] H H'->Q .UL H'):E3 C vs H Q E
abbrev Stk:=List (Nat×List Stm×Nat)
variable{st:Stk}
def bX:Stk->List Int
 | []=>[]
 | [(_,_,n)]=>[(n:Int)]
 | (k,_,n)::r=>bX r++[(k:Int),(n:Int)]
inductive gG(H:Hp):List V->Stk->Prop
 | one {p:Addr} {us:List V} {k n:Nat} {b:List Stm}:H p=some 0e1->bY H us b->gG H [.ref p] [(k,b,n)]
 | cons {p:Addr} {us vs:List V} {k n:Nat} {b:List Stm} {r:Stk}:gG H vs r->H p=some 0e1->bY H us b->gG H (vs++[.ref p]) 4e0
def gG.kp{vs:List V}(h:gG H vs st)(k:aD H H'):gG H' vs st:=by
 induction h with
 | one e s=>exact .one (k _ _ e) (s.kp k)
 | cons _ e s ih=>exact .cons ih (k _ _ e) (s.kp k)
def gG.len{vs:List V}(h:gG H vs st):vs.length=st.length/\1<=st.length:=by
 induction h with
 | one=>exact⟨rfl,Ζ _⟩
 | cons _ _ _ ih=>simp[ih.1]
def gG.last{vs:List V}{k n:Nat}{r:Stk}(h:gG H vs 4e0):∃(ws:List V) (p:Addr) (us:List V),vs=ws++[.ref p]/\H p=some 0e1/\bY H us b/\(r≠[]->gG H ws r)/\(r=[]->ws=[]):=by
 cases h with
 | one e s=>exact⟨[],_,_,rfl,e,s,λz=>absurd rfl z,λ_=>rfl⟩
 | @cons p us vs k n b r hr e s=>exact⟨vs,_,_,rfl,e,s,λ_=>hr,λz=>by subst z;cases hr⟩
def gG.turn{vs:List V}{k n n':Nat}{r:Stk}(h:gG H vs 4e0):gG H vs 6e2:=by
 cases h with
 | one e s=>exact .one e s
 | cons hr e s=>exact .cons hr e s
def rJ(k n:Nat)(b:List Stm)(r:Stk):∃l,bX 4e0=l++[(n:Int)]/\∀n',bX 6e2=l++[((n':Nat):Int)]:=by
 cases r with
 | nil=>exact⟨[],rfl,λ_=>rfl⟩
 | cons x r=>exact⟨bX (x::r)++[(k:Int)],by simp[bX],λn'=>by simp[bX]⟩
def nL(k:Nat)(b:List Stm)(n:Nat)(x:Nat×List Stm×Nat)(r:Stk):bX ((k,b,n)::x::r)=bX (x::r)++[(k:Int),(n:Int)]:=rfl
structure jS(C:Addr)(H:Hp)(wk wx lb ln:Addr)(st:Stk):Prop where
 ins:H wk=some (.ins C wx [("blocks",.ref lb),("numbers",.ref ln)])
 bl:∃vs,H lb=some (.lst vs)/\gG H vs st
 nu:H ln=some (.lst ((bX st).map V.int))
 ne:lb≠ln
 U2:st.length<=100
set_option backward.eqns.nonrecursive false in
def fP:Stk->Stk
 | (k,b,n)::r=>(k,b,n+1)::r
 | []=>[]
inductive xH(C:Addr)(vs:List V)(H:Hp)(Q:VK)(E:XK):Prop
 | mk (wk wx lb ln:Addr) (k n:Nat) (b:List Stm) (r:Stk) (m:Stm) (_:vs=[.ref wk]) (_:jS C H wk wx lb ln 4e0) (_:b[n]?=some m) (_:∀v,cF H v m->Q v H):xH C vs H Q E
inductive qM(C:Addr)(vs:List V)(H:Hp)(Q:VK)(E:XK):Prop
 | mk (wk wx lb ln:Addr) (k n:Nat) (b:List Stm) (r:Stk) (_:vs=[.ref wk]) (_:jS C H wk wx lb ln 4e0) (_:∀H',jS C H' wk wx lb ln ((k,b,n+1)::r)->Kp [ln] H H'->Q .UL H'):qM C vs H Q E
inductive xG(C:Addr)(vs:List V)(H:Hp)(Q:VK)(E:XK):Prop
 | mk (x dx p:Addr) (us:List V) (b:List Stm) (_:vs=[.ref x,.ref p]) (_:H x=some 5e2) (_:H p=some 0e1) (_:bY H us b) (_:∀(lb ln:Addr) (H':Hp),H lb=none->H ln=none->jS C H' x dx lb ln [(0,b,0)]->Kp [x] H H'->Q .UL H'):xG C vs H Q E
def Stm.sub:Stm->Nat->Option (List Stm)
 | .U4 _ b,0=>some b
 | .iff _ b _,0=>some b
 | .iff _ _ o,1=>some o
 | _,_=>none
set_option backward.eqns.nonrecursive false in
def Stm.Ak:Stm->Bool
 | .iff _ _ _=>true
 | _=>false
inductive rV(C:Addr)(vs:List V)(H:Hp)(Q:VK)(E:XK):Prop
 | mk (wk wx lb ln:Addr) (k n c:Nat) (b bb:List Stm) (r:Stk) (m:Stm) (_:vs=[.ref wk,.int c]) (_:jS C H wk wx lb ln 4e0) (_:b[n]?=some m) (_:m.sub c=some bb) (_:r.length<=90) (_:∀H',jS C H' wk wx lb ln ((c,bb,0)::(k,b,n)::r)->Kp [lb,ln] H H'->Q .UL H'):rV C vs H Q E
inductive zV(C:Addr)(vs:List V)(H:Hp)(Q:VK)(E:XK):Prop
 | mk (wk wx lb ln:Addr) (k n:Nat) (b:List Stm) (x:Nat×List Stm×Nat) (r:Stk) (m:Stm) (_:vs=[.ref wk]) (_:jS C H wk wx lb ln (x::(k,b,n)::r)) (_:b[n]?=some m) (_:∀H',jS C H' wk wx lb ln ((k,b,if m.Ak=true then n+1 else n)::r)->Kp [lb,ln] H H'->Q .UL H'):zV C vs H Q E
def cF.subAt{m:Stm}{c:Nat}(h:cF H v m)(hs:m.sub c=some bb):∃(a p:Addr) (xs us:List V),v=.ref a/\H a=some (.tup xs)/\gY xs (2+(c:Int))=some (.ref p)/\H p=some 0e1/\bY H us bb:=by
 cases h with
 | @U4 a p v s vs b e h1 f hb =>
  match c,hs with
  | 0,hs=>cases hs;exact⟨a,p,_,vs,rfl,e,rfl,f,hb⟩
 | @iff a p q v s vs us b o e h1 f hb f2 hb2 =>
  match c,hs with
  | 0,hs=>cases hs;exact⟨a,p,_,vs,rfl,e,rfl,f,hb⟩
  | 1,hs=>cases hs;exact⟨a,q,_,us,rfl,e,rfl,f2,hb2⟩
 | _=>cases hs
theorem cF.RC{m:Stm}(h:cF H v m):∃(a:Addr) (x:String) (xs:List V),v=.ref a/\H a=some (.tup (.str (Str.ofString x)::xs))/\decide (x = "if")=m.Ak:=by
 cases h<;>exact⟨_,_,_,rfl,by assumption,rfl⟩
def aD.dG{l:Addr}(e:H l=some (.lst xs)):aD H (UK H l (.lst ys)):=λa zs h=>by
 rw[aC (c0 h e 1e1)];exact h
theorem vR:∀st:Stk,(bX st).length<=2 * st.length
 | []=>by simp[bX]
 | [(_,_,n)]=>by simp[bX]
 | (k,b,n)::x::r=>by
  have:=vR (x::r);rw[nL,Ξ];simp only[Ε,ϔ] at this ⊢;omega
def rA{α:Type}(l:List α)(x:α):(l++[x])[(l++[x]).length - 1]?=some x:=by simp
def aD.tr{H2:Hp}(a:aD H H1)(b:aD H1 H2):aD H H2:=λc xs e=>b c xs (a c xs e)
set_option backward.eqns.nonrecursive false in
def mE(b:List Stm)(n:Nat):Nat:=match b[n]? with
 | some m=>if m.Ak=true then n+1 else n
 | none=>n
def bN:Stk->Stk
 | (k,b,n)::(k2,b2,n2)::r=>if n=b.length then bN ((k2,b2,mE b2 n2)::r) else (k,b,n)::(k2,b2,n2)::r
 | st=>st
termination_by st=>st.length
def t8:Stk->Prop
 | []=>False
 | (_,b,n)::r=>n<=b.length/\∀x∈r,x.2.2 < x.2.1.length
def bL:Stk->Option Stm
 | (_,b,n)::_=>b[n]?
 | []=>none
theorem BK{n:Nat}(h:n < b.length):mE b n<=b.length:=by
 unfold mE;split
 ·split<;>omega
 ·omega
inductive Cs(C:Addr)(vs:List V)(H:Hp)(Q:VK)(E:XK):Prop
 | mk (wk wx lb ln:Addr) (st:Stk) (_:vs=[.ref wk]) (_:jS C H wk wx lb ln st) (_:t8 st) (_:(∀H',jS C H' wk wx lb ln 9e0->t8 9e0->bL 9e0=none->Kp [lb,ln] H H'->Q .UL H')) (_:∀(m:Stm) (v:V) (H':Hp),jS C H' wk wx lb ln 9e0->t8 9e0->bL 9e0=some m->cF H' v m->Kp [lb,ln] H H'->Q v H'):Cs C vs H Q E
abbrev Cmds:=List (List V)
variable{cs:Cmds}
inductive iC(H:Hp):List V->Cmds->Prop
 | nil:iC H [] []
 | cons {a:Addr} {c:List V} {us:List V} {cs:Cmds}:H a=some (.tup c)->iC H us cs->iC H (.ref a::us) (c::cs)
def iC.kt(h:iC H us cs)(k:aD H H'):iC H' us cs:=by
 induction h with
 | nil=>exact .nil
 | cons a _ ih=>exact .cons (k _ _ a) ih
def iC.len(h:iC H us cs):us.length=cs.length:=by
 induction h with
 | nil=>rfl
 | cons _ _ ih=>simp[ih]
def iC.app{vs:List V}{ps qs:Cmds}(h:iC H us ps)(g:iC H vs qs):iC H (us++vs) (ps++qs):=by
 induction h with
 | nil=>exact g
 | cons e _ ih=>exact .cons e ih
def iC.at(h:iC H us cs):∀{i:Nat} {v:V},us[i]?=some v->∃a c,v=.ref a/\cs[i]?=some c/\H a=some (.tup c):=by
 induction h with
 | nil=>intro i v e;simp at e
 | cons x _ ih =>
  intro i v e;cases i with
  | zero=>simp only[Ο,Υ] at e;subst e;exact⟨_,_,rfl,rfl,x⟩
  | succ i=>exact ih 4e2
set_option genInjectivity true in
inductive Slp where
 | UL|new|wait (ts:List Int)|UP (k:Str)|ended (w:Wo)|worn
variable{s:Slp}
set_option backward.eqns.nonrecursive false in
def Slp.isN:Slp->Bool
 | .UL=>true
 | _=>false
def iO(H:Hp)(v:V):Slp->Prop
 | .UL=>v=.UL
 | .new=>∃p,v=.ref p/\H p=some (.tup [.str "new"])
 | .wait ts=>∃p p2,v=.ref p/\H p=some (.tup [.str "wait",.ref p2])/\H p2=some (.tup (ts.map V.int))
 | .UP k=>∃p,v=.ref p/\H p=some (.tup [.str "hear",.str k])
 | .ended w=>∃p,v=.ref p/\H p=some (.tup [.str "ended",wv w])
 | .worn=>∃p,v=.ref p/\H p=some (.tup [.str "worn"])
def iO.kt(h:iO H v s)(k:aD H H'):iO H' v s:=by
 cases s with
 | UL=>exact h
 | wait ts=>obtain⟨p,p2,e,a,b⟩:=h;exact⟨p,p2,e,k _ _ a,k _ _ b⟩
 | _=>obtain⟨p,e,a⟩:=h;exact⟨p,e,k _ _ a⟩
def iO.isN(h:iO H v s):(s.isN=true/\v=.UL)\/(s.isN=false/\∃p,v=.ref p):=by
 cases s with
 | UL=>exact .inl ⟨rfl,h⟩
 | wait ts=>obtain⟨p,p2,e,a,b⟩:=h;exact .inr ⟨rfl,p,e⟩
 | _=>obtain⟨p,e,a⟩:=h;exact .inr ⟨rfl,p,e⟩
def fH(l:List 1e0):List 7e0:=l.map λp=>(.inr p.1,wv p.2)
def cB(l:List 1e0)(n:Str)(w:Wo):List 1e0:=if 1e2=true then l.map (λp=>if p.1=n then (p.1,w) else p) else l++[(n,w)]
theorem gE(l:List 1e0)(n:Str)(w:Wo):aR (fH l) (.inr n) (wv w)=fH 7e1:=by
 have e:((fH l).any λkv=>decide (kv.1=Key.inr n))=1e2:=by
  simp only[fH,List.any_map,Function.comp_def,Key.inr.injEq]
 unfold aR cB;rw[e];split
 ·simp only[fH,List.map_map,Function.comp_def,Key.inr.injEq];refine List.map_congr_left λp _=>?_;by_cases h:p.1=n
  ·simp[h]
  ·simp[h]
 ·simp[fH]
theorem B6(l:List 1e0)(n:Str)(w:Wo):(cB l n w).length<=l.length+1:=by
 unfold cB;split
 ·rw[Γ];omega
 ·simp
def iW:List 1e0->Str->Wo
 | [],_=>none
 | p::r,x=>if p.1=x then p.2 else iW r x
theorem pS:∀(l:List 1e0) (x:Str),(aZ (fH l) (.inr x)).getD .UL=wv (iW l x)
 | [],x=>rfl
 | p::r,x=>by
  have ih:=pS r x;show(aZ ((Key.inr p.1,wv p.2)::fH r) (.inr x)).getD .UL=_;by_cases h:p.1=x
  ·rw[cL 8e1,iW,if_pos h];rfl
  ·rw[cD (λz=>h 0e2),iW,if_neg h];exact ih
def Gb(l:List 1e0)(n:Str)(w:Wo)(x:Str):iW 7e1 x=if x=n then w else iW l x:=by
 have h1:=pS 7e1 x;rw[<- gE,gA] at h1;by_cases h:x=n
 ·rw[if_pos 8e1] at h1;rw[if_pos h];exact(DL h1).symm
 ·rw[if_neg (λz=>h 0e2),pS] at h1;rw[if_neg h];exact(DL h1).symm
def fG(l:List 0e0):Wo->Wo
 | none=>none
 | some i=>match l with
  | []=>none
  | p::r=>if p.1=i then p.2 else fG r 6e0
theorem pC:∀(l:List 0e0) (w:Wo),(aZ (iD l) (wk w)).getD .UL=wv (fG l w)
 | [],none=>rfl
 | [],some _=>rfl
 | p::r,none=>by
  have ih:=pC r none;show(aZ 2e2 .no).getD .UL=_;rw[cD 1e1];rw[show fG (p::r) none=fG r none from by rw[fG,fG]];exact ih
 | p::r,some i=>by
  have ih:=pC r 6e0;show(aZ 2e2 8e0).getD .UL=_;by_cases h:p.1=i
  ·rw[cL 8e1,fG,if_pos h];rfl
  ·rw[cD (λz=>h (Key.inl.inj z)),fG,if_neg h];exact ih
inductive fW(H:Hp):List 7e0->List Addr->List 3e0->Prop
 | nil:fW H [] [] []
 | cons {a:Addr} {k:Str} {ws:List Wo} {kvs:List 7e0} {as:List Addr} {lt:List 3e0}:H a=some 6e1->fW H kvs as lt->fW H ((.inr k,.ref a)::kvs) (a::as) ((k,ws)::lt)
def fW.keep{as:List Addr}(h:fW H kvs as lt)(k:∀a∈as,∀o,H a=some o->H' a=some o):fW H' kvs as lt:=by
 induction h with
 | nil=>exact .nil
 | cons e _ ih=>exact .cons (k _ 3e1 _ e) (ih λa ha=>k a (Ρ _ ha))
def fW.ex{as:List Addr}(h:fW H kvs as lt):∀a∈as,∃xs,H a=some (.lst xs):=by
 induction h with
 | nil=>intro a ha;simp at ha
 | cons e _ ih=>intro a ha;rcases Α.mp ha with rfl|ha;exact⟨_,e⟩;exact ih a ha
def fW.len{as:List Addr}(h:fW H kvs as lt):kvs.length=lt.length:=by
 induction h with
 | nil=>rfl
 | cons _ _ ih=>simp[ih]
def aS:List 3e0->Str->Option (List Wo)
 | [],_=>none
 | p::r,k=>if p.1=k then some p.2 else aS r k
def dG:List 3e0->Str->List Wo->List 3e0
 | [],_,_=>[]
 | p::r,k,ws=>if p.1=k then (p.1,ws)::r else p::dG r k ws
def fW.look{as:List Addr}(h:fW H kvs as lt)(k:Str):(aZ kvs 9e1=none/\aS lt k=none) \/ ∃a ws,aZ kvs 9e1=some (.ref a)/\aS lt k=some ws/\a∈as/\H a=some 6e1:=by
 induction h with
 | nil=>exact .inl ⟨rfl,rfl⟩
 | @cons a j ws kvs as lt e _ ih =>
  by_cases hj:j=k
  ·subst hj;exact .inr ⟨a,ws,cL rfl,by simp[aS],by simp,e⟩
  ·rcases ih with⟨x,y⟩|⟨b,vs,x,y,z,u⟩
   ·exact .inl ⟨by rw[cD 5e1];exact x,by simp[aS,hj,y]⟩
   ·exact .inr ⟨b,vs,by rw[cD 5e1];exact x,by simp[aS,hj,y],Ρ _ z,u⟩
def fW.set{H:Hp}{kvs:List 7e0}{as:List Addr}{lt:List 3e0}(h:fW H kvs as lt){k:Str}{a:Addr}(r:List Wo)(hk:aZ kvs 9e1=some (.ref a))(nd:as.Nodup):fW (UK H a (.lst (r.map wv))) kvs as (dG lt k r):=by
 induction h with
 | nil=>cases hk
 | @cons b j ws kvs as lt e hr ih =>
  rw[ϗ] at nd;by_cases hj:j=k
  ·subst hj;rw[cL rfl] at hk;cases hk;rw[dG,if_pos rfl];exact .cons aA (hr.keep λc hc o h=>by rw[aC (show c≠a from λz=>nd.1 (by rw[<- z];exact hc))];exact h)
  ·rw[cD 5e1] at hk;rw[dG,if_neg hj];have ha:a∈as:=by
    rcases hr.look k with⟨x,_⟩|⟨c,_,x,_,y,_⟩
    ·rw[x] at hk;cases hk
    ·rw[x] at hk;cases hk;exact y
   exact .cons (by rw[aC (show b≠a from λz=>nd.1 (by rw[z];exact ha))];exact e) (ih hk nd.2)
def fW.snoc{as:List Addr}(h:fW H kvs as lt)(e:H a=some 6e1):fW H (kvs++[(.inr k,.ref a)]) (as++[a]) (lt++[(k,ws)]):=by
 induction h with
 | nil=>exact .cons e .nil
 | cons f _ ih=>exact .cons f ih
structure Pu where
 stk:Stk
 sl:Slp
 ar:Wo
 nw:Int
 nm:List 1e0
 made:Nat
 pend:List Int
 ans:List 0e0
 lt:List 3e0
variable{S:Pu}
def Pu.pl(S:Pu):Pl:=⟨iW S.nm,S.ar,S.nw,fG S.ans⟩
def Pu.worth(S:Pu)(s:Say):Wo:=ev S.pl s
def Pu.rF(S:Pu)(n:Str):Pu:={S with made:=S.made+1,pend:=S.pend++[(S.made:Int)],nm:=cB S.nm n (some (S.made:Int))}
def Pu.pass(S:Pu):Pu:={S with stk:=fP S.stk}
def uN(nw:Int):Wo->Int
 | none=>if nw < 1000000000000 then nw else 1000000000000
 | some z=>if nw+3e2 < 1000000000000 then nw+3e2 else 1000000000000
def Pu.ends(S:Pu)(w:Wo):Pu×Cmds:=({S with sl:=.ended w,pend:=[]},[[.str "end",wv w]])
def Pu.oJ(S:Pu):Pu×Cmds:=({S with sl:=.worn,pend:=[]},[[.str "worn"]])
def bB(ans:List 0e0)(ws:List Wo):Wo:=(ans.find? λp=>decide (some p.1∈ws)).map (·.1)
def u9(i:Int):List Int->List Int
 | []=>[i]
 | j::r=>if i < j then i::j::r else if i=j then j::r else j::u9 i r
def bK(pend:List Int):List Wo->List Int
 | []=>[]
 | none::r=>bK pend r
 | some i::r=>if i∈pend then u9 i (bK pend r) else bK pend r
set_option backward.eqns.nonrecursive false in
def bT(S:Pu):Stm->Pu×Cmds
 | .set x s=>({S with nm:=cB S.nm x 2e0},[])
 | .order x y s=>(S.rF x,[[.str "order",.int S.made,.str y,wv 2e0]])
 | .child x y s=>(S.rF x,[[.str "child",.int S.made,.str y,wv 2e0]])
 | .UX x s=>(S.rF x,[[.str "timer",.int S.made,.int (uN S.nw 2e0)]])
 | .send s k r=>(S,[[.str "send",wv 2e0,.str k,wv (S.worth r)]])
 | .drop s=>match S.worth s with
  | some i=>if i∈S.pend then ({S with pend:=S.pend.filter λj=>decide (j≠i)},[[.str "drop",.int i]]) else (S,[])
  | none=>(S,[])
 | .UP x k=>match (aS S.lt k).getD [] with
  | w::r=>({S with nm:=cB S.nm x w,lt:=dG S.lt k r},[])
  | []=>({S with sl:=.UP k},[])
 | .wait x ss=>if bB S.ans 2e1=none/\bK S.pend 2e1≠[] then ({S with sl:=.wait (bK S.pend 2e1)},[]) else ({S with nm:=cB S.nm x (bB S.ans 2e1)},[])
 | .fin s=>S.ends 2e0
 | .U4 _ _=>(S,[])
 | .iff _ _ _=>(S,[])
set_option backward.eqns.nonrecursive false in
def Stm.isB:Stm->Bool
 | .U4 _ _=>true
 | .iff _ _ _=>true
 | _=>false
def Pu.enter(S:Pu)(c:Nat)(b:List Stm):Pu:={S with stk:=(c,b,0)::S.stk}
def sG(S:Pu):Stm->Pu
 | .U4 s b=>if num 2e0=0 then S.pass else S.enter 0 b
 | .iff s b o=>if num 2e0=0 then S.enter 1 o else S.enter 0 b
 | _=>S
def one(S:Pu)(m:Stm):Pu×Cmds:=if m.isB=true then (sG S m,[]) else (if (bT S m).1.sl.isN=true then (bT S m).1.pass else (bT S m).1,(bT S m).2)
def Pu.bD(S:Pu):Pu:={S with stk:=bN S.stk}
def dX:Nat->Pu->Pu×Cmds
 | 0,S=>match bL S.bD.stk with
  | none=>S.bD.ends none
  | some _=>S.bD.oJ
 | n+1,S=>match bL S.bD.stk with
  | none=>S.bD.ends none
  | some m=>if (one S.bD m).1.sl.isN=true then ((dX n (one S.bD m).1).1,(one S.bD m).2++(dX n (one S.bD m).1).2) else one S.bD m
set_option backward.eqns.nonrecursive false in
def Pu.wake(S:Pu)(w:Wo):Pu×Cmds:=match bL S.stk with
 | some (.UP x _)=>dX 300 {S with nm:=cB S.nm x w,stk:=fP S.stk,sl:=.UL}
 | some (.wait x _)=>dX 300 {S with nm:=cB S.nm x w,stk:=fP S.stk,sl:=.UL}
 | _=>(S,[])
def later(nw m:Int):Int:=if m > nw then m else nw
def Say.sok(s:Say):Prop:=s.ok/\s.depth<=6
end
mutual
noncomputable def Stm.gd(wt:Bool):Stm->Prop
 | .set _ s=>s.sok
 | .order _ _ s=>s.sok
 | .child _ _ s=>s.sok
 | .UX _ s=>s.sok
 | .send s _ r=>s.sok/\r.sok
 | .drop s=>s.sok
 | .wait _ ss=>wt=true/\ss.length<=4/\∀s∈ss,s.sok
 | .UP _ _=>True
 | .fin s=>s.sok
 | .U4 s b=>s.sok/\Hd wt b
 | .iff s b o=>s.sok/\Hd wt b/\Hd wt o
noncomputable def Hd(wt:Bool):List Stm->Prop
 | []=>True
 | m::ms=>m.gd wt/\Hd wt ms
end
mutual
example:=[some j,(λ_ z=>by cases z),(by simpa using h)]
theorem Ip{wt:Bool}:∀{b:List Stm} {i:Nat} {m:Stm},Hd wt b->b[i]?=some m->m.gd wt
 | [],_,_,_,h=>by simp at h
 | _::_,0,_,g,h=>by simp only[Ο,Υ] at h;subst h;simp only[Hd] at g;exact g.1
 | _::b,i+1,_,g,h=>by simp only[Hd] at g;exact Ip g.2 2e0
theorem uK:∀{b:List Stm} {i:Nat} {m:Stm},b[i]?=some m->m.dp<=oS b
 | [],_,_,h=>by simp at h
 | _::_,0,_,h=>by simp only[Ο,Υ] at h;subst h;simp only[oS];omega
 | _::b,i+1,_,h=>by have:=uK (b:=b) 2e0;simp only[oS];omega
def Tb:Stk->Prop
 | []=>True
 | (_,b,_)::r=>oS b+r.length<=20/\Tb r
structure xW(wt:Bool)(st:Stk):Prop where
 ok:t8 st
 gd:∀x∈st,Hd wt x.2.1
 dp:Tb st
def Hi(s:Slp)(t:Stk):Prop:=(∀k,s=.UP k->∃x,bL t=some (.UP x k))/\(∀ts,s=.wait ts->∃x ss,bL t=some (.wait x ss))/\∀j,(s=.ended 0e0\/∃ts,s=.wait ts/\j∈ts)->dU 0e0
def Hi.no{t:Stk}(h1:∀k,s≠.UP k)(h2:∀ts,s≠.wait ts)(h3:∀j,s=.ended 0e0->dU 0e0):Hi s t:=⟨λk e=>absurd e (h1 k),λk e=>absurd e (h2 k),λj e=>e.elim (h3 j) fun⟨ts,e,_⟩=>absurd e (h2 ts)⟩
def oY{t:Stk}(h:s=.UL):Hi s t:=by subst h;exact .no 1e0 1e0 1e0
structure UU(wt:Bool)(S:Pu)(N:Nat):Prop where
 nm:S.nm.length<=N
 md:S.made<=N
 pd:S.pend.length<=N
 an:S.ans.length<=N
 lt:S.lt.length<=N
 lw:∀k ws,aS S.lt k=some ws->ws.length<=N/\∀w∈ws,dU w
 pl:S.pl.Ok
 nw:0<=S.nw/\S.nw<=1000000000000
 sk:xW wt S.stk
 sl:Hi S.sl S.stk
structure Cl where
 r:Addr
 w:Addr
 t:Addr
structure Rn where
 x:Addr
 dx:Addr
 wk:Addr
 wx:Addr
 lb:Addr
 ln:Addr
 nm:Addr
 tk:Addr
 tx:Addr
 dp:Addr
 da:Addr
 lt:Addr
def Rn.cells(R:Rn):List Addr:=[R.x,R.lb,R.ln,R.nm,R.tk,R.dp,R.da,R.lt]
abbrev j5(c:Addr)(R:Rn)(sl:V)(ar:Wo)(nw:Int):HO:=.ins c R.dx [("walk",.ref R.wk),("sleep",sl),("arg",wv ar),("now",.int nw),("names",.ref R.nm),("tickets",.ref R.tk),("letters",.ref R.lt)]
def jS.keep{wk wx lb ln:Addr}(W:jS C H wk wx lb ln st)(k1:∀o,H wk=some o->H' wk=some o)(k2:∀o,H lb=some o->H' lb=some o)(k3:∀o,H ln=some o->H' ln=some o)(kt:aD H H'):jS C H' wk wx lb ln st:=by
 obtain⟨vs,e,h⟩:=W.bl;exact⟨k1 _ W.ins,⟨vs,k2 _ e,h.kp kt⟩,k3 _ W.nu,W.ne,W.U2⟩
def i6.keep{tk tx dp da:Addr}{made:Nat}(T:i6 C H tk tx dp da made pend ans)(k1:∀o,H tk=some o->H' tk=some o)(k2:∀o,H dp=some o->H' dp=some o)(k3:∀o,H da=some o->H' da=some o):i6 C H' tk tx dp da made pend ans :=
 ⟨k1 _ T.ins,k2 _ T.hp,k3 _ T.ha,T.nda,T.lt,T.asc,T.la,T.dis,T.small⟩
structure bA(C:Cl)(H:Hp)(R:Rn)(as:List Addr)(sl:V)(S:Pu):Prop where
 ins:H R.x=some (.ins C.r R.dx [("walk",.ref R.wk),("sleep",sl),("arg",wv S.ar),("now",.int S.nw),("names",.ref R.nm),("tickets",.ref R.tk),("letters",.ref R.lt)])
 slp:iO H sl S.sl
 wk:jS C.w H R.wk R.wx R.lb R.ln S.stk
 tk:i6 C.t H R.tk R.tx R.dp R.da S.made S.pend S.ans
 nm:H R.nm=some (.dK (fH S.nm))
 lt:∃kvs,H R.lt=some (.dK kvs)/\fW H kvs as S.lt
 nas:as.Nodup
 ab:∀a∈as,a≠R.lb/\a≠R.ln
 xw:R.x≠R.wk
 xt:R.x≠R.tk
 wt:R.wk≠R.tk
 n1:R.nm≠R.dp
 n2:R.nm≠R.da
 n3:R.nm≠R.lt
 n4:R.lt≠R.dp
 n5:R.lt≠R.da
def cX{p b:Addr}{u v:HO}(e:H p=some o)(h:H b=some v)(d:v≠o:=by trivial):UK H p u b=some v:=by
 rw[aC (c0 h e d)];exact h
def aD.cR{p:Addr}{u:HO}(e:H p=some o)(d:∀xs,o≠.tup xs:=by trivial):aD H (UK H p u):=λa xs h=>cX e h (d xs).symm
end
section
mutual
example:=[(by intro _ z;cases z),d _,(by intro _ _ _ z;cases z),(by simp[Rn.cells]),(λo h=>c 3e0 h),3e0,(λo h=>by rw[A.wk.ins] at h;cases h;exact at' A.wk.ins 0e0),(λo h=>by rw[A.tk.ins] at h;cases h;exact at' A.tk.ins 0e0),.inr k,(UK H R.x (.ins C.r R.dx [("walk",.ref R.wk),("sleep",Va),("arg",wv ar'),("now",.int nw'),("names",.ref R.nm),("tickets",.ref R.tk),("letters",.ref R.lt)])),.dK (aR kvs 8e0 (.ref l)),.dK (fH (cB S.nm n w)),(by simp[Rn.cells,z]),(by rw[<- z];exact m),(by rw[z];exact h),.lst (ws.map wv),.lst (r.map wv),(λo h=>by rw[A.wk.nu] at h;cases h;exact at' A.wk.nu 0e0),(λo h=>by rw[el] at h;cases h;exact at' el 0e0)]
variable{C:Cl}{R:Rn}{as Vc:List Addr}{sl:V}
def bA.keep(A:bA C H R as sl S)(k:∀b o,H b=some o->b=R.wk\/b∈R.cells\/b∈as->H' b=some o)(kt:aD H H'):bA C H' R as sl S:=by
 obtain⟨kvs,e,L⟩:=A.lt;have c:∀{b:Addr} {o:HO},b∈R.cells->H b=some o->H' b=some o:=λ{b o} h e=>k b o e (.inr (.inl h));exact {A with
  ins:=c 5e0 A.ins
  slp:=A.slp.kt kt
  wk:=A.wk.keep (λo h=>k _ o h (.inl rfl)) 4e0 4e0 kt
  tk:=A.tk.keep 4e0 4e0 4e0
  nm:=c 5e0 A.nm
  lt:=⟨kvs,c 5e0 e,L.keep λa ha o h=>k a o h (.inr (.inr ha))⟩}
def bA.kp(A:bA C H R as sl S)(k:Kp [] H H'):bA C H' R as sl S:=A.keep (λ_ _ h _=>k.at h) (aD.nil k)
def bA.cellK(A:bA C H R as sl S){b:Addr}(h:b∈R.cells\/b∈as):∃o,H b=some o/\∀xs,o≠.tup xs:=by
 obtain⟨kvs,e,L⟩:=A.lt;obtain⟨vs,el,_⟩:=A.wk.bl;rcases h with h|h
 ·simp only[Rn.cells,Α,Δ,Ψ] at h;rcases h with rfl|rfl|rfl|rfl|rfl|rfl|rfl|rfl
  ·exact⟨_,A.ins,λ_ z=>by cases z⟩
  ·exact⟨_,el,λ_ z=>by cases z⟩
  ·exact⟨_,A.wk.nu,λ_ z=>by cases z⟩
  ·exact⟨_,A.nm,λ_ z=>by cases z⟩
  ·exact⟨_,A.tk.ins,λ_ z=>by cases z⟩
  ·exact⟨_,A.tk.hp,λ_ z=>by cases z⟩
  ·exact⟨_,A.tk.ha,λ_ z=>by cases z⟩
  ·exact⟨_,e,λ_ z=>by cases z⟩
 ·obtain⟨xs,ex⟩:=L.ex b h;exact⟨_,ex,λ_ z=>by cases z⟩
structure Fw(R:Rn)(as Vc:List Addr)(H H':Hp):Prop where
 kp:∀b o,H b=some o->b∉R.cells->b∉as->H' b=some o
 dom:∀b o,H b=some o->∃o',H' b=some o'
 new:∀a∈Vc,a∈as\/H a=none
def Fw.refl:Fw R as as H H:=⟨λ_ _ h _ _=>h,λ_ o h=>⟨o,h⟩,λ_ h=>.inl h⟩
def Fw.free(F:Fw R as Vc H H'){c:Addr}(h:H' c=none):H c=none:=by
 cases z:H c with
 | none=>rfl
 | some o=>obtain⟨o',z'⟩:=F.dom c o z;rw[h] at z';cases z'
def Fw.trans{ZU:List Addr}{ZN:Hp}(a:Fw R as Vc H H')(b:Fw R Vc ZU H' ZN):Fw R as ZU H ZN :=
  ⟨λc o h n m=>b.kp c o (a.kp c o h n m) n (λz=>by
      rcases a.new c z with y|y
      · exact m y
      · rw[h] at y;cases y),λc o h=>(by obtain⟨o',h'⟩:=a.dom c o h;exact b.dom c o' h'),λc h=>by
    rcases b.new c h with y|y
    · exact a.new c y
    · exact .inr (a.free y)⟩
def Fw.of(k:Kp [] H H'):Fw R as as H H':=⟨λb o h _ _=>k.at h,λb o h=>⟨o,k.at h⟩,λ_ h=>.inl h⟩
def Fw.set{p:Addr}{o:HO}(h:p∈R.cells\/p∈as):Fw R as as H (UK H p o) :=
 ⟨λb u e n m=>by rw[aC (λz=>by rcases h with h|h;exact n 4e1;exact m 4e1)];exact e,λb u e=>by by_cases z:b=p;exact⟨o,by rw[z,aA]⟩;exact⟨u,by rw[aC z];exact e⟩,λ_ h=>.inl h⟩
def Fw.ofD(k:Kp D H H')(h:∀b∈D,b∈R.cells/\∃o,H' b=some o):Fw R as as H H' :=
 ⟨λb o e n _=>k b o e λz=>n (h b z).1,λb o e=>by by_cases z:b∈D;exact(h b z).2;exact⟨o,k b o e z⟩,λ_ h=>.inl h⟩
def Fw.fresh{c:Addr}(F:Fw R as Vc H H')(h:H c=none):Fw R as Vc H (UK H' c o) :=
 ⟨λb u e n m=>by rw[aC (aF e h)];exact F.kp b u e n m,λb u e=>by rw[aC (aF e h)];exact F.dom b u e,F.new⟩
def bA.tkp(A:bA C H R as sl S)(F:Fw R as Vc H H'):aD H H':=λb xs h=>F.kp b _ h (λz=>by
    obtain⟨o,e,d⟩:=A.cellK (.inl z);rw[h] at e;exact d xs (ϓ e).symm) λz=>by
    obtain⟨o,e,d⟩:=A.cellK (.inr z);rw[h] at e;exact d xs (ϓ e).symm
def bA.dY(A:bA C H R as sl S){c:Addr}(h:H c=none):c∉R.cells/\c∉as:=by
 refine⟨λz=>?_,λz=>?_⟩
 ·obtain⟨o,e,d⟩:=A.cellK (.inl z);rw[h] at e;cases e
 ·obtain⟨o,e,d⟩:=A.cellK (.inr z);rw[h] at e;cases e
def bA.attr(A:bA C H R as sl S)(Va:V)(s':Slp)(ar':Wo)(nw':Int)(h:iO H Va s'):bA C 9e0 R as Va {S with sl:=s',ar:=ar',nw:=nw'}:=by
 obtain⟨kvs,e,L⟩:=A.lt;obtain⟨vs,el,_⟩:=A.wk.bl;have kt:aD H 9e0:=aD.cR A.ins;exact {A with
  ins:=aA
  slp:=h.kt kt
  wk:=A.wk.keep (λo h=>by rw[aC A.xw.symm];exact h) (λo h=>by rw[el] at h;cases h;exact cX A.ins el) (λo h=>by rw[A.wk.nu] at h;cases h;exact cX A.ins A.wk.nu) kt
  tk:=A.tk.keep (λo h=>by rw[aC A.xt.symm];exact h) (λo h=>by rw[A.tk.hp] at h;cases h;exact cX A.ins A.tk.hp) (λo h=>by rw[A.tk.ha] at h;cases h;exact cX A.ins A.tk.ha)
  nm:=cX A.ins A.nm
  lt:=⟨kvs,cX A.ins e,L.keep λa ha o h=>by obtain⟨xs,ex⟩:=L.ex a ha;rw[ex] at h;cases h;exact cX A.ins ex⟩}
def bA.walk(A:bA C H R as sl S)(W:jS C.w H' R.wk R.wx R.lb R.ln st)(k:Kp [R.lb,R.ln] H H'):bA C H' R as sl {S with stk:=st}:=by
 obtain⟨kvs,e,L⟩:=A.lt;obtain⟨vs,el,_⟩:=A.wk.bl;have at':∀{b:Addr} {o:HO},H b=some o->(∀xs,o≠.lst xs)->H' b=some o:=λ{b o} h d=>k b o h (by
  simp only[Α,Δ,Ψ,not_or];exact⟨c0 h el 1e0,c0 h A.wk.nu 1e0⟩)
 have kt:aD H H':=λb xs h=>at' h 0e0;exact {A with
  ins:=at' A.ins 0e0
  slp:=A.slp.kt kt
  wk:=W
  tk:=⟨at' A.tk.ins 0e0,at' A.tk.hp 0e0,at' A.tk.ha 0e0,A.tk.nda,A.tk.lt,A.tk.asc,A.tk.la,A.tk.dis,A.tk.small⟩
  nm:=at' A.nm 0e0
  lt:=⟨kvs,at' e 0e0,L.keep λa ha o h=>k a o h (by
   simp only[Α,Δ,Ψ,not_or];exact A.ab a ha)⟩}
def bA.uU(_:bA C H R as sl S)(W:jS C.w H' R.wk R.wx R.lb R.ln st)(k:Kp [R.lb,R.ln] H H'):Fw R as as H H':=Fw.ofD k λb hb=>by
 obtain⟨vs,el,_⟩:=W.bl;simp only[Α,Δ,Ψ] at hb;rcases hb with rfl|rfl
 ·exact⟨by simp[Rn.cells],_,el⟩
 ·exact⟨by simp[Rn.cells],_,W.nu⟩
def bA.tick(A:bA C H R as sl S){md:Nat}(T:i6 C.t H' R.tk R.tx R.dp R.da md pd an)(k:Kp [R.tk,R.dp,R.da] H H'):bA C H' R as sl {S with made:=md,pend:=pd,ans:=an}:=by
 obtain⟨kvs,e,L⟩:=A.lt;obtain⟨vs,el,_⟩:=A.wk.bl;have at':∀{b:Addr} {o:HO},H b=some o->(∀xs,o≠.dK xs)->(∀C d f,o≠.ins C d f)->H' b=some o:=λ{b o} h d d2=>k b o h (by
  simp only[Α,Δ,Ψ,not_or];exact⟨c0 h A.tk.ins (d2 _ _ _),c0 h A.tk.hp 1e0,c0 h A.tk.ha 1e0⟩)
 have gY:∀{b:Addr} {o:HO},H b=some o->(∀xs,o≠.dK xs)->b≠R.tk->H' b=some o:=λ{b o} h d d2=>k b o h (by
  simp only[Α,Δ,Ψ,not_or];exact⟨d2,c0 h A.tk.hp 1e0,c0 h A.tk.ha 1e0⟩)
 have atD:∀{b:Addr} {o:HO},H b=some o->(∀C d f,o≠.ins C d f)->b≠R.dp->b≠R.da->H' b=some o:=λ{b o} h d d2 d3=>k b o h (by
  simp only[Α,Δ,Ψ,not_or];exact⟨c0 h A.tk.ins (d _ _ _),d2,d3⟩)
 have kt:aD H H':=λb xs h=>at' h 0e0 2e0;exact {A with
  ins:=gY A.ins 0e0 A.xt
  slp:=A.slp.kt kt
  wk:=A.wk.keep (λo h=>by rw[A.wk.ins] at h;cases h;exact gY A.wk.ins 0e0 A.wt) (λo h=>by rw[el] at h;cases h;exact at' el 0e0 2e0) (λo h=>by rw[A.wk.nu] at h;cases h;exact at' A.wk.nu 0e0 2e0) kt
  tk:=T
  nm:=atD A.nm 2e0 A.n1 A.n2
  lt:=⟨kvs,atD e 2e0 A.n4 A.n5,L.keep λa ha o h=>by obtain⟨xs,ex⟩:=L.ex a ha;rw[ex] at h;cases h;exact at' ex 0e0 2e0⟩}
def bA.Bp(_:bA C H R as sl S){md:Nat}(T:i6 C.t H' R.tk R.tx R.dp R.da md pd an)(k:Kp [R.tk,R.dp,R.da] H H'):Fw R as as H H':=Fw.ofD k λb hb=>by
 simp only[Α,Δ,Ψ] at hb;rcases hb with rfl|rfl|rfl
 ·exact⟨by simp[Rn.cells],_,T.ins⟩
 ·exact⟨by simp[Rn.cells],_,T.hp⟩
 ·exact⟨by simp[Rn.cells],_,T.ha⟩
def bA.name(A:bA C H R as sl S)(n:Str)(w:Wo):bA C (UK H R.nm 1e1) R as sl {S with nm:=cB S.nm n w}:=by
 obtain⟨kvs,e,L⟩:=A.lt;obtain⟨vs,el,_⟩:=A.wk.bl;have at':∀{b:Addr} {o:HO},H b=some o->(∀xs,o≠.dK xs)->UK H R.nm 1e1 b=some o:=λ{b o} h d=>cX A.nm h 1e0;have kt:aD H _:=λb xs h=>at' h 0e0;exact {A with
  ins:=at' A.ins 0e0
  slp:=A.slp.kt kt
  wk:=A.wk.keep 6e0 8e1 7e1 kt
  tk:=A.tk.keep 7e0 (λo h=>by rw[aC A.n1.symm];exact h) (λo h=>by rw[aC A.n2.symm];exact h)
  nm:=aA
  lt:=⟨kvs,by rw[aC A.n3.symm];exact e,L.keep λa ha o h=>by obtain⟨xs,ex⟩:=L.ex a ha;rw[ex] at h;cases h;exact at' ex 0e0⟩}
def bA.vJ(A:bA C H R as sl S){l:Addr}(e:H R.lt=some (.dK kvs))(hk:aZ kvs 8e0=some (.ref l))(r:List Wo):bA C (UK H l 6e1) R as sl {S with lt:=dG S.lt k r}/\l∈as:=by
 obtain⟨abF,e',L⟩:=A.lt;rw[e] at e';cases e';obtain⟨vs,el,_⟩:=A.wk.bl;obtain⟨ws,hl,Xd⟩:∃ws:List Wo,H l=some 5e1/\l∈as:=by
  rcases L.look k with⟨x,_⟩|⟨c,ws,x,_,y,z⟩
  ·rw[x] at hk;cases hk
  ·rw[x] at hk;cases hk;exact⟨ws,z,y⟩
 have at':∀{b:Addr} {o:HO},H b=some o->(∀xs,o≠.lst xs)->UK H l 6e1 b=some o:=λ{b o} h d=>cX hl h 1e0;have kt:aD H _:=λb xs h=>at' h 0e0;have nb:=A.ab l Xd;refine⟨{A with
  ins:=at' A.ins 0e0
  slp:=A.slp.kt kt
  wk:=A.wk.keep 6e0 (λo h=>by rw[aC nb.1.symm];exact h) (λo h=>by rw[aC nb.2.symm];exact h) kt
  tk:=A.tk.keep 7e0 (λo h=>by rw[A.tk.hp] at h;cases h;exact at' A.tk.hp 0e0) (λo h=>by rw[A.tk.ha] at h;cases h;exact at' A.tk.ha 0e0)
  nm:=at' A.nm 0e0
  lt:=⟨kvs,at' e 0e0,L.set r hk A.nas⟩},Xd⟩
def bA.LP(A:bA C H R as sl S){l:Addr}(e:H R.lt=some (.dK kvs))(hk:aZ kvs 8e0=none)(hl:H l=some 5e1)(n1:l∉R.cells)(n2:l∉as):bA C (UK H R.lt 0e1) R (as++[l]) sl {S with lt:=S.lt++[(k,ws)]}:=by
 obtain⟨abF,e',L⟩:=A.lt;rw[e] at e';cases e';obtain⟨vs,el,_⟩:=A.wk.bl;have at':∀{b:Addr} {o:HO},H b=some o->(∀xs,o≠.dK xs)->UK H R.lt 0e1 b=some o:=λ{b o} h d=>cX e h 1e0;have kt:aD H _:=λb xs h=>at' h 0e0;exact {A with
  ins:=at' A.ins 0e0
  slp:=A.slp.kt kt
  wk:=A.wk.keep 6e0 8e1 7e1 kt
  tk:=A.tk.keep 7e0 (λo h=>by rw[aC A.n4.symm];exact h) (λo h=>by rw[aC A.n5.symm];exact h)
  nm:=by rw[aC A.n3];exact A.nm
  lt:=⟨_,aA,by
   rw[wK _ hk];exact(L.keep λa ha o h=>by obtain⟨xs,ex⟩:=L.ex a ha;rw[ex] at h;cases h;exact cX e ex).snoc (cX e hl)⟩
  nas:=ϙ.mpr ⟨A.nas,by simp,λa ha b hb=>by rw[show b=l by simpa using hb];exact λz=>n2 (by rw[<- z];exact ha)⟩
  ab:=λa ha=>by
   rcases Κ.mp ha with ha|ha
   ·exact A.ab a ha
   ·rw[show a=l by simpa using ha];exact⟨λz=>n1 2e1,λz=>n1 2e1⟩}
def bA.other(A:bA C H R as sl S){c:Addr}{vs:List V}(hc:H c=some (.lst us))(n1:c∉R.cells)(n2:c∉as):bA C (UK H c (.lst vs)) R as sl S :=
 A.keep (λb o h m=>by
  rw[aC (λz=>by
   rcases m with m|m|m
   ·rw[z] at m;rw[m,A.wk.ins] at hc;cases hc
   ·exact n1 3e1
   ·exact n2 3e1)]
  exact h) (aD.cR hc)
end
end
mutual
example:=[Str×List Wo,(by simp),Int×Wo,N+1,V×V,Str.ofString "-",Str.ofString "+",Str.ofString "*",(λx _=>x∈L),Str.ofString a,UK H p o,Str×Wo,(λ_ z=>by cases z),Key.inr.inj z,(by simp[hx]),S.worth s,.lst us,Ε5 N,dZ b,UK (UK H1 dx (.own x)) x (.ins C dx []),(λx _ _=>x∈L),i∈cA ans ws,(λ_=>True),ws.take i,ws.map wv,ws++[w],some i,.inr k,(Kp.new (by rw[aC ne.symm];exact hx)),(λv H2=>v=.UL/\Q x H2),(.tup [.int i,wv w]),(by simpa using e),S.pend.map V.int,.ins C.r dx [],(by simp[fG,h]),.int S.made,h.same rfl,(.tup [x,y]),cA ans ws,(Kp.drop ((K1.mono 1e0).trans K) hx),j∈i::r,Str×Sp,.tup us,(z▸ha),UK H1 dx (.own x),(if _ then (Internal.bT S m).1.pass else (Internal.bT S m).1),(if _ then S.enter 1 o else S.enter 0 b),(if _ then S.pass else S.enter 0 b),(if num w > 0 then num w else 0),Nat.le_succ_of_le F.pd,(λx k=>x∈L/\k∈L),(by simp[Stm.dp];omega),(.tup [.str k,.ref b]),(λ_ _ _ b o=>b/\o),((k2,b2,mE b2 n2)::r),(by intro z;cases z),(λ_ _ a r=>a/\r),(by rwa [cZ] at z),(λ_ _ _=>True),(by simp[fG,h,z]),ws.take (i+1),(by rw[e];simp),us++[.ref a],hx m k w rfl,(λ_ _ b=>b),.inr "made",(l++[(i,w)]),g.2.2 s We,dA (dA f2),dA (dA f1),(by cases e),.ref a::us,bB ans ws,aD.nil K1]
def put2{x p:Addr}{o' u:HO}(hx:H x=some u)(hp:H p=none):UK 0e1 x o' x=some o'/\UK 0e1 x o' p=some o/\Kp [x] H (UK 0e1 x o')/\x≠p:=by
 have n:x≠p:=aF hx hp;exact⟨aA,by rw[aC n.symm];exact aA,(Kp.new hp).trans (Kp.set 1e0),n⟩
def dA{p:Addr}(h:UK H a o p=none):H p=none:=by
 by_cases e:p=a
 ·subst e;rw[aA] at h;cases h
 ·rwa [aC e] at h
def Told(C:Cl)(R:Rn)(as Vc:List Addr)(H:Hp)(Q:VK)(z:Pu×Cmds):Prop:=∀(sl:V) (c:Addr) (us:List V) (H':Hp),bA C H' R Vc sl z.1->H c=none->H' c=some 6e1->iC H' us z.2->Fw R as Vc H H'->Q (.ref c) H'
inductive Ct(C:Cl)(vs:List V)(H:Hp)(Q:VK)(E:XK):Prop
 | mk (R:Rn) (as:List Addr) (sl:V) (S:Pu) (v:V) (s:Say) (_:vs=[.ref R.x,v]) (_:bA C H R as sl S) (_:S.pl.Ok) (_:dE H v s) (_:s.sok) (_:Q (wv 5e1) H):Ct C vs H Q E
inductive JR(C:Cl)(vs:List V)(H:Hp)(Q:VK)(E:XK):Prop
 | mk (R:Rn) (as:List Addr) (sl:V) (S:Pu) (n:Str) (_:vs=[.ref R.x,.str n]) (_:bA C H R as sl S) (_:S.made < 1000000) (_:S.pend.length < 1000000) (_:S.nm.length<=1000000) (_:∀H',bA C H' R as sl (S.rF n)->Fw R as as H H'->Q 5e3 H'):JR C vs H Q E
inductive JO(C:Cl)(vs:List V)(H:Hp)(Q:VK)(E:XK):Prop
 | mk (R:Rn) (as:List Addr) (sl:V) (S:Pu) (w:Wo) (_:vs=[.ref R.x,wv w]) (_:bA C H R as sl S) (_:Told C R as as H Q (S.ends w)):JO C vs H Q E
inductive JY(C:Cl)(vs:List V)(H:Hp)(Q:VK)(E:XK):Prop
 | mk (R:Rn) (as:List Addr) (sl:V) (S:Pu) (_:vs=[.ref R.x]) (_:bA C H R as sl S) (_:Told C R as as H Q S.oJ):JY C vs H Q E
inductive dS(C:Cl)(wt:Bool)(g:Stm->Prop)(vs:List V)(H:Hp)(Q:VK)(E:XK):Prop
 | mk (R:Rn) (as:List Addr) (sl:V) (S:Pu) (a:V) (m:Stm) (N:Nat) (_:vs=[.ref R.x,a]) (_:bA C H R as sl S) (_:S.sl=.UL) (_:cF H a m) (_:g m) (_:UU wt S N) (_:m.gd wt) (_:N<=900000) (_:Told C R as as H Q (bT S m)):dS C wt g vs H Q E
inductive EU(C:Cl)(wt:Bool)(vs:List V)(H:Hp)(Q:VK)(E:XK):Prop
 | mk (R:Rn) (as:List Addr) (sl:V) (S:Pu) (a:V) (m:Stm) (N:Nat) (_:vs=[.ref R.x,a]) (_:bA C H R as sl S) (_:cF H a m) (_:m.isB=true) (_:UU wt S N) (_:m.gd wt) (_:bL S.stk=some m) (_:∀H',bA C H' R as sl (sG S m)->Fw R as as H H'->Q .UL H'):EU C wt vs H Q E
inductive JS(C:Cl)(wt:Bool)(vs:List V)(H:Hp)(Q:VK)(E:XK):Prop
 | mk (R:Rn) (as:List Addr) (sl:V) (S:Pu) (a:V) (m:Stm) (N:Nat) (_:vs=[.ref R.x,a]) (_:bA C H R as sl S) (_:S.sl=.UL) (_:cF H a m) (_:UU wt S N) (_:m.gd wt) (_:bL S.stk=some m) (_:N<=900000) (_:Told C R as as H Q (one S m)):JS C wt vs H Q E
inductive MX(C:Cl)(wt:Bool)(vs:List V)(H:Hp)(Q:VK)(E:XK):Prop
 | mk (R:Rn) (as:List Addr) (sl:V) (S:Pu) (N:Nat) (_:vs=[.ref R.x]) (_:bA C H R as sl S) (_:UU wt {S with sl:=.UL} N) (_:N<=800000) (_:Told C R as as H Q (dX 300 {S with sl:=.UL})):MX C wt vs H Q E
inductive Cr(C:Cl)(vs:List V)(H:Hp)(Q:VK)(E:XK):Prop
 | mk (R:Rn) (as:List Addr) (sl:V) (S:Pu) (_:vs=[.ref R.x]) (_:bA C H R as sl S) (_:Q sl H):Cr C vs H Q E
inductive EV(C:Cl)(vs:List V)(H:Hp)(Q:VK)(E:XK):Prop
 | mk (R:Rn) (as:List Addr) (sl:V) (S:Pu) (_:vs=[.ref R.x]) (_:bA C H R as sl S) (_:S.pend.length<=1000000) (_:∀l,H l=none->Q (.ref l) (UK H l (.lst 2e3))):EV C vs H Q E
def Ef(F:UU wt S N){s:Say}(h:s.sok):dU 5e1:=Ea F.pl h.1
def LO{y:Str}{a:Sp}{r:List 1e4}:List.lookup y ((y,a)::r)=some a:=by simp only[List.lookup,beq_self_eq_true]
theorem lW{a b:String}{s:Sp}{r:List 1e4}(h:a≠b:=by decide):List.lookup 9e0 ((Str.ofString b,s)::r)=List.lookup 9e0 r:=by
 have:((Str.ofString a:Str)==Str.ofString b)=false:=Β2.mpr λz=>h 7e5;simp only[List.lookup,this]
def Kq{y:Str}{a sp:Sp}{r:List 1e4}(h:List.lookup y ((k,a)::r)=some sp):(y=k/\sp=a)\/List.lookup y r=some sp:=by
 simp only[List.lookup] at h;split at h
 ·next z=>cases h;exact .inl ⟨eq_of_beq z,rfl⟩
 ·exact .inr h
def gM{m:Stm}(h:bL st=some m):∃k b n r,st=(k,b,n)::r/\b[n]?=some m:=by
 match st,h with
 | (k,b,n)::r,h=>exact⟨k,b,n,r,rfl,h⟩
def l9(S:Pu)(m:Stm):(bT S m).1.stk=S.stk:=by
 cases m<;>simp only[bT,Pu.rF,Pu.ends]
 ·split
  ·split<;>rfl
  ·rfl
 ·split<;>rfl
 ·split<;>rfl
theorem Bh{wt:Bool}:∀st,xW wt st->xW wt (bN st)
 | [],h=>h.ok.elim
 | [x],h=>by simp only[bN];exact h
 | (k,b,n)::(k2,b2,n2)::r,h=>by
  rw[bN];split
  ·have o:=h.ok.2 (k2,b2,n2) 1e0;exact Bh 4e5 ⟨⟨BK o,λx hx=>h.ok.2 x (Ρ _ hx)⟩,λx hx=>by
    rcases Α.mp hx with rfl|hx
    ·exact h.gd (k2,b2,n2) 1e0
    ·exact h.gd x 4e1,⟨h.dp.2.1,h.dp.2.2⟩⟩
  ·exact h
termination_by st=>st.length
def UU.bD(F:UU wt S N)(h:S.sl=.UL):UU wt S.bD N :=
 {F with sk:=Bh _ F.sk,sl:=oY h}
def UU.more{M:Nat}(F:UU wt S N)(h:N<=M):UU wt S M :=
 {F with nm:=Λ F.nm h,md:=Λ F.md h,pd:=Λ F.pd h,an:=Λ F.an h,lt:=Λ F.lt h,lw:=λk ws e=>⟨Λ (F.lw k ws e).1 h,(F.lw k ws e).2⟩}
def xW.pass{m:Stm}(G:xW wt st)(h:bL st=some m):xW wt (fP st):=by
 obtain⟨k,b,n,r,rfl,hm⟩:=gM h;have hn:=(Ν.mp hm).1;exact⟨⟨hn,G.ok.2⟩,λx hx=>by
  rcases Α.mp hx with rfl|hx
  ·exact G.gd (k,b,n) 1e0
  ·exact G.gd x 4e1,G.dp⟩
theorem xW.enter{m:Stm}{c:Nat}(G:xW wt st)(h:bL st=some m)(hg:Hd wt bb)(hd:oS bb+1<=m.dp):xW wt ((c,bb,0)::st):=by
 obtain⟨k,b,n,r,rfl,hm⟩:=gM h;have hn:=(Ν.mp hm).1;have h2:=uK hm;have h3:=G.dp.1;refine⟨⟨Α1 _,λx hx=>?_⟩,λx hx=>?_,?_,G.dp⟩
 ·rcases Α.mp hx with rfl|hx
  ·exact hn
  ·exact G.ok.2 x hx
 ·rcases Α.mp hx with rfl|hx
  ·exact hg
  ·exact G.gd x hx
 ·simp only[Ε];omega
def UU.stm(F:UU wt S N){m:Stm}(h:bL S.stk=some m):m.gd wt:=by
 obtain⟨k,b,n,r,e,hm⟩:=gM h;exact Ip (F.sk.gd (k,b,n) 1e6) hm
def Jc(h:S.pl.Ok)(n:Str){w:Wo}(hw:dU w):({S with nm:=cB S.nm n w}:Pu).pl.Ok :=
 ⟨λx=>by show dU (iW (cB S.nm n w) x);rw[Gb];split;exact hw;exact h.nm x,h.ar,h.an⟩
theorem rC:∀(l:List 0e0) (k:Str) (r:List Wo) (j:Str) (ws:List Wo),aS (dG l k r) j=some ws->(j=k/\ws=r)\/aS l j=some ws
 | [],_,_,_,_,h=>by simp[dG,aS] at h
 | p::l,k,r,j,ws,h=>by
  by_cases e:p.1=k
  ·rw[dG,if_pos e,aS] at h;by_cases e2:p.1=j
   ·rw[if_pos e2] at h;cases h;exact .inl ⟨by rw[<- e2,e],rfl⟩
   ·rw[if_neg e2] at h;exact .inr (by rw[aS,if_neg e2];exact h)
  ·rw[dG,if_neg e,aS] at h;by_cases e2:p.1=j
   ·rw[if_pos e2] at h;exact .inr (by rw[aS,if_pos e2];exact h)
   ·rw[if_neg e2] at h;rcases rC l k r j ws h with x|x
    ·exact .inl x
    ·exact .inr (by rw[aS,if_neg e2];exact x)
theorem mT:∀(l:List 0e0) (k:Str) (r:List Wo),(dG l k r).length=l.length
 | [],_,_=>rfl
 | p::l,k,r=>by
  rw[dG];split
  ·rfl
  ·simp[mT l k r]
theorem Af(h:∀w∈ws,dU w):dU 2e7:=by
 unfold bB;cases e:ans.find? λp=>decide (some p.1∈ws) with
 | none=>exact kF
 | some p =>
  have:=List.find?_some e;exact h _ (by simpa using this)
def yS{α:Type}{p:α->Bool}{l:List α}:(l.filter p).length<=l.length:=Γ9 p l
theorem pO{i j:Int}:∀{l:List Int},j∈u9 i l↔j=i\/j∈l
 | []=>by simp[u9]
 | k::r=>by
  have ih:=pO (i:=i) (j:=j) (l:=r);simp only[u9];split
  ·simp
  ·split
   ·next h =>
    subst h;simp only[Α];constructor
    ·exact .inr
    ·rintro(z|z)
     ·exact .inl z
     ·exact z
   ·simp only[Α,ih];constructor
    ·rintro(z|z|z)
     ·exact .inr (.inl z)
     ·exact .inl z
     ·exact .inr (.inr z)
    ·rintro(z|z|z)
     ·exact .inr (.inl z)
     ·exact .inl z
     ·exact .inr (.inr z)
def Gx(h:j∈bK pend ws):some j∈ws:=by
 induction ws with
 | nil=>cases h
 | cons w r ih =>
  cases w with
  | none=>exact Ρ _ (ih h)
  | some i =>
   rw[bK] at h;split at h
   ·rcases pO.mp h with rfl|h
    ·exact Ε4 ..
    ·exact Ρ _ (ih h)
   ·exact Ρ _ (ih h)
theorem UU.bT(F:UU wt S N){m:Stm}(h:bL S.stk=some m)(hs:S.sl=.UL)(hN:N<=900000):UU wt (bT S m).1 3e0:=by
 have g:=F.stm h;have F1:=F.more 7e1;have put:∀(n:Str) {w:Wo},dU w->UU wt {S with nm:=cB S.nm n w} 3e0:=λn w hw =>
  {F1 with nm:=by (have:=B6 S.nm n w;have:=F.nm;show(cB S.nm n w).length<=N+1;omega),pl:=Jc F.pl n hw}
 have rF:∀n,UU wt (S.rF n) 3e0:=λn =>
  have hw:dU (some (S.made:Int)):=fL (by omega) (by have:=F.md;omega)
  {F1 with
   nm:=(put n hw).nm
   pl:=(put n hw).pl
   md:=(by have:=F.md;show S.made+1<=N+1;omega)
   pd:=(by have:=F.pd;show(S.pend++[(S.made:Int)]).length<=N+1;rw[Ξ];simp;exact this)}
 cases m with
 | set x s=>exact put x (Ef F g)
 | order x y s=>exact rF x
 | child x y s=>exact rF x
 | UX x s=>exact rF x
 | send s k r=>exact F1
 | drop s =>
  simp only[Internal.bT];split
  ·split
   ·exact {F1 with pd:=Λ yS 9e4}
   ·exact F1
  ·exact F1
 | wait x ss =>
  simp only[Internal.bT];split
  ·exact {F1 with sl:=⟨λk e=>0e7,λts e=>⟨x,ss,h⟩,λj e=>by
    rcases e with e|⟨ts,e,hj⟩
    ·cases e
    ·cases e;obtain⟨s,We,e⟩:=Ϛ.mp (Gx hj);exact e▸Ef F 7e6⟩}
  ·exact put x (Af λw hw=>by
    obtain⟨s,We,rfl⟩:=Ϛ.mp hw;exact Ef F 7e6)
 | UP x k =>
  simp only[Internal.bT];split
  ·next w r e =>
   obtain⟨ws,el,rfl⟩:∃ws,aS S.lt k=some ws/\ws=w::r:=by
    cases el:aS S.lt k with
    | none=>rw[el] at e;cases e
    | some ws=>rw[el] at e;exact⟨ws,rfl,e⟩
   have hl:=F.lw k _ el;exact {put x (hl.2 w 1e0) with
    lt:=(by have:=F.lt;show(dG S.lt k r).length<=N+1;rw[mT];omega)
    lw:=λj vs hj=>by
     rcases rC S.lt k r j vs hj with⟨_,rfl⟩|z
     ·exact⟨by have:=hl.1;simp only[Ε] at this;omega,λw hw=>hl.2 w (Ρ _ hw)⟩
     ·exact F1.lw j vs z}
  ·exact {F1 with sl:=⟨λk' e=>(by cases e;exact⟨x,h⟩),λts e=>0e7,λj e=>by rcases e with e|⟨_,e,_⟩<;>cases e⟩}
 | fin s=>exact {F1 with pd:=Α1 _,sl:=.no 2e1 2e1 λj z=>by injection z with z;exact z▸Ef F g}
 | U4 s b=>exact F1
 | iff s b o=>exact F1
def nG(h:s.isN=true):s=.UL:=by cases s<;>first|rfl|cases h
theorem UU.one(F:UU wt S N){m:Stm}(h:bL S.stk=some m)(hs:S.sl=.UL)(hN:N<=900000):UU wt (one S m).1 3e0:=by
 have g:=F.stm h;have F1:=F.more 7e1;have acG:∀{st:Stk},UU wt {S with stk:=st} 3e0->UU wt {S with stk:=st} 3e0:=λz=>z;have pass:∀{S':Pu},UU wt S' 3e0->S'.sl=.UL->S'.stk=S.stk->UU wt S'.pass 3e0:=λ{S'} z a b =>
  {z with sk:=(by have:=z.sk;rw[b] at this;show xW wt (fP S'.stk);rw[b];exact this.pass h),sl:=oY a}
 have enter:∀(c:Nat) (bb:List Stm),Hd wt bb->oS bb+1<=m.dp->UU wt (S.enter c bb) 3e0:=λc bb hg hd =>
  {F1 with sk:=F.sk.enter h hg hd,sl:=oY hs}
 by_cases hB:m.isB=true
 ·simp only[Internal.one,if_pos hB];cases m with
  | U4 s b =>
   simp only[sG];split
   ·exact pass F1 hs rfl
   ·exact enter 0 b g.2 (by simp[Stm.dp])
  | iff s b o =>
   simp only[sG];split
   ·exact enter 1 o g.2.2 1e5
   ·exact enter 0 b g.2.1 1e5
  | _=>cases hB
 ·simp only[Internal.one,if_neg hB];have D:=F.bT h hs hN;split
  ·next z=>exact pass D (nG z) (l9 S m)
  ·exact D
def j6{m:Stm}(h:m.isB=false):one S m=(if (bT S m).1.sl.isN=true then (bT S m).1.pass else (bT S m).1,(bT S m).2):=by simp[one,h]
def BR{m:Stm}(h:m.isB=true):one S m=(sG S m,[]):=by simp[one,h]
def kX:List.lookup (Str.ofString "set") [((Str.ofString "set":Str),s0),((Str.ofString "order":Str),s1),((Str.ofString "timer":Str),s2),((Str.ofString "child":Str),s3),((Str.ofString "send":Str),s4),((Str.ofString "drop":Str),s5),((Str.ofString "wait":Str),s6),((Str.ofString "hear":Str),s7),((Str.ofString "end":Str),s8)]=some s0:=by rw[LO]
def hE:List.lookup (Str.ofString "order") [((Str.ofString "set":Str),s0),((Str.ofString "order":Str),s1),((Str.ofString "timer":Str),s2),((Str.ofString "child":Str),s3),((Str.ofString "send":Str),s4),((Str.ofString "drop":Str),s5),((Str.ofString "wait":Str),s6),((Str.ofString "hear":Str),s7),((Str.ofString "end":Str),s8)]=some s1:=by rw[lW,LO]
def hJ:List.lookup (Str.ofString "timer") [((Str.ofString "set":Str),s0),((Str.ofString "order":Str),s1),((Str.ofString "timer":Str),s2),((Str.ofString "child":Str),s3),((Str.ofString "send":Str),s4),((Str.ofString "drop":Str),s5),((Str.ofString "wait":Str),s6),((Str.ofString "hear":Str),s7),((Str.ofString "end":Str),s8)]=some s2:=by rw[lW,lW,LO]
def g9:List.lookup (Str.ofString "child") [((Str.ofString "set":Str),s0),((Str.ofString "order":Str),s1),((Str.ofString "timer":Str),s2),((Str.ofString "child":Str),s3),((Str.ofString "send":Str),s4),((Str.ofString "drop":Str),s5),((Str.ofString "wait":Str),s6),((Str.ofString "hear":Str),s7),((Str.ofString "end":Str),s8)]=some s3:=by rw[lW,lW,lW,LO]
def i9:List.lookup (Str.ofString "send") [((Str.ofString "set":Str),s0),((Str.ofString "order":Str),s1),((Str.ofString "timer":Str),s2),((Str.ofString "child":Str),s3),((Str.ofString "send":Str),s4),((Str.ofString "drop":Str),s5),((Str.ofString "wait":Str),s6),((Str.ofString "hear":Str),s7),((Str.ofString "end":Str),s8)]=some s4:=by rw[lW,lW,lW,lW,LO]
def i7:List.lookup (Str.ofString "drop") [((Str.ofString "set":Str),s0),((Str.ofString "order":Str),s1),((Str.ofString "timer":Str),s2),((Str.ofString "child":Str),s3),((Str.ofString "send":Str),s4),((Str.ofString "drop":Str),s5),((Str.ofString "wait":Str),s6),((Str.ofString "hear":Str),s7),((Str.ofString "end":Str),s8)]=some s5:=by rw[lW,lW,lW,lW,lW,LO]
def jA:List.lookup (Str.ofString "wait") [((Str.ofString "set":Str),s0),((Str.ofString "order":Str),s1),((Str.ofString "timer":Str),s2),((Str.ofString "child":Str),s3),((Str.ofString "send":Str),s4),((Str.ofString "drop":Str),s5),((Str.ofString "wait":Str),s6),((Str.ofString "hear":Str),s7),((Str.ofString "end":Str),s8)]=some s6:=by rw[lW,lW,lW,lW,lW,lW,LO]
def i8:List.lookup (Str.ofString "hear") [((Str.ofString "set":Str),s0),((Str.ofString "order":Str),s1),((Str.ofString "timer":Str),s2),((Str.ofString "child":Str),s3),((Str.ofString "send":Str),s4),((Str.ofString "drop":Str),s5),((Str.ofString "wait":Str),s6),((Str.ofString "hear":Str),s7),((Str.ofString "end":Str),s8)]=some s7:=by rw[lW,lW,lW,lW,lW,lW,lW,LO]
def kW:List.lookup (Str.ofString "end") [((Str.ofString "set":Str),s0),((Str.ofString "order":Str),s1),((Str.ofString "timer":Str),s2),((Str.ofString "child":Str),s3),((Str.ofString "send":Str),s4),((Str.ofString "drop":Str),s5),((Str.ofString "wait":Str),s6),((Str.ofString "hear":Str),s7),((Str.ofString "end":Str),s8)]=some s8:=by rw[lW,lW,lW,lW,lW,lW,lW,lW,LO]
def deeds9{σ:Str->Sp->Prop}{y:Str}{sp:Sp}(h:List.lookup y [((Str.ofString "set":Str),s0),((Str.ofString "order":Str),s1),((Str.ofString "timer":Str),s2),((Str.ofString "child":Str),s3),((Str.ofString "send":Str),s4),((Str.ofString "drop":Str),s5),((Str.ofString "wait":Str),s6),((Str.ofString "hear":Str),s7),((Str.ofString "end":Str),s8)]=some sp)(z0:σ "set" s0)(z1:σ "order" s1)(z2:σ "timer" s2)(z3:σ "child" s3)(z4:σ "send" s4)(z5:σ "drop" s5)(z6:σ "wait" s6)(z7:σ "hear" s7)(z8:σ "end" s8):σ y sp:=by
 rcases Kq h with⟨rfl,rfl⟩|h
 ·exact z0
 rcases Kq h with⟨rfl,rfl⟩|h
 ·exact z1
 rcases Kq h with⟨rfl,rfl⟩|h
 ·exact z2
 rcases Kq h with⟨rfl,rfl⟩|h
 ·exact z3
 rcases Kq h with⟨rfl,rfl⟩|h
 ·exact z4
 rcases Kq h with⟨rfl,rfl⟩|h
 ·exact z5
 rcases Kq h with⟨rfl,rfl⟩|h
 ·exact z6
 rcases Kq h with⟨rfl,rfl⟩|h
 ·exact z7
 rcases Kq h with⟨rfl,rfl⟩|h
 ·exact z8
 cases h
def eL(h:bL S.bD.stk=none)(n:Nat):dX n S=S.bD.ends none:=by
 cases n<;>simp only[dX,h]
def jE{m:Stm}(h:bL S.bD.stk=some m):dX 0 S=S.bD.oJ:=by simp only[dX,h]
def nF{m:Stm}(h:bL S.bD.stk=some m)(z:(one S.bD m).1.sl.isN=true)(n:Nat):dX (n+1) S=((dX n (one S.bD m).1).1,(one S.bD m).2++(dX n (one S.bD m).1).2):=by simp only[dX,h,z,Γ1]
def jD{m:Stm}(h:bL S.bD.stk=some m)(z:(one S.bD m).1.sl.isN=false)(n:Nat):dX (n+1) S=one S.bD m:=by simp only[dX,h,z,Β4,Ϙ]
def Bj(S:Pu)(m:Stm):(bT S m).2.length<=1:=by
 cases m<;>simp only[bT,Pu.ends,Ε,ϔ,Α1,Ζ,Γ5]
 ·split
  ·split<;>simp
  ·simp
 ·split<;>simp
 ·split<;>simp
def Ex(S:Pu)(m:Stm):(one S m).2.length<=1:=by
 unfold one;split
 ·simp
 ·exact Bj S m
inductive Hap where
 | Vf (m:Int) (w:Wo)|don (m t:Int) (w:Wo)|ltr (m:Int) (k:Str) (w:Wo)
variable{hs:List Hap}
set_option backward.eqns.nonrecursive false in
def Hap.ini:Hap->List V
 | .Vf m _=>[.str "begin",.int m]
 | .don m t _=>[.str "done",.int m,.int t]
 | .ltr m k _=>[.str "letter",.int m,.str k]
def Hap.w:Hap->Wo
 | .Vf _ w | .don _ _ w | .ltr _ _ w=>w
def Hap.vs(h:Hap):List V:=h.ini++[wv h.w]
variable{vs:List V}
def Hap.m:Hap->Int
 | .Vf m _ | .don m _ _ | .ltr m _ _=>m
variable{m:Stm}
def lJ(H:Hp)(v:V)(h:Hap):Prop:=∃a,v=.ref a/\H a=some (.tup h.vs)
set_option backward.eqns.nonrecursive false in
def Pu.over(S:Pu)(h:Hap):Bool:=match S.sl with
 | .new=>(match h with
  | .Vf _ _=>false
  | _=>true)
 | .ended _=>true
 | .worn=>true
 | _=>(match h with
  | .Vf _ _=>true
  | .don _ i _=>!decide (i∈S.pend)
  | .ltr _ _ _=>false)
set_option backward.eqns.nonrecursive false in
def fJ(l:List 0e0)(k:Str)(w:Wo):List 0e0:=match aS l k with
 | some ws=>dG l k 5e2
 | none=>l++[(k,[w])]
def Pu.at'(S:Pu)(m:Int):Pu:={S with nw:=later S.nw m}
def Pu.done(S:Pu)(i:Int)(w:Wo):Pu:={S with pend:=S.pend.filter λj=>decide (j≠i),ans:=S.ans++[(i,w)]}
set_option backward.eqns.nonrecursive false in
def Pu.eV(S:Pu)(i:Int)(w:Wo):Pu×Cmds:=match S.sl with
 | .wait ts=>if i∈ts then (S.done i w).wake 6e2 else (S.done i w,[])
 | _=>(S.done i w,[])
set_option backward.eqns.nonrecursive false in
def Pu.eF(S:Pu)(k:Str)(w:Wo):Pu×Cmds:=match S.sl with
 | .UP k'=>if k'=k then S.wake w else ({S with lt:=fJ S.lt k w},[])
 | _=>({S with lt:=fJ S.lt k w},[])
def Pu.take(S:Pu)(h:Hap):Pu×Cmds:=if S.over h=true then (S,[]) else match h with
 | .Vf m w=>dX 300 {S with nw:=later S.nw m,ar:=w,sl:=.UL}
 | .don m i w=>(S.at' m).eV i w
 | .ltr m k w=>(S.at' m).eF k w
def dZ(b:List Stm):Pu:=⟨[(0,b,0)],.new,none,0,[],0,[],[],[]⟩
inductive JT(C:Cl)(vs:List V)(H:Hp)(Q:VK)(E:XK):Prop
 | mk (R:Rn) (as:List Addr) (sl:V) (S:Pu) (v:V) (h:Hap) (_:vs=[.ref R.x,v]) (_:bA C H R as sl S) (_:S.sl.isN=false) (_:lJ H v h) (_:∀H',Kp [] H H'->Q (.bl (S.over h)) H'):JT C vs H Q E
inductive E4(C:Cl)(wt:Bool)(vs:List V)(H:Hp)(Q:VK)(E:XK):Prop
 | mk (R:Rn) (as:List Addr) (sl:V) (S:Pu) (w:Wo) (N:Nat) (_:vs=[.ref R.x,wv w]) (_:bA C H R as sl S) (_:UU wt S N) (_:N<=700000) (_:dU w) (_:((∃k,S.sl=.UP k)\/∃ts,S.sl=.wait ts)) (_:Told C R as as H Q (S.wake w)):E4 C wt vs H Q E
inductive EZ(C:Cl)(wt:Bool)(vs:List V)(H:Hp)(Q:VK)(E:XK):Prop
 | mk (R:Rn) (as:List Addr) (sl:V) (S:Pu) (i:Int) (w:Wo) (N:Nat) (_:vs=[.ref R.x,.int i,wv w]) (_:bA C H R as sl S) (_:UU wt S N) (_:N<=600000) (_:dU w) (_:i∈S.pend) (_:S.sl.isN=false) (_:Told C R as as H Q (S.eV i w)):EZ C wt vs H Q E
def ME(C:Cl)(R:Rn)(as Vc:List Addr)(H:Hp)(Q:VK)(z:Pu×Cmds):Prop:=∀(sl:V) (c:Addr) (us:List V) (H':Hp),bA C H' R Vc sl z.1->H c=none->c∉Vc->H' c=some 6e1->iC H' us z.2->Fw R as Vc H H'->Q (.ref c) H'
inductive JX(C:Cl)(wt:Bool)(vs:List V)(H:Hp)(Q:VK)(E:XK):Prop
 | mk (R:Rn) (as:List Addr) (sl:V) (S:Pu) (k:Str) (w:Wo) (N:Nat) (_:vs=[.ref R.x,.str k,wv w]) (_:bA C H R as sl S) (_:UU wt S N) (_:N<=600000) (_:dU w) (_:((∃k,S.sl=.UP k)\/∃ts,S.sl=.wait ts)) (_:∀Vc,ME C R as Vc H Q (S.eF k w)):JX C wt vs H Q E
inductive E1(C:Cl)(wt:Bool)(vs:List V)(H:Hp)(Q:VK)(E:XK):Prop
 | mk (R:Rn) (as:List Addr) (sl:V) (S:Pu) (v:V) (h:Hap) (N:Nat) (_:vs=[.ref R.x,v]) (_:bA C H R as sl S) (_:UU wt S N) (_:N<=500000) (_:S.sl.isN=false) (_:lJ H v h) (_:((0<=h.m/\h.m<=1000000000000)/\dU h.w)) (_:∀Vc,ME C R as Vc H Q (S.take h)):E1 C wt vs H Q E
inductive AS(C:Cl)(vs:List V)(H:Hp)(Q:VK)(E:XK):Prop
 | mk (x dx pg:Addr) (us:List V) (b:List Stm) (_:vs=[.ref x,.ref pg]) (_:H x=some 3e3) (_:H pg=some 2e4) (_:bY H us b) (_:∀(R:Rn) (sl:V) (H':Hp),R.x=x->bA C H' R [] sl 8e1->Kp [x] H H'->(∀a∈R.cells,a=x\/H a=none)->Q .UL H'):AS C vs H Q E
theorem tI(i:Int)(ts:List Int):u7 (.int i) (ts.map V.int)=decide (i∈ts):=by
 rw[Bool.eq_iff_iff];simp[u7,g8,iI,kS,kR,kQ]
def nE(ts:List Int):(ts.map V.int).all eK=true:=by simp[eK]
theorem LH{K:q0B}{b:Addr}{z x y:Str}(n:Nat)(ha:H a=some (.tup [.str z,.str x]))(hb:H b=some (.tup [.str z,.str y])):qO K H (n+1) a b (decide (x=y)):=by
 have:=qO.tup (K:=K) (H:=H) (n:=n) (e:=λj=>if j=0 then true else decide (x=y)) (iR.of ha) (iR.of hb) λj u v e1 e2=>by
  rcases j with _|_|j
  ·simp only[Ο,Υ] at e1 e2;subst e1 e2;have:=xU.flat (K:=K) (H:=H) (n:=n) (x:=.str z) (y:=.str z) rfl rfl
   rwa [show yR (.str z) (.str z)=true by simp[g8,iI,kS,kR,kQ]] at this
  ·simp only[List.getElem?_cons_succ,Ο,Υ] at e1 e2;subst e1 e2;have:=xU.flat (K:=K) (H:=H) (n:=n) (x:=.str x) (y:=.str y) rfl rfl
   rwa [g8] at this
  ·simp at e1
 rw[show((List.range (min [V.str z,V.str x].length [V.str z,V.str y].length)).all (λj=>if j=0 then true else decide (x=y))&&[V.str z,V.str x].length==[V.str z,V.str y].length)=decide (x=y) by simp[List.range_succ]] at this;exact this
theorem UU.at'(F:UU wt S N){m:Int}(h:0<=m/\m<=1000000000000):UU wt (S.at' m) N :=
 {F with pl:=⟨F.pl.nm,F.pl.ar,F.pl.an⟩,nw:=(by have:=F.nw;show 0<=later S.nw m/\later S.nw m<=1000000000000;unfold later;split<;>omega)}
theorem vF{i:Int}{w:Wo}:∀(l:List 2e0) (x:Wo),fG 6e6 x=fG l x\/fG 6e6 x=w
 | _,none=>.inl (by simp[fG])
 | [],some j=>by
  by_cases h:i=j
  ·exact .inr 4e3
  ·exact .inl 4e3
 | p::r,some j=>by
  by_cases h:p.1=j
  ·exact .inl 4e3
  ·rcases vF (i:=i) (w:=w) r (some j) with z|z
   ·exact .inl 9e5
   ·exact .inr 9e5
def UU.done(F:UU wt S N){w:Wo}(hw:dU w):UU wt (S.done i w) 3e0 :=
 {F.more 7e1 with
  pd:=Λ yS 9e4
  an:=(by have:=F.an;show(S.ans++[(i,w)]).length<=N+1;simp;exact this)
  pl:=⟨F.pl.nm,F.pl.ar,λx=>(by
   show dU (fG (S.ans++[(i,w)]) x);rcases vF (i:=i) (w:=w) S.ans x with z|z
   ·rw[z];exact F.pl.an x
   ·rw[z];exact hw)⟩}
theorem vI{k:Str}{ws:List Wo}:∀(l:List 0e0) (j:Str) (vs:List Wo),aS (l++[(k,ws)]) j=some vs->(j=k/\vs=ws)\/aS l j=some vs
 | [],j,vs,h=>by
  rw[Α3,aS] at h;by_cases e:k=j
  ·rw[if_pos e] at h;cases h;exact .inl ⟨e.symm,rfl⟩
  ·rw[if_neg e] at h;cases h
 | p::r,j,vs,h=>by
  rw[ϐ,aS] at h;by_cases e:p.1=j
  ·rw[if_pos e] at h;exact .inr (by rw[aS,if_pos e];exact h)
  ·rw[if_neg e] at h;rcases vI r j vs h with z|z
   ·exact .inl z
   ·exact .inr (by rw[aS,if_neg e];exact z)
theorem UU.fJ(F:UU wt S N){w:Wo}(hw:dU w):UU wt {S with lt:=fJ S.lt k w} 3e0:=by
 have F1:=F.more 7e1;unfold Internal.fJ;cases e:aS S.lt k with
 | some ws =>
  have hl:=F.lw k ws e;exact {F1 with
   lt:=(by have:=F.lt;show(dG S.lt k 5e2).length<=N+1;rw[mT];omega)
   lw:=λj vs h=>by
    rcases rC S.lt k _ j vs h with⟨_,rfl⟩|z
    ·exact⟨by have:=hl.1;simp;exact this,λu hu=>by
      rcases Κ.mp hu with hu|hu
      ·exact hl.2 u hu
      ·rw[show u=w by simpa using hu];exact hw⟩
    ·exact F1.lw j vs z}
 | none =>
  exact {F1 with
   lt:=(by have:=F.lt;show(S.lt++[(k,[w])]).length<=N+1;simp;exact this)
   lw:=λj vs h=>by
    rcases vI S.lt j vs h with⟨_,rfl⟩|z
    ·exact⟨by simp,λu hu=>by rw[show u=w by simpa using hu];exact hw⟩
    ·exact F1.lw j vs z}
theorem AL{k:Str}{a b:List Wo}:∀{l:List 0e0},aS l k=none->dG (l++[(k,a)]) k b=l++[(k,b)]
 | [],_=>by simp[dG]
 | p::r,h=>by
  rw[aS] at h;by_cases e:p.1=k
  ·rw[if_pos e] at h;cases h
  ·rw[if_neg e] at h;rw[ϐ,dG,if_neg e,AL h];rfl
theorem UU.wake(F:UU wt S N)(h:bL S.stk=some m){w:Wo}(hw:dU w)(n:Str):UU wt {S with nm:=cB S.nm n w,stk:=fP S.stk,sl:=.UL} 3e0 :=
 {F.more 7e1 with
  nm:=(by have:=B6 S.nm n w;have:=F.nm;show(cB S.nm n w).length<=N+1;omega)
  pl:=(Jc F.pl n hw)
  sk:=F.sk.pass h
  sl:=oY rfl}
def Uc{x:Addr}{p:Addr}{u:HO}(k:Kp [x] H G)(gx:G x=some u)(hp:G p=none):H p=none:=by
 cases z:H p with
 | none=>rfl
 | some o =>
  by_cases hz:p=x
  ·subst hz;rw[gx] at hp;cases hp
  ·rw[k.at1 z hz] at hp;cases hp
def LS{pg:Addr}{Q:Addr->Hp->Prop}(ep:H1 pg=some 2e4)(hs:bY H1 us b)(q:∀x wx lb ln H',Kp [] H1 H'->H1 x=none->H1 lb=none->H1 ln=none->jS C H' x wx lb ln [(0,b,0)]->Q x H') : ∀x dx,H1 x=none->H1 dx=none->dx≠x->xG C [.ref x,.ref pg] 9e1 9e2 E:=λx dx hx hdx ne=>by
 have K1:Kp [] H1 9e1:=(Kp.new hdx).trans 8e2;exact⟨x,dx,pg,us,b,rfl,aA,K1.at ep,hs.kp 3e7,λlb ln H' f1 f2 W K=>⟨rfl,q x dx lb ln H' 9e3 hx 9e6 8e6 W⟩⟩
def RS{Q:Addr->Hp->Prop}(q:∀x tx dp da H',Kp [] H1 H'->H1 x=none->H1 dp=none->H1 da=none->i6 C H' x tx dp da 0 [] []->Q x H') : ∀x dx,H1 x=none->H1 dx=none->dx≠x->xF C [.ref x] 9e1 9e2 E:=λx dx hx hdx ne=>by
 have K1:Kp [] H1 9e1:=(Kp.new hdx).trans 8e2;exact⟨x,dx,rfl,aA,λdp da H' f1 f2 T K=>⟨rfl,q x dx dp da H' 9e3 hx 9e6 8e6 T⟩⟩
def IQ{C:Cl}{pg:Addr}{Q:Addr->Hp->Prop}(ep:H1 pg=some 2e4)(hs:bY H1 us b)(q:∀(R:Rn) (sl:V) H',bA C H' R [] sl 8e1->Kp [] H1 H'->(∀a∈R.cells,H1 a=none)->Q R.x H') : ∀x dx,H1 x=none->H1 dx=none->dx≠x->AS C [.ref x,.ref pg] (UK 4e4 x 3e3) 9e2 E:=λx dx hx hdx ne=>by
 have K1:Kp [] H1 (UK 4e4 x 3e3):=(Kp.new hdx).trans 8e2;refine⟨x,dx,pg,us,b,rfl,aA,K1.at ep,hs.kp 3e7,λR sl H' e1 A K M=>⟨rfl,?_⟩⟩;subst e1;exact q R sl H' A 9e3 λa ha=>by
  rcases M a ha with rfl|z
  ·exact hx
  ·exact dA (dA z)
inductive zT(C:Addr)(vs:List V)(H:Hp)(Q:VK)(E:XK):Prop
 | mk (tk tx dp da l:Addr) (made:Nat) (pend:List Int) (ans:List 2e0) (ws:List Wo) (_:vs=[.ref tk,.ref l]) (_:i6 C H tk tx dp da made pend ans) (_:H l=some (.lst 4e2)) (_:ws.length<=4) (_:ans.length<=1000000) (_:∀H',Kp [] H H'->Q (wv 2e7) H'):zT C vs H Q E
def IA(ans:List 2e0)(w:Wo):Bool:=ans.any λp=>decide (w=some p.1)
def cA(ans:List 2e0):List Wo->List Int
 | []=>[]
 | none::r=>cA ans r
 | some i::r=>if IA ans 6e2=true then i::cA ans r else cA ans r
def Ky(ans:List 2e0)(w:Wo):(aZ (iD ans) (wk w)).isSome=IA ans w:=by
 induction ans with
 | nil=>simp[iD,xQ,IA]
 | cons p r ih =>
  have e:iD (p::r)=(Key.inl p.1,wv p.2)::iD r:=rfl;rw[e];by_cases h:w=some p.1
  ·subst h;rw[show wk (some p.1)=Key.inl p.1 from rfl,cL rfl];simp[IA]
  ·rw[cD (λz=>h (by cases w with
    | none=>cases z
    | some j=>cases z;rfl)),ih]
   simp[IA,h]
def IB(ans:List 2e0):IA ans none=false:=by simp[IA]
theorem qU(ans:List 2e0):∀(l r:List Wo),cA ans (l++r)=cA ans l++cA ans r
 | [],r=>rfl
 | none::l,r=>by simp only[ϐ,cA,qU ans l r]
 | some i::l,r=>by
  simp only[ϐ,cA,qU ans l r];split<;>simp
def CW{i:Nat}{w:Wo}(e:ws[i]?=some w):(cA ans 0e6).map V.int=if IA ans w=true then (cA ans 3e2).map V.int++[wv w] else (cA ans 3e2).map V.int:=by
 rw[Β3,e];simp only[Α5,qU,Α4];cases w with
 | none=>rw[IB];simp[cA]
 | some j =>
  simp only[cA];split<;>simp[wv]
theorem nD(ans:List 2e0):∀ws:List Wo,(cA ans ws).length<=ws.length
 | []=>Ζ _
 | none::r=>by have:=nD ans r;simp only[cA,Ε];omega
 | some i::r=>by
  have:=nD ans r;simp only[cA,Ε];split
  ·simp only[Ε];omega
  ·omega
theorem kG{ans:List 2e0}{i:Int}:∀{ws:List Wo},i∈cA ans ws↔IA ans 6e2=true/\some i∈ws
 | []=>by simp[cA]
 | none::r=>by simp[cA,kG (ws:=r)]
 | some j::r=>by
  have ih:=kG (ans:=ans) (i:=i) (ws:=r);simp only[cA];split
  ·next h =>
   simp only[Α,ih,Υ];constructor
   ·rintro(rfl|⟨a,b⟩)
    ·exact⟨h,.inl rfl⟩
    ·exact⟨a,.inr b⟩
   ·rintro⟨a,b|b⟩
    ·exact .inl b
    ·exact .inr ⟨a,b⟩
  ·next h =>
   rw[ih];simp only[Α,Υ];constructor
   ·rintro⟨a,b⟩;exact⟨a,.inr b⟩
   ·rintro⟨a,b|b⟩
    ·subst b;exact absurd a h
    ·exact⟨a,b⟩
theorem Bt(i:Int):∀ns:List Int,u7 (.int i) (ns.map V.int)=decide (i∈ns)
 | []=>by simp[u7]
 | n::r=>by
  have ih:=Bt i r;simp only[u7,ϑ,List.any_cons] at ih ⊢;rw[ih];by_cases h:n=i
  ·subst h;simp[g8,iI,kS,kR,kQ]
  ·have:yR (V.int n) (V.int i)=false:=by simp[g8,iI,kS,kR,kQ,h]
   rw[this];simp[Ne.symm h]
theorem uR{α:Type}{p q:α->Bool}:∀{l:List α},(∀x∈l,p x=q x)->l.find? p=l.find? q
 | [],_=>rfl
 | x::l,h=>by
  simp only[List.find?,h x 1e0,uR λy hy=>h y (Ρ _ hy)]
theorem uS(ans:List 2e0)(ws:List Wo):bB ans ws=((ans.map (·.1)).filter λi=>decide 1e2).head?:=by
 unfold bB;rw[List.head?_filter,List.find?_map]
 congr 1
 refine uR λp hp=>?_;have:IA ans (some p.1)=true:=by simp only[IA,List.any_eq_true];exact⟨p,hp,by simp⟩
 simp only[Function.comp,kG,this,true_and]
theorem wC{val:Nat->Int}{j:Int}:∀{n:Nat},j∈once val n↔∃k,k < n/\val k=j
 | 0=>by simp[once]
 | n+1=>by
  have ih:=wC (val:=val) (j:=j) (n:=n);have up:(∃k,k < n+1/\val k=j)↔(∃k,k < n/\val k=j)\/val n=j:=by
   constructor
   ·rintro⟨k,hk,e⟩;by_cases h:k=n
    ·subst h;exact .inr e
    ·exact .inl ⟨k,by omega,e⟩
   ·rintro(⟨k,hk,e⟩|e)
    ·exact⟨k,by omega,e⟩
    ·exact⟨n,by omega,e⟩
  rw[up,once];split
  ·next h =>
   rw[ih];constructor
   ·exact .inl
   ·rintro(z|z)
    ·exact z
    ·subst z;exact wC.mp h
  ·simp only[Κ,Γ7,ih];constructor
   ·rintro(z|z)
    ·exact .inl z
    ·exact .inr z.symm
   ·rintro(z|z)
    ·exact .inl z
    ·exact .inr z.symm
def nM:j∈lL ns↔j∈ns:=by
 unfold lL;rw[wC,List.mem_iff_getElem];constructor
 ·rintro⟨k,hk,e⟩;exact⟨k,hk,by rw[Ε7,ϕ hk] at e;exact e⟩
 ·rintro⟨k,hk,e⟩;exact⟨k,hk,by rw[Ε7,ϕ hk];exact e⟩
def Jh(h:(lL ns).length < 2)(hi:i∈ns)(hj:j∈ns):i=j:=by
 have a:=nM.mpr hi;have b:=nM.mpr hj
 match e:lL ns,h with
 | [],_=>rw[e] at a;cases a
 | [x],_ =>
  rw[e] at a b;rw[Γ7.mp a,Γ7.mp b]
theorem FE(h:(lL 8e3).length < 2):bB ans ws=(cA ans ws).head?:=by
 rw[uS];cases e:cA ans ws with
 | nil=>simp
 | cons i r =>
  have hi:i∈cA ans ws:=by rw[e];simp
  have he:∀j∈cA ans ws,j=i:=λj hj=>Jh h hj hi;obtain⟨p,hp,ep⟩:=List.any_eq_true.mp (kG.mp hi).1;have ep:i=p.1:=by simpa using ep
  show _=some i;have hm:i∈((ans.map (·.1)).filter λj=>decide 0e4):=Α6.mpr ⟨Ϛ.mpr ⟨p,hp,ep.symm⟩,by simp⟩;cases z:((ans.map (·.1)).filter λj=>decide 0e4) with
  | nil=>rw[z] at hm;cases hm
  | cons x xs =>
   have hx:x∈((ans.map (·.1)).filter λj=>decide 0e4):=by rw[z];simp
   have:=he x (by rw[e];simpa using(Α6.mp hx).2);rw[this];rfl
theorem C0(h:¬ (lL 8e3).length < 2):∃i r,((ans.map (·.1)).filter λi=>decide 1e2)=i::r/\bB ans ws=some i:=by
 have hf:=uS ans ws;cases z:((ans.map (·.1)).filter λi=>decide 1e2) with
 | cons i r=>rw[z] at hf;exact⟨i,r,rfl,hf⟩
 | nil =>
  exfalso;cases e:lL 8e3 with
  | nil=>rw[e] at h;exact h 1e0
  | cons i r =>
   have hi:i∈cA ans ws:=nM.mp 1e6;obtain⟨p,hp,ep⟩:=List.any_eq_true.mp (kG.mp hi).1;have ep:i=p.1:=by simpa using ep
   have hm:i∈((ans.map (·.1)).filter λi=>decide 1e2):=Α6.mpr ⟨Ϛ.mpr ⟨p,hp,ep.symm⟩,by simpa using hi⟩;rw[z] at hm;cases hm
def gJ.atW(h:gJ H vs ss):∀{i:Nat} {x:V},vs[i]?=some x->∃y,ss[i]?=some y/\dE H x y:=by
 induction h with
 | nil=>intro i x e;simp at e
 | cons h _ ih =>
  intro i x e;cases i with
  | zero=>simp only[Ο,Υ] at e;subst e;exact⟨_,rfl,h⟩
  | succ i=>exact ih 1e3
def gJ.Po(h:gJ H vs ss):vs.length=ss.length:=by
 induction h with
 | nil=>rfl
 | cons _ _ ih=>simp[ih]
def dO(pend:List Int):List Wo->List Int
 | []=>[]
 | none::r=>dO pend r
 | some i::r=>if i∈pend then i::dO pend r else dO pend r
theorem rO(pend:List Int):∀(l r:List Wo),dO pend (l++r)=dO pend l++dO pend r
 | [],r=>rfl
 | none::l,r=>by simp only[ϐ,dO,rO pend l r]
 | some i::l,r=>by
  simp only[ϐ,dO,rO pend l r];split<;>simp
theorem Dr{i:Nat}{w:Wo}(e:ws[i]?=some w):(dO pend 0e6).map V.int=if decide (∃j∈pend,w=some j)=true then (dO pend 3e2).map V.int++[wv w] else (dO pend 3e2).map V.int:=by
 rw[Β3,e];simp only[Α5,rO,Α4];cases w with
 | none=>simp[dO]
 | some j =>
  by_cases h:j∈pend
  ·simp[dO,h,wv]
  ·simp[dO,h]
theorem kI(pend:List Int):∀ws:List Wo,(dO pend ws).length<=ws.length
 | []=>Ζ _
 | none::r=>by have:=kI pend r;simp only[dO,Ε];omega
 | some i::r=>by
  have:=kI pend r;simp only[dO,Ε];split
  ·simp only[Ε];omega
  ·omega
theorem Bu{i:Int}:∀{l:List Int},l.Pairwise (· < ·)->(u9 i l).Pairwise (· < ·)
 | [],_=>by simp[u9]
 | k::r,h=>by
  obtain⟨h1,h2⟩:=Γ0.mp h;simp only[u9];split
  ·next c=>exact Γ0.mpr ⟨λx hx=>by
    rcases Α.mp hx with rfl|hx
    ·exact c
    ·have:=h1 x hx;omega,h⟩
  ·split
   ·exact h
   ·exact Γ0.mpr ⟨λx hx=>by
     rcases pO.mp hx with rfl|hx
     ·omega
     ·exact h1 x hx,Bu h2⟩
theorem gL(pend:List Int):∀ws:List Wo,(bK pend ws).Pairwise (· < ·)
 | []=>.nil
 | none::r=>gL pend r
 | some i::r=>by
  simp only[bK];split
  ·exact Bu (gL pend r)
  ·exact gL pend r
theorem k6{pend:List Int}{j:Int}:∀{ws:List Wo},j∈bK pend ws↔j∈dO pend ws
 | []=>by simp[bK,dO]
 | none::r=>by simp only[bK,dO];exact k6
 | some i::r=>by
  have ih:=k6 (pend:=pend) (j:=j) (ws:=r);simp only[bK,dO];split
  ·rw[pO,ih,Α]
  ·exact ih
theorem wD(val:Nat->Int):∀n,(once val n).Nodup
 | 0=>by simp[once]
 | n+1=>by
  have ih:=wD val n;rw[once];split
  ·exact ih
  ·next h=>exact ϙ.mpr ⟨ih,by simp,λa ha b hb=>by
    rw[Γ7.mp hb];exact λz=>h 3e4⟩
theorem BV(hp:ns.Perm (lL (dO pend ws)))(hs:ns.Pairwise (·<=·)):ns=bK pend ws:=by
 refine mU (hp.trans ?_) hs (gL pend ws);refine(List.perm_ext_iff_of_nodup (wD _ _) ((gL pend ws).imp λh=>by omega)).mpr λj=>?_;show j∈lL _↔_;rw[nM,k6]
inductive fI(H:Hp):List V->List 4e0->Prop
 | nil:fI H [] []
 | cons {a:Addr} {x y:V} {us:List V} {ps:List 4e0}:H a=some 7e3->fI H us ps->fI H 1e7 ((x,y)::ps)
def fI.kt{ps:List 4e0}(h:fI H us ps)(k:aD H H'):fI H' us ps:=by
 induction h with
 | nil=>exact .nil
 | cons a _ ih=>exact .cons (k _ _ a) ih
def fI.snoc{ps:List 4e0}{x:V}(h:fI H us ps)(e:H a=some 7e3):fI H 2e6 (ps++[(x,y)]):=by
 induction h with
 | nil=>exact .cons e .nil
 | cons b _ ih=>exact .cons b ih
def fI.len{ps:List 4e0}(h:fI H us ps):us.length=ps.length:=by
 induction h with
 | nil=>rfl
 | cons _ _ ih=>simp[ih]
theorem fI.of{H:Hp}:∀{as:List Addr} {ps:List 4e0},as.length=ps.length->(∀(j:Nat) (a:Addr) (x y:V),as[j]?=some a->ps[j]?=some (x,y)->H a=some 7e3)->fI H (as.map V.ref) ps
 | [],[],_,_=>.nil
 | [],_::_,h,_=>by simp at h
 | _::_,[],h,_=>by simp at h
 | a::as,(x,y)::ps,h,g=>.cons (g 0 a x y rfl rfl) (fI.of (by simpa using h) λj b x y e1 e2=>g (j+1) b x y (by simpa using e1) (by simpa using e2))
inductive iM(H:Hp):List V->List 0e0->Prop
 | nil:iM H [] []
 | cons {a b:Addr} {k:Str} {ws:List Wo} {us:List V} {ps:List 0e0}:H a=some 2e5->H b=some (.tup 4e2)->iM H us ps->iM H 1e7 ((k,ws)::ps)
def iM.kt(h:iM H us ps)(k:aD H H'):iM H' us ps:=by
 induction h with
 | nil=>exact .nil
 | cons a b _ ih=>exact .cons (k _ _ a) (k _ _ b) ih
def iM.snoc{b:Addr}(h:iM H us ps)(e:H a=some 2e5)(f:H b=some (.tup 4e2)):iM H 2e6 (ps++[(k,ws)]):=by
 induction h with
 | nil=>exact .cons e f .nil
 | cons c d _ ih=>exact .cons c d ih
def iM.len(h:iM H us ps):us.length=ps.length:=by
 induction h with
 | nil=>rfl
 | cons _ _ _ ih=>simp[ih]
def eP(nm:List 1e1):List Str->List 4e0
 | []=>[]
 | n::r=>if iW nm n=none then eP nm r else (.str n,wv (iW nm n))::eP nm r
theorem zA(nm:List 1e1):∀l r:List Str,eP nm (l++r)=eP nm l++eP nm r
 | [],_=>rfl
 | n::l,r=>by
  simp only[ϐ,eP,zA nm l r];split<;>rfl
def gP(lt:List 0e0):List Str->List 0e0
 | []=>[]
 | k::r=>if (aS lt k).getD []=[] then gP lt r else (k,(aS lt k).getD [])::gP lt r
theorem y7(lt:List 0e0):∀l r:List Str,gP lt (l++r)=gP lt l++gP lt r
 | [],_=>rfl
 | n::l,r=>by
  simp only[ϐ,gP,y7 lt l r];split<;>rfl
theorem nK(nm:List 1e1):∀l:List Str,(eP nm l).length<=l.length
 | []=>Ζ _
 | n::l=>by
  have:=nK nm l;simp only[eP];split<;>simp only[Ε]<;>omega
theorem nI(lt:List 0e0):∀l:List Str,(gP lt l).length<=l.length
 | []=>Ζ _
 | n::l=>by
  have:=nI lt l;simp only[gP];split<;>simp only[Ε]<;>omega
def Pu.nmS(S:Pu):List 4e0:=eP S.nm (srt (S.nm.map (·.1)))
def Pu.ltS(S:Pu):List 0e0:=gP S.lt (srt (S.lt.map (·.1)))
def Pu.anS(S:Pu):List 4e0:=S.ans.map λp=>(.int p.1,wv p.2)
set_option backward.eqns.nonrecursive false in
def Slp.uZ:Slp->Bool
 | .wait _=>true
 | .UP _=>true
 | _=>false
def oK(H:Hp)(v:V)(S:Pu):Prop:=if S.sl.uZ=true then ∃(p pl pn po pa pt:Addr) (sl:V) (un ua ut:List V),v=.ref p/\H p=some (.tup [sl,.ref pl,wv S.ar,.int S.nw,.ref pn,.int S.made,.ref po,.ref pa,.ref pt])/\iO H sl S.sl /\
    H pl=some (.tup ((bX S.stk).map V.int))/\H pn=some (.tup un)/\fI H un S.nmS/\H po=some (.tup 2e3)/\H pa=some (.tup ua)/\fI H ua S.anS/\H pt=some (.tup ut)/\iM H ut S.ltS
  else iO H v S.sl
theorem Fd:∀nm:List 1e1,jC (fH nm)=some (nm.map (·.1))
 | []=>rfl
 | p::r=>by
  have ih:=Fd r;show(jC (fH r)).map (p.1::·)=_;rw[ih];rfl
def Ms{as:List Addr}(h:fW H kvs as lt):jC kvs=some (lt.map (·.1)):=by
 induction h with
 | nil=>rfl
 | @cons a k ws kvs as lt _ _ ih =>
  show(jC kvs).map (k::·)=_;rw[ih];rfl
theorem IX:∀{nm:List 1e1} {n:Str},n∈nm.map (·.1)->aZ (fH nm) (.inr n)=some (wv (iW nm n))
 | [],n,h=>by simp at h
 | p::r,n,h=>by
  show aZ ((Key.inr p.1,wv p.2)::fH r) (.inr n)=_;by_cases e:p.1=n
  ·rw[cL (by rw[e]),iW,if_pos e]
  ·rw[cD (λz=>e 3e1),iW,if_neg e];refine IX ?_;rcases Α.mp h with h|h
   ·exact absurd h.symm e
   ·exact h
def fW.inS{as:List Addr}(h:fW H kvs as lt)(hk:k∈lt.map (·.1)):∃a ws,aZ kvs 7e2=some (.ref a)/\aS lt k=some ws/\H a=some (.lst 4e2):=by
 rcases h.look k with⟨_,e⟩|⟨a,ws,x,y,_,u⟩
 ·exfalso;clear h
  induction lt with
  | nil=>simp at hk
  | cons p r ih =>
   simp only[aS] at e;split at e
   ·cases e
   ·next hp =>
    rcases Α.mp hk with z|z
    ·exact hp z.symm
    ·exact ih z e
 ·exact⟨a,ws,x,y,u⟩
def iO.word(h:iO H v s)(hn:s.isN=false):∃(p:Addr) (s0:Str) (r0:List V),v=.ref p/\H p=some (.tup (.str s0::r0))/\u7 (.str s0) [.str "wait",.str "hear"]=s.uZ:=by
 cases s with
 | UL=>cases hn
 | new=>obtain⟨p,rfl,e⟩:=h;exact⟨p,_,_,rfl,e,by kernel_rfl⟩
 | wait ts=>obtain⟨p,p2,rfl,e,_⟩:=h;exact⟨p,_,_,rfl,e,by kernel_rfl⟩
 | UP k=>obtain⟨p,rfl,e⟩:=h;exact⟨p,_,_,rfl,e,by kernel_rfl⟩
 | ended w=>obtain⟨p,rfl,e⟩:=h;exact⟨p,_,_,rfl,e,by kernel_rfl⟩
 | worn=>obtain⟨p,rfl,e⟩:=h;exact⟨p,_,_,rfl,e,by kernel_rfl⟩
def cO{c:TT}{t u:TS}{D:Ends}(h:∀R:St->Hp->Prop,(∀Z' H',t D Z' H'->R Z' H')->Cy c (λ_=>R) u D Z H):Cy c t u D Z H:=h (t D) λ_ _ z=>z
inductive EX(C:Addr)(vs:List V)(H:Hp)(Q:VK)(E:XK):Prop
 | mk (wk wx lb ln:Addr) (st:Stk) (_:vs=[.ref wk]) (_:jS C H wk wx lb ln st) (_:∀p,H p=none->Q (.ref p) (UK H p (.tup ((bX st).map V.int)))):EX C vs H Q E
inductive EY(C:Cl)(vs:List V)(H:Hp)(Q:VK)(E:XK):Prop
 | mk (R:Rn) (as:List Addr) (sl:V) (S:Pu) (_:vs=[.ref R.x]) (_:bA C H R as sl S) (_:S.sl.isN=false) (_:S.pend.length<=1000000) (_:S.nm.length < 64) (_:S.lt.length < 64) (_:S.ans.length<=1000000) (_:(∀k ws,aS S.lt k=some ws->ws.length<=1000000)) (_:∀(v:V) (H':Hp),oK H' v S->Kp [] H H'->Q v H'):EY C vs H Q E
def Stm.Bw:Stm->Bool
 | .set _ _ | .order _ _ _ | .UX _ _ | .child _ _ _ | .send _ _ _ | .drop _=>true
 | _=>false
theorem MO{M:Int}(h:0 < M)(h':M<=2 ^ 62)(j:Int):CMul (i % M) j:=by
 have:=Int.emod_nonneg i (show M≠0 by omega);have:=Int.emod_lt_of_pos i h;exact .inl ⟨by omega,by omega⟩
def ix32:x9 3 2=some 2:=rfl
structure bM(H:Hp)(r:Addr)(n:Nat):Prop where
 ex:∃c m s:Int,H r=some (.lst [.int c,.int m,.int s])/\0<=s/\s<=n
def bM.kp{r:Addr}{n:Nat}(R:bM H r n)(h:Kp [] H H'):bM H' r n:=by
 obtain⟨c,m,s,e,x⟩:=R;exact⟨c,m,s,h _ _ e 1e0,x⟩
def bM.new{r p:Addr}{n:Nat}(R:bM H r n)(h:H p=none):bM 0e1 r n:=R.kp (Kp.new h)
def bM.none{r p:Addr}{n:Nat}(R:bM H r n)(h:H p=Option.none):p≠r:=by
 obtain⟨c,m,s,e,_⟩:=R;exact(aF e h).symm
def made1{r p:Addr}{n:Nat}(x:Kp [r] 0e1 H')(R:bM H r n)(h:H p=none):H' p=some o:=x.at1 aA (R.none h)
def ER:Sp:=λvs H Q _=>∃(r:Addr) (m:Int) (n:Nat),vs=[.ref r,.int m]/\0 < m/\m<=10 ^ 45/\bM H r n/\n<=100000/\∀(g:Int) (H':Hp),0<=g->g < m->bM H' r (n+1)->Kp [r] H H'->Q (.int g) H'
def Mc{r:Addr}{m:Int}:ER [.ref r,.int m] H Q E=(0 < m/\m<=10 ^ 45/\∃n,bM H r n/\n<=100000/\∀(g:Int) (H':Hp),0<=g->g < m->bM H' r (n+1)->Kp [r] H H'->Q (.int g) H') :=
 propext ⟨fun⟨_,_,n,e,a,b,c⟩=>by cases e;exact⟨a,b,n,c⟩,fun⟨a,b,n,c⟩=>⟨_,_,n,rfl,a,b,c⟩⟩
inductive JM(vs:List V)(H:Hp)(Q:VK)(E:XK):Prop
 | mk (z:Int) (k:Nat) (_:vs=[.int z,.int k]) (_:∀r H',H r=none->Kp [] H H'->bM H' r k->Q (.ref r) H'):JM vs H Q E
def Stm.IV(L:List Str)(m:Stm):Prop:=Stm.rec (motive_1:=λ_=>Prop) (motive_2:=λ_=>Prop) 8e0 0e2 8e0 0e2 8e5 2e2 8e0 0e5 2e2 4e6 3e5 True 6e5 m
def pR(L:List Str)(b:List Stm):Prop:=Stm.rec_1 (motive_1:=λ_=>Prop) (motive_2:=λ_=>Prop) 8e0 0e2 8e0 0e2 8e5 2e2 8e0 0e5 2e2 4e6 3e5 True 6e5 b
def IW{i:Nat}(g:pR L b)(h:b[i]?=some m):m.IV L:=by
 induction b generalizing i with
 | nil=>cases h
 | cons y r ih =>
  cases i with
  | zero =>
   obtain rfl:y=m:=ϓ h;exact g.1
  | succ i=>exact ih g.2 h
theorem GJ(l:List 1e1)(n:Str)(w:Wo):(cB l n w).map (·.1)=if n∈l.map (·.1) then l.map (·.1) else l.map (·.1)++[n]:=by
 have e:(l.any λp=>decide (p.1=n))=true↔n∈l.map (·.1):=by
  rw[List.any_eq_true,Ϛ];constructor
  ·rintro⟨p,h,e⟩;exact⟨p,h,by simpa using e⟩
  ·rintro⟨p,h,e⟩;exact⟨p,h,by simpa using e⟩
 unfold cB;by_cases h:n∈l.map (·.1)
 ·rw[if_pos (e.mpr h),if_pos h,List.map_map];refine List.map_congr_left λp _=>?_;simp only[Function.comp];split<;>rfl
 ·rw[if_neg (λz=>h (e.mp z)),if_neg h];simp
structure fA(L:List Str)(S:Pu):Prop where
 nd:(S.nm.map (·.1)).Nodup
 sub:∀n∈S.nm.map (·.1),n∈L
 stk:∀x∈S.stk,pR L x.2.1
def fA.put(h:fA L S){n:Str}(hn:n∈L)(w:Wo):fA L {S with nm:=cB S.nm n w}:=by
 have e:=GJ S.nm n w;refine⟨?_,?_,h.stk⟩
 ·show((cB S.nm n w).map (·.1)).Nodup;rw[e];split
  ·exact h.nd
  ·next hc =>
   rw[ϙ];exact⟨h.nd,by simp,λa ha b hb=>by rw[show b=n by simpa using hb];intro z;exact hc 3e4⟩
 ·show ∀x∈(cB S.nm n w).map (·.1),x∈L;rw[e];split
  ·exact h.sub
  ·intro x hx;rcases Κ.mp hx with hx|hx
   ·exact h.sub x hx
   ·rw[show x=n by simpa using hx];exact hn
def fA.same{T:Pu}(h:fA L S)(e1:T.nm=S.nm)(e2:T.stk=S.stk):fA L T:=⟨by rw[e1];exact h.nd,by rw[e1];exact h.sub,by rw[e2];exact h.stk⟩
def fA.bT(h:fA L S)(g:m.IV L):fA L (bT S m).1:=by
 cases m with
 | set x s=>exact h.put g _
 | order x y s=>exact(h.put g _).same rfl rfl
 | child x y s=>exact(h.put g _).same rfl rfl
 | UX x s=>exact(h.put g _).same rfl rfl
 | send s k r=>exact h
 | drop s =>
  simp only[Internal.bT];split
  ·split
   ·exact h.same rfl rfl
   ·exact h
  ·exact h
 | UP x k =>
  simp only[Internal.bT];split
  ·exact(h.put g.1 _).same rfl rfl
  ·exact h.same rfl rfl
 | wait x ss =>
  simp only[Internal.bT];split
  ·exact h.same rfl rfl
  ·exact h.put g _
 | fin s=>exact h.same rfl rfl
 | U4 s b=>exact h
 | iff s b o=>exact h
theorem qS{L:List Str}:∀st:Stk,(∀x∈st,pR L x.2.1)->∀x∈bN st,pR L x.2.1
 | [],h=>by simpa[bN] using h
 | [a],h=>by simpa[bN] using h
 | (k,b,n)::(k2,b2,n2)::r,h=>by
  rw[bN];split
  ·refine qS 4e5 λx hx=>?_;rcases Α.mp hx with rfl|hx
   ·exact h (k2,b2,n2) 1e0
   ·exact h x 4e1
  ·exact h
termination_by st=>st.length
def rP(h:∀x∈st,pR L x.2.1):∀x∈fP st,pR L x.2.1:=by
 cases st with
 | nil=>exact h
 | cons a r =>
  obtain⟨k,b,n⟩:=a;intro x hx;simp only[fP,Α] at hx;rcases hx with rfl|hx
  ·exact h (k,b,n) 1e0
  ·exact h x 4e1
def fA.bL(h:fA L S)(e:bL S.stk=some m):m.IV L:=by
 cases hs:S.stk with
 | nil=>rw[hs] at e;cases e
 | cons a r =>
  obtain⟨k,b,n⟩:=a;rw[hs] at e;exact IW (h.stk (k,b,n) (by rw[hs];simp)) e
def fA.one(h:fA L S)(e:Internal.bL S.stk=some m):fA L (one S m).1:=by
 have g:=h.bL e;have en:∀(c:Nat) (b:List Stm),pR L b->fA L (S.enter c b):=λc b hb=>⟨h.nd,h.sub,λx hx=>by
  rcases Α.mp hx with rfl|hx
  ·exact hb
  ·exact h.stk x hx⟩
 have ps:∀T:Pu,fA L T->fA L T.pass:=λT hT=>⟨hT.nd,hT.sub,rP hT.stk⟩;unfold Internal.one;split
 ·cases m with
  | U4 s b =>
   show fA L 7e4;split
   ·exact ps S h
   ·exact en 0 b g
  | iff s b o =>
   show fA L 6e4;split
   ·exact en 1 o g.2
   ·exact en 0 b g.1
  | _=>exact h
 ·show fA L 5e4;split
  ·exact ps _ (h.bT g)
  ·exact h.bT g
theorem tN{L:List Str}:∀(n:Nat) {S:Pu},fA L S->fA L (dX n S).1
 | 0,S,h=>by
  have hc:fA L S.bD:=⟨h.nd,h.sub,qS _ h.stk⟩;cases e:bL S.bD.stk with
  | none=>rw[eL e];exact hc.same rfl rfl
  | some m=>rw[jE e];exact hc.same rfl rfl
 | n+1,S,h=>by
  have hc:fA L S.bD:=⟨h.nd,h.sub,qS _ h.stk⟩;cases e:bL S.bD.stk with
  | none=>rw[eL e];exact hc.same rfl rfl
  | some m =>
   cases z:(one S.bD m).1.sl.isN with
   | true=>rw[nF e z];exact tN n (hc.one e)
   | false=>rw[jD e z];exact hc.one e
def fA.wake(h:fA L S)(w:Wo):fA L (S.wake w).1:=by
 unfold Pu.wake;split
 ·next x k e =>
  have g:=h.bL e;have h1:=h.put g.1 w;exact tN 300 ⟨h1.nd,h1.sub,rP h.stk⟩
 ·next x ss e =>
  have g:=h.bL e;have h1:=h.put g w;exact tN 300 ⟨h1.nd,h1.sub,rP h.stk⟩
 ·exact h
def fA.take(h:fA L S)(x:Hap):fA L (S.take x).1:=by
 unfold Pu.take;split
 ·exact h
 cases x with
 | Vf m w=>exact tN 300 (h.same rfl rfl)
 | don m i w =>
  show fA L ((S.at' m).eV i w).1;unfold Pu.eV;split
  ·split
   ·exact(h.same (T:=(S.at' m).done i w) rfl rfl).wake _
   ·exact h.same rfl rfl
  ·exact h.same rfl rfl
 | ltr m k w =>
  show fA L ((S.at' m).eF k w).1;unfold Pu.eF;split
  ·split
   ·exact(h.same (T:=S.at' m) rfl rfl).wake _
   ·exact h.same rfl rfl
  ·exact h.same rfl rfl
theorem rH:∀{a L:List Str},a.Nodup->(∀x∈a,x∈L)->a.length<=L.length
 | [],L,_,_=>Α1 _
 | x::a,L,nd,h=>by
  rw[ϗ] at nd;have hx:=h x 1e0;have:=rH (a:=a) (L:=L.erase x) nd.2 λy hy=>(List.mem_erase_of_ne (λz:y=x=>nd.1 (by rw[<- z];exact hy))).mpr (h y (Ρ _ hy));have hl:=List.length_erase_of_mem hx;have hp:0 < L.length:=List.length_pos_of_mem hx;simp only[Ε];omega
def fA.len(h:fA L S):S.nm.length<=L.length:=by
 have:=rH h.nd h.sub
 rwa [Γ] at this
structure gI(K:List Str)(S:Pu):Prop where
 nd:(S.lt.map (·.1)).Nodup
 sub:∀n∈S.lt.map (·.1),n∈K
theorem qJ(r:List Wo):∀(l:List 0e0) (k:Str),(dG l k r).map (·.1)=l.map (·.1)
 | [],_=>rfl
 | p::l,k=>by
  simp only[dG];split
  ·rfl
  ·simp only[ϑ,qJ r l k]
theorem vH:∀{l:List 0e0} {k:Str},aS l k=none->k∉l.map (·.1)
 | [],_,_=>by simp
 | p::l,k,h=>by
  simp only[aS] at h;split at h
  ·cases h
  ·next hp =>
   simp only[ϑ,Α,not_or];exact⟨λz=>hp z.symm,vH h⟩
def gI.same{T:Pu}(h:gI K S)(e:T.lt=S.lt):gI K T:=⟨by rw[e];exact h.nd,by rw[e];exact h.sub⟩
def gI.add(h:gI K S)(hk:k∈K)(w:Wo):gI K {S with lt:=fJ S.lt k w}:=by
 cases e:aS S.lt k with
 | some ws =>
  have ea:fJ S.lt k w=dG S.lt k 5e2:=by simp only[fJ,e]
  have kk:=qJ 5e2 S.lt k;exact⟨by show((fJ S.lt k w).map (·.1)).Nodup;rw[ea,kk];exact h.nd,by show ∀n∈(fJ S.lt k w).map (·.1),n∈K;rw[ea,kk];exact h.sub⟩
 | none =>
  have ea:fJ S.lt k w=S.lt++[(k,[w])]:=by simp only[fJ,e]
  have nk:=vH e;refine⟨?_,?_⟩
  ·show((fJ S.lt k w).map (·.1)).Nodup;rw[ea,Α4,ϙ];exact⟨h.nd,by simp,λa ha b hb=>by rw[show b=k by simpa using hb];intro z;exact nk 3e4⟩
  ·show ∀n∈(fJ S.lt k w).map (·.1),n∈K;rw[ea,Α4];intro n hn;rcases Κ.mp hn with hn|hn
   ·exact h.sub n hn
   ·rw[show n=k by simpa using hn];exact hk
def gI.bT(h:gI K S)(m:Stm):gI K (bT S m).1:=by
 cases m with
 | drop s =>
  simp only[Internal.bT];split
  ·split
   ·exact h.same rfl
   ·exact h
  ·exact h
 | UP x k =>
  simp only[Internal.bT];split
  ·next w r e=>exact⟨by show((dG S.lt k r).map (·.1)).Nodup;rw[qJ];exact h.nd,by show ∀n∈(dG S.lt k r).map (·.1),n∈K;rw[qJ];exact h.sub⟩
  ·exact h.same rfl
 | wait x ss =>
  simp only[Internal.bT];split
  ·exact h.same rfl
  ·exact h.same rfl
 | _=>exact h.same rfl
def gI.one(h:gI K S)(m:Stm):gI K (one S m).1:=by
 unfold Internal.one;split
 ·cases m with
  | U4 s b=>show gI K 7e4;split<;>exact h.same rfl
  | iff s b o=>show gI K 6e4;split<;>exact h.same rfl
  | _=>exact h
 ·show gI K 5e4;split
  ·exact(h.bT m).same rfl
  ·exact h.bT m
theorem tK{K:List Str}:∀(n:Nat) {S:Pu},gI K S->gI K (dX n S).1
 | 0,S,h=>by
  have hc:gI K S.bD:=h.same rfl;cases e:bL S.bD.stk with
  | none=>rw[eL e];exact hc.same rfl
  | some m=>rw[jE e];exact hc.same rfl
 | n+1,S,h=>by
  have hc:gI K S.bD:=h.same rfl;cases e:bL S.bD.stk with
  | none=>rw[eL e];exact hc.same rfl
  | some m =>
   cases z:(one S.bD m).1.sl.isN with
   | true=>rw[nF e z];exact tK n (hc.one m)
   | false=>rw[jD e z];exact hc.one m
def gI.wake(h:gI K S)(w:Wo):gI K (S.wake w).1:=by
 unfold Pu.wake;split
 ·exact tK 300 6e3
 ·exact tK 300 6e3
 ·exact h
def gI.take(h:gI K S)(x:Hap)(hx:∀m k w,x=.ltr m k w->k∈K):gI K (S.take x).1:=by
 unfold Pu.take;split
 ·exact h
 cases x with
 | Vf m w=>exact tK 300 6e3
 | don m i w =>
  show gI K ((S.at' m).eV i w).1;unfold Pu.eV;split
  ·split
   ·exact(h.same (T:=(S.at' m).done i w) rfl).wake _
   ·exact h.same rfl
  ·exact h.same rfl
 | ltr m k w =>
  show gI K ((S.at' m).eF k w).1;unfold Pu.eF;split
  ·split
   ·exact(h.same (T:=S.at' m) rfl).wake _
   ·exact((h.same (T:=S.at' m) rfl).add 3e6 w).same rfl
  ·exact((h.same (T:=S.at' m) rfl).add 3e6 w).same rfl
def gI.len(h:gI K S):S.lt.length<=K.length:=by
 have:=rH h.nd h.sub
 rwa [Γ] at this
def L20:List Str:=["paid","pay","p","go"]
def Hap.kin(h:Hap):Prop:=∀m k w,h=.ltr m k w->k∈L20
def BG(h:pR L20 b):fA L20 8e1:=⟨by simp[dZ],by simp[dZ],λx hx=>by rw[show x=(0,b,0) by simpa[dZ] using hx];exact h⟩
def IK:gI L20 8e1:=⟨by simp[dZ],by simp[dZ]⟩
def Gy{h:Hap}(o:S.over h=true):S.take h=(S,[]):=by unfold Pu.take;rw[if_pos o]
def He(b:List Stm):Prop:=Hd true b/\pR L20 b
def Stm.He(m:Stm):Prop:=m.gd true/\m.IV L20
theorem bM.up{H:Hp}{r:Addr}{n m:Nat}(R:bM H r n)(h:n<=m):bM H r m:=by
 obtain⟨c,f,s,e,x,y⟩:=R;exact⟨c,f,s,e,x,by omega⟩
def bM.tk{r:Addr}{n:Nat}(R:bM H r n)(k:Kp [r] H H'):aD H H':=.of k λa ha=>by
 obtain⟨c,f,s,e,_⟩:=R;have:a=r:=by simpa using ha
 exact⟨_,this▸e,λ_ h=>by cases h⟩
def bd:Nat->Nat
 | 0=>3
 | d+1=>2 * bd d+3
theorem Nv(d:Nat):3<=bd d:=by
 cases d with
 | zero=>exact Ζ _
 | succ d=>rw[bd];omega
inductive Ck(vs:List V)(H:Hp)(Q:VK)(E:XK):Prop
 | mk (r:Addr) (n:Nat) (_:vs=[.ref r]) (_:bM H r n) (_:n<=900) (_:∀(w:Wo) (H':Hp),dU w->bM H' r (n+2)->Kp [r] H H'->Q (wv w) H'):Ck vs H Q E
def EO:Sp:=λvs H Q _=>∃(r:Addr) (n:Nat),vs=[.ref r]/\bM H r n/\n<=900/\∀(x:Str) (H':Hp),x∈L20->bM H' r (n+1)->Kp [r] H H'->Q (.str x) H'
def Mb{r:Addr}:EO [.ref r] H Q E = ∃n,bM H r n/\n<=900/\∀(x:Str) (H':Hp),x∈L20->bM H' r (n+1)->Kp [r] H H'->Q (.str x) H' :=
 propext ⟨fun⟨_,n,e,c⟩=>by cases e;exact⟨n,c⟩,fun⟨n,c⟩=>⟨_,n,rfl,c⟩⟩
inductive AQ(d:Nat)(vs:List V)(H:Hp)(Q:VK)(E:XK):Prop
 | mk (r:Addr) (dp:Int) (n:Nat) (_:vs=[.ref r,.int dp]) (_:1<=dp) (_:dp<=d) (_:bM H r n) (_:n+bd d<=900) (_:∀(v:V) (s:Say) (H':Hp),dE H' v s->s.ok->(s.depth:Int)<=dp->bM H' r (n+bd d)->Kp [r] H H'->Q v H'):AQ d vs H Q E
inductive Cj(vs:List V)(H:Hp)(Q:VK)(E:XK):Prop
 | mk (r:Addr) (n:Nat) (_:vs=[.ref r]) (_:bM H r n) (_:n<=100) (_:∀(v:V) (m:Stm) (H':Hp),cF H' v m->m.gd false/\m.Bw=true->m.IV L20->Kp [r] H H'->Q v H'):Cj vs H Q E
def sst{a b:String}(h:a≠b):¬ ((Str.ofString a:Str)=Str.ofString b):=λz=>h 7e5
def LJ{S:List Addr}{p:Addr}{u:HO}(h:H p=none):Kp S H (UK 0e1 p u):=λb x e _=>by rw[aC (aF e h),aC (aF e h)];exact e
def OK6:List Str:=["code","at","mode","letters","awaited","outcome"]
inductive iN(H:Hp):List V->List 2e0->Prop
 | nil:iN H [] []
 | cons {a:Addr} {i:Int} {w:Wo} {ds:List V} {r:List 2e0}:H a=some 0e3->iN H ds r->iN H (.ref a::ds) ((i,w)::r)
def iN.kt(h:iN H ds r)(k:aD H H'):iN H' ds r:=by
 induction h with
 | nil=>exact .nil
 | cons e _ ih=>exact .cons (k _ _ e) ih
def iN.len(h:iN H ds r):ds.length=r.length:=by
 induction h with
 | nil=>rfl
 | cons _ _ ih=>simp[ih]
def iN.snoc{w:Wo}(h:iN H ds r)(e:H a=some 0e3):iN H (ds++[.ref a]) (r++[(i,w)]):=by
 induction h with
 | nil=>exact .cons e .nil
 | cons f _ ih=>exact .cons f ih
def iN.at(h:iN H ds r):∀{j:Nat} {v:V},ds[j]?=some v->∃a i w,v=.ref a/\r[j]?=some (i,w)/\H a=some 0e3:=by
 induction h with
 | nil=>intro j v e;simp at e
 | cons f _ ih =>
  intro j v e;cases j with
  | zero=>simp only[Ο,Υ] at e;subst e;exact⟨_,_,_,rfl,rfl,f⟩
  | succ j=>simpa using ih 1e3
def iN.pairs(h:iN H ds r):tG H ds (iD r):=by
 refine⟨by rw[h.len];simp[iD],λj v e1=>?_⟩;obtain⟨a,i,w,rfl,e2,e3⟩:=h.at e1;exact⟨a,.inl i,wv w,rfl,e3,by rw[iD,ϖ,e2];rfl⟩
structure cS(H:Hp)(md nd od dd:Addr)(ot:Str->Option V)(S:Pu):Prop where
 hm:∃kvs,H md=some (.dK kvs)/\A7 ((kvs.length<=50/\∀k∈OK6,aZ kvs 7e2=ot k)) (aZ kvs (.inr "names")=some (.ref nd)) (aZ kvs (.inr "arg")=some (wv S.ar)) (aZ kvs (.inr "now")=some (.int S.nw)) (aZ kvs 5e6=some 5e3) (aZ kvs (.inr "open")=some (.ref od)) (aZ kvs (.inr "done")=some (.ref dd))
 hn:H nd=some (.dK (fH S.nm))
 ho:H od=some (.lst 2e3)
 hd:∃ds,H dd=some (.lst ds)/\iN H ds S.ans
 n1:md≠nd
 n2:od≠dd
 asc:S.pend.Pairwise (· < ·)
 lt:∀i∈S.pend,0<=i/\i < S.made
 uq:(S.ans.map (·.1)).Nodup
 dis:∀p∈S.ans,p.1∉S.pend/\p.1 < S.made
def cS.kp{md nd od:Addr}(M:cS H md nd od dd ot S)(k:Kp [] H H'):cS H' md nd od dd ot S:=by
 obtain⟨kvs,e,r⟩:=M.hm;obtain⟨ds,e2,r2⟩:=M.hd;exact {M with hm:=⟨kvs,k.at e,r⟩,hn:=k.at M.hn,ho:=k.at M.ho,hd:=⟨ds,k.at e2,r2.kt (aD.nil k)⟩}
theorem y8:∀(more acc:List (Key×V)),(∀kv∈more,aZ acc kv.1=none)->(more.map (·.1)).Nodup->e9 acc more=acc++more
 | [],acc,_,_=>by simp[e9]
 | kv::r,acc,h,nd=>by
  have e:aR acc kv.1 kv.2=acc++[kv]:=by
   have:=h kv 1e0;unfold aR;rw[iA,this];simp
  have:=y8 r (acc++[kv]) (λx hx=>by
   rw[ϑ,ϗ] at nd;rw[<- e,gA,if_neg (λz=>nd.1 (by rw[<- z];exact List.mem_map_of_mem hx))];exact h x 4e1) (by rw[ϑ,ϗ] at nd;exact nd.2)
  show e9 (aR acc kv.1 kv.2) r=_;rw[e,this];simp
def Gc(h:(l.map (·.1)).Nodup):e9 [] (iD l)=iD l:=by
 rw[y8 _ _ (λ_ _=>xQ)]
 ·rfl
 ·rw[iD,List.map_map];have:(l.map (·.1)).Nodup:=h
  induction l with
  | nil=>simp
  | cons x r ih =>
   rw[ϑ,ϗ] at h ⊢;refine⟨λz=>h.1 ?_,ih h.2 h.2⟩;obtain⟨y,hy,e⟩:=Ϛ.mp z;simp only[Function.comp_apply,Key.inl.injEq] at e;exact Ϛ.mpr ⟨y,hy,by simpa using e⟩
inductive tY(d:Nat)(vs:List V)(H:Hp)(Q:VK)(E:XK):Prop
 | mk (v:V) (md nd od dd:Addr) (ot:Str->Option V) (S:Pu) (s:Say) (_:vs=[v,.ref md]) (_:dE H v s) (_:s.depth<=d) (_:s.ok) (_:cS H md nd od dd ot S) (_:S.pl.Ok) (_:∀H',Kp [] H H'->Q (wv 5e1) H'):tY d vs H Q E
def w_arg:S.worth .arg=S.ar:=rfl
def SF{s:Say}:S.worth (.ans s)=fG S.ans 5e1:=rfl
def SK{s:Say}:S.worth (.neg s)=some (if num 5e1=0 then 1 else 0):=rfl
def SN{g:Sg}{a b:Say}:S.worth (.two g a b)=some (g.of (S.worth a) (S.worth b)):=rfl
def Ui{w:Wo}{k:Int->Prop}{u:Tg k}:Je (wv w) k u=k (num w):=by cases w<;>rfl
theorem Rq{a b:Wo}(q:Q (.bl (decide (a=b))) H):Kr (wv a) (wv b) H Q:=by
 cases a<;>cases b<;>(refine⟨rfl,?_⟩;simpa[wv] using q)
def FZ(w:Wo):fG [] w=none:=by cases w<;>rfl
theorem Gd{a b c:V}:e9 [] [((.inr 6e0:Key),a),(.inr 5e0,b),(.inr 7e0,c)]=[(.inr 6e0,a),(.inr 5e0,b),(.inr 7e0,c)]:=by
 have n1:=sst (show "+"≠"-" by decide);have n2:=sst (show "+"≠"*" by decide);have n3:=sst (show "-"≠"*" by decide);simp[e9,aR,n1,n2,n3]
def Sz{a b c:V}:aZ [((.inr 6e0:Key),a),(.inr 5e0,b),(.inr 7e0,c)] (.inr 6e0)=some a:=cL rfl
theorem SE{a b c:V}:aZ [((.inr 6e0:Key),a),(.inr 5e0,b),(.inr 7e0,c)] (.inr 5e0)=some b:=by
 rw[cD (λz=>sst (show "+"≠"-" by decide) 3e1),cL rfl]
theorem SD{a b c:V}:aZ [((.inr 6e0:Key),a),(.inr 5e0,b),(.inr 7e0,c)] (.inr 7e0)=some c:=by
 rw[cD (λz=>sst (show "+"≠"*" by decide) 3e1),cD (λz=>sst (show "-"≠"*" by decide) 3e1),cL rfl]
theorem gX{a b:String}{x:V}{o:Option V}(e:aZ kvs (.inr 9e0)=o)(h:a≠b:=by decide):aZ (aR kvs (.inr (Str.ofString b)) x) (.inr 9e0)=o:=by
 rw[gA,if_neg (λz=>sst h 3e1)];exact e
def AZ{a:String}{x:V}:aZ (aR kvs (.inr 9e0) x) (.inr 9e0)=some x:=by rw[gA,if_pos rfl]
def mO{k:Key}{x:V}(h:aZ kvs k=some y):(aR kvs k x).length=kvs.length:=by
 unfold aR;rw[iA,h];simp
def ok6{b:Str}{x:V}(hk:k∈OK6)(h:b∉OK6):aZ (aR kvs (.inr b) x) 7e2=aZ kvs 7e2:=by
 rw[gA,if_neg (λz=>h (by cases z;exact hk))]
def made6:(Str.ofString "made")∉OK6:=by simp[OK6,cZ]
theorem cS.made{md nd od:Addr}(M:cS H md nd od dd ot S)(e:H md=some (.dK kvs)):cS (UK H md (.dK (aR kvs 5e6 (.int ((S.made:Int)+1))))) md nd od dd ot {S with made:=S.made+1}:=by
 obtain⟨kv,e',l,v1,v2,v3,v4,v5,v6⟩:=M.hm;obtain⟨ds,e2,r2⟩:=M.hd;rw[e] at e';cases e';exact {M with
  hm:=⟨_,aA,⟨by rw[mO v4];exact l.1,λk hk=>by rw[ok6 hk made6];exact l.2 k hk⟩,gX v1,gX v2,gX v3,AZ,gX v5,gX v6⟩
  hn:=by rw[aC M.n1.symm];exact M.hn
  ho:=cX e M.ho
  hd:=⟨ds,cX e e2,r2.kt (aD.cR e)⟩
  lt:=λi hi=>(by have:=M.lt i hi;exact⟨this.1,by show i < ((S.made+1:Nat):Int);omega⟩)
  dis:=λp hp=>(by have:=M.dis p hp;exact⟨this.1,by show p.1 < ((S.made+1:Nat):Int);omega⟩)}
def cS.open{md nd od:Addr}(M:cS H md nd od dd ot S)(a:pd.Pairwise (· < ·))(b:∀i∈pd,0<=i/\i < S.made)(c:∀p∈S.ans,p.1∉pd):cS (UK H od (.lst (pd.map V.int))) md nd od dd ot {S with pend:=pd}:=by
 obtain⟨kv,e',r⟩:=M.hm;obtain⟨ds,e2,r2⟩:=M.hd;exact {M with
  hm:=⟨kv,cX M.ho e',r⟩
  hn:=cX M.ho M.hn
  ho:=aA
  hd:=⟨ds,by rw[aC M.n2.symm];exact e2,r2.kt (aD.cR M.ho)⟩
  asc:=a
  lt:=b
  dis:=λp hp=>⟨c p hp,(M.dis p hp).2⟩}
def cS.name{H:Hp}{md nd od dd:Addr}{ot:Str->Option V}{S:Pu}(M:cS H md nd od dd ot S)(x:Str)(w:Wo):cS (UK H nd (.dK (fH (cB S.nm x w)))) md nd od dd ot {S with nm:=cB S.nm x w}:=by
 obtain⟨kv,e',r⟩:=M.hm;obtain⟨ds,e2,r2⟩:=M.hd;exact {M with
  hm:=⟨kv,by rw[aC M.n1];exact e',r⟩
  hn:=aA
  ho:=cX M.hn M.ho
  hd:=⟨ds,cX M.hn e2,r2.kt (aD.cR M.hn)⟩}
def cS.tk{md nd od:Addr}(M:cS H md nd od dd ot S)(k:Kp D H H')(h:∀a∈D,a=md\/a=nd\/a=od\/∃xs,H a=some (.lst xs)):aD H H':=.of k λa ha=>by
 obtain⟨kv,e',r⟩:=M.hm;rcases h a ha with rfl|rfl|rfl|⟨xs,e⟩
 ·exact⟨_,e',λ_ z=>by cases z⟩
 ·exact⟨_,M.hn,λ_ z=>by cases z⟩
 ·exact⟨_,M.ho,λ_ z=>by cases z⟩
 ·exact⟨_,e,λ_ z=>by cases z⟩
def cS.other{md nd od:Addr}(M:cS H md nd od dd ot S)(e:H op=some 6e1)(n1:op≠od)(n2:op≠dd):cS (UK H op (.lst vs)) md nd od dd ot S:=by
 obtain⟨kv,e',r⟩:=M.hm;obtain⟨ds,e2,r2⟩:=M.hd;exact {M with
  hm:=⟨kv,cX e e',r⟩
  hn:=cX e M.hn
  ho:=by rw[aC n1.symm];exact M.ho
  hd:=⟨ds,by rw[aC n2.symm];exact e2,r2.kt (aD.cR e)⟩}
def NU(nw:Int)(w:Wo):(if nw+8e4 < 1000000000000 then nw+8e4 else 1000000000000)=uN nw w:=by
 cases w with
 | none=>simp[num,uN]
 | some z=>rfl
def cS.nop{md nd od:Addr}(M:cS H md nd od dd ot S)(e:H op=some 6e1)(n1:op≠od):op∉[md,nd,od]:=by
 obtain⟨kv,e',r⟩:=M.hm;simp only[Α,Δ,Ψ,not_or];exact⟨c0 e e' 5e5,c0 e M.hn 5e5,n1⟩
inductive ES(vs:List V)(H:Hp)(Q:VK)(E:XK):Prop
 | mk (md nd od dd:Addr) (ot:Str->Option V) (S:Pu) (x:Str) (_:vs=[.ref md,.str x]) (_:cS H md nd od dd ot S) (_:S.made<=100000) (_:S.pend.length<=100000) (_:S.nm.length<=100000) (_:∀H',cS H' md nd od dd ot (S.rF x)->Kp [md,nd,od] H H'->Q 5e3 H'):ES vs H Q E
inductive MY(vs:List V)(H:Hp)(Q:VK)(E:XK):Prop
 | mk (md nd od dd op:Addr) (ot:Str->Option V) (v:V) (S:Pu) (m:Stm) (us:List V) (cs:Cmds) (_:vs=[.ref md,v,.ref op]) (_:cS H md nd od dd ot S) (_:cF H v m) (_:m.Bw=true) (_:m.gd false) (_:S.pl.Ok) (_:S.made<=100000) (_:S.pend.length<=100000) (_:S.nm.length<=100000) (_:H op=some 6e1) (_:iC H us cs) (_:us.length<=100000) (_:op≠od) (_:op≠dd) (_:∀(H':Hp) (ZK:List V),cS H' md nd od dd ot (bT S m).1->H' op=some (.lst ZK)->iC H' ZK (cs++(bT S m).2)->Kp [md,nd,od,op] H H'->Q .UL H'):MY vs H Q E
theorem kT:∀{l:List Int} {i:Int} {k:Nat},l.Pairwise (· < ·)->B3 i l=some k->l.eraseIdx k=l.filter λj=>decide (j≠i)
 | [],i,k,_,h=>by simp[B3] at h
 | a::l,i,k,p,h=>by
  rw[Γ0] at p;unfold B3 at h;rw[List.findIdx?_cons] at h;by_cases e:a=i
  ·subst e;simp only[decide_true,Γ1,Υ] at h;subst h;rw[List.eraseIdx_cons_zero,List.filter_cons_of_neg 1e0];exact(List.filter_eq_self.mpr λj hj=>by have:=p.1 j hj;simp;omega).symm
  ·simp only[e,decide_false,Ϙ,Β4,ϛ] at h;obtain⟨k',e',rfl⟩:=h;rw[List.eraseIdx_cons_succ,List.filter_cons_of_pos 1e3,kT p.2 e']
def EF{l:List Int}(h:i∈l):∃k,B3 i l=some k:=by
 cases e:B3 i l with
 | some k=>exact⟨k,rfl⟩
 | none =>
  unfold B3 at e;rw[List.findIdx?_eq_none_iff] at e;exact absurd (e i h) 1e0
theorem Rz(w:Wo)(p:List Int):u7 (wv w) (p.map V.int)=decide (∃i,i∈p/\w=some i):=by
 cases w with
 | none=>simp[u7,wv,g8,iI,kS,kR,kQ]
 | some i=>rw[show wv 6e2=.int i from rfl,tI];simp
def Pu.w(S:Pu)(st:Stk)(x:Slp):Pu:={S with stk:=st,sl:=x}
variable{w:Wo}
def DY(h:m.Bw=true):(bT S m).1.sl=S.sl/\(bT S m).1.lt=S.lt/\(bT S m).1.ar=S.ar/\(bT S m).1.nw=S.nw:=by
 cases m with
 | drop s =>
  simp only[bT];split
  ·split
   ·exact⟨rfl,rfl,rfl,rfl⟩
   ·exact⟨rfl,rfl,rfl,rfl⟩
  ·exact⟨rfl,rfl,rfl,rfl⟩
 | wait _ _=>cases h
 | UP _ _=>cases h
 | fin _=>cases h
 | U4 _ _=>cases h
 | iff _ _ _=>cases h
 | _=>exact⟨rfl,rfl,rfl,rfl⟩
theorem Ec(g:Hd wt b)(d:oS b<=20):UU wt 8e1 0 :=
 {nm:=Ζ _,md:=Ζ _,pd:=Ζ _,an:=Ζ _,lt:=Ζ _,lw:=λk ws h=>(by cases h)
  pl:=⟨λ_=>kF,kF,λw=>(by show dU (fG [] w);rw[FZ];exact kF)⟩
  nw:=⟨Int.le_refl _,by show(0:Int)<=1000000000000;decide⟩
  sk:=⟨⟨Α1 _,by simp⟩,λx hx=>(by rw[show x=(0,b,0) by simpa[dZ] using hx];exact g),⟨by simpa using d,trivial⟩⟩
  sl:=.no 2e1 2e1 2e1}
def qT{c:TT}{t u:TS}{D:Ends}(h:∀R:St->Hp->Prop,(∀Z' H',u D Z' H'->R Z' H')->Cy c t (λ_=>R) D Z H):Cy c t u D Z H:=h (u D) λ_ _ z=>z
def HJ{c:TT}{tb:TS}{D:Ends}(h:∀b:TS,(∀D Z H,tb D Z H->b D Z H)->DE c b D Z H):DE c tb D Z H:=h tb λ_ _ _ z=>z
structure CE where
 m:Option Stm
 pt:List Int
 wh:Option Nat
variable{c:List CE}
end
mutual
noncomputable def Stm.sz:Stm->Nat
 | .U4 _ b=>bV b+2
 | .iff _ b o=>bV b+bV o+2
 | _=>1
noncomputable def bV:List Stm->Nat
 | []=>0
 | m::r=>m.sz+bV r
end
mutual
noncomputable def Ag(pt:List Int)(p:Nat):Stm->List CE
 | .U4 s b=>⟨some (.U4 s b),pt,some (p+bV b+2)⟩::(yT (pt++[0]) 0 (p+1) b++[⟨none,pt,some p⟩])
 | .iff s b o=>⟨some (.iff s b o),pt,some (p+bV b+2)⟩::(yT (pt++[0]) 0 (p+1) b++(⟨none,pt,some (p+bV b+bV o+2)⟩::yT (pt++[1]) 0 (p+bV b+2) o))
 | m=>[⟨some m,pt,none⟩]
noncomputable def yT(pt:List Int)(k p:Nat):List Stm->List CE
 | []=>[]
 | m::r=>Ag (pt++[(k:Int)]) p m++yT pt (k+1) (p+m.sz) r
end
def Rr(h:m.isB=false):Ag pt p m=[⟨some m,pt,none⟩]:=by
 cases m<;>first|(simp only[Ag];done)|cases h
def J4(h:m.isB=false):m.sz=1:=by
 cases m<;>first|(simp only[Stm.sz];done)|cases h
mutual
theorem Ed(pt:List Int)(p:Nat):∀m:Stm,(Ag pt p m).length=m.sz
 | .U4 s b=>by simp only[Ag,Stm.sz,Ε,Ξ,ϔ,gC]
 | .iff s b o=>by simp only[Ag,Stm.sz,Ε,Ξ,gC];omega
 | .set _ _ | .order _ _ _ | .UX _ _ | .child _ _ _ | .send _ _ _ | .drop _ | .wait _ _ | .UP _ _ | .fin _=>by simp[Ag,Stm.sz]
theorem gC(pt:List Int)(k p:Nat):∀b:List Stm,(yT pt k p b).length=bV b
 | []=>by simp[yT,bV]
 | m::r=>by simp only[yT,bV,Ξ,Ed,gC]
end
mutual
example:=[b.take n,.iff s b o,b2.take n2,.inr a,bN st,(by simpa using h),((k2,b2,n2)::r),p+bV b+2,.lst xs,xs++ys,((0,b,n)::(k2,b2,n2)::r),pt++[((k+n:Nat):Int)],pt++[(n2:Int)]++[0],((k2,b2,n2+1)::r),b.take (n+1),((0,b,0)::st),((k,b,n)::r)]
theorem fZ:∀{b:List Stm} {n:Nat} {m:Stm},b[n]?=some m->bV 4e1=bV 0e0+m.sz
 | [],n,m,h=>by simp at h
 | x::b,0,m,h=>by
  simp only[Ο,Υ] at h;subst h;simp[bV]
 | x::b,n+1,m,h=>by
  have:=fZ (b:=b) (n:=n) (m:=m) 5e0;simp only[Ζ6,bV] at this ⊢;omega
def xT(c:List CE)(p:Nat)(xs:List CE):Prop:=∀i x,xs[i]?=some x->c[p+i]?=some x
def xT.left{xs ys:List CE}(h:xT c p 9e0):xT c p xs:=λi x e=>h i x (by
 rw[Ζ4 (Ν.mp e).1];exact e)
theorem xT.right{xs ys:List CE}(h:xT c p 9e0):xT c (p+xs.length) ys:=λi x e=>by
 rw[Nat.add_assoc];exact h (xs.length+i) x (by rw[List.getElem?_append_right (by omega)];simpa using e)
def xT.head{x:CE}{xs:List CE}(h:xT c p (x::xs)):c[p]?=some x:=h 0 x rfl
def xT.tail{x:CE}{xs:List CE}(h:xT c p (x::xs)):xT c (p+1) xs:=λi y e=>by
 rw[Nat.add_assoc,Nat.add_comm 1 i];exact h (i+1) y (by simpa using e)
theorem xT.at{c:List CE}{pt:List Int}:∀{b:List Stm} {k p n:Nat} {m:Stm},xT c p (yT pt k p b)->b[n]?=some m->xT c (p+bV 0e0) (Ag 1e1 (p+bV 0e0) m)
 | [],_,_,_,_,_,h=>by simp at h
 | x::b,k,p,0,m,hi,h=>by
  simp only[Ο,Υ] at h;subst h;simp only[yT] at hi;simpa[bV] using hi.left
 | x::b,k,p,n+1,m,hi,h=>by
  simp only[yT] at hi;have r:=hi.right;rw[Ed] at r;have:=xT.at (n:=n) (m:=m) r 5e0;rw[Ζ6,bV,<- Nat.add_assoc]
  rwa [show k+1+n=k+(n+1) by omega] at this
inductive Bs(P:List Stm):Stk->Nat->List Int->Prop
 | bot {n:Nat}:Bs P [(0,P,n)] 0 []
 | U4 {n k2 n2 B:Nat} {s:Say} {b b2:List Stm} {r:Stk} {pt:List Int}:Bs P 6e0 B pt->b2[n2]?=some (.U4 s b)->Bs P 0e1 (B+bV 2e0+1) 2e1
 | Yw {n k2 n2 B:Nat} {s:Say} {b o b2:List Stm} {r:Stk} {pt:List Int}:Bs P 6e0 B pt->b2[n2]?=some 1e0->Bs P 0e1 (B+bV 2e0+1) 2e1
 | if1 {n k2 n2 B:Nat} {s:Say} {b o b2:List Stm} {r:Stk} {pt:List Int}:Bs P 6e0 B pt->b2[n2]?=some 1e0->Bs P ((1,o,n)::(k2,b2,n2)::r) (B+bV 2e0+bV b+2) (pt++[(n2:Int)]++[1])
def jF(P:List Stm):List CE:=yT [] 0 0 P
theorem Bs.inC(h:Bs P st B pt):∃k b n r,st=(k,b,n)::r/\xT (jF P) B (yT pt 0 B b):=by
 induction h with
 | bot=>exact⟨_,_,_,_,rfl,λi x e=>by rw[Γ5];exact e⟩
 | U4 hb e ih =>
  obtain⟨_,_,_,_,z,ih⟩:=ih;cases z;have:=xT.at ih e;simp only[Ag,Γ5] at this;exact⟨_,_,_,_,rfl,this.tail.left⟩
 | Yw hb e ih =>
  obtain⟨_,_,_,_,z,ih⟩:=ih;cases z;have:=xT.at ih e;simp only[Ag,Γ5] at this;exact⟨_,_,_,_,rfl,this.tail.left⟩
 | if1 hb e ih =>
  obtain⟨_,_,_,_,z,ih⟩:=ih;cases z;have:=xT.at ih e;simp only[Ag,Γ5] at this;have:=this.tail.right.tail;rw[gC] at this;refine⟨_,_,_,_,rfl,?_⟩
  rwa [show ∀x y:Nat,x+1+y+1=x+y+2 by omega] at this
def Bs.n{k n:Nat}{r:Stk}(h:Bs P 6e1 B pt)(n':Nat):Bs P ((k,b,n')::r) B pt:=by
 cases h with
 | bot=>exact .bot
 | U4 hb e=>exact .U4 hb e
 | Yw hb e=>exact .Yw hb e
 | if1 hb e=>exact .if1 hb e
variable{n:Nat}
def Ps(P:List Stm)(st:Stk)(p:Nat):Prop:=∃B pt k b n r,st=(k,b,n)::r/\Bs P st B pt/\p=B+bV 0e0/\n<=b.length
def Km(p:Nat):Stm->Option Nat
 | .U4 _ b=>some 7e0
 | .iff _ b _=>some 7e0
 | _=>none
def Ij(pt:List Int)(p:Nat)(m:Stm):∃r,Ag pt p m=⟨some m,pt,Km p m⟩::r:=by
 cases m<;>exact⟨_,by simp only[Ag,Km];rfl⟩
def Ps.ent(h:Ps P st p)(e:bL st=some m):∃pt,(jF P)[p]?=some ⟨some m,pt,Km p m⟩:=by
 obtain⟨B,pt,k,b,n,r,rfl,hB,rfl,hn⟩:=h;obtain⟨_,_,_,_,z,i⟩:=hB.inC;cases z;have:=xT.at i (show b[n]?=some m from e);obtain⟨q,hq⟩:=Ij (pt++[((0+n:Nat):Int)]) (B+bV 0e0) m;rw[hq] at this;exact⟨_,this.head⟩
theorem Ps.pass(h:Ps P st p)(e:bL st=some m):Ps P (fP st) (p+m.sz):=by
 obtain⟨B,pt,k,b,n,r,rfl,hB,rfl,hn⟩:=h;have e':b[n]?=some m:=e;exact⟨B,pt,k,b,n+1,r,rfl,hB.n _,by rw[fZ e'];omega,(Ν.mp e').1⟩
theorem Ps.U4{P:List Stm}{st:Stk}{p:Nat}{s:Say}{b:List Stm}(h:Ps P st p)(e:bL st=some (.U4 s b)):Ps P 5e1 (p+1):=by
 obtain⟨B,pt,k,b',n,r,rfl,hB,rfl,hn⟩:=h;exact⟨_,_,_,_,_,_,rfl,.U4 hB e,by simp[bV],by omega⟩
theorem Ps.Yw{P:List Stm}{st:Stk}{p:Nat}{s:Say}{b o:List Stm}(h:Ps P st p)(e:bL st=some 1e0):Ps P 5e1 (p+1):=by
 obtain⟨B,pt,k,b',n,r,rfl,hB,rfl,hn⟩:=h;exact⟨_,_,_,_,_,_,rfl,.Yw hB e,by simp[bV],by omega⟩
theorem Ps.if1{P:List Stm}{st:Stk}{p:Nat}{s:Say}{b o:List Stm}(h:Ps P st p)(e:bL st=some 1e0):Ps P ((1,o,0)::st) 7e0:=by
 obtain⟨B,pt,k,b',n,r,rfl,hB,rfl,hn⟩:=h;exact⟨_,_,_,_,_,_,rfl,.if1 hB e,by simp[bV],by omega⟩
def uF{k:Nat}:bN [(k,b,n)]=[(k,b,n)]:=by simp[bN]
def HE{k:Nat}{x:Nat×List Stm×Nat}{r:Stk}(h:n≠b.length):bN ((k,b,n)::x::r)=(k,b,n)::x::r:=by
 obtain⟨a,c,d⟩:=x;rw[bN,if_neg h]
def uG{k k2 n2:Nat}{b2:List Stm}{r:Stk}:bN ((k,b,b.length)::(k2,b2,n2)::r)=bN ((k2,b2,mE b2 n2)::r):=by
 rw[bN,if_pos rfl]
theorem Ps.turn:∀(l:Nat) (st:Stk) (p:Nat),st.length=l->Ps P st p -> (p=(jF P).length/\bL 4e0=none/\Ps P 4e0 p)\/(∃m,bL 4e0=some m/\Ps P 4e0 p)\/∃Vd p' pt,(jF P)[p]?=some ⟨none,pt,some p'⟩/\Ps P Vd p'/\bN Vd=bN st/\Vd.length < st.length:=by
 intro l
 induction l with
 | zero=>intro st p hl h;obtain⟨_,_,_,_,_,_,rfl,_⟩:=h;simp at hl
 | succ l ih =>
  intro st p hl h;have hh:=h;obtain⟨B,pt,k,b,n,r,rfl,hB,rfl,hn⟩:=h;by_cases e:n=b.length
  ·subst e;cases hB with
   | bot =>
    refine .inl ⟨?_,?_,?_⟩
    ·rw[jF,gC,Α2,Γ5]
    ·rw[uF];simp[bL]
    ·rw[uF];exact hh
   | @U4 _ k2 n2 B s _ b2 r pt hb e =>
    refine .inr (.inr ?_);obtain⟨_,_,_,_,z,i⟩:=hb.inC;cases z;have:=xT.at i e;simp only[Ag,Γ5] at this;have j:=this.tail.right.head;rw[gC] at j;rw[Α2];refine⟨_,_,_,j,⟨_,_,_,_,_,_,rfl,hb,rfl,Nat.le_of_lt (Ν.mp e).1⟩,?_,by simp⟩;rw[uG]
    congr 2
    simp[mE,e,Stm.Ak]
   | @Yw _ k2 n2 B s _ o b2 r pt hb e =>
    refine .inr (.inr ?_);obtain⟨_,_,_,_,z,i⟩:=hb.inC;cases z;have:=xT.at i e;simp only[Ag,Γ5] at this;have j:=this.tail.right.head;rw[gC] at j;rw[Α2];refine⟨_,_,_,j,⟨_,_,_,_,n2+1,_,rfl,hb.n _,by rw[fZ e,Stm.sz];omega,(Ν.mp e).1⟩,?_,by simp⟩;rw[uG];simp[mE,e,Stm.Ak]
   | @if1 _ k2 n2 B s b0 _ b2 r pt hb e =>
    have hp:Ps P 3e1 (B+bV 2e0+bV b0+2+bV (b.take b.length)):=⟨_,_,_,_,n2+1,_,rfl,hb.n _,by rw[fZ e,Stm.sz,Α2];omega,(Ν.mp e).1⟩;have ec:bN ((1,b,b.length)::(k2,b2,n2)::r)=bN 3e1:=by
     rw[uG];simp[mE,e,Stm.Ak]
    rw[ec];rcases ih _ _ (by simp only[Ε] at hl ⊢;omega) hp with z|z|⟨Vd,p',pt',h1,h2,h3,h4⟩
    ·exact .inl z
    ·exact .inr (.inl z)
    ·exact .inr (.inr ⟨Vd,p',pt',h1,h2,h3,by simp only[Ε] at h4 ⊢;omega⟩)
  ·have lt:n < b.length:=by omega
   have ec:bN 6e1=(k,b,n)::r:=by
    cases r with
    | nil=>exact uF
    | cons x r=>exact HE e
   rw[ec];exact .inr (.inl ⟨b[n],by simp[bL,lt],hh⟩)
set_option backward.eqns.nonrecursive false in
def Stm.kw:Stm->Str
 | .set _ _=>"set" | .order _ _ _=>"order" | .UX _ _=>"timer" | .child _ _ _=>"child" | .send _ _ _=>"send" | .drop _=>"drop" | .wait _ _=>"wait" | .UP _ _=>"hear" | .fin _=>"end" | .U4 _ _=>"while" | .iff _ _ _=>"if"
theorem cF.kw(h:cF H v m):∃a r,v=.ref a/\H a=some (.tup (.str m.kw::r)):=by
 cases h<;>exact⟨_,_,rfl,by assumption⟩
def cF.Ud{s:Say}{o:List Stm}(h:cF H (.ref a) 1e0):∃v p q us,H a=some (.tup [.str "if",v,.ref p,.ref q])/\H q=some (.tup us)/\bY H us o:=by
 cases h with
 | iff e _ _ _ eq ho=>exact⟨_,_,_,_,e,eq,ho⟩
def RL(h:m.isB=false):((m.kw=("while":Str))=False)/\((m.kw=("if":Str))=False)/\((m.kw=("jump":Str))=False):=by
 cases m<;>first|(simp[Stm.kw,cZ];done)|cases h
theorem Qc(m:Stm):1<=m.sz:=by cases m<;>simp only[Stm.sz]<;>omega
theorem kU:∀b:List Stm,b.length<=bV b
 | []=>by simp
 | m::r=>by have:=kU r;have:=Qc m;simp only[Ε,bV];omega
theorem J2:∀(b:List Stm) (n:Nat),bV 0e0<=bV b
 | [],_=>by simp
 | _::_,0=>by simp[bV]
 | m::r,n+1=>by have:=J2 r n;simp only[Ζ6,bV];omega
def kp1T{c:Addr}(k:Kp [c] H H')(e:H c=some 8e0):aD H H':=λa ys h=>k a _ h (by
 simp only[Α,Δ,Ψ];intro z;subst z;rw[e] at h;cases h)
def free1{c p:Addr}(k:Kp [c] H G)(e:G c=some o)(h:G p=none):H p=none:=by
 cases z:H p with
 | none=>rfl
 | some u =>
  by_cases hc:p=c
  ·subst hc;rw[e] at h;cases h
  ·rw[k.at1 z hc] at h;cases h
def _root_.Lake.Kp.cJ{p:Addr}(k:Kp [] H H')(h:H' p=none):H p=none:=by
 cases e:H p with
 | none=>rfl
 | some o=>rw[k.at e] at h;cases h
def pQ{l k:List Addr}(h1:l.Nodup)(h2:k.Nodup)(t:∀a∈l,∃o,G a=some o)(f:∀a∈k,G a=none):(l++k).Nodup:=ϙ.mpr ⟨h1,h2,λx hx y hy z=>by
 obtain⟨o,e⟩:=t x hx;rw[z,f y hy] at e;cases e⟩
def gW{l k:List Addr}(h1:∀a∈l,∃o,G a=some o)(h2:∀a∈k,∃o,G a=some o):∀a∈l++k,∃o,G a=some o:=λa ha=>(Κ.mp ha).elim (h1 a) (h2 a)
def kN{p:Addr}(h:G p=some o):∀a∈[p],∃o,G a=some o:=λa ha=>by rw[show a=p by simpa using ha];exact⟨o,h⟩
def S9:Option Nat->V
 | none=>.UL
 | some n=>.int n
def CH(H:Hp)(a:Addr)(e:CE):Prop:=∃pa,H pa=some (.tup (e.pt.map V.int))/\match e.m with
 | some m=>∃sv,cF H sv m/\H a=some (.lst [.str m.kw,sv,.ref pa,S9 e.wh])
 | none=>H a=some (.lst [.str "jump",.UL,.ref pa,S9 e.wh])
def CH.there{e:CE}(h:CH H a e):∃xs,H a=some 8e0:=by
 obtain⟨pa,_,h⟩:=h;cases hm:e.m with
 | none=>rw[hm] at h;exact⟨_,h⟩
 | some m=>rw[hm] at h;obtain⟨_,_,h⟩:=h;exact⟨_,h⟩
def CH.keep{e:CE}(h:CH H a e)(k:∀o,H a=some o->H' a=some o)(t:aD H H'):CH H' a e:=by
 obtain⟨pa,hp,h⟩:=h;refine⟨pa,t _ _ hp,?_⟩;cases hm:e.m with
 | none=>rw[hm] at h;exact k _ h
 | some m=>rw[hm] at h;obtain⟨sv,hs,h⟩:=h;exact⟨sv,hs.kp t,k _ h⟩
inductive dD(H:Hp):List Addr->List CE->Prop
 | nil:dD H [] []
 | cons {a:Addr} {e:CE} {as:List Addr} {c:List CE}:CH H a e->dD H as c->dD H (a::as) (e::c)
def dD.len{as:List Addr}(h:dD H as c):as.length=c.length:=by
 induction h with
 | nil=>rfl
 | cons _ _ ih=>simp[ih]
def dD.there{as:List Addr}(h:dD H as c):∀a∈as,∃xs,H a=some 8e0:=by
 induction h with
 | nil=>simp
 | cons e _ ih =>
  intro a ha;rcases Α.mp ha with rfl|ha
  ·exact e.there
  ·exact ih a ha
def dD.ex{as:List Addr}(h:dD H as c):∀a∈as,∃o,H a=some o:=λa ha=>let ⟨_,e⟩:=h.there a ha;⟨_,e⟩
def dD.keep{as:List Addr}(h:dD H as c)(k:∀a∈as,∀o,H a=some o->H' a=some o)(t:aD H H'):dD H' as c:=by
 induction h with
 | nil=>exact .nil
 | cons e _ ih=>exact .cons (e.keep (k _ (by simp)) t) (ih λa ha=>k a (by simp[ha]))
def dD.app{as bs:List Addr}{d:List CE}(h:dD H as c)(g:dD H bs d):dD H (as++bs) (c++d):=by
 induction h with
 | nil=>exact g
 | cons e _ ih=>exact .cons e ih
def dD.at{as:List Addr}(h:dD H as c):∀{i:Nat} {e:CE},c[i]?=some e->∃a,as[i]?=some a/\CH H a e:=by
 induction h with
 | nil=>intro i e z;simp at z
 | cons f _ ih =>
  intro i e z;cases i with
  | zero=>simp only[Ο,Υ] at z;subst z;exact⟨_,rfl,f⟩
  | succ i=>simpa using ih (by simpa using z)
theorem Bn{pt:List Int}:∀{b:List Stm} {k p n:Nat} {m:Stm},b[n]?=some m->yT pt k p 4e1=yT pt k p 0e0++Ag 1e1 (p+bV 0e0) m
 | [],_,_,_,_,h=>by simp at h
 | x::b,k,p,0,m,h=>by
  simp only[Ο,Υ] at h;subst h;simp[yT,bV]
 | x::b,k,p,n+1,m,h=>by
  have:=Bn (pt:=pt) (b:=b) (k:=k+1) (p:=p+x.sz) (n:=n) (m:=m) 5e0;simp only[Ζ6,yT,bV] at this ⊢;rw[this,List.append_assoc,show k+1+n=k+(n+1) by omega,Nat.add_assoc p]
theorem zW{b:Addr}(ha:H a=some (.tup xs))(hb:H b=some (.tup ys))(l:xs.length+ys.length<=1000)(h:∀p H',H' p=some (.tup 9e0)->Kp [] H H'->Q (.ref p) H'):uB (.ref a) (.ref b) H Q:=by
 unfold uB;rw[Ib,ha,hb];refine⟨by rw[Γ2];omega,?_⟩;split
 ·next e=>subst e;exact h b H (by simpa using hb) Kp.refl
 ·split
  ·next e=>subst e;exact h a H (by simpa using ha) Kp.refl
  ·exact λp hp=>h p _ aA (Kp.new hp)
inductive AR(d:Nat)(vs:List V)(H:Hp)(Q:VK)(E:XK):Prop
 | mk (bp pp cl:Addr) (us:List V) (b:List Stm) (pt:List Int) (as:List Addr) (_:vs=[.ref bp,.ref pp,.ref cl]) (_:H bp=some (.tup us)) (_:bY H us b) (_:oS b < d) (_:H pp=some (.tup (pt.map V.int))) (_:pt.length+2 * d<=1000) (_:H cl=some (.lst (as.map V.ref))) (_:as.length+bV b<=100000) (_:∀(H':Hp) (new:List Addr),H' cl=some (.lst ((as++new).map V.ref))->dD H' new (yT pt 0 as.length b)->(∀a∈new,H a=none)->new.Nodup->Kp [cl] H H'->Q .UL H'):AR d vs H Q E
def six6(h:k∈OK6):k≠("names":Str)/\k≠("arg":Str)/\k≠("now":Str)/\k≠("made":Str)/\k≠("open":Str)/\k≠("done":Str):=by
 simp only[OK6,Α,Δ,Ψ] at h;rcases h with rfl|rfl|rfl|rfl|rfl|rfl<;>simp[cZ]
def AY{a b:Str}{x:V}{o:Option V}(h:a≠b)(e:aZ kvs 3e0=o):aZ (aR kvs (.inr b) x) 3e0=o:=by
 rw[gA,if_neg (λz=>h (Key.inr.inj z))];exact e
def SA{a:Str}{x:V}:aZ (aR kvs 3e0 x) 3e0=some x:=by rw[gA,if_pos rfl]
end
section
mutual
example:=[.dK kvs,.dK XS,aR kvs (.inr "open") (.ref o2),aR kvs (.inr "now") (.int m),aR kvs (.inr "arg") (wv w),aR kvs (.inr k) v]
variable{md nd od:Addr}
def cS.Ab(M:cS H md nd od dd ot S)(e:H md=some 0e0)(XS:List (Key×V)):UK H md 1e0 nd=some (.dK (fH S.nm))/\UK H md 1e0 od=some (.lst (S.pend.map V.int))/\∃ds,UK H md 1e0 dd=some (.lst ds)/\iN (UK H md 1e0) ds S.ans:=by
 obtain⟨ds,e2,r2⟩:=M.hd;exact⟨by rw[aC M.n1.symm];exact M.hn,cX e M.ho,ds,cX e e2,r2.kt (aD.cR e)⟩
def cS.ot6(M:cS H md nd od dd ot S)(e:H md=some 0e0)(hk:k∈OK6)(hy:ot k=some y)(v:V):cS (UK H md (.dK 5e0)) md nd od dd (λj=>if j=k then some v else ot j) S:=by
 obtain⟨kv,e',l,v1,v2,v3,v4,v5,v6⟩:=M.hm;rw[e] at e';cases e';obtain⟨b1,b2,b3⟩:=M.Ab e 5e0;obtain⟨n1,n2,n3,n4,n5,n6⟩:=six6 hk;exact {M with
  hm:=⟨_,aA,⟨by rw[mO (by rw[l.2 k hk];exact hy)];exact l.1,λj hj=>by
   rw[gA];by_cases h:j=k
   ·subst h;simp
   ·rw[if_neg (λz=>h (Key.inr.inj z)),if_neg h];exact l.2 j hj⟩,AY n1.symm v1,AY n2.symm v2,AY n3.symm v3,AY n4.symm v4,AY n5.symm v5,AY n6.symm v6⟩
  hn:=b1
  ho:=b2
  hd:=b3}
def cS.now(M:cS H md nd od dd ot S)(e:H md=some 0e0)(m:Int):cS (UK H md (.dK 3e0)) md nd od dd ot {S with nw:=m}:=by
 obtain⟨kv,e',l,v1,v2,v3,v4,v5,v6⟩:=M.hm;rw[e] at e';cases e';obtain⟨b1,b2,b3⟩:=M.Ab e 3e0;exact {M with
  hm:=⟨_,aA,⟨by rw[mO v3];exact l.1,λk hk=>by rw[AY (six6 hk).2.2.1 rfl];exact l.2 k hk⟩,gX v1,gX v2,AZ,gX v4,gX v5,gX v6⟩
  hn:=b1
  ho:=b2
  hd:=b3}
def cS.arg(M:cS H md nd od dd ot S)(e:H md=some 0e0)(w:Wo):cS (UK H md (.dK 4e0)) md nd od dd ot {S with ar:=w}:=by
 obtain⟨kv,e',l,v1,v2,v3,v4,v5,v6⟩:=M.hm;rw[e] at e';cases e';obtain⟨b1,b2,b3⟩:=M.Ab e 4e0;exact {M with
  hm:=⟨_,aA,⟨by rw[mO v2];exact l.1,λk hk=>by rw[AY (six6 hk).2.1 rfl];exact l.2 k hk⟩,gX v1,AZ,gX v3,gX v4,gX v5,gX v6⟩
  hn:=b1
  ho:=b2
  hd:=b3}
def cS.opn(M:cS H md nd od dd ot S)(e:H md=some 0e0)(Vr:H o2=some (.lst []))(n:o2≠dd):cS (UK H md (.dK 2e0)) md nd o2 dd ot {S with pend:=[]}:=by
 obtain⟨kv,e',l,v1,v2,v3,v4,v5,v6⟩:=M.hm;rw[e] at e';cases e';obtain⟨b1,b2,b3⟩:=M.Ab e 2e0;exact {M with
  hm:=⟨_,aA,⟨by rw[mO v5];exact l.1,λk hk=>by rw[AY (six6 hk).2.2.2.2.1 rfl];exact l.2 k hk⟩,gX v1,gX v2,gX v3,gX v4,AZ,gX v6⟩
  hn:=b1
  ho:=cX e Vr
  hd:=b3
  n2:=n
  asc:=List.Pairwise.nil
  lt:=λi hi=>(by simp at hi)
  dis:=λp hp=>⟨by simp,(M.dis p hp).2⟩}
end
end
mutual
example:=[Str.ofString "names",Str.ofString "open",Str.ofString "mode",Str.ofString "made",Str.ofString "code",Str.ofString "now",Str.ofString "arg",Str.ofString "at"]
structure Fa where
 md:Addr
 nd:Addr
 od:Addr
 dd:Addr
 ld:Addr
 cl:Addr
 cs:List Addr
 las:List Addr
 nk:Nat
 aw:Addr
variable{A:Fa}
def Fa.mut(A:Fa):List Addr:=[A.md,A.nd,A.od,A.dd,A.ld]++A.las
set_option backward.eqns.nonrecursive false in
def eY(H:Hp)(A:Fa)(ot:Str->Option V):Slp->Prop
 | .new=>ot "mode"=some (.str "new")
 | .UL=>ot "mode"=some (.str "on")
 | .wait ts=>ot "mode"=some (.str "wait")/\ot "awaited"=some (.ref A.aw)/\H A.aw=some (.lst (ts.map V.int))/\A.aw∉A.mut
 | .UP _=>ot "mode"=some (.str "hear")
 | .ended w=>ot "mode"=some (.str "ended")/\ot "outcome"=some (wv w)
 | .worn=>ot "mode"=some (.str "worn")
structure bP(P:List Stm)(H:Hp)(A:Fa)(S:Pu)(p:Nat):Prop where
 ex:∃ot:Str->Option V,cS H A.md A.nd A.od A.dd ot S/\A5 ((∀k∈OK6,∃v,ot k=some v)) (ot "code"=some (.ref A.cl)) (ot "at"=some (.int p)) (ot "letters"=some (.ref A.ld)) (eY H A ot S.sl)
 cl:H A.cl=some (.lst (A.cs.map V.ref))
 co:dD H A.cs (jF P)
 lt:∃kvs ml,H A.ld=some (.dK kvs)/\fW H kvs A.las ml/\((ml.map (·.1)).Nodup/\ml.length<=A.nk)/\∀k,(aS ml k).getD []=(aS S.lt k).getD []
 ps:Ps P S.stk p
 n1:A.md≠A.ld
 n2:A.nd≠A.ld
 nl:A.las.Nodup
 s1:A.od≠A.cl/\A.od∉A.cs/\A.dd≠A.cl/\A.dd∉A.cs
 s2:∀a∈A.las,a≠A.od/\a≠A.dd/\a≠A.cl/\a∉A.cs
inductive JQ(vs:List V)(H:Hp)(Q:VK)(E:XK):Prop
 | mk (bp:Addr) (us:List V) (b:List Stm) (_:vs=[.ref bp]) (_:H bp=some (.tup us)) (_:bY H us b) (_:oS b < 9) (_:bV b<=1000) (_:∀(A:Fa) (H':Hp),bP b H' A (dZ b) 0->(∀a∈A.mut,H a=none)->A.nk=0->(∃o,H' A.aw=some o)->Kp [] H H'->Q (.ref A.md) H'):JQ vs H Q E
def rS{cl x:Addr}{cs:List Addr}(e:H cl=some o)(h:dD H cs c)(n:H x=none):x≠cl/\x∉cs:=by
 refine⟨λz=>?_,λz=>?_⟩
 ·rw[z,e] at n;cases n
 ·obtain⟨o,e⟩:=h.ex x z;rw[e] at n;cases n
theorem ps0(b:List Stm):Ps b (dZ b).stk 0:=⟨0,[],0,b,0,[],rfl,.bot,by simp[bV],by omega⟩
def eights{a b c d e f g h:V}:e9 [] [((.inr 4e0:Key),a),(.inr 7e0,b),(.inr 2e0,c),(.inr 0e0,d),(.inr 6e0,e),(.inr 5e0,f),(.inr 3e0,g),(.inr 1e0,h)]=[((.inr 4e0:Key),a),(.inr 7e0,b),(.inr 2e0,c),(.inr 0e0,d),(.inr 6e0,e),(.inr 5e0,f),(.inr 3e0,g),(.inr 1e0,h)]:=by
 simp[e9,aR,cZ]
end
section
mutual
example:=[(by simp),(λj=>if j=k then some v else ot j),(by intro z;cases z),.ref A.ld,.ref A.cl,.inl rfl,.int p',(b=A.cl\/b∈A.cs\/b=A.ld\/b∈A.las),Str.ofString a]
variable{ZN:Hp}{A' A'':Fa}{S':Pu}{p':Nat}
def bP.far(F:bP P H A S p){b:Addr}(hb:b=A.cl\/b∈A.cs\/b=A.ld\/b∈A.las):b≠A.md/\b≠A.nd/\b≠A.od/\b≠A.dd:=by
 obtain⟨ot,M,_⟩:=F.ex;obtain⟨kvs,em,_⟩:=M.hm;obtain⟨ds,ed,_⟩:=M.hd;obtain⟨lk,ml,el,hl,_⟩:=F.lt;have lst:∀{xs:List V},H b=some (.lst xs)->b≠A.md/\b≠A.nd:=λe=>⟨c0 e em 2e0,c0 e M.hn 2e0⟩;rcases hb with rfl|hb|rfl|hb
 ·exact⟨(lst F.cl).1,(lst F.cl).2,F.s1.1.symm,F.s1.2.2.1.symm⟩
 ·obtain⟨xs,e⟩:=F.co.there b hb;exact⟨(lst e).1,(lst e).2,λz=>F.s1.2.1 (z▸hb),λz=>F.s1.2.2.2 (z▸hb)⟩
 ·exact⟨F.n1.symm,F.n2.symm,c0 el M.ho 2e0,c0 el ed 2e0⟩
 ·obtain⟨xs,e⟩:=hl.ex b hb;exact⟨(lst e).1,(lst e).2,(F.s2 b hb).1,(F.s2 b hb).2.1⟩
def bP.asm(F:bP P H A S p)(M':cS H' A.md A.nd o2 A.dd ot' S')(Yd:∀k∈OK6,∃v,ot' k=some v)(c1:ot' "code"=some 4e0)(c2:ot' "at"=some 6e0)(c3:ot' "letters"=some 3e0)(c4:eY H' {A with od:=o2} ot' S'.sl)(K:∀b o,H b=some o->7e0->H' b=some o)(T:aD H H')(hl:S'.lt=S.lt)(hp:Ps P S'.stk p')(so:o2≠A.cl/\o2∉A.cs)(sl:∀a∈A.las,a≠o2):bP P H' {A with od:=o2} S' p':=by
 obtain⟨lk,ml,el,h1,h0,h2⟩:=F.lt;exact⟨⟨ot',M',Yd,c1,c2,c3,c4⟩,K _ _ F.cl 5e0,F.co.keep (λa ha o e=>K a o e (.inr (.inl ha))) T,⟨lk,ml,K _ _ el (.inr (.inr 5e0)),h1.keep (λa ha o e=>K a o e (.inr (.inr (.inr ha)))),h0,λk=>by rw[hl];exact h2 k⟩,hp,F.n1,F.n2,F.nl,⟨so.1,so.2,F.s1.2.2.1,F.s1.2.2.2⟩,λa ha=>⟨sl a ha,(F.s2 a ha).2⟩⟩
def bP.oM(F:bP P H A S p)(M':cS H' A.md A.nd A.od A.dd ot' S')(Yd:∀k∈OK6,∃v,ot' k=some v)(c1:ot' "code"=some 4e0)(c2:ot' "at"=some 6e0)(c3:ot' "letters"=some 3e0)(c4:eY H' A ot' S'.sl)(K:∀b o,H b=some o->7e0->H' b=some o)(T:aD H H')(hl:S'.lt=S.lt)(hp:Ps P S'.stk p'):bP P H' A S' p' :=
 F.asm M' Yd c1 c2 c3 c4 K T hl hp ⟨F.s1.1,F.s1.2.1⟩ λa ha=>(F.s2 a ha).1
def bP.Nu(F:bP P H A S p){las:List Addr}{nk:Nat}(M':cS H' A.md A.nd A.od A.dd ot' S')(Yd:∀k∈OK6,∃v,ot' k=some v)(c1:ot' "code"=some 4e0)(c2:ot' "at"=some 6e0)(c3:ot' "letters"=some 3e0)(c4:eY H' {A with las:=las,nk:=nk} ot' S'.sl)(K:∀b o,H b=some o->(b=A.cl\/b∈A.cs)->H' b=some o)(T:aD H H')(hl:∃kvs ml,H' A.ld=some (.dK kvs)/\fW H' kvs las ml/\((ml.map (·.1)).Nodup/\ml.length<=nk)/\∀k,(aS ml k).getD []=(aS S'.lt k).getD [])(hp:Ps P S'.stk p')(nd:las.Nodup)(s2:∀a∈las,a≠A.od/\a≠A.dd/\a≠A.cl/\a∉A.cs):bP P H' {A with las:=las,nk:=nk} S' p' :=
 ⟨⟨ot',M',Yd,c1,c2,c3,c4⟩,K _ _ F.cl 5e0,F.co.keep (λa ha o e=>K a o e (.inr ha)) T,hl,hp,F.n1,F.n2,nd,F.s1,s2⟩
def eY.keep(h:eY H A ot s)(k:∀b o,H b=some o->b∉A.mut->H' b=some o):eY H' A ot s:=by
 cases s with
 | wait ts=>obtain⟨h1,h2,h3,h4⟩:=h;exact⟨h1,h2,k _ _ h3 h4,h4⟩
 | _=>exact h
def bP.kp(F:bP P H A S p)(k:Kp [] H H'):bP P H' A S p:=by
 obtain⟨ot,M,os,c1,c2,c3,c4⟩:=F.ex;exact F.oM (M.kp k) os c1 c2 c3 (c4.keep λ_ _ e _=>k.at e) (λ_ _ e _=>k.at e) (aD.nil k) rfl F.ps
def bP.Sk(F:bP P H A S p)(n:S.sl=.UL)(a:Addr):bP P H {A with aw:=a} S p:=by
 obtain⟨ot,M,os,c1,c2,c3,c4⟩:=F.ex;exact⟨⟨ot,M,os,c1,c2,c3,by rw[n] at c4 ⊢;exact c4⟩,F.cl,F.co,F.lt,F.ps,F.n1,F.n2,F.nl,F.s1,F.s2⟩
def g0(H:Hp)(A:Fa)(op:Addr)(cs:Cmds):Prop:=∃us,H op=some (.lst us)/\iC H us cs/\op∉A.mut/\op≠A.cl/\op∉A.cs
def g0.kp(h:g0 H A op cs)(k:Kp [] H H'):g0 H' A op cs:=by
 obtain⟨us,e,c,r⟩:=h;exact⟨us,k.at e,c.kt (aD.nil k),r⟩
structure Fm(D:List Addr)(A A':Fa)(H H':Hp):Prop where
 kp:∀b o,H b=some o->b∉A.mut->b∉D->H' b=some o
 st:∀b o,H b=some o->∃u,H' b=some u
 nw:∀b∈A'.mut,b∈A.mut\/H b=none
 m1:A'.md=A.md/\A'.cl=A.cl/\A'.cs=A.cs
 nk:A'.nk=A.nk
 na:A'.aw=A.aw\/(H A'.aw=none/\∃o,H' A'.aw=some o)
def Fm.refl:Fm D A A H H:=⟨λ_ _ e _ _=>e,λ_ o e=>⟨o,e⟩,λ_ h=>.inl h,⟨rfl,rfl,rfl⟩,rfl,.inl rfl⟩
def Fm.trans(x:Fm D A A' H H')(y:Fm D A' A'' H' ZN):Fm D A A'' H ZN:=by
 refine⟨λb o e h1 h2=>y.kp b o (x.kp b o e h1 h2) (λz=>?_) h2,λb o e=>?_,λb hb=>?_,⟨y.m1.1.trans x.m1.1,y.m1.2.1.trans x.m1.2.1,y.m1.2.2.trans x.m1.2.2⟩,y.nk.trans x.nk,?_⟩
 ·rcases x.nw b z with z|z
  ·exact h1 z
  ·rw[z] at e;cases e
 ·obtain⟨u,e'⟩:=x.st b o e;exact y.st b u e'
 ·rcases y.nw b hb with z|z
  ·exact x.nw b z
  ·refine .inr ?_;cases e:H b with
   | none=>rfl
   | some o =>
    obtain⟨u,e'⟩:=x.st b o e;rw[z] at e';cases e'
 ·rcases y.na with z|⟨z,zz⟩
  ·rw[z];rcases x.na with w|⟨w,o,e⟩
   ·exact .inl w
   ·exact .inr ⟨w,y.st _ o e⟩
  ·refine .inr ⟨?_,zz⟩;cases e:H A''.aw with
   | none=>rfl
   | some o =>
    obtain⟨u,e'⟩:=x.st _ o e;rw[z] at e';cases e'
def Fm.awN(x:Fm D A A H H')(h:H a=none)(e:H' a=some o):Fm D A {A with aw:=a} H H':=⟨x.kp,x.st,x.nw,x.m1,x.nk,.inr ⟨h,o,e⟩⟩
def Fm.of(k:Kp [] H H'):Fm D A A H H':=⟨λ_ _ e _ _=>k.at e,λ_ o e=>⟨o,k.at e⟩,λ_ h=>.inl h,⟨rfl,rfl,rfl⟩,rfl,.inl rfl⟩
def Fm.set{b:Addr}{o:HO}(h:b∈A.mut\/b∈D):Fm D A A H (UK H b o):=by
 refine⟨λc u e h1 h2=>by rw[aC (λz=>by subst z;exact h.elim h1 h2)];exact e,λc u e=>?_,λ_ h=>.inl h,⟨rfl,rfl,rfl⟩,rfl,.inl rfl⟩;by_cases z:c=b
 ·subst z;exact⟨_,aA⟩
 ·exact⟨u,by rw[aC z];exact e⟩
def Fm.ofK{E:List Addr}(k:Kp E H H')(h:∀b∈E,(b∈A.mut\/b∈D)/\∃u,H' b=some u):Fm D A A H H':=by
 refine⟨λb o e h1 h2=>k b o e (λz=>(h b z).1.elim h1 h2),λb o e=>?_,λ_ h=>.inl h,⟨rfl,rfl,rfl⟩,rfl,.inl rfl⟩;by_cases z:b∈E
 ·exact(h b z).2
 ·exact⟨o,k b o e z⟩
def Fm.od(F:Fm D A A H H')(h:H o2=none):Fm D A {A with od:=o2} H H':=by
 refine⟨F.kp,F.st,λb hb=>?_,⟨rfl,rfl,rfl⟩,rfl,.inl rfl⟩;simp only[Fa.mut,Κ,Α,Δ,Ψ] at hb ⊢;rcases hb with(rfl|rfl|rfl|rfl|rfl)|hb
 ·exact .inl 0e0
 ·exact .inl 0e0
 ·exact .inr h
 ·exact .inl 0e0
 ·exact .inl 0e0
 ·exact .inl (.inr hb)
def bP.tup(F:bP P H A S p){b:Addr}(hb:b∈A.mut):∃o,H b=some o/\∀xs,o≠.tup xs:=by
 obtain⟨ot,M,_⟩:=F.ex;obtain⟨kvs,em,_⟩:=M.hm;obtain⟨ds,ed,_⟩:=M.hd;obtain⟨lk,ml,el,hl,_⟩:=F.lt;simp only[Fa.mut,Κ,Α,Δ,Ψ] at hb;rcases hb with(rfl|rfl|rfl|rfl|rfl)|hb
 ·exact⟨_,em,λ_ z=>by cases z⟩
 ·exact⟨_,M.hn,λ_ z=>by cases z⟩
 ·exact⟨_,M.ho,λ_ z=>by cases z⟩
 ·exact⟨_,ed,λ_ z=>by cases z⟩
 ·exact⟨_,el,λ_ z=>by cases z⟩
 ·obtain⟨xs,e⟩:=hl.ex b hb;exact⟨_,e,λ_ z=>by cases z⟩
def bP.tkp(F:bP P H A S p)(f:Fm [op] A A' H H')(e:H op=some (.lst us)):aD H H':=λa xs h=>f.kp a _ h (λz=>by
 obtain⟨o,e',n⟩:=F.tup z;rw[h] at e';cases e';exact n xs rfl) (by
 simp only[Α,Δ,Ψ];intro z;subst z;rw[h] at e;cases e)
def RT(h:op∉A.mut)(n:op≠o2):op∉({A with od:=o2}:Fa).mut:=by
 simp only[Fa.mut,Κ,Α,Δ,Ψ,not_or] at h ⊢;exact⟨⟨h.1.1,h.1.2.1,n,h.1.2.2.2⟩,h.2⟩
def MS(h:∀j∈OK6,∃u,ot j=some u):∀j∈OK6,∃u,1e0 j=some u:=λj hj=>by
 by_cases e:j=k
 ·exact⟨v,by simp[e]⟩
 ·obtain⟨u,z⟩:=h j hj;exact⟨u,by simp[e,z]⟩
def cS.six{H0:Hp}{md nd od:Addr}(M:cS H md nd od dd ot S)(e:H md=some (.dK kvs))(hk:k∈OK6)(hy:ot k=some y)(os:∀j∈OK6,∃u,ot j=some u)(KM:Kp D H0 H)(TM:aD H0 H)(hd:md∈D)(v:V){P:Hp->Prop}(h:∀G,cS G md nd od dd 1e0 S->(∀j∈OK6,∃u,1e0 j=some u)->Kp D H0 G->aD H0 G->(∀{b:Addr} {o:HO},H b=some o->o≠.dK kvs->G b=some o)->aD H G->Kp [md] H G->P G):P (UK H md (.dK (aR kvs (.inr k) v))) :=
 h _ (M.ot6 e hk hy v) (MS os) (KM.trans (Kp.set hd)) (TM.trans (aD.cR e)) (λe1 d=>cX e e1 d) (aD.cR e) (Kp.set 0e0)
def tX(l:List (Key×V))(k:Key)(v:V):(aR l k v).length<=l.length+1:=by
 unfold aR;split<;>simp
theorem eR{a b:String}(h:a≠b:=by decide):(λj=>if j=Str.ofString b then some v else ot j) 8e0=ot 8e0:=by
 simp only;rw[if_neg (sst h)]
def wH:1e0 k=some v:=by simp
end
end
mutual
example:=[(λ_ h=>nomatch h),(λh=>nomatch h),Str×List Wo,Int×Wo,(by show S.sl.isN=true;rw[n];rfl),S.worth s,(by simp),.int (p':Int),.dK (aR kvs (.inr "at") 7e0),some i∈ws,s.wt ts hs,ans.take i,aD.cR M.hn,.wait x ss]
def cS.as{md nd od:Addr}{S':Pu}(M:cS H md nd od dd ot S)(h:S'.ar=S.ar/\S'.nw=S.nw/\S'.nm=S.nm/\S'.made=S.made/\S'.pend=S.pend/\S'.ans=S.ans):cS H md nd od dd ot S':=by
 obtain⟨h1,h2,h3,h4,h5,h6⟩:=h;exact⟨by rw[h1,h2,h4];exact M.hm,by rw[h3];exact M.hn,by rw[h5];exact M.ho,by rw[h6];exact M.hd,M.n1,M.n2,by rw[h5];exact M.asc,by rw[h5,h4];exact M.lt,by rw[h6];exact M.uq,by rw[h6,h5,h4];exact M.dis⟩
variable{as:List Addr}
def bP.Eb(F:bP P H A S p)(s1:op∉A.mut)(s2:op≠A.cl)(s3:op∉A.cs){b:Addr}(hb:b=A.cl\/b∈A.cs\/b=A.ld\/b∈A.las):b≠A.md/\b≠A.nd/\b≠A.od/\b≠A.dd/\b≠op:=by
 obtain⟨a1,a2,a3,a4⟩:=F.far hb;refine⟨a1,a2,a3,a4,?_⟩;simp only[Fa.mut,Κ,Α,Δ,Ψ,not_or] at s1;rcases hb with rfl|hb|rfl|hb
 ·exact s2.symm
 ·exact λz=>s3 (z▸hb)
 ·exact λz=>s1.1.2.2.2.2 z.symm
 ·exact λz=>s1.2 (z▸hb)
def bP.new(F:bP P H A S p){x:Addr}(h:H x=none):(x≠A.cl/\x∉A.cs)/\(∀a∈A.las,a≠x)/\x∉A.mut:=by
 obtain⟨lk,ml,el,hl,_⟩:=F.lt;refine⟨rS F.cl F.co h,λa ha=>?_,λz=>?_⟩
 ·obtain⟨xs,e⟩:=hl.ex a ha;exact aF e h
 ·obtain⟨o,e,_⟩:=F.tup z;rw[h] at e;cases e
def aW:A.md∈A.mut/\A.nd∈A.mut/\A.od∈A.mut/\A.dd∈A.mut/\A.ld∈A.mut:=by simp[Fa.mut]
def Nq(P:List Stm)(A:Fa)(op:Addr)(H:Hp)(Q:VK)(cs:Cmds)(z:Pu×Cmds):Prop:=∀(A':Fa) (p':Nat) (H':Hp),bP P H' A' z.1 p'->g0 H' A' op (cs++z.2)->Fm [op] A A' H H'->Q .UL H'
inductive JN(vs:List V)(H:Hp)(Q:VK)(E:XK):Prop
 | mk (P:List Stm) (A:Fa) (S:Pu) (p:Nat) (w:Wo) (op:Addr) (cs:Cmds) (_:vs=[.ref A.md,wv w,.ref op]) (_:bP P H A S p) (_:g0 H A op cs) (_:cs.length<=1000) (_:Nq P A op H Q cs (S.ends w)):JN vs H Q E
inductive Dy(g:Stm->Prop)(vs:List V)(H:Hp)(Q:VK)(E:XK):Prop
 | mk (P:List Stm) (A:Fa) (S:Pu) (p:Nat) (v:V) (m:Stm) (_:vs=[.ref A.md,v]) (_:bP P H A S p) (_:S.sl=.UL) (_:cF H v m) (_:g m) (_:m.gd true) (_:bL S.stk=some m) (_:S.pl.Ok) (_:S.nm.length<=100000) (_:S.pend.length<=100000) (_:S.ans.length<=100000) (_:∀(A':Fa) (p':Nat) (H':Hp),bP P H' A' (one S m).1 p'->Fm [] A A' H H'->Q .UL H'):Dy g vs H Q E
theorem Ai(i:Int):∀ws:List Wo,u7 (.int i) (ws.map wv)=decide 9e0
 | []=>by simp[u7]
 | none::r=>by
  have:=Ai i r;simp only[ϑ,Α,reduceCtorEq,false_or] at this ⊢;rw[<- this];simp[u7,wv,g8,iI,kS,kR,kQ]
 | some j::r=>by
  have:=Ai i r;simp only[ϑ,Α,Υ] at this ⊢;rw[Bool.eq_iff_iff] at this ⊢;simp only[Ε6] at this ⊢;rw[<- this];simp only[u7,List.any_cons,Bool.or_eq_true];constructor
  ·rintro(h|h)
   ·exact .inl (by simp only[g8,iI,kS,kR,kQ,wv,beq_iff_eq] at h;omega)
   ·exact .inr h
  ·rintro(h|h)
   ·exact .inl (by simp only[g8,iI,kS,kR,kQ,wv,beq_iff_eq];omega)
   ·exact .inr h
def Bo(ws:List Wo):(ws.map wv).all eK=true:=by simp[t7]
def Mg{K:q0B}{b:Addr}(ha:H a=some (.lst xs))(hb:H b=some (.lst [])):qO K H 1 a b xs.isEmpty:=by
 cases xs with
 | nil =>
  have:=qO.list (K:=K) (H:=H) (n:=0) (e:=λ_=>true) (fV.of ha) (fV.of hb) rfl (λj x y e _=>by simp at e);simpa using this
 | cons x xs=>exact qO.VS (fV.of ha) (fV.of hb) 6e0
theorem nJ{pend:List Int}{j:Int}:∀{ws:List Wo},j∈dO pend ws↔j∈pend/\some j∈ws
 | []=>by simp[dO]
 | none::r=>by simp only[dO,nJ (ws:=r)];simp
 | some i::r=>by
  simp only[dO];split
  ·next h =>
   simp only[Α,nJ (ws:=r),Υ];constructor
   ·rintro(rfl|h2)
    ·exact⟨h,.inl rfl⟩
    ·exact⟨h2.1,.inr h2.2⟩
   ·rintro⟨h1,rfl|h2⟩
    ·exact .inl rfl
    ·exact .inr ⟨h1,h2⟩
  ·next h =>
   simp only[Α,nJ (ws:=r),Υ];constructor
   ·rintro⟨h1,h2⟩;exact⟨h1,.inr h2⟩
   ·rintro⟨h1,rfl|h2⟩
    ·exact absurd h1 h
    ·exact⟨h1,h2⟩
theorem BU(h:pend.Pairwise (· < ·))(ws:List Wo):pend.filter (λi=>decide 9e0)=bK pend ws:=by
 refine mU ((List.perm_ext_iff_of_nodup ?_ ((gL pend ws).imp λh=>by omega)).mpr λj=>?_) ((h.filter _).imp λh=>by omega) (gL pend ws)
 ·exact(h.filter _).imp λh=>by omega
 ·rw[k6,nJ,Α6];simp
def dC(ans:List 3e0)(ws:List Wo):List Int:=(ans.filter λp=>decide (some p.1∈ws)).map (·.1)
def mP(ans:List 3e0)(ws:List Wo):bB ans ws=(dC ans ws).head?:=by
 unfold bB dC
 induction ans with
 | nil=>rfl
 | cons x r ih =>
  by_cases h:some x.1∈ws
  ·simp[Δ3,h]
  ·simp only[Δ3,List.filter_cons,h,decide_false,Ϙ,Β4];exact ih
theorem Du{i:Nat}(e:ans[i]?=some (j,w)):(dC (ans.take (i+1)) ws).map V.int=if decide (some j∈ws)=true then (dC 1e1 ws).map V.int++[.int j] else (dC 1e1 ws).map V.int:=by
 unfold dC;rw[Β3,e,Α5,List.filter_append];by_cases h:some j∈ws<;>simp[h]
def FA{l:List Int}{q:Int->Bool}{i:Nat}(e:l[i]?=some j):((l.take (i+1)).filter q).map V.int=if q j=true then ((l.take i).filter q).map V.int++[.int j] else ((l.take i).filter q).map V.int:=by
 rw[Β3,e,Α5,List.filter_append];by_cases h:q j=true<;>simp[h]
def Jz(ans:List 3e0)(ws:List Wo):((dC ans ws).map V.int++[V.UL])[0]?=some (wv (bB ans ws)):=by
 rw[mP];cases dC ans ws<;>rfl
def GO(ans:List 3e0)(ws:List Wo):(dC ans ws).length<=ans.length:=by
 rw[dC,Γ];exact Γ9 _ _
theorem kY:∀(l:List 2e0) (k:Str) (r:List Wo) (j:Str),aS (dG l k r) j=if j=k then (aS l k).map (λ_=>r) else aS l j
 | [],k,r,j=>by simp[aS,dG]
 | p::l,k,r,j=>by
  have ih:=kY l k r j;by_cases h:p.1=k
  ·by_cases hj:j=k
   ·subst hj;simp[dG,aS,h]
   ·have:¬ p.1=j:=λz=>hj (z▸h);have hk:¬ k=j:=λz=>hj z.symm;simp[dG,aS,h,hj,hk]
  ·simp only[dG,h,Β4,aS,ih];by_cases hj:j=k
   ·subst hj;simp[h]
   ·simp[hj]
theorem nQ:∀(l:List 2e0) (k:Str) (r:List Wo),(dG l k r).map (·.1)=l.map (·.1)
 | [],_,_=>rfl
 | p::l,k,r=>by
  simp only[dG];split
  ·rfl
  ·simp[nQ l k r]
def uW{l:List 2e0}{r':List Wo}(h:(aS l k).getD []=w::r')(r:List Wo)(j:Str):(aS (dG l k r) j).getD []=if j=k then r else (aS l j).getD []:=by
 rw[kY];by_cases hj:j=k
 ·rw[if_pos hj,if_pos hj];cases e:aS l k with
  | none=>rw[e] at h;simp at h
  | some v=>rfl
 ·rw[if_neg hj,if_neg hj]
def Slp.md:Slp->Str
 | .new=>"new" | .UL=>"on" | .wait _=>"wait" | .UP _=>"hear" | .ended _=>"ended" | .worn=>"worn"
def eY.md(h:eY H A ot s):ot "mode"=some (.str s.md):=by
 cases s with
 | wait ts=>exact h.1
 | ended w=>exact h.1
 | _=>exact h
def RP(s:Slp):(s.md=("on":Str))=(s.isN=true):=by
 cases s<;>simp[Slp.md,Slp.isN,cZ]
def pH(h:bL S.bD.stk=none)(n:Nat):dX n S=S.bD.ends none:=by
 cases n<;>simp only[dX,h]
def yV(h:bL S.bD.stk=some m):dX 0 S=S.bD.oJ:=by simp only[dX,h]
def yU(h:bL S.bD.stk=some m)(n:Nat):dX (n+1) S=if (one S.bD m).1.sl.isN=true then ((dX n (one S.bD m).1).1,(one S.bD m).2++(dX n (one S.bD m).1).2) else one S.bD m:=by simp only[dX,h]
def Iu(h:bN st=bN S.stk)(n:Nat):dX n {S with stk:=st}=dX n S:=by
 have e:({S with stk:=st}:Pu).bD=S.bD:=by simp only[Pu.bD,h]
 cases n<;>simp only[dX,e]
def bP.stk(F:bP P H A S p)(h:Ps P st p):bP P H A {S with stk:=st} p:=by
 obtain⟨ot,M,os,c1,c2,c3,c4⟩:=F.ex;exact F.oM (M.as ⟨rfl,rfl,rfl,rfl,rfl,rfl⟩) os c1 c2 c3 c4 (λ_ _ e _=>e) (λ_ _ e=>e) rfl h
def bP.setAt(F:bP P H A S p)(e:H A.md=some (.dK kvs)){p':Nat}(h:Ps P st p'):bP P (UK H A.md 8e0) A {S with stk:=st} p':=by
 obtain⟨ot,M,os,c1,c2,c3,c4⟩:=F.ex;refine F.oM ((M.ot6 e (k:="at") (by simp[OK6]) c2 7e0).as ⟨rfl,rfl,rfl,rfl,rfl,rfl⟩) (MS os) ((eR).trans c1) wH ((eR).trans c3) ?_ (λb o z hb=>by rw[aC (F.far hb).1];exact z) (aD.cR e) rfl h;have c5:=eY.keep (H':=UK H A.md 8e0) c4 (λb o z hb=>by rw[aC (λy=>hb (by rw[y];exact aW.1))];exact z);show eY _ _ _ S.sl;cases hs:S.sl with
 | wait ts=>rw[hs] at c5;obtain⟨a1,a2,a3,a4⟩:=c5;exact⟨(eR).trans a1,(eR).trans a2,a3,a4⟩
 | ended w=>rw[hs] at c5;exact⟨(eR).trans c5.1,(eR).trans c5.2⟩
 | _=>rw[hs] at c5;exact(eR).trans c5
def g0.md(h:g0 H A op cs)(e:H A.md=some (.dK kvs))(XS:List (Key×V)):g0 (UK H A.md (.dK XS)) A op cs:=by
 obtain⟨us,eo,hC,s⟩:=h;exact⟨us,cX e eo,hC.kt (aD.cR e),s⟩
theorem Mr(h:Tb st):st.length<=21:=by
 cases st with
 | nil=>simp
 | cons x r=>obtain⟨a,b,c⟩:=x;have:=h.1;simp only[Ε];omega
inductive MW(vs:List V)(H:Hp)(Q:VK)(E:XK):Prop
 | mk (P:List Stm) (A:Fa) (S:Pu) (p:Nat) (op:Addr) (N:Nat) (_:vs=[.ref A.md,.ref op]) (_:bP P H A S p) (_:g0 H A op []) (_:UU true {S with sl:=.UL} N) (_:N<=90000) (_:Nq P A op H Q [] (dX 300 {S with sl:=.UL})):MW vs H Q E
def RK(m:Stm):u7 (.str m.kw) [.str "if",.str "while"]=m.isB:=by
 cases m<;>kernel_rfl
def RM(m:Stm):(m.kw=("wait":Str))=(∃x ss,m=.wait x ss):=by
 cases m<;>simp[Stm.kw,cZ]
def RJ(m:Stm):(m.kw=("hear":Str))=(∃x k,m=.UP x k):=by
 cases m<;>simp[Stm.kw,cZ]
def RH(m:Stm):(m.kw=("end":Str))=(∃s,m=.fin s):=by
 cases m<;>simp[Stm.kw,cZ]
def Iq(h:m.Bw=true)(g:m.gd true):m.gd false:=by
 cases m<;>first|exact g|cases h
def Fm.mono{E:List Addr}{A':Fa}(x:Fm D A A' H H')(h:∀a∈D,a∈E:=by simp):Fm E A A' H H':=⟨λb o e h1 h2=>x.kp b o e h1 λz=>h2 (h b z),x.st,x.nw,x.m1,x.nk,x.na⟩
def Fm.to{A':Fa}(x:Fm D A A' H H')(n:Nat):Fm D {A with nk:=n} {A' with nk:=n} H H':=⟨x.kp,x.st,x.nw,x.m1,rfl,x.na⟩
def Fm.eta{A':Fa}(x:Fm D A A' H H'):Fm D A {A' with nk:=A.nk} H H':=⟨x.kp,x.st,x.nw,x.m1,rfl,x.na⟩
def g0.fm{A':Fa}(O:g0 H A op cs)(F:bP P H A S p)(W:Fm [] A A' H H'):g0 H' A' op cs:=by
 obtain⟨us,eo,hC,s1,s2,s3⟩:=O;have T:=F.tkp (W.mono (E:=[op]) 6e0) eo;refine⟨us,W.kp _ _ eo s1 6e0,hC.kt T,λz=>?_,by rw[W.m1.2.1];exact s2,by rw[W.m1.2.2];exact s3⟩;rcases W.nw op z with z|z
 ·exact s1 z
 ·rw[z] at eo;cases eo
def MR(h:(∃x ss,m=.wait x ss)\/∃x k,m=.UP x k):(one S m).2=[]:=by
 rcases h with⟨x,ss,rfl⟩|⟨x,k,rfl⟩
 ·rw[j6 rfl];simp only[bT];split<;>rfl
 ·rw[j6 rfl];simp only[bT];split<;>rfl
def Ew{s:Say}:one S (.fin s)=S.ends 5e0:=by
 rw[j6 rfl];rfl
def Ji(h:m.Bw=true)(n:S.sl=.UL):one S m=((bT S m).1.pass,(bT S m).2):=by
 have hb:m.isB=false:=by cases m<;>first|rfl|cases h
 rw[j6 hb,if_pos (by rw[(DY h).1,n];rfl)]
def tQ{s:Say}:one S (.U4 s b)=(if num 5e0=0 then S.pass else S.enter 0 b,[]):=by rw[BR rfl];rfl
def tP{s:Say}{o:List Stm}:one S (.iff s b o)=(if num 5e0=0 then S.enter 1 o else S.enter 0 b,[]):=by rw[BR rfl];rfl
def R7(h1:¬ m.isB=true)(h2:¬ ∃x ss,m=.wait x ss)(h3:¬ ∃x k,m=.UP x k)(h4:¬ ∃s,m=.fin s):m.Bw=true:=by
 cases m<;>first|rfl|exact absurd rfl h1|exact absurd ⟨_,_,rfl⟩ h2|exact absurd ⟨_,_,rfl⟩ h3|exact absurd ⟨_,rfl⟩ h4
def bP.Sl(F:bP P H A S p)(x:Str)(w:Wo):bP P (UK H A.nd (.dK (fH (cB S.nm x w)))) A {S with nm:=cB S.nm x w} p:=by
 obtain⟨ot,M,os,c1,c2,c3,c4⟩:=F.ex;exact F.oM (M.name x w) os c1 c2 c3 (c4.keep λb o z hb=>by rw[aC (λy=>hb (by rw[y];exact aW.2.1))];exact z) (λb o z hb=>by rw[aC (F.far hb).2.1];exact z) 2e1 rfl F.ps
def g0.nd(h:g0 H A op cs)(F:bP P H A S p)(XS:List (Key×V)):g0 (UK H A.nd (.dK XS)) A op cs:=by
 obtain⟨us,eo,hC,s⟩:=h;obtain⟨ot,M,_⟩:=F.ex;exact⟨us,cX M.hn eo,hC.kt 2e1,s⟩
inductive JK(vs:List V)(H:Hp)(Q:VK)(E:XK):Prop
 | mk (P:List Stm) (A:Fa) (S:Pu) (p:Nat) (w:Wo) (op:Addr) (N:Nat) (_:vs=[.ref A.md,wv w,.ref op]) (_:bP P H A S p) (_:g0 H A op []) (_:UU true S N) (_:N<=80000) (_:dU w) (_:((∃k,S.sl=.UP k)\/∃ts,S.sl=.wait ts)) (_:Nq P A op H Q [] (S.wake w)):JK vs H Q E
def Mz(F:UU wt S N)(h:(∃k,S.sl=.UP k)\/∃ts,S.sl=.wait ts):∃x m,bL S.stk=some m/\m.isB=false/\(∀(H:Hp) v,cF H v m->∃a kw xs,v=.ref a/\H a=some (.tup (.str kw::.str x::xs)))/\∀w,S.wake w=dX 300 {S with nm:=cB S.nm x w,stk:=fP S.stk,sl:=.UL}:=by
 rcases h with⟨k,hk⟩|⟨ts,hk⟩
 ·obtain⟨x,UY⟩:=F.sl.1 k hk;exact⟨x,_,UY,rfl,λH v h=>by cases h with|UP e=>exact⟨_,_,_,rfl,e⟩,λw=>by simp only[Pu.wake,UY]⟩
 ·obtain⟨x,ss,UY⟩:=F.sl.2.1 ts hk;exact⟨x,_,UY,rfl,λH v h=>by cases h with|wait e _ _=>exact⟨_,_,_,rfl,e⟩,λw=>by simp only[Pu.wake,UY]⟩
structure Std(S:Pu):Prop where
 nw:S.sl=.new->S.nw=0/\S.pend=[]
 en:∀w,S.sl=.ended w->S.pend=[]
 wo:S.sl=.worn->S.pend=[]
 he:∀k,S.sl=.UP k->(aS S.lt k).getD []=[]
 wt:∀ts,S.sl=.wait ts->∃x ss,bL S.stk=some 3e1/\ts.length<=ss.length
theorem Bv(i:Int):∀l:List Int,(u9 i l).length<=l.length+1
 | []=>by simp[u9]
 | j::r=>by
  have:=Bv i r;simp only[u9];split
  ·simp
  ·split
   ·simp
   ·simp only[Ε];omega
theorem oX(pend:List Int):∀ws:List Wo,(bK pend ws).length<=ws.length
 | []=>by simp[bK]
 | none::r=>by have:=oX pend r;simp only[bK,Ε];omega
 | some i::r=>by
  have:=oX pend r;have:=Bv i (bK pend r);simp only[bK,Ε];split<;>omega
def Fc(b:List Stm):Std (dZ b):=⟨λ_=>⟨rfl,rfl⟩,0e0,1e0,0e0,0e0⟩
def xI(S:Pu)(w:Wo):Std (S.ends w).1:=⟨1e0,λ_ _=>rfl,1e0,0e0,0e0⟩
def Mq(st:bL S.stk=some m)(n:S.sl=.UL)(h:¬ (one S m).1.sl.isN=true):Std (one S m).1:=by
 by_cases hb:m.isB=true
 ·exfalso;apply h;rw[BR hb];cases m<;>first|(simp only[sG];split<;>(show S.sl.isN=true;rw[n];rfl))|cases hb
 ·rw[j6 (by simpa using hb)] at h ⊢;by_cases hd:(bT S m).1.sl.isN=true
  ·exfalso;apply h;rw[if_pos hd];exact hd
  ·rw[if_neg hd];cases m with
   | UP x k =>
    simp only[bT] at hd ⊢;split
    ·next e=>rw[e] at hd;exact absurd 4e0 hd
    ·next e=>exact⟨1e0,0e0,1e0,λk' hk=>by cases hk;exact e,0e0⟩
   | wait x ss =>
    simp only[bT] at hd ⊢;split
    ·exact⟨1e0,0e0,1e0,0e0,λts hts=>by
      cases hts;refine⟨x,ss,st,?_⟩;have:=oX S.pend (ss.map S.worth);rw[Γ] at this;exact this⟩
    ·next e=>rw[if_neg e] at hd;exact absurd 4e0 hd
   | fin s=>exact xI S _
   | drop s =>
    exfalso;apply hd;simp only[bT];split
    ·split<;>(show S.sl.isN=true;rw[n];rfl)
    ·show S.sl.isN=true;rw[n];rfl
   | U4 _ _=>exact absurd rfl hb
   | iff _ _ _=>exact absurd rfl hb
   | _=>exact absurd 4e0 hd
theorem pK:∀(n:Nat) (S:Pu),S.sl=.UL->Std (dX n S).1
 | 0,S,h=>by
  cases e:bL S.bD.stk with
  | none=>rw[pH e];exact xI _ _
  | some m=>rw[yV e];exact⟨1e0,0e0,λ_=>rfl,0e0,0e0⟩
 | n+1,S,h=>by
  cases e:bL S.bD.stk with
  | none=>rw[pH e];exact xI _ _
  | some m =>
   rw[yU e];split
   ·next hn=>exact pK n _ (nG hn)
   ·next hn=>exact Mq e h hn
def Cw(h:Std S)(w:Wo):Std (S.wake w).1:=by
 unfold Pu.wake;split
 ·exact pK _ _ rfl
 ·exact pK _ _ rfl
 ·exact h
def vG(l:List 2e0)(k:Str)(w:Wo)(j:Str):(aS (fJ l k w) j).getD []=if j=k then (aS l k).getD []++[w] else (aS l j).getD []:=by
 unfold fJ;cases e:aS l k with
 | some ws =>
  simp only;rw[kY];by_cases hj:j=k
  ·rw[if_pos hj,if_pos hj,e];rfl
  ·rw[if_neg hj,if_neg hj]
 | none =>
  simp only;have app:∀(l:List 2e0),aS (l++[(k,[w])]) j=match aS l j with|some v=>some v|none=>if k=j then some [w] else none:=λl=>by
   induction l with
   | nil=>simp[aS]
   | cons x r ih =>
    simp only[ϐ,aS];split
    ·rfl
    ·exact ih
  rw[app];by_cases hj:j=k
  ·subst hj;rw[e];simp
  ·rw[if_neg hj];cases aS l j with
   | some v=>rfl
   | none=>simp only;rw[if_neg (λz:k=j=>hj z.symm)]
def Cv(h:S.sl=.wait ts)(w:∃x ss,bL S.stk=some 3e1/\ts.length<=ss.length):Std S:=by
 refine⟨λz=>?_,λ_ z=>?_,λz=>?_,λ_ z=>?_,λj z=>?_⟩
 ·rw[h] at z;cases z
 ·rw[h] at z;cases z
 ·rw[h] at z;cases z
 ·rw[h] at z;cases z
 ·rw[h] at z;cases z;exact w
def xJ(h:S.sl=.UP k)(e:(aS S.lt k).getD []=[]):Std S:=by
 refine⟨λz=>?_,λ_ z=>?_,λz=>?_,λj z=>?_,λ_ z=>?_⟩
 ·rw[h] at z;cases z
 ·rw[h] at z;cases z
 ·rw[h] at z;cases z
 ·rw[h] at z;cases z;exact e
 ·rw[h] at z;cases z
def Cu(s:Std S)(n:S.sl.isN=false)(h:Hap):Std (S.take h).1:=by
 unfold Pu.take;split
 ·exact s
 ·next ho =>
  cases h with
  | Vf m w=>exact pK _ _ rfl
  | don m i w =>
   cases hs:S.sl with
   | wait ts =>
    have sd:Std ((S.at' m).done i w):=Cv (show((S.at' m).done i w).sl=.wait ts from hs) 0e1;simp only[Pu.eV,show(S.at' m).sl=S.sl from rfl,hs];split
    ·exact Cw sd _
    ·exact sd
   | UP k =>
    simp only[Pu.eV,show(S.at' m).sl=S.sl from rfl,hs];exact xJ (show((S.at' m).done i w).sl=.UP k from hs) (s.he k hs)
   | UL=>rw[hs] at n;cases n
   | new=>simp[Pu.over,hs] at ho
   | ended w'=>simp[Pu.over,hs] at ho
   | worn=>simp[Pu.over,hs] at ho
  | ltr m k w =>
   cases hs:S.sl with
   | wait ts =>
    simp only[Pu.eF,show(S.at' m).sl=S.sl from rfl,hs];exact Cv rfl 0e1
   | UP k' =>
    simp only[Pu.eF,show(S.at' m).sl=S.sl from rfl,hs];split
    ·exact Cw (xJ (show(S.at' m).sl=.UP k' from hs) (s.he k' hs)) _
    ·next hk =>
     refine xJ rfl ?_;show(aS (fJ S.lt k w) k').getD []=[];rw[vG,if_neg hk];exact s.he k' hs
   | UL=>rw[hs] at n;cases n
   | new=>simp[Pu.over,hs] at ho
   | ended w'=>simp[Pu.over,hs] at ho
   | worn=>simp[Pu.over,hs] at ho
end
section
mutual
example:=[(c4.keep λb o z hb=>by rw[aC (λy=>hb (by rw[y];exact aW.1))];exact z),(λb o z hb=>by rw[aC (F.far hb).1];exact z),UK H A.dd (.lst (ds++[.ref t]))]
def bP.JD(F:bP P H A S p)(e:H A.md=some (.dK kvs))(m:Int):bP P (UK H A.md (.dK (aR kvs (.inr "now") (.int m)))) A {S with nw:=m} p:=by
 obtain⟨ot,M,os,c1,c2,c3,c4⟩:=F.ex;exact F.oM (M.now e m) os c1 c2 c3 0e0 1e0 (aD.cR e) rfl F.ps
def bP.Sj(F:bP P H A S p)(e:H A.md=some (.dK kvs))(w:Wo):bP P (UK H A.md (.dK (aR kvs (.inr "arg") (wv w)))) A {S with ar:=w} p:=by
 obtain⟨ot,M,os,c1,c2,c3,c4⟩:=F.ex;exact F.oM (M.arg e w) os c1 c2 c3 0e0 1e0 (aD.cR e) rfl F.ps
def bP.Sm(F:bP P H A S p)(a:pd.Pairwise (· < ·))(b:∀i∈pd,0<=i/\i < S.made)(c:∀q∈S.ans,q.1∉pd):bP P (UK H A.od (.lst (pd.map V.int))) A {S with pend:=pd} p:=by
 obtain⟨ot,M,os,c1,c2,c3,c4⟩:=F.ex;exact F.oM (M.open a b c) os c1 c2 c3 (c4.keep λb o z hb=>by rw[aC (λy=>hb (by rw[y];exact aW.2.2.1))];exact z) (λb o z hb=>by rw[aC (F.far hb).2.2.1];exact z) (aD.cR M.ho) rfl F.ps
def bP.Nr(F:bP P H A S p)(e:H A.dd=some (.lst ds)){t:Addr}(et:H t=some (.tup [.int i,wv w]))(n1:i∉S.ans.map (·.1))(n2:i∉S.pend)(n3:i < S.made):bP P 2e0 A {S with ans:=S.ans++[(i,w)]} p:=by
 obtain⟨ot,M,os,c1,c2,c3,c4⟩:=F.ex;obtain⟨kv,e',r⟩:=M.hm;obtain⟨ds',e2,r2⟩:=M.hd;rw[e] at e2;cases e2;have T:aD H 2e0:=aD.cR e;refine F.oM (ot':=ot) ⟨⟨kv,cX e e',r⟩,cX e M.hn,by rw[aC M.n2];exact M.ho,⟨_,aA,(r2.snoc et).kt T⟩,M.n1,M.n2,M.asc,M.lt,?_,?_⟩ os c1 c2 c3 (c4.keep λb o z hb=>by rw[aC (λy=>hb (by rw[y];exact aW.2.2.2.1))];exact z) (λb o z hb=>by rw[aC (F.far hb).2.2.2];exact z) T rfl F.ps
 ·show((S.ans++[(i,w)]).map (·.1)).Nodup;rw[Α4];exact ϙ.mpr ⟨M.uq,by simp,λx hx y hy z=>n1 (by rw[show y=i by simpa using hy] at z;rw[<- z];exact hx)⟩
 ·intro q hq;rcases Κ.mp hq with hq|hq
  ·exact M.dis q hq
  ·rw[show q=(i,w) by simpa using hq];exact⟨n2,n3⟩
def g0.put{b:Addr}{u:HO}(h:g0 H A op cs)(e:H b=some o)(hb:b∈A.mut)(d:∀xs,o≠.tup xs):g0 (UK H b u) A op cs:=by
 obtain⟨us,eo,hC,s⟩:=h;exact⟨us,by rw[aC (λz=>s.1 (by rw[z];exact hb))];exact eo,hC.kt (aD.cR e d),s⟩
end
end
mutual
example:=[(by omega),FC×Fr,(by simp),(λ_ z=>by cases z),(by simp[z]),I++[x],.lst us,f.b2.getD [],N+302,(UK H fl (.lst (I.map λx=>.ref x.1.fa))),(by simp[y]),(I++[(x.1,x.2.add (fF y.2 i s))]),(0<=h.m/\h.m<=1000000000000),fF y.2 i s,x.2.b2.getD [],.ref l2,(by simp[hy]),I++[x]++[y],.inr k,List Stm,vs++[v],(UK H fl (.lst ((L++[((⟨fa,f1,none⟩:FC),(⟨h,[],none⟩:Fr))]).map λx=>.ref x.1.fa))),(UK H x.1.fa (.lst [hv,.ref x.1.f1,.ref a])),((I++[x]).map λx=>V.ref x.1.fa),.lst (us++[v]),UK H x.1.cur 4e2,aR kvs (.inr k) (.ref l2),.inr (.inr (.inr rfl)),.lst (ms.map V.int),(by simp[FC.cells]),.lst (ws.map wv),.inr (.inl rfl),F2.wake e hi _,F1.wake e hw _,Str×List Wo,(λ_=>true),.ref x.1.fa,Bool×Say]
def fW.keys(h:fW H kvs as lt):kvs.map (·.1)=lt.map λp=>Key.inr p.1:=by
 induction h with
 | nil=>rfl
 | cons _ _ ih=>simp[ih]
def fW.JA{l2:Addr}(e2:H l2=some 0e3)(h:fW H kvs as lt):(lt.map (·.1)).Nodup->as.Nodup->l2∉as->(∃v,aS lt k=some v)->∃Vc,fW H (kvs.map λkv=>if kv.1=.inr k then (kv.1,.ref l2) else kv) Vc (dG lt k ws)/\Vc.Nodup/\(∀a∈Vc,a=l2\/a∈as)/\l2∈Vc:=by
 induction h with
 | nil=>intro _ _ _ ⟨v,z⟩;simp[aS] at z
 | @cons a j vs kvs as lt e hr ih =>
  intro nk na n2 ⟨v,z⟩;rw[ϑ,ϗ] at nk;rw[ϗ] at na;by_cases hj:j=k
  ·subst hj;have same:(kvs.map λkv=>if kv.1=.inr j then (kv.1,.ref l2) else kv)=kvs:=by
    conv=>rhs;rw[<- List.map_id kvs]
    refine List.map_congr_left λkv hkv=>?_;have:kv.1∈kvs.map (·.1):=List.mem_map_of_mem hkv;rw[hr.keys] at this;obtain⟨q,hq,eq⟩:=Ϛ.mp this;have:¬ kv.1=.inr j:=λy=>nk.1 (by
     rw[<- eq] at y;cases y;exact Ϛ.mpr ⟨q,hq,rfl⟩)
    simp[this]
   refine⟨l2::as,?_,ϗ.mpr ⟨λy=>n2 0e1,na.2⟩,λb hb=>?_,by simp⟩
   ·rw[ϑ,same,dG,if_pos rfl,if_pos rfl];exact .cons e2 hr
   ·rcases Α.mp hb with hb|hb
    ·exact .inl hb
    ·exact .inr (by simp[hb])
  ·obtain⟨Vc,h1,h2,h3,h4⟩:=ih nk.2 na.2 (λy=>n2 0e1) ⟨v,by simpa[aS,hj] using z⟩;refine⟨a::Vc,?_,ϗ.mpr ⟨λy=>?_,h2⟩,λb hb=>?_,by simp[h4]⟩
   ·rw[ϑ,if_neg (λy=>hj (Key.inr.inj y)),dG,if_neg hj];exact .cons e h1
   ·rcases h3 a y with y|y
    ·exact n2 0e1
    ·exact na.1 y
   ·rcases Α.mp hb with rfl|hb
    ·exact .inr 2e0
    ·rcases h3 b hb with y|y
     ·exact .inl y
     ·exact .inr 0e1
def fW.Uh{l2:Addr}(e2:H l2=some 0e3)(h:fW H kvs as lt)(nk:(lt.map (·.1)).Nodup)(na:as.Nodup)(n2:l2∉as):∃Vc lt',fW H 6e2 Vc lt'/\(lt'.map (·.1)).Nodup/\Vc.Nodup/\(∀a∈Vc,a=l2\/a∈as)/\l2∈Vc/\aZ 6e2 8e1=some 5e1/\∀j,(aS lt' j).getD []=if j=k then ws else (aS lt j).getD []:=by
 rcases h.look k with⟨z1,z2⟩|⟨a,vs,z1,z2,z3,z4⟩
 ·refine⟨as++[l2],lt++[(k,ws)],?_,?_,ϙ.mpr ⟨na,by simp,λx hx y hy z=>n2 (by rw[show y=l2 by simpa using hy] at z;rw[<- z];exact hx)⟩,λa ha=>(Κ.mp ha).elim .inr (λy=>.inl (by simpa using y)),by simp,SA,λj=>?_⟩
  ·have:aR kvs 8e1 5e1=kvs++[(.inr k,.ref l2)]:=by
    unfold aR;rw[iA,z1];simp
   rw[this];exact h.snoc e2
  ·rw[Α4];refine ϙ.mpr ⟨nk,by simp,λx hx y hy z=>?_⟩;obtain⟨q,hq,e⟩:=Ϛ.mp hx;have:∀(l:List 4e3),q∈l->aS l k≠none:=λl=>by
    induction l with
    | nil=>simp
    | cons u r ih =>
     intro hu;rcases Α.mp hu with rfl|hu
     ·simp[aS,e,z,show y=k by simpa using hy]
     ·simp only[aS];split
      ·simp
      ·exact ih hu
   exact this lt hq z2
  ·have app:∀(l:List 4e3),aS (l++[(k,ws)]) j=match aS l j with|some v=>some v|none=>if k=j then some ws else none:=λl=>by
    induction l with
    | nil=>simp[aS]
    | cons x r ih =>
     simp only[ϐ,aS];split
     ·rfl
     ·exact ih
   rw[app];by_cases hj:j=k
   ·subst hj;rw[z2];simp
   ·rw[if_neg hj];cases aS lt j with
    | some v=>rfl
    | none=>simp only;rw[if_neg (λz:k=j=>hj z.symm)]
 ·obtain⟨Vc,h1,h2,h3,h4⟩:=h.JA e2 nk na n2 ⟨vs,z2⟩;refine⟨Vc,dG lt k ws,?_,by rw[nQ];exact nk,h2,h3,h4,SA,λj=>?_⟩
  ·have:aR kvs 8e1 5e1=kvs.map λkv=>if kv.1=.inr k then (kv.1,.ref l2) else kv:=by
    unfold aR;rw[iA,z1];simp
   rw[this];exact h1
  ·rw[kY];by_cases hj:j=k
   ·rw[if_pos hj,if_pos hj,z2];rfl
   ·rw[if_neg hj,if_neg hj]
def Ma{k:Key}{x:V}:(aR kvs k x).length<=kvs.length+1:=by
 unfold aR;split<;>simp
def cS.MM{md nd od:Addr}(M:cS H md nd od dd ot S)(k:∀a o,H a=some o->a=md\/a=nd\/a=od\/a=dd->H' a=some o)(T:aD H H'):cS H' md nd od dd ot S:=by
 obtain⟨kvs,e,r⟩:=M.hm;obtain⟨ds,e2,r2⟩:=M.hd;exact {M with hm:=⟨kvs,k _ _ e (.inl rfl),r⟩,hn:=k _ _ M.hn 1e3,ho:=k _ _ M.ho (.inr 1e3),hd:=⟨ds,k _ _ e2 7e2,r2.kt T⟩}
def eY.las(h:eY H A ot s){las:List Addr}(hl:∀a∈las,a∈A.las\/H a=none)(k:∀b o,H b=some o->b∉A.mut->H' b=some o):eY H' {A with las:=las,nk:=n} ot s:=by
 cases s with
 | wait ts =>
  obtain⟨h1,h2,h3,h4⟩:=h;refine⟨h1,h2,k _ _ h3 h4,λz=>?_⟩;simp only[Fa.mut,Κ,Α,Δ,Ψ,not_or] at h4 z;rcases z with z|z
  ·rcases z with z|z|z|z|z
   ·exact h4.1.1 z
   ·exact h4.1.2.1 z
   ·exact h4.1.2.2.1 z
   ·exact h4.1.2.2.2.1 z
   ·exact h4.1.2.2.2.2 z
  ·rcases hl A.aw z with z|z
   ·exact h4.2 z
   ·rw[z] at h3;cases h3
 | _=>exact h
def Eo{las:List Addr}{b:Addr}(h:b∈({A with las:=las,nk:=n}:Fa).mut):b∈A.mut\/b∈las:=by
 simp only[Fa.mut,Κ,Α,Δ,Ψ] at h ⊢;rcases h with h|h
 ·exact .inl (.inl h)
 ·exact .inr h
inductive Cn(vs:List V)(H:Hp)(Q:VK)(E:XK):Prop
 | mk (P:List Stm) (A:Fa) (S:Pu) (p:Nat) (v:V) (h:Hap) (N:Nat) (_:vs=[.ref A.md,v]) (_:bP P H A S p) (_:lJ H v h) (_:(2e1/\dU h.w)) (_:UU true S N) (_:N<=70000) (_:S.sl.isN=false) (_:Std S) (_:A.nk<=1000) (_:∀(A':Fa) (p':Nat) (op:Addr) (us:List V) (H':Hp),bP P H' A' (S.take h).1 p'->H op=none->H' op=some 6e0->iC H' us (S.take h).2->op∉A'.mut->Fm [] A {A' with nk:=A.nk} H H'->A'.nk<=A.nk+1->Q (.ref op) H'):Cn vs H Q E
def Slp.wh:Slp->Bool
 | .wait _=>true
 | .UP _=>true
 | _=>false
def RQ(s:Slp):u7 (.str s.md) [.str "wait",.str "hear"]=s.wh:=by
 cases s<;>kernel_rfl
def S4(h:s.wh=true):(∃k,s=.UP k)\/∃ts,s=.wait ts:=by
 cases s<;>first|exact .inl ⟨_,rfl⟩|exact .inr ⟨_,rfl⟩|cases h
def Dc(s:Slp):(s.md=("new":Str))=(s=.new):=by
 cases s<;>simp[Slp.md,cZ]
def Er(s:Slp):(s.md=("hear":Str))=(∃k,s=.UP k):=by
 cases s<;>simp[Slp.md,cZ]
inductive JP(vs:List V)(H:Hp)(Q:VK)(E:XK):Prop
 | mk (P:List Stm) (A:Fa) (S:Pu) (p r n N:Nat) (_:vs=[.ref r,.ref A.md]) (_:bP P H A S p) (_:(UU true S N/\fA L20 S)) (_:N<=90000) (_:bM H r n) (_:n<=200) (_:r∉A.mut) (_:r≠A.cl) (_:r∉A.cs) (_:∀(v:V) (h:Hap) (n':Nat) (H':Hp),lJ H' v h->(2e1/\dU h.w)->h.kin->bM H' r n'->n'<=n+20->Kp [r] H H'->Q v H'):JP vs H Q E
def UU.slp(F:UU wt S N)(x:Slp)(h:Hi x S.stk):UU wt {S with sl:=x,pend:=[]} N :=
 ⟨F.nm,F.md,Α1 _,F.an,F.lt,F.lw,F.pl,F.nw,F.sk,h⟩
theorem kD{wt:Bool}:∀(n:Nat) {S:Pu} {N:Nat},UU wt S N->S.sl=.UL->N+n<=900000->UU wt (dX n S).1 (N+n)
 | 0,S,N,F,h,_=>by
  cases e:bL S.bD.stk with
  | none=>rw[eL e];exact(F.bD h).slp _ (.no 3e0 3e0 3e0)
  | some m=>rw[jE e];exact(F.bD h).slp _ (.no 3e0 3e0 3e0)
 | n+1,S,N,F,h,hN=>by
  cases e:bL S.bD.stk with
  | none=>rw[eL e];exact((F.bD h).slp _ (.no 3e0 3e0 3e0)).more 0e0
  | some m =>
   have F1:=(F.bD h).one e h 0e0;cases z:(one S.bD m).1.sl.isN with
   | true =>
    rw[nF e z];exact(kD n F1 (nG z) 0e0).more 0e0
   | false=>rw[jD e z];exact F1.more 0e0
theorem UU.Mv(F:UU wt S N){m:Int}(hm:0<=m/\m<=1000000000000)(hw:dU w)(hi:dU (some i))(hN:N<=800000):UU wt (S.take (.don m i w)).1 8e0:=by
 have F1:=F.at' hm;have F2:=F1.done (i:=i) hw;unfold Pu.take;split
 ·exact F.more 0e0
 show UU wt ((S.at' m).eV i w).1 8e0;unfold Pu.eV;split
 ·split
  ·unfold Pu.wake;split
   ·next e=>exact(kD 300 2e3 rfl 0e0).more 0e0
   ·next e=>exact(kD 300 2e3 rfl 0e0).more 0e0
   ·exact F2.more 0e0
  ·exact F2.more 0e0
 ·exact F2.more 0e0
theorem UU.Fk(F:UU wt S N)(h:Hap)(hm:0<=h.m/\h.m<=1000000000000)(hw:dU h.w)(hi:∀i∈S.pend,dU (some i))(hN:N<=800000):UU wt (S.take h).1 8e0:=by
 cases h with
 | Vf m w =>
  unfold Pu.take;split
  ·exact F.more 0e0
  have F1:=F.at' hm;have F2:UU wt {S with nw:=later S.nw m,ar:=w,sl:=.UL} N:=⟨F1.nm,F1.md,F1.pd,F1.an,F1.lt,F1.lw,⟨F1.pl.nm,hw,F1.pl.an⟩,F1.nw,F1.sk,oY rfl⟩;exact(kD 300 F2 rfl 0e0).more 0e0
 | don m i w =>
  by_cases hp:i∈S.pend
  ·exact F.Mv hm hw (hi i hp) hN
  ·have F1:=F.at' hm;unfold Pu.take;split
   ·exact F.more 0e0
   ·next ho =>
    have F2:=F1.done (i:=i) hw;show UU wt ((S.at' m).eV i w).1 8e0;exfalso;refine ho ?_;unfold Pu.over;cases S.sl<;>simp[hp]
 | ltr m k w =>
  have F1:=F.at' hm;unfold Pu.take;split
  ·exact F.more 0e0
  show UU wt ((S.at' m).eF k w).1 8e0;unfold Pu.eF;split
  ·split
   ·unfold Pu.wake;split
    ·next e=>exact(kD 300 3e3 rfl 0e0).more 0e0
    ·next e=>exact(kD 300 3e3 rfl 0e0).more 0e0
    ·exact F1.more 0e0
   ·exact(F1.fJ hw).more 0e0
  ·exact(F1.fJ hw).more 0e0
inductive fU(H:Hp):List V->List Hap->Prop
 | nil:fU H [] []
 | cons {v:V} {vs:List V} {h:Hap} {hs:List Hap}:lJ H v h->fU H vs hs->fU H (v::vs) (h::hs)
def qW{h:Hap}(x:lJ H v h)(k:aD H H'):lJ H' v h:=by
 obtain⟨a,e,f⟩:=x;exact⟨a,e,k _ _ f⟩
def fU.kt(h:fU H vs hs)(k:aD H H'):fU H' vs hs:=by
 induction h with
 | nil=>exact .nil
 | cons a _ ih=>exact .cons (qW a k) ih
def fU.len(h:fU H vs hs):vs.length=hs.length:=by
 induction h with
 | nil=>rfl
 | cons _ _ ih=>simp[ih]
theorem pI:∀(n:Nat) (S:Pu),(dX n S).1.sl.isN=false
 | 0,S=>by
  cases e:bL S.bD.stk with
  | none=>rw[eL e];rfl
  | some m=>rw[jE e];rfl
 | n+1,S=>by
  cases e:bL S.bD.stk with
  | none=>rw[eL e];rfl
  | some m =>
   cases z:(one S.bD m).1.sl.isN with
   | true=>rw[nF e z];exact pI n _
   | false=>rw[jD e z];exact z
def CF(h:S.sl.isN=false)(w:Wo):(S.wake w).1.sl.isN=false:=by
 unfold Pu.wake;split
 ·exact pI _ _
 ·exact pI _ _
 ·exact h
def CB(h:S.sl.isN=false)(x:Hap):(S.take x).1.sl.isN=false:=by
 unfold Pu.take;split
 ·exact h
 cases x with
 | Vf m w=>exact pI _ _
 | don m i w =>
  show((S.at' m).eV i w).1.sl.isN=false;unfold Pu.eV;split
  ·split
   ·exact CF (show((S.at' m).done i w).sl.isN=false from h) _
   ·exact h
  ·exact h
 | ltr m k w =>
  show((S.at' m).eF k w).1.sl.isN=false;unfold Pu.eF;split
  ·split
   ·exact CF (show(S.at' m).sl.isN=false from h) _
   ·exact h
  ·exact h
def takes:Pu->List Hap->Pu×List Cmds
 | S,[]=>(S,[])
 | S,h::r=>((takes (S.take h).1 r).1,(S.take h).2::(takes (S.take h).1 r).2)
theorem pB(h:Hap):∀(l:List Hap) (S:Pu),takes S (l++[h])=(((takes S l).1.take h).1,(takes S l).2++[((takes S l).1.take h).2])
 | [],S=>by simp[takes]
 | x::l,S=>by
  have:=pB h l (S.take x).1;simp only[ϐ,takes,this]
def fU.gY(h:fU H vs hs):∀{i:Nat} {v:V},vs[i]?=some v->∃x,hs[i]?=some x/\lJ H v x:=by
 induction h with
 | nil=>intro i v e;simp at e
 | cons a _ ih =>
  intro i v e;cases i with
  | zero=>simp only[Ο,Υ] at e;subst e;exact⟨_,rfl,a⟩
  | succ i=>exact ih (by simpa using e)
def fU.snoc{h:Hap}(x:fU H vs hs)(a:lJ H v h):fU H 0e2 (hs++[h]):=by
 induction x with
 | nil=>exact .cons a .nil
 | cons b _ ih=>exact .cons b ih
def bP.oth(F:bP P H A S p)(e:H op=some 6e0)(s1:op∉A.mut)(s2:op≠A.cl)(s3:op∉A.cs)(hw:∀ts:List Int,S.sl=.wait ts->us≠ts.map V.int):bP P (UK H op (.lst vs)) A S p:=by
 obtain⟨ot,M,os,c1,c2,c3,c4⟩:=F.ex;refine F.oM (M.other e (λz=>s1 (by rw[z];exact aW.2.2.1)) (λz=>s1 (by rw[z];exact aW.2.2.2.1))) os c1 c2 c3 ?_ (λb o z hb=>by rw[aC (F.Eb s1 s2 s3 hb).2.2.2.2];exact z) (aD.cR e) rfl F.ps;cases hs:S.sl with
 | wait ts =>
  rw[hs] at c4;obtain⟨h1,h2,h3,h4⟩:=c4;refine⟨h1,h2,?_,h4⟩;rw[aC (λz=>by
   rw[z,e] at h3;cases h3;exact hw ts hs rfl)]
  exact h3
 | _=>rw[hs] at c4;exact c4
def bP.kind(F:bP P H A S p){b:Addr}(hb:b∈A.mut):∃o,H b=some o/\∀c d fs,o≠.ins c d fs:=by
 obtain⟨ot,M,_⟩:=F.ex;obtain⟨kvs,em,_⟩:=M.hm;obtain⟨ds,ed,_⟩:=M.hd;obtain⟨lk,ml,el,hl,_⟩:=F.lt;simp only[Fa.mut,Κ,Α,Δ,Ψ] at hb;rcases hb with(rfl|rfl|rfl|rfl|rfl)|hb
 ·exact⟨_,em,λ_ _ _ z=>by cases z⟩
 ·exact⟨_,M.hn,λ_ _ _ z=>by cases z⟩
 ·exact⟨_,M.ho,λ_ _ _ z=>by cases z⟩
 ·exact⟨_,ed,λ_ _ _ z=>by cases z⟩
 ·exact⟨_,el,λ_ _ _ z=>by cases z⟩
 ·obtain⟨xs,e⟩:=hl.ex b hb;exact⟨_,e,λ_ _ _ z=>by cases z⟩
def bP.MN(F:bP P H A S p)(k:∀b o,H b=some o->(b∈A.mut\/b=A.cl\/b∈A.cs\/b=A.aw)->H' b=some o)(t:aD H H'):bP P H' A S p:=by
 obtain⟨ot,M,os,c1,c2,c3,c4⟩:=F.ex;refine F.oM (M.MM (λa o e h=>k a o e (.inl (by
  rcases h with rfl|rfl|rfl|rfl
  ·exact aW.1
  ·exact aW.2.1
  ·exact aW.2.2.1
  ·exact aW.2.2.2.1))) t) os c1 c2 c3 ?_ (λb o e hb=>k b o e (by
  rcases hb with hb|hb|hb|hb
  ·exact .inr (.inl hb)
  ·exact .inr (.inr (.inl hb))
  ·exact .inl (by rw[hb];exact aW.2.2.2.2)
  ·exact .inl (by simp[Fa.mut,hb]))) t rfl F.ps
 cases hs:S.sl with
 | wait ts =>
  rw[hs] at c4;obtain⟨h1,h2,h3,h4⟩:=c4;exact⟨h1,h2,k _ _ h3 7e2,h4⟩
 | _=>rw[hs] at c4;exact c4
def IZ{hv:List V}(h:fU H hv hs)(n:hs≠[])(ts:List Int):hv≠ts.map V.int:=by
 cases h with
 | nil=>exact absurd rfl n
 | cons a _ =>
  obtain⟨x,rfl,_⟩:=a;cases ts<;>simp
def hap1(h:Hap):h.vs[1]?=some (.int h.m):=by cases h<;>rfl
inductive JV(vs:List V)(H:Hp)(Q:VK)(E:XK):Prop
 | mk (bp cc:Addr) (us:List V) (b:List Stm) (ms:List Int) (_:vs=[.ref bp,.ref cc]) (_:H bp=some (.tup us)) (_:bY H us b) (_:He b) (_:oS b < 9) (_:bV b<=1000) (_:H cc=some 8e2) (_:ms.length<=63) (_:∀(rl:Addr) (hv:List V) (hs:List Hap) (H':Hp),H' rl=some (.lst hv)->fU H' hv hs->(∀h∈hs,2e1/\dU h.w)->(∀h∈hs,h.kin)->hs.length<=ms.length->Kp [] H H'->Q (.ref rl) H'):JV vs H Q E
def gJ.EN{s:Say}(h:gJ H vs ss)(a:dE H v s):gJ H 0e2 (ss++[s]):=by
 induction ss generalizing vs with
 | nil=>cases h;exact .cons a .nil
 | cons x r ih=>cases h with|cons b c=>exact .cons b (ih c)
inductive JW(vs:List V)(H:Hp)(Q:VK)(E:XK):Prop
 | mk (r:Addr) (n:Nat) (_:vs=[.ref r]) (_:bM H r n) (_:n<=20) (_:∀(v:V) (m:Stm) (H':Hp),cF H' v m->m.He->m.isB=false->Kp [r] H H'->Q v H'):JW vs H Q E
def LF(h:m.Bw=true)(g:m.gd false):m.gd true:=by
 cases m<;>first|exact g|cases h
def RZ(h:m.Bw=true):m.isB=false:=by cases m<;>first|rfl|cases h
structure Fr where
 hd:Option 7e3
 b1:List Stm
 b2:Option 9e1
variable{f:Fr}
structure FC where
 fa:Addr
 f1:Addr
 f2:Option Addr
variable{x:FC×Fr}{I:List 1e0}
def FC.cells(c:FC):List Addr:=c.fa::c.f1::c.f2.toList
def FC.cur(c:FC):Addr:=c.f2.getD c.f1
set_option backward.eqns.nonrecursive false in
def rv:Option Addr->V
 | none=>.UL
 | some a=>.ref a
def Hh(H:Hp)(v:V):Option 7e3->Prop
 | none=>v=.UL
 | some (i,s)=>∃a sv,v=.ref a/\H a=some (.tup [.str (if i=true then "if" else "while"),sv])/\dE H sv s
def B2At(H:Hp):Option Addr->Option 9e1->Prop
 | none,none=>True
 | some a,some b=>∃us,H a=some 6e0/\bY H us b
 | _,_=>False
def qP(H:Hp)(c:FC)(f:Fr):Prop:=∃hv Wf,H c.fa=some (.lst [hv,.ref c.f1,rv c.f2])/\Hh H hv f.hd/\H c.f1=some (.lst Wf)/\bY H Wf f.b1/\B2At H c.f2 f.b2
def Hh.kt(x:Hh H v h)(t:aD H H'):Hh H' v h:=by
 cases h with
 | none=>exact x
 | some p=>obtain⟨i,s⟩:=p;obtain⟨a,sv,e,e1,e2⟩:=x;exact⟨a,sv,e,t _ _ e1,e2.kp t⟩
def B2At.keep{o:Option Addr}{b:Option 9e1}(x:B2At H o b)(k:∀a∈o.toList,∀u,H a=some u->H' a=some u)(t:aD H H'):B2At H' o b:=by
 cases o with
 | none=>cases b<;>exact x
 | some a =>
  cases b with
  | none=>exact x
  | some b=>obtain⟨us,e,h⟩:=x;exact⟨us,k a 2e0 _ e,h.kp t⟩
def qP.keep{c:FC}(h:qP H c f)(k:∀a∈c.cells,∀o,H a=some o->H' a=some o)(t:aD H H'):qP H' c f:=by
 obtain⟨hv,Wf,e1,e2,e3,e4,e5⟩:=h;exact⟨hv,Wf,k _ 9e2 _ e1,e2.kt t,k _ 9e2 _ e3,e4.kp t,e5.keep (λa ha=>k a (by simp[FC.cells] at ha ⊢;exact .inr (.inr ha))) t⟩
def Fr.add(f:Fr)(m:Stm):Fr:=match f.b2 with
 | none=>{f with b1:=f.b1++[m]}
 | some b=>{f with b2:=some (b++[m])}
def bY.EN{ss:List Stm}{s:Stm}(h:bY H vs ss)(a:cF H v s):bY H 0e2 (ss++[s]):=by
 induction ss generalizing vs with
 | nil=>cases h;exact .cons a .nil
 | cons x r ih=>cases h with|cons b c=>exact .cons b (ih c)
def qP.add{c:FC}(h:qP H c f)(nd:c.cells.Nodup)(hm:cF H v m):∃us b,H c.cur=some 6e0/\bY H us b/\(b=f.b1\/f.b2=some b)/\qP (UK H c.cur 4e2) c (f.add m):=by
 obtain⟨hv,Wf,e1,e2,e3,e4,e5⟩:=h;obtain⟨fa,f1,f2⟩:=c;obtain⟨hd,b1,b2⟩:=f;cases f2 with
 | none =>
  cases b2 with
  | some b=>exact e5.elim
  | none =>
   have n1:fa≠f1:=by simp[FC.cells] at nd;exact nd
   have t:aD H (UK H f1 (.lst (Wf++[v]))):=aD.cR e3;exact⟨Wf,b1,e3,e4,.inl rfl,hv,Wf++[v],(by show UK H f1 _ fa=_;rw[aC n1];exact e1),e2.kt t,aA,(e4.kp t).EN (hm.kp t),trivial⟩
 | some a =>
  cases b2 with
  | none=>exact e5.elim
  | some b =>
   obtain⟨WB,e6,e7⟩:=e5;have n1:fa≠a/\f1≠a:=by simp[FC.cells] at nd;exact⟨nd.1.2,nd.2⟩
   have t:aD H (UK H a (.lst (WB++[v]))):=aD.cR e6;exact⟨WB,b,e6,e7,.inr rfl,hv,Wf,(by show UK H a _ fa=_;rw[aC n1.1];exact e1),e2.kt t,(by show UK H a _ f1=_;rw[aC n1.2];exact e3),e4.kp t,WB++[v],aA,(e7.kp t).EN (hm.kp t)⟩
def dW(L:List 1e0):List Addr:=L.flatMap λx=>x.1.cells
structure iL(H:Hp)(fl:Addr)(L:List 1e0):Prop where
 e:H fl=some (.lst (L.map λx=>.ref x.1.fa))
 fr:∀x∈L,qP H x.1 x.2
 nd:(fl::dW L).Nodup
def bJ(L M:List 1e0):dW (L++M)=dW L++dW M:=by simp[dW]
def bZ(x:FC×Fr):dW [x]=x.1.cells:=by simp[dW]
def l6{L:List 1e0}(h:x∈L)(ha:a∈x.1.cells):a∈dW L:=List.mem_flatMap.mpr ⟨x,h,ha⟩
def iL.keep{L:List 1e0}(F:iL H fl L)(k:∀a∈fl::dW L,∀o,H a=some o->H' a=some o)(t:aD H H'):iL H' fl L :=
 ⟨k _ 2e0 _ F.e,λx hx=>(F.fr x hx).keep (λa ha=>k a (Ρ _ (l6 hx ha))) t,F.nd⟩
def iL.kp{L:List 1e0}(F:iL H fl L)(k:Kp [] H H'):iL H' fl L:=F.keep (λ_ _ _ e=>k.at e) (aD.nil k)
def qP.lst{c:FC}(h:qP H c f):∀a∈c.cells,∃xs,H a=some (.lst xs):=by
 obtain⟨hv,Wf,e1,e2,e3,e4,e5⟩:=h;intro a ha;simp only[FC.cells,Α] at ha;rcases ha with rfl|rfl|ha
 ·exact⟨_,e1⟩
 ·exact⟨_,e3⟩
 ·cases h2:c.f2 with
  | none=>rw[h2] at ha;simp at ha
  | some b =>
   rw[h2] at ha e5;cases hb:f.b2 with
   | none=>rw[hb] at e5;exact e5.elim
   | some b'=>rw[hb] at e5;obtain⟨us,e,_⟩:=e5;rw[show a=b by simpa using ha];exact⟨_,e⟩
def iL.free{p:Addr}{L:List 1e0}(F:iL H fl L)(h:H p=none):p∉fl::dW L:=λz=>by
 rcases Α.mp z with rfl|z
 ·rw[F.e] at h;cases h
 ·obtain⟨x,hx,hp⟩:=List.mem_flatMap.mp z;obtain⟨xs,e⟩:=(F.fr x hx).lst p hp;rw[h] at e;cases e
def iL.app(F:iL H fl 5e0)(hm:cF H v m):∃us b,H x.1.cur=some 6e0/\bY H us b/\(b=x.2.b1\/x.2.b2=some b)/\x.1.cur∈x.1.cells/\iL 5e2 fl (I++[(x.1,x.2.add m)]):=by
 have nd:=F.nd;rw[bJ,bZ,ϗ,ϙ] at nd;obtain⟨us,b,e1,e2,e3,e4⟩:=(F.fr x 2e0).add nd.2.2.1 hm;have hc:x.1.cur∈x.1.cells:=by
  cases h:x.1.f2<;>simp[FC.cur,FC.cells,h]
 have t:aD H 5e2:=aD.cR e1;refine⟨us,b,e1,e2,e3,hc,⟨?_,λy hy=>?_,?_⟩⟩
 ·rw[aC (λz=>nd.1 (by rw[z];simp[hc]))];rw[F.e];simp
 ·rcases Κ.mp hy with hy|hy
  ·refine(F.fr y 6e1).keep (λa ha o e=>?_) t;rw[aC (λz=>nd.2.2.2 a (l6 hy ha) _ hc z)];exact e
  ·rw[show y=(x.1,x.2.add m) by simpa using hy];exact e4
 ·rw[bJ,bZ];exact ϗ.mpr ⟨nd.1,ϙ.mpr nd.2⟩
def iL.pop(F:iL H fl 5e0):iL 9e0 fl I/\qP 9e0 x.1 x.2:=by
 have nd:=F.nd;rw[bJ,bZ,ϗ,ϙ] at nd;have t:aD H 9e0:=aD.cR F.e;have k:∀y∈I++[x],qP 9e0 y.1 y.2:=λy hy=>(F.fr y hy).keep (λa ha o e=>by
  rw[aC (λz=>nd.1 (by
   rw[<- z];have:=l6 hy ha;rw[bJ,bZ] at this;exact this))]
  exact e) t
 exact⟨⟨aA,λy hy=>k y 6e1,ϗ.mpr ⟨λz=>nd.1 4e0,nd.2.1⟩⟩,k x 2e0⟩
def iL.push{fa f1:Addr}{L:List 1e0}{hv:V}(F:iL H fl L)(e1:H fa=some (.lst [hv,.ref f1,.UL]))(e2:H f1=some (.lst []))(hh:Hh H hv h)(n1:fa∉fl::dW L)(n2:f1∉fl::dW L)(n3:fa≠f1):iL 1e2 fl (L++[((⟨fa,f1,none⟩:FC),(⟨h,[],none⟩:Fr))]):=by
 have nd:=F.nd;rw[ϗ] at nd;rw[Α,not_or] at n1 n2;have t:aD H 1e2:=aD.cR F.e;refine⟨aA,λy hy=>?_,?_⟩
 ·rcases Κ.mp hy with hy|hy
  ·exact(F.fr y hy).keep (λa ha o e=>by rw[aC (λz=>nd.1 (by rw[<- z];exact l6 hy ha))];exact e) t
  ·rw[show y=((⟨fa,f1,none⟩:FC),(⟨h,[],none⟩:Fr)) by simpa using hy];exact⟨hv,[],by rw[aC n1.1];exact e1,hh.kt t,by rw[aC n2.1];exact e2,.nil,trivial⟩
 ·rw[bJ,bZ,ϗ];refine⟨λz=>?_,ϙ.mpr ⟨nd.2,by simp[FC.cells,n3],λa ha b hb z=>?_⟩⟩
  ·rcases Κ.mp z with z|z
   ·exact nd.1 z
   ·simp only[FC.cells,Option.toList_none,Α,Δ,Ψ] at z;rcases z with z|z
    ·exact n1.1 z.symm
    ·exact n2.1 z.symm
  ·simp only[FC.cells,Option.toList_none,Α,Δ,Ψ] at hb;rcases hb with rfl|rfl
   ·exact n1.2 (z▸ha)
   ·exact n2.2 (z▸ha)
def iL.snd{hv:V}(F:iL H fl 5e0)(f0:x.1.f2=none)(e1:H x.1.fa=some (.lst [hv,.ref x.1.f1,.UL]))(e2:H a=some (.lst []))(n:a∉fl::dW 5e0):iL 2e2 fl (I++[(⟨x.1.fa,x.1.f1,some a⟩,⟨x.2.hd,x.2.b1,some []⟩)]):=by
 have nd:=F.nd;rw[bJ,bZ,ϗ,ϙ] at nd;rw[bJ,bZ,Α,Κ,not_or,not_or] at n;have hc:x.1.cells=[x.1.fa,x.1.f1]:=by simp[FC.cells,f0]
 rw[hc] at nd n;have t:aD H 2e2:=aD.cR e1;obtain⟨Yv,Wf,g1,g2,g3,g4,g5⟩:=F.fr x 2e0;rw[e1] at g1;have ehv:Yv=hv:=by
  have g:=ϓ g1;simp only[HO.lst.injEq,List.cons.injEq] at g;exact g.1.symm
 subst ehv;have n12:x.1.fa≠x.1.f1:=by simpa using nd.2.2.1
 refine⟨?_,λy hy=>?_,?_⟩
 ·rw[aC (λz=>nd.1 (by rw[z];simp))];rw[F.e];simp
 ·rcases Κ.mp hy with hy|hy
  ·exact(F.fr y 6e1).keep (λb hb o e=>by rw[aC (λz=>nd.2.2.2 b (l6 hy hb) x.1.fa 2e0 z)];exact e) t
  ·rw[show y=(⟨x.1.fa,x.1.f1,some a⟩,⟨x.2.hd,x.2.b1,some []⟩) by simpa using hy];exact⟨Yv,Wf,aA,g2.kt t,by rw[aC n12.symm];exact g3,g4.kp t,[],by rw[aC (λz=>n.2.2 4e0)];exact e2,.nil⟩
 ·rw[bJ,bZ,ϗ];refine⟨λz=>?_,ϙ.mpr ⟨nd.2.1,?_,λb hb c Xu z=>?_⟩⟩
  ·rcases Κ.mp z with z|z
   ·exact nd.1 4e0
   ·simp only[FC.cells,Α5,Α,Δ,Ψ] at z;rcases z with z|z|z
    ·exact nd.1 4e0
    ·exact nd.1 4e0
    ·exact n.1 z.symm
  ·have h1:¬ a=x.1.fa:=λz=>n.2.2 4e0;have h2:¬ a=x.1.f1:=λz=>n.2.2 4e0;simp[FC.cells,n12];exact⟨λz=>h1 z.symm,λz=>h2 z.symm⟩
  ·simp only[FC.cells,Α5,Α,Δ,Ψ] at Xu;rcases Xu with rfl|rfl|rfl
   ·exact nd.2.2.2 b hb _ 2e0 z
   ·exact nd.2.2.2 b hb _ 2e0 z
   ·exact n.2.1 (z▸hb)
def P2{o:Option Addr}(h:rv o=.UL):o=none:=by
 cases o with
 | none=>rfl
 | some a=>cases h
theorem CV{c:FC}{u:V}:gY [u,.ref c.f1,rv c.f2] (1+if (!decide (rv c.f2=V.UL))=true then 1 else 0)=some (.ref c.cur):=by
 obtain⟨fa,f1,f2⟩:=c;cases f2<;>rfl
def qP.cu{c:FC}(h:qP H c f):∃us,H c.cur=some 6e0:=h.lst _ (by cases e:c.f2<;>simp[FC.cur,FC.cells,e])
def Ep(I:List 1e0)(x:FC×Fr):gY 3e2 (-1)=some 6e3:=by
 rw[Α4];exact j8 _ _
def LK(I:List 1e0)(x:FC×Fr):3e2[((I++[x]).map λx=>V.ref x.1.fa).length - 1]?=some 6e3:=by simp
def FV(I:List 1e0)(x:FC×Fr):((I++[x]).map λx=>V.ref x.1.fa).dropLast=I.map λx=>V.ref x.1.fa:=by simp
def fF(f:Fr)(i:Bool)(s:Say):Stm:=if i=true then .iff s f.b1 7e0 else .U4 s f.b1
inductive JL(vs:List V)(H:Hp)(Q:VK)(E:XK):Prop
 | mk (fl:Addr) (I:List 1e0) (x y:FC×Fr) (i:Bool) (s:Say) (_:vs=[.ref fl]) (_:iL H fl 7e1) (_:y.2.hd=some (i,s)) (_:(∀z∈I++[x]++[y],z.2.b1.length<=1000/\(z.2.b2.getD []).length<=1000)) (_:∀H',iL H' fl 1e1->Kp (fl::x.1.cells) H H'->Q .UL H'):JL vs H Q E
def Gf(j:Nat)(f:Fr):Prop:=He f.b1/\He 7e0/\oS f.b1+j<=5/\oS 7e0+j<=5/\(j≠0->∃i s,f.hd=some (i,s)/\s.sok)
def AW(L:List 1e0):Nat:=(L.map λx=>bV x.2.b1+bV 4e1+2).sum
def GL(L:List 1e0):Prop:=∀j x,L[j]?=some x->Gf j x.2
def lF(L M:List 1e0):AW (L++M)=AW L+AW M:=by simp[AW]
def lG(x:FC×Fr):AW [x]=bV x.2.b1+bV 4e1+2:=by simp[AW]
def GL.top(h:GL 5e0):Gf I.length x.2:=h I.length x 2e0
def GL.init(h:GL 5e0):GL I:=λj y e=>h j y (by rw[Ζ4 (Ν.mp e).1];exact e)
theorem GL.snoc(h:GL I)(g:Gf I.length x.2):GL 5e0:=λj y e=>by
 by_cases hj:j < I.length
 ·rw[Ζ4 hj] at e;exact h j y e
 ·have:j=I.length:=by
   have:=(Ν.mp e).1;simp at this;omega
  subst this;simp at e;subst e;exact g
theorem Ff:∀(a b:List Stm),bV (a++b)=bV a+bV b
 | [],b=>by simp[bV]
 | x::a,b=>by simp only[ϐ,bV,Ff a b];omega
theorem uJ:∀(a:List Stm) (m:Stm),oS (a++[m])=max (oS a) m.dp
 | [],m=>by simp[oS]
 | x::a,m=>by simp only[ϐ,oS,uJ a m];omega
theorem uV:∀{a:List Stm} {m:Stm},He a->m.He->He (a++[m])
 | [],m,_,h=>⟨⟨h.1,trivial⟩,h.2,trivial⟩
 | x::a,m,g,h=>by
  obtain⟨g1,g2⟩:=uV (a:=a) (m:=m) ⟨g.1.2,g.2.2⟩ h;exact⟨⟨g.1.1,g1⟩,g.2.1,g2⟩
theorem Hk(f:Fr)(m:Stm):bV (f.add m).b1+bV ((f.add m).b2.getD [])=bV f.b1+bV 7e0+m.sz:=by
 unfold Fr.add;cases h:f.b2<;>simp[h,Ff,bV]<;>omega
theorem Gf.add{j:Nat}(g:Gf j f)(gm:m.He)(dm:m.dp+j<=5):Gf j (f.add m):=by
 obtain⟨g1,g2,g3,g4,g5⟩:=g;unfold Fr.add;cases h:f.b2 with
 | none =>
  rw[h] at g2 g4;exact⟨uV g1 gm,g2,by show oS (f.b1++[m])+j<=5;rw[uJ];omega,g4,g5⟩
 | some b =>
  rw[h] at g2 g4;exact⟨g1,uV (show He b from g2) gm,g3,by show oS (b++[m])+j<=5;rw[uJ];have:oS b+j<=5:=g4;omega,g5⟩
theorem HD{j:Nat}{i:Bool}{s:Say}(g:Gf (j+1) f)(hs:s.sok):(fF f i s).He/\(fF f i s).dp+j<=5/\(fF f i s).sz<=bV f.b1+bV 7e0+2:=by
 obtain⟨g1,g2,g3,g4,g5⟩:=g;cases i with
 | true=>exact⟨⟨⟨hs,g1.1,g2.1⟩,g1.2,g2.2⟩,by simp only[fF,Γ1,Stm.dp];omega,by simp only[fF,Γ1,Stm.sz];omega⟩
 | false=>exact⟨⟨⟨hs,g1.1⟩,g1.2⟩,by simp only[fF,Ϙ,Β4,Stm.dp];omega,by simp only[fF,Ϙ,Β4,Stm.sz];omega⟩
theorem DC{L:List 1e0}(h:x∈L):bV x.2.b1+bV 4e1+2<=AW L:=by
 induction L with
 | nil=>simp at h
 | cons y r ih =>
  rcases Α.mp h with rfl|h
  ·simp[AW]
  ·have:=ih h;simp only[AW,ϑ,List.sum_cons] at this ⊢;omega
theorem DU{y:FC×Fr}{i:Bool}{s:Say}(g:GL 7e1)(h:y.2.hd=some (i,s))(hs:s.sok):GL 1e1/\AW 1e1<=AW 7e1:=by
 have gy:=g.top;rw[Ξ,List.length_singleton] at gy;obtain⟨c1,c2,c3⟩:=HD (i:=i) gy hs;refine⟨g.init.init.snoc (g.init.top.add c1 c2),?_⟩;rw[lF,lF,lF,lG,lG,lG];have:=Hk x.2 3e1;show AW I+(bV (x.2.add 3e1).b1+bV ((x.2.add 3e1).b2.getD [])+2)<=_;omega
inductive JU(vs:List V)(H:Hp)(Q:VK)(E:XK):Prop
 | mk (cl:Addr) (ms:List Int) (_:vs=[.ref cl]) (_:H cl=some 8e2) (_:ms.length<=63) (_:∀(p:Addr) (us:List V) (b:List Stm) (H':Hp),H' p=some (.tup us)->bY H' us b->He b->oS b<=5->bV b<=2 * ms.length->Kp [] H H'->Q (.ref p) H'):JU vs H Q E
def oK.kt(h:oK H v S)(k:aD H H'):oK H' v S:=by
 unfold oK at *;split at h
 ·next hg =>
  rw[if_pos hg];obtain⟨p,pl,pn,po,pa,pt,sl,un,ua,ut,e,a1,a2,a3,a4,a5,a6,a7,a8,a9,XY⟩:=h;exact⟨p,pl,pn,po,pa,pt,sl,un,ua,ut,e,k _ _ a1,a2.kt k,k _ _ a3,k _ _ a4,a5.kt k,k _ _ a6,k _ _ a7,a8.kt k,k _ _ a9,XY.kt k⟩
 ·next hg =>
  rw[if_neg hg];exact h.kt k
def D7{K:q0B}{b:Addr}(ha:H a=some (.tup xs))(hb:H b=some (.tup ys))(hl:xs.length=ys.length)(h:∀(j:Nat) x y,xs[j]?=some x->ys[j]?=some y->xU K H n x y true):xU K H (n+1) (.ref a) (.ref b) true:=by
 by_cases Zu:a=b
 ·subst Zu;exact .same
 ·refine .refs Zu ?_;have:=qO.tup (K:=K) (H:=H) (n:=n) (e:=λ_=>true) (iR.of ha) (iR.of hb) h
  rwa [show((List.range (min xs.length ys.length)).all 5e3&&xs.length==ys.length)=true by simp[hl]] at this
def AJ{K:q0B}{b:Addr}(ha:H a=some (.lst xs))(hb:H b=some (.lst ys))(hl:xs.length=ys.length)(h:∀(j:Nat) x y,xs[j]?=some x->ys[j]?=some y->xU K H n x y true):qO K H (n+1) a b true:=by
 have:=qO.list (K:=K) (H:=H) (n:=n) (e:=λ_=>true) (fV.of ha) (fV.of hb) hl h
 rwa [show(List.range xs.length).all 5e3=true by simp] at this
def Bm{K:q0B}{x:V}(h:eK x=true)(e:yR x x=true):xU K H n x x true:=by
 have:=xU.flat (K:=K) (H:=H) (n:=n) h h
 rwa [e] at this
def sE(cs:Cmds):Prop:=∀c∈cs,∀v∈c,eK v=true/\yR v v=true
def NK{K:q0B}(h:iC H us cs)(g:iC H vs cs)(f:sE cs):∀(j:Nat) x y,us[j]?=some x->vs[j]?=some y->xU K H (n+1) x y true:=λj x y e1 e2=>by
 obtain⟨a,c,rfl,e3,ha⟩:=h.at e1;obtain⟨b,c',rfl,e4,hb⟩:=g.at e2;rw[e3] at e4;cases e4;refine D7 ha hb rfl λi v w e5 e6=>?_;rw[e5] at e6;cases e6;have:=f c (ϒ e3) v (ϒ e5);exact Bm this.1 this.2
def Gk(v:V):Prop:=eK v=true/\yR v v=true
def cI(x:Str):Gk (.str x):=⟨rfl,by simp[g8]⟩
def iJ(i:Int):Gk (.int i):=⟨rfl,by simp[iI]⟩
def iF(w:Wo):Gk (wv w):=by
 cases w with
 | none=>exact⟨rfl,rfl⟩
 | some i=>exact iJ i
structure jP(K:q0B)(H:Hp)(n:Nat)(xs ys:List V):Prop where
 len:xs.length=ys.length
 at':∀(j:Nat) x y,xs[j]?=some x->ys[j]?=some y->xU K H n x y true
end
section
mutual
example:=[.cons (cI _).eq .nil]
variable{K:q0B}{b:Addr}{x:V}
def jP.nil:jP K H n [] []:=⟨rfl,λj x y e=>by simp at e⟩
def jP.cons(h:xU K H n x y true)(t:jP K H n xs ys):jP K H n (x::xs) (y::ys):=⟨by simp[t.len],λj u v e1 e2=>by
 cases j with
 | zero =>
  simp only[Ο,Υ] at e1 e2;subst e1 e2;exact h
 | succ j=>exact t.at' j u v (by simpa using e1) (by simpa using e2)⟩
def Gk.eq(h:Gk x):xU K H n x x true:=Bm h.1 h.2
def jP.refl(h:∀v∈xs,Gk v):jP K H n xs xs:=⟨rfl,λj u v e1 e2=>by
 rw[e1] at e2;cases e2;exact(h u (ϒ e1)).eq⟩
def jP.tup(h:jP K H n xs ys)(ha:H a=some (.tup xs))(hb:H b=some (.tup ys)):xU K H (n+1) (.ref a) (.ref b) true:=D7 ha hb h.len h.at'
def jP.rcL(h:jP K H n xs ys)(ha:H a=some (.lst xs))(hb:H b=some (.lst ys)):qO K H (n+1) a b true:=AJ ha hb h.len h.at'
def jP.rcT(h:jP K H n xs ys)(ha:H a=some (.tup xs))(hb:H b=some (.tup ys)):qO K H (n+1) a b true:=by
 have:=qO.tup (K:=K) (H:=H) (n:=n) (e:=λ_=>true) (iR.of ha) (iR.of hb) h.at'
 rwa [show((List.range (min xs.length ys.length)).all (λ_=>true)&&xs.length==ys.length)=true by simp[h.len]] at this
def HI(h:iC H us cs)(g:iC H vs cs)(f:sE cs):jP K H (n+1) us vs:=⟨by rw[h.len,g.len],NK h g f⟩
def EH{ps:List (V×V)}(h:fI H us ps)(g:fI H vs ps)(f:∀p∈ps,Gk p.1/\Gk p.2):jP K H (n+1) us vs:=by
 induction h generalizing vs with
 | nil=>cases g;exact .nil
 | @cons a x y us ps e _ ih =>
  cases g with
  | cons e2 g =>
   have:=f (x,y) (by simp);exact .cons (jP.tup (.cons this.1.eq (.cons this.2.eq .nil)) e e2) (ih g λp hp=>f p (Ρ _ hp))
def LQ(h:iM H us ps)(g:iM H vs ps):jP K H (n+2) us vs:=by
 induction h generalizing vs with
 | nil=>cases g;exact .nil
 | @cons a b k ws us ps e e' _ ih =>
  cases g with
  | cons e2 WI g =>
   refine .cons (jP.tup (.cons (cI k).eq (.cons (jP.tup (jP.refl λv hv=>?_) e' WI) .nil)) e e2) (ih g);obtain⟨w,_,rfl⟩:=Ϛ.mp hv;exact iF w
def mF(ts:List Int):∀v∈ts.map V.int,Gk v:=λv hv=>by
 obtain⟨i,_,rfl⟩:=Ϛ.mp hv;exact iJ i
def P9(h:iO H x s)(g:iO H y s):xU K H (n+2) x y true:=by
 cases s with
 | UL =>
  rw[show x=.UL from h,show y=.UL from g];exact(show Gk .UL from ⟨rfl,rfl⟩).eq
 | new =>
  obtain⟨p,rfl,e⟩:=h;obtain⟨p2,rfl,e2⟩:=g;exact jP.tup 0e0 e e2
 | wait ts =>
  obtain⟨p,p2,rfl,e,f⟩:=h;obtain⟨q,q2,rfl,e2,f2⟩:=g;exact jP.tup (.cons (cI _).eq (.cons (jP.tup (jP.refl (mF ts)) f f2) .nil)) e e2
 | UP k =>
  obtain⟨p,rfl,e⟩:=h;obtain⟨p2,rfl,e2⟩:=g;exact jP.tup (.cons (cI _).eq 0e0) e e2
 | ended w =>
  obtain⟨p,rfl,e⟩:=h;obtain⟨p2,rfl,e2⟩:=g;exact jP.tup (.cons (cI _).eq (.cons (iF _).eq .nil)) e e2
 | worn =>
  obtain⟨p,rfl,e⟩:=h;obtain⟨p2,rfl,e2⟩:=g;exact jP.tup 0e0 e e2
theorem vP(nm:List (Str×Wo)):∀(l:List Str),∀p∈eP nm l,Gk p.1/\Gk p.2
 | [],p,h=>by simp[eP] at h
 | k::l,p,h=>by
  simp only[eP] at h;split at h
  ·exact vP nm l p h
  ·rcases Α.mp h with rfl|h
   ·exact⟨cI _,iF _⟩
   ·exact vP nm l p h
end
end
mutual
example:=[(by simp only[Β0];exact⟨cI _,iF _,by simp⟩),(by simp only[Β0];exact⟨cI _,iJ _,cI _,iF _,by simp⟩)]
def fD:sE []:=λ_ h=>by cases h
def FH{a b:Cmds}(h:sE a)(g:sE b):sE (a++b):=λc hc=>by
 rcases Κ.mp hc with hc|hc
 ·exact h c hc
 ·exact g c hc
def fS{c:List V}(h:∀v∈c,Gk v):sE [c]:=λx hx=>by
 rw[show x=c by simpa using hx];exact h
def MQ(m:Nat)(cs:Cmds):Prop:=sE cs/\cs.length<=m
def HL(S:Pu)(m:Stm):MQ 1 (bT S m).2:=by
 refine⟨?_,Bj S m⟩;cases m with
 | set x s=>exact fD
 | order x y s=>exact fS 1e0
 | child x y s=>exact fS 1e0
 | UX x s=>exact fS (by simp only[Β0];exact⟨cI _,iJ _,iJ _,by simp⟩)
 | send s k r=>exact fS (by simp only[Β0];exact⟨cI _,iF _,cI _,iF _,by simp⟩)
 | drop s =>
  simp only[Internal.bT];split
  ·split
   ·exact fS (by simp only[Β0];exact⟨cI _,iJ _,by simp⟩)
   ·exact fD
  ·exact fD
 | UP x k =>
  simp only[Internal.bT];split<;>exact fD
 | wait x ss =>
  simp only[Internal.bT];split<;>exact fD
 | fin s=>exact fS 0e0
 | U4 s b=>exact fD
 | iff s b o=>exact fD
def LW(S:Pu)(m:Stm):MQ 1 (one S m).2:=by
 unfold one;split
 ·exact⟨fD,by simp⟩
 ·exact HL S m
theorem pJ:∀(n:Nat) (S:Pu),MQ (n+1) (dX n S).2
 | 0,S=>by
  cases e:bL S.bD.stk with
  | none=>rw[eL e];exact⟨fS 0e0,by simp[Pu.ends]⟩
  | some m=>rw[jE e];exact⟨fS (by simp only[Β0];exact⟨cI _,by simp⟩),by simp[Pu.oJ]⟩
 | n+1,S=>by
  cases e:bL S.bD.stk with
  | none=>rw[eL e];exact⟨fS 0e0,by simp[Pu.ends]⟩
  | some m =>
   have h1:=LW S.bD m;cases z:(one S.bD m).1.sl.isN with
   | true =>
    rw[nF e z];have h2:=pJ n (one S.bD m).1;exact⟨FH h1.1 h2.1,by simp only[Ξ];have:=h1.2;have:=h2.2;omega⟩
   | false=>rw[jD e z];exact⟨h1.1,by have:=h1.2;omega⟩
def CG(S:Pu)(w:Wo):MQ 301 (S.wake w).2:=by
 unfold Pu.wake;split
 ·exact pJ 300 _
 ·exact pJ 300 _
 ·exact⟨fD,by simp⟩
def CC(S:Pu)(x:Hap):MQ 301 (S.take x).2:=by
 have nl:MQ 301 []:=⟨fD,by simp⟩;unfold Pu.take;split
 ·exact nl
 cases x with
 | Vf m w=>exact pJ 300 _
 | don m i w =>
  show MQ 301 ((S.at' m).eV i w).2;unfold Pu.eV;split
  ·split
   ·exact CG _ _
   ·exact nl
  ·exact nl
 | ltr m k w =>
  show MQ 301 ((S.at' m).eF k w).2;unfold Pu.eF;split
  ·split
   ·exact CG _ _
   ·exact nl
  ·exact nl
def Fw.RF{R:Rn}{Vc:List Addr}{G0:Hp}(F:Fw R as Vc G H')(k:Kp [] G0 G)(h:∀a,a∈R.cells\/a∈as->G0 a=none):Kp [] G0 H':=λb o e _=>F.kp b o (k.at e) (λz=>by rw[h b (.inl z)] at e;cases e) (λz=>by rw[h b (.inr z)] at e;cases e)
def Ek(h:∀y∈ys,y∈ns.map V.int):∃ms:List Int,ys=ms.map V.int/\ms.length=ys.length:=by
 induction ys with
 | nil=>exact⟨[],rfl,rfl⟩
 | cons y r ih =>
  obtain⟨ms,e,l⟩:=ih λz hz=>h z (by simp[hz]);obtain⟨n,_,rfl⟩:=Ϛ.mp (h y (by simp));exact⟨n::ms,by rw[e];rfl,by simp[l]⟩
structure In13(C:Cl)(b:List Stm)(md:Addr)(G0 G:Hp)(R:Rn)(as:List Addr)(sl:V)(A:Fa)(p:Nat)(S T:Pu):Prop where
 ra:bA C G R as sl S
 fl:bP b G A T p
 md:A.md=md
 sep:∀x,x∈R.cells\/x∈as->x∉A.mut/\x≠A.cl/\x∉A.cs/\x≠A.aw
 aw:∃o,G A.aw=some o
 kb:Kp [] G0 G
 nb:∀x,x∈R.cells\/x∈as\/x∈A.mut->G0 x=none
end
section
mutual
example:=[.inr w,(by simp),.inl hx,.inr (.inr (.inr rfl))]
variable{C:Cl}{md:Addr}{G0 G':Hp}{R:Rn}{U8:List Addr}{sl U5:V}{A':Fa}{p':Nat}{S' T T':Pu}
def In13.kp(J:In13 C b md G0 G R as sl A p S T)(k:Kp [] G G'):In13 C b md G0 G' R as sl A p S T :=
 ⟨J.ra.kp k,J.fl.kp k,J.md,J.sep,let ⟨o,e⟩:=J.aw;⟨o,k.at e⟩,J.kb.trans k,J.nb⟩
def In13.free(J:In13 C b md G0 G R as sl A p S T){x:Addr}(h:G x=none):G0 x=none:=by
 cases e:G0 x with
 | none=>rfl
 | some o=>rw[J.kb.at e] at h;cases h
def In13.run(J:In13 C b md G0 G R as sl A p S T)(W:Fw R as U8 G G')(RA:bA C G' R U8 U5 S'):In13 C b md G0 G' R U8 U5 A p S' T/\aD G G':=by
 have T5:=J.ra.tkp W;have hnc:∀z,(z∈A.mut\/z=A.cl\/z∈A.cs\/z=A.aw)->z∉R.cells/\z∉as:=λz hz=>by
  have no:¬ (z∈R.cells\/z∈as):=λw=>by
   obtain⟨s1,s2,s3,s4⟩:=J.sep z w;rcases hz with hz|hz|hz|hz
   ·exact s1 hz
   ·exact s2 hz
   ·exact s3 hz
   ·exact s4 hz
  exact⟨λw=>no (.inl w),λw=>no 0e0⟩
 obtain⟨o,VX⟩:=J.aw;refine⟨⟨RA,J.fl.MN (λz o e hz=>W.kp z o e (hnc z hz).1 (hnc z hz).2) T5,J.md,λz hz=>?_,⟨o,W.kp _ _ VX (hnc _ 3e0).1 (hnc _ 3e0).2⟩,W.RF J.kb (λa h=>J.nb a (h.elim .inl (λz=>.inr (.inl z)))),λx hx=>?_⟩,T5⟩
 ·rcases hz with hz|hz
  ·exact J.sep z (.inl hz)
  ·rcases W.new z hz with w|w
   ·exact J.sep z 0e0
   ·obtain⟨g1,g2,g3⟩:=J.fl.new w;exact⟨g3,g1.1,g1.2,λy=>by rw[y,VX] at w;cases w⟩
 ·rcases hx with hx|hx|hx
  ·exact J.nb x 2e0
  ·rcases W.new x hx with w|w
   ·exact J.nb x (.inr (.inl w))
   ·exact J.free w
  ·exact J.nb x (.inr (.inr hx))
def In13.mod(J:In13 C b md G0 G R as sl A p S T)(W:Fm [] A {A' with nk:=A.nk} G G')(F:bP b G' A' T' p'):In13 C b md G0 G' R as sl A' p' S T'/\aD G G':=by
 obtain⟨ot,M,_⟩:=J.fl.ex;have T6:aD G G':=J.fl.tkp (W.mono (E:=[A.od]) 1e0) M.ho;obtain⟨o,VX⟩:=J.aw;have RA6:=J.ra.keep (λz o e hz=>W.kp z o e (by
  rcases hz with rfl|hz|hz
  ·intro w;obtain⟨o',e',hk'⟩:=J.fl.kind w;have:=J.ra.wk.ins;rw[this] at e';cases e';exact hk' _ _ _ rfl
  ·exact(J.sep z (.inl hz)).1
  ·exact(J.sep z (.inr hz)).1) 1e0) T6
 refine⟨⟨RA6,F,(show A'.md=A.md from W.m1.1).trans J.md,λz hz=>?_,?_,λx u e _=>W.kp x u (J.kb.at e) (λw=>by rw[J.nb x (.inr 0e0)] at e;cases e) 1e0,λx hx=>?_⟩,T6⟩
 ·have old:=J.sep z hz;obtain⟨o,ez,_⟩:=J.ra.cellK hz;refine⟨λw=>?_,by rw[show A'.cl=A.cl from W.m1.2.1];exact old.2.1,by rw[show A'.cs=A.cs from W.m1.2.2];exact old.2.2.1,λw=>?_⟩
  ·rcases W.nw z w with w|w
   ·exact old.1 w
   ·rw[w] at ez;cases ez
  ·rcases W.na with u|⟨u,_⟩
   ·exact old.2.2.2 (w.trans u)
   ·rw[<- show z=({A' with nk:=A.nk}:Fa).aw from w,ez] at u;cases u
 ·rcases W.na with u|⟨_,u⟩
  ·rw[show A'.aw=A.aw from u];exact W.st _ _ VX
  ·exact u
 ·rcases hx with hx|hx|hx
  ·exact J.nb x 2e0
  ·exact J.nb x (.inr 2e0)
  ·rcases W.nw x hx with w|w
   ·exact J.nb x (.inr 0e0)
   ·exact J.free w
end
end
mutual
example:=[.ltr m k w,.don m i w]
structure Pu13(b:List Stm)(hs:List Hap)(S:Pu)(i:Nat):Prop where
 ft:UU true S (302 * i)
 hn:S.sl.isN=false
 sd:Std S
 nm:fA L20 S
 lt:gI L20 S
theorem Pu13.U2{i:Nat}(P:Pu13 b hs S i)(hi:i<=63)(hb:bV b<=62)(hl:hs.length<=63):S.pend.length<=1000000/\S.nm.length < 64/\S.lt.length < 64/\S.ans.length<=1000000/\∀k ws,aS S.lt k=some ws->ws.length<=1000000:=by
 have a1:=P.ft.pd;have a2:=P.ft.an;have a3:_<=4:=P.nm.len;have a5:_<=4:=P.lt.len;exact⟨by omega,by omega,by omega,by omega,λk ws h=>by have:=(P.ft.lw k ws h).1;omega⟩
theorem Pu13.take{i:Nat}(P:Pu13 b hs S i){x:Hap}(hx:x.kin)(hf:(0<=x.m/\x.m<=1000000000000)/\dU x.w)(hi:i<=63)(hp:∀j∈S.pend,0<=j/\j < (S.made:Int)):Pu13 b hs (S.take x).1 (i+1) :=
 ⟨by
  rw[show 302 * (i+1)=302 * i+302 by omega];exact P.ft.Fk x hf.1 hf.2 (λj hj=>fL (by have:=(hp j hj).1;omega) (by have:=(hp j hj).2;have:=P.ft.md;omega)) (by omega),CB P.hn x,Cu P.sd P.hn x,P.nm.take x,P.lt.take x hx⟩
inductive EW(vs:List V)(H:Hp)(Q:VK)(E:XK):Prop
 | mk (P:List Stm) (A:Fa) (S:Pu) (p r n N:Nat) (_:vs=[.ref r,.ref A.md]) (_:bP P H A S p) (_:UU true S N) (_:N<=90000) (_:S.sl.isN=false) (_:bM H r n) (_:n<=500) (_:r∉A.mut) (_:∀(v:V) (h:Hap) (n':Nat) (H':Hp),lJ H' v h->((0<=h.m/\h.m<=1000000000000)/\dU h.w)->S.over h=true->bM H' r n'->n'<=n+40->Kp [r] H H'->Q v H'):EW vs H Q E
def Jl{m:Int}(n:S.sl.isN=false)(h:i∉S.pend):S.over 1e0=true:=by
 unfold Pu.over;cases e:S.sl<;>simp[h]
def BW{m:Int}(n:S.sl≠.new):S.over (.Vf m w)=true:=by
 unfold Pu.over;cases e:S.sl<;>first|rfl|exact absurd e n
def vL(s:Slp):u7 (.str s.md) [.str "wait",.str "hear"]=s.uZ:=by
 cases s<;>kernel_rfl
def Ds{m:Int}(n:S.sl.isN=false)(h:S.sl.uZ=false):S.over 0e0=true:=by
 unfold Pu.over;cases e:S.sl with
 | wait ts=>rw[e] at h;cases h
 | UP j=>rw[e] at h;cases h
 | UL=>rw[e] at n;cases n
 | new=>rfl
 | ended w'=>rfl
 | worn=>rfl
def Hap.setM:Hap->Int->Hap
 | .Vf _ w,m=>.Vf m w
 | .don _ i w,m=>.don m i w
 | .ltr _ k w,m=>.ltr m k w
theorem Aa{m:Int}(h:m<=S.nw):S.at' m=S:=by
 unfold Pu.at';rw[show later S.nw m=S.nw by unfold later;split<;>omega]
def Kf(g:S.sl.uZ=true){x:Hap}{m:Int}(h1:x.m<=S.nw)(h2:m<=S.nw):S.take (x.setM m)=S.take x:=by
 cases x with
 | Vf m1 w =>
  have o:∀m' w',S.over (.Vf m' w')=true:=λm' w'=>BW (λz=>by rw[z] at g;cases g);unfold Pu.take;rw[if_pos (o _ _),if_pos (show S.over ((Hap.Vf m1 w).setM m)=true from o _ _)]
 | don m1 i w =>
  have e1:=Aa (S:=S) (m:=m1) h1;have e2:=Aa (S:=S) h2;unfold Pu.take;show(if S.over 1e0=true then (S,[]) else (S.at' m).eV i w)=if S.over (.don m1 i w)=true then (S,[]) else (S.at' m1).eV i w;rw[e1,e2];rfl
 | ltr m1 k w =>
  have e1:=Aa (S:=S) (m:=m1) h1;have e2:=Aa (S:=S) h2;unfold Pu.take;show(if S.over 0e0=true then (S,[]) else (S.at' m).eF k w)=if S.over (.ltr m1 k w)=true then (S,[]) else (S.at' m1).eF k w;rw[e1,e2];rfl
def Nn:Wo->PyData
 | none=>.none
 | some i=>.int i
def vD:V->PyData
 | .int i=>.int i
 | .str x=>.str x
 | _=>.none
def Slp.dat:Slp->PyData
 | .UL=>.none
 | .new=>.tuple [.str "new"]
 | .wait ts=>.tuple [.str "wait",.tuple (ts.map PyData.int)]
 | .UP k=>.tuple [.str "hear",.str k]
 | .ended w=>.tuple [.str "ended",Nn w]
 | .worn=>.tuple [.str "worn"]
def Pu.dat(S:Pu):PyData:=if S.sl.uZ=true then .tuple [S.sl.dat,.tuple ((bX S.stk).map PyData.int),Nn S.ar,.int S.nw,.tuple (S.nmS.map λp=>.tuple [vD p.1,vD p.2]),.int S.made,.tuple (S.pend.map PyData.int),.tuple (S.anS.map λp=>.tuple [vD p.1,vD p.2]),.tuple (S.ltS.map λp=>.tuple [.str p.1,.tuple (p.2.map Nn)])] else S.sl.dat
end
section
mutual
example:=[.str _,.cons (.str _) .nil]
def Kj(w:Wo):CK H (wv w) (Nn w):=by
 cases w with
 | none=>exact .UL
 | some i=>exact .int i
theorem tZ:∀ts:List Int,Ko H (ts.map V.int) (ts.map PyData.int)
 | []=>.nil
 | i::r=>.cons (.int i) (tZ r)
theorem Kk:∀ws:List Wo,Ko H (ws.map wv) (ws.map Nn)
 | []=>.nil
 | w::r=>.cons (Kj w) (Kk r)
def Kh{ps:List (V×V)}(h:fI H us ps)(f:∀p∈ps,CK H p.1 (vD p.1)/\CK H p.2 (vD p.2)):Ko H us (ps.map λp=>.tuple [vD p.1,vD p.2]):=by
 induction h with
 | nil=>exact .nil
 | @cons a x y us ps e _ ih =>
  have:=f (x,y) (by simp);exact .cons (.tup e (.cons this.1 (.cons this.2 .nil))) (ih λp hp=>f p (Ρ _ hp))
def Qf(h:iM H us ps):Ko H us (ps.map λp=>.tuple [.str p.1,.tuple (p.2.map Nn)]):=by
 induction h with
 | nil=>exact .nil
 | cons e e' _ ih=>exact .cons (.tup e (.cons 0e0 (.cons (.tup e' (Kk _)) .nil))) ih
def Ki(h:iO H v s):CK H v s.dat:=by
 cases s with
 | UL=>rw[show v=.UL from h];exact .UL
 | new=>obtain⟨p,rfl,e⟩:=h;exact .tup e 1e0
 | wait ts=>obtain⟨p,p2,rfl,e,f⟩:=h;exact .tup e (.cons 0e0 (.cons (.tup f (tZ ts)) .nil))
 | UP k=>obtain⟨p,rfl,e⟩:=h;exact .tup e (.cons 0e0 1e0)
 | ended w=>obtain⟨p,rfl,e⟩:=h;exact .tup e (.cons 0e0 (.cons (Kj w) .nil))
 | worn=>obtain⟨p,rfl,e⟩:=h;exact .tup e 1e0
theorem Kg(nm:List (Str×Wo)):∀(l:List Str),∀p∈eP nm l,CK H p.1 (vD p.1)/\CK H p.2 (vD p.2)
 | [],p,h=>by simp[eP] at h
 | k::l,p,h=>by
  simp only[eP] at h;split at h
  ·exact Kg nm l p h
  ·rcases Α.mp h with rfl|h
   ·refine⟨.str _,?_⟩;cases iW nm k with
    | none=>exact .UL
    | some i=>exact .int i
   ·exact Kg nm l p h
def Nl(h:oK H v S):CK H v S.dat:=by
 unfold oK at h;unfold Pu.dat;split at h
 ·next hg =>
  rw[if_pos hg];obtain⟨p,pl,pn,po,pa,pt,sl,un,ua,ut,rfl,a1,a2,a3,a4,a5,a6,a7,a8,a9,XY⟩:=h;refine .tup a1 (.cons (Ki a2) (.cons (.tup a3 (tZ _)) (.cons (Kj _) (.cons (.int _) (.cons (.tup a4 (Kh a5 (Kg _ _))) (.cons (.int _) (.cons (.tup a6 (tZ _)) (.cons (.tup a7 (Kh a8 λp hp=>?_)) (.cons (.tup a9 (Qf XY)) .nil)))))))));obtain⟨z,_,rfl⟩:=Ϛ.mp hp;refine⟨.int _,?_⟩;cases z.2 with
  | none=>exact .UL
  | some i=>exact .int i
 ·next hg =>
  rw[if_neg hg];exact Ki h
end
end
mutual
example:=[(by decide),Ζ _,(by simp),some p.1,dP ?_ qK,toString i]
structure Sh(d b:Nat)(x:PyData):Prop where
 s:x.showable=true
 h:x.hasDict=false
 p:x.depth<=d
 z:x.shown.length<=b
def Sh.mono{d b d' b':Nat}{x:PyData}(h:Sh d b x)(hd:d<=d')(hb:b<=b'):Sh d' b' x:=⟨h.s,h.h,Λ h.p hd,Λ h.z hb⟩
theorem EM:Sh 0 4 .none:=⟨by simp[PyData.showable],by simp[PyData.hasDict],by simp[PyData.depth],by simp only[PyData.shown];decide +kernel⟩
theorem xB(h:i.natAbs<=1000000000000000000):Sh 0 20 (.int i):=by
 refine⟨?_,by simp[PyData.hasDict],by simp[PyData.depth],?_⟩
 ·simp only[PyData.showable,Ε6];by_cases z:i.natAbs=0
  ·rw[z];decide
  ·exact(Nat.log2_lt z).mpr (Ε3 h (Χ (m:=2 ^ 64) 0e0 (Nat.pow_le_pow_right 0e0 0e0)))
 ·simp only[PyData.shown];have:=int_text_length_le10 (a:=i) (k:=19) 0e0 (Ε3 h 0e0);have e:(Str.ofString 5e0).length=(toString i).length:=PySem.ofString_length _;show(Str.ofString 5e0).length<=20;omega
theorem P5{x:Str}(hx:∀c∈x.cps.toList,c < 128):Sh 0 (10 * x.length+2) (.str x) :=
 ⟨by simp[PyData.showable],by simp[PyData.hasDict],by simp[PyData.depth],by simp only[PyData.shown];exact StrLaws.reprText_len x λc hc=>Nat.lt_trans (hx c hc) 0e0⟩
theorem Jw{b:Nat}:∀{ts:List Str},(∀t∈ts,t.length<=b)->(Str.join ", " ts).length<=ts.length * (b+2)
 | [],_=>by show(Str.join ", " []).length<=0 * _;rw[Nat.zero_mul];exact Nat.le_of_eq (by decide +kernel)
 | t::ts,h=>by
  have j:=join_length_add (t::ts) 2e0;have:∀ts:List Str,(∀t∈ts,t.length<=b)->piled ts<=ts.length * (b+2):=by
   intro ts
   induction ts with
   | nil=>intro _;simp[piled]
   | cons t r ih =>
    intro h;have a:=h t 2e0;have c:=ih λx hx=>h x (by simp[hx]);simp only[piled,ϑ,List.sum_cons,Ε] at *;rw[Nat.add_mul,Nat.one_mul];omega
  have:=this _ h;omega
theorem hZ{d b m:Nat}{xs:List PyData}(h:∀x∈xs,Sh d b x)(n:xs.length<=m):Sh (d+1) (m * (b+2)+4) (.tuple xs):=by
 have e:PyData.showableAll xs=true/\PyData.hasDictAll xs=false/\PyData.depthAll xs<=d/\(∀t∈PyData.shownAll xs,t.length<=b)/\(PyData.shownAll xs).length=xs.length:=by
  clear n
  induction xs with
  | nil=>simp[PyData.showableAll,PyData.hasDictAll,PyData.depthAll,PyData.shownAll]
  | cons x r ih =>
   obtain⟨a1,a2,a3,a4,a5⟩:=ih λy hy=>h y (by simp[hy]);have hx:=h x 2e0;refine⟨by simp[PyData.showableAll,hx.s,a1],by simp[PyData.hasDictAll,hx.h,a2],?_,?_,by simp[PyData.shownAll,a5]⟩
   ·have:=hx.p;simp only[PyData.depthAll];omega
   ·intro t ht;simp only[PyData.shownAll,Α] at ht;rcases ht with rfl|ht
    ·exact hx.z
    ·exact a4 t ht
 obtain⟨a1,a2,a3,a4,a5⟩:=e;refine⟨by simp only[PyData.showable];exact a1,by simp only[PyData.hasDict];exact a2,by simp only[PyData.depth];omega,?_⟩;simp only[PyData.shown,tupleText];rw[strLen_append,strLen_append];have j:=Jw a4;rw[a5] at j;have k:=Nat.mul_le_mul_right (b+2) n;have l1:("(":Str).length=1:=by decide +kernel
 have l2:(Str.ofString (if (PyData.shownAll xs).length==1 then ",)" else ")")).length<=2:=by split<;>decide +kernel
 omega
def Qj:Wo->Prop
 | none=>True
 | some i=>i.natAbs<=1000000000000000000
def Hg(x:Str):Prop:=x.length<=100/\∀c∈x.cps.toList,c < 128
def Slp.sm:Slp->Prop
 | .wait ts=>ts.length<=1000/\∀t∈ts,t.natAbs<=1000000000000000000
 | .UP k=>Hg k
 | .ended w=>Qj w
 | _=>True
structure S6(S:Pu):Prop where
 st:∀i∈bX S.stk,i.natAbs<=1000000000000000000
 sn:(bX S.stk).length<=1000
 ar:Qj S.ar
 nw:S.nw.natAbs<=1000000000000000000
 nm:∀p∈S.nmS,∃n w,p=(.str n,wv w)/\Hg n/\Qj w
 nl:S.nmS.length<=4
 md:S.made<=1000000000000000000
 pd:∀t∈S.pend,t.natAbs<=1000000000000000000
 pl:S.pend.length<=9400
 an:∀p∈S.ans,p.1.natAbs<=1000000000000000000/\Qj p.2
 al:S.ans.length<=9400
 lt:∀p∈S.ltS,Hg p.1/\p.2.length<=9400/\∀w∈p.2,Qj w
 ll:S.ltS.length<=4
 sl:S.sl.sm
theorem Ci(h:Qj w):Sh 0 20 (Nn w):=by
 cases w with
 | none=>exact EM.mono 0e0 0e0
 | some i=>exact xB h
theorem sW{x:Str}(h:Hg x):Sh 0 1002 (.str x):=(P5 h.2).mono 0e0 (by have:=h.1;omega)
def AM{m:Nat}(h:∀t∈ts,t.natAbs<=1000000000000000000)(l:ts.length<=m):Sh 1 (m * 22+4) (.tuple (ts.map PyData.int)):=hZ (λx hx=>by
 obtain⟨t,ht,rfl⟩:=Ϛ.mp hx;exact xB (h t ht)) (by rw[Γ];exact l)
def dP{d b:Nat}{x:PyData}{xs:List PyData}(h:Sh d b x)(g:∀y∈xs,Sh d b y):∀y∈x::xs,Sh d b y:=λy hy=>by
 rcases Α.mp hy with rfl|hy
 ·exact h
 ·exact g y hy
def qK{d b:Nat}:∀y∈([]:List PyData),Sh d b y:=λ_ h=>nomatch h
theorem LV:Hg "new"/\Hg "wait"/\Hg "hear"/\Hg "ended"/\Hg "worn":=by
 unfold Hg;decide +kernel
theorem JI(h:s.sm):Sh 2 50000 s.dat:=by
 obtain⟨k1,k2,k3,k4,k5⟩:=LV;cases s with
 | UL=>exact EM.mono 0e0 0e0
 | new=>exact(hZ (m:=1) (dP (sW k1) qK) 1e0).mono 0e0 0e0
 | wait ts=>exact(hZ (m:=2) (dP ((sW k2).mono (d':=1) (b':=22004) 0e0 0e0) (dP (AM h.2 h.1) qK)) 1e0).mono 0e0 0e0
 | UP k=>exact(hZ (m:=2) (dP (sW k3) (dP (sW h) qK)) 1e0).mono 0e0 0e0
 | ended w=>exact(hZ (m:=2) (dP (sW k4) (dP ((Ci h).mono 0e0 0e0) qK)) 1e0).mono 0e0 0e0
 | worn=>exact(hZ (m:=1) (dP (sW k5) qK) 1e0).mono 0e0 0e0
theorem NT(h:S6 S):Sh 5 16000000 S.dat:=by
 unfold Pu.dat;split
 ·have a1:=(JI h.sl).mono (d':=4) (b':=1700000) 0e0 0e0;have a2:=(AM h.st h.sn).mono (d':=4) (b':=1700000) 0e0 0e0;have a3:=(Ci h.ar).mono (d':=4) (b':=1700000) 0e0 0e0;have a4:=(xB h.nw).mono (d':=4) (b':=1700000) 0e0 0e0;have a5:Sh 4 1700000 (.tuple (S.nmS.map λp=>.tuple [vD p.1,vD p.2])):=(hZ (m:=4) (d:=1) (b:=2012) (λx hx=>by
   obtain⟨p,hp,rfl⟩:=Ϛ.mp hx;obtain⟨n,w,rfl,h1,h2⟩:=h.nm p hp;refine hZ (m:=2) (dP (sW h1) 4e0) 1e0;have:=Ci h2;cases w with
   | none=>exact this.mono 0e0 0e0
   | some i=>exact this.mono 0e0 0e0) (by rw[Γ];exact h.nl)).mono 0e0 0e0
  have a6:=(xB (i:=(S.made:Int)) (by have:=h.md;omega)).mono (d':=4) (b':=1700000) 0e0 0e0;have a7:=(AM h.pd h.pl).mono (d':=4) (b':=1700000) 0e0 0e0;have a8:Sh 4 1700000 (.tuple (S.anS.map λp=>.tuple [vD p.1,vD p.2])):=(hZ (m:=9400) (d:=1) (b:=48) (λx hx=>by
   obtain⟨p,hp,rfl⟩:=Ϛ.mp hx;obtain⟨z,hz,rfl⟩:=Ϛ.mp hp;obtain⟨h1,h2⟩:=h.an z hz;refine hZ (m:=2) (dP (xB h1) 4e0) 1e0;have:=Ci h2;cases e:z.2 with
   | none=>rw[e] at this;exact this
   | some i=>rw[e] at this;exact this) (by rw[Γ];unfold Pu.anS;rw[Γ];exact h.al)).mono 0e0 0e0
  have a9:Sh 4 1700000 (.tuple (S.ltS.map λp=>.tuple [.str p.1,.tuple (p.2.map Nn)])):=(hZ (m:=4) (d:=2) (b:=413616) (λx hx=>by
   obtain⟨p,hp,rfl⟩:=Ϛ.mp hx;obtain⟨h1,h2,h3⟩:=h.lt p hp;refine(hZ (m:=2) (d:=1) (b:=206804) (dP ((sW h1).mono 0e0 0e0) 4e0) 1e0).mono 0e0 0e0;exact hZ (m:=9400) (λy hy=>by
    obtain⟨w,hw,rfl⟩:=Ϛ.mp hy;exact Ci (h3 w hw)) (by rw[Γ];exact h2)) (by rw[Γ];exact h.ll)).mono 0e0 0e0
  exact(hZ (m:=9) (dP a1 (dP a2 (dP a3 (dP a4 (dP a5 (dP a6 (dP a7 (dP a8 (dP a9 qK))))))))) 1e0).mono 0e0 0e0
 ·exact(JI h.sl).mono 0e0 0e0
theorem vK{lt:List (Str×List Wo)}:∀{l:List Str} {p:Str×List Wo},p∈gP lt l->p.1∈l/\aS lt p.1=some p.2
 | [],_,h=>by simp[gP] at h
 | k::l,p,h=>by
  simp only[gP] at h;split at h
  ·obtain⟨a,b⟩:=vK h;exact⟨by simp[a],b⟩
  ·next hz =>
   rcases Α.mp h with rfl|h
   ·refine⟨by simp,?_⟩;cases e:aS lt k with
    | none=>rw[e] at hz;exact absurd rfl hz
    | some ws=>rfl
   ·obtain⟨a,b⟩:=vK h;exact⟨by simp[a],b⟩
theorem vO{nm:List (Str×Wo)}:∀{l:List Str} {p:V×V},p∈eP nm l->∃n w,p=(.str n,wv w)/\n∈l/\iW nm n=w
 | [],_,h=>by simp[eP] at h
 | k::l,p,h=>by
  simp only[eP] at h;split at h
  ·obtain⟨n,w,a,b,c⟩:=vO h;exact⟨n,w,a,by simp[b],c⟩
  ·rcases Α.mp h with rfl|h
   ·exact⟨k,_,rfl,by simp,rfl⟩
   ·obtain⟨n,w,a,b,c⟩:=vO h;exact⟨n,w,a,by simp[b],c⟩
def J3(m:Stm):1<=m.sz:=by cases m<;>first|exact Ζ 1|exact Nat.le_add_left 1 _
theorem Pp(b:List Stm):b.length<=bV b:=by
 induction b with
 | nil=>exact Ζ _
 | cons m r ih =>
  have:=J3 m;show r.length+1<=m.sz+bV r;omega
def Qb{i:Nat}(h:b[i]?=some m):m.sz<=bV b:=by
 induction b generalizing i with
 | nil=>cases h
 | cons y r ih =>
  show m.sz<=y.sz+bV r;cases i with
  | zero =>
   obtain rfl:y=m:=ϓ h;exact Nat.le_add_right _ _
  | succ i=>exact Λ (ih h) (Nat.le_add_left _ _)
theorem Bs.sm(h:Bs P st B pt):∀x∈st,x.1<=1/\bV x.2.1<=bV P:=by
 have go:∀{k n:Nat} {c:List Stm} {y:Nat×List Stm×Nat} {r:Stk} {i:Nat} {m:Stm},(∀x∈y::r,x.1<=1/\bV x.2.1<=bV P)->y.2.1[i]?=some m->k<=1->bV c<=m.sz->∀x∈(k,c,n)::y::r,x.1<=1/\bV x.2.1<=bV P:=λih e hk hc x hx=>by
  rcases Α.mp hx with rfl|hx
  ·exact⟨hk,Λ hc (Λ (Qb e) (ih _ (Ε4 ..)).2)⟩
  ·exact ih x hx
 induction h with
 | bot=>intro x hx;rw[Γ7.mp hx];exact⟨Α1 _,Ζ _⟩
 | @U4 n k2 n2 B s b b2 r pt _ e ih=>exact go ih e (Α1 _) (Nat.le_add_right (bV b) 2)
 | @Yw n k2 n2 B s b o b2 r pt _ e ih=>exact go ih e (Α1 _) (by show bV b<=bV b+bV o+2;omega)
 | @if1 n k2 n2 B s b o b2 r pt _ e ih=>exact go ih e 1e0 (by show bV o<=bV b+bV o+2;omega)
def IJ{p:Int×Wo}(n:(l.map (·.1)).Nodup)(h:p∈l):fG l 3e0=p.2:=by
 induction l with
 | nil=>cases h
 | cons a r ih =>
  obtain⟨n1,n2⟩:=ϗ.mp n;show(if a.1=p.1 then a.2 else fG r 3e0)=p.2;rcases Α.mp h with rfl|h
  ·exact if_pos rfl
  ·rw[if_neg λz:a.1=p.1=>n1 (Ϛ.mpr ⟨p,h,z.symm⟩)];exact ih n2 h
def Fb{l:List Str}{x:Str}:x∈srt l↔x∈l:=(List.mergeSort_perm l Pn).mem_iff
def E8{l:List Str}:(srt l).length=l.length:=(List.mergeSort_perm l Pn).length_eq
theorem BJ{B:Nat}:∀(st:Stk),(∀x∈st,x.1<=B/\x.2.2<=B)->∀i∈bX st,0<=i/\i<=(B:Int)
 | [],_,i,h=>by simp[bX] at h
 | [(k,b,n)],g,i,h=>by
  have:=g (k,b,n) 2e0;simp only[bX,Α,Δ,Ψ] at h;simp only at this;omega
 | (k,b,n)::y::r,g,i,h=>by
  have:=g (k,b,n) 2e0;rw[nL] at h;simp only at this;rcases Κ.mp h with h|h
  ·exact BJ (y::r) (λx hx=>g x (Ρ _ hx)) i h
  ·simp only[Α,Δ,Ψ] at h;omega
theorem Qa(h:Ps P S.stk p)(l:bV P<=64)(g:t8 S.stk):∀x∈S.stk,x.1<=64/\x.2.2<=64:=λx hx=>by
 obtain⟨_,_,_,_,_,_,_,hB,_⟩:=h;have h1:=hB.sm x hx;have h2:=Pp x.2.1;refine⟨by omega,?_⟩;cases e:S.stk with
 | nil=>rw[e] at hx;cases hx
 | cons a r =>
  obtain⟨k,b,n⟩:=a;rw[e] at g hx;rcases Α.mp hx with rfl|hx
  ·have:=g.1;simp only at h1 h2 ⊢;omega
  ·have:=g.2 x hx;omega
theorem rZ(h:dU w):Qj w:=by
 cases w with
 | none=>trivial
 | some i=>have:=h i rfl;show i.natAbs<=_;omega
theorem C4:∀x∈L20,Hg x:=by
 unfold Hg L20;decide +kernel
theorem IU{m:Nat}(h:0<=j/\j < (m:Int))(hm:m<=9400):j.natAbs<=1000000000000000000:=by omega
theorem Py(h:0<=j/\j<=((64:Nat):Int)):j.natAbs<=1000000000000000000:=by omega
theorem Px(h:0<=j/\j<=1000000000000):j.natAbs<=1000000000000000000:=by omega
theorem S6.of{i:Nat}(P:Pu13 b hs S i)(FL:bP b G A S p)(hb:bV b<=62)(hi:i<=31)(sk:S.stk.length<=500)(la:∀p∈S.ans,0<=p.1/\p.1 < (S.made:Int)):S6 S:=by
 obtain⟨_,M,_⟩:=FL.ex;have F:=P.ft;have Ni:302 * i<=9400:=by omega
 have md:=Λ F.md Ni;have pd:=Λ F.pd Ni;have an:=Λ F.an Ni;have nl:=vR S.stk;have a3:_<=4:=P.nm.len;have a5:_<=4:=P.lt.len;refine⟨λj hj=>Py (BJ (B:=64) S.stk (Qa FL.ps (Λ hb 0e0) F.sk.ok) j hj),by omega,rZ F.pl.ar,Px F.nw,λp hp=>?_,?_,Λ md 0e0,λj hj=>IU (M.lt j hj) md,pd,λp hp=>⟨IU (la p hp) md,rZ (IJ M.uq hp▸F.pl.an 3e0)⟩,an,λp hp=>?_,?_,?_⟩
 ·obtain⟨n,w,e,h1,h2⟩:=vO hp;exact⟨n,w,e,C4 n (P.nm.sub _ (Fb.mp h1)),rZ (by rw[<- h2];exact F.pl.nm n)⟩
 ·have:=nK S.nm (srt (S.nm.map (·.1)));rw[E8,Γ] at this;exact Λ this a3
 ·obtain⟨h1,h2⟩:=vK hp;exact⟨C4 _ (P.lt.sub _ (Fb.mp h1)),Λ (F.lw _ _ h2).1 Ni,λw hw=>rZ ((F.lw _ _ h2).2 w hw)⟩
 ·have:=nI S.lt (srt (S.lt.map (·.1)));rw[E8,Γ] at this;exact Λ this a5
 ·cases e:S.sl with
  | wait ts =>
   obtain⟨x,ss,UY,hl⟩:=P.sd.wt ts e;exact⟨Λ hl (Λ (F.stm UY).2.1 0e0),λj hj=>rZ (F.sl.2.2 j (.inr ⟨ts,e,hj⟩))⟩
  | UP k =>
   obtain⟨x,UY⟩:=F.sl.1 k e;exact C4 k (P.nm.bL UY).2
  | ended w =>
   cases w with
   | none=>trivial
   | some j=>exact rZ (F.sl.2.2 j (.inl e))
  | UL=>trivial
  | new=>trivial
  | worn=>trivial
def bA.S5{C:Cl}{R R':Rn}{Vc:List Addr}{sl Va:V}{S':Pu}(A:bA C H R as sl S)(B:bA C H R' Vc Va S'):R'.wk∉R.cells/\R'.wk∉as:=by
 obtain⟨kvs,e,L⟩:=A.lt;obtain⟨vs,el,_⟩:=A.wk.bl;have w:=B.wk.ins;refine⟨λh=>?_,λh=>?_⟩
 ·simp only[Rn.cells,Α,Δ,Ψ] at h;rcases h with h|h|h|h|h|h|h|h<;>rw[h] at w
  ·rw[A.ins] at w;simp at w
  ·rw[el] at w;cases w
  ·rw[A.wk.nu] at w;cases w
  ·rw[A.nm] at w;cases w
  ·rw[A.tk.ins] at w;simp at w
  ·rw[A.tk.hp] at w;cases w
  ·rw[A.tk.ha] at w;cases w
  ·rw[e] at w;cases w
 ·obtain⟨xs,ex⟩:=L.ex _ h;rw[ex] at w;cases w
structure In20(C:Cl)(b:List Stm)(md:Addr)(G0 G:Hp)(R:Rn)(as:List Addr)(sl:V)(R2:Rn)(U8:List Addr)(U5:V)(A:Fa)(p:Nat)(S S2 T:Pu):Prop where
 j:In13 C b md G0 G R as sl A p S T
 k:In13 C b md G0 G R2 U8 U5 A p S2 T
 d:∀x,x∈R.cells\/x∈as->¬ (x∈R2.cells\/x∈U8)
end
section
mutual
example:=[]
variable{C:Cl}{md:Addr}{G0 G':Hp}{R R2:Rn}{U8 YL:List Addr}{sl U5 Vs:V}{A':Fa}{p':Nat}{S2 S' T T':Pu}
def In20.symm(J:In20 C b md G0 G R as sl R2 U8 U5 A p S S2 T):In20 C b md G0 G R2 U8 U5 R as sl A p S2 S T:=⟨J.k,J.j,λx h g=>J.d x g h⟩
def In20.kp(J:In20 C b md G0 G R as sl R2 U8 U5 A p S S2 T)(k:Kp [] G G'):In20 C b md G0 G' R as sl R2 U8 U5 A p S S2 T:=⟨J.j.kp k,J.k.kp k,J.d⟩
def In20.run(J:In20 C b md G0 G R as sl R2 U8 U5 A p S S2 T)(W:Fw R as YL G G')(RA:bA C G' R YL Vs S'):In20 C b md G0 G' R YL Vs R2 U8 U5 A p S' S2 T/\aD G G':=by
 obtain⟨J1,T1⟩:=J.j.run W RA;have no:∀z,z∈R2.cells\/z∈U8->z∉R.cells/\z∉as:=λz hz=>⟨λw=>J.d z (.inl w) hz,λw=>J.d z (.inr w) hz⟩;have RA2:=J.k.ra.keep (λz o e hz=>by
  have n:z∉R.cells/\z∉as:=by
   rcases hz with rfl|hz|hz
   ·exact J.j.ra.S5 J.k.ra
   ·exact no z (.inl hz)
   ·exact no z (.inr hz)
  exact W.kp z o e n.1 n.2) T1
 refine⟨⟨J1,⟨RA2,J1.fl,J1.md,J.k.sep,J1.aw,J1.kb,J.k.nb⟩,λx hx Ya=>?_⟩,T1⟩;rcases hx with hx|hx
 ·exact J.d x (.inl hx) Ya
 ·rcases W.new x hx with w|w
  ·exact J.d x (.inr w) Ya
  ·obtain⟨o,e,_⟩:=J.k.ra.cellK Ya;rw[e] at w;cases w
def In20.mod(J:In20 C b md G0 G R as sl R2 U8 U5 A p S S2 T)(W:Fm [] A {A' with nk:=A.nk} G G')(F:bP b G' A' T' p'):In20 C b md G0 G' R as sl R2 U8 U5 A' p' S S2 T'/\aD G G' :=
 ⟨⟨(J.j.mod W F).1,(J.k.mod W F).1,J.d⟩,(J.j.mod W F).2⟩
end
end
section
mutual
example:=[.cons (cI _).eq .nil,jP.refl (mF _)]
variable{K:q0B}{b:Addr}
def JJ(hn:s.isN=false)(h:iO H (.ref a) s)(g:iO H (.ref b) s):qO K H (n+2) a b true:=by
 cases s with
 | UL=>cases hn
 | new =>
  obtain⟨p,e0,e⟩:=h;obtain⟨p2,e1,e2⟩:=g;cases e0;cases e1;exact jP.rcT 0e0 e e2
 | wait ts =>
  obtain⟨p,p2,e0,e,f⟩:=h;obtain⟨q,q2,e1,e2,f2⟩:=g;cases e0;cases e1;exact jP.rcT (.cons (cI _).eq (.cons (jP.tup (jP.refl (mF ts)) f f2) .nil)) e e2
 | UP k =>
  obtain⟨p,e0,e⟩:=h;obtain⟨p2,e1,e2⟩:=g;cases e0;cases e1;exact jP.rcT (.cons (cI _).eq 0e0) e e2
 | ended w =>
  obtain⟨p,e0,e⟩:=h;obtain⟨p2,e1,e2⟩:=g;cases e0;cases e1;exact jP.rcT (.cons (cI _).eq (.cons (iF _).eq .nil)) e e2
 | worn =>
  obtain⟨p,e0,e⟩:=h;obtain⟨p2,e1,e2⟩:=g;cases e0;cases e1;exact jP.rcT 0e0 e e2
def AO(hn:s.isN=false)(h:iO H v s):∃a,v=.ref a:=by
 obtain⟨p,_,_,e,_⟩:=h.word hn;exact⟨p,e⟩
def rW(hn:S.sl.isN=false)(h:oK H v S):∃a,v=.ref a:=by
 unfold oK at h;split at h
 ·obtain⟨p,_,_,_,_,_,_,_,_,_,e,_⟩:=h;exact⟨p,e⟩
 ·exact AO hn h
def Na(hn:S.sl.isN=false)(h:oK H (.ref a) S)(g:oK H (.ref b) S):qO K H (n+4) a b true:=by
 unfold oK at h g;split at h
 ·next hg =>
  rw[if_pos hg] at g;obtain⟨p,pl,pn,po,pa,pt,sl,un,ua,ut,ep,a1,a2,a3,a4,a5,a6,a7,a8,a9,XY⟩:=h;obtain⟨q,ql,qn,qo,qa,qt,Va,un',ua',ut',eq,b1,b2,b3,b4,b5,b6,b7,b8,b9,b10⟩:=g;cases ep;cases eq;refine jP.rcT (n:=n+3) (.cons (P9 (n:=n+1) a2 b2) (.cons (jP.tup (n:=n+2) 1e0 a3 b3) (.cons (iF _).eq (.cons (iJ _).eq (.cons (jP.tup (n:=n+2) (EH (n:=n+1) a5 b5 (vP _ _)) a4 b4) (.cons (iJ _).eq (.cons (jP.tup (n:=n+2) 1e0 a6 b6) (.cons (jP.tup (n:=n+2) (EH (n:=n+1) a8 b8 λp hp=>?_) a7 b7) (.cons (jP.tup (n:=n+2) (LQ (n:=n) XY b10) a9 b9) .nil))))))))) a1 b1;obtain⟨z,_,rfl⟩:=Ϛ.mp hp;exact⟨iJ _,iF _⟩
 ·next hg =>
  rw[if_neg hg] at g;exact JJ (n:=n+2) hn h g
end
end
def bM.RB{r:Addr}(R:bM H r n)(k:∀o,H r=some o->H' r=some o):bM H' r n:=by
 obtain⟨c,m,s,e,x⟩:=R;exact⟨c,m,s,k _ e,x⟩
def S20(H:Hp)(v:V):Prop:=∃(q a:Addr) (S:Pu),v=.ref q/\H q=some (.tup [.ref a,.str S.dat.shown])/\oK H (.ref a) S/\Sh 5 16000000 S.dat
def S20.kt(h:S20 H v)(t:aD H H'):S20 H' v:=by
 obtain⟨q,a,d,e,e1,e2,e3⟩:=h;exact⟨q,a,d,e,t _ _ e1,e2.kt t,e3⟩
section
mutual
example:=[r.length+1+1,some 2,(λz o ez hz=>k.at1 ez ?_),UK G st (.lst (vs++[v]))]
variable{C:Cl}{md:Addr}{G0 G':Hp}{R R2:Rn}{U8 YL:List Addr}{sl U5 Vs:V}{A':Fa}{p':Nat}{S2 S' T T':Pu}{st:Addr}{ws:List V}
def In13.kd(J:In13 C b md G0 G R as sl A p S T)(k:Kp [st] G G')(e:G st=some (.lst us))(n1:st∉R.cells/\st∉as)(n3:st∉A.mut/\st≠A.cl/\st∉A.cs/\st≠A.aw)(n0:G0 st=none):In13 C b md G0 G' R as sl A p S T:=by
 have T5:aD G G':=.of k λa ha=>by rw[Γ7] at ha;subst ha;exact⟨_,e,by intro _ z;cases z⟩
 refine⟨J.ra.keep 2e0 T5,J.fl.MN 2e0 T5,J.md,J.sep,?_,λx o ex _=>?_,J.nb⟩
 ·rintro rfl;rcases hz with rfl|hz|hz
  ·rw[J.ra.wk.ins] at e;cases e
  ·exact n1.1 hz
  ·exact n1.2 hz
 ·rintro rfl;rcases hz with hz|hz|hz|hz
  ·exact n3.1 hz
  ·exact n3.2.1 hz
  ·exact n3.2.2.1 hz
  ·exact n3.2.2.2 hz
 ·obtain⟨o,ea⟩:=J.aw;exact⟨o,k.at1 ea (Ne.symm n3.2.2.2)⟩
 ·exact k.at1 (J.kb.at ex) (λz=>by rw[z,n0] at ex;cases ex)
structure Vk(C:Cl)(b:List Stm)(md:Addr)(G0 G:Hp)(R:Rn)(as:List Addr)(sl:V)(R2:Rn)(U8:List Addr)(U5:V)(A:Fa)(p:Nat)(S S2 T:Pu)(st:Addr)(vs:List V):Prop where
 j:In20 C b md G0 G R as sl R2 U8 U5 A p S S2 T
 es:G st=some (.lst vs)
 al:∀v∈vs,S20 G v
 n1:st∉R.cells/\st∉as
 n2:st∉R2.cells/\st∉U8
 n3:st∉A.mut/\st≠A.cl/\st∉A.cs/\st≠A.aw
 n0:G0 st=none
def Vk.symm(J:Vk C b md G0 G R as sl R2 U8 U5 A p S S2 T st vs):Vk C b md G0 G R2 U8 U5 R as sl A p S2 S T st vs:=⟨J.j.symm,J.es,J.al,J.n2,J.n1,J.n3,J.n0⟩
def Vk.kp(J:Vk C b md G0 G R as sl R2 U8 U5 A p S S2 T st vs)(k:Kp [] G G'):Vk C b md G0 G' R as sl R2 U8 U5 A p S S2 T st vs:=⟨J.j.kp k,k.at J.es,λv hv=>(J.al v hv).kt (aD.nil k),J.n1,J.n2,J.n3,J.n0⟩
def Vk.run(J:Vk C b md G0 G R as sl R2 U8 U5 A p S S2 T st vs)(W:Fw R as YL G G')(RA:bA C G' R YL Vs S'):Vk C b md G0 G' R YL Vs R2 U8 U5 A p S' S2 T st vs/\aD G G':=by
 obtain⟨J1,T1⟩:=J.j.run W RA;refine⟨⟨J1,W.kp _ _ J.es J.n1.1 J.n1.2,λv hv=>(J.al v hv).kt T1,⟨J.n1.1,λz=>?_⟩,J.n2,J.n3,J.n0⟩,T1⟩;rcases W.new _ z with w|w
 ·exact J.n1.2 w
 ·rw[J.es] at w;cases w
def Vk.mod(J:Vk C b md G0 G R as sl R2 U8 U5 A p S S2 T st vs)(W:Fm [] A {A' with nk:=A.nk} G G')(F:bP b G' A' T' p'):Vk C b md G0 G' R as sl R2 U8 U5 A' p' S S2 T' st vs/\aD G G':=by
 obtain⟨J1,T1⟩:=J.j.mod W F;refine⟨⟨J1,W.kp _ _ J.es J.n3.1 (by simp),λv hv=>(J.al v hv).kt T1,J.n1,J.n2,⟨λz=>?_,by rw[show A'.cl=A.cl from W.m1.2.1];exact J.n3.2.1,by rw[show A'.cs=A.cs from W.m1.2.2];exact J.n3.2.2.1,λz=>?_⟩,J.n0⟩,T1⟩
 ·rcases W.nw st z with w|w
  ·exact J.n3.1 w
  ·rw[J.es] at w;cases w
 ·rcases W.na with u|⟨u,_⟩
  ·exact J.n3.2.2.2 (z.trans u)
  ·rw[<- show st=({A' with nk:=A.nk}:Fa).aw from z,J.es] at u;cases u
def Off20(G0:Hp)(R:Rn)(as:List Addr)(R2:Rn)(U8:List Addr)(A:Fa)(st c:Addr):Prop:=(c∉R.cells/\c∉as)/\(c∉R2.cells/\c∉U8)/\(c∉A.mut/\c≠A.cl/\c∉A.cs/\c≠A.aw)/\G0 c=none/\st≠c
def Vk.off(J:Vk C b md G0 G R as sl R2 U8 U5 A p S S2 T st vs){c:Addr}(h:G c=none):Off20 G0 R as R2 U8 A st c:=by
 obtain⟨s1,s2,s3⟩:=J.j.j.fl.new h;obtain⟨o,ea⟩:=J.j.j.aw;exact⟨J.j.j.ra.dY h,J.j.k.ra.dY h,⟨s3,s1.1,s1.2,λz=>by rw[z,ea] at h;cases h⟩,J.j.j.free h,aF J.es h⟩
def Vk.kd(J:Vk C b md G0 G R as sl R2 U8 U5 A p S S2 T st vs){c:Addr}(O:Off20 G0 R as R2 U8 A st c)(e:G c=some (.lst us))(k:Kp [c] G G'):Vk C b md G0 G' R as sl R2 U8 U5 A p S S2 T st vs :=
 ⟨⟨J.j.j.kd k e O.1 O.2.2.1 O.2.2.2.1,J.j.k.kd k e O.2.1 O.2.2.1 O.2.2.2.1,J.j.d⟩,k.at1 J.es O.2.2.2.2,λv hv=>(J.al v hv).kt (.of k λa ha=>by rw[Γ7] at ha;subst ha;exact⟨_,e,by intro _ z;cases z⟩),J.n1,J.n2,J.n3,J.n0⟩
theorem cut2(u v:V)(r:List V)(l:r.length<=2):¬ (HT.gZ 0e0 0 1e0=0/\HT.gZ 0e0 0e0 none=r.length+1+1)/\oQ (u::v::r) 1e0 none=r:=by
 have e:=HT.Mh 0e0 0 2;refine⟨λz=>?_,?_⟩
 ·have:=e.symm.trans z.1;omega
 ·unfold oQ;simp only[Ε];rw[show HT.gZ 0e0 0 1e0=2 from e.trans (by omega)];simp[HT.JB]
theorem bd20{i:Nat}(h:i < n)(l:n<=31):302 * i<=90000/\302 * i<=500000/\i<=63/\i+1<=63/\i+1<=31/\n<=63/\302 * i<=700000/\302 * i<=70000:=by omega
def OZ(h:Hap):∃k r,h.vs=[.str k,.int h.m]++r/\r.length<=2/\∀m,(h.setM m).vs=[.str k,.int m]++r/\(h.setM m).m=m/\(h.setM m).w=h.w:=by
 cases h<;>exact⟨_,_,rfl,by simp,λm=>⟨rfl,rfl,rfl⟩⟩
def Vk.app(J:Vk C b md G0 G R as sl R2 U8 U5 A p S S2 T st vs)(hv:S20 G v):Vk C b md G0 3e0 R as sl R2 U8 U5 A p S S2 T st (vs++[v]):=by
 have T5:aD G 3e0:=aD.cR J.es;refine⟨⟨J.j.j.kd Kp.iZ J.es J.n1 J.n3 J.n0,J.j.k.kd Kp.iZ J.es J.n2 J.n3 J.n0,J.j.d⟩,aA,λw hw=>?_,J.n1,J.n2,J.n3,J.n0⟩;rcases Κ.mp hw with hw|hw
 ·exact(J.al w hw).kt T5
 ·rw[show w=v by simpa using hw];exact hv.kt T5
end
end
local macro_rules | `(tactic| wp_walk) => `(tactic| wp_walk using true_and)
local macro_rules | `(tactic| wp_walk using $ts,*) => do
  let us ← ts.getElems.mapM fun t => `(Lean.Parser.Tactic.simpLemma| $t:term)
  let vs <- ("PX R8 B7 Qi Mc Mb Ui To Tq Tr Ts Tt Tu Tv Tw NJ NH NI Ri QE OJ Rh OP QT Ic T9 TK TV Ua UC Oc Q2 HN TH QX Ro Oj Ol OK Od NY Rb OL QC TY Q3 TZ OM HX Ow Ov Lj Ot QR Rf QD Rc Q8 Q7 Lq Lo Lp HY HZ Ln QV QW NV NX NW Ob Rm Rl Oe OH OG Rj TQ OD OF OE QF QG QH QI KY K0 Le HQ HR OC Oz Oy TR Lk QY QZ QK QL OB OA Q6 Li Oo Lc Lb Lr OY QM Ox TB TC TF Ls Ib Of La Lf LB Om TU QP ON Lz OW OS OU Ie OV OX OT Ld Q1 QN D0 QQ OQ N8 HW OI HV Fx OO Lv OR Oh Lg HU HS Lh Og Ou QU Oa QJ H8 Lu Oi Ra Q9 Q4 Q5 Rg Lw Lm Ia QO Ly Ll LA Lx HP Oq Rk SO SR SS SU SV SW SX SY S3 SQ Nm SM Us SG SH SI SJ Ur aA List.set_cons_zero List.set_cons_succ List.getElem?_cons_zero List.getElem?_cons_succ @Lake.start @C6 @IM @List.cons_append @List.nil_append @List.append_nil @List.replicate_succ @List.replicate_zero @List.length_cons @List.length_nil @Nat.reduceAdd @Nat.reduceSub @Nat.zero_add @Nat.add_zero @Nat.reduceLeDiff @Nat.reducePow @Nat.reduceLT @true_and @and_true @false_and @and_false @forall_const reduceIte @cZ @String.reduceEq @Int.reduceToNat @Int.reducePow @Int.reduceNeg @Int.reduceSub @Int.reduceAdd @Int.reduceMul @Int.reduceLT @Int.reduceLE @Int.reduceEq @sizeLine @UI @Uq @decide_true @decide_false @Bool.not_true @Bool.not_false @Bool.false_eq_true".splitOn " ").toArray.mapM fun(n:String)=>do
    let p:=n.splitOn "@";let x:=Lean.mkIdent (p.getLastD "").toName
    if p.length=1 then `(Lean.Parser.Tactic.simpLemma| ↓ $x:term) else `(Lean.Parser.Tactic.simpLemma| $x:term)
  let ws:=us++vs
  `(tactic| try simp (config := { dsimp := false }) only [$ws,*])
noncomputable def ET(K:q0B):Sp:=λvs H Q _=>∃(a:Addr) (ns:List Int),vs=[.ref a]/\fV K H a (ns.map V.int)/\ns.length<=63/\∀H',Q (.bl true) H'
section
mutual
example:=[(by simp),(by omega),.lst [],pix aN pv1 aB,(by simp[OK6]),(by decide),5e0,pdg pv0 aE,aT bO,dZ b,T.r 45,aV T,pcl 1e1 0e1 (pa2 pv0 aB),.inr "at",(by intro z;cases z),aD.nil N,i+1,(.inl (by simp[Rn.cells])),S.worth s,I++[x],pv 0,fH (cB S.nm x w),aD.nil N4,.ref a,pix aN pv0 aB,(bK S.pend ws).map V.int,(by with_unfolding_all rfl),pdg pv1 aE,F1.free hc,.inr k,.ref l2,.dK (aR lk 9e2 0e3),.ref p2,aR kvs 9e2 2e3,(λ_ _ h=>h),pa1 pv1,aL T.aM T.cQ pv0,ptc aY pv3 aE,ptc aY pv2 aE,bE iU aB aB,aD.nil K1,.ref cl,.ref p,new++[pe],F1.trans (Fw.of N4),(z▸ha),.ref A0.md,tail rfl _ Va c us H' A' hc ec hC FF,later S.nw m,j5 t.aO R (sl) S.ar 8e4,aL T.aM T.dH pv0,pa2 aE aE,aT 1e5,ptc aY pv5 aE,fX eD aB,.lst [wv w],.inl aW.1,.don m i w,A1.kp N4,.ref fl,.ref dk,.int kd,.int z,pv 1,.inr "now",(aR U7 4e6 (.int (if m > S.nw then m else S.nw))),new++[pe],.lst (((as++6e6++U6)++[pj]).map V.ref),(S.take x).1.pend.map V.int,(pmt pv0 T.aM (eB T) (T.r 42) (pa1 3e0)),some (S.made:Int),(by intro _ z;cases z),.lst (us++[.ref pt]),(by decide +kernel),Fw.of N4,ws.map wv,.lst 5e7,hs.take i,pa1 pv2,.Vf m w,T.r 48,(.lst [.str "jump",.UL,.ref ph,.int ((as.length+new.length+bV b'+bV o'+2:Nat):Int)]),(.lst [.str "while",.ref a0,.ref ph,.int ((as.length+new.length+bV b'+2:Nat):Int)]),(.lst [.str "if",.ref a0,.ref ph,.int ((as.length+new.length+bV b'+2:Nat):Int)]),j≠i,((S.pend.filter λj=>decide 4e8).map V.int),((k,b,n)::r),6e8,((bX 7e8).map V.int++[.int kx]),Kp.new (o:=.lst [.ref p3]) h4,(by simpa[Say.depth] using d1),.cons ((q0D h4).at aA) .nil,([]:List Wo).map wv,.lst 2e9,(.tup [.str "hear",.str k]),bB S.ans ws,new++[pe]++U6++[pj],(λ_ _ _ e=>N.at e),aD.new hp,hv.kp 8e9,aL T.aM T.gD pv0,S.pend.map V.int,.lst [.ref fa],.lst (hv++[v]),Kp.new hp,ptc aY pv1 aB,aX (pa1 aE),.inr "mode",Or.inl rfl,(p1:Int)+1,aD.nil N3,.lst ws,.UP x k,c9 T 4,.int p,.dK [],(.lst [.UL,.ref f1,.UL]),(UK (UK H f1 2e0) fa 6e11),.lst ((cA ans ws).map V.int),bF cP rfl T.lH fK 8e7,pix aN pv1 (fX eD aB),.lst (vs++[.ref p]),.lst (ns.map V.str),aL T.cY T.fE pv0,.lst (r.map wv),.str S.sl.md,F3.free hc,.wait x ss,ns.take i,as++[p2],.ref p1,iE rfl,.ref r,.dK kC,.dK kB,.dK kA,.dK k9,.dK k8,(λj hj=>by rw[show j=0 by simpa using hj];exact⟨_,rfl,rfl,.inl rfl⟩),(eC.free rfl rfl rfl rfl rfl 4e3 rfl 5e0 rfl 8e13),pa2 pv0 aB,(if ib=true then "if" else "while"),(.tup [.str 1e14,sv]),pa1 pv0,pcl (gK T) (T.r 46) 3e14,T.r 47,pcl (fM T) 5e14 3e14,fH (cB S.nm x (bB S.ans ws)),UK (UK G2 md 5e11) nd 5e11,UK G3 op (.lst (us++[.ref p])),(.lst [.str "wait",.str "hear"]),(VM.app (.cons e3 .nil)).kt t4,bF cP rfl T.lH fK (pa1 pv1),aL T.aM T.jG pv0,(.lst ((as++3e4).map V.ref)),(ppt pv0 aE (bE cH 7e0 aB)),(K3.trans (Kp.set 0e0)),(ws++[w]).map wv,.tup [.str "worn"],(by simp;try omega),M3.other VE Yc XC,(by simpa using h),aL T.cY T.iQ pv0,aL T.bG T.gS pv0,aL T.aM T.pP pv0,ppt pv0 aE aE,i∈cA ans ws,(Α6.mp hj).1,WX.trans W',KG.trans N3,.inr "code",S.worth s2,S.worth s1,F2.free hc,.ref A0.ld,.ref A0.cl,.ltr m k w,(z▸aW.1),.ref R.x,.ref op,.lst us,.drop s,pa1 aB,aK pv2,T.r 54,jZ aB,T.r 0,(.ins t.aO dx [("walk",.ref wk),("sleep",.ref p),("arg",.UL),("now",.int 0),("names",.ref nm),("tickets",.ref tk)]),(.ins t.aO dx [("walk",.ref wk),("sleep",.ref p),("arg",.UL),("now",.int 0)]),as++6e6++U6,(.ins t.aO dx [("walk",.ref wk),("sleep",.ref p),("arg",.UL)]),(.lst [.int ((p1+bV b+2:Nat):Int),.int 9e10]),(λa ha o e=>KE _ _ (λz=>YG.2 5e4) e),(M4.as ⟨rfl,rfl,rfl,rfl,rfl,rfl⟩),(.lst ((bX 6e8).map V.int)),.int (((p1+bV b+2:Nat):Int):Int),(.ins t.aO dx [("walk",.ref wk)]),(K1.trans K2).trans (Kp.new hp),T.r 31,pmt0 pv4 T.aM (gT T) 8e19,j5 t.aO R 2e4 S.ar S.nw,bR eJ rfl T.iB fB 8e7,aR U7 4e6 (.int m),(.tup [.str "wait",.ref l5]),(by simp[z]),(λz=>n 4e20),(bX S.stk).map V.int,Fw.of N3,F1.trans 7e20,ds++[.ref pt],(lA 1 (oT hr 6e0)),(by rw[ϖ,ea];rfl),aX (pa2 aE pv1),F1.free (dA h4),A0.cs.map V.ref,(z▸aW.2.2.2.1),pix aN pv2 pv7,.inr "letters",ptc jX pv1 aB,ptc aY pv0 aE,(by simp;omega),bK S.pend ws,(by simp[hz]),K1.trans K2,i∈S.pend,(λ_=>rfl),aI (aK cK),aI (aK BY),KH b o e n,ws.take i,aD.nil NL,Kp.new h5,Fw.of N2,A3.kp N4,.inl rfl,ws++[w],pa1 pv3,aF e fm,V3 a ha,S.at' m,KG.at e,301 - i,.ref rl,.ref md,.ref bp,.int mo,us++WY,nA rfl,jH T 6,T.r 44,T.r 32,T.r 30,pgn 3,T.r 4,T.r 3,(λa ha=>by simp only[Α,Δ,Ψ] at ha;rcases ha with rfl|rfl|rfl;exact .inl rfl;exact .inr 4e23;exact .inr (.inr 4e23)),(λ_ _ h=>look1 rfl h),(eC.free rfl rfl rfl rfl rfl 6e25 rfl 6e0 rfl (λj hj=>by rw[show j=2 by simpa using hj];exact⟨_,rfl,rfl,.inl rfl⟩)),pix aN pv0 pv3,T.r 55,aQ (pcl IH 9e25 (pa3 (pix aN 8e25 aB) (bE jL pv4 (aX 2e18)) pv2)),(dS ⟨t.aO,t.aP,t.aJ⟩ true (λm=>∃x y s,m=.order x y s\/m=.child x y s)),Kp.new h1,(((K1.trans K2).trans 2e26).trans (K3.trans K4)).trans 4e10,pcl IH 0e8 (pa2 pv0 (bE jK pv1 aB)),(dC S.ans ws).map V.int,.lst 5e26,(.ins t.aP wx [("blocks",.ref lb),("numbers",.ref ln)]),(λz=>ZG (z▸ha)),(λa ha _ e=>KS.at1 e 8e26),.inr "open",aR Yy 0e27 (.ref o2),aR Vn 0e27 (.ref o2),8e26,(Fm.ofK KM λb hb=>?_),((Fm.of N1).trans 4e27),(.lst [.str m.kw,.ref a0,.ref ph,.UL]),T.r 16,(aQ (pmt0 3e15 T.cY (iK T) 7e27)),(by simp only[Γ,Ξ,Ε,ϔ];omega),Kp.new Y5,(Kp.new hle).trans 0e28,r.map wv,T.r 15,pmt0 pv0 T.cY (gF T) 3e28,(by simp only[Say.depth];omega),.int ((p+1:Nat):Int),(by rw[bJ,bZ];simp[FC.cells]),(.lst [.ref ht,.ref Xr,.UL]),aR Vn (.inr "arg") (wv w),(.tup [.str "ended",wv w]),(l++[(n:Int)]).map V.int,(λ_ _ _ z=>by cases z),UK H3 c (.lst 6e24),(λ_ _ _ e=>N1.at e),dJ aE (pa3 aE aE aE),(UK G4 l5 (.tup 5e2)),F3.trans 7e20,(Fm.of N2).trans W',(fH (cB S.nm x 0e7)),(fH (cB S.nm x 8e1)),(dR (ptc aY 2e1 aB)),(by rw[et];exact O1),(by rw[et];exact F),(lA 2 (oT hr 6e0)),gW hC.ex (kN ee),(λb o e hb=>?_),aL T.aM T.gR pv0,(Dq 1 (oT hr 6e0)),F3.free (dA h4),(z▸aW.2.2.2.2),ptc jX pv3 aB,ptc aY pv4 aB,ptc aY pv2 aB,(eR).trans c3,(eR).trans c1,(z▸aW.2.2.1),(λ_ _=>rfl),M1.nop Vz Yc,.dK (iD ans),K6.trans K7,pdg pv3 aE,aD.nil KZ,aD.nil K2,Kp [] H G,D4.new h5,A3.tkp F3,A2.tkp F2,NZ.at eh,A3.kp N3,A1.kp N3,fH S.nm,aF e Wx,K3.at e,.ref pt,.ref p3,.lst xs,.lst ut,.lst un,some 2,T.r 64,T.r 63,T.r 58,T.r 56,T.r 53,T.r 40,T.r 36,T.r 29,T.r 10,FC×Fr,.ref l,.int n,.int j,.int i,8e13,1e14,(cS G A0.md A0.nd A0.od A0.dd V8 S/\G a=some (.tup [.str "wait",.str x,.ref pp])/\G p2=some (.lst 5e26)/\G p3=some (.lst 5e2)/\Kp [A0.md] G1 G/\aD G1 G),pix aN (pix aN pv0 4e5) (bE cH aB (bR gO rfl T.yJ lY (pa1 (pcr nN (pix aN (pix aN pv0 4e5) aB) cK)))),(Fm.set (b:=A1.md) (o:=.dK (aR Vn 3e1 (.int (((p1+1:Nat):Int):Int)))) (.inl aW.1)),.int (((p1+1:Nat):Int):Int),(aI (aK (aX (dJ aE (pa3 4e14 (pix aN 2e5 2e1) (pcl 3e11 0e8 0e14)))))),(qA PySem.F.slot_list_pop PySem.F.type_list_pop Aq (pdg 7e0 3e0) 2e18),ns.map V.str,(.lst [.str "jump",.UL,.ref ph,.int ((as.length+new.length:Nat):Int)]),(dS ⟨t.aO,t.aP,t.aJ⟩ true (λm=>∃s k r,m=.send s k r)),(λC s H ex pn=>⟨j4 (dQ iT 0e2 3e6 6e2) ,0e2 ⟩),(dS ⟨t.aO,t.aP,t.aJ⟩ true (λm=>∃x ss,m=.wait x ss)),(dS ⟨t.aO,t.aP,t.aJ⟩ true (λm=>∃x s,m=.set x s)),(dS ⟨t.aO,t.aP,t.aJ⟩ true (λm=>∃x s,m=.UX x s)),(dS ⟨t.aO,t.aP,t.aJ⟩ true (λm=>∃x k,m=.UP x k)),(dS ⟨t.aO,t.aP,t.aJ⟩ true (λm=>∃s,m=.drop s)),(aI (aK (aX (pa3 aE 4e14 (pcl 3e11 0e8 0e14))))),(dS ⟨t.aO,t.aP,t.aJ⟩ true (λm=>∃s,m=.fin s)),(ppt pv0 aE (bF 1e13 rfl T.A8 oP (pa2 7e0 pv4))),(pcl IH (T.r 1) (dJ 4e2 (dJ pv1 (pa3 pv2 pv3 pv4)))),(.tup [.str "timer",.int S.made,.int (uN S.nw 8e1)]),.dK (aR kvs (.inr "made") (.int ((S.made:Int)+1))),(mM hu (aL T.aM T.gR 3e6) 0e2 7e31),(mM hu (aL T.aM T.gD 3e6) 0e2 7e31),UK H ln (.lst ((l++[((n+1:Nat):Int)]).map V.int)),(pif 3e31 (aI (aK (aX (pa2 aE 4e26))))),pcl 8e24 4e18 (pa2 (pix aN pv4 aB) pv0),(aI (aQ (pmt 3e15 T.cY (pT T) (T.r 17) 2e18))),S.worth r,(.tup [.str "send",wv 8e1,.str k,wv 3e38]),(Kp.new m1 (o:=.lst [.str "wait",.str "hear"])),(.tup [.str "order",.int S.made,.str y,wv 8e1]),(.tup [.str "child",.int S.made,.str y,wv 8e1]),(pcl 1e1 0e1 (pa2 pv0 (bE cH 9e3 aB))),(pY (v:=.int 1000000000) rfl T.lZ ⟨_,rfl⟩),(aK (aX (pa2 aE (pcl 3e11 0e8 0e14)))),(by rw[show a=p2 by simpa using ha];exact Xy),aD.nil (((NL.trans K3).trans NP).trans Kt),(.tup [.ref u1,.str (S.take x).1.dat.shown]),((K2.trans K3).trans K4).trans 1e23,(λa ha o e=>KE _ _ (λz=>npn 5e4) e),(λa ha _ e=>KS.at1 e (λz=>nc5 5e4)),(pmt pv0 T.aM (lK T) (T.r 43) (pa1 3e0)),(pix aN (pix aN (pix aN 7e0 7e0) aB) aB),(λa ha o e=>KE _ _ (λz=>Zf 5e4) e),aQ (pcl (BN T) (T.r 62) (pa2 pv0 pv2)),(.lst ((I++[x]).map λx=>.ref x.1.fa)),(Fw.set (p:=l) (o:=.lst 2e28) (.inr Xd)),(Fw.set (p:=l) (o:=.lst 7e15) (.inr Xd)),.tup ((pt++[(i:Int)]++[0]).map V.int),(λb o e hb=>KM.at1 e (F1.far hb).1),(bB S.ans ws=none/\bK S.pend ws≠[]),(M7.as ⟨rfl,rfl,rfl,rfl,rfl,rfl⟩),(aQ (pmt0 6e3 T.bG (jW T) (T.r 11))),aK (pmt0 pv0 T.aM (vS T) (T.r 37)),(.lst [.str "jump",.UL,.ref ph,.UL]),(S.pend++[(S.made:Int)]).map V.int,(pcl (pV T) (T.r 57) (pa2 pv0 3e0)),(aI (aQ (pcl (pU T) (T.r 51) 5e3))),(λz=>by rw[z] at l0;simp at l0),(.tup [.str "ended",.str "worn"]),zD pv0 5e18 5e18 5e18,(Z=[some 1e4,some 9e5,v2,v3,v4]),(dC S.ans ws).map V.int++[.UL],((Fm.ofK KF λb hb=>?_).od Z6),pmt0 pv5 T.aM (gT T) 8e19,(pcl IH 4e18 (pa2 4e2 pv1)),j5 t.aO R (.ref p6) S.ar S.nw,(aI (aK (aX (pa3 aE pv2 6e14)))),((∀a∈fl::dW 9e1,H a=none)),(p1:Int)=((jF P0).length:Int),((as++3e4++U6++[pj]).map V.ref),as.length+new.length+bV b'+2,(.tup [.str "letter",.int m]),(by rw[aC n1.symm];exact aA),(0<=h.m/\h.m<=1000000000000),(.tup [.str "begin",.int m]),.int ((p1+bV b+2:Nat):Int),rR (pix aN pv2 pv6) aB w9,(ptc aY (pix aN 0e5 aB) aE),j5 t.aO R (.UL) S.ar S.nw,(.tup [.str "drop",.int i]),(.tup [.str "done",.int m]),(UK H4 p2 (.tup [v,u,u2])),(S.lt++[(k,([]:List Wo))]),.lst (ws.map wv++[wv w]),(UK GW1a A1.md (.dK 2e27)),Int.emod_lt_of_pos _ m0,(dR (dQ iT 3e0 7e0 6e2)),(UK G5 A0.dd (.lst 9e20)),(UK G2a A0.md (.dK 5e6)),(UK G2a A0.md (.dK 1e27)),(KK.trans (N2.mono 0e0)),(A1.uU W2 (K2.mono 0e0)),(.tup [.str "end",wv w]),(UK G5 A0.nd (.dK 7e14)),(UK G2 A0.nd (.dK 1e2)),(UK G2 A0.md (.dK 5e6)),(.tup [.str kx,.int g]),(.lst (8e8++[.int nx])),.int ((p1+1:Nat):Int),.inr (.inr (.inr ha)),(λh=>.inr (.inl h)),(λa _ o h=>N2.at h),as.length+new.length,aD.nil (NL.trans Kt),List.cons_ne_nil _ _,(UK H1 od (.lst 5e8)),(.dK (aR U7 3e1 6e28)),(Fm.of NQ).trans W',kp1T YH (KZ.at eG),(λ_ H1=>Q .UL H1),(fH (cB S.nm n 0e7)),(by simp[Fa.mut,a5]),(by rw[e0];exact ok),(by rw[W'.nk];omega),(.tup [.int i,wv w]),.tup (.str kd::xs),(by simpa using hm),(by simpa using Zp),(by simp[Fa.mut,y]),(by rw[Γ2];decide),(by rw[e0];exact W),(.tup [.UL,.int 0]),.int (S.made:Int),pix aN (pv 9) aB,(lA 4 (oT hr 6e0)),aL T.bG T.gQ pv0,aL T.aM T.y9 pv0,.int ((p:Int)+1),(by split<;>simp),A1.cs.map V.ref,z.2.b2.getD [],y.2.b2.getD [],(by simp[a1,a5]),(by rw[eG];simp),Str.ofString j,AD pv4 (mN aB),.inr "awaited",ws++[V.ref p],ptc mJ pv3 cK,ptc jX pv2 aB,pcr aY pv2 aE,hks n (ϒ en),(by rw[hn];rfl),S1.bD.worth s,2+2 * (i:Int),.int (p':Int),.cons Zr .nil,(eR).trans d3,(eR).trans d1,(eR).trans c2,rR pv0 aB w9,ms.map V.int,S.ans.take i,I'++[y]++[x],.int (i:Int),.iff s b' o',some j∈ws,pa2 pv0 pv4,(by simp[hb]),(aQ (tS 3e12)),(aI (aK 8e0)),(aI (aK 0e5)),(aI (aK 4e2)),W2.trans W',TM.trans T4,N1.trans N2,K2.trans K3,F2.trans F4,F2.trans F3,F1.trans F3,A2.Bp T3 K4,.ltr m k0 w,pa2 pv3 aB,Or.inr rfl,Np rv R.da,Kp.new hr',F6.free hc,F4.free hc,300 - many,.lst [.UL],h.2.at el,(λz=>?_),aD.nil NR,aD.nil NQ,aD.nil N2,aD.new h2,V.ref R.x,Kp.new hc,Kp.new h9,Kp.new h6,Kp.new h4,D6.new h6,D5.new h2,.str "on",.ref R2.x]
variable{P:Program}{w:World}{K:q0B}(T:Tx P w base K mg t)
theorem oW:Ok T 9e24 1 JM:=by
 nomatch T.r 44
 ·obtain⟨z,k,rfl,_⟩:=h;rfl
 ·obtain⟨z,k,rfl,q⟩:=h
  nomatch (pss2 (pif (ptc RW pv0 9e3) (aI (aK (aT (pa3 (bE jK pv0 9e3) aB pv1))))) (aK (aT (pa3 pv0 aB pv1)))),0
  wp_walk;split
  ·exact λr hr'=>q r _ hr' 2e53 ⟨_,_,_,aA,by omega,by omega⟩
  ·exact λr hr'=>q r _ hr' 2e53 ⟨_,_,_,aA,by omega,by omega⟩
theorem aV:Ok T 0e1 1 ER:=by
 nomatch T.r 45
 ·obtain⟨r,m,n,rfl,_⟩:=h;rfl
 ·obtain⟨r,m,n,rfl,m0,m1,⟨c,f,s,hr0,s0,s1⟩,hn,q⟩:=h
  nomatch (aG (lD (bE cH 4e2 aB) 7e50) (aG (pif (ptc aY 4e2 aB) (pss3 (pst 2 (bE wF 4e2 pv1)) (lD (bE BS 4e2 pv1) 7e50) 3e18)) (pss3 (pst 3 (bE wF (bE cH 4e2 (bE mK aB 4e2)) aB)) (pst 3 (bE wF (bE mK pv3 pv3) aB)) (aK (bE wF (bE BS (bE wF (bE mK pv3 (bE cH (bE cH pv3 aB) (bE mK aB 4e2))) aB) aB) pv1))))),0
  exists hr0,ix32
  split
  ·exact⟨m0,⟨m0,log2_lt m0 m1⟩,q _ _ (Int.emod_nonneg _ 1e0) 2e44 ⟨_,_,_,aA,by omega,by omega⟩ ((Kp.set 0e0).trans (Kp.set 0e0))⟩
  ·exact⟨Eu 6e0 6e0,MO 6e0 6e0 _,MO 6e0 6e0 _,⟨by decide,by decide⟩,m0,q _ _ (Int.emod_nonneg _ 1e0) 2e44 ⟨_,_,_,aA,by omega,by omega⟩ (Kp.set 0e0)⟩
theorem pU:Ok T (T.r 51) 1 JL:=by
 nomatch T.r 51
 ·obtain⟨fl,I,x,y,i,s,rfl,_⟩:=h;rfl
 ·obtain⟨fl,I,x,y,i,s,rfl,F,hh,hl,q⟩:=h;have hu:=nZ hr
  nomatch (pss2 (lD (tS pv0) (Js rfl (fQ (pgn 1) (fQ (pgn 2) (fQ 2e25 tU))))) (fY (ptc aY 3e0 aE) (aI (aQ (dM 7e35 (bE jL pv1 (aX (pa2 1e20 (bR eJ rfl T.iB fB (pa1 (PQ pv3 (mN 8e0)))))))))) (aI (aQ (dM 7e35 (bE jL pv1 (aX (pa1 1e20)))))))),0
  have la:=LK 9e1 y;have ld:=FV 9e1 y;have ef:=F.e;obtain⟨P1,FY⟩:=F.pop;obtain⟨hv,Wf,e1,e2,e3,e4,e5⟩:=FY;rw[hh] at e2;obtain⟨ha,sv,rfl,eh,hS⟩:=e2;have K1:Kp (fl::x.1.cells) H (UK H fl 1e40):=Kp.set 0e0;left
  exists ef,la,ld
  refine⟨_,fV.of e1,rfl,?_⟩;generalize UK H fl 1e40=G1 at *;wp_walk;right;obtain⟨ux,ex⟩:=(P1.fr x 0e0).cu;obtain⟨hvx,usx,x1,_⟩:=P1.fr x 0e0;have ep:=P1.e;have l1:=Ep I x;have tl:∀(m:Stm) (p:Addr) (GP:Hp) (Kc:VK) (ys:List V),m=fF y.2 i s->GP p=some (.tup ys)->ys.length<=4->(∀pt Gt,Gt pt=some (.tup ([.str (if i=true then "if" else "while"),sv]++ys))->Kp [] GP Gt->cF Gt 4e33 m)->Kp [] G1 GP->(∀pt Gt us,Gt x.1.cur=some 0e18->us.length < 16777216->Q .UL (UK Gt x.1.cur 2e7)->Kc 4e33 Gt)->uB (.ref ha) 2e4 GP Kc:=λm p GP Kc ys em ep ly hm KP k=>by
   refine zW (KP.at eh) ep 0e22 λpt Gt et Kt=>?_;subst em;have KT:=KP.trans Kt;obtain⟨us,b,c1,c2,c3,c4,c5⟩:=(P1.kp KT).app (hm pt Gt et Kt);have lu:=c2.len;have lx:=hl x 0e0;refine k _ _ _ c1 ?_ (q _ c5 (λz o e n=>?_))
   ·rcases c3 with rfl|c3
    ·omega
    ·rw[c3] at lx;have:b.length<=1000:=lx.2;omega
   ·rw[aC (λy=>n (by rw[y];exact Ρ _ c4))];exact KT.at (K1 z o e n)
  clear q P1 F la ld ef hl;cases i with
  | true =>
   replace eh:G1 ha=some (.tup [.str "if",sv]):=eh
   exists eh,ep,l1,x1,CV,ex,e3
   refine λl hl=>?_;generalize hg:UK G1 l (.tup Wf)=G2;have NL:Kp [] G1 G2:=hg▸Kp.new hl;have el:G2 l=some (.tup Wf):=hg▸aA;clear hg;have ny:∀(q2 p:Addr) (WB:List V) (G3:Hp) (Kc:VK),G3 q2=some (.tup WB)->bY G3 WB 8e48->Kp [] G2 G3->G3 p=none->(∀pt Gt us,Gt x.1.cur=some 0e18->us.length < 16777216->Q .UL (UK Gt x.1.cur 2e7)->Kc 4e33 Gt)->uB (.ref ha) 2e4 (UK G3 p (.tup [.ref l,.ref q2])) Kc:=λq2 p WB G3 Kc z1 z2 K3 hp k=>by
    have NP:=q0D (o:=.tup [.ref l,.ref q2]) hp;refine tl _ p _ Kc [.ref l,.ref q2] rfl aA 0e0 (λpt Gt et Kt=>?_) ((NL.trans K3).trans NP) k;have TT:=aD.nil (NP.trans Kt);exact .iff et (hS.kp 2e39) (TT _ _ (K3.at el)) (e4.kp 2e39) (TT _ _ z1) (z2.kp TT)
   clear tl;cases hy2:y.1.f2 with
   | none =>
    have hb:y.2.b2.getD []=[]:=by
     rw[hy2] at e5;cases h:y.2.b2 with
     | none=>rfl
     | some b=>rw[h] at e5;exact e5.elim
    exists rv
    exact λle hle q2 Y5 p hp=>ny q2 p [] _ _ aA (by rw[hb];exact .nil) 1e28 hp λpt Gt us c1 c2 c3=>by rw[c1];exact⟨c2,c3⟩
   | some a2 =>
    rw[hy2] at e5;obtain⟨WB,e6,e7⟩:∃WB,G1 a2=some (.lst WB)/\bY G1 WB 8e48:=by
     cases h:y.2.b2 with
     | none=>rw[h] at e5;exact e5.elim
     | some b=>rw[h] at e5;obtain⟨us,e6,e7⟩:=e5;exact⟨us,e6,e7⟩
    replace e6:=NL.at e6;replace e7:=e7.kp 0e23
    exists rv,e6
    split
    ·exact λq2 Y5 p hp=>ny q2 p WB _ _ aA (e7.kp (aD.nil 0e28)) 0e28 hp λpt Gt us c1 c2 c3=>by rw[c1];exact⟨c2,c3⟩
    ·next ht =>
     have hu:WB=[]:=by cases WB<;>simp at ht ⊢
     subst hu;exact λle hle q2 Y5 p hp=>ny q2 p [] _ _ aA (e7.kp (aD.nil 1e28)) 1e28 hp λpt Gt us c1 c2 c3=>by rw[c1];exact⟨c2,c3⟩
  | false =>
   replace eh:G1 ha=some (.tup [.str "while",sv]):=eh
   exists eh,ep,l1,x1,CV,ex,e3
   refine λl hl p hp=>?_;have NL:=(q0D (o:=.tup Wf) hl).trans (Kp.new (o:=.tup [.ref l]) hp);exact tl _ p _ _ [.ref l] rfl aA 0e0 (λpt Gt et Kt=>.U4 et (hS.kp 0e46) (Kt.at ((q0D hp).at aA)) (e4.kp 0e46)) NL λpt Gt us c1 c2 c3=>by rw[c1];exact⟨c2,c3⟩
theorem gK:Ok T (T.r 46) 2 EO:=by
 nomatch T.r 46
 ·obtain⟨r,n,rfl,_⟩:=h;rfl
 ·obtain⟨r,n,rfl,hR,hn,q⟩:=h
  nomatch (aI (aK (pix aN (aT 5e29) 2e1))),0
  wp_walk;refine λp hp=>⟨_,hR.new hp,by omega,λg H1 a1 b1 R1 K1=>?_⟩
  exists made1 K1 hR hp
  refine iV a1 b1 λv hv=>?_;have K:=(Kp.new (S:=[r]) hp).trans K1;simp only[Α,Δ,Ψ] at hv;rcases hv with rfl|rfl|rfl|rfl<;>exact q _ _ (by simp[L20]) R1 K
theorem AU{d:Nat}(hn:3<=n)(IH:gH P w K mg base VD n (t.a 48) (t.d 48) ["deck","deep"] (AQ d)):Ok T 0e8 (n+1) (AQ (d+1)):=by
 nomatch T.r 48
 ·obtain⟨r,dp,n,rfl,_⟩:=h;rfl
 ·obtain⟨r,dp,n0,rfl,d1,d2,hR,hn0,q⟩:=h
  nomatch (aG (pst 2 2e1) (aG (pif 6e49 (aI (aK (aX (pa2 aE 4e14))))) (aG (pif (PW.pt (zE 6e49 (wL 8e21))) (aI (aK (pix aN (aT (dJ (aX (pa2 aE 2e1)) (dJ 6e10 (pa3 6e10 6e10 (aX (pa2 aE 4e5)))))) 2e1)))) (aG (pif 3e31 (aI (aK (aX (pa2 aE (pix aN (aT (dJ 9e3 (pa3 (fX eD 9e3) aB aB))) 2e1)))))) (aG 0e38 (pss3 0e38 (pst 3 4e26) (aK (aX (pa3 (pix aN (aT (dJ aE 5e29)) 2e1) pv3 4e26))))))))),0
  left;wp_walk;have bp:=Nv d;have be:bd (d+1)=2 * bd d+3:=rfl;refine⟨_,hR,by omega,λg H1 a1 b1 R1 K1=>?_⟩;right;left;wp_walk;split
  ·refine⟨_,R1,by omega,λx H2 _ R2 K2=>?_⟩;wp_walk;exact λp hp=>q _ (.name x) _ (.name aA) trivial 0e9 ((R2.new hp).up 1e0) 7e19
  right;left;wp_walk;simp only[Ub];split
  ·refine⟨_,R1,by omega,λg2 H2 a2 b2 R2 K2=>?_⟩;wp_walk;refine λp1 h1 p2 h2 p3 h3 p4 h4 p5 h5 p6 h6=>⟨_,(((((R2.new h1).new h2).new h3).new h4).new h5).new h6,by omega,λg3 H3 a3 b3 R3 K3=>?_⟩;have q1:=(R2.none h1);have q2:=((R2.new (o:=.tup [.str "number",.int g2]) h1).none h2);have q3:=(((R2.new (o:=.tup [.str "number",.int g2]) h1).new (o:=.tup [.str "none"]) h2).none h3);have q4:=((((R2.new (o:=.tup [.str "number",.int g2]) h1).new (o:=.tup [.str "none"]) h2).new (o:=.tup [.str "arg"]) h3).none h4);have q5:=(((((R2.new (o:=.tup [.str "number",.int g2]) h1).new (o:=.tup [.str "none"]) h2).new (o:=.tup [.str "arg"]) h3).new (o:=.tup [.str "now"]) h4).none h5);have q6:=((((((R2.new (o:=.tup [.str "number",.int g2]) h1).new (o:=.tup [.str "none"]) h2).new (o:=.tup [.str "arg"]) h3).new (o:=.tup [.str "now"]) h4).new (o:=.tup [.str "number",.int (-7)]) h5).none h6);have N6:=q0D (o:=.lst [.ref p1,.ref p2,.ref p3,.ref p4,.ref p5]) h6;have N5:=(q0D (o:=.tup [.str "number",.int (-7)]) h5).trans N6;have N4:=(q0D (o:=.tup [.str "now"]) h4).trans N5;have N3:=(q0D (o:=.tup [.str "arg"]) h3).trans N4;have N2:=(q0D (o:=.tup [.str "none"]) h2).trans N3;have N1:=(q0D (o:=.tup [.str "number",.int g2]) h1).trans N2;have t1:=K3.at1 (N2.at aA) q1;have t2:=K3.at1 (N3.at aA) q2;have t3:=K3.at1 (N4.at aA) q3;have t4:=K3.at1 (N5.at aA) q4;have t5:=K3.at1 (N6.at aA) q5;have t6:=K3.at1 aA q6;have K:=((K1.trans K2).trans (N1.mono (T:=[r]) 0e0)).trans K3
   exists t6
   refine iV a3 b3 λv hv=>?_;simp only[Α,Δ,Ψ] at hv;rcases hv with rfl|rfl|rfl|rfl|rfl
   ·exact q _ (.num g2) _ (.num t1) ⟨by omega,by omega⟩ 0e9 (R3.up 1e0) K
   ·exact q _ .UL _ (.UL t2) trivial 0e9 (R3.up 1e0) K
   ·exact q _ .arg _ (.arg t3) trivial 0e9 (R3.up 1e0) K
   ·exact q _ .now _ (.now t4) trivial 0e9 (R3.up 1e0) K
   ·exact q _ (.num (-7)) _ (.num t5) ⟨by decide,by decide⟩ 0e9 (R3.up 1e0) K
  rename_i hc
  right;left;wp_walk;split
  ·refine λp hp=>⟨_,R1.new hp,by omega,λg2 H2 a2 b2 R2 K2=>?_⟩
   exists made1 K2 R1 hp
   refine iV a2 b2 λv hv=>?_;wp_walk;refine λp2 h2=>?_;have K:=((K1.trans 4e10).trans K2).trans (Kp.new (o:=.tup [.str "number",v]) h2);simp only[Α,Δ,Ψ] at hv;rcases hv with rfl|rfl|rfl|rfl<;>exact q _ (.num _) _ (.num aA) ⟨by decide,by decide⟩ 0e9 ((R2.new h2).up 1e0) K
  right;left;wp_walk;split
  ·refine⟨r,dp - 1,_,rfl,by omega,by omega,R1,by omega,λv s H2 hv ok hdp R2 K2=>?_⟩;wp_walk;exact λp hp=>q _ (.ans s) _ (.ans aA 9e9) ok 5e28 ((R2.new hp).up 1e0) 7e19
  right;left;wp_walk;split
  ·refine⟨r,dp - 1,_,rfl,by omega,by omega,R1,by omega,λv s H2 hv ok hdp R2 K2=>?_⟩;wp_walk;exact λp hp=>q _ (.neg s) _ (.neg aA 9e9) ok 5e28 ((R2.new hp).up 1e0) 7e19
  right;left;wp_walk;refine⟨r,dp - 1,_,rfl,by omega,by omega,R1,by omega,λu s1 H2 VZ ok1 hd1 R2 K2=>?_⟩;right;wp_walk;refine λp hp=>⟨_,R2.new hp,by omega,λg3 H3 a3 b3 R3 K3=>?_⟩
  exists made1 K3 R2 hp
  refine iV a3 b3 λv hv=>?_;wp_walk;refine⟨r,dp - 1,_,rfl,by omega,by omega,R3,by omega,λu2 s2 H4 WA ok2 hd2 R4 K4 p2 h2=>?_⟩;have K:=(((K1.trans K2).trans 4e10).trans K3).trans (K4.trans (Kp.new (o:=.tup [v,u,u2]) h2));have T1:aD H2 8e43:=(((aD.new hp).trans ((R2.new hp).tk K3)).trans (R3.tk K4)).trans 2e54;have fin:∀gg:Sg,v=.str gg.s->Q 2e3 8e43:=λgg e=>by
   subst e;exact q _ (.two gg s1 s2) _ (.two aA (VZ.kp T1) (WA.kp 2e54)) ⟨ok1,ok2⟩ 5e28 ((R4.new h2).up 1e0) K
  simp only[Α,Δ,Ψ] at hv;rcases hv with e|e|e|e|e
  ·exact fin .add e
  ·exact fin .sub e
  ·exact fin .mul e
  ·exact fin .lt e
  ·exact fin .eq e
theorem c9(T:Tx P w base K mg t):∀d,gH P w K mg base VD (d+3) (t.a 48) (t.d 48) ["deck","deep"] (AQ d):=by
 intro d
 induction d with
 | zero=>exact⟨λ_ _ _ _ x=>by (obtain⟨_,_,_,_,h,h',_⟩:=x;exact absurd h 1e0),λ_ _ _ _ _ _ _ _ _ _ _ _ _ x=>by (obtain⟨_,_,_,_,h,h',_⟩:=x;exact absurd h 1e0)⟩
 | succ d ih=>exact AU T 1e0 ih
theorem BO:Ok T (T.r 49) 9 Cj:=by
 nomatch T.r 49
 ·obtain⟨r,n,rfl,_⟩:=h;rfl
 ·obtain⟨r,n,rfl,hR,hn,q⟩:=h
  nomatch (aG (pst 1 2e1) (aG (pif 8e21 1e37) (aG (pif 8e21 0e36) (aG (pif 5e10 1e37) (pss3 (pif 5e10 0e36) (pif 5e10 (aI (aK (aX (dJ aE (pa3 (pcl 3e11 0e8 0e14) (pix aN 2e5 2e1) (pcl 3e11 0e8 0e14))))))) 0e39))))),0
  left;wp_walk;have b4:bd 4=93:=rfl;refine⟨_,hR,by omega,λg H1 a1 b1 R1 K1=>?_⟩;right;left;wp_walk;split
  ·refine⟨_,R1,by omega,λx H2 hx R2 K2=>?_⟩;wp_walk;refine⟨r,4,_,rfl,by decide,by decide,R2,by omega,λv s H3 hv ok hd R3 K3 p hp=>?_⟩;exact q _ (.set x s) _ (.set aA 9e9) ⟨⟨ok,by omega⟩,rfl⟩ hx (((K1.trans K2).trans K3).trans 4e10)
  right;left;wp_walk;split
  ·refine⟨_,R1,by omega,λx H2 hx R2 K2=>?_⟩;wp_walk;refine λp1 h1=>⟨_,R2.new h1,by omega,λg3 H3 a3 b3 R3 K3=>?_⟩
   exists made1 K3 R2 h1
   refine iV a3 b3 λy hy=>?_;wp_walk;obtain⟨z,rfl⟩:∃z:Str,y=.str z:=by simp only[Α,Δ,Ψ] at hy;rcases hy with rfl|rfl<;>exact⟨_,rfl⟩
   refine⟨r,3,_,rfl,by decide,by decide,R3,by omega,λv s H4 hv ok hd R4 K4 p hp=>?_⟩;exact q _ (.order x z s) _ (.order aA 9e9) ⟨⟨ok,by omega⟩,rfl⟩ hx 3e26
  right;left;wp_walk;split
  ·refine⟨_,R1,by omega,λx H2 hx R2 K2=>?_⟩;wp_walk;refine⟨r,3,_,rfl,by decide,by decide,R2,by omega,λv s H3 hv ok hd R3 K3 p hp=>?_⟩;exact q _ (.UX x s) _ (.UX aA 9e9) ⟨⟨ok,by omega⟩,rfl⟩ hx (((K1.trans K2).trans K3).trans 4e10)
  right;left;wp_walk;split
  ·refine⟨_,R1,by omega,λx H2 hx R2 K2=>?_⟩;wp_walk;refine λp1 h1=>⟨_,R2.new h1,by omega,λg3 H3 a3 b3 R3 K3=>?_⟩
   exists made1 K3 R2 h1
   refine iV a3 b3 λy hy=>?_;wp_walk;obtain⟨z,rfl⟩:∃z:Str,y=.str z:=by simp only[Α,Δ,Ψ] at hy;rcases hy with rfl|rfl<;>exact⟨_,rfl⟩
   refine⟨r,3,_,rfl,by decide,by decide,R3,by omega,λv s H4 hv ok hd R4 K4 p hp=>?_⟩;exact q _ (.child x z s) _ (.child aA 9e9) ⟨⟨ok,by omega⟩,rfl⟩ hx 3e26
  right;left;wp_walk;split
  ·refine⟨r,2,_,rfl,by decide,by decide,R1,by omega,λv s H2 hv ok hd R2 K2=>?_⟩;wp_walk;refine λp1 h1=>⟨_,R2.new h1,by omega,λg3 H3 a3 b3 R3 K3=>?_⟩
   exists made1 K3 R2 h1
   refine iV a3 b3 λy hy=>?_;wp_walk;obtain⟨z,rfl⟩:∃z:Str,y=.str z:=by simp only[Α,Δ,Ψ] at hy;rcases hy with rfl|rfl<;>exact⟨_,rfl⟩
   refine⟨r,3,_,rfl,by decide,by decide,R3,by omega,λv2 s2 H4 WA ok2 hd2 R4 K4 p hp=>?_⟩;have T1:aD H2 (UK H4 p (.tup [.str "send",v,.str z,v2])):=(((aD.new h1).trans ((R2.new h1).tk K3)).trans (R3.tk K4)).trans 8e9;exact q _ (.send s z s2) _ (.send aA (hv.kp T1) (WA.kp 8e9)) ⟨⟨⟨ok,by omega⟩,ok2,by omega⟩,rfl⟩ trivial 3e26
  right;wp_walk;refine⟨r,2,_,rfl,by decide,by decide,R1,by omega,λv s H2 hv ok hd R2 K2 p hp=>?_⟩;exact q _ 1e18 _ (.drop aA 9e9) ⟨⟨ok,by omega⟩,rfl⟩ trivial 7e19
theorem Ax:Ok T (T.r 50) 12 JW:=by
 nomatch T.r 50
 ·obtain⟨r,n,rfl,_⟩:=h;rfl
 ·obtain⟨r,n,rfl,hR,hn,q⟩:=h
  nomatch (aG (pst 1 2e1) (aG (pif 8e21 (pss2 (lE (i:=2) (fr:=[0]) (N:=["k","deck"]) rfl 4e3 9e13 (nO rfl T.r8 (pa1 (bE cH aB 2e1))) (λC s H ex pn=>⟨AI,(Az 3e11 (hr.mono 1e0) rfl (T.r 48).m (T.r 48).fn.kp (T.r 48).bd .nil pass0 (dJ 3e6 (dJ aB bO))) ⟩) sc rfl 8e10) (aK (aX (pa3 aE 4e14 1e20))))) (pss3 (pif 5e10 (aI (aK (aX (pa3 aE 4e14 (pix aN 2e5 2e1)))))) (pif (PW.pt (eU 5e10 1e30)) (aI 0e39)) (aK (pcl (BO T) (T.r 49) 3e14))))),0
  have bb:bd 4=93:=rfl;left;wp_walk;refine⟨_,hR,by omega,λg G1 a1 b1 D1 K1=>?_⟩;wp_walk;right;left;refine cO λRI UR=>?_;wp_walk;split
  ·refine UR _ _ ?_;clear UR RI;left;wp_walk;refine⟨_,D1,by omega,λgm G4 a4 b4 D4 K4=>⟨⟨by omega,by omega⟩,?_⟩⟩;obtain⟨Pv,UT⟩:∃Pv:Nat->List V->Hp->Prop,∀i xs G,Pv i xs G = ∃ss:List Say,gJ G xs ss/\ss.length=i/\i<=4/\(∀s∈ss,s.sok)/\bM G r (n+2+93 * i)/\Kp [r] H G:=⟨_,λ_ _ _=>rfl⟩;refine IE (lo:=0) Pv ?_ ?_ ?_ ?_
   ·rw[UT];exact⟨[],.nil,rfl,by omega,by simp,D4,K1.trans K4⟩
   ·intro i xs G h;rw[UT] at h;obtain⟨ss,hS,lS,l3,_⟩:=h;have lv:=hS.Po;omega
   ·intro i xs G hi h;rw[UT] at h;obtain⟨ss,hS,lS,l3,hL,DG,KG⟩:=h
    exists bC,Β1
    refine⟨r,2,_,rfl,by decide,by decide,DG,by omega,λv s G5 hv ok hd D5 K5=>?_⟩;show Pv 6e1 _ _;rw[UT];refine⟨ss++[s],(hS.kp (DG.tk K5)).EN hv,by simp[lS],by omega,λy hy=>?_,D5.up 1e0,KG.trans K5⟩;rcases Κ.mp hy with hy|hy
    ·exact hL y hy
    ·rw[show y=s by simpa using hy];exact⟨ok,by omega⟩
   intro xs G h l hl;rw[UT] at h;obtain⟨ss,hS,lS,l3,hL,DG,KG⟩:=h;have nlr:=DG.none hl;have NL:=q0D (o:=.lst xs) hl;have el:UK G l 6e33 l=some 6e33:=aA;replace hS:=hS.kp 0e23;replace DG:=DG.kp NL;replace KG:=KG.trans (NL.mono (T:=[r]) 0e0);generalize UK G l 6e33=G8 at *;clear NL hl UT Pv;right;wp_walk;refine⟨_,DG,by omega,λx G9 hx D9 K9=>?_⟩;have el9:=K9.at1 el nlr
   exists el9
   refine λp8 h8 p9 h9=>?_;have N:=(q0D (o:=.tup xs) h8).trans (Kp.new (o:=.tup [.str "wait",.str x,.ref p8]) h9);exact q _ 7e12 _ (.wait aA ((q0D h9).at aA) (hS.kp ((DG.tk K9).trans 5e1))) ⟨⟨rfl,by omega,hL⟩,hx⟩ rfl ((KG.trans K9).trans (N.mono 0e0))
  clear UR RI;right;left;wp_walk;split
  ·refine⟨_,D1,by omega,λx G2 hx D2 K2=>?_⟩;wp_walk;refine λp1 h1=>⟨_,D2.new h1,by omega,λg3 G3 a3 b3 D3 K3=>?_⟩
   exists made1 K3 D2 h1
   refine iV a3 b3 λy hy=>?_;obtain⟨z,rfl,hz⟩:∃z:Str,y=.str z/\z∈L20:=by simp only[Α,Δ,Ψ] at hy;rcases hy with rfl|rfl<;>exact⟨_,rfl,by simp[L20]⟩
   wp_walk;intro p4 h4;exact q _ (.UP x z) _ (.UP aA) ⟨trivial,hx,hz⟩ rfl ((((K1.trans K2).trans 2e26).trans K3).trans 7e54)
  right;refine bU λR4 Yl=>?_;refine cO λRI UR=>?_
  suffices fin:(∀n' G,bM G r n'->n'<=n+2->Kp [r] H G->RI [some 2e13,some (.int g),none] G)/\(∀n' G,bM G r n'->n'<=n+2->Kp [r] H G->R4 [some 2e13,some (.int g),none] G) by
   wp_walk;split
   ·refine⟨_,D1,by omega,λg2 G2 a2 b2 D2 K2=>?_⟩;split
    ·exact fin.1 _ _ D2 1e0 3e22
    ·exact fin.2 _ _ D2 1e0 3e22
   ·exact fin.2 _ _ D1 1e0 K1
  refine⟨λn' G DG ln KG=>UR _ _ ?_,λn' G DG ln KG=>?_⟩
  ·clear UR RI;wp_walk;refine⟨r,3,_,rfl,by decide,by decide,DG,by omega,λv s G5 hv ok hd D5 K5=>?_⟩;wp_walk;intro p4 h4;exact q _ (.fin s) _ (.fin aA (hv.kp (aD.new h4))) ⟨⟨ok,by omega⟩,trivial⟩ rfl ((KG.trans K5).trans 7e54)
  ·clear UR RI;refine Yl _ _ ?_;clear Yl;clear R4;wp_walk;refine⟨r,_,rfl,DG,by omega,λv m G5 hm ⟨gm,Vm⟩ hx K5=>?_⟩;wp_walk;exact q _ m _ hm ⟨LF Vm gm,hx⟩ (RZ Vm) (KG.trans K5)
theorem yD:Ok T (T.r 52) 20 JU:=by
 nomatch T.r 52
 ·obtain⟨cl,ms,rfl,_⟩:=h;rfl
 ·obtain⟨cl,ms,rfl,ec,lm,q⟩:=h
  nomatch (aG (pst 1 (aT (pa1 (aT (pa3 cK 8e0 cK))))) (pss3 (AE Δ7 rfl (jY pv0) (pgn 2) (pss3 (pst 3 (pcl (oW T) 9e24 (pa2 pv2 aB))) (pst 4 (pcl 1e1 0e1 9e52)) (fY (PW.pt (eU (ptc jX pv4 aB) (dR (ptc jX 2e15 aB)))) (aI (aQ (dM pv1 (aT (pa3 (aX (pa2 (pix aN (aT 5e29) pv4) (pcl 3e11 0e8 9e52))) 8e0 cK))))) (aI (fY (PW.pt (eU 2e31 (dR (ptc Ez 2e15 aB)))) 3e41 (aI (fY (PW.pt (eU 2e31 (eU (ptc Ez 2e15 aB) (eU (ptc aY (pix aN (pix aN 0e12 aB) aB) aE) (dR (ptc mJ (pix aN 0e12 aB) cK)))))) (aI (lD 8e0 (rR 0e12 aB w9))) (aI (aQ (dM (pix aN 0e12 (bE cH aB (bR gO rfl T.yJ lY (pa1 (pcr nN (pix aN 0e12 aB) cK))))) (pcl (Ax T) (T.r 50) 6e23))))))))))) (qC Δ7 (ptc Ez 2e15 aB) 3e41) (aK (bR eJ rfl T.iB fB (pa1 (pix aN 3e0 aB)))))),0
  left;wp_walk;refine λf1 h1 fa h2 fl h3=>?_;have n1:fa≠f1:=λz=>by rw[z,aA] at h2;cases h2
  have n2:fl≠fa:=λz=>by rw[z,aA] at h3;cases h3
  have n3:fl≠f1:=λz=>by rw[z,aC n1.symm,aA] at h3;cases h3
  have e1:UK 7e11 fl 2e10 f1=some 2e0:=by rw[aC n3.symm,aC n1.symm,aA]
  have e2:UK 7e11 fl 2e10 fa=some 6e11:=by rw[aC n2.symm,aA]
  have e3:UK 7e11 fl 2e10 fl=some 2e10:=aA;have K1:Kp [] H (UK 7e11 fl 2e10):=((Kp.new h1).trans (Kp.new h2)).trans (Kp.new h3);have z2:H fa=none:=by rw[aC n1] at h2;exact h2
  have z3:H fl=none:=by rw[aC n2,aC n3] at h3;exact h3
  have F1:iL (UK 7e11 fl 2e10) fl ([]++[(⟨fa,f1,none⟩,⟨none,[],none⟩)]):=⟨e3,λx hx=>by
   rw[show x=(⟨fa,f1,none⟩,⟨none,[],none⟩) by simpa using hx];exact⟨.UL,[],e2,rfl,e1,.nil,trivial⟩,by simp[dW,FC.cells,n1,n2,n3]⟩
  have fr1:∀a∈fl::dW ([]++[((⟨fa,f1,none⟩:FC),(⟨none,[],none⟩:Fr))]),H a=none:=λa ha=>by
   simp only[Α3,dW,List.flatMap_cons,List.flatMap_nil,FC.cells,Option.toList_none,Ϝ,Α,Δ,Ψ] at ha;rcases ha with rfl|rfl|rfl
   ·exact z3
   ·exact z2
   ·exact h1
  generalize UK 7e11 fl 2e10=G1 at *;clear e1 e2 e3 h2 h3;right;left;wp_walk;have ec1:=K1.at ec;refine⟨⟨_,fV.of ec1⟩,?_⟩;obtain⟨Pv,UT⟩:∃Pv:Nat->St->Hp->Prop,∀i Z G,Pv i Z G=E5 fun(v2 v3 v4:Option V) (I:List 9e34) (x:FC×Fr)=>A7 7e41 (iL G fl 9e1) (GL 9e1) (AW 9e1<=2 * i+2) (I.length<=5) 4e42 4e32:=⟨_,λ_ _ _=>rfl⟩;refine Ik (xs:=ms.map V.int) Pv ?_ ?_ ?_ ?_
  ·rw[UT];exact⟨_,_,_,[],_,rfl,F1,(show GL [] from λj x e=>by simp at e).snoc ⟨⟨trivial,trivial⟩,⟨trivial,trivial⟩,by simp[oS],by simp[oS],λz=>absurd rfl z⟩,by simp[AW,bV],by simp,fr1,K1⟩
  ·intro i Z G _ h;rw[UT] at h;obtain⟨_,_,_,_,_,_,_,_,_,_,_,k⟩:=h;exact fV.of (k.at ec)
  ·intro i y Z G hi h;rw[UT] at h;obtain⟨v2,v3,v4,I,x,rfl,F,gl,sz,ll,fr,KG⟩:=h;obtain⟨z,rfl⟩:=LI hi;have hil:i < ms.length:=by have:=(Ν.mp hi).1;simpa using this
   have back:∀(v2 v3 v4:Option V) (I:List 9e34) (x:FC×Fr) (G':Hp),iL G' fl 9e1->GL 9e1->AW 9e1<=2 * 6e1+2->I.length<=5->(∀a∈fl::dW 9e1,H a=none)->Kp [] H G'->Pv 6e1 [some 1e4,some 9e5,v2,v3,v4] G':=λv2 v3 v4 I x G' x1 x2 x3 x4 x5 x6=>by
    rw[UT];exact⟨_,_,_,I,x,rfl,x1,x2,x3,x4,x5,x6⟩
   clear UT;left;wp_walk;refine⟨z,3,rfl,λdk G3 Wx K3 RD=>?_⟩;wp_walk;right;left;wp_walk;refine⟨_,RD,by omega,λkd G4 a4 b4 D4 K4=>?_⟩;have fdk:=F.free Wx;have Z5:H dk=none:=KG.cJ Wx;have KK:Kp [] G G4:=λb o e _=>K4.at1 3e33 2e33;replace F:=F.kp KK;replace KG:=KG.trans KK;wp_walk;right;have Wj:=F.e;have le:((I++[x]).map λx=>V.ref x.1.fa).length=I.length+1:=by simp
   have l1:=Ep I x;have FX:=F.fr x 0e0;have FX0:=FX;obtain⟨hvx,usx,x1,x2,x3,x4,x5⟩:=FX;have lsz:∀z∈I++[x],z.2.b1.length<=1000/\(z.2.b2.getD []).length<=1000:=λz hz=>by
    have:=DC hz;have:=kU z.2.b1;have:=kU 7e48;omega
   have gx:=gl.top;refine cO λRI UR=>?_;refine qT λRE VO=>?_
   suffices fin:(kd < 4->I.length < 5->RI [some 1e4,some 9e5,some 2e6,some 0e6,some 1e6] G4)/\RE [some 1e4,some 9e5,some 2e6,some 0e6,some 1e6] G4 by
    exists Wj,le
    split
    ·next h1 =>
     split
     ·next h2=>exact fin.1 h1 1e0
     ·exact fin.2
    ·exact fin.2
   refine⟨λk4 l5=>UR _ _ ?_,VO _ _ ?_⟩
   ·clear UR RI VO RE
    exists Wj
    refine λpl Vm=>?_;refine iV a4 0e22 λv hv=>?_;obtain⟨ib,rfl⟩:∃ib:Bool,v=.str 5e35:=by
     simp only[Α,Δ,Ψ] at hv;rcases hv with rfl|rfl|rfl|rfl
     ·exact⟨true,rfl⟩
     ·exact⟨false,rfl⟩
     ·exact⟨true,rfl⟩
     ·exact⟨true,rfl⟩
    have NP:=q0D (o:=.lst [.str "if",.str "while",.str "if",.str "if"]) Vm;have DP:=D4.kp NP;have FP:=F.kp NP;have KP:=KG.trans NP;have ab8:dk∉fl::dW 9e1:=fdk;generalize UK G4 pl (.lst [.str "if",.str "while",.str "if",.str "if"])=G5 at *;have bb:bd 4=93:=rfl;wp_walk;refine⟨dk,3,_,rfl,by decide,by decide,DP,by omega,λsv s G6 hs ok hd D6 K6=>?_⟩;have KX:∀b o,G5 b=some o->b≠dk->G6 b=some o:=λb o e n=>K6.at1 e n;have F6:=FP.keep (λa ha o e=>KX a o e (λz=>fdk 5e4)) (DP.tk K6);have KH6:Kp [] H G6:=λb o e _=>KX b o (KP.at e) (aF e Z5);wp_walk;refine λht h1 Xr h2 YQ h3=>?_;have N1:=q0D (o:=.tup [.str 5e35,sv]) h1;have N2:=q0D (o:=.lst []) h2;have N3:=q0D (o:=.lst [.ref ht,.ref Xr,.UL]) h3;have m1:=((F6.kp N1).kp N2).free h3;have m2:=(F6.kp N1).free h2;have z1:H Xr=none:=(KH6.trans N1).cJ h2;have z2:H YQ=none:=((KH6.trans N1).trans N2).cJ h3;have m3:YQ≠Xr:=λz=>by rw[z,aA] at h3;cases h3
    have NN:=(N1.trans N2).trans N3;have eh:=N3.at (N2.at (show UK G6 ht 2e14 ht=some 2e14 from aA));have e2:=N3.at (show UK (UK G6 ht 2e14) Xr 2e0 Xr=some 2e0 from aA);have e1:UK (UK (UK G6 ht 2e14) Xr 2e0) YQ 8e28 YQ=some 8e28:=aA;generalize UK (UK (UK G6 ht 2e14) Xr 2e0) YQ 8e28=G7 at *;have F7:=(F6.kp NN).push e1 e2 (h:=some (ib,s)) ⟨ht,sv,rfl,eh,hs.kp (aD.nil NN)⟩ m1 m2 m3;have aaX:=(F6.kp NN).e
    exists aaX
    refine⟨by rw[le];omega,?_⟩;rw[show((I++[x]).map λx=>V.ref x.1.fa)++[V.ref YQ]=(9e1++[((⟨YQ,Xr,none⟩:FC),(⟨some (ib,s),[],none⟩:Fr))]).map λx=>V.ref x.1.fa by simp];refine back _ _ _ 9e1 _ _ F7 (gl.snoc ⟨⟨trivial,trivial⟩,⟨trivial,trivial⟩,by simp[oS];omega,by simp[oS];omega,λ_=>⟨ib,s,rfl,ok,by omega⟩⟩) ?_ 0e22 (λb hb=>?_) (λb o e _=>by
     rw[aC (aF e (fr fl 0e0))];exact NN.at (KH6.at e))
    ·rw[lF,lG];show AW 9e1+(bV []+bV []+2)<=_;have:bV []=0:=by simp[bV]
     omega
    ·rw[bJ,bZ] at hb;rcases Α.mp hb with hb|hb
     ·exact fr b 5e51
     ·rcases Κ.mp hb with hb|hb
      ·exact fr b 5e51
      ·simp only[FC.cells,Option.toList_none,Α,Δ,Ψ] at hb;rcases hb with rfl|rfl
       ·exact z2
       ·exact z1
   ·clear UR RI VO RE;refine cO λRI UR=>?_;refine qT λRE VO=>?_
    suffices fin:(0 < I.length->RI [some 1e4,some 9e5,some 2e6,some 0e6,some 1e6] G4)/\RE [some 1e4,some 9e5,some 2e6,some 0e6,some 1e6] G4 by
     exists Wj,le
     split
     ·split
      ·next h2=>exact fin.1 1e0
      ·exact fin.2
     ·exact fin.2
    refine⟨λl0=>UR _ _ ?_,VO _ _ ?_⟩
    ·clear UR RI VO RE;obtain⟨I',y,rfl⟩:∃I' y,I=I'++[y]:=⟨I.dropLast,I.getLast 4e41,(List.dropLast_concat_getLast _).symm⟩;obtain⟨i0,s0,hh,hs0⟩:=gx.2.2.2.2 1e0;wp_walk;refine⟨fl,I',y,x,i0,s0,rfl,F,hh,lsz,λG5 F5 K5=>?_⟩;obtain⟨c1,c2⟩:=DU gl hh hs0;refine back _ _ _ I' _ G5 F5 c1 1e0 (by rw[Ξ] at ll;simp at ll;omega) (λa ha=>fr a ?_) ?_
     ·rw[bJ,bZ] at ha;rw[bJ,bJ,bZ];rcases Α.mp ha with ha|ha
      ·simp[ha]
      ·rcases Κ.mp ha with ha|ha
       ·simp[ha]
       ·simp[show a∈y.1.cells from ha]
     ·intro b o e _;refine K5 b o 0e24 8e53;have:b∈fl::dW 0e51:=by
       rw[bJ,bJ,bZ];rcases Α.mp z with z|z
       ·simp[z]
       ·simp[z]
      rw[fr b this] at e;cases e
    ·clear UR RI VO RE;refine cO λRI UR=>?_;refine qT λRE VO=>?_
     suffices fin:(0 < I.length->x.1.f2=none->RI [some 1e4,some 9e5,some 2e6,some 0e6,some 1e6] G4)/\RE [some 1e4,some 9e5,some 2e6,some 0e6,some 1e6] G4 by
      by_cases l0:0 < I.length
      ·obtain⟨i0,s0,hh,hs0⟩:=gx.2.2.2.2 1e0;rw[hh] at x2;obtain⟨ha,sv,rfl,eh,hS⟩:=x2
       exists Wj,le,l1,x1,eh
       repeat' split
       all_goals first|exact fin.2|exact fin.1 l0 (P2 ‹_›)
      ·skip
       exists Wj,le
       split
       ·rw[if_neg 1e0];exact fin.2
       ·exact fin.2
     refine⟨λl0 f0=>UR _ _ ?_,VO _ _ ?_⟩
     ·clear UR RI VO RE;rw[f0] at x1;replace x1:G4 x.1.fa=some (.lst [hvx,.ref x.1.f1,.UL]):=x1
      exists Wj,l1,x1
      refine λa ha=>?_;generalize hg:UK G4 a 2e0=G5;have NA:Kp [] G4 G5:=hg▸Kp.new ha;have ea:G5 a=some 2e0:=hg▸aA;clear hg;have na:=F.free ha;replace F:=F.kp NA;replace Wj:=NA.at Wj;replace x1:=NA.at x1;have fa0:H a=none:=KG.cJ ha;replace KG:=KG.trans NA;have F5:=F.snd f0 x1 ea na
      exists Wj,l1,x1
      rw[show x9 3 2=some 2 from rfl];show Pv 6e1 _ (UK G5 x.1.fa (.lst [hvx,.ref x.1.f1,.ref a]));obtain⟨g1,g2,g3,g4,g5⟩:=gx;have hb:x.2.b2=none:=by
       cases h:x.2.b2 with
       | none=>rfl
       | some b=>rw[f0,h] at x5;exact x5.elim
      rw[hb] at g2 g4;refine back _ _ _ I _ _ F5 (gl.init.snoc ⟨g1,g2,g3,g4,g5⟩) ?_ ll (λb Vl=>?_) (λb o e _=>by
       rw[aC (λz=>by
        rw[z,fr x.1.fa 7e28] at e;cases e)]
       exact KG.at e)
      ·have:=sz;rw[lF,lG,hb] at this;rw[lF,lG];show AW I+(bV x.2.b1+bV (([]:List Stm))+2)<=_;have h0:bV ((none:Option (List Stm)).getD [])=bV ([]:List Stm):=rfl;omega
      ·rw[bJ,bZ] at Vl;rcases Α.mp Vl with Vl|Vl
       ·exact fr b (by simp[Vl])
       ·rcases Κ.mp Vl with Vl|Vl
        ·exact fr b (by rw[bJ];simp[Vl])
        ·simp only[FC.cells,Α5,Α,Δ,Ψ] at Vl;rcases Vl with rfl|rfl|rfl
         ·exact fr _ 7e28
         ·exact fr _ 7e28
         ·exact fa0
     ·clear UR RI VO RE;obtain⟨ux,ex⟩:=FX0.cu
      exists Wj,l1,x1,CV,ex
      refine⟨dk,_,rfl,D4,by omega,λv m G5 hm gm hB K5=>?_⟩;have F5:=F.keep (λa ha o e=>K5.at1 e (λz=>fdk 5e4)) (D4.tk K5);have KH5:Kp [] H G5:=λb o e _=>K5.at1 0e24 (aF e Z5);obtain⟨us,b,c1,c2,c3,c4,c5⟩:=F5.app hm;have lx:=lsz x 0e0;have lb:us.length<=1000:=by
       have lu:=c2.len;rcases c3 with rfl|c3
       ·omega
       ·rw[c3] at lx;have:b.length<=1000:=lx.2;omega
      have XM:H x.1.cur=none:=fr _ (by rw[bJ,bZ];simp[c4]);have dm:m.dp=0:=by cases m<;>first|rfl|cases hB
      have sm:m.sz=1:=J4 hB;have bk:Pv 6e1 [some 1e4,some 9e5,some 2e6,some 0e6,some 1e6] (UK G5 x.1.cur (.lst (us++[v]))):=back _ _ _ I _ _ c5 (gl.init.snoc (gx.add gm 1e0)) (by
       have ha:=Hk x.2 m;have:=sz;rw[lF,lG] at this ⊢;show AW I+(bV (x.2.add m).b1+bV ((x.2.add m).b2.getD [])+2)<=_;omega) ll (λb hb=>fr b (by
       rw[bJ,bZ] at hb ⊢;exact hb)) (λb o e _=>by rw[aC (aF e XM)];exact KH5.at e)
      exists c1
      exact⟨by omega,bk⟩
  intro Z G h;rw[UT,Γ] at h;obtain⟨v2,v3,v4,I,x,rfl,F,gl,sz,ll,fr,KG⟩:=h;clear UT;right;left;refine HJ λtb ZA=>?_;obtain⟨Y,hY⟩:∃Y:Nat->St->Hp->Prop,∀m Z G,Y m Z G=E2 fun(I:List 9e34) (x:FC×Fr)=>A7 7e41 (iL G fl 9e1) (GL 9e1) (AW 9e1<=2 * ms.length+2) 4e42 4e32 (m=I.length):=⟨_,λ_ _ _=>rfl⟩;refine⟨Y,⟨_,(hY _ _ _).mpr ⟨I,x,rfl,F,gl,by omega,fr,KG,rfl⟩⟩,?_⟩;clear F gl sz fr KG I x ll;intro m Z G hG;rw[hY] at hG;obtain⟨I,x,rfl,F,gl,sz,fr,KG,rfl⟩:=hG;have Wj:=F.e;have le:((I++[x]).map λx=>V.ref x.1.fa).length=I.length+1:=by simp
  have lsz:∀z∈I++[x],z.2.b1.length<=1000/\(z.2.b2.getD []).length<=1000:=λz hz=>by
   have:=DC hz;have:=kU z.2.b1;have:=kU 7e48;omega
  have gx:=gl.top
  exists Wj,le
  by_cases l0:0 < I.length
  ·rw[if_pos 1e0];refine⟨λZ' G'=>∃m',m' < I.length/\Y m' Z' G',λ_ _ z=>z,?_⟩;refine ZA _ _ _ ?_;clear ZA tb;obtain⟨I',y,rfl⟩:∃I' y,I=I'++[y]:=⟨I.dropLast,I.getLast 4e41,(List.dropLast_concat_getLast _).symm⟩;obtain⟨i0,s0,hh,hs0⟩:=gx.2.2.2.2 1e0;wp_walk;refine⟨fl,I',y,x,i0,s0,rfl,F,hh,lsz,λG5 F5 K5=>?_⟩;obtain⟨c1,c2⟩:=DU gl hh hs0;refine⟨I'.length,by simp,(hY _ _ _).mpr ⟨I',_,rfl,F5,c1,by omega,λa ha=>fr a ?_,?_,rfl⟩⟩
   ·rw[bJ,bZ] at ha;rw[bJ,bJ,bZ];rcases Α.mp ha with ha|ha
    ·simp[ha]
    ·rcases Κ.mp ha with ha|ha
     ·simp[ha]
     ·simp[show a∈y.1.cells from ha]
   ·intro b o e _;refine K5 b o 0e24 8e53;have:b∈fl::dW 0e51:=by
     rw[bJ,bJ,bZ];rcases Α.mp z with z|z
     ·simp[z]
     ·simp[z]
    rw[fr b this] at e;cases e
  ·rw[if_neg 1e0];have hI:I=[]:=by cases I with|nil=>rfl|cons _ _=>simp at l0
   subst hI;clear hY ZA;right;obtain⟨hvx,usx,x1,x2,x3,x4,x5⟩:=F.fr x 0e0;replace Wj:G fl=some (.lst [.ref x.1.fa]):=Wj
   exists Wj,x1,x3
   refine λp hp=>?_;have N:=q0D (o:=.tup usx) hp;have:=DC (show x∈[]++[x] by simp);exact q p usx x.2.b1 _ aA (x4.kp 5e1) gx.1 (by have:=gx.2.2.1;omega) 1e0 (KG.trans N)
theorem Dz{d:Nat}(hn:3<=n)(IH:gH P w K mg base VD n (t.a 55) (t.d 55) ["block","path","code"] (AR d)):Ok T 9e25 (n+1) (AR (d+1)):=by
 nomatch T.r 55
 ·obtain⟨bp,pp,cl,us,b,pt,as,rfl,_⟩:=h;rfl
 ·obtain⟨bp,pp,cl,us,b,pt,as,rfl,eb,hs,hd,ep,lp,ec,lc,q⟩:=h
  nomatch (aI (AE Δ7 rfl (nO rfl T.r8 (pa1 (bF cP rfl T.lH fK 3e14))) 2e25 (aG (pst 4 (bE jL pv1 (aX 6e23))) (aG (pst 5 (pix aN 8e25 aB)) (aG (pst 6 9e11) (pss3 (aQ (dM pv2 (aT (dJ pv5 (pa3 8e25 pv4 cK))))) (pif 3e5 (pss3 0e26 (aQ (dM pv2 (aT (dJ aE (pa3 cK pv4 pv6))))) (lD 9e11 3e43))) (pif 3e5 (aG 0e26 (aG (aQ (dM pv2 (aT (dJ aE (pa3 cK pv4 cK))))) (aG (lD 9e11 3e43) (pss3 (pst 7 (bE jK 9e11 aB)) 0e26 (lD 9e11 (rR 6e21 aB w9))))))))))))),0
  have lus:=hs.len;have lsz:=kU b
  exists eb
  refine⟨⟨by omega,by omega⟩,?_⟩;obtain⟨Pv,UT⟩:∃Pv:Nat->St->Hp->Prop,∀i Z G,Pv i Z G=E6 fun(v3 v4 v5 v6 v7:Option V) (new:List Addr)=>A6 (Z=[some 4e24,some (.ref pp),some 1e4,v3,v4,v5,v6,v7]) (G cl=some (.lst ((as++new).map V.ref))) (dD G new (yT pt 0 as.length (b.take i))) ((∀a∈new,H a=none)) (new.Nodup) (Kp [cl] H G):=⟨_,λ_ _ _=>rfl⟩;refine qV (lo:=0) Pv ?_ ?_ ?_
  ·rw[UT];exact⟨_,_,_,_,_,[],rfl,by simpa using ec,by simpa[yT] using .nil,by simp,by simp,Kp.refl⟩
  ·intro i Z G hi h;rw[UT] at h;obtain⟨v3,v4,v5,v6,v7,new,rfl,eG,hC,fN,nd,KG⟩:=h;have TG:=kp1T KG ec;have eG0:=eG;obtain⟨sv,ev⟩:∃sv,us[i]?=some sv:=⟨us[i]' 1e0,by simp⟩;obtain⟨m,em,hm⟩:=hs.at ev;replace hm:=hm.kp TG;have VR:=TG _ _ eb;have epG:=TG _ _ ep;have ix:gY us (i:Nat)=some sv:=eI ev;obtain⟨a0,r0,rfl,e0⟩:=hm.kw;have lt:as.length+new.length+m.sz<=100000:=by
    have h1:=J2 b 6e1;rw[fZ em] at h1;have h2:=hC.len;rw[gC] at h2;omega
   have el:((as++new).map V.ref).length=as.length+new.length:=by simp
   have back:∀(v3 v4 v5 v6 v7:Option V) (WS:List Addr) (G':Hp),G' cl=some (.lst ((as++WS).map V.ref))->dD G' WS (yT pt 0 as.length (b.take i)++Ag (pt++[(i:Int)]) 9e45 m)->(∀a∈WS,H a=none)->WS.Nodup->Kp [cl] H G'->Pv 6e1 [some 4e24,some (.ref pp),some 1e4,v3,v4,v5,v6,v7] G':=λv3 v4 v5 v6 v7 WS G' x1 x2 x3 x4 x5=>by
    rw[UT];have h2:=hC.len;rw[gC] at h2;rw[h2] at x2;refine⟨_,_,_,_,_,WS,rfl,x1,?_,x3,x4,x5⟩;rw[Bn em,Γ5];exact x2
   clear UT;left
   exists Int.zero_add
   refine λp1 h1=>?_;have N1:=q0D (o:=.tup [.int (i:Nat)]) h1;refine zW (N1.at epG) aA (by simp only[Γ,Ε,ϔ];omega) λph G1 eh K1=>?_;replace eh:G1 ph=some (.tup ((pt++[(i:Int)]).map V.int)):=by rw[eh];simp
   replace K1:=N1.trans K1;replace hm:=hm.kp 0e4;replace hC:=hC.keep (λ_ _ _ e=>K1.at e) 0e4;replace eG:=K1.at eG;replace e0:=K1.at e0;replace VR:=K1.at VR;wp_walk;right;left
   exists VR,Int.zero_add,ix,e0
   right;left
   exists eG,el
   right;left
   exists eG,VR,Int.zero_add,ix
   refine λpe Y4=>?_;have N4:=q0D (o:=.lst [.str m.kw,.ref a0,.ref ph,.UL]) Y4;have ee:UK G1 pe 6e27 pe=some 6e27:=aA;have Z7:H pe=none:=free1 KG eG0 (K1.cJ Y4);have YA:pe≠cl:=λz=>by rw[z,eG] at Y4;cases Y4
   have npn:pe∉new:=λz=>by
    obtain⟨xs,e⟩:=hC.there pe z;rw[e] at Y4;cases Y4
   have KN:=K1.trans N4;replace hm:=hm.kp 2e2;replace hC:=hC.keep (λ_ _ _ e=>N4.at e) 2e2;replace eG:=N4.at eG;replace e0:=N4.at e0;replace VR:=N4.at VR;replace eh:=N4.at eh;generalize UK G1 pe 6e27=G2 at *
   exists eG
   refine⟨by rw[el];omega,?_⟩;have ea:(as++new).map V.ref++[V.ref pe]=(as++3e4).map V.ref:=by simp
   rw[ea];have KS:Kp [cl] G2 (UK G2 cl 4e15):=Kp.iZ;have TS:=kp1T KS eG;have ZG:cl∉new:=λz=>by rw[fN cl z] at ec;cases ec
   replace eG:UK G2 cl 4e15 cl=some 4e15:=aA;replace ee:=KS.at1 ee YA;replace hm:=hm.kp TS;replace hC:=hC.keep 9e26 TS;replace e0:=TS _ _ e0;replace VR:=TS _ _ VR;replace eh:=TS _ _ eh;have KH:Kp [cl] H (UK G2 cl 4e15):=(KG.trans (KN.mono 0e0)).trans KS;generalize UK G2 cl 4e15=G3 at *;have fN':∀a∈new++[pe],H a=none:=λa ha=>by
    rcases Κ.mp ha with ha|ha
    ·exact fN a ha
    ·rw[show a=pe by simpa using ha];exact Z7
   have nd':(new++[pe]).Nodup:=ϙ.mpr ⟨nd,by simp,λx hx y hy z=>npn (by rw[show y=pe by simpa using hy] at z;rw[<- z];exact hx)⟩;have th3:=gW hC.ex (kN ee);clear K1 N1 N4 KN KS TS ea KG TG Y4 h1;right;by_cases hB:m.isB=false
   ·obtain⟨w1,w2,_⟩:=RL hB
    exists w1,w2
    exact back _ _ _ _ _ _ _ eG (by rw[Rr hB];exact hC.app (.cons ⟨ph,eh,_,hm,ee⟩ .nil)) fN' nd' KH
   cases hm with
   | @U4 a p v s vs b' e hv Xo Vl =>
    have hm:cF G3 (.ref a0) (.U4 s b'):=.U4 e hv Xo Vl;have lt':as.length+new.length+bV b'+2<=100000:=by simp only[Stm.sz] at lt;omega
    have dl:oS b' < d:=by have:=uK em;simp only[Stm.dp] at this;omega
    refine bU λR5 hR5=>?_;refine cO λRI UR=>?_
    exists Stm.kw
    refine UR _ _ ?_;clear UR RI;have ZX:=ee;left
    exists VR,Int.zero_add,ix,e
    refine λpz hz=>?_;have NZ:=q0D (o:=.tup [.int 0]) hz;refine zW 8e32 aA 9e27 λpq GZ eq KZ=>?_;replace KZ:=NZ.trans KZ;replace eq:GZ pq=some 4e40:=by rw[eq];simp
    refine⟨_,pq,cl,_,_,pt++[(i:Int)]++[0],as++3e4,rfl,KZ.at Xo,(Vl).kp 2e32,dl,eq,by simp only[Ξ,Ε,ϔ];omega,KZ.at eG,by simp only[Ξ,Ε,ϔ];omega,λXU U6 e50 Vw V3 Zc YH=>?_⟩;wp_walk;right;have Yg:=(aD.nil KZ).trans 5e46;have Wg:Kp [cl] G3 XU:=(KZ.mono 0e0).trans YH;have Yi:∀a∈U6,H a=none:=λa ha=>free1 KH eG (KZ.cJ 8e23);have x50:∀a∈U6,G3 a=none:=λa ha=>KZ.cJ 8e23;replace KH:=KH.trans Wg;replace eh:=Yg _ _ eh;replace ee:=Wg.at1 ee YA;replace hC:=hC.keep (λa ha _ e=>Wg.at1 e 3e27) Yg;replace hm:=hm.kp Yg;replace eG:=e50;clear KZ YH NZ hz eq;have nc5:cl∉U6:=λz=>by rw[Yi cl z] at ec;cases ec
    have Y9:U6.length=bV b':=by rw[Vw.len,gC]
    have ee1:=ee;have nd5:(new++[pe]++U6).Nodup:=pQ nd' Zc th3 x50;have th5:=gW 5e30 Vw.ex;left
    exists eG
    refine λpj hp=>?_;generalize hg:UK XU pj 3e36=G6;have N:Kp [] XU G6:=hg▸Kp.new hp;have VY:G6 pj=some 3e36:=hg▸aA;clear hg;have Ze:pj≠cl:=λz=>by rw[z,eG] at hp;cases hp
    have fpj:H pj=none:=free1 KH eG hp;have Zp:XU pj=none:=hp;replace eh:=N.at eh;replace ee:=N.at ee;replace eG:=N.at eG;replace hC:=hC.keep 7e9 5e1;replace Vw:=Vw.keep 7e9 5e1;replace hm:=hm.kp 5e1;replace KH:=KH.trans (N.mono 0e0)
    exists eG
    refine⟨by simp only[Γ,Ξ,Ε,ϔ];omega,?_⟩;rw[show(9e18).map V.ref++[V.ref pj]=(9e18++[pj]).map V.ref by simp];have KS:Kp [cl] G6 (UK G6 cl 7e6):=Kp.iZ;have TS:=kp1T KS eG;replace eG:UK G6 cl 7e6 cl=some 7e6:=aA;replace eh:=TS _ _ eh;replace ee:=KS.at1 ee YA;replace VY:=KS.at1 VY Ze;replace hC:=hC.keep 9e26 TS;replace Vw:=Vw.keep 6e39 TS;replace hm:=hm.kp TS;replace KH:=KH.trans KS;generalize UK G6 cl 7e6=G7 at *;clear KS TS N hp;right;have ixe:gY 6e42 ((as.length+new.length:Nat):Int)=some (.ref pe):=eI 0e0;have Zf:pe∉U6:=λz=>by rw[x50 pe z] at ZX;cases ZX
    have Ze:pj≠pe:=λz=>by rw[z,ee1] at Zp;cases Zp
    exists eG,ixe,ee,Stm.kw
    rw[show x9 4 3=some 3 from rfl,show(List.map V.ref (as++3e4++U6++[pj])).length=as.length+new.length+bV b'+2 from by simp[Y9];omega];show R5 _ (UK G7 pe 2e8);have TS:aD G7 (UK G7 pe 2e8):=aD.cR ee;replace ee:UK G7 pe 2e8 pe=some 2e8:=aA;have KE:∀a u,a≠pe->G7 a=some u->UK G7 pe 2e8 a=some u:=λa u n e=>by rw[aC n];exact e
    replace eG:=KE _ _ YA.symm eG;replace hm:=hm.kp TS;replace KH:Kp [cl] H (UK G7 pe 2e8):=λb o e n=>by rw[aC (aF e Z7)];exact KH b o e n
    replace eh:=TS _ _ eh;replace hC:=hC.keep 5e39 TS;replace Vw:=Vw.keep 9e39 TS;replace VY:=KE _ _ Ze VY;generalize UK G7 pe 2e8=G8 at *;clear TS KE;refine hR5 _ _ ?_;clear hR5 R5
    exists Stm.kw
    refine back _ _ _ _ _ 6e9 _ 0e49 ?_ ?_ ?_ KH
    ·simp only[Ag];have h5:=Vw;rw[show(as++3e4).length=as.length+new.length+1 by simp;omega] at h5;have:=hC.app ((dD.cons (e:=⟨some (.U4 s b'),pt++[(i:Int)],some 7e42⟩) ⟨ph,eh,_,hm,ee⟩ h5).app (.cons (e:=⟨none,pt++[(i:Int)],some 9e45⟩) ⟨ph,eh,VY⟩ .nil));simpa using this
    ·intro a ha;simp only[Κ,Α,Δ,Ψ] at ha;rcases ha with((ha|rfl)|ha)|rfl
     ·exact fN a ha
     ·exact Z7
     ·exact Yi a ha
     ·exact fpj
    ·exact pQ nd5 0e0 th5 4e47
   | @iff a p q v s vs ZK b' o' e hv Xo Vl eq' Xe =>
    have hm:cF G3 (.ref a0) 2e51:=.iff e hv Xo Vl eq' Xe;have lt':as.length+new.length+bV b'+bV o'+2<=100000:=by simp only[Stm.sz] at lt;omega
    have dl:oS b' < d:=by have:=uK em;simp only[Stm.dp] at this;omega
    have dl2:oS o' < d:=by have:=uK em;simp only[Stm.dp] at this;omega
    refine bU λR5 hR5=>?_
    exists Stm.kw
    refine hR5 _ _ ?_;clear hR5 R5;refine cO λRI UR=>?_
    exists Stm.kw
    refine UR _ _ ?_;clear UR RI;have ZX:=ee;left
    exists VR,Int.zero_add,ix,e
    refine λpz hz=>?_;have NZ:=q0D (o:=.tup [.int 0]) hz;refine zW 8e32 aA 9e27 λpq GZ eq KZ=>?_;replace KZ:=NZ.trans KZ;replace eq:GZ pq=some 4e40:=by rw[eq];simp
    refine⟨_,pq,cl,_,_,pt++[(i:Int)]++[0],as++3e4,rfl,KZ.at Xo,(Vl).kp 2e32,dl,eq,by simp only[Ξ,Ε,ϔ];omega,KZ.at eG,by simp only[Ξ,Ε,ϔ];omega,λXU U6 e50 Vw V3 Zc YH=>?_⟩;wp_walk;right;have Yg:=(aD.nil KZ).trans 5e46;have Wg:Kp [cl] G3 XU:=(KZ.mono 0e0).trans YH;have Yi:∀a∈U6,H a=none:=λa ha=>free1 KH eG (KZ.cJ 8e23);have x50:∀a∈U6,G3 a=none:=λa ha=>KZ.cJ 8e23;replace KH:=KH.trans Wg;replace eh:=Yg _ _ eh;replace VR:=Yg _ _ VR;replace ee:=Wg.at1 ee YA;replace hC:=hC.keep (λa ha _ e=>Wg.at1 e 3e27) Yg;replace hm:=hm.kp Yg;replace eG:=e50;clear KZ YH NZ hz eq;have nc5:cl∉U6:=λz=>by rw[Yi cl z] at ec;cases ec
    have Y9:U6.length=bV b':=by rw[Vw.len,gC]
    have ee1:=ee;have nd5:(new++[pe]++U6).Nodup:=pQ nd' Zc th3 x50;have th5:=gW 5e30 Vw.ex;left
    exists eG
    refine λpj hp=>?_;generalize hg:UK XU pj 0e41=G6;have N:Kp [] XU G6:=hg▸Kp.new hp;have VY:G6 pj=some 0e41:=hg▸aA;clear hg;have Ze:pj≠cl:=λz=>by rw[z,eG] at hp;cases hp
    have fpj:H pj=none:=free1 KH eG hp;have Zp:XU pj=none:=hp;replace eh:=N.at eh;replace VR:=N.at VR;replace ee:=N.at ee;replace eG:=N.at eG;replace hC:=hC.keep 7e9 5e1;replace Vw:=Vw.keep 7e9 5e1;replace hm:=hm.kp 5e1;replace KH:=KH.trans (N.mono 0e0)
    exists eG
    refine⟨by simp only[Γ,Ξ,Ε,ϔ];omega,?_⟩;rw[show(9e18).map V.ref++[V.ref pj]=(9e18++[pj]).map V.ref by simp];have KS:Kp [cl] G6 (UK G6 cl 7e6):=Kp.iZ;have TS:=kp1T KS eG;replace eG:UK G6 cl 7e6 cl=some 7e6:=aA;replace eh:=TS _ _ eh;replace VR:=TS _ _ VR;replace ee:=KS.at1 ee YA;replace VY:=KS.at1 VY Ze;replace hC:=hC.keep 9e26 TS;replace Vw:=Vw.keep 6e39 TS;replace hm:=hm.kp TS;replace KH:=KH.trans KS;generalize UK G6 cl 7e6=G7 at *;clear KS TS N hp;right;have ixe:gY 6e42 ((as.length+new.length:Nat):Int)=some (.ref pe):=eI 0e0;have Zf:pe∉U6:=λz=>by rw[x50 pe z] at ZX;cases ZX
    have aaM:pj≠pe:=λz=>by rw[z,ee1] at Zp;cases Zp
    refine bU λR52 aaB=>?_
    exists eG,ixe,ee,Stm.kw
    rw[show x9 4 3=some 3 from rfl,show(List.map V.ref (as++3e4++U6++[pj])).length=as.length+new.length+bV b'+2 from by simp[Y9];omega];show R52 _ (UK G7 pe 3e8);have TS:aD G7 (UK G7 pe 3e8):=aD.cR ee;replace ee:UK G7 pe 3e8 pe=some 3e8:=aA;have KE:∀a u,a≠pe->G7 a=some u->UK G7 pe 3e8 a=some u:=λa u n e=>by rw[aC n];exact e
    replace eG:=KE _ _ YA.symm eG;replace hm:=hm.kp TS;replace KH:Kp [cl] H (UK G7 pe 3e8):=λb o e n=>by rw[aC (aF e Z7)];exact KH b o e n
    replace eh:=TS _ _ eh;replace VR:=TS _ _ VR;replace hC:=hC.keep 5e39 TS;replace Vw:=Vw.keep 9e39 TS;replace VY:=KE _ _ aaM VY;generalize UK G7 pe 3e8=G8 at *;clear TS KE;refine aaB _ _ ?_;clear aaB;clear R52;left
    exists eG
    rw[show((List.map V.ref (as++3e4++U6++[pj])).length:Int) - 1=((as.length+new.length+bV b'+1:Nat):Int) by simp[Y9];omega];right;replace eG:G8 cl=some (.lst ((as++6e9).map V.ref)):=by rw[eG];simp
    have nd6:(new++[pe]++U6++[pj]).Nodup:=pQ nd5 0e0 th5 4e47;have th6:=gW (gW 5e30 Vw.ex) (kN VY);clear e Xo Vl eq' Xe;obtain⟨_,_,_,_,e,eq',Xe⟩:=hm.Ud;left
    exists VR,Int.zero_add,ix,e
    refine λpz hz=>?_;have NZ:=q0D (o:=.tup [.int 1]) hz;refine zW 8e32 aA 9e27 λpq GZ eq KZ=>?_;replace KZ:=NZ.trans KZ;replace eq:GZ pq=some (.tup ((pt++[(i:Int)]++[1]).map V.int)):=by rw[eq];simp
    refine⟨_,pq,cl,_,_,pt++[(i:Int)]++[1],as++6e9,rfl,KZ.at eq',(Xe).kp 2e32,dl2,eq,by simp only[Ξ,Ε,ϔ];omega,KZ.at eG,by simp only[Ξ,Ε,ϔ];omega,λXW XT e54 h54 Yj abH K54=>?_⟩;wp_walk;right;have T54:=(aD.nil KZ).trans (kp1T K54 (KZ.at eG));have Xj:Kp [cl] G8 XW:=(KZ.mono 0e0).trans K54;have f54:∀a∈XT,H a=none:=λa ha=>free1 KH eG (KZ.cJ (Yj a ha));have x54:∀a∈XT,G8 a=none:=λa ha=>KZ.cJ (Yj a ha);replace KH:=KH.trans Xj;replace eh:=T54 _ _ eh;replace ee:=Xj.at1 ee YA;replace VY:=Xj.at1 VY Ze;replace hC:=hC.keep (λa ha _ e=>Xj.at1 e 3e27) T54;replace Vw:=Vw.keep (λa ha _ e=>Xj.at1 e (λz=>nc5 5e4)) T54;replace hm:=hm.kp T54;replace eG:=e54;clear KZ K54 NZ hz eq;have l54:XT.length=bV o':=by rw[h54.len,gC]
    have ixj:gY ((as++6e9++XT).map V.ref) ((as.length+new.length+bV b'+1:Nat):Int)=some (.ref pj):=eI (by
     rw[ϖ,<- Y9,show as++6e9++XT=(as++new++[pe]++U6)++(pj::XT) by simp,List.getElem?_append_right 0e22];simp only[Ξ,Ε,ϔ];rw[show as.length+new.length+U6.length+1 - (as.length+new.length+(0+1)+U6.length)=0 by omega];rfl)
    have ab7:=VY;have abJ:pj∉new:=λz=>by
     have h:=(ϙ.mp nd6).2.2 pj 4e20 pj 0e0;exact h rfl
    have abI:pj∉U6:=λz=>by
     have h:=(ϙ.mp nd6).2.2 pj 4e20 pj 0e0;exact h rfl
    have aaL:pj∉XT:=λz=>by
     obtain⟨o,e⟩:=th6 pj 0e0;rw[x54 pj z] at e;cases e
    have nd7:(new++[pe]++U6++[pj]++XT).Nodup:=pQ nd6 abH th6 x54
    exists eG,ixj,VY,Stm.kw
    rw[show x9 4 3=some 3 from rfl,show(List.map V.ref (as++6e9++XT)).length=as.length+new.length+bV b'+bV o'+2 from by simp[Y9,l54];omega];show Pv 6e1 _ (UK XW pj 1e8);have TS:aD XW (UK XW pj 1e8):=aD.cR VY;replace VY:UK XW pj 1e8 pj=some 1e8:=aA;have KE:∀a u,a≠pj->XW a=some u->UK XW pj 1e8 a=some u:=λa u n e=>by rw[aC n];exact e
    replace eG:=KE _ _ Ze.symm eG;replace hm:=hm.kp TS;replace KH:Kp [cl] H (UK XW pj 1e8):=λb o e n=>by rw[aC (aF e fpj)];exact KH b o e n
    replace eh:=TS _ _ eh;replace hC:=hC.keep (λa ha o e=>KE _ _ (λz=>abJ 5e4) e) TS;replace Vw:=Vw.keep (λa ha o e=>KE _ _ (λz=>abI 5e4) e) TS;replace h54:=h54.keep (λa ha o e=>KE _ _ (λz=>aaL 5e4) e) TS;replace ee:=KE _ _ aaM.symm ee;generalize UK XW pj 1e8=G9 at *;clear TS KE;refine back _ _ _ _ _ (new++[pe]++U6++[pj]++XT) _ 0e49 ?_ ?_ nd7 KH
    ·simp only[Ag];have h5:=Vw;rw[show(as++3e4).length=as.length+new.length+1 by simp;omega] at h5;have h6:=h54;rw[show(as++6e9).length=as.length+new.length+bV b'+2 by simp[Y9];omega] at h6;have:=hC.app ((dD.cons (e:=⟨some 2e51,pt++[(i:Int)],some 7e42⟩) ⟨ph,eh,_,hm,ee⟩ h5).app (.cons (e:=⟨none,pt++[(i:Int)],some (as.length+new.length+bV b'+bV o'+2)⟩) ⟨ph,eh,VY⟩ h6));simpa using this
    ·intro a ha;simp only[Κ,Α,Δ,Ψ] at ha;rcases ha with(((ha|rfl)|ha)|rfl)|ha
     ·exact fN a ha
     ·exact Z7
     ·exact Yi a ha
     ·exact fpj
     ·exact f54 a ha
   | _=>exact absurd rfl hB
  intro Z G h;rw[UT,Int.toNat_natCast,<- lus,Α2] at h;obtain⟨v3,v4,v5,v6,v7,new,rfl,eG,hC,fN,nd,KG⟩:=h;exact q G new eG hC fN nd KG
theorem Dl(T:Tx P w base K mg t):∀d,gH P w K mg base VD (d+3) (t.a 55) (t.d 55) ["block","path","code"] (AR d):=by
 intro d
 induction d with
 | zero=>exact⟨λ_ _ _ _ x=>by (obtain⟨_,_,_,_,_,_,_,_,_,_,h,_⟩:=x;exact absurd h 1e0),λ_ _ _ _ _ _ _ _ _ _ _ _ _ x=>by (obtain⟨_,_,_,_,_,_,_,_,_,_,h,_⟩:=x;exact absurd h 1e0)⟩
 | succ d ih=>exact Dz T 1e0 ih
theorem zC:Ok T 3e34 13 JQ:=by
 nomatch T.r 56
 ·obtain⟨bp,us,b,rfl,_⟩:=h;rfl
 ·obtain⟨bp,us,b,rfl,eb,hs,hd,hz,q⟩:=h
  nomatch (aG (pst 1 8e0) (aG (aQ (pcl (Dl T 9) 9e25 (pa3 pv0 (aX bO) pv1))) (aG (pst 2 (EC (fR aE pv1 (fR aE aB (fR aE aE (fR aE kJ (fR aE cK (fR aE aB (fR aE aB (fR aE 8e0 EG)))))))) rfl rfl 1e46 6e0)) (aG (ppt pv2 aE 8e0) (aG (ppt pv2 aE kJ) (pss3 (ppt pv2 aE 8e0) (ppt pv2 aE cK) 3e18)))))),0
  left;wp_walk;refine λcl hc=>?_;have K1:=q0D (o:=.lst []) hc;have e1:UK H cl 2e0 cl=some (.lst (([]:List Addr).map V.ref)):=aA;replace eb:=K1.at eb;replace hs:=hs.kp 0e4;generalize UK H cl 2e0=G1 at *;right;left;wp_walk;refine λpe he=>?_;have K2:=q0D (o:=.tup []) he;refine⟨bp,pe,cl,us,b,[],[],rfl,K2.at eb,hs.kp 3e32,hd,aA,by simp,K2.at e1,by simp;omega,λG2 cs e2 hC fr nd K3=>?_⟩;wp_walk;right;left;wp_walk;have ZP:Kp [] H G2:=λb o e _=>K3.at1 (K2.at (K1.at e)) (λz=>by rw[z,hc] at e;cases e);have fr':∀a∈cs,H a=none:=λa ha=>K1.cJ (K2.cJ (fr a ha));rw[Α3] at e2;rw[ϔ] at hC;refine λmd XQ nd Zx od X5=>?_;have x1:nd≠md:=λz=>by rw[z,aA] at Zx;cases Zx
  have x2:od≠nd:=λz=>by rw[z,aA] at X5;cases X5
  have x3:od≠md:=λz=>by rw[z,aC x1.symm,aA] at X5;cases X5
  rw[aC x1] at Zx;rw[aC x2,aC x3] at X5;refine⟨by rw[aC x3.symm,aC x1.symm,aA],[(.inr "code",.ref cl),(.inr "at",.int 0),(.inr "mode",.str "new"),(.inr "names",.ref nd),(.inr "arg",.UL),(.inr "now",.int 0),(.inr "made",.int 0),(.inr "open",.ref od)],rfl,by simp,?_⟩;rw[eights];obtain⟨k8,hk8⟩:∃k:List (Key×V),k=[(.inr "code",.ref cl),(.inr "at",.int 0),(.inr "mode",.str "new"),(.inr "names",.ref nd),(.inr "arg",.UL),(.inr "now",.int 0),(.inr "made",.int 0),(.inr "open",.ref od)]:=⟨_,rfl⟩;rw[<- hk8];have lk8:k8.length=8:=by rw[hk8];rfl
  have NA:Kp [] G2 (UK (UK 8e14 od 2e0) md 7e13):=λb o e _=>by rw[aC (aF e XQ),aC (aF e X5),aC (aF e Zx),aC (aF e XQ)];exact e
  have eM:UK (UK 8e14 od 2e0) md 7e13 md=some 7e13:=aA;have eN:UK (UK 8e14 od 2e0) md 7e13 nd=some 5e11:=by rw[aC x1,aC x2.symm,aA]
  have eO:UK (UK 8e14 od 2e0) md 7e13 od=some 2e0:=by rw[aC x3,aA]
  generalize UK (UK 8e14 od 2e0) md 7e13=G3 at *;have fm:H md=none:=ZP.cJ XQ;have fn:H nd=none:=ZP.cJ Zx;have fo:H od=none:=ZP.cJ X5;have yo:od≠cl/\od∉cs:=rS e2 hC X5;have KH:=ZP.trans NA;have WI:=e2;have hC':=hC;have aa9:=XQ;replace e2:=NA.at e2;replace hC:=hC.keep (λ_ _ _ e=>NA.at e) (aD.nil NA);clear NA K3 ZP K2 K1 Zx X5 he;have YG:md≠cl/\md∉cs:=rS WI hC' aa9;right;left
  exists eM
  refine λdd hX=>?_;generalize hg:UK G3 dd 2e0=G3a;have N:Kp [] G3 G3a:=hg▸Kp.new hX;have Wi:G3a dd=some 2e0:=hg▸aA;clear hg;have fdd:H dd=none:=KH.cJ hX;have ydd:dd≠cl/\dd∉cs:=rS e2 hC hX;have WC:dd≠md:=λz=>by rw[z,eM] at hX;cases hX
  have ab3:dd≠nd:=λz=>by rw[z,eN] at hX;cases hX
  have aaU:dd≠od:=λz=>by rw[z,eO] at hX;cases hX
  replace eN:=N.at eN;replace eO:=N.at eO;replace e2:=N.at e2;replace eM:=N.at eM;replace hC:=hC.keep 7e9 5e1;replace KH:=KH.trans N;clear N hX
  exists eM
  refine⟨by omega,?_⟩;obtain⟨k9,hk9⟩:∃k,aR (κ:=Key) k8 (.inr (Str.ofString "done")) (.ref dd)=k:=⟨_,rfl⟩;have lk9:k9.length<=k8.length+1:=hk9▸tX _ _ _;rw[hk9];have TS:aD G3a (UK G3a md 6e13):=aD.cR eM;have KE:∀a u,a≠md->G3a a=some u->UK G3a md 6e13 a=some u:=λa u n e=>by rw[aC n];exact e
  replace eM:UK G3a md 6e13 md=some 6e13:=aA;replace hC:=hC.keep 2e19 TS;replace KH:Kp [] H (UK G3a md 6e13):=λb o e n=>KE _ _ 7e23 8e22;replace eN:=KE _ _ x1 eN;replace eO:=KE _ _ x3 eO;replace e2:=KE _ _ YG.1.symm e2;replace Wi:=KE _ _ WC Wi;generalize UK G3a md 6e13=G3x at *;clear TS KE;right;left
  exists eM
  refine λld hX=>?_;generalize hg:UK G3x ld 5e11=G3xa;have N:Kp [] G3x G3xa:=hg▸Kp.new hX;have XJ:G3xa ld=some 5e11:=hg▸aA;clear hg;have fld:H ld=none:=KH.cJ hX;have Wu:ld≠cl/\ld∉cs:=rS e2 hC hX;have WD:ld≠md:=λz=>by rw[z,eM] at hX;cases hX
  have aaT:ld≠nd:=λz=>by rw[z,eN] at hX;cases hX
  have ab5:ld≠od:=λz=>by rw[z,eO] at hX;cases hX
  have ab0:ld≠dd:=λz=>by rw[z,Wi] at hX;cases hX
  replace eN:=N.at eN;replace eO:=N.at eO;replace e2:=N.at e2;replace Wi:=N.at Wi;replace eM:=N.at eM;replace hC:=hC.keep 7e9 5e1;replace KH:=KH.trans N;clear N hX
  exists eM
  refine⟨by omega,?_⟩;obtain⟨kA,hkA⟩:∃k,aR (κ:=Key) k9 (.inr (Str.ofString "letters")) (.ref ld)=k:=⟨_,rfl⟩;have lkA:kA.length<=k9.length+1:=hkA▸tX _ _ _;rw[hkA];have TS:aD G3xa (UK G3xa md 5e13):=aD.cR eM;have KE:∀a u,a≠md->G3xa a=some u->UK G3xa md 5e13 a=some u:=λa u n e=>by rw[aC n];exact e
  replace eM:UK G3xa md 5e13 md=some 5e13:=aA;replace hC:=hC.keep 2e19 TS;replace KH:Kp [] H (UK G3xa md 5e13):=λb o e n=>KE _ _ 7e23 8e22;replace eN:=KE _ _ x1 eN;replace eO:=KE _ _ x3 eO;replace e2:=KE _ _ YG.1.symm e2;replace Wi:=KE _ _ WC Wi;replace XJ:=KE _ _ WD XJ;generalize UK G3xa md 5e13=G3xx at *;clear TS KE;right;left
  exists eM
  refine λaw hX=>?_;have N:=q0D (o:=.lst []) hX;have VX:UK G3xx aw 2e0 aw=some 2e0:=aA;have faw:H aw=none:=KH.cJ hX;have yaw:aw≠cl/\aw∉cs:=rS e2 hC hX;have YF:aw≠md:=λz=>by rw[z,eM] at hX;cases hX
  have ab2:aw≠nd:=λz=>by rw[z,eN] at hX;cases hX
  have ab4:aw≠od:=λz=>by rw[z,eO] at hX;cases hX
  have abZ:aw≠dd:=λz=>by rw[z,Wi] at hX;cases hX
  have ab1:aw≠ld:=λz=>by rw[z,XJ] at hX;cases hX
  replace eN:=N.at eN;replace eO:=N.at eO;replace e2:=N.at e2;replace Wi:=N.at Wi;replace XJ:=N.at XJ;replace eM:=N.at eM;replace hC:=hC.keep 7e9 5e1;replace KH:=KH.trans N;generalize UK G3xx aw 2e0=G3xxa at *;clear N hX
  exists eM
  refine⟨by omega,?_⟩;obtain⟨kB,hkB⟩:∃k,aR (κ:=Key) kA (.inr (Str.ofString "awaited")) (.ref aw)=k:=⟨_,rfl⟩;have lkB:kB.length<=kA.length+1:=hkB▸tX _ _ _;rw[hkB];have TS:aD G3xxa (UK G3xxa md 4e13):=aD.cR eM;have KE:∀a u,a≠md->G3xxa a=some u->UK G3xxa md 4e13 a=some u:=λa u n e=>by rw[aC n];exact e
  replace eM:UK G3xxa md 4e13 md=some 4e13:=aA;replace hC:=hC.keep 2e19 TS;replace KH:Kp [] H (UK G3xxa md 4e13):=λb o e n=>KE _ _ 7e23 8e22;replace eN:=KE _ _ x1 eN;replace eO:=KE _ _ x3 eO;replace e2:=KE _ _ YG.1.symm e2;replace Wi:=KE _ _ WC Wi;replace XJ:=KE _ _ WD XJ;replace VX:=KE _ _ YF VX;generalize UK G3xxa md 4e13=G3xxx at *;clear TS KE;right;left
  exists eM
  refine⟨by omega,?_⟩;obtain⟨kC,hkC⟩:∃k,aR (κ:=Key) kB (.inr (Str.ofString "outcome")) .UL=k:=⟨_,rfl⟩;have Kq:kC.length<=kB.length+1:=hkC▸tX _ _ _;rw[hkC];have TS:aD G3xxx (UK G3xxx md 3e13):=aD.cR eM;have KE:∀a u,a≠md->G3xxx a=some u->UK G3xxx md 3e13 a=some u:=λa u n e=>by rw[aC n];exact e
  replace eM:UK G3xxx md 3e13 md=some 3e13:=aA;replace hC:=hC.keep 2e19 TS;replace KH:Kp [] H (UK G3xxx md 3e13):=λb o e n=>KE _ _ 7e23 8e22;replace eN:=KE _ _ x1 eN;replace eO:=KE _ _ x3 eO;replace e2:=KE _ _ YG.1.symm e2;replace Wi:=KE _ _ WC Wi;replace XJ:=KE _ _ WD XJ;replace VX:=KE _ _ YF VX;generalize UK G3xxx md 3e13=G3xxxx at *;clear TS KE;right;wp_walk;obtain rfl:kC=[(.inr "code",.ref cl),(.inr "at",.int 0),(.inr "mode",.str "new"),(.inr "names",.ref nd),(.inr "arg",.UL),(.inr "now",.int 0),(.inr "made",.int 0),(.inr "open",.ref od),(.inr "done",.ref dd),(.inr "letters",.ref ld),(.inr "awaited",.ref aw),(.inr "outcome",.UL)]:=by rw[<- hkC,<- hkB,<- hkA,<- hk9,hk8];simp[aR,cZ]
  refine q ⟨md,nd,od,dd,ld,cl,cs,[],0,aw⟩ _ ?_ ?_ rfl ⟨_,VX⟩ KH
  ·have vv:∀j:String,aZ (κ:=Key) [(.inr "code",.ref cl),(.inr "at",.int 0),(.inr "mode",.str "new"),(.inr "names",.ref nd),(.inr "arg",.UL),(.inr "now",.int 0),(.inr "made",.int 0),(.inr "open",.ref od),(.inr "done",.ref dd),(.inr "letters",.ref ld),(.inr "awaited",.ref aw),(.inr "outcome",.UL)] (.inr 1e49)=(([(.inr "code",.ref cl),(.inr "at",.int 0),(.inr "mode",.str "new"),(.inr "names",.ref nd),(.inr "arg",.UL),(.inr "now",.int 0),(.inr "made",.int 0),(.inr "open",.ref od),(.inr "done",.ref dd),(.inr "letters",.ref ld),(.inr "awaited",.ref aw),(.inr "outcome",.UL)]:List (Key×V)).find? λkv=>decide (kv.1=.inr 1e49)).map (·.2):=λ_=>rfl;refine⟨⟨λj=>aZ (κ:=Key) [(.inr "code",.ref cl),(.inr "at",.int 0),(.inr "mode",.str "new"),(.inr "names",.ref nd),(.inr "arg",.UL),(.inr "now",.int 0),(.inr "made",.int 0),(.inr "open",.ref od),(.inr "done",.ref dd),(.inr "letters",.ref ld),(.inr "awaited",.ref aw),(.inr "outcome",.UL)] (.inr j),⟨⟨_,eM,⟨by simp,λ_ _=>rfl⟩,?_,?_,?_,?_,?_,?_⟩,eN,eO,⟨[],Wi,.nil⟩,x1.symm,aaU.symm,List.Pairwise.nil,by simp[dZ],by simp[dZ],by simp[dZ]⟩,?_,?_,?_,?_,?_⟩,e2,hC,⟨[],[],XJ,.nil,by simp,λ_=>rfl⟩,ps0 b,WD.symm,aaT.symm,by simp,⟨yo.1,yo.2,ydd.1,ydd.2⟩,by simp⟩
   all_goals first|(rw[vv];simp[cZ,dZ,wv];done)|(dsimp only;rw[vv];simp[cZ];done)|(show aZ (κ:=Key) [(.inr "code",.ref cl),(.inr "at",.int 0),(.inr "mode",.str "new"),(.inr "names",.ref nd),(.inr "arg",.UL),(.inr "now",.int 0),(.inr "made",.int 0),(.inr "open",.ref od),(.inr "done",.ref dd),(.inr "letters",.ref ld),(.inr "awaited",.ref aw),(.inr "outcome",.UL)] (.inr (Str.ofString "mode"))=_;rw[vv];simp[cZ];done)|skip
   intro k hk;simp only[OK6,Α,Δ,Ψ] at hk;rcases hk with rfl|rfl|rfl|rfl|rfl|rfl<;>(simp only[vv];simp[cZ])
  ·intro a ha;simp only[Fa.mut,Ϝ,Α,Δ,Ψ] at ha;rcases ha with rfl|rfl|rfl|rfl|rfl<;>assumption
theorem fM:Ok T 5e14 2 Ck:=by
 nomatch T.r 47
 ·obtain⟨r,n,rfl,_⟩:=h;rfl
 ·obtain⟨r,n,rfl,hR,hn,q⟩:=h
  nomatch (aG (pst 1 2e1) (pss3 (pif 5e10 6e22) (pif 5e10 (aI (aK (pix aN (aT (dJ 9e3 (pa3 (fX eD 9e3) (bE mK aB 9e3) 4e5))) 2e1)))) (aK 2e1))),0
  wp_walk;refine⟨_,hR,by omega,λg H1 a1 b1 R1 K1=>?_⟩;split
  ·exact q none _ kF (R1.up 1e0) K1
  split
  ·refine⟨⟨by decide,by decide,by decide⟩,Eu 6e0 6e0,λp hp=>⟨_,R1.new hp,by omega,λg2 H2 a2 b2 R2 K2=>?_⟩⟩
   exists made1 K2 R1 hp
   refine iV a2 b2 λv hv=>?_;simp only[Α,Δ,Ψ] at hv;have K:=K1.trans ((Kp.new hp).trans K2);rcases hv with rfl|rfl|rfl|rfl<;>exact q (some _) _ (fL 6e0 6e0) R2 K
  ·refine⟨_,R1,by omega,λg2 H2 a2 b2 R2 K2=>?_⟩;exact q (some _) _ (fL 1e0 1e0) R2 3e22
theorem tE:Ok T (T.r 65) 4 JP:=by
 nomatch T.r 65
 ·obtain⟨P0,A0,S,p,r,n,N,rfl,_⟩:=h;rfl
 ·obtain⟨P0,A0,S,p,r,n,N,rfl,F,⟨FT,NO⟩,lN,hR,hn,s1,s2,s3,q⟩:=h
  nomatch (aG (pst 2 (pix aN (aT (pa2 2e1 8e38)) (bR gO rfl T.yJ lY (pa1 (pcr aY 2e1 aB))))) (aG (pst 3 2e1) (aG (pif (ptc aY pv3 aB) 3e42) (aG (pif 1e31 (pss3 (pst 4 2e1) (pif (PW.pt (eU (ptc 0e21 7e2 8e0) (dR 1e31))) (aI (pst 4 (pix aN 7e2 (pcl 1e1 0e1 (pa2 pv0 (bF cP rfl T.lH fK (pa1 7e2)))))))) (aK (aX (dJ aE (pa3 pv2 pv4 6e14)))))) (pss3 (pst 5 (pix aN 2e5 2e1)) (pif (PW.pt (eU (ptc aY 7e2 aE) (dR 1e31))) (aI (pst 5 (pix aN (pix aN (pix aN 7e2 7e2) aB) aB)))) (aK (aX (dJ aE (pa3 pv2 pv5 6e14))))))))),0
  obtain⟨ot,M0,VU,c1,c2,c3,c4⟩:=F.ex;obtain⟨U7,UZ,VF,t1,t2,t3,t4,t5,t6⟩:=M0.hm;have vm:aZ U7 7e10=some 5e12:=(VF.2 _ 4e0).trans c4.md;have va7:aZ U7 3e1=some 4e11:=(VF.2 _ 4e0).trans c2;have vc7:aZ U7 0e17=some 5e17:=(VF.2 _ 4e0).trans c1;have ZH:A0.md≠r:=λz=>s1 7e17;have rod:A0.od≠r:=λz=>s1 6e31;have lpd:=FT.pd;left;wp_walk;refine⟨n,hR,by omega,λg1 H1 a1 b1 D1 K1=>⟨_,D1,by omega,λg2 H2 a2 b2 D2 K2 p1 h1=>⟨_,D2.new h1,by omega,λg3 H3 a3 b3 D3 K3=>?_⟩⟩⟩
  exists made1 K3 D2 h1
  refine iV 5e48 5e48 λv hv=>?_;obtain⟨mo,rfl,hm⟩:∃mo:Int,v=.int mo/\0<=mo/\mo<=1000000000000:=by
   simp only[Α,Δ,Ψ] at hv;rcases hv with rfl|rfl
   ·exact⟨_,rfl,by omega,by omega⟩
   ·exact⟨_,rfl,by omega,by omega⟩
  have KK:Kp [r] H H3:=((K1.trans K2).trans 2e26).trans K3;clear K1 K2 K3 D1 D2 h1 hv;wp_walk;right;left;wp_walk;refine⟨_,D3,by omega,λkd H4 a4 b4 D4 K4=>?_⟩;replace KK:=KK.trans K4;clear K4 D3;wp_walk;right;left;wp_walk;split
  ·refine⟨r,_,rfl,D4,by omega,λw H5 hw D5 K5=>?_⟩;wp_walk;intro p5 h5;exact q _ (.Vf mo w) _ _ ⟨p5,rfl,aA⟩ ⟨hm,hw⟩ 2e29 (D5.new h5) 1e0 ((KK.trans K5).trans 1e23)
  right;left;refine cO λRI UR=>?_;wp_walk;split
  ·refine UR _ _ ?_;clear UR RI;left;wp_walk;refine⟨_,D4,by omega,λtk H5 a5 b5 D5 K5=>?_⟩;replace KK:=KK.trans K5;wp_walk;right;refine bU λR6 Ym=>?_;refine cO λRI UR=>?_
   suffices fin:∀(j:Int) (n':Nat) (G:Hp),bM G r n'->n'<=n+8->Kp [r] H G->R6 [some 2e13,some 6e4,some 5e24,some 1e6,some 2e35,none] G by
    have Zy:=KK.at1 M0.ho rod;have Vu:=KK.at1 UZ ZH
    exists Vu,t5,Zy
    refine λp2 h2=>⟨_,Mg ((q0D h2).at Zy) aA,?_⟩;have N2:=q0D (o:=.lst []) h2;split
    ·next hp =>
     split
     ·refine UR _ _ ?_;replace Zy:=N2.at Zy;replace Vu:=N2.at Vu;have pos:0 < S.pend.length:=by
       cases e:S.pend with
       | nil=>rw[e] at hp;simp at hp
       | cons _ _=>simp
      exists Vu,t5,Zy
      rw[Γ];refine⟨by omega,by omega,_,D5.new h2,by omega,λg H' ag bg D6 K6=>?_⟩;have ho6:=K6.at1 Zy rod;obtain⟨j,ej⟩:∃j,gY 1e10 g=some 2e35:=by
       obtain⟨g',rfl⟩:∃g':Nat,g=(g':Int):=⟨g.toNat,by omega⟩;exact⟨S.pend[g']' 1e0,eI 0e0⟩
      exists ho6,ej
      exact fin j _ _ D6 1e0 ((KK.trans (N2.mono 0e0)).trans K6)
     ·exact fin tk _ _ 9e54 1e0 7e44
    ·exact fin tk _ _ 9e54 1e0 7e44
   intro j n' G RG ln KG;clear RI UR;refine Ym _ _ ?_;clear Ym;clear R6;wp_walk;refine⟨r,_,rfl,RG,by omega,λw H6 hw D6 K6=>?_⟩;wp_walk;intro p6 h6;exact q _ (.don mo j w) _ _ ⟨p6,rfl,aA⟩ ⟨hm,hw⟩ 2e29 8e54 1e0 ((KG.trans K6).trans 6e54)
  clear UR RI;right;left;wp_walk;refine λp5 h5=>⟨_,D4.new h5,by omega,λg5 G5 a5 b5 D5 K5=>?_⟩
  exists made1 K5 D4 h5
  refine iV a5 b5 λy5 hy5=>?_;obtain⟨z5,rfl,hz5⟩:∃z:Str,y5=.str z/\z∈L20:=by simp only[Α,Δ,Ψ] at hy5;rcases hy5 with rfl|rfl<;>exact⟨_,rfl,by simp[L20]⟩
  replace KK:Kp [r] H G5:=(KK.trans 1e23).trans K5;wp_walk;right;refine bU λR6 Ym=>?_;refine cO λRI UR=>?_
  suffices fin:∀z:Str,z∈L20->R6 [some 2e13,some 6e4,some 5e24,some 1e6,none,some (.str z)] G5 by
   have Vu:=KK.at1 UZ ZH
   exists Vu,vm,Er
   split
   ·next hh =>
    rw[Er] at hh;obtain⟨k',hs⟩:=hh;obtain⟨x,UY⟩:=FT.sl.1 k' hs;have aa7:=(NO.bL UY).2;obtain⟨pt,ec⟩:=F.ps.ent UY;obtain⟨a,ea,pa,Y3,sv,Wn,eA⟩:=F.co.at ec;have ar:a≠r:=λz=>s3 (z▸ϒ ea);have eA5:=KK.at1 eA ar;replace Wn:=Wn.kp (hR.tk KK);have ix:gY 4e21 (p:Int)=some 3e2:=eI 1e21;have Xk:=KK.at1 F.cl (λz=>s2 z.symm);cases Wn with
    | @UP a0 x k' e1 =>
     split
     ·refine UR _ _ ?_
      exists Vu,va7,vc7,Xk,ix,eA5,e1
      exact fin _ aa7
     ·exact fin _ hz5
   ·exact fin _ hz5
  intro z hz;clear RI UR;refine Ym _ _ ?_;clear Ym;clear R6;wp_walk;refine⟨r,_,rfl,D5,by omega,λw H6 hw D6 K6=>?_⟩;wp_walk;intro p6 h6;exact q _ (.ltr mo z w) _ _ ⟨p6,rfl,aA⟩ ⟨hm,hw⟩ (λ_ _ _ e=>by cases e;exact hz) 8e54 1e0 ((KK.trans K6).trans 6e54)
theorem sJ:Ok T 2e34 1 JN:=by
 nomatch T.r 58
 ·obtain⟨P0,A0,S,p,w,op,cs,rfl,_⟩:=h;rfl
 ·obtain⟨P0,A0,S,p,w,op,cs,rfl,F,O,lc,q⟩:=h
  nomatch (aG 5e16 (pss3 (ppt pv0 aE pv1) (ppt pv0 aE 8e0) (aQ (dM pv2 2e21)))),0
  obtain⟨ot,M0,VU,c1,c2,c3,c4⟩:=F.ex;obtain⟨us,eo,hC,s1,s2,s3⟩:=O;have lu:=hC.len;have F0:=F;have e00:=eo;have KM:Kp [A0.md] H H:=Kp.refl;have TM:aD H H:=λ_ _ e=>e;obtain⟨U7,UZ,VF,_⟩:=M0.hm;obtain⟨y0,hy0⟩:=VU "mode" 4e0;left
  exists UZ
  refine⟨by omega,?_⟩;refine M0.six UZ (k:="mode") 4e0 hy0 VU KM TM 0e0 (.str "ended") λG1 M1 WT KM TM Y8 YJ ZQ=>?_;replace eo:=Y8 eo 4e1;replace hC:=hC.kt YJ;clear Y8 YJ ZQ UZ VF;right;obtain⟨Vn,UW,VT,_⟩:=M1.hm;obtain⟨y1,hy1⟩:=WT "outcome" 4e0;left
  exists UW
  refine⟨by omega,?_⟩;refine M1.six UW (k:="outcome") 4e0 hy1 WT KM TM 0e0 (wv w) λG2 M2 XD KM TM Yb XH Yf=>?_;replace eo:=Yb eo 4e1;replace hC:=hC.kt XH;clear Yb XH Yf UW VT;right;left;obtain⟨Yy,Vo,ZE,_⟩:=M2.hm
  exists Vo
  refine λo2 Vr=>?_;generalize hg:UK G2 o2 2e0=G2a;have N:Kp [] G2 G2a:=hg▸Kp.new Vr;have VL:G2a o2=some 2e0:=hg▸aA;clear hg;have Z6:H o2=none:=by
   cases e:H o2 with
   | none=>rfl
   | some o =>
    by_cases z:o2=A0.md
    ·rw[z,Vo] at Vr;cases Vr
    ·rw[KM.at1 e z] at Vr;cases Vr
  have XC:op≠o2:=aF eo Vr;have nd2:o2≠A0.dd:=λz=>by
   obtain⟨ds,ed,_⟩:=M2.hd;rw[z,ed] at Vr;cases Vr
  replace M2:=M2.kp N;replace Vo:=N.at Vo;replace eo:=N.at eo;replace hC:=hC.kt 5e1;replace KM:=KM.trans (N.mono (T:=[A0.md]) 0e0);replace TM:=TM.trans 5e1
  exists Vo
  refine⟨by omega,?_⟩;have M3:=M2.opn Vo VL nd2;have KS2:Kp [A0.md] G2a 6e44:=Kp.iZ;have TS2:aD G2a 6e44:=aD.cR Vo;replace eo:=cX (u:=.dK 1e27) Vo eo;replace hC:=hC.kt TS2;replace KM:=KM.trans KS2;replace TM:=TM.trans TS2;generalize UK G2a A0.md (.dK 1e27)=G3 at *;clear KS2 TS2 Vo ZE N Vr VL;right
  exists eo
  refine λpt Xz=>?_;generalize hg:UK G3 pt 9e44=G3b;have N:Kp [] G3 G3b:=hg▸Kp.new Xz;have Zr:G3b pt=some 9e44:=hg▸aA;clear hg;replace M3:=M3.kp N;replace eo:=N.at eo;replace hC:=hC.kt 5e1;replace KM:=KM.trans (N.mono (T:=[A0.md]) 0e0);replace TM:=TM.trans 5e1
  exists eo
  refine⟨by omega,?_⟩;have T4:aD G3b (UK G3b op 2e7):=aD.cR eo;have K4:Kp [op] G3b (UK G3b op 2e7):=Kp.iZ;have hC4:=(hC.app 3e50).kt T4;have nod:op≠A0.dd:=λz=>s1 5e21;have nom:op≠A0.md:=λz=>s1 7e17;have M4:=M3.other (vs:=us++[.ref pt]) eo XC nod;have KF:Kp [A0.md,op] H (UK G3b op 2e7):=λb o e n=>K4.at1 (KM.at1 e 5e20) 5e20;obtain⟨w1,w2,w3⟩:=F0.new Z6;refine q _ p _ (F0.asm 3e19 XD ?_ ?_ ?_ ⟨?_,?_⟩ 6e30 1e52 rfl F0.ps w1 w2) ⟨_,aA,hC4,RT s1 XC,s2,s3⟩ 9e41
  ·simp[cZ,c1]
  ·simp[cZ,c2]
  ·simp[cZ,c3]
  ·simp[cZ]
  ·simp
  ·obtain⟨a1,a2,a3,a4,a5⟩:=F0.Eb s1 s2 s3 hb;exact KF b o e 9e48
  ·simp only[Α,Δ,Ψ] at hb;rcases hb with rfl|rfl
   ·obtain⟨kv,e,_⟩:=M4.hm;exact⟨.inl aW.1,_,e⟩
   ·exact⟨.inr 0e0,_,aA⟩
theorem oB:Ok T 4e34 1 Dx:=by
 nomatch T.r 53
 ·obtain⟨n,rfl,_⟩:=h;rfl
 ·obtain⟨n,rfl,q⟩:=h
  nomatch (aI (aK (bF 1e13 rfl T.A8 oP (pa2 (fX eD 9e3) (bF 7e24 rfl T.Hc Ac (pa2 9e3 pv0)))))),0
  wp_walk;exact q
theorem DA{d:Nat}(hn:3<=n)(IH:gH P w K mg base VD n (t.a 54) (t.d 54) ["saying","run"] (tY d)):Ok T 4e18 (n+1) (tY (d+1)):=by
  nomatch T.r 54
  · obtain⟨v,md,nd,od,dd,ot,S,s,rfl,_⟩:=h;rfl
  · obtain⟨v,md,nd,od,dd,ot,S,s,rfl,hS,hd,UQ,M,hP,q⟩:=h;have hu:=nZ hr
    nomatch (aG (pst 2 4e2) (aG (pif 8e3 9e51) (aG (pif 8e3 6e22) (aG (pif 8e3 (aI (aK (tR hu 7e2 4e2 ⟨rfl,rfl,rfl,rfl⟩)))) (aG (pif 8e3 (aI (aK 7e2))) (aG (pif 8e3 (aI (aK (pcl (oB T) 4e34 (pa1 7e2))))) (aG (pst 3 1e42) (aG (pif 8e3 (aI (aK (tR hu (bR ((CO rfl)) rfl T.Kn KI (pa1 7e2)) pv3 ⟨rfl,rfl,rfl,rfl⟩)))) (aG (pif 8e3 (aI (aK (bR gO rfl T.yJ lY (pa1 (MT (pcr mJ pv3 cK) (mN (pcr aY pv3 aB)))))))) (aG (pst 4 1e42) (aG (pif 8e3 (aI (aK (bR gO rfl T.yJ lY (pa1 (pcr aY pv3 pv4)))))) (aG (pst 5 (AD pv3 (mN aB))) (pss3 (pst 6 2e49) (pif 8e3 (aI (aK (bR gO rfl T.yJ lY (pa1 (pcr jX pv5 pv6)))))) (aK (pcl (oB T) 4e34 (pa1 (pdg (EC (fR aE (bE cH pv5 pv6) (fR aE (bE jK pv5 pv6) (fR aE (bE mK pv5 pv6) EG))) rfl rfl 1e46 6e0) pv2))))))))))))))))),0
    obtain⟨kvs,em,_,v1,v2,v3,v4,v5,v6⟩:=M.hm;cases hS with
    | num e =>
      exists e
      exact q _ Kp.refl
    | UL e =>
      exists e
      exact q _ Kp.refl
    | @name a x e =>
      exists e,em,v1,M.hn,pS
      exact q _ Kp.refl
    | arg e =>
      exists e,em,v2
      exact q _ Kp.refl
    | now e =>
      exists e,em,v3
      exact q _ Kp.refl
    | @ans a v s e h1 =>
      exists e
      simp only[Say.depth] at hd;refine⟨_,md,nd,od,dd,ot,S,_,rfl,h1,by omega,UQ,M,hP,λH1 K1=>?_⟩;obtain⟨ds,ed,rd⟩:=M.hd
      exists K1.at em,v6,K1.at ed
      refine⟨_,(rd.kt 0e4).pairs,λp hp=>?_⟩
      exists Gc M.uq,pC
      rw[SF] at q;exact q _ (K1.trans 4e10)
    | @neg a v s e h1 =>
      exists e
      simp only[Say.depth] at hd;refine⟨_,md,nd,od,dd,ot,S,_,rfl,h1,by omega,UQ,M,hP,λH1 K1=>?_⟩;rw[SK] at q;cases hw:S.worth s with
      | none =>
        rw[hw] at q
        exists wv
        exact q _ K1
      | some z =>
        rw[hw] at q
        exists wv,reduceCtorEq
        by_cases hz:z=0
        · subst hz;exact q _ K1
        · have:=q _ K1;simp only[num,Ε2,hz,Β4,wv] at this;simpa[hz] using this
    | @two a v u g s1 s2 e h1 h2 =>
      simp only[Say.depth] at hd;rw[SN] at q;have w1:dU 2e17:=Ea hP UQ.1;have w2:dU 1e17:=Ea hP UQ.2;have b1:=vC w1;have b2:=vC w2;cases g <;>
      ( exists e,Sg.s
        refine⟨_,md,nd,od,dd,ot,S,_,rfl,h1,by omega,UQ.1,M,hP,λH1 K1=>?_⟩
        exists K1.at e,Sg.s
        refine⟨_,md,nd,od,dd,ot,S,_,rfl,h2.kp 0e4,by omega,UQ.2,M.kp K1,hP,λH2 K2=>?_⟩;have q0:=q;replace q:=q H2 3e22;wp_walk)
      case eq =>
        refine Rq ?_;wp_walk;rw[show(Sg.eq.of 2e17 1e17)=if S.worth s1=S.worth s2 then 1 else 0 from rfl] at q;simpa[wv] using q
      case lt =>
        exists Ε6
        exact q
      all_goals (
        refine λp hp=>⟨Eu 1e0 1e0,[(.inr "+",.int (num 2e17+num 1e17)),(.inr "-",.int (num 2e17 - num 1e17)),(.inr "*",.int (num 2e17 * num 1e17))],rfl,by simp,?_⟩
        exists Gd,Sz,SE,SD
        exact q0 _ ((K1.trans K2).trans (LJ hp)))
theorem jH(T:Tx P w base K mg t):∀d,gH P w K mg base VD (d+3) (t.a 54) (t.d 54) ["saying","run"] (tY d):=by
 intro d
 induction d with
 | zero=>exact⟨λ_ _ _ _ x=>by (obtain⟨_,_,_,_,_,_,_,s,_,_,h,_⟩:=x;exact absurd h (by have:=s.nC;omega)),λ_ _ _ _ _ _ _ _ _ _ _ _ _ x=>by (obtain⟨_,_,_,_,_,_,_,s,_,_,h,_⟩:=x;exact absurd h (by have:=s.nC;omega))⟩
 | succ d ih=>exact DA T 1e0 ih
theorem Aw:Ok T (T.r 60) 11 (Dy (λm=>∃x ss,m=.wait x ss)):=by
 nomatch T.r 60
 ·obtain⟨P0,A0,S,p,v,m,rfl,_⟩:=h;rfl
 ·obtain⟨P0,A0,S,p,v,m,rfl,F,sn,hs,gm,g,st,hP,b1,b2,b3,q⟩:=h
  nomatch (aG (AF (i:=2) sc rfl 0e53 (pX (fr:=[0]) (N:=["saying","run"]) rfl 4e3 (eC.free rfl rfl rfl rfl rfl 6e25 rfl 6e0 rfl 4e35) (Ju 3e0) (λC s H ex pn=>⟨AI,(Az 8e24 (hr.mono 1e0) rfl (T.r 54).m (T.r 54).fn.kp (T.r 54).bd .nil pass0 (dJ 0e2 (dJ 3e6 bO))) ⟩))) (aG (B5 (i:=3) (fr:=[2]) (N:=["ticket","worth","worths"]) rfl 4e3 (i5.of (M:=["ticket","worths"]) 7e25 rfl 6e0 rfl) (jY 7e0) (λC s H ex pn=>⟨j4 (dQ iT 0e2 (pv 2) 6e2) ,0e2 ⟩) sc rfl 8e10) (aG (ppt pv0 aE (pX (fr:=[2]) (N:=["ticket","worths"]) rfl 4e3 7e25 (jY 7e0) 5e36)) (pss3 (pif (PW.pt (eU (ptc 8e30 pv3 8e0) (dR (ptc 0e21 7e0 8e0)))) (pss2 5e16 tV)) (ppt 7e0 3e0 (pix aN (bE cH pv3 (aT (pa1 cK))) aB)) 5e15)))),0
  obtain⟨x,ss,rfl⟩:=gm;cases hs with
  | @wait a pp x vs ss e1 e2 hss =>
   obtain⟨_,g4,gs⟩:=g;have lv:=hss.Po;obtain⟨ot,M0,VU,c1,c2,c3,c4⟩:=F.ex;left
   exists e1
   refine⟨⟨_,iR.of e2⟩,?_⟩;obtain⟨Pv,UT⟩:∃Pv:Nat->List V->Hp->Prop,∀i xs G,Pv i xs G=(Kp [] H G/\xs=((ss.take i).map S.worth).map wv):=⟨_,λ_ _ _=>rfl⟩;refine IF (ys:=vs) Pv ?_ ?_ ?_ ?_ ?_
   ·rw[UT];exact⟨Kp.refl,rfl⟩
   ·intro i xs G h;rw[UT] at h;rw[h.2,Γ,Γ,Α8];omega
   ·intro i xs G h;rw[UT] at h;exact iR.of (h.1.at e2)
   ·intro i y xs G hi ey h;rw[UT] at h;obtain⟨k,rfl⟩:=h;obtain⟨s0,es,h0⟩:=hss.atW ey;obtain⟨sk1,sk2⟩:=gs s0 (ϒ es)
    exists bC,Β1
    refine⟨y,A0.md,A0.nd,A0.od,A0.dd,ot,S,s0,rfl,h0.kp (aD.nil k),sk2,sk1,M0.kp k,hP,λG' k'=>?_⟩;show Pv 6e1 _ _;rw[UT,Β3,es];exact⟨k.trans k',by simp⟩
   intro xs G h p1 XR;rw[UT] at h;obtain⟨k,rfl⟩:=h;rw[lv,Α2];obtain⟨ws,VP⟩:∃ws,ws=ss.map S.worth:=⟨_,rfl⟩;have hd:bT S 7e12=if bB S.ans ws=none/\bK S.pend ws≠[] then ({S with sl:=.wait 1e22},[]) else ({S with nm:=cB S.nm x 5e9},[]):=by rw[VP];rfl
   rw[<- VP];have lw:ws.length<=4:=by rw[VP,Γ];exact g4
   clear VP UT Pv;have N1:=k.trans (q0D (o:=.lst 5e7) XR);have f1:UK G p1 6e7 p1=some 6e7:=aA;generalize UK G p1 6e7=G1 at *;have F1:=F.kp N1;have M1:=M0.kp N1;replace e1:=N1.at e1;right;left;obtain⟨Vn,UW,VT,u1,u2,u3,u4,u5,u6⟩:=M1.hm;obtain⟨ds,ed,Xx⟩:=M1.hd;have lds:=Xx.len
   exists UW,u6
   refine⟨⟨_,fV.of ed⟩,?_⟩;obtain⟨Pw,Vh⟩:∃Pw:Nat->List V->Hp->Prop,∀i xs G',Pw i xs G'=(G'=G1/\xs=(dC 9e50 ws).map V.int):=⟨_,λ_ _ _=>rfl⟩;refine Bz (ys:=ds) Pw ?_ ?_ ?_ ?_ ?_
   ·rw[Vh];exact⟨rfl,rfl⟩
   ·intro i xs G' h;rw[Vh] at h;have:=Γ9 (λp:Int×Wo=>decide (some p.1∈ws)) 9e50;rw[h.2,Γ,dC,Γ];rw[Α8] at this;omega
   ·intro i xs G' h;rw[Vh] at h;rw[h.1];exact fV.of ed
   ·intro i y xs G' hi ey h;rw[Vh] at h;obtain⟨rfl,rfl⟩:=h;obtain⟨t0,j0,w0,rfl,ej,et⟩:=Xx.at ey;refine⟨t0,_,_,rfl,iR.of et,?_⟩
    exists bC,Β1,f1,Ai
    refine⟨rfl,Bo ws,?_⟩;rw[Vh,Vh,Du ej];split
    ·next h=>exact⟨rfl,(if_pos 1e16).symm⟩
    ·next h=>exact⟨rfl,(if_neg 1e16).symm⟩
   intro xs G' h p2 Xy;rw[Vh,lds,Α2] at h;obtain⟨rfl,rfl⟩:=h;clear Vh Pw;have N2:=q0D (o:=.lst 5e26) Xy;have f2:UK G' p2 6e26 p2=some 6e26:=aA;have n12:p2≠A0.md:=λz=>by rw[z,UW] at Xy;cases Xy
   generalize UK G' p2 6e26=G2 at *;replace F1:=F1.kp N2;replace M1:=M1.kp N2;replace e1:=N2.at e1;replace f1:=N2.at f1;replace N1:=N1.trans N2;clear UW VT u1 u2 u3 u4 u5 u6 ed Xx N2 Vn ds lds;right;left;obtain⟨Vn,UW,VT,u1,u2,u3,u4,u5,u6⟩:=M1.hm;obtain⟨y1,hy1⟩:=VU "awaited" 4e0
   exists UW,u5
   refine⟨⟨_,fV.of M1.ho⟩,?_⟩;obtain⟨Pw,Vh⟩:∃Pw:Nat->List V->Hp->Prop,∀i xs G',Pw i xs G'=(G'=G2/\xs=((S.pend.take i).filter λj=>decide 3e51).map V.int):=⟨_,λ_ _ _=>rfl⟩;refine pN (ys:=S.pend.map V.int) Pw ?_ ?_ ?_ ?_ ?_
   ·rw[Vh];exact⟨rfl,rfl⟩
   ·intro i xs G' h;rw[Vh] at h;have:=Γ9 (λj=>decide 3e51) (S.pend.take i);rw[h.2,Γ];rw[Α8] at this;omega
   ·intro i xs G' h;rw[Vh] at h;rw[h.1];exact fV.of M1.ho
   ·intro i y xs G' hi ey h;rw[Vh] at h;obtain⟨rfl,rfl⟩:=h;rw[ϖ] at ey;obtain⟨j0,ej,rfl⟩:=ϛ.mp ey
    exists bC,Β1,f1,Ai
    refine⟨rfl,Bo ws,?_⟩;rw[Vh,Vh,FA ej];split
    ·next h=>exact⟨rfl,(if_pos 1e16).symm⟩
    ·next h=>exact⟨rfl,(if_neg 1e16).symm⟩
   intro xs G' h p3 Ys;rw[Vh,Γ,Α2,BU M1.asc] at h;obtain⟨rfl,rfl⟩:=h;clear Vh Pw;have N2:=q0D (o:=.lst 5e2) Ys;have f3:UK G' p3 (.lst 5e2) p3=some (.lst 5e2):=aA;obtain⟨w1,w2,w3⟩:=F1.new Ys;have fp3:H p3=none:=N1.cJ Ys;replace F1:=F1.kp N2;replace M1:=M1.kp N2;replace e1:=N2.at e1;replace UW:=N2.at UW;replace f2:=N2.at f2;replace N1:=N1.trans N2;generalize UK G' p3 (.lst 5e2)=G1 at *;have KM:Kp [A0.md] G1 G1:=Kp.refl;have TM:aD G1 G1:=λ_ _ e=>e;have WT:=VU
   exists UW
   refine⟨by omega,?_⟩;refine M1.six UW (k:="awaited") 4e0 hy1 WT KM TM 0e0 5e33 λG2 M2 XD KM TM Yb XH Yf=>?_;replace f2:=Yb f2 4e1;replace f3:=Yb f3 4e1;replace e1:=Yb e1 4e1;clear Yb XH Yf UW VT;right;obtain⟨V8,M2,XD,d1,d2,d3,da,dm⟩:∃V8:Str->Option V,cS G2 A0.md A0.nd A0.od A0.dd V8 S/\(∀k∈OK6,∃v,V8 k=some v)/\V8 "code"=some 5e17/\V8 "at"=some 4e11/\V8 "letters"=some 4e17/\V8 "awaited"=some 5e33/\V8 "mode"=some 0e55:=⟨_,M2,XD,(eR).trans c1,(eR).trans c2,(eR).trans c3,wH,(eR).trans (by rw[sn] at c4;exact c4)⟩;have kn2:(fH S.nm).length<=100000:=by rw[fH,Γ];exact b1
   refine bU λR4 Yl=>?_;refine cO λRI UR=>?_
   suffices fin:(bB S.ans ws=none/\bK S.pend ws≠[]->∀G,6e35->RI [some 6e4,some 3e2,some 0e13,some 2e3] G)/\(¬ 6e40->∀G,6e35->R4 [some 6e4,some 3e2,some 0e13,some 2e3] G) by
    obtain⟨Yy,Vo,ZE,t1,t2,t3,t4,t5,t6⟩:=M2.hm;have va:aZ Yy 3e49=some 5e33:=(ZE.2 _ 4e0).trans da
    exists f2
    refine λq1 h1=>⟨_,Mg ((q0D h1).at f2) aA,?_⟩;generalize hg:UK G2 q1 2e0=G3;have NQ:Kp [] G2 G3:=hg▸Kp.new h1;clear hg;replace M2:=M2.kp NQ;replace Vo:=NQ.at Vo;replace f2:=NQ.at f2;replace f3:=NQ.at f3;replace e1:=NQ.at e1;replace KM:=KM.trans (NQ.mono (T:=[A0.md]) 0e0);replace TM:=TM.trans 0e54
    exists Vo,va
    split
    ·next hr =>
     have hf:bB S.ans ws=none:=by rw[mP];simpa using hr
     refine λq2 h2=>⟨_,Mg ((q0D h2).at f3) aA,?_⟩;have NR:=q0D (o:=.lst []) h2;split
     ·next ho=>exact fin.1 ⟨hf,by simpa using ho⟩ _ ⟨M2.kp NR,NR.at e1,NR.at f2,NR.at f3,KM.trans (NR.mono 0e0),TM.trans 9e53⟩
     ·next ho=>exact fin.2 (λz=>ho (by simpa using z.2)) _ ⟨M2.kp NR,NR.at e1,NR.at f2,NR.at f3,KM.trans (NR.mono 0e0),TM.trans 9e53⟩
    ·next hr=>exact fin.2 (λz=>hr (by have:=z.1;rw[mP] at this;simpa using this)) _ ⟨M2,e1,f2,f3,KM,TM⟩
   clear KM TM M2 e1 f2 f3;refine⟨λcw G3 ⟨M3,e1,f2,f3,KM,TM⟩=>UR _ _ ?_,λcw G3 ⟨M3,e1,f2,f3,KM,TM⟩=>?_⟩
   ·clear UR RI;have os3:=XD;obtain⟨XB,Vt,Wp,_⟩:=M3.hm;obtain⟨y3,hy3⟩:=os3 "mode" 4e0;left
    exists Vt
    refine⟨by omega,?_⟩;refine M3.six Vt (k:="mode") 4e0 hy3 os3 KM TM 0e0 (.str "wait") λG4 M4 os4 KM TM kp3 TS3 ZR=>?_;replace f3:=kp3 f3 4e1;clear kp3 TS3 ZR Vt Wp;right;wp_walk;have h1:one S 7e12=({S with sl:=.wait 1e22},[]):=by rw[j6 rfl,hd,if_pos cw];rfl
    rw[h1] at q;refine q {A0 with aw:=p3} p G4 ((F1.Sk sn p3).oM 3e19 os4 5e50 ((eR).trans d2) 4e50 ⟨wH,(eR).trans da,f3,w3⟩ 5e40 TM rfl F1.ps) (((Fm.of N1).trans 4e27).awN fp3 f3);rw[show b=A0.md by simpa using hb];obtain⟨kv,e,_⟩:=M4.hm;exact⟨.inl aW.1,_,e⟩
   ·clear UR RI;refine Yl _ _ ?_;clear Yl;clear R4;obtain⟨XB,Vt,Wp,t1,t2,t3,t4,t5,t6⟩:=M3.hm;left
    exists Vt,t1,f2,e1,M3.hn
    refine λp4 h4=>?_;generalize hg:UK G3 p4 6e53=G4;have N4:Kp [] G3 G4:=hg▸Kp.new h4;have e4:G4 p4=some 6e53:=hg▸aA;clear hg;replace M3:=M3.kp N4;replace Vt:=N4.at Vt;replace f2:=N4.at f2;replace e1:=N4.at e1;replace KM:=KM.trans (N4.mono (T:=[A0.md]) 0e0);replace TM:=TM.trans 2e2
    exists f2,e4
    refine⟨by have:=GO S.ans ws;rw[Γ];omega,λp5 h5=>?_⟩;rw[Jz];have N5:=q0D (o:=.lst 8e41) h5;replace M3:=M3.kp N5;replace Vt:=N5.at Vt;replace e1:=N5.at e1;replace KM:=KM.trans (N5.mono (T:=[A0.md]) 0e0);replace TM:=TM.trans (aD.nil N5);generalize UK G4 p5 (.lst 8e41)=G5 at *
    exists Vt,t1,e1,M3.hn,gE
    refine⟨by omega,?_⟩;have M6:=M3.name x 5e9;have TN:aD G5 0e45:=aD.cR M3.hn;have KN:Kp [A0.md,A0.nd] G5 0e45:=Kp.set 0e0;replace KM:=(KM.mono (T:=[A0.md,A0.nd]) 0e0).trans KN;replace TM:=TM.trans TN;generalize UK G5 A0.nd (.dK 7e14)=G6 at *;clear Vt Wp t1 t2 t3 t4 t5 t6 N4 N5 TN KN;have os6:=XD;right;obtain⟨kv6,em6,lk6,_⟩:=M6.hm;have vat:aZ kv6 3e1=some 4e11:=(lk6.2 _ 4e0).trans d2;obtain⟨y6,hy6⟩:=os6 "at" 4e0
    exists em6,vat
    refine⟨by omega,?_⟩;refine M6.six em6 (k:="at") 4e0 hy6 os6 KM TM 0e0 4e48 λG7 M7 os7 KM TM kp6 TS6 KS6=>?_;clear kp6 TS6 KS6 em6 lk6;have h1:one S 7e12=(({S with nm:=cB S.nm x 5e9}:Pu).pass,[]):=by rw[j6 rfl,hd,if_neg cw,if_pos (by rw[show(({S with nm:=cB S.nm x 5e9}:Pu).sl)=S.sl from rfl,sn];rfl)]
    rw[h1] at q;have V7:=F1.ps.pass st;rw[J4 rfl] at V7;refine q A0 (p+1) G7 (F1.oM 7e40 os7 5e50 wH 4e50 ?_ (λb o e hb=>KM b o e (by have:=F1.far hb;simp[this.1,this.2.1])) TM rfl V7) 5e27
    ·show eY _ _ _ S.sl;rw[sn] at c4 ⊢;exact(eR).trans dm
    ·simp only[Α,Δ,Ψ] at hb;rcases hb with rfl|rfl
     ·obtain⟨kv,e,_⟩:=M7.hm;exact⟨.inl aW.1,_,e⟩
     ·exact⟨.inl aW.2.1,_,M7.hn⟩
theorem Av:Ok T (T.r 61) 1 (Dy (λm=>∃x k,m=.UP x k)):=by
 nomatch T.r 61
 ·obtain⟨P0,A0,S,p,v,m,rfl,_⟩:=h;rfl
 ·obtain⟨P0,A0,S,p,v,m,rfl,F,sn,hs,gm,g,st,hP,b1,b2,b3,q⟩:=h;have hu:=nZ hr
  nomatch (pss3 (pif (ptc 8e30 (rQ hu 7e0 3e0 8e0 ⟨rfl,rfl,rfl,rfl⟩) 8e0) (pss2 5e16 tV)) (ppt 7e0 3e0 1e36) 5e15),0
  obtain⟨x,k,rfl⟩:=gm;cases hs with
  | @UP a x k e1 =>
   obtain⟨ot,M0,VU,c1,c2,c3,c4⟩:=F.ex;obtain⟨lk,ml,el,hl,ZC,hq⟩:=F.lt;obtain⟨U7,UZ,VF,t1,t2,t3,t4,t5,t6⟩:=M0.hm;have vl:aZ U7 7e21=some 4e17:=(VF.2 _ 4e0).trans c3;have kn2:(fH S.nm).length<=100000:=by rw[fH,Γ];exact b1
   refine bU λR1 hR1=>?_;refine cO λRI UR=>?_
   suffices fin:((aS S.lt k).getD []=[]->∀G,Kp [] H G->RI [some 6e4,some 3e2] G)/\(∀w r l,(aS S.lt k).getD []=w::r->aZ lk 9e2=some 0e35->l∈A0.las->∀G,G l=some (.lst ((w::r).map wv))->Kp [] H G->R1 [some 6e4,some 3e2] G) by
    exists UZ,vl,e1,el
    refine λp1 h1=>?_;have N1:=q0D (o:=.lst []) h1;have e0:UK H p1 2e0 p1=some 2e0:=aA;have hl':=hl.keep 4e29;have el':=N1.at el;obtain⟨l,ws,hv,Xc,VP,hx⟩:∃l ws,(aZ lk 9e2).getD 0e13=.ref l/\UK H p1 2e0 l=some 6e7/\(aS S.lt k).getD []=ws/\(ws≠[]->aZ lk 9e2=some 0e35/\l∈A0.las):=by
     rcases hl'.look k with⟨z1,z2⟩|⟨l,ws,z1,z2,z3,z4⟩
     ·exact⟨p1,[],by rw[z1];rfl,e0,by rw[<- hq k,z2];rfl,λz=>absurd rfl z⟩
     ·exact⟨l,ws,by rw[z1];rfl,z4,by rw[<- hq k,z2];rfl,λ_=>⟨z1,z3⟩⟩
    generalize UK H p1 2e0=G1 at *
    exists el',hv
    refine λp2 h2=>?_;have N2:=q0D (o:=.lst []) h2;have XO:=N2.at Xc;refine⟨_,Mg XO aA,?_⟩;cases ws with
    | nil=>exact fin.1 VP _ 2e52
    | cons w r =>
     obtain⟨x1,x2⟩:=hx 0e0;exact fin.2 w r l VP x1 x2 _ XO 2e52
   refine⟨λhn G1 N1=>UR _ _ ?_,λw r l hn hv hll G1 X0 N1=>?_⟩
   ·clear UR RI;have M1:=M0.kp N1;have WT:=VU;have KM:Kp [A0.md] G1 G1:=Kp.refl;have TM:aD G1 G1:=λ_ _ e=>e;have F1:=F.kp N1;obtain⟨Vn,UW,VT,_⟩:=M1.hm;obtain⟨y1,hy1⟩:=WT "mode" 4e0;left
    exists UW
    refine⟨by omega,?_⟩;refine M1.six UW (k:="mode") 4e0 hy1 WT KM TM 0e0 (.str "hear") λG2 M2 XD KM TM Yb XH Yf=>?_;clear Yb XH Yf UW VT;right;wp_walk;have h1:one S 2e11=({S with sl:=.UP k},[]):=by
     have:bT S 2e11=({S with sl:=.UP k},[]):=by simp only[bT,hn]
     rw[j6 rfl,this];rfl
    rw[h1] at q;refine q A0 p G2 (F1.oM (M2.as ⟨rfl,rfl,rfl,rfl,rfl,rfl⟩) XD 5e31 6e50 4e31 wH 5e40 TM rfl F1.ps) 5e27;rw[show b=A0.md by simpa using hb];obtain⟨kv,e,_⟩:=M2.hm;exact⟨.inl aW.1,_,e⟩
   ·clear UR RI;refine hR1 _ _ ?_;clear hR1 R1;have F1:=F.kp N1;have M1:=M0.kp N1;replace UZ:=N1.at UZ;replace e1:=N1.at e1;replace el:=N1.at el;replace hl:=hl.keep 4e29;left
    exists UZ,t1,vl,el,e1,M1.hn,hv,X0
    rw[show(wv w::r.map wv).tail=r.map wv from rfl];obtain⟨g1,g2,g3,g4⟩:=F1.s2 l hll;have fl:=F1.far (.inr (.inr (.inr hll)));have M2:=M1.other (vs:=r.map wv) X0 g1 g2;have XO:=hl.set r hv F1.nl;have KM:Kp [A0.md,A0.nd,l] G1 (UK G1 l 4e12):=Kp.set 0e0;have TM:aD G1 (UK G1 l 4e12):=aD.cR X0;replace UZ:=cX (u:=.lst 2e28) X0 UZ;replace el:=cX (u:=.lst 2e28) X0 el;replace e1:=TM _ _ e1;have ZZ:UK G1 l 4e12 l=some 4e12:=aA;generalize UK G1 l 4e12=G2 at *
    exists UZ,t1,e1,M2.hn,gE
    refine⟨by omega,?_⟩;have M3:=M2.name x w;have TN:aD G2 1e45:=aD.cR M2.hn;have KN:Kp [A0.md,A0.nd,l] G2 1e45:=Kp.set 0e0;replace el:UK G2 A0.nd (.dK 1e2) A0.ld=some (.dK lk):=by rw[aC F.n2.symm];exact el
    replace ZZ:=cX (u:=.dK 1e2) M2.hn ZZ;replace XO:=XO.keep (H':=UK G2 A0.nd (.dK 1e2)) (λa ha o e=>by rw[aC (F1.far 6e45).2.1];exact e);replace KM:=KM.trans KN;replace TM:=TM.trans TN;generalize UK G2 A0.nd (.dK 1e2)=G3 at *;clear UZ VF t1 t2 t3 t4 t5 t6 TN KN;have os3:=VU;right;obtain⟨XB,Vt,Wp,_⟩:=M3.hm;have vat:aZ XB 3e1=some 4e11:=(Wp.2 _ 4e0).trans c2;obtain⟨y3,hy3⟩:=os3 "at" 4e0
    exists Vt,vat
    refine⟨by omega,?_⟩;refine M3.six Vt (k:="at") 4e0 hy3 os3 KM TM 0e0 4e48 λG4 M4 os4 KM TM kp3 TS3 ZR=>?_;replace el:=ZR _ _ el (by simp[F.n1.symm]);replace ZZ:=kp3 ZZ 4e1;replace XO:=XO.keep λa ha o e=>ZR a o e (by simp[(F1.far 6e45).1]);clear kp3 TS3 ZR Vt Wp;have h1:one S 2e11=(({S with nm:=cB S.nm x w,lt:=dG S.lt k r}:Pu).pass,[]):=by
     have:bT S 2e11=({S with nm:=cB S.nm x w,lt:=dG S.lt k r},[]):=by simp only[bT,hn]
     rw[j6 rfl,this,if_pos (by rw[show(({S with nm:=cB S.nm x w,lt:=dG S.lt k r}:Pu).sl)=S.sl from rfl,sn];rfl)]
    rw[h1] at q;have V7:=F1.ps.pass st;rw[J4 rfl] at V7;refine q A0 (p+1) G4 (F1.Nu 3e19 os4 5e31 wH 4e31 ?_ 6e30 TM ⟨lk,_,el,XO,⟨by rw[nQ];exact ZC.1,by rw[mT];exact ZC.2⟩,λj=>?_⟩ V7 F1.nl F1.s2) 5e27
    ·show eY _ _ _ S.sl;rw[sn] at c4 ⊢;exact(eR).trans c4
    ·have Vl:b=A0.cl\/b∈A0.cs\/b=A0.ld\/b∈A0.las:=hb.elim .inl 7e45;have hf:=F1.far Vl;refine KM b o e ?_;simp only[Α,Δ,Ψ,not_or];refine⟨hf.1,hf.2.1,λz=>?_⟩;subst z;rcases hb with hb|hb
     ·exact g3 hb
     ·exact g4 hb
    ·show _=(aS (dG S.lt k r) j).getD [];rw[uW hn,uW (by rw[hq k];exact hn),hq j]
    ·simp only[Α,Δ,Ψ] at hb;rcases hb with rfl|rfl|rfl
     ·obtain⟨kv,e,_⟩:=M4.hm;exact⟨.inl aW.1,_,e⟩
     ·exact⟨.inl aW.2.1,_,M4.hn⟩
     ·exact⟨.inl (by simp[Fa.mut,hll]),_,ZZ⟩
theorem pV:Ok T (T.r 57) 1 ES:=by
 nomatch T.r 57
 ·obtain⟨md,nd,od,dd,ot,S,x,rfl,_⟩:=h;rfl
 ·obtain⟨md,nd,od,dd,ot,S,x,rfl,M,b1,b2,b3,q⟩:=h
  nomatch (aG 5e15 (pss3 (aQ (dM 7e0 (bE jK 7e0 aB))) (ppt 7e0 pv1 (bE jK 7e0 aB)) (aK (bE jK 7e0 aB)))),0
  obtain⟨kvs,em,lk,v1,v2,v3,v4,v5,v6⟩:=M.hm;left
  exists em,v4
  have M1:=M.made em;have K1:Kp [md,nd,od] H (UK H md 6e37):=Kp.set 0e0;refine⟨by omega,?_⟩;generalize UK H md 6e37=G1 at *;right;left;obtain⟨Vn,UW,VT,x1,x2,x3,x4,x5,x6⟩:=M1.hm;have e4:((({S with made:=S.made+1}:Pu).made:Nat):Int) - 1=(S.made:Int):=by show((S.made+1:Nat):Int) - 1=_;omega
  exists UW,x5,M1.ho,x4,e4
  refine⟨by rw[Γ];show S.pend.length < _;omega,?_⟩;have ea:S.pend.map V.int++[V.int (S.made:Int)]=(S.pend++[(S.made:Int)]).map V.int:=by simp
  rw[show({S with made:=S.made+1}:Pu).pend=S.pend from rfl,ea];have M2:=M1.open (pd:=S.pend++[(S.made:Int)]) (List.pairwise_append.mpr ⟨M.asc,by simp,λi hi j hj=>by rw[show j=(S.made:Int) by simpa using hj];exact(M.lt i hi).2⟩) (λi hi=>by
   rcases Κ.mp hi with hi|hi
   ·have:=M.lt i hi;exact⟨this.1,by show i < ((S.made+1:Nat):Int);omega⟩
   ·rw[show i=(S.made:Int) by simpa using hi];exact⟨by omega,by show(S.made:Int) < ((S.made+1:Nat):Int);omega⟩) (λp hp hi=>by
   have d:=M.dis p hp;rcases Κ.mp hi with hi|hi
   ·exact d.1 hi
   ·have:p.1=(S.made:Int):=by simpa using hi
    omega)
  have K2:Kp [md,nd,od] H _:=K1.trans (Kp.set (p:=od) (o:=.lst 1e41) 0e0);generalize UK G1 od (.lst 1e41)=G2 at *;right;left;obtain⟨Yy,Vo,ZE,y1,y2,y3,y4,y5,y6⟩:=M2.hm;have ep:aR 1e33 (.inr x) 9e47=fH (cB S.nm x 0e7):=gE S.nm x 0e7;have l1:(fH S.nm).length<=100000:=by rw[fH,Γ];exact b3
  have Yr:G2 nd=some (.dK 1e33):=M2.hn
  exists Vo,y1,y4,e4,Yr,ep
  refine⟨by omega,?_⟩;have M3:=M2.name x 0e7;have K3:Kp [md,nd,od] H _:=K2.trans (Kp.set (p:=nd) (o:=.dK 9e29) 0e0);replace M3:cS (UK G2 nd (.dK 9e29)) md nd od dd ot (S.rF x):=M3;generalize UK G2 nd (.dK 9e29)=G3 at *;right;obtain⟨XB,Vt,Wp,z1,z2,z3,z4,z5,z6⟩:=M3.hm
  exists Vt,z4
  rw[show(((S.rF x).made:Nat):Int) - 1=(S.made:Int) from by show((S.made+1:Nat):Int) - 1=_;omega];exact q G3 M3 K3
theorem yC:Ok T (T.r 59) 10 MY:=by
 nomatch T.r 59
 ·obtain⟨md,nd,od,dd,op,ot,v,S,m,us,cs,rfl,_⟩:=h;rfl
 ·obtain⟨md,nd,od,dd,op,ot,v,S,m,us,cs,rfl,M,hs,Vm,g,hP,b1,b2,b3,eo,hC,b4,Yc,XC,q⟩:=h
  nomatch (pss3 (pst 3 3e0) (pst 4 (pcl 8e24 4e18 (pa2 0e12 pv0))) (fY 7e3 (aI (ppt 7e0 3e0 pv4)) (aI (fY 7e3 (pss2 (pst 5 (bF 7e24 rfl T.Hc Ac (pa2 9e3 (bE cH 7e0 (bF 1e13 rfl T.A8 oP (pa2 aB 2e49)))))) (aQ (dM pv2 (aX (pa3 aE 2e41 pv5))))) (aI (fY 7e3 (aI (aQ (dM pv2 (aX (dJ aE (pa3 (pcl 8e24 4e18 (pa2 3e0 pv0)) 3e0 pv4)))))) (aI (fY 7e3 (aI (pif (dQ iT pv4 7e0 6e2) (pss2 (aQ (qA PySem.F.slot_list_remove PySem.F.type_list_remove IT 7e0 (pa1 pv4))) (aQ (dM pv2 (aX (pa2 aE pv4))))))) (aI (aQ (dM pv2 (aX (dJ pv3 (pa3 2e41 3e0 pv4)))))))))))))),0
  cases hs with
  | @set a x v s e1 h1 =>
   have i1:gY [V.str "set",.str x,v] (-1)=some v:=rfl;left
   exists e1
   right;left
   exists e1,i1
   refine⟨v,md,nd,od,dd,ot,S,s,rfl,h1,g.2,g.1,M,hP,λH1 K1=>?_⟩;have M1:=M.kp K1;have e2:=K1.at e1;have Vz:=K1.at eo;have Xa:=hC.kt 0e4;have T1:=aD.nil K1;obtain⟨kvs,em,lk,v1,v2,v3,v4,v5,v6⟩:=M1.hm;right;have l1:(fH S.nm).length<=100000:=by rw[fH,Γ];exact b3
   exists em,v1,M1.hn,e2,gE
   refine⟨by omega,?_⟩;have M2:=M1.name x 8e1;have t2:aD H1 (UK H1 nd (.dK 0e30)):=aD.cR M1.hn;exact q _ us M2 (cX M1.hn Vz) (by show iC _ us (cs++[]);rw[Ϝ];exact Xa.kt t2) ((K1.mono 0e0).trans (Kp.set 0e0))
  | @order a x y v s e1 h1 =>
   have i1:gY [V.str "order",.str x,.str y,v] (-1)=some v:=rfl;left
   exists e1
   right;left
   exists e1,i1
   refine⟨v,md,nd,od,dd,ot,S,s,rfl,h1,g.2,g.1,M,hP,λH1 K1=>?_⟩;have M1:=M.kp K1;have e2:=K1.at e1;have Vz:=K1.at eo;have Xa:=hC.kt 0e4;have T1:=aD.nil K1;obtain⟨kvs,em,lk,v1,v2,v3,v4,v5,v6⟩:=M1.hm;right
   exists e2,Vz
   refine⟨md,nd,od,dd,ot,S,x,rfl,M1,b1,b2,b3,λH2 M2 K2=>?_⟩;have T2:aD H1 H2:=M1.tk K2 5e25;have W9:=T2 _ _ e2;have VL:=K2 _ _ Vz 8e31;have X3:=Xa.kt T2;have KK:Kp [md,nd,od,op] H H2:=(K1.mono 0e0).trans (K2.mono 0e0)
   exists W9,VL
   refine λp hp=>?_;generalize hg:UK H2 p 6e38=G3;have N3:Kp [] H2 G3:=hg▸Kp.new hp;have e3:G3 p=some 6e38:=hg▸aA;clear hg;have VE:=N3.at VL;have M3:=M2.kp N3;have VM:=X3.kt 0e11;have K3:=KK.trans (N3.mono (T:=[md,nd,od,op]) 0e0)
   exists VE
   refine⟨by omega,?_⟩;have t4:aD G3 9e14:=aD.cR VE;exact q _ _ 0e16 aA 1e15 6e15
  | @child a x y v s e1 h1 =>
   have i1:gY [V.str "child",.str x,.str y,v] (-1)=some v:=rfl;left
   exists e1
   right;left
   exists e1,i1
   refine⟨v,md,nd,od,dd,ot,S,s,rfl,h1,g.2,g.1,M,hP,λH1 K1=>?_⟩;have M1:=M.kp K1;have e2:=K1.at e1;have Vz:=K1.at eo;have Xa:=hC.kt 0e4;have T1:=aD.nil K1;obtain⟨kvs,em,lk,v1,v2,v3,v4,v5,v6⟩:=M1.hm;right
   exists e2,Vz
   refine⟨md,nd,od,dd,ot,S,x,rfl,M1,b1,b2,b3,λH2 M2 K2=>?_⟩;have T2:aD H1 H2:=M1.tk K2 5e25;have W9:=T2 _ _ e2;have VL:=K2 _ _ Vz 8e31;have X3:=Xa.kt T2;have KK:Kp [md,nd,od,op] H H2:=(K1.mono 0e0).trans (K2.mono 0e0)
   exists W9,VL
   refine λp hp=>?_;generalize hg:UK H2 p 7e38=G3;have N3:Kp [] H2 G3:=hg▸Kp.new hp;have e3:G3 p=some 7e38:=hg▸aA;clear hg;have VE:=N3.at VL;have M3:=M2.kp N3;have VM:=X3.kt 0e11;have K3:=KK.trans (N3.mono (T:=[md,nd,od,op]) 0e0)
   exists VE
   refine⟨by omega,?_⟩;have t4:aD G3 9e14:=aD.cR VE;exact q _ _ 0e16 aA 1e15 6e15
  | @UX a x v s e1 h1 =>
   have i1:gY [V.str "timer",.str x,v] (-1)=some v:=rfl;left
   exists e1
   right;left
   exists e1,i1
   refine⟨v,md,nd,od,dd,ot,S,s,rfl,h1,g.2,g.1,M,hP,λH1 K1=>?_⟩;have M1:=M.kp K1;have e2:=K1.at e1;have Vz:=K1.at eo;have Xa:=hC.kt 0e4;have T1:=aD.nil K1;obtain⟨kvs,em,lk,v1,v2,v3,v4,v5,v6⟩:=M1.hm;right
   exists e2,Vz,em,v3,NU
   refine⟨md,nd,od,dd,ot,S,x,rfl,M1,b1,b2,b3,λH2 M2 K2=>?_⟩;have T2:aD H1 H2:=M1.tk K2 5e25;have W9:=T2 _ _ e2;have VL:=K2 _ _ Vz 8e31;have X3:=Xa.kt T2;have KK:Kp [md,nd,od,op] H H2:=(K1.mono 0e0).trans (K2.mono 0e0)
   exists W9,VL
   refine λp hp=>?_;generalize hg:UK H2 p 5e37=G3;have N3:Kp [] H2 G3:=hg▸Kp.new hp;have e3:G3 p=some 5e37:=hg▸aA;clear hg;have VE:=N3.at VL;have M3:=M2.kp N3;have VM:=X3.kt 0e11;have K3:=KK.trans (N3.mono (T:=[md,nd,od,op]) 0e0)
   exists VE
   refine⟨by omega,?_⟩;have t4:aD G3 9e14:=aD.cR VE;exact q _ _ 0e16 aA 1e15 6e15
  | @send a k v u s r e1 h1 h2 =>
   have i1:gY [V.str "send",v,.str k,u] (-1)=some u:=rfl;left
   exists e1
   right;left
   exists e1,i1
   refine⟨u,md,nd,od,dd,ot,S,r,rfl,h2,g.2.2,g.2.1,M,hP,λH1 K1=>?_⟩;have M1:=M.kp K1;have e2:=K1.at e1;have Vz:=K1.at eo;have Xa:=hC.kt 0e4;have T1:=aD.nil K1;obtain⟨kvs,em,lk,v1,v2,v3,v4,v5,v6⟩:=M1.hm;right
   exists e2,Vz
   refine⟨v,md,nd,od,dd,ot,S,s,rfl,h1.kp T1,g.1.2,g.1.1,M1,hP,λH2 K2=>?_⟩;have M2:=M1.kp K2;have W9:=K2.at e2;have VL:=K2.at Vz;have X3:=Xa.kt 3e32;have KK:Kp [md,nd,od,op] H H2:=(K1.trans K2).mono 0e0
   exists W9,VL
   refine λp hp=>?_;generalize hg:UK H2 p 4e38=G3;have N3:Kp [] H2 G3:=hg▸Kp.new hp;have e3:G3 p=some 4e38:=hg▸aA;clear hg;have VE:=N3.at VL;have M3:=M2.kp N3;have VM:=X3.kt 0e11;have K3:=KK.trans (N3.mono (T:=[md,nd,od,op]) 0e0)
   exists VE
   refine⟨by omega,?_⟩;have t4:aD G3 9e14:=aD.cR VE;exact q _ _ 0e16 aA 1e15 6e15
  | @drop a v s e1 h1 =>
   have i1:gY [V.str "drop",v] (-1)=some v:=rfl;left
   exists e1
   right;left
   exists e1,i1
   refine⟨v,md,nd,od,dd,ot,S,s,rfl,h1,g.2,g.1,M,hP,λH1 K1=>?_⟩;have M1:=M.kp K1;have e2:=K1.at e1;have Vz:=K1.at eo;have Xa:=hC.kt 0e4;have T1:=aD.nil K1;obtain⟨kvs,em,lk,v1,v2,v3,v4,v5,v6⟩:=M1.hm;right
   exists em,v5,M1.ho,Rz
   refine⟨t7 _,nE _,?_⟩;have KK:Kp [md,nd,od,op] H H1:=K1.mono 0e0;by_cases hp:∃i,i∈S.pend/\S.worth s=some i
   ·rw[if_pos hp];obtain⟨i,hi,hw⟩:=hp;have hwv:wv 8e1=.int i:=by rw[hw];rfl
    have hd:bT S 1e18=({S with pend:=S.pend.filter λj=>decide 4e8},[[.str "drop",.int i]]):=by simp only[bT,hw,if_pos hi]
    rw[hd] at q;obtain⟨k,hk⟩:=EF hi;have ef:=kT M.asc hk;rw[hwv];wp_walk;refine⟨S.pend,M1.ho,?_⟩
    exists hk
    rw[ef];have M2:=M1.open (pd:=S.pend.filter λj=>decide 4e8) (M.asc.filter _) (λj hj=>M.lt j 7e16) (λp hp hj=>(M.dis p hp).1 7e16);have T2:aD H1 2e46:=aD.cR M1.ho;have VL:UK H1 od (.lst 5e8) op=some 0e18:=by rw[aC Yc];exact Vz
    have X3:=Xa.kt T2;have K2:Kp [md,nd,od,op] H 2e46:=KK.trans (Kp.set 0e0);generalize UK H1 od (.lst 5e8)=G2 at *
    exists VL,hwv
    refine λp hp=>?_;generalize hg:UK G2 p 6e43=G3;have N3:Kp [] G2 G3:=hg▸Kp.new hp;have e3:G3 p=some 6e43:=hg▸aA;clear hg;have VE:=N3.at VL;have M3:=M2.kp N3;have VM:=X3.kt 0e11;have K3:=K2.trans (N3.mono (T:=[md,nd,od,op]) 0e0)
    exists VE
    refine⟨by omega,?_⟩;have t4:aD G3 9e14:=aD.cR VE;exact q _ _ 0e16 aA 1e15 6e15
   ·rw[if_neg hp];have hd:bT S 1e18=(S,[]):=by
     cases hw:S.worth s with
     | none=>simp only[bT,hw]
     | some i=>simp only[bT,hw,if_neg (show ¬ i∈S.pend from λz=>hp ⟨i,z,hw⟩)]
    rw[hd] at q;wp_walk;exact q _ us M1 Vz (by show iC _ us (cs++[]);rw[Ϝ];exact Xa) KK
  | _=>cases Vm
theorem BN:Ok T (T.r 62) 14 MW:=by
 nomatch T.r 62
 ·obtain⟨P0,A0,S,p,op,N,rfl,_⟩:=h;rfl
 ·obtain⟨P0,A0,S,p,op,N,rfl,F,O,FT,lN,q⟩:=h
  nomatch (pss3 (pst 2 aB) 5e16 (qC Δ7 (ptc aY 7e0 aE) (aG (pif (ptc aY 7e0 (bF cP rfl T.lH fK (pa1 7e0))) (pss2 (aQ (pcl (sJ T) 2e34 (pa3 pv0 cK pv1))) tV)) (aG (lD (pix aN 7e0 7e0) (Js rfl (fQ 2e25 (fQ (pgn 4) (fQ (pgn 5) (fQ (pgn 6) tU)))))) (aG (pif 7e3 (pss2 (ppt pv0 aE pv6) B4)) (pss3 (pif 3e31 (aG 5e16 (pss3 (ppt pv0 aE 8e0) (aQ (dM pv1 6e10)) tV))) (pst 2 (bE cH pv2 aB)) (fY (dQ iT pv3 2e5 6e2) (aI (ppt pv0 aE (pix aN (aT (pa2 pv6 (bE cH 7e0 aB))) (bR gO rfl T.yJ lY (pa1 (pcr Jk (AD 1e38 (mN aB)) aB)))))) (aI (fY 7e3 (aI (aQ (pcl (Aw T) (T.r 60) 4e51))) (aI (fY 7e3 (aI (aQ (pcl (Av T) (T.r 61) 4e51))) (aI (fY 7e3 (aI (aQ (pcl (sJ T) 2e34 (pa3 pv0 1e38 pv1)))) (pss2 (aQ (pcl (yC T) (T.r 59) (pa3 pv0 pv4 pv1))) 5e15)))))))))))))),0
  left;wp_walk;right;obtain⟨ot,M0,VU,c1,c2,c3,c4⟩:=F.ex;have KM:Kp [A0.md] H H:=Kp.refl;have TM:aD H H:=λ_ _ e=>e;obtain⟨U7,UZ,VF,_⟩:=M0.hm;obtain⟨y0,hy0⟩:=VU "mode" 4e0;left
  exists UZ
  refine⟨by omega,?_⟩;refine M0.six UZ (k:="mode") 4e0 hy0 VU KM TM 0e0 0e55 λG1 M1 WT KM TM Y8 YJ ZQ=>?_;clear Y8 YJ ZQ UZ VF;right;obtain⟨S0,hS0⟩:∃S0:Pu,S0={S with sl:=.UL}:=⟨_,rfl⟩;rw[<- hS0] at q FT;have F1:bP P0 G1 A0 S0 p:=by
   rw[hS0];exact F.oM (M1.as ⟨rfl,rfl,rfl,rfl,rfl,rfl⟩) WT 5e31 6e50 4e31 wH (λb o e hb=>KM.at1 e (F.far hb).1) TM rfl F.ps
  have O1:g0 G1 A0 op []:=by
   obtain⟨us,eo,hC,s1,s2,s3⟩:=O;exact⟨us,KM.at1 eo (λz=>s1 7e17),hC.kt TM,s1,s2,s3⟩
  have W1:Fm [op] A0 A0 H G1:=Fm.ofK KM λb hb=>by
   rw[show b=A0.md by simpa using hb];obtain⟨kv,e,_⟩:=M1.hm;exact⟨.inl aW.1,_,e⟩
  have sn0:S0.sl=.UL:=by rw[hS0]
  clear hS0 F O M0 M1 VU WT c1 c2 c3 c4 KM TM;refine HJ λtb ZA=>?_;obtain⟨Y,hY⟩:∃Y:Nat->St->Hp->Prop,∀m Z G,Y m Z G=E9 fun(w3 w4 w5 w6:Option V) (S1:Pu) (A1:Fa) (p1 i:Nat) (cs:Cmds)=>A7 (Z=[some 6e4,some 9e17,some 1e51,w3,w4,w5,w6]) (bP P0 G A1 S1 p1) (g0 G A1 op cs) (Fm [op] A0 A1 H G) (i<=300) (cs.length<=i) ((S1.sl=.UL/\dX 300 S0=((dX (300 - i) S1).1,cs++(dX (300 - i) S1).2)/\UU true S1.bD (N+i)/\m=1e24 * 1000+S1.stk.length\/S1.sl.isN=false/\dX 300 S0=(S1,cs)/\m=0)):=⟨_,λ_ _ _=>rfl⟩;refine⟨Y,⟨_,(hY _ _ _).mpr ⟨none,none,none,none,S0,A0,p,0,[],rfl,F1,O1,W1,by omega,by simp,.inl ⟨sn0,by simp,FT.bD sn0,rfl⟩⟩⟩,?_⟩;intro m Z G hG;rw[hY] at hG;obtain⟨w3,w4,w5,w6,S1,A1,p1,i,cs,rfl,F1,O1,W1,hi,lc,hg⟩:=hG;obtain⟨ot,M1,WT,c1,c2,c3,c4⟩:=F1.ex;obtain⟨Vn,UW,VT,t1,t2,t3,t4,t5,t6⟩:=M1.hm;have V0:A1.md=A0.md:=W1.m1.1;rw[V0] at UW;have vm:aZ Vn 7e10=some (.str S1.sl.md):=(VT.2 _ 4e0).trans c4.md;have va:aZ Vn 3e1=some (.int p1):=(VT.2 _ 4e0).trans c2;have vc:aZ Vn 0e17=some (.ref A1.cl):=(VT.2 _ 4e0).trans c1
  exists UW,vm,RP
  rcases hg with⟨sn,hg,WE,rfl⟩|⟨sn,hg,rfl⟩
  ·rw[if_pos (by rw[sn];rfl)];refine⟨λZ' G'=>∃m',m' < 1e24 * 1000+S1.stk.length/\Y m' Z' G',λ_ _ z=>z,?_⟩;refine ZA _ _ _ ?_;clear ZA tb;have lcl:(A1.cs.map V.ref).length=(jF P0).length:=by rw[Γ,F1.co.len]
   have Xk:=F1.cl;rcases Ps.turn _ S1.stk p1 rfl F1.ps with⟨ep,es,V7⟩|⟨m,es,V7⟩|⟨Vd,p',pt,ec,V7,hcm,Ve⟩
   ·skip;left;refine cO λRI UR=>?_
    exists UW,va,vc,Xk,lcl,ep
    refine UR _ _ ?_;clear UR RI;left;wp_walk;refine⟨P0,A1,S1.bD,p1,none,op,cs,by rw[V0];rfl,F1.stk V7,O1,by omega,λA' p2 G' F' O' W'=>?_⟩;wp_walk;right;wp_walk;refine q A' p2 G' ?_ ?_ (W1.trans W')
    ·rw[hg,pH es];exact F'
    ·rw[hg,pH es];exact O'
   ·obtain⟨pt,ec⟩:=V7.ent es;have pl:p1 < (jF P0).length:=(Ν.mp ec).1;obtain⟨a,ea,pa,Y3,sv,Wn,eA⟩:=F1.co.at ec;have ix:gY 6e48 (p1:Int)=some 3e2:=eI 1e21;have pn:5e42=False:=by simp;omega
    have Vo:=UW;rw[<- V0] at Vo;have sT:bL S1.bD.stk=some m:=es;have nT:S1.bD.sl=.UL:=sn;replace F1:bP P0 G A1 S1.bD p1:=F1.stk V7;have kj:((m.kw=("jump":Str)))=False:=by cases m<;>simp[Stm.kw,cZ]
    have gm:=WE.stm sT;left
    exists UW,va,vc,Xk,lcl,pn
    right;left
    exists UW,va,vc,Xk,ix
    refine⟨_,fV.of eA,rfl,?_⟩;wp_walk;right;left
    exists kj
    right;left;refine cO λRI UR=>?_;wp_walk;by_cases hi3:i=300
    ·rw[if_pos 1e0];refine UR _ _ ?_;clear UR RI;rw[<- V0];obtain⟨ot,M0,VU,c1,c2,c3,c4⟩:=F1.ex;obtain⟨us,eo,hC,s1,s2,s3⟩:=O1;have lu:=hC.len;have F0:=F1;have e00:=eo;have KM:Kp [A1.md] G G:=Kp.refl;have TM:aD G G:=λ_ _ e=>e;obtain⟨U7,UZ,VF,_⟩:=M0.hm;obtain⟨y0,hy0⟩:=VU "mode" 4e0;left
     exists UZ
     refine⟨by omega,?_⟩;refine M0.six UZ (k:="mode") 4e0 hy0 VU KM TM 0e0 (.str "worn") λGW1 M1 WT KM TM Y8 YJ ZQ=>?_;replace eo:=Y8 eo 4e1;replace hC:=hC.kt YJ;clear Y8 YJ ZQ UZ VF;right;left;obtain⟨Vn,UW,VT,_⟩:=M1.hm
     exists UW
     refine λo2 Vr=>?_;generalize hg:UK GW1 o2 2e0=GW1a;have N:Kp [] GW1 GW1a:=hg▸Kp.new Vr;have VL:GW1a o2=some 2e0:=hg▸aA;clear hg;have Z6:G o2=none:=by
      cases e:G o2 with
      | none=>rfl
      | some o =>
       by_cases z:o2=A1.md
       ·rw[z,UW] at Vr;cases Vr
       ·rw[KM.at1 e z] at Vr;cases Vr
     have XC:op≠o2:=aF eo Vr;have nd2:o2≠A1.dd:=λz=>by
      obtain⟨ds,ed,_⟩:=M1.hd;rw[z,ed] at Vr;cases Vr
     replace M1:=M1.kp N;replace UW:=N.at UW;replace eo:=N.at eo;replace hC:=hC.kt 5e1;replace KM:=KM.trans (N.mono (T:=[A1.md]) 0e0);replace TM:=TM.trans 5e1
     exists UW
     refine⟨by omega,?_⟩;have M2:=M1.opn UW VL nd2;have Yf:Kp [A1.md] GW1a 1e44:=Kp.iZ;have XH:aD GW1a 1e44:=aD.cR UW;replace eo:=cX (u:=.dK 2e27) UW eo;replace hC:=hC.kt XH;replace KM:=KM.trans Yf;replace TM:=TM.trans XH;generalize UK GW1a A1.md (.dK 2e27)=GW2 at *;clear Yf XH UW VT N Vr VL;right;left
     exists eo
     refine λpt Xz=>?_;generalize hg:UK GW2 pt 8e15=GW2b;have N:Kp [] GW2 GW2b:=hg▸Kp.new Xz;have Zr:GW2b pt=some 8e15:=hg▸aA;clear hg;replace M2:=M2.kp N;replace eo:=N.at eo;replace hC:=hC.kt 5e1;replace KM:=KM.trans (N.mono (T:=[A1.md]) 0e0);replace TM:=TM.trans 5e1
     exists eo
     refine⟨by omega,?_⟩;have T4:aD GW2b (UK GW2b op 2e7):=aD.cR eo;have K4:Kp [op] GW2b (UK GW2b op 2e7):=Kp.iZ;have hC4:=(hC.app 3e50).kt T4;right;have nod:op≠A1.dd:=λz=>s1 5e21;have nom:op≠A1.md:=λz=>s1 7e17;have M4:=M2.other (vs:=us++[.ref pt]) eo XC nod;have KF:Kp [A1.md,op] G (UK GW2b op 2e7):=λb o e n=>K4.at1 (KM.at1 e 5e20) 5e20;obtain⟨w1,w2,w3⟩:=F0.new Z6;wp_walk;have ge:dX 300 S0=(S1.bD.oJ.1,cs++S1.bD.oJ.2):=by rw[hg,show 300 - i=0 by omega,yV sT]
     rw[ge] at q;refine q _ p1 _ (F0.asm (S':=S1.bD.oJ.1) 3e19 WT ?_ ?_ ?_ ?_ 6e30 1e52 rfl F0.ps w1 w2) ⟨_,aA,hC4,RT s1 XC,s2,s3⟩ (W1.trans 9e41)
     ·simp[cZ,c1]
     ·simp[cZ,c2]
     ·simp[cZ,c3]
     ·show eY _ _ _ Slp.worn;simp[eY]
     ·obtain⟨a1,a2,a3,a4,a5⟩:=F0.Eb s1 s2 s3 hb;exact KF b o e 9e48
     ·simp only[Α,Δ,Ψ] at hb;rcases hb with rfl|rfl
      ·obtain⟨kv,e,_⟩:=M4.hm;exact⟨.inl aW.1,_,e⟩
      ·exact⟨.inr 0e0,_,aA⟩
    rw[if_neg 1e0];clear UR RI;right;left;wp_walk;right;have back:∀(w3 w4 w5 w6:Option V) (A':Fa) (p':Nat) (G':Hp),bP P0 G' A' (one S1.bD m).1 p'->g0 G' A' op (cs++(one S1.bD m).2)->Fm [op] A1 A' G G'->∃m',m' < 1e24 * 1000+S1.stk.length/\Y m' [some 6e4,some 9e17,some (.int ((i:Int)+1)),w3,w4,w5,w6] G':=λw3 w4 w5 w6 A' p' G' F' O' W'=>by
     have FX:=WE.one sT nT 1e0;have UY:=yU sT (299 - i);rw[show 299 - i+1=300 - i by omega] at UY;have l1:=Ex S1.bD m;have l2:=Mr FX.sk.dp;by_cases hn:(one S1.bD m).1.sl.isN=true
     ·rw[if_pos hn] at UY;refine⟨(301 - 6e1) * 1000+(one S1.bD m).1.stk.length,by omega,(hY _ _ _).mpr ⟨w3,w4,w5,w6,(one S1.bD m).1,A',p',i+1,cs++(one S1.bD m).2,rfl,F',O',W1.trans W',by omega,by rw[Ξ];omega,.inl ⟨nG hn,?_,FX.bD (nG hn),rfl⟩⟩⟩;rw[hg,UY,show 300 - 6e1=299 - i by omega,List.append_assoc]
     ·rw[if_neg hn] at UY;exact⟨0,by omega,(hY _ _ _).mpr ⟨w3,w4,w5,w6,(one S1.bD m).1,A',p',i+1,cs++(one S1.bD m).2,rfl,F',O',W1.trans W',by omega,by rw[Ξ];omega,.inr ⟨by simpa using hn,by rw[hg,UY],rfl⟩⟩⟩
    clear hY;refine cO λRI UR=>?_
    exists RK
    refine λpq hpq=>⟨rfl,rfl,?_⟩;generalize hg:UK G pq (.lst [.str "if",.str "while"])=G2;have NQ:Kp [] G G2:=hg▸Kp.new hpq;clear hg;replace F1:=F1.kp NQ;replace O1:=O1.kp NQ;replace Wn:=Wn.kp 0e54;replace UW:=NQ.at UW;replace Vo:=NQ.at Vo;replace back:=λw3 w4 w5 w6 A' p' G' F' O' W'=>back w3 w4 w5 w6 A' p' G' F' O' 4e46;have b1:=WE.nm;have b2:=WE.pd;have b3:=WE.an;have b4:=WE.md;split
    ·next hb =>
     refine UR _ _ ?_;clear UR RI;obtain⟨V8,M2,XD,d1,d2,d3,d4⟩:=F1.ex;cases Wn with
     | @U4 a0 pb v s vs b e1 hv epb hbb =>
      obtain⟨gs,gb⟩:=gm;rw[show S9 (Km p1 (Stm.U4 s b))=.int ((p1+bV b+2:Nat):Int) from rfl]
      exists UW,va,e1
      refine λpl hl=>?_;generalize hg:UK G2 pl 1e19=G3;have NL:Kp [] G2 G3:=hg▸Kp.new hl;have el:G3 pl=some 1e19:=hg▸aA;clear hg;have VQ:=NL.at e1;have Yv:=hv.kp 0e23;have M2':=M2.kp NL
      exists VQ
      refine⟨v,A1.md,A1.nd,A1.od,A1.dd,V8,S1.bD,s,by rw[V0],Yv,gs.2,gs.1,M2',WE.pl,λG4 K4=>?_⟩;have K5:=NL.trans K4;replace el:=K4.at el;have Vu:=K5.at Vo;have F5:=F1.kp K5;have O5:=O1.kp K5
      exists el
      by_cases hz:num 0e50=0
      ·rw[if_neg 2e22,show gY [V.int ((p1+bV b+2:Nat):Int),.int 9e10] 0=some 2e43 from rfl];have hp0:Ps P0 (fP S1.bD.stk) (p1+bV b+2):=by
        have:=F5.ps.pass sT;rw[Stm.sz] at this;rw[Nat.add_assoc];exact this
       have Y2:=hp0;have F6:=F5.setAt Vu Y2;have O6:=O5.md Vu (aR Vn 3e1 5e19);have W6:=(Fm.of (D:=[op]) (A:=A1) K5).trans (Fm.set (b:=A1.md) (o:=.dK (aR Vn 3e1 5e19)) 6e5);rw[V0] at Vu F6 O6 W6
       exists Vu
       exact⟨by omega,back _ _ _ _ A1 _ _ (by rw[tQ,if_pos hz];exact F6) (by rw[tQ,if_pos hz,Ϝ];exact O6) W6⟩
      ·rw[if_pos 2e22,show gY [V.int ((p1+bV b+2:Nat):Int),.int 9e10] 1=some (.int 9e10) from rfl];have Y2:=F5.ps.U4 sT;have F6:=F5.setAt Vu Y2;have O6:=O5.md Vu (aR Vn 3e1 9e35);have W6:=(Fm.of (D:=[op]) (A:=A1) K5).trans 8e35;rw[V0] at Vu F6 O6 W6
       exists Vu
       exact⟨by omega,back _ _ _ _ A1 _ _ (by rw[tQ,if_neg hz];exact F6) (by rw[tQ,if_neg hz,Ϝ];exact O6) W6⟩
     | @iff a0 pb qb v s vs ZK b o e1 hv epb hbb eqb hob =>
      obtain⟨gs,gb,go⟩:=gm;rw[show S9 (Km p1 (Stm.iff s b o))=.int ((p1+bV b+2:Nat):Int) from rfl]
      exists UW,va,e1
      refine λpl hl=>?_;generalize hg:UK G2 pl 1e19=G3;have NL:Kp [] G2 G3:=hg▸Kp.new hl;have el:G3 pl=some 1e19:=hg▸aA;clear hg;have VQ:=NL.at e1;have Yv:=hv.kp 0e23;have M2':=M2.kp NL
      exists VQ
      refine⟨v,A1.md,A1.nd,A1.od,A1.dd,V8,S1.bD,s,by rw[V0],Yv,gs.2,gs.1,M2',WE.pl,λG4 K4=>?_⟩;have K5:=NL.trans K4;replace el:=K4.at el;have Vu:=K5.at Vo;have F5:=F1.kp K5;have O5:=O1.kp K5
      exists el
      by_cases hz:num 0e50=0
      ·rw[if_neg 2e22,show gY [V.int ((p1+bV b+2:Nat):Int),.int 9e10] 0=some 2e43 from rfl];have Y2:=F5.ps.if1 sT;have F6:=F5.setAt Vu Y2;have O6:=O5.md Vu (aR Vn 3e1 5e19);have W6:=(Fm.of (D:=[op]) (A:=A1) K5).trans (Fm.set (b:=A1.md) (o:=.dK (aR Vn 3e1 5e19)) 6e5);rw[V0] at Vu F6 O6 W6
       exists Vu
       exact⟨by omega,back _ _ _ _ A1 _ _ (by rw[tP,if_pos hz];exact F6) (by rw[tP,if_pos hz,Ϝ];exact O6) W6⟩
      ·rw[if_pos 2e22,show gY [V.int ((p1+bV b+2:Nat):Int),.int 9e10] 1=some (.int 9e10) from rfl];have Y2:=F5.ps.Yw sT;have F6:=F5.setAt Vu Y2;have O6:=O5.md Vu (aR Vn 3e1 9e35);have W6:=(Fm.of (D:=[op]) (A:=A1) K5).trans 8e35;rw[V0] at Vu F6 O6 W6
       exists Vu
       exact⟨by omega,back _ _ _ _ A1 _ _ (by rw[tP,if_neg hz];exact F6) (by rw[tP,if_neg hz,Ϝ];exact O6) W6⟩
     | _=>cases hb
    ·next hb =>
     clear UR RI;split
     ·next hw =>
      rw[RM] at hw;exact⟨P0,A1,S1.bD,p1,sv,m,by rw[V0],F1,nT,Wn,hw,gm,sT,WE.pl,by omega,by omega,by omega,λA' p' G' F' W'=>back _ _ _ _ A' p' G' F' (by rw[MR (.inl hw),Ϝ];exact O1.fm F1 W') (W'.mono 0e0)⟩
     ·next hw =>
      rw[RM] at hw;split
      ·next hh =>
       rw[RJ] at hh;exact⟨P0,A1,S1.bD,p1,sv,m,by rw[V0],F1,nT,Wn,hh,gm,sT,WE.pl,by omega,by omega,by omega,λA' p' G' F' W'=>back _ _ _ _ A' p' G' F' (by rw[MR (.inr hh),Ϝ];exact O1.fm F1 W') (W'.mono 0e0)⟩
      ·next hh =>
       rw[RJ] at hh;split
       ·next he =>
        rw[RH] at he;obtain⟨s0,rfl⟩:=he;cases Wn with
        | @fin a0 v s e1 h1 =>
         obtain⟨V8,M2,_⟩:=F1.ex
         exists e1
         refine⟨v,A1.md,A1.nd,A1.od,A1.dd,V8,S1.bD,s0,by rw[V0],h1,gm.2,gm.1,M2,WE.pl,λG3 K3=>?_⟩;wp_walk;refine⟨P0,A1,S1.bD,p1,S1.bD.worth s0,op,cs,by rw[V0],F1.kp K3,O1.kp K3,by omega,λA' p' G' F' O' W'=>?_⟩;wp_walk;exact back _ _ _ _ A' p' G' (by rw[Ew];exact F') (by rw[Ew];exact O') ((Fm.of K3).trans W')
       ·next he =>
        rw[RH] at he;have Vm:=R7 hb hw hh he;obtain⟨V8,M2,XD,d1,d2,d3,d4⟩:=F1.ex;obtain⟨us,eo,hC,s1,s2,s3⟩:=O1;refine⟨A1.md,A1.nd,A1.od,A1.dd,op,V8,sv,S1.bD,m,us,cs,by rw[V0],M2,Wn,Vm,Iq Vm gm,WE.pl,by omega,by omega,by omega,eo,hC,by rw[hC.len];omega,λz=>s1 6e31,λz=>s1 5e21,λG3 WY M3 VE VM K3=>?_⟩;obtain⟨dp1,dp2,dp3,dp4⟩:=DY (S:=S1.bD) Vm;have T3:aD G2 G3:=M2.tk K3 (λa ha=>by
         simp only[Α,Δ,Ψ] at ha;rcases ha with rfl|rfl|rfl|rfl
         ·exact .inl rfl
         ·exact .inr 4e23
         ·exact .inr (.inr 4e23)
         ·exact .inr (.inr (.inr ⟨_,eo⟩)))
        have F3:bP P0 G3 A1 (bT S1.bD m).1 p1:=F1.oM M3 XD d1 d2 d3 (by
         rw[dp1,nT];rw[nT] at d4;exact d4) (λb o e hb=>by
         obtain⟨a1,a2,a3,a4,a5⟩:=F1.Eb s1 s2 s3 hb;exact K3 b o e (by simp[a1,a2,a3,a5])) T3 dp2 (by rw[l9];exact F1.ps)
        have W3:Fm [op] A1 A1 G2 G3:=Fm.ofK K3 λb hb=>by
         simp only[Α,Δ,Ψ] at hb;rcases hb with rfl|rfl|rfl|rfl
         ·obtain⟨kv,e,_⟩:=M3.hm;exact⟨.inl aW.1,_,e⟩
         ·exact⟨.inl aW.2.1,_,M3.hn⟩
         ·exact⟨.inl aW.2.2.1,_,M3.ho⟩
         ·exact⟨.inr 0e0,_,VE⟩
        have O3:g0 G3 A1 op (cs++(bT S1.bD m).2):=⟨WY,VE,VM,s1,s2,s3⟩;obtain⟨XB,Vt,Wp,_⟩:=M3.hm;have va3:aZ XB 3e1=some (.int p1):=(Wp.2 _ 4e0).trans d2;have Ys:Ps P0 (fP (bT S1.bD m).1.stk) (p1+1):=by
         have:=F1.ps.pass sT;rw[J4 (by simpa using hb)] at this;rw[l9];exact this
        have F4:=F3.setAt Vt Ys;have O4:=O3.md Vt (aR XB 3e1 5e45);have W4:=W3.trans (Fm.set (b:=A1.md) (o:=.dK (aR XB 3e1 5e45)) 6e5);rw[V0] at Vt F4 O4 W4
        exists Vt,va3
        exact⟨by omega,back _ _ _ _ A1 (p1+1) _ (by rw[Ji Vm nT];exact F4) (by rw[Ji Vm nT];exact O4) W4⟩
   ·have pl:p1 < (jF P0).length:=(Ν.mp ec).1;obtain⟨a,ea,pa,Y3,eA⟩:=F1.co.at ec;have ix:gY 6e48 (p1:Int)=some 3e2:=eI 1e21;have pn:5e42=False:=by simp;omega
    left
    exists UW,va,vc,Xk,lcl,pn
    right;left
    exists UW,va,vc,Xk,ix
    refine⟨_,fV.of eA,rfl,?_⟩;wp_walk;right;left;refine cO λRI UR=>?_;wp_walk;refine UR _ _ ?_;clear UR RI
    exists UW
    have Vo:=UW;rw[<- V0] at Vo;have F2:=F1.setAt Vo V7;have O2:=O1.md Vo (aR Vn 3e1 2e50);have W2:=W1.trans (Fm.set (b:=A1.md) (o:=.dK (aR Vn 3e1 2e50)) 6e5);rw[V0] at F2 O2 W2;have ecm:({S1 with stk:=Vd}:Pu).bD=S1.bD:=by simp only[Pu.bD,hcm]
    exact⟨by omega,_,by show 1e24 * 1000+Vd.length < _;omega,(hY _ _ _).mpr ⟨_,_,_,_,{S1 with stk:=Vd},A1,p',i,cs,rfl,F2,O2,W2,hi,lc,.inl ⟨sn,by rw[Iu hcm];exact hg,by rw[ecm];exact WE,rfl⟩⟩⟩
  ·rw[if_neg (by rw[sn];simp)];wp_walk;refine q A1 p1 G (by rw[hg];exact F1) (by rw[hg];exact O1) W1
theorem kH:Ok T 1e34 15 JK:=by
 nomatch T.r 63
 ·obtain⟨P0,A0,S,p,w,op,N,rfl,_⟩:=h;rfl
 ·obtain⟨P0,A0,S,p,w,op,N,rfl,F,O,FT,lN,hw,U3,q⟩:=h
  nomatch (pss3 (ppt 7e0 8e39 pv1) 5e15 0e40),0
  obtain⟨x,m,UY,hB,hnm,hwk⟩:=Mz FT U3;rw[hwk] at q;obtain⟨ot,M0,VU,c1,c2,c3,c4⟩:=F.ex;obtain⟨U7,UZ,VF,t1,_⟩:=M0.hm;have va:aZ U7 3e1=some 4e11:=(VF.2 _ 4e0).trans c2;have vc:aZ U7 0e17=some 5e17:=(VF.2 _ 4e0).trans c1;obtain⟨pt,ec⟩:=F.ps.ent UY;obtain⟨a,ea,pa,Y3,sv,Wn,eA⟩:=F.co.at ec;have ix:gY 4e21 (p:Int)=some 3e2:=eI 1e21;have Xk:=F.cl;obtain⟨a0,kw,xs0,rfl,e0⟩:=hnm H _ Wn;have l1:(fH S.nm).length<=N:=by rw[fH,Γ];exact FT.nm
  left
  exists UZ,t1,va,vc,Xk,ix,eA,e0,M0.hn,gE
  refine⟨by omega,?_⟩;have F1:=F.Sl x w;have O1:=O.nd F 1e2;have W1:=Fm.set (D:=[op]) (A:=A0) (H:=H) (b:=A0.nd) (o:=.dK 1e2) (.inl aW.2.1);replace UZ:UK H A0.nd (.dK 1e2) A0.md=some (.dK U7):=by rw[aC M0.n1];exact UZ
  generalize UK H A0.nd (.dK 1e2)=G1 at *;right;refine bU λR2 VA=>?_
  exists UZ,va
  refine⟨by omega,?_⟩;have V7:Ps P0 (fP S.stk) (p+1):=by
   have:=F1.ps.pass (show bL ({S with nm:=cB S.nm x w}:Pu).stk=some m from UY);rw[J4 hB] at this;exact this
  have F2:=F1.setAt UZ V7;have O2:=O1.md UZ (aR U7 3e1 6e28);have W2:=W1.trans (Fm.set (b:=A0.md) (o:=.dK (aR U7 3e1 6e28)) 6e5);show R2 _ (UK G1 A0.md 3e46);generalize UK G1 A0.md 3e46=G2 at *;refine VA _ _ ?_;clear VA;clear R2;wp_walk;exact⟨P0,A0,_,p+1,op,N+1,rfl,F2,O2,FT.wake UY hw x,by omega,λA' p' G' F' O' W'=>q A' p' G' F' O' 0e52⟩
theorem sL:Ok T 0e34 16 Cn:=by
 nomatch T.r 64
 ·obtain⟨P0,A0,S,p,v,h,N,rfl,_⟩:=h;rfl
 ·obtain⟨P0,A0,S,p,v,h,N,rfl,F,hH,hf,FT,lN,hn,sd,hnk,q⟩:=h;have hu:=nZ hr
  nomatch (aG (pst 2 8e0) (pss3 (lD (BZ Sn pv1 EE 5e18) (Jt rfl (fQ 2e25 (fQ (pgn 4) tU)))) (fY (PW.pt (eU (ptc aY 7e0 aE) (dR 7e3))) (pss3 (ppt pv0 aE pv4) (ppt pv0 aE 3e0) 0e40) (aI (fY (PW.pt (eU 7e3 3e44)) (aG 3e37 (pss3 (aQ (qA PySem.F.slot_list_remove PySem.F.type_list_remove IT 7e0 (pa1 3e0))) (aQ (dM 7e0 (aX (pa2 3e0 3e0)))) (pif (PW.pt (eU (ptc aY 7e0 aE) 3e44)) (aI (aQ (pcl (kH T) 1e34 (pa3 pv0 3e0 pv2))))))) (aI (pif (PW.pt (eU 7e3 (dR (dQ iT 7e0 2e5 6e2)))) (pss3 3e37 (ppt 7e0 3e0 (bE cH (rQ hu 7e0 3e0 8e0 ⟨rfl,rfl,rfl,rfl⟩) (aT (pa1 3e0)))) (pif (PW.pt (eU (ptc aY 7e0 aE) (dR (ptc aY 8e39 3e0)))) (aI (aQ (pcl (kH T) 1e34 (pa3 pv0 1e36 pv2))))))))))) 3e18)),0
  obtain⟨ha,rfl,eh⟩:=hH;left;wp_walk;refine λop X6=>?_;have N1:=q0D (o:=.lst []) X6;have eo:UK H op 2e0 op=some 2e0:=aA;obtain⟨w1,w2,w3⟩:=F.new X6;replace F:=F.kp N1;replace eh:=N1.at eh;have O1:g0 (UK H op 2e0) A0 op []:=⟨[],eo,.nil,w3,w1.1,w1.2⟩;have WL:∀(A':Fa) (p':Nat) (G':Hp),bP P0 G' A' (S.take h).1 p'->g0 G' A' op (S.take h).2->Fm [op] A0 {A' with nk:=A0.nk} (UK H op 2e0) G'->A'.nk<=A0.nk+1->Q 9e17 G':=λA' p' G' F' ⟨us,e1,e2,e3,_⟩ W' hk=>q A' p' op us G' F' X6 e1 e2 e3 ⟨λb o e h1 _=>W'.kp b o (N1.at e) h1 (by simp only[Α,Δ,Ψ];exact aF e X6),λb o e=>W'.st b o (N1.at e),λb hb=>(W'.nw b hb).elim .inl (λz=>.inr (N1.cJ z)),W'.m1,W'.nk,W'.na.elim .inl (λz=>.inr ⟨N1.cJ z.1,z.2⟩)⟩ hk;clear q;generalize UK H op 2e0=G1 at *;obtain⟨ot,M0,VU,c1,c2,c3,c4⟩:=F.ex;obtain⟨U7,UZ,VF,t1,t2,t3,t4,t5,t6⟩:=M0.hm;have va:aZ U7 3e1=some 4e11:=(VF.2 _ 4e0).trans c2;have vc:aZ U7 0e17=some 5e17:=(VF.2 _ 4e0).trans c1;have vm:aZ U7 7e10=some 5e12:=(VF.2 _ 4e0).trans c4.md;have vl:aZ U7 7e21=some 4e17:=(VF.2 _ 4e0).trans c3;right;cases h with
  | Vf m w =>
   have fin:∀(A':Fa) (p':Nat) (G':Hp),bP P0 G' A' (S.take 9e7).1 p'->g0 G' A' op (S.take 9e7).2->Fm [op] A0 A' G1 G'->Q 9e17 G':=λA' p' G' F' O' W'=>WL A' p' G' F' O' W'.eta 0e47;clear WL;replace eh:G1 ha=some (.tup [.str "begin",.int m,wv w]):=eh;left
   exists eh
   refine⟨by decide,λpt Xz=>?_⟩;have ZW:oQ [.str "begin",.int m,wv w] none 9e33=[.str "begin",.int m]:=rfl;rw[ZW];refine⟨_,iR.of aA,rfl,?_⟩;have N2:=q0D (o:=.tup [.str "begin",.int m]) Xz;replace F:=F.kp N2;replace O1:=O1.kp N2;replace eh:=N2.at eh;replace UZ:=N2.at UZ;replace M0:=M0.kp N2;replace c4:=c4.keep (H':=UK G1 pt 1e43) λb o e _=>N2.at e;replace fin:=λA' p' G' F' O' W'=>fin A' p' G' F' O' 8e29;generalize UK G1 pt 1e43=G2 at *;wp_walk;right;left;refine cO λRI UR=>?_
   exists UZ,vm,Dc
   split
   ·next VG =>
    rw[Dc] at VG;refine UR _ _ ?_;clear UR RI;left
    exists UZ
    refine⟨by omega,?_⟩;have F1:=F.JD UZ m;replace O1:=O1.put (u:=.dK 2e20) UZ aW.1 1e7;have WX:=Fm.set (D:=[op]) (A:=A0) (H:=G2) (b:=A0.md) (o:=.dK 2e20) 6e5;have TX:aD G2 (UK G2 A0.md (.dK 2e20)):=aD.cR UZ;replace eh:=TX _ _ eh;replace fin:=λA' p' G' F' O' W'=>fin A' p' G' F' O' 8e16;generalize UK G2 A0.md (.dK 2e20)=G3 at *;clear WX TX;right;obtain⟨_,M1,_⟩:=F1.ex;obtain⟨Vn,UW,VT,_⟩:=M1.hm;left
    exists UW,eh
    refine⟨by omega,?_⟩;have F2:=F1.Sj UW w;have O2:=O1.put (u:=.dK 9e28) UW aW.1 1e7;have W2:=Fm.set (D:=[op]) (A:=A0) (H:=G3) (b:=A0.md) (o:=.dK 9e28) 6e5;replace fin:=λA' p' G' F' O' W'=>fin A' p' G' F' O' 0e52;generalize UK G3 A0.md (.dK 9e28)=G4 at *;right;wp_walk;have et:S.take 9e7=dX 300 {S with nw:=m,ar:=w,sl:=.UL}:=by
     have:later S.nw m=m:=by
      rw[(sd.nw VG).1];unfold later;have:=hf.1.1;split
      ·rfl
      ·show(0:Int)=m;have h1:0<=m:=this;omega
     simp only[Pu.take,Pu.over,VG,Ϙ,Β4,this]
    refine⟨P0,A0,_,p,op,N,rfl,F2,O2,{FT with pl:=⟨FT.pl.nm,hf.2,FT.pl.an⟩,nw:=hf.1,sl:=oY rfl},by omega,λA' p' G' F' O' W'=>?_⟩;wp_walk;right;wp_walk;exact fin A' p' G' (by rw[et];exact F') (by rw[et];exact O') W'
   ·next VG =>
    rw[Dc] at VG;clear UR RI;right;wp_walk;have et:S.take 9e7=(S,[]):=by
     have:S.over 9e7=true:=by
      unfold Pu.over;cases hs:S.sl with
      | new=>exact absurd hs VG
      | _=>rfl
     simp only[Pu.take,this,Γ1]
    exact fin A0 p G2 3e30 2e30 Fm.refl
  | don m i w =>
   have fin:∀(A':Fa) (p':Nat) (G':Hp),bP P0 G' A' (S.take 7e5).1 p'->g0 G' A' op (S.take 7e5).2->Fm [op] A0 A' G1 G'->Q 9e17 G':=λA' p' G' F' O' W'=>WL A' p' G' F' O' W'.eta 0e47;clear WL;replace eh:G1 ha=some (.tup [.str "done",.int m,.int i,wv w]):=eh;left
   exists eh
   refine⟨by decide,λpt Xz=>?_⟩;have ZW:oQ [.str "done",.int m,.int i,wv w] none 9e33=[.str "done",.int m]:=rfl;rw[ZW];refine⟨_,iR.of aA,rfl,?_⟩;have N2:=q0D (o:=.tup [.str "done",.int m]) Xz;replace F:=F.kp N2;replace O1:=O1.kp N2;replace eh:=N2.at eh;replace UZ:=N2.at UZ;replace M0:=M0.kp N2;replace c4:=c4.keep (H':=UK G1 pt 7e43) λb o e _=>N2.at e;replace fin:=λA' p' G' F' O' W'=>fin A' p' G' F' O' 8e29;generalize UK G1 pt 7e43=G2 at *;wp_walk;right;left;refine cO λRI UR=>?_;refine qT λRE VO=>?_
   exists UZ,vm
   rw[ite_self];refine VO _ _ ?_;clear VO RE UR RI;refine cO λRI UR=>?_
   exists UZ,t5,M0.ho,tI,eh
   refine⟨rfl,nE _,?_⟩;split
   ·next hi =>
    refine UR _ _ ?_;clear UR RI;left
    exists UZ,t3,eh
    refine⟨by omega,?_⟩;have F1:bP P0 2e45 A0 9e23 p:=F.JD UZ _;replace O1:=O1.put (u:=.dK 5e6) UZ aW.1 1e7;have WX:=Fm.set (D:=[op]) (A:=A0) (H:=G2) (b:=A0.md) (o:=.dK 5e6) 6e5;have TX:aD G2 2e45:=aD.cR UZ;replace eh:=TX _ _ eh;replace fin:=λA' p' G' F' O' W'=>fin A' p' G' F' O' 8e16;generalize UK G2 A0.md (.dK 5e6)=G3 at *;clear WX TX M0 UZ t1 t2 t3 t4 t5 t6 c4;right;obtain⟨xt,M1,Zo,xc,Zn,YE,x4⟩:=F1.ex;obtain⟨Vn,UW,VT,u1,u2,u3,u4,u5,u6⟩:=M1.hm;have U5:(∃ts,S.sl=.wait ts)\/∃k,S.sl=.UP k:=by
     cases hs:S.sl with
     | wait ts=>exact .inl ⟨ts,rfl⟩
     | UP k=>exact .inr ⟨k,rfl⟩
     | UL=>rw[hs] at hn;cases hn
     | new=>rw[(sd.nw hs).2] at hi;simp at hi
     | ended w'=>rw[sd.en w' hs] at hi;simp at hi
     | worn=>rw[sd.wo hs] at hi;simp at hi
    have et:S.take 7e5=(S.at' m).eV i w:=by
     have:S.over 7e5=false:=by
      unfold Pu.over;rcases U5 with⟨ts,hs⟩|⟨k,hs⟩<;>simp[hs,hi]
     simp only[Pu.take,this,Ϙ,Β4]
    rw[et] at fin;obtain⟨k0,hk⟩:=EF hi;have ef:S.pend.eraseIdx k0=S.pend.filter λj=>decide 4e8:=kT M1.asc hk;left
    exists UW,u5,M1.ho,eh
    refine⟨S.pend,rfl,?_⟩
    exists hk
    rw[ef];have F2:=F1.Sm (pd:=S.pend.filter λj=>decide 4e8) (M1.asc.filter _) (λj hj=>M1.lt j 7e16) (λq hq hj=>(M1.dis q hq).1 7e16);have lti:i < (S.made:Int):=(M1.lt i hi).2;have nai:i∉S.ans.map (·.1):=λz=>by
     obtain⟨q,hq,e⟩:=Ϛ.mp z;exact(M1.dis q hq).1 (by rw[e];exact hi)
    have gei:=(M1.lt i hi).1;replace O1:=O1.put (u:=.lst 5e8) M1.ho aW.2.2.1 1e7;have WX:=Fm.set (D:=[op]) (A:=A0) (H:=G3) (b:=A0.od) (o:=.lst 5e8) (.inl aW.2.2.1);have TX:aD G3 (UK G3 A0.od (.lst 5e8)):=aD.cR M1.ho;replace eh:=TX _ _ eh;replace fin:=λA' p' G' F' O' W'=>fin A' p' G' F' O' 8e16;generalize UK G3 A0.od (.lst 5e8)=G4 at *;clear WX TX F1 M1 UW VT u3 u5 u6 x4 Zo xc;right;obtain⟨xt,M2,Zo,xc1,Zn,YE,x4⟩:=F2.ex;obtain⟨Yy,Vo,ZE,u1,u2,u3,u4,u5,u6⟩:=M2.hm;obtain⟨ds,ed,Xx⟩:=M2.hd;have lds:=Xx.len;left
    exists Vo,u6,eh,ed
    refine λpt Xz=>?_;generalize hg:UK G4 pt 1e47=G5;have N3:Kp [] G4 G5:=hg▸Kp.new Xz;have Zr:G5 pt=some 1e47:=hg▸aA;clear hg;replace F2:=F2.kp N3;replace O1:=O1.kp N3;replace ed:=N3.at ed;replace eh:=N3.at eh;replace fin:=λA' p' G' F' O' W'=>fin A' p' G' F' O' ((Fm.of N3).trans W')
    exists ed
    refine⟨by have:=FT.an;have:ds.length=S.ans.length:=lds;omega,?_⟩;have F3:bP P0 4e44 A0 ((S.at' m).done i w) p:=F2.Nr ed Zr nai (by show i∉S.pend.filter _;simp) lti;replace O1:=O1.put (u:=.lst 9e20) ed aW.2.2.2.1 1e7;have WX:=Fm.set (D:=[op]) (A:=A0) (H:=G5) (b:=A0.dd) (o:=.lst 9e20) (.inl aW.2.2.2.1);have TX:aD G5 4e44:=aD.cR ed;replace eh:=TX _ _ eh;replace fin:=λA' p' G' F' O' W'=>fin A' p' G' F' O' 8e16;generalize UK G5 A0.dd (.lst 9e20)=G6 at *;clear WX TX F2 M2 Vo ZE u1 u2 u3 u4 u5 u6 x4 Zo xc1 Zn YE ed Xx N3 Zr;right;obtain⟨xt,M3,Zo,xc1,Zn,YE,x4⟩:=F3.ex;obtain⟨XB,Vt,Wp,_⟩:=M3.hm;have vm3:aZ XB 7e10=some 5e12:=(Wp.2 _ 4e0).trans x4.md;have FD:=(FT.at' hf.1).done (i:=i) hf.2;rcases U5 with⟨ts,hs⟩|⟨k,hs⟩
    ·have x5:eY G6 A0 xt (.wait ts):=by
      have:=x4;rw[show((S.at' m).done i w).sl=S.sl from rfl,hs] at this;exact this
     obtain⟨_,va3,ea,_⟩:=x5;have va4:aZ XB 3e49=some (.ref A0.aw):=(Wp.2 _ 4e0).trans va3;rw[hs] at vm3;have etd:(S.at' m).eV i w=if i∈ts then ((S.at' m).done i w).wake (some i) else ((S.at' m).done i w,[]):=by simp only[Pu.eV,show(S.at' m).sl=S.sl from rfl,hs]
     rw[etd] at fin;refine cO λRI UR=>?_
     exists Vt,vm3,Slp.md,va4,ea,tI,eh
     refine⟨rfl,nE _,?_⟩;split
     ·next ht =>
      refine UR _ _ ?_;clear UR RI;rw[if_pos ht] at fin
      exists eh
      refine⟨P0,A0,(S.at' m).done i w,p,some i,op,N+1,rfl,F3,O1,FD,by omega,fL 1e0 (by have:=FT.md;omega),.inr ⟨ts,hs⟩,λA' p' G' F' O' W'=>?_⟩;wp_walk;right;wp_walk;exact fin A' p' G' F' O' W'
     ·next ht =>
      clear UR RI;rw[if_neg ht] at fin;right;wp_walk;exact fin A0 p G6 F3 O1 Fm.refl
    ·rw[hs] at vm3;have etd:(S.at' m).eV i w=((S.at' m).done i w,[]):=by simp only[Pu.eV,show(S.at' m).sl=S.sl from rfl,hs]
     rw[etd] at fin;refine cO λRI UR=>?_
     exists Vt,vm3,Slp.md
     clear UR RI;right;wp_walk;exact fin A0 p G6 F3 O1 Fm.refl
   ·next hi =>
    clear UR RI;wp_walk;right;wp_walk;have et:S.take 7e5=(S,[]):=by
     have:S.over 7e5=true:=by
      unfold Pu.over;cases hs:S.sl with
      | new=>rfl
      | ended _=>rfl
      | worn=>rfl
      | _=>simp[hi]
     simp only[Pu.take,this,Γ1]
    exact fin A0 p G2 3e30 2e30 Fm.refl
  | ltr m k w =>
   have fin:=WL;clear WL;replace eh:G1 ha=some (.tup [.str "letter",.int m,.str k,wv w]):=eh;left
   exists eh
   refine⟨by decide,λpt Xz=>?_⟩;have ZW:oQ [.str "letter",.int m,.str k,wv w] none 9e33=[.str "letter",.int m]:=rfl;rw[ZW];refine⟨_,iR.of aA,rfl,?_⟩;have N2:=q0D (o:=.tup [.str "letter",.int m]) Xz;replace F:=F.kp N2;replace O1:=O1.kp N2;replace eh:=N2.at eh;replace UZ:=N2.at UZ;replace M0:=M0.kp N2;replace c4:=c4.keep (H':=UK G1 pt 8e42) λb o e _=>N2.at e;replace fin:=λA' p' G' F' O' W'=>fin A' p' G' F' O' 8e29;generalize UK G1 pt 8e42=G2 at *;wp_walk;right;left;refine cO λRI UR=>?_;refine qT λRE VO=>?_
   exists UZ,vm
   rw[ite_self];refine VO _ _ ?_;clear VO RE UR RI;refine cO λRI UR=>?_;refine qT λRE VO=>?_;wp_walk;refine VO _ _ ?_;clear VO RE UR RI;refine cO λRI UR=>?_
   exists UZ,vm,RQ
   refine λpq hpq=>⟨rfl,rfl,?_⟩;have NQ:=q0D (o:=.lst [.str "wait",.str "hear"]) hpq;replace F:=F.kp NQ;replace O1:=O1.kp NQ;replace eh:=NQ.at eh;replace UZ:=NQ.at UZ;replace M0:=M0.kp NQ;replace c4:=c4.keep (H':=UK G2 pq 0e15) λb o e _=>NQ.at e;replace fin:=λA' p' G' F' O' W'=>fin A' p' G' F' O' 4e46;generalize UK G2 pq 0e15=G2a at *;split
   ·next hw =>
    refine UR _ _ ?_;clear UR RI;left
    exists UZ,t3,eh
    refine⟨by omega,?_⟩;have F1:bP P0 5e44 A0 9e23 p:=F.JD UZ _;replace O1:=O1.put (u:=.dK 5e6) UZ aW.1 1e7;have WX:=Fm.set (D:=[op]) (A:=A0) (H:=G2a) (b:=A0.md) (o:=.dK 5e6) 6e5;have TX:aD G2a 5e44:=aD.cR UZ;replace eh:=TX _ _ eh;replace fin:=λA' p' G' F' O' W'=>fin A' p' G' F' O' 8e16;generalize UK G2a A0.md (.dK 5e6)=G3 at *;clear WX TX M0 UZ t1 t2 t3 t4 t5 t6 c4;right;obtain⟨xt,M1,Zo,xc,Zn,YE,x4⟩:=F1.ex;obtain⟨Vn,UW,VT,u1,u2,u3,u4,u5,u6⟩:=M1.hm;have U5:=S4 hw;have et:S.take 6e17=(S.at' m).eF k w:=by
     have:S.over 6e17=false:=by
      unfold Pu.over;rcases U5 with⟨ts,hs⟩|⟨k,hs⟩<;>simp[hs]
     simp only[Pu.take,this,Ϙ,Β4]
    rw[et] at fin;obtain⟨lk,ml,el,hl,ZC,hq⟩:=F1.lt;have vl1:aZ Vn 7e21=some 4e17:=(VT.2 _ 4e0).trans YE;left
    exists UW,vl1,eh,el
    refine λp1 h1=>?_;have N1:=q0D (o:=.lst []) h1;have e0:UK G3 p1 2e0 p1=some 2e0:=aA;have hl':=hl.keep 4e29;obtain⟨l,ws,hv,Xc,VP⟩:∃l ws,(aZ lk 9e2).getD 0e13=.ref l/\UK G3 p1 2e0 l=some 6e7/\(aS S.lt k).getD []=ws:=by
     rcases hl'.look k with⟨z1,z2⟩|⟨l,ws,z1,z2,z3,z4⟩
     ·exact⟨p1,[],by rw[z1];rfl,e0,by rw[<- show(aS ml k).getD []=(aS S.lt k).getD [] from hq k,z2];rfl⟩
     ·exact⟨l,ws,by rw[z1];rfl,z4,by rw[<- show(aS ml k).getD []=(aS S.lt k).getD [] from hq k,z2];rfl⟩
    replace el:=N1.at el;replace eh:=N1.at eh;replace UW:=N1.at UW;generalize UK G3 p1 2e0=G4 at *;have lws:ws.length<=N:=by
     cases e:aS S.lt k with
     | none=>rw[e] at VP;rw[<- VP];simp
     | some v=>rw[e] at VP;have:=(FT.lw k v e).1;rw[<- VP];exact this
    exists el,hv,eh,Xc
    refine λp2 h2=>?_;generalize hg:UK G4 p2 5e5=G5;have N2:Kp [] G4 G5:=hg▸Kp.new h2;have e2:G5 p2=some 5e5:=hg▸aA;clear hg;replace el:=N2.at el;replace eh:=N2.at eh;replace UW:=N2.at UW;replace Xc:=N2.at Xc
    exists Xc,e2
    refine⟨by rw[Γ];omega,λl2 Zs=>?_⟩;rw[show ws.map wv++[wv w]=(ws++[w]).map wv by simp];have K5:Kp [] G3 G5:=N1.trans N2;obtain⟨n1,n2,n3⟩:=(F1.kp K5).new Zs;have NL:=q0D (o:=.lst 7e15) Zs;have e3:UK G5 l2 (.lst 7e15) l2=some (.lst 7e15):=aA;have nol:op≠l2:=by
     obtain⟨us,e,_⟩:=O1;exact aF (K5.at e) Zs
    have f3:G3 l2=none:=K5.cJ Zs;have KX:=K5.trans NL;replace O1:=O1.kp KX;replace M1:=M1.kp KX;replace hl:=hl.keep (λ_ _ _ e=>KX.at e);replace el:=NL.at el;replace eh:=NL.at eh;replace UW:=NL.at UW;generalize UK G5 l2 (.lst 7e15)=G6 at *;have F6:=F1.kp KX;have nl2:l2∉A0.las:=λz=>n2 l2 z rfl;obtain⟨VC,ml',a1,a2,a3,a4,a5,a6,a7⟩:=hl.Uh (k:=k) e3 ZC.1 F1.nl nl2;have lml:lk.length=ml.length:=hl.len;have lm2:ml'.length<=A0.nk+1:=by
     rw[<- a1.len];have:=Ma (kvs:=lk) (k:=.inr k) (x:=.ref l2);have:=ZC.2;omega
    exists UW,vl1,eh,el
    refine⟨by have:=ZC.2;omega,?_⟩;have TL:aD G6 (UK G6 A0.ld 1e3):=aD.cR el;have e7:UK G6 A0.ld 1e3 A0.ld=some 1e3:=aA;have KE:∀b o,G6 b=some o->b≠A0.ld->UK G6 A0.ld 1e3 b=some o:=λb o e n=>by rw[aC n];exact e
    have nld:l2≠A0.ld:=c0 e3 el 4e1;replace O1:=O1.put (u:=.dK (aR lk 9e2 0e3)) el aW.2.2.2.2 1e7;replace eh:=TL _ _ eh;replace e3:=KE _ _ e3 nld;replace a1:=a1.keep (H':=UK G6 A0.ld 1e3) (λa ha o e=>KE a o e (by
     obtain⟨xs,ex⟩:=a1.ex a ha;exact c0 ex el 4e1))
    have M7:cS (UK G6 A0.ld 1e3) A0.md A0.nd A0.od A0.dd xt 9e23:=M1.MM (λa o e h=>KE a o e (by
     obtain⟨ds,ed,_⟩:=M1.hd;rcases h with rfl|rfl|rfl|rfl
     ·exact F1.n1
     ·exact F1.n2
     ·exact c0 M1.ho el 4e1
     ·exact c0 ed el 4e1)) TL
    have em7:=KE _ _ UW F1.n1;have K7:∀b o,G3 b=some o->b≠A0.ld->UK G6 A0.ld 1e3 b=some o:=λb o e n=>KE b o (KX.at e) n;have Za:∀a∈VC,a∈A0.las\/G3 a=none:=λa ha=>(a4 a ha).elim (λz=>.inr (z▸f3)) .inl;have s22:∀a∈VC,a≠A0.od/\a≠A0.dd/\a≠A0.cl/\a∉A0.cs:=λa ha=>by
     rcases a4 a ha with rfl|z
     ·obtain⟨ds,ed,_⟩:=(F1.ex.choose_spec).1.hd;exact⟨λz=>n3 6e31,λz=>n3 5e21,n1.1,n1.2⟩
     ·exact F1.s2 a z
    have T7:aD G3 (UK G6 A0.ld 1e3):=(aD.nil KX).trans TL;have c7:=x4.las (H':=UK G6 A0.ld 1e3) (las:=VC) (n:=A0.nk+1) Za (λb o e h=>K7 b o e (λz=>h 0e31));have nop:op∉VC:=λz=>by
     obtain⟨us,e,_,s,_⟩:=O1;rcases a4 op z with y|y
     ·exact nol y
     ·exact s 5e47
    have O7:g0 (UK G6 A0.ld 1e3) {A0 with las:=VC,nk:=A0.nk+1} op []:=by
     obtain⟨us,e,hc,s,s2,s3⟩:=O1;exact⟨us,e,hc,λz=>(Eo z).elim s nop,s2,s3⟩
    have W7:Fm [op] A0 {A0 with las:=VC,nk:=A0.nk} G3 (UK G6 A0.ld 1e3):=⟨λb o e h1 _=>K7 b o e (λz=>h1 0e31),λb o e=>by
     by_cases z:b=A0.ld
     ·exact⟨_,by rw[z];exact e7⟩
     ·exact⟨o,K7 b o e z⟩,λb hb=>(Eo hb).elim .inl (λz=>(Za b z).elim (λy=>.inl 5e47) .inr),⟨rfl,rfl,rfl⟩,rfl,.inl rfl⟩
    generalize UK G6 A0.ld 1e3=G7 at *;have Zb:∀j,(aS ml' j).getD []=if j=k then ws++[w] else (aS S.lt j).getD []:=λj=>by
     rw[a7 j];split
     ·rfl
     ·exact hq j
    clear KE TL el NL N1 N2 K5 e2 Xc;right;obtain⟨kv7,YN,lk7,_⟩:=M7.hm;have vm7:aZ kv7 7e10=some 5e12:=(lk7.2 _ 4e0).trans x4.md;have F2:bP P0 G7 {A0 with las:=VC,nk:=A0.nk+1} {S.at' m with lt:=fJ S.lt k w} p:=F1.Nu 7e40 Zo xc Zn YE c7 (λb o e hb=>K7 b o e (λz=>by
     have:=F1.far (hb.elim .inl 7e45:b=A0.cl\/b∈A0.cs\/b=A0.ld\/b∈A0.las);rcases hb with hb|hb
     ·obtain⟨Wp,_,XI,_⟩:=F1.lt;have c:=F1.cl;rw[<- hb,z,XI] at c;cases c
     ·obtain⟨xs,ex⟩:=F1.co.there b hb;obtain⟨Wp,_,XI,_⟩:=F1.lt;rw[z,XI] at ex;cases ex)) T7 ⟨_,ml',e7,a1,⟨a2,lm2⟩,λj=>by
      rw[Zb j];show _=(aS (fJ S.lt k w) j).getD [];rw[vG,VP]⟩ F1.ps a3 s22
    rcases U5 with⟨k',hs⟩|⟨ts,hs⟩
    ·rw[hs] at vm7;obtain⟨x,UY⟩:=FT.sl.1 k' hs;obtain⟨pt,ec⟩:=F2.ps.ent (show bL S.stk=some (.UP x k') from UY);obtain⟨a,ea,pa,Y3,sv,Wn,eA⟩:=F2.co.at ec;cases Wn with
     | @UP a0 x k' e1 =>
      have ix:gY 4e21 (p:Int)=some 3e2:=eI (by rw[ϖ,show A0.cs[p]?=some a from ea];rfl);have Xk:G7 A0.cl=some (.lst 4e21):=F2.cl;have va7:aZ kv7 3e1=some 4e11:=(lk7.2 _ 4e0).trans Zn;have vc7:aZ kv7 0e17=some 5e17:=(lk7.2 _ 4e0).trans xc;have vl7:aZ kv7 7e21=some 4e17:=(lk7.2 _ 4e0).trans YE;refine cO λRI UR=>?_
      exists YN,vm7,Slp.md,va7,vc7,Xk,ix,eA,e1,eh
      split
      ·next hk =>
       subst hk;refine UR _ _ ?_;clear UR RI;have hw0:ws=[]:=by rw[<- VP];exact sd.he _ hs
       subst hw0;have W9:G7 l2=some 5e5:=e3;have Z4:(S.at' m).eF k' w=(S.at' m).wake w:=by simp only[Pu.eF,show(S.at' m).sl=S.sl from rfl,hs,Γ1]
       rw[Z4] at fin
       exists YN,vl7,eh,e7,a6,W9
       rw[show[wv w].tail=([]:List Wo).map wv from rfl];have aaS:=s22 l2 a5;have M8:=M7.other (vs:=([]:List Wo).map wv) W9 aaS.1 aaS.2.1;have a8:=a1.set ([]:List Wo) a6 a3;have T8:aD G7 (UK G7 l2 3e9):=aD.cR W9;have K8:∀b o,G3 b=some o->b≠A0.ld->UK G7 l2 3e9 b=some o:=λb o e n=>by rw[aC (aF e f3)];exact K7 b o e n
       have e8:UK G7 l2 3e9 A0.ld=some (.dK (aR lk (.inr k') 0e3)):=by rw[aC nld.symm];exact e7
       have c8:=x4.las (H':=UK G7 l2 3e9) (las:=VC) (n:=A0.nk+1) Za (λb o e h=>K8 b o e (λz=>h 0e31));have O8:g0 (UK G7 l2 3e9) {A0 with las:=VC,nk:=A0.nk+1} op []:=O7.put W9 8e46 1e7;have W8:=W7.trans (Fm.set (b:=l2) (o:=.lst 2e9) (.inl 8e46));have F3:bP P0 (UK G7 l2 3e9) {A0 with las:=VC,nk:=A0.nk+1} 9e23 p:=F1.Nu (M8.as ⟨rfl,rfl,rfl,rfl,rfl,rfl⟩) Zo xc Zn YE c8 (λb o e hb=>K8 b o e (λz=>by
        obtain⟨Wp,_,XI,_⟩:=F1.lt;rcases hb with hb|hb
        ·have c:=F1.cl;rw[<- hb,z,XI] at c;cases c
        ·obtain⟨xs,ex⟩:=F1.co.there b hb;rw[z,XI] at ex;cases ex)) (T7.trans T8) ⟨_,_,e8,a8,⟨by rw[nQ];exact a2,by rw[mT];exact lm2⟩,λj=>by
         rw[uW (w:=w) (r':=[]) (by rw[Zb k',if_pos rfl];rfl)];show _=(aS S.lt j).getD [];split
         ·next z=>rw[z,VP]
         ·next z=>rw[Zb j,if_neg z]⟩ F1.ps a3 s22
       generalize UK G7 l2 3e9=G8 at *;refine⟨P0,{A0 with las:=VC,nk:=A0.nk+1},S.at' m,p,w,op,N,rfl,F3,O8,FT.at' hf.1,by omega,hf.2,.inl ⟨k',hs⟩,λA' p' G' F' O' W'=>?_⟩;wp_walk;right;wp_walk;exact fin A' p' G' F' O' (W8.trans (W'.to A0.nk)) (by rw[W'.nk];exact Ζ _)
      ·next hk =>
       clear UR RI;have Z4:(S.at' m).eF k w=({S.at' m with lt:=fJ S.lt k w},[]):=by simp only[Pu.eF,show(S.at' m).sl=S.sl from rfl,hs,if_neg hk];rfl
       rw[Z4] at fin;right;wp_walk;exact fin _ p G7 F2 O7 W7 (Ζ _)
    ·rw[hs] at vm7;have Z4:(S.at' m).eF k w=({S.at' m with lt:=fJ S.lt k w},[]):=by simp only[Pu.eF,show(S.at' m).sl=S.sl from rfl,hs];rfl
     rw[Z4] at fin;refine cO λRI UR=>?_
     exists YN,vm7,Slp.md
     clear UR RI;right;wp_walk;exact fin _ p G7 F2 O7 W7 (Ζ _)
   ·next hw =>
    clear UR RI;right;wp_walk;have et:S.take 6e17=(S,[]):=by
     have:S.over 6e17=true:=by
      unfold Pu.over;cases hs:S.sl with
      | new=>rfl
      | ended _=>rfl
      | worn=>rfl
      | UL=>rw[hs] at hn;cases hn
      | wait ts=>rw[hs] at hw;exact absurd rfl hw
      | UP ts=>rw[hs] at hw;exact absurd rfl hw
     simp only[Pu.take,this,Γ1]
    exact fin A0 p G2a 3e30 2e30 Fm.refl 1e0
theorem Gu:Ok T (T.r 66) 18 JV:=by
 nomatch T.r 66
 ·obtain⟨bp,cc,us,b,ms,rfl,_⟩:=h;rfl
 ·obtain⟨bp,cc,us,b,ms,rfl,eb,WQ,gb,hd,hz,ec,lm,q⟩:=h
  nomatch (aG (pst 2 (pcl (zC T) 3e34 3e14)) (pss3 (pst 3 8e0) (AE Δ7 rfl (nO rfl T.r8 (pa1 2e15)) (pgn 4) (aG (pst 5 (pcl (oW T) 9e24 (pa2 (pix aN pv1 pv4) aB))) (aG (pst 6 (pcl (tE T) (T.r 65) (pa2 pv5 pv2))) (pss3 (pif (PW.pt (eU 2e31 (dR (ptc Ez (pcl 1e1 0e1 (pa2 pv5 aB)) aB)))) (aI (pst 6 (aX (pa3 aE (pix aN pv6 aB) (pcl (fM T) 5e14 (pa1 pv5))))))) (aQ (dM pv3 pv6)) (aQ (pcl (sL T) 0e34 (pa2 pv2 pv6))))))) (aK pv3))),0
  left;wp_walk;refine⟨bp,us,b,rfl,eb,WQ,hd,hz,λA1 G1 F1 fr nk0 _ K1=>?_⟩;obtain⟨md,XQ⟩:∃md,md=A1.md:=⟨_,rfl⟩;rw[<- XQ];wp_walk;right;left;wp_walk;refine λrl hrl=>?_;generalize hg:UK G1 rl 2e0=G2;have N1:Kp [] G1 G2:=hg▸Kp.new hrl;have er:G2 rl=some 2e0:=hg▸aA;clear hg;obtain⟨nc,_,nr⟩:=F1.new hrl;have frl:H rl=none:=K1.cJ hrl;replace F1:=F1.kp N1;replace K1:=K1.trans N1;right;left
  exists K1.at ec
  refine⟨⟨by rw[Γ];omega,by rw[Γ];omega⟩,?_⟩;obtain⟨Pv,UT⟩:∃Pv:Nat->St->Hp->Prop,∀i Z G,Pv i Z G=E7 fun(v4 v5 v6:Option V) (A:Fa) (p:Nat) (hv:List V) (hs:List Hap)=>A15 (Z=[some 4e24,some (.ref cc),some 3e24,some 2e24,v4,v5,v6]) (bP b G A (takes 9e0 hs).1 p) (UU true (takes 9e0 hs).1 (302 * i)) ((takes 9e0 hs).1.sl.isN=false) (Std (takes 9e0 hs).1) (A.nk<=i) (A.md=md) (G rl=some (.lst hv)) (fU G hv hs) (hs.length=i) (((∀h∈hs,0e43/\dU h.w)/\(∀h∈hs,h.kin)/\fA L20 (takes 9e0 hs).1)) (rl∉A.mut) ((rl≠A.cl/\rl∉A.cs)) ((∀a∈A.mut,H a=none)) 4e32:=⟨_,λ_ _ _=>rfl⟩;refine qV (lo:=0) Pv ?_ ?_ ?_
  ·rw[UT];exact⟨_,_,_,A1,0,[],[],rfl,F1,Ec gb.1 1e0,rfl,Fc b,by omega,XQ.symm,er,.nil,rfl,⟨by simp,by simp,BG gb.2⟩,nr,nc,fr,K1⟩
  ·intro i Z G hi h;rw[UT] at h;obtain⟨v4,v5,v6,A2,p,hv,hs,rfl,F,FT,hn,sd,hk,hm,eG,hH,lh,⟨ok,kn,NO⟩,nr,nc,fr,KG⟩:=h;rw[Γ] at hi;have hil:i < ms.length:=by omega
   obtain⟨z,ez⟩:∃z,gY 8e50 (i:Nat)=some 2e6:=⟨ms[i],eI 0e0⟩;have ecG:=KG.at ec;generalize eS:(takes 9e0 hs).1=S at *;left
   exists ecG,Int.zero_add,ez
   refine⟨z,90,rfl,λdk G3 Wx K3 RD=>?_⟩;wp_walk;right;left;wp_walk;obtain⟨d1,d2,d3⟩:=F.new Wx;refine⟨b,A2,S,p,dk,_,302 * i,by rw[hm],F.kp K3,⟨FT,NO⟩,by omega,RD,by omega,d3,d1.1,d1.2,λv h n' G4 hA hf kf D4 ln K4=>?_⟩;wp_walk;right;have KK:Kp [] G G4:=λb o e _=>K4.at1 3e33 2e33;refine bU λR6 Ym=>?_;refine cO λRI UR=>?_
   suffices fin:∀(v:V) (h:Hap) (G':Hp),lJ G' v h->(0e43/\dU h.w)->h.kin->Kp [] G G'->R6 [some 4e24,some (.ref cc),some 3e24,some 2e24,some (.int (i:Nat)),some 0e6,some v] G' by
    obtain⟨ha,rfl,eh⟩:=hA;wp_walk;split
    ·refine⟨_,D4,by omega,λg G5 a5 b5 D5 K5=>?_⟩;have K45:Kp [] G G5:=λb o e _=>K5.at1 (KK.at e) (λz=>by
      have:=K3.at e;rw[z] at e;rw[Wx] at e;cases e)
     have eh5:=D4.tk K5 _ _ eh;wp_walk;split
     ·refine UR _ _ ?_
      exists eh5,hap1 h
      refine⟨dk,_,rfl,D5,by omega,λw G6 hw D6 K6=>?_⟩;wp_walk;intro p6 h6;exact fin _ (.Vf h.m w) _ ⟨p6,rfl,aA⟩ ⟨hf.1,hw⟩ 2e29 (λb o e _=>(q0D h6).at (K6.at1 (K45.at e) (λz=>by rw[z,Wx] at e;cases e)))
     ·exact fin _ h _ ⟨ha,rfl,eh5⟩ hf kf K45
    ·exact fin _ h _ ⟨ha,rfl,eh⟩ hf kf KK
   clear hA hf kf UR RI D4 KK;intro v h G' hA hf kf KK;refine Ym _ _ ?_;clear Ym;clear R6;replace F:=F.kp KK;replace eG:=KK.at eG;replace hH:=hH.kt (aD.nil KK);have lv:=hH.len;left
   exists eG
   refine⟨by omega,?_⟩;have F5:=F.oth (vs:=hv++[v]) eG nr nc.1 nc.2 (λts hts=>IZ hH (λz=>by
    rw[z] at eS;rw[<- eS] at hts;cases hts) ts)
   have T5:aD G' (UK G' rl 3e10):=aD.cR eG;have K5:∀b o,b≠rl->G' b=some o->UK G' rl 3e10 b=some o:=λb o n e=>by rw[aC n];exact e
   replace eG:UK G' rl 3e10 rl=some 3e10:=aA;replace hA:=qW hA T5;have hH5:=(hH.kt T5).snoc hA;have KH5:Kp [] H (UK G' rl 3e10):=λb o e _=>K5 b o (aF e frl) (KK.at 0e24);generalize UK G' rl 3e10=G5 at *;right;wp_walk;refine⟨b,A2,S,p,v,h,302 * i,by rw[hm],F5,hA,hf,FT,by omega,hn,sd,by omega,λA' p' op ZK G6 F6 X6 e6 c6 n6 W6 hk6=>?_⟩;show Pv 6e1 _ _;rw[UT];obtain⟨_,M5,_⟩:=F5.ex;have es:(takes 9e0 (hs++[h])).1=(S.take h).1:=by rw[pB,eS]
   have T6:aD G5 G6:=F5.tkp ((show Fm [] A2 {A' with nk:=A2.nk} G5 G6 from W6).mono (E:=[rl]) 0e0) eG;have e6r:G6 rl=some 3e10:=W6.kp _ _ eG nr 0e0;refine⟨_,_,_,A',p',hv++[v],hs++[h],rfl,by rw[es];exact F6,?_,?_,?_,by omega,W6.m1.1.trans hm,e6r,hH5.kt T6,by simp[lh],?_,λz=>?_,⟨by rw[show A'.cl=A2.cl from W6.m1.2.1];exact nc.1,by rw[show A'.cs=A2.cs from W6.m1.2.2];exact nc.2⟩,λa ha=>?_,λb o e _=>W6.kp b o (KH5.at e) (λz=>by rw[fr b z] at e;cases e) 0e0⟩
   ·rw[es,show 302 * 6e1=302 * i+302 by omega];exact FT.Fk h hf.1 hf.2 (λj hj=>fL (by have:=(M5.lt j hj).1;omega) (by have:=(M5.lt j hj).2;have:=FT.md;omega)) 1e0
   ·rw[es];exact CB hn h
   ·rw[es];exact Cu sd hn h
   ·refine⟨λx hx=>?_,λx hx=>?_,by rw[es];exact NO.take h⟩
    ·rcases Κ.mp hx with hx|hx
     ·exact ok x hx
     ·rw[show x=h by simpa using hx];exact hf
    ·rcases Κ.mp hx with hx|hx
     ·exact kn x hx
     ·rw[show x=h by simpa using hx];exact kf
   ·rcases W6.nw rl z with z|z
    ·exact nr z
    ·rw[eG] at z;cases z
   ·rcases W6.nw a ha with z|z
    ·exact fr a z
    ·exact KH5.cJ z
  intro Z G h;rw[UT,Γ] at h;obtain⟨v4,v5,v6,A2,p,hv,hs,rfl,F,FT,hn,sd,hk,hm,eG,hH,lh,⟨ok,kn,NO⟩,nr,nc,fr,KG⟩:=h;right;wp_walk;exact q rl hv hs G eG hH ok kn 1e0 KG
theorem BM:Ok T (T.r 13) 1 (xG t.aP):=by
 nomatch T.r 13
 ·obtain⟨x,dx,p,us,b,rfl,_⟩:=h;rfl
 ·obtain⟨x,dx,p,us,b,rfl,e,ep,hU,q⟩:=h
  nomatch (pss2 (dN T.cY T.iQ pv0 (aT 5e3)) (dN T.cY T.fE pv0 (aT 2e18))),0
  exists e
  refine λlb f1=>?_;have n1:x≠lb:=aF e f1
  exists aC n1,e
  refine λln f2=>?_;have n2:x≠ln:=aF aA f2;have n3:lb≠ln:=aF 9e42 f2
  exists aC n2
  rw[aC n2.symm,aC n3.symm] at f2;have npx:p≠x:=c0 ep e 4e1;have npl:=aF ep f1;have npn:=aF ep f2;have KK:Kp [x] H (UK (UK (UK (UK H lb (.lst [.ref p])) x (.ins t.aP dx [("blocks",.ref lb)])) ln (.lst [.int 0])) x (.ins t.aP dx [("blocks",.ref lb),("numbers",.ref ln)])):=λb o eb nb=>by
   have ZF:b≠x:=by simpa using nb
   rw[aC ZF,aC (aF eb f2),aC ZF,aC (aF eb f1)];exact eb
  have TT:aD H _:=λa xs ea=>KK a _ ea (by simp only[Α,Δ,Ψ];exact c0 ea e 4e1);refine q lb ln _ f1 f2 ⟨aA,⟨[.ref p],?_,.one (TT _ _ ep) (hU.kp TT)⟩,?_,n3,by simp⟩ KK
  ·rw[aC n1.symm,aC n3,aC n1.symm];exact aA
  ·rw[aC n2.symm];exact aA
theorem vW:Ok T (T.r 5) 1 (xF t.aJ):=by
 nomatch T.r 5
 ·obtain⟨x,dx,rfl,_⟩:=h;rfl
 ·obtain⟨x,dx,rfl,e,q⟩:=h
  nomatch (pss3 (dN T.bG T.rE pv0 aB) (dN T.bG T.gS pv0 kJ) (dN T.bG T.gQ pv0 kJ)),0
  exists e
  refine λdp f1=>?_;have n1:x≠dp:=aF aA f1
  exists aC n1
  refine λda f2=>?_;have n2:x≠da:=aF aA f2;have n3:dp≠da:=aF 9e42 f2
  exists aC n2
  rw[aC n1.symm] at f1;rw[aC n2.symm,aC n3.symm,aC n2.symm] at f2;refine q dp da _ f1 f2 ⟨aA,?_,?_,n3,by simp,.nil,by simp,by simp,by decide⟩ ?_
  ·rw[aC n1.symm,aC n3,aC n1.symm];exact aA
  ·rw[aC n2.symm];exact aA
  ·intro b o eb nb;have ZF:b≠x:=by simpa using nb
   rw[aC ZF,aC (aF eb f2),aC ZF,aC (aF eb f1),aC ZF];exact eb
theorem vT:Ok T (T.r 28) 3 (AS ⟨t.aO,t.aP,t.aJ⟩):=by
 nomatch T.r 28
 ·obtain⟨x,dx,pg,us,b,rfl,_⟩:=h;rfl
 ·obtain⟨x,dx,pg,us,b,rfl,e,ep,hs,q⟩:=h
  nomatch (aG (dN T.aM T.jG pv0 (AA T.Dd (BM T) (hr.mono 1e0) rfl T.RO (T.r 13).bd .nil pass0 5e3)) (aG (dN T.aM T.dH pv0 6e10) (aG (dN T.aM T.y9 pv0 cK) (aG (dN T.aM T.pP pv0 aB) (pss3 (dN T.aM T.gD pv0 kJ) (dN T.aM T.cQ pv0 (Jq T.rD (vW T) (hr.mono 1e0) rfl T.IL (T.r 5).bd .nil pass0)) (dN T.aM T.gR pv0 kJ)))))),0
  left
  exists e
  refine LS ep hs λwk wx lb ln Gw Kw hwk hlb Yq W0=>?_;have ew:=Kw.at e
  exists ew
  have g1:UK Gw x 6e19 x=some 6e19:=aA;have K1:Kp [x] Gw (UK Gw x 6e19):=Kp.set 0e0;generalize UK Gw x 6e19=G1 at *;right;left
  exists g1
  refine λp h2=>?_;obtain⟨g2,f2,K2,n2⟩:=put2 (o:=.tup [.str "new"]) (o':=.ins t.aO dx [("walk",.ref wk),("sleep",.ref p)]) g1 h2
  exists aC n2,g1
  generalize UK (UK G1 p (.tup [.str "new"])) x (.ins t.aO dx [("walk",.ref wk),("sleep",.ref p)])=G2 at *;right;left
  exists g2
  have g3:UK G2 x 0e19 x=some 0e19:=aA;have K3:Kp [x] G2 (UK G2 x 0e19):=Kp.set 0e0;generalize UK G2 x 0e19=G3 at *;right;left
  exists g3
  have g4:UK G3 x 8e18 x=some 8e18:=aA;have K4:Kp [x] G3 (UK G3 x 8e18):=Kp.set 0e0;generalize UK G3 x 8e18=G4 at *;right;left
  exists g4
  refine λnm h5=>?_;obtain⟨g5,f5,K5,n5⟩:=put2 (o:=.dK []) (o':=.ins t.aO dx [("walk",.ref wk),("sleep",.ref p),("arg",.UL),("now",.int 0),("names",.ref nm)]) g4 h5
  exists aC n5,g4
  generalize UK (UK G4 nm 5e11) x (.ins t.aO dx [("walk",.ref wk),("sleep",.ref p),("arg",.UL),("now",.int 0),("names",.ref nm)])=G5 at *;right;left
  exists g5
  refine RS λtk tx dp da Gt Kt htk hdp hda T0=>?_;have et:=Kt.at g5
  exists et
  have g6:UK Gt x 7e18 x=some 7e18:=aA;have K6:Kp [x] Gt (UK Gt x 7e18):=Kp.set 0e0;generalize UK Gt x 7e18=G6 at *;right
  exists g6
  refine λlt h7=>?_;obtain⟨g7,f7,K7,n7⟩:=put2 (o:=.dK []) (o':=.ins t.aO dx [("walk",.ref wk),("sleep",.ref p),("arg",.UL),("now",.int 0),("names",.ref nm),("tickets",.ref tk),("letters",.ref lt)]) g6 h7
  exists aC n7,g6
  generalize UK (UK G6 lt 5e11) x (.ins t.aO dx [("walk",.ref wk),("sleep",.ref p),("arg",.UL),("now",.int 0),("names",.ref nm),("tickets",.ref tk),("letters",.ref lt)])=G7 at *;have KA:Kp [x] H G4:=((((Kw.mono 0e0).trans K1).trans K2).trans K3).trans K4;have KB:Kp [x] H Gt:=(KA.trans K5).trans (Kt.mono 0e0);have KC:Kp [x] H G6:=KB.trans K6;have xwk:x≠wk:=aF e hwk;have xtk:x≠tk:=aF g5 htk;have W7:Kp [x] Gw G7:=(((((K1.trans K2).trans K3).trans K4).trans K5).trans (Kt.mono 0e0)).trans 0e32;have P7:Kp [x] G2 G7:=(((K3.trans K4).trans K5).trans (Kt.mono 0e0)).trans 0e32;have N7:Kp [x] G5 G7:=(Kt.mono 0e0).trans 0e32;have T7:Kp [x] Gt G7:=K6.trans K7;have KD:Kp [x] H G7:=KC.trans K7;have W5:Kp [x] Gw G5:=((((K1.trans K2).trans K3).trans K4).trans K5);have xlb:lb≠x:=(aF e hlb).symm;have xln:ln≠x:=(aF e Yq).symm;have xdp:dp≠x:=(aF g5 hdp).symm;have xda:da≠x:=(aF g5 hda).symm;have nm6:=K6.at1 (Kt.at f5) n5.symm;have dp6:=K6.at1 T0.hp xdp;have da6:=K6.at1 T0.ha xda;have wk5:=W5.at1 W0.ins xwk.symm;have fr4:H nm=none:=Uc KA g4 h5;have Z8:∀{a:Addr},G5 a=none->H a=none:=λh=>Uc (KA.trans K5) g5 h;have aaZ:H lt=none:=Uc KC g6 h7;have kt7:aD Gw G7:=λb xs hb=>W7.at1 hb (c0 hb ew 4e1);refine q ⟨x,dx,wk,wx,lb,ln,nm,tk,tx,dp,da,lt⟩ 2e4 G7 rfl ⟨g7,⟨p,rfl,P7.at1 f2 n2.symm⟩,W0.keep (λo h=>W7.at1 h xwk.symm) (λo h=>W7.at1 h xlb) (λo h=>W7.at1 h xln) kt7,T0.keep (λo h=>T7.at1 h xtk.symm) (λo h=>T7.at1 h xdp) (λo h=>T7.at1 h xda),N7.at1 f5 n5.symm,⟨[],f7,.nil⟩,by simp,by simp,xwk,xtk,aF wk5 htk,aF f5 hdp,aF f5 hda,aF nm6 h7,(aF dp6 h7).symm,(aF da6 h7).symm⟩ KD λa ha=>?_;simp only[Rn.cells,Α,Δ,Ψ] at ha;rcases ha with rfl|rfl|rfl|rfl|rfl|rfl|rfl|rfl
  ·exact .inl rfl
  ·exact .inr hlb
  ·exact .inr Yq
  ·exact .inr fr4
  ·exact .inr (Z8 htk)
  ·exact .inr (Z8 hdp)
  ·exact .inr (Z8 hda)
  ·exact .inr aaZ
theorem iG:Ok T (T.r 7) 1 (Cp t.aJ):=by
 nomatch T.r 7
 ·obtain⟨tk,tx,dp,da,made,pend,ans,w,rfl,_⟩:=h;rfl
 ·obtain⟨tk,tx,dp,da,made,pend,ans,w,rfl,R,q⟩:=h;have hu:=nZ hr
  nomatch (aI (aK (PM (EB hu pv1 3e16)))),0
  exists R.ins,R.hp,wI
  exact q
theorem rK:Ok T (T.r 33) 2 (JT ⟨t.aO,t.aP,t.aJ⟩):=by
 nomatch T.r 33
 ·obtain⟨R,as,sl,S,v,h,rfl,_⟩:=h;rfl
 ·obtain⟨R,as,sl,S,v,h,rfl,A,hn,hH,q⟩:=h
  nomatch (aG (pst 2 3e0) (pss3 (pif 4e43 (aI (aK (pcr Jk pv2 aE)))) (pif (dQ iT (pix aN 0e5 aB) (aX 1e5) 6e2) 7e22) (aK (MT 7e49 (mN (PL 7e49 (mN (PN (pmt 6e3 T.bG (iG T) (T.r 7) (pa1 3e0)))))))))),0
  obtain⟨a,rfl,eh⟩:=hH;cases es:S.sl with
  | UL=>rw[es] at hn;cases hn
  | new =>
   have U3:=A.slp;rw[es] at U3;obtain⟨p,rfl,ep⟩:=U3;cases h with
   | Vf m w =>
    simp only[Hap.vs,Hap.ini,Hap.w,ϐ,Α3] at eh;rw[show S.over 9e7=false by simp only[Pu.over,es]] at q
    exists A.ins,eh,ep
    exact q _ Kp.refl
   | don m i w =>
    simp only[Hap.vs,Hap.ini,Hap.w,ϐ,Α3] at eh;rw[show S.over 7e5=true by simp only[Pu.over,es]] at q
    exists A.ins,eh,ep
    exact q _ Kp.refl
   | ltr m k w =>
    simp only[Hap.vs,Hap.ini,Hap.w,ϐ,Α3] at eh;rw[show S.over 6e17=true by simp only[Pu.over,es]] at q
    exists A.ins,eh,ep
    exact q _ Kp.refl
  | wait ts =>
   have U3:=A.slp;rw[es] at U3;obtain⟨p,p2,rfl,ep,Z0⟩:=U3;cases h with
   | Vf m w =>
    simp only[Hap.vs,Hap.ini,Hap.w,ϐ,Α3] at eh;rw[show S.over 9e7=true by simp only[Pu.over,es]] at q
    exists A.ins,eh,ep
    refine λp9 h9=>⟨rfl,by decide +kernel,?_⟩;rw[if_neg 3e7];have N9:=q0D (o:=.tup [.str "ended",.str "worn"]) h9
    exists N9.at eh
    exact q _ N9
   | don m i w =>
    simp only[Hap.vs,Hap.ini,Hap.w,ϐ,Α3] at eh;rw[show S.over 7e5 = !decide 4e22 by simp only[Pu.over,es]] at q
    exists A.ins,eh,ep
    refine λp9 h9=>⟨rfl,by decide +kernel,?_⟩;rw[if_neg 3e7];have N9:=q0D (o:=.tup [.str "ended",.str "worn"]) h9;have A9:=A.kp N9;have eh9:=N9.at eh;generalize UK H p9 5e41=G9 at *
    exists A9.ins,A9.tk.ins,eh9
    refine⟨R.tk,R.tx,R.dp,R.da,_,_,_,some i,rfl,A9.tk,?_⟩;wp_walk;rw[show decide (∃j,j∈S.pend/\(some i:Wo)=some j)=decide 4e22 by simp];exact q _ N9
   | ltr m k0 w =>
    simp only[Hap.vs,Hap.ini,Hap.w,ϐ,Α3] at eh;rw[show S.over 8e52=false by simp only[Pu.over,es]] at q
    exists A.ins,eh,ep
    refine λp9 h9=>⟨rfl,by decide +kernel,?_⟩;rw[if_neg 3e7];have N9:=q0D (o:=.tup [.str "ended",.str "worn"]) h9
    exists N9.at eh
    exact q _ N9
  | UP k =>
   have U3:=A.slp;rw[es] at U3;obtain⟨p,rfl,ep⟩:=U3;cases h with
   | Vf m w =>
    simp only[Hap.vs,Hap.ini,Hap.w,ϐ,Α3] at eh;rw[show S.over 9e7=true by simp only[Pu.over,es]] at q
    exists A.ins,eh,ep
    refine λp9 h9=>⟨rfl,by decide +kernel,?_⟩;rw[if_neg 3e7];have N9:=q0D (o:=.tup [.str "ended",.str "worn"]) h9
    exists N9.at eh
    exact q _ N9
   | don m i w =>
    simp only[Hap.vs,Hap.ini,Hap.w,ϐ,Α3] at eh;rw[show S.over 7e5 = !decide 4e22 by simp only[Pu.over,es]] at q
    exists A.ins,eh,ep
    refine λp9 h9=>⟨rfl,by decide +kernel,?_⟩;rw[if_neg 3e7];have N9:=q0D (o:=.tup [.str "ended",.str "worn"]) h9;have A9:=A.kp N9;have eh9:=N9.at eh;generalize UK H p9 5e41=G9 at *
    exists A9.ins,A9.tk.ins,eh9
    refine⟨R.tk,R.tx,R.dp,R.da,_,_,_,some i,rfl,A9.tk,?_⟩;wp_walk;rw[show decide (∃j,j∈S.pend/\(some i:Wo)=some j)=decide 4e22 by simp];exact q _ N9
   | ltr m k0 w =>
    simp only[Hap.vs,Hap.ini,Hap.w,ϐ,Α3] at eh;rw[show S.over 8e52=false by simp only[Pu.over,es]] at q
    exists A.ins,eh,ep
    refine λp9 h9=>⟨rfl,by decide +kernel,?_⟩;rw[if_neg 3e7];have N9:=q0D (o:=.tup [.str "ended",.str "worn"]) h9
    exists N9.at eh
    exact q _ N9
  | ended w =>
   have U3:=A.slp;rw[es] at U3;obtain⟨p,rfl,ep⟩:=U3;have e0:∃(kd:Str) (xs:List V),H a=some 2e47:=by cases h<;>exact⟨_,_,eh⟩
   obtain⟨kd,xs,e0⟩:=e0;rw[show S.over (h)=true by simp only[Pu.over,es]] at q
   exists A.ins,e0,ep
   refine λp9 h9=>⟨rfl,by decide +kernel,?_⟩;rw[if_pos 3e7];exact q _ 5e54
  | worn =>
   have U3:=A.slp;rw[es] at U3;obtain⟨p,rfl,ep⟩:=U3;have e0:∃(kd:Str) (xs:List V),H a=some 2e47:=by cases h<;>exact⟨_,_,eh⟩
   obtain⟨kd,xs,e0⟩:=e0;rw[show S.over (h)=true by simp only[Pu.over,es]] at q
   exists A.ins,e0,ep
   refine λp9 h9=>⟨rfl,by decide +kernel,?_⟩;rw[if_pos 3e7];exact q _ 5e54
theorem iK:Ok T 7e27 1 (qM t.aP):=by
 nomatch T.r 16
 ·obtain⟨wk,wx,lb,ln,k,n,b,r,rfl,_⟩:=h;rfl
 ·obtain⟨wk,wx,lb,ln,k,n,b,r,rfl,W,q⟩:=h
  nomatch (aI (L6 3e12 4e5 Rw aB El w9)),0
  obtain⟨vs,eb,hB⟩:=W.bl;obtain⟨l,el,Xm⟩:=rJ k n b r;have en:=W.nu;rw[el] at en;have i2:gY 1e29 (-1)=some 1e35:=by rw[Α4];exact j8 _ _
  have i3:x9 ((l++[(n:Int)]).map V.int).length (-1)=some l.length:=by
   unfold x9;simp;omega
  have i4:((l++[(n:Int)]).map V.int).set l.length (.int ((n:Int)+1))=(l++[((n+1:Nat):Int)]).map V.int:=by simp
  exists W.ins,en,i2,i3,i4
  have n1:wk≠ln:=c0 W.ins W.nu 4e1;have K1:Kp [ln] H 9e37:=Kp.iZ;have T1:aD H 9e37:=λa xs e=>by rw[aC (c0 e W.nu 4e1)];exact e
  exact q _ ⟨by rw[aC n1];exact W.ins,⟨vs,by rw[aC W.ne];exact eb,(hB.kp T1).turn⟩,by rw[aA,Xm],W.ne,W.U2⟩ K1
theorem gF:Ok T 3e28 1 (xH t.aP):=by
 nomatch T.r 15
 ·obtain⟨wk,wx,lb,ln,k,n,b,r,m,rfl,_⟩:=h;rfl
 ·obtain⟨wk,wx,lb,ln,k,n,b,r,m,rfl,W,hm,q⟩:=h
  nomatch (aI (aK (pix aN (pix aN 2e16 4e5) (pix aN 3e12 4e5)))),0
  obtain⟨vs,eb,hB⟩:=W.bl;obtain⟨ws,p,us,rfl,ep,hU,_,_⟩:=hB.last;obtain⟨l,el,_⟩:=rJ k n b r;have en:=W.nu;rw[el] at en;have hn:n < us.length:=by
   have:=(Ν.mp hm).1;have:=hU.len;omega
  obtain⟨m',hm',hM⟩:=hU.at (ϕ hn);rw[hm] at hm';cases hm';have i1:gY 4e49 (-1)=some 2e4:=j8 _ _;have i2:gY 1e29 (-1)=some 1e35:=by rw[Α4];exact j8 _ _
  have i3:gY us (n:Int)=some us[n]:=eI (ϕ hn)
  exists W.ins,eb,en,i1,i2,ep,i3
  exact q _ hM
theorem As:Ok T (T.r 18) 2 (zV t.aP):=by
 nomatch T.r 18
 ·obtain⟨wk,wx,lb,ln,k,n,b,x,r,m,rfl,_⟩:=h;rfl
 ·obtain⟨wk,wx,lb,ln,k,n,b,⟨kx,bx,nx⟩,r,m,rfl,W,hm,q⟩:=h
  nomatch (aG (aQ (tS 2e16)) (pss3 6e51 6e51 (pif (ptc aY (pix aN 4e28 aB) aE) (aI (aQ (pmt0 pv0 T.cY (iK T) 7e27)))))),0
  obtain⟨vs,eb,hB⟩:=W.bl;have n1:wk≠ln:=c0 W.ins W.nu 4e1;have n2:wk≠lb:=c0 W.ins eb 4e1;obtain⟨ws,p,us,rfl,ep,hU,hBr,_⟩:=hB.last;have hB2:=hBr 0e0;have nu0:H ln=some 4e45:=by rw[W.nu,nL];simp
  have U2:=W.U2;simp only[Ε] at U2;left
  exists W.ins,eb,rA,List.dropLast_concat
  have T1:=aD.dG (ys:=ws) eb;have i1:UK H lb 1e11 wk=some 7e26:=by rw[aC n2];exact W.ins
  have i2:UK H lb 1e11 ln=some 4e45:=by rw[aC W.ne.symm];exact nu0
  have i3:UK H lb 1e11 lb=some 1e11:=aA;have K1:Kp [lb] H (UK H lb 1e11):=Kp.iZ;have B1:=hB2.kp T1;generalize UK H lb 1e11=G at *;right;left
  exists i1,i2,rA,List.dropLast_concat
  have T2:=aD.dG (ys:=(bX 7e8).map V.int++[.int kx]) i2;have j1:UK G ln (.lst 8e8) wk=some 7e26:=by rw[aC n1];exact i1
  have j2:UK G ln (.lst 8e8) ln=some (.lst 8e8):=aA;have j3:UK G ln (.lst 8e8) lb=some 1e11:=by rw[aC W.ne];exact i3
  have K2:Kp [ln] G (UK G ln (.lst 8e8)):=Kp.iZ;have B2:=B1.kp T2;generalize UK G ln (.lst 8e8)=G2 at *;right;left
  exists j1,j2,rA,List.dropLast_concat
  have T3:=aD.dG (ys:=(bX 7e8).map V.int) j2;have W3:jS t.aP (UK G2 ln 4e19) wk wx lb ln 7e8:=⟨by rw[aC n1];exact j1,⟨ws,by rw[aC W.ne];exact j3,B2.kp T3⟩,aA,W.ne,by simp only[Ε];omega⟩;have K3:Kp [ln] G2 (UK G2 ln 4e19):=Kp.iZ;generalize UK G2 ln 4e19=G3 at *;right;have ZO:Kp [lb,ln] H G3:=((K1.mono 0e0).trans (K2.mono 0e0)).trans (K3.mono 0e0)
  exists W3.ins
  refine⟨wk,wx,lb,ln,k,n,b,r,m,rfl,W3,hm,λv hv=>?_⟩;obtain⟨a,kd,xs,rfl,ea,hk⟩:=hv.RC
  exists ea
  by_cases hi:m.Ak=true
  ·rw[hi] at hk q;have hkd:kd = "if":=by simpa using hk
   subst hkd
   exists W3.ins
   exact⟨wk,wx,lb,ln,k,n,b,r,rfl,W3,λH4 W4 K4=>q H4 W4 (ZO.trans (K4.mono 0e0))⟩
  ·have Yp:m.Ak=false:=by simpa using hi
   rw[Yp] at hk q;have hkd:(kd = "if")=False:=by simpa using hk
   exists hkd
   exact q G3 W3 ZO
theorem yB:Ok T (T.r 14) 3 (Cs t.aP):=by
 nomatch T.r 14
 ·obtain⟨wk,wx,lb,ln,st,rfl,_⟩:=h;rfl
 ·obtain⟨wk,wx,lb,ln,st,rfl,W0,ok0,q0,q1⟩:=h
  nomatch (pss2 (qC Δ7 (ptc aY (pix aN 3e12 4e5) (bF cP rfl T.lH fK (pa1 (pix aN 2e16 4e5)))) (pss2 (pif (ptc aY (bF cP rfl T.lH fK (pa1 2e16)) aB) 6e22) (aQ (pmt0 pv0 T.cY (As T) (T.r 18))))) (aK 4e28)),0
  obtain⟨Y,hV⟩:∃Y:Nat->St->Hp->Prop,∀m Z G,Y m Z G = ∃Vd:Stk,Z=[some (.ref wk)]/\jS t.aP G wk wx lb ln Vd/\t8 Vd/\bN Vd=bN st/\m=Vd.length/\Kp [lb,ln] H G:=⟨_,λ_ _ _=>rfl⟩
  try simp only[Lake.start,ϑ,List.map_nil,Ε,ϔ,Nat.reduceAdd,Nat.reduceSub,List.replicate_zero,Ϝ]
  refine⟨Y,⟨st.length,?_⟩,?_⟩
  ·rw[hV];exact⟨st,rfl,W0,ok0,rfl,rfl,Kp.refl⟩
  intro m Z G hG;rw[hV] at hG;obtain⟨Vd,rfl,W,ok,YU,rfl,KG⟩:=hG;have back:∀(Wa:Stk) (G2:Hp),jS t.aP G2 wk wx lb ln Wa->t8 Wa->bN Wa=bN st->Wa.length < Vd.length->Kp [lb,ln] H G2->∃m',m' < Vd.length/\Y m' [some (.ref wk)] G2:=λWa G2 a b c d e=>by
   refine⟨Wa.length,d,?_⟩;rw[hV];exact⟨Wa,rfl,a,b,c,rfl,e⟩
  clear hV
  match Vd,ok with
  | (k,b,n)::r,ok =>
   obtain⟨vs,eb,hB⟩:=W.bl;obtain⟨ws,p,us,rfl,ep,hU,hBr,hBn⟩:=hB.last;obtain⟨l,el,_⟩:=rJ k n b r;have en:=W.nu;rw[el] at en;have i1:gY 4e49 (-1)=some 2e4:=j8 _ _;have i2:gY 1e29 (-1)=some 1e35:=by rw[Α4];exact j8 _ _
   have lu:=hU.len;have lw:=hB.len
   exists W.ins,eb,en,i1,i2,ep
   by_cases hn:n=b.length
   ·rw[if_pos 1e0]
    exists W.ins,eb,en
    refine⟨λZ' G'=>∃m',m' < r.length+1/\Y m' Z' G',λ_ _ z=>z,?_⟩
    match r,ok,W,YU,back,hBn,lw with
    | [],ok,W,YU,back,hBn,lw =>
     have e0:bN st=[(k,b,n)]:=by rw[<- YU];simp[bN]
     rw[if_pos (by have:=lw.1;simp only[Ε,ϔ] at this;omega)];exact q0 G 7e47 9e46 (by rw[e0];simp[bL,hn]) KG
    | (k2,b2,n2)::r,ok,W,YU,back,hBn,lw =>
     rw[if_neg (by have:=lw.1;simp only[Ε] at this;omega)];have h2:n2 < b2.length:=ok.2 (k2,b2,n2) 0e0;have hm:b2[n2]?=some b2[n2]:=ϕ h2;have ho:mE b2 n2=if (b2[n2]).Ak=true then n2+1 else n2:=by unfold mE;rw[hm]
     refine⟨wk,wx,lb,ln,k2,n2,b2,(k,b,n),r,b2[n2],rfl,W,hm,λH' W' K'=>?_⟩;rw[<- ho] at W';refine back _ H' W' ⟨BK h2,λx hx=>ok.2 x (Ρ _ hx)⟩ ?_ 0e0 (Kp.trans KG K');rw[<- YU]
     conv=>rhs;rw[bN]
     rw[if_pos hn]
   ·rw[if_neg 1e0];have h2:n < b.length:=by have:=ok.1;omega
    have hm:b[n]?=some b[n]:=ϕ h2;have e0:bN st=(k,b,n)::r:=by
     rw[<- YU];cases r with
     | nil=>simp[bN]
     | cons x r=>obtain⟨k2,b2,n2⟩:=x;simp[bN,hn]
    exact⟨wk,wx,lb,ln,k,n,b,r,b[n],rfl,W,hm,λv hv=>q1 b[n] v G 7e47 9e46 (by rw[e0];exact hm) hv KG⟩
theorem jW:Ok T (T.r 11) 1 (E3 t.aJ):=by
 nomatch T.r 11
 ·obtain⟨tk,tx,dp,da,made,pend,ans,rfl,_⟩:=h;rfl
 ·obtain⟨tk,tx,dp,da,made,pend,ans,rfl,R,q⟩:=h
  nomatch (aI (aQ (Gz 3e16))),0
  exists R.ins,R.hp
  have n1:=R.n1;exact q _ ⟨by rw[aC n1.1];exact R.ins,aA,by rw[aC R.nda.symm];exact R.ha,R.nda,by simp,.nil,R.la,by simp,R.small⟩ Kp.iZ
theorem zB:Ok T 5e34 2 (JO ⟨t.aO,t.aP,t.aJ⟩):=by
 nomatch T.r 40
 ·obtain⟨R,as,sl,S,w,rfl,_⟩:=h;rfl
 ·obtain⟨R,as,sl,S,w,rfl,A,q⟩:=h
  nomatch (pss3 (dN T.aM T.dH pv0 2e21) 8e40 (aK (aT (pa1 2e21)))),0
  left
  exists A.ins
  refine λp hp=>?_;have N1:=q0D (o:=.tup [.str "ended",wv w]) hp;have e1:UK H p 0e29 p=some 0e29:=aA;have A1:=A.kp N1
  exists N1.at A.ins
  have A2:=A1.attr 2e4 (.ended w) S.ar S.nw ⟨p,rfl,e1⟩;have F2:=(Fw.of (R:=R) (as:=as) N1).trans (Fw.set (p:=R.x) (o:=0e20) 7e1);generalize UK (UK H p 0e29) R.x 0e20=G2 at *;right;left
  exists A2.ins,A2.tk.ins
  refine⟨R.tk,R.tx,R.dp,R.da,_,_,_,rfl,A2.tk,λH3 T3 K3=>?_⟩;have K4:Kp [R.tk,R.dp,R.da] G2 H3:=K3.mono 9e15
  have A3:=A2.tick T3 K4;have F3:=F2.trans 7e52;wp_walk;right;wp_walk;refine λp3 h3 c h4=>?_;have N3:=(q0D (o:=.tup [.str "end",wv w]) h3).trans 9e8;exact q _ c [.ref p3] _ 9e32 9e30 aA 1e9 7e29
theorem yA:Ok T (T.r 41) 2 (JY ⟨t.aO,t.aP,t.aJ⟩):=by
 nomatch T.r 41
 ·obtain⟨R,as,sl,S,rfl,_⟩:=h;rfl
 ·obtain⟨R,as,sl,S,rfl,A,q⟩:=h
  nomatch (pss3 (dN T.aM T.dH pv0 6e10) 8e40 (aK (aT (pa1 6e10)))),0
  left
  exists A.ins
  refine λp hp=>?_;have N1:=q0D (o:=.tup [.str "worn"]) hp;have e1:UK H p 8e15 p=some 8e15:=aA;have A1:=A.kp N1
  exists N1.at A.ins
  have A2:=A1.attr 2e4 (.worn) S.ar S.nw ⟨p,rfl,e1⟩;have F2:=(Fw.of (R:=R) (as:=as) N1).trans (Fw.set (p:=R.x) (o:=0e20) 7e1);generalize UK (UK H p 8e15) R.x 0e20=G2 at *;right;left
  exists A2.ins,A2.tk.ins
  refine⟨R.tk,R.tx,R.dp,R.da,_,_,_,rfl,A2.tk,λH3 T3 K3=>?_⟩;have K4:Kp [R.tk,R.dp,R.da] G2 H3:=K3.mono 9e15
  have A3:=A2.tick T3 K4;have F3:=F2.trans 7e52;wp_walk;right;wp_walk;refine λp3 h3 c h4=>?_;have N3:=(q0D (o:=.tup [.str "worn"]) h3).trans 9e8;exact q _ c [.ref p3] _ 9e32 9e30 aA 1e9 7e29
theorem mH:Ok T 4e25 1 MZ:=by
 nomatch T.r 3
 ·obtain⟨w,rfl,_⟩:=h;rfl
 ·obtain⟨w,rfl,q⟩:=h
  nomatch (aI (aK (pZ (ptc mJ pv0 cK) aB pv0))),0
  exists DM
  cases w with
  | none=>exact q
  | some n=>exact q
theorem tO:Ok T 6e18 1 Dx:=by
 nomatch T.r 0
 ·obtain⟨n,rfl,_⟩:=h;rfl
 ·obtain⟨n,rfl,q⟩:=h
  nomatch (aI (aK (bF 1e13 rfl T.A8 oP (pa2 (fX eD 9e38) (bF 7e24 rfl T.Hc Ac (pa2 9e38 pv0)))))),0
  wp_walk;exact q
theorem jI:Ok T 3e25 1 M9:=by
 nomatch T.r 4
 ·obtain⟨b,rfl,_⟩:=h;rfl
 ·obtain⟨b,rfl,q⟩:=h
  nomatch (aI (aK (pZ (AH pv0) aB aB))),0
  wp_walk;cases b<;>exact q
theorem Gr:Ok T (T.r 2) 2 Cm:=by
 nomatch T.r 2
 ·obtain⟨g,a,b,rfl,_⟩:=h;rfl
 ·obtain⟨g,a,b,rfl,ha,q⟩:=h
  nomatch (aG (pif 9e21 (aI (aK (pcl (jI T) 3e25 (pa1 (pcr aY pv1 pv2)))))) (aG (pst 3 (pcl (mH T) 4e25 5e3)) (aG (pst 4 (pcl (mH T) 4e25 8e7)) (aG (pif 9e21 (aI (aK (pcl (jI T) 3e25 (pa1 (pcr jX pv3 pv4)))))) (pss3 (pif 9e21 (aI (aK (pcl (tO T) 6e18 (pa1 (bE cH pv3 pv4)))))) (pif 9e21 (aI (aK (pcl (tO T) 6e18 (pa1 (bE jK pv3 pv4)))))) (aK (pcl (tO T) 6e18 (pa1 (bE mK pv3 pv4))))))))),0
  have b1:=vC ha;cases g with
  | eq =>
   exists Sg.s
   have sc0:VJ .UL .UL=true:=rfl;have sc1:∀i,VJ .UL 3e35=true:=λ_=>rfl;have sc2:∀i,VJ 3e35 .UL=true:=λ_=>rfl;have sc3:∀i j,VJ 3e35 2e35=true:=λ_ _=>rfl;cases a with
   | none=>cases b with
    | none=>simpa[Kr,sc0,sc1,sc2,sc3,wv,B7,Sg.of] using q
    | some n=>simpa[Kr,sc0,sc1,sc2,sc3,wv,B7,Sg.of] using q
   | some m=>cases b with
    | none=>simpa[Kr,sc0,sc1,sc2,sc3,wv,B7,Sg.of] using q
    | some n=>simpa[Kr,sc0,sc1,sc2,sc3,wv,B7,Sg.of] using q
  | lt =>
   exists Sg.s,Ε6
   exact q
  | add =>
   exists Sg.s
   exact q
  | sub =>
   exists Sg.s
   exact q
  | mul =>
   exists Sg.s
   exact⟨Eu 1e0 1e0,q⟩
theorem DB{d:Nat}(hn:3<=n)(IH:gH P w K mg base VD n (t.a 1) (t.d 1) ["saying","names","arg","now","answers"] (Mo d)):Ok T (T.r 1) (n+1) (Mo (d+1)):=by
  nomatch T.r 1
  · obtain⟨v,dn,da,p,s,rfl,_⟩:=h;rfl
  · obtain⟨v,dn,da,p,s,rfl,hS,hd,UQ,hN,hA,hP,q⟩:=h;have hu:=nZ hr
    nomatch (aG (pst 5 4e2) (aG (pif 3e5 9e51) (aG (pif 3e5 6e22) (aG (pif 3e5 (aI (aK (tR hu pv1 4e2 ⟨rfl,rfl,rfl,rfl⟩)))) (aG (pif 3e5 (aI 3e18)) (aG (pif 3e5 (aI (aK (pcl (tO T) 6e18 6e23)))) (aG (pst 6 4e37) (aG (pif 3e5 (aI (aK (tR hu pv4 pv6 ⟨rfl,rfl,rfl,rfl⟩)))) (pss3 (pif 3e5 (aI (aK (pcl (jI T) 3e25 (pa1 (pcr aY (pcl (mH T) 4e25 (pa1 pv6)) aB)))))) (pst 7 4e37) (aK (pcl (Gr T) (T.r 2) (pa3 pv5 pv6 pv7)))))))))))),0
    cases hS with
    | num e =>
      exists e
      exact q
    | UL e =>
      exists e
      exact q
    | name e =>
      obtain⟨kvs,ek,hk⟩:=hN
      exists e,ek,hk
      exact q
    | arg e =>
      exists e
      exact q
    | now e =>
      exists e
      exact q
    | ans e h1 =>
      exists e
      simp only[Say.depth] at hd;refine⟨_,_,_,p,_,rfl,h1,by omega,UQ,hN,hA,hP,?_⟩;obtain⟨kvs,ek,hk⟩:=hA
      exists e,ek,hk
      exact q
    | neg e h1 =>
      exists e
      simp only[Say.depth] at hd;refine⟨_,_,_,p,_,rfl,h1,by omega,UQ,hN,hA,hP,?_⟩
      exists e,Ε6
      exact q
    | @two a v u g s1 s2 e h1 h2 =>
      simp only[Say.depth] at hd;cases g <;>
      ( exists e,Sg.s
        refine⟨_,_,_,p,_,rfl,h1,by omega,UQ.1,hN,hA,hP,?_⟩
        exists e,Sg.s
        refine⟨_,_,_,p,_,rfl,h2,by omega,UQ.2,hN,hA,hP,?_⟩
        exists e,Sg.s
        exact⟨_,_,_,rfl,Ea hP UQ.1,q⟩)
theorem Dn(T:Tx P w base K mg t):∀d,gH P w K mg base VD (d+3) (t.a 1) (t.d 1) ["saying","names","arg","now","answers"] (Mo d):=by
 intro d
 induction d with
 | zero=>exact⟨λ_ _ _ _ x=>by (obtain⟨_,_,_,_,s,_,_,h,_⟩:=x;exact absurd h (by have:=s.nC;omega)),λ_ _ _ _ _ _ _ _ _ _ _ _ _ x=>by (obtain⟨_,_,_,_,s,_,_,h,_⟩:=x;exact absurd h (by have:=s.nC;omega))⟩
 | succ d ih=>exact DB T 1e0 ih
theorem eB:Ok T (T.r 42) 10 (Ct ⟨t.aO,t.aP,t.aJ⟩):=by
 nomatch T.r 42
 ·obtain⟨R,as,sl,S,v,s,rfl,_⟩:=h;rfl
 ·obtain⟨R,as,sl,S,v,s,rfl,A,ok,hS,so,q⟩:=h
  nomatch (aI (aK (pcl (Dn T 6) (T.r 1) (dJ pv1 (dJ 0e10 (pa3 3e48 4e16 (aL T.bG T.gQ 6e3))))))),0
  exists A.ins,A.tk.ins
  exact⟨v,R.nm,R.da,S.pl,s,rfl,hS,so.2,so.1,⟨_,A.nm,pS S.nm⟩,⟨_,A.tk.ha,pC S.ans⟩,ok,q⟩
theorem pT:Ok T (T.r 17) 2 (rV t.aP):=by
 nomatch T.r 17
 ·obtain⟨wk,wx,lb,ln,k,n,c,b,bb,r,m,rfl,_⟩:=h;rfl
 ·obtain⟨wk,wx,lb,ln,k,n,c,b,bb,r,m,rfl,W,hm,hs,aaH,q⟩:=h
  nomatch (pss2 (aQ (dM 2e16 (pix aN 4e28 (bE cH aB pv1)))) (aQ (qA PySem.F.slot_list_extend PySem.F.type_list_extend tL 3e12 (pa1 (aT (pa2 pv1 aB)))))),0
  obtain⟨vs,eb,hB⟩:=W.bl;have n1:wk≠ln:=c0 W.ins W.nu 4e1;have n2:wk≠lb:=c0 W.ins eb 4e1;have lv:=hB.len
  exists W.ins,eb
  refine⟨wk,wx,lb,ln,k,n,b,r,m,rfl,W,hm,λv hv=>?_⟩;obtain⟨a,p,xs,us,rfl,ea,hat,ep,hU⟩:=hv.subAt hs
  exists ea,hat,eb
  have lf:=W.U2;simp only[Ε] at lv lf;refine⟨by omega,?_⟩;have T1:=aD.dG (ys:=vs++[V.ref p]) eb;have i1:UK H lb 1e12 wk=some 7e26:=by rw[aC n2];exact W.ins
  have i2:UK H lb 1e12 ln=some 4e19:=by rw[aC W.ne.symm];exact W.nu
  have i3:UK H lb 1e12 lb=some 1e12:=aA;have K1:Kp [lb] H (UK H lb 1e12):=Kp.iZ;have B1:=hB.kp T1;have U1:=hU.kp T1;have p1:=T1 _ _ ep;generalize UK H lb 1e12=G at *
  exists i1,i2
  refine λl0 f0=>?_;have N0:=q0D (o:=.lst [.int c,.int 0]) f0
  exists N0.at i2,Γ
  have ll:=vR 7e8;simp only[Ε] at ll;refine⟨by omega,?_⟩;have nl0:ln≠l0:=aF i2 f0;have nb0:lb≠l0:=aF i3 f0;have nw0:wk≠l0:=aF i1 f0;have T2:aD G (UK (UK G l0 (.lst [.int c,.int 0])) ln (.lst ((bX 7e8).map V.int++[.int c,.int 0]))):=(aD.nil N0).tr (aD.dG (N0.at i2));refine q _ ⟨by rw[aC n1,aC nw0];exact i1,⟨_,by rw[aC W.ne,aC nb0];exact i3,.cons (B1.kp T2) (T2 _ _ p1) (U1.kp T2)⟩,by rw[aA,nL];simp,W.ne,by simp only[Ε];omega⟩ ?_;intro d o ed nd;simp only[Α,Δ,Ψ,not_or] at nd;have g1:=K1.at1 ed nd.1;rw[aC nd.2,aC (aF g1 f0)];exact g1
theorem Dj:Ok T (T.r 39) 11 (EU ⟨t.aO,t.aP,t.aJ⟩ true):=by
 nomatch T.r 39
 ·obtain⟨R,as,sl,S,a,m,N,rfl,_⟩:=h;rfl
 ·obtain⟨R,as,sl,S,a,m,N,rfl,A,hs,hB,F,g,UY,q⟩:=h
  nomatch (aI (fY (dQ rN 9e6 (aX (pa2 cK aB)) 6e2) 2e38 (aI (fY (ptc aY 3e0 aE) 2e38 (aI 8e27))))),0
  obtain⟨k0,b0,n0,r0,Wd,Zw⟩:=gM UY;have d0:=F.sk.dp;rw[Wd] at d0;have aaH:r0.length<=90:=by have:=d0.1;omega
  have enter:∀(G:Hp) (_:bA ⟨t.aO,t.aP,t.aJ⟩ G R as sl S) (_:Fw R as as H G) (c:Nat) (bb:List Stm),m.sub c=some bb->(∀H',bA ⟨t.aO,t.aP,t.aJ⟩ H' R as sl (S.enter c bb)->Fw R as as H H'->Q .UL H')->rV t.aP [.ref R.wk,.int (c:Int)] G 6e46 E0:=λG A FG c bb X9 q=>by
   have W:=A.wk;rw[Wd] at W;refine⟨R.wk,R.wx,R.lb,R.ln,k0,n0,c,b0,bb,r0,m,rfl,W,Zw,X9,aaH,λH1 W1 K1=>?_⟩;rw[<- Wd] at W1;exact q H1 (A.walk W1 K1) (FG.trans (A.uU W1 K1))
  have pass:∀(G:Hp) (_:bA ⟨t.aO,t.aP,t.aJ⟩ G R as sl S) (_:Fw R as as H G),(∀H',bA ⟨t.aO,t.aP,t.aJ⟩ H' R as sl S.pass->Fw R as as H H'->Q .UL H')->qM t.aP [.ref R.wk] G 6e46 E0:=λG A FG q=>by
   have W:=A.wk;rw[Wd] at W;refine⟨R.wk,R.wx,R.lb,R.ln,k0,n0,b0,r0,rfl,W,λH1 W1 K1=>?_⟩;have e:(k0,b0,n0+1)::r0=fP S.stk:=by rw[Wd];rfl
   rw[e] at W1;exact q H1 (A.walk W1 (K1.mono 0e0)) (FG.trans (A.uU W1 (K1.mono 0e0)))
  cases hs with
  | @U4 a p v s vs b e1 h1 e2 h2 =>
   simp only[sG] at q
   exists A.ins,e1
   refine⟨R,as,sl,S,v,s,rfl,A,F.pl,h1,g.1,?_⟩
   exists A.ins,A.wk.ins,e1
   refine λp0 h0=>⟨t7 _,flat01,?_⟩;rw[yW];have N0:=q0D (o:=.tup [.UL,.int 0]) h0;have A0:=A.kp N0;have e0:=N0.at e1;have F0:=Fw.of (R:=R) (as:=as) N0;generalize UK H p0 8e47=G0 at *;by_cases hw:num 8e1=0
   ·rw[if_pos hw] at q;rw[decide_eq_true hw]
    exists A0.ins,A0.wk.ins,e0
    exact pass G0 A0 F0 q
   ·rw[if_neg hw] at q;rw[Β7 hw]
    exists A0.ins,A0.wk.ins,e0
    exact enter G0 A0 F0 0 b rfl q
  | @iff a p p2 v s vs us b o e1 h1 e2 h2 e3 h3 =>
   simp only[sG] at q
   exists A.ins,e1
   refine⟨R,as,sl,S,v,s,rfl,A,F.pl,h1,g.1,?_⟩
   exists A.ins,A.wk.ins,e1
   refine λp0 h0=>⟨t7 _,flat01,?_⟩;rw[yW];have N0:=q0D (o:=.tup [.UL,.int 0]) h0;have A0:=A.kp N0;have e0:=N0.at e1;have F0:=Fw.of (R:=R) (as:=as) N0;generalize UK H p0 8e47=G0 at *;by_cases hw:num 8e1=0
   ·rw[if_pos hw] at q;rw[decide_eq_true hw]
    exists A0.ins,A0.wk.ins,e0
    exact enter G0 A0 F0 1 o rfl q
   ·rw[if_neg hw] at q;rw[Β7 hw]
    exists A0.ins,A0.wk.ins,e0
    exact enter G0 A0 F0 0 b rfl q
  | _=>cases hB
theorem Jb:Ok T (T.r 20) 11 7e36:=by
 nomatch T.r 20
 ·obtain⟨R,as,sl,S,a,m,N,rfl,_⟩:=h;rfl
 ·obtain⟨R,as,sl,S,a,m,N,rfl,A,U3,hs,⟨x,s,rfl⟩,F,g,hN,q⟩:=h
  nomatch (pss2 (ppt 0e10 3e0 9e6) (aK 8e0)),0
  cases hs with
  | @set a x v s e1 h1 =>
   have l1:(fH S.nm).length<=N:=by rw[fH,Γ];exact F.nm
   left
   exists A.ins,e1
   refine⟨R,as,sl,S,v,s,rfl,A,F.pl,h1,g,?_⟩
   exists A.ins,e1,A.nm,gE
   refine⟨by omega,?_⟩;have A1:=A.name x 8e1;have F1:=Fw.set (R:=R) (as:=as) (H:=H) (o:=.dK 0e30) (p:=R.nm) 7e1;generalize UK H R.nm (.dK 0e30)=G1 at *;right;wp_walk;refine λc hc=>?_;have N4:=q0D (o:=.lst []) hc;exact q _ c [] _ 8e5 8e2 aA .nil 4e4
theorem vX:Ok T (T.r 6) 1 (Co t.aJ):=by
 nomatch T.r 6
 ·obtain⟨tk,tx,dp,da,made,pend,ans,rfl,_⟩:=h;rfl
 ·obtain⟨tk,tx,dp,da,made,pend,ans,rfl,R,hm,hl,q⟩:=h
  nomatch (aG (pst 1 (aL T.bG T.rE pv0)) (pss3 (L5 T.bG T.rE pv0 aB) (ppt 3e16 pv1 BY) (aK pv1))),0
  exists R.ins
  have n1:=R.n1;have nk:(made:Int)∉pend:=λz=>by have:=R.lt _ z;omega
  exists aC n1.1.symm,R.hp,wK (.bl true) (GF nk)
  refine⟨by simp only[jM,Γ];omega,?_⟩;refine q _ ⟨by rw[aC n1.1];exact aA,by rw[aA];simp[jM],by rw[aC R.nda.symm,aC n1.2.symm];exact R.ha,R.nda,λi hi=>?_,?_,λp hp=>?_,λp hp z=>?_,by omega⟩ ?_
  ·rcases Κ.mp hi with hi|hi
   ·have:=R.lt i hi;omega
   ·rw[show i=(made:Int) by simpa using hi];omega
  ·refine List.pairwise_append.mpr ⟨R.asc,by simp,λi hi j hj=>?_⟩;rw[show j=(made:Int) by simpa using hj];exact(R.lt i hi).2
  ·have:=R.la p hp;omega
  ·rcases Κ.mp z with z|z
   ·exact R.dis p hp z
   ·have:=R.la p hp;rw[show p.1=(made:Int) by simpa using z] at this;omega
  ·intro b o eb nb;simp only[Α,Δ,Ψ,not_or] at nb;rw[aC nb.2,aC nb.1];exact eb
theorem lK:Ok T (T.r 43) 2 (JR ⟨t.aO,t.aP,t.aJ⟩):=by
 nomatch T.r 43
 ·obtain⟨R,as,sl,S,n,rfl,_⟩:=h;rfl
 ·obtain⟨R,as,sl,S,n,rfl,A,b1,b2,b3,q⟩:=h
  nomatch (pss3 (pst 2 (pmt0 6e3 T.bG (vX T) (T.r 6))) (ppt 0e10 pv1 pv2) 3e18),0
  left
  exists A.ins,A.tk.ins
  refine⟨R.tk,R.tx,R.dp,R.da,S.made,S.pend,S.ans,rfl,A.tk,b1,b2,λH1 T1 K1=>?_⟩;have K2:Kp [R.tk,R.dp,R.da] H H1:=K1.mono 9e15
  have A1:=A.tick T1 K2;have F1:=A.Bp T1 K2;wp_walk;right;left;have ep:aR 1e33 (.inr n) 9e47=fH (cB S.nm n 0e7):=gE S.nm n 0e7;have l1:(fH S.nm).length<=1000000:=by rw[fH,Γ];exact b3
  exists A1.ins,A1.nm,ep
  refine⟨by omega,?_⟩;have A2:=A1.name n 0e7;have F2:=F1.trans (Fw.set (R:=R) (as:=as) (H:=H1) (o:=.dK 7e46) (p:=R.nm) 7e1);generalize UK H1 R.nm (.dK 7e46)=G2 at *;right;wp_walk;exact q G2 A2 F2
theorem vY:Ok T (T.r 21) 11 1e26:=by
 nomatch T.r 21
 ·obtain⟨R,as,sl,S,a,m,N,rfl,_⟩:=h;rfl
 ·obtain⟨R,as,sl,S,a,m,N,rfl,A,U3,hs,⟨x,y,s,hm⟩,F,g,hN,q⟩:=h
  nomatch (pss3 (pst 2 9e6) (pst 3 7e39) (aK (aT (pa1 (aX (dJ 3e0 (pa3 pv3 3e0 pv2))))))),0
  rcases hm with rfl|rfl
  ·cases hs with
   | @order a x y v s e1 h1 =>
    left
    exists A.ins,e1
    refine⟨R,as,sl,S,v,s,rfl,A,F.pl,h1,g,?_⟩;wp_walk;right;left
    exists A.ins,e1
    refine⟨R,as,sl,S,x,rfl,A,by have:=F.md;omega,by have:=F.pd;omega,by have:=F.nm;omega,λH1 A1 F1=>?_⟩;have e2:=A.tkp F1 _ _ e1;wp_walk;right
    exists e2
    refine λp3 h3 c h4=>?_;have N3:=(q0D (o:=.tup [.str "order",.int S.made,.str y,wv 8e1]) h3).trans 9e8;exact q _ c [.ref p3] _ 0e33 3e21 aA 1e9 8e20
  ·cases hs with
   | @child a x y v s e1 h1 =>
    left
    exists A.ins,e1
    refine⟨R,as,sl,S,v,s,rfl,A,F.pl,h1,g,?_⟩;wp_walk;right;left
    exists A.ins,e1
    refine⟨R,as,sl,S,x,rfl,A,by have:=F.md;omega,by have:=F.pd;omega,by have:=F.nm;omega,λH1 A1 F1=>?_⟩;have e2:=A.tkp F1 _ _ e1;wp_walk;right
    exists e2
    refine λp3 h3 c h4=>?_;have N3:=(q0D (o:=.tup [.str "child",.int S.made,.str y,wv 8e1]) h3).trans 9e8;exact q _ c [.ref p3] _ 0e33 3e21 aA 1e9 8e20
theorem Dk:Ok T (T.r 22) 11 8e36:=by
 nomatch T.r 22
 ·obtain⟨R,as,sl,S,a,m,N,rfl,_⟩:=h;rfl
 ·obtain⟨R,as,sl,S,a,m,N,rfl,A,U3,hs,⟨x,s,rfl⟩,F,g,hN,q⟩:=h
  nomatch (aG (pst 2 9e6) (pss3 (pst 3 (bF 7e24 rfl T.Hc Ac (pa2 (pY (v:=.int 1000000000000) rfl T.sX ⟨_,rfl⟩) (pZ (ptc mJ pv2 cK) 4e16 (bE cH 4e16 (bF 1e13 rfl T.A8 oP (pa2 aB pv2))))))) (pst 4 7e39) (aK (aT (pa1 (aX (pa3 aE pv4 pv3))))))),0
  cases hs with
  | @UX a x v s e1 h1 =>
   left
   exists A.ins,e1
   refine⟨R,as,sl,S,v,s,rfl,A,F.pl,h1,g,?_⟩;wp_walk;right;refine bU λR2 VA=>?_
   exists A.ins,DM
   have rest:R2 [some 3e54,some (V.ref a),some (wv 8e1),some (V.int (uN S.nw 8e1)),none] H:=by
    refine VA _ _ ?_;left
    exists A.ins,e1
    refine⟨R,as,sl,S,x,rfl,A,by have:=F.md;omega,by have:=F.pd;omega,by have:=F.nm;omega,λH1 A1 F1=>?_⟩;wp_walk;right;wp_walk;refine λp3 h3 c h4=>?_;have N3:=(q0D (o:=.tup [.str "timer",.int S.made,.int (uN S.nw 8e1)]) h3).trans 9e8;exact q _ c [.ref p3] _ 0e33 3e21 aA 1e9 8e20
   cases hw:S.worth s with
   | none =>
    rw[hw] at rest;rw[if_pos rfl];exact rest
   | some z =>
    rw[hw] at rest;rw[if_neg 0e0]
    exists wv
    exact rest
theorem Gp:Ok T (T.r 23) 11 4e36:=by
 nomatch T.r 23
 ·obtain⟨R,as,sl,S,a,m,N,rfl,_⟩:=h;rfl
 ·obtain⟨R,as,sl,S,a,m,N,rfl,A,U3,hs,⟨s,k,r,rfl⟩,F,g,hN,q⟩:=h
  nomatch (aI (aK (aT (pa1 (aX (dJ aE (pa3 9e6 3e0 9e6))))))),0
  cases hs with
  | @send a k v u s r e1 h1 h2 =>
   exists A.ins,e1
   refine⟨R,as,sl,S,v,s,rfl,A,F.pl,h1,g.1,?_⟩
   exists A.ins,e1
   refine⟨R,as,sl,S,u,r,rfl,A,F.pl,h2,g.2,?_⟩;wp_walk;have F1:Fw R as as H H:=Fw.refl;refine λp3 h3 c h4=>?_;have N3:=(q0D (o:=.tup [.str "send",wv 8e1,.str k,wv 3e38]) h3).trans 9e8;exact q _ c [.ref p3] _ (A.kp N3) 3e21 aA 1e9 8e20
theorem mG:Ok T 8e34 1 (Cq t.aJ):=by
 nomatch T.r 10
 ·obtain⟨tk,tx,dp,da,made,pend,ans,i,rfl,_⟩:=h;rfl
 ·obtain⟨tk,tx,dp,da,made,pend,ans,i,rfl,R,hi,q⟩:=h
  nomatch (aI (aQ (Jn 3e16 pv1 ⟨rfl,rfl,rfl,rfl⟩))),0
  obtain⟨v,hv⟩:=GG hi
  exists R.ins,R.hp,hv,GC
  have n1:=R.n1;exact q _ ⟨by rw[aC n1.1];exact R.ins,aA,by rw[aC R.nda.symm];exact R.ha,R.nda,λj hj=>R.lt j 7e16,R.asc.filter _,R.la,λp hp z=>R.dis p hp ((Α6.mp z).1),R.small⟩ Kp.iZ
theorem Gm:Ok T (T.r 24) 11 0e37:=by
 nomatch T.r 24
 ·obtain⟨R,as,sl,S,a,m,N,rfl,_⟩:=h;rfl
 ·obtain⟨R,as,sl,S,a,m,N,rfl,A,U3,hs,⟨s,rfl⟩,F,g,hN,q⟩:=h
  nomatch (aG (pst 2 9e6) (pss3 (pif (PV (AH (pmt 6e3 T.bG (iG T) (T.r 7) 8e7))) 7e51) (aQ (pmt 6e3 T.bG (mG T) 8e34 8e7)) (aK (aT (pa1 (aX (pa2 aE pv2))))))),0
  cases hs with
  | @drop a v s e1 h1 =>
   left
   exists A.ins,e1
   refine⟨R,as,sl,S,v,s,rfl,A,F.pl,h1,g,?_⟩;wp_walk;right;left
   exists A.ins,A.tk.ins
   refine⟨R.tk,R.tx,R.dp,R.da,_,_,_,S.worth s,rfl,A.tk,?_⟩;by_cases hp:∃i,i∈S.pend/\S.worth s=some i
   ·rw[decide_eq_true hp];obtain⟨i,hi,hw⟩:=hp;have hwv:wv 8e1=.int i:=by rw[hw];rfl
    have hd:bT S 1e18=({S with pend:=S.pend.filter λj=>decide 4e8},[[.str "drop",.int i]]):=by simp only[bT,hw,if_pos hi]
    rw[hd] at q;wp_walk;right;left
    exists A.ins,A.tk.ins,hwv
    refine⟨R.tk,R.tx,R.dp,R.da,_,_,_,i,rfl,A.tk,hi,λH3 T3 K3=>?_⟩;have K4:Kp [R.tk,R.dp,R.da] H H3:=K3.mono 9e15
    have A3:=A.tick T3 K4;have F3:=A.Bp T3 K4;wp_walk;right;wp_walk;refine λp3 h3 c h4=>?_;have N3:=(q0D (o:=.tup [.str "drop",.int i]) h3).trans 9e8;exact q _ c [.ref p3] _ 9e32 9e30 aA 1e9 7e29
   ·rw[Β7 hp];have hd:bT S 1e18=(S,[]):=by
     cases hw:S.worth s with
     | none=>simp only[bT,hw]
     | some i=>simp only[bT,hw,if_neg (show ¬ i∈S.pend from λz=>hp ⟨i,z,hw⟩)]
    rw[hd] at q;wp_walk;have F1:Fw R as as H H:=Fw.refl;refine λc hc=>?_;have N4:=q0D (o:=.lst []) hc;exact q _ c [] _ (A.kp N4) 8e2 aA .nil 4e4
theorem nU:Ok T (T.r 12) 1 (zT t.aJ):=by
 nomatch T.r 12
 ·obtain⟨tk,tx,dp,da,l,made,pend,ans,ws,rfl,_⟩:=h;rfl
 ·obtain⟨tk,tx,dp,da,l,made,pend,ans,ws,rfl,A,el,h4,ha,q⟩:=h;have hu:=nZ hr
  nomatch (pss3 (AF (i:=2) sc rfl 0e53 (pX (fr:=[0]) (N:=["worth","self"]) rfl 4e3 (eC.free rfl rfl rfl rfl rfl 6e25 rfl 6e0 rfl 4e35) (jY pv1) (λC s H ex pn=>⟨j4 (PU (EB hu 0e2 (aL T.bG T.gQ 3e6))) ,0e2 ⟩))) (pif (ptc jX (bF CP rfl T.lH fK (pa1 (bR (yP rfl) rfl T.MB Hm 8e7))) aB) (aI (aK (pZ (tW pv2 5e22) (pix aN pv2 aB) cK)))) (L8 (aK (pix aN (pX (fr:=[2]) (N:=["ticket","tickets"]) rfl 4e3 7e25 (L4 2e48) 5e36) aB)))),0
  left
  exists el
  refine⟨⟨_,fV.of el⟩,?_⟩;obtain⟨Pv,UT⟩:∃Pv:Nat->List V->Hp->Prop,∀i xs G,Pv i xs G=(G=H/\xs=(cA ans 9e22).map V.int):=⟨_,λ_ _ _=>rfl⟩;refine pN (ys:=ws.map wv) Pv ?_ ?_ ?_ ?_ ?_
  ·rw[UT];exact⟨rfl,rfl⟩
  ·intro i xs G h;rw[UT] at h;rw[h.2,Γ];have:=nD ans 9e22;have:(ws.take i).length<=ws.length:=by rw[Α8];omega
   omega
  ·intro i xs G h;rw[UT] at h;rw[h.1];exact fV.of el
  ·intro i y xs G hi ey h;rw[UT] at h;obtain⟨rfl,rfl⟩:=h;obtain⟨w0,ew,rfl⟩:∃w0,ws[i]?=some w0/\y=wv w0:=by
    rw[ϖ] at ey;obtain⟨w0,a,b⟩:=ϛ.mp ey;exact⟨w0,a,b.symm⟩
   exists bC,Β1,A.ins,A.ha,Ky
   rw[UT,UT,CW ew];split
   ·exact⟨rfl,rfl⟩
   ·exact⟨rfl,rfl⟩
  intro xs G h p hp;rw[UT] at h;obtain⟨rfl,rfl⟩:=h;rw[show ws.take (ws.map wv).length=ws by rw[Γ,Α2]];right
  exists aA
  refine⟨cA ans ws,rfl,Λ (nD ans ws) h4,λc hc=>⟨_,rfl,?_⟩⟩;have n1:p≠c:=aF aA hc;have K2:∀o,Kp [] G (UK (UK G p 8e11) c o):=λo=>(Kp.new hp).trans 4e54;have e2:∀o,UK (UK G p 8e11) c o p=some 8e11:=λo=>by rw[aC n1,aA]
  generalize hG2:UK (UK G p 8e11) c _=G2;replace K2:Kp [] G G2:=hG2▸K2 _;replace e2:G2 p=some 8e11:=hG2▸e2 _;clear hG2;have A2:=A.kp K2;have qq:=q G2 K2;by_cases hl:(lL (cA ans ws)).length < 2
  ·rw[if_pos 1e0];rw[FE hl] at qq;cases ed:cA ans ws with
   | nil =>
    rw[ed] at e2 qq
    exists e2
    rw[if_neg 0e0];exact qq
   | cons i r =>
    rw[ed] at e2 qq
    exists e2
    rw[if_pos 0e0];exact qq
  rw[if_neg 1e0];obtain⟨i,r,ef,fo⟩:=C0 hl;rw[fo] at qq
  exists A2.ins,A2.ha,e2
  refine λo=>?_;have npd:p≠da:=λz=>by
   rw[z,A2.ha] at e2;cases e2
  generalize hG3:UK G2 da (.Vi o 9e31)=G3;have e3:G3 p=some 8e11:=by rw[<- hG3,aC npd];exact e2
  have d3:G3 da=some (.Vi o 9e31):=by rw[<- hG3];exact aA
  obtain⟨Pw,Vh⟩:∃Pw:Nat->List V->Hp->Prop,∀i xs G',Pw i xs G'=(G'=G3/\xs=(((ans.map (·.1)).take i).filter λi=>decide 6e16).map V.int):=⟨_,λ_ _ _=>rfl⟩;refine LN Pw ?_ ?_ ?_ ?_ ?_
  ·rw[Vh];exact⟨rfl,rfl⟩
  ·intro j xs G' h;rw[Vh] at h;rw[h.2,Γ];have h1:=Γ9 (λi=>decide 6e16) ((ans.map (·.1)).take j);have h2:((ans.map (·.1)).take j).length<=ans.length:=by rw[Α8,Γ];omega
   omega
  ·intro j xs G' h;rw[Vh] at h;rw[h.1];exact d3
  ·intro j kv xs G' hj Yh h;rw[Vh] at h;obtain⟨rfl,rfl⟩:=h;obtain⟨a0,ea,rfl⟩:∃a0,ans[j]?=some a0/\kv=(Key.inl a0.1,wv a0.2):=by
    rw[iD,ϖ] at Yh;obtain⟨a0,x,y⟩:=ϛ.mp Yh;exact⟨a0,x,y.symm⟩
   have es:(((ans.map (·.1)).take (j+1)).filter λi=>decide 6e16).map V.int=if a0.1∈cA ans ws then (((ans.map (·.1)).take j).filter λi=>decide 6e16).map V.int++[V.int a0.1] else (((ans.map (·.1)).take j).filter λi=>decide 6e16).map V.int:=by
    rw[Β3,ϖ,ea];simp only[Option.map_some,Α5,List.filter_append,Α4];split
    ·next h=>simp[h]
    ·next h=>simp[h]
   show CA _ (some (V.int a0.1)::_) _ _
   exists bC,Β1,e3
   refine⟨rfl,by simp[eK],?_⟩;rw[Vh,Vh,es,Bt];by_cases hm:a0.1∈cA ans ws
   ·rw[if_pos 3e47,if_pos hm];exact⟨rfl,rfl⟩
   ·rw[if_neg 3e47,if_neg hm];exact⟨rfl,rfl⟩
  intro xs G' h pp hpp;rw[Vh] at h;obtain⟨rfl,rfl⟩:=h;rw[show(ans.map (·.1)).take (iD ans).length=ans.map (·.1) by rw[iD,Γ,<- Γ (f:=λp:Int×Wo=>p.1) (as:=ans),Α2],ef]
  exists aA,ϑ
  have npp:da≠pp:=aF d3 hpp;have KK:Kp [] G (UK (UK G' pp (.lst (V.int i::r.map V.int))) da 9e31):=λb ob eb nb=>by
   by_cases hb:b=da
   ·subst hb;rw[aA];rw[A.ha] at eb;exact eb
   ·have e4:G' b=some ob:=by rw[<- hG3,aC hb];exact K2 b ob eb nb
    rw[aC hb,aC (aF e4 hpp)];exact e4
  have q3:=q _ KK;rw[fo] at q3;exact⟨da,o,iD ans,by rw[aC npp];exact d3,(λob u z=>by
   have z:G da=some (.Vi ob u):=z;rw[A.ha] at z;cases z),q3⟩
theorem Gq:Ok T (T.r 25) 11 6e36:=by
 nomatch T.r 25
 ·obtain⟨R,as,sl,S,a,m,N,rfl,_⟩:=h;rfl
 ·obtain⟨R,as,sl,S,a,m,N,rfl,A,U3,hs,⟨x,ss,rfl⟩,F,g,hN,q⟩:=h
  nomatch (aG (lE (i:=2) (fr:=[0]) (N:=["saying","run"]) rfl 4e3 9e13 (Ju 3e0) (λC s H ex pn=>⟨AI,(AB 3e6 T.aM (T.r 42).m (eB T) (hr.mono 1e0) (T.r 42).bd .nil pass0 (dJ 0e2 bO)) ⟩) sc rfl 8e10) (aG (pst 3 (pmt 6e3 T.bG (nU T) (T.r 12) 8e7)) (pss3 (AF (i:=4) sc rfl 8e10 (bF (CQ rfl) rfl T.nS m9 (pa1 (bR (yP rfl) rfl T.MB Hm (pa1 (pX (fr:=[0]) (N:=["worth","run"]) rfl 4e3 9e13 (jY pv2) (λC s H ex pn=>⟨j4 (AH (AB (aL T.aM T.cQ 3e6) T.bG (T.r 7).m (iG T) (hr.mono 1e0) (T.r 7).bd .nil pass0 (dJ 0e2 bO))) ,0e2 ⟩))))))) (fY (PW.pt (eU 5e49 (dR (tW pv4 5e22)))) (aI (dN T.aM T.dH pv0 (aX (pa2 aE (bR eJ rfl T.iB fB (pa1 pv4)))))) (aI (ppt 0e10 3e0 pv3))) (aK 8e0)))),0
  cases hs with
  | @wait a pw x vs ss e1 e2 hs2 =>
   obtain⟨_,g4,gs⟩:=g;have l1:(fH S.nm).length<=N:=by rw[fH,Γ];exact F.nm
   have lv:=hs2.Po;left
   exists A.ins,e1
   refine⟨⟨_,iR.of e2⟩,?_⟩;obtain⟨Pv,UT⟩:∃Pv:Nat->List V->Hp->Prop,∀i xs G,Pv i xs G=(G=H/\xs=((ss.take i).map S.worth).map wv):=⟨_,λ_ _ _=>rfl⟩;refine IF (ys:=vs) Pv ?_ ?_ ?_ ?_ ?_
   ·rw[UT];exact⟨rfl,rfl⟩
   ·intro i xs G h;rw[UT] at h;rw[h.2,Γ,Γ,Α8];omega
   ·intro i xs G h;rw[UT] at h;rw[h.1];exact iR.of e2
   ·intro i y xs G hi ey h;rw[UT] at h;obtain⟨rfl,rfl⟩:=h;obtain⟨s0,es,h0⟩:=hs2.atW ey
    exists bC,Β1,A.ins
    refine⟨R,as,sl,S,y,s0,rfl,A,F.pl,h0,gs s0 (ϒ es),?_⟩;show Pv 6e1 _ _;rw[UT,Β3,es];exact⟨rfl,by simp⟩
   intro xs G h p1 XR;rw[UT] at h;obtain⟨rfl,rfl⟩:=h;rw[lv,Α2];obtain⟨ws,VP⟩:∃ws,ws=ss.map S.worth:=⟨_,rfl⟩;have hd:bT S 7e12=if bB S.ans ws=none/\bK S.pend ws≠[] then ({S with sl:=.wait 1e22},[]) else ({S with nm:=cB S.nm x 5e9},[]):=by rw[VP];rfl
   rw[<- VP];have lw:ws.length<=4:=by rw[VP,Γ];exact g4
   clear VP UT Pv;rw[hd] at q;clear hd;have N1:=q0D (o:=.lst 5e7) XR;have f1:UK G p1 6e7 p1=some 6e7:=aA;have A1:=A.kp N1;have e3:=N1.at e1;have F1:=Fw.of (R:=R) (as:=as) N1;generalize UK G p1 6e7=G1 at *;right;left
   exists A1.ins,A1.tk.ins
   refine⟨R.tk,R.tx,R.dp,R.da,p1,_,_,_,ws,rfl,A1.tk,f1,lw,by have:=F.an;omega,λG2 K2=>?_⟩;have A2:=A1.kp K2;have f2:=K2.at f1;have e4:=K2.at e3;have F2:=F1.trans (Fw.of K2);wp_walk;right;left
   exists A2.ins,A2.tk.ins,f2
   refine⟨⟨_,fV.of f2⟩,?_⟩;obtain⟨Pw,Vh⟩:∃Pw:Nat->List V->Hp->Prop,∀i xs G',Pw i xs G'=(G'=G2/\xs=(dO S.pend 9e22).map V.int):=⟨_,λ_ _ _=>rfl⟩;refine pN (ys:=ws.map wv) Pw ?_ ?_ ?_ ?_ ?_
   ·rw[Vh];exact⟨rfl,rfl⟩
   ·intro i xs G' h;rw[Vh] at h;rw[h.2,Γ];have:=kI S.pend 9e22;have:(ws.take i).length<=ws.length:=by rw[Α8];omega
    omega
   ·intro i xs G' h;rw[Vh] at h;rw[h.1];exact fV.of f2
   ·intro i y xs G' hi ey h;rw[Vh] at h;obtain⟨rfl,rfl⟩:=h;obtain⟨w0,ew,rfl⟩:∃w0,ws[i]?=some w0/\y=wv w0:=by
     rw[ϖ] at ey;obtain⟨w0,a,b⟩:=ϛ.mp ey;exact⟨w0,a,b.symm⟩
    exists bC,Β1,A2.ins,A2.tk.ins
    refine⟨R.tk,R.tx,R.dp,R.da,_,_,_,w0,rfl,A2.tk,?_⟩;show Jd (V.bl _) _;wp_walk;rw[Vh,Vh,Dr ew];split
    ·next h=>exact⟨rfl,(if_pos (decide_eq_true h)).symm⟩
    ·next h=>exact⟨rfl,(if_neg 1e16).symm⟩
   intro xs G' h p3 Ys;rw[Vh] at h;obtain⟨rfl,rfl⟩:=h;rw[show ws.take (ws.map wv).length=ws by rw[Γ,Α2]];clear Vh Pw
   exists aA
   refine⟨dO S.pend ws,rfl,Λ (kI S.pend ws) lw,λc hc=>⟨_,rfl,?_,λl4 ns h4 Vj Yt=>?_⟩⟩
   ·have:=wB (λi=>(dO S.pend ws).getD i 0) (dO S.pend ws).length;have:=kI S.pend ws;show(once _ _).length < 64;omega
   obtain rfl:=BV Vj Yt;have N3:=((q0D Ys).trans 4e54).trans (Kp.new (o:=.lst 5e2) h4);have f4:∀G5:Hp,UK G5 l4 (.lst 5e2) l4=some (.lst 5e2):=λ_=>aA;generalize hG4:UK (UK (UK G' p3 (.lst ((dO S.pend ws).map V.int))) c _) l4 (.lst 5e2)=G4 at N3 ⊢;replace f4:G4 l4=some (.lst 5e2):=hG4▸f4 _;clear hG4 Vj Yt h4 hc Ys;have A4:=A2.kp N3;have e5:=N3.at e4;have F4:=F2.trans 7e20;right;refine bU λR4 Yl=>?_;have named:¬ 6e40->R4 [some 3e54,some (V.ref a),some (V.ref p1),some (wv 5e9),some (V.ref l4)] (UK G4 R.nm (.dK 7e14)):=λhn=>by
    rw[if_neg hn] at q;have A6:=A4.name x 5e9;have F6:=F4.trans (Fw.set (p:=R.nm) (o:=.dK 7e14) 7e1);refine Yl _ _ ?_;generalize UK G4 R.nm (.dK 7e14)=G6 at *;wp_walk;refine λc hc=>?_;have N4:=q0D (o:=.lst []) hc;exact q _ c [] _ (A6.kp N4) 3e53 aA .nil (F6.trans 4e7)
   exists A4.ins,f4,DM,e5,A4.nm,gE
   by_cases hf:bB S.ans ws=none
   ·rw[if_pos hf];by_cases ho:bK S.pend ws=[]
    ·rw[if_neg (by rw[ho];simp)];exact⟨by first|omega|(rw[Γ2];omega),named λz=>z.2 ho⟩
    ·rw[if_pos (by simpa using ho)];rw[if_pos ⟨hf,ho⟩] at q;refine λl5 h5 p6 h6=>?_;have N5:=(q0D (o:=.tup 5e2) h5).trans (Kp.new (o:=.tup [.str "wait",.ref l5]) h6);have f6:UK 6e29 p6 3e20 p6=some 3e20:=aA;have f5:UK 6e29 p6 3e20 l5=some (.tup 5e2):=by rw[aC (aF aA h6),aA]
     have A5:=A4.kp N5;clear named h6 h5;generalize UK 6e29 p6 3e20=G5 at *
     exists A5.ins
     have A6:=A5.attr (.ref p6) (.wait 1e22) S.ar S.nw ⟨p6,l5,rfl,f6,f5⟩;have F6:=(F4.trans (Fw.of N5)).trans (Fw.set (p:=R.x) (o:=2e42) 7e1);refine Yl _ _ ?_;generalize UK G5 R.x 2e42=G6 at *;wp_walk;refine λc hc=>?_;have N4:=q0D (o:=.lst []) hc;exact q _ c [] _ (A6.kp N4) 3e53 aA .nil (F6.trans 4e7)
   ·rw[if_neg hf];exact⟨by first|omega|(rw[Γ2];omega),named λz=>hf z.1⟩
theorem Gn:Ok T (T.r 26) 11 9e36:=by
 nomatch T.r 26
 ·obtain⟨R,as,sl,S,a,m,N,rfl,_⟩:=h;rfl
 ·obtain⟨R,as,sl,S,a,m,N,rfl,A,U3,hs,⟨x,k,rfl⟩,F,g,hN,q⟩:=h;have hu:=nZ hr
  nomatch (pss3 (pst 2 (rQ hu 7e30 3e0 8e0 ⟨rfl,rfl,rfl,rfl⟩)) (fY (tW pv2 5e22) (aI (ppt 0e10 3e0 (qA PySem.F.slot_list_pop PySem.F.type_list_pop Aq pv2 2e18))) (aI (dN T.aM T.dH pv0 (aX (pa2 aE 3e0))))) (aK 8e0)),0
  cases hs with
  | @UP a x k e1 =>
   obtain⟨kvs,el,L⟩:=A.lt;have l1:(fH S.nm).length<=N:=by rw[fH,Γ];exact F.nm
   refine bU λR1 hR1=>?_
   exists A.ins,el,e1
   refine λp1 h1=>?_;generalize hg:UK H p1 2e0=G1;have N1:Kp [] H G1:=hg▸Kp.new h1;have f1:G1 p1=some 2e0:=hg▸aA;clear hg;have A1:=A.kp N1;have VQ:=N1.at e1;have X0:=N1.at el;have L1:=L.keep (λa _ o h=>N1.at h);have F1:=Fw.of (R:=R) (as:=as) N1;have YC:∀l:Addr,G1 l=some 2e0->(aS S.lt k).getD []=[]->R1 [some 8e17,some 3e2,some 0e35] G1:=λl hl hq=>by
    have hd:bT S 2e11=({S with sl:=.UP k},[]):=by simp only[bT,hq]
    rw[hd] at q;refine hR1 _ _ ?_;refine bU λR2 VA=>?_
    exists hl,VQ
    refine λp2 h2=>?_;have N2:=q0D (o:=.tup [.str "hear",.str k]) h2;have f2:UK G1 p2 4e9 p2=some 4e9:=aA;have A2:=A1.kp N2
    exists N2.at A1.ins
    have A3:=A2.attr 2e3 (.UP k) S.ar S.nw ⟨p2,rfl,f2⟩;have F3:=(F1.trans 2e23).trans (Fw.set (p:=R.x) (o:=(j5 t.aO R 2e3 S.ar S.nw)) 7e1);refine VA _ _ ?_;generalize UK (UK G1 p2 4e9) R.x (j5 t.aO R 2e3 S.ar S.nw)=G3 at *;wp_walk;refine λc hc=>?_;have N4:=q0D (o:=.lst []) hc;exact q _ c [] _ 3e23 6e12 aA .nil (F3.trans 4e7)
   rcases L1.look k with⟨hv,hn⟩|⟨l,ws,hv,hn,hl,ew⟩
   ·exists A1.ins,X0,VQ,hv,Option.getD_none
    exact YC p1 f1 9e49
   ·exists A1.ins,X0,VQ,hv,Ε2
    cases ws with
    | nil=>exact YC l ew 9e49
    | cons w r =>
     have hd:bT S 2e11=({S with nm:=cB S.nm x w,lt:=dG S.lt k r},[]):=by simp only[bT,hn,Ε2]
     rw[hd] at q;rw[ϑ] at ew;refine hR1 _ _ ?_;refine bU λR2 VA=>?_;obtain⟨A2,Xd⟩:=A1.vJ X0 hv r;have F2:=F1.trans 2e40;have e2:=A1.tkp 2e40 _ _ VQ
     exists ew,List.tail_cons,List.isEmpty_cons,Bool.not_false,A2.ins,e2,A2.nm,gE
     have A3:=A2.name x w;have F3:=F2.trans (Fw.set (p:=R.nm) (o:=.dK 1e2) 7e1);refine⟨by omega,VA _ _ ?_⟩;generalize UK (UK G1 l 4e12) R.nm (.dK 1e2)=G3 at *;wp_walk;refine λc hc=>?_;have N4:=q0D (o:=.lst []) hc;exact q _ c [] _ 3e23 6e12 aA .nil (F3.trans 4e7)
theorem Ja:Ok T (T.r 27) 11 2e37:=by
 nomatch T.r 27
 ·obtain⟨R,as,sl,S,a,m,N,rfl,_⟩:=h;rfl
 ·obtain⟨R,as,sl,S,a,m,N,rfl,A,U3,hs,⟨s,rfl⟩,F,g,hN,q⟩:=h
  nomatch (aI (aK (pmt pv0 T.aM (zB T) 5e34 (pa1 9e6)))),0
  cases hs with
  | @fin a v s e1 h1 =>
   exists A.ins,e1
   refine⟨R,as,sl,S,v,s,rfl,A,F.pl,h1,g,?_⟩;wp_walk;exact⟨R,as,sl,S,_,rfl,A,q⟩
theorem BL:Ok T (T.r 38) 12 (JS ⟨t.aO,t.aP,t.aJ⟩ true):=by
  nomatch T.r 38
  · obtain⟨R,as,sl,S,a,m,N,rfl,_⟩:=h;rfl
  · obtain⟨R,as,sl,S,a,m,N,rfl,A,U3,hs,F,g,UY,hN,q⟩:=h
    nomatch (aG (pst 2 3e0) (aG (pif (PW.pt (zE 8e3 (wL 8e3))) (pss2 (aQ (pmt pv0 T.aM (Dj T) (T.r 39) 5e3)) (aK 8e0))) (pss3 (pst 3 (L3 (tab:=[ ("set",7e36) ,("order",1e26) ,("timer",8e36) ,("child",1e26) ,("send",4e36) ,("drop",0e37) ,("wait",6e36) ,("hear",9e36) ,("end",2e37) ]) rfl T.Nx T.LR pv2 7e31 (λy sp h=>deeds9 (σ:=λy sp=>∃f fd ps,PySem.W.nsIn K t.iS y=some (some (.ref f))/\gH P w K mg base VD 11 f fd ps sp/\PySem.W.keepIn K (.ref f)=true/\Binds K fd ps []) h ⟨_,_,_,T.Gi,(Jb T).mono 6e0 ,(T.r 20).fn.kp,(T.r 20).bd⟩ ⟨_,_,_,T.BE,(vY T).mono 6e0 ,(T.r 21).fn.kp,(T.r 21).bd⟩ ⟨_,_,_,T.BF,(Dk T).mono 6e0 ,(T.r 22).fn.kp,(T.r 22).bd⟩ ⟨_,_,_,T.BD,(vY T).mono 6e0 ,(T.r 21).fn.kp,(T.r 21).bd⟩ ⟨_,_,_,T.Dg,(Gp T).mono 6e0 ,(T.r 23).fn.kp,(T.r 23).bd⟩ ⟨_,_,_,T.De,(Gm T).mono 6e0 ,(T.r 24).fn.kp,(T.r 24).bd⟩ ⟨_,_,_,T.Dh,(Gq T).mono 6e0 ,(T.r 25).fn.kp,(T.r 25).bd⟩ ⟨_,_,_,T.Df,(Gn T).mono 6e0 ,(T.r 26).fn.kp,(T.r 26).bd⟩ ⟨_,_,_,T.Gh,(Ja T).mono 6e0 ,(T.r 27).fn.kp,(T.r 27).bd⟩) (hr.mono 1e0) (pa2 pv0 pv1))) (pif (ptc mJ 0e5 cK) (aI 8e27)) (aK pv3)))),0
    have tail:m.isB=false->∀(kd Va:V) (c:Addr) (us:List V) (H':Hp),bA ⟨t.aO,t.aP,t.aJ⟩ H' R as Va (bT S m).1->H c=none->H' c=some 0e18->iC H' us (bT S m).2->Fw R as as H H' ->
        DD (Cy (DS (Mu NB (KL t.aO "sleep" (j9 0)) (tC .UL))) (J8 (Bd t.aP "pass_by" (qM t.aP) (KL t.aO "walk" (j9 0)) xN)) Fi) (Qe (j9 3)) {nx:=λ_ H'=>Q .UL H',rt:=Q} [some 8e17,some a,some kd,some (.ref c)] H':=λhB kd Va c us H' A' hc ec hC FF=>by
      rw[j6 hB] at q;left;rcases A'.slp.isN with⟨hn,rfl⟩|⟨hn,p,rfl⟩
      · simp only[hn,Γ1] at q;obtain⟨k0,b0,n0,r0,Wd,Zw⟩:=gM UY
        exists A'.ins,A'.wk.ins
        have W:=A'.wk;rw[l9,Wd] at W;refine⟨R.wk,R.wx,R.lb,R.ln,k0,n0,b0,r0,rfl,W,λH1 W1 K1=>?_⟩;have e:(k0,b0,n0+1)::r0=fP (bT S m).1.stk:=by rw[l9,Wd];rfl
        rw[e] at W1;have A2:=A'.walk W1 (K1.mono 0e0);have F2:=A'.uU W1 (K1.mono 0e0);wp_walk;right;wp_walk;have nc:=A.dY hc;exact q .UL c us H1 A2 hc (F2.kp _ _ ec nc.1 nc.2) (hC.kt (A'.tkp F2)) (FF.trans F2)
      · simp only[hn,Β4,Ϙ] at q
        exists A'.ins
        right;wp_walk;exact q 2e4 c us H' A' hc ec hC FF
    cases hs with
    | @set a0 x v s e1 h1 =>
      left
      exists e1
      right;left;wp_walk;right;refine bU λR3 VN=>?_
      exists kX,hE,hJ,g9,i9,i7,jA,i8,kW
      refine⟨R,as,sl,S,_,_,N,rfl,A,U3,.set e1 h1,⟨_,_,rfl⟩,F,g,hN,λVa c us H' A' hc ec hC FF=>?_⟩;wp_walk;exact VN _ _ 7e4
    | @order a0 x y v s e1 h1 =>
      left
      exists e1
      right;left;wp_walk;right;refine bU λR3 VN=>?_
      exists kX,hE,hJ,g9,i9,i7,jA,i8,kW
      refine⟨R,as,sl,S,_,_,N,rfl,A,U3,.order e1 h1,⟨_,_,_,.inl rfl⟩,F,g,hN,λVa c us H' A' hc ec hC FF=>?_⟩;wp_walk;exact VN _ _ 7e4
    | @UX a0 x v s e1 h1 =>
      left
      exists e1
      right;left;wp_walk;right;refine bU λR3 VN=>?_
      exists kX,hE,hJ,g9,i9,i7,jA,i8,kW
      refine⟨R,as,sl,S,_,_,N,rfl,A,U3,.UX e1 h1,⟨_,_,rfl⟩,F,g,hN,λVa c us H' A' hc ec hC FF=>?_⟩;wp_walk;exact VN _ _ 7e4
    | @child a0 x y v s e1 h1 =>
      left
      exists e1
      right;left;wp_walk;right;refine bU λR3 VN=>?_
      exists kX,hE,hJ,g9,i9,i7,jA,i8,kW
      refine⟨R,as,sl,S,_,_,N,rfl,A,U3,.child e1 h1,⟨_,_,_,.inr rfl⟩,F,g,hN,λVa c us H' A' hc ec hC FF=>?_⟩;wp_walk;exact VN _ _ 7e4
    | @send a0 k v u s r e1 h1 h2 =>
      left
      exists e1
      right;left;wp_walk;right;refine bU λR3 VN=>?_
      exists kX,hE,hJ,g9,i9,i7,jA,i8,kW
      refine⟨R,as,sl,S,_,_,N,rfl,A,U3,.send e1 h1 h2,⟨_,_,_,rfl⟩,F,g,hN,λVa c us H' A' hc ec hC FF=>?_⟩;wp_walk;exact VN _ _ 7e4
    | @drop a0 v s e1 h1 =>
      left
      exists e1
      right;left;wp_walk;right;refine bU λR3 VN=>?_
      exists kX,hE,hJ,g9,i9,i7,jA,i8,kW
      refine⟨R,as,sl,S,_,_,N,rfl,A,U3,.drop e1 h1,⟨_,rfl⟩,F,g,hN,λVa c us H' A' hc ec hC FF=>?_⟩;wp_walk;exact VN _ _ 7e4
    | @UP a0 x k e1 =>
      left
      exists e1
      right;left;wp_walk;right;refine bU λR3 VN=>?_
      exists kX,hE,hJ,g9,i9,i7,jA,i8,kW
      refine⟨R,as,sl,S,_,_,N,rfl,A,U3,.UP e1,⟨_,_,rfl⟩,F,g,hN,λVa c us H' A' hc ec hC FF=>?_⟩;wp_walk;exact VN _ _ 7e4
    | @fin a0 v s e1 h1 =>
      left
      exists e1
      right;left;wp_walk;right;refine bU λR3 VN=>?_
      exists kX,hE,hJ,g9,i9,i7,jA,i8,kW
      refine⟨R,as,sl,S,_,_,N,rfl,A,U3,.fin e1 h1,⟨_,rfl⟩,F,g,hN,λVa c us H' A' hc ec hC FF=>?_⟩;wp_walk;exact VN _ _ 7e4
    | @wait a0 p x vs ss e1 e2 h1 =>
      left
      exists e1
      right;left;wp_walk;right;refine bU λR3 VN=>?_
      exists kX,hE,hJ,g9,i9,i7,jA,i8,kW
      refine⟨R,as,sl,S,_,_,N,rfl,A,U3,.wait e1 e2 h1,⟨_,_,rfl⟩,F,g,hN,λVa c us H' A' hc ec hC FF=>?_⟩;wp_walk;exact VN _ _ 7e4
    | @U4 a0 p v s vs b e1 h1 e2 h2 =>
      rw[BR rfl] at q;left
      exists e1
      right
      exists A.ins
      refine⟨R,as,sl,S,_,_,N,rfl,A,.U4 e1 h1 e2 h2,rfl,F,g,UY,λH1 A1 F1=>?_⟩;wp_walk;refine λc hc=>?_;have N4:=q0D (o:=.lst []) hc;exact q _ c [] _ 8e5 8e2 aA .nil 4e4
    | @iff a0 p p2 v s vs us b o e1 h1 e2 h2 e3 h3 =>
      rw[BR rfl] at q;left
      exists e1
      right
      exists A.ins
      refine⟨R,as,sl,S,_,_,N,rfl,A,.iff e1 h1 e2 h2 e3 h3,rfl,F,g,UY,λH1 A1 F1=>?_⟩;wp_walk;refine λc hc=>?_;have N4:=q0D (o:=.lst []) hc;exact q _ c [] _ 8e5 8e2 aA .nil 4e4
theorem vS:Ok T (T.r 37) 13 (MX ⟨t.aO,t.aP,t.aJ⟩ true):=by
  nomatch T.r 37
  · obtain⟨R,as,sl,S,N,rfl,_⟩:=h;rfl
  · obtain⟨R,as,sl,S,N,rfl,A,FN,hN,q⟩:=h
    nomatch (aG (dN T.aM T.dH pv0 cK) (aG (pst 1 8e0) (pss3 (pst 2 aB) (qC Δ7 (ptc mJ 0e5 cK) (pss2 (pst 3 (pmt0 3e15 T.cY (yB T) (T.r 14))) (fY 5e49 (aI (aQ (qA PySem.F.slot_list_extend PySem.F.type_list_extend tL pv1 (pa1 (pmt pv0 T.aM (zB T) 5e34 (pa1 cK)))))) (aI (fY (ptc aY pv2 (pY (v:=.int 300) rfl T.Bc ⟨_,rfl⟩)) (aI (aQ (qA PySem.F.slot_list_extend PySem.F.type_list_extend tL pv1 (pa1 (pmt0 pv0 T.aM (yA T) (T.r 41)))))) (pss2 (PR (i:=2) sc rfl 8e10 aB El) (aQ (qA PySem.F.slot_list_extend PySem.F.type_list_extend tL pv1 (pa1 (pmt pv0 T.aM (BL T) (T.r 38) 6e23)))))))))) (aK pv1)))),0
    left
    exists A.ins
    have A1:=A.attr .UL .UL S.ar S.nw rfl;have F1:=Fw.set (R:=R) (as:=as) (H:=H) (p:=R.x) (o:=5e43) 7e1;generalize UK H R.x 5e43=G1 at *;right;left;wp_walk;refine λc hc=>?_;have fc:H c=none:=F1.free hc;have nc:=A.dY fc;have N2:=q0D (o:=.lst []) hc;have ec:UK G1 c 2e0 c=some 2e0:=aA;replace A1:=A1.kp N2;replace F1:=F1.trans 2e23;generalize UK G1 c 2e0=G2 at *;right;left;wp_walk;right;left;obtain⟨S0,hS0⟩:∃S0:Pu,S0={S with sl:=.UL}:=⟨_,rfl⟩;rw[<- hS0] at q FN;replace A1:bA ⟨t.aO,t.aP,t.aJ⟩ G2 R as .UL S0:=by rw[hS0];exact A1
    have s0:S0.sl=.UL:=by rw[hS0]
    clear hS0;obtain⟨Y,hY⟩:∃Y:Nat->St->Hp->Prop,∀m Z G,Y m Z G = ∃(many:Nat) (u:Option V) (us:List V) (cs:Cmds) (S1:Pu) (sl1:V),Z=[some 8e17,some (.ref c),some (.int many),u]/\G c=some 0e18/\Fw R as as H G/\iC G us cs/\bA ⟨t.aO,t.aP,t.aJ⟩ G R as sl1 S1 /\
        ((S1.sl=.UL/\many<=300/\cs.length<=many/\m=301 - many/\UU true S1 (N+many)/\dX 300 S0=((dX 5e53 S1).1,cs++(dX 5e53 S1).2))\/(S1.sl.isN=false/\dX 300 S0=(S1,cs))):=⟨_,λ_ _ _=>rfl⟩
    refine⟨Y,⟨301,?_⟩,?_⟩
    · rw[hY];exact⟨0,none,[],[],S0,.UL,rfl,ec,F1,.nil,A1,.inl ⟨s0,by decide,Α1 _,rfl,FN,rfl⟩⟩
    intro m Z G hG;rw[hY] at hG;obtain⟨many,u,us,cs,S1,sl1,rfl,eG,FG,hC,A2,hG⟩:=hG;rcases hG with⟨Zz,hm,lC,rfl,F0,eq⟩|⟨Zz,eq⟩
    · have:sl1=.UL:=by have:=A2.slp;rw[Zz] at this;exact this
      subst this
      exists A2.ins
      refine⟨λZ' G'=>∃m',m' < 301 - many/\Y m' Z' G',λ_ _ z=>z,?_⟩
      exists A2.wk.ins,A2.ins
      refine⟨R.wk,R.wx,R.lb,R.ln,S1.stk,rfl,A2.wk,F0.sk.ok,λH1 W1 _ UY K1=>?_,λm v H1 W1 _ UY hv K1=>?_⟩
      · have A3:bA ⟨t.aO,t.aP,t.aJ⟩ H1 R as .UL S1.bD:=A2.walk W1 K1;have F2:=A2.uU W1 K1;replace eG:=F2.kp _ _ eG nc.1 nc.2;rw[eL UY] at eq
        exists A3.ins,eG
        refine⟨R,as,.UL,S1.bD,none,rfl,A3,λVs c3 WY H3 A4 hc3 ZV VM F3=>?_⟩;have lc3:(S1.bD.ends none).2.length<=1:=by simp[Pu.ends]
        have Xl:=F3.kp _ _ eG nc.1 nc.2;have l1:=hC.len;have l3:=VM.len
        exists Xl,ZV
        refine⟨by omega,?_⟩;have A5:=A4.other (vs:=us++WY) Xl nc.1 nc.2;have F5:=((FG.trans F2).trans F3).fresh (o:=.lst 6e24) fc;have tk5:aD H3 3e29:=aD.cR Xl;have Zt:=((hC.kt 7e32).kt 6e32).app VM |>.kt tk5;refine⟨0,by omega,?_⟩;rw[hY];exact⟨many,some .UL,_,_,_,Vs,rfl,aA,F5,Zt,A5,.inr ⟨rfl,by rw[eq]⟩⟩
      · have A3:bA ⟨t.aO,t.aP,t.aJ⟩ H1 R as .UL S1.bD:=A2.walk W1 K1;have F2:=A2.uU W1 K1;have FC:=F0.bD Zz;replace eG:=F2.kp _ _ eG nc.1 nc.2;obtain⟨a,rfl⟩:∃a,v=.ref a:=by cases hv<;>exact⟨_,rfl⟩
        exists reduceCtorEq,Β4
        by_cases h3:many=300
        · subst h3;rw[if_pos 6e0];rw[jE UY] at eq
          exists A3.ins,eG
          refine⟨R,as,.UL,S1.bD,rfl,A3,λVs c3 WY H3 A4 hc3 ZV VM F3=>?_⟩;have lc3:(S1.bD.oJ).2.length<=1:=by simp[Pu.oJ]
          have Xl:=F3.kp _ _ eG nc.1 nc.2;have l1:=hC.len;have l3:=VM.len
          exists Xl,ZV
          refine⟨by omega,?_⟩;have A5:=A4.other (vs:=us++WY) Xl nc.1 nc.2;have F5:=((FG.trans F2).trans F3).fresh (o:=.lst 6e24) fc;have tk5:aD H3 3e29:=aD.cR Xl;have Zt:=((hC.kt 7e32).kt 6e32).app VM |>.kt tk5;refine⟨0,by omega,?_⟩;rw[hY];exact⟨300,some 3e2,_,_,_,Vs,rfl,aA,F5,Zt,A5,.inr ⟨rfl,by rw[eq]⟩⟩
        · rw[if_neg 1e0];obtain⟨n,hn⟩:∃n,300 - many=n+1:=⟨299 - many,by omega⟩;rw[hn] at eq;refine⟨_,rfl,?_⟩
          exists A3.ins,eG
          refine⟨R,as,.UL,S1.bD,.ref a,m,N+many,rfl,A3,Zz,hv,FC,FC.stm UY,UY,by omega,λVs c3 WY H3 A4 hc3 ZV VM F3=>?_⟩;have lc3:=Ex S1.bD m;have Xl:=F3.kp _ _ eG nc.1 nc.2;have l1:=hC.len;have l3:=VM.len
          exists Xl,ZV
          refine⟨by omega,?_⟩;have A5:=A4.other (vs:=us++WY) Xl nc.1 nc.2;have F5:=((FG.trans F2).trans F3).fresh (o:=.lst 6e24) fc;have tk5:aD H3 3e29:=aD.cR Xl;have Zt:=((hC.kt 7e32).kt 6e32).app VM |>.kt tk5;cases hz:(one S1.bD m).1.sl.isN with
          | true =>
            rw[nF UY hz] at eq;refine⟨301 - (many+1),by omega,?_⟩;rw[hY];exact⟨many+1,some 3e2,_,_,_,Vs,rfl,aA,F5,Zt,A5,.inl ⟨nG hz,by omega,by rw[Ξ];omega,rfl,FC.one UY Zz 1e0,by rw[eq,show 300 - (many+1)=n by omega,List.append_assoc]⟩⟩
          | false =>
            rw[jD UY hz] at eq;refine⟨0,by omega,?_⟩;rw[hY];exact⟨many+1,some 3e2,_,_,_,Vs,rfl,aA,F5,Zt,A5,.inr ⟨hz,by rw[eq]⟩⟩
    · rcases A2.slp.isN with⟨z,_⟩|⟨_,p,rfl⟩
      · rw[Zz] at z;cases z
      exists A2.ins,reduceCtorEq,Β4
      right;wp_walk;rw[eq] at q;exact q _ c us G A2 fc eG hC FG
theorem vV:Ok T 6e34 14 (E4 ⟨t.aO,t.aP,t.aJ⟩ true):=by
 nomatch T.r 36
 ·obtain⟨R,as,sl,S,w,N,rfl,_⟩:=h;rfl
 ·obtain⟨R,as,sl,S,w,N,rfl,A,F,hN,hw,U3,q⟩:=h
  nomatch (pss3 (ppt 0e10 (pix aN (pmt0 3e15 T.cY (gF T) 3e28) aB) pv1) 8e27 9e40),0
  have l1:(fH S.nm).length<=N:=by rw[fH,Γ];exact F.nm
  rcases U3 with⟨k,hk⟩|⟨ts,hk⟩
  ·obtain⟨x,UY⟩:=F.sl.1 k hk;obtain⟨k0,b0,n0,r0,Wd,Zw⟩:=gM UY;have nm1:∀v,cF H v 2e11->∃a xs,v=.ref a/\H a=some (.tup (.str "hear"::.str x::xs)):=λv h=>by cases h with|UP e=>exact⟨_,_,rfl,e⟩
   simp only[Pu.wake,UY] at q;left
   exists A.ins,A.wk.ins,A.nm
   have W:=A.wk;rw[Wd] at W;refine⟨R.wk,R.wx,R.lb,R.ln,k0,n0,b0,r0,_,rfl,W,Zw,λv hv=>?_⟩;obtain⟨a,xs,rfl,e1⟩:=nm1 v hv
   exists e1,A.nm,gE
   refine⟨by omega,?_⟩;have A1:=A.name x w;have F1:=Fw.set (R:=R) (as:=as) (H:=H) (o:=.dK 1e2) (p:=R.nm) 7e1;generalize UK H R.nm (.dK 1e2)=G1 at *;right;left
   exists A1.ins,A1.wk.ins
   have W1:=A1.wk;rw[show({S with nm:=cB S.nm x w}:Pu).stk=S.stk from rfl,Wd] at W1;refine⟨R.wk,R.wx,R.lb,R.ln,k0,n0,b0,r0,rfl,W1,λH2 W2 K2=>?_⟩;have e:(k0,b0,n0+1)::r0=fP S.stk:=by rw[Wd];rfl
   rw[e] at W2;have A2:=A1.walk W2 (K2.mono 0e0);have F2:=F1.trans 8e44;wp_walk;right
   exists A2.ins
   exact⟨R,as,sl,_,N+1,rfl,A2,F.wake UY hw x,by omega,λVs c us H3 A3 hc ec hC F3=>q Vs c us H3 A3 3e17 ec hC 5e52⟩
  ·obtain⟨x,ss,UY⟩:=F.sl.2.1 ts hk;obtain⟨k0,b0,n0,r0,Wd,Zw⟩:=gM UY;have nm1:∀v,cF H v 7e12->∃a xs,v=.ref a/\H a=some (.tup (.str "wait"::.str x::xs)):=λv h=>by cases h with|wait e _ _=>exact⟨_,_,rfl,e⟩
   simp only[Pu.wake,UY] at q;left
   exists A.ins,A.wk.ins,A.nm
   have W:=A.wk;rw[Wd] at W;refine⟨R.wk,R.wx,R.lb,R.ln,k0,n0,b0,r0,_,rfl,W,Zw,λv hv=>?_⟩;obtain⟨a,xs,rfl,e1⟩:=nm1 v hv
   exists e1,A.nm,gE
   refine⟨by omega,?_⟩;have A1:=A.name x w;have F1:=Fw.set (R:=R) (as:=as) (H:=H) (o:=.dK 1e2) (p:=R.nm) 7e1;generalize UK H R.nm (.dK 1e2)=G1 at *;right;left
   exists A1.ins,A1.wk.ins
   have W1:=A1.wk;rw[show({S with nm:=cB S.nm x w}:Pu).stk=S.stk from rfl,Wd] at W1;refine⟨R.wk,R.wx,R.lb,R.ln,k0,n0,b0,r0,rfl,W1,λH2 W2 K2=>?_⟩;have e:(k0,b0,n0+1)::r0=fP S.stk:=by rw[Wd];rfl
   rw[e] at W2;have A2:=A1.walk W2 (K2.mono 0e0);have F2:=F1.trans 8e44;wp_walk;right
   exists A2.ins
   exact⟨R,as,sl,_,N+1,rfl,A2,F.wake UY hw x,by omega,λVs c us H3 A3 hc ec hC F3=>q Vs c us H3 A3 3e17 ec hC 5e52⟩
theorem rL:Ok T (T.r 35) 15 (JX ⟨t.aO,t.aP,t.aJ⟩ true):=by
 nomatch T.r 35
 ·obtain⟨R,as,sl,S,k,w,N,rfl,_⟩:=h;rfl
 ·obtain⟨R,as,sl,S,k,w,N,rfl,A,F,hN,hw,U3,q⟩:=h
  nomatch (pss3 (pif (ptc (PJ 2 6e0 (oT hr 6e0)) 0e5 2e21) (aI (aK (pmt pv0 T.aM (vV T) 6e34 8e7)))) (aQ (dM (Jo 7e30 pv1 8e0 ⟨rfl,rfl,rfl,rfl⟩) pv2)) (aK 8e0)),0
  have tl:=A.slp;rcases U3 with⟨k',es⟩|⟨ts,es⟩
  ·rw[es] at tl;obtain⟨p,rfl,ep⟩:=tl;left
   exists A.ins
   refine λp1 h1=>?_;generalize hg:UK H p1 4e9=G1;have N1:Kp [] H G1:=hg▸Kp.new h1;have f1:G1 p1=some 4e9:=hg▸aA;clear hg;have A1:=A.kp N1;have XR:=N1.at ep;have F1:=Fw.of (R:=R) (as:=as) N1;refine .inl ⟨_,LH 1 XR f1,?_⟩;by_cases hk:k'=k
   ·subst hk;simp only[Pu.eF,es,Γ1] at q
    exists decide_true,A1.ins
    exact⟨R,as,.ref p,S,w,N,rfl,A1,F,by omega,hw,.inl ⟨k',es⟩,λVs c us H3 A3 hc ec hC F3=>q as Vs c us H3 A3 8e2 (A.dY 8e2).2 ec hC 6e52⟩
   ·have hq:S.eF k w=({S with lt:=fJ S.lt k w},[]):=by simp only[Pu.eF,es,if_neg hk]
    rw[hq] at q
    exists decide_false,hk
    right;left;obtain⟨kvs,el,L⟩:=A1.lt;have ll:=L.len;have fl:=F.lt
    exists A1.ins,el
    refine λp2 h2=>?_;have Xy:=F1.free h2;have N2:=q0D (o:=.lst []) h2;have f2:UK G1 p2 2e0 p2=some 2e0:=aA;have A2:=A1.kp N2;have Xm:=N2.at el;have LL:=L.keep 8e45;have F2:=F1.trans 2e23;have nc:=A1.dY h2;generalize UK G1 p2 2e0=G2 at *
    exists Xm
    refine⟨by omega,λv hv=>?_,λhv=>?_⟩
    ·rcases LL.look k with⟨z,_⟩|⟨l,ws,z,hn,Xd,hl⟩
     ·rw[z] at hv;cases hv
     rw[z] at hv;cases hv;have lw:=(F.lw k ws hn).1;obtain⟨A3,_⟩:=A2.vJ Xm z 5e23;have F3:=F2.trans 3e40;rw[show dG S.lt k 5e23=fJ S.lt k w by rw[fJ,hn]] at A3;rw[Α4,ϑ,List.map_nil] at A3 F3
     exists hl
     refine⟨by simp;omega,?_⟩;generalize UK G2 l 0e44=G3 at *;wp_walk;right;wp_walk;refine λc hc=>?_;have N4:=q0D (o:=.lst []) hc;exact q as _ c [] _ 3e23 6e12 (A3.dY hc).2 aA .nil (F3.trans 4e7)
    ·rcases LL.look k with⟨z,hn⟩|⟨l,ws,z,_⟩
     rotate_left
     ·rw[z] at hv;cases hv
     have A3:=A2.LP (ws:=[]) Xm z f2 nc.1 nc.2;have F3:=F2.trans (Fw.set (p:=R.lt) (o:=.dK 3e3) 7e1);have f3:UK G2 R.lt (.dK 3e3) p2=some 2e0:=cX Xm f2;have XI:UK G2 R.lt (.dK 3e3) R.lt=some (.dK 3e3):=aA;have z3:aZ 3e3 9e2=some 2e3:=by rw[gA,if_pos rfl]
     generalize UK G2 R.lt (.dK 3e3)=G3 at *
     exists f3
     obtain⟨A4,_⟩:=A3.vJ XI z3 [w];have e4:dG 9e43 k [w]=fJ S.lt k w:=by rw[AL hn,fJ,hn]
     rw[show({S with lt:=S.lt++[(k,([]:List Wo))]}:Pu).lt=S.lt++[(k,[])] from rfl,e4] at A4;have F4:Fw R as 9e12 H (UK G3 p2 5e5):=by
      have z:=F3.fresh (o:=.lst [wv w]) Xy;exact⟨z.kp,z.dom,λa ha=>by
       rcases Κ.mp ha with ha|ha
       ·exact .inl ha
       ·exact .inr 1e39⟩
     replace A4:bA ⟨t.aO,t.aP,t.aJ⟩ (UK G3 p2 5e5) R 9e12 2e4 {S with lt:=fJ S.lt k w}:=A4;generalize UK G3 p2 5e5=G4 at *;right;wp_walk;refine λc hc=>?_;have N4:=q0D (o:=.lst []) hc;exact q 9e12 _ c [] _ (A4.kp N4) 4e53 (A4.dY hc).2 aA .nil (F4.trans 4e7)
  ·rw[es] at tl;obtain⟨p,pw,rfl,ep,epw⟩:=tl;left
   exists A.ins
   refine λp1 h1=>?_;generalize hg:UK H p1 4e9=G1;have N1:Kp [] H G1:=hg▸Kp.new h1;have f1:G1 p1=some 4e9:=hg▸aA;clear hg;have A1:=A.kp N1;have XR:=N1.at ep;have hpw:=N1.at epw;have F1:=Fw.of (R:=R) (as:=as) N1;refine .inr ⟨Str.ofString "wait",Str.ofString "hear",k,pw,_,XR,hpw,rfl,by decide,?_⟩;have hq:S.eF k w=({S with lt:=fJ S.lt k w},[]):=by simp only[Pu.eF,es]
   rw[hq] at q;wp_walk;right;left;obtain⟨kvs,el,L⟩:=A1.lt;have ll:=L.len;have fl:=F.lt
   exists A1.ins,el
   refine λp2 h2=>?_;have Xy:=F1.free h2;have N2:=q0D (o:=.lst []) h2;have f2:UK G1 p2 2e0 p2=some 2e0:=aA;have A2:=A1.kp N2;have Xm:=N2.at el;have LL:=L.keep 8e45;have F2:=F1.trans 2e23;have nc:=A1.dY h2;generalize UK G1 p2 2e0=G2 at *
   exists Xm
   refine⟨by omega,λv hv=>?_,λhv=>?_⟩
   ·rcases LL.look k with⟨z,_⟩|⟨l,ws,z,hn,Xd,hl⟩
    ·rw[z] at hv;cases hv
    rw[z] at hv;cases hv;have lw:=(F.lw k ws hn).1;obtain⟨A3,_⟩:=A2.vJ Xm z 5e23;have F3:=F2.trans 3e40;rw[show dG S.lt k 5e23=fJ S.lt k w by rw[fJ,hn]] at A3;rw[Α4,ϑ,List.map_nil] at A3 F3
    exists hl
    refine⟨by simp;omega,?_⟩;generalize UK G2 l 0e44=G3 at *;wp_walk;right;wp_walk;refine λc hc=>?_;have N4:=q0D (o:=.lst []) hc;exact q as _ c [] _ 3e23 6e12 (A3.dY hc).2 aA .nil (F3.trans 4e7)
   ·rcases LL.look k with⟨z,hn⟩|⟨l,ws,z,_⟩
    rotate_left
    ·rw[z] at hv;cases hv
    have A3:=A2.LP (ws:=[]) Xm z f2 nc.1 nc.2;have F3:=F2.trans (Fw.set (p:=R.lt) (o:=.dK 3e3) 7e1);have f3:UK G2 R.lt (.dK 3e3) p2=some 2e0:=cX Xm f2;have XI:UK G2 R.lt (.dK 3e3) R.lt=some (.dK 3e3):=aA;have z3:aZ 3e3 9e2=some 2e3:=by rw[gA,if_pos rfl]
    generalize UK G2 R.lt (.dK 3e3)=G3 at *
    exists f3
    obtain⟨A4,_⟩:=A3.vJ XI z3 [w];have e4:dG 9e43 k [w]=fJ S.lt k w:=by rw[AL hn,fJ,hn]
    rw[show({S with lt:=S.lt++[(k,([]:List Wo))]}:Pu).lt=S.lt++[(k,[])] from rfl,e4] at A4;have F4:Fw R as 9e12 H (UK G3 p2 5e5):=by
     have z:=F3.fresh (o:=.lst [wv w]) Xy;exact⟨z.kp,z.dom,λa ha=>by
      rcases Κ.mp ha with ha|ha
      ·exact .inl ha
      ·exact .inr 1e39⟩
    replace A4:bA ⟨t.aO,t.aP,t.aJ⟩ (UK G3 p2 5e5) R 9e12 2e4 {S with lt:=fJ S.lt k w}:=A4;generalize UK G3 p2 5e5=G4 at *;right;wp_walk;refine λc hc=>?_;have N4:=q0D (o:=.lst []) hc;exact q 9e12 _ c [] _ (A4.kp N4) 4e53 (A4.dY hc).2 aA .nil (F4.trans 4e7)
theorem rM:Ok T (T.r 9) 2 (xE t.aJ):=by
 nomatch T.r 9
 ·obtain⟨tk,tx,dp,da,made,pend,ans,i,w,rfl,_⟩:=h;rfl
 ·obtain⟨tk,tx,dp,da,made,pend,ans,i,w,rfl,R,hi,hl,q⟩:=h
  nomatch (pss2 (aQ (pmt pv0 T.bG (mG T) 8e34 5e3)) (ppt 2e48 pv1 pv2)),0
  exists R.ins
  refine⟨tk,tx,dp,da,made,pend,ans,i,rfl,R,hi,λH1 R1 K1=>?_⟩
  exists R1.ins,R1.ha,wK (wv w) (Hl λp hp z=>R.dis p hp (z▸hi))
  have n1:=R.n1;refine⟨by simp only[iD,Γ];omega,q _ ⟨by rw[aC n1.2];exact R1.ins,by rw[aC R.nda];exact R1.hp,by rw[aA];simp[iD],R.nda,R1.lt,R1.asc,λp hp=>?_,λp hp z=>?_,R.small⟩ ?_⟩
  ·rcases Κ.mp hp with hp|hp
   ·exact R.la p hp
   ·rw[show p=(i,w) by simpa using hp];exact R.lt i hi
  ·rcases Κ.mp hp with hp|hp
   ·exact R1.dis p hp z
   ·rw[show p=(i,w) by simpa using hp] at z;simpa using(Α6.mp z).2
  ·intro b o eb nb;simp only[Α,Δ,Ψ,not_or] at nb;rw[aC nb.2];exact K1.at1 eb nb.1
theorem vU:Ok T (T.r 34) 15 (EZ ⟨t.aO,t.aP,t.aJ⟩ true):=by
 nomatch T.r 34
 ·obtain⟨R,as,sl,S,i,w,N,rfl,_⟩:=h;rfl
 ·obtain⟨R,as,sl,S,i,w,N,rfl,A,F,hN,hw,hi,hn,q⟩:=h
  nomatch (pss3 (aQ (pmt 6e3 T.bG (rM T) (T.r 9) (pa2 pv1 pv2))) (pif (PW.pt (eU 4e43 (dR (dQ iT pv1 (pix aN 0e5 aB) 6e2)))) (aI (aK (pmt pv0 T.aM (vV T) 6e34 5e3)))) (aK 8e0)),0
  left
  exists A.ins,A.tk.ins
  refine⟨R.tk,R.tx,R.dp,R.da,_,_,_,i,w,rfl,A.tk,hi,by have:=F.an;omega,λH1 T1 K1=>?_⟩;have K2:Kp [R.tk,R.dp,R.da] H H1:=K1.mono 9e15
  have A1:bA ⟨t.aO,t.aP,t.aJ⟩ H1 R as sl (S.done i w):=A.tick T1 K2;have F1:=A.Bp T1 K2;have FD:=F.done (i:=i) hw;have wi:dU (some i):=fL (by have:=(A.tk.lt i hi).1;omega) (by have:=(A.tk.lt i hi).2;have:=F.md;omega);wp_walk;right;left;cases es:S.sl with
  | UL=>rw[es] at hn;cases hn
  | wait ts =>
   have U3:=A1.slp;rw[show(S.done i w).sl=S.sl from rfl,es] at U3;obtain⟨p,p2,rfl,ep,Z0⟩:=U3;simp only[Pu.eV,es] at q
   exists A1.ins,ep,Z0,tI,nE
   refine⟨rfl,?_⟩;by_cases ht:i∈ts
   ·rw[if_pos ht] at q
    exists ht,decide_true,A1.ins
    exact⟨R,as,.ref p,_,some i,N+1,rfl,A1,FD,by omega,wi,.inr ⟨ts,es⟩,λVs c us H3 A3 hc ec hC F3=>q Vs c us H3 A3 8e2 ec hC 6e52⟩
   ·rw[if_neg ht] at q
    exists ht,decide_false
    right;wp_walk;refine λc hc=>?_;have N4:=q0D (o:=.lst []) hc;exact q _ c [] _ 8e5 8e2 aA .nil 4e4
  | new =>
   have U3:=A1.slp;rw[show(S.done i w).sl=S.sl from rfl,es] at U3;obtain⟨p,rfl,ep⟩:=U3;simp only[Pu.eV,es] at q
   exists A1.ins,ep
   right;wp_walk;refine λc hc=>?_;have N4:=q0D (o:=.lst []) hc;exact q _ c [] _ 8e5 8e2 aA .nil 4e4
  | UP k =>
   have U3:=A1.slp;rw[show(S.done i w).sl=S.sl from rfl,es] at U3;obtain⟨p,rfl,ep⟩:=U3;simp only[Pu.eV,es] at q
   exists A1.ins,ep
   right;wp_walk;refine λc hc=>?_;have N4:=q0D (o:=.lst []) hc;exact q _ c [] _ 8e5 8e2 aA .nil 4e4
  | ended u =>
   have U3:=A1.slp;rw[show(S.done i w).sl=S.sl from rfl,es] at U3;obtain⟨p,rfl,ep⟩:=U3;simp only[Pu.eV,es] at q
   exists A1.ins,ep
   right;wp_walk;refine λc hc=>?_;have N4:=q0D (o:=.lst []) hc;exact q _ c [] _ 8e5 8e2 aA .nil 4e4
  | worn =>
   have U3:=A1.slp;rw[show(S.done i w).sl=S.sl from rfl,es] at U3;obtain⟨p,rfl,ep⟩:=U3;simp only[Pu.eV,es] at q
   exists A1.ins,ep
   right;wp_walk;refine λc hc=>?_;have N4:=q0D (o:=.lst []) hc;exact q _ c [] _ 8e5 8e2 aA .nil 4e4
theorem oV:Ok T 0e25 16 (E1 ⟨t.aO,t.aP,t.aJ⟩ true):=by
 nomatch T.r 32
 ·obtain⟨R,as,sl,S,v,h,N,rfl,_⟩:=h;rfl
 ·obtain⟨R,as,sl,S,v,h,N,rfl,A,F,hN,hn,hH,ok,q⟩:=h
  nomatch (aG (pif (AH (pmt pv0 T.aM (rK T) (T.r 33) 5e3)) 7e51) (aG (dN T.aM T.pP pv0 (bF 1e13 rfl T.A8 oP (pa2 4e16 3e0))) (pss3 (pif (ptc aY 3e0 aE) (pss2 (dN T.aM T.y9 pv0 3e0) 9e40)) (pif (ptc aY 3e0 aE) (aI (aK (pmt pv0 T.aM (vU T) (T.r 34) (pa2 3e0 3e0))))) (aK (pmt pv0 T.aM (rL T) (T.r 35) (pa2 3e0 3e0)))))),0
  left
  exists A.ins
  refine⟨R,as,sl,S,v,h,rfl,A,hn,hH,λH1 K1=>?_⟩;have A1:=A.kp K1;obtain⟨a,rfl,eh⟩:=hH;have XZ:=K1.at eh;cases ho:S.over h with
  | true =>
   simp only[Pu.take,ho,Γ1] at q;wp_walk;have F1:=Fw.of (R:=R) (as:=as) K1;refine λc hc=>?_;have N4:=q0D (o:=.lst []) hc;exact q as _ c [] _ 8e5 8e2 (A1.dY hc).2 aA .nil 4e4
  | false =>
   simp only[Pu.take,ho,Β4,Ϙ] at q;wp_walk;right;cases h with
   | Vf m w =>
    simp only[Hap.vs,Hap.ini,Hap.w,ϐ,Α3] at XZ;refine bU λR2 VA=>?_
    exists A1.ins,XZ
    have F1:=Fw.of (R:=R) (as:=as) K1;have A2:=A1.attr sl S.sl S.ar 8e4 A1.slp;have Xi:=Fw.set (R:=R) (as:=as) (H:=H1) (p:=R.x) (o:=9e4) 7e1;have ZY:=A1.tkp Xi _ _ XZ;have F2:=F1.trans Xi;clear Xi;change R2 _ (UK H1 R.x 9e4);generalize UK H1 R.x 9e4=G2 at *;refine VA _ _ ?_;clear VA;clear R2
    exists A2.ins,ZY
    have A3:=A2.attr sl S.sl w 8e4 A2.slp;have F3:=F2.trans (Fw.set (p:=R.x) (o:=(j5 t.aO R (sl) w 8e4)) 7e1);generalize UK G2 R.x (j5 t.aO R (sl) w 8e4)=G3 at *
    exists A3.ins
    have FF:UU true ({S with nw:=later S.nw m,ar:=w,sl:=.UL}:Pu) N:={F with pl:=⟨F.pl.nm,ok.2,F.pl.an⟩,nw:=(F.at' ok.1).nw,sl:=oY rfl};exact⟨R,as,sl,_,N,rfl,A3,FF,by omega,λVs c us H3 A4 hc ec hC F4=>q as Vs c us H3 A4 6e12 (A.dY 6e12).2 ec hC (F3.trans F4)⟩
   | don m i w =>
    simp only[Hap.vs,Hap.ini,Hap.w,ϐ,Α3] at XZ;have hi:i∈S.pend:=by
     cases es:S.sl<;>simp only[Pu.over,es,Bool.not_eq_false',Ε6] at ho
     all_goals first|exact ho|cases ho
    refine bU λR2 VA=>?_
    exists A1.ins,XZ
    have F1:=Fw.of (R:=R) (as:=as) K1;have A2:=A1.attr sl S.sl S.ar 8e4 A1.slp;have Xi:=Fw.set (R:=R) (as:=as) (H:=H1) (p:=R.x) (o:=9e4) 7e1;have ZY:=A1.tkp Xi _ _ XZ;have F2:=F1.trans Xi;clear Xi;change R2 _ (UK H1 R.x 9e4);generalize UK H1 R.x 9e4=G2 at *;refine VA _ _ ?_;clear VA;clear R2
    exists A2.ins,ZY
    exact⟨R,as,sl,S.at' m,i,w,N,rfl,A2,F.at' ok.1,by omega,ok.2,hi,hn,λVs c us H3 A4 hc ec hC F4=>q as Vs c us H3 A4 3e17 (A.dY 3e17).2 ec hC 4e52⟩
   | ltr m k w =>
    simp only[Hap.vs,Hap.ini,Hap.w,ϐ,Α3] at XZ;have hs:(∃k,S.sl=.UP k)\/∃ts,S.sl=.wait ts:=by
     cases es:S.sl with
     | UP k=>exact .inl ⟨k,rfl⟩
     | wait ts=>exact .inr ⟨ts,rfl⟩
     | UL=>rw[es] at hn;cases hn
     | _=>simp only[Pu.over,es] at ho;cases ho
    refine bU λR2 VA=>?_
    exists A1.ins,XZ
    have F1:=Fw.of (R:=R) (as:=as) K1;have A2:=A1.attr sl S.sl S.ar 8e4 A1.slp;have Xi:=Fw.set (R:=R) (as:=as) (H:=H1) (p:=R.x) (o:=9e4) 7e1;have ZY:=A1.tkp Xi _ _ XZ;have F2:=F1.trans Xi;clear Xi;change R2 _ (UK H1 R.x 9e4);generalize UK H1 R.x 9e4=G2 at *;refine VA _ _ ?_;clear VA;clear R2
    exists A2.ins,ZY
    exact⟨R,as,sl,S.at' m,k,w,N,rfl,A2,F.at' ok.1,by omega,ok.2,hs,λVc Vs c us H3 A4 hc nc ec hC F4=>q Vc Vs c us H3 A4 3e17 nc ec hC 4e52⟩
theorem Au:Ok T (T.r 19) 1 (EX t.aP):=by
 nomatch T.r 19
 ·obtain⟨wk,wx,lb,ln,st,rfl,_⟩:=h;rfl
 ·obtain⟨wk,wx,lb,ln,st,rfl,W,q⟩:=h
  nomatch (aI (aK (bR eJ rfl T.iB fB (pa1 3e12)))),0
  exists W.ins,W.nu
  exact q
theorem nV:Ok T (T.r 8) 1 (zU t.aJ):=by
 nomatch T.r 8
 ·obtain⟨tk,tx,dp,da,made,pend,ans,rfl,_⟩:=h;rfl
 ·obtain⟨tk,tx,dp,da,made,pend,ans,rfl,R,h64,q⟩:=h
  nomatch (aI (aK (bF (CS rfl) rfl T.nS m9 (pa1 3e16)))),0
  exists R.ins,R.hp,GD
  exact⟨R.asc,λl U0 hl hp hs=>by rw[mU hp hs R.asc];exact q l hl⟩
theorem hW:Ok T 1e25 2 (EV ⟨t.aO,t.aP,t.aJ⟩):=by
 nomatch T.r 30
 ·obtain⟨R,as,sl,S,rfl,_⟩:=h;rfl
 ·obtain⟨R,as,sl,S,rfl,A,h64,q⟩:=h
  nomatch (aI (aK (pmt0 6e3 T.bG (nV T) (T.r 8)))),0
  exists A.ins,A.tk.ins
  exact⟨R.tk,R.tx,R.dp,R.da,_,_,_,rfl,A.tk,h64,q⟩
theorem gT:Ok T 8e19 3 (EY ⟨t.aO,t.aP,t.aJ⟩):=by
 nomatch T.r 31
 ·obtain⟨R,as,sl,S,rfl,_⟩:=h;rfl
 ·obtain⟨R,as,sl,S,rfl,A,hn,b1,b2,b3,b4,b5,q⟩:=h;have hu:=nZ hr
  nomatch (aG (pif (dQ rN (pix aN 0e5 aB) (aX 1e5) 6e2) 8e51) (pss3 (lE (i:=1) (fr:=[0]) (N:=["name","self"]) rfl 4e3 9e13 (jY (bF (uD rfl) rfl T.nS m9 (pa1 0e10))) (λC s H ex pn=>⟨j4 (dQ nN 8e37 cK (nomark _)) ,(aX (dJ 0e2 (dJ 8e37 bO))) ⟩) sc rfl 8e10) (lE (i:=2) (fr:=[0]) (N:=["key","self"]) rfl 4e3 9e13 (jY (bF (uD rfl) rfl T.nS m9 (pa1 7e30))) (λC s H ex pn=>⟨j4 (tW 7e37 5e22) ,(aX (dJ 0e2 (dJ (bR eJ rfl T.iB fB (dJ 7e37 bO)) bO))) ⟩) sc rfl 8e10) (aK (aX (dJ 0e5 (dJ (pmt0 3e15 T.cY (Au T) (T.r 19)) (dJ 3e48 (dJ 4e16 (dJ (bR eJ rfl T.iB fB 5e3) (dJ (aL T.bG T.rE 6e3) (pa3 (bR eJ rfl T.iB fB (pa1 (pmt0 pv0 T.aM (hW T) 1e25))) (bR (CT rfl) rfl T.iB fB (pa1 (Jp (aL T.bG T.gQ 6e3)))) 1e20))))))))))),0
  left;obtain⟨ps,s0,r0,rfl,ep,hin⟩:=A.slp.word hn;refine cO λRI UR=>?_
  exists A.ins,ep
  refine λp1 m1=>⟨rfl,rfl,?_⟩;rw[hin];have N1:=q0D (o:=.tup [.str "wait",.str "hear"]) m1;replace A:=A.kp N1;generalize UK H p1 (.tup [.str "wait",.str "hear"])=G1 at *;clear m1 ep hin;cases hg:S.sl.uZ with
  | false =>
   rw[if_pos (show(!false)=true from rfl)];refine UR _ _ ?_
   exists A.ins
   exact q _ _ (by unfold oK;rw[if_neg (by rw[hg];simp)];exact A.slp) N1
  | true =>
   rw[if_neg 0e0];clear UR RI;right;left
   exists A.ins,A.nm,Fd
   refine⟨by rw[Γ];exact b2,λl ns hl hp hs=>?_⟩;have hks:∀n∈ns,n∈S.nm.map (·.1):=λn hn=>hp.mem_iff.mp hn;have lns:ns.length < 64:=by rw[hp.length_eq,Γ];exact b2
   have Xn:=JZ hp hs;have N2:=q0D (o:=.lst 2e36) hl;have el:UK G1 l 2e12 l=some 2e12:=aA;replace A:=A.kp N2;replace N1:=N1.trans N2;generalize UK G1 l 2e12=G2 at *;clear hp hs hl N2;refine⟨⟨_,fV.of el⟩,?_⟩;obtain⟨Pv,UT⟩:∃Pv:Nat->List V->Hp->Prop,∀i xs G,Pv i xs G=(fI G xs (eP S.nm 8e12)/\Kp [] G2 G):=⟨_,λ_ _ _=>rfl⟩;refine pN (ys:=ns.map V.str) Pv ?_ ?_ ?_ ?_ ?_
   ·rw[UT];exact⟨.nil,Kp.refl⟩
   ·intro i xs G h;rw[UT] at h;rw[h.1.len];have h1:=nK S.nm 8e12;rw[Α8] at h1;omega
   ·intro i xs G h;rw[UT] at h;exact fV.of 7e53
   ·intro i y xs G hi ey h;rw[UT] at h;obtain⟨hP,KG⟩:=h;obtain⟨n,en,rfl⟩:∃n,ns[i]?=some n/\y=V.str n:=by
     rw[ϖ] at ey;obtain⟨n,a0,b0⟩:=ϛ.mp ey;exact⟨n,a0,b0.symm⟩
    have vn:=IX 8e49;have AG:=A.kp KG;have es:eP S.nm (ns.take 6e1)=eP S.nm 8e12++eP S.nm [n]:=by rw[Β3,en,Α5,zA]
    exists bC,Β1,AG.ins,AG.nm,vn
    cases hw:iW S.nm n with
    | none =>
     rw[if_pos (show wv none=V.UL from rfl),UT,es];exact⟨by rw[show eP S.nm [n]=[] by simp[eP,hw],Ϝ];exact hP,KG⟩
    | some z =>
     rw[if_neg (by simp[wv])];intro p hp;rw[UT,es,show eP S.nm [n]=[(.str n,wv (some z))] by simp[eP,hw]];exact⟨(hP.kt 8e9).snoc aA,KG.trans 4e10⟩
   intro un G h ln2 Yq;rw[UT] at h;obtain⟨hP,KG⟩:=h;rw[Γ,Α2,Xn] at hP;replace hP:fI G un S.nmS:=hP;have lun:un.length<=64:=by
    rw[hP.len];have h1:=nK S.nm (srt (S.nm.map (·.1)));rw[<- Xn] at h1;show(eP S.nm (srt (S.nm.map (·.1)))).length<=64;rw[<- Xn];omega
   have N3:=q0D (o:=.lst un) Yq;have V2:UK G ln2 8e33 ln2=some 8e33:=aA;replace hP:=hP.kt 0e11;replace A:=A.kp 9e16;replace N1:=N1.trans 9e16;generalize UK G ln2 8e33=G3 at *;clear UT KG N3 Yq el hks Xn lns;right;left;obtain⟨kvs,ek,hL⟩:=A.lt;have sk:=Ms hL
   exists A.ins,ek,sk
   refine⟨by rw[Γ];exact b3,λl ns hl hp hs=>?_⟩;have hks:∀n∈ns,n∈S.lt.map (·.1):=λn hn=>hp.mem_iff.mp hn;have lns:ns.length < 64:=by rw[hp.length_eq,Γ];exact b3
   have Xn:=JZ hp hs;have N2:=q0D (o:=.lst 2e36) hl;have el:UK G3 l 2e12 l=some 2e12:=aA;replace A:=A.kp N2;replace N1:=N1.trans N2;replace hP:=hP.kt 1e54;replace V2:=N2.at V2;replace ek:=N2.at ek;replace hL:=hL.keep (λa _ o e=>N2.at e);generalize UK G3 l 2e12=G4 at *;clear hp hs hl N2 sk;refine⟨⟨_,fV.of el⟩,?_⟩;obtain⟨Pv,UT⟩:∃Pv:Nat->List V->Hp->Prop,∀i xs G,Pv i xs G=(iM G xs (gP S.lt 8e12)/\Kp [] G4 G):=⟨_,λ_ _ _=>rfl⟩;refine pN (ys:=ns.map V.str) Pv ?_ ?_ ?_ ?_ ?_
   ·rw[UT];exact⟨.nil,Kp.refl⟩
   ·intro i xs G h;rw[UT] at h;rw[h.1.len];have h1:=nI S.lt 8e12;rw[Α8] at h1;omega
   ·intro i xs G h;rw[UT] at h;exact fV.of 7e53
   ·intro i y xs G hi ey h;rw[UT] at h;obtain⟨hT,KG⟩:=h;obtain⟨n,en,rfl⟩:∃n,ns[i]?=some n/\y=V.str n:=by
     rw[ϖ] at ey;obtain⟨n,a0,b0⟩:=ϛ.mp ey;exact⟨n,a0,b0.symm⟩
    obtain⟨la,ws,vn,lw,ela⟩:=hL.inS 8e49;have AG:=A.kp KG;have ekG:=KG.at ek;have elG:=KG.at ela;have es:gP S.lt (ns.take 6e1)=gP S.lt 8e12++gP S.lt [n]:=by rw[Β3,en,Α5,y7]
    exists bC,Β1,AG.ins,ekG,vn,elG
    cases ws with
    | nil =>
     rw[if_neg 0e0,UT,es];exact⟨by rw[show gP S.lt [n]=[] by simp[gP,lw],Ϝ];exact hT,KG⟩
    | cons w r =>
     rw[if_pos 0e0]
     exists AG.ins,ekG,vn,elG
     intro q1 m1 q2 m2;rw[UT,es,show gP S.lt [n]=[(n,w::r)] by simp[gP,lw]];exact⟨((hT.kt (aD.new m1)).kt (aD.new m2)).snoc aA ((q0D m2).at aA),(KG.trans (Kp.new m1)).trans (Kp.new m2)⟩
   intro ut G h ln3 Yq;rw[UT] at h;obtain⟨hT,KG⟩:=h;rw[Γ,Α2] at hT;have lut:ut.length<=64:=by
    rw[hT.len];have h1:=nI S.lt ns;omega
   rw[Xn] at hT;replace hT:iM G ut S.ltS:=hT;have N3:=q0D (o:=.lst ut) Yq;have WK:UK G ln3 7e33 ln3=some 7e33:=aA;replace hT:=hT.kt 0e11;replace hP:=hP.kt (aD.nil 9e16);replace V2:=(KG.trans N3).at V2;replace A:=A.kp 9e16;replace N1:=N1.trans 9e16;generalize UK G ln3 7e33=G5 at *;clear UT KG N3 Yq el hks Xn lns ek hL;right
   exists A.ins,A.wk.ins
   refine⟨R.wk,R.wx,R.lb,R.ln,S.stk,rfl,A.wk,λpl m1=>?_⟩;have N4:=q0D (o:=.tup 6e20) m1;have Xp:UK G5 pl (.tup 6e20) pl=some (.tup 6e20):=aA;replace A:=A.kp N4;replace N1:=N1.trans N4;replace hP:=hP.kt 2e2;replace hT:=hT.kt 2e2;replace V2:=N4.at V2;replace WK:=N4.at WK;generalize UK G5 pl (.tup 6e20)=G6 at *;clear N4 m1
   exists A.ins,A.tk.ins,V2
   refine λpn m2=>?_;generalize hg:UK G6 pn (.tup un)=G7;have N4:Kp [] G6 G7:=hg▸Kp.new m2;have X1:G7 pn=some (.tup un):=hg▸aA;clear hg;replace A:=A.kp N4;replace N1:=N1.trans N4;replace hP:=hP.kt 2e2;replace hT:=hT.kt 2e2;replace V2:=N4.at V2;replace WK:=N4.at WK;replace Xp:=N4.at Xp;clear N4 m2
   exists A.ins,A.tk.ins
   refine⟨R,as,_,S,rfl,A,b1,λlo m3=>?_⟩;have N4:=q0D (o:=.lst 1e10) m3;have elo:UK G7 lo (.lst 1e10) lo=some (.lst 1e10):=aA;replace A:=A.kp N4;replace N1:=N1.trans N4;replace hP:=hP.kt 2e2;replace hT:=hT.kt 2e2;replace V2:=N4.at V2;replace WK:=N4.at WK;replace Xp:=N4.at Xp;replace X1:=N4.at X1;generalize UK G7 lo (.lst 1e10)=G8 at *;clear N4 m3
   exists elo
   refine λpo m4=>?_;generalize hg:UK G8 po (.tup 1e10)=G9;have N4:Kp [] G8 G9:=hg▸Kp.new m4;have Z1:G9 po=some (.tup 1e10):=hg▸aA;clear hg;replace A:=A.kp N4;replace N1:=N1.trans N4;replace hP:=hP.kt 2e2;replace hT:=hT.kt 2e2;replace V2:=N4.at V2;replace WK:=N4.at WK;replace Xp:=N4.at Xp;replace X1:=N4.at X1;clear N4 m4
   exists A.ins,A.tk.ins,A.tk.ha
   refine λrv m5=>?_;generalize hg:UK G9 rv 1e53=GA;have N4:Kp [] G9 GA:=hg▸Kp.new m5;have erv:GA rv=some 1e53:=hg▸aA;clear hg;replace A:=A.kp N4;replace N1:=N1.trans N4;replace hP:=hP.kt 2e2;replace hT:=hT.kt 2e2;replace V2:=N4.at V2;replace WK:=N4.at WK;replace Xp:=N4.at Xp;replace X1:=N4.at X1;replace Z1:=N4.at Z1;clear N4 m5;refine⟨R.da,_,rfl,A.tk.ha,λpa aa GB m6 sm epa Xd Y3=>?_⟩;have N4:Kp [] GA GB:=Kp.of sm;replace A:=A.kp N4;replace N1:=N1.trans N4;replace hP:=hP.kt 2e2;replace hT:=hT.kt 2e2;replace V2:=N4.at V2;replace WK:=N4.at WK;replace Xp:=N4.at Xp;replace X1:=N4.at X1;replace Z1:=N4.at Z1;have hA:fI GB (aa.map V.ref) S.anS:=fI.of (by rw[Xd,Pu.anS,Γ,iD,Γ]) λj a x y e1 e2=>by
    rw[Pu.anS,ϖ] at e2;obtain⟨p0,e3,e4⟩:=ϛ.mp e2;cases e4;exact Y3 j a (.inl p0.1) (wv p0.2) e1 (by rw[iD,ϖ,e3];rfl)
   clear N4 sm Xd Y3 m6 erv
   exists WK
   refine λpt m7 p m8=>?_;have N4:=(q0D (o:=.tup ut) m7).trans (Kp.new (o:=.tup [.ref ps,.ref pl,wv S.ar,.int S.nw,.ref pn,.int S.made,.ref po,.ref pa,.ref pt]) m8);refine q _ _ ?_ (N1.trans N4);unfold oK;rw[if_pos hg];have T:=aD.nil N4;exact⟨p,pl,pn,po,pa,pt,.ref ps,un,_,ut,rfl,aA,A.slp.kt T,N4.at Xp,N4.at X1,hP.kt T,N4.at Z1,N4.at epa,hA.kt T,(q0D m8).at aA,hT.kt T⟩
theorem sI:Ok T 7e34 1 (Cr ⟨t.aO,t.aP,t.aJ⟩):=by
 nomatch T.r 29
 ·obtain⟨R,as,sl,S,rfl,_⟩:=h;rfl
 ·obtain⟨R,as,sl,S,rfl,A,q⟩:=h
  nomatch 8e51,0
  exists A.ins
  exact q
theorem Dm:Ok T (T.r 67) 4 EW:=by
 nomatch T.r 67
 ·obtain⟨P0,A0,S,p,r,n,N,rfl,_⟩:=h;rfl
 ·obtain⟨P0,A0,S,p,r,n,N,rfl,F,FT,lN,hN,hR,hn,s1,q⟩:=h
  nomatch (aG (pst 2 8e38) (pss3 (pif (PW.pt (eU (dQ iT 7e2 2e5 6e2) 1e30)) 3e42) (pif (PW.pt (eU (dQ rN 7e2 2e5 6e2) 1e30)) (aI (aK (aX (dJ aE (pa3 pv2 aE 6e14)))))) (aK (aX (dJ aE (pa3 pv2 (bE cH 7e2 2e1) 6e14)))))),0
  obtain⟨ot,M0,VU,c1,c2,c3,c4⟩:=F.ex;obtain⟨U7,UZ,VF,t1,t2,t3,t4,t5,t6⟩:=M0.hm;have vm:aZ U7 7e10=some 5e12:=(VF.2 _ 4e0).trans c4.md;have ZH:A0.md≠r:=λz=>s1 7e17;have lmd:=FT.md;left;wp_walk;refine⟨_,hR,by omega,λmo H1 a1 b1 D1 K1=>?_⟩;have hm:0<=mo/\mo<=1000000000000:=⟨a1,by omega⟩;right;refine bU λR2 VA=>?_;have UW:=K1.at1 UZ ZH
  suffices fin:∀(n':Nat) (G:Hp),bM G r n'->n'<=n+12->Kp [r] H G->R2 [some 2e13,some 6e4,some 5e24] G by
   exists UW,vm
   refine λp1 m1=>⟨rfl,by decide +kernel,?_⟩;rw[vL];have D2:=D1.new m1 (o:=.lst [.str "wait",.str "hear"]);have K2:=K1.trans 5e38;generalize UK H1 p1 0e15=H2 at *;split
   ·next hg =>
    refine⟨_,D2,by omega,λg H3 a3 b3 D3 K3=>?_⟩;split
    ·refine⟨r,_,rfl,D3,by omega,λw H4 hw D4 K4=>?_⟩;intro p5 h5;exact q _ (.Vf mo w) _ _ ⟨p5,rfl,aA⟩ ⟨hm,hw⟩ (BW (λz=>by rw[z] at hg;cases hg)) 5e32 1e0 4e39
    ·exact fin _ _ D3 1e0 3e52
   ·exact fin _ _ D2 1e0 K2
  intro n' G RG ln KG;clear UW D1 K1;refine VA _ _ ?_;clear VA;clear R2;refine bU λR3 VN=>?_;have UW:=KG.at1 UZ ZH
  suffices fin:∀(n':Nat) (G:Hp),bM G r n'->n'<=n+30->Kp [r] H G->R3 [some 2e13,some 6e4,some 5e24] G by
   exists UW,vm
   refine λp1 m1=>⟨rfl,by decide +kernel,?_⟩;rw[vL];have D2:=RG.new m1 (o:=.lst [.str "wait",.str "hear"]);have K2:=KG.trans 5e38;generalize UK G p1 0e15=H2 at *;split
   ·next hg =>
    refine⟨_,D2,by omega,λg H3 a3 b3 D3 K3=>?_⟩;split
    ·refine⟨r,_,rfl,D3,by omega,λw H4 hw D4 K4=>?_⟩;intro p5 h5;exact q _ (.ltr mo "paid" w) _ _ ⟨p5,rfl,aA⟩ ⟨hm,hw⟩ (Ds hN (by simpa using hg)) 5e32 1e0 4e39
    ·exact fin _ _ D3 1e0 3e52
   ·exact fin _ _ D2 1e0 K2
  intro n2 G2 RG2 ln2 KG2;clear UW RG KG ln;refine VN _ _ ?_;clear VN;clear R3;have Vo:=KG2.at1 UZ ZH
  exists Vo,t4
  refine⟨_,RG2,by omega,λg H3 a3 b3 D3 K3=>⟨r,_,rfl,D3,by omega,λw H4 hw D4 K4=>?_⟩⟩;intro p5 h5;exact q _ (.don mo (S.made+g) w) _ _ ⟨p5,rfl,aA⟩ ⟨hm,hw⟩ (Jl hN (λz=>by have:=M0.lt _ z;omega)) 5e32 1e0 (((KG2.trans K3).trans K4).trans 1e23)
theorem Pz:Ok T (T.r 68) 40 (ET K):=by
 nomatch T.r 68
 ·obtain⟨a,ns,rfl,_⟩:=h;rfl
 ·obtain⟨a,ns,rfl,hS,h63,q⟩:=h
  nomatch (aG (pst 1 (pcl (yD T) (T.r 52) (pa1 6e41))) (aG (pst 2 (pcl (Gu T) (T.r 66) (pa2 pv1 6e41))) (aG (pst 3 (pcl (zC T) 3e34 5e3)) (aG (pst 4 (AA T.Et (vT T) (hr.mono 1e0) rfl T.RN (T.r 28).bd .nil pass0 5e3)) (aG (pst 5 (AA T.Et (vT T) (hr.mono 1e0) rfl T.RN (T.r 28).bd .nil pass0 5e3)) (pss3 (pst 6 8e0) (AE Δ7 rfl (nO rfl T.r8 (pa1 9e11)) (pgn 7) (aG (pst 8 (pcl (oW T) 9e24 (pa2 (pix En pv0 (bE cH aB (bE mK aB pv7))) aB))) (aG (pif (PW.pt (zE (ptc 0e21 (pmt pv5 T.aM (oV T) 0e25 (pa1 (pcl (Dm T) (T.r 67) (pa2 (pv 8) pv3)))) 8e0) (wL (ptc 1e48 0e42 9e19)))) 7e22) (aG (pst 9 6e21) (aG (pif (PW.pt (eU (dQ iT 1e32 2e5 6e2) (dR (ptc RX 0e48 1e32)))) (aI (pst 9 (bE jL (aX (pa2 0e48 (pcl 1e1 0e1 (pa2 (pv 8) (bE cH 1e32 aB))))) (BZ Sn (pv 9) 5e18 EE))))) (aG (pst 10 (pmt pv4 T.aM (oV T) 0e25 (pa1 6e21))) (pss3 (pif (PW.pt (zE (ptc 4e30 (pv 10) (pmt pv5 T.aM (oV T) 0e25 (pa1 (pv 9)))) (zE (ptc 4e30 (pv 10) (pcl (sL T) 0e34 (pa2 pv3 6e21))) (wL (ptc 1e48 9e19 0e42))))) 7e22) (pif (PW.pt (zE (ptc 4e30 (pmt0 pv4 T.aM (sI T) 7e34) (pmt0 pv5 T.aM (sI T) 7e34)) (wL (ptc 0e21 (pmt0 pv4 T.aM (hW T) 1e25) (pmt0 pv5 T.aM (hW T) 1e25))))) 7e22) (aQ (dM pv6 (aX (pa2 9e19 (bF (yO hr.gd (oT hr 6e0)) rfl T.Fn DQ (pa1 9e19))))))))))))) (aK (pcr 8e30 (Jm (cl:=[]) (fr:=[]) (N:=["state","text"]) rfl 4e3 (i5.of (M:=["state"]) (eC.dY rfl rfl rfl rfl) rfl 6e0 rfl) (jY pv6) (λC s H ex pn=>⟨j4 (dQ Jk (bF ((yO (by exact hr.gd) (oT hr 6e0))) rfl T.Fn DQ (dJ 0e2 bO)) 3e6 (nomark _)) ,0e2 ⟩)) 8e0)))))))),0
  left;wp_walk;refine⟨a,_,2,1,63,rfl,hS,⟨rfl,rfl,rfl⟩,⟨by decide,by decide,by decide⟩,λys q1 hy ly m1=>?_⟩;obtain⟨ms,rfl,lm⟩:=Ek hy;rw[Γ,Γ] at ly;have N1:=q0D (o:=.lst 8e50) m1;replace hS:=N1.same.seq hS;refine⟨q1,ms,rfl,aA,by omega,λp1 us b G1 ep WQ gb db zb K1=>?_⟩;replace hS:=K1.same.seq hS;have zb2:bV b<=62:=by omega
  clear N1 m1 hy K1 zb ly lm;wp_walk;right;refine bU λR2 VA=>?_;wp_walk;refine⟨a,_,2,2,63,rfl,hS,⟨rfl,rfl,rfl⟩,⟨by decide,by decide,by decide⟩,λys q2 hy ly2 m2=>?_⟩;obtain⟨ms2,rfl,lm2⟩:=Ek hy;rw[Γ,Γ] at ly2;have N2:=q0D (o:=.lst (ms2.map V.int)) m2;refine⟨p1,q2,us,b,ms2,rfl,N2.at ep,WQ.kp 1e54,gb,by omega,by omega,aA,by omega,λrl hv hs G2 er hH ok kn lh K2=>?_⟩;replace K2:=N2.trans K2;replace ep:=K2.at ep;replace WQ:=WQ.kp 3e32;replace hS:=K2.same.seq hS;have l31:hs.length<=31:=by omega
  have lix:∀k:Nat,k < hs.length->2+2 * k < ns.length:=λk hk=>by omega
  clear N2 m2 hy K2 ly2 lm2 lh;wp_walk;refine VA _ _ ?_;clear VA;clear R2;left;wp_walk;refine⟨p1,us,b,rfl,ep,WQ,by omega,by omega,λA1 G3 F3 YR nk0 xaw K3=>?_⟩;obtain⟨md,XQ⟩:∃md,md=A1.md:=⟨_,rfl⟩;rw[<- XQ];replace ep:=K3.at ep;replace WQ:=WQ.kp (aD.nil K3);wp_walk;right;left;have lu:=WQ.len;have lbz:=kU b
  exists ep
  refine IQ ep WQ λR sl G4 RA K4 NR=>?_;have lh2:=hH.len;have J0:In13 ⟨t.aO,t.aP,t.aJ⟩ b md G2 G4 R [] sl A1 0 9e0 9e0:=by
   obtain⟨oaw,VX⟩:=xaw;refine⟨RA,F3.kp K4,XQ.symm,λx hx=>?_,⟨_,K4.at VX⟩,K3.trans K4,λx hx=>?_⟩
   ·rcases hx with hx|hx
    ·have hn:=NR x hx;obtain⟨w1,w2,w3⟩:=F3.new hn;exact⟨w3,w1.1,w1.2,λz=>by rw[z,VX] at hn;cases hn⟩
    ·simp at hx
   ·rcases hx with hx|hx|hx
    ·exact K3.cJ (NR x hx)
    ·simp at hx
    ·exact YR x hx
  have P0:Pu13 b hs 9e0 0:=⟨Ec gb.1 1e0,rfl,Fc b,BG gb.2,IK⟩;replace ep:=K4.at ep;replace WQ:=WQ.kp (aD.nil K4);right;left
  exists ep
  refine IQ ep WQ λR2 U5 G5 RA2 K5 NR2=>?_;have Vk:In20 ⟨t.aO,t.aP,t.aJ⟩ b md G2 G5 R [] sl R2 [] U5 A1 0 9e0 9e0 9e0:=by
   have J1:=J0.kp K5;refine⟨J1,⟨RA2,J1.fl,J1.md,λx hx=>?_,J1.aw,J1.kb,λx hx=>?_⟩,λx hx Ya=>?_⟩
   ·rcases hx with hx|hx
    ·have hn:=NR2 x hx;obtain⟨w1,w2,w3⟩:=J0.fl.new hn;obtain⟨o,VX⟩:=J0.aw;exact⟨w3,w1.1,w1.2,λz=>by rw[z,VX] at hn;cases hn⟩
    ·simp at hx
   ·rcases hx with hx|hx|hx
    ·exact J0.free (NR2 x hx)
    ·simp at hx
    ·exact J0.nb x (.inr (.inr hx))
   ·obtain⟨o,e,_⟩:=J0.ra.cellK hx;rcases Ya with Ya|Ya
    ·rw[NR2 x Ya] at e;cases e
    ·simp at Ya
  clear J0 K5 NR2 RA2 RA F3 K4 NR xaw YR K3 lu lbz;wp_walk;right;left;wp_walk;refine λst UY=>?_;have N6:=q0D (o:=.lst []) UY;obtain⟨sm1,sm2,sm3⟩:=Vk.j.fl.new UY;obtain⟨oaw,VX⟩:=Vk.j.aw;have Q0:Internal.Vk ⟨t.aO,t.aP,t.aJ⟩ b md G2 (UK G5 st 2e0) R [] sl R2 [] U5 A1 0 9e0 9e0 9e0 st []:=⟨Vk.kp N6,aA,by simp,Vk.j.ra.dY UY,Vk.k.ra.dY UY,⟨sm3,sm1.1,sm1.2,λz=>by rw[z,VX] at UY;cases UY⟩,Vk.j.free UY⟩;generalize UK G5 st 2e0=G6 at *;clear N6 Vk sm1 sm2 sm3 VX UY;right;left;have er6:=Q0.j.j.kb.at er
  exists er6
  refine⟨⟨by omega,by omega⟩,?_⟩;obtain⟨Pv,UT⟩:∃Pv:Nat->St->Hp->Prop,∀i Z G,Pv i Z G=E11 fun(v7 v8 v9 va:Option V) (as U8:List Addr) (sl U5:V) (A:Fa) (p:Nat) (vs:List V)=>A5 (Z=[some 3e2,some 0e13,some 2e24,some 3e24,some 8e17,some 1e55,some (.ref st),v7,v8,v9,va]) (Internal.Vk ⟨t.aO,t.aP,t.aJ⟩ b md G2 G R as sl R2 U8 U5 A p (takes 9e0 7e7).1 (takes 9e0 7e7).1 (takes 9e0 7e7).1 st vs) (Pu13 b hs (takes 9e0 7e7).1 i) (A.nk<=i) (vs.length<=i):=⟨_,λ_ _ _=>rfl⟩;refine qV (lo:=0) Pv ?_ ?_ ?_
  ·rw[UT];exact⟨_,_,_,_,[],[],sl,U5,A1,0,[],rfl,Q0,P0,by omega,by simp⟩
  ·intro i Z G hi h;rw[UT] at h;obtain⟨v7,v8,v9,va,as,U8,sl,U5,A,p,vs,rfl,J,P,hk,lvs⟩:=h;have il:i < hs.length:=by omega
   obtain⟨w1,w2,w3,w4,w5,w6,w7,w8⟩:=bd20 il l31;obtain⟨y,ey⟩:∃y,hv[i]?=some y:=⟨hv[i]' 1e0,by simp⟩;obtain⟨x,ex,hx⟩:=hH.gY ey;have hf:=ok x (ϒ ex);have kf:=kn x (ϒ ex);have es:takes 9e0 (hs.take 6e1)=(((takes 9e0 7e7).1.take x).1,(takes 9e0 7e7).2++[((takes 9e0 7e7).1.take x).2]):=by rw[Β3,ex,Α5,pB]
   generalize eS:(takes 9e0 7e7).1=S at *;have U2:=P.U2 w3 zb2 w6;have hSG:=J.j.j.kb.same.seq hS;obtain⟨z,ez⟩:∃z,gY (ns.map V.int) 1e50=some 2e6:=by
    rw[show 1e50=((2+2 * i:Nat):Int) by omega];exact⟨ns[2+2 * i]'(lix i il),eI 0e0⟩
   left
   exists Int.zero_add,ez
   refine⟨a,_,_,_,rfl,rfl,hSG,ez,z,400,rfl,λdk G3 Wx K3 RD=>?_⟩;obtain⟨d1,d2,d3⟩:=J.j.j.fl.new Wx;have J0:=J;have O0:=J.off Wx;replace J:=J.kp K3;wp_walk;right;left
   exists J.j.k.ra.ins
   refine⟨b,A,S,p,dk,_,302 * i,by rw[J.j.j.md],J.j.j.fl,P.ft,w1,P.hn,RD,by decide,d3,λv h n' G4 hA hhf ho D4 ln4 K4=>?_⟩;have KK:∀G':Hp,Kp [dk] G3 G'->Kp [] G G':=λG' k b o e _=>k.at1 3e33 2e33;replace J:=J0.kp (KK G4 K4);refine⟨R2,U8,_,S,v,h,302 * i,rfl,J.j.k.ra,P.ft,w2,P.hn,hA,hhf,λas4 sl4 c uc G5 RA5 hc nc ec hC W5=>?_⟩;rw[Gy ho] at RA5 hC;have D5:bM G5 dk n':=D4.RB (λo e=>W5.kp _ _ e (J0.j.k.ra.dY Wx).1 (J0.j.k.ra.dY Wx).2);obtain⟨J5,T5⟩:=J.symm.run W5 RA5;replace J5:=J5.symm;have O5:Off20 G2 R as R2 as4 A st dk:=⟨O0.1,⟨O0.2.1.1,λz=>by
    rcases W5.new dk z with w|w
    ·exact O0.2.1.2 w
    ·obtain⟨_,_,_,e,_⟩:=D4;rw[e] at w;cases w⟩,O0.2.2⟩
   cases hC;refine λp6 h6=>?_;generalize hg:UK G5 p6 2e0=G6;have N6:Kp [] G5 G6:=hg▸Kp.new h6;have e6:G6 p6=some 2e0:=hg▸aA;clear hg;replace ec:=N6.at ec;replace J5:=J5.kp N6;replace D5:=D5.kp N6;clear N6 h6 W5 RA5 T5 hA hhf ho J;wp_walk;refine⟨true,AJ (n:=0) ec e6 rfl 0e0,?_⟩
   exists J5.j.k.ra.ins
   refine⟨R2,as4,_,S,rfl,J5.j.k.ra,P.hn,U2.1,U2.2.1,U2.2.2.1,U2.2.2.2.1,U2.2.2.2.2,λv1 G7 VZ K7=>?_⟩;replace J5:=J5.kp K7;replace D5:=D5.kp K7
   exists J5.j.j.ra.ins
   refine⟨R,as,_,S,rfl,J5.j.j.ra,P.hn,U2.1,U2.2.1,U2.2.2.1,U2.2.2.2.1,U2.2.2.2.2,λv2 G8 WA K8=>?_⟩;replace J5:=J5.kp K8;replace D5:=D5.kp K8;replace VZ:=VZ.kt (aD.nil K8);obtain⟨u1,rfl⟩:=rW P.hn VZ;obtain⟨u2,rfl⟩:=rW P.hn WA;wp_walk;refine⟨true,Na (n:=0) P.hn VZ WA,?_⟩;clear VZ WA K7 K8 ec e6 hc nc;wp_walk;right;have erG:=J5.j.j.kb.at er;have ixy:gY hv (i:Int)=some y:=eI ey;left
   exists erG,ixy
   right;refine bU λR11 aaA=>?_;obtain⟨ot,M8,_,_,_,_,c48⟩:=J5.j.j.fl.ex;obtain⟨kv8,YO,lk8,w1,w2,w3,w4,w5,w6⟩:=M8.hm;have vm8:aZ kv8 7e10=some 5e12:=(lk8.2 _ 4e0).trans c48.md;rw[J5.j.j.md] at YO;refine cO λRI UR=>?_;obtain⟨ya,rfl,Xq⟩:=qW hx (aD.nil J5.j.j.kb);obtain⟨kx,rx,vx,lx,sx⟩:=OZ x;rw[vx] at Xq
   suffices fin:∀(v':V) (h':Hap) (G':Hp),lJ G' v' h'->((0<=h'.m/\h'.m<=1000000000000)/\dU h'.w)->S.take h'=S.take x->Internal.Vk ⟨t.aO,t.aP,t.aJ⟩ b md G2 G' R as sl R2 as4 sl4 A p S S S st vs->R11 [some 3e2,some 0e13,some 2e24,some 3e24,some 8e17,some 1e55,some (.ref st),some 1e51,some 0e6,some v',va] G' by
    exists YO,vm8
    refine λpL m1=>⟨rfl,by decide +kernel,?_⟩;rw[vL];have N1:=q0D (o:=.lst [.str "wait",.str "hear"]) m1;replace J5:=J5.kp N1;replace D5:=D5.kp N1;replace YO:=N1.at YO;replace Xq:=N1.at Xq;generalize UK G8 pL 0e15=G9 at *;split
    ·next hg =>
     exists YO,w3,Xq
     split
     ·next hle =>
      refine UR _ _ ?_
      exists YO,w3,Xq
      have nwb:=P.ft.nw;refine⟨Int.lt_add_one_of_le nwb.1,Int.le_trans (Int.add_le_add_right nwb.2 1) 6e0,_,D5,Λ ln4 6e0,λg G10 XY b10 D10 K10=>?_⟩;obtain⟨_,_,_,ed,_⟩:=D5;have Ye:=J5.kd O5 ed K10;have X2:=K10.at1 Xq (λz=>by rw[z,ed] at Xq;cases Xq)
      exists X2
      refine λpq hpq=>?_;generalize hg:UK G10 pq 3e45=G11;have N2:Kp [] G10 G11:=hg▸Kp.new hpq;have eq2:G11 pq=some 3e45:=hg▸aA;clear hg;replace X2:=N2.at X2;replace Ye:=Ye.kp N2
      exists X2
      obtain⟨c1,c2⟩:=cut2 (.str kx) (.int x.m) rx lx;refine⟨c1,?_⟩;rw[c2];refine λpr hpr=>zW ((q0D hpr).at eq2) aA (by simp only[Ε,ϔ];omega) λps G12 aaY K12=>?_;have Vb:=(Ye.kp (q0D hpr)).kp K12;obtain⟨s1,s2,s3⟩:=sx g;have gl:=Int.le_of_lt_add_one b10;exact fin _ (x.setM g) _ ⟨ps,rfl,by rw[s1];exact aaY⟩ ⟨by rw[s2];exact⟨XY,Int.le_trans gl nwb.2⟩,by rw[s3];exact hf.2⟩ (Kf hg hle gl) Vb
     ·exact fin _ x _ ⟨ya,rfl,by rw[vx];exact Xq⟩ hf rfl J5
    ·exact fin _ x _ ⟨ya,rfl,by rw[vx];exact Xq⟩ hf rfl J5
   clear UR RI J5 D5 YO w1 w2 w3 w4 w5 w6 vm8 c48 lk8 M8 Xq vx sx O5;intro v' h' G9 hA' hf' eT J9;refine aaA _ _ ?_;clear aaA;clear R11;have er9:=J9.j.j.kb.at er;left
   exists J9.j.j.ra.ins,er9,ixy
   refine⟨R,as,_,S,.ref ya,x,302 * i,rfl,J9.j.j.ra,P.ft,w2,P.hn,qW hx (aD.nil J9.j.j.kb),hf,λZq sl5 c uc G10 ZS hc nc ec hC W10=>?_⟩;obtain⟨Ye,T10⟩:=J9.run W10 ZS;have off:=J9.off hc;replace hA':=qW hA' T10;clear J9 W10 ZS er9;wp_walk;right;left
   exists Ye.j.k.ra.ins
   refine⟨R2,as4,_,S,v',h',302 * i,rfl,Ye.j.k.ra,P.ft,w2,P.hn,hA',hf',λas6 sl6 d ud G11 YI hd nd ed hD W11=>?_⟩;rw[eT] at YI hD;obtain⟨XX,T11⟩:=Ye.symm.run W11 YI;replace XX:=XX.symm;replace ec:=W11.kp _ _ ec off.2.1.1 off.2.1.2;replace hC:=hC.kt T11;refine⟨true,jP.rcL (n:=1) (HI (n:=0) hC hD (CC S x).1) ec ed,?_⟩;have Z2:=XX.j.j.kb.at er;clear Ye W11 YI T11 hD ed nd hd hA' hf' eT
   exists Z2,ixy
   refine⟨b,A,S,p,.ref ya,x,302 * i,by rw[XX.j.j.md],XX.j.j.fl,qW hx (aD.nil XX.j.j.kb),hf,P.ft,w8,P.hn,P.sd,Λ hk (Λ w3 6e0),λA' p' op ZK G12 F12 X6 e12 c12 n12 W12 acA=>?_⟩;obtain⟨Vb,T12⟩:=XX.mod W12 F12;replace ec:=W12.kp _ _ ec off.2.2.1.1 0e0;replace hC:=hC.kt T12;wp_walk;refine⟨true,jP.rcL (n:=1) (HI (n:=0) hC c12 (CC S x).1) ec e12,?_⟩;have Wh:=P.take kf hf w3 (by obtain⟨_,M,_⟩:=XX.j.j.fl.ex;exact M.lt);clear XX W12 F12 T12 c12 e12 ec hC X6 n12 off Z2;have U2:=Wh.U2 w4 zb2 w6
   exists Vb.j.j.ra.ins
   refine⟨R,Zq,_,_,rfl,Vb.j.j.ra,Wh.hn,U2.1,U2.2.1,U2.2.2.1,U2.2.2.2.1,U2.2.2.2.2,λv1 G13 VZ ZO=>?_⟩;replace Vb:=Vb.kp ZO
   exists Vb.j.k.ra.ins
   refine⟨R2,as6,_,_,rfl,Vb.j.k.ra,Wh.hn,U2.1,U2.2.1,U2.2.2.1,U2.2.2.2.1,U2.2.2.2.2,λv2 G14 WA K14=>?_⟩;replace Vb:=Vb.kp K14;replace VZ:=VZ.kt (aD.nil K14);obtain⟨u1,rfl⟩:=rW Wh.hn VZ;obtain⟨u2,rfl⟩:=rW Wh.hn WA;wp_walk;refine⟨true,Na (n:=0) Wh.hn VZ WA,?_⟩;clear VZ WA ZO K14;wp_walk;right;left
   exists Vb.j.j.ra.ins
   refine⟨R,Zq,_,_,rfl,Vb.j.j.ra,?_⟩
   exists Vb.j.k.ra.ins
   refine⟨R2,as6,_,_,rfl,Vb.j.k.ra,?_⟩;have z1:=Vb.j.j.ra.slp;have z2:=Vb.j.k.ra.slp;obtain⟨u1,rfl⟩:=AO Wh.hn z1;obtain⟨u2,rfl⟩:=AO Wh.hn z2;wp_walk;refine⟨true,JJ (n:=0) Wh.hn z1 z2,?_⟩
   exists Vb.j.j.ra.ins
   refine⟨R,Zq,_,_,rfl,Vb.j.j.ra,U2.1,λl1 m1=>?_⟩;have N1:=q0D (o:=.lst 8e6) m1;have e1:UK G14 l1 (.lst 8e6) l1=some (.lst 8e6):=aA;replace Vb:=Vb.kp N1;generalize UK G14 l1 (.lst 8e6)=G15 at *
   exists Vb.j.k.ra.ins
   refine⟨R2,as6,_,_,rfl,Vb.j.k.ra,U2.1,λl2 m2=>?_⟩;have N2:=q0D (o:=.lst 8e6) m2;have e2:UK G15 l2 (.lst 8e6) l2=some (.lst 8e6):=aA;replace Vb:=Vb.kp N2;replace e1:=N2.at e1;generalize UK G15 l2 (.lst 8e6)=G16 at *;wp_walk;refine⟨true,jP.rcL (n:=0) (jP.refl (mF _)) e1 e2,?_⟩;clear N1 N2 m1 m2 e1 e2 z1 z2;wp_walk;right;have sm:=NT (S6.of Wh Vb.j.j.fl zb2 w5 (Λ Vb.j.j.ra.wk.U2 6e0) (λq hq=>Vb.j.j.ra.tk.la q hq))
   exists Vb.j.j.ra.ins,Vb.es
   refine⟨R,Zq,_,_,rfl,Vb.j.j.ra,Wh.hn,U2.1,U2.2.1,U2.2.2.1,U2.2.2.2.1,U2.2.2.2.2,λv1 G17 VZ K17=>?_⟩;replace Vb:=Vb.kp K17
   exists Vb.j.j.ra.ins
   refine⟨R,Zq,_,_,rfl,Vb.j.j.ra,Wh.hn,U2.1,U2.2.1,U2.2.2.1,U2.2.2.2.1,U2.2.2.2.2,λv2 G18 WA K18=>?_⟩;replace Vb:=Vb.kp K18;replace VZ:=VZ.kt (aD.nil K18);obtain⟨u1,rfl⟩:=rW Wh.hn VZ;obtain⟨u2,rfl⟩:=rW Wh.hn WA;wp_walk;refine⟨u2,_,rfl,Nl WA,sm.s,sm.h,Λ sm.p 6e0,Λ sm.z 6e47,λpz hz=>?_⟩;have Nz:=q0D (o:=.tup [.ref u1,.str (S.take x).1.dat.shown]) hz;have S19:S20 (UK G18 pz 3e39) (.ref pz):=⟨pz,u1,_,rfl,aA,VZ.kt (aD.nil Nz),sm⟩;replace Vb:=Vb.kp Nz;generalize UK G18 pz 3e39=G19 at *;rw[Vb.es];refine⟨by rw[Γ2];omega,?_⟩;show Pv 6e1 _ _;rw[UT,show(takes 9e0 (hs.take 6e1)).1=(S.take x).1 by rw[es]];exact⟨_,_,_,_,Zq,as6,_,_,A',p',vs++[.ref pz],rfl,Vb.app S19,Wh,by omega,by simp;omega⟩
  intro Z G h;rw[UT] at h;obtain⟨v7,v8,v9,va,as,U8,sl,U5,A,p,vs,rfl,J,P,hk,lvs⟩:=h;right
  exists J.es
  refine⟨⟨_,fV.of J.es⟩,Bz (ys:=vs) (λi xs H'=>xs=[]/\H'=G) ⟨rfl,rfl⟩ ?_ ?_ ?_ ?_⟩
  ·rintro i xs H' ⟨rfl,rfl⟩;simp
  ·rintro i xs H' ⟨rfl,rfl⟩;exact fV.of J.es
  ·rintro i y xs H' hi hy ⟨rfl,rfl⟩;obtain⟨q1,a1,d,rfl,e1,e2,e3⟩:=J.al y (ϒ hy);refine⟨q1,_,_,rfl,iR.of e1,?_⟩
   exists bC,Β1
   refine⟨a1,_,rfl,Nl e2,e3.s,e3.h,Λ e3.p 6e0,Λ e3.z 6e47,?_⟩;wp_walk
  ·rintro xs H' ⟨rfl,rfl⟩ p1 h1 p2 h2;have N2:=q0D (o:=.lst []) h2;refine⟨true,AJ (n:=0) (N2.at aA) aA rfl 0e0,?_⟩;exact q _
end
end
def Kl{q:Program}{K:Params->q0B}{t:Nat}{r:PySem.W.RowW}{d:DefRec}{kwd:List (Str×Expr)}{run:Value->List Value->Sem Value}(e:∀P:Params,as=List.map (λx=>x.fst) (K P))(H:PySem.W.WalkO q loose XP (PySem.W.kHook K as e).says r d kwd run):PySem.W.WalkX q loose XP (PySem.W.X.obsZ as) (PySem.W.X.valZ K n t) r d kwd run:=λw s₀ s₁ mg mb G y a o pm cd doc dV kV h1 h2 h3 h4 h5 h6 args vals bs L=>by
 obtain⟨_,f,_,_⟩:=PySem.W.X.z_facts e y;exact H w s₀ s₁ mg mb G (show PySem.W.InK K w s₁.heap from λp ob hp=>L.keeps _ _ (f p ob hp)) a o pm cd doc dV kV h1 h2 h3 h4 h5 h6 args vals bs
theorem cG{p:Prop}{l:List Prop}(h:p)(g:∀i,l.getD i True):∀i,(p::l).getD i True
 | 0=>h
 | i+1=>g i
section
open PySem.W
def Nt{l:OpenLaw}{w:World}{K:Frag}{h:Heap}{fa:Addr}(X:K.In h)(G:h.Ns mainGlobals mg)(hfa:mg "law"=some (.ref fa)){f0 f1 f2 f3 f4 f5 f6 f7 f8 f9 f10 f11 f12 f13 f14 f15 f16 f17 f18 f19 f20 f21 f22 f23 f24 f25 f26 f27 f28 f29 f30 f31 f32 f33 f34 f35 f36 f37 f38 f39 f40 f41 f42 f43 f44 f45 f46 f47 f48 f49 Yi f51 f52 f53 f54 f55 f56 f57 f58 f59 f60 f61 f62 f63 f64 f65 f66 f67 f68:Addr}{d0 d1 d2 d3 d4 d5 d6 d7 d8 d9 d10 d11 d12 d13 d14 d15 d16 d17 d18 d19 d20 d21 d22 d23 d24 d25 d26 d27 d28 d29 d30 d31 d32 d33 d34 d35 d36 d37 d38 d39 d40 d41 d42 d43 d44 d45 d46 d47 d48 d49 d50 d51 d52 d53 d54 d55 d56 d57 d58 d59 d60 d61 d62 d63 d64 d65 d66 d67 d68:FuncData}{aJ:Addr}{aP:Addr}{aO:Addr}{tk0:Tok}{tk1:Tok}{tk2:Tok}{Xh:Addr}{te3:Array DictEntry}{tn3:Nat}(WH:nsIn K mainGlobals "Tickets"=some (some (.ref aJ)))(WU:plainGet K aJ Str.empty=true)(WM:hasDictIn K aJ=true)(WV:plainOver K aJ=true)(WW:findIn K (.ref aJ) "__setattr__"=some (some (.builtin "object.__setattr__")))(rD:makesIn K aJ=true)(WR:keepIn K (.ref aJ)=true)(YK:nsIn K mainGlobals "Walk"=some (some (.ref aP)))(Zh:plainGet K aP Str.empty=true)(YV:hasDictIn K aP=true)(Zi:plainOver K aP=true)(Zk:findIn K (.ref aP) "__setattr__"=some (some (.builtin "object.__setattr__")))(Dd:makesIn K aP=true)(Y7:keepIn K (.ref aP)=true)(ZT:nsIn K mainGlobals "Run"=some (some (.ref aO)))(aaP:plainGet K aO Str.empty=true)(aaD:hasDictIn K aO=true)(aaQ:plainOver K aO=true)(aaR:findIn K (.ref aO) "__setattr__"=some (some (.builtin "object.__setattr__")))(Et:makesIn K aO=true)(aaJ:keepIn K (.ref aO)=true)(F0:Gf0 K "kept" JC f0 d0)(F1:Gf0 K "worth_of" zS f1 d1)(F2:Gf0 K "joined" Ce f2 d2)(F3:Gf0 K "number_of" wZ f3 d3)(F4:Gf0 K "one_or_nought" oI f4 d4)(F5:Gm0 K aJ "__init__" "Tickets.__init__" oF f5 d5)(F6:Gm0 K aJ "make" "Tickets.make" oG f6 d6)(F7:Gm0 K aJ "is_open" "Tickets.is_open" lR f7 d7)(F8:Gm0 K aJ "those_open" "Tickets.those_open" jO f8 d8)(F9:Gm0 K aJ "finish" "Tickets.finish" lQ f9 d9)(F10:Gm0 K aJ "shut" "Tickets.shut" oH f10 d10)(F11:Gm0 K aJ "shut_all" "Tickets.shut_all" kL f11 d11)(F12:Gm0 K aJ "first_done" "Tickets.first_done" jN f12 d12)(F13:Gm0 K aP "__init__" "Walk.__init__" wU f13 d13)(F14:Gm0 K aP "come_to" "Walk.come_to" qE f14 d14)(F15:Gm0 K aP "stands_at" "Walk.stands_at" mR f15 d15)(F16:Gm0 K aP "pass_by" "Walk.pass_by" qF f16 d16)(F17:Gm0 K aP "enter" "Walk.enter" sM f17 d17)(F18:Gm0 K aP "leave" "Walk.leave" sN f18 d18)(F19:Gm0 K aP "place" "Walk.place" sO f19 d19)(F20:Gf0 K "do_set" EK f20 d20)(F21:Gf0 K "do_order" zK f21 d21)(F22:Gf0 K "do_timer" zL f22 d22)(F23:Gf0 K "do_send" Cc f23 d23)(F24:Gf0 K "do_drop" Ca f24 d24)(F25:Gf0 K "do_wait" Cd f25 d25)(F26:Gf0 K "do_hear" Cb f26 d26)(F27:Gf0 K "do_end" EJ f27 d27)(F28:Gm0 K aO "__init__" "Run.__init__" zG f28 d28)(F29:Gm0 K aO "waits" "Run.waits" wQ f29 d29)(F30:Gm0 K aO "open_tickets" "Run.open_tickets" kK f30 d30)(F31:Gm0 K aO "state" "Run.state" wO f31 d31)(F32:Gm0 K aO "take" "Run.take" zI f32 d32)(F33:Gm0 K aO "passes_over" "Run.passes_over" lO f33 d33)(F34:Gm0 K aO "take_done" "Run.take_done" oE f34 d34)(F35:Gm0 K aO "take_letter" "Run.take_letter" lP f35 d35)(F36:Gm0 K aO "wake" "Run.wake" zJ f36 d36)(F37:Gm0 K aO "go_on" "Run.go_on" zF f37 d37)(F38:Gm0 K aO "do_one" "Run.do_one" wN f38 d38)(F39:Gm0 K aO "look" "Run.look" zH f39 d39)(F40:Gm0 K aO "end" "Run.end" B9 f40 d40)(F41:Gm0 K aO "wear_out" "Run.wear_out" qD f41 d41)(F42:Gm0 K aO "worth" "Run.worth" wR f42 d42)(F43:Gm0 K aO "new_ticket" "Run.new_ticket" mQ f43 d43)(F44:Gf0 K "_law_deck" zM f44 d44)(F45:Gf0 K "_law_pick" zQ f45 d45)(F46:Gf0 K "_law_name" zO f46 d46)(F47:Gf0 K "_law_worth" wY f47 d47)(F48:Gf0 K "_law_saying" sS f48 d48)(F49:Gf0 K "_law_plain" wW f49 d49)(F50:Gf0 K "_law_simple" sU Yi d50)(F51:Gf0 K "_law_closed" sP f51 d51)(F52:Gf0 K "_law_program" qI f52 d52)(F53:Gf0 K "_law_bounded" qG f53 d53)(F54:Gf0 K "_law_says" zR f54 d54)(F55:Gf0 K "_law_flat" zN f55 d55)(F56:Gf0 K "_law_new" Cf f56 d56)(F57:Gf0 K "_law_ticket" sV f57 d57)(F58:Gf0 K "_law_ended" wV f58 d58)(F59:Gf0 K "_law_do_plain" qH f59 d59)(F60:Gf0 K "_law_do_wait" sR f60 d60)(F61:Gf0 K "_law_do_hear" sQ f61 d61)(F62:Gf0 K "_law_go" EL f62 d62)(F63:Gf0 K "_law_goes_behind" lT f63 d63)(F64:Gf0 K "_law_takes" wX f64 d64)(F65:Gf0 K "_law_happening" mS f65 d65)(F66:Gf0 K "_law_row" Cg f66 d66)(F67:Gf0 K "_law_over" zP f67 d67)(F68:Gf0 K "law" MV f68 d68)(rE:findIn K (.ref aJ) "made"=some none)(gS:findIn K (.ref aJ) "pending"=some none)(gQ:findIn K (.ref aJ) "answers"=some none)(iQ:findIn K (.ref aP) "blocks"=some none)(fE:findIn K (.ref aP) "numbers"=some none)(jG:findIn K (.ref aO) "walk"=some none)(dH:findIn K (.ref aO) "sleep"=some none)(y9:findIn K (.ref aO) "arg"=some none)(pP:findIn K (.ref aO) "now"=some none)(gD:findIn K (.ref aO) "names"=some none)(cQ:findIn K (.ref aO) "tickets"=some none)(gR:findIn K (.ref aO) "letters"=some none)(v0:nsIn K mainGlobals "GREATEST_WORTH"=some (some (.int 1000000000 tk0)))(v1:nsIn K mainGlobals "GREATEST_MOMENT"=some (some (.int 1000000000000 tk1)))(v2:nsIn K mainGlobals "MOST_AT_ONCE"=some (some (.int 300 tk2)))(v3:nsIn K mainGlobals "DEEDS"=some (some (.ref Xh)))(u3:K.lookup Xh=some {cls:=.type "dict",data:=.dict te3 tn3})(abM:nsIn K Xh "set"=some (some (.ref f20)))(abN:nsIn K Xh "order"=some (some (.ref f21)))(abO:nsIn K Xh "timer"=some (some (.ref f22)))(abP:nsIn K Xh "child"=some (some (.ref f21)))(abQ:nsIn K Xh "send"=some (some (.ref f23)))(abR:nsIn K Xh "drop"=some (some (.ref f24)))(abS:nsIn K Xh "wait"=some (some (.ref f25)))(abT:nsIn K Xh "hear"=some (some (.ref f26)))(abU:nsIn K Xh "end"=some (some (.ref f27)))(Kn:nsIn K mainGlobals "dict"=some none)(yJ:nsIn K mainGlobals "int"=some none)(lH:nsIn K mainGlobals "len"=some none)(A8:nsIn K mainGlobals "max"=some none)(Hc:nsIn K mainGlobals "min"=some none)(r8:nsIn K mainGlobals "range"=some none)(Fn:nsIn K mainGlobals "repr"=some none)(MB:nsIn K mainGlobals "set"=some none)(nS:nsIn K mainGlobals "sorted"=some none)(iB:nsIn K mainGlobals "tuple"=some none)(kl3:KeysLit w.params te3.toList) : ∃fd:FuncData,(∀(s:Shared) (v:Value),BindsTo s fd ⟨[v],[]⟩ [("script",v)])/\∀base:Heap,K.In base->base.Ns mainGlobals mg->gH l.prog w K mg base VD 40 fa fd ["script"] (ET K):=by
 have e:=hfa.symm.trans (mg_of X G F68.a);cases e;refine⟨d68,?_,λbase _ _=>Pz (?_:Tx l.prog w base K mg ⟨λi=>[f0,f1,f2,f3,f4,f5,f6,f7,f8,f9,f10,f11,f12,f13,f14,f15,f16,f17,f18,f19,f20,f21,f22,f23,f24,f25,f26,f27,f28,f29,f30,f31,f32,f33,f34,f35,f36,f37,f38,f39,f40,f41,f42,f43,f44,f45,f46,f47,f48,f49,Yi,f51,f52,f53,f54,f55,f56,f57,f58,f59,f60,f61,f62,f63,f64,f65,f66,f67,fa].getD i fa,λi=>[d0,d1,d2,d3,d4,d5,d6,d7,d8,d9,d10,d11,d12,d13,d14,d15,d16,d17,d18,d19,d20,d21,d22,d23,d24,d25,d26,d27,d28,d29,d30,d31,d32,d33,d34,d35,d36,d37,d38,d39,d40,d41,d42,d43,d44,d45,d46,d47,d48,d49,d50,d51,d52,d53,d54,d55,d56,d57,d58,d59,d60,d61,d62,d63,d64,d65,d66,d67,d68].getD i d0,tk0,tk1,tk2,Xh,aJ,aP,aO⟩)⟩
 ·obtain⟨_,_,_,_,_,_,_,_,_,rfl,_⟩:=F68.F.ex;exact λs v=>.of_eq rfl
 ·exact⟨cG (F0.go X G) (cG (F1.go X G) (cG (F2.go X G) (cG (F3.go X G) (cG (F4.go X G) (cG F5.go (cG F6.go (cG F7.go (cG F8.go (cG F9.go (cG F10.go (cG F11.go (cG F12.go (cG F13.go (cG F14.go (cG F15.go (cG F16.go (cG F17.go (cG F18.go (cG F19.go (cG (F20.go X G) (cG (F21.go X G) (cG (F22.go X G) (cG (F23.go X G) (cG (F24.go X G) (cG (F25.go X G) (cG (F26.go X G) (cG (F27.go X G) (cG F28.go (cG F29.go (cG F30.go (cG F31.go (cG F32.go (cG F33.go (cG F34.go (cG F35.go (cG F36.go (cG F37.go (cG F38.go (cG F39.go (cG F40.go (cG F41.go (cG F42.go (cG F43.go (cG (F44.go X G) (cG (F45.go X G) (cG (F46.go X G) (cG (F47.go X G) (cG (F48.go X G) (cG (F49.go X G) (cG (F50.go X G) (cG (F51.go X G) (cG (F52.go X G) (cG (F53.go X G) (cG (F54.go X G) (cG (F55.go X G) (cG (F56.go X G) (cG (F57.go X G) (cG (F58.go X G) (cG (F59.go X G) (cG (F60.go X G) (cG (F61.go X G) (cG (F62.go X G) (cG (F63.go X G) (cG (F64.go X G) (cG (F65.go X G) (cG (F66.go X G) (cG (F67.go X G) (cG (F68.go X G) (λ_=>trivial))))))))))))))))))))))))))))))))))))))))))))))))))))))))))))))))))))),⟨WU,WM,WV,WW⟩,(mg_of X G WH),⟨rD,F5.a,F5.i,WR⟩,⟨Zh,YV,Zi,Zk⟩,(mg_of X G YK),⟨Dd,F13.a,F13.i,Y7⟩,⟨aaP,aaD,aaQ,aaR⟩,(mg_of X G ZT),⟨Et,F28.a,F28.i,aaJ⟩,rE,gS,gQ,iQ,fE,jG,dH,y9,pP,gD,cQ,gR,(mg_of X G v0),(mg_of X G v1),(mg_of X G v2),(mg_of X G v3),⟨_,_,u3,kl3⟩,abM,abN,abO,abP,abQ,abR,abS,abT,abU,(mg_none_of X G Kn),(mg_none_of X G yJ),(mg_none_of X G lH),(mg_none_of X G A8),(mg_none_of X G Hc),(mg_none_of X G r8),(mg_none_of X G Fn),(mg_none_of X G MB),(mg_none_of X G nS),(mg_none_of X G iB)⟩
end
theorem walk{l:PySem.W.OpenLaw}{q:Program}{YP:World->Heap->Prop}{d:DefRec}{K:Params->q0B}(hn:l.most=some 63)(hdf:d.params.defaults=[])(hY:∀(w:World) (h:Heap),YP w h->(K w.params).In h)(F:∀(w:World) (mg:q0C) (fa:Addr) (h:Heap),(K w.params).In h->h.Ns mainGlobals mg->mg d.name=some (.ref fa) -> ∃fd:FuncData,(∀(s:Shared) (u:Value),BindsTo s fd ⟨[u],[]⟩ [("script",u)])/\∀base:Heap,(K w.params).In base->base.Ns mainGlobals mg->gH l.prog w (K w.params) mg base VD 40 fa fd ["script"] (ET (K w.params))) : PySem.W.WalkO q loose XP YP l.row.toRowW d [] (λf vs=>PySem.call f vs) :=
 Lake.MA (n:=63) (k:=40) (x:="script") (CX:=λ_=>VD) (sp:=λw=>ET (K w.params)) hn (by decide) hdf ⟨rfl,by decide,by decide,rfl⟩ hY F (λ_ _ a ns hl _ hS=>⟨a,ns,rfl,hS,hl,λ_=>rfl⟩) λ_ _ _ _ _ z=>z
end Internal
open PySem PySem.W PyProof.Rows
set_option maxRecDepth 100000 in
set_option maxHeartbeats 0 in
theorem PySem.Challenge.cw_outlast_k20_whole_alike_states_go_on_ali_holds : PySem.Challenge.rw_outlast_k20_whole_alike_states_go_on_ali.Holds := by
 w_on;o_law;z_head;(case hw=>w_witness2)
 k_fill
 refine Internal.Kl (λ_=>rfl) ?_;refine Internal.walk (l:=PySem.Challenge.rw_outlast_k20_whole_alike_states_go_on_ali) rfl rfl (λw h Y=>PySem.W.kIn_of Y) ?F
 case F =>
  intro w mg fa h KX G hmg;apply Internal.Nt KX G hmg
  iterate 126 (first|(apply Internal.Rx<;>k_is)|(apply Internal.Ry<;>k_is)|k_is)
  exact⟨⟨_,_,rfl,rfl⟩,⟨_,_,rfl,rfl⟩,⟨_,_,rfl,rfl⟩,⟨_,_,rfl,rfl⟩,⟨_,_,rfl,rfl⟩,⟨_,_,rfl,rfl⟩,⟨_,_,rfl,rfl⟩,⟨_,_,rfl,rfl⟩,⟨_,_,rfl,rfl⟩,trivial⟩
