import PyProof.Rows.All
import Wide.All
import OpenK.AllK
import Wide.FinOn
import Lean
import PyProof.EqAt
import PyProof.EqKinds
import PyProof.TupleCall
import PySem.Challenge.RW_outlast_k10_whole_one_text_one_program
set_option Elab.async false
set_option linter.all false
set_option maxRecDepth 100000
local macro_rules | `(tactic| omega) => `(tactic| first | assumption | lia | omega +splitDisjunctions)
namespace PySem.W.Fast
def tw7830649942328069398:=0
def tw10636122635405252754:=0
def tw15929181117229530779:=0
def tw2968667494268441029:=0
def tw15036770844191732707:=0
def tw4166355127645684064:=0
def tw17875954740427525092:=0
def tw10765920909267699814:=0
def tw13682682785678375096:=0
def tw12548311832081445173:=0
def tw11120631825835911606:=0
def tw8787675543995413613:=0
def tw14663263969452699889:=0
def tw12745230742723004138:=0
def tw1219444594632628239:=0
def tw12674548523352809091:=0
def tw5791733807090435546:=0
def tw10880051824576721196:=0
def tw10351150843912867162:=0
def tw4704318000238554579:=0
def tw15310030718760655333:=0
def tw16119007482823245343:=0
def tw13201594955804113731:=0
def tw7955309934984329445:=0
def tw12287420302563608495:=0
def tw17364855228668321707:=0
def tw18084909077016643952:=0
def tw17909401094903456488:=0
def tw10044631502587362322:=0
def tw3252073386107743868:=0
def tw16526398908484986895:=0
def tw16712803500048823539:=0
def tw461162597670450779:=0
def tw946675975219936115:=0
def tw1352649332253758428:=0
def tw15097486867529463635:=0
def tw15190746932937424623:=0
def tw466812720861703332:=0
def tw14171856484708967563:=0
def tw8660311479141751666:=0
def tw445647502493253249:=0
def tw7737021675107749907:=0
def tw7477963082422751335:=0
def tw12623723992032577822:=0
def tw13752601497157545416:=0
def tw13416181811567918736:=0
def tw16192919109746597327:=0
def tw780878342175229622:=0
def tw10462999753898510028:=0
def tw8836322407530057174:=0
def tw5385130848006547414:=0
def tw14467815125915654702:=0
def tw1167699701871974203:=0
def tw12580071122978584281:=0
def tw15345512196287469180:=0
def tw10158541107585100990:=0
def tw3246403939737661850:=0
def tw16773431277831707162:=0
def tw13596488268590795876:=0
def tw2903942340642930208:=0
def tw13498637046558053695:=0
def tw8923939177806229443:=0
def tw17713381922152968239:=0
def tw11536508885006174521:=0
def tw13361303691254732650:=0
def tw8794074794926268586:=0
def tw1958799665452410726:=0
def tw17777608890035187837:=0
def tw14745522298270835633:=0
def tw15155665841814041601:=0
def tw5286861183974372573:=0
def tw18426528785951732334:=0
def tw11068614588659580777:=0
def tw11133341173586554712:=0
def tw18296990079182620629:=0
def tw853356398170783546:=0
def tw3704971587327842106:=0
def tw2361104102359426726:=0
def tw12751046742334122429:=0
def tw6673129211963054250:=0
def tw2180230921728381083:=0
def tw12348843421133293356:=0
def tw4774220275926266409:=0
def tw10038893400382573807:=0
def tw8480468882098348942:=0
def tw655583068773414073:=0
def tw17543995129554116791:=0
def tw3694609424249540450:=0
def tw959405047204325131:=0
def tw4628698344961732966:=0
def tw13552637288585900372:=0
def tw16398987068949840490:=0
def tw7225322311436576306:=0
def tw16045945808251982855:=0
def tw992706717709853358:=0
def tw9383652521466745687:=0
def tw17428531505918442013:=0
def tw17366690543823150333:=0
def tw985720204866727709:=0
def tw14994524575356492283:=0
def tw14854879105741696506:=0
def tw1193784351295920891:=0
def tw6989457455768994533:=0
def tw2803078387918818972:=0
def tw11685272778454329703:=0
def tw3369280917546052844:=0
def tw9337684803900243254:=0
def tw9978975105457053107:=0
def tw7328455489094328850:=0
def tw12439932666025318584:=0
def tw16628785589886582410:=0
def tw14746850329639897998:=0
def tw3455510061249833058:=0
def tw12727260067257578708:=0
def tw15526751538633463101:=0
def tw15752762486265231022:=0
def tw3318981941279344365:=0
def tw2108143088323419273:=0
def tw14039731799986521676:=0
def tw4205742470489502100:=0
def tw8658174164684136997:=0
def tw14316933809980786904:=0
def tw15065400670439925725:=0
def tw13546237436362071056:=0
def tw5788431198936520018:=0
def tw15372348319345445128:=0
def tw8861115293905259697:=0
def tw1679506747933443969:=0
def tw9754530639364438361:=0
def tw8332225522036356299:=0
def tw14522523311834383217:=0
def tw850375696888236883:=0
def tw3561139664528698694:=0
def tw14022876529804379198:=0
def tw5873780085244604214:=0
def tw4903248664516061627:=0
def tw7199451681089622141:=0
def tw12170036011208166800:=0
def tw11030089631274311467:=0
def tw4816875323076531316:=0
def tw10109039545190370136:=0
def tw1236476436395691731:=0
def tw2034779865058504720:=0
def tw17567172899539068260:=0
def tw16003033416384043657:=0
def tw15928884418676309127:=0
def tw14044005304138562174:=0
def tw13804869850461268624:=0
def tw12724251664498000439:=0
def tw15822101904676791303:=0
def tw10178070958682366415:=0
def tw8214561284881846221:=0
def tw14466491788742255806:=0
def tw11362019198368480513:=0
def tw9774782211698024645:=0
def tw8616077170908051301:=0
def tw15112651166225789147:=0
def tw14657716086095152649:=0
def tw17765036639011800767:=0
def tw1817097643917472142:=0
def tw15474040773674449248:=0
def tw5293275166333057201:=0
def tw11199322539298430403:=0
def tw17831607423820461909:=0
def tw10227073505842282843:=0
def tw4561918754689021988:=0
def tw4198133090284550172:=0
def tw14353092182073147931:=0
def tw1928933418703386374:=0
def tw13857360715511632274:=0
def tw10279786621854277538:=0
def tw9175495935062861138:=0
def tw140000939879348745:=0
def tw17920607494511171823:=0
def tw5342051920783873170:=0
def tw17229969510559355785:=0
def tw11803477363944089241:=0
def tw6717580974919439684:=0
def tw3559869064226085094:=0
def tw2866275153058299275:=0
def tw15410580054373651527:=0
def tw2359272122512872711:=0
def tw10975493010566004171:=0
def tw8891280140737538310:=0
def tw6378140334595118024:=0
def tw3118145910256514746:=0
def tw16767595840091498944:=0
def tw12947672975779973245:=0
def tw10154740525088640460:=0
def tw16055648507489311955:=0
def tw13781231163459780281:=0
def tw1344901279404940393:=0
def tw13310891559854333526:=0
def tw12512090904655685535:=0
def tw5500006859993195249:=0
def tw3323781608541446891:=0
def tw17041291492577416874:=0
def tw12580333011721445553:=0
def tw7921115624150082909:=0
def tw4883573642808432211:=0
def tw12716323162760791590:=0
def tw5046037514527035543:=0
def tw9838446597481850991:=0
def tw4849218214708026939:=0
def tw317447451188313213:=0
def tw3137869465014267482:=0
def tw17545239547239485816:=0
def tw11489446355242610465:=0
def tw4056629297458881887:=0
def tw10180904317343624658:=0
def tw1689026173557587581:=0
def tw2777601119752128400:=0
def tw865999963666330904:=0
def tw6644418968482543111:=0
def tw15558931657454514838:=0
def tw3488844686441828881:=0
def tw4180415842418922946:=0
def tw16911113971453578269:=0
def tw16679197745906774065:=0
def tw4069072699377769894:=0
def tw5404133799106910781:=0
def tw433766952508480421:=0
def tw10097573053765601243:=0
def tw9567088657328668573:=0
def tw13199546950530470734:=0
def tw4416402196138873148:=0
def tw2777364293626869339:=0
def tw3804052757515562268:=0
def tw4178653723131944117:=0
def tw10991492492541037773:=0
def tw2639024227375321862:=0
def tw11727206250057102421:=0
def tw15680670290248917228:=0
def tw15409563382759766853:=0
def tw14195192898996930722:=0
def tw401743133366237040:=0
def tw8646410149906707016:=0
def tw14255449080965021317:=0
def tw881617721519036504:=0
def tw15523330601618084371:=0
def tw5128538330572524196:=0
def tw2620983567402636261:=0
def tw11918667673820812732:=0
def tw13985364840074895408:=0
def tw15241243253588642195:=0
def tw9262370598055147942:=0
def tw9134199103333801738:=0
def tw17247476669105231695:=0
def tw1045551205876249388:=0
def tw111090220064244978:=0
def tw7337679482752837351:=0
def tw13274653518622953482:=0
def tw9829235259650989680:=0
def tw9631538655461203300:=0
def tw994435887570702020:=0
def tw8034094000787147032:=0
def tw2891906255383587382:=0
def tw2872883022507775221:=0
def tw16172114573688650341:=0
def tw13820189692868431936:=0
def tw13799380117646482142:=0
def tw11376546092036751609:=0
def tw17504965820347381626:=0
def tw7691606236173720838:=0
def tw6481779788386638589:=0
def tw5959216030685343395:=0
def tw4550026574728986786:=0
def tw10384135142299552151:=0
def tw10007298493088825127:=0
def tw12507610499601036204:=0
def tw2537493717612877501:=0
def tw5982917853628617866:=0
def tw5963956471244443061:=0
def tw18079149056163095832:=0
def tw16843997140093588537:=0
def tw16619258196095703839:=0
def tw6931465891688057800:=0
def tw5746958113333588871:=0
def tw516679086084741083:=0
def tw2255814766360418086:=0
def tw8019934542853272379:=0
def tw748811782534591080:=0
def tw7013972961213779212:=0
def tw696121948482921501:=0
def tw695193971036601403:=0
def tw5534556949505349696:=0
def tw5035935897297227253:=0
def tw4609463036677146978:=0
def tw3570277418898513835:=0
def tw1358370527095216868:=0
def tw10745447078754751076:=0
def tw9542430806599130840:=0
def tw6614795510114890374:=0
def tw2280268270057269240:=0
def tw16412978604116875722:=0
def tw15869470562154846676:=0
def tw15604565958088658119:=0
def tw14983799852902408438:=0
def tw13386924410377420633:=0
def tw1331230005012117324:=0
def tw12782844434778552527:=0
def tw5584997856365917588:=0
def tw9880688048341910052:=0
def tw9071527179896841799:=0
def tw7444180685803130089:=0
def tw6934444014749575479:=0
def tw436499436173317845:=0
def tw2336453947981281461:=0
def tw17105195061348891829:=0
def tw15811994163457711480:=0
def tw9302610752683354988:=0
def tw8083679247350152965:=0
def tw5791039663662562730:=0
def tw514488065642027505:=0
def tw2402383649799292187:=0
def tw212986640972807028:=0
def tw17725023189792775569:=0
def tw15546211530435806974:=0
def tw1486177593481534185:=0
def tw13258671124429691122:=0
def tw9976850459571634147:=0
def tw9878977737370351986:=0
def tw9871870041328798242:=0
def tw969208385064354029:=0
def tw963138661926731763:=0
def tw9464392645496320765:=0
def tw9446687191676103630:=0
def tw9432973745520436963:=0
def tw9257810241568969444:=0
def tw918541065834656459:=0
def tw9148733668477514042:=0
def tw8795016730961966291:=0
def tw8529809646717106869:=0
def tw8372624400386841619:=0
def tw8091996949335839541:=0
def tw8044946605108726811:=0
def tw7987085560015033084:=0
def tw7964968965834401521:=0
def tw7890712224938068869:=0
def tw7854602008958384346:=0
def tw7626267821431667597:=0
def tw7593934241838175342:=0
def tw7411841768120066622:=0
def tw7401487010758736634:=0
def tw705231850579013608:=0
def tw6996902118802402663:=0
def tw6536821133718349969:=0
def tw652579072250618258:=0
def tw6436688485423898411:=0
def tw6296628339463101691:=0
def tw6227202552135307336:=0
def tw5949515396564003988:=0
def tw5907893517183494523:=0
def tw5859941420490726301:=0
def tw5420018214286869752:=0
def tw5400845937951450215:=0
def tw5370863317261362480:=0
def tw5202874335852956962:=0
def tw4915795450766015631:=0
def tw4866998419316745661:=0
def tw4764989867474852683:=0
def tw4532122065957502734:=0
def tw4499219893035378331:=0
def tw3927728180182243526:=0
def tw304128479413657884:=0
def tw296422019362952086:=0
def tw2837214153366999460:=0
def tw2742572557689074892:=0
def tw2590273423473858551:=0
def tw2356403491396574699:=0
def tw204532119270117509:=0
def tw2025372851769086653:=0
def tw1927918519926081993:=0
def tw1894401395174966238:=0
def tw1858278483919500824:=0
def tw17636882427431368284:=0
def tw17359501276449300383:=0
def tw17269199990348373206:=0
def tw17084679831880895172:=0
def tw16887727688869202884:=0
def tw16661230929157894310:=0
def tw16216170866270756554:=0
def tw16172859125580759072:=0
def tw16018308989762830488:=0
def tw15787155903293893889:=0
def tw15655297748845662888:=0
def tw15629470670425309414:=0
def tw1556465087531995893:=0
def tw15527341145438073153:=0
def tw15524003708483057500:=0
def tw15393816838987331291:=0
def tw15364873648173683520:=0
def tw1528609014280256045:=0
def tw14944373090658821066:=0
def tw14737773379646150634:=0
def tw14659246213853050629:=0
def tw14271027504570108028:=0
def tw13790699078484598074:=0
def tw13705433830933964384:=0
def tw13542724197052882550:=0
def tw13316684996281820625:=0
def tw13057922553019709241:=0
def tw13050042595427860479:=0
def tw12585739278093296669:=0
def tw12565777831619080634:=0
def tw12381043911061914981:=0
def tw12373071449793278824:=0
def tw12270027408392966505:=0
def tw12060167629052931949:=0
def tw11838873729454029959:=0
def tw11612276328458435569:=0
def tw1154661341666070785:=0
def tw11396560443168666000:=0
def tw11393402760729640834:=0
def tw10973972091909670996:=0
def tw10899109335483996205:=0
def tw10609344970047879708:=0
def tw10261379743874315181:=0
def tw10218011710138494820:=0
end PySem.W.Fast
abbrev q0A:=PySem.Value->PySem.Shared->Prop
abbrev q0B:=PySem.W.Frag
abbrev q0C:=PySem.Str->Option PySem.Value
namespace L2
open PySem PySem.Spec PyProof.Rows
inductive Key where
 | inl (i:Int)|inr (x:Str)|no
 deriving DecidableEq
noncomputable def An:Key->Value->Bool
 | .inl k,v=>Value.isInt k v
 | .inr x,v=>Value.isStrOf x v
 | .no,.none=>true
 | .no,_=>false
noncomputable def TU(w:World):Key->Int
 | .inl k=>hashInt k
 | .inr x=>hashStr w x
 | .no=>reduceHash 0xFCA86420
theorem eU:∀ {k:Key} {v:Value},An k v=true->(∃ i t,k=Key.inl i/\v=Value.int i t)\/(∃ x t,k=Key.inr x/\v=Value.str x t)\/(k=Key.no/\v=Value.none)
 | .inl i,v,h=>by
  obtain⟨t,e⟩:=Value.isInt_shape (k:=i) (v:=v) h;exact .inl ⟨i,t,rfl,e⟩
 | .inr x,v,h=>by
  obtain⟨t,e⟩:=Value.isStrOf_shape (x:=x) (v:=v) h;exact .inr (.inl ⟨x,t,rfl,e⟩)
 | .no,v,h=>by
  cases v<;>first|exact .inr (.inr ⟨rfl,rfl⟩)|cases h
theorem E9(i:Int)(t:Tok):An (.inl i) (.int i t)=true:=by simp[An,Value.isInt]
theorem Fb(x:Str)(t:Tok):An (.inr x) (.str x t)=true:=by simp[An,Value.isStrOf]
theorem Oq(a b:Int):decide (Key.inl a=Key.inl b)=(a==b):=by
 by_cases e:a=b
 ·subst e;simp
 ·have h:¬ Key.inl a=Key.inl b:=fun q=>e (Key.inl.inj q);rw[decide_eq_false h];exact(beq_eq_false_iff_ne.mpr e).symm
theorem Ou(a b:Str):decide (Key.inr a=Key.inr b)=decide (a=b):=by
 by_cases e:a=b
 ·subst e;simp
 ·have h:¬ Key.inr a=Key.inr b:=fun q=>e (Key.inr.inj q);rw[decide_eq_false h,decide_eq_false e]
noncomputable def fR(prog:Program)(w:World):PySem.KeyKind prog w Key where
 is:=An
 hash:=TU w
 inj:=fun v a b ha hb=>by
  rcases eU ha with⟨i,t,rfl,rfl⟩|⟨x,t,rfl,rfl⟩|⟨rfl,rfl⟩<;>rcases eU hb with⟨j,u,rfl,e⟩|⟨y,u,rfl,e⟩|⟨rfl,e⟩ <;>
   first|rfl|(cases e<;>rfl)
 byValue:=fun k v h=>by
  rcases eU h with⟨i,t,rfl,rfl⟩|⟨x,t,rfl,rfl⟩|⟨rfl,rfl⟩<;>rfl
 pyHash:=fun hv h=>by
  rcases eU hv with⟨i,t,rfl,rfl⟩|⟨x,t,rfl,rfl⟩|⟨rfl,rfl⟩
  ·exact wpAny_pyHash_int h
  ·exact wpAny_pyHash_str h
  ·exact PySem.W.pyHash_slot (T:="NoneType") rfl F.slot_NoneType_hash F.entry_NoneType_hash (F.args_NoneType_hash_1 _) (beq_builtin_none _) (.inl rfl) (wpAny_bind (wpAny_pure (wpAny_bind (wpAny_mkInt (wpAny_pure ⟨_,_,rfl,h⟩)))))
 eqBool:=fun hu hv h=>by
  rcases eU hu with⟨i,t,rfl,rfl⟩|⟨x,t,rfl,rfl⟩|⟨rfl,rfl⟩<;>rcases eU hv with⟨j,u,rfl,rfl⟩|⟨y,u,rfl,rfl⟩|⟨rfl,rfl⟩
  ·rw[Oq] at h;exact wpAny_eqBool_int h
  ·exact SeqAt.EqAt.int_str i t y u _ _ _ _ h
  ·exact SeqAt.EqAt.int_none i t _ _ _ _ h
  ·exact SeqAt.EqAt.str_int x t j u _ _ _ _ h
  ·rw[Ou] at h;exact wpAny_eqBool_str h
  ·exact SeqAt.EqAt.str_none x t _ _ _ _ h
  ·exact SeqAt.EqAt.none_int j u _ _ _ _ h
  ·exact SeqAt.EqAt.none_str y u _ _ _ _ h
  ·exact SeqAt.EqAt.same .none _ _ _ _ h
 «strs»:=fun k x t v h=>by
  rcases eU h with⟨i,u,rfl,e⟩|⟨y,u,rfl,e⟩|⟨rfl,e⟩
  ·exact nomatch e
  ·injection e with e1 _
   subst e1;cases v<;>rfl
  ·exact nomatch e
theorem Cn(prog:Program)(w:World)(i:Int)(t:Tok):(fR prog w).is (.inl i) (.int i t)=true:=E9 i t
theorem uQ(prog:Program)(w:World)(x:Str)(t:Tok):(fR prog w).is (.inr x) (.str x t)=true:=Fb x t
inductive V where
 | UK|bl (b:Bool)|int (i:Int)|str (x:Str)|byt (b:Array UInt8)|flt (b:UInt64)|ref (a:Addr)|ty (n:String)
 deriving DecidableEq
noncomputable def bU:V->Value->Prop
 | .UK,u=>u=Value.none
 | .bl b,u=>u=Value.bool b
 | .int i,u=>∃ t,u=Value.int i t
 | .str x,u=>∃ t,u=Value.str x t
 | .byt b,u=>∃ t,u=Value.bytes b t
 | .flt b,u=>∃ t,u=Value.float b t
 | .ref a,u=>u=Value.ref a
 | .ty n,u=>u=Value.type n
noncomputable abbrev Vals:List V->List Value->Prop:=Paired bU
theorem Vals.length{xs:List V}{us:List Value}(r:Vals xs us):xs.length=us.length:=Paired.length r
theorem Vals.get:∀ {xs:List V} {us:List Value} {i:Nat} {x:V},Vals xs us->xs[i]?=some x->∃ u,us[i]?=some u/\bU x u
 | _,_,_,_,.nil,e=>by simp at e
 | _,_,0,_,.cons r _,e=>by simp at e;subst e;exact⟨_,rfl,r⟩
 | _,_,i+1,x,.cons _ t,e=>by
  obtain⟨u,h1,h2⟩:=Vals.get (i:=i) (x:=x) t (by simpa using e);exact⟨u,by simpa using h1,h2⟩
theorem Vals.set{x:V}{u:Value}(r:bU x u):∀ {xs:List V} {us:List Value} (i:Nat),Vals xs us->Vals (xs.set i x) (us.set i u)
 | _,_,_,.nil=>.nil
 | _,_,0,.cons _ t=>.cons r t
 | _,_,i+1,.cons q t=>.cons q (Vals.set r i t)
theorem Vals.append{xs ys:List V}{us ws:List Value}(h:Vals xs us)(s:Vals ys ws):Vals (xs++ys) (us++ws):=by
 induction h with
 | nil=>exact s
 | cons r _ ih=>exact .cons r ih
theorem Vals.take:∀ {xs:List V} {us:List Value} (n:Nat),Vals xs us->Vals (xs.take n) (us.take n)
 | _,_,0,_=>.nil
 | _,_,_+1,.nil=>.nil
 | _,_,n+1,.cons r t=>.cons r (Vals.take n t)
theorem Vals.drop:∀ {xs:List V} {us:List Value} (n:Nat),Vals xs us->Vals (xs.drop n) (us.drop n)
 | _,_,0,r=>r
 | _,_,_+1,.nil=>.nil
 | _,_,n+1,.cons _ t=>Vals.drop n t
theorem Vals.none_of:∀ {xs:List V} {us:List Value} {i:Nat},Vals xs us->xs[i]?=none->us[i]?=none:=fun {xs us i} r e=>by
 have h1:=r.length;have h2:xs.length<=i:=List.getElem?_eq_none_iff.mp e;exact List.getElem?_eq_none_iff.mpr (by omega)
noncomputable def oR:Option V->Option Value->Prop
 | some v,some u=>bU v u
 | none,none=>True
 | _,_=>False
noncomputable def KV{κ:Type}:List (κ×V)->List (κ×Value)->Prop:=Paired fun(p:κ×V) (q:κ×Value)=>p.1=q.1/\bU p.2 q.2
noncomputable def kV:Key->V
 | .inl i=>.int i
 | .inr x=>.str x
 | .no=>.UK
inductive HO where
 /-- a list -/
 | lst (xs:List V)
 /-- a tuple (never changes) -/
 | tup (xs:List V)
 /-- a dict whose keys are ints and texts;one whose keys are tuples of ints and texts (the empty one is both) -/
 | dK (UG:List (Key×V))|dT (UG:List (List Key×V))
 /-- a set of ints: UJ members,UJ size -/
 | set (S:Int->Bool) (n:Nat)
 /-- an instance of the class at C,UJ dict at dx,UJ attributes -/
 | ins (C dx:Addr) (fs:List (Str×V))
 /-- the dict of the instance at x -/
 | own (x:Addr)
 /-- the dict of an exception -/
 | xd (fs:List (Str×V))
 /-- a bound method,f of x -/
 | met (f x:Addr)
 /-- a range object lo,lo+1,.. below hi -/
 | ZM (lo hi:Int)
 /-- a thing that is known to the object (the script;a dict while a loop walks it): read,never written while it is so -/
 | Vf (o:Obj) (u:HO)
 /-- a code object's table -/
 | Xq (ps:Array Value)
 /-- any other thing,by what is true of UJ one object (a def of aaS own: SetO a S n:=HO.ext fun h=>..) -/
 | ext (φ:Heap->Prop)
noncomputable abbrev Hp:=Addr->Option HO
noncomputable def UH(H:Hp)(a:Addr)(o:HO):Hp:=fun b=>if b=a then some o else H b
theorem aE{H:Hp}{a:Addr}{o:HO}:UH H a o a=some o:=by unfold UH;rw[if_pos rfl]
theorem aY{H:Hp}{a b:Addr}{o:HO}(h:b≠a):UH H a o b=H b:=by unfold UH;rw[if_neg h]
theorem Aq{H:Hp}{a b:Addr}{o u:HO}(h:H a=some o)(h':H b=some u)(d:o≠u):a≠b:=by
 intro e;subst e;rw[h] at h';exact d (Option.some.inj h')
theorem aQ{H:Hp}{a b:Addr}{o:HO}(h:H a=some o)(h':H b=none):a≠b:=by
 intro e;subst e;rw[h] at h';cases h'
section
variable (P:Program) (w:World)
noncomputable def fM(H:Hp)(h:Heap)(a:Addr):HO->Prop
  | .lst xs=>xs.length<=sizeLine/\∃(UJ:List Value) (n:Nat),Vals xs UJ/\h.get? a=some {cls:=.type "list",data:=.seq UJ.toArray n}
  | .tup xs=>xs.length<=sizeLine/\∃ UJ:List Value,Vals xs UJ/\IsTup h a UJ.toArray
  | .dK UG=>UG.length<=sizeLine/\(a==sysModules)=false/\∃ vs,KV UG vs/\h.DictOf (fR P w) a vs
  | .dT UG=>UG.length<=sizeLine/\(a==sysModules)=false/\∃ xs:List (List Key×Addr×Value),
      Paired (fun(p:List Key×V) (q:List Key×Addr×Value)=>p.1=q.1/\H q.2.1=some (.tup (p.1.map kV))/\bU p.2 q.2.2) UG xs /\
      ∃ o es ep,h.get? a=some o/\o.ExactDict/\o.data=.dict es ep/\es.toList=xs.map (entryOfKey (tupleKind (fR P w)))/\(xs.map (·.1)).Nodup
  | .set S n=>h.SetOf (intKind P w) a S n
  | .ins C dx fs=>H dx=some (.own a)/\fs.length<=1000/\dx≠a/\h.get? a=some (PySem.W.instObj C dx) /\
      ∃ mA,h.Ns1 dx mA/\(∀ f,oR (fs.lookup f) (mA f))/\PySem.Within mA (fs.map (·.1))
  | .own _=>∃ o,h.get? a=some o
  | .xd fs=>∃ mA,h.Ns1 a mA/\∀ f,oR (fs.lookup f) (mA f)
  | .ZM lo hi=>∃ t u v,h.get? a=some {cls:=.type "range",data:=.fields #[.int lo t,.int hi u,.int 1 v]}
  | .Vf o u=>h.get? a=some o/\fM H h a u
  | .Xq ps=>h.get? a=some {cls:=.none,data:=.fields ps}
  | .met f x=>h.get? a=some (PySem.W.methodObj (.ref f) (.ref x))
  | .ext φ=>φ h/\(∃ o,h.get? a=some o)/\∀ h1 h2:Heap,φ h1->(∀ o,h1.get? a=some o->h2.get? a=some o)->φ h2
noncomputable def HOk(H:Hp)(h:Heap):Prop:=∀ a o,H a=some o->fM P w H h a o
end
section
variable {P:Program} {w:World} {H H':Hp} {h h':Heap} {a:Addr} {o:HO}
theorem fM.lt(x:fM P w H h a o):a < h.objs.size:=by
 cases o with
 | lst xs=>obtain⟨_,_,_,_,e⟩:=x;exact Heap.lt_size e
 | tup xs=>obtain⟨_,_,_,p⟩:=x;exact p.lt
 | dK UG=>obtain⟨_,_,_,_,o,_,_,e,_⟩:=x;exact Heap.lt_size e
 | dT UG=>obtain⟨_,_,_,_,o,_,_,e,_⟩:=x;exact Heap.lt_size e
 | set S n=>obtain⟨o,_,_,_,e,_⟩:=x;exact Heap.lt_size e
 | ins C dx fs=>obtain⟨_,_,_,e,_⟩:=x;exact Heap.lt_size e
 | own y=>obtain⟨_,e⟩:=x;exact Heap.lt_size e
 | xd fs=>obtain⟨_,⟨_,_,_,e,_⟩,_⟩:=x;exact Heap.lt_size e
 | ZM lo hi=>obtain⟨_,_,_,e⟩:=x;exact Heap.lt_size e
 | Vf ob u=>obtain⟨e,_⟩:=x;exact Heap.lt_size e
 | Xq ps=>exact Heap.lt_size (show h.get? a=some _ from x)
 | met f y=>exact Heap.lt_size (show h.get? a=some _ from x)
 | ext φ=>obtain⟨_,⟨_,e⟩,_⟩:=x;exact Heap.lt_size e
theorem Paired.Oy{α β:Type}{F G:α->β->Prop}:∀ {l₁:List α} {l₂:List β},Paired F l₁ l₂->(∀ a b,F a b->G a b)->Paired G l₁ l₂
 | _,_,.nil,_=>.nil
 | _,_,.cons r t,f=>.cons (f _ _ r) (Paired.Oy t f)
theorem fM.BD(x:fM P w H h a o)(k:∀ b u,(b=a\/H b=some (.own a))->h.get? b=some u->h'.get? b=some u)
    (ho:∀ b,H b=some (.own a)->H' b=some (.own a)) (ht:∀ b xs,H b=some (.tup xs)->H' b=some (.tup xs)):fM P w H' h' a o:=by
  induction o with
  | lst xs=>obtain⟨z,UJ,n,r,e⟩:=x;exact⟨z,UJ,n,r,k _ _ (.inl rfl) e⟩
  | tup xs=>obtain⟨z,UJ,r,ob,e,c⟩:=x;exact⟨z,UJ,r,ob,k _ _ (.inl rfl) e,c⟩
  | dK UG=>obtain⟨z,y,vs,r,ob,es,ep,e,c⟩:=x;exact⟨z,y,vs,r,ob,es,ep,k _ _ (.inl rfl) e,c⟩
  | dT UG =>
    obtain⟨z,y,xs,r,ob,es,ep,e,c⟩:=x;exact⟨z,y,xs,Paired.Oy r fun p q z=>⟨z.1,ht _ _ z.2.1,z.2.2⟩,ob,es,ep,k _ _ (.inl rfl) e,c⟩
  | set S n=>obtain⟨ob,es,ep,t,e,c⟩:=x;exact⟨ob,es,ep,t,k _ _ (.inl rfl) e,c⟩
  | ins C dx fs =>
    obtain⟨d,z,ne,e,mA,⟨od,es,ep,e2,c⟩,r⟩:=x;exact⟨ho _ d,z,ne,k _ _ (.inl rfl) e,mA,⟨od,es,ep,k _ _ (.inr d) e2,c⟩,r⟩
  | own y=>obtain⟨ob,e⟩:=x;exact⟨ob,k _ _ (.inl rfl) e⟩
  | xd fs=>obtain⟨mA,⟨od,es,ep,e,c⟩,r⟩:=x;exact⟨mA,⟨od,es,ep,k _ _ (.inl rfl) e,c⟩,r⟩
  | ZM lo hi=>obtain⟨t,u,v,e⟩:=x;exact⟨t,u,v,k _ _ (.inl rfl) e⟩
  | Vf ob u ih=>obtain⟨e,q⟩:=x;exact⟨k _ _ (.inl rfl) e,ih q⟩
  | Xq ps =>
    have e:h.get? a=some {cls:=.none,data:=.fields ps}:=x;show h'.get? a=some {cls:=.none,data:=.fields ps};exact k a _ (.inl rfl) e
  | met f y =>
    have e:h.get? a=some (PySem.W.methodObj (.ref f) (.ref y)):=x;show h'.get? a=some (PySem.W.methodObj (.ref f) (.ref y));exact k a _ (.inl rfl) e
  | ext φ=>obtain⟨p,⟨o,e⟩,st⟩:=x;exact⟨st _ _ p fun o q=>k _ _ (.inl rfl) q,⟨o,k _ _ (.inl rfl) e⟩,st⟩
theorem HOk.lt(x:HOk P w H h)(e:H a=some o):a < h.objs.size:=(x a o e).lt
theorem HOk.fresh(x:HOk P w H h)(e:h.objs.size<=a):H a=none:=by
 cases q:H a with
 | none=>rfl
 | some u=>exact absurd (Nat.lt_of_lt_of_le (x.lt q) e) (Nat.lt_irrefl _)
theorem HOk.kept(x:HOk P w H h)(k:∀ b u,h.get? b=some u->h'.get? b=some u):HOk P w H h':=fun a o e =>
 (x a o e).BD (fun b u _ q=>k b u q) (fun _ q=>q) fun _ _ q=>q
theorem HOk.laid(x:HOk P w H h)(k:∀ b u,h.get? b=some u->h'.get? b=some u)(hp:h.objs.size<=a)(new:fM P w (UH H a o) h' a o):HOk P w (UH H a o) h':=fun b u e=>by
 have hn:=x.fresh hp;by_cases hb:b=a
 ·subst hb;rw[aE] at e;cases e;exact new
 ·rw[aY hb] at e;exact(x b u e).BD (fun c v _ q=>k c v q) (fun c q=>by rw[aY (aQ q hn)];exact q) fun c xs q=>by rw[aY (aQ q hn)];exact q
end
noncomputable def Rd(H:Hp)(a:Addr)(u:HO):Prop:=H a=some u\/∃ o,H a=some (.Vf o u)
theorem Rd.of{H:Hp}{a:Addr}{u:HO}(h:H a=some u):Rd H a u:=.inl h
theorem Rd.ok{P:Program}{w:World}{H:Hp}{h:Heap}{a:Addr}{u:HO}(r:Rd H a u)(x:HOk P w H h):fM P w H h a u:=by
 rcases r with r|⟨o,r⟩
 ·exact x a u r
 ·obtain⟨_,q⟩:=x a _ r;exact q
noncomputable def Mut:Option HO->Prop
 | some (.lst _)=>True
 | some (.dK _)=>True
 | some (.dT _)=>True
 | some (.set _ _)=>True
 | some (.ins _ _ _)=>True
 | some (.ext _)=>True
 | _=>False
section
variable {P:Program} {w:World} {H:Hp} {h h':Heap} {x e:Addr} {o':HO}
theorem HOk.write(ok:HOk P w H h)(mu:Mut (H x))(he:e=x\/H e=some (.own x))(k:∀ b u,b≠e->h.get? b=some u->h'.get? b=some u)(Yg:∃ u,h'.get? e=some u)
    (new:fM P w (UH H x o') h' x o'):HOk P w (UH H x o') h':=fun b u q=>by
  have Y4:∀ c y,H c=some (.own y)->c≠x:=fun c y r z=>by subst z;rw[r] at mu;exact mu
  have aaR:∀ c xs,H c=some (.tup xs)->c≠x:=fun c xs r z=>by subst z;rw[r] at mu;exact mu
  by_cases hb:b=x
  · subst hb;rw[aE] at q;cases q;exact new
  · rw[aY hb] at q;by_cases XB:b=e
    · have q':H b=some (.own x):=by
        rcases he with z|z
        · exact absurd (XB.trans z) hb
        · rw[XB];exact z
      rw[q] at q';cases q';obtain⟨v,hv⟩:=Yg;exact⟨v,by rw[XB];exact hv⟩
    · refine(ok b u q).BD (fun c v hc r=>k c v ?_ r) (fun c r=>by rw[aY (Y4 c b r)];exact r) fun c xs r=>by rw[aY (aaR c xs r)];exact r
      rcases hc with rfl|hc
      · exact XB
      · rintro rfl;rcases he with z|z
        · exact Y4 c b hc z
        · rw[hc] at z;cases z;exact hb rfl
end
structure Un(fs ex:List Addr)(H H':Hp)(h h':Heap):Prop where
 keep:∀ b o,h.get? b=some o->H b=none->b∉fs->b∉ex->h'.get? b=some o
 slot:∀ b o,h.get? b=some o->H b=none->b∈fs->b∉ex->∃ sl,h'.get? b=some {o with slots:=sl}
 free:∀ b o,h.get? b=some o->H b=none->b∉ex->H' b=none
 there:∀ b o,h.get? b=some o->b∉ex->∃ o',h'.get? b=some o'
 nW:∀ b xs,H b=some (.tup xs)->H' b=some (.tup xs)
 mG:∀ b o u,H b=some (.Vf o u)->H' b=some (.Vf o u)
 nV:∀ b ps,H b=some (.Xq ps)->∃ more,H' b=some (.Xq (ps++more))
section
variable {fs WR ex ex':List Addr} {H H1 H2:Hp} {h h1 h2 h':Heap} {a x e:Addr} {o:HO}
theorem Un.any(u:Un fs ex H H1 h h1){b:Addr}{ob:Obj}(q:h.get? b=some ob)(n:H b=none)(hx:b∉ex):∃ sl,h1.get? b=some {ob with slots:=sl}:=by
 by_cases hb:b∈fs
 ·exact u.slot b ob q n hb hx
 ·exact⟨ob.slots,u.keep b ob q n hb hx⟩
theorem Un.trans(a:Un fs ex H H1 h h1)(b:Un fs ex H1 H2 h1 h2):Un fs ex H H2 h h2 where
 keep:=fun c ob q n hc hx=>b.keep c ob (a.keep c ob q n hc hx) (a.free c ob q n hx) hc hx
 slot:=fun c ob q n hc hx=>by
  obtain⟨sl,e1⟩:=a.slot c ob q n hc hx;obtain⟨X1,e2⟩:=b.slot c _ e1 (a.free c ob q n hx) hc hx;exact⟨X1,e2⟩
 free:=fun c ob q n hx=>by
  obtain⟨o',e1⟩:=a.there c ob q hx;exact b.free c o' e1 (a.free c ob q n hx) hx
 there:=fun c ob q hx=>by
  obtain⟨o',e1⟩:=a.there c ob q hx;exact b.there c o' e1 hx
 nW:=fun c xs q=>b.nW c xs (a.nW c xs q)
 mG:=fun c ob xs q=>b.mG c ob xs (a.mG c ob xs q)
 nV:=fun c ps q=>by
  obtain⟨m1,e1⟩:=a.nV c ps q;obtain⟨m2,e2⟩:=b.nV c _ e1;exact⟨m1++m2,by rw[e2,Array.append_assoc]⟩
theorem Un.kept(k:∀ b u,h.get? b=some u->h'.get? b=some u):Un fs ex H H h h' :=
 ⟨fun b ob q _ _ _=>k b ob q,fun b ob q _ _ _=>⟨ob.slots,k b ob q⟩,fun _ _ _ n _=>n,fun b ob q _=>⟨ob,k b ob q⟩,fun _ _ q=>q,fun _ _ _ q=>q,fun _ ps q=>⟨#[],by rw[q];simp⟩⟩
theorem Un.refl:Un fs ex H H h h:=Un.kept fun _ _ q=>q
theorem Un.laid(k:∀ b u,h.get? b=some u->h'.get? b=some u)(hp:h.objs.size<=a)(hn:H a=none):Un fs ex H (UH H a o) h h' where
 keep:=fun b u q _ _ _=>k b u q
 slot:=fun b u q _ _ _=>⟨u.slots,k b u q⟩
 free:=fun b u q n _=>by rw[aY (Nat.ne_of_lt (Nat.lt_of_lt_of_le (Heap.lt_size q) hp))];exact n
 there:=fun b u q _=>⟨u,k b u q⟩
 nW:=fun b xs q=>by rw[aY (aQ q hn)];exact q
 mG:=fun b u xs q=>by rw[aY (aQ q hn)];exact q
 nV:=fun b ps q=>⟨#[],by rw[aY (aQ q hn),q];simp⟩
theorem Un.write(mu:Mut (H x))(he:e=x\/H e=some (.own x))(k:∀ b u,b≠e->h.get? b=some u->h'.get? b=some u)(Yg:∃ u,h'.get? e=some u):Un fs ex H (UH H x o) h h':=by
 have hx:∀ b,H b=none->b≠x:=fun b n z=>by subst z;rw[n] at mu;exact mu
 have hb:∀ b,H b=none->b≠e:=fun b n z=>by
  subst z;rcases he with r|r
  ·exact hx b n r
  ·rw[n] at r;cases r
 have hm:∀ b u,H b=some u->¬ Mut (some u)->b≠x:=fun b u q nm z=>by subst z;rw[q] at mu;exact nm mu
 refine⟨fun b u q n _ _=>k b u (hb b n) q,fun b u q n _ _=>⟨u.slots,k b u (hb b n) q⟩,fun b u q n _=>by rw[aY (hx b n)];exact n,fun b u q _=>?_,
  fun b xs q=>by rw[aY (hm b _ q fun z=>z)];exact q,fun b u xs q=>by rw[aY (hm b _ q fun z=>z)];exact q,fun b ps q=>⟨#[],by rw[aY (hm b _ q fun z=>z),q];simp⟩⟩
 by_cases XB:b=e
 ·subst XB;exact Yg
 ·exact⟨u,k b u XB q⟩
theorem Un.mono(u:Un fs ex H H1 h h1)(hs:∀ b∈fs,b∈WR)(hx:∀ b∈ex,b∈ex'):Un WR ex' H H1 h h1 :=
 ⟨fun b ob q n hb he=>u.keep b ob q n (fun z=>hb (hs b z)) fun z=>he (hx b z),fun _ _ q n _ he=>u.any q n fun z=>he (hx _ z),fun b ob q n he=>u.free b ob q n fun z=>he (hx b z),fun b ob q he=>u.there b ob q fun z=>he (hx b z),u.nW,u.mG,u.nV⟩
end
noncomputable def trk(h:Heap)(H:Hp):List Addr:=(List.range h.objs.size).filter fun a=>(H a).isSome
noncomputable def A9(h:Heap)(H:Hp):Heap:=PySem.W.hideAll h (trk h H)
theorem E6(h:Heap)(H:Hp):(A9 h H).objs.size=h.objs.size:=PySem.W.hideAll_size _ _
theorem GZ{h:Heap}{H:Hp}{b:Addr}{o:Obj}(e:h.get? b=some o)(n:H b=none):(A9 h H).get? b=some o :=
 PySem.W.hideAll_get _ e fun hm=>by
  have q:(H b).isSome=true:=(List.mem_filter.mp hm).2;rw[n] at q;simp at q
theorem Kg{h:Heap}{H:Hp}{b:Addr}{o:Obj}(e:(A9 h H).get? b=some o):h.get? b=some o/\H b=none:=by
 have e':h.get? b=some o:=PySem.W.of_hideAll (trk h H) e;refine⟨e',?_⟩;cases q:H b with
 | none=>rfl
 | some x =>
  have hm:b∈trk h H:=List.mem_filter.mpr ⟨List.mem_range.mpr (Heap.lt_size e'),by simp[q]⟩;have z:(A9 h H).get? b=none:=PySem.W.hideAll_none (trk h H) hm;rw[z] at e;cases e
noncomputable def IX(g h:Heap)(L:Addr):List (Addr×Obj):=(List.range h.objs.size).filterMap fun a=>if a=L\/(g.get? a).isSome=true then none else (h.get? a).map fun o=>(a,o)
noncomputable def rest(g h:Heap)(L d:Addr):List (Addr×Obj):=(IX g h L).filter fun p=>decide (p.1≠d)
structure Mod(K:q0B)(mg:q0C)(base:Heap):Prop where
 kin:K.In base
 glob:base.Ns mainGlobals mg
 blt:∃ mb,base.Ns builtinsNs mb/\∀ x:Str,x≠"__name__"->mb x=bootBuiltins x
 nolimit:base.NoLimit
structure Cx where
 prog:Program
 w:World
 K:q0B
 mg:Str->Option Value
 base:Heap
 A:Around
 N:List Str
 s₀:Shared
 H₀:Hp
 env:Env
 outer:List Env
 stack:List Env
 ex:List Addr
 fn:Str->Bool
 calm:Bool
 pn:List (Addr×Obj)
 xe:Value->Shared->Prop
noncomputable def frs(l:List Env):List Addr:=l.filterMap (·.frame)
noncomputable abbrev Cx.fs(X:Cx):List Addr:=frs X.outer
noncomputable def Vis(sc:Scope)(x:Str):Prop:=sc.names.lookup x=some .local\/sc.names.lookup x=some .cell\/sc.names.lookup x=some .free
noncomputable def Loc(sc:Scope)(x:Str):Prop:=sc.names.lookup x=some .local\/sc.names.lookup x=some .cell
noncomputable def Look(env:Env)(h:Heap)(m:q0C)(x:Str)(u:Value):Prop :=
 (env.kindOf x=some .local/\m x=some u)\/((env.kindOf x=some .cell\/env.kindOf x=some .free)/\∃ c,env.cells.lookup x=some c/\h.IsCell c (some u))
structure Cx.Ok(X:Cx):Prop where
 mod:Mod X.K X.mg X.base
 kind:X.env.scope.kind=.function
 glob:X.env.globals=mainGlobals
 blt:X.env.builtins=builtinsNs
 above:X.s₀.heap.objs.size<=X.env.locals
 inj:∀ x y c,X.env.cells.lookup x=some c->X.env.cells.lookup y=some c->x=y
 has:∀ x,(X.env.kindOf x=some .cell\/X.env.kindOf x=some .free)->∃ c,X.env.cells.lookup x=some c
 cab:∀ x c,X.fn x=true->X.env.cells.lookup x=some c->X.s₀.heap.objs.size<=c
 hd:X.calm=true->X.A.handled=none
 frames:X.A.frames=some X.stack
 Xc:X.stack=X.outer\/(X.stack=X.env::X.outer/\X.env.frame=some X.env.locals)
 exf:∀ b∈X.ex,b≠X.env.locals/\∀ x c,X.env.cells.lookup x=some c->c≠b
 bs:∀ b o,X.base.get? b=some o->X.s₀.heap.get? b=some o/\X.H₀ b=none
 bsz:X.base.objs.size<=X.s₀.heap.objs.size
 Dp:∀ b o,X.base.get? b=some o->b∉X.ex
 E2:∀ b∈X.ex,b∉X.fs
 oU:X.s₀.heap.FunFrames X.base X.outer
 frf:∀ b∈X.fs,X.H₀ b=none
structure UI(X:Cx)(UE:List (Addr×Obj))(σ:List (Option V))(H:Hp)(s:Shared):Prop where
 ok:X.Ok
 os:s.os=X.s₀.os
 bare:AllBare s.gens
 base:Un X.fs X.ex X.H₀ H X.s₀.heap s.heap
 loc:∃ m,s.heap.Ns X.env.locals m/\∀(i:Nat) (x:Str) (v:V),X.N[i]?=some x->σ[i]?=some (some v)->Vis X.env.scope x->∃ u,bU v u/\Look X.env s.heap m x u
 cell:∀ x c,X.env.cells.lookup x=some c->∃ v,s.heap.IsCell c v
 free:H X.env.locals=none
 jK:∀ x c,X.env.cells.lookup x=some c->H c=none
 pin:∀ p∈X.pn++UE,s.heap.get? p.1=some p.2/\H p.1=none/\p.1≠X.env.locals/\p.1∉X.fs/\∀ v,p.2.data≠.cell v
 UL:HOk X.prog X.w H s.heap
 len:σ.length=X.N.length
section
variable {X:Cx} {UE:List (Addr×Obj)} {σ:List (Option V)} {H H':Hp} {s:Shared} {h':Heap}
theorem Cx.Ok.TY(ok:X.Ok){b:Addr}{o:Obj}(e:X.base.get? b=some o):b∉X.fs:=fun hb=>by
 have:=(ok.oU.mem hb).1;rw[e] at this;cases this
theorem UI.bs(I:UI X UE σ H s):∀ b o,X.base.get? b=some o->s.heap.get? b=some o/\H b=none:=fun b o e =>
 ⟨I.base.keep b o (I.ok.bs b o e).1 (I.ok.bs b o e).2 (I.ok.TY e) (I.ok.Dp b o e),I.base.free b o (I.ok.bs b o e).1 (I.ok.bs b o e).2 (I.ok.Dp b o e)⟩
theorem UI.bk(I:UI X UE σ H s):∀ b o,X.base.get? b=some o->s.heap.get? b=some o:=fun b o e=>(I.bs b o e).1
theorem UI.mod(I:UI X UE σ H s):Mod X.K X.mg X.base:=I.ok.mod
theorem UI.kIn(I:UI X UE σ H s):X.K.In s.heap:=I.ok.mod.kin.keeps I.bk
theorem UI.nolimit(I:UI X UE σ H s):s.heap.NoLimit:=I.ok.mod.nolimit.keeps I.bk
theorem UI.fr(I:UI X UE σ H s):∃ m,Fr X.base X.env.locals s.heap m :=
 let ⟨m,hn,_⟩:=I.loc
 ⟨m,hn,I.bk,Nat.le_trans I.ok.bsz I.ok.above⟩
theorem UI.lt(I:UI X UE σ H s):X.env.locals < s.heap.objs.size:=let ⟨_,hn,_⟩:=I.loc;hn.lt
theorem UI.sz(I:UI X UE σ H s):X.s₀.heap.objs.size<=s.heap.objs.size:=Nat.le_trans I.ok.above (Nat.le_of_lt I.lt)
theorem UI.Rt(I:UI X UE σ H s){a:Addr}(h:s.heap.objs.size<=a):a∉X.fs:=fun hb=>by
 obtain⟨_,o,ho,_⟩:=I.ok.oU.mem hb;exact absurd (Nat.lt_of_lt_of_le (Heap.lt_size ho) (Nat.le_trans I.sz h)) (Nat.lt_irrefl _)
theorem UI.WY(I:UI X UE σ H s):∀ x c,X.env.cells.lookup x=some c->c≠X.env.locals:=fun x c e z=>by
 obtain⟨v,o,ho,hd⟩:=I.cell x c e;obtain⟨m,⟨o',es,ep,U5,hd',_⟩,_⟩:=I.loc;rw[z,U5] at ho;cases ho;rw[hd'] at hd;cases hd
theorem UI.oU(I:UI X UE σ H s):s.heap.FunFrames X.base X.outer:=by
 have all:∀(l:List Env),(∀ b∈frs l,b∈X.fs)->X.s₀.heap.FunFrames X.base l->s.heap.FunFrames X.base l:=by
  intro l
  induction l with
  | nil=>intro _ _;trivial
  | cons env r ih =>
   intro hs hl;obtain⟨hk,⟨L,o,hf,hn,ho,hd⟩,hr⟩:=hl;have hL:L∈X.fs:=hs L (by unfold frs;rw[List.filterMap_cons,hf];exact List.mem_cons_self);obtain⟨sl,e⟩:=I.base.slot L o ho (I.ok.frf L hL) hL fun z=>I.ok.E2 L z hL;exact⟨hk,⟨L,_,hf,hn,e,hd⟩,ih (fun b hb=>hs b (by unfold frs;rw[List.filterMap_cons,hf];exact List.mem_cons_of_mem _ hb)) hr⟩
 exact all X.outer (fun _ hb=>hb) I.ok.oU
theorem UI.stack(I:UI X UE σ H s):s.heap.FunFrames X.base X.stack:=by
 rcases I.ok.Xc with e|⟨e,hf⟩
 ·rw[e];exact I.oU
 ·rw[e];obtain⟨m,hn,_⟩:=I.loc;refine .cons (by rw[I.ok.kind];decide) hf hn ?_ I.oU;exact Heap.get?_none_of_le (Nat.le_trans I.ok.bsz I.ok.above)
theorem UI.yM(I:UI X UE σ H s):∀ b∈frs X.stack,b∈X.env.locals::X.fs:=fun b hb=>by
 rcases I.ok.Xc with e|⟨e,hf⟩
 ·rw[e] at hb;exact List.mem_cons_of_mem _ hb
 ·rw[e] at hb;unfold frs at hb;rw[List.filterMap_cons,hf] at hb;exact hb
theorem UI.BE(I:UI X UE σ H s):∀ b∈frs X.stack,H b=none:=fun b hb=>by
 rcases List.mem_cons.mp (I.yM b hb) with e|hb
 ·rw[e];exact I.free
 ·obtain⟨_,o,ho,_⟩:=I.ok.oU.mem hb;exact I.base.free b o ho (I.ok.frf b hb) fun z=>I.ok.E2 b z hb
theorem UI.step{g':Array GenState}{t':Nat}{d':Drawn}{ch:List Addr}(I:UI X UE σ H s)
    (WS:∀ b∈ch,(b∈X.ex\/X.s₀.heap.objs.size<=b)/\b≠X.env.locals/\(∀ x c,X.env.cells.lookup x=some c->c≠b)/\∀ p∈X.pn++UE,p.1≠b)
    (keep:∀ b o,b≠X.env.locals->b∉X.fs->b∉ch->s.heap.get? b=some o->H b=none->h'.get? b=some o)
    (slot:∀ b o,b≠X.env.locals->b∈X.fs->b∉ch->s.heap.get? b=some o->H b=none->∃ sl,h'.get? b=some {o with slots:=sl}) (free:∀ b o,b∉ch->s.heap.get? b=some o->H b=none->H' b=none)
    (there:∀ b o,b∉ch->s.heap.get? b=some o->∃ o',h'.get? b=some o')
    (nW:∀ b xs,H b=some (.tup xs)->H' b=some (.tup xs)) (mG:∀ b o u,H b=some (.Vf o u)->H' b=some (.Vf o u)) (nV:∀ b ps,H b=some (.Xq ps)->∃ more,H' b=some (.Xq (ps++more)))
    (ns:∀ m,s.heap.Ns X.env.locals m->h'.Ns X.env.locals m) (UL:HOk X.prog X.w H' h') (hg:AllBare g') :
    UI X UE σ H' {s with heap:=h',gens:=g',drawn:=d',toks:=t'}:=by
  have neL:∀ b o,X.s₀.heap.get? b=some o->b≠X.env.locals:=fun b o e=>Nat.ne_of_lt (Nat.lt_of_lt_of_le (Heap.lt_size e) I.ok.above);have Xo:∀ b o,X.s₀.heap.get? b=some o->b∉X.ex->b∉ch:=fun b o e hx hb=>by
    rcases(WS b hb).1 with z|z
    · exact hx z
    · exact absurd (Nat.lt_of_lt_of_le (Heap.lt_size e) z) (Nat.lt_irrefl _)
  have cellK:∀ x c,X.env.cells.lookup x=some c->∀ v,s.heap.IsCell c v->h'.IsCell c v:=fun x c e v ⟨o,ho,hd⟩=>by
    have Y2:c∉ch:=fun z=>(WS c z).2.2.1 x c e rfl;by_cases hc:c∈X.fs
    · obtain⟨sl,q⟩:=slot c o (I.WY x c e) hc Y2 ho (I.jK x c e);exact⟨_,q,hd⟩
    · exact⟨o,keep c o (I.WY x c e) hc Y2 ho (I.jK x c e),hd⟩
  refine⟨I.ok,I.os,hg,⟨fun b o e n hb hx=>?_,fun b o e n hb hx=>?_,fun b o e n hx=>?_,fun b o e hx=>?_,fun b xs e=>nW b xs (I.base.nW b xs e),fun b o xs e=>mG b o xs (I.base.mG b o xs e),fun b ps e=>?_⟩,?_,fun x c e=>?_,?_,fun x c e=>?_,fun p hp=>?_,UL,I.len⟩
  · exact keep b o (neL b o e) hb (Xo b o e hx) (I.base.keep b o e n hb hx) (I.base.free b o e n hx)
  · obtain⟨sl,e1⟩:=I.base.slot b o e n hb hx;obtain⟨X1,e2⟩:=slot b _ (neL b o e) hb (Xo b o e hx) e1 (I.base.free b o e n hx);exact⟨X1,e2⟩
  · obtain⟨o',e1⟩:=I.base.there b o e hx;exact free b o' (Xo b o e hx) e1 (I.base.free b o e n hx)
  · obtain⟨o',e1⟩:=I.base.there b o e hx;exact there b o' (Xo b o e hx) e1
  · obtain⟨m1,e1⟩:=I.base.nV b ps e;obtain⟨m2,e2⟩:=nV b _ e1;exact⟨m1++m2,by rw[e2,Array.append_assoc]⟩
  · obtain⟨m,hn,hl⟩:=I.loc;refine⟨m,ns m hn,fun i x v e1 e2 e3=>?_⟩;obtain⟨u,r,l⟩:=hl i x v e1 e2 e3;refine⟨u,r,?_⟩;rcases l with l|⟨k,c,e,z⟩
    · exact .inl l
    · exact .inr ⟨k,c,e,cellK x c e _ z⟩
  · obtain⟨v,z⟩:=I.cell x c e;exact⟨v,cellK x c e v z⟩
  · obtain⟨m,⟨o,_,_,ho,_⟩,_⟩:=I.loc;exact free _ o (fun z=>(WS _ z).2.1 rfl) ho I.free
  · obtain⟨v,o,ho,hd⟩:=I.cell x c e;exact free c o (fun z=>(WS c z).2.2.1 x c e rfl) ho (I.jK x c e)
  · obtain⟨e,n,ne,nf,d⟩:=I.pin p hp;have Y2:p.1∉ch:=fun z=>(WS p.1 z).2.2.2 p hp rfl;exact⟨keep p.1 p.2 ne nf Y2 e n,free p.1 p.2 Y2 e n,ne,nf,d⟩
theorem UI.un{t':Nat}(I:UI X UE σ H s)(u:Un X.fs [] H H' s.heap h')(UL:HOk X.prog X.w H' h'):UI X UE σ H' {s with heap:=h',toks:=t'}:=by
 obtain⟨m,⟨o,es,ep,ho,r⟩,_⟩:=id I.loc;obtain⟨sl,hL⟩:=u.any ho I.free (by simp);exact I.step (g':=s.gens) (d':=s.drawn) (ch:=[]) (fun _ z=>nomatch z) (fun b o _ hb _ e n=>u.keep b o e n hb (by simp)) (fun b o _ hb _ e n=>u.slot b o e n hb (by simp)) (fun b o _ e n=>u.free b o e n (by simp)) (fun b o _ e=>u.there b o e (by simp)) u.nW u.mG u.nV (fun m' hm=>by
  obtain⟨o',Z9,Z8,U5,r'⟩:=hm;rw[ho] at U5;cases U5;exact⟨_,Z9,Z8,hL,r'⟩) UL I.bare
theorem UI.call{g':Array GenState}{t':Nat}{d':Drawn}{ch:List Addr}(I:UI X UE σ H s)(u:Un (frs X.stack) ch H H' s.heap h')(UL:HOk X.prog X.w H' h')(hg:AllBare g')
    (WS:∀ b∈ch,(b∈X.ex\/X.s₀.heap.objs.size<=b)/\b≠X.env.locals/\(∀ x c,X.env.cells.lookup x=some c->c≠b)/\∀ p∈X.pn++UE,p.1≠b) :
    UI X UE σ H' {s with heap:=h',gens:=g',drawn:=d',toks:=t'}:=by
  obtain⟨m,⟨o,es,ep,ho,r⟩,_⟩:=id I.loc;obtain⟨sl,hL⟩:=u.any ho I.free fun z=>(WS _ z).2.1 rfl;exact I.step (ch:=ch) WS (fun b o hL hb hc e n=>u.keep b o e n (fun z=>(List.mem_cons.mp (I.yM b z)).elim hL hb) hc) (fun b o _ _ hc e n=>u.any e n hc) (fun b o hc e n=>u.free b o e n hc) (fun b o hc e=>u.there b o e hc) u.nW u.mG u.nV (fun m' hm=>by
    obtain⟨o',Z9,Z8,U5,r'⟩:=hm;rw[ho] at U5;cases U5;exact⟨_,Z9,Z8,hL,r'⟩) UL hg
theorem UI.turned{t':Nat}{it:Addr}(I:UI X UE σ H s)(k:∀ b o,b≠it->s.heap.get? b=some o->h'.get? b=some o)(hn:H it=none)(hL:it≠X.env.locals)
    (h1:it∈X.ex\/X.s₀.heap.objs.size<=it) (h2:∀ x c,X.env.cells.lookup x=some c->c≠it) (h3:∀ p∈X.pn++UE,p.1≠it):UI X UE σ H {s with heap:=h',toks:=t'}:=by
  have nit:∀ b u,H b=some u->b≠it:=fun b u e z=>by rw[z,hn] at e;cases e
  refine I.step (g':=s.gens) (d':=s.drawn) (ch:=[it]) (fun b hb=>?_) (fun b o _ _ hc e _=>k b o (fun z=>hc (by simp[z])) e) (fun b o _ _ hc e _=>⟨o.slots,k b o (fun z=>hc (by simp[z])) e⟩) (fun _ _ _ _ n=>n)
    (fun b o hc e=>⟨o,k b o (fun z=>hc (by simp[z])) e⟩) (fun _ _ e=>e) (fun _ _ _ e=>e) (fun b ps e=>⟨#[],by rw[e];simp⟩) (fun m hm=>?_) (fun b u e=>?_) I.bare
  · have e:b=it:=by simpa using hb
    subst e;exact⟨h1,hL,h2,h3⟩
  · obtain⟨o,es,ep,ho,r⟩:=hm;exact⟨o,es,ep,k _ o (Ne.symm hL) ho,r⟩
  · refine(I.UL b u e).BD (fun c v hc q=>k c v ?_ q) (fun _ q=>q) fun _ _ q=>q;rcases hc with z|z
    · rw[z];exact nit b u e
    · exact nit c _ z
theorem UI.tok(I:UI X UE σ H s)(t:Nat):UI X UE σ H {s with toks:=t}:=I.un (h':=s.heap) (t':=t) Un.refl I.UL
theorem UI.kept{t':Nat}(I:UI X UE σ H s)(k:∀ b u,s.heap.get? b=some u->h'.get? b=some u):UI X UE σ H {s with heap:=h',toks:=t'}:=I.un (Un.kept k) (I.UL.kept k)
theorem UI.laid{a:Addr}{o:HO}{t':Nat}(I:UI X UE σ H s)(k:∀ b u,s.heap.get? b=some u->h'.get? b=some u)(hp:s.heap.objs.size<=a)(new:fM X.prog X.w (UH H a o) h' a o) :
    UI X UE σ (UH H a o) {s with heap:=h',toks:=t'}:=I.un (Un.laid k hp (I.UL.fresh hp)) (I.UL.laid k hp new)
theorem UI.write{x e:Addr}{o:HO}{t':Nat}(I:UI X UE σ H s)(mu:Mut (H x))(he:e=x\/H e=some (.own x))(k:∀ b u,b≠e->s.heap.get? b=some u->h'.get? b=some u)(Yg:∃ u,h'.get? e=some u)
    (new:fM X.prog X.w (UH H x o) h' x o):UI X UE σ (UH H x o) {s with heap:=h',toks:=t'}:=I.un (Un.write mu he k Yg) (I.UL.write mu he k Yg new)
theorem UI.rX{Xp:List (Addr×Obj)}(I:UI X UE σ H s)(h:∀ p∈Xp,s.heap.get? p.1=some p.2/\H p.1=none/\p.1≠X.env.locals/\p.1∉X.fs/\∀ v,p.2.data≠.cell v):UI X Xp σ H s :=
 ⟨I.ok,I.os,I.bare,I.base,I.loc,I.cell,I.free,I.jK,fun p hp=>(List.mem_append.mp hp).elim (fun z=>I.pin p (List.mem_append_left _ z)) (h p),I.UL,I.len⟩
theorem xS{N:List Str}(hN:N.Nodup){i j:Nat}{x:Str}(a:N[i]?=some x)(b:N[j]?=some x):i=j:=by
 obtain⟨h1,e1⟩:=List.getElem?_eq_some_iff.mp a;obtain⟨h2,e2⟩:=List.getElem?_eq_some_iff.mp b;exact(List.getElem_inj hN).mp (e1.trans e2.symm)
theorem AL{M:Model}{A:Around}{E:q0A}{i:Nat}{x:Str}{v:V}{u:Value}{Q:Unit->Shared->Prop}(I:UI X UE σ H s)(hN:X.N.Nodup)(hi:X.N[i]?=some x)(hx:Loc X.env.scope x)(r:bU v u)
    (h:∀ s',UI X UE (σ.set i (some v)) H s'->(∃ a,Heap.SameBut a s.heap s'.heap/\(a=X.env.locals\/X.env.cells.lookup x=some a))->Q () s') (hf:X.fn x=true\/X.env.scope.names.lookup x=some .local:=by first|exact .inl rfl|exact .inr rfl|assumption):wpAny M A (storeName X.env x u) Q E s:=by
  obtain⟨m,hn,hl⟩:=id I.loc;have XD:(X.env.scope.kind==.class||(X.env.scope.kind==.module&&X.env.locals !=X.env.globals))=false:=by rw[I.ok.kind];rfl
  have hiσ:i < σ.length:=by rw[I.len];exact(List.getElem?_eq_some_iff.mp hi).1
  have WY:=I.WY;have tracked:∀ {a:Addr} {h':Heap},(∃ o,s.heap.get? a=some o/\H a=none)->Heap.SameBut a s.heap h'->HOk X.prog X.w H h':=fun {a h'} ha hs b ob e=>by
    obtain⟨_,_,Xm⟩:=ha;refine(I.UL b ob e).BD (fun c w' hc q=>(hs.2 c ?_).trans q) (fun _ q=>q) fun _ _ q=>q;rintro rfl;rcases hc with rfl|hc
    · rw[Xm] at e;cases e
    · rw[Xm] at hc;cases hc
  rcases hx with hk|hk
  · refine wpAny_storeName_local hk hn (fun h' hn' hs=>?_) XD;obtain⟨oL,_,_,hoL,_⟩:=id hn;refine h _ ⟨I.ok,I.os,I.bare,⟨fun b o e n hb hx=>?_,fun b o e n hb hx=>?_,I.base.free,fun b o e hx=>?_,I.base.nW,I.base.mG,I.base.nV⟩,⟨_,hn',fun j y v' e1 e2 e3=>?_⟩,fun y c e=>?_,I.free,I.jK,fun p hp=>?_,tracked ⟨oL,hoL,I.free⟩ hs,by simpa using I.len⟩ ⟨_,hs,.inl rfl⟩
    · exact(hs.2 b (Nat.ne_of_lt (Nat.lt_of_lt_of_le (Heap.lt_size e) I.ok.above))).trans (I.base.keep b o e n hb hx)
    · obtain⟨sl,e1⟩:=I.base.slot b o e n hb hx;exact⟨sl,(hs.2 b (Nat.ne_of_lt (Nat.lt_of_lt_of_le (Heap.lt_size e) I.ok.above))).trans e1⟩
    · obtain⟨o',e1⟩:=I.base.there b o e hx;exact⟨o',(hs.2 b (Nat.ne_of_lt (Nat.lt_of_lt_of_le (Heap.lt_size e) I.ok.above))).trans e1⟩
    · by_cases hj:j=i
      · subst hj;rw[hi] at e1;cases e1;rw[List.getElem?_set_self hiσ] at e2;cases e2;exact⟨u,r,.inl ⟨hk,by simp⟩⟩
      · rw[List.getElem?_set_ne (Ne.symm hj)] at e2;obtain⟨u',r',q⟩:=hl j y v' e1 e2 e3;refine⟨u',r',?_⟩;rcases q with⟨k,e⟩|⟨k,c,e,z⟩
        · refine .inl ⟨k,?_⟩;have:y≠x:=fun e=>hj (xS hN e1 (e▸hi));simp[this,e]
        · exact .inr ⟨k,c,e,z.sameBut hs (WY y c e)⟩
    · obtain⟨w',z⟩:=I.cell y c e;exact⟨w',z.sameBut hs (WY y c e)⟩
    · obtain⟨e,n,ne,nf,d⟩:=I.pin p hp;exact⟨(hs.2 p.1 ne).trans e,n,ne,nf,d⟩
  · have hfn:X.fn x=true:=by
      rcases hf with z|z
      · exact z
      · rw[z] at hk;cases hk
    obtain⟨c,hc⟩:=I.ok.has x (.inl hk);obtain⟨w',z⟩:=I.cell x c hc;refine wpAny_storeName_cell I.ok.kind hk hc z (fun h' YH hs=>?_);obtain⟨oc,ZG,aaK⟩:=id z;refine h {s with heap:=h'} ⟨I.ok,I.os,I.bare,⟨fun b o e n hb hx=>?_,fun b o e n hb hx=>?_,I.base.free,fun b o e hx=>?_,I.base.nW,I.base.mG,I.base.nV⟩,⟨m,hn.sameBut hs (Ne.symm (WY x c hc)),fun j y v' e1 e2 e3=>?_⟩,fun y c' e=>?_,I.free,I.jK,fun p hp=>?_,tracked ⟨oc,ZG,I.jK x c hc⟩ hs,by simpa using I.len⟩ ⟨c,hs,.inr hc⟩
    · exact(hs.2 b (Nat.ne_of_lt (Nat.lt_of_lt_of_le (Heap.lt_size e) (I.ok.cab x c hfn hc)))).trans (I.base.keep b o e n hb hx)
    · obtain⟨sl,e1⟩:=I.base.slot b o e n hb hx;exact⟨sl,(hs.2 b (Nat.ne_of_lt (Nat.lt_of_lt_of_le (Heap.lt_size e) (I.ok.cab x c hfn hc)))).trans e1⟩
    · obtain⟨o',e1⟩:=I.base.there b o e hx;exact⟨o',(hs.2 b (Nat.ne_of_lt (Nat.lt_of_lt_of_le (Heap.lt_size e) (I.ok.cab x c hfn hc)))).trans e1⟩
    · by_cases hj:j=i
      · subst hj;rw[hi] at e1;cases e1;rw[List.getElem?_set_self hiσ] at e2;cases e2;exact⟨u,r,.inr ⟨.inl hk,c,hc,YH⟩⟩
      · rw[List.getElem?_set_ne (Ne.symm hj)] at e2;obtain⟨u',r',q⟩:=hl j y v' e1 e2 e3;refine⟨u',r',?_⟩;rcases q with q|⟨k,c',e,z'⟩
        · exact .inl q
        · refine .inr ⟨k,c',e,z'.sameBut hs ?_⟩;rintro rfl;exact hj (xS hN e1 (I.ok.inj _ _ _ e hc▸hi))
    · by_cases hcc:c'=c
      · subst hcc;exact⟨_,YH⟩
      · obtain⟨w2,z2⟩:=I.cell y c' e;exact⟨w2,z2.sameBut hs hcc⟩
    · obtain⟨e,n,ne,nf,d⟩:=I.pin p hp;refine⟨(hs.2 p.1 ?_).trans e,n,ne,nf,d⟩;intro q;rw[q,ZG] at e;have q':oc=p.2:=Option.some.inj e;exact d w' (by rw[<- q'];exact aaK)
theorem sC{M:Model}{A:Around}{E:q0A}{i:Nat}{x:Str}{v:V}{u:Value}{Q:Unit->Shared->Prop}(I:UI X UE σ H s)(hN:X.N.Nodup)(hi:X.N[i]?=some x)(hx:Loc X.env.scope x)(r:bU v u)
    (h:∀ s',UI X UE (σ.set i (some v)) H s'->Q () s') (hf:X.fn x=true\/X.env.scope.names.lookup x=some .local:=by first|exact .inl rfl|exact .inr rfl|assumption):wpAny M A (storeName X.env x u) Q E s :=
  AL I hN hi hx r (fun s' I' _=>h s' I') hf
theorem UI.DT{s':Shared}{ch:List Addr}(I:UI X UE σ H s)(ho:s'.os=s.os)(u:Un (frs X.stack) ch H H' s.heap s'.heap)(UL:HOk X.prog X.w H' s'.heap)(hg:AllBare s'.gens)
    (WS:∀ b∈ch,(b∈X.ex\/X.s₀.heap.objs.size<=b)/\b≠X.env.locals/\(∀ x c,X.env.cells.lookup x=some c->c≠b)/\∀ p∈X.pn++UE,p.1≠b):UI X UE σ H' s':=by
  obtain⟨h',g',d',t',o'⟩:=s';have e:o'=s.os:=ho;subst e;exact I.call (g':=g') (t':=t') (d':=d') u UL hg WS
end
noncomputable abbrev XK:=Value->Option Addr->Hp->Prop
noncomputable abbrev St:=List (Option V)
noncomputable abbrev VK:=V->Hp->Prop
noncomputable abbrev TE:=St->Hp->VK->Prop
noncomputable abbrev TT:=St->Hp->(Bool->Hp->Prop)->Prop
noncomputable abbrev TA:=St->Hp->(List V->Hp->Prop)->Prop
structure Ends where
 nx:St->Hp->Prop
 rt:VK
 bk:St->Hp->Prop:=fun _ _=>False
 ct:St->Hp->Prop:=fun _ _=>False
noncomputable abbrev TS:=Ends->St->Hp->Prop
inductive EP(X:Cx)(UE:List (Addr×Obj))(σ:St)(Q:VK)(u:Value)(s':Shared):Prop
 | mk (v:V) (H':Hp) (I:UI X UE σ H' s') (r:bU v u) (q:Q v H'):EP X UE σ Q u s'
noncomputable def TP(X:Cx)(UE:List (Addr×Obj))(σ:St)(Q:Bool->Hp->Prop)(b:Bool)(s':Shared):Prop:=∃ H',UI X UE σ H' s'/\Q b H'
inductive AP(X:Cx)(UE:List (Addr×Obj))(σ:St)(Q:List V->Hp->Prop)(us:List Value)(s':Shared):Prop
 | mk (vs:List V) (H':Hp) (I:UI X UE σ H' s') (r:Vals vs us) (q:Q vs H'):AP X UE σ Q us s'
noncomputable def SP(X:Cx)(UE:List (Addr×Obj))(D:Ends)(f:Flow)(s':Shared):Prop :=
 match f with
 | .next=>∃ σ' H',UI X UE σ' H' s'/\D.nx σ' H'
 | .brk=>∃ σ' H',UI X UE σ' H' s'/\D.bk σ' H'
 | .cont=>∃ σ' H',UI X UE σ' H' s'/\D.ct σ' H'
 | .ret u=>∃ v σ' H',UI X UE σ' H' s'/\bU v u/\D.rt v H'
noncomputable def PE(X:Cx)(e:Expr)(t:TE):Prop :=
 ∀(UE:List (Addr×Obj)) (s:Shared) (σ:St) (H:Hp) (Q:VK),UI X UE σ H s->t σ H Q->wpAny (model X.prog X.w) X.A (eval e X.env) (EP X UE σ Q) X.xe s
noncomputable def PT(X:Cx)(e:Expr)(t:TT):Prop :=
 ∀(UE:List (Addr×Obj)) (s:Shared) (σ:St) (H:Hp) (Q:Bool->Hp->Prop),UI X UE σ H s->t σ H Q->wpAny (model X.prog X.w) X.A (isTrue e X.env (eval e X.env)) (TP X UE σ Q) X.xe s
noncomputable def PW(X:Cx)(e:Expr)(t:TT):Prop :=
 ∀(whole:Sem Value) (UE:List (Addr×Obj)) (s:Shared) (σ:St) (H:Hp) (Q:Bool->Hp->Prop),UI X UE σ H s->t σ H Q->wpAny (model X.prog X.w) X.A (isTrue e X.env whole) (TP X UE σ Q) X.xe s
theorem PW.pt{X:Cx}{e:Expr}{t:TT}(h:PW X e t):PT X e t:=h _
noncomputable def PA(X:Cx)(es:List Expr)(t:TA):Prop :=
 ∀(pos:Pos) (UE:List (Addr×Obj)) (s:Shared) (σ:St) (H:Hp) (Q:List V->Hp->Prop),UI X UE σ H s->t σ H Q->wpAny (model X.prog X.w) X.A (spliced (backTo pos (starEach es X.env))) (AP X UE σ Q) X.xe s
noncomputable def PS(X:Cx)(st:Stmt)(t:TS):Prop :=
 ∀(UE:List (Addr×Obj)) (s:Shared) (σ:St) (H:Hp) (D:Ends),UI X UE σ H s->t D σ H->wpAny (model X.prog X.w) X.A (exec st X.env) (SP X UE D) X.xe s
noncomputable def VA(X:Cx)(st:List Stmt)(t:TS):Prop :=
 ∀(UE:List (Addr×Obj)) (s:Shared) (σ:St) (H:Hp) (D:Ends),UI X UE σ H s->t D σ H->wpAny (model X.prog X.w) X.A (execs st X.env) (SP X UE D) X.xe s
theorem thn{α:Type}{t:Sem α}{Q Q':α->Shared->Prop}{M:Model}{A:Around}{E:q0A}{s:Shared}(h:wpAny M A t Q E s)(hQ:∀ a s,Q a s->Q' a s):wpAny M A t Q' E s:=wpAny_mono h hQ fun _ _ x=>x
section
variable {X:Cx}
noncomputable def eM(i:Nat):TE:=fun σ H Q=>∃ v,σ[i]?=some (some v)/\Q v H
noncomputable def tC(v:V):TE:=fun _ H Q=>Q v H
theorem OL{i:Nat}{x:Str}{pos:Pos}(hN:X.N[i]?=some x)(hv:Vis X.env.scope x)(hd:(x==("__debug__":Str))=false:=by decide)(V7:(x==("__classdict__":Str))=false:=by decide):PE X (.Name x pos) (eM i):=by
 intro UE s σ H Q I h;obtain⟨v,e,h⟩:=h;obtain⟨m,hn,hl⟩:=I.loc;obtain⟨u,r,l⟩:=hl i x v hN e hv;have fin:EP X UE σ Q u s:=⟨v,H,I,r,h⟩;rcases l with⟨hk,hm⟩|⟨hk,c,hc,Xk⟩
 ·exact wpAny_Name (wpAny_loadName_local I.ok.kind hk hn hm fin) hd
 ·rcases hk with hk|hk
  ·exact wpAny_Name (wpAny_loadName_cell I.ok.kind hk hc Xk fin) hd
  ·exact wpAny_Name (wpAny_loadName_free I.ok.kind hk hc Xk fin V7) hd
theorem aG{i j pos}:PE X (.Constant (.int i) j pos) (tC (.int i)):=fun _ _ _ H _ I h=>wpAny_Constant_int ⟨.int i,H,I.tok _,⟨_,rfl⟩,h⟩
theorem uT{b j pos}:PE X (.Constant (.bool b) j pos) (tC (.bl b)):=fun _ _ _ H _ I h=>Constant_bool ⟨.bl b,H,I,rfl,h⟩
theorem qA{j pos}:PE X (.Constant .none j pos) (tC .UK):=fun _ _ _ H _ I h=>Constant_none ⟨.UK,H,I,rfl,h⟩
theorem aF{x j pos}:PE X (.Constant (.str x) j pos) (tC (.str x)):=fun _ _ _ H _ I h=>Calls.Constant_str ⟨.str x,H,I.tok _,⟨_,rfl⟩,h⟩
noncomputable def Gl(X:Cx)(x:Str):Prop:=X.env.kindOf x=some .globalImplicit
theorem lH{E:q0A}{UE:List (Addr×Obj)}{s:Shared}{σ:St}{H:Hp}{x:Str}{u:Value}{pos:Pos}{Q:q0A}(I:UI X UE σ H s)(hg:Gl X x)(hm:X.mg x=some u)(h:Q u s)
    (hd:(x==("__debug__":Str))=false:=by decide):wpAny (model X.prog X.w) X.A (eval (.Name x pos) X.env) Q E s :=
  Calls.Name_function_global I.ok.kind hg (Calls.loadGlobal_global (by rw[I.ok.glob];exact I.mod.glob.keeps I.bk) hm h) hd
theorem Bf{E:q0A}{UE:List (Addr×Obj)}{s:Shared}{σ:St}{H:Hp}{x:Str}{u:Value}{pos:Pos}{Q:q0A}(I:UI X UE σ H s)(hg:Gl X x)(hm:X.mg x=none)(hv:bootBuiltins x=some u)(h:Q u s)
    (hn:x≠"__name__":=by decide) (hd:(x==("__debug__":Str))=false:=by decide):wpAny (model X.prog X.w) X.A (eval (.Name x pos) X.env) Q E s:=by
  obtain⟨mb,h1,h2⟩:=I.mod.blt;exact Calls.Name_function_global I.ok.kind hg (Calls.loadGlobal_builtin (by rw[I.ok.glob];exact I.mod.glob.keeps I.bk) hm (by rw[I.ok.blt];exact h1.keeps I.bk) ((h2 x hn).trans hv) h) hd
theorem dM{x:Str}{v:V}{u:Value}{pos:Pos}(hg:Gl X x)(hm:X.mg x=some u)(r:bU v u)(hd:(x==("__debug__":Str))=false:=by decide):PE X (.Name x pos) (tC v) :=
 fun _ _ _ H _ I h=>lH I hg hm ⟨v,H,I,r,h⟩ hd
theorem Eg{x:Str}{v:V}{u:Value}{pos:Pos}(hg:Gl X x)(hm:X.mg x=none)(hv:bootBuiltins x=some u)(r:bU v u)(hn:x≠"__name__":=by decide)(hd:(x==("__debug__":Str))=false:=by decide):PE X (.Name x pos) (tC v) :=
 fun _ _ _ H _ I h=>Bf I hg hm hv ⟨v,H,I,r,h⟩ hn hd
variable {a b:Expr} {ta tb:TE} {pos:Pos}
noncomputable def tB(t:TE):TT:=fun σ H Q=>t σ H fun x H1=>∃ c,x=.bl c/\Q c H1
theorem j4{e:Expr}{t:TE}(h:PE X e t)(he:∀ whole,isTrue e X.env whole=(do let v <- whole;standAt e.pos;holding [v] (truthy v)):=by intro _;rfl):PT X e (tB t):=by
 intro UE s σ H Q I hw;refine isTrue_plain (thn (h UE s σ H _ I hw) fun v s1 ⟨x,H1,I1,r1,q1⟩=>?_) (he _);obtain⟨d,rfl,q⟩:=q1;cases r1;exact wpAny_truthy_bool ⟨H1,I1,q⟩
variable {tA ZO:TT} {rest:List Expr}
noncomputable def R8(t u:TT):TT:=fun σ H Q=>t σ H fun c H1=>if c=true then u σ H1 Q else Q false H1
noncomputable def Ut(t u:TT):TT:=fun σ H Q=>t σ H fun c H1=>if c=true then Q true H1 else u σ H1 Q
noncomputable def Sj(t:TT):TT:=fun σ H Q=>t σ H fun c H1=>Q (!c) H1
theorem oP(ha:PT X a tA):PW X (.BoolOp .And [a] pos) tA:=by
 intro wh UE s σ H Q I h;refine isTrue_and (thn (ha UE s σ H Q I h) fun c s1 e=>?_);cases c with
 | true=>exact isTrue_and_nil e
 | false=>exact e
theorem lO(ha:PT X a tA):PW X (.BoolOp .Or [a] pos) tA:=by
 intro wh UE s σ H Q I h;refine isTrue_or (thn (ha UE s σ H Q I h) fun c s1 e=>?_);cases c with
 | false=>exact isTrue_or_nil e
 | true=>exact e
theorem tT(ha:PT X a tA)(hb:PW X (.BoolOp .And (b::rest) pos) ZO):PW X (.BoolOp .And (a::b::rest) pos) (R8 tA ZO):=by
 intro wh UE s σ H Q I h;refine isTrue_and (thn (ha UE s σ H _ I h) fun c s1 ⟨H1,I1,q1⟩=>?_);cases c with
 | true=>exact hb wh UE s1 σ H1 Q I1 q1
 | false=>exact⟨H1,I1,q1⟩
theorem oZ(ha:PT X a tA)(hb:PW X (.BoolOp .Or (b::rest) pos) ZO):PW X (.BoolOp .Or (a::b::rest) pos) (Ut tA ZO):=by
 intro wh UE s σ H Q I h;refine isTrue_or (thn (ha UE s σ H _ I h) fun c s1 ⟨H1,I1,q1⟩=>?_);cases c with
 | true=>exact⟨H1,I1,q1⟩
 | false=>exact hb wh UE s1 σ H1 Q I1 q1
theorem jZ(ha:PT X a tA):PT X (.UnaryOp .Not a pos) (Sj tA):=by
 intro UE s σ H Q I h;exact isTrue_not (ha UE s σ H (fun c H1=>Q (!c) H1) I h)
noncomputable def Ik(ta tb:TE):TE:=fun σ H Q=>ta σ H fun x H1=>∃ c,x=.bl c/\if c=true then tb σ H1 Q else Q (.bl false) H1
noncomputable def Sl(ta tb:TE):TE:=fun σ H Q=>ta σ H fun x H1=>∃ c,x=.bl c/\if c=true then Q (.bl true) H1 else tb σ H1 Q
noncomputable def Ip(ta:TE):TE:=fun σ H Q=>ta σ H fun x H1=>∃ c,x=.bl c/\Q (.bl (!c)) H1
theorem Dy{op}{t:TE}(h:PE X a t):PE X (.BoolOp op [a] pos) t:=fun UE s σ H Q I hw=>BoolOp_one (h UE s σ H Q I hw)
theorem Dx(ha:PE X a ta)(hb:PE X (.BoolOp .And (b::rest) pos) tb):PE X (.BoolOp .And (a::b::rest) pos) (Ik ta tb):=by
 intro UE s σ H Q I h;refine BoolOp_and (thn (ha UE s σ H _ I h) fun v s1 ⟨x,H1,I1,r1,q1⟩=>?_);obtain⟨c,rfl,q1⟩:=q1;cases r1;refine wpAny_truthy_bool ?_;cases c with
 | true=>exact hb UE s1 σ H1 Q I1 q1
 | false=>exact⟨.bl false,H1,I1,rfl,q1⟩
theorem OK(ha:PE X a ta):PE X (.UnaryOp .Not a pos) (Ip ta):=by
 intro UE s σ H Q I h;refine UnaryOp_ (thn (ha UE s σ H _ I h) fun v s1 ⟨x,H1,I1,r1,q1⟩=>?_);obtain⟨c,rfl,q1⟩:=q1;cases r1;exact not_of (wpAny_truthy_bool ⟨.bl (!c),H1,I1,rfl,q1⟩)
noncomputable def Um(t:TT)(ta tb:TE):TE:=fun σ H Q=>t σ H fun c H1=>if c=true then ta σ H1 Q else tb σ H1 Q
theorem nG{c:Expr}(hc:PT X c tA)(ha:PE X a ta)(hb:PE X b tb):PE X (.IfExp c a b pos) (Um tA ta tb):=by
 intro UE s σ H Q I h;refine wpAny_IfExp (thn (hc UE s σ H _ I h) fun d s1 ⟨H1,I1,q1⟩=>?_);cases d with
 | true=>exact ha UE s1 σ H1 Q I1 q1
 | false=>exact hb UE s1 σ H1 Q I1 q1
end
noncomputable def dU(K:q0B)(H:Hp)(a:Addr)(xs:List V):Prop :=
 Rd H a (.lst xs) \/
  ∃(o:Obj) (UJ:Array Value) (n:Nat),K.lookup a=some o/\o.cls=.type "list"/\o.dict=none/\o.data=.seq UJ n/\UJ.size<=sizeLine/\Vals xs UJ.toList
noncomputable def gS(K:q0B)(H:Hp)(a:Addr)(xs:List V):Prop :=
 Rd H a (.tup xs) \/
  ∃(o:Obj) (UJ:Array Value) (n:Nat),K.lookup a=some o/\o.cls=.type "tuple"/\o.data=.seq UJ n/\UJ.size<=sizeLine/\Vals xs UJ.toList
noncomputable def S6:Value->Option V
 | .none=>some .UK
 | .bool b=>some (.bl b)
 | .int i _=>some (.int i)
 | .str x _=>some (.str x)
 | .bytes b _=>some (.byt b)
 | .float b _=>some (.flt b)
 | .ref a=>some (.ref a)
 | .type n=>some (.ty n)
 | _=>none
theorem bU.abs{x:V}{u:Value}(r:bU x u):S6 u=some x:=by
 cases x with
 | UK=>cases r;rfl
 | bl _=>cases r;rfl
 | int _=>obtain⟨t,rfl⟩:=r;rfl
 | str _=>obtain⟨t,rfl⟩:=r;rfl
 | byt _=>obtain⟨t,rfl⟩:=r;rfl
 | flt _=>obtain⟨t,rfl⟩:=r;rfl
 | ref _=>cases r;rfl
 | ty _=>cases r;rfl
theorem bU.inj{x y:V}{u:Value}(r:bU x u)(q:bU y u):x=y:=Option.some.inj (r.abs.symm.trans q.abs)
theorem Vals.inj{xs ys:List V}{us:List Value}(h:Vals xs us)(g:Vals ys us):xs=ys:=by
 induction h generalizing ys with
 | nil=>cases g;rfl
 | cons r t ih =>
  cases g with
  | cons r' t'=>rw[r.inj r',ih t']
section
variable {X:Cx} {UE:List (Addr×Obj)} {σ:St} {H:Hp} {s:Shared} {a:Addr} {xs ys:List V}
theorem dU.of{K:q0B}(h:H a=some (.lst xs)):dU K H a xs:=.inl (.inl h)
theorem gS.of{K:q0B}(h:H a=some (.tup xs)):gS K H a xs:=.inl (.inl h)
theorem UI.list(I:UI X UE σ H s)(h:dU X.K H a xs):∃ UJ:List Value,Vals xs UJ/\PlainL s.heap a UJ.toArray/\xs.length<=sizeLine:=by
 rcases h with h|⟨o,UJ,n,hk,hc,hd,hs,hz,r⟩
 ·obtain⟨z,UJ,n,r,e⟩:=h.ok I.UL;exact⟨UJ,r,⟨_,n,e,rfl,rfl,rfl⟩,z⟩
 ·refine⟨UJ.toList,r,⟨o,n,I.kIn a o hk,hc,hd,by simpa using hs⟩,?_⟩;have e:=r.length;simp only[Array.length_toList] at e;omega
theorem UI.tuple(I:UI X UE σ H s)(h:gS X.K H a xs):∃ UJ:List Value,Vals xs UJ/\IsTup s.heap a UJ.toArray/\xs.length<=sizeLine:=by
 rcases h with h|⟨o,UJ,n,hk,hc,hs,hz,r⟩
 ·obtain⟨z,UJ,r,p⟩:=h.ok I.UL;exact⟨UJ,r,p,z⟩
 ·refine⟨UJ.toList,r,⟨o,I.kIn a o hk,hc,n,by simpa using hs⟩,?_⟩;have e:=r.length;simp only[Array.length_toList] at e;omega
theorem UI.Hi(I:UI X UE σ H s)(h:dU X.K H a xs)(h':dU X.K H a ys):xs=ys:=by
 obtain⟨UJ,r,⟨o,n,e,_,_,d⟩,_⟩:=I.list h;obtain⟨its',r',⟨o',n',e',_,_,d'⟩,_⟩:=I.list h';rw[e] at e';cases e';rw[d] at d';injection d' with d1 _
 have:UJ=its':=by simpa using congrArg Array.toList d1
 subst this;exact r.inj r'
theorem UI.FG(I:UI X UE σ H s)(h:gS X.K H a xs)(h':gS X.K H a ys):xs=ys:=by
 obtain⟨UJ,r,⟨o,e,_,n,d⟩,_⟩:=I.tuple h;obtain⟨its',r',⟨o',e',_,n',d'⟩,_⟩:=I.tuple h';rw[e] at e';cases e';rw[d] at d';injection d' with d1 _
 have:UJ=its':=by simpa using congrArg Array.toList d1
 subst this;exact r.inj r'
end
noncomputable abbrev Cx.qJ(X:Cx)(E:q0A):Cx:={X with xe:=E}
noncomputable abbrev Cx.nox(X:Cx):Cx:=X.qJ fun _ _=>False
theorem Cx.Ok.qJ{X:Cx}(ok:X.Ok)(E:q0A):(X.qJ E).Ok :=
 ⟨ok.mod,ok.kind,ok.glob,ok.blt,ok.above,ok.inj,ok.has,ok.cab,ok.hd,ok.frames,ok.Xc,ok.exf,ok.bs,ok.bsz,ok.Dp,ok.E2,ok.oU,ok.frf⟩
theorem Cx.Ok.iL{X:Cx}{E:q0A}(ok:(X.qJ E).Ok):X.Ok :=
 ⟨ok.mod,ok.kind,ok.glob,ok.blt,ok.above,ok.inj,ok.has,ok.cab,ok.hd,ok.frames,ok.Xc,ok.exf,ok.bs,ok.bsz,ok.Dp,ok.E2,ok.oU,ok.frf⟩
section
variable {X:Cx} {UE:List (Addr×Obj)} {σ:St} {H:Hp} {s:Shared} {E:q0A}
theorem UI.qJ(I:UI X UE σ H s)(E:q0A):UI (X.qJ E) UE σ H s:=⟨I.ok.qJ E,I.os,I.bare,I.base,I.loc,I.cell,I.free,I.jK,I.pin,I.UL,I.len⟩
theorem UI.iL(I:UI (X.qJ E) UE σ H s):UI X UE σ H s:=⟨I.ok.iL,I.os,I.bare,I.base,I.loc,I.cell,I.free,I.jK,I.pin,I.UL,I.len⟩
theorem SP.iL{D:Ends}{f:Flow}{s':Shared}(h:SP (X.qJ E) UE D f s'):SP X UE D f s':=by
 cases f with
 | next=>obtain⟨σ',H',I,q⟩:=h;exact⟨σ',H',I.iL,q⟩
 | brk=>obtain⟨σ',H',I,q⟩:=h;exact⟨σ',H',I.iL,q⟩
 | cont=>obtain⟨σ',H',I,q⟩:=h;exact⟨σ',H',I.iL,q⟩
 | ret u=>obtain⟨v,σ',H',I,r,q⟩:=h;exact⟨v,σ',H',I.iL,r,q⟩
theorem PE.nox{e:Expr}{t:TE}(h:PE X.nox e t):PE X e t:=fun UE s σ H Q I hw =>
 wpAny_mono (h UE s σ H Q (I.qJ _) hw) (fun _ _ ⟨v,H',I',r,q⟩=>⟨v,H',I'.iL,r,q⟩) fun _ _ z=>False.elim z
theorem PT.nox{e:Expr}{t:TT}(h:PT X.nox e t):PT X e t:=fun UE s σ H Q I hw =>
 wpAny_mono (h UE s σ H Q (I.qJ _) hw) (fun _ _ ⟨H',I',q⟩=>⟨H',I'.iL,q⟩) fun _ _ z=>False.elim z
theorem VA.nox{st:List Stmt}{t:TS}(h:VA X.nox st t):VA X st t:=fun UE s σ H D I hw =>
 wpAny_mono (h UE s σ H D (I.qJ _) hw) (fun _ _ q=>q.iL) fun _ _ z=>False.elim z
end
section
variable {X:Cx} {st:Stmt} {rest:List Stmt} {t u:TS} {e:Expr} {te:TE} {pos:Pos}
noncomputable def LI:TS:=fun D σ H=>D.nx σ H
noncomputable def Pd(t u:TS):TS:=fun D σ H=>t {D with nx:=u D} σ H
theorem aR:VA X [] LI:=fun _ _ σ H _ I h=>wpAny_execs_nil ⟨σ,H,I,h⟩
theorem aD(h1:PS X st t)(h2:VA X rest u):VA X (st::rest) (Pd t u):=by
 intro UE s σ H D I h;refine wpAny_execs_cons (thn (h1 UE s σ H {D with nx:=u D} I h) fun f s1 q=>?_);cases f with
 | next =>
  obtain⟨σ',H',I',q⟩:=q;exact h2 UE s1 σ' H' D I' q
 | ret v=>exact q
 | brk=>exact q
 | cont=>exact q
theorem aH(h1:PS X st t):VA X [st] t:=by
 intro UE s σ H D I h;refine wpAny_execs_cons (thn (h1 UE s σ H D I h) fun f s1 q=>?_);cases f with
 | next=>exact wpAny_execs_nil q
 | ret v=>exact q
 | brk=>exact q
 | cont=>exact q
noncomputable def Pa:TS:=fun D σ H=>D.bk σ H
noncomputable def Sb:TS:=fun D σ H=>D.ct σ H
theorem UI.quiet{UE:List (Addr×Obj)}{σ:St}{H:Hp}{s:Shared}(I:UI X UE σ H s):interactive X.env=false:=by simp[interactive,I.ok.kind]
noncomputable def LH(te:TE):TS:=fun D σ H=>te σ H fun _ H1=>D.nx σ H1
theorem iQ(he:PE X e te)(hs:swapsWith e none pos.line X.env=pure false:=by rfl):PS X (.Expr e pos) (LH te):=by
 intro UE s σ H D I h;exact wpAny_Expr_any (thn (he UE s σ H _ I h) fun v s1 ⟨x,H1,I1,r1,q1⟩=>⟨σ,H1,I1,q1⟩) I.quiet hs
noncomputable def Sm(te:TE):TS:=fun D σ H=>te σ H D.rt
theorem aN(he:PE X e te):PS X (.Return (some e) pos) (Sm te):=by
 intro UE s σ H D I h;exact wpAny_Return_some (thn (he UE s σ H _ I h) fun v s1 ⟨x,H1,I1,r1,q1⟩=>⟨x,σ,H1,I1,r1,q1⟩)
noncomputable def Sn:TS:=fun D _ H=>D.rt .UK H
noncomputable def Sh(c:TT)(t u:TS):TS:=fun D σ H=>c σ H fun b H1=>if b=true then t D σ H1 else u D σ H1
theorem bE{c:Expr}{a b:List Stmt}{tc:TT}(hc:PT X c tc)(ha:VA X a t)(hb:VA X b u):PS X (.If c a b pos) (Sh tc t u):=by
 intro UE s σ H D I h;refine wpAny_If (thn (hc UE s σ H _ I h) fun d s1 ⟨H1,I1,q1⟩=>?_);cases d with
 | true=>exact ha UE s1 σ H1 D I1 q1
 | false=>exact hb UE s1 σ H1 D I1 q1
noncomputable def Pc:TS:=fun _ _ _=>False
end
noncomputable abbrev TG:=V->St->Hp->(St->Hp->Prop)->Prop
noncomputable abbrev TGs:=List V->St->Hp->(St->Hp->Prop)->Prop
noncomputable def PG(X:Cx)(target:Expr)(t:TG):Prop :=
 ∀(UE:List (Addr×Obj)) (s:Shared) (σ:St) (H:Hp) (v:V) (u:Value) (Q:St->Hp->Prop),UI X UE σ H s->bU v u->t v σ H Q ->
  wpAny (model X.prog X.w) X.A (assign target X.env u) (fun _ s'=>∃ σ' H',UI X UE σ' H' s'/\Q σ' H') X.xe s
noncomputable def PGs(X:Cx)(ts:List Expr)(t:TGs):Prop :=
 ∀(UE:List (Addr×Obj)) (s:Shared) (σ:St) (H:Hp) (vs:List V) (us:List Value) (Q:St->Hp->Prop),UI X UE σ H s->Vals vs us->t vs σ H Q ->
  wpAny (model X.prog X.w) X.A (assignInOrder ((assignEach ts X.env).map (·.2)) us) (fun _ s'=>∃ σ' H',UI X UE σ' H' s'/\Q σ' H') X.xe s
noncomputable abbrev TSet:=V->V->V->Hp->(Hp->Prop)->Prop
noncomputable def PSet(X:Cx)(t:TSet):Prop :=
 ∀(UE:List (Addr×Obj)) (s:Shared) (σ:St) (H:Hp) (o i v:V) (ov iv u:Value) (Q:Hp->Prop),UI X UE σ H s->bU o ov->bU i iv->bU v u->t o i v H Q ->
  wpAny (model X.prog X.w) X.A (setItem ov iv u) (fun _ s'=>∃ H',UI X UE σ H' s'/\Q H') X.xe s
noncomputable abbrev TIp:=V->V->Hp->VK->Prop
section
variable {X:Cx} {pos:Pos}
noncomputable def uN(i:Nat):TG:=fun v σ H Q=>Q (σ.set i (some v)) H
theorem lN{i:Nat}{x:Str}(hN:X.N.Nodup)(hi:X.N[i]?=some x)(hx:Loc X.env.scope x)(hf:X.fn x=true\/X.env.scope.names.lookup x=some .local:=by first|exact .inl rfl|exact .inr rfl|assumption):PG X (.Name x pos) (uN i):=by
 intro UE s σ H v u Q I r h;exact wpAny_assign_Name (sC I hN hi hx r (fun s' I'=>⟨_,H,I',h⟩) hf)
noncomputable def N9:TGs:=fun vs σ H Q=>vs=[]/\Q σ H
noncomputable def Lq(t:TG)(u:TGs):TGs:=fun vs σ H Q=>∃ v r,vs=v::r/\t v σ H fun σ' H'=>u r σ' H' Q
theorem Eh:PGs X [] N9:=by
 intro UE s σ H vs us Q I r h;obtain⟨e,h⟩:=h;subst e;cases r;exact assignInOrder_nil ⟨σ,H,I,h⟩
theorem rW{e:Expr}{es:List Expr}{t:TG}{u:TGs}(h1:PG X e t)(h2:PGs X es u)
    (hs:(assignEach (e::es) X.env).map (·.2)=assign e X.env::(assignEach es X.env).map (·.2):=by rfl):PGs X (e::es) (Lq t u):=by
  intro UE s σ H vs us Q I r h;obtain⟨v,vr,e1,h⟩:=h;subst e1;cases r with
  | cons r rr =>
    rw[hs];refine assignInOrder_cons (thn (h1 UE s σ H _ _ _ I r h) fun _ s1 ⟨σ1,H1,I1,q1⟩=>?_);exact h2 UE s1 σ1 H1 _ _ Q I1 rr q1
noncomputable def Oa(K:q0B)(n:Nat)(t:TGs):TG:=fun v σ H Q=>∃ a xs,v=.ref a/\gS K H a xs/\xs.length=n/\t xs σ H Q
theorem HI{es:List Expr}{k:Nat}{t:TGs}{n:Nat}(hc:X.calm=true)(h:PGs X es t)
    (hn:(assignEach es X.env).length=n:=by rfl) (Vs:(assignEach es X.env).findIdx? (·.1)=none:=by rfl):PG X (.Tuple es k pos) (Oa X.K n t):=by
  intro UE s σ H v u Q I r hw;obtain⟨a,xs,e1,hq,hl,hw⟩:=hw;subst e1;cases r;obtain⟨UJ,rv,ht,hz⟩:=I.tuple hq;refine assign_Tuple_tuple (I.ok.hd hc) ht (by simp[hn,<- hl,rv.length]) Vs fun h' hx=>?_;have I1:UI X UE σ H {s with heap:=h'}:=I.kept (t':=s.toks) fun b o e=>hx b o (Nat.ne_of_lt (Heap.lt_size e)) e;exact h UE _ σ H xs _ Q I1 (by simpa using rv) hw
noncomputable def Ra(to ti:TE)(t:TSet):TG:=fun v σ H Q=>to σ H fun o H1=>ti σ H1 fun i H2=>t o i v H2 fun H3=>Q σ H3
theorem nI{o i:Expr}{to ti:TE}{t:TSet}(ho:PE X o to)(hi:PE X i ti)(hs:PSet X t)
    (ha:∀ v,assign (.Subscript o i pos) X.env v=(do
      let ov <- holding [v] (eval o X.env);let iv <- holding [v,ov] (eval i X.env)
      standAt pos
      holding [v,ov,iv] (setItem ov iv v)
      release [v,ov,iv] []):=by intro _;rfl):PG X (.Subscript o i pos) (Ra to ti t):=by
  intro UE s σ H v u Q I r h;rw[ha];refine wpAny_bind (wpAny_holding (thn (ho UE s σ H _ I h) fun ov s1 ⟨x,H1,I1,r1,q1⟩=>?_));refine wpAny_bind (wpAny_holding (thn (hi UE s1 σ H1 _ I1 q1) fun iv s2 ⟨y,H2,I2,r2,q2⟩=>?_));refine wpAny_bind (wpAny_standAt (wpAny_bind (wpAny_holding (thn (hs UE s2 σ H2 x y v ov iv u _ I2 r1 r2 r q2) fun _ s3 ⟨H3,I3,q3⟩=>?_))));exact wpAny_release ⟨σ,H3,I3,q3⟩
noncomputable def KS(te:TE)(g:TG):TS:=fun D σ H=>te σ H fun x H1=>g x σ H1 D.nx
theorem nJ{tg e:Expr}{te:TE}{g:TG}(he:PE X e te)(hg:PG X tg g)(hs:swapsWithSole [tg] e pos.line X.env=pure false:=by rfl)(hw:swappedStores [tg] e X.env=pure none:=by rfl)
    (h1:(assignEach [tg] X.env).map (·.2)=[assign tg X.env]:=by rfl):PS X (.Assign [tg] e pos) (KS te g):=by
  intro UE s σ H D I h;refine wpAny_Assign_stores (thn (he UE s σ H _ I h) fun v s1 ⟨x,H1,I1,r1,q1⟩=>?_) hs hw;rw[h1];exact thn (hg UE s1 σ H1 x v _ I1 r1 q1) fun _ s2 q=>q
theorem aO{i:Nat}{x:Str}{e:Expr}{te:TE}{pos':Pos}(hN:X.N.Nodup)(hi:X.N[i]?=some x)(hx:Loc X.env.scope x)(he:PE X e te)(hs:swapsWith e (some (.Name x pos')) pos.line X.env=pure false:=by rfl)(hf:X.fn x=true\/X.env.scope.names.lookup x=some .local:=by first|exact .inl rfl|exact .inr rfl|assumption) :
    PS X (.Assign [.Name x pos'] e pos) (KS te (uN i)):=by
  intro UE s σ H D I h;refine wpAny_Assign_Name (thn (he UE s σ H _ I h) fun v s1 ⟨y,H1,I1,r1,q1⟩=>?_) hs;exact sC I1 hN hi hx r1 (fun s2 I2=>⟨_,H1,I2,q1⟩) hf
noncomputable def Ub(i:Nat)(te:TE)(ti:TIp):TS:=fun D σ H=>∃ x,σ[i]?=some (some x)/\te σ H fun y H1=>ti x y H1 fun z H2=>D.nx (σ.set i (some z)) H2
noncomputable def Sa(to ti te:TE)(Xd:V->V->Hp->VK->Prop)(ZP:TIp)(Xe:TSet):TS:=fun D σ H=>to σ H fun o H1=>ti σ H1 fun i H2=>Xd o i H2 fun x H3=>te σ H3 fun y H4=>ZP x y H4 fun z H5=>Xe o i z H5 fun H6=>D.nx σ H6
end
section
variable {X:Cx} {pos:Pos}
noncomputable def Pe(c:TT)(tb:TS):TS:=fun D σ H=>∃ W:Nat->St->Hp->Prop,(∃ m,W m σ H)/\∀ m σ H,W m σ H ->
 c σ H fun b H1=>if b=true then ∃ N:St->Hp->Prop,(∀ σ' H',N σ' H'->∃ m',m' < m/\W m' σ' H')/\tb {D with nx:=N,ct:=N,bk:=D.nx} σ H1 else D.nx σ H1
theorem yB{c:Expr}{body:List Stmt}{tc:TT}{tb:TS}(hp:PassesOwn (model X.prog X.w) X.A X.env X.xe)(hc:PT X c tc)(hb:VA X body tb):PS X (.While c body [] pos) (Pe tc tb):=by
 intro UE s σ H D I h;obtain⟨W,⟨m0,w0⟩,turn⟩:=h;refine wpAny_While (codeAny_whileLoop (fun n s'=>∃ σ' H',UI X UE σ' H' s'/\W n σ' H') ?_ m0 ⟨σ,H,I,w0⟩);rintro n s1 ⟨σ1,H1,I1,w1⟩;refine wpAny_passesOwn hp (thn (hc UE s1 σ1 H1 _ I1 (turn n σ1 H1 w1)) fun b s2 ⟨H2,I2,q2⟩=>?_);cases b with
 | true =>
  obtain⟨N,hN,q2⟩:=q2;rw[if_pos rfl];refine wpAny_passesOwn hp (thn (hb UE s2 σ1 H2 _ I2 q2) fun f s3 q3=>?_);cases f with
  | next =>
   obtain⟨σ3,H3,I3,n3⟩:=q3;obtain⟨m',hm,w3⟩:=hN σ3 H3 n3;exact⟨m',hm,σ3,H3,I3,w3⟩
  | cont =>
   obtain⟨σ3,H3,I3,n3⟩:=q3;obtain⟨m',hm,w3⟩:=hN σ3 H3 n3;exact⟨m',hm,σ3,H3,I3,w3⟩
  | brk=>exact q3
  | ret v=>exact q3
 | false =>
  rw[if_neg Bool.false_ne_true];exact wpAny_execs_nil ⟨σ1,H2,I2,q2⟩
end
structure It where
 go:Nat->Hp->Prop
 yld:Nat->Hp->V->Hp->Prop
 stop:Nat->Hp->Prop
noncomputable def qP(X:Cx)(UE:List (Addr×Obj))(H:Hp)(b:Addr):Prop :=
 H b=none/\b≠X.env.locals/\b∉X.fs/\(b∈X.ex\/X.s₀.heap.objs.size<=b)/\(∀ x c,X.env.cells.lookup x=some c->c≠b)/\∀ p∈X.pn++UE,p.1≠b
theorem UI.E4{X:Cx}{UE:List (Addr×Obj)}{σ:St}{H H':Hp}{s:Shared}{b:Addr}(I:UI X UE σ H s)(hb:s.heap.objs.size<=b)(hn:H' b=none):qP X UE H' b:=by
 refine⟨hn,Nat.ne_of_gt (Nat.lt_of_lt_of_le I.lt hb),I.Rt hb,.inr (Nat.le_trans I.sz hb),fun x c e z=>?_,fun p hp z=>?_⟩
 ·obtain⟨v,q⟩:=I.cell x c e;exact absurd (Nat.lt_of_lt_of_le q.lt (by rw[z];exact hb)) (Nat.lt_irrefl _)
 ·exact absurd (Nat.lt_of_lt_of_le (Heap.lt_size (I.pin p hp).1) (by rw[z];exact hb)) (Nat.lt_irrefl _)
structure Turn(P:Program)(w:World)(K:q0B)(tg:Expr)(J:It)(fp:List Addr)(it:Addr)(tn:Nat->Heap->Prop):Prop where
 mem:it∈fp
 obj:∀ i h,tn i h->∀ b∈fp,∃ o,h.get? b=some o/\∀ v,o.data≠.cell v
 keep:∀ i h h',tn i h->(∀ b∈fp,∀ o,h.get? b=some o->h'.get? b=some o)->tn i h'
 item:∀(X:Cx),X.prog=P->X.w=w->X.K=K->X.calm=true->∀(i:Nat) (UE:List (Addr×Obj)) (s:Shared) (σ:St) (H:Hp) (E:q0A),UI X UE σ H s->(∀ b∈fp,qP X UE H b)->tn i s.heap->J.go i H ->
  wpAny (model P w) X.A (pyNext (.ref it)) (fun r s1=>∃ u,r=some u /\
   wpAny (model P w) X.A (letOwnedTupleGo tg (.ref it) u) (fun _ s2=>∃ x H',UI X UE σ H' s2/\bU x u/\J.yld i H x H'/\tn (i+1) s2.heap/\∀ b∈fp,H' b=none) E s1) E s
 done:∀(X:Cx),X.prog=P->X.w=w->X.K=K->X.calm=true->∀(i:Nat) (UE:List (Addr×Obj)) (s:Shared) (σ:St) (H:Hp) (E:q0A),UI X UE σ H s->(∀ b∈fp,qP X UE H b)->tn i s.heap->J.stop i H ->
  wpAny (model P w) X.A (pyNext (.ref it)) (fun r s1=>r=none/\UI X UE σ H s1) E s
 self:∀(A:Around) (i:Nat) (s:Shared) (Q:q0A) (E:q0A),tn i s.heap->Q (.ref it) s->wpAny (model P w) A (pyIter (.ref it)) Q E s
noncomputable abbrev TI:=St->Hp->(It->Hp->Prop)->Prop
noncomputable def PIE(X:Cx)(UE:List (Addr×Obj))(σ:St)(tg:Expr)(R:It->Hp->Prop)(ZI:Value)(s2:Shared):Prop :=
 ∃(it:Addr) (fp:List Addr) (tn:Nat->Heap->Prop) (J:It) (H':Hp),ZI=.ref it/\UI X UE σ H' s2/\Turn X.prog X.w X.K tg J fp it tn/\tn 0 s2.heap/\(∀ b∈fp,qP X UE H' b)/\R J H'
noncomputable def PI(X:Cx)(tg iter:Expr)(wi:TI):Prop :=
 ∀(UE:List (Addr×Obj)) (s:Shared) (σ:St) (H:Hp) (R:It->Hp->Prop),UI X UE σ H s->wi σ H R ->
  wpAny (model X.prog X.w) X.A (eval iter X.env) (fun v s1=>wpAny (model X.prog X.w) X.A (pyIter v) (PIE X UE σ tg R) X.xe s1) X.xe s
theorem D5{M:Model}{A:Around}{E:q0A}{s:Shared}{tg:Expr}{it:Addr}{u:Value}{o:Obj}{n:String}{vs:Array Value}{Q:Unit->Shared->Prop}(ho:s.heap.get? it=some o)(hc:o.cls=.type n)(hd:o.data=.fields vs)
    (hn:["enumerate","zip","dict_itemiterator","dict_reverseitemiterator","odict_iterator","itertools.zip_longest","itertools.pairwise"].contains n=false) (hQ:Q () s):wpAny M A (letOwnedTupleGo tg (.ref it) u) Q E s:=by
  unfold letOwnedTupleGo;cases tg<;>first
    | exact wpAny_pure hQ
    | (cases u<;>first
        | exact wpAny_pure hQ
        | (refine wpAny_bind (wpAny_load ho ?_)
           rw[hc,hd];show wpAny M A (if (["enumerate","zip","dict_itemiterator","dict_reverseitemiterator","odict_iterator","itertools.zip_longest","itertools.pairwise"].contains n&&vs[0]?==some (rawInt _))=true then _ else _) Q E s;rw[if_neg (by intro h;rw[hn,Bool.false_and] at h;cases h)];exact wpAny_pure hQ))
noncomputable def Wc(K:q0B)(a:Addr):It :=
 ⟨fun i H=>∃ xs x,dU K H a xs/\xs[i]?=some x,fun i H x H'=>H'=H/\∀ xs,dU K H a xs->xs[i]?=some x,fun i H=>∃ xs,dU K H a xs/\xs.length<=i⟩
noncomputable def Xi(K:q0B)(a:Addr):It :=
 ⟨fun i H=>∃ xs x,gS K H a xs/\xs[i]?=some x,fun i H x H'=>H'=H/\∀ xs,gS K H a xs->xs[i]?=some x,fun i H=>∃ xs,gS K H a xs/\xs.length<=i⟩
noncomputable def V0(lo:Int)(n:Nat):It:=⟨fun i _=>i < n,fun i H x H'=>H'=H/\x=.int (lo+i),fun i _=>n<=i⟩
theorem FH{P:Program}{w:World}{K:q0B}{tg:Expr}(a it:Addr):Turn P w K tg (Wc K a) [it] it (fun i h=>h.IsListIter it a i) where
 mem:=by simp
 obj:=fun i h st b hb=>by
  have e:b=it:=by simpa using hb
  subst e;obtain⟨o,e,c,d⟩:=st;exact⟨o,e,fun v z=>by rw[d] at z;cases z⟩
 keep:=fun i h h' st k=>st.at fun o e=>k it (by simp) o e
 item:=by
  intro X hP hw hK hc i UE s σ H E I hf st hg;subst hP hw hK;obtain⟨xs,x,hq,hx⟩:=hg;obtain⟨UJ,rv,p,hz⟩:=I.list hq;obtain⟨u,hu,ru⟩:=rv.get hx;obtain⟨f0,f1,f2,f3,f4,f5⟩:=hf it (by simp);refine wpAny_pyNext_list_item st p.isList (x:=u) (by simpa using hu) fun h' WG sb=>?_;have I1:UI X UE σ H {s with heap:=h'}:=I.turned (t':=s.toks) (fun b o hb e=>(sb.2 b hb).trans e) f0 f1 f3 f4 f5;obtain⟨o,e,c,d⟩:=id WG;exact⟨u,rfl,D5 (s:={s with heap:=h'}) e c d (by decide) ⟨x,H,I1,ru,⟨rfl,fun ys hy=>by rw[I.Hi hy hq];exact hx⟩,WG,fun b hb=>(hf b hb).1⟩⟩
 done:=by
  intro X hP hw hK hc i UE s σ H E I hf st hg;subst hP hw hK;obtain⟨xs,hq,hx⟩:=hg;obtain⟨UJ,rv,p,hz⟩:=I.list hq;obtain⟨f0,f1,f2,f3,f4,f5⟩:=hf it (by simp);have hl:=rv.length;exact wpAny_pyNext_list_end (I.ok.hd hc) st p.isList (by simp;omega) fun h' eb=>⟨rfl,I.turned (t':=s.toks) (fun b o hb e=>eb b o hb e) f0 f1 f3 f4 f5⟩
 self:=fun _ _ _ _ _ st h=>wpAny_pyIter_listiter st h
theorem DJ{P:Program}{w:World}{K:q0B}{tg:Expr}(a it:Addr):Turn P w K tg (Xi K a) [it] it (fun i h=>h.IsTupleIter it a i) where
 mem:=by simp
 obj:=fun i h st b hb=>by
  have e:b=it:=by simpa using hb
  subst e;obtain⟨o,e,c,d⟩:=st;exact⟨o,e,fun v z=>by rw[d] at z;cases z⟩
 keep:=fun i h h' st k=>st.at fun o e=>k it (by simp) o e
 item:=by
  intro X hP hw hK hc i UE s σ H E I hf st hg;subst hP hw hK;obtain⟨xs,x,hq,hx⟩:=hg;obtain⟨UJ,rv,p,hz⟩:=I.tuple hq;obtain⟨u,hu,ru⟩:=rv.get hx;obtain⟨f0,f1,f2,f3,f4,f5⟩:=hf it (by simp);refine wpAny_pyNext_tuple_item st (show s.heap.IsTuple a UJ.toArray from p) (x:=u) (by simpa using hu) fun h' WG sb=>?_;have I1:UI X UE σ H {s with heap:=h'}:=I.turned (t':=s.toks) (fun b o hb e=>(sb.2 b hb).trans e) f0 f1 f3 f4 f5;obtain⟨o,e,c,d⟩:=id WG;exact⟨u,rfl,D5 (s:={s with heap:=h'}) e c d (by decide) ⟨x,H,I1,ru,⟨rfl,fun ys hy=>by rw[I.FG hy hq];exact hx⟩,WG,fun b hb=>(hf b hb).1⟩⟩
 done:=by
  intro X hP hw hK hc i UE s σ H E I hf st hg;subst hP hw hK;obtain⟨xs,hq,hx⟩:=hg;obtain⟨UJ,rv,p,hz⟩:=I.tuple hq;obtain⟨f0,f1,f2,f3,f4,f5⟩:=hf it (by simp);have hl:=rv.length;exact wpAny_pyNext_tuple_end (I.ok.hd hc) st (show s.heap.IsTuple a UJ.toArray from p) (by simp;omega) fun h' eb=>⟨rfl,I.turned (t':=s.toks) (fun b o hb e=>eb b o hb e) f0 f1 f3 f4 f5⟩
 self:=fun _ _ _ _ _ st h=>wpAny_pyIter_tupleiter st h
theorem DI{P:Program}{w:World}{K:q0B}{tg:Expr}(it:Addr)(lo:Int)(n:Nat):Turn P w K tg (V0 lo n) [it] it (fun i h=>IsRangeIter h it (lo+(i:Nat) * 1) ((n:Int) - (i:Nat)) 1) where
 mem:=by simp
 obj:=fun i h st b hb=>by
  have e:b=it:=by simpa using hb
  subst e;exact⟨_,st,fun v z=>by
   have z':Data.fields _=Data.cell v:=z;cases z'⟩
 keep:=fun i h h' st k=>k it (by simp) _ st
 item:=by
  intro X hP hw hK hc i UE s σ H E I hf st hg;subst hP hw hK;obtain⟨f0,f1,f2,f3,f4,f5⟩:=hf it (by simp);have W:=Walks.range (prog:=X.prog) (w:=X.w) (I.ok.hd hc) it lo 1 n;refine W.item i s _ _ hg st fun v h' tk hv WG kk=>?_;obtain⟨t,rfl⟩:=hv;have I1:UI X UE σ H {s with heap:=h',toks:=tk}:=I.turned (fun b o hb e=>kk b o (by simpa using hb) e) f0 f1 f3 f4 f5;refine⟨_,rfl,D5 (s:={s with heap:=h',toks:=tk}) (n:="range_iterator") WG rfl rfl (by decide) ⟨.int (lo+i),H,I1,⟨t,?_⟩,⟨rfl,rfl⟩,WG,fun b hb=>(hf b hb).1⟩⟩;rw[Int.mul_one]
 done:=by
  intro X hP hw hK hc i UE s σ H E I hf st hg;subst hP hw hK;obtain⟨f0,f1,f2,f3,f4,f5⟩:=hf it (by simp);exact wpAny_pyNext_range_end (I.ok.hd hc) st (by have:n<=i:=hg;omega) fun h' eb=>⟨rfl,I.turned (t':=s.toks) (fun b o hb e=>eb b o hb e) f0 f1 f3 f4 f5⟩
 self:=fun _ _ _ _ _ st h=>wpAny_pyIter_rangeiter st h
section
variable {X:Cx} {tg:Expr}
noncomputable def Ca(K:q0B)(tl:TE):TI:=fun σ H R=>tl σ H fun x H1=>∃ a,x=.ref a/\(∃ xs,dU K H1 a xs)/\R (Wc K a) H1
noncomputable def G8(K:q0B)(tl:TE):TI:=fun σ H R=>tl σ H fun x H1=>∃ a,x=.ref a/\(∃ xs,gS K H1 a xs)/\R (Xi K a) H1
theorem vQ{l:Expr}{tl:TE}(hl:PE X l tl):PI X tg l (Ca X.K tl):=by
 intro UE s σ H R I h;refine thn (hl UE s σ H _ I h) fun v s1 ⟨x,H1,I1,r1,q1⟩=>?_;obtain⟨a,e,⟨xs,hq⟩,q⟩:=q1;subst e;cases r1;obtain⟨UJ,rv,p,hz⟩:=I1.list hq;refine wpAny_pyIter_list p.isList ?_;refine⟨s1.heap.objs.size,[s1.heap.objs.size],_,_,H1,rfl,I1.kept (t':=s1.toks) fun b o e=>Heap.get?_push_of_some _ e,FH a _,⟨_,Heap.get?_push_size _ rfl,rfl,rfl⟩,fun b hb=>?_,q⟩;have e:b=s1.heap.objs.size:=by simpa using hb
 subst e;exact I1.E4 (Nat.le_refl _) (I1.UL.fresh (Nat.le_refl _))
theorem HK{l:Expr}{tl:TE}(hl:PE X l tl):PI X tg l (G8 X.K tl):=by
 intro UE s σ H R I h;refine thn (hl UE s σ H _ I h) fun v s1 ⟨x,H1,I1,r1,q1⟩=>?_;obtain⟨a,e,⟨xs,hq⟩,q⟩:=q1;subst e;cases r1;obtain⟨UJ,rv,p,hz⟩:=I1.tuple hq;refine wpAny_pyIter_tuple (show s1.heap.IsTuple a UJ.toArray from p) ?_;refine⟨s1.heap.objs.size,[s1.heap.objs.size],_,_,H1,rfl,I1.kept (t':=s1.toks) fun b o e=>Heap.get?_push_of_some _ e,DJ a _,⟨_,Heap.get?_push_size _ rfl,rfl,rfl⟩,fun b hb=>?_,q⟩;have e:b=s1.heap.objs.size:=by simpa using hb
 subst e;exact I1.E4 (Nat.le_refl _) (I1.UL.fresh (Nat.le_refl _))
theorem HQ{UE:List (Addr×Obj)}{σ:St}{H:Hp}{s:Shared}{R:It->Hp->Prop}{E:q0A}{lo hi:Int}{t u v:Tok}{tk:Nat}(I:UI X UE σ H s)(h1:-(2 ^ 62)<=lo)(h2:lo < 2 ^ 62)(h3:-(2 ^ 62)<=hi)(h4:hi < 2 ^ 62)
    (q:R (V0 lo (hi - lo).toNat) H):wpAny (model X.prog X.w) X.A (pyIter (.ref s.heap.objs.size)) (PIE X UE σ tg R) E {s with heap:=s.heap.push {cls:=.type "range",data:=.fields #[.int lo t,.int hi u,.int 1 v]},toks:=tk}:=by
  refine wpAny_pyIter_range (IsRange.new ..) (small_one h1 h2 h3 h4) ?_;have I1:UI X UE σ H {s with heap:=s.heap.push {cls:=.type "range",data:=.fields #[.int lo t,.int hi u,.int 1 v]},toks:=tk}:=I.kept fun b o e=>Heap.get?_push_of_some _ e;refine⟨(s.heap.push {cls:=.type "range",data:=.fields #[.int lo t,.int hi u,.int 1 v]}).objs.size,[(s.heap.push {cls:=.type "range",data:=.fields #[.int lo t,.int hi u,.int 1 v]}).objs.size],_,_,H,rfl,
    I1.kept (t':=tk) fun b o e=>Heap.get?_push_of_some _ e,DI _ lo (hi - lo).toNat,?_,fun b hb=>?_,q⟩
  · have e1:lo+((0:Nat):Int) * 1=lo:=by simp
    have e2:(((hi - lo).toNat:Nat):Int) - ((0:Nat):Int)=Builtin.Range.rangeSize lo hi 1:=by rw[rangeSize_one];split<;>omega
    show IsRangeIter _ _ (lo+((0:Nat):Int) * 1) ((((hi - lo).toNat:Nat):Int) - ((0:Nat):Int)) 1;rw[e1,e2];exact Heap.get?_push_size _ rfl
  · have e:b=(s.heap.push {cls:=.type "range",data:=.fields #[.int lo t,.int hi u,.int 1 v]}).objs.size:=by simpa using hb
    subst e;exact I1.E4 (Nat.le_refl _) (I1.UL.fresh (Nat.le_refl _))
noncomputable def Cb(ta:TA):TI:=fun σ H R=>ta σ H fun vs H1=>∃ j:Int,vs=[.int j]/\-(2 ^ 62)<=j/\j < 2 ^ 62/\R (V0 0 j.toNat) H1
noncomputable def Ls(ta:TA):TI:=fun σ H R=>ta σ H fun vs H1=>∃ i j:Int,vs=[.int i,.int j]/\(-(2 ^ 62)<=i/\i < 2 ^ 62/\-(2 ^ 62)<=j/\j < 2 ^ 62)/\R (V0 i (j - i).toNat) H1
theorem oN{a:Expr}{ta:TA}{p pos:Pos}(hg:Gl X "range")(hm:X.mg "range"=none)(ha:PA X [a] ta)(hs:starEach [a] X.env=[(false,eval a X.env)]:=by rfl):PI X tg (.Call (.Name "range" p) [a] [] pos) (Cb ta):=by
 intro UE s σ H R I h;refine Call_ (Bf I hg hm boot_range (PyProof.Rows.callWith_type1 (thn (ha pos UE s σ H _ I h) fun us s1 ⟨vs,H1,I1,r1,q1⟩=>?_) hs rfl));obtain⟨j,e,q1,q2,q⟩:=q1;subst e;cases r1 with
 | cons r rr =>
  cases rr;obtain⟨t,rfl⟩:=r;exact call_range_1 (HQ I1 (by omega) (by omega) q1 q2 (by simpa using q))
noncomputable def uA(wi:TI)(g:TG)(tb:TS):TS:=fun D σ H=>wi σ H fun J H1=>∃ W:Nat->Nat->St->Hp->Prop,(∃ m,W 0 m σ H1)/\∀ i m σ H,W i m σ H ->
 (J.stop i H/\D.nx σ H)\/(J.go i H/\∃ N:St->Hp->Prop,(∀ σ' H',N σ' H'->∃ m',m' < m/\W (i+1) m' σ' H')/\∀ x H',J.yld i H x H'->g x σ H' fun σ2 H2=>tb {D with nx:=N,ct:=N,bk:=D.nx} σ2 H2)
noncomputable def yA(fp:List Addr)(h:Heap):List (Addr×Obj):=fp.filterMap fun b=>(h.get? b).map fun o=>(b,o)
theorem lI{fp:List Addr}{h:Heap}{b:Addr}{o:Obj}(hb:b∈fp)(e:h.get? b=some o):(b,o)∈yA fp h:=List.mem_filterMap.mpr ⟨b,hb,by rw[e];rfl⟩
theorem Fn{fp:List Addr}{h:Heap}{p:Addr×Obj}(hp:p∈yA fp h):p.1∈fp/\h.get? p.1=some p.2:=by
 obtain⟨b,hb,e⟩:=List.mem_filterMap.mp hp;cases q:h.get? b with
 | none=>rw[q] at e;cases e
 | some o =>
  rw[q] at e;have e':(b,o)=p:=Option.some.inj e;subst e';exact⟨hb,q⟩
theorem UI.pinned{UE:List (Addr×Obj)}{σ:St}{H:Hp}{s:Shared}{fp:List Addr}(I:UI X UE σ H s)(hf:∀ b∈fp,qP X UE H b)(ho:∀ b∈fp,∃ o,s.heap.get? b=some o/\∀ v,o.data≠.cell v):UI X (UE++yA fp s.heap) σ H s :=
 I.rX fun p hp=>(List.mem_append.mp hp).elim (fun z=>I.pin p (List.mem_append_right _ z)) fun z=>by
  obtain⟨hb,e⟩:=Fn z;obtain⟨f0,f1,f2,_⟩:=hf p.1 hb;obtain⟨o,e',d⟩:=ho p.1 hb;rw[e] at e';cases e';exact⟨e,f0,f1,f2,d⟩
theorem UI.yN{UE pl:List (Addr×Obj)}{σ:St}{H:Hp}{s:Shared}(I:UI X (UE++pl) σ H s):UI X UE σ H s:=I.rX fun p hp=>I.pin p (List.mem_append_right _ (List.mem_append_left _ hp))
theorem Bt{iter:Expr}{body:List Stmt}{wi:TI}{g:TG}{tb:TS}{pos:Pos}(hp:PassesOwn (model X.prog X.w) X.A X.env X.xe)(hc:X.calm=true)(hi:PI X tg iter wi)(hg:PG X tg g)(hb:VA X body tb)
    (hs:∀ x,foldedSetIterable iter X.env x=pure x:=by intro _;rfl):PS X (.For tg iter body [] pos) (uA wi g tb):=by
  intro UE s σ H D I h;refine wpAny_For (thn (hi UE s σ H _ I h) fun v s1 h1=>thn h1 fun ZI s2 h2=>?_) hs;obtain⟨it,fp,tn,J,H2,e,I2,T,Zb,f2,W,⟨m0,w0⟩,turn⟩:=h2;subst e
  -- what stays true of the iterator's objects through the loop
  have VX:∀ {H':Hp},(∀ b∈fp,H' b=none)->∀ b∈fp,qP X UE H' b:=fun hn b hb=>⟨hn b hb,(f2 b hb).2⟩;refine codeAny_forLoop_any (fun n s'=>∃ i σ' H',UI X UE σ' H' s'/\tn i s'.heap/\(∀ b∈fp,H' b=none)/\W i n σ' H') ?_ m0 ⟨0,σ,H2,I2,Zb,fun b hb=>(f2 b hb).1,w0⟩;rintro n s3 ⟨i,σ3,H3,I3,Yl,Zy,w3⟩;rcases turn i n σ3 H3 w3 with⟨stop,qn⟩|⟨go,N,hN,step⟩
  · refine wpAny_passesOwn hp (thn (T.done X rfl rfl rfl hc i UE s3 σ3 H3 X.xe I3 (VX Zy) Yl stop) fun r s4 ⟨hr,I4⟩=>?_);subst hr;exact wpAny_execs_nil ⟨σ3,H3,I4,qn⟩
  · refine wpAny_passesOwn hp (thn (T.item X rfl rfl rfl hc i UE s3 σ3 H3 X.xe I3 (VX Zy) Yl go) fun r s4 ⟨u,hr,h4⟩=>?_);subst hr;refine wpAny_passesOwn hp (thn h4 fun _ s5 ⟨x,H5,I5,r5,y5,st5,fr5⟩=>?_);have I5':=I5.pinned (VX fr5) (T.obj _ _ st5);refine wpAny_passesOwn hp (thn (hg _ s5 σ3 H5 x u _ I5' r5 (step x H5 y5)) fun _ s6 ⟨σ6,H6,I6,q6⟩=>?_);refine wpAny_passesOwn hp (thn (hb _ s6 σ6 H6 _ I6 q6) fun f s7 q7=>?_);have again:∀ {σ7:St} {H7:Hp},UI X (UE++yA fp s5.heap) σ7 H7 s7->N σ7 H7->∃ m,m < n/\∃ i σ' H',UI X UE σ' H' s7/\tn i s7.heap/\(∀ b∈fp,H' b=none)/\W i m σ' H':=fun {σ7 H7} I7 n7=>by
      obtain⟨m',hm,w7⟩:=hN σ7 H7 n7;refine⟨m',hm,i+1,σ7,H7,I7.yN,T.keep _ _ _ st5 fun b hb o e=>(I7.pin (b,o) (List.mem_append_right _ (List.mem_append_right _ (lI hb e)))).1,fun b hb=>?_,w7⟩;obtain⟨o,e,d⟩:=T.obj _ _ st5 b hb;exact(I7.pin (b,o) (List.mem_append_right _ (List.mem_append_right _ (lI hb e)))).2.1
    cases f with
    | next=>obtain⟨σ7,H7,I7,n7⟩:=q7;exact again I7 n7
    | cont=>obtain⟨σ7,H7,I7,n7⟩:=q7;exact again I7 n7
    | brk=>obtain⟨σ7,H7,I7,q7⟩:=q7;exact⟨σ7,H7,I7.yN,q7⟩
    | ret v=>obtain⟨x7,σ7,H7,I7,r7,q7⟩:=q7;exact⟨x7,σ7,H7,I7.yN,r7,q7⟩
end
theorem GR{K:q0B}{a:Addr}{xs:List V}{g:TG}{tb:TS}{D:Ends}{σ:St}{H:Hp}(Pv:Nat->St->Hp->Prop)(h0:Pv 0 σ H)(hl:∀ i σ H,i<=xs.length->Pv i σ H->dU K H a xs)
    (hs:∀ i x σ H,xs[i]?=some x->Pv i σ H->g x σ H fun σ2 H2=>tb {D with nx:=Pv (i+1),ct:=Pv (i+1),bk:=D.nx} σ2 H2) (hd:∀ σ H,Pv xs.length σ H->D.nx σ H) :
    ∃ W:Nat->Nat->St->Hp->Prop,(∃ m,W 0 m σ H)/\∀ i m σ H,W i m σ H ->
      ((Wc K a).stop i H/\D.nx σ H)\/((Wc K a).go i H/\∃ N:St->Hp->Prop,(∀ σ' H',N σ' H'->∃ m',m' < m/\W (i+1) m' σ' H')/\∀ x H',(Wc K a).yld i H x H'->g x σ H' fun σ2 H2=>tb {D with nx:=N,ct:=N,bk:=D.nx} σ2 H2):=by
  refine⟨fun i m σ H=>m=xs.length - i/\i<=xs.length/\Pv i σ H,⟨xs.length,by simp,Nat.zero_le _,h0⟩,?_⟩;rintro i m σ H ⟨rfl,hi,p⟩;have q:=hl i σ H hi p;by_cases Vg:i < xs.length
  · refine .inr ⟨⟨xs,xs[i],q,by simp[Vg]⟩,Pv (i+1),fun σ' H' p'=>⟨xs.length - (i+1),by omega,rfl,Vg,p'⟩,fun x H' y=>?_⟩;obtain⟨e,y⟩:=y;subst e;exact hs i x σ _ (y xs q) p
  · have e:i=xs.length:=by omega
    subst e;exact .inl ⟨⟨xs,q,Nat.le_refl _⟩,hd σ H p⟩
theorem JV{K:q0B}{a:Addr}{xs:List V}{g:TG}{tb:TS}{D:Ends}{σ:St}{H:Hp}(Pv:Nat->St->Hp->Prop)(h0:Pv 0 σ H)(hl:∀ i σ H,i<=xs.length->Pv i σ H->gS K H a xs)
    (hs:∀ i x σ H,xs[i]?=some x->Pv i σ H->g x σ H fun σ2 H2=>tb {D with nx:=Pv (i+1),ct:=Pv (i+1),bk:=D.nx} σ2 H2) (hd:∀ σ H,Pv xs.length σ H->D.nx σ H) :
    ∃ W:Nat->Nat->St->Hp->Prop,(∃ m,W 0 m σ H)/\∀ i m σ H,W i m σ H ->
      ((Xi K a).stop i H/\D.nx σ H)\/((Xi K a).go i H/\∃ N:St->Hp->Prop,(∀ σ' H',N σ' H'->∃ m',m' < m/\W (i+1) m' σ' H')/\∀ x H',(Xi K a).yld i H x H'->g x σ H' fun σ2 H2=>tb {D with nx:=N,ct:=N,bk:=D.nx} σ2 H2):=by
  refine⟨fun i m σ H=>m=xs.length - i/\i<=xs.length/\Pv i σ H,⟨xs.length,by simp,Nat.zero_le _,h0⟩,?_⟩;rintro i m σ H ⟨rfl,hi,p⟩;have q:=hl i σ H hi p;by_cases Vg:i < xs.length
  · refine .inr ⟨⟨xs,xs[i],q,by simp[Vg]⟩,Pv (i+1),fun σ' H' p'=>⟨xs.length - (i+1),by omega,rfl,Vg,p'⟩,fun x H' y=>?_⟩;obtain⟨e,y⟩:=y;subst e;exact hs i x σ _ (y xs q) p
  · have e:i=xs.length:=by omega
    subst e;exact .inl ⟨⟨xs,q,Nat.le_refl _⟩,hd σ H p⟩
theorem Ak{lo:Int}{n:Nat}{g:TG}{tb:TS}{D:Ends}{σ:St}{H:Hp}(Pv:Nat->St->Hp->Prop)(h0:Pv 0 σ H)
    (hs:∀ i σ H,i < n->Pv i σ H->g (.int (lo+i)) σ H fun σ2 H2=>tb {D with nx:=Pv (i+1),ct:=Pv (i+1),bk:=D.nx} σ2 H2) (hd:∀ σ H,Pv n σ H->D.nx σ H) :
    ∃ W:Nat->Nat->St->Hp->Prop,(∃ m,W 0 m σ H)/\∀ i m σ H,W i m σ H ->
      ((V0 lo n).stop i H/\D.nx σ H)\/((V0 lo n).go i H/\∃ N:St->Hp->Prop,(∀ σ' H',N σ' H'->∃ m',m' < m/\W (i+1) m' σ' H')/\∀ x H',(V0 lo n).yld i H x H'->g x σ H' fun σ2 H2=>tb {D with nx:=N,ct:=N,bk:=D.nx} σ2 H2):=by
  refine⟨fun i m σ H=>m=n - i/\i<=n/\Pv i σ H,⟨n,by simp,Nat.zero_le _,h0⟩,?_⟩;rintro i m σ H ⟨rfl,hi,p⟩;by_cases Vg:i < n
  · refine .inr ⟨Vg,Pv (i+1),fun σ' H' p'=>⟨n - (i+1),by omega,rfl,Vg,p'⟩,fun x H' y=>?_⟩;obtain⟨e,y⟩:=y;subst e y;exact hs i σ _ Vg p
  · have e:i=n:=by omega
    subst e;exact .inl ⟨Nat.le_refl _,hd σ H p⟩
noncomputable abbrev R2:=V->V->Hp->VK->Prop
noncomputable def iM(X:Cx)(f:Value->Value->Sem Value)(r:R2):Prop :=
 ∀(UE:List (Addr×Obj)) (s:Shared) (σ:St) (H:Hp) (x y:V) (v u:Value) (Q:VK),UI X UE σ H s->bU x v->bU y u->r x y H Q ->
  wpAny (model X.prog X.w) X.A (f v u) (EP X UE σ Q) X.xe s
noncomputable def S5(X:Cx)(f:Value->Sem Value)(r:V->Hp->VK->Prop):Prop :=
 ∀(UE:List (Addr×Obj)) (s:Shared) (σ:St) (H:Hp) (x:V) (v:Value) (Q:VK),UI X UE σ H s->bU x v->r x H Q ->
  wpAny (model X.prog X.w) X.A (f v) (EP X UE σ Q) X.xe s
noncomputable def eP(X:Cx)(f:Value)(r:List V->Hp->VK->Prop):Prop :=
 ∀(UE:List (Addr×Obj)) (s:Shared) (σ:St) (H:Hp) (xs:List V) (us:List Value) (Q:VK),UI X UE σ H s->Vals xs us->r xs H Q ->
  wpAny (model X.prog X.w) X.A (call f us) (EP X UE σ Q) X.xe s
noncomputable def S4(X:Cx)(r:V->Hp->(Bool->Hp->Prop)->Prop):Prop :=
 ∀(UE:List (Addr×Obj)) (s:Shared) (σ:St) (H:Hp) (x:V) (v:Value) (Q:Bool->Hp->Prop),UI X UE σ H s->bU x v->r x H Q ->
  wpAny (model X.prog X.w) X.A (truthy v) (TP X UE σ Q) X.xe s
noncomputable def Sk(r:R2)(ta tb:TE):TE:=fun σ H Q=>ta σ H fun x H1=>tb σ H1 fun y H2=>r x y H2 Q
noncomputable def Uv(r:V->Hp->VK->Prop)(ta:TE):TE:=fun σ H Q=>ta σ H fun x H1=>r x H1 Q
noncomputable def rI(C:Int->Int->Prop)(g:Int->Int->V):R2:=fun x y H Q=>∃ i j,x=.int i/\y=.int j/\C i j/\Q (g i j) H
noncomputable def IM(g:Int->Int->V):R2:=fun x y H Q=>∃ i j,x=.int i/\y=.int j/\Q (g i j) H
noncomputable def rU(g:Int->V):V->Hp->VK->Prop:=fun x H Q=>∃ i,x=.int i/\Q (g i) H
section
variable {X:Cx} {a b c:Expr} {ta tb tc:TE} {pos:Pos}
theorem Mh(ha:PE X a ta)(hb:PE X b tb){UE:List (Addr×Obj)}{s:Shared}{σ:St}{H:Hp}{R:V->V->Hp->Prop}(I:UI X UE σ H s)
    (h:ta σ H fun x H1=>tb σ H1 fun y H2=>R x y H2) {Q:q0A} {f:Value->Value->Sem Value}
    (hf:∀ v u s2 x y H2,UI X UE σ H2 s2->bU x v->bU y u->R x y H2->wpAny (model X.prog X.w) X.A (f v u) Q X.xe s2) :
    wpAny (model X.prog X.w) X.A (eval a X.env) (fun v s₁=>wpAny (model X.prog X.w) X.A (eval b X.env) (fun u s₂=>wpAny (model X.prog X.w) X.A (f v u) Q X.xe s₂) X.xe s₁) X.xe s:=by
  refine thn (ha UE s σ H _ I h) fun v s1 ⟨x,H1,I1,r1,q1⟩=>?_;refine thn (hb UE s1 σ H1 _ I1 q1) fun u s2 ⟨y,H2,I2,r2,q2⟩=>?_;exact hf v u s2 x y H2 I2 r1 r2 q2
theorem aW{op:Operator}{r:R2}(ho:iM X (binaryOp op) r)(ha:PE X a ta)(hb:PE X b tb):PE X (.BinOp a op b pos) (Sk r ta tb):=by
 intro UE s σ H Q I h;exact wpAny_BinOp (Mh ha hb I h fun v u s2 x y H2 I2 rx ry q=>ho UE s2 σ H2 x y v u Q I2 rx ry q)
theorem rV{op:UnaryOp}{r:V->Hp->VK->Prop}(ho:S5 X (unaryOp op) r)(ha:PE X a ta):PE X (.UnaryOp op a pos) (Uv r ta):=by
 intro UE s σ H Q I h;exact UnaryOp_ (thn (ha UE s σ H _ I h) fun v s1 ⟨x,H1,I1,r1,q1⟩=>ho UE s1 σ H1 x v Q I1 r1 q1)
theorem SX{f:Value->Value->Sem Value}{C:Int->Int->Prop}{g:Int->Int->Int}
    (rule:∀(i j:Int) (t u:Tok) (s:Shared) (Q:q0A) (E:q0A),C i j->Q (.int (g i j) s.toks) {s with toks:=s.toks+1}->wpAny (model X.prog X.w) X.A (f (.int i t) (.int j u)) Q E s) :
    iM X f (rI C fun i j=>.int (g i j)):=by
  intro UE s σ H x y v u Q I rx ry h;obtain⟨i,j,rfl,rfl,hc,q⟩:=h;obtain⟨t,rfl⟩:=rx;obtain⟨t',rfl⟩:=ry;exact rule i j t t' s _ _ hc ⟨.int (g i j),H,I.tok _,⟨_,rfl⟩,q⟩
theorem Ru{f:Value->Value->Sem Value}{g:Int->Int->Int}
    (rule:∀(i j:Int) (t u:Tok) (s:Shared) (Q:q0A) (E:q0A),Q (.int (g i j) s.toks) {s with toks:=s.toks+1}->wpAny (model X.prog X.w) X.A (f (.int i t) (.int j u)) Q E s) :
    iM X f (IM fun i j=>.int (g i j)):=by
  intro UE s σ H x y v u Q I rx ry h;obtain⟨i,j,rfl,rfl,q⟩:=h;obtain⟨t,rfl⟩:=rx;obtain⟨t',rfl⟩:=ry;exact rule i j t t' s _ _ ⟨.int (g i j),H,I.tok _,⟨_,rfl⟩,q⟩
theorem Kj{f:Value->Value->Sem Value}{g:Int->Int->Bool}
    (rule:∀(i j:Int) (t u:Tok) (s:Shared) (Q:q0A) (E:q0A),Q (.bool (g i j)) s->wpAny (model X.prog X.w) X.A (f (.int i t) (.int j u)) Q E s) :
    iM X f (IM fun i j=>.bl (g i j)):=by
  intro UE s σ H x y v u Q I rx ry h;obtain⟨i,j,rfl,rfl,q⟩:=h;obtain⟨t,rfl⟩:=rx;obtain⟨t',rfl⟩:=ry;exact rule i j t t' s _ _ ⟨.bl (g i j),H,I,rfl,q⟩
noncomputable def CPow(i j:Int):Prop:=0<=j/\j<=1000000/\i.natAbs < 2 ^ 64
noncomputable def CMul(i j:Int):Prop:=(-(2 ^ 64) < i/\i < 2 ^ 64)\/(-(2 ^ 64) < j/\j < 2 ^ 64)
theorem CMul.ok{i j:Int}(h:CMul i j):IntMulOk i j:=by
 rcases h with⟨h1,h2⟩|⟨h1,h2⟩
 ·exact .of_left (intBits_le_64 h1 h2)
 ·exact .of_right (intBits_le_64 h1 h2)
theorem OD:iM X (binaryOp .Add) (IM fun i j=>.int (i+j)):=Ru fun _ _ _ _ _ _ _ q=>add_int q
theorem gW:iM X (binaryOp .Sub) (IM fun i j=>.int (i - j)):=Ru fun _ _ _ _ _ _ _ q=>sub_int q
theorem tQ:iM X (binaryOp .Mult) (rI CMul fun i j=>.int (i * j)):=SX fun _ _ _ _ _ _ _ hc q=>mul_int q hc.ok
theorem tP:iM X (binaryOp .Mod) (rI (fun _ j=>0 < j) fun i j=>.int (i % j)):=SX fun i j _ _ _ _ _ hc q=>by
 have h1:(0:Int) < j:=hc;exact mod_int' (by omega) (by rw[Int.fmod_eq_emod_of_nonneg i (by omega)];exact q)
theorem pY:iM X (binaryOp .Pow) (rI CPow fun i j=>.int (i ^ j.toNat)):=SX fun _ _ _ _ _ _ _ hc q=>pow_int_small hc.1 hc.2.1 hc.2.2 q
theorem UC{f:Value->Sem Value}{g:Int->Int}
    (rule:∀(i:Int) (t:Tok) (s:Shared) (Q:q0A) (E:q0A),Q (.int (g i) s.toks) {s with toks:=s.toks+1}->wpAny (model X.prog X.w) X.A (f (.int i t)) Q E s) :
    S5 X f (rU fun i=>.int (g i)):=by
  intro UE s σ H x v Q I rx h;obtain⟨i,rfl,q⟩:=h;obtain⟨t,rfl⟩:=rx;exact rule i t s _ _ ⟨.int (g i),H,I.tok _,⟨_,rfl⟩,q⟩
theorem l9:S5 X (unaryOp .USub) (rU fun i=>.int (-i)):=UC fun _ _ _ _ _ q=>neg_int q
end
noncomputable def scal:V->V->Bool
 | .UK,.UK=>true | .UK,.int _=>true | .int _,.UK=>true | .UK,.bl _=>true | .bl _,.UK=>true | .UK,.str _=>true | .str _,.UK=>true
 | .int _,.int _=>true | .bl _,.bl _=>true | .str _,.str _=>true | .byt _,.byt _=>true
 | .int _,.str _=>true | .str _,.int _=>true | .bl _,.str _=>true | .str _,.bl _=>true
 | _,_=>false
noncomputable def Fw:R2:=fun x y H Q=>scal x y=true/\Q (.bl (decide (x=y))) H
noncomputable def Kw:R2:=fun x y H Q=>scal x y=true/\Q (.bl (!decide (x=y))) H
theorem DW{i j:Int}:decide (V.int i=V.int j)=(i==j):=by
 rw[Bool.eq_iff_iff];simp
theorem Gi{i j:Bool}:decide (V.bl i=V.bl j)=(i==j):=by
 rw[Bool.eq_iff_iff];simp
theorem DX{i j:Str}:decide (V.str i=V.str j)=(i==j):=by
 rw[Bool.eq_iff_iff];simp
theorem DV{i j:Array UInt8}:decide (V.byt i=V.byt j)=(i.toList==j.toList):=by
 rw[Bool.eq_iff_iff];cases i;cases j;simp
section
variable {X:Cx} {a b c:Expr} {ta tb tc:TE} {pos:Pos}
theorem bX{UE:List (Addr×Obj)}{σ:St}{H:Hp}{s:Shared}{Q:VK}{k k':Bool}(I:UI X UE σ H s)(q:Q (.bl k) H)(e:k=k'):EP X UE σ Q (.bool k') s:=by
 subst e;exact⟨.bl k,H,I,rfl,q⟩
theorem bT:iM X (compareOp .Eq) Fw:=by
 intro UE s σ H x y v u Q I rx ry h;obtain⟨hs,q⟩:=h;cases x with
 | UK =>
  cases rx;cases y with
  | UK=>cases ry;exact PySem.EqNone.eq_none_none (bX I q (by simp))
  | bl j=>cases ry;exact PySem.EqNone.eq_none_bool (bX I q (by simp))
  | int j=>obtain⟨t',rfl⟩:=ry;exact PySem.EqNone.eq_none_int (bX I q (by simp))
  | str j=>obtain⟨t',rfl⟩:=ry;exact PySem.EqNone.eq_none_str (bX I q (by simp))
  | _=>exact absurd (show false=true from hs) Bool.false_ne_true
 | bl i =>
  cases rx;cases y with
  | UK=>cases ry;exact PySem.EqNone.eq_bool_none (bX I q (by simp))
  | bl j=>cases ry;exact eq_bool (bX I q Gi)
  | str j=>obtain⟨t',rfl⟩:=ry;exact PySem.EqMixed.eq_bool_str (bX I q (by simp))
  | _=>exact absurd (show false=true from hs) Bool.false_ne_true
 | int i =>
  obtain⟨t,rfl⟩:=rx;cases y with
  | UK=>cases ry;exact PySem.EqNone.eq_int_none (bX I q (by simp))
  | int j=>obtain⟨t',rfl⟩:=ry;exact eq_int (bX I q DW)
  | str j=>obtain⟨t',rfl⟩:=ry;exact PySem.EqMixed.eq_int_str (bX I q (by simp))
  | _=>exact absurd (show false=true from hs) Bool.false_ne_true
 | str i =>
  obtain⟨t,rfl⟩:=rx;cases y with
  | UK=>cases ry;exact PySem.EqNone.eq_str_none (bX I q (by simp))
  | bl j=>cases ry;exact PySem.EqMixed.eq_str_bool (bX I q (by simp))
  | int j=>obtain⟨t',rfl⟩:=ry;exact PySem.EqMixed.eq_str_int (bX I q (by simp))
  | str j=>obtain⟨t',rfl⟩:=ry;exact eq_str (bX I q DX)
  | _=>exact absurd (show false=true from hs) Bool.false_ne_true
 | byt i =>
  obtain⟨t,rfl⟩:=rx;cases y with
  | byt j=>obtain⟨t',rfl⟩:=ry;exact PySem.W.eq_bytes (bX I q DV)
  | _=>exact absurd (show false=true from hs) Bool.false_ne_true
 | _=>cases y<;>exact absurd (show false=true from hs) Bool.false_ne_true
theorem xX:iM X (compareOp .NotEq) Kw:=by
 intro UE s σ H x y v u Q I rx ry h;obtain⟨hs,q⟩:=h;cases x with
 | UK =>
  cases rx;cases y with
  | UK=>cases ry;exact PySem.EqNone.ne_none_none (bX I q (by simp))
  | bl j=>cases ry;exact PySem.EqNone.ne_none_bool (bX I q (by simp))
  | int j=>obtain⟨t',rfl⟩:=ry;exact PySem.EqNone.ne_none_int (bX I q (by simp))
  | str j=>obtain⟨t',rfl⟩:=ry;exact PySem.EqNone.ne_none_str (bX I q (by simp))
  | _=>exact absurd (show false=true from hs) Bool.false_ne_true
 | bl i =>
  cases rx;cases y with
  | UK=>cases ry;exact PySem.EqNone.ne_bool_none (bX I q (by simp))
  | bl j=>cases ry;exact ne_bool (bX I q (congrArg not Gi))
  | str j=>obtain⟨t',rfl⟩:=ry;exact PySem.EqMixed.ne_bool_str (bX I q (by simp))
  | _=>exact absurd (show false=true from hs) Bool.false_ne_true
 | int i =>
  obtain⟨t,rfl⟩:=rx;cases y with
  | UK=>cases ry;exact PySem.EqNone.ne_int_none (bX I q (by simp))
  | int j=>obtain⟨t',rfl⟩:=ry;exact ne_int (bX I q (congrArg not DW))
  | str j=>obtain⟨t',rfl⟩:=ry;exact PySem.EqMixed.ne_int_str (bX I q (by simp))
  | _=>exact absurd (show false=true from hs) Bool.false_ne_true
 | str i =>
  obtain⟨t,rfl⟩:=rx;cases y with
  | UK=>cases ry;exact PySem.EqNone.ne_str_none (bX I q (by simp))
  | bl j=>cases ry;exact PySem.EqMixed.ne_str_bool (bX I q (by simp))
  | int j=>obtain⟨t',rfl⟩:=ry;exact PySem.EqMixed.ne_str_int (bX I q (by simp))
  | str j=>obtain⟨t',rfl⟩:=ry;exact ne_str (bX I q (congrArg not DX))
  | _=>exact absurd (show false=true from hs) Bool.false_ne_true
 | byt i =>
  obtain⟨t,rfl⟩:=rx;cases y with
  | byt j=>obtain⟨t',rfl⟩:=ry;exact PySem.W.ne_bytes (bX I q (congrArg not DV))
  | _=>exact absurd (show false=true from hs) Bool.false_ne_true
 | _=>cases y<;>exact absurd (show false=true from hs) Bool.false_ne_true
theorem rK:iM X (compareOp .Lt) (IM fun i j=>.bl (decide (i < j))):=Kj fun _ _ _ _ _ _ _ q=>lt_int q
theorem As:iM X (compareOp .LtE) (IM fun i j=>.bl (decide (i<=j))):=Kj fun _ _ _ _ _ _ _ q=>le_int q
theorem CB:iM X (compareOp .Gt) (IM fun i j=>.bl (decide (j < i))):=Kj fun _ _ _ _ _ _ _ q=>gt_int q
theorem Rv:iM X (compareOp .GtE) (IM fun i j=>.bl (decide (j<=i))):=Kj fun _ _ _ _ _ _ _ q=>ge_int q
theorem OH:iM X (compareOp .Is) (fun x y H Q=>y=.UK/\Q (.bl (decide (x=.UK))) H):=by
 intro UE s σ H x y v u Q I rx ry h;obtain⟨rfl,q⟩:=h;cases ry;refine is_none_gen (bX I q ?_);cases x<;>first
  | (cases rx;rfl)
  | (obtain⟨t,rfl⟩:=rx;rfl)
theorem Kk:iM X (compareOp .IsNot) (fun x y H Q=>y=.UK/\Q (.bl (!decide (x=.UK))) H):=by
 intro UE s σ H x y v u Q I rx ry h;obtain⟨rfl,q⟩:=h;cases ry;refine isnot_none_gen (bX I q ?_);cases x<;>first
  | (cases rx;rfl)
  | (obtain⟨t,rfl⟩:=rx;rfl)
theorem iM.or{f:Value->Value->Sem Value}{r r':R2}(h:iM X f r)(h':iM X f r'):iM X f (fun x y H Q=>r x y H Q\/r' x y H Q):=by
 intro UE s σ H x y v u Q I rx ry q;rcases q with q|q
 ·exact h UE s σ H x y v u Q I rx ry q
 ·exact h' UE s σ H x y v u Q I rx ry q
theorem nomark(b:Expr){op:CmpOp}(h:op≠.In:=by decide)(h2:op≠.NotIn:=by decide):behindInMarks op b=false:=by
 have e1:(op==CmpOp.In)=false:=by cases op<;>first|rfl|exact absurd rfl h
 have e2:(op==CmpOp.NotIn)=false:=by cases op<;>first|rfl|exact absurd rfl h2
 cases b<;>simp[behindInMarks,e1,e2]
theorem rS{op:CmpOp}{r:R2}(ho:iM X (compareOp op) r)(ha:PE X a ta)(hb:PE X b tb)(hm:behindInMarks op b=false):PE X (.Compare a [op] [b] pos) (Sk r ta tb):=by
 intro UE s σ H Q I h;exact wpAny_Compare1 (Mh ha hb I h fun v u s2 x y H2 I2 rx ry q=>ho UE s2 σ H2 x y v u Q I2 rx ry q) hm
noncomputable def Ey(t:TE):TT:=fun σ H Q=>t σ H fun x H'=>∃ k,x=.bl k/\Q k H'
theorem aL{op:CmpOp}{r:R2}(ho:iM X (compareOp op) r)(ha:PE X a ta)(hb:PE X b tb)(hm:behindInMarks op b=false):PT X (.Compare a [op] [b] pos) (Ey (Sk r ta tb)):=by
 intro UE s σ H Q I h;refine wpAny_isTrue_Compare1 (thn (ha UE s σ H _ I h) fun v s1 ⟨x,H1,I1,r1,q1⟩=>thn (hb UE s1 σ H1 _ I1 q1) fun u s2 ⟨y,H2,I2,r2,q2⟩ =>
  thn (ho UE s2 σ H2 x y v u _ I2 r1 r2 q2) fun c s3 ⟨z,H3,I3,r3,k,e,q3⟩=>?_) hm
 subst e;cases r3;exact wpAny_truthy_bool ⟨H3,I3,q3⟩
noncomputable def BG(r r':R2)(ta tb tc:TE):TE:=fun σ H Q=>ta σ H fun x H1=>tb σ H1 fun y H2=>r x y H2 fun z H3=>∃ k,z=.bl k /\
 (if k=true then tc σ H3 fun w' H4=>r' y w' H4 Q else Q (.bl false) H3)
theorem x9{op X0:CmpOp}{r r':R2}(ho:iM X (compareOp op) r)(U5:iM X (compareOp X0) r')(ha:PE X a ta)(hb:PE X b tb)(hc:PE X c tc)
    (hm:lastMarks [op,X0] [b,c]=false:=by with_unfolding_all rfl):PE X (.Compare a [op,X0] [b,c] pos) (BG r r' ta tb tc):=by
  intro UE s σ H Q I h;refine Compare_chain (thn (ha UE s σ H _ I h) fun v s1 ⟨x,H1,I1,r1,q1⟩=>chain_link (thn (hb UE s1 σ H1 _ I1 q1) fun u s2 ⟨y,H2,I2,r2,q2⟩ =>
    thn (ho UE s2 σ H2 x y v u _ I2 r1 r2 q2) fun d s3 ⟨z,H3,I3,r3,k,e,q3⟩=>?_)) hm
  subst e;cases r3;refine wpAny_truthy_bool ?_;cases k with
  | false=>exact ite_ff ⟨.bl false,H3,I3,rfl,q3⟩
  | true=>exact ite_tt (chain_last (thn (hc UE s3 σ H3 _ I3 q3) fun w' s4 ⟨z',H4,I4,r4,q4⟩=>U5 UE s4 σ H4 y z' u w' Q I4 r2 r4 q4))
theorem CF{op X0:CmpOp}{r r':R2}(ho:iM X (compareOp op) r)(U5:iM X (compareOp X0) r')(ha:PE X a ta)(hb:PE X b tb)(hc:PE X c tc)
    (hm:lastMarks [op,X0] [b,c]=false:=by with_unfolding_all rfl):PT X (.Compare a [op,X0] [b,c] pos) (Ey (BG r r' ta tb tc)):=by
  intro UE s σ H Q I h;refine isTrue_chain (thn (ha UE s σ H _ I h) fun v s1 ⟨x,H1,I1,r1,q1⟩=>test_link (thn (hb UE s1 σ H1 _ I1 q1) fun u s2 ⟨y,H2,I2,r2,q2⟩ =>
    thn (ho UE s2 σ H2 x y v u _ I2 r1 r2 q2) fun d s3 ⟨z,H3,I3,r3,k,e,q3⟩=>?_)) hm
  subst e;cases r3;refine wpAny_truthy_bool ?_;cases k with
  | false =>
    obtain⟨k',e',q'⟩:=q3;cases e';exact ite_ff ⟨H3,I3,q'⟩
  | true =>
    refine ite_tt (test_last (thn (hc UE s3 σ H3 _ I3 q3) fun w' s4 ⟨z',H4,I4,r4,q4⟩=>thn (U5 UE s4 σ H4 y z' u w' _ I4 r2 r4 q4) fun d' s5 ⟨z2,H5,I5,r5,k2,e2,q5⟩=>?_));subst e2;cases r5;exact wpAny_truthy_bool ⟨H5,I5,q5⟩
noncomputable def Py(K:q0B)(x:V)(H:Hp)(k:Bool):Prop :=
 match x with
 | .UK=>k=false
 | .bl b=>k=b
 | .int i=>k=(i !=0)
 | .str y=>y.length<=sizeLine/\k=((y.length:Int) !=0)
 | .byt y=>y.size<=sizeLine/\k=((y.size:Int) !=0)
 | .ref p=>(∃ xs,dU K H p xs/\k = !xs.isEmpty)\/(∃ xs,gS K H p xs/\k = !xs.isEmpty)\/∃ UG,H p=some (.dK UG)/\k = !UG.isEmpty
 | _=>False
theorem C9{κ:Type}{UG:List (κ×V)}{vs:List (κ×Value)}(r:KV UG vs):(!vs.isEmpty) = !UG.isEmpty:=by
 cases r<;>rfl
theorem xF{xs:List V}{UJ:List Value}(r:Vals xs UJ):(!UJ.toArray.isEmpty) = !xs.isEmpty:=by
 cases r<;>simp
theorem line63:(sizeLine:Nat) < 2 ^ 63:=by rw[sizeLine_eq];decide
theorem Pf:S4 X (fun x H Q=>∃ k,Py X.K x H k/\Q k H):=by
 intro UE s σ H x v Q I rx h;obtain⟨k,e,q⟩:=h;have hl:=line63;have hs:sizeLine=16777216:=sizeLine_eq;cases x with
 | UK =>
  cases rx;have e':k=false:=e;subst e';exact truthy_none ⟨H,I,q⟩
 | bl b =>
  cases rx;have e':k=b:=e;subst e';exact wpAny_truthy_bool ⟨H,I,q⟩
 | int i =>
  obtain⟨t,rfl⟩:=rx;have e':k=(i !=0):=e;subst e';exact PySem.P.truthy_int ⟨H,I,q⟩
 | str y =>
  obtain⟨t,rfl⟩:=rx;obtain⟨hy,e'⟩:y.length<=sizeLine/\k=((y.length:Int) !=0):=e;subst e';exact PySem.P.truthy_str (by omega) ⟨H,I.tok _,q⟩
 | byt y =>
  obtain⟨t,rfl⟩:=rx;obtain⟨hy,e'⟩:y.size<=sizeLine/\k=((y.size:Int) !=0):=e;subst e';exact PySem.W.truthy_bytes (by omega) ⟨H,I.tok _,q⟩
 | ref p =>
  cases rx;have e':(∃ xs,dU X.K H p xs/\k = !xs.isEmpty)\/(∃ xs,gS X.K H p xs/\k = !xs.isEmpty)\/∃ UG,H p=some (.dK UG)/\k = !UG.isEmpty:=e;rcases e' with⟨xs,hx,e'⟩|⟨xs,hx,e'⟩|⟨UG,hx,e'⟩
  ·subst e';obtain⟨UJ,r,pl,hz⟩:=I.list hx;have hlen:=r.length;exact wpAny_truthy_list pl.isList (by simp only[List.size_toArray];omega) ⟨H,I.tok _,by rw[xF r];exact q⟩
  ·subst e';obtain⟨UJ,r,pl,hz⟩:=I.tuple hx;have hlen:=r.length;exact truthy_tuple pl (by simp only[List.size_toArray];omega) ⟨H,I.tok _,by rw[xF r];exact q⟩
  ·subst e';obtain⟨hz,hS,vs,r,m⟩:UG.length<=sizeLine/\(p==sysModules)=false/\∃ vs,KV UG vs/\s.heap.DictOf (fR X.prog X.w) p vs:=I.UL p _ hx;have hlen:UG.length=vs.length:=Paired.length r;exact wpAny_truthy_dict hS m (by omega) ⟨H,I.tok _,by rw[C9 r];exact q⟩
 | _=>exact(show False from e).elim
theorem Ds:iM X (binaryOp .Add) (fun x y H Q=>∃ i j,x=.str i/\y=.str j/\i.length+j.length<=sizeLine/\Q (.str (i++j)) H):=by
 intro UE s σ H x y v u Q I rx ry h;obtain⟨i,j,rfl,rfl,hz,q⟩:=h;obtain⟨t,rfl⟩:=rx;obtain⟨t',rfl⟩:=ry;exact add_str (fun t' tk=>⟨.str (i++j),H,I.tok _,⟨_,rfl⟩,q⟩) hz
theorem vals1{x:V}{us:List Value}(r:Vals [x] us):∃ u,us=[u]/\bU x u:=by
 cases r with
 | cons r1 r2=>cases r2;exact⟨_,rfl,r1⟩
theorem vals2{x y:V}{us:List Value}(r:Vals [x,y] us):∃ u w',us=[u,w']/\bU x u/\bU y w':=by
 cases r with
 | cons r1 r2 =>
  cases r2 with
  | cons r3 r4=>cases r4;exact⟨_,_,rfl,r1,r3⟩
theorem EN(hc:X.calm=true):eP X (.builtin "max") (fun xs H Q=>∃ i j,xs=[.int i,.int j]/\Q (.int (if j > i then j else i)) H):=by
 intro UE s σ H xs us Q I r h;obtain⟨i,j,rfl,q⟩:=h;obtain⟨u,w',rfl,⟨t,rfl⟩,⟨t',rfl⟩⟩:=vals2 r;refine max_two_ints (I.ok.hd hc) fun h' tk k=>⟨_,H,I.kept k,?_,q⟩;by_cases hj:j > i
 ·rw[if_pos hj,if_pos hj];exact⟨_,rfl⟩
 ·rw[if_neg hj,if_neg hj];exact⟨_,rfl⟩
theorem EL:eP X (.type "int") (fun xs H Q=>(∃ i,xs=[.int i]/\Q (.int i) H)\/∃ k,xs=[.bl k]/\Q (.int (if k then 1 else 0)) H):=by
 intro UE s σ H xs us Q I r h;rcases h with⟨i,rfl,q⟩|⟨k,rfl,q⟩
 ·obtain⟨u,rfl,t,rfl⟩:=vals1 r;exact call_int_int ⟨.int i,H,I,⟨_,rfl⟩,q⟩
 ·obtain⟨u,rfl,r1⟩:=vals1 r;cases r1;exact call_int_bool ⟨.int (if k then 1 else 0),H,I.tok _,⟨_,rfl⟩,q⟩
theorem AY:eP X (.type "str") (fun xs H Q=>∃ i,xs=[.int i]/\i.natAbs.log2 < 1920/\Q (.str (toString i)) H):=by
 intro UE s σ H xs us Q I r h;obtain⟨i,rfl,hz,q⟩:=h;obtain⟨u,rfl,t,rfl⟩:=vals1 r;exact PySem.P.str_of_int hz ⟨.str _,H,I.tok _,⟨_,rfl⟩,q⟩
noncomputable def S3(K:q0B)(x:V)(H:Hp)(n:Nat):Prop :=
 match x with
 | .str y=>y.length<=sizeLine/\n=y.length
 | .byt y=>y.size<=sizeLine/\n=y.size
 | .ref p=>(∃ xs,dU K H p xs/\n=xs.length)\/∃ xs,gS K H p xs/\n=xs.length
 | _=>False
theorem wC:eP X (.builtin "len") (fun xs H Q=>∃ x n,xs=[x]/\S3 X.K x H n/\Q (.int n) H):=by
 intro UE s σ H xs us Q I r h;obtain⟨x,n,rfl,e,q⟩:=h;obtain⟨u,rfl,rx⟩:=vals1 r;have hl:=line63;have hs:sizeLine=16777216:=sizeLine_eq;cases x with
 | str y =>
  obtain⟨t,rfl⟩:=rx;obtain⟨hy,e'⟩:y.length<=sizeLine/\n=y.length:=e;subst e';exact len_str (by omega) ⟨.int _,H,I.tok _,⟨_,rfl⟩,q⟩
 | byt y =>
  obtain⟨t,rfl⟩:=rx;obtain⟨hy,e'⟩:y.size<=sizeLine/\n=y.size:=e;subst e';exact PySem.W.len_bytes (by omega) ⟨.int _,H,I.tok _,⟨_,rfl⟩,q⟩
 | ref p =>
  cases rx;have e':(∃ xs,dU X.K H p xs/\n=xs.length)\/∃ xs,gS X.K H p xs/\n=xs.length:=e;rcases e' with⟨xs,hx,e'⟩|⟨xs,hx,e'⟩
  ·subst e';obtain⟨UJ,r',pl,hz⟩:=I.list hx;have hlen:=r'.length;exact Calls.call_len_list pl.isList (by simp only[List.size_toArray];omega) ⟨.int xs.length,H,I.tok _,⟨_,by simp only[List.size_toArray];rw[hlen]⟩,q⟩
  ·subst e';obtain⟨UJ,r',pl,hz⟩:=I.tuple hx;have hlen:=r'.length;exact len_tuple pl (by simp only[List.size_toArray];omega) ⟨.int xs.length,H,I.tok _,⟨_,by simp only[List.size_toArray];rw[hlen]⟩,q⟩
 | _=>exact(show False from e).elim
end
structure CW(h:Heap)(x dx C:Addr)(mA:q0C):Prop where
 obj:h.get? x=some (PySem.W.instObj C dx)
 ns:h.Ns1 dx mA
 ne:dx≠x
theorem Fd{h:Heap}{dx:Addr}{mA:q0C}(n:h.Ns1 dx mA):∃ od,h.get? dx=some od/\∀ name,PySem.W.lookIn name od=some (mA name):=by
 obtain⟨o,es,ep,ho,hd,hk,_,hm⟩:=n;refine⟨o,ho,fun name=>?_⟩;have e:=hm name;unfold nsFind findBy at e;rw[<- Array.find?_toList] at e;unfold PySem.W.lookIn;rw[hd];dsimp only;split
 ·rename_i y q
  rw[q] at e;exact congrArg some e
 ·rename_i q
  rw[q] at e;have a:es.toList.any (·.refKey)=false:=by
   rw[List.any_eq_false];intro y hy;obtain⟨z,t,aaI⟩:=hk y (Array.mem_toList_iff.mp hy);simp[DictEntry.refKey,aaI]
  have a':¬ es.toList.any (·.refKey)=true:=by rw[a];exact Bool.false_ne_true
  rw[if_neg a'];exact congrArg some e
theorem CW.look{h:Heap}{x dx C:Addr}{mA:q0C}(I:CW h x dx C mA):∃ od,PySem.W.InstAt h x (PySem.W.instObj C dx) C (some od)/\∀ name,PySem.W.lookIn name od=some (mA name) :=
 let ⟨od,ho,hl⟩:=Fd I.ns
 ⟨od,⟨I.obj,rfl,rfl,ho⟩,hl⟩
section
variable {prog:Program} {w:World} {A:Around} {E:q0A} {s:Shared} {K:q0B} {x dx C f:Addr} {mA:q0C} {name:Str} {v:Value}
theorem JW{expr:Bool}{Q:q0A}(X:K.In s.heap)(I:CW s.heap x dx C mA)(hg:PySem.W.plainGet K C name=true)(hh:PySem.W.hasDictIn K C=true)
    (ha:PySem.W.findIn K (.ref C) name=some none) (hv:mA name=some v) (hv':PySem.W.handedIn v=true) (h:Q v {s with toks:=s.toks+1}) :
    wpAny (model prog w) A (getAttr (.ref x) name expr) Q E s:=by
  obtain⟨od,J,hl⟩:=I.look;exact PySem.W.get_value X J (PySem.W.plainGet_of hg).1 (PySem.W.findObj_own hh ha rfl (by rw[hl,hv])) hv' h
theorem GU{pl:Sem Bool}{Q:Value×List Value->Shared->Prop}(X:K.In s.heap)(I:CW s.heap x dx C mA)(hg:PySem.W.plainGet K C name=true)
    (hf:PySem.W.findIn K (.ref C) name=some (some (.ref f))) (ht:PySem.W.isFn K (.ref f)=true) (hv:mA name=none) (h:Q (.ref f,[.ref x]) s) :
    wpAny (model prog w) A (getMethod (.ref x) name pl) Q E s:=by
  obtain⟨od,J,hl⟩:=I.look;exact PySem.W.method_fn X J (PySem.W.plainGet_of hg).1 (PySem.W.plainGet_of hg).2 hf (beq_iff_eq.mp ht) (by show(PySem.W.lookIn name od).map (·.isSome)=some false;rw[hl,hv];rfl) h
theorem KA{ns:List Str}{Q:Unit->Shared->Prop}(X:K.In s.heap)(I:CW s.heap x dx C mA)
    (hs:PySem.W.findIn K (.ref C) "__setattr__"=some (some (.builtin "object.__setattr__"))) (hp:PySem.W.plainOver K C=true) (ht:PySem.W.takerIn K C name=some none) (hh:PySem.W.hasDictIn K C=true)
    (hw:PySem.Within mA ns) (YW:ns.length<=sizeLine)
    (h:∀ h',CW h' x dx C (fun y=>if y=name then some v else mA y)->Heap.SameBut dx s.heap h'->Q () {s with heap:=h',toks:=s.toks+2}) :
    wpAny (model prog w) A (setAttr (.ref x) name v) Q E s:=by
  obtain⟨od,J,hl⟩:=I.look;refine PySem.W.set_plain X J hs (PySem.W.osa_open (s:={s with toks:=s.toks+1}) (r:=none) X J hp ht fun b=>?_);obtain⟨cd,hc,hd'⟩:=PySem.W.any_some hh;have hx:s.heap.get? x=some ⟨.ref C,some dx,.plain,#[]⟩:=I.obj;refine wpAny_bind (wpAny_pure (wpAny_bind (wpAny_bind (wpAny_loadPart hx (wpAny_bind (PySem.W.Looks.here (s:={s with toks:=s.toks+1}) (PySem.W.looks_clsIn X hc) ?_))))));rw[hd'];refine wpAny_pure (a:=some dx) (wpAny_bind (wpAny_pure (wpAny_bind ?_)));refine wpAny_nsSet1 (s:={s with toks:=s.toks+1}) I.ns fun h' Yh W6=>?_;obtain⟨oD,esD,epD,hoD,hdD,hcD⟩:=Yh.count (PySem.Within.cons name v hw);refine wpAny_bind (wpAny_lookBehind hoD (by rw[hdD];exact pastItsLine_dict (Nat.le_trans hcD (by rw[List.length_cons];omega))) ?_);exact wpAny_pure (h _ ⟨(W6.2 _ (Ne.symm I.ne)).trans I.obj,Yh,I.ne⟩ W6)
theorem Hm{R:Result->Shared->Prop}{vs:List Value}{kw:List (Str×Value)}(X:K.In s.heap)(hm:PySem.W.makesIn K C=true)
    (hi:PySem.W.findIn K (.ref C) "__init__"=some (some (.ref f))) (hf:PySem.W.typeIn K (.ref f)=some (.type "function"))
    (h:codeAny (model prog w) (A.under (.builtin "type.__call__" ⟨.ref C::vs,kw⟩)) (.call (.ref f) ⟨.ref (s.heap.objs.size+1)::vs,kw⟩) (PySem.W.InitBack (s.heap.objs.size+1) R)
      {s with heap:=(s.heap.push PySem.W.emptyDict).push (PySem.W.instObj C s.heap.objs.size)}) :
    codeAny (model prog w) A (.call (.ref C) ⟨vs,kw⟩) R s:=by
  obtain⟨hh,g,d,t,os⟩:=s;exact PySem.W.make_core (PySem.W.makes_of X hm) (PySem.W.looks_findIn X hi) (fun self=>PySem.W.bind_fn X self hf) (.inl rfl) h
end
noncomputable def iR(f:Str)(v:V):List (Str×V)->List (Str×V)
 | []=>[(f,v)]
 | (g,x)::r=>if g=f then (g,v)::r else (g,x)::iR f v r
theorem uP(f g:Str)(v:V):∀ fs:List (Str×V),(iR f v fs).lookup g=if g=f then some v else fs.lookup g
 | []=>by
  show List.lookup g [(f,v)]=_;by_cases h:g=f
  ·have hb:(g==f)=true:=beq_iff_eq.mpr h;simp only[List.lookup,hb,if_pos h]
  ·have hb:(g==f)=false:=beq_eq_false_iff_ne.mpr h;simp only[List.lookup,hb,if_neg h]
 | (k,x)::r=>by
  have ih:=uP f g v r;rw[show iR f v ((k,x)::r)=(if k=f then (k,v)::r else (k,x)::iR f v r) from rfl];by_cases hk:k=f
  ·rw[if_pos hk];by_cases h:g=k
   ·have hb:(g==k)=true:=beq_iff_eq.mpr h;simp only[List.lookup,hb,if_pos (h.trans hk)]
   ·have hb:(g==k)=false:=beq_eq_false_iff_ne.mpr h;simp only[List.lookup,hb,if_neg (fun e:g=f=>h (e.trans hk.symm))]
  ·rw[if_neg hk];by_cases h:g=k
   ·have hb:(g==k)=true:=beq_iff_eq.mpr h;simp only[List.lookup,hb,if_neg (fun e:g=f=>hk (h.symm.trans e))]
   ·have hb:(g==k)=false:=beq_eq_false_iff_ne.mpr h;simp only[List.lookup,hb];exact ih
theorem tG(f:Str)(v:V):∀ fs:List (Str×V),f∈(iR f v fs).map (·.1)/\∀ g,g∈fs.map (·.1)->g∈(iR f v fs).map (·.1)
 | []=>⟨by simp[iR],fun g h=>by simp at h⟩
 | (k,x)::r=>by
  obtain⟨i1,i2⟩:=tG f v r;rw[show iR f v ((k,x)::r)=(if k=f then (k,v)::r else (k,x)::iR f v r) from rfl];by_cases hk:k=f
  ·rw[if_pos hk];subst hk;exact⟨by simp,fun g h=>by simpa using h⟩
  ·rw[if_neg hk];refine⟨?_,fun g h=>?_⟩
   ·rw[List.map_cons];exact List.mem_cons_of_mem _ i1
   ·rw[List.map_cons] at h ⊢;rcases List.mem_cons.mp h with e|e
    ·exact List.mem_cons.mpr (.inl e)
    ·exact List.mem_cons_of_mem _ (i2 g e)
theorem uO(f:Str)(v:V):∀ fs:List (Str×V),(iR f v fs).length<=fs.length+1
 | []=>by simp[iR]
 | (k,x)::r=>by
  have ih:=uO f v r;rw[show iR f v ((k,x)::r)=(if k=f then (k,v)::r else (k,x)::iR f v r) from rfl];by_cases hk:k=f
  ·rw[if_pos hk,List.length_cons,List.length_cons];omega
  ·rw[if_neg hk,List.length_cons,List.length_cons];omega
theorem oR.some_of{v:V}{o:Option Value}(r:oR (some v) o):∃ u,o=some u/\bU v u:=by
 cases o with
 | none=>exact(show False from r).elim
 | some u=>exact⟨u,rfl,r⟩
theorem oR.none_of{o:Option Value}(r:oR none o):o=none:=by
 cases o with
 | none=>rfl
 | some u=>exact(show False from r).elim
theorem E5{v:V}{u:Value}(r:bU v u):PySem.W.handedIn u=true:=by
 cases v with
 | UK=>cases (show u=Value.none from r);rfl
 | bl b=>cases (show u=Value.bool b from r);rfl
 | int i=>obtain⟨t,e⟩:=(show ∃ t,u=Value.int i t from r);cases e;rfl
 | str x=>obtain⟨t,e⟩:=(show ∃ t,u=Value.str x t from r);cases e;rfl
 | byt b=>obtain⟨t,e⟩:=(show ∃ t,u=Value.bytes b t from r);cases e;rfl
 | flt b=>obtain⟨t,e⟩:=(show ∃ t,u=Value.float b t from r);cases e;rfl
 | ref a=>cases (show u=Value.ref a from r);rfl
 | ty n=>cases (show u=Value.type n from r);rfl
section
variable {P:Program} {w:World} {H H':Hp} {h h':Heap} {a C dx:Addr} {fs WR:List (Str×V)}
theorem Ba(UL:HOk P w H h)(e:H a=some (.ins C dx fs)):∃ mA,CW h a dx C mA/\(∀ f,oR (fs.lookup f) (mA f))/\PySem.Within mA (fs.map (·.1))/\fs.length<=1000/\H dx=some (.own a):=by
 obtain⟨d,z,ne,ob,mA,n,r,q⟩:=(show fM P w H h a (.ins C dx fs) from UL a _ e);exact⟨mA,⟨ob,n,ne⟩,r,q,z,d⟩
end
structure Cls(K:q0B)(C:Addr):Prop where
 pg:PySem.W.plainGet K C Str.empty=true
 hd:PySem.W.hasDictIn K C=true
 po:PySem.W.plainOver K C=true
 sa:PySem.W.findIn K (.ref C) "__setattr__"=some (some (.builtin "object.__setattr__"))
theorem Cls.get{K:q0B}{C:Addr}(c:Cls K C)(f:Str):PySem.W.plainGet K C f=true:=c.pg
noncomputable def jT(K:q0B)(C:Addr)(f:Str):Prop:=PySem.W.findIn K (.ref C) f=some none
theorem jT.Su{K:q0B}{C:Addr}{f:Str}(n:jT K C f):PySem.W.takerIn K C f=some none:=by
 unfold PySem.W.takerIn;rw[show PySem.W.findIn K (.ref C) f=some none from n];rfl
structure Meth(K:q0B)(C:Addr)(m:Str)(f:Addr):Prop where
 at_:PySem.W.findIn K (.ref C) m=some (some (.ref f))
 fn:PySem.W.isFn K (.ref f)=true
 kp:PySem.W.keepIn K (.ref f)=true
section
variable {X:Cx} {UE:List (Addr×Obj)} {σ:St} {H:Hp} {s:Shared} {a C dx:Addr} {fs:List (Str×V)} {f:Str} {v:V} {A:Around} {E:q0A}
theorem xA{b:Bool}{Q:q0A}(I:UI X UE σ H s)(e:H a=some (.ins C dx fs))(c:Cls X.K C)(n:jT X.K C f)(l:fs.lookup f=some v)
    (h:∀ u s',UI X UE σ H s'->bU v u->Q u s'):wpAny (model X.prog X.w) A (getAttr (.ref a) f b) Q E s:=by
  obtain⟨mA,O,r,_,_,_⟩:=Ba I.UL e;obtain⟨u,hu,ru⟩:=oR.some_of (v:=v) (o:=mA f) (by rw[<- l];exact r f);exact JW I.kIn O (c.get f) c.hd n hu (E5 ru) (h u _ (I.tok _) ru)
theorem xB{m:Str}{g:Addr}{pl:Sem Bool}{Q:Value×List Value->Shared->Prop}(I:UI X UE σ H s)(e:H a=some (.ins C dx fs))(c:Cls X.K C)(k:Meth X.K C m g)(l:fs.lookup m=none)
    (h:Q (.ref g,[.ref a]) s):wpAny (model X.prog X.w) A (getMethod (.ref a) m pl) Q E s:=by
  obtain⟨mA,O,r,_,_,_⟩:=Ba I.UL e;have hn:mA m=none:=oR.none_of (by rw[<- l];exact r m);exact GU I.kIn O (c.get m) k.at_ k.fn hn h
theorem yI{y:V}{u:Value}{Q:Unit->Shared->Prop}(I:UI X UE σ H s)(e:H a=some (.ins C dx fs))(c:Cls X.K C)(n:jT X.K C f)(hl:fs.length < 1000)(ry:bU y u)
    (h:∀ s',UI X UE σ (UH H a (.ins C dx (iR f y fs))) s'->Q () s'):wpAny (model X.prog X.w) A (setAttr (.ref a) f u) Q E s:=by
  obtain⟨mA,O,r,wi,_,ho⟩:=Ba I.UL e;have hz:(fs.map (·.1)).length<=sizeLine:=by rw[List.length_map,sizeLine_eq];omega
  refine KA I.kIn O c.sa c.po n.Su c.hd wi hz fun h' O' sb=>h _ ?_;have hd:∃ o,h'.get? dx=some o:=let ⟨o,_,_,e',_⟩:=O'.ns;⟨o,e'⟩;refine I.write (x:=a) (e:=dx) (by rw[e];exact True.intro) (.inr ho) (fun b q hb z=>(sb.2 b hb).trans z) hd ?_;refine⟨by rw[aY O.ne];exact ho,?_,O.ne,O'.obj,_,O'.ns,fun g=>?_,fun g hg=>?_⟩
  · have:=uO f y fs;omega
  · show oR ((iR f y fs).lookup g) (if g=f then some u else mA g);rw[uP];by_cases q:g=f
    · rw[if_pos q,if_pos q];exact ry
    · rw[if_neg q,if_neg q];exact r g
  · by_cases q:g=f
    · rw[q];exact(tG f y fs).1
    · refine(tG f y fs).2 g (wi g fun z=>hg ?_);show(if g=f then some u else mA g)=none;rw[if_neg q];exact z
theorem UI.made(I:UI X UE σ H s):UI X UE σ (UH (UH H s.heap.objs.size (.own (s.heap.objs.size+1))) (s.heap.objs.size+1) (.ins C s.heap.objs.size []))
    {s with heap:=(s.heap.push PySem.W.emptyDict).push (PySem.W.instObj C s.heap.objs.size)}:=by
  have e1:(s.heap.push PySem.W.emptyDict).get? s.heap.objs.size=some PySem.W.emptyDict:=Heap.get?_push_size s.heap rfl;have e2:((s.heap.push PySem.W.emptyDict).push (PySem.W.instObj C s.heap.objs.size)).get? (s.heap.objs.size+1)=some (PySem.W.instObj C s.heap.objs.size):=by
    have:=Heap.get?_push_size (s.heap.push PySem.W.emptyDict) (o:=PySem.W.instObj C s.heap.objs.size) rfl
    rwa [Heap.size_push] at this
  have e3:(s.heap.push PySem.W.emptyDict).Ns s.heap.objs.size (fun _=>none):=⟨PySem.W.emptyDict,#[],_,e1,rfl,(fun e he=>absurd he (by simp)),fun _=>rfl⟩;have I1:=I.laid (a:=s.heap.objs.size) (o:=.own (s.heap.objs.size+1)) (h':=s.heap.push PySem.W.emptyDict) (t':=s.toks) (fun b u q=>Heap.get?_push_of_some _ q) (Nat.le_refl _) ⟨_,e1⟩;refine I1.laid (a:=s.heap.objs.size+1) (o:=.ins C s.heap.objs.size []) (t':=s.toks) (fun b u q=>Heap.get?_push_of_some _ q) (Nat.le_of_eq (Heap.size_push _ _)) ?_;have ne:s.heap.objs.size≠s.heap.objs.size+1:=Nat.ne_of_lt (Nat.lt_succ_self _);refine⟨by rw[aY ne,aE],Nat.zero_le _,ne,e2,fun _=>none,(Heap.Ns1.of_empty e3).at fun o q=>Heap.get?_push_of_some _ q,fun _=>True.intro,fun y hy=>absurd rfl hy⟩
theorem IZ{prog:Program}{w:World}{env:Env}{e:Expr}{f:Str}{pos:Pos}{s:Shared}{Q:q0A}(hb:attributeBase e f env (eval e env)=eval e env)
    (h:wpAny (model prog w) A (eval e env) (fun o s₁=>wpAny (model prog w) A (getAttr o f true) Q E s₁) E s):wpAny (model prog w) A (eval (.Attribute e f pos) env) Q E s :=
  Attribute_any_ h (by rw[arm_eval_Attribute,hb])
end
noncomputable def S2(X:Cx)(op:Operator)(rd:V->V->Hp->VK->Prop):Prop :=
 ∀(UE:List (Addr×Obj)) (s:Shared) (σ:St) (H:Hp) (x y:V) (u v:Value) (Q:VK),UI X UE σ H s->bU x u->bU y v->rd x y H Q->wpAny (model X.prog X.w) X.A (inplaceOp op u v) (EP X UE σ Q) X.xe s
section
variable {X:Cx} {o e value:Expr} {f:Str} {pos pos' X2:Pos} {ta tv:TE}
noncomputable def TZ:V->V->Hp->VK->Prop:=fun x y H Q=>∃ i j,x=.int i/\y=.int j/\Q (.int (i+j)) H
theorem Of:S2 X .Add TZ:=by
 rintro UE s σ H x y u v Q I rx ry ⟨i,j,rfl,rfl,q⟩;obtain⟨t,rfl⟩:=(show ∃ t,u=Value.int i t from rx);obtain⟨t',rfl⟩:=(show ∃ t',v=Value.int j t' from ry);exact PyProof.Rows.iadd_int ⟨.int (i+j),H,I.tok _,⟨_,rfl⟩,q⟩
end
section
variable {X:Cx} {UE:List (Addr×Obj)} {σ:St} {H:Hp} {s:Shared} {A:Around} {E:q0A} {Q:q0A} {c:Value} {b:Bool}
end
structure Room(k:Nat)(A:Around):Prop where
 hd:A.handled=none
 dp:A.depth+3 * k+5 < recursionLimit
 un:A.units+16 * k+200 < cLine
theorem Room.mono{j k:Nat}{A:Around}(r:Room k A)(h:j<=k):Room j A:=⟨r.hd,by have:=r.dp;omega,by have:=r.un;omega⟩
theorem Room.deeper{k:Nat}{A:Around}(r:Room (k+1) A)(env:Env):Room k (A.deeper env) :=
 ⟨r.hd,by have:=r.dp;show A.depth+1+3 * k+5 < _;omega,by have:=r.un;show A.units+3+16 * k+200 < _;omega⟩
theorem Room.in1{k:Nat}{A:Around}(r:Room (k+1) A):Room k A.in1 :=
 ⟨r.hd,by have:=r.dp;show A.depth+3 * k+5 < _;omega,by have:=r.un;show A.units+1+16 * k+200 < _;omega⟩
theorem Dg{A:Around}{C:Addr}{us:List Value}{kw:List (Str×Value)}:(A.under (.builtin "type.__call__" ⟨.ref C::us,kw⟩)).depth=A.depth+1:=by
 first|rfl|simp[Around.under,Code.weight,Code.isCreation,Code.isGuard,Code.isCaller,Code.frames,Code.isFrame,guardIds]
theorem Dh{A:Around}{C:Addr}{us:List Value}{kw:List (Str×Value)}:(A.under (.builtin "type.__call__" ⟨.ref C::us,kw⟩)).units=A.units+1:=by
 first|rfl|simp[Around.under,Code.cUnits,Code.frames,Code.isFrame]
theorem Room.make{k:Nat}{A:Around}(r:Room (k+1) A)(C:Addr)(us:List Value)(kw:List (Str×Value)):Room k (A.under (.builtin "type.__call__" ⟨.ref C::us,kw⟩)) :=
 ⟨r.hd,by have:=r.dp;rw[Dg];omega,by have:=r.un;rw[Dh];omega⟩
theorem Room.depth{k:Nat}{A:Around}(r:Room k A):A.depth < recursionLimit:=by have:=r.dp;omega
theorem Room.units{k:Nat}{A:Around}(r:Room k A):A.units+64 < cLine:=by have:=r.un;omega
noncomputable def FE:TA:=fun _ H Q=>Q [] H
noncomputable def CQ(ta:TE)(tr:TA):TA:=fun σ H Q=>ta σ H fun x H1=>tr σ H1 fun xs H2=>Q (x::xs) H2
section
variable {X:Cx} {e:Expr} {es:List Expr} {te:TE} {t:TA} {pos:Pos}
theorem aB:PA X [] FE:=fun _ _ _ _ H Q I h=>Calls.spliced_nil ⟨[],H,I,.nil,h⟩
theorem Ef(ha:PE X e te)(hr:PA X es t)(hs:starEach (e::es) X.env=(false,eval e X.env)::starEach es X.env:=by rfl):PA X (e::es) (CQ te t):=by
 intro pos UE s σ H Q I h;rw[hs];show wpAny _ _ (spliced ((false,eval e X.env)::backTo pos (starEach es X.env))) _ _ s;refine Calls.spliced_cons (thn (ha UE s σ H _ I h) fun u s1 ⟨x,H1,I1,r1,q1⟩=>?_);exact thn (hr pos UE s1 σ H1 _ I1 q1) fun us s2 ⟨xs,H2,I2,r2,q2⟩=>⟨x::xs,H2,I2,.cons r1 r2,q2⟩
noncomputable def Sq(t:TA):TE:=fun σ H Q=>t σ H fun xs H1=>xs.length<=sizeLine/\∀ p,H1 p=none->Q (.ref p) (UH H1 p (.tup xs))
noncomputable def Si(t:TA):TE:=fun σ H Q=>t σ H fun xs H1=>xs.length<=sizeLine/\∀ p,H1 p=none->Q (.ref p) (UH H1 p (.lst xs))
theorem bM{x1}(h:PA X es t):PE X (.Tuple es x1 pos) (Sq t):=by
 intro UE s σ H Q I hq;refine wpAny_Tuple_spliced (thn (h pos UE s σ H _ I hq) fun us s1 ⟨xs,H1,I1,r,z,q⟩=>⟨by rw[<- r.length];exact z,?_⟩);have hf:H1 s1.heap.objs.size=none:=I1.UL.fresh (Nat.le_refl _);refine⟨.ref s1.heap.objs.size,UH H1 s1.heap.objs.size (.tup xs),I1.laid (t':=s1.toks) (fun b u e=>Heap.get?_push_of_some _ e) (Nat.le_refl _) ?_,rfl,q _ hf⟩;exact⟨z,us,r,⟨_,Heap.get?_push_size _ rfl,rfl,_,rfl⟩⟩
theorem bF(h:PA X es t):PE X (.List es pos) (Si t):=by
 intro UE s σ H Q I hq;refine wpAny_List_spliced (thn (h pos UE s σ H _ I hq) fun us s1 ⟨xs,H1,I1,r,z,q⟩=>⟨by rw[<- r.length];exact z,?_⟩);have hf:H1 s1.heap.objs.size=none:=I1.UL.fresh (Nat.le_refl _);refine⟨.ref s1.heap.objs.size,UH H1 s1.heap.objs.size (.lst xs),I1.laid (t':=s1.toks) (fun b u e=>Heap.get?_push_of_some _ e) (Nat.le_refl _) ?_,rfl,q _ hf⟩;exact⟨z,us,0,r,Heap.get?_push_size _ rfl⟩
end
noncomputable abbrev Sp:=List V->Hp->VK->XK->Prop
noncomputable abbrev CXT:=List Env->Hp->Shared->XK->Value->Shared->Prop
structure Env0(P:Program)(w:World)(K:q0B)(mg:q0C)(base:Heap)(A:Around)(outer:List Env)(s:Shared)(H:Hp):Prop where
 frames:A.frames=some outer
 mod:Mod K mg base
 bs:∀ b o,base.get? b=some o->s.heap.get? b=some o/\H b=none
 bsz:base.objs.size<=s.heap.objs.size
 oU:s.heap.FunFrames base outer
 frf:∀ b∈frs outer,H b=none
 UL:HOk P w H s.heap
 bare:AllBare s.gens
noncomputable def CE(outer:List Env)(P:Program)(w:World)(H:Hp)(s:Shared)(Q:VK)(u:Value)(s':Shared):Prop :=
 ∃ v H',s'.os=s.os/\AllBare s'.gens/\Un (frs outer) [] H H' s.heap s'.heap/\HOk P w H' s'.heap/\bU v u/\Q v H'
noncomputable def CR(CX:CXT)(outer:List Env)(P:Program)(w:World)(H:Hp)(s:Shared)(Q:VK)(E:XK)(r:Result)(s':Shared):Prop :=
 match r with
 | .ok (.ret u)=>CE outer P w H s Q u s'
 | .ok _=>False
 | .error e=>CX outer H s E e s'
structure bN(P:Program)(w:World)(K:q0B)(mg:q0C)(base:Heap)(CX:CXT)(k:Nat)(f:Addr)(fd:FuncData)(ps:List Str)(sp:Sp):Prop where
 len:∀ vs H Q E,sp vs H Q E->vs.length=ps.length
 run:∀(A:Around) (outer:List Env) (s:Shared) (H:Hp) (args:Args) (us:List Value) (vs:List V) (Q:VK) (E:XK),Room k A->Env0 P w K mg base A outer s H->BindsTo s fd args (ps.zip us)->Vals vs us->sp vs H Q E ->
  codeAny (model P w) A (.call (.ref f) args) (CR CX outer P w H s Q E) s
theorem bN.mono{P:Program}{w:World}{K:q0B}{mg:q0C}{base:Heap}{CX:CXT}{j k:Nat}{f:Addr}{fd:FuncData}{ps:List Str}{sp:Sp}(F:bN P w K mg base CX j f fd ps sp)(h:j<=k) :
    bN P w K mg base CX k f fd ps sp:=⟨F.len,fun A outer s H args us vs Q E hr=>F.run A outer s H args us vs Q E (hr.mono h)⟩
theorem bN.imp{P:Program}{w:World}{K:q0B}{mg:q0C}{base:Heap}{CX:CXT}{k:Nat}{f:Addr}{fd:FuncData}{ps:List Str}{sp sp':Sp}(F:bN P w K mg base CX k f fd ps sp)
    (h:∀ vs H Q E,sp' vs H Q E->sp vs H Q E):bN P w K mg base CX k f fd ps sp' :=
  ⟨fun vs H Q E q=>F.len vs H Q E (h _ _ _ _ q),fun A outer s H args us vs Q E hr he hb hv hs=>F.run A outer s H args us vs Q E hr he hb hv (h _ _ _ _ hs)⟩
theorem Env0.make{P:Program}{w:World}{K:q0B}{mg:q0C}{base:Heap}{A:Around}{outer:List Env}{s:Shared}{H:Hp}(e:Env0 P w K mg base A outer s H)(C:Addr)(us:List Value)(kw:List (Str×Value)) :
    Env0 P w K mg base (A.under (.builtin "type.__call__" ⟨.ref C::us,kw⟩)) outer s H:=⟨by first|exact e.frames|(simpa[Around.under,Code.envs,Code.isFrame,pushEnvs] using e.frames),e.mod,e.bs,e.bsz,e.oU,e.frf,e.UL,e.bare⟩
theorem Env0.in1{P:Program}{w:World}{K:q0B}{mg:q0C}{base:Heap}{A:Around}{outer:List Env}{s:Shared}{H:Hp}(e:Env0 P w K mg base A outer s H) :
    Env0 P w K mg base A.in1 outer s H:=⟨e.frames,e.mod,e.bs,e.bsz,e.oU,e.frf,e.UL,e.bare⟩
section
variable {X:Cx} {UE:List (Addr×Obj)} {σ:St} {H:Hp} {s s':Shared}
theorem UI.NY(I:UI X UE σ H s):Env0 X.prog X.w X.K X.mg X.base X.A X.stack s H :=
 ⟨I.ok.frames,I.ok.mod,I.bs,Nat.le_trans I.ok.bsz I.sz,I.stack,I.BE,I.UL,I.bare⟩
theorem UI.after{Q:VK}{u:Value}(I:UI X UE σ H s)(h:CE X.stack X.prog X.w H s Q u s'):EP X UE σ Q u s':=by
 obtain⟨v,H',os,bare,un,UL,r,q⟩:=h;obtain⟨hh,g,d,t,os'⟩:=s';obtain rfl:os'=s.os:=os;exact⟨v,H',I.call (h':=hh) (g':=g) (d':=d) (t':=t) (ch:=[]) un UL bare (fun b z=>absurd z (by simp)),r,q⟩
end
noncomputable def Et(sp:Sp)(U7:List V)(E:XK)(t:TA):TE:=fun σ H Q=>t σ H fun vs H1=>sp (vs++U7) H1 Q E
noncomputable def Ew(C:Addr)(m:Str)(sp:Sp)(U7:List V)(E:XK)(ta:TE)(t:TA):TE:=fun σ H Q=>ta σ H fun x H1=>∃ a dx fs,x=.ref a/\H1 a=some (.ins C dx fs)/\fs.lookup m=none /\
 t σ H1 fun vs H2=>sp (x::(vs++U7)) H2 Q E
noncomputable def Io(C:Addr)(sp:Sp)(U7:List V)(E:XK)(t:TA):TE:=fun σ H Q=>t σ H fun vs H1=>∀ x dx,H1 x=none->H1 dx=none->dx≠x ->
 sp (.ref x::(vs++U7)) (UH (UH H1 dx (.own x)) x (.ins C dx [])) (fun v H2=>v=.UK/\Q (.ref x) H2) E
noncomputable def Binds(K:q0B)(fd:FuncData)(ps:List Str)(ds:List Value):Prop :=
 ∀(s:Shared) (us:List Value),K.In s.heap->(us++ds).length=ps.length->BindsTo s fd ⟨us,[]⟩ (ps.zip (us++ds))
theorem Binds.all{K:q0B}{fd:FuncData}{ps:List Str}(h:∀ us:List Value,us.length=ps.length->bindArgs fd ⟨us,[]⟩=pure (ps.zip us)):Binds K fd ps []:=fun s us _ hl=>by
 rw[List.append_nil] at hl ⊢;exact .of_eq (h us hl)
noncomputable def Passes(CX:CXT)(X:Cx)(E:XK):Prop:=∀(UE:List (Addr×Obj)) (σ:St) (H:Hp) (s:Shared) (e:Value) (s':Shared),UI X UE σ H s->CX X.stack H s E e s'->X.xe e s'
section
variable {X:Cx} {CX:CXT} {k:Nat} {f C:Addr} {fd:FuncData} {ps:List Str} {sp:Sp} {U7:List V} {ds:List Value} {E:XK} {x m:Str} {p pos apos:Pos} {e o:Expr} {es:List Expr} {ta:TE} {t:TA}
theorem Bu{UE:List (Addr×Obj)}{σ:St}{H:Hp}{s:Shared}{Q:VK}{us:List Value}{vs:List V}(F:bN X.prog X.w X.K X.mg X.base CX k f fd ps sp)(hr:Room k X.A)(hb:Binds X.K fd ps ds)(hd:Vals U7 ds)(hx:Passes CX X E)
    (I:UI X UE σ H s) (r:Vals vs us) (h:sp (vs++U7) H Q E):wpAny (model X.prog X.w) X.A (call (.ref f) us) (EP X UE σ Q) X.xe s:=by
  have r2:Vals (vs++U7) (us++ds):=r.append hd;have hl:(us++ds).length=ps.length:=by rw[<- r2.length];exact F.len _ _ _ _ h
  refine wpAny_call (codeAny_mono (F.run X.A X.stack s H ⟨us,[]⟩ (us++ds) (vs++U7) Q E hr I.NY (hb s us I.kIn hl) r2 h) fun r s' hq=>?_);cases r with
  | error e=>exact hx UE σ H s e s' I hq
  | ok fl =>
    cases fl with
    | ret u=>exact I.after hq
    | next=>exact False.elim hq
    | brk=>exact False.elim hq
    | cont=>exact False.elim hq
theorem aI(F:bN X.prog X.w X.K X.mg X.base CX k f fd ps sp)(hr:Room k X.A)(hg:Gl X x)(hm:X.mg x=some (.ref f))(hk:PySem.W.keepIn X.K (.ref f)=true)(hb:Binds X.K fd ps ds)(hd:Vals U7 ds)(hx:Passes CX X E)
    (ha:PA X (e::es) t) (VJ:(x==("__debug__":Str))=false:=by decide) (he:starEach (e::es) X.env=(false,eval e X.env)::starEach es X.env:=by rfl) (VD:(backTo pos (starEach es X.env)).any (·.1)=false:=by rfl) :
    PE X (.Call (.Name x p) (e::es) [] pos) (Et sp U7 E t):=by
  intro UE s σ H Q I h;refine wpAny_Call_Name_kw (lH I hg hm ?_ VJ);refine PySem.W.callWith_K (h₀:=X.base) I.ok.mod.kin hk (thn (ha pos UE s σ H _ I h) fun us s1 ⟨vs,H1,I1,r,q⟩=>⟨I1.kIn,?_⟩) he VD;exact Bu F hr hb hd hx I1 r q
theorem x8(F:bN X.prog X.w X.K X.mg X.base CX k f fd ps sp)(hr:Room k X.A)(hg:Gl X x)(hm:X.mg x=some (.ref f))(hk:PySem.W.keepIn X.K (.ref f)=true)(hb:Binds X.K fd ps ds)(hd:Vals U7 ds)(hx:Passes CX X E)
    (VJ:(x==("__debug__":Str))=false:=by decide):PE X (.Call (.Name x p) [] [] pos) (Et sp U7 E FE):=by
  intro UE s σ H Q I h;refine wpAny_Call_Name_kw (lH I hg hm ?_ VJ);exact PySem.W.callWith_K0 I.kIn hk (Bu (us:=[]) F hr hb hd hx I .nil h)
theorem oM{pl:Sem Bool}(he:PE X o ta)(c:Cls X.K C)(hm:Meth X.K C m f)(F:bN X.prog X.w X.K X.mg X.base CX k f fd ps sp)(hr:Room k X.A)(hb:Binds X.K fd ps ds)(hd:Vals U7 ds)(hx:Passes CX X E)(ha:PA X (e::es) t)
    (Vs:starEach (e::es) X.env=(false,eval e X.env)::starEach es X.env:=by rfl) (VD:(backTo pos (starEach es X.env)).any (·.1)=false:=by rfl)
    (ht:eval (.Call (.Attribute o m apos) (e::es) [] pos) X.env=(do
      let ov <- eval o X.env
      standAt apos.atName
      let (f,first) <- holding [ov] (getMethod ov m pl)
      callWith pos f first (backTo pos (starEach (e::es) X.env)) (backToKw pos (keywordEach [] X.env))):=by rfl) :
    PE X (.Call (.Attribute o m apos) (e::es) [] pos) (Ew C m sp U7 E ta t):=by
  intro UE s σ H Q I h;refine PySem.W.methodCall_KW (pl:=pl) (thn (he UE s σ H _ I h) fun u s1 ⟨x,H1,I1,rx,a,dx,fs,ex,ea,l,q⟩=>?_) ht;subst ex;obtain rfl:u=Value.ref a:=rx;refine xB I1 ea c hm l ?_;refine PySem.W.callWith_K (first:=[.ref a]) (h₀:=X.base) I.ok.mod.kin hm.kp (thn (ha pos UE s1 σ H1 _ I1 q) fun us s2 ⟨vs,H2,I2,r,q2⟩=>⟨I2.kIn,?_⟩) Vs VD
  exact Bu (us:=.ref a::us) (vs:=.ref a::vs) F hr hb hd hx I2 (.cons rfl r) q2
theorem nH{pl:Sem Bool}(he:PE X o ta)(c:Cls X.K C)(hm:Meth X.K C m f)(F:bN X.prog X.w X.K X.mg X.base CX k f fd ps sp)(hr:Room k X.A)(hb:Binds X.K fd ps ds)(hd:Vals U7 ds)(hx:Passes CX X E)
    (ht:eval (.Call (.Attribute o m apos) [] [] pos) X.env=(do
      let ov <- eval o X.env
      standAt apos.atName
      let (f,first) <- holding [ov] (getMethod ov m pl)
      callWith pos f first (backTo pos (starEach [] X.env)) (backToKw pos (keywordEach [] X.env))):=by rfl) :
    PE X (.Call (.Attribute o m apos) [] [] pos) (Ew C m sp U7 E ta FE):=by
  intro UE s σ H Q I h;refine PySem.W.methodCall_KW (pl:=pl) (thn (he UE s σ H _ I h) fun u s1 ⟨x,H1,I1,rx,a,dx,fs,ex,ea,l,q⟩=>?_) ht;subst ex;obtain rfl:u=Value.ref a:=rx;refine xB I1 ea c hm l ?_;exact PySem.W.callWith_K0 (first:=[.ref a]) I1.kIn hm.kp (Bu (us:=[.ref a]) (vs:=[.ref a]) F hr hb hd hx I1 (.cons rfl .nil) q)
structure Mk(K:q0B)(C f:Addr):Prop where
 makes:PySem.W.makesIn K C=true
 init:PySem.W.findIn K (.ref C) "__init__"=some (some (.ref f))
 fn:PySem.W.isFn K (.ref f)=true
 kp:PySem.W.keepIn K (.ref C)=true
theorem HS{UE:List (Addr×Obj)}{σ:St}{H:Hp}{s:Shared}{Q:VK}{us:List Value}{vs:List V}(M:Mk X.K C f)(F:bN X.prog X.w X.K X.mg X.base CX k f fd ps sp)(hr:Room (k+1) X.A)(hb:Binds X.K fd ps ds)(hd:Vals U7 ds)
    (hx:Passes CX X E) (I:UI X UE σ H s) (r:Vals vs us)
    (h:∀ x dx,H x=none->H dx=none->dx≠x->sp (.ref x::(vs++U7)) (UH (UH H dx (.own x)) x (.ins C dx [])) (fun v H2=>v=.UK/\Q (.ref x) H2) E) :
    wpAny (model X.prog X.w) X.A (call (.ref C) us) (EP X UE σ Q) X.xe s:=by
  have hq:=h (s.heap.objs.size+1) s.heap.objs.size (I.UL.fresh (Nat.le_succ _)) (I.UL.fresh (Nat.le_refl _)) (Nat.ne_of_lt (Nat.lt_succ_self _));have I2:=UI.made (C:=C) I;have r2:Vals (V.ref (s.heap.objs.size+1)::(vs++U7)) (Value.ref (s.heap.objs.size+1)::(us++ds)):=.cons rfl (r.append hd);have hl:(Value.ref (s.heap.objs.size+1)::us++ds).length=ps.length:=by
    have e:=r2.length;rw[F.len _ _ _ _ hq] at e;exact e.symm
  refine wpAny_call (Hm (f:=f) I.kIn M.makes M.init (beq_iff_eq.mp M.fn) (codeAny_mono (F.run _ X.stack _ _ ⟨Value.ref (s.heap.objs.size+1)::us,[]⟩ (Value.ref (s.heap.objs.size+1)::(us++ds)) _ _ E (hr.make C us [])
    (I2.NY.make C us []) (hb _ (Value.ref (s.heap.objs.size+1)::us) I2.kIn hl) r2 hq) fun r s' YS=>?_))
  cases r with
  | error e=>exact hx UE σ _ _ e s' I2 YS
  | ok fl =>
    cases fl with
    | ret u =>
      obtain⟨v,H',I3,rv,ev,q3⟩:=I2.after YS;subst ev;exact⟨rv,⟨V.ref (s.heap.objs.size+1),H',I3,rfl,q3⟩⟩
    | next=>exact False.elim YS
    | brk=>exact False.elim YS
    | cont=>exact False.elim YS
theorem Ko(M:Mk X.K C f)(F:bN X.prog X.w X.K X.mg X.base CX k f fd ps sp)(hr:Room (k+1) X.A)(hg:Gl X x)(hm:X.mg x=some (.ref C))(hb:Binds X.K fd ps ds)(hd:Vals U7 ds)(hx:Passes CX X E)
    (ha:PA X (e::es) t) (VJ:(x==("__debug__":Str))=false:=by decide) (he:starEach (e::es) X.env=(false,eval e X.env)::starEach es X.env:=by rfl) (VD:(backTo pos (starEach es X.env)).any (·.1)=false:=by rfl) :
    PE X (.Call (.Name x p) (e::es) [] pos) (Io C sp U7 E t):=by
  intro UE s σ H Q I h;refine wpAny_Call_Name_kw (lH I hg hm ?_ VJ);refine PySem.W.callWith_K (h₀:=X.base) I.ok.mod.kin M.kp (thn (ha pos UE s σ H _ I h) fun us s1 ⟨vs,H1,I1,r,q⟩=>⟨I1.kIn,?_⟩) he VD;exact HS M F hr hb hd hx I1 r q
end
section
variable {X:Cx} {CX:CXT} {k:Nat} {f C:Addr} {fd:FuncData} {ps ks:List Str} {sp:Sp} {E:XK} {x m:Str} {p pos apos aaY:Pos} {e o:Expr} {es:List Expr} {kws:List Keyword} {te ta:TE} {t tk:TA} {nm:Option Str}
variable {g:List Value->List Value->List Value} {gV:List V->List V->List V}
end
structure bC(N P:List Str)(sc:Scope):Prop where
 kind:sc.kind=.function
 co:sc.isCoroutine=false
 gen:sc.isGenerator=false
 nd:N.Nodup
 pre:N.take P.length=P
 par:∀ x∈P,sc.names.lookup x=some .local\/sc.names.lookup x=some .cell
 m8:∀ y∈sc.names,y.2≠.free
theorem zV{kindOf:Str->Option NameKind}{x:Str}:∀ {binds:List (Str×Value)} {m:q0C},(∀ v,(x,v)∉binds)->bindL kindOf binds m x=m x
 | [],_,_=>rfl
 | (n,v)::r,m,h=>by
  unfold bindL;rw[zV fun w hw=>h w (List.mem_cons_of_mem _ hw)];split
  ·have:x≠n:=by rintro rfl;exact h v List.mem_cons_self
   simp[this]
  ·rfl
theorem zT{kindOf:Str->Option NameKind}{x:Str}:∀ {binds:List (Str×Value)} {m:q0C},(∀ v,(x,v)∉binds)->bindC kindOf binds m x=m x
 | [],_,_=>rfl
 | (n,v)::r,m,h=>by
  unfold bindC;rw[zT fun w hw=>h w (List.mem_cons_of_mem _ hw)];split
  ·rfl
  ·have:x≠n:=by rintro rfl;exact h v List.mem_cons_self
   simp[this]
theorem zU{kindOf:Str->Option NameKind}{x:Str}{v:Value}:∀ {P:List Str} {vs:List Value} {i:Nat} {m:q0C},P.Nodup->P[i]?=some x->vs[i]?=some v->kindOf x=some .local ->
    bindL kindOf (P.zip vs) m x=some v
  | [],_,_,_,_,h,_,_=>by simp at h
  | _::_,[],_,_,_,_,h,_=>by simp at h
  | p::P,w::vs,0,m,nd,h1,h2,hk=>by
    simp at h1 h2;subst h1;subst h2;show bindL kindOf ((p,w)::P.zip vs) m p=_;unfold bindL;rw[zV fun v hv=>(List.nodup_cons.mp nd).1 (List.of_mem_zip hv).1,if_pos hk];simp
  | p::P,w::vs,i+1,m,nd,h1,h2,hk=>by
    show bindL kindOf ((p,w)::P.zip vs) m x=_;unfold bindL;exact zU (i:=i) (List.nodup_cons.mp nd).2 (by simpa using h1) (by simpa using h2) hk
theorem zS{kindOf:Str->Option NameKind}{x:Str}{v:Value}:∀ {P:List Str} {vs:List Value} {i:Nat} {m:q0C},P.Nodup->P[i]?=some x->vs[i]?=some v->kindOf x≠some .local ->
    bindC kindOf (P.zip vs) m x=some v
  | [],_,_,_,_,h,_,_=>by simp at h
  | _::_,[],_,_,_,_,h,_=>by simp at h
  | p::P,w::vs,0,m,nd,h1,h2,hk=>by
    simp at h1 h2;subst h1;subst h2;show bindC kindOf ((p,w)::P.zip vs) m p=_;unfold bindC;rw[zT fun v hv=>(List.nodup_cons.mp nd).1 (List.of_mem_zip hv).1,if_neg hk];simp
  | p::P,w::vs,i+1,m,nd,h1,h2,hk=>by
    show bindC kindOf ((p,w)::P.zip vs) m x=_;unfold bindC;exact zS (i:=i) (List.nodup_cons.mp nd).2 (by simpa using h1) (by simpa using h2) hk
noncomputable def start(N:List Str)(vs:List V):St:=vs.map some++List.replicate (N.length - vs.length) none
noncomputable def oT(CX:CXT)(P:Program)(w:World)(K:q0B)(mg:q0C)(base:Heap)(N:List Str)(qual:Str)(scope:Scope)(f:Addr)(cd:Value)(A:Around)(outer:List Env)(s:Shared)(H:Hp)(E:XK):Cx where
 prog:=P
 w:=w
 K:=K
 mg:=mg
 base:=base
 A:=A.deeper (envOfC qual scope s.heap.objs.size f cd)
 N:=N
 s₀:=s
 H₀:=H
 env:=envOfC qual scope s.heap.objs.size f cd
 outer:=outer
 stack:=envOfC qual scope s.heap.objs.size f cd::outer
 ex:=[]
 calm:=true
 fn:=fun _=>true
 pn:=[]
 xe:=fun e s'=>wpAny (model P w) (A.deeper (envOfC qual scope s.heap.objs.size f cd)) (leaving (envOfC qual scope s.heap.objs.size f cd) e) (fun _ Y8=>CX outer H s E e Y8) (fun e' Y8=>CX outer H s E e' Y8) s'
theorem BU{sc:Scope}{n:Nat}{x:Str}(h:sc.names.lookup x=some .cell):∃ c,(cellsFrom n sc.names []).lookup x=some c:=by
 have q:=PySem.W.cellsFrom_some sc.names n [] (.inl h);exact Option.isSome_iff_exists.mp q
theorem E7{CX:CXT}{P:Program}{w:World}{K:q0B}{mg:q0C}{base:Heap}{N ps:List Str}{qual:Str}{scope:Scope}{f:Addr}{cd:Value}{A:Around}{outer:List Env}{s s1:Shared}{H:Hp}{E:XK}{us:List Value}{vs:List V}
    (S:bC N ps scope) (hd:A.handled=none) (e0:Env0 P w K mg base A outer s H) (hl:vs.length=ps.length) (r:Vals vs us)
    (x:InCallC s s.heap.objs.size (bindL (envOfC qual scope s.heap.objs.size f cd).kindOf (ps.zip us) fun _=>none) (cellsFrom (s.heap.objs.size+1) scope.names []) (bindC (envOfC qual scope s.heap.objs.size f cd).kindOf (ps.zip us) fun _=>none) s1) :
    UI (oT CX P w K mg base N qual scope f cd A outer s H E) [] (start N vs) H s1:=by
  have VD:ps.length<=N.length:=by have:=congrArg List.length S.pre;rw[List.length_take] at this;omega
  obtain⟨h1,tk,rfl,hk⟩:=x.done;have Y3:∀ b:Addr,b∉(oT CX P w K mg base N qual scope f cd A outer s H E).ex:=fun b z=>absurd (show b∈([]:List Addr) from z) (by simp);refine⟨⟨e0.mod,S.kind,rfl,rfl,Nat.le_refl _,fun y z c h1 h2=>?_,fun y hy=>?_,fun y c _ h=>?_,fun _=>hd,Around.frames_deeper e0.frames,.inr ⟨rfl,rfl⟩,fun b z=>absurd z (Y3 b),e0.bs,e0.bsz,fun b _ _=>Y3 b,fun b z=>absurd z (Y3 b),e0.oU,e0.frf⟩,
    rfl,e0.bare,Un.kept hk,⟨_,x.toInCall.ns,fun i y v h1 h2 h3=>?_⟩,fun y c h=>⟨_,x.cell y c h⟩,e0.UL.fresh (Nat.le_refl _),fun y c h=>?_,fun p hp=>absurd (show p∈([]:List (Addr×Obj)) from hp) (by simp),e0.UL.kept hk,?_⟩
  · exact name_of_addr x.apart (PySem.mem_of_lookup h1) (PySem.mem_of_lookup h2)
  · have hy:scope.names.lookup y=some .cell\/scope.names.lookup y=some .free:=hy;rcases hy with hy|hy
    · exact BU hy
    · exact absurd rfl (S.m8 _ (PySem.mem_of_lookup hy))
  · exact Nat.le_of_lt (x.above y c (PySem.mem_of_lookup h))
  · have hi:i < vs.length:=by
      unfold start at h2;by_cases hi:i < vs.length
      · exact hi
      · rw[List.getElem?_append_right (by simpa using hi)] at h2;rw[List.getElem?_replicate] at h2;split at h2<;>cases h2
    have ha:vs[i]?=some v:=by
      unfold start at h2;rw[List.getElem?_append_left (by simpa using hi),List.getElem?_map] at h2;cases e:vs[i]? with
      | none=>rw[e] at h2;cases h2
      | some a=>rw[e] at h2;cases h2;rfl
    obtain⟨u,hu,rv⟩:=r.get ha;have hp:ps[i]?=some y:=by
      rw[<- S.pre,List.getElem?_take_of_lt (by omega)];exact h1
    have ndP:ps.Nodup:=by rw[<- S.pre];exact S.nd.sublist (List.take_sublist _ _)
    refine⟨u,rv,?_⟩;rcases S.par y (List.mem_of_getElem? hp) with k|k
    · exact .inl ⟨k,zU ndP hp hu k⟩
    · obtain⟨c,e⟩:=BU (n:=s.heap.objs.size+1) k;refine .inr ⟨.inl k,c,e,?_⟩;have q:=x.cell y c e;rw[zS ndP hp hu (by show scope.names.lookup y≠_;rw[k];decide)] at q;exact q
  · exact e0.UL.fresh (Nat.le_of_lt (x.above y c (PySem.mem_of_lookup h)))
  · unfold start;show _=N.length;rw[List.length_append,List.length_map,List.length_replicate];omega
theorem Lo{CX:CXT}{P:Program}{w:World}{K:q0B}{mg:q0C}{base:Heap}{k:Nat}{f:Addr}{name qual:Str}{params:Arguments}{body:List Stmt}{scope:Scope}{dV kV doc pm UN ct oc:Value}{an od:Option Addr}
    {Xb:Array (Option Value)} {N ps:List Str} {sp:Sp} (lk:K.lookup f=some ⟨oc,od,.func (PySem.W.fnOf name qual params body scope dV kV doc pm an UN ct),Xb⟩) (V7:PySem.W.codeIn K UN qual=true) (S:bC N ps scope)
    (len:∀ vs H Q E,sp vs H Q E->vs.length=ps.length)
    (VI:∀(A:Around) (outer:List Env) (s:Shared) (H:Hp) (vs:List V) (Q:VK) (E:XK),Room k (A.deeper (envOfC qual scope s.heap.objs.size f UN))->sp vs H Q E ->
      ∃ t,VA (oT CX P w K mg base N qual scope f UN A outer s H E) body t/\t {nx:=fun _ H'=>Q .UK H',rt:=Q} (start N vs) H) :
    bN P w K mg base CX (k+1) f (PySem.W.fnOf name qual params body scope dV kV doc pm an UN ct) ps sp:=by
  refine⟨len,fun A outer s H args us vs Q E hr e0 hb r WT=>?_⟩;have hl:=len _ _ _ _ WT;have KX:K.In s.heap:=e0.mod.kin.keeps fun b o e=>(e0.bs b o e).1;have lim:s.heap.NoLimit:=e0.mod.nolimit.keeps fun b o e=>(e0.bs b o e).1;have V3:∀ y∈ps.zip us,scope.names.lookup y.1=some .local\/(scope.names.lookup y.1=some .cell/\((cellsFrom (s.heap.objs.size+1) scope.names []).lookup y.1).isSome=true):=fun⟨n,v⟩ hy=>by
    rcases S.par n (List.of_mem_zip hy).1 with q|q
    · exact .inl q
    · exact .inr ⟨q,PySem.W.cellsFrom_some _ _ _ (.inl q)⟩
  refine codeAny_call_function hr.depth (KX _ _ lk) rfl S.co S.gen rfl (PySem.W.codeRec_of KX V7) (hb _ _ _ _ ?_);refine wpAny_newFunctionEnv_cells S.kind V3 fun env he s1 x=>?_;subst he;refine⟨lim.keeps x.toInCall.keep,codeAny_func ?_⟩;obtain⟨t,ht,hq⟩:=VI A outer s H vs Q E (hr.deeper _) WT;have I:UI (oT CX P w K mg base N qual scope f UN A outer s H E) [] (start N vs) H s1:=E7 S hr.hd e0 hl r x;refine wpAny_mono (ht [] s1 (start N vs) H _ I hq) (fun fl s' hs=>?_) fun e s' hs=>hs;have fin:∀ {σ':St} {H':Hp} {v:V} {u:Value},UI (oT CX P w K mg base N qual scope f UN A outer s H E) [] σ' H' s'->bU v u->Q v H'->CE outer P w H s Q u s' :=
    fun {σ' H' v u} J rv q=>⟨v,H',J.os,J.bare,J.base,J.UL,rv,q⟩
  cases fl with
  | ret u =>
    obtain⟨v,σ',H',J,rv,q⟩:=hs;exact fin J rv q
  | next =>
    obtain⟨σ',H',J,q⟩:=hs;exact fin (v:=V.UK) (u:=Value.none) J rfl q
  | brk =>
    obtain⟨_,_,_,q⟩:=hs;exact False.elim q
  | cont =>
    obtain⟨_,_,_,q⟩:=hs;exact False.elim q
section
variable {X:Cx} {x:Str} {p pos:Pos} {e:Expr} {es:List Expr} {t:TA} {id T:String} {r:List V->Hp->VK->Prop}
noncomputable def Uc(r:List V->Hp->VK->Prop)(t:TA):TE:=fun σ H Q=>t σ H fun vs H1=>r vs H1 Q
theorem bP(hc:eP X (.builtin id) r)(hg:Gl X x)(hm:X.mg x=none)(hv:bootBuiltins x=some (.builtin id))(ha:PA X (e::es) t)(hn:x≠"__name__":=by decide)(VJ:(x==("__debug__":Str))=false:=by decide)
    (he:starEach (e::es) X.env=(false,eval e X.env)::starEach es X.env:=by rfl) (VD:(backTo pos (starEach es X.env)).any (·.1)=false:=by rfl):PE X (.Call (.Name x p) (e::es) [] pos) (Uc r t):=by
  intro UE s σ H Q I h;refine wpAny_Call_Name_kw (Bf I hg hm hv ?_ hn VJ);exact PyProof.Rows.callWith_builtin1 (thn (ha pos UE s σ H _ I h) fun us s1 ⟨vs,H1,I1,r1,q1⟩=>hc UE s1 σ H1 vs us Q I1 r1 q1) he VD
theorem dF(hc:eP X (.type T) r)(hg:Gl X x)(hm:X.mg x=none)(hv:bootBuiltins x=some (.type T))(ha:PA X (e::es) t)(hn:x≠"__name__":=by decide)(VJ:(x==("__debug__":Str))=false:=by decide)
    (he:starEach (e::es) X.env=(false,eval e X.env)::starEach es X.env:=by rfl) (VD:(backTo pos (starEach es X.env)).any (·.1)=false:=by rfl):PE X (.Call (.Name x p) (e::es) [] pos) (Uc r t):=by
  intro UE s σ H Q I h;refine wpAny_Call_Name_kw (Bf I hg hm hv ?_ hn VJ);exact PyProof.Rows.callWith_type1 (thn (ha pos UE s σ H _ I h) fun us s1 ⟨vs,H1,I1,r1,q1⟩=>hc UE s1 σ H1 vs us Q I1 r1 q1) he VD
end
end L2
namespace HT
open PySem PyProof.Rows
section
open PySem.SeqAt
open PySem.AutoSeq1 (wpAny_loadPart')
open PySem.MeetsSeq PySem.MeetsSeq2 PySem.MeetsSeq3
end
section
variable {prog:Program} {w:World} {A:Around} {E:q0A} {s:Shared}
theorem Je{t b:Addr}{vs ws:List Value}{Q:q0A}(ht:IsTup s.heap t vs.toArray)(hb:IsTup s.heap b ws.toArray)(hv:vs≠[])
    (h1:ws=[]->Q (.ref t) s) (h2:ws≠[]->Q (.ref s.heap.objs.size) {s with heap:=s.heap.push {cls:=.type "tuple",data:=.seq (vs++ws).toArray}})
    (YW:vs.length+ws.length<=sizeLine):wpAny (model prog w) A (binaryOp .Add (.ref t) (.ref b)) Q E s:=by
  obtain⟨⟨cls,dd,data,sl⟩,ho,hc,n,hd⟩:=id ht;obtain⟨⟨aaW,dd2,data2,sl2⟩,XH,hc2,n2,hd2⟩:=id hb;simp only at hc hd hc2 hd2;subst hc hd hc2 hd2;have e:vs.toArray++ws.toArray=(vs++ws).toArray:=by simp
  by_cases hw:ws=[]
  · exact concat_meets ⟨_,ho,rfl⟩ ⟨_,XH,rfl⟩ noFill_tuple_add seq_tuple_add PySem.F.slot_tuple_add PySem.F.entry_tuple_add (PySem.F.args_tuple_add_2 _ _)
      (tuple_addW1 t b vs.toArray ws.toArray n n2 dd dd2 sl sl2 (by simpa using hv) (by simp[hw])) ⟨ho,XH,h1 hw⟩
  · refine concat_meets ⟨_,ho,rfl⟩ ⟨_,XH,rfl⟩ noFill_tuple_add seq_tuple_add PySem.F.slot_tuple_add PySem.F.entry_tuple_add (PySem.F.args_tuple_add_2 _ _)
      (tuple_addW2 t b vs.toArray ws.toArray n n2 dd dd2 sl sl2 (by simpa using hv) (by simpa using hw) (by rw[List.size_toArray,List.size_toArray];exact YW)) ⟨ho,XH,?_⟩
    rw[e];exact h2 hw
noncomputable def gI(n d:Nat):Option Int->Nat
 | none=>d
 | some v=>if v < 0 then (v+(n:Int)).toNat else min v.toNat n
theorem CG(n d:Nat):gI n d none=d:=rfl
theorem Ek(n d k:Nat):gI n d (some (k:Int))=min k n:=by
 show(if (k:Int) < 0 then ((k:Int)+(n:Int)).toNat else min (k:Int).toNat n)=min k n;rw[if_neg (by omega),Int.toNat_natCast]
theorem OV(n d:Nat)(hd:d<=n)(o:Option Int):gI n d o<=n:=by
 cases o with
 | none=>exact hd
 | some v =>
  show(if v < 0 then (v+(n:Int)).toNat else min v.toNat n)<=n;by_cases hv:v < 0
  ·rw[if_pos hv];omega
  ·rw[if_neg hv];exact Nat.min_le_right _ _
theorem DU(v:Int)(n d:Nat):(if v < 0 then max (v+(n:Int)) 0 else min v (n:Int))=((gI n d (some v):Nat):Int):=by
 show(if v < 0 then max (v+(n:Int)) 0 else min v (n:Int))=(((if v < 0 then (v+(n:Int)).toNat else min v.toNat n):Nat):Int);by_cases hv:v < 0
 ·simp only[if_pos hv];omega
 ·simp only[if_neg hv];omega
theorem CY(lo hi:Option Int)(n:Nat):Builtin.Slice.sliceAdjust lo hi 1 (n:Int)=(((gI n 0 lo:Nat):Int),((gI n n hi:Nat):Int)):=by
 have h1:¬ ((1:Int) < 0):=by omega
 unfold Builtin.Slice.sliceAdjust;simp only[h1,if_false];refine Prod.ext ?_ ?_
 ·cases lo with
  | none=>rfl
  | some v=>exact DU v n 0
 ·cases hi with
  | none=>rfl
  | some v=>exact DU v n n
theorem DA(i j:Nat):Builtin.Slice.slicePlaces (i:Int) (j:Int) 1=j - i:=by
 unfold Builtin.Slice.slicePlaces;have h1:(1:Int) > 0:=by omega
 simp only[h1,if_true,Int.ediv_one];split<;>omega
theorem yJ{v:Value}{o:Option Int}{Q:Option Int->Shared->Prop}(p:IsPart v o)(h:Q o s):wpAny (model prog w) A (Builtin.Slice.slicePartIndex v) Q E s:=by
 cases p with
 | none=>exact slicePart_none h
 | int i t=>exact slicePart_int h
theorem t4{sl:Addr}{vl vu:Value}{lo hi:Option Int}{n:Nat}{Q:Int×Int×Nat->Shared->Prop}(hs:s.heap.IsSliceOf sl vl vu .none)(pl:IsPart vl lo)(pu:IsPart vu hi)
    (h:Q (((gI n 0 lo:Nat):Int),1,gI n n hi - gI n 0 lo) s):wpAny (model prog w) A (Builtin.Slice.sliceApplied (.ref sl) (pure (n:Int))) Q E s:=by
  obtain⟨os,YQ,hcs,ZD⟩:=id hs;unfold Builtin.Slice.sliceApplied Builtin.Slice.sliceFields;refine wpAny_bind (wpAny_bind (wpAny_field YQ ZD (x:=vl) rfl (wpAny_bind (wpAny_field YQ ZD (x:=vu) rfl (wpAny_bind (wpAny_field YQ ZD (x:=.none) rfl (wpAny_pure ?_)))))));refine wpAny_bind (slicePart_none ?_);show wpAny _ _ (if ((1:Int)==0)=true then _ else _) _ _ s;rw[if_neg (by decide)];refine wpAny_bind (yJ pl (wpAny_bind (yJ pu (wpAny_bind (wpAny_pure ?_)))));show wpAny _ _ (match Builtin.Slice.sliceAdjust lo hi 1 (n:Int) with|(lo,hi)=>pure (lo,(1:Int),Builtin.Slice.slicePlaces lo hi 1)) _ _ s;rw[CY lo hi n];show wpAny _ _ (pure (((gI n 0 lo:Nat):Int),(1:Int),Builtin.Slice.slicePlaces ((gI n 0 lo:Nat):Int) ((gI n n hi:Nat):Int) 1)) _ _ s;rw[DA];exact wpAny_pure h
theorem HL(xs:Array Value)(i k:Nat):((List.range k).filterMap fun(m:Nat)=>xs[((i:Int)+(m:Int) * 1).toNat]?).toArray=((xs.toList.drop i).take k).toArray:=by
 have e:(fun(m:Nat)=>xs[((i:Int)+(m:Int) * 1).toNat]?)=fun m=>xs[i+m]?:=by
  funext m;have:((i:Int)+(m:Int) * 1).toNat=i+m:=by omega
  rw[this]
 rw[e];have:=pick_run xs i k;rw[List.filterMap_map] at this;have e2:((fun x=>xs[x]?)∘fun x=>i+x)=fun m=>xs[i+m]?:=rfl;rw[e2] at this;rw[this]
theorem rA{t sl:Addr}{items:Array Value}{vl vu:Value}{lo hi:Option Int}{Q:q0A}(ht:IsTup s.heap t items)(hs:s.heap.IsSliceOf sl vl vu .none)(pl:IsPart vl lo)(pu:IsPart vu hi)
    (hw:¬ (gI items.size 0 lo=0/\gI items.size items.size hi=items.size))
    (h:Q (.ref s.heap.objs.size) {s with heap:=s.heap.push {cls:=.type "tuple",data:=.seq ((items.toList.drop (gI items.size 0 lo)).take (gI items.size items.size hi - gI items.size 0 lo)).toArray}})
    (YW:items.size<=sizeLine):wpAny (model prog w) A (getItem (.ref t) (.ref sl)) Q E s:=by
  have V4:sizeOk (.seq ((items.toList.drop (gI items.size 0 lo)).take (gI items.size items.size hi - gI items.size 0 lo)).toArray):=by
    show((items.toList.drop (gI items.size 0 lo)).take (gI items.size items.size hi - gI items.size 0 lo)).toArray.size<=sizeLine;rw[List.size_toArray,List.length_take,List.length_drop,Array.length_toList];omega
  have hj:gI items.size items.size hi<=items.size:=OV _ _ (Nat.le_refl _) hi;obtain⟨os,YQ,hcs,ZD⟩:=id hs;have hTs:s.TypeIs (.ref sl) "slice":=⟨os,YQ,hcs⟩;unfold getItem
  try with_reducible refine wpAny_holding ?_
  first|refine wpAny_bind (wpAny_pure ?_)|skip
  refine wpAny_bind (wpAny_sequenceKey ht.typeIs (by decide) ?_);refine wpAny_bind (wpAny_callSpecial?_slot (name:=Str.ofString "__getitem__") ht.typeIs PyProof.Rows.slot_tuple_getitem
    (wpAny_call_entry PyProof.Rows.slot_tuple_getitem ht.typeIs entry_tuple_getitem ?_ (args_tuple_getitem _ _)))
  show wpAny _ _ (Builtin.Tuple.tupleItemsOf (.ref t) >>= _) _ _ s;refine wpAny_bind (tupleItemsOf_ ht ?_);refine wpAny_bind (wpAny_typeOf hTs ?_);rw[if_pos (by decide)];refine wpAny_bind (t4 hs pl pu ?_);have hno:¬ ((((gI items.size 0 lo:Nat):Int)==0&&(1:Int)==1&&(gI items.size items.size hi - gI items.size 0 lo)==items.size)=true):=by
    intro q;rw[Bool.and_eq_true,Bool.and_eq_true] at q;have q1:((gI items.size 0 lo:Nat):Int)=0:=eq_of_beq q.1.1;have q2:gI items.size items.size hi - gI items.size 0 lo=items.size:=eq_of_beq q.2;exact hw ⟨by omega,by omega⟩
  show wpAny _ _ (if (((gI items.size 0 lo:Nat):Int)==0&&(1:Int)==1&&(gI items.size items.size hi - gI items.size 0 lo)==items.size)=true then _ else _) _ _ s;rw[if_neg hno,HL]
  first
    | exact wpAny_bind (m:=Builtin.Tuple.tupleExact _) (wpAny_newObj_type (wpAny_pure ⟨_,rfl,wpAny_pure h⟩) V4)
    | exact wpAny_bind (m:=Builtin.Tuple.tupleExact _) (wpAny_newObj_type (wpAny_bind (wpAny_pure (wpAny_pure ⟨_,rfl,wpAny_pure h⟩))) V4)
    | exact wpAny_bind (wpAny_bind (m:=Builtin.Tuple.tupleExact _) (wpAny_newObj_type (wpAny_pure (wpAny_pure ⟨_,rfl,wpAny_pure h⟩)) V4))
    | exact wpAny_bind (wpAny_bind (m:=Builtin.Tuple.tupleExact _) (wpAny_newObj_type (wpAny_pure ⟨_,rfl,wpAny_pure h⟩) V4))
end
end HT
namespace L2
open PySem PySem.Spec PyProof.Rows
noncomputable abbrev TO:=St->Hp->(Option Int->Hp->Prop)->Prop
noncomputable def PO(X:Cx)(e:Option Expr)(t:TO):Prop :=
 ∀(UE:List (Addr×Obj)) (s:Shared) (σ:St) (H:Hp) (Q:Option Int->Hp->Prop),UI X UE σ H s->t σ H Q ->
  wpAny (model X.prog X.w) X.A (evalPart e X.env) (fun u s'=>∃ o H',UI X UE σ H' s'/\IsPart u o/\Q o H') X.xe s
noncomputable def Ex:TO:=fun _ H Q=>Q none H
noncomputable def Ir(t:TE):TO:=fun σ H Q=>t σ H fun x H1=>∃ i,x=.int i/\Q (some i) H1
section
variable {X:Cx} {e:Expr} {te:TE} {lo hi:Option Expr} {tl th:TO} {pos p2:Pos}
theorem cD:PO X none Ex:=by
 intro UE s σ H Q I h;rw[evalPart_none];exact wpAny_pure ⟨none,H,I,.none,h⟩
theorem cE(h:PE X e te):PO X (some e) (Ir te):=by
 intro UE s σ H Q I hw;rw[evalPart_some];refine thn (h UE s σ H _ I hw) fun u s1 ⟨x,H1,I1,r1,q1⟩=>?_;obtain⟨i,rfl,q⟩:=q1;obtain⟨t,rfl⟩:=r1;exact⟨some i,H1,I1,.int i t,q⟩
noncomputable def IV(X:Cx)(r:V->Option Int->Option Int->Hp->VK->Prop):Prop :=
 ∀(UE:List (Addr×Obj)) (s:Shared) (σ:St) (H:Hp) (x:V) (v vl vu:Value) (lo hi:Option Int) (sl:Addr) (Q:VK),UI X UE σ H s->bU x v->s.heap.IsSliceOf sl vl vu .none->IsPart vl lo->IsPart vu hi->r x lo hi H Q ->
  ∃ T id,typeLookup (.type T) "__getitem__"=pure (some (.builtin id))/\s.TypeIs v T/\wpAny (model X.prog X.w) X.A (getItem v (.ref sl)) (EP X UE σ Q) X.xe s
theorem IV.or{r r':V->Option Int->Option Int->Hp->VK->Prop}(h:IV X r)(h':IV X r'):IV X (fun x lo hi H Q=>r x lo hi H Q\/r' x lo hi H Q):=by
 intro UE s σ H x v vl vu lo hi sl Q I rx hs pl pu q;rcases q with q|q
 ·exact h UE s σ H x v vl vu lo hi sl Q I rx hs pl pu q
 ·exact h' UE s σ H x v vl vu lo hi sl Q I rx hs pl pu q
noncomputable def Uu(r:V->Option Int->Option Int->Hp->VK->Prop)(te:TE)(tl th:TO):TE:=fun σ H Q=>te σ H fun x H1=>tl σ H1 fun l H2=>th σ H2 fun u H3=>r x l u H3 Q
theorem bQ{r:V->Option Int->Option Int->Hp->VK->Prop}(hr:IV X r)(he:PE X e te)(hl:PO X lo tl)(hu:PO X hi th):PE X (.Subscript e (.Slice lo hi none p2) pos) (Uu r te tl th):=by
 intro UE s σ H Q I h;refine Subscript_ (thn (he UE s σ H _ I h) fun v s1 ⟨x,H1,I1,r1,q1⟩=>?_);refine wpAny_Slice (thn (hl UE s1 σ H1 _ I1 q1) fun vl s2 ⟨l,H2,I2,pl,q2⟩=>thn (hu UE s2 σ H2 _ I2 q2) fun vu s3 ⟨u,H3,I3,pu,q3⟩=>?_);rw[evalPart_none];refine wpAny_pure ?_;have I4:UI X UE σ H3 {s3 with heap:=s3.heap.push {cls:=.type "slice",data:=.fields #[vl,vu,.none]}}:=I3.kept (t':=s3.toks) fun b ob q=>Heap.get?_push_of_some _ q;obtain⟨T,id,hT,ht,hg⟩:=hr UE {s3 with heap:=s3.heap.push {cls:=.type "slice",data:=.fields #[vl,vu,.none]}} σ H3 x v vl vu l u s3.heap.objs.size Q I4 r1 (Heap.IsSliceOf.new ..) pl pu q3;show wpAny (model X.prog X.w) X.A (subscriptTail e (.Slice lo hi none p2) v (.ref s3.heap.objs.size)) (EP X UE σ Q) X.xe {s3 with heap:=s3.heap.push {cls:=.type "slice",data:=.fields #[vl,vu,.none]}};exact tail_any (ops:=[.ref s3.heap.objs.size,v]) ht hT hg (by with_unfolding_all rfl)
noncomputable def k6(xs:List V)(lo hi:Option Int):List V:=(xs.drop (HT.gI xs.length 0 lo)).take (HT.gI xs.length xs.length hi - HT.gI xs.length 0 lo)
theorem uG(xs:List V)(lo hi:Option Int):(k6 xs lo hi).length<=xs.length:=by
 unfold k6;rw[List.length_take,List.length_drop];omega
noncomputable def T8(K:q0B):V->Option Int->Option Int->Hp->VK->Prop:=fun x lo hi H Q=>∃ a xs,x=.ref a/\gS K H a xs /\
 ¬ (HT.gI xs.length 0 lo=0/\HT.gI xs.length xs.length hi=xs.length)/\∀ p,H p=none->Q (.ref p) (UH H p (.tup (k6 xs lo hi)))
theorem O0:IV X (T8 X.K):=by
 intro UE s σ H x v vl vu lo hi sl Q I rx hs pl pu h;obtain⟨a,xs,rfl,hx,hw,q⟩:=h;cases rx;obtain⟨UJ,r,ht,hz⟩:=I.tuple hx;have hlen:UJ.toArray.size=xs.length:=by rw[List.size_toArray];exact r.length.symm
 refine⟨"tuple",_,PyProof.Rows.slot_tuple_getitem.lookup,ht.typeIs,?_⟩;refine HT.rA ht hs pl pu (by rw[hlen];exact hw) ?_ (by rw[hlen];exact hz);rw[hlen];refine⟨.ref s.heap.objs.size,_,I.laid (t':=s.toks) (o:=.tup (k6 xs lo hi)) (fun b ob q=>Heap.get?_push_of_some _ q) (Nat.le_refl _) ?_,rfl,q _ (I.UL.fresh (Nat.le_refl _))⟩;exact⟨Nat.le_trans (uG xs lo hi) hz,_,(r.drop (HT.gI xs.length 0 lo)).take (HT.gI xs.length xs.length hi - HT.gI xs.length 0 lo),IsTup.new _ _⟩
noncomputable def RE(K:q0B):R2:=fun x y H Q=>∃ a b xs ys,x=.ref a/\y=.ref b/\gS K H a xs/\gS K H b ys/\xs≠[]/\xs.length+ys.length<=sizeLine /\
 (ys=[]->Q (.ref a) H)/\(ys≠[]->∀ p,H p=none->Q (.ref p) (UH H p (.tup (xs++ys))))
theorem Vals.vL{xs:List V}{us:List Value}(r:Vals xs us):us=[]↔xs=[]:=by
 cases r with
 | nil=>simp
 | cons _ _=>simp
theorem Eb:iM X (binaryOp .Add) (RE X.K):=by
 intro UE s σ H x y v u Q I rx ry h;obtain⟨a,b,xs,ys,rfl,rfl,ha,hb,hx,hz,q1,q2⟩:=h;cases rx;cases ry;obtain⟨UJ,r1,p1,_⟩:=I.tuple ha;obtain⟨Vu,r2,p2,_⟩:=I.tuple hb;refine HT.Je p1 p2 (fun z=>hx (r1.vL.mp z)) (fun z=>⟨.ref a,H,I,rfl,q1 (r2.vL.mp z)⟩) (fun z=>?_) (by rw[<- r1.length,<- r2.length];exact hz);refine⟨.ref s.heap.objs.size,_,I.laid (t':=s.toks) (o:=.tup (xs++ys)) (fun b ob q=>Heap.get?_push_of_some _ q) (Nat.le_refl _) ?_,rfl,q2 (fun w=>z (r2.vL.mpr w)) _ (I.UL.fresh (Nat.le_refl _))⟩;exact⟨by rw[List.length_append];exact hz,_,r1.append r2,IsTup.new _ _⟩
end
noncomputable def CV(n:Nat)(i:Int):Option Nat:=if 0<=i then (if i < n then some i.toNat else none) else if -(n:Int)<=i then some (i+n).toNat else none
noncomputable def oS{α:Type}(xs:List α)(i:Int):Option α:=(CV xs.length i).bind fun j=>xs[j]?
theorem D6{n:Nat}{i:Int}{j:Nat}(h:CV n i=some j):seqIndex? i n=some j/\j < n/\-(n:Int)<=i/\i < n:=by
 unfold CV at h;by_cases h0:0<=i
 ·rw[if_pos h0] at h;by_cases h1:i < n
  ·rw[if_pos h1] at h;have e:i.toNat=j:=Option.some.inj h;exact⟨by rw[seqIndex_of h0 h1,e],by omega,by omega,h1⟩
  ·rw[if_neg h1] at h;cases h
 ·rw[if_neg h0] at h;by_cases h1:-(n:Int)<=i
  ·rw[if_pos h1] at h;have e:(i+n).toNat=j:=Option.some.inj h;exact⟨by rw[seqIndex_neg (by omega) h1,e],by omega,h1,by omega⟩
  ·rw[if_neg h1] at h;cases h
theorem AR{α:Type}{xs:List α}{i:Int}{v:α}(h:oS xs i=some v):∃ j,seqIndex? i xs.length=some j/\xs[j]?=some v/\j < xs.length/\-(xs.length:Int)<=i/\i < xs.length:=by
 unfold oS at h;cases e:CV xs.length i with
 | none=>rw[e] at h;cases h
 | some j =>
  rw[e] at h;obtain⟨h1,h2,h3,h4⟩:=D6 e;exact⟨j,h1,h,h2,h3,h4⟩
theorem vD{α:Type}{xs:List α}{j:Nat}{v:α}(h:xs[j]?=some v):oS xs (j:Int)=some v:=by
 have hj:j < xs.length:=(List.getElem?_eq_some_iff.mp h).1;have e:CV xs.length (j:Int)=some j:=by
  unfold CV;rw[if_pos (by omega),if_pos (by omega)];simp
 unfold oS;rw[e];exact h
noncomputable def IU(b:Expr):Prop:=∀ o i,subscripted b false o i=operate [o,i] (getItem o i)
noncomputable def ED(X:Cx)(r:R2):Prop :=
 ∀(value slice:Expr) (UE:List (Addr×Obj)) (s:Shared) (σ:St) (H:Hp) (x y:V) (v u:Value) (Q:VK),UI X UE σ H s->bU x v->bU y u->r x y H Q ->
  subscripted slice false v u=operate [v,u] (getItem v u)->wpAny (model X.prog X.w) X.A (subscriptTail value slice v u) (EP X UE σ Q) X.xe s
noncomputable def IK(X:Cx)(id:String)(r:V->List V->Hp->VK->Prop):Prop :=
 ∀(UE:List (Addr×Obj)) (s:Shared) (σ:St) (H:Hp) (x:V) (xs:List V) (v:Value) (us:List Value) (Q:VK),UI X UE σ H s->bU x v->Vals xs us->r x xs H Q ->
  wpAny (model X.prog X.w) X.A (call (.builtin id) (v::us)) (EP X UE σ Q) X.xe s
section
variable {X:Cx} {a b:Expr} {ta tb:TE} {pos:Pos}
theorem ED.or{r r':R2}(h:ED X r)(h':ED X r'):ED X (fun x y H Q=>r x y H Q\/r' x y H Q):=by
 intro value slice UE s σ H x y v u Q I rx ry q hs;rcases q with q|q
 ·exact h value slice UE s σ H x y v u Q I rx ry q hs
 ·exact h' value slice UE s σ H x y v u Q I rx ry q hs
theorem IK.or{id:String}{r r':V->List V->Hp->VK->Prop}(h:IK X id r)(h':IK X id r'):IK X id (fun x xs H Q=>r x xs H Q\/r' x xs H Q):=by
 intro UE s σ H x xs v us Q I rx rs q;rcases q with q|q
 ·exact h UE s σ H x xs v us Q I rx rs q
 ·exact h' UE s σ H x xs v us Q I rx rs q
theorem bH{r:R2}(hr:ED X r)(ha:PE X a ta)(hb:PE X b tb)(hs:IU b):PE X (.Subscript a b pos) (Sk r ta tb):=by
 intro UE s σ H Q I h;exact Subscript_ (Mh ha hb I h fun v u s2 x y H2 I2 rx ry q=>hr a b UE s2 σ H2 x y v u Q I2 rx ry q (hs _ _))
noncomputable def RF(K:q0B):R2:=fun x y H Q=>∃ p xs i v,x=.ref p/\y=.int i/\dU K H p xs/\oS xs i=some v/\Q v H
noncomputable def RI(K:q0B):R2:=fun x y H Q=>∃ p xs i v,x=.ref p/\y=.int i/\gS K H p xs/\oS xs i=some v/\Q v H
noncomputable def RH:R2:=fun x y H Q=>∃ z i c,x=.str z/\y=.int i/\z.length<=sizeLine/\oS z.cps.toList i=some c/\Q (.str ⟨#[c]⟩) H
theorem J5:ED X (RF X.K):=by
 intro value slice UE s σ H x y v u Q I rx ry h hs;obtain⟨p,xs,i,z,rfl,rfl,hq,he,q⟩:=h;cases rx;obtain⟨t,rfl⟩:=ry;obtain⟨UJ,r,pl,hz⟩:=I.list hq;obtain⟨j,h1,h2,h3,h4,h5⟩:=AR he;obtain⟨w,ew,Y7⟩:=r.get h2;have hl:=r.length;have hn:=line63;have fin:EP X UE σ Q w s:=⟨z,H,I,Y7,q⟩;by_cases h0:0<=i
 ·have hj:i.toNat=j:=by
   rw[seqIndex_of h0 h5] at h1;exact Option.some.inj h1
  exact item_listR pl.isList h0 (by omega) (by rw[hj];simpa using ew) fin hs
 ·have hj:(i+(UJ.toArray.size:Int)).toNat=j:=by
   rw[seqIndex_neg (by omega) h4] at h1;rw[List.size_toArray,<- hl];exact Option.some.inj h1
  exact subscriptTail_builtinR (x:=w) pl.isList.typeIs slot_list_getitem.lookup
   (wpAny_getItem_list_neg (Q:=fun r s'=>r=w/\EP X UE σ Q r s') pl.isList (by omega) (by rw[List.size_toArray]<;>omega) (by omega) (by rw[hj];simpa using ew) ⟨rfl,fin⟩) hs
theorem Ol:ED X (RI X.K):=by
 intro value slice UE s σ H x y v u Q I rx ry h hs;obtain⟨p,xs,i,z,rfl,rfl,hq,he,q⟩:=h;cases rx;obtain⟨t,rfl⟩:=ry;obtain⟨UJ,r,pl,hz⟩:=I.tuple hq;obtain⟨j,h1,h2,h3,h4,h5⟩:=AR he;obtain⟨w,ew,Y7⟩:=r.get h2;have hl:=r.length;have hn:=line63;have fin:EP X UE σ Q w s:=⟨z,H,I,Y7,q⟩;exact subscriptTail_builtinR (x:=w) pl.typeIs slot_tuple_getitem.lookup
  (getItem_tuple (j:=j) (Q:=fun r s'=>r=w/\EP X UE σ Q r s') pl (by omega) (by omega) (by rw[List.size_toArray,<- hl];exact h1) (by simpa using ew) ⟨rfl,fin⟩) hs
theorem Oj:ED X RH:=by
 intro value slice UE s σ H x y v u Q I rx ry h hs;obtain⟨z,i,c,rfl,rfl,hz,he,q⟩:=h;obtain⟨t,rfl⟩:=rx;obtain⟨t',rfl⟩:=ry;obtain⟨j,h1,h2,h3,h4,h5⟩:=AR he;have hl:z.cps.toList.length=z.length:=by simp[Str.length]
 rw[hl] at h1 h4 h5;have hn:=line63;exact tail_any (typeIs_str s z t) slot_str_getitem.lookup (getItem_str (c:=c) (by
  have e1:decide (i < -(2 ^ 63:Int))=false:=decide_eq_false (by omega);have e2:decide (i >= 2 ^ 63)=false:=decide_eq_false (by omega);rw[e1,e2,Bool.or_false]) (by rw[h1];simpa using h2) ⟨.str ⟨#[c]⟩,H,I.tok _,⟨_,rfl⟩,q⟩) hs
noncomputable def UB(K:q0B):R2:=fun x y H Q=>RF K x y H Q\/RI K x y H Q\/RH x y H Q
theorem Oi:ED X (UB X.K):=J5.or (Ol.or Oj)
theorem Di(UJ:List Value)(n j:Nat)(u:Value):Obj.mapSeq (·.setIfInBounds j u) {cls:=.type "list",data:=.seq UJ.toArray n}={cls:=.type "list",data:=.seq (UJ.set j u).toArray n}:=by
 simp[Obj.mapSeq]
theorem UI.lst{UE:List (Addr×Obj)}{σ:St}{H:Hp}{s:Shared}{p:Addr}{xs:List V}(I:UI X UE σ H s)(h:H p=some (.lst xs)) :
    ∃(UJ:List Value) (n:Nat),Vals xs UJ/\s.heap.get? p=some {cls:=.type "list",data:=.seq UJ.toArray n}/\xs.length<=sizeLine:=by
  obtain⟨z,UJ,n,r,e⟩:=I.UL p _ h;exact⟨UJ,n,r,e,z⟩
theorem UI.Ox{UE:List (Addr×Obj)}{σ:St}{H:Hp}{s:Shared}{p:Addr}{xs ys:List V}{UJ its':List Value}{n n':Nat}{f:Obj->Obj}(I:UI X UE σ H s)(h:H p=some (.lst xs))
    (ho:s.heap.get? p=some {cls:=.type "list",data:=.seq UJ.toArray n}) (hf:f {cls:=.type "list",data:=.seq UJ.toArray n}={cls:=.type "list",data:=.seq its'.toArray n'}) (r:Vals ys its') (hz:ys.length<=sizeLine) (t:Nat) :
    UI X UE σ (UH H p (.lst ys)) {s with heap:=s.heap.update p f,toks:=t}:=by
  have e:(s.heap.update p f).get? p=some {cls:=.type "list",data:=.seq its'.toArray n'}:=by
    rw[Heap.get?_update_self f ho (by rw[hf]<;>rfl),hf]
  refine I.write (x:=p) (e:=p) (by rw[h];trivial) (.inl rfl) (fun b u hb q=>(Heap.get?_update_other _ _ (Ne.symm hb)).trans q) ⟨_,e⟩ ?_;exact⟨hz,its',n',r,e⟩
noncomputable def RJ:V->V->V->Hp->(Hp->Prop)->Prop:=fun o i v H Q=>∃ p xs k j,o=.ref p/\i=.int k/\H p=some (.lst xs)/\CV xs.length k=some j/\Q (UH H p (.lst (xs.set j v)))
theorem HW:PSet X RJ:=by
 intro UE s σ H o i v ov iv u Q I ro ri rv h;obtain⟨p,xs,k,j,rfl,rfl,hp,hj,q⟩:=h;cases ro;obtain⟨t,rfl⟩:=ri;obtain⟨UJ,n,r,ho,hz⟩:=I.lst hp;obtain⟨h1,h2,h3,h4⟩:=D6 hj;have hl:=r.length;have hn:=line63;have I':UI X UE σ (UH H p (.lst (xs.set j v))) {s with heap:=s.heap.update p (Obj.mapSeq (·.setIfInBounds j u))} :=
  I.Ox hp ho (Di UJ n j u) (r.set rv j) (by rw[List.length_set];exact hz) s.toks
 by_cases h0:0<=k
 ·have hk:k.toNat=j:=by
   rw[seqIndex_of h0 h4] at h1;exact Option.some.inj h1
  exact PySem.W.ki_setAt ho h0 (by omega) (by rw[List.size_toArray,<- hl];exact h4) (by rw[hk];exact⟨_,I',q⟩)
 ·have hk:(k+(UJ.toArray.size:Int)).toNat=j:=by
   rw[seqIndex_neg (by omega) h3] at h1;rw[List.size_toArray,<- hl];exact Option.some.inj h1
  exact PySem.W.ki_setBack ho (by omega) (by rw[List.size_toArray,<- hl];exact h3) (by omega) (by rw[hk];exact⟨_,I',q⟩)
theorem Bw(lo hi:Option Int)(n:Nat):(sliceBounds lo hi none n).1=((HT.gI n 0 lo:Nat):Int)/\(sliceBounds lo hi none n).2.1=((HT.gI n n hi:Nat):Int)/\(sliceBounds lo hi none n).2.2=1:=by
 refine⟨?_,?_,rfl⟩
 ·cases lo with
  | none=>simp[sliceBounds,HT.gI]
  | some i =>
   simp only[sliceBounds,HT.gI,Option.getD_none,show(1:Int) > 0 by decide,if_true];by_cases h:i < 0
   ·simp only[h,if_true]<;>omega
   ·simp only[h,if_false]<;>omega
 ·cases hi with
  | none=>simp[sliceBounds,HT.gI]
  | some i =>
   simp only[sliceBounds,HT.gI,Option.getD_none,show(1:Int) > 0 by decide,if_true];by_cases h:i < 0
   ·simp only[h,if_true]<;>omega
   ·simp only[h,if_false]<;>omega
theorem zN(UJ:List Value)(lo hi:Option Int):slicePick UJ.toArray lo hi none=((UJ.drop (HT.gI UJ.length 0 lo)).take (HT.gI UJ.length UJ.length hi - HT.gI UJ.length 0 lo)).toArray:=by
 obtain⟨h1,h2,h3⟩:=Bw lo hi UJ.toArray.size;unfold slicePick;rw[h1,h2,h3];simp only[sliceRange_one,pick_run,List.size_toArray]<;>rfl
noncomputable def OS(K:q0B):V->Option Int->Option Int->Hp->VK->Prop:=fun x lo hi H Q=>∃ a xs,x=.ref a/\dU K H a xs/\∀ p,H p=none->Q (.ref p) (UH H p (.lst (k6 xs lo hi)))
theorem El:IV X (OS X.K):=by
 intro UE s σ H x v vl vu lo hi sl Q I rx hs pl pu h;obtain⟨a,xs,rfl,hx,q⟩:=h;cases rx;obtain⟨UJ,r,ht,hz⟩:=I.list hx;have hlen:=r.length;refine⟨"list",_,slot_list_getitem.lookup,ht.isList.typeIs,?_⟩;refine wpAny_getItem_list_slice ht.isList hs pl pu .none (by simp) ?_ (by rw[List.size_toArray]<;>omega);rw[zN,<- hlen];refine⟨.ref s.heap.objs.size,_,I.laid (t':=s.toks) (o:=.lst (k6 xs lo hi)) (fun b ob q=>Heap.get?_push_of_some _ q) (Nat.le_refl _) ?_,rfl,q _ (I.UL.fresh (Nat.le_refl _))⟩;exact⟨Nat.le_trans (uG xs lo hi) hz,_,0,(r.drop (HT.gI xs.length 0 lo)).take (HT.gI xs.length xs.length hi - HT.gI xs.length 0 lo),Heap.get?_push_size _ rfl⟩
noncomputable def cN:V->Bool
 | .UK=>true
 | .bl _=>true
 | .int _=>true
 | .str _=>true
 | _=>false
noncomputable def B4:V->V->Bool
 | .UK,.UK=>true
 | .bl a,.bl b=>a==b
 | .bl a,.int b=>(if a then 1 else 0)==b
 | .int a,.bl b=>a==(if b then 1 else 0)
 | .int a,.int b=>a==b
 | .str a,.str b=>a==b
 | _,_=>false
theorem GO{A:Around}{s:Shared}{y x:V}{u v:Value}(ry:bU y u)(rx:bU x v)(fy:cN y=true)(fx:cN x=true):SeqAt.EqAt A s u v (B4 y x):=by
 cases y with
 | UK =>
  cases ry;cases x with
  | UK=>cases rx;exact SeqAt.EqAt.same _
  | bl b=>cases rx;exact SeqAt.EqAt.none_bool b
  | int b=>obtain⟨t,rfl⟩:=rx;exact SeqAt.EqAt.none_int b t
  | str b=>obtain⟨t,rfl⟩:=rx;exact SeqAt.EqAt.none_str b t
  | _=>exact absurd (show false=true from fx) Bool.false_ne_true
 | bl a =>
  cases ry;cases x with
  | UK=>cases rx;exact SeqAt.EqAt.bool_none a
  | bl b=>cases rx;exact SeqAt.EqAt.bool_bool a b
  | int b=>obtain⟨t,rfl⟩:=rx;exact SeqAt.EqAt.bool_int a b t
  | str b=>obtain⟨t,rfl⟩:=rx;exact SeqAt.EqAt.bool_str a b t
  | _=>exact absurd (show false=true from fx) Bool.false_ne_true
 | int a =>
  obtain⟨t',rfl⟩:=ry;cases x with
  | UK=>cases rx;exact SeqAt.EqAt.int_none a t'
  | bl b=>cases rx;exact SeqAt.EqAt.int_bool a t' b
  | int b=>obtain⟨t,rfl⟩:=rx;exact SeqAt.EqAt.int_int a t' b t
  | str b=>obtain⟨t,rfl⟩:=rx;exact SeqAt.EqAt.int_str a t' b t
  | _=>exact absurd (show false=true from fx) Bool.false_ne_true
 | str a =>
  obtain⟨t',rfl⟩:=ry;cases x with
  | UK=>cases rx;exact SeqAt.EqAt.str_none a t'
  | bl b=>cases rx;exact SeqAt.EqAt.str_bool a t' b
  | int b=>obtain⟨t,rfl⟩:=rx;exact SeqAt.EqAt.str_int a t' b t
  | str b=>obtain⟨t,rfl⟩:=rx;exact SeqAt.EqAt.str_str a t' b t
  | _=>exact absurd (show false=true from fx) Bool.false_ne_true
 | _=>exact absurd (show false=true from fy) Bool.false_ne_true
noncomputable def C8(x:V)(u:Value):Bool:=match u with
 | .none=>B4 .UK x
 | .bool b=>B4 (.bl b) x
 | .int i _=>B4 (.int i) x
 | .str z _=>B4 (.str z) x
 | _=>false
theorem GP{x y:V}{u:Value}(r:bU y u)(f:cN y=true):C8 x u=B4 y x:=by
 cases y with
 | UK=>cases r;rfl
 | bl b=>cases r;rfl
 | int i=>obtain⟨t,rfl⟩:=r;rfl
 | str z=>obtain⟨t,rfl⟩:=r;rfl
 | _=>exact absurd (show false=true from f) Bool.false_ne_true
theorem qQ{x:V}:∀ {xs:List V} {us:List Value},Vals xs us->xs.all cN=true->us.any (C8 x)=xs.any fun y=>B4 y x
 | _,_,.nil,_=>rfl
 | y::xs,u::us,.cons r t,f=>by
  rw[List.all_cons,Bool.and_eq_true] at f;rw[List.any_cons,List.any_cons,GP r f.1,qQ t f.2]
theorem m7{A:Around}{s:Shared}{x:V}{v:Value}(rx:bU x v)(fx:cN x=true):∀ {xs:List V} {us:List Value},Vals xs us->xs.all cN=true->∀ u∈us,SeqAt.EqAt A s u v (C8 x u)
 | _,_,.nil,_=>fun u hu=>by cases hu
 | y::xs,u::us,.cons r t,f=>fun u' hu=>by
  rw[List.all_cons,Bool.and_eq_true] at f;rcases List.mem_cons.mp hu with rfl|hu
  ·rw[GP r f.1];exact GO r rx f.1 fx
  ·exact m7 rx fx t f.2 u' hu
noncomputable def cR(x:V)(xs:List V):Bool:=xs.any fun y=>B4 y x
noncomputable def Uk(K:q0B)(neg:Bool):R2:=fun x y H Q=>∃ p xs,y=.ref p/\(dU K H p xs\/gS K H p xs)/\cN x=true/\xs.all cN=true/\Q (.bl (if neg then !cR x xs else cR x xs)) H
theorem Fo:iM X (compareOp .In) (Uk X.K false):=by
 intro UE s σ H x y v u Q I rx ry h;obtain⟨p,xs,rfl,hq,fx,fs,q⟩:=h;cases ry;rcases hq with hq|hq
 ·obtain⟨UJ,r,pl,hz⟩:=I.list hq;refine SeqAt.in_listAt (C8 x) pl.isList (fun w hw=>m7 rx fx r fs w (by simpa using hw)) ⟨.bl _,H,I,rfl,?_⟩;rw[show UJ.toArray.any (C8 x)=UJ.any (C8 x) by simp,qQ r fs];exact q
 ·obtain⟨UJ,r,pl,hz⟩:=I.tuple hq;refine SeqAt.in_tupleAt (C8 x) pl (fun w hw=>m7 rx fx r fs w (by simpa using hw)) ⟨.bl _,H,I,rfl,?_⟩;rw[show UJ.toArray.any (C8 x)=UJ.any (C8 x) by simp,qQ r fs];exact q
theorem rL:iM X (compareOp .NotIn) (Uk X.K true):=by
 intro UE s σ H x y v u Q I rx ry h;obtain⟨p,xs,rfl,hq,fx,fs,q⟩:=h;cases ry;rcases hq with hq|hq
 ·obtain⟨UJ,r,pl,hz⟩:=I.list hq;refine SeqAt.notIn_listAt (C8 x) pl.isList (fun w hw=>m7 rx fx r fs w (by simpa using hw)) ⟨.bl _,H,I,rfl,?_⟩;rw[show UJ.toArray.any (C8 x)=UJ.any (C8 x) by simp,qQ r fs];exact q
 ·obtain⟨UJ,r,pl,hz⟩:=I.tuple hq;refine SeqAt.notIn_tupleAt (C8 x) pl (fun w hw=>m7 rx fx r fs w (by simpa using hw)) ⟨.bl _,H,I,rfl,?_⟩;rw[show UJ.toArray.any (C8 x)=UJ.any (C8 x) by simp,qQ r fs];exact q
theorem eP.or{f:Value}{r r':List V->Hp->VK->Prop}(h:eP X f r)(h':eP X f r'):eP X f (fun xs H Q=>r xs H Q\/r' xs H Q):=by
 intro UE s σ H xs us Q I rs q;rcases q with q|q
 ·exact h UE s σ H xs us Q I rs q
 ·exact h' UE s σ H xs us Q I rs q
theorem yW:eP X (.type "tuple") (fun xs H Q=>∃ p ys,xs=[.ref p]/\((dU X.K H p ys/\∀ l,H l=none->Q (.ref l) (UH H l (.tup ys)))\/(gS X.K H p ys/\Q (.ref p) H))):=by
 intro UE s σ H xs us Q I r h;obtain⟨p,ys,rfl,h⟩:=h;obtain⟨u,rfl,rx⟩:=vals1 r;cases rx;rcases h with⟨hq,q⟩|⟨hq,q⟩
 ·obtain⟨UJ,r',pl,hz⟩:=I.list hq;have hlen:=r'.length;refine call_tuple_list pl.isList (fun h' kp=>?_) (by simp only[List.size_toArray]<;>omega);have I1:UI X UE σ H {s with heap:=h'}:=I.kept (t':=s.toks) kp;have I2:UI X UE σ (UH H h'.objs.size (.tup ys)) {s with heap:=h'.push {cls:=.type "tuple",data:=.seq UJ.toArray}} :=
   I1.laid (t':=s.toks) (fun b o e=>Heap.get?_push_of_some _ e) (Nat.le_refl _) (show fM X.prog X.w _ _ _ (.tup ys) from ⟨hz,UJ,r',IsTup.new _ _⟩)
  exact⟨.ref h'.objs.size,_,I2,rfl,q _ (I1.UL.fresh (Nat.le_refl _))⟩
 ·obtain⟨UJ,r',pl,hz⟩:=I.tuple hq;exact call_tuple_same pl ⟨.ref p,H,I,rfl,q⟩
noncomputable def SY(K:q0B)(T:String)(x:V)(H:Hp):Prop:=match x with
  | .str _=>T = "str"
  | .int _=>T = "int"
  | .ref p=>(T = "list"/\∃ xs,dU K H p xs)\/(T = "tuple"/\∃ o,K.lookup p=some o/\o.cls=.type "tuple"/\o.dict=none) \/
      (T = "dict"/\((∃ UG,H p=some (.dK UG))\/∃ UG,H p=some (.dT UG)))\/(T = "set"/\∃ S n,H p=some (.set S n))
  | _=>False
theorem DK{UE:List (Addr×Obj)}{σ:St}{H:Hp}{s:Shared}{T:String}{x:V}{v:Value}(I:UI X UE σ H s)(r:bU x v)(ty:SY X.K T x H) :
    s.TypeIs v T/\∀ a,v=.ref a->∃ ob,s.heap.get? a=some ob/\ob.dict=none:=by
  cases x with
  | str z =>
    obtain⟨t,rfl⟩:=r;cases (show T = "str" from ty);exact⟨typeIs_str s z t,fun _ e=>nomatch e⟩
  | int i =>
    obtain⟨t,rfl⟩:=r;cases (show T = "int" from ty);exact⟨typeIs_int s i t,fun _ e=>nomatch e⟩
  | ref p =>
    cases r;rcases ty with⟨rfl,xs,hq⟩|⟨rfl,o,hk,hc,hd⟩|⟨rfl,hk⟩|⟨rfl,S,n,hk⟩
    · obtain⟨UJ,_,pl,_⟩:=I.list hq;refine⟨pl.isList.typeIs,fun a e=>?_⟩;cases e;obtain⟨o,n,e,c,hd,_⟩:=pl;exact⟨o,e,hd⟩
    · refine⟨⟨o,I.kIn p o hk,hc⟩,fun a e=>?_⟩;cases e;exact⟨o,I.kIn _ o hk,hd⟩
    · have z:∃ o,s.heap.get? p=some o/\o.ExactDict:=by
        rcases hk with⟨UG,hk⟩|⟨UG,hk⟩
        · obtain⟨_,_,_,_,o,_,_,e,ex,_⟩:=I.UL p _ hk;exact⟨o,e,ex⟩
        · obtain⟨_,_,_,_,o,_,_,e,ex,_⟩:=I.UL p _ hk;exact⟨o,e,ex⟩
      obtain⟨o,e,ex⟩:=z;refine⟨⟨o,e,ex.1⟩,fun a e2=>?_⟩;cases e2;exact⟨o,e,ex.2.1⟩
    · obtain⟨o,_,_,_,e,ex,_⟩:=I.UL p _ hk;refine⟨⟨o,e,ex.1⟩,fun a e2=>?_⟩;cases e2;exact⟨o,e,ex.2.1⟩
  | _=>exact False.elim ty
noncomputable def Ul(K:q0B)(T:String)(r:V->List V->Hp->VK->Prop)(to:TE)(t:TA):TE:=fun σ H Q=>to σ H fun x H1=>SY K T x H1/\t σ H1 fun xs H2=>r x xs H2 Q
variable {o e:Expr} {es:List Expr} {to:TE} {t:TA} {name:Str} {apos UM:Pos} {T id:String} {r:V->List V->Hp->VK->Prop}
theorem kO(pa:PlainAttrs T)(slot:Slot T name id)(hty:typeOf (.builtin id)=pure (.type "method_descriptor"))(hm:IK X id r)(ho:PE X o to)(ha:PA X (e::es) t)
    (VH:attributeBase o name X.env (eval o X.env)=eval o X.env:=by rfl)
    (Wt:((backTo UM (starEach (e::es) X.env)).all (fun x=>!x.1)&&(backToKw UM (keywordEach [] X.env)).all (fun x=>x.1.isSome)
     &&decide ((e::es).length+([]:List Keyword).length+(if ([]:List Keyword).isEmpty then 0 else 1) < 30))=true:=by rfl)
    (VL:(apos.endLine==UM.line)=true:=by rfl) (hs:starEach (e::es) X.env=(false,eval e X.env)::starEach es X.env:=by rfl) (Vn:(backTo UM (starEach es X.env)).any (·.1)=false:=by rfl) :
    PE X (.Call (.Attribute o name apos) (e::es) [] UM) (Ul X.K T r to t):=by
  intro UE s σ H Q I h;refine wpAny_Call_method_late VH Wt VL rfl (thn (ho UE s σ H _ I h) fun v s1 ⟨x,H1,I1,r1,ty,q1⟩=>?_);obtain⟨h1,h2⟩:=DK I1 r1 ty;refine⟨T,id,pa,slot,hty,h1,h2,?_⟩;have hA:=ha UM UE s1 σ H1 _ I1 q1;rw[hs] at hA ⊢;refine Calls.callWith_builtin (by show(false||(backTo UM (starEach es X.env)).any (·.1))=false;rw[Vn]<;>rfl) (Calls.evalArgs_plain ?_);exact thn hA fun us s2 ⟨vs,H2,I2,r2,q2⟩=>hm UE s2 σ H2 x vs v us Q I2 r1 r2 q2
/- xs.append(e),list.index on a module's tuple .. are IK facts of 06m -/
end
noncomputable def Pt(X:Cx)(id:String)(r:V->List V->Hp->VK->Prop):Prop :=
 ∀(UE:List (Addr×Obj)) (s:Shared) (σ:St) (H:Hp) (x:V) (xs:List V) (v:Value) (us:List Value) (Q:VK),UI X UE σ H s->bU x v->Vals xs us->r x xs H Q ->
  wpAny (model X.prog X.w) X.A (call (.builtin id) (v::us)) (EP X UE σ Q) X.xe s
theorem Vals.one{x:V}{us:List Value}(h:Vals [x] us):∃ u,us=[u]/\bU x u:=by
 cases h with
 | cons r t=>cases t;exact⟨_,rfl,r⟩
theorem Vals.two:∀ {x y:V} {us:List Value},Vals [x,y] us->∃ u v,us=[u,v]/\bU x u/\bU y v
 | _,_,_,.cons r (.cons q .nil)=>⟨_,_,rfl,r,q⟩
theorem Vals.zero:∀ {us:List Value},Vals [] us->us=[]
 | _,.nil=>rfl
theorem Vals.dropLast{xs:List V}{us:List Value}(h:Vals xs us):Vals xs.dropLast us.dropLast:=by
 induction h with
 | nil=>exact .nil
 | cons r t ih =>
  cases t with
  | nil=>exact .nil
  | cons q t'=>exact .cons r ih
theorem Vals.eraseIdx:∀ {xs:List V} {us:List Value} (i:Nat),Vals xs us->Vals (xs.eraseIdx i) (us.eraseIdx i)
 | _,_,_,.nil=>.nil
 | _,_,0,.cons _ t=>t
 | _,_,i+1,.cons r t=>.cons r (Vals.eraseIdx i t)
theorem Ao{α:Type}:∀(l:List α) (i:Nat),(l.eraseIdx i).length<=l.length
 | [],_=>Nat.le_refl _
 | _::_,0=>Nat.le_succ _
 | _::r,i+1=>Nat.succ_le_succ (Ao r i)
section
variable {X:Cx} {UE:List (Addr×Obj)} {σ:St} {H:Hp} {s:Shared} {l b:Addr} {xs ys zs:List V}
theorem UI.Ow{UJ its':List Value}{n:Nat}{f:Array Value->Array Value}{t':Nat}(I:UI X UE σ H s)(hH:H l=some (.lst xs))
    (e:s.heap.get? l=some {cls:=.type "list",data:=.seq UJ.toArray n}) (hf:f UJ.toArray=its'.toArray) (hv:Vals ys its') (hz:ys.length<=sizeLine) :
    UI X UE σ (UH H l (.lst ys)) {s with heap:=s.heap.update l (Obj.mapSeq f),toks:=t'}:=by
  have q:=PySem.IsL.update e f;rw[hf] at q;refine I.write (x:=l) (e:=l) (by rw[hH];exact trivial) (.inl rfl) (fun b' u hb hu=>(Heap.get?_update_other s.heap (Obj.mapSeq f) (Ne.symm hb)).trans hu) ⟨_,q⟩ ?_;exact⟨hz,its',_,hv,q⟩
theorem UI.TX{UJ:List Value}{t':Nat}(I:UI X UE σ H s)(hv:Vals ys UJ)(hz:ys.length<=sizeLine) :
    UI X UE σ (UH H s.heap.objs.size (.lst ys)) {s with heap:=s.heap.push {cls:=.type "list",data:=.seq UJ.toArray},toks:=t'} :=
  I.laid (fun _ _ q=>Heap.get?_push_of_some _ q) (Nat.le_refl _) ⟨hz,UJ,0,hv,Heap.get?_push_size _ rfl⟩
theorem UI.fresh(I:UI X UE σ H s):H s.heap.objs.size=none:=I.UL.fresh (Nat.le_refl _)
theorem UI.Fe(I:UI X UE σ H s)(hH:H l=some (.lst xs)):xs.length<=sizeLine/\∃(UJ:List Value) (n:Nat),Vals xs UJ/\xs.length=UJ.length/\s.heap.get? l=some {cls:=.type "list",data:=.seq UJ.toArray n}:=by
 obtain⟨z,UJ,n,r,e⟩:=I.UL l _ hH;exact⟨z,UJ,n,r,r.length,e⟩
theorem Hx{n:Nat}(h:n<=sizeLine):Builtin.List.listTooLong n=false:=by
 unfold Builtin.List.listTooLong;exact decide_eq_false (by omega)
end
section
variable {X:Cx}
noncomputable def Ku:V->List V->Hp->VK->Prop:=fun x vs H Q=>∃ l xs y,x=.ref l/\vs=[y]/\H l=some (.lst xs)/\xs.length < sizeLine/\Q .UK (UH H l (.lst (xs++[y])))
theorem Fj:Pt X "list.append" Ku:=by
 intro UE s σ H x vs v us Q I rx rv h;obtain⟨l,xs,y,rfl,rfl,hH,hz,q⟩:=h;cases rx;obtain⟨u,rfl,ru⟩:=rv.one;obtain⟨z,UJ,n,r,hl,e⟩:=I.Fe hH;refine call_meets F.slot_list_append ⟨_,e,rfl⟩ F.entry_list_append (F.args_list_append_2 _ _) (PySem.list_append l UJ.toArray n u (by rw[List.size_toArray];omega)) ⟨e,?_⟩;refine⟨.UK,_,I.Ow (its':=UJ++[u]) hH e (by simp) (r.append (.cons ru .nil)) ?_,rfl,q⟩;rw[List.length_append,List.length_singleton];omega
noncomputable def Kv:V->List V->Hp->VK->Prop:=fun x vs H Q=>∃ l b xs zs,x=.ref l/\vs=[.ref b]/\H l=some (.lst xs)/\H b=some (.lst zs)/\xs.length+zs.length<=sizeLine/\Q .UK (UH H l (.lst (xs++zs)))
theorem Fk:Pt X "list.extend" Kv:=by
 intro UE s σ H x vs v us Q I rx rv h;obtain⟨l,b,xs,zs,rfl,rfl,hH,hB,hz,q⟩:=h;cases rx;obtain⟨u,rfl,ru⟩:=rv.one;cases ru;obtain⟨z,UJ,n,r,hl,e⟩:=I.Fe hH;obtain⟨z2,Vu,n2,r2,VC,e2⟩:=I.Fe hB;have YW:UJ.toArray.size+Vu.toArray.size<=sizeLine:=by rw[List.size_toArray,List.size_toArray];omega
 have YM:¬ (!UJ.toArray.isEmpty&&Builtin.List.listTooLong (UJ.toArray.size+Vu.toArray.size))=true:=by
  rw[Hx YW,Bool.and_false];exact Bool.false_ne_true
 refine call_meets F.slot_list_extend ⟨_,e,rfl⟩ F.entry_list_extend (F.args_list_extend_2 _ _)
  (AutoSeq1.list_extend_list_list_0 l UJ.toArray n b Vu.toArray n2 YM (by rw[List.size_toArray];omega) (by omega)) ⟨e,e2,?_⟩
 refine⟨.UK,_,I.Ow (its':=UJ++Vu) hH e (by simp) (r.append r2) ?_,rfl,q⟩;rw[List.length_append];omega
noncomputable def OR:V->List V->Hp->VK->Prop:=fun x vs H Q=>∃ l xs i k y,x=.ref l/\vs=[.int i]/\H l=some (.lst xs)/\-(2 ^ 63)<=i/\i < 2 ^ 63/\seqIndex? i xs.length=some k/\xs[k]?=some y/\Q y (UH H l (.lst (xs.eraseIdx k)))
theorem Hu:Pt X "list.pop" OR:=by
 intro UE s σ H x vs v us Q I rx rv h;obtain⟨l,xs,i,k,y,rfl,rfl,hH,h1,h2,hk,hy,q⟩:=h;cases rx;obtain⟨u,rfl,ru⟩:=rv.one;obtain⟨t,rfl⟩:=ru;obtain⟨z,UJ,n,r,hl,e⟩:=I.Fe hH;obtain⟨w,hw,Y7⟩:=r.get hy;refine call_meets F.slot_list_pop ⟨_,e,rfl⟩ F.entry_list_pop (F.args_list_pop_2 _ _)
  (MeetsSeq.list_pop_at l UJ.toArray n i t k w (fitsIndex_both h1 h2) (by rw[List.size_toArray,<- hl];exact hk) (by rw[<- Array.getElem?_toList];exact hw) (by rw[List.size_toArray];omega)) ⟨e,?_⟩
 refine⟨y,_,I.Ow (its':=UJ.eraseIdx k) hH e ?_ (r.eraseIdx k) ?_,Y7,q⟩
 ·show UJ.toArray.eraseIdxIfInBounds k=(UJ.eraseIdx k).toArray;rw[List.eraseIdxIfInBounds_toArray]
 ·have:=Ao xs k;omega
noncomputable def T6:R2:=fun x y H Q=>∃ l b xs zs,x=.ref l/\y=.ref b/\H l=some (.lst xs)/\H b=some (.lst zs)/\xs.length+zs.length<=sizeLine/\∀ p,H p=none->Q (.ref p) (UH H p (.lst (xs++zs)))
theorem OE:iM X (binaryOp .Add) T6:=by
 intro UE s σ H x y v u Q I rx ry h;obtain⟨l,b,xs,zs,rfl,rfl,hH,hB,hz,q⟩:=h;cases rx;cases ry;obtain⟨z,UJ,n,r,hl,e⟩:=I.Fe hH;obtain⟨z2,Vu,n2,r2,VC,e2⟩:=I.Fe hB;refine PySem.P.add_list e e2 ?_ (by rw[List.size_toArray,List.size_toArray];omega);have ea:UJ.toArray++Vu.toArray=(UJ++Vu).toArray:=by simp
 rw[ea];exact⟨.ref _,_,I.TX (t':=s.toks) (r.append r2) (by rw[List.length_append];omega),rfl,q _ I.fresh⟩
end
section
variable {κ:Type} [DecidableEq κ]
noncomputable def dP(UG:List (κ×V))(k:κ):Option V:=(UG.find? fun kv=>decide (kv.1=k)).map (·.2)
noncomputable def j6(UG:List (κ×V))(k:κ)(v:V):List (κ×V) :=
 if (UG.any fun kv=>decide (kv.1=k))=true then UG.map (fun kv=>if kv.1=k then (kv.1,v) else kv) else UG++[(k,v)]
noncomputable def Af(UG:List (κ×V))(k:κ):List (κ×V):=UG.filter fun kv=>decide (kv.1≠k)
theorem yP{p:κ×V}{r:List (κ×V)}{k:κ}(e:p.1=k):dP (p::r) k=some p.2:=by simp[dP,List.find?_cons,e]
theorem yO{p:κ×V}{r:List (κ×V)}{k:κ}(e:¬ p.1=k):dP (p::r) k=dP r k:=by simp[dP,List.find?_cons,e]
theorem nX(k:κ):∀ UG:List (κ×V),(UG.any fun kv=>decide (kv.1=k))=(dP UG k).isSome
 | []=>rfl
 | p::r=>by
  rw[List.any_cons];by_cases e:p.1=k
  ·simp only[yP e,decide_eq_true e,Bool.true_or,Option.isSome_some]
  ·rw[yO e,decide_eq_false e,Bool.false_or];exact nX k r
theorem HN{UG:List (κ×V)}{k:κ}(v:V)(h:dP UG k=none):j6 UG k v=UG++[(k,v)]:=by
 unfold j6;rw[nX,h];exact if_neg (by decide)
theorem oR.E8{o:Option V}{u:Option Value}(r:oR o u):o.isSome=u.isSome:=by
 cases o with
 | none=>cases u with
  | none=>rfl
  | some _=>exact(show False from r).elim
 | some _=>cases u with
  | none=>exact(show False from r).elim
  | some _=>rfl
theorem oR.getD{o:Option V}{u:Option Value}{d:V}{d':Value}(r:oR o u)(rd:bU d d'):bU (o.getD d) (u.getD d'):=by
 cases o with
 | none=>cases u with
  | none=>exact rd
  | some _=>exact(show False from r).elim
 | some _=>cases u with
  | none=>exact(show False from r).elim
  | some _=>exact r
theorem KV.val{UG:List (κ×V)}{vs:List (κ×Value)}(r:KV UG vs)(k:κ):oR (dP UG k) (valueAt vs k):=by
 unfold KV at r
 induction r with
 | nil=>exact True.intro
 | @cons p q ps qs h t ih =>
  obtain⟨h1,h2⟩:=h;by_cases e:p.1=k
  ·have e':q.1=k:=h1.symm.trans e;have b:valueAt (q::qs) k=some q.2:=by simp[valueAt,List.find?_cons,e']
   rw[yP e,b];exact h2
  ·have e':¬ q.1=k:=fun z=>e (h1.trans z);have b:valueAt (q::qs) k=valueAt qs k:=by simp[valueAt,List.find?_cons,e']
   rw[yO e,b];exact ih
theorem KV.any{UG:List (κ×V)}{vs:List (κ×Value)}(r:KV UG vs)(k:κ):(UG.any fun kv=>decide (kv.1=k))=vs.any fun kv=>decide (kv.1=k):=by
 unfold KV at r
 induction r with
 | nil=>rfl
 | cons h t ih=>rw[List.any_cons,List.any_cons,ih,h.1]
theorem KV.OU{UG:List (κ×V)}{vs:List (κ×Value)}(r:KV UG vs)(k:κ){y:V}{u:Value}(ry:bU y u) :
    KV (UG.map fun kv=>if kv.1=k then (kv.1,y) else kv) (vs.map fun kv=>if kv.1=k then (kv.1,u) else kv):=by
  unfold KV at r ⊢
  induction r with
  | nil=>exact .nil
  | @cons p q ps qs h t ih =>
    rw[List.map_cons,List.map_cons];refine .cons ?_ ih;obtain⟨h1,h2⟩:=h;by_cases e:p.1=k
    · rw[if_pos e,if_pos (h1.symm.trans e)];exact⟨h1,ry⟩
    · rw[if_neg e,if_neg (fun z=>e (h1.trans z))];exact⟨h1,h2⟩
theorem KV.put{UG:List (κ×V)}{vs:List (κ×Value)}(r:KV UG vs)(k:κ){y:V}{u:Value}(ry:bU y u):KV (j6 UG k y) (stored vs k u):=by
 unfold j6 stored;rw[r.any k];by_cases e:(vs.any fun kv=>decide (kv.1=k))=true
 ·rw[if_pos e,if_pos e];exact r.OU k ry
 ·rw[if_neg e,if_neg e];exact Paired.snoc r ⟨rfl,ry⟩
theorem KV.drop{UG:List (κ×V)}{vs:List (κ×Value)}(r:KV UG vs)(k:κ):KV (Af UG k) (without vs k):=by
 unfold KV at r ⊢;unfold Af without
 induction r with
 | nil=>exact .nil
 | @cons p q ps qs h t ih =>
  obtain⟨h1,h2⟩:=h;rw[List.filter_cons,List.filter_cons];by_cases e:p.1=k
  ·have a:¬ decide (p.1≠k)=true:=by simp[e]
   have b:¬ decide (q.1≠k)=true:=by simp[h1.symm.trans e]
   rw[if_neg a,if_neg b];exact ih
  ·have e':¬ q.1=k:=fun z=>e (h1.trans z);have a:decide (p.1≠k)=true:=by simp[e]
   have b:decide (q.1≠k)=true:=by simp[e']
   rw[if_pos a,if_pos b];exact .cons ⟨h1,h2⟩ ih
theorem KV.keys{UG:List (κ×V)}{vs:List (κ×Value)}(r:KV UG vs):UG.map (·.1)=vs.map (·.1):=by
 unfold KV at r
 induction r with
 | nil=>rfl
 | cons h t ih=>rw[List.map_cons,List.map_cons,ih,h.1]
theorem KV.length{UG:List (κ×V)}{vs:List (κ×Value)}(r:KV UG vs):UG.length=vs.length:=Paired.length r
end
theorem Rm{P:Program}{w:World}{k:Key}{u:Value}(r:bU (kV k) u):(fR P w).is k u=true:=by
 cases k with
 | inl i=>obtain⟨t,e⟩:=(show ∃ t,u=Value.int i t from r);subst e;exact Cn P w i t
 | inr x=>obtain⟨t,e⟩:=(show ∃ t,u=Value.str x t from r);subst e;exact uQ P w x t
 | no=>cases (show u=Value.none from r);rfl
theorem Am{P:Program}{w:World}:∀ {ks:List Key} {us:List Value},Vals (ks.map kV) us->ItemsAre (fR P w) ks us
 | [],_,r=>by rw[List.map_nil] at r;cases r;exact .nil
 | k::ks,_,r=>by
  rw[List.map_cons] at r;cases r with
  | cons h t=>exact .cons (Rm h) (Am t)
noncomputable abbrev KT(H:Hp):List (List Key×V)->List (List Key×Addr×Value)->Prop:=Paired fun p q=>p.1=q.1/\H q.2.1=some (.tup (p.1.map kV))/\bU p.2 q.2.2
theorem KT.val{H:Hp}{UG:List (List Key×V)}{xs:List (List Key×Addr×Value)}(r:KT H UG xs)(k:List Key):oR (dP UG k) ((atKey xs k).map (·.2)):=by
 induction r with
 | nil=>exact True.intro
 | @cons p q ps qs h t ih =>
  obtain⟨h1,_,h2⟩:=h;by_cases e:p.1=k
  ·have e':q.1=k:=h1.symm.trans e;have b:atKey (q::qs) k=some q.2:=by simp[atKey,List.find?_cons,e']
   rw[yP e,b];exact h2
  ·have e':¬ q.1=k:=fun z=>e (h1.trans z);have b:atKey (q::qs) k=atKey qs k:=by simp[atKey,List.find?_cons,e']
   rw[yO e,b];exact ih
theorem KT.OU{H:Hp}{UG:List (List Key×V)}{xs:List (List Key×Addr×Value)}(r:KT H UG xs)(k:List Key){y:V}{u:Value}(ry:bU y u) :
    KT H (UG.map fun kv=>if kv.1=k then (kv.1,y) else kv) (xs.map (putAt k u)):=by
  induction r with
  | nil=>exact .nil
  | @cons p q ps qs h t ih =>
    rw[List.map_cons,List.map_cons];refine .cons ?_ ih;obtain⟨h1,h2,h3⟩:=h;unfold putAt;by_cases e:p.1=k
    · rw[if_pos e,if_pos (h1.symm.trans e)];exact⟨h1,h2,ry⟩
    · rw[if_neg e,if_neg (fun z=>e (h1.trans z))];exact⟨h1,h2,h3⟩
theorem KT.put{H:Hp}{UG:List (List Key×V)}{xs:List (List Key×Addr×Value)}(r:KT H UG xs)(k:List Key){b:Addr}{y:V}{u:Value}(hb:H b=some (.tup (k.map kV)))(ry:bU y u) :
    KT H (j6 UG k y) (storedH xs k b u):=by
  have e:(UG.any fun kv=>decide (kv.1=k))=(atKey xs k).isSome:=by
    rw[nX,(r.val k).E8,Option.isSome_map]
  unfold j6 storedH;rw[e];by_cases q:(atKey xs k).isSome=true
  · rw[if_pos q,if_pos q];exact r.OU k ry
  · rw[if_neg q,if_neg q];exact Paired.snoc r ⟨rfl,hb,ry⟩
theorem KT.keeps{H H':Hp}{UG:List (List Key×V)}{xs:List (List Key×Addr×Value)}(r:KT H UG xs)(ht:∀ b ys,H b=some (.tup ys)->H' b=some (.tup ys)):KT H' UG xs :=
 Paired.Oy r fun _ _ z=>⟨z.1,ht _ _ z.2.1,z.2.2⟩
section
variable {P:Program} {w:World} {H:Hp} {h:Heap} {a:Addr}
theorem Ly{u:HO}(ok:HOk P w H h)(e:Rd H a u):fM P w H h a u:=e.ok ok
theorem P6{UG:List (Key×V)}(ok:HOk P w H h)(e:Rd H a (.dK UG)):UG.length<=sizeLine/\(a==sysModules)=false/\∃ vs,KV UG vs/\h.DictOf (fR P w) a vs :=
 show fM P w H h a (.dK UG) from Ly ok e
theorem Ot{ks:List Key}(ok:HOk P w H h)(e:H a=some (.tup (ks.map kV))):(tupleKind (fR P w)).is h ks a:=by
 obtain⟨_,UJ,r,o,h1,h2,n,h3⟩:=(show fM P w H h a (.tup (ks.map kV)) from ok a _ e);exact⟨o,UJ.toArray,n,h1,h2,h3,by simpa using Am r⟩
theorem P7{UG:List (List Key×V)}(ok:HOk P w H h)(e:Rd H a (.dT UG)):UG.length<=sizeLine/\(a==sysModules)=false /\
    ∃ xs,KT H UG xs/\h.DictOfH (tupleKind (fR P w)) a xs:=by
  obtain⟨z,y,xs,r,o,es,ep,h1,h2,h3,h4,h5⟩:=(show fM P w H h a (.dT UG) from Ly ok e);refine⟨z,y,xs,r,o,es,ep,h1,h2,h3,h4,fun x hx=>?_,h5⟩;have all:∀ {l:List (List Key×V)} {m:List (List Key×Addr×Value)},KT H l m->∀ x∈m,(tupleKind (fR P w)).is h x.1 x.2.1:=by
    intro l m q
    induction q with
    | nil=>intro x hx;exact nomatch hx
    | @cons p q ps qs hq t ih =>
      intro x hx;rcases List.mem_cons.mp hx with e|hx
      · subst e;exact Ot ok (by rw[<- hq.1];exact hq.2.1)
      · exact ih x hx
  exact all r x hx
end
noncomputable def Vj(H:Hp)(a:Addr)(y:V)(r:Option V):Prop :=
 (∃ UG k,Rd H a (.dK UG)/\y=kV k/\r=dP UG k)\/∃ UG k b,Rd H a (.dT UG)/\y=.ref b/\H b=some (.tup (k.map kV))/\r=dP UG k
noncomputable def DPut(H:Hp)(a:Addr)(y v:V)(H':Hp):Prop :=
 (∃ UG k,H a=some (.dK UG)/\y=kV k/\UG.length < sizeLine/\H'=UH H a (.dK (j6 UG k v))) \/
 ∃ UG k b,H a=some (.dT UG)/\y=.ref b/\H b=some (.tup (k.map kV))/\UG.length < sizeLine/\H'=UH H a (.dT (j6 UG k v))
theorem Vj.k{H:Hp}{a:Addr}{UG:List (Key×V)}{k:Key}(e:H a=some (.dK UG)):Vj H a (kV k) (dP UG k):=.inl ⟨UG,k,.inl e,rfl,rfl⟩
theorem Vj.t{H:Hp}{a b:Addr}{UG:List (List Key×V)}{k:List Key}(e:H a=some (.dT UG))(eb:H b=some (.tup (k.map kV))):Vj H a (.ref b) (dP UG k):=.inr ⟨UG,k,b,.inl e,rfl,eb,rfl⟩
theorem DPut.k{H:Hp}{a:Addr}{UG:List (Key×V)}{k:Key}{v:V}(e:H a=some (.dK UG))(hl:UG.length < sizeLine):DPut H a (kV k) v (UH H a (.dK (j6 UG k v))):=.inl ⟨UG,k,e,rfl,hl,rfl⟩
theorem DPut.t{H:Hp}{a b:Addr}{UG:List (List Key×V)}{k:List Key}{v:V}(e:H a=some (.dT UG))(eb:H b=some (.tup (k.map kV)))(hl:UG.length < sizeLine) :
    DPut H a (.ref b) v (UH H a (.dT (j6 UG k v))):=.inr ⟨UG,k,b,e,rfl,eb,hl,rfl⟩
section
variable {X:Cx} {UE:List (Addr×Obj)} {σ:St} {H:Hp} {s:Shared} {a:Addr} {y v:V} {u r:Value} {o:Option V} {A:Around} {E:q0A}
end
section
variable {X:Cx} {UE:List (Addr×Obj)} {σ:St} {H:Hp} {s:Shared} {a:Addr} {UG:List (Key×V)} {k:Key} {u:Value} {A:Around} {E:q0A}
end
theorem BY{X:Cx}{UE:List (Addr×Obj)}{σ:St}{H:Hp}{s:Shared}{a:Addr}{y:V}{o:Option V}(I:UI X UE σ H s)(g:Vj H a y o):s.TypeIs (.ref a) "dict":=by
 rcases g with⟨UG,k,e,_,_⟩|⟨UG,k,b,e,_,_,_⟩
 ·obtain⟨_,_,vs,_,dd⟩:=P6 I.UL e;exact dd.typeIs
 ·obtain⟨_,_,xs,_,dd⟩:=P7 I.UL e;exact dd.typeIs
noncomputable def LG(td ty:TE):TE:=fun σ H Q=>td σ H fun x H1=>ty σ H1 fun y H2=>∃ a v,x=.ref a/\Vj H2 a y (some v)/\Q v H2
noncomputable def Sd(ty td:TE):TE:=fun σ H Q=>ty σ H fun y H1=>td σ H1 fun x H2=>∃ a o,x=.ref a/\Vj H2 a y o/\Q (.bl o.isSome) H2
section
variable {X:Cx} {o i e value:Expr} {pos pos' X2:Pos} {td ty tv:TE}
end
noncomputable def Pb:TE:=fun _ H Q=>∀ p,H p=none->Q (.ref p) (UH H p (.dK []))
section
variable {X:Cx} {pos:Pos}
end
noncomputable def Iq:List (TE×TE)->St->Hp->(List (V×V)->Hp->Prop)->Prop
 | [],_,H,Q=>Q [] H
 | (tk,tv)::r,σ,H,Q=>tk σ H fun x H1=>tv σ H1 fun y H2=>Iq r σ H2 fun ps H3=>Q ((x,y)::ps) H3
noncomputable abbrev VV:List (V×V)->List (Value×Value)->Prop:=Paired fun p q=>bU p.1 q.1/\bU p.2 q.2
noncomputable def PPs(X:Cx)(pos:Pos)(keys:List (Option Expr))(values:List Expr)(trs:List (TE×TE)):Prop :=
 ∀(UE:List (Addr×Obj)) (s:Shared) (σ:St) (H:Hp) (Q:List (V×V)->Hp->Prop),UI X UE σ H s->Iq trs σ H Q ->
  wpAny (model X.prog X.w) X.A (evalPairs (pairTrees keys values X.env pos)) (fun vs s'=>∃ ps H',UI X UE σ H' s'/\VV ps vs/\Q ps H') X.xe s
noncomputable def Hq(UG more:List (Key×V)):List (Key×V):=more.foldl (fun acc kv=>j6 acc kv.1 kv.2) UG
structure M1(X:Cx)(o:Expr)(m:Str)(apos:Pos)(e:Expr)(UM:Pos):Prop where
 base:attributeBase o m X.env (eval o X.env)=eval o X.env
 few:((backTo UM (starEach [e] X.env)).all (fun x=>!x.1)&&(backToKw UM (keywordEach [] X.env)).all (fun x=>x.1.isSome)
 &&decide (([e]:List Expr).length+([]:List Keyword).length+(if ([]:List Keyword).isEmpty then 0 else 1) < 30))=true
 line:(apos.endLine==UM.line)=true
 trees:backTo UM (starEach [e] X.env)=[(false,eval e X.env)]
structure M2(X:Cx)(o:Expr)(m:Str)(apos:Pos)(e f:Expr)(UM:Pos):Prop where
 base:attributeBase o m X.env (eval o X.env)=eval o X.env
 few:((backTo UM (starEach [e,f] X.env)).all (fun x=>!x.1)&&(backToKw UM (keywordEach [] X.env)).all (fun x=>x.1.isSome)
 &&decide (([e,f]:List Expr).length+([]:List Keyword).length+(if ([]:List Keyword).isEmpty then 0 else 1) < 30))=true
 line:(apos.endLine==UM.line)=true
 trees:backTo UM (starEach [e,f] X.env)=[(false,eval e X.env),(false,eval f X.env)]
noncomputable def SU(H:Hp)(a:Addr):Prop:=(∃ UG,Rd H a (.dK UG))\/∃ UG,Rd H a (.dT UG)
section
variable {X:Cx} {UE:List (Addr×Obj)} {σ:St} {H:Hp} {s:Shared} {a:Addr} {y d:V} {u r:Value} {o:Option V} {A:Around} {E:q0A}
end
noncomputable def Il(td ty:TE):TE:=fun σ H Q=>td σ H fun x H1=>∃ a,x=.ref a/\SU H1 a/\ty σ H1 fun y H2=>∃ o,Vj H2 a y o/\Q (o.getD .UK) H2
noncomputable def Im(td ty tx:TE):TE:=fun σ H Q=>td σ H fun x H1=>∃ a,x=.ref a/\SU H1 a/\ty σ H1 fun y H2=>tx σ H2 fun z H3=>∃ UG k,H3 a=some (.dK UG)/\y=kV k /\
 (∀ v,dP UG k=some v->Q v (UH H3 a (.dK (Af UG k))))/\(dP UG k=none->Q z H3)
section
variable {X:Cx} {o e f:Expr} {apos UM:Pos} {td ty tx:TE}
end
section
variable {X:Cx} {UE:List (Addr×Obj)} {σ:St} {H:Hp} {s:Shared} {a:Addr} {UG:List (Key×V)} {A:Around} {E:q0A}
end
section
variable {X:Cx} {UE:List (Addr×Obj)} {σ:St} {H:Hp} {s:Shared} {a:Addr} {y:V} {u:Value} {A:Around} {E:q0A}
end
end L2
namespace Att
open PySem PySem.W PySem.Calls PyProof.Rows
theorem u6{P:Params}{h:Heap}:∀(ns:List Int) (vs:List Value),WellAll P h vs (ns.map WData.int)->IntsAre vs ns:=by
 intro ns
 induction ns with
 | nil =>
  intro vs w;rw[List.map_nil] at w;cases w;exact .nil
 | cons n ns ih =>
  intro vs w;rw[List.map_cons] at w;cases w with
  | cons a b =>
   cases a;exact .cons _ _ (ih _ b)
theorem Fz{l:OpenLaw}{n:Nat}(hn:l.most=some n){P:Params}{h:Heap}{args:List WData}{vals:List Value}
    (W5:l.row.toRowW.claim.pre args=true) (VS:WellAll P h vals args) :
    ∃ a vs ns,vals=[Value.ref a]/\args=[WData.list (ns.map WData.int)]/\h.get? a=some {cls:=.type "list",data:=.seq vs.toArray}/\IntsAre vs ns/\ns.length<=n:=by
  have hsh:WShape.hasAll [] args [.list .int]=true:=(pre_splitW W5).1;have hc:l.pre.holds [] {args:=args}=true:=(pre_splitW W5).2;obtain⟨d,r,rfl,h1,h2⟩:=hasAllW_cons hsh;obtain rfl:=hasAllW_nil h2;obtain⟨xs,rfl,h3⟩:=hasW_list h1;obtain⟨ns,rfl⟩:=items_int h3;have hlen:ns.length<=n:=by
    unfold OpenLaw.pre at hc;have h4:(WTm.not (.lt (.lit (.int (n:Int))) (.len (.arg 0)))).holds [] {args:=[.list (ns.map .int)]}=true:=by
      have h4:=(holds_andW hc).1;rw[hn] at h4;exact h4
    have h5:=condW_of h4 (w_not (w_lt w_lit (w_len_list (w_arg rfl))));rw[List.length_map] at h5;refine Nat.le_of_not_lt fun q=>?_;have q':(n:Int) < ((ns.length:Nat):Int):=by omega
    first
      | (rw[decide_eq_true q'] at h5;exact absurd h5 (by decide))
      | (simp at h5;omega)
  cases VS with
  | cons w1 w2 =>
    cases w2;cases w1 with
    | list ho aaH=>exact⟨_,_,ns,rfl,rfl,ho,u6 ns _ aaH,hlen⟩
theorem Fu(l:OpenLaw)(args:List WData):l.row.toRowW.claim.post args (.bool true) args=true :=
 postW_of (r:=l.row.toRowW) (X:=(true==true))
  (show WShape.has [] (.bool true) .bool=true by first|rfl|decide|simp[WShape.has,WShape.arms,WShape.armsAll])
  (show(WTm.eq .res (.lit (.bool true))).value [] {args:=args,res:=some (.bool true),after:=args}=some (.bool (true==true)) from w_eq_bool (w_res rfl) w_lit) rfl
theorem BL{l:OpenLaw}{n:Nat}{q:Program}{loose:List Str}{XP:(q0C)->Heap->Prop}{YP:World->Heap->Prop}{d:DefRec}
    (hn:l.most=some n) (W0:d.params.defaults=[])
    (call:∀(w:World) (s₀ s₁:Shared) (mg mb:q0C) (fa:Addr) (o:Obj) (pm cd doc:Value) (a:Addr) (vs:List Value) (ns:List Int),
      Ground q loose [] XP w s₀ mg mb s₁.heap->YP w s₁.heap ->
      s₁.heap.get? fa=some o->o.data=.func (docDef d.name d.params d.body d.scope pm cd doc)->s₁.heap.CodeRec cd d.name->mg d.name=some (.ref fa) ->
      s₁.heap.get? a=some {cls:=.type "list",data:=.seq vs.toArray}->IntsAre vs ns->ns.length<=n->s₁.gens = #[] ->
      codeAny (model l.prog w) callerA (.call (.ref fa) ⟨[.ref a],[]⟩) (fun r s'=>r=.ok (.ret (.bool true))/\OldK s₁.heap s'.heap/\s'.os=s₁.os/\AllBare s'.gens) s₁) :
    WalkO q loose XP YP l.row.toRowW d [] (fun f vs=>PySem.call f vs):=by
  intro w s₀ s₁ mg mb G Y fa o pm cd doc dV kV ho hd V7 hD YN hg args vals as W5 aaX hrd VS ZF;obtain rfl:dV=.none:=Dflts.none hD W0;obtain rfl:kV=.none:=Dflts.noKw hD;obtain⟨a,vs,ns,rfl,rfl,XI,hints,hlen⟩:=Fz hn W5 VS;refine enter_call (codeAny_mono (call w s₀ s₁ mg mb fa o pm cd doc a vs ns G Y ho (fd_plain hd) V7 YN XI hints hlen hg) fun r s' hq=>?_);obtain⟨rfl,h2,h3,h4⟩:=hq;exact⟨.inl ⟨.bool true,.bool true,[],rfl,fun _=>rfl,.bool true,Fu l _,fun _=>⟨List.Pairwise.nil,fun _ hm=>(nomatch hm)⟩⟩,h2,h3,h4⟩
section
variable {prog:Program} {w:World} {A:Around} {E:q0A} {s:Shared} {K:Frag}
noncomputable def ledger(h:Heap)(L d:Addr):List (Addr×Obj):=(List.range h.objs.size).filterMap fun a=>if a=L\/a=d then none else (h.get? a).map fun o=>(a,o)
end
end Att
namespace L2
open PySem PySem.Spec PyProof.Rows
theorem AN:∀ {vs:List Value} {ns:List Int},IntsAre vs ns->Vals (ns.map V.int) vs
 | _,_,.nil=>.nil
 | _,_,.cons n t h=>.cons ⟨t,rfl⟩ (AN h)
noncomputable def Only(H:Hp):Prop:=∀ b,H b=none\/∃ o xs,H b=some (.Vf o (.lst xs))
theorem Hg{P:Program}{w:World}{K:q0B}{mg mb:q0C}{CX:CXT}{k:Nat}{fa a:Addr}{fd:FuncData}{x:Str}{sp:Sp}{s₁:Shared}{vs:List Value}{ns:List Int}
    (KX:K.In s₁.heap) (hns:s₁.heap.Ns mainGlobals mg) (hb:s₁.heap.Ns builtinsNs mb) (hbb:∀ x:Str,x≠"__name__"->mb x=bootBuiltins x) (aaJ:s₁.heap.NoLimit) (hg:s₁.gens = #[])
    (ha:s₁.heap.get? a=some {cls:=.type "list",data:=.seq vs.toArray}) (hi:IntsAre vs ns) (hl:ns.length<=sizeLine) (hr:Room k callerA)
    (F:∀ base:Heap,K.In base->base.Ns mainGlobals mg->bN P w K mg base CX k fa fd [x] sp) (YG:∀(s:Shared) (u:Value),BindsTo s fd ⟨[u],[]⟩ [(x,u)])
    (WT:∀ H:Hp,Only H->dU K H a (ns.map V.int)->sp [.ref a] H (fun v _=>v=.bl true) fun _ _ _=>False)
    (hCX:∀ H e s',CX [] H s₁ (fun _ _ _=>False) e s'->False) :
    codeAny (model P w) callerA (.call (.ref fa) ⟨[.ref a],[]⟩) (fun r s'=>r=.ok (.ret (.bool true))/\OldK s₁.heap s'.heap/\s'.os=s₁.os/\AllBare s'.gens) s₁:=by
  have rv:=AN hi;have aaO:=hi.length
  -- from an abstract heap in which nothing but the script may be tracked
  have core:∀ H:Hp,Only H->dU K H a (ns.map V.int)->HOk P w H s₁.heap->(∀ b,H b≠none->b=a)->(H a≠none->K.lookup a=none) ->
      codeAny (model P w) callerA (.call (.ref fa) ⟨[.ref a],[]⟩) (fun r s'=>r=.ok (.ret (.bool true))/\OldK s₁.heap s'.heap/\s'.os=s₁.os/\AllBare s'.gens) s₁:=by
    intro H hO hS UL hA hK;have V1:∀ {b:Addr} {o:Obj},s₁.heap.get? b=some o->H b=none->(A9 s₁.heap H).get? b=some o:=fun e n=>GZ e n;have Y3:∀ {b:Addr} {o:Obj} {es:Array DictEntry} {ep:Nat},s₁.heap.get? b=some o->o.data=.dict es ep->H b=none:=fun {b o es ep} e d=>by
      cases q:H b with
      | none=>rfl
      | some u =>
        have e':b=a:=hA b (by rw[q];simp);subst e';rw[ha] at e;cases e;have d':Data.seq vs.toArray _=Data.dict es ep:=d;cases d'
    have ZL:∀ {b:Addr} {m:q0C},s₁.heap.Ns b m->(A9 s₁.heap H).Ns b m:=fun {b m} ⟨o,es,ep,e,d,r⟩=>⟨o,es,ep,V1 e (Y3 e d),d,r⟩;have hKb:K.In (A9 s₁.heap H):=fun b o e=>V1 (KX b o e) (by
      cases q:H b with
      | none=>rfl
      | some u =>
        have e':b=a:=hA b (by rw[q];simp);subst e';rw[hK (by rw[q];simp)] at e;cases e)
    have hM:Mod K mg (A9 s₁.heap H):=⟨hKb,ZL hns,⟨mb,ZL hb,hbb⟩,let ⟨mc,h1,h2⟩:=aaJ;⟨mc,ZL h1,h2⟩⟩;have e0:Env0 P w K mg (A9 s₁.heap H) callerA [] s₁ H:=⟨rfl,hM,fun b o e=>Kg e,Nat.le_of_eq (E6 _ _),trivial,fun b hb=>absurd (show b∈([]:List Addr) from hb) (by simp),UL,.of_eq hg⟩;refine codeAny_mono ((F _ hKb (ZL hns)).run callerA [] s₁ H ⟨[.ref a],[]⟩ [.ref a] [.ref a] _ _ hr e0 (YG s₁ (.ref a)) (.cons rfl .nil) (WT H hO hS)) fun r s' h=>?_;cases r with
    | error e=>exact(hCX H e s' h).elim
    | ok fl =>
      cases fl with
      | next=>exact False.elim h
      | brk=>exact False.elim h
      | cont=>exact False.elim h
      | ret u =>
        obtain⟨v,H',os,bare,un,aaL,r',q⟩:=h;have q':v=.bl true:=q;subst q';obtain rfl:u=Value.bool true:=r';refine⟨rfl,OldK.of_keep fun b o e=>?_,os,bare⟩;cases q:H b with
        | none=>exact un.keep b o e q (by intro z;exact absurd (show b∈([]:List Addr) from z) (by simp)) (by simp)
        | some u =>
          rcases hO b with z|⟨ob,xs,z⟩
          · rw[q] at z;cases z
          · have z2:=un.mG b ob _ z;obtain⟨e1,_⟩:=UL b _ z;obtain⟨e2,_⟩:=aaL b _ z2;rw[e] at e1;cases e1;exact e2
  cases hk:K.lookup a with
  | some o =>
    -- the script is one of the module's own objects
    have e:=KX a o hk;rw[ha] at e;cases e;refine core (fun _=>none) (fun _=>.inl rfl) (.inr ⟨_,vs.toArray,_,hk,rfl,rfl,rfl,by rw[List.size_toArray,aaO];exact hl,by simpa using rv⟩) (fun b u z=>by have z':(none:Option HO)=some u:=z;cases z') (fun b z=>absurd rfl z) fun z=>absurd rfl z
  | none =>
    refine core (fun b=>if b=a then some (.Vf {cls:=.type "list",data:=.seq vs.toArray} (.lst (ns.map V.int))) else none) (fun b=>?_) (.inl (.inr ⟨{cls:=.type "list",data:=.seq vs.toArray},if_pos rfl⟩)) (fun b u z=>?_) (fun b z=>?_) fun _=>hk
    · by_cases hb:b=a
      · exact .inr ⟨_,_,if_pos hb⟩
      · exact .inl (if_neg hb)
    · by_cases hb:b=a
      · have z':=(if_pos hb).symm.trans z;cases z';subst hb;exact⟨ha,by rw[List.length_map];exact hl,vs,_,rv,ha⟩
      · have z':=(if_neg hb).symm.trans z;cases z'
    · by_cases hb:b=a
      · exact hb
      · exact absurd (if_neg hb) z
theorem KZ{l:PySem.W.OpenLaw}{n k:Nat}{q:Program}{loose:List Str}{XP:(q0C)->Heap->Prop}{YP:World->Heap->Prop}{d:DefRec}{K:Params->q0B}{CX:World->CXT}{sp:World->Sp}{x:Str}
    (hn:l.most=some n) (Yh:n<=sizeLine) (W0:d.params.defaults=[]) (hr:Room k callerA)
    (hY:∀(w:World) (h:Heap),YP w h->(K w.params).In h)
    (F:∀(w:World) (mg:q0C) (fa:Addr) (h:Heap),(K w.params).In h->h.Ns mainGlobals mg->mg d.name=some (.ref fa) ->
      ∃ fd:FuncData,(∀(s:Shared) (u:Value),BindsTo s fd ⟨[u],[]⟩ [(x,u)]) /\
        ∀ base:Heap,(K w.params).In base->base.Ns mainGlobals mg->bN l.prog w (K w.params) mg base (CX w) k fa fd [x] (sp w))
    (WT:∀(w:World) (H:Hp) (a:Addr) (ns:List Int),ns.length<=n->Only H->dU (K w.params) H a (ns.map V.int)->sp w [.ref a] H (fun v _=>v=.bl true) fun _ _ _=>False)
    (hCX:∀(w:World) (H:Hp) (s:Shared) (e:Value) (s':Shared),CX w [] H s (fun _ _ _=>False) e s'->False) :
    PySem.W.WalkO q loose XP YP l.row.toRowW d [] (fun f vs=>PySem.call f vs):=by
  refine Att.BL hn W0 fun w s₀ s₁ mg mb fa o pm cd doc a vs ns G Y ho hd V7 YN XI hints hlen hg=>?_;have KX:=hY w _ Y;obtain⟨fd,hb,hF⟩:=F w mg fa _ KX G.T.g YN;exact Hg KX G.T.g G.T.b G.T.builtins G.T.nolimit hg XI hints (Nat.le_trans hlen Yh) hr hF hb (fun H hO hS=>WT w H a ns hlen hO hS) fun H e s'=>hCX w H s₁ e s'
noncomputable def oG(s:Stmt)(j:Nat):Stmt:=match s with
 | .ClassDef _ _ _ body _ _ _ _ _ _ _=>body.getD j (.Pass ⟨0,0,0,0⟩)
 | _=>.Pass ⟨0,0,0,0⟩
noncomputable def vE(s:Stmt):Arguments:=match s with
 | .FunctionDef _ a _ _ _ _ _ _ _ _=>a
 | _=>{posonlyargs:=[],args:=[],vararg:=none,kwonlyargs:=[],kw_defaults:=[],kwarg:=none,defaults:=[]}
noncomputable def oC(s:Stmt):List Stmt:=match s with
 | .FunctionDef _ _ b _ _ _ _ _ _ _=>b
 | _=>[]
noncomputable def aT(s:Stmt):Scope:=match s with
 | .FunctionDef _ _ _ _ _ _ sc _ _ _=>sc
 | _=>{kind:=.function,names:=[],isGenerator:=false,isCoroutine:=false}
noncomputable abbrev UR:CXT:=fun _ _ _ _ _ _=>False
noncomputable abbrev E0:XK:=fun _ _ _=>False
theorem pass0{X:Cx}:Passes UR X E0:=fun _ _ _ _ _ _ _ h=>h.elim
structure Fun(K:q0B)(x qual:Str)(st:Stmt)(f:Addr)(fd:FuncData):Prop where
 ex:∃(oc:Value) (od:Option Addr) (kV doc pm:Value) (an:Option Addr) (UN ct:Value) (Xb:Array (Option Value)),
  fd=PySem.W.fnOf x qual (vE st) (oC st) (aT st) .none kV doc pm an UN ct/\K.lookup f=some ⟨oc,od,.func fd,Xb⟩/\PySem.W.codeIn K UN qual=true
 kp:PySem.W.keepIn K (.ref f)=true
section
variable {P:Program} {w:World} {K:q0B} {mg:q0C} {base:Heap}
theorem Fun.ok{x qual:Str}{st:Stmt}{f:Addr}{fd:FuncData}{N ps:List Str}{k:Nat}{sp:Sp}(F:Fun K x qual st f fd)(S:bC N ps (aT st))(len:∀ vs H Q E,sp vs H Q E->vs.length=ps.length)
    (VI:∀(UN:Value) (A:Around) (outer:List Env) (s:Shared) (H:Hp) (vs:List V) (Q:VK) (E:XK),Room k (A.deeper (envOfC qual (aT st) s.heap.objs.size f UN))->sp vs H Q E ->
      ∃ t,VA (oT UR P w K mg base N qual (aT st) f UN A outer s H E).nox (oC st) t/\t {nx:=fun _ H'=>Q .UK H',rt:=Q} (start N vs) H):bN P w K mg base UR (k+1) f fd ps sp:=by
  obtain⟨oc,od,kV,doc,pm,an,UN,ct,Xb,rfl,lk,V7⟩:=F.ex;refine Lo lk V7 S len fun A outer s H vs Q E hr WT=>?_;obtain⟨t,h,q⟩:=VI UN A outer s H vs Q E hr WT;exact⟨t,h.nox,q⟩
theorem Fun.binds{x qual:Str}{st:Stmt}{f:Addr}{fd:FuncData}{ps:List Str}(F:Fun K x qual st f fd)
    (h:∀(kV doc pm:Value) (an:Option Addr) (UN ct:Value) (us:List Value),us.length=ps.length->bindArgs (PySem.W.fnOf x qual (vE st) (oC st) (aT st) .none kV doc pm an UN ct) ⟨us,[]⟩=pure (ps.zip us)):Binds K fd ps []:=by
  obtain⟨oc,od,kV,doc,pm,an,UN,ct,Xb,rfl,lk,V7⟩:=F.ex;exact .all (h kV doc pm an UN ct)
theorem N8{x qual:Str}{st:Stmt}{f:Addr}{oc:Value}{od an:Option Addr}{Xb:Array (Option Value)}{kV doc pm UN ct:Value}(l:K.lookup f=some ⟨oc,od,.func (PySem.W.fnOf x qual (vE st) (oC st) (aT st) .none kV doc pm an UN ct),Xb⟩)
    (c:PySem.W.codeIn K UN qual=true) (k:PySem.W.keepIn K (.ref f)=true):Fun K x qual st f (PySem.W.fnOf x qual (vE st) (oC st) (aT st) .none kV doc pm an UN ct):=⟨⟨oc,od,kV,doc,pm,an,UN,ct,Xb,rfl,l,c⟩,k⟩
end
theorem small1000{n:Nat}(h:n<=1000):n < sizeLine:=Nat.lt_of_le_of_lt h (by decide)
section
variable {X:Cx}
theorem pv(i:Nat){x:Str}{pos:Pos}(hN:X.N[i]?=some x:=by rfl)(hv:Vis X.env.scope x:=by first|exact Or.inl rfl|exact Or.inr (Or.inl rfl)|exact Or.inr (Or.inr rfl))(hd:(x==("__debug__":Str))=false:=by decide)
    (V7:(x==("__classdict__":Str))=false:=by decide):PE X (.Name x pos) (eM i):=OL hN hv hd V7
end
noncomputable def Same(H H':Hp):Prop:=∀ b o,H b=some o->H' b=some o
theorem Same.refl(H:Hp):Same H H:=fun _ _ h=>h
theorem Same.trans{H H1 H2:Hp}(a:Same H H1)(b:Same H1 H2):Same H H2:=fun c o h=>b c o (a c o h)
theorem Same.free{H H':Hp}(e:Same H H'){l:Addr}(h:H' l=Option.none):H l=Option.none:=by
 cases q:H l with
 | none=>rfl
 | some o =>
  rw[e l o q] at h;cases h
theorem Same.seq{K:q0B}{H H':Hp}{a:Addr}{xs:List V}(e:Same H H')(h:dU K H a xs):dU K H' a xs:=by
 rcases h with(h|⟨o,h⟩)|h
 ·exact .inl (.inl (e _ _ h))
 ·exact .inl (.inr ⟨o,e _ _ h⟩)
 ·exact .inr h
section
variable {X:Cx}
end
section
variable {κ:Type} [DecidableEq κ]
theorem IC{UG:List (κ×V)}{k:κ}(h:dP UG k=none):¬ k∈UG.map (·.1):=by
 intro m;obtain⟨p,hp,e⟩:=List.mem_map.mp m;have q:(UG.any fun kv=>decide (kv.1=k))=true:=List.any_eq_true.mpr ⟨p,hp,decide_eq_true e⟩;rw[nX,h] at q;exact absurd q (by simp)
theorem D8:∀ {l:List κ} {k:κ},l.Nodup->¬ k∈l->(l++[k]).Nodup
 | [],k,_,_=>by simp
 | a::r,k,h,hk=>by
  obtain⟨h1,h2⟩:=List.nodup_cons.mp h;show(a::(r++[k])).Nodup;refine List.nodup_cons.mpr ⟨fun m=>?_,D8 h2 fun m=>hk (List.mem_cons.mpr (Or.inr m))⟩;rcases List.mem_append.mp m with q|q
  ·exact h1 q
  ·exact hk (List.mem_cons.mpr (Or.inl (List.mem_singleton.mp q).symm))
theorem Kf{UG:List (κ×V)}{k:κ}(v:V)(hn:(UG.map (·.1)).Nodup)(h:dP UG k=none):((j6 UG k v).map (·.1)).Nodup:=by
 rw[HN v h,List.map_append];exact D8 hn (IC h)
end
end L2
set_option maxHeartbeats 4000000
namespace L2
open PySem PySem.Spec PyProof.Rows
theorem sP:bootBuiltins "int"=some (.type "int"):=by decide +kernel
theorem C2:bootBuiltins "str"=some (.type "str"):=by decide +kernel
theorem qU:bootBuiltins "tuple"=some (.type "tuple"):=by decide +kernel
theorem gY:bootBuiltins "isinstance"=some (.builtin "isinstance"):=by decide +kernel
theorem Mi:bootBuiltins "max"=some (.builtin "max"):=by decide +kernel
theorem FT:bootBuiltins "all"=some (.builtin "all"):=by decide +kernel
theorem eL:bootBuiltins "len"=some (.builtin "len"):=by decide +kernel
section
variable {X:Cx}
noncomputable def Px(_ j:Int):Prop:=0 < j/\j.natAbs.log2 < 9000
theorem HE:iM X (binaryOp .FloorDiv) (rI Px fun i j=>.int (i / j)):=SX fun i j _ _ _ _ _ hc q=>by
 have h1:(0:Int) < j:=hc.1;exact floordiv_int (by omega) (by rw[Int.fdiv_eq_ediv_of_nonneg i (by omega)];exact q) (.inl (PyProof.noPylong_of_log2 hc.2))
theorem log2_lt{j:Int}(h0:0 < j)(h:j<=10 ^ 45):j.natAbs.log2 < 9000:=by
 have h1:j.natAbs<=10 ^ 45:=by omega
 have h2:j.natAbs < 2 ^ 150:=Nat.lt_of_le_of_lt h1 (by decide);have h3:j.natAbs.log2 < 150:=(Nat.log2_lt (by omega)).mpr h2;omega
inductive qK(K:q0B)(H:Hp):V->String->Bool->Prop
 | ii (n:Int):qK K H (.int n) "int" true
 | ib (n:Int):qK K H (.int n) "bool" false
 | is (n:Int):qK K H (.int n) "str" false
 | it (n:Int):qK K H (.int n) "tuple" false
 | bi (b:Bool):qK K H (.bl b) "int" true
 | bb (b:Bool):qK K H (.bl b) "bool" true
 | bs (b:Bool):qK K H (.bl b) "str" false
 | bt (b:Bool):qK K H (.bl b) "tuple" false
 | si (x:Str):qK K H (.str x) "int" false
 | sb (x:Str):qK K H (.str x) "bool" false
 | ss (x:Str):qK K H (.str x) "str" true
 | st (x:Str):qK K H (.str x) "tuple" false
 | ni:qK K H .UK "int" false
 | nb:qK K H .UK "bool" false
 | ns:qK K H .UK "str" false
 | nt:qK K H .UK "tuple" false
 | li {a:Addr} {xs:List V}:dU K H a xs->qK K H (.ref a) "int" false
 | lb {a:Addr} {xs:List V}:dU K H a xs->qK K H (.ref a) "bool" false
 | ls {a:Addr} {xs:List V}:dU K H a xs->qK K H (.ref a) "str" false
 | lt {a:Addr} {xs:List V}:dU K H a xs->qK K H (.ref a) "tuple" false
 | ti {a:Addr} {xs:List V}:gS K H a xs->qK K H (.ref a) "int" false
 | tb {a:Addr} {xs:List V}:gS K H a xs->qK K H (.ref a) "bool" false
 | ts {a:Addr} {xs:List V}:gS K H a xs->qK K H (.ref a) "str" false
 | tt {a:Addr} {xs:List V}:gS K H a xs->qK K H (.ref a) "tuple" true
 | di {a:Addr} {UG:List (Key×V)}:H a=some (.dK UG)->qK K H (.ref a) "int" false
 | db {a:Addr} {UG:List (Key×V)}:H a=some (.dK UG)->qK K H (.ref a) "bool" false
 | ds {a:Addr} {UG:List (Key×V)}:H a=some (.dK UG)->qK K H (.ref a) "str" false
theorem UI.vK{UE:List (Addr×Obj)}{σ:St}{H:Hp}{s:Shared}{a:Addr}{xs:List V}(I:UI X UE σ H s)(h:dU X.K H a xs):∃ o,s.heap.get? a=some o/\o.cls=.type "list":=by
 obtain⟨UJ,_,⟨o,n,e,c,_,_⟩,_⟩:=I.list h;exact⟨o,e,c⟩
theorem UI.BI{UE:List (Addr×Obj)}{σ:St}{H:Hp}{s:Shared}{a:Addr}{xs:List V}(I:UI X UE σ H s)(h:gS X.K H a xs):∃ o,s.heap.get? a=some o/\o.cls=.type "tuple":=by
 obtain⟨UJ,_,⟨o,e,c,_⟩,_⟩:=I.tuple h;exact⟨o,e,c⟩
theorem UI.AZ{UE:List (Addr×Obj)}{σ:St}{H:Hp}{s:Shared}{a:Addr}{UG:List (Key×V)}(I:UI X UE σ H s)(h:H a=some (.dK UG)):∃ o,s.heap.get? a=some o/\o.cls=.type "dict" :=
 BY I (Vj.k (k:=.inl 0) h)
theorem Gb:eP X (.builtin "isinstance") (fun xs H Q=>∃ v T b,xs=[v,.ty T]/\qK X.K H v T b/\Q (.bl b) H):=by
 intro UE s σ H xs us Q I r h;obtain⟨v,T,b,rfl,hi,q⟩:=h;obtain⟨u,w',rfl,r1,r2⟩:=vals2 r;cases r2;have fin:EP X UE σ Q (.bool b) s:=⟨.bl b,H,I,rfl,q⟩;have US:EP X UE σ Q (.bool b) {s with toks:=s.toks+1}:=⟨.bl b,H,I.tok _,rfl,q⟩;cases hi with
 | ii n=>obtain⟨t,rfl⟩:=r1;exact IsiPair.int_int fin
 | ib n=>obtain⟨t,rfl⟩:=r1;exact IsiPair.int_bool US
 | is n=>obtain⟨t,rfl⟩:=r1;exact IsiPair.int_str US
 | it n=>obtain⟨t,rfl⟩:=r1;exact IsiPair.int_tuple US
 | bi b=>cases r1;exact IsiPair.bool_int fin
 | bb b=>cases r1;exact IsiPair.bool_bool fin
 | bs b=>cases r1;exact IsiPair.bool_str US
 | bt b=>cases r1;exact IsiPair.bool_tuple US
 | si x=>obtain⟨t,rfl⟩:=r1;exact IsiPair.str_int US
 | sb x=>obtain⟨t,rfl⟩:=r1;exact IsiPair.str_bool US
 | ss x=>obtain⟨t,rfl⟩:=r1;exact IsiPair.str_str fin
 | st x=>obtain⟨t,rfl⟩:=r1;exact IsiPair.str_tuple US
 | ni=>cases r1;exact IsiPair.NoneType_int US
 | nb=>cases r1;exact IsiPair.NoneType_bool US
 | ns=>cases r1;exact IsiPair.NoneType_str US
 | nt=>cases r1;exact IsiPair.NoneType_tuple US
 | li hl=>cases r1;obtain⟨o,e,c⟩:=UI.vK I hl;exact IsiPair.list_int e c US
 | lb hl=>cases r1;obtain⟨o,e,c⟩:=UI.vK I hl;exact IsiPair.list_bool e c US
 | ls hl=>cases r1;obtain⟨o,e,c⟩:=UI.vK I hl;exact IsiPair.list_str e c US
 | lt hl=>cases r1;obtain⟨o,e,c⟩:=UI.vK I hl;exact IsiPair.list_tuple e c US
 | ti hl=>cases r1;obtain⟨o,e,c⟩:=UI.BI I hl;exact IsiPair.tuple_int e c US
 | tb hl=>cases r1;obtain⟨o,e,c⟩:=UI.BI I hl;exact IsiPair.tuple_bool e c US
 | ts hl=>cases r1;obtain⟨o,e,c⟩:=UI.BI I hl;exact IsiPair.tuple_str e c US
 | tt hl=>cases r1;obtain⟨o,e,c⟩:=UI.BI I hl;exact IsiPair.tuple_tuple e c fin
 | di hl=>cases r1;obtain⟨o,e,c⟩:=UI.AZ I hl;exact IsiPair.dict_int e c US
 | db hl=>cases r1;obtain⟨o,e,c⟩:=UI.AZ I hl;exact IsiPair.dict_bool e c US
 | ds hl=>cases r1;obtain⟨o,e,c⟩:=UI.AZ I hl;exact IsiPair.dict_str e c US
end
noncomputable def Hd:Expr->Bool
 | .Starred ..=>true
 | _=>false
theorem FD{e:Expr}{es:List Expr}{env:Env}(h:Hd e=false):starEach (e::es) env=(false,eval e env)::starEach es env:=by
 cases e<;>first|rfl|cases h
section
variable {X:Cx} {e:Expr} {es:List Expr} {te:TE} {t:TA}
theorem aC(ha:PE X e te)(hr:PA X es t)(h:Hd e=false:=by rfl):PA X (e::es) (CQ te t):=Ef ha hr (FD h)
end
noncomputable abbrev xT(prog:Program)(w:World)(A:Around)(env:Env)(R:Result->Shared->Prop):Value->Shared->Prop:=notedBy (model prog w) A env fun e s'=>R (.error e) s'
noncomputable abbrev Ez(ifs:List Expr)(env:Env):Sem Bool:=forIn ifs true fun c r=>if r=true then do let ok <- isTrue c env (eval c env);pure (ForInStep.yield ok) else pure (ForInStep.yield r)
section
variable {prog:Program} {w:World} {A:Around} {R:Result->Shared->Prop} {s:Shared}
theorem BW{elt target iter:Expr}{ifs:List Expr}{scope:Scope}{pos:Pos}{it acc:Value}{env:Env}(I:Nat->Shared->Prop)
    (turn:∀ n s,I n s->wpAny (model prog w) A (pyNext it) (fun r s₁=>match r with
      | none=>R (.ok .next) s₁
      | some v=>wpAny (model prog w) A (letOwnedTupleGo target it v) (fun _ s₁'=>wpAny (model prog w) A (assign target env v) (fun _ s₂ =>
          wpAny (model prog w) A (Ez ifs env) (fun ok s₃ =>
            if ok=true then wpAny (model prog w) A (eval elt env) (fun x s₄ =>
              wpAny (model prog w) A (call (.builtin "list.append") [acc,x]) (fun _ s₅=>∃ m,m < n/\I m s₅) (xT prog w A env R) s₄) (xT prog w A env R) s₃
            else ∃ m,m < n/\I m s₃) (xT prog w A env R) s₂) (xT prog w A env R) s₁') (xT prog w A env R) s₁) (xT prog w A env R) s)
    (n:Nat) (h:I n s):codeAny (model prog w) A (.compLoop (.ListComp elt [⟨target,iter,ifs,0⟩] scope pos) 0 it acc env) R s:=by
  refine codeAny_loop rfl I (fun n s hI=>?_) n h;show wpAny _ A ((compTurn (.ListComp elt [⟨target,iter,ifs,0⟩] scope pos) 0 it acc env).onRaise (fun x=>do noteFrame x env;theTreesLotGoes x)) _ _ s;refine wpAny_noted ?_;rw[compTurn_list];refine wpAny_bind (wpAny_standAt (wpAny_bind (wpAny_mono (turn n s hI) (fun r s₁ h₁=>?_) fun _ _ h'=>h')));cases r with
  | none=>exact wpAny_pure h₁
  | some v =>
    refine wpAny_bind (wpAny_mono h₁ (fun _ s₁' h₁'=>?_) fun _ _ h'=>h');refine wpAny_bind (wpAny_mono h₁' (fun _ s₂ h₂=>wpAny_bind (wpAny_mono h₂ (fun ok s₃ h₃=>?_) fun _ _ h'=>h')) fun _ _ h'=>h');cases ok with
    | false=>exact wpAny_pure ⟨rfl,h₃⟩
    | true =>
      exact wpAny_bind (wpAny_bind (wpAny_mono h₃ (fun x s₄ h₄=>wpAny_bind (wpAny_mono h₄ (fun _ s₅ h₅=>wpAny_pure (wpAny_pure ⟨rfl,h₅⟩)) fun _ _ h'=>h')) fun _ _ h'=>h'))
end
noncomputable def dO(X:Cx)(sc:Scope)(cl:List (Str×Addr))(C:Addr)(N:List Str)(s:Shared)(H:Hp)(ex:List Addr)(pn:List (Addr×Obj)):Cx :=
 {X with env:=compEnvC sc cl C X.env,N:=N,s₀:=s,H₀:=H,outer:=X.stack,ex:=ex,fn:=fun _=>false,pn:=pn}
structure eK(X:Cx)(sc:Scope)(cl:List (Str×Addr))(x:Str)(fr:List Nat)(N:List Str):Prop where
 kind:sc.kind=.function
 xR:∀ y∈sc.names,y.2≠.cell
 names:∀ y∈sc.names,y.2=.local->sc.names.lookup y.1=some .local
 BV:closureFor sc X.env=pure cl
 sub:∀ y c,cl.lookup y=some c->X.env.cells.lookup y=some c
 has:∀ y,((relabel sc X.env).names.lookup y=some .cell\/(relabel sc X.env).names.lookup y=some .free)->∃ c,cl.lookup y=some c
 WV:sc.names.lookup x=some .local
 nd:N.Nodup
 N0:N=x::fr.map fun j=>X.N.getD j x
 Xy:∀ j∈fr,∃ y,X.N[j]?=some y/\X.env.kindOf y=some .cell/\((relabel sc X.env).names.lookup y=some .cell\/(relabel sc X.env).names.lookup y=some .free)
noncomputable def bJ(fr:List Nat)(σ:St):St:=fr.map fun j=>(σ[j]?).join
section
variable {X:Cx} {UE:List (Addr×Obj)} {σ:St} {H:Hp} {s:Shared} {sc:Scope} {cl:List (Str×Addr)} {C:Addr} {x:Str} {fr:List Nat} {N:List Str} {fp:List Addr}
theorem Jg(I:UI X UE σ H s)(S:eK X sc cl x fr N)(hf:∀ b∈fp,qP X UE H b)(W1:∀ b∈fp,b < s.heap.objs.size)(hC:s.heap.objs.size<=C) :
    (dO X sc cl C N s H fp (X.pn++UE)).Ok where
  mod:=I.ok.mod
  kind:=S.kind
  glob:=I.ok.glob
  blt:=I.ok.blt
  above:=hC
  inj:=fun y z c h1 h2=>I.ok.inj y z c (S.sub y c h1) (S.sub z c h2)
  has:=S.has
  cab:=fun _ _ h=>by cases h
  hd:=I.ok.hd
  frames:=I.ok.frames
  Xc:=.inl rfl
  exf:=fun b hb=>⟨Nat.ne_of_lt (Nat.lt_of_lt_of_le (W1 b hb) hC),fun y c e=>(hf b hb).2.2.2.2.1 y c (S.sub y c e)⟩
  bs:=I.bs
  bsz:=Nat.le_trans I.ok.bsz I.sz
  Dp:=fun b o e hb=>by
    rcases(hf b hb).2.2.2.1 with z|z
    · exact I.ok.Dp b o e z
    · exact absurd (Nat.lt_of_lt_of_le (Heap.lt_size e) (Nat.le_trans I.ok.bsz z)) (Nat.lt_irrefl _)
  E2:=fun b hb hm=>by
    rcases List.mem_cons.mp (I.yM b hm) with z|z
    · exact(hf b hb).2.1 z
    · exact(hf b hb).2.2.1 z
  oU:=I.stack
  frf:=I.BE
theorem nostk(I:UI X UE σ H s){b:Addr}(h1:b≠X.env.locals)(h2:b∉X.fs):b∉frs X.stack:=fun hm=>by
 rcases List.mem_cons.mp (I.yM b hm) with z|z
 ·exact h1 z
 ·exact h2 z
theorem Ge(I:UI X UE σ H s)(S:eK X sc cl x fr N)(hf:∀ b∈fp,qP X UE H b)(W1:∀ b∈fp,b < s.heap.objs.size)(hC:s.heap.objs.size<=C){h1:Heap}{t1:Nat}{m0:q0C}
    (hn:h1.Ns C m0) (hk:∀ b o,s.heap.get? b=some o->h1.get? b=some o):UI (dO X sc cl C N s H fp (X.pn++UE)) [] (none::bJ fr σ) H {s with heap:=h1,toks:=t1}:=by
  refine⟨Jg I S hf W1 hC,rfl,I.bare,Un.kept hk,⟨m0,hn,fun i y v e1 e2 e3=>?_⟩,fun y c e=>?_,I.UL.fresh hC,fun y c e=>I.jK y c (S.sub y c e),fun p hp=>?_,I.UL.kept hk,?_⟩
  · have e1':N[i]?=some y:=e1;rw[S.N0] at e1';cases i with
    | zero =>
      have z:(some (none:Option V))=some (some v):=e2;cases z
    | succ j =>
      have Wn:(fr.map fun j=>X.N.getD j x)[j]?=some y:=e1';have Zv:(bJ fr σ)[j]?=some (some v):=e2;unfold bJ at Zv;rw[List.getElem?_map] at Wn Zv;cases q:fr[j]? with
      | none=>rw[q] at Wn;cases Wn
      | some k =>
        rw[q] at Wn Zv;have ey:X.N.getD k x=y:=Option.some.inj Wn;have ev:(σ[k]?).join=some v:=Option.some.inj Zv;obtain⟨y',hy,V3,YY⟩:=S.Xy k (List.mem_of_getElem? q);have eyy:y=y':=by
          rw[<- ey,List.getD_eq_getElem?_getD,hy];rfl
        subst eyy;have ev':σ[k]?=some (some v):=by
          cases z:σ[k]? with
          | none=>rw[z] at ev;cases ev
          | some o =>
            rw[z] at ev;have ev2:o=some v:=ev;rw[ev2]
        obtain⟨m,_,hl⟩:=I.loc;obtain⟨u,r,l⟩:=hl k y v hy ev' (.inr (.inl V3));refine⟨u,r,.inr ⟨YY,?_⟩⟩;rcases l with⟨z,_⟩|⟨_,c,hc,o,ho,hd⟩
        · rw[V3] at z;cases z
        · obtain⟨c',YH⟩:=S.has y YY;have z:=S.sub y c' YH;rw[hc] at z;cases z;exact⟨c,YH,o,hk c o ho,hd⟩
  · obtain⟨v,o,ho,hd⟩:=I.cell y c (S.sub y c e);exact⟨v,o,hk c o ho,hd⟩
  · have VU:p∈X.pn++UE:=by
      have z:p∈(X.pn++UE)++[]:=hp;simpa using z
    obtain⟨e,n,ne,nf,d⟩:=I.pin p VU;exact⟨hk _ _ e,n,Nat.ne_of_lt (Nat.lt_of_lt_of_le (Heap.lt_size e) hC),nostk I ne nf,d⟩
  · show(none::bJ fr σ).length=N.length;rw[S.N0];simp[bJ]
theorem Gd(I:UI X UE σ H s)(hf:∀ b∈fp,qP X UE H b){D:Addr}{pl:List (Addr×Obj)}{σ':St}{H':Hp}{s':Shared}(J:UI (dO X sc cl C N s H fp (X.pn++UE)) pl σ' H' s')
    (hC:s.heap.objs.size<=C) (hD:s.heap.objs.size<=D) (XA:D≠C) (hDn:H' D=none) {xs:List V} {vals:List Value} {k:Nat} (hg:s'.heap.get? D=some {cls:=.type "list",data:=.seq vals.toArray k}) (rv:Vals xs vals) (hz:xs.length<=sizeLine)
    {h':Heap} (hs:Heap.SameBut C s'.heap h'):UI X UE σ (UH H' D (.lst xs)) {s' with heap:=h'}:=by
  have lt:∀ {b:Addr} {o:Obj},s.heap.get? b=some o->b < s.heap.objs.size:=fun e=>Heap.lt_size e;have Xo:∀ {b:Addr} {o:Obj},s.heap.get? b=some o->b≠C:=fun e=>Nat.ne_of_lt (Nat.lt_of_lt_of_le (Heap.lt_size e) hC);have neD:∀ {b:Addr} {o:Obj},s.heap.get? b=some o->b≠D:=fun e=>Nat.ne_of_lt (Nat.lt_of_lt_of_le (Heap.lt_size e) hD);have XX:∀ {b:Addr} {o:HO},H b=some o->b≠D:=fun e=>Nat.ne_of_lt (Nat.lt_of_lt_of_le (I.UL.lt e) hD);have base:Un (frs X.stack) fp H H' s.heap s'.heap:=J.base;have HC:H' C=none:=J.free;refine I.DT (s':={s' with heap:=h'}) (ch:=fp) J.os ⟨fun b o e n hb hx=>?_,fun b o e n hb hx=>?_,fun b o e n hx=>?_,fun b o e hx=>?_,fun b ys e=>?_,fun b o u e=>?_,fun b ps e=>?_⟩ (fun b u e=>?_) J.bare (fun b hb=>?_)
  · exact(hs.2 b (Xo e)).trans (base.keep b o e n hb hx)
  · obtain⟨sl,q⟩:=base.slot b o e n hb hx;exact⟨sl,(hs.2 b (Xo e)).trans q⟩
  · rw[aY (neD e)];exact base.free b o e n hx
  · obtain⟨o',q⟩:=base.there b o e hx;exact⟨o',(hs.2 b (Xo e)).trans q⟩
  · rw[aY (XX e)];exact base.nW b ys e
  · rw[aY (XX e)];exact base.mG b o u e
  · rw[aY (XX e)];exact base.nV b ps e
  · by_cases hb:b=D
    · subst hb;rw[aE] at e;cases e;exact⟨hz,vals,k,rv,(hs.2 b XA).trans hg⟩
    · rw[aY hb] at e;have tC:∀ {c:Addr} {o:HO},H' c=some o->c≠C:=fun q z=>by rw[z,HC] at q;cases q
      have tD:∀ {c:Addr} {o:HO},H' c=some o->c≠D:=fun q z=>by rw[z,hDn] at q;cases q
      refine(J.UL b u e).BD (fun c v hc q=>(hs.2 c ?_).trans q) (fun c q=>by rw[aY (tD q)];exact q) fun c ys q=>by rw[aY (tD q)];exact q
      rcases hc with z|z
      · rw[z];exact tC e
      · exact tC z
  · obtain⟨_,f1,_,f3,f4,f5⟩:=hf b hb;exact⟨f3,f1,f4,f5⟩
end
noncomputable def Yb(Y:Cx)(ifs:List Expr)(t:TT):Prop :=
 ∀(UE:List (Addr×Obj)) (s:Shared) (σ:St) (H:Hp) (Q:Bool->Hp->Prop),UI Y UE σ H s->t σ H Q->wpAny (model Y.prog Y.w) Y.A (Ez ifs Y.env) (TP Y UE σ Q) Y.xe s
noncomputable def LJ:TT:=fun _ H Q=>Q true H
theorem jP{Y:Cx}:Yb Y [] LJ:=fun _ _ _ H _ I h=>wpAny_tests_nil ⟨H,I,h⟩
@[irreducible] def jG(wi:TI)(fr:List Nat)(tc:TT)(te:TE):TE:=fun σ H Q=>wi σ H fun J H1=>∃ W:Nat->Nat->List V->Hp->Prop,(∃ m,W 0 m [] H1)/\∀ i m xs H,W i m xs H->xs.length<=1000000 /\
  ((J.stop i H/\∀ p,H p=none->Q (.ref p) (UH H p (.lst xs))) \/
   (J.go i H/\∀ y H',J.yld i H y H'->tc (some y::bJ fr σ) H' fun b H2=>if b=true then te (some y::bJ fr σ) H2 (fun z H3=>∃ m',m' < m/\W (i+1) m' (xs++[z]) H3) else ∃ m',m' < m/\W (i+1) m' xs H2))
section
variable {X:Cx} {sc:Scope} {cl:List (Str×Addr)} {x:Str} {fr:List Nat} {N:List Str} {elt iter:Expr} {px pos:Pos} {ifs:List Expr} {wi:TI} {tc:TT} {te:TE}
theorem BX{tg:Expr}{g:TG}{τ0:St}{O:St->Prop}(hc:X.calm=true)(hx:∀ e s,¬ X.xe e s)(NC:∀ y∈sc.names,y.2≠.cell)(KD:sc.kind=.function)(SB:∀ y c,cl.lookup y=some c->X.env.cells.lookup y=some c)(hpg:∀ C s H ex pn,PG (dO X sc cl C N s H ex pn) tg g)
    (hb:∀ C s H ex pn,Yb (dO X sc cl C N s H ex pn) ifs tc/\PE (dO X sc cl C N s H ex pn) elt te)
    {UE:List (Addr×Obj)} {σ:St} {H:Hp} {s:Shared} {it:Addr} {fp:List Addr} {tn:Nat->Heap->Prop} {J:It} {Q:VK} {RR:Value->Addr->Result->Shared->Prop} {E:q0A}
    (I:UI X UE σ H s) (T:Turn X.prog X.w X.K tg J fp it tn) (st:tn 0 s.heap) (hf:∀ b∈fp,qP X UE H b)
    (aaN:∀(C:Addr) (h1:Heap) (t1:Nat) (m0:q0C),(∀ b∈fp,b < s.heap.objs.size)->s.heap.objs.size<=C->h1.Ns C m0->(∀ b o,s.heap.get? b=some o->h1.get? b=some o)->UI (dO X sc cl C N s H fp (X.pn++UE)) [] τ0 H {s with heap:=h1,toks:=t1}) (ok0:O τ0)
    {W:Nat->Nat->List V->Hp->Prop} {m0:Nat} (w0:W 0 m0 [] H)
    (turn:∀ i m xs H,W i m xs H->xs.length<=1000000 /\
      ((J.stop i H/\∀ p,H p=none->Q (.ref p) (UH H p (.lst xs))) \/
       (J.go i H/\∀ y H',J.yld i H y H'->∀ σ1,O σ1->g y σ1 H' fun σ2 H1=>O σ2/\tc σ2 H1 fun b H2=>if b=true then te σ2 H2 (fun z H3=>∃ m',m' < m/\W (i+1) m' (xs++[z]) H3) else ∃ m',m' < m/\W (i+1) m' xs H2)))
    (fin:∀(D C:Addr) (s':Shared) (m':q0C) (H':Hp),s'.heap.Ns C m'->qP X UE H' C->(∀ h',Heap.SameBut C s'.heap h'->UI X UE σ H' {s' with heap:=h'})->Q (.ref D) H'->RR (.ref D) C (.ok .next) s') :
    wpAny (model X.prog X.w) X.A (newList []) (fun acc s₃=>wpAny (model X.prog X.w) X.A (newFunctionEnv sc X.env.globals cl [] X.env.qual none .none (some X.env)) (fun Wm s₄ =>
      codeAny (model X.prog X.w) X.A (.compStart (.ListComp elt [⟨tg,iter,ifs,0⟩] sc pos) 0 (.ref it) acc {Wm with scope:=relabel sc X.env}) (RR acc Wm.locals) s₄) E s₃) E s:=by
  refine wpAny_newObj_type (wpAny_newFunctionEnv NC (by intro y hy;simp at hy) (fun h₁ XG W7=>?_) KD);dsimp only at XG W7 ⊢;generalize hH2:s.heap.push {cls:=.type "list",dict:=none,data:=.seq ([]:List Value).toArray}=G2 at XG W7 ⊢;have hCs:G2.objs.size=s.heap.objs.size+1:=by rw[<- hH2,Heap.size_push]
  have XA:s.heap.objs.size≠G2.objs.size:=by rw[hCs];exact Nat.ne_of_lt (Nat.lt_succ_self _)
  have hC:s.heap.objs.size<=G2.objs.size:=by rw[hCs];exact Nat.le_succ _
  have below:∀ b,b < s.heap.objs.size->b≠G2.objs.size:=fun b hb=>by rw[hCs];exact Nat.ne_of_lt (Nat.lt_succ_of_lt hb)
  have old:∀ b o,s.heap.get? b=some o->h₁.get? b=some o:=fun b o e=>W7.extBut b o (below b (Heap.lt_size e)) (Heap.get?_push_of_some _ (hH2▸Heap.get?_push_of_some _ e));have hD1:h₁.get? s.heap.objs.size=some {cls:=.type "list",data:=.seq ([]:List Value).toArray 0}:=W7.extBut _ _ XA (Heap.get?_push_of_some _ (hH2▸Heap.get?_push_size _ rfl));have W1:∀ b∈fp,b < s.heap.objs.size:=fun b hbm=>by
    obtain⟨o,e,_⟩:=T.obj 0 s.heap st b hbm;exact Heap.lt_size e
  have hDn:H s.heap.objs.size=none:=I.UL.fresh (Nat.le_refl _)
  -- what stays true of the made list's place
  have ZS:s.heap.objs.size∉frs X.stack:=fun hm=>by
    rcases List.mem_cons.mp (I.yM _ hm) with z|z
    · exact absurd I.lt (by rw[<- z];exact Nat.lt_irrefl _)
    · exact I.Rt (Nat.le_refl _) z
  have Ym:∀ y c,cl.lookup y=some c->c≠s.heap.objs.size:=fun y c e z=>by
    obtain⟨v,q⟩:=I.cell y c (SB y c e);exact absurd q.lt (by rw[z];exact Nat.lt_irrefl _)
  have ZR:∀ p∈X.pn++UE,p.1≠s.heap.objs.size:=fun p hp z=>absurd (Heap.lt_size (I.pin p hp).1) (by rw[z];exact Nat.lt_irrefl _);have Dfp:s.heap.objs.size∉fp:=fun hm=>Nat.lt_irrefl _ (W1 _ hm);have loop:∀ s₃:Shared,s₃={s with heap:=h₁,toks:=s.toks+([]:List (Str×Value)).length} ->
      codeAny (model X.prog X.w) X.A (.compLoop (.ListComp elt [⟨tg,iter,ifs,0⟩] sc pos) 0 (.ref it) (.ref s.heap.objs.size) (compEnvC sc cl G2.objs.size X.env)) (RR (.ref s.heap.objs.size) G2.objs.size) s₃:=by
    rintro s₃ rfl;have I0:=aaN G2.objs.size h₁ (s.toks+([]:List (Str×Value)).length) _ W1 hC XG old;refine BW (fun n s'=>∃(i:Nat) (xs:List V) (vals:List Value) (k:Nat) (v0:St) (H':Hp),UI (dO X sc cl G2.objs.size N s H fp (X.pn++UE)) [] v0 H' s'/\O v0/\tn i s'.heap/\(∀ b∈fp,H' b=none) /\
      s'.heap.get? s.heap.objs.size=some {cls:=.type "list",data:=.seq vals.toArray k}/\Vals xs vals/\H' s.heap.objs.size=none/\W i n xs H') ?_ m0
      ⟨0,[],[],0,τ0,H,I0,ok0,T.keep _ _ _ st fun b _ o e=>old b o e,fun b hb=>(hf b hb).1,hD1,.nil,hDn,w0⟩
    rintro n s1 ⟨i,xs,vals,k,v0,H1,I1,ok1,st1,fr1,hg1,ZN,aaF,w1⟩;have hlen:=ZN.length;obtain⟨hz,step⟩:=turn i n xs H1 w1;have hz2:xs.length<=sizeLine:=Nat.le_trans hz (by decide);have VX:∀ {H':Hp} {pl:List (Addr×Obj)},(∀ b∈fp,H' b=none)->(∀ p∈pl,p.1=s.heap.objs.size)->∀ b∈fp,qP (dO X sc cl G2.objs.size N s H fp (X.pn++UE)) pl H' b:=fun {H' pl} hn VD b hb =>
      ⟨hn b hb,below b (W1 b hb),nostk I (hf b hb).2.1 (hf b hb).2.2.1,.inl hb,fun y c e=>(hf b hb).2.2.2.2.1 y c (SB y c e),fun p hp z=>by
        rcases List.mem_append.mp hp with q|q
        · exact(hf b hb).2.2.2.2.2 p q z
        · exact Dfp (by rw[<- VD p q,z];exact hb)⟩
    have I1':UI (dO X sc cl G2.objs.size N s H fp (X.pn++UE)) [(s.heap.objs.size,{cls:=.type "list",data:=.seq vals.toArray k})] v0 H1 s1:=I1.rX fun p hp=>by
      have e:p=(s.heap.objs.size,{cls:=.type "list",data:=.seq vals.toArray k}):=by simpa using hp
      subst e;exact⟨hg1,aaF,XA,ZS,fun v z=>by cases z⟩
    rcases step with⟨stop,hq⟩|⟨go,step⟩
    · refine thn (T.done (dO X sc cl G2.objs.size N s H fp (X.pn++UE)) rfl rfl rfl hc i [(s.heap.objs.size,{cls:=.type "list",data:=.seq vals.toArray k})] s1 _ H1 _ I1' (VX fr1 fun p hp=>by
        have e:p=(s.heap.objs.size,{cls:=.type "list",data:=.seq vals.toArray k}):=by simpa using hp
        rw[e]) st1 stop) fun r s2 ⟨hr,I2⟩=>?_
      subst hr;obtain⟨g2,n2,_⟩:=I2.pin (s.heap.objs.size,{cls:=.type "list",data:=.seq vals.toArray k}) (List.mem_append_right _ (by simp));obtain⟨m2,Yh,_⟩:=I2.loc;have hCn:UH H1 s.heap.objs.size (.lst xs) G2.objs.size=none:=by
        rw[aY (Ne.symm XA)];exact I2.free
      exact fin s.heap.objs.size G2.objs.size s2 m2 _ Yh (I.E4 hC hCn) (fun h' YT=>Gd I hf I2 hC (Nat.le_refl _) XA n2 g2 ZN hz2 YT) (hq _ n2)
    · refine thn (T.item (dO X sc cl G2.objs.size N s H fp (X.pn++UE)) rfl rfl rfl hc i [(s.heap.objs.size,{cls:=.type "list",data:=.seq vals.toArray k})] s1 _ H1 _ I1' (VX fr1 fun p hp=>by
        have e:p=(s.heap.objs.size,{cls:=.type "list",data:=.seq vals.toArray k}):=by simpa using hp
        rw[e]) st1 go) fun r s2 ⟨u,hr,h2⟩=>?_
      subst hr;refine thn h2 fun _ s3 ⟨y,H3,I3,r3,y3,Yl,Zy⟩=>?_;have I3':=I3.pinned (VX Zy fun p hp=>by
        have e:p=(s.heap.objs.size,{cls:=.type "list",data:=.seq vals.toArray k}):=by simpa using hp
        rw[e]) (T.obj _ _ Yl)
      -- what the UE say again behind each part
      have back:∀ {σ9:St} {H9:Hp} {s9:Shared},UI (dO X sc cl G2.objs.size N s H fp (X.pn++UE)) ([(s.heap.objs.size,{cls:=.type "list",data:=.seq vals.toArray k})]++yA fp s3.heap) σ9 H9 s9 ->
          tn (i+1) s9.heap/\(∀ b∈fp,H9 b=none)/\s9.heap.get? s.heap.objs.size=some {cls:=.type "list",data:=.seq vals.toArray k}/\H9 s.heap.objs.size=none:=fun {σ9 H9 s9} I9=>by
        refine⟨T.keep _ _ _ Yl fun b hb o e=>(I9.pin (b,o) (List.mem_append_right _ (List.mem_append_right _ (lI hb e)))).1,fun b hb=>?_,?_⟩
        · obtain⟨o,e,d⟩:=T.obj _ _ Yl b hb;exact(I9.pin (b,o) (List.mem_append_right _ (List.mem_append_right _ (lI hb e)))).2.1
        · obtain⟨a1,a2,_⟩:=I9.pin (s.heap.objs.size,{cls:=.type "list",data:=.seq vals.toArray k}) (List.mem_append_right _ (List.mem_append_left _ (by simp)));exact⟨a1,a2⟩
      have noX:∀ e s',(dO X sc cl G2.objs.size N s H fp (X.pn++UE)).xe e s'->xT X.prog X.w X.A (compEnvC sc cl G2.objs.size X.env) (RR (.ref s.heap.objs.size) G2.objs.size) e s':=fun e s' z=>(hx e s' z).elim;refine wpAny_mono (hpg _ _ _ _ _ _ s3 _ H3 y u _ I3' r3 (step y H3 y3 v0 ok1)) (fun _ s4 ⟨σ4,H4,I4,ok4,hstep⟩=>?_) noX;obtain⟨hbT,hbE⟩:=hb G2.objs.size s H fp (X.pn++UE);refine wpAny_mono (hbT _ s4 _ H4 _ I4 hstep) (fun ok s5 ⟨H5,I5,q5⟩=>?_) noX;cases ok with
      | false =>
        rw[if_neg Bool.false_ne_true];have q5':∃ m',m' < n/\W (i+1) m' xs H5:=q5;obtain⟨m',hm,w5⟩:=q5';obtain⟨b1,b2,b3,b4⟩:=back I5;exact⟨m',hm,i+1,xs,vals,k,σ4,H5,I5.rX (fun p hp=>absurd hp (by simp)),ok4,b1,b2,b3,ZN,b4,w5⟩
      | true =>
        rw[if_pos rfl];refine wpAny_mono (hbE _ s5 _ H5 _ I5 q5) (fun z s6 ⟨v6,H6,I6,r6,q6⟩=>?_) noX;obtain⟨m',hm,w6⟩:=q6;obtain⟨b1,b2,b3,b4⟩:=back I6;refine call_meets F.slot_list_append ⟨_,b3,rfl⟩ F.entry_list_append (F.args_list_append_2 _ _) (PySem.list_append s.heap.objs.size vals.toArray k z (by rw[List.size_toArray];omega)) ⟨b3,?_⟩;have q7:=PySem.IsL.update b3 (fun a:Array Value=>a.push z);have YR:vals.toArray.push z=(vals++[z]).toArray:=by simp
        rw[YR] at q7;have I6':UI (dO X sc cl G2.objs.size N s H fp (X.pn++UE)) [] σ4 H6 s6:=I6.rX (fun p hp=>absurd hp (by simp));have others:∀ b o,b≠s.heap.objs.size->s6.heap.get? b=some o->(s6.heap.update s.heap.objs.size (Obj.mapSeq fun a=>a.push z)).get? b=some o:=fun b o YF e=>(Heap.get?_update_other _ _ (Ne.symm YF)).trans e;refine⟨m',hm,i+1,xs++[v6],vals++[z],_,σ4,H6,I6'.turned (it:=s.heap.objs.size) others b4 XA (.inr (Nat.le_refl _)) Ym (fun p hp z'=>?_),ok4,T.keep _ _ _ b1 fun b YF o e=>others b o (fun z'=>Dfp (by rw[<- z'];exact YF)) e,b2,q7,ZN.append (.cons r6 .nil),b4,w6⟩;have VU:p∈X.pn++UE:=by
          have z2:p∈(X.pn++UE)++[]:=hp;simpa using z2
        exact ZR p VU z'
  exact codeAny_compStart_list (loop _ rfl) (T.self _ _ _ _ _ (T.keep _ _ _ st fun b _ o e=>old b o e) (loop _ rfl))
theorem wD(hc:X.calm=true)(hx:∀ e s,¬ X.xe e s)(S:eK X sc cl x fr N)
    (hb:∀ C s H ex pn,Yb (dO X sc cl C N s H ex pn) ifs tc/\PE (dO X sc cl C N s H ex pn) elt te)
    {UE:List (Addr×Obj)} {σ:St} {H:Hp} {s:Shared} {it:Addr} {fp:List Addr} {tn:Nat->Heap->Prop} {J:It} {Q:VK} {RR:Value->Addr->Result->Shared->Prop} {E:q0A}
    (I:UI X UE σ H s) (T:Turn X.prog X.w X.K (.Name x px) J fp it tn) (st:tn 0 s.heap) (hf:∀ b∈fp,qP X UE H b)
    {W:Nat->Nat->List V->Hp->Prop} {m0:Nat} (w0:W 0 m0 [] H)
    (turn:∀ i m xs H,W i m xs H->xs.length<=1000000 /\
      ((J.stop i H/\∀ p,H p=none->Q (.ref p) (UH H p (.lst xs))) \/
       (J.go i H/\∀ y H',J.yld i H y H'->tc (some y::bJ fr σ) H' fun b H2=>if b=true then te (some y::bJ fr σ) H2 (fun z H3=>∃ m',m' < m/\W (i+1) m' (xs++[z]) H3) else ∃ m',m' < m/\W (i+1) m' xs H2)))
    (fin:∀(D C:Addr) (s':Shared) (m':q0C) (H':Hp),s'.heap.Ns C m'->qP X UE H' C->(∀ h',Heap.SameBut C s'.heap h'->UI X UE σ H' {s' with heap:=h'})->Q (.ref D) H'->RR (.ref D) C (.ok .next) s') :
    wpAny (model X.prog X.w) X.A (newList []) (fun acc s₃=>wpAny (model X.prog X.w) X.A (newFunctionEnv sc X.env.globals cl [] X.env.qual none .none (some X.env)) (fun Wm s₄ =>
      codeAny (model X.prog X.w) X.A (.compStart (.ListComp elt [⟨.Name x px,iter,ifs,0⟩] sc pos) 0 (.ref it) acc {Wm with scope:=relabel sc X.env}) (RR acc Wm.locals) s₄) E s₃) E s :=
  BX (τ0:=none::bJ fr σ) (O:=fun σ1=>∃ v0,σ1=v0::bJ fr σ) (g:=uN 0) hc hx S.xR S.kind S.sub (fun C s H ex pn=>lN (i:=0) S.nd (show N[0]?=some x by rw[S.N0];rfl) (.inl (lookup_relabel_local S.WV)) (.inr (lookup_relabel_local S.WV))) hb I T st hf
    (fun C h1 t1 m0 W1 hC hn hk=>Ge I S hf W1 hC hn hk) ⟨_,rfl⟩ w0
    (fun i m xs H w=>let ⟨l,z⟩:=turn i m xs H w;⟨l,z.imp id fun⟨g,h⟩=>⟨g,fun y H' hy σ1 ⟨v0,e⟩=>by subst e;exact⟨⟨_,rfl⟩,h y H' hy⟩⟩⟩) fin
theorem lM(hc:X.calm=true)(hx:∀ e s,¬ X.xe e s)(S:eK X sc cl x fr N)(hi:PI X (.Name x px) iter wi)
    (hb:∀ C s H ex pn,Yb (dO X sc cl C N s H ex pn) ifs tc/\PE (dO X sc cl C N s H ex pn) elt te)
    (hs:∀ v,foldedSetIterable iter X.env v=pure v:=by intro _;rfl):PE X (.ListComp elt [⟨.Name x px,iter,ifs,0⟩] sc pos) (jG wi fr tc te):=by
  intro UE s σ H Q I h;unfold jG at h;rw[eval_ListComp];refine wpAny_comprehension_free (use:=none) rfl hs S.BV S.kind S.names ?_;refine thn (hi UE s σ H _ I h) fun v s1 h1=>thn h1 fun ZI s2 h2=>?_;obtain⟨it,fp,tn,J,H2,e,I2,T,Zb,f2,W,⟨m0,w0⟩,turn⟩:=h2;subst e;refine wD (RR:=fun acc C=>compPost (model X.prog X.w) X.A X.xe none (EP X UE σ Q) acc C) hc hx S hb I2 T Zb f2 w0 turn ?_;intro D C s' m' H' hn _ XE q;exact⟨m',hn,fun h' YT=>⟨.ref D,H',XE h' YT,rfl,q⟩⟩
end
theorem eK.m8{X:Cx}{sc:Scope}{x:Str}(kind:sc.kind=.function)(nc:(sc.names.all fun y=>y.2 !=.cell&&y.2 !=.free)=true)
    (nm:(sc.names.all fun y=>!(y.2==.local)||sc.names.lookup y.1==some .local)=true) (WV:sc.names.lookup x=some .local):eK X sc [] x [] [x] where
  kind:=kind
  xR:=fun y hy e=>by
    have h:=List.all_eq_true.mp nc y hy;rw[e] at h;exact absurd h (by decide)
  names:=fun y hy e=>by
    have h:=List.all_eq_true.mp nm y hy;rw[e] at h;simpa using h
  BV:=closureFor_none fun y hy e=>by
    have h:=List.all_eq_true.mp nc y hy;rw[e] at h;exact absurd h (by decide)
  sub:=fun y c h=>by cases h
  has:=fun y h=>by
    exfalso;have key:∀ l:List (Str×NameKind),(l.all fun y=>y.2 !=.cell&&y.2 !=.free)=true->∀ k,(l.map fun(n,k)=>if (k==NameKind.free&&X.env.scope.kind==.function&&X.env.kindOf n==some .cell) then (n,NameKind.cell) else (n,k)).lookup y=some k->k≠.cell/\k≠.free:=by
      intro l
      induction l with
      | nil=>intro _ k e;cases e
      | cons p r ih =>
        obtain⟨n,kk⟩:=p;intro ha k e;rw[List.all_cons,Bool.and_eq_true,Bool.and_eq_true] at ha;obtain⟨⟨h1,h2⟩,h3⟩:=ha;have h2':(kk==NameKind.free)=false:=by simpa using h2
        rw[List.map_cons] at e;dsimp only at e;rw[h2',Bool.false_and,Bool.false_and,if_neg Bool.false_ne_true,List.lookup_cons] at e;cases q:(y==n) with
        | true =>
          rw[q] at e;have e':kk=k:=Option.some.inj e;subst e';exact⟨by simpa using h1,by simpa using h2⟩
        | false =>
          rw[q] at e;exact ih h3 k e
    rcases h with h|h
    · exact(key sc.names nc _ h).1 rfl
    · exact(key sc.names nc _ h).2 rfl
  WV:=WV
  nd:=by simp
  N0:=rfl
  Xy:=fun j hj=>by cases hj
section
variable {X:Cx}
theorem Fp:iM X (compareOp .LtE) (fun x y H Q=>∃ i j,x=.str i/\y=.str j/\Q (.bl (!decide (j.cps.toList < i.cps.toList))) H):=by
 intro UE s σ H x y v u Q I rx ry h;obtain⟨i,j,rfl,rfl,q⟩:=h;obtain⟨t,rfl⟩:=rx;obtain⟨t',rfl⟩:=ry;exact PySem.P.le_str (bX I q rfl)
theorem OZ:IV X (fun x lo hi H Q=>∃ z,x=.str z/\z.length<=sizeLine/\Q (.str (Txt.slice z lo hi)) H):=by
 intro UE s σ H x v vl vu lo hi sl Q I rx hs pl pu h;obtain⟨z,rfl,hz,q⟩:=h;obtain⟨t,rfl⟩:=rx;have fin:∀ t' k,EP X UE σ Q (.str (Txt.slice z lo hi) t') {s with toks:=k}:=fun t' k=>⟨.str _,H,I.tok _,⟨_,rfl⟩,q⟩;refine⟨"str",_,F.slot_str_getitem.lookup,typeIs_str s z t,?_⟩;cases pl with
 | none =>
  cases pu with
  | none=>exact wpAny_getItem_str_slice (l:=none) (u:=none) (st:=none) hs rfl (post_val_or_str ⟨Nat.le_trans (Txt.slice_le z _ _) hz,fin⟩)
  | int j uj=>exact wpAny_getItem_str_slice (l:=none) (u:=some (j,uj)) (st:=none) hs rfl (post_val_or_str ⟨Nat.le_trans (Txt.slice_le z _ _) hz,fin⟩)
 | int i ui =>
  cases pu with
  | none=>exact wpAny_getItem_str_slice (l:=some (i,ui)) (u:=none) (st:=none) hs rfl (post_val_or_str ⟨Nat.le_trans (Txt.slice_le z _ _) hz,fin⟩)
  | int j uj=>exact wpAny_getItem_str_slice (l:=some (i,ui)) (u:=some (j,uj)) (st:=none) hs rfl (post_val_or_str ⟨Nat.le_trans (Txt.slice_le z _ _) hz,fin⟩)
theorem FZ(hc:X.calm=true):eP X (.builtin "all") (fun xs H Q=>∃(p:Addr) (bs:List Bool),xs=[.ref p]/\dU X.K H p (bs.map V.bl)/\Q (.bl (bs.all id)) H):=by
 intro UE s σ H xs us Q I r h;obtain⟨p,bs,rfl,hq,q⟩:=h;obtain⟨u,rfl,ru⟩:=vals1 r;cases ru;obtain⟨UJ,rv,pl,hz⟩:=I.list hq;have hl:=rv.length;rw[List.length_map] at hl;have plL:=pl.isList;have Vg:p < s.heap.objs.size:=by obtain⟨_,e,_⟩:=plL;exact Heap.lt_size e
 refine call_all_walk (wpAny_pyIter_list plL ?_);refine⟨s.heap.objs.size,[s.heap.objs.size,p],[s.heap.objs.size],UJ.toArray.size,_,_,fun i=>(bs[i]?).getD true,rfl,Walks.list (A:=X.A.in1) (I.ok.hd hc) _ p (Nat.ne_of_lt Vg) UJ.toArray,
  ⟨⟨_,Heap.get?_push_size _ rfl,rfl,rfl⟩,plL.push _⟩,fun i v s' Q' E' hP hQ=>?_,fun h' tk hk=>?_⟩
 ·have YB:UJ[i]?=some v:=by simpa using hP
  have hi:i < UJ.length:=(List.getElem?_eq_some_iff.mp YB).1;have e1:bs[i]?=some bs[i]:=List.getElem?_eq_getElem (by omega);obtain⟨u1,g1,s1⟩:=rv.get (i:=i) (x:=V.bl bs[i]) (by rw[List.getElem?_map,e1]<;>rfl);rw[YB] at g1;cases g1;cases s1;simp only[e1,Option.getD_some] at hQ;exact wpAny_truthy_bool hQ
 ·have e:((List.range UJ.toArray.size).all fun i=>(bs[i]?).getD true)=bs.all id:=by
   rw[List.size_toArray,<- hl];rw[Bool.eq_iff_iff,List.all_eq_true,List.all_eq_true];constructor
   ·intro h x hx;obtain⟨i,hi,e⟩:=List.getElem_of_mem hx;have:=h i (List.mem_range.mpr hi);rw[List.getElem?_eq_getElem hi,Option.getD_some,e] at this;exact this
   ·intro h i hi;have hi':=List.mem_range.mp hi;rw[List.getElem?_eq_getElem hi',Option.getD_some];exact h _ (List.getElem_mem hi')
  rw[e];exact⟨.bl (bs.all id),H,I.kept (fun b o eb=>hk b o (fun hm=>by rw[List.mem_singleton.mp hm] at eb;exact Nat.lt_irrefl _ (Heap.lt_size eb)) (Heap.get?_push_of_some _ eb)),rfl,q⟩
end
noncomputable def Xs(x:Str):It:=⟨fun i _=>i < x.cps.size,fun i H y H'=>H'=H/\∃ c,x.cps[i]?=some c/\y=.str ⟨#[c]⟩,fun i _=>x.cps.size<=i⟩
theorem CT{P:Program}{w:World}{K:q0B}{tg:Expr}{T:String}(hT:T = "str_ascii_iterator"\/T = "str_iterator")(x:Str)(t:Tok)(it:Addr) :
    Turn P w K tg (Xs x) [it] it (fun i h=>i<=x.cps.size/\h.IsStrIter it T x t i) where
  mem:=by simp
  obj:=fun i h st b hb=>by
    have e:b=it:=by simpa using hb
    subst e;obtain⟨o,e,c,d⟩:=st.2;exact⟨o,e,fun v z=>by rw[d] at z;cases z⟩
  keep:=fun i h h' st k=>⟨st.1,let ⟨o,e,r⟩:=st.2;⟨o,k it (by simp) o e,r⟩⟩
  item:=by
    intro X hP hw hK hc i UE s σ H E I hf st hg;subst hP hw hK;obtain⟨f0,f1,f2,f3,f4,f5⟩:=hf it (by simp);have W:Walks X.prog X.w X.A it [it] [it] x.cps.size (SignAt x) (fun i h=>h.IsStrIter it T x t i):=by
      rcases hT with e|e
      · subst e;exact Walks.strAscii (I.ok.hd hc) it x t
      · subst e;exact Walks.strWide (I.ok.hd hc) it x t
    refine W.item i s _ _ hg st.2 fun v h' tk hv WG kk=>?_;obtain⟨c,u,hcx,rfl⟩:=hv;have I1:UI X UE σ H {s with heap:=h',toks:=tk}:=I.turned (fun b o hb e=>kk b o (by simpa using hb) e) f0 f1 f3 f4 f5;obtain⟨o,eo,co,d⟩:=id WG;have hn:["enumerate","zip","dict_itemiterator","dict_reverseitemiterator","odict_iterator","itertools.zip_longest","itertools.pairwise"].contains T=false:=by
      rcases hT with e|e<;>subst e<;>decide
    exact⟨_,rfl,D5 (s:={s with heap:=h',toks:=tk}) (n:=T) eo co d hn ⟨.str ⟨#[c]⟩,H,I1,⟨_,rfl⟩,⟨rfl,c,hcx,rfl⟩,⟨hg,WG⟩,fun b hb=>(hf b hb).1⟩⟩
  done:=by
    intro X hP hw hK hc i UE s σ H E I hf st hg;subst hP hw hK;obtain⟨f0,f1,f2,f3,f4,f5⟩:=hf it (by simp);have W:Walks X.prog X.w X.A it [it] [it] x.cps.size (SignAt x) (fun i h=>h.IsStrIter it T x t i):=by
      rcases hT with e|e
      · subst e;exact Walks.strAscii (I.ok.hd hc) it x t
      · subst e;exact Walks.strWide (I.ok.hd hc) it x t
    have ei:i=x.cps.size:=Nat.le_antisymm st.1 hg;subst ei;exact W.done s _ _ st.2 fun h' tk kk=>⟨rfl,I.turned (fun b o hb e=>kk b o (by simpa using hb) e) f0 f1 f3 f4 f5⟩
  self:=fun A i s Q E st h=>by
    rcases hT with e|e
    · subst e;exact wpAny_pyIter_striter_ascii st.2 h
    · subst e;exact wpAny_pyIter_striter_wide st.2 h
section
variable {X:Cx} {tg:Expr}
noncomputable def Od(tl:TE):TI:=fun σ H R=>tl σ H fun x H1=>∃ z,x=.str z/\R (Xs z) H1
theorem HJ{l:Expr}{tl:TE}(hl:PE X l tl):PI X tg l (Od tl):=by
 intro UE s σ H R I h;refine thn (hl UE s σ H _ I h) fun v s1 ⟨x,H1,I1,r1,q1⟩=>?_;obtain⟨z,e,q⟩:=q1;subst e;obtain⟨t,rfl⟩:=r1;cases ha:z.cps.all (· < 128) with
 | true =>
  refine wpAny_pyIter_ascii ha ⟨s1.heap.objs.size,[s1.heap.objs.size],_,_,H1,rfl,I1.kept (t':=s1.toks) fun b o e=>Heap.get?_push_of_some _ e,CT (.inl rfl) z t _,⟨Nat.zero_le _,_,Heap.get?_push_size _ rfl,rfl,rfl⟩,fun b hb=>?_,q⟩;have e:b=s1.heap.objs.size:=by simpa using hb
  subst e;exact I1.E4 (Nat.le_refl _) (I1.UL.fresh (Nat.le_refl _))
 | false =>
  refine wpAny_pyIter_wide ha ⟨s1.heap.objs.size,[s1.heap.objs.size],_,_,H1,rfl,I1.kept (t':=s1.toks) fun b o e=>Heap.get?_push_of_some _ e,CT (.inr rfl) z t _,⟨Nat.zero_le _,_,Heap.get?_push_size _ rfl,rfl,rfl⟩,fun b hb=>?_,q⟩;have e:b=s1.heap.objs.size:=by simpa using hb
  subst e;exact I1.E4 (Nat.le_refl _) (I1.UL.fresh (Nat.le_refl _))
end
noncomputable def cW(n:Nat)(Pv:Nat->List V->Hp->Prop)(i m:Nat)(xs:List V)(H:Hp):Prop:=m=n - i/\i<=n/\Pv i xs H
theorem cW.next{n:Nat}{Pv:Nat->List V->Hp->Prop}{i:Nat}{xs:List V}{H:Hp}(hi:i < n)(p:Pv (i+1) xs H):∃ m',m' < n - i/\cW n Pv (i+1) m' xs H:=⟨n - (i+1),by omega,rfl,hi,p⟩
section
variable {fr:List Nat} {tc:TT} {te:TE} {σ:St} {H:Hp} {Q:VK}
theorem ES{K:q0B}{a:Addr}{ys:List V}(Pv:Nat->List V->Hp->Prop)(h0:Pv 0 [] H)(hz:∀ i xs H,Pv i xs H->xs.length<=1000000)(hl:∀ i xs H,Pv i xs H->dU K H a ys)
    (hs:∀ i y xs H,i < ys.length->ys[i]?=some y->Pv i xs H->tc (some y::bJ fr σ) H fun b H2=>if b=true then te (some y::bJ fr σ) H2 (fun z H3=>∃ m',m' < ys.length - i/\cW ys.length Pv (i+1) m' (xs++[z]) H3) else ∃ m',m' < ys.length - i/\cW ys.length Pv (i+1) m' xs H2)
    (hd:∀ xs H,Pv ys.length xs H->∀ p,H p=none->Q (.ref p) (UH H p (.lst xs))) :
    ∃ W:Nat->Nat->List V->Hp->Prop,(∃ m,W 0 m [] H)/\∀ i m xs H,W i m xs H->xs.length<=1000000 /\
      (((Wc K a).stop i H/\∀ p,H p=none->Q (.ref p) (UH H p (.lst xs))) \/
       ((Wc K a).go i H/\∀ y H',(Wc K a).yld i H y H'->tc (some y::bJ fr σ) H' fun b H2=>if b=true then te (some y::bJ fr σ) H2 (fun z H3=>∃ m',m' < m/\W (i+1) m' (xs++[z]) H3) else ∃ m',m' < m/\W (i+1) m' xs H2)):=by
  refine⟨cW ys.length Pv,⟨ys.length,by simp,Nat.zero_le _,h0⟩,?_⟩;rintro i m xs H ⟨rfl,hi,p⟩;refine⟨hz i xs H p,?_⟩;have q:=hl i xs H p;by_cases Vg:i < ys.length
  · refine .inr ⟨⟨ys,ys[i],q,by simp[Vg]⟩,fun y H' yy=>?_⟩;obtain⟨e,yy⟩:=yy;subst e;exact hs i y xs _ Vg (yy ys q) p
  · have e:i=ys.length:=by omega
    subst e;exact .inl ⟨⟨ys,q,Nat.le_refl _⟩,hd xs H p⟩
theorem Gf{x:Str}(Pv:Nat->List V->Hp->Prop)(h0:Pv 0 [] H)(hz:∀ i xs H,Pv i xs H->xs.length<=1000000)
    (hs:∀ i c xs H,i < x.cps.size->x.cps[i]?=some c->Pv i xs H->tc (some (.str ⟨#[c]⟩)::bJ fr σ) H fun b H2=>if b=true then te (some (.str ⟨#[c]⟩)::bJ fr σ) H2 (fun z H3=>∃ m',m' < x.cps.size - i/\cW x.cps.size Pv (i+1) m' (xs++[z]) H3) else ∃ m',m' < x.cps.size - i/\cW x.cps.size Pv (i+1) m' xs H2)
    (hd:∀ xs H,Pv x.cps.size xs H->∀ p,H p=none->Q (.ref p) (UH H p (.lst xs))) :
    ∃ W:Nat->Nat->List V->Hp->Prop,(∃ m,W 0 m [] H)/\∀ i m xs H,W i m xs H->xs.length<=1000000 /\
      (((Xs x).stop i H/\∀ p,H p=none->Q (.ref p) (UH H p (.lst xs))) \/
       ((Xs x).go i H/\∀ y H',(Xs x).yld i H y H'->tc (some y::bJ fr σ) H' fun b H2=>if b=true then te (some y::bJ fr σ) H2 (fun z H3=>∃ m',m' < m/\W (i+1) m' (xs++[z]) H3) else ∃ m',m' < m/\W (i+1) m' xs H2)):=by
  refine⟨cW x.cps.size Pv,⟨x.cps.size,by simp,Nat.zero_le _,h0⟩,?_⟩;rintro i m xs H ⟨rfl,hi,p⟩;refine⟨hz i xs H p,?_⟩;by_cases Vg:i < x.cps.size
  · refine .inr ⟨Vg,fun y H' yy=>?_⟩;obtain⟨e,c,hc,rfl⟩:=yy;subst e;exact hs i c xs _ Vg hc p
  · have e:i=x.cps.size:=by omega
    subst e;exact .inl ⟨Nat.le_refl _,hd xs H p⟩
theorem C5{lo:Int}{n:Nat}(Pv:Nat->List V->Hp->Prop)(h0:Pv 0 [] H)(hz:∀ i xs H,Pv i xs H->xs.length<=1000000)
    (hs:∀ i xs H,i < n->Pv i xs H->tc (some (.int (lo+i))::bJ fr σ) H fun b H2=>if b=true then te (some (.int (lo+i))::bJ fr σ) H2 (fun z H3=>∃ m',m' < n - i/\cW n Pv (i+1) m' (xs++[z]) H3) else ∃ m',m' < n - i/\cW n Pv (i+1) m' xs H2)
    (hd:∀ xs H,Pv n xs H->∀ p,H p=none->Q (.ref p) (UH H p (.lst xs))) :
    ∃ W:Nat->Nat->List V->Hp->Prop,(∃ m,W 0 m [] H)/\∀ i m xs H,W i m xs H->xs.length<=1000000 /\
      (((V0 lo n).stop i H/\∀ p,H p=none->Q (.ref p) (UH H p (.lst xs))) \/
       ((V0 lo n).go i H/\∀ y H',(V0 lo n).yld i H y H'->tc (some y::bJ fr σ) H' fun b H2=>if b=true then te (some y::bJ fr σ) H2 (fun z H3=>∃ m',m' < m/\W (i+1) m' (xs++[z]) H3) else ∃ m',m' < m/\W (i+1) m' xs H2)):=by
  refine⟨cW n Pv,⟨n,by simp,Nat.zero_le _,h0⟩,?_⟩;rintro i m xs H ⟨rfl,hi,p⟩;refine⟨hz i xs H p,?_⟩;by_cases Vg:i < n
  · refine .inr ⟨Vg,fun y H' yy=>?_⟩;obtain⟨e,rfl⟩:=yy;subst e;exact hs i xs _ Vg p
  · have e:i=n:=by omega
    subst e;exact .inl ⟨Nat.le_refl _,hd xs H p⟩
end
section
variable {fr:List Nat} {tc:TT} {te:TE} {σ:St} {H H1:Hp} {Q:VK}
end
theorem xM{l:List (Str×NameKind)}{y:Str}{k:NameKind}(h:l.lookup y=some k):(y,k)∈l:=PySem.mem_of_lookup h
theorem eK.free{X:Cx}{sc:Scope}{cl:List (Str×Addr)}{x:Str}{fr:List Nat}{N:List Str}(kind:sc.kind=.function)(nc:(sc.names.all fun y=>y.2 !=.cell)=true)
    (nm:(sc.names.all fun y=>!(y.2==.local)||sc.names.lookup y.1==some .local)=true) (WV:sc.names.lookup x=some .local) (BV:closureFor sc X.env=pure cl)
    (sub:∀ y c,cl.lookup y=some c->X.env.cells.lookup y=some c) (has:((relabel sc X.env).names.all fun y=>(y.2 !=.cell&&y.2 !=.free)||(cl.lookup y.1).isSome)=true)
    (nd:N.Nodup) (N0:N=x::fr.map fun j=>X.N.getD j x) (Xy:∀ j∈fr,∃ y,X.N[j]?=some y/\X.env.kindOf y=some .cell/\((relabel sc X.env).names.lookup y=some .cell\/(relabel sc X.env).names.lookup y=some .free)):eK X sc cl x fr N where
  kind:=kind
  xR:=fun y hy e=>by
    have h:=List.all_eq_true.mp nc y hy;rw[e] at h;exact absurd h (by decide)
  names:=fun y hy e=>by
    have h:=List.all_eq_true.mp nm y hy;rw[e] at h;simpa using h
  BV:=BV
  sub:=sub
  has:=fun y h=>by
    have key:∀ k,(relabel sc X.env).names.lookup y=some k->(k=.cell\/k=.free)->∃ c,cl.lookup y=some c:=fun k e hk=>by
      have h:=List.all_eq_true.mp has (y,k) (xM e);rcases hk with rfl|rfl
      · exact Option.isSome_iff_exists.mp (by simpa using h)
      · exact Option.isSome_iff_exists.mp (by simpa using h)
    rcases h with h|h
    · exact key _ h (.inl rfl)
    · exact key _ h (.inr rfl)
  WV:=WV
  nd:=nd
  N0:=N0
  Xy:=Xy
section
variable {X:Cx} {sc:Scope} {cl:List (Str×Addr)} {x:Str} {fr:List Nat} {N:List Str} {elt iter:Expr} {px pos:Pos} {ifs:List Expr} {wi:TI} {tc:TT} {te:TE}
theorem DB{i:Nat}{y:Str}{py Y9:Pos}(hc:X.calm=true)(hx:∀ e s,¬ X.xe e s)(S:eK X sc cl x fr N)(hi:PI X (.Name x px) iter wi)
    (hb:∀ C s H ex pn,Yb (dO X sc cl C N s H ex pn) ifs tc/\PE (dO X sc cl C N s H ex pn) elt te)
    (hN:X.N.Nodup) (hy:X.N[i]?=some y) (hl:Loc X.env.scope y) (hsw:swapsWith (.ListComp elt [⟨.Name x px,iter,ifs,0⟩] sc pos) (some (.Name y py)) Y9.line X.env=pure true:=by rfl)
    (hs:∀ v,foldedSetIterable iter X.env v=pure v:=by intro _;rfl) (hf:X.fn y=true\/X.env.scope.names.lookup y=some .local:=by first|exact .inl rfl|exact .inr rfl|assumption) :
    PS X (.Assign [.Name y py] (.ListComp elt [⟨.Name x px,iter,ifs,0⟩] sc pos) Y9) (KS (jG wi fr tc te) (uN i)):=by
  intro UE s σ H D I h;have h:jG wi fr tc te σ H (fun x H1=>uN i x σ H1 D.nx):=h;unfold jG at h;rw[exec_Assign_Name_used _ _ _ _ hsw];refine wpAny_bind (wpAny_standAt (wpAny_bind ?_));show wpAny _ X.A (do let _ <- comprehension (.ListComp elt [⟨.Name x px,iter,ifs,0⟩] sc pos) sc X.env _ (newList []) false (eval iter X.env) (some (assign (.Name y py) X.env))) _ _ s;refine wpAny_bind (wpAny_mono (wpAny_comprehension_free (use:=some (assign (.Name y py) X.env)) (Q:=fun _ s'=>SP X UE D .next s') rfl hs S.BV S.kind S.names
    (thn (hi UE s σ H _ I h) fun v s1 h1=>thn h1 fun ZI s2 h2=>?_)) (fun _ s' hq=>wpAny_pure (wpAny_pure hq)) fun _ _ e=>e)
  obtain⟨it,fp,tn,J,H2,e,I2,T,Zb,f2,W,⟨m0,w0⟩,turn⟩:=h2;subst e;refine wD (Q:=fun x H1=>uN i x σ H1 D.nx) (RR:=fun acc C=>compPost (model X.prog X.w) X.A X.xe (some (assign (.Name y py) X.env)) (fun _ s'=>SP X UE D .next s') acc C) hc hx S hb I2 T Zb f2 w0 turn ?_;intro D' C s' m' H' hn fC XE q;show wpAny _ X.A (assign (.Name y py) X.env (.ref D')) _ _ _;have I':UI X UE σ H' s':=XE s'.heap (Heap.SameBut.refl ..);refine wpAny_assign_Name (AL (v:=.ref D') I' hN hy hl rfl (fun Y8 I'' ⟨a,hsa,ha⟩=>?_) hf);obtain⟨f0,f1,f2',f3,f4,f5⟩:=fC;have hCa:C≠a:=fun z=>by
    rcases ha with ha|ha
    · exact f1 (z.trans ha)
    · exact f4 y a ha z.symm
  refine⟨m',hn.sameBut hsa hCa,fun h' YT=>?_⟩;exact⟨σ.set i (some (.ref D')),H',I''.turned (t':=Y8.toks) (fun b o YF e=>(YT.2 b YF).trans e) f0 f1 f3 f4 f5,q⟩
end
section
variable {prog:Program} {w:World} {A:Around} {E:q0A} {s:Shared}
end
section
variable {σ:St} {H:Hp} {Q:VK} {i j:Int} {x y:Str} {v:V} {n:Nat} {a:Addr}
theorem LL:eM 0 (some v::σ) H Q=Q v H:=by simp[eM]
theorem gH{o:Option V}:eM (n+1) (o::σ) H Q=eM n σ H Q:=by simp[eM]
theorem SF{o0:Option V}:eM 1 (o0::some v::σ) H Q=Q v H:=(gH.trans LL)
theorem SG{o0 o1:Option V}:eM 2 (o0::o1::some v::σ) H Q=Q v H:=(gH.trans SF)
theorem SH{o0 o1 o2:Option V}:eM 3 (o0::o1::o2::some v::σ) H Q=Q v H:=(gH.trans SG)
theorem SJ{o0 o1 o2 o3:Option V}:eM 4 (o0::o1::o2::o3::some v::σ) H Q=Q v H:=(gH.trans SH)
theorem SK{o0 o1 o2 o3 o4:Option V}:eM 5 (o0::o1::o2::o3::o4::some v::σ) H Q=Q v H:=(gH.trans SJ)
theorem SM{o0 o1 o2 o3 o4 o5:Option V}:eM 6 (o0::o1::o2::o3::o4::o5::some v::σ) H Q=Q v H:=(gH.trans SK)
theorem SN{o0 o1 o2 o3 o4 o5 o6:Option V}:eM 7 (o0::o1::o2::o3::o4::o5::o6::some v::σ) H Q=Q v H:=(gH.trans SM)
theorem SO{o0 o1 o2 o3 o4 o5 o6 o7:Option V}:eM 8 (o0::o1::o2::o3::o4::o5::o6::o7::some v::σ) H Q=Q v H:=(gH.trans SN)
theorem SQ{o0 o1 o2 o3 o4 o5 o6 o7 o8:Option V}:eM 9 (o0::o1::o2::o3::o4::o5::o6::o7::o8::some v::σ) H Q=Q v H:=(gH.trans SO)
theorem LM{o0 o1 o2 o3 o4 o5 o6 o7 o8 o9:Option V}:eM 10 (o0::o1::o2::o3::o4::o5::o6::o7::o8::o9::some v::σ) H Q=Q v H:=(gH.trans SQ)
theorem LN{o0 o1 o2 o3 o4 o5 o6 o7 o8 o9 UW:Option V}:eM 11 (o0::o1::o2::o3::o4::o5::o6::o7::o8::o9::UW::some v::σ) H Q=Q v H:=(gH.trans LM)
theorem LO{o0 o1 o2 o3 o4 o5 o6 o7 o8 o9 UW UZ:Option V}:eM 12 (o0::o1::o2::o3::o4::o5::o6::o7::o8::o9::UW::UZ::some v::σ) H Q=Q v H:=(gH.trans LN)
theorem LP{o0 o1 o2 o3 o4 o5 o6 o7 o8 o9 UW UZ U1:Option V}:eM 13 (o0::o1::o2::o3::o4::o5::o6::o7::o8::o9::UW::UZ::U1::some v::σ) H Q=Q v H:=(gH.trans LO)
theorem LQ{o0 o1 o2 o3 o4 o5 o6 o7 o8 o9 UW UZ U1 U6:Option V}:eM 14 (o0::o1::o2::o3::o4::o5::o6::o7::o8::o9::UW::UZ::U1::U6::some v::σ) H Q=Q v H:=(gH.trans LP)
theorem LR{o0 o1 o2 o3 o4 o5 o6 o7 o8 o9 UW UZ U1 U6 Va:Option V}:eM 15 (o0::o1::o2::o3::o4::o5::o6::o7::o8::o9::UW::UZ::U1::U6::Va::some v::σ) H Q=Q v H:=(gH.trans LQ)
theorem LS{o0 o1 o2 o3 o4 o5 o6 o7 o8 o9 UW UZ U1 U6 Va Vb:Option V}:eM 16 (o0::o1::o2::o3::o4::o5::o6::o7::o8::o9::UW::UZ::U1::U6::Va::Vb::some v::σ) H Q=Q v H:=(gH.trans LR)
theorem LU{o0 o1 o2 o3 o4 o5 o6 o7 o8 o9 UW UZ U1 U6 Va Vb Vh:Option V}:eM 17 (o0::o1::o2::o3::o4::o5::o6::o7::o8::o9::UW::UZ::U1::U6::Va::Vb::Vh::some v::σ) H Q=Q v H:=(gH.trans LS)
theorem LV{o0 o1 o2 o3 o4 o5 o6 o7 o8 o9 UW UZ U1 U6 Va Vb Vh Vk:Option V}:eM 18 (o0::o1::o2::o3::o4::o5::o6::o7::o8::o9::UW::UZ::U1::U6::Va::Vb::Vh::Vk::some v::σ) H Q=Q v H:=(gH.trans LU)
theorem LW{o0 o1 o2 o3 o4 o5 o6 o7 o8 o9 UW UZ U1 U6 Va Vb Vh Vk Vo:Option V}:eM 19 (o0::o1::o2::o3::o4::o5::o6::o7::o8::o9::UW::UZ::U1::U6::Va::Vb::Vh::Vk::Vo::some v::σ) H Q=Q v H:=(gH.trans LV)
theorem LX{o0 o1 o2 o3 o4 o5 o6 o7 o8 o9 UW UZ U1 U6 Va Vb Vh Vk Vo Vv:Option V}:eM 20 (o0::o1::o2::o3::o4::o5::o6::o7::o8::o9::UW::UZ::U1::U6::Va::Vb::Vh::Vk::Vo::Vv::some v::σ) H Q=Q v H:=(gH.trans LW)
theorem LY{o0 o1 o2 o3 o4 o5 o6 o7 o8 o9 UW UZ U1 U6 Va Vb Vh Vk Vo Vv Vz:Option V}:eM 21 (o0::o1::o2::o3::o4::o5::o6::o7::o8::o9::UW::UZ::U1::U6::Va::Vb::Vh::Vk::Vo::Vv::Vz::some v::σ) H Q=Q v H:=(gH.trans LX)
theorem LZ{o0 o1 o2 o3 o4 o5 o6 o7 o8 o9 UW UZ U1 U6 Va Vb Vh Vk Vo Vv Vz VM:Option V}:eM 22 (o0::o1::o2::o3::o4::o5::o6::o7::o8::o9::UW::UZ::U1::U6::Va::Vb::Vh::Vk::Vo::Vv::Vz::VM::some v::σ) H Q=Q v H:=(gH.trans LY)
theorem L0{o0 o1 o2 o3 o4 o5 o6 o7 o8 o9 UW UZ U1 U6 Va Vb Vh Vk Vo Vv Vz VM VW:Option V}:eM 23 (o0::o1::o2::o3::o4::o5::o6::o7::o8::o9::UW::UZ::U1::U6::Va::Vb::Vh::Vk::Vo::Vv::Vz::VM::VW::some v::σ) H Q=Q v H:=(gH.trans LZ)
theorem L6{o0 o1 o2 o3 o4 o5 o6 o7 o8 o9 UW UZ U1 U6 Va Vb Vh Vk Vo Vv Vz VM VW V8:Option V}:eM 24 (o0::o1::o2::o3::o4::o5::o6::o7::o8::o9::UW::UZ::U1::U6::Va::Vb::Vh::Vk::Vo::Vv::Vz::VM::VW::V8::some v::σ) H Q=Q v H:=(gH.trans L0)
theorem L7{o0 o1 o2 o3 o4 o5 o6 o7 o8 o9 UW UZ U1 U6 Va Vb Vh Vk Vo Vv Vz VM VW V8 WB:Option V}:eM 25 (o0::o1::o2::o3::o4::o5::o6::o7::o8::o9::UW::UZ::U1::U6::Va::Vb::Vh::Vk::Vo::Vv::Vz::VM::VW::V8::WB::some v::σ) H Q=Q v H:=(gH.trans L6)
theorem L8{o0 o1 o2 o3 o4 o5 o6 o7 o8 o9 UW UZ U1 U6 Va Vb Vh Vk Vo Vv Vz VM VW V8 WB Xa:Option V}:eM 26 (o0::o1::o2::o3::o4::o5::o6::o7::o8::o9::UW::UZ::U1::U6::Va::Vb::Vh::Vk::Vo::Vv::Vz::VM::VW::V8::WB::Xa::some v::σ) H Q=Q v H:=(gH.trans L7)
theorem L9{o0 o1 o2 o3 o4 o5 o6 o7 o8 o9 UW UZ U1 U6 Va Vb Vh Vk Vo Vv Vz VM VW V8 WB Xa XZ:Option V}:eM 27 (o0::o1::o2::o3::o4::o5::o6::o7::o8::o9::UW::UZ::U1::U6::Va::Vb::Vh::Vk::Vo::Vv::Vz::VM::VW::V8::WB::Xa::XZ::some v::σ) H Q=Q v H:=(gH.trans L8)
theorem Ma{o0 o1 o2 o3 o4 o5 o6 o7 o8 o9 UW UZ U1 U6 Va Vb Vh Vk Vo Vv Vz VM VW V8 WB Xa XZ Y6:Option V}:eM 28 (o0::o1::o2::o3::o4::o5::o6::o7::o8::o9::UW::UZ::U1::U6::Va::Vb::Vh::Vk::Vo::Vv::Vz::VM::VW::V8::WB::Xa::XZ::Y6::some v::σ) H Q=Q v H:=(gH.trans L9)
theorem Mb{o0 o1 o2 o3 o4 o5 o6 o7 o8 o9 UW UZ U1 U6 Va Vb Vh Vk Vo Vv Vz VM VW V8 WB Xa XZ Y6 o28:Option V}:eM 29 (o0::o1::o2::o3::o4::o5::o6::o7::o8::o9::UW::UZ::U1::U6::Va::Vb::Vh::Vk::Vo::Vv::Vz::VM::VW::V8::WB::Xa::XZ::Y6::o28::some v::σ) H Q=Q v H:=(gH.trans Ma)
theorem SI{o0 o1 o2 o3 o4 o5 o6 o7 o8 o9 UW UZ U1 U6 Va Vb Vh Vk Vo Vv Vz VM VW V8 WB Xa XZ Y6 o28 o29:Option V}:eM 30 (o0::o1::o2::o3::o4::o5::o6::o7::o8::o9::UW::UZ::U1::U6::Va::Vb::Vh::Vk::Vo::Vv::Vz::VM::VW::V8::WB::Xa::XZ::Y6::o28::o29::some v::σ) H Q=Q v H:=(gH.trans Mb)
theorem Hl{α β:Type}{f:α->β}{a:α}{l:List α}:List.map f (a::l)=f a::List.map f l:=rfl
theorem Lv{α β:Type}{f:α->β}:List.map f []=[]:=rfl
theorem Ue{C:Int->Int->Prop}{g:Int->Int->V}:rI C g (.int i) (.int j) H Q=(C i j/\Q (g i j) H):=by simp[rI]
theorem SE{g:Int->Int->V}:IM g (.int i) (.int j) H Q=Q (g i j) H:=by simp[IM]
theorem Ug{g:Int->V}:rU g (.int i) H Q=Q (g i) H:=by simp[rU]
theorem w_lit(h:Nat.ble n 1000=true):(n<=sizeLine)=True:=eq_true (Nat.le_of_lt (small1000 (Nat.le_of_ble_eq_true h)))
theorem Sy:Fw (.int i) (.int j) H Q=Q (.bl (decide (i=j))) H:=by simp only[Fw,show scal (.int i) (.int j)=true from rfl,V.int.injEq,true_and]
theorem Sz:Fw (.str x) (.str y) H Q=Q (.bl (decide (x=y))) H:=by simp only[Fw,show scal (.str x) (.str y)=true from rfl,V.str.injEq,true_and]
theorem SA:Kw (.int i) (.int j) H Q=Q (.bl (!decide (i=j))) H:=by simp only[Kw,show scal (.int i) (.int j)=true from rfl,V.int.injEq,true_and]
theorem SD:Kw (.str x) (.str y) H Q=Q (.bl (!decide (x=y))) H:=by simp only[Kw,show scal (.str x) (.str y)=true from rfl,V.str.injEq,true_and]
end
theorem dE{a b:String}:(Str.ofString a=Str.ofString b)=(a=b):=by
 refine propext ⟨fun h=>?_,fun h=>by rw[h]⟩;rw[Str.ofString_eq_toList,Str.ofString_eq_toList] at h;have e:(a.toList.map Char.toNat)=(b.toList.map Char.toNat):=by
  have:=congrArg (fun z:Str=>z.cps.toList) h;simpa using this
 have inj:∀ x y:Char,x.toNat=y.toNat->x=y:=fun x y q=>Char.ext (UInt32.toNat_inj.mp q);have:=(List.map_inj_right (f:=Char.toNat) (fun x y q=>inj x y q)).mp e;exact String.toList_inj.mp this
noncomputable def Kp(S:List Addr)(H H':Hp):Prop:=∀ b o,H b=some o->b∉S->H' b=some o
section
variable {S T:List Addr} {H H1 H2:Hp} {a p:Addr} {o:HO}
theorem Kp.refl:Kp S H H:=fun _ _ h _=>h
theorem Kp.trans(x:Kp S H H1)(y:Kp S H1 H2):Kp S H H2:=fun b o h n=>y b o (x b o h n) n
theorem Kp.mono(x:Kp S H H1)(h:∀ b∈S,b∈T):Kp T H H1:=fun b o e n=>x b o e fun z=>n (h b z)
theorem Kp.new(h:H p=none):Kp S H (UH H p o):=fun b u e _=>by rw[aY (aQ e h)];exact e
theorem q0D(h:H p=none):Kp [] H (UH H p o):=Kp.new h
theorem Kp.set(h:p∈S):Kp S H (UH H p o):=fun b u e n=>by rw[aY (show b≠p from fun z=>n (by rw[z];exact h))];exact e
theorem Kp.at(x:Kp S H H1)(e:H a=some o)(n:a∉S:=by first|exact List.not_mem_nil|simp_all):H1 a=some o:=x a o e n
theorem Kp.same(x:Kp [] H H1):Same H H1:=fun b o e=>x b o e (by simp)
theorem Kp.of(x:Same H H1):Kp S H H1:=fun b o e _=>x b o e
theorem Kp.drop(x:Kp (p::S) H H1)(h:H p=none):Kp S H H1:=fun b o e n=>x b o e (by
 simp only[List.mem_cons,not_or];exact⟨aQ e h,n⟩)
end
noncomputable abbrev Tg{α:Type}(_:α):Type:=Unit
noncomputable def dY{α:Type}(o:Option α)(k:α->Prop)(_u:Tg k:=()):Prop:=match o with
 | some x=>k x
 | none=>False
noncomputable def Kh(x:V)(k:Bool->Prop)(_u:Tg k:=()):Prop:=match x with
 | .bl b=>k b
 | _=>False
noncomputable def bR(o:Option HO)(k:List V->Prop)(_u:Tg k:=()):Prop:=match o with
 | some (.lst xs)=>k xs
 | _=>False
noncomputable def mC(o:Option HO)(k:List V->Prop)(_u:Tg k:=()):Prop:=match o with
 | some (.lst xs)=>k xs
 | some (.tup xs)=>k xs
 | _=>False
noncomputable def dA(o:Option HO)(k:List (Key×V)->Prop)(_u:Tg k:=()):Prop:=match o with
 | some (.dK xs)=>k xs
 | _=>False
noncomputable def aX(x:V)(k:Addr->Prop)(_u:Tg k:=()):Prop:=match x with
 | .ref p=>k p
 | _=>False
noncomputable def eY(x:V)(k:Int->Prop)(_u:Tg k:=()):Prop:=match x with
 | .int i=>k i
 | _=>False
theorem iI{α:Type}{o:Option α}{k:α->Prop}(h:dY o k):∃ x,o=some x/\k x:=by
 cases o with
 | none=>exact h.elim
 | some x=>exact⟨x,rfl,h⟩
theorem OC{x:V}{k:Bool->Prop}(h:Kh x k):∃ b,x=.bl b/\k b:=by
 cases x with
 | bl b=>exact⟨b,rfl,h⟩
 | _=>exact h.elim
theorem tN{x:V}{k:Bool->Prop}:(∃ b,x=.bl b/\k b)=Kh x k:=by
 refine propext ⟨fun⟨b,e,h⟩=>by subst e;exact h,OC⟩
theorem bK{x:V}{k:Addr->Prop}(h:aX x k):∃ b,x=.ref b/\k b:=by
 cases x with
 | ref b=>exact⟨b,rfl,h⟩
 | _=>exact h.elim
theorem eC{x:V}{k:Int->Prop}(h:eY x k):∃ b,x=.int b/\k b:=by
 cases x with
 | int b=>exact⟨b,rfl,h⟩
 | _=>exact h.elim
theorem eZ{o:Option HO}{k:List V->Prop}(h:bR o k):∃ xs,o=some (.lst xs)/\k xs:=by
 unfold bR at h;split at h
 ·exact⟨_,rfl,h⟩
 ·exact h.elim
theorem rJ{o:Option HO}{k:List V->Prop}(h:mC o k):∃ xs,(o=some (.lst xs)\/o=some (.tup xs))/\k xs:=by
 unfold mC at h;split at h
 ·exact⟨_,.inl rfl,h⟩
 ·exact⟨_,.inr rfl,h⟩
 ·exact h.elim
noncomputable def Td:R2:=fun x y H Q=>match x with
 | .ref p=>mC (H p) fun xs=>eY y fun i=>dY (oS xs i) fun v=>Q v H
 | .str z=>eY y fun i=>z.length<=sizeLine/\dY (oS z.cps.toList i) fun c=>Q (.str ⟨#[c]⟩) H
 | _=>False
noncomputable def EJ(H:Hp)(Q:VK)(a:Addr)(oa ob:Option HO):Prop:=match oa,ob with
 | some (.lst xs),some (.lst ys)=>xs.length+ys.length<=sizeLine/\∀ p,H p=none->Q (.ref p) (UH H p (.lst (xs++ys)))
 | some (.tup xs),some (.tup ys)=>xs≠[]/\xs.length+ys.length<=sizeLine/\(ys≠[]->∀ p,H p=none->Q (.ref p) (UH H p (.tup (xs++ys))))/\(ys=[]->Q (.ref a) H)
 | _,_=>False
noncomputable def EI:R2:=fun x y H Q=>match x,y with
 | .int i,.int j=>Q (.int (i+j)) H
 | .str a,.str b=>a.length+b.length<=sizeLine/\Q (.str (a++b)) H
 | .ref a,.ref b=>EJ H Q a (H a) (H b)
 | _,_=>False
noncomputable def FU(lo hi:Option Int)(H:Hp)(Q:VK)(o:Option HO):Prop:=match o with
 | some (.lst xs)=>∀ p,H p=none->Q (.ref p) (UH H p (.lst (k6 xs lo hi)))
 | some (.tup xs)=>¬ (HT.gI xs.length 0 lo=0/\HT.gI xs.length xs.length hi=xs.length)/\∀ p,H p=none->Q (.ref p) (UH H p (.tup (k6 xs lo hi)))
 | _=>False
noncomputable def SV:V->Option Int->Option Int->Hp->VK->Prop:=fun x lo hi H Q=>match x with
 | .str z=>z.length<=sizeLine/\Q (.str (Txt.slice z lo hi)) H
 | .ref a=>FU lo hi H Q (H a)
 | _=>False
noncomputable def Jc:List V->Hp->VK->Prop:=fun vs H Q=>match vs with
 | [.str z]=>z.length<=sizeLine/\Q (.int z.length) H
 | [.ref p]=>mC (H p) fun xs=>Q (.int xs.length) H
 | _=>False
noncomputable def P4:V->V->V->Hp->(Hp->Prop)->Prop:=fun o i v H Q=>aX o fun p=>eY i fun k=>bR (H p) fun xs=>dY (CV xs.length k) fun j=>Q (UH H p (.lst (xs.set j v)))
noncomputable def mH:V->Option Key
 | .int i=>some (.inl i)
 | .str x=>some (.inr x)
 | .UK=>some .no
 | _=>none
noncomputable def PN(td ty:TE):TE:=fun σ H Q=>td σ H fun x H1=>aX x fun a=>dA (H1 a) fun _=>ty σ H1 fun y H2=>dA (H2 a) fun UG=>dY (mH y) fun k=>Q ((dP UG k).getD .UK) H2
noncomputable def S9(td ty:TE):TE:=fun σ H Q=>td σ H fun x H1=>ty σ H1 fun y H2=>aX x fun a=>dA (H2 a) fun UG=>dY (mH y) fun k=>dY (dP UG k) fun v=>Q v H2
noncomputable def Tj(td ty tv:TE):TS:=fun D σ H=>tv σ H fun v H1=>td σ H1 fun x H2=>ty σ H2 fun y H3=>aX x fun a=>dA (H3 a) fun UG=>dY (mH y) fun k=>UG.length < sizeLine/\D.nx σ (UH H3 a (.dK (j6 UG k v)))
noncomputable def Tb(neg:Bool):R2:=fun x y H Q=>aX y fun p=>mC (H p) fun xs=>cN x=true/\xs.all cN=true/\Q (.bl (if neg=true then !cR x xs else cR x xs)) H
noncomputable def Ja:List V->Hp->VK->Prop:=fun vs H Q=>match vs with
 | [.int i]=>Q (.int i) H
 | [.bl k]=>Q (.int (if k=true then 1 else 0)) H
 | _=>False
noncomputable def PU:R2:=fun x y H Q=>match y with
 | .UK=>Q (.bl (decide (x=.UK))) H
 | _=>False
noncomputable def Lg:R2:=fun x y H Q=>match y with
 | .UK=>Q (.bl (!decide (x=.UK))) H
 | _=>False
noncomputable def Mo:List V->Hp->VK->Prop:=fun vs H Q=>match vs with
 | [.int i,.int j]=>Q (.int (if j > i then j else i)) H
 | _=>False
noncomputable def Te:List V->Hp->VK->Prop:=fun vs H Q=>match vs with
 | [.int i,.int j]=>Q (.int (if j < i then j else i)) H
 | _=>False
noncomputable def S7:List V->Hp->VK->Prop:=fun vs H Q=>match vs with
 | [.int i]=>Q (.int (if i < 0 then -i else i)) H
 | _=>False
noncomputable def Bd(v:V)(T:String):Option Bool:=match v with
 | .int _=>if T = "int" then some true else if T = "bool"\/T = "str"\/T = "tuple" then some false else none
 | .bl _=>if T = "int"\/T = "bool" then some true else if T = "str"\/T = "tuple" then some false else none
 | .str _=>if T = "str" then some true else if T = "int"\/T = "bool"\/T = "tuple" then some false else none
 | .UK=>if T = "int"\/T = "bool"\/T = "str"\/T = "tuple" then some false else none
 | _=>none
noncomputable def gP(o:Option HO)(T:String):Option Bool:=match o with
 | some (.lst _)=>if T = "int"\/T = "bool"\/T = "str"\/T = "tuple" then some false else none
 | some (.tup _)=>if T = "tuple" then some true else if T = "int"\/T = "bool"\/T = "str" then some false else none
 | some (.dK _)=>if T = "int"\/T = "bool"\/T = "str" then some false else none
 | _=>none
noncomputable def eB:List V->Hp->VK->Prop:=fun vs H Q=>match vs with
 | [.ref p,.ty T]=>dY (gP (H p) T) fun b=>Q (.bl b) H
 | [v,.ty T]=>dY (Bd v T) fun b=>Q (.bl b) H
 | _=>False
theorem Oo{K:q0B}{H:Hp}{v:V}{T:String}{b:Bool}(h:Bd v T=some b):qK K H v T b:=by
 unfold Bd at h;split at h
 all_goals (repeat' split at h)
 all_goals first
  | cases h
  | skip
 all_goals first
  | (subst_vars;constructor)
  | (rename_i q;rcases q with rfl|rfl<;>constructor)
  | (rename_i q _;rcases q with rfl|rfl<;>constructor)
  | (rename_i q;rcases q with rfl|rfl|rfl<;>constructor)
  | (rename_i q;rcases q with rfl|rfl|rfl|rfl<;>constructor)
theorem J7{K:q0B}{H:Hp}{p:Addr}{T:String}{b:Bool}(h:gP (H p) T=some b):qK K H (.ref p) T b:=by
 unfold gP at h;split at h
 ·rename_i xs e
  have q:dU K H p xs:=.inl (.inl e);split at h
  ·cases h
   rename_i z
   rcases z with rfl|rfl|rfl|rfl
   ·exact .li q
   ·exact .lb q
   ·exact .ls q
   ·exact .lt q
  ·cases h
 ·rename_i xs e
  have q:gS K H p xs:=.inl (.inl e);split at h
  ·cases h
   subst_vars
   exact .tt q
  ·split at h
   ·cases h
    rename_i z
    rcases z with rfl|rfl|rfl
    ·exact .ti q
    ·exact .tb q
    ·exact .ts q
   ·cases h
 ·rename_i UG e
  split at h
  ·cases h
   rename_i z
   rcases z with rfl|rfl|rfl
   ·exact .di e
   ·exact .db e
   ·exact .ds e
  ·cases h
 ·cases h
noncomputable def PB(to te:TE):TE:=fun σ H Q=>to σ H fun x H1=>aX x fun a=>bR (H1 a) fun _=>te σ H1 fun y H2=>bR (H2 a) fun xs=>xs.length < sizeLine/\Q .UK (UH H2 a (.lst (xs++[y])))
noncomputable def Ti(to:TE):TE:=fun σ H Q=>to σ H fun x H1=>aX x fun a=>bR (H1 a) fun xs=>dY (xs[xs.length - 1]?) fun y=>Q y (UH H1 a (.lst xs.dropLast))
section
variable {X:Cx}
theorem ED.imp{r r':R2}(h:ED X r)(f:∀ x y H Q,r' x y H Q->r x y H Q):ED X r':=fun value slice UE s σ H x y v u Q I rx ry q=>h value slice UE s σ H x y v u Q I rx ry (f _ _ _ _ q)
theorem iM.imp{f:Value->Value->Sem Value}{r r':R2}(h:iM X f r)(g:∀ x y H Q,r' x y H Q->r x y H Q):iM X f r':=fun UE s σ H x y v u Q I rx ry q=>h UE s σ H x y v u Q I rx ry (g _ _ _ _ q)
theorem cB:ED X Td:=Oi.imp fun x y H Q h=>by
 cases x with
 | ref p =>
  obtain⟨xs,e,h⟩:=rJ h;obtain⟨i,rfl,h⟩:=eC h;obtain⟨v,e2,h⟩:=iI h;rcases e with e|e
  ·exact .inl ⟨_,_,_,_,rfl,rfl,.inl (.inl e),e2,h⟩
  ·exact .inr (.inl ⟨_,_,_,_,rfl,rfl,.inl (.inl e),e2,h⟩)
 | str z =>
  obtain⟨i,rfl,h1,h⟩:=eC h;obtain⟨v,e2,h⟩:=iI h;exact .inr (.inr ⟨_,_,_,rfl,rfl,h1,e2,h⟩)
 | _=>exact h.elim
theorem aU:iM X (binaryOp .Add) EI:=(OD.or (Ds.or (OE.or Eb))).imp fun x y H Q h=>by
 unfold EI EJ at h;split at h
 ·exact .inl ⟨_,_,rfl,rfl,h⟩
 ·exact .inr (.inl ⟨_,_,rfl,rfl,h.1,h.2⟩)
 ·split at h
  ·exact .inr (.inr (.inl ⟨_,_,_,_,rfl,rfl,‹_›,‹_›,h.1,h.2⟩))
  ·exact .inr (.inr (.inr ⟨_,_,_,_,rfl,rfl,.inl (.inl ‹_›),.inl (.inl ‹_›),h.1,h.2.1,h.2.2.2,h.2.2.1⟩))
  ·exact h.elim
 ·exact h.elim
theorem iS:IV X SV:=fun UE s σ H x v vl vu lo hi sl Q I rx hs pl pu h=>by
 refine(El.or (O0.or OZ)) UE s σ H x v vl vu lo hi sl Q I rx hs pl pu ?_;unfold SV FU at h;split at h
 ·exact .inr (.inr ⟨_,rfl,h.1,h.2⟩)
 ·split at h
  ·exact .inl ⟨_,_,rfl,.inl (.inl ‹_›),h⟩
  ·exact .inr (.inl ⟨_,_,rfl,.inl (.inl ‹_›),h.1,h.2⟩)
  ·exact h.elim
 ·exact h.elim
theorem cA:eP X (.builtin "len") Jc:=fun UE s σ H xs us Q I r h=>by
 unfold Jc at h;split at h
 ·exact wC UE s σ H _ us Q I r ⟨_,_,rfl,⟨h.1,rfl⟩,h.2⟩
 ·obtain⟨ys,e,h⟩:=rJ h;rcases e with e|e
  ·exact wC UE s σ H _ us Q I r ⟨_,_,rfl,.inl ⟨_,.inl (.inl e),rfl⟩,h⟩
  ·exact wC UE s σ H _ us Q I r ⟨_,_,rfl,.inr ⟨_,.inl (.inl e),rfl⟩,h⟩
 ·exact h.elim
theorem uW:PSet X P4:=fun UE s σ H o i v ov iv u Q I ro ri rv h=>by
 obtain⟨p,rfl,h⟩:=bK h;obtain⟨k,rfl,h⟩:=eC h;obtain⟨xs,e,h⟩:=eZ h;obtain⟨j,e2,h⟩:=iI h;exact HW UE s σ H _ _ v ov iv u Q I ro ri rv ⟨_,_,_,_,rfl,rfl,e,e2,h⟩
theorem tO:iM X (compareOp .In) (Tb false):=Fo.imp fun x y H Q h=>by
 obtain⟨p,rfl,h⟩:=bK h;obtain⟨xs,e,h1,h2,h⟩:=rJ h;exact⟨_,_,rfl,e.imp (fun e=>.inl (.inl e)) (fun e=>.inl (.inl e)),h1,h2,h⟩
theorem Au:iM X (compareOp .NotIn) (Tb true):=rL.imp fun x y H Q h=>by
 obtain⟨p,rfl,h⟩:=bK h;obtain⟨xs,e,h1,h2,h⟩:=rJ h;exact⟨_,_,rfl,e.imp (fun e=>.inl (.inl e)) (fun e=>.inl (.inl e)),h1,h2,h⟩
theorem oA:eP X (.type "int") Ja:=fun UE s σ H xs us Q I r h=>by
 refine EL UE s σ H xs us Q I r ?_;unfold Ja at h;split at h
 ·exact .inl ⟨_,rfl,h⟩
 ·exact .inr ⟨_,rfl,by
   rename_i k
   cases k<;>exact h⟩
 ·exact h.elim
theorem OG:iM X (compareOp .Is) PU:=OH.imp fun x y H Q h=>by
 cases y with
 | UK=>exact⟨rfl,h⟩
 | _=>exact h.elim
theorem Ar:iM X (compareOp .IsNot) Lg:=Kk.imp fun x y H Q h=>by
 cases y with
 | UK=>exact⟨rfl,h⟩
 | _=>exact h.elim
theorem EO(hc:X.calm=true):eP X (.builtin "max") Mo:=fun UE s σ H xs us Q I r h=>by
 refine EN hc UE s σ H xs us Q I r ?_;unfold Mo at h;split at h
 ·exact⟨_,_,rfl,h⟩
 ·exact h.elim
theorem EM:eP X (.builtin "isinstance") eB:=fun UE s σ H xs us Q I r h=>by
 refine Gb UE s σ H xs us Q I r ?_;unfold eB at h;split at h
 ·obtain⟨b,e,h⟩:=iI h;exact⟨_,_,b,rfl,J7 e,h⟩
 ·obtain⟨b,e,h⟩:=iI h;exact⟨_,_,b,rfl,Oo e,h⟩
 ·exact h.elim
variable {o e:Expr} {to te:TE} {apos UM:Pos}
theorem rR(ho:PE X o to)(he:PE X e te)(VH:attributeBase o "append" X.env (eval o X.env)=eval o X.env:=by rfl)
    (Wt:((backTo UM (starEach [e] X.env)).all (fun x=>!x.1)&&(backToKw UM (keywordEach [] X.env)).all (fun x=>x.1.isSome)
     &&decide ([e].length+([]:List Keyword).length+(if ([]:List Keyword).isEmpty then 0 else 1) < 30))=true:=by rfl)
    (VL:(apos.endLine==UM.line)=true:=by rfl) (hs:starEach [e] X.env=(false,eval e X.env)::starEach [] X.env:=by rfl) (Vn:(backTo UM (starEach [] X.env)).any (·.1)=false:=by rfl) :
    PE X (.Call (.Attribute o "append" apos) [e] [] UM) (PB to te):=by
  intro UE s σ H Q I h;refine wpAny_Call_method_late VH Wt VL rfl (thn (ho UE s σ H _ I h) fun v s1 ⟨x,H1,I1,r1,q1⟩=>?_);obtain⟨a,rfl,q1⟩:=bK q1;obtain⟨xs,e1,q1⟩:=eZ q1;obtain⟨h1,h2⟩:=DK (T:="list") I1 r1 (.inl ⟨rfl,xs,.inl (.inl e1)⟩);refine⟨"list","list.append",PySem.F.plainAttrs_list,PySem.F.slot_list_append,PySem.F.type_list_append,h1,h2,?_⟩;have q2:CQ te FE σ H1 (fun vs H2=>vs.length=1/\bR (H2 a) fun xs=>xs.length < sizeLine/\Q .UK (UH H2 a (.lst (xs++vs)))):=by
    simpa only[CQ,FE,List.length_cons,List.length_nil,Nat.zero_add,true_and] using q1
  have hA:=Ef he aB hs UM UE s1 σ H1 _ I1 q2;rw[hs] at hA ⊢;refine Calls.callWith_builtin (by show(false||(backTo UM (starEach [] X.env)).any (·.1))=false;rw[Vn]<;>rfl) (Calls.evalArgs_plain ?_);refine thn hA fun us s2 ⟨vs,H2,I2,r2,l2,q3⟩=>?_;obtain⟨xs,e3,q4,q5⟩:=eZ q3
  match vs,l2,r2,q5 with
  | [y],_,r2,q5=>exact Fj UE s2 σ H2 _ _ v us Q I2 r1 r2 ⟨_,_,_,rfl,rfl,e3,q4,q5⟩
end
section
variable {X:Cx} {o i e value:Expr} {pos pos' apos UM:Pos} {td ty tv:TE}
noncomputable def PF:List V->Hp->VK->Prop:=fun vs H Q=>match vs with
 | [.ref a]=>dA (H a) fun UG=>∀ p,H p=none->Q (.ref p) (UH H p (.dK UG))
 | _=>False
end
noncomputable def Itv(K:q0B)(a:Addr)(n:Nat):It :=
 ⟨fun i H=>i < n/\∃ xs,dU K H a xs/\xs.length=n,fun i H x H'=>H'=H/\∀ xs,dU K H a xs->xs[n - 1 - i]?=some x,fun i H=>i=n/\∃ xs,dU K H a xs/\xs.length=n⟩
noncomputable def Rh(K:q0B)(ta:TA):TI:=fun σ H R=>ta σ H fun vs H1=>∃ a xs,vs=[.ref a]/\dU K H1 a xs/\R (Itv K a xs.length) H1
section
variable {σ:St} {H:Hp} {Q:VK} {D:Ends} {t u:TS} {te ta tb tc to ti:TE} {tl th:TO} {g:TG} {gs:TGs} {tt ZQ:TT} {as:TA} {i j:Int} {n:Nat} {x y:Str} {v w:V} {vs:List V} {b:Bool} {p a:Addr} {r r':R2} {B:Bool->Hp->Prop} {K:q0B}
theorem Q0:Pd t u D σ H=t {D with nx:=u D} σ H:=rfl
theorem Qc:KS te g D σ H=te σ H fun x H1=>g x σ H1 D.nx:=rfl
theorem Nu{N:St->Hp->Prop}:uN n v σ H N=N (σ.set n (some v)) H:=rfl
theorem QY:Sm te D σ H=te σ H D.rt:=rfl
theorem NF:Sn D σ H=D.rt .UK H:=rfl
theorem Qy:Sh tt t u D σ H=tt σ H fun b H1=>if b=true then t D σ H1 else u D σ H1:=rfl
theorem NM:Ey te σ H B=te σ H fun x H'=>Kh x fun k=>B k H':=by simp only[Ey,tN]
theorem TM:tB te σ H B=te σ H fun x H'=>Kh x fun k=>B k H':=by simp only[tB,tN]
theorem Tv:Um tt ta tb σ H Q=tt σ H fun c H1=>if c=true then ta σ H1 Q else tb σ H1 Q:=rfl
theorem TH:Sk r ta tb σ H Q=ta σ H fun x H1=>tb σ H1 fun y H2=>r x y H2 Q:=rfl
theorem TN{q:V->Hp->VK->Prop}:Uv q ta σ H Q=ta σ H fun x H1=>q x H1 Q:=rfl
theorem Uy:tC v σ H Q=Q v H:=rfl
theorem MF{A:List V->Hp->Prop}:CQ te as σ H A=te σ H fun x H1=>as σ H1 fun xs H2=>A (x::xs) H2:=rfl
theorem QO{A:List V->Hp->Prop}:FE σ H A=A [] H:=rfl
theorem MC{sp:Sp}{E:XK}:Et sp [] E as σ H Q=as σ H fun vs H1=>sp vs H1 Q E:=by simp only[Et,List.append_nil]
theorem Tu{q:List V->Hp->VK->Prop}:Uc q as σ H Q=as σ H fun vs H1=>q vs H1 Q:=rfl
theorem QG:Si as σ H Q=as σ H fun xs H1=>xs.length<=sizeLine/\∀ p,H1 p=none->Q (.ref p) (UH H1 p (.lst xs)):=rfl
theorem Q6:Sq as σ H Q=as σ H fun xs H1=>xs.length<=sizeLine/\∀ p,H1 p=none->Q (.ref p) (UH H1 p (.tup xs)):=rfl
theorem MM:Pb σ H Q = ∀ p,H p=none->Q (.ref p) (UH H p (.dK [])):=rfl
theorem MN:LH te D σ H=te σ H fun _ H1=>D.nx σ H1:=rfl
theorem Nw:LI D σ H=D.nx σ H:=rfl
theorem Ji:Pa D σ H=D.bk σ H:=rfl
theorem MG:Sb D σ H=D.ct σ H:=rfl
theorem Mw:Ik ta tb σ H Q=ta σ H fun x H1=>Kh x fun c=>if c=true then tb σ H1 Q else Q (.bl false) H1:=by simp only[Ik,tN]
theorem QU:Sl ta tb σ H Q=ta σ H fun x H1=>Kh x fun c=>if c=true then Q (.bl true) H1 else tb σ H1 Q:=by simp only[Sl,tN]
theorem Nx:Ip ta σ H Q=ta σ H fun x H1=>Kh x fun c=>Q (.bl (!c)) H1:=by simp only[Ip,tN]
theorem Qa:R8 tt ZQ σ H B=tt σ H fun c H1=>if c=true then ZQ σ H1 B else B false H1:=rfl
theorem TK:Ut tt ZQ σ H B=tt σ H fun c H1=>if c=true then B true H1 else ZQ σ H1 B:=rfl
theorem QP:Sj tt σ H B=tt σ H fun c H1=>B (!c) H1:=rfl
theorem Jj:BG r r' ta tb tc σ H Q=ta σ H fun x H1=>tb σ H1 fun y H2=>r x y H2 fun z H3=>Kh z fun k=>if k=true then tc σ H3 fun w' H4=>r' y w' H4 Q else Q (.bl false) H3:=by simp only[BG,tN]
theorem TL{q:V->Option Int->Option Int->Hp->VK->Prop}:Uu q te tl th σ H Q=te σ H fun x H1=>tl σ H1 fun l H2=>th σ H2 fun u H3=>q x l u H3 Q:=rfl
theorem HB{k:Int->Prop}:(∃ i,v=.int i/\k i)=eY v k:=propext ⟨fun⟨i,e,h⟩=>by subst e;exact h,eC⟩
theorem NA{O:Option Int->Hp->Prop}:Ir te σ H O=te σ H fun x H1=>eY x fun i=>O (some i) H1:=by simp only[Ir,HB]
theorem GG{O:Option Int->Hp->Prop}:Ex σ H O=O none H:=rfl
theorem M6{s:TSet}{N:St->Hp->Prop}:Ra to ti s v σ H N=to σ H fun o H1=>ti σ H1 fun i H2=>s o i v H2 fun H3=>N σ H3:=rfl
theorem M5{N:St->Hp->Prop}:N9 [] σ H N=N σ H:=by simp[N9]
theorem JA{N:St->Hp->Prop}:Lq g gs (v::vs) σ H N=g v σ H fun σ' H'=>gs vs σ' H' N:=propext ⟨fun⟨_,_,e,h⟩=>by cases e;exact h,fun h=>⟨_,_,rfl,h⟩⟩
theorem MZ:PN ta tb σ H Q=ta σ H fun x H1=>aX x fun a=>dA (H1 a) fun _=>tb σ H1 fun y H2=>dA (H2 a) fun UG=>dY (mH y) fun k=>Q ((dP UG k).getD .UK) H2:=rfl
theorem Qw:S9 ta tb σ H Q=ta σ H fun x H1=>tb σ H1 fun y H2=>aX x fun a=>dA (H2 a) fun UG=>dY (mH y) fun k=>dY (dP UG k) fun v=>Q v H2:=rfl
theorem QW:Tj ta tb tc D σ H=tc σ H fun v H1=>ta σ H1 fun x H2=>tb σ H2 fun y H3=>aX x fun a=>dA (H3 a) fun UG=>dY (mH y) fun k=>UG.length < sizeLine/\D.nx σ (UH H3 a (.dK (j6 UG k v))):=rfl
theorem Qb:PB to te σ H Q=to σ H fun x H1=>aX x fun a=>bR (H1 a) fun _=>te σ H1 fun y H2=>bR (H2 a) fun xs=>xs.length < sizeLine/\Q .UK (UH H2 a (.lst (xs++[y]))):=rfl
theorem QV:Ti to σ H Q=to σ H fun x H1=>aX x fun a=>bR (H1 a) fun xs=>dY (xs[xs.length - 1]?) fun y=>Q y (UH H1 a (.lst xs.dropLast)):=rfl
theorem Lm{α:Type}{z:α}{k:α->Prop}{u:Tg k}:@dY _ (some z) k u=k z:=rfl
theorem QT{k:Bool->Prop}{u:Tg k}:@Kh (.bl b) k u=k b:=rfl
theorem JH{k:Addr->Prop}{u:Tg k}:@aX (.ref p) k u=k p:=rfl
theorem JF{k:Int->Prop}{u:Tg k}:@eY (.int i) k u=k i:=rfl
theorem JG{k:List V->Prop}{u:Tg k}:@bR (some (.lst vs)) k u=k vs:=rfl
theorem GH{k:List V->Prop}{u:Tg k}:@mC (some (.lst vs)) k u=k vs:=rfl
theorem GI{k:List V->Prop}{u:Tg k}:@mC (some (.tup vs)) k u=k vs:=rfl
theorem JE{UG:List (Key×V)}{k:List (Key×V)->Prop}{u:Tg k}:@dA (some (.dK UG)) k u=k UG:=rfl
theorem QB:Td (.ref p) w H Q=mC (H p) fun xs=>eY w fun i=>dY (oS xs i) fun v=>Q v H:=rfl
theorem QC:Td (.str x) w H Q=eY w fun i=>x.length<=sizeLine/\dY (oS x.cps.toList i) fun c=>Q (.str ⟨#[c]⟩) H:=rfl
theorem Mt:EI (.int i) (.int j) H Q=Q (.int (i+j)) H:=rfl
theorem Mv:EI (.str x) (.str y) H Q=(x.length+y.length<=sizeLine/\Q (.str (x++y)) H):=rfl
theorem Mu:EI (.ref a) (.ref p) H Q=EJ H Q a (H a) (H p):=rfl
theorem MD{us:List V}:EJ H Q a (some (.lst vs)) (some (.lst us))=(vs.length+us.length<=sizeLine/\∀ p,H p=none->Q (.ref p) (UH H p (.lst (vs++us)))):=rfl
theorem Q3{lo hi:Option Int}:SV (.str x) lo hi H Q=(x.length<=sizeLine/\Q (.str (Txt.slice x lo hi)) H):=rfl
theorem Q2{lo hi:Option Int}:SV (.ref a) lo hi H Q=FU lo hi H Q (H a):=rfl
theorem MH{lo hi:Option Int}:FU lo hi H Q (some (.lst vs)) = ∀ p,H p=none->Q (.ref p) (UH H p (.lst (k6 vs lo hi))):=rfl
theorem Np:Jc [.str x] H Q=(x.length<=sizeLine/\Q (.int x.length) H):=rfl
theorem Nn:Jc [.ref p] H Q=mC (H p) fun xs=>Q (.int xs.length) H:=rfl
theorem Q1{N:Hp->Prop}:P4 (.ref p) (.int i) v H N=bR (H p) fun xs=>dY (CV xs.length i) fun j=>N (UH H p (.lst (xs.set j v))):=rfl
theorem Tw{neg:Bool}:Tb neg v (.ref p) H Q=mC (H p) fun xs=>cN v=true/\xs.all cN=true/\Q (.bl (if neg=true then !cR v xs else cR v xs)) H:=rfl
theorem MK:PF [.ref a] H Q=dA (H a) fun UG=>∀ p,H p=none->Q (.ref p) (UH H p (.dK UG)):=rfl
theorem Nj:mH (.int i)=some (.inl i):=rfl
theorem Nl:mH (.str x)=some (.inr x):=rfl
theorem Nk:mH .UK=some .no:=rfl
theorem kL{α:Type}{xs:List α}{k:Nat}:oS xs (OfNat.ofNat k)=xs[k]?:=by
 show oS xs ((k:Nat):Int)=xs[k]?;cases e:xs[k]? with
 | some z=>exact vD e
 | none =>
  have:=List.getElem?_eq_none_iff.mp e;unfold oS CV;rw[if_pos (by omega),if_neg (by omega)];rfl
theorem Qd{α:Type}{xs:List α}:oS xs 0=xs[0]?:=kL (k:=0)
theorem Qe{α:Type}{xs:List α}:oS xs 1=xs[1]?:=kL (k:=1)
theorem Qf{α:Type}{xs:List α}:oS xs 2=xs[2]?:=kL (k:=2)
theorem Qg{α:Type}{xs:List α}:oS xs 3=xs[3]?:=kL (k:=3)
theorem Qh{α:Type}{xs:List α}:oS xs 4=xs[4]?:=kL (k:=4)
theorem Qi{α:Type}{xs:List α}:oS xs 5=xs[5]?:=kL (k:=5)
theorem Qj{α:Type}{xs:List α}:oS xs 6=xs[6]?:=kL (k:=6)
theorem Qk{α:Type}{xs:List α}:oS xs 7=xs[7]?:=kL (k:=7)
theorem Ql{α:Type}{xs:List α}:oS xs 8=xs[8]?:=kL (k:=8)
theorem Qm{α:Type}{xs:List α}:oS xs 9=xs[9]?:=kL (k:=9)
theorem Mx{α:Type}{xs:List α}:oS xs 10=xs[10]?:=kL (k:=10)
theorem My{α:Type}{xs:List α}:oS xs 11=xs[11]?:=kL (k:=11)
theorem Mz{α:Type}{xs:List α}:oS xs 12=xs[12]?:=kL (k:=12)
theorem Jk:CMul 1 j=True:=eq_true (.inl ⟨by decide,by decide⟩)
theorem Jl:CMul 2 j=True:=eq_true (.inl ⟨by decide,by decide⟩)
theorem Jm:CMul 3 j=True:=eq_true (.inl ⟨by decide,by decide⟩)
theorem Gj:CMul 10 j=True:=eq_true (.inl ⟨by decide,by decide⟩)
theorem Js:CPow 10 6=True:=eq_true ⟨by decide,by decide,by decide⟩
theorem Jt:CPow 10 9=True:=eq_true ⟨by decide,by decide,by decide⟩
theorem Gn:CPow 10 12=True:=eq_true ⟨by decide,by decide,by decide⟩
theorem Gp:CPow 10 18=True:=eq_true ⟨by decide,by decide,by decide⟩
theorem Gq:CPow 10 30=True:=eq_true ⟨by decide,by decide,by decide⟩
theorem Gr:CPow 10 40=True:=eq_true ⟨by decide,by decide,by decide⟩
theorem Gs:CPow 10 45=True:=eq_true ⟨by decide,by decide,by decide⟩
theorem Ng{m:Nat}:CV (m+1) 0=some 0:=by simp[CV]<;>omega
theorem Nh{m:Nat}:CV (m+2) 1=some 1:=by simp[CV]<;>omega
theorem M9:Ja [.int i] H Q=Q (.int i) H:=rfl
theorem M8:Ja [.bl b] H Q=Q (.int (if b=true then 1 else 0)) H:=rfl
theorem Tz:PU v .UK H Q=Q (.bl (decide (v=.UK))) H:=by cases v<;>rfl
theorem JB:Lg v .UK H Q=Q (.bl (!decide (v=.UK))) H:=by cases v<;>rfl
theorem QH:Mo [.int i,.int j] H Q=Q (.int (if j > i then j else i)) H:=rfl
theorem QI:Te [.int i,.int j] H Q=Q (.int (if j < i then j else i)) H:=rfl
theorem P8:S7 [.int i] H Q=Q (.int (if i < 0 then -i else i)) H:=rfl
theorem yY:eB [(.int i),.ty "int"] H Q=Q (.bl true) H:=by simp[eB,Bd,dY]
theorem A5:eB [(.bl b),.ty "int"] H Q=Q (.bl true) H:=by simp[eB,Bd,dY]
theorem y6:eB [(.str x),.ty "int"] H Q=Q (.bl false) H:=by simp[eB,Bd,dY]
theorem yZ:eB [.UK,.ty "int"] H Q=Q (.bl false) H:=by simp[eB,Bd,dY]
theorem y4:eB [.ref p,.ty "int"] H Q=dY (gP (H p) "int") fun b=>Q (.bl b) H:=rfl
theorem wL:eB [(.int i),.ty "bool"] H Q=Q (.bl false) H:=by simp[eB,Bd,dY]
theorem yX:eB [(.bl b),.ty "bool"] H Q=Q (.bl true) H:=by simp[eB,Bd,dY]
theorem wO:eB [(.str x),.ty "bool"] H Q=Q (.bl false) H:=by simp[eB,Bd,dY]
theorem wM:eB [.UK,.ty "bool"] H Q=Q (.bl false) H:=by simp[eB,Bd,dY]
theorem wN:eB [.ref p,.ty "bool"] H Q=dY (gP (H p) "bool") fun b=>Q (.bl b) H:=rfl
theorem y7:eB [(.int i),.ty "str"] H Q=Q (.bl false) H:=by simp[eB,Bd,dY]
theorem A6:eB [(.bl b),.ty "str"] H Q=Q (.bl false) H:=by simp[eB,Bd,dY]
theorem zA:eB [(.str x),.ty "str"] H Q=Q (.bl true) H:=by simp[eB,Bd,dY]
theorem y8:eB [.UK,.ty "str"] H Q=Q (.bl false) H:=by simp[eB,Bd,dY]
theorem y9:eB [.ref p,.ty "str"] H Q=dY (gP (H p) "str") fun b=>Q (.bl b) H:=rfl
theorem uZ:eB [(.int i),.ty "tuple"] H Q=Q (.bl false) H:=by simp[eB,Bd,dY]
theorem wQ:eB [(.bl b),.ty "tuple"] H Q=Q (.bl false) H:=by simp[eB,Bd,dY]
theorem u4:eB [(.str x),.ty "tuple"] H Q=Q (.bl false) H:=by simp[eB,Bd,dY]
theorem u0:eB [.UK,.ty "tuple"] H Q=Q (.bl false) H:=by simp[eB,Bd,dY]
theorem u3:eB [.ref p,.ty "tuple"] H Q=dY (gP (H p) "tuple") fun b=>Q (.bl b) H:=rfl
theorem Gz:gP (some (.lst vs)) "int"=some false:=by simp[gP]
theorem GB:gP (some (.tup vs)) "int"=some false:=by simp[gP]
theorem EU:gP (some (.lst vs)) "bool"=some false:=by simp[gP]
theorem EV:gP (some (.tup vs)) "bool"=some false:=by simp[gP]
theorem GA:gP (some (.lst vs)) "str"=some false:=by simp[gP]
theorem GC:gP (some (.tup vs)) "str"=some false:=by simp[gP]
theorem C6:gP (some (.lst vs)) "tuple"=some false:=by simp[gP]
theorem C7:gP (some (.tup vs)) "tuple"=some true:=by simp[gP]
theorem Gx{UG:List (Key×V)}:gP (some (.dK UG)) "int"=some false:=by simp[gP]
theorem ET{UG:List (Key×V)}:gP (some (.dK UG)) "bool"=some false:=by simp[gP]
theorem Gy{UG:List (Key×V)}:gP (some (.dK UG)) "str"=some false:=by simp[gP]
theorem Qo{c:Prop}[Decidable c]{P R:Prop}:(if (decide c)=true then P else R)=if c then P else R:=by
 by_cases h:c<;>simp[h]
theorem Qp{c:Prop}[Decidable c]{P R:Prop}:(if (!decide c)=true then P else R)=if c then R else P:=by
 by_cases h:c<;>simp[h]
theorem Nf{P R:Prop}:(if true=true then P else R)=P:=rfl
theorem Nd{P R:Prop}:(if false=true then P else R)=R:=rfl
end
theorem TQ{a b:Prop}[Decidable a][Decidable b]{P R:Prop}:(if a then P else if b then P else R)=if a\/b then P else R:=by
 by_cases ha:a<;>by_cases hb:b<;>simp[ha,hb]
theorem Kp.at1{r a:Addr}{H H':Hp}{o:HO}(x:Kp [r] H H')(e:H a=some o)(n:a≠r):H' a=some o:=x a o e (by simpa using n)
theorem dB{xs:List V}{i:Int}{k:V->Prop}(h0:0<=i)(h1:i < (xs.length:Int))(q:∀ v∈xs,k v):dY (oS xs i) k:=by
 have hk:i.toNat < xs.length:=by omega
 have ek:i=((i.toNat:Nat):Int):=by omega
 have e:oS xs ((i.toNat:Nat):Int)=some xs[i.toNat]:=vD (List.getElem?_eq_getElem hk);rw[<- ek] at e;rw[e];exact q _ (List.getElem_mem hk)
theorem Ei{x:Str}{i:Int}{k:Nat->Prop}(h0:0<=i)(h1:i < (x.length:Int))(q:∀ c∈x.cps.toList,k c):dY (oS x.cps.toList i) k:=by
 have hl:x.cps.toList.length=x.length:=by simp[Str.length]
 have hk:i.toNat < x.cps.toList.length:=by omega
 have ek:i=((i.toNat:Nat):Int):=by omega
 have e:oS x.cps.toList ((i.toNat:Nat):Int)=some x.cps.toList[i.toNat]:=vD (List.getElem?_eq_getElem hk);rw[<- ek] at e;rw[e];exact q _ (List.getElem_mem hk)
noncomputable def on1(vs:List V)(k:V->Prop)(_u:Tg k:=()):Prop:=match vs with
 | [v]=>k v
 | _=>False
noncomputable def lp(J:It)(g:TG)(tb:TS)(D:Ends)(σ:St)(H:Hp):Prop:=∃ W:Nat->Nat->St->Hp->Prop,(∃ m,W 0 m σ H)/\∀ i m σ H,W i m σ H ->
 (J.stop i H/\D.nx σ H)\/(J.go i H/\∃ N:St->Hp->Prop,(∀ σ' H',N σ' H'->∃ m',m' < m/\W (i+1) m' σ' H')/\∀ x H',J.yld i H x H'->g x σ H' fun σ2 H2=>tb {D with nx:=N,ct:=N,bk:=D.nx} σ2 H2)
section
variable {σ:St} {H:Hp} {D:Ends} {g:TG} {tb:TS} {as:TA} {te:TE} {K:q0B} {v w:V}
theorem QQ{k:V->Prop}{u:Tg k}:@on1 [v] k u=k v:=rfl
theorem Jy:uA (Cb as) g tb D σ H=as σ H fun vs H1=>on1 vs fun v=>eY v fun j=>(-(2 ^ 62)<=j/\j < 2 ^ 62)/\lp (V0 0 j.toNat) g tb D σ H1:=by
 unfold uA Cb
 congr 1
 funext vs H1;refine propext ⟨fun⟨j,e,h1,h2,h⟩=>by subst e;exact⟨⟨h1,h2⟩,h⟩,fun h=>?_⟩;unfold on1 at h;split at h
 ·obtain⟨j,rfl,⟨h1,h2⟩,h⟩:=eC h;exact⟨j,rfl,h1,h2,h⟩
 ·exact h.elim
noncomputable def on2(vs:List V)(k:V->V->Prop)(_u:Tg k:=()):Prop:=match vs with
 | [v,w]=>k v w
 | _=>False
theorem QR{k:V->V->Prop}{u:Tg k}:@on2 [v,w] k u=k v w:=rfl
theorem Jz:uA (Ls as) g tb D σ H=as σ H fun vs H1=>on2 vs fun v w=>eY v fun i=>eY w fun j=>(-(2 ^ 62)<=i/\i < 2 ^ 62/\-(2 ^ 62)<=j/\j < 2 ^ 62)/\lp (V0 i (j - i).toNat) g tb D σ H1:=by
 unfold uA Ls
 congr 1
 funext vs H1;refine propext ⟨fun⟨i,j,e,h1,h⟩=>by subst e;exact⟨h1,h⟩,fun h=>?_⟩;unfold on2 at h;split at h
 ·obtain⟨i,rfl,h'⟩:=eC h;obtain⟨j,rfl,h1,h''⟩:=eC h';exact⟨i,j,rfl,h1,h''⟩
 ·exact h.elim
theorem MV:uA (Ca K te) g tb D σ H=te σ H fun x H1=>aX x fun a=>(∃ xs,dU K H1 a xs)/\lp (Wc K a) g tb D σ H1:=by
 unfold uA Ca
 congr 1
 funext x H1;exact propext ⟨fun⟨a,e,h1,h⟩=>by subst e;exact⟨h1,h⟩,fun h=>by obtain⟨a,rfl,h1,h⟩:=bK h;exact⟨a,rfl,h1,h⟩⟩
theorem MW:uA (G8 K te) g tb D σ H=te σ H fun x H1=>aX x fun a=>(∃ xs,gS K H1 a xs)/\lp (Xi K a) g tb D σ H1:=by
 unfold uA G8
 congr 1
 funext x H1;exact propext ⟨fun⟨a,e,h1,h⟩=>by subst e;exact⟨h1,h⟩,fun h=>by obtain⟨a,rfl,h1,h⟩:=bK h;exact⟨a,rfl,h1,h⟩⟩
theorem MX:uA (Rh K as) g tb D σ H=as σ H fun vs H1=>on1 vs fun x=>aX x fun a=>∃ xs,dU K H1 a xs/\lp (Itv K a xs.length) g tb D σ H1:=by
 unfold uA Rh
 congr 1
 funext vs H1;refine propext ⟨fun⟨a,xs,e,h1,h⟩=>by subst e;exact⟨xs,h1,h⟩,fun h=>?_⟩;unfold on1 at h;split at h
 ·obtain⟨a,rfl,xs,h1,h⟩:=bK h;exact⟨a,xs,rfl,h1,h⟩
 ·exact h.elim
end
noncomputable def lc(J:It)(fr:List Nat)(tc:TT)(te:TE)(σ:St)(H:Hp)(Q:VK):Prop:=∃ W:Nat->Nat->List V->Hp->Prop,(∃ m,W 0 m [] H)/\∀ i m xs H,W i m xs H->xs.length<=1000000 /\
  ((J.stop i H/\∀ p,H p=none->Q (.ref p) (UH H p (.lst xs))) \/
   (J.go i H/\∀ y H',J.yld i H y H'->tc (some y::bJ fr σ) H' fun b H2=>if b=true then te (some y::bJ fr σ) H2 (fun z H3=>∃ m',m' < m/\W (i+1) m' (xs++[z]) H3) else ∃ m',m' < m/\W (i+1) m' xs H2))
section
variable {fr:List Nat} {tc:TT} {te tl:TE} {σ:St} {H H1:Hp} {Q:VK} {as:TA} {K:q0B}
theorem Jp:jG (Cb as) fr tc te σ H Q=as σ H fun vs H1=>on1 vs fun v=>eY v fun j=>(-(2 ^ 62)<=j/\j < 2 ^ 62)/\lc (V0 0 j.toNat) fr tc te σ H1 Q:=by
 unfold jG Cb
 congr 1
 funext vs H1;refine propext ⟨fun⟨j,e,h1,h2,h⟩=>by subst e;exact⟨⟨h1,h2⟩,h⟩,fun h=>?_⟩;unfold on1 at h;split at h
 ·obtain⟨j,rfl,⟨h1,h2⟩,h⟩:=eC h;exact⟨j,rfl,h1,h2,h⟩
 ·exact h.elim
theorem Jo:jG (Ca K tl) fr tc te σ H Q=tl σ H fun x H1=>aX x fun a=>(∃ xs,dU K H1 a xs)/\lc (Wc K a) fr tc te σ H1 Q:=by
 unfold jG Ca
 congr 1
 funext x H1;exact propext ⟨fun⟨a,e,h1,h⟩=>by subst e;exact⟨h1,h⟩,fun h=>by obtain⟨a,rfl,h1,h⟩:=bK h;exact⟨a,rfl,h1,h⟩⟩
noncomputable def gD(x:V)(k:Str->Prop)(_u:Tg k:=()):Prop:=match x with
 | .str p=>k p
 | _=>False
theorem JI{x:Str}{k:Str->Prop}{u:Tg k}:@gD (.str x) k u=k x:=rfl
theorem Jq:jG (Od tl) fr tc te σ H Q=tl σ H fun x H1=>gD x fun z=>lc (Xs z) fr tc te σ H1 Q:=by
 unfold jG Od
 congr 1
 funext x H1;refine propext ⟨fun⟨a,e,h⟩=>by subst e;exact h,fun h=>?_⟩;cases x with
 | str z=>exact⟨z,rfl,h⟩
 | _=>exact h.elim
theorem NU{B:Bool->Hp->Prop}:LJ σ H B=B true H:=rfl
theorem Qq:bJ [] σ=[]:=rfl
theorem DS{n:Nat}{Pv:Nat->List V->Hp->Prop}{i:Nat}{xs:List V}(hi:i < n):(∃ m',m' < n - i/\cW n Pv (i+1) m' xs H)=Pv (i+1) xs H :=
 propext ⟨fun⟨_,_,_,_,h⟩=>h,fun h=>cW.next hi h⟩
theorem Ci{lo:Int}{n:Nat}(Pv:Nat->List V->Hp->Prop)(h0:Pv 0 [] H)(hz:∀ i xs H,Pv i xs H->xs.length<=1000000)
    (hs:∀ i xs H,i < n->Pv i xs H->tc (some (.int (lo+i))::bJ fr σ) H fun b H2=>if b=true then te (some (.int (lo+i))::bJ fr σ) H2 (fun z H3=>Pv (i+1) (xs++[z]) H3) else Pv (i+1) xs H2)
    (hd:∀ xs H,Pv n xs H->∀ p,H p=none->Q (.ref p) (UH H p (.lst xs))):lc (V0 lo n) fr tc te σ H Q :=
  C5 Pv h0 hz (fun i xs H hi h=>by simp only[DS hi];exact hs i xs H hi h) hd
theorem vI{a:Addr}{ys:List V}(Pv:Nat->List V->Hp->Prop)(h0:Pv 0 [] H)(hz:∀ i xs H,Pv i xs H->xs.length<=1000000)(hl:∀ i xs H,Pv i xs H->dU K H a ys)
    (hs:∀ i y xs H,i < ys.length->ys[i]?=some y->Pv i xs H->tc (some y::bJ fr σ) H fun b H2=>if b=true then te (some y::bJ fr σ) H2 (fun z H3=>Pv (i+1) (xs++[z]) H3) else Pv (i+1) xs H2)
    (hd:∀ xs H,Pv ys.length xs H->∀ p,H p=none->Q (.ref p) (UH H p (.lst xs))):lc (Wc K a) fr tc te σ H Q :=
  ES Pv h0 hz hl (fun i y xs H hi e h=>by simp only[DS hi];exact hs i y xs H hi e h) hd
theorem Hh{x:Str}(Pv:Nat->List V->Hp->Prop)(h0:Pv 0 [] H)(hz:∀ i xs H,Pv i xs H->xs.length<=1000000)
    (hs:∀ i c xs H,i < x.cps.size->x.cps[i]?=some c->Pv i xs H->tc (some (.str ⟨#[c]⟩)::bJ fr σ) H fun b H2=>if b=true then te (some (.str ⟨#[c]⟩)::bJ fr σ) H2 (fun z H3=>Pv (i+1) (xs++[z]) H3) else Pv (i+1) xs H2)
    (hd:∀ xs H,Pv x.cps.size xs H->∀ p,H p=none->Q (.ref p) (UH H p (.lst xs))):lc (Xs x) fr tc te σ H Q :=
  Gf Pv h0 hz (fun i c xs H hi e h=>by simp only[DS hi];exact hs i c xs H hi e h) hd
end
noncomputable def Jh(kb:List (Key×V)):List (Key×V)->Bool
 | []=>true
 | (k,v)::r=>match dP kb k with
  | none=>false
  | some y=>B4 v y&&Jh kb r
mutual
inductive yR(K:q0B)(H:Hp):Nat->V->V->Bool->Prop
 | flat {n:Nat} {x y:V}:cN x=true->cN y=true->yR K H n x y (B4 x y)
 | same {n:Nat} {a:Addr}:yR K H n (.ref a) (.ref a) true
 | refs {n:Nat} {a b:Addr} {r:Bool}:a≠b->uD K H n a b r->yR K H n (.ref a) (.ref b) r
inductive uD(K:q0B)(H:Hp):Nat->Addr->Addr->Bool->Prop
 | list {n:Nat} {a b:Addr} {xs ys:List V} {e:Nat->Bool}:dU K H a xs->dU K H b ys->xs.length=ys.length->(∀ j x y,xs[j]?=some x->ys[j]?=some y->yR K H n x y (e j))->uD K H (n+1) a b ((List.range xs.length).all e)
 | U4 {n:Nat} {a b:Addr} {xs ys:List V}:dU K H a xs->dU K H b ys->xs.length≠ys.length->uD K H (n+1) a b false
 | tup {n:Nat} {a b:Addr} {xs ys:List V} {e:Nat->Bool}:gS K H a xs->gS K H b ys->(∀ j x y,xs[j]?=some x->ys[j]?=some y->yR K H n x y (e j))->uD K H (n+1) a b ((List.range (min xs.length ys.length)).all e&&xs.length==ys.length)
end
section
variable {X:Cx} {UE:List (Addr×Obj)} {σ:St} {H:Hp} {s:Shared}
theorem jL{xs:List V}{UJ:List Value}(r:Vals xs UJ){j:Nat}(h:j < UJ.toArray.size):∃ x,xs[j]?=some x/\bU x UJ.toArray[j]:=by
 have hj:j < xs.length:=by have:=r.length;simp only[List.size_toArray] at h;omega
 have e:=List.getElem?_eq_getElem hj;obtain⟨u,g,ru⟩:=r.get e;refine⟨_,e,?_⟩;obtain⟨_,q⟩:=List.getElem?_eq_some_iff.mp g;have:UJ.toArray[j]=u:=by simpa using q
 rw[this];exact ru
theorem D2:∀(n:Nat),(∀ {a b:Addr} {r:Bool},uD X.K H n a b r->∀ {A:Around},UI X UE σ H s->A.units+n < cLine->SeqAt.RcAt A s (.ref a) (.ref b) r)/\(∀ {x y:V} {b:Bool},yR X.K H n x y b->∀ {A:Around} {v u:Value},UI X UE σ H s->bU x v->bU y u->A.units+n < cLine->SeqAt.EqAt A s v u b):=by
 intro n;have up:∀ {n:Nat},(∀ {a b:Addr} {r:Bool},uD X.K H n a b r->∀ {A:Around},UI X UE σ H s->A.units+n < cLine->SeqAt.RcAt A s (.ref a) (.ref b) r)->(∀ {x y:V} {b:Bool},yR X.K H n x y b->∀ {A:Around} {v u:Value},UI X UE σ H s->bU x v->bU y u->A.units+n < cLine->SeqAt.EqAt A s v u b):=by
  intro n rc x y b h A v u I rx ry hu;cases h with
  | flat fx fy=>exact GO rx ry fx fy
  | same =>
   cases rx;cases ry;exact SeqAt.EqAt.same _
  | refs ne h =>
   cases rx;cases ry;exact SeqAt.EqAt.of_refs ne (rc h I hu)
 suffices g:∀ {a b:Addr} {r:Bool},uD X.K H n a b r->∀ {A:Around},UI X UE σ H s->A.units+n < cLine->SeqAt.RcAt A s (.ref a) (.ref b) r from ⟨g,up g⟩
 induction n with
 | zero=>intro a b r h;cases h
 | succ n ih =>
  intro a b r h A I hu;have ih:=@up n @ih;cases h with
  | list hx hy hl he =>
   obtain⟨UJ,r1,p1,z1⟩:=I.list hx;obtain⟨XN,r2,p2,z2⟩:=I.list hy;have l1:=r1.length;have l2:=r2.length;have:=SeqAt.RcAt.lists p1.isList p2.isList (by simp only[List.size_toArray];omega) (by omega) (A:=A) (fun j h1 h2=>by
    obtain⟨x,ex,rx⟩:=jL r1 h1;obtain⟨y,ey,ry⟩:=jL r2 h2;exact ih (he j x y ex ey) I rx ry (by show A.units+1+_ < _;omega))
   rw[List.size_toArray,<- l1] at this;exact this
  | U4 hx hy hl =>
   obtain⟨UJ,r1,p1,z1⟩:=I.list hx;obtain⟨XN,r2,p2,z2⟩:=I.list hy;have l1:=r1.length;have l2:=r2.length;exact SeqAt.RcAt.lists_lengths p1.isList p2.isList (by simp only[List.size_toArray,bne_iff_ne,ne_eq];omega) (by omega)
  | tup hx hy he =>
   obtain⟨UJ,r1,p1,z1⟩:=I.tuple hx;obtain⟨XN,r2,p2,z2⟩:=I.tuple hy;have l1:=r1.length;have l2:=r2.length;have:=SeqAt.RcAt.tuples (show s.heap.IsTuple _ UJ.toArray from p1) (show s.heap.IsTuple _ XN.toArray from p2) (by omega) (A:=A) (fun j h1 h2=>by
    obtain⟨x,ex,rx⟩:=jL r1 h1;obtain⟨y,ey,ry⟩:=jL r2 h2;exact ih (he j x y ex ey) I rx ry (by show A.units+1+_ < _;omega))
   rw[List.size_toArray,List.size_toArray,<- l1,<- l2] at this;exact this
theorem GN{n:Nat}{x y:V}{b:Bool}(h:yR X.K H n x y b){A:Around}{v u:Value}(I:UI X UE σ H s)(rx:bU x v)(ry:bU y u)(hu:A.units+n < cLine):SeqAt.EqAt A s v u b:=(D2 n).2 h I rx ry hu
theorem OT{n:Nat}{a b:Addr}{r:Bool}(h:uD X.K H n a b r){A:Around}(I:UI X UE σ H s)(hu:A.units+n < cLine):SeqAt.RcAt A s (.ref a) (.ref b) r:=(D2 n).1 h I hu
end
noncomputable def Ui(P:Program)(W:World)(A:Around)(s:Shared)(y x:Value)(r:Bool):Prop:=∀(E:q0A) (Q:Bool->Shared->Prop),Q r s->wpAny (model P W) A (eqBool y x) Q E s
theorem Ui.of{P:Program}{W:World}{A:Around}{s:Shared}{y x:Value}{r:Bool}(h:SeqAt.EqAt A s y x r):Ui P W A s y x r:=h P W
noncomputable def Th:R2:=fun x y H Q=>aX x fun a=>aX y fun b=>bR (H a) fun xs=>bR (H b) fun ys=>ys=[]/\Q (.bl (!xs.isEmpty)) H
inductive UT(H:Hp):List V->List V->Bool->Prop
  | nil:UT H [] [] true
  | cons {a b:Addr} {ka kb:List (Key×V)} {xs ys:List V} {r:Bool}:a≠b->H a=some (.dK ka)->H b=some (.dK kb)->(ka.all fun kv=>cN kv.2)=true->(kb.all fun kv=>cN kv.2)=true->UT H xs ys r ->
      UT H (.ref a::xs) (.ref b::ys) ((ka.length==kb.length&&Jh kb ka)&&r)
theorem UT.len{H:Hp}{xs ys:List V}{r:Bool}(h:UT H xs ys r):xs.length=ys.length:=by
 induction h with
 | nil=>rfl
 | cons _ _ _ _ _ _ ih=>simp[ih]
theorem UT.at{H:Hp}{xs ys:List V}{r:Bool}(h:UT H xs ys r):∃ f:Nat->Bool,(List.range xs.length).all f=r/\∀ j x y,xs[j]?=some x->ys[j]?=some y->∃ a b ka kb,x=.ref a/\y=.ref b/\a≠b/\H a=some (.dK ka)/\H b=some (.dK kb)/\(ka.all fun kv=>cN kv.2)=true/\(kb.all fun kv=>cN kv.2)=true/\f j=(ka.length==kb.length&&Jh kb ka):=by
 induction h with
 | nil=>exact⟨fun _=>true,rfl,fun j x y e=>by simp at e⟩
 | @cons a b ka kb xs ys r ne ea eb fa fb _ ih =>
  obtain⟨f,hf,hp⟩:=ih;refine⟨fun j=>match j with|0=>(ka.length==kb.length&&Jh kb ka)|j+1=>f j,?_,?_⟩
  ·rw[List.length_cons,List.range_succ_eq_map,List.all_cons,List.all_map,<- hf];rfl
  ·intro j x y e1 e2;cases j with
   | zero =>
    simp only[List.getElem?_cons_zero,Option.some.injEq] at e1 e2;exact⟨a,b,ka,kb,e1.symm,e2.symm,ne,ea,eb,fa,fb,rfl⟩
   | succ j=>exact hp j x y (by simpa using e1) (by simpa using e2)
noncomputable def Tf:R2:=fun x y H Q=>aX x fun a=>aX y fun b=>bR (H a) fun xs=>bR (H b) fun ys=>∃ r,UT H xs ys r/\Q (.bl (!r)) H
noncomputable def Ri(y:V)(xs:List V):Option Nat:=xs.findIdx? fun z=>B4 z y
section
variable {X:Cx}
variable {o e:Expr} {to te:TE} {apos UM:Pos}
noncomputable def Ta(to te:TE):TE:=fun σ H Q=>to σ H fun x H1=>aX x fun a=>bR (H1 a) fun _=>te σ H1 fun y H2=>bR (H2 a) fun xs=>cN y=true/\xs.all cN=true/\dY (Ri y xs) fun j=>Q (.int j) H2
theorem Qx{σ:St}{H:Hp}{Q:VK}:Ta to te σ H Q=to σ H fun x H1=>aX x fun a=>bR (H1 a) fun _=>te σ H1 fun y H2=>bR (H2 a) fun xs=>cN y=true/\xs.all cN=true/\dY (Ri y xs) fun j=>Q (.int j) H2:=rfl
end
section
variable {H:Hp} {Q:VK} {a b p:Addr} {x:V}
theorem Qs{a b:Bool}:Fw (.bl a) (.bl b) H Q=Q (.bl (decide (a=b))) H:=by simp only[Fw,show scal (.bl a) (.bl b)=true from rfl,V.bl.injEq,true_and]
theorem MR:Fw .UK .UK H Q=Q (.bl true) H:=by simp only[Fw,show scal .UK .UK=true from rfl,decide_true,true_and]
theorem MQ{i:Int}:Fw .UK (.int i) H Q=Q (.bl false) H:=by simp only[Fw,show scal .UK (.int i)=true from rfl,reduceCtorEq,decide_false,true_and]
theorem MP{i:Int}:Fw (.int i) .UK H Q=Q (.bl false) H:=by simp only[Fw,show scal (.int i) .UK=true from rfl,reduceCtorEq,decide_false,true_and]
theorem NI{K:q0B}{lo hi:Option Int}:OS K (.ref a) lo hi H Q = ∃ xs,dU K H a xs/\∀ p,H p=none->Q (.ref p) (UH H p (.lst (k6 xs lo hi))):=by simp[OS]
theorem M7{K:q0B}{n:Nat}{t:TGs}{σ:St}{N:St->Hp->Prop}:Oa K n t (.ref a) σ H N = ∃ xs,gS K H a xs/\xs.length=n/\t xs σ H N:=by simp[Oa]
theorem Tq:((0:Nat):Int)=0:=rfl
theorem Tr:((1:Nat):Int)=1:=rfl
theorem Tt:((2:Nat):Int)=2:=rfl
theorem QM:Th (.ref a) (.ref b) H Q=bR (H a) fun xs=>bR (H b) fun ys=>ys=[]/\Q (.bl (!xs.isEmpty)) H:=rfl
theorem QL:Tf (.ref a) (.ref b) H Q=bR (H a) fun xs=>bR (H b) fun ys=>∃ r,UT H xs ys r/\Q (.bl (!r)) H:=rfl
end
noncomputable def jA(o:Option HO)(k:List V->Prop)(_u:Tg k:=()):Prop:=match o with
 | some (.tup xs)=>k xs
 | _=>False
theorem CA{o:Option HO}{k:List V->Prop}(h:jA o k):∃ xs,o=some (.tup xs)/\k xs:=by
 unfold jA at h;split at h
 ·exact⟨_,rfl,h⟩
 ·exact h.elim
noncomputable def Lk:R2:=fun x y H Q=>aX x fun a=>aX y fun b=>jA (H a) fun xs=>jA (H b) fun ys=>xs.length+ys.length<=sizeLine/\(if xs=[] then Q y H else if ys=[] then Q x H else ∀ p,H p=none->Q (.ref p) (UH H p (.tup (xs++ys))))
noncomputable def PK:R2:=fun x y H Q=>aX x fun a=>aX y fun b=>jA (H a) fun xs=>jA (H b) fun ys=>ys=[]/\xs.all cN=true/\Q (.bl xs.isEmpty) H
section
variable {X:Cx}
theorem HD:iM X (binaryOp .Add) (fun x y H Q=>∃ a b ys,x=.ref a/\y=.ref b/\gS X.K H a []/\gS X.K H b ys/\Q (.ref b) H):=by
 intro UE s σ H x y v u Q I rx ry h;obtain⟨a,b,ys,rfl,rfl,ha,hb,q⟩:=h;cases rx;cases ry;obtain⟨UJ,r1,p1,_⟩:=I.tuple ha;obtain⟨Vu,r2,p2,_⟩:=I.tuple hb;have l1:UJ=[]:=r1.vL.mpr rfl;obtain⟨⟨c1,d1,t1,o1⟩,ho,rfl,n,rfl⟩:=p1;obtain⟨⟨c2,d2,t2,o2⟩,XH,rfl,n2,rfl⟩:=p2;exact concat_meets ⟨_,ho,rfl⟩ ⟨_,XH,rfl⟩ noFill_tuple_add seq_tuple_add PySem.F.slot_tuple_add PySem.F.entry_tuple_add (PySem.F.args_tuple_add_2 _ _) (tuple_addW0 a b UJ.toArray Vu.toArray n n2 d1 d2 o1 o2 (by simp[l1])) ⟨ho,XH,.ref b,H,I,rfl,q⟩
theorem Ec:iM X (binaryOp .Add) Lk:=(HD.or Eb).imp fun x y H Q h=>by
 obtain⟨a,rfl,h1⟩:=bK h;obtain⟨b,rfl,h2⟩:=bK h1;obtain⟨xs,e1,h3⟩:=CA h2;obtain⟨ys,e2,h4,h5⟩:=CA h3;by_cases c:xs=[]
 ·rw[if_pos c] at h5;subst c;exact .inl ⟨a,b,ys,rfl,rfl,.inl (.inl e1),.inl (.inl e2),h5⟩
 ·rw[if_neg c] at h5;refine .inr ⟨a,b,xs,ys,rfl,rfl,.inl (.inl e1),.inl (.inl e2),c,h4,fun z=>?_,fun z=>?_⟩
  ·rw[if_pos z] at h5;exact h5
  ·rw[if_neg z] at h5;exact h5
end
section
variable {H:Hp} {Q:VK} {a b p:Addr} {vs:List V} {lo hi:Option Int}
theorem JJ{k:List V->Prop}{u:Tg k}:@jA (some (.tup vs)) k u=k vs:=rfl
theorem GK:Lk (.ref a) (.ref b) H Q=jA (H a) fun xs=>jA (H b) fun ys=>xs.length+ys.length<=sizeLine/\(if xs=[] then Q (.ref b) H else if ys=[] then Q (.ref a) H else ∀ p,H p=none->Q (.ref p) (UH H p (.tup (xs++ys)))):=rfl
theorem MS:PK (.ref a) (.ref b) H Q=jA (H a) fun xs=>jA (H b) fun ys=>ys=[]/\xs.all cN=true/\Q (.bl xs.isEmpty) H:=rfl
theorem MI:FU lo hi H Q (some (.tup vs))=(¬ (HT.gI vs.length 0 lo=0/\HT.gI vs.length vs.length hi=vs.length)/\∀ p,H p=none->Q (.ref p) (UH H p (.tup (k6 vs lo hi)))):=rfl
end
section
variable {prog:Program} {w:World} {A:Around} {E:q0A}
end
noncomputable def DP(H:Hp)(xs:List V)(UG:List (Key×V)):Prop:=xs.length=UG.length/\∀(j:Nat) (x:V),xs[j]?=some x->∃(t:Addr) (k:Key) (v:V),x=.ref t/\H t=some (.tup [kV k,v])/\UG[j]?=some (k,v)
noncomputable def Mm:List V->Hp->VK->Prop:=fun vs H Q=>on1 vs fun x=>aX x fun l=>bR (H l) fun xs=>∃ UG,DP H xs UG/\∀ p,H p=none->Q (.ref p) (UH H p (.dK (Hq [] UG)))
noncomputable def Itd(a:Addr)(o:Obj)(UG:List (Key×V)):It :=
 ⟨fun i H=>i < UG.length/\H a=some (.Vf o (.dK UG)),fun i H x H'=>H'=H/\∃ kv,UG[i]?=some kv/\x=kV kv.1,fun i H=>i=UG.length/\H a=some (.Vf o (.dK UG))⟩
theorem KV.at{UG:List (Key×V)}{vs:List (Key×Value)}(r:KV UG vs){i:Nat}{kv:Key×V}(e:UG[i]?=some kv):∃ v,vs[i]?=some (kv.1,v):=by
 unfold KV at r
 induction r generalizing i with
 | nil=>simp at e
 | @cons p q ps qs h t ih=>cases i with
  | zero =>
   have e':p=kv:=by simpa using e
   subst e';exact⟨q.2,by simp[h.1]⟩
  | succ i=>simpa using ih (i:=i) (by simpa using e)
noncomputable def Rg(tl:TE):TI:=fun σ H R=>tl σ H fun x H1=>aX x fun a=>dA (H1 a) fun UG=>∀ o,R (Itd a o UG) (UH H1 a (.Vf o (.dK UG)))
section
variable {fr:List Nat} {tc:TT} {te tl:TE} {σ:St} {H:Hp} {Q:VK}
theorem Jn:jG (Rg tl) fr tc te σ H Q=tl σ H fun x H1=>aX x fun a=>dA (H1 a) fun UG=>∀ o,lc (Itd a o UG) fr tc te σ (UH H1 a (.Vf o (.dK UG))) Q:=by
 unfold jG Rg;rfl
end
section
variable {td ty tx:TE} {σ:St} {H:Hp} {Q:VK} {D:Ends} {a:Addr} {v w x:V}
theorem Cz{k:Addr->Prop}:(∃ a,x=.ref a/\k a)=aX x k:=propext ⟨fun⟨a,e,h⟩=>by subst e;exact h,bK⟩
theorem JM:Il td ty σ H Q=td σ H fun x H1=>aX x fun a=>SU H1 a/\ty σ H1 fun y H2=>∃ o,Vj H2 a y o/\Q (o.getD .UK) H2:=by simp only[Il,Cz]
theorem NG:LG td ty σ H Q=td σ H fun x H1=>ty σ H1 fun y H2=>aX x fun a=>∃ v,Vj H2 a y (some v)/\Q v H2:=by
 unfold LG
 congr 1
 funext x H1
 congr 1
 funext y H2;exact propext ⟨fun⟨a,v,e,h⟩=>by subst e;exact⟨v,h⟩,fun h=>by obtain⟨a,rfl,v,h⟩:=bK h;exact⟨a,v,rfl,h⟩⟩
theorem QZ:Sd ty td σ H Q=ty σ H fun y H1=>td σ H1 fun x H2=>aX x fun a=>∃ o,Vj H2 a y o/\Q (.bl o.isSome) H2:=by
 unfold Sd
 congr 1
 funext y H1
 congr 1
 funext x H2;exact propext ⟨fun⟨a,o,e,h⟩=>by subst e;exact⟨o,h⟩,fun h=>by obtain⟨a,rfl,o,h⟩:=bK h;exact⟨a,o,rfl,h⟩⟩
theorem JN:Im td ty tx σ H Q=td σ H fun x H1=>aX x fun a=>SU H1 a/\ty σ H1 fun y H2=>tx σ H2 fun z H3=>∃ UG k,H3 a=some (.dK UG)/\y=kV k/\(∀ v,dP UG k=some v->Q v (UH H3 a (.dK (Af UG k))))/\(dP UG k=none->Q z H3):=by
 simp only[Im,Cz]
theorem Jv{l:Addr}:Mm [.ref l] H Q=bR (H l) fun xs=>∃ UG,DP H xs UG/\∀ p,H p=none->Q (.ref p) (UH H p (.dK (Hq [] UG))):=rfl
end
noncomputable def pE:List V->Option (List Str)
 | []=>some []
 | .str x::vs=>(pE vs).map (x::·)
 | _::_=>none
theorem t7:∀ ys:List Str,pE (ys.map V.str)=some ys
 | []=>rfl
 | y::ys=>by
  show(pE (ys.map V.str)).map (y::·)=_;rw[t7 ys];rfl
theorem CP:∀ {xs:List V} {ys:List Str},pE xs=some ys->xs=ys.map V.str
 | [],ys,h=>by cases h;rfl
 | x::xs,ys,h=>by
  cases x with
  | str z =>
   simp only[pE,Option.map_eq_some_iff] at h;obtain⟨zs,e,rfl⟩:=h;rw[CP e];rfl
  | _=>cases h
theorem Es:∀ {ys:List Str} {UJ:List Value},Vals (ys.map V.str) UJ->StrsAre UJ ys
 | [],_,.nil=>.nil
 | _::_,_,.cons ⟨_,h⟩ r=>by subst h;exact .cons _ _ (Es r)
theorem AM:∀(ys:List Str) (k:Nat),Vals (ys.map V.str) (strsFrom k ys)
 | [],_=>.nil
 | _::ys,k=>.cons ⟨_,rfl⟩ (AM ys (k+1))
noncomputable def Jd:List V->Hp->VK->Prop:=fun vs H Q=>match vs with
 | [.int i]=>i.natAbs.log2 < 1920/\Q (.str (toString i)) H
 | [.str x]=>Q (.str x) H
 | _=>False
noncomputable def FW:V->List V->Hp->VK->Prop:=fun x vs H Q=>gD x fun sep=>on1 vs fun y=>aX y fun l=>bR (H l) fun xs=>dY (pE xs) fun ys=>(ys.map fun z=>z.length).sum+ys.length * sep.length<=16777216/\Q (.str (Txt.join sep ys)) H
noncomputable def FX:V->List V->Hp->VK->Prop:=fun x vs H Q=>gD x fun z=>on1 vs fun y=>gD y fun sep=>(sep.length==0)=false/\z.length+2<=sizeLine/\∀ l,H l=none->Q (.ref l) (UH H l (.lst ((Txt.split z sep).map V.str)))
noncomputable def FY:List V->Hp->VK->Prop:=fun vs H Q=>on1 vs fun x=>aX x fun p=>bR (H p) fun ys=>∀ l,H l=none->Q (.ref l) (UH H l (.tup ys))
theorem eE{x:V}{k:Str->Prop}(h:gD x k):∃ z,x=.str z/\k z:=by
 unfold gD at h;split at h
 ·exact⟨_,rfl,h⟩
 ·exact h.elim
theorem i0{vs:List V}{k:V->Prop}(h:on1 vs k):∃ v,vs=[v]/\k v:=by
 unfold on1 at h;split at h
 ·exact⟨_,rfl,h⟩
 ·exact h.elim
section
variable {X:Cx}
theorem Aa:eP X (.type "str") Jd:=fun UE s σ H xs us Q I r h=>by
 unfold Jd at h;split at h
 ·exact AY UE s σ H _ us Q I r ⟨_,rfl,h.1,h.2⟩
 ·obtain⟨u,rfl,t,rfl⟩:=vals1 r;exact PySem.P.str_of_str ⟨.str _,H,I,⟨_,rfl⟩,h⟩
 ·exact h.elim
theorem oB:eP X (.type "tuple") FY:=fun UE s σ H xs us Q I r h=>by
 obtain⟨x,rfl,h⟩:=i0 h;obtain⟨p,rfl,h⟩:=bK h;obtain⟨ys,e,h⟩:=eZ h;exact yW UE s σ H _ us Q I r ⟨_,_,rfl,.inl ⟨.inl (.inl e),h⟩⟩
theorem lJ:IK X "str.join" FW:=by
 intro UE s σ H x xs v us Q I rx r h;obtain⟨sep,rfl,h⟩:=eE h;obtain⟨y,rfl,h⟩:=i0 h;obtain⟨l,rfl,h⟩:=bK h;obtain⟨zs,e,h⟩:=eZ h;obtain⟨ys,ey,hz,q⟩:=iI h;cases CP ey;obtain⟨u,rfl,ru⟩:=vals1 r;cases ru;obtain⟨t,rfl⟩:=rx;obtain⟨UJ,r',pl,_⟩:=I.list (.inl (.inl e):dU X.K H l _);exact join_list pl.isList (by simpa using Es r') hz fun t' k=>⟨.str _,H,I.tok _,⟨_,rfl⟩,q⟩
theorem rG:IK X "str.split" FX:=by
 intro UE s σ H x xs v us Q I rx r h;obtain⟨z,rfl,h1⟩:=eE h;obtain⟨y,rfl,h2⟩:=i0 h1;obtain⟨sep,rfl,h0,hz,q⟩:=eE h2;obtain⟨u,rfl,t',rfl⟩:=vals1 r;obtain⟨t,rfl⟩:=rx;have fin:∀(l:List Value) (n:Nat) (k:Nat),Vals ((Txt.split z sep).map V.str) l->(Txt.split z sep).length<=sizeLine->EP X UE σ Q (.ref s.heap.objs.size) {s with heap:=s.heap.push {cls:=.type "list",data:=.seq l.toArray n},toks:=k}:=fun l n k hv hl=>by
  refine⟨.ref _,_,I.laid (t':=k) (fun b o e=>Heap.get?_push_of_some _ e) (Nat.le_refl _) (show fM X.prog X.w _ _ _ (.lst ((Txt.split z sep).map V.str)) from ⟨by simpa using hl,l,n,hv,?_⟩),rfl,q _ (I.UL.fresh (Nat.le_refl _))⟩;exact Heap.get?_push_size _ rfl
 have hl:(Txt.split z sep).length<=sizeLine:=by
  have:=len_le_of_split (l:=(Txt.split z sep).map fun a=>(a,(0:Nat))) (x:=z) (y:=sep) (by simp[Function.comp_def]);simp only[List.length_map] at this;omega
 unfold Txt.split at fin hl;by_cases c1:(decide (z.length < sep.length)||decide (Builtin.Str.strKind z < Builtin.Str.strKind sep))=true
 ·rw[if_pos c1] at fin hl;exact call_meets F.slot_str_split (typeIs_str s z t) F.entry_str_split (F.args_str_split_2 _ _) (meets_str_split_cannot_occur z sep t t' c1) (fin [.str z t] 0 s.toks (.cons ⟨_,rfl⟩ .nil) hl)
 rw[if_neg c1] at fin hl;by_cases c2:(Builtin.Str.occurrences z sep 0 z.length (z.length+1)).isEmpty=true
 ·rw[if_pos c2] at fin hl;exact call_meets F.slot_str_split (typeIs_str s z t) F.entry_str_split (F.args_str_split_2 _ _) (meets_str_split_not_found z sep t t' (by simpa using c1) h0 c2) (fin [.str z t] 0 s.toks (.cons ⟨_,rfl⟩ .nil) hl)
 ·rw[if_neg c2] at fin hl;exact call_meets F.slot_str_split (typeIs_str s z t) F.entry_str_split (F.args_str_split_2 _ _) (meets_str_split_sep z sep t t' (by simpa using c1) h0 (by simpa using c2) (by omega) hl) (fin _ 0 _ (AM _ _) hl)
noncomputable def P2:R2:=fun x y H Q=>aX x fun a=>aX y fun b=>jA (H a) fun xs=>jA (H b) fun ys=>ys=[]/\Q (.bl (!xs.isEmpty)) H
end
section
variable {K:q0B} {T:String} {r:V->List V->Hp->VK->Prop} {to:TE} {t:TA} {σ:St} {H:Hp} {Q:VK} {x y:Str} {i:Int} {p:Addr} {ys:List Str}
theorem Tp:Ul K T r to t σ H Q=to σ H fun x H1=>SY K T x H1/\t σ H1 fun xs H2=>r x xs H2 Q:=rfl
theorem Q7:SY K "str" (.str x) H=True:=eq_true rfl
theorem NK:Jd [.int i] H Q=(i.natAbs.log2 < 1920/\Q (.str (toString i)) H):=rfl
theorem NL:Jd [.str x] H Q=Q (.str x) H:=rfl
theorem Ni:FW (.str x) [.ref p] H Q=bR (H p) fun xs=>dY (pE xs) fun ys=>(ys.map fun z=>z.length).sum+ys.length * x.length<=16777216/\Q (.str (Txt.join x ys)) H:=rfl
theorem JQ:pE (ys.map V.str)=some ys:=t7 ys
theorem JP:FX (.str x) [.str y] H Q=((y.length==0)=false/\x.length+2<=sizeLine/\∀ l,H l=none->Q (.ref l) (UH H l (.lst ((Txt.split x y).map V.str)))):=rfl
theorem Nv{q:Addr}:P2 (.ref p) (.ref q) H Q=jA (H p) fun xs=>jA (H q) fun ys=>ys=[]/\Q (.bl (!xs.isEmpty)) H:=rfl
theorem JS:FY [.ref p] H Q=bR (H p) fun ys=>∀ l,H l=none->Q (.ref l) (UH H l (.tup ys)):=rfl
end
noncomputable abbrev TJ:=Str->St->Hp->(Str->Hp->Prop)->Prop
noncomputable def Sf(te:TE):TE:=fun σ H Q=>te σ H fun x H1=>gD x fun z=>z.length<=sizeLine/\Q (.str z) H1
noncomputable def Up:TJ:=fun acc _ H Q=>Q acc H
noncomputable def Ur(te:TE)(tj:TJ):TJ:=fun acc σ H Q=>te σ H fun x H1=>gD x fun z=>(acc++z).length<=sizeLine/\tj (acc++z) σ H1 Q
noncomputable def Eu(tj:TJ):TE:=fun σ H Q=>tj Str.empty σ H fun out H1=>out.length<=sizeLine/\Q (.str out) H1
noncomputable def PJ(X:Cx)(es:List Expr)(t:TJ):Prop :=
 ∀(UE:List (Addr×Obj)) (s:Shared) (σ:St) (H:Hp) (acc:Str) (Q:Str->Hp->Prop),UI X UE σ H s->t acc σ H Q ->
  Joins (model X.prog X.w) X.A X.xe (evalEach es X.env) acc (fun out s'=>∃ H',UI X UE σ H' s'/\Q out H') s
section
variable {X:Cx} {e a b:Expr} {es:List Expr} {te:TE} {tj:TJ} {pos:Pos}
theorem p9(h:PE X e te):PE X (.FormattedValue e (-1) none pos) (Sf te):=by
 intro UE s σ H Q I q;refine FormattedValue_plain (thn (h UE s σ H _ I q) fun v s1 ⟨x,H1,I1,r1,q1⟩=>?_);obtain⟨z,rfl,hz,q2⟩:=eE q1;obtain⟨t,rfl⟩:=r1;exact formatField_str (fun t' tk=>⟨.str z,H1,I1.tok _,⟨_,rfl⟩,q2⟩) hz
theorem Dz:PJ X [] Up:=fun _ _ _ H _ _ I q=>Joins_nil ⟨H,I,q⟩
theorem fK(h:PE X e te)(hj:PJ X es tj):PJ X (e::es) (Ur te tj):=fun UE s σ H acc Q I q=>by
 refine Joins_cons (thn (h UE s σ H _ I q) fun v s1 ⟨x,H1,I1,r1,q1⟩=>?_);obtain⟨z,rfl,hz,q2⟩:=eE q1;obtain⟨t,rfl⟩:=r1;exact⟨z,t,rfl,hz,hj UE s1 σ H1 _ Q I1 q2⟩
theorem vS{M:Model}{A:Around}{E:q0A}{Q R:Str->Shared->Prop}(f:∀ x s,Q x s->R x s):∀ {es:List (Sem Value)} {acc:Str} {s:Shared},Joins M A E es acc Q s->Joins M A E es acc R s
 | [],_,_,h=>f _ _ h
 | _::_,_,_,h=>thn h fun _ _ ⟨y,t,e,l,z⟩=>⟨y,t,e,l,vS f z⟩
theorem tS(hj:PJ X (a::b::es) tj):PE X (.JoinedStr (a::b::es) pos) (Eu tj):=fun UE s σ H Q I q=>by
 refine wpAny_JoinedStr (vS (fun out s1 ⟨H1,I1,l,q1⟩=>⟨l,.str out,H1,I1.tok _,⟨_,rfl⟩,q1⟩) (hj UE s σ H _ _ I q))
end
noncomputable def Us(r:V->List V->Hp->VK->Prop)(to:TE)(t:TA):TE:=fun σ H Q=>to σ H fun x H1=>aX x fun a=>bR (H1 a) fun _=>t σ H1 fun xs H2=>r (.ref a) xs H2 Q
noncomputable def PL:V->List V->Hp->VK->Prop:=fun x vs H Q=>aX x fun a=>on1 vs fun y=>aX y fun b=>bR (H a) fun xs=>bR (H b) fun zs=>xs.length+zs.length<=sizeLine/\Q .UK (UH H a (.lst (xs++zs)))
noncomputable def Lh:V->List V->Hp->VK->Prop:=fun x vs H Q=>aX x fun a=>on1 vs fun y=>eY y fun i=>bR (H a) fun xs=>i=0/\dY xs[0]? fun v=>Q v (UH H a (.lst xs.tail))
section
variable {X:Cx} {o e:Expr} {es:List Expr} {to:TE} {t:TA} {name:Str} {apos UM:Pos} {id:String} {r:V->List V->Hp->VK->Prop}
theorem Lx(slot:Slot "list" name id)(hty:typeOf (.builtin id)=pure (.type "method_descriptor"))(hm:Pt X id r)(ho:PE X o to)(ha:PA X (e::es) t)
    (VH:attributeBase o name X.env (eval o X.env)=eval o X.env:=by rfl)
    (Wt:((backTo UM (starEach (e::es) X.env)).all (fun x=>!x.1)&&(backToKw UM (keywordEach [] X.env)).all (fun x=>x.1.isSome)
     &&decide ((e::es).length+([]:List Keyword).length+(if ([]:List Keyword).isEmpty then 0 else 1) < 30))=true:=by rfl)
    (VL:(apos.endLine==UM.line)=true:=by rfl) (hs:starEach (e::es) X.env=(false,eval e X.env)::starEach es X.env:=by rfl) (Vn:(backTo UM (starEach es X.env)).any (·.1)=false:=by rfl) :
    PE X (.Call (.Attribute o name apos) (e::es) [] UM) (Us r to t):=by
  intro UE s σ H Q I h;refine wpAny_Call_method_late VH Wt VL rfl (thn (ho UE s σ H _ I h) fun v s1 ⟨x,H1,I1,r1,q1⟩=>?_);obtain⟨a,rfl,q1⟩:=bK q1;obtain⟨xs,e1,q1⟩:=eZ q1;obtain⟨h1,h2⟩:=DK (T:="list") I1 r1 (.inl ⟨rfl,xs,.inl (.inl e1)⟩);refine⟨"list",id,PySem.F.plainAttrs_list,slot,hty,h1,h2,?_⟩;have hA:=ha UM UE s1 σ H1 _ I1 q1;rw[hs] at hA ⊢;refine Calls.callWith_builtin (by show(false||(backTo UM (starEach es X.env)).any (·.1))=false;rw[Vn]<;>rfl) (Calls.evalArgs_plain ?_);exact thn hA fun us s2 ⟨vs,H2,I2,r2,q2⟩=>hm UE s2 σ H2 _ vs v us Q I2 r1 r2 q2
theorem Kd:Pt X "list.extend" PL:=fun UE s σ H x vs v us Q I rx rv h=>by
 obtain⟨a,rfl,h1⟩:=bK h;obtain⟨y,rfl,h2⟩:=i0 h1;obtain⟨b,rfl,h3⟩:=bK h2;obtain⟨xs,e1,h4⟩:=eZ h3;obtain⟨zs,e2,h5⟩:=eZ h4;exact Fk UE s σ H _ _ v us Q I rx rv ⟨_,_,_,_,rfl,rfl,e1,e2,h5⟩
theorem Ke:Pt X "list.pop" Lh:=fun UE s σ H x vs v us Q I rx rv h=>by
 obtain⟨a,rfl,h1⟩:=bK h;obtain⟨y,rfl,h2⟩:=i0 h1;obtain⟨i,rfl,h3⟩:=eC h2;obtain⟨xs,e1,rfl,h4⟩:=eZ h3;obtain⟨y,e2,h5⟩:=iI h4;cases xs with
 | nil=>cases e2
 | cons z zs=>exact Hu UE s σ H _ _ v us Q I rx rv ⟨_,_,_,0,y,rfl,rfl,e1,by decide,by decide,by simp[seqIndex?],e2,h5⟩
end
noncomputable def FF:Option HO->Option Bool
 | some (.lst xs)=>some (!xs.isEmpty)
 | some (.tup xs)=>some (!xs.isEmpty)
 | some (.dK UG)=>some (!UG.isEmpty)
 | _=>none
noncomputable def CS(H:Hp):V->Option Bool
 | .UK=>some false
 | .bl b=>some b
 | .int i=>some (i !=0)
 | .ref p=>FF (H p)
 | _=>none
theorem KW{K:q0B}{H:Hp}{x:V}{k:Bool}(h:CS H x=some k):Py K x H k:=by
 cases x with
 | UK=>cases h;rfl
 | bl b=>cases h;rfl
 | int i=>cases h;rfl
 | ref p =>
  simp only[CS] at h;unfold FF at h;split at h
  ·next e=>cases h;exact .inl ⟨_,.inl (.inl e),rfl⟩
  ·next e=>cases h;exact .inr (.inl ⟨_,gS.of e,rfl⟩)
  ·next e=>cases h;exact .inr (.inr ⟨_,e,rfl⟩)
  ·cases h
 | _=>cases h
noncomputable def Iv(ta:TE):TT:=fun σ H Q=>ta σ H fun x H'=>dY (CS H' x) fun k=>Q k H'
theorem oO{X:Cx}{a:Expr}{ta:TE}(ha:PE X a ta)(he:∀ whole,isTrue a X.env whole=(do let v <- whole;standAt a.pos;holding [v] (truthy v))):PT X a (Iv ta):=by
 intro UE s σ H Q I h;exact isTrue_plain (thn (ha UE s σ H _ I h) fun v s1 ⟨x,H1,I1,r1,q1⟩=>by
  obtain⟨k,e,q⟩:=iI q1;exact Pf UE s1 σ H1 x v Q I1 r1 ⟨k,KW e,q⟩) (he _)
section
variable {te to:TE} {t:TA} {tj:TJ} {σ:St} {H:Hp} {Q:VK} {x acc:Str} {r:V->List V->Hp->VK->Prop} {QS:Str->Hp->Prop} {B:Bool->Hp->Prop} {D:Ends} {p q:Addr} {vs:List V} {UG:List (Key×V)} {v:V} {b:Bool} {i:Int}
theorem Qv:Sf te σ H Q=te σ H fun x H1=>gD x fun z=>z.length<=sizeLine/\Q (.str z) H1:=rfl
theorem TB:Up acc σ H QS=QS acc H:=rfl
theorem TC:Ur te tj acc σ H QS=te σ H fun x H1=>gD x fun z=>(acc++z).length<=sizeLine/\tj (acc++z) σ H1 QS:=rfl
theorem Gw:Eu tj σ H Q=tj Str.empty σ H fun out H1=>out.length<=sizeLine/\Q (.str out) H1:=rfl
theorem MT:Str.empty++x=x:=by
 show(⟨#[]++x.cps⟩:Str)=x;rw[Array.empty_append]
theorem TF:Us r to t σ H Q=to σ H fun x H1=>aX x fun a=>bR (H1 a) fun _=>t σ H1 fun xs H2=>r (.ref a) xs H2 Q:=rfl
theorem Qt:PL (.ref p) [.ref q] H Q=bR (H p) fun xs=>bR (H q) fun zs=>xs.length+zs.length<=sizeLine/\Q .UK (UH H p (.lst (xs++zs))):=rfl
theorem NB:Lh (.ref p) [.int 0] H Q=bR (H p) fun xs=>(0:Int)=0/\dY xs[0]? fun v=>Q v (UH H p (.lst xs.tail)):=rfl
theorem JR:Iv te σ H B=te σ H fun x H'=>dY (CS H' x) fun k=>B k H':=rfl
theorem NS:CS H .UK=some false:=rfl
theorem NO:CS H (.bl b)=some b:=rfl
theorem NQ:CS H (.int i)=some (i !=0):=rfl
theorem GL:CS H (.ref p)=FF (H p):=rfl
theorem NR:FF (some (.lst vs))=some (!vs.isEmpty):=rfl
theorem NT:FF (some (.tup vs))=some (!vs.isEmpty):=rfl
theorem NP:FF (some (.dK UG))=some (!UG.isEmpty):=rfl
theorem JD:Pc D σ H=False:=rfl
variable {fr:List Nat} {tc:TT} {tl:TE} {K:q0B}
theorem Jr:jG (G8 K tl) fr tc te σ H Q=tl σ H fun x H1=>aX x fun a=>(∃ xs,gS K H1 a xs)/\lc (Xi K a) fr tc te σ H1 Q:=by
 unfold jG G8
 congr 1
 funext x H1;exact propext ⟨fun⟨a,e,h1,h⟩=>by subst e;exact⟨h1,h⟩,fun h=>by obtain⟨a,rfl,h1,h⟩:=bK h;exact⟨a,rfl,h1,h⟩⟩
theorem Ov{a:Addr}{ys:List V}(Pv:Nat->List V->Hp->Prop)(h0:Pv 0 [] H)(hz:∀ i xs H,Pv i xs H->xs.length<=1000000)(hl:∀ i xs H,Pv i xs H->gS K H a ys)
    (hs:∀ i y xs H,i < ys.length->ys[i]?=some y->Pv i xs H->tc (some y::bJ fr σ) H fun b H2=>if b=true then te (some y::bJ fr σ) H2 (fun z H3=>Pv (i+1) (xs++[z]) H3) else Pv (i+1) xs H2)
    (hd:∀ xs H,Pv ys.length xs H->∀ p,H p=none->Q (.ref p) (UH H p (.lst xs))):lc (Xi K a) fr tc te σ H Q:=by
  refine⟨cW ys.length Pv,⟨ys.length,by simp,Nat.zero_le _,h0⟩,?_⟩;rintro i m xs H ⟨rfl,hi,p⟩;refine⟨hz i xs H p,?_⟩;have q:=hl i xs H p;by_cases Vg:i < ys.length
  · refine .inr ⟨⟨ys,ys[i],q,by simp[Vg]⟩,fun y H' yy=>?_⟩;obtain⟨e,yy⟩:=yy;subst e;simp only[DS Vg];exact hs i y xs _ Vg (yy ys q) p
  · have e:i=ys.length:=by omega
    subst e;exact .inl ⟨⟨ys,q,Nat.le_refl _⟩,hd xs H p⟩
end
section
variable {X:Cx} {UE:List (Addr×Obj)} {σ:St} {H:Hp} {s:Shared}
theorem Kx{n:Nat}{a b:Addr}{r:Bool}{A:Around}(h:uD X.K H n a b r)(I:UI X UE σ H s)(hu:A.units+n < cLine):SeqAt.RcNeAt A s (.ref a) (.ref b) (!r):=by
 cases h with
 | list hx hy hl he =>
  obtain⟨UJ,r1,p1,z1⟩:=I.list hx;obtain⟨XN,r2,p2,z2⟩:=I.list hy;have l1:=r1.length;have l2:=r2.length;have:=SeqAt.RcNeAt.lists p1.isList p2.isList (by simp only[List.size_toArray];omega) (by omega) (A:=A) (fun j h1 h2=>by
   obtain⟨x,ex,rx⟩:=jL r1 h1;obtain⟨y,ey,ry⟩:=jL r2 h2;exact GN (he j x y ex ey) I rx ry (by show A.units+1+_ < _;omega))
  rw[List.size_toArray,<- l1] at this;exact this
 | U4 hx hy hl =>
  obtain⟨UJ,r1,p1,z1⟩:=I.list hx;obtain⟨XN,r2,p2,z2⟩:=I.list hy;have l1:=r1.length;have l2:=r2.length;exact SeqAt.RcNeAt.lists_lengths p1.isList p2.isList (by simp only[List.size_toArray,bne_iff_ne,ne_eq];omega) (by omega)
 | tup hx hy he =>
  obtain⟨UJ,r1,p1,z1⟩:=I.tuple hx;obtain⟨XN,r2,p2,z2⟩:=I.tuple hy;have l1:=r1.length;have l2:=r2.length;have:=SeqAt.RcNeAt.tuples (show s.heap.IsTuple _ UJ.toArray from p1) (show s.heap.IsTuple _ XN.toArray from p2) (by omega) (A:=A) (fun j h1 h2=>by
   obtain⟨x,ex,rx⟩:=jL r1 h1;obtain⟨y,ey,ry⟩:=jL r2 h2;exact GN (he j x y ex ey) I rx ry (by show A.units+1+_ < _;omega))
  rw[List.size_toArray,List.size_toArray,<- l1,<- l2] at this;exact this
end
noncomputable def P1(K:q0B)(n:Nat):R2:=fun x y H Q=>aX x fun a=>aX y fun b=>∃ r,uD K H n a b r/\Q (.bl (!r)) H
noncomputable def PH(K:q0B)(n:Nat):R2:=fun x y H Q=>aX x fun a=>aX y fun b=>∃ r,uD K H n a b r/\Q (.bl r) H
theorem Rf{A:Around}{k:Nat}(hr:Room k A){n:Nat}(h:n<=60):A.units+n < cLine:=Nat.lt_of_le_of_lt (Nat.add_le_add_left (by omega:n<=64) _) hr.units
noncomputable def RM(n:Int)(xs:List V):List V:=(List.replicate n.toNat xs).flatten
noncomputable def Tn:R2:=fun x y H Q=>aX x fun l=>eY y fun k=>bR (H l) fun xs=>(-(2 ^ 63)<=k/\k < 2 ^ 63)/\xs.length * k.toNat<=sizeLine/\∀ p,H p=none->Q (.ref p) (UH H p (.lst (RM k xs)))
noncomputable def Mn:List V->Hp->VK->Prop:=fun vs H Q=>on1 vs fun x=>aX x fun p=>mC (H p) fun ys=>∀ l,H l=none->Q (.ref l) (UH H l (.lst ys))
noncomputable def PZ(K:q0B):List V->Hp->VK->Prop:=fun vs H Q=>on1 vs fun x=>aX x fun p=>∃ xs,dU K H p xs/\Q (.int xs.length) H
section
variable {X:Cx}
theorem OI(n:Nat)(hu:X.A.units+n < cLine):iM X (compareOp .NotEq) (P1 X.K n):=fun UE s σ H x y v u Q I rx ry h=>by
 obtain⟨a,rfl,h1⟩:=bK h;obtain⟨b,rfl,r,e,q⟩:=bK h1;cases rx;cases ry;exact Kx e I hu X.prog X.w X.xe _ (bX I q rfl)
theorem OF(n:Nat)(hu:X.A.units+n < cLine):iM X (compareOp .Eq) (PH X.K n):=fun UE s σ H x y v u Q I rx ry h=>by
 obtain⟨a,rfl,h1⟩:=bK h;obtain⟨b,rfl,r,e,q⟩:=bK h1;cases rx;cases ry;exact OT e I hu X.prog X.w X.xe _ (bX I q rfl)
end
section
variable {K:q0B} {H:Hp} {Q:VK} {a b p:Addr} {n:Nat} {i:Int}
theorem QJ:P1 K n (.ref a) (.ref b) H Q = ∃ r,uD K H n a b r/\Q (.bl (!r)) H:=rfl
theorem Qr:PH K n (.ref a) (.ref b) H Q = ∃ r,uD K H n a b r/\Q (.bl r) H:=rfl
theorem QX:Tn (.ref a) (.int i) H Q=bR (H a) fun xs=>(-(2 ^ 63)<=i/\i < 2 ^ 63)/\xs.length * i.toNat<=sizeLine/\∀ p,H p=none->Q (.ref p) (UH H p (.lst (RM i xs))):=rfl
theorem JC:Mn [.ref p] H Q=mC (H p) fun ys=>∀ l,H l=none->Q (.ref l) (UH H l (.lst ys)):=rfl
theorem Nm:PZ K [.ref p] H Q = ∃ xs,dU K H p xs/\Q (.int xs.length) H:=rfl
end
theorem uD.same{K:q0B}{H:Hp}{a b:Addr}{xs:List V}(h1:H a=some (.lst xs))(h2:H b=some (.lst xs))(h:∀ x∈xs,∃ c,x=.ref c):uD K H 1 a b true:=by
 have:=uD.list (K:=K) (H:=H) (n:=0) (a:=a) (b:=b) (e:=fun _=>true) (dU.of h1) (dU.of h2) rfl fun j x y e1 e2=>by
  rw[e1] at e2;cases e2;obtain⟨c,rfl⟩:=h x (List.mem_of_getElem? e1);exact .same
 rwa [show((List.range xs.length).all fun _=>true)=true by simp[List.all_eq_true]] at this
noncomputable def Str.cs(x:Str):List Nat:=x.cps.toList
theorem jR{x y:Str}(h:x.cps.toList=y.cps.toList):x=y:=by
 cases x;cases y;simp only[Str.mk.injEq];exact Array.toList_inj.mp h
theorem iN(a b:Str):(a++b).cps.toList=a.cps.toList++b.cps.toList:=Array.toList_append
noncomputable def jn(c:Nat):List (List Nat)->List Nat
 | []=>[]
 | [w]=>w
 | w::v::r=>w++c::jn c (v::r)
theorem Gg{c:Nat}:∀ {u w R S:List Nat},c∉u->c∉w->u++c::R=w++c::S->u=w/\R=S
 | [],[],_,_,_,_,h=>by simpa using h
 | [],y::w,_,_,_,hw,h=>by
  simp only[List.nil_append,List.cons_append,List.cons.injEq] at h;exact absurd (List.mem_cons.mpr (.inl h.1)) hw
 | x::u,[],_,_,hu,_,h=>by
  simp only[List.nil_append,List.cons_append,List.cons.injEq] at h;exact absurd (List.mem_cons.mpr (.inl h.1.symm)) hu
 | x::u,y::w,R,S,hu,hw,h=>by
  simp only[List.cons_append,List.cons.injEq] at h;obtain⟨e,f⟩:=Gg (fun z=>hu (List.mem_cons_of_mem _ z)) (fun z=>hw (List.mem_cons_of_mem _ z)) h.2;exact⟨by rw[h.1,e],f⟩
theorem He{c:Nat}:∀ {us ws:List (List Nat)},us≠[]->ws≠[]->(∀ u∈us,c∉u)->(∀ w∈ws,c∉w)->jn c us=jn c ws->us=ws
 | [],_,h,_,_,_,_=>absurd rfl h
 | _::_,[],_,h,_,_,_=>absurd rfl h
 | [u],[w],_,_,_,_,h=>by rw[show u=w from h]
 | [u],w::v::r,_,_,hu,_,h=>by
  have h:u=w++c::jn c (v::r):=h;exact absurd (by rw[h];simp) (hu u (by simp))
 | u::v::r,[w],_,_,_,hw,h=>by
  have h:u++c::jn c (v::r)=w:=h;exact absurd (by rw[<- h];simp) (hw w (by simp))
 | u::u2::us,w::w2::ws,_,_,hu,hw,h=>by
  obtain⟨e,f⟩:=Gg (hu u (by simp)) (hw w (by simp)) (show u++c::jn c (u2::us)=w++c::jn c (w2::ws) from h);rw[e,He (by simp) (by simp) (fun z hz=>hu z (List.mem_cons_of_mem _ hz)) (fun z hz=>hw z (List.mem_cons_of_mem _ hz)) f]
theorem D3(c:Nat):∀(l:List Str) (x:List Nat),(List.foldl (fun acc (p:Str)=>acc++(#[c]:Array Nat)++p.cps) x.toArray l).toList=jn c (x::l.map fun p=>p.cps.toList)
 | [],x=>by simp[jn]
 | y::l,x=>by
  show(List.foldl _ (x.toArray++#[c]++y.cps) l).toList=_;have e:x.toArray++#[c]++y.cps=(x++c::y.cps.toList).toArray:=by apply Array.toList_inj.mp;simp
  rw[e,D3 c l (x++c::y.cps.toList)];cases l with
  | nil=>simp[jn]
  | cons z l=>simp[jn]
theorem oI(c:Nat)(ws:List Str):(Txt.join ⟨#[c]⟩ ws).cps.toList=jn c (ws.map fun p=>p.cps.toList):=by
 cases ws with
 | nil=>rfl
 | cons w ws =>
  exact D3 c ws w.cps.toList
theorem jF(x y:Str):Txt.split x y≠[]:=by
 unfold Txt.split;split
 ·simp
 ·split
  ·simp
  ·unfold Builtin.Str.partsBetween;simp only[ne_eq,List.map_eq_nil_iff];intro h;have:=congrArg List.length h;simp at this
theorem Kb{us ws:List Str}(h:(us.map fun p=>p.cps.toList)=ws.map fun p=>p.cps.toList):us=ws:=by
 induction us generalizing ws with
 | nil=>cases ws with
  | nil=>rfl
  | cons w ws=>simp at h
 | cons u us ih=>cases ws with
  | nil=>simp at h
  | cons w ws =>
   simp only[List.map_cons,List.cons.injEq] at h;rw[jR h.1,ih h.2]
theorem AJ{c:Nat}{ws:List Str}(ne:ws≠[])(fr:∀ w∈ws,c∉w.cps.toList):Txt.split (Txt.join ⟨#[c]⟩ ws) ⟨#[c]⟩=ws:=by
 apply Kb;refine He (c:=c) (by simpa using jF _ _) (by simpa using ne) (fun u hu=>?_) (fun u hu=>?_) ?_
 ·obtain⟨p,hp,rfl⟩:=List.mem_map.mp hu;exact StrLaws.split_free _ _ p hp
 ·obtain⟨p,hp,rfl⟩:=List.mem_map.mp hu;exact fr p hp
 ·rw[<- oI,<- oI];show(Builtin.Str.glued _ _).cps.toList=_;rw[StrLaws.glued_eq_join,StrLaws.join_split]
theorem Aj:∀(l:List Str) (x:List Nat),(List.foldl (fun acc (p:Str)=>acc++("":Str).cps++p.cps) x.toArray l).toList=x++(l.map fun p=>p.cps.toList).flatten
 | [],x=>by simp
 | y::l,x=>by
  have e0:("":Str).cps = #[]:=by decide +kernel
  show(List.foldl _ (x.toArray++("":Str).cps++y.cps) l).toList=_;have e:x.toArray++("":Str).cps++y.cps=(x++y.cps.toList).toArray:=by rw[e0];apply Array.toList_inj.mp;simp
  rw[e,Aj l (x++y.cps.toList)];simp
theorem tE(ws:List Str):(Txt.join "" ws).cps.toList=(ws.map fun p=>p.cps.toList).flatten:=by
 cases ws with
 | nil=>rfl
 | cons w ws =>
  exact Aj ws w.cps.toList
theorem eV:("\n":Str)=⟨#[10]⟩/\(" ":Str)=⟨#[32]⟩/\("-":Str)=⟨#[45]⟩/\("0":Str)=⟨#[48]⟩/\("9":Str)=⟨#[57]⟩:=by decide +kernel
theorem pU(rows:List Str)(tl:Str):Txt.join "" (rows.map fun r:Str=>r++"\n")++tl=Txt.join "\n" (rows++[tl]):=by
 apply jR;rw[iN,tE,eV.1,oI]
 induction rows with
 | nil=>simp[jn]
 | cons r rows ih =>
  simp only[List.map_cons,List.flatten_cons,iN,List.cons_append,List.append_assoc] at ih ⊢;rw[ih];cases rows with
  | nil=>simp[jn]
  | cons z l=>simp[jn]
theorem Cj{rows:List Str}{tl:Str}(h:∀ r∈rows,10∉r.cps.toList)(ht:10∉tl.cps.toList):Txt.split (Txt.join "" (rows.map fun r:Str=>r++"\n")++tl) "\n"=rows++[tl]:=by
 rw[pU,eV.1];exact AJ (by simp) fun w hw=>by
  rcases List.mem_append.mp hw with hw|hw
  ·exact h w hw
  ·rw[show w=tl by simpa using hw];exact ht
theorem Bg{rows:List Str}(h:∀ r∈rows,10∉r.cps.toList):Txt.split (Txt.join "" (rows.map fun r:Str=>r++"\n")) "\n"=rows++[("":Str)]:=by
 have:=Cj (tl:="") h (by decide +kernel)
 rwa [show Txt.join "" (rows.map fun r:Str=>r++"\n")++""=Txt.join "" (rows.map fun r:Str=>r++"\n") from jR (by rw[iN];simp[show("":Str).cps.toList=[] by decide +kernel])] at this
theorem Ab{α:Type}(f:α->V)(xs:List α)(y:α):k6 ((xs++[y]).map f) none (some (-1))=xs.map f:=by
 have hl:((xs++[y]).map f).length=xs.length+1:=by simp
 unfold k6;have h1:HT.gI ((xs++[y]).map f).length 0 none=0:=rfl;have h2:HT.gI ((xs++[y]).map f).length ((xs++[y]).map f).length (some (-1))=xs.length:=by
  rw[hl];unfold HT.gI;simp;omega
 rw[h1,h2];simp
noncomputable def Le:List V->Hp->VK->Prop:=fun vs H Q=>on1 vs fun x=>gD x fun z=>z.length<=640/\dY (intText? z) fun n=>Q (.int n) H
noncomputable def DR:V->List V->Hp->VK->Prop:=fun x vs H Q=>gD x fun z=>on1 vs fun y=>gD y fun p=>Q (.bl (Txt.startswith z p)) H
noncomputable def Ld:V->List V->Hp->VK->Prop:=fun x vs H Q=>gD x fun z=>on1 vs fun y=>gD y fun p=>Q (.bl (Txt.endswith z p)) H
noncomputable def PY:R2:=fun x y H Q=>gD x fun i=>gD y fun j=>Q (.bl (!decide (j.cps.toList < i.cps.toList))) H
noncomputable def pN:List V->Option (List Bool)
 | []=>some []
 | .bl b::r=>(pN r).map (b::·)
 | _=>none
theorem zW:∀ {xs:List V} {bs:List Bool},pN xs=some bs->xs=bs.map V.bl
 | [],bs,h=>by cases h;rfl
 | x::xs,bs,h=>by
  cases x with
  | bl b =>
   simp only[pN,Option.map_eq_some_iff] at h;obtain⟨cs,e,rfl⟩:=h;rw[zW e];rfl
  | _=>cases h
theorem BZ:∀ {bs:List Bool},pN (bs.map V.bl)=some bs
 | []=>rfl
 | b::bs=>by
  show(pN (bs.map V.bl)).map (b::·)=_;rw[BZ];rfl
noncomputable def Pz:List V->Hp->VK->Prop:=fun vs H Q=>on1 vs fun x=>aX x fun p=>bR (H p) fun xs=>dY (pN xs) fun bs=>Q (.bl (bs.all id)) H
noncomputable def PR(K:q0B)(neg:Bool):R2:=fun x y H Q=>aX y fun p=>∃ xs,gS K H p xs/\cN x=true/\xs.all cN=true/\Q (.bl (if neg=true then !cR x xs else cR x xs)) H
section
variable {X:Cx}
theorem zZ:eP X (.type "int") Le:=fun UE s σ H xs us Q I r h=>by
 obtain⟨x,rfl,h1⟩:=i0 h;obtain⟨z,rfl,hz,h2⟩:=eE h1;obtain⟨n,e,q⟩:=iI h2;obtain⟨u,rfl,t,rfl⟩:=vals1 r;exact PySem.W.KIN.call_text e hz ⟨.int n,H,I.tok _,⟨_,rfl⟩,q⟩
theorem zF:IK X "str.startswith" DR:=fun UE s σ H x xs v us Q I rx r h=>by
 obtain⟨z,rfl,h1⟩:=eE h;obtain⟨y,rfl,h2⟩:=i0 h1;obtain⟨p,rfl,q⟩:=eE h2;obtain⟨u,rfl,t',rfl⟩:=vals1 r;obtain⟨t,rfl⟩:=rx;exact PySem.SC.startswith ⟨.bl _,H,I,rfl,q⟩
theorem Cq:IK X "str.endswith" Ld:=fun UE s σ H x xs v us Q I rx r h=>by
 obtain⟨z,rfl,h1⟩:=eE h;obtain⟨y,rfl,h2⟩:=i0 h1;obtain⟨p,rfl,q⟩:=eE h2;obtain⟨u,rfl,t',rfl⟩:=vals1 r;obtain⟨t,rfl⟩:=rx;exact PySem.SC.endswith ⟨.bl _,H,I,rfl,q⟩
theorem Bq:iM X (compareOp .LtE) PY:=Fp.imp fun x y H Q h=>by
 obtain⟨i,rfl,h1⟩:=eE h;obtain⟨j,rfl,q⟩:=eE h1;exact⟨i,j,rfl,rfl,q⟩
theorem zY(hc:X.calm=true):eP X (.builtin "all") Pz:=fun UE s σ H xs us Q I r h=>by
 obtain⟨x,rfl,h1⟩:=i0 h;obtain⟨p,rfl,h2⟩:=bK h1;obtain⟨ys,e,h3⟩:=eZ h2;obtain⟨bs,eb,q⟩:=iI h3;cases zW eb;exact FZ hc UE s σ H _ us Q I r ⟨p,bs,rfl,dU.of e,q⟩
theorem Av:iM X (compareOp .NotIn) (PR X.K true):=rL.imp fun x y H Q h=>by
 obtain⟨p,rfl,xs,e,h1,h2,q⟩:=bK h;exact⟨_,_,rfl,.inr e,h1,h2,q⟩
end
section
variable {K:q0B} {H:Hp} {Q:VK} {p:Addr} {x y z:Str} {neg:Bool} {v:V}
theorem Na:Le [.str z] H Q=(z.length<=640/\dY (intText? z) fun n=>Q (.int n) H):=rfl
theorem GJ:DR (.str z) [.str y] H Q=Q (.bl (Txt.startswith z y)) H:=rfl
theorem MO:Ld (.str z) [.str y] H Q=Q (.bl (Txt.endswith z y)) H:=rfl
theorem QF:PY (.str x) (.str y) H Q=Q (.bl (!decide (y.cps.toList < x.cps.toList))) H:=rfl
theorem P9:Pz [.ref p] H Q=bR (H p) fun xs=>dY (pN xs) fun bs=>Q (.bl (bs.all id)) H:=rfl
theorem Qz:PR K neg v (.ref p) H Q = ∃ xs,gS K H p xs/\cN v=true/\xs.all cN=true/\Q (.bl (if neg=true then !cR v xs else cR v xs)) H:=rfl
end
noncomputable def UO(n:Nat):List Nat:=(Nat.toDigits 10 n).map Char.toNat
theorem kJ(n:Nat):∀ c∈UO n,48<=c/\c<=57:=by
 intro c hc;obtain⟨d,hd,rfl⟩:=List.mem_map.mp hc;have:=Nat.isDigit_of_mem_toDigits (by decide) (by decide) hd;simp only[Char.isDigit,Bool.and_eq_true,decide_eq_true_eq] at this;exact⟨this.1,this.2⟩
theorem qW(n:Nat):UO n≠[]:=by simpa[UO] using Nat.toDigits_ne_nil
theorem hJ{n k:Nat}(hk:0 < k):(UO n).length<=k↔n < 10 ^ k:=by
 rw[UO,List.length_map];exact Nat.length_toDigits_le_iff (by decide) hk
theorem qX(n:Nat):NumText.digitsVal (UO n)=n:=PySem.W.KIN.val_back n
theorem DL:∀(cs:List Nat) (a:Nat),(∀ c∈cs,48<=c/\c<=57)->List.foldl (fun acc c=>acc * 10+(c - 48)) a cs < (a+1) * 10 ^ cs.length
 | [],a,_=>by simp
 | c::cs,a,h=>by
  have h1:=h c (by simp);have h2:=DL cs (a * 10+(c - 48)) fun z hz=>h z (List.mem_cons_of_mem _ hz);rw[List.foldl_cons];refine Nat.lt_of_lt_of_le h2 ?_;rw[List.length_cons,Nat.pow_succ,<- Nat.mul_assoc,Nat.mul_right_comm];exact Nat.mul_le_mul_right _ (by omega)
theorem Ae{n:Nat}{cs:List Nat}(h:UO n=48::cs):n=0:=by
 have hv:=qX n;have ha:=kJ n;rw[h] at hv ha;cases cs with
 | nil=>rw[<- hv];rfl
 | cons c cs =>
  have h2:=DL (c::cs) 0 fun z hz=>ha z (List.mem_cons_of_mem _ hz);have h3:NumText.digitsVal (48::c::cs)=NumText.digitsVal (c::cs):=by simp[NumText.digitsVal]
  rw[h3] at hv;have h4:n < 10 ^ (c::cs).length:=by
   rw[<- hv];simpa[NumText.digitsVal] using h2
  have h5:=(hJ (n:=n) (k:=(c::cs).length) (by simp)).mpr h4;rw[h] at h5;simp at h5;omega
theorem vH(n:Nat):(Str.ofString (toString (n:Int))).cps.toList=UO n:=by
 show(Str.ofString (Nat.repr n)).cps.toList=_;rw[Nat.repr_eq_ofList_toDigits,PySem.W.Fast.ofString_ofList];rfl
theorem Bb(n:Nat):(Str.ofString (toString (Int.negSucc n))).cps.toList=45::UO (n+1):=by
 show(Str.ofString ("-"++Nat.repr (n+1))).cps.toList=_;rw[PySem.Str.ofString_eq_toList,String.toList_append,Nat.repr_eq_ofList_toDigits];simp[UO]
theorem s8(i:Int)(h:i.natAbs < 10 ^ 100):intText? (Str.ofString (toString i))=some i:=by
 cases i with
 | ofNat n =>
  have e:(Str.ofString (toString (Int.ofNat n))).cps.toList=UO n:=vH n;have l:(UO n).length<=100:=(hJ (by decide)).mpr h;rw[intText_digits (by rw[e];exact kJ n) (by rw[e];exact qW n) (by show(Str.ofString (toString (Int.ofNat n))).cps.size<=4300;rw[<- Array.length_toList,e];omega),e,qX];rfl
 | negSucc n =>
  have e:=Bb n;have l:(UO (n+1)).length<=100:=(hJ (by decide)).mpr (by simpa[Int.natAbs] using h);rw[intText_neg e (kJ _) (qW _) (by show(Str.ofString (toString (Int.negSucc n))).cps.size<=4300;rw[<- Array.length_toList,e];simp;omega),qX];rfl
noncomputable def iH:List Nat->List Nat
 | 45::r=>r
 | l=>l
noncomputable def pW(w:Str)(lo hi:Int):Bool :=
 let f:=iH w.cps.toList;decide (1<=f.length)&&decide (f.length<=(Str.ofString (toString (if hi > -lo then hi else -lo))).length)&&f.all (fun c=>decide (48<=c)&&decide (c<=57))&&!(decide (f[0]?=some 48)&&!decide (w = "0"))&&
  match intText? w with
  | some v=>decide (lo<=v)&&decide (v<=hi)
  | none=>false
theorem BC(w:Str):Txt.startswith w "-"=decide (w.cps.toList[0]?=some 45):=by
 rw[eV.2.2.1];have h:=StrLaws.subAt_one w 45 0;unfold Txt.startswith;rw[Bool.eq_iff_iff,Bool.and_eq_true,decide_eq_true_eq,decide_eq_true_eq];exact h
theorem FA(w:Str)(h:1<=w.length):(Txt.slice w (some 1) none).cps.toList=w.cps.toList.drop 1:=by
 have e:Txt.slice w (some 1) none=StrLaws.sliceText w (some 1) none:=rfl;rw[e,StrLaws.sliceText_from (i:=1) ⟨by decide,by simp only[Array.length_toList];exact Int.ofNat_le.mpr h⟩];simp only[Int.toNat_one];apply List.take_of_length_le;simp only[List.length_drop];omega
theorem JU(w:Str):(if Txt.startswith w "-"=true then Txt.slice w (some 1) none else w).cps.toList=iH w.cps.toList:=by
 rw[BC];cases h:w.cps.toList with
 | nil =>
  simp only[List.getElem?_nil,reduceCtorEq,decide_false,Bool.false_eq_true,if_false];rw[h];rfl
 | cons c r =>
  simp only[List.getElem?_cons_zero,Option.some.injEq];by_cases hc:c=45
  ·subst hc;simp only[decide_true,if_true];rw[FA w (by show 1<=w.cps.size;rw[<- Array.length_toList,h];simp),h];rfl
  ·simp only[hc,decide_false,Bool.false_eq_true,if_false];rw[h];unfold iH;split
   ·next e=>simp only[List.cons.injEq] at e;exact absurd e.1 hc
   ·rfl
noncomputable def jN(C:Addr)(o:Option HO)(k:Addr->List (Str×V)->Prop)(_u:Tg k:=()):Prop:=match o with
 | some (.ins C' dx fs)=>C'=C/\k dx fs
 | _=>False
theorem nF{C:Addr}{o:Option HO}{k:Addr->List (Str×V)->Prop}(h:jN C o k):∃ dx fs,o=some (.ins C dx fs)/\k dx fs:=by
 unfold jN at h;split at h
 ·obtain⟨rfl,h⟩:=h;exact⟨_,_,rfl,h⟩
 ·exact h.elim
noncomputable def PM(C:Addr)(f:Str)(ta:TE):TE:=fun σ H Q=>ta σ H fun x H1=>aX x fun a=>jN C (H1 a) fun _ fs=>dY (fs.lookup f) fun v=>Q v H1
noncomputable def Li(C:Addr)(f:Str)(ta tv:TE):TS:=fun D σ H=>tv σ H fun y H1=>ta σ H1 fun x H2=>aX x fun a=>jN C (H2 a) fun dx fs=>fs.length < 1000/\D.nx σ (UH H2 a (.ins C dx (iR f y fs)))
noncomputable def Lc(C:Addr)(f:Str)(ta tv:TE):TS:=fun D σ H=>ta σ H fun x H1=>aX x fun a=>jN C (H1 a) fun _ fs=>dY (fs.lookup f) fun v=>tv σ H1 fun y H2=>eY v fun i=>eY y fun j=>jN C (H2 a) fun dx WR=>WR.length < 1000/\D.nx σ (UH H2 a (.ins C dx (iR f (.int (i+j)) WR)))
section
variable {X:Cx} {o e value:Expr} {f:Str} {pos pos' X2:Pos} {ta tv:TE} {C:Addr}
theorem rT(c:Cls X.K C)(n:jT X.K C f)(he:PE X e ta)(hb:attributeBase e f X.env (eval e X.env)=eval e X.env:=by rfl):PE X (.Attribute e f pos) (PM C f ta):=fun UE s σ H Q I h=>by
 refine IZ hb (thn (he UE s σ H _ I h) fun u s1 ⟨x,H1,I1,rx,q1⟩=>?_);obtain⟨a,rfl,q2⟩:=bK q1;obtain⟨dx,fs,ea,q3⟩:=nF q2;obtain⟨v,l,q⟩:=iI q3;obtain rfl:u=Value.ref a:=rx;exact xA I1 ea c n l fun u' s2 I2 ru=>⟨v,H1,I2,ru,q⟩
theorem Bs(c:Cls X.K C)(n:jT X.K C f)(ha:PE X o ta)(hv:PE X value tv)(hs:swapsWith value (some (.Attribute o f pos')) pos.line X.env=pure false:=by rfl):PS X (.Assign [.Attribute o f pos'] value pos) (Li C f ta tv):=fun UE s σ H D I h=>by
 refine plainObj_wpAny_Assign_Attribute (thn (hv UE s σ H _ I h) fun u s1 ⟨y,H1,I1,ry,q⟩=>thn (ha UE s1 σ H1 _ I1 q) fun ov s2 ⟨x,H2,I2,rx,q1⟩=>?_) hs;obtain⟨a,rfl,q2⟩:=bK q1;obtain⟨dx,fs,ea,l,q3⟩:=nF q2;obtain rfl:ov=Value.ref a:=rx;exact yI I2 ea c n l ry fun s3 I3=>⟨σ,_,I3,q3⟩
theorem vR(c:Cls X.K C)(n:jT X.K C f)(ha:PE X o ta)(hv:PE X value tv):PS X (.AugAssign (.Attribute o f X2) .Add value pos) (Lc C f ta tv):=fun UE s σ H D I h=>by
 refine wpAny_AugAssign_AttributeAny (thn (ha UE s σ H _ I h) fun ov s1 ⟨x,H1,I1,rx,q1⟩=>?_);obtain⟨a,rfl,q2⟩:=bK q1;obtain⟨dx,fs,ea,q3⟩:=nF q2;obtain⟨v,l,q⟩:=iI q3;obtain rfl:ov=Value.ref a:=rx;refine xA I1 ea c n l fun u s2 I2 ru=>thn (hv UE s2 σ H1 _ I2 q) fun w3 s3 ⟨y,H2,I3,ry,q4⟩=>?_;obtain⟨i,rfl,q5⟩:=eC q4;obtain⟨j,rfl,q6⟩:=eC q5;obtain⟨dx',WR,ea',l',q7⟩:=nF q6;refine thn (Of UE s3 σ H2 (.int i) (.int j) u w3 (fun z H3=>z=.int (i+j)/\H3=H2) I3 ru ry ⟨i,j,rfl,rfl,rfl,rfl⟩) fun w4 s4 ⟨z,H3,I4,rz,ez,eH⟩=>?_;subst ez eH;exact yI I4 ea' c n l' rz fun s5 I5=>⟨σ,_,I5,q7⟩
end
section
variable {C a dx:Addr} {fs:List (Str×V)} {k:Addr->List (Str×V)->Prop} {m f:Str} {sp:Sp} {E:XK} {ta tv:TE} {t:TA} {σ:St} {H:Hp} {Q:VK} {D:Ends} {v u:V} {r:List (Str×V)}
theorem D1{k:Addr->List (Str×V)->Prop}{u:Tg k}:@jN C (some (.ins C dx fs)) k u=k dx fs:=by simp[jN]
theorem Qu:PM C f ta σ H Q=ta σ H fun x H1=>aX x fun a=>jN C (H1 a) fun _ fs=>dY (fs.lookup f) fun v=>Q v H1:=rfl
theorem NH:Li C f ta tv D σ H=tv σ H fun y H1=>ta σ H1 fun x H2=>aX x fun a=>jN C (H2 a) fun dx fs=>fs.length < 1000/\D.nx σ (UH H2 a (.ins C dx (iR f y fs))):=rfl
theorem MA:Lc C f ta tv D σ H=ta σ H fun x H1=>aX x fun a=>jN C (H1 a) fun _ fs=>dY (fs.lookup f) fun v=>tv σ H1 fun y H2=>eY v fun i=>eY y fun j=>jN C (H2 a) fun dx WR=>WR.length < 1000/\D.nx σ (UH H2 a (.ins C dx (iR f (.int (i+j)) WR))):=rfl
theorem Nt:Ew C m sp [] E ta t σ H Q=ta σ H fun x H1=>aX x fun a=>jN C (H1 a) fun _ fs=>fs.lookup m=none/\t σ H1 fun vs H2=>sp (.ref a::vs) H2 Q E:=by
 unfold Ew
 congr 1
 funext x H1;refine propext ⟨fun⟨a,dx,fs,e,e1,l,h⟩=>?_,fun h=>?_⟩
 ·subst e;show jN C (H1 a) _;rw[e1,D1];simp only[List.append_nil] at h;exact⟨l,h⟩
 ·obtain⟨a,rfl,h⟩:=bK h;obtain⟨dx,fs,e1,l,h⟩:=nF h;exact⟨a,dx,fs,rfl,e1,l,by simpa only[List.append_nil] using h⟩
theorem Nr:Io C sp [] E t σ H Q=t σ H fun vs H1=>∀ x dx,H1 x=none->H1 dx=none->dx≠x->sp (.ref x::vs) (UH (UH H1 dx (.own x)) x (.ins C dx [])) (fun v H2=>v=.UK/\Q (.ref x) H2) E:=by
 unfold Io;simp only[List.append_nil]
theorem HA{x y:String}:(Str.ofString x=Str.ofString y)=(x=y):=dE
theorem GF{x y:String}:List.lookup (Str.ofString x) ((Str.ofString y,v)::r)=if x=y then some v else List.lookup (Str.ofString x) r:=by
 by_cases h:x=y
 ·subst h;simp[List.lookup]
 ·have:(Str.ofString x==Str.ofString y)=false:=beq_eq_false_iff_ne.mpr fun z=>h (HA▸z);simp only[List.lookup,this,if_neg h]
theorem EW{x:Str}:List.lookup x ([]:List (Str×V))=none:=rfl
theorem ND{x y:String}:iR (Str.ofString x) u ((Str.ofString y,v)::r)=if y=x then (Str.ofString y,u)::r else (Str.ofString y,v)::iR (Str.ofString x) u r:=by
 rw[show iR (Str.ofString x) u ((Str.ofString y,v)::r)=(if Str.ofString y=Str.ofString x then (Str.ofString y,u)::r else (Str.ofString y,v)::iR (Str.ofString x) u r) from rfl];by_cases h:y=x
 ·rw[if_pos h,if_pos (by rw[h])]
 ·rw[if_neg h,if_neg fun z=>h (HA▸z)]
theorem JK{x:Str}:iR x u []=[(x,u)]:=rfl
end
noncomputable def KY:List V->Option (List String)
 | []=>some []
 | .ty T::r=>(KY r).map (T::·)
 | _=>none
noncomputable def EA(Ts:List String):Obj:={cls:=.type "tuple",data:=.seq (Ts.map Value.type).toArray}
noncomputable def Sr(t:TA):TE:=fun σ H Q=>t σ H fun xs H1=>dY (KY xs) fun Ts=>xs.length<=sizeLine/\∀ p,H1 p=none->Q (.ref p) (UH H1 p (.Vf (EA Ts) (.tup xs)))
noncomputable def Rn:Option HO->Option String
 | some (.tup _)=>some "tuple"
 | some (.lst _)=>some "list"
 | _=>none
noncomputable def Lu(H:Hp):V->Option String
 | .int _=>some "int"
 | .str _=>some "str"
 | .UK=>some "NoneType"
 | .bl _=>some "bool"
 | .ref p=>Rn (H p)
 | _=>none
noncomputable def Rl:String->String->Bool
 | "int","int"=>true
 | "bool","int"=>true
 | "str","str"=>true
 | "tuple","tuple"=>true
 | "list","list"=>true
 | _,_=>false
noncomputable def PX:List V->Hp->VK->Prop:=fun vs H Q=>on2 vs fun x y=>aX y fun p=>∃ Ts xs,H p=some (.Vf (EA Ts) (.tup xs))/\(Ts=["int","str"]\/Ts=["list","tuple"])/\dY (Lu H x) fun kd=>Q (.bl (Ts.any (Rl kd))) H
section
variable {X:Cx}
end
section
variable {H:Hp} {Q:VK} {x:V} {p:Addr} {σ:St} {t:TA} {vs:List V} {i:Int} {z:Str} {b:Bool}
theorem NW:Sr t σ H Q=t σ H fun xs H1=>dY (KY xs) fun Ts=>xs.length<=sizeLine/\∀ p,H1 p=none->Q (.ref p) (UH H1 p (.Vf (EA Ts) (.tup xs))):=rfl
theorem NX{S T:String}:KY [.ty S,.ty T]=some [S,T]:=rfl
theorem Nb:PX [x,.ref p] H Q = ∃ Ts xs,H p=some (.Vf (EA Ts) (.tup xs))/\(Ts=["int","str"]\/Ts=["list","tuple"])/\dY (Lu H x) fun kd=>Q (.bl (Ts.any (Rl kd))) H:=rfl
end
mutual
theorem yR.mono{K:q0B}{H:Hp}:∀ {n m:Nat} {x y:V} {b:Bool},yR K H n x y b->n<=m->yR K H m x y b
 | _,_,_,_,_,.flat a b,_=>.flat a b
 | _,_,_,_,_,.same,_=>.same
 | _,_,_,_,_,.refs ne r,h=>.refs ne (uD.mono r h)
theorem uD.mono{K:q0B}{H:Hp}:∀ {n m:Nat} {a b:Addr} {r:Bool},uD K H n a b r->n<=m->uD K H m a b r
 | _,m+1,_,_,_,.list a b c d,h=>.list a b c fun j x y e1 e2=>yR.mono (d j x y e1 e2) (by omega)
 | _,m+1,_,_,_,.U4 a b c,_=>.U4 a b c
 | _,m+1,_,_,_,.tup a b d,h=>.tup a b fun j x y e1 e2=>yR.mono (d j x y e1 e2) (by omega)
 | _,0,_,_,_,.list _ _ _ _,h=>absurd h (by omega)
 | _,0,_,_,_,.U4 _ _ _,h=>absurd h (by omega)
 | _,0,_,_,_,.tup _ _ _,h=>absurd h (by omega)
end
theorem yR.pair{K:q0B}{H:Hp}{n:Nat}{a b:Addr}{xs ys:List V}(e1:H a=some (.tup xs))(e2:H b=some (.tup ys))(hl:xs.length=ys.length)(he:∀(j:Nat) (x y:V),xs[j]?=some x->ys[j]?=some y->yR K H n x y true):yR K H (n+1) (.ref a) (.ref b) true:=by
 by_cases h:a=b
 ·subst h;exact .same
 ·have:=uD.tup (K:=K) (H:=H) (n:=n) (e:=fun _=>true) (gS.of e1) (gS.of e2) he;rw[show((List.range (min xs.length ys.length)).all (fun _=>true)&&xs.length==ys.length)=true by rw[hl];simp[List.all_eq_true]] at this;exact .refs h this
theorem dJ{a b:Str}:B4 (.str a) (.str b)=(a==b):=rfl
theorem fN{b:Str}:B4 .UK (.str b)=false:=rfl
theorem JT{a b:Int}:B4 (.int a) (.int b)=(a==b):=rfl
theorem Ii{K:q0B}{H:Hp}{n:Nat}(x:Str):yR K H n (.str x) (.str x) true:=by
 have:=yR.flat (K:=K) (H:=H) (n:=n) (x:=.str x) (y:=.str x) rfl rfl
 rwa [show B4 (.str x) (.str x)=true by simp[dJ]] at this
theorem Hc{K:q0B}{H:Hp}{n:Nat}(i:Int):yR K H n (.int i) (.int i) true:=by
 have:=yR.flat (K:=K) (H:=H) (n:=n) (x:=.int i) (y:=.int i) rfl rfl
 rwa [show B4 (.int i) (.int i)=true by simp[JT]] at this
section
variable {X:Cx} {UE:List (Addr×Obj)} {σ:St} {H:Hp} {s:Shared} {a:Addr} {o:Obj} {UG:List (Key×V)}
end
noncomputable def LK(H₀:Hp)(D:Ends):Ends :=
 {nx:=fun σ H=>∃ a o UG,H a=some (.Vf o (.dK UG))/\(∀ ob u,H₀ a≠some (.Vf ob u))/\D.nx σ (UH H a (.dK UG))
  bk:=fun σ H=>∃ a o UG,H a=some (.Vf o (.dK UG))/\(∀ ob u,H₀ a≠some (.Vf ob u))/\D.bk σ (UH H a (.dK UG))
  ct:=fun σ H=>∃ a o UG,H a=some (.Vf o (.dK UG))/\(∀ ob u,H₀ a≠some (.Vf ob u))/\D.ct σ (UH H a (.dK UG))
  rt:=fun v H=>∃ a o UG,H a=some (.Vf o (.dK UG))/\(∀ ob u,H₀ a≠some (.Vf ob u))/\D.rt v (UH H a (.dK UG))}
noncomputable def So(H₀:Hp)(t:TS):TS:=fun D σ H=>t (LK H₀ D) σ H
noncomputable def S8(ty td:TE):TE:=fun σ H Q=>ty σ H fun y H1=>td σ H1 fun x H2=>aX x fun a=>dA (H2 a) fun UG=>dY (mH y) fun k=>Q (.bl (dP UG k).isSome) H2
noncomputable def Ml(td ty:TE):TE:=fun σ H Q=>td σ H fun x H1=>aX x fun a=>dA (H1 a) fun _=>ty σ H1 fun y H2=>dA (H2 a) fun UG=>dY (mH y) fun k=>dY (dP UG k) fun v=>Q v (UH H2 a (.dK (Af UG k)))
noncomputable def Mj(td ty tx:TE):TE:=fun σ H Q=>td σ H fun x H1=>aX x fun a=>dA (H1 a) fun _=>ty σ H1 fun y H2=>tx σ H2 fun z H3=>dA (H3 a) fun UG=>dY (mH y) fun k=>Q ((dP UG k).getD z) H3
section
variable {X:Cx} {o e f:Expr} {apos UM:Pos} {td ty tx:TE}
noncomputable def I8(td:TE):TE:=fun σ H Q=>td σ H fun x H1=>aX x fun a=>dA (H1 a) fun _=>Q .UK (UH H1 a (.dK []))
noncomputable def PD(td ty tx:TE):TE:=fun σ H Q=>td σ H fun x H1=>aX x fun a=>dA (H1 a) fun _=>ty σ H1 fun y H2=>tx σ H2 fun z H3=>dA (H3 a) fun UG=>dY (mH y) fun k=>UG.length < sizeLine /\
 (∀ v,dP UG k=some v->Q v H3)/\(dP UG k=none->Q z (UH H3 a (.dK (j6 UG k z))))
end
section
variable {td ty tx:TE} {σ:St} {H H₀:Hp} {Q:VK} {t:TS} {D:Ends} {v:V}
theorem NN:So H₀ t D σ H=t (LK H₀ D) σ H:=rfl
theorem ML:S8 ty td σ H Q=ty σ H fun y H1=>td σ H1 fun x H2=>aX x fun a=>dA (H2 a) fun UG=>dY (mH y) fun k=>Q (.bl (dP UG k).isSome) H2:=rfl
theorem Jw:Ml td ty σ H Q=td σ H fun x H1=>aX x fun a=>dA (H1 a) fun _=>ty σ H1 fun y H2=>dA (H2 a) fun UG=>dY (mH y) fun k=>dY (dP UG k) fun v=>Q v (UH H2 a (.dK (Af UG k))):=rfl
theorem Gv:Mj td ty tx σ H Q=td σ H fun x H1=>aX x fun a=>dA (H1 a) fun _=>ty σ H1 fun y H2=>tx σ H2 fun z H3=>dA (H3 a) fun UG=>dY (mH y) fun k=>Q ((dP UG k).getD z) H3:=rfl
theorem Gu:I8 td σ H Q=td σ H fun x H1=>aX x fun a=>dA (H1 a) fun _=>Q .UK (UH H1 a (.dK [])):=rfl
theorem Jx:PD td ty tx σ H Q=td σ H fun x H1=>aX x fun a=>dA (H1 a) fun _=>ty σ H1 fun y H2=>tx σ H2 fun z H3=>dA (H3 a) fun UG=>dY (mH y) fun k=>UG.length < sizeLine/\(∀ v,dP UG k=some v->Q v H3)/\(dP UG k=none->Q z (UH H3 a (.dK (j6 UG k z)))):=rfl
end
noncomputable def PQ:V->V->Hp->VK->Prop:=fun x y H Q=>aX x fun p=>eY y fun i=>bR (H p) fun xs=>dY (oS xs i) fun v=>Q v H
noncomputable def Tc:TIp:=fun x y H Q=>eY x fun i=>eY y fun j=>Q (.int (i+j)) H
section
variable {X:Cx}
end
noncomputable def Se(tab:List (Str×Sp))(tk:TE)(t:TA):TE:=fun σ H Q=>tk σ H fun y H1=>gD y fun x=>dY (tab.lookup x) fun sp=>t σ H1 fun vs H2=>sp vs H2 Q E0
section
variable {tab:List (Str×Sp)} {tk to ti te:TE} {t:TA} {σ:St} {H:Hp} {Q:VK} {D:Ends} {p:Addr} {i j:Int} {Xd:V->V->Hp->VK->Prop} {ZP:TIp} {Xe:TSet}
theorem MJ:Se tab tk t σ H Q=tk σ H fun y H1=>gD y fun x=>dY (tab.lookup x) fun sp=>t σ H1 fun vs H2=>sp vs H2 Q E0:=rfl
theorem M3:PQ (.ref p) (.int i) H Q=bR (H p) fun xs=>dY (oS xs i) fun v=>Q v H:=rfl
theorem QA:Tc (.int i) (.int j) H Q=Q (.int (i+j)) H:=rfl
theorem MB:Sa to ti te Xd ZP Xe D σ H=to σ H fun o H1=>ti σ H1 fun i H2=>Xd o i H2 fun x H3=>te σ H3 fun y H4=>ZP x y H4 fun z H5=>Xe o i z H5 fun H6=>D.nx σ H6:=rfl
theorem Qn{i:Nat}{ti:TIp}:Ub i te ti D σ H = ∃ x,σ[i]?=some (some x)/\te σ H fun y H1=>ti x y H1 fun z H2=>D.nx (σ.set i (some z)) H2:=rfl
end
noncomputable def intKeys:List (Key×V)->Option (List Int)
 | []=>some []
 | (.inl i,_)::r=>(intKeys r).map (i::·)
 | _=>none
theorem fM.there{P:Program}{w:World}{H:Hp}{h:Heap}{a:Addr}{o:HO}(x:fM P w H h a o):∃ ob,h.get? a=some ob:=by
 cases o with
 | lst xs=>obtain⟨_,_,_,_,e⟩:=x;exact⟨_,e⟩
 | tup xs=>obtain⟨_,_,_,o,e,_⟩:=x;exact⟨_,e⟩
 | dK UG=>obtain⟨_,_,_,_,o,_,_,e,_⟩:=x;exact⟨_,e⟩
 | dT UG=>obtain⟨_,_,_,_,o,_,_,e,_⟩:=x;exact⟨_,e⟩
 | set S n=>obtain⟨o,_,_,_,e,_⟩:=x;exact⟨_,e⟩
 | ins C dx fs=>obtain⟨_,_,_,e,_⟩:=x;exact⟨_,e⟩
 | own y=>obtain⟨_,e⟩:=x;exact⟨_,e⟩
 | xd fs=>obtain⟨_,⟨_,_,_,e,_⟩,_⟩:=x;exact⟨_,e⟩
 | ZM lo hi=>obtain⟨_,_,_,e⟩:=x;exact⟨_,e⟩
 | Vf ob u=>obtain⟨e,_⟩:=x;exact⟨_,e⟩
 | Xq ps=>exact⟨_,(show h.get? a=some _ from x)⟩
 | met f y=>exact⟨_,(show h.get? a=some _ from x)⟩
 | ext φ=>obtain⟨_,⟨_,e⟩,_⟩:=x;exact⟨_,e⟩
noncomputable def Mq:List V->Hp->VK->Prop:=fun vs H Q=>on1 vs fun x=>aX x fun p=>dA (H p) fun UG=>dY (intKeys UG) fun ns=>ns.length < 64/\∀(l:Addr) (XY:List Int),H l=none->XY.Perm ns->XY.Pairwise (·<=·)->Q (.ref l) (UH H l (.lst (XY.map V.int)))
section
variable {H:Hp} {Q:VK} {p:Addr}
theorem JO:Mq [.ref p] H Q=dA (H p) fun UG=>dY (intKeys UG) fun ns=>ns.length < 64/\∀(l:Addr) (XY:List Int),H l=none->XY.Perm ns->XY.Pairwise (·<=·)->Q (.ref l) (UH H l (.lst (XY.map V.int))):=rfl
end
section
variable {X:Cx} {UE:List (Addr×Obj)} {σ:St} {H:Hp} {s:Shared} {h':Heap}
end
noncomputable def SOk(t:Bool)(h:Heap)(a:Addr)(us:Array Value):Prop:=match t with
 | true=>h.IsTuple a us
 | false=>h.IsList a us
noncomputable def SIter(t:Bool)(h:Heap)(it a:Addr)(i:Nat):Prop:=match t with
 | true=>h.IsTupleIter it a i
 | false=>h.IsListIter it a i
noncomputable def RO(t:Bool):String:=match t with
 | true=>"tuple_iterator"
 | false=>"list_iterator"
theorem SOk.keep{t:Bool}{h h':Heap}{a:Addr}{us:Array Value}(x:SOk t h a us)(e:∀ o,h.get? a=some o->h'.get? a=some o):SOk t h' a us:=by
 cases t<;>(obtain⟨o,ho,r⟩:=x;exact⟨o,e o ho,r⟩)
theorem SIter.keep{t:Bool}{h h':Heap}{it a:Addr}{i:Nat}(x:SIter t h it a i)(e:∀ o,h.get? it=some o->h'.get? it=some o):SIter t h' it a i:=by
 cases t<;>(obtain⟨o,ho,r⟩:=x;exact⟨o,e o ho,r⟩)
theorem SIter.obj{t:Bool}{h:Heap}{it a:Addr}{i:Nat}(x:SIter t h it a i):∃ o,h.get? it=some o/\∀ v,o.data≠.cell v:=by
 cases t<;>(obtain⟨o,ho,c,d⟩:=x;exact⟨o,ho,fun v z=>by rw[d] at z;cases z⟩)
section
variable {prog:Program} {w:World} {A:Around} {E:q0A} {s:Shared}
end
section
variable {prog:Program} {w:World} {A:Around} {E:q0A} {s:Shared}
noncomputable abbrev WM(h:Heap)(t:Bool)(a:Addr):Heap:=h.push {cls:=.type (RO t),data:=.fields #[.ref a,.int 0 0]}
noncomputable abbrev zs2(h:Heap)(t u:Bool)(a b:Addr):Heap:=WM (WM h t a) u b
noncomputable abbrev zs3(h:Heap)(t u:Bool)(a b:Addr):Heap:=(zs2 h t u a b).push {cls:=.type "tuple",data:=.seq #[.ref h.objs.size,.ref (WM h t a).objs.size]}
noncomputable abbrev zs4(h:Heap)(t u:Bool)(a b:Addr):Heap:=(zs3 h t u a b).push {cls:=.type "tuple",data:=.seq #[.none,.none]}
end
noncomputable def FJ(K:q0B)(t:Bool)(H:Hp)(a:Addr)(xs:List V):Prop:=match t with
 | true=>gS K H a xs
 | false=>dU K H a xs
section
variable {X:Cx} {UE:List (Addr×Obj)} {σ:St} {H:Hp} {s:Shared} {a:Addr} {xs ys:List V} {t:Bool}
end
noncomputable def Itz(K:q0B)(t u:Bool)(a b:Addr):It :=
  ⟨fun i H=>∃ xs ys x y,FJ K t H a xs/\FJ K u H b ys/\xs[i]?=some x/\ys[i]?=some y,
   fun i H v H'=>∃ p x y,H p=none/\v=.ref p/\H'=UH H p (.tup [x,y])/\(∀ xs,FJ K t H a xs->xs[i]?=some x)/\∀ ys,FJ K u H b ys->ys[i]?=some y,
   fun i H=>∃ xs ys,FJ K t H a xs/\FJ K u H b ys/\(xs.length<=i\/ys.length<=i)⟩
noncomputable def Ite(K:q0B)(a:Addr):It :=
  ⟨fun i H=>∃ xs x,dU K H a xs/\xs[i]?=some x,fun i H v H'=>∃ p x,H p=none/\v=.ref p/\H'=UH H p (.tup [.int i,x])/\∀ xs,dU K H a xs->xs[i]?=some x,
   fun i H=>∃ xs,dU K H a xs/\xs.length<=i⟩
section
variable {X:Cx} {elts:List Expr} {k:Nat} {tp:Pos}
noncomputable def Oe(K:q0B)(ta:TA):TI:=fun σ H R=>ta σ H fun vs H1=>on2 vs fun x y=>aX x fun a=>aX y fun b=>∃ t u,(∃ xs,FJ K t H1 a xs)/\(∃ ys,FJ K u H1 b ys)/\R (Itz K t u a b) H1
noncomputable def Oc(K:q0B)(ta:TA):TI:=fun σ H R=>ta σ H fun vs H1=>on1 vs fun x=>aX x fun a=>(∃ xs,dU K H1 a xs)/\R (Ite K a) H1
end
section
variable {σ:St} {H:Hp} {D:Ends} {g:TG} {tb:TS} {as:TA} {K:q0B}
theorem MY:uA (Oe K as) g tb D σ H=as σ H fun vs H1=>on2 vs fun x y=>aX x fun a=>aX y fun b=>∃ t u,(∃ xs,FJ K t H1 a xs)/\(∃ ys,FJ K u H1 b ys)/\lp (Itz K t u a b) g tb D σ H1:=rfl
theorem MU:uA (Oc K as) g tb D σ H=as σ H fun vs H1=>on1 vs fun x=>aX x fun a=>(∃ xs,dU K H1 a xs)/\lp (Ite K a) g tb D σ H1:=rfl
end
structure DO(X:Cx)(sc:Scope)(cl:List (Str×Addr))(x y0:Str)(fr:List Nat)(N:List Str):Prop where
 kind:sc.kind=.function
 xR:∀ y∈sc.names,y.2≠.cell
 names:∀ y∈sc.names,y.2=.local->sc.names.lookup y.1=some .local
 BV:closureFor sc X.env=pure cl
 sub:∀ y c,cl.lookup y=some c->X.env.cells.lookup y=some c
 has:∀ y,((relabel sc X.env).names.lookup y=some .cell\/(relabel sc X.env).names.lookup y=some .free)->∃ c,cl.lookup y=some c
 WV:sc.names.lookup x=some .local
 Sv:sc.names.lookup y0=some .local
 nd:N.Nodup
 N0:N=x::y0::fr.map fun j=>X.N.getD j x
 Xy:∀ j∈fr,∃ y,X.N[j]?=some y/\X.env.kindOf y=some .cell/\((relabel sc X.env).names.lookup y=some .cell\/(relabel sc X.env).names.lookup y=some .free)
section
variable {X:Cx} {UE:List (Addr×Obj)} {σ:St} {H:Hp} {s:Shared} {sc:Scope} {cl:List (Str×Addr)} {C:Addr} {x y0:Str} {fr:List Nat} {N:List Str} {fp:List Addr}
end
@[irreducible] def BH(K:q0B)(wi:TI)(fr:List Nat)(tc:TT)(te:TE):TE:=fun σ H Q=>wi σ H fun J H1=>∃ W:Nat->Nat->List V->Hp->Prop,(∃ m,W 0 m [] H1)/\∀ i m xs H,W i m xs H->xs.length<=1000000 /\
  ((J.stop i H/\∀ p,H p=none->Q (.ref p) (UH H p (.lst xs))) \/
   (J.go i H/\∀ v H',J.yld i H v H'->∃ p y y2,v=.ref p/\gS K H' p [y,y2]/\tc (some y::some y2::bJ fr σ) H' fun b H2=>if b=true then te (some y::some y2::bJ fr σ) H2 (fun z H3=>∃ m',m' < m/\W (i+1) m' (xs++[z]) H3) else ∃ m',m' < m/\W (i+1) m' xs H2))
section
variable {X:Cx} {sc:Scope} {cl:List (Str×Addr)} {x y0:Str} {fr:List Nat} {N:List Str} {elt iter:Expr} {px py tp pos:Pos} {tk:Nat} {ifs:List Expr} {wi:TI} {tc:TT} {te:TE}
end
theorem DO.of{X:Cx}{sc:Scope}{cl:List (Str×Addr)}{x y0:Str}{fr:List Nat}{N M:List Str}(S:eK X sc cl x fr M)(Sv:sc.names.lookup y0=some .local)(nd:N.Nodup)(N0:N=x::y0::fr.map fun j=>X.N.getD j x):DO X sc cl x y0 fr N :=
 ⟨S.kind,S.xR,S.names,S.BV,S.sub,S.has,S.WV,Sv,nd,N0,S.Xy⟩
noncomputable def lc2(K:q0B)(J:It)(fr:List Nat)(tc:TT)(te:TE)(σ:St)(H:Hp)(Q:VK):Prop:=∃ W:Nat->Nat->List V->Hp->Prop,(∃ m,W 0 m [] H)/\∀ i m xs H,W i m xs H->xs.length<=1000000 /\
  ((J.stop i H/\∀ p,H p=none->Q (.ref p) (UH H p (.lst xs))) \/
   (J.go i H/\∀ v H',J.yld i H v H'->∃ p y y2,v=.ref p/\gS K H' p [y,y2]/\tc (some y::some y2::bJ fr σ) H' fun b H2=>if b=true then te (some y::some y2::bJ fr σ) H2 (fun z H3=>∃ m',m' < m/\W (i+1) m' (xs++[z]) H3) else ∃ m',m' < m/\W (i+1) m' xs H2))
section
variable {fr:List Nat} {tc:TT} {te:TE} {σ:St} {H:Hp} {Q:VK} {as:TA} {K:q0B}
theorem Gm:BH K (Oe K as) fr tc te σ H Q=as σ H fun vs H1=>on2 vs fun x y=>aX x fun a=>aX y fun b=>∃ t u,(∃ xs,FJ K t H1 a xs)/\(∃ ys,FJ K u H1 b ys)/\lc2 K (Itz K t u a b) fr tc te σ H1 Q:=by
 unfold BH Oe;rfl
theorem Gk:BH K (Oc K as) fr tc te σ H Q=as σ H fun vs H1=>on1 vs fun x=>aX x fun a=>(∃ xs,dU K H1 a xs)/\lc2 K (Ite K a) fr tc te σ H1 Q:=by
 unfold BH Oc;rfl
end
inductive qO:List DictEntry->List (Key×V)->Prop
 | nil:qO [] []
 | cons {h:Int} {x:Str} {t:Tok} {u:Value} {v:V} {es:List DictEntry} {UG:List (Key×V)}:bU v u->qO es UG->qO ({hash:=h,key:=.str x t,val:=u}::es) ((.inr x,v)::UG)
noncomputable def FV(d:Addr)(UG:List (Key×V)):List V->Hp->VK->Prop:=fun vs H Q=>vs=[.ref d]/\∀ p,H p=none->Q (.ref p) (UH H p (.dK UG))
theorem qO.vals{P:Program}{w:World}{es:List DictEntry}{UG:List (Key×V)}(h:qO es UG):∃ vs:List (Key×Value),KV UG vs/\Pairs (fR P w) es vs:=by
 induction h with
 | nil=>exact⟨[],.nil,.nil⟩
 | @cons h x t u v es UG r _ ih =>
  obtain⟨vs,a,b⟩:=ih;exact⟨(.inr x,u)::vs,.cons ⟨rfl,r⟩ a,.cons (uQ P w x t) rfl b⟩
theorem Ju{d:Addr}{UG:List (Key×V)}{H:Hp}{Q:VK}:FV d UG [.ref d] H Q = ∀ p,H p=none->Q (.ref p) (UH H p (.dK UG)):=by simp[FV]
noncomputable def J6:Option HO->Option Bool
 | some (.lst _)=>some true
 | some (.tup _)=>some false
 | _=>none
noncomputable def Lf:List V->Hp->VK->Prop:=fun vs H Q=>on2 vs fun x y=>aX x fun p=>y=.ty "list"/\dY (J6 (H p)) fun b=>Q (.bl b) H
section
variable {X:Cx}
noncomputable def P0(K:q0B):List V->Hp->VK->Prop:=fun vs H Q=>on1 vs fun x=>aX x fun p=>∃ xs,gS K H p xs/\Q (.int xs.length) H
variable {o:Expr} {to:TE} {apos UM:Pos}
noncomputable def Jb(to:TE):TE:=fun σ H Q=>to σ H fun x H1=>aX x fun a=>bR (H1 a) fun _=>Q .UK (UH H1 a (.lst []))
end
section
variable {H:Hp} {Q:VK} {p:Addr} {σ:St} {to:TE} {vs:List V}
theorem Nc:Lf [.ref p,.ty "list"] H Q=dY (J6 (H p)) fun b=>Q (.bl b) H:=by
 unfold Lf on2;simp only[aX,true_and]
theorem Nq{K:q0B}:P0 K [.ref p] H Q = ∃ xs,gS K H p xs/\Q (.int xs.length) H:=rfl
theorem QD:J6 (some (.lst vs))=some true:=rfl
theorem QE:J6 (some (.tup vs))=some false:=rfl
theorem GD:Jb to σ H Q=to σ H fun x H1=>aX x fun a=>bR (H1 a) fun _=>Q .UK (UH H1 a (.lst [])):=rfl
theorem QK{a b:Bool}:Kw (.bl a) (.bl b) H Q=Q (.bl (!decide (a=b))) H:=by simp only[Kw,show scal (.bl a) (.bl b)=true from rfl,V.bl.injEq,true_and]
end
noncomputable def To(K:q0B):List V->Hp->VK->Prop:=fun vs H Q=>on1 vs fun x=>aX x fun p=>∃ ns:List Int,dU K H p (ns.map V.int)/\∀ z:Int,Q (.int z) H
noncomputable def PC(K:q0B):R2:=fun x y H Q=>aX x fun a=>aX y fun b=>∃ xs ys,dU K H a xs/\dU K H b ys/\xs.length+ys.length<=sizeLine/\∀ p,H p=none->Q (.ref p) (UH H p (.lst (xs++ys)))
section
variable {X:Cx}
end
section
variable {K:q0B} {H:Hp} {Q:VK} {p a b:Addr}
theorem Q5:To K [.ref p] H Q = ∃ ns:List Int,dU K H p (ns.map V.int)/\∀ z:Int,Q (.int z) H:=rfl
theorem ME:PC K (.ref a) (.ref b) H Q = ∃ xs ys,dU K H a xs/\dU K H b ys/\xs.length+ys.length<=sizeLine/\∀ p,H p=none->Q (.ref p) (UH H p (.lst (xs++ys))):=rfl
end
section
variable {X:Cx} {sc:Scope} {cl:List (Str×Addr)} {x y0:Str} {fr:List Nat} {N:List Str} {elt iter:Expr} {px px0 tp pos:Pos} {tk:Nat} {ifs:List Expr} {wi:TI} {tc:TT} {te:TE}
end
section
variable {a b:TS} {D:Ends} {σ:St} {H:Hp}
theorem aP(h:∀ R:St->Hp->Prop,(∀ σ' H',b D σ' H'->R σ' H')->a {D with nx:=R} σ H):Pd a b D σ H:=h (b D) fun _ _ x=>x
theorem P5{wt:TT}{P R:Hp->Prop}(h:∀ P':Hp->Prop,(∀ H',P H'->P' H')->wt σ H fun b H'=>if b=true then P' H' else R H'):wt σ H fun b H'=>if b=true then P H' else R H':=h P fun _ x=>x
theorem Ll{tb:TS}{i:Nat}{v:V}(h:tb D (σ.set i (some v)) H):uN i v σ H fun σ2 H2=>tb D σ2 H2:=h
theorem E3{K:q0B}{a:Addr}{xs:List V}{g:TG}{tb:TS}(Pv:Nat->St->Hp->Prop)(h0:Pv 0 σ H)(hl:∀ i σ H,i<=xs.length->Pv i σ H->dU K H a xs)
    (hs:∀(D':Ends) i x σ H,D'.nx=Pv (i+1)->xs[i]?=some x->Pv i σ H->g x σ H fun σ2 H2=>tb D' σ2 H2) (hd:∀ σ H,Pv xs.length σ H->D.nx σ H):lp (Wc K a) g tb D σ H :=
  GR Pv h0 hl (fun i x σ H e p=>hs _ i x σ H rfl e p) hd
end
structure Fl(P:Program)(w:World)(base:Heap)(outer:List Env)(H:Hp)(s:Shared)(H':Hp)(x:Addr)(cls:Value)(s':Shared):Prop where
 os:s'.os=s.os
 bare:AllBare s'.gens
 un:Un (frs outer) [] H H' s.heap s'.heap
 UL:HOk P w H' s'.heap
 We:∃ B a0,Heap.FlyingW B outer x cls a0 s'.heap/\base.StaysIn B/\(∀ a o,H' a=some o->∃ ob,B.get? a=some ob) /\
  (∀ b o,s.heap.get? b=some o->H b=none->b∉frs outer->B.get? b=some o)/\∀ b o,s.heap.get? b=some o->b∉frs outer->∃ ob,B.get? b=some ob
 nx:H' x=none
noncomputable def U2(P:Program)(w:World)(base:Heap):CXT:=fun outer H s E e s'=>∃ x cls H',e=.ref x/\Fl P w base outer H s H' x cls s'/\E cls none H'
section
variable {P:Program} {w:World} {K:q0B} {mg:q0C} {base:Heap} {N:List Str} {qual:Str} {scope:Scope} {f:Addr} {cd:Value} {A:Around} {outer:List Env} {s0 s s':Shared} {H0 H H':Hp} {E:XK} {UE:List (Addr×Obj)} {σ:St} {x:Addr} {cls a0:Value} {B h':Heap}
theorem HOk.GQ(x:HOk P w H' s'.heap)(b0:B.StaysIn s'.heap)(b1:B.StaysIn h')(b2:∀ a o,H' a=some o->∃ ob,B.get? a=some ob):HOk P w H' h':=fun a o e =>
  (x a o e).BD (fun b u hb q=>by
    obtain⟨ob,Wu⟩:∃ ob,B.get? b=some ob:=by
      rcases hb with rfl|hb
      · exact b2 _ _ e
      · exact b2 _ _ hb
    have:=b0 b ob Wu;rw[q] at this;cases this;exact b1 b _ Wu) (fun _ q=>q) fun _ _ q=>q
theorem Fl.out(I:UI (oT (U2 P w base) P w K mg base N qual scope f cd A outer s0 H0 E) UE σ H' s)(hs:∀ b o,s.heap.get? b=some o->(∀ vs,o.data≠.fields vs)->∃ sl,h'.get? b=some {o with slots:=sl})
    (fl:Heap.FlyingW B outer x cls a0 h') (bs:base.StaysIn B) (b2:∀ a o,H' a=some o->∃ ob,B.get? a=some ob) (UL:HOk P w H' h')
    (b3:∀ b o,s0.heap.get? b=some o->H0 b=none->b∉frs outer->B.get? b=some o) (b4:∀ b o,s0.heap.get? b=some o->b∉frs outer->∃ ob,B.get? b=some ob) (nx:H' x=none) :
    Fl P w base outer H0 s0 H' x cls {s with heap:=h'}:=by
  have slot:∀ b o,s0.heap.get? b=some o->H0 b=none->b∈frs outer->∃ sl,h'.get? b=some {o with slots:=sl}:=fun b o q n hb=>by
    obtain⟨sl,e⟩:=I.base.slot b o q n hb (by intro z;cases z);obtain⟨_,o',U5,hn⟩:=I.oU.mem hb;rw[e] at U5;cases U5;obtain⟨X1,e'⟩:=hs b _ e hn;exact⟨X1,e'⟩
  refine⟨I.os,I.bare,⟨fun b o q n hb _=>fl.1 b o (b3 b o q n hb),fun b o q n hb _=>slot b o q n hb,fun b o q n _=>I.base.free b o q n (by intro z;cases z),fun b o q _=>?_,I.base.nW,I.base.mG,I.base.nV⟩,UL,⟨B,a0,fl,bs,b2,b3,b4⟩,nx⟩;by_cases hb:b∈frs outer
  · obtain⟨_,o',U5,_⟩:=fl.2.2.1.mem hb;exact⟨o',U5⟩
  · obtain⟨ob,Wu⟩:=b4 b o q hb;exact⟨ob,fl.1 b ob Wu⟩
theorem D4{env:Env}{L b:Addr}(h:env.frame=some L)(hb:b∈frs (env::outer)):b=L\/b∈frs outer:=by
 unfold frs at hb;rw[List.filterMap_cons,h] at hb;exact List.mem_cons.mp hb
theorem pass1{E1:XK}(h:∀ cls od G,E1 cls od G->E cls od G):Passes (U2 P w base) (oT (U2 P w base) P w K mg base N qual scope f cd A outer s0 H0 E) E1:=by
 intro UE σ H s e s' I hx;obtain⟨x,cls,H',rfl,F,hE⟩:=hx;obtain⟨B,a0,We,bs,b2,b3,b4⟩:=F.We;have I':UI (oT (U2 P w base) P w K mg base N qual scope f cd A outer s0 H0 E) UE σ H' s':=I.DT F.os F.un F.UL F.bare (by simp);have nL:∀ b o,s0.heap.get? b=some o->b∉frs outer->b∉frs (envOfC qual scope s0.heap.objs.size f cd::outer):=fun b o q hb z=>by
  rcases D4 (L:=s0.heap.objs.size) rfl z with z|z
  ·exact absurd (Heap.lt_size q) (by rw[z];exact Nat.lt_irrefl _)
  ·exact hb z
 refine wpAny_leaves_onW (L:=s0.heap.objs.size) I.ok.frames rfl We fun h' fl' up=>?_;refine⟨x,cls,H',rfl,Fl.out I' up fl' bs b2 (F.UL.GQ We.1 fl'.1 b2) (fun b o q n hb=>?_) (fun b o q hb=>?_) F.nx,h _ _ _ hE⟩
 ·exact b3 b o (I.base.keep b o q n hb (by intro z;cases z)) (I.base.free b o q n (by intro z;cases z)) (nL b o q hb)
 ·obtain⟨o',U5⟩:=I.base.there b o q (by intro z;cases z);exact b4 b o' U5 (nL b o q hb)
theorem raised1{args:List Value}(I:UI (oT (U2 P w base) P w K mg base N qual scope f cd A outer s0 H0 E) UE σ H s)(hx:Heap.MadeExcOf s.heap h' x cls args)(hE:E cls none H) :
    (oT (U2 P w base) P w K mg base N qual scope f cd A outer s0 H0 E).xe (.ref x) {s with heap:=h'}:=by
  have nL:∀ b o,s0.heap.get? b=some o->b∉frs outer->b∉frs (envOfC qual scope s0.heap.objs.size f cd::outer):=fun b o q hb z=>by
    rcases D4 (L:=s0.heap.objs.size) rfl z with z|z
    · exact absurd (Heap.lt_size q) (by rw[z];exact Nat.lt_irrefl _)
    · exact hb z
  have Xc:=I.stack;have W2:∀ env∈(envOfC qual scope s0.heap.objs.size f cd::outer),∀ b,env.frame=some b->b∈frs (envOfC qual scope s0.heap.objs.size f cd::outer):=fun env he b hb=>List.mem_filterMap.mpr ⟨env,he,hb⟩;have bs:base.StaysIn (PySem.W.hideAll s.heap (frs (envOfC qual scope s0.heap.objs.size f cd::outer))):=fun b o q=>PySem.W.hideAll_get _ (I.bk b o q) fun hm=>by
    have:base.get? b=none:=(Xc.mem hm).1;rw[q] at this;cases this
  have b2:∀ a o,H a=some o->∃ ob,(PySem.W.hideAll s.heap (frs (envOfC qual scope s0.heap.objs.size f cd::outer))).get? a=some ob:=fun a o e=>by
    obtain⟨ob,Wu⟩:=(I.UL a o e).there;refine⟨ob,PySem.W.hideAll_get _ Wu fun hm=>?_⟩;rw[I.BE a hm] at e;cases e
  have nx:H x=none:=by
    cases e:H x with
    | none=>rfl
    | some o =>
      obtain⟨ob,Wu⟩:=(I.UL x o e).there;rw[hx.new] at Wu;cases Wu
  have I':UI (oT (U2 P w base) P w K mg base N qual scope f cd A outer s0 H0 E) UE σ H {s with heap:=h'}:=I.kept (t':=s.toks) fun b o e=>hx.keeps b o e;refine wpAny_leaves_madeW (L:=s0.heap.objs.size) (h:=s.heap) I.ok.frames rfl (fun b o q=>PySem.W.of_hideAll _ q) (PySem.W.funFrames_hide Xc W2) hx fun h2 t fl _ _ up=>?_;refine⟨x,cls,H,rfl,Fl.out I' up fl bs b2 (I'.UL.GQ (fun b o q=>hx.keeps b o (PySem.W.of_hideAll _ q)) fl.1 b2) (fun b o q n hb=>?_) (fun b o q hb=>?_) nx,hE⟩
  · exact PySem.W.hideAll_get _ (I.base.keep b o q n hb (by intro z;cases z)) (nL b o q hb)
  · obtain⟨o',U5⟩:=I.base.there b o q (by intro z;cases z);exact⟨o',PySem.W.hideAll_get _ U5 (nL b o q hb)⟩
end
noncomputable def Ht(K:q0B)(C:Addr)(l:List Value):Bool:=match K.lookup C with
 | some ob=>(match ob.data with
  | .cls cd=>cd.mro==l
  | _=>false)
 | none=>false
noncomputable abbrev iD:List Value:=[.type "ValueError",.type "Exception",.type "BaseException",.type "object"]
structure XCls(K:q0B)(C:Addr)(bm:List Value):Prop where
 ok:PySem.W.excIn K C iD "ValueError.__new__"=true
 mro:Ht K C (.ref C::bm)=true
theorem XCls.obj{K:q0B}{h:Heap}{C:Addr}{bm:List Value}(x:XCls K C bm)(X:K.In h):∃ N nm q bs hdct sn sub ab col dd k0 k1 k2 k3 k5 mN,h.get? C=some (excClassObj nm q C N bs bm hdct sn sub ab col dd k0 k1 k2 k3 k5 "ValueError.__new__")/\h.Ns N mN/\mN "__init__"=none/\OwnTail h iD bm:=by
 obtain⟨ok,mro⟩:=x;unfold Ht at mro;unfold PySem.W.excIn at ok;split at ok
 ·next dct cdt slt lk =>
  rw[lk] at mro;have e1:=X C _ lk;split at ok
  ·next D l a0 a1 a2 a3 idn a5 e2 e3 =>
   simp only[Bool.and_eq_true,beq_iff_eq,Bool.not_eq_true'] at ok mro;obtain⟨⟨⟨⟨⟨rfl,rfl⟩,o3⟩,o4⟩,o5⟩,o6⟩:=ok;rw[e2] at mro;cases mro;obtain⟨c1,c2,c3,c4,c5,c6,c7,c8,c9,c10,c11⟩:=cdt;simp only at e2 o3 o5 o6;subst e2 o3;obtain⟨ls⟩:=slt;simp only at e3;subst e3;exact⟨c4,c1,c5,c2,c6,c7,c8,c9,c10,dct,a0,a1,a2,a3,a5,_,e1,.of_isNs (PySem.W.isNs_of_in X o5),PySem.W.nsMap_none_of_in X o5 o6,PySem.W.tail_of_in X o4⟩
  ·cases ok
 ·cases ok
noncomputable def Throws(X:Cx)(E:XK):Prop:=∀(UE:List (Addr×Obj)) (σ:St) (H:Hp) (s:Shared) (x:Addr) (cls:Value) (args:List Value) (h':Heap),UI X UE σ H s->Heap.MadeExcOf s.heap h' x cls args->E cls none H->X.xe (.ref x) {s with heap:=h'}
theorem throws1{P:Program}{w:World}{K:q0B}{mg:q0C}{base:Heap}{N:List Str}{qual:Str}{scope:Scope}{f:Addr}{cd:Value}{A:Around}{outer:List Env}{s0:Shared}{H0:Hp}{E:XK}:Throws (oT (U2 P w base) P w K mg base N qual scope f cd A outer s0 H0 E) E :=
 fun _ _ _ _ _ _ _ _ I hx hE=>raised1 I hx hE
noncomputable def Iu(C:Addr)(E:XK)(t:TA):TS:=fun _ σ H=>t σ H fun vs H1=>vs.length<=100/\E (.ref C) none H1
theorem dS{X:Cx}{x:Str}{C:Addr}{bm:List Value}{E:XK}{e:Expr}{es:List Expr}{t:TA}{np UM pos:Pos}(hX:Throws X E)(hc:X.calm=true)(hg:Gl X x)(hm:X.mg x=some (.ref C))(xc:XCls X.K C bm)(ha:PA X (e::es) t)
    (VJ:(x==("__debug__":Str))=false:=by decide) (he:starEach (e::es) X.env=(false,eval e X.env)::starEach es X.env:=by rfl) (VD:(backTo UM (starEach (e::es) X.env)).any (·.1)=false:=by rfl) (hb:backTo UM (starEach (e::es) X.env)=(false,eval e X.env)::backTo UM (starEach es X.env):=by rfl) :
    PS X (.Raise (some (.Call (.Name x np) (e::es) [] UM)) none pos) (Iu C E t):=by
  intro UE s σ H D I h;obtain⟨N,nm,q,bs,hdct,sn,sub,ab,col,dd,k0,k1,k2,k3,k5,mN,c1,c2,c3,c4⟩:=xc.obj I.ok.mod.kin;refine wpAny_Raise_call_subU (C:=C) (N:=N) (nm:=nm) (q:=q) (bs:=bs) (bm:=bm) (hdct:=hdct) (sn:=sn) (sub:=sub) (ab:=ab) (col:=col) (dd:=dd) (k0:=k0) (k1:=k1) (k2:=k2) (k3:=k3) (k5:=k5) (mN:=mN) (bmB:=iD) PySem.F.excBase_ValueError (by rfl) PySem.F.excBase_ValueError (c4.hasType (by rfl)) (I.ok.hd hc) VD c3 (lH I hg hm ⟨rfl,?_⟩ VJ);have key:=thn (ha UM UE s σ H _ I h) (Q':=fun vs s'=>vs.length<=sizeLine/\s'.heap.get? C=some (excClassObj nm q C N bs bm hdct sn sub ab col dd k0 k1 k2 k3 k5 "ValueError.__new__")/\s'.heap.Ns N mN/\OwnTail s'.heap iD bm/\∀ h' e,Heap.MadeExcOf s'.heap h' e (.ref C) vs->X.xe (.ref e) {s' with heap:=h'})
    fun vs s1 ⟨ws,H1,I1,r,l,q1⟩=>⟨by rw[<- r.length];exact Nat.le_trans l (by decide),I1.bk _ _ c1,c2.keeps I1.bk,c4.keeps I1.bk,fun h' e hm=>hX _ _ _ _ _ _ _ _ I1 hm q1⟩
  rw[hb] at key ⊢;exact PySem.Calls.evalArgs_plain (thn key fun vs s1 ⟨a,b,c,d,e⟩=>⟨rfl,a,b,c,d,e⟩)
noncomputable def yS(x C:Addr):HO:=.ext fun h=>∃ oe vs,h.get? x=some oe/\oe.cls=.ref C/\oe.data=.fields vs
noncomputable abbrev Cx.sui(X:Cx)(x:Addr):Cx:={X with A:=X.A.mark (some (.ref x)),calm:=false,xe:=fun _ _=>False}
section
variable {X:Cx} {UE:List (Addr×Obj)} {σ:St} {H H':Hp} {s s':Shared} {x C:Addr} {h':Heap}
theorem Cx.Ok.sui(ok:X.Ok)(x:Addr):(X.sui x).Ok :=
 ⟨ok.mod,ok.kind,ok.glob,ok.blt,ok.above,ok.inj,ok.has,ok.cab,(fun z=>by cases z),ok.frames,ok.Xc,ok.exf,ok.bs,ok.bsz,ok.Dp,ok.E2,ok.oU,ok.frf⟩
theorem UI.sui(I:UI X UE σ H s)(x:Addr):UI (X.sui x) UE σ H s:=⟨I.ok.sui x,I.os,I.bare,I.base,I.loc,I.cell,I.free,I.jK,I.pin,I.UL,I.len⟩
theorem UI.Sx(ok:X.Ok)(I:UI (X.sui x) UE σ H s):UI X UE σ H s:=⟨ok,I.os,I.bare,I.base,I.loc,I.cell,I.free,I.jK,I.pin,I.UL,I.len⟩
theorem UI.Sw{o:HO}(I:UI X UE σ H s)(h0:X.s₀.heap.get? x=none)(hn:H x=none)(nL:x≠X.env.locals)(nC:∀ y c,X.env.cells.lookup y=some c->c≠x)(nP:∀ p∈X.pn++UE,p.1≠x)(new:fM X.prog X.w (UH H x o) s.heap x o):UI X UE σ (UH H x o) s:=by
 have ne:∀ b ob,X.s₀.heap.get? b=some ob->b≠x:=fun b ob e z=>by rw[z,h0] at e;cases e
 have nt:∀ b u,H b=some u->b≠x:=fun b u e=>aQ e hn;refine⟨I.ok,I.os,I.bare,⟨I.base.keep,I.base.slot,fun b ob e n hx=>by rw[aY (ne b ob e)];exact I.base.free b ob e n hx,I.base.there,fun b xs e=>by have:=I.base.nW b xs e;rw[aY (nt b _ this)];exact this,fun b ob u e=>by have:=I.base.mG b ob u e;rw[aY (nt b _ this)];exact this,fun b ps e=>by
  obtain⟨m,q⟩:=I.base.nV b ps e;exact⟨m,by rw[aY (nt b _ q)];exact q⟩⟩,I.loc,I.cell,by rw[aY nL.symm];exact I.free,fun y c e=>by rw[aY (nC y c e)];exact I.jK y c e,fun p hp=>?_,fun b u e=>?_,I.len⟩
 ·obtain⟨a,b,c⟩:=I.pin p hp;exact⟨a,by rw[aY (nP p hp)];exact b,c⟩
 ·by_cases hb:b=x
  ·subst hb;rw[aE] at e;cases e;exact new
  ·rw[aY hb] at e;exact(I.UL b u e).BD (fun _ _ _ q=>q) (fun c q=>by rw[aY (nt c _ q)];exact q) fun c xs q=>by rw[aY (nt c _ q)];exact q
theorem UI.gone{j:Nat}{y:Str}{m:q0C}{v:Option Value}{t':Nat}(I:UI X UE σ H s)(hN:X.N.Nodup)(hj:X.N[j]?=some y)(hm:s.heap.Ns X.env.locals m)(hn:h'.Ns X.env.locals (fun z=>if z=y then v else m z))(hs:Heap.SameBut X.env.locals s.heap h') :
    UI X UE (σ.set j none) H {s with heap:=h',toks:=t'}:=by
  obtain⟨m',XF,hl⟩:=id I.loc;obtain⟨oL,_,_,hoL,_⟩:=id hm;have up:∀ b ob,X.s₀.heap.get? b=some ob->b≠X.env.locals:=fun b ob e=>Nat.ne_of_lt (Nat.lt_of_lt_of_le (Heap.lt_size e) I.ok.above);have em:m'=m:=by
    obtain⟨o1,es1,ep1,a1,a2,_,a4⟩:=XF;obtain⟨o2,es2,ep2,b1,b2,_,b4⟩:=hm;rw[a1] at b1;cases b1;rw[a2] at b2;cases b2;funext z;rw[<- a4,<- b4]
  subst em;refine⟨I.ok,I.os,I.bare,⟨fun b o e n hb hx=>(hs.2 b (up b o e)).trans (I.base.keep b o e n hb hx),fun b o e n hb hx=>?_,I.base.free,fun b o e hx=>?_,I.base.nW,I.base.mG,I.base.nV⟩,⟨_,hn,fun i z w e1 e2 e3=>?_⟩,fun z c e=>?_,I.free,I.jK,fun p hp=>?_,fun b ob e=>?_,by simpa using I.len⟩
  · obtain⟨sl,q⟩:=I.base.slot b o e n hb hx;exact⟨sl,(hs.2 b (up b o e)).trans q⟩
  · obtain⟨o',q⟩:=I.base.there b o e hx;exact⟨o',(hs.2 b (up b o e)).trans q⟩
  · have hi:i≠j:=fun z=>by
      subst z;by_cases Vg:i < σ.length
      · rw[List.getElem?_set_self Vg] at e2;cases e2
      · rw[List.getElem?_eq_none (by simpa using Vg)] at e2;cases e2
    rw[List.getElem?_set_ne (Ne.symm hi)] at e2;obtain⟨u,r,q⟩:=hl i z w e1 e2 e3;refine⟨u,r,?_⟩;rcases q with⟨k,q⟩|⟨k,c,q1,q2⟩
    · refine .inl ⟨k,?_⟩;show(if z=y then v else m' z)=some u;rw[if_neg (fun zy:z=y=>hi (xS hN e1 (by rw[zy];exact hj)))];exact q
    · exact .inr ⟨k,c,q1,q2.sameBut hs (I.WY z c q1)⟩
  · obtain⟨w,q⟩:=I.cell z c e;exact⟨w,q.sameBut hs (I.WY z c e)⟩
  · obtain⟨a,b,c,d⟩:=I.pin p hp;exact⟨(hs.2 p.1 c).trans a,b,c,d⟩
  · refine(I.UL b ob e).BD (fun c u hc q=>(hs.2 c ?_).trans q) (fun _ q=>q) fun _ _ q=>q;rintro rfl;rcases hc with rfl|hc
    · rw[I.free] at e;cases e
    · rw[I.free] at hc;cases hc
end
theorem Fl.move{P:Program}{w:World}{base:Heap}{outer:List Env}{H:Hp}{s:Shared}{H':Hp}{x:Addr}{cls:Value}{s':Shared}(F:Fl P w base outer H s H' x cls s'){B h':Heap}{a0:Value}(We:Heap.FlyingW B outer x cls a0 s'.heap)(bs:base.StaysIn B)(b2:∀ a o,H' a=some o->∃ ob,B.get? a=some ob)
    (b3:∀ b o,s.heap.get? b=some o->H b=none->b∉frs outer->B.get? b=some o) (b4:∀ b o,s.heap.get? b=some o->b∉frs outer->∃ ob,B.get? b=some ob) (Wp:Heap.FlyingW B outer x cls a0 h') (up:s'.heap.UpToSlots h'):Fl P w base outer H s H' x cls {s' with heap:=h'}:=by
  refine⟨F.os,F.bare,⟨fun b o q n hb _=>Wp.1 b o (b3 b o q n hb),fun b o q n hb hx=>?_,F.un.free,fun b o q hx=>?_,F.un.nW,F.un.mG,F.un.nV⟩,F.UL.GQ We.1 Wp.1 b2,⟨B,a0,Wp,bs,b2,b3,b4⟩,F.nx⟩
  · obtain⟨sl,e⟩:=F.un.slot b o q n hb hx;obtain⟨_,o',U5,hn⟩:=We.2.2.1.mem hb;rw[e] at U5;cases U5;obtain⟨X1,e'⟩:=up b _ e hn;exact⟨X1,e'⟩
  · by_cases hb:b∈frs outer
    · obtain⟨_,o',U5,_⟩:=Wp.2.2.1.mem hb;exact⟨o',U5⟩
    · obtain⟨ob,Wu⟩:=b4 b o q hb;exact⟨ob,Wp.1 b ob Wu⟩
section
variable {M:Model} {A:Around} {E:q0A} {h:Heap} {g:Array GenState} {d:Drawn} {t:Nat} {os:OsState}
theorem EZ{Q:Bool->Shared->Prop}{e C D:Addr}{oe:Obj}{nm q nm' q':Str}{N N':Addr}{bs bm bs' bm':List Value}{hdct Xl:Bool}{sn sn':List Str}{sub Zd:List Value}{ab ab':Bool}{col Ys:Option Bool}{dd dd':Option Addr}{k0 k1 k2 k3 k5 j0 j1 j2 j3 j5:Option Value}{i1 i2:String}
    (hC:h.get? C=some (excClassObj nm q C N bs bm hdct sn sub ab col dd k0 k1 k2 k3 k5 i1)) (hD:h.get? D=some (excClassObj nm' q' D N' bs' bm' Xl sn' Zd ab' Ys dd' j0 j1 j2 j3 j5 i2)) (he:h.get? e=some oe) (XD:oe.cls=.ref C)
    (hb:(Value.ref D::bm').contains (.type "BaseException")=true) (hs:(Value.ref C::bm).contains (.ref D)=true) (hq:Q true ⟨h,g,d,t,os⟩):wpAny M A (excMatches (.ref e) (.ref D)) Q E ⟨h,g,d,t,os⟩:=by
  have f:=tc_notTuple;unfold excMatches
  repeat (first|(with_reducible refine wpAny_loadPart_at he ?_;rw[XD])|with_reducible refine wpAny_loadPart_at hD ?_|(with_reducible refine wpAny_isSubtype_exc hD ?_;rw[hb])|(with_reducible refine wpAny_isSubtype_exc hC ?_;rw[hs])|wp_step)
  exact hq
end
section
variable {X:Cx} {UE:List (Addr×Obj)} {σ:St} {H H':Hp} {s s':Shared} {x C Dc:Addr} {bm Yr:List Value} {j:Nat} {n cx:Str} {b0:Stmt} {U9:List Stmt} {np hp:Pos} {ts:TS} {D0:Ends}
noncomputable abbrev Ej(D0:Ends)(j:Nat):Ends:={nx:=fun σ' G=>D0.nx (σ'.set j none) G,rt:=fun _ _=>False}
theorem caught1(I:UI X UE σ H s)(F:Fl X.prog X.w X.base X.stack H s H' x (.ref C) s')(Vs:X.stack=X.env::X.outer/\X.env.frame=some X.env.locals)(hN:X.N.Nodup)(hj:X.N[j]?=some n)(hl:X.env.kindOf n=some .local)(hg:Gl X cx)(hm:X.mg cx=some (.ref Dc))(xC:XCls X.K C bm)(xD:XCls X.K Dc Yr)
    (Yz:(Value.ref C::bm).contains (.ref Dc)=true) (YV:VA (X.sui x) (b0::U9) ts) (q:ts (Ej D0 j) (σ.set j (some (.ref x))) (UH H' x (yS x C))) (VJ:(cx==("__debug__":Str))=false) (hex:X.ex=[]) :
    wpAny (model X.prog X.w) X.A (noteFrame (.ref x) X.env) (fun _ s₂=>wpAny (model X.prog X.w) X.A (setFlight (.ref x) none) (fun _ s₃=>wpAny (model X.prog X.w) X.A (handleBy (.ref x) X.env [.ExceptHandler (some (.Name cx np)) (some n) (b0::U9) hp]) (SP X UE D0) X.xe s₃) X.xe s₂) X.xe s':=by
  obtain⟨B,a0,We,bs,b2,b3,b4⟩:=F.We;obtain⟨N,nm,q1,Z3,hdct,sn,sub,ab,col,dd,k0,k1,k2,k3,k5,mN,c1,c2,c3,c4⟩:=xC.obj I.ok.mod.kin;obtain⟨N',nm',q2,bs2,Xl,sn',Zd,ab',Ys,dd',j0,j1,j2,j3,j5,mN',d1,d2,d3,d4⟩:=xD.obj I.ok.mod.kin;have fl0:Heap.FlyingW B (X.env::X.outer) x (.ref C) a0 s'.heap:=by rw[<- Vs.1];exact We
  refine wpAny_looks_onW (L:=X.env.locals) (by rw[I.ok.frames,Vs.1]) Vs.2 fl0 fun h4 held up4=>?_;refine wpAny_landsW held fun h5 Xx up5=>?_;have fl5:Heap.FlyingW B X.stack x (.ref C) a0 h5:=by rw[Vs.1];exact Xx
  have F5:=F.move We bs b2 b3 b4 fl5 (up4.trans up5);have I5:UI X UE σ H' {s' with heap:=h5}:=I.DT F5.os F5.un F5.UL F5.bare (by simp);obtain⟨oe,hoe,ZG⟩:=Xx.there;refine wpAny_handleBy_cons (codeAny_handlers_test (lH (X:=X.sui x) (I5.sui x) hg hm ?_ VJ)) (by intro z;cases z);refine EZ (I5.bk _ _ c1) (I5.bk _ _ d1) hoe ZG (by rw[List.contains_cons,show Yr.contains (Value.type "BaseException")=true from d4.hasType (by rfl),Bool.or_true]) Yz ?_;refine codeAny_handlers_suite_as ?_;refine lands_againW Xx fun h6 Yw up6=>?_;have fl6:Heap.FlyingW B X.stack x (.ref C) a0 h6:=by rw[Vs.1];exact Yw
  have F6:=F5.move fl5 bs b2 b3 b4 fl6 up6;have I6:UI X UE σ H' {s' with heap:=h6}:=I.DT F6.os F6.un F6.UL F6.bare (by simp);obtain⟨oe6,vs6,_,_,_,he6,YI,hd6,_⟩:=id Yw.2.2.2;have nf:x∉frs X.stack:=fun z=>by
    obtain⟨_,o',U5,hn'⟩:=fl6.2.2.1.mem z;rw[he6] at U5;cases U5;exact hn' _ hd6
  have nB:∀ b ob,s.heap.get? b=some ob->b≠x:=fun b ob e z=>by
    subst z;obtain⟨o',U5⟩:=b4 b ob e nf;rw[We.2.1] at U5;cases U5
  have It:UI X UE σ (UH H' x (yS x C)) {s' with heap:=h6}:=by
    refine I6.Sw ?_ F.nx ?_ (fun y c e z=>?_) (fun p hp z=>?_) ?_
    · cases e:X.s₀.heap.get? x with
      | none=>rfl
      | some o0 =>
        have h0:x∉X.ex:=by rw[hex];exact List.not_mem_nil
        obtain⟨o',U5⟩:=I.base.there x o0 e h0;exact absurd rfl (nB x o' U5)
    · intro z;exact nf (by rw[Vs.1,z];unfold frs;rw[List.filterMap_cons,Vs.2];exact List.mem_cons_self)
    · obtain⟨v,o1,ho1,_⟩:=I.cell y c e;exact nB c o1 ho1 z
    · exact nB p.1 p.2 (I.pin p hp).1 z
    · exact⟨⟨oe6,vs6,he6,YI.1,hd6⟩,⟨oe6,he6⟩,fun h1 h2 ⟨o1,v1,a1,a2,a3⟩ k=>⟨o1,v1,k _ a1,a2,a3⟩⟩
  refine sC (X:=X.sui x) (i:=j) (v:=.ref x) (It.sui x) hN hj (.inl hl) rfl (fun s6 Is=>?_) (.inr hl);refine wpAny_mono (YV UE s6 _ _ _ Is q) (fun f s7 hs=>?_) (fun _ _ z=>z.elim);cases f with
  | next =>
    obtain⟨σ',H'',J,q'⟩:=hs;have J':=J.Sx I.ok;obtain⟨m,XF,_⟩:=id J'.loc;exact wpAny_nameGoes_keeps hl XF (by rw[I.ok.kind];rfl) fun h8 v hn hs=>⟨σ'.set j none,H'',J'.gone hN hj XF hn hs,q'⟩
  | ret u=>obtain⟨_,_,_,_,_,z⟩:=hs;exact z.elim
  | brk=>obtain⟨_,_,_,z⟩:=hs;exact z.elim
  | cont=>obtain⟨_,_,_,z⟩:=hs;exact z.elim
end
noncomputable def Iw(sp:Sp)(U7:List V)(t:TA)(i j:Nat)(C:Addr)(ts:TS):TS:=fun D σ H=>t σ H fun vs H1=>sp (vs++U7) H1 (fun v H2=>D.nx (σ.set i (some v)) H2) fun cls _ H2=>cls=.ref C/\∀ x,H2 x=none->ts (Ej D j) (σ.set j (some (.ref x))) (UH H2 x (yS x C))
section
variable {X:Cx} {k:Nat} {f C Dc:Addr} {fd:FuncData} {ps:List Str} {sp:Sp} {U7:List V} {ds:List Value} {bm Yr:List Value} {i j:Nat} {y n cx fx:Str} {b0:Stmt} {U9:List Stmt} {np hp yp fp cp ap pos:Pos} {ts:TS} {e:Expr} {es:List Expr} {t:TA}
noncomputable abbrev Lr(X:Cx)(UE:List (Addr×Obj))(cx n:Str)(b0:Stmt)(U9:List Stmt)(np hp:Pos)(D0:Ends):Value->Shared->Prop:=fun e s₁=>wpAny (model X.prog X.w) X.A (noteFrame e X.env) (fun _ s₂=>wpAny (model X.prog X.w) X.A (setFlight e none) (fun _ s₃=>wpAny (model X.prog X.w) X.A (handleBy e X.env [.ExceptHandler (some (.Name cx np)) (some n) (b0::U9) hp]) (SP X UE D0) X.xe s₃) X.xe s₂) X.xe s₁
theorem Iz{UE:List (Addr×Obj)}{σ:St}{H:Hp}{s:Shared}{Q:VK}{D0:Ends}(F:bN X.prog X.w X.K X.mg X.base (U2 X.prog X.w X.base) k f fd ps sp)(hr:Room k X.A)(hgf:Gl X fx)(hmf:X.mg fx=some (.ref f))(hk:PySem.W.keepIn X.K (.ref f)=true)(hb:Binds X.K fd ps ds)(hd:Vals U7 ds)
    (ha:∀ E,PA (X.qJ E) (e::es) t) (Vs:X.stack=X.env::X.outer/\X.env.frame=some X.env.locals) (hN:X.N.Nodup) (hj:X.N[j]?=some n) (hl:X.env.kindOf n=some .local) (hg:Gl X cx) (hm:X.mg cx=some (.ref Dc)) (xC:XCls X.K C bm) (xD:XCls X.K Dc Yr) (Yz:(Value.ref C::bm).contains (.ref Dc)=true) (YV:∀ x,VA (X.sui x) (b0::U9) ts)
    (W0:(fx==("__debug__":Str))=false) (VJ:(cx==("__debug__":Str))=false) (hex:X.ex=[]) (he:starEach (e::es) X.env=(false,eval e X.env)::starEach es X.env) (VD:(backTo cp (starEach es X.env)).any (·.1)=false) (I:UI X UE σ H s)
    (h:t σ H fun vs H1=>sp (vs++U7) H1 Q fun cls _ H2=>cls=.ref C/\∀ x,H2 x=none->ts (Ej D0 j) (σ.set j (some (.ref x))) (UH H2 x (yS x C))) :
    wpAny (model X.prog X.w) X.A (eval (.Call (.Name fx fp) (e::es) [] cp) X.env) (EP X UE σ Q) (Lr X UE cx n b0 U9 np hp D0) s:=by
  refine wpAny_Call_Name_kw (lH I hgf hmf ?_ W0);refine PySem.W.callWith_K (h₀:=X.base) I.ok.mod.kin hk (thn (ha (Lr X UE cx n b0 U9 np hp D0) cp UE s σ H _ (I.qJ _) h) fun us s1 ⟨vs,H1,I1,r,q⟩=>⟨I1.iL.kIn,?_⟩) he VD;have I1:=I1.iL;have r2:Vals (vs++U7) (us++ds):=r.append hd;have hlen:(us++ds).length=ps.length:=by rw[<- r2.length];exact F.len _ _ _ _ q
  refine wpAny_call (codeAny_mono (F.run X.A X.stack s1 H1 ⟨us,[]⟩ (us++ds) (vs++U7) _ _ hr I1.NY (hb s1 us I1.kIn hlen) r2 q) fun r s' hq=>?_);cases r with
  | error e1 =>
    obtain⟨x,cls,H',rfl,Fx,rfl,hts⟩:=hq;exact caught1 I1 Fx Vs hN hj hl hg hm xC xD Yz (YV x) (hts x Fx.nx) VJ hex
  | ok fl =>
    cases fl with
    | ret u=>exact I1.after hq
    | next=>exact False.elim hq
    | brk=>exact False.elim hq
    | cont=>exact False.elim hq
theorem Kq(F:bN X.prog X.w X.K X.mg X.base (U2 X.prog X.w X.base) k f fd ps sp)(hr:Room k X.A)(hgf:Gl X fx)(hmf:X.mg fx=some (.ref f))(hk:PySem.W.keepIn X.K (.ref f)=true)(hb:Binds X.K fd ps ds)(hd:Vals U7 ds)
    (ha:∀ E,PA (X.qJ E) (e::es) t) (hN:X.N.Nodup) (hi:X.N[i]?=some y) (hy:Loc X.env.scope y) (hj:X.N[j]?=some n) (hg:Gl X cx) (hm:X.mg cx=some (.ref Dc)) (xC:XCls X.K C bm) (xD:XCls X.K Dc Yr) (Yz:(Value.ref C::bm).contains (.ref Dc)=true) (YV:∀ x,VA (X.sui x) (b0::U9) ts)
    (hl:X.env.kindOf n=some .local:=by rfl) (Vs:X.stack=X.env::X.outer/\X.env.frame=some X.env.locals:=by exact⟨rfl,rfl⟩) (W0:(fx==("__debug__":Str))=false:=by decide) (VJ:(cx==("__debug__":Str))=false:=by decide) (hex:X.ex=[]:=by rfl) (he:starEach (e::es) X.env=(false,eval e X.env)::starEach es X.env:=by rfl) (VD:(backTo cp (starEach es X.env)).any (·.1)=false:=by rfl)
    (hs:swapsWith (.Call (.Name fx fp) (e::es) [] cp) (some (.Name y yp)) ap.line X.env=pure false:=by rfl) (hf:X.fn y=true\/X.env.scope.names.lookup y=some .local:=by first|exact .inl rfl|exact .inr rfl|assumption) :
    PS X (.Try [.Assign [.Name y yp] (.Call (.Name fx fp) (e::es) [] cp) ap] [.ExceptHandler (some (.Name cx np)) (some n) (b0::U9) hp] [] [] pos) (Iw sp U7 t i j C ts):=by
  intro UE s σ H D I h;refine wpAny_Try_except (wpAny_execs_cons (wpAny_Assign_Name (thn (Iz (D0:=D) F hr hgf hmf hk hb hd ha Vs hN hj hl hg hm xC xD Yz YV W0 VJ hex he VD I h) fun v s1 ⟨z,H1,I1,r1,q1⟩=>?_) hs));exact sC I1 hN hi hy r1 (fun s2 I2=>wpAny_execs_nil (wpAny_execs_nil ⟨_,H1,I2,q1⟩)) hf
end
noncomputable def fS(K:q0B)(n:Str):List Value->Bool
 | .ref a::r=>(match K.lookup a with
  | some ob=>(match ob.data with
   | .cls cd=>PySem.W.nsIn K cd.ns n==some none
   | _=>false)
  | none=>false)&&fS K n r
 | _=>true
section
variable {K:q0B} {M:Model} {A:Around} {E:q0A} {h:Heap} {g:Array GenState} {d:Drawn} {t:Nat} {os:OsState} {n:Str} {y:Option Value} {Q:Option Value->Shared->Prop} {C:Addr} {bm:List Value}
theorem AE{a:Addr}{c0:Value}{dd:Option Addr}{cd:ClassData}{sl:Array (Option Value)}{mA:q0C}(X:K.In h)(ha:h.get? a=some {cls:=c0,dict:=dd,data:=.cls cd,slots:=sl})(hN:h.Ns cd.ns mA){r:List Value}(q:fS K n (.ref a::r)=true):mA n=none/\fS K n r=true:=by
 simp only[fS,Bool.and_eq_true] at q;refine⟨?_,q.2⟩;have q1:=q.1;split at q1
 ·next ob lk =>
  have e:=X _ _ lk;rw[ha] at e;cases e;simp only[beq_iff_eq] at q1;exact PySem.W.ns_none_of X hN q1
 ·cases q1
theorem De{l:List Value}(X:K.In h)(T:OwnTail h iD l)(q:fS K n l=true)(hr:lookupAlong iD n=pure y)(hq:Q y ⟨h,g,d,t,os⟩):wpAny M A (lookupAlong l n) Q E ⟨h,g,d,t,os⟩:=by
 induction T with
 | base=>rw[hr];exact wpAny_pure hq
 | own hA hN _ _ ih =>
  obtain⟨q1,q2⟩:=AE X hA hN q;rw[lookupAlong_cons];unfold classOwn classData;refine wpAny_bind (wpAny_bind (wpAny_bind (wpAny_load hA (wpAny_pure (wpAny_nsGet hN ?_)))));rw[q1];exact ih q2
theorem DH(xc:XCls K C bm)(X:K.In h)(q:fS K n (.ref C::bm)=true)(hB:typeLookup (.type "ValueError") n=pure y)(hv:mroOf (.type "ValueError")=pure iD)(hq:Q y ⟨h,g,d,t,os⟩):wpAny M A (typeLookup (.ref C) n) Q E ⟨h,g,d,t,os⟩:=by
 obtain⟨N,nm,q1,Z3,hdct,sn,sub,ab,col,dd,k0,k1,k2,k3,k5,mN,c1,c2,c3,c4⟩:=xc.obj X;have hr:lookupAlong iD n=pure y:=by rw[typeLookup_eq,hv] at hB;exact hB
 rw[typeLookup_eq];refine wpAny_bind (wpAny_mroOf_exc c1 ?_);obtain⟨e1,e2⟩:=AE X c1 c2 q;rw[lookupAlong_cons];refine wpAny_bind (wpAny_classOwn_exc c1 c2 ?_);rw[e1];exact De X c4 e2 hr hq
end
section
variable {K:q0B} {prog:Program} {w:World} {A:Around} {E:q0A} {h:Heap} {g:Array GenState} {d:Drawn} {t:Nat} {os:OsState} {C a:Addr} {bm:List Value} {o:Obj}
theorem yQ(xc:XCls K C bm)(X:K.In h)(T:String)(b:Bool)(hb:iD.contains (.type T)=b){M:Model}{Q:Bool->Shared->Prop}(hq:Q b ⟨h,g,d,t,os⟩):wpAny M A (isSubtype (.ref C) (.type T)) Q E ⟨h,g,d,t,os⟩:=by
 obtain⟨N,nm,q1,Z3,hdct,sn,sub,ab,col,dd,k0,k1,k2,k3,k5,mN,c1,c2,c3,c4⟩:=xc.obj X;refine wpAny_isSubtype_exc c1 ?_;rw[List.contains_cons,show bm.contains (Value.type T)=b from c4.hasType hb];cases b<;>exact hq
theorem zD:typeLookup (.type "ValueError") "__class__"=pure (some (.builtin "object.__class__")):=by rw[typeLookup_type,builtinLookup_eq_fast];kernel_rfl
theorem Jf{R:Result->Shared->Prop}(xc:XCls K C bm)(X:K.In h)(hx:h.get? a=some o)(hc:o.cls=.ref C)(hq:R (.ok (.ret (.ref C))) ⟨h,g,d,t,os⟩) :
    codeAny (model prog w) A (.call (.builtin "getset_descriptor.__get__") ⟨[.builtin "object.__class__",.ref a,.ref C],[]⟩) R ⟨h,g,d,t,os⟩:=by
  have f1:(⟨h,g,d,t,os⟩:Shared).TypeIs (.builtin "object.__class__") "getset_descriptor":=F.typeOf_object_class;have f2:∀ {M:Model} {A:Around} {E:q0A} {Q:Bool->Shared->Prop},Q true ⟨h,g,d,t,os⟩->wpAny M A (isSubtype (.ref C) (.type (".".intercalate ("object.__class__".cutAt '.').dropLast))) Q E ⟨h,g,d,t,os⟩:=fun z=>by
    rw[F.owner_object_class];exact yQ xc X "object" true (by rfl) z
  refine codeAny_call_builtin F.slot_gs_get.plain F.entry_gs_get (F.slot_gs_get.check _ _ _ _ _ _ _ _ f1 (F.args_gs_get _ _ _) ?_)
  repeat (any_goals (first|assumption|(with_reducible refine wpAny_loadPart_at hx ?_;rw[hc])|with_reducible refine f2 ?_|wp_step))
  refine⟨Code.quiet_builtin _ (by decide +kernel),codeAny_builtin F.entry_object_class ?_⟩
  repeat (any_goals (first|assumption|(with_reducible refine wpAny_loadPart_at hx ?_;rw[hc])|wp_step))
structure XQ(K:q0B)(C:Addr)(bm:List Value):Prop extends XCls K C bm where
 q1:fS K "__getattribute__" (.ref C::bm)=true
 q2:fS K "__getattr__" (.ref C::bm)=true
 q3:fS K "__class__" (.ref C::bm)=true
theorem GS{M:Model}{nv:Value}{Q:Unit->Shared->Prop}(xc:XCls K C bm)(X:K.In h)(hx:h.get? a=some o)(hc:o.cls=.ref C)(hq:Q () ⟨h,g,d,t,os⟩):wpAny M A (checkBuiltinCall "BaseException.__getattribute__" ⟨[.ref a,nv],[]⟩) Q E ⟨h,g,d,t,os⟩:=by
 have k1:builtinKind "BaseException.__getattribute__"=some .slot:=by decide +kernel
 have k2:splitId "BaseException.__getattribute__"=some ("BaseException","__getattribute__"):=by decide +kernel
 have k3:=F.args_bexc_ga (.ref a) nv;have f2:∀ {M:Model} {A:Around} {E:q0A} {Q:Bool->Shared->Prop},Q true ⟨h,g,d,t,os⟩->wpAny M A (isSubtype (.ref C) (.type "BaseException")) Q E ⟨h,g,d,t,os⟩:=fun z=>yQ xc X "BaseException" true (by rfl) z;simp only[checkBuiltinCall,k1,k2];refine wpAny_bind ?_;unfold isInstance
 repeat (first|(with_reducible refine wpAny_loadPart_at hx ?_;rw[hc])|with_reducible refine f2 ?_|wp_step)
 exact hq
theorem ER{tk:Tok}{Q:Fin->Shared->Prop}(xc:XQ K C bm)(X:K.In h)(hx:h.get? a=some o)(hc:o.cls=.ref C)(hq:Q (.done (.ret (.ref C))) ⟨h,g,d,t,os⟩) :
    wpAny (model prog w) A (Builtin.«object.__getattribute__» ⟨[.ref a,.str "__class__" tk],[]⟩) Q E ⟨h,g,d,t,os⟩:=by
  have f1:(⟨h,g,d,t,os⟩:Shared).TypeIs (.builtin "object.__class__") "getset_descriptor":=F.typeOf_object_class;have f2:=F.typeOf_object_class;have f3:=F.slot_gs_get.lookup;have f4:=F.slot_gs_set.lookup;have lk:∀ {M:Model} {A:Around} {E:q0A} {Q:Option Value->Shared->Prop},Q (some (.builtin "object.__class__")) ⟨h,g,d,t,os⟩->wpAny M A (typeLookup (.ref C) "__class__") Q E ⟨h,g,d,t,os⟩:=fun z=>DH xc.toXCls X xc.q3 zD F.attrBase_ValueError.mro z
  repeat (any_goals (first|assumption|(with_reducible refine wpAny_loadPart_at hx ?_;rw[hc])|with_reducible refine lk ?_|wp_step))
  refine Jf xc.toXCls X hx hc ?_
  repeat (any_goals (first|assumption|wp_step))
theorem Mr{tk:Tok}{fill expr:Bool}{Q:q0A}(xc:XQ K C bm)(X:K.In h)(hx:h.get? a=some o)(hc:o.cls=.ref C)(hq:Q (.ref C) ⟨h,g,d,t,os⟩):wpAny (model prog w) A (getAttrBy (.ref a) (.str "__class__" tk) fill expr) Q E ⟨h,g,d,t,os⟩:=by
 have FB:=F.attrBase_ValueError;have f3:=FB.ga.bind (.ref a);have y0:(expr&&onTheHeap (Value.builtin "BaseException.__getattribute__"))=false:=by cases expr<;>rfl
 have y2:(Value.builtin "BaseException.__getattribute__"==Value.builtin "object.__getattribute__")=false:=by decide +kernel
 have y1:(onTheHeap (Value.ref C)&&Value.builtin "BaseException.__getattribute__"==Value.builtin "object.__getattribute__")=false:=by rw[y2];rfl
 have l1:∀ {M:Model} {A:Around} {E:q0A} {Q:Option Value->Shared->Prop},Q (some (.builtin "BaseException.__getattribute__")) ⟨h,g,d,t,os⟩->wpAny M A (typeLookup (.ref C) "__getattribute__") Q E ⟨h,g,d,t,os⟩:=fun z=>DH xc.toXCls X xc.q1 FB.ga.lookup FB.mro z;have l2:∀ {M:Model} {A:Around} {E:q0A} {Q:Option Value->Shared->Prop},Q none ⟨h,g,d,t,os⟩->wpAny M A (typeLookup (.ref C) "__getattr__") Q E ⟨h,g,d,t,os⟩:=fun z=>DH xc.toXCls X xc.q2 FB.noGetattr FB.mro z
 repeat (any_goals (first|assumption|(with_reducible refine wpAny_loadPart_at hx ?_;rw[hc])|with_reducible refine l1 ?_|with_reducible refine l2 ?_|wp_step))
 refine codeAny_call_builtin FB.ga.plain F.entry_bexc_ga (GS xc.toXCls X hx hc (ER xc X hx hc ?_))
 repeat (any_goals (first|assumption|wp_step))
theorem Gc{Q:Option Value->Shared->Prop}(xc:XQ K C bm)(X:K.In h)(hx:h.get? a=some o)(hc:o.cls=.ref C)(hq:Q (some (.ref C)) ⟨h,g,d,t+1,os⟩):wpAny (model prog w) A (getAttr? (.ref a) "__class__") Q E ⟨h,g,d,t,os⟩:=by
 unfold getAttr? getAttrBy?
 repeat (any_goals (first|assumption|with_reducible apply Mr xc X hx hc|wp_step))
noncomputable def XP(K:q0B)(C a:Addr):Shared->Prop:=fun s=>K.In s.heap/\∃ o,s.heap.get? a=some o/\o.cls=.ref C
theorem FN(xc:XCls K C bm):Answers (XP K C a) (.ref a) (.ref C) true:=fun dep tk prog w A R s hs=>by
 obtain⟨h,g,d,t,os⟩:=s;obtain⟨⟨X,o,hx,hc⟩,hq⟩:=hs;have e:(Value.ref C==Value.ref C)=true:=by simp
 have q0:=hq t
 repeat (any_goals (first|assumption|(with_reducible refine wpAny_loadPart_at hx ?_;rw[hc])|wp_step))
theorem FO(xc:XCls K C bm):Answers (XP K C a) (.ref a) (.type "ValueError") true:=fun dep tk prog w A R s hs=>by
 obtain⟨h,g,d,t,os⟩:=s;obtain⟨⟨X,o,hx,hc⟩,hq⟩:=hs;have q0:=hq t;have f2:∀ {M:Model} {A:Around} {E:q0A} {Q:Bool->Shared->Prop},Q true ⟨h,g,d,t,os⟩->wpAny M A (isSubtype (.ref C) (.type "ValueError")) Q E ⟨h,g,d,t,os⟩:=fun z=>yQ xc X "ValueError" true (by rfl) z;have ty:typeOf (.type "ValueError")=pure (.type "type"):=by kernel_rfl
 repeat (any_goals (first|assumption|(with_reducible refine wpAny_loadPart_at hx ?_;rw[hc])|with_reducible refine f2 ?_|wp_step))
noncomputable def jV(K:q0B)(D:Addr):Bool:=match K.lookup D with
 | some ⟨.type "type",_,.cls _,_⟩=>true
 | _=>false
theorem IY{D:Addr}(xc:XQ K C bm)(xd:jV K D=true)(hn:(Value.ref C::bm).contains (.ref D)=false):Answers (XP K C a) (.ref a) (.ref D) false:=fun dep tk prog w A R s hs=>by
 obtain⟨h,g,d,t,os⟩:=s;obtain⟨⟨X,o,hx,hc⟩,hq⟩:=hs;obtain⟨N,nm,q1,Z3,hdct,sn,sub,ab,col,dd,k0,k1,k2,k3,k5,mN,c1,c2,c3,c4⟩:=xc.toXCls.obj X;obtain⟨od,cdD,slD,d1⟩:∃ od cdD slD,h.get? D=some (⟨.type "type",od,.cls cdD,slD⟩:Obj):=by
  unfold jV at xd;split at xd
  ·next lk=>exact⟨_,_,_,X _ _ lk⟩
  ·cases xd
 have q0:=hq (t+1);have ne:(Value.ref C==Value.ref D)=false:=by
  rw[List.contains_cons,Bool.or_eq_false_iff] at hn;exact beq_eq_false_iff_ne.mpr fun z=>beq_eq_false_iff_ne.mp hn.1 z.symm
 have f2:∀ {M:Model} {A:Around} {E:q0A} {t:Nat} {Q:Bool->Shared->Prop},Q false ⟨h,g,d,t,os⟩->wpAny M A (isSubtype (.ref C) (.ref D)) Q E ⟨h,g,d,t,os⟩:=fun z=>wpAny_isSubtype_exc c1 (by rw[hn];exact z)
 repeat (any_goals (first|assumption|(with_reducible refine wpAny_loadPart_at hx ?_;rw[hc])|with_reducible refine wpAny_loadPart_at c1 ?_|with_reducible refine wpAny_loadPart_at d1 ?_|with_reducible refine f2 ?_|with_reducible apply Gc xc X hx hc|wp_step))
theorem DQ{P:Shared->Prop}{x:Value}:∀ {cs:List Value},(∀ c∈cs,Answers P x c false)->AnswersAll P x cs (cs.map fun _=>false)
 | [],_=>trivial
 | c::cs,h=>⟨h c (by simp),DQ fun c' hc=>h c' (by simp[hc])⟩
theorem J3{tp:Addr}{cs:List Value}{vs:List Bool}{tk:Tok}{s:Shared}{Q:Fin->Shared->Prop}{nn:Nat}{dt:Option Addr}{sl:Array (Option Value)}(xc:XCls K C bm)(hp:XP K C a s)(ht:s.heap.get? tp=some {cls:=.type "tuple",dict:=dt,data:=.seq cs.toArray nn,slots:=sl})(ha:AnswersAll (XP K C a) (.ref a) cs vs)
    (hq:∀ V9,Q (.done (.ret (.bool (vs.any id)))) {s with toks:=V9}):wpAny (model prog w) A (Builtin.«isinstance.nested» ⟨[.ref a,.ref tp,.int 0 tk],[]⟩) Q E s:=by
  obtain⟨h,g,d,t,os⟩:=s;obtain⟨X,o,hx,hc⟩:=id hp;have t2:(⟨h,g,d,t,os⟩:Shared).TypeIs (.ref tp) "tuple":=⟨_,ht,rfl⟩;have f1:=F.isi_sub_tuple;have ne:(Value.ref C==Value.ref tp)=false:=beq_eq_false_iff_ne.mpr fun z=>by
    obtain⟨_,_,_,_,_,_,_,_,_,_,_,_,_,_,_,_,c1,_⟩:=xc.obj X;injection z with z
    rw[z,ht] at c1;have z2:=congrArg Obj.cls (Option.some.inj c1);injection z2 with z2
    exact absurd z2 (by decide)
  repeat (any_goals (first|assumption|(with_reducible refine wpAny_loadPart_at hx ?_;rw[hc])|wp_step))
  refine wpAny_arrayLoop ?_;simp only[Option.getD_some,List.toList_toArray];refine isinstance_items (dep:=0) (fun _ _ z=>z) cs vs _ _ ha hp fun V9=>?_;cases hv:vs.any id<;>simp only[if_true,Bool.false_eq_true,if_false]<;>repeat (any_goals (first|assumption|wp_step))
  all_goals exact hv▸hq V9
end
section
variable {X:Cx} {C:Addr} {bm:List Value}
noncomputable def PV(K:q0B)(C:Addr)(bm:List Value):List V->Hp->VK->Prop:=fun vs H Q=>∃ x,H x=some (yS x C)/\(((vs=[.ref x,.ref C]\/vs=[.ref x,.ty "ValueError"])/\Q (.bl true) H) \/
 ∃ p cs,vs=[.ref x,.ref p]/\H p=some (.tup cs)/\(∀ c∈cs,∃ D,c=.ref D/\jV K D=true/\(Value.ref C::bm).contains (.ref D)=false)/\Q (.bl false) H)
theorem Ga(xc:XQ X.K C bm):eP X (.builtin "isinstance") (PV X.K C bm):=fun UE s σ H xs us Q I r h=>by
 obtain⟨x,hx,h⟩:=h;obtain⟨⟨oe,vs,e1,e2,e3⟩,_⟩:=I.UL x _ hx;have P:XP X.K C x s:=⟨I.kIn,oe,e1,e2⟩;have fin:∀ {b:Bool} {c:Value},Answers (XP X.K C x) (.ref x) c b->Q (.bl b) H->wpAny (model X.prog X.w) X.A (call (.builtin "isinstance") [.ref x,c]) (EP X UE σ Q) X.xe s:=fun {b c} A q =>
  call_isinstance (S:=fun _ R s=>XP X.K C x s/\∀ V9,R (.ok (.ret (.bool b))) {s with toks:=V9}) (fun _ _ _ _ _ hs=>isinstance_outer (A 0 _ _ _ _ _ _ hs) (by intro e;cases e)) ⟨P,fun V9=>⟨.bl b,H,I.tok V9,rfl,q⟩⟩
 rcases h with⟨rfl|rfl,q⟩|⟨p,cs,rfl,hp,hc,q⟩
 ·cases r with
  | cons r1 r =>
   cases r with
   | cons r2 r =>
    cases r;cases r1;cases r2;exact fin (FN xc.toXCls) q
 ·cases r with
  | cons r1 r =>
   cases r with
   | cons r2 r =>
    cases r;cases r1;cases r2;exact fin (FO xc.toXCls) q
 ·cases r with
  | cons r1 r =>
   cases r with
   | cons r2 r =>
    cases r;cases r1;cases r2;obtain⟨_,UJ,rv,⟨c0,dt,da,sl⟩,t1,t2,nt,t3⟩:=I.UL p _ hp;simp only at t2 t3;subst t2 t3;have al:∀ u∈UJ,Answers (XP X.K C x) (.ref x) u false:=fun u hu=>by
     obtain⟨i,hi⟩:=List.mem_iff_getElem?.mp hu;have li:i < cs.length:=by rw[rv.length];exact(List.getElem?_eq_some_iff.mp hi).1
     obtain⟨u',hu',ru⟩:=rv.get (List.getElem?_eq_getElem li);rw[hi] at hu';cases hu';obtain⟨D,eD,xd,hn⟩:=hc _ (List.getElem_mem li);rw[eD] at ru;cases ru;exact IY xc xd hn
    have q':∀ V9,EP X UE σ Q (.bool ((UJ.map fun _=>false).any id)) {s with toks:=V9}:=fun V9=>by
     rw[show(UJ.map fun _=>false).any id=false by simp];exact⟨.bl false,H,I.tok V9,rfl,q⟩
    exact call_isinstance (S:=fun _ R s'=>s'=s/\∀ V9,R (.ok (.ret (.bool ((UJ.map fun _=>false).any id)))) {s' with toks:=V9}) (fun _ _ _ _ _ hs=>isinstance_outer (by obtain⟨rfl,hs⟩:=hs;exact J3 xc.toXCls P t1 (DQ al) hs) (by intro e;cases e)) ⟨rfl,q'⟩
end
theorem yU:bootBuiltins "ValueError"=some (.type "ValueError"):=by decide +kernel
section
variable {P:Program} {w:World} {K:q0B} {mg:q0C} {base:Heap}
theorem Fun.okE{x qual:Str}{st:Stmt}{f:Addr}{fd:FuncData}{N ps:List Str}{k:Nat}{sp:Sp}(F:Fun K x qual st f fd)(S:bC N ps (aT st))(len:∀ vs H Q E,sp vs H Q E->vs.length=ps.length)
    (VI:∀(UN:Value) (A:Around) (outer:List Env) (s:Shared) (H:Hp) (vs:List V) (Q:VK) (E:XK),Room k (A.deeper (envOfC qual (aT st) s.heap.objs.size f UN))->sp vs H Q E ->
      ∃ t,VA (oT (U2 P w base) P w K mg base N qual (aT st) f UN A outer s H E) (oC st) t/\t {nx:=fun _ H'=>Q .UK H',rt:=Q} (start N vs) H):bN P w K mg base (U2 P w base) (k+1) f fd ps sp:=by
  obtain⟨oc,od,kV,doc,pm,an,UN,ct,Xb,rfl,lk,V7⟩:=F.ex;exact Lo lk V7 S len fun A outer s H vs Q E hr WT=>VI UN A outer s H vs Q E hr WT
theorem Rx{X:Cx}:Passes (U2 P w base) X E0:=fun _ _ _ _ _ _ _ h=>by
 obtain⟨_,_,_,_,_,z⟩:=h;exact z.elim
end
noncomputable def SW(xs:List V)(n:Prop)(c:V->List V->Prop)(_u:Tg c:=()):Prop:=match xs with
 | []=>n
 | v::r=>c v r
section
variable {n:Prop} {c:V->List V->Prop} {v:V} {r:List V} {D:Ends} {σ:St} {H:Hp} {C:Addr} {E:XK} {t:TA} {sp:Sp} {i j:Nat} {ts:TS}
theorem Ny:SW [] n c=n:=rfl
theorem Nz:SW (v::r) n c=c v r:=rfl
theorem QN{y:Str}{Q:VK}:Kw .UK (.str y) H Q=Q (.bl true) H:=by simp[Kw,scal]
theorem JL:Iu C E t D σ H=t σ H fun vs H1=>vs.length<=100/\E (.ref C) none H1:=rfl
theorem NV:Iw sp [] t i j C ts D σ H=t σ H fun vs H1=>sp vs H1 (fun v H2=>D.nx (σ.set i (some v)) H2) fun cls _ H2=>cls=.ref C/\∀ x,H2 x=none->ts (Ej D j) (σ.set j (some (.ref x))) (UH H2 x (yS x C)):=by simp only[Iw,List.append_nil]
end
theorem sR{X:Cx}{C:Addr}{bm:List Value}(K:q0B)(e:X.K=K)(xc:XQ K C bm):eP X (.builtin "isinstance") (PV K C bm):=by subst e;exact Ga xc
noncomputable def Lj:R2:=fun x y H Q=>match x with
 | .str z=>eY y fun k=>(k=0/\Q (.str "") H)\/(k=1/\Q (.str z) H)
 | _=>False
theorem Kl{X:Cx}:iM X (binaryOp .Mult) Lj:=fun UE s σ H x y v u Q I rx ry h=>by
 cases x with
 | str z =>
  obtain⟨k,rfl,h⟩:=eC h;obtain⟨t,rfl⟩:=rx;obtain⟨t',rfl⟩:=ry;rcases h with⟨rfl,q⟩|⟨rfl,q⟩
  ·exact P.mul_str_none (by decide) (by decide) ⟨.str "",H,I.tok _,⟨_,by rw[show Str.empty=("":Str) by decide +kernel]⟩,q⟩
  ·exact P.mul_str (by decide) (fun _ z=>by cases z) (fun _ z=>by cases z) (by
    rw[if_neg (by decide),if_pos (by rfl)];exact⟨.str z,H,I,⟨_,rfl⟩,q⟩)
 | _=>exact False.elim h
theorem NJ{z:Str}{k:Int}{H:Hp}{Q:VK}:Lj (.str z) (.int k) H Q=((k=0/\Q (.str "") H)\/(k=1/\Q (.str z) H)):=rfl
theorem SS{K:q0B}{C:Addr}{bm:List Value}(a:PySem.W.excIn K C [.type "ValueError",.type "Exception",.type "BaseException",.type "object"] "ValueError.__new__"=true)(b:Ht K C (.ref C::bm)=true)(c:fS K "__getattribute__" (.ref C::bm)=true)(d:fS K "__getattr__" (.ref C::bm)=true)(e:fS K "__class__" (.ref C::bm)=true):XQ K C bm:=⟨⟨a,b⟩,c,d,e⟩
end L2
namespace Own
open PySem L2
local macro_rules | `(tactic| and_intros) => `(tactic| try dsimp only [L2.start, Hl, Lv, List.cons_append, List.nil_append, List.replicate_succ, List.replicate_zero, List.length_cons, List.length_nil, Nat.reduceAdd, Nat.reduceSub, Nat.zero_add])
local macro_rules | `(tactic| infer_instance) => `(tactic| exact ⟨rfl, rfl, rfl, by decide +kernel, rfl, by decide +kernel, by decide +kernel⟩)
seal PE PA PT PW PS VA PI PG PGs Yb PO PPs
noncomputable def top(i:Nat):Stmt:=PySem.Challenge.pw_outlast_k10_whole_one_text_one_program.main.body.getD i (.Pass ⟨0,0,0,0⟩)
noncomputable abbrev jD:Stmt:=top 11
noncomputable abbrev qB:Stmt:=top 12
noncomputable abbrev iK:Stmt:=top 17
noncomputable abbrev yD:Stmt:=top 18
noncomputable abbrev kB:Stmt:=top 25
noncomputable abbrev lP:Stmt:=oG (top 26) 0
noncomputable abbrev j7:Stmt:=oG (top 26) 1
noncomputable abbrev j8:Stmt:=oG (top 26) 2
noncomputable abbrev gR:Stmt:=oG (top 26) 3
noncomputable abbrev fX:Stmt:=oG (top 26) 4
noncomputable abbrev fP:Stmt:=oG (top 26) 5
noncomputable abbrev nS:Stmt:=top 27
noncomputable abbrev nR:Stmt:=top 28
noncomputable abbrev lY:Stmt:=top 29
noncomputable abbrev lX:Stmt:=top 30
noncomputable abbrev lW:Stmt:=top 31
noncomputable abbrev qH:Stmt:=top 32
noncomputable abbrev qI:Stmt:=top 33
noncomputable abbrev lU:Stmt:=top 34
noncomputable abbrev kC:Stmt:=top 36
noncomputable abbrev lQ:Stmt:=top 37
noncomputable abbrev gX:Stmt:=top 38
noncomputable abbrev nM:Stmt:=top 39
noncomputable abbrev qG:Stmt:=top 40
noncomputable abbrev nQ:Stmt:=top 41
noncomputable abbrev lR:Stmt:=top 42
noncomputable abbrev lV:Stmt:=top 43
noncomputable abbrev nO:Stmt:=top 45
noncomputable abbrev tY:Stmt:=top 46
noncomputable abbrev qF:Stmt:=top 47
noncomputable abbrev yE:Stmt:=top 48
noncomputable abbrev tX:Stmt:=top 49
noncomputable abbrev nN:Stmt:=top 50
noncomputable abbrev tV:Stmt:=top 51
noncomputable abbrev qD:Stmt:=top 52
noncomputable abbrev lT:Stmt:=top 53
noncomputable abbrev qC:Stmt:=top 54
noncomputable abbrev tW:Stmt:=top 55
noncomputable abbrev kA:Stmt:=top 56
noncomputable abbrev j9:Stmt:=top 57
noncomputable abbrev tU:Stmt:=top 58
noncomputable abbrev HV:Stmt:=top 59
set_option genInjectivity false in
set_option genSizeOf false in
structure Ad where
 jU:Addr
 jW:FuncData
 sD:Addr
 sS:FuncData
 iV:Addr
 iX:FuncData
 AO:Addr
 A0:FuncData
 kX:Addr
 lC:FuncData
 jH:Addr
 mQ:FuncData
 kT:Addr
 k8:FuncData
 dH:Addr
 dI:FuncData
 gT:Addr
 gU:FuncData
 gM:Addr
 gO:FuncData
 fT:Addr
 fV:FuncData
 pL:Addr
 pS:FuncData
 pK:Addr
 pR:FuncData
 mO:Addr
 mW:FuncData
 fZ:Addr
 gB:FuncData
 mM:Addr
 mV:FuncData
 sJ:Addr
 sW:FuncData
 sL:Addr
 sX:FuncData
 mL:Addr
 mU:FuncData
 kY:Addr
 lD:FuncData
 eQ:Addr
 eR:FuncData
 iF:Addr
 iG:FuncData
 pH:Addr
 pO:FuncData
 sI:Addr
 sV:FuncData
 pJ:Addr
 pQ:FuncData
 mJ:Addr
 mR:FuncData
 g9:Addr
 hV:FuncData
 pI:Addr
 pP:FuncData
 vY:Addr
 wJ:FuncData
 sH:Addr
 sU:FuncData
 AQ:Addr
 A3:FuncData
 vX:Addr
 wI:FuncData
 iW:Addr
 iY:FuncData
 vV:Addr
 wG:FuncData
 kI:Addr
 kK:FuncData
 mK:Addr
 mS:FuncData
 sE:Addr
 sT:FuncData
 vW:Addr
 wH:FuncData
 kW:Addr
 lA:FuncData
 kU:Addr
 k9:FuncData
 vU:Addr
 wF:FuncData
 Mf:Addr
 Ms:FuncData
 xJ:Tok
 Bc:Tok
 tF:Addr
 u9:Tok
 zC:Tok
 xI:Tok
 Cg:Tok
 Dd:Addr
 aV:Addr
 aJ:Addr
 aK:Addr
 iE:Addr
 dG:Addr
 eO:Addr
 cQ:Addr
 eN:Addr
 gL:Addr
 cI:Addr
structure Tx(K:q0B)(mg:q0C)(t:Ad):Prop where
 oW:Fun K "is_number_word" "is_number_word" jD t.jU t.jW
 yT:Binds K t.jW ["word","least","greatest"] []
 zE:mg "is_number_word"=some (.ref t.jU)
 Ag:Fun K "is_figure" "is_figure" qB t.sD t.sS
 EF:Binds K t.sS ["sign"] []
 Fg:mg "is_figure"=some (.ref t.sD)
 mX:Fun K "is_small_letter" "is_small_letter" iK t.iV t.iX
 vZ:Binds K t.iX ["sign"] []
 xN:mg "is_small_letter"=some (.ref t.iV)
 vF:Fun K "is_name" "is_name" yD t.AO t.A0
 AS:Binds K t.A0 ["thing"] []
 Bi:mg "is_name"=some (.ref t.AO)
 lF:Fun K "read_program" "read_program" kB t.kX t.lC
 qS:Binds K t.lC ["text"] []
 rE:mg "read_program"=some (.ref t.kX)
 B6:Fun K "__init__" "Reader.__init__" lP t.jH t.mQ
 BM:Binds K t.mQ ["self","lines"] []
 Kc:Meth K t.aV "__init__" t.jH
 A7:Fun K "ahead" "Reader.ahead" j7 t.kT t.k8
 gN:Binds K t.k8 ["self"] []
 fQ:Meth K t.aV "ahead" t.kT
 A8:Fun K "block" "Reader.block" j8 t.dH t.dI
 kZ:Binds K t.dI ["self","deep"] []
 jX:Meth K t.aV "block" t.dH
 sY:Fun K "statement" "Reader.statement" gR t.gT t.gU
 sM:Binds K t.gU ["self","deep"] []
 rD:Meth K t.aV "statement" t.gT
 qY:Fun K "with_blocks" "Reader.with_blocks" fX t.gM t.gO
 qR:Binds K t.gO ["self","words","deep"] []
 pV:Meth K t.aV "with_blocks" t.gM
 pT:Fun K "second_block" "Reader.second_block" fP t.fT t.fV
 pM:Binds K t.fV ["self","deep"] []
 oV:Meth K t.aV "second_block" t.fT
 wZ:Fun K "take_plain" "take_plain" nS t.pL t.pS
 C4:Binds K t.pS ["words"] []
 Dn:mg "take_plain"=some (.ref t.pL)
 wY:Fun K "take_given" "take_given" nR t.pK t.pR
 C3:Binds K t.pR ["name","words"] []
 Dm:mg "take_given"=some (.ref t.pK)
 uM:Fun K "take_waited" "take_waited" lY t.mO t.mW
 BR:Binds K t.mW ["words"] []
 Cs:mg "take_waited"=some (.ref t.mO)
 cF:Fun K "take_saying" "take_saying" lX t.fZ t.gB
 cJ:Binds K t.gB ["words","deep"] []
 cK:mg "take_saying"=some (.ref t.fZ)
 uL:Fun K "take_joined" "take_joined" lW t.mM t.mV
 BQ:Binds K t.mV ["words","deep"] []
 Cr:mg "take_joined"=some (.ref t.mM)
 oF:Fun K "take_name" "take_name" qH t.sJ t.sW
 sQ:Binds K t.sW ["words"] []
 tI:mg "take_name"=some (.ref t.sJ)
 fJ:Fun K "take_word" "take_word" qI t.sL t.sX
 gA:Binds K t.sX ["words"] []
 gC:mg "take_word"=some (.ref t.sL)
 mZ:Fun K "refuse_more" "refuse_more" lU t.mL t.mU
 uF:Binds K t.mU ["words"] []
 uR:mg "refuse_more"=some (.ref t.mL)
 lG:Fun K "show_program" "show_program" kC t.kY t.lD
 qT:Binds K t.lD ["program"] []
 rF:mg "show_program"=some (.ref t.kY)
 hZ:Fun K "block_lines" "block_lines" lQ t.eQ t.eR
 jI:Binds K t.eR ["block"] []
 jM:mg "block_lines"=some (.ref t.eQ)
 mB:Fun K "statement_lines" "statement_lines" gX t.iF t.iG
 uX:Binds K t.iG ["statement"] []
 vA:mg "statement_lines"=some (.ref t.iF)
 wR:Fun K "else_lines" "else_lines" nM t.pH t.pO
 CZ:Binds K t.pO ["block"] []
 Dj:mg "else_lines"=some (.ref t.pH)
 sZ:Fun K "show_head" "show_head" qG t.sI t.sV
 zX:Binds K t.sV ["statement"] []
 Ap:mg "show_head"=some (.ref t.sI)
 wX:Fun K "show_plain" "show_plain" nQ t.pJ t.pQ
 C1:Binds K t.pQ ["statement"] []
 Dl:mg "show_plain"=some (.ref t.pJ)
 uJ:Fun K "given_words" "given_words" lR t.mJ t.mR
 BN:Binds K t.mR ["statement"] []
 Cm:mg "given_words"=some (.ref t.mJ)
 cP:Fun K "show_saying" "show_saying" lV t.g9 t.hV
 cX:Binds K t.hV ["saying"] []
 cY:mg "show_saying"=some (.ref t.g9)
 wW:Fun K "_law_stream" "_law_stream" nO t.pI t.pP
 C0:Binds K t.pP ["cell"] []
 Dk:mg "_law_stream"=some (.ref t.pI)
 aZ:Fun K "_law_take" "_law_take" tY t.vY t.wJ
 bA:Binds K t.wJ ["row","many"] []
 bB:mg "_law_take"=some (.ref t.vY)
 Ai:Fun K "_law_worth" "_law_worth" qF t.sH t.sU
 EH:Binds K t.sU ["row"] []
 Fi:mg "_law_worth"=some (.ref t.sH)
 vG:Fun K "_law_own" "_law_own" yE t.AQ t.A3
 AW:Binds K t.A3 [] []
 Bl:mg "_law_own"=some (.ref t.AQ)
 q9:Fun K "_law_name" "_law_name" tX t.vX t.wI
 wA:Binds K t.wI ["row"] []
 xP:mg "_law_name"=some (.ref t.vX)
 eT:Fun K "_law_saying" "_law_saying" nN t.iW t.iY
 fU:Binds K t.iY ["row","deep","names","left"] []
 fW:mg "_law_saying"=some (.ref t.iW)
 B8:Fun K "_law_line" "_law_line" tV t.vV t.wG
 FR:Binds K t.wG ["row","names","deep"] []
 Hs:mg "_law_line"=some (.ref t.vV)
 oE:Fun K "_law_block" "_law_block" qD t.kI t.kK
 sO:Binds K t.kK ["row","names","deep","left","many"] []
 tH:mg "_law_block"=some (.ref t.kI)
 uK:Fun K "_law_program" "_law_program" lT t.mK t.mS
 BP:Binds K t.mS ["row"] []
 Cp:mg "_law_program"=some (.ref t.mK)
 Ah:Fun K "_law_asked" "_law_asked" qC t.sE t.sT
 EG:Binds K t.sT ["text"] []
 Fh:mg "_law_asked"=some (.ref t.sE)
 wV:Fun K "_law_menu" "_law_menu" tW t.vW t.wH
 BO:Binds K t.wH ["row"] []
 Co:mg "_law_menu"=some (.ref t.vW)
 q8:Fun K "_law_line_menu" "_law_line_menu" kA t.kW t.lA
 AV:Binds K t.lA ["row"] []
 Bk:mg "_law_line_menu"=some (.ref t.kW)
 qZ:Fun K "_law_bent_line" "_law_bent_line" j9 t.kU t.k9
 AU:Binds K t.k9 ["row","line"] []
 Bj:mg "_law_bent_line"=some (.ref t.kU)
 B7:Fun K "_law_bent" "_law_bent" tU t.vU t.wF
 FQ:Binds K t.wF ["row","text"] []
 Hr:mg "_law_bent"=some (.ref t.vU)
 TR:Fun K "law" "law" HV t.Mf t.Ms
 Ux:Binds K t.Ms ["script"] []
 UA:mg "law"=some (.ref t.Mf)
 bW:Cls K t.aV
 J8:mg "Reader"=some (.ref t.aV)
 xO:Mk K t.aV t.jH
 rH:jT K t.aV "lines"
 dW:jT K t.aV "lines_read"
 dR:jT K t.aV "statements_read"
 mP:mg "GREATEST_WORTH"=some (.int 1000000000 t.xJ)
 AX:mg "LONGEST_NAME"=some (.int 6 t.Bc)
 EK:mg "OWN_WORDS"=some (.ref t.tF)
 Fv:∀ H:Hp,gS K H t.tF [.str "order",.str "timer",.str "child",.str "send",.str "drop",.str "wait",.str "hear",.str "if",.str "else",.str "done",.str "while",.str "end",.str "none",.str "arg",.str "now",.str "answer",.str "not"]
 uY:mg "MOST_STATEMENTS"=some (.int 60 t.u9)
 yV:mg "DEEPEST_BLOCK"=some (.int 5 t.zC)
 wB:mg "DEEPEST_SAYING"=some (.int 6 t.xI)
 BS:mg "MOST_WAITED"=some (.int 4 t.Cg)
 Mp:mg "SIGNS"=some (.ref t.Dd)
 OM:∀ H:Hp,gS K H t.Dd [.str "+",.str "-",.str "*",.str "<",.str "="]
 xK:mg "OutlastError"=some (.ref t.aJ)
 IP:jV K t.aJ=true
 zR:XQ K t.aJ (iD)
 b9:mg "NoProgram"=some (.ref t.aK)
 Pp:jV K t.aK=true
 bZ:XQ K t.aK (.ref t.aJ::iD)
 J9:mg "NoLog"=some (.ref t.iE)
 Po:jV K t.iE=true
 Ff:mg "NoState"=some (.ref t.dG)
 II:jV K t.dG=true
 SR:XQ K t.dG (.ref t.aJ::iD)
 Hk:mg "NoRule"=some (.ref t.eO)
 La:jV K t.eO=true
 S1:XQ K t.eO (.ref t.aJ::iD)
 Df:mg "NoPolicy"=some (.ref t.cQ)
 FI:jV K t.cQ=true
 Pu:XQ K t.cQ (.ref t.aJ::iD)
 Hj:mg "NoLine"=some (.ref t.eN)
 K0:jV K t.eN=true
 S0:XQ K t.eN (.ref t.aJ::iD)
 Ka:mg "NoRun"=some (.ref t.gL)
 Pq:jV K t.gL=true
 Uh:XQ K t.gL (.ref t.aJ::iD)
 Ck:mg "NoCommand"=some (.ref t.cI)
 DN:jV K t.cI=true
 Pn:XQ K t.cI (.ref t.aJ::iD)
 xne:(t.aK≠t.iE/\t.aJ≠t.iE)/\(t.aK≠t.dG/\t.aJ≠t.dG)/\(t.aK≠t.eO/\t.aJ≠t.eO)/\(t.aK≠t.cQ/\t.aJ≠t.cQ)/\(t.aK≠t.eN/\t.aJ≠t.eN)/\(t.aK≠t.gL/\t.aJ≠t.gL)/\(t.aK≠t.cI/\t.aJ≠t.cI)
 nY:mg "ValueError"=none
 Lb:mg "all"=none
 CU:mg "int"=none
 gG:mg "isinstance"=none
 kS:mg "len"=none
 Pr:mg "max"=none
 uB:mg "range"=none
 IJ:mg "str"=none
 uC:mg "tuple"=none
theorem mF:bC ["word","least","greatest","figures"] ["word","least","greatest"] (aT jD):=by infer_instance
theorem CH:bC ["sign"] ["sign"] (aT qB):=by infer_instance
theorem tZ:bC ["sign"] ["sign"] (aT iK):=by infer_instance
theorem Fy:bC ["thing"] ["thing"] (aT yD):=by infer_instance
theorem jE:bC ["text","reader","program"] ["text"] (aT kB):=by infer_instance
theorem zL:bC ["self","lines"] ["self","lines"] (aT lP):=by infer_instance
theorem yF:bC ["self"] ["self"] (aT j7):=by infer_instance
theorem nT:bC ["self","deep","statements"] ["self","deep"] (aT j8):=by infer_instance
theorem fY:bC ["self","deep","words","statement"] ["self","deep"] (aT gR):=by infer_instance
theorem cS:bC ["self","words","deep","kind","saying","first","blocks"] ["self","words","deep"] (aT fX):=by infer_instance
theorem iB:bC ["self","deep","block"] ["self","deep"] (aT fP):=by infer_instance
theorem r9:bC ["words","first"] ["words"] (aT nS):=by infer_instance
theorem r8:bC ["name","words","kind"] ["name","words"] (aT nR):=by infer_instance
theorem pC:bC ["words","sayings"] ["words"] (aT lY):=by infer_instance
theorem pB:bC ["words","deep","word"] ["words","deep"] (aT lX):=by infer_instance
theorem g7:bC ["words","deep","one","sign","other"] ["words","deep"] (aT lW):=by infer_instance
theorem uV:bC ["words","word"] ["words"] (aT qH):=by infer_instance
theorem CI:bC ["words"] ["words"] (aT qI):=by infer_instance
theorem zM:bC ["words"] ["words"] (aT lU):=by infer_instance
theorem yH:bC ["program"] ["program"] (aT kC):=by infer_instance
theorem kD:bC ["block","lines","statement"] ["block"] (aT lQ):=by infer_instance
theorem jQ:bC ["statement","kind"] ["statement"] (aT gX):=by infer_instance
theorem Bv:bC ["block"] ["block"] (aT nM):=by infer_instance
theorem nU:bC ["statement","kind","saying"] ["statement"] (aT qG):=by infer_instance
theorem rZ:bC ["statement","kind"] ["statement"] (aT nQ):=by infer_instance
theorem pA:bC ["statement","kind"] ["statement"] (aT lR):=by infer_instance
theorem g0:bC ["saying","kind","one","other"] ["saying"] (aT lV):=by infer_instance
theorem l8:bC ["cell","low"] ["cell"] (aT nO):=by infer_instance
theorem yG:bC ["row","many","got"] ["row","many"] (aT tY):=by infer_instance
theorem uU:bC ["row","kind"] ["row"] (aT qF):=by infer_instance
theorem AH:bC ["words"] [] (aT yE):=by infer_instance
theorem fF:bC ["row","letters","kind","word","name","k"] ["row"] (aT tX):=by infer_instance
theorem fL:bC ["row","deep","names","left","kind","leaf","worth","one","sign"] ["row","deep","names","left"] (aT nN):=by infer_instance
theorem lZ:bC ["row","names","deep","kind","name","one"] ["row","names","deep"] (aT tV):=by infer_instance
theorem gF:bC ["row","names","deep","left","many","block","kind","saying","body","other"] ["row","names","deep","left","many"] (aT qD):=by infer_instance
theorem kF:bC ["row","names","most"] ["row"] (aT lT):=by infer_instance
theorem gE:bC ["text","got","refused","e"] ["text"] (aT qC):=by infer_instance
theorem l7:bC ["row","some"] ["row"] (aT tW):=by infer_instance
theorem fE:bC ["row","some"] ["row"] (aT kA):=by infer_instance
theorem bY:bC ["row","line","words","at","kind","old","spot","sign"] ["row","line"] (aT j9):=by infer_instance
theorem fD:bC ["row","text","lines","kind","at","other"] ["row","text"] (aT tU):=by infer_instance
theorem kE:bC ["script","cell","row","program","text","k","bent","got","refused"] ["script"] (aT HV):=by infer_instance
theorem UD{CX:CXT}{P:Program}{w:World}{K:q0B}{mg:q0C}{base:Heap}{N:List Str}{q:Str}{sc:Scope}{f:Addr}{cd:Value}{A:Around}{o:List Env}{s:Shared}{H:Hp}{E:XK}:(oT CX P w K mg base N q sc f cd A o s H E).K=K:=rfl
theorem Ud{CX:CXT}{P:Program}{w:World}{K:q0B}{mg:q0C}{base:Heap}{N:List Str}{q:Str}{sc:Scope}{f:Addr}{cd:Value}{A:Around}{o:List Env}{s:Shared}{H:Hp}{E:XK}:(oT CX P w K mg base N q sc f cd A o s H E).nox.K=K:=rfl
theorem small{n:Nat}(h:n<=1000):n<=sizeLine:=Nat.le_of_lt (small1000 h)
theorem Ct{i j:Int}(h0:-(2 ^ 64) < i)(h1:i < 2 ^ 64):CMul i j:=.inl ⟨h0,h1⟩
structure bI(H:Hp)(r:Addr):Prop where
 ex:∃ c l f:Int,H r=some (.lst [.int c,.int l,.int f])/\0<=l/\l < 536870909
theorem bI.kp{S:List Addr}{H H':Hp}{r:Addr}(R:bI H r)(h:Kp S H H')(n:r∉S:=by first|exact List.not_mem_nil|simp_all):bI H' r:=by
 obtain⟨c,l,f,e,x⟩:=R;exact⟨c,l,f,h _ _ e n,x⟩
theorem bI.new{H:Hp}{r p:Addr}{o:HO}(R:bI H r)(h:H p=none):bI (UH H p o) r:=R.kp (S:=[]) (Kp.new h)
theorem bI.ne{H:Hp}{r p:Addr}{o:HO}(R:bI H r)(h:H p=some o)(d:∀ a b c:V,o≠.lst [a,b,c]):p≠r:=by
 obtain⟨c,l,f,e,_⟩:=R;exact Aq h e (d _ _ _)
theorem bI.none{H:Hp}{r p:Addr}(R:bI H r)(h:H p=Option.none):p≠r:=by
 obtain⟨c,l,f,e,_⟩:=R;exact(aQ e h).symm
theorem _root_.L2.Kp.made{r p:Addr}{H H':Hp}{o:HO}(x:Kp [r] (UH H p o) H')(R:bI H r)(h:H p=none):H' p=some o:=x.at1 aE (R.none h)
noncomputable def Ic:Sp:=fun vs H Q _=>∃ c:Int,vs=[.int c]/\∀(r:Addr) (H':Hp),H r=none->Kp [] H H'->bI H' r->Q (.ref r) H'
noncomputable def Ig:Sp:=fun vs H Q _=>∃(r:Addr) (m:Int),vs=[.ref r,.int m]/\0 < m/\m<=10 ^ 45/\bI H r /\
 ∀(g:Int) (H':Hp),0<=g->g < m->bI H' r->Kp [r] H H'->Q (.int g) H'
theorem OP{r:Addr}{m:Int}{H:Hp}{Q:VK}{E:XK}:Ig [.ref r,.int m] H Q E=(0 < m/\m<=10 ^ 45/\bI H r/\∀(g:Int) (H':Hp),0<=g->g < m->bI H' r->Kp [r] H H'->Q (.int g) H') :=
 propext ⟨fun⟨_,_,e,h⟩=>by cases e;exact h,fun h=>⟨_,_,rfl,h⟩⟩
noncomputable def clamp(n:Int):Int:=if (if n < 1000000000 then n else 1000000000) > -1000000000 then (if n < 1000000000 then n else 1000000000) else -1000000000
noncomputable def O3:Sp:=fun vs H Q _=>∃ n:Int,vs=[.int n]/\Q (.int (clamp n)) H
theorem ON{n:Int}{H:Hp}{Q:VK}{E:XK}:O3 [.int n] H Q E=Q (.int (clamp n)) H:=propext ⟨fun⟨_,e,h⟩=>by cases e;exact h,fun h=>⟨_,rfl,h⟩⟩
noncomputable abbrev Wo:=Option Int
noncomputable def wv:Wo->V
 | none=>.UK
 | some n=>.int n
noncomputable def num(w:Wo):Int:=w.getD 0
noncomputable def wk:Wo->Key
 | none=>.no
 | some n=>.inl n
noncomputable def zB(w:Wo):Prop:=∀ n,w=some n->-1000000000<=n/\n<=1000000000
theorem DM{a b:Wo}(h:wv a=wv b):a=b:=by cases a<;>cases b<;>simp_all [wv]
theorem Pk(w:Wo):mH (wv w)=some (wk w):=by cases w<;>rfl
theorem IF(w:Wo):(wv w=.UK)=(w=none):=by cases w<;>simp[wv]
theorem Cc:zB none:=fun _ h=>nomatch h
theorem m5{n:Int}(h0:-1000000000<=n)(h1:n<=1000000000):zB (some n):=fun m h=>by cases h;exact⟨h0,h1⟩
noncomputable def RT:Sp:=fun vs H Q _=>∃ w:Wo,vs=[wv w]/\Q (.int (num w)) H
theorem RA{w:Wo}{H:Hp}{Q:VK}{E:XK}:RT [wv w] H Q E=Q (.int (num w)) H :=
 propext ⟨fun⟨u,e,h⟩=>by simp only[List.cons.injEq,and_true] at e;rw[DM e];exact h,fun h=>⟨w,rfl,h⟩⟩
noncomputable def RU:Sp:=fun vs H Q _=>∃ b:Bool,vs=[.bl b]/\Q (.int (if b=true then 1 else 0)) H
theorem RB{b:Bool}{H:Hp}{Q:VK}{E:XK}:RU [.bl b] H Q E=Q (.int (if b=true then 1 else 0)) H :=
 propext ⟨fun⟨u,e,h⟩=>by cases e;exact h,fun h=>⟨b,rfl,h⟩⟩
inductive Sg where
 | add|sub|mul|lt|eq
noncomputable def Sg.s:Sg->Str
 | .add=>"+" | .sub=>"-" | .mul=>"*" | .lt=>"<" | .eq=>"="
noncomputable def Sg.of(g:Sg)(a b:Wo):Int :=
 match g with
 | .add=>clamp (num a+num b) | .sub=>clamp (num a - num b) | .mul=>clamp (num a * num b) | .lt=>if num a < num b then 1 else 0 | .eq=>if a=b then 1 else 0
inductive Say where
 | num (n:Int)|UK|name (x:Str)|arg|now|Vd (s:Say)|neg (s:Say)|two (g:Sg) (a b:Say)
inductive bD(H:Hp):V->Say->Prop
 | num {a:Addr} {n:Int}:H a=some (.tup [.str "number",.int n])->bD H (.ref a) (.num n)
 | UK {a:Addr}:H a=some (.tup [.str "none"])->bD H (.ref a) .UK
 | name {a:Addr} {x:Str}:H a=some (.tup [.str "name",.str x])->bD H (.ref a) (.name x)
 | arg {a:Addr}:H a=some (.tup [.str "arg"])->bD H (.ref a) .arg
 | now {a:Addr}:H a=some (.tup [.str "now"])->bD H (.ref a) .now
 | Vd {a:Addr} {v:V} {s:Say}:H a=some (.tup [.str "answer",v])->bD H v s->bD H (.ref a) (.Vd s)
 | neg {a:Addr} {v:V} {s:Say}:H a=some (.tup [.str "not",v])->bD H v s->bD H (.ref a) (.neg s)
 | two {a:Addr} {v u:V} {g:Sg} {s r:Say}:H a=some (.tup [.str g.s,v,u])->bD H v s->bD H u r->bD H (.ref a) (.two g s r)
noncomputable def aM(H H':Hp):Prop:=∀ a xs,H a=some (.tup xs)->H' a=some (.tup xs)
theorem bD.kp{H H':Hp}{v:V}{s:Say}(h:bD H v s)(k:aM H H'):bD H' v s:=by
 induction h with
 | num e=>exact .num (k _ _ e)
 | UK e=>exact .UK (k _ _ e)
 | name e=>exact .name (k _ _ e)
 | arg e=>exact .arg (k _ _ e)
 | now e=>exact .now (k _ _ e)
 | Vd e _ ih=>exact .Vd (k _ _ e) ih
 | neg e _ ih=>exact .neg (k _ _ e) ih
 | two e _ _ i1 i2=>exact .two (k _ _ e) i1 i2
theorem aM.of{S:List Addr}{H H':Hp}(k:Kp S H H')(h:∀ a∈S,∃ o,H a=some o/\∀ xs,o≠.tup xs):aM H H':=fun a xs e=>k a _ e fun z=>by
 obtain⟨o,e',d⟩:=h a z;rw[e] at e';exact d xs (Option.some.inj e').symm
theorem aM.new{H:Hp}{p:Addr}{o:HO}(h:H p=none):aM H (UH H p o):=fun a xs e=>by rw[aY (aQ e h)];exact e
theorem aM.trans{H H1 H2:Hp}(a:aM H H1)(b:aM H1 H2):aM H H2:=fun x xs e=>b x xs (a x xs e)
theorem aM.row{r:Addr}{H H':Hp}(k:Kp [r] H H')(R:bI H r):aM H H':=.of k fun a ha=>by
 obtain⟨c,l,f,e,_⟩:=R;have:a=r:=by simpa using ha
 exact⟨_,this▸e,fun _ h=>by cases h⟩
noncomputable def Say.depth:Say->Nat
 | .Vd s=>s.depth+1 | .neg s=>s.depth+1 | .two _ a b=>max a.depth b.depth+1 | .num _=>1 | .UK=>1 | .name _=>1 | .arg=>1 | .now=>1
noncomputable def Say.ok:Say->Prop
 | .num n=>-1000000000<=n/\n<=1000000000 | .Vd s=>s.ok | .neg s=>s.ok | .two _ a b=>a.ok/\b.ok|_=>True
theorem Say.Ac(s:Say):1<=s.depth:=by cases s<;>simp[Say.depth]
structure Pl where
 nm:Str->Wo
 ar:Wo
 now:Int
 an:Wo->Wo
structure Pl.Ok(p:Pl):Prop where
 nm:∀ x,zB (p.nm x)
 ar:zB p.ar
 an:∀ w,zB (p.an w)
noncomputable def ev(p:Pl):Say->Wo
 | .num n=>some n
 | .UK=>none
 | .name x=>p.nm x
 | .arg=>p.ar
 | .now=>some (clamp p.now)
 | .Vd s=>p.an (ev p s)
 | .neg s=>some (if num (ev p s)=0 then 1 else 0)
 | .two g a b=>some (g.of (ev p a) (ev p b))
noncomputable def IT(H:Hp)(d:Addr)(f:Str->Wo):Prop:=∃ UG,H d=some (.dK UG)/\∀ x,(dP UG (.inr x)).getD .UK=wv (f x)
noncomputable def IQ(H:Hp)(d:Addr)(f:Wo->Wo):Prop:=∃ UG,H d=some (.dK UG)/\∀ w,(dP UG (wk w)).getD .UK=wv (f w)
noncomputable def Er:Sp:=fun vs H Q _=>∃ r:Addr,vs=[.ref r]/\bI H r/\∀(w:Wo) (H':Hp),zB w->bI H' r->Kp [r] H H'->Q (wv w) H'
theorem Kt{r:Addr}{H:Hp}{Q:VK}{E:XK}:Er [.ref r] H Q E=(bI H r/\∀(w:Wo) (H':Hp),zB w->bI H' r->Kp [r] H H'->Q (wv w) H') :=
 propext ⟨fun⟨_,e,h⟩=>by cases e;exact h,fun h=>⟨_,rfl,h⟩⟩
noncomputable def mI:List V:=[.str "order",.str "timer",.str "child",.str "send",.str "drop",.str "wait",.str "hear",.str "if",.str "else",.str "done",.str "while",.str "end",.str "none",.str "arg",.str "now",.str "answer",.str "not"]
theorem HG:mI.all cN=true:=by decide
noncomputable def LC:Sp:=fun vs H Q _=>vs=[]/\∀(p:Addr) (H':Hp),H p=none->Kp [] H H'->H' p=some (.lst mI)->Q (.ref p) H'
theorem RC{H:Hp}{Q:VK}{E:XK}:LC [] H Q E = ∀(p:Addr) (H':Hp),H p=none->Kp [] H H'->H' p=some (.lst mI)->Q (.ref p) H':=propext ⟨fun h=>h.2,fun h=>⟨rfl,h⟩⟩
noncomputable def O9(n:Nat):Sp:=fun vs H Q _=>∃ r:Addr,vs=[.ref r]/\bI H r/\∀(x:Str) (H':Hp),x.length<=n->bI H' r->Kp [r] H H'->Q (.str x) H'
theorem OQ{n:Nat}{r:Addr}{H:Hp}{Q:VK}{E:XK}:O9 n [.ref r] H Q E=(bI H r/\∀(x:Str) (H':Hp),x.length<=n->bI H' r->Kp [r] H H'->Q (.str x) H') :=
 propext ⟨fun⟨_,e,h⟩=>by cases e;exact h,fun h=>⟨_,rfl,h⟩⟩
noncomputable def cU(x:Str):Prop:=(decide (1<=x.length)&&(decide (x.length<=6)&&(x.cps.toList.all (fun c=>decide (97<=c)&&decide (c<=122))&&!cR (.str x) mI)))=true
theorem cU.len{x:Str}(h:cU x):x.length<=20:=by
 unfold cU at h;simp only[Bool.and_eq_true,decide_eq_true_eq] at h;omega
noncomputable def H8:Sp:=fun vs H Q _=>∃ r:Addr,vs=[.ref r]/\bI H r/\∀(x:Str) (H':Hp),cU x->bI H' r->Kp [r] H H'->Q (.str x) H'
theorem OO{r:Addr}{H:Hp}{Q:VK}{E:XK}:H8 [.ref r] H Q E=(bI H r/\∀(x:Str) (H':Hp),cU x->bI H' r->Kp [r] H H'->Q (.str x) H') :=
 propext ⟨fun⟨_,e,h⟩=>by cases e;exact h,fun h=>⟨_,rfl,h⟩⟩
theorem bO(a b:Str):(a++b).length=a.length+b.length:=by
 show(a.cps++b.cps).size=_;rw[Array.size_append];rfl
theorem kQ(x:Str)(a b:Option Int):(Txt.slice x a b).length<=x.length:=Txt.slice_le x a b
theorem Ki(c:Nat):(⟨#[c]⟩:Str).length=1:=rfl
theorem Rp:("x":Str).length=1/\("z":Str).length=1/\("s":Str).length=1/\("q":Str).length=1/\("":Str).length=0/\("abcdefghijklmnopqrstuvwxyz":Str).length=26:=by decide +kernel
structure BK(H:Hp)(r nl lf:Addr)(dp:Int)(xs:List Str)(k:Int):Prop where
 row:bI H r
 lo:1<=dp
 Ve:H nl=some (.lst (xs.map V.str))
 l0:1<=xs.length
 l1:xs.length<=1000
 Vr:H lf=some (.lst [.int k])
 n1:nl≠r
 n2:lf≠r
 n3:nl≠lf
noncomputable def Say.nms:Say->List Str
 | .name x=>[x] | .Vd s=>s.nms | .neg s=>s.nms | .two _ a b=>a.nms++b.nms | .num _=>[] | .UK=>[] | .arg=>[] | .now=>[]
structure vT(H H':Hp)(r lf:Addr)(dp:Int)(xs:List Str)(v:V)(s:Say):Prop where
 say:bD H' v s
 YJ:(s.depth:Int)<=dp
 ok:s.ok
 row:bI H' r
 Vr:∃ k,H' lf=some (.lst [.int k])
 kp:Kp [r,lf] H H'
 nms:∀ x∈s.nms,x∈xs
theorem aM.two{r lf:Addr}{H H':Hp}{k:Int}(x:Kp [r,lf] H H')(R:bI H r)(l:H lf=some (.lst [.int k])):aM H H':=.of x fun a ha=>by
 obtain⟨c,l',f,e,_⟩:=R;simp only[List.mem_cons,List.not_mem_nil,or_false] at ha;rcases ha with rfl|rfl
 ·exact⟨_,e,fun _ h=>by cases h⟩
 ·exact⟨_,l,fun _ h=>by cases h⟩
theorem BK.kp{H H':Hp}{r nl lf:Addr}{dp:Int}{xs:List Str}{k k':Int}(I:BK H r nl lf dp xs k)(x:Kp [r,lf] H H')(R:bI H' r)(l:H' lf=some (.lst [.int k'])){e:Int}(he:1<=e):BK H' r nl lf e xs k' :=
 ⟨R,he,x _ _ I.Ve (by simp[I.n1,I.n3]),I.l0,I.l1,l,I.n1,I.n2,I.n3⟩
noncomputable def yL(d:Nat):Sp:=fun vs H Q _=>∃(r nl lf:Addr) (dp:Int) (xs:List Str) (k:Int),vs=[.ref r,.int dp,.ref nl,.ref lf]/\BK H r nl lf dp xs k/\dp<=d/\∀(v:V) (s:Say) (H':Hp),vT H H' r lf dp xs v s->Q v H'
structure DOk(UG:List (Key×V)):Prop where
 val:∀ kv∈UG,∃ w,kv.2=wv w/\zB w
 nd:(UG.map (·.1)).Nodup
theorem DOk.nil:DOk []:=⟨fun _ h=>(by cases h),by simp⟩
theorem Ho{UG:List (Key×V)}{k:Key}{v:V}{kv:Key×V}(h:kv∈j6 UG k v):kv=(k,v)\/kv∈UG:=by
 unfold j6 at h;split at h
 ·obtain⟨y,hy,e⟩:=List.mem_map.mp h;by_cases c:y.1=k
  ·rw[if_pos c] at e;exact .inl (by rw[<- e,c])
  ·rw[if_neg c] at e;exact .inr (e▸hy)
 ·rcases List.mem_append.mp h with h|h
  ·exact .inr h
  ·exact .inl (by simpa using h)
theorem Fc(UG:List (Key×V))(k:Key)(v:V)(h:(UG.any fun kv=>decide (kv.1=k))=true):(j6 UG k v).map (·.1)=UG.map (·.1):=by
 unfold j6;rw[if_pos h,List.map_map];refine List.map_congr_left fun kv _=>?_;simp only[Function.comp];split<;>rfl
theorem DOk.put{UG:List (Key×V)}(h:DOk UG)(k:Key){w:Wo}(hw:zB w):DOk (j6 UG k (wv w)):=by
  refine⟨fun kv hm=>?_,?_⟩
  · rcases Ho hm with e|e
    · exact⟨w,by rw[e],hw⟩
    · exact h.val kv e
  · cases e:(UG.any fun kv=>decide (kv.1=k)) with
    | true=>rw[Fc UG k _ e];exact h.nd
    | false=>exact Kf _ h.nd (by
        rw[nX] at e;cases q:dP UG k with
        | none=>rfl
        | some z=>rw[q] at e;cases e)
noncomputable def Uw:V->Wo
 | .int n=>some n
 | _=>none
theorem Pm(w:Wo):Uw (wv w)=w:=by cases w<;>rfl
noncomputable def look(UG:List (Key×V))(k:Key):Wo:=Uw ((dP UG k).getD .UK)
theorem IB{UG:List (Key×V)}{k:Key}{v:V}(h:dP UG k=some v):(k,v)∈UG:=by
 unfold dP at h;obtain⟨kv,e,rfl⟩:=Option.map_eq_some_iff.mp h;have h1:=List.mem_of_find?_eq_some e;have h2:kv.1=k:=by simpa using List.find?_some e
 rw[<- h2];exact h1
theorem DOk.look{UG:List (Key×V)}(h:DOk UG)(k:Key):(dP UG k).getD .UK=wv (look UG k)/\zB (look UG k):=by
 unfold Own.look;cases e:dP UG k with
 | none=>exact⟨rfl,Cc⟩
 | some v =>
  obtain⟨w,e2,hw⟩:=h.val _ (IB e);have e3:v=wv w:=e2;subst e3;rw[Option.getD_some,Pm];exact⟨rfl,hw⟩
theorem DOk.nm{H:Hp}{d:Addr}{UG:List (Key×V)}(h:DOk UG)(e:H d=some (.dK UG)):IT H d (fun x=>Own.look UG (.inr x)):=⟨UG,e,fun x=>(h.look _).1⟩
theorem DOk.an{H:Hp}{d:Addr}{UG:List (Key×V)}(h:DOk UG)(e:H d=some (.dK UG)):IQ H d (fun w=>Own.look UG (wk w)):=⟨UG,e,fun x=>(h.look _).1⟩
theorem _root_.L2.Kp.free{S:List Addr}{H H':Hp}{a p:Addr}{o:HO}(k:Kp S H H')(e:H a=some o)(n:a∉S)(h:H' p=none):a≠p:=aQ (k a o e n) h
noncomputable def KE:Sp:=fun vs H Q _=>∃ a b:Wo,vs=[wv a,wv b]/\Q (.bl (decide (a=b))) H
theorem Kr{a b:Wo}{H:Hp}{Q:VK}{E:XK}:KE [wv a,wv b] H Q E=Q (.bl (decide (a=b))) H :=
 propext ⟨fun⟨c,d,e,h⟩=>by simp only[List.cons.injEq,and_true] at e;rw[DM e.1,DM e.2];exact h,fun h=>⟨a,b,rfl,h⟩⟩
theorem Gh(ns:List Int)(lo hi:Option Int):∃ ms:List Int,k6 (ns.map V.int) lo hi=ms.map V.int/\ms.length<=ns.length:=by
 unfold k6;rw[<- List.map_drop,<- List.map_take];exact⟨_,rfl,by rw[List.length_take,List.length_drop];omega⟩
theorem J2{ms:List Int}{i:Nat}{y:V}(h:(ms.map V.int)[i]?=some y):∃ z:Int,y=.int z:=by
 rw[List.getElem?_map] at h;cases e:ms[i]? with
 | none=>rw[e] at h;cases h
 | some z=>rw[e] at h;exact⟨z,(Option.some.inj h).symm⟩
theorem IT.kp{H H':Hp}{S:List Addr}{d:Addr}{f:Str->Wo}(h:IT H d f)(k:Kp S H H')(n:d∉S):IT H' d f:=by
 obtain⟨UG,e,q⟩:=h;exact⟨UG,k _ _ e n,q⟩
theorem IQ.kp{H H':Hp}{S:List Addr}{d:Addr}{f:Wo->Wo}(h:IQ H d f)(k:Kp S H H')(n:d∉S):IQ H' d f:=by
 obtain⟨UG,e,q⟩:=h;exact⟨UG,k _ _ e n,q⟩
theorem HU{a b:String}:(Str.ofString a==Str.ofString b)=decide (a=b):=by
 by_cases h:a=b
 ·subst h;simp
 ·rw[decide_eq_false h];exact beq_eq_false_iff_ne.mpr (fun z=>h (by rwa [dE] at z))
theorem aM.nil{H H':Hp}(k:Kp [] H H'):aM H H':=fun a xs e=>k a _ e (by simp)
noncomputable def Km:List Str:=["order","timer","child","send","drop","wait","hear","if","else","done","while","end","none","arg","now","answer","not"]
theorem Kn:∀ x∈Km,x.length<=6/\cU (Txt.slice x none (some (-1))++"z")/\cU (Txt.slice (x++"s") (some (-6)) none)/\cU (Txt.slice x none (some 5)++"x"):=by
 unfold cU;decide +kernel
theorem HF:∀ x∈Km,cU (Txt.slice x none (some 5)++"q"):=by
 unfold cU;decide +kernel
theorem OJ{v:V}(h:v∈mI):∃ x:Str,v=.str x/\x.length<=6/\cU (Txt.slice x none (some (-1))++"z")/\cU (Txt.slice (x++"s") (some (-6)) none)/\cU (Txt.slice x none (some 5)++"x"):=by
 have h:v∈Km.map V.str:=h;obtain⟨x,hx,rfl⟩:=List.mem_map.mp h;exact⟨x,rfl,Kn x hx⟩
theorem Rw{x:Str}(h:cR (.str x) mI=true):cU (Txt.slice x none (some 5)++"q"):=by
 have h:(Km.map V.str).any (fun y=>B4 y (.str x))=true:=h;obtain⟨v,hv,e⟩:=List.any_eq_true.mp h;obtain⟨y,hy,rfl⟩:=List.mem_map.mp hv;have e:(y==x)=true:=e;rw[<- eq_of_beq e];exact HF y hy
theorem OY:∀ v∈([.str "x",.str "y",.str "xx",.str "zz",.str "abcdef",.str "abcdeg"]:List V),∃ x:Str,v=.str x/\cU x:=by
 intro v h;simp only[List.mem_cons,List.not_mem_nil,or_false] at h;rcases h with h|h|h|h|h|h<;>exact⟨_,h,by unfold cU;decide +kernel⟩
theorem EE:∀ c∈("abcdefghijklmnopqrstuvwxyz":Str).cps.toList,(decide (97<=c)&&decide (c<=122))=true:=by decide +kernel
theorem Rr{x:Str}(h1:1<=x.length)(h6:x.length<=6)(hc:x.cps.toList.all (fun c=>decide (97<=c)&&decide (c<=122))=true)(hn:¬ cR (.str x) mI=true):cU x:=by
 unfold cU;simp only[h1,h6,decide_true,hc,Bool.true_and];simpa using hn
theorem FL{x:Str}{c:Nat}{p:Nat->Bool}(h:x.cps.toList.all p=true)(hc:p c=true):(x++(⟨#[c]⟩:Str)).cps.toList.all p=true:=by
 show(x.cps++#[c]).toList.all p=true;rw[Array.toList_append,List.all_append,h,Bool.true_and];simpa using hc
theorem slen(x:String):(Str.ofString x).length=x.length:=PySem.ofString_length x
theorem ilen{n:Int}(h0:-1000000000<=n)(h1:n<=1000000000):(Str.ofString (toString n)).length<=20:=by
 rw[slen];cases n with
 | ofNat m =>
  show(Nat.repr m).length<=20;have:(Nat.repr m).length<=19:=(Nat.length_repr_le_iff (by decide)).mpr (by have:(Int.ofNat m)=(m:Int):=rfl;omega);omega
 | negSucc m =>
  show("-"++Nat.repr (m+1)).length<=20;have:(Nat.repr (m+1)).length<=19:=(Nat.length_repr_le_iff (by decide)).mpr (by
   have:Int.negSucc m = -((m:Int)+1):=by omega
   omega)
  rw[String.length_append];show 1+_<=20;omega
theorem ilog{n:Int}(h0:-1000000000<=n)(h1:n<=1000000000):n.natAbs.log2 < 1920:=by
 have h:n.natAbs < 2 ^ 1920:=Nat.lt_of_le_of_lt (show n.natAbs<=1000000000 by omega) (Nat.lt_of_lt_of_le (show 1000000000 < 2 ^ 30 by decide) (Nat.pow_le_pow_right (by decide) (by decide)));by_cases z:n.natAbs=0
 ·rw[z];decide
 ·exact(Nat.log2_lt z).mpr h
noncomputable def wd:Say->Str
 | .num n=>Str.ofString (toString n)
 | .UK=>"none"
 | .name x=>x
 | .arg=>"arg"
 | .now=>"now"
 | .Vd s=>("answer":Str)++" "++wd s
 | .neg s=>("not":Str)++" "++wd s
 | .two g a b=>("( ":Str)++wd a++" "++g.s++" "++wd b++" )"
noncomputable def Say.sh(s:Say):Prop:=s.ok/\∀ x∈s.nms,cU x
theorem lens:("none":Str).length=4/\("arg":Str).length=3/\("now":Str).length=3/\("answer":Str).length=6/\("not":Str).length=3/\("( ":Str).length=2/\(" ":Str).length=1/\(" )":Str).length=2:=by decide +kernel
theorem Sg.len(g:Sg):g.s.length=1:=by cases g<;>decide +kernel
theorem Pj{s:Say}(h:s.sh):(wd s).length+7<=27 * 2 ^ s.depth:=by
 induction s with
 | num n =>
  have:=ilen h.1.1 h.1.2;simp only[wd,Say.depth];omega
 | UK=>simp only[wd,Say.depth,lens.1];omega
 | name x =>
  have:=(h.2 x (by simp[Say.nms])).len;simp only[wd,Say.depth];omega
 | arg=>simp only[wd,Say.depth,lens.2.1];omega
 | now=>simp only[wd,Say.depth,lens.2.2.1];omega
 | Vd s ih =>
  have:=ih ⟨h.1,h.2⟩;simp only[wd,Say.depth,bO,lens.2.2.2.1,lens.2.2.2.2.2.2.1,Nat.pow_succ];omega
 | neg s ih =>
  have:=ih ⟨h.1,h.2⟩;simp only[wd,Say.depth,bO,lens.2.2.2.2.1,lens.2.2.2.2.2.2.1,Nat.pow_succ];omega
 | two g a b i1 i2 =>
  have h1:=i1 ⟨h.1.1,fun x hx=>h.2 x (List.mem_append_left _ hx)⟩;have h2:=i2 ⟨h.1.2,fun x hx=>h.2 x (List.mem_append_right _ hx)⟩;have p1:2 ^ a.depth<=2 ^ max a.depth b.depth:=Nat.pow_le_pow_right (by decide) (Nat.le_max_left _ _);have p2:2 ^ b.depth<=2 ^ max a.depth b.depth:=Nat.pow_le_pow_right (by decide) (Nat.le_max_right _ _);simp only[wd,Say.depth,bO,lens.2.2.2.2.2.1,lens.2.2.2.2.2.2,g.len,Nat.pow_succ];omega
theorem fH{s:Say}(h:s.sh)(d:s.depth<=6):(wd s).length<=1800:=by
 have h1:=Pj h;have h2:2 ^ s.depth<=2 ^ 6:=Nat.pow_le_pow_right (by decide) d;omega
noncomputable def By(d:Nat):Sp:=fun vs H Q _=>∃(v:V) (s:Say),vs=[v]/\bD H v s/\s.depth<=d/\s.depth<=6/\s.sh/\∀ H',Kp [] H H'->Q (.str (wd s)) H'
theorem G9{x a b:String}:cR (.str (Str.ofString x)) [.str (Str.ofString a),.str (Str.ofString b)]=(decide (a=x)||decide (b=x)):=by
 simp only[cR,dJ,fN,List.any_cons,List.any_nil,Bool.or_false,HU]
theorem flat2{a b:Str}:([.str a,.str b]:List V).all cN=true:=rfl
inductive Stm where
 | set (x:Str) (s:Say)|order (x y:Str) (s:Say)|timer (x:Str) (s:Say)|child (x y:Str) (s:Say)|send (s:Say) (k:Str) (r:Say)|drop (s:Say)
 | wait (x:Str) (ss:List Say)|hear (x k:Str)|fin (s:Say)|whl (s:Say) (b:List Stm)|iff (s:Say) (b o:List Stm)
inductive cO(H:Hp):List V->List Say->Prop
 | nil:cO H [] []
 | cons {v:V} {vs:List V} {s:Say} {ss:List Say}:bD H v s->cO H vs ss->cO H (v::vs) (s::ss)
theorem cO.kp{H H':Hp}{vs:List V}{ss:List Say}(h:cO H vs ss)(k:aM H H'):cO H' vs ss:=by
 induction h with
 | nil=>exact .nil
 | cons a _ ih=>exact .cons (a.kp k) ih
mutual
inductive bV(H:Hp):V->Stm->Prop
 | set {a:Addr} {x:Str} {v:V} {s:Say}:H a=some (.tup [.str "set",.str x,v])->bD H v s->bV H (.ref a) (.set x s)
 | order {a:Addr} {x y:Str} {v:V} {s:Say}:H a=some (.tup [.str "order",.str x,.str y,v])->bD H v s->bV H (.ref a) (.order x y s)
 | timer {a:Addr} {x:Str} {v:V} {s:Say}:H a=some (.tup [.str "timer",.str x,v])->bD H v s->bV H (.ref a) (.timer x s)
 | child {a:Addr} {x y:Str} {v:V} {s:Say}:H a=some (.tup [.str "child",.str x,.str y,v])->bD H v s->bV H (.ref a) (.child x y s)
 | send {a:Addr} {k:Str} {v u:V} {s r:Say}:H a=some (.tup [.str "send",v,.str k,u])->bD H v s->bD H u r->bV H (.ref a) (.send s k r)
 | drop {a:Addr} {v:V} {s:Say}:H a=some (.tup [.str "drop",v])->bD H v s->bV H (.ref a) (.drop s)
 | wait {a p:Addr} {x:Str} {vs:List V} {ss:List Say}:H a=some (.tup [.str "wait",.str x,.ref p])->H p=some (.tup vs)->cO H vs ss->bV H (.ref a) (.wait x ss)
 | hear {a:Addr} {x k:Str}:H a=some (.tup [.str "hear",.str x,.str k])->bV H (.ref a) (.hear x k)
 | fin {a:Addr} {v:V} {s:Say}:H a=some (.tup [.str "end",v])->bD H v s->bV H (.ref a) (.fin s)
 | whl {a p:Addr} {v:V} {s:Say} {vs:List V} {b:List Stm}:H a=some (.tup [.str "while",v,.ref p])->bD H v s->H p=some (.tup vs)->bL H vs b->bV H (.ref a) (.whl s b)
 | iff {a p q:Addr} {v:V} {s:Say} {vs us:List V} {b o:List Stm}:H a=some (.tup [.str "if",v,.ref p,.ref q])->bD H v s->H p=some (.tup vs)->bL H vs b->H q=some (.tup us)->bL H us o->bV H (.ref a) (.iff s b o)
inductive bL(H:Hp):List V->List Stm->Prop
 | nil:bL H [] []
 | cons {v:V} {vs:List V} {x:Stm} {xs:List Stm}:bV H v x->bL H vs xs->bL H (v::vs) (x::xs)
end
theorem bV.kp{H H':Hp}(k:aM H H'){v:V}{m:Stm}(h:bV H v m):bV H' v m :=
 bV.rec (motive_1:=fun v m _=>bV H' v m) (motive_2:=fun vs ms _=>bL H' vs ms)
  (fun e s=>.set (k _ _ e) (s.kp k)) (fun e s=>.order (k _ _ e) (s.kp k)) (fun e s=>.timer (k _ _ e) (s.kp k)) (fun e s=>.child (k _ _ e) (s.kp k))
  (fun e s r=>.send (k _ _ e) (s.kp k) (r.kp k)) (fun e s=>.drop (k _ _ e) (s.kp k)) (fun e f s=>.wait (k _ _ e) (k _ _ f) (s.kp k)) (fun e=>.hear (k _ _ e)) (fun e s=>.fin (k _ _ e) (s.kp k))
  (fun e s f _ b=>.whl (k _ _ e) (s.kp k) (k _ _ f) b) (fun e s f _ f' _ b b'=>.iff (k _ _ e) (s.kp k) (k _ _ f) b (k _ _ f') b') .nil (fun _ _ a b=>.cons a b) h
theorem bL.kp{H H':Hp}(k:aM H H'){vs:List V}{ms:List Stm}(h:bL H vs ms):bL H' vs ms :=
 bL.rec (motive_1:=fun v m _=>bV H' v m) (motive_2:=fun vs ms _=>bL H' vs ms)
  (fun e s=>.set (k _ _ e) (s.kp k)) (fun e s=>.order (k _ _ e) (s.kp k)) (fun e s=>.timer (k _ _ e) (s.kp k)) (fun e s=>.child (k _ _ e) (s.kp k))
  (fun e s r=>.send (k _ _ e) (s.kp k) (r.kp k)) (fun e s=>.drop (k _ _ e) (s.kp k)) (fun e f s=>.wait (k _ _ e) (k _ _ f) (s.kp k)) (fun e=>.hear (k _ _ e)) (fun e s=>.fin (k _ _ e) (s.kp k))
  (fun e s f _ b=>.whl (k _ _ e) (s.kp k) (k _ _ f) b) (fun e s f _ f' _ b b'=>.iff (k _ _ e) (s.kp k) (k _ _ f) b (k _ _ f') b') .nil (fun _ _ a b=>.cons a b) h
noncomputable def glue(t:Str)(ys:List Str):Str:=ys.foldl (fun t y=>t++" "++y) t
noncomputable def Say.s6(s:Say):Prop:=s.sh/\s.depth<=6
noncomputable def Stm.hd:Stm->Str
 | .set x s=>x++" = "++wd s
 | .order x y s=>glue (x++" = "++"order") [y,wd s]
 | .timer x s=>glue (x++" = "++"timer") [wd s]
 | .child x y s=>glue (x++" = "++"child") [y,wd s]
 | .send s k r=>("send ":Str)++wd s++" "++k++" "++wd r
 | .drop s=>("drop":Str)++" "++wd s
 | .wait x ss=>glue (x++" = "++"wait") (ss.map wd)
 | .hear x k=>glue (x++" = "++"hear") [k]
 | .fin s=>("end":Str)++" "++wd s
 | .whl s _=>("while":Str)++" "++wd s
 | .iff s _ _=>("if":Str)++" "++wd s
noncomputable def Stm.UL:Stm->Prop
 | .set x s=>cU x/\s.s6
 | .order x y s=>cU x/\cU y/\s.s6
 | .timer x s=>cU x/\s.s6
 | .child x y s=>cU x/\cU y/\s.s6
 | .send s k r=>s.s6/\cU k/\r.s6
 | .drop s=>s.s6
 | .wait x ss=>cU x/\(1<=ss.length/\ss.length<=4)/\∀ s∈ss,s.s6
 | .hear x k=>cU x/\cU k
 | .fin s=>s.s6
 | .whl s _=>s.s6
 | .iff s _ _=>s.s6
noncomputable def pG(H:Hp)(v:V)(y:Str):Prop:=v=.str y/\cU y\/∃ s:Say,bD H v s/\s.s6/\y=wd s
theorem pG.kp{H H':Hp}{v:V}{y:Str}(h:pG H v y)(k:aM H H'):pG H' v y:=h.imp id fun⟨s,a,b⟩=>⟨s,a.kp k,b⟩
theorem pG.len{H:Hp}{v:V}{y:Str}(h:pG H v y):y.length<=1800:=by
 rcases h with⟨_,h⟩|⟨s,_,h,rfl⟩
 ·have:=h.len;omega
 ·exact fH h.1 h.2
inductive fI(H:Hp):List V->List Str->Prop
 | nil:fI H [] []
 | cons {v:V} {vs:List V} {y:Str} {ys:List Str}:pG H v y->fI H vs ys->fI H (v::vs) (y::ys)
theorem fI.at{H:Hp}{vs:List V}{ys:List Str}(h:fI H vs ys):∀ {i:Nat} {x:V},vs[i]?=some x->∃ y,ys[i]?=some y/\pG H x y:=by
 induction h with
 | nil=>intro i x e;simp at e
 | cons a _ ih =>
  intro i x e;cases i with
  | zero=>simp only[List.getElem?_cons_zero,Option.some.injEq] at e;subst e;exact⟨_,rfl,a⟩
  | succ i=>exact ih (by simpa using e)
theorem fI.len{H:Hp}{vs:List V}{ys:List Str}(h:fI H vs ys):ys.length=vs.length:=by
 induction h with
 | nil=>rfl
 | cons _ _ ih=>simp[ih]
theorem fI.all{H:Hp}{vs:List V}{ys:List Str}(h:fI H vs ys):∀ y∈ys,y.length<=1800:=by
 induction h with
 | nil=>intro y hy;cases hy
 | cons a _ ih =>
  intro y hy;rcases List.mem_cons.mp hy with rfl|hy
  ·exact a.len
  ·exact ih y hy
theorem Dw{H:Hp}{vs:List V}{ss:List Say}(h:cO H vs ss)(a:∀ s∈ss,s.s6):fI H vs (ss.map wd):=by
 induction h with
 | nil=>exact .nil
 | cons b _ ih=>exact .cons (.inr ⟨_,b,a _ (by simp),rfl⟩) (ih fun s hs=>a s (List.mem_cons_of_mem _ hs))
theorem GV(t:Str):∀(l:List Str),(∀ y∈l,y.length<=1800)->(glue t l).length<=t.length+1801 * l.length:=by
 intro l
 induction l generalizing t with
 | nil=>intro _;exact Nat.le_refl _
 | cons y l ih =>
  intro h;have h1:=ih (t++" "++y) fun z hz=>h z (List.mem_cons_of_mem _ hz);have h2:=h y (by simp);have h3:(glue t (y::l))=glue (t++" "++y) l:=rfl;rw[h3];simp only[bO,lens.2.2.2.2.2.2.1,List.length_cons] at h1 ⊢;omega
theorem bD.tup{H:Hp}{v:V}{s:Say}(h:bD H v s):∃ a xs,v=.ref a/\H a=some (.tup xs):=by
 cases h<;>exact⟨_,_,rfl,by assumption⟩
theorem kR{l:List Str}{i:Nat}{y:Str}(h:l[i]?=some y):l.take (i+1)=l.take i++[y]:=by rw[List.take_add_one,h];rfl
theorem hlens:("send ":Str).length=5/\(" = ":Str).length=3/\("order":Str).length=5/\("timer":Str).length=5/\("child":Str).length=5/\("wait":Str).length=4/\("hear":Str).length=4/\("drop":Str).length=4/\("end":Str).length=3/\("while":Str).length=5/\("if":Str).length=2:=by decide +kernel
theorem fI.kp{H H':Hp}{vs:List V}{ys:List Str}(h:fI H vs ys)(k:aM H H'):fI H' vs ys:=by
 induction h with
 | nil=>exact .nil
 | cons a _ ih=>exact .cons (a.kp k) ih
mutual
noncomputable def Stm.rows:Stm->List Str
 | .whl s b=>((("while":Str)++" "++wd s)::bG b)++[("done":Str)]
 | .iff s b o=>(((("if":Str)++" "++wd s)::bG b)++(if o.isEmpty=true then [] else ("else":Str)::bG o))++[("done":Str)]
 | .set x s=>[(Stm.set x s).hd]
 | .order x y s=>[(Stm.order x y s).hd]
 | .timer x s=>[(Stm.timer x s).hd]
 | .child x y s=>[(Stm.child x y s).hd]
 | .send s k r=>[(Stm.send s k r).hd]
 | .drop s=>[(Stm.drop s).hd]
 | .wait x ss=>[(Stm.wait x ss).hd]
 | .hear x k=>[(Stm.hear x k).hd]
 | .fin s=>[(Stm.fin s).hd]
noncomputable def bG:List Stm->List Str
 | []=>[]
 | m::ms=>m.rows++bG ms
end
mutual
noncomputable def Stm.dp:Stm->Nat
 | .whl _ b=>mT b+1
 | .iff _ b o=>max (mT b) (mT o)+1
 | .set _ _=>0
 | .order _ _ _=>0
 | .timer _ _=>0
 | .child _ _ _=>0
 | .send _ _ _=>0
 | .drop _=>0
 | .wait _ _=>0
 | .hear _ _=>0
 | .fin _=>0
noncomputable def mT:List Stm->Nat
 | []=>0
 | m::ms=>max m.dp (mT ms)
end
mutual
noncomputable def Stm.sz:Stm->Nat
 | .whl _ b=>gJ b+1
 | .iff _ b o=>gJ b+gJ o+1
 | .set _ _=>1
 | .order _ _ _=>1
 | .timer _ _=>1
 | .child _ _ _=>1
 | .send _ _ _=>1
 | .drop _=>1
 | .wait _ _=>1
 | .hear _ _=>1
 | .fin _=>1
noncomputable def gJ:List Stm->Nat
 | []=>0
 | m::ms=>m.sz+gJ ms
end
mutual
noncomputable def Stm.wf:Stm->Prop
 | .whl s b=>s.s6/\qL b
 | .iff s b o=>s.s6/\qL b/\qL o
 | m=>m.UL
noncomputable def qL:List Stm->Prop
 | []=>True
 | m::ms=>m.wf/\qL ms
end
theorem Stm.cG{m:Stm}(h:m.wf):m.UL:=by
 cases m<;>simp only[Stm.wf,Stm.UL] at h ⊢<;>first|exact h|exact h.1
theorem AF:∀ a b:List Stm,bG (a++b)=bG a++bG b
 | [],b=>by simp[bG]
 | x::a,b=>by simp[bG,AF a b]
theorem BF:∀ a b:List Stm,gJ (a++b)=gJ a+gJ b
 | [],b=>by simp[gJ]
 | x::a,b=>by simp[gJ,BF a b];omega
theorem EC:∀ {a b:List Stm},qL (a++b)↔qL a/\qL b
 | [],b=>by simp[qL]
 | x::a,b=>by simp[qL,EC (a:=a),and_assoc]
theorem DZ:∀ a b:List Stm,mT (a++b)=max (mT a) (mT b)
 | [],b=>by simp[mT]
 | x::a,b=>by simp[mT,DZ a b,Nat.max_assoc]
mutual
theorem Stm.yC:∀ m:Stm,m.rows.length<=3 * m.sz
 | .whl s b=>by have:=eJ b;simp only[Stm.rows,Stm.sz,List.length_append,List.length_cons,List.length_nil];omega
 | .iff s b o=>by
  have h1:=eJ b;have h2:=eJ o;simp only[Stm.rows,Stm.sz,List.length_append,List.length_cons,List.length_nil];split
  ·simp only[List.length_nil];omega
  ·simp only[List.length_cons];omega
 | .set _ _ | .order _ _ _ | .timer _ _ | .child _ _ _ | .send _ _ _ | .drop _ | .wait _ _ | .hear _ _ | .fin _=>by simp[Stm.rows,Stm.sz]
theorem eJ:∀ b:List Stm,(bG b).length<=3 * gJ b
 | []=>by simp[bG]
 | m::ms=>by
  have h1:=m.yC;have h2:=eJ ms;simp only[bG,gJ,List.length_append];omega
end
theorem _root_.L2.Kp.iT{H H':Hp}{p:Addr}(k:Kp [] H H')(h:H' p=none):H p=none:=by
 cases e:H p with
 | none=>rfl
 | some o=>rw[k.at e] at h;cases h
theorem _root_.L2.Kp.Ua{H H':Hp}{p:Addr}{o:HO}(k:Kp [] H H')(h:H p=none):Kp [] H (UH H' p o):=fun a ob e _=>by
 rw[aY (aQ e h)];exact k.at e
theorem bL.at{H:Hp}{vs:List V}{ms:List Stm}(h:bL H vs ms):∀ {i:Nat} {x:V},vs[i]?=some x->∃ m,ms[i]?=some m/\bV H x m:=by
 induction ms generalizing vs with
 | nil=>cases h;intro i x e;simp at e
 | cons m ms ih =>
  cases h with
  | cons a b =>
   intro i x e;cases i with
   | zero=>simp only[List.getElem?_cons_zero,Option.some.injEq] at e;subst e;exact⟨_,rfl,a⟩
   | succ i=>exact ih b (by simpa using e)
theorem bL.len{H:Hp}{vs:List V}{ms:List Stm}(h:bL H vs ms):ms.length=vs.length:=by
 induction ms generalizing vs with
 | nil=>cases h;rfl
 | cons m ms ih =>
  cases h with
  | cons a b=>simp[ih b]
theorem Ss{l:List Stm}{i:Nat}{y:Stm}(h:l[i]?=some y):l.take (i+1)=l.take i++[y]:=by rw[List.take_add_one,h];rfl
theorem Rq:∀ {l:List Stm} {i:Nat} {y:Stm},l[i]?=some y->(qL l->y.wf)/\y.dp<=mT l/\gJ (l.take i)+y.sz<=gJ l
 | m::ms,0,y,h=>by
  simp only[List.getElem?_cons_zero,Option.some.injEq] at h;subst h;refine⟨fun w=>w.1,by simp only[mT];omega,by simp only[gJ,List.take_zero];omega⟩
 | m::ms,i+1,y,h=>by
  obtain⟨h1,h2,h3⟩:=Rq (l:=ms) (i:=i) (y:=y) (by simpa using h);refine⟨fun w=>h1 w.2,by simp only[mT];omega,by simp only[gJ,List.take_succ_cons];omega⟩
 | [],_,_,h=>by simp at h
noncomputable def yK(d:Nat):Sp:=fun vs H Q _=>∃(p:Addr) (us:List V) (b:List Stm),vs=[.ref p]/\H p=some (.tup us)/\bL H us b/\qL b/\mT b < d/\gJ b<=1000 /\
 ∀(l:Addr) (H':Hp),H l=none->Kp [] H H'->H' l=some (.lst ((bG b).map V.str))->Q (.ref l) H'
theorem Say.s6.len{s:Say}(h:s.s6):(wd s).length<=1800:=fH h.1 h.2
theorem Stm.dD{m:Stm}(h:m.UL):m.hd.length<=8000:=by
 obtain⟨_,_,_,_,_,lo,l1,lc⟩:=lens;obtain⟨Wz,leq,XR,XS,XO,WA,Wy,Wx,lend,XU,lif⟩:=hlens;cases m with
 | set x s=>have:=h.2.len;have:=h.1.len;simp only[Stm.hd,bO];omega
 | send s k r=>have:=h.1.len;have:=h.2.2.len;have:=h.2.1.len;simp only[Stm.hd,bO];omega
 | drop s=>have:=Say.s6.len h;simp only[Stm.hd,bO];omega
 | fin s=>have:=Say.s6.len h;simp only[Stm.hd,bO];omega
 | whl s b=>have:=Say.s6.len h;simp only[Stm.hd,bO];omega
 | iff s b o=>have:=Say.s6.len h;simp only[Stm.hd,bO];omega
 | order x y s=>have:=h.2.2.len;have:=h.1.len;have:=h.2.1.len;simp only[Stm.hd,glue,List.foldl_cons,List.foldl_nil,bO];omega
 | child x y s=>have:=h.2.2.len;have:=h.1.len;have:=h.2.1.len;simp only[Stm.hd,glue,List.foldl_cons,List.foldl_nil,bO];omega
 | timer x s=>have:=h.2.len;have:=h.1.len;simp only[Stm.hd,glue,List.foldl_cons,List.foldl_nil,bO];omega
 | hear x k=>have:=h.2.len;have:=h.1.len;simp only[Stm.hd,glue,List.foldl_cons,List.foldl_nil,bO];omega
 | wait x ss =>
  have h1:=GV (x++" = "++"wait") (ss.map wd) fun y hy=>by
   obtain⟨s,hs,rfl⟩:=List.mem_map.mp hy;exact(h.2.2 s hs).len
  have:=h.1.len;have:=h.2.1;simp only[Stm.hd,bO,List.length_map] at h1 ⊢;omega
mutual
theorem Stm.DC:∀ {m:Stm},m.wf->∀ r∈m.rows,r.length<=8000
 | .whl s b,h,r,hr=>by
  simp only[Stm.rows,List.mem_append,List.mem_cons,List.not_mem_nil,or_false] at hr;rcases hr with(rfl|hr)|rfl
  ·exact Stm.dD (m:=.whl s b) h.1
  ·exact iA h.2 r hr
  ·decide +kernel
 | .iff s b o,h,r,hr=>by
  simp only[Stm.rows,List.mem_append,List.mem_cons,List.not_mem_nil,or_false] at hr;rcases hr with((rfl|hr)|hr)|rfl
  ·exact Stm.dD (m:=.iff s b o) h.1
  ·exact iA h.2.1 r hr
  ·split at hr
   ·cases hr
   ·rcases List.mem_cons.mp hr with rfl|hr
    ·decide +kernel
    ·exact iA h.2.2 r hr
  ·decide +kernel
 | .set x s,h,r,hr=>by rw[show r=_ by simpa[Stm.rows] using hr];exact Stm.dD (Stm.cG h)
 | .order x y s,h,r,hr=>by rw[show r=_ by simpa[Stm.rows] using hr];exact Stm.dD (Stm.cG h)
 | .timer x s,h,r,hr=>by rw[show r=_ by simpa[Stm.rows] using hr];exact Stm.dD (Stm.cG h)
 | .child x y s,h,r,hr=>by rw[show r=_ by simpa[Stm.rows] using hr];exact Stm.dD (Stm.cG h)
 | .send s k u,h,r,hr=>by rw[show r=_ by simpa[Stm.rows] using hr];exact Stm.dD (Stm.cG h)
 | .drop s,h,r,hr=>by rw[show r=_ by simpa[Stm.rows] using hr];exact Stm.dD (Stm.cG h)
 | .wait x ss,h,r,hr=>by rw[show r=_ by simpa[Stm.rows] using hr];exact Stm.dD (Stm.cG h)
 | .hear x k,h,r,hr=>by rw[show r=_ by simpa[Stm.rows] using hr];exact Stm.dD (Stm.cG h)
 | .fin s,h,r,hr=>by rw[show r=_ by simpa[Stm.rows] using hr];exact Stm.dD (Stm.cG h)
theorem iA:∀ {b:List Stm},qL b->∀ r∈bG b,r.length<=8000
 | [],_,r,hr=>by simp[bG] at hr
 | m::ms,h,r,hr=>by
  simp only[bG,List.mem_append] at hr;rcases hr with hr|hr
  ·exact Stm.DC h.1 r hr
  ·exact iA h.2 r hr
end
theorem t8{B:Nat}:∀ {ys:List Str},(∀ y∈ys,y.length<=B)->(ys.map fun z=>z.length).sum<=B * ys.length
 | [],_=>by simp
 | y::ys,h=>by
  have h1:=t8 (ys:=ys) fun z hz=>h z (List.mem_cons_of_mem _ hz);have h2:=h y (by simp);simp only[List.map_cons,List.sum_cons,List.length_cons,Nat.mul_add,Nat.mul_one];omega
noncomputable def kH(b:List Stm):Str:=Txt.join "" ((bG b).map fun r:Str=>r++"\n")
noncomputable def KP:Sp:=fun vs H Q _=>∃(p:Addr) (us:List V) (b:List Stm),vs=[.ref p]/\H p=some (.tup us)/\bL H us b/\qL b/\mT b<=5/\gJ b<=100/\∀ H',Kp [] H H'->Q (.str (kH b)) H'
theorem jY:("\n":Str).length=1/\("":Str).length=0:=by decide +kernel
theorem look2{a b z:Str}{x y c:Addr}(n:(a==b)=false)(h:List.lookup z [(a,x),(b,y)]=some c):List.lookup z [(b,y),(a,x)]=some c:=by
 simp only[List.lookup_cons,List.lookup_nil] at h ⊢;cases e1:(z==a) with
 | false=>rw[e1] at h;cases e2:(z==b)<;>rw[e2] at h<;>simp_all
 | true =>
  have:z=a:=eq_of_beq e1;subst this;rw[n];rw[e1] at h;exact h
theorem cO.snoc{H:Hp}{vs:List V}{ss:List Say}{v:V}{s:Say}(h:cO H vs ss)(e:bD H v s):cO H (vs++[v]) (ss++[s]):=by
 induction h with
 | nil=>exact .cons e .nil
 | cons a _ ih=>exact .cons a ih
theorem cO.len{H:Hp}{vs:List V}{ss:List Say}(h:cO H vs ss):vs.length=ss.length:=by
 induction h with
 | nil=>rfl
 | cons _ _ ih=>simp[ih]
structure jS(H:Hp)(r nl:Addr)(xs:List Str):Prop where
 row:bI H r
 Ve:H nl=some (.lst (xs.map V.str))
 l0:1<=xs.length
 l1:xs.length<=1000
 n1:nl≠r
 sh:∀ x∈xs,cU x
theorem jS.kp{H H':Hp}{r nl:Addr}{xs:List Str}(I:jS H r nl xs)(k:Kp [r] H H')(R:bI H' r):jS H' r nl xs:=⟨R,k.at1 I.Ve I.n1,I.l0,I.l1,I.n1,I.sh⟩
theorem jS.say{H:Hp}{r nl lf:Addr}{xs:List Str}{dp k:Int}(I:jS H r nl xs)(h:H lf=none)(hd:1<=dp):BK (UH H lf (.lst [.int k])) r nl lf dp xs k :=
 ⟨I.row.new h,hd,(q0D h).at I.Ve,I.l0,I.l1,aE,I.n1,I.row.none h,aQ I.Ve h⟩
theorem vT.kp1{H H':Hp}{r lf:Addr}{dp k:Int}{xs:List Str}{v:V}{s:Say}(O:vT (UH H lf (.lst [.int k])) H' r lf dp xs v s)(h:H lf=none):Kp [r] H H':=fun a o e n=>by
 have n1:a≠r:=by simpa using n
 have n2:a≠lf:=aQ e h;exact O.kp a o (by rw[aY n2];exact e) (by simp[n1,n2])
theorem vT.s6{H H':Hp}{r lf:Addr}{dp:Int}{xs:List Str}{v:V}{s:Say}(O:vT H H' r lf dp xs v s)(h:dp<=6)(sh:∀ x∈xs,cU x):s.s6 :=
 ⟨⟨O.ok,fun x hx=>sh x (O.nms x hx)⟩,by have:=O.YJ;omega⟩
structure IS(H H':Hp)(r:Addr)(v:V)(m:Stm):Prop where
 stm:bV H' v m
 wf:m.wf
 dp:m.dp=0
 sz:m.sz=1
 row:bI H' r
 kp:Kp [r] H H'
noncomputable def HY:Sp:=fun vs H Q _=>∃(r nl:Addr) (dp:Int) (xs:List Str),vs=[.ref r,.ref nl,.int dp]/\jS H r nl xs/\1<=dp/\dp<=6/\∀(v:V) (m:Stm) (H':Hp),IS H H' r v m->Q v H'
structure Md(H H':Hp)(r lf p:Addr)(us:List V)(b:List Stm)(dp k k':Int):Prop where
 tup:H' p=some (.tup us)
 KR:bL H' us b
 wf:qL b
 dp:(mT b:Int)<=dp
 sz:(gJ b:Int)+k'<=k
 k0:0<=k'
 row:bI H' r
 Vr:H' lf=some (.lst [.int k'])
 kp:Kp [r,lf] H H'
noncomputable def Bx(d:Nat):Sp:=fun vs H Q _=>∃(r nl lf:Addr) (dp many k:Int) (xs:List Str),vs=[.ref r,.ref nl,.int dp,.ref lf,.int many]/\jS H r nl xs/\0<=dp/\dp < d/\H lf=some (.lst [.int k])/\0<=k/\k<=100/\lf≠r/\lf≠nl /\
 ∀(p:Addr) (us:List V) (b:List Stm) (k':Int) (H':Hp),Md H H' r lf p us b dp k k'->Q (.ref p) H'
theorem Stm.DF(m:Stm):1<=m.sz:=by cases m<;>simp[Stm.sz]
theorem _root_.L2.Kp.RK{S:List Addr}{H H':Hp}{p:Addr}{o:HO}(k:Kp S H H')(h:H p=none):Kp S H (UH H' p o):=fun a ob e n=>by
 rw[aY (aQ e h)];exact k a ob e n
theorem bL.snoc{H:Hp}{vs:List V}{ms:List Stm}{v:V}{m:Stm}(h:bL H vs ms)(e:bV H v m):bL H (vs++[v]) (ms++[m]):=by
 induction ms generalizing vs with
 | nil=>cases h;exact .cons e .nil
 | cons m ms ih =>
  cases h with
  | cons a b=>exact .cons a (ih b)
theorem aM.set{H:Hp}{l:Addr}{xs ys:List V}(e:H l=some (.lst xs)):aM H (UH H l (.lst ys)):=fun a zs h=>by
 rw[aY (Aq h e (by intro z;cases z))];exact h
theorem iJ(a b c:Str):a++b++c=a++(b++c):=by
 show(⟨a.cps++b.cps++c.cps⟩:Str)=⟨a.cps++(b.cps++c.cps)⟩;rw[Array.append_assoc]
noncomputable def jb(ws:List Str):Str:=Txt.join " " ws
theorem Cd(ws:List Str):(jb ws).cps.toList=jn 32 (ws.map fun p=>p.cps.toList):=by
 unfold jb;rw[eV.2.1];exact oI 32 ws
theorem xH(w:Str):jb [w]=w:=jR (by rw[Cd];rfl)
theorem cC(w:Str){ws:List Str}(h:ws≠[]):jb (w::ws)=w++" "++jb ws:=by
 cases ws with
 | nil=>exact absurd rfl h
 | cons v r =>
  apply jR;rw[iN,iN,Cd,Cd,eV.2.1];simp[jn]
theorem xG:∀ {us ws:List Str},us≠[]->ws≠[]->jb (us++ws)=jb us++" "++jb ws
 | [],_,h,_=>absurd rfl h
 | [u],ws,_,h=>by rw[List.singleton_append,cC u h,xH]
 | u::v::r,ws,_,h=>by
  rw[List.cons_append,cC u (by simp),xG (us:=v::r) (by simp) h,cC u (ws:=v::r) (by simp)];simp only[iJ]
noncomputable def sw:Say->List Str
 | .num n=>[Str.ofString (toString n)]
 | .UK=>["none"]
 | .name x=>[x]
 | .arg=>["arg"]
 | .now=>["now"]
 | .Vd s=>"answer"::sw s
 | .neg s=>"not"::sw s
 | .two g a b=>"("::(sw a++g.s::(sw b++[(")":Str)]))
theorem iC:∀ s:Say,sw s≠[]
 | .num _ | .UK | .name _ | .arg | .now | .Vd _ | .neg _ | .two _ _ _=>by simp[sw]
theorem HH:("( ":Str)=("(":Str)++" "/\(" )":Str)=(" ":Str)++")":=by decide +kernel
theorem pF(s:Say):wd s=jb (sw s):=by
 induction s with
 | Vd s ih=>rw[sw,wd,cC _ (iC s),ih]
 | neg s ih=>rw[sw,wd,cC _ (iC s),ih]
 | two g a b i1 i2 =>
  rw[sw,wd,cC _ (by simp),xG (iC a) (by simp),cC _ (by simp),xG (iC b) (by simp),xH,i1,i2,HH.1,HH.2];simp only[iJ]
 | _=>simp only[sw,wd,xH]
noncomputable def Stm.ws:Stm->List Str
 | .set x s=>x::"="::sw s
 | .order x y s=>x::"="::"order"::y::sw s
 | .timer x s=>x::"="::"timer"::sw s
 | .child x y s=>x::"="::"child"::y::sw s
 | .send s k r=>"send"::(sw s++k::sw r)
 | .drop s=>"drop"::sw s
 | .wait x ss=>x::"="::"wait"::(ss.map sw).flatten
 | .hear x k=>[x,"=","hear",k]
 | .fin s=>"end"::sw s
 | .whl s _=>"while"::sw s
 | .iff s _ _=>"if"::sw s
theorem eqm:(" ":Str)++"="++" " = " = "/\("send":Str)++" " = "send ":=by decide +kernel
theorem lE(x:Str):x++" = "=x++" "++"="++" ":=by rw[<- eqm.1];simp only[iJ]
theorem JX(t:Str):∀ l:List (List Str),(∀ w∈l,w≠[])->glue t (l.map jb)=if l.flatten=[] then t else t++" "++jb l.flatten:=by
 intro l
 induction l generalizing t with
 | nil=>intro _;simp[glue]
 | cons w l ih =>
  intro h;have hw:=h w (by simp);show glue (t++" "++jb w) (l.map jb)=_;rw[ih _ fun z hz=>h z (List.mem_cons_of_mem _ hz)];have h1:(w::l).flatten≠[]:=by simp[hw]
  rw[if_neg h1];by_cases h2:l.flatten=[]
  ·rw[if_pos h2,List.flatten_cons,h2,List.append_nil]
  ·rw[if_neg h2,List.flatten_cons,xG hw h2];simp only[iJ]
theorem Stm.Al(m:Stm):m.hd=jb m.ws:=by
 cases m with
 | set x s=>simp only[Stm.hd,Stm.ws,cC _ (iC s),cC x (ws:="="::sw s) (by simp),pF,lE,iJ]
 | order x y s=>simp only[Stm.hd,Stm.ws,glue,List.foldl_cons,List.foldl_nil,cC _ (iC s),cC _ (ws:=_::_) (by simp),pF,lE,iJ]
 | child x y s=>simp only[Stm.hd,Stm.ws,glue,List.foldl_cons,List.foldl_nil,cC _ (iC s),cC _ (ws:=_::_) (by simp),pF,lE,iJ]
 | timer x s=>simp only[Stm.hd,Stm.ws,glue,List.foldl_cons,List.foldl_nil,cC _ (iC s),cC _ (ws:=_::_) (by simp),pF,lE,iJ]
 | send s k r=>simp only[Stm.hd,Stm.ws,cC _ (ws:=sw s++k::sw r) (by simp),xG (iC s) (ws:=k::sw r) (by simp),cC k (iC r),pF,<- eqm.2,iJ]
 | drop s=>simp only[Stm.hd,Stm.ws,cC _ (iC s),pF]
 | fin s=>simp only[Stm.hd,Stm.ws,cC _ (iC s),pF]
 | whl s b=>simp only[Stm.hd,Stm.ws,cC _ (iC s),pF]
 | iff s b o=>simp only[Stm.hd,Stm.ws,cC _ (iC s),pF]
 | hear x k=>simp only[Stm.hd,Stm.ws,glue,List.foldl_cons,List.foldl_nil,cC _ (ws:=_::_) (by simp),xH,lE,iJ]
 | wait x ss =>
  have e:ss.map wd=(ss.map sw).map jb:=by rw[List.map_map];exact List.map_congr_left fun s _=>pF s
  simp only[Stm.hd,Stm.ws];rw[e,JX _ _ fun w hw=>by obtain⟨s,_,rfl⟩:=List.mem_map.mp hw;exact iC s];split
  ·next h=>rw[h];simp only[cC _ (ws:=_::_) (by simp),xH,lE,iJ]
  ·next h=>simp only[cC _ (ws:=_::_) (by simp),cC _ h,lE,iJ]
noncomputable def Fr(w:Str):Prop:=32∉w.cps.toList/\10∉w.cps.toList
theorem Fr.nm{x:Str}(h:cU x):Fr x:=by
 unfold cU at h;simp only[Bool.and_eq_true] at h;have:=List.all_eq_true.mp h.2.2.1;refine⟨fun z=>?_,fun z=>?_⟩<;>(have:=this _ z;simp at this)
theorem Fr.int(n:Int):Fr (Str.ofString (toString n)):=⟨PyProof.Rows.int_text_free' 32 (by decide) n,PyProof.Rows.int_text_free' 10 (by decide) n⟩
theorem dQ:Fr "none"/\Fr "arg"/\Fr "now"/\Fr "answer"/\Fr "not"/\Fr "("/\Fr ")"/\Fr "="/\Fr "order"/\Fr "timer"/\Fr "child"/\Fr "send"/\Fr "drop"/\Fr "wait"/\Fr "hear"/\Fr "end"/\Fr "while"/\Fr "if"/\Fr "else"/\Fr "done":=by
 have f:∀ {w:Str},(w.cps.toList.all fun c=>c !=32&&c !=10)=true->Fr w:=fun h=>by
  have:=List.all_eq_true.mp h;exact⟨fun z=>by have:=this _ z;simp at this,fun z=>by have:=this _ z;simp at this⟩
 exact⟨f (by decide +kernel),f (by decide +kernel),f (by decide +kernel),f (by decide +kernel),f (by decide +kernel),f (by decide +kernel),f (by decide +kernel),f (by decide +kernel),f (by decide +kernel),f (by decide +kernel),f (by decide +kernel),f (by decide +kernel),f (by decide +kernel),f (by decide +kernel),f (by decide +kernel),f (by decide +kernel),f (by decide +kernel),f (by decide +kernel),f (by decide +kernel),f (by decide +kernel)⟩
theorem Q9(g:Sg):Fr g.s:=by
 cases g<;>(unfold Fr;decide +kernel)
theorem mY{s:Say}(hs:s.sh):∀ w∈sw s,Fr w:=by
 induction s with
 | num n=>intro w h;rw[show w=_ by simpa[sw] using h];exact Fr.int n
 | UK=>intro w h;rw[show w=_ by simpa[sw] using h];exact dQ.1
 | name x=>intro w h;rw[show w=x by simpa[sw] using h];exact Fr.nm (hs.2 x (by simp[Say.nms]))
 | arg=>intro w h;rw[show w=_ by simpa[sw] using h];exact dQ.2.1
 | now=>intro w h;rw[show w=_ by simpa[sw] using h];exact dQ.2.2.1
 | Vd s ih =>
  intro w h;rcases List.mem_cons.mp h with rfl|h
  ·exact dQ.2.2.2.1
  ·exact ih ⟨hs.1,hs.2⟩ w h
 | neg s ih =>
  intro w h;rcases List.mem_cons.mp h with rfl|h
  ·exact dQ.2.2.2.2.1
  ·exact ih ⟨hs.1,hs.2⟩ w h
 | two g a b i1 i2 =>
  intro w h;simp only[sw,List.mem_cons,List.mem_append,List.not_mem_nil,or_false] at h;rcases h with rfl|h|rfl|h|rfl
  ·exact dQ.2.2.2.2.2.1
  ·exact i1 ⟨hs.1.1,fun x hx=>hs.2 x (List.mem_append_left _ hx)⟩ w h
  ·exact Q9 g
  ·exact i2 ⟨hs.1.2,fun x hx=>hs.2 x (List.mem_append_right _ hx)⟩ w h
  ·exact dQ.2.2.2.2.2.2.1
theorem Lp{m:Stm}(h:m.UL):∀ w∈m.ws,Fr w:=by
 obtain⟨_,_,_,_,_,_,_,Ye,aaC,aaD,aaA,Yx,Yu,Yy,Yv,aaB,aaE,fif,_,_⟩:=dQ;intro w hw;cases m with
 | set x s =>
  simp only[Stm.ws,List.mem_cons] at hw;rcases hw with rfl|rfl|hw
  ·exact Fr.nm h.1
  ·exact Ye
  ·exact mY h.2.1 w hw
 | order x y s =>
  simp only[Stm.ws,List.mem_cons] at hw;rcases hw with rfl|rfl|rfl|rfl|hw
  ·exact Fr.nm h.1
  ·exact Ye
  ·exact aaC
  ·exact Fr.nm h.2.1
  ·exact mY h.2.2.1 w hw
 | child x y s =>
  simp only[Stm.ws,List.mem_cons] at hw;rcases hw with rfl|rfl|rfl|rfl|hw
  ·exact Fr.nm h.1
  ·exact Ye
  ·exact aaA
  ·exact Fr.nm h.2.1
  ·exact mY h.2.2.1 w hw
 | timer x s =>
  simp only[Stm.ws,List.mem_cons] at hw;rcases hw with rfl|rfl|rfl|hw
  ·exact Fr.nm h.1
  ·exact Ye
  ·exact aaD
  ·exact mY h.2.1 w hw
 | send s k r =>
  simp only[Stm.ws,List.mem_cons,List.mem_append] at hw;rcases hw with rfl|hw|rfl|hw
  ·exact Yx
  ·exact mY h.1.1 w hw
  ·exact Fr.nm h.2.1
  ·exact mY h.2.2.1 w hw
 | drop s =>
  rcases List.mem_cons.mp hw with rfl|hw
  ·exact Yu
  ·exact mY h.1 w hw
 | fin s =>
  rcases List.mem_cons.mp hw with rfl|hw
  ·exact aaB
  ·exact mY h.1 w hw
 | whl s b =>
  rcases List.mem_cons.mp hw with rfl|hw
  ·exact aaE
  ·exact mY h.1 w hw
 | iff s b o =>
  rcases List.mem_cons.mp hw with rfl|hw
  ·exact fif
  ·exact mY h.1 w hw
 | hear x k =>
  simp only[Stm.ws,List.mem_cons,List.not_mem_nil,or_false] at hw;rcases hw with rfl|rfl|rfl|rfl
  ·exact Fr.nm h.1
  ·exact Ye
  ·exact Yv
  ·exact Fr.nm h.2
 | wait x ss =>
  simp only[Stm.ws,List.mem_cons] at hw;rcases hw with rfl|rfl|rfl|hw
  ·exact Fr.nm h.1
  ·exact Ye
  ·exact Yy
  ·obtain⟨l,hl,hw⟩:=List.mem_flatten.mp hw;obtain⟨s,hs,rfl⟩:=List.mem_map.mp hl;exact mY (h.2.2 s hs).1 w hw
theorem Mc(m:Stm):∃ a b r,m.ws=a::b::r:=by
 have sp:∀ s:Say,∃ b r,sw s=b::r:=fun s=>by
  cases h:sw s with
  | nil=>exact absurd h (iC s)
  | cons b r=>exact⟨b,r,rfl⟩
 cases m with
 | drop s=>obtain⟨b,r,e⟩:=sp s;exact⟨"drop",b,r,by rw[Stm.ws,e]⟩
 | fin s=>obtain⟨b,r,e⟩:=sp s;exact⟨"end",b,r,by rw[Stm.ws,e]⟩
 | whl s b=>obtain⟨b,r,e⟩:=sp s;exact⟨"while",b,r,by rw[Stm.ws,e]⟩
 | iff s b o=>obtain⟨b,r,e⟩:=sp s;exact⟨"if",b,r,by rw[Stm.ws,e]⟩
 | send s k r=>obtain⟨b,t,e⟩:=sp s;exact⟨"send",b,t++k::sw r,by rw[Stm.ws,e];rfl⟩
 | _=>exact⟨_,_,_,rfl⟩
theorem GY{m:Stm}(h:m.UL):Txt.split m.hd " "=m.ws:=by
 rw[Stm.Al,jb,eV.2.1];obtain⟨a,b,r,e⟩:=Mc m;exact AJ (by rw[e];simp) fun w hw=>(Lp h w hw).1
theorem Hn{c k:Nat}:∀ {l:List (List Nat)},k∈jn c l->k=c\/∃ w∈l,k∈w
 | [],h=>by simp[jn] at h
 | [w],h=>.inr ⟨w,by simp,h⟩
 | w::v::r,h=>by
  rcases List.mem_append.mp (show k∈w++c::jn c (v::r) from h) with h|h
  ·exact .inr ⟨w,by simp,h⟩
  ·rcases List.mem_cons.mp h with h|h
   ·exact .inl h
   ·rcases Hn h with h|⟨z,hz,h⟩
    ·exact .inl h
    ·exact .inr ⟨z,List.mem_cons_of_mem _ hz,h⟩
theorem m4{m:Stm}(h:m.UL):10∉m.hd.cps.toList:=by
 rw[Stm.Al,Cd];intro z;rcases Hn z with z|⟨w,hw,z⟩
 ·cases z
 ·obtain⟨p,hp,rfl⟩:=List.mem_map.mp hw;exact(Lp h p hp).2 z
theorem GW(m:Stm):32∈m.hd.cps.toList:=by
 rw[Stm.Al,Cd];obtain⟨a,b,r,e⟩:=Mc m;rw[e];simp[jn]
theorem GX{m:Stm}{x:String}(h:32∉(Str.ofString x).cps.toList):m.hd≠Str.ofString x:=fun e=>h (e▸GW m)
mutual
theorem Stm.Ky:∀ {m:Stm},m.wf->∀ r∈m.rows,10∉r.cps.toList
 | .whl s b,h,r,hr=>by
  simp only[Stm.rows,List.mem_append,List.mem_cons,List.not_mem_nil,or_false] at hr;rcases hr with(rfl|hr)|rfl
  ·exact m4 (m:=.whl s b) h.1
  ·exact nK h.2 r hr
  ·exact dQ.2.2.2.2.2.2.2.2.2.2.2.2.2.2.2.2.2.2.2.2
 | .iff s b o,h,r,hr=>by
  simp only[Stm.rows,List.mem_append,List.mem_cons,List.not_mem_nil,or_false] at hr;rcases hr with((rfl|hr)|hr)|rfl
  ·exact m4 (m:=.iff s b o) h.1
  ·exact nK h.2.1 r hr
  ·split at hr
   ·cases hr
   ·rcases List.mem_cons.mp hr with rfl|hr
    ·exact dQ.2.2.2.2.2.2.2.2.2.2.2.2.2.2.2.2.2.2.1.2
    ·exact nK h.2.2 r hr
  ·exact dQ.2.2.2.2.2.2.2.2.2.2.2.2.2.2.2.2.2.2.2.2
 | .set x s,h,r,hr=>by rw[show r=_ by simpa[Stm.rows] using hr];exact m4 (Stm.cG h)
 | .order x y s,h,r,hr=>by rw[show r=_ by simpa[Stm.rows] using hr];exact m4 (Stm.cG h)
 | .timer x s,h,r,hr=>by rw[show r=_ by simpa[Stm.rows] using hr];exact m4 (Stm.cG h)
 | .child x y s,h,r,hr=>by rw[show r=_ by simpa[Stm.rows] using hr];exact m4 (Stm.cG h)
 | .send s k u,h,r,hr=>by rw[show r=_ by simpa[Stm.rows] using hr];exact m4 (Stm.cG h)
 | .drop s,h,r,hr=>by rw[show r=_ by simpa[Stm.rows] using hr];exact m4 (Stm.cG h)
 | .wait x ss,h,r,hr=>by rw[show r=_ by simpa[Stm.rows] using hr];exact m4 (Stm.cG h)
 | .hear x k,h,r,hr=>by rw[show r=_ by simpa[Stm.rows] using hr];exact m4 (Stm.cG h)
 | .fin s,h,r,hr=>by rw[show r=_ by simpa[Stm.rows] using hr];exact m4 (Stm.cG h)
theorem nK:∀ {b:List Stm},qL b->∀ r∈bG b,10∉r.cps.toList
 | [],_,r,hr=>by simp[bG] at hr
 | m::ms,h,r,hr=>by
  simp only[bG,List.mem_append] at hr;rcases hr with hr|hr
  ·exact Stm.Ky h.1 r hr
  ·exact nK h.2 r hr
end
theorem DG{b:List Stm}(h:qL b):Txt.split (kH b) "\n"=bG b++[("":Str)]:=Bg (nK h)
noncomputable def Fm(x:Str):Bool:=decide (1<=x.length)&&(decide (x.length<=6)&&(x.cps.toList.all (fun c=>decide (97<=c)&&decide (c<=122))&&!cR (.str x) mI))
theorem tJ{x:Str}:cU x↔Fm x=true:=Iff.rfl
theorem oX{x:Str}(h:cU x){l:List V}(hl:∀ v∈l,v∈mI):cR (.str x) l=false:=by
 unfold cU at h;simp only[Bool.and_eq_true,Bool.not_eq_true'] at h;have h1:=h.2.2.2;rw[Bool.eq_false_iff] at h1 ⊢;intro z;apply h1;obtain⟨v,hv,e⟩:=List.any_eq_true.mp z;exact List.any_eq_true.mpr ⟨v,hl v hv,e⟩
theorem Hw{x:Str}(h:cU x){y:String}(hy:(.str (Str.ofString y):V)∈mI):(x=Str.ofString y)=False:=by
 have:=oX h (l:=[.str (Str.ofString y)]) (by simpa using hy);refine eq_false fun e=>?_;subst e;simp[cR,dJ,fN] at this
theorem Lw{x:Str}(h:cU x):x.cps.toList≠[]/\∀ c∈x.cps.toList,97<=c/\c<=122:=by
 unfold cU at h;simp only[Bool.and_eq_true,decide_eq_true_eq] at h;refine⟨fun z=>?_,fun c hc=>?_⟩
 ·have:x.length=0:=by show x.cps.size=0;rw[<- Array.length_toList,z];rfl
  omega
 ·have:=List.all_eq_true.mp h.2.2.1 c hc;simpa using this
theorem OA{x:Str}(h:cU x):(x = "(")=False:=eq_false fun e=>by
 subst e;have:=(Lw h).2 40 (by decide +kernel);omega
theorem Oz{x:Str}(h:cU x)(lo hi:Int):pW x lo hi=false:=by
 obtain⟨h1,h2⟩:=Lw h;unfold pW;cases e:x.cps.toList with
 | nil=>exact absurd e h1
 | cons c r =>
  have hc:=h2 c (by rw[e];simp);have ef:iH (c::r)=c::r:=by
   unfold iH;split
   ·next z=>simp only[List.cons.injEq] at z;omega
   ·rfl
  have:¬ (48<=c/\c<=57):=by omega
  have h3:(decide (48<=c)&&decide (c<=57))=false:=by
   rw[Bool.and_eq_false_iff];simp only[decide_eq_false_iff_not];omega
  simp only[ef,List.all_cons,h3,Bool.false_and,Bool.and_false]
theorem iZ{n:Int}{x:String}(k:Nat)(hk:k∈(Str.ofString x).cps.toList)(h:k≠45/\(k < 48\/57 < k)):(Str.ofString (toString n)=Str.ofString x)=False:=eq_false fun e=>PyProof.Rows.int_text_free' k h n (by rw[e];exact hk)
theorem J0(n:Int):cR (.str (Str.ofString (toString n))) [.str "none",.str "arg",.str "now"]=false:=by
 have h1:=iZ (n:=n) (x:="none") 110 (by decide +kernel) (by decide);have h2:=iZ (n:=n) (x:="arg") 97 (by decide +kernel) (by decide);have h3:=iZ (n:=n) (x:="now") 110 (by decide +kernel) (by decide);simp only[cR,List.any_cons,List.any_nil,dJ,fN,Bool.or_false,Bool.or_eq_false_iff,beq_eq_false_iff_ne];exact⟨fun z=>(h1▸z.symm),fun z=>(h2▸z.symm),fun z=>(h3▸z.symm)⟩
theorem JZ(n:Int):cR (.str (Str.ofString (toString n))) [.str "answer",.str "not"]=false:=by
 have h1:=iZ (n:=n) (x:="answer") 110 (by decide +kernel) (by decide);have h2:=iZ (n:=n) (x:="not") 110 (by decide +kernel) (by decide);simp only[cR,List.any_cons,List.any_nil,dJ,fN,Bool.or_false,Bool.or_eq_false_iff,beq_eq_false_iff_ne];exact⟨fun z=>(h1▸z.symm),fun z=>(h2▸z.symm)⟩
theorem J1(n:Int):cR (.str (Str.ofString (toString n))) [.str "order",.str "child",.str "timer",.str "wait",.str "hear"]=false:=by
 have h1:=iZ (n:=n) (x:="order") 114 (by decide +kernel) (by decide);have h2:=iZ (n:=n) (x:="child") 99 (by decide +kernel) (by decide);have h3:=iZ (n:=n) (x:="timer") 114 (by decide +kernel) (by decide);have h4:=iZ (n:=n) (x:="wait") 97 (by decide +kernel) (by decide);have h5:=iZ (n:=n) (x:="hear") 97 (by decide +kernel) (by decide);simp only[cR,List.any_cons,List.any_nil,dJ,fN,Bool.or_false,Bool.or_eq_false_iff,beq_eq_false_iff_ne];exact⟨fun z=>(h1▸z.symm),fun z=>(h2▸z.symm),fun z=>(h3▸z.symm),fun z=>(h4▸z.symm),fun z=>(h5▸z.symm)⟩
theorem Hb{n:Int}(h0:-1000000000<=n)(h1:n<=1000000000):pW (Str.ofString (toString n)) (-1000000000) 1000000000=true:=by
 have hr:=s8 n (Nat.lt_of_le_of_lt (show n.natAbs<=1000000000 by omega) (by decide));have hL:(Str.ofString (toString (if (1000000000:Int) > - -1000000000 then (1000000000:Int) else - -1000000000))).length=10:=by decide +kernel
 have hd:(List.all · fun c=>decide (48<=c)&&decide (c<=57))=(List.all · fun c=>decide (48<=c)&&decide (c<=57)):=rfl;have all:∀ m:Nat,(UO m).all (fun c=>decide (48<=c)&&decide (c<=57))=true:=fun m=>List.all_eq_true.mpr fun c hc=>by have:=kJ m c hc;simpa using this
 have zero:("0":Str).cps.toList=[48]:=by decide +kernel
 unfold pW;rw[hr,hL];cases n with
 | ofNat m =>
  have e:(Str.ofString (toString (Int.ofNat m))).cps.toList=UO m:=vH m;have hm:m < 10 ^ 10:=by have:(Int.ofNat m)=(m:Int):=rfl;omega
  have l10:(UO m).length<=10:=(hJ (by decide)).mpr hm;have l1:1<=(UO m).length:=by
   cases hz:UO m with
   | nil=>exact absurd hz (qW m)
   | cons _ _=>simp
  have ef:iH (UO m)=UO m:=by
   unfold iH;split
   ·next z=>have:=kJ m 45 (by rw[z];simp);omega
   ·rfl
  have z0:(decide ((UO m)[0]?=some 48)&&!decide (Str.ofString (toString (Int.ofNat m)) = "0"))=false:=by
   rw[Bool.and_eq_false_iff];by_cases hz:(UO m)[0]?=some 48
   ·right;have:∃ cs,UO m=48::cs:=by
     cases hq:UO m with
     | nil=>rw[hq] at hz;cases hz
     | cons a cs=>rw[hq] at hz;simp only[List.getElem?_cons_zero,Option.some.injEq] at hz;exact⟨cs,by rw[hz]⟩
    obtain⟨cs,hc⟩:=this;have m0:=Ae hc;subst m0;decide +kernel
   ·left;simpa using hz
  simp only[e,ef,l1,l10,all,z0,decide_true,Bool.true_and,Bool.not_false,Bool.and_true,Bool.and_eq_true,decide_eq_true_eq];exact⟨h0,h1⟩
 | negSucc m =>
  have e:=Bb m;have hm:m+1 < 10 ^ 10:=by
   have:Int.negSucc m = -((m:Int)+1):=by omega
   omega
  have l10:(UO (m+1)).length<=10:=(hJ (by decide)).mpr hm;have l1:1<=(UO (m+1)).length:=by
   cases hz:UO (m+1) with
   | nil=>exact absurd hz (qW _)
   | cons _ _=>simp
  have ef:iH (45::UO (m+1))=UO (m+1):=rfl;have z0:(decide ((UO (m+1))[0]?=some 48)&&!decide (Str.ofString (toString (Int.negSucc m)) = "0"))=false:=by
   rw[Bool.and_eq_false_iff];left;simp only[decide_eq_false_iff_not];intro hz;have:∃ cs,UO (m+1)=48::cs:=by
    cases hq:UO (m+1) with
    | nil=>rw[hq] at hz;cases hz
    | cons a cs=>rw[hq] at hz;simp only[List.getElem?_cons_zero,Option.some.injEq] at hz;exact⟨cs,by rw[hz]⟩
   obtain⟨cs,hc⟩:=this;have:=Ae hc;omega
  simp only[e,ef,l1,l10,all,z0,decide_true,Bool.true_and,Bool.not_false,Bool.and_true,Bool.and_eq_true,decide_eq_true_eq];exact⟨h0,h1⟩
theorem J4{α:Type}(z1 z2:α){c:Prop}{inst:Decidable c}{A1 A2 B:Prop}{R:α->Prop}(h1:c->A1/\A2)(h2:¬ c->B)(hR:∀ z,z=(@ite α c inst z1 z2)->R z):@ite Prop c inst (A1/\A2/\R z1) (B/\R z2):=by
 by_cases h:c
 ·rw[if_pos h];exact⟨(h1 h).1,(h1 h).2,hR z1 (if_pos h).symm⟩
 ·rw[if_neg h];exact⟨h2 h,hR z2 (if_neg h).symm⟩
noncomputable def LB:Sp:=fun vs H Q _=>∃ c:Nat,vs=[.str ⟨#[c]⟩]/\Q (.bl (decide (97<=c)&&decide (c<=122))) H
noncomputable def LA:Sp:=fun vs H Q _=>∃ c:Nat,vs=[.str ⟨#[c]⟩]/\Q (.bl (decide (48<=c)&&decide (c<=57))) H
theorem Rz{c:Nat}{H:Hp}{Q:VK}{E:XK}:LB [.str ⟨#[c]⟩] H Q E=Q (.bl (decide (97<=c)&&decide (c<=122))) H:=propext ⟨fun⟨_,e,h⟩=>by cases e;exact h,fun h=>⟨_,rfl,h⟩⟩
theorem Ry{c:Nat}{H:Hp}{Q:VK}{E:XK}:LA [.str ⟨#[c]⟩] H Q E=Q (.bl (decide (48<=c)&&decide (c<=57))) H:=propext ⟨fun⟨_,e,h⟩=>by cases e;exact h,fun h=>⟨_,rfl,h⟩⟩
noncomputable def CJ:Sp:=fun vs H Q _=>∃ x:Str,vs=[.str x]/\x.length<=8000000/\∀ H',Kp [] H H'->Q (.bl (Fm x)) H'
theorem HP{x:Str}{H:Hp}{Q:VK}{E:XK}:CJ [.str x] H Q E=(x.length<=8000000/\∀ H',Kp [] H H'->Q (.bl (Fm x)) H'):=propext ⟨fun⟨_,e,h⟩=>by cases e;exact h,fun h=>⟨_,rfl,h⟩⟩
noncomputable def Eo:Sp:=fun vs H Q _=>∃(x:Str) (lo hi:Int),vs=[.str x,.int lo,.int hi]/\x.length<=8000000/\(-1000000000<=lo/\lo<=0/\0<=hi/\hi<=1000000000000)/\∀ H',Kp [] H H'->Q (.bl (pW x lo hi)) H'
theorem Ks{x:Str}{lo hi:Int}{H:Hp}{Q:VK}{E:XK}:Eo [.str x,.int lo,.int hi] H Q E=(x.length<=8000000/\(-1000000000<=lo/\lo<=0/\0<=hi/\hi<=1000000000000)/\∀ H',Kp [] H H'->Q (.bl (pW x lo hi)) H') :=
 propext ⟨fun⟨_,_,_,e,h⟩=>by cases e;exact h,fun h=>⟨_,_,_,rfl,h⟩⟩
theorem mlog{n:Int}(h0:0<=n)(h1:n<=1000000000000):n.natAbs.log2 < 1920:=by
 have h:n.natAbs < 2 ^ 1920:=Nat.lt_of_le_of_lt (show n.natAbs<=1000000000000 by omega) (Nat.lt_of_lt_of_le (show 1000000000000 < 2 ^ 40 by decide) (Nat.pow_le_pow_right (by decide) (by decide)));by_cases z:n.natAbs=0
 ·rw[z];decide
 ·exact(Nat.log2_lt z).mpr h
theorem mlen{n:Int}(h0:0<=n)(h1:n<=1000000000000):(Str.ofString (toString n)).length<=13:=by
 obtain⟨m,rfl⟩:∃ m:Nat,n=(m:Int):=⟨n.toNat,by omega⟩;show(Str.ofString (toString (m:Int))).cps.size<=13;rw[<- Array.length_toList,vH];exact(hJ (by decide)).mpr (by omega)
theorem wU(l:List Nat):l.length<=(iH l).length+1:=by
 unfold iH;split<;>simp
theorem Hy{x:Str}(h:∀ c∈iH x.cps.toList,48<=c/\c<=57)(hn:iH x.cps.toList≠[])(hl:(iH x.cps.toList).length<=100):∃ n,intText? x=some n:=by
 have hx:x.length=x.cps.toList.length:=by show x.cps.size=_;rw[Array.length_toList]
 have VC:=wU x.cps.toList;cases e:x.cps.toList with
 | nil=>rw[e] at hn;exact absurd rfl hn
 | cons c r =>
  by_cases hc:c=45
  ·subst hc;rw[e] at h hn;exact⟨_,intText_neg e h hn (by omega)⟩
  ·have ef:iH (c::r)=c::r:=by
    unfold iH;split
    ·next z=>simp only[List.cons.injEq] at z;exact absurd z.1 hc
    ·rfl
   rw[e,ef] at h hn;exact⟨_,intText_digits (by rw[e];exact h) (by rw[e];exact hn) (by omega)⟩
theorem Bh(a b:Nat):(decide (([a]:List Nat) < [b]))=decide (a < b):=by
 rw[Bool.eq_iff_iff,decide_eq_true_eq,decide_eq_true_eq];constructor
 ·intro h;cases h with
  | rel h=>exact h
  | cons h=>cases h
 ·exact fun h=>.rel h
theorem own17:mI.all cN=true:=by decide
theorem Rk{x a b c d e:String}:cR (.str (Str.ofString x)) [.str (Str.ofString a),.str (Str.ofString b),.str (Str.ofString c),.str (Str.ofString d),.str (Str.ofString e)]=(decide (a=x)||(decide (b=x)||(decide (c=x)||(decide (d=x)||decide (e=x))))):=by
 simp only[cR,dJ,fN,List.any_cons,List.any_nil,Bool.or_false,HU]
theorem Stm.oc(m:Stm):(∃(w y z:Str) (s:Say),m.ws=y::"="::w::z::sw s/\(m.UL->cU z/\s.sh/\s.depth<=6)/\(∀(H:Hp) (a:Addr) (v:V),H a=some (.tup [.str w,.str y,.str z,v])->bD H v s->bV H (.ref a) m)/\cR (.str w) [.str "order",.str "child",.str "timer",.str "wait",.str "hear"]=true/\((w=("timer":Str))=False)/\((w=("wait":Str))=False)/\((w=("hear":Str))=False))\/(∀ y z s,m≠.order y z s/\m≠.child y z s):=by
 cases m with
 | order y z s=>exact .inl ⟨_,y,z,s,rfl,fun h=>⟨h.2.1,h.2.2.1,h.2.2.2⟩,fun _ _ _ e h=>.order e h,by rw[Rk];decide,by simp only[dE,String.reduceEq],by simp only[dE,String.reduceEq],by simp only[dE,String.reduceEq]⟩
 | child y z s=>exact .inl ⟨_,y,z,s,rfl,fun h=>⟨h.2.1,h.2.2.1,h.2.2.2⟩,fun _ _ _ e h=>.child e h,by rw[Rk];decide,by simp only[dE,String.reduceEq],by simp only[dE,String.reduceEq],by simp only[dE,String.reduceEq]⟩
 | _=>exact .inr fun _ _ _=>⟨nofun,nofun⟩
theorem xE{x a b c:String}:cR (.str (Str.ofString x)) [.str (Str.ofString a),.str (Str.ofString b),.str (Str.ofString c)]=(decide (a=x)||(decide (b=x)||decide (c=x))):=by
 simp only[cR,dJ,fN,List.any_cons,List.any_nil,Bool.or_false,HU]
theorem flat3{a b c:Str}:([.str a,.str b,.str c]:List V).all cN=true:=rfl
theorem flat5{a b c d e:Str}:([.str a,.str b,.str c,.str d,.str e]:List V).all cN=true:=rfl
theorem aM.w{wl:Addr}{H H':Hp}{xs:List V}(k:Kp [wl] H H')(e:H wl=some (.lst xs)):aM H H':=fun a ys h=>k a _ h (by
 simp only[List.mem_cons,List.not_mem_nil,or_false];exact Aq h e (by intro z;cases z))
theorem Say.v3(s:Say):(∃ w:Str,sw s=[w]/\(∀(H:Hp) (a:Addr),H a=some (.tup [.str w])->bD H (.ref a) s)/\cR (.str w) [.str "none",.str "arg",.str "now"]=true)\/(s≠.UK/\s≠.arg/\s≠.now):=by
 cases s with
 | UK=>exact .inl ⟨_,rfl,fun _ _ e=>.UK e,by rw[xE];decide⟩
 | arg=>exact .inl ⟨_,rfl,fun _ _ e=>.arg e,by rw[xE];decide⟩
 | now=>exact .inl ⟨_,rfl,fun _ _ e=>.now e,by rw[xE];decide⟩
 | _=>exact .inr ⟨nofun,nofun,nofun⟩
theorem Say.v2(s:Say):(∃(w:Str) (s1:Say),sw s=w::sw s1/\s.depth=s1.depth+1/\(s.sh->s1.sh)/\(∀(H:Hp) (a:Addr) (v:V),H a=some (.tup [.str w,v])->bD H v s1->bD H (.ref a) s)/\cR (.str w) [.str "none",.str "arg",.str "now"]=false/\cR (.str w) [.str "answer",.str "not"]=true)\/(∀ s1,s≠.Vd s1/\s≠.neg s1):=by
 cases s with
 | Vd s1=>exact .inl ⟨_,s1,rfl,rfl,fun h=>⟨h.1,h.2⟩,fun _ _ _ e h=>.Vd e h,by rw[xE];decide,by rw[G9];decide⟩
 | neg s1=>exact .inl ⟨_,s1,rfl,rfl,fun h=>⟨h.1,h.2⟩,fun _ _ _ e h=>.neg e h,by rw[xE];decide,by rw[G9];decide⟩
 | _=>exact .inr fun _=>⟨nofun,nofun⟩
theorem Lz(g:Sg):cR (.str g.s) [.str "+",.str "-",.str "*",.str "<",.str "="]=true:=by cases g<;>decide +kernel
theorem _root_.L2.Kp.kG{a:Addr}{H:Hp}{o:HO}:Kp [a] H (UH H a o):=Kp.set (by simp)
noncomputable def Stm.UQ:Stm->Bool
 | .whl _ _=>true | .iff _ _ _=>true
 | .set _ _=>false | .order _ _ _=>false | .timer _ _=>false | .child _ _ _=>false | .wait _ _=>false | .hear _ _=>false | .send _ _ _=>false | .drop _=>false | .fin _=>false
noncomputable abbrev l5:List V:=[.str "order",.str "child",.str "timer",.str "wait",.str "hear"]
theorem Ij{s:Say}(h:s.sh):∃ w r,sw s=w::r/\cR (.str w) l5=false:=by
 cases s with
 | num n=>exact⟨_,_,rfl,J1 n⟩
 | name x=>exact⟨_,_,rfl,oX (h.2 x (by simp[Say.nms])) (by decide)⟩
 | _=>exact⟨_,_,rfl,by decide +kernel⟩
theorem cO.RQ{H:Hp}{vs:List V}{ss:List Say}{v:V}{s:Say}(h:cO H vs ss)(a:bD H v s):cO H (vs++[v]) (ss++[s]):=by
 induction h with
 | nil=>exact .cons a .nil
 | cons b _ ih=>exact .cons b ih
theorem cO.ln{H:Hp}{vs:List V}{ss:List Say}(h:cO H vs ss):vs.length=ss.length:=by
 induction h with
 | nil=>rfl
 | cons _ _ ih=>simp[ih]
theorem D9{x:Str}(h:pW x (-1000000000) 1000000000=true):∃ i:Int,intText? x=some i/\x.length<=640:=by
 unfold pW at h;simp only[Bool.and_eq_true] at h;obtain⟨⟨⟨⟨h1,h2⟩,h3⟩,h4⟩,h5⟩:=h;cases e:intText? x with
 | none=>rw[e] at h5;cases h5
 | some i =>
  refine⟨i,rfl,?_⟩;have hL:(Str.ofString (toString (if (1000000000:Int) > - -1000000000 then (1000000000:Int) else - -1000000000))).length=10:=by decide +kernel
  rw[hL,decide_eq_true_eq] at h2;have:=wU x.cps.toList;have lx:x.length=x.cps.toList.length:=by rw[Array.length_toList];rfl
  omega
noncomputable def rC(w:Str):Say:=if w = "none" then .UK else if w = "arg" then .arg else .now
noncomputable def un2(w:Str)(s:Say):Say:=if w = "answer" then .Vd s else .neg s
noncomputable def OW(w:Str):Sg:=if w = "+" then .add else if w = "-" then .sub else if w = "*" then .mul else if w = "<" then .lt else .eq
noncomputable abbrev TV:List V:=[.str "+",.str "-",.str "*",.str "<",.str "="]
noncomputable abbrev l3:List V:=[.str "none",.str "arg",.str "now"]
noncomputable abbrev l2:List V:=[.str "answer",.str "not"]
noncomputable def jO(f:List Str->Option (Say×List Str))(r:List Str):Option (Say×List Str) :=
 match f r with
 | some (a,g::r2)=>(match f r2 with
  | some (b,c::r4)=>if cR (.str g) TV=true/\c = ")" then some (.two (OW g) a b,r4) else none
  | _=>none)
 | _=>none
noncomputable def eF:Nat->List Str->Option (Say×List Str)
 | 0,_=>none
 | _+1,[]=>none
 | d+1,w::r =>
  if cR (.str w) l3=true then some (rC w,r)
  else if cR (.str w) l2=true then (match eF d r with
   | some (s,r')=>some (un2 w s,r')
   | none=>none)
  else if w = "(" then jO (eF d) r
  else if pW w (-1000000000) 1000000000=true then some (.num ((intText? w).getD 0),r)
  else if Fm w=true then some (.name w,r)
  else none
theorem jB(d:Nat)(w:Str)(r:List Str):eF (d+1) (w::r)=if cR (.str w) l3=true then some (rC w,r)
    else if cR (.str w) l2=true then (match eF d r with
      | some (s,r')=>some (un2 w s,r')
      | none=>none)
    else if w = "(" then jO (eF d) r
    else if pW w (-1000000000) 1000000000=true then some (.num ((intText? w).getD 0),r)
    else if Fm w=true then some (.name w,r)
    else none:=rfl
noncomputable def mE:List Str->Option (Str×List Str)
 | []=>none
 | w::r=>if Fm w=true then some (w,r) else none
theorem rN(w:Str)(r:List Str):mE (w::r)=if Fm w=true then some (w,r) else none:=rfl
noncomputable def kM:Nat->List Say->List Str->Option (List Say×List Str)
 | 0,ss,ws=>some (ss,ws)
 | _+1,ss,[]=>some (ss,[])
 | n+1,ss,w::ws=>match eF 6 (w::ws) with
  | some (s,r)=>kM n (ss++[s]) r
  | none=>none
noncomputable def gZ(ws:List Str):Option (List Say×List Str):=match eF 6 ws with
 | some (s,r)=>kM 3 [s] r
 | none=>none
noncomputable def pZ(x:Str):List Str->Option (Stm×List Str)
  | []=>none
  | k::r=>if cR (.str k) l5=false then (match eF 6 (k::r) with
      | some (s,r')=>some (.set x s,r')
      | none=>none)
    else if k = "timer" then (match eF 6 r with
      | some (s,r')=>some (.timer x s,r')
      | none=>none)
    else if k = "wait" then (match gZ r with
      | some (ss,r')=>some (.wait x ss,r')
      | none=>none)
    else if k = "hear" then (match mE r with
      | some (y,r')=>some (.hear x y,r')
      | none=>none)
    else match mE r with
      | some (y,r1)=>(match eF 6 r1 with
        | some (s,r')=>some (if k = "order" then .order x y s else .child x y s,r')
        | none=>none)
      | none=>none
noncomputable def fO:List Str->Option (Stm×List Str)
  | []=>none
  | f::r=>if f = "send" then (match eF 6 r with
      | some (a,r1)=>(match mE r1 with
        | some (k,r2)=>(match eF 6 r2 with
          | some (b,r')=>some (.send a k b,r')
          | none=>none)
        | none=>none)
      | none=>none)
    else if f = "drop"\/f = "end" then (match eF 6 r with
      | some (s,r')=>some (if f = "drop" then .drop s else .fin s,r')
      | none=>none)
    else if Fm f=true then (match r with
      | []=>none
      | e::r1=>if e = "=" then pZ f r1 else none)
    else none
theorem bD.l3{H:Hp}{a:Addr}{w:Str}(h:cR (.str w) l3=true)(e:H a=some (.tup [.str w])):bD H (.ref a) (rC w):=by
 unfold rC;split
 ·next z=>subst z;exact .UK e
 ·split
  ·next z=>subst z;exact .arg e
  ·next h1 h2 =>
   have:w = "now":=by
    simp only[cR,List.any_cons,List.any_nil,dJ,fN,Bool.or_false,Bool.or_eq_true,beq_iff_eq] at h;rcases h with h|h|h
    ·exact absurd h.symm h1
    ·exact absurd h.symm h2
    ·exact h.symm
   subst this;exact .now e
theorem bD.l2{H:Hp}{a:Addr}{w:Str}{v:V}{s:Say}(h:cR (.str w) l2=true)(e:H a=some (.tup [.str w,v]))(hv:bD H v s):bD H (.ref a) (un2 w s):=by
 unfold un2;split
 ·next z=>subst z;exact .Vd e hv
 ·next h1 =>
  have:w = "not":=by
   simp only[cR,List.any_cons,List.any_nil,dJ,fN,Bool.or_false,Bool.or_eq_true,beq_iff_eq] at h;rcases h with h|h
   ·exact absurd h.symm h1
   ·exact h.symm
  subst this;exact .neg e hv
theorem DD{w:Str}(h:cR (.str w) TV=true):(OW w).s=w:=by
 simp only[cR,List.any_cons,List.any_nil,dJ,fN,Bool.or_false,Bool.or_eq_true,beq_iff_eq] at h;rcases h with rfl|rfl|rfl|rfl|rfl<;>decide +kernel
noncomputable def WL(ws:List Str):Prop:=∀ w∈ws,w.length<=8000000
theorem WL.tl{w:Str}{ws:List Str}(h:WL (w::ws)):WL ws:=fun x hx=>h x (List.mem_cons_of_mem _ hx)
theorem WL.hd{w:Str}{ws:List Str}(h:WL (w::ws)):w.length<=8000000:=h w List.mem_cons_self
theorem rQ:∀ {d:Nat} {ws:List Str} {s:Say} {r:List Str},eF d ws=some (s,r)->∃ u,ws=u++r
 | 0,_,_,_,h=>by cases h
 | _+1,[],_,_,h=>by cases h
 | d+1,w::ws,s,r,h=>by
  rw[jB] at h;split at h
  ·cases h;exact⟨[w],rfl⟩
  split at h
  ·split at h
   ·next s1 r1 e =>
    cases h;obtain⟨u,rfl⟩:=rQ e;exact⟨w::u,rfl⟩
   ·cases h
  split at h
  ·unfold jO at h;split at h
   ·next a g r2 e =>
    split at h
    ·next b c r4 e2 =>
     split at h
     ·cases h;obtain⟨u,hu⟩:=rQ e;obtain⟨u2,hu2⟩:=rQ e2;exact⟨w::(u++g::(u2++[c])),by rw[hu,hu2];simp⟩
     ·cases h
    ·cases h
   ·cases h
  split at h
  ·cases h;exact⟨[w],rfl⟩
  split at h
  ·cases h;exact⟨[w],rfl⟩
  ·cases h
theorem WL.say{d:Nat}{ws r:List Str}{s:Say}(h:WL ws)(e:eF d ws=some (s,r)):WL r:=by
 obtain⟨u,rfl⟩:=rQ e;exact fun w hw=>h w (List.mem_append_right _ hw)
noncomputable def LF(C:Addr):Sp:=fun vs H Q E=>on1 vs fun x=>aX x fun a=>bR (H a) fun xs=>SW xs (E (.ref C) none H) fun v r=>Q v (UH H a (.lst r))
theorem RD{C a:Addr}{H:Hp}{Q:VK}{E:XK}:LF C [.ref a] H Q E=bR (H a) fun xs=>SW xs (E (.ref C) none H) fun v r=>Q v (UH H a (.lst r)):=rfl
noncomputable def KJ(C:Addr):Sp:=fun vs H Q E=>∃(a:Addr) (xs:List V),vs=[.ref a]/\H a=some (.lst xs)/\(xs=[]->Q .UK H)/\(xs≠[]->E (.ref C) none H)
noncomputable def Ie(C:Addr)(d:Nat):Sp:=fun vs H Q E=>∃(wl:Addr) (dp:Int) (ws:List Str),vs=[.ref wl,.int dp]/\H wl=some (.lst (ws.map V.str))/\dp+d=7/\WL ws /\
 (∀(s:Say) (r:List Str),eF d ws=some (s,r)->∀(v:V) (H':Hp),bD H' v s->H' wl=some (.lst (r.map V.str))->Kp [wl] H H'->Q v H')/\(eF d ws=none->∀ H',Kp [wl] H H'->E (.ref C) none H')
noncomputable def LD(C:Addr)(d:Nat):Sp:=fun vs H Q E=>∃ d':Nat,d=d'+1/\Ie C d' vs H Q E
noncomputable def RX(C:Addr)(d:Nat):Sp:=fun vs H Q E=>∃(d':Nat) (wl:Addr) (dp:Int) (ws:List Str),d=d'+1/\vs=[.ref wl,.int dp]/\H wl=some (.lst (ws.map V.str))/\dp+d'=7/\WL ws /\
 (∀(s:Say) (r:List Str),jO (eF d') ws=some (s,r)->∀(v:V) (H':Hp),bD H' v s->H' wl=some (.lst (r.map V.str))->Kp [wl] H H'->Q v H')/\(jO (eF d') ws=none->∀ H',Kp [wl] H H'->E (.ref C) none H')
noncomputable def RY(C:Addr):Sp:=fun vs H Q E=>∃(wl:Addr) (ws:List Str),vs=[.ref wl]/\H wl=some (.lst (ws.map V.str))/\WL ws /\
 (∀(x:Str) (r:List Str),mE ws=some (x,r)->∀ H',H' wl=some (.lst (r.map V.str))->Kp [wl] H H'->Q (.str x) H')/\(mE ws=none->∀ H',Kp [wl] H H'->E (.ref C) none H')
theorem WL.name{ws r:List Str}{x:Str}(h:WL ws)(e:mE ws=some (x,r)):WL r:=by
 cases ws with
 | nil=>cases e
 | cons w ws =>
  rw[rN] at e;split at e
  ·cases e;exact h.tl
  ·cases e
theorem Ro{wl:Addr}{H G:Hp}{o:HO}(k:Kp [] (UH H wl o) G):Kp [wl] H G:=Kp.kG.trans (Kp.of k.same)
noncomputable def O8(C:Addr):Sp:=fun vs H Q E=>∃(wl:Addr) (ws:List Str),vs=[.ref wl]/\H wl=some (.lst (ws.map V.str))/\WL ws /\
 (∀(ss:List Say) (r:List Str),gZ ws=some (ss,r)->∀(p:Addr) (us:List V) (H':Hp),H' p=some (.tup us)->cO H' us ss->H' wl=some (.lst (r.map V.str))->Kp [wl] H H'->Q (.ref p) H')/\(gZ ws=none->∀ H',Kp [wl] H H'->E (.ref C) none H')
noncomputable def RW(C:Addr):Sp:=fun vs H Q E=>∃(wl:Addr) (x:Str) (ws:List Str),vs=[.str x,.ref wl]/\H wl=some (.lst (ws.map V.str))/\WL ws /\
 (∀(m:Stm) (r:List Str),pZ x ws=some (m,r)->∀(v:V) (H':Hp),bV H' v m->H' wl=some (.lst (r.map V.str))->Kp [wl] H H'->Q v H')/\(pZ x ws=none->∀ H',Kp [wl] H H'->E (.ref C) none H')
noncomputable def RZ(C:Addr):Sp:=fun vs H Q E=>∃(wl:Addr) (ws:List Str),vs=[.ref wl]/\H wl=some (.lst (ws.map V.str))/\WL ws /\
 (∀(m:Stm) (r:List Str),fO ws=some (m,r)->∀(v:V) (H':Hp),bV H' v m->H' wl=some (.lst (r.map V.str))->Kp [wl] H H'->Q v H')/\(fO ws=none->∀ H',Kp [wl] H H'->E (.ref C) none H')
theorem vN(n:Nat)(ss:List Say)(w:Str)(ws:List Str):kM (n+1) ss (w::ws)=match eF 6 (w::ws) with
    | some (s,r)=>kM n (ss++[s]) r
    | none=>none:=rfl
theorem Ee(n:Nat)(ss:List Say):kM n ss []=some (ss,[]):=by cases n<;>rfl
theorem h9(x k:Str)(r:List Str):pZ x (k::r)=if cR (.str k) l5=false then (match eF 6 (k::r) with
      | some (s,r')=>some (.set x s,r')
      | none=>none)
    else if k = "timer" then (match eF 6 r with
      | some (s,r')=>some (.timer x s,r')
      | none=>none)
    else if k = "wait" then (match gZ r with
      | some (ss,r')=>some (.wait x ss,r')
      | none=>none)
    else if k = "hear" then (match mE r with
      | some (y,r')=>some (.hear x y,r')
      | none=>none)
    else match mE r with
      | some (y,r1)=>(match eF 6 r1 with
        | some (s,r')=>some (if k = "order" then .order x y s else .child x y s,r')
        | none=>none)
      | none=>none:=rfl
theorem kN(f:Str)(r:List Str):fO (f::r)=if f = "send" then (match eF 6 r with
      | some (a,r1)=>(match mE r1 with
        | some (k,r2)=>(match eF 6 r2 with
          | some (b,r')=>some (.send a k b,r')
          | none=>none)
        | none=>none)
      | none=>none)
    else if f = "drop"\/f = "end" then (match eF 6 r with
      | some (s,r')=>some (if f = "drop" then .drop s else .fin s,r')
      | none=>none)
    else if Fm f=true then (match r with
      | []=>none
      | e::r1=>if e = "=" then pZ f r1 else none)
    else none:=rfl
theorem Oh{p q A B:Prop}{d1:Decidable p}{d2:Decidable q}(h:p\/q)(a:A):@ite Prop p d1 A (@ite Prop q d2 A B):=by
 split
 ·exact a
 ·next z=>rw[if_pos (h.resolve_left z)];exact a
theorem Rj:cR (.str "") l5=false:=by decide +kernel
structure gK(C:Addr)(H:Hp)(rd dx ll:Addr)(rows:List Str)(i k:Nat):Prop where
 ins:H rd=some (.ins C dx [("lines",.ref ll),("lines_read",.int i),("statements_read",.int k)])
 lin:H ll=some (.lst (rows.map V.str))
theorem gK.ne{C:Addr}{H:Hp}{rd dx ll:Addr}{rows:List Str}{i k:Nat}(R:gK C H rd dx ll rows i k):ll≠rd:=Aq R.lin R.ins (by intro z;cases z)
theorem gK.kp{C:Addr}{H H':Hp}{rd dx ll:Addr}{rows:List Str}{i k:Nat}(R:gK C H rd dx ll rows i k)(h:Kp [] H H'):gK C H' rd dx ll rows i k:=⟨h.at R.ins,h.at R.lin⟩
theorem gK.set{C:Addr}{H:Hp}{rd dx ll:Addr}{rows:List Str}{i k i' k':Nat}(R:gK C H rd dx ll rows i k):gK C (UH H rd (.ins C dx [("lines",.ref ll),("lines_read",.int i'),("statements_read",.int k')])) rd dx ll rows i' k':=⟨aE,by rw[aY R.ne];exact R.lin⟩
theorem gK.w{C:Addr}{H H':Hp}{rd dx ll wl:Addr}{rows:List Str}{i k:Nat}(R:gK C H rd dx ll rows i k)(h:Kp [wl] H H')(n1:rd≠wl)(n2:ll≠wl):gK C H' rd dx ll rows i k:=⟨h.at1 R.ins n1,h.at1 R.lin n2⟩
theorem aM.rd{C:Addr}{H H':Hp}{rd dx ll:Addr}{rows:List Str}{i k:Nat}(R:gK C H rd dx ll rows i k)(h:Kp [rd] H H'):aM H H':=fun a ys e=>h a _ e (by
 simp only[List.mem_cons,List.not_mem_nil,or_false];exact Aq e R.ins (by intro z;cases z))
noncomputable def ah(rows:List Str)(i:Nat):V:=match rows[i]? with
 | some r=>.str r
 | none=>.UK
theorem nZ{rows:List Str}{i:Nat}{r:Str}{l:List Str}(h:rows.drop i=r::l):ah rows i=.str r:=by
 unfold ah;have:rows[i]?=some r:=by
  have e:=congrArg (fun l=>l[0]?) h;simpa using e
 rw[this]
theorem vC{rows:List Str}{i:Nat}(h:rows.drop i=[]):ah rows i=.UK:=by
 unfold ah;rw[List.getElem?_eq_none (by simpa using h)]
noncomputable def KC(C:Addr):Sp:=fun vs H Q _=>∃(rd dx ll:Addr) (rows:List Str) (i k:Nat),vs=[.ref rd]/\gK C H rd dx ll rows i k/\Q (ah rows i) H
noncomputable def Ib(C:Addr):Sp:=fun vs H Q _=>∃ x dx ll:Addr,vs=[.ref x,.ref ll]/\H x=some (.ins C dx [])/\∀ H',H' x=some (.ins C dx [("lines",.ref ll),("lines_read",.int 0),("statements_read",.int 0)])->Kp [x] H H'->Q .UK H'
noncomputable def CO:List Str->Prop
 | []=>True
 | r::_=>r = "else"\/r = "done"
noncomputable def EX(o:List Stm):List Str:=if o.isEmpty=true then [] else ("else":Str)::bG o
theorem wK{rows r:List Str}{i:Nat}{x:Str}(h:rows.drop i=x::r):rows.drop (i+1)=r:=by
 rw[<- List.drop_drop,h];rfl
theorem JY{r:Str}(h:r = "else"\/r = "done"):cR (.str r) [.UK,.str "else",.str "done"]=true:=by rcases h with rfl|rfl<;>decide +kernel
theorem Ha:cR .UK [.UK,.str "else",.str "done"]=true:=by decide
theorem Q8{a b:Str}:([.UK,.str a,.str b]:List V).all cN=true:=rfl
theorem IW(rows:List Str)(i:Nat):cN (ah rows i)=true:=by unfold ah;split<;>rfl
theorem Iy(b:List Stm)(h:¬ kH b = ""):Txt.endswith (kH b) "\n"=true:=by
 unfold kH at h ⊢;have Yi:bG b≠[]:=fun z=>h (by rw[z];rfl);obtain⟨rs,r,hr⟩:∃ rs r,bG b=rs++[r]:=⟨(bG b).dropLast,(bG b).getLast Yi,(List.dropLast_concat_getLast Yi).symm⟩;rw[hr];have e:(Txt.join "" ((rs++[r]).map fun r:Str=>r++"\n")).cps.toList=((rs.map fun r:Str=>r++"\n").map fun p:Str=>p.cps.toList).flatten++r.cps.toList++[10]:=by
  rw[tE];simp only[List.map_append,List.map_cons,List.map_nil,List.flatten_append,List.flatten_cons,List.flatten_nil,List.append_nil,iN];rw[show("\n":Str).cps.toList=[10] by decide +kernel];simp
 generalize Txt.join "" ((rs++[r]).map fun r:Str=>r++"\n")=x at *;have hl:x.length=(((rs.map fun r:Str=>r++"\n").map fun p:Str=>p.cps.toList).flatten++r.cps.toList).length+1:=by
  show x.cps.size=_;rw[<- Array.length_toList,e,List.length_append];rfl
 have h1:=(StrLaws.subAt_one x 10 (x.length - 1)).mpr (by
  rw[e,hl];simp)
 unfold Txt.endswith;rw[eV.1];have l1:(⟨#[10]⟩:Str).length=1:=rfl;rw[l1] at h1 ⊢;rw[h1.2,Bool.and_true,decide_eq_true_eq];omega
theorem AG(m:Stm):∃ r,m.rows=m.hd::r:=by cases m<;>exact⟨_,rfl⟩
noncomputable def rM:List Str->Option (List Str)
 | []=>none
 | l::L=>if l = "done" then some L else none
noncomputable abbrev qM:=Nat->List Str->Option (List Stm×Nat×List Str)
noncomputable abbrev lB:List V:=[.str "if",.str "while"]
theorem Br(l:Str)(L:List Str):rM (l::L)=if l = "done" then some L else none:=rfl
noncomputable def iP(UQ:qM)(k:Nat):List Str->Option (List Stm×Nat×List Str)
  | []=>some ([],k,[])
  | l::L=>if l = "else" then (match UQ k L with
      | some (m::o,k',L')=>some (m::o,k',L')
      | _=>none)
    else some ([],k,l::L)
theorem oK(UQ:qM)(k:Nat)(l:Str)(L:List Str):iP UQ k (l::L)=if l = "else" then (match UQ k L with
      | some (m::o,k',L')=>some (m::o,k',L')
      | _=>none)
    else some ([],k,l::L):=rfl
noncomputable def xZ(UQ:qM)(k:Nat)(ws L:List Str):Option (Stm×Nat×List Str):=match ws with
  | []=>none
  | kind::r=>(match eF 6 r with
    | some (s,[])=>(match UQ k L with
      | some (b,k1,L1)=>if kind = "while" then (match rM L1 with
          | some L2=>some (.whl s b,k1,L2)
          | none=>none)
        else (match iP UQ k1 L1 with
          | some (o,k2,L2)=>(match rM L2 with
            | some L3=>some (.iff s b o,k2,L3)
            | none=>none)
          | none=>none)
      | none=>none)
    | _=>none)
theorem vP(UQ:qM)(k:Nat)(kind:Str)(r L:List Str):xZ UQ k (kind::r) L=(match eF 6 r with
    | some (s,[])=>(match UQ k L with
      | some (b,k1,L1)=>if kind = "while" then (match rM L1 with
          | some L2=>some (.whl s b,k1,L2)
          | none=>none)
        else (match iP UQ k1 L1 with
          | some (o,k2,L2)=>(match rM L2 with
            | some L3=>some (.iff s b o,k2,L3)
            | none=>none)
          | none=>none)
      | none=>none)
    | _=>none):=rfl
noncomputable def jC(UQ:qM)(k:Nat)(l:Str)(L:List Str):Option (Stm×Nat×List Str) :=
 if 60 < k+1 then none
 else if cR (.str ((Txt.split l " ").headD "")) lB=true then xZ UQ (k+1) (Txt.split l " ") L
 else match fO (Txt.split l " ") with
  | some (m,[])=>some (m,k+1,L)
  | _=>none
noncomputable def mD(st:Nat->Str->List Str->Option (Stm×Nat×List Str)):Nat->List Stm->Nat->List Str->Option (List Stm×Nat×List Str)
 | 0,_,_,_=>none
 | _+1,acc,k,[]=>some (acc,k,[])
 | n+1,acc,k,l::L=>if l = "else"\/l = "done" then some (acc,k,l::L) else match st k l L with
  | some (m,k',L')=>mD st n (acc++[m]) k' L'
  | none=>none
theorem vM(st:Nat->Str->List Str->Option (Stm×Nat×List Str))(n:Nat)(acc:List Stm)(k:Nat)(l:Str)(L:List Str):mD st (n+1) acc k (l::L)=if l = "else"\/l = "done" then some (acc,k,l::L) else match st k l L with
    | some (m,k',L')=>mD st n (acc++[m]) k' L'
    | none=>none:=rfl
noncomputable def fA:Nat->qM
 | 0,_,_=>none
 | D+1,k,L=>mD (jC (fA D)) (L.length+1) [] k L
noncomputable def rP(t:Str):Option (List Stm):=if t≠""/\Txt.endswith t "\n"=false then none else match fA 6 0 (Txt.split t "\n").dropLast with
 | some (b,_,[])=>some b
 | _=>none
theorem EB:∀(cs ds:List Nat) (a b:Nat),cs.length=ds.length->(∀ c∈cs,48<=c/\c<=57)->(∀ c∈ds,48<=c/\c<=57)->List.foldl (fun acc c=>acc * 10+(c - 48)) a cs=List.foldl (fun acc c=>acc * 10+(c - 48)) b ds->a=b/\cs=ds
 | [],[],a,b,_,_,_,h=>⟨h,rfl⟩
 | [],_::_,_,_,l,_,_,_=>by cases l
 | _::_,[],_,_,l,_,_,_=>by cases l
 | c::cs,d::ds,a,b,l,h1,h2,h=>by
  obtain⟨e1,rfl⟩:=EB cs ds _ _ (Nat.succ.inj l) (fun z hz=>h1 z (List.mem_cons_of_mem _ hz)) (fun z hz=>h2 z (List.mem_cons_of_mem _ hz)) h;have x:=h1 c (by simp);have y:=h2 d (by simp);replace e1:a * 10+(c - 48)=b * 10+(d - 48):=e1;refine⟨by omega,?_⟩;rw[show c=d by omega]
theorem ID:∀(cs:List Nat) (a:Nat),a * 10 ^ cs.length<=List.foldl (fun acc c=>acc * 10+(c - 48)) a cs
 | [],a=>by simp
 | c::cs,a=>by
  have h2:=ID cs (a * 10+(c - 48));rw[List.foldl_cons];refine Nat.le_trans ?_ h2;rw[List.length_cons,Nat.pow_succ,Nat.mul_comm _ 10,<- Nat.mul_assoc];exact Nat.mul_le_mul_right _ (by omega)
theorem DY{cs:List Nat}(h:∀ c∈cs,48<=c/\c<=57)(ne:cs≠[])(h0:cs[0]?≠some 48):UO (NumText.digitsVal cs)=cs:=by
 have hl:(UO (NumText.digitsVal cs)).length=cs.length:=by
  have up:NumText.digitsVal cs < 10 ^ cs.length:=by
   have:=DL cs 0 h;simpa[NumText.digitsVal] using this
  have lo:10 ^ (cs.length - 1)<=NumText.digitsVal cs:=by
   cases cs with
   | nil=>exact absurd rfl ne
   | cons c r =>
    have hc:=h c (by simp);have hc2:c≠48:=fun z=>h0 (by rw[z];rfl);have:=ID r (0 * 10+(c - 48));rw[List.length_cons,Nat.add_sub_cancel];refine Nat.le_trans ?_ this;exact Nat.le_mul_of_pos_left _ (by omega)
  have l1:=(hJ (n:=NumText.digitsVal cs) (k:=cs.length) (List.length_pos_iff.mpr ne)).mpr up;by_cases z:cs.length=1
  ·have:=qW (NumText.digitsVal cs);have:=List.length_pos_iff.mpr this;omega
  ·have hp:=List.length_pos_iff.mpr ne;have:¬ (UO (NumText.digitsVal cs)).length<=cs.length - 1:=fun z=>by
    have:=(hJ (n:=NumText.digitsVal cs) (k:=cs.length - 1) (by omega)).mp z;omega
   omega
 have hv:=qX (NumText.digitsVal cs);exact(EB _ _ 0 0 hl (kJ _) h hv).2
theorem Hz{x:Str}(h:pW x (-1000000000) 1000000000=true):∃ i:Int,intText? x=some i/\x=Str.ofString (toString i)/\-1000000000<=i/\i<=1000000000:=by
 obtain⟨i,hi,lx⟩:=D9 h;unfold pW at h;rw[hi] at h;simp only[Bool.and_eq_true,decide_eq_true_eq,Bool.not_eq_true',Bool.and_eq_false_iff,decide_eq_false_iff_not,Bool.not_eq_false'] at h;obtain⟨⟨⟨⟨h1,h2⟩,h3⟩,h4⟩,h5⟩:=h;refine⟨i,hi,?_,h5.1,h5.2⟩;have ad:∀ c∈iH x.cps.toList,48<=c/\c<=57:=fun c hc=>by have:=List.all_eq_true.mp h3 c hc;simpa using this
 have ne:iH x.cps.toList≠[]:=fun z=>by rw[z] at h1;simp at h1
 by_cases h0:x = "0"
 ·subst h0;have:intText? ("0":Str)=some 0:=by
   have:=s8 0 (by decide);exact this
  rw[this] at hi;cases hi;rfl
 ·have hz:(iH x.cps.toList)[0]?≠some 48:=by
   rcases h4 with h|h
   ·exact h
   ·exact absurd h h0
  apply jR;cases e:x.cps.toList with
  | nil=>rw[e] at ne;exact absurd rfl ne
  | cons c r =>
   by_cases hc:c=45
   ·subst hc;rw[e] at ad ne hz;have hv:=intText_neg e ad ne (by omega);rw[hv] at hi;cases hi;have hd:=DY (cs:=r) ad ne hz;obtain⟨n,hn⟩:∃ n,NumText.digitsVal r=n+1:=by
     cases hq:NumText.digitsVal r with
     | succ n=>exact⟨n,rfl⟩
     | zero =>
      rw[hq] at hd;exfalso;apply hz;show r[0]?=some 48;rw[<- hd];decide +kernel
    rw[hn] at hd ⊢;rw[show(-((n+1:Nat):Int))=Int.negSucc n from rfl,Bb,hd]
   ·have ef:iH (c::r)=c::r:=by
     unfold iH;split
     ·next z=>simp only[List.cons.injEq] at z;exact absurd z.1 hc
     ·rfl
    rw[e,ef] at ad ne hz;have hv:=intText_digits (x:=x) (by rw[e];exact ad) (by rw[e];exact ne) (by omega);rw[hv,e] at hi;cases hi;rw[vH,DY ad ne hz]
theorem eI:∀ {d:Nat} {ws:List Str} {s:Say} {r:List Str},eF d ws=some (s,r)->ws=sw s++r/\s.sh/\s.depth<=d
 | 0,_,_,_,h=>by cases h
 | _+1,[],_,_,h=>by cases h
 | d+1,w::ws,s,r,h=>by
  rw[jB] at h;split at h
  ·next h3 =>
   cases h;simp only[l3,cR,List.any_cons,List.any_nil,dJ,fN,Bool.or_false,Bool.or_eq_true,beq_iff_eq] at h3;rcases h3 with rfl|rfl|rfl
   ·exact⟨rfl,⟨trivial,fun x hx=>by cases hx⟩,Nat.succ_le_succ (Nat.zero_le _)⟩
   ·exact⟨rfl,⟨trivial,fun x hx=>by cases hx⟩,Nat.succ_le_succ (Nat.zero_le _)⟩
   ·exact⟨rfl,⟨trivial,fun x hx=>by cases hx⟩,Nat.succ_le_succ (Nat.zero_le _)⟩
  split at h
  ·next h2 =>
   split at h
   ·next s1 r1 e =>
    cases h;obtain⟨e1,e2,e3⟩:=eI e;simp only[l2,cR,List.any_cons,List.any_nil,dJ,fN,Bool.or_false,Bool.or_eq_true,beq_iff_eq] at h2;rcases h2 with rfl|rfl
    ·exact⟨by rw[e1];rfl,⟨e2.1,e2.2⟩,Nat.succ_le_succ e3⟩
    ·exact⟨by rw[e1];rfl,⟨e2.1,e2.2⟩,Nat.succ_le_succ e3⟩
   ·cases h
  split at h
  ·next hp =>
   unfold jO at h;split at h
   ·next a g r2 e =>
    split at h
    ·next b c r4 e2 =>
     split at h
     ·next hc =>
      cases h;obtain⟨a1,a2,a3⟩:=eI e;obtain⟨b1,b2,b3⟩:=eI e2;refine⟨?_,⟨⟨a2.1,b2.1⟩,fun x hx=>?_⟩,Nat.succ_le_succ (Nat.max_le.mpr ⟨a3,b3⟩)⟩
      ·rw[a1,b1,hp,hc.2,sw,DD hc.1];simp
      ·rcases List.mem_append.mp hx with hx|hx
       ·exact a2.2 x hx
       ·exact b2.2 x hx
     ·cases h
    ·cases h
   ·cases h
  split at h
  ·next hn =>
   cases h;obtain⟨i,hi,hx,h1,h2⟩:=Hz hn;rw[hi];exact⟨by rw[hx];rfl,⟨⟨h1,h2⟩,fun x hx=>by cases hx⟩,Nat.succ_le_succ (Nat.zero_le _)⟩
  split at h
  ·next hb =>
   cases h;exact⟨rfl,⟨trivial,fun x hx=>by rw[show x=w by simpa[Say.nms] using hx];exact tJ.mpr hb⟩,Nat.succ_le_succ (Nat.zero_le _)⟩
  ·cases h
theorem tR{ws r:List Str}{x:Str}(h:mE ws=some (x,r)):ws=x::r/\cU x:=by
 cases ws with
 | nil=>cases h
 | cons w ws =>
  rw[rN] at h;split at h
  ·next hb=>cases h;exact⟨rfl,tJ.mpr hb⟩
  ·cases h
theorem AA:∀ {n:Nat} {ss ss':List Say} {ws r:List Str},kM n ss ws=some (ss',r)->∃ tl,ss'=ss++tl/\ws=(tl.map sw).flatten++r/\(∀ s∈tl,s.s6)/\tl.length<=n
 | 0,_,_,_,_,h=>by cases h;exact⟨[],by simp,rfl,by simp,Nat.le_refl _⟩
 | _+1,_,_,[],_,h=>by cases h;exact⟨[],by simp,rfl,by simp,Nat.zero_le _⟩
 | n+1,ss,ss',w::ws,r,h=>by
  rw[vN] at h;split at h
  ·next s r1 e =>
   obtain⟨a1,a2,a3⟩:=eI e;obtain⟨tl,rfl,b2,b3,b4⟩:=AA h;refine⟨s::tl,by simp,by rw[a1,b2];simp,fun z hz=>?_,Nat.succ_le_succ b4⟩;rcases List.mem_cons.mp hz with rfl|hz
   ·exact⟨a2,a3⟩
   ·exact b3 z hz
  ·cases h
theorem Dt{x:Str}{ws r:List Str}{m:Stm}(hx:cU x)(h:pZ x ws=some (m,r)):x::"="::ws=m.ws++r/\m.UL/\m.UQ=false:=by
 cases ws with
 | nil=>cases h
 | cons k ws =>
  rw[h9] at h;split at h
  ·split at h
   ·next s r' e =>
    cases h;obtain⟨a1,a2,a3⟩:=eI e;exact⟨by rw[a1];rfl,⟨hx,a2,a3⟩,rfl⟩
   ·cases h
  next h5 =>
  split at h
  ·next hk =>
   split at h
   ·next s r' e =>
    cases h;obtain⟨a1,a2,a3⟩:=eI e;exact⟨by rw[a1,hk];rfl,⟨hx,a2,a3⟩,rfl⟩
   ·cases h
  next k1 =>
  split at h
  ·next hk =>
   split at h
   ·next ss r' e =>
    cases h;unfold gZ at e;split at e
    ·next s r1 e1 =>
     obtain⟨a1,a2,a3⟩:=eI e1;obtain⟨tl,rfl,b2,b3,b4⟩:=AA e;refine⟨by rw[a1,b2,hk];simp[Stm.ws],⟨hx,⟨by simp,by simp;omega⟩,fun z hz=>?_⟩,rfl⟩;rcases List.mem_cons.mp (show z∈s::tl from hz) with rfl|hz
     ·exact⟨a2,a3⟩
     ·exact b3 z hz
    ·cases e
   ·cases h
  next k2 =>
  split at h
  ·next hk =>
   split at h
   ·next y r' e =>
    cases h;obtain⟨rfl,hy⟩:=tR e;exact⟨by rw[hk];rfl,⟨hx,hy⟩,rfl⟩
   ·cases h
  next k3 =>
  split at h
  ·next y r1 e =>
   obtain⟨rfl,hy⟩:=tR e;split at h
   ·next s r' e2 =>
    cases h;obtain⟨a1,a2,a3⟩:=eI e2;split
    ·next hk=>exact⟨by rw[a1,hk];rfl,⟨hx,hy,a2,a3⟩,rfl⟩
    ·next k4 =>
     have k5:k = "child":=by
      rw[Bool.not_eq_false] at h5;simp only[l5,cR,List.any_cons,List.any_nil,dJ,fN,Bool.or_false,Bool.or_eq_true,beq_iff_eq] at h5;rcases h5 with h|h|h|h|h
      ·exact absurd h.symm k4
      ·exact h.symm
      ·exact absurd h.symm k1
      ·exact absurd h.symm k2
      ·exact absurd h.symm k3
     exact⟨by rw[a1,k5];rfl,⟨hx,hy,a2,a3⟩,rfl⟩
   ·cases h
  ·cases h
theorem Dv{ws r:List Str}{m:Stm}(h:fO ws=some (m,r)):ws=m.ws++r/\m.UL/\m.UQ=false:=by
 cases ws with
 | nil=>cases h
 | cons f ws =>
  rw[kN] at h;split at h
  ·next hf =>
   split at h
   ·next a r1 e =>
    split at h
    ·next k r2 e2 =>
     split at h
     ·next b r' e3 =>
      cases h;obtain⟨a1,a2,a3⟩:=eI e;obtain⟨rfl,hk⟩:=tR e2;obtain⟨b1,b2,b3⟩:=eI e3;exact⟨by rw[a1,b1,hf];simp[Stm.ws],⟨⟨a2,a3⟩,hk,b2,b3⟩,rfl⟩
     ·cases h
    ·cases h
   ·cases h
  split at h
  ·next hf =>
   split at h
   ·next s r' e =>
    cases h;obtain⟨a1,a2,a3⟩:=eI e;split
    ·next z=>exact⟨by rw[a1,z];rfl,⟨a2,a3⟩,rfl⟩
    ·next z=>exact⟨by rw[a1,hf.resolve_left z];rfl,⟨a2,a3⟩,rfl⟩
   ·cases h
  split at h
  ·next hb =>
   split at h
   ·cases h
   ·next e r1 =>
    split at h
    ·next he =>
     have:=Dt (tJ.mpr hb) h;exact⟨by rw[he];exact this.1,this.2⟩
    ·cases h
  ·cases h
theorem rB(y:Str)(ws:List Str):Txt.join y ws=Str.join y ws:=StrLaws.glued_eq_join y ws
theorem Ce(l:Str):jb (Txt.split l " ")=l:=by
 unfold jb;rw[rB];exact StrLaws.join_split l " "
theorem CL(l:Str):∃ w r,Txt.split l " "=w::r:=by
 cases h:Txt.split l " " with
 | nil=>exact absurd h (jF l " ")
 | cons w r=>exact⟨w,r,rfl⟩
theorem Aw{L L':List Str}(h:rM L=some L'):L=("done":Str)::L':=by
 cases L with
 | nil=>cases h
 | cons l L =>
  rw[Br] at h;split at h
  ·next e=>cases h;rw[e]
  ·cases h
noncomputable def FK(D:Nat)(UQ:qM):Prop:=∀ {k:Nat} {L:List Str} {b:List Stm} {k':Nat} {L':List Str},UQ k L=some (b,k',L')->L=bG b++L'/\qL b/\mT b < D/\k'=k+gJ b/\(k<=60->k'<=60)
theorem CC{D:Nat}{UQ:qM}(S:FK D UQ)(hD:0 < D){k k':Nat}{L L':List Str}{o:List Stm}(h:iP UQ k L=some (o,k',L')):L=EX o++L'/\qL o/\mT o < D/\k'=k+gJ o/\(k<=60->k'<=60):=by
 cases L with
 | nil=>cases h;exact⟨rfl,trivial,hD,rfl,id⟩
 | cons l L =>
  rw[oK] at h;split at h
  ·next e =>
   split at h
   ·next m o k1 L1 e1 =>
    cases h;obtain⟨a,b⟩:=S e1;exact⟨by rw[a,e];rfl,b⟩
   ·cases h
  ·cases h;exact⟨rfl,trivial,hD,rfl,id⟩
theorem Uj{w:Str}(h:cR (.str w) lB=true):w = "if"\/w = "while":=by
 simp only[lB,cR,List.any_cons,List.any_nil,dJ,fN,Bool.or_false,Bool.or_eq_true,beq_iff_eq] at h;rcases h with h|h
 ·exact .inl h.symm
 ·exact .inr h.symm
theorem Ft{D:Nat}{UQ:qM}(S:FK D UQ){k k':Nat}{l w:Str}{r L L':List Str}{m:Stm}(hl:Txt.split l " "=w::r)(hw:cR (.str w) lB=true)(h:xZ UQ k (w::r) L=some (m,k',L')):l::L=m.rows++L'/\m.wf/\m.dp<=D/\k'+1=k+m.sz/\(k<=60->k'<=60):=by
 rw[vP] at h;split at h
 ·next s e =>
  obtain⟨a1,a2,a3⟩:=eI e;rw[List.append_nil] at a1;have hj:=Ce l;rw[hl,a1] at hj;split at h
  ·next b k1 L1 e1 =>
   obtain⟨b1,b2,b3,b4,b5⟩:=S e1;split at h
   ·next hk =>
    split at h
    ·next L2 e2 =>
     cases h;rw[Aw e2] at b1;refine⟨?_,⟨⟨a2,a3⟩,b2⟩,by show mT b+1<=D;omega,by show k'+1=k+(gJ b+1);omega,b5⟩;have:=Stm.Al (.whl s b);rw[show(Stm.whl s b).ws=w::sw s by rw[hk];rfl,hj] at this;rw[b1,<- this];simp[Stm.rows,Stm.hd]
    ·cases h
   ·next hk =>
    have hi:=(Uj hw).resolve_right hk;split at h
    ·next o k2 L2 e2 =>
     obtain⟨c1,c2,c3,c4,c5⟩:=CC S (by omega) e2;split at h
     ·next L3 e3 =>
      cases h;rw[Aw e3] at c1;refine⟨?_,⟨⟨a2,a3⟩,b2,c2⟩,by show max (mT b) (mT o)+1<=D;omega,by show k'+1=k+(gJ b+gJ o+1);omega,fun z=>c5 (b5 z)⟩;have:=Stm.Al (.iff s b o);rw[show(Stm.iff s b o).ws=w::sw s by rw[hi];rfl,hj] at this;rw[b1,c1,<- this];simp[Stm.rows,Stm.hd,EX]
     ·cases h
    ·cases h
  ·cases h
 ·cases h
theorem AD{D:Nat}{UQ:qM}(S:FK D UQ){k k':Nat}{l:Str}{L L':List Str}{m:Stm}(h:jC UQ k l L=some (m,k',L')):l::L=m.rows++L'/\m.wf/\m.dp<=D/\k'=k+m.sz/\k'<=60:=by
 unfold jC at h;obtain⟨w,r,hl⟩:=CL l;rw[hl] at h;split at h
 ·cases h
 next hk =>
 split at h
 ·next hw =>
  obtain⟨a1,a2,a3,a4,a5⟩:=Ft S hl hw h;exact⟨a1,a2,a3,by omega,a5 (by omega)⟩
 ·split at h
  ·next m' e =>
   cases h;obtain⟨a1,a2,a3⟩:=Dv e;rw[List.append_nil] at a1;have hj:=Ce l;rw[hl,a1,<- Stm.Al] at hj;have:m.rows=[m.hd]/\m.wf/\m.dp=0/\m.sz=1:=by cases m<;>first|exact⟨rfl,a2,rfl,rfl⟩|cases a3
   obtain⟨b1,b2,b3,b4⟩:=this;exact⟨by rw[b1,hj];rfl,b2,by omega,by omega,by omega⟩
  ·cases h
theorem Ay{D:Nat}{UQ:qM}(S:FK D UQ):∀ {n:Nat} {acc:List Stm} {k:Nat} {L:List Str} {b:List Stm} {k':Nat} {L':List Str},mD (jC UQ) n acc k L=some (b,k',L')->∃ b2,b=acc++b2/\L=bG b2++L'/\qL b2/\mT b2 < D+1/\k'=k+gJ b2/\(k<=60->k'<=60)
 | 0,_,_,_,_,_,_,h=>by cases h
 | _+1,_,_,[],_,_,_,h=>by cases h;exact⟨[],by simp,rfl,trivial,Nat.succ_pos _,rfl,id⟩
 | n+1,acc,k,l::L,b,k',L',h=>by
  rw[vM] at h;split at h
  ·cases h;exact⟨[],by simp,rfl,trivial,Nat.succ_pos _,rfl,id⟩
  ·split at h
   ·next m k1 L1 e =>
    obtain⟨a1,a2,a3,a4,a5⟩:=AD S e;obtain⟨b2,rfl,c1,c2,c3,c4,c5⟩:=Ay S h;exact⟨m::b2,by simp,by rw[a1,c1];simp[bG],⟨a2,c2⟩,by simp only[mT];omega,by simp only[gJ];omega,fun _=>c5 a5⟩
   ·cases h
theorem lK:∀ D,FK D (fA D)
 | 0=>fun h=>by cases h
 | D+1=>fun h=>by
  obtain⟨b2,rfl,c⟩:=Ay (lK D) h;exact c
theorem EY{t:Str}(h:t = ""\/Txt.endswith t "\n"=true):Txt.split t "\n"=(Txt.split t "\n").dropLast++[("":Str)]:=by
 have ne:=jF t "\n";have e:=List.dropLast_concat_getLast ne;have fr:10∉((Txt.split t "\n").getLast ne).cps.toList:=by
  have:=StrLaws.split_free t 10 _ (by rw[<- eV.1];exact List.getLast_mem ne);exact this
 have j:=StrLaws.join_split t "\n";rw[<- e,<- rB,<- pU] at j;generalize (Txt.split t "\n").getLast ne=z at *;generalize Txt.join "" ((Txt.split t "\n").dropLast.map fun r:Str=>r++"\n")=y at *;have hz:z = "":=by
  have jl:y.cps.toList++z.cps.toList=t.cps.toList:=by rw[<- iN,j]
  have e0:("":Str).cps.toList=[]:=by decide +kernel
  apply jR;rw[e0];rcases h with rfl|h
  ·rw[e0] at jl;exact(List.append_eq_nil_iff.mp jl).2
  ·unfold Txt.endswith at h;rw[eV.1,Bool.and_eq_true,decide_eq_true_eq] at h;have h2:=(StrLaws.subAt_one t 10 (t.length - 1)).mp ⟨by have:=h.1;have l1:(⟨#[10]⟩:Str).length=1:=rfl;omega,h.2⟩;cases hc:z.cps.toList with
   | nil=>rfl
   | cons c r =>
    exfalso;apply fr;have hl:t.length=t.cps.toList.length:=by rw[Array.length_toList];rfl
    rw[hl,<- jl,List.getElem?_append_right (by rw[List.length_append,hc];simp)] at h2;exact List.mem_of_getElem? h2
 rw[hz] at e;exact e.symm
theorem Fq{t:Str}{b:List Stm}(h:rP t=some b):kH b=t/\qL b/\mT b<=5/\gJ b<=60:=by
 unfold rP at h;split at h
 ·cases h
 next hn =>
 split at h
 ·next b' k e =>
  cases h;obtain⟨a1,a2,a3,a4,a5⟩:=lK 6 e;refine⟨?_,a2,by omega,by have:=a5 (by omega);omega⟩;rw[List.append_nil] at a1;have es:=EY (t:=t) (by
   by_cases z:t = ""
   ·exact .inl z
   ·refine .inr ?_;cases e:Txt.endswith t "\n" with
    | true=>rfl
    | false=>exact absurd ⟨z,e⟩ hn)
  have:=StrLaws.join_split t "\n";rw[es,a1] at this;rw[<- rB,<- pU] at this;rw[<- this];apply jR;rw[iN,show("":Str).cps.toList=[] by decide +kernel,List.append_nil];rfl
 ·cases h
theorem lf3:cR (.str "none") l3=true/\cR (.str "arg") l3=true/\cR (.str "now") l3=true/\cR (.str "answer") l3=false/\cR (.str "not") l3=false/\cR (.str "(") l3=false/\cR (.str "answer") l2=true/\cR (.str "not") l2=true/\cR (.str "(") l2=false:=by decide +kernel
theorem OX(g:Sg):OW g.s=g:=by
 have n:∀ h:Sg,h.s=g.s->h=g:=fun h z=>by
  revert z
  cases h<;>cases g<;>first|exact fun _=>rfl|exact fun z=>absurd z (by decide +kernel)
 exact n _ (DD (Lz g))
theorem vO(s:Say):∀ {d:Nat} (_:s.sh) (_:s.depth<=d) (r:List Str),eF d (sw s++r)=some (s,r):=by
 obtain⟨z1,z2,z3,z4,z5,z6,z7,z8,z9⟩:=lf3
 induction s with
 | num n =>
  intro d hs hd r;obtain⟨d,rfl⟩:∃ e,d=e+1:=⟨d - 1,by simp only[Say.depth] at hd;omega⟩;show eF (d+1) (Str.ofString (toString n)::r)=_;rw[jB,if_neg (by rw[J0 n];decide),if_neg (by rw[JZ n];decide),if_neg (fun z=>by rw[iZ (n:=n) (x:="(") 40 (by decide +kernel) (by decide)] at z;exact z),if_pos (Hb hs.1.1 hs.1.2),s8 n (Nat.lt_of_le_of_lt (show n.natAbs<=1000000000 by have:=hs.1.1;have:=hs.1.2;omega) (by decide))];rfl
 | UK =>
  intro d hs hd r;obtain⟨d,rfl⟩:∃ e,d=e+1:=⟨d - 1,by simp only[Say.depth] at hd;omega⟩;show eF (d+1) ("none"::r)=_;rw[jB,if_pos z1,rC,if_pos rfl]
 | arg =>
  intro d hs hd r;obtain⟨d,rfl⟩:∃ e,d=e+1:=⟨d - 1,by simp only[Say.depth] at hd;omega⟩;show eF (d+1) ("arg"::r)=_;rw[jB,if_pos z2,rC,if_neg (by decide +kernel),if_pos rfl]
 | now =>
  intro d hs hd r;obtain⟨d,rfl⟩:∃ e,d=e+1:=⟨d - 1,by simp only[Say.depth] at hd;omega⟩;show eF (d+1) ("now"::r)=_;rw[jB,if_pos z3,rC,if_neg (by decide +kernel),if_neg (by decide +kernel)]
 | name x =>
  intro d hs hd r;obtain⟨d,rfl⟩:∃ e,d=e+1:=⟨d - 1,by simp only[Say.depth] at hd;omega⟩;have hx:=hs.2 x (by simp[Say.nms]);show eF (d+1) (x::r)=_;rw[jB,if_neg (by rw[oX hx (by decide)];decide),if_neg (by rw[oX hx (by decide)];decide),if_neg (fun z=>by rw[OA hx] at z;exact z),if_neg (by rw[Oz hx];decide),if_pos (tJ.mp hx)]
 | Vd s ih =>
  intro d hs hd r;obtain⟨d,rfl⟩:∃ e,d=e+1:=⟨d - 1,by simp only[Say.depth] at hd;omega⟩;show eF (d+1) ("answer"::(sw s++r))=_;rw[jB,if_neg (by rw[z4];decide),if_pos z7,ih ⟨hs.1,hs.2⟩ (by simp only[Say.depth] at hd;omega) r];simp only[];rw[un2,if_pos rfl]
 | neg s ih =>
  intro d hs hd r;obtain⟨d,rfl⟩:∃ e,d=e+1:=⟨d - 1,by simp only[Say.depth] at hd;omega⟩;show eF (d+1) ("not"::(sw s++r))=_;rw[jB,if_neg (by rw[z5];decide),if_pos z8,ih ⟨hs.1,hs.2⟩ (by simp only[Say.depth] at hd;omega) r];simp only[];rw[un2,if_neg (by decide +kernel)]
 | two g a b i1 i2 =>
  intro d hs hd r;obtain⟨d,rfl⟩:∃ e,d=e+1:=⟨d - 1,by simp only[Say.depth] at hd;omega⟩;have e:sw (.two g a b)++r=("(":Str)::(sw a++(g.s::(sw b++((")":Str)::r)))):=by simp[sw]
  rw[e,jB,if_neg (by rw[z6];decide),if_neg (by rw[z9];decide),if_pos rfl,jO,i1 ⟨hs.1.1,fun x hx=>hs.2 x (List.mem_append_left _ hx)⟩ (by simp only[Say.depth] at hd;omega)];simp only[];rw[i2 ⟨hs.1.2,fun x hx=>hs.2 x (List.mem_append_right _ hx)⟩ (by simp only[Say.depth] at hd;omega)];simp only[];rw[if_pos ⟨Lz g,trivial⟩,OX]
theorem gQ{s:Say}(h:s.s6):eF 6 (sw s)=some (s,[]):=by
 have:=vO s h.1 h.2 []
 rwa [List.append_nil] at this
theorem rO{x:Str}(h:cU x)(r:List Str):mE (x::r)=some (x,r):=by rw[rN,if_pos (tJ.mp h)]
theorem Az:∀(n:Nat) (tl acc:List Say),(∀ s∈tl,s.s6)->tl.length<=n->kM n acc (tl.map sw).flatten=some (acc++tl,[])
 | n,[],acc,_,_=>by simp only[List.map_nil,List.flatten_nil,List.append_nil];exact Ee n acc
 | 0,s::tl,_,_,h=>by simp at h
 | n+1,s::tl,acc,hs,h=>by
  have h6:=hs s (by simp);obtain⟨w,r,hw⟩:∃ w r,sw s=w::r:=by
   cases h:sw s with
   | nil=>exact absurd h (iC s)
   | cons a b=>exact⟨a,b,rfl⟩
  have e:=vO s h6.1 h6.2 (tl.map sw).flatten;have e2:=Az n tl (acc++[s]) (fun z hz=>hs z (List.mem_cons_of_mem _ hz)) (by simpa using h);simp only[List.map_cons,List.flatten_cons];rw[hw] at e ⊢;rw[List.cons_append] at e ⊢;rw[vN,e];simp only[];rw[e2];simp
theorem CD{ss:List Say}(h1:1<=ss.length)(h4:ss.length<=4)(h:∀ s∈ss,s.s6):gZ (ss.map sw).flatten=some (ss,[]):=by
 cases ss with
 | nil=>simp at h1
 | cons s tl =>
  have h6:=h s (by simp);have e:=vO s h6.1 h6.2 (tl.map sw).flatten;have e2:=Az 3 tl [s] (fun z hz=>h z (List.mem_cons_of_mem _ hz)) (by simpa using h4);simp only[List.map_cons,List.flatten_cons];rw[gZ,e];simp only[];rw[e2];rfl
theorem in5s:cR (.str "timer") l5=true/\cR (.str "wait") l5=true/\cR (.str "hear") l5=true/\cR (.str "order") l5=true/\cR (.str "child") l5=true:=by decide +kernel
theorem ne5s:¬ ("wait":Str) = "timer"/\¬ ("hear":Str) = "timer"/\¬ ("hear":Str) = "wait"/\¬ ("order":Str) = "timer"/\¬ ("order":Str) = "wait"/\¬ ("order":Str) = "hear"/\¬ ("child":Str) = "timer"/\¬ ("child":Str) = "wait"/\¬ ("child":Str) = "hear"/\¬ ("child":Str) = "order"/\¬ ("drop":Str) = "send"/\¬ ("end":Str) = "send"/\¬ ("end":Str) = "drop":=by decide +kernel
theorem iU{x:Str}(hx:cU x)(ws:List Str):fO (x::"="::ws)=pZ x ws:=by
 rw[kN,if_neg (fun z=>by rw[Hw hx (y:="send") (by decide)] at z;exact z),if_neg (fun z=>by
  rcases z with z|z
  ·rw[Hw hx (y:="drop") (by decide)] at z;exact z
  ·rw[Hw hx (y:="end") (by decide)] at z;exact z),if_pos (tJ.mp hx)]
 simp only[];rw[if_pos trivial]
theorem Du{m:Stm}(h:m.UL)(hb:m.UQ=false):fO m.ws=some (m,[]):=by
 obtain⟨a1,a2,a3,a4,a5⟩:=in5s;obtain⟨n1,n2,n3,n4,n5,n6,n7,n8,n9,n10,n11,n12,n13⟩:=ne5s;cases m with
 | whl s b=>cases hb
 | iff s b o=>cases hb
 | set x s =>
  obtain⟨w,r,hw,hi⟩:=Ij h.2.1;show fO (x::"="::sw s)=_;rw[iU h.1];have e:=gQ h.2;rw[hw] at e ⊢;rw[h9,if_pos hi,e]
 | timer x s =>
  show fO (x::"="::"timer"::sw s)=_;rw[iU h.1,h9,if_neg (by rw[a1];decide),if_pos rfl,gQ h.2]
 | wait x ss =>
  show fO (x::"="::"wait"::(ss.map sw).flatten)=_;rw[iU h.1,h9,if_neg (by rw[a2];decide),if_neg n1,if_pos rfl,CD h.2.1.1 h.2.1.2 h.2.2]
 | hear x k =>
  show fO (x::"="::"hear"::k::[])=_;rw[iU h.1,h9,if_neg (by rw[a3];decide),if_neg n2,if_neg n3,if_pos rfl,rO h.2]
 | order x y s =>
  show fO (x::"="::"order"::y::sw s)=_;rw[iU h.1,h9,if_neg (by rw[a4];decide),if_neg n4,if_neg n5,if_neg n6,rO h.2.1];simp only[];rw[gQ h.2.2];simp only[];rw[if_pos trivial]
 | child x y s =>
  show fO (x::"="::"child"::y::sw s)=_;rw[iU h.1,h9,if_neg (by rw[a5];decide),if_neg n7,if_neg n8,if_neg n9,rO h.2.1];simp only[];rw[gQ h.2.2];simp only[];rw[if_neg n10]
 | send s k r =>
  show fO ("send"::(sw s++k::sw r))=_;rw[kN,if_pos rfl,vO s h.1.1 h.1.2];simp only[];rw[rO h.2.1];simp only[];rw[gQ h.2.2]
 | drop s =>
  show fO ("drop"::sw s)=_;rw[kN,if_neg n11,if_pos (.inl rfl),gQ h];simp only[];rw[if_pos trivial]
 | fin s =>
  show fO ("end"::sw s)=_;rw[kN,if_neg n12,if_pos (.inr rfl),gQ h];simp only[];rw[if_neg n13]
noncomputable def Me(D:Nat)(UQ:qM):Prop:=∀ {k:Nat} {b:List Stm} {R:List Str},qL b->mT b < D->k+gJ b<=60->CO R->UQ k (bG b++R)=some (b,k+gJ b,R)
theorem Uz:cR (.str "while") lB=true/\cR (.str "if") lB=true/\¬ ("if":Str) = "while"/\¬ ("done":Str) = "else":=by decide +kernel
theorem Ed(R:List Str):rM (("done":Str)::R)=some R:=by rw[Br,if_pos rfl]
theorem Rc{m:Stm}(h:m.UL)(hb:m.UQ=false):cR (.str (m.ws.headD "")) lB=false:=by
 cases m with
 | whl s b=>cases hb
 | iff s b o=>cases hb
 | send s k r=>show cR (.str "send") lB=false;decide +kernel
 | drop s=>show cR (.str "drop") lB=false;decide +kernel
 | fin s=>show cR (.str "end") lB=false;decide +kernel
 | set x s=>exact oX h.1 (by decide)
 | order x y s=>exact oX h.1 (by decide)
 | timer x s=>exact oX h.1 (by decide)
 | child x y s=>exact oX h.1 (by decide)
 | wait x ss=>exact oX h.1 (by decide)
 | hear x k=>exact oX h.1 (by decide)
theorem Fs{D:Nat}{UQ:qM}(B:Me D UQ){k:Nat}{m:Stm}{R:List Str}(h:m.wf)(hd:m.dp<=D)(hk:k+m.sz<=60):jC UQ k m.hd (m.rows.tail++R)=some (m,k+m.sz,R):=by
 have UL:=Stm.cG h;have sp:=m.DF;obtain⟨b1,b2,b3,b4⟩:=Uz;rw[jC,if_neg (by omega),GY UL];cases hb:m.UQ with
 | false =>
  rw[if_neg (by rw[Rc UL hb];decide),Du UL hb];have:m.rows.tail=[]/\m.sz=1:=by cases m<;>first|exact⟨rfl,rfl⟩|cases hb
  rw[this.1,this.2];rfl
 | true =>
  cases m with
  | whl s b =>
   rw[if_pos (show cR (.str ((Stm.whl s b).ws.headD "")) lB=true from b1)];show xZ UQ (k+1) ("while"::sw s) _=_;have e:(Stm.whl s b).rows.tail++R=bG b++(("done":Str)::R):=by simp[Stm.rows]
   simp only[Stm.dp] at hd;simp only[Stm.sz] at hk;rw[e,vP,gQ h.1];simp only[];rw[B h.2 (by omega) (by omega) (show CO (_::_) from Or.inr rfl)];simp only[];rw[if_pos trivial,Ed];simp only[Stm.sz];rw[show k+1+gJ b=k+(gJ b+1) by omega]
  | iff s b o =>
   rw[if_pos (show cR (.str ((Stm.iff s b o).ws.headD "")) lB=true from b2)];show xZ UQ (k+1) ("if"::sw s) _=_;have e:(Stm.iff s b o).rows.tail++R=bG b++(EX o++(("done":Str)::R)):=by simp[Stm.rows,EX]
   simp only[Stm.dp] at hd;simp only[Stm.sz] at hk;have Vs:CO (EX o++(("done":Str)::R)):=by
    cases o with
    | nil=>exact Or.inr rfl
    | cons a c=>exact Or.inl rfl
   rw[e,vP,gQ h.1];simp only[];rw[B h.2.1 (by omega) (by omega) Vs];simp only[];have e2:iP UQ (k+1+gJ b) (EX o++(("done":Str)::R))=some (o,k+1+gJ b+gJ o,("done":Str)::R):=by
    cases o with
    | nil =>
     show iP UQ (k+1+gJ b) (("done":Str)::R)=_;rw[oK,if_neg b4];rfl
    | cons a c =>
     show iP UQ (k+1+gJ b) (("else":Str)::(bG (a::c)++(("done":Str)::R)))=_;rw[oK,if_pos rfl,B h.2.2 (by omega) (by omega) (show CO (_::_) from Or.inr rfl)]
   rw[if_neg b3,e2];simp only[];rw[Ed];simp only[Stm.sz];rw[show k+1+gJ b+gJ o=k+(gJ b+gJ o+1) by omega]
  | _=>cases hb
theorem Ax{D:Nat}{UQ:qM}(B:Me D UQ):∀(b:List Stm) {n:Nat} {acc:List Stm} {k:Nat} {R:List Str},(bG b++R).length < n->qL b->mT b<=D->k+gJ b<=60->CO R->mD (jC UQ) n acc k (bG b++R)=some (acc++b,k+gJ b,R)
 | [],n,acc,k,R,hn,_,_,_,hs=>by
  obtain⟨n,rfl⟩:∃ e,n=e+1:=⟨n - 1,by omega⟩;show mD (jC UQ) (n+1) acc k R=_;cases R with
  | nil=>simp[mD,gJ]
  | cons r R=>rw[vM,if_pos (show r = "else"\/r = "done" from hs)];simp[gJ]
 | m::b,n,acc,k,R,hn,hw,hd,hk,hs=>by
  obtain⟨n,rfl⟩:∃ e,n=e+1:=⟨n - 1,by omega⟩;obtain⟨mr,hmr⟩:=AG m;have e:bG (m::b)++R=m.hd::(m.rows.tail++(bG b++R)):=by rw[bG,hmr];simp
  simp only[mT] at hd;simp only[gJ] at hk;rw[e,vM,if_neg (fun z=>by
   rcases z with z|z
   ·exact GX (m:=m) (x:="else") dQ.2.2.2.2.2.2.2.2.2.2.2.2.2.2.2.2.2.2.1.1 z
   ·exact GX (m:=m) (x:="done") dQ.2.2.2.2.2.2.2.2.2.2.2.2.2.2.2.2.2.2.2.1 z),Fs B hw.1 (by omega) (by omega)]
  simp only[];rw[Ax B b (n:=n) (by rw[e] at hn;simp at hn ⊢;omega) hw.2 (by omega) (by omega) hs];simp only[gJ];rw[List.append_assoc,show k+m.sz+gJ b=k+(m.sz+gJ b) by omega];rfl
theorem xY:∀ D,Me D (fA D)
 | 0=>fun _ h=>absurd h (Nat.not_lt_zero _)
 | D+1=>fun hw hd hk hs=>Ax (xY D) _ (Nat.lt_succ_self _) hw (by omega) hk hs
theorem AB{b:List Stm}(h:qL b)(hd:mT b<=5)(hz:gJ b<=60):rP (kH b)=some b:=by
 rw[rP,if_neg (fun z=>by rw[Iy b z.1] at z;cases z.2),DG h,List.dropLast_concat];have:=xY 6 (k:=0) (b:=b) (R:=[]) h (by omega) (by omega) trivial;rw[List.append_nil] at this;rw[this]
theorem D7{c:Nat}:∀ {l:List (List Nat)} {w:List Nat},w∈l->w.length<=(jn c l).length
 | [],_,h=>by cases h
 | [v],w,h=>by rw[show w=v by simpa using h];exact Nat.le_refl _
 | v::u::r,w,h=>by
  show w.length<=(v++c::jn c (u::r)).length;rw[List.length_append,List.length_cons];rcases List.mem_cons.mp h with rfl|h
  ·omega
  ·have:=D7 (c:=c) h;omega
theorem AI(c:Nat)(x:Str):∀ w∈Txt.split x ⟨#[c]⟩,w.length<=x.length:=fun w hw=>by
 have h1:=D7 (c:=c) (List.mem_map_of_mem (f:=fun p:Str=>p.cps.toList) hw);rw[<- oI,rB,StrLaws.join_split] at h1;rw[Array.length_toList,Array.length_toList] at h1;exact h1
theorem Ih{l:Str}(h:l.length<=8000000):WL (Txt.split l " "):=fun w hw=>by
 rw[eV.2.1] at hw;have:=AI 32 l w hw;omega
noncomputable def RL(rows:List Str):Prop:=∀ r∈rows,r.length<=8000000
noncomputable def HX(C X:Addr)(D:Nat):Sp:=fun vs H Q E=>∃(rd dx ll:Addr) (rows:List Str) (i k:Nat) (dp:Int),vs=[.ref rd,.int dp]/\gK C H rd dx ll rows i k/\dp+D=6/\RL rows/\k<=60 /\
 (∀(b:List Stm) (k':Nat) (L':List Str),fA D k (rows.drop i)=some (b,k',L')->∀(p:Addr) (us:List V) (H':Hp) (i':Nat),H' p=some (.tup us)->bL H' us b->gK C H' rd dx ll rows i' k'->rows.drop i'=L'->Kp [rd] H H'->Q (.ref p) H') /\
 (fA D k (rows.drop i)=none->∀ H',Kp [rd] H H'->E (.ref X) none H')
noncomputable def Em(C X:Addr)(D:Nat):Sp:=fun vs H Q E=>∃ D':Nat,D=D'+1/\HX C X D' vs H Q E
noncomputable def O4(C X:Addr)(D:Nat):Sp:=fun vs H Q E=>∃(D':Nat) (rd dx ll:Addr) (rows:List Str) (i k:Nat) (dp:Int),D=D'+1/\vs=[.ref rd,.int dp]/\gK C H rd dx ll rows i k/\dp+D'=6/\RL rows/\k<=60 /\
 (∀(o:List Stm) (k':Nat) (L':List Str),iP (fA D') k (rows.drop i)=some (o,k',L')->∀(p:Addr) (us:List V) (H':Hp) (i':Nat),H' p=some (.tup us)->bL H' us o->gK C H' rd dx ll rows i' k'->rows.drop i'=L'->Kp [rd] H H'->Q (.ref p) H') /\
 (iP (fA D') k (rows.drop i)=none->∀ H',Kp [rd] H H'->E (.ref X) none H')
noncomputable def R0(C X:Addr)(D:Nat):Sp:=fun vs H Q E=>∃(D':Nat) (rd dx ll wl:Addr) (rows:List Str) (i k:Nat) (dp:Int) (kd:Str) (r:List Str),D=D'+1/\vs=[.ref rd,.ref wl,.int dp]/\gK C H rd dx ll rows i k/\H wl=some (.lst ((kd::r).map V.str))/\wl≠ll/\cR (.str kd) lB=true/\WL (kd::r)/\dp+D=6/\RL rows/\k<=60 /\
 (∀(m:Stm) (k':Nat) (L':List Str),xZ (fA D') k (kd::r) (rows.drop i)=some (m,k',L')->∀(v:V) (H':Hp) (i':Nat),bV H' v m->gK C H' rd dx ll rows i' k'->rows.drop i'=L'->Kp [rd,wl] H H'->Q v H') /\
 (xZ (fA D') k (kd::r) (rows.drop i)=none->∀ H',Kp [rd,wl] H H'->E (.ref X) none H')
noncomputable def O6(C X:Addr)(D:Nat):Sp:=fun vs H Q E=>∃(D':Nat) (rd dx ll:Addr) (rows:List Str) (i k:Nat) (dp:Int) (l:Str) (L:List Str),D=D'+1/\vs=[.ref rd,.int dp]/\gK C H rd dx ll rows i k/\rows.drop i=l::L/\dp+D=6/\RL rows/\k<=60 /\
 (∀(m:Stm) (k':Nat) (L':List Str),jC (fA D') k l L=some (m,k',L')->∀(v:V) (H':Hp) (i':Nat),bV H' v m->gK C H' rd dx ll rows i' k'->rows.drop i'=L'->Kp [rd] H H'->Q v H') /\
 (jC (fA D') k l L=none->∀ H',Kp [rd] H H'->E (.ref X) none H')
theorem IA{H:Hp}{us:List V}{b:List Stm}(h:bL H us b):us.isEmpty=b.isEmpty:=by
 cases h<;>rfl
theorem Og{r:Str}(h:¬ (r = "else"\/r = "done")):cR (.str r) [.UK,.str "else",.str "done"]=false:=by
 simp only[cR,List.any_cons,List.any_nil,dJ,fN,Bool.or_false,Bool.false_or];rw[Bool.or_eq_false_iff];exact⟨beq_eq_false_iff_ne.mpr fun z=>h (.inl z.symm),beq_eq_false_iff_ne.mpr fun z=>h (.inr z.symm)⟩
noncomputable def KL(X:Addr):Sp:=fun vs H Q E=>∃ t:Str,vs=[.str t]/\t.length<=8000000/\(∀(b:List Stm),rP t=some b->∀(p:Addr) (us:List V) (H':Hp),H' p=some (.tup us)->bL H' us b->Kp [] H H'->Q (.ref p) H')/\(rP t=none->∀ H',Kp [] H H'->E (.ref X) none H')
noncomputable def tot(ws:List Str):Nat:=(ws.map fun w=>w.length+1).sum
theorem cV(a b:List Str):tot (a++b)=tot a+tot b:=by simp[tot]
theorem dC(w:Str):tot [w]=w.length+1:=by simp[tot]
theorem cT(w:Str)(ws:List Str):tot (w::ws)=w.length+1+tot ws:=by simp[tot]
theorem g8:∀ {ws:List Str} {w:Str},w∈ws->w.length+1<=tot ws
 | [],_,h=>by cases h
 | v::ws,w,h=>by
  rw[cT];rcases List.mem_cons.mp h with rfl|h
  ·omega
  ·have:=g8 h;omega
theorem dN{a b:List Str}(h:a.Sublist b):tot a<=tot b:=by
 induction h with
 | slnil=>exact Nat.le_refl _
 | cons w _ ih=>rw[cT];omega
 | cons_cons w _ ih=>rw[cT,cT];omega
theorem oQ(w:Str):∀(ws:List Str) (i:Nat),tot (ws.set i w)<=tot ws+(w.length+1)
 | [],_=>by simp[tot]
 | v::ws,0=>by rw[List.set_cons_zero,cT,cT];omega
 | v::ws,i+1=>by rw[List.set_cons_succ,cT,cT];have:=oQ w ws i;omega
theorem vJ:∀ ws:List Str,ws.length<=tot ws
 | []=>Nat.zero_le _
 | w::ws=>by rw[cT,List.length_cons];have:=vJ ws;omega
theorem Hf(c:Nat):∀ {l:List Str},l≠[]->(jn c (l.map fun p=>p.cps.toList)).length+1=tot l
 | [],h=>absurd rfl h
 | [w],_=>by simp[jn,tot,Str.length]
 | w::v::r,_=>by
  have:=Hf c (l:=v::r) (by simp);rw[cT,<- this];show(w.cps.toList++c::jn c ((v::r).map fun p=>p.cps.toList)).length+1=_;rw[List.length_append,List.length_cons,Array.length_toList];show w.length+_+1=_;omega
theorem Cf(c:Nat){l:List Str}(h:l≠[]):(Txt.join ⟨#[c]⟩ l).length+1=tot l:=by
 rw[<- Hf c h,<- oI,Array.length_toList];rfl
theorem Om(l:List Str):(Txt.join " " l).length<=tot l:=by
 cases l with
 | nil=>exact Nat.le_of_eq (by decide +kernel)
 | cons w r=>rw[eV.2.1];have:=Cf 32 (l:=w::r) (by simp);omega
theorem AK(c:Nat)(x:Str):tot (Txt.split x ⟨#[c]⟩)=x.length+1:=by
 rw[<- Cf c (jF _ _),rB,StrLaws.join_split]
theorem oJ(l:List Str):(Txt.join "" (l.map fun r:Str=>r++"\n")).length=tot l:=by
 show(Txt.join "" (l.map fun r:Str=>r++"\n")).cps.size=_;rw[<- Array.length_toList,tE]
 induction l with
 | nil=>rfl
 | cons w r ih =>
  rw[cT,<- ih];simp only[List.map_cons,List.flatten_cons,List.length_append,iN,eV.1,Array.length_toList];rfl
theorem Hv:(" ":Str).length=1/\("":Str).length=0:=by decide +kernel
theorem KU(us:List Str):(us.map fun z=>z.length).sum+us.length=tot us:=by
 induction us with
 | nil=>rfl
 | cons w r ih=>rw[cT,<- ih,List.map_cons,List.sum_cons,List.length_cons];omega
theorem qV{us vs:List Str}{a:Addr}{H:Hp}{Q:VK}{oa ob:Option HO}(e1:oa=some (.lst (us.map V.str)))(e2:ob=some (.lst (vs.map V.str)))(l:us.length+vs.length<=16777216)(q:∀ p H',H' p=some (.lst ((us++vs).map V.str))->Kp [] H H'->Q (.ref p) H'):EJ H Q a oa ob:=by
 subst e1 e2;exact⟨by rw[List.length_map,List.length_map];exact l,fun p hp=>q p _ (by rw[List.map_append];exact aE) (Kp.new hp)⟩
theorem m6{xs:List V}{i:Int}(h0:0<=i)(h1:i < (xs.length:Int)):∃ j,CV xs.length i=some j/\j < xs.length:=⟨i.toNat,by unfold CV;rw[if_pos h0,if_pos h1],by omega⟩
theorem cM{us ws:List Str}(h:us.Sublist ws):us.length<=tot ws:=Nat.le_trans (vJ us) (dN h)
theorem Be{r wl:Addr}{H G G':Hp}(K:Kp [r] H G)(K2:Kp [wl] G G')(n:H wl=none):Kp [r] H G':=fun b o e hb=>K2 b o (K b o e hb) (by
 simp only[List.mem_cons,List.not_mem_nil,or_false];exact aQ e n)
theorem rY{H:Hp}{r:Addr}(R:bI H r)(us:List Str):H r≠some (.lst (us.map V.str)):=fun z=>by
 obtain⟨c,l,f,e,_⟩:=R;rw[e] at z;cases us with
 | nil=>cases z
 | cons a b=>cases z
theorem T9{K:q0B}{H:Hp}{a b:Addr}{xs:List V}(ha:H a=some (.lst xs))(hb:H b=some (.lst [])):uD K H 1 a b xs.isEmpty:=by
 cases xs with
 | nil =>
  have:=uD.list (K:=K) (H:=H) (n:=0) (e:=fun _=>true) (dU.of ha) (dU.of hb) rfl (fun j x y e _=>by simp at e);simpa using this
 | cons x xs=>exact uD.U4 (dU.of ha) (dU.of hb) (by simp)
theorem lsum(us:List Str):((us.map fun r:Str=>r++"\n").map fun z=>z.length).sum=tot us:=by
 induction us with
 | nil=>rfl
 | cons w r ih=>rw[cT,<- ih,List.map_cons,List.map_cons,List.sum_cons,bO,jY.1]
theorem uI(ws:List Str){k:Int}(h:0<=k):∃ us:List Str,k6 (ws.map V.str) none (some k)=us.map V.str/\us.Sublist ws/\us.length<=k.toNat:=by
 obtain⟨n,rfl⟩:∃ n:Nat,k=(n:Int):=⟨k.toNat,by omega⟩;unfold k6;rw[HT.Ek,HT.CG,List.drop_zero,<- List.map_take];exact⟨_,rfl,List.take_sublist _ _,by rw[List.length_take,List.length_map];simp;omega⟩
theorem uH(ws:List Str){k:Int}(h:0<=k):∃ us:List Str,k6 (ws.map V.str) (some k) none=us.map V.str/\us.Sublist ws/\us.length<=ws.length - k.toNat:=by
 obtain⟨n,rfl⟩:∃ n:Nat,k=(n:Int):=⟨k.toNat,by omega⟩;unfold k6;rw[HT.Ek,HT.CG,<- List.map_drop,<- List.map_take];exact⟨_,rfl,(List.take_sublist _ _).trans (List.drop_sublist _ _),by rw[List.length_take,List.length_drop,List.length_map];simp;omega⟩
theorem p45{n:Nat}(h:n<=16777216):(n:Int)+1<=10 ^ 45:=Int.le_trans (Int.add_le_add_right (Int.ofNat_le.mpr h) 1) (by decide)
noncomputable def KH(X:Addr):Sp:=fun vs H Q _=>∃ t:Str,vs=[.str t]/\t.length<=8000000/\(∀(b:List Stm),rP t=some b->∀(a p:Addr) (us:List V) (H':Hp),H' a=some (.tup [.ref p,.bl false])->H' p=some (.tup us)->bL H' us b->Kp [] H H'->Q (.ref a) H')/\(rP t=none->∀(a:Addr) (H':Hp),H' a=some (.tup [.UK,.bl true])->Kp [] H H'->Q (.ref a) H')
noncomputable def HZ:Sp:=fun vs H Q _=>∃ r:Addr,vs=[.ref r]/\bI H r/\∀(y:Str) (H':Hp),y.length<=40->bI H' r->Kp [r] H H'->Q (.str y) H'
noncomputable def KI:Sp:=fun vs H Q _=>∃(r:Addr) (x:Str),vs=[.ref r,.str x]/\bI H r/\x.length<=4000000/\∀(y:Str) (H':Hp),y.length<=3 * (x.length+1)+50->bI H' r->Kp [r] H H'->Q (.str y) H'
noncomputable def O1:Sp:=fun vs H Q _=>∃(r:Addr) (x:Str),vs=[.ref r,.str x]/\bI H r/\x.length<=600000/\∀(y:Str) (H':Hp),y.length<=4 * (x.length+1)+60->bI H' r->Kp [r] H H'->Q (.str y) H'
noncomputable def strs40(l:List V):Bool:=l.all fun v=>match v with
 | .str y=>decide (y.length<=40)
 | _=>false
theorem t6{l:List V}(h:strs40 l=true){v:V}(hv:v∈l):∃ y:Str,v=.str y/\y.length<=40:=by
 have:=List.all_eq_true.mp h v hv;cases v with
 | str y=>exact⟨y,rfl,by simpa using this⟩
 | _=>cases this
theorem DE{a b:List V}(h:strs40 a=true)(g:strs40 b=true):strs40 (a++b)=true:=by
 unfold strs40 at h g ⊢;rw[List.all_append,h,g];rfl
theorem cat40{xs ys:List V}{a:Addr}{H:Hp}{Q:VK}{oa ob:Option HO}(e1:oa=some (.lst xs))(e2:ob=some (.lst ys))(s1:strs40 xs=true)(s2:strs40 ys=true)(l:xs.length+ys.length<=1000)(q:∀ p zs H',H' p=some (.lst zs)->strs40 zs=true->zs.length=xs.length+ys.length->Kp [] H H'->Q (.ref p) H'):EJ H Q a oa ob:=by
 subst e1 e2;exact⟨Nat.le_trans l (by decide),fun p hp=>q p _ _ aE (DE s1 s2) List.length_append (Kp.new hp)⟩
theorem five40:strs40 [.str "",.str " ",.str "\n\n",.str "\n \n",.str " \n"]=true:=by decide +kernel
theorem own40:strs40 mI=true/\mI.length=17:=by decide +kernel
theorem xQ{H:Hp}{r p:Addr}{zs:List V}{n:Nat}(R:bI H r)(e:H p=some (.lst zs))(l:zs.length=n+4):p≠r:=R.ne e fun a b c z=>by
 cases z;simp at l
mutual
theorem HR:∀ {m:Stm},m.wf->tot m.rows<=8011 * m.sz
 | .whl s b,h=>by
  have h1:=kP h.2;have h2:=Stm.dD (m:=.whl s b) h.1;show tot ((((Stm.whl s b).hd::bG b)++[("done":Str)]))<=8011 * (gJ b+1);rw[cV,cT,dC,show("done":Str).length=4 by decide +kernel];omega
 | .iff s b o,h=>by
  have h1:=kP h.2.1;have h3:=kP h.2.2;have h2:=Stm.dD (m:=.iff s b o) h.1;show tot ((((Stm.iff s b o).hd::bG b)++(if o.isEmpty=true then [] else ("else":Str)::bG o))++[("done":Str)])<=8011 * (gJ b+gJ o+1);rw[cV,cV,cT,dC,show("done":Str).length=4 by decide +kernel];split
  ·rw[show tot []=0 from rfl];omega
  ·rw[cT,show("else":Str).length=4 by decide +kernel];omega
 | .set x s,h=>by have:=Stm.dD (Stm.cG h);show tot [_]<=8011 * 1;rw[dC];omega
 | .order x y s,h=>by have:=Stm.dD (Stm.cG h);show tot [_]<=8011 * 1;rw[dC];omega
 | .timer x s,h=>by have:=Stm.dD (Stm.cG h);show tot [_]<=8011 * 1;rw[dC];omega
 | .child x y s,h=>by have:=Stm.dD (Stm.cG h);show tot [_]<=8011 * 1;rw[dC];omega
 | .send s k u,h=>by have:=Stm.dD (Stm.cG h);show tot [_]<=8011 * 1;rw[dC];omega
 | .drop s,h=>by have:=Stm.dD (Stm.cG h);show tot [_]<=8011 * 1;rw[dC];omega
 | .wait x ss,h=>by have:=Stm.dD (Stm.cG h);show tot [_]<=8011 * 1;rw[dC];omega
 | .hear x k,h=>by have:=Stm.dD (Stm.cG h);show tot [_]<=8011 * 1;rw[dC];omega
 | .fin s,h=>by have:=Stm.dD (Stm.cG h);show tot [_]<=8011 * 1;rw[dC];omega
theorem kP:∀ {b:List Stm},qL b->tot (bG b)<=8011 * gJ b
 | [],_=>by simp[bG,tot]
 | m::ms,h=>by
  have h1:=HR h.1;have h2:=kP h.2;show tot (m.rows++bG ms)<=8011 * (m.sz+gJ ms);rw[cV];omega
end
noncomputable def Ia:Sp:=fun vs H Q _=>∃ r:Addr,vs=[.ref r]/\bI H r/\∀(p:Addr) (us:List V) (b:List Stm) (H':Hp),H' p=some (.tup us)->bL H' us b->qL b->mT b<=5->gJ b<=16->bI H' r->Kp [r] H H'->Q (.ref p) H'
inductive IL(H:Hp):Nat->V->Prop
 | int {n:Nat} {i:Int}:IL H n (.int i)
 | str {n:Nat} {x:Str}:IL H n (.str x)
 | tup {n:Nat} {a:Addr} {xs:List V}:H a=some (.tup xs)->(∀ x∈xs,IL H n x)->IL H (n+1) (.ref a)
theorem IL.kp{H H':Hp}(k:aM H H'){n:Nat}{v:V}(h:IL H n v):IL H' n v:=by
 induction h with
 | int=>exact .int
 | str=>exact .str
 | tup e _ ih=>exact .tup (k _ _ e) ih
theorem IL.mono{H:Hp}{n m:Nat}{v:V}(h:IL H n v)(hm:n<=m):IL H m v:=by
 induction h generalizing m with
 | int=>exact .int
 | str=>exact .str
 | @tup n a xs e _ ih =>
  obtain⟨m',rfl⟩:∃ m',m=m'+1:=⟨m - 1,by omega⟩;exact .tup e fun x hx=>ih x hx (by omega)
noncomputable def Uq(K:q0B)(H:Hp)(n:Nat)(P:V->Prop):Prop:=∀ v u,P v->P u->yR K H n v u true
inductive Ea:List V->List (V->Prop)->Prop
 | nil:Ea [] []
 | cons {v:V} {vs:List V} {P:V->Prop} {Ps:List (V->Prop)}:P v->Ea vs Ps->Ea (v::vs) (P::Ps)
theorem Ea.len{vs:List V}{Ps:List (V->Prop)}(h:Ea vs Ps):vs.length=Ps.length:=by
 induction h with
 | nil=>rfl
 | cons _ _ ih=>simp[ih]
noncomputable def uE(H:Hp)(Ps:List (V->Prop))(v:V):Prop:=∃ a vs,v=.ref a/\H a=some (.tup vs)/\Ea vs Ps
theorem Ea.eq{K:q0B}{H:Hp}{n:Nat}{vs:List V}{Ps:List (V->Prop)}(h:Ea vs Ps):∀ {us:List V},Ea us Ps->(∀ P∈Ps,Uq K H n P)->∀(j:Nat) (x y:V),vs[j]?=some x->us[j]?=some y->yR K H n x y true:=by
 induction h with
 | nil=>intro us _ _ j x y e;simp at e
 | cons p _ ih =>
  intro us g d j x y e1 e2;cases g with
  | cons q r =>
   cases j with
   | zero=>cases e1;cases e2;exact d _ (by simp) _ _ p q
   | succ j=>exact ih r (fun P hP=>d P (List.mem_cons_of_mem _ hP)) j x y (by simpa using e1) (by simpa using e2)
theorem dZ{K:q0B}{H:Hp}{n:Nat}{Ps:List (V->Prop)}(h:∀ P∈Ps,Uq K H n P):Uq K H (n+1) (uE H Ps):=by
 rintro _ _ ⟨a,vs,rfl,ha,x⟩ ⟨b,us,rfl,hb,y⟩;exact .pair ha hb (by rw[x.len,y.len]) (x.eq y h)
theorem cL{K:q0B}{H:Hp}{n:Nat}{x:Str}:Uq K H n (fun v=>v=.str x):=by rintro _ _ rfl rfl;exact Ii _
theorem Pg{K:q0B}{H:Hp}{n:Nat}{x:Int}:Uq K H n (fun v=>v=.int x):=by rintro _ _ rfl rfl;exact Hc _
theorem fc{K:q0B}{H:Hp}{n:Nat}{P:V->Prop}{Ps:List (V->Prop)}(a:Uq K H n P)(b:∀ Q∈Ps,Uq K H n Q):∀ Q∈P::Ps,Uq K H n Q:=List.forall_mem_cons.mpr ⟨a,b⟩
theorem fn{K:q0B}{H:Hp}{n:Nat}:∀ Q∈([]:List (V->Prop)),Uq K H n Q:=fun _ h=>nomatch h
noncomputable def Say.parts(H:Hp):Say->List (V->Prop)
 | .num i=>[fun v=>v=.str "number",fun v=>v=.int i]
 | .UK=>[fun v=>v=.str "none"]
 | .name x=>[fun v=>v=.str "name",fun v=>v=.str x]
 | .arg=>[fun v=>v=.str "arg"]
 | .now=>[fun v=>v=.str "now"]
 | .Vd s=>[fun v=>v=.str "answer",fun v=>bD H v s]
 | .neg s=>[fun v=>v=.str "not",fun v=>bD H v s]
 | .two g s r=>[fun v=>v=.str g.s,fun v=>bD H v s,fun v=>bD H v r]
theorem bD.un{H:Hp}{v:V}{s:Say}(h:bD H v s):uE H (s.parts H) v:=by
 cases h with
 | num e=>exact⟨_,_,rfl,e,.cons rfl (.cons rfl .nil)⟩
 | UK e=>exact⟨_,_,rfl,e,.cons rfl .nil⟩
 | name e=>exact⟨_,_,rfl,e,.cons rfl (.cons rfl .nil)⟩
 | arg e=>exact⟨_,_,rfl,e,.cons rfl .nil⟩
 | now e=>exact⟨_,_,rfl,e,.cons rfl .nil⟩
 | Vd e s=>exact⟨_,_,rfl,e,.cons rfl (.cons s .nil)⟩
 | neg e s=>exact⟨_,_,rfl,e,.cons rfl (.cons s .nil)⟩
 | two e s r=>exact⟨_,_,rfl,e,.cons rfl (.cons s (.cons r .nil))⟩
theorem bD.uq{K:q0B}{H:Hp}(s:Say):∀ n,s.depth<=n->Uq K H n (fun v=>bD H v s):=by
 induction s with
 | Vd s ih =>
  intro n hn;simp only[Say.depth] at hn;obtain⟨n,rfl⟩:∃ m,n=m+1:=⟨n - 1,by omega⟩;exact fun v u h g=>dZ (fc cL (fc (ih n (by omega)) fn)) v u h.un g.un
 | neg s ih =>
  intro n hn;simp only[Say.depth] at hn;obtain⟨n,rfl⟩:∃ m,n=m+1:=⟨n - 1,by omega⟩;exact fun v u h g=>dZ (fc cL (fc (ih n (by omega)) fn)) v u h.un g.un
 | two g s r i1 i2 =>
  intro n hn;simp only[Say.depth] at hn;obtain⟨n,rfl⟩:∃ m,n=m+1:=⟨n - 1,by omega⟩;exact fun v u h g=>dZ (fc cL (fc (i1 n (by omega)) (fc (i2 n (by omega)) fn))) v u h.un g.un
 | num i =>
  intro n hn;simp only[Say.depth] at hn;obtain⟨n,rfl⟩:∃ m,n=m+1:=⟨n - 1,by omega⟩;exact fun v u h g=>dZ (fc cL (fc Pg fn)) v u h.un g.un
 | name x =>
  intro n hn;simp only[Say.depth] at hn;obtain⟨n,rfl⟩:∃ m,n=m+1:=⟨n - 1,by omega⟩;exact fun v u h g=>dZ (fc cL (fc cL fn)) v u h.un g.un
 | _ =>
  intro n hn;simp only[Say.depth] at hn;obtain⟨n,rfl⟩:∃ m,n=m+1:=⟨n - 1,by omega⟩;exact fun v u h g=>dZ (fc cL fn) v u h.un g.un
theorem cO.ea{H:Hp}{vs:List V}{ss:List Say}(h:cO H vs ss):Ea vs (ss.map fun s v=>bD H v s):=by
 induction h with
 | nil=>exact .nil
 | cons a _ ih=>exact .cons a ih
theorem bL.ea{H:Hp}:∀ {vs:List V} {b:List Stm},bL H vs b->Ea vs (b.map fun m v=>bV H v m)
 | _,[],h=>by cases h;exact .nil
 | _,m::ms,h=>by
  cases h with
  | cons a r=>exact .cons a (bL.ea r)
noncomputable def Stm.parts(H:Hp):Stm->List (V->Prop)
 | .set x s=>[fun v=>v=.str "set",fun v=>v=.str x,fun v=>bD H v s]
 | .order x y s=>[fun v=>v=.str "order",fun v=>v=.str x,fun v=>v=.str y,fun v=>bD H v s]
 | .timer x s=>[fun v=>v=.str "timer",fun v=>v=.str x,fun v=>bD H v s]
 | .child x y s=>[fun v=>v=.str "child",fun v=>v=.str x,fun v=>v=.str y,fun v=>bD H v s]
 | .send s k r=>[fun v=>v=.str "send",fun v=>bD H v s,fun v=>v=.str k,fun v=>bD H v r]
 | .drop s=>[fun v=>v=.str "drop",fun v=>bD H v s]
 | .wait x ss=>[fun v=>v=.str "wait",fun v=>v=.str x,uE H (ss.map fun s v=>bD H v s)]
 | .hear x k=>[fun v=>v=.str "hear",fun v=>v=.str x,fun v=>v=.str k]
 | .fin s=>[fun v=>v=.str "end",fun v=>bD H v s]
 | .whl s b=>[fun v=>v=.str "while",fun v=>bD H v s,uE H (b.map fun m v=>bV H v m)]
 | .iff s b o=>[fun v=>v=.str "if",fun v=>bD H v s,uE H (b.map fun m v=>bV H v m),uE H (o.map fun m v=>bV H v m)]
theorem bV.un{H:Hp}{v:V}{m:Stm}(h:bV H v m):uE H (m.parts H) v:=by
 cases h with
 | set e s=>exact⟨_,_,rfl,e,.cons rfl (.cons rfl (.cons s .nil))⟩
 | order e s=>exact⟨_,_,rfl,e,.cons rfl (.cons rfl (.cons rfl (.cons s .nil)))⟩
 | timer e s=>exact⟨_,_,rfl,e,.cons rfl (.cons rfl (.cons s .nil))⟩
 | child e s=>exact⟨_,_,rfl,e,.cons rfl (.cons rfl (.cons rfl (.cons s .nil)))⟩
 | send e s r=>exact⟨_,_,rfl,e,.cons rfl (.cons s (.cons rfl (.cons r .nil)))⟩
 | drop e s=>exact⟨_,_,rfl,e,.cons rfl (.cons s .nil)⟩
 | wait e f s=>exact⟨_,_,rfl,e,.cons rfl (.cons rfl (.cons ⟨_,_,rfl,f,s.ea⟩ .nil))⟩
 | hear e=>exact⟨_,_,rfl,e,.cons rfl (.cons rfl (.cons rfl .nil))⟩
 | fin e s=>exact⟨_,_,rfl,e,.cons rfl (.cons s .nil)⟩
 | whl e s f b=>exact⟨_,_,rfl,e,.cons rfl (.cons s (.cons ⟨_,_,rfl,f,b.ea⟩ .nil))⟩
 | iff e s f b f2 b2=>exact⟨_,_,rfl,e,.cons rfl (.cons s (.cons ⟨_,_,rfl,f,b.ea⟩ (.cons ⟨_,_,rfl,f2,b2.ea⟩ .nil)))⟩
theorem BJ:∀ {b:List Stm} {m:Stm},qL b->m∈b->m.wf
 | x::b,m,h,hm=>by
  rcases List.mem_cons.mp hm with rfl|hm
  ·exact h.1
  ·exact BJ h.2 hm
theorem A4:∀ {b:List Stm} {m:Stm},m∈b->m.dp<=mT b
 | x::b,m,hm=>by
  simp only[mT];rcases List.mem_cons.mp hm with rfl|hm
  ·omega
  ·have:=A4 hm;omega
theorem Ph{K:q0B}{H:Hp}:∀(n:Nat) (m:Stm),m.wf->8+2 * m.dp<=n->Uq K H n (fun v=>bV H v m):=by
 intro n
 induction n using Nat.strongRecOn with
 | ind n ih =>
  intro m w hn v u h g;have h:=h.un;have g:=g.un;obtain⟨k,rfl⟩:∃ k,n=k+2:=⟨n - 2,by omega⟩;have bl:∀ b:List Stm,qL b->8+2 * mT b<=k->Uq K H (k+1) (uE H (b.map fun m v=>bV H v m)):=fun b wb hb=>dZ (by
   intro P hP;obtain⟨m,hm,rfl⟩:=List.mem_map.mp hP;exact ih k (by omega) m (BJ wb hm) (by have:=A4 hm;omega))
  have sy:∀ s:Say,s.s6->Uq K H (k+1) (fun v=>bD H v s):=fun s hs=>bD.uq s (k+1) (by have:=hs.2;omega);cases m with
  | set x s=>exact dZ (fc cL (fc cL (fc (sy s w.2) fn))) v u h g
  | order x y s=>exact dZ (fc cL (fc cL (fc cL (fc (sy s w.2.2) fn)))) v u h g
  | timer x s=>exact dZ (fc cL (fc cL (fc (sy s w.2) fn))) v u h g
  | child x y s=>exact dZ (fc cL (fc cL (fc cL (fc (sy s w.2.2) fn)))) v u h g
  | send s y r=>exact dZ (fc cL (fc (sy s w.1) (fc cL (fc (sy r w.2.2) fn)))) v u h g
  | drop s=>exact dZ (fc cL (fc (sy s w) fn)) v u h g
  | wait x ss =>
   refine dZ (fc cL (fc cL (fc (dZ ?_) fn))) v u h g;intro P hP;obtain⟨s,hs,rfl⟩:=List.mem_map.mp hP;exact bD.uq s k (by have:=(w.2.2 s hs).2;omega)
  | hear x y=>exact dZ (fc cL (fc cL (fc cL fn))) v u h g
  | fin s=>exact dZ (fc cL (fc (sy s w) fn)) v u h g
  | whl s b =>
   simp only[Stm.dp] at hn;exact dZ (fc cL (fc (sy s w.1) (fc (bl b w.2 (by omega)) fn))) v u h g
  | iff s b o =>
   simp only[Stm.dp] at hn;exact dZ (fc cL (fc (sy s w.1) (fc (bl b w.2.1 (by omega)) (fc (bl o w.2.2 (by omega)) fn)))) v u h g
theorem HM{K:q0B}{H:Hp}{p q:Addr}{us ws:List V}{b:List Stm}(e1:H p=some (.tup us))(e2:H q=some (.tup ws))(h1:bL H us b)(h2:bL H ws b)(w:qL b)(d:mT b<=5):uD K H 20 p q true:=by
 have l:us.length=ws.length:=by rw[<- h1.len,<- h2.len]
 have:=uD.tup (K:=K) (H:=H) (n:=19) (e:=fun _=>true) (gS.of e1) (gS.of e2) (h1.ea.eq h2.ea fun P hP=>by obtain⟨m,hm,rfl⟩:=List.mem_map.mp hP;exact Ph 19 m (BJ w hm) (by have:=A4 hm;omega))
 rwa [show((List.range (min us.length ws.length)).all (fun _=>true)&&us.length==ws.length)=true by rw[l];simp[List.all_eq_true]] at this
theorem RP(a b c:Str):a++b++c=a++(b++c):=by
 show(⟨a.cps++b.cps++c.cps⟩:Str)=⟨a.cps++(b.cps++c.cps)⟩;rw[Array.append_assoc]
theorem FP:(" ":Str)++"="++" " = " = ":=by decide +kernel
theorem Kz:("send":Str)++" " = "send ":=by decide +kernel
theorem NZ(x:Str):x++" = "=x++" "++"="++" ":=by rw[<- FP];simp only[RP]
theorem B9(g:Str):∀(l:List Str) (x:Str),List.foldl (fun acc (p:Str)=>acc++g.cps++p.cps) x.cps l=(List.foldl (fun t y=>t++g++y) x l).cps
 | [],x=>rfl
 | y::l,x=>B9 g l (x++g++y)
theorem oH(x:Str)(l:List Str):Txt.join " " (x::l)=glue x l:=by
 show(⟨List.foldl (fun acc (p:Str)=>acc++(" ":Str).cps++p.cps) x.cps l⟩:Str)=_;rw[B9];rfl
noncomputable def Stm.gv:Stm->List Str
 | .set _ s=>[wd s]
 | .order _ y s=>["order",y,wd s]
 | .timer _ s=>["timer",wd s]
 | .child _ y s=>["child",y,wd s]
 | .wait _ ss=>"wait"::ss.map wd
 | .hear _ k=>["hear",k]
 | _=>[]
noncomputable def Stm.isG:Stm->Bool
 | .set _ _ | .order _ _ _ | .timer _ _ | .child _ _ _ | .wait _ _ | .hear _ _=>true
 | _=>false
noncomputable def Stm.isB:Stm->Bool
 | .whl _ _ | .iff _ _ _=>true
 | _=>false
noncomputable def Stm.nm:Stm->Str
 | .set x _ | .order x _ _ | .timer x _ | .child x _ _ | .wait x _ | .hear x _=>x
 | _=>""
theorem Stm.Rb{m:Stm}(h:m.isG=true):m.hd=glue m.nm ("="::m.gv):=by
 cases m<;>simp only[Stm.isG,Bool.false_eq_true] at h<;>simp only[Stm.hd,Stm.gv,Stm.nm,glue,List.foldl_cons,List.foldl_nil,NZ]
theorem Ob{m:Stm}(h:m.UL):m.gv.length<=5/\∀ y∈m.gv,y.length<=1800:=by
 obtain⟨Wz,leq,XR,XS,XO,WA,Wy,Wx,lend,XU,lif⟩:=hlens;have dec:∀ {n:Nat},n<=6->n<=1800:=fun h=>by omega
 cases m with
 | set x s=>exact⟨by simp[Stm.gv],fun y hy=>by rw[show y=_ by simpa[Stm.gv] using hy];exact h.2.len⟩
 | order x z s =>
  refine⟨by simp[Stm.gv],fun y hy=>?_⟩;have:=h.2.2.len;have:=h.2.1.len;rcases(show y = "order"\/y=z\/y=wd s by simpa[Stm.gv] using hy) with rfl|rfl|rfl<;>omega
 | child x z s =>
  refine⟨by simp[Stm.gv],fun y hy=>?_⟩;have:=h.2.2.len;have:=h.2.1.len;rcases(show y = "child"\/y=z\/y=wd s by simpa[Stm.gv] using hy) with rfl|rfl|rfl<;>omega
 | timer x s =>
  refine⟨by simp[Stm.gv],fun y hy=>?_⟩;have:=h.2.len;rcases(show y = "timer"\/y=wd s by simpa[Stm.gv] using hy) with rfl|rfl<;>omega
 | hear x k =>
  refine⟨by simp[Stm.gv],fun y hy=>?_⟩;have:=h.2.len;rcases(show y = "hear"\/y=k by simpa[Stm.gv] using hy) with rfl|rfl<;>omega
 | wait x ss =>
  refine⟨by have:=h.2.1;simp[Stm.gv];omega,fun y hy=>?_⟩;rcases List.mem_cons.mp hy with rfl|hy
  ·omega
  ·obtain⟨s,hs,rfl⟩:=List.mem_map.mp hy;exact(h.2.2 s hs).len
 | _=>exact⟨by simp[Stm.gv],fun y hy=>by simp[Stm.gv] at hy⟩
noncomputable def KO:Sp:=fun vs H Q _=>∃(v:V) (m:Stm),vs=[v]/\bV H v m/\m.UL/\m.isB=true/\∀ H',Kp [] H H'->Q (.str m.hd) H'
noncomputable def CK:Sp:=fun vs H Q _=>∃(v:V) (m:Stm),vs=[v]/\bV H v m/\m.UL/\m.isB=false/\∀ H',Kp [] H H'->Q (.str m.hd) H'
noncomputable def En:Sp:=fun vs H Q _=>∃(v:V) (m:Stm),vs=[v]/\bV H v m/\m.UL/\m.isG=true/\∀(l:Addr) (H':Hp),H l=none->Kp [] H H'->H' l=some (.lst (m.gv.map V.str))->Q (.ref l) H'
noncomputable def B0(b:List Stm):List Str:=if b.isEmpty=true then [] else ("else":Str)::bG b
noncomputable def RS(d:Nat):Sp:=fun vs H Q _=>∃(p:Addr) (us:List V) (b:List Stm),vs=[.ref p]/\H p=some (.tup us)/\bL H us b/\qL b/\mT b < d/\gJ b<=1000 /\
 ∀(l:Addr) (H':Hp),H l=none->Kp [] H H'->H' l=some (.lst ((B0 b).map V.str))->Q (.ref l) H'
noncomputable def RV(d:Nat):Sp:=fun vs H Q _=>∃(v:V) (m:Stm),vs=[v]/\bV H v m/\m.wf/\m.dp < d/\m.sz<=1000 /\
 ∀(l:Addr) (H':Hp),H l=none->Kp [] H H'->H' l=some (.lst (m.rows.map V.str))->Q (.ref l) H'
theorem cO.at{H:Hp}{vs:List V}{ss:List Say}(h:cO H vs ss):∀ {i:Nat} {x:V},vs[i]?=some x->∃ y,ss[i]?=some y/\bD H x y:=by
 induction h with
 | nil=>intro i x e;simp at e
 | cons a _ ih =>
  intro i x e;cases i with
  | zero=>simp only[List.getElem?_cons_zero,Option.some.injEq] at e;subst e;exact⟨_,rfl,a⟩
  | succ i=>exact ih (by simpa using e)
theorem Sg.nn(g:Sg):(g.s=("number":Str))=False:=by cases g<;>simp only[Sg.s,dE,String.reduceEq]
theorem Sg.nm(g:Sg):(g.s=("name":Str))=False:=by cases g<;>simp only[Sg.s,dE,String.reduceEq]
theorem Sg.n3(g:Sg):cR (.str g.s) [.str "none",.str "arg",.str "now"]=false:=by cases g<;>(simp only[Sg.s,xE];decide)
theorem Sg.n2(g:Sg):cR (.str g.s) [.str "answer",.str "not"]=false:=by cases g<;>(simp only[Sg.s,G9];decide)
noncomputable def Say.is3:Say->Bool
 | .UK=>true | .arg=>true | .now=>true|_=>false
noncomputable def Say.is2:Say->Bool
 | .Vd _=>true | .neg _=>true|_=>false
theorem bD.rC{H:Hp}{v:V}{s:Say}(h:bD H v s):s.is3=false\/∃(a:Addr) (w:Str),v=.ref a/\H a=some (.tup [.str w])/\((w=("number":Str))=False)/\((w=("name":Str))=False)/\cR (.str w) [.str "none",.str "arg",.str "now"]=true/\wd s=w:=by
 cases h with
 | UK e=>exact .inr ⟨_,_,rfl,e,by simp only[dE,String.reduceEq],by simp only[dE,String.reduceEq],by rw[xE];decide,rfl⟩
 | arg e=>exact .inr ⟨_,_,rfl,e,by simp only[dE,String.reduceEq],by simp only[dE,String.reduceEq],by rw[xE];decide,rfl⟩
 | now e=>exact .inr ⟨_,_,rfl,e,by simp only[dE,String.reduceEq],by simp only[dE,String.reduceEq],by rw[xE];decide,rfl⟩
 | _=>exact .inl rfl
theorem bD.un2{H:Hp}{v:V}{s:Say}(h:bD H v s):s.is2=false\/∃(a:Addr) (w:Str) (u:V) (s1:Say),v=.ref a/\H a=some (.tup [.str w,u])/\bD H u s1/\((w=("number":Str))=False)/\((w=("name":Str))=False)/\cR (.str w) [.str "none",.str "arg",.str "now"]=false/\cR (.str w) [.str "answer",.str "not"]=true/\w.length<=6/\s.depth=s1.depth+1/\(s.sh->s1.sh)/\wd s=w++" "++wd s1:=by
 have l:=lens;cases h with
 | Vd e h1=>exact .inr ⟨_,_,_,_,rfl,e,h1,by simp only[dE,String.reduceEq],by simp only[dE,String.reduceEq],by rw[xE];decide,by rw[G9];decide,by omega,rfl,fun h=>⟨h.1,h.2⟩,rfl⟩
 | neg e h1=>exact .inr ⟨_,_,_,_,rfl,e,h1,by simp only[dE,String.reduceEq],by simp only[dE,String.reduceEq],by rw[xE];decide,by rw[G9];decide,by omega,rfl,fun h=>⟨h.1,h.2⟩,rfl⟩
 | _=>exact .inl rfl
theorem Ln{a b:Str}:pE [.str a,.str b]=some [a,b]:=rfl
theorem Q4{a b c d:Str}:pE [.str a,.str b,.str c,.str d]=some [a,b,c,d]:=rfl
theorem sF{a b:String}(h:decide (a=b)=false):(Str.ofString a=Str.ofString b)=False:=by
 rw[dE];exact eq_false (of_decide_eq_false h)
theorem bV.hdw{H:Hp}{v:V}{m:Stm}(h:bV H v m):∃(a:Addr) (w:Str) (r:List V),v=.ref a/\H a=some (.tup (.str w::r))/\(m.isB=false->((w=("while":Str))=False)/\((w=("if":Str))=False)/\m.rows=[m.hd]) /\
    (m.isG=true->((w=("send":Str))=False)/\((w=("drop":Str))=False)/\((w=("end":Str))=False)/\(∃ r',r=.str m.nm::r')/\(m.UL->m.nm.length<=20)):=by
  cases h with
  | whl=>exact⟨_,_,_,rfl,by assumption,nofun,nofun⟩
  | iff=>exact⟨_,_,_,rfl,by assumption,nofun,nofun⟩
  | send=>exact⟨_,_,_,rfl,by assumption,fun _=>⟨sF rfl,sF rfl,rfl⟩,nofun⟩
  | drop=>exact⟨_,_,_,rfl,by assumption,fun _=>⟨sF rfl,sF rfl,rfl⟩,nofun⟩
  | fin=>exact⟨_,_,_,rfl,by assumption,fun _=>⟨sF rfl,sF rfl,rfl⟩,nofun⟩
  | _=>exact⟨_,_,_,rfl,by assumption,fun _=>⟨sF rfl,sF rfl,rfl⟩,fun _=>⟨sF rfl,sF rfl,sF rfl,⟨_,rfl⟩,fun h=>h.1.len⟩⟩
theorem bL.take{H:Hp}{vs:List V}{a:List Stm}(n:Nat)(h:bL H vs a):bL H (vs.take n) (a.take n):=by
 induction n generalizing vs a with
 | zero=>exact .nil
 | succ n ih =>
  cases h with
  | nil=>exact .nil
  | cons h r=>exact .cons h (ih r)
theorem bL.drop{H:Hp}{vs:List V}{a:List Stm}(n:Nat)(h:bL H vs a):bL H (vs.drop n) (a.drop n):=by
 induction n generalizing vs a with
 | zero=>exact h
 | succ n ih =>
  cases h with
  | nil=>exact .nil
  | cons h r=>exact ih r
noncomputable def Stm.kd:Stm->Str
 | .set _ _=>"set" | .order _ _ _=>"order" | .timer _ _=>"timer" | .child _ _ _=>"child" | .send _ _ _=>"send" | .drop _=>"drop" | .wait _ _=>"wait" | .hear _ _=>"hear" | .fin _=>"end" | .whl _ _=>"while" | .iff _ _ _=>"if"
theorem bV.kd{H:Hp}{v:V}{m:Stm}(h:bV H v m):∃ a xs,v=.ref a/\H a=some (.tup (.str m.kd::xs)):=by cases h<;>exact⟨_,_,rfl,by assumption⟩
local macro_rules | `(tactic| wp_walk) => `(tactic| wp_walk using true_and)
local macro_rules | `(tactic| wp_walk using $ts,*) => do
  let us ← ts.getElems.mapM fun t => `(Lean.Parser.Tactic.simpLemma| $t:term)
  let vs <- ("↓OP ↓ON ↓RA ↓RB ↓Kt ↓RC ↓OQ ↓OO ↓Kr ↓Pk ↓RD ↓HP ↓Ks ↓Rz ↓Ry ↓Q0 ↓Qc ↓Nu ↓QY ↓NF ↓Qy ↓NM ↓TM ↓Tv ↓TH ↓TN ↓Uy ↓MF ↓QO ↓MC ↓Tu ↓QG ↓Q6 ↓MM ↓MN ↓Nw ↓Ji ↓MG ↓Mw ↓QU ↓Nx ↓Qa ↓TK ↓QP ↓Jj ↓TL ↓NA ↓GG ↓M6 ↓M5 ↓JA ↓MZ ↓Qw ↓QW ↓Qb ↓QV ↓Lm ↓QT ↓JH ↓JF ↓JG ↓GH ↓GI ↓JE ↓QB ↓QC ↓Mt ↓Mv ↓Mu ↓MD ↓Q3 ↓Q2 ↓MH ↓Np ↓Nn ↓Q1 ↓Tw ↓MK ↓Nj ↓Nl ↓Nk ↓Qd ↓Qe ↓Qf ↓Qg ↓Qh ↓Qi ↓Qj ↓Qk ↓Ql ↓Qm ↓Mx ↓My ↓Mz ↓Jk ↓Jl ↓Jm ↓Gj ↓Js ↓Jt ↓Gn ↓Gp ↓Gq ↓Gr ↓Gs ↓Ng ↓Nh ↓M9 ↓M8 ↓Tz ↓JB ↓QH ↓QI ↓P8 ↓yY ↓A5 ↓y6 ↓yZ ↓y4 ↓wL ↓yX ↓wO ↓wM ↓wN ↓y7 ↓A6 ↓zA ↓y8 ↓y9 ↓uZ ↓wQ ↓u4 ↓u0 ↓u3 ↓Gz ↓GB ↓EU ↓EV ↓GA ↓GC ↓C6 ↓C7 ↓Gx ↓ET ↓Gy ↓Qo ↓Qp ↓Nf ↓Nd ↓QQ ↓Jy ↓QR ↓Jz ↓MV ↓MW ↓MX ↓Jp ↓Jo ↓JI ↓Jq ↓NU ↓Qq ↓Qx ↓Qs ↓MR ↓MQ ↓MP ↓NI ↓M7 ↓Tq ↓Tr ↓Tt ↓QM ↓QL ↓JJ ↓MS ↓MI ↓Jn ↓JM ↓NG ↓QZ ↓JN ↓Jv ↓Tp ↓Q7 ↓NK ↓NL ↓Ni ↓JQ ↓JP ↓Nv ↓JS ↓Qv ↓TB ↓TC ↓Gw ↓MT ↓TF ↓Qt ↓NB ↓JR ↓NS ↓NO ↓NQ ↓GL ↓NR ↓NT ↓NP ↓JD ↓Jr ↓QJ ↓Qr ↓QX ↓JC ↓Nm ↓BZ ↓Na ↓GJ ↓MO ↓QF ↓P9 ↓Qz ↓D1 ↓Qu ↓NH ↓MA ↓Nt ↓Nr ↓GF ↓EW ↓ND ↓JK ↓NW ↓NX ↓Nb ↓NN ↓ML ↓Jw ↓Gv ↓Gu ↓Jx ↓MJ ↓M3 ↓QA ↓MB ↓Qn ↓JO ↓MY ↓MU ↓Gm ↓Gk ↓Ju ↓Nc ↓Nq ↓QD ↓QE ↓GD ↓QK ↓Q5 ↓ME ↓Ny ↓Nz ↓QN ↓JL ↓NV ↓NJ ↓SF ↓SG ↓SH ↓SJ ↓SK ↓SM ↓SN ↓SO ↓SQ ↓LM ↓LN ↓LO ↓LP ↓LQ ↓LR ↓LS ↓LU ↓LV ↓LW ↓LX ↓LY ↓LZ ↓L0 ↓L6 ↓L7 ↓L8 ↓L9 ↓Ma ↓Mb ↓SI ↓LL ↓SE ↓Ug ↓Sy ↓Sz ↓SA ↓SD ↓Ue ↓aE ↓List.set_cons_zero ↓List.set_cons_succ ↓List.getElem?_cons_zero ↓List.getElem?_cons_succ L2.start Hl Lv List.cons_append List.nil_append List.append_nil List.replicate_succ List.replicate_zero List.length_cons List.length_nil Nat.reduceAdd Nat.reduceSub Nat.zero_add Nat.add_zero Nat.reduceLeDiff Nat.reducePow Nat.reduceLT true_and and_true false_and and_false forall_const ↓reduceIte dE String.reduceEq Int.reduceToNat Int.reducePow Int.reduceNeg Int.reduceSub Int.reduceAdd Int.reduceMul Int.reduceLT Int.reduceLE Int.reduceEq sizeLine UD Ud decide_true decide_false Bool.not_true Bool.not_false Bool.false_eq_true".splitOn " ").toArray.mapM fun(n:String)=>do
    let p:=n.splitOn "↓";let x:=Lean.mkIdent (p.getLastD "").toName
    if p.length = 1 then `(Lean.Parser.Tactic.simpLemma| $x:term) else `(Lean.Parser.Tactic.simpLemma| ↓ $x:term)
  let ws:=us++vs
  `(tactic| try simp (config := { dsimp := false }) only [$ws,*])
noncomputable def Ep(K:q0B):Sp:=fun vs H Q _=>∃(a:Addr) (ns:List Int),vs=[.ref a]/\dU K H a (ns.map V.int)/\ns.length<=63/\∀ H',Q (.bl true) H'
section
variable {P:Program} {w:World} {K:q0B} {mg:q0C} {base:Heap}
theorem Bm{t:Ad}(T:Tx K mg t):bN P w K mg base UR 1 t.pI t.pP ["cell"] Ic:=by
 refine T.wW.ok l8 (fun vs H Q E h=>?_) (fun UN A outer s H vs Q E hr h=>?_)
 ·obtain⟨c,rfl,_⟩:=h;rfl
 ·obtain⟨c,rfl,q⟩:=h;refine⟨_,(aD (aO (i:=1) l8.nd rfl (Or.inl rfl) (aW tP (pv 0) aG))
   (aD (aO (i:=1) l8.nd rfl (Or.inl rfl) (aW tP (aW aU (aW tQ (aW tP (aW tQ (pv 1) (pv 1)) aG) (aW aU (pv 1) aG)) aG) aG))
   (aH (aN (bF (aC (pv 0) (aC (pv 1) (aC (dF oA rfl T.CU sP (aC (rS Rv (pv 0) (aW pY aG aG) (nomark _)) aB)) aB)))))))),?_⟩
  and_intros
  wp_walk;have m0:=Int.emod_nonneg c (show(536870909:Int)≠0 by decide);have m1:=Int.emod_lt_of_pos c (show(0:Int) < 536870909 by decide);have n0:=Int.emod_nonneg (c % 536870909 * (c % 536870909)) (show(536870909:Int)≠0 by decide);have n1:=Int.emod_lt_of_pos (c % 536870909 * (c % 536870909)) (show(0:Int) < 536870909 by decide);refine⟨Ct (by omega) (by omega),Ct (by omega) (by omega),fun r hr'=>?_⟩;refine q r _ hr' (Kp.new hr') ⟨_,_,_,aE,?_,?_⟩
  ·exact Int.emod_nonneg _ (by decide)
  ·exact Int.emod_lt_of_pos _ (by decide)
theorem aS{t:Ad}(T:Tx K mg t):bN P w K mg base UR 1 t.vY t.wJ ["row","many"] Ig:=by
 refine T.aZ.ok yG (fun vs H Q E h=>?_) (fun UN A outer s H vs Q E hr h=>?_)
 ·obtain⟨r,m,rfl,_⟩:=h;rfl
 ·obtain⟨r,m,rfl,m0,m1,⟨c,l,f,hr0,l0,l1⟩,q⟩:=h;refine⟨_,(aD (bE (aL bT (bH cB (pv 0) aG (fun _ _=>rfl)) aG (nomark _)) (aD (aO (i:=2) yG.nd rfl (Or.inl rfl) (aW tP (bH cB (pv 0) aG (fun _ _=>rfl)) (pv 1)))
   (aD (nJ (aW HE (bH cB (pv 0) aG (fun _ _=>rfl)) (pv 1)) (nI (pv 0) aG uW))
   (aH (aN (pv 2))))) aR)
   (aD (nJ (aW tP (aW tQ (aW aU (bH cB (pv 0) aG (fun _ _=>rfl)) aG) (aW aU (bH cB (pv 0) aG (fun _ _=>rfl)) aG)) aG) (nI (pv 0) aG uW))
   (aH (aN (aW tP (aW aU (aW tQ (bH cB (pv 0) aG (fun _ _=>rfl)) aG) aG) (pv 1)))))),?_⟩
  and_intros
  wp_walk using hr0;have n0:=Int.emod_nonneg ((l+7919) * (l+104729)) (show(536870909:Int)≠0 by decide);have n1:=Int.emod_lt_of_pos ((l+7919) * (l+104729)) (show(0:Int) < 536870909 by decide);split
  ·exact⟨m0,⟨m0,log2_lt m0 m1⟩,q _ _ (Int.emod_nonneg _ (by omega)) (Int.emod_lt_of_pos _ m0) ⟨_,_,_,aE,l0,l1⟩ (Kp.set (by simp))⟩
  ·exact⟨Ct (by omega) (by omega),Ct (by omega) (by omega),m0,q _ _ (Int.emod_nonneg _ (by omega)) (Int.emod_lt_of_pos _ m0) ⟨_,_,_,aE,n0,n1⟩ (Kp.set (by simp))⟩
theorem Cy{t:Ad}(T:Tx K mg t):bN P w K mg base UR 2 t.sH t.sU ["row"] Er:=by
 refine T.Ai.ok uU (fun vs H Q E h=>?_) (fun UN A outer s H vs Q E hr h=>?_)
 ·obtain⟨r,rfl,_⟩:=h;rfl
 ·obtain⟨r,rfl,hR,q⟩:=h;refine⟨_,(aD (aO (i:=1) uU.nd rfl (Or.inl rfl) (aI (aS T) (hr.mono (by omega)) rfl T.bB T.aZ.kp T.bA .nil pass0 (aC (pv 0) (aC aG aB))))
   (aD (bE (aL bT (pv 1) aG (nomark _)) (aH (aN qA)) aR)
   (aD (bE (aL bT (pv 1) aG (nomark _)) (aH (aN (bH cB (bF (aC (aW pY aG aG) (aC (rV l9 (aW pY aG aG)) (aC (aW gW (aW pY aG aG) aG) (aC (aW gW aG (aW pY aG aG)) aB))))) (aI (aS T) (hr.mono (by omega)) rfl T.bB T.aZ.kp T.bA .nil pass0 (aC (pv 0) (aC aG aB))) (fun _ _=>rfl)))) aR)
   (aD (bE (aL bT (pv 1) aG (nomark _)) (aH (aN (aW gW (aI (aS T) (hr.mono (by omega)) rfl T.bB T.aZ.kp T.bA .nil pass0 (aC (pv 0) (aC (aW aU (aW tQ aG (aW pY aG aG)) aG) aB))) (aW pY aG aG)))) aR)
   (aD (bE (aL bT (pv 1) aG (nomark _)) (aH (aN (aW tQ (bH cB (bF (aC aG (aC (rV l9 aG) aB))) (aI (aS T) (hr.mono (by omega)) rfl T.bB T.aZ.kp T.bA .nil pass0 (aC (pv 0) (aC aG aB))) (fun _ _=>rfl)) (aI (aS T) (hr.mono (by omega)) rfl T.bB T.aZ.kp T.bA .nil pass0 (aC (pv 0) (aC aG aB)))))) aR)
   (aH (aN (aW gW (aI (aS T) (hr.mono (by omega)) rfl T.bB T.aZ.kp T.bA .nil pass0 (aC (pv 0) (aC aG aB))) aG)))))))),?_⟩
  and_intros
  wp_walk;refine⟨hR,fun g H1 a1 b1 R1 K1=>?_⟩;split
  ·exact q none H1 Cc R1 K1
  split
  ·refine fun p hp=>⟨R1.new hp,fun g2 H2 a2 b2 R2 K2=>?_⟩;wp_walk using K2.made R1 hp;refine dB a2 b2 fun v hv=>?_;wp_walk;have K:=K1.trans ((Kp.new hp).trans K2);simp only[List.mem_cons,List.not_mem_nil,or_false] at hv;rcases hv with rfl|rfl|rfl|rfl<;>exact q (some _) _ (m5 (by decide) (by decide)) R2 K
  split
  ·refine⟨R1,fun g2 H2 a2 b2 R2 K2=>?_⟩;exact q (some _) _ (m5 (by omega) (by omega)) R2 (K1.trans K2)
  split
  ·refine fun p hp=>⟨R1.new hp,fun g2 H2 a2 b2 R2 K2=>?_⟩;wp_walk using K2.made R1 hp;refine dB a2 b2 fun v hv=>?_;wp_walk;refine⟨R2,fun g3 H3 a3 b3 R3 K3=>?_⟩;have K:=(K1.trans ((Kp.new hp).trans K2)).trans K3;simp only[List.mem_cons,List.not_mem_nil,or_false] at hv;rcases hv with rfl|rfl
   ·wp_walk;exact q (some _) _ (m5 (by omega) (by omega)) R3 K
   ·wp_walk;exact⟨Ct (by decide) (by decide),q (some _) _ (m5 (by omega) (by omega)) R3 K⟩
  ·refine⟨R1,fun g2 H2 a2 b2 R2 K2=>?_⟩;exact q (some _) _ (m5 (by omega) (by omega)) R2 (K1.trans K2)
theorem BA{t:Ad}(T:Tx K mg t){n d:Nat}(hn:3<=n)(IH:bN P w K mg base UR n t.iW t.iY ["row","deep","names","left"] (yL d)):bN P w K mg base UR (n+1) t.iW t.iY ["row","deep","names","left"] (yL (d+1)):=by
 refine T.eT.ok fL (fun vs H Q E h=>?_) (fun UN A outer s H vs Q E hr h=>?_)
 ·obtain⟨r,nl,lf,dp,xs,k,rfl,_⟩:=h;rfl
 ·obtain⟨r,nl,lf,dp,xs,k,rfl,I,hd,q⟩:=h;refine⟨_,(aD (aO (i:=4) fL.nd rfl (Or.inl rfl) (aI (aS T) (hr.mono (by omega)) rfl T.bB T.aZ.kp T.bA .nil pass0 (aC (pv 0) (aC aG aB))))
   (aD (nJ (aW gW (bH cB (pv 3) aG (fun _ _=>rfl)) aG) (nI (pv 3) aG uW))
   (aD (bE (PW.pt (oZ (aL bT (pv 1) aG (nomark _)) (oZ (aL rK (bH cB (pv 3) aG (fun _ _=>rfl)) aG (nomark _)) (lO (aL rK (pv 4) aG (nomark _)))))) (aD (aO (i:=5) fL.nd rfl (Or.inl rfl) (aI (aS T) (hr.mono (by omega)) rfl T.bB T.aZ.kp T.bA .nil pass0 (aC (pv 0) (aC aG aB))))
   (aD (bE (aL rK (pv 5) aG (nomark _)) (aH (aN (bM (aC aF (aC (bH cB (pv 2) (aI (aS T) (hr.mono (by omega)) rfl T.bB T.aZ.kp T.bA .nil pass0 (aC (pv 0) (aC (bP cA rfl T.kS eL (aC (pv 2) aB)) aB))) (fun _ _=>rfl)) aB))))) aR)
   (aD (bE (aL rK (pv 5) aG (nomark _)) (aD (aO (i:=6) fL.nd rfl (Or.inl rfl) (aI (Cy T) (hr.mono (by omega)) rfl T.Fi T.Ai.kp T.EH .nil pass0 (aC (pv 0) aB)))
   (aH (aN (bH cB (bF (aC (bM (aC aF (aC (pv 6) aB))) (aC (bM (aC aF aB)) aB))) (dF oA rfl T.CU sP (aC (rS OG (pv 6) qA (nomark _)) aB)) (fun _ _=>rfl))))) aR)
   (aH (aN (bH cB (bF (aC (bM (aC aF aB)) (aC (bM (aC aF aB)) aB))) (aW gW (pv 5) aG) (fun _ _=>rfl))))))) aR)
   (aD (bE (aL rK (pv 4) aG (nomark _)) (aH (aN (bM (aC (bH cB (bF (aC aF (aC aF aB))) (aW gW (pv 4) aG) (fun _ _=>rfl)) (aC (aI IH (hr.mono (by omega)) rfl T.fW T.eT.kp T.fU .nil pass0 (aC (pv 0) (aC (aW gW (pv 1) aG) (aC (pv 2) (aC (pv 3) aB))))) aB))))) aR)
   (aD (aO (i:=7) fL.nd rfl (Or.inl rfl) (aI IH (hr.mono (by omega)) rfl T.fW T.eT.kp T.fU .nil pass0 (aC (pv 0) (aC (aW gW (pv 1) aG) (aC (pv 2) (aC (pv 3) aB))))))
   (aD (aO (i:=8) fL.nd rfl (Or.inl rfl) (bH cB (bF (aC aF (aC aF (aC aF (aC aF (aC aF aB)))))) (aI (aS T) (hr.mono (by omega)) rfl T.bB T.aZ.kp T.bA .nil pass0 (aC (pv 0) (aC aG aB))) (fun _ _=>rfl)))
   (aH (aN (bM (aC (pv 8) (aC (pv 7) (aC (aI IH (hr.mono (by omega)) rfl T.fW T.eT.kp T.fU .nil pass0 (aC (pv 0) (aC (aW gW (pv 1) aG) (aC (pv 2) (aC (pv 3) aB))))) aB)))))))))))),?_⟩
  and_intros
  refine aP fun Wd U0=>?_;wp_walk;refine⟨I.row,fun g H1 a1 b1 R1 K1=>?_⟩;have l1:=K1.at1 I.Vr I.n2;have n1:=K1.at1 I.Ve I.n1;refine U0 _ _ ?_;clear U0;refine aP fun Wh UY=>?_;wp_walk using l1;have B:Kp [r,lf] H (UH H1 lf (.lst [.int (k - 1)])):=(K1.mono (by simp)).trans (Kp.set (by simp));have Yo:bI (UH H1 lf (.lst [.int (k - 1)])) r:=R1.kp (S:=[lf]) (Kp.set (by simp)) (by simp[I.n2.symm]);have ZJ:UH H1 lf (.lst [.int (k - 1)]) lf=some (.lst [.int (k - 1)]):=aE;generalize UH H1 lf (.lst [.int (k - 1)])=G at *;refine UY _ _ ?_;clear UY;refine aP fun WN U8=>?_;wp_walk using ZJ;simp only[TQ];have n1':=B _ _ I.Ve (by simp[I.n1,I.n3]);have lo:=I.lo;split
  ·refine⟨Yo,fun g2 H2 a2 b2 R2 K2=>?_⟩;have n2:=K2.at1 n1' I.n1;have l2:=K2.at1 ZJ I.n2;have B2:=B.trans (K2.mono (T:=[r,lf]) (by simp));split
   ·wp_walk using n2;have h0:=I.l0;have h1:=I.l1;refine⟨by simp;omega,by simp;omega,R2,fun g3 H3 a3 b3 R3 K3=>?_⟩;wp_walk using K3.at1 n2 I.n1;refine dB a3 b3 fun v hv=>?_;wp_walk;obtain⟨x,hxm,rfl⟩:=List.mem_map.mp hv;exact fun p hp=>q _ (.name x) _ ⟨.name aE,by simpa[Say.depth] using lo,trivial,R3.new hp,⟨_,(q0D hp).at (K3.at1 l2 I.n2)⟩,(B2.trans (K3.mono (by simp))).trans (Kp.new hp),fun y hy=>by rw[show y=x by simpa[Say.nms] using hy];exact hxm⟩
   split
   ·refine⟨R2,fun w H3 hw R3 K3 p1 h1 p2 h2 p3 h3=>?_⟩;have B3:=(((B2.trans (K3.mono (T:=[r,lf]) (by simp))).trans (Kp.new h1)).trans (Kp.new h2)).trans (Kp.new (o:=.lst [.ref p1,.ref p2]) h3);have l3:=(q0D (o:=.lst [.ref p1,.ref p2]) h3).at ((q0D h2).at ((q0D h1).at (K3.at1 l2 I.n2)));have t1:=(q0D (o:=.lst [.ref p1,.ref p2]) h3).at ((q0D (o:=.tup [.str "none"]) h2).at (aE (H:=H3) (a:=p1) (o:=.tup [.str "number",wv w])));have t2:=(q0D (o:=.lst [.ref p1,.ref p2]) h3).at (aE (H:=UH H3 p1 (.tup [.str "number",wv w])) (a:=p2) (o:=.tup [.str "none"]));cases w with
    | none =>
     wp_walk using IF;exact q _ .UK _ ⟨.UK t2,by simpa[Say.depth] using lo,trivial,((R3.new h1).new h2).new h3,⟨_,l3⟩,B3,(by simp[Say.nms])⟩
    | some m =>
     wp_walk using IF,reduceCtorEq;exact q _ (.num m) _ ⟨.num t1,by simpa[Say.depth] using lo,hw m rfl,((R3.new h1).new h2).new h3,⟨_,l3⟩,B3,(by simp[Say.nms])⟩
   ·refine fun p1 h1 p2 h2 p3 h3=>?_;have B3:=((B2.trans (Kp.new h1)).trans (Kp.new h2)).trans (Kp.new (o:=.lst [.ref p1,.ref p2]) h3);have l3:=(q0D (o:=.lst [.ref p1,.ref p2]) h3).at ((q0D h2).at ((q0D h1).at l2));have t1:=(q0D (o:=.lst [.ref p1,.ref p2]) h3).at ((q0D (o:=.tup [.str "now"]) h2).at (aE (H:=H2) (a:=p1) (o:=.tup [.str "arg"])));have t2:=(q0D (o:=.lst [.ref p1,.ref p2]) h3).at (aE (H:=UH H2 p1 (.tup [.str "arg"])) (a:=p2) (o:=.tup [.str "now"]));refine dB (by omega) (by simp;omega) fun v hv=>?_;wp_walk;simp only[List.mem_cons,List.not_mem_nil,or_false] at hv;rcases hv with rfl|rfl
    ·exact q _ .arg _ ⟨.arg t1,by simpa[Say.depth] using lo,trivial,((R2.new h1).new h2).new h3,⟨_,l3⟩,B3,(by simp[Say.nms])⟩
    ·exact q _ .now _ ⟨.now t2,by simpa[Say.depth] using lo,trivial,((R2.new h1).new h2).new h3,⟨_,l3⟩,B3,(by simp[Say.nms])⟩
  rename_i hc
  refine U8 _ _ ?_;clear U8;refine aP fun WO Vi=>?_;wp_walk;split
  ·refine fun p hp=>?_;refine dB (by omega) (by simp;omega) fun v hv=>?_;wp_walk;have K2:Kp [r,lf] G (UH G p (.lst [.str "answer",.str "not"])):=Kp.new hp;refine⟨r,nl,lf,dp - 1,xs,k - 1,rfl,I.kp (B.trans K2) (Yo.new hp) ((q0D hp).at ZJ) (by omega),by omega,fun u s H2 O p2 h2=>?_⟩;obtain⟨k2,l2⟩:=O.Vr;have l3:=(q0D (o:=.tup [v,u]) h2).at l2;have B3:=((B.trans K2).trans O.kp).trans (Kp.new (o:=.tup [v,u]) h2);have od:=O.YJ;simp only[List.mem_cons,List.not_mem_nil,or_false] at hv;rcases hv with rfl|rfl
   ·exact q _ (.Vd s) _ ⟨.Vd aE (O.say.kp (aM.new h2)),by simp only[Say.depth];omega,O.ok,O.row.new h2,⟨_,l3⟩,B3,O.nms⟩
   ·exact q _ (.neg s) _ ⟨.neg aE (O.say.kp (aM.new h2)),by simp only[Say.depth];omega,O.ok,O.row.new h2,⟨_,l3⟩,B3,O.nms⟩
  ·refine Vi _ _ ?_;clear Vi;refine aP fun Xv Vx=>?_;wp_walk;refine⟨r,nl,lf,dp - 1,xs,k - 1,rfl,I.kp B Yo ZJ (by omega),by omega,fun u s H2 O=>?_⟩;refine Vx _ _ ?_;clear Vx;refine aP fun Yc VB=>?_;wp_walk;obtain⟨k2,l2⟩:=O.Vr;refine fun p hp=>⟨O.row.new hp,fun g3 H3 a3 b3 R3 K3=>?_⟩;wp_walk using K3.made O.row hp;refine dB a3 b3 fun v hv=>?_;wp_walk;have l3:=K3.at1 ((q0D hp).at l2) I.n2;have B3:=((B.trans O.kp).trans (Kp.new hp)).trans (K3.mono (T:=[r,lf]) (by simp));refine VB _ _ ?_;clear VB;wp_walk;refine⟨r,nl,lf,dp - 1,xs,k2,rfl,I.kp B3 R3 l3 (by omega),by omega,fun u2 s2 H4 O2 p2 h2=>?_⟩;obtain⟨k4,l4⟩:=O2.Vr;have l5:=(q0D (o:=.tup [v,u,u2]) h2).at l4;have B5:=(B3.trans O2.kp).trans (Kp.new (o:=.tup [v,u,u2]) h2);have o1:=O.YJ;have o2:=O2.YJ;have T1:aM H2 (UH H4 p2 (.tup [v,u,u2])):=(((aM.new hp).trans (aM.row K3 (O.row.new hp))).trans (aM.two O2.kp R3 l3)).trans (aM.new h2);have fin:∀ gg:Sg,v=.str gg.s->Q (.ref p2) (UH H4 p2 (.tup [v,u,u2])):=fun gg e=>by
    subst e;exact q _ (.two gg s s2) _ ⟨.two aE (O.say.kp T1) (O2.say.kp (aM.new h2)),by simp only[Say.depth];omega,⟨O.ok,O2.ok⟩,O2.row.new h2,⟨_,l5⟩,B5,fun y hy=>(List.mem_append.mp hy).elim (O.nms y) (O2.nms y)⟩
   simp only[List.mem_cons,List.not_mem_nil,or_false] at hv;rcases hv with e|e|e|e|e
   ·exact fin .add e
   ·exact fin .sub e
   ·exact fin .mul e
   ·exact fin .lt e
   ·exact fin .eq e
theorem iO{t:Ad}(T:Tx K mg t):∀ d,bN P w K mg base UR (d+3) t.iW t.iY ["row","deep","names","left"] (yL d):=by
 intro d
 induction d with
 | zero=>exact⟨fun _ _ _ _ x=>by (obtain⟨_,_,_,_,_,_,_,I,h,_⟩:=x;exact absurd h (by have:=I.lo;omega)),fun _ _ _ _ _ _ _ _ _ _ _ _ _ x=>by (obtain⟨_,_,_,_,_,_,_,I,h,_⟩:=x;exact absurd h (by have:=I.lo;omega))⟩
 | succ d ih=>exact BA T (by omega) ih
theorem tM{t:Ad}(T:Tx K mg t):bN P w K mg base UR 1 t.AQ t.A3 [] LC:=by
 refine T.vG.ok AH (fun vs H Q E h=>?_) (fun UN A outer s H vs Q E hr h=>?_)
 ·obtain⟨rfl,_⟩:=h;rfl
 ·obtain⟨rfl,q⟩:=h;refine⟨_,(aD (aO (i:=0) AH.nd rfl (Or.inl rfl) (bF (aC aF (aC aF (aC aF (aC aF (aC aF (aC aF (aC aF (aC aF (aC aF (aC aF (aC aF (aC aF aB))))))))))))))
   (aH (aN (aW aU (pv 0) (bF (aC aF (aC aF (aC aF (aC aF (aC aF aB)))))))))),?_⟩
  and_intros
  wp_walk;refine fun p1 h1 p2 h2=>?_;have n:p1≠p2:=aQ aE h2;wp_walk using aY n;refine fun p3 h3=>?_;have n3:p3≠p2:=(aQ aE h3).symm;have n4:p3≠p1:=fun z=>by rw[z,aY n,aE] at h3;cases h3
  have h4:=h3;rw[aY n3,aY n4] at h4;exact q p3 _ h4 (((Kp.new h1).trans (Kp.new h2)).trans (Kp.new h3)) aE
theorem pX{t:Ad}(T:Tx K mg t):bN P w K mg base UR 2 t.vX t.wI ["row"] H8:=by
 refine T.q9.ok fF (fun vs H Q E h=>?_) (fun UN A outer s H vs Q E hr h=>?_)
 ·obtain⟨r,rfl,_⟩:=h;rfl
 ·obtain⟨r,rfl,hR,q⟩:=h;refine⟨_,(aD (aO (i:=1) fF.nd rfl (Or.inl rfl) aF)
   (aD (aO (i:=2) fF.nd rfl (Or.inl rfl) (aI (aS T) (hr.mono (by omega)) rfl T.bB T.aZ.kp T.bA .nil pass0 (aC (pv 0) (aC aG aB))))
   (aD (bE (aL bT (pv 2) aG (nomark _)) (aD (aO (i:=3) fF.nd rfl (Or.inl rfl) (bH cB (x8 (tM T) (hr.mono (by omega)) rfl T.Bl T.vG.kp T.AW .nil pass0) (aI (aS T) (hr.mono (by omega)) rfl T.bB T.aZ.kp T.bA .nil pass0 (aC (pv 0) (aC aG aB))) (fun _ _=>rfl)))
   (aH (aN (bH cB (bF (aC (aW aU (bQ iS (pv 3) cD (cE (rV l9 aG))) aF) (aC (bQ iS (aW aU (pv 3) aF) (cE (rV l9 aG)) cD) (aC (aW aU (bQ iS (pv 3) cD (cE aG)) aF) aB)))) (aI (aS T) (hr.mono (by omega)) rfl T.bB T.aZ.kp T.bA .nil pass0 (aC (pv 0) (aC aG aB))) (fun _ _=>rfl))))) aR)
   (aD (bE (aL bT (pv 2) aG (nomark _)) (aH (aN (bH cB (bF (aC aF (aC aF (aC aF (aC aF (aC aF (aC aF aB))))))) (aI (aS T) (hr.mono (by omega)) rfl T.bB T.aZ.kp T.bA .nil pass0 (aC (pv 0) (aC aG aB))) (fun _ _=>rfl)))) aR)
   (aD (aO (i:=4) fF.nd rfl (Or.inl rfl) aF)
   (aD (Bt PassesOwn.never rfl (oN rfl T.uB (aC (aW aU aG (aI (aS T) (hr.mono (by omega)) rfl T.bB T.aZ.kp T.bA .nil pass0 (aC (pv 0) (aC aG aB)))) aB)) (lN (i:=5) fF.nd rfl (Or.inl rfl)) (aH (aO (i:=4) fF.nd rfl (Or.inl rfl) (aW aU (pv 4) (bH cB (pv 1) (aI (aS T) (hr.mono (by omega)) rfl T.bB T.aZ.kp T.bA .nil pass0 (aC (pv 0) (aC aG aB))) (fun _ _=>rfl))))))
   (aD (bE (aL tO (pv 4) (x8 (tM T) (hr.mono (by omega)) rfl T.Bl T.vG.kp T.AW .nil pass0) (by with_unfolding_all rfl)) (aH (aO (i:=4) fF.nd rfl (Or.inl rfl) (aW aU (bQ iS (pv 4) cD (cE aG)) aF))) aR)
   (aH (aN (pv 4)))))))))),?_⟩
  and_intros
  wp_walk;obtain⟨lx,lz,ls,lq,l0,l26⟩:=Rp;refine⟨hR,fun g H1 a1 b1 R1 K1=>?_⟩;split
  ·refine fun p H2 hp K2 e2=>⟨R1.kp K2,fun g2 H3 a3 b3 R3 K3=>?_⟩;have e3:=K3.at1 e2 (R1.none hp);wp_walk using e3;refine dB a3 b3 fun v hv=>?_;wp_walk;obtain⟨x,rfl,hx,nm1,nm2,nm3⟩:=OJ hv;have l1:=kQ x none (some (-1));have l2:=kQ (x++"s") (some (-6)) none;have l3:=kQ x none (some 5);have l4:=bO x "s";have l5:=bO (Txt.slice x none (some (-1))) "z";have l6:=bO (Txt.slice x none (some 5)) "x";wp_walk;refine⟨by omega,by omega,by omega,by omega,by omega,by omega,fun p4 h4=>⟨R3.new h4,fun g5 H5 a5 b5 R5 K5=>?_⟩⟩;wp_walk using K5.made R3 h4;refine dB a5 b5 fun v hv=>?_;wp_walk;have K:=K1.trans ((Kp.of K2.same).trans (K3.trans ((Kp.new h4).trans K5)));simp only[List.mem_cons,List.not_mem_nil,or_false] at hv;rcases hv with rfl|rfl|rfl
   ·exact q _ _ nm1 R5 K
   ·exact q _ _ nm2 R5 K
   ·exact q _ _ nm3 R5 K
  split
  ·refine fun p4 h4=>⟨R1.new h4,fun g5 H5 a5 b5 R5 K5=>?_⟩;wp_walk using K5.made R1 h4;refine dB a5 b5 fun v hv=>?_;wp_walk;have K:=K1.trans ((Kp.new h4).trans K5);obtain⟨x6,rfl,n6⟩:=OY _ hv;exact q _ _ n6 R5 K
  ·refine⟨R1,fun g5 H5 a5 b5 R5 K5=>⟨⟨by omega,by omega⟩,?_⟩⟩;refine Ak (lo:=0) (fun i σ H'=>∃(x:Str) (v:Option V),σ=[some (.ref r),some (.str "abcdefghijklmnopqrstuvwxyz"),some (.int g),none,some (.str x),v]/\(x.length=i/\x.length<=6/\x.cps.toList.all (fun c=>decide (97<=c)&&decide (c<=122))=true)/\bI H' r/\Kp [r] H H')
    ⟨"",none,rfl,⟨l0,by omega,by decide +kernel⟩,R5,K1.trans K5⟩ ?_ ?_
   ·rintro i σ H' hi ⟨x,v,rfl,hx,R',K'⟩;wp_walk;refine⟨R',fun g6 H6 a6 b6 R6 K6=>⟨by omega,?_⟩⟩;refine Ei a6 (by omega) fun c hcm=>?_;have l1:=bO x ⟨#[c]⟩;have l2:=Ki c;wp_walk;exact⟨by omega,_,_,rfl,⟨by omega,by omega,FL hx.2.2 (EE c hcm)⟩,R6,K'.trans K6⟩
   ·rintro σ H' ⟨x,v,rfl,hx,R',K'⟩;have lx:x.length<=100:=by omega
    wp_walk;refine fun p H2 hp K2 e2=>?_;wp_walk using e2,HG,cN;have K:=K'.trans (Kp.of K2.same);split
    ·have l3:=kQ x none (some 5);have l4:=bO (Txt.slice x none (some 5)) "q";exact⟨by omega,by omega,q _ _ (Rw ‹_›) (R'.kp K2) K⟩
    ·exact q _ _ (Rr (by omega) hx.2.1 hx.2.2 ‹_›) (R'.kp K2) K
theorem Dr{t:Ad}(T:Tx K mg t):bN P w K mg base UR 10 t.vV t.wG ["row","names","deep"] HY:=by
 refine T.B8.ok lZ (fun vs H Q E h=>?_) (fun UN A outer s H vs Q E hr h=>?_)
 ·obtain⟨r,nl,dp,xs,rfl,_⟩:=h;rfl
 ·obtain⟨r,nl,dp,xs,rfl,I,d0,d6,q⟩:=h;refine⟨_,(aD (aO (i:=3) lZ.nd rfl (Or.inl rfl) (aI (aS T) (hr.mono (by omega)) rfl T.bB T.aZ.kp T.bA .nil pass0 (aC (pv 0) (aC aG aB))))
   (aD (aO (i:=4) lZ.nd rfl (Or.inl rfl) (bH cB (pv 1) (aI (aS T) (hr.mono (by omega)) rfl T.bB T.aZ.kp T.bA .nil pass0 (aC (pv 0) (aC (bP cA rfl T.kS eL (aC (pv 1) aB)) aB))) (fun _ _=>rfl)))
   (aD (aO (i:=5) lZ.nd rfl (Or.inl rfl) (aI (iO T 6) (hr.mono (by omega)) rfl T.fW T.eT.kp T.fU .nil pass0 (aC (pv 0) (aC (pv 2) (aC (pv 1) (aC (bF (aC aG aB)) aB))))))
   (aD (bE (aL bT (pv 3) aG (nomark _)) (aH (aN (bM (aC aF (aC (pv 4) (aC (aI (pX T) (hr.mono (by omega)) rfl T.xP T.q9.kp T.wA .nil pass0 (aC (pv 0) aB)) (aC (pv 5) aB))))))) aR)
   (aD (bE (aL bT (pv 3) aG (nomark _)) (aH (aN (bM (aC aF (aC (pv 4) (aC (pv 5) aB)))))) aR)
   (aD (bE (aL bT (pv 3) aG (nomark _)) (aH (aN (bM (aC aF (aC (pv 4) (aC (aI (pX T) (hr.mono (by omega)) rfl T.xP T.q9.kp T.wA .nil pass0 (aC (pv 0) aB)) (aC (pv 5) aB))))))) aR)
   (aD (bE (aL bT (pv 3) aG (nomark _)) (aH (aN (bM (aC aF (aC (pv 5) (aC (bH cB (pv 1) (aI (aS T) (hr.mono (by omega)) rfl T.bB T.aZ.kp T.bA .nil pass0 (aC (pv 0) (aC (bP cA rfl T.kS eL (aC (pv 1) aB)) aB))) (fun _ _=>rfl)) (aC (aI (iO T 6) (hr.mono (by omega)) rfl T.fW T.eT.kp T.fU .nil pass0 (aC (pv 0) (aC (pv 2) (aC (pv 1) (aC (bF (aC aG aB)) aB))))) aB))))))) aR)
   (aD (bE (aL bT (pv 3) aG (nomark _)) (aH (aN (bM (aC aF (aC (pv 5) aB))))) aR)
   (aD (bE (aL bT (pv 3) aG (nomark _)) (aH (aN (bM (aC aF (aC (pv 4) (aC (aW Ec (bM (aC (pv 5) aB)) (dF oB rfl T.uC qU (aC (lM (fr:=[0,1]) (N:=["k","row","names"]) rfl (fun _ _ h=>h) (eK.free rfl rfl rfl rfl rfl (fun _ _ h=>look2 (by decide) h) rfl (by decide) rfl (fun j hj=>by rcases(show j=0\/j=1 by simpa using hj) with rfl|rfl<;>exact⟨_,rfl,rfl,.inl rfl⟩)) (oN rfl T.uB (aC (aI (aS T) (hr.mono (by omega)) rfl T.bB T.aZ.kp T.bA .nil pass0 (aC (pv 0) (aC aG aB))) aB)) (fun C s H ex pn=>⟨jP,aI (iO T 6) (hr.mono (by omega)) rfl T.fW T.eT.kp T.fU .nil pass0 (aC (pv 1) (aC aG (aC (pv 2) (aC (bF (aC aG aB)) aB))))⟩)) aB))) aB)))))) aR)
   (aD (bE (aL bT (pv 3) aG (nomark _)) (aH (aN (bM (aC aF (aC (pv 4) (aC (bH cB (pv 1) (aI (aS T) (hr.mono (by omega)) rfl T.bB T.aZ.kp T.bA .nil pass0 (aC (pv 0) (aC (bP cA rfl T.kS eL (aC (pv 1) aB)) aB))) (fun _ _=>rfl)) aB)))))) aR)
   (aD (bE (aL bT (pv 3) aG (nomark _)) (aH (aN (bM (aC aF (aC (pv 5) aB))))) aR)
   (aH (aN (bM (aC aF (aC (pv 4) (aC (pv 5) aB))))))))))))))))),?_⟩
  and_intros
  refine aP fun Wd U0=>?_;wp_walk;refine⟨I.row,fun g H1 a1 b1 R1 K1=>?_⟩;have I1:=I.kp K1 R1;refine U0 _ _ ?_;clear U0;refine aP fun Wh UY=>?_;wp_walk using I1.Ve,List.length_map;have x0:=I.l0;have x1:=I.l1;refine⟨by omega,by omega,R1,fun g2 H2 a2 b2 R2 K2=>?_⟩;have I2:=I1.kp K2 R2;wp_walk using I2.Ve;refine dB a2 (by simpa using b2) fun v hv=>?_;wp_walk;obtain⟨x,hxm,rfl⟩:=List.mem_map.mp hv;have Ya:=I.sh x hxm;refine UY _ _ ?_;clear UY;refine aP fun WN U8=>?_;wp_walk;refine fun lf Vr=>⟨r,nl,lf,dp,xs,6,rfl,I2.say Vr d0,by omega,fun u s H3 O=>?_⟩;have K3:=(K1.trans K2).trans (O.kp1 Vr);have s6:=O.s6 d6 I.sh;have I3:=I.kp K3 O.row;have fin:∀(v:V) (m:Stm) (H':Hp),bV H' v m->m.wf->m.dp=0->m.sz=1->bI H' r->Kp [r] H3 H'->Q v H':=fun v m H' h1 h2 h3 h4 h5 h6=>q v m H' ⟨h1,h2,h3,h4,h5,K3.trans h6⟩;refine U8 _ _ ?_;clear U8;refine aP fun WO Vi=>?_;wp_walk using I3.Ve,List.length_map;split
  ·refine⟨O.row,fun y H4 hy R4 K4 p hp=>?_⟩;exact fin _ (.order x y s) _ (.order aE ((O.say.kp (aM.row K4 O.row)).kp (aM.new hp))) ⟨Ya,hy,s6⟩ rfl rfl (R4.new hp) (K4.trans (Kp.new hp))
  refine Vi _ _ ?_;clear Vi;refine aP fun Xv Vx=>?_;wp_walk using I3.Ve,List.length_map;split
  ·exact fun p hp=>fin _ (.timer x s) _ (.timer aE (O.say.kp (aM.new hp))) ⟨Ya,s6⟩ rfl rfl (O.row.new hp) (Kp.new hp)
  refine Vx _ _ ?_;clear Vx;refine aP fun Yc VB=>?_;wp_walk using I3.Ve,List.length_map;split
  ·refine⟨O.row,fun y H4 hy R4 K4 p hp=>?_⟩;exact fin _ (.child x y s) _ (.child aE ((O.say.kp (aM.row K4 O.row)).kp (aM.new hp))) ⟨Ya,hy,s6⟩ rfl rfl (R4.new hp) (K4.trans (Kp.new hp))
  refine VB _ _ ?_;clear VB;refine aP fun Yp V2=>?_;wp_walk using I3.Ve,List.length_map;split
  ·refine⟨by omega,by omega,O.row,fun g4 H4 a4 b4 R4 K4=>?_⟩;have I4:=I3.kp K4 R4;wp_walk using I4.Ve;refine dB a4 (by simpa using b4) fun v4 YX=>?_;wp_walk;obtain⟨k,hkm,rfl⟩:=List.mem_map.mp YX;refine fun lf4 YL=>⟨r,nl,lf4,dp,xs,6,rfl,I4.say YL d0,by omega,fun u5 s5 H5 O5 p hp=>?_⟩;have K5:=O5.kp1 YL;exact fin _ (.send s k s5) _ (.send aE (((O.say.kp (aM.row K4 O.row)).kp (aM.row K5 R4)).kp (aM.new hp)) (O5.say.kp (aM.new hp))) ⟨s6,I.sh k hkm,O5.s6 d6 I.sh⟩ rfl rfl (O5.row.new hp) ((K4.trans K5).trans (Kp.new hp))
  refine V2 _ _ ?_;clear V2;refine aP fun R_8 hR8=>?_;wp_walk using I3.Ve,List.length_map;split
  ·exact fun p hp=>fin _ (.drop s) _ (.drop aE (O.say.kp (aM.new hp))) s6 rfl rfl (O.row.new hp) (Kp.new hp)
  refine hR8 _ _ ?_;clear hR8;refine aP fun R_9 hR9=>?_;wp_walk using I3.Ve,List.length_map;split
  ·refine fun p hp=>⟨O.row.new hp,fun g4 H4 a4 b4 R4 K4=>⟨⟨by omega,by omega⟩,?_⟩⟩;have I4:=(I3.kp (Kp.new hp) (O.row.new hp)).kp K4 R4;have e4:H4 p=some (.tup [u]):=K4.made O.row hp;have s4:=(O.say.kp (aM.new (o:=.tup [u]) hp)).kp (aM.row K4 (O.row.new hp));have npr:=O.row.none hp;have Xt:Kp [r] H3 H4:=(Kp.new hp).trans K4;refine Ci (lo:=0) (fun j vs G=>∃ ss:List Say,cO G vs ss/\(ss.length=j/\j<=3)/\(∀ s∈ss,s.s6)/\bI G r/\Kp [r] H4 G) ⟨[],.nil,⟨rfl,by decide⟩,by simp,R4,Kp.refl⟩ ?_ ?_ ?_
   ·rintro j vs G ⟨ss,h,hl,_,_,_⟩;have:=h.len;omega
   ·rintro j vs G hj ⟨ss,h,hl,h6,R,K⟩;have IG:=I4.kp K R;wp_walk using bJ,Option.join_some;refine fun lf2 YK=>⟨r,nl,lf2,2,xs,3,rfl,IG.say YK (by decide),by decide,fun u5 s5 H5 O5=>?_⟩;have K5:=O5.kp1 YK;exact⟨ss++[s5],(h.kp (aM.row K5 R)).snoc O5.say,⟨by simp[hl.1],by omega⟩,fun z hz=>(List.mem_append.mp hz).elim (h6 z) fun hz=>by rw[show z=s5 by simpa using hz];exact O5.s6 (by decide) I.sh,O5.row,K.trans K5⟩
   ·rintro vs G ⟨ss,h,hl,h6,R,K⟩ l VC;have eG:=K.at1 e4 npr;have sG:=s4.kp (aM.row K R4);have hlen:=h.len;wp_walk;refine fun c hc=>?_;have KN:=(q0D (o:=.lst vs) VC).trans (Kp.new (o:=.tup vs) hc);have ep:=KN.at eG;have ec:UH (UH G l (.lst vs)) c (.tup vs) c=some (.tup vs):=aE;have sN:=sG.kp (aM.nil KN);have hN:=h.kp (aM.nil KN);have RN:=(R.new (o:=.lst vs) VC).new (o:=.tup vs) hc;generalize UH (UH G l (.lst vs)) c (.tup vs)=G2 at *;have KF:Kp [r] H3 G2:=(Xt.trans K).trans (Kp.of KN.same);wp_walk using ep,ec,reduceCtorEq,GK;refine⟨by omega,?_⟩;split
    ·rename_i c0
     subst c0;refine fun c7 Wr=>fin _ (.wait x [s]) _ (.wait aE ((q0D Wr).at ep) (.cons (sN.kp (aM.new Wr)) .nil)) ⟨Ya,by simp,fun z hz=>by rw[show z=s by simpa using hz];exact s6⟩ rfl rfl (RN.new Wr) (KF.trans (Kp.new Wr))
    ·refine fun c6 YI c7 Wr=>?_;have T7:aM G2 (UH (UH G2 c6 (.tup (u::vs))) c7 (.tup [.str "wait",.str x,.ref c6])):=(aM.new YI).trans (aM.new Wr);refine fin _ (.wait x (s::ss)) _ (.wait aE ((q0D Wr).at aE) (.cons (sN.kp T7) (hN.kp T7))) ⟨Ya,by simp;omega,fun z hz=>?_⟩ rfl rfl ((RN.new YI).new Wr) ((KF.trans (Kp.new YI)).trans (Kp.new Wr));rcases List.mem_cons.mp hz with rfl|hz
     ·exact s6
     ·exact h6 z hz
  refine hR9 _ _ ?_;clear hR9;refine aP fun aaU YD=>?_;wp_walk using I3.Ve,List.length_map;split
  ·refine⟨by omega,by omega,O.row,fun g4 H4 a4 b4 R4 K4=>?_⟩;have I4:=I3.kp K4 R4;wp_walk using I4.Ve;refine dB a4 (by simpa using b4) fun v4 YX=>?_;wp_walk;obtain⟨k,hkm,rfl⟩:=List.mem_map.mp YX;exact fun p hp=>fin _ (.hear x k) _ (.hear aE) ⟨Ya,I.sh k hkm⟩ rfl rfl (R4.new hp) (K4.trans (Kp.new hp))
  refine YD _ _ ?_;clear YD;refine aP fun aaV YE=>?_;wp_walk using I3.Ve,List.length_map;split
  ·exact fun p hp=>fin _ (.fin s) _ (.fin aE (O.say.kp (aM.new hp))) s6 rfl rfl (O.row.new hp) (Kp.new hp)
  refine YE _ _ ?_;clear YE;wp_walk using I3.Ve,List.length_map;exact fun p hp=>fin _ (.set x s) _ (.set aE (O.say.kp (aM.new hp))) ⟨Ya,s6⟩ rfl rfl (O.row.new hp) (Kp.new hp)
theorem CN{t:Ad}(T:Tx K mg t){n d:Nat}(hn:12<=n)(IH:bN P w K mg base UR n t.kI t.kK ["row","names","deep","left","many"] (Bx d)):bN P w K mg base UR (n+1) t.kI t.kK ["row","names","deep","left","many"] (Bx (d+1)):=by
  refine T.oE.ok gF (fun vs H Q E h=>?_) (fun UN A outer s H vs Q E hr h=>?_)
  · obtain⟨r,nl,lf,dp,many,k,xs,rfl,_⟩:=h;rfl
  · obtain⟨r,nl,lf,dp,many,k,xs,rfl,I,d0,d1,Vr,k0,k1,n1,n2,q⟩:=h;refine⟨_,(aD (aO (i:=5) gF.nd rfl (Or.inl rfl) (bF aB))
      (aD (yB PassesOwn.never (PW.pt (tT (aL CB (bH cB (pv 3) aG (fun _ _=>rfl)) aG (nomark _)) (oP (aL rK (bP cA rfl T.kS eL (aC (pv 5) aB)) (pv 4) (nomark _))))) (aD (nJ (aW gW (bH cB (pv 3) aG (fun _ _=>rfl)) aG) (nI (pv 3) aG uW))
      (aD (aO (i:=6) gF.nd rfl (Or.inl rfl) (aI (aS T) (hr.mono (by omega)) rfl T.bB T.aZ.kp T.bA .nil pass0 (aC (pv 0) (aC aG aB))))
      (aH (bE (PW.pt (oZ (aL rK (pv 6) aG (nomark _)) (lO (aL bT (pv 2) aG (nomark _))))) (aH (iQ (rR (pv 5) (aI (Dr T) (hr.mono (by omega)) rfl T.Hs T.B8.kp T.FR .nil pass0 (aC (pv 0) (aC (pv 1) (aC aG aB))))))) (aD (aO (i:=7) gF.nd rfl (Or.inl rfl) (aI (iO T 6) (hr.mono (by omega)) rfl T.fW T.eT.kp T.fU .nil pass0 (aC (pv 0) (aC aG (aC (pv 1) (aC (bF (aC aG aB)) aB))))))
      (aD (aO (i:=8) gF.nd rfl (Or.inl rfl) (aI IH (hr.mono (by omega)) rfl T.tH T.oE.kp T.sO .nil pass0 (aC (pv 0) (aC (pv 1) (aC (aW gW (pv 2) aG) (aC (pv 3) (aC (aI (aS T) (hr.mono (by omega)) rfl T.bB T.aZ.kp T.bA .nil pass0 (aC (pv 0) (aC aG aB))) aB)))))))
      (aH (bE (aL bT (pv 6) aG (nomark _)) (aH (iQ (rR (pv 5) (bM (aC aF (aC (pv 7) (aC (pv 8) aB))))))) (aD (aO (i:=9) gF.nd rfl (Or.inl rfl) (aI IH (hr.mono (by omega)) rfl T.tH T.oE.kp T.sO .nil pass0 (aC (pv 0) (aC (pv 1) (aC (aW gW (pv 2) aG) (aC (pv 3) (aC (aI (aS T) (hr.mono (by omega)) rfl T.bB T.aZ.kp T.bA .nil pass0 (aC (pv 0) (aC aG aB))) aB)))))))
      (aH (iQ (rR (pv 5) (bM (aC aF (aC (pv 7) (aC (pv 8) (aC (pv 9) aB))))))))))))))))))
      (aH (aN (dF oB rfl T.uC qU (aC (pv 5) aB)))))),?_⟩
    and_intros
    wp_walk;refine fun bl XC=>?_;have XW:=I.row.none XC;have nbn:=aQ I.Ve XC;have ZK:=aQ Vr XC;obtain⟨W,hW⟩:∃ W:Nat->St->Hp->Prop,∀ m σ G,W m σ G = ∃(v6 v7 v8 v9:Option V) (us:List V) (b:List Stm) (k':Int),σ=[some (.ref r),some (.ref nl),some (.int dp),some (.ref lf),some (.int many),some (.ref bl),v6,v7,v8,v9]/\m=k'.toNat/\0<=k'/\G lf=some (.lst [.int k'])/\G bl=some (.lst us)/\bL G us b/\qL b/\(mT b:Int)<=dp/\(gJ b:Int)+k'<=k/\us.length<=gJ b/\bI G r/\Kp [r,lf] H G:=⟨_,fun _ _ _=>rfl⟩;refine⟨W,⟨k.toNat,?_⟩,?_⟩
    · rw[hW];exact⟨none,none,none,none,[],[],k,rfl,rfl,k0,(q0D XC).at Vr,aE,.nil,trivial,d0,by simp[gJ],by simp,I.row.new XC,Kp.new XC⟩
    intro m σ G hG;rw[hW] at hG;obtain⟨v6,v7,v8,v9,us,b,k',rfl,rfl,kp0,Yd,ebl,hB,hw,hd,hz,hl,R,KG⟩:=hG;have fin:∀ l,G l=none->Q (.ref l) (UH G l (.tup us)):=fun l hl=>q l us b k' _ ⟨aE,hB.kp (aM.new hl),hw,hd,hz,kp0,R.new hl,(q0D hl).at Yd,KG.trans (Kp.new hl)⟩;have next:∀(G2:Hp) (v:V) (ms:Stm) (k2:Int) (w6 w7 w8 w9:Option V),G2 bl=some (.lst us)->G2 lf=some (.lst [.int k2])->0<=k2->(ms.sz:Int)+k2<=k'->bV G2 v ms->ms.wf->(ms.dp:Int)<=dp->bL G2 us b->bI G2 r->Kp [r,lf] H G2 ->
        ∃ m',m' < k'.toNat/\W m' [some (.ref r),some (.ref nl),some (.int dp),some (.ref lf),some (.int many),some (.ref bl),w6,w7,w8,w9] (UH G2 bl (.lst (us++[v]))):=fun G2 v ms k2 w6 w7 w8 w9 e1 e2 h0 hs st hwf YJ hB2 R2 K2=>by
      have sp:=ms.DF;refine⟨k2.toNat,by omega,?_⟩;rw[hW];refine⟨w6,w7,w8,w9,us++[v],b++[ms],k2,rfl,rfl,h0,by rw[aY ZK];exact e2,aE,(hB2.snoc st).kp (aM.set e1),EC.mpr ⟨hw,hwf,trivial⟩,?_,?_,?_,R2.kp (S:=[bl]) (Kp.set (by simp)) (by simp[XW.symm]),K2.RK XC⟩
      · rw[DZ];simp only[mT];omega
      · rw[BF];simp only[gJ];omega
      · rw[BF];simp only[gJ,List.length_append,List.length_cons,List.length_nil];omega
    clear hW;have Xw:us.length < 16777216:=by omega
    refine P5 fun P' YB=>?_;wp_walk using Yd,ebl;split
    case isFalse=>exact fin
    split
    case isFalse=>exact fin
    refine YB _ ⟨fun σ' H'=>∃ m',m' < k'.toNat/\W m' σ' H',fun _ _ h=>h,?_⟩;clear YB;refine aP fun Wd U0=>?_;wp_walk using Yd;have K1:Kp [r,lf] H (UH G lf (.lst [.int (k' - 1)])):=KG.trans (Kp.set (by simp));have R1:bI (UH G lf (.lst [.int (k' - 1)])) r:=R.kp (S:=[lf]) (Kp.set (by simp)) (by simp[n1.symm]);have l1:UH G lf (.lst [.int (k' - 1)]) lf=some (.lst [.int (k' - 1)]):=aE;have b1:UH G lf (.lst [.int (k' - 1)]) bl=some (.lst us):=by rw[aY ZK.symm];exact ebl
    have B1:=hB.kp (aM.set (ys:=[.int (k' - 1)]) Yd);generalize UH G lf (.lst [.int (k' - 1)])=G1 at *;refine U0 _ _ ?_;clear U0;refine aP fun Wh UY=>?_;wp_walk;refine⟨R1,fun g G2 a2 b2 R2 K2=>?_⟩;refine UY _ _ ?_;clear UY;wp_walk;have Wg:Kp [r,lf] H G2:=K1.trans (K2.mono (by simp));have l2:=K2.at1 l1 n1;have Yq:=K2.at1 b1 XW;have B2:=B1.kp (aM.row K2 R1);have I2:jS G2 r nl xs:=⟨R2,Wg _ _ I.Ve (by simp[I.n1,n2.symm]),I.l0,I.l1,I.n1,I.sh⟩;have line:HY [.ref r,.ref nl,.int 6] G2 (fun y H2=>bR (H2 bl) fun ys=>ys.length < 16777216/\∃ m',m' < k'.toNat/\W m' [some (.ref r),some (.ref nl),some (.int dp),some (.ref lf),some (.int many),some (.ref bl),some (.int g),v7,v8,v9] (UH H2 bl (.lst (ys++[y])))) E0:=by
      wp_walk using Yq;refine⟨r,nl,6,xs,rfl,I2,by decide,by decide,fun v ms H3 O=>?_⟩;have b3:=O.kp.at1 Yq XW;wp_walk using b3;exact⟨Xw,next H3 v ms (k' - 1) _ _ _ _ b3 (O.kp.at1 l2 n1) (by omega) (by rw[O.sz];omega) O.stm O.wf (by rw[O.dp];omega) (B2.kp (aM.row O.kp R2)) O.row (Wg.trans (O.kp.mono (by simp)))⟩
    split
    · wp_walk using Yq;exact line
    split
    · wp_walk using Yq;exact line
    rename_i c1 c2 c3 c4
    refine fun c hc=>⟨r,nl,c,6,xs,6,rfl,I2.say hc (by decide),by decide,fun u s G3 O=>?_⟩;have K3:=O.kp1 hc;have s6:=O.s6 (by decide) I.sh;wp_walk;refine⟨O.row,fun g4 G4 a4 b4 R4 K4=>?_⟩;have Xt:=K3.trans K4;have K14:Kp [r,lf] H G4:=Wg.trans (Xt.mono (by simp));have l4:=Xt.at1 l2 n1;have bb4:=Xt.at1 Yq XW;have T34:aM G2 G4:=aM.row Xt R2;have I4:jS G4 r nl xs:=I2.kp Xt R4;refine⟨r,nl,lf,dp - 1,g4,k' - 1,xs,rfl,I4,by omega,by omega,l4,by omega,by omega,n1,n2,fun p5 us5 b5 k5 G5 O5=>?_⟩;have Z2:=O5.kp _ _ bb4 (by simp[XW,ZK.symm]);have WQ:aM G4 G5:=aM.two O5.kp R4 l4;have s5:=((O.say.kp (aM.row K4 O.row)).kp WQ);have B5:=((B2.kp T34).kp WQ);have z5:=O5.sz;have p5d:=O5.dp;have k50:=O5.k0;wp_walk using Z2;split
    · refine fun p6 h6=>?_;have KN:=q0D (o:=.tup [.str "while",u,.ref p5]) h6;have b6:=KN.at Z2;wp_walk using b6;exact⟨Xw,next _ (.ref p6) (.whl s b5) k5 _ _ _ _ b6 (KN.at O5.Vr) O5.k0 (by simp only[Stm.sz];omega) (.whl aE (s5.kp (aM.new h6)) (KN.at O5.tup) (O5.KR.kp (aM.new h6))) ⟨s6,O5.wf⟩ (by simp only[Stm.dp];omega) (B5.kp (aM.new h6)) (O5.row.new h6) ((K14.trans O5.kp).trans (Kp.new h6))⟩
    · refine⟨O5.row,fun g6 G6 a6 b6 R6 K6=>?_⟩;have I5:jS G5 r nl xs:=⟨O5.row,O5.kp _ _ I4.Ve (by simp[I.n1,n2.symm]),I.l0,I.l1,I.n1,I.sh⟩;have I6:=I5.kp K6 R6;have l6:=K6.at1 O5.Vr n1;refine⟨r,nl,lf,dp - 1,g6,k5,xs,rfl,I6,by omega,by omega,l6,O5.k0,by omega,n1,n2,fun p7 us7 b7 k7 G7 O7=>?_⟩;have bb7:=O7.kp _ _ (K6.at1 Z2 XW) (by simp[XW,ZK.symm]);have Zu:aM G5 G7:=(aM.row K6 O5.row).trans (aM.two O7.kp R6 l6);have z7:=O7.sz;have p7d:=O7.dp;have k70:=O7.k0;wp_walk using bb7;refine fun p8 h8=>?_;have KN:=q0D (o:=.tup [.str "if",u,.ref p5,.ref p7]) h8;have b8:=KN.at bb7;wp_walk using b8;exact⟨Xw,next _ (.ref p8) (.iff s b5 b7) k7 _ _ _ _ b8 (KN.at O7.Vr) O7.k0 (by simp only[Stm.sz];omega) (.iff aE ((s5.kp Zu).kp (aM.new h8)) ((Zu.trans (aM.new h8)) _ _ O5.tup) ((O5.KR.kp Zu).kp (aM.new h8)) (KN.at O7.tup) (O7.KR.kp (aM.new h8))) ⟨s6,O5.wf,O7.wf⟩ (by simp only[Stm.dp];omega) ((B5.kp Zu).kp (aM.new h8)) (O7.row.new h8) ((((K14.trans O5.kp).trans (K6.mono (by simp))).trans O7.kp).trans (Kp.new h8))⟩
theorem Cw{t:Ad}(T:Tx K mg t):∀ d,bN P w K mg base UR (d+12) t.kI t.kK ["row","names","deep","left","many"] (Bx d):=by
 intro d
 induction d with
 | zero=>exact⟨fun _ _ _ _ x=>by (obtain⟨_,_,_,_,_,_,_,_,_,h,h2,_⟩:=x;exact absurd h (by omega)),fun _ _ _ _ _ _ _ _ _ _ _ _ _ x=>by (obtain⟨_,_,_,_,_,_,_,_,_,h,h2,_⟩:=x;exact absurd h (by omega))⟩
 | succ d ih=>exact CN T (by omega) ih
theorem zJ{t:Ad}(T:Tx K mg t):bN P w K mg base UR 20 t.mK t.mS ["row"] Ia:=by
 refine T.uK.ok kF (fun vs H Q E h=>?_) (fun UN A outer s H vs Q E hr h=>?_)
 ·obtain⟨r,rfl,_⟩:=h;rfl
 ·obtain⟨r,rfl,hR,q⟩:=h;refine⟨_,(aD (DB (i:=1) (fr:=[0]) (N:=["k","row"]) rfl (fun _ _ h=>h) (eK.free rfl rfl rfl rfl rfl (fun _ _ h=>h) rfl (by decide) rfl (fun j hj=>by rw[show j=0 by simpa using hj];exact⟨_,rfl,rfl,.inl rfl⟩)) (oN rfl T.uB (aC aG aB)) (fun C s H ex pn=>⟨jP,aI (pX T) (hr.mono (by omega)) rfl T.xP T.q9.kp T.wA .nil pass0 (aC (pv 1) aB)⟩) kF.nd rfl (Or.inl rfl))
   (aD (aO (i:=2) kF.nd rfl (Or.inl rfl) (bH cB (bF (aC aG (aC aG (aC aG aB)))) (aI (aS T) (hr.mono (by omega)) rfl T.bB T.aZ.kp T.bA .nil pass0 (aC (pv 0) (aC aG aB))) (fun _ _=>rfl)))
   (aH (aN (aI (Cw T 6) (hr.mono (by omega)) rfl T.tH T.oE.kp T.sO .nil pass0 (aC (pv 0) (aC (pv 1) (aC aG (aC (bF (aC (pv 2) aB)) (aC (bH cB (bF (aC (pv 2) (aC (aI (aS T) (hr.mono (by omega)) rfl T.bB T.aZ.kp T.bA .nil pass0 (aC (pv 0) (aC (aW aU (pv 2) aG) aB))) aB))) (aI (aS T) (hr.mono (by omega)) rfl T.bB T.aZ.kp T.bA .nil pass0 (aC (pv 0) (aC aG aB))) (fun _ _=>rfl)) aB)))))))))),?_⟩
  and_intros
  wp_walk;refine Ci (lo:=0) (fun j xs G=>∃ l:List Str,xs=l.map V.str/\(l.length=j/\j<=4)/\(∀ x∈l,cU x)/\bI G r/\Kp [r] H G) ⟨[],rfl,⟨rfl,by decide⟩,by simp,hR,Kp.refl⟩ ?_ ?_ ?_
  ·rintro j xs G ⟨l,rfl,⟨hl,h4⟩,_,_,_⟩;rw[List.length_map];omega
  ·rintro j xs G hj ⟨l,rfl,hl,sh,R,K⟩;wp_walk using bJ,Option.join_some;refine⟨R,fun x G' hx R' K'=>⟨l++[x],by simp,⟨by simp[hl.1],by omega⟩,fun z hz=>?_,R',K.trans K'⟩⟩;rcases List.mem_append.mp hz with hz|hz
   ·exact sh z hz
   ·rw[show z=x by simpa using hz];exact hx
  rintro xs G ⟨l,rfl,⟨hl,_⟩,sh,R,K⟩ nl Ve;wp_walk;refine fun c hc=>?_;have KN:=(q0D (o:=.lst (l.map V.str)) Ve).trans (Kp.new (o:=.lst [.int 3,.int 8,.int 16]) hc);have nnr:=R.none Ve;have ncr:=(R.new (o:=.lst (l.map V.str)) Ve).none hc;have RN:=(R.new (o:=.lst (l.map V.str)) Ve).new (o:=.lst [.int 3,.int 8,.int 16]) hc;have en:=(q0D (o:=.lst [.int 3,.int 8,.int 16]) hc).at (aE (H:=G) (a:=nl) (o:=.lst (l.map V.str)));have ec:UH (UH G nl (.lst (l.map V.str))) c (.lst [.int 3,.int 8,.int 16]) c=some (.lst [.int 3,.int 8,.int 16]):=aE;generalize UH (UH G nl (.lst (l.map V.str))) c (.lst [.int 3,.int 8,.int 16])=G1 at *;refine⟨RN,fun g H2 a2 b2 R2 K2=>?_⟩;have en2:=K2.at1 en nnr;have K02:Kp [r] H H2:=(K.trans (KN.mono (by simp))).trans K2;wp_walk using K2.at1 ec ncr;refine dB a2 b2 fun v hv=>?_;wp_walk;obtain⟨mo,rfl,m0,m1⟩:∃ mo:Int,v=.int mo/\0<=mo/\mo<=16:=by
   simp only[List.mem_cons,List.not_mem_nil,or_false] at hv;rcases hv with rfl|rfl|rfl<;>exact⟨_,rfl,by decide,by decide⟩
  refine fun lf Vr=>?_;have Yj:=R2.none Vr;have nln:lf≠nl:=(aQ en2 Vr).symm;wp_walk;refine⟨by omega,by omega,R2.new Vr,fun g3 H3 a3 b3 R3 K3 c4 h4=>⟨R3.new h4,fun g5 H5 a5 b5 R5 K5=>?_⟩⟩;have e5:=K5.made R3 h4;have ZV:Kp [r] (UH H2 lf (.lst [.int mo])) H5:=(K3.trans (Kp.new h4)).trans K5;have Yd:=ZV.at1 (aE (H:=H2) (a:=lf) (o:=.lst [.int mo])) Yj;have en5:=ZV.at1 ((q0D (o:=.lst [.int mo]) Vr).at en2) nnr;wp_walk using e5;refine dB a5 b5 fun v5 hv5=>?_;wp_walk;obtain⟨many,rfl⟩:∃ many:Int,v5=.int many:=by
   simp only[List.mem_cons,List.not_mem_nil,or_false] at hv5;rcases hv5 with rfl|rfl<;>exact⟨_,rfl⟩
  refine⟨r,nl,lf,5,many,mo,l,rfl,⟨R5,en5,by omega,by omega,nnr,sh⟩,by decide,by decide,Yd,m0,by omega,Yj,nln,fun p us b k' H6 O=>?_⟩;have z:=O.sz;have d:=O.dp;have k0:=O.k0;refine q p us b H6 O.tup O.KR O.wf (by omega) (by omega) O.row fun a o e n=>?_;have e2:=K02 a o e n;have n2:a≠lf:=aQ e2 Vr;exact O.kp a o (ZV a o ((q0D Vr).at e2) n) (by simp[n2];simpa using n)
theorem zP{t:Ad}(T:Tx K mg t){n d:Nat}(hn:3<=n)(IH:bN P w K mg base UR n t.g9 t.hV ["saying"] (By d)):bN P w K mg base UR (n+1) t.g9 t.hV ["saying"] (By (d+1)):=by
 refine T.cP.ok g0 (fun vs H Q E h=>?_) (fun UN A outer s H vs Q E hr h=>?_)
 ·obtain⟨v,s,rfl,_⟩:=h;rfl
 ·obtain⟨v,s,rfl,hS,hd,h6,hs,q⟩:=h;refine⟨_,(aD (aO (i:=1) g0.nd rfl (Or.inl rfl) (bH cB (pv 0) aG (fun _ _=>rfl)))
   (aD (bE (aL bT (pv 1) aF (nomark _)) (aH (aN (dF Aa rfl T.IJ C2 (aC (bH cB (pv 0) aG (fun _ _=>rfl)) aB)))) aR)
   (aD (bE (aL bT (pv 1) aF (nomark _)) (aH (aN (bH cB (pv 0) aG (fun _ _=>rfl)))) aR)
   (aD (bE (aL tO (pv 1) (bM (aC aF (aC aF (aC aF aB)))) (by with_unfolding_all rfl)) (aH (aN (pv 1))) aR)
   (aD (aO (i:=2) g0.nd rfl (Or.inl rfl) (aI IH (hr.mono (by omega)) rfl T.cY T.cP.kp T.cX .nil pass0 (aC (bH cB (pv 0) aG (fun _ _=>rfl)) aB)))
   (aD (bE (aL tO (pv 1) (bM (aC aF (aC aF aB))) (by with_unfolding_all rfl)) (aH (aN (tS (fK (p9 (pv 1)) (fK aF (fK (p9 (pv 2)) Dz)))))) aR)
   (aD (aO (i:=3) g0.nd rfl (Or.inl rfl) (aI IH (hr.mono (by omega)) rfl T.cY T.cP.kp T.cX .nil pass0 (aC (bH cB (pv 0) aG (fun _ _=>rfl)) aB)))
   (aH (aN (tS (fK aF (fK (p9 (pv 2)) (fK aF (fK (p9 (pv 1)) (fK aF (fK (p9 (pv 3)) (fK aF Dz))))))))))))))))),?_⟩
  and_intros
  obtain⟨_,_,_,la,ln,lo,l1,lc⟩:=lens;rcases hS.rC with n3|⟨a,wo,rfl,e,f1,f2,f3,fw⟩
  rotate_left
  ·rw[fw] at q;wp_walk using e,f1,f2;refine fun p hp=>⟨rfl,flat3,?_⟩;have KG:=q0D (o:=.tup [.str "none",.str "arg",.str "now"]) hp;have e1:=KG.at e;generalize UH H p (.tup [.str "none",.str "arg",.str "now"])=G at *;wp_walk using e1,f3;exact q _ KG
  rcases hS.un2 with n2|⟨a,wo,v,s1,rfl,e,h1,f1,f2,f3,f4,fl,fd,fs,fw⟩
  rotate_left
  ·rw[fw] at q;have YU:=fs hs;clear fs hs hS;refine aP fun Wd U0=>?_;wp_walk using e;refine U0 _ _ ?_;clear U0;refine aP fun Wh UY=>?_;wp_walk using f1;refine UY _ _ ?_;clear UY;refine aP fun WN U8=>?_;wp_walk using f2;refine U8 _ _ ?_;clear U8;refine aP fun WO Vi=>?_;wp_walk;refine fun p hp=>⟨rfl,flat3,?_⟩;have KG:=q0D (o:=.tup [.str "none",.str "arg",.str "now"]) hp;have e1:=KG.at e;generalize UH H p (.tup [.str "none",.str "arg",.str "now"])=G at *;wp_walk using f3;refine Vi _ _ ?_;clear Vi;refine aP fun Xv Vx=>?_;wp_walk using e1;have l2:=fH YU (by omega);refine⟨v,s1,rfl,h1.kp (aM.nil KG),by omega,by omega,YU,fun H2 K2=>?_⟩;refine Vx _ _ ?_;clear Vx;refine aP fun Yc VB=>?_;wp_walk;refine fun p2 W3=>⟨rfl,flat2,?_⟩;wp_walk using bO,f4;exact⟨by omega,by omega,by omega,by omega,by omega,by omega,q _ ((KG.trans K2).trans (Kp.new W3))⟩
  cases hS with
  | num e =>
   wp_walk using e;exact⟨ilog hs.1.1 hs.1.2,q _ Kp.refl⟩
  | name e =>
   wp_walk using e;exact q _ Kp.refl
  | UK=>exact nomatch (show true=false from n3)
  | arg=>exact nomatch (show true=false from n3)
  | now=>exact nomatch (show true=false from n3)
  | Vd=>exact nomatch (show true=false from n2)
  | neg=>exact nomatch (show true=false from n2)
  | @two a v u g s1 s2 e h1 h2 =>
   simp only[Say.depth] at hd h6;have YU:s1.sh:=⟨hs.1.1,fun x hx=>hs.2 x (List.mem_append_left _ hx)⟩;have W6:s2.sh:=⟨hs.1.2,fun x hx=>hs.2 x (List.mem_append_right _ hx)⟩;have l2:=fH YU (by omega);have l3:=fH W6 (by omega);have lg:=g.len;refine aP fun Wd U0=>?_;wp_walk using e;refine U0 _ _ ?_;clear U0;refine aP fun Wh UY=>?_;wp_walk using g.nn;refine UY _ _ ?_;clear UY;refine aP fun WN U8=>?_;wp_walk using g.nm;refine U8 _ _ ?_;clear U8;refine aP fun WO Vi=>?_;wp_walk;refine fun p hp=>⟨rfl,flat3,?_⟩;have KG:=q0D (o:=.tup [.str "none",.str "arg",.str "now"]) hp;have e1:=KG.at e;generalize UH H p (.tup [.str "none",.str "arg",.str "now"])=G at *;wp_walk using g.n3;refine Vi _ _ ?_;clear Vi;refine aP fun Xv Vx=>?_;wp_walk using e1;refine⟨v,s1,rfl,h1.kp (aM.nil KG),by omega,by omega,YU,fun H2 K2=>?_⟩;have e2:=K2.at e1;refine Vx _ _ ?_;clear Vx;refine aP fun Yc VB=>?_;wp_walk;refine fun p2 W3=>⟨rfl,flat2,?_⟩;have KN:=q0D (o:=.tup [.str "answer",.str "not"]) W3;have KG2:=(KG.trans K2).trans KN;have e3:=KN.at e2;generalize UH H2 p2 (.tup [.str "answer",.str "not"])=G2 at *;wp_walk using g.n2;refine VB _ _ ?_;clear VB;refine aP fun Yp V2=>?_;wp_walk using e3;refine⟨u,s2,rfl,h2.kp (aM.nil KG2),by omega,by omega,W6,fun H3 K3=>?_⟩;refine V2 _ _ ?_;clear V2;wp_walk using bO;refine⟨by omega,by omega,by omega,by omega,by omega,by omega,by omega,by omega,by omega,by omega,by omega,q _ (KG2.trans K3)⟩
theorem cZ{t:Ad}(T:Tx K mg t):∀ d,bN P w K mg base UR (d+3) t.g9 t.hV ["saying"] (By d):=by
 intro d
 induction d with
 | zero=>exact⟨fun _ _ _ _ x=>by (obtain⟨_,s,_,_,h,_⟩:=x;exact absurd h (by have:=s.Ac;omega)),fun _ _ _ _ _ _ _ _ _ _ _ _ _ x=>by (obtain⟨_,s,_,_,h,_⟩:=x;exact absurd h (by have:=s.Ac;omega))⟩
 | succ d ih=>exact zP T (by omega) ih
theorem zI{t:Ad}(T:Tx K mg t):bN P w K mg base UR 10 t.mJ t.mR ["statement"] En:=by
 refine T.uJ.ok pA (fun vs H Q E h=>?_) (fun UN A outer s H vs Q E hr h=>?_)
 ·obtain⟨v,m,rfl,_⟩:=h;rfl
 ·obtain⟨v,m,rfl,hM,hm,hg,q⟩:=h;refine⟨_,(aD (aO (i:=1) pA.nd rfl (Or.inl rfl) (bH cB (pv 0) aG (fun _ _=>rfl)))
   (aD (bE (aL bT (pv 1) aF (nomark _)) (aH (aN (bF (aC (aI (cZ T 6) (hr.mono (by omega)) rfl T.cY T.cP.kp T.cX .nil pass0 (aC (bH cB (pv 0) aG (fun _ _=>rfl)) aB)) aB)))) aR)
   (aD (bE (aL bT (pv 1) aF (nomark _)) (aH (aN (bF (aC (pv 1) (aC (aI (cZ T 6) (hr.mono (by omega)) rfl T.cY T.cP.kp T.cX .nil pass0 (aC (bH cB (pv 0) aG (fun _ _=>rfl)) aB)) aB))))) aR)
   (aD (bE (aL bT (pv 1) aF (nomark _)) (aH (aN (aW aU (bF (aC (pv 1) aB)) (lM (cl:=[]) (fr:=[]) (N:=["saying"]) rfl (fun _ _ h=>h) (eK.m8 rfl rfl rfl rfl) (HK (bH cB (pv 0) aG (fun _ _=>rfl))) (fun C s H ex pn=>⟨jP,(aI (cZ T 6) (hr.mono (by omega)) rfl T.cY T.cP.kp T.cX .nil pass0 (aC (pv 0) aB))⟩))))) aR)
   (aD (bE (aL bT (pv 1) aF (nomark _)) (aH (aN (bF (aC (pv 1) (aC (bH cB (pv 0) aG (fun _ _=>rfl)) aB))))) aR)
   (aH (aN (bF (aC (pv 1) (aC (bH cB (pv 0) aG (fun _ _=>rfl)) (aC (aI (cZ T 6) (hr.mono (by omega)) rfl T.cY T.cP.kp T.cX .nil pass0 (aC (bH cB (pv 0) aG (fun _ _=>rfl)) aB)) aB))))))))))),?_⟩
  and_intros
  cases hM<;>simp only[Stm.isG,Bool.false_eq_true] at hg
  case set a x v s1 e h1 =>
   wp_walk using e;refine⟨v,s1,rfl,h1,hm.2.2,hm.2.2,hm.2.1,fun H2 K2=>?_⟩;wp_walk;exact fun p hp=>q p _ (K2.iT hp) (K2.trans (Kp.new hp)) aE
  case timer a x v s1 e h1 =>
   wp_walk using e;refine⟨v,s1,rfl,h1,hm.2.2,hm.2.2,hm.2.1,fun H2 K2=>?_⟩;wp_walk;exact fun p hp=>q p _ (K2.iT hp) (K2.trans (Kp.new hp)) aE
  case order a x y v s1 e h1 =>
   wp_walk using e;refine⟨v,s1,rfl,h1,hm.2.2.2,hm.2.2.2,hm.2.2.1,fun H2 K2=>?_⟩;wp_walk;exact fun p hp=>q p _ (K2.iT hp) (K2.trans (Kp.new hp)) aE
  case child a x y v s1 e h1 =>
   wp_walk using e;refine⟨v,s1,rfl,h1,hm.2.2.2,hm.2.2.2,hm.2.2.1,fun H2 K2=>?_⟩;wp_walk;exact fun p hp=>q p _ (K2.iT hp) (K2.trans (Kp.new hp)) aE
  case hear a x k e =>
   wp_walk using e;exact fun p hp=>q p _ hp (Kp.new hp) aE
  case wait a p1 x vs ss e f h1 =>
   wp_walk using e;refine fun c hc=>?_;have KN:=q0D (o:=.lst [.str "wait"]) hc;have e1:=KN.at e;have f1:=KN.at f;have ec:UH H c (.lst [.str "wait"]) c=some (.lst [.str "wait"]):=aE;have h2:=h1.kp (aM.nil KN);generalize UH H c (.lst [.str "wait"])=G at *;wp_walk using e1;refine⟨⟨_,gS.of f1⟩,?_⟩;have hP:=Dw h2 hm.2.2;have hl:=hP.len;have h4:(ss.map wd).length<=4:=by simpa using hm.2.1.2
   refine Ov (ys:=vs) (fun j xs G'=>xs=((ss.map wd).take j).map V.str/\Kp [] G G') ⟨rfl,Kp.refl⟩ ?_ ?_ ?_ ?_
   ·rintro j xs G' ⟨rfl,_⟩;simp only[List.length_map,List.length_take] at h4 ⊢;omega
   ·rintro j xs G' ⟨_,k⟩;exact gS.of (k.at f1)
   ·rintro j y xs G' _ hj ⟨rfl,k⟩;obtain⟨y',hy',hat⟩:=h2.at hj;have e5:=kR (show(ss.map wd)[j]?=some (wd y') by rw[List.getElem?_map,hy'];rfl);have h6':=hm.2.2 y' (List.mem_of_getElem? hy');wp_walk using bJ,Option.join_some;refine⟨y,y',rfl,hat.kp (aM.nil k),h6'.2,h6'.2,h6'.1,fun H2 K2=>⟨?_,k.trans K2⟩⟩;rw[e5];simp
   ·rintro xs G' ⟨rfl,k⟩ l2 VC;rw[show vs.length=(ss.map wd).length from hl.symm,List.take_length];have ZW:=q0D (o:=.lst ((ss.map wd).map V.str)) VC;have Z6:=ZW.at (k.at ec);wp_walk using Z6,List.length_map;simp only[List.length_map] at h4;exact⟨by omega,fun p hp=>q p _ ((KN.trans (k.trans ZW)).iT hp) ((KN.trans (k.trans ZW)).trans (Kp.new hp)) (by rw[aE];rfl)⟩
theorem Bn{t:Ad}(T:Tx K mg t):bN P w K mg base UR 12 t.pJ t.pQ ["statement"] CK:=by
  refine T.wX.ok rZ (fun vs H Q E h=>?_) (fun UN A outer s H vs Q E hr h=>?_)
  · obtain⟨v,m,rfl,_⟩:=h;rfl
  · obtain⟨v,m,rfl,hM,hm,hb,q⟩:=h;refine⟨_,(aD (aO (i:=1) rZ.nd rfl (Or.inl rfl) (bH cB (pv 0) aG (fun _ _=>rfl)))
      (aD (bE (aL bT (pv 1) aF (nomark _)) (aH (aN (kO PySem.F.plainAttrs_str PySem.F.slot_str_join PySem.F.type_str_join lJ aF (aC (bF (aC (pv 1) (aC (aI (cZ T 6) (hr.mono (by omega)) rfl T.cY T.cP.kp T.cX .nil pass0 (aC (bH cB (pv 0) aG (fun _ _=>rfl)) aB)) (aC (bH cB (pv 0) aG (fun _ _=>rfl)) (aC (aI (cZ T 6) (hr.mono (by omega)) rfl T.cY T.cP.kp T.cX .nil pass0 (aC (bH cB (pv 0) aG (fun _ _=>rfl)) aB)) aB))))) aB)))) aR)
      (aD (bE (PW.pt (oZ (aL bT (pv 1) aF (nomark _)) (lO (aL bT (pv 1) aF (nomark _))))) (aH (aN (kO PySem.F.plainAttrs_str PySem.F.slot_str_join PySem.F.type_str_join lJ aF (aC (bF (aC (pv 1) (aC (aI (cZ T 6) (hr.mono (by omega)) rfl T.cY T.cP.kp T.cX .nil pass0 (aC (bH cB (pv 0) aG (fun _ _=>rfl)) aB)) aB))) aB)))) aR)
      (aH (aN (kO PySem.F.plainAttrs_str PySem.F.slot_str_join PySem.F.type_str_join lJ aF (aC (aW aU (bF (aC (bH cB (pv 0) aG (fun _ _=>rfl)) (aC aF aB))) (aI (zI T) (hr.mono (by omega)) rfl T.Cm T.uJ.kp T.BN .nil pass0 (aC (pv 0) aB))) aB))))))),?_⟩
    and_intros
    obtain⟨_,_,_,_,_,lo,l1,lc⟩:=lens;obtain⟨Wz,leq,XR,XS,XO,WA,Wy,Wx,lend,XU,lif⟩:=hlens;have aaQ:("send":Str).length=4:=by decide +kernel
    have aaP:("=":Str).length=1:=by decide +kernel
    have Zz:∀(mm:Stm),mm.UL->mm.isG=true->mm=m->∀ G,bV G v mm->Kp [] H G->∀ c,H c=none->G c=some (.lst [.str mm.nm,.str "="])->mm.nm.length<=20 ->
        En [v] G (fun y H2=>EI (.ref c) y H2 fun z H3=>FW (.str " ") [z] H3 Q) E:=fun mm XF hg em G hM' KG c fc ec ln=>by
      subst em;refine⟨v,mm,rfl,hM',XF,hg,fun l H2 fl K2 el=>?_⟩;have Z6:=K2.at ec;have hl:=Ob XF;wp_walk using Z6,el,List.length_map;refine⟨by omega,fun c3 hc3=>?_⟩;wp_walk using aE;have e6:(.str mm.nm::.str "="::mm.gv.map V.str:List V)=(mm.nm::"="::mm.gv).map V.str:=rfl;have sb:=t8 hl.2;rw[e6,t7,Lm];simp only[List.map_cons,List.sum_cons,List.length_cons,aaP,l1];refine⟨by omega,?_⟩;rw[oH,<- Stm.Rb hg];exact q _ ((KG.trans K2).trans (Kp.new hc3))
    by_cases hgv:m.isG=true
    · obtain⟨a,w0,r0,rfl,e,_,fG⟩:=hM.hdw;obtain⟨f1,f2,f3,⟨r1,rfl⟩,nl⟩:=fG hgv;wp_walk using e,f1,f2,f3;refine fun c hc=>?_;have KN:=q0D (o:=.lst [.str m.nm,.str "="]) hc;exact Zz _ hm hgv rfl _ (hM.kp (aM.nil KN)) KN c hc aE (nl hm)
    cases hM<;>simp only[Stm.isB,Bool.true_eq_false] at hb
    case send a k v u s1 s2 e h1 h2 =>
      clear Zz;have l2:=fH hm.1.1 hm.1.2;have l3:=fH hm.2.2.1 hm.2.2.2;have n1:k.length<=20:=hm.2.1.len;wp_walk using e;refine⟨v,s1,rfl,h1,hm.1.2,hm.1.2,hm.1.1,fun H2 K2=>?_⟩;have e2:=K2.at e;wp_walk using e2;refine⟨u,s2,rfl,h2.kp (aM.nil K2),hm.2.2.2,hm.2.2.2,hm.2.2.1,fun H3 K3=>?_⟩;wp_walk;refine fun p hp=>?_;wp_walk using Q4,List.sum_cons,List.sum_nil;refine⟨by omega,?_⟩;rw[oH];simp only[glue,List.foldl_cons,List.foldl_nil,Kz];exact q _ ((K2.trans K3).trans (Kp.new hp))
    case drop a v s1 e h1 =>
      clear Zz;have l2:=fH (show s1.sh from hm.1) hm.2;wp_walk using e;refine⟨v,s1,rfl,h1,hm.2,hm.2,hm.1,fun H2 K2=>?_⟩;wp_walk;refine fun p hp=>?_;wp_walk using Ln,List.sum_cons,List.sum_nil;refine⟨by omega,?_⟩;rw[oH];exact q _ (K2.trans (Kp.new hp))
    case fin a v s1 e h1 =>
      clear Zz;have l2:=fH (show s1.sh from hm.1) hm.2;wp_walk using e;refine⟨v,s1,rfl,h1,hm.2,hm.2,hm.1,fun H2 K2=>?_⟩;wp_walk;refine fun p hp=>?_;wp_walk using Ln,List.sum_cons,List.sum_nil;refine⟨by omega,?_⟩;rw[oH];exact q _ (K2.trans (Kp.new hp))
    all_goals exact absurd rfl hgv
theorem Bz{t:Ad}(T:Tx K mg t){n d:Nat}(hn:12<=n)(IH:bN P w K mg base UR n t.eQ t.eR ["block"] (yK d)):bN P w K mg base UR (n+1) t.pH t.pO ["block"] (RS d):=by
 refine T.wR.ok Bv (fun vs H Q E h=>?_) (fun UN A outer s H vs Q E hr h=>?_)
 ·obtain⟨p,us,b,rfl,_⟩:=h;rfl
 ·obtain⟨p,us,b,rfl,hp,hB,hw,hd,hz,q⟩:=h;refine⟨_,(aH (aN (nG (oO (pv 0) (fun _=>rfl)) (aW aU (bF (aC aF aB)) (aI IH (hr.mono (by omega)) rfl T.jM T.hZ.kp T.jI .nil pass0 (aC (pv 0) aB))) (bF aB)))),?_⟩
  and_intros
  wp_walk using hp;cases hB with
  | nil =>
   wp_walk using List.isEmpty_nil;exact fun p' VU=>q p' _ VU (Kp.new VU) (by rw[aE];rfl)
  | @cons v vs x xs ha hbs =>
   wp_walk using List.isEmpty_cons;refine fun c hc=>?_;have KN:=q0D (o:=.lst [.str "else"]) hc;have ll:=eJ (x::xs);refine⟨p,_,_,rfl,KN.at hp,(bL.cons ha hbs).kp (aM.nil KN),hw,hd,hz,fun l H2 fl K2 el=>?_⟩;have ec:=K2.at (aE (H:=H) (a:=c) (o:=.lst [.str "else"]));wp_walk using ec,el,List.length_map;exact⟨by omega,fun p' VU=>q p' _ ((KN.trans K2).iT VU) ((KN.trans K2).trans (Kp.new VU)) (by rw[aE];rfl)⟩
theorem uS{t:Ad}(T:Tx K mg t):bN P w K mg base UR 10 t.sI t.sV ["statement"] KO:=by
 refine T.sZ.ok nU (fun vs H Q E h=>?_) (fun UN A outer s H vs Q E hr h=>?_)
 ·obtain⟨v,m,rfl,_⟩:=h;rfl
 ·obtain⟨v,m,rfl,hM,hm,hb,q⟩:=h;refine⟨_,(aD (aO (i:=1) nU.nd rfl (Or.inl rfl) (bH cB (pv 0) aG (fun _ _=>rfl)))
   (aD (aO (i:=2) nU.nd rfl (Or.inl rfl) (aI (cZ T 6) (hr.mono (by omega)) rfl T.cY T.cP.kp T.cX .nil pass0 (aC (bH cB (pv 0) aG (fun _ _=>rfl)) aB)))
   (aH (aN (tS (fK (p9 (pv 1)) (fK aF (fK (p9 (pv 2)) Dz)))))))),?_⟩
  and_intros
  obtain⟨_,_,_,_,_,lo,l1,lc⟩:=lens;obtain⟨Wz,leq,XR,XS,XO,WA,Wy,Wx,lend,XU,lif⟩:=hlens;cases hM<;>simp only[Stm.isB,Bool.false_eq_true] at hb
  case whl a p0 v s1 vs b e h1 f hb2 =>
   wp_walk using e;have l2:=fH (show s1.sh from hm.1) hm.2;refine⟨v,s1,rfl,h1,hm.2,hm.2,hm.1,fun H2 K2=>?_⟩;wp_walk using bO;exact⟨by omega,by omega,by omega,by omega,by omega,by omega,q _ K2⟩
  case iff a p0 q0 v s1 vs us b o e h1 f hb2 f2 hb3 =>
   wp_walk using e;have l2:=fH (show s1.sh from hm.1) hm.2;refine⟨v,s1,rfl,h1,hm.2,hm.2,hm.1,fun H2 K2=>?_⟩;wp_walk using bO;exact⟨by omega,by omega,by omega,by omega,by omega,by omega,q _ K2⟩
theorem sA{t:Ad}(T:Tx K mg t){n d:Nat}(hn:12<=n)(IH:bN P w K mg base UR n t.eQ t.eR ["block"] (yK d)):bN P w K mg base UR (n+2) t.iF t.iG ["statement"] (RV (d+1)):=by
 refine T.mB.ok jQ (fun vs H Q E h=>?_) (fun UN A outer s H vs Q E hr h=>?_)
 ·obtain⟨v,m,rfl,_⟩:=h;rfl
 ·obtain⟨v,m,rfl,hM,hw,hd,hz,q⟩:=h;refine⟨_,(aD (aO (i:=1) jQ.nd rfl (Or.inl rfl) (bH cB (pv 0) aG (fun _ _=>rfl)))
   (aD (bE (aL bT (pv 1) aF (nomark _)) (aH (aN (aW aU (aW aU (bF (aC (aI (uS T) (hr.mono (by omega)) rfl T.Ap T.sZ.kp T.zX .nil pass0 (aC (pv 0) aB)) aB)) (aI IH (hr.mono (by omega)) rfl T.jM T.hZ.kp T.jI .nil pass0 (aC (bH cB (pv 0) aG (fun _ _=>rfl)) aB))) (bF (aC aF aB))))) aR)
   (aD (bE (aL bT (pv 1) aF (nomark _)) (aH (aN (aW aU (aW aU (aW aU (bF (aC (aI (uS T) (hr.mono (by omega)) rfl T.Ap T.sZ.kp T.zX .nil pass0 (aC (pv 0) aB)) aB)) (aI IH (hr.mono (by omega)) rfl T.jM T.hZ.kp T.jI .nil pass0 (aC (bH cB (pv 0) aG (fun _ _=>rfl)) aB))) (aI (Bz T hn IH) (hr.mono (by omega)) rfl T.Dj T.wR.kp T.CZ .nil pass0 (aC (bH cB (pv 0) aG (fun _ _=>rfl)) aB))) (bF (aC aF aB))))) aR)
   (aH (aN (bF (aC (aI (Bn T) (hr.mono (by omega)) rfl T.Dl T.wX.kp T.C1 .nil pass0 (aC (pv 0) aB)) aB))))))),?_⟩
  and_intros
  have plain:m.isB=false->m.rows=[m.hd]->CK [v] H (fun y H1=>∀ p,H1 p=none->Q (.ref p) (UH H1 p (.lst [y]))) E:=fun hb hr=>by
   exact⟨v,m,rfl,hM,Stm.cG hw,hb,fun H' K' p hp=>q p _ (K'.iT hp) (K'.trans (Kp.new hp)) (by rw[aE,hr];rfl)⟩
  have hM0:=hM;have UL:=Stm.cG hw;have ll:=m.yC;by_cases hnb:m.isB=false
  ·obtain⟨a,w0,r0,rfl,e,fB,_⟩:=hM.hdw;obtain⟨f1,f2,hr⟩:=fB hnb;wp_walk using e,f1,f2;exact plain hnb hr
  cases hM
  case whl a p1 v1 s1 vs bb e h1 f hb =>
   clear plain;wp_walk using e;refine⟨_,_,rfl,hM0,UL,rfl,fun H1 K1=>?_⟩;wp_walk;refine fun c hc=>?_;simp only[Stm.dp] at hd;simp only[Stm.sz] at hz ll;have z1:=eJ bb;have KN:=q0D (o:=.lst [.str (Stm.whl s1 bb).hd]) hc;have KG:=K1.trans KN;have e1:=KG.at e;have ec:UH H1 c (.lst [.str (Stm.whl s1 bb).hd]) c=some (.lst [.str (Stm.whl s1 bb).hd]):=aE;generalize UH H1 c (.lst [.str (Stm.whl s1 bb).hd])=G at *;wp_walk using e1;refine⟨p1,vs,bb,rfl,KG.at f,hb.kp (aM.nil KG),hw.2,by omega,by omega,fun l2 H3 f3 K3 e3=>?_⟩;have Z7:=K3.at ec;wp_walk using Z7,e3,List.length_map;refine⟨by omega,fun c4 hc4=>?_⟩;have ZX:=q0D (o:=.lst (.str (Stm.whl s1 bb).hd::(bG bb).map V.str)) hc4;have Xu:=(KG.trans K3).trans ZX;have e4:UH H3 c4 (.lst (.str (Stm.whl s1 bb).hd::(bG bb).map V.str)) c4=some (.lst (.str (Stm.whl s1 bb).hd::(bG bb).map V.str)):=aE;generalize UH H3 c4 (.lst (.str (Stm.whl s1 bb).hd::(bG bb).map V.str))=G4 at *;refine fun c5 hc5=>?_;have ZY:=q0D (o:=.lst [.str "done"]) hc5;have e5:=ZY.at e4;wp_walk using e5,List.length_map;exact⟨by omega,fun p' VU=>q p' _ ((Xu.trans ZY).iT VU) ((Xu.trans ZY).trans (Kp.new VU)) (by rw[aE];simp[Stm.rows,Stm.hd])⟩
  case iff a p1 q1 v1 s1 vs ws bb oo e h1 f hb f2 hb2 =>
   clear plain;wp_walk using e;refine⟨_,_,rfl,hM0,UL,rfl,fun H1 K1=>?_⟩;wp_walk;refine fun c hc=>?_;simp only[Stm.dp] at hd;simp only[Stm.sz] at hz ll;have z1:=eJ bb;have z2:=eJ oo;have z3:(B0 oo).length<=(bG oo).length+1:=by unfold B0;split<;>simp
   have KN:=q0D (o:=.lst [.str (Stm.iff s1 bb oo).hd]) hc;have KG:=K1.trans KN;have e1:=KG.at e;have ec:UH H1 c (.lst [.str (Stm.iff s1 bb oo).hd]) c=some (.lst [.str (Stm.iff s1 bb oo).hd]):=aE;generalize UH H1 c (.lst [.str (Stm.iff s1 bb oo).hd])=G at *;wp_walk using e1;refine⟨p1,vs,bb,rfl,KG.at f,hb.kp (aM.nil KG),hw.2.1,by omega,by omega,fun l2 H3 f3 K3 e3=>?_⟩;have Z7:=K3.at ec;wp_walk using Z7,e3,List.length_map;refine⟨by omega,fun c4 hc4=>?_⟩;wp_walk;simp only[List.cons_append,List.nil_append];have ZX:=q0D (o:=.lst (.str (Stm.iff s1 bb oo).hd::(bG bb).map V.str)) hc4;have Xu:=(KG.trans K3).trans ZX;have e4:UH H3 c4 (.lst (.str (Stm.iff s1 bb oo).hd::(bG bb).map V.str)) c4=some (.lst (.str (Stm.iff s1 bb oo).hd::(bG bb).map V.str)):=aE;generalize UH H3 c4 (.lst (.str (Stm.iff s1 bb oo).hd::(bG bb).map V.str))=G4 at *;have eA:=Xu.at e;wp_walk using eA;refine⟨q1,ws,oo,rfl,Xu.at f2,hb2.kp (aM.nil Xu),hw.2.2,by omega,by omega,fun l6 H6 f6 K6 e6=>?_⟩;have Z5:=K6.at e4;wp_walk using Z5,e6,List.length_map;refine⟨by omega,fun c7 Wr=>?_⟩;have KN7:=q0D (o:=.lst (.str (Stm.iff s1 bb oo).hd::((bG bb).map V.str++(B0 oo).map V.str))) Wr;have KG7:=(Xu.trans K6).trans KN7;have e7:UH H6 c7 (.lst (.str (Stm.iff s1 bb oo).hd::((bG bb).map V.str++(B0 oo).map V.str))) c7=some (.lst (.str (Stm.iff s1 bb oo).hd::((bG bb).map V.str++(B0 oo).map V.str))):=aE;generalize UH H6 c7 (.lst (.str (Stm.iff s1 bb oo).hd::((bG bb).map V.str++(B0 oo).map V.str)))=G7 at *;refine fun c8 hc8=>?_;have ZZ:=q0D (o:=.lst [.str "done"]) hc8;have e8:=ZZ.at e7;wp_walk using e8,List.length_map,List.length_append;exact⟨by omega,fun p' VU=>q p' _ ((KG7.trans ZZ).iT VU) ((KG7.trans ZZ).trans (Kp.new VU)) (by rw[aE];simp[Stm.rows,Stm.hd,B0])⟩
  all_goals exact absurd rfl hnb
theorem zO{t:Ad}(T:Tx K mg t){n d:Nat}(hn:12<=n)(IH:bN P w K mg base UR n t.eQ t.eR ["block"] (yK d)):bN P w K mg base UR (n+3) t.eQ t.eR ["block"] (yK (d+1)):=by
 refine T.hZ.ok kD (fun vs H Q E h=>?_) (fun UN A outer s H vs Q E hr h=>?_)
 ·obtain⟨p,us,b,rfl,_⟩:=h;rfl
 ·obtain⟨p,us,b,rfl,hp,hB,hw,hd,hz,q⟩:=h;refine⟨_,(aD (aO (i:=1) kD.nd rfl (Or.inl rfl) (bF aB))
   (aD (Bt PassesOwn.never rfl (HK (pv 0)) (lN (i:=2) kD.nd rfl (Or.inl rfl)) (aH (iQ (Lx PySem.F.slot_list_extend PySem.F.type_list_extend Kd (pv 1) (aC (aI (sA T hn IH) (hr.mono (by omega)) rfl T.vA T.mB.kp T.uX .nil pass0 (aC (pv 2) aB)) aB)))))
   (aH (aN (pv 1))))),?_⟩
  and_intros
  wp_walk;refine fun l0 ZE=>⟨⟨_,gS.of ((q0D ZE).at hp)⟩,?_⟩;have hl:=hB.len;obtain⟨Pv,V6⟩:∃ Pv:Nat->St->Hp->Prop,∀ i σ G,Pv i σ G = ∃ v:Option V,σ=[some (.ref p),some (.ref l0),v]/\Kp [] H G/\G l0=some (.lst ((bG (b.take i)).map V.str)):=⟨_,fun _ _ _=>rfl⟩;refine JV (xs:=us) Pv ?_ ?_ ?_ ?_
  ·rw[V6];exact⟨none,rfl,Kp.new ZE,aE⟩
  ·intro i σ G _ hG;rw[V6] at hG;obtain⟨_,_,k,_⟩:=hG;exact gS.of (k.at hp)
  ·intro i y σ G hi hG;rw[V6] at hG;obtain⟨v,rfl,KG,el⟩:=hG;obtain⟨m,hm,hM⟩:=hB.at hi;obtain⟨m1,m2,m3⟩:=Rq hm;have e5:=Ss hm;have back:∀(w:Option V) (G':Hp),Kp [] H G'->G' l0=some (.lst ((bG (b.take i)++m.rows).map V.str))->Pv (i+1) [some (.ref p),some (.ref l0),w] G':=fun w G' h2 h3=>by
    rw[V6];refine⟨_,rfl,h2,?_⟩;rw[e5,AF,h3];simp[bG]
   clear V6;have ll:=eJ (b.take i);have lm:=m.yC;wp_walk using el;refine⟨y,m,rfl,hM.kp (aM.nil KG),m1 hw,by omega,by omega,fun l H1 fl K1 e1=>?_⟩;have el1:=K1.at el;wp_walk using el1,e1,List.length_map;exact⟨by omega,back _ _ ((KG.trans K1).Ua ZE) (by rw[aE];simp)⟩
  ·intro σ G hG;rw[V6] at hG;obtain⟨v,rfl,KG,el⟩:=hG;rw[<- hl,List.take_length] at el;wp_walk;exact q l0 G ZE KG el
theorem zH{t:Ad}(T:Tx K mg t):∀ d,bN P w K mg base UR (3 * d+12) t.eQ t.eR ["block"] (yK d):=by
 intro d
 induction d with
 | zero=>exact⟨fun _ _ _ _ x=>by (obtain⟨_,_,_,_,_,_,_,h,_⟩:=x;exact absurd h (by omega)),fun _ _ _ _ _ _ _ _ _ _ _ _ _ x=>by (obtain⟨_,_,_,_,_,_,_,h,_⟩:=x;exact absurd h (by omega))⟩
 | succ d ih=>exact zO T (by omega) ih
theorem nD{t:Ad}(T:Tx K mg t):bN P w K mg base UR 32 t.kY t.lD ["program"] KP:=by
 refine T.lG.ok yH (fun vs H Q E h=>?_) (fun UN A outer s H vs Q E hr h=>?_)
 ·obtain⟨p,us,b,rfl,_⟩:=h;rfl
 ·obtain⟨p,us,b,rfl,hp,hB,hw,hd,hz,q⟩:=h;refine⟨_,(aH (aN (kO PySem.F.plainAttrs_str PySem.F.slot_str_join PySem.F.type_str_join lJ aF (aC (lM (cl:=[]) (fr:=[]) (N:=["line"]) rfl (fun _ _ h=>h) (eK.m8 rfl rfl rfl rfl) (vQ (aI (zH T 6) (hr.mono (by omega)) rfl T.jM T.hZ.kp T.jI .nil pass0 (aC (pv 0) aB))) (fun C s H ex pn=>⟨jP,(aW aU (pv 0) aF)⟩)) aB)))),?_⟩
  and_intros
  wp_walk;refine⟨p,us,b,rfl,hp,hB,hw,by omega,by omega,fun l G fl KG el=>?_⟩;have ll:=eJ b;have sm:=iA hw;wp_walk;refine⟨⟨_,dU.of el⟩,?_⟩;refine vI (ys:=(bG b).map V.str) (fun j xs G'=>xs=(((bG b).take j).map fun r:Str=>r++"\n").map V.str/\Kp [] G G') ⟨rfl,Kp.refl⟩ ?_ ?_ ?_ ?_
  ·rintro j xs G' ⟨rfl,_⟩;simp only[List.length_map,List.length_take];omega
  ·rintro j xs G' ⟨_,k⟩;exact dU.of (k.at el)
  ·rintro j y xs G' _ hj ⟨rfl,k⟩;obtain⟨r,hr,rfl⟩:∃ r,(bG b)[j]?=some r/\V.str r=y:=by
    rw[List.getElem?_map] at hj;exact Option.map_eq_some_iff.mp hj
   have e5:=kR hr;have lr:=sm r (List.mem_of_getElem? hr);have ln:=jY.1;wp_walk using bJ,Option.join_some;refine⟨by omega,?_,k⟩;rw[e5];simp
  ·rintro xs G' ⟨rfl,k⟩ l2 VC;simp only[List.length_map,List.take_length];wp_walk;have sb:((((bG b).map fun r:Str=>r++"\n")).map fun z=>z.length).sum<=8001 * ((bG b).map fun r:Str=>r++"\n").length:=t8 fun y hy=>by
    obtain⟨r,hr,rfl⟩:=List.mem_map.mp hy;have:=sm r hr;simp only[bO,jY.1];omega
   simp only[List.length_map] at sb;simp only[jY.2,List.length_map,Nat.mul_zero,Nat.add_zero];exact⟨by omega,q _ ((KG.trans k).trans (Kp.new VC))⟩
theorem zG{t:Ad}(T:Tx K mg t):bN P w K mg base UR 1 t.jH t.mQ ["self","lines"] (Ib t.aV):=by
 refine T.B6.ok zL (fun vs H Q E h=>?_) (fun UN A outer s H vs Q E hr h=>?_)
 ·obtain⟨x,dx,ll,rfl,_⟩:=h;rfl
 ·obtain⟨x,dx,ll,rfl,e,q⟩:=h;refine⟨_,(aD (Bs T.bW T.rH (pv 0) (pv 1))
   (aD (Bs T.bW T.dW (pv 0) aG)
   (aH (Bs T.bW T.dR (pv 0) aG)))),?_⟩
  and_intros
  wp_walk using e;exact q _ aE (by intro b o e n;simp only[List.mem_cons,List.not_mem_nil,or_false] at n;rw[aY n,aY n,aY n];exact e)
theorem eX{t:Ad}(T:Tx K mg t):bN P w K mg base UR 1 t.kT t.k8 ["self"] (KC t.aV):=by
 refine T.A7.ok yF (fun vs H Q E h=>?_) (fun UN A outer s H vs Q E hr h=>?_)
 ·obtain⟨rd,dx,ll,rows,i,k,rfl,_⟩:=h;rfl
 ·obtain⟨rd,dx,ll,rows,i,k,rfl,R,q⟩:=h;refine⟨_,(aH (aN (nG (aL rK (rT T.bW T.dW (pv 0)) (bP cA rfl T.kS eL (aC (rT T.bW T.rH (pv 0)) aB)) (nomark _)) (bH cB (rT T.bW T.rH (pv 0)) (rT T.bW T.dW (pv 0)) (fun _ _=>rfl)) qA))),?_⟩
  and_intros
  wp_walk using R.ins,R.lin,List.length_map;unfold ah at q;by_cases h:i < rows.length
  ·rw[List.getElem?_eq_getElem h] at q;rw[if_pos (by omega)];rw[vD (v:=.str rows[i]) (by rw[List.getElem?_map,List.getElem?_eq_getElem h];rfl)];exact q
  ·rw[List.getElem?_eq_none (by omega)] at q;rw[if_neg (by omega)];exact q
theorem dX{t:Ad}(T:Tx K mg t):bN P w K mg base (U2 P w base) 1 t.sL t.sX ["words"] (LF t.aK):=by
 refine T.fJ.okE CI (fun vs H Q E h=>?_) (fun UN A outer s H vs Q E hr h=>?_)
 ·obtain⟨x,rfl,h1⟩:=i0 h;rfl
 ·obtain⟨x,rfl,h1⟩:=i0 h;obtain⟨a,rfl,h2⟩:=bK h1;obtain⟨xs,e,q⟩:=eZ h2;refine⟨_,(aD (bE (jZ (oO (pv 0) (fun _=>rfl))) (aH (dS throws1 rfl rfl T.b9 T.bZ.toXCls (aC aF aB))) aR)
   (aH (aN (Lx PySem.F.slot_list_pop PySem.F.type_list_pop Ke (pv 0) (aC aG aB))))),?_⟩
  and_intros
  cases xs with
  | nil =>
   wp_walk using e,List.isEmpty_nil;exact q
  | cons y ys =>
   wp_walk using e,List.isEmpty_cons,List.tail_cons;exact q
theorem tL{t:Ad}(T:Tx K mg t):bN P w K mg base UR 1 t.iV t.iX ["sign"] LB:=by
 refine T.mX.ok tZ (fun vs H Q E h=>?_) (fun UN A outer s H vs Q E hr h=>?_)
 ·obtain⟨c,rfl,_⟩:=h;rfl
 ·obtain⟨c,rfl,q⟩:=h;refine⟨_,(aH (aN (x9 Bq Bq aF (pv 0) aF))),?_⟩
  and_intros
  wp_walk;have e1:(([c]:List Nat) < ("a":Str).cps.toList)=(c < 97):=by
   show(([c]:List Nat) < [97])=_;have:=Bh c 97;rw[Bool.eq_iff_iff,decide_eq_true_eq,decide_eq_true_eq] at this;exact propext this
  have e2:(!decide (("z":Str).cps.toList < ([c]:List Nat)))=decide (c<=122):=by
   show(!decide (([122]:List Nat) < [c]))=_;rw[Bh,Bool.eq_iff_iff];simp
  rw[e2];simp only[e1];split
  ·next h =>
   rw[show decide (97<=c)=false by simp;omega,Bool.false_and] at q;exact q
  ·next h =>
   rw[show decide (97<=c)=true by simp;omega,Bool.true_and] at q;exact q
theorem tK{t:Ad}(T:Tx K mg t):bN P w K mg base UR 2 t.AO t.A0 ["thing"] CJ:=by
 refine T.vF.ok Fy (fun vs H Q E h=>?_) (fun UN A outer s H vs Q E hr h=>?_)
 ·obtain⟨x,rfl,_⟩:=h;rfl
 ·obtain⟨x,rfl,hx,q⟩:=h;refine⟨_,(aD (bE (PW.pt (oZ (jZ (j4 (bP EM rfl T.gG gY (aC (pv 0) (aC (Eg (v:=.ty "str") rfl T.IJ C2 rfl) aB))))) (lO (jZ (CF As As aG (bP cA rfl T.kS eL (aC (pv 0) aB)) (dM (v:=.int 6) rfl T.AX ⟨_,rfl⟩)))))) (aH (aN uT)) aR)
   (aH (aN (Dx (rS Av (pv 0) (dM (v:=.ref t.tF) rfl T.EK rfl) (by with_unfolding_all rfl)) (Dy (bP (zY rfl) rfl T.Lb FT (aC (lM (cl:=[]) (fr:=[]) (N:=["sign"]) rfl (fun _ _ h=>h) (eK.m8 rfl rfl rfl rfl) (HJ (pv 0)) (fun C s H ex pn=>⟨jP,(aI (tL T) (hr.mono (by omega)) rfl T.xN T.mX.kp T.vZ .nil pass0 (aC (pv 0) aB))⟩)) aB))))))),?_⟩
  and_intros
  have hB:Fm x=(decide (1<=x.length)&&(decide (x.length<=6)&&(x.cps.toList.all (fun c=>decide (97<=c)&&decide (c<=122))&&!cR (.str x) mI))):=rfl;wp_walk;refine⟨by omega,?_⟩;by_cases c1:(1:Int)<=(x.length:Int)
  case neg =>
   rw[if_neg c1];wp_walk;rw[hB,show decide (1<=x.length)=false by simp;omega,Bool.false_and] at q;exact q _ Kp.refl
  rw[if_pos c1];wp_walk;by_cases c2:(x.length:Int)<=6
  case neg =>
   rw[if_neg c2];rw[hB,show decide (x.length<=6)=false by simp;omega,Bool.false_and,Bool.and_false] at q;exact q _ Kp.refl
  rw[if_pos c2];rw[show decide (1<=x.length)=true by simp;omega,show decide (x.length<=6)=true by simp;omega,Bool.true_and,Bool.true_and] at hB;refine⟨mI,T.Fv H,rfl,own17,?_⟩;by_cases c3:cR (.str x) mI=true
  ·rw[c3];wp_walk;rw[hB,c3,Bool.not_true,Bool.and_false] at q;exact q _ Kp.refl
  ·rw[show cR (.str x) mI=false from by simpa using c3];wp_walk;refine Hh (fun i xs G=>xs=((x.cps.toList.take i).map fun c=>decide (97<=c)&&decide (c<=122)).map V.bl/\Kp [] H G) ⟨rfl,Kp.refl⟩ ?_ ?_ ?_
   ·rintro i xs G ⟨rfl,_⟩;simp only[List.length_map,List.length_take,Array.length_toList];have:x.cps.size=x.length:=rfl;omega
   ·rintro i c xs G hi hc ⟨rfl,k⟩;wp_walk using bJ;refine⟨?_,k⟩;have e:x.cps.toList[i]?=some c:=by simpa using hc
    rw[List.take_add_one,e];simp
   ·rintro xs G ⟨rfl,k⟩ l hl;wp_walk;rw[show x.cps.toList.take x.cps.size=x.cps.toList by rw[<- Array.length_toList,List.take_length]];rw[hB,show cR (.str x) mI=false from by simpa using c3,Bool.not_false,Bool.and_true] at q;have:=q _ (k.trans (Kp.new (o:=.lst ((x.cps.toList.map fun c=>decide (97<=c)&&decide (c<=122)).map V.bl)) hl));rw[List.all_map];exact this
theorem nE{t:Ad}(T:Tx K mg t):bN P w K mg base (U2 P w base) 3 t.sJ t.sW ["words"] (RY t.aK):=by
 refine T.oF.okE uV (fun vs H Q E h=>?_) (fun UN A outer s H vs Q E hr h=>?_)
 ·obtain⟨wl,ws,rfl,_⟩:=h;rfl
 ·obtain⟨wl,ws,rfl,e,hw,q,qE⟩:=h;refine⟨_,(aD (aO (i:=1) uV.nd rfl (Or.inl rfl) (aI (dX T) (hr.mono (by omega)) rfl T.gC T.fJ.kp T.gA .nil (pass1 fun _ _ _ z=>z) (aC (pv 0) aB)))
   (aD (bE (jZ (j4 (aI (tK T) (hr.mono (by omega)) rfl T.Bi T.vF.kp T.AS .nil pass0 (aC (pv 1) aB)))) (aH (dS throws1 rfl rfl T.b9 T.bZ.toXCls (aC aF aB))) aR)
   (aH (aN (pv 1))))),?_⟩
  and_intros
  cases ws with
  | nil =>
   wp_walk using e,List.map_nil;exact qE rfl _ Kp.refl
  | cons w r =>
   wp_walk using e,List.map_cons;refine⟨hw.hd,fun H' K'=>?_⟩;cases hn:Fm w with
   | true =>
    wp_walk using hn;exact q w r (by rw[rN,if_pos hn]) _ (K'.at aE) (Ro K')
   | false =>
    wp_walk using hn;exact qE (by rw[rN,if_neg (by rw[hn];decide)]) _ (Ro K')
theorem Cu{t:Ad}(T:Tx K mg t):bN P w K mg base UR 1 t.sD t.sS ["sign"] LA:=by
 refine T.Ag.ok CH (fun vs H Q E h=>?_) (fun UN A outer s H vs Q E hr h=>?_)
 ·obtain⟨c,rfl,_⟩:=h;rfl
 ·obtain⟨c,rfl,q⟩:=h;refine⟨_,(aH (aN (x9 Bq Bq aF (pv 0) aF))),?_⟩
  and_intros
  wp_walk;have e1:(([c]:List Nat) < ("0":Str).cps.toList)=(c < 48):=by
   show(([c]:List Nat) < [48])=_;have:=Bh c 48;rw[Bool.eq_iff_iff,decide_eq_true_eq,decide_eq_true_eq] at this;exact propext this
  have e2:(!decide (("9":Str).cps.toList < ([c]:List Nat)))=decide (c<=57):=by
   show(!decide (([57]:List Nat) < [c]))=_;rw[Bh,Bool.eq_iff_iff];simp
  rw[e2];simp only[e1];split
  ·next h =>
   rw[show decide (48<=c)=false by simp;omega,Bool.false_and] at q;exact q
  ·next h =>
   rw[show decide (48<=c)=true by simp;omega,Bool.true_and] at q;exact q
theorem vB{t:Ad}(T:Tx K mg t):bN P w K mg base UR 2 t.jU t.jW ["word","least","greatest"] Eo:=by
 refine T.oW.ok mF (fun vs H Q E h=>?_) (fun UN A outer s H vs Q E hr h=>?_)
 ·obtain⟨x,lo,hi,rfl,_⟩:=h;rfl
 ·obtain⟨x,lo,hi,rfl,hx,hb,q⟩:=h;refine⟨_,(aD (aO (i:=3) mF.nd rfl (Or.inl rfl) (nG (j4 (kO PySem.F.plainAttrs_str PySem.F.slot_str_startswith PySem.F.type_str_startswith zF (pv 0) (aC aF aB))) (bQ iS (pv 0) (cE aG) cD) (pv 0)))
   (aD (bE (jZ (CF As As aG (bP cA rfl T.kS eL (aC (pv 3) aB)) (bP cA rfl T.kS eL (aC (dF Aa rfl T.IJ C2 (aC (bP (EO rfl) rfl T.Pr Mi (aC (rV l9 (pv 1)) (aC (pv 2) aB))) aB)) aB)))) (aH (aN uT)) aR)
   (aD (bE (PW.pt (oZ (jZ (j4 (bP (zY rfl) rfl T.Lb FT (aC (lM (cl:=[]) (fr:=[]) (N:=["sign"]) rfl (fun _ _ h=>h) (eK.m8 rfl rfl rfl rfl) (HJ (pv 3)) (fun C s H ex pn=>⟨jP,(aI (Cu T) (hr.mono (by omega)) rfl T.Fg T.Ag.kp T.EF .nil pass0 (aC (pv 0) aB))⟩)) aB)))) (lO (PW.pt (tT (aL bT (bH cB (pv 3) aG (fun _ _=>rfl)) aF (nomark _)) (oP (aL xX (pv 0) aF (nomark _)))))))) (aH (aN uT)) aR)
   (aH (aN (x9 As As (pv 1) (dF zZ rfl T.CU sP (aC (pv 0) aB)) (pv 2))))))),?_⟩
  and_intros
  wp_walk;have fin:∀(b:Bool) (G:Hp),Kp [] H G->b=pW x lo hi->Q (.bl b) G:=fun b G k e=>by rw[e];exact q G k
  have hW:pW x lo hi=(decide (1<=(iH x.cps.toList).length)&&decide ((iH x.cps.toList).length<=(Str.ofString (toString (if hi > -lo then hi else -lo))).length)&&(iH x.cps.toList).all (fun c=>decide (48<=c)&&decide (c<=57))&&!(decide ((iH x.cps.toList)[0]?=some 48)&&!decide (x=Str.ofString "0"))&&(match intText? x with|some v=>decide (lo<=v)&&decide (v<=hi)|none=>false)):=rfl;have M0:0<=(if hi > -lo then hi else -lo)/\(if hi > -lo then hi else -lo)<=1000000000000:=by split<;>omega
  have Z0:(if hi > -lo then hi else -lo).natAbs.log2 < 1920:=mlog M0.1 M0.2;have aaT:(Str.ofString (toString (if hi > -lo then hi else -lo))).length<=13:=mlen M0.1 M0.2;have ef0:=JU x;have ns:=Hy (x:=x);have fl:=wU x.cps.toList;generalize (if hi > -lo then hi else -lo)=M at *;generalize (Str.ofString (toString M)).length=L at *;generalize iH x.cps.toList=F at *;have lS:=kQ x (some 1) none;generalize Txt.slice x (some 1) none=z1 at *;apply J4 z1 x
  ·exact fun _=>⟨by omega,by omega⟩
  ·exact fun _=>by omega
  intro z hz;have lz:z.length<=x.length:=by rw[hz];split<;>omega
  have ef:z.cps.toList=F:=by rw[hz,<- ef0];first|done|(split<;>rfl)
  have lf:(z).length=F.length:=by rw[<- ef,Array.length_toList];rfl
  by_cases c1:(1:Int)<=((z).length:Int)
  case neg =>
   rw[if_neg c1];exact fin false H Kp.refl (by rw[hW,decide_eq_false (show ¬ 1<=F.length by omega)];rfl)
  rw[if_pos c1];refine⟨Z0,by omega,?_⟩;by_cases c2:((z).length:Int)<=(L:Int)
  case neg =>
   rw[if_neg c2];exact fin false H Kp.refl (by rw[hW,decide_eq_true (show 1<=F.length by omega),decide_eq_false (show ¬ F.length<=L by omega)];rfl)
  rw[if_pos c2];rw[decide_eq_true (show 1<=F.length by omega),decide_eq_true (show F.length<=L by omega),Bool.true_and,Bool.true_and] at hW;refine Hh (fun i xs G=>xs=(((z).cps.toList.take i).map fun c=>decide (48<=c)&&decide (c<=57)).map V.bl/\Kp [] H G) ⟨rfl,Kp.refl⟩ ?_ ?_ ?_
  ·rintro i xs G ⟨rfl,_⟩;simp only[List.length_map,List.length_take,Array.length_toList];have:(z).cps.size=(z).length:=rfl;omega
  ·rintro i c xs G hi hc ⟨rfl,k⟩;wp_walk using bJ;refine⟨?_,k⟩;have e:(z).cps.toList[i]?=some c:=by simpa using hc
   rw[List.take_add_one,e];simp
  ·rintro xs G ⟨rfl,k⟩ l hl;rw[show(z).cps.toList.take (z).cps.size=F by rw[<- Array.length_toList,List.take_length,ef]];have KN:=k.trans (q0D (o:=.lst ((F.map fun c=>decide (48<=c)&&decide (c<=57)).map V.bl)) hl);have el:UH G l (.lst ((F.map fun c=>decide (48<=c)&&decide (c<=57)).map V.bl)) l=some (.lst ((F.map fun c=>decide (48<=c)&&decide (c<=57)).map V.bl)):=aE;generalize UH G l (.lst ((F.map fun c=>decide (48<=c)&&decide (c<=57)).map V.bl))=G2 at *;wp_walk using el;rw[List.all_map,show((id∘fun c=>decide (48<=c)&&decide (c<=57)):Nat->Bool)=fun c=>decide (48<=c)&&decide (c<=57) from rfl];by_cases c3:F.all (fun c=>decide (48<=c)&&decide (c<=57))=true
   case neg =>
    rw[Bool.not_eq_true] at c3;rw[c3];wp_walk;exact fin false _ KN (by rw[hW,c3];rfl)
   rw[c3];rw[c3,Bool.true_and] at hW;wp_walk;refine⟨by omega,?_⟩;have ad:∀ c∈F,48<=c/\c<=57:=fun c hc=>by have:=List.all_eq_true.mp c3 c hc;simpa using this
   have lxx:x.length=x.cps.toList.length:=by rw[Array.length_toList];rfl
   have lx:x.length<=640:=by omega
   cases F with
   | nil=>simp at lf;omega
   | cons c0 r0 =>
    obtain⟨nv,hnv⟩:=ns ad (by simp) (by omega);rw[ef];wp_walk using hnv;have hz:((⟨#[c0]⟩:Str)=Str.ofString "0")=(c0=48):=propext ⟨fun z=>by have:=congrArg (fun y:Str=>y.cps.toList) z;rw[eV.2.2.2.1] at this;simpa using this,fun z=>by rw[z,eV.2.2.2.1]⟩;rw[hnv] at hW;simp only[List.getElem?_cons_zero,Option.some.injEq] at hW;have last:(!(decide (c0=48)&&!decide (x=Str.ofString "0")))=true->(if lo<=nv then Q (.bl (decide (nv<=hi))) G2 else Q (.bl false) G2):=fun ht=>by
     rw[ht,Bool.true_and] at hW;split
     ·next ZF=>exact fin _ _ KN (by rw[hW,decide_eq_true ZF,Bool.true_and])
     ·next ZF=>exact fin _ _ KN (by rw[hW,decide_eq_false ZF,Bool.false_and])
    simp only[hz];split
    ·next h0 =>
     split
     ·next hx0=>exact⟨lx,last (by simp[hx0])⟩
     ·next hx0=>exact fin false _ KN (by rw[hW];simp[h0,hx0])
    ·next h0=>exact⟨lx,last (by simp[h0])⟩
theorem zQ{t:Ad}(T:Tx K mg t){n d:Nat}(hn:6<=n)(IH:bN P w K mg base (U2 P w base) n t.fZ t.gB ["words","deep"] (LD t.aK d)):bN P w K mg base (U2 P w base) (n+1) t.mM t.mV ["words","deep"] (RX t.aK d):=by
 refine T.uL.okE g7 (fun vs H Q E h=>?_) (fun UN A outer s H vs Q E hr h=>?_)
 ·obtain⟨d,wl,dp,ws,rfl,rfl,_⟩:=h;rfl
 ·obtain⟨d,wl,dp,ws,rfl,rfl,e,hd,hw,q,qE⟩:=h;refine⟨_,(aD (aO (i:=2) g7.nd rfl (Or.inl rfl) (aI IH (hr.mono (by omega)) rfl T.cK T.cF.kp T.cJ .nil (pass1 fun _ _ _ z=>z) (aC (pv 0) (aC (pv 1) aB))))
   (aD (aO (i:=3) g7.nd rfl (Or.inl rfl) (aI (dX T) (hr.mono (by omega)) rfl T.gC T.fJ.kp T.gA .nil (pass1 fun _ _ _ z=>z) (aC (pv 0) aB)))
   (aD (aO (i:=4) g7.nd rfl (Or.inl rfl) (aI IH (hr.mono (by omega)) rfl T.cK T.cF.kp T.cJ .nil (pass1 fun _ _ _ z=>z) (aC (pv 0) (aC (pv 1) aB))))
   (aD (bE (PW.pt (oZ (aL Av (pv 3) (dM (v:=.ref t.Dd) rfl T.Mp rfl) (by with_unfolding_all rfl)) (lO (aL xX (aI (dX T) (hr.mono (by omega)) rfl T.gC T.fJ.kp T.gA .nil (pass1 fun _ _ _ z=>z) (aC (pv 0) aB)) aF (nomark _))))) (aH (dS throws1 rfl rfl T.b9 T.bZ.toXCls (aC aF aB))) aR)
   (aH (aN (bM (aC (pv 3) (aC (pv 2) (aC (pv 4) aB)))))))))),?_⟩
  and_intros
  wp_walk;refine⟨d,rfl,wl,dp,ws,rfl,e,hd,hw,fun a r1 h1 v1 H1 hv1 e1 K1=>?_,fun h1 H1 K1=>qE (by unfold jO;rw[h1]) _ K1⟩;have hw1:=hw.say h1;cases r1 with
  | nil =>
   wp_walk using e1,List.map_nil;exact qE (by unfold jO;rw[h1]) _ K1
  | cons g r2 =>
  wp_walk using e1,List.map_cons;have K2:=K1.trans (Kp.kG (a:=wl) (H:=H1) (o:=.lst (r2.map V.str)));have w2:UH H1 wl (.lst (r2.map V.str)) wl=some (.lst (r2.map V.str)):=aE;have s2:=hv1.kp (aM.set (ys:=r2.map V.str) e1);generalize UH H1 wl (.lst (r2.map V.str))=G2 at *;refine⟨d,rfl,wl,dp,r2,rfl,w2,hd,hw1.tl,fun b r3 h3 v3 H3 hv3 e3 K3=>?_,fun h3 H3 K3=>qE (by unfold jO;rw[h1];simp only[];rw[h3]) _ (K2.trans K3)⟩;have s3:=s2.kp (aM.w K3 w2);wp_walk;refine⟨_,T.OM H3,rfl,flat5,?_⟩;cases hg:cR (.str g) TV with
  | false =>
   wp_walk using hg;exact qE (by
    unfold jO;rw[h1];simp only[];rw[h3];cases r3 with
    | nil=>rfl
    | cons c r4=>simp only[];rw[if_neg (fun z=>by rw[hg] at z;cases z.1)]) _ (K2.trans K3)
  | true =>
  cases r3 with
  | nil =>
   wp_walk using hg,e3,List.map_nil;exact qE (by unfold jO;rw[h1];simp only[];rw[h3]) _ (K2.trans K3)
  | cons c r4 =>
  wp_walk using hg,e3,List.map_cons;by_cases hc:c = ")"
  ·rw[if_pos hc];refine fun p4 UU=>?_;have T4:=aM.set (ys:=r4.map V.str) e3;exact q _ _ (by unfold jO;rw[h1];simp only[];rw[h3];simp only[];rw[if_pos ⟨hg,hc⟩]) _ _ (.two (by rw[DD hg];exact aE) ((s3.kp T4).kp (aM.new UU)) ((hv3.kp T4).kp (aM.new UU))) ((q0D UU).at aE) (((K2.trans K3).trans Kp.kG).trans (Kp.new UU))
  ·rw[if_neg hc];exact qE (by unfold jO;rw[h1];simp only[];rw[h3];simp only[];rw[if_neg fun z=>hc z.2]) _ ((K2.trans K3).trans Kp.kG)
theorem pD{t:Ad}(T:Tx K mg t){n d:Nat}(hn:6<=n)(IH:bN P w K mg base (U2 P w base) n t.fZ t.gB ["words","deep"] (LD t.aK d)):bN P w K mg base (U2 P w base) (n+2) t.fZ t.gB ["words","deep"] (Ie t.aK d):=by
 refine T.cF.okE pB (fun vs H Q E h=>?_) (fun UN A outer s H vs Q E hr h=>?_)
 ·obtain⟨wl,dp,ws,rfl,_⟩:=h;rfl
 ·obtain⟨wl,dp,ws,rfl,e,hd,hw,q,qE⟩:=h;refine⟨_,(aD (bE (aL CB (pv 1) (dM (v:=.int 6) rfl T.wB ⟨_,rfl⟩) (nomark _)) (aH (dS throws1 rfl rfl T.b9 T.bZ.toXCls (aC aF aB))) aR)
   (aD (aO (i:=2) pB.nd rfl (Or.inl rfl) (aI (dX T) (hr.mono (by omega)) rfl T.gC T.fJ.kp T.gA .nil (pass1 fun _ _ _ z=>z) (aC (pv 0) aB)))
   (aD (bE (aL tO (pv 2) (bM (aC aF (aC aF (aC aF aB)))) (by with_unfolding_all rfl)) (aH (aN (bM (aC (pv 2) aB)))) aR)
   (aD (bE (aL tO (pv 2) (bM (aC aF (aC aF aB))) (by with_unfolding_all rfl)) (aH (aN (bM (aC (pv 2) (aC (aI IH (hr.mono (by omega)) rfl T.cK T.cF.kp T.cJ .nil (pass1 fun _ _ _ z=>z) (aC (pv 0) (aC (aW aU (pv 1) aG) aB))) aB))))) aR)
   (aD (bE (aL bT (pv 2) aF (nomark _)) (aH (aN (aI (zQ T hn IH) (hr.mono (by omega)) rfl T.Cr T.uL.kp T.BQ .nil (pass1 fun _ _ _ z=>z) (aC (pv 0) (aC (aW aU (pv 1) aG) aB))))) aR)
   (aD (bE (j4 (aI (vB T) (hr.mono (by omega)) rfl T.zE T.oW.kp T.yT .nil pass0 (aC (pv 2) (aC (rV l9 (dM (v:=.int 1000000000) rfl T.mP ⟨_,rfl⟩)) (aC (dM (v:=.int 1000000000) rfl T.mP ⟨_,rfl⟩) aB))))) (aH (aN (bM (aC aF (aC (dF zZ rfl T.CU sP (aC (pv 2) aB)) aB))))) aR)
   (aD (bE (j4 (aI (tK T) (hr.mono (by omega)) rfl T.Bi T.vF.kp T.AS .nil pass0 (aC (pv 2) aB))) (aH (aN (bM (aC aF (aC (pv 2) aB))))) aR)
   (aH (dS throws1 rfl rfl T.b9 T.bZ.toXCls (aC aF aB)))))))))),?_⟩
  and_intros
  cases d with
  | zero =>
   wp_walk;rw[if_pos (by omega)];exact qE rfl _ Kp.refl
  | succ d =>
  cases ws with
  | nil =>
   wp_walk using e,List.map_nil;rw[if_neg (by omega)];exact qE rfl _ Kp.refl
  | cons w0 r =>
  rw[jB] at q qE;have XM:=hw.hd;wp_walk using e,List.map_cons;rw[if_neg (by omega)];refine fun p hp=>⟨rfl,flat3,?_⟩;have K1:=(Kp.kG (a:=wl) (H:=H) (o:=.lst (r.map V.str))).trans (Kp.new (S:=[wl]) (o:=.tup [.str "none",.str "arg",.str "now"]) hp);have w1:=(q0D (o:=.tup [.str "none",.str "arg",.str "now"]) hp).at (aE (H:=H) (a:=wl) (o:=.lst (r.map V.str)));generalize UH (UH H wl (.lst (r.map V.str))) p (.tup [.str "none",.str "arg",.str "now"])=G at *;cases h3:cR (.str w0) l3 with
  | true =>
   rw[if_pos h3] at q;wp_walk using h3;exact fun p2 W3=>q _ _ rfl _ _ (bD.l3 h3 aE) ((q0D W3).at w1) (K1.trans (Kp.new W3))
  | false =>
  rw[if_neg (by rw[h3];decide)] at q qE;wp_walk using h3;refine fun p2 W3=>⟨rfl,flat2,?_⟩;have K2:=K1.trans (Kp.new (S:=[wl]) (o:=.tup [.str "answer",.str "not"]) W3);have w2:=(q0D (o:=.tup [.str "answer",.str "not"]) W3).at w1;generalize UH G p2 (.tup [.str "answer",.str "not"])=G2 at *;cases h2:cR (.str w0) l2 with
  | true =>
   rw[if_pos h2] at q qE;wp_walk using h2;refine⟨d,rfl,wl,dp+1,r,rfl,w2,by omega,hw.tl,fun s r' hs v H3 hv e3 K3=>?_,fun hs H3 K3=>qE (by rw[hs]) _ (K2.trans K3)⟩;wp_walk;exact fun p4 UU=>q _ _ (by rw[hs]) _ _ (bD.l2 h2 aE (hv.kp (aM.new UU))) ((q0D UU).at e3) ((K2.trans K3).trans (Kp.new UU))
  | false =>
  rw[if_neg (by rw[h2];decide)] at q qE;wp_walk using h2;by_cases ZH:w0 = "("
  ·rw[if_pos ZH] at q qE;rw[if_pos ZH];wp_walk;exact⟨d,wl,dp+1,r,rfl,rfl,w2,by omega,hw.tl,fun s r' hs v H3 hv e3 K3=>q s r' hs v H3 hv e3 (K2.trans K3),fun hs H3 K3=>qE hs _ (K2.trans K3)⟩
  rw[if_neg ZH] at q qE;rw[if_neg ZH];wp_walk;refine⟨by omega,fun H3 K3=>?_⟩;have K3':=K2.trans (Kp.of (S:=[wl]) K3.same);have w3:=K3.at w2;cases hn:pW w0 (-1000000000) 1000000000 with
  | true =>
   rw[if_pos hn] at q;obtain⟨i,hi,li⟩:=D9 hn;wp_walk using hn,hi;refine⟨by omega,fun p4 UU=>?_⟩;exact q _ _ rfl _ _ (by rw[hi];exact .num aE) ((q0D UU).at w3) (K3'.trans (Kp.new UU))
  | false =>
  rw[if_neg (by rw[hn];decide)] at q qE;wp_walk using hn;refine⟨by omega,fun H4 K4=>?_⟩;have K4':=K3'.trans (Kp.of (S:=[wl]) K4.same);have w4:=K4.at w3;cases hb:Fm w0 with
  | true =>
   rw[if_pos hb] at q;wp_walk using hb;exact fun p4 UU=>q _ _ rfl _ _ (.name aE) ((q0D UU).at w4) (K4'.trans (Kp.new UU))
  | false =>
  rw[if_neg (by rw[hb];decide)] at qE;wp_walk using hb;exact qE rfl _ K4'
theorem cH{t:Ad}(T:Tx K mg t):∀ d,bN P w K mg base (U2 P w base) (2 * d+8) t.fZ t.gB ["words","deep"] (Ie t.aK d)
 | 0=>pD T (Nat.le_refl 6) ⟨fun _ _ _ _ x=>by (obtain⟨_,h,_⟩:=x;exact absurd h (by omega)),fun _ _ _ _ _ _ _ _ _ _ _ _ _ x=>by (obtain⟨_,h,_⟩:=x;exact absurd h (by omega))⟩
 | d+1=>pD T (by omega) ((cH T d).imp fun _ _ _ _ ⟨d',h,x⟩=>by cases h;exact x)
theorem zK{t:Ad}(T:Tx K mg t):bN P w K mg base (U2 P w base) 22 t.mO t.mW ["words"] (O8 t.aK):=by
 refine T.uM.okE pC (fun vs H Q E h=>?_) (fun UN A outer s H vs Q E hr h=>?_)
 ·obtain⟨wl,ws,rfl,_⟩:=h;rfl
 ·obtain⟨wl,ws,rfl,e,hw,q,qE⟩:=h;refine⟨_,(aD (aO (i:=1) pC.nd rfl (Or.inl rfl) (bF (aC (aI (cH T 6) (hr.mono (by omega)) rfl T.cK T.cF.kp T.cJ .nil (pass1 fun _ _ _ z=>z) (aC (pv 0) (aC aG aB))) aB)))
   (aD (yB PassesOwn.leaving (PW.pt (tT (oO (pv 0) (fun _=>rfl)) (oP (aL rK (bP cA rfl T.kS eL (aC (pv 1) aB)) (dM (v:=.int 4) rfl T.BS ⟨_,rfl⟩) (nomark _))))) (aH (iQ (rR (pv 1) (aI (cH T 6) (hr.mono (by omega)) rfl T.cK T.cF.kp T.cJ .nil (pass1 fun _ _ _ z=>z) (aC (pv 0) (aC aG aB)))))))
   (aH (aN (dF oB rfl T.uC qU (aC (pv 1) aB)))))),?_⟩
  and_intros
  wp_walk;refine⟨wl,1,ws,rfl,e,by decide,hw,fun s0 r0 h0 v1 H1 hv1 e1 K1=>?_,fun h0 H1 K1=>qE (by unfold gZ;rw[h0]) _ K1⟩;wp_walk;refine fun sl Wf=>?_;have KN:=q0D (o:=.lst [v1]) Wf;have nsw:wl≠sl:=aQ e1 Wf;have YO:H sl=none:=by
   cases hz:H sl with
   | none=>rfl
   | some o=>rw[K1.at1 hz nsw.symm] at Wf;cases Wf
  have hR:gZ ws=kM 3 [s0] r0:=by unfold gZ;rw[h0]
  rw[hR] at q qE;obtain⟨W,hW⟩:∃ W:Nat->St->Hp->Prop,∀ m σ G,W m σ G = ∃(us:List V) (ss:List Say) (r:List Str),σ=[some (.ref wl),some (.ref sl)]/\G sl=some (.lst us)/\cO G us ss/\ss.length+m=4/\G wl=some (.lst (r.map V.str))/\WL r/\kM 3 [s0] r0=kM m ss r/\Kp [wl] H G:=⟨_,fun _ _ _=>rfl⟩;refine⟨W,⟨3,?_⟩,?_⟩
  ·rw[hW];exact⟨[v1],[s0],r0,rfl,aE,.cons (hv1.kp (aM.new Wf)) .nil,rfl,KN.at e1,hw.say h0,rfl,K1.trans (Kp.new Wf)⟩
  intro m σ G hG;rw[hW] at hG;obtain⟨us,ss,r,rfl,eS,hU,hm,eW,hwr,hP,KG⟩:=hG;have ln:=hU.ln;rw[hP] at q qE;have back:∀(Vw:List V) (Za:List Say) (r2:List Str) (G2:Hp) (m2:Nat),m=m2+1->G2 sl=some (.lst Vw)->cO G2 Vw Za->Za.length+m2=4->G2 wl=some (.lst (r2.map V.str))->WL r2->kM m ss r=kM m2 Za r2->Kp [wl] H G2->∃ m',m' < m/\W m' [some (.ref wl),some (.ref sl)] G2:=fun Vw Za r2 G2 m2 hm2 a b c d e f g=>by
   refine⟨m2,by omega,?_⟩;rw[hW];exact⟨Vw,Za,r2,rfl,a,b,c,d,e,hP.trans f,g⟩
  clear hW;have stop:kM m ss r=some (ss,r)->∀ p,G p=none->Q (.ref p) (UH G p (.tup us)):=fun z p hp=>q ss r z p us _ aE (hU.kp (aM.new hp)) ((q0D hp).at eW) (KG.trans (Kp.new hp));cases r with
  | nil =>
   wp_walk using eW,eS,List.map_nil,List.isEmpty_nil;exact stop (Ee _ _)
  | cons w1 r1 =>
  cases m with
  | zero =>
   wp_walk using eW,eS,List.map_cons,List.isEmpty_cons;rw[if_neg (by omega)];wp_walk using eS;exact stop rfl
  | succ m =>
  rw[vN] at qE;wp_walk using eW,eS,List.map_cons,List.isEmpty_cons;rw[if_pos (by omega)];refine⟨fun σ' H'=>∃ m',m' < m+1/\W m' σ' H',fun _ _ h=>h,?_⟩;wp_walk using eS;refine⟨wl,1,w1::r1,rfl,eW,by decide,hwr,fun s2 r2 h2 v2 H2 WU e2 K2=>?_,fun h2 H2 K2=>qE (by rw[h2]) _ (KG.trans K2)⟩;have eS2:=K2.at1 eS nsw.symm;wp_walk using eS2;have T2:=aM.w K2 eW;have T3:=aM.set (ys:=us++[v2]) eS2;refine⟨by omega,back _ _ _ _ m rfl aE (((hU.kp T2).kp T3).RQ (WU.kp T3)) (by rw[List.length_append];simp only[List.length_cons,List.length_nil];omega) (by rw[aY nsw];exact e2) (hwr.say h2) (by rw[vN,h2]) ?_⟩;exact fun b o eb nb=>by
   have:=(KG.trans K2) b o eb nb;rw[aY (fun z=>?_)]
   ·exact this
   ·subst z;exact absurd eb (by rw[YO];intro z;cases z)
theorem Bo{t:Ad}(T:Tx K mg t):bN P w K mg base (U2 P w base) 24 t.pK t.pR ["name","words"] (RW t.aK):=by
 refine T.wY.okE r8 (fun vs H Q E h=>?_) (fun UN A outer s H vs Q E hr h=>?_)
 ·obtain⟨wl,x,ws,rfl,_⟩:=h;rfl
 ·obtain⟨wl,x,ws,rfl,e,hw,q,qE⟩:=h;refine⟨_,(aD (aO (i:=2) r8.nd rfl (Or.inl rfl) (nG (oO (pv 1) (fun _=>rfl)) (bH cB (pv 1) aG (fun _ _=>rfl)) aF))
   (aD (bE (aL Au (pv 2) (bM (aC aF (aC aF (aC aF (aC aF (aC aF aB)))))) (by with_unfolding_all rfl)) (aH (aN (bM (aC aF (aC (pv 0) (aC (aI (cH T 6) (hr.mono (by omega)) rfl T.cK T.cF.kp T.cJ .nil (pass1 fun _ _ _ z=>z) (aC (pv 1) (aC aG aB))) aB)))))) aR)
   (aD (iQ (aI (dX T) (hr.mono (by omega)) rfl T.gC T.fJ.kp T.gA .nil (pass1 fun _ _ _ z=>z) (aC (pv 1) aB)))
   (aD (bE (aL bT (pv 2) aF (nomark _)) (aH (aN (bM (aC (pv 2) (aC (pv 0) (aC (aI (cH T 6) (hr.mono (by omega)) rfl T.cK T.cF.kp T.cJ .nil (pass1 fun _ _ _ z=>z) (aC (pv 1) (aC aG aB))) aB)))))) aR)
   (aD (bE (aL bT (pv 2) aF (nomark _)) (aH (aN (bM (aC (pv 2) (aC (pv 0) (aC (aI (zK T) (hr.mono (by omega)) rfl T.Cs T.uM.kp T.BR .nil (pass1 fun _ _ _ z=>z) (aC (pv 1) aB)) aB)))))) aR)
   (aD (bE (aL bT (pv 2) aF (nomark _)) (aH (aN (bM (aC (pv 2) (aC (pv 0) (aC (aI (nE T) (hr.mono (by omega)) rfl T.tI T.oF.kp T.sQ .nil (pass1 fun _ _ _ z=>z) (aC (pv 1) aB)) aB)))))) aR)
   (aH (aN (bM (aC (pv 2) (aC (pv 0) (aC (aI (nE T) (hr.mono (by omega)) rfl T.tI T.oF.kp T.sQ .nil (pass1 fun _ _ _ z=>z) (aC (pv 1) aB)) (aC (aI (cH T 6) (hr.mono (by omega)) rfl T.cK T.cF.kp T.cJ .nil (pass1 fun _ _ _ z=>z) (aC (pv 1) (aC aG aB))) aB))))))))))))),?_⟩
  and_intros
  cases ws with
  | nil =>
   wp_walk using e,List.map_nil,List.isEmpty_nil;refine fun p hp=>⟨rfl,flat5,?_⟩;have KN:=q0D (o:=.tup [.str "order",.str "child",.str "timer",.str "wait",.str "hear"]) hp;have e1:=KN.at e;have K1:Kp [wl] H _:=KN.mono (by simp);generalize UH H p (.tup [.str "order",.str "child",.str "timer",.str "wait",.str "hear"])=G at *;wp_walk using Rj;exact⟨wl,1,[],rfl,e1,by decide,hw,fun _ _ h=>(nomatch h),fun _ H2 K2=>qE rfl _ (K1.trans K2)⟩
  | cons k r =>
  rw[h9] at q qE;wp_walk using e,List.map_cons,List.isEmpty_cons;refine fun p hp=>⟨rfl,flat5,?_⟩;have KN:=q0D (o:=.tup [.str "order",.str "child",.str "timer",.str "wait",.str "hear"]) hp;have e1:=KN.at e;have K1:Kp [wl] H _:=KN.mono (by simp);generalize UH H p (.tup [.str "order",.str "child",.str "timer",.str "wait",.str "hear"])=G at *;cases h5:cR (.str k) l5 with
  | false =>
   rw[if_pos h5] at q qE;wp_walk using h5;refine⟨wl,1,k::r,rfl,e1,by decide,hw,fun s r' hs v H2 hv e2 K2=>?_,fun hs H2 K2=>qE (by rw[hs]) _ (K1.trans K2)⟩;wp_walk;exact fun p4 UU=>q _ _ (by rw[hs]) _ _ (.set aE (hv.kp (aM.new UU))) ((q0D UU).at e2) ((K1.trans K2).trans (Kp.new UU))
  | true =>
  rw[if_neg (by rw[h5];decide)] at q qE;wp_walk using h5,e1,List.map_cons;have K2:=K1.trans (Kp.kG (a:=wl) (H:=G) (o:=.lst (r.map V.str)));have e2:UH G wl (.lst (r.map V.str)) wl=some (.lst (r.map V.str)):=aE;generalize UH G wl (.lst (r.map V.str))=G2 at *;by_cases k1:k = "timer"
  ·rw[if_pos k1] at q qE;rw[if_pos k1];wp_walk;refine⟨wl,1,r,rfl,e2,by decide,hw.tl,fun s r' hs v H3 hv e3 K3=>?_,fun hs H3 K3=>qE (by rw[hs]) _ (K2.trans K3)⟩;wp_walk;exact fun p4 UU=>q _ _ (by rw[hs]) _ _ (.timer (by rw[<- k1];exact aE) (hv.kp (aM.new UU))) ((q0D UU).at e3) ((K2.trans K3).trans (Kp.new UU))
  rw[if_neg k1] at q qE;rw[if_neg k1];by_cases k2:k = "wait"
  ·rw[if_pos k2] at q qE;rw[if_pos k2];wp_walk;refine⟨wl,r,rfl,e2,hw.tl,fun ss r' hs p3 us H3 h3 hU e3 K3=>?_,fun hs H3 K3=>qE (by rw[hs]) _ (K2.trans K3)⟩;wp_walk;exact fun p4 UU=>q _ _ (by rw[hs]) _ _ (.wait (by rw[<- k2];exact aE) ((q0D UU).at h3) (hU.kp (aM.new UU))) ((q0D UU).at e3) ((K2.trans K3).trans (Kp.new UU))
  rw[if_neg k2] at q qE;rw[if_neg k2];by_cases k3:k = "hear"
  ·rw[if_pos k3] at q qE;rw[if_pos k3];wp_walk;refine⟨wl,r,rfl,e2,hw.tl,fun y r' hs H3 e3 K3=>?_,fun hs H3 K3=>qE (by rw[hs]) _ (K2.trans K3)⟩;wp_walk;exact fun p4 UU=>q _ _ (by rw[hs]) _ _ (.hear (by rw[<- k3];exact aE)) ((q0D UU).at e3) ((K2.trans K3).trans (Kp.new UU))
  rw[if_neg k3] at q qE;rw[if_neg k3];wp_walk;refine⟨wl,r,rfl,e2,hw.tl,fun y r1 hs H3 e3 K3=>?_,fun hs H3 K3=>qE (by rw[hs]) _ (K2.trans K3)⟩;rw[hs] at q qE;wp_walk;refine⟨wl,1,r1,rfl,e3,by decide,hw.tl.name hs,fun s r' W6 v H4 hv e4 K4=>?_,fun W6 H4 K4=>qE (by simp only[];rw[W6]) _ ((K2.trans K3).trans K4)⟩;wp_walk;refine fun p4 UU=>q _ _ (by simp only[];rw[W6]) _ _ ?_ ((q0D UU).at e4) (((K2.trans K3).trans K4).trans (Kp.new UU));split
  ·next k4=>exact .order (by rw[<- k4];exact aE) (hv.kp (aM.new UU))
  ·next k4 =>
   have k5:k = "child":=by
    simp only[l5,cR,List.any_cons,List.any_nil,dJ,fN,Bool.or_false,Bool.or_eq_true,beq_iff_eq] at h5;rcases h5 with h|h|h|h|h
    ·exact absurd h.symm k4
    ·exact h.symm
    ·exact absurd h.symm k1
    ·exact absurd h.symm k2
    ·exact absurd h.symm k3
   exact .child (by rw[<- k5];exact aE) (hv.kp (aM.new UU))
theorem Bp{t:Ad}(T:Tx K mg t):bN P w K mg base (U2 P w base) 26 t.pL t.pS ["words"] (RZ t.aK):=by
 refine T.wZ.okE r9 (fun vs H Q E h=>?_) (fun UN A outer s H vs Q E hr h=>?_)
 ·obtain⟨wl,ws,rfl,_⟩:=h;rfl
 ·obtain⟨wl,ws,rfl,e,hw,q,qE⟩:=h;refine⟨_,(aD (aO (i:=1) r9.nd rfl (Or.inl rfl) (aI (dX T) (hr.mono (by omega)) rfl T.gC T.fJ.kp T.gA .nil (pass1 fun _ _ _ z=>z) (aC (pv 0) aB)))
   (aD (bE (aL bT (pv 1) aF (nomark _)) (aH (aN (bM (aC (pv 1) (aC (aI (cH T 6) (hr.mono (by omega)) rfl T.cK T.cF.kp T.cJ .nil (pass1 fun _ _ _ z=>z) (aC (pv 0) (aC aG aB))) (aC (aI (nE T) (hr.mono (by omega)) rfl T.tI T.oF.kp T.sQ .nil (pass1 fun _ _ _ z=>z) (aC (pv 0) aB)) (aC (aI (cH T 6) (hr.mono (by omega)) rfl T.cK T.cF.kp T.cJ .nil (pass1 fun _ _ _ z=>z) (aC (pv 0) (aC aG aB))) aB))))))) aR)
   (aD (bE (PW.pt (oZ (aL bT (pv 1) aF (nomark _)) (lO (aL bT (pv 1) aF (nomark _))))) (aH (aN (bM (aC (pv 1) (aC (aI (cH T 6) (hr.mono (by omega)) rfl T.cK T.cF.kp T.cJ .nil (pass1 fun _ _ _ z=>z) (aC (pv 0) (aC aG aB))) aB))))) aR)
   (aD (bE (PW.pt (oZ (jZ (j4 (aI (tK T) (hr.mono (by omega)) rfl T.Bi T.vF.kp T.AS .nil pass0 (aC (pv 1) aB)))) (lO (aL xX (aI (dX T) (hr.mono (by omega)) rfl T.gC T.fJ.kp T.gA .nil (pass1 fun _ _ _ z=>z) (aC (pv 0) aB)) aF (nomark _))))) (aH (dS throws1 rfl rfl T.b9 T.bZ.toXCls (aC aF aB))) aR)
   (aH (aN (aI (Bo T) (hr.mono (by omega)) rfl T.Dm T.wY.kp T.C3 .nil (pass1 fun _ _ _ z=>z) (aC (pv 1) (aC (pv 0) aB))))))))),?_⟩
  and_intros
  cases ws with
  | nil =>
   wp_walk using e,List.map_nil;exact qE rfl _ Kp.refl
  | cons f r =>
  rw[kN] at q qE;wp_walk using e,List.map_cons;have K1:=Kp.kG (a:=wl) (H:=H) (o:=.lst (r.map V.str));have e1:UH H wl (.lst (r.map V.str)) wl=some (.lst (r.map V.str)):=aE;generalize UH H wl (.lst (r.map V.str))=G1 at *;by_cases f1:f = "send"
  ·rw[if_pos f1] at q qE;rw[if_pos f1];wp_walk;refine⟨wl,1,r,rfl,e1,by decide,hw.tl,fun a r1 ha v2 H2 WU e2 K2=>?_,fun ha H2 K2=>qE (by rw[ha]) _ (K1.trans K2)⟩;rw[ha] at q qE;wp_walk;refine⟨wl,r1,rfl,e2,hw.tl.say ha,fun k r2 hk H3 e3 K3=>?_,fun hk H3 K3=>qE (by simp only[];rw[hk]) _ ((K1.trans K2).trans K3)⟩;wp_walk;refine⟨wl,1,r2,rfl,e3,by decide,(hw.tl.say ha).name hk,fun b r3 hb v4 H4 YX e4 K4=>?_,fun hb H4 K4=>qE (by simp only[];rw[hk];simp only[];rw[hb]) _ (((K1.trans K2).trans K3).trans K4)⟩;wp_walk;exact fun p5 W4=>q _ _ (by simp only[];rw[hk];simp only[];rw[hb]) _ _ (.send (by rw[<- f1];exact aE) (((WU.kp (aM.w K3 e2)).kp (aM.w K4 e3)).kp (aM.new W4)) (YX.kp (aM.new W4))) ((q0D W4).at e4) ((((K1.trans K2).trans K3).trans K4).trans (Kp.new W4))
  rw[if_neg f1] at q qE;rw[if_neg f1];by_cases hf:f = "drop"\/f = "end"
  ·rw[if_pos hf] at q qE;refine Oh hf ?_;wp_walk;refine⟨wl,1,r,rfl,e1,by decide,hw.tl,fun s r1 hs v2 H2 WU e2 K2=>?_,fun hs H2 K2=>qE (by rw[hs]) _ (K1.trans K2)⟩;wp_walk;refine fun p5 W4=>q _ _ (by rw[hs]) _ _ ?_ ((q0D W4).at e2) ((K1.trans K2).trans (Kp.new W4));split
   ·next h=>exact .drop (by rw[<- h];exact aE) (WU.kp (aM.new W4))
   ·next h=>exact .fin (by rw[<- hf.resolve_left h];exact aE) (WU.kp (aM.new W4))
  rw[if_neg fun z=>hf (.inl z),if_neg fun z=>hf (.inr z)];rw[if_neg hf] at q qE;refine⟨hw.hd,fun H2 K2=>?_⟩;have Yn:=K1.trans (Kp.of (S:=[wl]) K2.same);have e2:=K2.at e1;cases hb:Fm f with
  | false =>
   rw[if_neg (by rw[hb];decide)] at qE;wp_walk using hb;exact qE rfl _ Yn
  | true =>
  rw[if_pos hb] at q qE;cases r with
  | nil =>
   wp_walk using hb,e2,List.map_nil;exact qE rfl _ Yn
  | cons e3 r1 =>
  simp only[] at q qE;wp_walk using hb,e2,List.map_cons;by_cases h3:e3 = "="
  ·rw[if_pos h3] at q qE ⊢;wp_walk;exact⟨wl,f,r1,rfl,aE,hw.tl.tl,fun m r' hm v H4 hv e4 K4=>q m r' hm v H4 hv e4 ((Yn.trans Kp.kG).trans K4),fun hm H4 K4=>qE hm _ ((Yn.trans Kp.kG).trans K4)⟩
  ·rw[if_neg h3] at qE;rw[if_neg h3];exact qE rfl _ (Yn.trans Kp.kG)
theorem oY{t:Ad}(T:Tx K mg t):bN P w K mg base (U2 P w base) 1 t.mL t.mU ["words"] (KJ t.aK):=by
 refine T.mZ.okE zM (fun vs H Q E h=>?_) (fun UN A outer s H vs Q E hr h=>?_)
 ·obtain⟨a,xs,rfl,_⟩:=h;rfl
 ·obtain⟨a,xs,rfl,e,q,qE⟩:=h;refine⟨_,(aH (bE (oO (pv 0) (fun _=>rfl)) (aH (dS throws1 rfl rfl T.b9 T.bZ.toXCls (aC aF aB))) aR)),?_⟩
  and_intros
  cases xs with
  | nil =>
   wp_walk using e,List.isEmpty_nil;exact q rfl
  | cons y ys =>
   wp_walk using e,List.isEmpty_cons;exact qE (by simp)
theorem FC{t:Ad}(T:Tx K mg t){n D:Nat}(hn:34<=n)(IH:bN P w K mg base (U2 P w base) n t.dH t.dI ["self","deep"] (Em t.aV t.aK D)):bN P w K mg base (U2 P w base) (n+1) t.fT t.fV ["self","deep"] (O4 t.aV t.aK D):=by
 refine T.pT.okE iB (fun vs H Q E h=>?_) (fun UN A outer s H vs Q E hr h=>?_)
 ·obtain⟨D,rd,dx,ll,rows,i,k,dp,rfl,rfl,_⟩:=h;rfl
 ·obtain⟨D,rd,dx,ll,rows,i,k,dp,rfl,rfl,R,hd,Wv,Xz,q,qE⟩:=h;refine⟨_,(aD (bE (aL xX (nH (pv 0) T.bW T.fQ (eX T) (hr.mono (by omega)) T.gN .nil pass0) aF (nomark _)) (aH (aN (bM aB))) aR)
   (aD (vR T.bW T.dW (pv 0) aG)
   (aD (aO (i:=2) iB.nd rfl (Or.inl rfl) (oM (pv 0) T.bW T.jX IH (hr.mono (by omega)) T.kZ .nil (pass1 fun _ _ _ z=>z) (aC (pv 1) aB)))
   (aD (bE (jZ (oO (pv 2) (fun _=>rfl))) (aH (dS throws1 rfl rfl T.b9 T.bZ.toXCls (aC aF aB))) aR)
   (aH (aN (pv 2))))))),?_⟩
  and_intros
  have ins:=R.ins;cases hL:rows.drop i with
  | nil =>
   rw[hL] at q;wp_walk using ins;refine⟨rd,dx,ll,rows,i,k,rfl,R,?_⟩;rw[vC hL];wp_walk;exact fun p hp=>q _ _ _ rfl p [] _ i aE .nil (R.kp (Kp.new hp)) hL (Kp.new hp)
  | cons l L =>
  rw[hL,oK] at q qE;wp_walk using ins;refine⟨rd,dx,ll,rows,i,k,rfl,R,?_⟩;rw[nZ hL];by_cases he:l = "else"
  ·rw[if_pos he] at q qE;wp_walk using he,ins;have R1:=R.set (i':=i+1) (k':=k);rw[show((i+1:Nat):Int)=(i:Int)+1 by omega] at R1;have K1:=Kp.kG (a:=rd) (H:=H) (o:=.ins t.aV dx [("lines",.ref ll),("lines_read",.int ((i:Int)+1)),("statements_read",.int k)]);have W8:=R1.ins;generalize UH H rd (.ins t.aV dx [("lines",.ref ll),("lines_read",.int ((i:Int)+1)),("statements_read",.int k)])=G at *;have Yo:gK t.aV G rd dx ll rows (i+1) k:=⟨by rw[W8],R1.lin⟩;have Yf:=wK hL;wp_walk using W8;refine⟨D,rfl,rd,dx,ll,rows,i+1,k,dp,rfl,Yo,hd,Wv,Xz,fun b k' L' hb p us H2 i' h2 hU R2 hL2 K2=>?_,fun hb H2 K2=>qE (by rw[<- Yf,hb]) _ (K1.trans K2)⟩;rw[Yf] at hb;cases b with
   | nil =>
    have Yi:us.isEmpty=true:=IA hU;wp_walk using h2,Yi;exact qE (by rw[hb]) _ (K1.trans K2)
   | cons m ms =>
    have Yi:us.isEmpty=false:=IA hU;wp_walk using h2,Yi;exact q _ _ _ (by rw[hb]) p us H2 i' h2 hU R2 hL2 (K1.trans K2)
  ·rw[if_neg he] at q;wp_walk using he;exact fun p hp=>q _ _ _ rfl p [] _ i aE .nil (R.kp (Kp.new hp)) hL (Kp.new hp)
theorem KQ{t:Ad}(T:Tx K mg t){n D:Nat}(hn:34<=n)(IH:bN P w K mg base (U2 P w base) n t.dH t.dI ["self","deep"] (Em t.aV t.aK D)):bN P w K mg base (U2 P w base) (n+2) t.gM t.gO ["self","words","deep"] (R0 t.aV t.aK D):=by
 refine T.qY.okE cS (fun vs H Q E h=>?_) (fun UN A outer s H vs Q E hr h=>?_)
 ·obtain⟨D,rd,dx,ll,wl,rows,i,k,dp,kd,r,rfl,rfl,_⟩:=h;rfl
 ·obtain⟨D,rd,dx,ll,wl,rows,i,k,dp,kd,r,rfl,rfl,R,e,Y5,hkd,hw,hd,Wv,Xz,q,qE⟩:=h;refine⟨_,(aD (aO (i:=3) cS.nd rfl (Or.inl rfl) (aI (dX T) (hr.mono (by omega)) rfl T.gC T.fJ.kp T.gA .nil (pass1 fun _ _ _ z=>z) (aC (pv 1) aB)))
   (aD (aO (i:=4) cS.nd rfl (Or.inl rfl) (aI (cH T 6) (hr.mono (by omega)) rfl T.cK T.cF.kp T.cJ .nil (pass1 fun _ _ _ z=>z) (aC (pv 1) (aC aG aB))))
   (aD (iQ (aI (oY T) (hr.mono (by omega)) rfl T.uR T.mZ.kp T.uF .nil (pass1 fun _ _ _ z=>z) (aC (pv 1) aB)))
   (aD (aO (i:=5) cS.nd rfl (Or.inl rfl) (oM (pv 0) T.bW T.jX IH (hr.mono (by omega)) T.kZ .nil (pass1 fun _ _ _ z=>z) (aC (aW aU (pv 2) aG) aB)))
   (aD (aO (i:=6) cS.nd rfl (Or.inl rfl) (nG (aL bT (pv 3) aF (nomark _)) (bM (aC (pv 5) aB)) (bM (aC (pv 5) (aC (oM (pv 0) T.bW T.oV (FC T hn IH) (hr.mono (by omega)) T.pM .nil (pass1 fun _ _ _ z=>z) (aC (aW aU (pv 2) aG) aB)) aB)))))
   (aD (bE (aL xX (nH (pv 0) T.bW T.fQ (eX T) (hr.mono (by omega)) T.gN .nil pass0) aF (nomark _)) (aH (dS throws1 rfl rfl T.b9 T.bZ.toXCls (aC aF aB))) aR)
   (aD (vR T.bW T.dW (pv 0) aG)
   (aH (aN (aW Ec (bM (aC (pv 3) (aC (pv 4) aB))) (pv 6))))))))))),?_⟩
  and_intros
  have nrw:rd≠wl:=Aq R.ins e (by intro z;cases z);rw[vP] at q qE;refine aP fun Wd U0=>?_;wp_walk using e,List.map_cons;have K1:=Kp.kG (a:=wl) (H:=H) (o:=.lst (r.map V.str));have R1:=R.w K1 nrw Y5.symm;have e1:UH H wl (.lst (r.map V.str)) wl=some (.lst (r.map V.str)):=aE;generalize UH H wl (.lst (r.map V.str))=G1 at *;refine U0 _ _ ?_;clear U0;refine aP fun Wh UY=>?_;wp_walk;refine⟨wl,1,r,rfl,e1,by decide,hw.tl,fun s r2 hs v2 H2 WU e2 K2=>?_,fun hs H2 K2=>qE (by rw[hs]) _ ((K1.trans K2).mono (by simp))⟩;have R2:=R1.w K2 nrw Y5.symm;refine UY _ _ ?_;clear UY;refine aP fun WN U8=>?_;wp_walk;have Wg:Kp [rd,wl] H H2:=(K1.trans K2).mono (by simp);refine⟨wl,r2.map V.str,rfl,e2,fun hz=>?_,fun hz=>qE (by rw[hs];cases r2 with|nil=>exact absurd rfl hz|cons a b=>rfl) _ Wg⟩;obtain rfl:r2=[]:=by
   cases r2 with
   | nil=>rfl
   | cons a b=>cases hz
  rw[hs] at q qE;wp_walk;refine U8 _ _ ?_;clear U8;refine aP fun WO Vi=>?_;wp_walk using R2.ins;refine⟨D,rfl,rd,dx,ll,rows,i,k,dp+1,rfl,R2,by omega,Wv,Xz,fun b k1 L1 hb p3 us H3 i3 h3 hU R3 ZA K3=>?_,fun hb H3 K3=>qE (by simp only[];rw[hb]) _ (Wg.trans (K3.mono (by simp)))⟩;simp only[hb] at q qE;have k60:k1<=60:=(lK D hb).2.2.2.2 Xz;have s3:=WU.kp (aM.rd R2 K3);replace Wg:=Wg.trans (K3.mono (S:=[rd]) (T:=[rd,wl]) (by simp));clear K3 R2 R1 K1 K2 hs hb;refine Vi _ _ ?_;clear Vi;refine aP fun Xv Vx=>?_
  suffices fin:∀(bs:List V) (m:Stm) (k4 i4 p4:Nat) (L4:List Str) (G4:Hp),bD G4 v2 s->gK t.aV G4 rd dx ll rows i4 k4->rows.drop i4=L4->G4 p4=some (.tup bs)->Kp [rd,wl] H G4->(∀ L5,rM L4=some L5->∀(v:V) (H':Hp) (i':Nat),bV H' v m->gK t.aV H' rd dx ll rows i' k4->rows.drop i'=L5->Kp [rd,wl] H H'->Q v H')->(rM L4=none->∀ H',Kp [rd,wl] H H'->E (.ref t.aK) none H')->(bs.length<=2/\bs≠[])->(∀(G5:Hp) (a:Addr),aM G4 G5->bD G5 v2 s->G5 a=some (.tup ([.str kd,v2]++bs))->bV G5 (.ref a) m)->Xv [some (.ref rd),some (.ref wl),some (.int dp),some (.str kd),some v2,some (.ref p3),some (.ref p4)] G4 by
   by_cases hk:kd = "while"
   ·simp only[if_pos hk] at q qE;wp_walk using eq_true hk;refine fun p4 UU=>?_;have N4:=q0D (o:=.tup [.ref p3]) UU;refine fin [.ref p3] (.whl s b) k1 i3 p4 L1 _ (s3.kp (aM.nil N4)) (R3.kp N4) ZA aE (Wg.trans (N4.mono (by simp))) (fun L5 h5 v H' i' hv R' YA K'=>q _ _ _ (by rw[h5]) v H' i' hv R' YA K') (fun h5 H' K'=>qE (by rw[h5]) _ K') ⟨by simp,by simp⟩ fun G5 a T5 s5 ea=>?_;have WQ:aM H3 G5:=(aM.nil N4).trans T5;exact .whl (by rw[ea,hk];rfl) s5 (WQ _ _ h3) (hU.kp WQ)
   ·simp only[if_neg hk] at q qE;have hi:=(Uj hkd).resolve_right hk;wp_walk using hk,R3.ins;refine⟨D,rd,dx,ll,rows,i3,k1,dp+1,rfl,rfl,R3,by omega,Wv,k60,fun o k2 L2 ho q3 us3 H33 i33 h33 hU3 R33 aaG Zt=>?_,fun ho H33 Zt=>qE (by rw[<- ZA,ho]) _ (Wg.trans (Zt.mono (by simp)))⟩;rw[ZA] at ho;have Z1:=aM.rd R3 Zt;wp_walk;refine fun p4 UU=>?_;have N4:=q0D (o:=.tup [.ref p3,.ref q3]) UU;refine fin [.ref p3,.ref q3] (.iff s b o) k2 i33 p4 L2 _ ((s3.kp Z1).kp (aM.nil N4)) (R33.kp N4) aaG aE ((Wg.trans (Zt.mono (by simp))).trans (N4.mono (by simp))) (fun L5 h5 v H' i' hv R' YA K'=>q _ _ _ (by rw[ho];simp only[];rw[h5]) v H' i' hv R' YA K') (fun h5 H' K'=>qE (by rw[ho];simp only[];rw[h5]) _ K') ⟨by simp,by simp⟩ fun G5 a T5 s5 ea=>?_;have WQ:aM H33 G5:=(aM.nil N4).trans T5;exact .iff (by rw[ea,hi];rfl) s5 (WQ _ _ (Z1 _ _ h3)) ((hU.kp Z1).kp WQ) (WQ _ _ h33) (hU3.kp WQ)
  intro bs m k4 i4 p4 L4 G4 s4 R4 WZ e4 K4 ok no lb mk;clear q qE s3 hU h3 R3 ZA;refine Vx _ _ ?_;clear Vx;refine aP fun Yc VB=>?_;wp_walk using R4.ins;refine⟨rd,dx,ll,rows,i4,k4,rfl,R4,?_⟩;cases L4 with
  | nil =>
   rw[vC WZ];wp_walk;exact no rfl _ K4
  | cons l5 L5 =>
  rw[nZ WZ];rw[Br] at ok no;by_cases ZC:l5 = "done"
  case neg =>
   rw[if_neg ZC] at no;wp_walk using ZC;exact no rfl _ K4
  rw[if_pos ZC] at ok;wp_walk using ZC;refine VB _ _ ?_;clear VB;refine aP fun Yp V2=>?_;wp_walk using R4.ins;have R5:=R4.set (i':=i4+1) (k':=k4);rw[show((i4+1:Nat):Int)=(i4:Int)+1 by omega] at R5;have N5:=Kp.kG (a:=rd) (H:=G4) (o:=.ins t.aV dx [("lines",.ref ll),("lines_read",.int ((i4:Int)+1)),("statements_read",.int k4)]);have T5:aM G4 _:=aM.rd R4 N5;replace K4:=K4.trans (N5.mono (S:=[rd]) (T:=[rd,wl]) (by simp));replace s4:=s4.kp T5;replace e4:=T5 _ _ e4;generalize UH G4 rd (.ins t.aV dx [("lines",.ref ll),("lines_read",.int ((i4:Int)+1)),("statements_read",.int k4)])=G5 at *;refine V2 _ _ ?_;clear V2 N5 R4;wp_walk;refine fun p6 hp6=>?_;have N6:=q0D (o:=.tup [.str kd,v2]) hp6;have Z5:=N6.at e4;have e66:UH G5 p6 (.tup [.str kd,v2]) p6=some (.tup [.str kd,v2]):=aE;have R6:gK t.aV G5 rd dx ll rows (i4+1) k4:=⟨by rw[R5.ins],R5.lin⟩;have R7:=R6.kp N6;have K6:=K4.trans (N6.mono (S:=[]) (T:=[rd,wl]) (by simp));have s6:=s4.kp (aM.nil N6);replace T5:=T5.trans (aM.nil N6);clear R5 R6 K4 s4 e4;generalize UH G5 p6 (.tup [.str kd,v2])=G6 at *;obtain⟨lb1,lb2⟩:=lb;have bs0:bs.isEmpty=false:=by
   cases bs with
   | nil=>exact absurd rfl lb2
   | cons a b=>rfl
  wp_walk using e66,Z5,reduceCtorEq,GK,lb2;refine⟨by omega,?_⟩;refine fun p7 hp7=>?_;have N7:=q0D (o:=.tup ([.str kd,v2]++bs)) hp7;exact ok _ rfl _ _ (i4+1) (mk _ _ (T5.trans (aM.nil N7)) (s6.kp (aM.nil N7)) aE) (R7.kp N7) (wK WZ) (K6.trans (N7.mono (by simp)))
theorem BB{t:Ad}(T:Tx K mg t){n D:Nat}(hn:34<=n)(IH:bN P w K mg base (U2 P w base) n t.dH t.dI ["self","deep"] (Em t.aV t.aK D)):bN P w K mg base (U2 P w base) (n+3) t.gT t.gU ["self","deep"] (O6 t.aV t.aK D):=by
 refine T.sY.okE fY (fun vs H Q E h=>?_) (fun UN A outer s H vs Q E hr h=>?_)
 ·obtain⟨D,rd,dx,ll,rows,i,k,dp,l,L,rfl,rfl,_⟩:=h;rfl
 ·obtain⟨D,rd,dx,ll,rows,i,k,dp,l,L,rfl,rfl,R,hL,hd,Wv,Xz,q,qE⟩:=h;refine⟨_,(aD (aO (i:=2) fY.nd rfl (Or.inl rfl) (kO PySem.F.plainAttrs_str PySem.F.slot_str_split PySem.F.type_str_split rG (nH (pv 0) T.bW T.fQ (eX T) (hr.mono (by omega)) T.gN .nil pass0) (aC aF aB)))
   (aD (vR T.bW T.dW (pv 0) aG)
   (aD (vR T.bW T.dR (pv 0) aG)
   (aD (bE (aL CB (rT T.bW T.dR (pv 0)) (dM (v:=.int 60) rfl T.uY ⟨_,rfl⟩) (nomark _)) (aH (dS throws1 rfl rfl T.b9 T.bZ.toXCls (aC aF aB))) aR)
   (aD (bE (aL tO (bH cB (pv 2) aG (fun _ _=>rfl)) (bM (aC aF (aC aF aB))) (by with_unfolding_all rfl)) (aH (aN (oM (pv 0) T.bW T.pV (KQ T hn IH) (hr.mono (by omega)) T.qR .nil (pass1 fun _ _ _ z=>z) (aC (pv 2) (aC (pv 1) aB))))) aR)
   (aD (aO (i:=3) fY.nd rfl (Or.inl rfl) (aI (Bp T) (hr.mono (by omega)) rfl T.Dn T.wZ.kp T.C4 .nil (pass1 fun _ _ _ z=>z) (aC (pv 2) aB)))
   (aD (iQ (aI (oY T) (hr.mono (by omega)) rfl T.uR T.mZ.kp T.uF .nil (pass1 fun _ _ _ z=>z) (aC (pv 2) aB)))
   (aH (aN (pv 3)))))))))),?_⟩
  and_intros
  have aaM:=R.ins;have lh:l.length<=8000000:=Wv l (List.mem_of_mem_drop (i:=i) (by rw[hL];exact List.mem_cons_self));have VS:=Ih lh;have Yf:=wK hL;obtain⟨w0,wr,hws⟩:=CL l;rw[jC,hws] at q qE;rw[hws] at VS;refine aP fun Wd U0=>?_;wp_walk using aaM;refine⟨rd,dx,ll,rows,i,k,rfl,R,?_⟩;rw[nZ hL];wp_walk;refine⟨by decide +kernel,by omega,fun wl XM=>?_⟩;rw[hws];have N1:=q0D (o:=.lst ((w0::wr).map V.str)) XM;have R1:=R.kp N1;have e1:UH H wl (.lst ((w0::wr).map V.str)) wl=some (.lst ((w0::wr).map V.str)):=aE;have Y5:wl≠ll:=(aQ R.lin XM).symm;have Vt:wl≠rd:=(aQ R.ins XM).symm;have W8:=R1.ins;generalize UH H wl (.lst ((w0::wr).map V.str))=G1 at *;refine U0 _ _ ?_;clear U0;refine aP fun Wh UY=>?_;wp_walk using W8;refine UY _ _ ?_;clear UY;refine aP fun WN U8=>?_;wp_walk;have R2:=(R1.set (i':=i+1) (k':=k)).set (i':=i+1) (k':=k+1);rw[show((i+1:Nat):Int)=(i:Int)+1 by omega,show((k+1:Nat):Int)=(k:Int)+1 by omega] at R2;have K2:Kp [rd] G1 (UH (UH G1 rd (.ins t.aV dx [("lines",.ref ll),("lines_read",.int ((i:Int)+1)),("statements_read",.int k)])) rd (.ins t.aV dx [("lines",.ref ll),("lines_read",.int ((i:Int)+1)),("statements_read",.int ((k:Int)+1))])):=Kp.kG.trans Kp.kG;have e2:=K2.at1 e1 Vt;have Y0:=R2.ins;generalize UH (UH G1 rd (.ins t.aV dx [("lines",.ref ll),("lines_read",.int ((i:Int)+1)),("statements_read",.int k)])) rd (.ins t.aV dx [("lines",.ref ll),("lines_read",.int ((i:Int)+1)),("statements_read",.int ((k:Int)+1))])=G2 at *;refine U8 _ _ ?_;clear U8;have Xj:∀ {H5:Hp},Kp [rd,wl] G2 H5->Kp [rd] H H5:=fun K5 b o eb nb=>by
   have nb2:b≠wl:=aQ eb XM;exact K5 b o (K2 b o (N1.at eb) nb) (by simp[nb2];simpa using nb)
  refine aP fun WO Vi=>?_;wp_walk using Y0;by_cases h61:60 < k+1
  ·rw[if_pos h61] at qE;rw[if_pos (by omega)];wp_walk;exact qE rfl _ (Xj Kp.refl)
  rw[if_neg h61] at q qE;rw[if_neg (by omega)];wp_walk;refine Vi _ _ ?_;clear Vi;refine aP fun Xv Vx=>?_;have R2':gK t.aV G2 rd dx ll rows (i+1) (k+1):=⟨by rw[Y0],R2.lin⟩;wp_walk using e2,List.map_cons;refine fun p3 hp3=>⟨rfl,flat2,?_⟩;have N3:=q0D (o:=.tup [.str "if",.str "while"]) hp3;have R3:=R2'.kp N3;have e3:=N3.at e2;replace Xj:∀ {H5:Hp},Kp [rd,wl] _ H5->Kp [rd] H H5:=fun {H5} K5=>Xj ((N3.mono (by simp):Kp [rd,wl] G2 _).trans K5);generalize UH G2 p3 (.tup [.str "if",.str "while"])=G3 at *;cases hb:cR (.str w0) lB with
  | true =>
   rw[if_pos (show cR (.str ((w0::wr).headD "")) lB=true from hb)] at q qE;wp_walk using hb,R3.ins;exact⟨D,rd,dx,ll,wl,rows,i+1,k+1,dp,w0,wr,rfl,rfl,R3,e3,Y5,hb,VS,hd,Wv,by omega,fun m k' L' hm v H' i' hv R' YA K'=>q m k' L' (by rw[<- Yf];exact hm) v H' i' hv R' YA (Xj K'),fun hm H' K'=>qE (by rw[<- Yf];exact hm) _ (Xj K')⟩
  | false =>
   rw[if_neg (show ¬ cR (.str ((w0::wr).headD "")) lB=true by show ¬ cR (.str w0) lB=true;rw[hb];decide)] at q qE;wp_walk using hb;refine Vx _ _ ?_;clear Vx;refine aP fun Yc VB=>?_;wp_walk;refine⟨wl,w0::wr,rfl,e3,VS,fun m r hm v H4 hv e4 K4=>?_,fun hm H4 K4=>qE (by rw[hm]) _ (Xj (K4.mono (by simp)))⟩;refine VB _ _ ?_;clear VB;refine aP fun Yp V2=>?_;wp_walk;refine⟨wl,r.map V.str,rfl,e4,fun hz=>?_,fun hz=>qE (by rw[hm];cases r with|nil=>exact absurd rfl hz|cons a b=>rfl) _ (Xj (K4.mono (by simp)))⟩;obtain rfl:r=[]:=by
    cases r with
    | nil=>rfl
    | cons a b=>cases hz
   wp_walk;refine V2 _ _ ?_;clear V2;have R4:=R3.w K4 Vt.symm Y5.symm;wp_walk;exact q m (k+1) L (by rw[hm]) v H4 (i+1) hv R4 Yf (Xj (K4.mono (by simp)))
theorem CM{t:Ad}(T:Tx K mg t){n D:Nat}(hn:34<=n)(IH:bN P w K mg base (U2 P w base) n t.dH t.dI ["self","deep"] (Em t.aV t.aK D)):bN P w K mg base (U2 P w base) (n+4) t.dH t.dI ["self","deep"] (HX t.aV t.aK D):=by
 refine T.A8.okE nT (fun vs H Q E h=>?_) (fun UN A outer s H vs Q E hr h=>?_)
 ·obtain⟨rd,dx,ll,rows,i,k,dp,rfl,_⟩:=h;rfl
 ·obtain⟨rd,dx,ll,rows,i,k,dp,rfl,R,hd,Wv,Xz,q,qE⟩:=h;refine⟨_,(aD (bE (aL CB (pv 1) (dM (v:=.int 5) rfl T.yV ⟨_,rfl⟩) (nomark _)) (aH (dS throws1 rfl rfl T.b9 T.bZ.toXCls (aC aF aB))) aR)
   (aD (aO (i:=2) nT.nd rfl (Or.inl rfl) (bF aB))
   (aD (yB PassesOwn.leaving (aL Au (nH (pv 0) T.bW T.fQ (eX T) (hr.mono (by omega)) T.gN .nil pass0) (bM (aC qA (aC aF (aC aF aB)))) (by with_unfolding_all rfl)) (aH (iQ (rR (pv 2) (oM (pv 0) T.bW T.rD (BB T hn IH) (hr.mono (by omega)) T.sM .nil (pass1 fun _ _ _ z=>z) (aC (pv 1) aB))))))
   (aH (aN (dF oB rfl T.uC qU (aC (pv 2) aB))))))),?_⟩
  and_intros
  cases D with
  | zero =>
   wp_walk;rw[if_pos (by omega)];exact qE rfl _ Kp.refl
  | succ D =>
  wp_walk;rw[if_neg (by omega)];refine fun sl Wf=>?_;have nsr:rd≠sl:=aQ R.ins Wf;have nsl:ll≠sl:=aQ R.lin Wf;have hR:fA (D+1) k (rows.drop i)=mD (jC (fA D)) ((rows.drop i).length+1) [] k (rows.drop i):=rfl;rw[hR] at q qE;obtain⟨res,XJ⟩:∃ res,res=mD (jC (fA D)) ((rows.drop i).length+1) [] k (rows.drop i):=⟨_,rfl⟩;rw[<- XJ] at q qE;obtain⟨W,hW⟩:∃ W:Nat->St->Hp->Prop,∀ m σ G,W m σ G = ∃(us:List V) (acc:List Stm) (i1 k1:Nat),σ=[some (.ref rd),some (.int dp),some (.ref sl)]/\G sl=some (.lst us)/\bL G us acc/\gK t.aV G rd dx ll rows i1 k1/\res=mD (jC (fA D)) m acc k1 (rows.drop i1)/\(rows.drop i1).length < m/\acc.length<=k1/\k1<=60/\Kp [rd] H G:=⟨_,fun _ _ _=>rfl⟩;refine⟨W,⟨(rows.drop i).length+1,?_⟩,?_⟩
  ·rw[hW];exact⟨[],[],i,k,rfl,aE,.nil,R.kp (Kp.new Wf),XJ,Nat.lt_succ_self _,Nat.zero_le _,Xz,Kp.new Wf⟩
  clear hR XJ;intro m σ G hG;rw[hW] at hG;obtain⟨us,acc,i1,k1,rfl,eS,hU,RG,hP,hm,ha,hk1,KG⟩:=hG;have ln:=hU.len;obtain⟨m,rfl⟩:∃ e,m=e+1:=⟨m - 1,by omega⟩;have back:∀(Vw:List V) (Wl:List Stm) (i2 k2:Nat) (G2:Hp),G2 sl=some (.lst Vw)->bL G2 Vw Wl->gK t.aV G2 rd dx ll rows i2 k2->res=mD (jC (fA D)) m Wl k2 (rows.drop i2)->(rows.drop i2).length < m->Wl.length<=k2->k2<=60->Kp [rd] H G2->∃ m',m' < m+1/\W m' [some (.ref rd),some (.int dp),some (.ref sl)] G2:=fun Vw Wl i2 k2 G2 h1 h2 h3 h4 h5 h6 h7 h8=>by
   refine⟨m,Nat.lt_succ_self _,?_⟩;rw[hW];exact⟨Vw,Wl,i2,k2,rfl,h1,h2,h3,h4,h5,h6,h7,h8⟩
  clear hW;wp_walk using RG.ins;refine⟨rd,dx,ll,rows,_,_,rfl,RG,?_⟩;wp_walk;refine fun p3 hp3=>⟨IW _ _,Q8,?_⟩;have N3:=q0D (o:=.tup [.UK,.str "else",.str "done"]) hp3;have R3:=RG.kp N3;have Zw:=N3.at eS;have U3:=hU.kp (aM.nil N3);have K3:=KG.trans (N3.mono (by simp):Kp [rd] G _);generalize UH G p3 (.tup [.UK,.str "else",.str "done"])=G3 at *;have fin:cR (ah rows i1) [.UK,.str "else",.str "done"]=true->res=some (acc,k1,rows.drop i1)->∀ p,G3 p=none->Q (.ref p) (UH G3 p (.tup us)):=fun _ z p hp=>q acc k1 _ z p us _ i1 aE (U3.kp (aM.new hp)) (R3.kp (Kp.new hp)) rfl (K3.trans (Kp.new hp));cases hL:rows.drop i1 with
  | nil =>
   rw[hL] at hP fin;have W2:cR (ah rows i1) [.UK,.str "else",.str "done"]=true:=by rw[vC hL];exact Ha
   wp_walk using W2,Zw;exact fin W2 hP
  | cons l L =>
  rw[hL,vM] at hP;by_cases Vs:l = "else"\/l = "done"
  ·rw[hL] at fin;rw[if_pos Vs] at hP;have W2:cR (ah rows i1) [.UK,.str "else",.str "done"]=true:=by rw[nZ hL];exact JY Vs
   wp_walk using W2,Zw;exact fin W2 hP
  rw[if_neg Vs] at hP;clear fin;have W2:cR (ah rows i1) [.UK,.str "else",.str "done"]=false:=by rw[nZ hL];exact Og Vs
  wp_walk using W2;refine⟨fun σ' H'=>∃ m',m' < m+1/\W m' σ' H',fun _ _ h=>h,?_⟩;wp_walk using Zw,R3.ins;refine⟨D,rd,dx,ll,rows,_,_,dp,l,L,rfl,rfl,R3,hL,hd,Wv,hk1,fun st k' L' hs v H4 i' hv R4 WZ K4=>?_,fun hs H4 K4=>qE (by rw[hP,hs]) _ (K3.trans K4)⟩;rw[hs] at hP;obtain⟨b1,b2,b3,b4,b5⟩:=AD (lK D) hs;have sp:=st.DF;have eS4:=K4.at1 Zw nsr.symm;have T4:=aM.rd R3 K4;wp_walk using eS4;have T5:=aM.set (ys:=us++[v]) eS4;have K5:Kp [sl] H4 (UH H4 sl (.lst (us++[v]))):=Kp.kG;have lL:L'.length<=L.length:=by
   have:=congrArg List.length b1;rw[List.length_append,List.length_cons] at this;obtain⟨mr,hmr⟩:=AG st;rw[hmr,List.length_cons] at this;omega
  rw[hL,List.length_cons] at hm;refine⟨by omega,back _ (acc++[st]) i' k' _ aE (((U3.kp T4).kp T5).snoc (hv.kp T5)) (R4.w K5 nsr nsl) (by rw[WZ];exact hP) (by rw[WZ];omega) (by rw[List.length_append,List.length_cons,List.length_nil];omega) b5 ?_⟩;exact fun c o ec nc=>by
   have:=(K3.trans K4) c o ec nc;rw[aY (aQ ec Wf)];exact this
theorem m9{t:Ad}(T:Tx K mg t):∀ D,bN P w K mg base (U2 P w base) (4 * D+38) t.dH t.dI ["self","deep"] (HX t.aV t.aK D)
 | 0=>CM T (Nat.le_refl 34) ⟨fun _ _ _ _ x=>by (obtain⟨_,h,_⟩:=x;exact absurd h (by omega)),fun _ _ _ _ _ _ _ _ _ _ _ _ _ x=>by (obtain⟨_,h,_⟩:=x;exact absurd h (by omega))⟩
 | D+1=>CM T (by omega) ((m9 T D).imp fun _ _ _ _ ⟨D',h,x⟩=>by cases h;exact x)
theorem nA{t:Ad}(T:Tx K mg t):bN P w K mg base (U2 P w base) 66 t.kX t.lC ["text"] (KL t.aK):=by
 refine T.lF.okE jE (fun vs H Q E h=>?_) (fun UN A outer s H vs Q E hr h=>?_)
 ·obtain⟨x,rfl,_⟩:=h;rfl
 ·obtain⟨x,rfl,lx,q,qE⟩:=h;refine⟨_,(aD (bE (PW.pt (tT (aL xX (pv 0) aF (nomark _)) (oP (jZ (j4 (kO PySem.F.plainAttrs_str PySem.F.slot_str_endswith PySem.F.type_str_endswith Cq (pv 0) (aC aF aB))))))) (aH (dS throws1 rfl rfl T.b9 T.bZ.toXCls (aC aF aB))) aR)
   (aD (aO (i:=1) jE.nd rfl (Or.inl rfl) (Ko T.xO (zG T) (hr.mono (by omega)) rfl T.J8 T.BM .nil pass0 (aC (bQ iS (kO PySem.F.plainAttrs_str PySem.F.slot_str_split PySem.F.type_str_split rG (pv 0) (aC aF aB)) cD (cE (rV l9 aG))) aB)))
   (aD (aO (i:=2) jE.nd rfl (Or.inl rfl) (oM (pv 1) T.bW T.jX (m9 T 6) (hr.mono (by omega)) T.kZ .nil (pass1 fun _ _ _ z=>z) (aC aG aB)))
   (aD (bE (aL Ar (nH (pv 1) T.bW T.fQ (eX T) (hr.mono (by omega)) T.gN .nil pass0) qA (nomark _)) (aH (dS throws1 rfl rfl T.b9 T.bZ.toXCls (aC aF aB))) aR)
   (aH (aN (pv 2))))))),?_⟩
  and_intros
  rw[rP] at q qE;refine aP fun Wd U0=>?_;wp_walk;by_cases Wq:x≠""/\Txt.endswith x "\n"=false
  ·rw[if_pos Wq] at qE;rw[if_neg Wq.1,Wq.2];wp_walk;exact qE rfl _ Kp.refl
  rw[if_neg Wq] at q qE
  suffices go:Wd [some (.str x),none,none] H by
   split
   ·exact go
   ·next hx =>
    rw[show Txt.endswith x "\n"=true by
     cases e:Txt.endswith x "\n" with
     | true=>rfl
     | false=>exact absurd ⟨hx,e⟩ Wq]
    wp_walk;exact go
  refine U0 _ _ ?_;clear U0;obtain⟨rows,last,hs⟩:∃ rows last,Txt.split x "\n"=rows++[last]:=⟨_,_,(List.dropLast_concat_getLast (jF x "\n")).symm⟩;have Wv:RL rows:=fun r hr=>by
   have:=AI 10 x r (by rw[<- eV.1,hs];exact List.mem_append_left _ hr);omega
  rw[hs,List.dropLast_concat] at q qE;refine aP fun Wh UY=>?_;wp_walk;refine⟨by decide +kernel,by omega,fun l1 h1=>?_⟩;rw[hs];have N1:=q0D (o:=.lst ((rows++[last]).map V.str)) h1;have e1:UH H l1 (.lst ((rows++[last]).map V.str)) l1=some (.lst ((rows++[last]).map V.str)):=aE;generalize UH H l1 (.lst ((rows++[last]).map V.str))=G1 at *;wp_walk using e1;refine fun l2 h2=>?_;rw[Ab V.str rows last];have N2:=N1.trans (q0D (o:=.lst (rows.map V.str)) h2);have e2:UH G1 l2 (.lst (rows.map V.str)) l2=some (.lst (rows.map V.str)):=aE;generalize UH G1 l2 (.lst (rows.map V.str))=G2 at *;refine fun rd dx fr fd nd=>⟨rd,dx,l2,rfl,aE,fun H3 e3 K3=>⟨rfl,?_⟩⟩;have Yj:l2≠rd:=aQ e2 fr;have nld:l2≠dx:=aQ e2 fd;have e23:H3 l2=some (.lst (rows.map V.str)):=K3.at1 (by rw[aY Yj,aY nld];exact e2) Yj;have R3:gK t.aV H3 rd dx l2 rows 0 0:=⟨by rw[e3];rfl,e23⟩;have N3:Kp [] H H3:=fun c o ec nc=>by
   have Z4:=N2.at ec;have n1:=aQ Z4 fr;exact K3.at1 (by rw[aY n1,aY (aQ Z4 fd)];exact Z4) n1
  have N4:∀ {H4:Hp},Kp [rd] H3 H4->Kp [] H H4:=fun K4 c o ec nc=>K4.at1 (N3.at ec) (fun z=>by subst z;exact absurd (N2.at ec) (by rw[fr];intro z;cases z));refine UY _ _ ?_;clear UY N1 e1 N2 e2 e3 K3 Yj nld e23 N3;wp_walk using R3.ins;refine⟨rd,dx,l2,rows,0,0,0,rfl,R3,by decide,Wv,by decide,fun b k' L' hb p us H4 i' h4 hU R4 WZ K4=>?_,fun hb H4 K4=>qE (by rw[List.drop_zero] at hb;rw[hb]) _ (N4 K4)⟩;rw[List.drop_zero] at hb;rw[hb] at q qE;wp_walk using R4.ins;refine⟨rd,dx,l2,rows,_,_,rfl,R4,?_⟩;cases L' with
  | nil =>
   rw[vC WZ];wp_walk;exact q b rfl p us H4 h4 hU (N4 K4)
  | cons l L =>
   rw[nZ WZ];wp_walk;exact qE rfl _ (N4 K4)
theorem xW{t:Ad}(T:Tx K mg t):bN P w K mg base UR 4 t.vW t.wH ["row"] HZ:=by
 refine T.wV.ok l7 (fun vs H Q E h=>?_) (fun UN A outer s H vs Q E hr h=>?_)
 ·obtain⟨r,rfl,_⟩:=h;rfl
 ·obtain⟨r,rfl,hR,q⟩:=h;refine⟨_,(aD (aO (i:=1) l7.nd rfl (Or.inl rfl) (aW aU (x8 (tM T) (hr.mono (by omega)) rfl T.Bl T.vG.kp T.AW .nil pass0) (bF (aC aF (aC aF (aC aF (aC aF (aC aF (aC aF (aC aF (aC aF (aC aF (aC aF (aC aF (aC aF (aC aF aB))))))))))))))))
   (aD (aO (i:=1) l7.nd rfl (Or.inl rfl) (aW aU (pv 1) (bF (aC aF (aC aF (aC aF (aC aF (aC aF (aC aF (aC aF (aC aF (aC aF (aC aF (aC aF aB))))))))))))))
   (aD (aO (i:=1) l7.nd rfl (Or.inl rfl) (aW aU (pv 1) (bF (aC aF (aC aF (aC aF (aC aF (aC aF (aC aF (aC aF (aC aF (aC aF (aC aF aB)))))))))))))
   (aH (aN (bH cB (pv 1) (aI (aS T) (hr.mono (by omega)) rfl T.bB T.aZ.kp T.bA .nil pass0 (aC (pv 0) (aC (bP cA rfl T.kS eL (aC (pv 1) aB)) aB))) (fun _ _=>rfl))))))),?_⟩
  and_intros
  wp_walk;refine fun q1 H1 f1 N1 e1=>?_;have s1:=own40.1;have l1:=own40.2;refine fun p2 h2=>?_;wp_walk;refine cat40 (by rw[aY (aQ e1 h2)];exact e1) rfl s1 (by decide +kernel) (by rw[l1];decide) fun q2 zs2 H2 e2 s2 l2 N2=>?_;rw[l1] at l2;replace N2:=(q0D h2).trans N2;wp_walk;refine fun p3 h3=>?_;wp_walk;refine cat40 (by rw[aY (aQ e2 h3)];exact e2) rfl s2 (by decide +kernel) (by rw[l2];decide) fun q3 zs3 H3 e3 s3 l3 N3=>?_;rw[l2] at l3;replace N3:=(q0D h3).trans N3;wp_walk;refine fun p4 h4=>?_;wp_walk;refine cat40 (by rw[aY (aQ e3 h4)];exact e3) rfl s3 (by decide +kernel) (by rw[l3];decide) fun q4 zs4 H4 e4 s4 l4 N4=>?_;rw[l3] at l4;replace N4:=(q0D h4).trans N4;wp_walk;wp_walk using e4;have R4:=hR.kp (((N1.trans N2).trans N3).trans N4);refine⟨by rw[l4];decide,by rw[l4];decide,R4,fun g G a b RG KG=>?_⟩;have nq:=xQ R4 e4 l4;wp_walk using KG.at1 e4 nq;refine dB a b fun v hv=>?_;obtain⟨y,rfl,ly⟩:=t6 s4 hv;wp_walk;exact q y G ly RG (((((N1.trans N2).trans N3).trans N4).mono (by simp)).trans KG)
theorem xU{t:Ad}(T:Tx K mg t):bN P w K mg base UR 6 t.kU t.k9 ["row","line"] KI:=by
 refine T.qZ.ok bY (fun vs H Q E h=>?_) (fun UN A outer s H vs Q E hr h=>?_)
 ·obtain⟨r,x,rfl,_⟩:=h;rfl
 ·obtain⟨r,x,rfl,hR,lx,q⟩:=h;refine⟨_,(aD (aO (i:=2) bY.nd rfl (Or.inl rfl) (kO PySem.F.plainAttrs_str PySem.F.slot_str_split PySem.F.type_str_split rG (pv 1) (aC aF aB)))
   (aD (aO (i:=3) bY.nd rfl (Or.inl rfl) (aI (aS T) (hr.mono (by omega)) rfl T.bB T.aZ.kp T.bA .nil pass0 (aC (pv 0) (aC (bP cA rfl T.kS eL (aC (pv 2) aB)) aB))))
   (aD (aO (i:=4) bY.nd rfl (Or.inl rfl) (aI (aS T) (hr.mono (by omega)) rfl T.bB T.aZ.kp T.bA .nil pass0 (aC (pv 0) (aC aG aB))))
   (aD (bE (aL CB (pv 4) aG (nomark _)) (aD (aO (i:=5) bY.nd rfl (Or.inl rfl) (bH cB (pv 2) (pv 3) (fun _ _=>rfl)))
   (aD (aO (i:=6) bY.nd rfl (Or.inl rfl) (aI (aS T) (hr.mono (by omega)) rfl T.bB T.aZ.kp T.bA .nil pass0 (aC (pv 0) (aC (aW aU (bP cA rfl T.kS eL (aC (pv 5) aB)) aG) aB))))
   (aD (aO (i:=7) bY.nd rfl (Or.inl rfl) (aW Kl (bH cB aF (aI (aS T) (hr.mono (by omega)) rfl T.bB T.aZ.kp T.bA .nil pass0 (aC (pv 0) (aC aG aB))) (fun _ _=>rfl)) (dF oA rfl T.CU sP (aC (rS bT (pv 4) aG (nomark _)) aB))))
   (aH (nJ (aW aU (aW aU (bQ iS (pv 5) cD (cE (pv 6))) (pv 7)) (bQ iS (pv 5) (cE (aW aU (pv 6) (dF oA rfl T.CU sP (aC (rS bT (pv 4) aG (nomark _)) aB)))) cD)) (nI (pv 2) (pv 3) uW)))))) (aH (bE (aL bT (pv 4) aG (nomark _)) (aH (aO (i:=2) bY.nd rfl (Or.inl rfl) (aW aU (bQ iS (pv 2) cD (cE (pv 3))) (bQ iS (pv 2) (cE (aW aU (pv 3) aG)) cD)))) (aH (bE (aL bT (pv 4) aG (nomark _)) (aH (aO (i:=2) bY.nd rfl (Or.inl rfl) (aW aU (aW aU (bQ iS (pv 2) cD (cE (pv 3))) (bF (aC (aI (xW T) (hr.mono (by omega)) rfl T.Co T.wV.kp T.BO .nil pass0 (aC (pv 0) aB)) aB))) (bQ iS (pv 2) (cE (pv 3)) cD)))) (aH (bE (aL bT (pv 4) aG (nomark _)) (aH (aO (i:=2) bY.nd rfl (Or.inl rfl) (aW aU (aW aU (bQ iS (pv 2) cD (cE (pv 3))) (bF (aC (aI (xW T) (hr.mono (by omega)) rfl T.Co T.wV.kp T.BO .nil pass0 (aC (pv 0) aB)) aB))) (bQ iS (pv 2) (cE (aW aU (pv 3) aG)) cD)))) (aH (aO (i:=2) bY.nd rfl (Or.inl rfl) (aW aU (aW aU (bQ iS (pv 2) cD (cE (pv 3))) (bF (aC (bH cB (pv 2) (aI (aS T) (hr.mono (by omega)) rfl T.bB T.aZ.kp T.bA .nil pass0 (aC (pv 0) (aC (bP cA rfl T.kS eL (aC (pv 2) aB)) aB))) (fun _ _=>rfl)) aB))) (bQ iS (pv 2) (cE (aW aU (pv 3) aG)) cD)))))))))))
   (aH (aN (kO PySem.F.plainAttrs_str PySem.F.slot_str_join PySem.F.type_str_join lJ aF (aC (pv 2) aB)))))))),?_⟩
  and_intros
  refine aP fun Wd U0=>?_;wp_walk;refine⟨by decide +kernel,by omega,fun wl VS=>?_⟩;have tw:=AK 32 x;rw[<- eV.2.1] at tw;have nw:=jF x " ";generalize Txt.split x " "=ws at *;have N1:=q0D (o:=.lst (ws.map V.str)) VS;have e1:UH H wl (.lst (ws.map V.str)) wl=some (.lst (ws.map V.str)):=aE;have Vt:wl≠r:=hR.none VS;replace hR:=hR.kp N1;replace N1:Kp [r] H _:=N1.mono (by simp);generalize UH H wl (.lst (ws.map V.str))=G1 at *;have lw:=vJ ws;have lp:=List.length_pos_iff.mpr nw;refine U0 _ _ ?_;clear U0;refine aP fun Wh UY=>?_;wp_walk using e1,List.length_map;refine⟨by omega,by omega,hR,fun at_ G2 a2 b2 R2 K2=>?_⟩;replace e1:=K2.at1 e1 Vt;replace N1:=N1.trans K2;clear hR K2;refine UY _ _ ?_;clear UY;refine aP fun WN U8=>?_;wp_walk;refine⟨R2,fun kd G3 a3 b3 R3 K3=>?_⟩;replace e1:=K3.at1 e1 Vt;replace N1:=N1.trans K3;clear R2 K3;have Yk:H wl=none:=VS;refine U8 _ _ ?_;clear U8;refine aP fun WO Vi=>?_
  suffices fin:∀(w2:Addr) (us:List Str) (v5 v6 v7:Option V) (G:Hp),G w2=some (.lst (us.map V.str))->tot us<=3 * (x.length+1)+50->bI G r->Kp [r] H G->WO [some (.ref r),some (.str x),some (.ref w2),some (.int at_),some (.int kd),v5,v6,v7] G by
   by_cases c1:3 < kd
   ·wp_walk using c1,e1;refine dB a2 (by rw[List.length_map];exact b2) fun v hv=>?_;obtain⟨w0,XM,rfl⟩:=List.mem_map.mp hv;have lw0:=g8 XM;wp_walk;refine⟨by omega,by omega,p45 (by omega),R3,fun sp G4 a4 b4 R4 K4=>?_⟩;replace e1:=K4.at1 e1 Vt;replace N1:=N1.trans K4;clear R3 K4 hv;wp_walk;refine⟨R4,fun sg G5 a5 b5 R5 K5=>?_⟩;replace e1:=K5.at1 e1 Vt;replace N1:=N1.trans K5;clear R4 K5;wp_walk;refine⟨by decide,Ei a5 (by rw[show("+-_.0 9aA()=":Str).length=12 by decide +kernel];exact b5) fun c hc=>?_⟩;have lc:(⟨#[c]⟩:Str).length=1:=rfl;generalize (⟨#[c]⟩:Str)=zc at *;wp_walk;by_cases k4:kd=4
    ·refine .inr ⟨by rw[decide_eq_true k4];rfl,?_⟩;have s1:=Txt.slice_le w0 none (some sp);have s2:=Txt.slice_le w0 (some (sp+if decide (kd=5)=true then 1 else 0)) none;generalize Txt.slice w0 none (some sp)=y1 at *;generalize Txt.slice w0 (some (sp+if decide (kd=5)=true then 1 else 0)) none=y3 at *;have ls:=bO y1 zc;have lz:=bO (y1++zc) y3;refine⟨by omega,by omega,by omega,by omega,?_⟩;rw[e1];wp_walk;obtain⟨j,hj,_⟩:=m6 (xs:=ws.map V.str) a2 (by rw[List.length_map];exact b2);rw[hj];wp_walk;have K6:=Kp.kG (a:=wl) (H:=G5) (o:=.lst ((ws.map V.str).set j (.str (y1++zc++y3))));have T:=oQ (y1++zc++y3) ws j;have R6:bI (UH G5 wl (.lst ((ws.map V.str).set j (.str (y1++zc++y3))))) r:=R5.kp K6 (by simpa using Vt.symm);refine fin wl (ws.set j (y1++zc++y3)) _ _ _ _ (by rw[<- List.map_set];exact aE) (by omega) R6 (Be N1 K6 Yk)
    ·refine .inl ⟨by rw[decide_eq_false k4];rfl,?_⟩;have le:=Hv.2;have s1:=Txt.slice_le w0 none (some sp);have s2:=Txt.slice_le w0 (some (sp+if decide (kd=5)=true then 1 else 0)) none;generalize Txt.slice w0 none (some sp)=y1 at *;generalize Txt.slice w0 (some (sp+if decide (kd=5)=true then 1 else 0)) none=y3 at *;have ls:=bO y1 (Str.ofString "");have lz:=bO (y1++(Str.ofString "")) y3;refine⟨by omega,by omega,by omega,by omega,?_⟩;rw[e1];wp_walk;obtain⟨j,hj,_⟩:=m6 (xs:=ws.map V.str) a2 (by rw[List.length_map];exact b2);rw[hj];wp_walk;have K6:=Kp.kG (a:=wl) (H:=G5) (o:=.lst ((ws.map V.str).set j (.str (y1++(Str.ofString "")++y3))));have T:=oQ (y1++(Str.ofString "")++y3) ws j;have R6:bI (UH G5 wl (.lst ((ws.map V.str).set j (.str (y1++(Str.ofString "")++y3))))) r:=R5.kp K6 (by simpa using Vt.symm);refine fin wl (ws.set j (y1++(Str.ofString "")++y3)) _ _ _ _ (by rw[<- List.map_set];exact aE) (by omega) R6 (Be N1 K6 Yk)
   by_cases c2:kd=0
   ·wp_walk using c1,eq_true c2,e1;refine fun p1 h1=>?_;obtain⟨UP,Vm,Vc,XT⟩:=uI ws (k:=at_) (by omega);rw[Vm];have M1:=q0D (o:=.lst (UP.map V.str)) h1;have f1:UH G3 p1 (.lst (UP.map V.str)) p1=some (.lst (UP.map V.str)):=aE;replace e1:=M1.at e1;replace R3:=R3.kp M1;replace N1:=N1.trans (M1.mono (T:=[r]) (by simp));generalize UH G3 p1 (.lst (UP.map V.str))=GS1 at *;clear M1 Vm;wp_walk using e1;refine fun p2 h2=>?_;obtain⟨Vw,Yt,Zc,lu2⟩:=uH ws (k:=(at_+1)) (by omega);rw[Yt];have M2:=q0D (o:=.lst (Vw.map V.str)) h2;have f2:UH GS1 p2 (.lst (Vw.map V.str)) p2=some (.lst (Vw.map V.str)):=aE;replace e1:=M2.at e1;replace R3:=R3.kp M2;replace N1:=N1.trans (M2.mono (T:=[r]) (by simp));replace f1:=M2.at f1;generalize UH GS1 p2 (.lst (Vw.map V.str))=GS2 at *;clear M2 Yt;wp_walk using e1;refine qV f1 rfl (by (try simp only[List.length_append,List.length_cons,List.length_nil]);have:=cM Vc;have:=cM Zc;omega) fun q3 Vy f3 N3=>?_
    exact fin q3 (UP++Vw) _ _ _ _ f3 (by rw[cV];have:=dN Vc;have:=dN Zc;omega) (R3.kp N3) (N1.trans (N3.mono (by simp)))
   by_cases c3:kd=1
   ·wp_walk using c1,c2,eq_true c3,e1;refine fun p1 h1=>?_;obtain⟨UP,Vm,Vc,XT⟩:=uI ws (k:=at_) (by omega);rw[Vm];have M1:=q0D (o:=.lst (UP.map V.str)) h1;have f1:UH G3 p1 (.lst (UP.map V.str)) p1=some (.lst (UP.map V.str)):=aE;replace e1:=M1.at e1;replace R3:=R3.kp M1;replace N1:=N1.trans (M1.mono (T:=[r]) (by simp));generalize UH G3 p1 (.lst (UP.map V.str))=GS1 at *;clear M1 Vm;wp_walk using e1;refine⟨r,rfl,R3,fun y2 G7 Xn R7 K7 p2 h2=>?_⟩;have W9:p1≠r:=fun z=>by rw[z] at f1;exact absurd f1 (rY R3 UP)
    replace e1:=K7.at1 e1 Vt;replace f1:=K7.at1 f1 W9;replace N1:=N1.trans K7;clear R3;have R3:=R7;clear R7 K7;have M2:=q0D (o:=.lst [.str y2]) h2;refine qV (vs:=[y2]) (M2.at f1) rfl (by simp only[List.length_cons,List.length_nil];have:=cM Vc;omega) fun p3 Vy f3 N3=>?_;replace N3:=M2.trans N3;replace e1:=N3.at e1;replace R3:=R3.kp N3;replace N1:=N1.trans (N3.mono (T:=[r]) (by simp));clear M2 N3 h2;wp_walk using e1;refine fun p4 h4=>?_;obtain⟨UX,VG,VN,Y1⟩:=uH ws (k:=at_) (by omega);rw[VG];have M4:=q0D (o:=.lst (UX.map V.str)) h4;have f4:UH Vy p4 (.lst (UX.map V.str)) p4=some (.lst (UX.map V.str)):=aE;replace e1:=M4.at e1;replace R3:=R3.kp M4;replace N1:=N1.trans (M4.mono (T:=[r]) (by simp));replace f3:=M4.at f3;generalize UH Vy p4 (.lst (UX.map V.str))=GS4 at *;clear M4 VG;wp_walk using e1;refine qV f3 rfl (by (try simp only[List.length_append,List.length_cons,List.length_nil]);have:=cM Vc;have:=cM VN;omega) fun q5 Xr f5 N5=>?_
    exact fin q5 ((UP++[y2])++UX) _ _ _ _ f5 (by rw[cV,cV,dC];have:=dN Vc;have:=dN VN;omega) (R3.kp N5) (N1.trans (N5.mono (by simp)))
   by_cases c4:kd=2
   ·wp_walk using c1,c2,c3,eq_true c4,e1;refine fun p1 h1=>?_;obtain⟨UP,Vm,Vc,XT⟩:=uI ws (k:=at_) (by omega);rw[Vm];have M1:=q0D (o:=.lst (UP.map V.str)) h1;have f1:UH G3 p1 (.lst (UP.map V.str)) p1=some (.lst (UP.map V.str)):=aE;replace e1:=M1.at e1;replace R3:=R3.kp M1;replace N1:=N1.trans (M1.mono (T:=[r]) (by simp));generalize UH G3 p1 (.lst (UP.map V.str))=GS1 at *;clear M1 Vm;wp_walk using e1;refine⟨r,rfl,R3,fun y2 G7 Xn R7 K7 p2 h2=>?_⟩;have W9:p1≠r:=fun z=>by rw[z] at f1;exact absurd f1 (rY R3 UP)
    replace e1:=K7.at1 e1 Vt;replace f1:=K7.at1 f1 W9;replace N1:=N1.trans K7;clear R3;have R3:=R7;clear R7 K7;have M2:=q0D (o:=.lst [.str y2]) h2;refine qV (vs:=[y2]) (M2.at f1) rfl (by simp only[List.length_cons,List.length_nil];have:=cM Vc;omega) fun p3 Vy f3 N3=>?_;replace N3:=M2.trans N3;replace e1:=N3.at e1;replace R3:=R3.kp N3;replace N1:=N1.trans (N3.mono (T:=[r]) (by simp));clear M2 N3 h2;wp_walk using e1;refine fun p4 h4=>?_;obtain⟨UX,VG,VN,Y1⟩:=uH ws (k:=(at_+1)) (by omega);rw[VG];have M4:=q0D (o:=.lst (UX.map V.str)) h4;have f4:UH Vy p4 (.lst (UX.map V.str)) p4=some (.lst (UX.map V.str)):=aE;replace e1:=M4.at e1;replace R3:=R3.kp M4;replace N1:=N1.trans (M4.mono (T:=[r]) (by simp));replace f3:=M4.at f3;generalize UH Vy p4 (.lst (UX.map V.str))=GS4 at *;clear M4 VG;wp_walk using e1;refine qV f3 rfl (by (try simp only[List.length_append,List.length_cons,List.length_nil]);have:=cM Vc;have:=cM VN;omega) fun q5 Xr f5 N5=>?_
    exact fin q5 ((UP++[y2])++UX) _ _ _ _ f5 (by rw[cV,cV,dC];have:=dN Vc;have:=dN VN;omega) (R3.kp N5) (N1.trans (N5.mono (by simp)))
   ·wp_walk using c1,c2,c3,c4,e1;refine fun p1 h1=>?_;obtain⟨UP,Vm,Vc,XT⟩:=uI ws (k:=at_) (by omega);rw[Vm];have M1:=q0D (o:=.lst (UP.map V.str)) h1;have f1:UH G3 p1 (.lst (UP.map V.str)) p1=some (.lst (UP.map V.str)):=aE;replace e1:=M1.at e1;replace R3:=R3.kp M1;replace N1:=N1.trans (M1.mono (T:=[r]) (by simp));generalize UH G3 p1 (.lst (UP.map V.str))=GS1 at *;clear M1 Vm;wp_walk using e1;wp_walk using List.length_map;refine⟨by omega,by omega,R3,fun ot G7 a7 b7 R7 K7=>?_⟩;have W9:p1≠r:=fun z=>by rw[z] at f1;exact absurd f1 (rY R3 UP)
    replace e1:=K7.at1 e1 Vt;replace f1:=K7.at1 f1 W9;replace N1:=N1.trans K7;clear R3;have R3:=R7;clear R7 K7;wp_walk using e1;refine dB a7 (by rw[List.length_map];exact b7) fun v hv=>?_;obtain⟨y2,YZ,rfl⟩:=List.mem_map.mp hv;have Xn:=g8 YZ;wp_walk;refine fun p2 h2=>?_;have M2:=q0D (o:=.lst [.str y2]) h2;refine qV (vs:=[y2]) (M2.at f1) rfl (by simp only[List.length_cons,List.length_nil];have:=cM Vc;omega) fun p3 Vy f3 N3=>?_;replace N3:=M2.trans N3;replace e1:=N3.at e1;replace R3:=R3.kp N3;replace N1:=N1.trans (N3.mono (T:=[r]) (by simp));clear M2 N3 h2;wp_walk using e1;refine fun p4 h4=>?_;obtain⟨UX,VG,VN,Y1⟩:=uH ws (k:=(at_+1)) (by omega);rw[VG];have M4:=q0D (o:=.lst (UX.map V.str)) h4;have f4:UH Vy p4 (.lst (UX.map V.str)) p4=some (.lst (UX.map V.str)):=aE;replace e1:=M4.at e1;replace R3:=R3.kp M4;replace N1:=N1.trans (M4.mono (T:=[r]) (by simp));replace f3:=M4.at f3;generalize UH Vy p4 (.lst (UX.map V.str))=GS4 at *;clear M4 VG;wp_walk using e1;refine qV f3 rfl (by (try simp only[List.length_append,List.length_cons,List.length_nil]);have:=cM Vc;have:=cM VN;omega) fun q5 Xr f5 N5=>?_
    exact fin q5 ((UP++[y2])++UX) _ _ _ _ f5 (by rw[cV,cV,dC];have:=dN Vc;have:=dN VN;omega) (R3.kp N5) (N1.trans (N5.mono (by simp)))
  intro w2 us v5 v6 v7 G e9 t9 R9 K9;clear e1 R3 N1;refine Vi _ _ ?_;clear Vi;wp_walk using e9;have:=KU us;exact⟨by rw[Hv.1];omega,q _ G (Nat.le_trans (Om us) t9) R9 K9⟩
theorem xV{t:Ad}(T:Tx K mg t):bN P w K mg base UR 4 t.kW t.lA ["row"] HZ:=by
 refine T.q8.ok fE (fun vs H Q E h=>?_) (fun UN A outer s H vs Q E hr h=>?_)
 ·obtain⟨r,rfl,_⟩:=h;rfl
 ·obtain⟨r,rfl,hR,q⟩:=h;refine⟨_,(aD (aO (i:=1) fE.nd rfl (Or.inl rfl) (bF (aC aF (aC aF (aC aF (aC aF (aC aF (aC aF (aC aF (aC aF (aC aF (aC aF (aC aF aB)))))))))))))
   (aD (aO (i:=1) fE.nd rfl (Or.inl rfl) (aW aU (pv 1) (bF (aC aF (aC aF (aC aF (aC aF (aC aF (aC aF (aC aF aB))))))))))
   (aD (aO (i:=1) fE.nd rfl (Or.inl rfl) (aW aU (pv 1) (bF (aC aF (aC aF (aC aF (aC aF (aC aF (aC aF (aC aF aB))))))))))
   (aD (aO (i:=1) fE.nd rfl (Or.inl rfl) (aW aU (pv 1) (bF (aC aF (aC aF aB)))))
   (aH (aN (bH cB (pv 1) (aI (aS T) (hr.mono (by omega)) rfl T.bB T.aZ.kp T.bA .nil pass0 (aC (pv 0) (aC (bP cA rfl T.kS eL (aC (pv 1) aB)) aB))) (fun _ _=>rfl)))))))),?_⟩
  and_intros
  wp_walk;refine fun q1 h1=>?_;have N1:=q0D (o:=.lst [.str "done",.str "else",.str "if x",.str "while 1",.str "x = 1",.str "end none",.str "",.str " x = 1",.str "x = 1 ",.str "x  = 1",.str "x = wait"]) h1;obtain⟨WM,hz1⟩:∃ WM:List V,WM=[.str "done",.str "else",.str "if x",.str "while 1",.str "x = 1",.str "end none",.str "",.str " x = 1",.str "x = 1 ",.str "x  = 1",.str "x = wait"]:=⟨_,rfl⟩;have s1:strs40 WM=true:=by rw[hz1];decide +kernel
  have l1:WM.length=11:=by rw[hz1];rfl
  rw[<- hz1] at N1 ⊢;have e1:UH H q1 (.lst WM) q1=some (.lst WM):=aE;generalize UH H q1 (.lst WM)=H1 at *;refine fun p2 h2=>?_;wp_walk;refine cat40 (by rw[aY (aQ e1 h2)];exact e1) rfl s1 (by decide +kernel) (by rw[l1];decide) fun q2 zs2 H2 e2 s2 l2 N2=>?_;rw[l1] at l2;replace N2:=(q0D h2).trans N2;wp_walk;refine fun p3 h3=>?_;wp_walk;refine cat40 (by rw[aY (aQ e2 h3)];exact e2) rfl s2 (by decide +kernel) (by rw[l2];decide) fun q3 zs3 H3 e3 s3 l3 N3=>?_;rw[l2] at l3;replace N3:=(q0D h3).trans N3;wp_walk;refine fun p4 h4=>?_;wp_walk;refine cat40 (by rw[aY (aQ e3 h4)];exact e3) rfl s3 (by decide +kernel) (by rw[l3];decide) fun q4 zs4 H4 e4 s4 l4 N4=>?_;rw[l3] at l4;replace N4:=(q0D h4).trans N4;wp_walk;wp_walk using e4;have R4:=hR.kp (((N1.trans N2).trans N3).trans N4);refine⟨by rw[l4];decide,by rw[l4];decide,R4,fun g G a b RG KG=>?_⟩;have nq:=xQ R4 e4 l4;wp_walk using KG.at1 e4 nq;refine dB a b fun v hv=>?_;obtain⟨y,rfl,ly⟩:=t6 s4 hv;wp_walk;exact q y G ly RG (((((N1.trans N2).trans N3).trans N4).mono (by simp)).trans KG)
theorem Dq{t:Ad}(T:Tx K mg t):bN P w K mg base UR 10 t.vU t.wF ["row","text"] O1:=by
 refine T.B7.ok fD (fun vs H Q E h=>?_) (fun UN A outer s H vs Q E hr h=>?_)
 ·obtain⟨r,x,rfl,_⟩:=h;rfl
 ·obtain⟨r,x,rfl,hR,lx,q⟩:=h;refine⟨_,(aD (aO (i:=2) fD.nd rfl (Or.inl rfl) (bQ iS (kO PySem.F.plainAttrs_str PySem.F.slot_str_split PySem.F.type_str_split rG (pv 1) (aC aF aB)) cD (cE (rV l9 aG))))
   (aD (aO (i:=3) fD.nd rfl (Or.inl rfl) (aI (aS T) (hr.mono (by omega)) rfl T.bB T.aZ.kp T.bA .nil pass0 (aC (pv 0) (aC aG aB))))
   (aD (aO (i:=4) fD.nd rfl (Or.inl rfl) (aI (aS T) (hr.mono (by omega)) rfl T.bB T.aZ.kp T.bA .nil pass0 (aC (pv 0) (aC (aW aU (bP cA rfl T.kS eL (aC (pv 2) aB)) aG) aB))))
   (aD (bE (PW.pt (oZ (aL bT (pv 3) aG (nomark _)) (lO (aL (OF 1 (Rf hr (by decide))) (pv 2) (bF aB) (nomark _))))) (aH (aN (kO PySem.F.plainAttrs_str PySem.F.slot_str_join PySem.F.type_str_join lJ aF (aC (lM (cl:=[]) (fr:=[]) (N:=["line"]) rfl (fun _ _ h=>h) (eK.m8 rfl rfl rfl rfl) (vQ (aW aU (aW aU (bQ iS (pv 2) cD (cE (pv 4))) (bF (aC (aI (xV T) (hr.mono (by omega)) rfl T.Bk T.q8.kp T.AV .nil pass0 (aC (pv 0) aB)) aB))) (bQ iS (pv 2) (cE (pv 4)) cD))) (fun C s H ex pn=>⟨jP,(aW aU (pv 0) aF)⟩)) aB)))) aR)
   (aD (aO (i:=4) fD.nd rfl (Or.inl rfl) (aI (aS T) (hr.mono (by omega)) rfl T.bB T.aZ.kp T.bA .nil pass0 (aC (pv 0) (aC (bP cA rfl T.kS eL (aC (pv 2) aB)) aB))))
   (aD (aO (i:=5) fD.nd rfl (Or.inl rfl) (aI (aS T) (hr.mono (by omega)) rfl T.bB T.aZ.kp T.bA .nil pass0 (aC (pv 0) (aC (bP cA rfl T.kS eL (aC (pv 2) aB)) aB))))
   (aD (bE (aL bT (pv 3) aG (nomark _)) (aH (aO (i:=2) fD.nd rfl (Or.inl rfl) (aW aU (bQ iS (pv 2) cD (cE (pv 4))) (bQ iS (pv 2) (cE (aW aU (pv 4) aG)) cD)))) (aH (bE (aL bT (pv 3) aG (nomark _)) (aH (nJ (bM (aC (bH cB (pv 2) (pv 5) (fun _ _=>rfl)) (aC (bH cB (pv 2) (pv 4) (fun _ _=>rfl)) aB))) (HI rfl (rW (nI (pv 2) (pv 4) uW) (rW (nI (pv 2) (pv 5) uW) Eh))))) (aH (bE (aL bT (pv 3) aG (nomark _)) (aH (aO (i:=2) fD.nd rfl (Or.inl rfl) (aW aU (aW aU (bQ iS (pv 2) cD (cE (pv 4))) (bF (aC (bH cB (pv 2) (pv 5) (fun _ _=>rfl)) aB))) (bQ iS (pv 2) (cE (pv 4)) cD)))) (aH (bE (aL bT (pv 3) aG (nomark _)) (aH (aN (aW aU (bQ iS (pv 1) cD (cE (rV l9 aG))) (bH cB (bF (aC aF (aC aF (aC aF (aC aF (aC aF aB)))))) (aI (aS T) (hr.mono (by omega)) rfl T.bB T.aZ.kp T.bA .nil pass0 (aC (pv 0) (aC aG aB))) (fun _ _=>rfl))))) (aH (nJ (aI (xU T) (hr.mono (by omega)) rfl T.Bj T.qZ.kp T.AU .nil pass0 (aC (pv 0) (aC (bH cB (pv 2) (pv 4) (fun _ _=>rfl)) aB))) (nI (pv 2) (pv 4) uW))))))))))
   (aH (aN (kO PySem.F.plainAttrs_str PySem.F.slot_str_join PySem.F.type_str_join lJ aF (aC (lM (cl:=[]) (fr:=[]) (N:=["line"]) rfl (fun _ _ h=>h) (eK.m8 rfl rfl rfl rfl) (vQ (pv 2)) (fun C s H ex pn=>⟨jP,(aW aU (pv 0) aF)⟩)) aB))))))))))),?_⟩
  and_intros
  refine aP fun Wd U0=>?_;wp_walk;refine⟨by decide +kernel,by omega,fun l0 h0=>?_⟩;obtain⟨ws,last,hs⟩:∃ rows last,Txt.split x "\n"=rows++[last]:=⟨_,_,(List.dropLast_concat_getLast (jF x "\n")).symm⟩;have tw:=AK 10 x;rw[<- eV.1,hs,cV,dC] at tw;rw[hs];have M0:=q0D (o:=.lst ((ws++[last]).map V.str)) h0;have e0:UH H l0 (.lst ((ws++[last]).map V.str)) l0=some (.lst ((ws++[last]).map V.str)):=aE;generalize UH H l0 (.lst ((ws++[last]).map V.str))=G0 at *;wp_walk using e0;refine fun wl VS=>?_;rw[Ab V.str ws last];have N1:=M0.trans (q0D (o:=.lst (ws.map V.str)) VS);have e1:UH G0 wl (.lst (ws.map V.str)) wl=some (.lst (ws.map V.str)):=aE;have Yk:H wl=none:=by
   cases hz:H wl with
   | none=>rfl
   | some o=>rw[M0.at hz] at VS;cases VS
  have Vt:wl≠r:=hR.none Yk;replace hR:=hR.kp N1;replace N1:Kp [r] H _:=N1.mono (by simp);generalize UH G0 wl (.lst (ws.map V.str))=G1 at *;have lw:=vJ ws;clear M0 e0 h0 VS hs;refine U0 _ _ ?_;clear U0;refine aP fun Wh UY=>?_;wp_walk;refine⟨hR,fun kd G2 a2 b2 R2 K2=>?_⟩;replace e1:=K2.at1 e1 Vt;replace N1:=N1.trans K2;clear hR K2;refine UY _ _ ?_;clear UY;refine aP fun WN U8=>?_;wp_walk using e1,List.length_map;refine⟨by omega,p45 (by omega),R2,fun at_ G3 a3 b3 R3 K3=>?_⟩;replace e1:=K3.at1 e1 Vt;replace N1:=N1.trans K3;clear R2 K3;refine U8 _ _ ?_;clear U8;refine aP fun WO Vi=>?_
  suffices go:∀(G:Hp),G wl=some (.lst (ws.map V.str))->ws≠[]->bI G r->Kp [r] H G->WO [some (.ref r),some (.str x),some (.ref wl),some (.int kd),some (.int at_),none] G by
   wp_walk using e1;by_cases c0:kd=0
   ·wp_walk using eq_true c0;refine fun p1 h1=>?_;obtain⟨UP,Vm,Vc,XT⟩:=uI ws (k:=at_) (by omega);rw[Vm];have M1:=q0D (o:=.lst (UP.map V.str)) h1;have f1:UH G3 p1 (.lst (UP.map V.str)) p1=some (.lst (UP.map V.str)):=aE;replace e1:=M1.at e1;replace R3:=R3.kp M1;replace N1:=N1.trans (M1.mono (T:=[r]) (by simp));generalize UH G3 p1 (.lst (UP.map V.str))=GS1 at *;clear M1 Vm;wp_walk using e1;refine⟨r,rfl,R3,fun y2 G7 Xn R7 K7 p2 h2=>?_⟩;have W9:p1≠r:=fun z=>by rw[z] at f1;exact absurd f1 (rY R3 UP)
    replace e1:=K7.at1 e1 Vt;replace f1:=K7.at1 f1 W9;replace N1:=N1.trans K7;clear R3;have R3:=R7;clear R7 K7;have M2:=q0D (o:=.lst [.str y2]) h2;refine qV (vs:=[y2]) (M2.at f1) rfl (by simp only[List.length_cons,List.length_nil];have:=cM Vc;omega) fun p3 Vy f3 N3=>?_;replace N3:=M2.trans N3;replace e1:=N3.at e1;replace R3:=R3.kp N3;replace N1:=N1.trans (N3.mono (T:=[r]) (by simp));clear M2 N3 h2;wp_walk using e1;refine fun p4 h4=>?_;obtain⟨UX,VG,VN,Y1⟩:=uH ws (k:=at_) (by omega);rw[VG];have M4:=q0D (o:=.lst (UX.map V.str)) h4;have f4:UH Vy p4 (.lst (UX.map V.str)) p4=some (.lst (UX.map V.str)):=aE;replace e1:=M4.at e1;replace R3:=R3.kp M4;replace N1:=N1.trans (M4.mono (T:=[r]) (by simp));replace f3:=M4.at f3;generalize UH Vy p4 (.lst (UX.map V.str))=GS4 at *;clear M4 VG;wp_walk using e1;refine qV f3 rfl (by (try simp only[List.length_append,List.length_cons,List.length_nil]);have:=cM Vc;have:=cM VN;omega) fun q5 Xr f5 N5=>?_
    have l5:((UP++[y2])++UX).length<=700000:=by simp only[List.length_append,List.length_cons,List.length_nil];omega
    have t5:tot ((UP++[y2])++UX)<=4 * (x.length+1)+60:=by rw[cV,cV,dC];have:=dN Vc;have:=dN VN;omega
    replace R3:=R3.kp N5;replace N1:=N1.trans (N5.mono (T:=[r]) (by simp));generalize (UP++[y2])++UX=us at *;wp_walk;refine⟨⟨_,dU.of f5⟩,?_⟩;refine vI (ys:=(us).map V.str) (fun j xs G'=>xs=(((us).take j).map fun r:Str=>r++"\n").map V.str/\Kp [] Xr G') ⟨rfl,Kp.refl⟩ ?_ ?_ ?_ ?_
    ·rintro j xs G' ⟨rfl,_⟩;simp only[List.length_map,List.length_take];omega
    ·rintro j xs G' ⟨_,k⟩;exact dU.of (k.at f5)
    ·rintro j y xs G' _ hj ⟨rfl,k⟩;obtain⟨z,hz,rfl⟩:∃ z,(us)[j]?=some z/\V.str z=y:=by
      rw[List.getElem?_map] at hj;exact Option.map_eq_some_iff.mp hj
     have e5:=kR hz;have lz:=g8 (List.mem_of_getElem? hz);have ln:=jY.1;wp_walk using bJ,Option.join_some;refine⟨by omega,?_,k⟩;rw[e5];simp
    ·rintro xs G' ⟨rfl,k⟩ l2 VC;simp only[List.length_map,List.take_length];wp_walk;refine⟨by rw[lsum,jY.2];omega,?_⟩;have ls:=oJ (us);exact q _ _ (by omega) ((R3).kp (k.trans (q0D VC))) ((N1).trans ((k.trans (q0D VC)).mono (by simp)))
   ·wp_walk using c0;refine fun p0 h0=>⟨_,T9 ((q0D h0).at e1) aE,?_⟩;have M0:=q0D (o:=.lst []) h0;replace e1:=M0.at e1;replace R3:=R3.kp M0;replace N1:=N1.trans (M0.mono (T:=[r]) (by simp));generalize UH G3 p0 (.lst [])=G4 at *;clear M0 h0;rw[List.isEmpty_map];cases hz:ws.isEmpty with
    | false =>
     wp_walk;exact go G4 e1 (fun z=>by rw[z] at hz;cases hz) R3 N1
    | true =>
     wp_walk using e1;refine fun p1 h1=>?_;obtain⟨UP,Vm,Vc,XT⟩:=uI ws (k:=at_) (by omega);rw[Vm];have M1:=q0D (o:=.lst (UP.map V.str)) h1;have f1:UH G4 p1 (.lst (UP.map V.str)) p1=some (.lst (UP.map V.str)):=aE;replace e1:=M1.at e1;replace R3:=R3.kp M1;replace N1:=N1.trans (M1.mono (T:=[r]) (by simp));generalize UH G4 p1 (.lst (UP.map V.str))=GS1 at *;clear M1 Vm;wp_walk using e1;refine⟨r,rfl,R3,fun y2 G7 Xn R7 K7 p2 h2=>?_⟩;have W9:p1≠r:=fun z=>by rw[z] at f1;exact absurd f1 (rY R3 UP)
     replace e1:=K7.at1 e1 Vt;replace f1:=K7.at1 f1 W9;replace N1:=N1.trans K7;clear R3;have R3:=R7;clear R7 K7;have M2:=q0D (o:=.lst [.str y2]) h2;refine qV (vs:=[y2]) (M2.at f1) rfl (by simp only[List.length_cons,List.length_nil];have:=cM Vc;omega) fun p3 Vy f3 N3=>?_;replace N3:=M2.trans N3;replace e1:=N3.at e1;replace R3:=R3.kp N3;replace N1:=N1.trans (N3.mono (T:=[r]) (by simp));clear M2 N3 h2;wp_walk using e1;refine fun p4 h4=>?_;obtain⟨UX,VG,VN,Y1⟩:=uH ws (k:=at_) (by omega);rw[VG];have M4:=q0D (o:=.lst (UX.map V.str)) h4;have f4:UH Vy p4 (.lst (UX.map V.str)) p4=some (.lst (UX.map V.str)):=aE;replace e1:=M4.at e1;replace R3:=R3.kp M4;replace N1:=N1.trans (M4.mono (T:=[r]) (by simp));replace f3:=M4.at f3;generalize UH Vy p4 (.lst (UX.map V.str))=GS4 at *;clear M4 VG;wp_walk using e1;refine qV f3 rfl (by (try simp only[List.length_append,List.length_cons,List.length_nil]);have:=cM Vc;have:=cM VN;omega) fun q5 Xr f5 N5=>?_
     have l5:((UP++[y2])++UX).length<=700000:=by simp only[List.length_append,List.length_cons,List.length_nil];omega
     have t5:tot ((UP++[y2])++UX)<=4 * (x.length+1)+60:=by rw[cV,cV,dC];have:=dN Vc;have:=dN VN;omega
     replace R3:=R3.kp N5;replace N1:=N1.trans (N5.mono (T:=[r]) (by simp));generalize (UP++[y2])++UX=us at *;wp_walk;refine⟨⟨_,dU.of f5⟩,?_⟩;refine vI (ys:=(us).map V.str) (fun j xs G'=>xs=(((us).take j).map fun r:Str=>r++"\n").map V.str/\Kp [] Xr G') ⟨rfl,Kp.refl⟩ ?_ ?_ ?_ ?_
     ·rintro j xs G' ⟨rfl,_⟩;simp only[List.length_map,List.length_take];omega
     ·rintro j xs G' ⟨_,k⟩;exact dU.of (k.at f5)
     ·rintro j y xs G' _ hj ⟨rfl,k⟩;obtain⟨z,hz,rfl⟩:∃ z,(us)[j]?=some z/\V.str z=y:=by
       rw[List.getElem?_map] at hj;exact Option.map_eq_some_iff.mp hj
      have e5:=kR hz;have lz:=g8 (List.mem_of_getElem? hz);have ln:=jY.1;wp_walk using bJ,Option.join_some;refine⟨by omega,?_,k⟩;rw[e5];simp
     ·rintro xs G' ⟨rfl,k⟩ l2 VC;simp only[List.length_map,List.take_length];wp_walk;refine⟨by rw[lsum,jY.2];omega,?_⟩;have ls:=oJ (us);exact q _ _ (by omega) ((R3).kp (k.trans (q0D VC))) ((N1).trans ((k.trans (q0D VC)).mono (by simp)))
  intro G4 e4 nw R4 K4;clear e1 R3 N1;have lp:=List.length_pos_iff.mpr nw;refine Vi _ _ ?_;clear Vi;refine aP fun Xv Vx=>?_;wp_walk using e4,List.length_map;refine⟨by omega,by omega,R4,fun at2 G5 a5 b5 R5 K5=>?_⟩;replace e4:=K5.at1 e4 Vt;replace K4:=K4.trans K5;clear R4 K5;refine Vx _ _ ?_;clear Vx;refine aP fun Yc VB=>?_;wp_walk using e4,List.length_map;refine⟨by omega,by omega,R5,fun ot G3 a6 b6 R3 K6=>?_⟩;have e1:=K6.at1 e4 Vt;have N1:=K4.trans K6;clear R5 K6 e4 K4;refine VB _ _ ?_;clear VB;refine aP fun Yp V2=>?_
  suffices fin:∀(w2:Addr) (us:List Str) (G:Hp),G w2=some (.lst (us.map V.str))->tot us<=4 * (x.length+1)+60->us.length<=700000->bI G r->Kp [r] H G->Yp [some (.ref r),some (.str x),some (.ref w2),some (.int kd),some (.int at2),some (.int ot)] G by
   by_cases c1:kd=1
   ·wp_walk using eq_true c1,e1;refine fun p1 h1=>?_;obtain⟨UP,Vm,Vc,XT⟩:=uI ws (k:=at2) (by omega);rw[Vm];have M1:=q0D (o:=.lst (UP.map V.str)) h1;have f1:UH G3 p1 (.lst (UP.map V.str)) p1=some (.lst (UP.map V.str)):=aE;replace e1:=M1.at e1;replace R3:=R3.kp M1;replace N1:=N1.trans (M1.mono (T:=[r]) (by simp));generalize UH G3 p1 (.lst (UP.map V.str))=GS1 at *;clear M1 Vm;wp_walk using e1;refine fun p2 h2=>?_;obtain⟨Vw,Yt,Zc,lu2⟩:=uH ws (k:=(at2+1)) (by omega);rw[Yt];have M2:=q0D (o:=.lst (Vw.map V.str)) h2;have f2:UH GS1 p2 (.lst (Vw.map V.str)) p2=some (.lst (Vw.map V.str)):=aE;replace e1:=M2.at e1;replace R3:=R3.kp M2;replace N1:=N1.trans (M2.mono (T:=[r]) (by simp));replace f1:=M2.at f1;generalize UH GS1 p2 (.lst (Vw.map V.str))=GS2 at *;clear M2 Yt;wp_walk using e1;refine qV f1 rfl (by (try simp only[List.length_append,List.length_cons,List.length_nil]);have:=cM Vc;have:=cM Zc;omega) fun q3 Vy f3 N3=>?_
    exact fin q3 (UP++Vw) _ f3 (by rw[cV];have:=dN Vc;have:=dN Zc;omega) (by simp only[List.length_append];omega) (R3.kp N3) (N1.trans (N3.mono (by simp)))
   by_cases c2:kd=2
   ·wp_walk using c1,eq_true c2,e1;refine dB a6 (by rw[List.length_map];exact b6) fun v hv=>?_;obtain⟨y1,hy1,rfl⟩:=List.mem_map.mp hv;have ly1:=g8 hy1;wp_walk using e1;refine dB a5 (by rw[List.length_map];exact b5) fun v2 WU=>?_;obtain⟨y2,YZ,rfl⟩:=List.mem_map.mp WU;have Xn:=g8 YZ;wp_walk;refine fun p0 h0=>⟨_,gS.of aE,rfl,?_⟩;have M0:=q0D (o:=.tup [.str y1,.str y2]) h0;replace e1:=M0.at e1;replace R3:=R3.kp M0;replace N1:=N1.trans (M0.mono (T:=[r]) (by simp));generalize UH G3 p0 (.tup [.str y1,.str y2])=G4 at *;clear M0 h0;obtain⟨j,hj,_⟩:=m6 (xs:=ws.map V.str) a5 (by rw[List.length_map];exact b5);obtain⟨i,hi,_⟩:=m6 (xs:=(ws.set j y1).map V.str) a6 (by rw[List.length_map,List.length_set];exact b6);wp_walk using e1,hj;rw[<- List.map_set,hi];wp_walk;have K8:=(Kp.kG (a:=wl) (H:=G4) (o:=.lst ((ws.set j y1).map V.str))).trans (Kp.kG (a:=wl) (o:=.lst (((ws.set j y1).map V.str).set i (.str y2))));have T:=oQ y1 ws j;have T2:=oQ y2 (ws.set j y1) i;have R7:=R3.kp K8 (by simpa using Vt.symm);exact fin wl ((ws.set j y1).set i y2) _ (by rw[<- List.map_set];exact aE) (by omega) (by rw[List.length_set,List.length_set];omega) R7 (Be N1 K8 Yk)
   by_cases c3:kd=3
   ·wp_walk using c1,c2,eq_true c3,e1;refine fun p1 h1=>?_;obtain⟨UP,Vm,Vc,XT⟩:=uI ws (k:=at2) (by omega);rw[Vm];have M1:=q0D (o:=.lst (UP.map V.str)) h1;have f1:UH G3 p1 (.lst (UP.map V.str)) p1=some (.lst (UP.map V.str)):=aE;replace e1:=M1.at e1;replace R3:=R3.kp M1;replace N1:=N1.trans (M1.mono (T:=[r]) (by simp));generalize UH G3 p1 (.lst (UP.map V.str))=GS1 at *;clear M1 Vm;wp_walk using e1;wp_walk using e1;refine dB a6 (by rw[List.length_map];exact b6) fun v hv=>?_;obtain⟨y2,YZ,rfl⟩:=List.mem_map.mp hv;have Xn:=g8 YZ;wp_walk;refine fun p2 h2=>?_;have M2:=q0D (o:=.lst [.str y2]) h2;refine qV (vs:=[y2]) (M2.at f1) rfl (by simp only[List.length_cons,List.length_nil];have:=cM Vc;omega) fun p3 Vy f3 N3=>?_;replace N3:=M2.trans N3;replace e1:=N3.at e1;replace R3:=R3.kp N3;replace N1:=N1.trans (N3.mono (T:=[r]) (by simp));clear M2 N3 h2;wp_walk using e1;refine fun p4 h4=>?_;obtain⟨UX,VG,VN,Y1⟩:=uH ws (k:=at2) (by omega);rw[VG];have M4:=q0D (o:=.lst (UX.map V.str)) h4;have f4:UH Vy p4 (.lst (UX.map V.str)) p4=some (.lst (UX.map V.str)):=aE;replace e1:=M4.at e1;replace R3:=R3.kp M4;replace N1:=N1.trans (M4.mono (T:=[r]) (by simp));replace f3:=M4.at f3;generalize UH Vy p4 (.lst (UX.map V.str))=GS4 at *;clear M4 VG;wp_walk using e1;refine qV f3 rfl (by (try simp only[List.length_append,List.length_cons,List.length_nil]);have:=cM Vc;have:=cM VN;omega) fun q5 Xr f5 N5=>?_
    exact fin q5 ((UP++[y2])++UX) _ f5 (by rw[cV,cV,dC];have:=dN Vc;have:=dN VN;omega) (by simp only[List.length_append,List.length_cons,List.length_nil];omega) (R3.kp N5) (N1.trans (N5.mono (by simp)))
   by_cases c4:kd=4
   ·wp_walk using c1,c2,c3,eq_true c4,e1;refine⟨by omega,fun p5 h5=>⟨R3.new h5,fun g G6 a7 b7 R6 K6=>?_⟩⟩;wp_walk using K6.made R3 h5;refine dB a7 b7 fun v hv=>?_;obtain⟨y2,rfl,Xn⟩:=t6 five40 hv;have s1:=Txt.slice_le x none (some (-1));have ls:=bO (Txt.slice x none (some (-1))) y2;wp_walk;exact⟨by omega,q _ _ (by omega) R6 ((N1.trans (Kp.new h5)).trans K6)⟩
   ·wp_walk using c1,c2,c3,c4,e1;refine dB a5 (by rw[List.length_map];exact b5) fun v hv=>?_;obtain⟨y1,hy1,rfl⟩:=List.mem_map.mp hv;have ly1:=g8 hy1;wp_walk;refine⟨r,y1,rfl,R3,by omega,fun y2 G6 Xn R6 K6=>?_⟩;replace e1:=K6.at1 e1 Vt;replace N1:=N1.trans K6;wp_walk using e1;obtain⟨j,hj,_⟩:=m6 (xs:=ws.map V.str) a5 (by rw[List.length_map];exact b5);rw[hj];wp_walk;have K7:=Kp.kG (a:=wl) (H:=G6) (o:=.lst ((ws.map V.str).set j (.str y2)));have T:=oQ y2 ws j;have R7:bI (UH G6 wl (.lst ((ws.map V.str).set j (.str y2)))) r:=R6.kp K7 (by simpa using Vt.symm);exact fin wl (ws.set j y2) _ (by rw[<- List.map_set];exact aE) (by omega) (by rw[List.length_set];omega) R7 (Be N1 K7 Yk)
  intro w2 us G e9 t9 l5 R9 K9;clear e1 R3 N1;refine V2 _ _ ?_;clear V2;wp_walk using e9;refine⟨⟨_,dU.of e9⟩,?_⟩;refine vI (ys:=(us).map V.str) (fun j xs G'=>xs=(((us).take j).map fun r:Str=>r++"\n").map V.str/\Kp [] G G') ⟨rfl,Kp.refl⟩ ?_ ?_ ?_ ?_
  ·rintro j xs G' ⟨rfl,_⟩;simp only[List.length_map,List.length_take];omega
  ·rintro j xs G' ⟨_,k⟩;exact dU.of (k.at e9)
  ·rintro j y xs G' _ hj ⟨rfl,k⟩;obtain⟨z,hz,rfl⟩:∃ z,(us)[j]?=some z/\V.str z=y:=by
    rw[List.getElem?_map] at hj;exact Option.map_eq_some_iff.mp hj
   have e5:=kR hz;have lz:=g8 (List.mem_of_getElem? hz);have ln:=jY.1;wp_walk using bJ,Option.join_some;refine⟨by omega,?_,k⟩;rw[e5];simp
  ·rintro xs G' ⟨rfl,k⟩ l2 VC;simp only[List.length_map,List.take_length];wp_walk;refine⟨by rw[lsum,jY.2];omega,?_⟩;have ls:=oJ (us);exact q _ _ (by omega) ((R9).kp (k.trans (q0D VC))) ((K9).trans ((k.trans (q0D VC)).mono (by simp)))
theorem Cv{t:Ad}(T:Tx K mg t):bN P w K mg base UR 70 t.sE t.sT ["text"] (KH t.aK):=by
 refine T.Ah.ok gE (fun vs H Q E h=>?_) (fun UN A outer s H vs Q E hr h=>?_)
 ·obtain⟨x,rfl,_⟩:=h;rfl
 ·obtain⟨x,rfl,lx,q,qN⟩:=h;refine⟨_,(aD (aO (i:=1) gE.nd rfl (Or.inl rfl) qA)
   (aD (aO (i:=2) gE.nd rfl (Or.inl rfl) uT)
   (aD (Kq (i:=1) (j:=3) (nA T) (hr.mono (by omega)) rfl T.rE T.lF.kp T.qS .nil (fun _=>(aC (pv 0) aB)) gE.nd rfl (Or.inl rfl) rfl rfl T.xK T.bZ.toXCls T.zR.toXCls (by simp) (fun _=>(aD (aO (i:=2) gE.nd rfl (Or.inl rfl) (Dx (bP (sR K rfl T.bZ) rfl T.gG gY (aC (pv 3) (aC (dM (v:=.ref t.aK) rfl T.b9 rfl) aB))) (Dy (bP (sR K rfl T.bZ) rfl T.gG gY (aC (pv 3) (aC (Eg (v:=.ty "ValueError") rfl T.nY yU rfl) aB))))))
   (aH (aO (i:=2) gE.nd rfl (Or.inl rfl) (Dx (pv 2) (Dy (OK (bP (sR K rfl T.bZ) rfl T.gG gY (aC (pv 3) (aC (bM (aC (dM (v:=.ref t.cI) rfl T.Ck rfl) (aC (dM (v:=.ref t.eN) rfl T.Hj rfl) (aC (dM (v:=.ref t.iE) rfl T.J9 rfl) (aC (dM (v:=.ref t.cQ) rfl T.Df rfl) (aC (dM (v:=.ref t.eO) rfl T.Hk rfl) (aC (dM (v:=.ref t.gL) rfl T.Ka rfl) (aC (dM (v:=.ref t.dG) rfl T.Ff rfl) aB)))))))) aB)))))))))))
   (aH (aN (bM (aC (pv 1) (aC (pv 2) aB)))))))),?_⟩
  and_intros
  wp_walk;refine⟨x,rfl,lx,fun b hb p us H1 h1 hU K1=>?_,fun hb H1 K1=>⟨rfl,fun e he=>?_⟩⟩
  ·wp_walk;exact fun a ha=>q b hb a p us _ aE ((q0D ha).at h1) (hU.kp (aM.new ha)) (K1.trans (Kp.new ha))
  ·have N1:=q0D (o:=yS e t.aK) he;have e1:UH H1 e (yS e t.aK) e=some (yS e t.aK):=aE;replace N1:=K1.trans N1;generalize UH H1 e (yS e t.aK)=G1 at *;wp_walk;refine⟨e,e1,.inl ⟨.inl rfl,?_⟩⟩;wp_walk;refine⟨e,e1,.inl ⟨.inr rfl,?_⟩⟩;wp_walk;refine fun p hp=>?_;have N2:=q0D (o:=.tup [.ref t.cI,.ref t.eN,.ref t.iE,.ref t.cQ,.ref t.eO,.ref t.gL,.ref t.dG]) hp;refine⟨e,N2.at e1,.inr ⟨p,_,rfl,aE,?_,?_⟩⟩
   ·have ne:∀ D:Addr,t.aK≠D/\t.aJ≠D->(Value.ref t.aK::Value.ref t.aJ::iD).contains (.ref D)=false:=fun D ⟨a,b⟩=>by
     simp only[List.contains_cons,List.contains_nil,Bool.or_eq_false_iff,beq_eq_false_iff_ne,ne_eq,Value.ref.injEq,reduceCtorEq,not_false_eq_true,and_true];exact⟨fun z=>a z.symm,fun z=>b z.symm⟩
    obtain⟨x1,x2,x3,x4,x5,x6,x7⟩:=T.xne;intro c hc;simp only[List.mem_cons,List.not_mem_nil,or_false] at hc;rcases hc with rfl|rfl|rfl|rfl|rfl|rfl|rfl
    ·exact⟨_,rfl,T.DN,ne _ x7⟩
    ·exact⟨_,rfl,T.K0,ne _ x5⟩
    ·exact⟨_,rfl,T.Po,ne _ x1⟩
    ·exact⟨_,rfl,T.FI,ne _ x4⟩
    ·exact⟨_,rfl,T.La,ne _ x3⟩
    ·exact⟨_,rfl,T.Pq,ne _ x6⟩
    ·exact⟨_,rfl,T.II,ne _ x2⟩
   ·wp_walk;exact fun a ha=>qN hb a _ aE ((N1.trans N2).trans (Kp.new ha))
theorem OB{t:Ad}(T:Tx K mg t):bN P w K mg base UR 80 t.Mf t.Ms ["script"] (Ep K):=by
 refine T.TR.ok kE (fun vs H Q E h=>?_) (fun UN A outer s H vs Q E hr h=>?_)
 ·obtain⟨a,ns,rfl,_⟩:=h;rfl
 ·obtain⟨a,ns,rfl,hS,h63,q⟩:=h;refine⟨_,(aD (Bt PassesOwn.never rfl (vQ (aW aU (bF (aC aG aB)) (bQ El (pv 0) cD (cE aG)))) (lN (i:=1) kE.nd rfl (Or.inl rfl)) (aD (aO (i:=2) kE.nd rfl (Or.inl rfl) (aI (Bm T) (hr.mono (by omega)) rfl T.Dk T.wW.kp T.C0 .nil pass0 (aC (pv 1) aB)))
   (aD (aO (i:=3) kE.nd rfl (Or.inl rfl) (aI (zJ T) (hr.mono (by omega)) rfl T.Cp T.uK.kp T.BP .nil pass0 (aC (pv 2) aB)))
   (aD (aO (i:=4) kE.nd rfl (Or.inl rfl) (aI (nD T) (hr.mono (by omega)) rfl T.rF T.lG.kp T.qT .nil pass0 (aC (pv 3) aB)))
   (aD (bE (aL (OI 20 (Rf hr (by decide))) (aI (nA T) (hr.mono (by omega)) rfl T.rE T.lF.kp T.qS .nil Rx (aC (pv 4) aB)) (pv 3) (nomark _)) (aH (aN uT)) aR)
   (aH (Bt PassesOwn.never rfl (oN rfl T.uB (aC aG aB)) (lN (i:=5) kE.nd rfl (Or.inl rfl)) (aD (aO (i:=6) kE.nd rfl (Or.inl rfl) (aI (Dq T) (hr.mono (by omega)) rfl T.Hr T.B7.kp T.FQ .nil pass0 (aC (pv 2) (aC (pv 4) aB))))
   (aD (nJ (aI (Cv T) (hr.mono (by omega)) rfl T.Fh T.Ah.kp T.EG .nil pass0 (aC (pv 6) aB)) (HI rfl (rW (lN (i:=7) kE.nd rfl (Or.inl rfl)) (rW (lN (i:=8) kE.nd rfl (Or.inl rfl)) Eh))))
   (aD (bE (PW.pt (tT (jZ (j4 (pv 8))) (oP (aL xX (aI (nD T) (hr.mono (by omega)) rfl T.rF T.lG.kp T.qT .nil pass0 (aC (pv 7) aB)) (pv 6) (nomark _))))) (aH (aN uT)) aR)
   (aD (bE (PW.pt (tT (j4 (pv 8)) (oP (aL Ar (pv 7) qA (nomark _))))) (aH (aN uT)) aR)
   (aH (aO (i:=4) kE.nd rfl (Or.inl rfl) (pv 6))))))))))))))
   (aH (aN uT))),?_⟩
  and_intros
  wp_walk;refine fun p1 h1=>⟨_,(Kp.new h1).same.seq hS,fun p2 h2=>?_⟩;obtain⟨ms,em,lm⟩:=Gh ns none (some 20);rw[em] at *;have n12:=aQ aE h2;wp_walk using aY n12,List.length_map;refine⟨by omega,fun p3 h3=>⟨⟨_,dU.of aE⟩,?_⟩⟩;obtain⟨Pv,V6⟩:∃ Pv:Nat->St->Hp->Prop,∀ i σ G,Pv i σ G = ∃(v1 v2 v3 v4 v5 v6 v7 v8:Option V),σ=[some (.ref a),v1,v2,v3,v4,v5,v6,v7,v8]/\G p3=some (.lst ((0::ms).map V.int)):=⟨_,fun _ _ _=>rfl⟩;refine E3 (xs:=(0::ms).map V.int) Pv ?_ ?_ ?_ ?_
  ·rw[V6];exact⟨none,none,none,none,none,none,none,none,rfl,aE⟩
  ·intro i σ G _ hG;rw[V6] at hG;obtain⟨_,_,_,_,_,_,_,_,_,e⟩:=hG;exact dU.of e
  ·intro D' i y σ G hn hi hG;rw[V6] at hG;obtain⟨v1,v2,v3,v4,v5,v6,v7,v8,rfl,eG⟩:=hG;obtain⟨z,rfl⟩:=J2 hi;have back:∀(w1 w2 w3 w4 w5 w6 w7 w8:Option V) (G':Hp),G' p3=some (.lst ((0::ms).map V.int))->D'.nx [some (.ref a),w1,w2,w3,w4,w5,w6,w7,w8] G':=fun w1 w2 w3 w4 w5 w6 w7 w8 G' e=>by
    rw[hn,V6];exact⟨_,_,_,_,_,_,_,_,rfl,e⟩
   clear V6;refine Ll (aP fun Wd U0=>?_);wp_walk;refine⟨z,rfl,fun r H1 nr K1 R1=>?_⟩;have n3r:p3≠r:=aQ eG nr;replace eG:=K1.at eG;clear K1 nr;refine U0 _ _ ?_;clear U0;refine aP fun Wh UY=>?_;wp_walk;refine⟨r,rfl,R1,fun po uo bo H2 ho Uo wo do_ zo R2 K2=>?_⟩;replace eG:=K2.at1 eG n3r;clear K2 R1;refine UY _ _ ?_;clear UY;refine aP fun WN U8=>?_;wp_walk;refine⟨po,uo,bo,rfl,ho,Uo,wo,by omega,by omega,fun H3 K3=>?_⟩;replace eG:=K3.at eG;replace ho:=K3.at ho;replace Uo:=Uo.kp (aM.nil K3);replace R2:=R2.kp K3;have lt:(kH bo).length<=128176:=by
    have:=kP wo;unfold kH;rw[oJ];omega
   clear K3;refine U8 _ _ ?_;clear U8;refine aP fun WO Vi=>?_;wp_walk;refine⟨kH bo,rfl,by omega,fun b hb p us G4 h4 hU K4=>?_,fun hb=>?_⟩
   case refine_2=>rw[AB wo (by omega) (by omega)] at hb;cases hb
   rw[AB wo (by omega) (by omega)] at hb;cases hb;wp_walk;refine⟨true,HM h4 (K4.at ho) hU (Uo.kp (aM.nil K4)) wo (by omega),?_⟩;wp_walk;replace eG:=K4.at eG;replace R2:=R2.kp K4;clear ho Uo h4 hU K4;refine Vi _ _ ?_;clear Vi;wp_walk;obtain⟨Pw,YC⟩:∃ Pw:Nat->St->Hp->Prop,∀ j σ G,Pw j σ G = ∃(w5 w6 w7 w8:Option V) (x:Str),σ=[some (.ref a),some (.int z),some (.ref r),some (.ref po),some (.str x),w5,w6,w7,w8]/\(j=0->x.length<=128176)/\(j=1->x.length<=512768)/\G p3=some (.lst ((0::ms).map V.int))/\bI G r:=⟨_,fun _ _ _=>rfl⟩;refine Ak (lo:=0) (n:=2) Pw ?_ ?_ ?_
   ·rw[YC];exact⟨_,_,_,_,_,rfl,fun _=>lt,(fun z=>by cases z),eG,R2⟩
   ·intro j σ G hj hG;rw[YC] at hG;obtain⟨w5,w6,w7,w8,x,rfl,x0,x1,eG,RG⟩:=hG;have lx:x.length<=512768:=by
     rcases Nat.lt_or_ge j 1 with h|h
     ·have:=x0 (by omega);omega
     ·exact x1 (by omega)
    have bk:∀(w5 w6 w7 w8:Option V) (y:Str) (G:Hp),y.length<=4 * (x.length+1)+60->G p3=some (.lst ((0::ms).map V.int))->bI G r->Pw (j+1) [some (.ref a),some (.int z),some (.ref r),some (.ref po),some (.str y),w5,w6,w7,w8] G:=fun w5 w6 w7 w8 y G ly e R=>by
     rw[YC];exact⟨_,_,_,_,y,rfl,fun z=>absurd z (by omega),fun z=>by have:=x0 (by omega);omega,e,R⟩
    clear YC;refine Ll (aP fun Wd U0=>?_);wp_walk;refine⟨r,x,rfl,RG,by omega,fun y G1 ly R1 K1=>?_⟩;replace eG:=K1.at1 eG n3r;clear K1 RG;refine U0 _ _ ?_;clear U0;refine aP fun Wh UY=>?_;wp_walk;refine⟨y,rfl,by omega,fun b hb t1 p us G2 h2 h3 hU K2=>?_,fun hb t1 G2 h2 K2=>?_⟩
    ·replace eG:=K2.at eG;replace R1:=R1.kp K2;clear K2;wp_walk;refine⟨_,gS.of h2,rfl,?_⟩;obtain⟨sy,sw_,sd,sz⟩:=Fq hb;wp_walk;refine UY _ _ ?_;clear UY;refine aP fun WN U8=>?_;wp_walk;refine⟨p,us,b,rfl,h3,hU,sw_,by omega,by omega,fun G3 K3=>?_⟩;replace eG:=K3.at eG;replace R1:=R1.kp K3;wp_walk using sy;refine U8 _ _ ?_;clear U8;wp_walk;exact bk _ _ _ _ y _ ly eG R1
    ·replace eG:=K2.at eG;replace R1:=R1.kp K2;clear K2;wp_walk;refine⟨_,gS.of h2,rfl,?_⟩;wp_walk;refine UY _ _ ?_;clear UY;refine aP fun WN U8=>?_;wp_walk;refine U8 _ _ ?_;clear U8;wp_walk;exact bk _ _ _ _ y _ ly eG R1
   ·intro σ G hG;rw[YC] at hG;obtain⟨w5,w6,w7,w8,x,rfl,_,_,eG,RG⟩:=hG;exact back _ _ _ _ _ _ _ _ _ eG
  ·intro σ G hG;rw[V6] at hG;obtain⟨v1,v2,v3,v4,v5,v6,v7,v8,rfl,eG⟩:=hG;wp_walk;exact q _
end
theorem b0{P:List Value->Prop}(h:P []):∀ us:List Value,us.length=0->P us:=fun us e=>by rw[List.length_eq_zero_iff.mp e];exact h
theorem bS{P:List Value->Prop}{n:Nat}(h:∀ a,∀ us:List Value,us.length=n->P (a::us)):∀ us:List Value,us.length=n+1->P us
 | [],e=>by cases e
 | a::us,e=>h a us (Nat.succ.inj e)
theorem IE{q:Program}{loose:List Str}{XP:(q0C)->Heap->Prop}{K:Params->q0B}{as:List Addr}{n t:Nat}{r:PySem.W.RowW}{d:DefRec}{kwd:List (Str×Expr)}{run:Value->List Value->Sem Value}(e:∀ P:Params,as=List.map (fun x=>x.fst) (K P))(H:PySem.W.WalkO q loose XP (PySem.W.kHook K as e).says r d kwd run):PySem.W.WalkX q loose XP (PySem.W.X.obsZ as) (PySem.W.X.valZ K n t) r d kwd run:=fun w s₀ s₁ mg mb G y a o pm cd doc dV kV h1 h2 h3 h4 h5 h6 args vals bs L=>by
 obtain⟨_,f,_,_⟩:=PySem.W.X.z_facts e y;exact H w s₀ s₁ mg mb G (show PySem.W.InK K w s₁.heap from fun p ob hp=>L.keeps _ _ (f p ob hp)) a o pm cd doc dV kV h1 h2 h3 h4 h5 h6 args vals bs
section
open PySem.W
theorem Mg{l:OpenLaw}{w:World}{K:Frag}{h:Heap}{mg:q0C}{fa:Addr}(X:K.In h)(G:h.Ns mainGlobals mg)(hfa:mg "law"=some (.ref fa))
    {f0 f1 f2 f3 f4 f5 f6 f7 f8 f9 Zx f11 f12 f13 f14 f15 f16 f17 f18 f19 f20 f21 f22 f23 f24 f25 f26 f27 f28 f29 f30 f31 f32 f33 f34 f35 f36 f37 f38 f39 f40 f41:Addr} {d0 d1 d2 d3 d4 d5 d6 d7 d8 d9 d10 d11 d12 d13 d14 d15 d16 d17 d18 d19 d20 d21 d22 d23 d24 d25 d26 d27 d28 d29 d30 d31 d32 d33 d34 d35 d36 d37 d38 d39 d40 d41:FuncData}
    {aV:Addr}
    {aJ aK iE dG eO cQ eN gL cI:Addr}
    {tk0:Tok}
    {tk1:Tok}
    {tp2:Addr} {td2:Option Addr} {tn2:Nat} {ts2:Array (Option Value)} {Ze Zf Zg Zh Zi Zj Zk Zl Zm Zn X3 X4 X5 X6 X7 X8 X9:Tok}
    {tk3:Tok}
    {tk4:Tok}
    {tk5:Tok}
    {tk6:Tok}
    {tp7:Addr} {td7:Option Addr} {tn7:Nat} {ts7:Array (Option Value)} {Zo Zp Zq Zr Zs:Tok}
    (Wi:nsIn K mainGlobals "Reader"=some (some (.ref aV))) (WC:plainGet K aV Str.empty=true) (Ws:hasDictIn K aV=true) (WD:plainOver K aV=true) (WE:findIn K (.ref aV) "__setattr__"=some (some (.builtin "object.__setattr__"))) (xO:makesIn K aV=true) (Ww:keepIn K (.ref aV)=true)
    (a0:nsIn K mainGlobals "is_number_word"=some (some (.ref f0)))
    (F0:Fun K "is_number_word" "is_number_word" jD f0 d0)
    (a1:nsIn K mainGlobals "is_figure"=some (some (.ref f1)))
    (F1:Fun K "is_figure" "is_figure" qB f1 d1)
    (a2:nsIn K mainGlobals "is_small_letter"=some (some (.ref f2)))
    (F2:Fun K "is_small_letter" "is_small_letter" iK f2 d2)
    (a3:nsIn K mainGlobals "is_name"=some (some (.ref f3)))
    (F3:Fun K "is_name" "is_name" yD f3 d3)
    (a4:nsIn K mainGlobals "read_program"=some (some (.ref f4)))
    (F4:Fun K "read_program" "read_program" kB f4 d4)
    (a5:findIn K (.ref aV) "__init__"=some (some (.ref f5))) (i5:isFn K (.ref f5)=true)
    (F5:Fun K "__init__" "Reader.__init__" lP f5 d5)
    (a6:findIn K (.ref aV) "ahead"=some (some (.ref f6))) (i6:isFn K (.ref f6)=true)
    (F6:Fun K "ahead" "Reader.ahead" j7 f6 d6)
    (a7:findIn K (.ref aV) "block"=some (some (.ref f7))) (i7:isFn K (.ref f7)=true)
    (F7:Fun K "block" "Reader.block" j8 f7 d7)
    (a8:findIn K (.ref aV) "statement"=some (some (.ref f8))) (i8:isFn K (.ref f8)=true)
    (F8:Fun K "statement" "Reader.statement" gR f8 d8)
    (a9:findIn K (.ref aV) "with_blocks"=some (some (.ref f9))) (i9:isFn K (.ref f9)=true)
    (F9:Fun K "with_blocks" "Reader.with_blocks" fX f9 d9)
    (a10:findIn K (.ref aV) "second_block"=some (some (.ref Zx))) (i10:isFn K (.ref Zx)=true)
    (ZT:Fun K "second_block" "Reader.second_block" fP Zx d10)
    (a11:nsIn K mainGlobals "take_plain"=some (some (.ref f11)))
    (F11:Fun K "take_plain" "take_plain" nS f11 d11)
    (a12:nsIn K mainGlobals "take_given"=some (some (.ref f12)))
    (F12:Fun K "take_given" "take_given" nR f12 d12)
    (a13:nsIn K mainGlobals "take_waited"=some (some (.ref f13)))
    (F13:Fun K "take_waited" "take_waited" lY f13 d13)
    (a14:nsIn K mainGlobals "take_saying"=some (some (.ref f14)))
    (F14:Fun K "take_saying" "take_saying" lX f14 d14)
    (a15:nsIn K mainGlobals "take_joined"=some (some (.ref f15)))
    (F15:Fun K "take_joined" "take_joined" lW f15 d15)
    (a16:nsIn K mainGlobals "take_name"=some (some (.ref f16)))
    (F16:Fun K "take_name" "take_name" qH f16 d16)
    (a17:nsIn K mainGlobals "take_word"=some (some (.ref f17)))
    (F17:Fun K "take_word" "take_word" qI f17 d17)
    (a18:nsIn K mainGlobals "refuse_more"=some (some (.ref f18)))
    (F18:Fun K "refuse_more" "refuse_more" lU f18 d18)
    (a19:nsIn K mainGlobals "show_program"=some (some (.ref f19)))
    (F19:Fun K "show_program" "show_program" kC f19 d19)
    (a20:nsIn K mainGlobals "block_lines"=some (some (.ref f20)))
    (F20:Fun K "block_lines" "block_lines" lQ f20 d20)
    (a21:nsIn K mainGlobals "statement_lines"=some (some (.ref f21)))
    (F21:Fun K "statement_lines" "statement_lines" gX f21 d21)
    (a22:nsIn K mainGlobals "else_lines"=some (some (.ref f22)))
    (F22:Fun K "else_lines" "else_lines" nM f22 d22)
    (a23:nsIn K mainGlobals "show_head"=some (some (.ref f23)))
    (F23:Fun K "show_head" "show_head" qG f23 d23)
    (a24:nsIn K mainGlobals "show_plain"=some (some (.ref f24)))
    (F24:Fun K "show_plain" "show_plain" nQ f24 d24)
    (a25:nsIn K mainGlobals "given_words"=some (some (.ref f25)))
    (F25:Fun K "given_words" "given_words" lR f25 d25)
    (a26:nsIn K mainGlobals "show_saying"=some (some (.ref f26)))
    (F26:Fun K "show_saying" "show_saying" lV f26 d26)
    (a27:nsIn K mainGlobals "_law_stream"=some (some (.ref f27)))
    (F27:Fun K "_law_stream" "_law_stream" nO f27 d27)
    (a28:nsIn K mainGlobals "_law_take"=some (some (.ref f28)))
    (F28:Fun K "_law_take" "_law_take" tY f28 d28)
    (a29:nsIn K mainGlobals "_law_worth"=some (some (.ref f29)))
    (F29:Fun K "_law_worth" "_law_worth" qF f29 d29)
    (a30:nsIn K mainGlobals "_law_own"=some (some (.ref f30)))
    (F30:Fun K "_law_own" "_law_own" yE f30 d30)
    (a31:nsIn K mainGlobals "_law_name"=some (some (.ref f31)))
    (F31:Fun K "_law_name" "_law_name" tX f31 d31)
    (a32:nsIn K mainGlobals "_law_saying"=some (some (.ref f32)))
    (F32:Fun K "_law_saying" "_law_saying" nN f32 d32)
    (a33:nsIn K mainGlobals "_law_line"=some (some (.ref f33)))
    (F33:Fun K "_law_line" "_law_line" tV f33 d33)
    (a34:nsIn K mainGlobals "_law_block"=some (some (.ref f34)))
    (F34:Fun K "_law_block" "_law_block" qD f34 d34)
    (a35:nsIn K mainGlobals "_law_program"=some (some (.ref f35)))
    (F35:Fun K "_law_program" "_law_program" lT f35 d35)
    (a36:nsIn K mainGlobals "_law_asked"=some (some (.ref f36)))
    (F36:Fun K "_law_asked" "_law_asked" qC f36 d36)
    (a37:nsIn K mainGlobals "_law_menu"=some (some (.ref f37)))
    (F37:Fun K "_law_menu" "_law_menu" tW f37 d37)
    (a38:nsIn K mainGlobals "_law_line_menu"=some (some (.ref f38)))
    (F38:Fun K "_law_line_menu" "_law_line_menu" kA f38 d38)
    (a39:nsIn K mainGlobals "_law_bent_line"=some (some (.ref f39)))
    (F39:Fun K "_law_bent_line" "_law_bent_line" j9 f39 d39)
    (a40:nsIn K mainGlobals "_law_bent"=some (some (.ref f40)))
    (F40:Fun K "_law_bent" "_law_bent" tU f40 d40)
    (a41:nsIn K mainGlobals "law"=some (some (.ref f41)))
    (ZU:Fun K "law" "law" HV f41 d41)
    (rH:findIn K (.ref aV) "lines"=some none)
    (dW:findIn K (.ref aV) "lines_read"=some none)
    (dR:findIn K (.ref aV) "statements_read"=some none)
    (Vl:nsIn K mainGlobals "OutlastError"=some (some (.ref aJ)))
    (VF:nsIn K mainGlobals "NoProgram"=some (some (.ref aK)))
    (WW:nsIn K mainGlobals "NoLog"=some (some (.ref iE)))
    (V5:nsIn K mainGlobals "NoState"=some (some (.ref dG)))
    (Wk:nsIn K mainGlobals "NoRule"=some (some (.ref eO)))
    (VT:nsIn K mainGlobals "NoPolicy"=some (some (.ref cQ)))
    (Wj:nsIn K mainGlobals "NoLine"=some (some (.ref eN)))
    (WX:nsIn K mainGlobals "NoRun"=some (some (.ref gL)))
    (VE:nsIn K mainGlobals "NoCommand"=some (some (.ref cI)))
    (Vq:jV K aJ=true)
    (Vp:XQ K aJ (iD))
    (VR:jV K aK=true)
    (VP:XQ K aK (.ref aJ::iD))
    (Xg:jV K iE=true)
    (Wb:jV K dG=true)
    (Wa:XQ K dG (.ref aJ::iD))
    (WK:jV K eO=true)
    (WI:XQ K eO (.ref aJ::iD))
    (VZ:jV K cQ=true)
    (VY:XQ K cQ (.ref aJ::iD))
    (WJ:jV K eN=true)
    (WH:XQ K eN (.ref aJ::iD))
    (Xh:jV K gL=true)
    (Xf:XQ K gL (.ref aJ::iD))
    (VQ:jV K cI=true)
    (VO:XQ K cI (.ref aJ::iD))
    (xne:(aK≠iE/\aJ≠iE)/\(aK≠dG/\aJ≠dG)/\(aK≠eO/\aJ≠eO)/\(aK≠cQ/\aJ≠cQ)/\(aK≠eN/\aJ≠eN)/\(aK≠gL/\aJ≠gL)/\(aK≠cI/\aJ≠cI))
    (v0:nsIn K mainGlobals "GREATEST_WORTH"=some (some (.int 1000000000 tk0)))
    (v1:nsIn K mainGlobals "LONGEST_NAME"=some (some (.int 6 tk1)))
    (v2:nsIn K mainGlobals "OWN_WORDS"=some (some (.ref tp2))) (u2:K.lookup tp2=some ⟨.type "tuple",td2,.seq #[.str "order" Ze,.str "timer" Zf,.str "child" Zg,.str "send" Zh,.str "drop" Zi,.str "wait" Zj,.str "hear" Zk,.str "if" Zl,.str "else" Zm,.str "done" Zn,.str "while" X3,.str "end" X4,.str "none" X5,.str "arg" X6,.str "now" X7,.str "answer" X8,.str "not" X9] tn2,ts2⟩)
    (v3:nsIn K mainGlobals "MOST_STATEMENTS"=some (some (.int 60 tk3)))
    (v4:nsIn K mainGlobals "DEEPEST_BLOCK"=some (some (.int 5 tk4)))
    (v5:nsIn K mainGlobals "DEEPEST_SAYING"=some (some (.int 6 tk5)))
    (v6:nsIn K mainGlobals "MOST_WAITED"=some (some (.int 4 tk6)))
    (v7:nsIn K mainGlobals "SIGNS"=some (some (.ref tp7))) (u7:K.lookup tp7=some ⟨.type "tuple",td7,.seq #[.str "+" Zo,.str "-" Zp,.str "*" Zq,.str "<" Zr,.str "=" Zs] tn7,ts7⟩)
    (nY:nsIn K mainGlobals "ValueError"=some none)
    (Lb:nsIn K mainGlobals "all"=some none)
    (CU:nsIn K mainGlobals "int"=some none)
    (gG:nsIn K mainGlobals "isinstance"=some none)
    (kS:nsIn K mainGlobals "len"=some none)
    (Pr:nsIn K mainGlobals "max"=some none)
    (uB:nsIn K mainGlobals "range"=some none)
    (IJ:nsIn K mainGlobals "str"=some none)
    (uC:nsIn K mainGlobals "tuple"=some none)
    : ∃ fd:FuncData,(∀(s:Shared) (v:Value),BindsTo s fd ⟨[v],[]⟩ [("script",v)])/\∀ base:Heap,K.In base->base.Ns mainGlobals mg->bN l.prog w K mg base UR 80 fa fd ["script"] (Ep K):=by
  have e:=hfa.symm.trans (mg_of X G a41);cases e;have T:Tx K mg ⟨f0,_,f1,_,f2,_,f3,_,f4,_,f5,_,f6,_,f7,_,f8,_,f9,_,Zx,_,f11,_,f12,_,f13,_,f14,_,f15,_,f16,_,f17,_,f18,_,f19,_,f20,_,f21,_,f22,_,f23,_,f24,_,f25,_,f26,_,f27,_,f28,_,f29,_,f30,_,f31,_,f32,_,f33,_,f34,_,f35,_,f36,_,f37,_,f38,_,f39,_,f40,_,fa,_,tk0,tk1,tp2,tk3,tk4,tk5,tk6,tp7,aV,aJ,aK,iE,dG,eO,cQ,eN,gL,cI⟩:=⟨F0,(F0.binds fun _ _ _ _ _ _=>bS fun _=>bS fun _=>bS fun _=>b0 rfl),(mg_of X G a0),F1,(F1.binds fun _ _ _ _ _ _=>bS fun _=>b0 rfl),(mg_of X G a1),F2,(F2.binds fun _ _ _ _ _ _=>bS fun _=>b0 rfl),(mg_of X G a2),F3,(F3.binds fun _ _ _ _ _ _=>bS fun _=>b0 rfl),(mg_of X G a3),F4,(F4.binds fun _ _ _ _ _ _=>bS fun _=>b0 rfl),(mg_of X G a4),F5,(F5.binds fun _ _ _ _ _ _=>bS fun _=>bS fun _=>b0 rfl),⟨a5,i5,F5.kp⟩,F6,(F6.binds fun _ _ _ _ _ _=>bS fun _=>b0 rfl),⟨a6,i6,F6.kp⟩,F7,(F7.binds fun _ _ _ _ _ _=>bS fun _=>bS fun _=>b0 rfl),⟨a7,i7,F7.kp⟩,F8,(F8.binds fun _ _ _ _ _ _=>bS fun _=>bS fun _=>b0 rfl),⟨a8,i8,F8.kp⟩,F9,(F9.binds fun _ _ _ _ _ _=>bS fun _=>bS fun _=>bS fun _=>b0 rfl),⟨a9,i9,F9.kp⟩,ZT,(ZT.binds fun _ _ _ _ _ _=>bS fun _=>bS fun _=>b0 rfl),⟨a10,i10,ZT.kp⟩,F11,(F11.binds fun _ _ _ _ _ _=>bS fun _=>b0 rfl),(mg_of X G a11),F12,(F12.binds fun _ _ _ _ _ _=>bS fun _=>bS fun _=>b0 rfl),(mg_of X G a12),F13,(F13.binds fun _ _ _ _ _ _=>bS fun _=>b0 rfl),(mg_of X G a13),F14,(F14.binds fun _ _ _ _ _ _=>bS fun _=>bS fun _=>b0 rfl),(mg_of X G a14),F15,(F15.binds fun _ _ _ _ _ _=>bS fun _=>bS fun _=>b0 rfl),(mg_of X G a15),F16,(F16.binds fun _ _ _ _ _ _=>bS fun _=>b0 rfl),(mg_of X G a16),F17,(F17.binds fun _ _ _ _ _ _=>bS fun _=>b0 rfl),(mg_of X G a17),F18,(F18.binds fun _ _ _ _ _ _=>bS fun _=>b0 rfl),(mg_of X G a18),F19,(F19.binds fun _ _ _ _ _ _=>bS fun _=>b0 rfl),(mg_of X G a19),F20,(F20.binds fun _ _ _ _ _ _=>bS fun _=>b0 rfl),(mg_of X G a20),F21,(F21.binds fun _ _ _ _ _ _=>bS fun _=>b0 rfl),(mg_of X G a21),F22,(F22.binds fun _ _ _ _ _ _=>bS fun _=>b0 rfl),(mg_of X G a22),F23,(F23.binds fun _ _ _ _ _ _=>bS fun _=>b0 rfl),(mg_of X G a23),F24,(F24.binds fun _ _ _ _ _ _=>bS fun _=>b0 rfl),(mg_of X G a24),F25,(F25.binds fun _ _ _ _ _ _=>bS fun _=>b0 rfl),(mg_of X G a25),F26,(F26.binds fun _ _ _ _ _ _=>bS fun _=>b0 rfl),(mg_of X G a26),F27,(F27.binds fun _ _ _ _ _ _=>bS fun _=>b0 rfl),(mg_of X G a27),F28,(F28.binds fun _ _ _ _ _ _=>bS fun _=>bS fun _=>b0 rfl),(mg_of X G a28),F29,(F29.binds fun _ _ _ _ _ _=>bS fun _=>b0 rfl),(mg_of X G a29),F30,(F30.binds fun _ _ _ _ _ _=>b0 rfl),(mg_of X G a30),F31,(F31.binds fun _ _ _ _ _ _=>bS fun _=>b0 rfl),(mg_of X G a31),F32,(F32.binds fun _ _ _ _ _ _=>bS fun _=>bS fun _=>bS fun _=>bS fun _=>b0 rfl),(mg_of X G a32),F33,(F33.binds fun _ _ _ _ _ _=>bS fun _=>bS fun _=>bS fun _=>b0 rfl),(mg_of X G a33),F34,(F34.binds fun _ _ _ _ _ _=>bS fun _=>bS fun _=>bS fun _=>bS fun _=>bS fun _=>b0 rfl),(mg_of X G a34),F35,(F35.binds fun _ _ _ _ _ _=>bS fun _=>b0 rfl),(mg_of X G a35),F36,(F36.binds fun _ _ _ _ _ _=>bS fun _=>b0 rfl),(mg_of X G a36),F37,(F37.binds fun _ _ _ _ _ _=>bS fun _=>b0 rfl),(mg_of X G a37),F38,(F38.binds fun _ _ _ _ _ _=>bS fun _=>b0 rfl),(mg_of X G a38),F39,(F39.binds fun _ _ _ _ _ _=>bS fun _=>bS fun _=>b0 rfl),(mg_of X G a39),F40,(F40.binds fun _ _ _ _ _ _=>bS fun _=>bS fun _=>b0 rfl),(mg_of X G a40),ZU,(ZU.binds fun _ _ _ _ _ _=>bS fun _=>b0 rfl),(mg_of X G a41),⟨WC,Ws,WD,WE⟩,(mg_of X G Wi),⟨xO,a5,i5,Ww⟩,rH,dW,dR,(mg_of X G v0),(mg_of X G v1),(mg_of X G v2),(fun H=>.inr ⟨_,_,_,u2,rfl,rfl,(by show 17<=sizeLine;decide),(.cons ⟨_,rfl⟩ (.cons ⟨_,rfl⟩ (.cons ⟨_,rfl⟩ (.cons ⟨_,rfl⟩ (.cons ⟨_,rfl⟩ (.cons ⟨_,rfl⟩ (.cons ⟨_,rfl⟩ (.cons ⟨_,rfl⟩ (.cons ⟨_,rfl⟩ (.cons ⟨_,rfl⟩ (.cons ⟨_,rfl⟩ (.cons ⟨_,rfl⟩ (.cons ⟨_,rfl⟩ (.cons ⟨_,rfl⟩ (.cons ⟨_,rfl⟩ (.cons ⟨_,rfl⟩ (.cons ⟨_,rfl⟩ .nil)))))))))))))))))⟩),(mg_of X G v3),(mg_of X G v4),(mg_of X G v5),(mg_of X G v6),(mg_of X G v7),(fun H=>.inr ⟨_,_,_,u7,rfl,rfl,(by show 5<=sizeLine;decide),(.cons ⟨_,rfl⟩ (.cons ⟨_,rfl⟩ (.cons ⟨_,rfl⟩ (.cons ⟨_,rfl⟩ (.cons ⟨_,rfl⟩ .nil)))))⟩),(mg_of X G Vl),Vq,Vp,(mg_of X G VF),VR,VP,(mg_of X G WW),Xg,(mg_of X G V5),Wb,Wa,(mg_of X G Wk),WK,WI,(mg_of X G VT),VZ,VY,(mg_of X G Wj),WJ,WH,(mg_of X G WX),Xh,Xf,(mg_of X G VE),VQ,VO,xne,(mg_none_of X G nY),(mg_none_of X G Lb),(mg_none_of X G CU),(mg_none_of X G gG),(mg_none_of X G kS),(mg_none_of X G Pr),(mg_none_of X G uB),(mg_none_of X G IJ),(mg_none_of X G uC)⟩;refine⟨d41,?_,fun base _ _=>OB T⟩;obtain⟨_,_,_,_,_,_,_,_,_,rfl,_⟩:=ZU.ex;exact fun s v=>.of_eq rfl
end
theorem walk{l:PySem.W.OpenLaw}{q:Program}{loose:List Str}{XP:(q0C)->Heap->Prop}{YP:World->Heap->Prop}{d:DefRec}{K:Params->q0B}(hn:l.most=some 63)(W0:d.params.defaults=[])
    (hY:∀(w:World) (h:Heap),YP w h->(K w.params).In h)
    (F:∀(w:World) (mg:q0C) (fa:Addr) (h:Heap),(K w.params).In h->h.Ns mainGlobals mg->mg d.name=some (.ref fa) ->
      ∃ fd:FuncData,(∀(s:Shared) (u:Value),BindsTo s fd ⟨[u],[]⟩ [("script",u)])/\∀ base:Heap,(K w.params).In base->base.Ns mainGlobals mg->bN l.prog w (K w.params) mg base UR 80 fa fd ["script"] (Ep (K w.params))) :
    PySem.W.WalkO q loose XP YP l.row.toRowW d [] (fun f vs=>PySem.call f vs) :=
  L2.KZ (n:=63) (k:=80) (x:="script") (CX:=fun _=>UR) (sp:=fun w=>Ep (K w.params)) hn (by decide) W0 ⟨rfl,by decide,by decide⟩ hY F (fun _ _ a ns hl _ hS=>⟨a,ns,rfl,hS,hl,fun _=>rfl⟩) fun _ _ _ _ _ z=>z
end Own
open PySem PySem.W PyProof.Rows
set_option maxRecDepth 100000 in
set_option maxHeartbeats 0 in
theorem PySem.Challenge.cw_outlast_k10_whole_one_text_one_program_holds : PySem.Challenge.rw_outlast_k10_whole_one_text_one_program.Holds := by
 w_on;o_law;z_head;(case hw=>w_witness2)
 k_fill
 refine Own.IE (fun _=>rfl) ?_;refine Own.walk (l:=PySem.Challenge.rw_outlast_k10_whole_one_text_one_program) rfl rfl (fun w h Y=>PySem.W.kIn_of Y) ?F
 case F =>
  intro w mg fa h KX G YN;apply Own.Mg KX G YN
  iterate 146 (first|(apply L2.N8<;>k_is)|k_is|(refine L2.SS (by k_exc) (by kernel_rfl) (by kernel_rfl) (by kernel_rfl) (by kernel_rfl))|kernel_rfl|decide)
