import PyProof.Rows.All
import Wide.All
import OpenK.AllK
import Wide.FinOn
import Lean
import PyProof.EqAt
import PyProof.EqKinds
import PyProof.TupleCall
import PySem.Challenge.RW_outlast_k34_whole_let_by_goes_on
set_option Elab.async false
set_option linter.all false
set_option maxRecDepth 100000
local macro_rules | `(tactic| omega) => `(tactic| first | assumption | lia | omega +splitDisjunctions)
namespace PySem.W.Fast
def tw17287525244346708962:=0
def tw10407029350499688332:=0
def tw2891951499506515308:=0
def tw8037886956554662672:=0
def tw11215018045080366410:=0
def tw1012767627481969400:=0
def tw433607118451654129:=0
def tw4644911477152649114:=0
def tw808774364440188614:=0
def tw9392579742216155689:=0
def tw9249472759632564309:=0
def tw8187678398055646839:=0
def tw3039815557019410704:=0
def tw14803391533459837224:=0
def tw9222359065755785131:=0
def tw10486742597304314567:=0
def tw3241691536801329431:=0
def tw17889974542212845022:=0
def tw10339115091246019372:=0
def tw13586589612595095622:=0
def tw1551885775648084187:=0
def tw11017706716572515212:=0
def tw17934198786348967915:=0
def tw16808467359827763374:=0
def tw4910794201680770819:=0
def tw5116440341794744180:=0
def tw6782315171306337315:=0
def tw17446037940543406593:=0
def tw6707191081518869320:=0
def tw8745894877081525887:=0
def tw10321599141188663612:=0
def tw1608359306505998887:=0
def tw12002802771200022299:=0
def tw672121411609167204:=0
def tw570296662274427418:=0
def tw16270723625826298275:=0
def tw13187541883862487567:=0
def tw16435890484995170286:=0
def tw13685781942051422560:=0
def tw7550418501101687906:=0
def tw17987110962861141363:=0
def tw12819853524534656989:=0
def tw2421185435713019570:=0
def tw8442349467172743466:=0
def tw572374866306832667:=0
def tw15749727740070088453:=0
def tw9983034615540713901:=0
def tw8365508349103082218:=0
def tw4746120288906763718:=0
def tw12416131937369085409:=0
def tw11922615962775174359:=0
def tw7929499411005702816:=0
def tw2447798537154465719:=0
def tw15441818094835821526:=0
def tw6160952405441173328:=0
def tw3973094915445873574:=0
def tw1740100010994248489:=0
def tw2638664387703729428:=0
def tw12622288447388819378:=0
def tw3935234849365351512:=0
def tw2624195131213335620:=0
def tw13579226328805792860:=0
def tw9156695500134355952:=0
def tw13464595878220768580:=0
def tw5555309438187076300:=0
def tw18295742540278157947:=0
def tw13348514688482253326:=0
def tw2835927488364174559:=0
def tw2720194037029316195:=0
def tw9909017834904909268:=0
def tw17279322319789843898:=0
def tw7170039064945034818:=0
def tw346430300136718149:=0
def tw6337670325374605838:=0
def tw12021583865699766706:=0
def tw927917270262952700:=0
def tw17869318043662361778:=0
def tw17701077857719347098:=0
def tw12826287322783379395:=0
def tw8391030330473106483:=0
def tw504559511123758086:=0
def tw10563644257797717577:=0
def tw26512975662938385:=0
def tw5986946161055384762:=0
def tw5977306265806926929:=0
def tw7124561843786134781:=0
def tw8454845197082379750:=0
def tw9089045840330408806:=0
def tw3414262077923367819:=0
def tw14155716423284972697:=0
def tw17473583427367609472:=0
def tw4682364555165047012:=0
def tw14556086048783166911:=0
def tw11741475549825599486:=0
def tw11027890919320278157:=0
def tw14789204584489983068:=0
def tw15308064161830306655:=0
def tw17182189103983162027:=0
def tw1066442805823684634:=0
def tw17356570625492285349:=0
def tw3013057206271105981:=0
def tw7435624888916493975:=0
def tw16896932735472535927:=0
def tw13779286375792504828:=0
def tw13452810236660457423:=0
def tw13317441138400717563:=0
def tw4069024972849301664:=0
def tw16426698538266640794:=0
def tw8378398495557872999:=0
def tw7973213676833197455:=0
def tw5820325466992427340:=0
def tw17613045184321161239:=0
def tw8347031777830682453:=0
def tw862532429371505718:=0
def tw16319639930863551315:=0
def tw16082109586868635112:=0
def tw16276459290435502942:=0
def tw6441315787899004394:=0
def tw11272034317061987575:=0
def tw6980730440551632860:=0
def tw12326538610166146987:=0
def tw10261177420217323718:=0
def tw721857449995868582:=0
def tw11102723748550857166:=0
def tw11323441831653811650:=0
def tw17249179523567270073:=0
def tw1804611246745399874:=0
def tw17907113213455712075:=0
def tw12651611434314262848:=0
def tw9971878437409797553:=0
def tw7416717316302939830:=0
def tw5117990856031684844:=0
def tw12435454879786611636:=0
def tw16189474066253486939:=0
def tw3544480761713464643:=0
def tw15469257942325144633:=0
def tw10638193296032318067:=0
def tw2078000590863356779:=0
def tw425554883345641156:=0
def tw9926721650204184272:=0
def tw5292630494113288562:=0
def tw7054823548482494146:=0
def tw13650833780302353209:=0
def tw7649171030346123789:=0
def tw12674235526229787264:=0
def tw5299236640290672611:=0
def tw6400201418876069776:=0
def tw6458713133344816119:=0
def tw7842829634679779215:=0
def tw15936788712885711843:=0
def tw13976531232179983654:=0
def tw4699451980544788896:=0
def tw18420161758173264315:=0
def tw13870235653777720164:=0
def tw9001939761107791873:=0
def tw15242887941017111558:=0
def tw17546311659740885967:=0
def tw17185718658397006420:=0
def tw3479354712588309624:=0
def tw11858369182493449270:=0
def tw2992556461095009470:=0
def tw8085766208369712131:=0
def tw12781668851633941880:=0
def tw12939409800564267227:=0
def tw15207651343367617685:=0
def tw2666436103283080696:=0
def tw14105430972049674263:=0
def tw17400310311229988531:=0
def tw17564517907066342546:=0
def tw9809234735244414374:=0
def tw2968010945175111543:=0
def tw14780846174834859544:=0
def tw2225864865704359209:=0
def tw463181709675149465:=0
def tw10688054835159463080:=0
def tw8629858163581025915:=0
def tw14717152877002589665:=0
def tw11365249633696822275:=0
def tw4073945995573320713:=0
def tw14835729545325900019:=0
def tw7060188351813581729:=0
def tw3048132607493235886:=0
def tw10912782030889343772:=0
def tw18291224090906267880:=0
def tw9837681900592081206:=0
def tw6646633749782541033:=0
def tw9921780983559570729:=0
def tw14282889777390727250:=0
def tw12373473003151432133:=0
def tw8100391032522801043:=0
def tw10476051349918324806:=0
def tw4863217026416134461:=0
def tw16090145195040028576:=0
def tw5169778863538662960:=0
def tw7493271196723308893:=0
def tw456786464347084128:=0
def tw11491405385942488757:=0
def tw12398318950869878460:=0
def tw9916549377593163972:=0
def tw9588325460392380066:=0
def tw8529622602662268211:=0
def tw7097801585696245311:=0
def tw18344375082134685786:=0
def tw10518289164113542447:=0
def tw15998963342485110521:=0
def tw9016595884071704867:=0
def tw6026349739045089253:=0
def tw16099243618618857223:=0
def tw7381448166877652705:=0
def tw725547188631850351:=0
def tw2302023133072253322:=0
def tw5858905783566955318:=0
def tw15605016882221597703:=0
def tw7733674553686747553:=0
def tw4580983442635957269:=0
def tw14370233517067260122:=0
def tw13093730966337559352:=0
def tw8585049181621536486:=0
def tw6427830457114950572:=0
def tw5023037226893463214:=0
def tw13704791954236787190:=0
def tw11825524414816066282:=0
def tw7690541773090030637:=0
def tw4291813567764232334:=0
def tw9153826623536145500:=0
def tw15584471258246796769:=0
def tw10593227040588685601:=0
def tw9432399297072029949:=0
def tw297350160386912059:=0
def tw9146998286945323119:=0
def tw2594035500668588529:=0
def tw16851748446583285803:=0
def tw13012917633622121069:=0
def tw10804105253851146588:=0
def tw617054250084321508:=0
def tw630747187210569053:=0
def tw16990268472143493205:=0
def tw15026537624210219424:=0
def tw13535663442007137575:=0
def tw3976538120072263193:=0
def tw3026470934292125276:=0
def tw16237189550823716675:=0
def tw8925997512543153151:=0
def tw8539292196236830948:=0
def tw8113695596180419035:=0
def tw16102028179420999266:=0
def tw7577510176579863510:=0
def tw5435900576113463235:=0
def tw9186152513868798027:=0
def tw6427654162866397566:=0
def tw18135858621889274164:=0
def tw14214688546982468158:=0
def tw12995065386803768193:=0
def tw12920578658035037875:=0
def tw10927043792050564837:=0
def tw8840149104562864037:=0
def tw7089893019059519234:=0
def tw13567036824018879120:=0
def tw14104164215167429318:=0
def tw13174037443516305441:=0
def tw5124848314981778696:=0
def tw13857969974519422280:=0
def tw13398292417644607613:=0
def tw2782349649440553095:=0
def tw17009844281684173224:=0
def tw800257791750308866:=0
def tw3356118402736444170:=0
def tw12606817738795299069:=0
def tw11379363545516493237:=0
def tw4450036998292340639:=0
def tw955828191882578529:=0
def tw10537082504161898778:=0
def tw9977352854797853124:=0
def tw1263633371197177756:=0
def tw9788431580483381044:=0
def tw3865517115884206417:=0
def tw13680446298237897936:=0
def tw7877690925215423518:=0
def tw2492443294214291136:=0
def tw9051080020195076309:=0
def tw8645069136909832048:=0
def tw17712100652288259153:=0
def tw2041192866081591137:=0
def tw1905066013818892038:=0
def tw15489192082315167714:=0
def tw12181809291299394886:=0
def tw5802564749738006032:=0
def tw16764439374128477791:=0
def tw1904601467274840628:=0
def tw14518543666742804957:=0
def tw17234499700165405494:=0
def tw6138529393020818483:=0
def tw7150547007783389983:=0
def tw15220626783708508485:=0
def tw12131696699799904571:=0
def tw1777698491741429295:=0
def tw10728279261020869642:=0
def tw6236840626665457941:=0
def tw10948134520776574419:=0
def tw547878790249588199:=0
def tw3470868558002788678:=0
def tw1587497528796973055:=0
def tw16703683897358539237:=0
def tw7417812811633893713:=0
def tw17436628072603543791:=0
def tw16864634281796299853:=0
def tw15308261837064333074:=0
def tw9414077065784070709:=0
def tw14531153963135370518:=0
def tw10903656202818282699:=0
def tw10769364742381169870:=0
def tw5624329728649259180:=0
def tw16921697942423391989:=0
def tw15498565685661312259:=0
def tw4769540381259427643:=0
def tw11151339997213629268:=0
def tw9454615259543085402:=0
def tw9175289972639212784:=0
def tw17290148344765698331:=0
def tw2168658840841624254:=0
def tw14566313750393364298:=0
def tw7221336348778378605:=0
def tw16721092749199081971:=0
def tw11378894118972627506:=0
def tw8832615928420171452:=0
def tw18199860904888978210:=0
def tw11928795362260118673:=0
def tw16699733996976538224:=0
def tw1034852038763492750:=0
def tw97675305042993157:=0
def tw9226694212842872871:=0
def tw622662627071889552:=0
def tw3816662075411077086:=0
def tw2874597011162948088:=0
def tw2683756175231667432:=0
def tw17826068272504887825:=0
def tw16680110095211073112:=0
def tw15125291642336032979:=0
def tw14596029669320430602:=0
def tw12470656353175746929:=0
def tw10592488808890090908:=0
def tw10266746577831026446:=0
def tw2256968250791867712:=0
def tw4065005301580586557:=0
def tw18421526201339776715:=0
def tw8628999433892513746:=0
def tw5241292450974363376:=0
def tw17205717743359758951:=0
def tw13041268345821473222:=0
def tw9444634007405412926:=0
def tw6249475257700561726:=0
def tw18171094818358400562:=0
def tw163291887264024365:=0
def tw10076999532812913441:=0
def tw100714838507896217:=0
def tw9853800966683422967:=0
def tw9840502769500380433:=0
def tw9527775157131735953:=0
def tw9434308588787631790:=0
def tw9372528192717607949:=0
def tw9319514551123122965:=0
def tw9253771243004214143:=0
def tw8750533468293070883:=0
def tw8600186642137511293:=0
def tw8503626828415493449:=0
def tw8441934609175808002:=0
def tw840352544579658967:=0
def tw8390475780731742548:=0
def tw8249055467232550162:=0
def tw8203148299201700568:=0
def tw8190619891579266971:=0
def tw8188710565128947235:=0
def tw81370444829612639:=0
def tw8074012519247503296:=0
def tw7918335318022257031:=0
def tw7901121865708552371:=0
def tw7729890271780789014:=0
def tw7688129921492827307:=0
def tw7623941645901001100:=0
def tw7069287677010515223:=0
def tw706249834885840841:=0
def tw6638922982940561999:=0
def tw5920649465855483627:=0
def tw5771214180388965082:=0
def tw5749521904602563618:=0
def tw5670762193118962247:=0
def tw5422948258535120014:=0
def tw5375828897034570920:=0
def tw5368395377529453533:=0
def tw5339191146259118623:=0
def tw5265672250106615434:=0
def tw5166731109230640725:=0
def tw5142339747727254444:=0
def tw4987020425867241267:=0
def tw4955907374127210644:=0
def tw4936229955189188774:=0
def tw4750718124646410882:=0
def tw4734609685361688109:=0
def tw4725345699966779739:=0
def tw472128468865400821:=0
end PySem.W.Fast
abbrev q0A:=PySem.Value->PySem.Shared->Prop
abbrev q0B:=PySem.W.Frag
abbrev q0C:=PySem.Str->Option PySem.Value
namespace L2
open PySem PySem.Spec PyProof.Rows
inductive Key where
 | inl (i:Int)|inr (x:Str)|no
 deriving DecidableEq
noncomputable def B6:Key->Value->Bool
 | .inl k,v=>Value.isInt k v
 | .inr x,v=>Value.isStrOf x v
 | .no,.none=>true
 | .no,_=>false
noncomputable def YF(w:World):Key->Int
 | .inl k=>hashInt k
 | .inr x=>hashStr w x
 | .no=>reduceHash 0xFCA86420
theorem eE:∀ {k:Key} {v:Value},B6 k v=true->(∃ i t,k=Key.inl i/\v=Value.int i t)\/(∃ x t,k=Key.inr x/\v=Value.str x t)\/(k=Key.no/\v=Value.none)
 | .inl i,v,h=>by
  obtain⟨t,e⟩:=Value.isInt_shape (k:=i) (v:=v) h;exact .inl ⟨i,t,rfl,e⟩
 | .inr x,v,h=>by
  obtain⟨t,e⟩:=Value.isStrOf_shape (x:=x) (v:=v) h;exact .inr (.inl ⟨x,t,rfl,e⟩)
 | .no,v,h=>by
  cases v<;>first|exact .inr (.inr ⟨rfl,rfl⟩)|cases h
theorem IE(i:Int)(t:Tok):B6 (.inl i) (.int i t)=true:=by simp[B6,Value.isInt]
theorem IF(x:Str)(t:Tok):B6 (.inr x) (.str x t)=true:=by simp[B6,Value.isStrOf]
theorem Tj(a b:Int):decide (Key.inl a=Key.inl b)=(a==b):=by
 by_cases e:a=b
 ·subst e;simp
 ·have h:¬ Key.inl a=Key.inl b:=fun q=>e (Key.inl.inj q);rw[decide_eq_false h];exact(beq_eq_false_iff_ne.mpr e).symm
theorem Tn(a b:Str):decide (Key.inr a=Key.inr b)=decide (a=b):=by
 by_cases e:a=b
 ·subst e;simp
 ·have h:¬ Key.inr a=Key.inr b:=fun q=>e (Key.inr.inj q);rw[decide_eq_false h,decide_eq_false e]
noncomputable def bU(prog:Program)(w:World):PySem.KeyKind prog w Key where
 is:=B6
 hash:=YF w
 inj:=fun v a b ha hb=>by
  rcases eE ha with⟨i,t,rfl,rfl⟩|⟨x,t,rfl,rfl⟩|⟨rfl,rfl⟩<;>rcases eE hb with⟨j,u,rfl,e⟩|⟨y,u,rfl,e⟩|⟨rfl,e⟩ <;>
   first|rfl|(cases e<;>rfl)
 byValue:=fun k v h=>by
  rcases eE h with⟨i,t,rfl,rfl⟩|⟨x,t,rfl,rfl⟩|⟨rfl,rfl⟩<;>rfl
 pyHash:=fun hv h=>by
  rcases eE hv with⟨i,t,rfl,rfl⟩|⟨x,t,rfl,rfl⟩|⟨rfl,rfl⟩
  ·exact wpAny_pyHash_int h
  ·exact wpAny_pyHash_str h
  ·exact PySem.W.pyHash_slot (T:="NoneType") rfl F.slot_NoneType_hash F.entry_NoneType_hash (F.args_NoneType_hash_1 _) (beq_builtin_none _) (.inl rfl) (wpAny_bind (wpAny_pure (wpAny_bind (wpAny_mkInt (wpAny_pure ⟨_,_,rfl,h⟩)))))
 eqBool:=fun hu hv h=>by
  rcases eE hu with⟨i,t,rfl,rfl⟩|⟨x,t,rfl,rfl⟩|⟨rfl,rfl⟩<;>rcases eE hv with⟨j,u,rfl,rfl⟩|⟨y,u,rfl,rfl⟩|⟨rfl,rfl⟩
  ·rw[Tj] at h;exact wpAny_eqBool_int h
  ·exact SeqAt.EqAt.int_str i t y u _ _ _ _ h
  ·exact SeqAt.EqAt.int_none i t _ _ _ _ h
  ·exact SeqAt.EqAt.str_int x t j u _ _ _ _ h
  ·rw[Tn] at h;exact wpAny_eqBool_str h
  ·exact SeqAt.EqAt.str_none x t _ _ _ _ h
  ·exact SeqAt.EqAt.none_int j u _ _ _ _ h
  ·exact SeqAt.EqAt.none_str y u _ _ _ _ h
  ·exact SeqAt.EqAt.same .none _ _ _ _ h
 «strs»:=fun k x t v h=>by
  rcases eE h with⟨i,u,rfl,e⟩|⟨y,u,rfl,e⟩|⟨rfl,e⟩
  ·exact nomatch e
  ·injection e with e1 _
   subst e1;cases v<;>rfl
  ·exact nomatch e
theorem Eo(prog:Program)(w:World)(i:Int)(t:Tok):(bU prog w).is (.inl i) (.int i t)=true:=IE i t
theorem wD(prog:Program)(w:World)(x:Str)(t:Tok):(bU prog w).is (.inr x) (.str x t)=true:=IF x t
inductive V where
 | Zj|bl (b:Bool)|int (i:Int)|str (x:Str)|byt (b:Array UInt8)|flt (b:UInt64)|ref (a:Addr)|ty (n:String)
 deriving DecidableEq
noncomputable def bH:V->Value->Prop
 | .Zj,u=>u=Value.none
 | .bl b,u=>u=Value.bool b
 | .int i,u=>∃ t,u=Value.int i t
 | .str x,u=>∃ t,u=Value.str x t
 | .byt b,u=>∃ t,u=Value.bytes b t
 | .flt b,u=>∃ t,u=Value.float b t
 | .ref a,u=>u=Value.ref a
 | .ty n,u=>u=Value.type n
noncomputable abbrev Vals:List V->List Value->Prop:=Paired bH
theorem Vals.length{xs:List V}{us:List Value}(r:Vals xs us):xs.length=us.length:=Paired.length r
theorem Vals.get:∀ {xs:List V} {us:List Value} {i:Nat} {x:V},Vals xs us->xs[i]?=some x->∃ u,us[i]?=some u/\bH x u
 | _,_,_,_,.nil,e=>by simp at e
 | _,_,0,_,.cons r _,e=>by simp at e;subst e;exact⟨_,rfl,r⟩
 | _,_,i+1,x,.cons _ t,e=>by
  obtain⟨u,h1,h2⟩:=Vals.get (i:=i) (x:=x) t (by simpa using e);exact⟨u,by simpa using h1,h2⟩
theorem Vals.set{x:V}{u:Value}(r:bH x u):∀ {xs:List V} {us:List Value} (i:Nat),Vals xs us->Vals (xs.set i x) (us.set i u)
 | _,_,_,.nil=>.nil
 | _,_,0,.cons _ t=>.cons r t
 | _,_,i+1,.cons q t=>.cons q (Vals.set r i t)
theorem Vals.append{xs ys:List V}{us ws:List Value}(h:Vals xs us)(s:Vals ys ws):Vals (xs++ys) (us++ws):=by
 induction h with
 | nil=>exact s
 | cons r _ ih=>exact .cons r ih
theorem Vals.take:∀ {xs:List V} {us:List Value} (n:Nat),Vals xs us->Vals (xs.take n) (us.take n)
 | _,_,0,_=>.nil
 | _,_,_+1,.nil=>.nil
 | _,_,n+1,.cons r t=>.cons r (Vals.take n t)
theorem Vals.drop:∀ {xs:List V} {us:List Value} (n:Nat),Vals xs us->Vals (xs.drop n) (us.drop n)
 | _,_,0,r=>r
 | _,_,_+1,.nil=>.nil
 | _,_,n+1,.cons _ t=>Vals.drop n t
theorem Vals.none_of:∀ {xs:List V} {us:List Value} {i:Nat},Vals xs us->xs[i]?=none->us[i]?=none:=fun {xs us i} r e=>by
 have h1:=r.length;have h2:xs.length<=i:=List.getElem?_eq_none_iff.mp e;exact List.getElem?_eq_none_iff.mpr (by omega)
noncomputable def lU:Option V->Option Value->Prop
 | some v,some u=>bH v u
 | none,none=>True
 | _,_=>False
noncomputable def KV{κ:Type}:List (κ×V)->List (κ×Value)->Prop:=Paired fun(p:κ×V) (q:κ×Value)=>p.1=q.1/\bH p.2 q.2
noncomputable def kV:Key->V
 | .inl i=>.int i
 | .inr x=>.str x
 | .no=>.Zj
inductive HO where
 /-- a list -/
 | lst (xs:List V)
 /-- a tuple (never changes) -/
 | tup (xs:List V)
 /-- a dict whose keys are ints and texts;one whose keys are tuples of ints and texts (the empty one is both) -/
 | dK (kvs:List (Key×V))|dT (kvs:List (List Key×V))
 /-- a set of ints: Zk members,Zk size -/
 | set (S:Int->Bool) (n:Nat)
 /-- an instance of the class at C,Zk dict at dx,Zk attributes -/
 | ins (C dx:Addr) (fs:List (Str×V))
 /-- the dict of the instance at x -/
 | own (x:Addr)
 /-- the dict of an exception -/
 | xd (fs:List (Str×V))
 /-- a bound method,f of x -/
 | met (f x:Addr)
 /-- a range object lo,lo+1,.. below hi -/
 | rng (lo hi:Int)
 /-- a thing that is known to the object (the script;a dict while a loop walks it): read,never written while it is so -/
 | ZF (o:Obj) (u:HO)
 /-- a code object's table -/
 | tbl (ps:Array Value)
 /-- any other thing,by what is true of Zk one object (a def of adF own: SetO a S n:=HO.ext fun h=>..) -/
 | ext (φ:Heap->Prop)
noncomputable abbrev Hp:=Addr->Option HO
noncomputable def Zh(H:Hp)(a:Addr)(o:HO):Hp:=fun b=>if b=a then some o else H b
theorem aA{H:Hp}{a:Addr}{o:HO}:Zh H a o a=some o:=by unfold Zh;rw[if_pos rfl]
theorem aG{H:Hp}{a b:Addr}{o:HO}(h:b≠a):Zh H a o b=H b:=by unfold Zh;rw[if_neg h]
theorem dZ{H:Hp}{a b:Addr}{o u:HO}(h:H a=some o)(h':H b=some u)(d:o≠u):a≠b:=by
 intro e;subst e;rw[h] at h';exact d (Option.some.inj h')
theorem aK{H:Hp}{a b:Addr}{o:HO}(h:H a=some o)(h':H b=none):a≠b:=by
 intro e;subst e;rw[h] at h';cases h'
section
variable (P:Program) (w:World)
noncomputable def dJ(H:Hp)(h:Heap)(a:Addr):HO->Prop
  | .lst xs=>xs.length<=sizeLine/\∃(Zk:List Value) (n:Nat),Vals xs Zk/\h.get? a=some {cls:=.type "list",data:=.seq Zk.toArray n}
  | .tup xs=>xs.length<=sizeLine/\∃ Zk:List Value,Vals xs Zk/\IsTup h a Zk.toArray
  | .dK kvs=>kvs.length<=sizeLine/\(a==sysModules)=false/\∃ vs,KV kvs vs/\h.DictOf (bU P w) a vs
  | .dT kvs=>kvs.length<=sizeLine/\(a==sysModules)=false/\∃ xs:List (List Key×Addr×Value),
      Paired (fun(p:List Key×V) (q:List Key×Addr×Value)=>p.1=q.1/\H q.2.1=some (.tup (p.1.map kV))/\bH p.2 q.2.2) kvs xs /\
      ∃ o es ep,h.get? a=some o/\o.ExactDict/\o.data=.dict es ep/\es.toList=xs.map (entryOfKey (tupleKind (bU P w)))/\(xs.map (·.1)).Nodup
  | .set S n=>h.SetOf (intKind P w) a S n
  | .ins C dx fs=>H dx=some (.own a)/\fs.length<=1000/\dx≠a/\h.get? a=some (PySem.W.instObj C dx) /\
      ∃ mA,h.Ns1 dx mA/\(∀ f,lU (fs.lookup f) (mA f))/\PySem.Within mA (fs.map (·.1))
  | .own _=>∃ o,h.get? a=some o
  | .xd fs=>∃ mA,h.Ns1 a mA/\∀ f,lU (fs.lookup f) (mA f)
  | .rng lo hi=>∃ t u v,h.get? a=some {cls:=.type "range",data:=.fields #[.int lo t,.int hi u,.int 1 v]}
  | .ZF o u=>h.get? a=some o/\dJ H h a u
  | .tbl ps=>h.get? a=some {cls:=.none,data:=.fields ps}
  | .met f x=>h.get? a=some (PySem.W.methodObj (.ref f) (.ref x))
  | .ext φ=>φ h/\(∃ o,h.get? a=some o)/\∀ h1 h2:Heap,φ h1->(∀ o,h1.get? a=some o->h2.get? a=some o)->φ h2
noncomputable def HOk(H:Hp)(h:Heap):Prop:=∀ a o,H a=some o->dJ P w H h a o
end
section
variable {P:Program} {w:World} {H H':Hp} {h h':Heap} {a:Addr} {o:HO}
theorem dJ.lt(x:dJ P w H h a o):a < h.objs.size:=by
 cases o with
 | lst xs=>obtain⟨_,_,_,_,e⟩:=x;exact Heap.lt_size e
 | tup xs=>obtain⟨_,_,_,p⟩:=x;exact p.lt
 | dK kvs=>obtain⟨_,_,_,_,o,_,_,e,_⟩:=x;exact Heap.lt_size e
 | dT kvs=>obtain⟨_,_,_,_,o,_,_,e,_⟩:=x;exact Heap.lt_size e
 | set S n=>obtain⟨o,_,_,_,e,_⟩:=x;exact Heap.lt_size e
 | ins C dx fs=>obtain⟨_,_,_,e,_⟩:=x;exact Heap.lt_size e
 | own y=>obtain⟨_,e⟩:=x;exact Heap.lt_size e
 | xd fs=>obtain⟨_,⟨_,_,_,e,_⟩,_⟩:=x;exact Heap.lt_size e
 | rng lo hi=>obtain⟨_,_,_,e⟩:=x;exact Heap.lt_size e
 | ZF ob u=>obtain⟨e,_⟩:=x;exact Heap.lt_size e
 | tbl ps=>exact Heap.lt_size (show h.get? a=some _ from x)
 | met f y=>exact Heap.lt_size (show h.get? a=some _ from x)
 | ext φ=>obtain⟨_,⟨_,e⟩,_⟩:=x;exact Heap.lt_size e
theorem Paired.Tt{α β:Type}{F G:α->β->Prop}:∀ {l₁:List α} {l₂:List β},Paired F l₁ l₂->(∀ a b,F a b->G a b)->Paired G l₁ l₂
 | _,_,.nil,_=>.nil
 | _,_,.cons r t,f=>.cons (f _ _ r) (Paired.Tt t f)
theorem dJ.tM(x:dJ P w H h a o)(k:∀ b u,(b=a\/H b=some (.own a))->h.get? b=some u->h'.get? b=some u)
    (ho:∀ b,H b=some (.own a)->H' b=some (.own a)) (ht:∀ b xs,H b=some (.tup xs)->H' b=some (.tup xs)):dJ P w H' h' a o:=by
  induction o with
  | lst xs=>obtain⟨z,Zk,n,r,e⟩:=x;exact⟨z,Zk,n,r,k _ _ (.inl rfl) e⟩
  | tup xs=>obtain⟨z,Zk,r,ob,e,c⟩:=x;exact⟨z,Zk,r,ob,k _ _ (.inl rfl) e,c⟩
  | dK kvs=>obtain⟨z,y,vs,r,ob,es,ep,e,c⟩:=x;exact⟨z,y,vs,r,ob,es,ep,k _ _ (.inl rfl) e,c⟩
  | dT kvs =>
    obtain⟨z,y,xs,r,ob,es,ep,e,c⟩:=x;exact⟨z,y,xs,Paired.Tt r fun p q z=>⟨z.1,ht _ _ z.2.1,z.2.2⟩,ob,es,ep,k _ _ (.inl rfl) e,c⟩
  | set S n=>obtain⟨ob,es,ep,t,e,c⟩:=x;exact⟨ob,es,ep,t,k _ _ (.inl rfl) e,c⟩
  | ins C dx fs =>
    obtain⟨d,z,ne,e,mA,⟨od,es,ep,e2,c⟩,r⟩:=x;exact⟨ho _ d,z,ne,k _ _ (.inl rfl) e,mA,⟨od,es,ep,k _ _ (.inr d) e2,c⟩,r⟩
  | own y=>obtain⟨ob,e⟩:=x;exact⟨ob,k _ _ (.inl rfl) e⟩
  | xd fs=>obtain⟨mA,⟨od,es,ep,e,c⟩,r⟩:=x;exact⟨mA,⟨od,es,ep,k _ _ (.inl rfl) e,c⟩,r⟩
  | rng lo hi=>obtain⟨t,u,v,e⟩:=x;exact⟨t,u,v,k _ _ (.inl rfl) e⟩
  | ZF ob u ih=>obtain⟨e,q⟩:=x;exact⟨k _ _ (.inl rfl) e,ih q⟩
  | tbl ps =>
    have e:h.get? a=some {cls:=.none,data:=.fields ps}:=x;show h'.get? a=some {cls:=.none,data:=.fields ps};exact k a _ (.inl rfl) e
  | met f y =>
    have e:h.get? a=some (PySem.W.methodObj (.ref f) (.ref y)):=x;show h'.get? a=some (PySem.W.methodObj (.ref f) (.ref y));exact k a _ (.inl rfl) e
  | ext φ=>obtain⟨p,⟨o,e⟩,st⟩:=x;exact⟨st _ _ p fun o q=>k _ _ (.inl rfl) q,⟨o,k _ _ (.inl rfl) e⟩,st⟩
theorem HOk.lt(x:HOk P w H h)(e:H a=some o):a < h.objs.size:=(x a o e).lt
theorem HOk.fresh(x:HOk P w H h)(e:h.objs.size<=a):H a=none:=by
 cases q:H a with
 | none=>rfl
 | some u=>exact absurd (Nat.lt_of_lt_of_le (x.lt q) e) (Nat.lt_irrefl _)
theorem HOk.kept(x:HOk P w H h)(k:∀ b u,h.get? b=some u->h'.get? b=some u):HOk P w H h':=fun a o e =>
 (x a o e).tM (fun b u _ q=>k b u q) (fun _ q=>q) fun _ _ q=>q
theorem HOk.laid(x:HOk P w H h)(k:∀ b u,h.get? b=some u->h'.get? b=some u)(hp:h.objs.size<=a)(new:dJ P w (Zh H a o) h' a o):HOk P w (Zh H a o) h':=fun b u e=>by
 have hn:=x.fresh hp;by_cases hb:b=a
 ·subst hb;rw[aA] at e;cases e;exact new
 ·rw[aG hb] at e;exact(x b u e).tM (fun c v _ q=>k c v q) (fun c q=>by rw[aG (aK q hn)];exact q) fun c xs q=>by rw[aG (aK q hn)];exact q
end
noncomputable def Rd(H:Hp)(a:Addr)(u:HO):Prop:=H a=some u\/∃ o,H a=some (.ZF o u)
theorem Rd.of{H:Hp}{a:Addr}{u:HO}(h:H a=some u):Rd H a u:=.inl h
theorem Rd.ok{P:Program}{w:World}{H:Hp}{h:Heap}{a:Addr}{u:HO}(r:Rd H a u)(x:HOk P w H h):dJ P w H h a u:=by
 rcases r with r|⟨o,r⟩
 ·exact x a u r
 ·obtain⟨_,q⟩:=x a _ r;exact q
noncomputable def Mut:Option HO->Prop
 | some (.lst _)=>True
 | some (.dK _)=>True
 | some (.dT _)=>True
 | some (.set _ _)=>True
 | some (.ins _ _ _)=>True
 | some (.ext _)=>True
 | _=>False
section
variable {P:Program} {w:World} {H:Hp} {h h':Heap} {x e:Addr} {o':HO}
theorem HOk.write(ok:HOk P w H h)(mu:Mut (H x))(he:e=x\/H e=some (.own x))(k:∀ b u,b≠e->h.get? b=some u->h'.get? b=some u)(heo:∃ u,h'.get? e=some u)
    (new:dJ P w (Zh H x o') h' x o'):HOk P w (Zh H x o') h':=fun b u q=>by
  have acC:∀ c y,H c=some (.own y)->c≠x:=fun c y r z=>by subst z;rw[r] at mu;exact mu
  have ac3:∀ c xs,H c=some (.tup xs)->c≠x:=fun c xs r z=>by subst z;rw[r] at mu;exact mu
  by_cases hb:b=x
  · subst hb;rw[aA] at q;cases q;exact new
  · rw[aG hb] at q;by_cases hbe:b=e
    · have q':H b=some (.own x):=by
        rcases he with z|z
        · exact absurd (hbe.trans z) hb
        · rw[hbe];exact z
      rw[q] at q';cases q';obtain⟨v,hv⟩:=heo;exact⟨v,by rw[hbe];exact hv⟩
    · refine(ok b u q).tM (fun c v hc r=>k c v ?_ r) (fun c r=>by rw[aG (acC c b r)];exact r) fun c xs r=>by rw[aG (ac3 c xs r)];exact r
      rcases hc with rfl|hc
      · exact hbe
      · rintro rfl;rcases he with z|z
        · exact acC c b hc z
        · rw[hc] at z;cases z;exact hb rfl
end
structure Un(fs ex:List Addr)(H H':Hp)(h h':Heap):Prop where
 keep:∀ b o,h.get? b=some o->H b=none->b∉fs->b∉ex->h'.get? b=some o
 slot:∀ b o,h.get? b=some o->H b=none->b∈fs->b∉ex->∃ sl,h'.get? b=some {o with slots:=sl}
 free:∀ b o,h.get? b=some o->H b=none->b∉ex->H' b=none
 there:∀ b o,h.get? b=some o->b∉ex->∃ o',h'.get? b=some o'
 tO:∀ b xs,H b=some (.tup xs)->H' b=some (.tup xs)
 qS:∀ b o u,H b=some (.ZF o u)->H' b=some (.ZF o u)
 tN:∀ b ps,H b=some (.tbl ps)->∃ more,H' b=some (.tbl (ps++more))
section
variable {fs fs' ex ex':List Addr} {H H1 H2:Hp} {h h1 h2 h':Heap} {a x e:Addr} {o:HO}
theorem Un.any(u:Un fs ex H H1 h h1){b:Addr}{ob:Obj}(q:h.get? b=some ob)(n:H b=none)(hx:b∉ex):∃ sl,h1.get? b=some {ob with slots:=sl}:=by
 by_cases hb:b∈fs
 ·exact u.slot b ob q n hb hx
 ·exact⟨ob.slots,u.keep b ob q n hb hx⟩
theorem Un.trans(a:Un fs ex H H1 h h1)(b:Un fs ex H1 H2 h1 h2):Un fs ex H H2 h h2 where
 keep:=fun c ob q n hc hx=>b.keep c ob (a.keep c ob q n hc hx) (a.free c ob q n hx) hc hx
 slot:=fun c ob q n hc hx=>by
  obtain⟨sl,e1⟩:=a.slot c ob q n hc hx;obtain⟨Zz,e2⟩:=b.slot c _ e1 (a.free c ob q n hx) hc hx;exact⟨Zz,e2⟩
 free:=fun c ob q n hx=>by
  obtain⟨o',e1⟩:=a.there c ob q hx;exact b.free c o' e1 (a.free c ob q n hx) hx
 there:=fun c ob q hx=>by
  obtain⟨o',e1⟩:=a.there c ob q hx;exact b.there c o' e1 hx
 tO:=fun c xs q=>b.tO c xs (a.tO c xs q)
 qS:=fun c ob xs q=>b.qS c ob xs (a.qS c ob xs q)
 tN:=fun c ps q=>by
  obtain⟨m1,e1⟩:=a.tN c ps q;obtain⟨m2,e2⟩:=b.tN c _ e1;exact⟨m1++m2,by rw[e2,Array.append_assoc]⟩
theorem Un.kept(k:∀ b u,h.get? b=some u->h'.get? b=some u):Un fs ex H H h h' :=
 ⟨fun b ob q _ _ _=>k b ob q,fun b ob q _ _ _=>⟨ob.slots,k b ob q⟩,fun _ _ _ n _=>n,fun b ob q _=>⟨ob,k b ob q⟩,fun _ _ q=>q,fun _ _ _ q=>q,fun _ ps q=>⟨#[],by rw[q];simp⟩⟩
theorem Un.refl:Un fs ex H H h h:=Un.kept fun _ _ q=>q
theorem Un.laid(k:∀ b u,h.get? b=some u->h'.get? b=some u)(hp:h.objs.size<=a)(hn:H a=none):Un fs ex H (Zh H a o) h h' where
 keep:=fun b u q _ _ _=>k b u q
 slot:=fun b u q _ _ _=>⟨u.slots,k b u q⟩
 free:=fun b u q n _=>by rw[aG (Nat.ne_of_lt (Nat.lt_of_lt_of_le (Heap.lt_size q) hp))];exact n
 there:=fun b u q _=>⟨u,k b u q⟩
 tO:=fun b xs q=>by rw[aG (aK q hn)];exact q
 qS:=fun b u xs q=>by rw[aG (aK q hn)];exact q
 tN:=fun b ps q=>⟨#[],by rw[aG (aK q hn),q];simp⟩
theorem Un.write(mu:Mut (H x))(he:e=x\/H e=some (.own x))(k:∀ b u,b≠e->h.get? b=some u->h'.get? b=some u)(heo:∃ u,h'.get? e=some u):Un fs ex H (Zh H x o) h h':=by
 have hx:∀ b,H b=none->b≠x:=fun b n z=>by subst z;rw[n] at mu;exact mu
 have hb:∀ b,H b=none->b≠e:=fun b n z=>by
  subst z;rcases he with r|r
  ·exact hx b n r
  ·rw[n] at r;cases r
 have hm:∀ b u,H b=some u->¬ Mut (some u)->b≠x:=fun b u q nm z=>by subst z;rw[q] at mu;exact nm mu
 refine⟨fun b u q n _ _=>k b u (hb b n) q,fun b u q n _ _=>⟨u.slots,k b u (hb b n) q⟩,fun b u q n _=>by rw[aG (hx b n)];exact n,fun b u q _=>?_,
  fun b xs q=>by rw[aG (hm b _ q fun z=>z)];exact q,fun b u xs q=>by rw[aG (hm b _ q fun z=>z)];exact q,fun b ps q=>⟨#[],by rw[aG (hm b _ q fun z=>z),q];simp⟩⟩
 by_cases hbe:b=e
 ·subst hbe;exact heo
 ·exact⟨u,k b u hbe q⟩
theorem Un.mono(u:Un fs ex H H1 h h1)(hs:∀ b∈fs,b∈fs')(hx:∀ b∈ex,b∈ex'):Un fs' ex' H H1 h h1 :=
 ⟨fun b ob q n hb he=>u.keep b ob q n (fun z=>hb (hs b z)) fun z=>he (hx b z),fun _ _ q n _ he=>u.any q n fun z=>he (hx _ z),fun b ob q n he=>u.free b ob q n fun z=>he (hx b z),fun b ob q he=>u.there b ob q fun z=>he (hx b z),u.tO,u.qS,u.tN⟩
end
noncomputable def trk(h:Heap)(H:Hp):List Addr:=(List.range h.objs.size).filter fun a=>(H a).isSome
noncomputable def C2(h:Heap)(H:Hp):Heap:=PySem.W.hideAll h (trk h H)
theorem IA(h:Heap)(H:Hp):(C2 h H).objs.size=h.objs.size:=PySem.W.hideAll_size _ _
theorem Lr{h:Heap}{H:Hp}{b:Addr}{o:Obj}(e:h.get? b=some o)(n:H b=none):(C2 h H).get? b=some o :=
 PySem.W.hideAll_get _ e fun hm=>by
  have q:(H b).isSome=true:=(List.mem_filter.mp hm).2;rw[n] at q;simp at q
theorem OG{h:Heap}{H:Hp}{b:Addr}{o:Obj}(e:(C2 h H).get? b=some o):h.get? b=some o/\H b=none:=by
 have e':h.get? b=some o:=PySem.W.of_hideAll (trk h H) e;refine⟨e',?_⟩;cases q:H b with
 | none=>rfl
 | some x =>
  have hm:b∈trk h H:=List.mem_filter.mpr ⟨List.mem_range.mpr (Heap.lt_size e'),by simp[q]⟩;have z:(C2 h H).get? b=none:=PySem.W.hideAll_none (trk h H) hm;rw[z] at e;cases e
noncomputable def MU(g h:Heap)(L:Addr):List (Addr×Obj):=(List.range h.objs.size).filterMap fun a=>if a=L\/(g.get? a).isSome=true then none else (h.get? a).map fun o=>(a,o)
noncomputable def rest(g h:Heap)(L d:Addr):List (Addr×Obj):=(MU g h L).filter fun p=>decide (p.1≠d)
structure Mod(K:q0B)(mg:q0C)(base:Heap):Prop where
 kin:K.In base
 glob:base.Ns mainGlobals mg
 blt:∃ mb,base.Ns builtinsNs mb/\∀ x:Str,x≠"__name__"->mb x=bootBuiltins x
 nolimit:base.NoLimit
structure Cx where
 prog:Program
 w:World
 K:q0B
 mg:Str->Option Value
 base:Heap
 A:Around
 N:List Str
 s₀:Shared
 H₀:Hp
 env:Env
 outer:List Env
 stack:List Env
 ex:List Addr
 fn:Str->Bool
 calm:Bool
 pn:List (Addr×Obj)
 xe:Value->Shared->Prop
noncomputable def frs(l:List Env):List Addr:=l.filterMap (·.frame)
noncomputable abbrev Cx.fs(X:Cx):List Addr:=frs X.outer
noncomputable def Vis(sc:Scope)(x:Str):Prop:=sc.names.lookup x=some .local\/sc.names.lookup x=some .cell\/sc.names.lookup x=some .free
noncomputable def Loc(sc:Scope)(x:Str):Prop:=sc.names.lookup x=some .local\/sc.names.lookup x=some .cell
noncomputable def Look(env:Env)(h:Heap)(m:q0C)(x:Str)(u:Value):Prop :=
 (env.kindOf x=some .local/\m x=some u)\/((env.kindOf x=some .cell\/env.kindOf x=some .free)/\∃ c,env.cells.lookup x=some c/\h.IsCell c (some u))
structure Cx.Ok(X:Cx):Prop where
 mod:Mod X.K X.mg X.base
 kind:X.env.scope.kind=.function
 glob:X.env.globals=mainGlobals
 blt:X.env.builtins=builtinsNs
 above:X.s₀.heap.objs.size<=X.env.locals
 inj:∀ x y c,X.env.cells.lookup x=some c->X.env.cells.lookup y=some c->x=y
 has:∀ x,(X.env.kindOf x=some .cell\/X.env.kindOf x=some .free)->∃ c,X.env.cells.lookup x=some c
 cab:∀ x c,X.fn x=true->X.env.cells.lookup x=some c->X.s₀.heap.objs.size<=c
 hd:X.calm=true->X.A.handled=none
 frames:X.A.frames=some X.stack
 stk:X.stack=X.outer\/(X.stack=X.env::X.outer/\X.env.frame=some X.env.locals)
 exf:∀ b∈X.ex,b≠X.env.locals/\∀ x c,X.env.cells.lookup x=some c->c≠b
 bs:∀ b o,X.base.get? b=some o->X.s₀.heap.get? b=some o/\X.H₀ b=none
 bsz:X.base.objs.size<=X.s₀.heap.objs.size
 IT:∀ b o,X.base.get? b=some o->b∉X.ex
 Le:∀ b∈X.ex,b∉X.fs
 sJ:X.s₀.heap.FunFrames X.base X.outer
 frf:∀ b∈X.fs,X.H₀ b=none
structure Zi(X:Cx)(Zg:List (Addr×Obj))(σ:List (Option V))(H:Hp)(s:Shared):Prop where
 ok:X.Ok
 os:s.os=X.s₀.os
 bare:AllBare s.gens
 base:Un X.fs X.ex X.H₀ H X.s₀.heap s.heap
 loc:∃ m,s.heap.Ns X.env.locals m/\∀(i:Nat) (x:Str) (v:V),X.N[i]?=some x->σ[i]?=some (some v)->Vis X.env.scope x->∃ u,bH v u/\Look X.env s.heap m x u
 cell:∀ x c,X.env.cells.lookup x=some c->∃ v,s.heap.IsCell c v
 free:H X.env.locals=none
 mZ:∀ x c,X.env.cells.lookup x=some c->H c=none
 pin:∀ p∈X.pn++Zg,s.heap.get? p.1=some p.2/\H p.1=none/\p.1≠X.env.locals/\p.1∉X.fs/\∀ v,p.2.data≠.cell v
 Zl:HOk X.prog X.w H s.heap
 len:σ.length=X.N.length
section
variable {X:Cx} {Zg:List (Addr×Obj)} {σ:List (Option V)} {H H':Hp} {s:Shared} {h':Heap}
theorem Cx.Ok.YI(ok:X.Ok){b:Addr}{o:Obj}(e:X.base.get? b=some o):b∉X.fs:=fun hb=>by
 have:=(ok.sJ.mem hb).1;rw[e] at this;cases this
theorem Zi.bs(I:Zi X Zg σ H s):∀ b o,X.base.get? b=some o->s.heap.get? b=some o/\H b=none:=fun b o e =>
 ⟨I.base.keep b o (I.ok.bs b o e).1 (I.ok.bs b o e).2 (I.ok.YI e) (I.ok.IT b o e),I.base.free b o (I.ok.bs b o e).1 (I.ok.bs b o e).2 (I.ok.IT b o e)⟩
theorem Zi.bk(I:Zi X Zg σ H s):∀ b o,X.base.get? b=some o->s.heap.get? b=some o:=fun b o e=>(I.bs b o e).1
theorem Zi.mod(I:Zi X Zg σ H s):Mod X.K X.mg X.base:=I.ok.mod
theorem Zi.kIn(I:Zi X Zg σ H s):X.K.In s.heap:=I.ok.mod.kin.keeps I.bk
theorem Zi.nolimit(I:Zi X Zg σ H s):s.heap.NoLimit:=I.ok.mod.nolimit.keeps I.bk
theorem Zi.fr(I:Zi X Zg σ H s):∃ m,Fr X.base X.env.locals s.heap m :=
 let ⟨m,hn,_⟩:=I.loc
 ⟨m,hn,I.bk,Nat.le_trans I.ok.bsz I.ok.above⟩
theorem Zi.lt(I:Zi X Zg σ H s):X.env.locals < s.heap.objs.size:=let ⟨_,hn,_⟩:=I.loc;hn.lt
theorem Zi.sz(I:Zi X Zg σ H s):X.s₀.heap.objs.size<=s.heap.objs.size:=Nat.le_trans I.ok.above (Nat.le_of_lt I.lt)
theorem Zi.WX(I:Zi X Zg σ H s){a:Addr}(h:s.heap.objs.size<=a):a∉X.fs:=fun hb=>by
 obtain⟨_,o,ho,_⟩:=I.ok.sJ.mem hb;exact absurd (Nat.lt_of_lt_of_le (Heap.lt_size ho) (Nat.le_trans I.sz h)) (Nat.lt_irrefl _)
theorem Zi.cne(I:Zi X Zg σ H s):∀ x c,X.env.cells.lookup x=some c->c≠X.env.locals:=fun x c e z=>by
 obtain⟨v,o,ho,hd⟩:=I.cell x c e;obtain⟨m,⟨o',es,ep,ho',hd',_⟩,_⟩:=I.loc;rw[z,ho'] at ho;cases ho;rw[hd'] at hd;cases hd
theorem Zi.sJ(I:Zi X Zg σ H s):s.heap.FunFrames X.base X.outer:=by
 have all:∀(l:List Env),(∀ b∈frs l,b∈X.fs)->X.s₀.heap.FunFrames X.base l->s.heap.FunFrames X.base l:=by
  intro l
  induction l with
  | nil=>intro _ _;trivial
  | cons env r ih =>
   intro hs hl;obtain⟨hk,⟨L,o,hf,hn,ho,hd⟩,hr⟩:=hl;have hL:L∈X.fs:=hs L (by unfold frs;rw[List.filterMap_cons,hf];exact List.mem_cons_self);obtain⟨sl,e⟩:=I.base.slot L o ho (I.ok.frf L hL) hL fun z=>I.ok.Le L z hL;exact⟨hk,⟨L,_,hf,hn,e,hd⟩,ih (fun b hb=>hs b (by unfold frs;rw[List.filterMap_cons,hf];exact List.mem_cons_of_mem _ hb)) hr⟩
 exact all X.outer (fun _ hb=>hb) I.ok.sJ
theorem Zi.stack(I:Zi X Zg σ H s):s.heap.FunFrames X.base X.stack:=by
 rcases I.ok.stk with e|⟨e,hf⟩
 ·rw[e];exact I.sJ
 ·rw[e];obtain⟨m,hn,_⟩:=I.loc;refine .cons (by rw[I.ok.kind];decide) hf hn ?_ I.sJ;exact Heap.get?_none_of_le (Nat.le_trans I.ok.bsz I.ok.above)
theorem Zi.Be(I:Zi X Zg σ H s):∀ b∈frs X.stack,b∈X.env.locals::X.fs:=fun b hb=>by
 rcases I.ok.stk with e|⟨e,hf⟩
 ·rw[e] at hb;exact List.mem_cons_of_mem _ hb
 ·rw[e] at hb;unfold frs at hb;rw[List.filterMap_cons,hf] at hb;exact hb
theorem Zi.HK(I:Zi X Zg σ H s):∀ b∈frs X.stack,H b=none:=fun b hb=>by
 rcases List.mem_cons.mp (I.Be b hb) with e|hb
 ·rw[e];exact I.free
 ·obtain⟨_,o,ho,_⟩:=I.ok.sJ.mem hb;exact I.base.free b o ho (I.ok.frf b hb) fun z=>I.ok.Le b z hb
theorem Zi.step{g':Array GenState}{t':Nat}{d':Drawn}{ch:List Addr}(I:Zi X Zg σ H s)
    (hch:∀ b∈ch,(b∈X.ex\/X.s₀.heap.objs.size<=b)/\b≠X.env.locals/\(∀ x c,X.env.cells.lookup x=some c->c≠b)/\∀ p∈X.pn++Zg,p.1≠b)
    (keep:∀ b o,b≠X.env.locals->b∉X.fs->b∉ch->s.heap.get? b=some o->H b=none->h'.get? b=some o)
    (slot:∀ b o,b≠X.env.locals->b∈X.fs->b∉ch->s.heap.get? b=some o->H b=none->∃ sl,h'.get? b=some {o with slots:=sl}) (free:∀ b o,b∉ch->s.heap.get? b=some o->H b=none->H' b=none)
    (there:∀ b o,b∉ch->s.heap.get? b=some o->∃ o',h'.get? b=some o')
    (tO:∀ b xs,H b=some (.tup xs)->H' b=some (.tup xs)) (qS:∀ b o u,H b=some (.ZF o u)->H' b=some (.ZF o u)) (tN:∀ b ps,H b=some (.tbl ps)->∃ more,H' b=some (.tbl (ps++more)))
    (ns:∀ m,s.heap.Ns X.env.locals m->h'.Ns X.env.locals m) (Zl:HOk X.prog X.w H' h') (hg:AllBare g') :
    Zi X Zg σ H' {s with heap:=h',gens:=g',drawn:=d',toks:=t'}:=by
  have neL:∀ b o,X.s₀.heap.get? b=some o->b≠X.env.locals:=fun b o e=>Nat.ne_of_lt (Nat.lt_of_lt_of_le (Heap.lt_size e) I.ok.above);have neC:∀ b o,X.s₀.heap.get? b=some o->b∉X.ex->b∉ch:=fun b o e hx hb=>by
    rcases(hch b hb).1 with z|z
    · exact hx z
    · exact absurd (Nat.lt_of_lt_of_le (Heap.lt_size e) z) (Nat.lt_irrefl _)
  have cellK:∀ x c,X.env.cells.lookup x=some c->∀ v,s.heap.IsCell c v->h'.IsCell c v:=fun x c e v ⟨o,ho,hd⟩=>by
    have nch:c∉ch:=fun z=>(hch c z).2.2.1 x c e rfl;by_cases hc:c∈X.fs
    · obtain⟨sl,q⟩:=slot c o (I.cne x c e) hc nch ho (I.mZ x c e);exact⟨_,q,hd⟩
    · exact⟨o,keep c o (I.cne x c e) hc nch ho (I.mZ x c e),hd⟩
  refine⟨I.ok,I.os,hg,⟨fun b o e n hb hx=>?_,fun b o e n hb hx=>?_,fun b o e n hx=>?_,fun b o e hx=>?_,fun b xs e=>tO b xs (I.base.tO b xs e),fun b o xs e=>qS b o xs (I.base.qS b o xs e),fun b ps e=>?_⟩,?_,fun x c e=>?_,?_,fun x c e=>?_,fun p hp=>?_,Zl,I.len⟩
  · exact keep b o (neL b o e) hb (neC b o e hx) (I.base.keep b o e n hb hx) (I.base.free b o e n hx)
  · obtain⟨sl,e1⟩:=I.base.slot b o e n hb hx;obtain⟨Zz,e2⟩:=slot b _ (neL b o e) hb (neC b o e hx) e1 (I.base.free b o e n hx);exact⟨Zz,e2⟩
  · obtain⟨o',e1⟩:=I.base.there b o e hx;exact free b o' (neC b o e hx) e1 (I.base.free b o e n hx)
  · obtain⟨o',e1⟩:=I.base.there b o e hx;exact there b o' (neC b o e hx) e1
  · obtain⟨m1,e1⟩:=I.base.tN b ps e;obtain⟨m2,e2⟩:=tN b _ e1;exact⟨m1++m2,by rw[e2,Array.append_assoc]⟩
  · obtain⟨m,hn,hl⟩:=I.loc;refine⟨m,ns m hn,fun i x v e1 e2 e3=>?_⟩;obtain⟨u,r,l⟩:=hl i x v e1 e2 e3;refine⟨u,r,?_⟩;rcases l with l|⟨k,c,e,z⟩
    · exact .inl l
    · exact .inr ⟨k,c,e,cellK x c e _ z⟩
  · obtain⟨v,z⟩:=I.cell x c e;exact⟨v,cellK x c e v z⟩
  · obtain⟨m,⟨o,_,_,ho,_⟩,_⟩:=I.loc;exact free _ o (fun z=>(hch _ z).2.1 rfl) ho I.free
  · obtain⟨v,o,ho,hd⟩:=I.cell x c e;exact free c o (fun z=>(hch c z).2.2.1 x c e rfl) ho (I.mZ x c e)
  · obtain⟨e,n,ne,nf,d⟩:=I.pin p hp;have nch:p.1∉ch:=fun z=>(hch p.1 z).2.2.2 p hp rfl;exact⟨keep p.1 p.2 ne nf nch e n,free p.1 p.2 nch e n,ne,nf,d⟩
theorem Zi.un{t':Nat}(I:Zi X Zg σ H s)(u:Un X.fs [] H H' s.heap h')(Zl:HOk X.prog X.w H' h'):Zi X Zg σ H' {s with heap:=h',toks:=t'}:=by
 obtain⟨m,⟨o,es,ep,ho,r⟩,_⟩:=id I.loc;obtain⟨sl,hL⟩:=u.any ho I.free (by simp);exact I.step (g':=s.gens) (d':=s.drawn) (ch:=[]) (fun _ z=>nomatch z) (fun b o _ hb _ e n=>u.keep b o e n hb (by simp)) (fun b o _ hb _ e n=>u.slot b o e n hb (by simp)) (fun b o _ e n=>u.free b o e n (by simp)) (fun b o _ e=>u.there b o e (by simp)) u.tO u.qS u.tN (fun m' hm=>by
  obtain⟨o',es',ep',ho',r'⟩:=hm;rw[ho] at ho';cases ho';exact⟨_,es',ep',hL,r'⟩) Zl I.bare
theorem Zi.call{g':Array GenState}{t':Nat}{d':Drawn}{ch:List Addr}(I:Zi X Zg σ H s)(u:Un (frs X.stack) ch H H' s.heap h')(Zl:HOk X.prog X.w H' h')(hg:AllBare g')
    (hch:∀ b∈ch,(b∈X.ex\/X.s₀.heap.objs.size<=b)/\b≠X.env.locals/\(∀ x c,X.env.cells.lookup x=some c->c≠b)/\∀ p∈X.pn++Zg,p.1≠b) :
    Zi X Zg σ H' {s with heap:=h',gens:=g',drawn:=d',toks:=t'}:=by
  obtain⟨m,⟨o,es,ep,ho,r⟩,_⟩:=id I.loc;obtain⟨sl,hL⟩:=u.any ho I.free fun z=>(hch _ z).2.1 rfl;exact I.step (ch:=ch) hch (fun b o hL hb hc e n=>u.keep b o e n (fun z=>(List.mem_cons.mp (I.Be b z)).elim hL hb) hc) (fun b o _ _ hc e n=>u.any e n hc) (fun b o hc e n=>u.free b o e n hc) (fun b o hc e=>u.there b o e hc) u.tO u.qS u.tN (fun m' hm=>by
    obtain⟨o',es',ep',ho',r'⟩:=hm;rw[ho] at ho';cases ho';exact⟨_,es',ep',hL,r'⟩) Zl hg
theorem Zi.turned{t':Nat}{it:Addr}(I:Zi X Zg σ H s)(k:∀ b o,b≠it->s.heap.get? b=some o->h'.get? b=some o)(hn:H it=none)(hL:it≠X.env.locals)
    (h1:it∈X.ex\/X.s₀.heap.objs.size<=it) (h2:∀ x c,X.env.cells.lookup x=some c->c≠it) (h3:∀ p∈X.pn++Zg,p.1≠it):Zi X Zg σ H {s with heap:=h',toks:=t'}:=by
  have nit:∀ b u,H b=some u->b≠it:=fun b u e z=>by rw[z,hn] at e;cases e
  refine I.step (g':=s.gens) (d':=s.drawn) (ch:=[it]) (fun b hb=>?_) (fun b o _ _ hc e _=>k b o (fun z=>hc (by simp[z])) e) (fun b o _ _ hc e _=>⟨o.slots,k b o (fun z=>hc (by simp[z])) e⟩) (fun _ _ _ _ n=>n)
    (fun b o hc e=>⟨o,k b o (fun z=>hc (by simp[z])) e⟩) (fun _ _ e=>e) (fun _ _ _ e=>e) (fun b ps e=>⟨#[],by rw[e];simp⟩) (fun m hm=>?_) (fun b u e=>?_) I.bare
  · have e:b=it:=by simpa using hb
    subst e;exact⟨h1,hL,h2,h3⟩
  · obtain⟨o,es,ep,ho,r⟩:=hm;exact⟨o,es,ep,k _ o (Ne.symm hL) ho,r⟩
  · refine(I.Zl b u e).tM (fun c v hc q=>k c v ?_ q) (fun _ q=>q) fun _ _ q=>q;rcases hc with z|z
    · rw[z];exact nit b u e
    · exact nit c _ z
theorem Zi.tok(I:Zi X Zg σ H s)(t:Nat):Zi X Zg σ H {s with toks:=t}:=I.un (h':=s.heap) (t':=t) Un.refl I.Zl
theorem Zi.kept{t':Nat}(I:Zi X Zg σ H s)(k:∀ b u,s.heap.get? b=some u->h'.get? b=some u):Zi X Zg σ H {s with heap:=h',toks:=t'}:=I.un (Un.kept k) (I.Zl.kept k)
theorem Zi.laid{a:Addr}{o:HO}{t':Nat}(I:Zi X Zg σ H s)(k:∀ b u,s.heap.get? b=some u->h'.get? b=some u)(hp:s.heap.objs.size<=a)(new:dJ X.prog X.w (Zh H a o) h' a o) :
    Zi X Zg σ (Zh H a o) {s with heap:=h',toks:=t'}:=I.un (Un.laid k hp (I.Zl.fresh hp)) (I.Zl.laid k hp new)
theorem Zi.write{x e:Addr}{o:HO}{t':Nat}(I:Zi X Zg σ H s)(mu:Mut (H x))(he:e=x\/H e=some (.own x))(k:∀ b u,b≠e->s.heap.get? b=some u->h'.get? b=some u)(heo:∃ u,h'.get? e=some u)
    (new:dJ X.prog X.w (Zh H x o) h' x o):Zi X Zg σ (Zh H x o) {s with heap:=h',toks:=t'}:=I.un (Un.write mu he k heo) (I.Zl.write mu he k heo new)
theorem Zi.tF{aa8:List (Addr×Obj)}(I:Zi X Zg σ H s)(h:∀ p∈aa8,s.heap.get? p.1=some p.2/\H p.1=none/\p.1≠X.env.locals/\p.1∉X.fs/\∀ v,p.2.data≠.cell v):Zi X aa8 σ H s :=
 ⟨I.ok,I.os,I.bare,I.base,I.loc,I.cell,I.free,I.mZ,fun p hp=>(List.mem_append.mp hp).elim (fun z=>I.pin p (List.mem_append_left _ z)) (h p),I.Zl,I.len⟩
theorem Ex{N:List Str}(hN:N.Nodup){i j:Nat}{x:Str}(a:N[i]?=some x)(b:N[j]?=some x):i=j:=by
 obtain⟨h1,e1⟩:=List.getElem?_eq_some_iff.mp a;obtain⟨h2,e2⟩:=List.getElem?_eq_some_iff.mp b;exact(List.getElem_inj hN).mp (e1.trans e2.symm)
theorem Co{M:Model}{A:Around}{E:q0A}{i:Nat}{x:Str}{v:V}{u:Value}{Q:Unit->Shared->Prop}(I:Zi X Zg σ H s)(hN:X.N.Nodup)(hi:X.N[i]?=some x)(hx:Loc X.env.scope x)(r:bH v u)
    (h:∀ s',Zi X Zg (σ.set i (some v)) H s'->(∃ a,Heap.SameBut a s.heap s'.heap/\(a=X.env.locals\/X.env.cells.lookup x=some a))->Q () s') (hf:X.fn x=true\/X.env.scope.names.lookup x=some .local:=by first|exact .inl rfl|exact .inr rfl|assumption):wpAny M A (storeName X.env x u) Q E s:=by
  obtain⟨m,hn,hl⟩:=id I.loc;have acS:(X.env.scope.kind==.class||(X.env.scope.kind==.module&&X.env.locals !=X.env.globals))=false:=by rw[I.ok.kind];rfl
  have hiσ:i < σ.length:=by rw[I.len];exact(List.getElem?_eq_some_iff.mp hi).1
  have cne:=I.cne;have tracked:∀ {a:Addr} {h':Heap},(∃ o,s.heap.get? a=some o/\H a=none)->Heap.SameBut a s.heap h'->HOk X.prog X.w H h':=fun {a h'} ha hs b ob e=>by
    obtain⟨_,_,aa6⟩:=ha;refine(I.Zl b ob e).tM (fun c w' hc q=>(hs.2 c ?_).trans q) (fun _ q=>q) fun _ _ q=>q;rintro rfl;rcases hc with rfl|hc
    · rw[aa6] at e;cases e
    · rw[aa6] at hc;cases hc
  rcases hx with hk|hk
  · refine wpAny_storeName_local hk hn (fun h' hn' hs=>?_) acS;obtain⟨oL,_,_,hoL,_⟩:=id hn;refine h _ ⟨I.ok,I.os,I.bare,⟨fun b o e n hb hx=>?_,fun b o e n hb hx=>?_,I.base.free,fun b o e hx=>?_,I.base.tO,I.base.qS,I.base.tN⟩,⟨_,hn',fun j y v' e1 e2 e3=>?_⟩,fun y c e=>?_,I.free,I.mZ,fun p hp=>?_,tracked ⟨oL,hoL,I.free⟩ hs,by simpa using I.len⟩ ⟨_,hs,.inl rfl⟩
    · exact(hs.2 b (Nat.ne_of_lt (Nat.lt_of_lt_of_le (Heap.lt_size e) I.ok.above))).trans (I.base.keep b o e n hb hx)
    · obtain⟨sl,e1⟩:=I.base.slot b o e n hb hx;exact⟨sl,(hs.2 b (Nat.ne_of_lt (Nat.lt_of_lt_of_le (Heap.lt_size e) I.ok.above))).trans e1⟩
    · obtain⟨o',e1⟩:=I.base.there b o e hx;exact⟨o',(hs.2 b (Nat.ne_of_lt (Nat.lt_of_lt_of_le (Heap.lt_size e) I.ok.above))).trans e1⟩
    · by_cases hj:j=i
      · subst hj;rw[hi] at e1;cases e1;rw[List.getElem?_set_self hiσ] at e2;cases e2;exact⟨u,r,.inl ⟨hk,by simp⟩⟩
      · rw[List.getElem?_set_ne (Ne.symm hj)] at e2;obtain⟨u',r',q⟩:=hl j y v' e1 e2 e3;refine⟨u',r',?_⟩;rcases q with⟨k,e⟩|⟨k,c,e,z⟩
        · refine .inl ⟨k,?_⟩;have:y≠x:=fun e=>hj (Ex hN e1 (e▸hi));simp[this,e]
        · exact .inr ⟨k,c,e,z.sameBut hs (cne y c e)⟩
    · obtain⟨w',z⟩:=I.cell y c e;exact⟨w',z.sameBut hs (cne y c e)⟩
    · obtain⟨e,n,ne,nf,d⟩:=I.pin p hp;exact⟨(hs.2 p.1 ne).trans e,n,ne,nf,d⟩
  · have hfn:X.fn x=true:=by
      rcases hf with z|z
      · exact z
      · rw[z] at hk;cases hk
    obtain⟨c,hc⟩:=I.ok.has x (.inl hk);obtain⟨w',z⟩:=I.cell x c hc;refine wpAny_storeName_cell I.ok.kind hk hc z (fun h' hc' hs=>?_);obtain⟨oc,hoc,acW⟩:=id z;refine h {s with heap:=h'} ⟨I.ok,I.os,I.bare,⟨fun b o e n hb hx=>?_,fun b o e n hb hx=>?_,I.base.free,fun b o e hx=>?_,I.base.tO,I.base.qS,I.base.tN⟩,⟨m,hn.sameBut hs (Ne.symm (cne x c hc)),fun j y v' e1 e2 e3=>?_⟩,fun y c' e=>?_,I.free,I.mZ,fun p hp=>?_,tracked ⟨oc,hoc,I.mZ x c hc⟩ hs,by simpa using I.len⟩ ⟨c,hs,.inr hc⟩
    · exact(hs.2 b (Nat.ne_of_lt (Nat.lt_of_lt_of_le (Heap.lt_size e) (I.ok.cab x c hfn hc)))).trans (I.base.keep b o e n hb hx)
    · obtain⟨sl,e1⟩:=I.base.slot b o e n hb hx;exact⟨sl,(hs.2 b (Nat.ne_of_lt (Nat.lt_of_lt_of_le (Heap.lt_size e) (I.ok.cab x c hfn hc)))).trans e1⟩
    · obtain⟨o',e1⟩:=I.base.there b o e hx;exact⟨o',(hs.2 b (Nat.ne_of_lt (Nat.lt_of_lt_of_le (Heap.lt_size e) (I.ok.cab x c hfn hc)))).trans e1⟩
    · by_cases hj:j=i
      · subst hj;rw[hi] at e1;cases e1;rw[List.getElem?_set_self hiσ] at e2;cases e2;exact⟨u,r,.inr ⟨.inl hk,c,hc,hc'⟩⟩
      · rw[List.getElem?_set_ne (Ne.symm hj)] at e2;obtain⟨u',r',q⟩:=hl j y v' e1 e2 e3;refine⟨u',r',?_⟩;rcases q with q|⟨k,c',e,z'⟩
        · exact .inl q
        · refine .inr ⟨k,c',e,z'.sameBut hs ?_⟩;rintro rfl;exact hj (Ex hN e1 (I.ok.inj _ _ _ e hc▸hi))
    · by_cases hcc:c'=c
      · subst hcc;exact⟨_,hc'⟩
      · obtain⟨w2,z2⟩:=I.cell y c' e;exact⟨w2,z2.sameBut hs hcc⟩
    · obtain⟨e,n,ne,nf,d⟩:=I.pin p hp;refine⟨(hs.2 p.1 ?_).trans e,n,ne,nf,d⟩;intro q;rw[q,hoc] at e;have q':oc=p.2:=Option.some.inj e;exact d w' (by rw[<- q'];exact acW)
theorem Bf{M:Model}{A:Around}{E:q0A}{i:Nat}{x:Str}{v:V}{u:Value}{Q:Unit->Shared->Prop}(I:Zi X Zg σ H s)(hN:X.N.Nodup)(hi:X.N[i]?=some x)(hx:Loc X.env.scope x)(r:bH v u)
    (h:∀ s',Zi X Zg (σ.set i (some v)) H s'->Q () s') (hf:X.fn x=true\/X.env.scope.names.lookup x=some .local:=by first|exact .inl rfl|exact .inr rfl|assumption):wpAny M A (storeName X.env x u) Q E s :=
  Co I hN hi hx r (fun s' I' _=>h s' I') hf
theorem Zi.Vm{s':Shared}{ch:List Addr}(I:Zi X Zg σ H s)(ho:s'.os=s.os)(u:Un (frs X.stack) ch H H' s.heap s'.heap)(Zl:HOk X.prog X.w H' s'.heap)(hg:AllBare s'.gens)
    (hch:∀ b∈ch,(b∈X.ex\/X.s₀.heap.objs.size<=b)/\b≠X.env.locals/\(∀ x c,X.env.cells.lookup x=some c->c≠b)/\∀ p∈X.pn++Zg,p.1≠b):Zi X Zg σ H' s':=by
  obtain⟨h',g',d',t',o'⟩:=s';have e:o'=s.os:=ho;subst e;exact I.call (g':=g') (t':=t') (d':=d') u Zl hg hch
end
noncomputable abbrev XK:=Value->Option Addr->Hp->Prop
noncomputable abbrev St:=List (Option V)
noncomputable abbrev VK:=V->Hp->Prop
noncomputable abbrev TE:=St->Hp->VK->Prop
noncomputable abbrev TT:=St->Hp->(Bool->Hp->Prop)->Prop
noncomputable abbrev TA:=St->Hp->(List V->Hp->Prop)->Prop
structure Ends where
 nx:St->Hp->Prop
 rt:VK
 bk:St->Hp->Prop:=fun _ _=>False
 ct:St->Hp->Prop:=fun _ _=>False
noncomputable abbrev TS:=Ends->St->Hp->Prop
noncomputable def EP(X:Cx)(Zg:List (Addr×Obj))(σ:St)(Q:VK)(u:Value)(s':Shared):Prop:=∃ v H',Zi X Zg σ H' s'/\bH v u/\Q v H'
noncomputable def TP(X:Cx)(Zg:List (Addr×Obj))(σ:St)(Q:Bool->Hp->Prop)(b:Bool)(s':Shared):Prop:=∃ H',Zi X Zg σ H' s'/\Q b H'
noncomputable def AP(X:Cx)(Zg:List (Addr×Obj))(σ:St)(Q:List V->Hp->Prop)(us:List Value)(s':Shared):Prop:=∃ vs H',Zi X Zg σ H' s'/\Vals vs us/\Q vs H'
noncomputable def SP(X:Cx)(Zg:List (Addr×Obj))(D:Ends)(f:Flow)(s':Shared):Prop :=
 match f with
 | .next=>∃ σ' H',Zi X Zg σ' H' s'/\D.nx σ' H'
 | .brk=>∃ σ' H',Zi X Zg σ' H' s'/\D.bk σ' H'
 | .cont=>∃ σ' H',Zi X Zg σ' H' s'/\D.ct σ' H'
 | .ret u=>∃ v σ' H',Zi X Zg σ' H' s'/\bH v u/\D.rt v H'
noncomputable def PE(X:Cx)(e:Expr)(t:TE):Prop :=
 ∀(Zg:List (Addr×Obj)) (s:Shared) (σ:St) (H:Hp) (Q:VK),Zi X Zg σ H s->t σ H Q->wpAny (model X.prog X.w) X.A (eval e X.env) (EP X Zg σ Q) X.xe s
noncomputable def PT(X:Cx)(e:Expr)(t:TT):Prop :=
 ∀(Zg:List (Addr×Obj)) (s:Shared) (σ:St) (H:Hp) (Q:Bool->Hp->Prop),Zi X Zg σ H s->t σ H Q->wpAny (model X.prog X.w) X.A (isTrue e X.env (eval e X.env)) (TP X Zg σ Q) X.xe s
noncomputable def PW(X:Cx)(e:Expr)(t:TT):Prop :=
 ∀(whole:Sem Value) (Zg:List (Addr×Obj)) (s:Shared) (σ:St) (H:Hp) (Q:Bool->Hp->Prop),Zi X Zg σ H s->t σ H Q->wpAny (model X.prog X.w) X.A (isTrue e X.env whole) (TP X Zg σ Q) X.xe s
theorem PW.pt{X:Cx}{e:Expr}{t:TT}(h:PW X e t):PT X e t:=h _
noncomputable def PA(X:Cx)(es:List Expr)(t:TA):Prop :=
 ∀(pos:Pos) (Zg:List (Addr×Obj)) (s:Shared) (σ:St) (H:Hp) (Q:List V->Hp->Prop),Zi X Zg σ H s->t σ H Q->wpAny (model X.prog X.w) X.A (spliced (backTo pos (starEach es X.env))) (AP X Zg σ Q) X.xe s
noncomputable def PS(X:Cx)(st:Stmt)(t:TS):Prop :=
 ∀(Zg:List (Addr×Obj)) (s:Shared) (σ:St) (H:Hp) (D:Ends),Zi X Zg σ H s->t D σ H->wpAny (model X.prog X.w) X.A (exec st X.env) (SP X Zg D) X.xe s
noncomputable def PSs(X:Cx)(st:List Stmt)(t:TS):Prop :=
 ∀(Zg:List (Addr×Obj)) (s:Shared) (σ:St) (H:Hp) (D:Ends),Zi X Zg σ H s->t D σ H->wpAny (model X.prog X.w) X.A (execs st X.env) (SP X Zg D) X.xe s
theorem thn{α:Type}{t:Sem α}{Q Q':α->Shared->Prop}{M:Model}{A:Around}{E:q0A}{s:Shared}(h:wpAny M A t Q E s)(hQ:∀ a s,Q a s->Q' a s):wpAny M A t Q' E s:=wpAny_mono h hQ fun _ _ x=>x
section
variable {X:Cx}
noncomputable def eD(i:Nat):TE:=fun σ H Q=>∃ v,σ[i]?=some (some v)/\Q v H
noncomputable def tC(v:V):TE:=fun _ H Q=>Q v H
theorem TY{i:Nat}{x:Str}{pos:Pos}(hN:X.N[i]?=some x)(hv:Vis X.env.scope x)(hd:(x==("__debug__":Str))=false:=by decide)(hcd:(x==("__classdict__":Str))=false:=by decide):PE X (.Name x pos) (eD i):=by
 intro Zg s σ H Q I h;obtain⟨v,e,h⟩:=h;obtain⟨m,hn,hl⟩:=I.loc;obtain⟨u,r,l⟩:=hl i x v hN e hv;have fin:EP X Zg σ Q u s:=⟨v,H,I,r,h⟩;rcases l with⟨hk,hm⟩|⟨hk,c,hc,aaL⟩
 ·exact wpAny_Name (wpAny_loadName_local I.ok.kind hk hn hm fin) hd
 ·rcases hk with hk|hk
  ·exact wpAny_Name (wpAny_loadName_cell I.ok.kind hk hc aaL fin) hd
  ·exact wpAny_Name (wpAny_loadName_free I.ok.kind hk hc aaL fin hcd) hd
theorem aE{i j pos}:PE X (.Constant (.int i) j pos) (tC (.int i)):=fun _ _ _ H _ I h=>wpAny_Constant_int ⟨.int i,H,I.tok _,⟨_,rfl⟩,h⟩
theorem Ci{b j pos}:PE X (.Constant (.bool b) j pos) (tC (.bl b)):=fun _ _ _ H _ I h=>Constant_bool ⟨.bl b,H,I,rfl,h⟩
theorem eJ{j pos}:PE X (.Constant .none j pos) (tC .Zj):=fun _ _ _ H _ I h=>Constant_none ⟨.Zj,H,I,rfl,h⟩
theorem aR{x j pos}:PE X (.Constant (.str x) j pos) (tC (.str x)):=fun _ _ _ H _ I h=>Calls.Constant_str ⟨.str x,H,I.tok _,⟨_,rfl⟩,h⟩
noncomputable def Gl(X:Cx)(x:Str):Prop:=X.env.kindOf x=some .globalImplicit
theorem xI{E:q0A}{Zg:List (Addr×Obj)}{s:Shared}{σ:St}{H:Hp}{x:Str}{u:Value}{pos:Pos}{Q:q0A}(I:Zi X Zg σ H s)(hg:Gl X x)(hm:X.mg x=some u)(h:Q u s)
    (hd:(x==("__debug__":Str))=false:=by decide):wpAny (model X.prog X.w) X.A (eval (.Name x pos) X.env) Q E s :=
  Calls.Name_function_global I.ok.kind hg (Calls.loadGlobal_global (by rw[I.ok.glob];exact I.mod.glob.keeps I.bk) hm h) hd
theorem qT{E:q0A}{Zg:List (Addr×Obj)}{s:Shared}{σ:St}{H:Hp}{x:Str}{u:Value}{pos:Pos}{Q:q0A}(I:Zi X Zg σ H s)(hg:Gl X x)(hm:X.mg x=none)(hv:bootBuiltins x=some u)(h:Q u s)
    (hn:x≠"__name__":=by decide) (hd:(x==("__debug__":Str))=false:=by decide):wpAny (model X.prog X.w) X.A (eval (.Name x pos) X.env) Q E s:=by
  obtain⟨mb,h1,h2⟩:=I.mod.blt;exact Calls.Name_function_global I.ok.kind hg (Calls.loadGlobal_builtin (by rw[I.ok.glob];exact I.mod.glob.keeps I.bk) hm (by rw[I.ok.blt];exact h1.keeps I.bk) ((h2 x hn).trans hv) h) hd
theorem tE{x:Str}{v:V}{u:Value}{pos:Pos}(hg:Gl X x)(hm:X.mg x=some u)(r:bH v u)(hd:(x==("__debug__":Str))=false:=by decide):PE X (.Name x pos) (tC v) :=
 fun _ _ _ H _ I h=>xI I hg hm ⟨v,H,I,r,h⟩ hd
variable {a b:Expr} {ta tb:TE} {pos:Pos}
noncomputable def PC(X:Cx)(op:CmpOp)(a b:Expr)(t:TE):Prop :=
 ∀(Zg:List (Addr×Obj)) (s:Shared) (σ:St) (H:Hp) (Q:VK),Zi X Zg σ H s->t σ H Q ->
  wpAny (model X.prog X.w) X.A (eval a X.env) (fun v s₁=>wpAny (model X.prog X.w) X.A (eval b X.env) (fun u s₂=>wpAny (model X.prog X.w) X.A (compareOp op v u) (EP X Zg σ Q) X.xe s₂) X.xe s₁) X.xe s
theorem nobehind(b:Expr){op:CmpOp}(h:op≠.In)(h2:op≠.NotIn):behindInMarks op b=false:=by
 have e1:(op==CmpOp.In)=false:=by cases op<;>first|rfl|exact absurd rfl h
 have e2:(op==CmpOp.NotIn)=false:=by cases op<;>first|rfl|exact absurd rfl h2
 cases b<;>simp[behindInMarks,e1,e2]
noncomputable def tB(t:TE):TT:=fun σ H Q=>t σ H fun x H1=>∃ c,x=.bl c/\Q c H1
theorem TV{op:CmpOp}{t:TE}(h:PC X op a b t)(h1:behindInMarks op b=false:=by first|exact nobehind _ (by decide) (by decide)|rfl):PE X (.Compare a [op] [b] pos) t:=fun Zg s σ H Q I hw=>wpAny_Compare1 (h Zg s σ H Q I hw) h1
theorem Ua{op:CmpOp}{t:TE}(h:PC X op a b t)(h1:behindInMarks op b=false:=by first|exact nobehind _ (by decide) (by decide)|rfl):PT X (.Compare a [op] [b] pos) (tB t):=by
 intro Zg s σ H Q I hw;refine wpAny_isTrue_Compare1 (thn (h Zg s σ H _ I hw) fun v s1 h1=>thn h1 fun u s2 h2=>thn h2 fun c s3 ⟨x,H1,I1,r1,q1⟩=>?_) h1;obtain⟨d,rfl,q⟩:=q1;cases r1;exact wpAny_truthy_bool ⟨H1,I1,q⟩
theorem Dk{e:Expr}{t:TE}(h:PE X e t)(he:∀ whole,isTrue e X.env whole=(do let v <- whole;standAt e.pos;holding [v] (truthy v)):=by intro _;rfl):PT X e (tB t):=by
 intro Zg s σ H Q I hw;refine isTrue_plain (thn (h Zg s σ H _ I hw) fun v s1 ⟨x,H1,I1,r1,q1⟩=>?_) (he _);obtain⟨d,rfl,q⟩:=q1;cases r1;exact wpAny_truthy_bool ⟨H1,I1,q⟩
variable {tA tB':TT} {rest:List Expr}
noncomputable def Xo(t u:TT):TT:=fun σ H Q=>t σ H fun c H1=>if c=true then u σ H1 Q else Q false H1
noncomputable def Y3(t u:TT):TT:=fun σ H Q=>t σ H fun c H1=>if c=true then Q true H1 else u σ H1 Q
noncomputable def Xv(t:TT):TT:=fun σ H Q=>t σ H fun c H1=>Q (!c) H1
theorem Dl(ha:PT X a tA):PW X (.BoolOp .And [a] pos) tA:=by
 intro wh Zg s σ H Q I h;refine isTrue_and (thn (ha Zg s σ H Q I h) fun c s1 e=>?_);cases c with
 | true=>exact isTrue_and_nil e
 | false=>exact e
theorem Ma(ha:PT X a tA):PW X (.BoolOp .Or [a] pos) tA:=by
 intro wh Zg s σ H Q I h;refine isTrue_or (thn (ha Zg s σ H Q I h) fun c s1 e=>?_);cases c with
 | false=>exact isTrue_or_nil e
 | true=>exact e
theorem Gh(ha:PT X a tA)(hb:PW X (.BoolOp .And (b::rest) pos) tB'):PW X (.BoolOp .And (a::b::rest) pos) (Xo tA tB'):=by
 intro wh Zg s σ H Q I h;refine isTrue_and (thn (ha Zg s σ H _ I h) fun c s1 ⟨H1,I1,q1⟩=>?_);cases c with
 | true=>exact hb wh Zg s1 σ H1 Q I1 q1
 | false=>exact⟨H1,I1,q1⟩
theorem P6(ha:PT X a tA)(hb:PW X (.BoolOp .Or (b::rest) pos) tB'):PW X (.BoolOp .Or (a::b::rest) pos) (Y3 tA tB'):=by
 intro wh Zg s σ H Q I h;refine isTrue_or (thn (ha Zg s σ H _ I h) fun c s1 ⟨H1,I1,q1⟩=>?_);cases c with
 | true=>exact⟨H1,I1,q1⟩
 | false=>exact hb wh Zg s1 σ H1 Q I1 q1
theorem Ub(ha:PT X a tA):PT X (.UnaryOp .Not a pos) (Xv tA):=by
 intro Zg s σ H Q I h;exact isTrue_not (ha Zg s σ H (fun c H1=>Q (!c) H1) I h)
noncomputable def Mw(ta tb:TE):TE:=fun σ H Q=>ta σ H fun x H1=>∃ c,x=.bl c/\if c=true then tb σ H1 Q else Q (.bl false) H1
noncomputable def UB(ta tb:TE):TE:=fun σ H Q=>ta σ H fun x H1=>∃ c,x=.bl c/\if c=true then Q (.bl true) H1 else tb σ H1 Q
noncomputable def MF(ta:TE):TE:=fun σ H Q=>ta σ H fun x H1=>∃ c,x=.bl c/\Q (.bl (!c)) H1
theorem L6{op}{t:TE}(h:PE X a t):PE X (.BoolOp op [a] pos) t:=fun Zg s σ H Q I hw=>BoolOp_one (h Zg s σ H Q I hw)
theorem TU(ha:PE X a ta)(hb:PE X (.BoolOp .And (b::rest) pos) tb):PE X (.BoolOp .And (a::b::rest) pos) (Mw ta tb):=by
 intro Zg s σ H Q I h;refine BoolOp_and (thn (ha Zg s σ H _ I h) fun v s1 ⟨x,H1,I1,r1,q1⟩=>?_);obtain⟨c,rfl,q1⟩:=q1;cases r1;refine wpAny_truthy_bool ?_;cases c with
 | true=>exact hb Zg s1 σ H1 Q I1 q1
 | false=>exact⟨.bl false,H1,I1,rfl,q1⟩
theorem W9(ha:PE X a ta)(hb:PE X (.BoolOp .Or (b::rest) pos) tb):PE X (.BoolOp .Or (a::b::rest) pos) (UB ta tb):=by
 intro Zg s σ H Q I h;refine BoolOp_or (thn (ha Zg s σ H _ I h) fun v s1 ⟨x,H1,I1,r1,q1⟩=>?_);obtain⟨c,rfl,q1⟩:=q1;cases r1;refine wpAny_truthy_bool ?_;cases c with
 | false=>exact hb Zg s1 σ H1 Q I1 q1
 | true=>exact⟨.bl true,H1,I1,rfl,q1⟩
theorem TX(ha:PE X a ta):PE X (.UnaryOp .Not a pos) (MF ta):=by
 intro Zg s σ H Q I h;refine UnaryOp_ (thn (ha Zg s σ H _ I h) fun v s1 ⟨x,H1,I1,r1,q1⟩=>?_);obtain⟨c,rfl,q1⟩:=q1;cases r1;exact not_of (wpAny_truthy_bool ⟨.bl (!c),H1,I1,rfl,q1⟩)
noncomputable def Y1(t:TT)(ta tb:TE):TE:=fun σ H Q=>t σ H fun c H1=>if c=true then ta σ H1 Q else tb σ H1 Q
theorem oR{c:Expr}(hc:PT X c tA)(ha:PE X a ta)(hb:PE X b tb):PE X (.IfExp c a b pos) (Y1 tA ta tb):=by
 intro Zg s σ H Q I h;refine wpAny_IfExp (thn (hc Zg s σ H _ I h) fun d s1 ⟨H1,I1,q1⟩=>?_);cases d with
 | true=>exact ha Zg s1 σ H1 Q I1 q1
 | false=>exact hb Zg s1 σ H1 Q I1 q1
end
noncomputable def dQ(K:q0B)(H:Hp)(a:Addr)(xs:List V):Prop :=
 Rd H a (.lst xs) \/
  ∃(o:Obj) (Zk:Array Value) (n:Nat),K.lookup a=some o/\o.cls=.type "list"/\o.dict=none/\o.data=.seq Zk n/\Zk.size<=sizeLine/\Vals xs Zk.toList
noncomputable def fO(K:q0B)(H:Hp)(a:Addr)(xs:List V):Prop :=
 Rd H a (.tup xs) \/
  ∃(o:Obj) (Zk:Array Value) (n:Nat),K.lookup a=some o/\o.cls=.type "tuple"/\o.data=.seq Zk n/\Zk.size<=sizeLine/\Vals xs Zk.toList
noncomputable def X5:Value->Option V
 | .none=>some .Zj
 | .bool b=>some (.bl b)
 | .int i _=>some (.int i)
 | .str x _=>some (.str x)
 | .bytes b _=>some (.byt b)
 | .float b _=>some (.flt b)
 | .ref a=>some (.ref a)
 | .type n=>some (.ty n)
 | _=>none
theorem bH.abs{x:V}{u:Value}(r:bH x u):X5 u=some x:=by
 cases x with
 | Zj=>cases r;rfl
 | bl _=>cases r;rfl
 | int _=>obtain⟨t,rfl⟩:=r;rfl
 | str _=>obtain⟨t,rfl⟩:=r;rfl
 | byt _=>obtain⟨t,rfl⟩:=r;rfl
 | flt _=>obtain⟨t,rfl⟩:=r;rfl
 | ref _=>cases r;rfl
 | ty _=>cases r;rfl
theorem bH.inj{x y:V}{u:Value}(r:bH x u)(q:bH y u):x=y:=Option.some.inj (r.abs.symm.trans q.abs)
theorem Vals.inj{xs ys:List V}{us:List Value}(h:Vals xs us)(g:Vals ys us):xs=ys:=by
 induction h generalizing ys with
 | nil=>cases g;rfl
 | cons r t ih =>
  cases g with
  | cons r' t'=>rw[r.inj r',ih t']
section
variable {X:Cx} {Zg:List (Addr×Obj)} {σ:St} {H:Hp} {s:Shared} {a:Addr} {xs ys:List V}
theorem dQ.of{K:q0B}(h:H a=some (.lst xs)):dQ K H a xs:=.inl (.inl h)
theorem fO.of{K:q0B}(h:H a=some (.tup xs)):fO K H a xs:=.inl (.inl h)
theorem Zi.list(I:Zi X Zg σ H s)(h:dQ X.K H a xs):∃ Zk:List Value,Vals xs Zk/\PlainL s.heap a Zk.toArray/\xs.length<=sizeLine:=by
 rcases h with h|⟨o,Zk,n,hk,hc,hd,hs,hz,r⟩
 ·obtain⟨z,Zk,n,r,e⟩:=h.ok I.Zl;exact⟨Zk,r,⟨_,n,e,rfl,rfl,rfl⟩,z⟩
 ·refine⟨Zk.toList,r,⟨o,n,I.kIn a o hk,hc,hd,by simpa using hs⟩,?_⟩;have e:=r.length;simp only[Array.length_toList] at e;omega
theorem Zi.tuple(I:Zi X Zg σ H s)(h:fO X.K H a xs):∃ Zk:List Value,Vals xs Zk/\IsTup s.heap a Zk.toArray/\xs.length<=sizeLine:=by
 rcases h with h|⟨o,Zk,n,hk,hc,hs,hz,r⟩
 ·obtain⟨z,Zk,r,p⟩:=h.ok I.Zl;exact⟨Zk,r,p,z⟩
 ·refine⟨Zk.toList,r,⟨o,I.kIn a o hk,hc,n,by simpa using hs⟩,?_⟩;have e:=r.length;simp only[Array.length_toList] at e;omega
theorem Zi.Ei(I:Zi X Zg σ H s)(h:dQ X.K H a xs)(h':dQ X.K H a ys):xs=ys:=by
 obtain⟨Zk,r,⟨o,n,e,_,_,d⟩,_⟩:=I.list h;obtain⟨its',r',⟨o',n',e',_,_,d'⟩,_⟩:=I.list h';rw[e] at e';cases e';rw[d] at d';injection d' with d1 _
 have:Zk=its':=by simpa using congrArg Array.toList d1
 subst this;exact r.inj r'
theorem Zi.Jy(I:Zi X Zg σ H s)(h:fO X.K H a xs)(h':fO X.K H a ys):xs=ys:=by
 obtain⟨Zk,r,⟨o,e,_,n,d⟩,_⟩:=I.tuple h;obtain⟨its',r',⟨o',e',_,n',d'⟩,_⟩:=I.tuple h';rw[e] at e';cases e';rw[d] at d';injection d' with d1 _
 have:Zk=its':=by simpa using congrArg Array.toList d1
 subst this;exact r.inj r'
end
noncomputable abbrev Cx.xA(X:Cx)(E:q0A):Cx:={X with xe:=E}
noncomputable abbrev Cx.nox(X:Cx):Cx:=X.xA fun _ _=>False
theorem Cx.Ok.xA{X:Cx}(ok:X.Ok)(E:q0A):(X.xA E).Ok :=
 ⟨ok.mod,ok.kind,ok.glob,ok.blt,ok.above,ok.inj,ok.has,ok.cab,ok.hd,ok.frames,ok.stk,ok.exf,ok.bs,ok.bsz,ok.IT,ok.Le,ok.sJ,ok.frf⟩
theorem Cx.Ok.lG{X:Cx}{E:q0A}(ok:(X.xA E).Ok):X.Ok :=
 ⟨ok.mod,ok.kind,ok.glob,ok.blt,ok.above,ok.inj,ok.has,ok.cab,ok.hd,ok.frames,ok.stk,ok.exf,ok.bs,ok.bsz,ok.IT,ok.Le,ok.sJ,ok.frf⟩
section
variable {X:Cx} {Zg:List (Addr×Obj)} {σ:St} {H:Hp} {s:Shared} {E:q0A}
theorem Zi.xA(I:Zi X Zg σ H s)(E:q0A):Zi (X.xA E) Zg σ H s:=⟨I.ok.xA E,I.os,I.bare,I.base,I.loc,I.cell,I.free,I.mZ,I.pin,I.Zl,I.len⟩
theorem Zi.lG(I:Zi (X.xA E) Zg σ H s):Zi X Zg σ H s:=⟨I.ok.lG,I.os,I.bare,I.base,I.loc,I.cell,I.free,I.mZ,I.pin,I.Zl,I.len⟩
theorem SP.lG{D:Ends}{f:Flow}{s':Shared}(h:SP (X.xA E) Zg D f s'):SP X Zg D f s':=by
 cases f with
 | next=>obtain⟨σ',H',I,q⟩:=h;exact⟨σ',H',I.lG,q⟩
 | brk=>obtain⟨σ',H',I,q⟩:=h;exact⟨σ',H',I.lG,q⟩
 | cont=>obtain⟨σ',H',I,q⟩:=h;exact⟨σ',H',I.lG,q⟩
 | ret u=>obtain⟨v,σ',H',I,r,q⟩:=h;exact⟨v,σ',H',I.lG,r,q⟩
theorem PE.nox{e:Expr}{t:TE}(h:PE X.nox e t):PE X e t:=fun Zg s σ H Q I hw =>
 wpAny_mono (h Zg s σ H Q (I.xA _) hw) (fun _ _ ⟨v,H',I',r,q⟩=>⟨v,H',I'.lG,r,q⟩) fun _ _ z=>False.elim z
theorem PT.nox{e:Expr}{t:TT}(h:PT X.nox e t):PT X e t:=fun Zg s σ H Q I hw =>
 wpAny_mono (h Zg s σ H Q (I.xA _) hw) (fun _ _ ⟨H',I',q⟩=>⟨H',I'.lG,q⟩) fun _ _ z=>False.elim z
theorem PSs.nox{st:List Stmt}{t:TS}(h:PSs X.nox st t):PSs X st t:=fun Zg s σ H D I hw =>
 wpAny_mono (h Zg s σ H D (I.xA _) hw) (fun _ _ q=>q.lG) fun _ _ z=>False.elim z
end
section
variable {X:Cx} {st:Stmt} {rest:List Stmt} {t u:TS} {e:Expr} {te:TE} {pos:Pos}
noncomputable def ME:TS:=fun D σ H=>D.nx σ H
noncomputable def Pj(t u:TS):TS:=fun D σ H=>t {D with nx:=u D} σ H
theorem bA:PSs X [] ME:=fun _ _ σ H _ I h=>wpAny_execs_nil ⟨σ,H,I,h⟩
theorem aC(h1:PS X st t)(h2:PSs X rest u):PSs X (st::rest) (Pj t u):=by
 intro Zg s σ H D I h;refine wpAny_execs_cons (thn (h1 Zg s σ H {D with nx:=u D} I h) fun f s1 q=>?_);cases f with
 | next =>
  obtain⟨σ',H',I',q⟩:=q;exact h2 Zg s1 σ' H' D I' q
 | ret v=>exact q
 | brk=>exact q
 | cont=>exact q
theorem aI(h1:PS X st t):PSs X [st] t:=by
 intro Zg s σ H D I h;refine wpAny_execs_cons (thn (h1 Zg s σ H D I h) fun f s1 q=>?_);cases f with
 | next=>exact wpAny_execs_nil q
 | ret v=>exact q
 | brk=>exact q
 | cont=>exact q
noncomputable def Uy:TS:=fun D σ H=>D.bk σ H
noncomputable def Xr:TS:=fun D σ H=>D.ct σ H
theorem Zi.quiet{Zg:List (Addr×Obj)}{σ:St}{H:Hp}{s:Shared}(I:Zi X Zg σ H s):interactive X.env=false:=by simp[interactive,I.ok.kind]
noncomputable def MC(te:TE):TS:=fun D σ H=>te σ H fun _ H1=>D.nx σ H1
theorem bQ(he:PE X e te)(hs:swapsWith e none pos.line X.env=pure false:=by rfl):PS X (.Expr e pos) (MC te):=by
 intro Zg s σ H D I h;exact wpAny_Expr_any (thn (he Zg s σ H _ I h) fun v s1 ⟨x,H1,I1,r1,q1⟩=>⟨σ,H1,I1,q1⟩) I.quiet hs
noncomputable def UC(te:TE):TS:=fun D σ H=>te σ H D.rt
theorem aO(he:PE X e te):PS X (.Return (some e) pos) (UC te):=by
 intro Zg s σ H D I h;exact wpAny_Return_some (thn (he Zg s σ H _ I h) fun v s1 ⟨x,H1,I1,r1,q1⟩=>⟨x,σ,H1,I1,r1,q1⟩)
noncomputable def Xw:TS:=fun D _ H=>D.rt .Zj H
noncomputable def MD(c:TT)(t u:TS):TS:=fun D σ H=>c σ H fun b H1=>if b=true then t D σ H1 else u D σ H1
theorem bI{c:Expr}{a b:List Stmt}{tc:TT}(hc:PT X c tc)(ha:PSs X a t)(hb:PSs X b u):PS X (.If c a b pos) (MD tc t u):=by
 intro Zg s σ H D I h;refine wpAny_If (thn (hc Zg s σ H _ I h) fun d s1 ⟨H1,I1,q1⟩=>?_);cases d with
 | true=>exact ha Zg s1 σ H1 D I1 q1
 | false=>exact hb Zg s1 σ H1 D I1 q1
noncomputable def UA:TS:=fun _ _ _=>False
end
noncomputable abbrev TG:=V->St->Hp->(St->Hp->Prop)->Prop
noncomputable abbrev TGs:=List V->St->Hp->(St->Hp->Prop)->Prop
noncomputable def PG(X:Cx)(target:Expr)(t:TG):Prop :=
 ∀(Zg:List (Addr×Obj)) (s:Shared) (σ:St) (H:Hp) (v:V) (u:Value) (Q:St->Hp->Prop),Zi X Zg σ H s->bH v u->t v σ H Q ->
  wpAny (model X.prog X.w) X.A (assign target X.env u) (fun _ s'=>∃ σ' H',Zi X Zg σ' H' s'/\Q σ' H') X.xe s
noncomputable def PGs(X:Cx)(ts:List Expr)(t:TGs):Prop :=
 ∀(Zg:List (Addr×Obj)) (s:Shared) (σ:St) (H:Hp) (vs:List V) (us:List Value) (Q:St->Hp->Prop),Zi X Zg σ H s->Vals vs us->t vs σ H Q ->
  wpAny (model X.prog X.w) X.A (assignInOrder ((assignEach ts X.env).map (·.2)) us) (fun _ s'=>∃ σ' H',Zi X Zg σ' H' s'/\Q σ' H') X.xe s
noncomputable abbrev TSet:=V->V->V->Hp->(Hp->Prop)->Prop
noncomputable def PSet(X:Cx)(t:TSet):Prop :=
 ∀(Zg:List (Addr×Obj)) (s:Shared) (σ:St) (H:Hp) (o i v:V) (ov iv u:Value) (Q:Hp->Prop),Zi X Zg σ H s->bH o ov->bH i iv->bH v u->t o i v H Q ->
  wpAny (model X.prog X.w) X.A (setItem ov iv u) (fun _ s'=>∃ H',Zi X Zg σ H' s'/\Q H') X.xe s
noncomputable abbrev TIp:=V->V->Hp->VK->Prop
noncomputable def PIp(X:Cx)(op:Operator)(t:TIp):Prop :=
 ∀(Zg:List (Addr×Obj)) (s:Shared) (σ:St) (H:Hp) (x y:V) (v u:Value) (Q:VK),Zi X Zg σ H s->bH x v->bH y u->t x y H Q ->
  wpAny (model X.prog X.w) X.A (inplaceOp op v u) (EP X Zg σ Q) X.xe s
section
variable {X:Cx} {pos:Pos}
noncomputable def zQ(i:Nat):TG:=fun v σ H Q=>Q (σ.set i (some v)) H
theorem mK{i:Nat}{x:Str}(hN:X.N.Nodup)(hi:X.N[i]?=some x)(hx:Loc X.env.scope x)(hf:X.fn x=true\/X.env.scope.names.lookup x=some .local:=by first|exact .inl rfl|exact .inr rfl|assumption):PG X (.Name x pos) (zQ i):=by
 intro Zg s σ H v u Q I r h;exact wpAny_assign_Name (Bf I hN hi hx r (fun s' I'=>⟨_,H,I',h⟩) hf)
noncomputable def S8:TGs:=fun vs σ H Q=>vs=[]/\Q σ H
noncomputable def PU(t:TG)(u:TGs):TGs:=fun vs σ H Q=>∃ v r,vs=v::r/\t v σ H fun σ' H'=>u r σ' H' Q
theorem ON:PGs X [] S8:=by
 intro Zg s σ H vs us Q I r h;obtain⟨e,h⟩:=h;subst e;cases r;exact assignInOrder_nil ⟨σ,H,I,h⟩
theorem EH{e:Expr}{es:List Expr}{t:TG}{u:TGs}(h1:PG X e t)(h2:PGs X es u)
    (hs:(assignEach (e::es) X.env).map (·.2)=assign e X.env::(assignEach es X.env).map (·.2):=by rfl):PGs X (e::es) (PU t u):=by
  intro Zg s σ H vs us Q I r h;obtain⟨v,vr,e1,h⟩:=h;subst e1;cases r with
  | cons r rr =>
    rw[hs];refine assignInOrder_cons (thn (h1 Zg s σ H _ _ _ I r h) fun _ s1 ⟨σ1,H1,I1,q1⟩=>?_);exact h2 Zg s1 σ1 H1 _ _ Q I1 rr q1
noncomputable def S9(K:q0B)(n:Nat)(t:TGs):TG:=fun v σ H Q=>∃ a xs,v=.ref a/\fO K H a xs/\xs.length=n/\t xs σ H Q
theorem TZ{es:List Expr}{k:Nat}{t:TGs}{n:Nat}(hc:X.calm=true)(h:PGs X es t)
    (hn:(assignEach es X.env).length=n:=by rfl) (ZM:(assignEach es X.env).findIdx? (·.1)=none:=by rfl):PG X (.Tuple es k pos) (S9 X.K n t):=by
  intro Zg s σ H v u Q I r hw;obtain⟨a,xs,e1,hq,hl,hw⟩:=hw;subst e1;cases r;obtain⟨Zk,rv,ht,hz⟩:=I.tuple hq;refine assign_Tuple_tuple (I.ok.hd hc) ht (by simp[hn,<- hl,rv.length]) ZM fun h' hx=>?_;have I1:Zi X Zg σ H {s with heap:=h'}:=I.kept (t':=s.toks) fun b o e=>hx b o (Nat.ne_of_lt (Heap.lt_size e)) e;exact h Zg _ σ H xs _ Q I1 (by simpa using rv) hw
noncomputable def WE(to ti:TE)(t:TSet):TG:=fun v σ H Q=>to σ H fun o H1=>ti σ H1 fun i H2=>t o i v H2 fun H3=>Q σ H3
theorem L7{o i:Expr}{to ti:TE}{t:TSet}(ho:PE X o to)(hi:PE X i ti)(hs:PSet X t)
    (ha:∀ v,assign (.Subscript o i pos) X.env v=(do
      let ov <- holding [v] (eval o X.env);let iv <- holding [v,ov] (eval i X.env)
      standAt pos
      holding [v,ov,iv] (setItem ov iv v)
      release [v,ov,iv] []):=by intro _;rfl):PG X (.Subscript o i pos) (WE to ti t):=by
  intro Zg s σ H v u Q I r h;rw[ha];refine wpAny_bind (wpAny_holding (thn (ho Zg s σ H _ I h) fun ov s1 ⟨x,H1,I1,r1,q1⟩=>?_));refine wpAny_bind (wpAny_holding (thn (hi Zg s1 σ H1 _ I1 q1) fun iv s2 ⟨y,H2,I2,r2,q2⟩=>?_));refine wpAny_bind (wpAny_standAt (wpAny_bind (wpAny_holding (thn (hs Zg s2 σ H2 x y v ov iv u _ I2 r1 r2 r q2) fun _ s3 ⟨H3,I3,q3⟩=>?_))));exact wpAny_release ⟨σ,H3,I3,q3⟩
noncomputable def Pg(te:TE)(g:TG):TS:=fun D σ H=>te σ H fun x H1=>g x σ H1 D.nx
theorem L9{tg e:Expr}{te:TE}{g:TG}(he:PE X e te)(hg:PG X tg g)(hs:swapsWithSole [tg] e pos.line X.env=pure false:=by rfl)(hw:swappedStores [tg] e X.env=pure none:=by rfl)
    (h1:(assignEach [tg] X.env).map (·.2)=[assign tg X.env]:=by rfl):PS X (.Assign [tg] e pos) (Pg te g):=by
  intro Zg s σ H D I h;refine wpAny_Assign_stores (thn (he Zg s σ H _ I h) fun v s1 ⟨x,H1,I1,r1,q1⟩=>?_) hs hw;rw[h1];exact thn (hg Zg s1 σ H1 x v _ I1 r1 q1) fun _ s2 q=>q
theorem bB{i:Nat}{x:Str}{e:Expr}{te:TE}{pos':Pos}(hN:X.N.Nodup)(hi:X.N[i]?=some x)(hx:Loc X.env.scope x)(he:PE X e te)(hs:swapsWith e (some (.Name x pos')) pos.line X.env=pure false:=by rfl)(hf:X.fn x=true\/X.env.scope.names.lookup x=some .local:=by first|exact .inl rfl|exact .inr rfl|assumption) :
    PS X (.Assign [.Name x pos'] e pos) (Pg te (zQ i)):=by
  intro Zg s σ H D I h;refine wpAny_Assign_Name (thn (he Zg s σ H _ I h) fun v s1 ⟨y,H1,I1,r1,q1⟩=>?_) hs;exact Bf I1 hN hi hx r1 (fun s2 I2=>⟨_,H1,I2,q1⟩) hf
noncomputable def Xq(i:Nat)(te:TE)(ti:TIp):TS:=fun D σ H=>∃ x,σ[i]?=some (some x)/\te σ H fun y H1=>ti x y H1 fun z H2=>D.nx (σ.set i (some z)) H2
theorem T9{i:Nat}{x:Str}{e:Expr}{te:TE}{op:Operator}{ti:TIp}{pos':Pos}(hN:X.N.Nodup)(hi:X.N[i]?=some x)(hx:Loc X.env.scope x)(he:PE X e te)(ho:PIp X op ti)(hf:X.fn x=true\/X.env.scope.names.lookup x=some .local:=by first|exact .inl rfl|exact .inr rfl|assumption) :
    PS X (.AugAssign (.Name x pos') op e pos) (Xq i te ti):=by
  intro Zg s σ H D I h;obtain⟨v,e1,h⟩:=h;obtain⟨m,hn,hl⟩:=I.loc;have vis:Vis X.env.scope x:=by rcases hx with k|k;exact .inl k;exact .inr (.inl k)
  obtain⟨u,r,l⟩:=hl i x v hi e1 vis;refine wpAny_AugAssign_Name ?_;have go:wpAny (model X.prog X.w) X.A (eval e X.env) (fun w s₂=>wpAny (model X.prog X.w) X.A (inplaceOp op u w) (fun r s₃=>wpAny (model X.prog X.w) X.A (storeName X.env x r) (fun _=>SP X Zg D .next) X.xe s₃) X.xe s₂) X.xe s:=by
    refine thn (he Zg s σ H _ I h) fun w s1 ⟨y,H1,I1,r1,q1⟩=>?_;refine thn (ho Zg s1 σ H1 v y u w _ I1 r r1 q1) fun z s2 ⟨zv,H2,I2,r2,q2⟩=>?_;exact Bf I2 hN hi hx r2 (fun s3 I3=>⟨_,H2,I3,q2⟩) hf
  rcases l with⟨hk,hm⟩|⟨hk,c,hc,aaL⟩
  · exact wpAny_loadName_local I.ok.kind hk hn hm go
  · rcases hk with hk|hk
    · exact wpAny_loadName_cell I.ok.kind hk hc aaL go
    · rcases hx with k|k
      · have:X.env.scope.names.lookup x=some .free:=hk;rw[k] at this;cases this
      · have:X.env.scope.names.lookup x=some .free:=hk;rw[k] at this;cases this
noncomputable def Qg(to ti te:TE)(aaI:V->V->Hp->VK->Prop)(tip:TIp)(aaJ:TSet):TS:=fun D σ H=>to σ H fun o H1=>ti σ H1 fun i H2=>aaI o i H2 fun x H3=>te σ H3 fun y H4=>tip x y H4 fun z H5=>aaJ o i z H5 fun H6=>D.nx σ H6
noncomputable def PGet(X:Cx)(t:V->V->Hp->VK->Prop):Prop :=
 ∀(Zg:List (Addr×Obj)) (s:Shared) (σ:St) (H:Hp) (o i:V) (ov iv:Value) (Q:VK),Zi X Zg σ H s->bH o ov->bH i iv->t o i H Q ->
  wpAny (model X.prog X.w) X.A (getItem ov iv) (EP X Zg σ Q) X.xe s
theorem OR{o i e:Expr}{to ti te:TE}{aaI:V->V->Hp->VK->Prop}{tip:TIp}{aaJ:TSet}{op:Operator}{aa1:Pos}(ho:PE X o to)(hi:PE X i ti)(hg:PGet X aaI)(he:PE X e te)(hp:PIp X op tip)(hs:PSet X aaJ)
    (ha:∀ ov iv new,augStore i ov iv new=(do holding [new,ov,iv] (setItem ov iv new);release [new,ov,iv] [];pure .next):=by intros;rfl):PS X (.AugAssign (.Subscript o i aa1) op e pos) (Qg to ti te aaI tip aaJ):=by
  intro Zg s σ H D I h;refine wpAny_AugAssign_SubscriptAny (thn (ho Zg s σ H _ I h) fun ov s1 ⟨x1,H1,I1,r1,q1⟩=>?_) ha;refine thn (hi Zg s1 σ H1 _ I1 q1) fun iv s2 ⟨x2,H2,I2,r2,q2⟩=>?_;refine thn (hg Zg s2 σ H2 x1 x2 ov iv _ I2 r1 r2 q2) fun old s3 ⟨x3,H3,I3,r3,q3⟩=>?_;refine thn (he Zg s3 σ H3 _ I3 q3) fun v s4 ⟨x4,H4,I4,r4,q4⟩=>?_;refine thn (hp Zg s4 σ H4 x3 x4 old v _ I4 r3 r4 q4) fun new s5 ⟨x5,H5,I5,r5,q5⟩=>?_;exact thn (hs Zg s5 σ H5 x1 x2 x5 ov iv new _ I5 r1 r2 r5 q5) fun _ s6 ⟨H6,I6,q6⟩=>⟨σ,H6,I6,q6⟩
noncomputable def Y8(f:Int->Int->Int):TIp:=fun x y H Q=>∃ i j,x=.int i/\y=.int j/\Q (.int (f i j)) H
theorem Td:PIp X .Add (Y8 fun i j=>i+j):=by
 intro Zg s σ H x y v u Q I r1 r2 h;obtain⟨i,j,e1,e2,q⟩:=h;subst e1;subst e2;obtain⟨t,rfl⟩:=r1;obtain⟨t',rfl⟩:=r2;exact iadd_int ⟨.int _,H,I.tok _,⟨_,rfl⟩,q⟩
end
section
variable {X:Cx} {pos:Pos}
noncomputable def UD(c:TT)(tb:TS):TS:=fun D σ H=>∃ W:Nat->St->Hp->Prop,(∃ m,W m σ H)/\∀ m σ H,W m σ H ->
 c σ H fun b H1=>if b=true then ∃ N:St->Hp->Prop,(∀ σ' H',N σ' H'->∃ m',m' < m/\W m' σ' H')/\tb {D with nx:=N,ct:=N,bk:=D.nx} σ H1 else D.nx σ H1
theorem EI{c:Expr}{body:List Stmt}{tc:TT}{tb:TS}(hp:PassesOwn (model X.prog X.w) X.A X.env X.xe)(hc:PT X c tc)(hb:PSs X body tb):PS X (.While c body [] pos) (UD tc tb):=by
 intro Zg s σ H D I h;obtain⟨W,⟨m0,w0⟩,turn⟩:=h;refine wpAny_While (codeAny_whileLoop (fun n s'=>∃ σ' H',Zi X Zg σ' H' s'/\W n σ' H') ?_ m0 ⟨σ,H,I,w0⟩);rintro n s1 ⟨σ1,H1,I1,w1⟩;refine wpAny_passesOwn hp (thn (hc Zg s1 σ1 H1 _ I1 (turn n σ1 H1 w1)) fun b s2 ⟨H2,I2,q2⟩=>?_);cases b with
 | true =>
  obtain⟨N,hN,q2⟩:=q2;rw[if_pos rfl];refine wpAny_passesOwn hp (thn (hb Zg s2 σ1 H2 _ I2 q2) fun f s3 q3=>?_);cases f with
  | next =>
   obtain⟨σ3,H3,I3,n3⟩:=q3;obtain⟨m',hm,w3⟩:=hN σ3 H3 n3;exact⟨m',hm,σ3,H3,I3,w3⟩
  | cont =>
   obtain⟨σ3,H3,I3,n3⟩:=q3;obtain⟨m',hm,w3⟩:=hN σ3 H3 n3;exact⟨m',hm,σ3,H3,I3,w3⟩
  | brk=>exact q3
  | ret v=>exact q3
 | false =>
  rw[if_neg Bool.false_ne_true];exact wpAny_execs_nil ⟨σ1,H2,I2,q2⟩
end
structure It where
 go:Nat->Hp->Prop
 yld:Nat->Hp->V->Hp->Prop
 stop:Nat->Hp->Prop
noncomputable def rT(X:Cx)(Zg:List (Addr×Obj))(H:Hp)(b:Addr):Prop :=
 H b=none/\b≠X.env.locals/\b∉X.fs/\(b∈X.ex\/X.s₀.heap.objs.size<=b)/\(∀ x c,X.env.cells.lookup x=some c->c≠b)/\∀ p∈X.pn++Zg,p.1≠b
theorem Zi.D4{X:Cx}{Zg:List (Addr×Obj)}{σ:St}{H H':Hp}{s:Shared}{b:Addr}(I:Zi X Zg σ H s)(hb:s.heap.objs.size<=b)(hn:H' b=none):rT X Zg H' b:=by
 refine⟨hn,Nat.ne_of_gt (Nat.lt_of_lt_of_le I.lt hb),I.WX hb,.inr (Nat.le_trans I.sz hb),fun x c e z=>?_,fun p hp z=>?_⟩
 ·obtain⟨v,q⟩:=I.cell x c e;exact absurd (Nat.lt_of_lt_of_le q.lt (by rw[z];exact hb)) (Nat.lt_irrefl _)
 ·exact absurd (Nat.lt_of_lt_of_le (Heap.lt_size (I.pin p hp).1) (by rw[z];exact hb)) (Nat.lt_irrefl _)
structure Turn(P:Program)(w:World)(K:q0B)(tg:Expr)(J:It)(fp:List Addr)(it:Addr)(tn:Nat->Heap->Prop):Prop where
 mem:it∈fp
 obj:∀ i h,tn i h->∀ b∈fp,∃ o,h.get? b=some o/\∀ v,o.data≠.cell v
 keep:∀ i h h',tn i h->(∀ b∈fp,∀ o,h.get? b=some o->h'.get? b=some o)->tn i h'
 item:∀(X:Cx),X.prog=P->X.w=w->X.K=K->X.calm=true->∀(i:Nat) (Zg:List (Addr×Obj)) (s:Shared) (σ:St) (H:Hp) (E:q0A),Zi X Zg σ H s->(∀ b∈fp,rT X Zg H b)->tn i s.heap->J.go i H ->
  wpAny (model P w) X.A (pyNext (.ref it)) (fun r s1=>∃ u,r=some u /\
   wpAny (model P w) X.A (letOwnedTupleGo tg (.ref it) u) (fun _ s2=>∃ x H',Zi X Zg σ H' s2/\bH x u/\J.yld i H x H'/\tn (i+1) s2.heap/\∀ b∈fp,H' b=none) E s1) E s
 done:∀(X:Cx),X.prog=P->X.w=w->X.K=K->X.calm=true->∀(i:Nat) (Zg:List (Addr×Obj)) (s:Shared) (σ:St) (H:Hp) (E:q0A),Zi X Zg σ H s->(∀ b∈fp,rT X Zg H b)->tn i s.heap->J.stop i H ->
  wpAny (model P w) X.A (pyNext (.ref it)) (fun r s1=>r=none/\Zi X Zg σ H s1) E s
 self:∀(A:Around) (i:Nat) (s:Shared) (Q:q0A) (E:q0A),tn i s.heap->Q (.ref it) s->wpAny (model P w) A (pyIter (.ref it)) Q E s
noncomputable abbrev TI:=St->Hp->(It->Hp->Prop)->Prop
noncomputable def PIE(X:Cx)(Zg:List (Addr×Obj))(σ:St)(tg:Expr)(R:It->Hp->Prop)(itv:Value)(s2:Shared):Prop :=
 ∃(it:Addr) (fp:List Addr) (tn:Nat->Heap->Prop) (J:It) (H':Hp),itv=.ref it/\Zi X Zg σ H' s2/\Turn X.prog X.w X.K tg J fp it tn/\tn 0 s2.heap/\(∀ b∈fp,rT X Zg H' b)/\R J H'
noncomputable def PI(X:Cx)(tg iter:Expr)(wi:TI):Prop :=
 ∀(Zg:List (Addr×Obj)) (s:Shared) (σ:St) (H:Hp) (R:It->Hp->Prop),Zi X Zg σ H s->wi σ H R ->
  wpAny (model X.prog X.w) X.A (eval iter X.env) (fun v s1=>wpAny (model X.prog X.w) X.A (pyIter v) (PIE X Zg σ tg R) X.xe s1) X.xe s
theorem D7{M:Model}{A:Around}{E:q0A}{s:Shared}{tg:Expr}{it:Addr}{u:Value}{o:Obj}{n:String}{vs:Array Value}{Q:Unit->Shared->Prop}(ho:s.heap.get? it=some o)(hc:o.cls=.type n)(hd:o.data=.fields vs)
    (hn:["enumerate","zip","dict_itemiterator","dict_reverseitemiterator","odict_iterator","itertools.zip_longest","itertools.pairwise"].contains n=false) (hQ:Q () s):wpAny M A (letOwnedTupleGo tg (.ref it) u) Q E s:=by
  unfold letOwnedTupleGo;cases tg<;>first
    | exact wpAny_pure hQ
    | (cases u<;>first
        | exact wpAny_pure hQ
        | (refine wpAny_bind (wpAny_load ho ?_)
           rw[hc,hd];show wpAny M A (if (["enumerate","zip","dict_itemiterator","dict_reverseitemiterator","odict_iterator","itertools.zip_longest","itertools.pairwise"].contains n&&vs[0]?==some (rawInt _))=true then _ else _) Q E s;rw[if_neg (by intro h;rw[hn,Bool.false_and] at h;cases h)];exact wpAny_pure hQ))
noncomputable def Itl(K:q0B)(a:Addr):It :=
 ⟨fun i H=>∃ xs x,dQ K H a xs/\xs[i]?=some x,fun i H x H'=>H'=H/\∀ xs,dQ K H a xs->xs[i]?=some x,fun i H=>∃ xs,dQ K H a xs/\xs.length<=i⟩
noncomputable def Itt(K:q0B)(a:Addr):It :=
 ⟨fun i H=>∃ xs x,fO K H a xs/\xs[i]?=some x,fun i H x H'=>H'=H/\∀ xs,fO K H a xs->xs[i]?=some x,fun i H=>∃ xs,fO K H a xs/\xs.length<=i⟩
noncomputable def Itr(lo:Int)(n:Nat):It:=⟨fun i _=>i < n,fun i H x H'=>H'=H/\x=.int (lo+i),fun i _=>n<=i⟩
theorem JB{P:Program}{w:World}{K:q0B}{tg:Expr}(a it:Addr):Turn P w K tg (Itl K a) [it] it (fun i h=>h.IsListIter it a i) where
 mem:=by simp
 obj:=fun i h st b hb=>by
  have e:b=it:=by simpa using hb
  subst e;obtain⟨o,e,c,d⟩:=st;exact⟨o,e,fun v z=>by rw[d] at z;cases z⟩
 keep:=fun i h h' st k=>st.at fun o e=>k it (by simp) o e
 item:=by
  intro X hP hw hK hc i Zg s σ H E I hf st hg;subst hP hw hK;obtain⟨xs,x,hq,hx⟩:=hg;obtain⟨Zk,rv,p,hz⟩:=I.list hq;obtain⟨u,hu,ru⟩:=rv.get hx;obtain⟨f0,f1,f2,f3,f4,f5⟩:=hf it (by simp);refine wpAny_pyNext_list_item st p.isList (x:=u) (by simpa using hu) fun h' ZR sb=>?_;have I1:Zi X Zg σ H {s with heap:=h'}:=I.turned (t':=s.toks) (fun b o hb e=>(sb.2 b hb).trans e) f0 f1 f3 f4 f5;obtain⟨o,e,c,d⟩:=id ZR;exact⟨u,rfl,D7 (s:={s with heap:=h'}) e c d (by decide) ⟨x,H,I1,ru,⟨rfl,fun ys hy=>by rw[I.Ei hy hq];exact hx⟩,ZR,fun b hb=>(hf b hb).1⟩⟩
 done:=by
  intro X hP hw hK hc i Zg s σ H E I hf st hg;subst hP hw hK;obtain⟨xs,hq,hx⟩:=hg;obtain⟨Zk,rv,p,hz⟩:=I.list hq;obtain⟨f0,f1,f2,f3,f4,f5⟩:=hf it (by simp);have hl:=rv.length;exact wpAny_pyNext_list_end (I.ok.hd hc) st p.isList (by simp;omega) fun h' eb=>⟨rfl,I.turned (t':=s.toks) (fun b o hb e=>eb b o hb e) f0 f1 f3 f4 f5⟩
 self:=fun _ _ _ _ _ st h=>wpAny_pyIter_listiter st h
theorem GG{P:Program}{w:World}{K:q0B}{tg:Expr}(a it:Addr):Turn P w K tg (Itt K a) [it] it (fun i h=>h.IsTupleIter it a i) where
 mem:=by simp
 obj:=fun i h st b hb=>by
  have e:b=it:=by simpa using hb
  subst e;obtain⟨o,e,c,d⟩:=st;exact⟨o,e,fun v z=>by rw[d] at z;cases z⟩
 keep:=fun i h h' st k=>st.at fun o e=>k it (by simp) o e
 item:=by
  intro X hP hw hK hc i Zg s σ H E I hf st hg;subst hP hw hK;obtain⟨xs,x,hq,hx⟩:=hg;obtain⟨Zk,rv,p,hz⟩:=I.tuple hq;obtain⟨u,hu,ru⟩:=rv.get hx;obtain⟨f0,f1,f2,f3,f4,f5⟩:=hf it (by simp);refine wpAny_pyNext_tuple_item st (show s.heap.IsTuple a Zk.toArray from p) (x:=u) (by simpa using hu) fun h' ZR sb=>?_;have I1:Zi X Zg σ H {s with heap:=h'}:=I.turned (t':=s.toks) (fun b o hb e=>(sb.2 b hb).trans e) f0 f1 f3 f4 f5;obtain⟨o,e,c,d⟩:=id ZR;exact⟨u,rfl,D7 (s:={s with heap:=h'}) e c d (by decide) ⟨x,H,I1,ru,⟨rfl,fun ys hy=>by rw[I.Jy hy hq];exact hx⟩,ZR,fun b hb=>(hf b hb).1⟩⟩
 done:=by
  intro X hP hw hK hc i Zg s σ H E I hf st hg;subst hP hw hK;obtain⟨xs,hq,hx⟩:=hg;obtain⟨Zk,rv,p,hz⟩:=I.tuple hq;obtain⟨f0,f1,f2,f3,f4,f5⟩:=hf it (by simp);have hl:=rv.length;exact wpAny_pyNext_tuple_end (I.ok.hd hc) st (show s.heap.IsTuple a Zk.toArray from p) (by simp;omega) fun h' eb=>⟨rfl,I.turned (t':=s.toks) (fun b o hb e=>eb b o hb e) f0 f1 f3 f4 f5⟩
 self:=fun _ _ _ _ _ st h=>wpAny_pyIter_tupleiter st h
theorem GF{P:Program}{w:World}{K:q0B}{tg:Expr}(it:Addr)(lo:Int)(n:Nat):Turn P w K tg (Itr lo n) [it] it (fun i h=>IsRangeIter h it (lo+(i:Nat) * 1) ((n:Int) - (i:Nat)) 1) where
 mem:=by simp
 obj:=fun i h st b hb=>by
  have e:b=it:=by simpa using hb
  subst e;exact⟨_,st,fun v z=>by
   have z':Data.fields _=Data.cell v:=z;cases z'⟩
 keep:=fun i h h' st k=>k it (by simp) _ st
 item:=by
  intro X hP hw hK hc i Zg s σ H E I hf st hg;subst hP hw hK;obtain⟨f0,f1,f2,f3,f4,f5⟩:=hf it (by simp);have W:=Walks.range (prog:=X.prog) (w:=X.w) (I.ok.hd hc) it lo 1 n;refine W.item i s _ _ hg st fun v h' tk hv ZR kk=>?_;obtain⟨t,rfl⟩:=hv;have I1:Zi X Zg σ H {s with heap:=h',toks:=tk}:=I.turned (fun b o hb e=>kk b o (by simpa using hb) e) f0 f1 f3 f4 f5;refine⟨_,rfl,D7 (s:={s with heap:=h',toks:=tk}) (n:="range_iterator") ZR rfl rfl (by decide) ⟨.int (lo+i),H,I1,⟨t,?_⟩,⟨rfl,rfl⟩,ZR,fun b hb=>(hf b hb).1⟩⟩;rw[Int.mul_one]
 done:=by
  intro X hP hw hK hc i Zg s σ H E I hf st hg;subst hP hw hK;obtain⟨f0,f1,f2,f3,f4,f5⟩:=hf it (by simp);exact wpAny_pyNext_range_end (I.ok.hd hc) st (by have:n<=i:=hg;omega) fun h' eb=>⟨rfl,I.turned (t':=s.toks) (fun b o hb e=>eb b o hb e) f0 f1 f3 f4 f5⟩
 self:=fun _ _ _ _ _ st h=>wpAny_pyIter_rangeiter st h
section
variable {X:Cx} {tg:Expr}
noncomputable def D9(K:q0B)(tl:TE):TI:=fun σ H R=>tl σ H fun x H1=>∃ a,x=.ref a/\(∃ xs,dQ K H1 a xs)/\R (Itl K a) H1
noncomputable def FE(K:q0B)(tl:TE):TI:=fun σ H R=>tl σ H fun x H1=>∃ a,x=.ref a/\(∃ xs,fO K H1 a xs)/\R (Itt K a) H1
theorem jI{l:Expr}{tl:TE}(hl:PE X l tl):PI X tg l (D9 X.K tl):=by
 intro Zg s σ H R I h;refine thn (hl Zg s σ H _ I h) fun v s1 ⟨x,H1,I1,r1,q1⟩=>?_;obtain⟨a,e,⟨xs,hq⟩,q⟩:=q1;subst e;cases r1;obtain⟨Zk,rv,p,hz⟩:=I1.list hq;refine wpAny_pyIter_list p.isList ?_;refine⟨s1.heap.objs.size,[s1.heap.objs.size],_,_,H1,rfl,I1.kept (t':=s1.toks) fun b o e=>Heap.get?_push_of_some _ e,JB a _,⟨_,Heap.get?_push_size _ rfl,rfl,rfl⟩,fun b hb=>?_,q⟩;have e:b=s1.heap.objs.size:=by simpa using hb
 subst e;exact I1.D4 (Nat.le_refl _) (I1.Zl.fresh (Nat.le_refl _))
theorem T8{l:Expr}{tl:TE}(hl:PE X l tl):PI X tg l (FE X.K tl):=by
 intro Zg s σ H R I h;refine thn (hl Zg s σ H _ I h) fun v s1 ⟨x,H1,I1,r1,q1⟩=>?_;obtain⟨a,e,⟨xs,hq⟩,q⟩:=q1;subst e;cases r1;obtain⟨Zk,rv,p,hz⟩:=I1.tuple hq;refine wpAny_pyIter_tuple (show s1.heap.IsTuple a Zk.toArray from p) ?_;refine⟨s1.heap.objs.size,[s1.heap.objs.size],_,_,H1,rfl,I1.kept (t':=s1.toks) fun b o e=>Heap.get?_push_of_some _ e,GG a _,⟨_,Heap.get?_push_size _ rfl,rfl,rfl⟩,fun b hb=>?_,q⟩;have e:b=s1.heap.objs.size:=by simpa using hb
 subst e;exact I1.D4 (Nat.le_refl _) (I1.Zl.fresh (Nat.le_refl _))
theorem Mb{Zg:List (Addr×Obj)}{σ:St}{H:Hp}{s:Shared}{R:It->Hp->Prop}{E:q0A}{lo hi:Int}{t u v:Tok}{tk:Nat}(I:Zi X Zg σ H s)(h1:-(2 ^ 62)<=lo)(h2:lo < 2 ^ 62)(h3:-(2 ^ 62)<=hi)(h4:hi < 2 ^ 62)
    (q:R (Itr lo (hi - lo).toNat) H):wpAny (model X.prog X.w) X.A (pyIter (.ref s.heap.objs.size)) (PIE X Zg σ tg R) E {s with heap:=s.heap.push {cls:=.type "range",data:=.fields #[.int lo t,.int hi u,.int 1 v]},toks:=tk}:=by
  refine wpAny_pyIter_range (IsRange.new ..) (small_one h1 h2 h3 h4) ?_;have I1:Zi X Zg σ H {s with heap:=s.heap.push {cls:=.type "range",data:=.fields #[.int lo t,.int hi u,.int 1 v]},toks:=tk}:=I.kept fun b o e=>Heap.get?_push_of_some _ e;refine⟨(s.heap.push {cls:=.type "range",data:=.fields #[.int lo t,.int hi u,.int 1 v]}).objs.size,[(s.heap.push {cls:=.type "range",data:=.fields #[.int lo t,.int hi u,.int 1 v]}).objs.size],_,_,H,rfl,
    I1.kept (t':=tk) fun b o e=>Heap.get?_push_of_some _ e,GF _ lo (hi - lo).toNat,?_,fun b hb=>?_,q⟩
  · have e1:lo+((0:Nat):Int) * 1=lo:=by simp
    have e2:(((hi - lo).toNat:Nat):Int) - ((0:Nat):Int)=Builtin.Range.rangeSize lo hi 1:=by rw[rangeSize_one];split<;>omega
    show IsRangeIter _ _ (lo+((0:Nat):Int) * 1) ((((hi - lo).toNat:Nat):Int) - ((0:Nat):Int)) 1;rw[e1,e2];exact Heap.get?_push_size _ rfl
  · have e:b=(s.heap.push {cls:=.type "range",data:=.fields #[.int lo t,.int hi u,.int 1 v]}).objs.size:=by simpa using hb
    subst e;exact I1.D4 (Nat.le_refl _) (I1.Zl.fresh (Nat.le_refl _))
noncomputable def Ea(ta:TA):TI:=fun σ H R=>ta σ H fun vs H1=>∃ j:Int,vs=[.int j]/\-(2 ^ 62)<=j/\j < 2 ^ 62/\R (Itr 0 j.toNat) H1
noncomputable def PX(ta:TA):TI:=fun σ H R=>ta σ H fun vs H1=>∃ i j:Int,vs=[.int i,.int j]/\(-(2 ^ 62)<=i/\i < 2 ^ 62/\-(2 ^ 62)<=j/\j < 2 ^ 62)/\R (Itr i (j - i).toNat) H1
theorem Cj{a:Expr}{ta:TA}{p pos:Pos}(hg:Gl X "range")(hm:X.mg "range"=none)(ha:PA X [a] ta)(hs:starEach [a] X.env=[(false,eval a X.env)]:=by rfl):PI X tg (.Call (.Name "range" p) [a] [] pos) (Ea ta):=by
 intro Zg s σ H R I h;refine Call_ (qT I hg hm boot_range (PyProof.Rows.callWith_type1 (thn (ha pos Zg s σ H _ I h) fun us s1 ⟨vs,H1,I1,r1,q1⟩=>?_) hs rfl));obtain⟨j,e,q1,q2,q⟩:=q1;subst e;cases r1 with
 | cons r rr =>
  cases rr;obtain⟨t,rfl⟩:=r;exact call_range_1 (Mb I1 (by omega) (by omega) q1 q2 (by simpa using q))
noncomputable def rL(wi:TI)(g:TG)(tb:TS):TS:=fun D σ H=>wi σ H fun J H1=>∃ W:Nat->Nat->St->Hp->Prop,(∃ m,W 0 m σ H1)/\∀ i m σ H,W i m σ H ->
 (J.stop i H/\D.nx σ H)\/(J.go i H/\∃ N:St->Hp->Prop,(∀ σ' H',N σ' H'->∃ m',m' < m/\W (i+1) m' σ' H')/\∀ x H',J.yld i H x H'->g x σ H' fun σ2 H2=>tb {D with nx:=N,ct:=N,bk:=D.nx} σ2 H2)
noncomputable def AE(fp:List Addr)(h:Heap):List (Addr×Obj):=fp.filterMap fun b=>(h.get? b).map fun o=>(b,o)
theorem mG{fp:List Addr}{h:Heap}{b:Addr}{o:Obj}(hb:b∈fp)(e:h.get? b=some o):(b,o)∈AE fp h:=List.mem_filterMap.mpr ⟨b,hb,by rw[e];rfl⟩
theorem IU{fp:List Addr}{h:Heap}{p:Addr×Obj}(hp:p∈AE fp h):p.1∈fp/\h.get? p.1=some p.2:=by
 obtain⟨b,hb,e⟩:=List.mem_filterMap.mp hp;cases q:h.get? b with
 | none=>rw[q] at e;cases e
 | some o =>
  rw[q] at e;have e':(b,o)=p:=Option.some.inj e;subst e';exact⟨hb,q⟩
theorem Zi.pinned{Zg:List (Addr×Obj)}{σ:St}{H:Hp}{s:Shared}{fp:List Addr}(I:Zi X Zg σ H s)(hf:∀ b∈fp,rT X Zg H b)(ho:∀ b∈fp,∃ o,s.heap.get? b=some o/\∀ v,o.data≠.cell v):Zi X (Zg++AE fp s.heap) σ H s :=
 I.tF fun p hp=>(List.mem_append.mp hp).elim (fun z=>I.pin p (List.mem_append_right _ z)) fun z=>by
  obtain⟨hb,e⟩:=IU z;obtain⟨f0,f1,f2,_⟩:=hf p.1 hb;obtain⟨o,e',d⟩:=ho p.1 hb;rw[e] at e';cases e';exact⟨e,f0,f1,f2,d⟩
theorem Zi.Bj{Zg pl:List (Addr×Obj)}{σ:St}{H:Hp}{s:Shared}(I:Zi X (Zg++pl) σ H s):Zi X Zg σ H s:=I.tF fun p hp=>I.pin p (List.mem_append_right _ (List.mem_append_left _ hp))
theorem AF{iter:Expr}{body:List Stmt}{wi:TI}{g:TG}{tb:TS}{pos:Pos}(hp:PassesOwn (model X.prog X.w) X.A X.env X.xe)(hc:X.calm=true)(hi:PI X tg iter wi)(hg:PG X tg g)(hb:PSs X body tb)
    (hs:∀ x,foldedSetIterable iter X.env x=pure x:=by intro _;rfl):PS X (.For tg iter body [] pos) (rL wi g tb):=by
  intro Zg s σ H D I h;refine wpAny_For (thn (hi Zg s σ H _ I h) fun v s1 h1=>thn h1 fun itv s2 h2=>?_) hs;obtain⟨it,fp,tn,J,H2,e,I2,T,st2,f2,W,⟨m0,w0⟩,turn⟩:=h2;subst e
  -- what stays true of the iterator's objects through the loop
  have aaH:∀ {H':Hp},(∀ b∈fp,H' b=none)->∀ b∈fp,rT X Zg H' b:=fun hn b hb=>⟨hn b hb,(f2 b hb).2⟩;refine codeAny_forLoop_any (fun n s'=>∃ i σ' H',Zi X Zg σ' H' s'/\tn i s'.heap/\(∀ b∈fp,H' b=none)/\W i n σ' H') ?_ m0 ⟨0,σ,H2,I2,st2,fun b hb=>(f2 b hb).1,w0⟩;rintro n s3 ⟨i,σ3,H3,I3,st3,fr3,w3⟩;rcases turn i n σ3 H3 w3 with⟨stop,qn⟩|⟨go,N,hN,step⟩
  · refine wpAny_passesOwn hp (thn (T.done X rfl rfl rfl hc i Zg s3 σ3 H3 X.xe I3 (aaH fr3) st3 stop) fun r s4 ⟨hr,I4⟩=>?_);subst hr;exact wpAny_execs_nil ⟨σ3,H3,I4,qn⟩
  · refine wpAny_passesOwn hp (thn (T.item X rfl rfl rfl hc i Zg s3 σ3 H3 X.xe I3 (aaH fr3) st3 go) fun r s4 ⟨u,hr,h4⟩=>?_);subst hr;refine wpAny_passesOwn hp (thn h4 fun _ s5 ⟨x,H5,I5,r5,y5,st5,fr5⟩=>?_);have I5':=I5.pinned (aaH fr5) (T.obj _ _ st5);refine wpAny_passesOwn hp (thn (hg _ s5 σ3 H5 x u _ I5' r5 (step x H5 y5)) fun _ s6 ⟨σ6,H6,I6,q6⟩=>?_);refine wpAny_passesOwn hp (thn (hb _ s6 σ6 H6 _ I6 q6) fun f s7 q7=>?_);have again:∀ {σ7:St} {H7:Hp},Zi X (Zg++AE fp s5.heap) σ7 H7 s7->N σ7 H7->∃ m,m < n/\∃ i σ' H',Zi X Zg σ' H' s7/\tn i s7.heap/\(∀ b∈fp,H' b=none)/\W i m σ' H':=fun {σ7 H7} I7 n7=>by
      obtain⟨m',hm,w7⟩:=hN σ7 H7 n7;refine⟨m',hm,i+1,σ7,H7,I7.Bj,T.keep _ _ _ st5 fun b hb o e=>(I7.pin (b,o) (List.mem_append_right _ (List.mem_append_right _ (mG hb e)))).1,fun b hb=>?_,w7⟩;obtain⟨o,e,d⟩:=T.obj _ _ st5 b hb;exact(I7.pin (b,o) (List.mem_append_right _ (List.mem_append_right _ (mG hb e)))).2.1
    cases f with
    | next=>obtain⟨σ7,H7,I7,n7⟩:=q7;exact again I7 n7
    | cont=>obtain⟨σ7,H7,I7,n7⟩:=q7;exact again I7 n7
    | brk=>obtain⟨σ7,H7,I7,q7⟩:=q7;exact⟨σ7,H7,I7.Bj,q7⟩
    | ret v=>obtain⟨x7,σ7,H7,I7,r7,q7⟩:=q7;exact⟨x7,σ7,H7,I7.Bj,r7,q7⟩
end
theorem zO{K:q0B}{a:Addr}{xs:List V}{g:TG}{tb:TS}{D:Ends}{σ:St}{H:Hp}(Pv:Nat->St->Hp->Prop)(h0:Pv 0 σ H)(hl:∀ i σ H,i<=xs.length->Pv i σ H->dQ K H a xs)
    (hs:∀ i x σ H,xs[i]?=some x->Pv i σ H->g x σ H fun σ2 H2=>tb {D with nx:=Pv (i+1),ct:=Pv (i+1),bk:=D.nx} σ2 H2) (hd:∀ σ H,Pv xs.length σ H->D.nx σ H) :
    ∃ W:Nat->Nat->St->Hp->Prop,(∃ m,W 0 m σ H)/\∀ i m σ H,W i m σ H ->
      ((Itl K a).stop i H/\D.nx σ H)\/((Itl K a).go i H/\∃ N:St->Hp->Prop,(∀ σ' H',N σ' H'->∃ m',m' < m/\W (i+1) m' σ' H')/\∀ x H',(Itl K a).yld i H x H'->g x σ H' fun σ2 H2=>tb {D with nx:=N,ct:=N,bk:=D.nx} σ2 H2):=by
  refine⟨fun i m σ H=>m=xs.length - i/\i<=xs.length/\Pv i σ H,⟨xs.length,by simp,Nat.zero_le _,h0⟩,?_⟩;rintro i m σ H ⟨rfl,hi,p⟩;have q:=hl i σ H hi p;by_cases ZK:i < xs.length
  · refine .inr ⟨⟨xs,xs[i],q,by simp[ZK]⟩,Pv (i+1),fun σ' H' p'=>⟨xs.length - (i+1),by omega,rfl,ZK,p'⟩,fun x H' y=>?_⟩;obtain⟨e,y⟩:=y;subst e;exact hs i x σ _ (y xs q) p
  · have e:i=xs.length:=by omega
    subst e;exact .inl ⟨⟨xs,q,Nat.le_refl _⟩,hd σ H p⟩
noncomputable abbrev R2:=V->V->Hp->VK->Prop
noncomputable def lH(X:Cx)(f:Value->Value->Sem Value)(r:R2):Prop :=
 ∀(Zg:List (Addr×Obj)) (s:Shared) (σ:St) (H:Hp) (x y:V) (v u:Value) (Q:VK),Zi X Zg σ H s->bH x v->bH y u->r x y H Q ->
  wpAny (model X.prog X.w) X.A (f v u) (EP X Zg σ Q) X.xe s
noncomputable def X4(X:Cx)(f:Value->Sem Value)(r:V->Hp->VK->Prop):Prop :=
 ∀(Zg:List (Addr×Obj)) (s:Shared) (σ:St) (H:Hp) (x:V) (v:Value) (Q:VK),Zi X Zg σ H s->bH x v->r x H Q ->
  wpAny (model X.prog X.w) X.A (f v) (EP X Zg σ Q) X.xe s
noncomputable def eX(X:Cx)(f:Value)(r:List V->Hp->VK->Prop):Prop :=
 ∀(Zg:List (Addr×Obj)) (s:Shared) (σ:St) (H:Hp) (xs:List V) (us:List Value) (Q:VK),Zi X Zg σ H s->Vals xs us->r xs H Q ->
  wpAny (model X.prog X.w) X.A (call f us) (EP X Zg σ Q) X.xe s
noncomputable def X3(X:Cx)(r:V->Hp->(Bool->Hp->Prop)->Prop):Prop :=
 ∀(Zg:List (Addr×Obj)) (s:Shared) (σ:St) (H:Hp) (x:V) (v:Value) (Q:Bool->Hp->Prop),Zi X Zg σ H s->bH x v->r x H Q ->
  wpAny (model X.prog X.w) X.A (truthy v) (TP X Zg σ Q) X.xe s
noncomputable def UK(r:R2)(ta tb:TE):TE:=fun σ H Q=>ta σ H fun x H1=>tb σ H1 fun y H2=>r x y H2 Q
noncomputable def Y5(r:V->Hp->VK->Prop)(ta:TE):TE:=fun σ H Q=>ta σ H fun x H1=>r x H1 Q
noncomputable def rI(C:Int->Int->Prop)(g:Int->Int->V):R2:=fun x y H Q=>∃ i j,x=.int i/\y=.int j/\C i j/\Q (g i j) H
noncomputable def OW(g:Int->Int->V):R2:=fun x y H Q=>∃ i j,x=.int i/\y=.int j/\Q (g i j) H
noncomputable def rU(g:Int->V):V->Hp->VK->Prop:=fun x H Q=>∃ i,x=.int i/\Q (g i) H
section
variable {X:Cx} {a b c:Expr} {ta tb tc:TE} {pos:Pos}
theorem QO(ha:PE X a ta)(hb:PE X b tb){Zg:List (Addr×Obj)}{s:Shared}{σ:St}{H:Hp}{R:V->V->Hp->Prop}(I:Zi X Zg σ H s)
    (h:ta σ H fun x H1=>tb σ H1 fun y H2=>R x y H2) {Q:q0A} {f:Value->Value->Sem Value}
    (hf:∀ v u s2 x y H2,Zi X Zg σ H2 s2->bH x v->bH y u->R x y H2->wpAny (model X.prog X.w) X.A (f v u) Q X.xe s2) :
    wpAny (model X.prog X.w) X.A (eval a X.env) (fun v s₁=>wpAny (model X.prog X.w) X.A (eval b X.env) (fun u s₂=>wpAny (model X.prog X.w) X.A (f v u) Q X.xe s₂) X.xe s₁) X.xe s:=by
  refine thn (ha Zg s σ H _ I h) fun v s1 ⟨x,H1,I1,r1,q1⟩=>?_;refine thn (hb Zg s1 σ H1 _ I1 q1) fun u s2 ⟨y,H2,I2,r2,q2⟩=>?_;exact hf v u s2 x y H2 I2 r1 r2 q2
theorem bW{op:Operator}{r:R2}(ho:lH X (binaryOp op) r)(ha:PE X a ta)(hb:PE X b tb):PE X (.BinOp a op b pos) (UK r ta tb):=by
 intro Zg s σ H Q I h;exact wpAny_BinOp (QO ha hb I h fun v u s2 x y H2 I2 rx ry q=>ho Zg s2 σ H2 x y v u Q I2 rx ry q)
theorem AB{op:UnaryOp}{r:V->Hp->VK->Prop}(ho:X4 X (unaryOp op) r)(ha:PE X a ta):PE X (.UnaryOp op a pos) (Y5 r ta):=by
 intro Zg s σ H Q I h;exact UnaryOp_ (thn (ha Zg s σ H _ I h) fun v s1 ⟨x,H1,I1,r1,q1⟩=>ho Zg s1 σ H1 x v Q I1 r1 q1)
theorem XZ{f:Value->Value->Sem Value}{C:Int->Int->Prop}{g:Int->Int->Int}
    (rule:∀(i j:Int) (t u:Tok) (s:Shared) (Q:q0A) (E:q0A),C i j->Q (.int (g i j) s.toks) {s with toks:=s.toks+1}->wpAny (model X.prog X.w) X.A (f (.int i t) (.int j u)) Q E s) :
    lH X f (rI C fun i j=>.int (g i j)):=by
  intro Zg s σ H x y v u Q I rx ry h;obtain⟨i,j,rfl,rfl,hc,q⟩:=h;obtain⟨t,rfl⟩:=rx;obtain⟨t',rfl⟩:=ry;exact rule i j t t' s _ _ hc ⟨.int (g i j),H,I.tok _,⟨_,rfl⟩,q⟩
theorem WY{f:Value->Value->Sem Value}{g:Int->Int->Int}
    (rule:∀(i j:Int) (t u:Tok) (s:Shared) (Q:q0A) (E:q0A),Q (.int (g i j) s.toks) {s with toks:=s.toks+1}->wpAny (model X.prog X.w) X.A (f (.int i t) (.int j u)) Q E s) :
    lH X f (OW fun i j=>.int (g i j)):=by
  intro Zg s σ H x y v u Q I rx ry h;obtain⟨i,j,rfl,rfl,q⟩:=h;obtain⟨t,rfl⟩:=rx;obtain⟨t',rfl⟩:=ry;exact rule i j t t' s _ _ ⟨.int (g i j),H,I.tok _,⟨_,rfl⟩,q⟩
theorem TH{f:Value->Value->Sem Value}{g:Int->Int->Bool}
    (rule:∀(i j:Int) (t u:Tok) (s:Shared) (Q:q0A) (E:q0A),Q (.bool (g i j)) s->wpAny (model X.prog X.w) X.A (f (.int i t) (.int j u)) Q E s) :
    lH X f (OW fun i j=>.bl (g i j)):=by
  intro Zg s σ H x y v u Q I rx ry h;obtain⟨i,j,rfl,rfl,q⟩:=h;obtain⟨t,rfl⟩:=rx;obtain⟨t',rfl⟩:=ry;exact rule i j t t' s _ _ ⟨.bl (g i j),H,I,rfl,q⟩
noncomputable def CPow(i j:Int):Prop:=0<=j/\j<=1000000/\i.natAbs < 2 ^ 64
noncomputable def CMul(i j:Int):Prop:=(-(2 ^ 64) < i/\i < 2 ^ 64)\/(-(2 ^ 64) < j/\j < 2 ^ 64)
theorem CMul.ok{i j:Int}(h:CMul i j):IntMulOk i j:=by
 rcases h with⟨h1,h2⟩|⟨h1,h2⟩
 ·exact .of_left (intBits_le_64 h1 h2)
 ·exact .of_right (intBits_le_64 h1 h2)
theorem TK:lH X (binaryOp .Add) (OW fun i j=>.int (i+j)):=WY fun _ _ _ _ _ _ _ q=>add_int q
theorem oP:lH X (binaryOp .Sub) (OW fun i j=>.int (i - j)):=WY fun _ _ _ _ _ _ _ q=>sub_int q
theorem Gd:lH X (binaryOp .Mult) (rI CMul fun i j=>.int (i * j)):=XZ fun _ _ _ _ _ _ _ hc q=>mul_int q hc.ok
theorem q9:lH X (binaryOp .Mod) (rI (fun _ j=>0 < j) fun i j=>.int (i % j)):=XZ fun i j _ _ _ _ _ hc q=>by
 have h1:(0:Int) < j:=hc;exact mod_int' (by omega) (by rw[Int.fmod_eq_emod_of_nonneg i (by omega)];exact q)
theorem TR:lH X (binaryOp .Pow) (rI CPow fun i j=>.int (i ^ j.toNat)):=XZ fun _ _ _ _ _ _ _ hc q=>pow_int_small hc.1 hc.2.1 hc.2.2 q
theorem Ze{f:Value->Sem Value}{g:Int->Int}
    (rule:∀(i:Int) (t:Tok) (s:Shared) (Q:q0A) (E:q0A),Q (.int (g i) s.toks) {s with toks:=s.toks+1}->wpAny (model X.prog X.w) X.A (f (.int i t)) Q E s) :
    X4 X f (rU fun i=>.int (g i)):=by
  intro Zg s σ H x v Q I rx h;obtain⟨i,rfl,q⟩:=h;obtain⟨t,rfl⟩:=rx;exact rule i t s _ _ ⟨.int (g i),H,I.tok _,⟨_,rfl⟩,q⟩
theorem rO:X4 X (unaryOp .USub) (rU fun i=>.int (-i)):=Ze fun _ _ _ _ _ q=>neg_int q
end
noncomputable def scal:V->V->Bool
 | .Zj,.Zj=>true | .Zj,.int _=>true | .int _,.Zj=>true | .Zj,.bl _=>true | .bl _,.Zj=>true | .Zj,.str _=>true | .str _,.Zj=>true
 | .int _,.int _=>true | .bl _,.bl _=>true | .str _,.str _=>true | .byt _,.byt _=>true
 | .int _,.str _=>true | .str _,.int _=>true | .bl _,.str _=>true | .str _,.bl _=>true
 | _,_=>false
noncomputable def EL:R2:=fun x y H Q=>scal x y=true/\Q (.bl (decide (x=y))) H
noncomputable def Ud:R2:=fun x y H Q=>scal x y=true/\Q (.bl (!decide (x=y))) H
theorem GY{i j:Int}:decide (V.int i=V.int j)=(i==j):=by
 rw[Bool.eq_iff_iff];simp
theorem Kb{i j:Bool}:decide (V.bl i=V.bl j)=(i==j):=by
 rw[Bool.eq_iff_iff];simp
theorem GZ{i j:Str}:decide (V.str i=V.str j)=(i==j):=by
 rw[Bool.eq_iff_iff];simp
theorem GX{i j:Array UInt8}:decide (V.byt i=V.byt j)=(i.toList==j.toList):=by
 rw[Bool.eq_iff_iff];cases i;cases j;simp
section
variable {X:Cx} {a b c:Expr} {ta tb tc:TE} {pos:Pos}
theorem bR{Zg:List (Addr×Obj)}{σ:St}{H:Hp}{s:Shared}{Q:VK}{k k':Bool}(I:Zi X Zg σ H s)(q:Q (.bl k) H)(e:k=k'):EP X Zg σ Q (.bool k') s:=by
 subst e;exact⟨.bl k,H,I,rfl,q⟩
theorem cX:lH X (compareOp .Eq) EL:=by
 intro Zg s σ H x y v u Q I rx ry h;obtain⟨hs,q⟩:=h;cases x with
 | Zj =>
  cases rx;cases y with
  | Zj=>cases ry;exact PySem.EqNone.eq_none_none (bR I q (by simp))
  | bl j=>cases ry;exact PySem.EqNone.eq_none_bool (bR I q (by simp))
  | int j=>obtain⟨t',rfl⟩:=ry;exact PySem.EqNone.eq_none_int (bR I q (by simp))
  | str j=>obtain⟨t',rfl⟩:=ry;exact PySem.EqNone.eq_none_str (bR I q (by simp))
  | _=>exact absurd (show false=true from hs) Bool.false_ne_true
 | bl i =>
  cases rx;cases y with
  | Zj=>cases ry;exact PySem.EqNone.eq_bool_none (bR I q (by simp))
  | bl j=>cases ry;exact eq_bool (bR I q Kb)
  | str j=>obtain⟨t',rfl⟩:=ry;exact PySem.EqMixed.eq_bool_str (bR I q (by simp))
  | _=>exact absurd (show false=true from hs) Bool.false_ne_true
 | int i =>
  obtain⟨t,rfl⟩:=rx;cases y with
  | Zj=>cases ry;exact PySem.EqNone.eq_int_none (bR I q (by simp))
  | int j=>obtain⟨t',rfl⟩:=ry;exact eq_int (bR I q GY)
  | str j=>obtain⟨t',rfl⟩:=ry;exact PySem.EqMixed.eq_int_str (bR I q (by simp))
  | _=>exact absurd (show false=true from hs) Bool.false_ne_true
 | str i =>
  obtain⟨t,rfl⟩:=rx;cases y with
  | Zj=>cases ry;exact PySem.EqNone.eq_str_none (bR I q (by simp))
  | bl j=>cases ry;exact PySem.EqMixed.eq_str_bool (bR I q (by simp))
  | int j=>obtain⟨t',rfl⟩:=ry;exact PySem.EqMixed.eq_str_int (bR I q (by simp))
  | str j=>obtain⟨t',rfl⟩:=ry;exact eq_str (bR I q GZ)
  | _=>exact absurd (show false=true from hs) Bool.false_ne_true
 | byt i =>
  obtain⟨t,rfl⟩:=rx;cases y with
  | byt j=>obtain⟨t',rfl⟩:=ry;exact PySem.W.eq_bytes (bR I q GX)
  | _=>exact absurd (show false=true from hs) Bool.false_ne_true
 | _=>cases y<;>exact absurd (show false=true from hs) Bool.false_ne_true
theorem P5:lH X (compareOp .NotEq) Ud:=by
 intro Zg s σ H x y v u Q I rx ry h;obtain⟨hs,q⟩:=h;cases x with
 | Zj =>
  cases rx;cases y with
  | Zj=>cases ry;exact PySem.EqNone.ne_none_none (bR I q (by simp))
  | bl j=>cases ry;exact PySem.EqNone.ne_none_bool (bR I q (by simp))
  | int j=>obtain⟨t',rfl⟩:=ry;exact PySem.EqNone.ne_none_int (bR I q (by simp))
  | str j=>obtain⟨t',rfl⟩:=ry;exact PySem.EqNone.ne_none_str (bR I q (by simp))
  | _=>exact absurd (show false=true from hs) Bool.false_ne_true
 | bl i =>
  cases rx;cases y with
  | Zj=>cases ry;exact PySem.EqNone.ne_bool_none (bR I q (by simp))
  | bl j=>cases ry;exact ne_bool (bR I q (congrArg not Kb))
  | str j=>obtain⟨t',rfl⟩:=ry;exact PySem.EqMixed.ne_bool_str (bR I q (by simp))
  | _=>exact absurd (show false=true from hs) Bool.false_ne_true
 | int i =>
  obtain⟨t,rfl⟩:=rx;cases y with
  | Zj=>cases ry;exact PySem.EqNone.ne_int_none (bR I q (by simp))
  | int j=>obtain⟨t',rfl⟩:=ry;exact ne_int (bR I q (congrArg not GY))
  | str j=>obtain⟨t',rfl⟩:=ry;exact PySem.EqMixed.ne_int_str (bR I q (by simp))
  | _=>exact absurd (show false=true from hs) Bool.false_ne_true
 | str i =>
  obtain⟨t,rfl⟩:=rx;cases y with
  | Zj=>cases ry;exact PySem.EqNone.ne_str_none (bR I q (by simp))
  | bl j=>cases ry;exact PySem.EqMixed.ne_str_bool (bR I q (by simp))
  | int j=>obtain⟨t',rfl⟩:=ry;exact PySem.EqMixed.ne_str_int (bR I q (by simp))
  | str j=>obtain⟨t',rfl⟩:=ry;exact ne_str (bR I q (congrArg not GZ))
  | _=>exact absurd (show false=true from hs) Bool.false_ne_true
 | byt i =>
  obtain⟨t,rfl⟩:=rx;cases y with
  | byt j=>obtain⟨t',rfl⟩:=ry;exact PySem.W.ne_bytes (bR I q (congrArg not GX))
  | _=>exact absurd (show false=true from hs) Bool.false_ne_true
 | _=>cases y<;>exact absurd (show false=true from hs) Bool.false_ne_true
theorem kX:lH X (compareOp .Lt) (OW fun i j=>.bl (decide (i < j))):=TH fun _ _ _ _ _ _ _ q=>lt_int q
theorem WZ:lH X (compareOp .LtE) (OW fun i j=>.bl (decide (i<=j))):=TH fun _ _ _ _ _ _ _ q=>le_int q
theorem LZ:lH X (compareOp .Gt) (OW fun i j=>.bl (decide (j < i))):=TH fun _ _ _ _ _ _ _ q=>gt_int q
theorem TQ:lH X (compareOp .Is) (fun x y H Q=>y=.Zj/\Q (.bl (decide (x=.Zj))) H):=by
 intro Zg s σ H x y v u Q I rx ry h;obtain⟨rfl,q⟩:=h;cases ry;refine is_none_gen (bR I q ?_);cases x<;>first
  | (cases rx;rfl)
  | (obtain⟨t,rfl⟩:=rx;rfl)
theorem OL:lH X (compareOp .IsNot) (fun x y H Q=>y=.Zj/\Q (.bl (!decide (x=.Zj))) H):=by
 intro Zg s σ H x y v u Q I rx ry h;obtain⟨rfl,q⟩:=h;cases ry;refine isnot_none_gen (bR I q ?_);cases x<;>first
  | (cases rx;rfl)
  | (obtain⟨t,rfl⟩:=rx;rfl)
theorem lH.or{f:Value->Value->Sem Value}{r r':R2}(h:lH X f r)(h':lH X f r'):lH X f (fun x y H Q=>r x y H Q\/r' x y H Q):=by
 intro Zg s σ H x y v u Q I rx ry q;rcases q with q|q
 ·exact h Zg s σ H x y v u Q I rx ry q
 ·exact h' Zg s σ H x y v u Q I rx ry q
theorem nomark(b:Expr){op:CmpOp}(h:op≠.In:=by decide)(h2:op≠.NotIn:=by decide):behindInMarks op b=false:=by
 have e1:(op==CmpOp.In)=false:=by cases op<;>first|rfl|exact absurd rfl h
 have e2:(op==CmpOp.NotIn)=false:=by cases op<;>first|rfl|exact absurd rfl h2
 cases b<;>simp[behindInMarks,e1,e2]
theorem kY{op:CmpOp}{r:R2}(ho:lH X (compareOp op) r)(ha:PE X a ta)(hb:PE X b tb)(hm:behindInMarks op b=false):PE X (.Compare a [op] [b] pos) (UK r ta tb):=by
 intro Zg s σ H Q I h;exact wpAny_Compare1 (QO ha hb I h fun v u s2 x y H2 I2 rx ry q=>ho Zg s2 σ H2 x y v u Q I2 rx ry q) hm
noncomputable def EZ(t:TE):TT:=fun σ H Q=>t σ H fun x H'=>∃ k,x=.bl k/\Q k H'
theorem aT{op:CmpOp}{r:R2}(ho:lH X (compareOp op) r)(ha:PE X a ta)(hb:PE X b tb)(hm:behindInMarks op b=false):PT X (.Compare a [op] [b] pos) (EZ (UK r ta tb)):=by
 intro Zg s σ H Q I h;refine wpAny_isTrue_Compare1 (thn (ha Zg s σ H _ I h) fun v s1 ⟨x,H1,I1,r1,q1⟩=>thn (hb Zg s1 σ H1 _ I1 q1) fun u s2 ⟨y,H2,I2,r2,q2⟩ =>
  thn (ho Zg s2 σ H2 x y v u _ I2 r1 r2 q2) fun c s3 ⟨z,H3,I3,r3,k,e,q3⟩=>?_) hm
 subst e;cases r3;exact wpAny_truthy_bool ⟨H3,I3,q3⟩
noncomputable def My(r r':R2)(ta tb tc:TE):TE:=fun σ H Q=>ta σ H fun x H1=>tb σ H1 fun y H2=>r x y H2 fun z H3=>∃ k,z=.bl k /\
 (if k=true then tc σ H3 fun w' H4=>r' y w' H4 Q else Q (.bl false) H3)
noncomputable def UP(K:q0B)(x:V)(H:Hp)(k:Bool):Prop :=
 match x with
 | .Zj=>k=false
 | .bl b=>k=b
 | .int i=>k=(i !=0)
 | .str y=>y.length<=sizeLine/\k=((y.length:Int) !=0)
 | .byt y=>y.size<=sizeLine/\k=((y.size:Int) !=0)
 | .ref p=>(∃ xs,dQ K H p xs/\k = !xs.isEmpty)\/(∃ xs,fO K H p xs/\k = !xs.isEmpty)\/∃ kvs,H p=some (.dK kvs)/\k = !kvs.isEmpty
 | _=>False
theorem FI{κ:Type}{kvs:List (κ×V)}{vs:List (κ×Value)}(r:KV kvs vs):(!vs.isEmpty) = !kvs.isEmpty:=by
 cases r<;>rfl
theorem zU{xs:List V}{Zk:List Value}(r:Vals xs Zk):(!Zk.toArray.isEmpty) = !xs.isEmpty:=by
 cases r<;>simp
theorem line63:(sizeLine:Nat) < 2 ^ 63:=by rw[sizeLine_eq];decide
theorem UG:X3 X (fun x H Q=>∃ k,UP X.K x H k/\Q k H):=by
 intro Zg s σ H x v Q I rx h;obtain⟨k,e,q⟩:=h;have hl:=line63;have hs:sizeLine=16777216:=sizeLine_eq;cases x with
 | Zj =>
  cases rx;have e':k=false:=e;subst e';exact truthy_none ⟨H,I,q⟩
 | bl b =>
  cases rx;have e':k=b:=e;subst e';exact wpAny_truthy_bool ⟨H,I,q⟩
 | int i =>
  obtain⟨t,rfl⟩:=rx;have e':k=(i !=0):=e;subst e';exact PySem.P.truthy_int ⟨H,I,q⟩
 | str y =>
  obtain⟨t,rfl⟩:=rx;obtain⟨hy,e'⟩:y.length<=sizeLine/\k=((y.length:Int) !=0):=e;subst e';exact PySem.P.truthy_str (by omega) ⟨H,I.tok _,q⟩
 | byt y =>
  obtain⟨t,rfl⟩:=rx;obtain⟨hy,e'⟩:y.size<=sizeLine/\k=((y.size:Int) !=0):=e;subst e';exact PySem.W.truthy_bytes (by omega) ⟨H,I.tok _,q⟩
 | ref p =>
  cases rx;have e':(∃ xs,dQ X.K H p xs/\k = !xs.isEmpty)\/(∃ xs,fO X.K H p xs/\k = !xs.isEmpty)\/∃ kvs,H p=some (.dK kvs)/\k = !kvs.isEmpty:=e;rcases e' with⟨xs,hx,e'⟩|⟨xs,hx,e'⟩|⟨kvs,hx,e'⟩
  ·subst e';obtain⟨Zk,r,pl,hz⟩:=I.list hx;have hlen:=r.length;exact wpAny_truthy_list pl.isList (by simp only[List.size_toArray];omega) ⟨H,I.tok _,by rw[zU r];exact q⟩
  ·subst e';obtain⟨Zk,r,pl,hz⟩:=I.tuple hx;have hlen:=r.length;exact truthy_tuple pl (by simp only[List.size_toArray];omega) ⟨H,I.tok _,by rw[zU r];exact q⟩
  ·subst e';obtain⟨hz,hS,vs,r,m⟩:kvs.length<=sizeLine/\(p==sysModules)=false/\∃ vs,KV kvs vs/\s.heap.DictOf (bU X.prog X.w) p vs:=I.Zl p _ hx;have hlen:kvs.length=vs.length:=Paired.length r;exact wpAny_truthy_dict hS m (by omega) ⟨H,I.tok _,by rw[FI r];exact q⟩
 | _=>exact(show False from e).elim
theorem Gb:lH X (binaryOp .Add) (fun x y H Q=>∃ i j,x=.str i/\y=.str j/\i.length+j.length<=sizeLine/\Q (.str (i++j)) H):=by
 intro Zg s σ H x y v u Q I rx ry h;obtain⟨i,j,rfl,rfl,hz,q⟩:=h;obtain⟨t,rfl⟩:=rx;obtain⟨t',rfl⟩:=ry;exact add_str (fun t' tk=>⟨.str (i++j),H,I.tok _,⟨_,rfl⟩,q⟩) hz
theorem vals1{x:V}{us:List Value}(r:Vals [x] us):∃ u,us=[u]/\bH x u:=by
 cases r with
 | cons r1 r2=>cases r2;exact⟨_,rfl,r1⟩
theorem vals2{x y:V}{us:List Value}(r:Vals [x,y] us):∃ u w',us=[u,w']/\bH x u/\bH y w':=by
 cases r with
 | cons r1 r2 =>
  cases r2 with
  | cons r3 r4=>cases r4;exact⟨_,_,rfl,r1,r3⟩
theorem Ia(hc:X.calm=true):eX X (.builtin "max") (fun xs H Q=>∃ i j,xs=[.int i,.int j]/\Q (.int (if j > i then j else i)) H):=by
 intro Zg s σ H xs us Q I r h;obtain⟨i,j,rfl,q⟩:=h;obtain⟨u,w',rfl,⟨t,rfl⟩,⟨t',rfl⟩⟩:=vals2 r;refine max_two_ints (I.ok.hd hc) fun h' tk k=>⟨_,H,I.kept k,?_,q⟩;by_cases hj:j > i
 ·rw[if_pos hj,if_pos hj];exact⟨_,rfl⟩
 ·rw[if_neg hj,if_neg hj];exact⟨_,rfl⟩
theorem Ib(hc:X.calm=true):eX X (.builtin "min") (fun xs H Q=>∃ i j,xs=[.int i,.int j]/\Q (.int (if j < i then j else i)) H):=by
 intro Zg s σ H xs us Q I r h;obtain⟨i,j,rfl,q⟩:=h;obtain⟨u,w',rfl,⟨t,rfl⟩,⟨t',rfl⟩⟩:=vals2 r;refine min_two_ints (I.ok.hd hc) fun h' tk k=>⟨_,H,I.kept k,?_,q⟩;by_cases hj:j < i
 ·rw[if_pos hj,if_pos hj];exact⟨_,rfl⟩
 ·rw[if_neg hj,if_neg hj];exact⟨_,rfl⟩
noncomputable def X2(K:q0B)(x:V)(H:Hp)(n:Nat):Prop :=
 match x with
 | .str y=>y.length<=sizeLine/\n=y.length
 | .byt y=>y.size<=sizeLine/\n=y.size
 | .ref p=>(∃ xs,dQ K H p xs/\n=xs.length)\/∃ xs,fO K H p xs/\n=xs.length
 | _=>False
theorem yM:eX X (.builtin "len") (fun xs H Q=>∃ x n,xs=[x]/\X2 X.K x H n/\Q (.int n) H):=by
 intro Zg s σ H xs us Q I r h;obtain⟨x,n,rfl,e,q⟩:=h;obtain⟨u,rfl,rx⟩:=vals1 r;have hl:=line63;have hs:sizeLine=16777216:=sizeLine_eq;cases x with
 | str y =>
  obtain⟨t,rfl⟩:=rx;obtain⟨hy,e'⟩:y.length<=sizeLine/\n=y.length:=e;subst e';exact len_str (by omega) ⟨.int _,H,I.tok _,⟨_,rfl⟩,q⟩
 | byt y =>
  obtain⟨t,rfl⟩:=rx;obtain⟨hy,e'⟩:y.size<=sizeLine/\n=y.size:=e;subst e';exact PySem.W.len_bytes (by omega) ⟨.int _,H,I.tok _,⟨_,rfl⟩,q⟩
 | ref p =>
  cases rx;have e':(∃ xs,dQ X.K H p xs/\n=xs.length)\/∃ xs,fO X.K H p xs/\n=xs.length:=e;rcases e' with⟨xs,hx,e'⟩|⟨xs,hx,e'⟩
  ·subst e';obtain⟨Zk,r',pl,hz⟩:=I.list hx;have hlen:=r'.length;exact Calls.call_len_list pl.isList (by simp only[List.size_toArray];omega) ⟨.int xs.length,H,I.tok _,⟨_,by simp only[List.size_toArray];rw[hlen]⟩,q⟩
  ·subst e';obtain⟨Zk,r',pl,hz⟩:=I.tuple hx;have hlen:=r'.length;exact len_tuple pl (by simp only[List.size_toArray];omega) ⟨.int xs.length,H,I.tok _,⟨_,by simp only[List.size_toArray];rw[hlen]⟩,q⟩
 | _=>exact(show False from e).elim
end
structure E6(h:Heap)(x dx C:Addr)(mA:q0C):Prop where
 obj:h.get? x=some (PySem.W.instObj C dx)
 ns:h.Ns1 dx mA
 ne:dx≠x
theorem IJ{h:Heap}{dx:Addr}{mA:q0C}(n:h.Ns1 dx mA):∃ od,h.get? dx=some od/\∀ name,PySem.W.lookIn name od=some (mA name):=by
 obtain⟨o,es,ep,ho,hd,hk,_,hm⟩:=n;refine⟨o,ho,fun name=>?_⟩;have e:=hm name;unfold nsFind findBy at e;rw[<- Array.find?_toList] at e;unfold PySem.W.lookIn;rw[hd];dsimp only;split
 ·rename_i y q
  rw[q] at e;exact congrArg some e
 ·rename_i q
  rw[q] at e;have a:es.toList.any (·.refKey)=false:=by
   rw[List.any_eq_false];intro y hy;obtain⟨z,t,aaS⟩:=hk y (Array.mem_toList_iff.mp hy);simp[DictEntry.refKey,aaS]
  have a':¬ es.toList.any (·.refKey)=true:=by rw[a];exact Bool.false_ne_true
  rw[if_neg a'];exact congrArg some e
theorem E6.look{h:Heap}{x dx C:Addr}{mA:q0C}(I:E6 h x dx C mA):∃ od,PySem.W.InstAt h x (PySem.W.instObj C dx) C (some od)/\∀ name,PySem.W.lookIn name od=some (mA name) :=
 let ⟨od,ho,hl⟩:=IJ I.ns
 ⟨od,⟨I.obj,rfl,rfl,ho⟩,hl⟩
section
variable {prog:Program} {w:World} {A:Around} {E:q0A} {s:Shared} {K:q0B} {x dx C f:Addr} {mA:q0C} {name:Str} {v:Value}
theorem Oo{expr:Bool}{Q:q0A}(X:K.In s.heap)(I:E6 s.heap x dx C mA)(hg:PySem.W.plainGet K C name=true)(hh:PySem.W.hasDictIn K C=true)
    (ha:PySem.W.findIn K (.ref C) name=some none) (hv:mA name=some v) (hv':PySem.W.handedIn v=true) (h:Q v {s with toks:=s.toks+1}) :
    wpAny (model prog w) A (getAttr (.ref x) name expr) Q E s:=by
  obtain⟨od,J,hl⟩:=I.look;exact PySem.W.get_value X J (PySem.W.plainGet_of hg).1 (PySem.W.findObj_own hh ha rfl (by rw[hl,hv])) hv' h
theorem Lo{pl:Sem Bool}{Q:Value×List Value->Shared->Prop}(X:K.In s.heap)(I:E6 s.heap x dx C mA)(hg:PySem.W.plainGet K C name=true)
    (hf:PySem.W.findIn K (.ref C) name=some (some (.ref f))) (ht:PySem.W.isFn K (.ref f)=true) (hv:mA name=none) (h:Q (.ref f,[.ref x]) s) :
    wpAny (model prog w) A (getMethod (.ref x) name pl) Q E s:=by
  obtain⟨od,J,hl⟩:=I.look;exact PySem.W.method_fn X J (PySem.W.plainGet_of hg).1 (PySem.W.plainGet_of hg).2 hf (beq_iff_eq.mp ht) (by show(PySem.W.lookIn name od).map (·.isSome)=some false;rw[hl,hv];rfl) h
theorem O1{ns:List Str}{Q:Unit->Shared->Prop}(X:K.In s.heap)(I:E6 s.heap x dx C mA)
    (hs:PySem.W.findIn K (.ref C) "__setattr__"=some (some (.builtin "object.__setattr__"))) (hp:PySem.W.plainOver K C=true) (ht:PySem.W.takerIn K C name=some none) (hh:PySem.W.hasDictIn K C=true)
    (hw:PySem.Within mA ns) (hsz:ns.length<=sizeLine)
    (h:∀ h',E6 h' x dx C (fun y=>if y=name then some v else mA y)->Heap.SameBut dx s.heap h'->Q () {s with heap:=h',toks:=s.toks+2}) :
    wpAny (model prog w) A (setAttr (.ref x) name v) Q E s:=by
  obtain⟨od,J,hl⟩:=I.look;refine PySem.W.set_plain X J hs (PySem.W.osa_open (s:={s with toks:=s.toks+1}) (r:=none) X J hp ht fun b=>?_);obtain⟨cd,hc,hd'⟩:=PySem.W.any_some hh;have hx:s.heap.get? x=some ⟨.ref C,some dx,.plain,#[]⟩:=I.obj;refine wpAny_bind (wpAny_pure (wpAny_bind (wpAny_bind (wpAny_loadPart hx (wpAny_bind (PySem.W.Looks.here (s:={s with toks:=s.toks+1}) (PySem.W.looks_clsIn X hc) ?_))))));rw[hd'];refine wpAny_pure (a:=some dx) (wpAny_bind (wpAny_pure (wpAny_bind ?_)));refine wpAny_nsSet1 (s:={s with toks:=s.toks+1}) I.ns fun h' hn2 hs2=>?_;obtain⟨oD,esD,epD,hoD,hdD,hcD⟩:=hn2.count (PySem.Within.cons name v hw);refine wpAny_bind (wpAny_lookBehind hoD (by rw[hdD];exact pastItsLine_dict (Nat.le_trans hcD (by rw[List.length_cons];omega))) ?_);exact wpAny_pure (h _ ⟨(hs2.2 _ (Ne.symm I.ne)).trans I.obj,hn2,I.ne⟩ hs2)
theorem LH{R:Result->Shared->Prop}{vs:List Value}{kw:List (Str×Value)}(X:K.In s.heap)(hm:PySem.W.makesIn K C=true)
    (hi:PySem.W.findIn K (.ref C) "__init__"=some (some (.ref f))) (hf:PySem.W.typeIn K (.ref f)=some (.type "function"))
    (h:codeAny (model prog w) (A.under (.builtin "type.__call__" ⟨.ref C::vs,kw⟩)) (.call (.ref f) ⟨.ref (s.heap.objs.size+1)::vs,kw⟩) (PySem.W.InitBack (s.heap.objs.size+1) R)
      {s with heap:=(s.heap.push PySem.W.emptyDict).push (PySem.W.instObj C s.heap.objs.size)}) :
    codeAny (model prog w) A (.call (.ref C) ⟨vs,kw⟩) R s:=by
  obtain⟨hh,g,d,t,os⟩:=s;exact PySem.W.make_core (PySem.W.makes_of X hm) (PySem.W.looks_findIn X hi) (fun self=>PySem.W.bind_fn X self hf) (.inl rfl) h
end
noncomputable def jJ(f:Str)(v:V):List (Str×V)->List (Str×V)
 | []=>[(f,v)]
 | (g,x)::r=>if g=f then (g,v)::r else (g,x)::jJ f v r
theorem wB(f g:Str)(v:V):∀ fs:List (Str×V),(jJ f v fs).lookup g=if g=f then some v else fs.lookup g
 | []=>by
  show List.lookup g [(f,v)]=_;by_cases h:g=f
  ·have hb:(g==f)=true:=beq_iff_eq.mpr h;simp only[List.lookup,hb,if_pos h]
  ·have hb:(g==f)=false:=beq_eq_false_iff_ne.mpr h;simp only[List.lookup,hb,if_neg h]
 | (k,x)::r=>by
  have ih:=wB f g v r;rw[show jJ f v ((k,x)::r)=(if k=f then (k,v)::r else (k,x)::jJ f v r) from rfl];by_cases hk:k=f
  ·rw[if_pos hk];by_cases h:g=k
   ·have hb:(g==k)=true:=beq_iff_eq.mpr h;simp only[List.lookup,hb,if_pos (h.trans hk)]
   ·have hb:(g==k)=false:=beq_eq_false_iff_ne.mpr h;simp only[List.lookup,hb,if_neg (fun e:g=f=>h (e.trans hk.symm))]
  ·rw[if_neg hk];by_cases h:g=k
   ·have hb:(g==k)=true:=beq_iff_eq.mpr h;simp only[List.lookup,hb,if_neg (fun e:g=f=>hk (h.symm.trans e))]
   ·have hb:(g==k)=false:=beq_eq_false_iff_ne.mpr h;simp only[List.lookup,hb];exact ih
theorem uJ(f:Str)(v:V):∀ fs:List (Str×V),f∈(jJ f v fs).map (·.1)/\∀ g,g∈fs.map (·.1)->g∈(jJ f v fs).map (·.1)
 | []=>⟨by simp[jJ],fun g h=>by simp at h⟩
 | (k,x)::r=>by
  obtain⟨i1,i2⟩:=uJ f v r;rw[show jJ f v ((k,x)::r)=(if k=f then (k,v)::r else (k,x)::jJ f v r) from rfl];by_cases hk:k=f
  ·rw[if_pos hk];subst hk;exact⟨by simp,fun g h=>by simpa using h⟩
  ·rw[if_neg hk];refine⟨?_,fun g h=>?_⟩
   ·rw[List.map_cons];exact List.mem_cons_of_mem _ i1
   ·rw[List.map_cons] at h ⊢;rcases List.mem_cons.mp h with e|e
    ·exact List.mem_cons.mpr (.inl e)
    ·exact List.mem_cons_of_mem _ (i2 g e)
theorem wA(f:Str)(v:V):∀ fs:List (Str×V),(jJ f v fs).length<=fs.length+1
 | []=>by simp[jJ]
 | (k,x)::r=>by
  have ih:=wA f v r;rw[show jJ f v ((k,x)::r)=(if k=f then (k,v)::r else (k,x)::jJ f v r) from rfl];by_cases hk:k=f
  ·rw[if_pos hk,List.length_cons,List.length_cons];omega
  ·rw[if_neg hk,List.length_cons,List.length_cons];omega
theorem lU.some_of{v:V}{o:Option Value}(r:lU (some v) o):∃ u,o=some u/\bH v u:=by
 cases o with
 | none=>exact(show False from r).elim
 | some u=>exact⟨u,rfl,r⟩
theorem lU.none_of{o:Option Value}(r:lU none o):o=none:=by
 cases o with
 | none=>rfl
 | some u=>exact(show False from r).elim
theorem Iz{v:V}{u:Value}(r:bH v u):PySem.W.handedIn u=true:=by
 cases v with
 | Zj=>cases (show u=Value.none from r);rfl
 | bl b=>cases (show u=Value.bool b from r);rfl
 | int i=>obtain⟨t,e⟩:=(show ∃ t,u=Value.int i t from r);cases e;rfl
 | str x=>obtain⟨t,e⟩:=(show ∃ t,u=Value.str x t from r);cases e;rfl
 | byt b=>obtain⟨t,e⟩:=(show ∃ t,u=Value.bytes b t from r);cases e;rfl
 | flt b=>obtain⟨t,e⟩:=(show ∃ t,u=Value.float b t from r);cases e;rfl
 | ref a=>cases (show u=Value.ref a from r);rfl
 | ty n=>cases (show u=Value.type n from r);rfl
section
variable {P:Program} {w:World} {H H':Hp} {h h':Heap} {a C dx:Addr} {fs fs':List (Str×V)}
theorem C3(Zl:HOk P w H h)(e:H a=some (.ins C dx fs)):∃ mA,E6 h a dx C mA/\(∀ f,lU (fs.lookup f) (mA f))/\PySem.Within mA (fs.map (·.1))/\fs.length<=1000/\H dx=some (.own a):=by
 obtain⟨d,z,ne,ob,mA,n,r,q⟩:=(show dJ P w H h a (.ins C dx fs) from Zl a _ e);exact⟨mA,⟨ob,n,ne⟩,r,q,z,d⟩
end
structure Cls(K:q0B)(C:Addr):Prop where
 pg:PySem.W.plainGet K C Str.empty=true
 hd:PySem.W.hasDictIn K C=true
 po:PySem.W.plainOver K C=true
 sa:PySem.W.findIn K (.ref C) "__setattr__"=some (some (.builtin "object.__setattr__"))
theorem Cls.get{K:q0B}{C:Addr}(c:Cls K C)(f:Str):PySem.W.plainGet K C f=true:=c.pg
noncomputable def eF(K:q0B)(C:Addr)(f:Str):Prop:=PySem.W.findIn K (.ref C) f=some none
theorem eF.Xz{K:q0B}{C:Addr}{f:Str}(n:eF K C f):PySem.W.takerIn K C f=some none:=by
 unfold PySem.W.takerIn;rw[show PySem.W.findIn K (.ref C) f=some none from n];rfl
structure Meth(K:q0B)(C:Addr)(m:Str)(f:Addr):Prop where
 at_:PySem.W.findIn K (.ref C) m=some (some (.ref f))
 fn:PySem.W.isFn K (.ref f)=true
 kp:PySem.W.keepIn K (.ref f)=true
section
variable {X:Cx} {Zg:List (Addr×Obj)} {σ:St} {H:Hp} {s:Shared} {a C dx:Addr} {fs:List (Str×V)} {f:Str} {v:V} {A:Around} {E:q0A}
theorem zR{b:Bool}{Q:q0A}(I:Zi X Zg σ H s)(e:H a=some (.ins C dx fs))(c:Cls X.K C)(n:eF X.K C f)(l:fs.lookup f=some v)
    (h:∀ u s',Zi X Zg σ H s'->bH v u->Q u s'):wpAny (model X.prog X.w) A (getAttr (.ref a) f b) Q E s:=by
  obtain⟨mA,O,r,_,_,_⟩:=C3 I.Zl e;obtain⟨u,hu,ru⟩:=lU.some_of (v:=v) (o:=mA f) (by rw[<- l];exact r f);exact Oo I.kIn O (c.get f) c.hd n hu (Iz ru) (h u _ (I.tok _) ru)
theorem zS{m:Str}{g:Addr}{pl:Sem Bool}{Q:Value×List Value->Shared->Prop}(I:Zi X Zg σ H s)(e:H a=some (.ins C dx fs))(c:Cls X.K C)(k:Meth X.K C m g)(l:fs.lookup m=none)
    (h:Q (.ref g,[.ref a]) s):wpAny (model X.prog X.w) A (getMethod (.ref a) m pl) Q E s:=by
  obtain⟨mA,O,r,_,_,_⟩:=C3 I.Zl e;have hn:mA m=none:=lU.none_of (by rw[<- l];exact r m);exact Lo I.kIn O (c.get m) k.at_ k.fn hn h
theorem Ba{y:V}{u:Value}{Q:Unit->Shared->Prop}(I:Zi X Zg σ H s)(e:H a=some (.ins C dx fs))(c:Cls X.K C)(n:eF X.K C f)(hl:fs.length < 1000)(ry:bH y u)
    (h:∀ s',Zi X Zg σ (Zh H a (.ins C dx (jJ f y fs))) s'->Q () s'):wpAny (model X.prog X.w) A (setAttr (.ref a) f u) Q E s:=by
  obtain⟨mA,O,r,wi,_,ho⟩:=C3 I.Zl e;have hz:(fs.map (·.1)).length<=sizeLine:=by rw[List.length_map,sizeLine_eq];omega
  refine O1 I.kIn O c.sa c.po n.Xz c.hd wi hz fun h' O' sb=>h _ ?_;have hd:∃ o,h'.get? dx=some o:=let ⟨o,_,_,e',_⟩:=O'.ns;⟨o,e'⟩;refine I.write (x:=a) (e:=dx) (by rw[e];exact True.intro) (.inr ho) (fun b q hb z=>(sb.2 b hb).trans z) hd ?_;refine⟨by rw[aG O.ne];exact ho,?_,O.ne,O'.obj,_,O'.ns,fun g=>?_,fun g hg=>?_⟩
  · have:=wA f y fs;omega
  · show lU ((jJ f y fs).lookup g) (if g=f then some u else mA g);rw[wB];by_cases q:g=f
    · rw[if_pos q,if_pos q];exact ry
    · rw[if_neg q,if_neg q];exact r g
  · by_cases q:g=f
    · rw[q];exact(uJ f y fs).1
    · refine(uJ f y fs).2 g (wi g fun z=>hg ?_);show(if g=f then some u else mA g)=none;rw[if_neg q];exact z
theorem Zi.made(I:Zi X Zg σ H s):Zi X Zg σ (Zh (Zh H s.heap.objs.size (.own (s.heap.objs.size+1))) (s.heap.objs.size+1) (.ins C s.heap.objs.size []))
    {s with heap:=(s.heap.push PySem.W.emptyDict).push (PySem.W.instObj C s.heap.objs.size)}:=by
  have e1:(s.heap.push PySem.W.emptyDict).get? s.heap.objs.size=some PySem.W.emptyDict:=Heap.get?_push_size s.heap rfl;have e2:((s.heap.push PySem.W.emptyDict).push (PySem.W.instObj C s.heap.objs.size)).get? (s.heap.objs.size+1)=some (PySem.W.instObj C s.heap.objs.size):=by
    have:=Heap.get?_push_size (s.heap.push PySem.W.emptyDict) (o:=PySem.W.instObj C s.heap.objs.size) rfl
    rwa [Heap.size_push] at this
  have e3:(s.heap.push PySem.W.emptyDict).Ns s.heap.objs.size (fun _=>none):=⟨PySem.W.emptyDict,#[],_,e1,rfl,(fun e he=>absurd he (by simp)),fun _=>rfl⟩;have I1:=I.laid (a:=s.heap.objs.size) (o:=.own (s.heap.objs.size+1)) (h':=s.heap.push PySem.W.emptyDict) (t':=s.toks) (fun b u q=>Heap.get?_push_of_some _ q) (Nat.le_refl _) ⟨_,e1⟩;refine I1.laid (a:=s.heap.objs.size+1) (o:=.ins C s.heap.objs.size []) (t':=s.toks) (fun b u q=>Heap.get?_push_of_some _ q) (Nat.le_of_eq (Heap.size_push _ _)) ?_;have ne:s.heap.objs.size≠s.heap.objs.size+1:=Nat.ne_of_lt (Nat.lt_succ_self _);refine⟨by rw[aG ne,aA],Nat.zero_le _,ne,e2,fun _=>none,(Heap.Ns1.of_empty e3).at fun o q=>Heap.get?_push_of_some _ q,fun _=>True.intro,fun y hy=>absurd rfl hy⟩
theorem MW{prog:Program}{w:World}{env:Env}{e:Expr}{f:Str}{pos:Pos}{s:Shared}{Q:q0A}(hb:attributeBase e f env (eval e env)=eval e env)
    (h:wpAny (model prog w) A (eval e env) (fun o s₁=>wpAny (model prog w) A (getAttr o f true) Q E s₁) E s):wpAny (model prog w) A (eval (.Attribute e f pos) env) Q E s :=
  Attribute_any_ h (by rw[arm_eval_Attribute,hb])
end
noncomputable def X1(X:Cx)(op:Operator)(rd:V->V->Hp->VK->Prop):Prop :=
 ∀(Zg:List (Addr×Obj)) (s:Shared) (σ:St) (H:Hp) (x y:V) (u v:Value) (Q:VK),Zi X Zg σ H s->bH x u->bH y v->rd x y H Q->wpAny (model X.prog X.w) X.A (inplaceOp op u v) (EP X Zg σ Q) X.xe s
section
variable {X:Cx} {o e value:Expr} {f:Str} {pos pos' aa1:Pos} {ta tv:TE}
noncomputable def YK:V->V->Hp->VK->Prop:=fun x y H Q=>∃ i j,x=.int i/\y=.int j/\Q (.int (i+j)) H
theorem Tc:X1 X .Add YK:=by
 rintro Zg s σ H x y u v Q I rx ry ⟨i,j,rfl,rfl,q⟩;obtain⟨t,rfl⟩:=(show ∃ t,u=Value.int i t from rx);obtain⟨t',rfl⟩:=(show ∃ t',v=Value.int j t' from ry);exact PyProof.Rows.iadd_int ⟨.int (i+j),H,I.tok _,⟨_,rfl⟩,q⟩
end
section
variable {X:Cx} {Zg:List (Addr×Obj)} {σ:St} {H:Hp} {s:Shared} {A:Around} {E:q0A} {Q:q0A} {c:Value} {b:Bool}
end
structure Room(k:Nat)(A:Around):Prop where
 hd:A.handled=none
 dp:A.depth+3 * k+5 < recursionLimit
 un:A.units+16 * k+200 < cLine
theorem Room.mono{j k:Nat}{A:Around}(r:Room k A)(h:j<=k):Room j A:=⟨r.hd,by have:=r.dp;omega,by have:=r.un;omega⟩
theorem Room.deeper{k:Nat}{A:Around}(r:Room (k+1) A)(env:Env):Room k (A.deeper env) :=
 ⟨r.hd,by have:=r.dp;show A.depth+1+3 * k+5 < _;omega,by have:=r.un;show A.units+3+16 * k+200 < _;omega⟩
theorem Room.in1{k:Nat}{A:Around}(r:Room (k+1) A):Room k A.in1 :=
 ⟨r.hd,by have:=r.dp;show A.depth+3 * k+5 < _;omega,by have:=r.un;show A.units+1+16 * k+200 < _;omega⟩
theorem FK{A:Around}{C:Addr}{us:List Value}{kw:List (Str×Value)}:(A.under (.builtin "type.__call__" ⟨.ref C::us,kw⟩)).depth=A.depth+1:=by
 first|rfl|simp[Around.under,Code.weight,Code.isCreation,Code.isGuard,Code.isCaller,Code.frames,Code.isFrame,guardIds]
theorem FL{A:Around}{C:Addr}{us:List Value}{kw:List (Str×Value)}:(A.under (.builtin "type.__call__" ⟨.ref C::us,kw⟩)).units=A.units+1:=by
 first|rfl|simp[Around.under,Code.cUnits,Code.frames,Code.isFrame]
theorem Room.make{k:Nat}{A:Around}(r:Room (k+1) A)(C:Addr)(us:List Value)(kw:List (Str×Value)):Room k (A.under (.builtin "type.__call__" ⟨.ref C::us,kw⟩)) :=
 ⟨r.hd,by have:=r.dp;rw[FK];omega,by have:=r.un;rw[FL];omega⟩
theorem Room.depth{k:Nat}{A:Around}(r:Room k A):A.depth < recursionLimit:=by have:=r.dp;omega
theorem Room.units{k:Nat}{A:Around}(r:Room k A):A.units+64 < cLine:=by have:=r.un;omega
noncomputable def GC:TA:=fun _ H Q=>Q [] H
noncomputable def EX(ta:TE)(tr:TA):TA:=fun σ H Q=>ta σ H fun x H1=>tr σ H1 fun xs H2=>Q (x::xs) H2
section
variable {X:Cx} {e:Expr} {es:List Expr} {te:TE} {t:TA} {pos:Pos}
theorem aB:PA X [] GC:=fun _ _ _ _ H Q I h=>Calls.spliced_nil ⟨[],H,I,.nil,h⟩
theorem Hz(ha:PE X e te)(hr:PA X es t)(hs:starEach (e::es) X.env=(false,eval e X.env)::starEach es X.env:=by rfl):PA X (e::es) (EX te t):=by
 intro pos Zg s σ H Q I h;rw[hs];show wpAny _ _ (spliced ((false,eval e X.env)::backTo pos (starEach es X.env))) _ _ s;refine Calls.spliced_cons (thn (ha Zg s σ H _ I h) fun u s1 ⟨x,H1,I1,r1,q1⟩=>?_);exact thn (hr pos Zg s1 σ H1 _ I1 q1) fun us s2 ⟨xs,H2,I2,r2,q2⟩=>⟨x::xs,H2,I2,.cons r1 r2,q2⟩
noncomputable def Xx(t:TA):TE:=fun σ H Q=>t σ H fun xs H1=>xs.length<=sizeLine/\∀ p,H1 p=none->Q (.ref p) (Zh H1 p (.tup xs))
noncomputable def Xu(t:TA):TE:=fun σ H Q=>t σ H fun xs H1=>xs.length<=sizeLine/\∀ p,H1 p=none->Q (.ref p) (Zh H1 p (.lst xs))
theorem bC{x1}(h:PA X es t):PE X (.Tuple es x1 pos) (Xx t):=by
 intro Zg s σ H Q I hq;refine wpAny_Tuple_spliced (thn (h pos Zg s σ H _ I hq) fun us s1 ⟨xs,H1,I1,r,z,q⟩=>⟨by rw[<- r.length];exact z,?_⟩);have hf:H1 s1.heap.objs.size=none:=I1.Zl.fresh (Nat.le_refl _);refine⟨.ref s1.heap.objs.size,Zh H1 s1.heap.objs.size (.tup xs),I1.laid (t':=s1.toks) (fun b u e=>Heap.get?_push_of_some _ e) (Nat.le_refl _) ?_,rfl,q _ hf⟩;exact⟨z,us,r,⟨_,Heap.get?_push_size _ rfl,rfl,_,rfl⟩⟩
theorem bX(h:PA X es t):PE X (.List es pos) (Xu t):=by
 intro Zg s σ H Q I hq;refine wpAny_List_spliced (thn (h pos Zg s σ H _ I hq) fun us s1 ⟨xs,H1,I1,r,z,q⟩=>⟨by rw[<- r.length];exact z,?_⟩);have hf:H1 s1.heap.objs.size=none:=I1.Zl.fresh (Nat.le_refl _);refine⟨.ref s1.heap.objs.size,Zh H1 s1.heap.objs.size (.lst xs),I1.laid (t':=s1.toks) (fun b u e=>Heap.get?_push_of_some _ e) (Nat.le_refl _) ?_,rfl,q _ hf⟩;exact⟨z,us,0,r,Heap.get?_push_size _ rfl⟩
end
noncomputable abbrev Sp:=List V->Hp->VK->XK->Prop
noncomputable abbrev CXT:=List Env->Hp->Shared->XK->Value->Shared->Prop
structure Env0(P:Program)(w:World)(K:q0B)(mg:q0C)(base:Heap)(A:Around)(outer:List Env)(s:Shared)(H:Hp):Prop where
 frames:A.frames=some outer
 mod:Mod K mg base
 bs:∀ b o,base.get? b=some o->s.heap.get? b=some o/\H b=none
 bsz:base.objs.size<=s.heap.objs.size
 sJ:s.heap.FunFrames base outer
 frf:∀ b∈frs outer,H b=none
 Zl:HOk P w H s.heap
 bare:AllBare s.gens
noncomputable def CE(outer:List Env)(P:Program)(w:World)(H:Hp)(s:Shared)(Q:VK)(u:Value)(s':Shared):Prop :=
 ∃ v H',s'.os=s.os/\AllBare s'.gens/\Un (frs outer) [] H H' s.heap s'.heap/\HOk P w H' s'.heap/\bH v u/\Q v H'
noncomputable def CR(CX:CXT)(outer:List Env)(P:Program)(w:World)(H:Hp)(s:Shared)(Q:VK)(E:XK)(r:Result)(s':Shared):Prop :=
 match r with
 | .ok (.ret u)=>CE outer P w H s Q u s'
 | .ok _=>False
 | .error e=>CX outer H s E e s'
structure bG(P:Program)(w:World)(K:q0B)(mg:q0C)(base:Heap)(CX:CXT)(k:Nat)(f:Addr)(fd:FuncData)(ps:List Str)(sp:Sp):Prop where
 len:∀ vs H Q E,sp vs H Q E->vs.length=ps.length
 run:∀(A:Around) (outer:List Env) (s:Shared) (H:Hp) (args:Args) (us:List Value) (vs:List V) (Q:VK) (E:XK),Room k A->Env0 P w K mg base A outer s H->BindsTo s fd args (ps.zip us)->Vals vs us->sp vs H Q E ->
  codeAny (model P w) A (.call (.ref f) args) (CR CX outer P w H s Q E) s
theorem bG.mono{P:Program}{w:World}{K:q0B}{mg:q0C}{base:Heap}{CX:CXT}{j k:Nat}{f:Addr}{fd:FuncData}{ps:List Str}{sp:Sp}(F:bG P w K mg base CX j f fd ps sp)(h:j<=k) :
    bG P w K mg base CX k f fd ps sp:=⟨F.len,fun A outer s H args us vs Q E hr=>F.run A outer s H args us vs Q E (hr.mono h)⟩
theorem bG.imp{P:Program}{w:World}{K:q0B}{mg:q0C}{base:Heap}{CX:CXT}{k:Nat}{f:Addr}{fd:FuncData}{ps:List Str}{sp sp':Sp}(F:bG P w K mg base CX k f fd ps sp)
    (h:∀ vs H Q E,sp' vs H Q E->sp vs H Q E):bG P w K mg base CX k f fd ps sp' :=
  ⟨fun vs H Q E q=>F.len vs H Q E (h _ _ _ _ q),fun A outer s H args us vs Q E hr he hb hv hs=>F.run A outer s H args us vs Q E hr he hb hv (h _ _ _ _ hs)⟩
theorem Env0.make{P:Program}{w:World}{K:q0B}{mg:q0C}{base:Heap}{A:Around}{outer:List Env}{s:Shared}{H:Hp}(e:Env0 P w K mg base A outer s H)(C:Addr)(us:List Value)(kw:List (Str×Value)) :
    Env0 P w K mg base (A.under (.builtin "type.__call__" ⟨.ref C::us,kw⟩)) outer s H:=⟨by first|exact e.frames|(simpa[Around.under,Code.envs,Code.isFrame,pushEnvs] using e.frames),e.mod,e.bs,e.bsz,e.sJ,e.frf,e.Zl,e.bare⟩
theorem Env0.in1{P:Program}{w:World}{K:q0B}{mg:q0C}{base:Heap}{A:Around}{outer:List Env}{s:Shared}{H:Hp}(e:Env0 P w K mg base A outer s H) :
    Env0 P w K mg base A.in1 outer s H:=⟨e.frames,e.mod,e.bs,e.bsz,e.sJ,e.frf,e.Zl,e.bare⟩
section
variable {X:Cx} {Zg:List (Addr×Obj)} {σ:St} {H:Hp} {s s':Shared}
theorem Zi.WB(I:Zi X Zg σ H s):Env0 X.prog X.w X.K X.mg X.base X.A X.stack s H :=
 ⟨I.ok.frames,I.ok.mod,I.bs,Nat.le_trans I.ok.bsz I.sz,I.stack,I.HK,I.Zl,I.bare⟩
theorem Zi.after{Q:VK}{u:Value}(I:Zi X Zg σ H s)(h:CE X.stack X.prog X.w H s Q u s'):EP X Zg σ Q u s':=by
 obtain⟨v,H',os,bare,un,Zl,r,q⟩:=h;obtain⟨hh,g,d,t,os'⟩:=s';obtain rfl:os'=s.os:=os;exact⟨v,H',I.call (h':=hh) (g':=g) (d':=d) (t':=t) (ch:=[]) un Zl bare (fun b z=>absurd z (by simp)),r,q⟩
end
noncomputable def Mx(sp:Sp)(Z7:List V)(E:XK)(t:TA):TE:=fun σ H Q=>t σ H fun vs H1=>sp (vs++Z7) H1 Q E
noncomputable def EY(C:Addr)(m:Str)(sp:Sp)(Z7:List V)(E:XK)(ta:TE)(t:TA):TE:=fun σ H Q=>ta σ H fun x H1=>∃ a dx fs,x=.ref a/\H1 a=some (.ins C dx fs)/\fs.lookup m=none /\
 t σ H1 fun vs H2=>sp (x::(vs++Z7)) H2 Q E
noncomputable def HP(C:Addr)(sp:Sp)(Z7:List V)(E:XK)(t:TA):TE:=fun σ H Q=>t σ H fun vs H1=>∀ x dx,H1 x=none->H1 dx=none->dx≠x ->
 sp (.ref x::(vs++Z7)) (Zh (Zh H1 dx (.own x)) x (.ins C dx [])) (fun v H2=>v=.Zj/\Q (.ref x) H2) E
noncomputable def Binds(K:q0B)(fd:FuncData)(ps:List Str)(ds:List Value):Prop :=
 ∀(s:Shared) (us:List Value),K.In s.heap->(us++ds).length=ps.length->BindsTo s fd ⟨us,[]⟩ (ps.zip (us++ds))
theorem Binds.all{K:q0B}{fd:FuncData}{ps:List Str}(h:∀ us:List Value,us.length=ps.length->bindArgs fd ⟨us,[]⟩=pure (ps.zip us)):Binds K fd ps []:=fun s us _ hl=>by
 rw[List.append_nil] at hl ⊢;exact .of_eq (h us hl)
noncomputable def Passes(CX:CXT)(X:Cx)(E:XK):Prop:=∀(Zg:List (Addr×Obj)) (σ:St) (H:Hp) (s:Shared) (e:Value) (s':Shared),Zi X Zg σ H s->CX X.stack H s E e s'->X.xe e s'
section
variable {X:Cx} {CX:CXT} {k:Nat} {f C:Addr} {fd:FuncData} {ps:List Str} {sp:Sp} {Z7:List V} {ds:List Value} {E:XK} {x m:Str} {p pos apos:Pos} {e o:Expr} {es:List Expr} {ta:TE} {t:TA}
theorem Dm{Zg:List (Addr×Obj)}{σ:St}{H:Hp}{s:Shared}{Q:VK}{us:List Value}{vs:List V}(F:bG X.prog X.w X.K X.mg X.base CX k f fd ps sp)(hr:Room k X.A)(hb:Binds X.K fd ps ds)(hd:Vals Z7 ds)(hx:Passes CX X E)
    (I:Zi X Zg σ H s) (r:Vals vs us) (h:sp (vs++Z7) H Q E):wpAny (model X.prog X.w) X.A (call (.ref f) us) (EP X Zg σ Q) X.xe s:=by
  have r2:Vals (vs++Z7) (us++ds):=r.append hd;have hl:(us++ds).length=ps.length:=by rw[<- r2.length];exact F.len _ _ _ _ h
  refine wpAny_call (codeAny_mono (F.run X.A X.stack s H ⟨us,[]⟩ (us++ds) (vs++Z7) Q E hr I.WB (hb s us I.kIn hl) r2 h) fun r s' hq=>?_);cases r with
  | error e=>exact hx Zg σ H s e s' I hq
  | ok fl =>
    cases fl with
    | ret u=>exact I.after hq
    | next=>exact False.elim hq
    | brk=>exact False.elim hq
    | cont=>exact False.elim hq
theorem aP(F:bG X.prog X.w X.K X.mg X.base CX k f fd ps sp)(hr:Room k X.A)(hg:Gl X x)(hm:X.mg x=some (.ref f))(hk:PySem.W.keepIn X.K (.ref f)=true)(hb:Binds X.K fd ps ds)(hd:Vals Z7 ds)(hx:Passes CX X E)
    (ha:PA X (e::es) t) (hdb:(x==("__debug__":Str))=false:=by decide) (he:starEach (e::es) X.env=(false,eval e X.env)::starEach es X.env:=by rfl) (hpl:(backTo pos (starEach es X.env)).any (·.1)=false:=by rfl) :
    PE X (.Call (.Name x p) (e::es) [] pos) (Mx sp Z7 E t):=by
  intro Zg s σ H Q I h;refine wpAny_Call_Name_kw (xI I hg hm ?_ hdb);refine PySem.W.callWith_K (h₀:=X.base) I.ok.mod.kin hk (thn (ha pos Zg s σ H _ I h) fun us s1 ⟨vs,H1,I1,r,q⟩=>⟨I1.kIn,?_⟩) he hpl;exact Dm F hr hb hd hx I1 r q
theorem bL{pl:Sem Bool}(he:PE X o ta)(c:Cls X.K C)(hm:Meth X.K C m f)(F:bG X.prog X.w X.K X.mg X.base CX k f fd ps sp)(hr:Room k X.A)(hb:Binds X.K fd ps ds)(hd:Vals Z7 ds)(hx:Passes CX X E)(ha:PA X (e::es) t)
    (ZM:starEach (e::es) X.env=(false,eval e X.env)::starEach es X.env:=by rfl) (hpl:(backTo pos (starEach es X.env)).any (·.1)=false:=by rfl)
    (ht:eval (.Call (.Attribute o m apos) (e::es) [] pos) X.env=(do
      let ov <- eval o X.env
      standAt apos.atName
      let (f,first) <- holding [ov] (getMethod ov m pl)
      callWith pos f first (backTo pos (starEach (e::es) X.env)) (backToKw pos (keywordEach [] X.env))):=by rfl) :
    PE X (.Call (.Attribute o m apos) (e::es) [] pos) (EY C m sp Z7 E ta t):=by
  intro Zg s σ H Q I h;refine PySem.W.methodCall_KW (pl:=pl) (thn (he Zg s σ H _ I h) fun u s1 ⟨x,H1,I1,rx,a,dx,fs,ex,ea,l,q⟩=>?_) ht;subst ex;obtain rfl:u=Value.ref a:=rx;refine zS I1 ea c hm l ?_;refine PySem.W.callWith_K (first:=[.ref a]) (h₀:=X.base) I.ok.mod.kin hm.kp (thn (ha pos Zg s1 σ H1 _ I1 q) fun us s2 ⟨vs,H2,I2,r,q2⟩=>⟨I2.kIn,?_⟩) ZM hpl
  exact Dm (us:=.ref a::us) (vs:=.ref a::vs) F hr hb hd hx I2 (.cons rfl r) q2
theorem cC{pl:Sem Bool}(he:PE X o ta)(c:Cls X.K C)(hm:Meth X.K C m f)(F:bG X.prog X.w X.K X.mg X.base CX k f fd ps sp)(hr:Room k X.A)(hb:Binds X.K fd ps ds)(hd:Vals Z7 ds)(hx:Passes CX X E)
    (ht:eval (.Call (.Attribute o m apos) [] [] pos) X.env=(do
      let ov <- eval o X.env
      standAt apos.atName
      let (f,first) <- holding [ov] (getMethod ov m pl)
      callWith pos f first (backTo pos (starEach [] X.env)) (backToKw pos (keywordEach [] X.env))):=by rfl) :
    PE X (.Call (.Attribute o m apos) [] [] pos) (EY C m sp Z7 E ta GC):=by
  intro Zg s σ H Q I h;refine PySem.W.methodCall_KW (pl:=pl) (thn (he Zg s σ H _ I h) fun u s1 ⟨x,H1,I1,rx,a,dx,fs,ex,ea,l,q⟩=>?_) ht;subst ex;obtain rfl:u=Value.ref a:=rx;refine zS I1 ea c hm l ?_;exact PySem.W.callWith_K0 (first:=[.ref a]) I1.kIn hm.kp (Dm (us:=[.ref a]) (vs:=[.ref a]) F hr hb hd hx I1 (.cons rfl .nil) q)
structure Mk(K:q0B)(C f:Addr):Prop where
 makes:PySem.W.makesIn K C=true
 init:PySem.W.findIn K (.ref C) "__init__"=some (some (.ref f))
 fn:PySem.W.isFn K (.ref f)=true
 kp:PySem.W.keepIn K (.ref C)=true
theorem EM{Zg:List (Addr×Obj)}{σ:St}{H:Hp}{s:Shared}{Q:VK}{us:List Value}{vs:List V}(M:Mk X.K C f)(F:bG X.prog X.w X.K X.mg X.base CX k f fd ps sp)(hr:Room (k+1) X.A)(hb:Binds X.K fd ps ds)(hd:Vals Z7 ds)
    (hx:Passes CX X E) (I:Zi X Zg σ H s) (r:Vals vs us)
    (h:∀ x dx,H x=none->H dx=none->dx≠x->sp (.ref x::(vs++Z7)) (Zh (Zh H dx (.own x)) x (.ins C dx [])) (fun v H2=>v=.Zj/\Q (.ref x) H2) E) :
    wpAny (model X.prog X.w) X.A (call (.ref C) us) (EP X Zg σ Q) X.xe s:=by
  have hq:=h (s.heap.objs.size+1) s.heap.objs.size (I.Zl.fresh (Nat.le_succ _)) (I.Zl.fresh (Nat.le_refl _)) (Nat.ne_of_lt (Nat.lt_succ_self _));have I2:=Zi.made (C:=C) I;have r2:Vals (V.ref (s.heap.objs.size+1)::(vs++Z7)) (Value.ref (s.heap.objs.size+1)::(us++ds)):=.cons rfl (r.append hd);have hl:(Value.ref (s.heap.objs.size+1)::us++ds).length=ps.length:=by
    have e:=r2.length;rw[F.len _ _ _ _ hq] at e;exact e.symm
  refine wpAny_call (LH (f:=f) I.kIn M.makes M.init (beq_iff_eq.mp M.fn) (codeAny_mono (F.run _ X.stack _ _ ⟨Value.ref (s.heap.objs.size+1)::us,[]⟩ (Value.ref (s.heap.objs.size+1)::(us++ds)) _ _ E (hr.make C us [])
    (I2.WB.make C us []) (hb _ (Value.ref (s.heap.objs.size+1)::us) I2.kIn hl) r2 hq) fun r s' hq'=>?_))
  cases r with
  | error e=>exact hx Zg σ _ _ e s' I2 hq'
  | ok fl =>
    cases fl with
    | ret u =>
      obtain⟨v,H',I3,rv,ev,q3⟩:=I2.after hq';subst ev;exact⟨rv,⟨V.ref (s.heap.objs.size+1),H',I3,rfl,q3⟩⟩
    | next=>exact False.elim hq'
    | brk=>exact False.elim hq'
    | cont=>exact False.elim hq'
theorem Di(M:Mk X.K C f)(F:bG X.prog X.w X.K X.mg X.base CX k f fd ps sp)(hr:Room (k+1) X.A)(hg:Gl X x)(hm:X.mg x=some (.ref C))(hb:Binds X.K fd ps ds)(hd:Vals Z7 ds)(hx:Passes CX X E)
    (ha:PA X (e::es) t) (hdb:(x==("__debug__":Str))=false:=by decide) (he:starEach (e::es) X.env=(false,eval e X.env)::starEach es X.env:=by rfl) (hpl:(backTo pos (starEach es X.env)).any (·.1)=false:=by rfl) :
    PE X (.Call (.Name x p) (e::es) [] pos) (HP C sp Z7 E t):=by
  intro Zg s σ H Q I h;refine wpAny_Call_Name_kw (xI I hg hm ?_ hdb);refine PySem.W.callWith_K (h₀:=X.base) I.ok.mod.kin M.kp (thn (ha pos Zg s σ H _ I h) fun us s1 ⟨vs,H1,I1,r,q⟩=>⟨I1.kIn,?_⟩) he hpl;exact EM M F hr hb hd hx I1 r q
theorem L5(M:Mk X.K C f)(F:bG X.prog X.w X.K X.mg X.base CX k f fd ps sp)(hr:Room (k+1) X.A)(hg:Gl X x)(hm:X.mg x=some (.ref C))(hb:Binds X.K fd ps ds)(hd:Vals Z7 ds)(hx:Passes CX X E)
    (hdb:(x==("__debug__":Str))=false:=by decide):PE X (.Call (.Name x p) [] [] pos) (HP C sp Z7 E GC):=by
  intro Zg s σ H Q I h;refine wpAny_Call_Name_kw (xI I hg hm ?_ hdb);exact PySem.W.callWith_K0 I.kIn M.kp (EM (us:=[]) M F hr hb hd hx I .nil h)
end
section
variable {X:Cx} {CX:CXT} {k:Nat} {f C:Addr} {fd:FuncData} {ps ks:List Str} {sp:Sp} {E:XK} {x m:Str} {p pos apos adM:Pos} {e o:Expr} {es:List Expr} {kws:List Keyword} {te ta:TE} {t tk:TA} {nm:Option Str}
variable {g:List Value->List Value->List Value} {gV:List V->List V->List V}
end
structure aU(N P:List Str)(sc:Scope):Prop where
 kind:sc.kind=.function
 co:sc.isCoroutine=false
 gen:sc.isGenerator=false
 nd:N.Nodup
 pre:N.take P.length=P
 par:∀ x∈P,sc.names.lookup x=some .local\/sc.names.lookup x=some .cell
 dH:∀ y∈sc.names,y.2≠.free
theorem BV{kindOf:Str->Option NameKind}{x:Str}:∀ {binds:List (Str×Value)} {m:q0C},(∀ v,(x,v)∉binds)->bindL kindOf binds m x=m x
 | [],_,_=>rfl
 | (n,v)::r,m,h=>by
  unfold bindL;rw[BV fun w hw=>h w (List.mem_cons_of_mem _ hw)];split
  ·have:x≠n:=by rintro rfl;exact h v List.mem_cons_self
   simp[this]
  ·rfl
theorem BS{kindOf:Str->Option NameKind}{x:Str}:∀ {binds:List (Str×Value)} {m:q0C},(∀ v,(x,v)∉binds)->bindC kindOf binds m x=m x
 | [],_,_=>rfl
 | (n,v)::r,m,h=>by
  unfold bindC;rw[BS fun w hw=>h w (List.mem_cons_of_mem _ hw)];split
  ·rfl
  ·have:x≠n:=by rintro rfl;exact h v List.mem_cons_self
   simp[this]
theorem BU{kindOf:Str->Option NameKind}{x:Str}{v:Value}:∀ {P:List Str} {vs:List Value} {i:Nat} {m:q0C},P.Nodup->P[i]?=some x->vs[i]?=some v->kindOf x=some .local ->
    bindL kindOf (P.zip vs) m x=some v
  | [],_,_,_,_,h,_,_=>by simp at h
  | _::_,[],_,_,_,_,h,_=>by simp at h
  | p::P,w::vs,0,m,nd,h1,h2,hk=>by
    simp at h1 h2;subst h1;subst h2;show bindL kindOf ((p,w)::P.zip vs) m p=_;unfold bindL;rw[BV fun v hv=>(List.nodup_cons.mp nd).1 (List.of_mem_zip hv).1,if_pos hk];simp
  | p::P,w::vs,i+1,m,nd,h1,h2,hk=>by
    show bindL kindOf ((p,w)::P.zip vs) m x=_;unfold bindL;exact BU (i:=i) (List.nodup_cons.mp nd).2 (by simpa using h1) (by simpa using h2) hk
theorem BR{kindOf:Str->Option NameKind}{x:Str}{v:Value}:∀ {P:List Str} {vs:List Value} {i:Nat} {m:q0C},P.Nodup->P[i]?=some x->vs[i]?=some v->kindOf x≠some .local ->
    bindC kindOf (P.zip vs) m x=some v
  | [],_,_,_,_,h,_,_=>by simp at h
  | _::_,[],_,_,_,_,h,_=>by simp at h
  | p::P,w::vs,0,m,nd,h1,h2,hk=>by
    simp at h1 h2;subst h1;subst h2;show bindC kindOf ((p,w)::P.zip vs) m p=_;unfold bindC;rw[BS fun v hv=>(List.nodup_cons.mp nd).1 (List.of_mem_zip hv).1,if_neg hk];simp
  | p::P,w::vs,i+1,m,nd,h1,h2,hk=>by
    show bindC kindOf ((p,w)::P.zip vs) m x=_;unfold bindC;exact BR (i:=i) (List.nodup_cons.mp nd).2 (by simpa using h1) (by simpa using h2) hk
noncomputable def start(N:List Str)(vs:List V):St:=vs.map some++List.replicate (N.length - vs.length) none
noncomputable def DU(CX:CXT)(P:Program)(w:World)(K:q0B)(mg:q0C)(base:Heap)(N:List Str)(qual:Str)(scope:Scope)(f:Addr)(cd:Value)(A:Around)(outer:List Env)(s:Shared)(H:Hp)(E:XK):Cx where
 prog:=P
 w:=w
 K:=K
 mg:=mg
 base:=base
 A:=A.deeper (envOfC qual scope s.heap.objs.size f cd)
 N:=N
 s₀:=s
 H₀:=H
 env:=envOfC qual scope s.heap.objs.size f cd
 outer:=outer
 stack:=envOfC qual scope s.heap.objs.size f cd::outer
 ex:=[]
 calm:=true
 fn:=fun _=>true
 pn:=[]
 xe:=fun e s'=>wpAny (model P w) (A.deeper (envOfC qual scope s.heap.objs.size f cd)) (leaving (envOfC qual scope s.heap.objs.size f cd) e) (fun _ s''=>CX outer H s E e s'') (fun e' s''=>CX outer H s E e' s'') s'
theorem DQ{sc:Scope}{n:Nat}{x:Str}(h:sc.names.lookup x=some .cell):∃ c,(cellsFrom n sc.names []).lookup x=some c:=by
 have q:=PySem.W.cellsFrom_some sc.names n [] (.inl h);exact Option.isSome_iff_exists.mp q
theorem IB{CX:CXT}{P:Program}{w:World}{K:q0B}{mg:q0C}{base:Heap}{N ps:List Str}{qual:Str}{scope:Scope}{f:Addr}{cd:Value}{A:Around}{outer:List Env}{s s1:Shared}{H:Hp}{E:XK}{us:List Value}{vs:List V}
    (S:aU N ps scope) (hd:A.handled=none) (e0:Env0 P w K mg base A outer s H) (hl:vs.length=ps.length) (r:Vals vs us)
    (x:InCallC s s.heap.objs.size (bindL (envOfC qual scope s.heap.objs.size f cd).kindOf (ps.zip us) fun _=>none) (cellsFrom (s.heap.objs.size+1) scope.names []) (bindC (envOfC qual scope s.heap.objs.size f cd).kindOf (ps.zip us) fun _=>none) s1) :
    Zi (DU CX P w K mg base N qual scope f cd A outer s H E) [] (start N vs) H s1:=by
  have hpl:ps.length<=N.length:=by have:=congrArg List.length S.pre;rw[List.length_take] at this;omega
  obtain⟨h1,tk,rfl,hk⟩:=x.done;have noA:∀ b:Addr,b∉(DU CX P w K mg base N qual scope f cd A outer s H E).ex:=fun b z=>absurd (show b∈([]:List Addr) from z) (by simp);refine⟨⟨e0.mod,S.kind,rfl,rfl,Nat.le_refl _,fun y z c h1 h2=>?_,fun y hy=>?_,fun y c _ h=>?_,fun _=>hd,Around.frames_deeper e0.frames,.inr ⟨rfl,rfl⟩,fun b z=>absurd z (noA b),e0.bs,e0.bsz,fun b _ _=>noA b,fun b z=>absurd z (noA b),e0.sJ,e0.frf⟩,
    rfl,e0.bare,Un.kept hk,⟨_,x.toInCall.ns,fun i y v h1 h2 h3=>?_⟩,fun y c h=>⟨_,x.cell y c h⟩,e0.Zl.fresh (Nat.le_refl _),fun y c h=>?_,fun p hp=>absurd (show p∈([]:List (Addr×Obj)) from hp) (by simp),e0.Zl.kept hk,?_⟩
  · exact name_of_addr x.apart (PySem.mem_of_lookup h1) (PySem.mem_of_lookup h2)
  · have hy:scope.names.lookup y=some .cell\/scope.names.lookup y=some .free:=hy;rcases hy with hy|hy
    · exact DQ hy
    · exact absurd rfl (S.dH _ (PySem.mem_of_lookup hy))
  · exact Nat.le_of_lt (x.above y c (PySem.mem_of_lookup h))
  · have hi:i < vs.length:=by
      unfold start at h2;by_cases hi:i < vs.length
      · exact hi
      · rw[List.getElem?_append_right (by simpa using hi)] at h2;rw[List.getElem?_replicate] at h2;split at h2<;>cases h2
    have ha:vs[i]?=some v:=by
      unfold start at h2;rw[List.getElem?_append_left (by simpa using hi),List.getElem?_map] at h2;cases e:vs[i]? with
      | none=>rw[e] at h2;cases h2
      | some a=>rw[e] at h2;cases h2;rfl
    obtain⟨u,hu,rv⟩:=r.get ha;have hp:ps[i]?=some y:=by
      rw[<- S.pre,List.getElem?_take_of_lt (by omega)];exact h1
    have ndP:ps.Nodup:=by rw[<- S.pre];exact S.nd.sublist (List.take_sublist _ _)
    refine⟨u,rv,?_⟩;rcases S.par y (List.mem_of_getElem? hp) with k|k
    · exact .inl ⟨k,BU ndP hp hu k⟩
    · obtain⟨c,e⟩:=DQ (n:=s.heap.objs.size+1) k;refine .inr ⟨.inl k,c,e,?_⟩;have q:=x.cell y c e;rw[BR ndP hp hu (by show scope.names.lookup y≠_;rw[k];decide)] at q;exact q
  · exact e0.Zl.fresh (Nat.le_of_lt (x.above y c (PySem.mem_of_lookup h)))
  · unfold start;show _=N.length;rw[List.length_append,List.length_map,List.length_replicate];omega
theorem WD{CX:CXT}{P:Program}{w:World}{K:q0B}{mg:q0C}{base:Heap}{k:Nat}{f:Addr}{name qual:Str}{params:Arguments}{body:List Stmt}{scope:Scope}{dV kV doc pm Zs ct oc:Value}{an od:Option Addr}
    {osl:Array (Option Value)} {N ps:List Str} {sp:Sp} (lk:K.lookup f=some ⟨oc,od,.func (PySem.W.fnOf name qual params body scope dV kV doc pm an Zs ct),osl⟩) (hcd:PySem.W.codeIn K Zs qual=true) (S:aU N ps scope)
    (len:∀ vs H Q E,sp vs H Q E->vs.length=ps.length)
    (aaY:∀(A:Around) (outer:List Env) (s:Shared) (H:Hp) (vs:List V) (Q:VK) (E:XK),Room k (A.deeper (envOfC qual scope s.heap.objs.size f Zs))->sp vs H Q E ->
      ∃ t,PSs (DU CX P w K mg base N qual scope f Zs A outer s H E) body t/\t {nx:=fun _ H'=>Q .Zj H',rt:=Q} (start N vs) H) :
    bG P w K mg base CX (k+1) f (PySem.W.fnOf name qual params body scope dV kV doc pm an Zs ct) ps sp:=by
  refine⟨len,fun A outer s H args us vs Q E hr e0 hb r hsp=>?_⟩;have hl:=len _ _ _ _ hsp;have KX:K.In s.heap:=e0.mod.kin.keeps fun b o e=>(e0.bs b o e).1;have lim:s.heap.NoLimit:=e0.mod.nolimit.keeps fun b o e=>(e0.bs b o e).1;have aaN:∀ y∈ps.zip us,scope.names.lookup y.1=some .local\/(scope.names.lookup y.1=some .cell/\((cellsFrom (s.heap.objs.size+1) scope.names []).lookup y.1).isSome=true):=fun⟨n,v⟩ hy=>by
    rcases S.par n (List.of_mem_zip hy).1 with q|q
    · exact .inl q
    · exact .inr ⟨q,PySem.W.cellsFrom_some _ _ _ (.inl q)⟩
  refine codeAny_call_function hr.depth (KX _ _ lk) rfl S.co S.gen rfl (PySem.W.codeRec_of KX hcd) (hb _ _ _ _ ?_);refine wpAny_newFunctionEnv_cells S.kind aaN fun env he s1 x=>?_;subst he;refine⟨lim.keeps x.toInCall.keep,codeAny_func ?_⟩;obtain⟨t,ht,hq⟩:=aaY A outer s H vs Q E (hr.deeper _) hsp;have I:Zi (DU CX P w K mg base N qual scope f Zs A outer s H E) [] (start N vs) H s1:=IB S hr.hd e0 hl r x;refine wpAny_mono (ht [] s1 (start N vs) H _ I hq) (fun fl s' hs=>?_) fun e s' hs=>hs;have fin:∀ {σ':St} {H':Hp} {v:V} {u:Value},Zi (DU CX P w K mg base N qual scope f Zs A outer s H E) [] σ' H' s'->bH v u->Q v H'->CE outer P w H s Q u s' :=
    fun {σ' H' v u} J rv q=>⟨v,H',J.os,J.bare,J.base,J.Zl,rv,q⟩
  cases fl with
  | ret u =>
    obtain⟨v,σ',H',J,rv,q⟩:=hs;exact fin J rv q
  | next =>
    obtain⟨σ',H',J,q⟩:=hs;exact fin (v:=V.Zj) (u:=Value.none) J rfl q
  | brk =>
    obtain⟨_,_,_,q⟩:=hs;exact False.elim q
  | cont =>
    obtain⟨_,_,_,q⟩:=hs;exact False.elim q
section
variable {X:Cx} {x:Str} {p pos:Pos} {e:Expr} {es:List Expr} {t:TA} {id T:String} {r:List V->Hp->VK->Prop}
noncomputable def YR(r:List V->Hp->VK->Prop)(t:TA):TE:=fun σ H Q=>t σ H fun vs H1=>r vs H1 Q
theorem cY(hc:eX X (.builtin id) r)(hg:Gl X x)(hm:X.mg x=none)(hv:bootBuiltins x=some (.builtin id))(ha:PA X (e::es) t)(hn:x≠"__name__":=by decide)(hdb:(x==("__debug__":Str))=false:=by decide)
    (he:starEach (e::es) X.env=(false,eval e X.env)::starEach es X.env:=by rfl) (hpl:(backTo pos (starEach es X.env)).any (·.1)=false:=by rfl):PE X (.Call (.Name x p) (e::es) [] pos) (YR r t):=by
  intro Zg s σ H Q I h;refine wpAny_Call_Name_kw (qT I hg hm hv ?_ hn hdb);exact PyProof.Rows.callWith_builtin1 (thn (ha pos Zg s σ H _ I h) fun us s1 ⟨vs,H1,I1,r1,q1⟩=>hc Zg s1 σ H1 vs us Q I1 r1 q1) he hpl
theorem dI(hc:eX X (.type T) r)(hg:Gl X x)(hm:X.mg x=none)(hv:bootBuiltins x=some (.type T))(ha:PA X (e::es) t)(hn:x≠"__name__":=by decide)(hdb:(x==("__debug__":Str))=false:=by decide)
    (he:starEach (e::es) X.env=(false,eval e X.env)::starEach es X.env:=by rfl) (hpl:(backTo pos (starEach es X.env)).any (·.1)=false:=by rfl):PE X (.Call (.Name x p) (e::es) [] pos) (YR r t):=by
  intro Zg s σ H Q I h;refine wpAny_Call_Name_kw (qT I hg hm hv ?_ hn hdb);exact PyProof.Rows.callWith_type1 (thn (ha pos Zg s σ H _ I h) fun us s1 ⟨vs,H1,I1,r1,q1⟩=>hc Zg s1 σ H1 vs us Q I1 r1 q1) he hpl
end
end L2
namespace HT
open PySem PyProof.Rows
section
open PySem.SeqAt
open PySem.AutoSeq1 (wpAny_loadPart')
open PySem.MeetsSeq PySem.MeetsSeq2 PySem.MeetsSeq3
end
section
variable {prog:Program} {w:World} {A:Around} {E:q0A} {s:Shared}
theorem Nb{t b:Addr}{vs ws:List Value}{Q:q0A}(ht:IsTup s.heap t vs.toArray)(hb:IsTup s.heap b ws.toArray)(hv:vs≠[])
    (h1:ws=[]->Q (.ref t) s) (h2:ws≠[]->Q (.ref s.heap.objs.size) {s with heap:=s.heap.push {cls:=.type "tuple",data:=.seq (vs++ws).toArray}})
    (hsz:vs.length+ws.length<=sizeLine):wpAny (model prog w) A (binaryOp .Add (.ref t) (.ref b)) Q E s:=by
  obtain⟨⟨cls,dd,data,sl⟩,ho,hc,n,hd⟩:=id ht;obtain⟨⟨adG,dd2,data2,ZU⟩,ho2,hc2,n2,hd2⟩:=id hb;simp only at hc hd hc2 hd2;subst hc hd hc2 hd2;have e:vs.toArray++ws.toArray=(vs++ws).toArray:=by simp
  by_cases hw:ws=[]
  · exact concat_meets ⟨_,ho,rfl⟩ ⟨_,ho2,rfl⟩ noFill_tuple_add seq_tuple_add PySem.F.slot_tuple_add PySem.F.entry_tuple_add (PySem.F.args_tuple_add_2 _ _)
      (tuple_addW1 t b vs.toArray ws.toArray n n2 dd dd2 sl ZU (by simpa using hv) (by simp[hw])) ⟨ho,ho2,h1 hw⟩
  · refine concat_meets ⟨_,ho,rfl⟩ ⟨_,ho2,rfl⟩ noFill_tuple_add seq_tuple_add PySem.F.slot_tuple_add PySem.F.entry_tuple_add (PySem.F.args_tuple_add_2 _ _)
      (tuple_addW2 t b vs.toArray ws.toArray n n2 dd dd2 sl ZU (by simpa using hv) (by simpa using hw) (by rw[List.size_toArray,List.size_toArray];exact hsz)) ⟨ho,ho2,?_⟩
    rw[e];exact h2 hw
noncomputable def fP(n d:Nat):Option Int->Nat
 | none=>d
 | some v=>if v < 0 then (v+(n:Int)).toNat else min v.toNat n
theorem EN(n d:Nat):fP n d none=d:=rfl
theorem xS(n d k:Nat):fP n d (some (k:Int))=min k n:=by
 show(if (k:Int) < 0 then ((k:Int)+(n:Int)).toNat else min (k:Int).toNat n)=min k n;rw[if_neg (by omega),Int.toNat_natCast]
theorem Uj(n d:Nat)(hd:d<=n)(o:Option Int):fP n d o<=n:=by
 cases o with
 | none=>exact hd
 | some v =>
  show(if v < 0 then (v+(n:Int)).toNat else min v.toNat n)<=n;by_cases hv:v < 0
  ·rw[if_pos hv];omega
  ·rw[if_neg hv];exact Nat.min_le_right _ _
theorem GW(v:Int)(n d:Nat):(if v < 0 then max (v+(n:Int)) 0 else min v (n:Int))=((fP n d (some v):Nat):Int):=by
 show(if v < 0 then max (v+(n:Int)) 0 else min v (n:Int))=(((if v < 0 then (v+(n:Int)).toNat else min v.toNat n):Nat):Int);by_cases hv:v < 0
 ·simp only[if_pos hv];omega
 ·simp only[if_neg hv];omega
theorem E9(lo hi:Option Int)(n:Nat):Builtin.Slice.sliceAdjust lo hi 1 (n:Int)=(((fP n 0 lo:Nat):Int),((fP n n hi:Nat):Int)):=by
 have h1:¬ ((1:Int) < 0):=by omega
 unfold Builtin.Slice.sliceAdjust;simp only[h1,if_false];refine Prod.ext ?_ ?_
 ·cases lo with
  | none=>rfl
  | some v=>exact GW v n 0
 ·cases hi with
  | none=>rfl
  | some v=>exact GW v n n
theorem Gg(i j:Nat):Builtin.Slice.slicePlaces (i:Int) (j:Int) 1=j - i:=by
 unfold Builtin.Slice.slicePlaces;have h1:(1:Int) > 0:=by omega
 simp only[h1,if_true,Int.ediv_one];split<;>omega
theorem Bb{v:Value}{o:Option Int}{Q:Option Int->Shared->Prop}(p:IsPart v o)(h:Q o s):wpAny (model prog w) A (Builtin.Slice.slicePartIndex v) Q E s:=by
 cases p with
 | none=>exact slicePart_none h
 | int i t=>exact slicePart_int h
theorem lR{sl:Addr}{vl vu:Value}{lo hi:Option Int}{n:Nat}{Q:Int×Int×Nat->Shared->Prop}(hs:s.heap.IsSliceOf sl vl vu .none)(pl:IsPart vl lo)(pu:IsPart vu hi)
    (h:Q (((fP n 0 lo:Nat):Int),1,fP n n hi - fP n 0 lo) s):wpAny (model prog w) A (Builtin.Slice.sliceApplied (.ref sl) (pure (n:Int))) Q E s:=by
  obtain⟨os,hos,hcs,hds⟩:=id hs;unfold Builtin.Slice.sliceApplied Builtin.Slice.sliceFields;refine wpAny_bind (wpAny_bind (wpAny_field hos hds (x:=vl) rfl (wpAny_bind (wpAny_field hos hds (x:=vu) rfl (wpAny_bind (wpAny_field hos hds (x:=.none) rfl (wpAny_pure ?_)))))));refine wpAny_bind (slicePart_none ?_);show wpAny _ _ (if ((1:Int)==0)=true then _ else _) _ _ s;rw[if_neg (by decide)];refine wpAny_bind (Bb pl (wpAny_bind (Bb pu (wpAny_bind (wpAny_pure ?_)))));show wpAny _ _ (match Builtin.Slice.sliceAdjust lo hi 1 (n:Int) with|(lo,hi)=>pure (lo,(1:Int),Builtin.Slice.slicePlaces lo hi 1)) _ _ s;rw[E9 lo hi n];show wpAny _ _ (pure (((fP n 0 lo:Nat):Int),(1:Int),Builtin.Slice.slicePlaces ((fP n 0 lo:Nat):Int) ((fP n n hi:Nat):Int) 1)) _ _ s;rw[Gg];exact wpAny_pure h
theorem L8(xs:Array Value)(i k:Nat):((List.range k).filterMap fun(m:Nat)=>xs[((i:Int)+(m:Int) * 1).toNat]?).toArray=((xs.toList.drop i).take k).toArray:=by
 have e:(fun(m:Nat)=>xs[((i:Int)+(m:Int) * 1).toNat]?)=fun m=>xs[i+m]?:=by
  funext m;have:((i:Int)+(m:Int) * 1).toNat=i+m:=by omega
  rw[this]
 rw[e];have:=pick_run xs i k;rw[List.filterMap_map] at this;have e2:((fun x=>xs[x]?)∘fun x=>i+x)=fun m=>xs[i+m]?:=rfl;rw[e2] at this;rw[this]
theorem sM{t sl:Addr}{items:Array Value}{vl vu:Value}{lo hi:Option Int}{Q:q0A}(ht:IsTup s.heap t items)(hs:s.heap.IsSliceOf sl vl vu .none)(pl:IsPart vl lo)(pu:IsPart vu hi)
    (hw:¬ (fP items.size 0 lo=0/\fP items.size items.size hi=items.size))
    (h:Q (.ref s.heap.objs.size) {s with heap:=s.heap.push {cls:=.type "tuple",data:=.seq ((items.toList.drop (fP items.size 0 lo)).take (fP items.size items.size hi - fP items.size 0 lo)).toArray}})
    (hsz:items.size<=sizeLine):wpAny (model prog w) A (getItem (.ref t) (.ref sl)) Q E s:=by
  have aaO:sizeOk (.seq ((items.toList.drop (fP items.size 0 lo)).take (fP items.size items.size hi - fP items.size 0 lo)).toArray):=by
    show((items.toList.drop (fP items.size 0 lo)).take (fP items.size items.size hi - fP items.size 0 lo)).toArray.size<=sizeLine;rw[List.size_toArray,List.length_take,List.length_drop,Array.length_toList];omega
  have hj:fP items.size items.size hi<=items.size:=Uj _ _ (Nat.le_refl _) hi;obtain⟨os,hos,hcs,hds⟩:=id hs;have hTs:s.TypeIs (.ref sl) "slice":=⟨os,hos,hcs⟩;unfold getItem
  try with_reducible refine wpAny_holding ?_
  first|refine wpAny_bind (wpAny_pure ?_)|skip
  refine wpAny_bind (wpAny_sequenceKey ht.typeIs (by decide) ?_);refine wpAny_bind (wpAny_callSpecial?_slot (name:=Str.ofString "__getitem__") ht.typeIs PyProof.Rows.slot_tuple_getitem
    (wpAny_call_entry PyProof.Rows.slot_tuple_getitem ht.typeIs entry_tuple_getitem ?_ (args_tuple_getitem _ _)))
  show wpAny _ _ (Builtin.Tuple.tupleItemsOf (.ref t) >>= _) _ _ s;refine wpAny_bind (tupleItemsOf_ ht ?_);refine wpAny_bind (wpAny_typeOf hTs ?_);rw[if_pos (by decide)];refine wpAny_bind (lR hs pl pu ?_);have hno:¬ ((((fP items.size 0 lo:Nat):Int)==0&&(1:Int)==1&&(fP items.size items.size hi - fP items.size 0 lo)==items.size)=true):=by
    intro q;rw[Bool.and_eq_true,Bool.and_eq_true] at q;have q1:((fP items.size 0 lo:Nat):Int)=0:=eq_of_beq q.1.1;have q2:fP items.size items.size hi - fP items.size 0 lo=items.size:=eq_of_beq q.2;exact hw ⟨by omega,by omega⟩
  show wpAny _ _ (if (((fP items.size 0 lo:Nat):Int)==0&&(1:Int)==1&&(fP items.size items.size hi - fP items.size 0 lo)==items.size)=true then _ else _) _ _ s;rw[if_neg hno,L8]
  first
    | exact wpAny_bind (m:=Builtin.Tuple.tupleExact _) (wpAny_newObj_type (wpAny_pure ⟨_,rfl,wpAny_pure h⟩) aaO)
    | exact wpAny_bind (m:=Builtin.Tuple.tupleExact _) (wpAny_newObj_type (wpAny_bind (wpAny_pure (wpAny_pure ⟨_,rfl,wpAny_pure h⟩))) aaO)
    | exact wpAny_bind (wpAny_bind (m:=Builtin.Tuple.tupleExact _) (wpAny_newObj_type (wpAny_pure (wpAny_pure ⟨_,rfl,wpAny_pure h⟩)) aaO))
    | exact wpAny_bind (wpAny_bind (m:=Builtin.Tuple.tupleExact _) (wpAny_newObj_type (wpAny_pure ⟨_,rfl,wpAny_pure h⟩) aaO))
end
end HT
namespace L2
open PySem PySem.Spec PyProof.Rows
noncomputable abbrev TO:=St->Hp->(Option Int->Hp->Prop)->Prop
noncomputable def PO(X:Cx)(e:Option Expr)(t:TO):Prop :=
 ∀(Zg:List (Addr×Obj)) (s:Shared) (σ:St) (H:Hp) (Q:Option Int->Hp->Prop),Zi X Zg σ H s->t σ H Q ->
  wpAny (model X.prog X.w) X.A (evalPart e X.env) (fun u s'=>∃ o H',Zi X Zg σ H' s'/\IsPart u o/\Q o H') X.xe s
noncomputable def HQ:TO:=fun _ H Q=>Q none H
noncomputable def MG(t:TE):TO:=fun σ H Q=>t σ H fun x H1=>∃ i,x=.int i/\Q (some i) H1
theorem FH{ns:List Int}:∀ {us:List Value},Vals (ns.map V.int) us->IntsAre us ns:=by
 induction ns with
 | nil=>intro us r;rw[List.map_nil] at r;cases r;exact .nil
 | cons n ns ih =>
  intro us r;rw[List.map_cons] at r;cases r with
  | cons r1 r2 =>
   obtain⟨t,e⟩:=r1;subst e;exact .cons n t (ih r2)
section
variable {X:Cx} {e:Expr} {te:TE} {lo hi:Option Expr} {tl th:TO} {pos p2:Pos}
theorem eK:PO X none HQ:=by
 intro Zg s σ H Q I h;rw[evalPart_none];exact wpAny_pure ⟨none,H,I,.none,h⟩
theorem cU(h:PE X e te):PO X (some e) (MG te):=by
 intro Zg s σ H Q I hw;rw[evalPart_some];refine thn (h Zg s σ H _ I hw) fun u s1 ⟨x,H1,I1,r1,q1⟩=>?_;obtain⟨i,rfl,q⟩:=q1;obtain⟨t,rfl⟩:=r1;exact⟨some i,H1,I1,.int i t,q⟩
noncomputable def MN(X:Cx)(r:V->Option Int->Option Int->Hp->VK->Prop):Prop :=
 ∀(Zg:List (Addr×Obj)) (s:Shared) (σ:St) (H:Hp) (x:V) (v vl vu:Value) (lo hi:Option Int) (sl:Addr) (Q:VK),Zi X Zg σ H s->bH x v->s.heap.IsSliceOf sl vl vu .none->IsPart vl lo->IsPart vu hi->r x lo hi H Q ->
  ∃ T id,typeLookup (.type T) "__getitem__"=pure (some (.builtin id))/\s.TypeIs v T/\wpAny (model X.prog X.w) X.A (getItem v (.ref sl)) (EP X Zg σ Q) X.xe s
theorem MN.or{r r':V->Option Int->Option Int->Hp->VK->Prop}(h:MN X r)(h':MN X r'):MN X (fun x lo hi H Q=>r x lo hi H Q\/r' x lo hi H Q):=by
 intro Zg s σ H x v vl vu lo hi sl Q I rx hs pl pu q;rcases q with q|q
 ·exact h Zg s σ H x v vl vu lo hi sl Q I rx hs pl pu q
 ·exact h' Zg s σ H x v vl vu lo hi sl Q I rx hs pl pu q
noncomputable def Y4(r:V->Option Int->Option Int->Hp->VK->Prop)(te:TE)(tl th:TO):TE:=fun σ H Q=>te σ H fun x H1=>tl σ H1 fun l H2=>th σ H2 fun u H3=>r x l u H3 Q
theorem cN{r:V->Option Int->Option Int->Hp->VK->Prop}(hr:MN X r)(he:PE X e te)(hl:PO X lo tl)(hu:PO X hi th):PE X (.Subscript e (.Slice lo hi none p2) pos) (Y4 r te tl th):=by
 intro Zg s σ H Q I h;refine Subscript_ (thn (he Zg s σ H _ I h) fun v s1 ⟨x,H1,I1,r1,q1⟩=>?_);refine wpAny_Slice (thn (hl Zg s1 σ H1 _ I1 q1) fun vl s2 ⟨l,H2,I2,pl,q2⟩=>thn (hu Zg s2 σ H2 _ I2 q2) fun vu s3 ⟨u,H3,I3,pu,q3⟩=>?_);rw[evalPart_none];refine wpAny_pure ?_;have I4:Zi X Zg σ H3 {s3 with heap:=s3.heap.push {cls:=.type "slice",data:=.fields #[vl,vu,.none]}}:=I3.kept (t':=s3.toks) fun b ob q=>Heap.get?_push_of_some _ q;obtain⟨T,id,hT,ht,hg⟩:=hr Zg {s3 with heap:=s3.heap.push {cls:=.type "slice",data:=.fields #[vl,vu,.none]}} σ H3 x v vl vu l u s3.heap.objs.size Q I4 r1 (Heap.IsSliceOf.new ..) pl pu q3;show wpAny (model X.prog X.w) X.A (subscriptTail e (.Slice lo hi none p2) v (.ref s3.heap.objs.size)) (EP X Zg σ Q) X.xe {s3 with heap:=s3.heap.push {cls:=.type "slice",data:=.fields #[vl,vu,.none]}};exact tail_any (ops:=[.ref s3.heap.objs.size,v]) ht hT hg (by with_unfolding_all rfl)
noncomputable def gK(xs:List V)(lo hi:Option Int):List V:=(xs.drop (HT.fP xs.length 0 lo)).take (HT.fP xs.length xs.length hi - HT.fP xs.length 0 lo)
theorem nV(xs:List V)(lo hi:Option Int):(gK xs lo hi).length<=xs.length:=by
 unfold gK;rw[List.length_take,List.length_drop];omega
noncomputable def YN(K:q0B):V->Option Int->Option Int->Hp->VK->Prop:=fun x lo hi H Q=>∃ a xs,x=.ref a/\fO K H a xs /\
 ¬ (HT.fP xs.length 0 lo=0/\HT.fP xs.length xs.length hi=xs.length)/\∀ p,H p=none->Q (.ref p) (Zh H p (.tup (gK xs lo hi)))
theorem Mm:MN X (YN X.K):=by
 intro Zg s σ H x v vl vu lo hi sl Q I rx hs pl pu h;obtain⟨a,xs,rfl,hx,hw,q⟩:=h;cases rx;obtain⟨Zk,r,ht,hz⟩:=I.tuple hx;have hlen:Zk.toArray.size=xs.length:=by rw[List.size_toArray];exact r.length.symm
 refine⟨"tuple",_,PyProof.Rows.slot_tuple_getitem.lookup,ht.typeIs,?_⟩;refine HT.sM ht hs pl pu (by rw[hlen];exact hw) ?_ (by rw[hlen];exact hz);rw[hlen];refine⟨.ref s.heap.objs.size,_,I.laid (t':=s.toks) (o:=.tup (gK xs lo hi)) (fun b ob q=>Heap.get?_push_of_some _ q) (Nat.le_refl _) ?_,rfl,q _ (I.Zl.fresh (Nat.le_refl _))⟩;exact⟨Nat.le_trans (nV xs lo hi) hz,_,(r.drop (HT.fP xs.length 0 lo)).take (HT.fP xs.length xs.length hi - HT.fP xs.length 0 lo),IsTup.new _ _⟩
noncomputable def Xd(K:q0B):R2:=fun x y H Q=>∃ a b xs ys,x=.ref a/\y=.ref b/\fO K H a xs/\fO K H b ys/\xs≠[]/\xs.length+ys.length<=sizeLine /\
 (ys=[]->Q (.ref a) H)/\(ys≠[]->∀ p,H p=none->Q (.ref p) (Zh H p (.tup (xs++ys))))
theorem Vals.xM{xs:List V}{us:List Value}(r:Vals xs us):us=[]↔xs=[]:=by
 cases r with
 | nil=>simp
 | cons _ _=>simp
theorem Hx:lH X (binaryOp .Add) (Xd X.K):=by
 intro Zg s σ H x y v u Q I rx ry h;obtain⟨a,b,xs,ys,rfl,rfl,ha,hb,hx,hz,q1,q2⟩:=h;cases rx;cases ry;obtain⟨Zk,r1,p1,_⟩:=I.tuple ha;obtain⟨aaB,r2,p2,_⟩:=I.tuple hb;refine HT.Nb p1 p2 (fun z=>hx (r1.xM.mp z)) (fun z=>⟨.ref a,H,I,rfl,q1 (r2.xM.mp z)⟩) (fun z=>?_) (by rw[<- r1.length,<- r2.length];exact hz);refine⟨.ref s.heap.objs.size,_,I.laid (t':=s.toks) (o:=.tup (xs++ys)) (fun b ob q=>Heap.get?_push_of_some _ q) (Nat.le_refl _) ?_,rfl,q2 (fun w=>z (r2.xM.mpr w)) _ (I.Zl.fresh (Nat.le_refl _))⟩;exact⟨by rw[List.length_append];exact hz,_,r1.append r2,IsTup.new _ _⟩
end
noncomputable def DB(n:Nat)(i:Int):Option Nat:=if 0<=i then (if i < n then some i.toNat else none) else if -(n:Int)<=i then some (i+n).toNat else none
noncomputable def iM{α:Type}(xs:List α)(i:Int):Option α:=(DB xs.length i).bind fun j=>xs[j]?
theorem Hr{n:Nat}{i:Int}{j:Nat}(h:DB n i=some j):seqIndex? i n=some j/\j < n/\-(n:Int)<=i/\i < n:=by
 unfold DB at h;by_cases h0:0<=i
 ·rw[if_pos h0] at h;by_cases h1:i < n
  ·rw[if_pos h1] at h;have e:i.toNat=j:=Option.some.inj h;exact⟨by rw[seqIndex_of h0 h1,e],by omega,by omega,h1⟩
  ·rw[if_neg h1] at h;cases h
 ·rw[if_neg h0] at h;by_cases h1:-(n:Int)<=i
  ·rw[if_pos h1] at h;have e:(i+n).toNat=j:=Option.some.inj h;exact⟨by rw[seqIndex_neg (by omega) h1,e],by omega,h1,by omega⟩
  ·rw[if_neg h1] at h;cases h
theorem xF{α:Type}{xs:List α}{i:Int}{v:α}(h:iM xs i=some v):∃ j,seqIndex? i xs.length=some j/\xs[j]?=some v/\j < xs.length/\-(xs.length:Int)<=i/\i < xs.length:=by
 unfold iM at h;cases e:DB xs.length i with
 | none=>rw[e] at h;cases h
 | some j =>
  rw[e] at h;obtain⟨h1,h2,h3,h4⟩:=Hr e;exact⟨j,h1,h,h2,h3,h4⟩
theorem pF{α:Type}{xs:List α}{j:Nat}{v:α}(h:xs[j]?=some v):iM xs (j:Int)=some v:=by
 have hj:j < xs.length:=(List.getElem?_eq_some_iff.mp h).1;have e:DB xs.length (j:Int)=some j:=by
  unfold DB;rw[if_pos (by omega),if_pos (by omega)];simp
 unfold iM;rw[e];exact h
theorem nQ{α:Type}(xs:List α)(v:α):iM (xs++[v]) (-1)=some v:=by
 have hl:(xs++[v]).length=xs.length+1:=by simp
 have e:DB (xs++[v]).length (-1)=some xs.length:=by
  unfold DB;rw[hl,if_neg (by decide),if_pos (by omega)]
  congr 1
  omega
 unfold iM;rw[e];show(xs++[v])[xs.length]?=some v;simp
noncomputable def MT(b:Expr):Prop:=∀ o i,subscripted b false o i=operate [o,i] (getItem o i)
noncomputable def HX(X:Cx)(r:R2):Prop :=
 ∀(value slice:Expr) (Zg:List (Addr×Obj)) (s:Shared) (σ:St) (H:Hp) (x y:V) (v u:Value) (Q:VK),Zi X Zg σ H s->bH x v->bH y u->r x y H Q ->
  subscripted slice false v u=operate [v,u] (getItem v u)->wpAny (model X.prog X.w) X.A (subscriptTail value slice v u) (EP X Zg σ Q) X.xe s
noncomputable def UO(X:Cx)(id:String)(r:V->List V->Hp->VK->Prop):Prop :=
 ∀(Zg:List (Addr×Obj)) (s:Shared) (σ:St) (H:Hp) (x:V) (xs:List V) (v:Value) (us:List Value) (Q:VK),Zi X Zg σ H s->bH x v->Vals xs us->r x xs H Q ->
  wpAny (model X.prog X.w) X.A (call (.builtin id) (v::us)) (EP X Zg σ Q) X.xe s
section
variable {X:Cx} {a b:Expr} {ta tb:TE} {pos:Pos}
theorem HX.or{r r':R2}(h:HX X r)(h':HX X r'):HX X (fun x y H Q=>r x y H Q\/r' x y H Q):=by
 intro value slice Zg s σ H x y v u Q I rx ry q hs;rcases q with q|q
 ·exact h value slice Zg s σ H x y v u Q I rx ry q hs
 ·exact h' value slice Zg s σ H x y v u Q I rx ry q hs
theorem UO.or{id:String}{r r':V->List V->Hp->VK->Prop}(h:UO X id r)(h':UO X id r'):UO X id (fun x xs H Q=>r x xs H Q\/r' x xs H Q):=by
 intro Zg s σ H x xs v us Q I rx rs q;rcases q with q|q
 ·exact h Zg s σ H x xs v us Q I rx rs q
 ·exact h' Zg s σ H x xs v us Q I rx rs q
theorem aZ{r:R2}(hr:HX X r)(ha:PE X a ta)(hb:PE X b tb)(hs:MT b):PE X (.Subscript a b pos) (UK r ta tb):=by
 intro Zg s σ H Q I h;exact Subscript_ (QO ha hb I h fun v u s2 x y H2 I2 rx ry q=>hr a b Zg s2 σ H2 x y v u Q I2 rx ry q (hs _ _))
noncomputable def Xe(K:q0B):R2:=fun x y H Q=>∃ p xs i v,x=.ref p/\y=.int i/\dQ K H p xs/\iM xs i=some v/\Q v H
noncomputable def Xg(K:q0B):R2:=fun x y H Q=>∃ p xs i v,x=.ref p/\y=.int i/\fO K H p xs/\iM xs i=some v/\Q v H
noncomputable def Xf:R2:=fun x y H Q=>∃ z i c,x=.str z/\y=.int i/\z.length<=sizeLine/\iM z.cps.toList i=some c/\Q (.str ⟨#[c]⟩) H
theorem Hs:HX X (Xe X.K):=by
 intro value slice Zg s σ H x y v u Q I rx ry h hs;obtain⟨p,xs,i,z,rfl,rfl,hq,he,q⟩:=h;cases rx;obtain⟨t,rfl⟩:=ry;obtain⟨Zk,r,pl,hz⟩:=I.list hq;obtain⟨j,h1,h2,h3,h4,h5⟩:=xF he;obtain⟨w,ew,rw'⟩:=r.get h2;have hl:=r.length;have hn:=line63;have fin:EP X Zg σ Q w s:=⟨z,H,I,rw',q⟩;by_cases h0:0<=i
 ·have hj:i.toNat=j:=by
   rw[seqIndex_of h0 h5] at h1;exact Option.some.inj h1
  exact item_listR pl.isList h0 (by omega) (by rw[hj];simpa using ew) fin hs
 ·have hj:(i+(Zk.toArray.size:Int)).toNat=j:=by
   rw[seqIndex_neg (by omega) h4] at h1;rw[List.size_toArray,<- hl];exact Option.some.inj h1
  exact subscriptTail_builtinR (x:=w) pl.isList.typeIs slot_list_getitem.lookup
   (wpAny_getItem_list_neg (Q:=fun r s'=>r=w/\EP X Zg σ Q r s') pl.isList (by omega) (by rw[List.size_toArray]<;>omega) (by omega) (by rw[hj];simpa using ew) ⟨rfl,fin⟩) hs
theorem Ti:HX X (Xg X.K):=by
 intro value slice Zg s σ H x y v u Q I rx ry h hs;obtain⟨p,xs,i,z,rfl,rfl,hq,he,q⟩:=h;cases rx;obtain⟨t,rfl⟩:=ry;obtain⟨Zk,r,pl,hz⟩:=I.tuple hq;obtain⟨j,h1,h2,h3,h4,h5⟩:=xF he;obtain⟨w,ew,rw'⟩:=r.get h2;have hl:=r.length;have hn:=line63;have fin:EP X Zg σ Q w s:=⟨z,H,I,rw',q⟩;exact subscriptTail_builtinR (x:=w) pl.typeIs slot_tuple_getitem.lookup
  (getItem_tuple (j:=j) (Q:=fun r s'=>r=w/\EP X Zg σ Q r s') pl (by omega) (by omega) (by rw[List.size_toArray,<- hl];exact h1) (by simpa using ew) ⟨rfl,fin⟩) hs
theorem Th:HX X Xf:=by
 intro value slice Zg s σ H x y v u Q I rx ry h hs;obtain⟨z,i,c,rfl,rfl,hz,he,q⟩:=h;obtain⟨t,rfl⟩:=rx;obtain⟨t',rfl⟩:=ry;obtain⟨j,h1,h2,h3,h4,h5⟩:=xF he;have hl:z.cps.toList.length=z.length:=by simp[Str.length]
 rw[hl] at h1 h4 h5;have hn:=line63;exact tail_any (typeIs_str s z t) slot_str_getitem.lookup (getItem_str (c:=c) (by
  have e1:decide (i < -(2 ^ 63:Int))=false:=decide_eq_false (by omega);have e2:decide (i >= 2 ^ 63)=false:=decide_eq_false (by omega);rw[e1,e2,Bool.or_false]) (by rw[h1];simpa using h2) ⟨.str ⟨#[c]⟩,H,I.tok _,⟨_,rfl⟩,q⟩) hs
noncomputable def Za(K:q0B):R2:=fun x y H Q=>Xe K x y H Q\/Xg K x y H Q\/Xf x y H Q
theorem Tf:HX X (Za X.K):=Hs.or (Ti.or Th)
theorem FO(Zk:List Value)(n j:Nat)(u:Value):Obj.mapSeq (·.setIfInBounds j u) {cls:=.type "list",data:=.seq Zk.toArray n}={cls:=.type "list",data:=.seq (Zk.set j u).toArray n}:=by
 simp[Obj.mapSeq]
theorem Zi.lst{Zg:List (Addr×Obj)}{σ:St}{H:Hp}{s:Shared}{p:Addr}{xs:List V}(I:Zi X Zg σ H s)(h:H p=some (.lst xs)) :
    ∃(Zk:List Value) (n:Nat),Vals xs Zk/\s.heap.get? p=some {cls:=.type "list",data:=.seq Zk.toArray n}/\xs.length<=sizeLine:=by
  obtain⟨z,Zk,n,r,e⟩:=I.Zl p _ h;exact⟨Zk,n,r,e,z⟩
theorem Zi.Tq{Zg:List (Addr×Obj)}{σ:St}{H:Hp}{s:Shared}{p:Addr}{xs ys:List V}{Zk its':List Value}{n n':Nat}{f:Obj->Obj}(I:Zi X Zg σ H s)(h:H p=some (.lst xs))
    (ho:s.heap.get? p=some {cls:=.type "list",data:=.seq Zk.toArray n}) (hf:f {cls:=.type "list",data:=.seq Zk.toArray n}={cls:=.type "list",data:=.seq its'.toArray n'}) (r:Vals ys its') (hz:ys.length<=sizeLine) (t:Nat) :
    Zi X Zg σ (Zh H p (.lst ys)) {s with heap:=s.heap.update p f,toks:=t}:=by
  have e:(s.heap.update p f).get? p=some {cls:=.type "list",data:=.seq its'.toArray n'}:=by
    rw[Heap.get?_update_self f ho (by rw[hf]<;>rfl),hf]
  refine I.write (x:=p) (e:=p) (by rw[h];trivial) (.inl rfl) (fun b u hb q=>(Heap.get?_update_other _ _ (Ne.symm hb)).trans q) ⟨_,e⟩ ?_;exact⟨hz,its',n',r,e⟩
noncomputable def Xh:V->V->V->Hp->(Hp->Prop)->Prop:=fun o i v H Q=>∃ p xs k j,o=.ref p/\i=.int k/\H p=some (.lst xs)/\DB xs.length k=some j/\Q (Zh H p (.lst (xs.set j v)))
theorem Mi:PSet X Xh:=by
 intro Zg s σ H o i v ov iv u Q I ro ri rv h;obtain⟨p,xs,k,j,rfl,rfl,hp,hj,q⟩:=h;cases ro;obtain⟨t,rfl⟩:=ri;obtain⟨Zk,n,r,ho,hz⟩:=I.lst hp;obtain⟨h1,h2,h3,h4⟩:=Hr hj;have hl:=r.length;have hn:=line63;have I':Zi X Zg σ (Zh H p (.lst (xs.set j v))) {s with heap:=s.heap.update p (Obj.mapSeq (·.setIfInBounds j u))} :=
  I.Tq hp ho (FO Zk n j u) (r.set rv j) (by rw[List.length_set];exact hz) s.toks
 by_cases h0:0<=k
 ·have hk:k.toNat=j:=by
   rw[seqIndex_of h0 h4] at h1;exact Option.some.inj h1
  exact PySem.W.ki_setAt ho h0 (by omega) (by rw[List.size_toArray,<- hl];exact h4) (by rw[hk];exact⟨_,I',q⟩)
 ·have hk:(k+(Zk.toArray.size:Int)).toNat=j:=by
   rw[seqIndex_neg (by omega) h3] at h1;rw[List.size_toArray,<- hl];exact Option.some.inj h1
  exact PySem.W.ki_setBack ho (by omega) (by rw[List.size_toArray,<- hl];exact h3) (by omega) (by rw[hk];exact⟨_,I',q⟩)
theorem Dw(lo hi:Option Int)(n:Nat):(sliceBounds lo hi none n).1=((HT.fP n 0 lo:Nat):Int)/\(sliceBounds lo hi none n).2.1=((HT.fP n n hi:Nat):Int)/\(sliceBounds lo hi none n).2.2=1:=by
 refine⟨?_,?_,rfl⟩
 ·cases lo with
  | none=>simp[sliceBounds,HT.fP]
  | some i =>
   simp only[sliceBounds,HT.fP,Option.getD_none,show(1:Int) > 0 by decide,if_true];by_cases h:i < 0
   ·simp only[h,if_true]<;>omega
   ·simp only[h,if_false]<;>omega
 ·cases hi with
  | none=>simp[sliceBounds,HT.fP]
  | some i =>
   simp only[sliceBounds,HT.fP,Option.getD_none,show(1:Int) > 0 by decide,if_true];by_cases h:i < 0
   ·simp only[h,if_true]<;>omega
   ·simp only[h,if_false]<;>omega
theorem BO(Zk:List Value)(lo hi:Option Int):slicePick Zk.toArray lo hi none=((Zk.drop (HT.fP Zk.length 0 lo)).take (HT.fP Zk.length Zk.length hi - HT.fP Zk.length 0 lo)).toArray:=by
 obtain⟨h1,h2,h3⟩:=Dw lo hi Zk.toArray.size;unfold slicePick;rw[h1,h2,h3];simp only[sliceRange_one,pick_run,List.size_toArray]<;>rfl
noncomputable def Ug(K:q0B):V->Option Int->Option Int->Hp->VK->Prop:=fun x lo hi H Q=>∃ a xs,x=.ref a/\dQ K H a xs/\∀ p,H p=none->Q (.ref p) (Zh H p (.lst (gK xs lo hi)))
theorem Dv:MN X (Ug X.K):=by
 intro Zg s σ H x v vl vu lo hi sl Q I rx hs pl pu h;obtain⟨a,xs,rfl,hx,q⟩:=h;cases rx;obtain⟨Zk,r,ht,hz⟩:=I.list hx;have hlen:=r.length;refine⟨"list",_,slot_list_getitem.lookup,ht.isList.typeIs,?_⟩;refine wpAny_getItem_list_slice ht.isList hs pl pu .none (by simp) ?_ (by rw[List.size_toArray]<;>omega);rw[BO,<- hlen];refine⟨.ref s.heap.objs.size,_,I.laid (t':=s.toks) (o:=.lst (gK xs lo hi)) (fun b ob q=>Heap.get?_push_of_some _ q) (Nat.le_refl _) ?_,rfl,q _ (I.Zl.fresh (Nat.le_refl _))⟩;exact⟨Nat.le_trans (nV xs lo hi) hz,_,0,(r.drop (HT.fP xs.length 0 lo)).take (HT.fP xs.length xs.length hi - HT.fP xs.length 0 lo),Heap.get?_push_size _ rfl⟩
noncomputable def cS:V->Bool
 | .Zj=>true
 | .bl _=>true
 | .int _=>true
 | .str _=>true
 | _=>false
noncomputable def sF:V->V->Bool
 | .Zj,.Zj=>true
 | .bl a,.bl b=>a==b
 | .bl a,.int b=>(if a then 1 else 0)==b
 | .int a,.bl b=>a==(if b then 1 else 0)
 | .int a,.int b=>a==b
 | .str a,.str b=>a==b
 | _,_=>false
theorem Lc{A:Around}{s:Shared}{y x:V}{u v:Value}(ry:bH y u)(rx:bH x v)(fy:cS y=true)(fx:cS x=true):SeqAt.EqAt A s u v (sF y x):=by
 cases y with
 | Zj =>
  cases ry;cases x with
  | Zj=>cases rx;exact SeqAt.EqAt.same _
  | bl b=>cases rx;exact SeqAt.EqAt.none_bool b
  | int b=>obtain⟨t,rfl⟩:=rx;exact SeqAt.EqAt.none_int b t
  | str b=>obtain⟨t,rfl⟩:=rx;exact SeqAt.EqAt.none_str b t
  | _=>exact absurd (show false=true from fx) Bool.false_ne_true
 | bl a =>
  cases ry;cases x with
  | Zj=>cases rx;exact SeqAt.EqAt.bool_none a
  | bl b=>cases rx;exact SeqAt.EqAt.bool_bool a b
  | int b=>obtain⟨t,rfl⟩:=rx;exact SeqAt.EqAt.bool_int a b t
  | str b=>obtain⟨t,rfl⟩:=rx;exact SeqAt.EqAt.bool_str a b t
  | _=>exact absurd (show false=true from fx) Bool.false_ne_true
 | int a =>
  obtain⟨t',rfl⟩:=ry;cases x with
  | Zj=>cases rx;exact SeqAt.EqAt.int_none a t'
  | bl b=>cases rx;exact SeqAt.EqAt.int_bool a t' b
  | int b=>obtain⟨t,rfl⟩:=rx;exact SeqAt.EqAt.int_int a t' b t
  | str b=>obtain⟨t,rfl⟩:=rx;exact SeqAt.EqAt.int_str a t' b t
  | _=>exact absurd (show false=true from fx) Bool.false_ne_true
 | str a =>
  obtain⟨t',rfl⟩:=ry;cases x with
  | Zj=>cases rx;exact SeqAt.EqAt.str_none a t'
  | bl b=>cases rx;exact SeqAt.EqAt.str_bool a t' b
  | int b=>obtain⟨t,rfl⟩:=rx;exact SeqAt.EqAt.str_int a t' b t
  | str b=>obtain⟨t,rfl⟩:=rx;exact SeqAt.EqAt.str_str a t' b t
  | _=>exact absurd (show false=true from fx) Bool.false_ne_true
 | _=>exact absurd (show false=true from fy) Bool.false_ne_true
noncomputable def Fp(x:V)(u:Value):Bool:=match u with
 | .none=>sF .Zj x
 | .bool b=>sF (.bl b) x
 | .int i _=>sF (.int i) x
 | .str z _=>sF (.str z) x
 | _=>false
theorem Ld{x y:V}{u:Value}(r:bH y u)(f:cS y=true):Fp x u=sF y x:=by
 cases y with
 | Zj=>cases r;rfl
 | bl b=>cases r;rfl
 | int i=>obtain⟨t,rfl⟩:=r;rfl
 | str z=>obtain⟨t,rfl⟩:=r;rfl
 | _=>exact absurd (show false=true from f) Bool.false_ne_true
theorem rX{x:V}:∀ {xs:List V} {us:List Value},Vals xs us->xs.all cS=true->us.any (Fp x)=xs.any fun y=>sF y x
 | _,_,.nil,_=>rfl
 | y::xs,u::us,.cons r t,f=>by
  rw[List.all_cons,Bool.and_eq_true] at f;rw[List.any_cons,List.any_cons,Ld r f.1,rX t f.2]
theorem oI{A:Around}{s:Shared}{x:V}{v:Value}(rx:bH x v)(fx:cS x=true):∀ {xs:List V} {us:List Value},Vals xs us->xs.all cS=true->∀ u∈us,SeqAt.EqAt A s u v (Fp x u)
 | _,_,.nil,_=>fun u hu=>by cases hu
 | y::xs,u::us,.cons r t,f=>fun u' hu=>by
  rw[List.all_cons,Bool.and_eq_true] at f;rcases List.mem_cons.mp hu with rfl|hu
  ·rw[Ld r f.1];exact Lc r rx f.1 fx
  ·exact oI rx fx t f.2 u' hu
noncomputable def wU(x:V)(xs:List V):Bool:=xs.any fun y=>sF y x
noncomputable def Y0(K:q0B)(neg:Bool):R2:=fun x y H Q=>∃ p xs,y=.ref p/\(dQ K H p xs\/fO K H p xs)/\cS x=true/\xs.all cS=true/\Q (.bl (if neg then !wU x xs else wU x xs)) H
theorem Ja:lH X (compareOp .In) (Y0 X.K false):=by
 intro Zg s σ H x y v u Q I rx ry h;obtain⟨p,xs,rfl,hq,fx,fs,q⟩:=h;cases ry;rcases hq with hq|hq
 ·obtain⟨Zk,r,pl,hz⟩:=I.list hq;refine SeqAt.in_listAt (Fp x) pl.isList (fun w hw=>oI rx fx r fs w (by simpa using hw)) ⟨.bl _,H,I,rfl,?_⟩;rw[show Zk.toArray.any (Fp x)=Zk.any (Fp x) by simp,rX r fs];exact q
 ·obtain⟨Zk,r,pl,hz⟩:=I.tuple hq;refine SeqAt.in_tupleAt (Fp x) pl (fun w hw=>oI rx fx r fs w (by simpa using hw)) ⟨.bl _,H,I,rfl,?_⟩;rw[show Zk.toArray.any (Fp x)=Zk.any (Fp x) by simp,rX r fs];exact q
theorem Dh:lH X (compareOp .NotIn) (Y0 X.K true):=by
 intro Zg s σ H x y v u Q I rx ry h;obtain⟨p,xs,rfl,hq,fx,fs,q⟩:=h;cases ry;rcases hq with hq|hq
 ·obtain⟨Zk,r,pl,hz⟩:=I.list hq;refine SeqAt.notIn_listAt (Fp x) pl.isList (fun w hw=>oI rx fx r fs w (by simpa using hw)) ⟨.bl _,H,I,rfl,?_⟩;rw[show Zk.toArray.any (Fp x)=Zk.any (Fp x) by simp,rX r fs];exact q
 ·obtain⟨Zk,r,pl,hz⟩:=I.tuple hq;refine SeqAt.notIn_tupleAt (Fp x) pl (fun w hw=>oI rx fx r fs w (by simpa using hw)) ⟨.bl _,H,I,rfl,?_⟩;rw[show Zk.toArray.any (Fp x)=Zk.any (Fp x) by simp,rX r fs];exact q
theorem sA:eX X (.builtin "len") (fun xs H Q=>∃ p ys,xs=[.ref p]/\(dQ X.K H p ys\/fO X.K H p ys)/\Q (.int ys.length) H):=by
 intro Zg s σ H xs us Q I r h;obtain⟨p,ys,rfl,hq,q⟩:=h;obtain⟨u,rfl,rx⟩:=vals1 r;cases rx;have hn:=line63;rcases hq with hq|hq
 ·obtain⟨Zk,r',pl,hz⟩:=I.list hq;have hlen:=r'.length;exact Calls.call_len_list pl.isList (by simp only[List.size_toArray]<;>omega) ⟨.int ys.length,H,I.tok _,⟨s.toks+1,by rw[List.size_toArray,hlen]⟩,q⟩
 ·obtain⟨Zk,r',pl,hz⟩:=I.tuple hq;have hlen:=r'.length;exact len_tuple pl (by simp only[List.size_toArray]<;>omega) ⟨.int ys.length,H,I.tok _,⟨s.toks+1,by rw[List.size_toArray,hlen]⟩,q⟩
theorem eX.or{f:Value}{r r':List V->Hp->VK->Prop}(h:eX X f r)(h':eX X f r'):eX X f (fun xs H Q=>r xs H Q\/r' xs H Q):=by
 intro Zg s σ H xs us Q I rs q;rcases q with q|q
 ·exact h Zg s σ H xs us Q I rs q
 ·exact h' Zg s σ H xs us Q I rs q
theorem Bp:eX X (.type "tuple") (fun xs H Q=>∃ p ys,xs=[.ref p]/\((dQ X.K H p ys/\∀ l,H l=none->Q (.ref l) (Zh H l (.tup ys)))\/(fO X.K H p ys/\Q (.ref p) H))):=by
 intro Zg s σ H xs us Q I r h;obtain⟨p,ys,rfl,h⟩:=h;obtain⟨u,rfl,rx⟩:=vals1 r;cases rx;rcases h with⟨hq,q⟩|⟨hq,q⟩
 ·obtain⟨Zk,r',pl,hz⟩:=I.list hq;have hlen:=r'.length;refine call_tuple_list pl.isList (fun h' kp=>?_) (by simp only[List.size_toArray]<;>omega);have I1:Zi X Zg σ H {s with heap:=h'}:=I.kept (t':=s.toks) kp;have I2:Zi X Zg σ (Zh H h'.objs.size (.tup ys)) {s with heap:=h'.push {cls:=.type "tuple",data:=.seq Zk.toArray}} :=
   I1.laid (t':=s.toks) (fun b o e=>Heap.get?_push_of_some _ e) (Nat.le_refl _) (show dJ X.prog X.w _ _ _ (.tup ys) from ⟨hz,Zk,r',IsTup.new _ _⟩)
  exact⟨.ref h'.objs.size,_,I2,rfl,q _ (I1.Zl.fresh (Nat.le_refl _))⟩
 ·obtain⟨Zk,r',pl,hz⟩:=I.tuple hq;exact call_tuple_same pl ⟨.ref p,H,I,rfl,q⟩
noncomputable def X0(K:q0B)(T:String)(x:V)(H:Hp):Prop:=match x with
  | .str _=>T = "str"
  | .int _=>T = "int"
  | .ref p=>(T = "list"/\∃ xs,dQ K H p xs)\/(T = "tuple"/\∃ o,K.lookup p=some o/\o.cls=.type "tuple"/\o.dict=none) \/
      (T = "dict"/\((∃ kvs,H p=some (.dK kvs))\/∃ kvs,H p=some (.dT kvs)))\/(T = "set"/\∃ S n,H p=some (.set S n))
  | _=>False
theorem GH{Zg:List (Addr×Obj)}{σ:St}{H:Hp}{s:Shared}{T:String}{x:V}{v:Value}(I:Zi X Zg σ H s)(r:bH x v)(ty:X0 X.K T x H) :
    s.TypeIs v T/\∀ a,v=.ref a->∃ ob,s.heap.get? a=some ob/\ob.dict=none:=by
  cases x with
  | str z =>
    obtain⟨t,rfl⟩:=r;cases (show T = "str" from ty);exact⟨typeIs_str s z t,fun _ e=>nomatch e⟩
  | int i =>
    obtain⟨t,rfl⟩:=r;cases (show T = "int" from ty);exact⟨typeIs_int s i t,fun _ e=>nomatch e⟩
  | ref p =>
    cases r;rcases ty with⟨rfl,xs,hq⟩|⟨rfl,o,hk,hc,hd⟩|⟨rfl,hk⟩|⟨rfl,S,n,hk⟩
    · obtain⟨Zk,_,pl,_⟩:=I.list hq;refine⟨pl.isList.typeIs,fun a e=>?_⟩;cases e;obtain⟨o,n,e,c,hd,_⟩:=pl;exact⟨o,e,hd⟩
    · refine⟨⟨o,I.kIn p o hk,hc⟩,fun a e=>?_⟩;cases e;exact⟨o,I.kIn _ o hk,hd⟩
    · have z:∃ o,s.heap.get? p=some o/\o.ExactDict:=by
        rcases hk with⟨kvs,hk⟩|⟨kvs,hk⟩
        · obtain⟨_,_,_,_,o,_,_,e,ex,_⟩:=I.Zl p _ hk;exact⟨o,e,ex⟩
        · obtain⟨_,_,_,_,o,_,_,e,ex,_⟩:=I.Zl p _ hk;exact⟨o,e,ex⟩
      obtain⟨o,e,ex⟩:=z;refine⟨⟨o,e,ex.1⟩,fun a e2=>?_⟩;cases e2;exact⟨o,e,ex.2.1⟩
    · obtain⟨o,_,_,_,e,ex,_⟩:=I.Zl p _ hk;refine⟨⟨o,e,ex.1⟩,fun a e2=>?_⟩;cases e2;exact⟨o,e,ex.2.1⟩
  | _=>exact False.elim ty
noncomputable def Zb(K:q0B)(T:String)(r:V->List V->Hp->VK->Prop)(to:TE)(t:TA):TE:=fun σ H Q=>to σ H fun x H1=>X0 K T x H1/\t σ H1 fun xs H2=>r x xs H2 Q
variable {o e:Expr} {es:List Expr} {to:TE} {t:TA} {name:Str} {apos Zo:Pos} {T id:String} {r:V->List V->Hp->VK->Prop}
/- xs.append(e),list.index on a module's tuple .. are UO facts of 06m -/
end
noncomputable def QI(X:Cx)(id:String)(r:V->List V->Hp->VK->Prop):Prop :=
 ∀(Zg:List (Addr×Obj)) (s:Shared) (σ:St) (H:Hp) (x:V) (xs:List V) (v:Value) (us:List Value) (Q:VK),Zi X Zg σ H s->bH x v->Vals xs us->r x xs H Q ->
  wpAny (model X.prog X.w) X.A (call (.builtin id) (v::us)) (EP X Zg σ Q) X.xe s
theorem Vals.one{x:V}{us:List Value}(h:Vals [x] us):∃ u,us=[u]/\bH x u:=by
 cases h with
 | cons r t=>cases t;exact⟨_,rfl,r⟩
theorem Vals.two:∀ {x y:V} {us:List Value},Vals [x,y] us->∃ u v,us=[u,v]/\bH x u/\bH y v
 | _,_,_,.cons r (.cons q .nil)=>⟨_,_,rfl,r,q⟩
theorem Vals.zero:∀ {us:List Value},Vals [] us->us=[]
 | _,.nil=>rfl
theorem Vals.dropLast{xs:List V}{us:List Value}(h:Vals xs us):Vals xs.dropLast us.dropLast:=by
 induction h with
 | nil=>exact .nil
 | cons r t ih =>
  cases t with
  | nil=>exact .nil
  | cons q t'=>exact .cons r ih
theorem Vals.eraseIdx:∀ {xs:List V} {us:List Value} (i:Nat),Vals xs us->Vals (xs.eraseIdx i) (us.eraseIdx i)
 | _,_,_,.nil=>.nil
 | _,_,0,.cons _ t=>t
 | _,_,i+1,.cons r t=>.cons r (Vals.eraseIdx i t)
theorem Vals.reverse{xs:List V}{us:List Value}(h:Vals xs us):Vals xs.reverse us.reverse:=by
 induction h with
 | nil=>exact .nil
 | cons r t ih=>rw[List.reverse_cons,List.reverse_cons];exact Vals.append ih (.cons r .nil)
theorem Fq{α:Type}(l:List α):l.eraseIdx (l.length - 1)=l.dropLast:=by
 induction l with
 | nil=>rfl
 | cons a r ih =>
  cases r with
  | nil=>rfl
  | cons b r =>
   have e:(a::b::r).length - 1=((b::r).length - 1)+1:=by
    have h1:(a::b::r).length=r.length+2:=rfl;have h2:(b::r).length=r.length+1:=rfl;omega
   rw[e,List.eraseIdx_cons_succ,ih]
   all_goals rfl
theorem B8{α:Type}:∀(l:List α) (i:Nat),(l.eraseIdx i).length<=l.length
 | [],_=>Nat.le_refl _
 | _::_,0=>Nat.le_succ _
 | _::r,i+1=>Nat.succ_le_succ (B8 r i)
section
variable {X:Cx} {Zg:List (Addr×Obj)} {σ:St} {H:Hp} {s:Shared} {l b:Addr} {xs ys zs:List V}
theorem Zi.BD{Zk its':List Value}{n:Nat}{f:Array Value->Array Value}{t':Nat}(I:Zi X Zg σ H s)(hH:H l=some (.lst xs))
    (e:s.heap.get? l=some {cls:=.type "list",data:=.seq Zk.toArray n}) (hf:f Zk.toArray=its'.toArray) (hv:Vals ys its') (hz:ys.length<=sizeLine) :
    Zi X Zg σ (Zh H l (.lst ys)) {s with heap:=s.heap.update l (Obj.mapSeq f),toks:=t'}:=by
  have q:=PySem.IsL.update e f;rw[hf] at q;refine I.write (x:=l) (e:=l) (by rw[hH];exact trivial) (.inl rfl) (fun b' u hb hu=>(Heap.get?_update_other s.heap (Obj.mapSeq f) (Ne.symm hb)).trans hu) ⟨_,q⟩ ?_;exact⟨hz,its',_,hv,q⟩
theorem Zi.Oz{Zk:List Value}{t':Nat}(I:Zi X Zg σ H s)(hv:Vals ys Zk)(hz:ys.length<=sizeLine) :
    Zi X Zg σ (Zh H s.heap.objs.size (.lst ys)) {s with heap:=s.heap.push {cls:=.type "list",data:=.seq Zk.toArray},toks:=t'} :=
  I.laid (fun _ _ q=>Heap.get?_push_of_some _ q) (Nat.le_refl _) ⟨hz,Zk,0,hv,Heap.get?_push_size _ rfl⟩
theorem Zi.fresh(I:Zi X Zg σ H s):H s.heap.objs.size=none:=I.Zl.fresh (Nat.le_refl _)
theorem Zi.FJ(I:Zi X Zg σ H s)(hH:H l=some (.lst xs)):xs.length<=sizeLine/\∃(Zk:List Value) (n:Nat),Vals xs Zk/\xs.length=Zk.length/\s.heap.get? l=some {cls:=.type "list",data:=.seq Zk.toArray n}:=by
 obtain⟨z,Zk,n,r,e⟩:=I.Zl l _ hH;exact⟨z,Zk,n,r,r.length,e⟩
theorem LN{n:Nat}(h:n<=sizeLine):Builtin.List.listTooLong n=false:=by
 unfold Builtin.List.listTooLong;exact decide_eq_false (by omega)
end
section
variable {X:Cx}
noncomputable def OU:V->List V->Hp->VK->Prop:=fun x vs H Q=>∃ l xs y,x=.ref l/\vs=[y]/\H l=some (.lst xs)/\xs.length < sizeLine/\Q .Zj (Zh H l (.lst (xs++[y])))
theorem IM:QI X "list.append" OU:=by
 intro Zg s σ H x vs v us Q I rx rv h;obtain⟨l,xs,y,rfl,rfl,hH,hz,q⟩:=h;cases rx;obtain⟨u,rfl,ru⟩:=rv.one;obtain⟨z,Zk,n,r,hl,e⟩:=I.FJ hH;refine call_meets F.slot_list_append ⟨_,e,rfl⟩ F.entry_list_append (F.args_list_append_2 _ _) (PySem.list_append l Zk.toArray n u (by rw[List.size_toArray];omega)) ⟨e,?_⟩;refine⟨.Zj,_,I.BD (its':=Zk++[u]) hH e (by simp) (r.append (.cons ru .nil)) ?_,rfl,q⟩;rw[List.length_append,List.length_singleton];omega
noncomputable def OV:V->List V->Hp->VK->Prop:=fun x vs H Q=>∃ l b xs zs,x=.ref l/\vs=[.ref b]/\H l=some (.lst xs)/\H b=some (.lst zs)/\xs.length+zs.length<=sizeLine/\Q .Zj (Zh H l (.lst (xs++zs)))
theorem IP:QI X "list.extend" OV:=by
 intro Zg s σ H x vs v us Q I rx rv h;obtain⟨l,b,xs,zs,rfl,rfl,hH,hB,hz,q⟩:=h;cases rx;obtain⟨u,rfl,ru⟩:=rv.one;cases ru;obtain⟨z,Zk,n,r,hl,e⟩:=I.FJ hH;obtain⟨z2,aaB,n2,r2,hl2,e2⟩:=I.FJ hB;have hsz:Zk.toArray.size+aaB.toArray.size<=sizeLine:=by rw[List.size_toArray,List.size_toArray];omega
 have ab6:¬ (!Zk.toArray.isEmpty&&Builtin.List.listTooLong (Zk.toArray.size+aaB.toArray.size))=true:=by
  rw[LN hsz,Bool.and_false];exact Bool.false_ne_true
 refine call_meets F.slot_list_extend ⟨_,e,rfl⟩ F.entry_list_extend (F.args_list_extend_2 _ _)
  (AutoSeq1.list_extend_list_list_0 l Zk.toArray n b aaB.toArray n2 ab6 (by rw[List.size_toArray];omega) (by omega)) ⟨e,e2,?_⟩
 refine⟨.Zj,_,I.BD (its':=Zk++aaB) hH e (by simp) (r.append r2) ?_,rfl,q⟩;rw[List.length_append];omega
noncomputable def YM:V->List V->Hp->VK->Prop:=fun x vs H Q=>∃ l xs y,x=.ref l/\vs=[]/\H l=some (.lst xs)/\xs[xs.length - 1]?=some y/\Q y (Zh H l (.lst xs.dropLast))
theorem Tv:QI X "list.pop" YM:=by
 intro Zg s σ H x vs v us Q I rx rv h;obtain⟨l,xs,y,rfl,rfl,hH,hy,q⟩:=h;cases rx;have hus:=rv.zero;subst hus;obtain⟨z,Zk,n,r,hl,e⟩:=I.FJ hH;obtain⟨u,hu,ru⟩:=r.get hy;have hy':Zk.toArray[Zk.toArray.size - 1]?=some u:=by
  show Zk.toArray[Zk.length - 1]?=some u;rw[<- Array.getElem?_toList,<- hl];exact hu
 refine call_meets F.slot_list_pop ⟨_,e,rfl⟩ F.entry_list_pop (F.args_list_pop_1 _) (MeetsSeq.list_pop_last l Zk.toArray n u hy' (by rw[List.size_toArray];omega)) ⟨e,?_⟩;refine⟨y,_,I.BD (its':=Zk.dropLast) hH e ?_ r.dropLast ?_,ru,q⟩
 ·show Zk.toArray.eraseIdxIfInBounds (Zk.toArray.size - 1)=Zk.dropLast.toArray;rw[List.size_toArray,List.eraseIdxIfInBounds_toArray,Fq]
 ·rw[List.length_dropLast];omega
noncomputable def Ue:V->List V->Hp->VK->Prop:=fun x vs H Q=>∃ l xs i k y,x=.ref l/\vs=[.int i]/\H l=some (.lst xs)/\-(2 ^ 63)<=i/\i < 2 ^ 63/\seqIndex? i xs.length=some k/\xs[k]?=some y/\Q y (Zh H l (.lst (xs.eraseIdx k)))
theorem LJ:QI X "list.pop" Ue:=by
 intro Zg s σ H x vs v us Q I rx rv h;obtain⟨l,xs,i,k,y,rfl,rfl,hH,h1,h2,hk,hy,q⟩:=h;cases rx;obtain⟨u,rfl,ru⟩:=rv.one;obtain⟨t,rfl⟩:=ru;obtain⟨z,Zk,n,r,hl,e⟩:=I.FJ hH;obtain⟨w,hw,rw'⟩:=r.get hy;refine call_meets F.slot_list_pop ⟨_,e,rfl⟩ F.entry_list_pop (F.args_list_pop_2 _ _)
  (MeetsSeq.list_pop_at l Zk.toArray n i t k w (fitsIndex_both h1 h2) (by rw[List.size_toArray,<- hl];exact hk) (by rw[<- Array.getElem?_toList];exact hw) (by rw[List.size_toArray];omega)) ⟨e,?_⟩
 refine⟨y,_,I.BD (its':=Zk.eraseIdx k) hH e ?_ (r.eraseIdx k) ?_,rw',q⟩
 ·show Zk.toArray.eraseIdxIfInBounds k=(Zk.eraseIdx k).toArray;rw[List.eraseIdxIfInBounds_toArray]
 ·have:=B8 xs k;omega
noncomputable def YL:R2:=fun x y H Q=>∃ l b xs zs,x=.ref l/\y=.ref b/\H l=some (.lst xs)/\H b=some (.lst zs)/\xs.length+zs.length<=sizeLine/\∀ p,H p=none->Q (.ref p) (Zh H p (.lst (xs++zs)))
theorem TL:lH X (binaryOp .Add) YL:=by
 intro Zg s σ H x y v u Q I rx ry h;obtain⟨l,b,xs,zs,rfl,rfl,hH,hB,hz,q⟩:=h;cases rx;cases ry;obtain⟨z,Zk,n,r,hl,e⟩:=I.FJ hH;obtain⟨z2,aaB,n2,r2,hl2,e2⟩:=I.FJ hB;refine PySem.P.add_list e e2 ?_ (by rw[List.size_toArray,List.size_toArray];omega);have ea:Zk.toArray++aaB.toArray=(Zk++aaB).toArray:=by simp
 rw[ea];exact⟨.ref _,_,I.Oz (t':=s.toks) (r.append r2) (by rw[List.length_append];omega),rfl,q _ I.fresh⟩
end
section
variable {κ:Type} [DecidableEq κ]
noncomputable def bT(kvs:List (κ×V))(k:κ):Option V:=(kvs.find? fun kv=>decide (kv.1=k)).map (·.2)
noncomputable def eL(kvs:List (κ×V))(k:κ)(v:V):List (κ×V) :=
 if (kvs.any fun kv=>decide (kv.1=k))=true then kvs.map (fun kv=>if kv.1=k then (kv.1,v) else kv) else kvs++[(k,v)]
noncomputable def qB(kvs:List (κ×V))(k:κ):List (κ×V):=kvs.filter fun kv=>decide (kv.1≠k)
theorem E3{k:κ}:bT ([]:List (κ×V)) k=none:=rfl
theorem cO{p:κ×V}{r:List (κ×V)}{k:κ}(e:p.1=k):bT (p::r) k=some p.2:=by simp[bT,List.find?_cons,e]
theorem cD{p:κ×V}{r:List (κ×V)}{k:κ}(e:¬ p.1=k):bT (p::r) k=bT r k:=by simp[bT,List.find?_cons,e]
theorem pB(k:κ):∀ kvs:List (κ×V),(kvs.any fun kv=>decide (kv.1=k))=(bT kvs k).isSome
 | []=>rfl
 | p::r=>by
  rw[List.any_cons];by_cases e:p.1=k
  ·simp only[cO e,decide_eq_true e,Bool.true_or,Option.isSome_some]
  ·rw[cD e,decide_eq_false e,Bool.false_or];exact pB k r
theorem E2(k j:κ)(y:V):∀ kvs:List (κ×V),bT (kvs.map fun kv=>if kv.1=k then (kv.1,y) else kv) j=(bT kvs j).map fun x=>if j=k then y else x
 | []=>rfl
 | p::r=>by
  have ih:=E2 k j y r;rw[List.map_cons];by_cases h:p.1=k
  ·rw[if_pos h];by_cases e:p.1=j
   ·rw[cO (p:=(p.1,y)) e,cO e,Option.map_some,if_pos (e.symm.trans h)]
   ·rw[cD (p:=(p.1,y)) e,cD e,ih]
  ·rw[if_neg h];by_cases e:p.1=j
   ·rw[cO (p:=p) e,cO e,Option.map_some,if_neg (fun z=>h (e.trans z))]
   ·rw[cD (p:=p) e,cD e,ih]
theorem Cs(k j:κ)(y:V):∀ kvs:List (κ×V),bT kvs k=none->bT (kvs++[(k,y)]) j=if j=k then some y else bT kvs j
 | [],_=>by
  by_cases e:k=j
  ·rw[if_pos e.symm];exact cO (p:=(k,y)) e
  ·rw[if_neg (fun z=>e z.symm)];exact cD (p:=(k,y)) e
 | p::r,hn=>by
  rw[List.cons_append];have hk:¬ p.1=k:=fun z=>by rw[cO z] at hn;cases hn
  rw[cD hk] at hn;have ih:=Cs k j y r hn;by_cases e:p.1=j
  ·rw[cO e,cO e,if_neg (fun z=>hk (e.trans z))]
  ·rw[cD e,cD e,ih]
theorem Bk(kvs:List (κ×V))(k j:κ)(y:V):bT (eL kvs k y) j=if j=k then some y else bT kvs j:=by
 unfold eL;by_cases a:(kvs.any fun kv=>decide (kv.1=k))=true
 ·rw[if_pos a,E2];rw[pB] at a;by_cases e:j=k
  ·obtain⟨x,hx⟩:=Option.isSome_iff_exists.mp a;rw[if_pos e,e,hx,Option.map_some,if_pos rfl]
  ·rw[if_neg e];cases bT kvs j with
   | none=>rfl
   | some x=>rw[Option.map_some,if_neg e]
 ·rw[if_neg a];refine Cs k j y kvs ?_;rw[pB] at a;cases q:bT kvs k with
  | none=>rfl
  | some x=>rw[q] at a;exact(a rfl).elim
theorem oG(kvs:List (κ×V))(k:κ)(v:V):(eL kvs k v).length<=kvs.length+1:=by
 unfold eL;split
 ·rw[List.length_map];omega
 ·rw[List.length_append,List.length_cons,List.length_nil];omega
theorem AH{kvs:List (κ×V)}{k:κ}(v:V)(h:bT kvs k=none):eL kvs k v=kvs++[(k,v)]:=by
 unfold eL;rw[pB,h];exact if_neg (by decide)
theorem lU.uH{o:Option V}{u:Option Value}(r:lU o u):o.isSome=u.isSome:=by
 cases o with
 | none=>cases u with
  | none=>rfl
  | some _=>exact(show False from r).elim
 | some _=>cases u with
  | none=>exact(show False from r).elim
  | some _=>rfl
theorem lU.getD{o:Option V}{u:Option Value}{d:V}{d':Value}(r:lU o u)(rd:bH d d'):bH (o.getD d) (u.getD d'):=by
 cases o with
 | none=>cases u with
  | none=>exact rd
  | some _=>exact(show False from r).elim
 | some _=>cases u with
  | none=>exact(show False from r).elim
  | some _=>exact r
theorem KV.val{kvs:List (κ×V)}{vs:List (κ×Value)}(r:KV kvs vs)(k:κ):lU (bT kvs k) (valueAt vs k):=by
 unfold KV at r
 induction r with
 | nil=>exact True.intro
 | @cons p q ps qs h t ih =>
  obtain⟨h1,h2⟩:=h;by_cases e:p.1=k
  ·have e':q.1=k:=h1.symm.trans e;have b:valueAt (q::qs) k=some q.2:=by simp[valueAt,List.find?_cons,e']
   rw[cO e,b];exact h2
  ·have e':¬ q.1=k:=fun z=>e (h1.trans z);have b:valueAt (q::qs) k=valueAt qs k:=by simp[valueAt,List.find?_cons,e']
   rw[cD e,b];exact ih
theorem KV.any{kvs:List (κ×V)}{vs:List (κ×Value)}(r:KV kvs vs)(k:κ):(kvs.any fun kv=>decide (kv.1=k))=vs.any fun kv=>decide (kv.1=k):=by
 unfold KV at r
 induction r with
 | nil=>rfl
 | cons h t ih=>rw[List.any_cons,List.any_cons,ih,h.1]
theorem KV.Uh{kvs:List (κ×V)}{vs:List (κ×Value)}(r:KV kvs vs)(k:κ){y:V}{u:Value}(ry:bH y u) :
    KV (kvs.map fun kv=>if kv.1=k then (kv.1,y) else kv) (vs.map fun kv=>if kv.1=k then (kv.1,u) else kv):=by
  unfold KV at r ⊢
  induction r with
  | nil=>exact .nil
  | @cons p q ps qs h t ih =>
    rw[List.map_cons,List.map_cons];refine .cons ?_ ih;obtain⟨h1,h2⟩:=h;by_cases e:p.1=k
    · rw[if_pos e,if_pos (h1.symm.trans e)];exact⟨h1,ry⟩
    · rw[if_neg e,if_neg (fun z=>e (h1.trans z))];exact⟨h1,h2⟩
theorem KV.put{kvs:List (κ×V)}{vs:List (κ×Value)}(r:KV kvs vs)(k:κ){y:V}{u:Value}(ry:bH y u):KV (eL kvs k y) (stored vs k u):=by
 unfold eL stored;rw[r.any k];by_cases e:(vs.any fun kv=>decide (kv.1=k))=true
 ·rw[if_pos e,if_pos e];exact r.Uh k ry
 ·rw[if_neg e,if_neg e];exact Paired.snoc r ⟨rfl,ry⟩
theorem KV.drop{kvs:List (κ×V)}{vs:List (κ×Value)}(r:KV kvs vs)(k:κ):KV (qB kvs k) (without vs k):=by
 unfold KV at r ⊢;unfold qB without
 induction r with
 | nil=>exact .nil
 | @cons p q ps qs h t ih =>
  obtain⟨h1,h2⟩:=h;rw[List.filter_cons,List.filter_cons];by_cases e:p.1=k
  ·have a:¬ decide (p.1≠k)=true:=by simp[e]
   have b:¬ decide (q.1≠k)=true:=by simp[h1.symm.trans e]
   rw[if_neg a,if_neg b];exact ih
  ·have e':¬ q.1=k:=fun z=>e (h1.trans z);have a:decide (p.1≠k)=true:=by simp[e]
   have b:decide (q.1≠k)=true:=by simp[e']
   rw[if_pos a,if_pos b];exact .cons ⟨h1,h2⟩ ih
theorem KV.keys{kvs:List (κ×V)}{vs:List (κ×Value)}(r:KV kvs vs):kvs.map (·.1)=vs.map (·.1):=by
 unfold KV at r
 induction r with
 | nil=>rfl
 | cons h t ih=>rw[List.map_cons,List.map_cons,ih,h.1]
theorem KV.length{kvs:List (κ×V)}{vs:List (κ×Value)}(r:KV kvs vs):kvs.length=vs.length:=Paired.length r
theorem Kf(kvs:List (κ×V))(k:κ):(qB kvs k).length<=kvs.length:=List.length_filter_le _ _
end
theorem v9{P:Program}{w:World}{k:Key}{u:Value}(r:bH (kV k) u):(bU P w).is k u=true:=by
 cases k with
 | inl i=>obtain⟨t,e⟩:=(show ∃ t,u=Value.int i t from r);subst e;exact Eo P w i t
 | inr x=>obtain⟨t,e⟩:=(show ∃ t,u=Value.str x t from r);subst e;exact wD P w x t
 | no=>cases (show u=Value.none from r);rfl
theorem B4{P:Program}{w:World}:∀ {ks:List Key} {us:List Value},Vals (ks.map kV) us->ItemsAre (bU P w) ks us
 | [],_,r=>by rw[List.map_nil] at r;cases r;exact .nil
 | k::ks,_,r=>by
  rw[List.map_cons] at r;cases r with
  | cons h t=>exact .cons (v9 h) (B4 t)
noncomputable abbrev KT(H:Hp):List (List Key×V)->List (List Key×Addr×Value)->Prop:=Paired fun p q=>p.1=q.1/\H q.2.1=some (.tup (p.1.map kV))/\bH p.2 q.2.2
theorem KT.val{H:Hp}{kvs:List (List Key×V)}{xs:List (List Key×Addr×Value)}(r:KT H kvs xs)(k:List Key):lU (bT kvs k) ((atKey xs k).map (·.2)):=by
 induction r with
 | nil=>exact True.intro
 | @cons p q ps qs h t ih =>
  obtain⟨h1,_,h2⟩:=h;by_cases e:p.1=k
  ·have e':q.1=k:=h1.symm.trans e;have b:atKey (q::qs) k=some q.2:=by simp[atKey,List.find?_cons,e']
   rw[cO e,b];exact h2
  ·have e':¬ q.1=k:=fun z=>e (h1.trans z);have b:atKey (q::qs) k=atKey qs k:=by simp[atKey,List.find?_cons,e']
   rw[cD e,b];exact ih
theorem KT.Uh{H:Hp}{kvs:List (List Key×V)}{xs:List (List Key×Addr×Value)}(r:KT H kvs xs)(k:List Key){y:V}{u:Value}(ry:bH y u) :
    KT H (kvs.map fun kv=>if kv.1=k then (kv.1,y) else kv) (xs.map (putAt k u)):=by
  induction r with
  | nil=>exact .nil
  | @cons p q ps qs h t ih =>
    rw[List.map_cons,List.map_cons];refine .cons ?_ ih;obtain⟨h1,h2,h3⟩:=h;unfold putAt;by_cases e:p.1=k
    · rw[if_pos e,if_pos (h1.symm.trans e)];exact⟨h1,h2,ry⟩
    · rw[if_neg e,if_neg (fun z=>e (h1.trans z))];exact⟨h1,h2,h3⟩
theorem KT.put{H:Hp}{kvs:List (List Key×V)}{xs:List (List Key×Addr×Value)}(r:KT H kvs xs)(k:List Key){b:Addr}{y:V}{u:Value}(hb:H b=some (.tup (k.map kV)))(ry:bH y u) :
    KT H (eL kvs k y) (storedH xs k b u):=by
  have e:(kvs.any fun kv=>decide (kv.1=k))=(atKey xs k).isSome:=by
    rw[pB,(r.val k).uH,Option.isSome_map]
  unfold eL storedH;rw[e];by_cases q:(atKey xs k).isSome=true
  · rw[if_pos q,if_pos q];exact r.Uh k ry
  · rw[if_neg q,if_neg q];exact Paired.snoc r ⟨rfl,hb,ry⟩
theorem KT.keeps{H H':Hp}{kvs:List (List Key×V)}{xs:List (List Key×Addr×Value)}(r:KT H kvs xs)(ht:∀ b ys,H b=some (.tup ys)->H' b=some (.tup ys)):KT H' kvs xs :=
 Paired.Tt r fun _ _ z=>⟨z.1,ht _ _ z.2.1,z.2.2⟩
section
variable {P:Program} {w:World} {H:Hp} {h:Heap} {a:Addr}
theorem P8{u:HO}(ok:HOk P w H h)(e:Rd H a u):dJ P w H h a u:=e.ok ok
theorem y1{kvs:List (Key×V)}(ok:HOk P w H h)(e:Rd H a (.dK kvs)):kvs.length<=sizeLine/\(a==sysModules)=false/\∃ vs,KV kvs vs/\h.DictOf (bU P w) a vs :=
 show dJ P w H h a (.dK kvs) from P8 ok e
theorem sE{kvs:List (Key×V)}(ok:HOk P w H h)(e:H a=some (.dK kvs)):kvs.length<=sizeLine/\(a==sysModules)=false/\∃ vs,KV kvs vs/\h.DictOf (bU P w) a vs:=y1 ok (.inl e)
theorem uI{ks:List Key}(ok:HOk P w H h)(e:H a=some (.tup (ks.map kV))):(tupleKind (bU P w)).is h ks a:=by
 obtain⟨_,Zk,r,o,h1,h2,n,h3⟩:=(show dJ P w H h a (.tup (ks.map kV)) from ok a _ e);exact⟨o,Zk.toArray,n,h1,h2,h3,by simpa using B4 r⟩
theorem y8{kvs:List (List Key×V)}(ok:HOk P w H h)(e:Rd H a (.dT kvs)):kvs.length<=sizeLine/\(a==sysModules)=false /\
    ∃ xs,KT H kvs xs/\h.DictOfH (tupleKind (bU P w)) a xs:=by
  obtain⟨z,y,xs,r,o,es,ep,h1,h2,h3,h4,h5⟩:=(show dJ P w H h a (.dT kvs) from P8 ok e);refine⟨z,y,xs,r,o,es,ep,h1,h2,h3,h4,fun x hx=>?_,h5⟩;have all:∀ {l:List (List Key×V)} {m:List (List Key×Addr×Value)},KT H l m->∀ x∈m,(tupleKind (bU P w)).is h x.1 x.2.1:=by
    intro l m q
    induction q with
    | nil=>intro x hx;exact nomatch hx
    | @cons p q ps qs hq t ih =>
      intro x hx;rcases List.mem_cons.mp hx with e|hx
      · subst e;exact uI ok (by rw[<- hq.1];exact hq.2.1)
      · exact ih x hx
  exact all r x hx
theorem Vo{kvs:List (List Key×V)}(ok:HOk P w H h)(e:H a=some (.dT kvs)):kvs.length<=sizeLine/\(a==sysModules)=false /\
    ∃ xs,KT H kvs xs/\h.DictOfH (tupleKind (bU P w)) a xs:=y8 ok (.inl e)
end
noncomputable def Zy(H:Hp)(a:Addr)(y:V)(r:Option V):Prop :=
 (∃ kvs k,Rd H a (.dK kvs)/\y=kV k/\r=bT kvs k)\/∃ kvs k b,Rd H a (.dT kvs)/\y=.ref b/\H b=some (.tup (k.map kV))/\r=bT kvs k
noncomputable def aaC(H:Hp)(a:Addr)(y v:V)(H':Hp):Prop :=
 (∃ kvs k,H a=some (.dK kvs)/\y=kV k/\kvs.length < sizeLine/\H'=Zh H a (.dK (eL kvs k v))) \/
 ∃ kvs k b,H a=some (.dT kvs)/\y=.ref b/\H b=some (.tup (k.map kV))/\kvs.length < sizeLine/\H'=Zh H a (.dT (eL kvs k v))
theorem Zy.k{H:Hp}{a:Addr}{kvs:List (Key×V)}{k:Key}(e:H a=some (.dK kvs)):Zy H a (kV k) (bT kvs k):=.inl ⟨kvs,k,.inl e,rfl,rfl⟩
theorem Zy.t{H:Hp}{a b:Addr}{kvs:List (List Key×V)}{k:List Key}(e:H a=some (.dT kvs))(eb:H b=some (.tup (k.map kV))):Zy H a (.ref b) (bT kvs k):=.inr ⟨kvs,k,b,.inl e,rfl,eb,rfl⟩
theorem aaC.k{H:Hp}{a:Addr}{kvs:List (Key×V)}{k:Key}{v:V}(e:H a=some (.dK kvs))(hl:kvs.length < sizeLine):aaC H a (kV k) v (Zh H a (.dK (eL kvs k v))):=.inl ⟨kvs,k,e,rfl,hl,rfl⟩
theorem aaC.t{H:Hp}{a b:Addr}{kvs:List (List Key×V)}{k:List Key}{v:V}(e:H a=some (.dT kvs))(eb:H b=some (.tup (k.map kV)))(hl:kvs.length < sizeLine) :
    aaC H a (.ref b) v (Zh H a (.dT (eL kvs k v))):=.inr ⟨kvs,k,b,e,rfl,eb,hl,rfl⟩
section
variable {X:Cx} {Zg:List (Addr×Obj)} {σ:St} {H:Hp} {s:Shared} {a:Addr} {y v:V} {u r:Value} {o:Option V} {A:Around} {E:q0A}
theorem Zi.big(I:Zi X Zg σ H s):sysModules < s.heap.objs.size:=by
 have h:mainGlobals < s.heap.objs.size:=(I.mod.glob.keeps I.bk).lt;exact Nat.lt_trans (by decide) h
theorem Ig{Q:q0A}(hu:A.units+1 < cLine)(I:Zi X Zg σ H s)(g:Zy H a y (some v))(ry:bH y u)(h:∀ w' s',Zi X Zg σ H s'->bH v w'->Q w' s') :
    wpAny (model X.prog X.w) A (getItem (.ref a) u) Q E s:=by
  rcases g with⟨kvs,k,e,ey,l⟩|⟨kvs,k,b,e,ey,eb,l⟩
  · subst ey;obtain⟨z,hd,vs,rel,dd⟩:=y1 I.Zl e;obtain⟨w',hw,rw'⟩:=lU.some_of (v:=v) (o:=valueAt vs k) (by rw[l];exact rel.val k);exact wpAny_getItem_of (v9 ry) dd.mapOf hw (h w' _ (I.tok _) rw')
  · subst ey;cases (show u=Value.ref b from ry);obtain⟨z,hd,xs,rel,dd⟩:=y8 I.Zl e;obtain⟨w',hw,rw'⟩:=lU.some_of (v:=v) (o:=(atKey xs k).map (·.2)) (by rw[l];exact rel.val k);obtain⟨p,hp,hp2⟩:=Option.map_eq_some_iff.mp hw;refine wpAny_getItem_heap (tupleKind_room_in1 hu) (uI I.Zl eb) dd hp ?_;rw[hp2];exact h w' _ (I.tok _) rw'
theorem Yj{Q:q0A}(hu:A.units+1 < cLine)(I:Zi X Zg σ H s)(g:Zy H a y o)(ry:bH y u)(h:∀ s',Zi X Zg σ H s'->Q (.bool o.isSome) s') :
    wpAny (model X.prog X.w) A (compareOp .In u (.ref a)) Q E s:=by
  rcases g with⟨kvs,k,e,ey,l⟩|⟨kvs,k,b,e,ey,eb,l⟩
  · subst ey;obtain⟨z,hd,vs,rel,dd⟩:=y1 I.Zl e;refine wpAny_in_of (v9 ry) hd dd.mapOf ?_;rw[<- (rel.val k).uH,<- l];exact h _ (I.tok _)
  · subst ey;cases (show u=Value.ref b from ry);obtain⟨z,hd,xs,rel,dd⟩:=y8 I.Zl e;refine wpAny_in_heap (tupleKind_room_in1 hu) (uI I.Zl eb) hd dd ?_;have q:=(rel.val k).uH;rw[Option.isSome_map] at q;rw[<- q,<- l];exact h _ (I.tok _)
theorem sC{h':Heap}{t':Nat}{ob:HO}(I:Zi X Zg σ H s)(mu:Mut (H a))(hs:Heap.SameBut a s.heap h')(he:∃ q,h'.get? a=some q)(new:dJ X.prog X.w (Zh H a ob) h' a ob) :
    Zi X Zg σ (Zh H a ob) {s with heap:=h',toks:=t'} :=
  I.write (x:=a) (e:=a) mu (.inl rfl) (fun b q hb z=>(hs.2 b hb).trans z) he new
theorem yZ{P:Program}{w:World}{H':Hp}{h':Heap}{kvs:List (Key×V)}{vs:List (Key×Value)}(z:kvs.length<=sizeLine)(hd:(a==sysModules)=false)(rel:KV kvs vs)(dd:h'.DictOf (bU P w) a vs) :
    dJ P w H' h' a (.dK kvs):=⟨z,hd,vs,rel,dd⟩
theorem Ih{H':Hp}{Q:Unit->Shared->Prop}(hu:A.units+1 < cLine)(I:Zi X Zg σ H s)(g:aaC H a y v H')(ry:bH y u)(rv:bH v r)(h:∀ s',Zi X Zg σ H' s'->Q () s') :
    wpAny (model X.prog X.w) A (setItem (.ref a) u r) Q E s:=by
  rcases g with⟨kvs,k,e,ey,l,eH⟩|⟨kvs,k,b,e,ey,eb,l,eH⟩
  · subst ey eH;obtain⟨z,hd,vs,rel,dd⟩:=sE I.Zl e;have hz:vs.length<=sizeLine:=by rw[<- rel.length];exact z
    have hl:(eL kvs k v).length<=sizeLine:=by have:=oG kvs k v;omega
    refine wpAny_setItem_pairs (hsz:=hz) (v9 ry) dd fun h' dd' hs=>h _ ?_;have he:∃ q,h'.get? a=some q:=let ⟨q,_,_,hq,_⟩:=dd';⟨q,hq⟩;exact sC I (by rw[e];exact True.intro) hs he (yZ hl hd (rel.put k rv) dd')
  · subst ey eH;cases (show u=Value.ref b from ry);obtain⟨z,hd,xs,rel,dd⟩:=Vo I.Zl e;have hz:xs.length<=sizeLine:=by rw[<- Paired.length rel];exact z
    have hl:(eL kvs k v).length<=sizeLine:=by have:=oG kvs k v;omega
    refine wpAny_setItem_heap (hsz:=hz) (tupleKind_room_in1 hu) (uI I.Zl eb) dd fun h' dd' hs=>h _ ?_;obtain⟨q,es,ep,hq,h2,h3,h4,_,h5⟩:=dd';refine sC I (by rw[e];exact True.intro) hs ⟨q,hq⟩ ⟨hl,hd,_,(rel.put k eb rv).keeps fun c ys ec=>?_,q,es,ep,hq,h2,h3,h4,h5⟩;rw[aG (dZ ec e (fun z=>nomatch z))];exact ec
end
section
variable {X:Cx} {Zg:List (Addr×Obj)} {σ:St} {H:Hp} {s:Shared} {a:Addr} {kvs:List (Key×V)} {k:Key} {u:Value} {A:Around} {E:q0A}
theorem Vn{v:V}{more:List Value}{Q:q0A}(I:Zi X Zg σ H s)(e:H a=some (.dK kvs))(ry:bH (kV k) u)(l:bT kvs k=some v)(hm:more=[]\/∃ x,more=[x])
    (h:∀ w' s',Zi X Zg σ (Zh H a (.dK (qB kvs k))) s'->bH v w'->Q w' s'):wpAny (model X.prog X.w) A (call (.builtin "dict.pop") (.ref a::u::more)) Q E s:=by
  obtain⟨z,hd,vs,rel,dd⟩:=sE I.Zl e;obtain⟨w',hw,rw'⟩:=lU.some_of (v:=v) (o:=valueAt vs k) (by rw[<- l];exact rel.val k);have hp:(keyPart u).isSome=true:=by
    cases k with
    | inl i=>obtain⟨t,q⟩:=(show ∃ t,u=Value.int i t from ry);subst q;rfl
    | inr x=>obtain⟨t,q⟩:=(show ∃ t,u=Value.str x t from ry);subst q;rfl
    | no=>cases (show u=Value.none from ry);rfl
  have ha:argsOk "dict.pop" ⟨.ref a::u::more,[]⟩:=by
    rcases hm with q|⟨x,q⟩
    · subst q;exact PySem.F.args_dict_pop_2 _ _
    · subst q;exact PySem.F.args_dict_pop_3 _ _ _
  refine call_meetsIn PySem.F.slot_dict_pop dd.typeIs PySem.F.entry_dict_pop ha (meets_dict_pop_there (bU X.prog X.w) a (v9 ry) more hm hp)
    ⟨vs,w',dd,by rw[<- rel.length];exact z,hw,fun h' dd' hs=>h w' _ ?_ rw'⟩
  have he:∃ q,h'.get? a=some q:=let ⟨q,_,_,hq,_⟩:=dd';⟨q,hq⟩;exact sC I (by rw[e];exact True.intro) hs he (yZ (Nat.le_trans (Kf kvs k) z) hd (rel.drop k) dd')
end
noncomputable def QJ(i:Expr):Prop:=∀ ov iv,subscripted i false ov iv=operate [ov,iv] (getItem ov iv)
theorem HM{prog:Program}{w:World}{A:Around}{E:q0A}{s:Shared}{env:Env}{value slice:Expr}{pos:Pos}{T id:String}{Q:q0A}
    (hl:typeLookup (.type T) "__getitem__"=pure (some (.builtin id))) (hs:QJ slice)
    (h:wpAny (model prog w) A (eval value env) (fun o s₁=>wpAny (model prog w) A (eval slice env) (fun i s₂=>s₂.TypeIs o T/\wpAny (model prog w) A (getItem o i) Q E s₂) E s₁) E s) :
    wpAny (model prog w) A (eval (.Subscript value slice pos) env) Q E s:=by
  refine Subscript_ (wpAny_mono h (fun o s₁ h₁=>wpAny_mono h₁ (fun i s₂ h₂=>?_) fun _ _ x=>x) fun _ _ x=>x);obtain⟨hT,h₂⟩:=h₂;unfold subscriptTail;refine wpAny_bind ?_;rw[getitemInPython_of_ne hT.not_modules];refine wpAny_bind (wpAny_specialOf hT hl ?_);have fin:wpAny (model prog w) A (subscripted slice false o i) (fun r s₃=>wpAny (model prog w) A (letTemporaryGo value o r >>= fun _=>pure r) Q E s₃) E s₂:=by
    rw[hs o i];exact wpAny_operating (wpAny_mono h₂ (fun r s₃ h₃=>wpAny_bind (wpAny_letTemporaryGo (wpAny_pure h₃))) fun _ _ x=>x)
  first
    | exact wpAny_pure (wpAny_bind fin)
    | exact wpAny_bind (wpAny_pure (wpAny_bind fin))
    | exact wpAny_bind fin
theorem DW{X:Cx}{Zg:List (Addr×Obj)}{σ:St}{H:Hp}{s:Shared}{a:Addr}{y:V}{o:Option V}(I:Zi X Zg σ H s)(g:Zy H a y o):s.TypeIs (.ref a) "dict":=by
 rcases g with⟨kvs,k,e,_,_⟩|⟨kvs,k,b,e,_,_,_⟩
 ·obtain⟨_,_,vs,_,dd⟩:=y1 I.Zl e;exact dd.typeIs
 ·obtain⟨_,_,xs,_,dd⟩:=y8 I.Zl e;exact dd.typeIs
noncomputable def Qh(td ty:TE):TE:=fun σ H Q=>td σ H fun x H1=>ty σ H1 fun y H2=>∃ a v,x=.ref a/\Zy H2 a y (some v)/\Q v H2
noncomputable def Xs(ty td:TE):TE:=fun σ H Q=>ty σ H fun y H1=>td σ H1 fun x H2=>∃ a o,x=.ref a/\Zy H2 a y o/\Q (.bl o.isSome) H2
noncomputable def HN(ty td:TE):TE:=fun σ H Q=>ty σ H fun y H1=>td σ H1 fun x H2=>∃ a o,x=.ref a/\Zy H2 a y o/\Q (.bl (!o.isSome)) H2
noncomputable def P9(td ty tv:TE):TS:=fun D σ H=>tv σ H fun v H1=>td σ H1 fun x H2=>ty σ H2 fun y H3=>∃ a H4,x=.ref a/\aaC H3 a y v H4/\D.nx σ H4
section
variable {X:Cx} {o i e value:Expr} {pos pos' aa1:Pos} {td ty tv:TE}
end
theorem Kd{P:Program}{w:World}{H:Hp}(h:Heap)(hb:sysModules < h.objs.size):dJ P w H (h.push {cls:=.type "dict",data:=.dict #[]}) h.objs.size (.dK []) :=
 ⟨Nat.zero_le _,beq_eq_false_iff_ne.mpr (Ne.symm (Nat.ne_of_lt hb)),[],.nil,Heap.DictOf.new h⟩
noncomputable def MA:TE:=fun _ H Q=>∀ p,H p=none->Q (.ref p) (Zh H p (.dK []))
noncomputable def Uz:TE:=fun _ H Q=>∀ p,H p=none->Q (.ref p) (Zh H p (.dT []))
section
variable {X:Cx} {pos:Pos}
theorem sZ:PE X (.Dict [] [] pos) MA:=fun Zg s σ H Q I h =>
 wpAny_Dict_empty ⟨.ref s.heap.objs.size,_,I.laid (a:=s.heap.objs.size) (o:=.dK []) (t':=s.toks) (fun _ _ q=>Heap.get?_push_of_some _ q) (Nat.le_refl _) (Kd s.heap I.big),rfl,h _ (I.Zl.fresh (Nat.le_refl _))⟩
end
noncomputable def rM:List (TE×TE)->St->Hp->(List (V×V)->Hp->Prop)->Prop
 | [],_,H,Q=>Q [] H
 | (tk,tv)::r,σ,H,Q=>tk σ H fun x H1=>tv σ H1 fun y H2=>rM r σ H2 fun ps H3=>Q ((x,y)::ps) H3
noncomputable abbrev VV:List (V×V)->List (Value×Value)->Prop:=Paired fun p q=>bH p.1 q.1/\bH p.2 q.2
noncomputable def PPs(X:Cx)(pos:Pos)(keys:List (Option Expr))(values:List Expr)(trs:List (TE×TE)):Prop :=
 ∀(Zg:List (Addr×Obj)) (s:Shared) (σ:St) (H:Hp) (Q:List (V×V)->Hp->Prop),Zi X Zg σ H s->rM trs σ H Q ->
  wpAny (model X.prog X.w) X.A (evalPairs (pairTrees keys values X.env pos)) (fun vs s'=>∃ ps H',Zi X Zg σ H' s'/\VV ps vs/\Q ps H') X.xe s
noncomputable def Dc(kvs more:List (Key×V)):List (Key×V):=more.foldl (fun acc kv=>eL acc kv.1 kv.2) kvs
noncomputable def Xt(trs:List (TE×TE)):TE:=fun σ H Q=>∀ p,H p=none->rM trs σ (Zh H p (.dK [])) fun ps H2=>H2 p=some (.dK [])/\∃ kvs:List (Key×V),ps=kvs.map (fun kv=>(kV kv.1,kv.2))/\kvs.length<=15/\Q (.ref p) (Zh H2 p (.dK (Dc [] kvs)))
structure M1(X:Cx)(o:Expr)(m:Str)(apos:Pos)(e:Expr)(Zo:Pos):Prop where
 base:attributeBase o m X.env (eval o X.env)=eval o X.env
 few:((backTo Zo (starEach [e] X.env)).all (fun x=>!x.1)&&(backToKw Zo (keywordEach [] X.env)).all (fun x=>x.1.isSome)
 &&decide (([e]:List Expr).length+([]:List Keyword).length+(if ([]:List Keyword).isEmpty then 0 else 1) < 30))=true
 line:(apos.endLine==Zo.line)=true
 trees:backTo Zo (starEach [e] X.env)=[(false,eval e X.env)]
structure M2(X:Cx)(o:Expr)(m:Str)(apos:Pos)(e f:Expr)(Zo:Pos):Prop where
 base:attributeBase o m X.env (eval o X.env)=eval o X.env
 few:((backTo Zo (starEach [e,f] X.env)).all (fun x=>!x.1)&&(backToKw Zo (keywordEach [] X.env)).all (fun x=>x.1.isSome)
 &&decide (([e,f]:List Expr).length+([]:List Keyword).length+(if ([]:List Keyword).isEmpty then 0 else 1) < 30))=true
 line:(apos.endLine==Zo.line)=true
 trees:backTo Zo (starEach [e,f] X.env)=[(false,eval e X.env),(false,eval f X.env)]
noncomputable def UM(H:Hp)(a:Addr):Prop:=(∃ kvs,Rd H a (.dK kvs))\/∃ kvs,Rd H a (.dT kvs)
theorem uG{X:Cx}{Zg:List (Addr×Obj)}{σ:St}{H:Hp}{s:Shared}{a:Addr}(I:Zi X Zg σ H s)(d:UM H a) :
    s.TypeIs (.ref a) "dict"/\(∀ b,Value.ref a=.ref b->∃ ob,s.heap.get? b=some ob/\ob.dict=none)/\(a==sysModules)=false:=by
  rcases d with⟨kvs,e⟩|⟨kvs,e⟩
  · obtain⟨_,hd,vs,_,dd⟩:=y1 I.Zl e;refine⟨dd.typeIs,fun b q=>?_,hd⟩;cases q;obtain⟨ob,_,_,h1,h2,_⟩:=dd;exact⟨ob,h1,h2.2.1⟩
  · obtain⟨_,hd,xs,_,dd⟩:=y8 I.Zl e;refine⟨dd.typeIs,fun b q=>?_,hd⟩;cases q;obtain⟨ob,_,_,h1,h2,_⟩:=dd;exact⟨ob,h1,h2.2.1⟩
section
variable {X:Cx} {Zg:List (Addr×Obj)} {σ:St} {H:Hp} {s:Shared} {a:Addr} {y d:V} {u r:Value} {o:Option V} {A:Around} {E:q0A}
theorem Q6{Q:q0A}(hu:A.units+1 < cLine)(I:Zi X Zg σ H s)(g:Zy H a y o)(ry:bH y u)(h:∀ w' s',Zi X Zg σ H s'->bH (o.getD .Zj) w'->Q w' s') :
    wpAny (model X.prog X.w) A (call (.builtin "dict.get") [.ref a,u]) Q E s:=by
  rcases g with⟨kvs,k,e,ey,l⟩|⟨kvs,k,b,e,ey,eb,l⟩
  · subst ey;obtain⟨z,hd,vs,rel,dd⟩:=y1 I.Zl e;refine call_meetsIn PySem.F.slot_dict_get dd.typeIs PySem.F.entry_dict_get (PySem.F.args_dict_get_2 _ _) (meets_dict_get (bU X.prog X.w) a (v9 ry) hd) ⟨_,dd.mapOf,h _ _ (I.tok _) ?_⟩;rw[l];exact(rel.val k).getD rfl
  · subst ey;cases (show u=Value.ref b from ry);obtain⟨z,hd,xs,rel,dd⟩:=y8 I.Zl e;refine call_meetsIn PySem.F.slot_dict_get dd.typeIs PySem.F.entry_dict_get (PySem.F.args_dict_get_2 _ _) (meetsH_dict_get (tupleKind (bU X.prog X.w)) a b hd) ⟨tupleKind_room_in1 hu,k,xs,uI I.Zl eb,dd,h _ _ (I.tok _) ?_⟩;rw[l];exact(rel.val k).getD rfl
theorem Q7{Q:q0A}(hu:A.units+1 < cLine)(I:Zi X Zg σ H s)(g:Zy H a y o)(ry:bH y u)(rd:bH d r)(h:∀ w' s',Zi X Zg σ H s'->bH (o.getD d) w'->Q w' s') :
    wpAny (model X.prog X.w) A (call (.builtin "dict.get") [.ref a,u,r]) Q E s:=by
  rcases g with⟨kvs,k,e,ey,l⟩|⟨kvs,k,b,e,ey,eb,l⟩
  · subst ey;obtain⟨z,hd,vs,rel,dd⟩:=y1 I.Zl e;refine call_meetsIn PySem.F.slot_dict_get dd.typeIs PySem.F.entry_dict_get (PySem.F.args_dict_get_3 _ _ _) (meets_dict_get_default (bU X.prog X.w) a (v9 ry) hd r) ⟨_,dd.mapOf,h _ _ (I.tok _) ?_⟩;rw[l];exact(rel.val k).getD rd
  · subst ey;cases (show u=Value.ref b from ry);obtain⟨z,hd,xs,rel,dd⟩:=y8 I.Zl e;refine call_meetsIn PySem.F.slot_dict_get dd.typeIs PySem.F.entry_dict_get (PySem.F.args_dict_get_3 _ _ _) (meetsH_dict_get_default (tupleKind (bU X.prog X.w)) a b hd r) ⟨tupleKind_room_in1 hu,k,xs,uI I.Zl eb,dd,h _ _ (I.tok _) ?_⟩;rw[l];exact(rel.val k).getD rd
end
noncomputable def Mz(td ty:TE):TE:=fun σ H Q=>td σ H fun x H1=>∃ a,x=.ref a/\UM H1 a/\ty σ H1 fun y H2=>∃ o,Zy H2 a y o/\Q (o.getD .Zj) H2
noncomputable def MB(td ty tx:TE):TE:=fun σ H Q=>td σ H fun x H1=>∃ a,x=.ref a/\UM H1 a/\ty σ H1 fun y H2=>tx σ H2 fun z H3=>∃ kvs k,H3 a=some (.dK kvs)/\y=kV k /\
 (∀ v,bT kvs k=some v->Q v (Zh H3 a (.dK (qB kvs k))))/\(bT kvs k=none->Q z H3)
section
variable {X:Cx} {o e f:Expr} {apos Zo:Pos} {td ty tx:TE}
end
section
variable {X:Cx} {Zg:List (Addr×Obj)} {σ:St} {H:Hp} {s:Shared} {a:Addr} {kvs:List (Key×V)} {A:Around} {E:q0A}
end
section
variable {X:Cx} {Zg:List (Addr×Obj)} {σ:St} {H:Hp} {s:Shared} {a:Addr} {y:V} {u:Value} {A:Around} {E:q0A}
end
end L2
namespace Att
open PySem PySem.W PySem.Calls PyProof.Rows
theorem wV{P:Params}{h:Heap}:∀(ns:List Int) (vs:List Value),WellAll P h vs (ns.map WData.int)->IntsAre vs ns:=by
 intro ns
 induction ns with
 | nil =>
  intro vs w;rw[List.map_nil] at w;cases w;exact .nil
 | cons n ns ih =>
  intro vs w;rw[List.map_cons] at w;cases w with
  | cons a b =>
   cases a;exact .cons _ _ (ih _ b)
theorem Jq{l:OpenLaw}{n:Nat}(hn:l.most=some n){P:Params}{h:Heap}{args:List WData}{vals:List Value}
    (aa2:l.row.toRowW.claim.pre args=true) (hwl:WellAll P h vals args) :
    ∃ a vs ns,vals=[Value.ref a]/\args=[WData.list (ns.map WData.int)]/\h.get? a=some {cls:=.type "list",data:=.seq vs.toArray}/\IntsAre vs ns/\ns.length<=n:=by
  have hsh:WShape.hasAll [] args [.list .int]=true:=(pre_splitW aa2).1;have hc:l.pre.holds [] {args:=args}=true:=(pre_splitW aa2).2;obtain⟨d,r,rfl,h1,h2⟩:=hasAllW_cons hsh;obtain rfl:=hasAllW_nil h2;obtain⟨xs,rfl,h3⟩:=hasW_list h1;obtain⟨ns,rfl⟩:=items_int h3;have hlen:ns.length<=n:=by
    unfold OpenLaw.pre at hc;have h4:(WTm.not (.lt (.lit (.int (n:Int))) (.len (.arg 0)))).holds [] {args:=[.list (ns.map .int)]}=true:=by
      have h4:=(holds_andW hc).1;rw[hn] at h4;exact h4
    have h5:=condW_of h4 (w_not (w_lt w_lit (w_len_list (w_arg rfl))));rw[List.length_map] at h5;refine Nat.le_of_not_lt fun q=>?_;have q':(n:Int) < ((ns.length:Nat):Int):=by omega
    first
      | (rw[decide_eq_true q'] at h5;exact absurd h5 (by decide))
      | (simp at h5;omega)
  cases hwl with
  | cons w1 w2 =>
    cases w2;cases w1 with
    | list ho abC=>exact⟨_,_,ns,rfl,rfl,ho,wV ns _ abC,hlen⟩
theorem Jk(l:OpenLaw)(args:List WData):l.row.toRowW.claim.post args (.bool true) args=true :=
 postW_of (r:=l.row.toRowW) (X:=(true==true))
  (show WShape.has [] (.bool true) .bool=true by first|rfl|decide|simp[WShape.has,WShape.arms,WShape.armsAll])
  (show(WTm.eq .res (.lit (.bool true))).value [] {args:=args,res:=some (.bool true),after:=args}=some (.bool (true==true)) from w_eq_bool (w_res rfl) w_lit) rfl
theorem DD{l:OpenLaw}{n:Nat}{q:Program}{loose:List Str}{XP:(q0C)->Heap->Prop}{YP:World->Heap->Prop}{d:DefRec}
    (hn:l.most=some n) (hdf:d.params.defaults=[])
    (call:∀(w:World) (s₀ s₁:Shared) (mg mb:q0C) (fa:Addr) (o:Obj) (pm cd doc:Value) (a:Addr) (vs:List Value) (ns:List Int),
      Ground q loose [] XP w s₀ mg mb s₁.heap->YP w s₁.heap ->
      s₁.heap.get? fa=some o->o.data=.func (docDef d.name d.params d.body d.scope pm cd doc)->s₁.heap.CodeRec cd d.name->mg d.name=some (.ref fa) ->
      s₁.heap.get? a=some {cls:=.type "list",data:=.seq vs.toArray}->IntsAre vs ns->ns.length<=n->s₁.gens = #[] ->
      codeAny (model l.prog w) callerA (.call (.ref fa) ⟨[.ref a],[]⟩) (fun r s'=>r=.ok (.ret (.bool true))/\OldK s₁.heap s'.heap/\s'.os=s₁.os/\AllBare s'.gens) s₁) :
    WalkO q loose XP YP l.row.toRowW d [] (fun f vs=>PySem.call f vs):=by
  intro w s₀ s₁ mg mb G Y fa o pm cd doc dV kV ho hd hcd hD hmg hg args vals as aa2 adI hrd hwl hlo;obtain rfl:dV=.none:=Dflts.none hD hdf;obtain rfl:kV=.none:=Dflts.noKw hD;obtain⟨a,vs,ns,rfl,rfl,abI,hints,hlen⟩:=Jq hn aa2 hwl;refine enter_call (codeAny_mono (call w s₀ s₁ mg mb fa o pm cd doc a vs ns G Y ho (fd_plain hd) hcd hmg abI hints hlen hg) fun r s' hq=>?_);obtain⟨rfl,h2,h3,h4⟩:=hq;exact⟨.inl ⟨.bool true,.bool true,[],rfl,fun _=>rfl,.bool true,Jk l _,fun _=>⟨List.Pairwise.nil,fun _ hm=>(nomatch hm)⟩⟩,h2,h3,h4⟩
section
variable {prog:Program} {w:World} {A:Around} {E:q0A} {s:Shared} {K:Frag}
noncomputable def De(h:Heap):Heap:={h with objs:=#[]}
theorem qX(h:Heap)(b:Addr):(De h).get? b=none:=by
 cases e:(De h).get? b with
 | none=>rfl
 | some o=>exact absurd (Heap.lt_size e) (Nat.not_lt_zero _)
noncomputable def ledger(h:Heap)(L d:Addr):List (Addr×Obj):=(List.range h.objs.size).filterMap fun a=>if a=L\/a=d then none else (h.get? a).map fun o=>(a,o)
theorem mF{h:Heap}{L d a:Addr}{o:Obj}:(a,o)∈ledger h L d↔a≠L/\a≠d/\h.get? a=some o:=by
 unfold ledger;rw[List.mem_filterMap];constructor
 ·rintro⟨b,_,e⟩;split at e
  ·cases e
  ·rename_i hb
   obtain⟨o',ho,e'⟩:=Option.map_eq_some_iff.mp e;cases e';exact⟨fun q=>hb (.inl q),fun q=>hb (.inr q),ho⟩
 ·rintro⟨n1,n2,ho⟩;refine⟨a,List.mem_range.mpr (Heap.lt_size ho),?_⟩;rw[if_neg (show ¬ (a=L\/a=d) from fun q=>q.elim n1 n2),ho]<;>rfl
theorem oK{h:Heap}{L d:Addr}{od:Obj}(ZY:d≠L)(ho:h.get? d=some od):News (De h) L h ([]++(d,od)::ledger h L d):=by
 rintro⟨a,o⟩ hp;rcases List.mem_cons.mp hp with e|hp
 ·cases e;exact⟨ho,ZY,qX _ _⟩
 ·obtain⟨n1,n2,e⟩:=mF.mp hp;exact⟨e,n1,qX _ _⟩
theorem Fy{h:Heap}{L:Addr}{m:q0C}(n:h.Ns L m):Fr (De h) L h m :=
 ⟨n,fun b o e=>(by rw[qX] at e;cases e),Nat.zero_le _⟩
end
end Att
namespace L2
open PySem PySem.Spec PyProof.Rows
theorem pT:∀ {vs:List Value} {ns:List Int},IntsAre vs ns->Vals (ns.map V.int) vs
 | _,_,.nil=>.nil
 | _,_,.cons n t h=>.cons ⟨t,rfl⟩ (pT h)
noncomputable def Only(H:Hp):Prop:=∀ b,H b=none\/∃ o xs,H b=some (.ZF o (.lst xs))
theorem LC{P:Program}{w:World}{K:q0B}{mg mb:q0C}{CX:CXT}{k:Nat}{fa a:Addr}{fd:FuncData}{x:Str}{sp:Sp}{s₁:Shared}{vs:List Value}{ns:List Int}
    (KX:K.In s₁.heap) (hns:s₁.heap.Ns mainGlobals mg) (hb:s₁.heap.Ns builtinsNs mb) (hbb:∀ x:Str,x≠"__name__"->mb x=bootBuiltins x) (acU:s₁.heap.NoLimit) (hg:s₁.gens = #[])
    (ha:s₁.heap.get? a=some {cls:=.type "list",data:=.seq vs.toArray}) (hi:IntsAre vs ns) (hl:ns.length<=sizeLine) (hr:Room k callerA)
    (F:∀ base:Heap,K.In base->base.Ns mainGlobals mg->bG P w K mg base CX k fa fd [x] sp) (ab0:∀(s:Shared) (u:Value),BindsTo s fd ⟨[u],[]⟩ [(x,u)])
    (hsp:∀ H:Hp,Only H->dQ K H a (ns.map V.int)->sp [.ref a] H (fun v _=>v=.bl true) fun _ _ _=>False)
    (hCX:∀ H e s',CX [] H s₁ (fun _ _ _=>False) e s'->False) :
    codeAny (model P w) callerA (.call (.ref fa) ⟨[.ref a],[]⟩) (fun r s'=>r=.ok (.ret (.bool true))/\OldK s₁.heap s'.heap/\s'.os=s₁.os/\AllBare s'.gens) s₁:=by
  have rv:=pT hi;have ac2:=hi.length
  -- from an abstract heap in which nothing but the script may be tracked
  have core:∀ H:Hp,Only H->dQ K H a (ns.map V.int)->HOk P w H s₁.heap->(∀ b,H b≠none->b=a)->(H a≠none->K.lookup a=none) ->
      codeAny (model P w) callerA (.call (.ref fa) ⟨[.ref a],[]⟩) (fun r s'=>r=.ok (.ret (.bool true))/\OldK s₁.heap s'.heap/\s'.os=s₁.os/\AllBare s'.gens) s₁:=by
    intro H hO hS Zl hA hK;have aaK:∀ {b:Addr} {o:Obj},s₁.heap.get? b=some o->H b=none->(C2 s₁.heap H).get? b=some o:=fun e n=>Lr e n;have noA:∀ {b:Addr} {o:Obj} {es:Array DictEntry} {ep:Nat},s₁.heap.get? b=some o->o.data=.dict es ep->H b=none:=fun {b o es ep} e d=>by
      cases q:H b with
      | none=>rfl
      | some u =>
        have e':b=a:=hA b (by rw[q];simp);subst e';rw[ha] at e;cases e;have d':Data.seq vs.toArray _=Data.dict es ep:=d;cases d'
    have nsK:∀ {b:Addr} {m:q0C},s₁.heap.Ns b m->(C2 s₁.heap H).Ns b m:=fun {b m} ⟨o,es,ep,e,d,r⟩=>⟨o,es,ep,aaK e (noA e d),d,r⟩;have hKb:K.In (C2 s₁.heap H):=fun b o e=>aaK (KX b o e) (by
      cases q:H b with
      | none=>rfl
      | some u =>
        have e':b=a:=hA b (by rw[q];simp);subst e';rw[hK (by rw[q];simp)] at e;cases e)
    have hM:Mod K mg (C2 s₁.heap H):=⟨hKb,nsK hns,⟨mb,nsK hb,hbb⟩,let ⟨mc,h1,h2⟩:=acU;⟨mc,nsK h1,h2⟩⟩;have e0:Env0 P w K mg (C2 s₁.heap H) callerA [] s₁ H:=⟨rfl,hM,fun b o e=>OG e,Nat.le_of_eq (IA _ _),trivial,fun b hb=>absurd (show b∈([]:List Addr) from hb) (by simp),Zl,.of_eq hg⟩;refine codeAny_mono ((F _ hKb (nsK hns)).run callerA [] s₁ H ⟨[.ref a],[]⟩ [.ref a] [.ref a] _ _ hr e0 (ab0 s₁ (.ref a)) (.cons rfl .nil) (hsp H hO hS)) fun r s' h=>?_;cases r with
    | error e=>exact(hCX H e s' h).elim
    | ok fl =>
      cases fl with
      | next=>exact False.elim h
      | brk=>exact False.elim h
      | cont=>exact False.elim h
      | ret u =>
        obtain⟨v,H',os,bare,un,acX,r',q⟩:=h;have q':v=.bl true:=q;subst q';obtain rfl:u=Value.bool true:=r';refine⟨rfl,OldK.of_keep fun b o e=>?_,os,bare⟩;cases q:H b with
        | none=>exact un.keep b o e q (by intro z;exact absurd (show b∈([]:List Addr) from z) (by simp)) (by simp)
        | some u =>
          rcases hO b with z|⟨ob,xs,z⟩
          · rw[q] at z;cases z
          · have z2:=un.qS b ob _ z;obtain⟨e1,_⟩:=Zl b _ z;obtain⟨e2,_⟩:=acX b _ z2;rw[e] at e1;cases e1;exact e2
  cases hk:K.lookup a with
  | some o =>
    -- the script is one of the module's own objects
    have e:=KX a o hk;rw[ha] at e;cases e;refine core (fun _=>none) (fun _=>.inl rfl) (.inr ⟨_,vs.toArray,_,hk,rfl,rfl,rfl,by rw[List.size_toArray,ac2];exact hl,by simpa using rv⟩) (fun b u z=>by have z':(none:Option HO)=some u:=z;cases z') (fun b z=>absurd rfl z) fun z=>absurd rfl z
  | none =>
    refine core (fun b=>if b=a then some (.ZF {cls:=.type "list",data:=.seq vs.toArray} (.lst (ns.map V.int))) else none) (fun b=>?_) (.inl (.inr ⟨{cls:=.type "list",data:=.seq vs.toArray},if_pos rfl⟩)) (fun b u z=>?_) (fun b z=>?_) fun _=>hk
    · by_cases hb:b=a
      · exact .inr ⟨_,_,if_pos hb⟩
      · exact .inl (if_neg hb)
    · by_cases hb:b=a
      · have z':=(if_pos hb).symm.trans z;cases z';subst hb;exact⟨ha,by rw[List.length_map];exact hl,vs,_,rv,ha⟩
      · have z':=(if_neg hb).symm.trans z;cases z'
    · by_cases hb:b=a
      · exact hb
      · exact absurd (if_neg hb) z
theorem Pr{l:PySem.W.OpenLaw}{n k:Nat}{q:Program}{loose:List Str}{XP:(q0C)->Heap->Prop}{YP:World->Heap->Prop}{d:DefRec}{K:Params->q0B}{CX:World->CXT}{sp:World->Sp}{x:Str}
    (hn:l.most=some n) (hn2:n<=sizeLine) (hdf:d.params.defaults=[]) (hr:Room k callerA)
    (hY:∀(w:World) (h:Heap),YP w h->(K w.params).In h)
    (F:∀(w:World) (mg:q0C) (fa:Addr) (h:Heap),(K w.params).In h->h.Ns mainGlobals mg->mg d.name=some (.ref fa) ->
      ∃ fd:FuncData,(∀(s:Shared) (u:Value),BindsTo s fd ⟨[u],[]⟩ [(x,u)]) /\
        ∀ base:Heap,(K w.params).In base->base.Ns mainGlobals mg->bG l.prog w (K w.params) mg base (CX w) k fa fd [x] (sp w))
    (hsp:∀(w:World) (H:Hp) (a:Addr) (ns:List Int),ns.length<=n->Only H->dQ (K w.params) H a (ns.map V.int)->sp w [.ref a] H (fun v _=>v=.bl true) fun _ _ _=>False)
    (hCX:∀(w:World) (H:Hp) (s:Shared) (e:Value) (s':Shared),CX w [] H s (fun _ _ _=>False) e s'->False) :
    PySem.W.WalkO q loose XP YP l.row.toRowW d [] (fun f vs=>PySem.call f vs):=by
  refine Att.DD hn hdf fun w s₀ s₁ mg mb fa o pm cd doc a vs ns G Y ho hd hcd hmg abI hints hlen hg=>?_;have KX:=hY w _ Y;obtain⟨fd,hb,hF⟩:=F w mg fa _ KX G.T.g hmg;exact LC KX G.T.g G.T.b G.T.builtins G.T.nolimit hg abI hints (Nat.le_trans hlen hn2) hr hF hb (fun H hO hS=>hsp w H a ns hlen hO hS) fun H e s'=>hCX w H s₁ e s'
noncomputable def bN(s:Stmt)(j:Nat):Stmt:=match s with
 | .ClassDef _ _ _ body _ _ _ _ _ _ _=>body.getD j (.Pass ⟨0,0,0,0⟩)
 | _=>.Pass ⟨0,0,0,0⟩
noncomputable def xG(s:Stmt):Arguments:=match s with
 | .FunctionDef _ a _ _ _ _ _ _ _ _=>a
 | _=>{posonlyargs:=[],args:=[],vararg:=none,kwonlyargs:=[],kw_defaults:=[],kwarg:=none,defaults:=[]}
noncomputable def sD(s:Stmt):List Stmt:=match s with
 | .FunctionDef _ _ b _ _ _ _ _ _ _=>b
 | _=>[]
noncomputable def aM(s:Stmt):Scope:=match s with
 | .FunctionDef _ _ _ _ _ _ sc _ _ _=>sc
 | _=>{kind:=.function,names:=[],isGenerator:=false,isCoroutine:=false}
noncomputable abbrev Zt:CXT:=fun _ _ _ _ _ _=>False
noncomputable abbrev E0:XK:=fun _ _ _=>False
theorem pass0{X:Cx}:Passes Zt X E0:=fun _ _ _ _ _ _ _ h=>h.elim
structure Fun(K:q0B)(x qual:Str)(st:Stmt)(f:Addr)(fd:FuncData):Prop where
 ex:∃(oc:Value) (od:Option Addr) (kV doc pm:Value) (an:Option Addr) (Zs ct:Value) (osl:Array (Option Value)),
  fd=PySem.W.fnOf x qual (xG st) (sD st) (aM st) .none kV doc pm an Zs ct/\K.lookup f=some ⟨oc,od,.func fd,osl⟩/\PySem.W.codeIn K Zs qual=true
 kp:PySem.W.keepIn K (.ref f)=true
section
variable {P:Program} {w:World} {K:q0B} {mg:q0C} {base:Heap}
theorem Fun.ok{x qual:Str}{st:Stmt}{f:Addr}{fd:FuncData}{N ps:List Str}{k:Nat}{sp:Sp}(F:Fun K x qual st f fd)(S:aU N ps (aM st))(len:∀ vs H Q E,sp vs H Q E->vs.length=ps.length)
    (aaY:∀(Zs:Value) (A:Around) (outer:List Env) (s:Shared) (H:Hp) (vs:List V) (Q:VK) (E:XK),Room k (A.deeper (envOfC qual (aM st) s.heap.objs.size f Zs))->sp vs H Q E ->
      ∃ t,PSs (DU Zt P w K mg base N qual (aM st) f Zs A outer s H E).nox (sD st) t/\t {nx:=fun _ H'=>Q .Zj H',rt:=Q} (start N vs) H):bG P w K mg base Zt (k+1) f fd ps sp:=by
  obtain⟨oc,od,kV,doc,pm,an,Zs,ct,osl,rfl,lk,hcd⟩:=F.ex;refine WD lk hcd S len fun A outer s H vs Q E hr hsp=>?_;obtain⟨t,h,q⟩:=aaY Zs A outer s H vs Q E hr hsp;exact⟨t,h.nox,q⟩
theorem Fun.binds{x qual:Str}{st:Stmt}{f:Addr}{fd:FuncData}{ps:List Str}(F:Fun K x qual st f fd)
    (h:∀(kV doc pm:Value) (an:Option Addr) (Zs ct:Value) (us:List Value),us.length=ps.length->bindArgs (PySem.W.fnOf x qual (xG st) (sD st) (aM st) .none kV doc pm an Zs ct) ⟨us,[]⟩=pure (ps.zip us)):Binds K fd ps []:=by
  obtain⟨oc,od,kV,doc,pm,an,Zs,ct,osl,rfl,lk,hcd⟩:=F.ex;exact .all (h kV doc pm an Zs ct)
theorem S7{x qual:Str}{st:Stmt}{f:Addr}{oc:Value}{od an:Option Addr}{osl:Array (Option Value)}{kV doc pm Zs ct:Value}(l:K.lookup f=some ⟨oc,od,.func (PySem.W.fnOf x qual (xG st) (sD st) (aM st) .none kV doc pm an Zs ct),osl⟩)
    (c:PySem.W.codeIn K Zs qual=true) (k:PySem.W.keepIn K (.ref f)=true):Fun K x qual st f (PySem.W.fnOf x qual (xG st) (sD st) (aM st) .none kV doc pm an Zs ct):=⟨⟨oc,od,kV,doc,pm,an,Zs,ct,osl,rfl,l,c⟩,k⟩
end
theorem oF{A:Around}{k:Nat}(hr:Room k A):A.units+1 < cLine:=Nat.lt_of_le_of_lt (Nat.add_le_add_left (by decide:1<=64) _) hr.units
theorem small1000{n:Nat}(h:n<=1000):n < sizeLine:=Nat.lt_of_le_of_lt h (by decide)
section
variable {X:Cx}
theorem pv(i:Nat){x:Str}{pos:Pos}(hN:X.N[i]?=some x:=by rfl)(hv:Vis X.env.scope x:=by first|exact Or.inl rfl|exact Or.inr (Or.inl rfl)|exact Or.inr (Or.inr rfl))(hd:(x==("__debug__":Str))=false:=by decide)
    (hcd:(x==("__classdict__":Str))=false:=by decide):PE X (.Name x pos) (eD i):=TY hN hv hd hcd
end
noncomputable def Same(H H':Hp):Prop:=∀ b o,H b=some o->H' b=some o
theorem Same.refl(H:Hp):Same H H:=fun _ _ h=>h
theorem Same.trans{H H1 H2:Hp}(a:Same H H1)(b:Same H1 H2):Same H H2:=fun c o h=>b c o (a c o h)
theorem Same.free{H H':Hp}(e:Same H H'){l:Addr}(h:H' l=Option.none):H l=Option.none:=by
 cases q:H l with
 | none=>rfl
 | some o =>
  rw[e l o q] at h;cases h
theorem Same.seq{K:q0B}{H H':Hp}{a:Addr}{xs:List V}(e:Same H H')(h:dQ K H a xs):dQ K H' a xs:=by
 rcases h with(h|⟨o,h⟩)|h
 ·exact .inl (.inl (e _ _ h))
 ·exact .inl (.inr ⟨o,e _ _ h⟩)
 ·exact .inr h
section
variable {X:Cx}
end
section
variable {κ:Type} [DecidableEq κ]
end
end L2
set_option maxHeartbeats 4000000
namespace L2
open PySem PySem.Spec PyProof.Rows
theorem fD:bootBuiltins "tuple"=some (.type "tuple"):=by decide +kernel
theorem Fd:bootBuiltins "max"=some (.builtin "max"):=by decide +kernel
theorem JM:bootBuiltins "min"=some (.builtin "min"):=by decide +kernel
theorem pH:bootBuiltins "sorted"=some (.builtin "sorted"):=by decide +kernel
theorem qM:bootBuiltins "len"=some (.builtin "len"):=by decide +kernel
theorem DN:bootBuiltins "reversed"=some (.type "reversed"):=by decide +kernel
section
variable {X:Cx}
noncomputable def UL(_ j:Int):Prop:=0 < j/\j.natAbs.log2 < 9000
theorem Az:lH X (binaryOp .FloorDiv) (rI UL fun i j=>.int (i / j)):=XZ fun i j _ _ _ _ _ hc q=>by
 have h1:(0:Int) < j:=hc.1;exact floordiv_int (by omega) (by rw[Int.fdiv_eq_ediv_of_nonneg i (by omega)];exact q) (.inl (PyProof.noPylong_of_log2 hc.2))
theorem log2_lt{j:Int}(h0:0 < j)(h:j<=10 ^ 45):j.natAbs.log2 < 9000:=by
 have h1:j.natAbs<=10 ^ 45:=by omega
 have h2:j.natAbs < 2 ^ 150:=Nat.lt_of_le_of_lt h1 (by decide);have h3:j.natAbs.log2 < 150:=(Nat.log2_lt (by omega)).mpr h2;omega
end
noncomputable def Lz:Expr->Bool
 | .Starred ..=>true
 | _=>false
theorem Jw{e:Expr}{es:List Expr}{env:Env}(h:Lz e=false):starEach (e::es) env=(false,eval e env)::starEach es env:=by
 cases e<;>first|rfl|cases h
section
variable {X:Cx} {e:Expr} {es:List Expr} {te:TE} {t:TA}
theorem aD(ha:PE X e te)(hr:PA X es t)(h:Lz e=false:=by rfl):PA X (e::es) (EX te t):=Hz ha hr (Jw h)
end
noncomputable abbrev Ak(prog:Program)(w:World)(A:Around)(env:Env)(R:Result->Shared->Prop):Value->Shared->Prop:=notedBy (model prog w) A env fun e s'=>R (.error e) s'
noncomputable abbrev HS(ifs:List Expr)(env:Env):Sem Bool:=forIn ifs true fun c r=>if r=true then do let ok <- isTrue c env (eval c env);pure (ForInStep.yield ok) else pure (ForInStep.yield r)
section
variable {prog:Program} {w:World} {A:Around} {R:Result->Shared->Prop} {s:Shared}
theorem DT{elt target iter:Expr}{ifs:List Expr}{scope:Scope}{pos:Pos}{it acc:Value}{env:Env}(I:Nat->Shared->Prop)
    (turn:∀ n s,I n s->wpAny (model prog w) A (pyNext it) (fun r s₁=>match r with
      | none=>R (.ok .next) s₁
      | some v=>wpAny (model prog w) A (letOwnedTupleGo target it v) (fun _ s₁'=>wpAny (model prog w) A (assign target env v) (fun _ s₂ =>
          wpAny (model prog w) A (HS ifs env) (fun ok s₃ =>
            if ok=true then wpAny (model prog w) A (eval elt env) (fun x s₄ =>
              wpAny (model prog w) A (call (.builtin "list.append") [acc,x]) (fun _ s₅=>∃ m,m < n/\I m s₅) (Ak prog w A env R) s₄) (Ak prog w A env R) s₃
            else ∃ m,m < n/\I m s₃) (Ak prog w A env R) s₂) (Ak prog w A env R) s₁') (Ak prog w A env R) s₁) (Ak prog w A env R) s)
    (n:Nat) (h:I n s):codeAny (model prog w) A (.compLoop (.ListComp elt [⟨target,iter,ifs,0⟩] scope pos) 0 it acc env) R s:=by
  refine codeAny_loop rfl I (fun n s hI=>?_) n h;show wpAny _ A ((compTurn (.ListComp elt [⟨target,iter,ifs,0⟩] scope pos) 0 it acc env).onRaise (fun x=>do noteFrame x env;theTreesLotGoes x)) _ _ s;refine wpAny_noted ?_;rw[compTurn_list];refine wpAny_bind (wpAny_standAt (wpAny_bind (wpAny_mono (turn n s hI) (fun r s₁ h₁=>?_) fun _ _ h'=>h')));cases r with
  | none=>exact wpAny_pure h₁
  | some v =>
    refine wpAny_bind (wpAny_mono h₁ (fun _ s₁' h₁'=>?_) fun _ _ h'=>h');refine wpAny_bind (wpAny_mono h₁' (fun _ s₂ h₂=>wpAny_bind (wpAny_mono h₂ (fun ok s₃ h₃=>?_) fun _ _ h'=>h')) fun _ _ h'=>h');cases ok with
    | false=>exact wpAny_pure ⟨rfl,h₃⟩
    | true =>
      exact wpAny_bind (wpAny_bind (wpAny_mono h₃ (fun x s₄ h₄=>wpAny_bind (wpAny_mono h₄ (fun _ s₅ h₅=>wpAny_pure (wpAny_pure ⟨rfl,h₅⟩)) fun _ _ h'=>h')) fun _ _ h'=>h'))
end
noncomputable def dX(X:Cx)(sc:Scope)(cl:List (Str×Addr))(C:Addr)(N:List Str)(s:Shared)(H:Hp)(ex:List Addr)(pn:List (Addr×Obj)):Cx :=
 {X with env:=compEnvC sc cl C X.env,N:=N,s₀:=s,H₀:=H,outer:=X.stack,ex:=ex,fn:=fun _=>false,pn:=pn}
structure dW(X:Cx)(sc:Scope)(cl:List (Str×Addr))(x:Str)(fr:List Nat)(N:List Str):Prop where
 kind:sc.kind=.function
 Aj:∀ y∈sc.names,y.2≠.cell
 names:∀ y∈sc.names,y.2=.local->sc.names.lookup y.1=some .local
 DR:closureFor sc X.env=pure cl
 sub:∀ y c,cl.lookup y=some c->X.env.cells.lookup y=some c
 has:∀ y,((relabel sc X.env).names.lookup y=some .cell\/(relabel sc X.env).names.lookup y=some .free)->∃ c,cl.lookup y=some c
 tgt:sc.names.lookup x=some .local
 nd:N.Nodup
 N0:N=x::fr.map fun j=>X.N.getD j x
 frc:∀ j∈fr,∃ y,X.N[j]?=some y/\X.env.kindOf y=some .cell/\((relabel sc X.env).names.lookup y=some .cell\/(relabel sc X.env).names.lookup y=some .free)
noncomputable def bE(fr:List Nat)(σ:St):St:=fr.map fun j=>(σ[j]?).join
section
variable {X:Cx} {Zg:List (Addr×Obj)} {σ:St} {H:Hp} {s:Shared} {sc:Scope} {cl:List (Str×Addr)} {C:Addr} {x:Str} {fr:List Nat} {N:List Str} {fp:List Addr}
theorem Nc(I:Zi X Zg σ H s)(S:dW X sc cl x fr N)(hf:∀ b∈fp,rT X Zg H b)(hfo:∀ b∈fp,b < s.heap.objs.size)(hC:s.heap.objs.size<=C) :
    (dX X sc cl C N s H fp (X.pn++Zg)).Ok where
  mod:=I.ok.mod
  kind:=S.kind
  glob:=I.ok.glob
  blt:=I.ok.blt
  above:=hC
  inj:=fun y z c h1 h2=>I.ok.inj y z c (S.sub y c h1) (S.sub z c h2)
  has:=S.has
  cab:=fun _ _ h=>by cases h
  hd:=I.ok.hd
  frames:=I.ok.frames
  stk:=.inl rfl
  exf:=fun b hb=>⟨Nat.ne_of_lt (Nat.lt_of_lt_of_le (hfo b hb) hC),fun y c e=>(hf b hb).2.2.2.2.1 y c (S.sub y c e)⟩
  bs:=I.bs
  bsz:=Nat.le_trans I.ok.bsz I.sz
  IT:=fun b o e hb=>by
    rcases(hf b hb).2.2.2.1 with z|z
    · exact I.ok.IT b o e z
    · exact absurd (Nat.lt_of_lt_of_le (Heap.lt_size e) (Nat.le_trans I.ok.bsz z)) (Nat.lt_irrefl _)
  Le:=fun b hb hm=>by
    rcases List.mem_cons.mp (I.Be b hm) with z|z
    · exact(hf b hb).2.1 z
    · exact(hf b hb).2.2.1 z
  sJ:=I.stack
  frf:=I.HK
theorem nostk(I:Zi X Zg σ H s){b:Addr}(h1:b≠X.env.locals)(h2:b∉X.fs):b∉frs X.stack:=fun hm=>by
 rcases List.mem_cons.mp (I.Be b hm) with z|z
 ·exact h1 z
 ·exact h2 z
theorem J9(I:Zi X Zg σ H s)(S:dW X sc cl x fr N)(hf:∀ b∈fp,rT X Zg H b)(hfo:∀ b∈fp,b < s.heap.objs.size)(hC:s.heap.objs.size<=C){h1:Heap}{t1:Nat}{m0:q0C}
    (hn:h1.Ns C m0) (hk:∀ b o,s.heap.get? b=some o->h1.get? b=some o):Zi (dX X sc cl C N s H fp (X.pn++Zg)) [] (none::bE fr σ) H {s with heap:=h1,toks:=t1}:=by
  refine⟨Nc I S hf hfo hC,rfl,I.bare,Un.kept hk,⟨m0,hn,fun i y v e1 e2 e3=>?_⟩,fun y c e=>?_,I.Zl.fresh hC,fun y c e=>I.mZ y c (S.sub y c e),fun p hp=>?_,I.Zl.kept hk,?_⟩
  · have e1':N[i]?=some y:=e1;rw[S.N0] at e1';cases i with
    | zero =>
      have z:(some (none:Option V))=some (some v):=e2;cases z
    | succ j =>
      have aaX:(fr.map fun j=>X.N.getD j x)[j]?=some y:=e1';have e2':(bE fr σ)[j]?=some (some v):=e2;unfold bE at e2';rw[List.getElem?_map] at aaX e2';cases q:fr[j]? with
      | none=>rw[q] at aaX;cases aaX
      | some k =>
        rw[q] at aaX e2';have ey:X.N.getD k x=y:=Option.some.inj aaX;have ev:(σ[k]?).join=some v:=Option.some.inj e2';obtain⟨y',hy,aaN,acA⟩:=S.frc k (List.mem_of_getElem? q);have eyy:y=y':=by
          rw[<- ey,List.getD_eq_getElem?_getD,hy];rfl
        subst eyy;have ev':σ[k]?=some (some v):=by
          cases z:σ[k]? with
          | none=>rw[z] at ev;cases ev
          | some o =>
            rw[z] at ev;have ev2:o=some v:=ev;rw[ev2]
        obtain⟨m,_,hl⟩:=I.loc;obtain⟨u,r,l⟩:=hl k y v hy ev' (.inr (.inl aaN));refine⟨u,r,.inr ⟨acA,?_⟩⟩;rcases l with⟨z,_⟩|⟨_,c,hc,o,ho,hd⟩
        · rw[aaN] at z;cases z
        · obtain⟨c',hc'⟩:=S.has y acA;have z:=S.sub y c' hc';rw[hc] at z;cases z;exact⟨c,hc',o,hk c o ho,hd⟩
  · obtain⟨v,o,ho,hd⟩:=I.cell y c (S.sub y c e);exact⟨v,o,hk c o ho,hd⟩
  · have hp':p∈X.pn++Zg:=by
      have z:p∈(X.pn++Zg)++[]:=hp;simpa using z
    obtain⟨e,n,ne,nf,d⟩:=I.pin p hp';exact⟨hk _ _ e,n,Nat.ne_of_lt (Nat.lt_of_lt_of_le (Heap.lt_size e) hC),nostk I ne nf,d⟩
  · show(none::bE fr σ).length=N.length;rw[S.N0];simp[bE]
theorem J8(I:Zi X Zg σ H s)(hf:∀ b∈fp,rT X Zg H b){D:Addr}{pl:List (Addr×Obj)}{σ':St}{H':Hp}{s':Shared}(J:Zi (dX X sc cl C N s H fp (X.pn++Zg)) pl σ' H' s')
    (hC:s.heap.objs.size<=C) (hD:s.heap.objs.size<=D) (hDC:D≠C) (hDn:H' D=none) {xs:List V} {vals:List Value} {k:Nat} (hg:s'.heap.get? D=some {cls:=.type "list",data:=.seq vals.toArray k}) (rv:Vals xs vals) (hz:xs.length<=sizeLine)
    {h':Heap} (hs:Heap.SameBut C s'.heap h'):Zi X Zg σ (Zh H' D (.lst xs)) {s' with heap:=h'}:=by
  have lt:∀ {b:Addr} {o:Obj},s.heap.get? b=some o->b < s.heap.objs.size:=fun e=>Heap.lt_size e;have neC:∀ {b:Addr} {o:Obj},s.heap.get? b=some o->b≠C:=fun e=>Nat.ne_of_lt (Nat.lt_of_lt_of_le (Heap.lt_size e) hC);have neD:∀ {b:Addr} {o:Obj},s.heap.get? b=some o->b≠D:=fun e=>Nat.ne_of_lt (Nat.lt_of_lt_of_le (Heap.lt_size e) hD);have abM:∀ {b:Addr} {o:HO},H b=some o->b≠D:=fun e=>Nat.ne_of_lt (Nat.lt_of_lt_of_le (I.Zl.lt e) hD);have base:Un (frs X.stack) fp H H' s.heap s'.heap:=J.base;have HC:H' C=none:=J.free;refine I.Vm (s':={s' with heap:=h'}) (ch:=fp) J.os ⟨fun b o e n hb hx=>?_,fun b o e n hb hx=>?_,fun b o e n hx=>?_,fun b o e hx=>?_,fun b ys e=>?_,fun b o u e=>?_,fun b ps e=>?_⟩ (fun b u e=>?_) J.bare (fun b hb=>?_)
  · exact(hs.2 b (neC e)).trans (base.keep b o e n hb hx)
  · obtain⟨sl,q⟩:=base.slot b o e n hb hx;exact⟨sl,(hs.2 b (neC e)).trans q⟩
  · rw[aG (neD e)];exact base.free b o e n hx
  · obtain⟨o',q⟩:=base.there b o e hx;exact⟨o',(hs.2 b (neC e)).trans q⟩
  · rw[aG (abM e)];exact base.tO b ys e
  · rw[aG (abM e)];exact base.qS b o u e
  · rw[aG (abM e)];exact base.tN b ps e
  · by_cases hb:b=D
    · subst hb;rw[aA] at e;cases e;exact⟨hz,vals,k,rv,(hs.2 b hDC).trans hg⟩
    · rw[aG hb] at e;have tC:∀ {c:Addr} {o:HO},H' c=some o->c≠C:=fun q z=>by rw[z,HC] at q;cases q
      have tD:∀ {c:Addr} {o:HO},H' c=some o->c≠D:=fun q z=>by rw[z,hDn] at q;cases q
      refine(J.Zl b u e).tM (fun c v hc q=>(hs.2 c ?_).trans q) (fun c q=>by rw[aG (tD q)];exact q) fun c ys q=>by rw[aG (tD q)];exact q
      rcases hc with z|z
      · rw[z];exact tC e
      · exact tC z
  · obtain⟨_,f1,_,f3,f4,f5⟩:=hf b hb;exact⟨f3,f1,f4,f5⟩
end
noncomputable def PTs(Y:Cx)(ifs:List Expr)(t:TT):Prop :=
 ∀(Zg:List (Addr×Obj)) (s:Shared) (σ:St) (H:Hp) (Q:Bool->Hp->Prop),Zi Y Zg σ H s->t σ H Q->wpAny (model Y.prog Y.w) Y.A (HS ifs Y.env) (TP Y Zg σ Q) Y.xe s
noncomputable def Qk:TT:=fun _ H Q=>Q true H
theorem tG{Y:Cx}:PTs Y [] Qk:=fun _ _ _ H _ I h=>wpAny_tests_nil ⟨H,I,h⟩
theorem tH{Y:Cx}{c:Expr}{t:TT}(h:PT Y c t):PTs Y [c] t:=fun Zg s σ H Q I hw=>wpAny_tests_one (h Zg s σ H Q I hw)
@[irreducible] def kM(wi:TI)(fr:List Nat)(tc:TT)(te:TE):TE:=fun σ H Q=>wi σ H fun J H1=>∃ W:Nat->Nat->List V->Hp->Prop,(∃ m,W 0 m [] H1)/\∀ i m xs H,W i m xs H->xs.length<=1000000 /\
  ((J.stop i H/\∀ p,H p=none->Q (.ref p) (Zh H p (.lst xs))) \/
   (J.go i H/\∀ y H',J.yld i H y H'->tc (some y::bE fr σ) H' fun b H2=>if b=true then te (some y::bE fr σ) H2 (fun z H3=>∃ m',m' < m/\W (i+1) m' (xs++[z]) H3) else ∃ m',m' < m/\W (i+1) m' xs H2))
section
variable {X:Cx} {sc:Scope} {cl:List (Str×Addr)} {x:Str} {fr:List Nat} {N:List Str} {elt iter:Expr} {px pos:Pos} {ifs:List Expr} {wi:TI} {tc:TT} {te:TE}
theorem yO(hc:X.calm=true)(hx:∀ e s,¬ X.xe e s)(S:dW X sc cl x fr N)
    (hb:∀ C s H ex pn,PTs (dX X sc cl C N s H ex pn) ifs tc/\PE (dX X sc cl C N s H ex pn) elt te)
    {Zg:List (Addr×Obj)} {σ:St} {H:Hp} {s:Shared} {it:Addr} {fp:List Addr} {tn:Nat->Heap->Prop} {J:It} {Q:VK} {RR:Value->Addr->Result->Shared->Prop} {E:q0A}
    (I:Zi X Zg σ H s) (T:Turn X.prog X.w X.K (.Name x px) J fp it tn) (st:tn 0 s.heap) (hf:∀ b∈fp,rT X Zg H b)
    {W:Nat->Nat->List V->Hp->Prop} {m0:Nat} (w0:W 0 m0 [] H)
    (turn:∀ i m xs H,W i m xs H->xs.length<=1000000 /\
      ((J.stop i H/\∀ p,H p=none->Q (.ref p) (Zh H p (.lst xs))) \/
       (J.go i H/\∀ y H',J.yld i H y H'->tc (some y::bE fr σ) H' fun b H2=>if b=true then te (some y::bE fr σ) H2 (fun z H3=>∃ m',m' < m/\W (i+1) m' (xs++[z]) H3) else ∃ m',m' < m/\W (i+1) m' xs H2)))
    (fin:∀(D C:Addr) (s':Shared) (m':q0C) (H':Hp),s'.heap.Ns C m'->rT X Zg H' C->(∀ h',Heap.SameBut C s'.heap h'->Zi X Zg σ H' {s' with heap:=h'})->Q (.ref D) H'->RR (.ref D) C (.ok .next) s') :
    wpAny (model X.prog X.w) X.A (newList []) (fun acc s₃=>wpAny (model X.prog X.w) X.A (newFunctionEnv sc X.env.globals cl [] X.env.qual none .none (some X.env)) (fun abV s₄ =>
      codeAny (model X.prog X.w) X.A (.compStart (.ListComp elt [⟨.Name x px,iter,ifs,0⟩] sc pos) 0 (.ref it) acc {abV with scope:=relabel sc X.env}) (RR acc abV.locals) s₄) E s₃) E s:=by
  refine wpAny_newObj_type (wpAny_newFunctionEnv S.Aj (by intro y hy;simp at hy) (fun h₁ abH aa3=>?_) S.kind);dsimp only at abH aa3 ⊢;generalize hH2:s.heap.push {cls:=.type "list",dict:=none,data:=.seq ([]:List Value).toArray}=G2 at abH aa3 ⊢;have hCs:G2.objs.size=s.heap.objs.size+1:=by rw[<- hH2,Heap.size_push]
  have hDC:s.heap.objs.size≠G2.objs.size:=by rw[hCs];exact Nat.ne_of_lt (Nat.lt_succ_self _)
  have hC:s.heap.objs.size<=G2.objs.size:=by rw[hCs];exact Nat.le_succ _
  have below:∀ b,b < s.heap.objs.size->b≠G2.objs.size:=fun b hb=>by rw[hCs];exact Nat.ne_of_lt (Nat.lt_succ_of_lt hb)
  have old:∀ b o,s.heap.get? b=some o->h₁.get? b=some o:=fun b o e=>aa3.extBut b o (below b (Heap.lt_size e)) (Heap.get?_push_of_some _ (hH2▸Heap.get?_push_of_some _ e));have hD1:h₁.get? s.heap.objs.size=some {cls:=.type "list",data:=.seq ([]:List Value).toArray 0}:=aa3.extBut _ _ hDC (Heap.get?_push_of_some _ (hH2▸Heap.get?_push_size _ rfl));have hfo:∀ b∈fp,b < s.heap.objs.size:=fun b hbm=>by
    obtain⟨o,e,_⟩:=T.obj 0 s.heap st b hbm;exact Heap.lt_size e
  have hDn:H s.heap.objs.size=none:=I.Zl.fresh (Nat.le_refl _)
  -- what stays true of the made list's place
  have acL:s.heap.objs.size∉frs X.stack:=fun hm=>by
    rcases List.mem_cons.mp (I.Be _ hm) with z|z
    · exact absurd I.lt (by rw[<- z];exact Nat.lt_irrefl _)
    · exact I.WX (Nat.le_refl _) z
  have abS:∀ y c,cl.lookup y=some c->c≠s.heap.objs.size:=fun y c e z=>by
    obtain⟨v,q⟩:=I.cell y c (S.sub y c e);exact absurd q.lt (by rw[z];exact Nat.lt_irrefl _)
  have acK:∀ p∈X.pn++Zg,p.1≠s.heap.objs.size:=fun p hp z=>absurd (Heap.lt_size (I.pin p hp).1) (by rw[z];exact Nat.lt_irrefl _);have Dfp:s.heap.objs.size∉fp:=fun hm=>Nat.lt_irrefl _ (hfo _ hm);have loop:∀ s₃:Shared,s₃={s with heap:=h₁,toks:=s.toks+([]:List (Str×Value)).length} ->
      codeAny (model X.prog X.w) X.A (.compLoop (.ListComp elt [⟨.Name x px,iter,ifs,0⟩] sc pos) 0 (.ref it) (.ref s.heap.objs.size) (compEnvC sc cl G2.objs.size X.env)) (RR (.ref s.heap.objs.size) G2.objs.size) s₃:=by
    rintro s₃ rfl;have I0:Zi (dX X sc cl G2.objs.size N s H fp (X.pn++Zg)) [] (none::bE fr σ) H {s with heap:=h₁,toks:=s.toks+([]:List (Str×Value)).length}:=J9 I S hf hfo hC abH old;refine DT (fun n s'=>∃(i:Nat) (xs:List V) (vals:List Value) (k:Nat) (v0:Option V) (H':Hp),Zi (dX X sc cl G2.objs.size N s H fp (X.pn++Zg)) [] (v0::bE fr σ) H' s'/\tn i s'.heap/\(∀ b∈fp,H' b=none) /\
      s'.heap.get? s.heap.objs.size=some {cls:=.type "list",data:=.seq vals.toArray k}/\Vals xs vals/\H' s.heap.objs.size=none/\W i n xs H') ?_ m0
      ⟨0,[],[],0,none,H,I0,T.keep _ _ _ st fun b _ o e=>old b o e,fun b hb=>(hf b hb).1,hD1,.nil,hDn,w0⟩
    rintro n s1 ⟨i,xs,vals,k,v0,H1,I1,st1,fr1,hg1,rv1,acQ,w1⟩;have hlen:=rv1.length;obtain⟨hz,step⟩:=turn i n xs H1 w1;have hz2:xs.length<=sizeLine:=Nat.le_trans hz (by decide);have aaH:∀ {H':Hp} {pl:List (Addr×Obj)},(∀ b∈fp,H' b=none)->(∀ p∈pl,p.1=s.heap.objs.size)->∀ b∈fp,rT (dX X sc cl G2.objs.size N s H fp (X.pn++Zg)) pl H' b:=fun {H' pl} hn hpl b hb =>
      ⟨hn b hb,below b (hfo b hb),nostk I (hf b hb).2.1 (hf b hb).2.2.1,.inl hb,fun y c e=>(hf b hb).2.2.2.2.1 y c (S.sub y c e),fun p hp z=>by
        rcases List.mem_append.mp hp with q|q
        · exact(hf b hb).2.2.2.2.2 p q z
        · exact Dfp (by rw[<- hpl p q,z];exact hb)⟩
    have I1':Zi (dX X sc cl G2.objs.size N s H fp (X.pn++Zg)) [(s.heap.objs.size,{cls:=.type "list",data:=.seq vals.toArray k})] (v0::bE fr σ) H1 s1:=I1.tF fun p hp=>by
      have e:p=(s.heap.objs.size,{cls:=.type "list",data:=.seq vals.toArray k}):=by simpa using hp
      subst e;exact⟨hg1,acQ,hDC,acL,fun v z=>by cases z⟩
    rcases step with⟨stop,hq⟩|⟨go,step⟩
    · refine thn (T.done (dX X sc cl G2.objs.size N s H fp (X.pn++Zg)) rfl rfl rfl hc i [(s.heap.objs.size,{cls:=.type "list",data:=.seq vals.toArray k})] s1 _ H1 _ I1' (aaH fr1 fun p hp=>by
        have e:p=(s.heap.objs.size,{cls:=.type "list",data:=.seq vals.toArray k}):=by simpa using hp
        rw[e]) st1 stop) fun r s2 ⟨hr,I2⟩=>?_
      subst hr;obtain⟨g2,n2,_⟩:=I2.pin (s.heap.objs.size,{cls:=.type "list",data:=.seq vals.toArray k}) (List.mem_append_right _ (by simp));obtain⟨m2,hn2,_⟩:=I2.loc;have hCn:Zh H1 s.heap.objs.size (.lst xs) G2.objs.size=none:=by
        rw[aG (Ne.symm hDC)];exact I2.free
      exact fin s.heap.objs.size G2.objs.size s2 m2 _ hn2 (I.D4 hC hCn) (fun h' hs'=>J8 I hf I2 hC (Nat.le_refl _) hDC n2 g2 rv1 hz2 hs') (hq _ n2)
    · refine thn (T.item (dX X sc cl G2.objs.size N s H fp (X.pn++Zg)) rfl rfl rfl hc i [(s.heap.objs.size,{cls:=.type "list",data:=.seq vals.toArray k})] s1 _ H1 _ I1' (aaH fr1 fun p hp=>by
        have e:p=(s.heap.objs.size,{cls:=.type "list",data:=.seq vals.toArray k}):=by simpa using hp
        rw[e]) st1 go) fun r s2 ⟨u,hr,h2⟩=>?_
      subst hr;refine thn h2 fun _ s3 ⟨y,H3,I3,r3,y3,st3,fr3⟩=>?_;have I3':=I3.pinned (aaH fr3 fun p hp=>by
        have e:p=(s.heap.objs.size,{cls:=.type "list",data:=.seq vals.toArray k}):=by simpa using hp
        rw[e]) (T.obj _ _ st3)
      -- what the Zg say again behind each part
      have back:∀ {σ9:St} {H9:Hp} {s9:Shared},Zi (dX X sc cl G2.objs.size N s H fp (X.pn++Zg)) ([(s.heap.objs.size,{cls:=.type "list",data:=.seq vals.toArray k})]++AE fp s3.heap) σ9 H9 s9 ->
          tn (i+1) s9.heap/\(∀ b∈fp,H9 b=none)/\s9.heap.get? s.heap.objs.size=some {cls:=.type "list",data:=.seq vals.toArray k}/\H9 s.heap.objs.size=none:=fun {σ9 H9 s9} I9=>by
        refine⟨T.keep _ _ _ st3 fun b hb o e=>(I9.pin (b,o) (List.mem_append_right _ (List.mem_append_right _ (mG hb e)))).1,fun b hb=>?_,?_⟩
        · obtain⟨o,e,d⟩:=T.obj _ _ st3 b hb;exact(I9.pin (b,o) (List.mem_append_right _ (List.mem_append_right _ (mG hb e)))).2.1
        · obtain⟨a1,a2,_⟩:=I9.pin (s.heap.objs.size,{cls:=.type "list",data:=.seq vals.toArray k}) (List.mem_append_right _ (List.mem_append_left _ (by simp)));exact⟨a1,a2⟩
      have hN0:(dX X sc cl G2.objs.size N s H fp (X.pn++Zg)).N[0]?=some x:=by
        show N[0]?=some x;rw[S.N0];rfl
      have ab5:(relabel sc X.env).names.lookup x=some .local:=lookup_relabel_local S.tgt;have hpg:PG (dX X sc cl G2.objs.size N s H fp (X.pn++Zg)) (.Name x px) (zQ 0):=mK (i:=0) S.nd hN0 (.inl ab5) (.inr ab5);have noX:∀ e s',(dX X sc cl G2.objs.size N s H fp (X.pn++Zg)).xe e s'->Ak X.prog X.w X.A (compEnvC sc cl G2.objs.size X.env) (RR (.ref s.heap.objs.size) G2.objs.size) e s':=fun e s' z=>(hx e s' z).elim;have ab9:=step y H3 y3;refine wpAny_mono (hpg _ s3 _ H3 y u (fun σ' H'=>σ'=some y::bE fr σ/\H'=H3) I3' r3 ⟨rfl,rfl⟩) (fun _ s4 ⟨σ4,H4,I4,e4,e4'⟩=>?_) noX;subst e4 e4';obtain⟨hbT,hbE⟩:=hb G2.objs.size s H fp (X.pn++Zg);refine wpAny_mono (hbT _ s4 _ H4 _ I4 ab9) (fun ok s5 ⟨H5,I5,q5⟩=>?_) noX;cases ok with
      | false =>
        rw[if_neg Bool.false_ne_true];have q5':∃ m',m' < n/\W (i+1) m' xs H5:=q5;obtain⟨m',hm,w5⟩:=q5';obtain⟨b1,b2,b3,b4⟩:=back I5;exact⟨m',hm,i+1,xs,vals,k,some y,H5,I5.tF (fun p hp=>absurd hp (by simp)),b1,b2,b3,rv1,b4,w5⟩
      | true =>
        rw[if_pos rfl];refine wpAny_mono (hbE _ s5 _ H5 _ I5 q5) (fun z s6 ⟨v6,H6,I6,r6,q6⟩=>?_) noX;obtain⟨m',hm,w6⟩:=q6;obtain⟨b1,b2,b3,b4⟩:=back I6;refine call_meets F.slot_list_append ⟨_,b3,rfl⟩ F.entry_list_append (F.args_list_append_2 _ _) (PySem.list_append s.heap.objs.size vals.toArray k z (by rw[List.size_toArray];omega)) ⟨b3,?_⟩;have q7:=PySem.IsL.update b3 (fun a:Array Value=>a.push z);have ab7:vals.toArray.push z=(vals++[z]).toArray:=by simp
        rw[ab7] at q7;have I6':Zi (dX X sc cl G2.objs.size N s H fp (X.pn++Zg)) [] (some y::bE fr σ) H6 s6:=I6.tF (fun p hp=>absurd hp (by simp));have others:∀ b o,b≠s.heap.objs.size->s6.heap.get? b=some o->(s6.heap.update s.heap.objs.size (Obj.mapSeq fun a=>a.push z)).get? b=some o:=fun b o hb' e=>(Heap.get?_update_other _ _ (Ne.symm hb')).trans e;refine⟨m',hm,i+1,xs++[v6],vals++[z],_,some y,H6,I6'.turned (it:=s.heap.objs.size) others b4 hDC (.inr (Nat.le_refl _)) abS (fun p hp z'=>?_),T.keep _ _ _ b1 fun b hb' o e=>others b o (fun z'=>Dfp (by rw[<- z'];exact hb')) e,b2,q7,rv1.append (.cons r6 .nil),b4,w6⟩;have hp':p∈X.pn++Zg:=by
          have z2:p∈(X.pn++Zg)++[]:=hp;simpa using z2
        exact acK p hp' z'
  exact codeAny_compStart_list (loop _ rfl) (T.self _ _ _ _ _ (T.keep _ _ _ st fun b _ o e=>old b o e) (loop _ rfl))
theorem sX(hc:X.calm=true)(hx:∀ e s,¬ X.xe e s)(S:dW X sc cl x fr N)(hi:PI X (.Name x px) iter wi)
    (hb:∀ C s H ex pn,PTs (dX X sc cl C N s H ex pn) ifs tc/\PE (dX X sc cl C N s H ex pn) elt te)
    (hs:∀ v,foldedSetIterable iter X.env v=pure v:=by intro _;rfl):PE X (.ListComp elt [⟨.Name x px,iter,ifs,0⟩] sc pos) (kM wi fr tc te):=by
  intro Zg s σ H Q I h;unfold kM at h;rw[eval_ListComp];refine wpAny_comprehension_free (use:=none) rfl hs S.DR S.kind S.names ?_;refine thn (hi Zg s σ H _ I h) fun v s1 h1=>thn h1 fun itv s2 h2=>?_;obtain⟨it,fp,tn,J,H2,e,I2,T,st2,f2,W,⟨m0,w0⟩,turn⟩:=h2;subst e;refine yO (RR:=fun acc C=>compPost (model X.prog X.w) X.A X.xe none (EP X Zg σ Q) acc C) hc hx S hb I2 T st2 f2 w0 turn ?_;intro D C s' m' H' hn _ abF q;exact⟨m',hn,fun h' hs'=>⟨.ref D,H',abF h' hs',rfl,q⟩⟩
end
theorem dW.dH{X:Cx}{sc:Scope}{x:Str}(kind:sc.kind=.function)(nc:(sc.names.all fun y=>y.2 !=.cell&&y.2 !=.free)=true)
    (nm:(sc.names.all fun y=>!(y.2==.local)||sc.names.lookup y.1==some .local)=true) (tgt:sc.names.lookup x=some .local):dW X sc [] x [] [x] where
  kind:=kind
  Aj:=fun y hy e=>by
    have h:=List.all_eq_true.mp nc y hy;rw[e] at h;exact absurd h (by decide)
  names:=fun y hy e=>by
    have h:=List.all_eq_true.mp nm y hy;rw[e] at h;simpa using h
  DR:=closureFor_none fun y hy e=>by
    have h:=List.all_eq_true.mp nc y hy;rw[e] at h;exact absurd h (by decide)
  sub:=fun y c h=>by cases h
  has:=fun y h=>by
    exfalso;have key:∀ l:List (Str×NameKind),(l.all fun y=>y.2 !=.cell&&y.2 !=.free)=true->∀ k,(l.map fun(n,k)=>if (k==NameKind.free&&X.env.scope.kind==.function&&X.env.kindOf n==some .cell) then (n,NameKind.cell) else (n,k)).lookup y=some k->k≠.cell/\k≠.free:=by
      intro l
      induction l with
      | nil=>intro _ k e;cases e
      | cons p r ih =>
        obtain⟨n,kk⟩:=p;intro ha k e;rw[List.all_cons,Bool.and_eq_true,Bool.and_eq_true] at ha;obtain⟨⟨h1,h2⟩,h3⟩:=ha;have h2':(kk==NameKind.free)=false:=by simpa using h2
        rw[List.map_cons] at e;dsimp only at e;rw[h2',Bool.false_and,Bool.false_and,if_neg Bool.false_ne_true,List.lookup_cons] at e;cases q:(y==n) with
        | true =>
          rw[q] at e;have e':kk=k:=Option.some.inj e;subst e';exact⟨by simpa using h1,by simpa using h2⟩
        | false =>
          rw[q] at e;exact ih h3 k e
    rcases h with h|h
    · exact(key sc.names nc _ h).1 rfl
    · exact(key sc.names nc _ h).2 rfl
  tgt:=tgt
  nd:=by simp
  N0:=rfl
  frc:=fun j hj=>by cases hj
section
variable {X:Cx}
theorem Uk:MN X (fun x lo hi H Q=>∃ z,x=.str z/\z.length<=sizeLine/\Q (.str (Txt.slice z lo hi)) H):=by
 intro Zg s σ H x v vl vu lo hi sl Q I rx hs pl pu h;obtain⟨z,rfl,hz,q⟩:=h;obtain⟨t,rfl⟩:=rx;have fin:∀ t' k,EP X Zg σ Q (.str (Txt.slice z lo hi) t') {s with toks:=k}:=fun t' k=>⟨.str _,H,I.tok _,⟨_,rfl⟩,q⟩;refine⟨"str",_,F.slot_str_getitem.lookup,typeIs_str s z t,?_⟩;cases pl with
 | none =>
  cases pu with
  | none=>exact wpAny_getItem_str_slice (l:=none) (u:=none) (st:=none) hs rfl (post_val_or_str ⟨Nat.le_trans (Txt.slice_le z _ _) hz,fin⟩)
  | int j uj=>exact wpAny_getItem_str_slice (l:=none) (u:=some (j,uj)) (st:=none) hs rfl (post_val_or_str ⟨Nat.le_trans (Txt.slice_le z _ _) hz,fin⟩)
 | int i ui =>
  cases pu with
  | none=>exact wpAny_getItem_str_slice (l:=some (i,ui)) (u:=none) (st:=none) hs rfl (post_val_or_str ⟨Nat.le_trans (Txt.slice_le z _ _) hz,fin⟩)
  | int j uj=>exact wpAny_getItem_str_slice (l:=some (i,ui)) (u:=some (j,uj)) (st:=none) hs rfl (post_val_or_str ⟨Nat.le_trans (Txt.slice_le z _ _) hz,fin⟩)
end
noncomputable def Its(x:Str):It:=⟨fun i _=>i < x.cps.size,fun i H y H'=>H'=H/\∃ c,x.cps[i]?=some c/\y=.str ⟨#[c]⟩,fun i _=>x.cps.size<=i⟩
section
variable {X:Cx} {tg:Expr}
noncomputable def WK(tl:TE):TI:=fun σ H R=>tl σ H fun x H1=>∃ z,x=.str z/\R (Its z) H1
end
noncomputable def cW(n:Nat)(Pv:Nat->List V->Hp->Prop)(i m:Nat)(xs:List V)(H:Hp):Prop:=m=n - i/\i<=n/\Pv i xs H
theorem cW.next{n:Nat}{Pv:Nat->List V->Hp->Prop}{i:Nat}{xs:List V}{H:Hp}(hi:i < n)(p:Pv (i+1) xs H):∃ m',m' < n - i/\cW n Pv (i+1) m' xs H:=⟨n - (i+1),by omega,rfl,hi,p⟩
section
variable {fr:List Nat} {tc:TT} {te:TE} {σ:St} {H:Hp} {Q:VK}
theorem Ie{K:q0B}{a:Addr}{ys:List V}(Pv:Nat->List V->Hp->Prop)(h0:Pv 0 [] H)(hz:∀ i xs H,Pv i xs H->xs.length<=1000000)(hl:∀ i xs H,Pv i xs H->dQ K H a ys)
    (hs:∀ i y xs H,i < ys.length->ys[i]?=some y->Pv i xs H->tc (some y::bE fr σ) H fun b H2=>if b=true then te (some y::bE fr σ) H2 (fun z H3=>∃ m',m' < ys.length - i/\cW ys.length Pv (i+1) m' (xs++[z]) H3) else ∃ m',m' < ys.length - i/\cW ys.length Pv (i+1) m' xs H2)
    (hd:∀ xs H,Pv ys.length xs H->∀ p,H p=none->Q (.ref p) (Zh H p (.lst xs))) :
    ∃ W:Nat->Nat->List V->Hp->Prop,(∃ m,W 0 m [] H)/\∀ i m xs H,W i m xs H->xs.length<=1000000 /\
      (((Itl K a).stop i H/\∀ p,H p=none->Q (.ref p) (Zh H p (.lst xs))) \/
       ((Itl K a).go i H/\∀ y H',(Itl K a).yld i H y H'->tc (some y::bE fr σ) H' fun b H2=>if b=true then te (some y::bE fr σ) H2 (fun z H3=>∃ m',m' < m/\W (i+1) m' (xs++[z]) H3) else ∃ m',m' < m/\W (i+1) m' xs H2)):=by
  refine⟨cW ys.length Pv,⟨ys.length,by simp,Nat.zero_le _,h0⟩,?_⟩;rintro i m xs H ⟨rfl,hi,p⟩;refine⟨hz i xs H p,?_⟩;have q:=hl i xs H p;by_cases ZK:i < ys.length
  · refine .inr ⟨⟨ys,ys[i],q,by simp[ZK]⟩,fun y H' yy=>?_⟩;obtain⟨e,yy⟩:=yy;subst e;exact hs i y xs _ ZK (yy ys q) p
  · have e:i=ys.length:=by omega
    subst e;exact .inl ⟨⟨ys,q,Nat.le_refl _⟩,hd xs H p⟩
theorem Fi{lo:Int}{n:Nat}(Pv:Nat->List V->Hp->Prop)(h0:Pv 0 [] H)(hz:∀ i xs H,Pv i xs H->xs.length<=1000000)
    (hs:∀ i xs H,i < n->Pv i xs H->tc (some (.int (lo+i))::bE fr σ) H fun b H2=>if b=true then te (some (.int (lo+i))::bE fr σ) H2 (fun z H3=>∃ m',m' < n - i/\cW n Pv (i+1) m' (xs++[z]) H3) else ∃ m',m' < n - i/\cW n Pv (i+1) m' xs H2)
    (hd:∀ xs H,Pv n xs H->∀ p,H p=none->Q (.ref p) (Zh H p (.lst xs))) :
    ∃ W:Nat->Nat->List V->Hp->Prop,(∃ m,W 0 m [] H)/\∀ i m xs H,W i m xs H->xs.length<=1000000 /\
      (((Itr lo n).stop i H/\∀ p,H p=none->Q (.ref p) (Zh H p (.lst xs))) \/
       ((Itr lo n).go i H/\∀ y H',(Itr lo n).yld i H y H'->tc (some y::bE fr σ) H' fun b H2=>if b=true then te (some y::bE fr σ) H2 (fun z H3=>∃ m',m' < m/\W (i+1) m' (xs++[z]) H3) else ∃ m',m' < m/\W (i+1) m' xs H2)):=by
  refine⟨cW n Pv,⟨n,by simp,Nat.zero_le _,h0⟩,?_⟩;rintro i m xs H ⟨rfl,hi,p⟩;refine⟨hz i xs H p,?_⟩;by_cases ZK:i < n
  · refine .inr ⟨ZK,fun y H' yy=>?_⟩;obtain⟨e,rfl⟩:=yy;subst e;exact hs i xs _ ZK p
  · have e:i=n:=by omega
    subst e;exact .inl ⟨Nat.le_refl _,hd xs H p⟩
end
section
variable {fr:List Nat} {tc:TT} {te:TE} {σ:St} {H H1:Hp} {Q:VK}
end
theorem Ac{l:List (Str×NameKind)}{y:Str}{k:NameKind}(h:l.lookup y=some k):(y,k)∈l:=PySem.mem_of_lookup h
theorem dW.free{X:Cx}{sc:Scope}{cl:List (Str×Addr)}{x:Str}{fr:List Nat}{N:List Str}(kind:sc.kind=.function)(nc:(sc.names.all fun y=>y.2 !=.cell)=true)
    (nm:(sc.names.all fun y=>!(y.2==.local)||sc.names.lookup y.1==some .local)=true) (tgt:sc.names.lookup x=some .local) (DR:closureFor sc X.env=pure cl)
    (sub:∀ y c,cl.lookup y=some c->X.env.cells.lookup y=some c) (has:((relabel sc X.env).names.all fun y=>(y.2 !=.cell&&y.2 !=.free)||(cl.lookup y.1).isSome)=true)
    (nd:N.Nodup) (N0:N=x::fr.map fun j=>X.N.getD j x) (frc:∀ j∈fr,∃ y,X.N[j]?=some y/\X.env.kindOf y=some .cell/\((relabel sc X.env).names.lookup y=some .cell\/(relabel sc X.env).names.lookup y=some .free)):dW X sc cl x fr N where
  kind:=kind
  Aj:=fun y hy e=>by
    have h:=List.all_eq_true.mp nc y hy;rw[e] at h;exact absurd h (by decide)
  names:=fun y hy e=>by
    have h:=List.all_eq_true.mp nm y hy;rw[e] at h;simpa using h
  DR:=DR
  sub:=sub
  has:=fun y h=>by
    have key:∀ k,(relabel sc X.env).names.lookup y=some k->(k=.cell\/k=.free)->∃ c,cl.lookup y=some c:=fun k e hk=>by
      have h:=List.all_eq_true.mp has (y,k) (Ac e);rcases hk with rfl|rfl
      · exact Option.isSome_iff_exists.mp (by simpa using h)
      · exact Option.isSome_iff_exists.mp (by simpa using h)
    rcases h with h|h
    · exact key _ h (.inl rfl)
    · exact key _ h (.inr rfl)
  tgt:=tgt
  nd:=nd
  N0:=N0
  frc:=frc
section
variable {X:Cx} {sc:Scope} {cl:List (Str×Addr)} {x:Str} {fr:List Nat} {N:List Str} {elt iter:Expr} {px pos:Pos} {ifs:List Expr} {wi:TI} {tc:TT} {te:TE}
theorem kG{i:Nat}{y:Str}{py acJ:Pos}(hc:X.calm=true)(hx:∀ e s,¬ X.xe e s)(S:dW X sc cl x fr N)(hi:PI X (.Name x px) iter wi)
    (hb:∀ C s H ex pn,PTs (dX X sc cl C N s H ex pn) ifs tc/\PE (dX X sc cl C N s H ex pn) elt te)
    (hN:X.N.Nodup) (hy:X.N[i]?=some y) (hl:Loc X.env.scope y) (hsw:swapsWith (.ListComp elt [⟨.Name x px,iter,ifs,0⟩] sc pos) (some (.Name y py)) acJ.line X.env=pure true:=by rfl)
    (hs:∀ v,foldedSetIterable iter X.env v=pure v:=by intro _;rfl) (hf:X.fn y=true\/X.env.scope.names.lookup y=some .local:=by first|exact .inl rfl|exact .inr rfl|assumption) :
    PS X (.Assign [.Name y py] (.ListComp elt [⟨.Name x px,iter,ifs,0⟩] sc pos) acJ) (Pg (kM wi fr tc te) (zQ i)):=by
  intro Zg s σ H D I h;have h:kM wi fr tc te σ H (fun x H1=>zQ i x σ H1 D.nx):=h;unfold kM at h;rw[exec_Assign_Name_used _ _ _ _ hsw];refine wpAny_bind (wpAny_standAt (wpAny_bind ?_));show wpAny _ X.A (do let _ <- comprehension (.ListComp elt [⟨.Name x px,iter,ifs,0⟩] sc pos) sc X.env _ (newList []) false (eval iter X.env) (some (assign (.Name y py) X.env))) _ _ s;refine wpAny_bind (wpAny_mono (wpAny_comprehension_free (use:=some (assign (.Name y py) X.env)) (Q:=fun _ s'=>SP X Zg D .next s') rfl hs S.DR S.kind S.names
    (thn (hi Zg s σ H _ I h) fun v s1 h1=>thn h1 fun itv s2 h2=>?_)) (fun _ s' hq=>wpAny_pure (wpAny_pure hq)) fun _ _ e=>e)
  obtain⟨it,fp,tn,J,H2,e,I2,T,st2,f2,W,⟨m0,w0⟩,turn⟩:=h2;subst e;refine yO (Q:=fun x H1=>zQ i x σ H1 D.nx) (RR:=fun acc C=>compPost (model X.prog X.w) X.A X.xe (some (assign (.Name y py) X.env)) (fun _ s'=>SP X Zg D .next s') acc C) hc hx S hb I2 T st2 f2 w0 turn ?_;intro D' C s' m' H' hn fC abF q;show wpAny _ X.A (assign (.Name y py) X.env (.ref D')) _ _ _;have I':Zi X Zg σ H' s':=abF s'.heap (Heap.SameBut.refl ..);refine wpAny_assign_Name (Co (v:=.ref D') I' hN hy hl rfl (fun s'' I'' ⟨a,hsa,ha⟩=>?_) hf);obtain⟨f0,f1,f2',f3,f4,f5⟩:=fC;have hCa:C≠a:=fun z=>by
    rcases ha with ha|ha
    · exact f1 (z.trans ha)
    · exact f4 y a ha z.symm
  refine⟨m',hn.sameBut hsa hCa,fun h' hs'=>?_⟩;exact⟨σ.set i (some (.ref D')),H',I''.turned (t':=s''.toks) (fun b o hb' e=>(hs'.2 b hb').trans e) f0 f1 f3 f4 f5,q⟩
end
section
variable {prog:Program} {w:World} {A:Around} {E:q0A} {s:Shared}
end
section
variable {σ:St} {H:Hp} {Q:VK} {i j:Int} {x y:Str} {v:V} {n:Nat} {a:Addr}
theorem Qm:eD 0 (some v::σ) H Q=Q v H:=by simp[eD]
theorem gL{o:Option V}:eD (n+1) (o::σ) H Q=eD n σ H Q:=by simp[eD]
theorem XG{o0:Option V}:eD 1 (o0::some v::σ) H Q=Q v H:=(gL.trans Qm)
theorem XH{o0 o1:Option V}:eD 2 (o0::o1::some v::σ) H Q=Q v H:=(gL.trans XG)
theorem XI{o0 o1 o2:Option V}:eD 3 (o0::o1::o2::some v::σ) H Q=Q v H:=(gL.trans XH)
theorem XM{o0 o1 o2 o3:Option V}:eD 4 (o0::o1::o2::o3::some v::σ) H Q=Q v H:=(gL.trans XI)
theorem XN{o0 o1 o2 o3 o4:Option V}:eD 5 (o0::o1::o2::o3::o4::some v::σ) H Q=Q v H:=(gL.trans XM)
theorem XO{o0 o1 o2 o3 o4 o5:Option V}:eD 6 (o0::o1::o2::o3::o4::o5::some v::σ) H Q=Q v H:=(gL.trans XN)
theorem XQ{o0 o1 o2 o3 o4 o5 o6:Option V}:eD 7 (o0::o1::o2::o3::o4::o5::o6::some v::σ) H Q=Q v H:=(gL.trans XO)
theorem XR{o0 o1 o2 o3 o4 o5 o6 o7:Option V}:eD 8 (o0::o1::o2::o3::o4::o5::o6::o7::some v::σ) H Q=Q v H:=(gL.trans XQ)
theorem XS{o0 o1 o2 o3 o4 o5 o6 o7 o8:Option V}:eD 9 (o0::o1::o2::o3::o4::o5::o6::o7::o8::some v::σ) H Q=Q v H:=(gL.trans XR)
theorem Qn{o0 o1 o2 o3 o4 o5 o6 o7 o8 o9:Option V}:eD 10 (o0::o1::o2::o3::o4::o5::o6::o7::o8::o9::some v::σ) H Q=Q v H:=(gL.trans XS)
theorem Qo{o0 o1 o2 o3 o4 o5 o6 o7 o8 o9 ZE:Option V}:eD 11 (o0::o1::o2::o3::o4::o5::o6::o7::o8::o9::ZE::some v::σ) H Q=Q v H:=(gL.trans Qn)
theorem Qp{o0 o1 o2 o3 o4 o5 o6 o7 o8 o9 ZE ZG:Option V}:eD 12 (o0::o1::o2::o3::o4::o5::o6::o7::o8::o9::ZE::ZG::some v::σ) H Q=Q v H:=(gL.trans Qo)
theorem Qq{o0 o1 o2 o3 o4 o5 o6 o7 o8 o9 ZE ZG ZH:Option V}:eD 13 (o0::o1::o2::o3::o4::o5::o6::o7::o8::o9::ZE::ZG::ZH::some v::σ) H Q=Q v H:=(gL.trans Qp)
theorem Qr{o0 o1 o2 o3 o4 o5 o6 o7 o8 o9 ZE ZG ZH ZN:Option V}:eD 14 (o0::o1::o2::o3::o4::o5::o6::o7::o8::o9::ZE::ZG::ZH::ZN::some v::σ) H Q=Q v H:=(gL.trans Qq)
theorem Qs{o0 o1 o2 o3 o4 o5 o6 o7 o8 o9 ZE ZG ZH ZN ZT:Option V}:eD 15 (o0::o1::o2::o3::o4::o5::o6::o7::o8::o9::ZE::ZG::ZH::ZN::ZT::some v::σ) H Q=Q v H:=(gL.trans Qr)
theorem Qt{o0 o1 o2 o3 o4 o5 o6 o7 o8 o9 ZE ZG ZH ZN ZT ZX:Option V}:eD 16 (o0::o1::o2::o3::o4::o5::o6::o7::o8::o9::ZE::ZG::ZH::ZN::ZT::ZX::some v::σ) H Q=Q v H:=(gL.trans Qs)
theorem Qu{o0 o1 o2 o3 o4 o5 o6 o7 o8 o9 ZE ZG ZH ZN ZT ZX ZZ:Option V}:eD 17 (o0::o1::o2::o3::o4::o5::o6::o7::o8::o9::ZE::ZG::ZH::ZN::ZT::ZX::ZZ::some v::σ) H Q=Q v H:=(gL.trans Qt)
theorem Qv{o0 o1 o2 o3 o4 o5 o6 o7 o8 o9 ZE ZG ZH ZN ZT ZX ZZ Z3:Option V}:eD 18 (o0::o1::o2::o3::o4::o5::o6::o7::o8::o9::ZE::ZG::ZH::ZN::ZT::ZX::ZZ::Z3::some v::σ) H Q=Q v H:=(gL.trans Qu)
theorem Qw{o0 o1 o2 o3 o4 o5 o6 o7 o8 o9 ZE ZG ZH ZN ZT ZX ZZ Z3 Z8:Option V}:eD 19 (o0::o1::o2::o3::o4::o5::o6::o7::o8::o9::ZE::ZG::ZH::ZN::ZT::ZX::ZZ::Z3::Z8::some v::σ) H Q=Q v H:=(gL.trans Qv)
theorem Qx{o0 o1 o2 o3 o4 o5 o6 o7 o8 o9 ZE ZG ZH ZN ZT ZX ZZ Z3 Z8 o19:Option V}:eD 20 (o0::o1::o2::o3::o4::o5::o6::o7::o8::o9::ZE::ZG::ZH::ZN::ZT::ZX::ZZ::Z3::Z8::o19::some v::σ) H Q=Q v H:=(gL.trans Qw)
theorem Qy{o0 o1 o2 o3 o4 o5 o6 o7 o8 o9 ZE ZG ZH ZN ZT ZX ZZ Z3 Z8 o19 o20:Option V}:eD 21 (o0::o1::o2::o3::o4::o5::o6::o7::o8::o9::ZE::ZG::ZH::ZN::ZT::ZX::ZZ::Z3::Z8::o19::o20::some v::σ) H Q=Q v H:=(gL.trans Qx)
theorem Qz{o0 o1 o2 o3 o4 o5 o6 o7 o8 o9 ZE ZG ZH ZN ZT ZX ZZ Z3 Z8 o19 o20 o21:Option V}:eD 22 (o0::o1::o2::o3::o4::o5::o6::o7::o8::o9::ZE::ZG::ZH::ZN::ZT::ZX::ZZ::Z3::Z8::o19::o20::o21::some v::σ) H Q=Q v H:=(gL.trans Qy)
theorem QA{o0 o1 o2 o3 o4 o5 o6 o7 o8 o9 ZE ZG ZH ZN ZT ZX ZZ Z3 Z8 o19 o20 o21 o22:Option V}:eD 23 (o0::o1::o2::o3::o4::o5::o6::o7::o8::o9::ZE::ZG::ZH::ZN::ZT::ZX::ZZ::Z3::Z8::o19::o20::o21::o22::some v::σ) H Q=Q v H:=(gL.trans Qz)
theorem QB{o0 o1 o2 o3 o4 o5 o6 o7 o8 o9 ZE ZG ZH ZN ZT ZX ZZ Z3 Z8 o19 o20 o21 o22 o23:Option V}:eD 24 (o0::o1::o2::o3::o4::o5::o6::o7::o8::o9::ZE::ZG::ZH::ZN::ZT::ZX::ZZ::Z3::Z8::o19::o20::o21::o22::o23::some v::σ) H Q=Q v H:=(gL.trans QA)
theorem QC{o0 o1 o2 o3 o4 o5 o6 o7 o8 o9 ZE ZG ZH ZN ZT ZX ZZ Z3 Z8 o19 o20 o21 o22 o23 o24:Option V}:eD 25 (o0::o1::o2::o3::o4::o5::o6::o7::o8::o9::ZE::ZG::ZH::ZN::ZT::ZX::ZZ::Z3::Z8::o19::o20::o21::o22::o23::o24::some v::σ) H Q=Q v H:=(gL.trans QB)
theorem QD{o0 o1 o2 o3 o4 o5 o6 o7 o8 o9 ZE ZG ZH ZN ZT ZX ZZ Z3 Z8 o19 o20 o21 o22 o23 o24 o25:Option V}:eD 26 (o0::o1::o2::o3::o4::o5::o6::o7::o8::o9::ZE::ZG::ZH::ZN::ZT::ZX::ZZ::Z3::Z8::o19::o20::o21::o22::o23::o24::o25::some v::σ) H Q=Q v H:=(gL.trans QC)
theorem QE{o0 o1 o2 o3 o4 o5 o6 o7 o8 o9 ZE ZG ZH ZN ZT ZX ZZ Z3 Z8 o19 o20 o21 o22 o23 o24 o25 o26:Option V}:eD 27 (o0::o1::o2::o3::o4::o5::o6::o7::o8::o9::ZE::ZG::ZH::ZN::ZT::ZX::ZZ::Z3::Z8::o19::o20::o21::o22::o23::o24::o25::o26::some v::σ) H Q=Q v H:=(gL.trans QD)
theorem QF{o0 o1 o2 o3 o4 o5 o6 o7 o8 o9 ZE ZG ZH ZN ZT ZX ZZ Z3 Z8 o19 o20 o21 o22 o23 o24 o25 o26 o27:Option V}:eD 28 (o0::o1::o2::o3::o4::o5::o6::o7::o8::o9::ZE::ZG::ZH::ZN::ZT::ZX::ZZ::Z3::Z8::o19::o20::o21::o22::o23::o24::o25::o26::o27::some v::σ) H Q=Q v H:=(gL.trans QE)
theorem QG{o0 o1 o2 o3 o4 o5 o6 o7 o8 o9 ZE ZG ZH ZN ZT ZX ZZ Z3 Z8 o19 o20 o21 o22 o23 o24 o25 o26 o27 o28:Option V}:eD 29 (o0::o1::o2::o3::o4::o5::o6::o7::o8::o9::ZE::ZG::ZH::ZN::ZT::ZX::ZZ::Z3::Z8::o19::o20::o21::o22::o23::o24::o25::o26::o27::o28::some v::σ) H Q=Q v H:=(gL.trans QF)
theorem XJ{o0 o1 o2 o3 o4 o5 o6 o7 o8 o9 ZE ZG ZH ZN ZT ZX ZZ Z3 Z8 o19 o20 o21 o22 o23 o24 o25 o26 o27 o28 o29:Option V}:eD 30 (o0::o1::o2::o3::o4::o5::o6::o7::o8::o9::ZE::ZG::ZH::ZN::ZT::ZX::ZZ::Z3::Z8::o19::o20::o21::o22::o23::o24::o25::o26::o27::o28::o29::some v::σ) H Q=Q v H:=(gL.trans QG)
theorem LG{α β:Type}{f:α->β}{a:α}{l:List α}:List.map f (a::l)=f a::List.map f l:=rfl
theorem P0{α β:Type}{f:α->β}:List.map f []=[]:=rfl
theorem YW{C:Int->Int->Prop}{g:Int->Int->V}:rI C g (.int i) (.int j) H Q=(C i j/\Q (g i j) H):=by simp[rI]
theorem XF{g:Int->Int->V}:OW g (.int i) (.int j) H Q=Q (g i j) H:=by simp[OW]
theorem YX{g:Int->V}:rU g (.int i) H Q=Q (g i) H:=by simp[rU]
theorem w_lit(h:Nat.ble n 1000=true):(n<=sizeLine)=True:=eq_true (Nat.le_of_lt (small1000 (Nat.le_of_ble_eq_true h)))
theorem XB:EL (.int i) (.int j) H Q=Q (.bl (decide (i=j))) H:=by simp only[EL,show scal (.int i) (.int j)=true from rfl,V.int.injEq,true_and]
theorem XC:EL (.str x) (.str y) H Q=Q (.bl (decide (x=y))) H:=by simp only[EL,show scal (.str x) (.str y)=true from rfl,V.str.injEq,true_and]
theorem XD:Ud (.int i) (.int j) H Q=Q (.bl (!decide (i=j))) H:=by simp only[Ud,show scal (.int i) (.int j)=true from rfl,V.int.injEq,true_and]
theorem XE:Ud (.str x) (.str y) H Q=Q (.bl (!decide (x=y))) H:=by simp only[Ud,show scal (.str x) (.str y)=true from rfl,V.str.injEq,true_and]
end
theorem mV{a b:String}:(Str.ofString a=Str.ofString b)=(a=b):=by
 refine propext ⟨fun h=>?_,fun h=>by rw[h]⟩;rw[Str.ofString_eq_toList,Str.ofString_eq_toList] at h;have e:(a.toList.map Char.toNat)=(b.toList.map Char.toNat):=by
  have:=congrArg (fun z:Str=>z.cps.toList) h;simpa using this
 have inj:∀ x y:Char,x.toNat=y.toNat->x=y:=fun x y q=>Char.ext (UInt32.toNat_inj.mp q);have:=(List.map_inj_right (f:=Char.toNat) (fun x y q=>inj x y q)).mp e;exact String.toList_inj.mp this
noncomputable def Kp(S:List Addr)(H H':Hp):Prop:=∀ b o,H b=some o->b∉S->H' b=some o
section
variable {S T:List Addr} {H H1 H2:Hp} {a p:Addr} {o:HO}
theorem Kp.refl:Kp S H H:=fun _ _ h _=>h
theorem Kp.trans(x:Kp S H H1)(y:Kp S H1 H2):Kp S H H2:=fun b o h n=>y b o (x b o h n) n
theorem Kp.mono(x:Kp S H H1)(h:∀ b∈S,b∈T):Kp T H H1:=fun b o e n=>x b o e fun z=>n (h b z)
theorem Kp.new(h:H p=none):Kp S H (Zh H p o):=fun b u e _=>by rw[aG (aK e h)];exact e
theorem q0D(h:H p=none):Kp [] H (Zh H p o):=Kp.new h
theorem Kp.set(h:p∈S):Kp S H (Zh H p o):=fun b u e n=>by rw[aG (show b≠p from fun z=>n (by rw[z];exact h))];exact e
theorem Kp.at(x:Kp S H H1)(e:H a=some o)(n:a∉S:=by first|exact List.not_mem_nil|simp_all):H1 a=some o:=x a o e n
theorem Kp.same(x:Kp [] H H1):Same H H1:=fun b o e=>x b o e (by simp)
theorem Kp.of(x:Same H H1):Kp S H H1:=fun b o e _=>x b o e
theorem Kp.drop(x:Kp (p::S) H H1)(h:H p=none):Kp S H H1:=fun b o e n=>x b o e (by
 simp only[List.mem_cons,not_or];exact⟨aK e h,n⟩)
end
noncomputable abbrev Tg{α:Type}(_:α):Type:=Unit
noncomputable def dG{α:Type}(o:Option α)(k:α->Prop)(_u:Tg k:=()):Prop:=match o with
 | some x=>k x
 | none=>False
noncomputable def MP(x:V)(k:Bool->Prop)(_u:Tg k:=()):Prop:=match x with
 | .bl b=>k b
 | _=>False
noncomputable def bV(o:Option HO)(k:List V->Prop)(_u:Tg k:=()):Prop:=match o with
 | some (.lst xs)=>k xs
 | _=>False
noncomputable def nA(o:Option HO)(k:List V->Prop)(_u:Tg k:=()):Prop:=match o with
 | some (.lst xs)=>k xs
 | some (.tup xs)=>k xs
 | _=>False
noncomputable def cH(o:Option HO)(k:List (Key×V)->Prop)(_u:Tg k:=()):Prop:=match o with
 | some (.dK xs)=>k xs
 | _=>False
noncomputable def aQ(x:V)(k:Addr->Prop)(_u:Tg k:=()):Prop:=match x with
 | .ref p=>k p
 | _=>False
noncomputable def eO(x:V)(k:Int->Prop)(_u:Tg k:=()):Prop:=match x with
 | .int i=>k i
 | _=>False
theorem dR{α:Type}{o:Option α}{k:α->Prop}(h:dG o k):∃ x,o=some x/\k x:=by
 cases o with
 | none=>exact h.elim
 | some x=>exact⟨x,rfl,h⟩
theorem TC{x:V}{k:Bool->Prop}(h:MP x k):∃ b,x=.bl b/\k b:=by
 cases x with
 | bl b=>exact⟨b,rfl,h⟩
 | _=>exact h.elim
theorem vC{x:V}{k:Bool->Prop}:(∃ b,x=.bl b/\k b)=MP x k:=by
 refine propext ⟨fun⟨b,e,h⟩=>by subst e;exact h,TC⟩
theorem aS{x:V}{k:Addr->Prop}(h:aQ x k):∃ b,x=.ref b/\k b:=by
 cases x with
 | ref b=>exact⟨b,rfl,h⟩
 | _=>exact h.elim
theorem dN{x:V}{k:Int->Prop}(h:eO x k):∃ b,x=.int b/\k b:=by
 cases x with
 | int b=>exact⟨b,rfl,h⟩
 | _=>exact h.elim
theorem fX{o:Option HO}{k:List V->Prop}(h:bV o k):∃ xs,o=some (.lst xs)/\k xs:=by
 unfold bV at h;split at h
 ·exact⟨_,rfl,h⟩
 ·exact h.elim
theorem sW{o:Option HO}{k:List V->Prop}(h:nA o k):∃ xs,(o=some (.lst xs)\/o=some (.tup xs))/\k xs:=by
 unfold nA at h;split at h
 ·exact⟨_,.inl rfl,h⟩
 ·exact⟨_,.inr rfl,h⟩
 ·exact h.elim
theorem dA{o:Option HO}{k:List (Key×V)->Prop}(h:cH o k):∃ xs,o=some (.dK xs)/\k xs:=by
 unfold cH at h;split at h
 ·exact⟨_,rfl,h⟩
 ·exact h.elim
noncomputable def Yd:R2:=fun x y H Q=>match x with
 | .ref p=>nA (H p) fun xs=>eO y fun i=>dG (iM xs i) fun v=>Q v H
 | .str z=>eO y fun i=>z.length<=sizeLine/\dG (iM z.cps.toList i) fun c=>Q (.str ⟨#[c]⟩) H
 | _=>False
noncomputable def M5(H:Hp)(Q:VK)(a:Addr)(oa ob:Option HO):Prop:=match oa,ob with
 | some (.lst xs),some (.lst ys)=>xs.length+ys.length<=sizeLine/\∀ p,H p=none->Q (.ref p) (Zh H p (.lst (xs++ys)))
 | some (.tup xs),some (.tup ys)=>xs≠[]/\xs.length+ys.length<=sizeLine/\(ys≠[]->∀ p,H p=none->Q (.ref p) (Zh H p (.tup (xs++ys))))/\(ys=[]->Q (.ref a) H)
 | _,_=>False
noncomputable def JO:R2:=fun x y H Q=>match x,y with
 | .int i,.int j=>Q (.int (i+j)) H
 | .str a,.str b=>a.length+b.length<=sizeLine/\Q (.str (a++b)) H
 | .ref a,.ref b=>M5 H Q a (H a) (H b)
 | _,_=>False
noncomputable def JP(lo hi:Option Int)(H:Hp)(Q:VK)(o:Option HO):Prop:=match o with
 | some (.lst xs)=>∀ p,H p=none->Q (.ref p) (Zh H p (.lst (gK xs lo hi)))
 | some (.tup xs)=>¬ (HT.fP xs.length 0 lo=0/\HT.fP xs.length xs.length hi=xs.length)/\∀ p,H p=none->Q (.ref p) (Zh H p (.tup (gK xs lo hi)))
 | _=>False
noncomputable def XT:V->Option Int->Option Int->Hp->VK->Prop:=fun x lo hi H Q=>match x with
 | .str z=>z.length<=sizeLine/\Q (.str (Txt.slice z lo hi)) H
 | .ref a=>JP lo hi H Q (H a)
 | _=>False
noncomputable def M9:List V->Hp->VK->Prop:=fun vs H Q=>match vs with
 | [.str z]=>z.length<=sizeLine/\Q (.int z.length) H
 | [.ref p]=>nA (H p) fun xs=>Q (.int xs.length) H
 | _=>False
noncomputable def Vh:V->V->V->Hp->(Hp->Prop)->Prop:=fun o i v H Q=>aQ o fun p=>eO i fun k=>bV (H p) fun xs=>dG (DB xs.length k) fun j=>Q (Zh H p (.lst (xs.set j v)))
noncomputable def kP:V->Option Key
 | .int i=>some (.inl i)
 | .str x=>some (.inr x)
 | .Zj=>some .no
 | _=>none
theorem C6{y:V}{k:Key}(h:kP y=some k):y=kV k:=by
 cases y<;>simp only[kP,Option.some.injEq,reduceCtorEq] at h<;>subst h<;>rfl
noncomputable def PF(td ty:TE):TE:=fun σ H Q=>td σ H fun x H1=>aQ x fun a=>cH (H1 a) fun _=>ty σ H1 fun y H2=>cH (H2 a) fun kvs=>dG (kP y) fun k=>Q ((bT kvs k).getD .Zj) H2
noncomputable def U3(td ty:TE):TE:=fun σ H Q=>td σ H fun x H1=>ty σ H1 fun y H2=>aQ x fun a=>cH (H2 a) fun kvs=>dG (kP y) fun k=>dG (bT kvs k) fun v=>Q v H2
noncomputable def Vg(td ty tv:TE):TS:=fun D σ H=>tv σ H fun v H1=>td σ H1 fun x H2=>ty σ H2 fun y H3=>aQ x fun a=>cH (H3 a) fun kvs=>dG (kP y) fun k=>kvs.length < sizeLine/\D.nx σ (Zh H3 a (.dK (eL kvs k v)))
noncomputable def Yb(neg:Bool):R2:=fun x y H Q=>aQ y fun p=>nA (H p) fun xs=>cS x=true/\xs.all cS=true/\Q (.bl (if neg=true then !wU x xs else wU x xs)) H
noncomputable def U5:List V->Hp->VK->Prop:=fun vs H Q=>match vs with
 | [.int i]=>Q (.int i) H
 | [.bl k]=>Q (.int (if k=true then 1 else 0)) H
 | _=>False
noncomputable def QV:R2:=fun x y H Q=>match y with
 | .Zj=>Q (.bl (decide (x=.Zj))) H
 | _=>False
noncomputable def PM:R2:=fun x y H Q=>match y with
 | .Zj=>Q (.bl (!decide (x=.Zj))) H
 | _=>False
noncomputable def QY:List V->Hp->VK->Prop:=fun vs H Q=>match vs with
 | [.int i,.int j]=>Q (.int (if j > i then j else i)) H
 | _=>False
noncomputable def QZ:List V->Hp->VK->Prop:=fun vs H Q=>match vs with
 | [.int i,.int j]=>Q (.int (if j < i then j else i)) H
 | _=>False
noncomputable def X8:List V->Hp->VK->Prop:=fun vs H Q=>match vs with
 | [.int i]=>Q (.int (if i < 0 then -i else i)) H
 | _=>False
noncomputable def Ef(v:V)(T:String):Option Bool:=match v with
 | .int _=>if T = "int" then some true else if T = "bool"\/T = "str"\/T = "tuple" then some false else none
 | .bl _=>if T = "int"\/T = "bool" then some true else if T = "str"\/T = "tuple" then some false else none
 | .str _=>if T = "str" then some true else if T = "int"\/T = "bool"\/T = "tuple" then some false else none
 | .Zj=>if T = "int"\/T = "bool"\/T = "str"\/T = "tuple" then some false else none
 | _=>none
noncomputable def g8(o:Option HO)(T:String):Option Bool:=match o with
 | some (.lst _)=>if T = "int"\/T = "bool"\/T = "str"\/T = "tuple" then some false else none
 | some (.tup _)=>if T = "tuple" then some true else if T = "int"\/T = "bool"\/T = "str" then some false else none
 | some (.dK _)=>if T = "int"\/T = "bool"\/T = "str" then some false else none
 | _=>none
noncomputable def eY:List V->Hp->VK->Prop:=fun vs H Q=>match vs with
 | [.ref p,.ty T]=>dG (g8 (H p) T) fun b=>Q (.bl b) H
 | [v,.ty T]=>dG (Ef v T) fun b=>Q (.bl b) H
 | _=>False
noncomputable def UR(to te:TE):TE:=fun σ H Q=>to σ H fun x H1=>aQ x fun a=>bV (H1 a) fun _=>te σ H1 fun y H2=>bV (H2 a) fun xs=>xs.length < sizeLine/\Q .Zj (Zh H2 a (.lst (xs++[y])))
noncomputable def Vf(to:TE):TE:=fun σ H Q=>to σ H fun x H1=>aQ x fun a=>bV (H1 a) fun xs=>dG (xs[xs.length - 1]?) fun y=>Q y (Zh H1 a (.lst xs.dropLast))
section
variable {X:Cx}
theorem HX.imp{r r':R2}(h:HX X r)(f:∀ x y H Q,r' x y H Q->r x y H Q):HX X r':=fun value slice Zg s σ H x y v u Q I rx ry q=>h value slice Zg s σ H x y v u Q I rx ry (f _ _ _ _ q)
theorem lH.imp{f:Value->Value->Sem Value}{r r':R2}(h:lH X f r)(g:∀ x y H Q,r' x y H Q->r x y H Q):lH X f r':=fun Zg s σ H x y v u Q I rx ry q=>h Zg s σ H x y v u Q I rx ry (g _ _ _ _ q)
theorem bJ:HX X Yd:=Tf.imp fun x y H Q h=>by
 cases x with
 | ref p =>
  obtain⟨xs,e,h⟩:=sW h;obtain⟨i,rfl,h⟩:=dN h;obtain⟨v,e2,h⟩:=dR h;rcases e with e|e
  ·exact .inl ⟨_,_,_,_,rfl,rfl,.inl (.inl e),e2,h⟩
  ·exact .inr (.inl ⟨_,_,_,_,rfl,rfl,.inl (.inl e),e2,h⟩)
 | str z =>
  obtain⟨i,rfl,h1,h⟩:=dN h;obtain⟨v,e2,h⟩:=dR h;exact .inr (.inr ⟨_,_,_,rfl,rfl,h1,e2,h⟩)
 | _=>exact h.elim
theorem dU:lH X (binaryOp .Add) JO:=(TK.or (Gb.or (TL.or Hx))).imp fun x y H Q h=>by
 unfold JO M5 at h;split at h
 ·exact .inl ⟨_,_,rfl,rfl,h⟩
 ·exact .inr (.inl ⟨_,_,rfl,rfl,h.1,h.2⟩)
 ·split at h
  ·exact .inr (.inr (.inl ⟨_,_,_,_,rfl,rfl,‹_›,‹_›,h.1,h.2⟩))
  ·exact .inr (.inr (.inr ⟨_,_,_,_,rfl,rfl,.inl (.inl ‹_›),.inl (.inl ‹_›),h.1,h.2.1,h.2.2.2,h.2.2.1⟩))
  ·exact h.elim
 ·exact h.elim
theorem Gp:MN X XT:=fun Zg s σ H x v vl vu lo hi sl Q I rx hs pl pu h=>by
 refine(Dv.or (Mm.or Uk)) Zg s σ H x v vl vu lo hi sl Q I rx hs pl pu ?_;unfold XT JP at h;split at h
 ·exact .inr (.inr ⟨_,rfl,h.1,h.2⟩)
 ·split at h
  ·exact .inl ⟨_,_,rfl,.inl (.inl ‹_›),h⟩
  ·exact .inr (.inl ⟨_,_,rfl,.inl (.inl ‹_›),h.1,h.2⟩)
  ·exact h.elim
 ·exact h.elim
theorem pI:eX X (.builtin "len") M9:=fun Zg s σ H xs us Q I r h=>by
 unfold M9 at h;split at h
 ·exact yM Zg s σ H _ us Q I r ⟨_,_,rfl,⟨h.1,rfl⟩,h.2⟩
 ·obtain⟨ys,e,h⟩:=sW h;rcases e with e|e
  ·exact yM Zg s σ H _ us Q I r ⟨_,_,rfl,.inl ⟨_,.inl (.inl e),rfl⟩,h⟩
  ·exact yM Zg s σ H _ us Q I r ⟨_,_,rfl,.inr ⟨_,.inl (.inl e),rfl⟩,h⟩
 ·exact h.elim
theorem Mg:PSet X Vh:=fun Zg s σ H o i v ov iv u Q I ro ri rv h=>by
 obtain⟨p,rfl,h⟩:=aS h;obtain⟨k,rfl,h⟩:=dN h;obtain⟨xs,e,h⟩:=fX h;obtain⟨j,e2,h⟩:=dR h;exact Mi Zg s σ H _ _ v ov iv u Q I ro ri rv ⟨_,_,_,_,rfl,rfl,e,e2,h⟩
theorem Gc:lH X (compareOp .In) (Yb false):=Ja.imp fun x y H Q h=>by
 obtain⟨p,rfl,h⟩:=aS h;obtain⟨xs,e,h1,h2,h⟩:=sW h;exact⟨_,_,rfl,e.imp (fun e=>.inl (.inl e)) (fun e=>.inl (.inl e)),h1,h2,h⟩
theorem Cg:lH X (compareOp .NotIn) (Yb true):=Dh.imp fun x y H Q h=>by
 obtain⟨p,rfl,h⟩:=aS h;obtain⟨xs,e,h1,h2,h⟩:=sW h;exact⟨_,_,rfl,e.imp (fun e=>.inl (.inl e)) (fun e=>.inl (.inl e)),h1,h2,h⟩
theorem qZ:lH X (compareOp .Is) QV:=TQ.imp fun x y H Q h=>by
 cases y with
 | Zj=>exact⟨rfl,h⟩
 | _=>exact h.elim
theorem Cf:lH X (compareOp .IsNot) PM:=OL.imp fun x y H Q h=>by
 cases y with
 | Zj=>exact⟨rfl,h⟩
 | _=>exact h.elim
theorem tY(hc:X.calm=true):eX X (.builtin "max") QY:=fun Zg s σ H xs us Q I r h=>by
 refine Ia hc Zg s σ H xs us Q I r ?_;unfold QY at h;split at h
 ·exact⟨_,_,rfl,h⟩
 ·exact h.elim
theorem BW(hc:X.calm=true):eX X (.builtin "min") QZ:=fun Zg s σ H xs us Q I r h=>by
 refine Ib hc Zg s σ H xs us Q I r ?_;unfold QZ at h;split at h
 ·exact⟨_,_,rfl,h⟩
 ·exact h.elim
variable {o e:Expr} {to te:TE} {apos Zo:Pos}
theorem mJ(ho:PE X o to)(he:PE X e te)(ZV:attributeBase o "append" X.env (eval o X.env)=eval o X.env:=by rfl)
    (abE:((backTo Zo (starEach [e] X.env)).all (fun x=>!x.1)&&(backToKw Zo (keywordEach [] X.env)).all (fun x=>x.1.isSome)
     &&decide ([e].length+([]:List Keyword).length+(if ([]:List Keyword).isEmpty then 0 else 1) < 30))=true:=by rfl)
    (ZW:(apos.endLine==Zo.line)=true:=by rfl) (hs:starEach [e] X.env=(false,eval e X.env)::starEach [] X.env:=by rfl) (aaG:(backTo Zo (starEach [] X.env)).any (·.1)=false:=by rfl) :
    PE X (.Call (.Attribute o "append" apos) [e] [] Zo) (UR to te):=by
  intro Zg s σ H Q I h;refine wpAny_Call_method_late ZV abE ZW rfl (thn (ho Zg s σ H _ I h) fun v s1 ⟨x,H1,I1,r1,q1⟩=>?_);obtain⟨a,rfl,q1⟩:=aS q1;obtain⟨xs,e1,q1⟩:=fX q1;obtain⟨h1,h2⟩:=GH (T:="list") I1 r1 (.inl ⟨rfl,xs,.inl (.inl e1)⟩);refine⟨"list","list.append",PySem.F.plainAttrs_list,PySem.F.slot_list_append,PySem.F.type_list_append,h1,h2,?_⟩;have q2:EX te GC σ H1 (fun vs H2=>vs.length=1/\bV (H2 a) fun xs=>xs.length < sizeLine/\Q .Zj (Zh H2 a (.lst (xs++vs)))):=by
    simpa only[EX,GC,List.length_cons,List.length_nil,Nat.zero_add,true_and] using q1
  have hA:=Hz he aB hs Zo Zg s1 σ H1 _ I1 q2;rw[hs] at hA ⊢;refine Calls.callWith_builtin (by show(false||(backTo Zo (starEach [] X.env)).any (·.1))=false;rw[aaG]<;>rfl) (Calls.evalArgs_plain ?_);refine thn hA fun us s2 ⟨vs,H2,I2,r2,l2,q3⟩=>?_;obtain⟨xs,e3,q4,q5⟩:=fX q3
  match vs,l2,r2,q5 with
  | [y],_,r2,q5=>exact IM Zg s2 σ H2 _ _ v us Q I2 r1 r2 ⟨_,_,_,rfl,rfl,e3,q4,q5⟩
theorem Dj(ho:PE X o to)(ZV:attributeBase o "pop" X.env (eval o X.env)=eval o X.env:=by rfl)(ZW:(apos.endLine==Zo.line)=true:=by rfl):PE X (.Call (.Attribute o "pop" apos) [] [] Zo) (Vf to):=by
 intro Zg s σ H Q I h;refine wpAny_Call_method0_late ZV ZW (thn (ho Zg s σ H _ I h) fun v s1 ⟨x,H1,I1,r1,q1⟩=>?_);obtain⟨a,rfl,q1⟩:=aS q1;obtain⟨xs,e1,q1⟩:=fX q1;obtain⟨y,e2,q1⟩:=dR q1;obtain⟨h1,h2⟩:=GH (T:="list") I1 r1 (.inl ⟨rfl,xs,.inl (.inl e1)⟩);exact⟨"list","list.pop",PySem.F.plainAttrs_list,PySem.F.slot_list_pop,PySem.F.type_list_pop,h1,h2,Calls.callWith_builtin rfl (PySem.evalArgs_none (Tv Zg s1 σ H1 _ [] v [] Q I1 r1 .nil ⟨_,_,_,rfl,rfl,e1,e2,q1⟩))⟩
end
section
variable {X:Cx} {o i e value:Expr} {pos pos' apos Zo:Pos} {td ty tv:TE}
theorem HB(hu:X.A.units+1 < cLine)(ho:PE X o td)(he:PE X e ty)(m:M1 X o "get" apos e Zo):PE X (.Call (.Attribute o "get" apos) [e] [] Zo) (PF td ty):=by
 intro Zg s σ H Q I h;refine wpAny_Call_method m.base m.few m.line PySem.F.plainAttrs_dict PySem.F.slot_dict_get PySem.F.type_dict_get (thn (ho Zg s σ H _ I h) fun u s1 ⟨x,H1,I1,rx,q1⟩=>?_);obtain⟨a,rfl,q1⟩:=aS q1;obtain⟨kvs,e1,q1⟩:=dA q1;obtain rfl:u=Value.ref a:=rx;obtain⟨t1,t2,_⟩:=uG I1 (.inl ⟨_,.inl e1⟩);refine⟨t1,t2,?_⟩;rw[m.trees];refine Calls.callWith_builtin rfl (Calls.evalArgs_plain (Calls.spliced_cons (thn (he Zg s1 σ H1 _ I1 q1) fun iv s2 ⟨y,H2,I2,ry,q2⟩=>Calls.spliced_nil ?_)));obtain⟨kvs,e1,q2⟩:=dA q2;obtain⟨k,e2,q2⟩:=dR q2;have g:Zy H2 a y (bT kvs k):=by rw[C6 e2];exact Zy.k e1
 exact Q6 hu I2 g ry fun w' s3 I3 rw'=>⟨_,H2,I3,rw',q2⟩
theorem sY(hu:X.A.units+1 < cLine)(ho:PE X o td)(hi:PE X i ty)(hs:QJ i):PE X (.Subscript o i pos) (U3 td ty):=by
 intro Zg s σ H Q I h;refine HM PySem.F.slot_dict_getitem.lookup hs (thn (ho Zg s σ H _ I h) fun u s1 ⟨x,H1,I1,rx,q1⟩=>thn (hi Zg s1 σ H1 _ I1 q1) fun iv s2 ⟨y,H2,I2,ry,q2⟩=>?_);obtain⟨a,rfl,q2⟩:=aS q2;obtain⟨kvs,e1,q2⟩:=dA q2;obtain⟨k,e2,q2⟩:=dR q2;obtain⟨v,e3,q2⟩:=dR q2;obtain rfl:u=Value.ref a:=rx;have g:Zy H2 a y (some v):=by rw[C6 e2,<- e3];exact Zy.k e1
 exact⟨DW I2 g,Ig hu I2 g ry fun w' s3 I3 rw'=>⟨v,H2,I3,rw',q2⟩⟩
theorem mL(hu:X.A.units+1 < cLine)(ho:PE X o td)(hi:PE X i ty)(hv:PE X value tv)(hs:swapsWith value (some (.Subscript o i pos')) pos.line X.env=pure false:=by rfl) :
    PS X (.Assign [.Subscript o i pos'] value pos) (Vg td ty tv):=by
  intro Zg s σ H D I h;refine wpAny_Assign_Subscript (thn (hv Zg s σ H _ I h) fun r s1 ⟨v,H1,I1,rv,q1⟩=>thn (ho Zg s1 σ H1 _ I1 q1) fun u s2 ⟨x,H2,I2,rx,q2⟩=>thn (hi Zg s2 σ H2 _ I2 q2) fun iv s3 ⟨y,H3,I3,ry,q3⟩=>?_) hs;obtain⟨a,rfl,q3⟩:=aS q3;obtain⟨kvs,e1,q3⟩:=dA q3;obtain⟨k,e2,q3⟩:=dR q3;obtain rfl:u=Value.ref a:=rx;have g:aaC H3 a y v (Zh H3 a (.dK (eL kvs k v))):=by rw[C6 e2];exact aaC.k e1 q3.1
  exact Ih hu I3 g ry rv fun s4 I4=>⟨σ,_,I4,q3.2⟩
noncomputable def UU:List V->Hp->VK->Prop:=fun vs H Q=>match vs with
 | [.ref a]=>cH (H a) fun kvs=>∀ p,H p=none->Q (.ref p) (Zh H p (.dK kvs))
 | _=>False
end
noncomputable def Itv(K:q0B)(a:Addr)(n:Nat):It :=
 ⟨fun i H=>i < n/\∃ xs,dQ K H a xs/\xs.length=n,fun i H x H'=>H'=H/\∀ xs,dQ K H a xs->xs[n - 1 - i]?=some x,fun i H=>i=n/\∃ xs,dQ K H a xs/\xs.length=n⟩
noncomputable def WI(K:q0B)(ta:TA):TI:=fun σ H R=>ta σ H fun vs H1=>∃ a xs,vs=[.ref a]/\dQ K H1 a xs/\R (Itv K a xs.length) H1
section
variable {σ:St} {H:Hp} {Q:VK} {D:Ends} {t u:TS} {te ta tb tc to ti:TE} {tl th:TO} {g:TG} {gs:TGs} {tt tt':TT} {as:TA} {i j:Int} {n:Nat} {x y:Str} {v w:V} {vs:List V} {b:Bool} {p a:Addr} {r r':R2} {B:Bool->Hp->Prop} {K:q0B}
theorem Wt:Pj t u D σ H=t {D with nx:=u D} σ H:=rfl
theorem Vt:Pg te g D σ H=te σ H fun x H1=>g x σ H1 D.nx:=rfl
theorem Sv{N:St->Hp->Prop}:zQ n v σ H N=N (σ.set n (some v)) H:=rfl
theorem Wr:UC te D σ H=te σ H D.rt:=rfl
theorem SH:Xw D σ H=D.rt .Zj H:=rfl
theorem VR:MD tt t u D σ H=tt σ H fun b H1=>if b=true then t D σ H1 else u D σ H1:=rfl
theorem SQ:EZ te σ H B=te σ H fun x H'=>MP x fun k=>B k H':=by simp only[EZ,vC]
theorem Yy:tB te σ H B=te σ H fun x H'=>MP x fun k=>B k H':=by simp only[tB,vC]
theorem Yp:Y1 tt ta tb σ H Q=tt σ H fun c H1=>if c=true then ta σ H1 Q else tb σ H1 Q:=rfl
theorem Yv:UK r ta tb σ H Q=ta σ H fun x H1=>tb σ H1 fun y H2=>r x y H2 Q:=rfl
theorem Yz{q:V->Hp->VK->Prop}:Y5 q ta σ H Q=ta σ H fun x H1=>q x H1 Q:=rfl
theorem Y7:tC v σ H Q=Q v H:=rfl
theorem Rq{A:List V->Hp->Prop}:EX te as σ H A=te σ H fun x H1=>as σ H1 fun xs H2=>A (x::xs) H2:=rfl
theorem Wb{A:List V->Hp->Prop}:GC σ H A=A [] H:=rfl
theorem Rm{sp:Sp}{E:XK}:Mx sp [] E as σ H Q=as σ H fun vs H1=>sp vs H1 Q E:=by simp only[Mx,List.append_nil]
theorem Yo{q:List V->Hp->VK->Prop}:YR q as σ H Q=as σ H fun vs H1=>q vs H1 Q:=rfl
theorem V4:Xu as σ H Q=as σ H fun xs H1=>xs.length<=sizeLine/\∀ p,H1 p=none->Q (.ref p) (Zh H1 p (.lst xs)):=rfl
theorem Wy:Xx as σ H Q=as σ H fun xs H1=>xs.length<=sizeLine/\∀ p,H1 p=none->Q (.ref p) (Zh H1 p (.tup xs)):=rfl
theorem Rz:MA σ H Q = ∀ p,H p=none->Q (.ref p) (Zh H p (.dK [])):=rfl
theorem RB:MC te D σ H=te σ H fun _ H1=>D.nx σ H1:=rfl
theorem SA:ME D σ H=D.nx σ H:=rfl
theorem Nf:Uy D σ H=D.bk σ H:=rfl
theorem Rr:Xr D σ H=D.ct σ H:=rfl
theorem Rg:Mw ta tb σ H Q=ta σ H fun x H1=>MP x fun c=>if c=true then tb σ H1 Q else Q (.bl false) H1:=by simp only[Mw,vC]
theorem Wl:UB ta tb σ H Q=ta σ H fun x H1=>MP x fun c=>if c=true then Q (.bl true) H1 else tb σ H1 Q:=by simp only[UB,vC]
theorem SD:MF ta σ H Q=ta σ H fun x H1=>MP x fun c=>Q (.bl (!c)) H1:=by simp only[MF,vC]
theorem Vr:Xo tt tt' σ H B=tt σ H fun c H1=>if c=true then tt' σ H1 B else B false H1:=rfl
theorem Yw:Y3 tt tt' σ H B=tt σ H fun c H1=>if c=true then B true H1 else tt' σ H1 B:=rfl
theorem Wc:Xv tt σ H B=tt σ H fun c H1=>B (!c) H1:=rfl
theorem Ng:My r r' ta tb tc σ H Q=ta σ H fun x H1=>tb σ H1 fun y H2=>r x y H2 fun z H3=>MP z fun k=>if k=true then tc σ H3 fun w' H4=>r' y w' H4 Q else Q (.bl false) H3:=by simp only[My,vC]
theorem Yx{q:V->Option Int->Option Int->Hp->VK->Prop}:Y4 q te tl th σ H Q=te σ H fun x H1=>tl σ H1 fun l H2=>th σ H2 fun u H3=>q x l u H3 Q:=rfl
theorem LV{k:Int->Prop}:(∃ i,v=.int i/\k i)=eO v k:=propext ⟨fun⟨i,e,h⟩=>by subst e;exact h,dN⟩
theorem SE{O:Option Int->Hp->Prop}:MG te σ H O=te σ H fun x H1=>eO x fun i=>O (some i) H1:=by simp only[MG,LV]
theorem KL{O:Option Int->Hp->Prop}:HQ σ H O=O none H:=rfl
theorem RT{s:TSet}{N:St->Hp->Prop}:WE to ti s v σ H N=to σ H fun o H1=>ti σ H1 fun i H2=>s o i v H2 fun H3=>N σ H3:=rfl
theorem RS{N:St->Hp->Prop}:S8 [] σ H N=N σ H:=by simp[S8]
theorem NF{N:St->Hp->Prop}:PU g gs (v::vs) σ H N=g v σ H fun σ' H'=>gs vs σ' H' N:=propext ⟨fun⟨_,_,e,h⟩=>by cases e;exact h,fun h=>⟨_,_,rfl,h⟩⟩
theorem RP:PF ta tb σ H Q=ta σ H fun x H1=>aQ x fun a=>cH (H1 a) fun _=>tb σ H1 fun y H2=>cH (H2 a) fun kvs=>dG (kP y) fun k=>Q ((bT kvs k).getD .Zj) H2:=rfl
theorem VP:U3 ta tb σ H Q=ta σ H fun x H1=>tb σ H1 fun y H2=>aQ x fun a=>cH (H2 a) fun kvs=>dG (kP y) fun k=>dG (bT kvs k) fun v=>Q v H2:=rfl
theorem Wn:Vg ta tb tc D σ H=tc σ H fun v H1=>ta σ H1 fun x H2=>tb σ H2 fun y H3=>aQ x fun a=>cH (H3 a) fun kvs=>dG (kP y) fun k=>kvs.length < sizeLine/\D.nx σ (Zh H3 a (.dK (eL kvs k v))):=rfl
theorem Vs:UR to te σ H Q=to σ H fun x H1=>aQ x fun a=>bV (H1 a) fun _=>te σ H1 fun y H2=>bV (H2 a) fun xs=>xs.length < sizeLine/\Q .Zj (Zh H2 a (.lst (xs++[y]))):=rfl
theorem Wm:Vf to σ H Q=to σ H fun x H1=>aQ x fun a=>bV (H1 a) fun xs=>dG (xs[xs.length - 1]?) fun y=>Q y (Zh H1 a (.lst xs.dropLast)):=rfl
theorem Wi{α:Type}{z:α}{k:α->Prop}{u:Tg k}:@dG _ (some z) k u=k z:=rfl
theorem Wh{k:Bool->Prop}{u:Tg k}:@MP (.bl b) k u=k b:=rfl
theorem NQ{k:Addr->Prop}{u:Tg k}:@aQ (.ref p) k u=k p:=rfl
theorem NO{k:Int->Prop}{u:Tg k}:@eO (.int i) k u=k i:=rfl
theorem NP{k:List V->Prop}{u:Tg k}:@bV (some (.lst vs)) k u=k vs:=rfl
theorem KN{k:List V->Prop}{u:Tg k}:@nA (some (.lst vs)) k u=k vs:=rfl
theorem KO{k:List V->Prop}{u:Tg k}:@nA (some (.tup vs)) k u=k vs:=rfl
theorem NN{kvs:List (Key×V)}{k:List (Key×V)->Prop}{u:Tg k}:@cH (some (.dK kvs)) k u=k kvs:=rfl
theorem VU:Yd (.ref p) w H Q=nA (H p) fun xs=>eO w fun i=>dG (iM xs i) fun v=>Q v H:=rfl
theorem VW:Yd (.str x) w H Q=eO w fun i=>x.length<=sizeLine/\dG (iM x.cps.toList i) fun c=>Q (.str ⟨#[c]⟩) H:=rfl
theorem Q9:JO (.int i) (.int j) H Q=Q (.int (i+j)) H:=rfl
theorem Rc:JO (.str x) (.str y) H Q=(x.length+y.length<=sizeLine/\Q (.str (x++y)) H):=rfl
theorem Rb:JO (.ref a) (.ref p) H Q=M5 H Q a (H a) (H p):=rfl
theorem Ro{us:List V}:M5 H Q a (some (.lst vs)) (some (.lst us))=(vs.length+us.length<=sizeLine/\∀ p,H p=none->Q (.ref p) (Zh H p (.lst (vs++us)))):=rfl
theorem Ww{lo hi:Option Int}:XT (.str x) lo hi H Q=(x.length<=sizeLine/\Q (.str (Txt.slice x lo hi)) H):=rfl
theorem Wv{lo hi:Option Int}:XT (.ref a) lo hi H Q=JP lo hi H Q (H a):=rfl
theorem Rt{lo hi:Option Int}:JP lo hi H Q (some (.lst vs)) = ∀ p,H p=none->Q (.ref p) (Zh H p (.lst (gK vs lo hi))):=rfl
theorem Sq:M9 [.str x] H Q=(x.length<=sizeLine/\Q (.int x.length) H):=rfl
theorem So:M9 [.ref p] H Q=nA (H p) fun xs=>Q (.int xs.length) H:=rfl
theorem Wu{N:Hp->Prop}:Vh (.ref p) (.int i) v H N=bV (H p) fun xs=>dG (DB xs.length i) fun j=>N (Zh H p (.lst (xs.set j v))):=rfl
theorem Yq{neg:Bool}:Yb neg v (.ref p) H Q=nA (H p) fun xs=>cS v=true/\xs.all cS=true/\Q (.bl (if neg=true then !wU v xs else wU v xs)) H:=rfl
theorem Rw:UU [.ref a] H Q=cH (H a) fun kvs=>∀ p,H p=none->Q (.ref p) (Zh H p (.dK kvs)):=rfl
theorem Sk:kP (.int i)=some (.inl i):=rfl
theorem Sm:kP (.str x)=some (.inr x):=rfl
theorem Sl:kP .Zj=some .no:=rfl
theorem lK{α:Type}{xs:List α}{k:Nat}:iM xs (OfNat.ofNat k)=xs[k]?:=by
 show iM xs ((k:Nat):Int)=xs[k]?;cases e:xs[k]? with
 | some z=>exact pF e
 | none =>
  have:=List.getElem?_eq_none_iff.mp e;unfold iM DB;rw[if_pos (by omega),if_neg (by omega)];rfl
theorem Vu{α:Type}{xs:List α}:iM xs 0=xs[0]?:=lK (k:=0)
theorem Vv{α:Type}{xs:List α}:iM xs 1=xs[1]?:=lK (k:=1)
theorem Vw{α:Type}{xs:List α}:iM xs 2=xs[2]?:=lK (k:=2)
theorem Vx{α:Type}{xs:List α}:iM xs 3=xs[3]?:=lK (k:=3)
theorem Vy{α:Type}{xs:List α}:iM xs 4=xs[4]?:=lK (k:=4)
theorem Vz{α:Type}{xs:List α}:iM xs 5=xs[5]?:=lK (k:=5)
theorem VA{α:Type}{xs:List α}:iM xs 6=xs[6]?:=lK (k:=6)
theorem VB{α:Type}{xs:List α}:iM xs 7=xs[7]?:=lK (k:=7)
theorem VC{α:Type}{xs:List α}:iM xs 8=xs[8]?:=lK (k:=8)
theorem VD{α:Type}{xs:List α}:iM xs 9=xs[9]?:=lK (k:=9)
theorem Rh{α:Type}{xs:List α}:iM xs 10=xs[10]?:=lK (k:=10)
theorem Ri{α:Type}{xs:List α}:iM xs 11=xs[11]?:=lK (k:=11)
theorem Rj{α:Type}{xs:List α}:iM xs 12=xs[12]?:=lK (k:=12)
theorem Nh:CMul 1 j=True:=eq_true (.inl ⟨by decide,by decide⟩)
theorem Ni:CMul 2 j=True:=eq_true (.inl ⟨by decide,by decide⟩)
theorem Nj:CMul 3 j=True:=eq_true (.inl ⟨by decide,by decide⟩)
theorem Kh:CMul 10 j=True:=eq_true (.inl ⟨by decide,by decide⟩)
theorem Nr:CPow 10 6=True:=eq_true ⟨by decide,by decide,by decide⟩
theorem Nt:CPow 10 9=True:=eq_true ⟨by decide,by decide,by decide⟩
theorem Kl:CPow 10 12=True:=eq_true ⟨by decide,by decide,by decide⟩
theorem Km:CPow 10 18=True:=eq_true ⟨by decide,by decide,by decide⟩
theorem Kn:CPow 10 30=True:=eq_true ⟨by decide,by decide,by decide⟩
theorem Ko:CPow 10 40=True:=eq_true ⟨by decide,by decide,by decide⟩
theorem Kq:CPow 10 45=True:=eq_true ⟨by decide,by decide,by decide⟩
theorem Sh{m:Nat}:DB (m+1) 0=some 0:=by simp[DB]<;>omega
theorem Si{m:Nat}:DB (m+2) 1=some 1:=by simp[DB]<;>omega
theorem RY:U5 [.int i] H Q=Q (.int i) H:=rfl
theorem RX:U5 [.bl b] H Q=Q (.int (if b=true then 1 else 0)) H:=rfl
theorem Yr:QV v .Zj H Q=Q (.bl (decide (v=.Zj))) H:=by cases v<;>rfl
theorem NG:PM v .Zj H Q=Q (.bl (!decide (v=.Zj))) H:=by cases v<;>rfl
theorem V5:QY [.int i,.int j] H Q=Q (.int (if j > i then j else i)) H:=rfl
theorem V6:QZ [.int i,.int j] H Q=Q (.int (if j < i then j else i)) H:=rfl
theorem Vp:X8 [.int i] H Q=Q (.int (if i < 0 then -i else i)) H:=rfl
theorem Br:eY [(.int i),.ty "int"] H Q=Q (.bl true) H:=by simp[eY,Ef,dG]
theorem CU:eY [(.bl b),.ty "int"] H Q=Q (.bl true) H:=by simp[eY,Ef,dG]
theorem Bu:eY [(.str x),.ty "int"] H Q=Q (.bl false) H:=by simp[eY,Ef,dG]
theorem Bs:eY [.Zj,.ty "int"] H Q=Q (.bl false) H:=by simp[eY,Ef,dG]
theorem Bt:eY [.ref p,.ty "int"] H Q=dG (g8 (H p) "int") fun b=>Q (.bl b) H:=rfl
theorem y9:eY [(.int i),.ty "bool"] H Q=Q (.bl false) H:=by simp[eY,Ef,dG]
theorem Bq:eY [(.bl b),.ty "bool"] H Q=Q (.bl true) H:=by simp[eY,Ef,dG]
theorem zC:eY [(.str x),.ty "bool"] H Q=Q (.bl false) H:=by simp[eY,Ef,dG]
theorem zA:eY [.Zj,.ty "bool"] H Q=Q (.bl false) H:=by simp[eY,Ef,dG]
theorem zB:eY [.ref p,.ty "bool"] H Q=dG (g8 (H p) "bool") fun b=>Q (.bl b) H:=rfl
theorem Bv:eY [(.int i),.ty "str"] H Q=Q (.bl false) H:=by simp[eY,Ef,dG]
theorem CV:eY [(.bl b),.ty "str"] H Q=Q (.bl false) H:=by simp[eY,Ef,dG]
theorem By:eY [(.str x),.ty "str"] H Q=Q (.bl true) H:=by simp[eY,Ef,dG]
theorem Bw:eY [.Zj,.ty "str"] H Q=Q (.bl false) H:=by simp[eY,Ef,dG]
theorem Bx:eY [.ref p,.ty "str"] H Q=dG (g8 (H p) "str") fun b=>Q (.bl b) H:=rfl
theorem wL:eY [(.int i),.ty "tuple"] H Q=Q (.bl false) H:=by simp[eY,Ef,dG]
theorem zD:eY [(.bl b),.ty "tuple"] H Q=Q (.bl false) H:=by simp[eY,Ef,dG]
theorem wO:eY [(.str x),.ty "tuple"] H Q=Q (.bl false) H:=by simp[eY,Ef,dG]
theorem wM:eY [.Zj,.ty "tuple"] H Q=Q (.bl false) H:=by simp[eY,Ef,dG]
theorem wN:eY [.ref p,.ty "tuple"] H Q=dG (g8 (H p) "tuple") fun b=>Q (.bl b) H:=rfl
theorem Ky:g8 (some (.lst vs)) "int"=some false:=by simp[g8]
theorem KE:g8 (some (.tup vs)) "int"=some false:=by simp[g8]
theorem Ij:g8 (some (.lst vs)) "bool"=some false:=by simp[g8]
theorem Ik:g8 (some (.tup vs)) "bool"=some false:=by simp[g8]
theorem Kz:g8 (some (.lst vs)) "str"=some false:=by simp[g8]
theorem KH:g8 (some (.tup vs)) "str"=some false:=by simp[g8]
theorem Fn:g8 (some (.lst vs)) "tuple"=some false:=by simp[g8]
theorem Fo:g8 (some (.tup vs)) "tuple"=some true:=by simp[g8]
theorem Kv{kvs:List (Key×V)}:g8 (some (.dK kvs)) "int"=some false:=by simp[g8]
theorem Ii{kvs:List (Key×V)}:g8 (some (.dK kvs)) "bool"=some false:=by simp[g8]
theorem Kx{kvs:List (Key×V)}:g8 (some (.dK kvs)) "str"=some false:=by simp[g8]
theorem VF{c:Prop}[Decidable c]{P R:Prop}:(if (decide c)=true then P else R)=if c then P else R:=by
 by_cases h:c<;>simp[h]
theorem VG{c:Prop}[Decidable c]{P R:Prop}:(if (!decide c)=true then P else R)=if c then R else P:=by
 by_cases h:c<;>simp[h]
theorem Sf{P R:Prop}:(if true=true then P else R)=P:=by simp
theorem Se{P R:Prop}:(if false=true then P else R)=R:=by simp
end
theorem YC{a b:Prop}[Decidable a][Decidable b]{P R:Prop}:(if a then P else if b then P else R)=if a\/b then P else R:=by
 by_cases ha:a<;>by_cases hb:b<;>simp[ha,hb]
theorem Kp.at1{r a:Addr}{H H':Hp}{o:HO}(x:Kp [r] H H')(e:H a=some o)(n:a≠r):H' a=some o:=x a o e (by simpa using n)
theorem rA{xs:List V}{i:Int}{k:V->Prop}(h0:0<=i)(h1:i < (xs.length:Int))(q:∀ v∈xs,k v):dG (iM xs i) k:=by
 have hk:i.toNat < xs.length:=by omega
 have ek:i=((i.toNat:Nat):Int):=by omega
 have e:iM xs ((i.toNat:Nat):Int)=some xs[i.toNat]:=pF (List.getElem?_eq_getElem hk);rw[<- ek] at e;rw[e];exact q _ (List.getElem_mem hk)
theorem xR{x:Str}{i:Int}{k:Nat->Prop}(h0:0<=i)(h1:i < (x.length:Int))(q:∀ c∈x.cps.toList,k c):dG (iM x.cps.toList i) k:=by
 have hl:x.cps.toList.length=x.length:=by simp[Str.length]
 have hk:i.toNat < x.cps.toList.length:=by omega
 have ek:i=((i.toNat:Nat):Int):=by omega
 have e:iM x.cps.toList ((i.toNat:Nat):Int)=some x.cps.toList[i.toNat]:=pF (List.getElem?_eq_getElem hk);rw[<- ek] at e;rw[e];exact q _ (List.getElem_mem hk)
noncomputable def on1(vs:List V)(k:V->Prop)(_u:Tg k:=()):Prop:=match vs with
 | [v]=>k v
 | _=>False
noncomputable def lp(J:It)(g:TG)(tb:TS)(D:Ends)(σ:St)(H:Hp):Prop:=∃ W:Nat->Nat->St->Hp->Prop,(∃ m,W 0 m σ H)/\∀ i m σ H,W i m σ H ->
 (J.stop i H/\D.nx σ H)\/(J.go i H/\∃ N:St->Hp->Prop,(∀ σ' H',N σ' H'->∃ m',m' < m/\W (i+1) m' σ' H')/\∀ x H',J.yld i H x H'->g x σ H' fun σ2 H2=>tb {D with nx:=N,ct:=N,bk:=D.nx} σ2 H2)
section
variable {σ:St} {H:Hp} {D:Ends} {g:TG} {tb:TS} {as:TA} {te:TE} {K:q0B} {v w:V}
theorem TB{vs:List V}{k:V->Prop}:(∃ z,vs=[z]/\k z)=on1 vs k:=by
 refine propext ⟨fun⟨z,e,h⟩=>by subst e;exact h,fun h=>?_⟩;unfold on1 at h;split at h
 ·exact⟨_,rfl,h⟩
 ·exact h.elim
theorem Wf{k:V->Prop}{u:Tg k}:@on1 [v] k u=k v:=rfl
theorem Nz:rL (Ea as) g tb D σ H=as σ H fun vs H1=>on1 vs fun v=>eO v fun j=>(-(2 ^ 62)<=j/\j < 2 ^ 62)/\lp (Itr 0 j.toNat) g tb D σ H1:=by
 unfold rL Ea
 congr 1
 funext vs H1;refine propext ⟨fun⟨j,e,h1,h2,h⟩=>by subst e;exact⟨⟨h1,h2⟩,h⟩,fun h=>?_⟩;unfold on1 at h;split at h
 ·obtain⟨j,rfl,⟨h1,h2⟩,h⟩:=dN h;exact⟨j,rfl,h1,h2,h⟩
 ·exact h.elim
noncomputable def on2(vs:List V)(k:V->V->Prop)(_u:Tg k:=()):Prop:=match vs with
 | [v,w]=>k v w
 | _=>False
theorem Wg{k:V->V->Prop}{u:Tg k}:@on2 [v,w] k u=k v w:=rfl
theorem NB:rL (PX as) g tb D σ H=as σ H fun vs H1=>on2 vs fun v w=>eO v fun i=>eO w fun j=>(-(2 ^ 62)<=i/\i < 2 ^ 62/\-(2 ^ 62)<=j/\j < 2 ^ 62)/\lp (Itr i (j - i).toNat) g tb D σ H1:=by
 unfold rL PX
 congr 1
 funext vs H1;refine propext ⟨fun⟨i,j,e,h1,h⟩=>by subst e;exact⟨h1,h⟩,fun h=>?_⟩;unfold on2 at h;split at h
 ·obtain⟨i,rfl,h'⟩:=dN h;obtain⟨j,rfl,h1,h''⟩:=dN h';exact⟨i,j,rfl,h1,h''⟩
 ·exact h.elim
theorem RL:rL (D9 K te) g tb D σ H=te σ H fun x H1=>aQ x fun a=>(∃ xs,dQ K H1 a xs)/\lp (Itl K a) g tb D σ H1:=by
 unfold rL D9
 congr 1
 funext x H1;exact propext ⟨fun⟨a,e,h1,h⟩=>by subst e;exact⟨h1,h⟩,fun h=>by obtain⟨a,rfl,h1,h⟩:=aS h;exact⟨a,rfl,h1,h⟩⟩
theorem RM:rL (FE K te) g tb D σ H=te σ H fun x H1=>aQ x fun a=>(∃ xs,fO K H1 a xs)/\lp (Itt K a) g tb D σ H1:=by
 unfold rL FE
 congr 1
 funext x H1;exact propext ⟨fun⟨a,e,h1,h⟩=>by subst e;exact⟨h1,h⟩,fun h=>by obtain⟨a,rfl,h1,h⟩:=aS h;exact⟨a,rfl,h1,h⟩⟩
theorem RN:rL (WI K as) g tb D σ H=as σ H fun vs H1=>on1 vs fun x=>aQ x fun a=>∃ xs,dQ K H1 a xs/\lp (Itv K a xs.length) g tb D σ H1:=by
 unfold rL WI
 congr 1
 funext vs H1;refine propext ⟨fun⟨a,xs,e,h1,h⟩=>by subst e;exact⟨xs,h1,h⟩,fun h=>?_⟩;unfold on1 at h;split at h
 ·obtain⟨a,rfl,xs,h1,h⟩:=aS h;exact⟨a,xs,rfl,h1,h⟩
 ·exact h.elim
end
noncomputable def lc(J:It)(fr:List Nat)(tc:TT)(te:TE)(σ:St)(H:Hp)(Q:VK):Prop:=∃ W:Nat->Nat->List V->Hp->Prop,(∃ m,W 0 m [] H)/\∀ i m xs H,W i m xs H->xs.length<=1000000 /\
  ((J.stop i H/\∀ p,H p=none->Q (.ref p) (Zh H p (.lst xs))) \/
   (J.go i H/\∀ y H',J.yld i H y H'->tc (some y::bE fr σ) H' fun b H2=>if b=true then te (some y::bE fr σ) H2 (fun z H3=>∃ m',m' < m/\W (i+1) m' (xs++[z]) H3) else ∃ m',m' < m/\W (i+1) m' xs H2))
section
variable {fr:List Nat} {tc:TT} {te tl:TE} {σ:St} {H H1:Hp} {Q:VK} {as:TA} {K:q0B}
theorem Nm:kM (Ea as) fr tc te σ H Q=as σ H fun vs H1=>on1 vs fun v=>eO v fun j=>(-(2 ^ 62)<=j/\j < 2 ^ 62)/\lc (Itr 0 j.toNat) fr tc te σ H1 Q:=by
 unfold kM Ea
 congr 1
 funext vs H1;refine propext ⟨fun⟨j,e,h1,h2,h⟩=>by subst e;exact⟨⟨h1,h2⟩,h⟩,fun h=>?_⟩;unfold on1 at h;split at h
 ·obtain⟨j,rfl,⟨h1,h2⟩,h⟩:=dN h;exact⟨j,rfl,h1,h2,h⟩
 ·exact h.elim
theorem Nl:kM (D9 K tl) fr tc te σ H Q=tl σ H fun x H1=>aQ x fun a=>(∃ xs,dQ K H1 a xs)/\lc (Itl K a) fr tc te σ H1 Q:=by
 unfold kM D9
 congr 1
 funext x H1;exact propext ⟨fun⟨a,e,h1,h⟩=>by subst e;exact⟨h1,h⟩,fun h=>by obtain⟨a,rfl,h1,h⟩:=aS h;exact⟨a,rfl,h1,h⟩⟩
noncomputable def eP(x:V)(k:Str->Prop)(_u:Tg k:=()):Prop:=match x with
 | .str p=>k p
 | _=>False
theorem NS{x:Str}{k:Str->Prop}{u:Tg k}:@eP (.str x) k u=k x:=rfl
theorem Nn:kM (WK tl) fr tc te σ H Q=tl σ H fun x H1=>eP x fun z=>lc (Its z) fr tc te σ H1 Q:=by
 unfold kM WK
 congr 1
 funext x H1;refine propext ⟨fun⟨a,e,h⟩=>by subst e;exact h,fun h=>?_⟩;cases x with
 | str z=>exact⟨z,rfl,h⟩
 | _=>exact h.elim
theorem S4{B:Bool->Hp->Prop}:Qk σ H B=B true H:=rfl
theorem VH:bE [] σ=[]:=rfl
theorem GV{n:Nat}{Pv:Nat->List V->Hp->Prop}{i:Nat}{xs:List V}(hi:i < n):(∃ m',m' < n - i/\cW n Pv (i+1) m' xs H)=Pv (i+1) xs H :=
 propext ⟨fun⟨_,_,_,_,h⟩=>h,fun h=>cW.next hi h⟩
theorem Eh{lo:Int}{n:Nat}(Pv:Nat->List V->Hp->Prop)(h0:Pv 0 [] H)(hz:∀ i xs H,Pv i xs H->xs.length<=1000000)
    (hs:∀ i xs H,i < n->Pv i xs H->tc (some (.int (lo+i))::bE fr σ) H fun b H2=>if b=true then te (some (.int (lo+i))::bE fr σ) H2 (fun z H3=>Pv (i+1) (xs++[z]) H3) else Pv (i+1) xs H2)
    (hd:∀ xs H,Pv n xs H->∀ p,H p=none->Q (.ref p) (Zh H p (.lst xs))):lc (Itr lo n) fr tc te σ H Q :=
  Fi Pv h0 hz (fun i xs H hi h=>by simp only[GV hi];exact hs i xs H hi h) hd
theorem pN{a:Addr}{ys:List V}(Pv:Nat->List V->Hp->Prop)(h0:Pv 0 [] H)(hz:∀ i xs H,Pv i xs H->xs.length<=1000000)(hl:∀ i xs H,Pv i xs H->dQ K H a ys)
    (hs:∀ i y xs H,i < ys.length->ys[i]?=some y->Pv i xs H->tc (some y::bE fr σ) H fun b H2=>if b=true then te (some y::bE fr σ) H2 (fun z H3=>Pv (i+1) (xs++[z]) H3) else Pv (i+1) xs H2)
    (hd:∀ xs H,Pv ys.length xs H->∀ p,H p=none->Q (.ref p) (Zh H p (.lst xs))):lc (Itl K a) fr tc te σ H Q :=
  Ie Pv h0 hz hl (fun i y xs H hi e h=>by simp only[GV hi];exact hs i y xs H hi e h) hd
end
noncomputable def Nd(kb:List (Key×V)):List (Key×V)->Bool
 | []=>true
 | (k,v)::r=>match bT kb k with
  | none=>false
  | some y=>sF v y&&Nd kb r
mutual
inductive pC(K:q0B)(H:Hp):Nat->V->V->Bool->Prop
 | flat {n:Nat} {x y:V}:cS x=true->cS y=true->pC K H n x y (sF x y)
 | same {n:Nat} {a:Addr}:pC K H n (.ref a) (.ref a) true
 | refs {n:Nat} {a b:Addr} {r:Bool}:a≠b->mW K H n a b r->pC K H n (.ref a) (.ref b) r
inductive mW(K:q0B)(H:Hp):Nat->Addr->Addr->Bool->Prop
 | list {n:Nat} {a b:Addr} {xs ys:List V} {e:Nat->Bool}:dQ K H a xs->dQ K H b ys->xs.length=ys.length->(∀ j x y,xs[j]?=some x->ys[j]?=some y->pC K H n x y (e j))->mW K H (n+1) a b ((List.range xs.length).all e)
 | ZL {n:Nat} {a b:Addr} {xs ys:List V}:dQ K H a xs->dQ K H b ys->xs.length≠ys.length->mW K H (n+1) a b false
 | tup {n:Nat} {a b:Addr} {xs ys:List V} {e:Nat->Bool}:fO K H a xs->fO K H b ys->(∀ j x y,xs[j]?=some x->ys[j]?=some y->pC K H n x y (e j))->mW K H (n+1) a b ((List.range (min xs.length ys.length)).all e&&xs.length==ys.length)
end
section
variable {X:Cx} {Zg:List (Addr×Obj)} {σ:St} {H:Hp} {s:Shared}
theorem kR{xs:List V}{Zk:List Value}(r:Vals xs Zk){j:Nat}(h:j < Zk.toArray.size):∃ x,xs[j]?=some x/\bH x Zk.toArray[j]:=by
 have hj:j < xs.length:=by have:=r.length;simp only[List.size_toArray] at h;omega
 have e:=List.getElem?_eq_getElem hj;obtain⟨u,g,ru⟩:=r.get e;refine⟨_,e,?_⟩;obtain⟨_,q⟩:=List.getElem?_eq_some_iff.mp g;have:Zk.toArray[j]=u:=by simpa using q
 rw[this];exact ru
theorem Hd:∀(n:Nat),(∀ {a b:Addr} {r:Bool},mW X.K H n a b r->∀ {A:Around},Zi X Zg σ H s->A.units+n < cLine->SeqAt.RcAt A s (.ref a) (.ref b) r)/\(∀ {x y:V} {b:Bool},pC X.K H n x y b->∀ {A:Around} {v u:Value},Zi X Zg σ H s->bH x v->bH y u->A.units+n < cLine->SeqAt.EqAt A s v u b):=by
 intro n;have up:∀ {n:Nat},(∀ {a b:Addr} {r:Bool},mW X.K H n a b r->∀ {A:Around},Zi X Zg σ H s->A.units+n < cLine->SeqAt.RcAt A s (.ref a) (.ref b) r)->(∀ {x y:V} {b:Bool},pC X.K H n x y b->∀ {A:Around} {v u:Value},Zi X Zg σ H s->bH x v->bH y u->A.units+n < cLine->SeqAt.EqAt A s v u b):=by
  intro n rc x y b h A v u I rx ry hu;cases h with
  | flat fx fy=>exact Lc rx ry fx fy
  | same =>
   cases rx;cases ry;exact SeqAt.EqAt.same _
  | refs ne h =>
   cases rx;cases ry;exact SeqAt.EqAt.of_refs ne (rc h I hu)
 suffices g:∀ {a b:Addr} {r:Bool},mW X.K H n a b r->∀ {A:Around},Zi X Zg σ H s->A.units+n < cLine->SeqAt.RcAt A s (.ref a) (.ref b) r from ⟨g,up g⟩
 induction n with
 | zero=>intro a b r h;cases h
 | succ n ih =>
  intro a b r h A I hu;have ih:=@up n @ih;cases h with
  | list hx hy hl he =>
   obtain⟨Zk,r1,p1,z1⟩:=I.list hx;obtain⟨jts,r2,p2,z2⟩:=I.list hy;have l1:=r1.length;have l2:=r2.length;have:=SeqAt.RcAt.lists p1.isList p2.isList (by simp only[List.size_toArray];omega) (by omega) (A:=A) (fun j h1 h2=>by
    obtain⟨x,ex,rx⟩:=kR r1 h1;obtain⟨y,ey,ry⟩:=kR r2 h2;exact ih (he j x y ex ey) I rx ry (by show A.units+1+_ < _;omega))
   rw[List.size_toArray,<- l1] at this;exact this
  | ZL hx hy hl =>
   obtain⟨Zk,r1,p1,z1⟩:=I.list hx;obtain⟨jts,r2,p2,z2⟩:=I.list hy;have l1:=r1.length;have l2:=r2.length;exact SeqAt.RcAt.lists_lengths p1.isList p2.isList (by simp only[List.size_toArray,bne_iff_ne,ne_eq];omega) (by omega)
  | tup hx hy he =>
   obtain⟨Zk,r1,p1,z1⟩:=I.tuple hx;obtain⟨jts,r2,p2,z2⟩:=I.tuple hy;have l1:=r1.length;have l2:=r2.length;have:=SeqAt.RcAt.tuples (show s.heap.IsTuple _ Zk.toArray from p1) (show s.heap.IsTuple _ jts.toArray from p2) (by omega) (A:=A) (fun j h1 h2=>by
    obtain⟨x,ex,rx⟩:=kR r1 h1;obtain⟨y,ey,ry⟩:=kR r2 h2;exact ih (he j x y ex ey) I rx ry (by show A.units+1+_ < _;omega))
   rw[List.size_toArray,List.size_toArray,<- l1,<- l2] at this;exact this
theorem Lb{n:Nat}{x y:V}{b:Bool}(h:pC X.K H n x y b){A:Around}{v u:Value}(I:Zi X Zg σ H s)(rx:bH x v)(ry:bH y u)(hu:A.units+n < cLine):SeqAt.EqAt A s v u b:=(Hd n).2 h I rx ry hu
theorem Mc{n:Nat}{a b:Addr}{r:Bool}(h:mW X.K H n a b r){A:Around}(I:Zi X Zg σ H s)(hu:A.units+n < cLine):SeqAt.RcAt A s (.ref a) (.ref b) r:=(Hd n).1 h I hu
end
noncomputable def YZ(P:Program)(W:World)(A:Around)(s:Shared)(y x:Value)(r:Bool):Prop:=∀(E:q0A) (Q:Bool->Shared->Prop),Q r s->wpAny (model P W) A (eqBool y x) Q E s
theorem YZ.of{P:Program}{W:World}{A:Around}{s:Shared}{y x:Value}{r:Bool}(h:SeqAt.EqAt A s y x r):YZ P W A s y x r:=h P W
noncomputable def Yg:R2:=fun x y H Q=>aQ x fun a=>aQ y fun b=>bV (H a) fun xs=>bV (H b) fun ys=>ys=[]/\Q (.bl (!xs.isEmpty)) H
inductive ZD(H:Hp):List V->List V->Bool->Prop
  | nil:ZD H [] [] true
  | cons {a b:Addr} {ka kb:List (Key×V)} {xs ys:List V} {r:Bool}:a≠b->H a=some (.dK ka)->H b=some (.dK kb)->(ka.all fun kv=>cS kv.2)=true->(kb.all fun kv=>cS kv.2)=true->ZD H xs ys r ->
      ZD H (.ref a::xs) (.ref b::ys) ((ka.length==kb.length&&Nd kb ka)&&r)
theorem ZD.len{H:Hp}{xs ys:List V}{r:Bool}(h:ZD H xs ys r):xs.length=ys.length:=by
 induction h with
 | nil=>rfl
 | cons _ _ _ _ _ _ ih=>simp[ih]
theorem ZD.at{H:Hp}{xs ys:List V}{r:Bool}(h:ZD H xs ys r):∃ f:Nat->Bool,(List.range xs.length).all f=r/\∀ j x y,xs[j]?=some x->ys[j]?=some y->∃ a b ka kb,x=.ref a/\y=.ref b/\a≠b/\H a=some (.dK ka)/\H b=some (.dK kb)/\(ka.all fun kv=>cS kv.2)=true/\(kb.all fun kv=>cS kv.2)=true/\f j=(ka.length==kb.length&&Nd kb ka):=by
 induction h with
 | nil=>exact⟨fun _=>true,rfl,fun j x y e=>by simp at e⟩
 | @cons a b ka kb xs ys r ne ea eb fa fb _ ih =>
  obtain⟨f,hf,hp⟩:=ih;refine⟨fun j=>match j with|0=>(ka.length==kb.length&&Nd kb ka)|j+1=>f j,?_,?_⟩
  ·rw[List.length_cons,List.range_succ_eq_map,List.all_cons,List.all_map,<- hf];rfl
  ·intro j x y e1 e2;cases j with
   | zero =>
    simp only[List.getElem?_cons_zero,Option.some.injEq] at e1 e2;exact⟨a,b,ka,kb,e1.symm,e2.symm,ne,ea,eb,fa,fb,rfl⟩
   | succ j=>exact hp j x y (by simpa using e1) (by simpa using e2)
noncomputable def Yf:R2:=fun x y H Q=>aQ x fun a=>aQ y fun b=>bV (H a) fun xs=>bV (H b) fun ys=>∃ r,ZD H xs ys r/\Q (.bl (!r)) H
noncomputable def WL(y:V)(xs:List V):Option Nat:=xs.findIdx? fun z=>sF z y
section
variable {X:Cx}
variable {o e:Expr} {to te:TE} {apos Zo:Pos}
noncomputable def Ya(to te:TE):TE:=fun σ H Q=>to σ H fun x H1=>aQ x fun a=>bV (H1 a) fun _=>te σ H1 fun y H2=>bV (H2 a) fun xs=>cS y=true/\xs.all cS=true/\dG (WL y xs) fun j=>Q (.int j) H2
theorem VQ{σ:St}{H:Hp}{Q:VK}:Ya to te σ H Q=to σ H fun x H1=>aQ x fun a=>bV (H1 a) fun _=>te σ H1 fun y H2=>bV (H2 a) fun xs=>cS y=true/\xs.all cS=true/\dG (WL y xs) fun j=>Q (.int j) H2:=rfl
end
section
variable {H:Hp} {Q:VK} {a b p:Addr} {x:V}
theorem VJ{a b:Bool}:EL (.bl a) (.bl b) H Q=Q (.bl (decide (a=b))) H:=by simp only[EL,show scal (.bl a) (.bl b)=true from rfl,V.bl.injEq,true_and]
theorem RF:EL .Zj .Zj H Q=Q (.bl true) H:=by simp only[EL,show scal .Zj .Zj=true from rfl,decide_true,true_and]
theorem RE{i:Int}:EL .Zj (.int i) H Q=Q (.bl false) H:=by simp only[EL,show scal .Zj (.int i)=true from rfl,reduceCtorEq,decide_false,true_and]
theorem RD{i:Int}:EL (.int i) .Zj H Q=Q (.bl false) H:=by simp only[EL,show scal (.int i) .Zj=true from rfl,reduceCtorEq,decide_false,true_and]
theorem SM{K:q0B}{lo hi:Option Int}:Ug K (.ref a) lo hi H Q = ∃ xs,dQ K H a xs/\∀ p,H p=none->Q (.ref p) (Zh H p (.lst (gK xs lo hi))):=by simp[Ug]
theorem RU{K:q0B}{n:Nat}{t:TGs}{σ:St}{N:St->Hp->Prop}:S9 K n t (.ref a) σ H N = ∃ xs,fO K H a xs/\xs.length=n/\t xs σ H N:=by simp[S9]
theorem Yl:((0:Nat):Int)=0:=rfl
theorem Ym:((1:Nat):Int)=1:=rfl
theorem Yn:((2:Nat):Int)=2:=rfl
theorem Wa:Yg (.ref a) (.ref b) H Q=bV (H a) fun xs=>bV (H b) fun ys=>ys=[]/\Q (.bl (!xs.isEmpty)) H:=rfl
theorem V9:Yf (.ref a) (.ref b) H Q=bV (H a) fun xs=>bV (H b) fun ys=>∃ r,ZD H xs ys r/\Q (.bl (!r)) H:=rfl
end
noncomputable def gX(o:Option HO)(k:List V->Prop)(_u:Tg k:=()):Prop:=match o with
 | some (.tup xs)=>k xs
 | _=>False
theorem Av{o:Option HO}{k:List V->Prop}(h:gX o k):∃ xs,o=some (.tup xs)/\k xs:=by
 unfold gX at h;split at h
 ·exact⟨_,rfl,h⟩
 ·exact h.elim
noncomputable def GU:R2:=fun x y H Q=>aQ x fun a=>aQ y fun b=>gX (H a) fun xs=>gX (H b) fun ys=>xs.length+ys.length<=sizeLine/\(if xs=[] then Q y H else if ys=[] then Q x H else ∀ p,H p=none->Q (.ref p) (Zh H p (.tup (xs++ys))))
noncomputable def UY:R2:=fun x y H Q=>aQ x fun a=>aQ y fun b=>gX (H a) fun xs=>gX (H b) fun ys=>ys=[]/\xs.all cS=true/\Q (.bl xs.isEmpty) H
section
variable {X:Cx}
theorem LY:lH X (binaryOp .Add) (fun x y H Q=>∃ a b ys,x=.ref a/\y=.ref b/\fO X.K H a []/\fO X.K H b ys/\Q (.ref b) H):=by
 intro Zg s σ H x y v u Q I rx ry h;obtain⟨a,b,ys,rfl,rfl,ha,hb,q⟩:=h;cases rx;cases ry;obtain⟨Zk,r1,p1,_⟩:=I.tuple ha;obtain⟨aaB,r2,p2,_⟩:=I.tuple hb;have l1:Zk=[]:=r1.xM.mpr rfl;obtain⟨⟨c1,d1,t1,o1⟩,ho,rfl,n,rfl⟩:=p1;obtain⟨⟨c2,d2,t2,o2⟩,ho2,rfl,n2,rfl⟩:=p2;exact concat_meets ⟨_,ho,rfl⟩ ⟨_,ho2,rfl⟩ noFill_tuple_add seq_tuple_add PySem.F.slot_tuple_add PySem.F.entry_tuple_add (PySem.F.args_tuple_add_2 _ _) (tuple_addW0 a b Zk.toArray aaB.toArray n n2 d1 d2 o1 o2 (by simp[l1])) ⟨ho,ho2,.ref b,H,I,rfl,q⟩
theorem Hy:lH X (binaryOp .Add) GU:=(LY.or Hx).imp fun x y H Q h=>by
 obtain⟨a,rfl,h1⟩:=aS h;obtain⟨b,rfl,h2⟩:=aS h1;obtain⟨xs,e1,h3⟩:=Av h2;obtain⟨ys,e2,h4,h5⟩:=Av h3;by_cases c:xs=[]
 ·rw[if_pos c] at h5;subst c;exact .inl ⟨a,b,ys,rfl,rfl,.inl (.inl e1),.inl (.inl e2),h5⟩
 ·rw[if_neg c] at h5;refine .inr ⟨a,b,xs,ys,rfl,rfl,.inl (.inl e1),.inl (.inl e2),c,h4,fun z=>?_,fun z=>?_⟩
  ·rw[if_pos z] at h5;exact h5
  ·rw[if_neg z] at h5;exact h5
end
section
variable {H:Hp} {Q:VK} {a b p:Addr} {vs:List V} {lo hi:Option Int}
theorem NT{k:List V->Prop}{u:Tg k}:@gX (some (.tup vs)) k u=k vs:=rfl
theorem KY:GU (.ref a) (.ref b) H Q=gX (H a) fun xs=>gX (H b) fun ys=>xs.length+ys.length<=sizeLine/\(if xs=[] then Q (.ref b) H else if ys=[] then Q (.ref a) H else ∀ p,H p=none->Q (.ref p) (Zh H p (.tup (xs++ys)))):=rfl
theorem RG:UY (.ref a) (.ref b) H Q=gX (H a) fun xs=>gX (H b) fun ys=>ys=[]/\xs.all cS=true/\Q (.bl xs.isEmpty) H:=rfl
theorem Ru:JP lo hi H Q (some (.tup vs))=(¬ (HT.fP vs.length 0 lo=0/\HT.fP vs.length vs.length hi=vs.length)/\∀ p,H p=none->Q (.ref p) (Zh H p (.tup (gK vs lo hi)))):=rfl
end
section
variable {prog:Program} {w:World} {A:Around} {E:q0A}
end
noncomputable def GO(H:Hp)(xs:List V)(kvs:List (Key×V)):Prop:=xs.length=kvs.length/\∀(j:Nat) (x:V),xs[j]?=some x->∃(t:Addr) (k:Key) (v:V),x=.ref t/\H t=some (.tup [kV k,v])/\kvs[j]?=some (k,v)
noncomputable def QT:List V->Hp->VK->Prop:=fun vs H Q=>on1 vs fun x=>aQ x fun l=>bV (H l) fun xs=>∃ kvs,GO H xs kvs/\∀ p,H p=none->Q (.ref p) (Zh H p (.dK (Dc [] kvs)))
noncomputable def Itd(a:Addr)(o:Obj)(kvs:List (Key×V)):It :=
 ⟨fun i H=>i < kvs.length/\H a=some (.ZF o (.dK kvs)),fun i H x H'=>H'=H/\∃ kv,kvs[i]?=some kv/\x=kV kv.1,fun i H=>i=kvs.length/\H a=some (.ZF o (.dK kvs))⟩
theorem sP{P:Program}{W:World}{k:Key}{v:Value}(h:(bU P W).is k v=true):bH (kV k) v:=by
 rcases eE h with⟨i,t,rfl,rfl⟩|⟨x,t,rfl,rfl⟩|⟨rfl,rfl⟩
 ·exact⟨t,rfl⟩
 ·exact⟨t,rfl⟩
 ·rfl
theorem Ln{X:Cx}{Zg:List (Addr×Obj)}{σ:St}{H:Hp}{s:Shared}{a:Addr}{o:Obj}{kvs:List (Key×V)}{es:Array DictEntry}{ep:Nat}(I:Zi X Zg σ H s)(e:H a=some (.ZF o (.dK kvs)))(ho:o.data=.dict es ep) :
    ∃ vs,KV kvs vs/\s.heap.DictAt (bU X.prog X.w) a vs ep:=by
  obtain⟨h1,_,_,vs,rel,o',es',ep',h2,h3,h4,r⟩:=(show dJ X.prog X.w H s.heap a (.ZF o (.dK kvs)) from I.Zl a _ e);rw[h1] at h2;cases h2;rw[ho] at h4;cases h4;exact⟨vs,rel,o,es,h1,h3,ho,r⟩
theorem KV.at{kvs:List (Key×V)}{vs:List (Key×Value)}(r:KV kvs vs){i:Nat}{kv:Key×V}(e:kvs[i]?=some kv):∃ v,vs[i]?=some (kv.1,v):=by
 unfold KV at r
 induction r generalizing i with
 | nil=>simp at e
 | @cons p q ps qs h t ih=>cases i with
  | zero =>
   have e':p=kv:=by simpa using e
   subst e';exact⟨q.2,by simp[h.1]⟩
  | succ i=>simpa using ih (i:=i) (by simpa using e)
theorem Jz{P:Program}{w:World}{K:q0B}{tg:Expr}(a it:Addr)(o:Obj)(kvs:List (Key×V))(es:Array DictEntry)(ep:Nat)(ho:o.data=.dict es ep):Turn P w K tg (Itd a o kvs) [it] it (fun i h=>h.IsKeyIter it a i kvs.length ep) where
 mem:=by simp
 obj:=fun i h st b hb=>by
  have e:b=it:=by simpa using hb
  subst e;obtain⟨o,e,c,d⟩:=st;exact⟨o,e,fun v z=>by rw[d] at z;cases z⟩
 keep:=fun i h h' st k=>st.at fun o e=>k it (by simp) o e
 item:=by
  intro X hP hw hK hc i Zg s σ H E I hf st hg;subst hP hw hK;obtain⟨hi,hq⟩:=hg;obtain⟨vs,rel,dd⟩:=Ln I hq ho;have hk:=List.getElem?_eq_getElem hi;obtain⟨v,hv⟩:=rel.at hk;obtain⟨f0,f1,f2,f3,f4,f5⟩:=hf it (by simp);rw[rel.length] at st;refine wpAny_pyNext_dict_item st dd hv fun key h' aaS ZR sb=>?_;have I1:Zi X Zg σ H {s with heap:=h'}:=I.turned (t':=s.toks) (fun b o hb e=>(sb.2 b hb).trans e) f0 f1 f3 f4 f5;rw[<- rel.length] at ZR;obtain⟨o',e,c,d⟩:=id ZR;exact⟨key,rfl,D7 (s:={s with heap:=h'}) e c d (by decide) ⟨kV (kvs[i]).1,H,I1,sP aaS,⟨rfl,_,hk,rfl⟩,ZR,fun b hb=>(hf b hb).1⟩⟩
 done:=by
  intro X hP hw hK hc i Zg s σ H E I hf st hg;subst hP hw hK;obtain⟨hi,hq⟩:=hg;obtain⟨vs,rel,dd⟩:=Ln I hq ho;obtain⟨f0,f1,f2,f3,f4,f5⟩:=hf it (by simp);rw[rel.length] at st hi;exact wpAny_pyNext_dict_end (I.ok.hd hc) st dd (List.getElem?_eq_none_iff.mpr (by omega)) fun h' eb=>⟨rfl,I.turned (t':=s.toks) (fun b o hb e=>eb b o hb e) f0 f1 f3 f4 f5⟩
 self:=fun _ _ _ _ _ st h=>wpAny_pyIter_keyiter st h
noncomputable def Ta(tl:TE):TI:=fun σ H R=>tl σ H fun x H1=>aQ x fun a=>cH (H1 a) fun kvs=>∀ o,R (Itd a o kvs) (Zh H1 a (.ZF o (.dK kvs)))
theorem OO{X:Cx}{tg l:Expr}{tl:TE}(hl:PE X l tl):PI X tg l (Ta tl):=by
 intro Zg s σ H R I h;refine thn (hl Zg s σ H _ I h) fun v s1 ⟨x,H1,I1,r1,q1⟩=>?_;obtain⟨a,rfl,q2⟩:=aS q1;obtain⟨kvs,e,q⟩:=dA q2;cases r1;obtain⟨z,hd,vs,rel,dd⟩:=sE I1.Zl e;obtain⟨ep,dat⟩:=dd.dictAt;obtain⟨o,es,ho,hx,acT,r⟩:=id dat;have I2:Zi X Zg σ (Zh H1 a (.ZF o (.dK kvs))) s1:=I1.write (t':=s1.toks) (x:=a) (e:=a) (by rw[e];exact True.intro) (.inl rfl) (fun _ _ _ q=>q) ⟨o,ho⟩ ⟨ho,yZ z hd rel dd⟩;refine wpAny_pyIter_dict hd dat ?_;have F:(Zh H1 a (.ZF o (.dK kvs))) s1.heap.objs.size=none:=I2.Zl.fresh (Nat.le_refl _);refine⟨s1.heap.objs.size,[s1.heap.objs.size],_,_,_,rfl,I2.kept (t':=s1.toks) fun b o e=>Heap.get?_push_of_some _ e,Jz a _ o kvs es ep acT,?_,fun b hb=>?_,q o⟩
 ·rw[rel.length];exact⟨_,Heap.get?_push_size _ rfl,rfl,rfl⟩
 ·have e:b=s1.heap.objs.size:=by simpa using hb
  subst e;exact I2.D4 (Nat.le_refl _) F
section
variable {fr:List Nat} {tc:TT} {te tl:TE} {σ:St} {H:Hp} {Q:VK}
theorem Nk:kM (Ta tl) fr tc te σ H Q=tl σ H fun x H1=>aQ x fun a=>cH (H1 a) fun kvs=>∀ o,lc (Itd a o kvs) fr tc te σ (Zh H1 a (.ZF o (.dK kvs))) Q:=by
 unfold kM Ta;rfl
theorem Ow{a:Addr}{o:Obj}{kvs:List (Key×V)}(Pv:Nat->List V->Hp->Prop)(h0:Pv 0 [] H)(hz:∀ i xs H,Pv i xs H->xs.length<=1000000)(hl:∀ i xs H,Pv i xs H->H a=some (.ZF o (.dK kvs)))
    (hs:∀ i kv xs H,i < kvs.length->kvs[i]?=some kv->Pv i xs H->tc (some (kV kv.1)::bE fr σ) H fun b H2=>if b=true then te (some (kV kv.1)::bE fr σ) H2 (fun z H3=>Pv (i+1) (xs++[z]) H3) else Pv (i+1) xs H2)
    (hd:∀ xs H,Pv kvs.length xs H->∀ p,H p=none->Q (.ref p) (Zh H p (.lst xs))):lc (Itd a o kvs) fr tc te σ H Q:=by
  refine⟨cW kvs.length Pv,⟨kvs.length,by simp,Nat.zero_le _,h0⟩,?_⟩;rintro i m xs H ⟨rfl,hi,p⟩;refine⟨hz i xs H p,?_⟩;by_cases ZK:i < kvs.length
  · refine .inr ⟨⟨ZK,hl i xs H p⟩,fun y H' yy=>?_⟩;obtain⟨e,kv,hk,rfl⟩:=yy;subst e;simp only[GV ZK];exact hs i kv xs _ ZK hk p
  · have e:i=kvs.length:=by omega
    subst e;exact .inl ⟨⟨rfl,hl _ xs H p⟩,hd xs H p⟩
end
section
variable {td ty tx:TE} {σ:St} {H:Hp} {Q:VK} {D:Ends} {a:Addr} {v w x:V}
theorem ED{k:Addr->Prop}:(∃ a,x=.ref a/\k a)=aQ x k:=propext ⟨fun⟨a,e,h⟩=>by subst e;exact h,aS⟩
theorem NW:Mz td ty σ H Q=td σ H fun x H1=>aQ x fun a=>UM H1 a/\ty σ H1 fun y H2=>∃ o,Zy H2 a y o/\Q (o.getD .Zj) H2:=by simp only[Mz,ED]
theorem SI:Qh td ty σ H Q=td σ H fun x H1=>ty σ H1 fun y H2=>aQ x fun a=>∃ v,Zy H2 a y (some v)/\Q v H2:=by
 unfold Qh
 congr 1
 funext x H1
 congr 1
 funext y H2;exact propext ⟨fun⟨a,v,e,h⟩=>by subst e;exact⟨v,h⟩,fun h=>by obtain⟨a,rfl,v,h⟩:=aS h;exact⟨a,v,rfl,h⟩⟩
theorem Ws:Xs ty td σ H Q=ty σ H fun y H1=>td σ H1 fun x H2=>aQ x fun a=>∃ o,Zy H2 a y o/\Q (.bl o.isSome) H2:=by
 unfold Xs
 congr 1
 funext y H1
 congr 1
 funext x H2;exact propext ⟨fun⟨a,o,e,h⟩=>by subst e;exact⟨o,h⟩,fun h=>by obtain⟨a,rfl,o,h⟩:=aS h;exact⟨a,o,rfl,h⟩⟩
theorem NX:MB td ty tx σ H Q=td σ H fun x H1=>aQ x fun a=>UM H1 a/\ty σ H1 fun y H2=>tx σ H2 fun z H3=>∃ kvs k,H3 a=some (.dK kvs)/\y=kV k/\(∀ v,bT kvs k=some v->Q v (Zh H3 a (.dK (qB kvs k))))/\(bT kvs k=none->Q z H3):=by
 simp only[MB,ED]
theorem Nv{l:Addr}:QT [.ref l] H Q=bV (H l) fun xs=>∃ kvs,GO H xs kvs/\∀ p,H p=none->Q (.ref p) (Zh H p (.dK (Dc [] kvs))):=rfl
end
noncomputable def Cp:List V->Option (List Str)
 | []=>some []
 | .str x::vs=>(Cp vs).map (x::·)
 | _::_=>none
theorem Cq:∀ ys:List Str,Cp (ys.map V.str)=some ys
 | []=>rfl
 | y::ys=>by
  show(Cp (ys.map V.str)).map (y::·)=_;rw[Cq ys];rfl
noncomputable def Vj:List V->Hp->VK->Prop:=fun vs H Q=>match vs with
 | [.int i]=>i.natAbs.log2 < 1920/\Q (.str (toString i)) H
 | [.str x]=>Q (.str x) H
 | _=>False
noncomputable def Va:V->List V->Hp->VK->Prop:=fun x vs H Q=>eP x fun sep=>on1 vs fun y=>aQ y fun l=>bV (H l) fun xs=>dG (Cp xs) fun ys=>(ys.map fun z=>z.length).sum+ys.length * sep.length<=16777216/\Q (.str (Txt.join sep ys)) H
noncomputable def Q2:V->List V->Hp->VK->Prop:=fun x vs H Q=>eP x fun z=>on1 vs fun y=>eP y fun sep=>(sep.length==0)=false/\z.length+2<=sizeLine/\∀ l,H l=none->Q (.ref l) (Zh H l (.lst ((Txt.split z sep).map V.str)))
noncomputable def J7:List V->Hp->VK->Prop:=fun vs H Q=>on1 vs fun x=>aQ x fun p=>bV (H p) fun ys=>∀ l,H l=none->Q (.ref l) (Zh H l (.tup ys))
theorem LW{x:V}{k:Str->Prop}(h:eP x k):∃ z,x=.str z/\k z:=by
 unfold eP at h;split at h
 ·exact⟨_,rfl,h⟩
 ·exact h.elim
theorem iS{vs:List V}{k:V->Prop}(h:on1 vs k):∃ v,vs=[v]/\k v:=by
 unfold on1 at h;split at h
 ·exact⟨_,rfl,h⟩
 ·exact h.elim
section
variable {X:Cx}
theorem fI:eX X (.type "tuple") J7:=fun Zg s σ H xs us Q I r h=>by
 obtain⟨x,rfl,h⟩:=iS h;obtain⟨p,rfl,h⟩:=aS h;obtain⟨ys,e,h⟩:=fX h;exact Bp Zg s σ H _ us Q I r ⟨_,_,rfl,.inl ⟨.inl (.inl e),h⟩⟩
noncomputable def Ve:R2:=fun x y H Q=>aQ x fun a=>aQ y fun b=>gX (H a) fun xs=>gX (H b) fun ys=>ys=[]/\Q (.bl (!xs.isEmpty)) H
end
section
variable {K:q0B} {T:String} {r:V->List V->Hp->VK->Prop} {to:TE} {t:TA} {σ:St} {H:Hp} {Q:VK} {x y:Str} {i:Int} {p:Addr} {ys:List Str}
theorem Yk:Zb K T r to t σ H Q=to σ H fun x H1=>X0 K T x H1/\t σ H1 fun xs H2=>r x xs H2 Q:=rfl
theorem Wz:X0 K "str" (.str x) H=True:=eq_true rfl
theorem SN:Vj [.int i] H Q=(i.natAbs.log2 < 1920/\Q (.str (toString i)) H):=rfl
theorem SO:Vj [.str x] H Q=Q (.str x) H:=rfl
theorem Sj:Va (.str x) [.ref p] H Q=bV (H p) fun xs=>dG (Cp xs) fun ys=>(ys.map fun z=>z.length).sum+ys.length * x.length<=16777216/\Q (.str (Txt.join x ys)) H:=rfl
theorem Oe:Cp (ys.map V.str)=some ys:=Cq ys
theorem Od:Q2 (.str x) [.str y] H Q=((y.length==0)=false/\x.length+2<=sizeLine/\∀ l,H l=none->Q (.ref l) (Zh H l (.lst ((Txt.split x y).map V.str)))):=rfl
theorem Sy{q:Addr}:Ve (.ref p) (.ref q) H Q=gX (H p) fun xs=>gX (H q) fun ys=>ys=[]/\Q (.bl (!xs.isEmpty)) H:=rfl
theorem Oh:J7 [.ref p] H Q=bV (H p) fun ys=>∀ l,H l=none->Q (.ref l) (Zh H l (.tup ys)):=rfl
end
noncomputable abbrev TJ:=Str->St->Hp->(Str->Hp->Prop)->Prop
noncomputable def YS(te:TE):TE:=fun σ H Q=>te σ H fun x H1=>eP x fun z=>z.length<=sizeLine/\Q (.str z) H1
noncomputable def Zc:TJ:=fun acc _ H Q=>Q acc H
noncomputable def Zd(te:TE)(tj:TJ):TJ:=fun acc σ H Q=>te σ H fun x H1=>eP x fun z=>(acc++z).length<=sizeLine/\tj (acc++z) σ H1 Q
noncomputable def Ph(tj:TJ):TE:=fun σ H Q=>tj Str.empty σ H fun out H1=>out.length<=sizeLine/\Q (.str out) H1
section
variable {X:Cx} {e a b:Expr} {es:List Expr} {te:TE} {tj:TJ} {pos:Pos}
end
noncomputable def Y2(r:V->List V->Hp->VK->Prop)(to:TE)(t:TA):TE:=fun σ H Q=>to σ H fun x H1=>aQ x fun a=>bV (H1 a) fun _=>t σ H1 fun xs H2=>r (.ref a) xs H2 Q
noncomputable def U2:V->List V->Hp->VK->Prop:=fun x vs H Q=>aQ x fun a=>on1 vs fun y=>aQ y fun b=>bV (H a) fun xs=>bV (H b) fun zs=>xs.length+zs.length<=sizeLine/\Q .Zj (Zh H a (.lst (xs++zs)))
noncomputable def PN:V->List V->Hp->VK->Prop:=fun x vs H Q=>aQ x fun a=>on1 vs fun y=>eO y fun i=>bV (H a) fun xs=>i=0/\dG xs[0]? fun v=>Q v (Zh H a (.lst xs.tail))
section
variable {X:Cx} {o e:Expr} {es:List Expr} {to:TE} {t:TA} {name:Str} {apos Zo:Pos} {id:String} {r:V->List V->Hp->VK->Prop}
theorem EG(slot:Slot "list" name id)(hty:typeOf (.builtin id)=pure (.type "method_descriptor"))(hm:QI X id r)(ho:PE X o to)(ha:PA X (e::es) t)
    (ZV:attributeBase o name X.env (eval o X.env)=eval o X.env:=by rfl)
    (abE:((backTo Zo (starEach (e::es) X.env)).all (fun x=>!x.1)&&(backToKw Zo (keywordEach [] X.env)).all (fun x=>x.1.isSome)
     &&decide ((e::es).length+([]:List Keyword).length+(if ([]:List Keyword).isEmpty then 0 else 1) < 30))=true:=by rfl)
    (ZW:(apos.endLine==Zo.line)=true:=by rfl) (hs:starEach (e::es) X.env=(false,eval e X.env)::starEach es X.env:=by rfl) (aaG:(backTo Zo (starEach es X.env)).any (·.1)=false:=by rfl) :
    PE X (.Call (.Attribute o name apos) (e::es) [] Zo) (Y2 r to t):=by
  intro Zg s σ H Q I h;refine wpAny_Call_method_late ZV abE ZW rfl (thn (ho Zg s σ H _ I h) fun v s1 ⟨x,H1,I1,r1,q1⟩=>?_);obtain⟨a,rfl,q1⟩:=aS q1;obtain⟨xs,e1,q1⟩:=fX q1;obtain⟨h1,h2⟩:=GH (T:="list") I1 r1 (.inl ⟨rfl,xs,.inl (.inl e1)⟩);refine⟨"list",id,PySem.F.plainAttrs_list,slot,hty,h1,h2,?_⟩;have hA:=ha Zo Zg s1 σ H1 _ I1 q1;rw[hs] at hA ⊢;refine Calls.callWith_builtin (by show(false||(backTo Zo (starEach es X.env)).any (·.1))=false;rw[aaG]<;>rfl) (Calls.evalArgs_plain ?_);exact thn hA fun us s2 ⟨vs,H2,I2,r2,q2⟩=>hm Zg s2 σ H2 _ vs v us Q I2 r1 r2 q2
theorem xK:QI X "list.extend" U2:=fun Zg s σ H x vs v us Q I rx rv h=>by
 obtain⟨a,rfl,h1⟩:=aS h;obtain⟨y,rfl,h2⟩:=iS h1;obtain⟨b,rfl,h3⟩:=aS h2;obtain⟨xs,e1,h4⟩:=fX h3;obtain⟨zs,e2,h5⟩:=fX h4;exact IP Zg s σ H _ _ v us Q I rx rv ⟨_,_,_,_,rfl,rfl,e1,e2,h5⟩
theorem OF:QI X "list.pop" PN:=fun Zg s σ H x vs v us Q I rx rv h=>by
 obtain⟨a,rfl,h1⟩:=aS h;obtain⟨y,rfl,h2⟩:=iS h1;obtain⟨i,rfl,h3⟩:=dN h2;obtain⟨xs,e1,rfl,h4⟩:=fX h3;obtain⟨y,e2,h5⟩:=dR h4;cases xs with
 | nil=>cases e2
 | cons z zs=>exact LJ Zg s σ H _ _ v us Q I rx rv ⟨_,_,_,0,y,rfl,rfl,e1,by decide,by decide,by simp[seqIndex?],e2,h5⟩
end
noncomputable def Jx:Option HO->Option Bool
 | some (.lst xs)=>some (!xs.isEmpty)
 | some (.tup xs)=>some (!xs.isEmpty)
 | some (.dK kvs)=>some (!kvs.isEmpty)
 | _=>none
noncomputable def w9(H:Hp):V->Option Bool
 | .Zj=>some false
 | .bl b=>some b
 | .int i=>some (i !=0)
 | .ref p=>Jx (H p)
 | _=>none
theorem Po{K:q0B}{H:Hp}{x:V}{k:Bool}(h:w9 H x=some k):UP K x H k:=by
 cases x with
 | Zj=>cases h;rfl
 | bl b=>cases h;rfl
 | int i=>cases h;rfl
 | ref p =>
  simp only[w9] at h;unfold Jx at h;split at h
  ·next e=>cases h;exact .inl ⟨_,.inl (.inl e),rfl⟩
  ·next e=>cases h;exact .inr (.inl ⟨_,fO.of e,rfl⟩)
  ·next e=>cases h;exact .inr (.inr ⟨_,e,rfl⟩)
  ·cases h
 | _=>cases h
noncomputable def MH(ta:TE):TT:=fun σ H Q=>ta σ H fun x H'=>dG (w9 H' x) fun k=>Q k H'
theorem xQ{X:Cx}{a:Expr}{ta:TE}(ha:PE X a ta)(he:∀ whole,isTrue a X.env whole=(do let v <- whole;standAt a.pos;holding [v] (truthy v))):PT X a (MH ta):=by
 intro Zg s σ H Q I h;exact isTrue_plain (thn (ha Zg s σ H _ I h) fun v s1 ⟨x,H1,I1,r1,q1⟩=>by
  obtain⟨k,e,q⟩:=dR q1;exact UG Zg s1 σ H1 x v Q I1 r1 ⟨k,Po e,q⟩) (he _)
section
variable {te to:TE} {t:TA} {tj:TJ} {σ:St} {H:Hp} {Q:VK} {x acc:Str} {r:V->List V->Hp->VK->Prop} {QS:Str->Hp->Prop} {B:Bool->Hp->Prop} {D:Ends} {p q:Addr} {vs:List V} {kvs:List (Key×V)} {v:V} {b:Bool} {i:Int}
theorem VO:YS te σ H Q=te σ H fun x H1=>eP x fun z=>z.length<=sizeLine/\Q (.str z) H1:=rfl
theorem Ys:Zc acc σ H QS=QS acc H:=rfl
theorem Yt:Zd te tj acc σ H QS=te σ H fun x H1=>eP x fun z=>(acc++z).length<=sizeLine/\tj (acc++z) σ H1 QS:=rfl
theorem Ku:Ph tj σ H Q=tj Str.empty σ H fun out H1=>out.length<=sizeLine/\Q (.str out) H1:=rfl
theorem RJ:Str.empty++x=x:=by
 show(⟨#[]++x.cps⟩:Str)=x;rw[Array.empty_append]
theorem Yu:Y2 r to t σ H Q=to σ H fun x H1=>aQ x fun a=>bV (H1 a) fun _=>t σ H1 fun xs H2=>r (.ref a) xs H2 Q:=rfl
theorem VM:U2 (.ref p) [.ref q] H Q=bV (H p) fun xs=>bV (H q) fun zs=>xs.length+zs.length<=sizeLine/\Q .Zj (Zh H p (.lst (xs++zs))):=rfl
theorem SF:PN (.ref p) [.int 0] H Q=bV (H p) fun xs=>(0:Int)=0/\dG xs[0]? fun v=>Q v (Zh H p (.lst xs.tail)):=rfl
theorem Of:MH te σ H B=te σ H fun x H'=>dG (w9 H' x) fun k=>B k H':=rfl
theorem SY:w9 H .Zj=some false:=rfl
theorem SU:w9 H (.bl b)=some b:=rfl
theorem SW:w9 H (.int i)=some (i !=0):=rfl
theorem KZ:w9 H (.ref p)=Jx (H p):=rfl
theorem SX:Jx (some (.lst vs))=some (!vs.isEmpty):=rfl
theorem S3:Jx (some (.tup vs))=some (!vs.isEmpty):=rfl
theorem SV:Jx (some (.dK kvs))=some (!kvs.isEmpty):=rfl
theorem NM:UA D σ H=False:=rfl
variable {fr:List Nat} {tc:TT} {tl:TE} {K:q0B}
theorem Np:kM (FE K tl) fr tc te σ H Q=tl σ H fun x H1=>aQ x fun a=>(∃ xs,fO K H1 a xs)/\lc (Itt K a) fr tc te σ H1 Q:=by
 unfold kM FE
 congr 1
 funext x H1;exact propext ⟨fun⟨a,e,h1,h⟩=>by subst e;exact⟨h1,h⟩,fun h=>by obtain⟨a,rfl,h1,h⟩:=aS h;exact⟨a,rfl,h1,h⟩⟩
theorem To{a:Addr}{ys:List V}(Pv:Nat->List V->Hp->Prop)(h0:Pv 0 [] H)(hz:∀ i xs H,Pv i xs H->xs.length<=1000000)(hl:∀ i xs H,Pv i xs H->fO K H a ys)
    (hs:∀ i y xs H,i < ys.length->ys[i]?=some y->Pv i xs H->tc (some y::bE fr σ) H fun b H2=>if b=true then te (some y::bE fr σ) H2 (fun z H3=>Pv (i+1) (xs++[z]) H3) else Pv (i+1) xs H2)
    (hd:∀ xs H,Pv ys.length xs H->∀ p,H p=none->Q (.ref p) (Zh H p (.lst xs))):lc (Itt K a) fr tc te σ H Q:=by
  refine⟨cW ys.length Pv,⟨ys.length,by simp,Nat.zero_le _,h0⟩,?_⟩;rintro i m xs H ⟨rfl,hi,p⟩;refine⟨hz i xs H p,?_⟩;have q:=hl i xs H p;by_cases ZK:i < ys.length
  · refine .inr ⟨⟨ys,ys[i],q,by simp[ZK]⟩,fun y H' yy=>?_⟩;obtain⟨e,yy⟩:=yy;subst e;simp only[GV ZK];exact hs i y xs _ ZK (yy ys q) p
  · have e:i=ys.length:=by omega
    subst e;exact .inl ⟨⟨ys,q,Nat.le_refl _⟩,hd xs H p⟩
end
section
variable {X:Cx} {Zg:List (Addr×Obj)} {σ:St} {H:Hp} {s:Shared}
theorem OX{n:Nat}{a b:Addr}{r:Bool}{A:Around}(h:mW X.K H n a b r)(I:Zi X Zg σ H s)(hu:A.units+n < cLine):SeqAt.RcNeAt A s (.ref a) (.ref b) (!r):=by
 cases h with
 | list hx hy hl he =>
  obtain⟨Zk,r1,p1,z1⟩:=I.list hx;obtain⟨jts,r2,p2,z2⟩:=I.list hy;have l1:=r1.length;have l2:=r2.length;have:=SeqAt.RcNeAt.lists p1.isList p2.isList (by simp only[List.size_toArray];omega) (by omega) (A:=A) (fun j h1 h2=>by
   obtain⟨x,ex,rx⟩:=kR r1 h1;obtain⟨y,ey,ry⟩:=kR r2 h2;exact Lb (he j x y ex ey) I rx ry (by show A.units+1+_ < _;omega))
  rw[List.size_toArray,<- l1] at this;exact this
 | ZL hx hy hl =>
  obtain⟨Zk,r1,p1,z1⟩:=I.list hx;obtain⟨jts,r2,p2,z2⟩:=I.list hy;have l1:=r1.length;have l2:=r2.length;exact SeqAt.RcNeAt.lists_lengths p1.isList p2.isList (by simp only[List.size_toArray,bne_iff_ne,ne_eq];omega) (by omega)
 | tup hx hy he =>
  obtain⟨Zk,r1,p1,z1⟩:=I.tuple hx;obtain⟨jts,r2,p2,z2⟩:=I.tuple hy;have l1:=r1.length;have l2:=r2.length;have:=SeqAt.RcNeAt.tuples (show s.heap.IsTuple _ Zk.toArray from p1) (show s.heap.IsTuple _ jts.toArray from p2) (by omega) (A:=A) (fun j h1 h2=>by
   obtain⟨x,ex,rx⟩:=kR r1 h1;obtain⟨y,ey,ry⟩:=kR r2 h2;exact Lb (he j x y ex ey) I rx ry (by show A.units+1+_ < _;omega))
  rw[List.size_toArray,List.size_toArray,<- l1,<- l2] at this;exact this
end
noncomputable def Vb(K:q0B)(n:Nat):R2:=fun x y H Q=>aQ x fun a=>aQ y fun b=>∃ r,mW K H n a b r/\Q (.bl (!r)) H
noncomputable def UX(K:q0B)(n:Nat):R2:=fun x y H Q=>aQ x fun a=>aQ y fun b=>∃ r,mW K H n a b r/\Q (.bl r) H
theorem Lv{A:Around}{k:Nat}(hr:Room k A){n:Nat}(h:n<=60):A.units+n < cLine:=Nat.lt_of_le_of_lt (Nat.add_le_add_left (by omega:n<=64) _) hr.units
noncomputable def Xj(n:Int)(xs:List V):List V:=(List.replicate n.toNat xs).flatten
noncomputable def Yi:R2:=fun x y H Q=>aQ x fun l=>eO y fun k=>bV (H l) fun xs=>(-(2 ^ 63)<=k/\k < 2 ^ 63)/\xs.length * k.toNat<=sizeLine/\∀ p,H p=none->Q (.ref p) (Zh H p (.lst (Xj k xs)))
noncomputable def QX:List V->Hp->VK->Prop:=fun vs H Q=>on1 vs fun x=>aQ x fun p=>nA (H p) fun ys=>∀ l,H l=none->Q (.ref l) (Zh H l (.lst ys))
noncomputable def PK(K:q0B):List V->Hp->VK->Prop:=fun vs H Q=>on1 vs fun x=>aQ x fun p=>∃ xs,dQ K H p xs/\Q (.int xs.length) H
section
variable {X:Cx}
theorem Ge(n:Nat)(hu:X.A.units+n < cLine):lH X (compareOp .NotEq) (Vb X.K n):=fun Zg s σ H x y v u Q I rx ry h=>by
 obtain⟨a,rfl,h1⟩:=aS h;obtain⟨b,rfl,r,e,q⟩:=aS h1;cases rx;cases ry;exact OX e I hu X.prog X.w X.xe _ (bR I q rfl)
theorem TM(n:Nat)(hu:X.A.units+n < cLine):lH X (compareOp .Eq) (UX X.K n):=fun Zg s σ H x y v u Q I rx ry h=>by
 obtain⟨a,rfl,h1⟩:=aS h;obtain⟨b,rfl,r,e,q⟩:=aS h1;cases rx;cases ry;exact Mc e I hu X.prog X.w X.xe _ (bR I q rfl)
theorem H0:eX X (.builtin "len") (PK X.K):=fun Zg s σ H xs us Q I r h=>by
 obtain⟨x,rfl,h1⟩:=iS h;obtain⟨p,rfl,ys,e,q⟩:=aS h1;exact sA Zg s σ H _ us Q I r ⟨p,ys,rfl,.inl e,q⟩
end
section
variable {K:q0B} {H:Hp} {Q:VK} {a b p:Addr} {n:Nat} {i:Int}
theorem V7:Vb K n (.ref a) (.ref b) H Q = ∃ r,mW K H n a b r/\Q (.bl (!r)) H:=rfl
theorem VI:UX K n (.ref a) (.ref b) H Q = ∃ r,mW K H n a b r/\Q (.bl r) H:=rfl
theorem Wq:Yi (.ref a) (.int i) H Q=bV (H a) fun xs=>(-(2 ^ 63)<=i/\i < 2 ^ 63)/\xs.length * i.toNat<=sizeLine/\∀ p,H p=none->Q (.ref p) (Zh H p (.lst (Xj i xs))):=rfl
theorem NK:QX [.ref p] H Q=nA (H p) fun ys=>∀ l,H l=none->Q (.ref l) (Zh H l (.lst ys)):=rfl
theorem Sn:PK K [.ref p] H Q = ∃ xs,dQ K H p xs/\Q (.int xs.length) H:=rfl
end
theorem mW.same{K:q0B}{H:Hp}{a b:Addr}{xs:List V}(h1:H a=some (.lst xs))(h2:H b=some (.lst xs))(h:∀ x∈xs,∃ c,x=.ref c):mW K H 1 a b true:=by
 have:=mW.list (K:=K) (H:=H) (n:=0) (a:=a) (b:=b) (e:=fun _=>true) (dQ.of h1) (dQ.of h2) rfl fun j x y e1 e2=>by
  rw[e1] at e2;cases e2;obtain⟨c,rfl⟩:=h x (List.mem_of_getElem? e1);exact .same
 rwa [show((List.range xs.length).all fun _=>true)=true by simp[List.all_eq_true]] at this
noncomputable def Str.cs(x:Str):List Nat:=x.cps.toList
noncomputable def U6:List V->Hp->VK->Prop:=fun vs H Q=>on1 vs fun x=>eP x fun z=>z.length<=640/\dG (intText? z) fun n=>Q (.int n) H
noncomputable def Na:V->List V->Hp->VK->Prop:=fun x vs H Q=>eP x fun z=>on1 vs fun y=>eP y fun p=>Q (.bl (Txt.startswith z p)) H
noncomputable def UW:V->List V->Hp->VK->Prop:=fun x vs H Q=>eP x fun z=>on1 vs fun y=>eP y fun p=>Q (.bl (Txt.endswith z p)) H
noncomputable def Ye:R2:=fun x y H Q=>eP x fun i=>eP y fun j=>Q (.bl (!decide (j.cps.toList < i.cps.toList))) H
noncomputable def yK:List V->Option (List Bool)
 | []=>some []
 | .bl b::r=>(yK r).map (b::·)
 | _=>none
theorem DX:∀ {bs:List Bool},yK (bs.map V.bl)=some bs
 | []=>rfl
 | b::bs=>by
  show(yK (bs.map V.bl)).map (b::·)=_;rw[DX];rfl
noncomputable def X9:List V->Hp->VK->Prop:=fun vs H Q=>on1 vs fun x=>aQ x fun p=>bV (H p) fun xs=>dG (yK xs) fun bs=>Q (.bl (bs.all id)) H
noncomputable def Yc(K:q0B)(neg:Bool):R2:=fun x y H Q=>aQ y fun p=>∃ xs,fO K H p xs/\cS x=true/\xs.all cS=true/\Q (.bl (if neg=true then !wU x xs else wU x xs)) H
section
variable {X:Cx}
end
section
variable {K:q0B} {H:Hp} {Q:VK} {p:Addr} {x y z:Str} {neg:Bool} {v:V}
theorem RZ:U6 [.str z] H Q=(z.length<=640/\dG (intText? z) fun n=>Q (.int n) H):=rfl
theorem KW:Na (.str z) [.str y] H Q=Q (.bl (Txt.startswith z y)) H:=rfl
theorem RC:UW (.str z) [.str y] H Q=Q (.bl (Txt.endswith z y)) H:=rfl
theorem V3:Ye (.str x) (.str y) H Q=Q (.bl (!decide (y.cps.toList < x.cps.toList))) H:=rfl
theorem Vq:X9 [.ref p] H Q=bV (H p) fun xs=>dG (yK xs) fun bs=>Q (.bl (bs.all id)) H:=rfl
theorem VS:Yc K neg v (.ref p) H Q = ∃ xs,fO K H p xs/\cS v=true/\xs.all cS=true/\Q (.bl (if neg=true then !wU v xs else wU v xs)) H:=rfl
end
noncomputable def kW(C:Addr)(o:Option HO)(k:Addr->List (Str×V)->Prop)(_u:Tg k:=()):Prop:=match o with
 | some (.ins C' dx fs)=>C'=C/\k dx fs
 | _=>False
theorem oO{C:Addr}{o:Option HO}{k:Addr->List (Str×V)->Prop}(h:kW C o k):∃ dx fs,o=some (.ins C dx fs)/\k dx fs:=by
 unfold kW at h;split at h
 ·obtain⟨rfl,h⟩:=h;exact⟨_,_,rfl,h⟩
 ·exact h.elim
noncomputable def M6(C:Addr)(f:Str)(ta:TE):TE:=fun σ H Q=>ta σ H fun x H1=>aQ x fun a=>kW C (H1 a) fun _ fs=>dG (fs.lookup f) fun v=>Q v H1
noncomputable def PQ(C:Addr)(f:Str)(ta tv:TE):TS:=fun D σ H=>tv σ H fun y H1=>ta σ H1 fun x H2=>aQ x fun a=>kW C (H2 a) fun dx fs=>fs.length < 1000/\D.nx σ (Zh H2 a (.ins C dx (jJ f y fs)))
noncomputable def PB(C:Addr)(f:Str)(ta tv:TE):TS:=fun D σ H=>ta σ H fun x H1=>aQ x fun a=>kW C (H1 a) fun _ fs=>dG (fs.lookup f) fun v=>tv σ H1 fun y H2=>eO v fun i=>eO y fun j=>kW C (H2 a) fun dx fs'=>fs'.length < 1000/\D.nx σ (Zh H2 a (.ins C dx (jJ f (.int (i+j)) fs')))
section
variable {X:Cx} {o e value:Expr} {f:Str} {pos pos' aa1:Pos} {ta tv:TE} {C:Addr}
theorem aN(c:Cls X.K C)(n:eF X.K C f)(he:PE X e ta)(hb:attributeBase e f X.env (eval e X.env)=eval e X.env:=by rfl):PE X (.Attribute e f pos) (M6 C f ta):=fun Zg s σ H Q I h=>by
 refine MW hb (thn (he Zg s σ H _ I h) fun u s1 ⟨x,H1,I1,rx,q1⟩=>?_);obtain⟨a,rfl,q2⟩:=aS q1;obtain⟨dx,fs,ea,q3⟩:=oO q2;obtain⟨v,l,q⟩:=dR q3;obtain rfl:u=Value.ref a:=rx;exact zR I1 ea c n l fun u' s2 I2 ru=>⟨v,H1,I2,ru,q⟩
theorem dC(c:Cls X.K C)(n:eF X.K C f)(ha:PE X o ta)(hv:PE X value tv)(hs:swapsWith value (some (.Attribute o f pos')) pos.line X.env=pure false:=by rfl):PS X (.Assign [.Attribute o f pos'] value pos) (PQ C f ta tv):=fun Zg s σ H D I h=>by
 refine plainObj_wpAny_Assign_Attribute (thn (hv Zg s σ H _ I h) fun u s1 ⟨y,H1,I1,ry,q⟩=>thn (ha Zg s1 σ H1 _ I1 q) fun ov s2 ⟨x,H2,I2,rx,q1⟩=>?_) hs;obtain⟨a,rfl,q2⟩:=aS q1;obtain⟨dx,fs,ea,l,q3⟩:=oO q2;obtain rfl:ov=Value.ref a:=rx;exact Ba I2 ea c n l ry fun s3 I3=>⟨σ,_,I3,q3⟩
theorem OQ(c:Cls X.K C)(n:eF X.K C f)(ha:PE X o ta)(hv:PE X value tv):PS X (.AugAssign (.Attribute o f aa1) .Add value pos) (PB C f ta tv):=fun Zg s σ H D I h=>by
 refine wpAny_AugAssign_AttributeAny (thn (ha Zg s σ H _ I h) fun ov s1 ⟨x,H1,I1,rx,q1⟩=>?_);obtain⟨a,rfl,q2⟩:=aS q1;obtain⟨dx,fs,ea,q3⟩:=oO q2;obtain⟨v,l,q⟩:=dR q3;obtain rfl:ov=Value.ref a:=rx;refine zR I1 ea c n l fun u s2 I2 ru=>thn (hv Zg s2 σ H1 _ I2 q) fun w3 s3 ⟨y,H2,I3,ry,q4⟩=>?_;obtain⟨i,rfl,q5⟩:=dN q4;obtain⟨j,rfl,q6⟩:=dN q5;obtain⟨dx',fs',ea',l',q7⟩:=oO q6;refine thn (Tc Zg s3 σ H2 (.int i) (.int j) u w3 (fun z H3=>z=.int (i+j)/\H3=H2) I3 ru ry ⟨i,j,rfl,rfl,rfl,rfl⟩) fun w4 s4 ⟨z,H3,I4,rz,ez,eH⟩=>?_;subst ez eH;exact Ba I4 ea' c n l' rz fun s5 I5=>⟨σ,_,I5,q7⟩
end
section
variable {C a dx:Addr} {fs:List (Str×V)} {k:Addr->List (Str×V)->Prop} {m f:Str} {sp:Sp} {E:XK} {ta tv:TE} {t:TA} {σ:St} {H:Hp} {Q:VK} {D:Ends} {v u:V} {r:List (Str×V)}
theorem Ha{k:Addr->List (Str×V)->Prop}{u:Tg k}:@kW C (some (.ins C dx fs)) k u=k dx fs:=by simp[kW]
theorem VN:M6 C f ta σ H Q=ta σ H fun x H1=>aQ x fun a=>kW C (H1 a) fun _ fs=>dG (fs.lookup f) fun v=>Q v H1:=rfl
theorem SK:PQ C f ta tv D σ H=tv σ H fun y H1=>ta σ H1 fun x H2=>aQ x fun a=>kW C (H2 a) fun dx fs=>fs.length < 1000/\D.nx σ (Zh H2 a (.ins C dx (jJ f y fs))):=rfl
theorem Rk:PB C f ta tv D σ H=ta σ H fun x H1=>aQ x fun a=>kW C (H1 a) fun _ fs=>dG (fs.lookup f) fun v=>tv σ H1 fun y H2=>eO v fun i=>eO y fun j=>kW C (H2 a) fun dx fs'=>fs'.length < 1000/\D.nx σ (Zh H2 a (.ins C dx (jJ f (.int (i+j)) fs'))):=rfl
theorem Su:EY C m sp [] E ta t σ H Q=ta σ H fun x H1=>aQ x fun a=>kW C (H1 a) fun _ fs=>fs.lookup m=none/\t σ H1 fun vs H2=>sp (.ref a::vs) H2 Q E:=by
 unfold EY
 congr 1
 funext x H1;refine propext ⟨fun⟨a,dx,fs,e,e1,l,h⟩=>?_,fun h=>?_⟩
 ·subst e;show kW C (H1 a) _;rw[e1,Ha];simp only[List.append_nil] at h;exact⟨l,h⟩
 ·obtain⟨a,rfl,h⟩:=aS h;obtain⟨dx,fs,e1,l,h⟩:=oO h;exact⟨a,dx,fs,rfl,e1,l,by simpa only[List.append_nil] using h⟩
theorem Ss:HP C sp [] E t σ H Q=t σ H fun vs H1=>∀ x dx,H1 x=none->H1 dx=none->dx≠x->sp (.ref x::vs) (Zh (Zh H1 dx (.own x)) x (.ins C dx [])) (fun v H2=>v=.Zj/\Q (.ref x) H2) E:=by
 unfold HP;simp only[List.append_nil]
theorem LP{x y:String}:(Str.ofString x=Str.ofString y)=(x=y):=mV
theorem KJ{x y:String}:List.lookup (Str.ofString x) ((Str.ofString y,v)::r)=if x=y then some v else List.lookup (Str.ofString x) r:=by
 by_cases h:x=y
 ·subst h;simp[List.lookup]
 ·have:(Str.ofString x==Str.ofString y)=false:=beq_eq_false_iff_ne.mpr fun z=>h (LP▸z);simp only[List.lookup,this,if_neg h]
theorem Il{x:Str}:List.lookup x ([]:List (Str×V))=none:=rfl
theorem SG{x y:String}:jJ (Str.ofString x) u ((Str.ofString y,v)::r)=if y=x then (Str.ofString y,u)::r else (Str.ofString y,v)::jJ (Str.ofString x) u r:=by
 rw[show jJ (Str.ofString x) u ((Str.ofString y,v)::r)=(if Str.ofString y=Str.ofString x then (Str.ofString y,u)::r else (Str.ofString y,v)::jJ (Str.ofString x) u r) from rfl];by_cases h:y=x
 ·rw[if_pos h,if_pos (by rw[h])]
 ·rw[if_neg h,if_neg fun z=>h (LP▸z)]
theorem NV{x:Str}:jJ x u []=[(x,u)]:=rfl
end
noncomputable def Pq:List V->Option (List String)
 | []=>some []
 | .ty T::r=>(Pq r).map (T::·)
 | _=>none
noncomputable def HV(Ts:List String):Obj:={cls:=.type "tuple",data:=.seq (Ts.map Value.type).toArray}
noncomputable def Xy(t:TA):TE:=fun σ H Q=>t σ H fun xs H1=>dG (Pq xs) fun Ts=>xs.length<=sizeLine/\∀ p,H1 p=none->Q (.ref p) (Zh H1 p (.ZF (HV Ts) (.tup xs)))
noncomputable def WO:Option HO->Option String
 | some (.tup _)=>some "tuple"
 | some (.lst _)=>some "list"
 | _=>none
noncomputable def PZ(H:Hp):V->Option String
 | .int _=>some "int"
 | .str _=>some "str"
 | .Zj=>some "NoneType"
 | .bl _=>some "bool"
 | .ref p=>WO (H p)
 | _=>none
noncomputable def WM:String->String->Bool
 | "int","int"=>true
 | "bool","int"=>true
 | "str","str"=>true
 | "tuple","tuple"=>true
 | "list","list"=>true
 | _,_=>false
noncomputable def U9:List V->Hp->VK->Prop:=fun vs H Q=>on2 vs fun x y=>aQ y fun p=>∃ Ts xs,H p=some (.ZF (HV Ts) (.tup xs))/\(Ts=["int","str"]\/Ts=["list","tuple"])/\dG (PZ H x) fun kd=>Q (.bl (Ts.any (WM kd))) H
section
variable {X:Cx}
end
section
variable {H:Hp} {Q:VK} {x:V} {p:Addr} {σ:St} {t:TA} {vs:List V} {i:Int} {z:Str} {b:Bool}
theorem S5:Xy t σ H Q=t σ H fun xs H1=>dG (Pq xs) fun Ts=>xs.length<=sizeLine/\∀ p,H1 p=none->Q (.ref p) (Zh H1 p (.ZF (HV Ts) (.tup xs))):=rfl
theorem S6{S T:String}:Pq [.ty S,.ty T]=some [S,T]:=rfl
theorem Sb:U9 [x,.ref p] H Q = ∃ Ts xs,H p=some (.ZF (HV Ts) (.tup xs))/\(Ts=["int","str"]\/Ts=["list","tuple"])/\dG (PZ H x) fun kd=>Q (.bl (Ts.any (WM kd))) H:=rfl
end
mutual
theorem pC.mono{K:q0B}{H:Hp}:∀ {n m:Nat} {x y:V} {b:Bool},pC K H n x y b->n<=m->pC K H m x y b
 | _,_,_,_,_,.flat a b,_=>.flat a b
 | _,_,_,_,_,.same,_=>.same
 | _,_,_,_,_,.refs ne r,h=>.refs ne (mW.mono r h)
theorem mW.mono{K:q0B}{H:Hp}:∀ {n m:Nat} {a b:Addr} {r:Bool},mW K H n a b r->n<=m->mW K H m a b r
 | _,m+1,_,_,_,.list a b c d,h=>.list a b c fun j x y e1 e2=>pC.mono (d j x y e1 e2) (by omega)
 | _,m+1,_,_,_,.ZL a b c,_=>.ZL a b c
 | _,m+1,_,_,_,.tup a b d,h=>.tup a b fun j x y e1 e2=>pC.mono (d j x y e1 e2) (by omega)
 | _,0,_,_,_,.list _ _ _ _,h=>absurd h (by omega)
 | _,0,_,_,_,.ZL _ _ _,h=>absurd h (by omega)
 | _,0,_,_,_,.tup _ _ _,h=>absurd h (by omega)
end
theorem pC.pair{K:q0B}{H:Hp}{n:Nat}{a b:Addr}{xs ys:List V}(e1:H a=some (.tup xs))(e2:H b=some (.tup ys))(hl:xs.length=ys.length)(he:∀(j:Nat) (x y:V),xs[j]?=some x->ys[j]?=some y->pC K H n x y true):pC K H (n+1) (.ref a) (.ref b) true:=by
 by_cases h:a=b
 ·subst h;exact .same
 ·have:=mW.tup (K:=K) (H:=H) (n:=n) (e:=fun _=>true) (fO.of e1) (fO.of e2) he;rw[show((List.range (min xs.length ys.length)).all (fun _=>true)&&xs.length==ys.length)=true by rw[hl];simp[List.all_eq_true]] at this;exact .refs h this
theorem Hc{a b:Str}:sF (.str a) (.str b)=(a==b):=rfl
theorem Oj{a b:Int}:sF (.int a) (.int b)=(a==b):=rfl
section
variable {X:Cx} {Zg:List (Addr×Obj)} {σ:St} {H:Hp} {s:Shared} {a:Addr} {o:Obj} {kvs:List (Key×V)}
theorem Zi.Pn(I:Zi X Zg σ H s)(e:H a=some (.ZF o (.dK kvs)))(ZY:∀ ob u,X.H₀ a≠some (.ZF ob u)):Zi X Zg σ (Zh H a (.dK kvs)) s:=by
 have nn:∀ {b:Addr},H b=none->b≠a:=fun h z=>by subst z;rw[e] at h;cases h
 refine⟨I.ok,I.os,I.bare,⟨I.base.keep,I.base.slot,fun b ob q n hx=>?_,I.base.there,fun b xs q=>?_,fun b ob u q=>?_,fun b ps q=>?_⟩,I.loc,I.cell,?_,fun x c hc=>?_,fun p hp=>?_,fun b u q=>?_,I.len⟩
 ·have:=I.base.free b ob q n hx;rw[aG (nn this)];exact this
 ·have:=I.base.tO b xs q;rw[aG (dZ this e (by intro z;cases z))];exact this
 ·have h1:=I.base.qS b ob u q;rw[aG (fun z=>by subst z;exact ZY _ _ q)];exact h1
 ·obtain⟨more,h1⟩:=I.base.tN b ps q;exact⟨more,by rw[aG (dZ h1 e (by intro z;cases z))];exact h1⟩
 ·rw[aG (nn I.free)];exact I.free
 ·rw[aG (nn (I.mZ x c hc))];exact I.mZ x c hc
 ·obtain⟨h1,h2,h3⟩:=I.pin p hp;exact⟨h1,by rw[aG (nn h2)];exact h2,h3⟩
 ·have own:∀ b c,H b=some (.own c)->Zh H a (.dK kvs) b=some (.own c):=fun b c q=>by rw[aG (dZ q e (by intro z;cases z))];exact q
  have tup:∀ b xs,H b=some (.tup xs)->Zh H a (.dK kvs) b=some (.tup xs):=fun b c q=>by rw[aG (dZ q e (by intro z;cases z))];exact q
  by_cases hb:b=a
  ·subst hb;rw[aA] at q;cases q;exact dJ.tM (I.Zl b _ e).2 (fun _ _ _ z=>z) (fun b q=>own b _ q) tup
  ·rw[aG hb] at q;exact(I.Zl b u q).tM (fun _ _ _ z=>z) (fun b q=>own b _ q) tup
end
noncomputable def Ql(H₀:Hp)(D:Ends):Ends :=
 {nx:=fun σ H=>∃ a o kvs,H a=some (.ZF o (.dK kvs))/\(∀ ob u,H₀ a≠some (.ZF ob u))/\D.nx σ (Zh H a (.dK kvs))
  bk:=fun σ H=>∃ a o kvs,H a=some (.ZF o (.dK kvs))/\(∀ ob u,H₀ a≠some (.ZF ob u))/\D.bk σ (Zh H a (.dK kvs))
  ct:=fun σ H=>∃ a o kvs,H a=some (.ZF o (.dK kvs))/\(∀ ob u,H₀ a≠some (.ZF ob u))/\D.ct σ (Zh H a (.dK kvs))
  rt:=fun v H=>∃ a o kvs,H a=some (.ZF o (.dK kvs))/\(∀ ob u,H₀ a≠some (.ZF ob u))/\D.rt v (Zh H a (.dK kvs))}
noncomputable def Qj(H₀:Hp)(t:TS):TS:=fun D σ H=>t (Ql H₀ D) σ H
theorem OS{X:Cx}{st:Stmt}{t:TS}(h:PS X st t):PS X st (Qj X.H₀ t):=fun Zg s σ H D I hq =>
 thn (h Zg s σ H _ I hq) fun f s' q=>by
  cases f with
  | next=>obtain⟨σ',H',I',a,o,kvs,e,ZY,q⟩:=q;exact⟨σ',_,I'.Pn e ZY,q⟩
  | brk=>obtain⟨σ',H',I',a,o,kvs,e,ZY,q⟩:=q;exact⟨σ',_,I'.Pn e ZY,q⟩
  | cont=>obtain⟨σ',H',I',a,o,kvs,e,ZY,q⟩:=q;exact⟨σ',_,I'.Pn e ZY,q⟩
  | ret u=>obtain⟨v,σ',H',I',r,a,o,kvs,e,ZY,q⟩:=q;exact⟨v,σ',_,I'.Pn e ZY,r,q⟩
noncomputable def UT(ty td:TE):TE:=fun σ H Q=>ty σ H fun y H1=>td σ H1 fun x H2=>aQ x fun a=>cH (H2 a) fun kvs=>dG (kP y) fun k=>Q (.bl (bT kvs k).isSome) H2
noncomputable def JR(td ty:TE):TE:=fun σ H Q=>td σ H fun x H1=>aQ x fun a=>cH (H1 a) fun _=>ty σ H1 fun y H2=>cH (H2 a) fun kvs=>dG (kP y) fun k=>dG (bT kvs k) fun v=>Q v (Zh H2 a (.dK (qB kvs k)))
noncomputable def JQ(td ty tx:TE):TE:=fun σ H Q=>td σ H fun x H1=>aQ x fun a=>cH (H1 a) fun _=>ty σ H1 fun y H2=>tx σ H2 fun z H3=>cH (H3 a) fun kvs=>dG (kP y) fun k=>Q ((bT kvs k).getD z) H3
theorem C5{y:V}{k:Key}(h:kP y=some k):y=kV k:=by
 cases y<;>simp[kP] at h<;>subst h<;>rfl
section
variable {X:Cx} {o e f:Expr} {apos Zo:Pos} {td ty tx:TE}
theorem L0(ho:PE X o td)(he:PE X e ty)(m:M1 X o "pop" apos e Zo):PE X (.Call (.Attribute o "pop" apos) [e] [] Zo) (JR td ty):=fun Zg s σ H Q I h=>by
 refine wpAny_Call_method m.base m.few m.line PySem.F.plainAttrs_dict PySem.F.slot_dict_pop PySem.F.type_dict_pop (thn (ho Zg s σ H _ I h) fun u s1 ⟨x,H1,I1,rx,q1⟩=>?_);obtain⟨a,rfl,q2⟩:=aS q1;obtain⟨kv0,e0,q3⟩:=dA q2;obtain rfl:u=Value.ref a:=rx;obtain⟨t1,t2,_⟩:=uG I1 (.inl ⟨kv0,.inl e0⟩);refine⟨t1,t2,?_⟩;rw[m.trees];refine Calls.callWith_builtin rfl (Calls.evalArgs_plain (Calls.spliced_cons (thn (he Zg s1 σ H1 _ I1 q3) fun iv s2 ⟨y,H2,I2,ry,q4⟩=>Calls.spliced_nil ?_)));obtain⟨kvs,ea,q5⟩:=dA q4;obtain⟨k,ek,q6⟩:=dR q5;obtain⟨v,l,q7⟩:=dR q6;cases C5 ek;exact Vn I2 ea ry l (.inl rfl) fun w' s3 I3 rw'=>⟨v,_,I3,rw',q7⟩
theorem Jc(hu:X.A.units+1 < cLine)(ho:PE X o td)(he:PE X e ty)(hf:PE X f tx)(m:M2 X o "get" apos e f Zo):PE X (.Call (.Attribute o "get" apos) [e,f] [] Zo) (JQ td ty tx):=fun Zg s σ H Q I h=>by
 refine wpAny_Call_method m.base m.few m.line PySem.F.plainAttrs_dict PySem.F.slot_dict_get PySem.F.type_dict_get (thn (ho Zg s σ H _ I h) fun u s1 ⟨x,H1,I1,rx,q1⟩=>?_);obtain⟨a,rfl,q2⟩:=aS q1;obtain⟨kv0,e0,q3⟩:=dA q2;obtain rfl:u=Value.ref a:=rx;obtain⟨t1,t2,_⟩:=uG I1 (.inl ⟨kv0,.inl e0⟩);refine⟨t1,t2,?_⟩;rw[m.trees];refine Calls.callWith_builtin rfl (Calls.evalArgs_plain (Calls.spliced_cons (thn (he Zg s1 σ H1 _ I1 q3) fun iv s2 ⟨y,H2,I2,ry,q4⟩ =>
  Calls.spliced_cons (thn (hf Zg s2 σ H2 _ I2 q4) fun fv s3 ⟨z,H3,I3,rz,q5⟩=>Calls.spliced_nil ?_))))
 obtain⟨kvs,ea,q6⟩:=dA q5;obtain⟨k,ek,q7⟩:=dR q6;cases C5 ek;exact Q7 hu I3 (Zy.k ea) ry rz fun w' s4 I4 rw'=>⟨_,H3,I4,rw',q7⟩
theorem HA(hu:X.A.units+1 < cLine)(hi:PE X e ty)(ho:PE X o td):PC X .In e o (UT ty td):=fun Zg s σ H Q I h=>by
 refine thn (hi Zg s σ H _ I h) fun iv s1 ⟨y,H1,I1,ry,q1⟩=>thn (ho Zg s1 σ H1 _ I1 q1) fun u s2 ⟨x,H2,I2,rx,q2⟩=>?_;obtain⟨a,rfl,q3⟩:=aS q2;obtain⟨kvs,e0,q4⟩:=dA q3;obtain⟨k,ek,q5⟩:=dR q4;obtain rfl:u=Value.ref a:=rx;cases C5 ek;exact Yj hu I2 (Zy.k e0) ry fun s3 I3=>⟨.bl (bT kvs k).isSome,H2,I3,rfl,q5⟩
noncomputable def GS(td:TE):TE:=fun σ H Q=>td σ H fun x H1=>aQ x fun a=>cH (H1 a) fun _=>Q .Zj (Zh H1 a (.dK []))
theorem Jb(ho:PE X o td)(ZV:attributeBase o "clear" X.env (eval o X.env)=eval o X.env:=by rfl)(ZW:(apos.endLine==Zo.line)=true:=by rfl):PE X (.Call (.Attribute o "clear" apos) [] [] Zo) (GS td):=fun Zg s σ H Q I h=>by
 refine wpAny_Call_method0_late ZV ZW (thn (ho Zg s σ H _ I h) fun v s1 ⟨x,H1,I1,r1,q1⟩=>?_);obtain⟨a,rfl,q2⟩:=aS q1;obtain⟨kvs,e0,q3⟩:=dA q2;obtain rfl:v=Value.ref a:=r1;obtain⟨t1,t2,_⟩:=uG I1 (.inl ⟨kvs,.inl e0⟩);refine⟨"dict","dict.clear",PySem.F.plainAttrs_dict,PySem.F.slot_dict_clear,PySem.F.type_dict_clear,t1,t2,Calls.callWith_builtin rfl (PySem.evalArgs_none ?_)⟩;obtain⟨z,hd,vs,rel,dd⟩:=sE I1.Zl e0;refine call_meetsIn PySem.F.slot_dict_clear dd.typeIs PySem.F.entry_dict_clear (PySem.F.args_dict_clear_1 _) (meets_dict_clear (bU X.prog X.w) a)
  ⟨vs,dd,by rw[<- rel.length];exact z,fun h' dd' hs=>⟨.Zj,_,?_,rfl,q3⟩⟩
 have he:∃ q,h'.get? a=some q:=let ⟨q,_,_,hq,_⟩:=dd';⟨q,hq⟩;exact sC I1 (by rw[e0];exact True.intro) hs he (yZ (Nat.zero_le _) hd .nil dd')
noncomputable def PD(td ty tx:TE):TE:=fun σ H Q=>td σ H fun x H1=>aQ x fun a=>cH (H1 a) fun _=>ty σ H1 fun y H2=>tx σ H2 fun z H3=>cH (H3 a) fun kvs=>dG (kP y) fun k=>kvs.length < sizeLine /\
 (∀ v,bT kvs k=some v->Q v H3)/\(bT kvs k=none->Q z (Zh H3 a (.dK (eL kvs k z))))
theorem L3(ho:PE X o td)(he:PE X e ty)(hf:PE X f tx)(m:M2 X o "setdefault" apos e f Zo):PE X (.Call (.Attribute o "setdefault" apos) [e,f] [] Zo) (PD td ty tx):=fun Zg s σ H Q I h=>by
 refine wpAny_Call_method m.base m.few m.line PySem.F.plainAttrs_dict PySem.F.slot_dict_setdefault PySem.F.type_dict_setdefault (thn (ho Zg s σ H _ I h) fun u s1 ⟨x,H1,I1,rx,q1⟩=>?_);obtain⟨a,rfl,q2⟩:=aS q1;obtain⟨kv0,e0,q3⟩:=dA q2;obtain rfl:u=Value.ref a:=rx;obtain⟨t1,t2,_⟩:=uG I1 (.inl ⟨kv0,.inl e0⟩);refine⟨t1,t2,?_⟩;rw[m.trees];refine Calls.callWith_builtin rfl (Calls.evalArgs_plain (Calls.spliced_cons (thn (he Zg s1 σ H1 _ I1 q3) fun iv s2 ⟨y,H2,I2,ry,q4⟩ =>
  Calls.spliced_cons (thn (hf Zg s2 σ H2 _ I2 q4) fun fv s3 ⟨z,H3,I3,rz,q5⟩=>Calls.spliced_nil ?_))))
 obtain⟨kvs,ea,q6⟩:=dA q5;obtain⟨k,ek,hl,q7,q8⟩:=dR q6;cases C5 ek;obtain⟨z',hd,vs,rel,dd⟩:=sE I3.Zl ea;refine call_meetsIn PySem.F.slot_dict_setdefault dd.typeIs PySem.F.entry_dict_setdefault (PySem.F.args_dict_setdefault_3 _ _ _) (kt_meets_setdefault (bU X.prog X.w) a (v9 ry) hd fv)
  ⟨vs,dd,by rw[<- rel.length];exact z',fun v hv=>?_,fun hv h' dd' hs=>?_⟩
 ·have:=rel.val k;rw[hv] at this;cases l:bT kvs k with
  | none=>rw[l] at this;exact this.elim
  | some w=>rw[l] at this;exact⟨w,H3,I3.tok _,this,q7 w l⟩
 ·have:=rel.val k;rw[hv] at this;cases l:bT kvs k with
  | some w=>rw[l] at this;exact this.elim
  | none =>
   have he:∃ q,h'.get? a=some q:=let ⟨q,_,_,hq,_⟩:=dd';⟨q,hq⟩;exact⟨z,_,sC I3 (by rw[ea];exact True.intro) hs he (yZ (by have:=oG kvs k z;omega) hd (rel.put k rz) dd'),rz,q8 l⟩
end
section
variable {td ty tx:TE} {σ:St} {H H₀:Hp} {Q:VK} {t:TS} {D:Ends} {v:V}
theorem SR:Qj H₀ t D σ H=t (Ql H₀ D) σ H:=rfl
theorem Rx:UT ty td σ H Q=ty σ H fun y H1=>td σ H1 fun x H2=>aQ x fun a=>cH (H2 a) fun kvs=>dG (kP y) fun k=>Q (.bl (bT kvs k).isSome) H2:=rfl
theorem Nw:JR td ty σ H Q=td σ H fun x H1=>aQ x fun a=>cH (H1 a) fun _=>ty σ H1 fun y H2=>cH (H2 a) fun kvs=>dG (kP y) fun k=>dG (bT kvs k) fun v=>Q v (Zh H2 a (.dK (qB kvs k))):=rfl
theorem Ks:JQ td ty tx σ H Q=td σ H fun x H1=>aQ x fun a=>cH (H1 a) fun _=>ty σ H1 fun y H2=>tx σ H2 fun z H3=>cH (H3 a) fun kvs=>dG (kP y) fun k=>Q ((bT kvs k).getD z) H3:=rfl
theorem Kr:GS td σ H Q=td σ H fun x H1=>aQ x fun a=>cH (H1 a) fun _=>Q .Zj (Zh H1 a (.dK [])):=rfl
theorem Nx:PD td ty tx σ H Q=td σ H fun x H1=>aQ x fun a=>cH (H1 a) fun _=>ty σ H1 fun y H2=>tx σ H2 fun z H3=>cH (H3 a) fun kvs=>dG (kP y) fun k=>kvs.length < sizeLine/\(∀ v,bT kvs k=some v->Q v H3)/\(bT kvs k=none->Q z (Zh H3 a (.dK (eL kvs k z)))):=rfl
end
noncomputable def PH:V->V->Hp->VK->Prop:=fun x y H Q=>aQ x fun p=>eO y fun i=>bV (H p) fun xs=>dG (iM xs i) fun v=>Q v H
noncomputable def U7:TIp:=fun x y H Q=>eO x fun i=>eO y fun j=>Q (.int (i+j)) H
section
variable {X:Cx}
theorem WH:PGet X PH:=fun Zg s σ H o i ov iv Q I ro ri h=>by
 obtain⟨p,rfl,h1⟩:=aS h;obtain⟨k,rfl,h2⟩:=dN h1;obtain⟨xs,e,h3⟩:=fX h2;obtain⟨v,ea,q⟩:=dR h3;cases ro;obtain⟨t,rfl⟩:=ri;obtain⟨Zk,r,pl,hz⟩:=I.list (dQ.of e);obtain⟨j,g1,g2,g3,g4,g5⟩:=xF ea;obtain⟨w,ew,rw'⟩:=r.get g2;have hl:=r.length;have hn:=line63;have fin:EP X Zg σ Q w s:=⟨v,H,I,rw',q⟩;by_cases h0:0<=k
 ·have hj:k.toNat=j:=by
   rw[seqIndex_of h0 g5] at g1;exact Option.some.inj g1
  exact wpAny_getItem_list pl.isList h0 (by omega) (by rw[hj];simpa using ew) fin
 ·have hj:(k+(Zk.toArray.size:Int)).toNat=j:=by
   rw[seqIndex_neg (by omega) g4] at g1;rw[List.size_toArray,<- hl];exact Option.some.inj g1
  exact wpAny_getItem_list_neg pl.isList (by omega) (by rw[List.size_toArray];omega) (by omega) (by rw[hj];simpa using ew) fin
theorem Hq:PIp X .Add U7:=fun Zg s σ H x y v u Q I r1 r2 h=>by
 obtain⟨i,rfl,h1⟩:=dN h;obtain⟨j,rfl,q⟩:=dN h1;exact Td Zg s σ H _ _ v u Q I r1 r2 ⟨i,j,rfl,rfl,q⟩
end
structure UN(P:Params)(K:q0B)(d:Addr):Prop where
 ex:∃ es n,K.lookup d=some {cls:=.type "dict",data:=.dict es n}/\PySem.W.KeysLit P es.toList
noncomputable def Qi(tab:List (Str×Sp))(tk:TE)(t:TA):TE:=fun σ H Q=>tk σ H fun y H1=>eP y fun x=>dG (tab.lookup x) fun sp=>t σ H1 fun vs H2=>sp vs H2 Q E0
theorem OM{X:Cx}{x:Str}{p pos pos':Pos}{d:Addr}{ke e:Expr}{es:List Expr}{tk:TE}{t:TA}{k:Nat}{tab:List (Str×Sp)}(hg:Gl X x)(hm:X.mg x=some (.ref d))(M:UN X.w.params X.K d)(hk:PE X ke tk)(hs:QJ ke)
    (F:∀ y sp,tab.lookup y=some sp->∃ f fd ps,PySem.W.nsIn X.K d y=some (some (.ref f))/\bG X.prog X.w X.K X.mg X.base Zt k f fd ps sp/\PySem.W.keepIn X.K (.ref f)=true/\Binds X.K fd ps [])
    (hr:Room k X.A) (ha:PA X (e::es) t) (hd:(x==("__debug__":Str))=false:=by decide) (he:starEach (e::es) X.env=(false,eval e X.env)::starEach es X.env:=by rfl) (hpl:(backTo pos (starEach es X.env)).any (·.1)=false:=by rfl)
    (hc:eval (.Call (.Subscript (.Name x p) ke pos') (e::es) [] pos) X.env=(do
      let f <- eval (.Subscript (.Name x p) ke pos') X.env
      callWith pos f [] (backTo pos (starEach (e::es) X.env)) (backToKw pos (keywordEach [] X.env))):=by rfl) :
    PE X (.Call (.Subscript (.Name x p) ke pos') (e::es) [] pos) (Qi tab tk t):=fun Zg s σ H Q I h=>by
  obtain⟨es',n',lk,kl⟩:=M.ex;refine PyProof.Rows.Call_ (HM (T:="dict") PySem.F.slot_dict_getitem.lookup hs (thn (tE (v:=.ref d) hg hm rfl hd Zg s σ H (fun v H'=>v=.ref d/\tk σ H' _) I ⟨rfl,h⟩) fun o s1 ⟨v,H1,I1,r1,ev,q1⟩=>?_)) hc;subst ev;obtain rfl:o=Value.ref d:=r1;refine thn (hk Zg s1 σ H1 _ I1 q1) fun i s2 ⟨y,H2,I2,ry,q2⟩=>?_;obtain⟨z,rfl,q3⟩:=LW q2;obtain⟨sp,el,q4⟩:=dR q3;obtain⟨f,fd,ps,hns,hf,hkp,hb⟩:=F z sp el;obtain⟨t',rfl⟩:=ry;obtain⟨m,fr⟩:=I2.fr;refine⟨⟨_,I2.kIn _ _ lk,rfl⟩,PySem.W.topGetDict_K fr I2.mod.kin lk kl hns ?_⟩;refine PySem.W.callWith_K (h₀:=X.base) I2.mod.kin hkp (thn (ha pos Zg _ σ H2 _ (I2.tok _) q4) fun us s3 ⟨vs,H3,I3,r3,q5⟩=>⟨I3.kIn,?_⟩) he hpl;exact Dm (E:=E0) hf hr hb .nil pass0 I3 r3 (by simpa using q5)
section
variable {tab:List (Str×Sp)} {tk to ti te:TE} {t:TA} {σ:St} {H:Hp} {Q:VK} {D:Ends} {p:Addr} {i j:Int} {aaI:V->V->Hp->VK->Prop} {tip:TIp} {aaJ:TSet}
theorem Rv:Qi tab tk t σ H Q=tk σ H fun y H1=>eP y fun x=>dG (tab.lookup x) fun sp=>t σ H1 fun vs H2=>sp vs H2 Q E0:=rfl
theorem RQ:PH (.ref p) (.int i) H Q=bV (H p) fun xs=>dG (iM xs i) fun v=>Q v H:=rfl
theorem VT:U7 (.int i) (.int j) H Q=Q (.int (i+j)) H:=rfl
theorem Rl:Qg to ti te aaI tip aaJ D σ H=to σ H fun o H1=>ti σ H1 fun i H2=>aaI o i H2 fun x H3=>te σ H3 fun y H4=>tip x y H4 fun z H5=>aaJ o i z H5 fun H6=>D.nx σ H6:=rfl
theorem VE{i:Nat}{ti:TIp}:Xq i te ti D σ H = ∃ x,σ[i]?=some (some x)/\te σ H fun y H1=>ti x y H1 fun z H2=>D.nx (σ.set i (some z)) H2:=rfl
end
noncomputable def intKeys:List (Key×V)->Option (List Int)
 | []=>some []
 | (.inl i,_)::r=>(intKeys r).map (i::·)
 | _=>none
theorem zT:∀ {kvs:List (Key×V)} {ns:List Int},intKeys kvs=some ns->kvs.length=ns.length/\∀(j:Nat) (k:Key) (x:V),kvs[j]?=some (k,x)->∃ i:Int,k=.inl i/\ns[j]?=some i
 | [],ns,h=>by cases h;exact⟨rfl,fun j k x e=>by simp at e⟩
 | (k,v)::kvs,ns,h=>by
  cases k with
  | inl i =>
   simp only[intKeys,Option.map_eq_some_iff] at h;obtain⟨ms,e,rfl⟩:=h;obtain⟨l,f⟩:=zT e;refine⟨by simp[l],fun j k x ej=>?_⟩;cases j with
   | zero=>simp only[List.getElem?_cons_zero,Option.some.injEq,Prod.mk.injEq] at ej;exact⟨i,ej.1.symm,rfl⟩
   | succ j=>exact f j k x (by simpa using ej)
  | _=>cases h
theorem Ho{ns:List Int}:∀ {vs:List Value},vs.length=ns.length->(∀(j:Nat) (v:Value),vs[j]?=some v->∃ i t,ns[j]?=some i/\v=Value.int i t)->IntsAre vs ns:=by
 induction ns with
 | nil =>
  intro vs hl _;cases vs with
  | nil=>exact .nil
  | cons _ _=>simp at hl
 | cons n ns ih =>
  intro vs hl h;cases vs with
  | nil=>simp at hl
  | cons v vs =>
   obtain⟨i,t,e,rfl⟩:=h 0 v rfl;cases e;exact .cons _ _ (ih (by simpa using hl) fun j v e=>h (j+1) v (by simpa using e))
theorem dJ.there{P:Program}{w:World}{H:Hp}{h:Heap}{a:Addr}{o:HO}(x:dJ P w H h a o):∃ ob,h.get? a=some ob:=by
 cases o with
 | lst xs=>obtain⟨_,_,_,_,e⟩:=x;exact⟨_,e⟩
 | tup xs=>obtain⟨_,_,_,o,e,_⟩:=x;exact⟨_,e⟩
 | dK kvs=>obtain⟨_,_,_,_,o,_,_,e,_⟩:=x;exact⟨_,e⟩
 | dT kvs=>obtain⟨_,_,_,_,o,_,_,e,_⟩:=x;exact⟨_,e⟩
 | set S n=>obtain⟨o,_,_,_,e,_⟩:=x;exact⟨_,e⟩
 | ins C dx fs=>obtain⟨_,_,_,e,_⟩:=x;exact⟨_,e⟩
 | own y=>obtain⟨_,e⟩:=x;exact⟨_,e⟩
 | xd fs=>obtain⟨_,⟨_,_,_,e,_⟩,_⟩:=x;exact⟨_,e⟩
 | rng lo hi=>obtain⟨_,_,_,e⟩:=x;exact⟨_,e⟩
 | ZF ob u=>obtain⟨e,_⟩:=x;exact⟨_,e⟩
 | tbl ps=>exact⟨_,(show h.get? a=some _ from x)⟩
 | met f y=>exact⟨_,(show h.get? a=some _ from x)⟩
 | ext φ=>obtain⟨_,⟨_,e⟩,_⟩:=x;exact⟨_,e⟩
noncomputable def Q0:List V->Hp->VK->Prop:=fun vs H Q=>on1 vs fun x=>aQ x fun p=>cH (H p) fun kvs=>dG (intKeys kvs) fun ns=>ns.length < 64/\∀(l:Addr) (Zu:List Int),H l=none->Zu.Perm ns->Zu.Pairwise (·<=·)->Q (.ref l) (Zh H l (.lst (Zu.map V.int)))
section
variable {H:Hp} {Q:VK} {p:Addr}
theorem NZ:Q0 [.ref p] H Q=cH (H p) fun kvs=>dG (intKeys kvs) fun ns=>ns.length < 64/\∀(l:Addr) (Zu:List Int),H l=none->Zu.Perm ns->Zu.Pairwise (·<=·)->Q (.ref l) (Zh H l (.lst (Zu.map V.int))):=rfl
end
section
variable {X:Cx} {Zg:List (Addr×Obj)} {σ:St} {H:Hp} {s:Shared} {h':Heap}
theorem Zi.Pp{t':Nat}{ch:List Addr}{p:Addr}{xs:List V}(I:Zi X Zg σ H s)(hf:∀ b∈ch,rT X Zg H b)(k:∀ b o,b∉ch->s.heap.get? b=some o->h'.get? b=some o)(hp:s.heap.objs.size<=p)
    (new:dJ X.prog X.w (Zh H p (.tup xs)) h' p (.tup xs)):Zi X Zg σ (Zh H p (.tup xs)) {s with heap:=h',toks:=t'}:=by
  have hn:H p=none:=I.Zl.fresh hp;have nch:∀ b u,H b=some u->b∉ch:=fun b u e z=>by rw[(hf b z).1] at e;cases e
  have nep:∀ {b u},H b=some u->b≠p:=fun {b u} e z=>by rw[z,hn] at e;cases e
  have aaD:∀ {b u},H b=some u->Zh H p (.tup xs) b=some u:=fun {b u} e=>by rw[aG (nep e)];exact e
  refine I.step (g':=s.gens) (d':=s.drawn) (ch:=ch) (fun b hb=>?_) (fun b o _ _ hc e _=>k b o hc e) (fun b o _ _ hc e _=>⟨o.slots,k b o hc e⟩)
    (fun b o _ e n=>?_) (fun b o hc e=>⟨o,k b o hc e⟩) (fun _ _ e=>aaD e) (fun _ _ _ e=>aaD e) (fun b ps e=>⟨#[],by rw[aaD e];simp⟩) (fun m hm=>?_) (fun b u e=>?_) I.bare
  · obtain⟨_,f1,_,f3,f4,f5⟩:=hf b hb;exact⟨f3,f1,f4,f5⟩
  · rw[aG (Nat.ne_of_lt (Nat.lt_of_lt_of_le (Heap.lt_size e) hp))];exact n
  · obtain⟨o,es,ep,ho,r⟩:=hm;exact⟨o,es,ep,k _ o (fun z=>(hf _ z).2.1 rfl) ho,r⟩
  · by_cases hb:b=p
    · subst hb;rw[aA] at e;cases e;exact new
    · rw[aG hb] at e;refine(I.Zl b u e).tM (fun c v hc q=>k c v ?_ q) (fun _ q=>aaD q) fun _ _ q=>aaD q;rcases hc with z|z
      · rw[z];exact nch b u e
      · exact nch c _ z
theorem Zi.HU{t':Nat}{ch:List Addr}(I:Zi X Zg σ H s)(hf:∀ b∈ch,rT X Zg H b)(k:∀ b o,b∉ch->s.heap.get? b=some o->h'.get? b=some o):Zi X Zg σ H {s with heap:=h',toks:=t'}:=by
 have nch:∀ b u,H b=some u->b∉ch:=fun b u e z=>by rw[(hf b z).1] at e;cases e
 refine I.step (g':=s.gens) (d':=s.drawn) (ch:=ch) (fun b hb=>?_) (fun b o _ _ hc e _=>k b o hc e) (fun b o _ _ hc e _=>⟨o.slots,k b o hc e⟩)
  (fun b o _ e n=>n) (fun b o hc e=>⟨o,k b o hc e⟩) (fun _ _ e=>e) (fun _ _ _ e=>e) (fun b ps e=>⟨#[],by rw[e];simp⟩) (fun m hm=>?_) (fun b u e=>?_) I.bare
 ·obtain⟨_,f1,_,f3,f4,f5⟩:=hf b hb;exact⟨f3,f1,f4,f5⟩
 ·obtain⟨o,es,ep,ho,r⟩:=hm;exact⟨o,es,ep,k _ o (fun z=>(hf _ z).2.1 rfl) ho,r⟩
 ·refine(I.Zl b u e).tM (fun c v hc q=>k c v ?_ q) (fun _ q=>q) fun _ _ q=>q;rcases hc with z|z
  ·rw[z];exact nch b u e
  ·exact nch c _ z
end
noncomputable def SOk(t:Bool)(h:Heap)(a:Addr)(us:Array Value):Prop:=match t with
 | true=>h.IsTuple a us
 | false=>h.IsList a us
noncomputable def SIter(t:Bool)(h:Heap)(it a:Addr)(i:Nat):Prop:=match t with
 | true=>h.IsTupleIter it a i
 | false=>h.IsListIter it a i
theorem SOk.keep{t:Bool}{h h':Heap}{a:Addr}{us:Array Value}(x:SOk t h a us)(e:∀ o,h.get? a=some o->h'.get? a=some o):SOk t h' a us:=by
 cases t<;>(obtain⟨o,ho,r⟩:=x;exact⟨o,e o ho,r⟩)
theorem SIter.keep{t:Bool}{h h':Heap}{it a:Addr}{i:Nat}(x:SIter t h it a i)(e:∀ o,h.get? it=some o->h'.get? it=some o):SIter t h' it a i:=by
 cases t<;>(obtain⟨o,ho,r⟩:=x;exact⟨o,e o ho,r⟩)
theorem SIter.obj{t:Bool}{h:Heap}{it a:Addr}{i:Nat}(x:SIter t h it a i):∃ o,h.get? it=some o/\∀ v,o.data≠.cell v:=by
 cases t<;>(obtain⟨o,ho,c,d⟩:=x;exact⟨o,ho,fun v z=>by rw[d] at z;cases z⟩)
section
variable {prog:Program} {w:World} {A:Around} {E:q0A} {s:Shared}
end
section
variable {prog:Program} {w:World} {A:Around} {E:q0A} {s:Shared}
end
noncomputable def JD(K:q0B)(t:Bool)(H:Hp)(a:Addr)(xs:List V):Prop:=match t with
 | true=>fO K H a xs
 | false=>dQ K H a xs
section
variable {X:Cx} {Zg:List (Addr×Obj)} {σ:St} {H:Hp} {s:Shared} {a:Addr} {xs ys:List V} {t:Bool}
end
noncomputable def Itz(K:q0B)(t u:Bool)(a b:Addr):It :=
  ⟨fun i H=>∃ xs ys x y,JD K t H a xs/\JD K u H b ys/\xs[i]?=some x/\ys[i]?=some y,
   fun i H v H'=>∃ p x y,H p=none/\v=.ref p/\H'=Zh H p (.tup [x,y])/\(∀ xs,JD K t H a xs->xs[i]?=some x)/\∀ ys,JD K u H b ys->ys[i]?=some y,
   fun i H=>∃ xs ys,JD K t H a xs/\JD K u H b ys/\(xs.length<=i\/ys.length<=i)⟩
noncomputable def Ite(K:q0B)(a:Addr):It :=
  ⟨fun i H=>∃ xs x,dQ K H a xs/\xs[i]?=some x,fun i H v H'=>∃ p x,H p=none/\v=.ref p/\H'=Zh H p (.tup [.int i,x])/\∀ xs,dQ K H a xs->xs[i]?=some x,
   fun i H=>∃ xs,dQ K H a xs/\xs.length<=i⟩
theorem JA{P:Program}{w:World}{K:q0B}{elts:List Expr}{k:Nat}{pos:Pos}{e it a:Addr}(ne:e≠it) :
    Turn P w K (.Tuple elts k pos) (Ite K a) [e,it] e (fun i h=>(∃ old,IsEnum h e it i old)/\h.IsListIter it a i) where
  mem:=by simp
  obj:=fun i h st c hc=>by
    obtain⟨⟨old,ee⟩,ei⟩:=st;simp only[List.mem_cons,List.not_mem_nil,or_false] at hc;rcases hc with rfl|rfl
    · exact⟨_,ee,fun v y=>nomatch y⟩
    · exact SIter.obj (t:=false) ei
  keep:=fun i h h' st k=>by
    obtain⟨⟨old,ee⟩,ei⟩:=st;exact⟨⟨old,k e (by simp) _ ee⟩,ei.at fun o q=>k it (by simp) o q⟩
  item:=by
    intro X hP hw hK hc i Zg s σ H E I hf st hg;subst hP hw hK;obtain⟨xs,x,q1,hx⟩:=hg;obtain⟨⟨old,ee⟩,ei⟩:=st;obtain⟨us,r1,s1,_⟩:=I.list q1;obtain⟨x',hx',rx⟩:=r1.get hx;refine wpAny_pyNext_enum_item (x:=x') ee ei s1.isList (by simpa using hx') ne fun h' z' v' np _ kk=>?_;refine⟨_,rfl,wpAny_letOwnedTupleGo_enum z' fun h2 z2 b2=>?_⟩;have lt:∀ c∈[e,it],c≠s.heap.objs.size:=fun c hc=>by
      simp only[List.mem_cons,List.not_mem_nil,or_false] at hc;rcases hc with rfl|rfl
      · exact Nat.ne_of_lt (Heap.lt_size ee)
      · obtain⟨o,e,_⟩:=ei;exact Nat.ne_of_lt (Heap.lt_size e)
    refine⟨.ref s.heap.objs.size,Zh H s.heap.objs.size (.tup [.int i,x]),I.Pp (t':=s.toks+1) (p:=s.heap.objs.size) (h':=h2) hf (fun c o hc e=>?_) (Nat.le_refl _) ⟨show 2<=sizeLine by decide,[.int i s.toks,x'],.cons ⟨_,rfl⟩ (.cons rx .nil),?_⟩,rfl,⟨_,x,I.Zl.fresh (Nat.le_refl _),rfl,rfl,fun l hl=>by rw[I.Ei hl q1];exact hx⟩,?_,fun c hc=>?_⟩
    · exact b2.extBut _ _ (fun q=>hc (by simp[q])) (kk c o (fun q=>hc (by simp[q])) (fun q=>hc (by simp[q])) e)
    · exact⟨_,b2.extBut _ _ (Ne.symm (lt e (by simp))) np,rfl,0,rfl⟩
    · exact⟨⟨_,by simpa using z2⟩,v'.extBut b2.extBut (Ne.symm ne)⟩
    · rw[aG (lt c hc)];exact(hf c hc).1
  done:=by
    intro X hP hw hK hc i Zg s σ H E I hf st hg;subst hP hw hK;obtain⟨xs,q1,hl⟩:=hg;obtain⟨⟨old,ee⟩,ei⟩:=st;obtain⟨us,r1,s1,_⟩:=I.list q1;have l1:=r1.length;exact wpAny_pyNext_enum_end (I.ok.hd hc) ee ei s1.isList (by simp;omega) fun h' kk=>⟨rfl,I.HU (t':=s.toks) hf fun c o hc q=>kk c o (fun z=>hc (by simp[z])) q⟩
  self:=fun _ _ _ _ _ st h=>by
    obtain⟨⟨old,ee⟩,_⟩:=st;exact wpAny_pyIter_enum ee h
section
variable {X:Cx} {elts:List Expr} {k:Nat} {tp:Pos}
noncomputable def Tb(K:q0B)(ta:TA):TI:=fun σ H R=>ta σ H fun vs H1=>on2 vs fun x y=>aQ x fun a=>aQ y fun b=>∃ t u,(∃ xs,JD K t H1 a xs)/\(∃ ys,JD K u H1 b ys)/\R (Itz K t u a b) H1
noncomputable def Ot(K:q0B)(ta:TA):TI:=fun σ H R=>ta σ H fun vs H1=>on1 vs fun x=>aQ x fun a=>(∃ xs,dQ K H1 a xs)/\R (Ite K a) H1
theorem OP{a:Expr}{ta:TA}{p pos:Pos}(hg:Gl X "enumerate")(hm:X.mg "enumerate"=none)(ha:PA X [a] ta)(hs:starEach [a] X.env=[(false,eval a X.env)]:=by rfl):PI X (.Tuple elts k tp) (.Call (.Name "enumerate" p) [a] [] pos) (Ot X.K ta):=by
 intro Zg s σ H R I h;refine Call_ (qT I hg hm boot_enumerate (PyProof.Rows.callWith_type1 (thn (ha pos Zg s σ H _ I h) fun us s1 ⟨vs,H1,I1,r1,q1⟩=>?_) hs rfl));have q1:on1 vs _:=q1;rw[<- TB] at q1;obtain⟨x,rfl,q2⟩:=q1;obtain⟨c,rfl,⟨xs,hx⟩,q⟩:=aS q2;cases r1 with
 | cons r rr =>
  cases rr;cases r;obtain⟨_,_,s2,_⟩:=I1.list hx;refine call_enumerate_list s2.isList fun h' ee ei _ kk=>?_;refine wpAny_pyIter_enum (s:={s1 with heap:=h'}) ee ⟨_,_,_,_,H1,rfl,I1.kept (t':=s1.toks) kk,JA (Nat.ne_of_gt (Nat.lt_succ_self _)),⟨⟨_,ee⟩,ei⟩,fun b hb=>?_,q⟩;have:s1.heap.objs.size<=b:=by
   simp only[List.mem_cons,List.not_mem_nil,or_false] at hb;rcases hb with rfl|rfl<;>first|exact Nat.le_succ _|exact Nat.le_refl _
  exact I1.D4 this (I1.Zl.fresh this)
end
section
variable {σ:St} {H:Hp} {D:Ends} {g:TG} {tb:TS} {as:TA} {K:q0B}
theorem RO:rL (Tb K as) g tb D σ H=as σ H fun vs H1=>on2 vs fun x y=>aQ x fun a=>aQ y fun b=>∃ t u,(∃ xs,JD K t H1 a xs)/\(∃ ys,JD K u H1 b ys)/\lp (Itz K t u a b) g tb D σ H1:=rfl
theorem RK:rL (Ot K as) g tb D σ H=as σ H fun vs H1=>on1 vs fun x=>aQ x fun a=>(∃ xs,dQ K H1 a xs)/\lp (Ite K a) g tb D σ H1:=rfl
theorem Lm{a:Addr}{xs:List V}(Pv:Nat->St->Hp->Prop)(h0:Pv 0 σ H)(hl:∀ i σ H,i<=xs.length->Pv i σ H->dQ K H a xs)
    (hs:∀(i:Nat) x σ H,xs[i]?=some x->Pv i σ H->∀ p,H p=none->g (.ref p) σ (Zh H p (.tup [.int i,x])) fun σ2 H2=>tb {D with nx:=Pv (i+1),ct:=Pv (i+1),bk:=D.nx} σ2 H2) (hd:∀ σ H,Pv xs.length σ H->D.nx σ H):lp (Ite K a) g tb D σ H:=by
  refine⟨fun i m σ H=>m=xs.length - i/\i<=xs.length/\Pv i σ H,⟨xs.length,by simp,Nat.zero_le _,h0⟩,?_⟩;rintro i m σ H ⟨rfl,hi,pv⟩;have q1:=hl i σ H hi pv;by_cases lt:i < xs.length
  · refine .inr ⟨⟨xs,xs[i],q1,by simp[lt]⟩,Pv (i+1),fun σ' H' p'=>⟨xs.length - (i+1),by omega,rfl,lt,p'⟩,fun v H' yy=>?_⟩;obtain⟨p,x,hp,rfl,rfl,e1⟩:=yy;exact hs i x σ H (e1 xs q1) pv p hp
  · obtain rfl:i=xs.length:=by omega
    exact .inl ⟨⟨xs,q1,Nat.le_refl _⟩,hd σ H pv⟩
end
structure GN(X:Cx)(sc:Scope)(cl:List (Str×Addr))(x y0:Str)(fr:List Nat)(N:List Str):Prop where
 kind:sc.kind=.function
 Aj:∀ y∈sc.names,y.2≠.cell
 names:∀ y∈sc.names,y.2=.local->sc.names.lookup y.1=some .local
 DR:closureFor sc X.env=pure cl
 sub:∀ y c,cl.lookup y=some c->X.env.cells.lookup y=some c
 has:∀ y,((relabel sc X.env).names.lookup y=some .cell\/(relabel sc X.env).names.lookup y=some .free)->∃ c,cl.lookup y=some c
 tgt:sc.names.lookup x=some .local
 XA:sc.names.lookup y0=some .local
 nd:N.Nodup
 N0:N=x::y0::fr.map fun j=>X.N.getD j x
 frc:∀ j∈fr,∃ y,X.N[j]?=some y/\X.env.kindOf y=some .cell/\((relabel sc X.env).names.lookup y=some .cell\/(relabel sc X.env).names.lookup y=some .free)
section
variable {X:Cx} {Zg:List (Addr×Obj)} {σ:St} {H:Hp} {s:Shared} {sc:Scope} {cl:List (Str×Addr)} {C:Addr} {x y0:Str} {fr:List Nat} {N:List Str} {fp:List Addr}
end
@[irreducible] def vT(K:q0B)(wi:TI)(fr:List Nat)(tc:TT)(te:TE):TE:=fun σ H Q=>wi σ H fun J H1=>∃ W:Nat->Nat->List V->Hp->Prop,(∃ m,W 0 m [] H1)/\∀ i m xs H,W i m xs H->xs.length<=1000000 /\
  ((J.stop i H/\∀ p,H p=none->Q (.ref p) (Zh H p (.lst xs))) \/
   (J.go i H/\∀ v H',J.yld i H v H'->∃ p y y2,v=.ref p/\fO K H' p [y,y2]/\tc (some y::some y2::bE fr σ) H' fun b H2=>if b=true then te (some y::some y2::bE fr σ) H2 (fun z H3=>∃ m',m' < m/\W (i+1) m' (xs++[z]) H3) else ∃ m',m' < m/\W (i+1) m' xs H2))
section
variable {X:Cx} {sc:Scope} {cl:List (Str×Addr)} {x y0:Str} {fr:List Nat} {N:List Str} {elt iter:Expr} {px py tp pos:Pos} {tk:Nat} {ifs:List Expr} {wi:TI} {tc:TT} {te:TE}
end
theorem GN.of{X:Cx}{sc:Scope}{cl:List (Str×Addr)}{x y0:Str}{fr:List Nat}{N M:List Str}(S:dW X sc cl x fr M)(XA:sc.names.lookup y0=some .local)(nd:N.Nodup)(N0:N=x::y0::fr.map fun j=>X.N.getD j x):GN X sc cl x y0 fr N :=
 ⟨S.kind,S.Aj,S.names,S.DR,S.sub,S.has,S.tgt,XA,nd,N0,S.frc⟩
noncomputable def lc2(K:q0B)(J:It)(fr:List Nat)(tc:TT)(te:TE)(σ:St)(H:Hp)(Q:VK):Prop:=∃ W:Nat->Nat->List V->Hp->Prop,(∃ m,W 0 m [] H)/\∀ i m xs H,W i m xs H->xs.length<=1000000 /\
  ((J.stop i H/\∀ p,H p=none->Q (.ref p) (Zh H p (.lst xs))) \/
   (J.go i H/\∀ v H',J.yld i H v H'->∃ p y y2,v=.ref p/\fO K H' p [y,y2]/\tc (some y::some y2::bE fr σ) H' fun b H2=>if b=true then te (some y::some y2::bE fr σ) H2 (fun z H3=>∃ m',m' < m/\W (i+1) m' (xs++[z]) H3) else ∃ m',m' < m/\W (i+1) m' xs H2))
section
variable {fr:List Nat} {tc:TT} {te:TE} {σ:St} {H:Hp} {Q:VK} {as:TA} {K:q0B}
theorem Kk:vT K (Tb K as) fr tc te σ H Q=as σ H fun vs H1=>on2 vs fun x y=>aQ x fun a=>aQ y fun b=>∃ t u,(∃ xs,JD K t H1 a xs)/\(∃ ys,JD K u H1 b ys)/\lc2 K (Itz K t u a b) fr tc te σ H1 Q:=by
 unfold vT Tb;rfl
theorem Ki:vT K (Ot K as) fr tc te σ H Q=as σ H fun vs H1=>on1 vs fun x=>aQ x fun a=>(∃ xs,dQ K H1 a xs)/\lc2 K (Ite K a) fr tc te σ H1 Q:=by
 unfold vT Ot;rfl
end
inductive rS:List DictEntry->List (Key×V)->Prop
 | nil:rS [] []
 | cons {h:Int} {x:Str} {t:Tok} {u:Value} {v:V} {es:List DictEntry} {kvs:List (Key×V)}:bH v u->rS es kvs->rS ({hash:=h,key:=.str x t,val:=u}::es) ((.inr x,v)::kvs)
noncomputable def JS(d:Addr)(kvs:List (Key×V)):List V->Hp->VK->Prop:=fun vs H Q=>vs=[.ref d]/\∀ p,H p=none->Q (.ref p) (Zh H p (.dK kvs))
theorem rS.vals{P:Program}{w:World}{es:List DictEntry}{kvs:List (Key×V)}(h:rS es kvs):∃ vs:List (Key×Value),KV kvs vs/\Pairs (bU P w) es vs:=by
 induction h with
 | nil=>exact⟨[],.nil,.nil⟩
 | @cons h x t u v es kvs r _ ih =>
  obtain⟨vs,a,b⟩:=ih;exact⟨(.inr x,u)::vs,.cons ⟨rfl,r⟩ a,.cons (wD P w x t) rfl b⟩
theorem Nu{d:Addr}{kvs:List (Key×V)}{H:Hp}{Q:VK}:JS d kvs [.ref d] H Q = ∀ p,H p=none->Q (.ref p) (Zh H p (.dK kvs)):=by simp[JS]
noncomputable def ID:Option HO->Option Bool
 | some (.lst _)=>some true
 | some (.tup _)=>some false
 | _=>none
noncomputable def PJ:List V->Hp->VK->Prop:=fun vs H Q=>on2 vs fun x y=>aQ x fun p=>y=.ty "list"/\dG (ID (H p)) fun b=>Q (.bl b) H
section
variable {X:Cx}
noncomputable def PL(K:q0B):List V->Hp->VK->Prop:=fun vs H Q=>on1 vs fun x=>aQ x fun p=>∃ xs,fO K H p xs/\Q (.int xs.length) H
theorem H8:eX X (.builtin "len") (PL X.K):=fun Zg s σ H xs us Q I r h=>by
 obtain⟨x,rfl,h1⟩:=iS h;obtain⟨p,rfl,ys,e,q⟩:=aS h1;exact sA Zg s σ H _ us Q I r ⟨p,ys,rfl,.inr e,q⟩
variable {o:Expr} {to:TE} {apos Zo:Pos}
noncomputable def M7(to:TE):TE:=fun σ H Q=>to σ H fun x H1=>aQ x fun a=>bV (H1 a) fun _=>Q .Zj (Zh H1 a (.lst []))
end
section
variable {H:Hp} {Q:VK} {p:Addr} {σ:St} {to:TE} {vs:List V}
theorem Sd:PJ [.ref p,.ty "list"] H Q=dG (ID (H p)) fun b=>Q (.bl b) H:=by
 unfold PJ on2;simp only[aQ,true_and]
theorem Sr{K:q0B}:PL K [.ref p] H Q = ∃ xs,fO K H p xs/\Q (.int xs.length) H:=rfl
theorem V1:ID (some (.lst vs))=some true:=rfl
theorem V2:ID (some (.tup vs))=some false:=rfl
theorem KI:M7 to σ H Q=to σ H fun x H1=>aQ x fun a=>bV (H1 a) fun _=>Q .Zj (Zh H1 a (.lst [])):=rfl
theorem V8{a b:Bool}:Ud (.bl a) (.bl b) H Q=Q (.bl (!decide (a=b))) H:=by simp only[Ud,show scal (.bl a) (.bl b)=true from rfl,V.bl.injEq,true_and]
end
noncomputable def Vk(K:q0B):List V->Hp->VK->Prop:=fun vs H Q=>on1 vs fun x=>aQ x fun p=>∃ ns:List Int,dQ K H p (ns.map V.int)/\∀ z:Int,Q (.int z) H
noncomputable def US(K:q0B):R2:=fun x y H Q=>aQ x fun a=>aQ y fun b=>∃ xs ys,dQ K H a xs/\dQ K H b ys/\xs.length+ys.length<=sizeLine/\∀ p,H p=none->Q (.ref p) (Zh H p (.lst (xs++ys)))
theorem QP:bootBuiltins "sum"=some (.builtin "sum"):=by decide +kernel
theorem GI:∀ {ns:List Int} {us:List Value},Vals (ns.map V.int) us->∃ ps:List (Int×Tok),us.toArray=intItems ps.toArray:=by
 intro ns
 induction ns with
 | nil=>intro us r;cases r;exact⟨[],by simp[intItems]⟩
 | cons n ns ih =>
  intro us r;cases r with
  | cons h t =>
   obtain⟨k,rfl⟩:=h;obtain⟨ps,e⟩:=ih t;refine⟨(n,k)::ps,?_⟩;have e':=congrArg Array.toList e;simp only[intItems,List.map_toArray] at e' ⊢;simp only[List.map_cons];rw[show _=ps.map fun p=>Value.int p.1 p.2 from e']
section
variable {X:Cx}
theorem Ic(hc:X.calm=true):eX X (.builtin "sum") (Vk X.K):=fun Zg s σ H xs us Q I r h=>by
 obtain⟨x,rfl,h1⟩:=iS h;obtain⟨p,rfl,ns,hq,q⟩:=aS h1;obtain⟨u,rfl,ru⟩:=vals1 r;cases ru;obtain⟨Zk,rv,pl,hz⟩:=I.list hq;obtain⟨ps,e⟩:=GI rv;have hl:=pl.isList;rw[e] at hl;exact sum_intListG (I.ok.hd hc) hl fun h' tk t' kk=>⟨.int _,H,I.kept (t':=tk) kk,⟨t',rfl⟩,q _⟩
end
section
variable {K:q0B} {H:Hp} {Q:VK} {p a b:Addr}
theorem Wx:Vk K [.ref p] H Q = ∃ ns:List Int,dQ K H p (ns.map V.int)/\∀ z:Int,Q (.int z) H:=rfl
theorem Rp:US K (.ref a) (.ref b) H Q = ∃ xs ys,dQ K H a xs/\dQ K H b ys/\xs.length+ys.length<=sizeLine/\∀ p,H p=none->Q (.ref p) (Zh H p (.lst (xs++ys))):=rfl
end
section
variable {X:Cx} {sc:Scope} {cl:List (Str×Addr)} {x y0:Str} {fr:List Nat} {N:List Str} {elt iter:Expr} {px px0 tp pos:Pos} {tk:Nat} {ifs:List Expr} {wi:TI} {tc:TT} {te:TE}
end
section
variable {a b:TS} {D:Ends} {σ:St} {H:Hp}
theorem aF(h:∀ R:St->Hp->Prop,(∀ σ' H',b D σ' H'->R σ' H')->a {D with nx:=R} σ H):Pj a b D σ H:=h (b D) fun _ _ x=>x
end
section
variable {td ty tv:TE} {trs:List (TE×TE)} {tk:TE} {σ:St} {H:Hp} {Q:VK} {D:Ends}
theorem KQ:HN ty td σ H Q=ty σ H fun y H1=>td σ H1 fun x H2=>aQ x fun a=>∃ o,Zy H2 a y o/\Q (.bl (!o.isSome)) H2:=by
 unfold HN
 congr 1
 funext y H1
 congr 1
 funext x H2;exact propext ⟨fun⟨a,o,e,h⟩=>by subst e;exact⟨o,h⟩,fun h=>by obtain⟨a,rfl,o,h⟩:=aS h;exact⟨a,o,rfl,h⟩⟩
theorem SJ:P9 td ty tv D σ H=tv σ H fun v H1=>td σ H1 fun x H2=>ty σ H2 fun y H3=>aQ x fun a=>∃ H4,aaC H3 a y v H4/\D.nx σ H4:=by
 unfold P9
 congr 1
 funext v H1
 congr 1
 funext x H2
 congr 1
 funext y H3;exact propext ⟨fun⟨a,H4,e,h⟩=>by subst e;exact⟨H4,h⟩,fun h=>by obtain⟨a,rfl,H4,h⟩:=aS h;exact⟨a,H4,rfl,h⟩⟩
theorem Sz:Uz σ H Q = ∀ p,H p=none->Q (.ref p) (Zh H p (.dT [])):=rfl
theorem KP{R:List (V×V)->Hp->Prop}:rM [] σ H R=R [] H:=rfl
theorem NU{R:List (V×V)->Hp->Prop}:rM ((tk,tv)::trs) σ H R=tk σ H fun x H1=>tv σ H1 fun y H2=>rM trs σ H2 fun ps H3=>R ((x,y)::ps) H3:=rfl
theorem Zy.tt{a b:Addr}{kvs:List (List Key×V)}{k:List Key}(e:H a=some (.dT kvs))(eb:H b=some (.tup (k.map kV))):Zy H a (.ref b) (bT kvs k):=Zy.t e eb
end
section
variable {P:Program} {W:World} {A:Around} {E:q0A} {s:Shared} {dd it:Addr} {es:Array DictEntry} {ep i:Nat}
noncomputable def xT(h:Heap)(dd:Addr)(es:Array DictEntry)(ep:Nat):Prop:=∃ o,h.get? dd=some o/\o.ExactDict/\o.data=.dict es ep
theorem xT.ty(x:xT s.heap dd es ep):s.TypeIs (.ref dd) "dict":=let ⟨o,e,c,_⟩:=x;⟨o,e,c.1⟩
theorem xT.to{h h':Heap}(x:xT h dd es ep)(k:∀ o,h.get? dd=some o->h'.get? dd=some o):xT h' dd es ep:=let ⟨o,e,r⟩:=x;⟨o,k _ e,r⟩
theorem xT.lt{h:Heap}(x:xT h dd es ep):dd < h.objs.size:=let ⟨_,e,_⟩:=x;Heap.lt_size e
end
section
open PySem.W
inductive xU{α:Type}(n:Nat)(R:α->Prop):KasT α->Prop
 | ret {a:α}:R a->xU n R (.ret a)
 | ask {i j:Nat} {k:Bool->KasT α}:i < n->j < n->(∀ b,xU n R (k b))->xU n R (.ask i j k)
theorem xU.bind{α β:Type}{n:Nat}{R:α->Prop}{S:β->Prop}{t:KasT α}{f:α->KasT β}(h:xU n R t)(g:∀ a,R a->xU n S (f a)):xU n S (t.bind f):=by
 induction h with
 | ret x=>exact g _ x
 | ask i j _ ih=>exact .ask i j ih
noncomputable def Pm(n:Nat)(p:Array Nat):Prop:=p.Perm (List.toArray (List.range n))
variable {n:Nat} {p:Array Nat}
theorem Pm.get(h:Pm n p)(hn:0 < n)(i:Nat):p.getD i 0 < n:=by
 by_cases hi:i < p.size
 ·have m:p[i]∈p:=Array.getElem_mem hi;have:=h.mem_iff.mp m;simp only[List.mem_toArray,List.mem_range] at this;simpa[Array.getD,hi] using this
 ·simpa[Array.getD,hi] using hn
end
section
open PySem.W
variable {P:Program} {W:World} {A:Around} {E:q0A} {s:Shared}
noncomputable def Pr2(h:Heap)(v:Value):Prop:=∃ a o x y t u c,v=.ref a/\h.get? a=some o/\o.cls=.type "tuple"/\o.data=.seq #[.int x t,.int y u] c
theorem Pr2.to{h h':Heap}{v:Value}(x:Pr2 h v)(k:∀ b o,h.get? b=some o->h'.get? b=some o):Pr2 h' v:=by
 obtain⟨a,o,x,y,t,u,c,e,g,r⟩:=x;exact⟨a,o,x,y,t,u,c,e,k _ _ g,r⟩
end
noncomputable def Q1:List V->Hp->VK->Prop:=fun vs H Q=>on1 vs fun x=>aQ x fun p=>∃ kvs:List (List Key×V),H p=some (.dT kvs)/\kvs.length < 64/\(∀ kv∈kvs,∃ i j:Int,kv.1=[.inl i,.inl j]) /\
 ∀(l:Addr) (us:List V),H l=none->us.length=kvs.length->(∀ u∈us,∃(a:Addr) (i j:Int),u=.ref a/\H a=some (.tup [.int i,.int j]))->Q (.ref l) (Zh H l (.lst us))
theorem KT.at{H:Hp}{kvs:List (List Key×V)}{xs:List (List Key×Addr×Value)}(r:KT H kvs xs):∀ {j:Nat} {x:List Key×Addr×Value},xs[j]?=some x->∃ kv,kvs[j]?=some kv/\H x.2.1=some (.tup (kv.1.map kV)):=by
 induction r with
 | nil=>intro j x e;simp at e
 | cons h _ ih =>
  intro j x e;cases j with
  | zero=>simp only[List.getElem?_cons_zero,Option.some.injEq] at e;subst e;exact⟨_,rfl,h.2.1⟩
  | succ j=>exact ih (by simpa using e)
theorem KT.len{H:Hp}{kvs:List (List Key×V)}{xs:List (List Key×Addr×Value)}(r:KT H kvs xs):kvs.length=xs.length:=by
 induction r with
 | nil=>rfl
 | cons _ _ ih=>simp[ih]
noncomputable def QW:List V->Hp->VK->Prop:=fun vs H Q=>on1 vs fun x=>aQ x fun p=>∃ kvs:List (List Key×V),H p=some (.dT kvs)/\Q (.int kvs.length) H
noncomputable def Vd:R2:=fun x y H Q=>aQ x fun a=>aQ y fun b=>∃ kvs:List (List Key×V),H a=some (.dT kvs)/\H b=some (.dT [])/\Q (.bl (!kvs.isEmpty)) H
section
variable {P:Program} {W:World} {A:Around} {E:q0A} {s:Shared} {a b:Addr} {es fs:Array DictEntry} {ep fp:Nat}
end
noncomputable def Vc:R2:=fun x y H Q=>aQ x fun a=>aQ y fun b=>∃ kvs:List (Key×V),H a=some (.dK kvs)/\H b=some (.dK kvs)/\(∀ kv∈kvs,∃ c,kv.2=.ref c/\bT kvs kv.1=some (.ref c))/\Q (.bl false) H
noncomputable def Itg(lo c:Int)(n:Nat):It:=⟨fun i _=>i < n,fun i H x H'=>H'=H/\x=.int (lo+i * c),fun i _=>n<=i⟩
theorem E1{P:Program}{w:World}{K:q0B}{tg:Expr}(it:Addr)(lo c:Int)(n:Nat):Turn P w K tg (Itg lo c n) [it] it (fun i h=>IsRangeIter h it (lo+(i:Nat) * c) ((n:Int) - (i:Nat)) c) where
 mem:=by simp
 obj:=fun i h st b hb=>by
  have e:b=it:=by simpa using hb
  subst e;exact⟨_,st,fun v z=>by
   have z':Data.fields _=Data.cell v:=z;cases z'⟩
 keep:=fun i h h' st k=>k it (by simp) _ st
 item:=by
  intro X hP hw hK hc i Zg s σ H E I hf st hg;subst hP hw hK;obtain⟨f0,f1,f2,f3,f4,f5⟩:=hf it (by simp);have W:=Walks.range (prog:=X.prog) (w:=X.w) (I.ok.hd hc) it lo c n;refine W.item i s _ _ hg st fun v h' tk hv ZR kk=>?_;obtain⟨t,rfl⟩:=hv;have I1:Zi X Zg σ H {s with heap:=h',toks:=tk}:=I.turned (fun b o hb e=>kk b o (by simpa using hb) e) f0 f1 f3 f4 f5;exact⟨_,rfl,D7 (s:={s with heap:=h',toks:=tk}) (n:="range_iterator") ZR rfl rfl (by decide) ⟨.int (lo+i * c),H,I1,⟨t,rfl⟩,⟨rfl,rfl⟩,ZR,fun b hb=>(hf b hb).1⟩⟩
 done:=by
  intro X hP hw hK hc i Zg s σ H E I hf st hg;subst hP hw hK;obtain⟨f0,f1,f2,f3,f4,f5⟩:=hf it (by simp);exact wpAny_pyNext_range_end (I.ok.hd hc) st (by have:n<=i:=hg;omega) fun h' eb=>⟨rfl,I.turned (t':=s.toks) (fun b o hb e=>eb b o hb e) f0 f1 f3 f4 f5⟩
 self:=fun _ _ _ _ _ st h=>wpAny_pyIter_rangeiter st h
noncomputable def WJ(lo hi c:Int)(n:Nat)(ta:TA):TI:=fun σ H R=>ta σ H fun vs H1=>vs=[.int lo,.int hi,.int c]/\R (Itg lo c n) H1
section
variable {X:Cx} {tg:Expr}
end
section
variable {σ:St} {H:Hp} {D:Ends} {g:TG} {tb:TS} {as:TA} {Q:VK} {a b:Addr} {p:Addr}
theorem NC{lo hi c:Int}{n:Nat}:rL (WJ lo hi c n as) g tb D σ H=as σ H fun vs H1=>vs=[.int lo,.int hi,.int c]/\lp (Itg lo c n) g tb D σ H1:=rfl
theorem Fx{lo c:Int}{n:Nat}(Pv:Nat->St->Hp->Prop)(h0:Pv 0 σ H)
    (hs:∀ i σ H,i < n->Pv i σ H->g (.int (lo+i * c)) σ H fun σ2 H2=>tb {D with nx:=Pv (i+1),ct:=Pv (i+1),bk:=D.nx} σ2 H2) (hd:∀ σ H,Pv n σ H->D.nx σ H):lp (Itg lo c n) g tb D σ H:=by
  refine⟨fun i m σ H=>m=n - i/\i<=n/\Pv i σ H,⟨n,by simp,Nat.zero_le _,h0⟩,?_⟩;rintro i m σ H ⟨rfl,hi,p⟩;by_cases ZK:i < n
  · refine .inr ⟨ZK,Pv (i+1),fun σ' H' p'=>⟨n - (i+1),by omega,rfl,ZK,p'⟩,fun x H' y=>?_⟩;obtain⟨e,y⟩:=y;subst e y;exact hs i σ _ ZK p
  · have e:i=n:=by omega
    subst e;exact .inl ⟨Nat.le_refl _,hd σ H p⟩
theorem Oa:Q1 [.ref p] H Q = ∃ kvs:List (List Key×V),H p=some (.dT kvs)/\kvs.length < 64/\(∀ kv∈kvs,∃ i j:Int,kv.1=[.inl i,.inl j]) /\
 ∀(l:Addr) (us:List V),H l=none->us.length=kvs.length->(∀ u∈us,∃(a:Addr) (i j:Int),u=.ref a/\H a=some (.tup [.int i,.int j]))->Q (.ref l) (Zh H l (.lst us)):=rfl
theorem Sx:Vd (.ref a) (.ref b) H Q = ∃ kvs:List (List Key×V),H a=some (.dT kvs)/\H b=some (.dT [])/\Q (.bl (!kvs.isEmpty)) H:=rfl
theorem Sw:Vc (.ref a) (.ref b) H Q = ∃ kvs:List (Key×V),H a=some (.dK kvs)/\H b=some (.dK kvs)/\(∀ kv∈kvs,∃ c,kv.2=.ref c/\bT kvs kv.1=some (.ref c))/\Q (.bl false) H:=rfl
theorem Ry{trs:List (TE×TE)}:Xt trs σ H Q = ∀ p,H p=none->rM trs σ (Zh H p (.dK [])) fun ps H2=>H2 p=some (.dK [])/\∃ kvs:List (Key×V),ps=kvs.map (fun kv=>(kV kv.1,kv.2))/\kvs.length<=15/\Q (.ref p) (Zh H2 p (.dK (Dc [] kvs))):=rfl
theorem NI:QW [.ref p] H Q = ∃ kvs:List (List Key×V),H p=some (.dT kvs)/\Q (.int kvs.length) H:=rfl
end
noncomputable def B5(H:Hp):V->Option Bool
 | .ref p=>ID (H p)
 | .int _=>some false
 | .str _=>some false
 | .Zj=>some false
 | _=>none
noncomputable def U8:List V->Hp->VK->Prop:=fun vs H Q=>on2 vs fun x y=>y=.ty "list"/\dG (B5 H x) fun b=>Q (.bl b) H
section
variable {H:Hp} {Q:VK} {x:V} {p:Addr} {i:Int} {z:Str}
theorem Sa:U8 [x,.ty "list"] H Q=dG (B5 H x) fun b=>Q (.bl b) H:=by
 show(V.ty "list"=V.ty "list"/\_)=_;simp only[true_and]
theorem VZ:B5 H (.ref p)=ID (H p):=rfl
theorem VX:B5 H (.int i)=some false:=rfl
theorem V0:B5 H (.str z)=some false:=rfl
theorem VY:B5 H .Zj=some false:=rfl
end
noncomputable def YU(ta tb:TE):TE:=fun σ H Q=>ta σ H fun x H1=>dG (w9 H1 x) fun c=>if c=true then Q x H1 else tb σ H1 Q
noncomputable def Xp(ta tb:TE):TE:=fun σ H Q=>ta σ H fun x H1=>dG (w9 H1 x) fun c=>if c=true then tb σ H1 Q else Q x H1
section
variable {X:Cx} {a b:Expr} {rest:List Expr} {pos:Pos} {ta tb:TE}
end
noncomputable def LU(x:V)(k:Int->Prop)(_u:Tg k:=()):Prop:=match x with
 | .Zj=>k 0
 | .int i=>k i
 | _=>False
noncomputable def YT(ta:TE):TE:=fun σ H Q=>ta σ H fun x H1=>LU x fun i=>Q (.int i) H1
noncomputable def Xa(i:Int)(ns:List Int):Option Nat:=ns.findIdx? fun j=>decide (j=i)
noncomputable def Yh:V->List V->Hp->VK->Prop:=fun x vs H Q=>aQ x fun l=>on1 vs fun y=>eO y fun i=>∃ ns:List Int,H l=some (.lst (ns.map V.int))/\dG (Xa i ns) fun k=>Q .Zj (Zh H l (.lst ((ns.eraseIdx k).map V.int)))
section
variable {X:Cx}
end
noncomputable def Vl:R2:=fun x y H Q=>aQ x fun a=>eO y fun k=>gX (H a) fun xs=>xs≠[]/\((k=1/\Q x H)\/(k=0/\∀ p,H p=none->Q (.ref p) (Zh H p (.tup []))))
section
variable {X:Cx}
end
section
variable {σ:St} {H:Hp} {Q:VK} {ta tb:TE} {l a:Addr} {i:Int}
theorem Wk:YU ta tb σ H Q=ta σ H fun x H1=>dG (w9 H1 x) fun c=>if c=true then Q x H1 else tb σ H1 Q:=rfl
theorem Rf:Xp ta tb σ H Q=ta σ H fun x H1=>dG (w9 H1 x) fun c=>if c=true then tb σ H1 Q else Q x H1:=rfl
theorem Wj:YT ta σ H Q=ta σ H fun x H1=>LU x fun i=>Q (.int i) H1:=rfl
theorem Wd{k:Int->Prop}{u:Tg k}:LU (.int i) k u=k i:=rfl
theorem We{k:Int->Prop}{u:Tg k}:LU .Zj k u=k 0:=rfl
theorem Wp:Yh (.ref l) [.int i] H Q = ∃ ns:List Int,H l=some (.lst (ns.map V.int))/\dG (Xa i ns) fun k=>Q .Zj (Zh H l (.lst ((ns.eraseIdx k).map V.int))):=rfl
theorem SS:Vl (.ref a) (.int i) H Q=gX (H a) fun xs=>xs≠[]/\((i=1/\Q (.ref a) H)\/(i=0/\∀ p,H p=none->Q (.ref p) (Zh H p (.tup [])))):=rfl
end
noncomputable def Rising(l:List Nat):Prop:=l.Pairwise (· < ·)
theorem yH(xs:Array Nat)(j:Nat)(hr:Rising xs.toList):∀(fuel lo hi:Nat),hi - lo<=fuel->lo<=hi->hi<=xs.size ->
    (∀ i (h:i < xs.size),i < lo->xs[i] < j)->(∀ i (h:i < xs.size),hi<=i->j<=xs[i]) ->
    (∀ i (h:i < xs.size),i < SetTable.below.go xs j fuel lo hi->xs[i] < j)/\(∀ i (h:i < xs.size),SetTable.below.go xs j fuel lo hi<=i->j<=xs[i])/\SetTable.below.go xs j fuel lo hi<=xs.size
  | 0,lo,hi,hf,hl,hh,h1,h2=>by
    have:lo=hi:=by omega
    subst this;exact⟨h1,h2,hh⟩
  | fuel+1,lo,hi,hf,hl,hh,h1,h2=>by
    have mono:∀ i k (hi:i < xs.size) (hk:k < xs.size),i < k->xs[i] < xs[k]:=fun i k hi hk hik=>by
      have:=List.pairwise_iff_getElem.mp hr i k (by simpa using hi) (by simpa using hk) hik;simpa using this
    unfold SetTable.below.go;by_cases c:lo < hi
    · rw[if_pos c];have hm:(lo+hi) / 2 < xs.size:=by omega
      have em:xs.getD ((lo+hi) / 2) j=xs[(lo+hi) / 2]:=by simp[Array.getD,hm]
      simp only[em];by_cases d:xs[(lo+hi) / 2] < j
      · rw[if_pos d];refine yH xs j hr fuel _ hi (by omega) (by omega) hh (fun i h ZK=>?_) h2;by_cases e:i=(lo+hi) / 2
        · subst e;exact d
        · exact Nat.lt_trans (mono i _ h hm (by omega)) d
      · rw[if_neg d];refine yH xs j hr fuel lo _ (by omega) (by omega) (by omega) h1 (fun i h hle=>?_);by_cases e:i=(lo+hi) / 2
        · subst e;omega
        · have:=mono _ i hm h (by omega);omega
    · rw[if_neg c];have:lo=hi:=by omega
      subst this;exact⟨h1,h2,hh⟩
theorem qL(xs:Array Nat)(j:Nat)(hr:Rising xs.toList):(∀ i (h:i < xs.size),i < SetTable.below xs j->xs[i] < j)/\(∀ i (h:i < xs.size),SetTable.below xs j<=i->j<=xs[i])/\SetTable.below xs j<=xs.size :=
 yH xs j hr xs.size 0 xs.size (by omega) (by omega) (Nat.le_refl _) (fun i h ZK=>absurd ZK (by omega)) (fun i h hle=>absurd h (by omega))
theorem BC{xs:Array Nat}{j:Nat}(hr:Rising xs.toList)(hn:¬ xs[SetTable.below xs j]?=some j):Rising (SetTable.insertAt xs (SetTable.below xs j) j).toList:=by
 obtain⟨h1,h2,h3⟩:=qL xs j hr;rw[SetTable.toList_insertAt];generalize hb:SetTable.below xs j=b at *;unfold Rising at *;have split:=List.pairwise_append.mp (show(xs.toList.take b++xs.toList.drop b).Pairwise (· < ·) by rw[List.take_append_drop];exact hr);have lt:∀ x∈xs.toList.take b,x < j:=fun x hx=>by
  obtain⟨i,hi,rfl⟩:=List.mem_iff_getElem.mp hx;have hi':i < b/\i < xs.size:=by simpa[Nat.lt_min] using hi
  have:=h1 i hi'.2 hi'.1;simpa using this
 have gt:∀ x∈xs.toList.drop b,j < x:=fun x hx=>by
  obtain⟨i,hi,rfl⟩:=List.mem_iff_getElem.mp hx;have hi':b+i < xs.size:=by simp at hi;omega
  have hle:=h2 (b+i) hi' (by omega);have ZY:xs[b+i]≠j:=fun e=>by
   by_cases hz:i=0
   ·subst hz;exact hn (by rw[Array.getElem?_eq_getElem (by simpa using hi')];simpa using e)
   ·have hb':b < xs.size:=by omega
    have h0:=h2 b hb' (Nat.le_refl _);have:=List.pairwise_iff_getElem.mp hr b (b+i) (by simpa using hb') (by simpa using hi') (by omega);simp at this;omega
  have:xs.toList.drop b=xs.toList.drop b:=rfl;simp only[List.getElem_drop,Array.getElem_toList];omega
 refine List.pairwise_append.mpr ⟨split.1,List.pairwise_cons.mpr ⟨gt,split.2.1⟩,fun x hx y hy=>?_⟩;rcases List.mem_cons.mp hy with rfl|hy
 ·exact lt x hx
 ·exact split.2.2 x hx y hy
theorem zF{α:Type}:∀ {l:List α} {i:Nat} (h:i < l.length),(l[i]::l.eraseIdx i).Perm l
 | a::l,0,_=>by simp
 | a::l,i+1,h=>by
  have:=zF (l:=l) (i:=i) (by simpa using h);simp only[List.getElem_cons_succ,List.eraseIdx_cons_succ];exact(List.Perm.swap _ _ _).trans (this.cons a)
theorem HD{α:Type}(next:Nat->Nat):∀(fuel k:Nat) (left:List α) (out:Array α),fuel=left.length->∃ acE:Array α,pickOrder.go next fuel k left out=acE/\acE.toList.Perm (out.toList++left)
 | 0,k,left,out,h=>by
  have:left=[]:=List.length_eq_zero_iff.mp h.symm;subst this;exact⟨out,by simp[pickOrder.go],by simp⟩
 | fuel+1,k,left,out,h=>by
  have hp:0 < left.length:=by omega
  have hi:next k % left.length < left.length:=Nat.mod_lt _ hp
  obtain⟨o,e,p⟩:=HD next fuel (k+1) (left.eraseIdx (next k % left.length)) (out.push left[next k % left.length]) (by rw[List.length_eraseIdx_of_lt hi];omega)
  refine⟨o,?_,p.trans ?_⟩
  ·rw[pickOrder.go,List.getElem?_eq_getElem hi];exact e
  ·rw[Array.toList_push,List.append_assoc];refine List.Perm.append_left _ ?_;exact zF hi
theorem Jj{α:Type}(next:Nat->Nat)(xs:Array α):(pickOrder next xs).toList.Perm xs.toList:=by
 obtain⟨o,e,p⟩:=HD next xs.size 0 xs.toList #[] (by simp)
 unfold pickOrder;rw[e];simpa using p
structure pZ(w:World)(t:SetTable):Prop where
 rise:Rising t.place.toList
 led:w.params.followText "set-order"=true\/t.led=true
 dum:t.dummies = #[]
 msk:t.mask=7
 pln:t.plain=true
theorem D8(j:Nat):SetTable.has #[] j=false:=by simp[SetTable.has]
theorem Gq{t:SetTable}{j:Nat}(h:t.slot j=.empty):¬ t.place[SetTable.below t.place j]?=some j:=fun e=>by
 unfold SetTable.slot at h;simp only[e,beq_self_eq_true,if_true] at h;cases h
theorem Bc{t:SetTable}(hd:t.dummies = #[])(j:Nat):t.slot j=.empty\/(∃ i,t.slot j=.live i/\j∈t.place.toList):=by
 unfold SetTable.slot;rw[hd,D8];by_cases h:t.place[SetTable.below t.place j]?=some j
 ·refine .inr ⟨SetTable.below t.place j,by simp only[h,beq_self_eq_true,if_true],?_⟩;rw[<- Array.getElem?_toList] at h;exact List.mem_of_getElem? h
 ·refine .inl ?_;have:(t.place[SetTable.below t.place j]?==some j)=false:=by simpa using h
  simp[this]
theorem free4{l:List Nat}(h:l.length<=3):∃ j,j < 8/\j∉l:=by
 match l,h with
 | [],_=>exact⟨0,by decide,by simp⟩
 | [a],_=>by_cases h0:a=0;exact⟨1,by decide,by simp;omega⟩;exact⟨0,by decide,by simp;omega⟩
 | [a,b],_ =>
  by_cases h0:a=0\/b=0
  ·by_cases h1:a=1\/b=1
   ·exact⟨2,by decide,by simp;omega⟩
   ·exact⟨1,by decide,by simp;omega⟩
  ·exact⟨0,by decide,by simp;omega⟩
 | [a,b,c],_ =>
  by_cases h0:a=0\/b=0\/c=0
  ·by_cases h1:a=1\/b=1\/c=1
   ·by_cases h2:a=2\/b=2\/c=2
    ·exact⟨3,by decide,by simp;omega⟩
    ·exact⟨2,by decide,by simp;omega⟩
   ·exact⟨1,by decide,by simp;omega⟩
  ·exact⟨0,by decide,by simp;omega⟩
noncomputable def hop(i:Nat):Nat:=(i * 5+1) % 8
noncomputable def hops:Nat->Nat->Nat
 | 0,i=>i
 | m+1,i=>hops m (hop i)
theorem Lu:∀ i,i < 8->∀ j,j < 8->∃ m,m < 8/\hops m i=j:=by decide
section
variable {t:SetTable} (hd:t.dummies = #[]) (hm:t.mask=7) {h:Int}
noncomputable abbrev prb(i pt:Nat):SetTable.Probe:=⟨i,0,i,pt,none⟩
include hd hm
theorem adv(i pt:Nat):t.advance (prb i pt)=prb ((i * 5+1+pt / 32) % 8) (pt / 32):=by
 have:(i * 5+1+pt / 32) % 8 < 8:=Nat.mod_lt _ (by decide);simp only[SetTable.advance,SetTable.leap,hm,SetTable.runEnd];simp
 try omega
theorem Hl(fuel i pt:Nat):(t.slot i=.empty/\SetTable.probe.go t (fun _=>h+1) h (fuel+1) (prb i pt)=some (.empty i none))\/SetTable.probe.go t (fun _=>h+1) h (fuel+1) (prb i pt)=SetTable.probe.go t (fun _=>h+1) h fuel (prb ((i * 5+1+pt / 32) % 8) (pt / 32)):=by
 rcases Bc hd i with e|⟨k,e,_⟩
 ·refine .inl ⟨e,?_⟩;unfold SetTable.probe.go;simp only[e]
 ·refine .inr ?_
  conv=>lhs;unfold SetTable.probe.go
  simp only[e];rw[if_neg (by simp;try omega),adv hd hm]
theorem Hm:∀(m fuel i:Nat),m < fuel->i < 8->t.slot (hops m i)=.empty->∃ j,t.slot j=.empty/\SetTable.probe.go t (fun _=>h+1) h fuel (prb i 0)=some (.empty j none)
 | 0,fuel+1,i,_,hi,he=>by
  refine⟨i,he,?_⟩;have e:t.slot i=.empty:=he;unfold SetTable.probe.go;simp only[e]
 | m+1,fuel+1,i,hf,hi,he=>by
  rcases Hl hd hm (h:=h) fuel i 0 with⟨e,g⟩|g
  ·exact⟨i,e,g⟩
  ·rw[g];exact Hm m fuel _ (by omega) (Nat.mod_lt _ (by decide)) he
theorem Lp(hp:t.place.size<=3):∀(d fuel i pt:Nat),pt < 32 ^ d->d+8<=fuel->i < 8->∃ j,t.slot j=.empty/\SetTable.probe.go t (fun _=>h+1) h fuel (prb i pt)=some (.empty j none)
 | 0,fuel,i,pt,h1,h2,hi=>by
  have:pt=0:=by simpa using h1
  subst this;obtain⟨j,hj,hn⟩:=free4 (l:=t.place.toList) (by simpa using hp);obtain⟨m,hm',e⟩:=Lu i hi j hj;refine Hm hd hm m fuel i (by omega) hi ?_;rw[e];rcases Bc hd j with z|⟨_,_,z⟩
  ·exact z
  ·exact absurd z hn
 | d+1,0,i,pt,h1,h2,hi=>absurd h2 (by omega)
 | d+1,fuel+1,i,pt,h1,h2,hi=>by
  rcases Hl hd hm (h:=h) fuel i pt with⟨e,g⟩|g
  ·exact⟨i,e,g⟩
  ·rw[g];exact Lp hp d fuel _ _ (by rw[Nat.pow_succ] at h1;omega) (by omega) (Nat.mod_lt _ (by decide))
theorem Iy(hp:t.place.size<=3):∃ j,t.slot j=.empty/\t.freeSlot h=some (j,false):=by
 have hb:SetTable.bits h < 32 ^ 13:=by
  unfold SetTable.bits;have h1:=Int.emod_lt_of_pos h (show(0:Int) < 2 ^ 64 by decide);have h2:=Int.emod_nonneg h (show(2 ^ 64:Int)≠0 by decide);have:(32:Nat) ^ 13=36893488147419103232:=by decide
  omega
 have hs:t.probeStart h=prb (SetTable.bits h % 8) (SetTable.bits h):=by
  unfold SetTable.probeStart SetTable.runEnd;rw[hm];have:SetTable.bits h % 8 < 8:=Nat.mod_lt _ (by decide);simp
  try omega
 obtain⟨j,e,g⟩:=Lp hd hm (h:=h) hp 13 (10 * SetTable.turns t.mask) (SetTable.bits h % 8) (SetTable.bits h) hb (by rw[hm];decide) (Nat.mod_lt _ (by decide));refine⟨j,e,?_⟩;unfold SetTable.freeSlot SetTable.probe;rw[hs,g];rfl
end
theorem Ov{w:World}{t:SetTable}(T:pZ w t)(es:Array (Int×Value))(h:Int)(x:Value)(hp:t.place.size<=3)(hf:t.place.size=es.size):pZ w (layNew t es h x).2.1:=by
 obtain⟨slot,hs,e⟩:=Iy T.dum T.msk (h:=h) hp;have Tp:pZ w (t.put slot).1:=by
  refine⟨BC T.rise (Gq hs),T.led,?_,T.msk,T.pln⟩;show(if SetTable.has t.dummies slot=true then _ else t.dummies) = #[];rw[T.dum,D8];rfl
 unfold layNew;rw[e];show pZ w ((t.put slot).1.orStandIn _);have h1:=(SetTable.insertAt_perm es (t.put slot).2 (h,x)).length_eq;rw[Array.length_toList,Array.length_toList,Array.size_push] at h1;have h2:(t.put slot).1.place.size=t.place.size+1:=by
  have:=(SetTable.insertAt_perm t.place (SetTable.below t.place slot) slot).length_eq;rw[Array.length_toList,Array.length_toList,Array.size_push] at this;exact this
 have fit:(t.put slot).1.fits (SetTable.insertAt es (t.put slot).2 (h,x)).size=true:=by
  unfold SetTable.fits SetTable.fill;rw[Tp.dum,h2,h1,Tp.msk,hf];simp;omega
 unfold SetTable.orStandIn;rw[if_pos fit];exact Tp
noncomputable def Eg:Value->Int
 | .int i _=>i
 | _=>0
noncomputable def tP(P:Program)(w:World)(a:Addr)(ns:List Int)(h:Heap):Prop:=∃(o:Obj) (es:Array (Int×Value)) (ep:Nat) (t:SetTable),h.get? a=some o/\o.ExactSet/\o.data=.set es ep t/\ElemsOf (intKind P w) es.toList/\es.size < scanBound/\t.fits es.size=true/\pZ w t/\(∀ e∈es.toList,∃ i tk,e.2=Value.int i tk)/\(es.toList.map fun e=>Eg e.2).Perm ns
theorem tP.keep{P:Program}{w:World}{a:Addr}{ns:List Int}{h h':Heap}(x:tP P w a ns h)(k:∀ o,h.get? a=some o->h'.get? a=some o):tP P w a ns h':=by
 obtain⟨o,es,ep,t,e,r⟩:=x;exact⟨o,es,ep,t,k o e,r⟩
section
variable {P:Program} {w:World} {A:Around} {E:q0A} {s:Shared}
theorem Te{P:Program}{w:World}{i:Int}{v:Value}:(intKind P w).is i v=true↔∃ tk,v=.int i tk:=by
 constructor
 ·intro h;cases v with
  | int j tk=>exact⟨tk,by have:Value.isInt i (.int j tk)=true:=h;simp[Value.isInt] at this;rw[this]⟩
  | _=>cases h
 ·rintro⟨tk,rfl⟩;exact intKind_is _ _ _ _
theorem DC{a:Addr}{o:Obj}{es:Array (Int×Value)}{ep:Nat}{t:SetTable}(ho:s.heap.get? a=some o)(hex:o.ExactSet)(hd:o.data=.set es ep t)
    {ZJ:Array (Int×Value)} {t2:SetTable} {ns:List Int} (hel:ElemsOf (intKind P w) ZJ.toList) (hb:ZJ.size < scanBound) (hf:t2.fits ZJ.size=true) (T:pZ w t2) (hi:∀ e∈ZJ.toList,∃ i tk,e.2=Value.int i tk) (hp:(ZJ.toList.map fun e=>Eg e.2).Perm ns) (h4:ZJ.size<=4)
    {aaF:Bool} {X:Sem (Option Bool)} {R:Option Bool->Shared->Prop} (h:∀ h',Heap.SameBut a s.heap h'->tP P w a ns h'->R (some true) {s with heap:=h'}) :
    wpAny (model P w) A (do
        storeSet a ZJ t2
        if (!aaF&&t2.tooFull)=true then X else pure (some true)) R E s:=by
  refine wpAny_bind (wpAny_storeSet_of ho hd ?_ (fits_of_scanBound hb));have full:t2.tooFull=false:=by
    have h1:t2.place.size=ZJ.size:=by
      have:=hf;unfold SetTable.fits at this;simp only[Bool.and_eq_true,beq_iff_eq] at this;exact this.1
    unfold SetTable.tooFull SetTable.fill;rw[T.dum,h1];have:=T.msk;simp;omega
  rw[full,Bool.and_false];simp only[Bool.false_eq_true,if_false];have hg:(s.heap.update a (Obj.putSet ZJ t2)).get? a=some {o with data:=.set ZJ (ep+1) t2}:=by
    have:=Heap.get?_update_self (Obj.putSet ZJ t2) ho (by rw[putSet_of ZJ t2 hd];rfl);rw[putSet_of ZJ t2 hd] at this;exact this
  exact wpAny_pure (h _ (Heap.SameBut.update s.heap a (Obj.putSet ZJ t2)) ⟨_,ZJ,ep+1,t2,hg,hex,rfl,hel,hb,hf,T,hi,hp⟩)
theorem E8{a:Addr}{ns:List Int}{i:Int}{tk:Tok}{Q:Bool->Shared->Prop}(hS:tP P w a ns s.heap)(hn:ns.length<=3)
    (h:∀ h',Heap.SameBut a s.heap h'->tP P w a (if i∈ns then ns else ns++[i]) h'->∀ b,Q b {s with heap:=h'}):wpAny (model P w) A (setAddHashed a (.int i tk) ((intKind P w).hash i)) Q E s:=by
  obtain⟨o,es,ep,t,ho,hex,hd,hel,hb,hf,T,hi,hp⟩:=hS;have aaS:(intKind P w).is i (.int i tk)=true:=intKind_is _ _ _ _;have hl:es.size=ns.length:=by have:=hp.length_eq;simpa using this
  have b1:scanBound=4096:=rfl;unfold setAddHashed setAddHashedIn;refine wpAny_holding (wpAny_bind (wpAny_setState_of ho hd hf ?_));dsimp only;rw[byScan_of (knd:=intKind P w) rfl hb hel];simp only[↓reduceIte];unfold setAddByScan;refine wpAny_bind ?_;refine wpAny_bind (wpAny_rule ?_);refine wpAny_bind (wpAny_setScan_of aaS ho hd hf hel ?_);cases hr:List.findIdx? (fun e=>(intKind P w).is i e.2) es.toList with
  | some j =>
    dsimp only;obtain⟨hj,hpj,_⟩:=List.findIdx?_eq_some_iff_getElem.mp hr;obtain⟨tk',et⟩:=Te.mp hpj;have hm:i∈ns:=hp.mem_iff.mp (List.mem_map.mpr ⟨es.toList[j],List.getElem_mem hj,by rw[et];rfl⟩);rw[if_pos hm] at h;refine wpAny_pure (wpAny_pure ?_);exact h s.heap (Heap.SameBut.refl a s.heap) ⟨o,es,ep,t,ho,hex,hd,hel,hb,hf,T,hi,hp⟩ _
  | none =>
    dsimp only;have hm:i∉ns:=fun z=>by
      obtain⟨e,he,ek⟩:=List.mem_map.mp (hp.mem_iff.mpr z);obtain⟨k,tk',ev⟩:=hi e he;have h1:=List.findIdx?_eq_none_iff.mp hr e he;rw[ev] at ek h1;have:k=i:=ek;subst this;rw[intKind_is] at h1;cases h1
    rw[if_neg hm] at h;have ZP:=layNew_perm t es ((intKind P w).hash i) (.int i tk);have aaM:=layNew_fits t es ((intKind P w).hash i) (.int i tk);have hsz:t.place.size=es.size:=by
      have:=hf;unfold SetTable.fits at this;simp only[Bool.and_eq_true,beq_iff_eq] at this;exact this.1
    have T1:=Ov T es ((intKind P w).hash i) (.int i tk) (by omega) hsz;generalize layNew t es ((intKind P w).hash i) (.int i tk)=Y at ZP aaM T1 ⊢;obtain⟨ZJ,t1,aaF,adH⟩:=Y;dsimp only at ZP aaM T1 ⊢;rw[Array.toList_push] at ZP;have ab2:ElemsOf (intKind P w) ZJ.toList:=(hel.push aaS rfl).perm ZP;have sz:ZJ.size=es.size+1:=by
      have:=ZP.length_eq;simpa using this
    have hi1:∀ e∈ZJ.toList,∃ i tk,e.2=Value.int i tk:=fun e he=>by
      rcases List.mem_append.mp (ZP.mem_iff.mp he) with he|he
      · exact hi e he
      · rw[show e=_ by simpa using he];exact⟨i,tk,rfl⟩
    have hp1:(ZJ.toList.map fun e=>Eg e.2).Perm (ns++[i]):=by
      refine(ZP.map _).trans ?_;rw[List.map_append];exact hp.append (.refl _)
    have hgw:∀(b:Bool) {s₁:Shared} {Q':Unit->Shared->Prop},Q' () s₁->wpAny (model P w) A (match b with|true=>rule "set.scan.the-table-gave-way" | false=>pure ()) Q' E s₁:=fun b s₁ Q' hq=>by
      cases b
      · exact wpAny_pure hq
      · exact wpAny_rule hq
    refine wpAny_bind (hgw _ ?_);split
    · refine wpAny_bind ?_;rw[hashByValue_scannable 8 rfl];refine wpAny_pure ?_;simp only[plainKind,↓reduceIte];exact DC ho hex hd ab2 (by omega) aaM T1 hi1 hp1 (by omega) fun h' hs hS'=>wpAny_pure (h h' hs hS' _)
    · refine wpAny_bind (wpAny_pure ?_);simp only[↓reduceIte];exact DC ho hex hd ab2 (by omega) aaM T1 hi1 hp1 (by omega) fun h' hs hS'=>wpAny_pure (h h' hs hS' _)
end
noncomputable def once(val:Nat->Int):Nat->List Int
 | 0=>[]
 | i+1=>if val i∈once val i then once val i else once val i++[val i]
theorem Aw(val:Nat->Int):∀ i,(once val i).length<=i
 | 0=>Nat.le_refl _
 | i+1=>by
  have:=Aw val i;rw[once];split
  ·omega
  ·rw[List.length_append];simp;omega
section
variable {P:Program} {w:World} {A:Around} {R:Result->Shared->Prop} {it:Addr} {fp wr:List Addr} {Gs:Array GenState->Array GenState->Prop} {n:Nat} {Pi:Nat->Value->Prop} {St:Nat->Shared->Prop}
theorem Ej(W:WalksS P w A.in1 it fp wr Gs n Pi St)(z:Addr)(hz:z∉fp)(val:Nat->Int)(abJ:∀ i v,Pi i v->∃ t,v=.int (val i) t)(hn:n<=4) :
    ∀(k i:Nat) (s:Shared),n - i=k->i<=n->St i s->tP P w z (once val i) s.heap ->
      (∀ s',Moved (z::wr) Gs s s'->tP P w z (once val n) s'.heap->R (.ok (.ret .none)) s')->codeAny (model P w) A (.builtin "set.update.loop" ⟨[.ref z,.ref it],[]⟩) R s:=by
  have zw:z∉wr:=fun h=>hz (W.sub _ h);have up:∀ b∈wr,b∈z::wr:=fun b hb=>List.mem_cons_of_mem _ hb;intro k
  induction k with
  | zero =>
    intro i s hk hi st hS hR;obtain rfl:i=n:=by omega
    refine codeAny_builtin PyProof.Rows.F.entry_set_update_loop ?_;rw[Around.under_plainId PyProof.Rows.F.plain_set_update_loop _];show wpAny _ A.in1 (pyNext (.ref it) >>= _) _ _ s;refine wpAny_bind (W.done s _ _ st fun s' hm=>?_);show wpAny _ A.in1 (ret Value.none) _ _ s';exact wpAny_pure (hR s' (hm.mono up) (hS.keep fun o e=>hm.heap z _ zw e))
  | succ k ih =>
    intro i s hk hi st hS hR;have lt:i < n:=by omega
    refine codeAny_builtin PyProof.Rows.F.entry_set_update_loop ?_;rw[Around.under_plainId PyProof.Rows.F.plain_set_update_loop _];show wpAny _ A.in1 (pyNext (.ref it) >>= _) _ _ s;refine wpAny_bind (W.item i s _ _ lt st fun v s' hP ZR hm=>?_);obtain⟨t,rfl⟩:=abJ i v hP;have hS':tP P w z (once val i) s'.heap:=hS.keep fun o e=>hm.heap z _ zw e;show wpAny _ A.in1 (holding [Value.int (val i) t] (setAdd z (.int (val i) t)) >>= _) _ _ s';refine wpAny_bind (wpAny_holding ?_);unfold setAdd;refine wpAny_holding ?_;refine wpAny_bind ((intKind P w).pyHash (k:=val i) (intKind_is _ _ _ _) ?_);have room:(once val i).length<=3:=by have:=Aw val i;omega
    refine E8 (s:={s' with toks:=s'.toks+1}) hS' room fun h' sb hS2 b=>?_;refine wpAny_pure ⟨plainId_quiet PyProof.Rows.F.plain_set_update_loop _,ih (i+1) _ (by omega) lt (W.frame _ s' _ _ ZR (Nat.le_succ _) fun c hc o e=>?_) hS2 fun s2 hm2 hS3=>?_⟩
    · rw[sb.2 c (fun h:c=z=>hz (by rw[<- h];exact hc))];exact e
    · refine hR s2 (Moved.trans W.gtrans ((hm.mono up).then_heap (Nat.le_succ _) fun c o hc e=>?_) hm2) hS3;rw[sb.2 c (fun h:c=z=>hc (by rw[h];exact List.mem_cons_self))];exact e
end
section
variable {P:Program} {w:World} {A:Around} {E:q0A} {s:Shared}
noncomputable abbrev qF(led:Bool):Obj:={cls:=.type "set",dict:=none,data:=.set #[] 0 (.fresh 0 0 led)}
theorem FW(a:Value){Q₁:q0A}(h:∀ led:Bool,(w.params.followText "set-order"=true\/led=true)->Q₁ (.ref s.heap.objs.size) {s with heap:=s.heap.push (qF led)}) :
    codeAny (model P w) A (.call (.builtin "set.__new__") ⟨[.type "set",a],[]⟩) (wants Q₁ E) s:=by
  refine codeAny_of_tree ?_;show wpAny _ A.in1 (do checkBuiltinCall "set.__new__" ⟨[.type "set",a],[]⟩;again (.builtin "set.__new__" ⟨[.type "set",a],[]⟩)) _ _ s;refine wpAny_bind (wpAny_of_eq (PySem.F.newCall_set_1 a) (wpAny_pure ⟨plainId_quiet PySem.F.plain_set_new _,codeAny_builtin PySem.F.entry_set_new ?_⟩));rw[Around.under_plainId PySem.F.plain_set_new _];unfold Builtin.«set.__new__» Builtin.Frozenset.newClass;have aa0:=sub_set_self;obtain⟨hp,g,d,tk,os⟩:=s;dsimp only;wp_walk;refine wpAny_askSetting (wpAny_pure ?_);dsimp only;simp only[newObj];refine wpAny_bind (wpAny_alloc (wpAny_pure ?_));refine wpAny_pure (h _ ?_);cases e:w.params.followText "set-order" with
  | true=>exact .inl rfl
  | false =>
    refine .inr ?_;show(!w.params.followText "set-order")=true;rw[e];rfl
theorem Im{led:Bool}(h:w.params.followText "set-order"=true\/led=true):pZ w (.fresh 0 0 led):=⟨.nil,h,rfl,rfl,rfl⟩
set_option maxHeartbeats 8000000 in
theorem DP{l:Addr}{items:Array Value}{ns:List Int}{Q:q0A}(hh:A.handled=none)(hl:s.heap.IsList l items)(hi:IntsAre items.toList ns)(h4:items.size<=4)
    (h:∀(h':Heap) (tk:Nat),tP P w s.heap.objs.size (once (fun i=>ns.getD i 0) items.size) h'->(∀ b o,b < s.heap.objs.size->s.heap.get? b=some o->h'.get? b=some o)->Q (.ref s.heap.objs.size) {s with heap:=h',toks:=tk}) :
    wpAny (model P w) A (call (.type "set") [.ref l]) Q E s:=by
  obtain⟨c,tl,adJ⟩:=PySem.F.called_set.mro;have adD:=PySem.F.called_set.made;have aa0:=PySem.F.called_set.sub;refine wpAny_call (codeAny_of_tree ?_);show wpAny _ _ (callAny (.type "set") _) _ _ _;refine wpAny_pure ⟨Code.quiet_builtin _ (by decide +kernel),codeAny_builtin PySem.F.entry_type_call ?_⟩;rw[Around.under_plain (weight_type_call_type "set" [.ref l] []) rfl];have h1:=PySem.F.called_set.notType;have h2:=PySem.F.called_set.canCreate;have hct:=PySem.F.typeCall_set_1 (.ref l)
  repeat (any_goals (first|assumption|wp_step))
  refine codeAny_mono (FW (.ref l) (E:=E) (Q₁:=fun obj s₁=>∃ led:Bool,(w.params.followText "set-order"=true\/led=true)/\obj=.ref s.heap.objs.size/\s₁={s with heap:=s.heap.push (qF led)}) fun led abG=>⟨led,abG,rfl,rfl⟩) fun r s₁ hr=>?_;cases r with
  | error e=>exact hr
  | ok fl =>
    cases fl with
    | ret obj =>
      obtain⟨led,abG,rfl,rfl⟩:=hr;have hS:(s.heap.push (qF led)).get? s.heap.objs.size=some (qF led):=Heap.get?_push_size _ rfl;have hT:Shared.TypeIs {s with heap:=s.heap.push (qF led)} (.ref s.heap.objs.size) "set":=⟨_,hS,rfl⟩;have hli:=PySem.F.called_set.init.lookup;have hbi:=PySem.F.called_set.init.bind (.ref s.heap.objs.size)
      repeat (any_goals (first|assumption|wp_step))
      refine codeAny_mono (codeAny_call_builtin (R:=wants (fun r s₂=>r=.none/\∃ h' tk,s₂={s with heap:=h',toks:=tk}/\tP P w s.heap.objs.size (once (fun i=>ns.getD i 0) items.size) h' /\
          (∀ b o,b < s.heap.objs.size->s.heap.get? b=some o->h'.get? b=some o)) E) PySem.F.called_set.init.plain PySem.F.entry_set_init (check_set_init_1 hT ?_)) fun r₂ s₂ hr₂=>?_
      · obtain⟨ol,hol,hcl,nl,hdl⟩:=hl;obtain⟨adP,acD,adE,abN⟩:=ol;simp only at hcl hdl;subst hcl hdl;have acY:(s.heap.push (qF led)).get? l=some ⟨.type "list",acD,.seq items nl,abN⟩:=Heap.get?_push_of_some _ hol;have adL:=PySem.F.sub_list_set;have adK:=PySem.F.sub_list_frozenset;have ZY:(Value.type "list"==Value.type "dict")=false:=by decide
        have hl1:(s.heap.push (qF led)).IsList l items:=⟨_,acY,rfl,nl,rfl⟩;unfold Builtin.«set.__init__» noKeywords Builtin.Frozenset.updateFrom;generalize hPI:pyIter=PI;wp_walk;subst hPI;refine wpAny_pyIter_list hl1 ?_;refine wpAny_bind (wpAny_runValue ?_);have lS:l < s.heap.objs.size:=Heap.lt_size hol;have hh3:A.in1.in1.in1.handled=none:=by simp[hh]
        have sz:(s.heap.push (qF led)).objs.size=s.heap.objs.size+1:=Heap.size_push _ _;have acV:l≠(s.heap.push (qF led)).objs.size:=Nat.ne_of_lt (by rw[sz];exact Nat.lt_succ_of_lt lS);have hSf:s.heap.objs.size∉[(s.heap.push (qF led)).objs.size,l]:=by
          simp only[List.mem_cons,List.not_mem_nil,or_false,not_or];exact⟨Nat.ne_of_lt (by rw[sz];exact Nat.lt_succ_self _),Nat.ne_of_gt lS⟩
        have abJ:∀(i:Nat) (v:Value),items[i]?=some v->∃ t,v=.int ((fun i=>ns.getD i 0) i) t:=fun i v hv=>IntsAre.int_at hi i v (by rw[Array.getElem?_toList];exact hv);refine Ej ((Walks.list hh3 _ l acV items).toS) s.heap.objs.size hSf (fun i=>ns.getD i 0) abJ h4 (items.size - 0) 0 _ (by omega) (Nat.zero_le _) ⟨⟨_,Heap.get?_push_size _ rfl,rfl,rfl⟩,(hl1.push _)⟩ ?hS0 ?hR
        case hS0=>exact⟨_,#[],0,_,Heap.get?_push_of_some _ hS,⟨rfl,rfl,rfl⟩,rfl,fun e he=>(by simp at he),by decide,rfl,Im abG,by simp,.nil⟩
        case hR =>
          intro s' hm hS';obtain⟨h',g',d',tk',os'⟩:=s';have eg:g'=s.gens:=hm.gens;have ed:d'=s.drawn:=hm.drawn;have eo:os'=s.os:=hm.os;subst eg ed eo;show wpAny _ _ _ _ _ _;refine wpAny_pure ?_;show wpAny _ _ (ret Value.none) _ _ _;refine wpAny_pure ⟨rfl,h',tk',rfl,hS',fun b o hb e=>?_⟩;exact hm.heap b o (by simp only[List.mem_cons,List.not_mem_nil,or_false,not_or];exact⟨Nat.ne_of_lt hb,Nat.ne_of_lt (by rw[sz];exact Nat.lt_succ_of_lt hb)⟩) (Heap.get?_push_of_some _ (Heap.get?_push_of_some _ e))
      · cases r₂ with
        | error e=>exact hr₂
        | ok fl₂ =>
          cases fl₂ with
          | ret r =>
            obtain⟨rfl,h',tk,rfl,hS',hk'⟩:=hr₂
            repeat (any_goals (first|assumption|wp_step))
            exact h _ _ hS' hk'
          | _=>exact hr₂.elim
    | _=>exact hr.elim
end
theorem EF:Manifest.owners.lookup (String.ofList ['r','o','t','a','r','e','t','i','_','t','e','s'].reverse)=some Manifest.sig_set_iterator:=by kernel_rfl
theorem fL:Slot "set_iterator" "__next__" "set_iterator.__next__" :=
 .of (owner:="set_iterator") (n:="__next__") (by rw[typeLookup_type,builtinLookup_eq_fast];kernel_rfl) (by decide +kernel) (by decide +kernel) (by decide +kernel)
  (by first|exact .inl (by decide +kernel)|exact .inr (by decide +kernel)) (by rw[isSubtype_type];kernel_rfl)
theorem qC:entryFor table "set_iterator.__next__"=some Builtin.«set_iterator.__next__»:=entryFor_of_tree (by kernel_rfl)
theorem rY(a:Value):argsOk "set_iterator.__next__" ⟨[a],[]⟩:=by
 unfold argsOk;rw[signature?_of (id:="set_iterator.__next__") (n:=['_','_','t','x','e','n','_','_']) (o:=['r','o','t','a','r','e','t','i','_','t','e','s']) (by kernel_rfl) EF];kernel_rfl
theorem tL:Slot "set_iterator" "__iter__" "set_iterator.__iter__" :=
 .of (owner:="set_iterator") (n:="__iter__") (by rw[typeLookup_type,builtinLookup_eq_fast];kernel_rfl) (by decide +kernel) (by decide +kernel) (by decide +kernel)
  (by first|exact .inl (by decide +kernel)|exact .inr (by decide +kernel)) (by rw[isSubtype_type];kernel_rfl)
theorem Bz:entryFor table "set_iterator.__iter__"=some Builtin.«dict_keyiterator.__iter__» :=
 entryFor_alias (id':="dict_keyiterator.__iter__") (by kernel_rfl) rfl (by decide +kernel) (by kernel_rfl)
theorem CF(a:Value):argsOk "set_iterator.__iter__" ⟨[a],[]⟩:=by
 unfold argsOk;rw[signature?_of (id:="set_iterator.__iter__") (n:=['_','_','r','e','t','i','_','_']) (o:=['r','o','t','a','r','e','t','i','_','t','e','s']) (by kernel_rfl) EF];kernel_rfl
theorem zE:entryFor table "set.__iter__"=some Builtin.«frozenset.__iter__» :=
 entryFor_alias (id':="frozenset.__iter__") (by kernel_rfl) rfl (by decide +kernel) (by kernel_rfl)
section
variable {P:Program} {w:World} {A:Around} {E:q0A} {s:Shared} {a it:Addr} {es:Array (Int×Value)} {ep i:Nat} {t:SetTable}
noncomputable def lJ(w:World)(h:Heap)(a:Addr)(es:Array (Int×Value))(ep:Nat)(t:SetTable):Prop:=∃ o,h.get? a=some o/\o.ExactSet/\o.data=.set es ep t/\t.fits es.size=true/\pZ w t
theorem lJ.to{h h':Heap}(x:lJ w h a es ep t)(k:∀ o,h.get? a=some o->h'.get? a=some o):lJ w h' a es ep t:=let ⟨o,e,r⟩:=x;⟨o,k _ e,r⟩
theorem lJ.lt{h:Heap}(x:lJ w h a es ep t):a < h.objs.size:=let ⟨_,e,_⟩:=x;Heap.lt_size e
theorem lJ.ty(x:lJ w s.heap a es ep t):s.TypeIs (.ref a) "set":=let ⟨o,e,c,_⟩:=x;⟨o,e,c.1⟩
noncomputable def nC(w:World)(a:Addr)(es:Array (Int×Value))(ep:Nat):Array (Int×Value):=if w.params.followText "set-order"=true then pickOrder (w.params.setOrder a ep) es else es
theorem AA:(nC w a es ep).toList.Perm es.toList:=by
 unfold nC;split
 ·exact Jj _ _
 ·exact .refl _
theorem oQ:(nC w a es ep).size=es.size:=by have:=(AA (w:=w) (a:=a) (es:=es) (ep:=ep)).length_eq;simpa using this
noncomputable def Cv(w:World)(t:SetTable)(i sl:Nat):Prop:=w.params.followText "set-order"=true\/SetTable.below t.place sl=i
noncomputable def Bn(w:World)(h:Heap)(it a:Addr)(i n ep:Nat)(t:SetTable):Prop:=∃ o sl,h.get? it=some o/\o.cls=.type "set_iterator"/\o.data=.fields #[.int (sl:Nat) 0,.int (i:Nat) 0,.ref a,.int (n:Nat) 0,.int (ep:Nat) 0]/\Cv w t i sl
theorem Bn.to{h h':Heap}{n:Nat}(x:Bn w h it a i n ep t)(k:∀ o,h.get? it=some o->h'.get? it=some o):Bn w h' it a i n ep t:=let ⟨o,sl,e,r⟩:=x;⟨o,sl,k _ e,r⟩
theorem Bn.ty{n:Nat}(x:Bn w s.heap it a i n ep t):s.TypeIs (.ref it) "set_iterator":=let ⟨o,_,e,c,_⟩:=x;⟨o,e,c⟩
theorem Js(T:pZ w t):Cv w t 0 0:=.inr (by
 obtain⟨h1,h2,h3⟩:=qL t.place 0 T.rise;by_cases z:SetTable.below t.place 0=0
 ·exact z
 ·have:=h1 0 (by omega) (by omega);omega)
theorem Jr(T:pZ w t){j:Nat}(e:t.place[i]?=some j):SetTable.below t.place (j+1)=i+1:=by
 obtain⟨hi,ej⟩:=Array.getElem?_eq_some_iff.mp e;obtain⟨h1,h2,h3⟩:=qL t.place (j+1) T.rise;by_cases c:SetTable.below t.place (j+1)<=i
 ·have:=h2 i hi c;omega
 ·by_cases d:i+1 < SetTable.below t.place (j+1)
  ·have h4:i+1 < t.place.size:=by omega
   have h5:=h1 (i+1) h4 d;have h6:=List.pairwise_iff_getElem.mp T.rise i (i+1) (by simpa using hi) (by simpa using h4) (by omega);simp at h6;omega
  ·omega
theorem Mh{Q:q0A}(x:lJ w s.heap a es ep t)
    (q:Q (.ref s.heap.objs.size) {s with heap:=s.heap.push {cls:=.type "set_iterator",data:=.fields #[.int 0 0,.int 0 0,.ref a,.int es.size 0,.int ep 0]}}):wpAny (model P w) A (pyIter (.ref a)) Q E s:=by
  obtain⟨o,e1,e2,e3,e4,T⟩:=id x;refine wpAny_pyIter_slot x.ty F.slot_set_iter (wpAny_call_entry F.slot_set_iter x.ty zE ?_ (F.args_set_iter_1 _));unfold Builtin.«frozenset.__iter__»;refine wpAny_bind ?_;show wpAny _ _ ((pure (Value.ref a,([]:List Value)):Sem _) >>= fun z=>Builtin.Frozenset.addrOf z.1) _ _ s;refine wpAny_bind (wpAny_pure (wpAny_pure ?_));refine wpAny_bind (wpAny_bind (wpAny_bind (wpAny_setState_of e1 e3 e4 (wpAny_pure (wpAny_pure ?_)))));refine wpAny_bind (wpAny_bind (wpAny_setState_of e1 e3 e4 ?_));refine wpAny_bind (wpAny_bind (wpAny_askSetting (wpAny_pure ?_)));refine wpAny_pure ?_;show wpAny _ _ (if (!w.params.followText "set-order"&&(!t.plain&&decide (es.size > 1)))=true then _ else _) _ _ s;rw[T.pln];simp only[Bool.not_true,Bool.false_and,Bool.and_false,Bool.false_eq_true,if_false];refine wpAny_bind (wpAny_pure (wpAny_bind (wpAny_bind (wpAny_setState_of e1 e3 e4 (wpAny_pure ?_)))));refine wpAny_bind (wpAny_newObj_type (wpAny_pure ⟨_,rfl,"set_iterator",_,⟨_,Heap.get?_push_size _ rfl,rfl⟩,fL.lookup,by simpa[rawInt] using q⟩))
theorem Bl{sl:Nat}{Q:Option (Value×Nat)->Shared->Prop}(x:lJ w s.heap a es ep t)(hs:Cv w t i sl)
    (q1:∀ e Zz,(nC w a es ep)[i]?=some e->Cv w t (i+1) Zz->Q (some (e.2,Zz)) s) (q0:(nC w a es ep)[i]?=none->Q none s):wpAny (model P w) A (setNext a sl i ep) Q E s:=by
  obtain⟨o,e1,e2,e3,e4,T⟩:=id x;unfold setNext;refine wpAny_bind (wpAny_setState_of e1 e3 e4 ?_);dsimp only;refine wpAny_bind (wpAny_bind (wpAny_askSetting (wpAny_pure ?_)));show wpAny _ _ (if w.params.followText "set-order"=true then _ else _) _ _ s;by_cases c:w.params.followText "set-order"=true
  · rw[if_pos c,if_neg (by simp)];unfold setWalk;refine wpAny_bind (wpAny_bind (wpAny_setState_of e1 e3 e4 ?_));dsimp only;refine wpAny_bind (wpAny_bind (wpAny_askSetting (wpAny_pure ?_)));show wpAny _ _ (if w.params.followText "set-order"=true then _ else _) _ _ s;rw[if_pos c];refine wpAny_bind (wpAny_askSetting (wpAny_pure (wpAny_pure ?_)));show Q (Option.map _ (pickOrder (w.params.setOrder a ep) es)[i]?) s;have eo:nC w a es ep=pickOrder (w.params.setOrder a ep) es:=if_pos c;rw[eo] at q1 q0;cases h:(pickOrder (w.params.setOrder a ep) es)[i]? with
    | none=>exact q0 h
    | some e=>exact q1 e sl h (.inl c)
  · rw[if_neg c];have eo:nC w a es ep=es:=if_neg c;rw[eo] at q1 q0;have hb:SetTable.below t.place sl=i:=hs.resolve_left c;have hl:t.led=true:=T.led.resolve_left c;show wpAny _ _ (if (!t.plain&&decide (es.size > 1))=true then _ else _) _ _ s;rw[T.pln];simp only[Bool.not_true,Bool.false_and,Bool.false_eq_true,if_false];show wpAny _ _ ((if (!t.led&&!es.isEmpty)=true then unsupported "set:maker-not-led" else pure ()) >>= fun _=>_) _ _ s;rw[hl];simp only[Bool.not_true,Bool.false_and,Bool.false_eq_true,if_false];refine wpAny_bind (wpAny_pure (wpAny_pure ?_));rw[hb];have hz:t.place.size=es.size:=by
      have:=e4;unfold SetTable.fits at this;simp only[Bool.and_eq_true,beq_iff_eq] at this;exact this.1
    by_cases d:i < es.size
    · have h1:es[i]?=some es[i]:=Array.getElem?_eq_getElem d;have h2:t.place[i]?=some (t.place[i]'(by omega)):=Array.getElem?_eq_getElem (by omega);rw[h1,h2];exact q1 _ _ h1 (.inr (Jr T h2))
    · have h1:es[i]?=none:=Array.getElem?_eq_none (by omega);rw[h1];exact q0 h1
theorem Mj{Q:Option Value->Shared->Prop}(ki:Bn w s.heap it a i es.size ep t)(x:lJ w s.heap a es ep t){e:Int×Value}(he:(nC w a es ep)[i]?=some e)
    (q:∀ h',Bn w h' it a (i+1) es.size ep t->Heap.SameBut it s.heap h'->Q (some e.2) {s with heap:=h'}):wpAny (model P w) A (pyNext (.ref it)) Q E s:=by
  obtain⟨oi,sl,i1,i2,i3,i4⟩:=id ki;obtain⟨o,e1,e2,e3,e4,T⟩:=id x;have lt:i < es.size:=by have:=(Array.getElem?_eq_some_iff.mp he).1;rw[oQ] at this;exact this
  unfold pyNext;refine wpAny_bind (wpAny_attempt (wpAny_callSpecial?_slot (name:=Str.ofString "__next__") ki.ty fL
    (wpAny_call_entry fL ki.ty qC ?_ (rY _))))
  unfold Builtin.«set_iterator.__next__»;refine wpAny_bind (wpAny_pure (wpAny_bind (wpAny_fieldsOf i1 i3 ?_)));show wpAny _ _ (setEntries a >>= fun _=>_) _ _ s;refine wpAny_bind (wpAny_bind (wpAny_setState_of e1 e3 e4 (wpAny_pure ?_)));rw[if_neg (by simp)];show wpAny _ _ (setNext a (Int.toNat (sl:Nat)) (Int.toNat (i:Nat)) (Int.toNat (ep:Nat)) >>= fun z=>_) _ _ s;simp only[Int.toNat_natCast];refine wpAny_bind ?_;refine Bl x i4 (fun e' Zz he' hs'=>?_) fun z=>by rw[z] at he;cases he
  rw[he] at he';cases he';show wpAny _ _ (setField (.ref it) 0 (rawInt (Zz:Nat)) >>= fun _=>_) _ _ s;refine wpAny_bind (wpAny_setField i1 i3 (by simp) ?_);have j1:(s.heap.update it (Obj.mapFields (·.setIfInBounds 0 (rawInt (Zz:Nat))))).get? it=some (Obj.mapFields (·.setIfInBounds 0 (rawInt (Zz:Nat))) oi):=Heap.get?_update_self _ i1 (Obj.isFreed_of_fields (Obj.data_mapFields i3 _));have j3:(Obj.mapFields (·.setIfInBounds 0 (rawInt (Zz:Nat))) oi).data=.fields #[.int (Zz:Nat) 0,.int (i:Nat) 0,.ref a,.int (es.size:Nat) 0,.int (ep:Nat) 0]:=by rw[Obj.data_mapFields i3];simp[rawInt]
  show wpAny _ _ (setField (.ref it) 1 (rawInt ((i:Int)+1)) >>= fun _=>_) _ _ _;refine wpAny_bind (wpAny_setField j1 j3 (by simp) ?_);refine wpAny_pure ⟨_,rfl,wpAny_pure (q _ ⟨_,Zz,Heap.get?_update_self _ j1 (Obj.isFreed_of_fields (Obj.data_mapFields j3 _)),((Obj.cls_mapFields ..).trans (Obj.cls_mapFields ..)).trans i2,by rw[Obj.data_mapFields j3];simp[rawInt],hs'⟩ ((Heap.SameBut.update ..).trans (Heap.SameBut.update ..)))⟩
theorem O0{Q:Option Value->Shared->Prop}(hh:A.handled=none)(ki:Bn w s.heap it a es.size es.size ep t)(x:lJ w s.heap a es ep t)
    (q:∀ h',Heap.ExtBut it s.heap h'->Q none {s with heap:=h'}):wpAny (model P w) A (pyNext (.ref it)) Q E s:=by
  obtain⟨oi,sl,i1,i2,i3,i4⟩:=id ki;obtain⟨o,e1,e2,e3,e4,T⟩:=id x;unfold pyNext;refine wpAny_bind (wpAny_attempt (wpAny_callSpecial?_slot (name:=Str.ofString "__next__") ki.ty fL
    (wpAny_call_entry fL ki.ty qC ?_ (rY _))))
  unfold Builtin.«set_iterator.__next__»;refine wpAny_bind (wpAny_pure (wpAny_bind (wpAny_fieldsOf i1 i3 ?_)));show wpAny _ _ (setEntries a >>= fun _=>_) _ _ s;refine wpAny_bind (wpAny_bind (wpAny_setState_of e1 e3 e4 (wpAny_pure ?_)));rw[if_neg (by simp)];show wpAny _ _ (setNext a (Int.toNat (sl:Nat)) (Int.toNat (es.size:Nat)) (Int.toNat (ep:Nat)) >>= fun z=>_) _ _ s;simp only[Int.toNat_natCast];refine wpAny_bind ?_;refine Bl x i4 (fun e' Zz he' hs'=>by
    have:=(Array.getElem?_eq_some_iff.mp he').1;rw[oQ] at this;omega) fun _=>?_
  show wpAny _ _ (setField (.ref it) 2 .none >>= fun _=>_) _ _ s;refine wpAny_bind (wpAny_setField i1 i3 (by simp) ?_);show wpAny _ _ (newExc (.type "StopIteration") [] >>= fun _=>_) _ _ _;refine wpAny_bind ?_;simp only[newExc,newTuple];refine wpAny_bind (wpAny_newObj_type ?_ (by size_fits));refine wpAny_bind (m:=firstArgMember _ _) (wpAny_of_eq (a:=Value.none) (by first|rfl|(simp only[firstArgMember];rfl)) (wpAny_newObj_type ?_ (by size_fits)))
  simp only[raiseNew];refine wpAny_bind (wpAny_handled ?_);rw[show A.in1.handled=none from hh];refine wpAny_bind (wpAny_pure (wpAny_throw ?_));refine wpAny_bind (wpAny_isInstance (T:="StopIteration") (b:=true) ⟨_,Heap.get?_push_size _ rfl,rfl⟩ (show _ from isSubtype_stop) ?_);exact wpAny_pure (q _ (((Heap.SameBut.update ..).extBut.push _).push _))
theorem Ml{n:Nat}{Q:q0A}(ki:Bn w s.heap it a i n ep t)(h:Q (.ref it) s):wpAny (model P w) A (pyIter (.ref it)) Q E s:=by
 refine wpAny_pyIter_slot ki.ty tL (wpAny_call_entry tL ki.ty Bz ?_ (CF _));show wpAny _ _ (ret (.ref it)) _ _ s;exact wpAny_pure ⟨_,rfl,"set_iterator",_,ki.ty,fL.lookup,h⟩
theorem JC(hh:A.handled=none)(it a:Addr)(ne:a≠it)(es:Array (Int×Value))(ep:Nat)(t:SetTable) :
    Walks P w A it [it,a] [it] es.size (fun i v=>∃ e,(nC w a es ep)[i]?=some e/\v=e.2) (fun i h=>Bn w h it a i es.size ep t/\lJ w h a es ep t) where
  sub:=fun b hb=>by simp at hb;simp[hb]
  frame:=fun _ _ _ st hk=>⟨st.1.to fun o e=>hk it (by simp) o e,st.2.to fun o e=>hk a (by simp) o e⟩
  item:=fun i s Q E hi st hQ=>Mj st.1 st.2 (Array.getElem?_eq_getElem (by rw[oQ];exact hi)) fun h' k2 sb=>hQ _ h' s.toks ⟨_,Array.getElem?_eq_getElem (by rw[oQ];exact hi),rfl⟩ ⟨k2,st.2.to fun o e=>sb.extBut a o ne e⟩ fun b o hb e=>sb.extBut b o (fun h=>hb (by simp[h])) e
  done:=fun s Q E st hQ=>O0 hh st.1 st.2 fun h' he=>hQ h' s.toks fun b o hb e=>he b o (fun h=>hb (by simp[h])) e
  self:=fun _ _ _ _ st hQ=>Ml st.1 hQ
end
section
variable {prog:Program} {w:World} {A:Around} {E:q0A} {s:Shared} {r a:Addr} {es:Array (Int×Value)} {ep:Nat} {t:SetTable}
theorem Ls{Q:Bool->Shared->Prop}(hT:s.TypeIs (.ref r) "set")(h:Q false s):wpAny (model prog w) A (Builtin.List.listLengthHint (.ref r)) Q E s:=by
 unfold Builtin.List.listLengthHint;refine wpAny_bind (wpAny_specialOf hT PySem.F.slot_set_len.lookup ?_);generalize hid:("set.__len__":String)=id0
 wp_delta
 rw[show splitId id0=some ("set","__len__") from by subst hid;decide +kernel];subst hid;refine wpAny_bind (wpAny_isInstance (T:="set") (b:=true) hT (by rw[isSubtype_type];kernel_rfl) ?_);refine wpAny_ite_split (fun hab=>absurd hab (by decide)) (fun _=>?_);refine wpAny_ite_split (fun _=>?_) (fun hab=>absurd (by decide +kernel) hab);refine wpAny_bind (wpAny_typeOf hT ?_);exact wpAny_pure h
open PySem.W in
theorem Pd:KdlSrc prog w "set" a a es.size (fun i v=>∃ e,(nC w a es ep)[i]?=some e/\v=e.2) (fun h=>lJ w h a es ep t) where
 type:=fun _ hm=>hm.ty
 there:=fun _ hm=>⟨hm.lt,hm.lt⟩
 keep:=fun _ _ hm hk=>hm.to fun o e=>hk a (.inl rfl) o e
 notList:=by decide
 notTuple:=by decide
 hint:=fun _ _ _ _ hm hq=>Ls hm.ty hq
 iter:=fun _ _ hh hm=>⟨_,_,(fun _ _ hq=>Mh hm hq),JC hh _ a (Nat.ne_of_lt hm.lt) es ep t,⟨⟨_,0,Heap.get?_push_size _ rfl,rfl,rfl,Js (let ⟨_,_,_,_,_,T⟩:=hm;T)⟩,hm.to fun o e=>Heap.get?_push_of_some _ e⟩⟩
end
theorem JN:bootBuiltins "set"=some (.type "set"):=by decide +kernel
theorem look1{k z:Str}{a c:Addr}{r:List (Str×Addr)}(e:List.lookup k r=some a)(h:List.lookup z [(k,a)]=some c):List.lookup z r=some c:=by
 simp only[List.lookup] at h;split at h
 ·next y=>cases h;rw[eq_of_beq y];exact e
 ·cases h
noncomputable def E7(P:Program)(w:World)(a:Addr)(ns:List Int):HO:=.ext (tP P w a ns)
theorem OZ{X:Cx}{H:Hp}{h:Heap}{a:Addr}{ns:List Int}(x:tP X.prog X.w a ns h):dJ X.prog X.w H h a (E7 X.prog X.w a ns) :=
 ⟨x,let ⟨o,_,_,_,e,_⟩:=x;⟨o,e⟩,fun _ _ y k=>y.keep k⟩
noncomputable def nB(ns:List Int):List Int:=once (fun i=>ns.getD i 0) ns.length
noncomputable def JV(P:Program)(w:World):List V->Hp->VK->Prop:=fun vs H Q=>on1 vs fun x=>aQ x fun p=>∃ ns:List Int,H p=some (.lst (ns.map V.int))/\ns.length<=4/\∀ l,H l=none->Q (.ref l) (Zh H l (E7 P w l (nB ns)))
theorem BX{X:Cx}(hc:X.calm=true):eX X (.type "set") (JV X.prog X.w):=fun Zg s σ H xs us Q I r h=>by
 obtain⟨x,rfl,h1⟩:=iS h;obtain⟨p,rfl,ns,e,h4,q⟩:=aS h1;obtain⟨u,rfl,ru⟩:=vals1 r;cases ru;obtain⟨Zk,r',pl,hz⟩:=I.list (dQ.of e);have hi:IntsAre Zk ns:=FH r';have hlen:=r'.length;have lm:Zk.toArray.size=ns.length:=by simpa using hlen.symm
 refine DP (items:=Zk.toArray) (I.ok.hd hc) pl.isList (by simpa using hi) (by omega) fun h' tk hS kp=>?_;rw[lm] at hS;exact⟨.ref s.heap.objs.size,_,I.laid (t':=tk) (fun b o e=>kp b o (Heap.lt_size e) e) (Nat.le_refl _) (OZ hS),rfl,q _ (I.Zl.fresh (Nat.le_refl _))⟩
noncomputable def JU(P:Program)(w:World):List V->Hp->VK->Prop:=fun vs H Q=>on1 vs fun x=>aQ x fun p=>∃ ns:List Int,H p=some (E7 P w p ns)/\Q (.int ns.length) H
theorem Fe{X:Cx}:eX X (.builtin "len") (JU X.prog X.w):=fun Zg s σ H xs us Q I r h=>by
 obtain⟨x,rfl,h1⟩:=iS h;obtain⟨p,rfl,ns,e,q⟩:=aS h1;obtain⟨u,rfl,ru⟩:=vals1 r;cases ru;obtain⟨⟨o,es,ep,t,ho,hex,hd,hel,hb,hf,T,hi,hp⟩,_⟩:=I.Zl p _ e;have hl:es.size=ns.length:=by have:=hp.length_eq;simpa using this
 have b1:scanBound=4096:=rfl;refine call_len_set ho hex hd hf (by omega) ?_;exact⟨.int ns.length,H,I.tok _,⟨_,by rw[hl]⟩,q⟩
noncomputable def JW(P:Program)(w:World):List V->Hp->VK->Prop:=fun vs H Q=>on1 vs fun x=>aQ x fun p=>∃ ns:List Int,H p=some (E7 P w p ns)/\ns.length < 64/\∀(l:Addr) (Zu:List Int),H l=none->Zu.Perm ns->Zu.Pairwise (·<=·)->Q (.ref l) (Zh H l (.lst (Zu.map V.int)))
theorem Ff{X:Cx}(hc:X.calm=true):eX X (.builtin "sorted") (JW X.prog X.w):=fun Zg s σ H xs us Q I r h=>by
 obtain⟨x,rfl,h1⟩:=iS h;obtain⟨p,rfl,ns0,e,h64,q0⟩:=aS h1;obtain⟨u,rfl,ru⟩:=vals1 r;cases ru;obtain⟨⟨od,es,ep,t,ho,hex,hd,hel,hb,hf,T,hi,hp0⟩,_⟩:=I.Zl p _ e;have hl:es.size=ns0.length:=by have:=hp0.length_eq;simpa using this
 obtain⟨m,hn,_⟩:=I.loc;have ZY:p≠X.env.locals:=aK e I.free;obtain⟨ns,ens⟩:∃ ns,ns=(nC X.w p es ep).toList.map fun e=>Eg e.2:=⟨_,rfl⟩;have pns:ns.Perm ns0:=by rw[ens];exact(AA.map _).trans hp0
 have lns:ns.length=es.size:=by rw[ens];simp[oQ]
 have q:∀(l:Addr) (Zu:List Int),H l=none->Zu.Perm ns->Zu.Pairwise (·<=·)->Q (.ref l) (Zh H l (.lst (Zu.map V.int))):=fun l Zu a b c=>q0 l Zu a (b.trans pns) c;refine PySem.W.kdu_sorted (Pd (a:=p) (es:=es) (ep:=ep) (t:=t)) (I.ok.hd hc) (Att.Fy hn) (Att.oK ZY ho) ⟨od,ho,hex,hd,hf,T⟩ (by rw[sizeLine_eq];omega) fun D h' tk vs F N lt hlen hP=>?_;have hI:IntsAre vs ns:=Ho (by omega) fun j v ev=>by
  obtain⟨e,e1,rfl⟩:=hP j v ev;have e1':(nC X.w p es ep).toList[j]?=some e:=by rw[Array.getElem?_toList];exact e1
  obtain⟨i,tk,et⟩:=hi e (AA.mem_iff.mp (List.mem_of_getElem? e1'));exact⟨i,tk,by rw[ens,List.getElem?_map,e1'];simp only[Option.map_some,et,Eg],et⟩
 have hD:h'.get? D=some (seqObj "list" vs.toArray 0):=(N _ (List.Mem.head _)).1;have old:∀ b o,b≠X.env.locals->s.heap.get? b=some o->h'.get? b=some o/\b < D:=fun b o nb eb=>by
  by_cases hb:b=p
  ·subst hb;rw[ho] at eb;cases eb;exact⟨(N _ (List.Mem.tail _ (List.Mem.head _))).1,lt _ (List.Mem.head _)⟩
  ·have mem:=Att.mF (h:=s.heap) (L:=X.env.locals) (d:=p) |>.mpr ⟨nb,hb,eb⟩;exact⟨(N _ (List.Mem.tail _ (List.Mem.tail _ mem))).1,lt _ (List.Mem.tail _ mem)⟩
 have g:MeetsIn X.prog X.w (Builtin.«list.sort» ⟨[.ref D],[]⟩) (fun _ R s=>s.heap.get? D=some (seqObj "list" vs.toArray 0)/\∀(out:Array Value) (Zu:List Int),IntsAre out.toList Zu->Zu.Perm ns->Zu.Pairwise (·<=·)->R (.ok (.ret .none)) {s with heap:=sortedHeap s.heap D vs out}) :=
  fun A R s ⟨g1,g2⟩=>list_sort_tree g1 hI (by omega) fun out Zu a b c=>g2 out Zu a b c
 refine call_meetsIn PySem.F.slot_list_sort ⟨_,hD,rfl⟩ PySem.F.entry_list_sort (PySem.F.args_list_sort_1 _) g ⟨hD,fun out Zu hI' hp hs=>?_⟩;have hDL:D≠X.env.locals:=(N _ (List.Mem.head _)).2.1;have hDn:H D=none:=by
  cases z:H D with
  | none=>rfl
  | some o =>
   obtain⟨ob,eb⟩:=(I.Zl D o z).there;exact absurd (old D ob hDL eb).2 (Nat.lt_irrefl _)
 have new:∀ b o,b≠X.env.locals->s.heap.get? b=some o->(sortedHeap h' D vs out).get? b=some o:=fun b o nb eb=>by
  obtain⟨h1,h2⟩:=old b o nb eb;rw[sortedHeap_old (Nat.ne_of_lt h2) (Heap.lt_size h1)];exact h1
 obtain⟨e',hD'⟩:=sortedHeap_at (out:=out) hD;have hns:∀ m',s.heap.Ns X.env.locals m'->(sortedHeap h' D vs out).Ns X.env.locals m':=fun m' hm=>by
  have em:m'=m:=by
   obtain⟨o1,ZJ,ep1,a1,b1,_,c1⟩:=hm;obtain⟨o2,es2,ep2,a2,b2,_,c2⟩:=hn;rw[a1] at a2;cases a2;rw[b1] at b2;cases b2;funext y;rw[<- c1,<- c2]
  subst em;obtain⟨o1,ZJ,ep1,a1,r1⟩:=F.ns;exact⟨o1,ZJ,ep1,by rw[sortedHeap_old hDL.symm (Heap.lt_size a1)];exact a1,r1⟩
 have nn:∀ {b:Addr} {o:HO},H b=some o->b≠D:=fun h z=>by subst z;rw[hDn] at h;cases h
 have nl:∀ {b:Addr} {o:HO},H b=some o->b≠X.env.locals:=fun h=>aK h I.free;refine⟨.ref D,Zh H D (.lst (Zu.map V.int)),show Zi X Zg σ _ {s with heap:=sortedHeap h' D vs out,gens:=s.gens,drawn:=s.drawn,toks:=tk} from I.step (g':=s.gens) (d':=s.drawn) (t':=tk) (ch:=[]) (fun _ z=>nomatch z) (fun b o nb _ _ eb _=>new b o nb eb) (fun b o nb _ _ eb _=>⟨o.slots,new b o nb eb⟩) (fun b o _ eb hb=>?_) (fun b o _ eb=>?_)
  (fun b xs hb=>by rw[aG (nn hb)];exact hb) (fun b o u hb=>by rw[aG (nn hb)];exact hb) (fun b ps hb=>⟨#[],by rw[aG (nn hb),hb];simp⟩) hns (fun b o hb=>?_) I.bare,rfl,q D Zu hDn hp hs⟩
 ·by_cases hbD:b=D
  ·subst hbD;by_cases hbL:b=X.env.locals
   ·exact absurd hbL hDL
   ·exact absurd (old b o hbL eb).2 (Nat.lt_irrefl _)
  ·rw[aG hbD];exact hb
 ·by_cases hbL:b=X.env.locals
  ·subst hbL;obtain⟨o1,ZJ,ep1,a1,r1⟩:=hns m hn;exact⟨o1,a1⟩
  ·exact⟨o,new b o hbL eb⟩
 ·by_cases hbD:b=D
  ·subst hbD;rw[aA] at hb;cases hb;exact⟨by rw[List.length_map,hp.length_eq,sizeLine_eq];omega,out.toList,e',pT hI',hD'⟩
  ·rw[aG hbD] at hb;refine(I.Zl b o hb).tM (fun c v hc ev=>?_) (fun c hc=>by rw[aG (nn hc)];exact hc) fun c xs hc=>by rw[aG (nn hc)];exact hc
   rcases hc with hc|hc
   ·subst hc;exact new c v (nl hb) ev
   ·exact new c v (nl hc) ev
section
variable {P:Program} {w:World} {H:Hp} {Q:VK} {p:Addr}
theorem NY:JV P w [.ref p] H Q = ∃ ns:List Int,H p=some (.lst (ns.map V.int))/\ns.length<=4/\∀ l,H l=none->Q (.ref l) (Zh H l (E7 P w l (nB ns))):=rfl
theorem NJ:JU P w [.ref p] H Q = ∃ ns:List Int,H p=some (E7 P w p ns)/\Q (.int ns.length) H:=rfl
theorem KU:JW P w [.ref p] H Q = ∃ ns:List Int,H p=some (E7 P w p ns)/\ns.length < 64/\∀(l:Addr) (Zu:List Int),H l=none->Zu.Perm ns->Zu.Pairwise (·<=·)->Q (.ref l) (Zh H l (.lst (Zu.map V.int))):=rfl
end
noncomputable def U0(K:q0B)(n:Nat):R2:=fun x y H Q=>aQ x fun a=>aQ y fun b=>(∃ r,mW K H n a b r/\Q (.bl r) H) \/
 ∃(z z' u:Str) (p:Addr) (ts:List V),H a=some (.tup [.str z,.ref p])/\H p=some (.tup ts)/\H b=some (.tup [.str z',.str u])/\z≠z'/\Q (.bl false) H
theorem TN{X:Cx}(n:Nat)(hn:2<=n)(hu:X.A.units+n < cLine):lH X (compareOp .Eq) (U0 X.K n):=fun Zg s σ H x y v u Q I rx ry h=>by
 obtain⟨a,rfl,h1⟩:=aS h;obtain⟨b,rfl,h2⟩:=aS h1;cases rx;cases ry;rcases h2 with⟨r,e,q⟩|⟨z,z',k,p,ts,ea,ep,eb,ne,q⟩
 ·exact Mc e I hu X.prog X.w X.xe _ (bR I q rfl)
 ·obtain⟨Zk,r1,p1,_⟩:=I.tuple (fO.of ea);obtain⟨jts,r2,p2,_⟩:=I.tuple (fO.of eb);obtain⟨kts,r3,p3,_⟩:=I.tuple (fO.of ep);cases r1 with
  | cons a1 r1 =>
  cases r1 with
  | cons a2 r1 =>
  cases r1;cases r2 with
  | cons b1 r2 =>
  cases r2 with
  | cons b2 r2 =>
  cases r2;obtain⟨t1,rfl⟩:=a1;cases a2;obtain⟨t2,rfl⟩:=b1;obtain⟨t3,rfl⟩:=b2;have:=SeqAt.RcAt.tuples (A:=X.A) (e:=fun j=>if j=0 then (z==z') else false) (show s.heap.IsTuple a #[_,_] from p1) (show s.heap.IsTuple b #[_,_] from p2) (by omega) (fun j h1 h2=>by
   match j,h1 with
   | 0,_=>exact SeqAt.EqAt.str_str z t1 z' t2
   | 1,_=>exact SeqAt.EqAt.tuple_str k t3 (show s.heap.IsTuple p kts.toArray from p3) (by show X.A.units+1 < _;omega))
  have nz:(z==z')=false:=beq_eq_false_iff_ne.mpr ne;have ef:((List.range (min (2:Nat) 2)).all (fun j=>if j=0 then (z==z') else false)&&((2:Nat)==2))=false:=by rw[nz];rfl
  have:=this X.prog X.w X.xe (EP X Zg σ Q) (by
   show EP X Zg σ Q (.bool ((List.range (min (2:Nat) 2)).all (fun j=>if j=0 then (z==z') else false)&&((2:Nat)==2))) s;rw[ef];exact bR I q rfl)
  exact this
section
variable {K:q0B} {n:Nat} {H:Hp} {Q:VK} {a b:Addr}
theorem VL:U0 K n (.ref a) (.ref b) H Q=((∃ r,mW K H n a b r/\Q (.bl r) H)\/∃(z z' u:Str) (p:Addr) (ts:List V),H a=some (.tup [.str z,.ref p])/\H p=some (.tup ts)/\H b=some (.tup [.str z',.str u])/\z≠z'/\Q (.bl false) H):=rfl
end
noncomputable def jM:List (Key×V)->Option (List Str)
 | []=>some []
 | (.inr i,_)::r=>(jM r).map (i::·)
 | _=>none
theorem Bg:∀ {kvs:List (Key×V)} {ns:List Str},jM kvs=some ns->kvs.length=ns.length/\∀(j:Nat) (k:Key) (x:V),kvs[j]?=some (k,x)->∃ i:Str,k=.inr i/\ns[j]?=some i
 | [],ns,h=>by cases h;exact⟨rfl,fun j k x e=>by simp at e⟩
 | (k,v)::kvs,ns,h=>by
  cases k with
  | inr i =>
   simp only[jM,Option.map_eq_some_iff] at h;obtain⟨ms,e,rfl⟩:=h;obtain⟨l,f⟩:=Bg e;refine⟨by simp[l],fun j k x ej=>?_⟩;cases j with
   | zero=>simp only[List.getElem?_cons_zero,Option.some.injEq,Prod.mk.injEq] at ej;exact⟨i,ej.1.symm,rfl⟩
   | succ j=>exact f j k x (by simpa using ej)
  | _=>cases h
theorem Pf{ns:List Str}:∀ {vs:List Value},vs.length=ns.length->(∀(j:Nat) (v:Value),vs[j]?=some v->∃ i t,ns[j]?=some i/\v=Value.str i t)->StrsAre vs ns:=by
 induction ns with
 | nil =>
  intro vs hl _;cases vs with
  | nil=>exact .nil
  | cons _ _=>simp at hl
 | cons n ns ih =>
  intro vs hl h;cases vs with
  | nil=>simp at hl
  | cons v vs =>
   obtain⟨i,t,e,rfl⟩:=h 0 v rfl;cases e;exact .cons _ _ (ih (by simpa using hl) fun j v e=>h (j+1) v (by simpa using e))
theorem GJ{vs:List Value}{ss:List Str}(h:StrsAre vs ss):Vals (ss.map V.str) vs:=by
 induction h with
 | nil=>exact .nil
 | cons y t _ ih=>exact .cons ⟨t,rfl⟩ ih
noncomputable def JY:List V->Hp->VK->Prop:=fun vs H Q=>on1 vs fun x=>aQ x fun p=>cH (H p) fun kvs=>dG (jM kvs) fun ns=>ns.length < 64/\∀(l:Addr) (Zu:List Str),H l=none->Zu.Perm ns->sortedS Zu=true->Q (.ref l) (Zh H l (.lst (Zu.map V.str)))
theorem yN{X:Cx}(hc:X.calm=true):eX X (.builtin "sorted") JY:=fun Zg s σ H xs us Q I r h=>by
 obtain⟨x,rfl,h1⟩:=iS h;obtain⟨p,rfl,h2⟩:=aS h1;obtain⟨kvs,e,h3⟩:=dA h2;obtain⟨ns,ek,h64,q⟩:=dR h3;obtain⟨u,rfl,ru⟩:=vals1 r;cases ru;obtain⟨hl,hk⟩:=Bg ek;obtain⟨z,hd,vs0,rel,dd⟩:=sE I.Zl e;obtain⟨ep,dat⟩:=dd.dictAt;obtain⟨od,es,ho,_⟩:=id dat;obtain⟨m,hn,_⟩:=I.loc;have ZY:p≠X.env.locals:=aK e I.free;have l0:=rel.length;refine PySem.W.kdu_sorted (PySem.W.kdl_dict (knd:=bU X.prog X.w) (kvs:=vs0) (ep:=ep) hd) (I.ok.hd hc) (Att.Fy hn) (Att.oK ZY ho) dat (by omega) fun D h' tk vs F N lt hlen hP=>?_;have hI:StrsAre vs ns:=Pf (by omega) fun j v ev=>by
  obtain⟨k,x,e1,e2⟩:=hP j v ev;have hj:j < kvs.length:=by
   have:=(List.getElem?_eq_some_iff.mp e1).1;omega
  obtain⟨⟨k',x'⟩,ekv⟩:∃ y,kvs[j]?=some y:=⟨_,List.getElem?_eq_getElem hj⟩;obtain⟨v',e3⟩:=KV.at rel ekv;rw[e1] at e3;cases e3;obtain⟨i,rfl,ei⟩:=hk j _ _ ekv;obtain⟨t,et⟩:=(show ∃ t,v=Value.str i t from sP e2);exact⟨i,t,ei,et⟩
 have hD:h'.get? D=some (seqObj "list" vs.toArray 0):=(N _ (List.Mem.head _)).1;have old:∀ b o,b≠X.env.locals->s.heap.get? b=some o->h'.get? b=some o/\b < D:=fun b o nb eb=>by
  by_cases hb:b=p
  ·subst hb;rw[ho] at eb;cases eb;exact⟨(N _ (List.Mem.tail _ (List.Mem.head _))).1,lt _ (List.Mem.head _)⟩
  ·have mem:=Att.mF (h:=s.heap) (L:=X.env.locals) (d:=p) |>.mpr ⟨nb,hb,eb⟩;exact⟨(N _ (List.Mem.tail _ (List.Mem.tail _ mem))).1,lt _ (List.Mem.tail _ mem)⟩
 have g:MeetsIn X.prog X.w (Builtin.«list.sort» ⟨[.ref D],[]⟩) (fun _ R s=>s.heap.get? D=some (seqObj "list" vs.toArray 0)/\∀(out:Array Value) (Zu:List Str),StrsAre out.toList Zu->Zu.Perm ns->sortedS Zu=true->R (.ok (.ret .none)) {s with heap:=sortedHeap s.heap D vs out}) :=
  fun A R s ⟨g1,g2⟩=>list_sort_treeK strKind_oneLt g1 hI.keysOf (fun v₁ v₂ rest e=>keyKind_strs (by rw[<- e];exact hI)) (by omega) fun ZR hp hs=>by
   obtain⟨ss',h1,h2,h3⟩:=sorted_out_str hI hp hs;exact g2 _ ss' h1 h2 h3
 refine call_meetsIn PySem.F.slot_list_sort ⟨_,hD,rfl⟩ PySem.F.entry_list_sort (PySem.F.args_list_sort_1 _) g ⟨hD,fun out Zu hI' hp hs=>?_⟩;have hDL:D≠X.env.locals:=(N _ (List.Mem.head _)).2.1;have hDn:H D=none:=by
  cases z:H D with
  | none=>rfl
  | some o =>
   obtain⟨ob,eb⟩:=(I.Zl D o z).there;exact absurd (old D ob hDL eb).2 (Nat.lt_irrefl _)
 have new:∀ b o,b≠X.env.locals->s.heap.get? b=some o->(sortedHeap h' D vs out).get? b=some o:=fun b o nb eb=>by
  obtain⟨h1,h2⟩:=old b o nb eb;rw[sortedHeap_old (Nat.ne_of_lt h2) (Heap.lt_size h1)];exact h1
 obtain⟨e',hD'⟩:=sortedHeap_at (out:=out) hD;have hns:∀ m',s.heap.Ns X.env.locals m'->(sortedHeap h' D vs out).Ns X.env.locals m':=fun m' hm=>by
  have em:m'=m:=by
   obtain⟨o1,ZJ,ep1,a1,b1,_,c1⟩:=hm;obtain⟨o2,es2,ep2,a2,b2,_,c2⟩:=hn;rw[a1] at a2;cases a2;rw[b1] at b2;cases b2;funext y;rw[<- c1,<- c2]
  subst em;obtain⟨o1,ZJ,ep1,a1,r1⟩:=F.ns;exact⟨o1,ZJ,ep1,by rw[sortedHeap_old hDL.symm (Heap.lt_size a1)];exact a1,r1⟩
 have nn:∀ {b:Addr} {o:HO},H b=some o->b≠D:=fun h z=>by subst z;rw[hDn] at h;cases h
 have nl:∀ {b:Addr} {o:HO},H b=some o->b≠X.env.locals:=fun h=>aK h I.free;refine⟨.ref D,Zh H D (.lst (Zu.map V.str)),show Zi X Zg σ _ {s with heap:=sortedHeap h' D vs out,gens:=s.gens,drawn:=s.drawn,toks:=tk} from I.step (g':=s.gens) (d':=s.drawn) (t':=tk) (ch:=[]) (fun _ z=>nomatch z) (fun b o nb _ _ eb _=>new b o nb eb) (fun b o nb _ _ eb _=>⟨o.slots,new b o nb eb⟩) (fun b o _ eb hb=>?_) (fun b o _ eb=>?_)
  (fun b xs hb=>by rw[aG (nn hb)];exact hb) (fun b o u hb=>by rw[aG (nn hb)];exact hb) (fun b ps hb=>⟨#[],by rw[aG (nn hb),hb];simp⟩) hns (fun b o hb=>?_) I.bare,rfl,q D Zu hDn hp hs⟩
 ·by_cases hbD:b=D
  ·subst hbD;by_cases hbL:b=X.env.locals
   ·exact absurd hbL hDL
   ·exact absurd (old b o hbL eb).2 (Nat.lt_irrefl _)
  ·rw[aG hbD];exact hb
 ·by_cases hbL:b=X.env.locals
  ·subst hbL;obtain⟨o1,ZJ,ep1,a1,r1⟩:=hns m hn;exact⟨o1,a1⟩
  ·exact⟨o,new b o hbL eb⟩
 ·by_cases hbD:b=D
  ·subst hbD;rw[aA] at hb;cases hb;exact⟨by rw[List.length_map,hp.length_eq];omega,out.toList,e',GJ hI',hD'⟩
  ·rw[aG hbD] at hb;refine(I.Zl b o hb).tM (fun c v hc ev=>?_) (fun c hc=>by rw[aG (nn hc)];exact hc) fun c xs hc=>by rw[aG (nn hc)];exact hc
   rcases hc with hc|hc
   ·subst hc;exact new c v (nl hb) ev
   ·exact new c v (nl hc) ev
section
variable {H:Hp} {Q:VK} {p:Addr}
theorem Oc:JY [.ref p] H Q=cH (H p) fun kvs=>dG (jM kvs) fun ns=>ns.length < 64/\∀(l:Addr) (Zu:List Str),H l=none->Zu.Perm ns->sortedS Zu=true->Q (.ref l) (Zh H l (.lst (Zu.map V.str))):=rfl
end
end L2
namespace PySem
open AutoSeq1 (wpAny_loadPart')
open PyProof.Rows PySem.W
section
variable {prog:Program} {w:World} {A:Around} {E:q0A} {s:Shared} {K:Type} [DecidableEq K] {knd:KeyKind prog w K} {r d:Addr} {kvs:List (K×Value)} {ep:Nat}
theorem nU{Q₁:q0A}(hh:A.handled=none)(hv:s.heap.IsItemsView r d)(hm:s.heap.DictAt knd d kvs ep)(hn:kvs.length<=sizeLine)
    (hQ:∀(h':Heap) (tk:Nat) (as:List Addr),(∀ b o,s.heap.get? b=some o->h'.get? b=some o)->as.length=kvs.length->KdxG knd kvs s.heap.objs.size h' as->Q₁ (.ref h'.objs.size) {s with heap:=h'.push {cls:=.type "tuple",data:=.seq (as.map Value.ref).toArray},toks:=tk}) :
    codeAny (model prog w) A (.call (.builtin "tuple.__new__") ⟨[.type "tuple",.ref r],[]⟩) (wants Q₁ E) s:=by
  refine codeAny_of_tree ?_;show wpAny _ A.in1 (do checkBuiltinCall "tuple.__new__" ⟨[.type "tuple",.ref r],[]⟩;again (.builtin "tuple.__new__" ⟨[.type "tuple",.ref r],[]⟩)) _ _ s;refine wpAny_bind (wpAny_of_eq (F.newCall_tuple_1 _) (wpAny_pure ⟨plainId_quiet F.plain_tuple_new _,codeAny_builtin F.entry_tuple_new ?_⟩));rw[Around.under_plainId F.plain_tuple_new _];have aa0:=sub_tuple_self;have ab3:=init_tuple_lookup;have hmh:=madeHere_tuple;have hTI:s.TypeIs (.ref r) "dict_items":=let ⟨o,ho,x,_⟩:=hv;⟨o,ho,x⟩;wp_walk using wpAny_typeOf hTI,kdx_collect (A:=A.in1) (knd:=knd) (kvs:=kvs) (ep:=ep) hh hv hm hn;intro h' tk as hk hl hG;show wpAny _ _ (Builtin.Tuple.tupleExact (as.map Value.ref).toArray >>= fun v=>ret v) _ _ _;unfold Builtin.Tuple.tupleExact;refine wpAny_bind (wpAny_newObj_type ?_ (by show(as.map Value.ref).toArray.size<=sizeLine;simpa[hl] using hn));refine wpAny_pure ?_;exact hQ h' tk as hk hl hG
theorem tZ{Q:q0A}(hh:A.handled=none)(hv:s.heap.IsItemsView r d)(hm:s.heap.DictAt knd d kvs ep)(hn:kvs.length<=sizeLine)
    (hQ:∀(h':Heap) (tk:Nat) (as:List Addr),(∀ b o,s.heap.get? b=some o->h'.get? b=some o)->as.length=kvs.length->KdxG knd kvs s.heap.objs.size h' as->Q (.ref h'.objs.size) {s with heap:=h'.push {cls:=.type "tuple",data:=.seq (as.map Value.ref).toArray},toks:=tk}) :
    wpAny (model prog w) A (call (.type "tuple") [.ref r]) Q E s:=by
  refine callType_codes (Q₁:=fun obj s₁=>s₁.TypeIs obj "tuple"/\Q obj s₁) F.called_tuple (F.typeCall_tuple_1 _) F.entry_object_init
    (nU (knd:=knd) (kvs:=kvs) (ep:=ep) hh hv hm hn fun h' tk as hk hl hG=>⟨⟨_,Heap.get?_push_size _ rfl,rfl⟩,hQ h' tk as hk hl hG⟩) fun obj s₁ h₁=>?_
  exact⟨h₁.1,F.args_object_init_2 obj _,object_init_meets F.called_tuple.init.lookup F.called_tuple.made (by decide) prog w A.in1 _ s₁ ⟨h₁.1,rfl,h₁.2⟩⟩
end
end PySem
namespace L2
open PySem PySem.Spec PyProof.Rows
noncomputable def MR(a d:Addr):HO:=.ext fun h=>h.IsItemsView a d
section
variable {X:Cx} {o:Expr} {td:TE} {apos Zo:Pos}
noncomputable def JT(td:TE):TE:=fun σ H Q=>td σ H fun x H1=>aQ x fun a=>cH (H1 a) fun _=>∀ r,H1 r=none->Q (.ref r) (Zh H1 r (MR r a))
theorem L4(ho:PE X o td)(ZV:attributeBase o "items" X.env (eval o X.env)=eval o X.env:=by rfl)(ZW:(apos.endLine==Zo.line)=true:=by rfl):PE X (.Call (.Attribute o "items" apos) [] [] Zo) (JT td):=fun Zg s σ H Q I h=>by
 refine wpAny_Call_method0_late ZV ZW (thn (ho Zg s σ H _ I h) fun v s1 ⟨x,H1,I1,r1,q1⟩=>?_);obtain⟨a,rfl,q2⟩:=aS q1;obtain⟨kvs,e0,q3⟩:=dA q2;obtain rfl:v=Value.ref a:=r1;obtain⟨t1,t2,_⟩:=uG I1 (.inl ⟨kvs,.inl e0⟩);refine⟨"dict","dict.items",PySem.F.plainAttrs_dict,PySem.F.slot_dict_items,PySem.F.type_dict_items,t1,t2,Calls.callWith_builtin rfl (PySem.evalArgs_none ?_)⟩;obtain⟨z,hd,vs,rel,dd⟩:=sE I1.Zl e0;refine call_meetsIn PySem.F.slot_dict_items dd.typeIs PySem.F.entry_dict_items (PySem.F.args_dict_items_1 _) (meets_dict_items (bU X.prog X.w) a hd) ⟨⟨vs,dd⟩,?_⟩;have I2:=I1.laid (t':=s1.toks) (fun b o e=>Heap.get?_push_of_some _ e) (Nat.le_refl _) (show dJ X.prog X.w _ (s1.heap.push {cls:=.type "dict_items",data:=.fields #[.ref a]}) _ (MR s1.heap.objs.size a) from ⟨⟨_,Heap.get?_push_size _ rfl,rfl,rfl⟩,⟨_,Heap.get?_push_size _ rfl⟩,fun h1 h2 ⟨o,ho,x⟩ k=>⟨o,k o ho,x⟩⟩);exact⟨.ref _,_,I2,rfl,q3 _ (I1.Zl.fresh (Nat.le_refl _))⟩
end
theorem KV.atR{kvs:List (Key×V)}{vs:List (Key×Value)}(r:KV kvs vs){i:Nat}{k:Key}{x:V}(e:kvs[i]?=some (k,x)):∃ v,vs[i]?=some (k,v)/\bH x v:=by
 unfold KV at r
 induction r generalizing i with
 | nil=>simp at e
 | @cons p q ps qs h t ih=>cases i with
  | zero =>
   have e':p=(k,x):=by simpa using e
   subst e';exact⟨q.2,by rw[List.getElem?_cons_zero,show k=q.1 from h.1],h.2⟩
  | succ i=>simpa using ih (i:=i) (by simpa using e)
theorem Ct:∀ as:List Addr,Vals (as.map V.ref) (as.map Value.ref)
 | []=>.nil
 | a::as=>.cons rfl (Ct as)
noncomputable def nL:List Addr->List (Key×V)->Hp->Hp
 | a::as,(k,x)::kvs,H=>Zh (nL as kvs H) a (.tup [kV k,x])
 | _,_,H=>H
theorem pE{H:Hp}{b:Addr}:∀ {as:List Addr} {kvs:List (Key×V)},b∉as->nL as kvs H b=H b
 | [],_,_=>by simp[nL]
 | a::as,[],_=>by simp[nL]
 | a::as,(k,x)::kvs,h=>by
  simp only[List.mem_cons,not_or] at h;rw[nL,aG h.1,pE h.2]
theorem x9{H:Hp}{a:Addr}{k:Key}{x:V}:∀ {as:List Addr} {kvs:List (Key×V)} {j:Nat},as.Nodup->as[j]?=some a->kvs[j]?=some (k,x)->nL as kvs H a=some (.tup [kV k,x])
 | [],_,_,_,h,_=>by simp at h
 | b::as,[],_,_,_,h=>by simp at h
 | b::as,(k',x')::kvs,0,_,h1,h2=>by
  simp only[List.getElem?_cons_zero,Option.some.injEq,Prod.mk.injEq] at h1 h2;obtain⟨rfl,rfl⟩:=h2;subst h1;rw[nL,aA]
 | b::as,(k',x')::kvs,j+1,nd,h1,h2=>by
  rw[List.nodup_cons] at nd;simp only[List.getElem?_cons_succ] at h1 h2;have:a≠b:=fun z=>nd.1 (by rw[<- z];exact List.mem_of_getElem? h1);rw[nL,aG this,x9 nd.2 h1 h2]
theorem JH{H:Hp}{b:Addr}{o:HO}{as:List Addr}{kvs:List (Key×V)}(nd:as.Nodup)(hl:as.length=kvs.length)(hb:b∈as)(h:nL as kvs H b=some o):∃(j:Nat) (k:Key) (x:V),as[j]?=some b/\kvs[j]?=some (k,x)/\o=.tup [kV k,x]:=by
 obtain⟨j,hj⟩:=List.mem_iff_getElem?.mp hb;have ZK:j < kvs.length:=by have:=(List.getElem?_eq_some_iff.mp hj).1;omega
 obtain⟨⟨k,x⟩,e⟩:∃ y,kvs[j]?=some y:=⟨_,List.getElem?_eq_getElem ZK⟩;rw[x9 nd hj e] at h;exact⟨j,k,x,hj,e,(Option.some.inj h).symm⟩
noncomputable def J0:List V->Hp->VK->Prop:=fun vs H Q=>on1 vs fun x=>aQ x fun r=>∃(d:Addr) (kvs:List (Key×V)),H r=some (MR r d)/\H d=some (.dK kvs)/\∀(l:Addr) (as:List Addr) (H':Hp),H l=none->Same H H'->H' l=some (.tup (as.map V.ref))->as.length=kvs.length->(∀(j:Nat) (a:Addr) (k:Key) (x:V),as[j]?=some a->kvs[j]?=some (k,x)->H' a=some (.tup [kV k,x]))->Q (.ref l) H'
theorem Fh{X:Cx}(hc:X.calm=true):eX X (.type "tuple") J0:=fun Zg s σ H xs us Q I rr h=>by
 obtain⟨x,rfl,h1⟩:=iS h;obtain⟨r,rfl,d,kvs,er,ed,q⟩:=aS h1;obtain⟨u,rfl,ru⟩:=vals1 rr;cases ru;have hv:s.heap.IsItemsView r d:=(I.Zl r _ er).1;obtain⟨z,hd,vs0,rel,dd⟩:=sE I.Zl ed;obtain⟨ep,dat⟩:=dd.dictAt;have l0:=rel.length;refine tZ (knd:=bU X.prog X.w) (kvs:=vs0) (ep:=ep) (I.ok.hd hc) hv dat (by omega) fun h' tk as hk hl hG=>?_;have fresh:∀ {b:Addr},s.heap.objs.size<=b->H b=none:=fun hb=>I.Zl.fresh hb;have abR:∀ b o,H b=some o->∃ ob,s.heap.get? b=some ob:=fun b o e=>(I.Zl b o e).there;have hl0:H h'.objs.size=none:=by
  cases e:H h'.objs.size with
  | none=>rfl
  | some o =>
   obtain⟨ob,eb⟩:=abR _ _ e;exact absurd (Heap.lt_size (hk _ _ eb)) (Nat.lt_irrefl _)
 have nd:as.Nodup:=hG.rise.imp fun h=>Nat.ne_of_lt h;have aH:∀ a∈as,H a=none:=fun a ha=>fresh (Nat.le_of_lt (hG.above a ha));have nl:h'.objs.size∉as:=fun z=>absurd (hG.there z) (Nat.lt_irrefl _);have hlk:as.length=kvs.length:=by omega
 have same:Same H (Zh (nL as kvs H) h'.objs.size (.tup (as.map V.ref))):=fun b o e=>by
  have h1:b≠h'.objs.size:=fun z=>by rw[z,hl0] at e;cases e
  have h2:b∉as:=fun z=>by rw[aH b z] at e;cases e
  rw[aG h1,pE h2];exact e
 have aaE:∀ b o,s.heap.get? b=some o->(h'.push {cls:=.type "tuple",data:=.seq (as.map Value.ref).toArray}).get? b=some o:=fun b o e=>Heap.get?_push_of_some _ (hk b o e);refine⟨.ref h'.objs.size,Zh (nL as kvs H) h'.objs.size (.tup (as.map V.ref)),show Zi X Zg σ _ {s with heap:=h'.push {cls:=.type "tuple",data:=.seq (as.map Value.ref).toArray},gens:=s.gens,drawn:=s.drawn,toks:=tk} from I.step (g':=s.gens) (d':=s.drawn) (t':=tk) (ch:=[]) (fun _ z=>nomatch z) (fun b o nb _ _ eb _=>aaE b o eb) (fun b o nb _ _ eb _=>⟨o.slots,aaE b o eb⟩) (fun b o _ eb hb=>?_) (fun b o _ eb=>⟨o,aaE b o eb⟩)
  (fun b xs hb=>same b _ hb) (fun b o u hb=>same b _ hb) (fun b ps hb=>⟨#[],by rw[same b _ hb];simp⟩) (fun m hm=>?_) (fun b o hb=>?_) I.bare,rfl,q _ as _ hl0 same aA hlk fun j a k x e1 e2=>?_⟩
 ·have h1:b≠h'.objs.size:=Nat.ne_of_lt (Heap.lt_size (hk b o eb));have h2:b∉as:=fun z=>absurd (Nat.lt_trans (hG.above b z) (Heap.lt_size eb)) (Nat.lt_irrefl _);rw[aG h1,pE h2];exact hb
 ·obtain⟨o1,ZJ,ep1,a1,r1⟩:=hm;exact⟨o1,ZJ,ep1,aaE _ _ a1,r1⟩
 ·by_cases h1:b=h'.objs.size
  ·subst h1;rw[aA] at hb;cases hb;exact⟨by rw[List.length_map];omega,as.map Value.ref,Ct as,IsTup.new _ _⟩
  ·rw[aG h1] at hb;by_cases h2:b∈as
   ·obtain⟨j,k,x,e1,e2,rfl⟩:=JH nd hlk h2 hb;obtain⟨key,k',x',e3,e4,e5⟩:=hG.pairs j b e1;obtain⟨v,e6,e7⟩:=KV.atR rel e2;rw[e3] at e6;cases e6;exact⟨by show 2<=sizeLine;rw[sizeLine_eq];decide,[key,x'],.cons (sP e4) (.cons e7 .nil),⟨_,Heap.get?_push_of_some _ e5,rfl,_,rfl⟩⟩
   ·rw[pE h2] at hb;exact(I.Zl b o hb).tM (fun c v _ ev=>aaE c v ev) (fun c hc=>same _ _ hc) fun c xs hc=>same _ _ hc
 ·have:a≠h'.objs.size:=fun z=>nl (by rw[<- z];exact List.mem_of_getElem? e1);rw[aG this,x9 nd e1 e2]
section
variable {H:Hp} {Q:VK} {p:Addr} {td:TE} {σ:St}
theorem NH:JT td σ H Q=td σ H fun x H1=>aQ x fun a=>cH (H1 a) fun _=>∀ r,H1 r=none->Q (.ref r) (Zh H1 r (MR r a)):=rfl
theorem Og:J0 [.ref p] H Q = ∃(d:Addr) (kvs:List (Key×V)),H p=some (MR p d)/\H d=some (.dK kvs)/\∀(l:Addr) (as:List Addr) (H':Hp),H l=none->Same H H'->H' l=some (.tup (as.map V.ref))->as.length=kvs.length->(∀(j:Nat) (a:Addr) (k:Key) (x:V),as[j]?=some a->kvs[j]?=some (k,x)->H' a=some (.tup [kV k,x]))->Q (.ref l) H':=rfl
end
noncomputable def JE(a b:Str):Prop:=a.cps.toList<=b.cps.toList
theorem B7{a b c:Str}(h:JE a b)(g:JE b c):JE a c:=List.le_trans h g
theorem LD{a b:Str}(h:JE a b)(g:JE b a):a=b:=by
 have e:=List.le_antisymm h g;obtain⟨⟨x⟩⟩:=a;obtain⟨⟨y⟩⟩:=b;simp only at e;rw[e]
theorem IG(a b:Str):JE a b\/JE b a:=List.le_total a.cps.toList b.cps.toList
theorem AI:∀ {l:List Str} {p:Str},risingS p l=true->(p::l).Pairwise JE
 | [],p,_=>by simp
 | x::r,p,h=>by
  rw[risingS,Bool.and_eq_true,Bool.not_eq_true',ltCps_eq,decide_eq_false_iff_not,List.not_lt] at h;have ih:=AI h.2;rw[List.pairwise_cons];refine⟨fun y hy=>?_,ih⟩;rcases List.mem_cons.mp hy with rfl|hy
  ·exact h.1
  ·exact B7 h.1 ((List.pairwise_cons.mp ih).1 y hy)
theorem Gr{l:List Str}(h:sortedS l=true):l.Pairwise JE:=by
 cases l with
 | nil=>exact .nil
 | cons x r=>exact AI h
theorem HF:∀ {a b:List Str},a.Perm b->a.Pairwise JE->b.Pairwise JE->a=b
 | [],b,p,_,_=>by rw[List.nil_perm.mp p]
 | x::a,[],p,_,_=>by have:=p.length_eq;simp at this
 | x::a,y::b,p,ha,hb=>by
  rw[List.pairwise_cons] at ha hb;have e:x=y:=by
   have h1:x∈y::b:=p.mem_iff.mp (by simp);have h2:y∈x::a:=p.mem_iff.mpr (by simp);rcases List.mem_cons.mp h1 with h1|h1
   ·exact h1
   rcases List.mem_cons.mp h2 with h2|h2
   ·exact h2.symm
   exact LD (ha.1 y h2) (hb.1 x h1)
  subst e;rw[HF p.cons_inv ha.2 hb.2]
noncomputable def WQ(a b:Str):Bool:=!(ltCps b.cps.toList a.cps.toList)
theorem pO{a b:Str}:WQ a b=true↔JE a b:=by
 rw[WQ,Bool.not_eq_true',ltCps_eq,decide_eq_false_iff_not,List.not_lt];exact Iff.rfl
noncomputable def srt(l:List Str):List Str:=l.mergeSort WQ
theorem Mu{l ns:List Str}(p:ns.Perm l)(h:sortedS ns=true):ns=srt l:=by
 refine HF (p.trans (List.mergeSort_perm l WQ).symm) (Gr h) ?_;have:=List.pairwise_mergeSort (le:=WQ) (fun a b c h g=>pO.mpr (B7 (pO.mp h) (pO.mp g))) (fun a b=>by
  rcases IG a b with h|h
  ·rw[pO.mpr h];simp
  ·rw[pO.mpr h];simp) l
 exact this.imp fun h=>pO.mp h
theorem Ht:∀(f n r:Nat),r<=1->minRun' f n r<=n+r
 | 0,n,r,_=>Nat.le_of_eq rfl
 | f+1,n,r,hr=>by
  rw[minRun'_succ];split
  ·omega
  ·have:=Ht f (n / 2) (max r (n % 2)) (by omega);omega
section
variable {prog:Program} {w:World} {A:Around} {E:q0A} {s:Shared} {b0:Array Keyed}
theorem Ui{st:SortSt}{C:Option Nat->SortSt->Prop}(ik:IntKeys b0)(sb:SBase b0 st)(one:1<=b0.size)(up:∀ n,1<=n->n < b0.size->K (arrOf st) (n - 1)<=K (arrOf st) n)
    (q:SortedTo (arrOf st) b0.size->C (some b0.size) st):wpS (model prog w) A E s (countRun' 0 b0.size) C st:=by
  rw[countRun0_eq];refine wpS_bind (wpS_ascLoop ik (Nat.le_refl _) (Nat.le_refl 1) one sb (fun i j a b=>?_) fun n n1 n2 so oz=>?_)
  · obtain rfl:i=j:=by omega
    exact Int.le_refl _
  · have en:n=b0.size:=by
      rcases oz with z|z
      · exact z
      · rcases Nat.lt_or_ge n b0.size with y|y
        · have:=up n n1 y;omega
        · omega
    dsimp only;rw[en] at so ⊢;rw[if_pos (by simp)];exact wpS_pure (q so)
theorem O3{st:SortSt}{C:Unit->SortSt->Prop}(ik:IntKeys b0)(sb:SBase b0 st)(two:2<=b0.size)(up:∀ n,1<=n->n < b0.size->K (arrOf st) (n - 1)<=K (arrOf st) n)
    (q:∀ ZR,(arrOf ZR).Perm b0->failedOf ZR=none->SortedTo (arrOf ZR) b0.size->C () ZR):wpS (model prog w) A E s sortRuns' C st:=by
  rw[sortRuns'_eq];refine wpS_bind (wpS_get ?_);dsimp only;have mr:=Ht b0.size b0.size 0 (by omega);simp only[sb.size];obtain⟨P1,hP1⟩:∃ P1:SortSt->Prop,∀ z,P1 z=(arrOf z=arrOf st/\failedOf z=none/\pendingOf z = #[(0,b0.size,0)]/\SortedTo (arrOf z) b0.size):=⟨_,fun _=>rfl⟩;refine wpS_bind (wpS_mono (wpS_forRange (I:=fun x c z=>(x=0/\c=(none,0)/\z=st)\/(1<=x/\c=(none,b0.size)/\P1 z)) (Q:=fun c z=>c=(none,b0.size)/\P1 z) ?stp ?end0 (.inl ⟨rfl,rfl,rfl⟩)) ?aft)
  case end0 =>
    rintro c z (⟨a,_,_⟩|⟨_,a,b⟩)
    · omega
    · exact⟨a,b⟩
  case stp =>
    rintro x c z _ _ (⟨rfl,rfl,rfl⟩|⟨_,rfl,b⟩)
    · dsimp only;rw[if_neg (by omega)];simp only[Nat.sub_zero,Nat.zero_add];refine wpS_bind (Ui ik sb (by omega) up fun so=>?_);dsimp only;rw[if_neg (by omega)];refine wpS_bind (wpS_get ?_);rw[show(pendingOf z).back?=none by rw[sb.pend];rfl];dsimp only;refine wpS_bind (wpS_modify (wpS_pure (.inr ⟨Nat.le_refl _,rfl,?_⟩)));rw[hP1];exact⟨rfl,sb.failed,by show(pendingOf z).push _=_;rw[sb.pend];rfl,so⟩
    · dsimp only;rw[if_pos (Nat.le_refl _)];exact wpS_pure ⟨rfl,b⟩
  case aft =>
    rintro c z ⟨rfl,b⟩;rw[hP1] at b;dsimp only;refine wpS_bind (wpS_mono (wpS_forRange (I:=fun _ c y=>y=z/\c=(none,())) (Q:=fun c y=>y=z/\c=(none,())) ?_ (fun _ _ e=>e) ⟨rfl,rfl⟩) ?_)
    · rintro x c y _ _ ⟨rfl,rfl⟩;refine wpS_bind (wpS_get ?_);rw[if_pos (by rw[b.2.2.1];exact Nat.le_refl 1)];exact wpS_pure ⟨rfl,rfl⟩
    · rintro c y ⟨rfl,rfl⟩;exact wpS_pure (q _ (b.1▸sb.perm) b.2.1 b.2.2.2)
theorem Ly{vs:List Value}{ns:List Int}(hI:IntsAre vs ns):∀ {i:Nat} {n:Int},ns[i]?=some n->∃ t,vs[i]?=some (.int n t):=by
 induction hI with
 | nil=>intro i n h;simp at h
 | cons m t _ ih =>
  intro i n h;cases i with
  | zero =>
   simp only[List.getElem?_cons_zero,Option.some.injEq] at h;subst h;exact⟨t,rfl⟩
  | succ i=>exact ih (by simpa using h)
theorem Py{vs:List Value}{ns:List Int}(hI:IntsAre vs ns){i:Nat}{n:Int}(h:ns[i]?=some n):K (pairsOf vs) i=n:=by
 obtain⟨t,e⟩:=Ly hI h;have z:(pairsOf vs)[i]?=some (.int n t,.int n t):=by
  rw[<- Array.getElem?_toList,pairsOf_toList,List.getElem?_zip_eq_some];exact⟨e,e⟩
 unfold K;rw[z];rfl
theorem C7{a:Addr}{vs:List Value}{ns:List Int}{n:Nat}{C:Fin->Shared->Prop}(ho:s.heap.get? a=some (seqObj "list" vs.toArray n))(hI:IntsAre vs ns)(hr:ns.Pairwise (·<=·))(hz:vs.length<=sizeLine)
    (q:∀(out:Array Value) (Zu:List Int),IntsAre out.toList Zu->Zu.Perm ns->Zu.Pairwise (·<=·)->C (.done (.ret .none)) {s with heap:=sortedHeap s.heap a vs out}) :
    wpAny (model prog w) A (Builtin.«list.sort» ⟨[.ref a],[]⟩) C E s:=by
  by_cases few:vs.length < 64
  · exact list_sort_tree ho hI few q
  have lI:vs.length=ns.length:=hI.length;have la:a < s.heap.objs.size:=Heap.lt_size ho;rw[list_sort_plain];refine wpAny_bind (listItems_at ho rfl (wpAny_bind (listUpdate_at ho rfl ?_)));obtain⟨e1,o1⟩:∃ e1,(s.heap.update a (Obj.mapSeq fun _=>#[])).get? a=some (seqObj "list" #[] e1):=⟨_,get?_update_seq ho (fun _=>#[])⟩;refine wpAny_bind (seqEpoch_at o1 rfl (wpAny_bind (wpAny_newTuple (wpAny_bind (wpAny_newList (wpAny_holding ?_))))));have o6:(((s.heap.update a (Obj.mapSeq fun _=>#[])).push (seqObj "tuple" vs.toArray 0)).push (seqObj "list" #[] 0)).get? a=some (seqObj "list" #[] e1):=Heap.get?_push_of_some _ (Heap.get?_push_of_some _ o1);show wpAny (model prog w) A _ C E {s with heap:=((s.heap.update a (Obj.mapSeq fun _=>#[])).push (seqObj "tuple" vs.toArray 0)).push (seqObj "list" #[] 0)};dsimp only;have ZY:¬ vs.toArray.size < 2:=by rw[List.size_toArray];omega
  rw[if_neg ZY,if_neg ZY];obtain⟨u,v,rest,rfl⟩:∃ u v rest,vs=u::v::rest:=by
    match vs,few with
    | [],z=>exact absurd (by simp) z
    | [_],z=>exact absurd (by simp) z
    | u::v::rest,_=>exact⟨u,v,rest,rfl⟩
  rw[keyKind_ints hI];refine wpAny_bind (wpAny_pure (wpAny_bind (wpAny_mono (O3 (b0:=pairsOf (u::v::rest)) (st:=SortSt.mk' oneType' ((u::v::rest).toArray.zip (u::v::rest).toArray) #[] 7 none)
    (C:=fun _ z=>(arrOf z).Perm (pairsOf (u::v::rest))/\failedOf z=none/\SortedTo (arrOf z) (pairsOf (u::v::rest)).size)
    hI.intKeys ⟨Array.Perm.refl _,rfl,rfl,rfl⟩ (by rw[pairsOf_size];simp) (fun i i1 i2=>?_) fun z x y c=>⟨x,y,c⟩) ?_ fun _ _ e=>e)))
  · rw[pairsOf_size] at i2;have l1:i - 1 < ns.length:=by omega
    have l2:i < ns.length:=by omega
    show K (pairsOf (u::v::rest)) (i - 1)<=K (pairsOf (u::v::rest)) i;rw[Py hI (List.getElem?_eq_getElem l1),Py hI (List.getElem?_eq_getElem l2)];exact List.pairwise_iff_getElem.mp hr (i - 1) i l1 l2 (by omega)
  rintro⟨⟨⟩,z⟩ s' ⟨rfl,hp,hf,hs⟩;dsimp only;refine wpAny_bind (seqEpoch_at o6 rfl (wpAny_bind (listUpdate_at o6 rfl ?_ (hsz2:=by refine Nat.le_trans (Nat.le_of_eq ((Array.size_map ..).trans (hp.size_eq.trans (pairsOf_size _)))) ?_;omega))));rw[hf];simp only[bne_self_eq_false,Bool.false_eq_true,if_false];obtain⟨Zu,h1,h2,h3⟩:=sorted_out hI hp hs;exact wpAny_pure (q _ Zu h1 h2 h3)
end
noncomputable def JX:List V->Hp->VK->Prop:=fun vs H Q=>on1 vs fun x=>aQ x fun p=>cH (H p) fun kvs=>dG (intKeys kvs) fun ns=>ns.Pairwise (· < ·)/\∀(l:Addr) (Zu:List Int),H l=none->Zu.Perm ns->Zu.Pairwise (·<=·)->Q (.ref l) (Zh H l (.lst (Zu.map V.int)))
theorem Fg{X:Cx}(hc:X.calm=true):eX X (.builtin "sorted") JX:=fun Zg s σ H xs us Q I r h=>by
 obtain⟨x,rfl,h1⟩:=iS h;obtain⟨p,rfl,h2⟩:=aS h1;obtain⟨kvs,e,h3⟩:=dA h2;obtain⟨ns,ek,acR,q⟩:=dR h3;obtain⟨u,rfl,ru⟩:=vals1 r;cases ru;obtain⟨hl,hk⟩:=zT ek;obtain⟨z,hd,vs0,rel,dd⟩:=sE I.Zl e;obtain⟨ep,dat⟩:=dd.dictAt;obtain⟨od,es,ho,_⟩:=id dat;obtain⟨m,hn,_⟩:=I.loc;have ZY:p≠X.env.locals:=aK e I.free;have l0:=rel.length;refine PySem.W.kdu_sorted (PySem.W.kdl_dict (knd:=bU X.prog X.w) (kvs:=vs0) (ep:=ep) hd) (I.ok.hd hc) (Att.Fy hn) (Att.oK ZY ho) dat (by omega) fun D h' tk vs F N lt hlen hP=>?_;have hI:IntsAre vs ns:=Ho (by omega) fun j v ev=>by
  obtain⟨k,x,e1,e2⟩:=hP j v ev;have hj:j < kvs.length:=by
   have:=(List.getElem?_eq_some_iff.mp e1).1;omega
  obtain⟨⟨k',x'⟩,ekv⟩:∃ y,kvs[j]?=some y:=⟨_,List.getElem?_eq_getElem hj⟩;obtain⟨v',e3⟩:=KV.at rel ekv;rw[e1] at e3;cases e3;obtain⟨i,rfl,ei⟩:=hk j _ _ ekv;obtain⟨t,et⟩:=(show ∃ t,v=Value.int i t from sP e2);exact⟨i,t,ei,et⟩
 have hD:h'.get? D=some (seqObj "list" vs.toArray 0):=(N _ (List.Mem.head _)).1;have old:∀ b o,b≠X.env.locals->s.heap.get? b=some o->h'.get? b=some o/\b < D:=fun b o nb eb=>by
  by_cases hb:b=p
  ·subst hb;rw[ho] at eb;cases eb;exact⟨(N _ (List.Mem.tail _ (List.Mem.head _))).1,lt _ (List.Mem.head _)⟩
  ·have mem:=Att.mF (h:=s.heap) (L:=X.env.locals) (d:=p) |>.mpr ⟨nb,hb,eb⟩;exact⟨(N _ (List.Mem.tail _ (List.Mem.tail _ mem))).1,lt _ (List.Mem.tail _ mem)⟩
 have g:MeetsIn X.prog X.w (Builtin.«list.sort» ⟨[.ref D],[]⟩) (fun _ R s=>s.heap.get? D=some (seqObj "list" vs.toArray 0)/\∀(out:Array Value) (Zu:List Int),IntsAre out.toList Zu->Zu.Perm ns->Zu.Pairwise (·<=·)->R (.ok (.ret .none)) {s with heap:=sortedHeap s.heap D vs out}) :=
  fun A R s ⟨g1,g2⟩=>C7 g1 hI (acR.imp fun h=>Int.le_of_lt h) (by omega) fun out Zu a b c=>g2 out Zu a b c
 refine call_meetsIn PySem.F.slot_list_sort ⟨_,hD,rfl⟩ PySem.F.entry_list_sort (PySem.F.args_list_sort_1 _) g ⟨hD,fun out Zu hI' hp hs=>?_⟩;have hDL:D≠X.env.locals:=(N _ (List.Mem.head _)).2.1;have hDn:H D=none:=by
  cases z:H D with
  | none=>rfl
  | some o =>
   obtain⟨ob,eb⟩:=(I.Zl D o z).there;exact absurd (old D ob hDL eb).2 (Nat.lt_irrefl _)
 have new:∀ b o,b≠X.env.locals->s.heap.get? b=some o->(sortedHeap h' D vs out).get? b=some o:=fun b o nb eb=>by
  obtain⟨h1,h2⟩:=old b o nb eb;rw[sortedHeap_old (Nat.ne_of_lt h2) (Heap.lt_size h1)];exact h1
 obtain⟨e',hD'⟩:=sortedHeap_at (out:=out) hD;have hns:∀ m',s.heap.Ns X.env.locals m'->(sortedHeap h' D vs out).Ns X.env.locals m':=fun m' hm=>by
  have em:m'=m:=by
   obtain⟨o1,ZJ,ep1,a1,b1,_,c1⟩:=hm;obtain⟨o2,es2,ep2,a2,b2,_,c2⟩:=hn;rw[a1] at a2;cases a2;rw[b1] at b2;cases b2;funext y;rw[<- c1,<- c2]
  subst em;obtain⟨o1,ZJ,ep1,a1,r1⟩:=F.ns;exact⟨o1,ZJ,ep1,by rw[sortedHeap_old hDL.symm (Heap.lt_size a1)];exact a1,r1⟩
 have nn:∀ {b:Addr} {o:HO},H b=some o->b≠D:=fun h z=>by subst z;rw[hDn] at h;cases h
 have nl:∀ {b:Addr} {o:HO},H b=some o->b≠X.env.locals:=fun h=>aK h I.free;refine⟨.ref D,Zh H D (.lst (Zu.map V.int)),show Zi X Zg σ _ {s with heap:=sortedHeap h' D vs out,gens:=s.gens,drawn:=s.drawn,toks:=tk} from I.step (g':=s.gens) (d':=s.drawn) (t':=tk) (ch:=[]) (fun _ z=>nomatch z) (fun b o nb _ _ eb _=>new b o nb eb) (fun b o nb _ _ eb _=>⟨o.slots,new b o nb eb⟩) (fun b o _ eb hb=>?_) (fun b o _ eb=>?_)
  (fun b xs hb=>by rw[aG (nn hb)];exact hb) (fun b o u hb=>by rw[aG (nn hb)];exact hb) (fun b ps hb=>⟨#[],by rw[aG (nn hb),hb];simp⟩) hns (fun b o hb=>?_) I.bare,rfl,q D Zu hDn hp hs⟩
 ·by_cases hbD:b=D
  ·subst hbD;by_cases hbL:b=X.env.locals
   ·exact absurd hbL hDL
   ·exact absurd (old b o hbL eb).2 (Nat.lt_irrefl _)
  ·rw[aG hbD];exact hb
 ·by_cases hbL:b=X.env.locals
  ·subst hbL;obtain⟨o1,ZJ,ep1,a1,r1⟩:=hns m hn;exact⟨o1,a1⟩
  ·exact⟨o,new b o hbL eb⟩
 ·by_cases hbD:b=D
  ·subst hbD;rw[aA] at hb;cases hb;exact⟨by rw[List.length_map,hp.length_eq];omega,out.toList,e',pT hI',hD'⟩
  ·rw[aG hbD] at hb;refine(I.Zl b o hb).tM (fun c v hc ev=>?_) (fun c hc=>by rw[aG (nn hc)];exact hc) fun c xs hc=>by rw[aG (nn hc)];exact hc
   rcases hc with hc|hc
   ·subst hc;exact new c v (nl hb) ev
   ·exact new c v (nl hc) ev
section
variable {H:Hp} {Q:VK} {p:Addr}
theorem Ob:JX [.ref p] H Q=cH (H p) fun kvs=>dG (intKeys kvs) fun ns=>ns.Pairwise (· < ·)/\∀(l:Addr) (Zu:List Int),H l=none->Zu.Perm ns->Zu.Pairwise (·<=·)->Q (.ref l) (Zh H l (.lst (Zu.map V.int))):=rfl
end
noncomputable def UZ(K:q0B):R2:=fun x y H Q=>eP y fun z=>(∃ u,x=.str u/\Q (.bl (decide (u=z))) H)\/∃ a xs,x=.ref a/\fO K H a xs/\Q (.bl false) H
noncomputable def U4(K:q0B):R2:=fun x y H Q=>aQ y fun p=>∃ zs:List Str,fO K H p (zs.map V.str)/\((∃ u,x=.str u/\Q (.bl (wU (.str u) (zs.map V.str))) H)\/∃ a xs,x=.ref a/\fO K H a xs/\Q (.bl false) H)
section
variable {X:Cx}
end
section
variable {fr:List Nat} {tc:TT} {te tl:TE} {σ:St} {H:Hp} {Q:VK} {K:q0B} {x:V} {z:Str} {p:Addr}
theorem RH:UZ K x (.str z) H Q=((∃ u,x=.str u/\Q (.bl (decide (u=z))) H)\/∃ a xs,x=.ref a/\fO K H a xs/\Q (.bl false) H):=rfl
theorem RW:U4 K x (.ref p) H Q = ∃ zs:List Str,fO K H p (zs.map V.str)/\((∃ u,x=.str u/\Q (.bl (wU (.str u) (zs.map V.str))) H)\/∃ a xs,x=.ref a/\fO K H a xs/\Q (.bl false) H):=rfl
theorem Kj:vT K (FE K tl) fr tc te σ H Q=tl σ H fun x H1=>aQ x fun a=>(∃ xs,fO K H1 a xs)/\lc2 K (Itt K a) fr tc te σ H1 Q:=by
 unfold vT FE
 congr 1
 funext x H1;exact propext ⟨fun⟨a,e,h1,h⟩=>by subst e;exact⟨h1,h⟩,fun h=>by obtain⟨a,rfl,h1,h⟩:=aS h;exact⟨a,rfl,h1,h⟩⟩
end
section
variable {X:Cx} {K:q0B} {o e:Expr} {es:List Expr} {to:TE} {t:TA} {name:Str} {apos Zo:Pos} {T id:String} {r:V->List V->Hp->VK->Prop}
end
noncomputable def QU:V->List V->Hp->VK->Prop:=fun x vs H Q=>eP x fun _=>on2 vs fun y i=>eP y fun _=>eO i fun _=>∀ k:Int,Q (.int k) H
noncomputable def QQ:V->List V->Hp->VK->Prop:=fun x vs H Q=>eP x fun z=>on1 vs fun y=>eP y fun p=>Q (.int (Txt.count z p)) H
section
variable {X:Cx}
end
section
variable {z y:Str} {i:Int} {H:Hp} {Q:VK}
theorem Ny:QU (.str z) [.str y,.int i] H Q = ∀ k:Int,Q (.int k) H:=rfl
theorem Nq:QQ (.str z) [.str y] H Q=Q (.int (Txt.count z y)) H:=rfl
end
namespace RV
theorem norev:typeLookup (.type "tuple") "__reversed__"=pure none:=by rw[typeLookup_type,builtinLookup_eq_fast];kernel_rfl
theorem nodict:isSubtype (.type "tuple") (.type "dict")=pure false:=by rw[isSubtype_type];kernel_rfl
theorem gi:typeLookup (.type "tuple") "__getitem__"=pure (some (.builtin "tuple.__getitem__")):=by rw[typeLookup_type,builtinLookup_eq_fast];kernel_rfl
theorem nolen:typeLookup (.type "reversed") "__len__"=pure none:=by rw[typeLookup_type,builtinLookup_eq_fast];kernel_rfl
theorem hint:typeLookup (.type "reversed") "__length_hint__"=pure (some (.builtin "reversed.__length_hint__")):=by rw[typeLookup_type,builtinLookup_eq_fast];kernel_rfl
theorem EU:Slot "reversed" "__next__" "reversed.__next__":=.of (owner:="reversed") (n:="__next__") (by rw[typeLookup_type,builtinLookup_eq_fast];kernel_rfl) (by decide +kernel) (by decide +kernel) (by decide +kernel) (by first|exact .inl (by decide +kernel)|exact .inr (by decide +kernel)) (by rw[isSubtype_type];kernel_rfl)
theorem Qb:Slot "reversed" "__iter__" "reversed.__iter__":=.of (owner:="reversed") (n:="__iter__") (by rw[typeLookup_type,builtinLookup_eq_fast];kernel_rfl) (by decide +kernel) (by decide +kernel) (by decide +kernel) (by first|exact .inl (by decide +kernel)|exact .inr (by decide +kernel)) (by rw[isSubtype_type];kernel_rfl)
theorem WA:entryFor table "reversed.__next__"=some Builtin.«reversed.__next__»:=entryFor_of_tree (by kernel_rfl)
theorem Qa:Slot "reversed" "__length_hint__" "reversed.__length_hint__":=.of (owner:="reversed") (n:="__length_hint__") (by rw[typeLookup_type,builtinLookup_eq_fast];kernel_rfl) (by decide +kernel) (by decide +kernel) (by decide +kernel) (by first|exact .inl (by decide +kernel)|exact .inr (by decide +kernel)) (by rw[isSubtype_type];kernel_rfl)
theorem YA:entryFor table "reversed.__length_hint__"=some Builtin.«reversed.__length_hint__»:=entryFor_of_tree (by kernel_rfl)
theorem own:Manifest.owners.lookup (String.ofList ['d','e','s','r','e','v','e','r'].reverse)=some Manifest.sig_reversed:=by kernel_rfl
theorem UQ(a:Value):argsOk "reversed.__next__" ⟨[a],[]⟩:=by
 unfold argsOk;rw[signature?_of (id:="reversed.__next__") (n:=['_','_','t','x','e','n','_','_']) (o:=['d','e','s','r','e','v','e','r']) (by kernel_rfl) own];kernel_rfl
theorem X6(a:Value):argsOk "reversed.__length_hint__" ⟨[a],[]⟩:=by
 unfold argsOk;rw[signature?_of (id:="reversed.__length_hint__") (n:=['_','_','t','n','i','h','_','h','t','g','n','e','l','_','_']) (o:=['d','e','s','r','e','v','e','r']) (by kernel_rfl) own];kernel_rfl
theorem X7(a:Value):argsOk "reversed.__iter__" ⟨[a],[]⟩:=by
 unfold argsOk;rw[signature?_of (id:="reversed.__iter__") (n:=['_','_','r','e','t','i','_','_']) (o:=['d','e','s','r','e','v','e','r']) (by kernel_rfl) own];kernel_rfl
theorem YB:entryFor table "reversed.__iter__"=some Builtin.«dict_keyiterator.__iter__» :=
 entryFor_alias (id':="dict_keyiterator.__iter__") (by kernel_rfl) (by first|rfl|decide +kernel|(unfold String.splitOn;simp +decide [String.splitOnAux])) (by decide +kernel) (by kernel_rfl)
theorem Xk:Slot "reversed" "__init__" "object.__init__":=.of (owner:="object") (n:="__init__") (by rw[typeLookup_type,builtinLookup_eq_fast];kernel_rfl) (by decide +kernel) (by decide +kernel) (by decide +kernel) (by first|exact .inl (by decide +kernel)|exact .inr (by decide +kernel)) (by rw[isSubtype_type];kernel_rfl)
theorem called:TypeCalled "reversed" "reversed.__new__" "object.__init__":=⟨by decide +kernel,by decide +kernel,⟨_,_,F.mro_reversed⟩,F.made_reversed,by decide +kernel,by rw[isSubtype_type];kernel_rfl,Xk⟩
noncomputable def obj(t:Addr)(i:Int):Obj:={cls:=.type "reversed",data:=.fields #[.ref t,rawInt i]}
noncomputable def Is(h:Heap)(a t:Addr)(i:Int):Prop:=∃ o,h.get? a=some o/\o.cls=.type "reversed"/\o.data=.fields #[.ref t,rawInt i]
section
variable {prog:Program} {w:World} {A:Around} {E:q0A} {s:Shared}
theorem Is.ty{a t:Addr}{i:Int}(x:Is s.heap a t i):s.TypeIs (.ref a) "reversed":=let ⟨o,ho,hc,_⟩:=x;⟨o,ho,hc⟩
theorem make{l:Addr}{items:Array Value}{Q₁:q0A}(hl:IsTup s.heap l items)(hf:(items.size:Int) < 2 ^ 63)
    (h:∀ tk,s.toks<=tk->Q₁ (.ref s.heap.objs.size) {s with heap:=s.heap.push (obj l ((items.size:Int) - 1)),toks:=tk}) :
    codeAny (model prog w) A (.call (.builtin "reversed.__new__") ⟨[.type "reversed",.ref l],[]⟩) (wants Q₁ E) s:=by
  refine codeAny_of_tree ?_;show wpAny _ A.in1 (do checkBuiltinCall "reversed.__new__" ⟨[.type "reversed",.ref l],[]⟩;again (.builtin "reversed.__new__" ⟨[.type "reversed",.ref l],[]⟩)) _ _ s;refine wpAny_bind (wpAny_of_eq (F.newCall_reversed_1 _) (wpAny_pure ⟨plainId_quiet F.plain_reversed_new _,codeAny_builtin F.entry_reversed_new ?_⟩));rw[Around.under_plainId F.plain_reversed_new _];unfold Builtin.«reversed.__new__»;refine wpAny_bind (wpAny_of_eq (newClass_reversed _) ?_)
  try dsimp only
  refine wpAny_bind (wpAny_of_eq (a:=()) (by first|rfl|kernel_rfl) ?_)
  refine wpAny_bind (wpAny_of_eq (a:=()) (by first|rfl|kernel_rfl) ?_)
  try dsimp only
  refine wpAny_bind (wpAny_specialOf hl.typeIs norev ?_)
  try dsimp only
  refine wpAny_bind ?_;show wpAny _ _ (isInstance (.ref l) (.type "dict") >>= fun b=>_) _ _ _;refine wpAny_bind (wpAny_isInstance (b:=false) hl.typeIs nodict ?_);show wpAny _ _ (specialOf (.ref l) "__getitem__" >>= fun b=>_) _ _ _;refine wpAny_bind (wpAny_specialOf hl.typeIs gi ?_);show wpAny _ _ (if (["tuple.__getitem__","str.__getitem__","bytes.__getitem__","bytearray.__getitem__","memoryview.__getitem__","numpy.ndarray.__getitem__","sqlite3.Row.__getitem__"].contains "tuple.__getitem__")=true then pure true else _) _ _ _;rw[if_pos (by decide +kernel)];refine wpAny_pure ?_;show wpAny _ _ (call (Value.builtin "len") [Value.ref l] >>= fun b=>_) _ _ _;refine wpAny_bind (len_tuple hl hf ?_);show wpAny _ _ (pure (some ((items.size:Nat):Int)) >>= fun b=>_) _ _ _;refine wpAny_bind (wpAny_pure ?_);show wpAny _ _ (newObj (.type "reversed") (.fields #[.ref l,rawInt ((items.size:Int) - 1)]) >>= fun b=>_) _ _ _;refine wpAny_bind (wpAny_newObj_type ?_ (by size_fits));exact wpAny_pure (h _ (by show s.toks<=s.toks+1+1;omega))
theorem call{l:Addr}{items:Array Value}{Q:q0A}(hl:IsTup s.heap l items)(hf:(items.size:Int) < 2 ^ 63)
    (h:∀ tk,s.toks<=tk->Q (.ref s.heap.objs.size) {s with heap:=s.heap.push (obj l ((items.size:Int) - 1)),toks:=tk}):wpAny (model prog w) A (PySem.call (.type "reversed") [.ref l]) Q E s:=by
  refine callType_codes (Q₁:=fun ob s₁=>s₁.TypeIs ob "reversed"/\Q ob s₁) called (F.typeCall_reversed_1 _) F.entry_object_init (make hl hf fun tk ht=>⟨⟨_,Heap.get?_push_size _ rfl,rfl⟩,h tk ht⟩) fun ob s₁ h₁=>?_;exact⟨h₁.1,F.args_object_init_2 ob _,object_init_meets called.init.lookup called.made (by decide) prog w A.in1 _ s₁ ⟨h₁.1,rfl,h₁.2⟩⟩
theorem item{it l:Addr}{i:Nat}{items:Array Value}{x:Value}{Q:Option Value->Shared->Prop}(hit:Is s.heap it l (i:Int))(hl:IsTup s.heap l items)(hx:items[i]?=some x)(hf:(items.size:Int) < 2 ^ 63)
    (hQ:∀ h' tk,s.toks<=tk->Is h' it l ((i:Int) - 1)->Heap.SameBut it s.heap h'->Q (some x) {s with heap:=h',toks:=tk}):wpAny (model prog w) A (pyNext (.ref it)) Q E s:=by
  obtain⟨o,ho,hc,hd⟩:=id hit;have ZK:i < items.size:=(Array.getElem?_eq_some_iff.mp hx).1;unfold pyNext;refine wpAny_bind (wpAny_attempt (wpAny_callSpecial?_slot (name:=Str.ofString "__next__") hit.ty EU (wpAny_call_entry EU hit.ty WA ?_ (UQ _))));unfold Builtin.«reversed.__next__»;refine wpAny_bind (wpAny_of_eq (a:=(Value.ref it,[])) rfl ?_)
  try dsimp only
  refine wpAny_bind (wpAny_field ho hd (x:=.ref l) rfl ?_);refine wpAny_bind (wpAny_field ho hd (x:=rawInt (i:Int)) rfl ?_);show wpAny _ _ (if (i:Int) < 0 then _ else _) _ _ s;rw[if_neg (by omega)];show wpAny _ _ (specialOf (.ref l) "__getitem__" >>= fun b=>_) _ _ _;refine wpAny_bind (wpAny_specialOf hl.typeIs gi ?_);rw[if_neg (by simp)];refine wpAny_bind (wpAny_mkInt ?_);refine wpAny_bind (wpAny_attempt (getItem_tuple (s:={s with toks:=s.toks+1}) hl (by exact Int.le_trans (by decide) (Int.natCast_nonneg i)) (by exact Int.lt_trans (Int.ofNat_lt.mpr ZK) hf) (j:=i) ?_ hx ?_))
  · unfold seqIndex?;have e:(if (i:Int) < 0 then (i:Int)+items.size else i)=i:=if_neg (by omega);simp only[e];rw[if_pos (by simp;omega)];rfl
  · show wpAny _ _ (field (.ref it) 1 >>= fun b=>_) _ _ _;refine wpAny_bind (wpAny_field ho hd (x:=rawInt (i:Int)) rfl ?_);show wpAny _ _ (setField (.ref it) 1 (rawInt ((i:Int) - 1)) >>= fun b=>_) _ _ _;refine wpAny_bind (wpAny_setField ho hd (by simp) ?_);refine wpAny_pure ⟨x,rfl,wpAny_pure (hQ _ _ (by show s.toks<=s.toks+1;omega) ?_ (Heap.SameBut.update ..))⟩;exact⟨_,Heap.get?_update_self _ ho (Obj.isFreed_of_fields (Obj.data_mapFields hd _)),(Obj.cls_mapFields ..).trans hc,by rw[Obj.data_mapFields hd];simp⟩
theorem over{it l:Addr}{Q:Option Value->Shared->Prop}(hh:A.handled=none)(hit:Is s.heap it l (-1))(hQ:∀ h',Heap.ExtBut it s.heap h'->Q none {s with heap:=h'}):wpAny (model prog w) A (pyNext (.ref it)) Q E s:=by
 obtain⟨o,ho,hc,hd⟩:=id hit;unfold pyNext;refine wpAny_bind (wpAny_attempt (wpAny_callSpecial?_slot (name:=Str.ofString "__next__") hit.ty EU (wpAny_call_entry EU hit.ty WA ?_ (UQ _))));unfold Builtin.«reversed.__next__»;refine wpAny_bind (wpAny_of_eq (a:=(Value.ref it,[])) rfl ?_)
 try dsimp only
 refine wpAny_bind (wpAny_field ho hd (x:=.ref l) rfl ?_);refine wpAny_bind (wpAny_field ho hd (x:=rawInt (-1)) rfl ?_);show wpAny _ _ (if (-1:Int) < 0 then _ else _) _ _ s;rw[if_pos (by decide)];refine wpAny_bind (wpAny_rule ?_);refine wpAny_bind ?_;show wpAny _ _ (setField (.ref it) 1 (rawInt (-1)) >>= fun b=>_) _ _ _;refine wpAny_bind (wpAny_setField ho hd (by simp) ?_);refine wpAny_setField (Heap.get?_update_self _ ho (Obj.isFreed_of_fields (Obj.data_mapFields hd _))) (Obj.data_mapFields hd _) (by simp) ?_;refine wpAny_bind ?_;show wpAny _ _ (newExc (.type "StopIteration") [] >>= fun b=>_) _ _ _;refine wpAny_bind ?_;simp only[newExc,newTuple];refine wpAny_bind (wpAny_newObj_type ?_ (by size_fits));refine wpAny_bind (m:=firstArgMember _ _) (wpAny_of_eq (a:=Value.none) (by first|rfl|(simp only[firstArgMember];rfl)) ?_)
 refine wpAny_newObj_type ?_ (by size_fits);simp only[raiseNew];refine wpAny_bind (wpAny_handled ?_)
 first|rw[show A.in1.handled=none from hh]|rw[hh]
 refine wpAny_bind (wpAny_pure (wpAny_throw ?_));refine wpAny_bind (wpAny_isInstance (T:="StopIteration") (b:=true) ⟨_,Heap.get?_push_size _ rfl,rfl⟩ isSubtype_stop ?_);refine wpAny_pure (hQ _ ?_);exact((((Heap.SameBut.update ..).extBut).trans (Heap.SameBut.update ..).extBut).push _).push _
theorem self{it l:Addr}{i:Int}{Q:q0A}(hit:Is s.heap it l i)(h:Q (.ref it) s):wpAny (model prog w) A (pyIter (.ref it)) Q E s:=by
 refine wpAny_pyIter_slot hit.ty Qb (wpAny_call_entry Qb hit.ty YB ?_ (X7 _));show wpAny _ _ (ret (.ref it)) _ _ s;exact wpAny_pure ⟨_,rfl,"reversed",_,hit.ty,EU.lookup,h⟩
theorem room{I l:Addr}{items:Array Value}{Q:Bool->Shared->Prop}(hit:Is s.heap I l ((items.size:Int) - 1))(hl:IsTup s.heap l items)(h0:0 < items.size)(hf:items.size<=1000)
    (hQ:∀ tk,s.toks<=tk->Q true {s with toks:=tk}):wpAny (model prog w) A (Builtin.List.listLengthHint (.ref I)) Q E s:=by
  obtain⟨o,ho,hc,hd⟩:=id hit;unfold Builtin.List.listLengthHint;refine wpAny_bind (wpAny_specialOf hit.ty nolen ?_);show wpAny _ _ (specialOf (Value.ref I) (Str.ofString "__length_hint__") >>= _) _ _ _;refine wpAny_bind (wpAny_specialOf hit.ty hint ?_);generalize hid:("reversed.__length_hint__":String)=id0
  (fail_if_success (clear hid id0))
  wp_delta
  rw[show splitId id0=some ("reversed","__length_hint__") from by subst hid;decide +kernel];subst hid;refine wpAny_bind (wpAny_isInstance (b:=true) hit.ty (by rw[isSubtype_type];kernel_rfl) ?_);rw[if_neg (by decide)];show wpAny (model prog w) A (ite _ _ _) Q E s;rw[if_neg (by decide +kernel)];refine wpAny_bind (wpAny_rule ?_);refine wpAny_bind (wpAny_of_eq (Qa.bind _) ?_)
  try dsimp only
  refine wpAny_bind (wpAny_attempt (wpAny_call_entry Qa hit.ty YA ?_ (X6 _)));unfold Builtin.«reversed.__length_hint__»;refine wpAny_bind (wpAny_of_eq (a:=Value.ref I) rfl ?_);refine wpAny_bind (wpAny_field ho hd (x:=.ref l) rfl ?_);rw[if_neg (show ¬ ((Value.ref l==Value.none)=true) from by simp)];refine wpAny_bind (len_tuple hl (by omega) ?_);show wpAny _ _ (pure (some ((items.size:Nat):Int)) >>= fun b=>_) _ _ _;refine wpAny_bind (wpAny_pure ?_);show wpAny _ _ (field (.ref I) 1 >>= fun b=>_) _ _ _;refine wpAny_bind (wpAny_field ho hd (x:=rawInt ((items.size:Int) - 1)) rfl ?_);show wpAny _ _ (if ((items.size:Nat):Int) < ((items.size:Int) - 1)+1 then _ else retInt (((items.size:Int) - 1)+1)) _ _ _;rw[if_neg (by omega)];refine wpAny_bind (wpAny_mkInt (wpAny_pure ⟨_,rfl,?_⟩));show wpAny _ _ (pure (some ((items.size:Int) - 1+1)) >>= fun b=>_) _ _ _;refine wpAny_bind (wpAny_pure ?_);have z1:sizeLine > 1000:=by decide
  have n1:Builtin.List.listFitsIndex ((items.size:Int) - 1+1)=true:=by
    unfold Builtin.List.listFitsIndex;simp only[Bool.and_eq_true,decide_eq_true_eq];omega
  have n2:¬ Builtin.List.listTooLong ((items.size:Int) - 1+1).toNat=true:=by
    unfold Builtin.List.listTooLong;simp only[decide_eq_true_eq];omega
  show wpAny _ _ (ite ((!Builtin.List.listFitsIndex ((items.size:Int) - 1+1))=true) _ (ite ((items.size:Int) - 1+1 < 0) _ (ite (Builtin.List.listTooLong ((items.size:Int) - 1+1).toNat=true) _ (pure ((items.size:Int) - 1+1 !=0))))) _ _ _;rw[if_neg (by rw[n1];simp),if_neg (by omega),if_neg n2,show((items.size:Int) - 1+1 !=0)=true from bne_iff_ne.mpr (by omega)];exact wpAny_pure (hQ _ (by show s.toks<=s.toks+1+1+1;omega))
theorem walks(hh:A.handled=none)(I l:Addr)(ZY:l≠I)(items:Array Value)(hf:(items.size:Int) < 2 ^ 63) :
    Walks prog w A I [I,l] [I] items.size (fun i v=>items[items.size - 1 - i]?=some v) (fun i h=>i<=items.size/\Is h I l ((items.size:Int) - 1 - (i:Int))/\IsTup h l items) where
  sub:=fun b hb=>by simp at hb;simp[hb]
  frame:=fun _ _ _ x hk=>⟨x.1,let ⟨o,ho,r⟩:=x.2.1;⟨o,hk I (by simp) o ho,r⟩,let ⟨o,ho,r⟩:=x.2.2;⟨o,hk l (by simp) o ho,r⟩⟩
  item:=fun i s Q E hi x hQ=>by
    have hit:=x.2.1;rw[show(items.size:Int) - 1 - (i:Int)=((items.size - 1 - i:Nat):Int) by omega] at hit;have hx:items[items.size - 1 - i]?=some (items[items.size - 1 - i]'(by omega)):=Array.getElem?_eq_getElem (by omega);refine RV.item hit x.2.2 hx hf fun h' tk _ ab4 hs'=>?_;rw[show((items.size - 1 - i:Nat):Int) - 1=(items.size:Int) - 1 - ((i+1:Nat):Int) by omega] at ab4;exact hQ _ h' tk hx ⟨hi,ab4,let ⟨o,ho,r⟩:=x.2.2;⟨o,(hs'.2 l ZY).trans ho,r⟩⟩ fun b o hb eo=>hs'.extBut b o (fun h=>hb (by simp[h])) eo
  done:=fun s Q E x hQ=>by
    have hit:=x.2.1;rw[show(items.size:Int) - 1 - (items.size:Int) = -1 by omega] at hit;exact RV.over hh hit fun h' he'=>hQ h' s.toks fun b o hb eo=>he' b o (fun h=>hb (by simp[h])) eo
  self:=fun _ _ _ _ x hQ=>RV.self x.2.1 hQ
end
section
variable {prog:Program} {w:World} {A:Around} {E:q0A} {s:Shared} {I:Addr} {fp wr:List Addr} {G:Array GenState->Array GenState->Prop} {n:Nat} {P:Nat->Value->Prop} {St:Nat->Shared->Prop}
theorem gather{Q:List Value->Shared->Prop}(hR:∀(s:Shared) (Q:Bool->Shared->Prop) (E:q0A),St 0 s->(∀ tk,s.toks<=tk->Q true {s with toks:=tk})->wpAny (model prog w) A.in1 (Builtin.List.listLengthHint (.ref I)) Q E s)(W:WalksS prog w A.in1 I fp wr G n P St)(hT:∀ i s,St i s->s.TypeIs (.ref I) "reversed")(ZM:St 0 s)(hfp:∀ b∈fp,b < s.heap.objs.size)(hI:I∈fp)
    (hQ:∀ s' acc,Moved wr G s s'->ItemsOf P acc n->Q acc.toList s') (hn:n<=sizeLine):wpAny (model prog w) A (collect (.ref I)) Q E s:=by
  have hSf:s.heap.objs.size∉fp:=fun hm=>Nat.lt_irrefl _ (hfp _ hm);have hSI:s.heap.objs.size≠I:=fun e=>hSf (e▸hI);unfold collect;refine wpAny_bind (wpAny_runValue (codeAny_builtin F.entry_proto_collect ?_));rw[Around.under_plainId F.plain_proto_collect _];show wpAny _ A.in1 (newList [] >>= fun l=>again (.builtin "list.__iadd__" ⟨[l,.ref I],[]⟩)) _ _ s;refine wpAny_bind (wpAny_newObj_type ?_);refine wpAny_pure ⟨plainId_quiet F.plain_list_iadd _,codeAny_builtin F.entry_list_iadd ?_⟩;rw[Around.under_plainId F.plain_list_iadd _];have aa4:=W.frame 0 s (s.heap.push {cls:=.type "list",data:=.seq ([]:List Value).toArray}) s.toks ZM (Nat.le_refl _) fun b _ o e=>Heap.get?_push_of_some _ e;have hS₁:(s.heap.push {cls:=.type "list",data:=.seq ([]:List Value).toArray}).get? s.heap.objs.size=some {cls:=.type "list",data:=.seq ([]:List Value).toArray}:=Heap.get?_push_size _ rfl;have h1:Builtin.List.listSameRef (.ref s.heap.objs.size) (.ref I)=false:=by simp[Builtin.List.listSameRef,hSI]
  show wpAny _ A.in1 (Builtin.List.listExtendWith (.ref s.heap.objs.size) (.ref I) (.ref s.heap.objs.size)) _ _ _;unfold Builtin.List.listExtendWith;refine wpAny_bind (wpAny_typeOf (hT 0 _ aa4) ?_);rw[if_neg (by rw[h1];decide)];refine wpAny_bind (W.self 0 _ _ _ aa4 ?_);refine wpAny_bind (wpAny_holding ?_);refine hR _ _ _ aa4 fun tk ht=>?_;have acZ:=W.frame 0 _ _ tk aa4 ht fun b _ o e=>e;show wpAny _ A.in1 (rule "list.extend.makes-room" >>= fun _=>Builtin.List.listTouch (.ref s.heap.objs.size) >>= fun _=>again (.builtin "list.extend.loop" ⟨[.ref s.heap.objs.size,.ref I,.ref s.heap.objs.size],[]⟩)) _ _ _;refine wpAny_bind (wpAny_rule ?_);refine wpAny_bind ?_;show wpAny _ A.in1 (updateSeq s.heap.objs.size (·.push .none) >>= fun _=>updateSeq s.heap.objs.size (·.pop)) _ _ _;refine wpAny_bind (wpAny_updateSeq hS₁ rfl ?_);have hS₂:=Heap.get?_update_self (Obj.mapSeq (·.push Value.none)) hS₁ rfl;refine wpAny_updateSeq hS₂ rfl ?_;have hS₃:=Heap.get?_update_self (Obj.mapSeq (·.pop)) hS₂ rfl;have oth:∀ b o,b≠s.heap.objs.size->(s.heap.push {cls:=.type "list",data:=.seq ([]:List Value).toArray}).get? b=some o->(((s.heap.push {cls:=.type "list",data:=.seq ([]:List Value).toArray}).update s.heap.objs.size (Obj.mapSeq (·.push Value.none))).update s.heap.objs.size (Obj.mapSeq (·.pop))).get? b=some o :=
    fun b o hb e=>(Heap.get?_update_other _ _ (Ne.symm hb)).trans ((Heap.get?_update_other _ _ (Ne.symm hb)).trans e)
  refine wpAny_pure ⟨plainId_quiet F.plain_extend_loop _,codeAny_extend_loopS W hn _ hSf _ n 0 _ _ _ rfl (Nat.zero_le _) (W.frame 0 ({s with heap:=s.heap.push {cls:=.type "list",data:=.seq ([]:List Value).toArray},toks:=tk}:Shared) _ tk acZ (Nat.le_refl _) fun b hb o e=>oth b o (fun h=>hSf (h▸hb)) e) hS₃ (ItemsOf.nil P) fun s' acM c' hm hS' aaA=>?_⟩;show wpAny _ A (load s.heap.objs.size >>= _) _ _ s';refine wpAny_bind (wpAny_load hS' ?_);refine wpAny_pure (hQ s' acM ?_ aaA);refine Moved.drop_new (o:={cls:=.type "list",data:=.seq ([]:List Value).toArray}) (tk:=s.toks) (Moved.trans W.gtrans ?_ hm) (Nat.le_refl _);exact⟨fun b o hb e=>oth b o (fun h=>hb (by simp[h])) e,W.grefl _,rfl,rfl,ht⟩
theorem tnew{Q₁:q0A}(hR:∀(s:Shared) (Q:Bool->Shared->Prop) (E:q0A),St 0 s->(∀ tk,s.toks<=tk->Q true {s with toks:=tk})->wpAny (model prog w) A.in1.in1 (Builtin.List.listLengthHint (.ref I)) Q E s)(W:WalksS prog w A.in1.in1 I fp wr G n P St)(hT:∀ i s,St i s->s.TypeIs (.ref I) "reversed")(ZM:St 0 s)(hfp:∀ b∈fp,b < s.heap.objs.size)(hI:I∈fp)
    (h:∀ s' acc,Moved wr G s s'->ItemsOf P acc n->Q₁ (.ref s'.heap.objs.size) {s' with heap:=s'.heap.push {cls:=.type "tuple",data:=.seq acc}}) (hsz:n<=sizeLine) :
    codeAny (model prog w) A (.call (.builtin "tuple.__new__") ⟨[.type "tuple",.ref I],[]⟩) (wants Q₁ E) s:=by
  refine codeAny_of_tree ?_;show wpAny _ A.in1 (do checkBuiltinCall "tuple.__new__" ⟨[.type "tuple",.ref I],[]⟩;again (.builtin "tuple.__new__" ⟨[.type "tuple",.ref I],[]⟩)) _ _ s;refine wpAny_bind (wpAny_of_eq (F.newCall_tuple_1 _) (wpAny_pure ⟨plainId_quiet F.plain_tuple_new _,codeAny_builtin F.entry_tuple_new ?_⟩));rw[Around.under_plainId F.plain_tuple_new _];have aa0:=sub_tuple_self;have ab3:=init_tuple_lookup;have hmh:=madeHere_tuple;have hTI:=hT 0 s ZM;wp_walk using wpAny_typeOf hTI,gather hR W hT ZM hfp hI (hn:=hsz);intro s' acc hm aaA;show wpAny _ _ (Builtin.Tuple.tupleExact acc.toList.toArray >>= fun v=>ret v) _ _ _;unfold Builtin.Tuple.tupleExact;refine wpAny_bind (wpAny_newObj_type ?_ (by show acc.toList.toArray.size<=sizeLine;simp only[Array.toArray_toList];rw[aaA.1];exact hsz));refine wpAny_pure ?_;have e:acc.toList.toArray=acc:=by simp
  rw[e];exact h s' acc hm aaA
theorem tcall{Q:q0A}(hR:∀(s:Shared) (Q:Bool->Shared->Prop) (E:q0A),St 0 s->(∀ tk,s.toks<=tk->Q true {s with toks:=tk})->wpAny (model prog w) A.in1.in1.in1 (Builtin.List.listLengthHint (.ref I)) Q E s)(W:WalksS prog w A.in1.in1.in1 I fp wr G n P St)(hT:∀ i s,St i s->s.TypeIs (.ref I) "reversed")(ZM:St 0 s)(hfp:∀ b∈fp,b < s.heap.objs.size)(hI:I∈fp)
    (hQ:∀ s' acc,Moved wr G s s'->ItemsOf P acc n->Q (.ref s'.heap.objs.size) {s' with heap:=s'.heap.push {cls:=.type "tuple",data:=.seq acc}}) (hsz:n<=sizeLine) :
    wpAny (model prog w) A (PySem.call (.type "tuple") [.ref I]) Q E s:=by
  refine callType_codes (Q₁:=fun obj s₁=>s₁.TypeIs obj "tuple"/\Q obj s₁) F.called_tuple (F.typeCall_tuple_1 _) F.entry_object_init (tnew hR W hT ZM hfp hI (fun s' acc hm aaA=>⟨⟨_,Heap.get?_push_size _ rfl,rfl⟩,hQ s' acc hm aaA⟩) hsz) fun obj s₁ h₁=>?_;exact⟨h₁.1,F.args_object_init_2 obj _,object_init_meets F.called_tuple.init.lookup F.called_tuple.made (by decide) prog w A.in1 _ s₁ ⟨h₁.1,rfl,h₁.2⟩⟩
end
end RV
noncomputable def HR(K:q0B)(ta:TA):TE:=fun σ H Q=>ta σ H fun vs H1=>∃ a xs,vs=[.ref a]/\fO K H1 a xs/\1<=xs.length/\xs.length<=1000/\∀ q,H1 q=none->Q (.ref q) (Zh H1 q (.tup xs.reverse))
theorem Jd{X:Cx}{e:Expr}{ta:TA}{p pos p2 acH:Pos}(hc:X.calm=true)(hgT:Gl X "tuple")(hmT:X.mg "tuple"=none)(hg:Gl X "reversed")(hm:X.mg "reversed"=none)(ha:PA X [e] ta)(hs:starEach [e] X.env=[(false,eval e X.env)]:=by rfl)
    (hs2:starEach [.Call (.Name "reversed" p) [e] [] pos] X.env=[(false,eval (.Call (.Name "reversed" p) [e] [] pos) X.env)]:=by rfl):PE X (.Call (.Name "tuple" p2) [.Call (.Name "reversed" p) [e] [] pos] [] acH) (HR X.K ta):=by
  intro Zg s σ H Q I h;refine wpAny_Call_Name_kw (qT I hgT hmT fD ?_ (by decide) (by decide));refine PyProof.Rows.callWith_type1 ?_ hs2 rfl;rw[hs2];show wpAny _ _ (spliced ((false,eval (.Call (.Name "reversed" p) [e] [] pos) X.env)::backTo acH [])) _ _ s;refine Calls.spliced_cons ?_;refine wpAny_Call_Name_kw (qT I hg hm DN ?_ (by decide) (by decide));refine PyProof.Rows.callWith_type1 (thn (ha pos Zg s σ H _ I h) fun us s1 ⟨vs,H1,I1,r1,q1⟩=>?_) hs rfl;obtain⟨a,xs,rfl,hq,h1,h2,q⟩:=q1;obtain⟨u,rfl,ru⟩:=r1.one;cases ru;obtain⟨Zk,rv,pt,hz⟩:=I1.tuple hq;have hl:=rv.length;have hsz:Zk.toArray.size=Zk.length:=by simp
  refine RV.call pt (by rw[hsz];omega) fun tk ht=>?_;refine Calls.spliced_nil ?_;have I2:Zi X Zg σ H1 {s1 with heap:=s1.heap.push (RV.obj a ((Zk.toArray.size:Int) - 1)),toks:=tk}:=I1.kept (t':=tk) fun b o e=>Heap.get?_push_of_some _ e;have hI:RV.Is (s1.heap.push (RV.obj a ((Zk.toArray.size:Int) - 1))) s1.heap.objs.size a ((Zk.toArray.size:Int) - 1):=⟨_,Heap.get?_push_size _ rfl,rfl,rfl⟩;have pt2:IsTup (s1.heap.push (RV.obj a ((Zk.toArray.size:Int) - 1))) a Zk.toArray:=let ⟨o,ho,r⟩:=pt;⟨o,Heap.get?_push_of_some _ ho,r⟩;have ZK:a < s1.heap.objs.size:=let ⟨o,ho,_⟩:=pt;Heap.lt_size ho;have ac0:(s1.heap.push (RV.obj a ((Zk.toArray.size:Int) - 1))).objs.size=s1.heap.objs.size+1:=by simp[Heap.push]
  refine RV.tcall (fun s Q E st hq=>RV.room (by simpa using st.2.1) st.2.2 (by rw[hsz];omega) (by rw[hsz];omega) hq) (RV.walks (A:=X.A.in1.in1.in1) (I.ok.hd hc) s1.heap.objs.size a (Nat.ne_of_lt ZK) Zk.toArray (by rw[hsz];omega)).toS (fun i s st=>st.2.1.ty) ⟨Nat.zero_le _,by simpa using hI,pt2⟩ (fun b hb=>?_) (by simp) (fun s' acc hm aaA=>?_) (by rw[hsz,sizeLine_eq];omega)
  · show b < (s1.heap.push (RV.obj a ((Zk.toArray.size:Int) - 1))).objs.size;rw[ac0];simp only[List.mem_cons,List.not_mem_nil,or_false] at hb;rcases hb with rfl|rfl
    · exact Nat.lt_succ_self _
    · exact Nat.lt_succ_of_lt ZK
  · have ea:acc=Zk.reverse.toArray:=by
      apply Array.ext_getElem?;intro j;by_cases hj:j < Zk.length
      · obtain⟨v,hv⟩:∃ v,acc[j]?=some v:=⟨_,Array.getElem?_eq_getElem (by rw[aaA.1,hsz];exact hj)⟩;have:=aaA.2 j v hv;rw[hv,<- this];simp only[List.size_toArray,List.getElem?_toArray];rw[List.getElem?_reverse hj]
      · rw[Array.getElem?_eq_none (by rw[aaA.1,hsz];omega),Array.getElem?_eq_none (by simp;omega)]
    subst ea;have I3:Zi X Zg σ H1 s':=by
      obtain⟨h',g',d',tk',os'⟩:=s';obtain⟨m1,m2,m3,m4,m5⟩:=hm;have e2:g'=s1.gens:=m2;have e3:d'=s1.drawn:=m3;have e4:os'=s1.os:=m4;subst e2 e3 e4;exact Zi.HU (s:={s1 with heap:=s1.heap.push (RV.obj a ((Zk.toArray.size:Int) - 1)),toks:=tk}) I2 (t':=tk') (ch:=[s1.heap.objs.size]) (fun b hb=>by rw[show b=s1.heap.objs.size by simpa using hb];exact I1.D4 (Nat.le_refl _) (I1.Zl.fresh (Nat.le_refl _))) m1
    have I4:=I3.laid (t':=s'.toks) (fun b o e=>Heap.get?_push_of_some _ e) (Nat.le_refl _) (show dJ X.prog X.w _ (s'.heap.push {cls:=.type "tuple",data:=.seq Zk.reverse.toArray}) s'.heap.objs.size (.tup xs.reverse) from ⟨by rw[List.length_reverse];exact hz,Zk.reverse,rv.reverse,IsTup.new _ _⟩);exact⟨.ref _,_,I4,rfl,q _ (I3.Zl.fresh (Nat.le_refl _))⟩
theorem La{K:q0B}{ta:TA}{σ:St}{H:Hp}{Q:VK}:HR K ta σ H Q=ta σ H fun vs H1=>∃ a xs,vs=[.ref a]/\fO K H1 a xs/\1<=xs.length/\xs.length<=1000/\∀ q,H1 q=none->Q (.ref q) (Zh H1 q (.tup xs.reverse)):=rfl
noncomputable def PY(c:Int)(ta:TA):TI:=fun σ H R=>ta σ H fun vs H1=>∃ lo hi:Int,vs=[.int lo,.int hi,.int c]/\(0<=lo/\lo<=1000)/\(0<=hi/\hi<=1000)/\R (Itg lo c (if lo < hi then ((hi - lo - 1) / c+1).toNat else 0)) H1
section
variable {X:Cx} {tg:Expr}
theorem Ji{c:Int}{x y z:Expr}{ta:TA}{p pos:Pos}(hc:0 < c/\c<=1000)(hg:Gl X "range")(hm:X.mg "range"=none)(ha:PA X [x,y,z] ta)(e1:starEach [x,y,z] X.env=[(false,eval x X.env),(false,eval y X.env),(false,eval z X.env)]:=by rfl)(e2:starEach [y,z] X.env=[(false,eval y X.env),(false,eval z X.env)]:=by rfl) :
    PI X tg (.Call (.Name "range" p) [x,y,z] [] pos) (PY c ta):=by
  intro Zg s σ H R I h;refine Call_ (qT I hg hm boot_range (PyProof.Rows.callWith_type1 (thn (ha pos Zg s σ H _ I h) fun us s1 ⟨vs,H1,I1,r1,q1⟩=>?_) (by rw[e1,e2]) (by rw[e2];rfl)));obtain⟨lo,hi,e,⟨l0,l1⟩,⟨u0,u1⟩,q⟩:=q1;obtain⟨n,hn0⟩:∃ n:Nat,(if lo < hi then ((hi - lo - 1) / c+1).toNat else 0)=n:=⟨_,rfl⟩;rw[hn0] at q;have hd:lo < hi->0<=(hi - lo - 1) / c/\(hi - lo - 1) / c<=1000:=fun ZK=>⟨Int.ediv_nonneg (by omega) (by omega),Int.le_trans (Int.ediv_le_self _ (by omega)) (by omega)⟩;have hn:Builtin.Range.rangeSize lo hi c=n:=by
    unfold Builtin.Range.rangeSize;rw[if_pos hc.1,<- hn0];split
    · next ZK=>have:=hd ZK;omega
    · rfl
  have hnl:n<=1001:=by
    rw[<- hn0];split
    · next ZK=>have:=hd ZK;omega
    · omega
  have hs:Builtin.Range.small lo hi c=true:=by
    unfold Builtin.Range.small;rw[if_pos hc.1,hn];unfold Builtin.Range.rangeFitsLong;simp only[Bool.and_eq_true,Bool.or_eq_true,decide_eq_true_eq,beq_iff_eq];omega
  have hp:Builtin.divisionGoesByPylong (hi - lo) c=false:=by
    have h1:¬ ((if c==0 then 0 else c.natAbs.log2 / 30+1) > 300):=by
      have:c.natAbs.log2 < 1000:=by
        have h0:c.natAbs≠0:=by omega
        exact(Nat.log2_lt h0).mpr (Nat.lt_of_le_of_lt (show c.natAbs<=1000 by omega) (Nat.lt_of_lt_of_le (show 1000 < 2 ^ 10 by decide) (Nat.pow_le_pow_right (by decide) (by decide))))
      split<;>omega
    unfold Builtin.divisionGoesByPylong;simp only[Bool.and_eq_false_iff,decide_eq_false_iff_not];exact .inl h1
  subst e;cases r1 with
  | cons r rr =>
    cases rr with
    | cons r' rr =>
      cases rr with
      | cons r'' rr =>
        cases rr;obtain⟨t,rfl⟩:=r;obtain⟨t',rfl⟩:=r';obtain⟨t'',rfl⟩:=r'';refine call_range_3 (Int.ne_of_gt hc.1) ?_ (.inl hp);refine wpAny_pyIter_range (IsRange.new ..) hs ?_;have I2:Zi X Zg σ H1 {s1 with heap:=s1.heap.push {cls:=.type "range",data:=.fields #[.int lo t,.int hi t',.int c t'']}}:=I1.kept (t':=s1.toks) fun b o e=>Heap.get?_push_of_some _ e;refine⟨(s1.heap.push {cls:=.type "range",data:=.fields #[.int lo t,.int hi t',.int c t'']}).objs.size,[(s1.heap.push {cls:=.type "range",data:=.fields #[.int lo t,.int hi t',.int c t'']}).objs.size],_,_,H1,rfl,
          I2.kept (t':=s1.toks) fun b o e=>Heap.get?_push_of_some _ e,E1 _ lo c n,?_,fun b hb=>?_,q⟩
        · show IsRangeIter _ _ (lo+((0:Nat):Int) * c) ((n:Int) - ((0:Nat):Int)) c;rw[show lo+((0:Nat):Int) * c=lo by simp,show(n:Int) - ((0:Nat):Int)=Builtin.Range.rangeSize lo hi c by rw[hn];simp];exact Heap.get?_push_size _ rfl
        · have e:b=(s1.heap.push {cls:=.type "range",data:=.fields #[.int lo t,.int hi t',.int c t'']}).objs.size:=by simpa using hb
          subst e;exact I2.D4 (Nat.le_refl _) (I2.Zl.fresh (Nat.le_refl _))
theorem ND{c:Int}{as:TA}{g:TG}{tb:TS}{D:Ends}{σ:St}{H:Hp}:rL (PY c as) g tb D σ H=as σ H fun vs H1=>∃ lo hi:Int,vs=[.int lo,.int hi,.int c]/\(0<=lo/\lo<=1000)/\(0<=hi/\hi<=1000)/\lp (Itg lo c (if lo < hi then ((hi - lo - 1) / c+1).toNat else 0)) g tb D σ H1:=rfl
end
end L2
namespace HT
open PySem PyProof.Rows
section
variable {prog:Program} {w:World} {A:Around} {E:q0A} {s:Shared}
theorem pV{t sl:Addr}{items:Array Value}{vl vu:Value}{lo hi:Option Int}{Q:q0A}(ht:IsTup s.heap t items)(hs:s.heap.IsSliceOf sl vl vu .none)(pl:IsPart vl lo)(pu:IsPart vu hi)
    (hw:fP items.size 0 lo=0/\fP items.size items.size hi=items.size) (h:Q (.ref t) s):wpAny (model prog w) A (getItem (.ref t) (.ref sl)) Q E s:=by
  obtain⟨os,hos,hcs,hds⟩:=id hs;have hTs:s.TypeIs (.ref sl) "slice":=⟨os,hos,hcs⟩;unfold getItem
  try with_reducible refine wpAny_holding ?_
  first|refine wpAny_bind (wpAny_pure ?_)|skip
  refine wpAny_bind (wpAny_sequenceKey ht.typeIs (by decide) ?_);refine wpAny_bind (wpAny_callSpecial?_slot (name:=Str.ofString "__getitem__") ht.typeIs PyProof.Rows.slot_tuple_getitem (wpAny_call_entry PyProof.Rows.slot_tuple_getitem ht.typeIs entry_tuple_getitem ?_ (args_tuple_getitem _ _)));show wpAny _ _ (Builtin.Tuple.tupleItemsOf (.ref t) >>= _) _ _ s;refine wpAny_bind (tupleItemsOf_ ht ?_);refine wpAny_bind (wpAny_typeOf hTs ?_);rw[if_pos (by decide)];refine wpAny_bind (lR hs pl pu ?_);show wpAny _ _ (if (((fP items.size 0 lo:Nat):Int)==0&&(1:Int)==1&&(fP items.size items.size hi - fP items.size 0 lo)==items.size)=true then _ else _) _ _ s;rw[if_pos (by rw[hw.1,hw.2];simp)];refine wpAny_bind ?_;show wpAny _ _ (typeOf (.ref t) >>= fun b=>_) _ _ _;refine wpAny_bind (wpAny_typeOf ht.typeIs ?_);refine wpAny_pure ?_;rw[if_pos (by decide)];refine wpAny_bind (wpAny_rule ?_);exact wpAny_pure ⟨_,rfl,wpAny_pure h⟩
end
end HT
namespace L2
open PySem PySem.Spec PyProof.Rows
noncomputable def Vi:V->Option Int->Option Int->Hp->VK->Prop:=fun x lo hi H Q=>aQ x fun a=>gX (H a) fun xs =>
 ((HT.fP xs.length 0 lo=0/\HT.fP xs.length xs.length hi=xs.length)->Q (.ref a) H)/\(¬ (HT.fP xs.length 0 lo=0/\HT.fP xs.length xs.length hi=xs.length)->∀ p,H p=none->Q (.ref p) (Zh H p (.tup (gK xs lo hi))))
theorem jL{X:Cx}:MN X Vi:=by
 intro Zg s σ H x v vl vu lo hi sl Q I rx hs pl pu h;obtain⟨a,rfl,h1⟩:=aS h;obtain⟨xs,ea,q1,q2⟩:=Av h1;by_cases hw:HT.fP xs.length 0 lo=0/\HT.fP xs.length xs.length hi=xs.length
 ·cases rx;obtain⟨Zk,r,ht,hz⟩:=I.tuple (fO.of ea);have hlen:Zk.toArray.size=xs.length:=by rw[List.size_toArray];exact r.length.symm
  exact⟨"tuple",_,PyProof.Rows.slot_tuple_getitem.lookup,ht.typeIs,HT.pV ht hs pl pu (by rw[hlen];exact hw) ⟨.ref a,H,I,rfl,q1 hw⟩⟩
 ·exact Mm Zg s σ H (.ref a) v vl vu lo hi sl Q I rx hs pl pu ⟨a,xs,rfl,fO.of ea,hw,q2 hw⟩
noncomputable def JZ:R2:=GU
theorem kD{X:Cx}:lH X (binaryOp .Add) JZ:=Hy
end L2
namespace Own
open PySem L2
local macro_rules | `(tactic| and_intros) => `(tactic| try dsimp only [L2.start, LG, P0, List.cons_append, List.nil_append, List.replicate_succ, List.replicate_zero, List.length_cons, List.length_nil, Nat.reduceAdd, Nat.reduceSub, Nat.zero_add])
local macro_rules | `(tactic| infer_instance) => `(tactic| exact ⟨rfl, rfl, rfl, by decide +kernel, rfl, by decide +kernel, by decide +kernel⟩)
seal PE PA PT PW PS PSs PI PG PGs PTs PO PPs
noncomputable def top(i:Nat):Stmt:=PySem.Challenge.pw_outlast_k34_whole_let_by_goes_on.main.body.getD i (.Pass ⟨0,0,0,0⟩)
noncomputable abbrev Gi:Stmt:=top 4
noncomputable abbrev vO:Stmt:=top 6
noncomputable abbrev AO:Stmt:=top 7
noncomputable abbrev rG:Stmt:=top 8
noncomputable abbrev lE:Stmt:=top 9
noncomputable abbrev lA:Stmt:=bN (top 11) 0
noncomputable abbrev lB:Stmt:=bN (top 11) 1
noncomputable abbrev iX:Stmt:=bN (top 11) 2
noncomputable abbrev gF:Stmt:=bN (top 11) 3
noncomputable abbrev iW:Stmt:=bN (top 11) 4
noncomputable abbrev lD:Stmt:=bN (top 11) 5
noncomputable abbrev hW:Stmt:=bN (top 11) 6
noncomputable abbrev gE:Stmt:=bN (top 11) 7
noncomputable abbrev rE:Stmt:=bN (top 13) 0
noncomputable abbrev mN:Stmt:=bN (top 13) 1
noncomputable abbrev kI:Stmt:=bN (top 13) 2
noncomputable abbrev mO:Stmt:=bN (top 13) 3
noncomputable abbrev oS:Stmt:=bN (top 13) 4
noncomputable abbrev oT:Stmt:=bN (top 13) 5
noncomputable abbrev oU:Stmt:=bN (top 13) 6
noncomputable abbrev Dp:Stmt:=top 16
noncomputable abbrev vL:Stmt:=top 17
noncomputable abbrev vM:Stmt:=top 18
noncomputable abbrev AM:Stmt:=top 19
noncomputable abbrev AK:Stmt:=top 20
noncomputable abbrev AN:Stmt:=top 21
noncomputable abbrev AL:Stmt:=top 22
noncomputable abbrev Dn:Stmt:=top 23
noncomputable abbrev vG:Stmt:=bN (top 25) 0
noncomputable abbrev hJ:Stmt:=bN (top 25) 2
noncomputable abbrev rC:Stmt:=bN (top 25) 3
noncomputable abbrev vI:Stmt:=bN (top 25) 4
noncomputable abbrev iU:Stmt:=bN (top 25) 5
noncomputable abbrev k9:Stmt:=bN (top 25) 6
noncomputable abbrev iV:Stmt:=bN (top 25) 7
noncomputable abbrev vJ:Stmt:=bN (top 25) 8
noncomputable abbrev vF:Stmt:=bN (top 25) 9
noncomputable abbrev rB:Stmt:=bN (top 25) 10
noncomputable abbrev vH:Stmt:=bN (top 25) 11
noncomputable abbrev AJ:Stmt:=bN (top 25) 12
noncomputable abbrev mM:Stmt:=bN (top 25) 13
noncomputable abbrev rD:Stmt:=bN (top 25) 14
noncomputable abbrev kH:Stmt:=bN (top 25) 15
noncomputable abbrev rH:Stmt:=top 27
noncomputable abbrev AR:Stmt:=top 29
noncomputable abbrev vK:Stmt:=top 30
noncomputable abbrev eW:Stmt:=top 31
noncomputable abbrev oV:Stmt:=top 33
noncomputable abbrev AQ:Stmt:=top 34
noncomputable abbrev vN:Stmt:=top 35
noncomputable abbrev oW:Stmt:=top 36
noncomputable abbrev kJ:Stmt:=top 37
noncomputable abbrev rF:Stmt:=top 38
noncomputable abbrev mQ:Stmt:=top 39
noncomputable abbrev iY:Stmt:=top 40
noncomputable abbrev mP:Stmt:=top 41
noncomputable abbrev mR:Stmt:=top 42
noncomputable abbrev Md:Stmt:=top 43
set_option genInjectivity false in
set_option genSizeOf false in
structure Ad where
 JI:Addr
 Ke:FuncData
 nR:Addr
 oB:FuncData
 CB:Addr
 CQ:FuncData
 tU:Addr
 uD:FuncData
 lY:Addr
 mC:FuncData
 jB:Addr
 l8:FuncData
 lW:Addr
 l9:FuncData
 jW:Addr
 j6:FuncData
 gO:Addr
 gQ:FuncData
 jV:Addr
 j5:FuncData
 lX:Addr
 mB:FuncData
 iL:Addr
 iO:FuncData
 gN:Addr
 gP:FuncData
 pD:Addr
 uC:FuncData
 nJ:Addr
 nX:FuncData
 k5:Addr
 k8:FuncData
 nK:Addr
 nY:FuncData
 qH:Addr
 qN:FuncData
 qI:Addr
 qO:FuncData
 qJ:Addr
 qP:FuncData
 CA:Addr
 Fk:FuncData
 nM:Addr
 yW:FuncData
 rW:Addr
 yX:FuncData
 xD:Addr
 CO:FuncData
 xB:Addr
 CM:FuncData
 xE:Addr
 CP:FuncData
 xC:Addr
 CN:FuncData
 Cz:Addr
 Fj:FuncData
 rV:Addr
 yR:FuncData
 iK:Addr
 iN:FuncData
 tS:Addr
 uA:FuncData
 xY:Addr
 yT:FuncData
 jT:Addr
 j0:FuncData
 lV:Addr
 l7:FuncData
 jU:Addr
 j4:FuncData
 xZ:Addr
 yU:FuncData
 xW:Addr
 yQ:FuncData
 tR:Addr
 t9:FuncData
 xX:Addr
 yS:FuncData
 Cy:Addr
 CL:FuncData
 nI:Addr
 nW:FuncData
 tT:Addr
 uB:FuncData
 k4:Addr
 k7:FuncData
 tV:Addr
 uF:FuncData
 CD:Addr
 CT:FuncData
 x8:Addr
 yV:FuncData
 fB:Addr
 fE:FuncData
 qK:Addr
 qQ:FuncData
 CC:Addr
 CS:FuncData
 yA:Addr
 y4:FuncData
 jY:Addr
 j8:FuncData
 fQ:Addr
 fS:FuncData
 jO:Addr
 jP:FuncData
 nO:Addr
 n9:FuncData
 jX:Addr
 j7:FuncData
 nN:Addr
 nZ:FuncData
 nP:Addr
 oA:FuncData
 QK:Addr
 Q8:FuncData
 zV:Tok
 wW:Tok
 Ee:Tok
 iQ:Addr
 aJ:Addr
 aW:Addr
 aV:Addr
structure Tx(w:World)(K:q0B)(mg:q0C)(t:Ad):Prop where
 D3:Fun K "kept" "kept" Gi t.JI t.Ke
 GR:Binds K t.Ke ["number"] []
 Hv:mg "kept"=some (.ref t.JI)
 sL:Fun K "worth_of" "worth_of" vO t.nR t.oB
 yL:Binds K t.oB ["saying","names","arg","now","answers"] []
 Ag:mg "worth_of"=some (.ref t.nR)
 Hj:Fun K "joined" "joined" AO t.CB t.CQ
 M3:Binds K t.CQ ["sign","one","other"] []
 OC:mg "joined"=some (.ref t.CB)
 pL:Fun K "number_of" "number_of" rG t.tU t.uD
 tX:Binds K t.uD ["worth"] []
 uR:mg "number_of"=some (.ref t.tU)
 jC:Fun K "one_or_nought" "one_or_nought" lE t.lY t.mC
 lZ:Binds K t.mC ["truth"] []
 mH:mg "one_or_nought"=some (.ref t.lY)
 CY:Fun K "__init__" "Tickets.__init__" lA t.jB t.l8
 CH:Binds K t.l8 ["self"] []
 MO:Meth K t.aJ "__init__" t.jB
 CZ:Fun K "make" "Tickets.make" lB t.lW t.l9
 CI:Binds K t.l9 ["self"] []
 BF:Meth K t.aJ "make" t.lW
 zJ:Fun K "is_open" "Tickets.is_open" iX t.jW t.j6
 jZ:Binds K t.j6 ["self","ticket"] []
 iR:Meth K t.aJ "is_open" t.jW
 sH:Fun K "those_open" "Tickets.those_open" gF t.gO t.gQ
 r9:Binds K t.gQ ["self"] []
 qV:Meth K t.aJ "those_open" t.gO
 zI:Fun K "finish" "Tickets.finish" iW t.jV t.j5
 yF:Binds K t.j5 ["self","ticket","worth"] []
 wZ:Meth K t.aJ "finish" t.jV
 C0:Fun K "shut" "Tickets.shut" lD t.lX t.mB
 r8:Binds K t.mB ["self","ticket"] []
 qE:Meth K t.aJ "shut" t.lX
 wR:Fun K "shut_all" "Tickets.shut_all" hW t.iL t.iO
 mX:Binds K t.iO ["self"] []
 lN:Meth K t.aJ "shut_all" t.iL
 sG:Fun K "first_done" "Tickets.first_done" gE t.gN t.gP
 rZ:Binds K t.gP ["self","worths"] []
 qU:Meth K t.aJ "first_done" t.gN
 Ir:Fun K "__init__" "Walk.__init__" rE t.pD t.uC
 HZ:Binds K t.uC ["self","program"] []
 Tu:Meth K t.aW "__init__" t.pD
 D0:Fun K "come_to" "Walk.come_to" mN t.nJ t.nX
 DI:Binds K t.nX ["self"] []
 C9:Meth K t.aW "come_to" t.nJ
 BB:Fun K "stands_at" "Walk.stands_at" kI t.k5 t.k8
 hZ:Binds K t.k8 ["self"] []
 gU:Meth K t.aW "stands_at" t.k5
 D1:Fun K "pass_by" "Walk.pass_by" mO t.nK t.nY
 kQ:Binds K t.nY ["self"] []
 jH:Meth K t.aW "pass_by" t.nK
 Fs:Fun K "enter" "Walk.enter" oS t.qH t.qN
 yG:Binds K t.qN ["self","which"] []
 wC:Meth K t.aW "enter" t.qH
 Ft:Fun K "leave" "Walk.leave" oT t.qI t.qO
 Fb:Binds K t.qO ["self"] []
 Em:Meth K t.aW "leave" t.qI
 Fu:Fun K "place" "Walk.place" oU t.qJ t.qP
 Fc:Binds K t.qP ["self"] []
 En:Meth K t.aW "place" t.qJ
 Ll:Fun K "do_set" "do_set" Dp t.CA t.Fk
 QN:Binds K t.Fk ["run","statement"] []
 YH:mg "do_set"=some (.ref t.CA)
 zL:Fun K "do_order" "do_order" vL t.nM t.yW
 DK:Binds K t.yW ["run","statement"] []
 WU:mg "do_order"=some (.ref t.nM)
 D2:Fun K "do_timer" "do_timer" vM t.rW t.yX
 JL:Binds K t.yX ["run","statement"] []
 WV:mg "do_timer"=some (.ref t.rW)
 Hg:Fun K "do_send" "do_send" AM t.xD t.CO
 MZ:Binds K t.CO ["run","statement"] []
 XX:mg "do_send"=some (.ref t.xD)
 He:Fun K "do_drop" "do_drop" AK t.xB t.CM
 MX:Binds K t.CM ["run","statement"] []
 XU:mg "do_drop"=some (.ref t.xB)
 Hh:Fun K "do_wait" "do_wait" AN t.xE t.CP
 M0:Binds K t.CP ["run","statement"] []
 XY:mg "do_wait"=some (.ref t.xE)
 Hf:Fun K "do_hear" "do_hear" AL t.xC t.CN
 MY:Binds K t.CN ["run","statement"] []
 XW:mg "do_hear"=some (.ref t.xC)
 Lk:Fun K "do_end" "do_end" Dn t.Cz t.Fj
 QM:Binds K t.Fj ["run","statement"] []
 YG:mg "do_end"=some (.ref t.Cz)
 Lg:Fun K "__init__" "Run.__init__" vG t.rV t.yR
 DF:Binds K t.yR ["self","program"] []
 UJ:Meth K t.aV "__init__" t.rV
 wQ:Fun K "open_tickets" "Run.open_tickets" hJ t.iK t.iN
 wJ:Binds K t.iN ["self"] []
 uN:Meth K t.aV "open_tickets" t.iK
 Ip:Fun K "state" "Run.state" rC t.tS t.uA
 BQ:Binds K t.uA ["self"] []
 z9:Meth K t.aV "state" t.tS
 Li:Fun K "take" "Run.take" vI t.xY t.yT
 yD:Binds K t.yT ["self","happening"] []
 uO:Meth K t.aV "take" t.xY
 zG:Fun K "passes_over" "Run.passes_over" iU t.jT t.j0
 yC:Binds K t.j0 ["self","happening"] []
 wX:Meth K t.aV "passes_over" t.jT
 CW:Fun K "take_done" "Run.take_done" k9 t.lV t.l7
 CG:Binds K t.l7 ["self","ticket","worth"] []
 BE:Meth K t.aV "take_done" t.lV
 zH:Fun K "take_letter" "Run.take_letter" iV t.jU t.j4
 yE:Binds K t.j4 ["self","key","worth"] []
 wY:Meth K t.aV "take_letter" t.jU
 Lj:Fun K "wake" "Run.wake" vJ t.xZ t.yU
 DG:Binds K t.yU ["self","worth"] []
 Cb:Meth K t.aV "wake" t.xZ
 Lf:Fun K "go_on" "Run.go_on" vF t.xW t.yQ
 DE:Binds K t.yQ ["self"] []
 Ca:Meth K t.aV "go_on" t.xW
 Io:Fun K "do_one" "Run.do_one" rB t.tR t.t9
 HY:Binds K t.t9 ["self","statement"] []
 FP:Meth K t.aV "do_one" t.tR
 Lh:Fun K "look" "Run.look" vH t.xX t.yS
 JK:Binds K t.yS ["self","statement"] []
 IL:Meth K t.aV "look" t.xX
 Ol:Fun K "end" "Run.end" AJ t.Cy t.CL
 GQ:Binds K t.CL ["self","worth"] []
 El:Meth K t.aV "end" t.Cy
 DZ:Fun K "wear_out" "Run.wear_out" mM t.nI t.nW
 DH:Binds K t.nW ["self"] []
 C8:Meth K t.aV "wear_out" t.nI
 Iq:Fun K "worth" "Run.worth" rD t.tT t.uB
 fH:Binds K t.uB ["self","saying"] []
 eI:Meth K t.aV "worth" t.tT
 BA:Fun K "new_ticket" "Run.new_ticket" kH t.k4 t.k7
 qA:Binds K t.k7 ["self","name"] []
 oH:Meth K t.aV "new_ticket" t.k4
 lM:Fun K "run_again" "run_again" rH t.tV t.uF
 pG:Binds K t.uF ["program","happenings"] []
 pP:mg "run_again"=some (.ref t.tV)
 Hk:Fun K "part_at" "part_at" AR t.CD t.CT
 M4:Binds K t.CT ["one","other","happenings"] []
 OE:mg "part_at"=some (.ref t.CD)
 zK:Fun K "changed" "changed" vK t.x8 t.yV
 DJ:Binds K t.yV ["old","new","happenings"] []
 Ek:mg "changed"=some (.ref t.x8)
 fF:Fun K "first_unlike_commands" "first_unlike_commands" eW t.fB t.fE
 iE:Binds K t.fE ["first","second"] []
 iG:mg "first_unlike_commands"=some (.ref t.fB)
 qR:Fun K "_law_cell_at" "_law_cell_at" oV t.qK t.qQ
 yI:Binds K t.qQ ["script","k"] []
 Ae:mg "_law_cell_at"=some (.ref t.qK)
 xH:Fun K "_law_row" "_law_row" AQ t.CC t.CS
 CJ:Binds K t.CS ["cell"] []
 Dd:mg "_law_row"=some (.ref t.CC)
 cB:Fun K "_law_take" "_law_take" vN t.yA t.y4
 cE:Binds K t.y4 ["row","many"] []
 cF:mg "_law_take"=some (.ref t.yA)
 cQ:Fun K "_law_saying" "_law_saying" oW t.jY t.j8
 cZ:Binds K t.j8 ["row","deep"] []
 c8:mg "_law_saying"=some (.ref t.jY)
 eR:Fun K "_law_statement" "_law_statement" kJ t.fQ t.fS
 fR:Binds K t.fS ["row","deep"] []
 fV:mg "_law_statement"=some (.ref t.fQ)
 pK:Fun K "_law_block" "_law_block" rF t.jO t.jP
 tW:Binds K t.jP ["row","deep"] []
 uQ:mg "_law_block"=some (.ref t.jO)
 v7:Fun K "_law_program" "_law_program" mQ t.nO t.n9
 DM:Binds K t.n9 ["cells"] []
 Er:mg "_law_program"=some (.ref t.nO)
 oC:Fun K "_law_happenings" "_law_happenings" iY t.jX t.j7
 yJ:Binds K t.j7 ["cells"] []
 Af:mg "_law_happenings"=some (.ref t.jX)
 vZ:Fun K "_law_changed" "_law_changed" mP t.nN t.nZ
 DL:Binds K t.nZ ["program","cell"] []
 Ep:mg "_law_changed"=some (.ref t.nN)
 oE:Fun K "_law_stepped" "_law_stepped" mR t.nP t.oA
 vV:Binds K t.oA ["program","happenings"] []
 wF:mg "_law_stepped"=some (.ref t.nP)
 YD:Fun K "law" "law" Md t.QK t.Q8
 Y6:Binds K t.Q8 ["script"] []
 Y9:mg "law"=some (.ref t.QK)
 bD:Cls K t.aJ
 LF:mg "Tickets"=some (.ref t.aJ)
 uP:Mk K t.aJ t.jB
 cP:Cls K t.aW
 WT:mg "Walk"=some (.ref t.aW)
 FQ:Mk K t.aW t.pD
 aX:Cls K t.aV
 WS:mg "Run"=some (.ref t.aV)
 Hu:Mk K t.aV t.rV
 uS:eF K t.aJ "made"
 gJ:eF K t.aJ "pending"
 gH:eF K t.aJ "answers"
 iH:eF K t.aW "blocks"
 eT:eF K t.aW "numbers"
 kB:eF K t.aV "walk"
 dF:eF K t.aV "sleep"
 Cc:eF K t.aV "arg"
 sQ:eF K t.aV "now"
 fZ:eF K t.aV "names"
 cJ:eF K t.aV "tickets"
 gI:eF K t.aV "letters"
 nS:mg "GREATEST_WORTH"=some (.int 1000000000 t.zV)
 wK:mg "GREATEST_MOMENT"=some (.int 1000000000000 t.wW)
 DO:mg "MOST_AT_ONCE"=some (.int 300 t.Ee)
 QR:mg "DEEDS"=some (.ref t.iQ)
 OB:UN w.params K t.iQ
 IS:PySem.W.nsIn K t.iQ "set"=some (some (.ref t.CA))
 Et:PySem.W.nsIn K t.iQ "order"=some (some (.ref t.nM))
 Eu:PySem.W.nsIn K t.iQ "timer"=some (some (.ref t.rW))
 Es:PySem.W.nsIn K t.iQ "child"=some (some (.ref t.nM))
 FU:PySem.W.nsIn K t.iQ "send"=some (some (.ref t.xD))
 FR:PySem.W.nsIn K t.iQ "drop"=some (some (.ref t.xB))
 FV:PySem.W.nsIn K t.iQ "wait"=some (some (.ref t.xE))
 FT:PySem.W.nsIn K t.iQ "hear"=some (some (.ref t.xC))
 IQ:PySem.W.nsIn K t.iQ "end"=some (some (.ref t.Cz))
 rP:mg "enumerate"=none
 DA:mg "len"=none
 ML:mg "max"=none
 Pt:mg "min"=none
 Bm:mg "range"=none
 vU:mg "reversed"=none
 Px:mg "set"=none
 pU:mg "sorted"=none
 UI:mg "sum"=none
 hX:mg "tuple"=none
theorem OY:aU ["number"] ["number"] (aM Gi):=by infer_instance
theorem mT:aU ["saying","names","arg","now","answers","kind","one","other"] ["saying","names","arg","now","answers"] (aM vO):=by infer_instance
theorem vS:aU ["sign","one","other","left","right"] ["sign","one","other"] (aM AO):=by infer_instance
theorem ET:aU ["worth"] ["worth"] (aM rG):=by infer_instance
theorem AX:aU ["truth"] ["truth"] (aM lE):=by infer_instance
theorem AU:aU ["self"] ["self"] (aM lA):=by infer_instance
theorem oZ:aU ["self","ticket"] ["self"] (aM lB):=by infer_instance
theorem vR:aU ["self","ticket"] ["self","ticket"] (aM iX):=by infer_instance
theorem pY:aU ["self"] ["self"] (aM gF):=by infer_instance
theorem vQ:aU ["self","ticket","worth"] ["self","ticket","worth"] (aM iW):=by infer_instance
theorem AV:aU ["self","ticket"] ["self","ticket"] (aM lD):=by infer_instance
theorem tJ:aU ["self"] ["self"] (aM hW):=by infer_instance
theorem i0:aU ["self","worths","tickets"] ["self","worths"] (aM gE):=by infer_instance
theorem ER:aU ["self","program"] ["self","program"] (aM rE):=by infer_instance
theorem BM:aU ["self"] ["self"] (aM mN):=by infer_instance
theorem w8:aU ["self"] ["self"] (aM kI):=by infer_instance
theorem BN:aU ["self"] ["self"] (aM mO):=by infer_instance
theorem Dq:aU ["self","which"] ["self","which"] (aM oS):=by infer_instance
theorem Dr:aU ["self"] ["self"] (aM oT):=by infer_instance
theorem Ds:aU ["self"] ["self"] (aM oU):=by infer_instance
theorem Mf:aU ["run","statement"] ["run","statement"] (aM Dp):=by infer_instance
theorem rK:aU ["run","statement","worth","ticket"] ["run","statement"] (aM vL):=by infer_instance
theorem mS:aU ["run","statement","worth","due","ticket"] ["run","statement"] (aM vM):=by infer_instance
theorem Jn:aU ["run","statement"] ["run","statement"] (aM AM):=by infer_instance
theorem Ck:aU ["run","statement","ticket"] ["run","statement"] (aM AK):=by infer_instance
theorem pR:aU ["run","statement","worths","ticket","pending"] ["run","statement"] (aM AN):=by infer_instance
theorem Cm:aU ["run","statement","worths"] ["run","statement"] (aM AL):=by infer_instance
theorem Me:aU ["run","statement"] ["run","statement"] (aM Dn):=by infer_instance
theorem Gj:aU ["self","program"] ["self","program"] (aM vG):=by infer_instance
theorem tI:aU ["self"] ["self"] (aM hJ):=by infer_instance
theorem oY:aU ["self","names","letters"] ["self"] (aM rC):=by infer_instance
theorem Gm:aU ["self","happening"] ["self","happening"] (aM vI):=by infer_instance
theorem lQ:aU ["self","happening","kind"] ["self","happening"] (aM iU):=by infer_instance
theorem AS:aU ["self","ticket","worth"] ["self","ticket","worth"] (aM k9):=by infer_instance
theorem vP:aU ["self","key","worth"] ["self","key","worth"] (aM iV):=by infer_instance
theorem Gn:aU ["self","worth"] ["self","worth"] (aM vJ):=by infer_instance
theorem kK:aU ["self","commands","many","statement"] ["self"] (aM vF):=by infer_instance
theorem oX:aU ["self","statement","kind","commands"] ["self","statement"] (aM rB):=by infer_instance
theorem Gk:aU ["self","statement"] ["self","statement"] (aM vH):=by infer_instance
theorem Jm:aU ["self","worth"] ["self","worth"] (aM AJ):=by infer_instance
theorem BL:aU ["self"] ["self"] (aM mM):=by infer_instance
theorem EO:aU ["self","saying"] ["self","saying"] (aM rD):=by infer_instance
theorem nD:aU ["self","name","ticket"] ["self","name"] (aM kH):=by infer_instance
theorem pA:aU ["program","happenings","run","commands"] ["program","happenings"] (aM rH):=by infer_instance
theorem Jp:aU ["one","other","happenings"] ["one","other","happenings"] (aM AR):=by infer_instance
theorem rJ:aU ["old","new","happenings","again","parting"] ["old","new","happenings"] (aM vK):=by infer_instance
theorem eM:aU ["first","second","number","commands"] ["first","second"] (aM eW):=by infer_instance
theorem Dt:aU ["script","k"] ["script","k"] (aM oV):=by infer_instance
theorem Jo:aU ["cell"] ["cell"] (aM AQ):=by infer_instance
theorem AW:aU ["row","many","told"] ["row","many"] (aM vN):=by infer_instance
theorem jK:aU ["row","deep","kind","some","sign"] ["row","deep"] (aM oW):=by infer_instance
theorem gB:aU ["row","deep","kind","name","some"] ["row","deep"] (aM kJ):=by infer_instance
theorem ES:aU ["row","deep"] ["row","deep"] (aM rF):=by infer_instance
theorem lF:aU ["cells","program","cell"] ["cells"] (aM mQ):=by infer_instance
theorem bO:aU ["cells","happenings","moment","cell","row","kind","worth","first","ahead"] ["cells"] (aM iY):=by infer_instance
theorem fY:aU ["program","cell","row","at","kind","turned"] ["program","cell"] (aM mP):=by infer_instance
theorem iC:aU ["program","happenings","run","commands","happening"] ["program","happenings"] (aM mR):=by infer_instance
theorem kL:aU ["script","program","other","happenings","parted","first","commands","k","told","again"] ["script"] (aM Md):=by infer_instance
theorem Zf{CX:CXT}{P:Program}{w:World}{K:q0B}{mg:q0C}{base:Heap}{N:List Str}{q:Str}{sc:Scope}{f:Addr}{cd:Value}{A:Around}{o:List Env}{s:Shared}{H:Hp}{E:XK}:(DU CX P w K mg base N q sc f cd A o s H E).K=K:=rfl
theorem YV{CX:CXT}{P:Program}{w:World}{K:q0B}{mg:q0C}{base:Heap}{N:List Str}{q:Str}{sc:Scope}{f:Addr}{cd:Value}{A:Around}{o:List Env}{s:Shared}{H:Hp}{E:XK}:(DU CX P w K mg base N q sc f cd A o s H E).nox.K=K:=rfl
theorem small{n:Nat}(h:n<=1000):n<=sizeLine:=Nat.le_of_lt (small1000 h)
theorem LK{i j:Int}(h0:-(2 ^ 64) < i)(h1:i < 2 ^ 64):CMul i j:=.inl ⟨h0,h1⟩
structure nH(H:Hp)(r:Addr):Prop where
 ex:∃ c l f:Int,H r=some (.lst [.int c,.int l,.int f])/\0<=l/\l < 536870909
theorem nH.kp{S:List Addr}{H H':Hp}{r:Addr}(R:nH H r)(h:Kp S H H')(n:r∉S:=by first|exact List.not_mem_nil|simp_all):nH H' r:=by
 obtain⟨c,l,f,e,x⟩:=R;exact⟨c,l,f,h _ _ e n,x⟩
theorem nH.new{H:Hp}{r p:Addr}{o:HO}(R:nH H r)(h:H p=none):nH (Zh H p o) r:=R.kp (S:=[]) (Kp.new h)
theorem nH.ne{H:Hp}{r p:Addr}{o:HO}(R:nH H r)(h:H p=some o)(d:∀ a b c:V,o≠.lst [a,b,c]):p≠r:=by
 obtain⟨c,l,f,e,_⟩:=R;exact dZ h e (d _ _ _)
theorem nH.none{H:Hp}{r p:Addr}(R:nH H r)(h:H p=Option.none):p≠r:=by
 obtain⟨c,l,f,e,_⟩:=R;exact(aK e h).symm
noncomputable def clamp(n:Int):Int:=if (if n < 1000000000 then n else 1000000000) > -1000000000 then (if n < 1000000000 then n else 1000000000) else -1000000000
noncomputable def Mo:Sp:=fun vs H Q _=>∃ n:Int,vs=[.int n]/\Q (.int (clamp n)) H
theorem Uc{n:Int}{H:Hp}{Q:VK}{E:XK}:Mo [.int n] H Q E=Q (.int (clamp n)) H:=propext ⟨fun⟨_,e,h⟩=>by cases e;exact h,fun h=>⟨_,rfl,h⟩⟩
theorem nT(n:Int):-1000000000<=clamp n/\clamp n<=1000000000:=by
 unfold clamp
 repeat' split
 all_goals omega
noncomputable abbrev Wo:=Option Int
noncomputable def wv:Wo->V
 | none=>.Zj
 | some n=>.int n
noncomputable def num(w:Wo):Int:=w.getD 0
noncomputable def wk:Wo->Key
 | none=>.no
 | some n=>.inl n
noncomputable def eZ(w:Wo):Prop:=∀ n,w=some n->-1000000000<=n/\n<=1000000000
theorem GK{a b:Wo}(h:wv a=wv b):a=b:=by cases a<;>cases b<;>simp_all [wv]
theorem UH(w:Wo):kP (wv w)=some (wk w):=by cases w<;>rfl
theorem GL(w:Wo):(wv w=.Zj)=(w=none):=by cases w<;>simp[wv]
theorem HW(w:Wo):cS (wv w)=true:=by cases w<;>rfl
theorem j9:eZ none:=fun _ h=>nomatch h
theorem cM{n:Int}(h0:-1000000000<=n)(h1:n<=1000000000):eZ (some n):=fun m h=>by cases h;exact⟨h0,h1⟩
theorem LA{w:Wo}(h:eZ w):-1000000000<=num w/\num w<=1000000000:=by
 cases w with
 | none=>exact⟨by decide,by decide⟩
 | some n=>exact h n rfl
noncomputable def Qe:Sp:=fun vs H Q _=>∃ w:Wo,vs=[wv w]/\Q (.int (num w)) H
theorem Xc{w:Wo}{H:Hp}{Q:VK}{E:XK}:Qe [wv w] H Q E=Q (.int (num w)) H :=
 propext ⟨fun⟨u,e,h⟩=>by simp only[List.cons.injEq,and_true] at e;rw[GK e];exact h,fun h=>⟨w,rfl,h⟩⟩
noncomputable def Qf:Sp:=fun vs H Q _=>∃ b:Bool,vs=[.bl b]/\Q (.int (if b=true then 1 else 0)) H
theorem EK{b:Bool}{H:Hp}{Q:VK}{E:XK}:Qf [.bl b] H Q E=Q (.int (if b=true then 1 else 0)) H :=
 propext ⟨fun⟨u,e,h⟩=>by cases e;exact h,fun h=>⟨b,rfl,h⟩⟩
inductive Sg where
 | add|sub|mul|lt|eq
noncomputable def Sg.s:Sg->Str
 | .add=>"+" | .sub=>"-" | .mul=>"*" | .lt=>"<" | .eq=>"="
noncomputable def Sg.of(g:Sg)(a b:Wo):Int :=
 match g with
 | .add=>clamp (num a+num b) | .sub=>clamp (num a - num b) | .mul=>clamp (num a * num b) | .lt=>if num a < num b then 1 else 0 | .eq=>if a=b then 1 else 0
theorem Sg.P2(g:Sg)(a b:Wo):-1000000000<=g.of a b/\g.of a b<=1000000000:=by
 cases g
 ·exact nT _
 ·exact nT _
 ·exact nT _
 ·show -1000000000<=(if num a < num b then (1:Int) else 0)/\(if num a < num b then (1:Int) else 0)<=1000000000;split<;>decide
 ·show -1000000000<=(if a=b then (1:Int) else 0)/\(if a=b then (1:Int) else 0)<=1000000000;split<;>decide
noncomputable def Mn:Sp:=fun vs H Q _=>∃(g:Sg) (a b:Wo),vs=[.str g.s,wv a,wv b]/\eZ a/\Q (.int (g.of a b)) H
inductive Say where
 | num (n:Int)|Zj|name (x:Str)|arg|now|ans (s:Say)|neg (s:Say)|two (g:Sg) (a b:Say)
inductive dE(H:Hp):V->Say->Prop
 | num {a:Addr} {n:Int}:H a=some (.tup [.str "number",.int n])->dE H (.ref a) (.num n)
 | Zj {a:Addr}:H a=some (.tup [.str "none"])->dE H (.ref a) .Zj
 | name {a:Addr} {x:Str}:H a=some (.tup [.str "name",.str x])->dE H (.ref a) (.name x)
 | arg {a:Addr}:H a=some (.tup [.str "arg"])->dE H (.ref a) .arg
 | now {a:Addr}:H a=some (.tup [.str "now"])->dE H (.ref a) .now
 | ans {a:Addr} {v:V} {s:Say}:H a=some (.tup [.str "answer",v])->dE H v s->dE H (.ref a) (.ans s)
 | neg {a:Addr} {v:V} {s:Say}:H a=some (.tup [.str "not",v])->dE H v s->dE H (.ref a) (.neg s)
 | two {a:Addr} {v u:V} {g:Sg} {s r:Say}:H a=some (.tup [.str g.s,v,u])->dE H v s->dE H u r->dE H (.ref a) (.two g s r)
noncomputable def aL(H H':Hp):Prop:=∀ a xs,H a=some (.tup xs)->H' a=some (.tup xs)
theorem dE.kp{H H':Hp}{v:V}{s:Say}(h:dE H v s)(k:aL H H'):dE H' v s:=by
 induction h with
 | num e=>exact .num (k _ _ e)
 | Zj e=>exact .Zj (k _ _ e)
 | name e=>exact .name (k _ _ e)
 | arg e=>exact .arg (k _ _ e)
 | now e=>exact .now (k _ _ e)
 | ans e _ ih=>exact .ans (k _ _ e) ih
 | neg e _ ih=>exact .neg (k _ _ e) ih
 | two e _ _ i1 i2=>exact .two (k _ _ e) i1 i2
theorem aL.of{S:List Addr}{H H':Hp}(k:Kp S H H')(h:∀ a∈S,∃ o,H a=some o/\∀ xs,o≠.tup xs):aL H H':=fun a xs e=>k a _ e fun z=>by
 obtain⟨o,e',d⟩:=h a z;rw[e] at e';exact d xs (Option.some.inj e').symm
theorem aL.new{H:Hp}{p:Addr}{o:HO}(h:H p=none):aL H (Zh H p o):=fun a xs e=>by rw[aG (aK e h)];exact e
theorem aL.trans{H H1 H2:Hp}(a:aL H H1)(b:aL H1 H2):aL H H2:=fun x xs e=>b x xs (a x xs e)
theorem aL.row{r:Addr}{H H':Hp}(k:Kp [r] H H')(R:nH H r):aL H H':=.of k fun a ha=>by
 obtain⟨c,l,f,e,_⟩:=R;have:a=r:=by simpa using ha
 exact⟨_,this▸e,fun _ h=>by cases h⟩
noncomputable def Say.depth:Say->Nat
 | .ans s=>s.depth+1 | .neg s=>s.depth+1 | .two _ a b=>max a.depth b.depth+1 | .num _=>1 | .Zj=>1 | .name _=>1 | .arg=>1 | .now=>1
noncomputable def Say.ok:Say->Prop
 | .num n=>-1000000000<=n/\n<=1000000000 | .ans s=>s.ok | .neg s=>s.ok | .two _ a b=>a.ok/\b.ok|_=>True
theorem Say.BZ(s:Say):1<=s.depth:=by cases s<;>simp[Say.depth]
structure Pl where
 nm:Str->Wo
 ar:Wo
 now:Int
 an:Wo->Wo
structure Pl.Ok(p:Pl):Prop where
 nm:∀ x,eZ (p.nm x)
 ar:eZ p.ar
 an:∀ w,eZ (p.an w)
noncomputable def ev(p:Pl):Say->Wo
 | .num n=>some n
 | .Zj=>none
 | .name x=>p.nm x
 | .arg=>p.ar
 | .now=>some (clamp p.now)
 | .ans s=>p.an (ev p s)
 | .neg s=>some (if num (ev p s)=0 then 1 else 0)
 | .two g a b=>some (g.of (ev p a) (ev p b))
theorem PR{p:Pl}(hp:p.Ok):∀ {s:Say},s.ok->eZ (ev p s)
 | .num n,h=>cM h.1 h.2
 | .Zj,_=>j9
 | .name x,_=>hp.nm x
 | .arg,_=>hp.ar
 | .now,_=>cM (nT _).1 (nT _).2
 | .ans s,_=>hp.an _
 | .neg s,_=>by
  show eZ (some (if num (ev p s)=0 then 1 else 0));split<;>exact cM (by decide) (by decide)
 | .two g a b,_=>cM (g.P2 _ _).1 (g.P2 _ _).2
noncomputable def MS(H:Hp)(d:Addr)(f:Str->Wo):Prop:=∃ kvs,H d=some (.dK kvs)/\∀ x,(bT kvs (.inr x)).getD .Zj=wv (f x)
noncomputable def MQ(H:Hp)(d:Addr)(f:Wo->Wo):Prop:=∃ kvs,H d=some (.dK kvs)/\∀ w,(bT kvs (wk w)).getD .Zj=wv (f w)
noncomputable def Ux(d:Nat):Sp:=fun vs H Q _=>∃(v:V) (dn da:Addr) (p:Pl) (s:Say),vs=[v,.ref dn,wv p.ar,.int p.now,.ref da]/\dE H v s/\s.depth<=d/\s.ok/\MS H dn p.nm/\MQ H da p.an/\p.Ok/\Q (wv (ev p s)) H
inductive Stm where
 | set (x:Str) (s:Say)|order (x y:Str) (s:Say)|Zx (x:Str) (s:Say)|child (x y:Str) (s:Say)|send (s:Say) (k:Str) (r:Say)|drop (s:Say)
 | wait (x:Str) (ss:List Say)|Zp (x k:Str)|fin (s:Say)|Z9 (s:Say) (b:List Stm)|iff (s:Say) (b o:List Stm)
inductive gD(H:Hp):List V->List Say->Prop
 | nil:gD H [] []
 | cons {v:V} {vs:List V} {s:Say} {ss:List Say}:dE H v s->gD H vs ss->gD H (v::vs) (s::ss)
theorem gD.kp{H H':Hp}{vs:List V}{ss:List Say}(h:gD H vs ss)(k:aL H H'):gD H' vs ss:=by
 induction h with
 | nil=>exact .nil
 | cons a _ ih=>exact .cons (a.kp k) ih
mutual
inductive cL(H:Hp):V->Stm->Prop
 | set {a:Addr} {x:Str} {v:V} {s:Say}:H a=some (.tup [.str "set",.str x,v])->dE H v s->cL H (.ref a) (.set x s)
 | order {a:Addr} {x y:Str} {v:V} {s:Say}:H a=some (.tup [.str "order",.str x,.str y,v])->dE H v s->cL H (.ref a) (.order x y s)
 | Zx {a:Addr} {x:Str} {v:V} {s:Say}:H a=some (.tup [.str "timer",.str x,v])->dE H v s->cL H (.ref a) (.Zx x s)
 | child {a:Addr} {x y:Str} {v:V} {s:Say}:H a=some (.tup [.str "child",.str x,.str y,v])->dE H v s->cL H (.ref a) (.child x y s)
 | send {a:Addr} {k:Str} {v u:V} {s r:Say}:H a=some (.tup [.str "send",v,.str k,u])->dE H v s->dE H u r->cL H (.ref a) (.send s k r)
 | drop {a:Addr} {v:V} {s:Say}:H a=some (.tup [.str "drop",v])->dE H v s->cL H (.ref a) (.drop s)
 | wait {a p:Addr} {x:Str} {vs:List V} {ss:List Say}:H a=some (.tup [.str "wait",.str x,.ref p])->H p=some (.tup vs)->gD H vs ss->cL H (.ref a) (.wait x ss)
 | Zp {a:Addr} {x k:Str}:H a=some (.tup [.str "hear",.str x,.str k])->cL H (.ref a) (.Zp x k)
 | fin {a:Addr} {v:V} {s:Say}:H a=some (.tup [.str "end",v])->dE H v s->cL H (.ref a) (.fin s)
 | Z9 {a p:Addr} {v:V} {s:Say} {vs:List V} {b:List Stm}:H a=some (.tup [.str "while",v,.ref p])->dE H v s->H p=some (.tup vs)->bF H vs b->cL H (.ref a) (.Z9 s b)
 | iff {a p q:Addr} {v:V} {s:Say} {vs us:List V} {b o:List Stm}:H a=some (.tup [.str "if",v,.ref p,.ref q])->dE H v s->H p=some (.tup vs)->bF H vs b->H q=some (.tup us)->bF H us o->cL H (.ref a) (.iff s b o)
inductive bF(H:Hp):List V->List Stm->Prop
 | nil:bF H [] []
 | cons {v:V} {vs:List V} {x:Stm} {xs:List Stm}:cL H v x->bF H vs xs->bF H (v::vs) (x::xs)
end
theorem cL.kp{H H':Hp}(k:aL H H'){v:V}{m:Stm}(h:cL H v m):cL H' v m :=
 cL.rec (motive_1:=fun v m _=>cL H' v m) (motive_2:=fun vs ms _=>bF H' vs ms)
  (fun e s=>.set (k _ _ e) (s.kp k)) (fun e s=>.order (k _ _ e) (s.kp k)) (fun e s=>.Zx (k _ _ e) (s.kp k)) (fun e s=>.child (k _ _ e) (s.kp k))
  (fun e s r=>.send (k _ _ e) (s.kp k) (r.kp k)) (fun e s=>.drop (k _ _ e) (s.kp k)) (fun e f s=>.wait (k _ _ e) (k _ _ f) (s.kp k)) (fun e=>.Zp (k _ _ e)) (fun e s=>.fin (k _ _ e) (s.kp k))
  (fun e s f _ b=>.Z9 (k _ _ e) (s.kp k) (k _ _ f) b) (fun e s f _ f' _ b b'=>.iff (k _ _ e) (s.kp k) (k _ _ f) b (k _ _ f') b') .nil (fun _ _ a b=>.cons a b) h
theorem bF.kp{H H':Hp}(k:aL H H'){vs:List V}{ms:List Stm}(h:bF H vs ms):bF H' vs ms :=
 bF.rec (motive_1:=fun v m _=>cL H' v m) (motive_2:=fun vs ms _=>bF H' vs ms)
  (fun e s=>.set (k _ _ e) (s.kp k)) (fun e s=>.order (k _ _ e) (s.kp k)) (fun e s=>.Zx (k _ _ e) (s.kp k)) (fun e s=>.child (k _ _ e) (s.kp k))
  (fun e s r=>.send (k _ _ e) (s.kp k) (r.kp k)) (fun e s=>.drop (k _ _ e) (s.kp k)) (fun e f s=>.wait (k _ _ e) (k _ _ f) (s.kp k)) (fun e=>.Zp (k _ _ e)) (fun e s=>.fin (k _ _ e) (s.kp k))
  (fun e s f _ b=>.Z9 (k _ _ e) (s.kp k) (k _ _ f) b) (fun e s f _ f' _ b b'=>.iff (k _ _ e) (s.kp k) (k _ _ f) b (k _ _ f') b') .nil (fun _ _ a b=>.cons a b) h
mutual
noncomputable def Stm.dp:Stm->Nat
 | .Z9 _ b=>rQ b+1
 | .iff _ b o=>max (rQ b) (rQ o)+1
 | .set _ _=>0
 | .order _ _ _=>0
 | .Zx _ _=>0
 | .child _ _ _=>0
 | .send _ _ _=>0
 | .drop _=>0
 | .wait _ _=>0
 | .Zp _ _=>0
 | .fin _=>0
noncomputable def rQ:List Stm->Nat
 | []=>0
 | m::ms=>max m.dp (rQ ms)
end
theorem bF.at{H:Hp}{vs:List V}{ms:List Stm}(h:bF H vs ms):∀ {i:Nat} {x:V},vs[i]?=some x->∃ m,ms[i]?=some m/\cL H x m:=by
 induction ms generalizing vs with
 | nil=>cases h;intro i x e;simp at e
 | cons m ms ih =>
  cases h with
  | cons a b =>
   intro i x e;cases i with
   | zero=>simp only[List.getElem?_cons_zero,Option.some.injEq] at e;subst e;exact⟨_,rfl,a⟩
   | succ i=>exact ih b (by simpa using e)
theorem bF.len{H:Hp}{vs:List V}{ms:List Stm}(h:bF H vs ms):ms.length=vs.length:=by
 induction ms generalizing vs with
 | nil=>cases h;rfl
 | cons m ms ih =>
  cases h with
  | cons a b=>simp[ih b]
theorem yP(ns:List Int)(lo hi:Option Int):∃ ms:List Int,gK (ns.map V.int) lo hi=ms.map V.int/\ms.length<=ns.length:=by
 unfold gK;rw[<- List.map_drop,<- List.map_take];exact⟨_,rfl,by rw[List.length_take,List.length_drop];omega⟩
theorem Hn{ms:List Int}{i:Nat}{y:V}(h:(ms.map V.int)[i]?=some y):∃ z:Int,y=.int z:=by
 rw[List.getElem?_map] at h;cases e:ms[i]? with
 | none=>rw[e] at h;cases h
 | some z=>rw[e] at h;exact⟨z,(Option.some.inj h).symm⟩
theorem MS.kp{H H':Hp}{S:List Addr}{d:Addr}{f:Str->Wo}(h:MS H d f)(k:Kp S H H')(n:d∉S):MS H' d f:=by
 obtain⟨kvs,e,q⟩:=h;exact⟨kvs,k _ _ e n,q⟩
theorem MQ.kp{H H':Hp}{S:List Addr}{d:Addr}{f:Wo->Wo}(h:MQ H d f)(k:Kp S H H')(n:d∉S):MQ H' d f:=by
 obtain⟨kvs,e,q⟩:=h;exact⟨kvs,k _ _ e n,q⟩
theorem B3(w:Wo):wU (wv w) [.Zj,.int 0]=decide (num w=0):=by
 cases w with
 | none=>rfl
 | some n =>
  by_cases h:n=0
  ·subst h;rfl
  ·have h':¬ (0=n):=fun z=>h z.symm;simp[wU,wv,sF,num,h,h']
theorem flat01:([.Zj,.int 0]:List V).all cS=true:=by decide
theorem aL.nil{H H':Hp}(k:Kp [] H H'):aL H H':=fun a xs e=>k a _ e (by simp)
theorem _root_.L2.Kp.AY{a:Addr}{H:Hp}{o:HO}:Kp [a] H (Zh H a o):=Kp.set (by simp)
noncomputable def kF(pend:List Int):List (Key×V):=pend.map fun i=>(.inl i,.bl true)
noncomputable def kO(ans:List (Int×Wo)):List (Key×V):=ans.map fun p=>(.inl p.1,wv p.2)
structure jA(C:Addr)(H:Hp)(tk tx dp da:Addr)(made:Nat)(pend:List Int)(ans:List (Int×Wo)):Prop where
 ins:H tk=some (.ins C tx [("made",.int made),("pending",.ref dp),("answers",.ref da)])
 hp:H dp=some (.dK (kF pend))
 ha:H da=some (.dK (kO ans))
 nda:dp≠da
 lt:∀ i∈pend,0<=i/\i < made
 asc:pend.Pairwise (· < ·)
 la:∀ p∈ans,0<=p.1/\p.1 < made
 dis:∀ p∈ans,p.1∉pend
 small:made<=1000000
theorem jA.n1{C:Addr}{H:Hp}{tk tx dp da:Addr}{made:Nat}{pend:List Int}{ans:List (Int×Wo)}(T:jA C H tk tx dp da made pend ans):tk≠dp/\tk≠da:=⟨dZ T.ins T.hp (by intro z;cases z),dZ T.ins T.ha (by intro z;cases z)⟩
theorem jA.kp{C:Addr}{H H':Hp}{tk tx dp da:Addr}{made:Nat}{pend:List Int}{ans:List (Int×Wo)}(T:jA C H tk tx dp da made pend ans)(k:Kp [] H H'):jA C H' tk tx dp da made pend ans :=
 ⟨k.at T.ins,k.at T.hp,k.at T.ha,T.nda,T.lt,T.asc,T.la,T.dis,T.small⟩
theorem AD(pend:List Int)(w:Wo):(bT (kF pend) (wk w)).isSome=decide (∃ i∈pend,w=some i):=by
 induction pend with
 | nil=>simp[kF,E3]
 | cons i r ih =>
  have e:kF (i::r)=(Key.inl i,V.bl true)::kF r:=rfl;rw[e];by_cases h:w=some i
  ·subst h;rw[show wk (some i)=Key.inl i from rfl,cO rfl];simp
  ·rw[cD (fun z=>h (by cases w with
    | none=>cases z
    | some j=>cases z;rfl)),ih]
   simp[h]
theorem Je(pend:List Int)(i:Int):qB (kF pend) (.inl i)=kF (pend.filter fun j=>decide (j≠i)):=by
 unfold qB kF;rw[List.filter_map]
 congr 1
 apply List.filter_congr;intro j _;simp
theorem Jf(pend:List Int):intKeys (kF pend)=some pend:=by
 induction pend with
 | nil=>rfl
 | cons i r ih =>
  show(intKeys (kF r)).map (i::·)=_;rw[ih];rfl
theorem Jg{pend:List Int}{i:Int}(h:i∉pend):bT (kF pend) (.inl i)=none:=by
 have:=AD pend (some i);rw[show decide (∃ j∈pend,some i=some j)=false by simp[h]] at this;cases e:bT (kF pend) (.inl i) with
 | none=>rfl
 | some v=>rw[show wk (some i)=.inl i from rfl,e] at this;cases this
theorem Jh{pend:List Int}{i:Int}(h:i∈pend):∃ v,bT (kF pend) (.inl i)=some v:=by
 have:=AD pend (some i);rw[show decide (∃ j∈pend,some i=some j)=true by simpa using h] at this;exact Option.isSome_iff_exists.mp this
theorem JJ{ans:List (Int×Wo)}{i:Int}(h:∀ p∈ans,p.1≠i):bT (kO ans) (.inl i)=none:=by
 induction ans with
 | nil=>rfl
 | cons p r ih =>
  have e:kO (p::r)=(Key.inl p.1,wv p.2)::kO r:=rfl;rw[e,cD (fun z=>h p (by simp) (by cases z;rfl)),ih fun q hq=>h q (List.mem_cons_of_mem _ hq)]
theorem wH{a b:List Int}(p:a.Perm b)(ha:a.Pairwise (·<=·))(hb:b.Pairwise (· < ·)):a=b :=
 List.Perm.eq_of_pairwise (fun x y _ _ h1 h2=>Int.le_antisymm h1 h2) ha (hb.imp fun h=>Int.le_of_lt h) p
noncomputable def EV(C:Addr):Sp:=fun vs H Q _=>∃ x dx:Addr,vs=[.ref x]/\H x=some (.ins C dx [])/\∀(dp da:Addr) (H':Hp),H dp=none->H da=none->jA C H' x dx dp da 0 [] []->Kp [x] H H'->Q .Zj H'
noncomputable def Mp(C:Addr):Sp:=fun vs H Q _=>∃(tk tx dp da:Addr) (made:Nat) (pend:List Int) (ans:List (Int×Wo)),vs=[.ref tk]/\jA C H tk tx dp da made pend ans/\made < 1000000/\pend.length < 1000000 /\
 ∀ H',jA C H' tk tx dp da (made+1) (pend++[(made:Int)]) ans->Kp [tk,dp] H H'->Q (.int made) H'
noncomputable def Mq(C:Addr):Sp:=fun vs H Q _=>∃(tk tx dp da:Addr) (made:Nat) (pend:List Int) (ans:List (Int×Wo)) (w:Wo),vs=[.ref tk,wv w]/\jA C H tk tx dp da made pend ans/\Q (.bl (decide (∃ i∈pend,w=some i))) H
noncomputable def Ju(C:Addr):Sp:=fun vs H Q _=>∃(tk tx dp da:Addr) (made:Nat) (pend:List Int) (ans:List (Int×Wo)),vs=[.ref tk]/\jA C H tk tx dp da made pend ans/\pend.length<=1000000/\∀ l,H l=none->Q (.ref l) (Zh H l (.lst (pend.map V.int)))
noncomputable def Mr(C:Addr):Sp:=fun vs H Q _=>∃(tk tx dp da:Addr) (made:Nat) (pend:List Int) (ans:List (Int×Wo)) (i:Int),vs=[.ref tk,.int i]/\jA C H tk tx dp da made pend ans/\i∈pend /\
 ∀ H',jA C H' tk tx dp da made (pend.filter fun j=>decide (j≠i)) ans->Kp [dp] H H'->Q .Zj H'
noncomputable def Gx(C:Addr):Sp:=fun vs H Q _=>∃(tk tx dp da:Addr) (made:Nat) (pend:List Int) (ans:List (Int×Wo)) (i:Int) (w:Wo),vs=[.ref tk,.int i,wv w]/\jA C H tk tx dp da made pend ans/\i∈pend/\ans.length < 1000000 /\
 ∀ H',jA C H' tk tx dp da made (pend.filter fun j=>decide (j≠i)) (ans++[(i,w)])->Kp [dp,da] H H'->Q .Zj H'
noncomputable def Pb(C:Addr):Sp:=fun vs H Q _=>∃(tk tx dp da:Addr) (made:Nat) (pend:List Int) (ans:List (Int×Wo)),vs=[.ref tk]/\jA C H tk tx dp da made pend ans /\
 ∀ H',jA C H' tk tx dp da made [] ans->Kp [dp] H H'->Q .Zj H'
noncomputable abbrev Stk:=List (Nat×List Stm×Nat)
noncomputable def bY:Stk->List Int
 | []=>[]
 | [(_,_,n)]=>[(n:Int)]
 | (k,_,n)::r=>bY r++[(k:Int),(n:Int)]
inductive gC(H:Hp):List V->Stk->Prop
 | one {p:Addr} {us:List V} {k n:Nat} {b:List Stm}:H p=some (.tup us)->bF H us b->gC H [.ref p] [(k,b,n)]
 | cons {p:Addr} {us vs:List V} {k n:Nat} {b:List Stm} {r:Stk}:gC H vs r->H p=some (.tup us)->bF H us b->gC H (vs++[.ref p]) ((k,b,n)::r)
theorem gC.kp{H H':Hp}{vs:List V}{st:Stk}(h:gC H vs st)(k:aL H H'):gC H' vs st:=by
 induction h with
 | one e s=>exact .one (k _ _ e) (s.kp k)
 | cons _ e s ih=>exact .cons ih (k _ _ e) (s.kp k)
theorem gC.len{H:Hp}{vs:List V}{st:Stk}(h:gC H vs st):vs.length=st.length/\1<=st.length:=by
 induction h with
 | one=>exact⟨rfl,Nat.le_refl _⟩
 | cons _ _ _ ih=>simp[ih.1]
theorem gC.last{H:Hp}{vs:List V}{k n:Nat}{b:List Stm}{r:Stk}(h:gC H vs ((k,b,n)::r)):∃(ws:List V) (p:Addr) (us:List V),vs=ws++[.ref p]/\H p=some (.tup us)/\bF H us b/\(r≠[]->gC H ws r)/\(r=[]->ws=[]):=by
 cases h with
 | one e s=>exact⟨[],_,_,rfl,e,s,fun z=>absurd rfl z,fun _=>rfl⟩
 | @cons p us vs k n b r hr e s=>exact⟨vs,_,_,rfl,e,s,fun _=>hr,fun z=>by subst z;cases hr⟩
theorem gC.turn{H:Hp}{vs:List V}{k n n':Nat}{b:List Stm}{r:Stk}(h:gC H vs ((k,b,n)::r)):gC H vs ((k,b,n')::r):=by
 cases h with
 | one e s=>exact .one e s
 | cons hr e s=>exact .cons hr e s
theorem uV(k n:Nat)(b:List Stm)(r:Stk):∃ l,bY ((k,b,n)::r)=l++[(n:Int)]/\∀ n',bY ((k,b,n')::r)=l++[((n':Nat):Int)]:=by
 cases r with
 | nil=>exact⟨[],rfl,fun _=>rfl⟩
 | cons x r=>exact⟨bY (x::r)++[(k:Int)],by simp[bY],fun n'=>by simp[bY]⟩
theorem uW(k:Nat)(b:List Stm)(n:Nat)(x:Nat×List Stm×Nat)(r:Stk):bY ((k,b,n)::x::r)=bY (x::r)++[(k:Int),(n:Int)]:=rfl
structure iJ(C:Addr)(H:Hp)(wk wx lb ln:Addr)(st:Stk):Prop where
 ins:H wk=some (.ins C wx [("blocks",.ref lb),("numbers",.ref ln)])
 bl:∃ vs,H lb=some (.lst vs)/\gC H vs st
 nu:H ln=some (.lst ((bY st).map V.int))
 ne:lb≠ln
 few:st.length<=100
theorem iJ.kp{C:Addr}{H H':Hp}{wk wx lb ln:Addr}{st:Stk}(W:iJ C H wk wx lb ln st)(k:Kp [] H H'):iJ C H' wk wx lb ln st:=by
 obtain⟨vs,e,h⟩:=W.bl;exact⟨k.at W.ins,⟨vs,k.at e,h.kp (aL.nil k)⟩,k.at W.nu,W.ne,W.few⟩
noncomputable def iT:Stk->Stk
 | (k,b,n)::r=>(k,b,n+1)::r
 | []=>[]
noncomputable def Gy(C:Addr):Sp:=fun vs H Q _=>∃(wk wx lb ln:Addr) (k n:Nat) (b:List Stm) (r:Stk) (m:Stm),vs=[.ref wk]/\iJ C H wk wx lb ln ((k,b,n)::r)/\b[n]?=some m/\∀ v,cL H v m->Q v H
noncomputable def Bd(C:Addr):Sp:=fun vs H Q _=>∃(wk wx lb ln:Addr) (k n:Nat) (b:List Stm) (r:Stk),vs=[.ref wk]/\iJ C H wk wx lb ln ((k,b,n)::r)/\∀ H',iJ C H' wk wx lb ln ((k,b,n+1)::r)->Kp [ln] H H'->Q .Zj H'
noncomputable def EW(C:Addr):Sp:=fun vs H Q _=>∃(x dx p:Addr) (us:List V) (b:List Stm),vs=[.ref x,.ref p]/\H x=some (.ins C dx [])/\H p=some (.tup us)/\bF H us b/\∀(lb ln:Addr) (H':Hp),H lb=none->H ln=none->iJ C H' x dx lb ln [(0,b,0)]->Kp [x] H H'->Q .Zj H'
noncomputable def Stm.sub:Stm->Nat->Option (List Stm)
 | .Z9 _ b,0=>some b
 | .iff _ b _,0=>some b
 | .iff _ _ o,1=>some o
 | _,_=>none
noncomputable def Stm.IC:Stm->Bool
 | .iff _ _ _=>true
 | _=>false
noncomputable def Cn(C:Addr):Sp:=fun vs H Q _=>∃(wk wx lb ln:Addr) (k n c:Nat) (b bb:List Stm) (r:Stk) (m:Stm),vs=[.ref wk,.int c]/\iJ C H wk wx lb ln ((k,b,n)::r)/\b[n]?=some m/\m.sub c=some bb/\r.length<=90 /\
 ∀ H',iJ C H' wk wx lb ln ((c,bb,0)::(k,b,n)::r)->Kp [lb,ln] H H'->Q .Zj H'
noncomputable def Jv(C:Addr):Sp:=fun vs H Q _=>∃(wk wx lb ln:Addr) (k n:Nat) (b:List Stm) (x:Nat×List Stm×Nat) (r:Stk) (m:Stm),vs=[.ref wk]/\iJ C H wk wx lb ln (x::(k,b,n)::r)/\b[n]?=some m /\
 ∀ H',iJ C H' wk wx lb ln ((k,b,if m.IC=true then n+1 else n)::r)->Kp [lb,ln] H H'->Q .Zj H'
theorem cL.subAt{H:Hp}{v:V}{m:Stm}{c:Nat}{bb:List Stm}(h:cL H v m)(hs:m.sub c=some bb):∃(a p:Addr) (xs us:List V),v=.ref a/\H a=some (.tup xs)/\iM xs (2+(c:Int))=some (.ref p)/\H p=some (.tup us)/\bF H us bb:=by
 cases h with
 | @Z9 a p v s vs b e h1 f hb =>
  match c,hs with
  | 0,hs=>cases hs;exact⟨a,p,_,vs,rfl,e,rfl,f,hb⟩
 | @iff a p q v s vs us b o e h1 f hb f2 hb2 =>
  match c,hs with
  | 0,hs=>cases hs;exact⟨a,p,_,vs,rfl,e,rfl,f,hb⟩
  | 1,hs=>cases hs;exact⟨a,q,_,us,rfl,e,rfl,f2,hb2⟩
 | _=>cases hs
theorem cL.WN{H:Hp}{v:V}{m:Stm}(h:cL H v m):∃(a:Addr) (x:String) (xs:List V),v=.ref a/\H a=some (.tup (.str (Str.ofString x)::xs))/\decide (x = "if")=m.IC:=by
 cases h<;>exact⟨_,_,_,rfl,by assumption,rfl⟩
theorem aL.fK{H:Hp}{l:Addr}{xs ys:List V}(e:H l=some (.lst xs)):aL H (Zh H l (.lst ys)):=fun a zs h=>by
 rw[aG (dZ h e (by intro z;cases z))];exact h
theorem Ey:∀ st:Stk,(bY st).length<=2 * st.length
 | []=>by simp[bY]
 | [(_,_,n)]=>by simp[bY]
 | (k,b,n)::x::r=>by
  have:=Ey (x::r);rw[uW,List.length_append];simp only[List.length_cons,List.length_nil] at this ⊢;omega
theorem uK{α:Type}(l:List α)(x:α):(l++[x])[(l++[x]).length - 1]?=some x:=by simp
theorem aL.tr{H H1 H2:Hp}(a:aL H H1)(b:aL H1 H2):aL H H2:=fun c xs e=>b c xs (a c xs e)
noncomputable def Al(b:List Stm)(n:Nat):Nat:=match b[n]? with
 | some m=>if m.IC=true then n+1 else n
 | none=>n
noncomputable def c7:Stk->Stk
 | (k,b,n)::(k2,b2,n2)::r=>if n=b.length then c7 ((k2,b2,Al b2 n2)::r) else (k,b,n)::(k2,b2,n2)::r
 | st=>st
termination_by st=>st.length
noncomputable def BP:Stk->Prop
 | []=>False
 | (_,b,n)::r=>n<=b.length/\∀ x∈r,x.2.2 < x.2.1.length
noncomputable def cI:Stk->Option Stm
 | (_,b,n)::_=>b[n]?
 | []=>none
theorem Ez{b:List Stm}{n:Nat}(h:n < b.length):Al b n<=b.length:=by
 unfold Al;split
 ·split<;>omega
 ·omega
noncomputable def Ms(C:Addr):Sp:=fun vs H Q _=>∃(wk wx lb ln:Addr) (st:Stk),vs=[.ref wk]/\iJ C H wk wx lb ln st/\BP st /\
 (∀ H',iJ C H' wk wx lb ln (c7 st)->BP (c7 st)->cI (c7 st)=none->Kp [lb,ln] H H'->Q .Zj H') /\
 ∀(m:Stm) (v:V) (H':Hp),iJ C H' wk wx lb ln (c7 st)->BP (c7 st)->cI (c7 st)=some m->cL H' v m->Kp [lb,ln] H H'->Q v H'
noncomputable abbrev Cmds:=List (List V)
inductive gM(H:Hp):List V->Cmds->Prop
 | nil:gM H [] []
 | cons {a:Addr} {c:List V} {us:List V} {cs:Cmds}:H a=some (.tup c)->gM H us cs->gM H (.ref a::us) (c::cs)
theorem gM.kt{H H':Hp}{us:List V}{cs:Cmds}(h:gM H us cs)(k:aL H H'):gM H' us cs:=by
 induction h with
 | nil=>exact .nil
 | cons a _ ih=>exact .cons (k _ _ a) ih
theorem gM.len{H:Hp}{us:List V}{cs:Cmds}(h:gM H us cs):us.length=cs.length:=by
 induction h with
 | nil=>rfl
 | cons _ _ ih=>simp[ih]
theorem gM.app{H:Hp}{us vs:List V}{ps qs:Cmds}(h:gM H us ps)(g:gM H vs qs):gM H (us++vs) (ps++qs):=by
 induction h with
 | nil=>exact g
 | cons e _ ih=>exact .cons e ih
theorem gM.at{H:Hp}{us:List V}{cs:Cmds}(h:gM H us cs):∀ {i:Nat} {v:V},us[i]?=some v->∃ a c,v=.ref a/\cs[i]?=some c/\H a=some (.tup c):=by
 induction h with
 | nil=>intro i v e;simp at e
 | cons x _ ih =>
  intro i v e;cases i with
  | zero=>simp only[List.getElem?_cons_zero,Option.some.injEq] at e;subst e;exact⟨_,_,rfl,rfl,x⟩
  | succ i=>exact ih (by simpa using e)
inductive Slp where
 | Zj|new|wait (ts:List Int)|Zp (k:Str)|ended (w:Wo)|worn
noncomputable def Slp.isN:Slp->Bool
 | .Zj=>true
 | _=>false
noncomputable def iD(H:Hp)(v:V):Slp->Prop
 | .Zj=>v=.Zj
 | .new=>∃ p,v=.ref p/\H p=some (.tup [.str "new"])
 | .wait ts=>∃ p p2,v=.ref p/\H p=some (.tup [.str "wait",.ref p2])/\H p2=some (.tup (ts.map V.int))
 | .Zp k=>∃ p,v=.ref p/\H p=some (.tup [.str "hear",.str k])
 | .ended w=>∃ p,v=.ref p/\H p=some (.tup [.str "ended",wv w])
 | .worn=>∃ p,v=.ref p/\H p=some (.tup [.str "worn"])
theorem iD.kt{H H':Hp}{v:V}{s:Slp}(h:iD H v s)(k:aL H H'):iD H' v s:=by
 cases s with
 | Zj=>exact h
 | wait ts=>obtain⟨p,p2,e,a,b⟩:=h;exact⟨p,p2,e,k _ _ a,k _ _ b⟩
 | _=>obtain⟨p,e,a⟩:=h;exact⟨p,e,k _ _ a⟩
theorem iD.isN{H:Hp}{v:V}{s:Slp}(h:iD H v s):(s.isN=true/\v=.Zj)\/(s.isN=false/\∃ p,v=.ref p):=by
 cases s with
 | Zj=>exact .inl ⟨rfl,h⟩
 | wait ts=>obtain⟨p,p2,e,a,b⟩:=h;exact .inr ⟨rfl,p,e⟩
 | _=>obtain⟨p,e,a⟩:=h;exact .inr ⟨rfl,p,e⟩
noncomputable def lT(l:List (Str×Wo)):List (Key×V):=l.map fun p=>(.inr p.1,wv p.2)
noncomputable def dO(l:List (Str×Wo))(n:Str)(w:Wo):List (Str×Wo):=if (l.any fun p=>decide (p.1=n))=true then l.map (fun p=>if p.1=n then (p.1,w) else p) else l++[(n,w)]
theorem mI(l:List (Str×Wo))(n:Str)(w:Wo):eL (lT l) (.inr n) (wv w)=lT (dO l n w):=by
 have e:((lT l).any fun kv=>decide (kv.1=Key.inr n))=(l.any fun p=>decide (p.1=n)):=by
  simp only[lT,List.any_map,Function.comp_def,Key.inr.injEq]
 unfold eL dO;rw[e];split
 ·simp only[lT,List.map_map,Function.comp_def,Key.inr.injEq];refine List.map_congr_left fun p _=>?_;by_cases h:p.1=n
  ·simp[h]
  ·simp[h]
 ·simp[lT]
theorem EJ(l:List (Str×Wo))(n:Str)(w:Wo):(dO l n w).length<=l.length+1:=by
 unfold dO;split
 ·rw[List.length_map];omega
 ·simp
noncomputable def kS:List (Str×Wo)->Str->Wo
 | [],_=>none
 | p::r,x=>if p.1=x then p.2 else kS r x
theorem xN:∀(l:List (Str×Wo)) (x:Str),(bT (lT l) (.inr x)).getD .Zj=wv (kS l x)
 | [],x=>rfl
 | p::r,x=>by
  have ih:=xN r x;show(bT ((Key.inr p.1,wv p.2)::lT r) (.inr x)).getD .Zj=_;by_cases h:p.1=x
  ·rw[cO (by rw[h]),kS,if_pos h];rfl
  ·rw[cD (fun z=>h (Key.inr.inj z)),kS,if_neg h];exact ih
theorem IK(l:List (Str×Wo))(n:Str)(w:Wo)(x:Str):kS (dO l n w) x=if x=n then w else kS l x:=by
 have h1:=xN (dO l n w) x;rw[<- mI,Bk] at h1;by_cases h:x=n
 ·rw[if_pos (by rw[h])] at h1;rw[if_pos h];exact(GK h1).symm
 ·rw[if_neg (fun z=>h (Key.inr.inj z)),xN] at h1;rw[if_neg h];exact(GK h1).symm
noncomputable def fT(l:List (Int×Wo)):Wo->Wo
 | none=>none
 | some i=>match l with
  | []=>none
  | p::r=>if p.1=i then p.2 else fT r (some i)
theorem yB:∀(l:List (Int×Wo)) (w:Wo),(bT (kO l) (wk w)).getD .Zj=wv (fT l w)
 | [],none=>rfl
 | [],some _=>rfl
 | p::r,none=>by
  have ih:=yB r none;show(bT ((Key.inl p.1,wv p.2)::kO r) .no).getD .Zj=_;rw[cD (by intro z;cases z)];rw[show fT (p::r) none=fT r none from by rw[fT,fT]];exact ih
 | p::r,some i=>by
  have ih:=yB r (some i);show(bT ((Key.inl p.1,wv p.2)::kO r) (.inl i)).getD .Zj=_;by_cases h:p.1=i
  ·rw[cO (by rw[h]),fT,if_pos h];rfl
  ·rw[cD (fun z=>h (Key.inl.inj z)),fT,if_neg h];exact ih
inductive kN(H:Hp):List (Key×V)->List Addr->List (Str×List Wo)->Prop
 | nil:kN H [] [] []
 | cons {a:Addr} {k:Str} {ws:List Wo} {kvs:List (Key×V)} {as:List Addr} {lt:List (Str×List Wo)}:H a=some (.lst (ws.map wv))->kN H kvs as lt->kN H ((.inr k,.ref a)::kvs) (a::as) ((k,ws)::lt)
theorem kN.keep{H H':Hp}{kvs:List (Key×V)}{as:List Addr}{lt:List (Str×List Wo)}(h:kN H kvs as lt)(k:∀ a∈as,∀ o,H a=some o->H' a=some o):kN H' kvs as lt:=by
 induction h with
 | nil=>exact .nil
 | cons e _ ih=>exact .cons (k _ (by simp) _ e) (ih fun a ha=>k a (List.mem_cons_of_mem _ ha))
theorem kN.ex{H:Hp}{kvs:List (Key×V)}{as:List Addr}{lt:List (Str×List Wo)}(h:kN H kvs as lt):∀ a∈as,∃ xs,H a=some (.lst xs):=by
 induction h with
 | nil=>intro a ha;simp at ha
 | cons e _ ih=>intro a ha;rcases List.mem_cons.mp ha with rfl|ha;exact⟨_,e⟩;exact ih a ha
theorem kN.len{H:Hp}{kvs:List (Key×V)}{as:List Addr}{lt:List (Str×List Wo)}(h:kN H kvs as lt):kvs.length=lt.length:=by
 induction h with
 | nil=>rfl
 | cons _ _ ih=>simp[ih]
noncomputable def cK:List (Str×List Wo)->Str->Option (List Wo)
 | [],_=>none
 | p::r,k=>if p.1=k then some p.2 else cK r k
noncomputable def fK:List (Str×List Wo)->Str->List Wo->List (Str×List Wo)
 | [],_,_=>[]
 | p::r,k,ws=>if p.1=k then (p.1,ws)::r else p::fK r k ws
theorem kN.look{H:Hp}{kvs:List (Key×V)}{as:List Addr}{lt:List (Str×List Wo)}(h:kN H kvs as lt)(k:Str):(bT kvs (.inr k)=none/\cK lt k=none) \/
    ∃ a ws,bT kvs (.inr k)=some (.ref a)/\cK lt k=some ws/\a∈as/\H a=some (.lst (ws.map wv)):=by
  induction h with
  | nil=>exact .inl ⟨rfl,rfl⟩
  | @cons a j ws kvs as lt e _ ih =>
    by_cases hj:j=k
    · subst hj;exact .inr ⟨a,ws,cO rfl,by simp[cK],by simp,e⟩
    · rcases ih with⟨x,y⟩|⟨b,vs,x,y,z,u⟩
      · exact .inl ⟨by rw[cD (fun z=>hj (Key.inr.inj z))];exact x,by simp[cK,hj,y]⟩
      · exact .inr ⟨b,vs,by rw[cD (fun z=>hj (Key.inr.inj z))];exact x,by simp[cK,hj,y],List.mem_cons_of_mem _ z,u⟩
theorem kN.set{H:Hp}{kvs:List (Key×V)}{as:List Addr}{lt:List (Str×List Wo)}(h:kN H kvs as lt){k:Str}{a:Addr}(r:List Wo)(hk:bT kvs (.inr k)=some (.ref a))(nd:as.Nodup):kN (Zh H a (.lst (r.map wv))) kvs as (fK lt k r):=by
 induction h with
 | nil=>cases hk
 | @cons b j ws kvs as lt e hr ih =>
  rw[List.nodup_cons] at nd;by_cases hj:j=k
  ·subst hj;rw[cO rfl] at hk;cases hk;rw[fK,if_pos rfl];exact .cons aA (hr.keep fun c hc o h=>by rw[aG (show c≠a from fun z=>nd.1 (by rw[<- z];exact hc))];exact h)
  ·rw[cD (fun z=>hj (Key.inr.inj z))] at hk;rw[fK,if_neg hj];have ha:a∈as:=by
    rcases hr.look k with⟨x,_⟩|⟨c,_,x,_,y,_⟩
    ·rw[x] at hk;cases hk
    ·rw[x] at hk;cases hk;exact y
   exact .cons (by rw[aG (show b≠a from fun z=>nd.1 (by rw[z];exact ha))];exact e) (ih hk nd.2)
theorem kN.snoc{H:Hp}{kvs:List (Key×V)}{as:List Addr}{lt:List (Str×List Wo)}(h:kN H kvs as lt){k:Str}{a:Addr}{ws:List Wo}(e:H a=some (.lst (ws.map wv))):kN H (kvs++[(.inr k,.ref a)]) (as++[a]) (lt++[(k,ws)]):=by
 induction h with
 | nil=>exact .cons e .nil
 | cons f _ ih=>exact .cons f ih
structure Pu where
 stk:Stk
 sl:Slp
 ar:Wo
 nw:Int
 nm:List (Str×Wo)
 made:Nat
 pend:List Int
 ans:List (Int×Wo)
 lt:List (Str×List Wo)
noncomputable def Pu.pl(S:Pu):Pl:=⟨kS S.nm,S.ar,S.nw,fT S.ans⟩
noncomputable def Pu.worth(S:Pu)(s:Say):Wo:=ev S.pl s
noncomputable def Pu.BG(S:Pu)(n:Str):Pu:={S with made:=S.made+1,pend:=S.pend++[(S.made:Int)],nm:=dO S.nm n (some (S.made:Int))}
noncomputable def Pu.pass(S:Pu):Pu:={S with stk:=iT S.stk}
noncomputable def Kg(nw:Int):Wo->Int
 | none=>if nw < 1000000000000 then nw else 1000000000000
 | some z=>if nw+(if z > 0 then z else 0) < 1000000000000 then nw+(if z > 0 then z else 0) else 1000000000000
noncomputable def Pu.ends(S:Pu)(w:Wo):Pu×Cmds:=({S with sl:=.ended w,pend:=[]},[[.str "end",wv w]])
noncomputable def Pu.Cu(S:Pu):Pu×Cmds:=({S with sl:=.worn,pend:=[]},[[.str "worn"]])
noncomputable def cA(ans:List (Int×Wo))(ws:List Wo):Wo:=(ans.find? fun p=>decide (some p.1∈ws)).map (·.1)
noncomputable def Ec(i:Int):List Int->List Int
 | []=>[i]
 | j::r=>if i < j then i::j::r else if i=j then j::r else j::Ec i r
noncomputable def cR(pend:List Int):List Wo->List Int
 | []=>[]
 | none::r=>cR pend r
 | some i::r=>if i∈pend then Ec i (cR pend r) else cR pend r
noncomputable def cT(S:Pu):Stm->Pu×Cmds
 | .set x s=>({S with nm:=dO S.nm x (S.worth s)},[])
 | .order x y s=>(S.BG x,[[.str "order",.int S.made,.str y,wv (S.worth s)]])
 | .child x y s=>(S.BG x,[[.str "child",.int S.made,.str y,wv (S.worth s)]])
 | .Zx x s=>(S.BG x,[[.str "timer",.int S.made,.int (Kg S.nw (S.worth s))]])
 | .send s k r=>(S,[[.str "send",wv (S.worth s),.str k,wv (S.worth r)]])
 | .drop s=>match S.worth s with
  | some i=>if i∈S.pend then ({S with pend:=S.pend.filter fun j=>decide (j≠i)},[[.str "drop",.int i]]) else (S,[])
  | none=>(S,[])
 | .Zp x k=>match (cK S.lt k).getD [] with
  | w::r=>({S with nm:=dO S.nm x w,lt:=fK S.lt k r},[])
  | []=>({S with sl:=.Zp k},[])
 | .wait x ss=>if cA S.ans (ss.map S.worth)=none/\cR S.pend (ss.map S.worth)≠[] then ({S with sl:=.wait (cR S.pend (ss.map S.worth))},[]) else ({S with nm:=dO S.nm x (cA S.ans (ss.map S.worth))},[])
 | .fin s=>S.ends (S.worth s)
 | .Z9 _ _=>(S,[])
 | .iff _ _ _=>(S,[])
noncomputable def Stm.isB:Stm->Bool
 | .Z9 _ _=>true
 | .iff _ _ _=>true
 | _=>false
noncomputable def Pu.enter(S:Pu)(c:Nat)(b:List Stm):Pu:={S with stk:=(c,b,0)::S.stk}
noncomputable def zX(S:Pu):Stm->Pu
 | .Z9 s b=>if num (S.worth s)=0 then S.pass else S.enter 0 b
 | .iff s b o=>if num (S.worth s)=0 then S.enter 1 o else S.enter 0 b
 | _=>S
noncomputable def one(S:Pu)(m:Stm):Pu×Cmds:=if m.isB=true then (zX S m,[]) else (if (cT S m).1.sl.isN=true then (cT S m).1.pass else (cT S m).1,(cT S m).2)
noncomputable def Pu.cG(S:Pu):Pu:={S with stk:=c7 S.stk}
noncomputable def iP:Nat->Pu->Pu×Cmds
 | 0,S=>match cI S.cG.stk with
  | none=>S.cG.ends none
  | some _=>S.cG.Cu
 | n+1,S=>match cI S.cG.stk with
  | none=>S.cG.ends none
  | some m=>if (one S.cG m).1.sl.isN=true then ((iP n (one S.cG m).1).1,(one S.cG m).2++(iP n (one S.cG m).1).2) else one S.cG m
noncomputable def Pu.wake(S:Pu)(w:Wo):Pu×Cmds:=match cI S.stk with
 | some (.Zp x _)=>iP 300 {S with nm:=dO S.nm x w,stk:=iT S.stk,sl:=.Zj}
 | some (.wait x _)=>iP 300 {S with nm:=dO S.nm x w,stk:=iT S.stk,sl:=.Zj}
 | _=>(S,[])
noncomputable def later(nw m:Int):Int:=if m > nw then m else nw
noncomputable def Say.sok(s:Say):Prop:=s.ok/\s.depth<=6
mutual
noncomputable def Stm.gd(wt:Bool):Stm->Prop
 | .set _ s=>s.sok
 | .order _ _ s=>s.sok
 | .child _ _ s=>s.sok
 | .Zx _ s=>s.sok
 | .send s _ r=>s.sok/\r.sok
 | .drop s=>s.sok
 | .wait _ ss=>wt=true/\ss.length<=4/\∀ s∈ss,s.sok
 | .Zp _ _=>True
 | .fin s=>s.sok
 | .Z9 s b=>s.sok/\rR wt b
 | .iff s b o=>s.sok/\rR wt b/\rR wt o
noncomputable def rR(wt:Bool):List Stm->Prop
 | []=>True
 | m::ms=>m.gd wt/\rR wt ms
end
theorem Fz{wt:Bool}:∀ {b:List Stm} {i:Nat} {m:Stm},rR wt b->b[i]?=some m->m.gd wt
 | [],_,_,_,h=>by simp at h
 | _::_,0,_,g,h=>by simp only[List.getElem?_cons_zero,Option.some.injEq] at h;subst h;simp only[rR] at g;exact g.1
 | _::b,i+1,_,g,h=>by simp only[rR] at g;exact Fz g.2 (by simpa using h)
theorem Fm:∀ {b:List Stm} {i:Nat} {m:Stm},b[i]?=some m->m.dp<=rQ b
 | [],_,_,h=>by simp at h
 | _::_,0,_,h=>by simp only[List.getElem?_cons_zero,Option.some.injEq] at h;subst h;simp only[rQ];omega
 | _::b,i+1,_,h=>by have:=Fm (b:=b) (by simpa using h);simp only[rQ];omega
noncomputable def YY:Stk->Prop
 | []=>True
 | (_,b,_)::r=>rQ b+r.length<=20/\YY r
structure Bo(wt:Bool)(st:Stk):Prop where
 ok:BP st
 gd:∀ x∈st,rR wt x.2.1
 dp:YY st
structure Zv(wt:Bool)(S:Pu)(N:Nat):Prop where
 nm:S.nm.length<=N
 md:S.made<=N
 pd:S.pend.length<=N
 an:S.ans.length<=N
 lt:S.lt.length<=N
 lw:∀ k ws,cK S.lt k=some ws->ws.length<=N/\∀ w∈ws,eZ w
 pl:S.pl.Ok
 nw:0<=S.nw/\S.nw<=1000000000000
 sk:Bo wt S.stk
 sl:(∀ k,S.sl=.Zp k->∃ x,cI S.stk=some (.Zp x k))/\∀ ts,S.sl=.wait ts->∃ x ss,cI S.stk=some (.wait x ss)
structure Cl where
 r:Addr
 w:Addr
 t:Addr
structure Rn where
 x:Addr
 dx:Addr
 wk:Addr
 wx:Addr
 lb:Addr
 ln:Addr
 nm:Addr
 tk:Addr
 tx:Addr
 dp:Addr
 da:Addr
 lt:Addr
noncomputable def Rn.cells(R:Rn):List Addr:=[R.x,R.lb,R.ln,R.nm,R.tk,R.dp,R.da,R.lt]
theorem iJ.keep{C:Addr}{H H':Hp}{wk wx lb ln:Addr}{st:Stk}(W:iJ C H wk wx lb ln st)(k1:∀ o,H wk=some o->H' wk=some o)(k2:∀ o,H lb=some o->H' lb=some o)(k3:∀ o,H ln=some o->H' ln=some o)(kt:aL H H'):iJ C H' wk wx lb ln st:=by
 obtain⟨vs,e,h⟩:=W.bl;exact⟨k1 _ W.ins,⟨vs,k2 _ e,h.kp kt⟩,k3 _ W.nu,W.ne,W.few⟩
theorem jA.keep{C:Addr}{H H':Hp}{tk tx dp da:Addr}{made:Nat}{pend:List Int}{ans:List (Int×Wo)}(T:jA C H tk tx dp da made pend ans)(k1:∀ o,H tk=some o->H' tk=some o)(k2:∀ o,H dp=some o->H' dp=some o)(k3:∀ o,H da=some o->H' da=some o):jA C H' tk tx dp da made pend ans :=
 ⟨k1 _ T.ins,k2 _ T.hp,k3 _ T.ha,T.nda,T.lt,T.asc,T.la,T.dis,T.small⟩
structure aY(C:Cl)(H:Hp)(R:Rn)(as:List Addr)(sl:V)(S:Pu):Prop where
 ins:H R.x=some (.ins C.r R.dx [("walk",.ref R.wk),("sleep",sl),("arg",wv S.ar),("now",.int S.nw),("names",.ref R.nm),("tickets",.ref R.tk),("letters",.ref R.lt)])
 slp:iD H sl S.sl
 wk:iJ C.w H R.wk R.wx R.lb R.ln S.stk
 tk:jA C.t H R.tk R.tx R.dp R.da S.made S.pend S.ans
 nm:H R.nm=some (.dK (lT S.nm))
 lt:∃ kvs,H R.lt=some (.dK kvs)/\kN H kvs as S.lt
 nas:as.Nodup
 ab:∀ a∈as,a≠R.lb/\a≠R.ln
 xw:R.x≠R.wk
 xt:R.x≠R.tk
 wt:R.wk≠R.tk
 n1:R.nm≠R.dp
 n2:R.nm≠R.da
 n3:R.nm≠R.lt
 n4:R.lt≠R.dp
 n5:R.lt≠R.da
theorem kA{H:Hp}{p b:Addr}{o u v:HO}(e:H p=some o)(h:H b=some v)(d:v≠o):Zh H p u b=some v:=by
 rw[aG (dZ h e d)];exact h
theorem aL.A7{H:Hp}{p:Addr}{o u:HO}(e:H p=some o)(d:∀ xs,o≠.tup xs):aL H (Zh H p u):=fun a xs h=>kA e h (d xs).symm
section
variable {C:Cl} {H H':Hp} {R:Rn} {as ZC:List Addr} {sl:V} {S:Pu}
theorem aY.keep(A:aY C H R as sl S)(k:∀ b o,H b=some o->b=R.wk\/b∈R.cells\/b∈as->H' b=some o)(kt:aL H H'):aY C H' R as sl S:=by
 obtain⟨kvs,e,L⟩:=A.lt;have c:∀ {b:Addr} {o:HO},b∈R.cells->H b=some o->H' b=some o:=fun {b o} h e=>k b o e (.inr (.inl h));exact {A with
  ins:=c (by simp[Rn.cells]) A.ins
  slp:=A.slp.kt kt
  wk:=A.wk.keep (fun o h=>k _ o h (.inl rfl)) (fun o h=>c (by simp[Rn.cells]) h) (fun o h=>c (by simp[Rn.cells]) h) kt
  tk:=A.tk.keep (fun o h=>c (by simp[Rn.cells]) h) (fun o h=>c (by simp[Rn.cells]) h) (fun o h=>c (by simp[Rn.cells]) h)
  nm:=c (by simp[Rn.cells]) A.nm
  lt:=⟨kvs,c (by simp[Rn.cells]) e,L.keep fun a ha o h=>k a o h (.inr (.inr ha))⟩}
theorem aY.kp(A:aY C H R as sl S)(k:Kp [] H H'):aY C H' R as sl S:=A.keep (fun _ _ h _=>k.at h) (aL.nil k)
theorem aY.cellK(A:aY C H R as sl S){b:Addr}(h:b∈R.cells\/b∈as):∃ o,H b=some o/\∀ xs,o≠.tup xs:=by
 obtain⟨kvs,e,L⟩:=A.lt;obtain⟨vs,el,_⟩:=A.wk.bl;rcases h with h|h
 ·simp only[Rn.cells,List.mem_cons,List.not_mem_nil,or_false] at h;rcases h with rfl|rfl|rfl|rfl|rfl|rfl|rfl|rfl
  ·exact⟨_,A.ins,fun _ z=>by cases z⟩
  ·exact⟨_,el,fun _ z=>by cases z⟩
  ·exact⟨_,A.wk.nu,fun _ z=>by cases z⟩
  ·exact⟨_,A.nm,fun _ z=>by cases z⟩
  ·exact⟨_,A.tk.ins,fun _ z=>by cases z⟩
  ·exact⟨_,A.tk.hp,fun _ z=>by cases z⟩
  ·exact⟨_,A.tk.ha,fun _ z=>by cases z⟩
  ·exact⟨_,e,fun _ z=>by cases z⟩
 ·obtain⟨xs,ex⟩:=L.ex b h;exact⟨_,ex,fun _ z=>by cases z⟩
structure Fw(R:Rn)(as ZC:List Addr)(H H':Hp):Prop where
 kp:∀ b o,H b=some o->b∉R.cells->b∉as->H' b=some o
 dom:∀ b o,H b=some o->∃ o',H' b=some o'
 new:∀ a∈ZC,a∈as\/H a=none
theorem Fw.refl:Fw R as as H H:=⟨fun _ _ h _ _=>h,fun _ o h=>⟨o,h⟩,fun _ h=>.inl h⟩
theorem Fw.free(F:Fw R as ZC H H'){c:Addr}(h:H' c=none):H c=none:=by
 cases z:H c with
 | none=>rfl
 | some o=>obtain⟨o',z'⟩:=F.dom c o z;rw[h] at z';cases z'
theorem Fw.trans{abU:List Addr}{H'':Hp}(a:Fw R as ZC H H')(b:Fw R ZC abU H' H''):Fw R as abU H H'' :=
  ⟨fun c o h n m=>b.kp c o (a.kp c o h n m) n (fun z=>by
      rcases a.new c z with y|y
      · exact m y
      · rw[h] at y;cases y),fun c o h=>(by obtain⟨o',h'⟩:=a.dom c o h;exact b.dom c o' h'),fun c h=>by
    rcases b.new c h with y|y
    · exact a.new c y
    · exact .inr (a.free y)⟩
theorem Fw.of(k:Kp [] H H'):Fw R as as H H':=⟨fun b o h _ _=>k.at h,fun b o h=>⟨o,k.at h⟩,fun _ h=>.inl h⟩
theorem Fw.set{p:Addr}{o:HO}(h:p∈R.cells\/p∈as):Fw R as as H (Zh H p o) :=
 ⟨fun b u e n m=>by rw[aG (fun z=>by rcases h with h|h;exact n (by rw[z];exact h);exact m (by rw[z];exact h))];exact e,fun b u e=>by by_cases z:b=p;exact⟨o,by rw[z,aA]⟩;exact⟨u,by rw[aG z];exact e⟩,fun _ h=>.inl h⟩
theorem Fw.ofD{D:List Addr}(k:Kp D H H')(h:∀ b∈D,b∈R.cells/\∃ o,H' b=some o):Fw R as as H H' :=
 ⟨fun b o e n _=>k b o e fun z=>n (h b z).1,fun b o e=>by by_cases z:b∈D;exact(h b z).2;exact⟨o,k b o e z⟩,fun _ h=>.inl h⟩
theorem Fw.fresh{c:Addr}{o:HO}(F:Fw R as ZC H H')(h:H c=none):Fw R as ZC H (Zh H' c o) :=
 ⟨fun b u e n m=>by rw[aG (aK e h)];exact F.kp b u e n m,fun b u e=>by rw[aG (aK e h)];exact F.dom b u e,F.new⟩
theorem aY.tkp(A:aY C H R as sl S)(F:Fw R as ZC H H'):aL H H':=fun b xs h=>F.kp b _ h (fun z=>by
    obtain⟨o,e,d⟩:=A.cellK (.inl z);rw[h] at e;exact d xs (Option.some.inj e).symm) fun z=>by
    obtain⟨o,e,d⟩:=A.cellK (.inr z);rw[h] at e;exact d xs (Option.some.inj e).symm
theorem aY.dH(A:aY C H R as sl S){c:Addr}(h:H c=none):c∉R.cells/\c∉as:=by
 refine⟨fun z=>?_,fun z=>?_⟩
 ·obtain⟨o,e,d⟩:=A.cellK (.inl z);rw[h] at e;cases e
 ·obtain⟨o,e,d⟩:=A.cellK (.inr z);rw[h] at e;cases e
theorem aY.attr(A:aY C H R as sl S)(Zz:V)(s':Slp)(ar':Wo)(nw':Int)(h:iD H Zz s'):aY C (Zh H R.x (.ins C.r R.dx [("walk",.ref R.wk),("sleep",Zz),("arg",wv ar'),("now",.int nw'),("names",.ref R.nm),("tickets",.ref R.tk),("letters",.ref R.lt)])) R as Zz {S with sl:=s',ar:=ar',nw:=nw'}:=by
 obtain⟨kvs,e,L⟩:=A.lt;obtain⟨vs,el,_⟩:=A.wk.bl;have kt:aL H (Zh H R.x (.ins C.r R.dx [("walk",.ref R.wk),("sleep",Zz),("arg",wv ar'),("now",.int nw'),("names",.ref R.nm),("tickets",.ref R.tk),("letters",.ref R.lt)])):=aL.A7 A.ins (by intro _ z;cases z);exact {A with
  ins:=aA
  slp:=h.kt kt
  wk:=A.wk.keep (fun o h=>by rw[aG A.xw.symm];exact h) (fun o h=>by rw[el] at h;cases h;exact kA A.ins el (by intro z;cases z)) (fun o h=>by rw[A.wk.nu] at h;cases h;exact kA A.ins A.wk.nu (by intro z;cases z)) kt
  tk:=A.tk.keep (fun o h=>by rw[aG A.xt.symm];exact h) (fun o h=>by rw[A.tk.hp] at h;cases h;exact kA A.ins A.tk.hp (by intro z;cases z)) (fun o h=>by rw[A.tk.ha] at h;cases h;exact kA A.ins A.tk.ha (by intro z;cases z))
  nm:=kA A.ins A.nm (by intro z;cases z)
  lt:=⟨kvs,kA A.ins e (by intro z;cases z),L.keep fun a ha o h=>by obtain⟨xs,ex⟩:=L.ex a ha;rw[ex] at h;cases h;exact kA A.ins ex (by intro z;cases z)⟩}
theorem aY.walk(A:aY C H R as sl S){st:Stk}(W:iJ C.w H' R.wk R.wx R.lb R.ln st)(k:Kp [R.lb,R.ln] H H'):aY C H' R as sl {S with stk:=st}:=by
 obtain⟨kvs,e,L⟩:=A.lt;obtain⟨vs,el,_⟩:=A.wk.bl;have at':∀ {b:Addr} {o:HO},H b=some o->(∀ xs,o≠.lst xs)->H' b=some o:=fun {b o} h d=>k b o h (by
  simp only[List.mem_cons,List.not_mem_nil,or_false,not_or];exact⟨dZ h el (d _),dZ h A.wk.nu (d _)⟩)
 have kt:aL H H':=fun b xs h=>at' h (by intro _ z;cases z);exact {A with
  ins:=at' A.ins (by intro _ z;cases z)
  slp:=A.slp.kt kt
  wk:=W
  tk:=⟨at' A.tk.ins (by intro _ z;cases z),at' A.tk.hp (by intro _ z;cases z),at' A.tk.ha (by intro _ z;cases z),A.tk.nda,A.tk.lt,A.tk.asc,A.tk.la,A.tk.dis,A.tk.small⟩
  nm:=at' A.nm (by intro _ z;cases z)
  lt:=⟨kvs,at' e (by intro _ z;cases z),L.keep fun a ha o h=>k a o h (by
   simp only[List.mem_cons,List.not_mem_nil,or_false,not_or];exact A.ab a ha)⟩}
theorem aY.zP(_:aY C H R as sl S){st:Stk}(W:iJ C.w H' R.wk R.wx R.lb R.ln st)(k:Kp [R.lb,R.ln] H H'):Fw R as as H H':=Fw.ofD k fun b hb=>by
 obtain⟨vs,el,_⟩:=W.bl;simp only[List.mem_cons,List.not_mem_nil,or_false] at hb;rcases hb with rfl|rfl
 ·exact⟨by simp[Rn.cells],_,el⟩
 ·exact⟨by simp[Rn.cells],_,W.nu⟩
theorem aY.tick(A:aY C H R as sl S){md:Nat}{pd:List Int}{an:List (Int×Wo)}(T:jA C.t H' R.tk R.tx R.dp R.da md pd an)(k:Kp [R.tk,R.dp,R.da] H H'):aY C H' R as sl {S with made:=md,pend:=pd,ans:=an}:=by
 obtain⟨kvs,e,L⟩:=A.lt;obtain⟨vs,el,_⟩:=A.wk.bl;have at':∀ {b:Addr} {o:HO},H b=some o->(∀ xs,o≠.dK xs)->(∀ C d f,o≠.ins C d f)->H' b=some o:=fun {b o} h d d2=>k b o h (by
  simp only[List.mem_cons,List.not_mem_nil,or_false,not_or];exact⟨dZ h A.tk.ins (d2 _ _ _),dZ h A.tk.hp (d _),dZ h A.tk.ha (d _)⟩)
 have iM:∀ {b:Addr} {o:HO},H b=some o->(∀ xs,o≠.dK xs)->b≠R.tk->H' b=some o:=fun {b o} h d d2=>k b o h (by
  simp only[List.mem_cons,List.not_mem_nil,or_false,not_or];exact⟨d2,dZ h A.tk.hp (d _),dZ h A.tk.ha (d _)⟩)
 have atD:∀ {b:Addr} {o:HO},H b=some o->(∀ C d f,o≠.ins C d f)->b≠R.dp->b≠R.da->H' b=some o:=fun {b o} h d d2 d3=>k b o h (by
  simp only[List.mem_cons,List.not_mem_nil,or_false,not_or];exact⟨dZ h A.tk.ins (d _ _ _),d2,d3⟩)
 have kt:aL H H':=fun b xs h=>at' h (by intro _ z;cases z) (by intro _ _ _ z;cases z);exact {A with
  ins:=iM A.ins (by intro _ z;cases z) A.xt
  slp:=A.slp.kt kt
  wk:=A.wk.keep (fun o h=>by rw[A.wk.ins] at h;cases h;exact iM A.wk.ins (by intro _ z;cases z) A.wt) (fun o h=>by rw[el] at h;cases h;exact at' el (by intro _ z;cases z) (by intro _ _ _ z;cases z)) (fun o h=>by rw[A.wk.nu] at h;cases h;exact at' A.wk.nu (by intro _ z;cases z) (by intro _ _ _ z;cases z)) kt
  tk:=T
  nm:=atD A.nm (by intro _ _ _ z;cases z) A.n1 A.n2
  lt:=⟨kvs,atD e (by intro _ _ _ z;cases z) A.n4 A.n5,L.keep fun a ha o h=>by obtain⟨xs,ex⟩:=L.ex a ha;rw[ex] at h;cases h;exact at' ex (by intro _ z;cases z) (by intro _ _ _ z;cases z)⟩}
theorem aY.D5(_:aY C H R as sl S){md:Nat}{pd:List Int}{an:List (Int×Wo)}(T:jA C.t H' R.tk R.tx R.dp R.da md pd an)(k:Kp [R.tk,R.dp,R.da] H H'):Fw R as as H H':=Fw.ofD k fun b hb=>by
 simp only[List.mem_cons,List.not_mem_nil,or_false] at hb;rcases hb with rfl|rfl|rfl
 ·exact⟨by simp[Rn.cells],_,T.ins⟩
 ·exact⟨by simp[Rn.cells],_,T.hp⟩
 ·exact⟨by simp[Rn.cells],_,T.ha⟩
theorem aY.name(A:aY C H R as sl S)(n:Str)(w:Wo):aY C (Zh H R.nm (.dK (lT (dO S.nm n w)))) R as sl {S with nm:=dO S.nm n w}:=by
 obtain⟨kvs,e,L⟩:=A.lt;obtain⟨vs,el,_⟩:=A.wk.bl;have at':∀ {b:Addr} {o:HO},H b=some o->(∀ xs,o≠.dK xs)->Zh H R.nm (.dK (lT (dO S.nm n w))) b=some o:=fun {b o} h d=>kA A.nm h (d _);have kt:aL H _:=fun b xs h=>at' h (by intro _ z;cases z);exact {A with
  ins:=at' A.ins (by intro _ z;cases z)
  slp:=A.slp.kt kt
  wk:=A.wk.keep (fun o h=>by rw[A.wk.ins] at h;cases h;exact at' A.wk.ins (by intro _ z;cases z)) (fun o h=>by rw[el] at h;cases h;exact at' el (by intro _ z;cases z)) (fun o h=>by rw[A.wk.nu] at h;cases h;exact at' A.wk.nu (by intro _ z;cases z)) kt
  tk:=A.tk.keep (fun o h=>by rw[A.tk.ins] at h;cases h;exact at' A.tk.ins (by intro _ z;cases z)) (fun o h=>by rw[aG A.n1.symm];exact h) (fun o h=>by rw[aG A.n2.symm];exact h)
  nm:=aA
  lt:=⟨kvs,by rw[aG A.n3.symm];exact e,L.keep fun a ha o h=>by obtain⟨xs,ex⟩:=L.ex a ha;rw[ex] at h;cases h;exact at' ex (by intro _ z;cases z)⟩}
theorem aY.BD(A:aY C H R as sl S){kvs:List (Key×V)}{k:Str}{l:Addr}(e:H R.lt=some (.dK kvs))(hk:bT kvs (.inr k)=some (.ref l))(r:List Wo):aY C (Zh H l (.lst (r.map wv))) R as sl {S with lt:=fK S.lt k r}/\l∈as:=by
 obtain⟨ac1,e',L⟩:=A.lt;rw[e] at e';cases e';obtain⟨vs,el,_⟩:=A.wk.bl;obtain⟨ws,hl,hla⟩:∃ ws:List Wo,H l=some (.lst (ws.map wv))/\l∈as:=by
  rcases L.look k with⟨x,_⟩|⟨c,ws,x,_,y,z⟩
  ·rw[x] at hk;cases hk
  ·rw[x] at hk;cases hk;exact⟨ws,z,y⟩
 have at':∀ {b:Addr} {o:HO},H b=some o->(∀ xs,o≠.lst xs)->Zh H l (.lst (r.map wv)) b=some o:=fun {b o} h d=>kA hl h (d _);have kt:aL H _:=fun b xs h=>at' h (by intro _ z;cases z);have nb:=A.ab l hla;refine⟨{A with
  ins:=at' A.ins (by intro _ z;cases z)
  slp:=A.slp.kt kt
  wk:=A.wk.keep (fun o h=>by rw[A.wk.ins] at h;cases h;exact at' A.wk.ins (by intro _ z;cases z)) (fun o h=>by rw[aG nb.1.symm];exact h) (fun o h=>by rw[aG nb.2.symm];exact h) kt
  tk:=A.tk.keep (fun o h=>by rw[A.tk.ins] at h;cases h;exact at' A.tk.ins (by intro _ z;cases z)) (fun o h=>by rw[A.tk.hp] at h;cases h;exact at' A.tk.hp (by intro _ z;cases z)) (fun o h=>by rw[A.tk.ha] at h;cases h;exact at' A.tk.ha (by intro _ z;cases z))
  nm:=at' A.nm (by intro _ z;cases z)
  lt:=⟨kvs,at' e (by intro _ z;cases z),L.set r hk A.nas⟩},hla⟩
theorem aY.Oz(A:aY C H R as sl S){kvs:List (Key×V)}{k:Str}{l:Addr}{ws:List Wo}(e:H R.lt=some (.dK kvs))(hk:bT kvs (.inr k)=none)(hl:H l=some (.lst (ws.map wv)))(n1:l∉R.cells)(n2:l∉as):aY C (Zh H R.lt (.dK (eL kvs (.inr k) (.ref l)))) R (as++[l]) sl {S with lt:=S.lt++[(k,ws)]}:=by
 obtain⟨ac1,e',L⟩:=A.lt;rw[e] at e';cases e';obtain⟨vs,el,_⟩:=A.wk.bl;have at':∀ {b:Addr} {o:HO},H b=some o->(∀ xs,o≠.dK xs)->Zh H R.lt (.dK (eL kvs (.inr k) (.ref l))) b=some o:=fun {b o} h d=>kA e h (d _);have kt:aL H _:=fun b xs h=>at' h (by intro _ z;cases z);exact {A with
  ins:=at' A.ins (by intro _ z;cases z)
  slp:=A.slp.kt kt
  wk:=A.wk.keep (fun o h=>by rw[A.wk.ins] at h;cases h;exact at' A.wk.ins (by intro _ z;cases z)) (fun o h=>by rw[el] at h;cases h;exact at' el (by intro _ z;cases z)) (fun o h=>by rw[A.wk.nu] at h;cases h;exact at' A.wk.nu (by intro _ z;cases z)) kt
  tk:=A.tk.keep (fun o h=>by rw[A.tk.ins] at h;cases h;exact at' A.tk.ins (by intro _ z;cases z)) (fun o h=>by rw[aG A.n4.symm];exact h) (fun o h=>by rw[aG A.n5.symm];exact h)
  nm:=by rw[aG A.n3];exact A.nm
  lt:=⟨_,aA,by
   rw[AH _ hk];exact(L.keep fun a ha o h=>by obtain⟨xs,ex⟩:=L.ex a ha;rw[ex] at h;cases h;exact kA e ex (by intro z;cases z)).snoc (kA e hl (by intro z;cases z))⟩
  nas:=List.nodup_append.mpr ⟨A.nas,by simp,fun a ha b hb=>by rw[show b=l by simpa using hb];exact fun z=>n2 (by rw[<- z];exact ha)⟩
  ab:=fun a ha=>by
   rcases List.mem_append.mp ha with ha|ha
   ·exact A.ab a ha
   ·rw[show a=l by simpa using ha];exact⟨fun z=>n1 (by simp[Rn.cells,z]),fun z=>n1 (by simp[Rn.cells,z])⟩}
theorem aY.other(A:aY C H R as sl S){c:Addr}{us vs:List V}(hc:H c=some (.lst us))(n1:c∉R.cells)(n2:c∉as):aY C (Zh H c (.lst vs)) R as sl S :=
 A.keep (fun b o h m=>by
  rw[aG (fun z=>by
   rcases m with m|m|m
   ·rw[z] at m;rw[m,A.wk.ins] at hc;cases hc
   ·exact n1 (by rw[<- z];exact m)
   ·exact n2 (by rw[<- z];exact m))]
  exact h) (aL.A7 hc (by intro _ z;cases z))
end
theorem put2{H:Hp}{x p:Addr}{o o' u:HO}(hx:H x=some u)(hp:H p=none):Zh (Zh H p o) x o' x=some o'/\Zh (Zh H p o) x o' p=some o/\Kp [x] H (Zh (Zh H p o) x o')/\x≠p:=by
 have n:x≠p:=aK hx hp;exact⟨aA,by rw[aG n.symm];exact aA,(Kp.new hp).trans (Kp.set (by simp)),n⟩
theorem cV{H:Hp}{a p:Addr}{o:HO}(h:Zh H a o p=none):H p=none:=by
 by_cases e:p=a
 ·subst e;rw[aA] at h;cases h
 ·rwa [aG e] at h
noncomputable def Told(C:Cl)(R:Rn)(as ZC:List Addr)(H:Hp)(Q:VK)(z:Pu×Cmds):Prop:=∀(sl:V) (c:Addr) (us:List V) (H':Hp),aY C H' R ZC sl z.1->H c=none->H' c=some (.lst us)->gM H' us z.2->Fw R as ZC H H'->Q (.ref c) H'
noncomputable def Mt(C:Cl):Sp:=fun vs H Q _=>∃(R:Rn) (as:List Addr) (sl:V) (S:Pu) (v:V) (s:Say),vs=[.ref R.x,v]/\aY C H R as sl S/\S.pl.Ok/\dE H v s/\s.sok/\Q (wv (S.worth s)) H
noncomputable def Uq(C:Cl):Sp:=fun vs H Q _=>∃(R:Rn) (as:List Addr) (sl:V) (S:Pu) (n:Str),vs=[.ref R.x,.str n]/\aY C H R as sl S/\S.made < 1000000/\S.pend.length < 1000000/\S.nm.length<=1000000/\∀ H',aY C H' R as sl (S.BG n)->Fw R as as H H'->Q (.int S.made) H'
noncomputable def Up(C:Cl):Sp:=fun vs H Q _=>∃(R:Rn) (as:List Addr) (sl:V) (S:Pu) (w:Wo),vs=[.ref R.x,wv w]/\aY C H R as sl S/\Told C R as as H Q (S.ends w)
noncomputable def Uw(C:Cl):Sp:=fun vs H Q _=>∃(R:Rn) (as:List Addr) (sl:V) (S:Pu),vs=[.ref R.x]/\aY C H R as sl S/\Told C R as as H Q S.Cu
noncomputable def dP(C:Cl)(wt:Bool)(g:Stm->Prop):Sp:=fun vs H Q _=>∃(R:Rn) (as:List Addr) (sl:V) (S:Pu) (a:V) (m:Stm) (N:Nat),vs=[.ref R.x,a]/\aY C H R as sl S/\S.sl=.Zj/\cL H a m/\g m/\Zv wt S N/\m.gd wt/\N<=900000/\Told C R as as H Q (cT S m)
noncomputable def O4(C:Cl)(wt:Bool):Sp:=fun vs H Q _=>∃(R:Rn) (as:List Addr) (sl:V) (S:Pu) (a:V) (m:Stm) (N:Nat),vs=[.ref R.x,a]/\aY C H R as sl S/\cL H a m/\m.isB=true/\Zv wt S N/\m.gd wt/\cI S.stk=some m/\∀ H',aY C H' R as sl (zX S m)->Fw R as as H H'->Q .Zj H'
noncomputable def Ur(C:Cl)(wt:Bool):Sp:=fun vs H Q _=>∃(R:Rn) (as:List Addr) (sl:V) (S:Pu) (a:V) (m:Stm) (N:Nat),vs=[.ref R.x,a]/\aY C H R as sl S/\S.sl=.Zj/\cL H a m/\Zv wt S N/\m.gd wt/\cI S.stk=some m/\N<=900000/\Told C R as as H Q (one S m)
noncomputable def Xm(C:Cl)(wt:Bool):Sp:=fun vs H Q _=>∃(R:Rn) (as:List Addr) (sl:V) (S:Pu) (N:Nat),vs=[.ref R.x]/\aY C H R as sl S/\Zv wt {S with sl:=.Zj} N/\N<=800000/\Told C R as as H Q (iP 300 {S with sl:=.Zj})
noncomputable def O5(C:Cl):Sp:=fun vs H Q _=>∃(R:Rn) (as:List Addr) (sl:V) (S:Pu),vs=[.ref R.x]/\aY C H R as sl S/\S.pend.length<=1000000/\∀ l,H l=none->Q (.ref l) (Zh H l (.lst (S.pend.map V.int)))
theorem PV{wt:Bool}{S:Pu}{N:Nat}(F:Zv wt S N){s:Say}(h:s.sok):eZ (S.worth s):=PR F.pl h.1
theorem Oy{y:Str}{a:Sp}{r:List (Str×Sp)}:List.lookup y ((y,a)::r)=some a:=by simp only[List.lookup,beq_self_eq_true]
theorem nF{a b:String}{s:Sp}{r:List (Str×Sp)}(h:a≠b):List.lookup (Str.ofString a) ((Str.ofString b,s)::r)=List.lookup (Str.ofString a) r:=by
 have:((Str.ofString a:Str)==Str.ofString b)=false:=beq_eq_false_iff_ne.mpr fun z=>h (by rwa [mV] at z);simp only[List.lookup,this]
theorem Ox{y k:Str}{a sp:Sp}{r:List (Str×Sp)}(h:List.lookup y ((k,a)::r)=some sp):(y=k/\sp=a)\/List.lookup y r=some sp:=by
 simp only[List.lookup] at h;split at h
 ·next z=>cases h;exact .inl ⟨eq_of_beq z,rfl⟩
 ·exact .inr h
theorem gG{st:Stk}{m:Stm}(h:cI st=some m):∃ k b n r,st=(k,b,n)::r/\b[n]?=some m:=by
 match st,h with
 | (k,b,n)::r,h=>exact⟨k,b,n,r,rfl,h⟩
theorem yY(S:Pu)(m:Stm):(cT S m).1.stk=S.stk:=by
 cases m<;>simp only[cT,Pu.BG,Pu.ends]
 ·split
  ·split<;>rfl
  ·rfl
 ·split<;>rfl
 ·split<;>rfl
theorem DS{wt:Bool}:∀ st,Bo wt st->Bo wt (c7 st)
 | [],h=>h.ok.elim
 | [x],h=>by simp only[c7];exact h
 | (k,b,n)::(k2,b2,n2)::r,h=>by
  rw[c7];split
  ·have o:=h.ok.2 (k2,b2,n2) (by simp);exact DS ((k2,b2,Al b2 n2)::r) ⟨⟨Ez o,fun x hx=>h.ok.2 x (List.mem_cons_of_mem _ hx)⟩,fun x hx=>by
    rcases List.mem_cons.mp hx with rfl|hx
    ·exact h.gd (k2,b2,n2) (by simp)
    ·exact h.gd x (by simp[hx]),⟨h.dp.2.1,h.dp.2.2⟩⟩
  ·exact h
termination_by st=>st.length
theorem Zv.cG{wt:Bool}{S:Pu}{N:Nat}(F:Zv wt S N)(h:S.sl=.Zj):Zv wt S.cG N :=
 {F with sk:=DS _ F.sk,sl:=⟨fun k e=>(by rw[show S.cG.sl=S.sl from rfl,h] at e;cases e),fun k e=>(by rw[show S.cG.sl=S.sl from rfl,h] at e;cases e)⟩}
theorem Zv.more{wt:Bool}{S:Pu}{N M:Nat}(F:Zv wt S N)(h:N<=M):Zv wt S M :=
 {F with nm:=Nat.le_trans F.nm h,md:=Nat.le_trans F.md h,pd:=Nat.le_trans F.pd h,an:=Nat.le_trans F.an h,lt:=Nat.le_trans F.lt h,lw:=fun k ws e=>⟨Nat.le_trans (F.lw k ws e).1 h,(F.lw k ws e).2⟩}
theorem Bo.pass{wt:Bool}{st:Stk}{m:Stm}(G:Bo wt st)(h:cI st=some m):Bo wt (iT st):=by
 obtain⟨k,b,n,r,rfl,hm⟩:=gG h;have hn:=(List.getElem?_eq_some_iff.mp hm).1;exact⟨⟨hn,G.ok.2⟩,fun x hx=>by
  rcases List.mem_cons.mp hx with rfl|hx
  ·exact G.gd (k,b,n) (by simp)
  ·exact G.gd x (by simp[hx]),G.dp⟩
theorem Bo.enter{wt:Bool}{st:Stk}{m:Stm}{c:Nat}{bb:List Stm}(G:Bo wt st)(h:cI st=some m)(hg:rR wt bb)(hd:rQ bb+1<=m.dp):Bo wt ((c,bb,0)::st):=by
 obtain⟨k,b,n,r,rfl,hm⟩:=gG h;have hn:=(List.getElem?_eq_some_iff.mp hm).1;have h2:=Fm hm;have h3:=G.dp.1;refine⟨⟨Nat.zero_le _,fun x hx=>?_⟩,fun x hx=>?_,?_,G.dp⟩
 ·rcases List.mem_cons.mp hx with rfl|hx
  ·exact hn
  ·exact G.ok.2 x hx
 ·rcases List.mem_cons.mp hx with rfl|hx
  ·exact hg
  ·exact G.gd x hx
 ·simp only[List.length_cons];omega
theorem Zv.stm{wt:Bool}{S:Pu}{N:Nat}(F:Zv wt S N){m:Stm}(h:cI S.stk=some m):m.gd wt:=by
 obtain⟨k,b,n,r,e,hm⟩:=gG h;exact Fz (F.sk.gd (k,b,n) (by rw[e];simp)) hm
theorem LS{S:Pu}(h:S.pl.Ok)(n:Str){w:Wo}(hw:eZ w):({S with nm:=dO S.nm n w}:Pu).pl.Ok :=
 ⟨fun x=>by show eZ (kS (dO S.nm n w) x);rw[IK];split;exact hw;exact h.nm x,h.ar,h.an⟩
theorem uL:∀(l:List (Str×List Wo)) (k:Str) (r:List Wo) (j:Str) (ws:List Wo),cK (fK l k r) j=some ws->(j=k/\ws=r)\/cK l j=some ws
 | [],_,_,_,_,h=>by simp[fK,cK] at h
 | p::l,k,r,j,ws,h=>by
  by_cases e:p.1=k
  ·rw[fK,if_pos e,cK] at h;by_cases e2:p.1=j
   ·rw[if_pos e2] at h;cases h;exact .inl ⟨by rw[<- e2,e],rfl⟩
   ·rw[if_neg e2] at h;exact .inr (by rw[cK,if_neg e2];exact h)
  ·rw[fK,if_neg e,cK] at h;by_cases e2:p.1=j
   ·rw[if_pos e2] at h;exact .inr (by rw[cK,if_pos e2];exact h)
   ·rw[if_neg e2] at h;rcases uL l k r j ws h with x|x
    ·exact .inl x
    ·exact .inr (by rw[cK,if_neg e2];exact x)
theorem AZ:∀(l:List (Str×List Wo)) (k:Str) (r:List Wo),(fK l k r).length=l.length
 | [],_,_=>rfl
 | p::l,k,r=>by
  rw[fK];split
  ·rfl
  ·simp[AZ l k r]
theorem C1{ans:List (Int×Wo)}{ws:List Wo}(h:∀ w∈ws,eZ w):eZ (cA ans ws):=by
 unfold cA;cases e:ans.find? fun p=>decide (some p.1∈ws) with
 | none=>exact j9
 | some p =>
  have:=List.find?_some e;exact h _ (by simpa using this)
theorem B0{α:Type}{p:α->Bool}{l:List α}:(l.filter p).length<=l.length:=List.length_filter_le p l
theorem Zv.cT{wt:Bool}{S:Pu}{N:Nat}(F:Zv wt S N){m:Stm}(h:cI S.stk=some m)(hs:S.sl=.Zj)(hN:N<=900000):Zv wt (cT S m).1 (N+1):=by
 have g:=F.stm h;have F1:=F.more (Nat.le_succ N);have ZA:(∀ k,S.sl=.Zp k->∃ x,cI S.stk=some (.Zp x k))/\∀ ts,S.sl=.wait ts->∃ x ss,cI S.stk=some (.wait x ss):=F.sl;have put:∀(n:Str) {w:Wo},eZ w->Zv wt {S with nm:=dO S.nm n w} (N+1):=fun n w hw =>
  {F1 with nm:=by (have:=EJ S.nm n w;have:=F.nm;show(dO S.nm n w).length<=N+1;omega),pl:=LS F.pl n hw}
 have BG:∀ n,Zv wt (S.BG n) (N+1):=fun n =>
  have hw:eZ (some (S.made:Int)):=cM (by omega) (by have:=F.md;omega)
  {F1 with
   nm:=(put n hw).nm
   pl:=(put n hw).pl
   md:=(by have:=F.md;show S.made+1<=N+1;omega)
   pd:=(by have:=F.pd;show(S.pend++[(S.made:Int)]).length<=N+1;rw[List.length_append];simp;exact this)}
 cases m with
 | set x s=>exact put x (PV F g)
 | order x y s=>exact BG x
 | child x y s=>exact BG x
 | Zx x s=>exact BG x
 | send s k r=>exact F1
 | drop s =>
  simp only[Own.cT];split
  ·split
   ·exact {F1 with pd:=Nat.le_trans B0 (Nat.le_succ_of_le F.pd)}
   ·exact F1
  ·exact F1
 | wait x ss =>
  simp only[Own.cT];split
  ·exact {F1 with sl:=⟨fun k e=>(by cases e),fun ts e=>⟨x,ss,h⟩⟩}
  ·exact put x (C1 fun w hw=>by
    obtain⟨s,hs',rfl⟩:=List.mem_map.mp hw;exact PV F (g.2.2 s hs'))
 | Zp x k =>
  simp only[Own.cT];split
  ·next w r e =>
   obtain⟨ws,el,rfl⟩:∃ ws,cK S.lt k=some ws/\ws=w::r:=by
    cases el:cK S.lt k with
    | none=>rw[el] at e;cases e
    | some ws=>rw[el] at e;exact⟨ws,rfl,e⟩
   have hl:=F.lw k _ el;exact {put x (hl.2 w (by simp)) with
    lt:=(by have:=F.lt;show(fK S.lt k r).length<=N+1;rw[AZ];omega)
    lw:=fun j vs hj=>by
     rcases uL S.lt k r j vs hj with⟨_,rfl⟩|z
     ·exact⟨by have:=hl.1;simp only[List.length_cons] at this;omega,fun w hw=>hl.2 w (List.mem_cons_of_mem _ hw)⟩
     ·exact F1.lw j vs z}
  ·exact {F1 with sl:=⟨fun k' e=>(by cases e;exact⟨x,h⟩),fun ts e=>(by cases e)⟩}
 | fin s=>exact {F1 with pd:=Nat.zero_le _,sl:=⟨fun k e=>(by cases e),fun k e=>(by cases e)⟩}
 | Z9 s b=>exact F1
 | iff s b o=>exact F1
theorem C4{s:Slp}(h:s.isN=true):s=.Zj:=by cases s<;>first|rfl|cases h
theorem Zv.one{wt:Bool}{S:Pu}{N:Nat}(F:Zv wt S N){m:Stm}(h:cI S.stk=some m)(hs:S.sl=.Zj)(hN:N<=900000):Zv wt (one S m).1 (N+1):=by
 have g:=F.stm h;have F1:=F.more (Nat.le_succ N);have adO:∀ {st:Stk},Zv wt {S with stk:=st} (N+1)->Zv wt {S with stk:=st} (N+1):=fun z=>z;have pass:∀ {S':Pu},Zv wt S' (N+1)->S'.sl=.Zj->S'.stk=S.stk->Zv wt S'.pass (N+1):=fun {S'} z a b =>
  {z with sk:=(by have:=z.sk;rw[b] at this;show Bo wt (iT S'.stk);rw[b];exact this.pass h),sl:=⟨fun k e=>(by rw[show S'.pass.sl=S'.sl from rfl,a] at e;cases e),fun k e=>(by rw[show S'.pass.sl=S'.sl from rfl,a] at e;cases e)⟩}
 have enter:∀(c:Nat) (bb:List Stm),rR wt bb->rQ bb+1<=m.dp->Zv wt (S.enter c bb) (N+1):=fun c bb hg hd =>
  {F1 with sk:=F.sk.enter h hg hd,sl:=⟨fun k e=>(by rw[show(S.enter c bb).sl=S.sl from rfl,hs] at e;cases e),fun k e=>(by rw[show(S.enter c bb).sl=S.sl from rfl,hs] at e;cases e)⟩}
 by_cases hB:m.isB=true
 ·simp only[Own.one,if_pos hB];cases m with
  | Z9 s b =>
   simp only[zX];split
   ·exact pass F1 hs rfl
   ·exact enter 0 b g.2 (by simp[Stm.dp])
  | iff s b o =>
   simp only[zX];split
   ·exact enter 1 o g.2.2 (by simp[Stm.dp];omega)
   ·exact enter 0 b g.2.1 (by simp[Stm.dp];omega)
  | _=>cases hB
 ·simp only[Own.one,if_neg hB];have D:=F.cT h hs hN;split
  ·next z=>exact pass D (C4 z) (yY S m)
  ·exact D
theorem TF{S:Pu}{m:Stm}(h:m.isB=false):one S m=(if (cT S m).1.sl.isN=true then (cT S m).1.pass else (cT S m).1,(cT S m).2):=by simp[one,h]
theorem P4{S:Pu}{m:Stm}(h:m.isB=true):one S m=(zX S m,[]):=by simp[one,h]
theorem mE{s0 s1 s2 s3 s4 s5 s6 s7 s8:Sp}:List.lookup (Str.ofString "set") [((Str.ofString "set":Str),s0),((Str.ofString "order":Str),s1),((Str.ofString "timer":Str),s2),((Str.ofString "child":Str),s3),((Str.ofString "send":Str),s4),((Str.ofString "drop":Str),s5),((Str.ofString "wait":Str),s6),((Str.ofString "hear":Str),s7),((Str.ofString "end":Str),s8)]=some s0:=by rw[Oy]
theorem gS{s0 s1 s2 s3 s4 s5 s6 s7 s8:Sp}:List.lookup (Str.ofString "order") [((Str.ofString "set":Str),s0),((Str.ofString "order":Str),s1),((Str.ofString "timer":Str),s2),((Str.ofString "child":Str),s3),((Str.ofString "send":Str),s4),((Str.ofString "drop":Str),s5),((Str.ofString "wait":Str),s6),((Str.ofString "hear":Str),s7),((Str.ofString "end":Str),s8)]=some s1:=by rw[nF (by decide),Oy]
theorem gT{s0 s1 s2 s3 s4 s5 s6 s7 s8:Sp}:List.lookup (Str.ofString "timer") [((Str.ofString "set":Str),s0),((Str.ofString "order":Str),s1),((Str.ofString "timer":Str),s2),((Str.ofString "child":Str),s3),((Str.ofString "send":Str),s4),((Str.ofString "drop":Str),s5),((Str.ofString "wait":Str),s6),((Str.ofString "hear":Str),s7),((Str.ofString "end":Str),s8)]=some s2:=by rw[nF (by decide),nF (by decide),Oy]
theorem gR{s0 s1 s2 s3 s4 s5 s6 s7 s8:Sp}:List.lookup (Str.ofString "child") [((Str.ofString "set":Str),s0),((Str.ofString "order":Str),s1),((Str.ofString "timer":Str),s2),((Str.ofString "child":Str),s3),((Str.ofString "send":Str),s4),((Str.ofString "drop":Str),s5),((Str.ofString "wait":Str),s6),((Str.ofString "hear":Str),s7),((Str.ofString "end":Str),s8)]=some s3:=by rw[nF (by decide),nF (by decide),nF (by decide),Oy]
theorem jF{s0 s1 s2 s3 s4 s5 s6 s7 s8:Sp}:List.lookup (Str.ofString "send") [((Str.ofString "set":Str),s0),((Str.ofString "order":Str),s1),((Str.ofString "timer":Str),s2),((Str.ofString "child":Str),s3),((Str.ofString "send":Str),s4),((Str.ofString "drop":Str),s5),((Str.ofString "wait":Str),s6),((Str.ofString "hear":Str),s7),((Str.ofString "end":Str),s8)]=some s4:=by rw[nF (by decide),nF (by decide),nF (by decide),nF (by decide),Oy]
theorem jD{s0 s1 s2 s3 s4 s5 s6 s7 s8:Sp}:List.lookup (Str.ofString "drop") [((Str.ofString "set":Str),s0),((Str.ofString "order":Str),s1),((Str.ofString "timer":Str),s2),((Str.ofString "child":Str),s3),((Str.ofString "send":Str),s4),((Str.ofString "drop":Str),s5),((Str.ofString "wait":Str),s6),((Str.ofString "hear":Str),s7),((Str.ofString "end":Str),s8)]=some s5:=by rw[nF (by decide),nF (by decide),nF (by decide),nF (by decide),nF (by decide),Oy]
theorem jG{s0 s1 s2 s3 s4 s5 s6 s7 s8:Sp}:List.lookup (Str.ofString "wait") [((Str.ofString "set":Str),s0),((Str.ofString "order":Str),s1),((Str.ofString "timer":Str),s2),((Str.ofString "child":Str),s3),((Str.ofString "send":Str),s4),((Str.ofString "drop":Str),s5),((Str.ofString "wait":Str),s6),((Str.ofString "hear":Str),s7),((Str.ofString "end":Str),s8)]=some s6:=by rw[nF (by decide),nF (by decide),nF (by decide),nF (by decide),nF (by decide),nF (by decide),Oy]
theorem jE{s0 s1 s2 s3 s4 s5 s6 s7 s8:Sp}:List.lookup (Str.ofString "hear") [((Str.ofString "set":Str),s0),((Str.ofString "order":Str),s1),((Str.ofString "timer":Str),s2),((Str.ofString "child":Str),s3),((Str.ofString "send":Str),s4),((Str.ofString "drop":Str),s5),((Str.ofString "wait":Str),s6),((Str.ofString "hear":Str),s7),((Str.ofString "end":Str),s8)]=some s7:=by rw[nF (by decide),nF (by decide),nF (by decide),nF (by decide),nF (by decide),nF (by decide),nF (by decide),Oy]
theorem mD{s0 s1 s2 s3 s4 s5 s6 s7 s8:Sp}:List.lookup (Str.ofString "end") [((Str.ofString "set":Str),s0),((Str.ofString "order":Str),s1),((Str.ofString "timer":Str),s2),((Str.ofString "child":Str),s3),((Str.ofString "send":Str),s4),((Str.ofString "drop":Str),s5),((Str.ofString "wait":Str),s6),((Str.ofString "hear":Str),s7),((Str.ofString "end":Str),s8)]=some s8:=by rw[nF (by decide),nF (by decide),nF (by decide),nF (by decide),nF (by decide),nF (by decide),nF (by decide),nF (by decide),Oy]
theorem deeds9{Z:Str->Sp->Prop}{y:Str}{sp s0 s1 s2 s3 s4 s5 s6 s7 s8:Sp}(h:List.lookup y [((Str.ofString "set":Str),s0),((Str.ofString "order":Str),s1),((Str.ofString "timer":Str),s2),((Str.ofString "child":Str),s3),((Str.ofString "send":Str),s4),((Str.ofString "drop":Str),s5),((Str.ofString "wait":Str),s6),((Str.ofString "hear":Str),s7),((Str.ofString "end":Str),s8)]=some sp)(z0:Z "set" s0)(z1:Z "order" s1)(z2:Z "timer" s2)(z3:Z "child" s3)(z4:Z "send" s4)(z5:Z "drop" s5)(z6:Z "wait" s6)(z7:Z "hear" s7)(z8:Z "end" s8):Z y sp:=by
 rcases Ox h with⟨rfl,rfl⟩|h
 ·exact z0
 rcases Ox h with⟨rfl,rfl⟩|h
 ·exact z1
 rcases Ox h with⟨rfl,rfl⟩|h
 ·exact z2
 rcases Ox h with⟨rfl,rfl⟩|h
 ·exact z3
 rcases Ox h with⟨rfl,rfl⟩|h
 ·exact z4
 rcases Ox h with⟨rfl,rfl⟩|h
 ·exact z5
 rcases Ox h with⟨rfl,rfl⟩|h
 ·exact z6
 rcases Ox h with⟨rfl,rfl⟩|h
 ·exact z7
 rcases Ox h with⟨rfl,rfl⟩|h
 ·exact z8
 cases h
theorem dY{S:Pu}(h:cI S.cG.stk=none)(n:Nat):iP n S=S.cG.ends none:=by
 cases n<;>simp only[iP,h]
theorem jR{S:Pu}{m:Stm}(h:cI S.cG.stk=some m):iP 0 S=S.cG.Cu:=by simp only[iP,h]
theorem pM{S:Pu}{m:Stm}(h:cI S.cG.stk=some m)(z:(one S.cG m).1.sl.isN=true)(n:Nat):iP (n+1) S=((iP n (one S.cG m).1).1,(one S.cG m).2++(iP n (one S.cG m).1).2):=by simp only[iP,h,z,if_true]
theorem jQ{S:Pu}{m:Stm}(h:cI S.cG.stk=some m)(z:(one S.cG m).1.sl.isN=false)(n:Nat):iP (n+1) S=one S.cG m:=by simp only[iP,h,z,if_false,Bool.false_eq_true]
theorem DV(S:Pu)(m:Stm):(cT S m).2.length<=1:=by
 cases m<;>simp only[cT,Pu.ends,List.length_cons,List.length_nil,Nat.zero_le,Nat.le_refl,Nat.zero_add]
 ·split
  ·split<;>simp
  ·simp
 ·split<;>simp
 ·split<;>simp
theorem OJ(S:Pu)(m:Stm):(one S m).2.length<=1:=by
 unfold one;split
 ·simp
 ·exact DV S m
inductive Hap where
 | beg (m:Int) (w:Wo)|don (m t:Int) (w:Wo)|ltr (m:Int) (k:Str) (w:Wo)
noncomputable def Hap.ini:Hap->List V
 | .beg m _=>[.str "begin",.int m]
 | .don m t _=>[.str "done",.int m,.int t]
 | .ltr m k _=>[.str "letter",.int m,.str k]
noncomputable def Hap.w:Hap->Wo
 | .beg _ w | .don _ _ w | .ltr _ _ w=>w
noncomputable def Hap.vs(h:Hap):List V:=h.ini++[wv h.w]
noncomputable def Hap.m:Hap->Int
 | .beg m _ | .don m _ _ | .ltr m _ _=>m
noncomputable def nG(H:Hp)(v:V)(h:Hap):Prop:=∃ a,v=.ref a/\H a=some (.tup h.vs)
theorem nG.kp{S:List Addr}{H H':Hp}{v:V}{h:Hap}(x:nG H v h)(k:Kp [] H H'):nG H' v h:=by
 obtain⟨a,e,f⟩:=x;exact⟨a,e,k.at f⟩
noncomputable def Pu.over(S:Pu)(h:Hap):Bool:=match S.sl with
 | .new=>(match h with
  | .beg _ _=>false
  | _=>true)
 | .ended _=>true
 | .worn=>true
 | _=>(match h with
  | .beg _ _=>true
  | .don _ i _=>!decide (i∈S.pend)
  | .ltr _ _ _=>false)
noncomputable def gY(l:List (Str×List Wo))(k:Str)(w:Wo):List (Str×List Wo):=match cK l k with
 | some ws=>fK l k (ws++[w])
 | none=>l++[(k,[w])]
noncomputable def Pu.at'(S:Pu)(m:Int):Pu:={S with nw:=later S.nw m}
noncomputable def Pu.done(S:Pu)(i:Int)(w:Wo):Pu:={S with pend:=S.pend.filter fun j=>decide (j≠i),ans:=S.ans++[(i,w)]}
noncomputable def Pu.gZ(S:Pu)(i:Int)(w:Wo):Pu×Cmds:=match S.sl with
 | .wait ts=>if i∈ts then (S.done i w).wake (some i) else (S.done i w,[])
 | _=>(S.done i w,[])
noncomputable def Pu.iI(S:Pu)(k:Str)(w:Wo):Pu×Cmds:=match S.sl with
 | .Zp k'=>if k'=k then S.wake w else ({S with lt:=gY S.lt k w},[])
 | _=>({S with lt:=gY S.lt k w},[])
noncomputable def Pu.take(S:Pu)(h:Hap):Pu×Cmds:=if S.over h=true then (S,[]) else match h with
 | .beg m w=>iP 300 {S with nw:=later S.nw m,ar:=w,sl:=.Zj}
 | .don m i w=>(S.at' m).gZ i w
 | .ltr m k w=>(S.at' m).iI k w
noncomputable def dS(b:List Stm):Pu:=⟨[(0,b,0)],.new,none,0,[],0,[],[],[]⟩
noncomputable def Us(C:Cl):Sp:=fun vs H Q _=>∃(R:Rn) (as:List Addr) (sl:V) (S:Pu) (v:V) (h:Hap),vs=[.ref R.x,v]/\aY C H R as sl S/\S.sl.isN=false/\nG H v h/\∀ H',Kp [] H H'->Q (.bl (S.over h)) H'
noncomputable def Pc(C:Cl)(wt:Bool):Sp:=fun vs H Q _=>∃(R:Rn) (as:List Addr) (sl:V) (S:Pu) (w:Wo) (N:Nat),vs=[.ref R.x,wv w]/\aY C H R as sl S/\Zv wt S N/\N<=700000/\eZ w/\((∃ k,S.sl=.Zp k)\/∃ ts,S.sl=.wait ts)/\Told C R as as H Q (S.wake w)
noncomputable def O9(C:Cl)(wt:Bool):Sp:=fun vs H Q _=>∃(R:Rn) (as:List Addr) (sl:V) (S:Pu) (i:Int) (w:Wo) (N:Nat),vs=[.ref R.x,.int i,wv w]/\aY C H R as sl S/\Zv wt S N/\N<=600000/\eZ w/\i∈S.pend/\S.sl.isN=false/\Told C R as as H Q (S.gZ i w)
noncomputable def Pz(C:Cl)(R:Rn)(as ZC:List Addr)(H:Hp)(Q:VK)(z:Pu×Cmds):Prop:=∀(sl:V) (c:Addr) (us:List V) (H':Hp),aY C H' R ZC sl z.1->H c=none->c∉ZC->H' c=some (.lst us)->gM H' us z.2->Fw R as ZC H H'->Q (.ref c) H'
noncomputable def Uv(C:Cl)(wt:Bool):Sp:=fun vs H Q _=>∃(R:Rn) (as:List Addr) (sl:V) (S:Pu) (k:Str) (w:Wo) (N:Nat),vs=[.ref R.x,.str k,wv w]/\aY C H R as sl S/\Zv wt S N/\N<=600000/\eZ w/\((∃ k,S.sl=.Zp k)\/∃ ts,S.sl=.wait ts)/\∀ ZC,Pz C R as ZC H Q (S.iI k w)
noncomputable def Pa(C:Cl)(wt:Bool):Sp:=fun vs H Q _=>∃(R:Rn) (as:List Addr) (sl:V) (S:Pu) (v:V) (h:Hap) (N:Nat),vs=[.ref R.x,v]/\aY C H R as sl S/\Zv wt S N/\N<=500000/\S.sl.isN=false/\nG H v h/\((0<=h.m/\h.m<=1000000000000)/\eZ h.w)/\∀ ZC,Pz C R as ZC H Q (S.take h)
noncomputable def HJ(C:Cl):Sp:=fun vs H Q _=>∃(x dx pg:Addr) (us:List V) (b:List Stm),vs=[.ref x,.ref pg]/\H x=some (.ins C.r dx [])/\H pg=some (.tup us)/\bF H us b /\
 ∀(R:Rn) (sl:V) (H':Hp),R.x=x->aY C H' R [] sl (dS b)->Kp [x] H H'->(∀ a∈R.cells,a=x\/H a=none)->Q .Zj H'
theorem Ou(i:Int)(ts:List Int):wU (.int i) (ts.map V.int)=decide (i∈ts):=by
 rw[Bool.eq_iff_iff];simp[wU,sF]
theorem Iw(ts:List Int):(ts.map V.int).all cS=true:=by simp[cS]
theorem Oq{K:q0B}{H:Hp}{a b:Addr}{z x y:Str}(n:Nat)(ha:H a=some (.tup [.str z,.str x]))(hb:H b=some (.tup [.str z,.str y])):mW K H (n+1) a b (decide (x=y)):=by
 have:=mW.tup (K:=K) (H:=H) (n:=n) (e:=fun j=>if j=0 then true else decide (x=y)) (fO.of ha) (fO.of hb) fun j u v e1 e2=>by
  rcases j with _|_|j
  ·simp only[List.getElem?_cons_zero,Option.some.injEq] at e1 e2;subst e1 e2;have:=pC.flat (K:=K) (H:=H) (n:=n) (x:=.str z) (y:=.str z) rfl rfl
   rwa [show sF (.str z) (.str z)=true by simp[sF]] at this
  ·simp only[List.getElem?_cons_succ,List.getElem?_cons_zero,Option.some.injEq] at e1 e2;subst e1 e2;have:=pC.flat (K:=K) (H:=H) (n:=n) (x:=.str x) (y:=.str y) rfl rfl
   rwa [Hc] at this
  ·simp at e1
 rw[show((List.range (min [V.str z,V.str x].length [V.str z,V.str y].length)).all (fun j=>if j=0 then true else decide (x=y))&&[V.str z,V.str x].length==[V.str z,V.str y].length)=decide (x=y) by simp[List.range_succ]] at this;exact this
theorem Zv.at'{wt:Bool}{S:Pu}{N:Nat}(F:Zv wt S N){m:Int}(h:0<=m/\m<=1000000000000):Zv wt (S.at' m) N :=
 {F with pl:=⟨F.pl.nm,F.pl.ar,F.pl.an⟩,nw:=(by have:=F.nw;show 0<=later S.nw m/\later S.nw m<=1000000000000;unfold later;split<;>omega)}
theorem zW{i:Int}{w:Wo}:∀(l:List (Int×Wo)) (x:Wo),fT (l++[(i,w)]) x=fT l x\/fT (l++[(i,w)]) x=w
 | _,none=>.inl (by simp[fT])
 | [],some j=>by
  by_cases h:i=j
  ·exact .inr (by simp[fT,h])
  ·exact .inl (by simp[fT,h])
 | p::r,some j=>by
  by_cases h:p.1=j
  ·exact .inl (by simp[fT,h])
  ·rcases zW (i:=i) (w:=w) r (some j) with z|z
   ·exact .inl (by simp[fT,h,z])
   ·exact .inr (by simp[fT,h,z])
theorem Zv.done{wt:Bool}{S:Pu}{N:Nat}(F:Zv wt S N){i:Int}{w:Wo}(hw:eZ w):Zv wt (S.done i w) (N+1) :=
 {F.more (Nat.le_succ N) with
  pd:=Nat.le_trans B0 (Nat.le_succ_of_le F.pd)
  an:=(by have:=F.an;show(S.ans++[(i,w)]).length<=N+1;simp;exact this)
  pl:=⟨F.pl.nm,F.pl.ar,fun x=>(by
   show eZ (fT (S.ans++[(i,w)]) x);rcases zW (i:=i) (w:=w) S.ans x with z|z
   ·rw[z];exact F.pl.an x
   ·rw[z];exact hw)⟩}
theorem zZ{k:Str}{ws:List Wo}:∀(l:List (Str×List Wo)) (j:Str) (vs:List Wo),cK (l++[(k,ws)]) j=some vs->(j=k/\vs=ws)\/cK l j=some vs
 | [],j,vs,h=>by
  rw[List.nil_append,cK] at h;by_cases e:k=j
  ·rw[if_pos e] at h;cases h;exact .inl ⟨e.symm,rfl⟩
  ·rw[if_neg e] at h;cases h
 | p::r,j,vs,h=>by
  rw[List.cons_append,cK] at h;by_cases e:p.1=j
  ·rw[if_pos e] at h;exact .inr (by rw[cK,if_pos e];exact h)
  ·rw[if_neg e] at h;rcases zZ r j vs h with z|z
   ·exact .inl z
   ·exact .inr (by rw[cK,if_neg e];exact z)
theorem Zv.gY{wt:Bool}{S:Pu}{N:Nat}(F:Zv wt S N){k:Str}{w:Wo}(hw:eZ w):Zv wt {S with lt:=gY S.lt k w} (N+1):=by
 have F1:=F.more (Nat.le_succ N);unfold Own.gY;cases e:cK S.lt k with
 | some ws =>
  have hl:=F.lw k ws e;exact {F1 with
   lt:=(by have:=F.lt;show(fK S.lt k (ws++[w])).length<=N+1;rw[AZ];omega)
   lw:=fun j vs h=>by
    rcases uL S.lt k _ j vs h with⟨_,rfl⟩|z
    ·exact⟨by have:=hl.1;simp;exact this,fun u hu=>by
      rcases List.mem_append.mp hu with hu|hu
      ·exact hl.2 u hu
      ·rw[show u=w by simpa using hu];exact hw⟩
    ·exact F1.lw j vs z}
 | none =>
  exact {F1 with
   lt:=(by have:=F.lt;show(S.lt++[(k,[w])]).length<=N+1;simp;exact this)
   lw:=fun j vs h=>by
    rcases zZ S.lt j vs h with⟨_,rfl⟩|z
    ·exact⟨by simp,fun u hu=>by rw[show u=w by simpa using hu];exact hw⟩
    ·exact F1.lw j vs z}
theorem Du{k:Str}{a b:List Wo}:∀ {l:List (Str×List Wo)},cK l k=none->fK (l++[(k,a)]) k b=l++[(k,b)]
 | [],_=>by simp[fK]
 | p::r,h=>by
  rw[cK] at h;by_cases e:p.1=k
  ·rw[if_pos e] at h;cases h
  ·rw[if_neg e] at h;rw[List.cons_append,fK,if_neg e,Du h];rfl
theorem Zv.wake{wt:Bool}{S:Pu}{N:Nat}(F:Zv wt S N){m:Stm}(h:cI S.stk=some m){w:Wo}(hw:eZ w)(n:Str):Zv wt {S with nm:=dO S.nm n w,stk:=iT S.stk,sl:=.Zj} (N+1) :=
 {F.more (Nat.le_succ N) with
  nm:=(by have:=EJ S.nm n w;have:=F.nm;show(dO S.nm n w).length<=N+1;omega)
  pl:=(LS F.pl n hw)
  sk:=F.sk.pass h
  sl:=⟨fun k e=>(by cases e),fun k e=>(by cases e)⟩}
theorem YE{x:Addr}{H G:Hp}{p:Addr}{u:HO}(k:Kp [x] H G)(gx:G x=some u)(hp:G p=none):H p=none:=by
 cases z:H p with
 | none=>rfl
 | some o =>
  by_cases hz:p=x
  ·subst hz;rw[gx] at hp;cases hp
  ·rw[k.at1 z hz] at hp;cases hp
theorem OD{C:Addr}{H1:Hp}{pg:Addr}{us:List V}{b:List Stm}{Q:Addr->Hp->Prop}{E:XK}(ep:H1 pg=some (.tup us))(hs:bF H1 us b)
    (q:∀ x wx lb ln H',Kp [] H1 H'->H1 x=none->H1 lb=none->H1 ln=none->iJ C H' x wx lb ln [(0,b,0)]->Q x H') :
    ∀ x dx,H1 x=none->H1 dx=none->dx≠x->EW C [.ref x,.ref pg] (Zh (Zh H1 dx (.own x)) x (.ins C dx [])) (fun v H2=>v=.Zj/\Q x H2) E:=fun x dx hx hdx ne=>by
  have K1:Kp [] H1 (Zh (Zh H1 dx (.own x)) x (.ins C dx [])):=(Kp.new hdx).trans (Kp.new (by rw[aG ne.symm];exact hx));exact⟨x,dx,pg,us,b,rfl,aA,K1.at ep,hs.kp (aL.nil K1),fun lb ln H' f1 f2 W K=>⟨rfl,q x dx lb ln H' (Kp.drop ((K1.mono (by simp)).trans K) hx) hx (cV (cV f1)) (cV (cV f2)) W⟩⟩
theorem WW{C:Addr}{H1:Hp}{Q:Addr->Hp->Prop}{E:XK}
    (q:∀ x tx dp da H',Kp [] H1 H'->H1 x=none->H1 dp=none->H1 da=none->jA C H' x tx dp da 0 [] []->Q x H') :
    ∀ x dx,H1 x=none->H1 dx=none->dx≠x->EV C [.ref x] (Zh (Zh H1 dx (.own x)) x (.ins C dx [])) (fun v H2=>v=.Zj/\Q x H2) E:=fun x dx hx hdx ne=>by
  have K1:Kp [] H1 (Zh (Zh H1 dx (.own x)) x (.ins C dx [])):=(Kp.new hdx).trans (Kp.new (by rw[aG ne.symm];exact hx));exact⟨x,dx,rfl,aA,fun dp da H' f1 f2 T K=>⟨rfl,q x dx dp da H' (Kp.drop ((K1.mono (by simp)).trans K) hx) hx (cV (cV f1)) (cV (cV f2)) T⟩⟩
theorem LI{C:Cl}{H1:Hp}{pg:Addr}{us:List V}{b:List Stm}{Q:Addr->Hp->Prop}{E:XK}(ep:H1 pg=some (.tup us))(hs:bF H1 us b)
    (q:∀(R:Rn) (sl:V) H',aY C H' R [] sl (dS b)->Kp [] H1 H'->(∀ a∈R.cells,H1 a=none)->Q R.x H') :
    ∀ x dx,H1 x=none->H1 dx=none->dx≠x->HJ C [.ref x,.ref pg] (Zh (Zh H1 dx (.own x)) x (.ins C.r dx [])) (fun v H2=>v=.Zj/\Q x H2) E:=fun x dx hx hdx ne=>by
  have K1:Kp [] H1 (Zh (Zh H1 dx (.own x)) x (.ins C.r dx [])):=(Kp.new hdx).trans (Kp.new (by rw[aG ne.symm];exact hx));refine⟨x,dx,pg,us,b,rfl,aA,K1.at ep,hs.kp (aL.nil K1),fun R sl H' e1 A K M=>⟨rfl,?_⟩⟩;subst e1;exact q R sl H' A (Kp.drop ((K1.mono (by simp)).trans K) hx) fun a ha=>by
    rcases M a ha with rfl|z
    · exact hx
    · exact cV (cV z)
noncomputable def Jt(C:Addr):Sp:=fun vs H Q _=>∃(tk tx dp da l:Addr) (made:Nat) (pend:List Int) (ans:List (Int×Wo)) (ws:List Wo),vs=[.ref tk,.ref l]/\jA C H tk tx dp da made pend ans/\H l=some (.lst (ws.map wv))/\ws.length<=4/\ans.length<=1000000/\∀ H',Kp [] H H'->Q (wv (cA ans ws)) H'
noncomputable def Lw(ans:List (Int×Wo))(w:Wo):Bool:=ans.any fun p=>decide (w=some p.1)
noncomputable def bP(ans:List (Int×Wo)):List Wo->List Int
 | []=>[]
 | none::r=>bP ans r
 | some i::r=>if Lw ans (some i)=true then i::bP ans r else bP ans r
theorem MV(ans:List (Int×Wo))(w:Wo):(bT (kO ans) (wk w)).isSome=Lw ans w:=by
 induction ans with
 | nil=>simp[kO,E3,Lw]
 | cons p r ih =>
  have e:kO (p::r)=(Key.inl p.1,wv p.2)::kO r:=rfl;rw[e];by_cases h:w=some p.1
  ·subst h;rw[show wk (some p.1)=Key.inl p.1 from rfl,cO rfl];simp[Lw]
  ·rw[cD (fun z=>h (by cases w with
    | none=>cases z
    | some j=>cases z;rfl)),ih]
   simp[Lw,h]
theorem Lx(ans:List (Int×Wo)):Lw ans none=false:=by simp[Lw]
theorem uE(ans:List (Int×Wo)):∀(l r:List Wo),bP ans (l++r)=bP ans l++bP ans r
 | [],r=>rfl
 | none::l,r=>by simp only[List.cons_append,bP,uE ans l r]
 | some i::l,r=>by
  simp only[List.cons_append,bP,uE ans l r];split<;>simp
theorem Fl{ans:List (Int×Wo)}{ws:List Wo}{i:Nat}{w:Wo}(e:ws[i]?=some w):(bP ans (ws.take (i+1))).map V.int=if Lw ans w=true then (bP ans (ws.take i)).map V.int++[wv w] else (bP ans (ws.take i)).map V.int:=by
 rw[List.take_add_one,e];simp only[Option.toList_some,uE,List.map_append];cases w with
 | none=>rw[Lx];simp[bP]
 | some j =>
  simp only[bP];split<;>simp[wv]
theorem pJ(ans:List (Int×Wo)):∀ ws:List Wo,(bP ans ws).length<=ws.length
 | []=>Nat.le_refl _
 | none::r=>by have:=pJ ans r;simp only[bP,List.length_cons];omega
 | some i::r=>by
  have:=pJ ans r;simp only[bP,List.length_cons];split
  ·simp only[List.length_cons];omega
  ·omega
theorem lO{ans:List (Int×Wo)}{i:Int}:∀ {ws:List Wo},i∈bP ans ws↔Lw ans (some i)=true/\some i∈ws
 | []=>by simp[bP]
 | none::r=>by simp[bP,lO (ws:=r)]
 | some j::r=>by
  have ih:=lO (ans:=ans) (i:=i) (ws:=r);simp only[bP];split
  ·next h =>
   simp only[List.mem_cons,ih,Option.some.injEq];constructor
   ·rintro(rfl|⟨a,b⟩)
    ·exact⟨h,.inl rfl⟩
    ·exact⟨a,.inr b⟩
   ·rintro⟨a,b|b⟩
    ·exact .inl b
    ·exact .inr ⟨a,b⟩
  ·next h =>
   rw[ih];simp only[List.mem_cons,Option.some.injEq];constructor
   ·rintro⟨a,b⟩;exact⟨a,.inr b⟩
   ·rintro⟨a,b|b⟩
    ·subst b;exact absurd a h
    ·exact⟨a,b⟩
theorem Eb(i:Int):∀ ns:List Int,wU (.int i) (ns.map V.int)=decide (i∈ns)
 | []=>by simp[wU]
 | n::r=>by
  have ih:=Eb i r;simp only[wU,List.map_cons,List.any_cons] at ih ⊢;rw[ih];by_cases h:n=i
  ·subst h;simp[sF]
  ·have:sF (V.int n) (V.int i)=false:=by simp[sF,h]
   rw[this];simp[Ne.symm h]
theorem zM{α:Type}{p q:α->Bool}:∀ {l:List α},(∀ x∈l,p x=q x)->l.find? p=l.find? q
 | [],_=>rfl
 | x::l,h=>by
  simp only[List.find?,h x (by simp),zM fun y hy=>h y (List.mem_cons_of_mem _ hy)]
theorem zN(ans:List (Int×Wo))(ws:List Wo):cA ans ws=((ans.map (·.1)).filter fun i=>decide (i∈bP ans ws)).head?:=by
 unfold cA;rw[List.head?_filter,List.find?_map]
 congr 1
 refine zM fun p hp=>?_;have:Lw ans (some p.1)=true:=by simp only[Lw,List.any_eq_true];exact⟨p,hp,by simp⟩
 simp only[Function.comp,lO,this,true_and]
theorem Ax{val:Nat->Int}{j:Int}:∀ {n:Nat},j∈once val n↔∃ k,k < n/\val k=j
 | 0=>by simp[once]
 | n+1=>by
  have ih:=Ax (val:=val) (j:=j) (n:=n);have up:(∃ k,k < n+1/\val k=j)↔(∃ k,k < n/\val k=j)\/val n=j:=by
   constructor
   ·rintro⟨k,hk,e⟩;by_cases h:k=n
    ·subst h;exact .inr e
    ·exact .inl ⟨k,by omega,e⟩
   ·rintro(⟨k,hk,e⟩|e)
    ·exact⟨k,by omega,e⟩
    ·exact⟨n,by omega,e⟩
  rw[up,once];split
  ·next h =>
   rw[ih];constructor
   ·exact .inl
   ·rintro(z|z)
    ·exact z
    ·subst z;exact Ax.mp h
  ·simp only[List.mem_append,List.mem_singleton,ih];constructor
   ·rintro(z|z)
    ·exact .inl z
    ·exact .inr z.symm
   ·rintro(z|z)
    ·exact .inl z
    ·exact .inr z.symm
theorem pQ{ns:List Int}{j:Int}:j∈nB ns↔j∈ns:=by
 unfold nB;rw[Ax,List.mem_iff_getElem];constructor
 ·rintro⟨k,hk,e⟩;exact⟨k,hk,by rw[List.getD_eq_getElem?_getD,List.getElem?_eq_getElem hk] at e;exact e⟩
 ·rintro⟨k,hk,e⟩;exact⟨k,hk,by rw[List.getD_eq_getElem?_getD,List.getElem?_eq_getElem hk];exact e⟩
theorem LX{ns:List Int}(h:(nB ns).length < 2){i j:Int}(hi:i∈ns)(hj:j∈ns):i=j:=by
 have a:=pQ.mpr hi;have b:=pQ.mpr hj
 match e:nB ns,h with
 | [],_=>rw[e] at a;cases a
 | [x],_ =>
  rw[e] at a b;rw[List.mem_singleton.mp a,List.mem_singleton.mp b]
theorem Iu{ans:List (Int×Wo)}{ws:List Wo}(h:(nB (bP ans ws)).length < 2):cA ans ws=(bP ans ws).head?:=by
 rw[zN];cases e:bP ans ws with
 | nil=>simp
 | cons i r =>
  have hi:i∈bP ans ws:=by rw[e];simp
  have he:∀ j∈bP ans ws,j=i:=fun j hj=>LX h hj hi;obtain⟨p,hp,ep⟩:=List.any_eq_true.mp (lO.mp hi).1;have ep:i=p.1:=by simpa using ep
  show _=some i;have hm:i∈((ans.map (·.1)).filter fun j=>decide (j∈i::r)):=List.mem_filter.mpr ⟨List.mem_map.mpr ⟨p,hp,ep.symm⟩,by simp⟩;cases z:((ans.map (·.1)).filter fun j=>decide (j∈i::r)) with
  | nil=>rw[z] at hm;cases hm
  | cons x xs =>
   have hx:x∈((ans.map (·.1)).filter fun j=>decide (j∈i::r)):=by rw[z];simp
   have:=he x (by rw[e];simpa using(List.mem_filter.mp hx).2);rw[this];rfl
theorem Fv{ans:List (Int×Wo)}{ws:List Wo}(h:¬ (nB (bP ans ws)).length < 2):∃ i r,((ans.map (·.1)).filter fun i=>decide (i∈bP ans ws))=i::r/\cA ans ws=some i:=by
 have hf:=zN ans ws;cases z:((ans.map (·.1)).filter fun i=>decide (i∈bP ans ws)) with
 | cons i r=>rw[z] at hf;exact⟨i,r,rfl,hf⟩
 | nil =>
  exfalso;cases e:nB (bP ans ws) with
  | nil=>rw[e] at h;exact h (by simp)
  | cons i r =>
   have hi:i∈bP ans ws:=pQ.mp (by rw[e];simp);obtain⟨p,hp,ep⟩:=List.any_eq_true.mp (lO.mp hi).1;have ep:i=p.1:=by simpa using ep
   have hm:i∈((ans.map (·.1)).filter fun i=>decide (i∈bP ans ws)):=List.mem_filter.mpr ⟨List.mem_map.mpr ⟨p,hp,ep.symm⟩,by simpa using hi⟩;rw[z] at hm;cases hm
theorem gD.atW{H:Hp}{vs:List V}{ss:List Say}(h:gD H vs ss):∀ {i:Nat} {x:V},vs[i]?=some x->∃ y,ss[i]?=some y/\dE H x y:=by
 induction h with
 | nil=>intro i x e;simp at e
 | cons h _ ih =>
  intro i x e;cases i with
  | zero=>simp only[List.getElem?_cons_zero,Option.some.injEq] at e;subst e;exact⟨_,rfl,h⟩
  | succ i=>exact ih (by simpa using e)
theorem gD.WR{H:Hp}{vs:List V}{ss:List Say}(h:gD H vs ss):vs.length=ss.length:=by
 induction h with
 | nil=>rfl
 | cons _ _ ih=>simp[ih]
noncomputable def eA(pend:List Int):List Wo->List Int
 | []=>[]
 | none::r=>eA pend r
 | some i::r=>if i∈pend then i::eA pend r else eA pend r
theorem vD(pend:List Int):∀(l r:List Wo),eA pend (l++r)=eA pend l++eA pend r
 | [],r=>rfl
 | none::l,r=>by simp only[List.cons_append,eA,vD pend l r]
 | some i::l,r=>by
  simp only[List.cons_append,eA,vD pend l r];split<;>simp
theorem Gf{pend:List Int}{ws:List Wo}{i:Nat}{w:Wo}(e:ws[i]?=some w):(eA pend (ws.take (i+1))).map V.int=if decide (∃ j∈pend,w=some j)=true then (eA pend (ws.take i)).map V.int++[wv w] else (eA pend (ws.take i)).map V.int:=by
 rw[List.take_add_one,e];simp only[Option.toList_some,vD,List.map_append];cases w with
 | none=>simp[eA]
 | some j =>
  by_cases h:j∈pend
  ·simp[eA,h,wv]
  ·simp[eA,h]
theorem lP(pend:List Int):∀ ws:List Wo,(eA pend ws).length<=ws.length
 | []=>Nat.le_refl _
 | none::r=>by have:=lP pend r;simp only[eA,List.length_cons];omega
 | some i::r=>by
  have:=lP pend r;simp only[eA,List.length_cons];split
  ·simp only[List.length_cons];omega
  ·omega
theorem Ab{i j:Int}:∀ {l:List Int},j∈Ec i l↔j=i\/j∈l
 | []=>by simp[Ec]
 | k::r=>by
  have ih:=Ab (i:=i) (j:=j) (l:=r);simp only[Ec];split
  ·simp
  ·split
   ·next h =>
    subst h;simp only[List.mem_cons];constructor
    ·exact .inr
    ·rintro(z|z)
     ·exact .inl z
     ·exact z
   ·simp only[List.mem_cons,ih];constructor
    ·rintro(z|z|z)
     ·exact .inr (.inl z)
     ·exact .inl z
     ·exact .inr (.inr z)
    ·rintro(z|z|z)
     ·exact .inr (.inl z)
     ·exact .inl z
     ·exact .inr (.inr z)
theorem Ed{i:Int}:∀ {l:List Int},l.Pairwise (· < ·)->(Ec i l).Pairwise (· < ·)
 | [],_=>by simp[Ec]
 | k::r,h=>by
  obtain⟨h1,h2⟩:=List.pairwise_cons.mp h;simp only[Ec];split
  ·next c=>exact List.pairwise_cons.mpr ⟨fun x hx=>by
    rcases List.mem_cons.mp hx with rfl|hx
    ·exact c
    ·have:=h1 x hx;omega,h⟩
  ·split
   ·exact h
   ·exact List.pairwise_cons.mpr ⟨fun x hx=>by
     rcases Ab.mp hx with rfl|hx
     ·omega
     ·exact h1 x hx,Ed h2⟩
theorem kE(pend:List Int):∀ ws:List Wo,(cR pend ws).Pairwise (· < ·)
 | []=>.nil
 | none::r=>kE pend r
 | some i::r=>by
  simp only[cR];split
  ·exact Ed (kE pend r)
  ·exact kE pend r
theorem qW{pend:List Int}{j:Int}:∀ {ws:List Wo},j∈cR pend ws↔j∈eA pend ws
 | []=>by simp[cR,eA]
 | none::r=>by simp only[cR,eA];exact qW
 | some i::r=>by
  have ih:=qW (pend:=pend) (j:=j) (ws:=r);simp only[cR,eA];split
  ·rw[Ab,ih,List.mem_cons]
  ·exact ih
theorem Ay(val:Nat->Int):∀ n,(once val n).Nodup
 | 0=>by simp[once]
 | n+1=>by
  have ih:=Ay val n;rw[once];split
  ·exact ih
  ·next h=>exact List.nodup_append.mpr ⟨ih,by simp,fun a ha b hb=>by
    rw[List.mem_singleton.mp hb];exact fun z=>h (z▸ha)⟩
theorem EE{pend:List Int}{ws:List Wo}{ns:List Int}(hp:ns.Perm (nB (eA pend ws)))(hs:ns.Pairwise (·<=·)):ns=cR pend ws:=by
 refine wH (hp.trans ?_) hs (kE pend ws);refine(List.perm_ext_iff_of_nodup (Ay _ _) ((kE pend ws).imp fun h=>by omega)).mpr fun j=>?_;show j∈nB _↔_;rw[pQ,qW]
inductive fN(H:Hp):List V->List (V×V)->Prop
 | nil:fN H [] []
 | cons {a:Addr} {x y:V} {us:List V} {ps:List (V×V)}:H a=some (.tup [x,y])->fN H us ps->fN H (.ref a::us) ((x,y)::ps)
theorem fN.kt{H H':Hp}{us:List V}{ps:List (V×V)}(h:fN H us ps)(k:aL H H'):fN H' us ps:=by
 induction h with
 | nil=>exact .nil
 | cons a _ ih=>exact .cons (k _ _ a) ih
theorem fN.snoc{H:Hp}{us:List V}{ps:List (V×V)}{a:Addr}{x y:V}(h:fN H us ps)(e:H a=some (.tup [x,y])):fN H (us++[.ref a]) (ps++[(x,y)]):=by
 induction h with
 | nil=>exact .cons e .nil
 | cons b _ ih=>exact .cons b ih
theorem fN.len{H:Hp}{us:List V}{ps:List (V×V)}(h:fN H us ps):us.length=ps.length:=by
 induction h with
 | nil=>rfl
 | cons _ _ ih=>simp[ih]
theorem fN.of{H:Hp}:∀ {as:List Addr} {ps:List (V×V)},as.length=ps.length->(∀(j:Nat) (a:Addr) (x y:V),as[j]?=some a->ps[j]?=some (x,y)->H a=some (.tup [x,y]))->fN H (as.map V.ref) ps
 | [],[],_,_=>.nil
 | [],_::_,h,_=>by simp at h
 | _::_,[],h,_=>by simp at h
 | a::as,(x,y)::ps,h,g=>.cons (g 0 a x y rfl rfl) (fN.of (by simpa using h) fun j b x y e1 e2=>g (j+1) b x y (by simpa using e1) (by simpa using e2))
inductive iZ(H:Hp):List V->List (Str×List Wo)->Prop
 | nil:iZ H [] []
 | cons {a b:Addr} {k:Str} {ws:List Wo} {us:List V} {ps:List (Str×List Wo)}:H a=some (.tup [.str k,.ref b])->H b=some (.tup (ws.map wv))->iZ H us ps->iZ H (.ref a::us) ((k,ws)::ps)
theorem iZ.kt{H H':Hp}{us:List V}{ps:List (Str×List Wo)}(h:iZ H us ps)(k:aL H H'):iZ H' us ps:=by
 induction h with
 | nil=>exact .nil
 | cons a b _ ih=>exact .cons (k _ _ a) (k _ _ b) ih
theorem iZ.snoc{H:Hp}{us:List V}{ps:List (Str×List Wo)}{a b:Addr}{k:Str}{ws:List Wo}(h:iZ H us ps)(e:H a=some (.tup [.str k,.ref b]))(f:H b=some (.tup (ws.map wv))):iZ H (us++[.ref a]) (ps++[(k,ws)]):=by
 induction h with
 | nil=>exact .cons e f .nil
 | cons c d _ ih=>exact .cons c d ih
theorem iZ.len{H:Hp}{us:List V}{ps:List (Str×List Wo)}(h:iZ H us ps):us.length=ps.length:=by
 induction h with
 | nil=>rfl
 | cons _ _ _ ih=>simp[ih]
noncomputable def fW(nm:List (Str×Wo)):List Str->List (V×V)
 | []=>[]
 | n::r=>if kS nm n=none then fW nm r else (.str n,wv (kS nm n))::fW nm r
theorem Cd(nm:List (Str×Wo)):∀ l r:List Str,fW nm (l++r)=fW nm l++fW nm r
 | [],_=>rfl
 | n::l,r=>by
  simp only[List.cons_append,fW,Cd nm l r];split<;>rfl
noncomputable def iF(lt:List (Str×List Wo)):List Str->List (Str×List Wo)
 | []=>[]
 | k::r=>if (cK lt k).getD []=[] then iF lt r else (k,(cK lt k).getD [])::iF lt r
theorem B9(lt:List (Str×List Wo)):∀ l r:List Str,iF lt (l++r)=iF lt l++iF lt r
 | [],_=>rfl
 | n::l,r=>by
  simp only[List.cons_append,iF,B9 lt l r];split<;>rfl
theorem uT(nm:List (Str×Wo)):∀ l:List Str,(fW nm l).length<=l.length
 | []=>Nat.le_refl _
 | n::l=>by
  have:=uT nm l;simp only[fW];split<;>simp only[List.length_cons]<;>omega
theorem uM(lt:List (Str×List Wo)):∀ l:List Str,(iF lt l).length<=l.length
 | []=>Nat.le_refl _
 | n::l=>by
  have:=uM lt l;simp only[iF];split<;>simp only[List.length_cons]<;>omega
noncomputable def Pu.nmS(S:Pu):List (V×V):=fW S.nm (srt (S.nm.map (·.1)))
noncomputable def Pu.ltS(S:Pu):List (Str×List Wo):=iF S.lt (srt (S.lt.map (·.1)))
noncomputable def Pu.anS(S:Pu):List (V×V):=S.ans.map fun p=>(.int p.1,wv p.2)
noncomputable def Slp.v8:Slp->Bool
 | .wait _=>true
 | .Zp _=>true
 | _=>false
noncomputable def tQ(H:Hp)(v:V)(S:Pu):Prop:=if S.sl.v8=true then ∃(p pl pn po pa pt:Addr) (sl:V) (un ua ut:List V),v=.ref p/\H p=some (.tup [sl,.ref pl,wv S.ar,.int S.nw,.ref pn,.int S.made,.ref po,.ref pa,.ref pt])/\iD H sl S.sl /\
    H pl=some (.tup ((bY S.stk).map V.int))/\H pn=some (.tup un)/\fN H un S.nmS/\H po=some (.tup (S.pend.map V.int))/\H pa=some (.tup ua)/\fN H ua S.anS/\H pt=some (.tup ut)/\iZ H ut S.ltS
  else iD H v S.sl
theorem HL:∀ nm:List (Str×Wo),jM (lT nm)=some (nm.map (·.1))
 | []=>rfl
 | p::r=>by
  have ih:=HL r;show(jM (lT r)).map (p.1::·)=_;rw[ih];rfl
theorem Pe{H:Hp}{kvs:List (Key×V)}{as:List Addr}{lt:List (Str×List Wo)}(h:kN H kvs as lt):jM kvs=some (lt.map (·.1)):=by
 induction h with
 | nil=>rfl
 | @cons a k ws kvs as lt _ _ ih =>
  show(jM kvs).map (k::·)=_;rw[ih];rfl
theorem LM:∀ {nm:List (Str×Wo)} {n:Str},n∈nm.map (·.1)->bT (lT nm) (.inr n)=some (wv (kS nm n))
 | [],n,h=>by simp at h
 | p::r,n,h=>by
  show bT ((Key.inr p.1,wv p.2)::lT r) (.inr n)=_;by_cases e:p.1=n
  ·rw[cO (by rw[e]),kS,if_pos e]
  ·rw[cD (fun z=>e (Key.inr.inj z)),kS,if_neg e];refine LM ?_;rcases List.mem_cons.mp h with h|h
   ·exact absurd h.symm e
   ·exact h
theorem kN.inS{H:Hp}{kvs:List (Key×V)}{as:List Addr}{lt:List (Str×List Wo)}(h:kN H kvs as lt){k:Str}(hk:k∈lt.map (·.1)):∃ a ws,bT kvs (.inr k)=some (.ref a)/\cK lt k=some ws/\H a=some (.lst (ws.map wv)):=by
 rcases h.look k with⟨_,e⟩|⟨a,ws,x,y,_,u⟩
 ·exfalso;clear h
  induction lt with
  | nil=>simp at hk
  | cons p r ih =>
   simp only[cK] at e;split at e
   ·cases e
   ·next hp =>
    rcases List.mem_cons.mp hk with z|z
    ·exact hp z.symm
    ·exact ih z e
 ·exact⟨a,ws,x,y,u⟩
theorem iD.word{H:Hp}{v:V}{s:Slp}(h:iD H v s)(hn:s.isN=false):∃(p:Addr) (s0:Str) (r0:List V),v=.ref p/\H p=some (.tup (.str s0::r0))/\wU (.str s0) [.str "wait",.str "hear"]=s.v8:=by
 cases s with
 | Zj=>cases hn
 | new=>obtain⟨p,rfl,e⟩:=h;exact⟨p,_,_,rfl,e,by simp[wU,sF,mV,Slp.v8]⟩
 | wait ts=>obtain⟨p,p2,rfl,e,_⟩:=h;exact⟨p,_,_,rfl,e,by simp[wU,sF,mV,Slp.v8]⟩
 | Zp k=>obtain⟨p,rfl,e⟩:=h;exact⟨p,_,_,rfl,e,by simp[wU,sF,mV,Slp.v8]⟩
 | ended w=>obtain⟨p,rfl,e⟩:=h;exact⟨p,_,_,rfl,e,by simp[wU,sF,mV,Slp.v8]⟩
 | worn=>obtain⟨p,rfl,e⟩:=h;exact⟨p,_,_,rfl,e,by simp[wU,sF,mV,Slp.v8]⟩
theorem t7{c:TT}{t u:TS}{D:Ends}{σ:St}{H:Hp}(h:∀ R:St->Hp->Prop,(∀ σ' H',t D σ' H'->R σ' H')->MD c (fun _=>R) u D σ H):MD c t u D σ H:=h (t D) fun _ _ z=>z
noncomputable def O6(C:Addr):Sp:=fun vs H Q _=>∃(wk wx lb ln:Addr) (st:Stk),vs=[.ref wk]/\iJ C H wk wx lb ln st/\∀ p,H p=none->Q (.ref p) (Zh H p (.tup ((bY st).map V.int)))
noncomputable def O8(C:Cl):Sp:=fun vs H Q _=>∃(R:Rn) (as:List Addr) (sl:V) (S:Pu),vs=[.ref R.x]/\aY C H R as sl S/\S.sl.isN=false/\S.pend.length<=1000000/\S.nm.length < 64/\S.lt.length < 64/\S.ans.length<=1000000/\(∀ k ws,cK S.lt k=some ws->ws.length<=1000000)/\∀(v:V) (H':Hp),tQ H' v S->Kp [] H H'->Q v H'
theorem YJ{w:Wo}{k:Int->Prop}{u:Tg k}:LU (wv w) k u=k (num w):=by cases w<;>rfl
noncomputable def Uo(K:q0B):Sp:=fun vs H Q _=>∃(a:Addr) (ns:List Int) (k:Int),vs=[.ref a,.int k]/\dQ K H a (ns.map V.int)/\0<=k/\∀ z:Int,Q (.int z) H
structure eN(H:Hp)(r:Addr):Prop where
 ex:∃ c f:Int,H r=some (.lst [.int c,.int f])/\(0<=f/\f < 2147483587)
theorem eN.kp{S:List Addr}{H H':Hp}{r:Addr}(R:eN H r)(h:Kp S H H')(n:r∉S:=by first|exact List.not_mem_nil|simp_all):eN H' r:=by
 obtain⟨c,f,e,x⟩:=R;exact⟨c,f,h _ _ e n,x⟩
theorem eN.new{H:Hp}{r p:Addr}{o:HO}(R:eN H r)(h:H p=none):eN (Zh H p o) r:=R.kp (S:=[]) (Kp.new h)
theorem eN.none{H:Hp}{r p:Addr}(R:eN H r)(h:H p=Option.none):p≠r:=by
 obtain⟨c,f,e,_⟩:=R;exact(aK e h).symm
noncomputable def Qd:Sp:=fun vs H Q _=>∃ c:Int,vs=[.int c]/\∀(r:Addr) (H':Hp),H r=none->Kp [] H H'->eN H' r->Q (.ref r) H'
theorem Xb{c:Int}{H:Hp}{Q:VK}{E:XK}:Qd [.int c] H Q E = ∀(r:Addr) (H':Hp),H r=none->Kp [] H H'->eN H' r->Q (.ref r) H':=propext ⟨fun⟨_,e,h⟩=>by cases e;exact h,fun h=>⟨_,rfl,h⟩⟩
noncomputable def Qc:Sp:=fun vs H Q _=>∃(r:Addr) (m:Int),vs=[.ref r,.int m]/\0 < m/\m<=10 ^ 45/\eN H r /\
 ∀(g:Int) (H':Hp),0<=g->g < m->eN H' r->Kp [r] H H'->Q (.int g) H'
theorem OT{r:Addr}{m:Int}{H:Hp}{Q:VK}{E:XK}:Qc [.ref r,.int m] H Q E=(0 < m/\m<=10 ^ 45/\eN H r/\∀(g:Int) (H':Hp),0<=g->g < m->eN H' r->Kp [r] H H'->Q (.int g) H') :=
 propext ⟨fun⟨_,_,e,h⟩=>by cases e;exact h,fun h=>⟨_,_,rfl,h⟩⟩
mutual
noncomputable def Stm.fG(L:List Str):Stm->Prop
 | .set x _=>x∈L
 | .order x _ _=>x∈L
 | .child x _ _=>x∈L
 | .Zx x _=>x∈L
 | .wait x ss=>x∈L/\ss.length<=4
 | .Zp x _=>x∈L
 | .Z9 _ b=>b.length<=8/\c9 L b
 | .iff _ b o=>(b.length<=8/\o.length<=8)/\c9 L b/\c9 L o
 | _=>True
noncomputable def c9(L:List Str):List Stm->Prop
 | []=>True
 | m::ms=>m.fG L/\c9 L ms
end
theorem Ah{L:List Str}:∀ {b:List Stm} {i:Nat} {m:Stm},c9 L b->b[i]?=some m->m.fG L
 | [],_,_,_,h=>by simp at h
 | _::_,0,_,g,h=>by simp only[List.getElem?_cons_zero,Option.some.injEq] at h;subst h;simp only[c9] at g;exact g.1
 | _::b,i+1,_,g,h=>by simp only[c9] at g;exact Ah g.2 (by simpa using h)
theorem Jl(l:List (Str×Wo))(n:Str)(w:Wo):(dO l n w).map (·.1)=if n∈l.map (·.1) then l.map (·.1) else l.map (·.1)++[n]:=by
 have e:(l.any fun p=>decide (p.1=n))=true↔n∈l.map (·.1):=by
  rw[List.any_eq_true,List.mem_map];constructor
  ·rintro⟨p,h,e⟩;exact⟨p,h,by simpa using e⟩
  ·rintro⟨p,h,e⟩;exact⟨p,h,by simpa using e⟩
 unfold dO;by_cases h:n∈l.map (·.1)
 ·rw[if_pos (e.mpr h),if_pos h,List.map_map];refine List.map_congr_left fun p _=>?_;simp only[Function.comp];split<;>rfl
 ·rw[if_neg (fun z=>h (e.mp z)),if_neg h];simp
structure eC(L:List Str)(S:Pu):Prop where
 nd:(S.nm.map (·.1)).Nodup
 sub:∀ n∈S.nm.map (·.1),n∈L
 stk:∀ x∈S.stk,c9 L x.2.1
theorem eC.put{L:List Str}{S:Pu}(h:eC L S){n:Str}(hn:n∈L)(w:Wo):eC L {S with nm:=dO S.nm n w}:=by
 have e:=Jl S.nm n w;refine⟨?_,?_,h.stk⟩
 ·show((dO S.nm n w).map (·.1)).Nodup;rw[e];split
  ·exact h.nd
  ·next hc =>
   rw[List.nodup_append];exact⟨h.nd,by simp,fun a ha b hb=>by rw[show b=n by simpa using hb];intro z;exact hc (z▸ha)⟩
 ·show ∀ x∈(dO S.nm n w).map (·.1),x∈L;rw[e];split
  ·exact h.sub
  ·intro x hx;rcases List.mem_append.mp hx with hx|hx
   ·exact h.sub x hx
   ·rw[show x=n by simpa using hx];exact hn
theorem eC.same{L:List Str}{S T:Pu}(h:eC L S)(e1:T.nm=S.nm)(e2:T.stk=S.stk):eC L T:=⟨by rw[e1];exact h.nd,by rw[e1];exact h.sub,by rw[e2];exact h.stk⟩
theorem eC.cT{L:List Str}{S:Pu}(h:eC L S){m:Stm}(g:m.fG L):eC L (cT S m).1:=by
 cases m with
 | set x s=>simp only[Stm.fG] at g;exact h.put g _
 | order x y s=>simp only[Stm.fG] at g;exact(h.put g _).same rfl rfl
 | child x y s=>simp only[Stm.fG] at g;exact(h.put g _).same rfl rfl
 | Zx x s=>simp only[Stm.fG] at g;exact(h.put g _).same rfl rfl
 | send s k r=>exact h
 | drop s =>
  simp only[Own.cT];split
  ·split
   ·exact h.same rfl rfl
   ·exact h
  ·exact h
 | Zp x k =>
  simp only[Stm.fG] at g;simp only[Own.cT];split
  ·exact(h.put g _).same rfl rfl
  ·exact h.same rfl rfl
 | wait x ss =>
  simp only[Stm.fG] at g;simp only[Own.cT];split
  ·exact h.same rfl rfl
  ·exact h.put g.1 _
 | fin s=>exact h.same rfl rfl
 | Z9 s b=>exact h
 | iff s b o=>exact h
theorem t4{L:List Str}:∀ st:Stk,(∀ x∈st,c9 L x.2.1)->∀ x∈c7 st,c9 L x.2.1
 | [],h=>by simpa[c7] using h
 | [a],h=>by simpa[c7] using h
 | (k,b,n)::(k2,b2,n2)::r,h=>by
  rw[c7];split
  ·refine t4 ((k2,b2,Al b2 n2)::r) fun x hx=>?_;rcases List.mem_cons.mp hx with rfl|hx
   ·exact h (k2,b2,n2) (by simp)
   ·exact h x (by simp[hx])
  ·exact h
termination_by st=>st.length
theorem vE{L:List Str}{st:Stk}(h:∀ x∈st,c9 L x.2.1):∀ x∈iT st,c9 L x.2.1:=by
 cases st with
 | nil=>exact h
 | cons a r =>
  obtain⟨k,b,n⟩:=a;intro x hx;simp only[iT,List.mem_cons] at hx;rcases hx with rfl|hx
  ·exact h (k,b,n) (by simp)
  ·exact h x (by simp[hx])
theorem eC.cI{L:List Str}{S:Pu}(h:eC L S){m:Stm}(e:cI S.stk=some m):m.fG L:=by
 cases hs:S.stk with
 | nil=>rw[hs] at e;cases e
 | cons a r =>
  obtain⟨k,b,n⟩:=a;rw[hs] at e;exact Ah (h.stk (k,b,n) (by rw[hs];simp)) e
theorem eC.one{L:List Str}{S:Pu}(h:eC L S){m:Stm}(e:Own.cI S.stk=some m):eC L (one S m).1:=by
 have g:=h.cI e;have en:∀(c:Nat) (b:List Stm),c9 L b->eC L (S.enter c b):=fun c b hb=>⟨h.nd,h.sub,fun x hx=>by
  rcases List.mem_cons.mp hx with rfl|hx
  ·exact hb
  ·exact h.stk x hx⟩
 have ps:∀ T:Pu,eC L T->eC L T.pass:=fun T hT=>⟨hT.nd,hT.sub,vE hT.stk⟩;unfold Own.one;split
 ·cases m with
  | Z9 s b =>
   simp only[Stm.fG] at g;show eC L (if _ then S.pass else S.enter 0 b);split
   ·exact ps S h
   ·exact en 0 b g.2
  | iff s b o =>
   simp only[Stm.fG] at g;show eC L (if _ then S.enter 1 o else S.enter 0 b);split
   ·exact en 1 o g.2.2
   ·exact en 0 b g.2.1
  | _=>exact h
 ·show eC L (if _ then (Own.cT S m).1.pass else (Own.cT S m).1);split
  ·exact ps _ (h.cT g)
  ·exact h.cT g
theorem xO{L:List Str}:∀(n:Nat) {S:Pu},eC L S->eC L (iP n S).1
 | 0,S,h=>by
  have hc:eC L S.cG:=⟨h.nd,h.sub,t4 _ h.stk⟩;cases e:cI S.cG.stk with
  | none=>rw[dY e];exact hc.same rfl rfl
  | some m=>rw[jR e];exact hc.same rfl rfl
 | n+1,S,h=>by
  have hc:eC L S.cG:=⟨h.nd,h.sub,t4 _ h.stk⟩;cases e:cI S.cG.stk with
  | none=>rw[dY e];exact hc.same rfl rfl
  | some m =>
   cases z:(one S.cG m).1.sl.isN with
   | true=>rw[pM e z];exact xO n (hc.one e)
   | false=>rw[jQ e z];exact hc.one e
theorem eC.wake{L:List Str}{S:Pu}(h:eC L S)(w:Wo):eC L (S.wake w).1:=by
 unfold Pu.wake;split
 ·next x k e =>
  have g:=h.cI e;simp only[Stm.fG] at g;have h1:=h.put g w;exact xO 300 ⟨h1.nd,h1.sub,vE h.stk⟩
 ·next x ss e =>
  have g:=h.cI e;simp only[Stm.fG] at g;have h1:=h.put g.1 w;exact xO 300 ⟨h1.nd,h1.sub,vE h.stk⟩
 ·exact h
theorem eC.take{L:List Str}{S:Pu}(h:eC L S)(x:Hap):eC L (S.take x).1:=by
 unfold Pu.take;split
 ·exact h
 cases x with
 | beg m w=>exact xO 300 (h.same rfl rfl)
 | don m i w =>
  show eC L ((S.at' m).gZ i w).1;unfold Pu.gZ;split
  ·split
   ·exact(h.same (T:=(S.at' m).done i w) rfl rfl).wake _
   ·exact h.same rfl rfl
  ·exact h.same rfl rfl
 | ltr m k w =>
  show eC L ((S.at' m).iI k w).1;unfold Pu.iI;split
  ·split
   ·exact(h.same (T:=S.at' m) rfl rfl).wake _
   ·exact h.same rfl rfl
  ·exact h.same rfl rfl
theorem uU:∀ {a L:List Str},a.Nodup->(∀ x∈a,x∈L)->a.length<=L.length
 | [],L,_,_=>Nat.zero_le _
 | x::a,L,nd,h=>by
  rw[List.nodup_cons] at nd;have hx:=h x (by simp);have:=uU (a:=a) (L:=L.erase x) nd.2 fun y hy=>(List.mem_erase_of_ne (fun z:y=x=>nd.1 (by rw[<- z];exact hy))).mpr (h y (List.mem_cons_of_mem _ hy));have hl:=List.length_erase_of_mem hx;have hp:0 < L.length:=List.length_pos_of_mem hx;simp only[List.length_cons];omega
theorem eC.len{L:List Str}{S:Pu}(h:eC L S):S.nm.length<=L.length:=by
 have:=uU h.nd h.sub
 rwa [List.length_map] at this
structure fA(K:List Str)(S:Pu):Prop where
 nd:(S.lt.map (·.1)).Nodup
 sub:∀ n∈S.lt.map (·.1),n∈K
theorem pS(r:List Wo):∀(l:List (Str×List Wo)) (k:Str),(fK l k r).map (·.1)=l.map (·.1)
 | [],_=>rfl
 | p::l,k=>by
  simp only[fK];split
  ·rfl
  ·simp only[List.map_cons,pS r l k]
theorem zY:∀ {l:List (Str×List Wo)} {k:Str},cK l k=none->k∉l.map (·.1)
 | [],_,_=>by simp
 | p::l,k,h=>by
  simp only[cK] at h;split at h
  ·cases h
  ·next hp =>
   simp only[List.map_cons,List.mem_cons,not_or];exact⟨fun z=>hp z.symm,zY h⟩
theorem fA.same{K:List Str}{S T:Pu}(h:fA K S)(e:T.lt=S.lt):fA K T:=⟨by rw[e];exact h.nd,by rw[e];exact h.sub⟩
theorem fA.add{K:List Str}{S:Pu}(h:fA K S){k:Str}(hk:k∈K)(w:Wo):fA K {S with lt:=gY S.lt k w}:=by
 cases e:cK S.lt k with
 | some ws =>
  have ea:gY S.lt k w=fK S.lt k (ws++[w]):=by simp only[gY,e]
  have kk:=pS (ws++[w]) S.lt k;exact⟨by show((gY S.lt k w).map (·.1)).Nodup;rw[ea,kk];exact h.nd,by show ∀ n∈(gY S.lt k w).map (·.1),n∈K;rw[ea,kk];exact h.sub⟩
 | none =>
  have ea:gY S.lt k w=S.lt++[(k,[w])]:=by simp only[gY,e]
  have nk:=zY e;refine⟨?_,?_⟩
  ·show((gY S.lt k w).map (·.1)).Nodup;rw[ea,List.map_append,List.nodup_append];exact⟨h.nd,by simp,fun a ha b hb=>by rw[show b=k by simpa using hb];intro z;exact nk (z▸ha)⟩
  ·show ∀ n∈(gY S.lt k w).map (·.1),n∈K;rw[ea,List.map_append];intro n hn;rcases List.mem_append.mp hn with hn|hn
   ·exact h.sub n hn
   ·rw[show n=k by simpa using hn];exact hk
theorem fA.cT{K:List Str}{S:Pu}(h:fA K S)(m:Stm):fA K (cT S m).1:=by
 cases m with
 | drop s =>
  simp only[Own.cT];split
  ·split
   ·exact h.same rfl
   ·exact h
  ·exact h
 | Zp x k =>
  simp only[Own.cT];split
  ·next w r e=>exact⟨by show((fK S.lt k r).map (·.1)).Nodup;rw[pS];exact h.nd,by show ∀ n∈(fK S.lt k r).map (·.1),n∈K;rw[pS];exact h.sub⟩
  ·exact h.same rfl
 | wait x ss =>
  simp only[Own.cT];split
  ·exact h.same rfl
  ·exact h.same rfl
 | _=>exact h.same rfl
theorem fA.one{K:List Str}{S:Pu}(h:fA K S)(m:Stm):fA K (one S m).1:=by
 unfold Own.one;split
 ·cases m with
  | Z9 s b=>show fA K (if _ then S.pass else S.enter 0 b);split<;>exact h.same rfl
  | iff s b o=>show fA K (if _ then S.enter 1 o else S.enter 0 b);split<;>exact h.same rfl
  | _=>exact h
 ·show fA K (if _ then (Own.cT S m).1.pass else (Own.cT S m).1);split
  ·exact(h.cT m).same rfl
  ·exact h.cT m
theorem xJ{K:List Str}:∀(n:Nat) {S:Pu},fA K S->fA K (iP n S).1
 | 0,S,h=>by
  have hc:fA K S.cG:=h.same rfl;cases e:cI S.cG.stk with
  | none=>rw[dY e];exact hc.same rfl
  | some m=>rw[jR e];exact hc.same rfl
 | n+1,S,h=>by
  have hc:fA K S.cG:=h.same rfl;cases e:cI S.cG.stk with
  | none=>rw[dY e];exact hc.same rfl
  | some m =>
   cases z:(one S.cG m).1.sl.isN with
   | true=>rw[pM e z];exact xJ n (hc.one m)
   | false=>rw[jQ e z];exact hc.one m
theorem fA.wake{K:List Str}{S:Pu}(h:fA K S)(w:Wo):fA K (S.wake w).1:=by
 unfold Pu.wake;split
 ·exact xJ 300 (h.same rfl)
 ·exact xJ 300 (h.same rfl)
 ·exact h
theorem fA.take{K:List Str}{S:Pu}(h:fA K S)(x:Hap)(hx:∀ m k w,x=.ltr m k w->k∈K):fA K (S.take x).1:=by
 unfold Pu.take;split
 ·exact h
 cases x with
 | beg m w=>exact xJ 300 (h.same rfl)
 | don m i w =>
  show fA K ((S.at' m).gZ i w).1;unfold Pu.gZ;split
  ·split
   ·exact(h.same (T:=(S.at' m).done i w) rfl).wake _
   ·exact h.same rfl
  ·exact h.same rfl
 | ltr m k w =>
  show fA K ((S.at' m).iI k w).1;unfold Pu.iI;split
  ·split
   ·exact(h.same (T:=S.at' m) rfl).wake _
   ·exact((h.same (T:=S.at' m) rfl).add (hx m k w rfl) w).same rfl
  ·exact((h.same (T:=S.at' m) rfl).add (hx m k w rfl) w).same rfl
theorem fA.len{K:List Str}{S:Pu}(h:fA K S):S.lt.length<=K.length:=by
 have:=uU h.nd h.sub
 rwa [List.length_map] at this
noncomputable def NM4:List Str:=["a","b","c","d"]
noncomputable def KY3:List Str:=["key","yes","m"]
theorem eN.tk{H H':Hp}{r:Addr}(R:eN H r)(k:Kp [r] H H'):aL H H':=.of k fun a ha=>by
 obtain⟨c,f,e,_⟩:=R;have:a=r:=by simpa using ha
 exact⟨_,this▸e,fun _ h=>by cases h⟩
theorem made1J{r p:Addr}{H H':Hp}{o:HO}(x:Kp [r] (Zh H p o) H')(R:eN H r)(h:H p=Option.none):H' p=some o:=x.at1 aA (R.none h)
theorem WC{a b:Prop}[Decidable a][Decidable b]{P R:Prop}:(if a then (if b then P else R) else R)=if a/\b then P else R:=by
 by_cases ha:a<;>by_cases hb:b<;>simp[ha,hb]
noncomputable def Gu(d:Nat):Sp:=fun vs H Q _=>∃(r:Addr) (dp:Int),vs=[.ref r,.int dp]/\0<=dp/\dp < d/\eN H r/\∀(v:V) (s:Say) (H':Hp),dE H' v s->s.ok->(s.depth:Int)<=dp+1->eN H' r->Kp [r] H H'->Q v H'
theorem gD.snoc{H:Hp}{vs:List V}{ss:List Say}{v:V}{s:Say}(h:gD H vs ss)(e:dE H v s):gD H (vs++[v]) (ss++[s]):=by
 induction h with
 | nil=>exact .cons e .nil
 | cons a _ ih=>exact .cons a ih
theorem y7:∀(b:List Stm) (x:Stm),rQ (b++[x])=max (rQ b) x.dp
 | [],x=>by simp[rQ]
 | y::b,x=>by
  simp only[List.cons_append,rQ,y7 b x];omega
theorem D6{b:List Stm}{x:Stm}(h:rR true b)(g:x.gd true):rR true (b++[x]):=by
 induction b with
 | nil=>simp only[List.nil_append,rR];exact⟨g,trivial⟩
 | cons y b ih=>simp only[List.cons_append,rR] at h ⊢;exact⟨h.1,ih h.2⟩
theorem Ew{L:List Str}{b:List Stm}{x:Stm}(h:c9 L b)(g:x.fG L):c9 L (b++[x]):=by
 induction b with
 | nil=>simp only[List.nil_append,c9];exact⟨g,trivial⟩
 | cons y b ih=>simp only[List.cons_append,c9] at h ⊢;exact⟨h.1,ih h.2⟩
theorem bF.snoc{H:Hp}{vs:List V}{ms:List Stm}{v:V}{m:Stm}(h:bF H vs ms)(e:cL H v m):bF H (vs++[v]) (ms++[m]):=by
 induction ms generalizing vs with
 | nil=>cases h;exact .cons e .nil
 | cons m ms ih =>
  cases h with
  | cons a b=>exact .cons a (ih b)
theorem look2{a b z:Str}{x y c:Addr}(n:(a==b)=false)(h:List.lookup z [(a,x),(b,y)]=some c):List.lookup z [(b,y),(a,x)]=some c:=by
 simp only[List.lookup] at h ⊢;by_cases h1:(z==a)=true
 ·by_cases h2:(z==b)=true
  ·rw[<- eq_of_beq h1,<- eq_of_beq h2] at n;simp at n
  ·simp only[h1,Bool.not_eq_true] at h h2 ⊢;simp only[h2];exact h
 ·simp only[Bool.not_eq_true] at h1;simp only[h1] at h ⊢;cases h2:z==b<;>simp_all
noncomputable abbrev w4:List V:=[.str "arg",.str "now",.str "answer",.str "not"]
theorem abcd1{c:Nat}(h:c∈("abcd":Str).cps.toList):∃ z:Str,(⟨#[c]⟩:Str)=z/\z∈NM4:=⟨_,rfl,(show ∀ c∈("abcd":Str).cps.toList,(⟨#[c]⟩:Str)∈NM4 by decide +kernel) c h⟩
theorem GP:("abcd":Str).length=4:=by decide +kernel
noncomputable def Gv(d:Nat):Sp:=fun vs H Q _=>∃(r:Addr) (dp:Int),vs=[.ref r,.int dp]/\0<=dp/\dp<=d/\eN H r/\∀(v:V) (x:Stm) (H':Hp),cL H' v x->x.gd true->x.fG NM4->(x.dp:Int)<=dp->eN H' r->Kp [r] H H'->Q v H'
noncomputable def Dx(d:Nat):Sp:=fun vs H Q _=>∃(r:Addr) (dp:Int),vs=[.ref r,.int dp]/\0<=dp/\dp < d/\eN H r/\∀(p:Addr) (us:List V) (b:List Stm) (H':Hp),H' p=some (.tup us)->bF H' us b->rR true b->c9 NM4 b->(rQ b:Int)<=dp->b.length<=3->eN H' r->Kp [r] H H'->Q (.ref p) H'
noncomputable def Uu:Sp:=fun vs H Q _=>∃(cl:Addr) (ms:List Int),vs=[.ref cl]/\H cl=some (.lst (ms.map V.int))/\ms.length<=63/\∀(p:Addr) (us:List V) (b:List Stm) (H':Hp),H' p=some (.tup us)->bF H' us b->rR true b->c9 NM4 b->rQ b<=1->b.length<=63->Kp [] H H'->Q (.ref p) H'
theorem Zv.slp{wt:Bool}{S:Pu}{N:Nat}(F:Zv wt S N)(x:Slp)(h1:∀ k,x≠.Zp k)(h2:∀ ts,x≠.wait ts):Zv wt {S with sl:=x,pend:=[]} N :=
 ⟨F.nm,F.md,Nat.zero_le _,F.an,F.lt,F.lw,F.pl,F.nw,F.sk,fun k e=>absurd e (h1 k),fun ts e=>absurd e (h2 ts)⟩
theorem lL{wt:Bool}:∀(n:Nat) {S:Pu} {N:Nat},Zv wt S N->S.sl=.Zj->N+n<=900000->Zv wt (iP n S).1 (N+n)
 | 0,S,N,F,h,_=>by
  cases e:cI S.cG.stk with
  | none=>rw[dY e];exact(F.cG h).slp _ (fun _ z=>by cases z) (fun _ z=>by cases z)
  | some m=>rw[jR e];exact(F.cG h).slp _ (fun _ z=>by cases z) (fun _ z=>by cases z)
 | n+1,S,N,F,h,hN=>by
  cases e:cI S.cG.stk with
  | none=>rw[dY e];exact((F.cG h).slp _ (fun _ z=>by cases z) (fun _ z=>by cases z)).more (by omega)
  | some m =>
   have F1:=(F.cG h).one e h (by omega);cases z:(one S.cG m).1.sl.isN with
   | true =>
    rw[pM e z];exact(lL n F1 (C4 z) (by omega)).more (by omega)
   | false=>rw[jQ e z];exact F1.more (by omega)
theorem Zv.Pk{wt:Bool}{S:Pu}{N:Nat}(F:Zv wt S N){m i:Int}{w:Wo}(hm:0<=m/\m<=1000000000000)(hw:eZ w)(hi:eZ (some i))(hN:N<=800000):Zv wt (S.take (.don m i w)).1 (N+302):=by
 have F1:=F.at' hm;have F2:=F1.done (i:=i) hw;unfold Pu.take;split
 ·exact F.more (by omega)
 show Zv wt ((S.at' m).gZ i w).1 (N+302);unfold Pu.gZ;split
 ·split
  ·unfold Pu.wake;split
   ·next e=>exact(lL 300 (F2.wake e hi _) rfl (by omega)).more (by omega)
   ·next e=>exact(lL 300 (F2.wake e hi _) rfl (by omega)).more (by omega)
   ·exact F2.more (by omega)
  ·exact F2.more (by omega)
 ·exact F2.more (by omega)
theorem Zv.Dz{wt:Bool}{S:Pu}{N:Nat}(F:Zv wt S N)(h:Hap)(hm:0<=h.m/\h.m<=1000000000000)(hw:eZ h.w)(hi:∀ i∈S.pend,eZ (some i))(hN:N<=800000):Zv wt (S.take h).1 (N+302):=by
 cases h with
 | beg m w =>
  unfold Pu.take;split
  ·exact F.more (by omega)
  have F1:=F.at' hm;have F2:Zv wt {S with nw:=later S.nw m,ar:=w,sl:=.Zj} N:=⟨F1.nm,F1.md,F1.pd,F1.an,F1.lt,F1.lw,⟨F1.pl.nm,hw,F1.pl.an⟩,F1.nw,F1.sk,fun k e=>(by cases e),fun k e=>(by cases e)⟩;exact(lL 300 F2 rfl (by omega)).more (by omega)
 | don m i w =>
  by_cases hp:i∈S.pend
  ·exact F.Pk hm hw (hi i hp) hN
  ·have F1:=F.at' hm;unfold Pu.take;split
   ·exact F.more (by omega)
   ·next ho =>
    have F2:=F1.done (i:=i) hw;show Zv wt ((S.at' m).gZ i w).1 (N+302);exfalso;refine ho ?_;unfold Pu.over;cases S.sl<;>simp[hp]
 | ltr m k w =>
  have F1:=F.at' hm;unfold Pu.take;split
  ·exact F.more (by omega)
  show Zv wt ((S.at' m).iI k w).1 (N+302);unfold Pu.iI;split
  ·split
   ·unfold Pu.wake;split
    ·next e=>exact(lL 300 (F1.wake e hw _) rfl (by omega)).more (by omega)
    ·next e=>exact(lL 300 (F1.wake e hw _) rfl (by omega)).more (by omega)
    ·exact F1.more (by omega)
   ·exact(F1.gY hw).more (by omega)
  ·exact(F1.gY hw).more (by omega)
inductive bM(H:Hp):List V->List Hap->Prop
 | nil:bM H [] []
 | cons {v:V} {vs:List V} {h:Hap} {hs:List Hap}:nG H v h->bM H vs hs->bM H (v::vs) (h::hs)
theorem Lq{H H':Hp}{v:V}{h:Hap}(x:nG H v h)(k:aL H H'):nG H' v h:=by
 obtain⟨a,e,f⟩:=x;exact⟨a,e,k _ _ f⟩
theorem bM.kt{H H':Hp}{vs:List V}{hs:List Hap}(h:bM H vs hs)(k:aL H H'):bM H' vs hs:=by
 induction h with
 | nil=>exact .nil
 | cons a _ ih=>exact .cons (Lq a k) ih
theorem bM.len{H:Hp}{vs:List V}{hs:List Hap}(h:bM H vs hs):vs.length=hs.length:=by
 induction h with
 | nil=>rfl
 | cons _ _ ih=>simp[ih]
theorem sN:∀(n:Nat) (S:Pu),(iP n S).1.sl.isN=false
 | 0,S=>by
  cases e:cI S.cG.stk with
  | none=>rw[dY e];rfl
  | some m=>rw[jR e];rfl
 | n+1,S=>by
  cases e:cI S.cG.stk with
  | none=>rw[dY e];rfl
  | some m =>
   cases z:(one S.cG m).1.sl.isN with
   | true=>rw[pM e z];exact sN n _
   | false=>rw[jQ e z];exact z
theorem E4{S:Pu}(h:S.sl.isN=false)(w:Wo):(S.wake w).1.sl.isN=false:=by
 unfold Pu.wake;split
 ·exact sN _ _
 ·exact sN _ _
 ·exact h
theorem Bh{S:Pu}(h:S.sl.isN=false)(x:Hap):(S.take x).1.sl.isN=false:=by
 unfold Pu.take;split
 ·exact h
 cases x with
 | beg m w=>exact sN _ _
 | don m i w =>
  show((S.at' m).gZ i w).1.sl.isN=false;unfold Pu.gZ;split
  ·split
   ·exact E4 (show((S.at' m).done i w).sl.isN=false from h) _
   ·exact h
  ·exact h
 | ltr m k w =>
  show((S.at' m).iI k w).1.sl.isN=false;unfold Pu.iI;split
  ·split
   ·exact E4 (show(S.at' m).sl.isN=false from h) _
   ·exact h
  ·exact h
noncomputable def takes:Pu->List Hap->Pu×List Cmds
 | S,[]=>(S,[])
 | S,h::r=>((takes (S.take h).1 r).1,(S.take h).2::(takes (S.take h).1 r).2)
theorem mU(h:Hap):∀(l:List Hap) (S:Pu),takes S (l++[h])=(((takes S l).1.take h).1,(takes S l).2++[((takes S l).1.take h).2])
 | [],S=>by simp[takes]
 | x::l,S=>by
  have:=mU h l (S.take x).1;simp only[List.cons_append,takes,this]
noncomputable def Hap.sI(h:Hap):Prop:=(0<=h.m/\h.m<=1000000000000)/\eZ h.w
inductive eU(H:Hp):List Addr->List Cmds->Prop
 | nil:eU H [] []
 | cons {a:Addr} {us:List V} {cs:Cmds} {as:List Addr} {Zr:List Cmds}:H a=some (.lst us)->gM H us cs->eU H as Zr->eU H (a::as) (cs::Zr)
theorem eU.keep{H H':Hp}{as:List Addr}{Zr:List Cmds}(h:eU H as Zr)(k:∀ a∈as,∀ o,H a=some o->H' a=some o)(t:aL H H'):eU H' as Zr:=by
 induction h with
 | nil=>exact .nil
 | cons e c _ ih=>exact .cons (k _ (by simp) _ e) (c.kt t) (ih fun a ha=>k a (List.mem_cons_of_mem _ ha))
theorem eU.snoc{H:Hp}{as:List Addr}{Zr:List Cmds}{a:Addr}{us:List V}{cs:Cmds}(h:eU H as Zr)(e:H a=some (.lst us))(c:gM H us cs):eU H (as++[a]) (Zr++[cs]):=by
 induction h with
 | nil=>exact .cons e c .nil
 | cons x y _ ih=>exact .cons x y ih
theorem eU.len{H:Hp}{as:List Addr}{Zr:List Cmds}(h:eU H as Zr):as.length=Zr.length:=by
 induction h with
 | nil=>rfl
 | cons _ _ _ ih=>simp[ih]
theorem eU.there{H:Hp}{as:List Addr}{Zr:List Cmds}(h:eU H as Zr):∀ a∈as,∃ o,H a=some o:=by
 induction h with
 | nil=>intro a ha;simp at ha
 | cons e _ _ ih =>
  intro a ha;rcases List.mem_cons.mp ha with rfl|ha
  ·exact⟨_,e⟩
  ·exact ih a ha
theorem dD:∀(l:List Hap) (S:Pu),(takes S l).2.length=l.length
 | [],_=>rfl
 | h::l,S=>by simp only[takes,List.length_cons,dD l]
theorem bM.iM{H:Hp}{vs:List V}{hs:List Hap}(h:bM H vs hs):∀ {i:Nat} {v:V},vs[i]?=some v->∃ x,hs[i]?=some x/\nG H v x:=by
 induction h with
 | nil=>intro i v e;simp at e
 | cons a _ ih =>
  intro i v e;cases i with
  | zero=>simp only[List.getElem?_cons_zero,Option.some.injEq] at e;subst e;exact⟨_,rfl,a⟩
  | succ i=>exact ih (by simpa using e)
theorem Fw.LB{R:Rn}{as ZC:List Addr}{G0 G H':Hp}(F:Fw R as ZC G H')(k:Kp [] G0 G)(h:∀ a,a∈R.cells\/a∈as->G0 a=none):Kp [] G0 H':=fun b o e _=>F.kp b o (k.at e) (fun z=>by rw[h b (.inl z)] at e;cases e) (fun z=>by rw[h b (.inr z)] at e;cases e)
theorem _root_.L2.Kp.fM{H H':Hp}{p:Addr}(k:Kp [] H H')(h:H' p=none):H p=none:=by
 cases e:H p with
 | none=>rfl
 | some o=>rw[k.at e] at h;cases h
theorem II(w:Wo):fT [] w=none:=by cases w<;>rfl
theorem Hi{wt:Bool}{b:List Stm}(g:rR wt b)(d:rQ b<=20):Zv wt (dS b) 0 :=
 {nm:=Nat.le_refl _,md:=Nat.le_refl _,pd:=Nat.le_refl _,an:=Nat.le_refl _,lt:=Nat.le_refl _,lw:=fun k ws h=>(by cases h)
  pl:=⟨fun _=>j9,j9,fun w=>(by show eZ (fT [] w);rw[II];exact j9)⟩
  nw:=⟨Int.le_refl _,by show(0:Int)<=1000000000000;decide⟩
  sk:=⟨⟨Nat.zero_le _,by simp⟩,fun x hx=>(by rw[show x=(0,b,0) by simpa[dS] using hx];exact g),⟨by simpa using d,trivial⟩⟩
  sl:=⟨fun k e=>(by cases e),fun k e=>(by cases e)⟩}
theorem tQ.kt{H H':Hp}{v:V}{S:Pu}(h:tQ H v S)(k:aL H H'):tQ H' v S:=by
 unfold tQ at *;split at h
 ·next hg =>
  rw[if_pos hg];obtain⟨p,pl,pn,po,pa,pt,sl,un,ua,ut,e,a1,a2,a3,a4,a5,a6,a7,a8,a9,a10⟩:=h;exact⟨p,pl,pn,po,pa,pt,sl,un,ua,ut,e,k _ _ a1,a2.kt k,k _ _ a3,k _ _ a4,a5.kt k,k _ _ a6,k _ _ a7,a8.kt k,k _ _ a9,a10.kt k⟩
 ·next hg =>
  rw[if_neg hg];exact h.kt k
noncomputable def Cw(H:Hp)(p:Addr)(S:Pu):Prop:=∃(v sl:V) (lo:Addr),H p=some (.tup [v,sl,.ref lo])/\tQ H v S/\iD H sl S.sl/\H lo=some (.lst (S.pend.map V.int))
noncomputable def HH(C:Cl):Sp:=fun vs H Q _=>∃(pg hl:Addr) (us hv:List V) (b:List Stm) (hs:List Hap),vs=[.ref pg,.ref hl]/\H pg=some (.tup us)/\bF H us b/\rR true b/\rQ b<=20/\H hl=some (.lst hv)/\bM H hv hs/\(∀ h∈hs,h.sI)/\hs.length<=1000 /\
 ∀(t:Addr) (R:Rn) (as:List Addr) (sl:V) (cl:Addr) (rs:List Addr) (H':Hp),H' t=some (.tup [.ref R.x,.ref cl])->aY C H' R as sl (takes (dS b) hs).1->Zv true (takes (dS b) hs).1 (302 * hs.length)->(takes (dS b) hs).1.sl.isN=false->H' cl=some (.lst (rs.map V.ref))->eU H' rs (takes (dS b) hs).2->rs.Nodup->(∀ a∈rs,a∉R.cells/\a∉as/\H a=none/\a≠cl)->(cl∉R.cells/\cl∉as)->(∀ a,a∈R.cells\/a∈as->H a=none)->H cl=none->Kp [] H H'->Q (.ref t) H'
theorem rN:∀(l:List Hap) (S:Pu) (n:Nat),(takes S (l.take n)).2=(takes S l).2.take n
 | [],S,n=>by simp[takes]
 | h::l,S,0=>by simp[takes]
 | h::l,S,n+1=>by simp only[List.take_succ_cons,takes,rN l]
theorem Hb{K:q0B}{H:Hp}{n:Nat}{a b:Addr}{xs ys:List V}(ha:H a=some (.tup xs))(hb:H b=some (.tup ys))(hl:xs.length=ys.length)(h:∀(j:Nat) x y,xs[j]?=some x->ys[j]?=some y->pC K H n x y true):pC K H (n+1) (.ref a) (.ref b) true:=by
 by_cases hab:a=b
 ·subst hab;exact .same
 ·refine .refs hab ?_;have:=mW.tup (K:=K) (H:=H) (n:=n) (e:=fun _=>true) (fO.of ha) (fO.of hb) h
  rwa [show((List.range (min xs.length ys.length)).all (fun _=>true)&&xs.length==ys.length)=true by simp[hl]] at this
theorem HG{K:q0B}{H:Hp}{n:Nat}{a b:Addr}{xs ys:List V}(ha:H a=some (.lst xs))(hb:H b=some (.lst ys))(hl:xs.length=ys.length)(h:∀(j:Nat) x y,xs[j]?=some x->ys[j]?=some y->pC K H n x y true):mW K H (n+1) a b true:=by
 have:=mW.list (K:=K) (H:=H) (n:=n) (e:=fun _=>true) (dQ.of ha) (dQ.of hb) hl h
 rwa [show(List.range xs.length).all (fun _=>true)=true by simp] at this
theorem Oi{K:q0B}{H:Hp}{n:Nat}{a b:Addr}{xs ys:List V}(ha:H a=some (.lst xs))(hb:H b=some (.lst ys))(hl:xs.length=ys.length)(h:∀(j:Nat) x y,xs[j]?=some x->ys[j]?=some y->pC K H n x y true):pC K H (n+1) (.ref a) (.ref b) true:=by
 by_cases hab:a=b
 ·subst hab;exact .same
 ·exact .refs hab (HG ha hb hl h)
theorem DY{K:q0B}{H:Hp}{n:Nat}{x:V}(h:cS x=true)(e:sF x x=true):pC K H n x x true:=by
 have:=pC.flat (K:=K) (H:=H) (n:=n) h h
 rwa [e] at this
noncomputable def qD(cs:Cmds):Prop:=∀ c∈cs,∀ v∈c,cS v=true/\sF v v=true
theorem Q4{K:q0B}{H:Hp}{n:Nat}{us vs:List V}{cs:Cmds}(h:gM H us cs)(g:gM H vs cs)(f:qD cs):∀(j:Nat) x y,us[j]?=some x->vs[j]?=some y->pC K H (n+1) x y true:=fun j x y e1 e2=>by
 obtain⟨a,c,rfl,e3,ha⟩:=h.at e1;obtain⟨b,c',rfl,e4,hb⟩:=g.at e2;rw[e3] at e4;cases e4;refine Hb ha hb rfl fun i v w e5 e6=>?_;rw[e5] at e6;cases e6;have:=f c (List.mem_of_getElem? e3) v (List.mem_of_getElem? e5);exact DY this.1 this.2
theorem bM.snoc{H:Hp}{vs:List V}{hs:List Hap}{v:V}{h:Hap}(x:bM H vs hs)(a:nG H v h):bM H (vs++[v]) (hs++[h]):=by
 induction x with
 | nil=>exact .cons a .nil
 | cons b _ ih=>exact .cons b ih
theorem bM.app{H:Hp}{vs us:List V}{hs gs:List Hap}(x:bM H vs hs)(y:bM H us gs):bM H (vs++us) (hs++gs):=by
 induction x with
 | nil=>exact y
 | cons b _ ih=>exact .cons b ih
theorem bM.drop{H:Hp}{vs:List V}{hs:List Hap}(n:Nat)(x:bM H vs hs):bM H (vs.drop n) (hs.drop n):=by
 induction x generalizing n with
 | nil=>simpa using bM.nil
 | cons a b ih =>
  cases n with
  | zero=>exact .cons a b
  | succ n=>exact ih n
theorem bM.take{H:Hp}{vs:List V}{hs:List Hap}(n:Nat)(x:bM H vs hs):bM H (vs.take n) (hs.take n):=by
 induction x generalizing n with
 | nil=>simpa using bM.nil
 | cons a b ih =>
  cases n with
  | zero=>exact .nil
  | succ n=>exact .cons a (ih n)
theorem bM.cut{H:Hp}{vs:List V}{hs:List Hap}(x:bM H vs hs)(lo hi:Option Int):∃ gs,bM H (gK vs lo hi) gs/\(∀ g∈gs,g∈hs)/\gs.length<=hs.length :=
 ⟨_,(x.drop _).take _,fun _ h=>List.mem_of_mem_drop (List.mem_of_mem_take h),by rw[List.length_take,List.length_drop];omega⟩
theorem bM.refs{H:Hp}{vs:List V}{hs:List Hap}(x:bM H vs hs):∀ v∈vs,∃ c,v=.ref c:=by
 induction x with
 | nil=>intro v h;cases h
 | cons a _ ih =>
  intro v h;rcases List.mem_cons.mp h with rfl|h
  ·obtain⟨c,e,_⟩:=a;exact⟨c,e⟩
  ·exact ih v h
theorem CK{xs:List V}{m:Nat}:gK xs none (some (m:Int))=xs.take m:=by
 unfold gK;rw[HT.EN,HT.xS,List.drop_zero,Nat.sub_zero,List.take_eq_take_iff];omega
noncomputable def EA(v:V):Prop:=cS v=true/\sF v v=true
theorem bZ(x:Str):EA (.str x):=⟨rfl,by simp[Hc]⟩
theorem iA(i:Int):EA (.int i):=⟨rfl,by simp[Oj]⟩
theorem g9(w:Wo):EA (wv w):=by
 cases w with
 | none=>exact⟨rfl,rfl⟩
 | some i=>exact iA i
structure jN(K:q0B)(H:Hp)(n:Nat)(xs ys:List V):Prop where
 len:xs.length=ys.length
 at':∀(j:Nat) x y,xs[j]?=some x->ys[j]?=some y->pC K H n x y true
section
variable {K:q0B} {H:Hp} {n:Nat} {a b:Addr} {x y:V} {xs ys us vs:List V}
theorem jN.nil:jN K H n [] []:=⟨rfl,fun j x y e=>by simp at e⟩
theorem jN.cons(h:pC K H n x y true)(t:jN K H n xs ys):jN K H n (x::xs) (y::ys):=⟨by simp[t.len],fun j u v e1 e2=>by
 cases j with
 | zero =>
  simp only[List.getElem?_cons_zero,Option.some.injEq] at e1 e2;subst e1 e2;exact h
 | succ j=>exact t.at' j u v (by simpa using e1) (by simpa using e2)⟩
theorem jN.app(h:jN K H n xs ys)(t:jN K H n us vs):jN K H n (xs++us) (ys++vs):=⟨by simp[h.len,t.len],fun j u v e1 e2=>by
 by_cases c:j < xs.length
 ·rw[List.getElem?_append_left c] at e1;rw[List.getElem?_append_left (by rw[<- h.len];exact c)] at e2;exact h.at' j u v e1 e2
 ·rw[List.getElem?_append_right (by omega)] at e1;rw[List.getElem?_append_right (by rw[<- h.len];omega),<- h.len] at e2;exact t.at' _ u v e1 e2⟩
theorem EA.eq(h:EA x):pC K H n x x true:=DY h.1 h.2
theorem jN.refl(h:∀ v∈xs,EA v):jN K H n xs xs:=⟨rfl,fun j u v e1 e2=>by
 rw[e1] at e2;cases e2;exact(h u (List.mem_of_getElem? e1)).eq⟩
theorem jN.tup(h:jN K H n xs ys)(ha:H a=some (.tup xs))(hb:H b=some (.tup ys)):pC K H (n+1) (.ref a) (.ref b) true:=Hb ha hb h.len h.at'
theorem jN.lst(h:jN K H n xs ys)(ha:H a=some (.lst xs))(hb:H b=some (.lst ys)):pC K H (n+1) (.ref a) (.ref b) true:=Oi ha hb h.len h.at'
theorem jN.rcT(h:jN K H n xs ys)(ha:H a=some (.tup xs))(hb:H b=some (.tup ys)):mW K H (n+1) a b true:=by
 have:=mW.tup (K:=K) (H:=H) (n:=n) (e:=fun _=>true) (fO.of ha) (fO.of hb) h.at'
 rwa [show((List.range (min xs.length ys.length)).all (fun _=>true)&&xs.length==ys.length)=true by simp[h.len]] at this
theorem Q5{cs:Cmds}(h:gM H us cs)(g:gM H vs cs)(f:qD cs):jN K H (n+1) us vs:=⟨by rw[h.len,g.len],Q4 h g f⟩
theorem HE{ps:List (V×V)}(h:fN H us ps)(g:fN H vs ps)(f:∀ p∈ps,EA p.1/\EA p.2):jN K H (n+1) us vs:=by
 induction h generalizing vs with
 | nil=>cases g;exact .nil
 | @cons a x y us ps e _ ih =>
  cases g with
  | cons e2 g =>
   have:=f (x,y) (by simp);exact .cons (jN.tup (.cons this.1.eq (.cons this.2.eq .nil)) e e2) (ih g fun p hp=>f p (List.mem_cons_of_mem _ hp))
theorem OA{ps:List (Str×List Wo)}(h:iZ H us ps)(g:iZ H vs ps):jN K H (n+2) us vs:=by
 induction h generalizing vs with
 | nil=>cases g;exact .nil
 | @cons a b k ws us ps e e' _ ih =>
  cases g with
  | cons e2 e2' g =>
   refine .cons (jN.tup (.cons (bZ k).eq (.cons (jN.tup (jN.refl fun v hv=>?_) e' e2') .nil)) e e2) (ih g);obtain⟨w,_,rfl⟩:=List.mem_map.mp hv;exact g9 w
theorem sR(ts:List Int):∀ v∈ts.map V.int,EA v:=fun v hv=>by
 obtain⟨i,_,rfl⟩:=List.mem_map.mp hv;exact iA i
theorem Ul{s:Slp}(h:iD H x s)(g:iD H y s):pC K H (n+2) x y true:=by
 cases s with
 | Zj =>
  rw[show x=.Zj from h,show y=.Zj from g];exact(show EA .Zj from ⟨rfl,rfl⟩).eq
 | new =>
  obtain⟨p,rfl,e⟩:=h;obtain⟨p2,rfl,e2⟩:=g;exact jN.tup (.cons (bZ _).eq .nil) e e2
 | wait ts =>
  obtain⟨p,p2,rfl,e,f⟩:=h;obtain⟨q,q2,rfl,e2,f2⟩:=g;exact jN.tup (.cons (bZ _).eq (.cons (jN.tup (jN.refl (sR ts)) f f2) .nil)) e e2
 | Zp k =>
  obtain⟨p,rfl,e⟩:=h;obtain⟨p2,rfl,e2⟩:=g;exact jN.tup (.cons (bZ _).eq (.cons (bZ _).eq .nil)) e e2
 | ended w =>
  obtain⟨p,rfl,e⟩:=h;obtain⟨p2,rfl,e2⟩:=g;exact jN.tup (.cons (bZ _).eq (.cons (g9 _).eq .nil)) e e2
 | worn =>
  obtain⟨p,rfl,e⟩:=h;obtain⟨p2,rfl,e2⟩:=g;exact jN.tup (.cons (bZ _).eq .nil) e e2
theorem Ai(nm:List (Str×Wo)):∀(l:List Str),∀ p∈fW nm l,EA p.1/\EA p.2
 | [],p,h=>by simp[fW] at h
 | k::l,p,h=>by
  simp only[fW] at h;split at h
  ·exact Ai nm l p h
  ·rcases List.mem_cons.mp h with rfl|h
   ·exact⟨bZ _,g9 _⟩
   ·exact Ai nm l p h
end
theorem eQ:qD []:=fun _ h=>by cases h
theorem Iv{a b:Cmds}(h:qD a)(g:qD b):qD (a++b):=fun c hc=>by
 rcases List.mem_append.mp hc with hc|hc
 ·exact h c hc
 ·exact g c hc
theorem fJ{c:List V}(h:∀ v∈c,EA v):qD [c]:=fun x hx=>by
 rw[show x=c by simpa using hx];exact h
noncomputable def JF(m:Nat)(cs:Cmds):Prop:=qD cs/\cs.length<=m
theorem Kc(S:Pu)(m:Stm):JF 1 (cT S m).2:=by
 refine⟨?_,DV S m⟩;cases m with
 | set x s=>exact eQ
 | order x y s=>exact fJ (by simp only[List.forall_mem_cons];exact⟨bZ _,iA _,bZ _,g9 _,by simp⟩)
 | child x y s=>exact fJ (by simp only[List.forall_mem_cons];exact⟨bZ _,iA _,bZ _,g9 _,by simp⟩)
 | Zx x s=>exact fJ (by simp only[List.forall_mem_cons];exact⟨bZ _,iA _,iA _,by simp⟩)
 | send s k r=>exact fJ (by simp only[List.forall_mem_cons];exact⟨bZ _,g9 _,bZ _,g9 _,by simp⟩)
 | drop s =>
  simp only[Own.cT];split
  ·split
   ·exact fJ (by simp only[List.forall_mem_cons];exact⟨bZ _,iA _,by simp⟩)
   ·exact eQ
  ·exact eQ
 | Zp x k =>
  simp only[Own.cT];split<;>exact eQ
 | wait x ss =>
  simp only[Own.cT];split<;>exact eQ
 | fin s=>exact fJ (by simp only[List.forall_mem_cons];exact⟨bZ _,g9 _,by simp⟩)
 | Z9 s b=>exact eQ
 | iff s b o=>exact eQ
theorem OK(S:Pu)(m:Stm):JF 1 (one S m).2:=by
 unfold one;split
 ·exact⟨eQ,by simp⟩
 ·exact Kc S m
theorem sO:∀(n:Nat) (S:Pu),JF (n+1) (iP n S).2
 | 0,S=>by
  cases e:cI S.cG.stk with
  | none=>rw[dY e];exact⟨fJ (by simp only[List.forall_mem_cons];exact⟨bZ _,g9 _,by simp⟩),by simp[Pu.ends]⟩
  | some m=>rw[jR e];exact⟨fJ (by simp only[List.forall_mem_cons];exact⟨bZ _,by simp⟩),by simp[Pu.Cu]⟩
 | n+1,S=>by
  cases e:cI S.cG.stk with
  | none=>rw[dY e];exact⟨fJ (by simp only[List.forall_mem_cons];exact⟨bZ _,g9 _,by simp⟩),by simp[Pu.ends]⟩
  | some m =>
   have h1:=OK S.cG m;cases z:(one S.cG m).1.sl.isN with
   | true =>
    rw[pM e z];have h2:=sO n (one S.cG m).1;exact⟨Iv h1.1 h2.1,by simp only[List.length_append];have:=h1.2;have:=h2.2;omega⟩
   | false=>rw[jQ e z];exact⟨h1.1,by have:=h1.2;omega⟩
theorem E5(S:Pu)(w:Wo):JF 301 (S.wake w).2:=by
 unfold Pu.wake;split
 ·exact sO 300 _
 ·exact sO 300 _
 ·exact⟨eQ,by simp⟩
theorem MI(S:Pu)(x:Hap):JF 301 (S.take x).2:=by
 have nl:JF 301 []:=⟨eQ,by simp⟩;unfold Pu.take;split
 ·exact nl
 cases x with
 | beg m w=>exact sO 300 _
 | don m i w =>
  show JF 301 ((S.at' m).gZ i w).2;unfold Pu.gZ;split
  ·split
   ·exact E5 _ _
   ·exact nl
  ·exact nl
 | ltr m k w =>
  show JF 301 ((S.at' m).iI k w).2;unfold Pu.iI;split
  ·split
   ·exact E5 _ _
   ·exact nl
  ·exact nl
theorem jS:∀(l:List Hap) (S:Pu),∀ cs∈(takes S l).2,JF 301 cs
 | [],S,cs,h=>by simp[takes] at h
 | x::l,S,cs,h=>by
  simp only[takes,List.mem_cons] at h;rcases h with rfl|h
  ·exact MI S x
  ·exact jS l _ cs h
noncomputable def Hap.inK(h:Hap):Prop:=h.sI/\∀ m k w,h=.ltr m k w->k∈KY3
theorem eC.takes{L:List Str}:∀(l:List Hap) {S:Pu},eC L S->eC L (takes S l).1
 | [],_,h=>h
 | x::l,_,h=>eC.takes l (h.take x)
theorem fA.takes:∀(l:List Hap) {S:Pu},fA KY3 S->(∀ h∈l,h.inK)->fA KY3 (takes S l).1
 | [],_,h,_=>h
 | x::l,_,h,f=>fA.takes l (h.take x (f x (by simp)).2) fun y hy=>f y (List.mem_cons_of_mem _ hy)
theorem Tw{b:List Stm}(h:c9 NM4 b):eC NM4 (dS b):=⟨by simp[dS],by simp[dS],fun x hx=>by rw[show x=(0,b,0) by simpa[dS] using hx];exact h⟩
theorem Tr{b:List Stm}:fA KY3 (dS b):=⟨by simp[dS],by simp[dS]⟩
structure Fine(S:Pu)(N:Nat):Prop where
 fit:Zv true S N
 isN:S.sl.isN=false
 nm:eC NM4 S
 lt:fA KY3 S
noncomputable def kZ(H:Hp)(tl:Nat->List V)(rs:List Addr)(Zr:List Cmds):Prop:=rs.length=Zr.length/\∀(j:Nat) (a:Addr) (cs:Cmds),rs[j]?=some a->Zr[j]?=some cs->∃ us,H a=some (.lst (us++tl j))/\gM H us cs
theorem kZ.of{H:Hp}{rs:List Addr}{Zr:List Cmds}(h:eU H rs Zr):kZ H (fun _=>[]) rs Zr:=by
 induction h with
 | nil=>exact⟨rfl,fun j a cs e=>by simp at e⟩
 | @cons a us cs as Zr e c _ ih =>
  refine⟨by simp[ih.1],fun j b ds e1 e2=>?_⟩;cases j with
  | zero =>
   simp only[List.getElem?_cons_zero,Option.some.injEq] at e1 e2;subst e1 e2;exact⟨us,by simpa using e,c⟩
  | succ j=>exact ih.2 j b ds (by simpa using e1) (by simpa using e2)
theorem kZ.keep{H H':Hp}{tl:Nat->List V}{rs:List Addr}{Zr:List Cmds}(h:kZ H tl rs Zr)(k:∀ a∈rs,∀ o,H a=some o->H' a=some o)(t:aL H H'):kZ H' tl rs Zr:=⟨h.1,fun j a cs e1 e2=>by
 obtain⟨us,e,c⟩:=h.2 j a cs e1 e2;exact⟨us,k a (List.mem_of_getElem? e1) _ e,c.kt t⟩⟩
theorem kZ.kp{H H':Hp}{tl:Nat->List V}{rs:List Addr}{Zr:List Cmds}(h:kZ H tl rs Zr)(k:Kp [] H H'):kZ H' tl rs Zr:=h.keep (fun _ _ _ e=>k.at e) (aL.nil k)
theorem kZ.take{H:Hp}{tl:Nat->List V}{rs:List Addr}{Zr:List Cmds}(h:kZ H tl rs Zr)(m:Nat):kZ H tl (rs.take m) (Zr.take m):=⟨by simp[h.1],fun j a cs e1 e2=>by
 rw[List.getElem?_take] at e1 e2;split at e1
 ·next hj=>rw[if_pos hj] at e2;exact h.2 j a cs e1 e2
 ·cases e1⟩
theorem kZ.at'{H:Hp}{tl:Nat->List V}{rs:List Addr}{Zr:List Cmds}(h:kZ H tl rs Zr){j:Nat}{a:Addr}(e:rs[j]?=some a):∃ us cs,Zr[j]?=some cs/\H a=some (.lst (us++tl j))/\gM H us cs:=by
 have hj:j < Zr.length:=by rw[<- h.1];exact(List.getElem?_eq_some_iff.mp e).1
 obtain⟨us,e1,c⟩:=h.2 j a Zr[j] e (List.getElem?_eq_getElem hj);exact⟨us,Zr[j],List.getElem?_eq_getElem hj,e1,c⟩
theorem kZ.there{H:Hp}{tl:Nat->List V}{rs:List Addr}{Zr:List Cmds}(h:kZ H tl rs Zr):∀ a∈rs,∃ us,H a=some (.lst us):=fun a ha=>by
 obtain⟨j,e⟩:=List.mem_iff_getElem?.mp ha;obtain⟨us,cs,_,e1,_⟩:=h.at' e;exact⟨_,e1⟩
theorem kZ.rc{K:q0B}{H:Hp}{n:Nat}{tl:Nat->List V}{rs rs':List Addr}{Zr:List Cmds}{a b:Addr}(h:kZ H tl rs Zr)(g:kZ H tl rs' Zr)(ha:H a=some (.lst (rs.map V.ref)))(hb:H b=some (.lst (rs'.map V.ref)))(f:∀ cs∈Zr,JF 301 cs)(ft:∀ j,∀ v∈tl j,EA v):mW K H (n+3) a b true:=by
 refine HG ha hb (by simp[h.1,g.1]) fun j x y e1 e2=>?_;rw[List.getElem?_map] at e1 e2;obtain⟨c,e3,rfl⟩:=Option.map_eq_some_iff.mp e1;obtain⟨d,e4,rfl⟩:=Option.map_eq_some_iff.mp e2;obtain⟨us,cs,e5,e6,hc⟩:=h.at' e3;obtain⟨vs,e7,hd⟩:=g.2 j d cs e4 e5;exact jN.lst ((Q5 hc hd (f cs (List.mem_of_getElem? e5)).1).app (jN.refl (ft j))) e6 e7
noncomputable def oJ(i:Nat):Nat->List V:=fun j=>if j < i then [.str "more"] else []
theorem kZ.more{H:Hp}{rs:List Addr}{Zr:List Cmds}{i:Nat}{a:Addr}{us:List V}(h:kZ H (oJ i) rs Zr)(nd:rs.Nodup)(e:rs[i]?=some a)(ea:H a=some (.lst us)):kZ (Zh H a (.lst (us++[.str "more"]))) (oJ (i+1)) rs Zr:=⟨h.1,fun j b cs e1 e2=>by
 obtain⟨vs,e3,c⟩:=h.2 j b cs e1 e2;have t:aL H (Zh H a (.lst (us++[.str "more"]))):=aL.A7 ea (by intro _ z;cases z);by_cases hj:j=i
 ·subst hj;rw[e] at e1;cases e1;rw[ea] at e3;have e4:us=vs++oJ j j:=by simpa using e3
  have e5:oJ j j=[]:=if_neg (by omega);rw[e5,List.append_nil] at e4;subst e4;exact⟨us,by rw[aA,oJ,if_pos (by omega)],c.kt t⟩
 ·have nb:b≠a:=fun z=>by
   subst z;exact hj ((List.getElem?_inj (List.getElem?_eq_some_iff.mp e1).1 nd).mp (by rw[e1,e]))
  refine⟨vs,?_,c.kt t⟩;rw[aG nb,e3];have:oJ i j=oJ (i+1) j:=by
   unfold oJ;by_cases h1:j < i
   ·rw[if_pos h1,if_pos (by omega)]
   ·rw[if_neg h1,if_neg (by omega)]
  rw[this]⟩
theorem kZ.all{H:Hp}{rs:List Addr}{Zr:List Cmds}{i:Nat}(h:kZ H (oJ i) rs Zr)(l:rs.length<=i):kZ H (fun _=>[.str "more"]) rs Zr:=⟨h.1,fun j a cs e1 e2=>by
 obtain⟨us,e,c⟩:=h.2 j a cs e1 e2;have hj:j < rs.length:=(List.getElem?_eq_some_iff.mp e1).1;exact⟨us,by rw[e,oJ,if_pos (by omega)],c⟩⟩
theorem kZ.snoc{H:Hp}{t:List V}{rs:List Addr}{Zr:List Cmds}{a:Addr}{us:List V}{cs:Cmds}(h:kZ H (fun _=>t) rs Zr)(e:H a=some (.lst (us++t)))(c:gM H us cs):kZ H (fun _=>t) (rs++[a]) (Zr++[cs]):=⟨by simp[h.1],fun j b ds e1 e2=>by
 by_cases hj:j < rs.length
 ·rw[List.getElem?_append_left hj] at e1;rw[List.getElem?_append_left (by rw[<- h.1];exact hj)] at e2;exact h.2 j b ds e1 e2
 ·rw[List.getElem?_append_right (by omega)] at e1;rw[List.getElem?_append_right (by rw[<- h.1];omega),<- h.1] at e2;cases hk:j - rs.length with
  | zero =>
   rw[hk] at e1 e2;simp only[List.getElem?_cons_zero,Option.some.injEq] at e1 e2;subst e1 e2;exact⟨us,e,c⟩
  | succ k=>rw[hk] at e1;simp at e1⟩
theorem aY.QH{C:Cl}{H:Hp}{R R':Rn}{as ZC:List Addr}{sl Zz:V}{S S':Pu}(A:aY C H R as sl S)(B:aY C H R' ZC Zz S'):R'.wk∉R.cells/\R'.wk∉as:=by
 obtain⟨kvs,e,L⟩:=A.lt;obtain⟨vs,el,_⟩:=A.wk.bl;have w:=B.wk.ins;refine⟨fun h=>?_,fun h=>?_⟩
 ·simp only[Rn.cells,List.mem_cons,List.not_mem_nil,or_false] at h;rcases h with h|h|h|h|h|h|h|h<;>rw[h] at w
  ·rw[A.ins] at w;simp at w
  ·rw[el] at w;cases w
  ·rw[A.wk.nu] at w;cases w
  ·rw[A.nm] at w;cases w
  ·rw[A.tk.ins] at w;simp at w
  ·rw[A.tk.hp] at w;cases w
  ·rw[A.tk.ha] at w;cases w
  ·rw[e] at w;cases w
 ·obtain⟨xs,ex⟩:=L.ex _ h;rw[ex] at w;cases w
structure Two(C:Cl)(G:Hp)(R1 R2:Rn)(ZO ZI:List Addr)(Z6 ZU:V)(S1 S2:Pu)(L:List Addr):Prop where
 a1:aY C G R1 ZO Z6 S1
 a2:aY C G R2 ZI ZU S2
 dis:∀ a,a∈R1.cells\/a∈ZO->a∉R2.cells/\a∉ZI
 sf:∀ a∈L,(∃ o,G a=some o)/\(a∉R1.cells/\a∉ZO)/\a∉R2.cells/\a∉ZI
section
variable {C:Cl} {G G':Hp} {R1 R2:Rn} {ZO ZI ZC:List Addr} {Z6 ZU Zz:V} {S1 S2 S':Pu} {L:List Addr}
theorem Two.symm(h:Two C G R1 R2 ZO ZI Z6 ZU S1 S2 L):Two C G R2 R1 ZI ZO ZU Z6 S2 S1 L :=
 ⟨h.a2,h.a1,fun a ha=>⟨fun z=>by rcases ha with y|y;exact(h.dis a (.inl z)).1 y;exact(h.dis a (.inl z)).2 y,fun z=>by rcases ha with y|y;exact(h.dis a (.inr z)).1 y;exact(h.dis a (.inr z)).2 y⟩,fun a ha=>⟨(h.sf a ha).1,(h.sf a ha).2.2,(h.sf a ha).2.1⟩⟩
theorem Two.keep(h:Two C G R1 R2 ZO ZI Z6 ZU S1 S2 L)(F:Fw R1 ZO ZC G G'):∀ a∈L,∀ o,G a=some o->G' a=some o:=fun a ha o e=>F.kp a o e (h.sf a ha).2.1.1 (h.sf a ha).2.1.2
theorem Two.step(h:Two C G R1 R2 ZO ZI Z6 ZU S1 S2 L)(F:Fw R1 ZO ZC G G')(A:aY C G' R1 ZC Zz S'):Two C G' R1 R2 ZC ZI Zz ZU S' S2 L:=by
 have d:=h.symm.dis;refine⟨A,h.a2.keep (fun b o e hb=>?_) (h.a1.tkp F),fun a ha=>?_,fun a ha=>?_⟩
 ·rcases hb with rfl|hb
  ·exact F.kp _ o e (h.a1.QH h.a2).1 (h.a1.QH h.a2).2
  ·exact F.kp b o e (d b hb).1 (d b hb).2
 ·rcases ha with ha|ha
  ·exact h.dis a (.inl ha)
  ·rcases F.new a ha with z|z
   ·exact h.dis a (.inr z)
   ·exact h.a2.dH z
 ·obtain⟨⟨o,e⟩,n1,n2⟩:=h.sf a ha;refine⟨⟨o,h.keep F a ha o e⟩,⟨n1.1,fun z=>?_⟩,n2⟩;rcases F.new a z with y|y
  ·exact n1.2 y
  ·rw[e] at y;cases y
theorem Two.kp(h:Two C G R1 R2 ZO ZI Z6 ZU S1 S2 L)(k:Kp [] G G'):Two C G' R1 R2 ZO ZI Z6 ZU S1 S2 L:=⟨h.a1.kp k,h.a2.kp k,h.dis,fun a ha=>by
 obtain⟨⟨o,e⟩,n⟩:=h.sf a ha;exact⟨⟨o,k.at e⟩,n⟩⟩
theorem Two.more{L':List Addr}{st:Addr}{o:HO}(h:Two C G R1 R2 ZO ZI Z6 ZU S1 S2 L)(e:G st=some o)(n1:st∉R1.cells/\st∉ZO)(n2:st∉R2.cells/\st∉ZI)(sub:∀ a∈L',a=st\/a∈L):Two C G R1 R2 ZO ZI Z6 ZU S1 S2 L':=⟨h.a1,h.a2,h.dis,fun a ha=>by
 rcases sub a ha with rfl|z
 ·exact⟨⟨o,e⟩,n1,n2⟩
 ·exact h.sf a z⟩
theorem Two.app{hd:Addr}{us vs:List V}(h:Two C G R1 R2 ZO ZI Z6 ZU S1 S2 L)(e:G hd=some (.lst us))(hh:hd∈L):Two C (Zh G hd (.lst vs)) R1 R2 ZO ZI Z6 ZU S1 S2 L:=by
 obtain⟨_,n1,n2⟩:=h.sf hd hh;refine⟨h.a1.other e n1.1 n1.2,h.a2.other e n2.1 n2.2,h.dis,fun a ha=>⟨?_,(h.sf a ha).2⟩⟩;by_cases z:a=hd
 ·exact⟨_,by rw[z,aA]⟩
 ·obtain⟨o,eo⟩:=(h.sf a ha).1;exact⟨o,by rw[aG z,eo]⟩
structure Hld(G:Hp)(t2 x2 cl hl hd st:Addr)(ZQ Z5:List Addr)(hv:List V)(Zr:List Cmds):Prop where
 et:G t2=some (.tup [.ref x2,.ref cl])
 c2:G cl=some (.lst (ZQ.map V.ref))
 w2:kZ G (fun _=>[.str "more"]) ZQ Zr
 c3:G hl=some (.lst (Z5.map V.ref))
 w3:kZ G (fun _=>[.str "more"]) Z5 Zr
 eh:G hd=some (.lst hv)
 es:G st=some (.lst hv)
variable {t2 x2 cl1 cl2 cl hl hd st:Addr} {rs1 ZQ Z5:List Addr} {hv hv':List V} {Zr:List Cmds}
theorem Hld.keep(h:Hld G t2 x2 cl hl hd st ZQ Z5 hv Zr)(k:∀ a∈cl::hl::hd::st::(ZQ++Z5),∀ o,G a=some o->G' a=some o)(t:aL G G'):Hld G' t2 x2 cl hl hd st ZQ Z5 hv Zr :=
 ⟨t _ _ h.et,k _ (by simp) _ h.c2,h.w2.keep (fun a ha=>k a (by simp[ha])) t,k _ (by simp) _ h.c3,h.w3.keep (fun a ha=>k a (by simp[ha])) t,k _ (by simp) _ h.eh,k _ (by simp) _ h.es⟩
theorem Hld.kp(h:Hld G t2 x2 cl hl hd st ZQ Z5 hv Zr)(k:Kp [] G G'):Hld G' t2 x2 cl hl hd st ZQ Z5 hv Zr:=h.keep (fun _ _ _ e=>k.at e) (aL.nil k)
theorem Hld.app(h:Hld G t2 x2 cl hl hd hd ZQ Z5 hv Zr)(n:∀ a∈cl::hl::(ZQ++Z5),a≠hd):Hld (Zh G hd (.lst hv')) t2 x2 cl hl hd hd ZQ Z5 hv' Zr:=by
 have t:aL G (Zh G hd (.lst hv')):=aL.A7 h.eh (by intro _ z;cases z);have k:∀ a∈cl::hl::(ZQ++Z5),∀ o,G a=some o->Zh G hd (.lst hv') a=some o:=fun a ha o e=>by rw[aG (n a ha),e]
 exact⟨t _ _ h.et,k _ (by simp) _ h.c2,h.w2.keep (fun a ha=>k a (by simp[ha])) t,k _ (by simp) _ h.c3,h.w3.keep (fun a ha=>k a (by simp[ha])) t,aA,aA⟩
structure Mid(C:Cl)(G0 G:Hp)(R1 R2:Rn)(ZO ZI:List Addr)(Z6 ZU:V)(S:Pu)(cl1 cl2 hd t2:Addr)(rs1 ZQ:List Addr)(Zr:List Cmds)(hv:List V)(i:Nat):Prop where
 k:Kp [] G0 G
 a1:aY C G R1 ZO Z6 S
 a2:aY C G R2 ZI ZU S
 c1:G cl1=some (.lst (rs1.map V.ref))
 w1:kZ G (fun _=>[]) rs1 Zr
 c2:G cl2=some (.lst (ZQ.map V.ref))
 w2:kZ G (oJ i) ZQ Zr
 et:G t2=some (.tup [.ref R2.x,.ref cl2])
 eh:G hd=some (.lst hv)
structure Apt(G0:Hp)(R1 R2:Rn)(ZO ZI:List Addr)(cl1 cl2 hd:Addr)(rs1 ZQ:List Addr):Prop where
 dis:∀ a,a∈R1.cells\/a∈ZO->a∉R2.cells/\a∉ZI
 h1:hd∉R1.cells/\hd∉ZO
 h2:hd∉R2.cells/\hd∉ZI
 d1:cl2∉R1.cells/\cl2∉ZO
 d2:cl2∉R2.cells/\cl2∉ZI
 dh:cl2≠hd
 nd:ZQ.Nodup
 rs:∀ a∈ZQ,(a∉R1.cells/\a∉ZO)/\(a∉R2.cells/\a∉ZI)/\a≠cl2/\a≠hd/\a∉rs1/\a≠cl1/\G0 a=none
 g1:∀ a,a∈R1.cells\/a∈ZO->G0 a=none
 g2:∀ a,a∈R2.cells\/a∈ZI->G0 a=none
 gh:G0 hd=none
variable {G0:Hp} {S:Pu} {i:Nat}
theorem Mid.kp(h:Mid C G0 G R1 R2 ZO ZI Z6 ZU S cl1 cl2 hd t2 rs1 ZQ Zr hv i)(k:Kp [] G G'):Mid C G0 G' R1 R2 ZO ZI Z6 ZU S cl1 cl2 hd t2 rs1 ZQ Zr hv i:=⟨h.k.trans k,h.a1.kp k,h.a2.kp k,k.at h.c1,h.w1.kp k,k.at h.c2,h.w2.kp k,k.at h.et,k.at h.eh⟩
theorem Mid.more(h:Mid C G0 G R1 R2 ZO ZI Z6 ZU S cl1 cl2 hd t2 rs1 ZQ Zr hv i)(p:Apt G0 R1 R2 ZO ZI cl1 cl2 hd rs1 ZQ){a:Addr}{us:List V}(e:ZQ[i]?=some a)(ea:G a=some (.lst us)):Mid C G0 (Zh G a (.lst (us++[.str "more"]))) R1 R2 ZO ZI Z6 ZU S cl1 cl2 hd t2 rs1 ZQ Zr hv (i+1):=by
 obtain⟨n1,n2,n3,n4,n5,n6,n7⟩:=p.rs a (List.mem_of_getElem? e);have t:aL G (Zh G a (.lst (us++[.str "more"]))):=aL.A7 ea (by intro _ z;cases z);refine⟨fun b o eb _=>?_,h.a1.other ea n1.1 n1.2,h.a2.other ea n2.1 n2.2,?_,h.w1.keep (fun b hb o eb=>?_) t,?_,h.w2.more p.nd e ea,t _ _ h.et,?_⟩
 ·rw[aG (aK eb n7)];exact h.k.at eb
 ·rw[aG (fun z=>n6 z.symm)];exact h.c1
 ·rw[aG (fun z=>n5 (by rw[<- z];exact hb))];exact eb
 ·rw[aG (fun z=>n3 z.symm)];exact h.c2
 ·rw[aG (fun z=>n4 z.symm)];exact h.eh
theorem Cw.kp{G G':Hp}{p:Addr}{S:Pu}(h:Cw G p S)(k:Kp [] G G'):Cw G' p S:=by
 obtain⟨v,sl,lo,e,hv,hs,eo⟩:=h;exact⟨v,sl,lo,k.at e,hv.kt (aL.nil k),hs.kt (aL.nil k),k.at eo⟩
end
theorem Fine.args{S:Pu}{N:Nat}(h:Fine S N)(l:N<=900000):S.sl.isN=false/\S.pend.length<=1000000/\S.nm.length < 64/\S.lt.length < 64/\S.ans.length<=1000000/\(∀ k ws,cK S.lt k=some ws->ws.length<=1000000):=by
 have h1:=h.nm.len;have h2:=h.lt.len;have h3:NM4.length=4:=rfl;have h4:KY3.length=3:=rfl;have h5:=h.fit.pd;have h6:=h.fit.an;exact⟨h.isN,by omega,by omega,by omega,by omega,fun k ws e=>by have:=h.fit.lw k ws e;omega⟩
theorem Fine.take{S:Pu}{N:Nat}(h:Fine S N){x:Hap}(f:x.inK)(l:N<=400000)(hp:∀ j∈S.pend,eZ (some j)):Fine (S.take x).1 (N+302):=⟨h.fit.Dz x f.1.1 f.1.2 hp (by omega),Bh h.isN x,h.nm.take x,h.lt.take x f.2⟩
theorem Fine.pend{C:Cl}{H:Hp}{R:Rn}{as:List Addr}{sl:V}{S:Pu}{N:Nat}(h:Fine S N)(A:aY C H R as sl S)(l:N<=900000):∀ j∈S.pend,eZ (some j):=fun j hj=>by
 have:=A.tk.lt j hj;have:=h.fit.md;exact cM (by omega) (by omega)
theorem Fine.new{b:List Stm}{l:List Hap}(g:Zv true (takes (dS b) l).1 (302 * l.length))(n:(takes (dS b) l).1.sl.isN=false)(nb:c9 NM4 b)(f:∀ h∈l,h.inK):Fine (takes (dS b) l).1 (302 * l.length):=⟨g,n,(Tw nb).takes l,Tr.takes l f⟩
noncomputable def O7:Sp:=fun vs H Q _=>∃(cl:Addr) (ms:List Int),vs=[.ref cl]/\H cl=some (.lst (ms.map V.int))/\ms.length<=63/\∀(p:Addr) (us:List V) (hs:List Hap) (H':Hp),H' p=some (.lst us)->bM H' us hs->(∀ h∈hs,h.inK)->hs.length<=66->H p=none->Kp [] H H'->Q (.ref p) H'
noncomputable def Ut:Sp:=fun vs H Q _=>∃(pg:Addr) (us:List V) (b:List Stm) (c:Int),vs=[.ref pg,.int c]/\H pg=some (.tup us)/\bF H us b/\rR true b/\c9 NM4 b/\rQ b<=1/\b.length<=250/\∀(p:Addr) (us:List V) (b':List Stm) (H':Hp),H' p=some (.tup us)->bF H' us b'->rR true b'->c9 NM4 b'->rQ b'<=1->b'.length<=3 * b.length+1->Kp [] H H'->Q (.ref p) H'
noncomputable def OH(m:Stm):Prop:=m.gd true/\m.fG NM4/\m.dp<=1
theorem OI{b:List Stm}(g:rR true b)(n:c9 NM4 b)(d:rQ b<=1):∀ m∈b,OH m:=fun m hm=>by
 obtain⟨i,e⟩:=List.mem_iff_getElem?.mp hm;exact⟨Fz g e,Ah n e,Nat.le_trans (Fm e) d⟩
theorem Hw{b:List Stm}(h:∀ m∈b,OH m):rR true b/\c9 NM4 b/\rQ b<=1:=by
 induction b with
 | nil=>exact⟨by simp only[rR],by simp only[c9],by simp[rQ]⟩
 | cons m b ih =>
  obtain⟨a1,a2,a3⟩:=h m (by simp);obtain⟨b1,b2,b3⟩:=ih fun x hx=>h x (List.mem_cons_of_mem _ hx);exact⟨by simp only[rR];exact⟨a1,b1⟩,by simp only[c9];exact⟨a2,b2⟩,by simp only[rQ];omega⟩
theorem bF.Xi{H:Hp}{vs:List V}{ms:List Stm}(h:bF H vs ms):∀ {i:Nat} {v:V},vs[i]?=some v->∃ m,ms[i]?=some m/\cL H v m:=by
 induction ms generalizing vs with
 | nil=>cases h;intro i v e;simp at e
 | cons m ms ih =>
  cases h with
  | cons a b =>
   intro i v e;cases i with
   | zero=>simp only[List.getElem?_cons_zero,Option.some.injEq] at e;subst e;exact⟨m,rfl,a⟩
   | succ i=>exact ih b (by simpa using e)
theorem bF.pick{H:Hp}:∀ {vs:List V} {P:Stm->Prop},(∀ v∈vs,∃ m,cL H v m/\P m)->∃ ms,bF H vs ms/\(∀ m∈ms,P m)/\ms.length=vs.length
 | [],_,_=>⟨[],.nil,by simp,rfl⟩
 | v::vs,P,h=>by
  obtain⟨m,a,b⟩:=h v (by simp);obtain⟨ms,c,d,e⟩:=bF.pick (vs:=vs) fun x hx=>h x (List.mem_cons_of_mem _ hx);exact⟨m::ms,.cons a c,fun x hx=>by
   rcases List.mem_cons.mp hx with rfl|hx
   ·exact b
   ·exact d x hx,by simp[e]⟩
theorem bF.all{H:Hp}{vs:List V}{ms:List Stm}{P:Stm->Prop}(h:bF H vs ms)(p:∀ m∈ms,P m):∀ v∈vs,∃ m,cL H v m/\P m:=fun v hv=>by
 obtain⟨i,e⟩:=List.mem_iff_getElem?.mp hv;obtain⟨m,a,b⟩:=h.Xi e;exact⟨m,b,p m (List.mem_of_getElem? a)⟩
theorem Ka{xs:List V}{a b:Option Int}{v:V}(h:v∈gK xs a b):v∈xs:=List.mem_of_mem_drop (List.mem_of_mem_take h)
theorem tK{H:Hp}{a:Addr}{xs:List V}{lo hi:Option Int}{Q:VK}(ha:H a=some (.tup xs))(h:∀ p H',H' p=some (.tup (gK xs lo hi))->Kp [] H H'->Q (.ref p) H'):Vi (.ref a) lo hi H Q:=by
 show gX (H a) _;rw[ha];exact⟨fun hw=>h a H (by rw[ha];unfold gK;rw[hw.1,hw.2,List.drop_zero,Nat.sub_zero,List.take_length]) Kp.refl,fun _ p hp=>h p _ aA (Kp.new hp)⟩
theorem Bi{H:Hp}{a b:Addr}{xs ys:List V}{Q:VK}(ha:H a=some (.tup xs))(hb:H b=some (.tup ys))(l:xs.length+ys.length<=1000)(h:∀ p H',H' p=some (.tup (xs++ys))->Kp [] H H'->Q (.ref p) H'):JZ (.ref a) (.ref b) H Q:=by
 show GU (.ref a) (.ref b) H Q;rw[KY,ha,hb];refine⟨by rw[sizeLine_eq];omega,?_⟩;split
 ·next z=>exact h b H (by rw[hb,z];rfl) Kp.refl
 ·split
  ·next z=>exact h a H (by rw[ha,z,List.append_nil]) Kp.refl
  ·exact fun p hp=>h p _ aA (Kp.new hp)
noncomputable def teq(c d:List V):Bool:=(List.range (min c.length d.length)).all (fun j=>match c[j]?,d[j]? with|some x,some y=>sF x y|_,_=>true)&&c.length==d.length
noncomputable def ceq(cs ds:Cmds):Bool:=if cs.length=ds.length then (List.range cs.length).all (fun j=>match cs[j]?,ds[j]? with|some c,some d=>teq c d|_,_=>true) else false
theorem MJ{c:List V}(h:∀ v∈c,EA v):teq c c=true:=by
 unfold teq;rw[Bool.and_eq_true,List.all_eq_true];refine⟨fun j _=>?_,by simp⟩;cases e:c[j]? with
 | none=>rfl
 | some x=>exact(h x (List.mem_of_getElem? e)).2
theorem UE{K:q0B}{H:Hp}{n:Nat}{a b:Addr}{c d:List V}(ha:H a=some (.tup c))(hb:H b=some (.tup d))(fc:∀ v∈c,EA v)(fd:∀ v∈d,EA v):pC K H (n+1) (.ref a) (.ref b) (teq c d):=by
 by_cases hab:a=b
 ·subst hab;rw[ha] at hb;cases hb;rw[MJ fc];exact .same
 ·refine .refs hab (mW.tup (fO.of ha) (fO.of hb) fun j x y e1 e2=>?_);rw[e1,e2];exact pC.flat (fc x (List.mem_of_getElem? e1)).1 (fd y (List.mem_of_getElem? e2)).1
theorem Q3{K:q0B}{H:Hp}{n:Nat}{a b:Addr}{us vs:List V}{cs ds:Cmds}(ha:H a=some (.lst us))(hb:H b=some (.lst vs))(h:gM H us cs)(g:gM H vs ds)(fc:qD cs)(fd:qD ds):mW K H (n+2) a b (ceq cs ds):=by
 have l1:=h.len;have l2:=g.len;unfold ceq;split
 ·next hl =>
  rw[<- l1];refine mW.list (dQ.of ha) (dQ.of hb) (by omega) fun j x y e1 e2=>?_;obtain⟨p,c,rfl,e3,hp⟩:=h.at e1;obtain⟨p',d,rfl,e4,hp'⟩:=g.at e2;rw[e3,e4];exact UE hp hp' (fc c (List.mem_of_getElem? e3)) (fd d (List.mem_of_getElem? e4))
 ·next hl=>exact mW.ZL (dQ.of ha) (dQ.of hb) (by omega)
noncomputable def eV:List Cmds->List Cmds->Option Nat
 | a::r,b::r'=>if ceq a b=true then (eV r r').map (·+1) else some 0
 | _,_=>none
theorem vY:∀(a b:List Cmds) (k:Nat),eV (a.take k) (b.take k)=match eV a b with|none=>none|some n=>if n < k then some n else none
 | [],b,k=>by simp[eV]
 | x::a,[],k=>by simp[eV]
 | x::a,y::b,0=>by simp[eV];split<;>rfl
 | x::a,y::b,k+1=>by
  have ih:=vY a b k;simp only[List.take_succ_cons,eV];split
  ·rw[ih];cases eV a b with
   | none=>rfl
   | some n =>
    simp only[Option.map_some,Nat.add_lt_add_iff_right];split<;>rfl
  ·rfl
theorem vX:∀ {a b:List Cmds} (i:Nat) {x y:Cmds},a[i]?=some x->b[i]?=some y->(∀ j,j < i->∀ c d,a[j]?=some c->b[j]?=some d->ceq c d=true)->ceq x y=false->eV a b=some i
 | [],_,_,_,_,h,_,_,_=>by simp at h
 | _::_,[],_,_,_,_,h,_,_=>by simp at h
 | u::a,v::b,0,x,y,h1,h2,_,h4=>by
  simp only[List.getElem?_cons_zero,Option.some.injEq] at h1 h2;subst h1 h2;simp[eV,h4]
 | u::a,v::b,i+1,x,y,h1,h2,h3,h4=>by
  have e:=vX (a:=a) (b:=b) i (by simpa using h1) (by simpa using h2) (fun j hj c d e1 e2=>h3 (j+1) (by omega) c d (by simpa using e1) (by simpa using e2)) h4;simp only[eV,h3 0 (by omega) u v rfl rfl,if_true,e,Option.map_some]
theorem vW:∀ {a b:List Cmds},(∀(j:Nat) c d,a[j]?=some c->b[j]?=some d->ceq c d=true)->eV a b=none
 | [],_,_=>by simp[eV]
 | _::_,[],_=>by simp[eV]
 | u::a,v::b,h=>by
  have e:=vW (a:=a) (b:=b) fun j c d e1 e2=>h (j+1) c d (by simpa using e1) (by simpa using e2);simp only[eV,h 0 u v rfl rfl,if_true,e,Option.map_none]
noncomputable def YO:Sp:=fun vs H Q _=>∃(a b:Addr) (rs rs':List Addr) (Zr aaQ:List Cmds),vs=[.ref a,.ref b]/\H a=some (.lst (rs.map V.ref))/\H b=some (.lst (rs'.map V.ref))/\kZ H (fun _=>[]) rs Zr/\kZ H (fun _=>[]) rs' aaQ/\Zr.length=aaQ.length/\Zr.length<=1000/\(∀ c∈Zr,JF 301 c)/\(∀ c∈aaQ,JF 301 c) /\
 (eV Zr aaQ=none->∀ H',Kp [] H H'->Q .Zj H')/\∀(n:Nat) (x y:Addr),eV Zr aaQ=some n->rs[n]?=some x->rs'[n]?=some y->∀ p H',H p=none->H' p=some (.tup [.int n,.ref x,.ref y])->Kp [] H H'->Q (.ref p) H'
structure xV(H:Hp)(p1 p2 hl:Addr)(Z1 Z0 hv:List V)(b1 b2:List Stm)(hs:List Hap):Prop where
 e1:H p1=some (.tup Z1)
 s1:bF H Z1 b1
 g1:rR true b1
 d1:rQ b1<=20
 n1:c9 NM4 b1
 e2:H p2=some (.tup Z0)
 s2:bF H Z0 b2
 g2:rR true b2
 d2:rQ b2<=20
 n2:c9 NM4 b2
 eh:H hl=some (.lst hv)
 hH:bM H hv hs
 ok:∀ h∈hs,h.inK
 len:hs.length<=300
theorem xV.kp{H H':Hp}{p1 p2 hl:Addr}{Z1 Z0 hv:List V}{b1 b2:List Stm}{hs:List Hap}(h:xV H p1 p2 hl Z1 Z0 hv b1 b2 hs)(k:Kp [] H H'):xV H' p1 p2 hl Z1 Z0 hv b1 b2 hs :=
 ⟨k.at h.e1,h.s1.kp (aL.nil k),h.g1,h.d1,h.n1,k.at h.e2,h.s2.kp (aL.nil k),h.g2,h.d2,h.n2,k.at h.eh,h.hH.kt (aL.nil k),h.ok,h.len⟩
theorem xV.sI{H:Hp}{p1 p2 hl:Addr}{Z1 Z0 hv:List V}{b1 b2:List Stm}{hs:List Hap}(h:xV H p1 p2 hl Z1 Z0 hv b1 b2 hs):∀ x∈hs,x.sI:=fun x hx=>(h.ok x hx).1
noncomputable def fU(b1 b2:List Stm)(hs:List Hap):Option Nat:=eV (takes (dS b1) hs).2 (takes (dS b2) hs).2
noncomputable def YQ:Sp:=fun vs H Q _=>∃(p1 p2 hl:Addr) (Z1 Z0 hv:List V) (b1 b2:List Stm) (hs:List Hap),vs=[.ref p1,.ref p2,.ref hl]/\xV H p1 p2 hl Z1 Z0 hv b1 b2 hs /\
 (fU b1 b2 hs=none->∀ H',Kp [] H H'->Q .Zj H')/\∀ n:Nat,fU b1 b2 hs=some n->∀ p (x y:V) H',H p=none->H' p=some (.tup [.int n,x,y])->Kp [] H H'->Q (.ref p) H'
noncomputable def Xl(C:Cl):Sp:=fun vs H Q _=>∃(p1 p2 hl:Addr) (Z1 Z0 hv:List V) (b1 b2:List Stm) (hs:List Hap),vs=[.ref p1,.ref p2,.ref hl]/\xV H p1 p2 hl Z1 Z0 hv b1 b2 hs /\
 (fU b1 b2 hs=none->∀(t:Addr) (R:Rn) (as:List Addr) (sl:V) (H':Hp),H' t=some (.tup [.str "let",.ref R.x])->aY C H' R as sl (takes (dS b2) hs).1->Fine (takes (dS b2) hs).1 (302 * hs.length)->(∀ a,a∈R.cells\/a∈as->H a=none)->Kp [] H H'->Q (.ref t) H') /\
 ∀ n:Nat,fU b1 b2 hs=some n->∀ p (x y:V) H',H' p=some (.tup [.str "parts",.int n,x,y])->Kp [] H H'->Q (.ref p) H'
structure Lone(C:Cl)(G0 G:Hp)(R:Rn)(as:List Addr)(sl:V)(S:Pu)(L:List Addr):Prop where
 k:Kp [] G0 G
 a:aY C G R as sl S
 fr:∀ a,a∈R.cells\/a∈as->G0 a=none
 sf:∀ a∈L,(∃ o,G a=some o)/\a∉R.cells/\a∉as
theorem Lone.keep{C:Cl}{G0 G G':Hp}{R:Rn}{as ZC:List Addr}{sl:V}{S:Pu}{L:List Addr}(h:Lone C G0 G R as sl S L)(F:Fw R as ZC G G'):∀ a∈L,∀ o,G a=some o->G' a=some o:=fun a ha o e=>F.kp a o e (h.sf a ha).2.1 (h.sf a ha).2.2
theorem Lone.step{C:Cl}{G0 G G':Hp}{R:Rn}{as ZC:List Addr}{sl Zz:V}{S S':Pu}{L:List Addr}(h:Lone C G0 G R as sl S L)(F:Fw R as ZC G G')(A:aY C G' R ZC Zz S'):Lone C G0 G' R ZC Zz S' L :=
 ⟨F.LB h.k h.fr,A,fun a ha=>by
  rcases ha with ha|ha
  ·exact h.fr a (.inl ha)
  ·rcases F.new a ha with z|z
   ·exact h.fr a (.inr z)
   ·exact h.k.fM z,fun a ha=>by
  obtain⟨⟨o,e⟩,n1,n2⟩:=h.sf a ha;refine⟨⟨o,h.keep F a ha o e⟩,n1,fun z=>?_⟩;rcases F.new a z with y|y
  ·exact n2 y
  ·rw[e] at y;cases y⟩
theorem Lone.kp{C:Cl}{G0 G G':Hp}{R:Rn}{as:List Addr}{sl:V}{S:Pu}{L:List Addr}(h:Lone C G0 G R as sl S L)(k:Kp [] G G'):Lone C G0 G' R as sl S L:=⟨h.k.trans k,h.a.kp k,h.fr,fun a ha=>by
 obtain⟨⟨o,e⟩,n⟩:=h.sf a ha;exact⟨⟨o,k.at e⟩,n⟩⟩
section
variable {K:q0B} {H:Hp} {n:Nat} {a b:Addr}
theorem Um{s:Slp}(hn:s.isN=false)(h:iD H (.ref a) s)(g:iD H (.ref b) s):mW K H (n+2) a b true:=by
 cases s with
 | Zj=>cases hn
 | new =>
  obtain⟨p,e0,e⟩:=h;obtain⟨p2,e1,e2⟩:=g;cases e0;cases e1;exact jN.rcT (.cons (bZ _).eq .nil) e e2
 | wait ts =>
  obtain⟨p,p2,e0,e,f⟩:=h;obtain⟨q,q2,e1,e2,f2⟩:=g;cases e0;cases e1;exact jN.rcT (.cons (bZ _).eq (.cons (jN.tup (jN.refl (sR ts)) f f2) .nil)) e e2
 | Zp k =>
  obtain⟨p,e0,e⟩:=h;obtain⟨p2,e1,e2⟩:=g;cases e0;cases e1;exact jN.rcT (.cons (bZ _).eq (.cons (bZ _).eq .nil)) e e2
 | ended w =>
  obtain⟨p,e0,e⟩:=h;obtain⟨p2,e1,e2⟩:=g;cases e0;cases e1;exact jN.rcT (.cons (bZ _).eq (.cons (g9 _).eq .nil)) e e2
 | worn =>
  obtain⟨p,e0,e⟩:=h;obtain⟨p2,e1,e2⟩:=g;cases e0;cases e1;exact jN.rcT (.cons (bZ _).eq .nil) e e2
theorem O2{v:V}{s:Slp}(hn:s.isN=false)(h:iD H v s):∃ a,v=.ref a:=by
 obtain⟨p,_,_,e,_⟩:=h.word hn;exact⟨p,e⟩
theorem Mv{v:V}{S:Pu}(hn:S.sl.isN=false)(h:tQ H v S):∃ a,v=.ref a:=by
 unfold tQ at h;split at h
 ·obtain⟨p,_,_,_,_,_,_,_,_,_,e,_⟩:=h;exact⟨p,e⟩
 ·exact O2 hn h
theorem Xn{S:Pu}(hn:S.sl.isN=false)(h:tQ H (.ref a) S)(g:tQ H (.ref b) S):mW K H (n+4) a b true:=by
 unfold tQ at h g;split at h
 ·next hg =>
  rw[if_pos hg] at g;obtain⟨p,pl,pn,po,pa,pt,sl,un,ua,ut,ep,a1,a2,a3,a4,a5,a6,a7,a8,a9,a10⟩:=h;obtain⟨q,ql,qn,qo,qa,qt,Zz,un',ua',ut',eq,b1,b2,b3,b4,b5,b6,b7,b8,b9,b10⟩:=g;cases ep;cases eq;refine jN.rcT (n:=n+3) (.cons (Ul (n:=n+1) a2 b2) (.cons (jN.tup (n:=n+2) (jN.refl (sR _)) a3 b3) (.cons (g9 _).eq (.cons (iA _).eq (.cons (jN.tup (n:=n+2) (HE (n:=n+1) a5 b5 (Ai _ _)) a4 b4) (.cons (iA _).eq (.cons (jN.tup (n:=n+2) (jN.refl (sR _)) a6 b6) (.cons (jN.tup (n:=n+2) (HE (n:=n+1) a8 b8 fun p hp=>?_) a7 b7) (.cons (jN.tup (n:=n+2) (OA (n:=n) a10 b10) a9 b9) .nil))))))))) a1 b1;obtain⟨z,_,rfl⟩:=List.mem_map.mp hp;exact⟨iA _,g9 _⟩
 ·next hg =>
  rw[if_neg hg] at g;exact Um (n:=n+2) hn h g
end
theorem Cr:∀(a b:List Hap) (S:Pu),takes S (a++b)=((takes (takes S a).1 b).1,(takes S a).2++(takes (takes S a).1 b).2)
 | [],b,S=>by simp[takes]
 | x::a,b,S=>by simp only[List.cons_append,takes,Cr a b]
theorem GD(hs:List Hap)(S:Pu)(k:Nat):(takes S hs).2.drop k=(takes (takes S (hs.take k)).1 (hs.drop k)).2:=by
 have h:=Cr (hs.take k) (hs.drop k) S;rw[List.take_append_drop] at h;rw[h];have l:=dD (hs.take k) S;by_cases hk:k<=hs.length
 ·rw[List.drop_append_of_le_length (by rw[l,List.length_take];omega),List.drop_of_length_le (by rw[l,List.length_take];omega),List.nil_append]
 ·rw[List.drop_of_length_le (by rw[List.length_append,l,dD,List.length_take,List.length_drop];omega),List.drop_of_length_le (l:=hs) (by omega)];rfl
theorem kZ.drop{H:Hp}{rs:List Addr}{Zr:List Cmds}(h:kZ H (fun _=>[]) rs Zr)(m:Nat):kZ H (fun _=>[]) (rs.drop m) (Zr.drop m):=⟨by simp[h.1],fun j a cs e1 e2=>by
 rw[List.getElem?_drop] at e1 e2;exact h.2 (m+j) a cs e1 e2⟩
theorem BY{xs:List V}{m:Nat}(h:m<=xs.length):gK xs (some (m:Int)) none=xs.drop m:=by
 unfold gK;rw[HT.xS,HT.EN,Nat.min_eq_left h];exact List.take_of_length_le (by rw[List.length_drop];omega)
theorem Om(b1 b2:List Stm)(hs:List Hap)(k:Nat):fU b1 b2 (hs.take k)=match fU b1 b2 hs with|none=>none|some n=>if n < k then some n else none:=by
 unfold fU;rw[rN,rN];exact vY _ _ _
theorem xV.cut{H H':Hp}{p1 p2 hl q:Addr}{Z1 Z0 hv:List V}{b1 b2:List Stm}{hs:List Hap}(h:xV H p1 p2 hl Z1 Z0 hv b1 b2 hs)(k:Kp [] H H')(m:Nat)(e:H' q=some (.lst (hv.take m))):xV H' p1 p2 q Z1 Z0 (hv.take m) b1 b2 (hs.take m) :=
 have g:=h.kp k
 ⟨g.e1,g.s1,g.g1,g.d1,g.n1,g.e2,g.s2,g.g2,g.d2,g.n2,e,g.hH.take m,fun x hx=>g.ok x (List.mem_of_mem_take hx),by rw[List.length_take];have:=g.len;omega⟩
local macro_rules | `(tactic| wp_walk) => `(tactic| wp_walk using true_and)
local macro_rules | `(tactic| wp_walk using $ts,*) => do
  let us ← ts.getElems.mapM fun t => `(Lean.Parser.Tactic.simpLemma| $t:term)
  let vs <- ("↓Uc ↓Xc ↓EK ↓UH ↓YJ ↓Xb ↓OT ↓Wt ↓Vt ↓Sv ↓Wr ↓SH ↓VR ↓SQ ↓Yy ↓Yp ↓Yv ↓Yz ↓Y7 ↓Rq ↓Wb ↓Rm ↓Yo ↓V4 ↓Wy ↓Rz ↓RB ↓SA ↓Nf ↓Rr ↓Rg ↓Wl ↓SD ↓Vr ↓Yw ↓Wc ↓Ng ↓Yx ↓SE ↓KL ↓RT ↓RS ↓NF ↓RP ↓VP ↓Wn ↓Vs ↓Wm ↓Wi ↓Wh ↓NQ ↓NO ↓NP ↓KN ↓KO ↓NN ↓VU ↓VW ↓Q9 ↓Rc ↓Rb ↓Ro ↓Ww ↓Wv ↓Rt ↓Sq ↓So ↓Wu ↓Yq ↓Rw ↓Sk ↓Sm ↓Sl ↓Vu ↓Vv ↓Vw ↓Vx ↓Vy ↓Vz ↓VA ↓VB ↓VC ↓VD ↓Rh ↓Ri ↓Rj ↓Nh ↓Ni ↓Nj ↓Kh ↓Nr ↓Nt ↓Kl ↓Km ↓Kn ↓Ko ↓Kq ↓Sh ↓Si ↓RY ↓RX ↓Yr ↓NG ↓V5 ↓V6 ↓Vp ↓Br ↓CU ↓Bu ↓Bs ↓Bt ↓y9 ↓Bq ↓zC ↓zA ↓zB ↓Bv ↓CV ↓By ↓Bw ↓Bx ↓wL ↓zD ↓wO ↓wM ↓wN ↓Ky ↓KE ↓Ij ↓Ik ↓Kz ↓KH ↓Fn ↓Fo ↓Kv ↓Ii ↓Kx ↓VF ↓VG ↓Sf ↓Se ↓Wf ↓Nz ↓Wg ↓NB ↓RL ↓RM ↓RN ↓Nm ↓Nl ↓NS ↓Nn ↓S4 ↓VH ↓VQ ↓VJ ↓RF ↓RE ↓RD ↓SM ↓RU ↓Yl ↓Ym ↓Yn ↓Wa ↓V9 ↓NT ↓KY ↓RG ↓Ru ↓Nk ↓NW ↓SI ↓Ws ↓NX ↓Nv ↓Yk ↓Wz ↓SN ↓SO ↓Sj ↓Oe ↓Od ↓Sy ↓Oh ↓VO ↓Ys ↓Yt ↓Ku ↓RJ ↓Yu ↓VM ↓SF ↓Of ↓SY ↓SU ↓SW ↓KZ ↓SX ↓S3 ↓SV ↓NM ↓Np ↓V7 ↓VI ↓Wq ↓NK ↓Sn ↓DX ↓RZ ↓KW ↓RC ↓V3 ↓Vq ↓VS ↓Ha ↓VN ↓SK ↓Rk ↓Su ↓Ss ↓KJ ↓Il ↓SG ↓NV ↓S5 ↓S6 ↓Sb ↓SR ↓Rx ↓Nw ↓Ks ↓Kr ↓Nx ↓Rv ↓RQ ↓VT ↓Rl ↓VE ↓NZ ↓RO ↓RK ↓Kk ↓Ki ↓Nu ↓Sd ↓Sr ↓V1 ↓V2 ↓KI ↓V8 ↓Wx ↓Rp ↓KQ ↓SJ ↓Sz ↓KP ↓NU ↓NC ↓Oa ↓Sx ↓Sw ↓Ry ↓NI ↓Sa ↓VZ ↓VX ↓V0 ↓VY ↓Wk ↓Rf ↓Wj ↓Wd ↓We ↓Wp ↓SS ↓NY ↓NJ ↓KU ↓VL ↓Oc ↓NH ↓Og ↓Ob ↓RH ↓RW ↓Kj ↓Ny ↓Nq ↓La ↓ND ↓XG ↓XH ↓XI ↓XM ↓XN ↓XO ↓XQ ↓XR ↓XS ↓Qn ↓Qo ↓Qp ↓Qq ↓Qr ↓Qs ↓Qt ↓Qu ↓Qv ↓Qw ↓Qx ↓Qy ↓Qz ↓QA ↓QB ↓QC ↓QD ↓QE ↓QF ↓QG ↓XJ ↓Qm ↓XF ↓YX ↓XB ↓XC ↓XD ↓XE ↓YW ↓aA ↓List.set_cons_zero ↓List.set_cons_succ ↓List.getElem?_cons_zero ↓List.getElem?_cons_succ L2.start LG P0 List.cons_append List.nil_append List.append_nil List.replicate_succ List.replicate_zero List.length_cons List.length_nil Nat.reduceAdd Nat.reduceSub Nat.zero_add Nat.add_zero Nat.reduceLeDiff Nat.reducePow Nat.reduceLT true_and and_true false_and and_false forall_const ↓reduceIte mV String.reduceEq Int.reduceToNat Int.reducePow Int.reduceNeg Int.reduceSub Int.reduceAdd Int.reduceMul Int.reduceLT Int.reduceLE Int.reduceEq sizeLine Zf YV decide_true decide_false Bool.not_true Bool.not_false Bool.false_eq_true".splitOn " ").toArray.mapM fun(n:String)=>do
    let p:=n.splitOn "↓";let x:=Lean.mkIdent (p.getLastD "").toName
    if p.length = 1 then `(Lean.Parser.Tactic.simpLemma| $x:term) else `(Lean.Parser.Tactic.simpLemma| ↓ $x:term)
  let ws:=us++vs
  `(tactic| try simp (config := { dsimp := false }) only [$ws,*])
noncomputable def HI(K:q0B):Sp:=fun vs H Q _=>∃(a:Addr) (ns:List Int),vs=[.ref a]/\dQ K H a (ns.map V.int)/\ns.length<=63/\∀ H',Q (.bl true) H'
section
variable {P:Program} {w:World} {K:q0B} {mg:q0C} {base:Heap}
theorem bK{t:Ad}(T:Tx w K mg t):bG P w K mg base Zt 1 t.yA t.y4 ["row","many"] Qc:=by
 refine T.cB.ok AW (fun vs H Q E h=>?_) (fun Zs A outer s H vs Q E hr h=>?_)
 ·obtain⟨r,m,rfl,_⟩:=h;rfl
 ·obtain⟨r,m,rfl,m0,m1,⟨c,f,hr0,hx⟩,q⟩:=h;refine⟨_,(aC (bI (aT LZ (aZ bJ (pv 0) aE (fun _ _=>rfl)) (bW TR aE aE) (nomark _)) (aC (bB (i:=2) AW.nd rfl (Or.inl rfl) (bW q9 (aZ bJ (pv 0) aE (fun _ _=>rfl)) (pv 1)))
   (aC (L9 (bW Az (aZ bJ (pv 0) aE (fun _ _=>rfl)) (pv 1)) (L7 (pv 0) aE Mg))
   (aI (aO (pv 2))))) bA)
   (aC (L9 (bW q9 (bW dU (bW dU (bW Gd (aZ bJ (pv 0) aE (fun _ _=>rfl)) (aZ bJ (pv 0) aE (fun _ _=>rfl))) (bW Gd aE (aZ bJ (pv 0) aE (fun _ _=>rfl)))) aE) aE) (L7 (pv 0) aE Mg))
   (aI (aO (bW q9 (bW Az (aZ bJ (pv 0) aE (fun _ _=>rfl)) aE) (pv 1)))))),?_⟩
  and_intros
  wp_walk using hr0;have n0:=Int.emod_nonneg (f * f+69621 * f+12345) (show(2147483587:Int)≠0 by decide);have n1:=Int.emod_lt_of_pos (f * f+69621 * f+12345) (show(0:Int) < 2147483587 by decide);split
  ·exact⟨m0,⟨m0,log2_lt m0 m1⟩,q _ _ (Int.emod_nonneg _ (by omega)) (Int.emod_lt_of_pos _ m0) ⟨_,_,aA,hx⟩ (Kp.set (by simp))⟩
  ·exact⟨LK (by omega) (by omega),LK (by omega) (by omega),⟨by decide,by decide⟩,m0,q _ _ (Int.emod_nonneg _ (by omega)) (Int.emod_lt_of_pos _ m0) ⟨_,_,aA,n0,n1⟩ (Kp.set (by simp))⟩
theorem Dy{t:Ad}(T:Tx w K mg t){n d:Nat}(hn:3<=n)(IH:bG P w K mg base Zt n t.jY t.j8 ["row","deep"] (Gu d)):bG P w K mg base Zt (n+1) t.jY t.j8 ["row","deep"] (Gu (d+1)):=by
 refine T.cQ.ok jK (fun vs H Q E h=>?_) (fun Zs A outer s H vs Q E hr h=>?_)
 ·obtain⟨r,dp,rfl,_⟩:=h;rfl
 ·obtain⟨r,dp,rfl,d1,d2,hR,q⟩:=h;refine⟨_,(aC (bB (i:=2) jK.nd rfl (Or.inl rfl) (aP (bK T) (hr.mono (by omega)) rfl T.cF T.cB.kp T.cE .nil pass0 (aD (pv 0) (aD aE aB))))
   (aC (bI (PW.pt (P6 (aT kX (pv 2) aE (nomark _)) (Ma (aT cX (pv 1) aE (nomark _))))) (aC (bB (i:=3) jK.nd rfl (Or.inl rfl) (bX (aD (bC (aD aR (aD (bW oP (aP (bK T) (hr.mono (by omega)) rfl T.cF T.cB.kp T.cE .nil pass0 (aD (pv 0) (aD aE aB))) aE) aB))) (aD (bC (aD aR (aD (aZ bJ aR (aP (bK T) (hr.mono (by omega)) rfl T.cF T.cB.kp T.cE .nil pass0 (aD (pv 0) (aD aE aB))) (fun _ _=>rfl)) aB))) aB))))
   (aI (aO (aZ bJ (bW dU (pv 3) (bX (aD (bC (aD aR aB)) aB))) (aP (bK T) (hr.mono (by omega)) rfl T.cF T.cB.kp T.cE .nil pass0 (aD (pv 0) (aD aE aB))) (fun _ _=>rfl))))) bA)
   (aC (bI (aT cX (pv 2) aE (nomark _)) (aI (aO (bC (aD aR (aD (bC (aD aR (aD (aZ bJ aR (aP (bK T) (hr.mono (by omega)) rfl T.cF T.cB.kp T.cE .nil pass0 (aD (pv 0) (aD aE aB))) (fun _ _=>rfl)) aB))) aB))))) bA)
   (aC (bI (aT cX (pv 2) aE (nomark _)) (aI (aO (bC (aD aR (aD (aP IH (hr.mono (by omega)) rfl T.c8 T.cQ.kp T.cZ .nil pass0 (aD (pv 0) (aD (bW oP (pv 1) aE) aB))) aB))))) bA)
   (aC (bB (i:=4) jK.nd rfl (Or.inl rfl) (aZ bJ (bX (aD aR (aD aR (aD aR (aD aR (aD aR aB)))))) (aP (bK T) (hr.mono (by omega)) rfl T.cF T.cB.kp T.cE .nil pass0 (aD (pv 0) (aD aE aB))) (fun _ _=>rfl)))
   (aI (aO (bC (aD (pv 4) (aD (aP IH (hr.mono (by omega)) rfl T.c8 T.cQ.kp T.cZ .nil pass0 (aD (pv 0) (aD (bW oP (pv 1) aE) aB))) (aD (aP IH (hr.mono (by omega)) rfl T.c8 T.cQ.kp T.cZ .nil pass0 (aD (pv 0) (aD (bW oP (pv 1) aE) aB))) aB))))))))))),?_⟩
  and_intros
  refine aF fun R1 Zm=>?_;wp_walk;refine⟨hR,fun g H1 a1 b1 J1 K1=>?_⟩;wp_walk;refine Zm _ _ ?_;clear Zm;clear R1;refine aF fun R2 Zn=>?_;refine t7 fun RI hRI=>?_;wp_walk;simp only[YC];split
  ·refine hRI _ _ ?_;clear hRI RI;refine aF fun Ra ZS=>?_;wp_walk;refine⟨J1,fun g2 H2 a2 b2 J2 K2 p1 h1=>?_⟩;have N1:=q0D (o:=.tup [.str "number",.int (g2 - 1)]) h1;have f1':Zh H2 p1 (.tup [.str "number",.int (g2 - 1)]) p1=some (.tup [.str "number",.int (g2 - 1)]):=aA;have J3:=J2.new (o:=.tup [.str "number",.int (g2 - 1)]) h1;have KK:Kp [r] H (Zh H2 p1 (.tup [.str "number",.int (g2 - 1)])):=(K1.trans K2).trans (N1.mono (by simp));generalize Zh H2 p1 (.tup [.str "number",.int (g2 - 1)])=H3 at *;refine⟨J3,fun g4 G4 a4 b4 J4 K4=>⟨by decide +kernel,?_⟩⟩;refine xR a4 (by rw[GP];omega) fun c4 hc4=>?_;obtain⟨x4,ex4,hx4⟩:=abcd1 hc4;rw[ex4];clear ex4 hc4 c4;wp_walk;refine fun p5 h5 p6 h6=>?_;have T4:=J3.tk K4;have M_1:=q0D (o:=.tup [.str "name",.str x4]) h5;have M_2:=q0D (o:=.lst [.ref p1,.ref p5]) h6;have f1:=M_2.at (aA:(Zh G4 p5 (.tup [.str "name",.str x4])) p5=some (.tup [.str "name",.str x4]));have f2:(Zh (Zh G4 p5 (.tup [.str "name",.str x4])) p6 (.lst [.ref p1,.ref p5])) p6=some (.lst [.ref p1,.ref p5]):=aA;have MM:=(M_1.trans M_2);generalize Zh (Zh G4 p5 (.tup [.str "name",.str x4])) p6 (.lst [.ref p1,.ref p5])=G6 at *;clear M_1 M_2 h5 h6;replace f1':=MM.at (T4 _ _ f1');have J6:=J4.kp MM;replace KK:=(KK.trans K4).trans (MM.mono (T:=[r]) (by simp));refine ZS _ _ ?_;clear ZS Ra;wp_walk using f2;refine fun p7 h7 p8 h8=>?_;have e6:=f2;have M_1:=q0D (o:=.tup [.str "arg"]) h7;have M_2:=q0D (o:=.lst [.ref p7]) h8;have g_1:=M_2.at (aA:(Zh G6 p7 (.tup [.str "arg"])) p7=some (.tup [.str "arg"]));have g_2:(Zh (Zh G6 p7 (.tup [.str "arg"])) p8 (.lst [.ref p7])) p8=some (.lst [.ref p7]):=aA;have M8:=(M_1.trans M_2);generalize Zh (Zh G6 p7 (.tup [.str "arg"])) p8 (.lst [.ref p7])=G8 at *;clear M_1 M_2 h7 h8;replace e6:=M8.at e6;replace f1':=M8.at f1';replace f1:=M8.at f1;replace J6:=J6.kp M8;replace KK:=KK.trans (M8.mono (T:=[r]) (by simp));wp_walk using e6,g_2;refine fun p9 h9=>⟨J6.new h9,fun g10 G10 a10 b10 J10 K10=>?_⟩;have N9:=q0D (o:=.lst [.ref p1,.ref p5,.ref p7]) h9;have T10:=(aL.nil N9).trans ((J6.new h9).tk K10);wp_walk using made1J K10 J6 h9;refine rA a10 b10 fun v hv=>?_;have KF:=(KK.trans (N9.mono (T:=[r]) (by simp))).trans K10;simp only[List.mem_cons,List.not_mem_nil,or_false] at hv;rcases hv with rfl|rfl|rfl
   ·exact q _ (.num (g2 - 1)) _ (.num (T10 _ _ f1')) ⟨by omega,by omega⟩ (by simp only[Say.depth];omega) J10 KF
   ·exact q _ (.name x4) _ (.name (T10 _ _ f1)) trivial (by simp only[Say.depth];omega) J10 KF
   ·exact q _ .arg _ (.arg (T10 _ _ g_1)) trivial (by simp only[Say.depth];omega) J10 KF
  ·next hc =>
   clear hRI RI;refine Zn _ _ ?_;clear Zn;clear R2;refine aF fun R3 Zw=>?_;wp_walk;split
   ·skip;refine⟨J1,fun g4 G4 a4 b4 J4 K4=>⟨by decide +kernel,?_⟩⟩;refine xR a4 (by rw[GP];omega) fun c4 hc4=>?_;obtain⟨x4,ex4,hx4⟩:=abcd1 hc4;rw[ex4];clear ex4 hc4 c4;wp_walk;refine fun p5 h5 p6 h6=>?_;have M_1:=q0D (o:=.tup [.str "name",.str x4]) h5;have M_2:=q0D (o:=.tup [.str "answer",.ref p5]) h6;have f1:=M_2.at (aA:(Zh G4 p5 (.tup [.str "name",.str x4])) p5=some (.tup [.str "name",.str x4]));have f2:(Zh (Zh G4 p5 (.tup [.str "name",.str x4])) p6 (.tup [.str "answer",.ref p5])) p6=some (.tup [.str "answer",.ref p5]):=aA;have MM:=(M_1.trans M_2);generalize Zh (Zh G4 p5 (.tup [.str "name",.str x4])) p6 (.tup [.str "answer",.ref p5])=G6 at *;clear M_1 M_2 h5 h6;exact q _ (.ans (.name x4)) _ (.ans f2 (.name f1)) trivial (by simp only[Say.depth];omega) (J4.kp MM) ((K1.trans K4).trans (MM.mono (by simp)))
   refine Zw _ _ ?_;clear Zw;clear R3;refine aF fun R4 Z2=>?_;wp_walk;split
   ·refine⟨r,dp - 1,rfl,by omega,by omega,J1,fun v s H3 hv ok hdp J3 K3=>?_⟩;wp_walk;exact fun p hp=>q _ (.neg s) _ (.neg aA (hv.kp (aL.new hp))) ok (by simp only[Say.depth];omega) (J3.new hp) ((K1.trans K3).trans (Kp.new hp))
   refine Z2 _ _ ?_;clear Z2;clear R4;refine aF fun R5 hR5=>?_;wp_walk;refine fun p hp=>⟨J1.new hp,fun g4 H4 a4 b4 J4 K4=>?_⟩;wp_walk using made1J K4 J1 hp;refine rA a4 b4 fun v hv=>?_;have KK:Kp [r] H H4:=(K1.trans (Kp.new hp)).trans K4;clear K1 K4 hp;wp_walk;refine hR5 _ _ ?_;clear hR5 R5;wp_walk;refine⟨r,dp - 1,rfl,by omega,by omega,J4,fun u s1 H3 hv1 ok1 hd1 J3 K3=>?_⟩;wp_walk;refine⟨r,dp - 1,rfl,by omega,by omega,J3,fun u2 s2 H5 hv2 ok2 hd2 J5 K5 p2 h2=>?_⟩;have KF:=(KK.trans K3).trans (K5.trans (Kp.new (o:=.tup [v,u,u2]) h2));have T1:aL H3 (Zh H5 p2 (.tup [v,u,u2])):=(J3.tk K5).trans (aL.new h2);have fin:∀ gg:Sg,v=.str gg.s->Q (.ref p2) (Zh H5 p2 (.tup [v,u,u2])):=fun gg e=>by
    subst e;exact q _ (.two gg s1 s2) _ (.two aA (hv1.kp T1) (hv2.kp (aL.new h2))) ⟨ok1,ok2⟩ (by simp only[Say.depth];omega) (J5.new h2) KF
   simp only[List.mem_cons,List.not_mem_nil,or_false] at hv;rcases hv with e|e|e|e|e
   ·exact fin .add e
   ·exact fin .sub e
   ·exact fin .mul e
   ·exact fin .lt e
   ·exact fin .eq e
theorem dB{t:Ad}(T:Tx w K mg t):∀ d,bG P w K mg base Zt (d+3) t.jY t.j8 ["row","deep"] (Gu d):=by
 intro d
 induction d with
 | zero=>exact⟨fun _ _ _ _ x=>by (obtain⟨_,_,_,h,h',_⟩:=x;exact absurd h (by omega)),fun _ _ _ _ _ _ _ _ _ _ _ _ _ x=>by (obtain⟨_,_,_,h,h',_⟩:=x;exact absurd h (by omega))⟩
 | succ d ih=>exact Dy T (by omega) ih
theorem wI{t:Ad}(T:Tx w K mg t){n d:Nat}(hn:3<=n)(IH:bG P w K mg base Zt n t.fQ t.fS ["row","deep"] (Gv d)):bG P w K mg base Zt (n+1) t.jO t.jP ["row","deep"] (Dx (d+1)):=by
 refine T.pK.ok ES (fun vs H Q E h=>?_) (fun Zs A outer s H vs Q E hr h=>?_)
 ·obtain⟨r,dp,rfl,_⟩:=h;rfl
 ·obtain⟨r,dp,rfl,d1,d2,hR,q⟩:=h;refine⟨_,(aI (aO (dI fI rfl T.hX fD (aD (sX (fr:=[0,1]) (N:=["k","row","deep"]) rfl (fun _ _ h=>h) (dW.free rfl rfl rfl rfl rfl (fun _ _ h=>by first|exact h|exact look2 (by decide) h) rfl (by decide) rfl (fun j hj=>by rcases(show j=0\/j=1 by simpa using hj) with rfl|rfl<;>exact⟨_,rfl,rfl,.inl rfl⟩)) (Cj rfl T.Bm (aD (bW dU aE (aP (bK T) (hr.mono (by omega)) rfl T.cF T.cB.kp T.cE .nil pass0 (aD (pv 0) (aD aE aB)))) aB)) (fun C s H ex pn=>⟨tG,(aP IH (hr.mono (by omega)) rfl T.fV T.eR.kp T.fR .nil pass0 (aD (pv 1) (aD (pv 2) aB)))⟩)) aB)))),?_⟩
  and_intros
  wp_walk;refine⟨hR,fun gm G4 a4 b4 J4 K4=>⟨⟨by omega,by omega⟩,?_⟩⟩;obtain⟨Pv,Zq⟩:∃ Pv:Nat->List V->Hp->Prop,∀ i xs G,Pv i xs G = ∃ b:List Stm,bF G xs b/\b.length=i/\i<=3/\rR true b/\c9 NM4 b/\(rQ b:Int)<=dp/\eN G r/\Kp [r] H G:=⟨_,fun _ _ _=>rfl⟩;refine Eh (lo:=0) Pv ?_ ?_ ?_ ?_
  ·rw[Zq];exact⟨[],.nil,rfl,by omega,by simp only[rR],by simp only[c9],by simpa[rQ] using d1,J4,K4⟩
  ·intro i xs G h;rw[Zq] at h;obtain⟨b,hs,lb,l3,_⟩:=h;have lv:=hs.len;omega
  ·intro i xs G hi h;rw[Zq] at h;obtain⟨b,hs,lb,l3,gb,nb,db,JG,KG⟩:=h;wp_walk using bE,Option.join_some;refine⟨r,dp,rfl,d1,by omega,JG,fun v x G5 hv gx nx dx J5 K5=>?_⟩;show Pv (i+1) _ _;rw[Zq];exact⟨b++[x],(hs.kp (JG.tk K5)).snoc hv,by simp[lb],by omega,D6 gb gx,Ew nb nx,by rw[y7];omega,J5,KG.trans K5⟩
  intro xs G h l hl;rw[Zq] at h;obtain⟨b,hs,lb,l3,gb,nb,db,JG,KG⟩:=h;have NL:=q0D (o:=.lst xs) hl;have el:Zh G l (.lst xs) l=some (.lst xs):=aA;replace hs:=hs.kp (aL.nil NL);replace JG:=JG.kp NL;replace KG:=KG.trans (NL.mono (T:=[r]) (by simp));generalize Zh G l (.lst xs)=G8 at *;clear Zq Pv NL hl;wp_walk using el;intro p hp;have N:=q0D (o:=.tup xs) hp;exact q p xs b _ aA (hs.kp (aL.nil N)) gb nb db (by omega) (JG.new hp) (KG.trans (N.mono (by simp)))
theorem nE{t:Ad}(T:Tx w K mg t){n d:Nat}(hn:9<=n)(IH:bG P w K mg base Zt n t.jO t.jP ["row","deep"] (Dx d)):bG P w K mg base Zt (n+1) t.fQ t.fS ["row","deep"] (Gv d):=by
 refine T.eR.ok gB (fun vs H Q E h=>?_) (fun Zs A outer s H vs Q E hr h=>?_)
 ·obtain⟨r,dp,rfl,_⟩:=h;rfl
 ·obtain⟨r,dp,rfl,d1,d2,hR,q⟩:=h;refine⟨_,(aC (bB (i:=2) gB.nd rfl (Or.inl rfl) (aP (bK T) (hr.mono (by omega)) rfl T.cF T.cB.kp T.cE .nil pass0 (aD (pv 0) (aD aE aB))))
   (aC (bB (i:=3) gB.nd rfl (Or.inl rfl) (aZ bJ aR (aP (bK T) (hr.mono (by omega)) rfl T.cF T.cB.kp T.cE .nil pass0 (aD (pv 0) (aD aE aB))) (fun _ _=>rfl)))
   (aC (bI (aT cX (pv 2) aE (nomark _)) (aI (aO (bC (aD aR (aD (pv 3) (aD aR (aD (aP (dB T 4) (hr.mono (by omega)) rfl T.c8 T.cQ.kp T.cZ .nil pass0 (aD (pv 0) (aD aE aB))) aB))))))) bA)
   (aC (bI (aT kX (pv 2) aE (nomark _)) (aI (aO (bC (aD aR (aD (pv 3) (aD (aP (dB T 4) (hr.mono (by omega)) rfl T.c8 T.cQ.kp T.cZ .nil pass0 (aD (pv 0) (aD aE aB))) aB)))))) bA)
   (aC (bI (aT kX (pv 2) aE (nomark _)) (aI (aO (bC (aD aR (aD (pv 3) (aD (aZ bJ (bX (aD aR (aD aR aB))) (aP (bK T) (hr.mono (by omega)) rfl T.cF T.cB.kp T.cE .nil pass0 (aD (pv 0) (aD aE aB))) (fun _ _=>rfl)) (aD (aP (dB T 4) (hr.mono (by omega)) rfl T.c8 T.cQ.kp T.cZ .nil pass0 (aD (pv 0) (aD aE aB))) aB))))))) bA)
   (aC (bI (aT kX (pv 2) aE (nomark _)) (aI (aO (bC (aD aR (aD (pv 3) (aD (aP (dB T 4) (hr.mono (by omega)) rfl T.c8 T.cQ.kp T.cZ .nil pass0 (aD (pv 0) (aD aE aB))) aB)))))) bA)
   (aC (bI (aT kX (pv 2) aE (nomark _)) (aI (aO (bC (aD aR (aD (bC (aD aR (aD (pv 3) aB))) aB))))) bA)
   (aC (bI (aT kX (pv 2) aE (nomark _)) (aC (kG (i:=4) (fr:=[0]) (N:=["k","row"]) rfl (fun _ _ h=>h) (dW.free rfl rfl rfl rfl rfl (fun _ _ h=>h) rfl (by decide) rfl (fun j hj=>by rw[show j=0 by simpa using hj];exact⟨_,rfl,rfl,.inl rfl⟩)) (Cj rfl T.Bm (aD (bW dU aE (aP (bK T) (hr.mono (by omega)) rfl T.cF T.cB.kp T.cE .nil pass0 (aD (pv 0) (aD aE aB)))) aB)) (fun C s H ex pn=>⟨tG,(bC (aD aR (aD (aZ bJ aR (aP (bK T) (hr.mono (by omega)) rfl T.cF T.cB.kp T.cE .nil pass0 (aD (pv 1) (aD aE aB))) (fun _ _=>rfl)) aB)))⟩) gB.nd rfl (Or.inl rfl))
   (aI (aO (bC (aD aR (aD (pv 3) (aD (dI fI rfl T.hX fD (aD (pv 4) aB)) aB))))))) bA)
   (aC (bI (aT kX (pv 2) aE (nomark _)) (aI (aO (bC (aD aR (aD (pv 3) (aD (aZ bJ (bX (aD aR (aD aR aB))) (aP (bK T) (hr.mono (by omega)) rfl T.cF T.cB.kp T.cE .nil pass0 (aD (pv 0) (aD aE aB))) (fun _ _=>rfl)) aB)))))) bA)
   (aC (bI (aT kX (pv 2) aE (nomark _)) (aI (aO (bC (aD aR (aD (aP (dB T 4) (hr.mono (by omega)) rfl T.c8 T.cQ.kp T.cZ .nil pass0 (aD (pv 0) (aD aE aB))) (aD aR (aD (aP (dB T 4) (hr.mono (by omega)) rfl T.c8 T.cQ.kp T.cZ .nil pass0 (aD (pv 0) (aD aE aB))) aB))))))) bA)
   (aC (bI (PW.pt (Gh (aT kX (pv 2) aE (nomark _)) (Dl (aT LZ (pv 1) aE (nomark _))))) (aI (aO (bC (aD aR (aD (aP (dB T 4) (hr.mono (by omega)) rfl T.c8 T.cQ.kp T.cZ .nil pass0 (aD (pv 0) (aD aE aB))) (aD (aP IH (hr.mono (by omega)) rfl T.uQ T.pK.kp T.tW .nil pass0 (aD (pv 0) (aD (bW oP (pv 1) aE) aB))) (aD (aP IH (hr.mono (by omega)) rfl T.uQ T.pK.kp T.tW .nil pass0 (aD (pv 0) (aD (bW oP (pv 1) aE) aB))) aB))))))) bA)
   (aC (bI (aT LZ (pv 1) aE (nomark _)) (aI (aO (bC (aD aR (aD (aP (dB T 4) (hr.mono (by omega)) rfl T.c8 T.cQ.kp T.cZ .nil pass0 (aD (pv 0) (aD aE aB))) (aD (aP IH (hr.mono (by omega)) rfl T.uQ T.pK.kp T.tW .nil pass0 (aD (pv 0) (aD (bW oP (pv 1) aE) aB))) aB)))))) bA)
   (aI (aO (bC (aD aR (aD (aP (dB T 4) (hr.mono (by omega)) rfl T.c8 T.cQ.kp T.cZ .nil pass0 (aD (pv 0) (aD aE aB))) aB))))))))))))))))),?_⟩
  and_intros
  refine aF fun R1 Zm=>?_;wp_walk;refine⟨hR,fun g G1 a1 b1 J1 K1=>?_⟩;wp_walk;refine Zm _ _ ?_;clear Zm;clear R1;refine aF fun R2 Zn=>?_;wp_walk;refine⟨J1,fun g3 G3 a3 b3 J3 K3=>⟨by decide +kernel,?_⟩⟩;refine xR a3 (by rw[GP];omega) fun c3 hc3=>?_;obtain⟨x3,ex3,hx3⟩:=abcd1 hc3;rw[ex3];clear ex3 hc3 c3;wp_walk;refine Zn _ _ ?_;clear Zn;clear R2;have KK:Kp [r] H G3:=K1.trans K3;clear K1 K3 J1 hR;refine aF fun R3 Zw=>?_;wp_walk;split
  ·skip;refine⟨r,1,rfl,by decide,by decide,J3,fun u4 s4 G4 hv4 ok4 hd4 J4 K4=>?_⟩;wp_walk;refine fun p hp=>?_;have N:=q0D (o:=.tup [.str "child",.str x3,.str "other",u4]) hp;have w4:=hv4.kp (aL.nil N);exact q _ (.child x3 "other" s4) _ (.child aA w4) ⟨ok4,by omega⟩ (by first|(simp only[Stm.fG];done)|(simp only[Stm.fG];exact hx3)) (by simp only[Stm.dp];omega) (J4.new hp) ((KK.trans K4).trans (N.mono (by simp)))
  refine Zw _ _ ?_;clear Zw;clear R3;refine aF fun R4 Z2=>?_;wp_walk;split
  ·skip;refine⟨r,2,rfl,by decide,by decide,J3,fun u4 s4 G4 hv4 ok4 hd4 J4 K4=>?_⟩;wp_walk;refine fun p hp=>?_;have N:=q0D (o:=.tup [.str "set",.str x3,u4]) hp;have w4:=hv4.kp (aL.nil N);exact q _ (.set x3 s4) _ (.set aA w4) ⟨ok4,by omega⟩ (by first|(simp only[Stm.fG];done)|(simp only[Stm.fG];exact hx3)) (by simp only[Stm.dp];omega) (J4.new hp) ((KK.trans K4).trans (N.mono (by simp)))
  refine Z2 _ _ ?_;clear Z2;clear R4;refine aF fun R5 hR5=>?_;wp_walk;split
  ·skip;refine fun p5 h5=>⟨J3.new h5,fun g5 G5 a5 b5 J5 K5=>?_⟩;wp_walk using made1J K5 J3 h5;refine rA a5 b5 fun y5 hy5=>?_;obtain⟨z5,rfl⟩:∃ z:Str,y5=.str z:=by simp only[List.mem_cons,List.not_mem_nil,or_false] at hy5;rcases hy5 with rfl|rfl<;>exact⟨_,rfl⟩
   have KK5:Kp [r] H G5:=(KK.trans (Kp.new h5)).trans K5;wp_walk;refine⟨r,1,rfl,by decide,by decide,J5,fun u6 s6 G6 hv6 ok6 hd6 J6 K6=>?_⟩;wp_walk;refine fun p hp=>?_;have N:=q0D (o:=.tup [.str "order",.str x3,.str z5,u6]) hp;have w6:=hv6.kp (aL.nil N);exact q _ (.order x3 z5 s6) _ (.order aA w6) ⟨ok6,by omega⟩ (by first|(simp only[Stm.fG];done)|(simp only[Stm.fG];exact hx3)) (by simp only[Stm.dp];omega) (J6.new hp) ((KK5.trans K6).trans (N.mono (by simp)))
  refine hR5 _ _ ?_;clear hR5 R5;refine aF fun R6 hR6=>?_;wp_walk;split
  ·skip;refine⟨r,1,rfl,by decide,by decide,J3,fun u4 s4 G4 hv4 ok4 hd4 J4 K4=>?_⟩;wp_walk;refine fun p hp=>?_;have N:=q0D (o:=.tup [.str "timer",.str x3,u4]) hp;have w4:=hv4.kp (aL.nil N);exact q _ (.Zx x3 s4) _ (.Zx aA w4) ⟨ok4,by omega⟩ (by first|(simp only[Stm.fG];done)|(simp only[Stm.fG];exact hx3)) (by simp only[Stm.dp];omega) (J4.new hp) ((KK.trans K4).trans (N.mono (by simp)))
  refine hR6 _ _ ?_;clear hR6 R6;refine aF fun R7 hR7=>?_;wp_walk;split
  ·refine fun p5 h5 p6 h6=>?_;have M_1:=q0D (o:=.tup [.str "name",.str x3]) h5;have M_2:=q0D (o:=.tup [.str "drop",.ref p5]) h6;have f1:=M_2.at (aA:(Zh G3 p5 (.tup [.str "name",.str x3])) p5=some (.tup [.str "name",.str x3]));have f2:(Zh (Zh G3 p5 (.tup [.str "name",.str x3])) p6 (.tup [.str "drop",.ref p5])) p6=some (.tup [.str "drop",.ref p5]):=aA;have MM:=(M_1.trans M_2);generalize Zh (Zh G3 p5 (.tup [.str "name",.str x3])) p6 (.tup [.str "drop",.ref p5])=G6 at *;clear M_1 M_2 h5 h6;exact q _ (.drop (.name x3)) _ (.drop f2 (.name f1)) ⟨trivial,by simp[Say.depth]⟩ (by simp only[Stm.fG]) (by simp only[Stm.dp];omega) (J3.kp MM) (KK.trans (MM.mono (by simp)))
  refine hR7 _ _ ?_;clear hR7 R7;refine aF fun R8 hR8=>?_;refine t7 fun RI hRI=>?_;wp_walk;split
  ·refine hRI _ _ ?_;clear hRI RI;refine aF fun Ra ZS=>?_;wp_walk;refine⟨J3,fun gm G4 a4 b4 J4 K4=>⟨⟨by omega,by omega⟩,?_⟩⟩;obtain⟨Pv,Zq⟩:∃ Pv:Nat->List V->Hp->Prop,∀ i xs G,Pv i xs G = ∃ ss:List Say,gD G xs ss/\ss.length=i/\i<=3/\(∀ s∈ss,s.sok)/\eN G r/\Kp [r] H G:=⟨_,fun _ _ _=>rfl⟩;refine Eh (lo:=0) Pv ?_ ?_ ?_ ?_
   ·rw[Zq];exact⟨[],.nil,rfl,by omega,by simp,J4,KK.trans K4⟩
   ·intro i xs G h;rw[Zq] at h;obtain⟨ss,hS,lS,l3,_⟩:=h;have lv:=hS.WR;omega
   ·intro i xs G hi h;rw[Zq] at h;obtain⟨ss,hS,lS,l3,hL,JG,KG⟩:=h;wp_walk using bE,Option.join_some;refine⟨JG,fun g6 G6 a6 b6 J6 K6=>⟨by decide +kernel,?_⟩⟩;refine xR a6 (by rw[GP];omega) fun c6 hc6=>?_;obtain⟨x6,ex6,hx6⟩:=abcd1 hc6;rw[ex6];clear ex6 hc6 c6;wp_walk;refine fun p7 h7=>?_;have N7:=q0D (o:=.tup [.str "name",.str x6]) h7;have T7:=(JG.tk K6).trans (aL.nil N7);show Pv (i+1) _ _;rw[Zq];refine⟨ss++[.name x6],(hS.kp T7).snoc (.name aA),by simp[lS],by omega,fun y hy=>?_,J6.new h7,(KG.trans K6).trans (N7.mono (by simp))⟩;rcases List.mem_append.mp hy with hy|hy
    ·exact hL y hy
    ·rw[show y=.name x6 by simpa using hy];exact⟨trivial,by simp[Say.depth]⟩
   intro xs G h l hl;rw[Zq] at h;obtain⟨ss,hS,lS,l3,hL,JG,KG⟩:=h;have NL:=q0D (o:=.lst xs) hl;have el:Zh G l (.lst xs) l=some (.lst xs):=aA;replace hS:=hS.kp (aL.nil NL);replace JG:=JG.kp NL;replace KG:=KG.trans (NL.mono (T:=[r]) (by simp));generalize Zh G l (.lst xs)=G8 at *;refine ZS _ _ ?_;clear ZS Ra Zq Pv NL hl;wp_walk using el;refine fun p8 h8 p9 h9=>?_;have N:=(q0D (o:=.tup xs) h8).trans (Kp.new (o:=.tup [.str "wait",.str x3,.ref p8]) h9);exact q _ (.wait x3 ss) _ (.wait aA ((q0D h9).at aA) (hS.kp (aL.nil N))) ⟨rfl,by omega,hL⟩ (by simp only[Stm.fG];exact⟨hx3,by omega⟩) (by simp only[Stm.dp];omega) ((JG.new h8).new h9) (KG.trans (N.mono (by simp)))
  clear hRI RI;refine hR8 _ _ ?_;clear hR8 R8;refine aF fun R9 hR9=>?_;wp_walk;split
  ·skip;refine fun p5 h5=>⟨J3.new h5,fun g5 G5 a5 b5 J5 K5=>?_⟩;wp_walk using made1J K5 J3 h5;refine rA a5 b5 fun y5 hy5=>?_;obtain⟨z5,rfl⟩:∃ z:Str,y5=.str z:=by simp only[List.mem_cons,List.not_mem_nil,or_false] at hy5;rcases hy5 with rfl|rfl<;>exact⟨_,rfl⟩
   have KK5:Kp [r] H G5:=(KK.trans (Kp.new h5)).trans K5;wp_walk;refine fun p hp=>?_;have N:=q0D (o:=.tup [.str "hear",.str x3,.str z5]) hp;exact q _ (.Zp x3 z5) _ (.Zp aA) trivial (by first|(simp only[Stm.fG];done)|(simp only[Stm.fG];exact hx3)) (by simp only[Stm.dp];omega) (J5.new hp) (KK5.trans (N.mono (by simp)))
  refine hR9 _ _ ?_;clear hR9 R9;refine aF fun R10 abX=>?_;wp_walk;split
  ·skip;refine⟨r,0,rfl,by decide,by decide,J3,fun u4 s4 G4 hv4 ok4 hd4 J4 K4=>?_⟩;wp_walk;refine⟨r,1,rfl,by decide,by decide,J4,fun u5 s5 G5 hv5 ok5 hd5 J5 K5=>?_⟩;wp_walk;refine fun p hp=>?_;have N:=q0D (o:=.tup [.str "send",u4,.str "key",u5]) hp;have w4:=hv4.kp ((J4.tk K5).trans (aL.nil N));have w5:=hv5.kp (aL.nil N);exact q _ (.send s4 "key" s5) _ (.send aA w4 w5) ⟨⟨ok4,by omega⟩,ok5,by omega⟩ (by first|(simp only[Stm.fG];done)|(simp only[Stm.fG];exact hx3)) (by simp only[Stm.dp];omega) (J5.new hp) (((KK.trans K4).trans K5).trans (N.mono (by simp)))
  refine abX _ _ ?_;clear abX;clear R10;refine aF fun R11 abY=>?_;refine t7 fun RI hRI=>?_;wp_walk;simp only[WC];split
  ·next hc =>
   refine hRI _ _ ?_;clear hRI RI;wp_walk;refine⟨r,1,rfl,by decide,by decide,J3,fun u4 s4 G4 hv4 ok4 hd4 J4 K4=>?_⟩;wp_walk;refine⟨r,dp - 1,rfl,by omega,by omega,J4,fun p5 us5 b5 G5 e5 hs5 gd5 nm5 dp5 l5 J5 K5=>?_⟩;wp_walk;refine⟨r,dp - 1,rfl,by omega,by omega,J5,fun p6 us6 b6 G6 e6 hs6 gd6 nm6 dp6 l6 J6 K6=>?_⟩;wp_walk;refine fun p hp=>?_;have N:=q0D (o:=.tup [.str "if",u4,.ref p5,.ref p6]) hp;have T6:=(J5.tk K6).trans (aL.nil N);have T5:=(J4.tk K5).trans T6;exact q _ (.iff s4 b5 b6) _ (.iff aA (hv4.kp T5) (T6 _ _ e5) (hs5.kp T6) (N.at e6) (hs6.kp (aL.nil N))) ⟨⟨ok4,by omega⟩,gd5,gd6⟩ (by simp only[Stm.fG];exact⟨⟨by omega,by omega⟩,nm5,nm6⟩) (by simp only[Stm.dp];omega) (J6.new hp) ((((KK.trans K4).trans K5).trans K6).trans (N.mono (by simp)))
  clear hRI RI;refine abY _ _ ?_;clear abY;clear R11;refine aF fun R12 abZ=>?_;wp_walk;split
  ·skip;refine⟨r,1,rfl,by decide,by decide,J3,fun u4 s4 G4 hv4 ok4 hd4 J4 K4=>?_⟩;wp_walk;refine⟨r,dp - 1,rfl,by omega,by omega,J4,fun p5 us5 b5 G5 e5 hs5 gd5 nm5 dp5 l5 J5 K5=>?_⟩;wp_walk;refine fun p hp=>?_;have N:=q0D (o:=.tup [.str "while",u4,.ref p5]) hp;have T5:=(J4.tk K5).trans (aL.nil N);exact q _ (.Z9 s4 b5) _ (.Z9 aA (hv4.kp T5) (N.at e5) (hs5.kp (aL.nil N))) ⟨⟨ok4,by omega⟩,gd5⟩ (by simp only[Stm.fG];exact⟨by omega,nm5⟩) (by simp only[Stm.dp];omega) (J5.new hp) (((KK.trans K4).trans K5).trans (N.mono (by simp)))
  refine abZ _ _ ?_;clear abZ;clear R12;wp_walk;refine⟨r,1,rfl,by decide,by decide,J3,fun u4 s4 G4 hv4 ok4 hd4 J4 K4=>?_⟩;wp_walk;refine fun p hp=>?_;have N:=q0D (o:=.tup [.str "end",u4]) hp;have w4:=hv4.kp (aL.nil N);exact q _ (.fin s4) _ (.fin aA w4) ⟨ok4,by omega⟩ (by first|(simp only[Stm.fG];done)|(simp only[Stm.fG];exact hx3)) (by simp only[Stm.dp];omega) (J4.new hp) ((KK.trans K4).trans (N.mono (by simp)))
theorem blk0{t:Ad}(T:Tx w K mg t):bG P w K mg base Zt 9 t.jO t.jP ["row","deep"] (Dx 0) :=
 ⟨fun _ _ _ _ x=>by (obtain⟨_,_,_,h,h',_⟩:=x;exact absurd h (by omega)),fun _ _ _ _ _ _ _ _ _ _ _ _ _ x=>by (obtain⟨_,_,_,h,h',_⟩:=x;exact absurd h (by omega))⟩
theorem sU{t:Ad}(T:Tx w K mg t):∀ d:Nat,bG P w K mg base Zt (2 * d+10) t.fQ t.fS ["row","deep"] (Gv d)/\bG P w K mg base Zt (2 * d+11) t.jO t.jP ["row","deep"] (Dx (d+1))
 | 0=>by
  have a:=nE (P:=P) (base:=base) T (n:=9) (d:=0) (Nat.le_refl _) (blk0 T);exact⟨a,wI T (by omega) a⟩
 | d+1=>by
  have a:=nE (P:=P) (base:=base) T (n:=2 * d+11) (d:=d+1) (by omega) (sU T d).2;exact⟨a,wI T (by omega) a⟩
theorem vB{t:Ad}(T:Tx w K mg t):bG P w K mg base Zt 1 t.CC t.CS ["cell"] Qd:=by
 refine T.xH.ok Jo (fun vs H Q E h=>?_) (fun Zs A outer s H vs Q E hr h=>?_)
 ·obtain⟨c,rfl,_⟩:=h;rfl
 ·obtain⟨c,rfl,q⟩:=h;refine⟨_,(aI (aO (bX (aD (pv 0) (aD (bW q9 (pv 0) aE) aB))))),?_⟩
  and_intros
  wp_walk;exact fun r hr'=>q r _ hr' (Kp.new hr') ⟨_,_,aA,Int.emod_nonneg _ (by decide),Int.emod_lt_of_pos _ (by decide)⟩
theorem BK{t:Ad}(T:Tx w K mg t):bG P w K mg base Zt 20 t.nO t.n9 ["cells"] Uu:=by
 refine T.v7.ok lF (fun vs H Q E h=>?_) (fun Zs A outer s H vs Q E hr h=>?_)
 ·obtain⟨cl,ms,rfl,_⟩:=h;rfl
 ·obtain⟨cl,ms,rfl,ec,lm,q⟩:=h;refine⟨_,(aC (bB (i:=1) lF.nd rfl (Or.inl rfl) (bX aB))
   (aC (AF PassesOwn.never rfl (jI (pv 0)) (mK (i:=2) lF.nd rfl (Or.inl rfl)) (aI (bQ (mJ (pv 1) (aP (sU T 1).1 (hr.mono (by omega)) rfl T.fV T.eR.kp T.fR .nil pass0 (aD (aP (vB T) (hr.mono (by omega)) rfl T.Dd T.xH.kp T.CJ .nil pass0 (aD (pv 2) aB)) (aD aE aB)))))))
   (aI (aO (dI fI rfl T.hX fD (aD (pv 1) aB)))))),?_⟩
  and_intros
  refine aF fun R1 Zm=>?_;wp_walk;refine fun bl hbl=>?_;have N1:=q0D (o:=.lst []) hbl;have ebl:Zh H bl (.lst []) bl=some (.lst []):=aA;have ec1:=N1.at ec;have ncb:cl≠bl:=aK ec hbl;have KS:Kp [bl] H (Zh H bl (.lst [])):=N1.mono (by simp);generalize Zh H bl (.lst [])=G1 at *;clear N1;refine Zm _ _ ?_;clear Zm;clear R1;refine aF fun R2 Zn=>?_;wp_walk;refine⟨⟨_,dQ.of ec1⟩,?_⟩;obtain⟨Pv,Zq⟩:∃ Pv:Nat->St->Hp->Prop,∀ i σ G,Pv i σ G = ∃(v2:Option V) (us:List V) (b:List Stm),σ=[some (.ref cl),some (.ref bl),v2]/\G bl=some (.lst us)/\bF G us b/\b.length<=i/\rR true b/\c9 NM4 b/\rQ b<=1/\G cl=some (.lst (ms.map V.int))/\Kp [bl] H G:=⟨_,fun _ _ _=>rfl⟩;refine zO (xs:=ms.map V.int) Pv ?_ ?_ ?_ ?_
  ·rw[Zq];exact⟨_,[],[],rfl,ebl,.nil,Nat.le_refl _,by simp only[rR],by simp only[c9],by simp[rQ],ec1,KS⟩
  ·intro i σ G _ h;rw[Zq] at h;obtain⟨_,_,_,_,_,_,_,_,_,_,e,_⟩:=h;exact dQ.of e
  ·intro i y σ G hy h;rw[Zq] at h;obtain⟨v2,us,b,rfl,eB,hs,lb,gb,nb,db,ecG,KG⟩:=h;have il:i < ms.length:=by simpa using(List.getElem?_eq_some_iff.mp hy).1
   obtain⟨z,rfl⟩:=Hn hy;have lu:=hs.len;wp_walk using eB;refine fun r G2 nr K2 J2=>⟨r,1,rfl,by decide,by decide,J2,fun v x G3 hv gx nx dx J3 K3=>?_⟩;have T3:=J2.tk K3;have eB3:=K3.at1 (K2.at eB) (aK eB nr);have ec3:=K3.at1 (K2.at ecG) (aK ecG nr);have KG3:Kp [] G G3:=fun b o e _=>K3.at1 (K2.at e) (aK e nr);wp_walk using eB3;refine⟨by omega,?_⟩;have t5:aL G3 (Zh G3 bl (.lst (us++[v]))):=aL.A7 eB3 (by intro _ z;cases z);have kb:Kp [bl] G3 (Zh G3 bl (.lst (us++[v]))):=Kp.set (by simp);rw[Zq];exact⟨_,_,b++[x],rfl,aA,(((hs.kp (aL.nil K2)).kp T3).snoc hv).kp t5,by simp;omega,D6 gb gx,Ew nb nx,by rw[y7];omega,kb.at1 ec3 ncb,(KG.trans (KG3.mono (T:=[bl]) (by simp))).trans kb⟩
  intro σ G h;rw[Zq,List.length_map] at h;obtain⟨v2,us,b,rfl,eB,hs,lb,gb,nb,db,ecG,KG⟩:=h;clear Zq Pv;refine Zn _ _ ?_;clear Zn;clear R2;wp_walk using eB;intro p hp;have N:=q0D (o:=.tup us) hp;exact q p us b _ aA (hs.kp (aL.nil N)) gb nb db (by omega) ((Kp.drop KG hbl).trans N)
theorem BJ{t:Ad}(T:Tx w K mg t):bG P w K mg base Zt 20 t.nN t.nZ ["program","cell"] Ut:=by
 refine T.vZ.ok fY (fun vs H Q E h=>?_) (fun Zs A outer s H vs Q E hr h=>?_)
 ·obtain⟨pg,us,b,c,rfl,_⟩:=h;rfl
 ·obtain⟨pg,us,b,c,rfl,ep,hs,gb,nb,db,lb,q⟩:=h;refine⟨_,(aC (bB (i:=2) fY.nd rfl (Or.inl rfl) (aP (vB T) (hr.mono (by omega)) rfl T.Dd T.xH.kp T.CJ .nil pass0 (aD (pv 1) aB)))
   (aC (bI (aT (TM 1 (Lv hr (by decide))) (pv 0) (bC aB) (nomark _)) (aI (aO (bC (aD (aP (sU T 1).1 (hr.mono (by omega)) rfl T.fV T.eR.kp T.fR .nil pass0 (aD (pv 2) (aD aE aB))) aB)))) bA)
   (aC (bB (i:=3) fY.nd rfl (Or.inl rfl) (aP (bK T) (hr.mono (by omega)) rfl T.cF T.cB.kp T.cE .nil pass0 (aD (pv 2) (aD (cY H8 rfl T.DA qM (aD (pv 0) aB)) aB))))
   (aC (bB (i:=4) fY.nd rfl (Or.inl rfl) (aP (bK T) (hr.mono (by omega)) rfl T.cF T.cB.kp T.cE .nil pass0 (aD (pv 2) (aD aE aB))))
   (aC (bI (aT cX (pv 4) aE (nomark _)) (aI (aO (bW kD (bW kD (cN jL (pv 0) eK (cU (pv 3))) (bC (aD (aP (sU T 1).1 (hr.mono (by omega)) rfl T.fV T.eR.kp T.fR .nil pass0 (aD (pv 2) (aD aE aB))) aB))) (cN jL (pv 0) (cU (bW dU (pv 3) aE)) eK)))) bA)
   (aC (bI (aT cX (pv 4) aE (nomark _)) (aI (aO (bW kD (cN jL (pv 0) eK (cU (pv 3))) (cN jL (pv 0) (cU (bW dU (pv 3) aE)) eK)))) bA)
   (aC (bI (aT cX (pv 4) aE (nomark _)) (aI (aO (bW kD (bW kD (cN jL (pv 0) eK (cU (pv 3))) (bC (aD (aP (sU T 1).1 (hr.mono (by omega)) rfl T.fV T.eR.kp T.fR .nil pass0 (aD (pv 2) (aD aE aB))) aB))) (cN jL (pv 0) (cU (pv 3)) eK)))) bA)
   (aC (bB (i:=5) fY.nd rfl (Or.inl rfl) (Jd rfl rfl T.hX rfl T.vU (aD (cN jL (pv 0) (cU (pv 3)) (cU (bW dU (pv 3) aE))) aB)))
   (aI (aO (bW kD (bW kD (cN jL (pv 0) eK (cU (pv 3))) (pv 5)) (cN jL (pv 0) (cU (bW dU (pv 3) aE)) eK)))))))))))),?_⟩
  and_intros
  refine aF fun R1 Zm=>?_;wp_walk;refine fun r G1 nr K1 J1=>?_;replace ep:=K1.at ep;replace hs:=hs.kp (aL.nil K1);have lu:=hs.len;refine Zm _ _ ?_;clear Zm;clear R1;refine aF fun R2 Zn=>?_;wp_walk using ep;refine fun p2 h2=>?_;have N2:=q0D (o:=.tup []) h2;have e2:Zh G1 p2 (.tup []) p2=some (.tup []):=aA;replace ep:=N2.at ep;replace hs:=hs.kp (aL.nil N2);replace J1:=J1.kp N2;replace K1:=K1.trans N2;generalize Zh G1 p2 (.tup [])=G2 at *;refine⟨_,mW.tup (e:=fun _=>true) (fO.of ep) (fO.of e2) (fun j x y _ e=>by simp at e),?_⟩;have okb:=OI gb nb db;clear N2 h2;split
  ·refine⟨r,1,rfl,by decide,by decide,J1,fun v x G3 hv gx nx dx J3 K3 p hp=>?_⟩;have N:=q0D (o:=.tup [v]) hp;obtain⟨c1,c2,c3⟩:=Hw (b:=[x]) (fun m hm=>by rw[show m=x by simpa using hm];exact⟨gx,nx,by omega⟩);exact q p _ [x] _ aA (.cons (hv.kp (aL.nil N)) .nil) c1 c2 c3 (by simp) (Kp.trans (fun b o e _=>K3.at1 (K1.at e) (aK e nr)) N)
  next ZY =>
  have u0:us≠[]:=fun z=>ZY (by rw[z];rfl);have u1:0 < us.length:=List.length_pos_iff.mpr u0;clear ZY e2;have fin:∀(p:Addr) (vs:List V) (G':Hp),G' p=some (.tup vs)->(∀ v∈vs,∃ m,cL G' v m/\OH m)->vs.length<=3 * us.length+1->Kp [r] G2 G'->Q (.ref p) G':=fun p vs G' e1 e2 e3 e4=>by
   obtain⟨ms,h1,h2,h3⟩:=bF.pick e2;obtain⟨c1,c2,c3⟩:=Hw h2;exact q p vs ms G' e1 h1 c1 c2 c3 (by omega) (fun b o e _=>e4.at1 (K1.at e) (aK e nr))
  refine Zn _ _ ?_;clear Zn;clear R2;refine aF fun R3 Zw=>?_;wp_walk using ep;refine⟨us,fO.of ep,by omega,by omega,J1,fun at' G3 a3 b3 J3 K3=>?_⟩;refine Zw _ _ ?_;clear Zw;clear R3;refine aF fun R4 Z2=>?_;wp_walk;refine⟨J3,fun kd G4 a4 b4 J4 K4=>?_⟩;have K24:=K3.trans K4;have T4:=J1.tk K24;replace ep:=T4 _ _ ep;have abC:=(hs.kp T4).all okb;clear K3 K4 J3 J1 hs;refine Z2 _ _ ?_;clear Z2;clear R4;have lc:∀ a b,(gK us a b).length<=us.length:=fun a b=>nV us a b;have old:∀(G':Hp),aL G4 G'->∀ a b,∀ v∈gK us a b,∃ m,cL G' v m/\OH m:=fun G' t a b v hv=>by
   obtain⟨m,x,y⟩:=abC v (Ka hv);exact⟨m,x.kp t,y⟩
  refine aF fun R5 hR5=>?_;wp_walk;split
  ·refine tK ep fun p5 G5 e5 K5=>?_;have J5:=J4.kp K5;wp_walk;refine⟨r,1,rfl,by decide,by decide,J5,fun v x G6 hv gx nx dx J6 K6 p7 h7=>?_⟩;have N7:=q0D (o:=.tup [v]) h7;have T7:=((aL.nil K5).trans (J5.tk K6)).trans (aL.nil N7);have T57:=(J5.tk K6).trans (aL.nil N7);refine Bi (T57 _ _ e5) aA (by have:=lc none (some at');simp only[List.length_cons,List.length_nil];omega) fun p8 G8 e8 K8=>?_;wp_walk;refine tK (K8.at (T7 _ _ ep)) fun p9 G9 e9 K9=>?_;refine Bi (K9.at e8) e9 (by have:=lc none (some at');have:=lc (some (at'+1)) none;simp only[List.length_append,List.length_cons,List.length_nil];omega) fun pa GA ea KA=>?_;have TA:aL G6 GA:=(aL.nil N7).trans (aL.nil ((K8.trans K9).trans KA));refine fin pa _ GA ea (fun y hy=>?_) (by have:=lc none (some at');have:=lc (some (at'+1)) none;simp only[List.length_append,List.length_cons,List.length_nil];omega) (((K24.trans (K5.mono (by simp))).trans K6).trans ((((N7.trans K8).trans K9).trans KA).mono (by simp)));rcases List.mem_append.mp hy with hy|hy
   ·rcases List.mem_append.mp hy with hy|hy
    ·exact old GA (((aL.nil K5).trans (J5.tk K6)).trans TA) _ _ y hy
    ·rw[show y=v by simpa using hy];exact⟨x,hv.kp TA,gx,nx,by omega⟩
   ·exact old GA (((aL.nil K5).trans (J5.tk K6)).trans TA) _ _ y hy
  refine hR5 _ _ ?_;clear hR5 R5;refine aF fun R6 hR6=>?_;wp_walk;split
  ·refine tK ep fun p5 G5 e5 K5=>?_;wp_walk;refine tK (K5.at ep) fun p9 G9 e9 K9=>?_;refine Bi (K9.at e5) e9 (by have:=lc none (some at');have:=lc (some (at'+1)) none;omega) fun pa GA ea KA=>?_;have TA:aL G4 GA:=aL.nil ((K5.trans K9).trans KA);refine fin pa _ GA ea (fun y hy=>?_) (by have:=lc none (some at');have:=lc (some (at'+1)) none;simp only[List.length_append];omega) (K24.trans (((K5.trans K9).trans KA).mono (by simp)));rcases List.mem_append.mp hy with hy|hy
   ·exact old GA TA _ _ y hy
   ·exact old GA TA _ _ y hy
  refine hR6 _ _ ?_;clear hR6 R6;refine aF fun R7 hR7=>?_;wp_walk;split
  ·refine tK ep fun p5 G5 e5 K5=>?_;have J5:=J4.kp K5;wp_walk;refine⟨r,1,rfl,by decide,by decide,J5,fun v x G6 hv gx nx dx J6 K6 p7 h7=>?_⟩;have N7:=q0D (o:=.tup [v]) h7;have T7:=((aL.nil K5).trans (J5.tk K6)).trans (aL.nil N7);have T57:=(J5.tk K6).trans (aL.nil N7);refine Bi (T57 _ _ e5) aA (by have:=lc none (some at');simp only[List.length_cons,List.length_nil];omega) fun p8 G8 e8 K8=>?_;wp_walk;refine tK (K8.at (T7 _ _ ep)) fun p9 G9 e9 K9=>?_;refine Bi (K9.at e8) e9 (by have:=lc none (some at');have:=lc (some at') none;simp only[List.length_append,List.length_cons,List.length_nil];omega) fun pa GA ea KA=>?_;have TA:aL G6 GA:=(aL.nil N7).trans (aL.nil ((K8.trans K9).trans KA));refine fin pa _ GA ea (fun y hy=>?_) (by have:=lc none (some at');have:=lc (some at') none;simp only[List.length_append,List.length_cons,List.length_nil];omega) (((K24.trans (K5.mono (by simp))).trans K6).trans ((((N7.trans K8).trans K9).trans KA).mono (by simp)));rcases List.mem_append.mp hy with hy|hy
   ·rcases List.mem_append.mp hy with hy|hy
    ·exact old GA (((aL.nil K5).trans (J5.tk K6)).trans TA) _ _ y hy
    ·rw[show y=v by simpa using hy];exact⟨x,hv.kp TA,gx,nx,by omega⟩
   ·exact old GA (((aL.nil K5).trans (J5.tk K6)).trans TA) _ _ y hy
  refine hR7 _ _ ?_;clear hR7 R7;refine aF fun R8 hR8=>?_;wp_walk;refine tK ep fun p5 G5 e5 K5=>⟨p5,_,rfl,fO.of e5,?_,?_,fun p6 h6=>?_⟩
  ·obtain⟨k,rfl⟩:∃ k:Nat,at'=(k:Int):=⟨at'.toNat,by omega⟩;unfold gK;rw[show(k:Int)+2=((k+2:Nat):Int) by omega,HT.xS,HT.xS,List.length_take,List.length_drop];omega
  ·have:=lc (some at') (some (at'+2));omega
  have N6:=q0D (o:=.tup (gK us (some at') (some (at'+2))).reverse) h6;have e6:Zh G5 p6 (.tup (gK us (some at') (some (at'+2))).reverse) p6=some (.tup (gK us (some at') (some (at'+2))).reverse):=aA;replace K5:=K5.trans N6;generalize Zh G5 p6 (.tup (gK us (some at') (some (at'+2))).reverse)=G6 at *;have l1:=lc none (some at');have l2:=lc (some at') (some (at'+2));have l3:=lc (some (at'+2)) none;refine hR8 _ _ ?_;clear hR8 R8;wp_walk;refine tK (K5.at ep) fun p7 G7 e7 K7=>?_;refine Bi e7 (K7.at e6) (by simp only[List.length_reverse];omega) fun p8 G8 e8 K8=>?_;wp_walk;refine tK ((K5.trans (K7.trans K8)).at ep) fun p9 G9 e9 K9=>?_;refine Bi (K9.at e8) e9 (by simp only[List.length_append,List.length_reverse];omega) fun pa GA ea KA=>?_;have KB:=K5.trans (K7.trans (K8.trans (K9.trans KA)));refine fin pa _ GA ea (fun y hy=>?_) (by simp only[List.length_append,List.length_reverse];omega) (K24.trans (KB.mono (by simp)));rcases List.mem_append.mp hy with hy|hy
  ·rcases List.mem_append.mp hy with hy|hy
   ·exact old GA (aL.nil KB) _ _ y hy
   ·exact old GA (aL.nil KB) _ _ y (List.mem_reverse.mp hy)
  ·exact old GA (aL.nil KB) _ _ y hy
theorem vA{t:Ad}(T:Tx w K mg t):bG P w K mg base Zt 20 t.jX t.j7 ["cells"] O7:=by
 refine T.oC.ok bO (fun vs H Q E h=>?_) (fun Zs A outer s H vs Q E hr h=>?_)
 ·obtain⟨cl,ms,rfl,_⟩:=h;rfl
 ·obtain⟨cl,ms,rfl,ec,lm,q⟩:=h;refine⟨_,(aC (bB (i:=1) bO.nd rfl (Or.inl rfl) (bX aB))
   (aC (bB (i:=2) bO.nd rfl (Or.inl rfl) aE)
   (aC (AF PassesOwn.never rfl (jI (pv 0)) (mK (i:=3) bO.nd rfl (Or.inl rfl)) (aC (bB (i:=4) bO.nd rfl (Or.inl rfl) (aP (vB T) (hr.mono (by omega)) rfl T.Dd T.xH.kp T.CJ .nil pass0 (aD (pv 3) aB)))
   (aC (bB (i:=5) bO.nd rfl (Or.inl rfl) (aP (bK T) (hr.mono (by omega)) rfl T.cF T.cB.kp T.cE .nil pass0 (aD (pv 4) (aD aE aB))))
   (aC (bB (i:=2) bO.nd rfl (Or.inl rfl) (bW dU (pv 2) (aP (bK T) (hr.mono (by omega)) rfl T.cF T.cB.kp T.cE .nil pass0 (aD (pv 4) (aD aE aB)))))
   (aC (bB (i:=6) bO.nd rfl (Or.inl rfl) (aZ bJ (bX (aD eJ (aD aE (aD aE (aD aE (aD (AB rO aE) (aD aE aB))))))) (aP (bK T) (hr.mono (by omega)) rfl T.cF T.cB.kp T.cE .nil pass0 (aD (pv 4) (aD aE aB))) (fun _ _=>rfl)))
   (aI (bI (aT kX (pv 5) aE (nomark _)) (aI (bQ (mJ (pv 1) (bC (aD aR (aD (pv 2) (aD (aP (bK T) (hr.mono (by omega)) rfl T.cF T.cB.kp T.cE .nil pass0 (aD (pv 4) (aD aE aB))) (aD (pv 6) aB)))))))) (aI (bI (aT kX (pv 5) aE (nomark _)) (aI (bQ (mJ (pv 1) (bC (aD aR (aD (pv 2) (aD (aZ bJ (bX (aD aR (aD aR aB))) (aP (bK T) (hr.mono (by omega)) rfl T.cF T.cB.kp T.cE .nil pass0 (aD (pv 4) (aD aE aB))) (fun _ _=>rfl)) (aD (pv 6) aB)))))))) (aI (bQ (mJ (pv 1) (bC (aD aR (aD (pv 2) (aD (pv 6) aB))))))))))))))))
   (aC (bB (i:=7) bO.nd rfl (Or.inl rfl) (cY (Ic rfl) rfl T.UI QP (aD (cN Gp (pv 0) eK (cU aE)) aB)))
   (aC (bB (i:=8) bO.nd rfl (Or.inl rfl) (cN Gp (bX (aD (bC (aD aR (aD aE (aD aR (aD aE aB))))) (aD (bC (aD aR (aD aE (aD aE (aD aE aB))))) aB))) eK (cU (bW q9 (pv 7) aE))))
   (aI (aO (bW dU (bW dU (pv 8) (bX (aD (bC (aD aR (aD aE (aD (aZ bJ (bX (aD eJ (aD aE (aD aE aB)))) (bW q9 (bW Az (pv 7) aE) aE) (fun _ _=>rfl)) aB)))) aB))) (pv 1))))))))),?_⟩
  and_intros
  refine aF fun R1 Zm=>?_;wp_walk;refine fun bl hbl=>?_;have N1:=q0D (o:=.lst []) hbl;have ebl:Zh H bl (.lst []) bl=some (.lst []):=aA;have ec1:=N1.at ec;have ncb:cl≠bl:=aK ec hbl;have KS:Kp [bl] H (Zh H bl (.lst [])):=N1.mono (by simp);generalize Zh H bl (.lst [])=G1 at *;clear N1;refine Zm _ _ ?_;clear Zm;clear R1;refine aF fun R2 Zn=>?_;wp_walk;refine Zn _ _ ?_;clear Zn;clear R2;refine aF fun R3 Zw=>?_;wp_walk;refine⟨⟨_,dQ.of ec1⟩,?_⟩;obtain⟨Pv,Zq⟩:∃ Pv:Nat->St->Hp->Prop,∀ i σ G,Pv i σ G = ∃(v3 v4 v5 v6:Option V) (m:Int) (us:List V) (hs:List Hap),σ=[some (.ref cl),some (.ref bl),some (.int m),v3,v4,v5,v6,none,none]/\0<=m/\m<=4 * i/\G bl=some (.lst us)/\bM G us hs/\hs.length<=i/\(∀ h∈hs,h.inK)/\G cl=some (.lst (ms.map V.int))/\Kp [bl] H G:=⟨_,fun _ _ _=>rfl⟩;refine zO (xs:=ms.map V.int) Pv ?_ ?_ ?_ ?_
  ·rw[Zq];exact⟨_,_,_,_,0,[],[],rfl,by omega,by omega,ebl,.nil,Nat.le_refl _,by simp,ec1,KS⟩
  ·intro i σ G _ h;rw[Zq] at h;obtain⟨_,_,_,_,_,_,_,_,_,_,_,_,_,_,e,_⟩:=h;exact dQ.of e
  ·intro i y σ G hy h;rw[Zq] at h;obtain⟨v3,v4,v5,v6,m,us,hs,rfl,m0,m1,eB,hH,lb,ok,ecG,KG⟩:=h;have il:i < ms.length:=by simpa using(List.getElem?_eq_some_iff.mp hy).1
   obtain⟨z,rfl⟩:=Hn hy;have lu:=hH.len;refine aF fun Ra ZS=>?_;wp_walk;refine fun r G2 nr K2 J2=>?_;refine ZS _ _ ?_;clear ZS Ra;refine aF fun Ra ZS=>?_;wp_walk;refine⟨J2,fun kd G3 a3 b3 J3 K3=>?_⟩;refine ZS _ _ ?_;clear ZS Ra;refine aF fun Ra ZS=>?_;wp_walk;refine⟨J3,fun g4 G4 a4 b4 J4 K4=>?_⟩;refine ZS _ _ ?_;clear ZS Ra;refine aF fun Ra ZS=>?_;wp_walk;refine fun p5 h5=>⟨J4.new h5,fun g5 G5 a5 b5 J5 K5=>?_⟩;wp_walk using made1J K5 J4 h5;refine rA a5 b5 fun y5 hy5=>?_;obtain⟨w,hw,rfl⟩:∃ w:Wo,eZ w/\y5=wv w:=by
    simp only[List.mem_cons,List.not_mem_nil,or_false] at hy5;rcases hy5 with rfl|rfl|rfl|rfl|rfl|rfl
    ·exact⟨none,j9,rfl⟩
    ·exact⟨some 0,cM (by decide) (by decide),rfl⟩
    ·exact⟨some 1,cM (by decide) (by decide),rfl⟩
    ·exact⟨some 2,cM (by decide) (by decide),rfl⟩
    ·exact⟨some (-1),cM (by decide) (by decide),rfl⟩
    ·exact⟨some 7,cM (by decide) (by decide),rfl⟩
   have K25:Kp [r] G2 G5:=((K3.trans K4).trans (Kp.new h5)).trans K5;have KF:Kp [] G G5:=fun b o e _=>K25.at1 (K2.at e) (aK e nr);have nbr:=aK eB nr;refine ZS _ _ ?_;have KR:=K25;clear ZS Ra K3 K4 K5 J3 J4 h5 K25;have fin:∀(h:Hap) (v:V) (G':Hp),nG G' v h->h.inK->G' bl=some (.lst us)->Kp [] G G'->Pv (i+1) [some (.ref cl),some (.ref bl),some (.int (m+g4)),some (.int z),some (.ref r),some (.int kd),some (wv w),none,none] (Zh G' bl (.lst (us++[v]))):=fun h v G' hA hk eb k=>by
    have t5:aL G' (Zh G' bl (.lst (us++[v]))):=aL.A7 eb (by intro _ z;cases z);have kb:Kp [bl] G' (Zh G' bl (.lst (us++[v]))):=Kp.set (by simp);rw[Zq];exact⟨_,_,_,_,_,_,hs++[h],rfl,by omega,by omega,aA,((hH.kt (aL.nil k)).kt t5).snoc (Lq hA t5),by simp;omega,fun g hg=>by
     rcases List.mem_append.mp hg with hg|hg
     ·exact ok g hg
     ·rw[show g=h by simpa using hg];exact hk,kb.at1 (k.at ecG) ncb,(KG.trans (k.mono (T:=[bl]) (by simp))).trans kb⟩
   clear Zq;have eB5:=KF.at eB;wp_walk using eB5;split
   ·wp_walk using eB5;refine⟨J5,fun g6 G6 a6 b6 J6 K6 p hp=>?_⟩;have KF6:Kp [] G G6:=fun b o e _=>(show Kp [r] G2 G6 from KR.trans K6).at1 (K2.at e) (aK e nr);have eB6:=(KF6.trans (Kp.new (o:=.tup [.str "done",.int (m+g4),.int g6,wv w]) hp)).at eB;wp_walk using eB6;exact⟨by omega,fin (.don (m+g4) g6 w) _ _ ⟨p,rfl,aA⟩ ⟨⟨⟨by show 0<=m+g4;omega,by show m+g4<=1000000000000;omega⟩,hw⟩,fun _ _ _ z=>by cases z⟩ eB6 (KF6.trans (Kp.new hp))⟩
   split
   ·wp_walk using eB5;refine fun p6 h6=>⟨J5.new h6,fun g6 G6 a6 b6 J6 K6=>?_⟩;wp_walk using made1J K6 J5 h6;refine rA a6 b6 fun y6 hy6=>?_;obtain⟨k6,hk6,rfl⟩:∃ k:Str,k∈KY3/\y6=.str k:=by simp only[List.mem_cons,List.not_mem_nil,or_false] at hy6;rcases hy6 with rfl|rfl<;>exact⟨_,by simp[KY3],rfl⟩
    wp_walk;refine fun p hp=>?_;have KF6:Kp [] G G6:=fun b o e _=>(show Kp [r] G2 G6 from (KR.trans (Kp.new h6)).trans K6).at1 (K2.at e) (aK e nr);have eB6:=(KF6.trans (Kp.new (o:=.tup [.str "letter",.int (m+g4),.str k6,wv w]) hp)).at eB;wp_walk using eB6;exact⟨by omega,fin (.ltr (m+g4) k6 w) _ _ ⟨p,rfl,aA⟩ ⟨⟨⟨by show 0<=m+g4;omega,by show m+g4<=1000000000000;omega⟩,hw⟩,fun _ _ _ z=>by cases z;exact hk6⟩ eB6 (KF6.trans (Kp.new hp))⟩
   ·wp_walk using eB5;refine fun p hp=>?_;have eB6:=(q0D (o:=.tup [.str "begin",.int (m+g4),wv w]) hp).at eB5;wp_walk using eB6;exact⟨by omega,fin (.beg (m+g4) w) _ _ ⟨p,rfl,aA⟩ ⟨⟨⟨by show 0<=m+g4;omega,by show m+g4<=1000000000000;omega⟩,hw⟩,fun _ _ _ z=>by cases z⟩ eB6 (KF.trans (Kp.new hp))⟩
  intro σ G h;rw[Zq,List.length_map] at h;obtain⟨v3,v4,v5,v6,m,us,hs,rfl,m0,m1,eB,hH,lb,ok,ecG,KG⟩:=h;clear Zq Pv;refine Zw _ _ ?_;clear Zw;clear R3;refine aF fun R4 Z2=>?_;wp_walk using ecG;refine fun p1 h1=>?_;obtain⟨ns,en,ln⟩:=yP ms none (some 2);rw[en];have N1:=q0D (o:=.lst (ns.map V.int)) h1;refine⟨ns,dQ.of aA,fun fz=>?_⟩;replace eB:=N1.at eB;replace hH:=hH.kt (aL.nil N1);replace KG:=KG.trans (N1.mono (T:=[bl]) (by simp));generalize Zh G p1 (.lst (ns.map V.int))=G7 at *;clear N1 h1 ecG;refine Z2 _ _ ?_;clear Z2;clear R4;refine aF fun R5 hR5=>?_;wp_walk;refine fun p2 h2 p3 h3 p4 h4=>?_;have M_1:=q0D (o:=.tup [.str "letter",.int 0,.str "key",.int 5]) h2;have M_2:=q0D (o:=.tup [.str "done",.int 2,.int 0,.int 1]) h3;have M_3:=q0D (o:=.lst [.ref p2,.ref p3]) h4;have f1:=(M_2.trans M_3).at (aA:(Zh G7 p2 (.tup [.str "letter",.int 0,.str "key",.int 5])) p2=some (.tup [.str "letter",.int 0,.str "key",.int 5]));have f2:=M_3.at (aA:(Zh (Zh G7 p2 (.tup [.str "letter",.int 0,.str "key",.int 5])) p3 (.tup [.str "done",.int 2,.int 0,.int 1])) p3=some (.tup [.str "done",.int 2,.int 0,.int 1]));have f3:(Zh (Zh (Zh G7 p2 (.tup [.str "letter",.int 0,.str "key",.int 5])) p3 (.tup [.str "done",.int 2,.int 0,.int 1])) p4 (.lst [.ref p2,.ref p3])) p4=some (.lst [.ref p2,.ref p3]):=aA;have MM:=((M_1.trans M_2).trans M_3);generalize Zh (Zh (Zh G7 p2 (.tup [.str "letter",.int 0,.str "key",.int 5])) p3 (.tup [.str "done",.int 2,.int 0,.int 1])) p4 (.lst [.ref p2,.ref p3])=G8 at *;clear M_1 M_2 M_3 h2 h3 h4;wp_walk using f3;refine fun p5 h5=>?_;have hA:bM G8 [.ref p2,.ref p3] [.ltr 0 "key" (some 5),.don 2 0 (some 1)]:=.cons ⟨p2,rfl,f1⟩ (.cons ⟨p3,rfl,f2⟩ .nil);obtain⟨gs,hg,mg,lg⟩:=hA.cut none (some (fz % 3));generalize gK [V.ref p2,V.ref p3] none (some (fz % 3))=ys at *;have N5:=MM.trans (q0D (o:=.lst ys) h5);have e5:Zh G8 p5 (.lst ys) p5=some (.lst ys):=aA;replace hg:=hg.kt (aL.nil (q0D (o:=.lst ys) h5));replace eB:=N5.at eB;replace hH:=hH.kt (aL.nil N5);replace KG:=KG.trans (N5.mono (T:=[bl]) (by simp));have okg:∀ h∈gs,h.inK:=fun h hh=>by
   have:=mg h hh;simp only[List.mem_cons,List.not_mem_nil,or_false] at this;rcases this with rfl|rfl
   ·exact⟨⟨⟨by decide,by decide⟩,cM (by decide) (by decide)⟩,fun _ _ _ z=>by cases z;simp[KY3]⟩
   ·exact⟨⟨⟨by decide,by decide⟩,cM (by decide) (by decide)⟩,fun _ _ _ z=>by cases z⟩
  generalize Zh G8 p5 (.lst ys)=G9 at *;clear MM f1 f2 f3 h5 N5 hA mg;refine hR5 _ _ ?_;clear hR5 R5;wp_walk;refine fun p6 h6=>?_;have N6:=q0D (o:=.lst [.Zj,.int 1,.int 3]) h6;have f6:Zh G9 p6 (.lst [.Zj,.int 1,.int 3]) p6=some (.lst [.Zj,.int 1,.int 3]):=aA;wp_walk using f6;have g0:0<=fz / 3 % 3:=Int.emod_nonneg _ (by decide);have g1:fz / 3 % 3 < 3:=Int.emod_lt_of_pos _ (by decide);refine⟨⟨by decide,by decide⟩,rA g0 g1 fun v hv=>?_⟩;obtain⟨w,hw,rfl⟩:∃ w:Wo,eZ w/\v=wv w:=by
   simp only[List.mem_cons,List.not_mem_nil,or_false] at hv;rcases hv with rfl|rfl|rfl
   ·exact⟨none,j9,rfl⟩
   ·exact⟨some 1,cM (by decide) (by decide),rfl⟩
   ·exact⟨some 3,cM (by decide) (by decide),rfl⟩
  wp_walk;refine fun p7 h7 p8 h8=>?_;have N8:=N6.trans ((q0D (o:=.tup [.str "begin",.int 0,wv w]) h7).trans (Kp.new (o:=.lst [.ref p7]) h8));have e7:=(q0D (o:=.lst [.ref p7]) h8).at (aA:Zh (Zh G9 p6 (.lst [.Zj,.int 1,.int 3])) p7 (.tup [.str "begin",.int 0,wv w]) p7=_);have e8:Zh (Zh (Zh G9 p6 (.lst [.Zj,.int 1,.int 3])) p7 (.tup [.str "begin",.int 0,wv w])) p8 (.lst [.ref p7]) p8=some (.lst [.ref p7]):=aA;replace e5:=N8.at e5;replace eB:=N8.at eB;replace hg:=hg.kt (aL.nil N8);replace hH:=hH.kt (aL.nil N8);replace KG:=KG.trans (N8.mono (T:=[bl]) (by simp));generalize Zh (Zh (Zh G9 p6 (.lst [.Zj,.int 1,.int 3])) p7 (.tup [.str "begin",.int 0,wv w])) p8 (.lst [.ref p7])=GA at *;have l1:=hg.len;have l2:=hH.len;have lg2:gs.length<=2:=lg;wp_walk using e5,e8;refine⟨by omega,fun p9 h9=>?_⟩;have N9:=q0D (o:=.lst (ys++[.ref p7])) h9;replace eB:=N9.at eB;have e9:Zh GA p9 (.lst (ys++[.ref p7])) p9=some (.lst (ys++[.ref p7])):=aA;wp_walk using eB,e9;refine⟨by rw[List.length_append,List.length_cons,List.length_nil];omega,fun pa ha=>?_⟩;have NA:=N9.trans (q0D (o:=.lst (ys++[.ref p7]++us)) ha);have hB:bM GA [.ref p7] [.beg 0 w]:=.cons ⟨p7,rfl,e7⟩ .nil;refine q pa _ ((gs++[.beg 0 w])++hs) _ aA (((hg.app hB).app hH).kt (aL.nil NA)) (fun h hh=>?_) (by simp only[List.length_append,List.length_cons,List.length_nil];omega) ?_ ((Kp.drop KG hbl).trans NA)
  ·rcases List.mem_append.mp hh with hh|hh
   ·rcases List.mem_append.mp hh with hh|hh
    ·exact okg h hh
    ·rw[show h=.beg 0 w by simpa using hh];exact⟨⟨⟨Int.le_refl 0,by show(0:Int)<=1000000000000;decide⟩,hw⟩,fun _ _ _ z=>by cases z⟩
   ·exact ok h hh
  ·exact(Kp.drop KG hbl).fM (N9.fM ha)
theorem gW{t:Ad}(T:Tx w K mg t):bG P w K mg base Zt 4 t.fB t.fE ["first","second"] YO:=by
 refine T.fF.ok eM (fun vs H Q E h=>?_) (fun Zs A outer s H vs Q E hr h=>?_)
 ·obtain⟨a,b,rs,ZQ,Zr,abW,rfl,_⟩:=h;rfl
 ·obtain⟨a,b,rs,ZQ,Zr,abW,rfl,ea,eb,w1,w2,lc,l1,o1,o2,q1,q2⟩:=h;refine⟨_,(aC (AF PassesOwn.never rfl (OP rfl T.rP (aD (pv 0) aB)) (TZ rfl (EH (mK (i:=2) eM.nd rfl (Or.inl rfl)) (EH (mK (i:=3) eM.nd rfl (Or.inl rfl)) ON))) (aI (bI (aT (Ge 2 (Lv hr (by decide))) (pv 3) (aZ bJ (pv 1) (pv 2) (fun _ _=>rfl)) (nomark _)) (aI (aO (bC (aD (pv 2) (aD (pv 3) (aD (aZ bJ (pv 1) (pv 2) (fun _ _=>rfl)) aB)))))) bA)))
   (aI (aO eJ))),?_⟩
  and_intros
  refine aF fun R1 Zm=>?_;wp_walk using ea;refine⟨⟨_,dQ.of ea⟩,?_⟩;obtain⟨Pv,Zq⟩:∃ Pv:Nat->St->Hp->Prop,∀ i σ G,Pv i σ G = ∃(v2 v3:Option V),σ=[some (.ref a),some (.ref b),v2,v3]/\(∀ j,j < i->∀ c d,Zr[j]?=some c->abW[j]?=some d->ceq c d=true)/\Kp [] H G:=⟨_,fun _ _ _=>rfl⟩;refine Lm (xs:=rs.map V.ref) Pv ?_ ?_ ?_ ?_
  ·rw[Zq];exact⟨_,_,rfl,fun j hj=>by omega,Kp.refl⟩
  ·intro i σ G _ h;rw[Zq] at h;obtain⟨_,_,_,_,k⟩:=h;exact dQ.of (k.at ea)
  ·intro i y σ G hi h p3 h3;rw[Zq] at h;obtain⟨v2,v3,rfl,al,k⟩:=h;rw[List.getElem?_map] at hi;obtain⟨r0,er,rfl⟩:=Option.map_eq_some_iff.mp hi;obtain⟨u0,c0,ec,e0,hc0⟩:=w1.at' er;have il:i < Zr.length:=(List.getElem?_eq_some_iff.mp ec).1;obtain⟨r2,er2⟩:∃ r2,ZQ[i]?=some r2:=⟨_,List.getElem?_eq_getElem (by rw[w2.1];omega)⟩;obtain⟨u2,c2,ec2,e2,hc2⟩:=w2.at' er2;rw[List.append_nil] at e0 e2;have N3:=q0D (o:=.tup [.int i,.ref r0]) h3;have k3:=k.trans N3;have ix:iM (ZQ.map V.ref) (i:Nat)=some (.ref r2):=pF (by rw[List.getElem?_map,er2];rfl);wp_walk;refine⟨[.int i,.ref r0],fO.of aA,rfl,?_⟩;have eb3:=k3.at eb;have rc:=Q3 (K:=K) (n:=0) (k3.at e0) (k3.at e2) (hc0.kt (aL.nil k3)) (hc2.kt (aL.nil k3)) (o1 c0 (List.mem_of_getElem? ec)).1 (o2 c2 (List.mem_of_getElem? ec2)).1;generalize Zh G p3 (.tup [.int i,.ref r0])=G3 at *;wp_walk using eb3,ix;refine⟨_,rc,?_⟩;cases hq:ceq c0 c2 with
   | false =>
    rw[if_pos (by rfl)];wp_walk using eb3,ix;refine fun p hp=>q2 i r0 r2 (vX i ec ec2 al hq) er er2 p _ (k3.fM hp) aA (k3.trans (Kp.new hp))
   | true =>
    rw[if_neg (by simp)];wp_walk;rw[Zq];refine⟨_,_,rfl,fun j hj c d e1 e2=>?_,k3⟩;by_cases h:j=i
    ·subst h;rw[ec] at e1;rw[ec2] at e2;cases e1;cases e2;exact hq
    ·exact al j (by omega) c d e1 e2
  intro σ G h;rw[Zq,List.length_map,w1.1] at h;obtain⟨v2,v3,rfl,al,k⟩:=h;clear Zq;refine Zm _ _ ?_;clear Zm;clear R1;wp_walk;exact q1 (vW fun j c d e1 e2=>al j ((List.getElem?_eq_some_iff.mp e1).1) c d e1 e2) G k
theorem EC{t:Ad}(T:Tx w K mg t):bG P w K mg base Zt 1 t.pD t.uC ["self","program"] (EW t.aW):=by
 refine T.Ir.ok ER (fun vs H Q E h=>?_) (fun Zs A outer s H vs Q E hr h=>?_)
 ·obtain⟨x,dx,p,us,b,rfl,_⟩:=h;rfl
 ·obtain⟨x,dx,p,us,b,rfl,e,ep,hU,q⟩:=h;refine⟨_,(aC (dC T.cP T.iH (pv 0) (bX (aD (pv 1) aB)))
   (aI (dC T.cP T.eT (pv 0) (bX (aD aE aB))))),?_⟩
  and_intros
  wp_walk using e;refine fun lb f1=>?_;have n1:x≠lb:=aK e f1;wp_walk using aG n1,e;refine fun ln f2=>?_;have n2:x≠ln:=aK aA f2;have n3:lb≠ln:=aK (by rw[aG n1.symm];exact aA) f2;wp_walk using aG n2;rw[aG n2.symm,aG n3.symm] at f2;have npx:p≠x:=dZ ep e (by intro z;cases z);have npl:=aK ep f1;have npn:=aK ep f2;have KK:Kp [x] H (Zh (Zh (Zh (Zh H lb (.lst [.ref p])) x (.ins t.aW dx [("blocks",.ref lb)])) ln (.lst [.int 0])) x (.ins t.aW dx [("blocks",.ref lb),("numbers",.ref ln)])):=fun b o eb nb=>by
   have nb':b≠x:=by simpa using nb
   rw[aG nb',aG (aK eb f2),aG nb',aG (aK eb f1)];exact eb
  have TT:aL H _:=fun a xs ea=>KK a _ ea (by simp only[List.mem_cons,List.not_mem_nil,or_false];exact dZ ea e (by intro z;cases z));refine q lb ln _ f1 f2 ⟨aA,⟨[.ref p],?_,.one (TT _ _ ep) (hU.kp TT)⟩,?_,n3,by simp⟩ KK
  ·rw[aG n1.symm,aG n3,aG n1.symm];exact aA
  ·rw[aG n2.symm];exact aA
theorem Aq{t:Ad}(T:Tx w K mg t):bG P w K mg base Zt 1 t.jB t.l8 ["self"] (EV t.aJ):=by
 refine T.CY.ok AU (fun vs H Q E h=>?_) (fun Zs A outer s H vs Q E hr h=>?_)
 ·obtain⟨x,dx,rfl,_⟩:=h;rfl
 ·obtain⟨x,dx,rfl,e,q⟩:=h;refine⟨_,(aC (dC T.bD T.uS (pv 0) aE)
   (aC (dC T.bD T.gJ (pv 0) sZ)
   (aI (dC T.bD T.gH (pv 0) sZ)))),?_⟩
  and_intros
  wp_walk using e;refine fun dp f1=>?_;have n1:x≠dp:=aK aA f1;wp_walk using aG n1;refine fun da f2=>?_;have n2:x≠da:=aK aA f2;have n3:dp≠da:=aK (by rw[aG n1.symm];exact aA) f2;wp_walk using aG n2;rw[aG n1.symm] at f1;rw[aG n2.symm,aG n3.symm,aG n2.symm] at f2;refine q dp da _ f1 f2 ⟨aA,?_,?_,n3,by simp,.nil,by simp,by simp,by decide⟩ ?_
  ·rw[aG n1.symm,aG n3,aG n1.symm];exact aA
  ·rw[aG n2.symm];exact aA
  ·intro b o eb nb;have nb':b≠x:=by simpa using nb
   rw[aG nb',aG (aK eb f2),aG nb',aG (aK eb f1),aG nb'];exact eb
theorem An{t:Ad}(T:Tx w K mg t):bG P w K mg base Zt 3 t.rV t.yR ["self","program"] (HJ ⟨t.aV,t.aW,t.aJ⟩):=by
 refine T.Lg.ok Gj (fun vs H Q E h=>?_) (fun Zs A outer s H vs Q E hr h=>?_)
 ·obtain⟨x,dx,pg,us,b,rfl,_⟩:=h;rfl
 ·obtain⟨x,dx,pg,us,b,rfl,e,ep,hs,q⟩:=h;refine⟨_,(aC (dC T.aX T.kB (pv 0) (Di T.FQ (EC T) (hr.mono (by omega)) rfl T.WT T.HZ .nil pass0 (aD (pv 1) aB)))
   (aC (dC T.aX T.dF (pv 0) (bC (aD aR aB)))
   (aC (dC T.aX T.Cc (pv 0) eJ)
   (aC (dC T.aX T.sQ (pv 0) aE)
   (aC (dC T.aX T.fZ (pv 0) sZ)
   (aC (dC T.aX T.cJ (pv 0) (L5 T.uP (Aq T) (hr.mono (by omega)) rfl T.LF T.CH .nil pass0))
   (aI (dC T.aX T.gI (pv 0) sZ)))))))),?_⟩
  and_intros
  refine aF fun R1 Zm=>?_;wp_walk using e;refine OD ep hs fun wk wx lb ln Gw Kw hwk hlb hln W0=>?_;have ew:=Kw.at e;wp_walk using ew;have g1:Zh Gw x (.ins t.aV dx [("walk",.ref wk)]) x=some (.ins t.aV dx [("walk",.ref wk)]):=aA;have K1:Kp [x] Gw (Zh Gw x (.ins t.aV dx [("walk",.ref wk)])):=Kp.set (by simp);generalize Zh Gw x (.ins t.aV dx [("walk",.ref wk)])=G1 at *;refine Zm _ _ ?_;clear Zm;clear R1;refine aF fun R2 Zn=>?_;wp_walk using g1;refine fun p h2=>?_;obtain⟨g2,f2,K2,n2⟩:=put2 (o:=.tup [.str "new"]) (o':=.ins t.aV dx [("walk",.ref wk),("sleep",.ref p)]) g1 h2;wp_walk using aG n2,g1;generalize Zh (Zh G1 p (.tup [.str "new"])) x (.ins t.aV dx [("walk",.ref wk),("sleep",.ref p)])=G2 at *;refine Zn _ _ ?_;clear Zn;clear R2;refine aF fun R3 Zw=>?_;wp_walk using g2;have g3:Zh G2 x (.ins t.aV dx [("walk",.ref wk),("sleep",.ref p),("arg",.Zj)]) x=some (.ins t.aV dx [("walk",.ref wk),("sleep",.ref p),("arg",.Zj)]):=aA;have K3:Kp [x] G2 (Zh G2 x (.ins t.aV dx [("walk",.ref wk),("sleep",.ref p),("arg",.Zj)])):=Kp.set (by simp);generalize Zh G2 x (.ins t.aV dx [("walk",.ref wk),("sleep",.ref p),("arg",.Zj)])=G3 at *;refine Zw _ _ ?_;clear Zw;clear R3;refine aF fun R4 Z2=>?_;wp_walk using g3;have g4:Zh G3 x (.ins t.aV dx [("walk",.ref wk),("sleep",.ref p),("arg",.Zj),("now",.int 0)]) x=some (.ins t.aV dx [("walk",.ref wk),("sleep",.ref p),("arg",.Zj),("now",.int 0)]):=aA;have K4:Kp [x] G3 (Zh G3 x (.ins t.aV dx [("walk",.ref wk),("sleep",.ref p),("arg",.Zj),("now",.int 0)])):=Kp.set (by simp);generalize Zh G3 x (.ins t.aV dx [("walk",.ref wk),("sleep",.ref p),("arg",.Zj),("now",.int 0)])=G4 at *;refine Z2 _ _ ?_;clear Z2;clear R4;refine aF fun R5 hR5=>?_;wp_walk using g4;refine fun nm h5=>?_;obtain⟨g5,f5,K5,n5⟩:=put2 (o:=.dK []) (o':=.ins t.aV dx [("walk",.ref wk),("sleep",.ref p),("arg",.Zj),("now",.int 0),("names",.ref nm)]) g4 h5;wp_walk using aG n5,g4;generalize Zh (Zh G4 nm (.dK [])) x (.ins t.aV dx [("walk",.ref wk),("sleep",.ref p),("arg",.Zj),("now",.int 0),("names",.ref nm)])=G5 at *;refine hR5 _ _ ?_;clear hR5 R5;refine aF fun R6 hR6=>?_;wp_walk using g5;refine WW fun tk tx dp da Gt Kt htk hdp hda T0=>?_;have et:=Kt.at g5;wp_walk using et;have g6:Zh Gt x (.ins t.aV dx [("walk",.ref wk),("sleep",.ref p),("arg",.Zj),("now",.int 0),("names",.ref nm),("tickets",.ref tk)]) x=some (.ins t.aV dx [("walk",.ref wk),("sleep",.ref p),("arg",.Zj),("now",.int 0),("names",.ref nm),("tickets",.ref tk)]):=aA;have K6:Kp [x] Gt (Zh Gt x (.ins t.aV dx [("walk",.ref wk),("sleep",.ref p),("arg",.Zj),("now",.int 0),("names",.ref nm),("tickets",.ref tk)])):=Kp.set (by simp);generalize Zh Gt x (.ins t.aV dx [("walk",.ref wk),("sleep",.ref p),("arg",.Zj),("now",.int 0),("names",.ref nm),("tickets",.ref tk)])=G6 at *;refine hR6 _ _ ?_;clear hR6 R6;wp_walk using g6;refine fun lt h7=>?_;obtain⟨g7,f7,K7,n7⟩:=put2 (o:=.dK []) (o':=.ins t.aV dx [("walk",.ref wk),("sleep",.ref p),("arg",.Zj),("now",.int 0),("names",.ref nm),("tickets",.ref tk),("letters",.ref lt)]) g6 h7;wp_walk using aG n7,g6;generalize Zh (Zh G6 lt (.dK [])) x (.ins t.aV dx [("walk",.ref wk),("sleep",.ref p),("arg",.Zj),("now",.int 0),("names",.ref nm),("tickets",.ref tk),("letters",.ref lt)])=G7 at *;have KA:Kp [x] H G4:=((((Kw.mono (by simp)).trans K1).trans K2).trans K3).trans K4;have KB:Kp [x] H Gt:=(KA.trans K5).trans (Kt.mono (by simp));have KC:Kp [x] H G6:=KB.trans K6;have xwk:x≠wk:=aK e hwk;have xtk:x≠tk:=aK g5 htk;have W7:Kp [x] Gw G7:=(((((K1.trans K2).trans K3).trans K4).trans K5).trans (Kt.mono (by simp))).trans (K6.trans K7);have P7:Kp [x] G2 G7:=(((K3.trans K4).trans K5).trans (Kt.mono (by simp))).trans (K6.trans K7);have N7:Kp [x] G5 G7:=(Kt.mono (by simp)).trans (K6.trans K7);have T7:Kp [x] Gt G7:=K6.trans K7;have KD:Kp [x] H G7:=KC.trans K7;have W5:Kp [x] Gw G5:=((((K1.trans K2).trans K3).trans K4).trans K5);have xlb:lb≠x:=(aK e hlb).symm;have xln:ln≠x:=(aK e hln).symm;have xdp:dp≠x:=(aK g5 hdp).symm;have xda:da≠x:=(aK g5 hda).symm;have nm6:=K6.at1 (Kt.at f5) n5.symm;have dp6:=K6.at1 T0.hp xdp;have da6:=K6.at1 T0.ha xda;have wk5:=W5.at1 W0.ins xwk.symm;have fr4:H nm=none:=YE KA g4 h5;have fr5:∀ {a:Addr},G5 a=none->H a=none:=fun h=>YE (KA.trans K5) g5 h;have acP:H lt=none:=YE KC g6 h7;have kt7:aL Gw G7:=fun b xs hb=>W7.at1 hb (dZ hb ew (by intro z;cases z));refine q ⟨x,dx,wk,wx,lb,ln,nm,tk,tx,dp,da,lt⟩ (.ref p) G7 rfl ⟨g7,⟨p,rfl,P7.at1 f2 n2.symm⟩,W0.keep (fun o h=>W7.at1 h xwk.symm) (fun o h=>W7.at1 h xlb) (fun o h=>W7.at1 h xln) kt7,T0.keep (fun o h=>T7.at1 h xtk.symm) (fun o h=>T7.at1 h xdp) (fun o h=>T7.at1 h xda),N7.at1 f5 n5.symm,⟨[],f7,.nil⟩,by simp,by simp,xwk,xtk,aK wk5 htk,aK f5 hdp,aK f5 hda,aK nm6 h7,(aK dp6 h7).symm,(aK da6 h7).symm⟩ KD fun a ha=>?_;simp only[Rn.cells,List.mem_cons,List.not_mem_nil,or_false] at ha;rcases ha with rfl|rfl|rfl|rfl|rfl|rfl|rfl|rfl
  ·exact .inl rfl
  ·exact .inr hlb
  ·exact .inr hln
  ·exact .inr fr4
  ·exact .inr (fr5 htk)
  ·exact .inr (fr5 hdp)
  ·exact .inr (fr5 hda)
  ·exact .inr acP
theorem hE{t:Ad}(T:Tx w K mg t):bG P w K mg base Zt 1 t.jW t.j6 ["self","ticket"] (Mq t.aJ):=by
 refine T.zJ.ok vR (fun vs H Q E h=>?_) (fun Zs A outer s H vs Q E hr h=>?_)
 ·obtain⟨tk,tx,dp,da,made,pend,ans,w,rfl,_⟩:=h;rfl
 ·obtain⟨tk,tx,dp,da,made,pend,ans,w,rfl,R,q⟩:=h;have hu:=oF hr;refine⟨_,(aI (aO (TV (HA hu (pv 1) (aN T.bD T.gJ (pv 0)))))),?_⟩
  and_intros
  wp_walk using R.ins,R.hp,AD;exact q
theorem uX{t:Ad}(T:Tx w K mg t):bG P w K mg base Zt 2 t.jT t.j0 ["self","happening"] (Us ⟨t.aV,t.aW,t.aJ⟩):=by
 refine T.zG.ok lQ (fun vs H Q E h=>?_) (fun Zs A outer s H vs Q E hr h=>?_)
 ·obtain⟨R,as,sl,S,v,h,rfl,_⟩:=h;rfl
 ·obtain⟨R,as,sl,S,v,h,rfl,A,hn,hH,q⟩:=h;refine⟨_,(aC (bB (i:=2) lQ.nd rfl (Or.inl rfl) (aZ bJ (pv 1) aE (fun _ _=>rfl)))
   (aC (bI (aT cX (aZ bJ (aN T.aX T.dF (pv 0)) aE (fun _ _=>rfl)) aR (nomark _)) (aI (aO (kY P5 (pv 2) aR (nomark _)))) bA)
   (aC (bI (aT Gc (aZ bJ (aN T.aX T.dF (pv 0)) aE (fun _ _=>rfl)) (bC (aD aR (aD aR aB))) (by with_unfolding_all rfl)) (aI (aO Ci)) bA)
   (aI (aO (W9 (kY cX (pv 2) aR (nomark _)) (L6 (TU (kY cX (pv 2) aR (nomark _)) (L6 (TX (bL (aN T.aX T.cJ (pv 0)) T.bD T.iR (hE T) (hr.mono (by omega)) T.jZ .nil pass0 (aD (aZ bJ (pv 1) aE (fun _ _=>rfl)) aB)))))))))))),?_⟩
  and_intros
  obtain⟨a,rfl,eh⟩:=hH;cases es:S.sl with
  | Zj=>rw[es] at hn;cases hn
  | new =>
   have ZA:=A.slp;rw[es] at ZA;obtain⟨p,rfl,ep⟩:=ZA;cases h with
   | beg m w =>
    simp only[Hap.vs,Hap.ini,Hap.w,List.cons_append,List.nil_append] at eh;rw[show S.over (.beg m w)=false by simp only[Pu.over,es]] at q;wp_walk using A.ins,eh,ep;exact q _ Kp.refl
   | don m i w =>
    simp only[Hap.vs,Hap.ini,Hap.w,List.cons_append,List.nil_append] at eh;rw[show S.over (.don m i w)=true by simp only[Pu.over,es]] at q;wp_walk using A.ins,eh,ep;exact q _ Kp.refl
   | ltr m k w =>
    simp only[Hap.vs,Hap.ini,Hap.w,List.cons_append,List.nil_append] at eh;rw[show S.over (.ltr m k w)=true by simp only[Pu.over,es]] at q;wp_walk using A.ins,eh,ep;exact q _ Kp.refl
  | wait ts =>
   have ZA:=A.slp;rw[es] at ZA;obtain⟨p,p2,rfl,ep,ep2⟩:=ZA;cases h with
   | beg m w =>
    simp only[Hap.vs,Hap.ini,Hap.w,List.cons_append,List.nil_append] at eh;rw[show S.over (.beg m w)=true by simp only[Pu.over,es]] at q;wp_walk using A.ins,eh,ep;refine fun p9 h9=>⟨rfl,by decide +kernel,?_⟩;rw[if_neg (by decide +kernel)];have N9:=q0D (o:=.tup [.str "ended",.str "worn"]) h9;wp_walk using N9.at eh;exact q _ N9
   | don m i w =>
    simp only[Hap.vs,Hap.ini,Hap.w,List.cons_append,List.nil_append] at eh;rw[show S.over (.don m i w) = !decide (i∈S.pend) by simp only[Pu.over,es]] at q;wp_walk using A.ins,eh,ep;refine fun p9 h9=>⟨rfl,by decide +kernel,?_⟩;rw[if_neg (by decide +kernel)];have N9:=q0D (o:=.tup [.str "ended",.str "worn"]) h9;have A9:=A.kp N9;have eh9:=N9.at eh;generalize Zh H p9 (.tup [.str "ended",.str "worn"])=G9 at *;wp_walk using A9.ins,A9.tk.ins,eh9;refine⟨R.tk,R.tx,R.dp,R.da,_,_,_,some i,rfl,A9.tk,?_⟩;wp_walk;rw[show decide (∃ j,j∈S.pend/\(some i:Wo)=some j)=decide (i∈S.pend) by simp];exact q _ N9
   | ltr m k0 w =>
    simp only[Hap.vs,Hap.ini,Hap.w,List.cons_append,List.nil_append] at eh;rw[show S.over (.ltr m k0 w)=false by simp only[Pu.over,es]] at q;wp_walk using A.ins,eh,ep;refine fun p9 h9=>⟨rfl,by decide +kernel,?_⟩;rw[if_neg (by decide +kernel)];have N9:=q0D (o:=.tup [.str "ended",.str "worn"]) h9;wp_walk using N9.at eh;exact q _ N9
  | Zp k =>
   have ZA:=A.slp;rw[es] at ZA;obtain⟨p,rfl,ep⟩:=ZA;cases h with
   | beg m w =>
    simp only[Hap.vs,Hap.ini,Hap.w,List.cons_append,List.nil_append] at eh;rw[show S.over (.beg m w)=true by simp only[Pu.over,es]] at q;wp_walk using A.ins,eh,ep;refine fun p9 h9=>⟨rfl,by decide +kernel,?_⟩;rw[if_neg (by decide +kernel)];have N9:=q0D (o:=.tup [.str "ended",.str "worn"]) h9;wp_walk using N9.at eh;exact q _ N9
   | don m i w =>
    simp only[Hap.vs,Hap.ini,Hap.w,List.cons_append,List.nil_append] at eh;rw[show S.over (.don m i w) = !decide (i∈S.pend) by simp only[Pu.over,es]] at q;wp_walk using A.ins,eh,ep;refine fun p9 h9=>⟨rfl,by decide +kernel,?_⟩;rw[if_neg (by decide +kernel)];have N9:=q0D (o:=.tup [.str "ended",.str "worn"]) h9;have A9:=A.kp N9;have eh9:=N9.at eh;generalize Zh H p9 (.tup [.str "ended",.str "worn"])=G9 at *;wp_walk using A9.ins,A9.tk.ins,eh9;refine⟨R.tk,R.tx,R.dp,R.da,_,_,_,some i,rfl,A9.tk,?_⟩;wp_walk;rw[show decide (∃ j,j∈S.pend/\(some i:Wo)=some j)=decide (i∈S.pend) by simp];exact q _ N9
   | ltr m k0 w =>
    simp only[Hap.vs,Hap.ini,Hap.w,List.cons_append,List.nil_append] at eh;rw[show S.over (.ltr m k0 w)=false by simp only[Pu.over,es]] at q;wp_walk using A.ins,eh,ep;refine fun p9 h9=>⟨rfl,by decide +kernel,?_⟩;rw[if_neg (by decide +kernel)];have N9:=q0D (o:=.tup [.str "ended",.str "worn"]) h9;wp_walk using N9.at eh;exact q _ N9
  | ended w =>
   have ZA:=A.slp;rw[es] at ZA;obtain⟨p,rfl,ep⟩:=ZA;have e0:∃(kd:Str) (xs:List V),H a=some (.tup (.str kd::xs)):=by cases h<;>exact⟨_,_,eh⟩
   obtain⟨kd,xs,e0⟩:=e0;rw[show S.over (h)=true by simp only[Pu.over,es]] at q;wp_walk using A.ins,e0,ep;refine fun p9 h9=>⟨rfl,by decide +kernel,?_⟩;rw[if_pos (by decide +kernel)];exact q _ (Kp.new h9)
  | worn =>
   have ZA:=A.slp;rw[es] at ZA;obtain⟨p,rfl,ep⟩:=ZA;have e0:∃(kd:Str) (xs:List V),H a=some (.tup (.str kd::xs)):=by cases h<;>exact⟨_,_,eh⟩
   obtain⟨kd,xs,e0⟩:=e0;rw[show S.over (h)=true by simp only[Pu.over,es]] at q;wp_walk using A.ins,e0,ep;refine fun p9 h9=>⟨rfl,by decide +kernel,?_⟩;rw[if_pos (by decide +kernel)];exact q _ (Kp.new h9)
theorem iB{t:Ad}(T:Tx w K mg t):bG P w K mg base Zt 1 t.nK t.nY ["self"] (Bd t.aW):=by
 refine T.D1.ok BN (fun vs H Q E h=>?_) (fun Zs A outer s H vs Q E hr h=>?_)
 ·obtain⟨wk,wx,lb,ln,k,n,b,r,rfl,_⟩:=h;rfl
 ·obtain⟨wk,wx,lb,ln,k,n,b,r,rfl,W,q⟩:=h;refine⟨_,(aI (OR (aN T.cP T.eT (pv 0)) (AB rO aE) WH aE Hq Mg)),?_⟩
  and_intros
  obtain⟨vs,eb,hB⟩:=W.bl;obtain⟨l,el,el2⟩:=uV k n b r;have en:=W.nu;rw[el] at en;have i2:iM ((l++[(n:Int)]).map V.int) (-1)=some (.int n):=by rw[List.map_append];exact nQ _ _
  have i3:DB ((l++[(n:Int)]).map V.int).length (-1)=some l.length:=by
   unfold DB;simp;omega
  have i4:((l++[(n:Int)]).map V.int).set l.length (.int ((n:Int)+1))=(l++[((n+1:Nat):Int)]).map V.int:=by simp
  wp_walk using W.ins,en,i2,i3,i4;have n1:wk≠ln:=dZ W.ins W.nu (by intro z;cases z);have K1:Kp [ln] H (Zh H ln (.lst ((l++[((n+1:Nat):Int)]).map V.int))):=Kp.AY;have T1:aL H (Zh H ln (.lst ((l++[((n+1:Nat):Int)]).map V.int))):=fun a xs e=>by rw[aG (dZ e W.nu (by intro z;cases z))];exact e
  exact q _ ⟨by rw[aG n1];exact W.ins,⟨vs,by rw[aG W.ne];exact eb,(hB.kp T1).turn⟩,by rw[aA,el2],W.ne,W.few⟩ K1
theorem gA{t:Ad}(T:Tx w K mg t):bG P w K mg base Zt 1 t.k5 t.k8 ["self"] (Gy t.aW):=by
 refine T.BB.ok w8 (fun vs H Q E h=>?_) (fun Zs A outer s H vs Q E hr h=>?_)
 ·obtain⟨wk,wx,lb,ln,k,n,b,r,m,rfl,_⟩:=h;rfl
 ·obtain⟨wk,wx,lb,ln,k,n,b,r,m,rfl,W,hm,q⟩:=h;refine⟨_,(aI (aO (aZ bJ (aZ bJ (aN T.cP T.iH (pv 0)) (AB rO aE) (fun _ _=>rfl)) (aZ bJ (aN T.cP T.eT (pv 0)) (AB rO aE) (fun _ _=>rfl)) (fun _ _=>rfl)))),?_⟩
  and_intros
  obtain⟨vs,eb,hB⟩:=W.bl;obtain⟨ws,p,us,rfl,ep,hU,_,_⟩:=hB.last;obtain⟨l,el,_⟩:=uV k n b r;have en:=W.nu;rw[el] at en;have hn:n < us.length:=by
   have:=(List.getElem?_eq_some_iff.mp hm).1;have:=hU.len;omega
  obtain⟨m',hm',hM⟩:=hU.at (List.getElem?_eq_getElem hn);rw[hm] at hm';cases hm';have i1:iM (ws++[V.ref p]) (-1)=some (.ref p):=nQ _ _;have i2:iM ((l++[(n:Int)]).map V.int) (-1)=some (.int n):=by rw[List.map_append];exact nQ _ _
  have i3:iM us (n:Int)=some us[n]:=pF (List.getElem?_eq_getElem hn);wp_walk using W.ins,eb,en,i1,i2,ep,i3;exact q _ hM
theorem Df{t:Ad}(T:Tx w K mg t):bG P w K mg base Zt 2 t.qI t.qO ["self"] (Jv t.aW):=by
 refine T.Ft.ok Dr (fun vs H Q E h=>?_) (fun Zs A outer s H vs Q E hr h=>?_)
 ·obtain⟨wk,wx,lb,ln,k,n,b,x,r,m,rfl,_⟩:=h;rfl
 ·obtain⟨wk,wx,lb,ln,k,n,b,⟨kx,bx,nx⟩,r,m,rfl,W,hm,q⟩:=h;refine⟨_,(aC (bQ (Dj (aN T.cP T.iH (pv 0))))
   (aC (bQ (Dj (aN T.cP T.eT (pv 0))))
   (aC (bQ (Dj (aN T.cP T.eT (pv 0))))
   (aI (bI (aT cX (aZ bJ (cC (pv 0) T.cP T.gU (gA T) (hr.mono (by omega)) T.hZ .nil pass0) aE (fun _ _=>rfl)) aR (nomark _)) (aI (bQ (cC (pv 0) T.cP T.jH (iB T) (hr.mono (by omega)) T.kQ .nil pass0))) bA))))),?_⟩
  and_intros
  obtain⟨vs,eb,hB⟩:=W.bl;have n1:wk≠ln:=dZ W.ins W.nu (by intro z;cases z);have n2:wk≠lb:=dZ W.ins eb (by intro z;cases z);obtain⟨ws,p,us,rfl,ep,hU,hBr,_⟩:=hB.last;have hB2:=hBr (by simp);have nu0:H ln=some (.lst (((bY ((k,b,n)::r)).map V.int++[.int kx])++[.int nx])):=by rw[W.nu,uW];simp
  have few:=W.few;simp only[List.length_cons] at few;refine aF fun R1 Zm=>?_;wp_walk using W.ins,eb,uK,List.dropLast_concat;have T1:=aL.fK (ys:=ws) eb;have i1:Zh H lb (.lst ws) wk=some (.ins t.aW wx [("blocks",.ref lb),("numbers",.ref ln)]):=by rw[aG n2];exact W.ins
  have i2:Zh H lb (.lst ws) ln=some (.lst (((bY ((k,b,n)::r)).map V.int++[.int kx])++[.int nx])):=by rw[aG W.ne.symm];exact nu0
  have i3:Zh H lb (.lst ws) lb=some (.lst ws):=aA;have K1:Kp [lb] H (Zh H lb (.lst ws)):=Kp.AY;have B1:=hB2.kp T1;generalize Zh H lb (.lst ws)=G at *;refine Zm _ _ ?_;clear Zm;clear R1;refine aF fun R2 Zn=>?_;wp_walk using i1,i2,uK,List.dropLast_concat;have T2:=aL.fK (ys:=(bY ((k,b,n)::r)).map V.int++[.int kx]) i2;have j1:Zh G ln (.lst ((bY ((k,b,n)::r)).map V.int++[.int kx])) wk=some (.ins t.aW wx [("blocks",.ref lb),("numbers",.ref ln)]):=by rw[aG n1];exact i1
  have j2:Zh G ln (.lst ((bY ((k,b,n)::r)).map V.int++[.int kx])) ln=some (.lst ((bY ((k,b,n)::r)).map V.int++[.int kx])):=aA;have j3:Zh G ln (.lst ((bY ((k,b,n)::r)).map V.int++[.int kx])) lb=some (.lst ws):=by rw[aG W.ne];exact i3
  have K2:Kp [ln] G (Zh G ln (.lst ((bY ((k,b,n)::r)).map V.int++[.int kx]))):=Kp.AY;have B2:=B1.kp T2;generalize Zh G ln (.lst ((bY ((k,b,n)::r)).map V.int++[.int kx]))=G2 at *;refine Zn _ _ ?_;clear Zn;clear R2;refine aF fun R3 Zw=>?_;wp_walk using j1,j2,uK,List.dropLast_concat;have T3:=aL.fK (ys:=(bY ((k,b,n)::r)).map V.int) j2;have W3:iJ t.aW (Zh G2 ln (.lst ((bY ((k,b,n)::r)).map V.int))) wk wx lb ln ((k,b,n)::r):=⟨by rw[aG n1];exact j1,⟨ws,by rw[aG W.ne];exact j3,B2.kp T3⟩,aA,W.ne,by simp only[List.length_cons];omega⟩;have K3:Kp [ln] G2 (Zh G2 ln (.lst ((bY ((k,b,n)::r)).map V.int))):=Kp.AY;generalize Zh G2 ln (.lst ((bY ((k,b,n)::r)).map V.int))=G3 at *;refine Zw _ _ ?_;clear Zw;clear R3;have K13:Kp [lb,ln] H G3:=((K1.mono (by simp)).trans (K2.mono (by simp))).trans (K3.mono (by simp));wp_walk using W3.ins;refine⟨wk,wx,lb,ln,k,n,b,r,m,rfl,W3,hm,fun v hv=>?_⟩;obtain⟨a,kd,xs,rfl,ea,hk⟩:=hv.WN;wp_walk using ea;by_cases hi:m.IC=true
  ·rw[hi] at hk q;have hkd:kd = "if":=by simpa using hk
   subst hkd;wp_walk using W3.ins;exact⟨wk,wx,lb,ln,k,n,b,r,rfl,W3,fun H4 W4 K4=>q H4 W4 (K13.trans (K4.mono (by simp)))⟩
  ·have hi':m.IC=false:=by simpa using hi
   rw[hi'] at hk q;have hkd:(kd = "if")=False:=by simpa using hk
   wp_walk using hkd;exact q G3 W3 K13
theorem BI{t:Ad}(T:Tx w K mg t):bG P w K mg base Zt 3 t.nJ t.nX ["self"] (Ms t.aW):=by
 refine T.D0.ok BM (fun vs H Q E h=>?_) (fun Zs A outer s H vs Q E hr h=>?_)
 ·obtain⟨wk,wx,lb,ln,st,rfl,_⟩:=h;rfl
 ·obtain⟨wk,wx,lb,ln,st,rfl,W0,ok0,q0,q1⟩:=h;refine⟨_,(aC (EI PassesOwn.never (aT cX (aZ bJ (aN T.cP T.eT (pv 0)) (AB rO aE) (fun _ _=>rfl)) (cY pI rfl T.DA qM (aD (aZ bJ (aN T.cP T.iH (pv 0)) (AB rO aE) (fun _ _=>rfl)) aB)) (nomark _)) (aC (bI (aT cX (cY pI rfl T.DA qM (aD (aN T.cP T.iH (pv 0)) aB)) aE (nomark _)) (aI (aO eJ)) bA)
   (aI (bQ (cC (pv 0) T.cP T.Em (Df T) (hr.mono (by omega)) T.Fb .nil pass0)))))
   (aI (aO (cC (pv 0) T.cP T.gU (gA T) (hr.mono (by omega)) T.hZ .nil pass0)))),?_⟩
  and_intros
  obtain⟨Y,hV⟩:∃ Y:Nat->St->Hp->Prop,∀ m σ G,Y m σ G = ∃ ZR:Stk,σ=[some (.ref wk)]/\iJ t.aW G wk wx lb ln ZR/\BP ZR/\c7 ZR=c7 st/\m=ZR.length/\Kp [lb,ln] H G:=⟨_,fun _ _ _=>rfl⟩
  try simp only[L2.start,List.map_cons,List.map_nil,List.length_cons,List.length_nil,Nat.reduceAdd,Nat.reduceSub,List.replicate_zero,List.append_nil]
  refine⟨Y,⟨st.length,?_⟩,?_⟩
  ·rw[hV];exact⟨st,rfl,W0,ok0,rfl,rfl,Kp.refl⟩
  intro m σ G hG;rw[hV] at hG;obtain⟨ZR,rfl,W,ok,hct,rfl,KG⟩:=hG;have back:∀(st2:Stk) (G2:Hp),iJ t.aW G2 wk wx lb ln st2->BP st2->c7 st2=c7 st->st2.length < ZR.length->Kp [lb,ln] H G2->∃ m',m' < ZR.length/\Y m' [some (.ref wk)] G2:=fun st2 G2 a b c d e=>by
   refine⟨st2.length,d,?_⟩;rw[hV];exact⟨st2,rfl,a,b,c,rfl,e⟩
  clear hV
  match ZR,ok with
  | (k,b,n)::r,ok =>
   obtain⟨vs,eb,hB⟩:=W.bl;obtain⟨ws,p,us,rfl,ep,hU,hBr,hBn⟩:=hB.last;obtain⟨l,el,_⟩:=uV k n b r;have en:=W.nu;rw[el] at en;have i1:iM (ws++[V.ref p]) (-1)=some (.ref p):=nQ _ _;have i2:iM ((l++[(n:Int)]).map V.int) (-1)=some (.int n):=by rw[List.map_append];exact nQ _ _
   have lu:=hU.len;have lw:=hB.len;wp_walk using W.ins,eb,en,i1,i2,ep;by_cases hn:n=b.length
   ·rw[if_pos (by omega)];wp_walk using W.ins,eb,en;refine⟨fun σ' G'=>∃ m',m' < r.length+1/\Y m' σ' G',fun _ _ z=>z,?_⟩
    match r,ok,W,hct,back,hBn,lw with
    | [],ok,W,hct,back,hBn,lw =>
     have e0:c7 st=[(k,b,n)]:=by rw[<- hct];simp[c7]
     rw[if_pos (by have:=lw.1;simp only[List.length_cons,List.length_nil] at this;omega)];exact q0 G (by rw[e0];exact W) (by rw[e0];exact ok) (by rw[e0];simp[cI,hn]) KG
    | (k2,b2,n2)::r,ok,W,hct,back,hBn,lw =>
     rw[if_neg (by have:=lw.1;simp only[List.length_cons] at this;omega)];have h2:n2 < b2.length:=ok.2 (k2,b2,n2) (by simp);have hm:b2[n2]?=some b2[n2]:=List.getElem?_eq_getElem h2;have ho:Al b2 n2=if (b2[n2]).IC=true then n2+1 else n2:=by unfold Al;rw[hm]
     refine⟨wk,wx,lb,ln,k2,n2,b2,(k,b,n),r,b2[n2],rfl,W,hm,fun H' W' K'=>?_⟩;rw[<- ho] at W';refine back _ H' W' ⟨Ez h2,fun x hx=>ok.2 x (List.mem_cons_of_mem _ hx)⟩ ?_ (by simp) (Kp.trans KG K');rw[<- hct]
     conv=>rhs;rw[c7]
     rw[if_pos hn]
   ·rw[if_neg (by omega)];have h2:n < b.length:=by have:=ok.1;omega
    have hm:b[n]?=some b[n]:=List.getElem?_eq_getElem h2;have e0:c7 st=(k,b,n)::r:=by
     rw[<- hct];cases r with
     | nil=>simp[c7]
     | cons x r=>obtain⟨k2,b2,n2⟩:=x;simp[c7,hn]
    exact⟨wk,wx,lb,ln,k,n,b,r,b[n],rfl,W,hm,fun v hv=>q1 b[n] v G (by rw[e0];exact W) (by rw[e0];exact ok) (by rw[e0];exact hm) hv KG⟩
theorem kT{t:Ad}(T:Tx w K mg t):bG P w K mg base Zt 1 t.iL t.iO ["self"] (Pb t.aJ):=by
 refine T.wR.ok tJ (fun vs H Q E h=>?_) (fun Zs A outer s H vs Q E hr h=>?_)
 ·obtain⟨tk,tx,dp,da,made,pend,ans,rfl,_⟩:=h;rfl
 ·obtain⟨tk,tx,dp,da,made,pend,ans,rfl,R,q⟩:=h;refine⟨_,(aI (bQ (Jb (aN T.bD T.gJ (pv 0))))),?_⟩
  and_intros
  wp_walk using R.ins,R.hp;have n1:=R.n1;exact q _ ⟨by rw[aG n1.1];exact R.ins,aA,by rw[aG R.nda.symm];exact R.ha,R.nda,by simp,.nil,R.la,by simp,R.small⟩ Kp.AY
theorem Ce{t:Ad}(T:Tx w K mg t):bG P w K mg base Zt 2 t.Cy t.CL ["self","worth"] (Up ⟨t.aV,t.aW,t.aJ⟩):=by
 refine T.Ol.ok Jm (fun vs H Q E h=>?_) (fun Zs A outer s H vs Q E hr h=>?_)
 ·obtain⟨R,as,sl,S,w,rfl,_⟩:=h;rfl
 ·obtain⟨R,as,sl,S,w,rfl,A,q⟩:=h;refine⟨_,(aC (dC T.aX T.dF (pv 0) (bC (aD aR (aD (pv 1) aB))))
   (aC (bQ (cC (aN T.aX T.cJ (pv 0)) T.bD T.lN (kT T) (hr.mono (by omega)) T.mX .nil pass0))
   (aI (aO (bX (aD (bC (aD aR (aD (pv 1) aB))) aB)))))),?_⟩
  and_intros
  refine aF fun R1 Zm=>?_;wp_walk using A.ins;refine fun p hp=>?_;have N1:=q0D (o:=.tup [.str "ended",wv w]) hp;have e1:Zh H p (.tup [.str "ended",wv w]) p=some (.tup [.str "ended",wv w]):=aA;have A1:=A.kp N1;wp_walk using N1.at A.ins;have A2:=A1.attr (.ref p) (.ended w) S.ar S.nw ⟨p,rfl,e1⟩;have F2:=(Fw.of (R:=R) (as:=as) N1).trans (Fw.set (p:=R.x) (o:=(.ins t.aV R.dx [("walk",.ref R.wk),("sleep",.ref p),("arg",wv S.ar),("now",.int S.nw),("names",.ref R.nm),("tickets",.ref R.tk),("letters",.ref R.lt)])) (.inl (by simp[Rn.cells])));generalize Zh (Zh H p (.tup [.str "ended",wv w])) R.x (.ins t.aV R.dx [("walk",.ref R.wk),("sleep",.ref p),("arg",wv S.ar),("now",.int S.nw),("names",.ref R.nm),("tickets",.ref R.tk),("letters",.ref R.lt)])=G2 at *;refine Zm _ _ ?_;clear Zm;clear R1;refine aF fun R2 Zn=>?_;wp_walk using A2.ins,A2.tk.ins;refine⟨R.tk,R.tx,R.dp,R.da,_,_,_,rfl,A2.tk,fun H3 T3 K3=>?_⟩;have K4:Kp [R.tk,R.dp,R.da] G2 H3:=K3.mono (by simp;try omega)
  have A3:=A2.tick T3 K4;have F3:=F2.trans (A2.D5 T3 K4);wp_walk;refine Zn _ _ ?_;clear Zn;clear R2;wp_walk;refine fun p3 h3 c h4=>?_;have N3:=(q0D (o:=.tup [.str "end",wv w]) h3).trans (Kp.new (o:=.lst [.ref p3]) h4);exact q _ c [.ref p3] _ (A3.kp N3) (F3.free (cV h4)) aA (.cons ((q0D h4).at aA) .nil) (F3.trans (Fw.of N3))
theorem BH{t:Ad}(T:Tx w K mg t):bG P w K mg base Zt 2 t.nI t.nW ["self"] (Uw ⟨t.aV,t.aW,t.aJ⟩):=by
 refine T.DZ.ok BL (fun vs H Q E h=>?_) (fun Zs A outer s H vs Q E hr h=>?_)
 ·obtain⟨R,as,sl,S,rfl,_⟩:=h;rfl
 ·obtain⟨R,as,sl,S,rfl,A,q⟩:=h;refine⟨_,(aC (dC T.aX T.dF (pv 0) (bC (aD aR aB)))
   (aC (bQ (cC (aN T.aX T.cJ (pv 0)) T.bD T.lN (kT T) (hr.mono (by omega)) T.mX .nil pass0))
   (aI (aO (bX (aD (bC (aD aR aB)) aB)))))),?_⟩
  and_intros
  refine aF fun R1 Zm=>?_;wp_walk using A.ins;refine fun p hp=>?_;have N1:=q0D (o:=.tup [.str "worn"]) hp;have e1:Zh H p (.tup [.str "worn"]) p=some (.tup [.str "worn"]):=aA;have A1:=A.kp N1;wp_walk using N1.at A.ins;have A2:=A1.attr (.ref p) (.worn) S.ar S.nw ⟨p,rfl,e1⟩;have F2:=(Fw.of (R:=R) (as:=as) N1).trans (Fw.set (p:=R.x) (o:=(.ins t.aV R.dx [("walk",.ref R.wk),("sleep",.ref p),("arg",wv S.ar),("now",.int S.nw),("names",.ref R.nm),("tickets",.ref R.tk),("letters",.ref R.lt)])) (.inl (by simp[Rn.cells])));generalize Zh (Zh H p (.tup [.str "worn"])) R.x (.ins t.aV R.dx [("walk",.ref R.wk),("sleep",.ref p),("arg",wv S.ar),("now",.int S.nw),("names",.ref R.nm),("tickets",.ref R.tk),("letters",.ref R.lt)])=G2 at *;refine Zm _ _ ?_;clear Zm;clear R1;refine aF fun R2 Zn=>?_;wp_walk using A2.ins,A2.tk.ins;refine⟨R.tk,R.tx,R.dp,R.da,_,_,_,rfl,A2.tk,fun H3 T3 K3=>?_⟩;have K4:Kp [R.tk,R.dp,R.da] G2 H3:=K3.mono (by simp;try omega)
  have A3:=A2.tick T3 K4;have F3:=F2.trans (A2.D5 T3 K4);wp_walk;refine Zn _ _ ?_;clear Zn;clear R2;wp_walk;refine fun p3 h3 c h4=>?_;have N3:=(q0D (o:=.tup [.str "worn"]) h3).trans (Kp.new (o:=.lst [.ref p3]) h4);exact q _ c [.ref p3] _ (A3.kp N3) (F3.free (cV h4)) aA (.cons ((q0D h4).at aA) .nil) (F3.trans (Fw.of N3))
theorem oN{t:Ad}(T:Tx w K mg t):bG P w K mg base Zt 1 t.tU t.uD ["worth"] Qe:=by
 refine T.pL.ok ET (fun vs H Q E h=>?_) (fun Zs A outer s H vs Q E hr h=>?_)
 ·obtain⟨w,rfl,_⟩:=h;rfl
 ·obtain⟨w,rfl,q⟩:=h;refine⟨_,(aI (aO (oR (aT qZ (pv 0) eJ (nomark _)) aE (pv 0)))),?_⟩
  and_intros
  wp_walk using GL;cases w with
  | none=>exact q
  | some n=>exact q
theorem xP{t:Ad}(T:Tx w K mg t):bG P w K mg base Zt 1 t.JI t.Ke ["number"] Mo:=by
 refine T.D3.ok OY (fun vs H Q E h=>?_) (fun Zs A outer s H vs Q E hr h=>?_)
 ·obtain⟨n,rfl,_⟩:=h;rfl
 ·obtain⟨n,rfl,q⟩:=h;refine⟨_,(aI (aO (cY (tY rfl) rfl T.ML Fd (aD (AB rO (tE (v:=.int 1000000000) rfl T.nS ⟨_,rfl⟩)) (aD (cY (BW rfl) rfl T.Pt JM (aD (tE (v:=.int 1000000000) rfl T.nS ⟨_,rfl⟩) (aD (pv 0) aB))) aB))))),?_⟩
  and_intros
  wp_walk;exact q
theorem kC{t:Ad}(T:Tx w K mg t):bG P w K mg base Zt 1 t.lY t.mC ["truth"] Qf:=by
 refine T.jC.ok AX (fun vs H Q E h=>?_) (fun Zs A outer s H vs Q E hr h=>?_)
 ·obtain⟨b,rfl,_⟩:=h;rfl
 ·obtain⟨b,rfl,q⟩:=h;refine⟨_,(aI (aO (oR (Dk (pv 0)) aE aE))),?_⟩
  and_intros
  wp_walk;cases b<;>exact q
theorem IZ{t:Ad}(T:Tx w K mg t):bG P w K mg base Zt 2 t.CB t.CQ ["sign","one","other"] Mn:=by
 refine T.Hj.ok vS (fun vs H Q E h=>?_) (fun Zs A outer s H vs Q E hr h=>?_)
 ·obtain⟨g,a,b,rfl,_⟩:=h;rfl
 ·obtain⟨g,a,b,rfl,ha,q⟩:=h;refine⟨_,(aC (bI (aT cX (pv 0) aR (nomark _)) (aI (aO (aP (kC T) (hr.mono (by omega)) rfl T.mH T.jC.kp T.lZ .nil pass0 (aD (kY cX (pv 1) (pv 2) (nomark _)) aB)))) bA)
   (aC (bB (i:=3) vS.nd rfl (Or.inl rfl) (aP (oN T) (hr.mono (by omega)) rfl T.uR T.pL.kp T.tX .nil pass0 (aD (pv 1) aB)))
   (aC (bB (i:=4) vS.nd rfl (Or.inl rfl) (aP (oN T) (hr.mono (by omega)) rfl T.uR T.pL.kp T.tX .nil pass0 (aD (pv 2) aB)))
   (aC (bI (aT cX (pv 0) aR (nomark _)) (aI (aO (aP (kC T) (hr.mono (by omega)) rfl T.mH T.jC.kp T.lZ .nil pass0 (aD (kY kX (pv 3) (pv 4) (nomark _)) aB)))) bA)
   (aC (bI (aT cX (pv 0) aR (nomark _)) (aI (aO (aP (xP T) (hr.mono (by omega)) rfl T.Hv T.D3.kp T.GR .nil pass0 (aD (bW dU (pv 3) (pv 4)) aB)))) bA)
   (aC (bI (aT cX (pv 0) aR (nomark _)) (aI (aO (aP (xP T) (hr.mono (by omega)) rfl T.Hv T.D3.kp T.GR .nil pass0 (aD (bW oP (pv 3) (pv 4)) aB)))) bA)
   (aI (aO (aP (xP T) (hr.mono (by omega)) rfl T.Hv T.D3.kp T.GR .nil pass0 (aD (bW Gd (pv 3) (pv 4)) aB)))))))))),?_⟩
  and_intros
  have b1:=LA ha;cases g with
  | eq =>
   wp_walk using Sg.s;cases a with
   | none=>cases b with
    | none=>simpa[EL,scal,wv,EK,Sg.of] using q
    | some n=>simpa[EL,scal,wv,EK,Sg.of] using q
   | some m=>cases b with
    | none=>simpa[EL,scal,wv,EK,Sg.of] using q
    | some n=>simpa[EL,scal,wv,EK,Sg.of] using q
  | lt =>
   wp_walk using Sg.s,decide_eq_true_eq;exact q
  | add =>
   wp_walk using Sg.s;exact q
  | sub =>
   wp_walk using Sg.s;exact q
  | mul =>
   wp_walk using Sg.s;exact⟨LK (by omega) (by omega),q⟩
theorem Gz{t:Ad}(T:Tx w K mg t){n d:Nat}(hn:3<=n)(IH:bG P w K mg base Zt n t.nR t.oB ["saying","names","arg","now","answers"] (Ux d)):bG P w K mg base Zt (n+1) t.nR t.oB ["saying","names","arg","now","answers"] (Ux (d+1)):=by
  refine T.sL.ok mT (fun vs H Q E h=>?_) (fun Zs A outer s H vs Q E hr h=>?_)
  · obtain⟨v,dn,da,p,s,rfl,_⟩:=h;rfl
  · obtain⟨v,dn,da,p,s,rfl,hS,hd,Zl,hN,hA,hP,q⟩:=h;have hu:=oF hr;refine⟨_,(aC (bB (i:=5) mT.nd rfl (Or.inl rfl) (aZ bJ (pv 0) aE (fun _ _=>rfl)))
      (aC (bI (aT cX (pv 5) aR (nomark _)) (aI (aO (aZ bJ (pv 0) aE (fun _ _=>rfl)))) bA)
      (aC (bI (aT cX (pv 5) aR (nomark _)) (aI (aO eJ)) bA)
      (aC (bI (aT cX (pv 5) aR (nomark _)) (aI (aO (HB hu (pv 1) (aZ bJ (pv 0) aE (fun _ _=>rfl)) ⟨rfl,rfl,rfl,rfl⟩))) bA)
      (aC (bI (aT cX (pv 5) aR (nomark _)) (aI (aO (pv 2))) bA)
      (aC (bI (aT cX (pv 5) aR (nomark _)) (aI (aO (aP (xP T) (hr.mono (by omega)) rfl T.Hv T.D3.kp T.GR .nil pass0 (aD (pv 3) aB)))) bA)
      (aC (bB (i:=6) mT.nd rfl (Or.inl rfl) (aP IH (hr.mono (by omega)) rfl T.Ag T.sL.kp T.yL .nil pass0 (aD (aZ bJ (pv 0) aE (fun _ _=>rfl)) (aD (pv 1) (aD (pv 2) (aD (pv 3) (aD (pv 4) aB)))))))
      (aC (bI (aT cX (pv 5) aR (nomark _)) (aI (aO (HB hu (pv 4) (pv 6) ⟨rfl,rfl,rfl,rfl⟩))) bA)
      (aC (bI (aT cX (pv 5) aR (nomark _)) (aI (aO (aP (kC T) (hr.mono (by omega)) rfl T.mH T.jC.kp T.lZ .nil pass0 (aD (kY cX (aP (oN T) (hr.mono (by omega)) rfl T.uR T.pL.kp T.tX .nil pass0 (aD (pv 6) aB)) aE (nomark _)) aB)))) bA)
      (aC (bB (i:=7) mT.nd rfl (Or.inl rfl) (aP IH (hr.mono (by omega)) rfl T.Ag T.sL.kp T.yL .nil pass0 (aD (aZ bJ (pv 0) aE (fun _ _=>rfl)) (aD (pv 1) (aD (pv 2) (aD (pv 3) (aD (pv 4) aB)))))))
      (aI (aO (aP (IZ T) (hr.mono (by omega)) rfl T.OC T.Hj.kp T.M3 .nil pass0 (aD (pv 5) (aD (pv 6) (aD (pv 7) aB)))))))))))))))),?_⟩
    and_intros
    cases hS with
    | num e =>
      wp_walk using e;exact q
    | Zj e =>
      wp_walk using e;exact q
    | name e =>
      obtain⟨kvs,ek,hk⟩:=hN;wp_walk using e,ek,hk;exact q
    | arg e =>
      wp_walk using e;exact q
    | now e =>
      wp_walk using e;exact q
    | ans e h1 =>
      wp_walk using e;simp only[Say.depth] at hd;refine⟨_,_,_,p,_,rfl,h1,by omega,Zl,hN,hA,hP,?_⟩;obtain⟨kvs,ek,hk⟩:=hA;wp_walk using e,ek,hk;exact q
    | neg e h1 =>
      wp_walk using e;simp only[Say.depth] at hd;refine⟨_,_,_,p,_,rfl,h1,by omega,Zl,hN,hA,hP,?_⟩;wp_walk using e,decide_eq_true_eq;exact q
    | @two a v u g s1 s2 e h1 h2 =>
      simp only[Say.depth] at hd;cases g <;>
      ( wp_walk using e,Sg.s
        refine⟨_,_,_,p,_,rfl,h1,by omega,Zl.1,hN,hA,hP,?_⟩;wp_walk using e,Sg.s;refine⟨_,_,_,p,_,rfl,h2,by omega,Zl.2,hN,hA,hP,?_⟩;wp_walk using e,Sg.s;exact⟨_,_,_,rfl,PR hP Zl.1,q⟩)
theorem FZ{t:Ad}(T:Tx w K mg t):∀ d,bG P w K mg base Zt (d+3) t.nR t.oB ["saying","names","arg","now","answers"] (Ux d):=by
 intro d
 induction d with
 | zero=>exact⟨fun _ _ _ _ x=>by (obtain⟨_,_,_,_,s,_,_,h,_⟩:=x;exact absurd h (by have:=s.BZ;omega)),fun _ _ _ _ _ _ _ _ _ _ _ _ _ x=>by (obtain⟨_,_,_,_,s,_,_,h,_⟩:=x;exact absurd h (by have:=s.BZ;omega))⟩
 | succ d ih=>exact Gz T (by omega) ih
theorem dM{t:Ad}(T:Tx w K mg t):bG P w K mg base Zt 10 t.tT t.uB ["self","saying"] (Mt ⟨t.aV,t.aW,t.aJ⟩):=by
 refine T.Iq.ok EO (fun vs H Q E h=>?_) (fun Zs A outer s H vs Q E hr h=>?_)
 ·obtain⟨R,as,sl,S,v,s,rfl,_⟩:=h;rfl
 ·obtain⟨R,as,sl,S,v,s,rfl,A,ok,hS,so,q⟩:=h;refine⟨_,(aI (aO (aP (FZ T 6) (hr.mono (by omega)) rfl T.Ag T.sL.kp T.yL .nil pass0 (aD (pv 1) (aD (aN T.aX T.fZ (pv 0)) (aD (aN T.aX T.Cc (pv 0)) (aD (aN T.aX T.sQ (pv 0)) (aD (aN T.bD T.gH (aN T.aX T.cJ (pv 0))) aB)))))))),?_⟩
  and_intros
  wp_walk using A.ins,A.tk.ins;exact⟨v,R.nm,R.da,S.pl,s,rfl,hS,so.2,so.1,⟨_,A.nm,xN S.nm⟩,⟨_,A.tk.ha,yB S.ans⟩,ok,q⟩
theorem sT{t:Ad}(T:Tx w K mg t):bG P w K mg base Zt 2 t.qH t.qN ["self","which"] (Cn t.aW):=by
 refine T.Fs.ok Dq (fun vs H Q E h=>?_) (fun Zs A outer s H vs Q E hr h=>?_)
 ·obtain⟨wk,wx,lb,ln,k,n,c,b,bb,r,m,rfl,_⟩:=h;rfl
 ·obtain⟨wk,wx,lb,ln,k,n,c,b,bb,r,m,rfl,W,hm,hs,ab8,q⟩:=h;refine⟨_,(aC (bQ (mJ (aN T.cP T.iH (pv 0)) (aZ bJ (cC (pv 0) T.cP T.gU (gA T) (hr.mono (by omega)) T.hZ .nil pass0) (bW dU aE (pv 1)) (fun _ _=>rfl))))
   (aI (bQ (EG PySem.F.slot_list_extend PySem.F.type_list_extend xK (aN T.cP T.eT (pv 0)) (aD (bX (aD (pv 1) (aD aE aB))) aB))))),?_⟩
  and_intros
  obtain⟨vs,eb,hB⟩:=W.bl;have n1:wk≠ln:=dZ W.ins W.nu (by intro z;cases z);have n2:wk≠lb:=dZ W.ins eb (by intro z;cases z);have lv:=hB.len;wp_walk using W.ins,eb;refine⟨wk,wx,lb,ln,k,n,b,r,m,rfl,W,hm,fun v hv=>?_⟩;obtain⟨a,p,xs,us,rfl,ea,hat,ep,hU⟩:=hv.subAt hs;wp_walk using ea,hat,eb;have lf:=W.few;simp only[List.length_cons] at lv lf;refine⟨by omega,?_⟩;have T1:=aL.fK (ys:=vs++[V.ref p]) eb;have i1:Zh H lb (.lst (vs++[.ref p])) wk=some (.ins t.aW wx [("blocks",.ref lb),("numbers",.ref ln)]):=by rw[aG n2];exact W.ins
  have i2:Zh H lb (.lst (vs++[.ref p])) ln=some (.lst ((bY ((k,b,n)::r)).map V.int)):=by rw[aG W.ne.symm];exact W.nu
  have i3:Zh H lb (.lst (vs++[.ref p])) lb=some (.lst (vs++[.ref p])):=aA;have K1:Kp [lb] H (Zh H lb (.lst (vs++[.ref p]))):=Kp.AY;have B1:=hB.kp T1;have U1:=hU.kp T1;have p1:=T1 _ _ ep;generalize Zh H lb (.lst (vs++[.ref p]))=G at *;wp_walk using i1,i2;refine fun l0 f0=>?_;have N0:=q0D (o:=.lst [.int c,.int 0]) f0;wp_walk using N0.at i2,List.length_map;have ll:=Ey ((k,b,n)::r);simp only[List.length_cons] at ll;refine⟨by omega,?_⟩;have nl0:ln≠l0:=aK i2 f0;have nb0:lb≠l0:=aK i3 f0;have nw0:wk≠l0:=aK i1 f0;have T2:aL G (Zh (Zh G l0 (.lst [.int c,.int 0])) ln (.lst ((bY ((k,b,n)::r)).map V.int++[.int c,.int 0]))):=(aL.nil N0).tr (aL.fK (N0.at i2));refine q _ ⟨by rw[aG n1,aG nw0];exact i1,⟨_,by rw[aG W.ne,aG nb0];exact i3,.cons (B1.kp T2) (T2 _ _ p1) (U1.kp T2)⟩,by rw[aA,uW];simp,W.ne,by simp only[List.length_cons];omega⟩ ?_;intro d o ed nd;simp only[List.mem_cons,List.not_mem_nil,or_false,not_or] at nd;have g1:=K1.at1 ed nd.1;rw[aG nd.2,aG (aK g1 f0)];exact g1
theorem FX{t:Ad}(T:Tx w K mg t):bG P w K mg base Zt 11 t.xX t.yS ["self","statement"] (O4 ⟨t.aV,t.aW,t.aJ⟩ true):=by
 refine T.Lh.ok Gk (fun vs H Q E h=>?_) (fun Zs A outer s H vs Q E hr h=>?_)
 ·obtain⟨R,as,sl,S,a,m,N,rfl,_⟩:=h;rfl
 ·obtain⟨R,as,sl,S,a,m,N,rfl,A,hs,hB,F,g,ZM,q⟩:=h;refine⟨_,(aI (bI (aT Cg (bL (pv 0) T.aX T.eI (dM T) (hr.mono (by omega)) T.fH .nil pass0 (aD (aZ bJ (pv 1) aE (fun _ _=>rfl)) aB)) (bC (aD eJ (aD aE aB))) (by with_unfolding_all rfl)) (aI (bQ (bL (aN T.aX T.kB (pv 0)) T.cP T.wC (sT T) (hr.mono (by omega)) T.yG .nil pass0 (aD aE aB)))) (aI (bI (aT cX (aZ bJ (pv 1) aE (fun _ _=>rfl)) aR (nomark _)) (aI (bQ (bL (aN T.aX T.kB (pv 0)) T.cP T.wC (sT T) (hr.mono (by omega)) T.yG .nil pass0 (aD aE aB)))) (aI (bQ (cC (aN T.aX T.kB (pv 0)) T.cP T.jH (iB T) (hr.mono (by omega)) T.kQ .nil pass0))))))),?_⟩
  and_intros
  obtain⟨k0,b0,n0,r0,est,hm0⟩:=gG ZM;have d0:=F.sk.dp;rw[est] at d0;have ab8:r0.length<=90:=by have:=d0.1;omega
  have enter:∀(G:Hp) (_:aY ⟨t.aV,t.aW,t.aJ⟩ G R as sl S) (_:Fw R as as H G) (c:Nat) (bb:List Stm),m.sub c=some bb->(∀ H',aY ⟨t.aV,t.aW,t.aJ⟩ H' R as sl (S.enter c bb)->Fw R as as H H'->Q .Zj H')->Cn t.aW [.ref R.wk,.int (c:Int)] G (fun _ H1=>Q .Zj H1) E0:=fun G A FG c bb aa0 q=>by
   have W:=A.wk;rw[est] at W;refine⟨R.wk,R.wx,R.lb,R.ln,k0,n0,c,b0,bb,r0,m,rfl,W,hm0,aa0,ab8,fun H1 W1 K1=>?_⟩;rw[<- est] at W1;exact q H1 (A.walk W1 K1) (FG.trans (A.zP W1 K1))
  have pass:∀(G:Hp) (_:aY ⟨t.aV,t.aW,t.aJ⟩ G R as sl S) (_:Fw R as as H G),(∀ H',aY ⟨t.aV,t.aW,t.aJ⟩ H' R as sl S.pass->Fw R as as H H'->Q .Zj H')->Bd t.aW [.ref R.wk] G (fun _ H1=>Q .Zj H1) E0:=fun G A FG q=>by
   have W:=A.wk;rw[est] at W;refine⟨R.wk,R.wx,R.lb,R.ln,k0,n0,b0,r0,rfl,W,fun H1 W1 K1=>?_⟩;have e:(k0,b0,n0+1)::r0=iT S.stk:=by rw[est];rfl
   rw[e] at W1;exact q H1 (A.walk W1 (K1.mono (by simp))) (FG.trans (A.zP W1 (K1.mono (by simp))))
  cases hs with
  | @Z9 a p v s vs b e1 h1 e2 h2 =>
   simp only[zX] at q;wp_walk using A.ins,e1;refine⟨R,as,sl,S,v,s,rfl,A,F.pl,h1,g.1,?_⟩;wp_walk using A.ins,A.wk.ins,e1;refine fun p0 h0=>⟨HW _,flat01,?_⟩;rw[B3];have N0:=q0D (o:=.tup [.Zj,.int 0]) h0;have A0:=A.kp N0;have e0:=N0.at e1;have F0:=Fw.of (R:=R) (as:=as) N0;generalize Zh H p0 (.tup [.Zj,.int 0])=G0 at *;by_cases hw:num (S.worth s)=0
   ·rw[if_pos hw] at q;rw[decide_eq_true hw];wp_walk using A0.ins,A0.wk.ins,e0;exact pass G0 A0 F0 q
   ·rw[if_neg hw] at q;rw[decide_eq_false hw];wp_walk using A0.ins,A0.wk.ins,e0;exact enter G0 A0 F0 0 b rfl q
  | @iff a p p2 v s vs us b o e1 h1 e2 h2 e3 h3 =>
   simp only[zX] at q;wp_walk using A.ins,e1;refine⟨R,as,sl,S,v,s,rfl,A,F.pl,h1,g.1,?_⟩;wp_walk using A.ins,A.wk.ins,e1;refine fun p0 h0=>⟨HW _,flat01,?_⟩;rw[B3];have N0:=q0D (o:=.tup [.Zj,.int 0]) h0;have A0:=A.kp N0;have e0:=N0.at e1;have F0:=Fw.of (R:=R) (as:=as) N0;generalize Zh H p0 (.tup [.Zj,.int 0])=G0 at *;by_cases hw:num (S.worth s)=0
   ·rw[if_pos hw] at q;rw[decide_eq_true hw];wp_walk using A0.ins,A0.wk.ins,e0;exact enter G0 A0 F0 1 o rfl q
   ·rw[if_neg hw] at q;rw[decide_eq_false hw];wp_walk using A0.ins,A0.wk.ins,e0;exact enter G0 A0 F0 0 b rfl q
  | _=>cases hB
theorem LR{t:Ad}(T:Tx w K mg t):bG P w K mg base Zt 11 t.CA t.Fk ["run","statement"] (dP ⟨t.aV,t.aW,t.aJ⟩ true (fun m=>∃ x s,m=.set x s)):=by
 refine T.Ll.ok Mf (fun vs H Q E h=>?_) (fun Zs A outer s H vs Q E hr h=>?_)
 ·obtain⟨R,as,sl,S,a,m,N,rfl,_⟩:=h;rfl
 ·obtain⟨R,as,sl,S,a,m,N,rfl,A,ZA,hs,⟨x,s,rfl⟩,F,g,hN,q⟩:=h;have hu:=oF hr;refine⟨_,(aC (mL hu (aN T.aX T.fZ (pv 0)) (aZ bJ (pv 1) aE (fun _ _=>rfl)) (bL (pv 0) T.aX T.eI (dM T) (hr.mono (by omega)) T.fH .nil pass0 (aD (aZ bJ (pv 1) aE (fun _ _=>rfl)) aB)))
   (aI (aO (bX aB)))),?_⟩
  and_intros
  cases hs with
  | @set a x v s e1 h1 =>
   have l1:(lT S.nm).length<=N:=by rw[lT,List.length_map];exact F.nm
   refine aF fun R1 Zm=>?_;wp_walk using A.ins,e1;refine⟨R,as,sl,S,v,s,rfl,A,F.pl,h1,g,?_⟩;wp_walk using A.ins,e1,A.nm,mI;refine⟨by omega,?_⟩;have A1:=A.name x (S.worth s);have F1:=Fw.set (R:=R) (as:=as) (H:=H) (o:=.dK (lT (dO S.nm x (S.worth s)))) (p:=R.nm) (.inl (by simp[Rn.cells]));generalize Zh H R.nm (.dK (lT (dO S.nm x (S.worth s))))=G1 at *;refine Zm _ _ ?_;clear Zm;clear R1;wp_walk;refine fun c hc=>?_;have N4:=q0D (o:=.lst []) hc;exact q _ c [] _ (A1.kp N4) (F1.free hc) aA .nil (F1.trans (Fw.of N4))
theorem Ar{t:Ad}(T:Tx w K mg t):bG P w K mg base Zt 1 t.lW t.l9 ["self"] (Mp t.aJ):=by
 refine T.CZ.ok oZ (fun vs H Q E h=>?_) (fun Zs A outer s H vs Q E hr h=>?_)
 ·obtain⟨tk,tx,dp,da,made,pend,ans,rfl,_⟩:=h;rfl
 ·obtain⟨tk,tx,dp,da,made,pend,ans,rfl,R,hm,hl,q⟩:=h;have hu:=oF hr;refine⟨_,(aC (bB (i:=1) oZ.nd rfl (Or.inl rfl) (aN T.bD T.uS (pv 0)))
   (aC (OQ T.bD T.uS (pv 0) aE)
   (aC (mL hu (aN T.bD T.gJ (pv 0)) (pv 1) Ci)
   (aI (aO (pv 1)))))),?_⟩
  and_intros
  wp_walk using R.ins;have n1:=R.n1;have nk:(made:Int)∉pend:=fun z=>by have:=R.lt _ z;omega
  wp_walk using aG n1.1.symm,R.hp,AH (.bl true) (Jg nk);refine⟨by simp only[kF,List.length_map];omega,?_⟩;refine q _ ⟨by rw[aG n1.1];exact aA,by rw[aA];simp[kF],by rw[aG R.nda.symm,aG n1.2.symm];exact R.ha,R.nda,fun i hi=>?_,?_,fun p hp=>?_,fun p hp z=>?_,by omega⟩ ?_
  ·rcases List.mem_append.mp hi with hi|hi
   ·have:=R.lt i hi;omega
   ·rw[show i=(made:Int) by simpa using hi];omega
  ·refine List.pairwise_append.mpr ⟨R.asc,by simp,fun i hi j hj=>?_⟩;rw[show j=(made:Int) by simpa using hj];exact(R.lt i hi).2
  ·have:=R.la p hp;omega
  ·rcases List.mem_append.mp z with z|z
   ·exact R.dis p hp z
   ·have:=R.la p hp;rw[show p.1=(made:Int) by simpa using z] at this;omega
  ·intro b o eb nb;simp only[List.mem_cons,List.not_mem_nil,or_false,not_or] at nb;rw[aG nb.2,aG nb.1];exact eb
theorem m9{t:Ad}(T:Tx w K mg t):bG P w K mg base Zt 2 t.k4 t.k7 ["self","name"] (Uq ⟨t.aV,t.aW,t.aJ⟩):=by
 refine T.BA.ok nD (fun vs H Q E h=>?_) (fun Zs A outer s H vs Q E hr h=>?_)
 ·obtain⟨R,as,sl,S,n,rfl,_⟩:=h;rfl
 ·obtain⟨R,as,sl,S,n,rfl,A,b1,b2,b3,q⟩:=h;have hu:=oF hr;refine⟨_,(aC (bB (i:=2) nD.nd rfl (Or.inl rfl) (cC (aN T.aX T.cJ (pv 0)) T.bD T.BF (Ar T) (hr.mono (by omega)) T.CI .nil pass0))
   (aC (mL hu (aN T.aX T.fZ (pv 0)) (pv 1) (pv 2))
   (aI (aO (pv 2))))),?_⟩
  and_intros
  refine aF fun R1 Zm=>?_;wp_walk using A.ins,A.tk.ins;refine⟨R.tk,R.tx,R.dp,R.da,S.made,S.pend,S.ans,rfl,A.tk,b1,b2,fun H1 T1 K1=>?_⟩;have K2:Kp [R.tk,R.dp,R.da] H H1:=K1.mono (by simp;try omega)
  have A1:=A.tick T1 K2;have F1:=A.D5 T1 K2;wp_walk;refine Zm _ _ ?_;clear Zm;clear R1;refine aF fun R2 Zn=>?_;have ep:eL (lT S.nm) (.inr n) (.int (S.made:Int))=lT (dO S.nm n (some (S.made:Int))):=mI S.nm n (some (S.made:Int));have l1:(lT S.nm).length<=1000000:=by rw[lT,List.length_map];exact b3
  wp_walk using A1.ins,A1.nm,ep;refine⟨by omega,?_⟩;have A2:=A1.name n (some (S.made:Int));have F2:=F1.trans (Fw.set (R:=R) (as:=as) (H:=H1) (o:=.dK (lT (dO S.nm n (some (S.made:Int))))) (p:=R.nm) (.inl (by simp[Rn.cells])));generalize Zh H1 R.nm (.dK (lT (dO S.nm n (some (S.made:Int)))))=G2 at *;refine Zn _ _ ?_;clear Zn;clear R2;wp_walk;exact q G2 A2 F2
theorem Au{t:Ad}(T:Tx w K mg t):bG P w K mg base Zt 11 t.nM t.yW ["run","statement"] (dP ⟨t.aV,t.aW,t.aJ⟩ true (fun m=>∃ x y s,m=.order x y s\/m=.child x y s)):=by
 refine T.zL.ok rK (fun vs H Q E h=>?_) (fun Zs A outer s H vs Q E hr h=>?_)
 ·obtain⟨R,as,sl,S,a,m,N,rfl,_⟩:=h;rfl
 ·obtain⟨R,as,sl,S,a,m,N,rfl,A,ZA,hs,⟨x,y,s,hm⟩,F,g,hN,q⟩:=h;refine⟨_,(aC (bB (i:=2) rK.nd rfl (Or.inl rfl) (bL (pv 0) T.aX T.eI (dM T) (hr.mono (by omega)) T.fH .nil pass0 (aD (aZ bJ (pv 1) aE (fun _ _=>rfl)) aB)))
   (aC (bB (i:=3) rK.nd rfl (Or.inl rfl) (bL (pv 0) T.aX T.oH (m9 T) (hr.mono (by omega)) T.qA .nil pass0 (aD (aZ bJ (pv 1) aE (fun _ _=>rfl)) aB)))
   (aI (aO (bX (aD (bC (aD (aZ bJ (pv 1) aE (fun _ _=>rfl)) (aD (pv 3) (aD (aZ bJ (pv 1) aE (fun _ _=>rfl)) (aD (pv 2) aB))))) aB)))))),?_⟩
  and_intros
  rcases hm with rfl|rfl
  ·cases hs with
   | @order a x y v s e1 h1 =>
    refine aF fun R1 Zm=>?_;wp_walk using A.ins,e1;refine⟨R,as,sl,S,v,s,rfl,A,F.pl,h1,g,?_⟩;wp_walk;refine Zm _ _ ?_;clear Zm;clear R1;refine aF fun R2 Zn=>?_;wp_walk using A.ins,e1;refine⟨R,as,sl,S,x,rfl,A,by have:=F.md;omega,by have:=F.pd;omega,by have:=F.nm;omega,fun H1 A1 F1=>?_⟩;have e2:=A.tkp F1 _ _ e1;wp_walk;refine Zn _ _ ?_;clear Zn;clear R2;wp_walk using e2;refine fun p3 h3 c h4=>?_;have N3:=(q0D (o:=.tup [.str "order",.int S.made,.str y,wv (S.worth s)]) h3).trans (Kp.new (o:=.lst [.ref p3]) h4);exact q _ c [.ref p3] _ (A1.kp N3) (F1.free (cV h4)) aA (.cons ((q0D h4).at aA) .nil) (F1.trans (Fw.of N3))
  ·cases hs with
   | @child a x y v s e1 h1 =>
    refine aF fun R1 Zm=>?_;wp_walk using A.ins,e1;refine⟨R,as,sl,S,v,s,rfl,A,F.pl,h1,g,?_⟩;wp_walk;refine Zm _ _ ?_;clear Zm;clear R1;refine aF fun R2 Zn=>?_;wp_walk using A.ins,e1;refine⟨R,as,sl,S,x,rfl,A,by have:=F.md;omega,by have:=F.pd;omega,by have:=F.nm;omega,fun H1 A1 F1=>?_⟩;have e2:=A.tkp F1 _ _ e1;wp_walk;refine Zn _ _ ?_;clear Zn;clear R2;wp_walk using e2;refine fun p3 h3 c h4=>?_;have N3:=(q0D (o:=.tup [.str "child",.int S.made,.str y,wv (S.worth s)]) h3).trans (Kp.new (o:=.lst [.ref p3]) h4);exact q _ c [.ref p3] _ (A1.kp N3) (F1.free (cV h4)) aA (.cons ((q0D h4).at aA) .nil) (F1.trans (Fw.of N3))
theorem FY{t:Ad}(T:Tx w K mg t):bG P w K mg base Zt 11 t.rW t.yX ["run","statement"] (dP ⟨t.aV,t.aW,t.aJ⟩ true (fun m=>∃ x s,m=.Zx x s)):=by
 refine T.D2.ok mS (fun vs H Q E h=>?_) (fun Zs A outer s H vs Q E hr h=>?_)
 ·obtain⟨R,as,sl,S,a,m,N,rfl,_⟩:=h;rfl
 ·obtain⟨R,as,sl,S,a,m,N,rfl,A,ZA,hs,⟨x,s,rfl⟩,F,g,hN,q⟩:=h;refine⟨_,(aC (bB (i:=2) mS.nd rfl (Or.inl rfl) (bL (pv 0) T.aX T.eI (dM T) (hr.mono (by omega)) T.fH .nil pass0 (aD (aZ bJ (pv 1) aE (fun _ _=>rfl)) aB)))
   (aC (bB (i:=3) mS.nd rfl (Or.inl rfl) (cY (BW rfl) rfl T.Pt JM (aD (tE (v:=.int 1000000000000) rfl T.wK ⟨_,rfl⟩) (aD (oR (aT qZ (pv 2) eJ (nomark _)) (aN T.aX T.sQ (pv 0)) (bW dU (aN T.aX T.sQ (pv 0)) (cY (tY rfl) rfl T.ML Fd (aD aE (aD (pv 2) aB))))) aB))))
   (aC (bB (i:=4) mS.nd rfl (Or.inl rfl) (bL (pv 0) T.aX T.oH (m9 T) (hr.mono (by omega)) T.qA .nil pass0 (aD (aZ bJ (pv 1) aE (fun _ _=>rfl)) aB)))
   (aI (aO (bX (aD (bC (aD aR (aD (pv 4) (aD (pv 3) aB)))) aB))))))),?_⟩
  and_intros
  cases hs with
  | @Zx a x v s e1 h1 =>
   refine aF fun R1 Zm=>?_;wp_walk using A.ins,e1;refine⟨R,as,sl,S,v,s,rfl,A,F.pl,h1,g,?_⟩;wp_walk;refine Zm _ _ ?_;clear Zm;clear R1;refine aF fun R2 Zn=>?_;wp_walk using A.ins,GL;have rest:R2 [some (V.ref R.x),some (V.ref a),some (wv (S.worth s)),some (V.int (Kg S.nw (S.worth s))),none] H:=by
    refine Zn _ _ ?_;refine aF fun R3 Zw=>?_;wp_walk using A.ins,e1;refine⟨R,as,sl,S,x,rfl,A,by have:=F.md;omega,by have:=F.pd;omega,by have:=F.nm;omega,fun H1 A1 F1=>?_⟩;wp_walk;refine Zw _ _ ?_;clear Zw;clear R3;wp_walk;refine fun p3 h3 c h4=>?_;have N3:=(q0D (o:=.tup [.str "timer",.int S.made,.int (Kg S.nw (S.worth s))]) h3).trans (Kp.new (o:=.lst [.ref p3]) h4);exact q _ c [.ref p3] _ (A1.kp N3) (F1.free (cV h4)) aA (.cons ((q0D h4).at aA) .nil) (F1.trans (Fw.of N3))
   cases hw:S.worth s with
   | none =>
    rw[hw] at rest;rw[if_pos rfl];exact rest
   | some z =>
    rw[hw] at rest;rw[if_neg (by simp)];wp_walk using wv;exact rest
theorem IX{t:Ad}(T:Tx w K mg t):bG P w K mg base Zt 11 t.xD t.CO ["run","statement"] (dP ⟨t.aV,t.aW,t.aJ⟩ true (fun m=>∃ s k r,m=.send s k r)):=by
 refine T.Hg.ok Jn (fun vs H Q E h=>?_) (fun Zs A outer s H vs Q E hr h=>?_)
 ·obtain⟨R,as,sl,S,a,m,N,rfl,_⟩:=h;rfl
 ·obtain⟨R,as,sl,S,a,m,N,rfl,A,ZA,hs,⟨s,k,r,rfl⟩,F,g,hN,q⟩:=h;refine⟨_,(aI (aO (bX (aD (bC (aD aR (aD (bL (pv 0) T.aX T.eI (dM T) (hr.mono (by omega)) T.fH .nil pass0 (aD (aZ bJ (pv 1) aE (fun _ _=>rfl)) aB)) (aD (aZ bJ (pv 1) aE (fun _ _=>rfl)) (aD (bL (pv 0) T.aX T.eI (dM T) (hr.mono (by omega)) T.fH .nil pass0 (aD (aZ bJ (pv 1) aE (fun _ _=>rfl)) aB)) aB))))) aB)))),?_⟩
  and_intros
  cases hs with
  | @send a k v u s r e1 h1 h2 =>
   wp_walk using A.ins,e1;refine⟨R,as,sl,S,v,s,rfl,A,F.pl,h1,g.1,?_⟩;wp_walk using A.ins,e1;refine⟨R,as,sl,S,u,r,rfl,A,F.pl,h2,g.2,?_⟩;wp_walk;have F1:Fw R as as H H:=Fw.refl;refine fun p3 h3 c h4=>?_;have N3:=(q0D (o:=.tup [.str "send",wv (S.worth s),.str k,wv (S.worth r)]) h3).trans (Kp.new (o:=.lst [.ref p3]) h4);exact q _ c [.ref p3] _ (A.kp N3) (F1.free (cV h4)) aA (.cons ((q0D h4).at aA) .nil) (F1.trans (Fw.of N3))
theorem oM{t:Ad}(T:Tx w K mg t):bG P w K mg base Zt 1 t.lX t.mB ["self","ticket"] (Mr t.aJ):=by
 refine T.C0.ok AV (fun vs H Q E h=>?_) (fun Zs A outer s H vs Q E hr h=>?_)
 ·obtain⟨tk,tx,dp,da,made,pend,ans,i,rfl,_⟩:=h;rfl
 ·obtain⟨tk,tx,dp,da,made,pend,ans,i,rfl,R,hi,q⟩:=h;refine⟨_,(aI (bQ (L0 (aN T.bD T.gJ (pv 0)) (pv 1) ⟨rfl,rfl,rfl,rfl⟩))),?_⟩
  and_intros
  obtain⟨v,hv⟩:=Jh hi;wp_walk using R.ins,R.hp,hv,Je;have n1:=R.n1;exact q _ ⟨by rw[aG n1.1];exact R.ins,aA,by rw[aG R.nda.symm];exact R.ha,R.nda,fun j hj=>R.lt j ((List.mem_filter.mp hj).1),R.asc.filter _,R.la,fun p hp z=>R.dis p hp ((List.mem_filter.mp z).1),R.small⟩ Kp.AY
theorem IV{t:Ad}(T:Tx w K mg t):bG P w K mg base Zt 11 t.xB t.CM ["run","statement"] (dP ⟨t.aV,t.aW,t.aJ⟩ true (fun m=>∃ s,m=.drop s)):=by
 refine T.He.ok Ck (fun vs H Q E h=>?_) (fun Zs A outer s H vs Q E hr h=>?_)
 ·obtain⟨R,as,sl,S,a,m,N,rfl,_⟩:=h;rfl
 ·obtain⟨R,as,sl,S,a,m,N,rfl,A,ZA,hs,⟨s,rfl⟩,F,g,hN,q⟩:=h;refine⟨_,(aC (bB (i:=2) Ck.nd rfl (Or.inl rfl) (bL (pv 0) T.aX T.eI (dM T) (hr.mono (by omega)) T.fH .nil pass0 (aD (aZ bJ (pv 1) aE (fun _ _=>rfl)) aB)))
   (aC (bI (Ub (Dk (bL (aN T.aX T.cJ (pv 0)) T.bD T.iR (hE T) (hr.mono (by omega)) T.jZ .nil pass0 (aD (pv 2) aB)))) (aI (aO (bX aB))) bA)
   (aC (bQ (bL (aN T.aX T.cJ (pv 0)) T.bD T.qE (oM T) (hr.mono (by omega)) T.r8 .nil pass0 (aD (pv 2) aB)))
   (aI (aO (bX (aD (bC (aD aR (aD (pv 2) aB))) aB))))))),?_⟩
  and_intros
  cases hs with
  | @drop a v s e1 h1 =>
   refine aF fun R1 Zm=>?_;wp_walk using A.ins,e1;refine⟨R,as,sl,S,v,s,rfl,A,F.pl,h1,g,?_⟩;wp_walk;refine Zm _ _ ?_;clear Zm;clear R1;refine aF fun R2 Zn=>?_;wp_walk using A.ins,A.tk.ins;refine⟨R.tk,R.tx,R.dp,R.da,_,_,_,S.worth s,rfl,A.tk,?_⟩;by_cases hp:∃ i,i∈S.pend/\S.worth s=some i
   ·rw[decide_eq_true hp];obtain⟨i,hi,hw⟩:=hp;have hwv:wv (S.worth s)=.int i:=by rw[hw];rfl
    have hd:cT S (.drop s)=({S with pend:=S.pend.filter fun j=>decide (j≠i)},[[.str "drop",.int i]]):=by simp only[cT,hw,if_pos hi]
    rw[hd] at q;wp_walk;refine Zn _ _ ?_;clear Zn;clear R2;refine aF fun R3 Zw=>?_;wp_walk using A.ins,A.tk.ins,hwv;refine⟨R.tk,R.tx,R.dp,R.da,_,_,_,i,rfl,A.tk,hi,fun H3 T3 K3=>?_⟩;have K4:Kp [R.tk,R.dp,R.da] H H3:=K3.mono (by simp;try omega)
    have A3:=A.tick T3 K4;have F3:=A.D5 T3 K4;wp_walk;refine Zw _ _ ?_;clear Zw;clear R3;wp_walk;refine fun p3 h3 c h4=>?_;have N3:=(q0D (o:=.tup [.str "drop",.int i]) h3).trans (Kp.new (o:=.lst [.ref p3]) h4);exact q _ c [.ref p3] _ (A3.kp N3) (F3.free (cV h4)) aA (.cons ((q0D h4).at aA) .nil) (F3.trans (Fw.of N3))
   ·rw[decide_eq_false hp];have hd:cT S (.drop s)=(S,[]):=by
     cases hw:S.worth s with
     | none=>simp only[cT,hw]
     | some i=>simp only[cT,hw,if_neg (show ¬ i∈S.pend from fun z=>hp ⟨i,z,hw⟩)]
    rw[hd] at q;wp_walk;have F1:Fw R as as H H:=Fw.refl;refine fun c hc=>?_;have N4:=q0D (o:=.lst []) hc;exact q _ c [] _ (A.kp N4) (F1.free hc) aA .nil (F1.trans (Fw.of N4))
theorem pW{t:Ad}(T:Tx w K mg t):bG P w K mg base Zt 1 t.gN t.gP ["self","worths"] (Jt t.aJ):=by
 refine T.sG.ok i0 (fun vs H Q E h=>?_) (fun Zs A outer s H vs Q E hr h=>?_)
 ·obtain⟨tk,tx,dp,da,l,made,pend,ans,ws,rfl,_⟩:=h;rfl
 ·obtain⟨tk,tx,dp,da,l,made,pend,ans,ws,rfl,A,el,h4,ha,q⟩:=h;have hu:=oF hr;refine⟨_,(aC (bB (i:=2) i0.nd rfl (Or.inr rfl) (sX (fr:=[0]) (N:=["worth","self"]) rfl (fun _ _ h=>h) (dW.free rfl rfl rfl rfl rfl (fun _ _ h=>look1 rfl h) rfl (by decide) rfl (fun j hj=>by rw[show j=0 by simpa using hj];exact⟨_,rfl,rfl,.inl rfl⟩)) (jI (pv 1)) (fun C s H ex pn=>⟨tH (Ua (HA hu (pv 0) (aN T.bD T.gH (pv 1)))),(pv 0)⟩)))
   (aC (bI (aT kX (cY Fe rfl T.DA qM (aD (dI (BX rfl) rfl T.Px JN (aD (pv 2) aB)) aB)) aE (nomark _)) (aI (aO (oR (xQ (pv 2) (fun _=>rfl)) (aZ bJ (pv 2) aE (fun _ _=>rfl)) eJ))) bA)
   (aI (OS (aO (aZ bJ (sX (fr:=[2]) (N:=["ticket","tickets"]) rfl (fun _ _ h=>h) (dW.free rfl rfl rfl rfl rfl (fun _ _ h=>look1 rfl h) rfl (by decide) rfl (fun j hj=>by rw[show j=2 by simpa using hj];exact⟨_,rfl,rfl,.inl rfl⟩)) (OO (aN T.bD T.gH (pv 0))) (fun C s H ex pn=>⟨tH (aT Gc (pv 0) (pv 1) (by with_unfolding_all rfl)),(pv 0)⟩)) aE (fun _ _=>rfl))))))),?_⟩
  and_intros
  refine aF fun R1 Zm=>?_;wp_walk using el;refine⟨⟨_,dQ.of el⟩,?_⟩;obtain⟨Pv,Zq⟩:∃ Pv:Nat->List V->Hp->Prop,∀ i xs G,Pv i xs G=(G=H/\xs=(bP ans (ws.take i)).map V.int):=⟨_,fun _ _ _=>rfl⟩;refine pN (ys:=ws.map wv) Pv ?_ ?_ ?_ ?_ ?_
  ·rw[Zq];exact⟨rfl,rfl⟩
  ·intro i xs G h;rw[Zq] at h;rw[h.2,List.length_map];have:=pJ ans (ws.take i);have:(ws.take i).length<=ws.length:=by rw[List.length_take];omega
   omega
  ·intro i xs G h;rw[Zq] at h;rw[h.1];exact dQ.of el
  ·intro i y xs G hi ey h;rw[Zq] at h;obtain⟨rfl,rfl⟩:=h;obtain⟨w0,ew,rfl⟩:∃ w0,ws[i]?=some w0/\y=wv w0:=by
    rw[List.getElem?_map] at ey;obtain⟨w0,a,b⟩:=Option.map_eq_some_iff.mp ey;exact⟨w0,a,b.symm⟩
   wp_walk using bE,Option.join_some,A.ins,A.ha,MV;rw[Zq,Zq,Fl ew];split
   ·exact⟨rfl,rfl⟩
   ·exact⟨rfl,rfl⟩
  intro xs G h p hp;rw[Zq] at h;obtain⟨rfl,rfl⟩:=h;rw[show ws.take (ws.map wv).length=ws by rw[List.length_map,List.take_length]];refine Zm _ _ ?_;clear Zm;clear R1;wp_walk using aA;refine⟨bP ans ws,rfl,Nat.le_trans (pJ ans ws) h4,fun c hc=>⟨_,rfl,?_⟩⟩;have n1:p≠c:=aK aA hc;have K2:∀ o,Kp [] G (Zh (Zh G p (.lst ((bP ans ws).map V.int))) c o):=fun o=>(Kp.new hp).trans (Kp.new hc);have e2:∀ o,Zh (Zh G p (.lst ((bP ans ws).map V.int))) c o p=some (.lst ((bP ans ws).map V.int)):=fun o=>by rw[aG n1,aA]
  generalize hG2:Zh (Zh G p (.lst ((bP ans ws).map V.int))) c _=G2;replace K2:Kp [] G G2:=hG2▸K2 _;replace e2:G2 p=some (.lst ((bP ans ws).map V.int)):=hG2▸e2 _;clear hG2;have A2:=A.kp K2;have qq:=q G2 K2;by_cases hl:(nB (bP ans ws)).length < 2
  ·rw[if_pos (by omega)];rw[Iu hl] at qq;cases ed:bP ans ws with
   | nil =>
    rw[ed] at e2 qq;wp_walk using e2;rw[if_neg (by simp)];exact qq
   | cons i r =>
    rw[ed] at e2 qq;wp_walk using e2;rw[if_pos (by simp)];exact qq
  rw[if_neg (by omega)];obtain⟨i,r,ef,fo⟩:=Fv hl;rw[fo] at qq;wp_walk using A2.ins,A2.ha,e2;refine fun o=>?_;have npd:p≠da:=fun z=>by
   rw[z,A2.ha] at e2;cases e2
  generalize hG3:Zh G2 da (.ZF o (.dK (kO ans)))=G3;have e3:G3 p=some (.lst ((bP ans ws).map V.int)):=by rw[<- hG3,aG npd];exact e2
  have d3:G3 da=some (.ZF o (.dK (kO ans))):=by rw[<- hG3];exact aA
  obtain⟨Pw,Z4⟩:∃ Pw:Nat->List V->Hp->Prop,∀ i xs G',Pw i xs G'=(G'=G3/\xs=(((ans.map (·.1)).take i).filter fun i=>decide (i∈bP ans ws)).map V.int):=⟨_,fun _ _ _=>rfl⟩;refine Ow Pw ?_ ?_ ?_ ?_ ?_
  ·rw[Z4];exact⟨rfl,rfl⟩
  ·intro j xs G' h;rw[Z4] at h;rw[h.2,List.length_map];have h1:=List.length_filter_le (fun i=>decide (i∈bP ans ws)) ((ans.map (·.1)).take j);have h2:((ans.map (·.1)).take j).length<=ans.length:=by rw[List.length_take,List.length_map];omega
   omega
  ·intro j xs G' h;rw[Z4] at h;rw[h.1];exact d3
  ·intro j kv xs G' hj ekv h;rw[Z4] at h;obtain⟨rfl,rfl⟩:=h;obtain⟨a0,ea,rfl⟩:∃ a0,ans[j]?=some a0/\kv=(Key.inl a0.1,wv a0.2):=by
    rw[kO,List.getElem?_map] at ekv;obtain⟨a0,x,y⟩:=Option.map_eq_some_iff.mp ekv;exact⟨a0,x,y.symm⟩
   have es:(((ans.map (·.1)).take (j+1)).filter fun i=>decide (i∈bP ans ws)).map V.int=if a0.1∈bP ans ws then (((ans.map (·.1)).take j).filter fun i=>decide (i∈bP ans ws)).map V.int++[V.int a0.1] else (((ans.map (·.1)).take j).filter fun i=>decide (i∈bP ans ws)).map V.int:=by
    rw[List.take_add_one,List.getElem?_map,ea];simp only[Option.map_some,Option.toList_some,List.filter_append,List.map_append];split
    ·next h=>simp[h]
    ·next h=>simp[h]
   show EZ _ (some (V.int a0.1)::_) _ _;wp_walk using bE,Option.join_some,e3;refine⟨rfl,by simp[cS],?_⟩;rw[Z4,Z4,es,Eb];by_cases hm:a0.1∈bP ans ws
   ·rw[if_pos (by simpa using hm),if_pos hm];exact⟨rfl,rfl⟩
   ·rw[if_neg (by simpa using hm),if_neg hm];exact⟨rfl,rfl⟩
  intro xs G' h pp hpp;rw[Z4] at h;obtain⟨rfl,rfl⟩:=h;rw[show(ans.map (·.1)).take (kO ans).length=ans.map (·.1) by rw[kO,List.length_map,<- List.length_map (f:=fun p:Int×Wo=>p.1) (as:=ans),List.take_length],ef];wp_walk using aA,List.map_cons;have npp:da≠pp:=aK d3 hpp;have KK:Kp [] G (Zh (Zh G' pp (.lst (V.int i::r.map V.int))) da (.dK (kO ans))):=fun b ob eb nb=>by
   by_cases hb:b=da
   ·subst hb;rw[aA];rw[A.ha] at eb;exact eb
   ·have e4:G' b=some ob:=by rw[<- hG3,aG hb];exact K2 b ob eb nb
    rw[aG hb,aG (aK e4 hpp)];exact e4
  have q3:=q _ KK;rw[fo] at q3;exact⟨da,o,kO ans,by rw[aG npp];exact d3,(fun ob u z=>by
   have z:G da=some (.ZF ob u):=z;rw[A.ha] at z;cases z),q3⟩
theorem IY{t:Ad}(T:Tx w K mg t):bG P w K mg base Zt 11 t.xE t.CP ["run","statement"] (dP ⟨t.aV,t.aW,t.aJ⟩ true (fun m=>∃ x ss,m=.wait x ss)):=by
 refine T.Hh.ok pR (fun vs H Q E h=>?_) (fun Zs A outer s H vs Q E hr h=>?_)
 ·obtain⟨R,as,sl,S,a,m,N,rfl,_⟩:=h;rfl
 ·obtain⟨R,as,sl,S,a,m,N,rfl,A,ZA,hs,⟨x,ss,rfl⟩,F,g,hN,q⟩:=h;have hu:=oF hr;refine⟨_,(aC (kG (i:=2) (fr:=[0]) (N:=["saying","run"]) rfl (fun _ _ h=>h) (dW.free rfl rfl rfl rfl rfl (fun _ _ h=>h) rfl (by decide) rfl (fun j hj=>by rw[show j=0 by simpa using hj];exact⟨_,rfl,rfl,.inl rfl⟩)) (T8 (aZ bJ (pv 1) aE (fun _ _=>rfl))) (fun C s H ex pn=>⟨tG,(bL (pv 1) T.aX T.eI (dM T) (hr.mono (by omega)) T.fH .nil pass0 (aD (pv 0) aB))⟩) pR.nd rfl (Or.inl rfl))
   (aC (bB (i:=3) pR.nd rfl (Or.inl rfl) (bL (aN T.aX T.cJ (pv 0)) T.bD T.qU (pW T) (hr.mono (by omega)) T.rZ .nil pass0 (aD (pv 2) aB)))
   (aC (bB (i:=4) pR.nd rfl (Or.inl rfl) (cY (Ff rfl) rfl T.pU pH (aD (dI (BX rfl) rfl T.Px JN (aD (sX (fr:=[0]) (N:=["worth","run"]) rfl (fun _ _ h=>h) (dW.free rfl rfl rfl rfl rfl (fun _ _ h=>h) rfl (by decide) rfl (fun j hj=>by rw[show j=0 by simpa using hj];exact⟨_,rfl,rfl,.inl rfl⟩)) (jI (pv 2)) (fun C s H ex pn=>⟨tH (Dk (bL (aN T.aX T.cJ (pv 1)) T.bD T.iR (hE T) (hr.mono (by omega)) T.jZ .nil pass0 (aD (pv 0) aB))),(pv 0)⟩)) aB)) aB)))
   (aC (bI (PW.pt (Gh (aT qZ (pv 3) eJ (nomark _)) (Dl (xQ (pv 4) (fun _=>rfl))))) (aI (dC T.aX T.dF (pv 0) (bC (aD aR (aD (dI fI rfl T.hX fD (aD (pv 4) aB)) aB))))) (aI (mL hu (aN T.aX T.fZ (pv 0)) (aZ bJ (pv 1) aE (fun _ _=>rfl)) (pv 3))))
   (aI (aO (bX aB))))))),?_⟩
  and_intros
  cases hs with
  | @wait a pw x vs ss e1 e2 hs2 =>
   obtain⟨_,g4,gs⟩:=g;have l1:(lT S.nm).length<=N:=by rw[lT,List.length_map];exact F.nm
   have lv:=hs2.WR;refine aF fun R1 Zm=>?_;wp_walk using A.ins,e1;refine⟨⟨_,fO.of e2⟩,?_⟩;obtain⟨Pv,Zq⟩:∃ Pv:Nat->List V->Hp->Prop,∀ i xs G,Pv i xs G=(G=H/\xs=((ss.take i).map S.worth).map wv):=⟨_,fun _ _ _=>rfl⟩;refine To (ys:=vs) Pv ?_ ?_ ?_ ?_ ?_
   ·rw[Zq];exact⟨rfl,rfl⟩
   ·intro i xs G h;rw[Zq] at h;rw[h.2,List.length_map,List.length_map,List.length_take];omega
   ·intro i xs G h;rw[Zq] at h;rw[h.1];exact fO.of e2
   ·intro i y xs G hi ey h;rw[Zq] at h;obtain⟨rfl,rfl⟩:=h;obtain⟨s0,es,h0⟩:=hs2.atW ey;wp_walk using bE,Option.join_some,A.ins;refine⟨R,as,sl,S,y,s0,rfl,A,F.pl,h0,gs s0 (List.mem_of_getElem? es),?_⟩;show Pv (i+1) _ _;rw[Zq,List.take_add_one,es];exact⟨rfl,by simp⟩
   intro xs G h p1 hp1;rw[Zq] at h;obtain⟨rfl,rfl⟩:=h;rw[lv,List.take_length];obtain⟨ws,hws⟩:∃ ws,ws=ss.map S.worth:=⟨_,rfl⟩;have hd:cT S (.wait x ss)=if cA S.ans ws=none/\cR S.pend ws≠[] then ({S with sl:=.wait (cR S.pend ws)},[]) else ({S with nm:=dO S.nm x (cA S.ans ws)},[]):=by rw[hws];rfl
   rw[<- hws];have lw:ws.length<=4:=by rw[hws,List.length_map];exact g4
   clear hws Zq Pv;rw[hd] at q;clear hd;have N1:=q0D (o:=.lst (ws.map wv)) hp1;have f1:Zh G p1 (.lst (ws.map wv)) p1=some (.lst (ws.map wv)):=aA;have A1:=A.kp N1;have e3:=N1.at e1;have F1:=Fw.of (R:=R) (as:=as) N1;generalize Zh G p1 (.lst (ws.map wv))=G1 at *;refine Zm _ _ ?_;clear Zm;clear R1;refine aF fun R2 Zn=>?_;wp_walk using A1.ins,A1.tk.ins;refine⟨R.tk,R.tx,R.dp,R.da,p1,_,_,_,ws,rfl,A1.tk,f1,lw,by have:=F.an;omega,fun G2 K2=>?_⟩;have A2:=A1.kp K2;have f2:=K2.at f1;have e4:=K2.at e3;have F2:=F1.trans (Fw.of K2);wp_walk;refine Zn _ _ ?_;clear Zn;clear R2;refine aF fun R3 Zw=>?_;wp_walk using A2.ins,A2.tk.ins,f2;refine⟨⟨_,dQ.of f2⟩,?_⟩;obtain⟨Pw,Z4⟩:∃ Pw:Nat->List V->Hp->Prop,∀ i xs G',Pw i xs G'=(G'=G2/\xs=(eA S.pend (ws.take i)).map V.int):=⟨_,fun _ _ _=>rfl⟩;refine pN (ys:=ws.map wv) Pw ?_ ?_ ?_ ?_ ?_
   ·rw[Z4];exact⟨rfl,rfl⟩
   ·intro i xs G' h;rw[Z4] at h;rw[h.2,List.length_map];have:=lP S.pend (ws.take i);have:(ws.take i).length<=ws.length:=by rw[List.length_take];omega
    omega
   ·intro i xs G' h;rw[Z4] at h;rw[h.1];exact dQ.of f2
   ·intro i y xs G' hi ey h;rw[Z4] at h;obtain⟨rfl,rfl⟩:=h;obtain⟨w0,ew,rfl⟩:∃ w0,ws[i]?=some w0/\y=wv w0:=by
     rw[List.getElem?_map] at ey;obtain⟨w0,a,b⟩:=Option.map_eq_some_iff.mp ey;exact⟨w0,a,b.symm⟩
    wp_walk using bE,Option.join_some,A2.ins,A2.tk.ins;refine⟨R.tk,R.tx,R.dp,R.da,_,_,_,w0,rfl,A2.tk,?_⟩;show MP (V.bl _) _;wp_walk;rw[Z4,Z4,Gf ew];split
    ·next h=>exact⟨rfl,(if_pos (decide_eq_true h)).symm⟩
    ·next h=>exact⟨rfl,(if_neg (by simpa using h)).symm⟩
   intro xs G' h p3 hp3;rw[Z4] at h;obtain⟨rfl,rfl⟩:=h;rw[show ws.take (ws.map wv).length=ws by rw[List.length_map,List.take_length]];clear Z4 Pw;wp_walk using aA;refine⟨eA S.pend ws,rfl,Nat.le_trans (lP S.pend ws) lw,fun c hc=>⟨_,rfl,?_,fun l4 ns h4 ZP aa7=>?_⟩⟩
   ·have:=Aw (fun i=>(eA S.pend ws).getD i 0) (eA S.pend ws).length;have:=lP S.pend ws;show(once _ _).length < 64;omega
   obtain rfl:=EE ZP aa7;have N3:=((q0D hp3).trans (Kp.new hc)).trans (Kp.new (o:=.lst ((cR S.pend ws).map V.int)) h4);have f4:∀ G5:Hp,Zh G5 l4 (.lst ((cR S.pend ws).map V.int)) l4=some (.lst ((cR S.pend ws).map V.int)):=fun _=>aA;generalize hG4:Zh (Zh (Zh G' p3 (.lst ((eA S.pend ws).map V.int))) c _) l4 (.lst ((cR S.pend ws).map V.int))=G4 at N3 ⊢;replace f4:G4 l4=some (.lst ((cR S.pend ws).map V.int)):=hG4▸f4 _;clear hG4 ZP aa7 h4 hc hp3;have A4:=A2.kp N3;have e5:=N3.at e4;have F4:=F2.trans (Fw.of N3);refine Zw _ _ ?_;clear Zw;clear R3;refine aF fun R4 Z2=>?_;have named:¬ (cA S.ans ws=none/\cR S.pend ws≠[])->R4 [some (V.ref R.x),some (V.ref a),some (V.ref p1),some (wv (cA S.ans ws)),some (V.ref l4)] (Zh G4 R.nm (.dK (lT (dO S.nm x (cA S.ans ws))))):=fun hn=>by
    rw[if_neg hn] at q;have A6:=A4.name x (cA S.ans ws);have F6:=F4.trans (Fw.set (p:=R.nm) (o:=.dK (lT (dO S.nm x (cA S.ans ws)))) (.inl (by simp[Rn.cells])));refine Z2 _ _ ?_;generalize Zh G4 R.nm (.dK (lT (dO S.nm x (cA S.ans ws))))=G6 at *;wp_walk;refine fun c hc=>?_;have N4:=q0D (o:=.lst []) hc;exact q _ c [] _ (A6.kp N4) (F6.free hc) aA .nil (F6.trans (Fw.of N4))
   wp_walk using A4.ins,f4,GL,e5,A4.nm,mI;by_cases hf:cA S.ans ws=none
   ·rw[if_pos hf];by_cases ho:cR S.pend ws=[]
    ·rw[if_neg (by rw[ho];simp)];exact⟨by first|omega|(rw[sizeLine_eq];omega),named fun z=>z.2 ho⟩
    ·rw[if_pos (by simpa using ho)];rw[if_pos ⟨hf,ho⟩] at q;refine fun l5 h5 p6 h6=>?_;have N5:=(q0D (o:=.tup ((cR S.pend ws).map V.int)) h5).trans (Kp.new (o:=.tup [.str "wait",.ref l5]) h6);have f6:Zh (Zh G4 l5 (.tup ((cR S.pend ws).map V.int))) p6 (.tup [.str "wait",.ref l5]) p6=some (.tup [.str "wait",.ref l5]):=aA;have f5:Zh (Zh G4 l5 (.tup ((cR S.pend ws).map V.int))) p6 (.tup [.str "wait",.ref l5]) l5=some (.tup ((cR S.pend ws).map V.int)):=by rw[aG (aK aA h6),aA]
     have A5:=A4.kp N5;clear named h6 h5;generalize Zh (Zh G4 l5 (.tup ((cR S.pend ws).map V.int))) p6 (.tup [.str "wait",.ref l5])=G5 at *;wp_walk using A5.ins;have A6:=A5.attr (.ref p6) (.wait (cR S.pend ws)) S.ar S.nw ⟨p6,l5,rfl,f6,f5⟩;have F6:=(F4.trans (Fw.of N5)).trans (Fw.set (p:=R.x) (o:=(.ins t.aV R.dx [("walk",.ref R.wk),("sleep",.ref p6),("arg",wv S.ar),("now",.int S.nw),("names",.ref R.nm),("tickets",.ref R.tk),("letters",.ref R.lt)])) (.inl (by simp[Rn.cells])));refine Z2 _ _ ?_;generalize Zh G5 R.x (.ins t.aV R.dx [("walk",.ref R.wk),("sleep",.ref p6),("arg",wv S.ar),("now",.int S.nw),("names",.ref R.nm),("tickets",.ref R.tk),("letters",.ref R.lt)])=G6 at *;wp_walk;refine fun c hc=>?_;have N4:=q0D (o:=.lst []) hc;exact q _ c [] _ (A6.kp N4) (F6.free hc) aA .nil (F6.trans (Fw.of N4))
   ·rw[if_neg hf];exact⟨by first|omega|(rw[sizeLine_eq];omega),named fun z=>hf z.1⟩
theorem IW{t:Ad}(T:Tx w K mg t):bG P w K mg base Zt 11 t.xC t.CN ["run","statement"] (dP ⟨t.aV,t.aW,t.aJ⟩ true (fun m=>∃ x k,m=.Zp x k)):=by
 refine T.Hf.ok Cm (fun vs H Q E h=>?_) (fun Zs A outer s H vs Q E hr h=>?_)
 ·obtain⟨R,as,sl,S,a,m,N,rfl,_⟩:=h;rfl
 ·obtain⟨R,as,sl,S,a,m,N,rfl,A,ZA,hs,⟨x,k,rfl⟩,F,g,hN,q⟩:=h;have hu:=oF hr;refine⟨_,(aC (bB (i:=2) Cm.nd rfl (Or.inl rfl) (Jc hu (aN T.aX T.gI (pv 0)) (aZ bJ (pv 1) aE (fun _ _=>rfl)) (bX aB) ⟨rfl,rfl,rfl,rfl⟩))
   (aC (bI (xQ (pv 2) (fun _=>rfl)) (aI (mL hu (aN T.aX T.fZ (pv 0)) (aZ bJ (pv 1) aE (fun _ _=>rfl)) (EG PySem.F.slot_list_pop PySem.F.type_list_pop OF (pv 2) (aD aE aB)))) (aI (dC T.aX T.dF (pv 0) (bC (aD aR (aD (aZ bJ (pv 1) aE (fun _ _=>rfl)) aB))))))
   (aI (aO (bX aB))))),?_⟩
  and_intros
  cases hs with
  | @Zp a x k e1 =>
   obtain⟨kvs,el,L⟩:=A.lt;have l1:(lT S.nm).length<=N:=by rw[lT,List.length_map];exact F.nm
   refine aF fun R1 Zm=>?_;wp_walk using A.ins,el,e1;refine fun p1 h1=>?_;have N1:=q0D (o:=.lst []) h1;have f1:Zh H p1 (.lst []) p1=some (.lst []):=aA;have A1:=A.kp N1;have e1':=N1.at e1;have el1:=N1.at el;have L1:=L.keep (fun a _ o h=>N1.at h);have F1:=Fw.of (R:=R) (as:=as) N1;generalize Zh H p1 (.lst [])=G1 at *;have aa9:∀ l:Addr,G1 l=some (.lst [])->(cK S.lt k).getD []=[]->R1 [some (.ref R.x),some (.ref a),some (.ref l)] G1:=fun l hl hq=>by
    have hd:cT S (.Zp x k)=({S with sl:=.Zp k},[]):=by simp only[cT,hq]
    rw[hd] at q;refine Zm _ _ ?_;refine aF fun R2 Zn=>?_;wp_walk using hl,e1';refine fun p2 h2=>?_;have N2:=q0D (o:=.tup [.str "hear",.str k]) h2;have f2:Zh G1 p2 (.tup [.str "hear",.str k]) p2=some (.tup [.str "hear",.str k]):=aA;have A2:=A1.kp N2;wp_walk using N2.at A1.ins;have A3:=A2.attr (.ref p2) (.Zp k) S.ar S.nw ⟨p2,rfl,f2⟩;have F3:=(F1.trans (Fw.of N2)).trans (Fw.set (p:=R.x) (o:=(.ins t.aV R.dx [("walk",.ref R.wk),("sleep",.ref p2),("arg",wv S.ar),("now",.int S.nw),("names",.ref R.nm),("tickets",.ref R.tk),("letters",.ref R.lt)])) (.inl (by simp[Rn.cells])));refine Zn _ _ ?_;generalize Zh (Zh G1 p2 (.tup [.str "hear",.str k])) R.x (.ins t.aV R.dx [("walk",.ref R.wk),("sleep",.ref p2),("arg",wv S.ar),("now",.int S.nw),("names",.ref R.nm),("tickets",.ref R.tk),("letters",.ref R.lt)])=G3 at *;wp_walk;refine fun c hc=>?_;have N4:=q0D (o:=.lst []) hc;exact q _ c [] _ (A3.kp N4) (F3.free hc) aA .nil (F3.trans (Fw.of N4))
   rcases L1.look k with⟨hv,hn⟩|⟨l,ws,hv,hn,hl,ew⟩
   ·wp_walk using A1.ins,el1,e1',hv,Option.getD_none;exact aa9 p1 f1 (by rw[hn];rfl)
   ·wp_walk using A1.ins,el1,e1',hv,Option.getD_some;cases ws with
    | nil=>exact aa9 l ew (by rw[hn];rfl)
    | cons w r =>
     have hd:cT S (.Zp x k)=({S with nm:=dO S.nm x w,lt:=fK S.lt k r},[]):=by simp only[cT,hn,Option.getD_some]
     rw[hd] at q;rw[List.map_cons] at ew;refine Zm _ _ ?_;refine aF fun R2 Zn=>?_;obtain⟨A2,hla⟩:=A1.BD el1 hv r;have F2:=F1.trans (Fw.set (p:=l) (o:=.lst (r.map wv)) (.inr hla));have e2:=A1.tkp (Fw.set (p:=l) (o:=.lst (r.map wv)) (.inr hla)) _ _ e1';wp_walk using ew,List.tail_cons,List.isEmpty_cons,Bool.not_false,A2.ins,e2,A2.nm,mI;have A3:=A2.name x w;have F3:=F2.trans (Fw.set (p:=R.nm) (o:=.dK (lT (dO S.nm x w))) (.inl (by simp[Rn.cells])));refine⟨by omega,Zn _ _ ?_⟩;generalize Zh (Zh G1 l (.lst (r.map wv))) R.nm (.dK (lT (dO S.nm x w)))=G3 at *;wp_walk;refine fun c hc=>?_;have N4:=q0D (o:=.lst []) hc;exact q _ c [] _ (A3.kp N4) (F3.free hc) aA .nil (F3.trans (Fw.of N4))
theorem LQ{t:Ad}(T:Tx w K mg t):bG P w K mg base Zt 11 t.Cz t.Fj ["run","statement"] (dP ⟨t.aV,t.aW,t.aJ⟩ true (fun m=>∃ s,m=.fin s)):=by
 refine T.Lk.ok Me (fun vs H Q E h=>?_) (fun Zs A outer s H vs Q E hr h=>?_)
 ·obtain⟨R,as,sl,S,a,m,N,rfl,_⟩:=h;rfl
 ·obtain⟨R,as,sl,S,a,m,N,rfl,A,ZA,hs,⟨s,rfl⟩,F,g,hN,q⟩:=h;refine⟨_,(aI (aO (bL (pv 0) T.aX T.El (Ce T) (hr.mono (by omega)) T.GQ .nil pass0 (aD (bL (pv 0) T.aX T.eI (dM T) (hr.mono (by omega)) T.fH .nil pass0 (aD (aZ bJ (pv 1) aE (fun _ _=>rfl)) aB)) aB)))),?_⟩
  and_intros
  cases hs with
  | @fin a v s e1 h1 =>
   wp_walk using A.ins,e1;refine⟨R,as,sl,S,v,s,rfl,A,F.pl,h1,g,?_⟩;wp_walk;exact⟨R,as,sl,S,_,rfl,A,q⟩
theorem EB{t:Ad}(T:Tx w K mg t):bG P w K mg base Zt 12 t.tR t.t9 ["self","statement"] (Ur ⟨t.aV,t.aW,t.aJ⟩ true):=by
  refine T.Io.ok oX (fun vs H Q E h=>?_) (fun Zs A outer s H vs Q E hr h=>?_)
  · obtain⟨R,as,sl,S,a,m,N,rfl,_⟩:=h;rfl
  · obtain⟨R,as,sl,S,a,m,N,rfl,A,ZA,hs,F,g,ZM,hN,q⟩:=h;refine⟨_,(aC (bB (i:=2) oX.nd rfl (Or.inl rfl) (aZ bJ (pv 1) aE (fun _ _=>rfl)))
      (aC (bI (PW.pt (P6 (aT cX (pv 2) aR (nomark _)) (Ma (aT cX (pv 2) aR (nomark _))))) (aC (bQ (bL (pv 0) T.aX T.IL (FX T) (hr.mono (by omega)) T.JK .nil pass0 (aD (pv 1) aB)))
      (aI (aO (bX aB)))) bA)
      (aC (bB (i:=3) oX.nd rfl (Or.inl rfl) (OM (tab:=[("set",(dP ⟨t.aV,t.aW,t.aJ⟩ true (fun m=>∃ x s,m=.set x s))),("order",(dP ⟨t.aV,t.aW,t.aJ⟩ true (fun m=>∃ x y s,m=.order x y s\/m=.child x y s))),("timer",(dP ⟨t.aV,t.aW,t.aJ⟩ true (fun m=>∃ x s,m=.Zx x s))),("child",(dP ⟨t.aV,t.aW,t.aJ⟩ true (fun m=>∃ x y s,m=.order x y s\/m=.child x y s))),("send",(dP ⟨t.aV,t.aW,t.aJ⟩ true (fun m=>∃ s k r,m=.send s k r))),("drop",(dP ⟨t.aV,t.aW,t.aJ⟩ true (fun m=>∃ s,m=.drop s))),("wait",(dP ⟨t.aV,t.aW,t.aJ⟩ true (fun m=>∃ x ss,m=.wait x ss))),("hear",(dP ⟨t.aV,t.aW,t.aJ⟩ true (fun m=>∃ x k,m=.Zp x k))),("end",(dP ⟨t.aV,t.aW,t.aJ⟩ true (fun m=>∃ s,m=.fin s)))]) rfl T.QR T.OB (pv 2) (fun _ _=>rfl) (fun y sp h=>deeds9 (Z:=fun y sp=>∃ f fd ps,PySem.W.nsIn K t.iQ y=some (some (.ref f))/\bG P w K mg base Zt 11 f fd ps sp/\PySem.W.keepIn K (.ref f)=true/\Binds K fd ps []) h ⟨_,_,_,T.IS,(LR T).mono (by decide),T.Ll.kp,T.QN⟩ ⟨_,_,_,T.Et,(Au T).mono (by decide),T.zL.kp,T.DK⟩ ⟨_,_,_,T.Eu,(FY T).mono (by decide),T.D2.kp,T.JL⟩ ⟨_,_,_,T.Es,(Au T).mono (by decide),T.zL.kp,T.DK⟩ ⟨_,_,_,T.FU,(IX T).mono (by decide),T.Hg.kp,T.MZ⟩ ⟨_,_,_,T.FR,(IV T).mono (by decide),T.He.kp,T.MX⟩ ⟨_,_,_,T.FV,(IY T).mono (by decide),T.Hh.kp,T.M0⟩ ⟨_,_,_,T.FT,(IW T).mono (by decide),T.Hf.kp,T.MY⟩ ⟨_,_,_,T.IQ,(LQ T).mono (by decide),T.Lk.kp,T.QM⟩) (hr.mono (by omega)) (aD (pv 0) (aD (pv 1) aB))))
      (aC (bI (aT qZ (aN T.aX T.dF (pv 0)) eJ (nomark _)) (aI (bQ (cC (aN T.aX T.kB (pv 0)) T.cP T.jH (iB T) (hr.mono (by omega)) T.kQ .nil pass0))) bA)
      (aI (aO (pv 3))))))),?_⟩
    and_intros
    have tail:m.isB=false->∀(kd Zz:V) (c:Addr) (us:List V) (H':Hp),aY ⟨t.aV,t.aW,t.aJ⟩ H' R as Zz (cT S m).1->H c=none->H' c=some (.lst us)->gM H' us (cT S m).2->Fw R as as H H' ->
        Pj (MD (EZ (UK QV (M6 t.aV "sleep" (eD 0)) (tC .Zj))) (MC (EY t.aW "pass_by" (Bd t.aW) [] E0 (M6 t.aV "walk" (eD 0)) GC)) ME) (UC (eD 3)) {nx:=fun _ H'=>Q .Zj H',rt:=Q} [some (.ref R.x),some a,some kd,some (.ref c)] H':=fun hB kd Zz c us H' A' hc ec hC FF=>by
      rw[TF hB] at q;refine aF fun R4 Z2=>?_;rcases A'.slp.isN with⟨hn,rfl⟩|⟨hn,p,rfl⟩
      · simp only[hn,if_true] at q;obtain⟨k0,b0,n0,r0,est,hm0⟩:=gG ZM;wp_walk using A'.ins,A'.wk.ins;have W:=A'.wk;rw[yY,est] at W;refine⟨R.wk,R.wx,R.lb,R.ln,k0,n0,b0,r0,rfl,W,fun H1 W1 K1=>?_⟩;have e:(k0,b0,n0+1)::r0=iT (cT S m).1.stk:=by rw[yY,est];rfl
        rw[e] at W1;have A2:=A'.walk W1 (K1.mono (by simp));have F2:=A'.zP W1 (K1.mono (by simp));wp_walk;refine Z2 _ _ ?_;wp_walk;have nc:=A.dH hc;exact q .Zj c us H1 A2 hc (F2.kp _ _ ec nc.1 nc.2) (hC.kt (A'.tkp F2)) (FF.trans F2)
      · simp only[hn,if_false,Bool.false_eq_true] at q;wp_walk using A'.ins;refine Z2 _ _ ?_;wp_walk;exact q (.ref p) c us H' A' hc ec hC FF
    cases hs with
    | @set a0 x v s e1 h1 =>
      refine aF fun R1 Zm=>?_;wp_walk using e1;refine Zm _ _ ?_;refine aF fun R2 Zn=>?_;wp_walk;refine Zn _ _ ?_;refine aF fun R3 Zw=>?_;wp_walk using mE,gS,gT,gR,jF,jD,jG,jE,mD;refine⟨R,as,sl,S,_,_,N,rfl,A,ZA,.set e1 h1,⟨_,_,rfl⟩,F,g,hN,fun Zz c us H' A' hc ec hC FF=>?_⟩;wp_walk;exact Zw _ _ (tail rfl _ Zz c us H' A' hc ec hC FF)
    | @order a0 x y v s e1 h1 =>
      refine aF fun R1 Zm=>?_;wp_walk using e1;refine Zm _ _ ?_;refine aF fun R2 Zn=>?_;wp_walk;refine Zn _ _ ?_;refine aF fun R3 Zw=>?_;wp_walk using mE,gS,gT,gR,jF,jD,jG,jE,mD;refine⟨R,as,sl,S,_,_,N,rfl,A,ZA,.order e1 h1,⟨_,_,_,.inl rfl⟩,F,g,hN,fun Zz c us H' A' hc ec hC FF=>?_⟩;wp_walk;exact Zw _ _ (tail rfl _ Zz c us H' A' hc ec hC FF)
    | @Zx a0 x v s e1 h1 =>
      refine aF fun R1 Zm=>?_;wp_walk using e1;refine Zm _ _ ?_;refine aF fun R2 Zn=>?_;wp_walk;refine Zn _ _ ?_;refine aF fun R3 Zw=>?_;wp_walk using mE,gS,gT,gR,jF,jD,jG,jE,mD;refine⟨R,as,sl,S,_,_,N,rfl,A,ZA,.Zx e1 h1,⟨_,_,rfl⟩,F,g,hN,fun Zz c us H' A' hc ec hC FF=>?_⟩;wp_walk;exact Zw _ _ (tail rfl _ Zz c us H' A' hc ec hC FF)
    | @child a0 x y v s e1 h1 =>
      refine aF fun R1 Zm=>?_;wp_walk using e1;refine Zm _ _ ?_;refine aF fun R2 Zn=>?_;wp_walk;refine Zn _ _ ?_;refine aF fun R3 Zw=>?_;wp_walk using mE,gS,gT,gR,jF,jD,jG,jE,mD;refine⟨R,as,sl,S,_,_,N,rfl,A,ZA,.child e1 h1,⟨_,_,_,.inr rfl⟩,F,g,hN,fun Zz c us H' A' hc ec hC FF=>?_⟩;wp_walk;exact Zw _ _ (tail rfl _ Zz c us H' A' hc ec hC FF)
    | @send a0 k v u s r e1 h1 h2 =>
      refine aF fun R1 Zm=>?_;wp_walk using e1;refine Zm _ _ ?_;refine aF fun R2 Zn=>?_;wp_walk;refine Zn _ _ ?_;refine aF fun R3 Zw=>?_;wp_walk using mE,gS,gT,gR,jF,jD,jG,jE,mD;refine⟨R,as,sl,S,_,_,N,rfl,A,ZA,.send e1 h1 h2,⟨_,_,_,rfl⟩,F,g,hN,fun Zz c us H' A' hc ec hC FF=>?_⟩;wp_walk;exact Zw _ _ (tail rfl _ Zz c us H' A' hc ec hC FF)
    | @drop a0 v s e1 h1 =>
      refine aF fun R1 Zm=>?_;wp_walk using e1;refine Zm _ _ ?_;refine aF fun R2 Zn=>?_;wp_walk;refine Zn _ _ ?_;refine aF fun R3 Zw=>?_;wp_walk using mE,gS,gT,gR,jF,jD,jG,jE,mD;refine⟨R,as,sl,S,_,_,N,rfl,A,ZA,.drop e1 h1,⟨_,rfl⟩,F,g,hN,fun Zz c us H' A' hc ec hC FF=>?_⟩;wp_walk;exact Zw _ _ (tail rfl _ Zz c us H' A' hc ec hC FF)
    | @Zp a0 x k e1 =>
      refine aF fun R1 Zm=>?_;wp_walk using e1;refine Zm _ _ ?_;refine aF fun R2 Zn=>?_;wp_walk;refine Zn _ _ ?_;refine aF fun R3 Zw=>?_;wp_walk using mE,gS,gT,gR,jF,jD,jG,jE,mD;refine⟨R,as,sl,S,_,_,N,rfl,A,ZA,.Zp e1,⟨_,_,rfl⟩,F,g,hN,fun Zz c us H' A' hc ec hC FF=>?_⟩;wp_walk;exact Zw _ _ (tail rfl _ Zz c us H' A' hc ec hC FF)
    | @fin a0 v s e1 h1 =>
      refine aF fun R1 Zm=>?_;wp_walk using e1;refine Zm _ _ ?_;refine aF fun R2 Zn=>?_;wp_walk;refine Zn _ _ ?_;refine aF fun R3 Zw=>?_;wp_walk using mE,gS,gT,gR,jF,jD,jG,jE,mD;refine⟨R,as,sl,S,_,_,N,rfl,A,ZA,.fin e1 h1,⟨_,rfl⟩,F,g,hN,fun Zz c us H' A' hc ec hC FF=>?_⟩;wp_walk;exact Zw _ _ (tail rfl _ Zz c us H' A' hc ec hC FF)
    | @wait a0 p x vs ss e1 e2 h1 =>
      refine aF fun R1 Zm=>?_;wp_walk using e1;refine Zm _ _ ?_;refine aF fun R2 Zn=>?_;wp_walk;refine Zn _ _ ?_;refine aF fun R3 Zw=>?_;wp_walk using mE,gS,gT,gR,jF,jD,jG,jE,mD;refine⟨R,as,sl,S,_,_,N,rfl,A,ZA,.wait e1 e2 h1,⟨_,_,rfl⟩,F,g,hN,fun Zz c us H' A' hc ec hC FF=>?_⟩;wp_walk;exact Zw _ _ (tail rfl _ Zz c us H' A' hc ec hC FF)
    | @Z9 a0 p v s vs b e1 h1 e2 h2 =>
      rw[P4 rfl] at q;refine aF fun R1 Zm=>?_;wp_walk using e1;refine Zm _ _ ?_;wp_walk using A.ins;refine⟨R,as,sl,S,_,_,N,rfl,A,.Z9 e1 h1 e2 h2,rfl,F,g,ZM,fun H1 A1 F1=>?_⟩;wp_walk;refine fun c hc=>?_;have N4:=q0D (o:=.lst []) hc;exact q _ c [] _ (A1.kp N4) (F1.free hc) aA .nil (F1.trans (Fw.of N4))
    | @iff a0 p p2 v s vs us b o e1 h1 e2 h2 e3 h3 =>
      rw[P4 rfl] at q;refine aF fun R1 Zm=>?_;wp_walk using e1;refine Zm _ _ ?_;wp_walk using A.ins;refine⟨R,as,sl,S,_,_,N,rfl,A,.iff e1 h1 e2 h2 e3 h3,rfl,F,g,ZM,fun H1 A1 F1=>?_⟩;wp_walk;refine fun c hc=>?_;have N4:=q0D (o:=.lst []) hc;exact q _ c [] _ (A1.kp N4) (F1.free hc) aA .nil (F1.trans (Fw.of N4))
theorem Am{t:Ad}(T:Tx w K mg t):bG P w K mg base Zt 13 t.xW t.yQ ["self"] (Xm ⟨t.aV,t.aW,t.aJ⟩ true):=by
  refine T.Lf.ok kK (fun vs H Q E h=>?_) (fun Zs A outer s H vs Q E hr h=>?_)
  · obtain⟨R,as,sl,S,N,rfl,_⟩:=h;rfl
  · obtain⟨R,as,sl,S,N,rfl,A,FN,hN,q⟩:=h;refine⟨_,(aC (dC T.aX T.dF (pv 0) eJ)
      (aC (bB (i:=1) kK.nd rfl (Or.inl rfl) (bX aB))
      (aC (bB (i:=2) kK.nd rfl (Or.inl rfl) aE)
      (aC (EI PassesOwn.never (aT qZ (aN T.aX T.dF (pv 0)) eJ (nomark _)) (aC (bB (i:=3) kK.nd rfl (Or.inl rfl) (cC (aN T.aX T.kB (pv 0)) T.cP T.C9 (BI T) (hr.mono (by omega)) T.DI .nil pass0))
      (aI (bI (aT qZ (pv 3) eJ (nomark _)) (aI (bQ (EG PySem.F.slot_list_extend PySem.F.type_list_extend xK (pv 1) (aD (bL (pv 0) T.aX T.El (Ce T) (hr.mono (by omega)) T.GQ .nil pass0 (aD eJ aB)) aB)))) (aI (bI (aT cX (pv 2) (tE (v:=.int 300) rfl T.DO ⟨_,rfl⟩) (nomark _)) (aI (bQ (EG PySem.F.slot_list_extend PySem.F.type_list_extend xK (pv 1) (aD (cC (pv 0) T.aX T.C8 (BH T) (hr.mono (by omega)) T.DH .nil pass0) aB)))) (aC (T9 (i:=2) kK.nd rfl (Or.inl rfl) aE Hq)
      (aI (bQ (EG PySem.F.slot_list_extend PySem.F.type_list_extend xK (pv 1) (aD (bL (pv 0) T.aX T.FP (EB T) (hr.mono (by omega)) T.HY .nil pass0 (aD (pv 3) aB)) aB)))))))))))
      (aI (aO (pv 1))))))),?_⟩
    and_intros
    refine aF fun R1 Zm=>?_;wp_walk using A.ins;have A1:=A.attr .Zj .Zj S.ar S.nw rfl;have F1:=Fw.set (R:=R) (as:=as) (H:=H) (p:=R.x) (o:=(.ins t.aV R.dx [("walk",.ref R.wk),("sleep",.Zj),("arg",wv S.ar),("now",.int S.nw),("names",.ref R.nm),("tickets",.ref R.tk),("letters",.ref R.lt)])) (.inl (by simp[Rn.cells]));generalize Zh H R.x (.ins t.aV R.dx [("walk",.ref R.wk),("sleep",.Zj),("arg",wv S.ar),("now",.int S.nw),("names",.ref R.nm),("tickets",.ref R.tk),("letters",.ref R.lt)])=G1 at *;refine Zm _ _ ?_;clear Zm;clear R1;refine aF fun R2 Zn=>?_;wp_walk;refine fun c hc=>?_;have fc:H c=none:=F1.free hc;have nc:=A.dH fc;have N2:=q0D (o:=.lst []) hc;have ec:Zh G1 c (.lst []) c=some (.lst []):=aA;replace A1:=A1.kp N2;replace F1:=F1.trans (Fw.of N2);generalize Zh G1 c (.lst [])=G2 at *;refine Zn _ _ ?_;clear Zn;clear R2;refine aF fun R3 Zw=>?_;wp_walk;refine Zw _ _ ?_;clear Zw;clear R3;refine aF fun R4 Z2=>?_;obtain⟨S0,hS0⟩:∃ S0:Pu,S0={S with sl:=.Zj}:=⟨_,rfl⟩;rw[<- hS0] at q FN;replace A1:aY ⟨t.aV,t.aW,t.aJ⟩ G2 R as .Zj S0:=by rw[hS0];exact A1
    have s0:S0.sl=.Zj:=by rw[hS0]
    clear hS0;obtain⟨Y,hY⟩:∃ Y:Nat->St->Hp->Prop,∀ m σ G,Y m σ G = ∃(many:Nat) (u:Option V) (us:List V) (cs:Cmds) (S1:Pu) (Z6:V),σ=[some (.ref R.x),some (.ref c),some (.int many),u]/\G c=some (.lst us)/\Fw R as as H G/\gM G us cs/\aY ⟨t.aV,t.aW,t.aJ⟩ G R as Z6 S1 /\
        ((S1.sl=.Zj/\many<=300/\cs.length<=many/\m=301 - many/\Zv true S1 (N+many)/\iP 300 S0=((iP (300 - many) S1).1,cs++(iP (300 - many) S1).2))\/(S1.sl.isN=false/\iP 300 S0=(S1,cs))):=⟨_,fun _ _ _=>rfl⟩
    refine⟨Y,⟨301,?_⟩,?_⟩
    · rw[hY];exact⟨0,none,[],[],S0,.Zj,rfl,ec,F1,.nil,A1,.inl ⟨s0,by decide,Nat.zero_le _,rfl,FN,rfl⟩⟩
    intro m σ G hG;rw[hY] at hG;obtain⟨many,u,us,cs,S1,Z6,rfl,eG,FG,hC,A2,hG⟩:=hG;rcases hG with⟨hs1,hm,lC,rfl,F0,eq⟩|⟨hs1,eq⟩
    · have:Z6=.Zj:=by have:=A2.slp;rw[hs1] at this;exact this
      subst this;wp_walk using A2.ins;refine⟨fun σ' G'=>∃ m',m' < 301 - many/\Y m' σ' G',fun _ _ z=>z,?_⟩;wp_walk using A2.wk.ins,A2.ins;refine⟨R.wk,R.wx,R.lb,R.ln,S1.stk,rfl,A2.wk,F0.sk.ok,fun H1 W1 _ ZM K1=>?_,fun m v H1 W1 _ ZM hv K1=>?_⟩
      · have A3:aY ⟨t.aV,t.aW,t.aJ⟩ H1 R as .Zj S1.cG:=A2.walk W1 K1;have F2:=A2.zP W1 K1;replace eG:=F2.kp _ _ eG nc.1 nc.2;rw[dY ZM] at eq;wp_walk using A3.ins,eG;refine⟨R,as,.Zj,S1.cG,none,rfl,A3,fun sl3 c3 us3 H3 A4 hc3 ec3 hC3 F3=>?_⟩;have lc3:(S1.cG.ends none).2.length<=1:=by simp[Pu.ends]
        have eG3:=F3.kp _ _ eG nc.1 nc.2;have l1:=hC.len;have l3:=hC3.len;wp_walk using eG3,ec3;refine⟨by omega,?_⟩;have A5:=A4.other (vs:=us++us3) eG3 nc.1 nc.2;have F5:=((FG.trans F2).trans F3).fresh (o:=.lst (us++us3)) fc;have tk5:aL H3 (Zh H3 c (.lst (us++us3))):=aL.A7 eG3 (by intro _ z;cases z);have hC5:=((hC.kt (A2.tkp F2)).kt (A3.tkp F3)).app hC3 |>.kt tk5;refine⟨0,by omega,?_⟩;rw[hY];exact⟨many,some .Zj,_,_,_,sl3,rfl,aA,F5,hC5,A5,.inr ⟨rfl,by rw[eq]⟩⟩
      · have A3:aY ⟨t.aV,t.aW,t.aJ⟩ H1 R as .Zj S1.cG:=A2.walk W1 K1;have F2:=A2.zP W1 K1;have FC:=F0.cG hs1;replace eG:=F2.kp _ _ eG nc.1 nc.2;obtain⟨a,rfl⟩:∃ a,v=.ref a:=by cases hv<;>exact⟨_,rfl⟩
        wp_walk using reduceCtorEq,if_false;by_cases h3:many=300
        · subst h3;rw[if_pos (by decide)];rw[jR ZM] at eq;wp_walk using A3.ins,eG;refine⟨R,as,.Zj,S1.cG,rfl,A3,fun sl3 c3 us3 H3 A4 hc3 ec3 hC3 F3=>?_⟩;have lc3:(S1.cG.Cu).2.length<=1:=by simp[Pu.Cu]
          have eG3:=F3.kp _ _ eG nc.1 nc.2;have l1:=hC.len;have l3:=hC3.len;wp_walk using eG3,ec3;refine⟨by omega,?_⟩;have A5:=A4.other (vs:=us++us3) eG3 nc.1 nc.2;have F5:=((FG.trans F2).trans F3).fresh (o:=.lst (us++us3)) fc;have tk5:aL H3 (Zh H3 c (.lst (us++us3))):=aL.A7 eG3 (by intro _ z;cases z);have hC5:=((hC.kt (A2.tkp F2)).kt (A3.tkp F3)).app hC3 |>.kt tk5;refine⟨0,by omega,?_⟩;rw[hY];exact⟨300,some (.ref a),_,_,_,sl3,rfl,aA,F5,hC5,A5,.inr ⟨rfl,by rw[eq]⟩⟩
        · rw[if_neg (by omega)];obtain⟨n,hn⟩:∃ n,300 - many=n+1:=⟨299 - many,by omega⟩;rw[hn] at eq;refine⟨_,rfl,?_⟩;wp_walk using A3.ins,eG;refine⟨R,as,.Zj,S1.cG,.ref a,m,N+many,rfl,A3,hs1,hv,FC,FC.stm ZM,ZM,by omega,fun sl3 c3 us3 H3 A4 hc3 ec3 hC3 F3=>?_⟩;have lc3:=OJ S1.cG m;have eG3:=F3.kp _ _ eG nc.1 nc.2;have l1:=hC.len;have l3:=hC3.len;wp_walk using eG3,ec3;refine⟨by omega,?_⟩;have A5:=A4.other (vs:=us++us3) eG3 nc.1 nc.2;have F5:=((FG.trans F2).trans F3).fresh (o:=.lst (us++us3)) fc;have tk5:aL H3 (Zh H3 c (.lst (us++us3))):=aL.A7 eG3 (by intro _ z;cases z);have hC5:=((hC.kt (A2.tkp F2)).kt (A3.tkp F3)).app hC3 |>.kt tk5;cases hz:(one S1.cG m).1.sl.isN with
          | true =>
            rw[pM ZM hz] at eq;refine⟨301 - (many+1),by omega,?_⟩;rw[hY];exact⟨many+1,some (.ref a),_,_,_,sl3,rfl,aA,F5,hC5,A5,.inl ⟨C4 hz,by omega,by rw[List.length_append];omega,rfl,FC.one ZM hs1 (by omega),by rw[eq,show 300 - (many+1)=n by omega,List.append_assoc]⟩⟩
          | false =>
            rw[jQ ZM hz] at eq;refine⟨0,by omega,?_⟩;rw[hY];exact⟨many+1,some (.ref a),_,_,_,sl3,rfl,aA,F5,hC5,A5,.inr ⟨hz,by rw[eq]⟩⟩
    · rcases A2.slp.isN with⟨z,_⟩|⟨_,p,rfl⟩
      · rw[hs1] at z;cases z
      wp_walk using A2.ins,reduceCtorEq,if_false;refine Z2 _ _ ?_;wp_walk;rw[eq] at q;exact q _ c us G A2 fc eG hC FG
theorem Ap{t:Ad}(T:Tx w K mg t):bG P w K mg base Zt 14 t.xZ t.yU ["self","worth"] (Pc ⟨t.aV,t.aW,t.aJ⟩ true):=by
 refine T.Lj.ok Gn (fun vs H Q E h=>?_) (fun Zs A outer s H vs Q E hr h=>?_)
 ·obtain⟨R,as,sl,S,w,N,rfl,_⟩:=h;rfl
 ·obtain⟨R,as,sl,S,w,N,rfl,A,F,hN,hw,ZA,q⟩:=h;have hu:=oF hr;refine⟨_,(aC (mL hu (aN T.aX T.fZ (pv 0)) (aZ bJ (cC (aN T.aX T.kB (pv 0)) T.cP T.gU (gA T) (hr.mono (by omega)) T.hZ .nil pass0) aE (fun _ _=>rfl)) (pv 1))
   (aC (bQ (cC (aN T.aX T.kB (pv 0)) T.cP T.jH (iB T) (hr.mono (by omega)) T.kQ .nil pass0))
   (aI (aO (cC (pv 0) T.aX T.Ca (Am T) (hr.mono (by omega)) T.DE .nil pass0))))),?_⟩
  and_intros
  have l1:(lT S.nm).length<=N:=by rw[lT,List.length_map];exact F.nm
  rcases ZA with⟨k,hk⟩|⟨ts,hk⟩
  ·obtain⟨x,ZM⟩:=F.sl.1 k hk;obtain⟨k0,b0,n0,r0,est,hm0⟩:=gG ZM;have nm1:∀ v,cL H v (.Zp x k)->∃ a xs,v=.ref a/\H a=some (.tup (.str "hear"::.str x::xs)):=fun v h=>by cases h with|Zp e=>exact⟨_,_,rfl,e⟩
   simp only[Pu.wake,ZM] at q;refine aF fun R1 Zm=>?_;wp_walk using A.ins,A.wk.ins,A.nm;have W:=A.wk;rw[est] at W;refine⟨R.wk,R.wx,R.lb,R.ln,k0,n0,b0,r0,_,rfl,W,hm0,fun v hv=>?_⟩;obtain⟨a,xs,rfl,e1⟩:=nm1 v hv;wp_walk using e1,A.nm,mI;refine⟨by omega,?_⟩;have A1:=A.name x w;have F1:=Fw.set (R:=R) (as:=as) (H:=H) (o:=.dK (lT (dO S.nm x w))) (p:=R.nm) (.inl (by simp[Rn.cells]));generalize Zh H R.nm (.dK (lT (dO S.nm x w)))=G1 at *;refine Zm _ _ ?_;clear Zm;clear R1;refine aF fun R2 Zn=>?_;wp_walk using A1.ins,A1.wk.ins;have W1:=A1.wk;rw[show({S with nm:=dO S.nm x w}:Pu).stk=S.stk from rfl,est] at W1;refine⟨R.wk,R.wx,R.lb,R.ln,k0,n0,b0,r0,rfl,W1,fun H2 W2 K2=>?_⟩;have e:(k0,b0,n0+1)::r0=iT S.stk:=by rw[est];rfl
   rw[e] at W2;have A2:=A1.walk W2 (K2.mono (by simp));have F2:=F1.trans (A1.zP W2 (K2.mono (by simp)));wp_walk;refine Zn _ _ ?_;clear Zn;clear R2;wp_walk using A2.ins;exact⟨R,as,sl,_,N+1,rfl,A2,F.wake ZM hw x,by omega,fun sl3 c us H3 A3 hc ec hC F3=>q sl3 c us H3 A3 (F2.free hc) ec hC (F2.trans F3)⟩
  ·obtain⟨x,ss,ZM⟩:=F.sl.2 ts hk;obtain⟨k0,b0,n0,r0,est,hm0⟩:=gG ZM;have nm1:∀ v,cL H v (.wait x ss)->∃ a xs,v=.ref a/\H a=some (.tup (.str "wait"::.str x::xs)):=fun v h=>by cases h with|wait e _ _=>exact⟨_,_,rfl,e⟩
   simp only[Pu.wake,ZM] at q;refine aF fun R1 Zm=>?_;wp_walk using A.ins,A.wk.ins,A.nm;have W:=A.wk;rw[est] at W;refine⟨R.wk,R.wx,R.lb,R.ln,k0,n0,b0,r0,_,rfl,W,hm0,fun v hv=>?_⟩;obtain⟨a,xs,rfl,e1⟩:=nm1 v hv;wp_walk using e1,A.nm,mI;refine⟨by omega,?_⟩;have A1:=A.name x w;have F1:=Fw.set (R:=R) (as:=as) (H:=H) (o:=.dK (lT (dO S.nm x w))) (p:=R.nm) (.inl (by simp[Rn.cells]));generalize Zh H R.nm (.dK (lT (dO S.nm x w)))=G1 at *;refine Zm _ _ ?_;clear Zm;clear R1;refine aF fun R2 Zn=>?_;wp_walk using A1.ins,A1.wk.ins;have W1:=A1.wk;rw[show({S with nm:=dO S.nm x w}:Pu).stk=S.stk from rfl,est] at W1;refine⟨R.wk,R.wx,R.lb,R.ln,k0,n0,b0,r0,rfl,W1,fun H2 W2 K2=>?_⟩;have e:(k0,b0,n0+1)::r0=iT S.stk:=by rw[est];rfl
   rw[e] at W2;have A2:=A1.walk W2 (K2.mono (by simp));have F2:=F1.trans (A1.zP W2 (K2.mono (by simp)));wp_walk;refine Zn _ _ ?_;clear Zn;clear R2;wp_walk using A2.ins;exact⟨R,as,sl,_,N+1,rfl,A2,F.wake ZM hw x,by omega,fun sl3 c us H3 A3 hc ec hC F3=>q sl3 c us H3 A3 (F2.free hc) ec hC (F2.trans F3)⟩
theorem uY{t:Ad}(T:Tx w K mg t):bG P w K mg base Zt 15 t.jU t.j4 ["self","key","worth"] (Uv ⟨t.aV,t.aW,t.aJ⟩ true):=by
 refine T.zH.ok vP (fun vs H Q E h=>?_) (fun Zs A outer s H vs Q E hr h=>?_)
 ·obtain⟨R,as,sl,S,k,w,N,rfl,_⟩:=h;rfl
 ·obtain⟨R,as,sl,S,k,w,N,rfl,A,F,hN,hw,ZA,q⟩:=h;refine⟨_,(aC (bI (aT (TN 2 (by decide) (Lv hr (by decide))) (aN T.aX T.dF (pv 0)) (bC (aD aR (aD (pv 1) aB))) (nomark _)) (aI (aO (bL (pv 0) T.aX T.Cb (Ap T) (hr.mono (by omega)) T.DG .nil pass0 (aD (pv 2) aB)))) bA)
   (aC (bQ (mJ (L3 (aN T.aX T.gI (pv 0)) (pv 1) (bX aB) ⟨rfl,rfl,rfl,rfl⟩) (pv 2)))
   (aI (aO (bX aB))))),?_⟩
  and_intros
  have tl:=A.slp;rcases ZA with⟨k',es⟩|⟨ts,es⟩
  ·rw[es] at tl;obtain⟨p,rfl,ep⟩:=tl;refine aF fun R1 Zm=>?_;wp_walk using A.ins;refine fun p1 h1=>?_;have N1:=q0D (o:=.tup [.str "hear",.str k]) h1;have f1:Zh H p1 (.tup [.str "hear",.str k]) p1=some (.tup [.str "hear",.str k]):=aA;have A1:=A.kp N1;have hp1:=N1.at ep;have F1:=Fw.of (R:=R) (as:=as) N1;generalize Zh H p1 (.tup [.str "hear",.str k])=G1 at *;refine .inl ⟨_,Oq 1 hp1 f1,?_⟩;by_cases hk:k'=k
   ·subst hk;simp only[Pu.iI,es,if_true] at q;wp_walk using decide_true,A1.ins;exact⟨R,as,.ref p,S,w,N,rfl,A1,F,by omega,hw,.inl ⟨k',es⟩,fun sl3 c us H3 A3 hc ec hC F3=>q as sl3 c us H3 A3 (F1.free hc) (A.dH (F1.free hc)).2 ec hC (F1.trans F3)⟩
   ·have hq:S.iI k w=({S with lt:=gY S.lt k w},[]):=by simp only[Pu.iI,es,if_neg hk]
    rw[hq] at q;wp_walk using decide_false,hk;refine Zm _ _ ?_;clear Zm;clear R1;refine aF fun R2 Zn=>?_;obtain⟨kvs,el,L⟩:=A1.lt;have ll:=L.len;have fl:=F.lt;wp_walk using A1.ins,el;refine fun p2 h2=>?_;have hp2:=F1.free h2;have N2:=q0D (o:=.lst []) h2;have f2:Zh G1 p2 (.lst []) p2=some (.lst []):=aA;have A2:=A1.kp N2;have el2:=N2.at el;have LL:=L.keep (fun a _ o h=>N2.at h);have F2:=F1.trans (Fw.of N2);have nc:=A1.dH h2;generalize Zh G1 p2 (.lst [])=G2 at *;wp_walk using el2;refine⟨by omega,fun v hv=>?_,fun hv=>?_⟩
    ·rcases LL.look k with⟨z,_⟩|⟨l,ws,z,hn,hla,hl⟩
     ·rw[z] at hv;cases hv
     rw[z] at hv;cases hv;have lw:=(F.lw k ws hn).1;obtain⟨A3,_⟩:=A2.BD el2 z (ws++[w]);have F3:=F2.trans (Fw.set (p:=l) (o:=.lst ((ws++[w]).map wv)) (.inr hla));rw[show fK S.lt k (ws++[w])=gY S.lt k w by rw[gY,hn]] at A3;rw[List.map_append,List.map_cons,List.map_nil] at A3 F3;wp_walk using hl;refine⟨by simp;omega,?_⟩;generalize Zh G2 l (.lst (ws.map wv++[wv w]))=G3 at *;wp_walk;refine Zn _ _ ?_;wp_walk;refine fun c hc=>?_;have N4:=q0D (o:=.lst []) hc;exact q as _ c [] _ (A3.kp N4) (F3.free hc) (A3.dH hc).2 aA .nil (F3.trans (Fw.of N4))
    ·rcases LL.look k with⟨z,hn⟩|⟨l,ws,z,_⟩
     rotate_left
     ·rw[z] at hv;cases hv
     have A3:=A2.Oz (ws:=[]) el2 z f2 nc.1 nc.2;have F3:=F2.trans (Fw.set (p:=R.lt) (o:=.dK (eL kvs (.inr k) (.ref p2))) (.inl (by simp[Rn.cells])));have f3:Zh G2 R.lt (.dK (eL kvs (.inr k) (.ref p2))) p2=some (.lst []):=kA el2 f2 (by intro z;cases z);have el3:Zh G2 R.lt (.dK (eL kvs (.inr k) (.ref p2))) R.lt=some (.dK (eL kvs (.inr k) (.ref p2))):=aA;have z3:bT (eL kvs (.inr k) (.ref p2)) (.inr k)=some (.ref p2):=by rw[Bk,if_pos rfl]
     generalize Zh G2 R.lt (.dK (eL kvs (.inr k) (.ref p2)))=G3 at *;wp_walk using f3;obtain⟨A4,_⟩:=A3.BD el3 z3 [w];have e4:fK (S.lt++[(k,([]:List Wo))]) k [w]=gY S.lt k w:=by rw[Du hn,gY,hn]
     rw[show({S with lt:=S.lt++[(k,([]:List Wo))]}:Pu).lt=S.lt++[(k,[])] from rfl,e4] at A4;have F4:Fw R as (as++[p2]) H (Zh G3 p2 (.lst [wv w])):=by
      have z:=F3.fresh (o:=.lst [wv w]) hp2;exact⟨z.kp,z.dom,fun a ha=>by
       rcases List.mem_append.mp ha with ha|ha
       ·exact .inl ha
       ·exact .inr (by rw[show a=p2 by simpa using ha];exact hp2)⟩
     replace A4:aY ⟨t.aV,t.aW,t.aJ⟩ (Zh G3 p2 (.lst [wv w])) R (as++[p2]) (.ref p) {S with lt:=gY S.lt k w}:=A4;generalize Zh G3 p2 (.lst [wv w])=G4 at *;refine Zn _ _ ?_;wp_walk;refine fun c hc=>?_;have N4:=q0D (o:=.lst []) hc;exact q (as++[p2]) _ c [] _ (A4.kp N4) (F4.free hc) (A4.dH hc).2 aA .nil (F4.trans (Fw.of N4))
  ·rw[es] at tl;obtain⟨p,pw,rfl,ep,epw⟩:=tl;refine aF fun R1 Zm=>?_;wp_walk using A.ins;refine fun p1 h1=>?_;have N1:=q0D (o:=.tup [.str "hear",.str k]) h1;have f1:Zh H p1 (.tup [.str "hear",.str k]) p1=some (.tup [.str "hear",.str k]):=aA;have A1:=A.kp N1;have hp1:=N1.at ep;have hpw:=N1.at epw;have F1:=Fw.of (R:=R) (as:=as) N1;generalize Zh H p1 (.tup [.str "hear",.str k])=G1 at *;refine .inr ⟨Str.ofString "wait",Str.ofString "hear",k,pw,_,hp1,hpw,rfl,by decide,?_⟩;have hq:S.iI k w=({S with lt:=gY S.lt k w},[]):=by simp only[Pu.iI,es]
   rw[hq] at q;wp_walk;refine Zm _ _ ?_;clear Zm;clear R1;refine aF fun R2 Zn=>?_;obtain⟨kvs,el,L⟩:=A1.lt;have ll:=L.len;have fl:=F.lt;wp_walk using A1.ins,el;refine fun p2 h2=>?_;have hp2:=F1.free h2;have N2:=q0D (o:=.lst []) h2;have f2:Zh G1 p2 (.lst []) p2=some (.lst []):=aA;have A2:=A1.kp N2;have el2:=N2.at el;have LL:=L.keep (fun a _ o h=>N2.at h);have F2:=F1.trans (Fw.of N2);have nc:=A1.dH h2;generalize Zh G1 p2 (.lst [])=G2 at *;wp_walk using el2;refine⟨by omega,fun v hv=>?_,fun hv=>?_⟩
   ·rcases LL.look k with⟨z,_⟩|⟨l,ws,z,hn,hla,hl⟩
    ·rw[z] at hv;cases hv
    rw[z] at hv;cases hv;have lw:=(F.lw k ws hn).1;obtain⟨A3,_⟩:=A2.BD el2 z (ws++[w]);have F3:=F2.trans (Fw.set (p:=l) (o:=.lst ((ws++[w]).map wv)) (.inr hla));rw[show fK S.lt k (ws++[w])=gY S.lt k w by rw[gY,hn]] at A3;rw[List.map_append,List.map_cons,List.map_nil] at A3 F3;wp_walk using hl;refine⟨by simp;omega,?_⟩;generalize Zh G2 l (.lst (ws.map wv++[wv w]))=G3 at *;wp_walk;refine Zn _ _ ?_;wp_walk;refine fun c hc=>?_;have N4:=q0D (o:=.lst []) hc;exact q as _ c [] _ (A3.kp N4) (F3.free hc) (A3.dH hc).2 aA .nil (F3.trans (Fw.of N4))
   ·rcases LL.look k with⟨z,hn⟩|⟨l,ws,z,_⟩
    rotate_left
    ·rw[z] at hv;cases hv
    have A3:=A2.Oz (ws:=[]) el2 z f2 nc.1 nc.2;have F3:=F2.trans (Fw.set (p:=R.lt) (o:=.dK (eL kvs (.inr k) (.ref p2))) (.inl (by simp[Rn.cells])));have f3:Zh G2 R.lt (.dK (eL kvs (.inr k) (.ref p2))) p2=some (.lst []):=kA el2 f2 (by intro z;cases z);have el3:Zh G2 R.lt (.dK (eL kvs (.inr k) (.ref p2))) R.lt=some (.dK (eL kvs (.inr k) (.ref p2))):=aA;have z3:bT (eL kvs (.inr k) (.ref p2)) (.inr k)=some (.ref p2):=by rw[Bk,if_pos rfl]
    generalize Zh G2 R.lt (.dK (eL kvs (.inr k) (.ref p2)))=G3 at *;wp_walk using f3;obtain⟨A4,_⟩:=A3.BD el3 z3 [w];have e4:fK (S.lt++[(k,([]:List Wo))]) k [w]=gY S.lt k w:=by rw[Du hn,gY,hn]
    rw[show({S with lt:=S.lt++[(k,([]:List Wo))]}:Pu).lt=S.lt++[(k,[])] from rfl,e4] at A4;have F4:Fw R as (as++[p2]) H (Zh G3 p2 (.lst [wv w])):=by
     have z:=F3.fresh (o:=.lst [wv w]) hp2;exact⟨z.kp,z.dom,fun a ha=>by
      rcases List.mem_append.mp ha with ha|ha
      ·exact .inl ha
      ·exact .inr (by rw[show a=p2 by simpa using ha];exact hp2)⟩
    replace A4:aY ⟨t.aV,t.aW,t.aJ⟩ (Zh G3 p2 (.lst [wv w])) R (as++[p2]) (.ref p) {S with lt:=gY S.lt k w}:=A4;generalize Zh G3 p2 (.lst [wv w])=G4 at *;refine Zn _ _ ?_;wp_walk;refine fun c hc=>?_;have N4:=q0D (o:=.lst []) hc;exact q (as++[p2]) _ c [] _ (A4.kp N4) (F4.free hc) (A4.dH hc).2 aA .nil (F4.trans (Fw.of N4))
theorem uZ{t:Ad}(T:Tx w K mg t):bG P w K mg base Zt 2 t.jV t.j5 ["self","ticket","worth"] (Gx t.aJ):=by
 refine T.zI.ok vQ (fun vs H Q E h=>?_) (fun Zs A outer s H vs Q E hr h=>?_)
 ·obtain⟨tk,tx,dp,da,made,pend,ans,i,w,rfl,_⟩:=h;rfl
 ·obtain⟨tk,tx,dp,da,made,pend,ans,i,w,rfl,R,hi,hl,q⟩:=h;have hu:=oF hr;refine⟨_,(aC (bQ (bL (pv 0) T.bD T.qE (oM T) (hr.mono (by omega)) T.r8 .nil pass0 (aD (pv 1) aB)))
   (aI (mL hu (aN T.bD T.gH (pv 0)) (pv 1) (pv 2)))),?_⟩
  and_intros
  wp_walk using R.ins;refine⟨tk,tx,dp,da,made,pend,ans,i,rfl,R,hi,fun H1 R1 K1=>?_⟩;wp_walk using R1.ins,R1.ha,AH (wv w) (JJ fun p hp z=>R.dis p hp (z▸hi));have n1:=R.n1;refine⟨by simp only[kO,List.length_map];omega,q _ ⟨by rw[aG n1.2];exact R1.ins,by rw[aG R.nda];exact R1.hp,by rw[aA];simp[kO],R.nda,R1.lt,R1.asc,fun p hp=>?_,fun p hp z=>?_,R.small⟩ ?_⟩
  ·rcases List.mem_append.mp hp with hp|hp
   ·exact R.la p hp
   ·rw[show p=(i,w) by simpa using hp];exact R.lt i hi
  ·rcases List.mem_append.mp hp with hp|hp
   ·exact R1.dis p hp z
   ·rw[show p=(i,w) by simpa using hp] at z;simpa using(List.mem_filter.mp z).2
  ·intro b o eb nb;simp only[List.mem_cons,List.not_mem_nil,or_false,not_or] at nb;rw[aG nb.2];exact K1.at1 eb nb.1
theorem Ao{t:Ad}(T:Tx w K mg t):bG P w K mg base Zt 15 t.lV t.l7 ["self","ticket","worth"] (O9 ⟨t.aV,t.aW,t.aJ⟩ true):=by
 refine T.CW.ok AS (fun vs H Q E h=>?_) (fun Zs A outer s H vs Q E hr h=>?_)
 ·obtain⟨R,as,sl,S,i,w,N,rfl,_⟩:=h;rfl
 ·obtain⟨R,as,sl,S,i,w,N,rfl,A,F,hN,hw,hi,hn,q⟩:=h;refine⟨_,(aC (bQ (bL (aN T.aX T.cJ (pv 0)) T.bD T.wZ (uZ T) (hr.mono (by omega)) T.yF .nil pass0 (aD (pv 1) (aD (pv 2) aB))))
   (aC (bI (PW.pt (Gh (aT cX (aZ bJ (aN T.aX T.dF (pv 0)) aE (fun _ _=>rfl)) aR (nomark _)) (Dl (aT Gc (pv 1) (aZ bJ (aN T.aX T.dF (pv 0)) aE (fun _ _=>rfl)) (by with_unfolding_all rfl))))) (aI (aO (bL (pv 0) T.aX T.Cb (Ap T) (hr.mono (by omega)) T.DG .nil pass0 (aD (pv 1) aB)))) bA)
   (aI (aO (bX aB))))),?_⟩
  and_intros
  refine aF fun R1 Zm=>?_;wp_walk using A.ins,A.tk.ins;refine⟨R.tk,R.tx,R.dp,R.da,_,_,_,i,w,rfl,A.tk,hi,by have:=F.an;omega,fun H1 T1 K1=>?_⟩;have K2:Kp [R.tk,R.dp,R.da] H H1:=K1.mono (by simp;try omega)
  have A1:aY ⟨t.aV,t.aW,t.aJ⟩ H1 R as sl (S.done i w):=A.tick T1 K2;have F1:=A.D5 T1 K2;have FD:=F.done (i:=i) hw;have wi:eZ (some i):=cM (by have:=(A.tk.lt i hi).1;omega) (by have:=(A.tk.lt i hi).2;have:=F.md;omega);wp_walk;refine Zm _ _ ?_;clear Zm;clear R1;refine aF fun R2 Zn=>?_;cases es:S.sl with
  | Zj=>rw[es] at hn;cases hn
  | wait ts =>
   have ZA:=A1.slp;rw[show(S.done i w).sl=S.sl from rfl,es] at ZA;obtain⟨p,p2,rfl,ep,ep2⟩:=ZA;simp only[Pu.gZ,es] at q;wp_walk using A1.ins,ep,ep2,Ou,Iw;refine⟨rfl,?_⟩;by_cases ht:i∈ts
   ·rw[if_pos ht] at q;wp_walk using ht,decide_true,A1.ins;exact⟨R,as,.ref p,_,some i,N+1,rfl,A1,FD,by omega,wi,.inr ⟨ts,es⟩,fun sl3 c us H3 A3 hc ec hC F3=>q sl3 c us H3 A3 (F1.free hc) ec hC (F1.trans F3)⟩
   ·rw[if_neg ht] at q;wp_walk using ht,decide_false;refine Zn _ _ ?_;wp_walk;refine fun c hc=>?_;have N4:=q0D (o:=.lst []) hc;exact q _ c [] _ (A1.kp N4) (F1.free hc) aA .nil (F1.trans (Fw.of N4))
  | new =>
   have ZA:=A1.slp;rw[show(S.done i w).sl=S.sl from rfl,es] at ZA;obtain⟨p,rfl,ep⟩:=ZA;simp only[Pu.gZ,es] at q;wp_walk using A1.ins,ep;refine Zn _ _ ?_;wp_walk;refine fun c hc=>?_;have N4:=q0D (o:=.lst []) hc;exact q _ c [] _ (A1.kp N4) (F1.free hc) aA .nil (F1.trans (Fw.of N4))
  | Zp k =>
   have ZA:=A1.slp;rw[show(S.done i w).sl=S.sl from rfl,es] at ZA;obtain⟨p,rfl,ep⟩:=ZA;simp only[Pu.gZ,es] at q;wp_walk using A1.ins,ep;refine Zn _ _ ?_;wp_walk;refine fun c hc=>?_;have N4:=q0D (o:=.lst []) hc;exact q _ c [] _ (A1.kp N4) (F1.free hc) aA .nil (F1.trans (Fw.of N4))
  | ended u =>
   have ZA:=A1.slp;rw[show(S.done i w).sl=S.sl from rfl,es] at ZA;obtain⟨p,rfl,ep⟩:=ZA;simp only[Pu.gZ,es] at q;wp_walk using A1.ins,ep;refine Zn _ _ ?_;wp_walk;refine fun c hc=>?_;have N4:=q0D (o:=.lst []) hc;exact q _ c [] _ (A1.kp N4) (F1.free hc) aA .nil (F1.trans (Fw.of N4))
  | worn =>
   have ZA:=A1.slp;rw[show(S.done i w).sl=S.sl from rfl,es] at ZA;obtain⟨p,rfl,ep⟩:=ZA;simp only[Pu.gZ,es] at q;wp_walk using A1.ins,ep;refine Zn _ _ ?_;wp_walk;refine fun c hc=>?_;have N4:=q0D (o:=.lst []) hc;exact q _ c [] _ (A1.kp N4) (F1.free hc) aA .nil (F1.trans (Fw.of N4))
theorem qY{t:Ad}(T:Tx w K mg t):bG P w K mg base Zt 16 t.xY t.yT ["self","happening"] (Pa ⟨t.aV,t.aW,t.aJ⟩ true):=by
 refine T.Li.ok Gm (fun vs H Q E h=>?_) (fun Zs A outer s H vs Q E hr h=>?_)
 ·obtain⟨R,as,sl,S,v,h,N,rfl,_⟩:=h;rfl
 ·obtain⟨R,as,sl,S,v,h,N,rfl,A,F,hN,hn,hH,ok,q⟩:=h;refine⟨_,(aC (bI (Dk (bL (pv 0) T.aX T.wX (uX T) (hr.mono (by omega)) T.yC .nil pass0 (aD (pv 1) aB))) (aI (aO (bX aB))) bA)
   (aC (dC T.aX T.sQ (pv 0) (cY (tY rfl) rfl T.ML Fd (aD (aN T.aX T.sQ (pv 0)) (aD (aZ bJ (pv 1) aE (fun _ _=>rfl)) aB))))
   (aC (bI (aT cX (aZ bJ (pv 1) aE (fun _ _=>rfl)) aR (nomark _)) (aC (dC T.aX T.Cc (pv 0) (aZ bJ (pv 1) aE (fun _ _=>rfl)))
   (aI (aO (cC (pv 0) T.aX T.Ca (Am T) (hr.mono (by omega)) T.DE .nil pass0)))) bA)
   (aC (bI (aT cX (aZ bJ (pv 1) aE (fun _ _=>rfl)) aR (nomark _)) (aI (aO (bL (pv 0) T.aX T.BE (Ao T) (hr.mono (by omega)) T.CG .nil pass0 (aD (aZ bJ (pv 1) aE (fun _ _=>rfl)) (aD (aZ bJ (pv 1) aE (fun _ _=>rfl)) aB))))) bA)
   (aI (aO (bL (pv 0) T.aX T.wY (uY T) (hr.mono (by omega)) T.yE .nil pass0 (aD (aZ bJ (pv 1) aE (fun _ _=>rfl)) (aD (aZ bJ (pv 1) aE (fun _ _=>rfl)) aB))))))))),?_⟩
  and_intros
  refine aF fun R1 Zm=>?_;wp_walk using A.ins;refine⟨R,as,sl,S,v,h,rfl,A,hn,hH,fun H1 K1=>?_⟩;have A1:=A.kp K1;obtain⟨a,rfl,eh⟩:=hH;have eh1:=K1.at eh;cases ho:S.over h with
  | true =>
   simp only[Pu.take,ho,if_true] at q;wp_walk;have F1:=Fw.of (R:=R) (as:=as) K1;refine fun c hc=>?_;have N4:=q0D (o:=.lst []) hc;exact q as _ c [] _ (A1.kp N4) (F1.free hc) (A1.dH hc).2 aA .nil (F1.trans (Fw.of N4))
  | false =>
   simp only[Pu.take,ho,if_false,Bool.false_eq_true] at q;wp_walk;refine Zm _ _ ?_;clear Zm;clear R1;cases h with
   | beg m w =>
    simp only[Hap.vs,Hap.ini,Hap.w,List.cons_append,List.nil_append] at eh1;refine aF fun R2 Zn=>?_;wp_walk using A1.ins,eh1;have F1:=Fw.of (R:=R) (as:=as) K1;have A2:=A1.attr sl S.sl S.ar (later S.nw m) A1.slp;have F2s:=Fw.set (R:=R) (as:=as) (H:=H1) (p:=R.x) (o:=(.ins t.aV R.dx [("walk",.ref R.wk),("sleep",sl),("arg",wv S.ar),("now",.int (later S.nw m)),("names",.ref R.nm),("tickets",.ref R.tk),("letters",.ref R.lt)])) (.inl (by simp[Rn.cells]));have eh2:=A1.tkp F2s _ _ eh1;have F2:=F1.trans F2s;clear F2s;change R2 _ (Zh H1 R.x (.ins t.aV R.dx [("walk",.ref R.wk),("sleep",sl),("arg",wv S.ar),("now",.int (later S.nw m)),("names",.ref R.nm),("tickets",.ref R.tk),("letters",.ref R.lt)]));generalize Zh H1 R.x (.ins t.aV R.dx [("walk",.ref R.wk),("sleep",sl),("arg",wv S.ar),("now",.int (later S.nw m)),("names",.ref R.nm),("tickets",.ref R.tk),("letters",.ref R.lt)])=G2 at *;refine Zn _ _ ?_;clear Zn;clear R2;wp_walk using A2.ins,eh2;have A3:=A2.attr sl S.sl w (later S.nw m) A2.slp;have F3:=F2.trans (Fw.set (p:=R.x) (o:=(.ins t.aV R.dx [("walk",.ref R.wk),("sleep",sl),("arg",wv w),("now",.int (later S.nw m)),("names",.ref R.nm),("tickets",.ref R.tk),("letters",.ref R.lt)])) (.inl (by simp[Rn.cells])));generalize Zh G2 R.x (.ins t.aV R.dx [("walk",.ref R.wk),("sleep",sl),("arg",wv w),("now",.int (later S.nw m)),("names",.ref R.nm),("tickets",.ref R.tk),("letters",.ref R.lt)])=G3 at *;wp_walk using A3.ins;have FF:Zv true ({S with nw:=later S.nw m,ar:=w,sl:=.Zj}:Pu) N:={F with pl:=⟨F.pl.nm,ok.2,F.pl.an⟩,nw:=(F.at' ok.1).nw,sl:=⟨fun k e=>(by cases e),fun k e=>(by cases e)⟩};exact⟨R,as,sl,_,N,rfl,A3,FF,by omega,fun sl3 c us H3 A4 hc ec hC F4=>q as sl3 c us H3 A4 (F3.free hc) (A.dH (F3.free hc)).2 ec hC (F3.trans F4)⟩
   | don m i w =>
    simp only[Hap.vs,Hap.ini,Hap.w,List.cons_append,List.nil_append] at eh1;have hi:i∈S.pend:=by
     cases es:S.sl<;>simp only[Pu.over,es,Bool.not_eq_false',decide_eq_true_eq] at ho
     all_goals first|exact ho|cases ho
    refine aF fun R2 Zn=>?_;wp_walk using A1.ins,eh1;have F1:=Fw.of (R:=R) (as:=as) K1;have A2:=A1.attr sl S.sl S.ar (later S.nw m) A1.slp;have F2s:=Fw.set (R:=R) (as:=as) (H:=H1) (p:=R.x) (o:=(.ins t.aV R.dx [("walk",.ref R.wk),("sleep",sl),("arg",wv S.ar),("now",.int (later S.nw m)),("names",.ref R.nm),("tickets",.ref R.tk),("letters",.ref R.lt)])) (.inl (by simp[Rn.cells]));have eh2:=A1.tkp F2s _ _ eh1;have F2:=F1.trans F2s;clear F2s;change R2 _ (Zh H1 R.x (.ins t.aV R.dx [("walk",.ref R.wk),("sleep",sl),("arg",wv S.ar),("now",.int (later S.nw m)),("names",.ref R.nm),("tickets",.ref R.tk),("letters",.ref R.lt)]));generalize Zh H1 R.x (.ins t.aV R.dx [("walk",.ref R.wk),("sleep",sl),("arg",wv S.ar),("now",.int (later S.nw m)),("names",.ref R.nm),("tickets",.ref R.tk),("letters",.ref R.lt)])=G2 at *;refine Zn _ _ ?_;clear Zn;clear R2;wp_walk using A2.ins,eh2;exact⟨R,as,sl,S.at' m,i,w,N,rfl,A2,F.at' ok.1,by omega,ok.2,hi,hn,fun sl3 c us H3 A4 hc ec hC F4=>q as sl3 c us H3 A4 (F2.free hc) (A.dH (F2.free hc)).2 ec hC (F2.trans F4)⟩
   | ltr m k w =>
    simp only[Hap.vs,Hap.ini,Hap.w,List.cons_append,List.nil_append] at eh1;have hs:(∃ k,S.sl=.Zp k)\/∃ ts,S.sl=.wait ts:=by
     cases es:S.sl with
     | Zp k=>exact .inl ⟨k,rfl⟩
     | wait ts=>exact .inr ⟨ts,rfl⟩
     | Zj=>rw[es] at hn;cases hn
     | _=>simp only[Pu.over,es] at ho;cases ho
    refine aF fun R2 Zn=>?_;wp_walk using A1.ins,eh1;have F1:=Fw.of (R:=R) (as:=as) K1;have A2:=A1.attr sl S.sl S.ar (later S.nw m) A1.slp;have F2s:=Fw.set (R:=R) (as:=as) (H:=H1) (p:=R.x) (o:=(.ins t.aV R.dx [("walk",.ref R.wk),("sleep",sl),("arg",wv S.ar),("now",.int (later S.nw m)),("names",.ref R.nm),("tickets",.ref R.tk),("letters",.ref R.lt)])) (.inl (by simp[Rn.cells]));have eh2:=A1.tkp F2s _ _ eh1;have F2:=F1.trans F2s;clear F2s;change R2 _ (Zh H1 R.x (.ins t.aV R.dx [("walk",.ref R.wk),("sleep",sl),("arg",wv S.ar),("now",.int (later S.nw m)),("names",.ref R.nm),("tickets",.ref R.tk),("letters",.ref R.lt)]));generalize Zh H1 R.x (.ins t.aV R.dx [("walk",.ref R.wk),("sleep",sl),("arg",wv S.ar),("now",.int (later S.nw m)),("names",.ref R.nm),("tickets",.ref R.tk),("letters",.ref R.lt)])=G2 at *;refine Zn _ _ ?_;clear Zn;clear R2;wp_walk using A2.ins,eh2;exact⟨R,as,sl,S.at' m,k,w,N,rfl,A2,F.at' ok.1,by omega,ok.2,hs,fun ZC sl3 c us H3 A4 hc nc ec hC F4=>q ZC sl3 c us H3 A4 (F2.free hc) nc ec hC (F2.trans F4)⟩
theorem kU{t:Ad}(T:Tx w K mg t):bG P w K mg base Zt 18 t.tV t.uF ["program","happenings"] (HH ⟨t.aV,t.aW,t.aJ⟩):=by
 refine T.lM.ok pA (fun vs H Q E h=>?_) (fun Zs A outer s H vs Q E hr h=>?_)
 ·obtain⟨pg,hl,us,hv,b,hs,rfl,_⟩:=h;rfl
 ·obtain⟨pg,hl,us,hv,b,hs,rfl,ep,hsP,gb,db,eh,hH,sI,l1,q⟩:=h;refine⟨_,(aC (bB (i:=2) pA.nd rfl (Or.inr rfl) (Di T.Hu (An T) (hr.mono (by omega)) rfl T.WS T.DF .nil pass0 (aD (pv 0) aB)))
   (aC (kG (i:=3) (fr:=[2]) (N:=["happening","run"]) rfl (fun _ _ h=>h) (dW.free rfl rfl rfl rfl rfl (fun _ _ h=>h) rfl (by decide) rfl (fun j hj=>by rw[show j=2 by simpa using hj];exact⟨_,rfl,rfl,.inl rfl⟩)) (jI (pv 1)) (fun C s H ex pn=>⟨tG,(bL (pv 1) T.aX T.uO (qY T) (hr.mono (by omega)) T.yD .nil pass0 (aD (pv 0) aB))⟩) pA.nd rfl (Or.inl rfl))
   (aI (aO (bC (aD (pv 2) (aD (pv 3) aB))))))),?_⟩
  and_intros
  refine aF fun R1 Zm=>?_;have lu:=hsP.len;wp_walk using ep;refine LI ep hsP fun R sl G0 RA K0 NR=>?_;have eh0:=K0.at eh;have hH0:=hH.kt (aL.nil K0);have lh:=hH.len;have ehH:=eh;clear lu ep hsP eh hH;refine Zm _ _ ?_;clear Zm;clear R1;refine aF fun R2 Zn=>?_;wp_walk using eh0;refine⟨⟨_,dQ.of eh0⟩,?_⟩;obtain⟨Pv,Zq⟩:∃ Pv:Nat->List V->Hp->Prop,∀ i xs G,Pv i xs G = ∃(as:List Addr) (sl:V) (rs:List Addr),xs=rs.map V.ref/\aY ⟨t.aV,t.aW,t.aJ⟩ G R as sl (takes (dS b) (hs.take i)).1/\Zv true (takes (dS b) (hs.take i)).1 (302 * i)/\(takes (dS b) (hs.take i)).1.sl.isN=false/\eU G rs (takes (dS b) (hs.take i)).2/\rs.Nodup/\rs.length<=i/\(∀ a∈rs,a∉R.cells/\a∉as/\H a=none)/\(∀ a,a∈R.cells\/a∈as->H a=none)/\Kp [] H G/\G hl=some (.lst hv)/\bM G hv hs:=⟨_,fun _ _ _=>rfl⟩;have NR0:∀ a,a∈R.cells\/a∈([]:List Addr)->H a=none:=fun a ha=>by
   rcases ha with ha|ha
   ·exact NR a ha
   ·simp at ha
  refine pN (ys:=hv) Pv ?_ ?_ ?_ ?_ ?_
  ·rw[Zq];exact⟨[],sl,[],rfl,RA,Hi gb db,rfl,.nil,.nil,Nat.le_refl _,by simp,NR0,K0,eh0,hH0⟩
  ·intro i xs G h;rw[Zq] at h;obtain⟨_,_,rs,rfl,_,_,_,hr,_,hl,_⟩:=h;rw[List.length_map,hr.len,dD,List.length_take];omega
  ·intro i xs G h;rw[Zq] at h;obtain⟨_,_,_,_,_,_,_,_,_,_,_,_,_,e,_⟩:=h;exact dQ.of e
  ·intro i y xs G hi ey h;rw[Zq] at h;obtain⟨as,sl,rs,rfl,RA,FA,hN,hr,nd,lr,hf,hR,KG,eG,hG⟩:=h;obtain⟨x,ex,hx⟩:=hG.iM ey;have es:takes (dS b) (hs.take (i+1))=(((takes (dS b) (hs.take i)).1.take x).1,(takes (dS b) (hs.take i)).2++[((takes (dS b) (hs.take i)).1.take x).2]):=by rw[List.take_add_one,ex,Option.toList_some,mU]
   have fx:=sI x (List.mem_of_getElem? ex);generalize takes (dS b) (hs.take i)=Z at *;obtain⟨S,Zr⟩:=Z;have il:i < hs.length:=(List.getElem?_eq_some_iff.mp ex).1;wp_walk using bE,Option.join_some,RA.ins;refine⟨R,as,_,S,y,x,302 * i,rfl,RA,FA,by omega,hN,hx,fx,fun ZC ZU c uc G2 A2 hc nc ec hC F2=>?_⟩;have T2:=RA.tkp F2;have FA2:=FA.Dz x fx.1 fx.2 (fun j hj=>by
    have:=RA.tk.lt j hj;have:=FA.md;exact cM (by omega) (by simp only at *;omega)) (by omega)
   have hcH:=KG.fM hc;have ncf:=RA.dH hc;show Pv (i+1) _ _;rw[Zq,es];refine⟨ZC,ZU,rs++[c],by simp,A2,FA2.more (by omega),Bh hN x,(hr.keep (fun a ha o e=>F2.kp a o e (hf a ha).1 (hf a ha).2.1) T2).snoc ec hC,?_,by simp;omega,fun a ha=>?_,fun a ha=>?_,F2.LB KG hR,F2.kp _ _ eG ?_ ?_,hG.kt T2⟩
   ·rw[List.nodup_append];refine⟨nd,by simp,fun a ha y hy=>?_⟩;rw[show y=c by simpa using hy];intro z;obtain⟨o,e⟩:=hr.there a ha;rw[z,hc] at e;cases e
   ·rcases List.mem_append.mp ha with ha|ha
    ·refine⟨(hf a ha).1,fun z=>?_,(hf a ha).2.2⟩;rcases F2.new a z with y|y
     ·exact(hf a ha).2.1 y
     ·obtain⟨o,e⟩:=hr.there a ha;rw[y] at e;cases e
    ·rw[show a=c by simpa using ha];exact⟨ncf.1,nc,hcH⟩
   ·rcases ha with ha|ha
    ·exact hR a (.inl ha)
    ·rcases F2.new a ha with z|z
     ·exact hR a (.inr z)
     ·exact KG.fM z
   ·exact fun z=>by rw[hR hl (.inl z)] at ehH;cases ehH
   ·exact fun z=>by rw[hR hl (.inr z)] at ehH;cases ehH
  intro xs G h cl hcl;rw[Zq] at h;obtain⟨as,sl,rs,rfl,RA,FA,hN,hr,nd,lr,hf,hR,KG,eG,hG⟩:=h;rw[lh,List.take_length] at RA FA hN hr;clear Zq;have ncl:=RA.dH hcl;have aaZ:=KG.fM hcl;have N1:=q0D (o:=.lst (rs.map V.ref)) hcl;have ecl:Zh G cl (.lst (rs.map V.ref)) cl=some (.lst (rs.map V.ref)):=aA;have hrc:∀ a∈rs,a≠cl:=fun a ha z=>by
   obtain⟨o,e⟩:=hr.there a ha;rw[z,hcl] at e;cases e
  replace hr:=hr.keep (fun a _ o e=>N1.at e) (aL.nil N1);replace RA:=RA.kp N1;replace KG:=KG.trans N1;generalize Zh G cl (.lst (rs.map V.ref))=G2 at *;clear N1 hcl eG hG;refine Zn _ _ ?_;clear Zn;clear R2;wp_walk;intro t0 ht;have N2:=q0D (o:=.tup [.ref R.x,.ref cl]) ht;exact q t0 R as sl cl rs _ aA (RA.kp N2) FA hN (N2.at ecl) (hr.keep (fun a _ o e=>N2.at e) (aL.nil N2)) nd (fun a ha=>⟨(hf a ha).1,(hf a ha).2.1,(hf a ha).2.2,hrc a ha⟩) ncl hR aaZ (KG.trans N2)
theorem I8{t:Ad}(T:Tx w K mg t):bG P w K mg base Zt 20 t.CD t.CT ["one","other","happenings"] YQ:=by
 refine T.Hk.ok Jp (fun vs H Q E h=>?_) (fun Zs A outer s H vs Q E hr h=>?_)
 ·obtain⟨p1,p2,hl,Z1,Z0,hv,b1,b2,hs,rfl,_⟩:=h;rfl
 ·obtain⟨p1,p2,hl,Z1,Z0,hv,b1,b2,hs,rfl,W,q1,q2⟩:=h;refine⟨_,(aI (aO (aP (gW T) (hr.mono (by omega)) rfl T.iG T.fF.kp T.iE .nil pass0 (aD (aZ bJ (aP (kU T) (hr.mono (by omega)) rfl T.pP T.lM.kp T.pG .nil pass0 (aD (pv 0) (aD (pv 2) aB))) aE (fun _ _=>rfl)) (aD (aZ bJ (aP (kU T) (hr.mono (by omega)) rfl T.pP T.lM.kp T.pG .nil pass0 (aD (pv 1) (aD (pv 2) aB))) aE (fun _ _=>rfl)) aB))))),?_⟩
  and_intros
  wp_walk;have wl:=W.len;refine⟨p1,hl,Z1,hv,b1,hs,rfl,W.e1,W.s1,W.g1,W.d1,W.eh,W.hH,W.sI,by omega,fun t1 R1 ZO Z6 cl1 rs1 G1 et1 A1 F1 hN1 e1 hr1 nd1 hf1 nc1 NR1 fc1 K1=>?_⟩;have w1:=kZ.of hr1;replace W:=W.kp K1;wp_walk using et1;refine⟨p2,hl,Z0,hv,b2,hs,rfl,W.e2,W.s2,W.g2,W.d2,W.eh,W.hH,W.sI,by omega,fun t2 R2 ZI ZU cl2 ZQ G2 et2 A2 F2 hN2 e2 hr2 nd2 hf2 nc2 NR2 fc2 K2=>?_⟩;have w2:=kZ.of hr2;wp_walk using et2;refine⟨cl1,cl2,rs1,ZQ,_,_,rfl,K2.at e1,e2,w1.kp K2,w2,by rw[dD,dD],by rw[dD];omega,jS _ _,jS _ _,fun e H' k=>q1 e _ ((K1.trans K2).trans k),fun n x y e _ _ p H' hp ep k=>q2 n e p _ _ H' ((K1.trans K2).fM hp) ep ((K1.trans K2).trans k)⟩
theorem sV{t:Ad}(T:Tx w K mg t):bG P w K mg base Zt 1 t.qK t.qQ ["script","k"] (Uo K):=by
 refine T.qR.ok Dt (fun vs H Q E h=>?_) (fun Zs A outer s H vs Q E hr h=>?_)
 ·obtain⟨a,ns,k,rfl,_⟩:=h;rfl
 ·obtain⟨a,ns,k,rfl,hS,hk,q⟩:=h;refine⟨_,(aC (bI (aT kX (pv 1) (cY H0 rfl T.DA qM (aD (pv 0) aB)) (nomark _)) (aI (aO (aZ Hs (pv 0) (pv 1) (fun _ _=>rfl)))) bA)
   (aI (aO aE))),?_⟩
  and_intros
  wp_walk;refine⟨_,hS,?_⟩;split
  ·next h =>
   rw[List.length_map] at h;have hj:k.toNat < ns.length:=by omega
   have ek:k=((k.toNat:Nat):Int):=by omega
   have e:iM (ns.map V.int) ((k.toNat:Nat):Int)=some (.int ns[k.toNat]):=pF (by rw[List.getElem?_map,List.getElem?_eq_getElem hj];rfl);rw[<- ek] at e;exact⟨a,_,k,_,rfl,rfl,hS,e,q _⟩
  ·exact q 0
theorem qG{t:Ad}(T:Tx w K mg t):bG P w K mg base Zt 18 t.nP t.oA ["program","happenings"] (HH ⟨t.aV,t.aW,t.aJ⟩):=by
 refine T.oE.ok iC (fun vs H Q E h=>?_) (fun Zs A outer s H vs Q E hr h=>?_)
 ·obtain⟨pg,hl,us,hv,b,hs,rfl,_⟩:=h;rfl
 ·obtain⟨pg,hl,us,hv,b,hs,rfl,ep,hsP,gb,db,eh,hH,sI,l1,q⟩:=h;refine⟨_,(aC (bB (i:=2) iC.nd rfl (Or.inl rfl) (Di T.Hu (An T) (hr.mono (by omega)) rfl T.WS T.DF .nil pass0 (aD (pv 0) aB)))
   (aC (bB (i:=3) iC.nd rfl (Or.inl rfl) (bX aB))
   (aC (AF PassesOwn.never rfl (jI (pv 1)) (mK (i:=4) iC.nd rfl (Or.inl rfl)) (aI (bQ (mJ (pv 3) (bL (pv 2) T.aX T.uO (qY T) (hr.mono (by omega)) T.yD .nil pass0 (aD (pv 4) aB))))))
   (aI (aO (bC (aD (pv 2) (aD (pv 3) aB)))))))),?_⟩
  and_intros
  refine aF fun R1 Zm=>?_;have lu:=hsP.len;wp_walk using ep;refine LI ep hsP fun R sl G0 RA K0 NR=>?_;have eh0:=K0.at eh;have hH0:=hH.kt (aL.nil K0);have lh:=hH.len;have ehH:=eh;clear lu ep hsP eh hH;refine Zm _ _ ?_;clear Zm;clear R1;refine aF fun R2 Zn=>?_;wp_walk;refine fun cl aa5=>?_;have N0:=q0D (o:=.lst []) aa5;have ecl:Zh G0 cl (.lst []) cl=some (.lst []):=aA;have ncl:cl∉R.cells/\cl∉([]:List Addr):=RA.dH aa5;have aaZ:=K0.fM aa5;replace RA:=RA.kp N0;replace K0:=K0.trans N0;replace eh0:=N0.at eh0;replace hH0:=hH0.kt (aL.nil N0);generalize Zh G0 cl (.lst [])=G1 at *;have nhc:hl≠cl:=aK ehH aaZ;clear N0 aa5;refine Zn _ _ ?_;clear Zn;clear R2;refine aF fun R3 Zw=>?_;wp_walk using eh0;refine⟨⟨_,dQ.of eh0⟩,?_⟩;obtain⟨Pv,Zq⟩:∃ Pv:Nat->St->Hp->Prop,∀ i σ G,Pv i σ G = ∃(v4:Option V) (as:List Addr) (sl:V) (rs:List Addr),σ=[some (.ref pg),some (.ref hl),some (.ref R.x),some (.ref cl),v4]/\aY ⟨t.aV,t.aW,t.aJ⟩ G R as sl (takes (dS b) (hs.take i)).1/\Zv true (takes (dS b) (hs.take i)).1 (302 * i)/\(takes (dS b) (hs.take i)).1.sl.isN=false/\eU G rs (takes (dS b) (hs.take i)).2/\rs.Nodup/\G cl=some (.lst (rs.map V.ref))/\(∀ a∈rs,a∉R.cells/\a∉as/\H a=none/\a≠cl)/\(cl∉R.cells/\cl∉as)/\(∀ a,a∈R.cells\/a∈as->H a=none)/\Kp [] H G/\G hl=some (.lst hv)/\bM G hv hs:=⟨_,fun _ _ _=>rfl⟩;have NR0:∀ a,a∈R.cells\/a∈([]:List Addr)->H a=none:=fun a ha=>by
   rcases ha with ha|ha
   ·exact NR a ha
   ·simp at ha
  refine zO (xs:=hv) Pv ?_ ?_ ?_ ?_
  ·rw[Zq];exact⟨_,[],sl,[],rfl,RA,Hi gb db,rfl,.nil,.nil,ecl,by simp,ncl,NR0,K0,eh0,hH0⟩
  ·intro i σ G _ h;rw[Zq] at h;obtain⟨_,_,_,_,_,_,_,_,_,_,_,_,_,_,_,e,_⟩:=h;exact dQ.of e
  ·clear RA ecl ncl NR0 K0 eh0 hH0;intro i y σ G ey h;rw[Zq] at h;obtain⟨v4,as,sl,rs,rfl,RA,FA,hN,hr,nd,ecl,hf,ncl,hR,KG,eG,hG⟩:=h;obtain⟨x,ex,hx⟩:=hG.iM ey;have es:takes (dS b) (hs.take (i+1))=(((takes (dS b) (hs.take i)).1.take x).1,(takes (dS b) (hs.take i)).2++[((takes (dS b) (hs.take i)).1.take x).2]):=by rw[List.take_add_one,ex,Option.toList_some,mU]
   have fx:=sI x (List.mem_of_getElem? ex);have lr:=hr.len;rw[dD,List.length_take] at lr;generalize takes (dS b) (hs.take i)=Z at *;obtain⟨S,Zr⟩:=Z;have il:i < hs.length:=(List.getElem?_eq_some_iff.mp ex).1;wp_walk using ecl,RA.ins;refine⟨R,as,_,S,y,x,302 * i,rfl,RA,FA,by omega,hN,hx,fx,fun ZC ZU c uc G2 A2 hc nc ec hC F2=>?_⟩;have T2:=RA.tkp F2;have FA2:=FA.Dz x fx.1 fx.2 (fun j hj=>by
    have:=RA.tk.lt j hj;have:=FA.md;exact cM (by omega) (by simp only at *;omega)) (by omega)
   have hcH:=KG.fM hc;have ncf:=RA.dH hc;have ncc:c≠cl:=(aK ecl hc).symm;have abB:=F2.kp _ _ ecl ncl.1 ncl.2;have abL:cl∉R.cells/\cl∉ZC:=⟨ncl.1,fun z=>by
    rcases F2.new cl z with y|y
    ·exact ncl.2 y
    ·rw[ecl] at y;cases y⟩
   wp_walk using abB;refine⟨by rw[List.length_map];omega,?_⟩;have t3:aL G2 (Zh G2 cl (.lst (rs.map V.ref++[.ref c]))):=aL.A7 abB (by intro _ z;cases z);have k3:∀ a o,a≠cl->G2 a=some o->Zh G2 cl (.lst (rs.map V.ref++[.ref c])) a=some o:=fun a o n e=>by rw[aG n];exact e
   rw[Zq,es];refine⟨_,ZC,ZU,rs++[c],rfl,A2.other abB abL.1 abL.2,FA2.more (by omega),Bh hN x,((hr.keep (fun a ha o e=>F2.kp a o e (hf a ha).1 (hf a ha).2.1) T2).keep (fun a ha o e=>k3 a o (hf a ha).2.2.2 e) t3).snoc (k3 c _ ncc ec) (hC.kt t3),?_,by rw[aA];simp,fun a ha=>?_,abL,fun a ha=>?_,fun a o e n=>?_,?_,(hG.kt T2).kt t3⟩
   ·rw[List.nodup_append];refine⟨nd,by simp,fun a ha y hy=>?_⟩;rw[show y=c by simpa using hy];intro z;obtain⟨o,e⟩:=hr.there a ha;rw[z,hc] at e;cases e
   ·rcases List.mem_append.mp ha with ha|ha
    ·refine⟨(hf a ha).1,fun z=>?_,(hf a ha).2.2⟩;rcases F2.new a z with y|y
     ·exact(hf a ha).2.1 y
     ·obtain⟨o,e⟩:=hr.there a ha;rw[y] at e;cases e
    ·rw[show a=c by simpa using ha];exact⟨ncf.1,nc,hcH,ncc⟩
   ·rcases ha with ha|ha
    ·exact hR a (.inl ha)
    ·rcases F2.new a ha with z|z
     ·exact hR a (.inr z)
     ·exact KG.fM z
   ·exact k3 a o (aK e aaZ) ((F2.LB KG hR).at e)
   ·exact k3 hl _ nhc (F2.kp _ _ eG (fun z=>by rw[hR hl (.inl z)] at ehH;cases ehH) (fun z=>by rw[hR hl (.inr z)] at ehH;cases ehH))
  clear RA ecl ncl NR0 K0 eh0 hH0;intro σ G h;rw[Zq] at h;obtain⟨v4,as,sl,rs,rfl,RA,FA,hN,hr,nd,ecl,hf,ncl,hR,KG,eG,hG⟩:=h;rw[lh,List.take_length] at RA FA hN hr;clear Zq;refine Zw _ _ ?_;clear Zw;clear R3;wp_walk;intro t0 ht;have N2:=q0D (o:=.tup [.ref R.x,.ref cl]) ht;exact q t0 R as sl cl rs _ aA (RA.kp N2) FA hN (N2.at ecl) (hr.keep (fun a _ o e=>N2.at e) (aL.nil N2)) nd hf ncl hR aaZ (KG.trans N2)
theorem As{t:Ad}(T:Tx w K mg t):bG P w K mg base Zt 20 t.x8 t.yV ["old","new","happenings"] (Xl ⟨t.aV,t.aW,t.aJ⟩):=by
 refine T.zK.ok rJ (fun vs H Q E h=>?_) (fun Zs A outer s H vs Q E hr h=>?_)
 ·obtain⟨p1,p2,hl,Z1,Z0,hv,b1,b2,hs,rfl,_⟩:=h;rfl
 ·obtain⟨p1,p2,hl,Z1,Z0,hv,b1,b2,hs,rfl,W,q1,q2⟩:=h;refine⟨_,(aC (bB (i:=3) rJ.nd rfl (Or.inl rfl) (aP (kU T) (hr.mono (by omega)) rfl T.pP T.lM.kp T.pG .nil pass0 (aD (pv 1) (aD (pv 2) aB))))
   (aC (bB (i:=4) rJ.nd rfl (Or.inl rfl) (aP (gW T) (hr.mono (by omega)) rfl T.iG T.fF.kp T.iE .nil pass0 (aD (aZ bJ (aP (kU T) (hr.mono (by omega)) rfl T.pP T.lM.kp T.pG .nil pass0 (aD (pv 0) (aD (pv 2) aB))) aE (fun _ _=>rfl)) (aD (aZ bJ (pv 3) aE (fun _ _=>rfl)) aB))))
   (aI (aO (oR (aT qZ (pv 4) eJ (nomark _)) (bC (aD aR (aD (aZ bJ (pv 3) aE (fun _ _=>rfl)) aB))) (bW Hy (bC (aD aR aB)) (pv 4))))))),?_⟩
  and_intros
  refine aF fun R1 Zm=>?_;wp_walk;have wl:=W.len;refine⟨p2,hl,Z0,hv,b2,hs,rfl,W.e2,W.s2,W.g2,W.d2,W.eh,W.hH,W.sI,by omega,fun t2 R2 ZI ZU cl2 ZQ G2 et2 A2 F2 hN2 e2 hr2 nd2 hf2 nc2 NR2 fc2 K2=>?_⟩;have w2:=kZ.of hr2;have fn:=Fine.new F2 hN2 W.n2 W.ok;replace W:=W.kp K2;clear hr2 nd2 hf2 nc2 fc2 F2 hN2;wp_walk;refine Zm _ _ ?_;clear Zm;clear R1;refine aF fun R2 Zn=>?_;wp_walk;refine⟨p1,hl,Z1,hv,b1,hs,rfl,W.e1,W.s1,W.g1,W.d1,W.eh,W.hH,W.sI,by omega,fun t1 R1 ZO Z6 cl1 rs1 G1 et1 A1 F1 hN1 e1 hr1 nd1 hf1 nc1 NR1 fc1 K1=>?_⟩;have w1:=kZ.of hr1;replace w2:=w2.kp K1;replace et2:=K1.at et2;replace A2:=A2.kp K1;replace e2:=K1.at e2;wp_walk using et1,et2;refine⟨cl1,cl2,rs1,ZQ,_,_,rfl,e1,e2,w1,w2,by rw[dD,dD],by rw[dD];omega,jS _ _,jS _ _,fun e H' k=>?_,fun n x y e _ _ p H' hp ep k=>?_⟩
  ·replace et2:=k.at et2;refine Zn _ _ ?_;clear Zn;clear R2;wp_walk using et2;refine fun p hp=>?_;have N:=q0D (o:=.tup [.str "let",.ref R2.x]) hp;exact q1 e p R2 ZI ZU _ aA ((A2.kp k).kp N) fn NR2 (((K2.trans K1).trans k).trans N)
  ·skip;refine Zn _ _ ?_;clear Zn;clear R2;wp_walk using reduceCtorEq,if_false,ep;refine fun p6 h6=>?_;have N:=q0D (o:=.tup [.str "parts"]) h6;have ep6:=N.at ep;rw[ep6];refine⟨by simp only[List.length_cons,List.length_nil];rw[sizeLine_eq];omega,?_⟩;rw[if_neg (by simp),if_neg (by simp)];refine fun p7 h7=>?_;exact q2 n e p7 _ _ _ aA (((K2.trans K1).trans k).trans (N.trans (Kp.new h7)))
theorem Dg{t:Ad}(T:Tx w K mg t):bG P w K mg base Zt 1 t.qJ t.qP ["self"] (O6 t.aW):=by
 refine T.Fu.ok Ds (fun vs H Q E h=>?_) (fun Zs A outer s H vs Q E hr h=>?_)
 ·obtain⟨wk,wx,lb,ln,st,rfl,_⟩:=h;rfl
 ·obtain⟨wk,wx,lb,ln,st,rfl,W,q⟩:=h;refine⟨_,(aI (aO (dI fI rfl T.hX fD (aD (aN T.cP T.eT (pv 0)) aB)))),?_⟩
  and_intros
  wp_walk using W.ins,W.nu;exact q
theorem pX{t:Ad}(T:Tx w K mg t):bG P w K mg base Zt 1 t.gO t.gQ ["self"] (Ju t.aJ):=by
 refine T.sH.ok pY (fun vs H Q E h=>?_) (fun Zs A outer s H vs Q E hr h=>?_)
 ·obtain⟨tk,tx,dp,da,made,pend,ans,rfl,_⟩:=h;rfl
 ·obtain⟨tk,tx,dp,da,made,pend,ans,rfl,R,h64,q⟩:=h;refine⟨_,(aI (aO (cY (Fg rfl) rfl T.pU pH (aD (aN T.bD T.gJ (pv 0)) aB)))),?_⟩
  and_intros
  wp_walk using R.ins,R.hp,Jf;exact⟨R.asc,fun l Zu hl hp hs=>by rw[wH hp hs R.asc];exact q l hl⟩
theorem sS{t:Ad}(T:Tx w K mg t):bG P w K mg base Zt 2 t.iK t.iN ["self"] (O5 ⟨t.aV,t.aW,t.aJ⟩):=by
 refine T.wQ.ok tI (fun vs H Q E h=>?_) (fun Zs A outer s H vs Q E hr h=>?_)
 ·obtain⟨R,as,sl,S,rfl,_⟩:=h;rfl
 ·obtain⟨R,as,sl,S,rfl,A,h64,q⟩:=h;refine⟨_,(aI (aO (cC (aN T.aX T.cJ (pv 0)) T.bD T.qV (pX T) (hr.mono (by omega)) T.r9 .nil pass0))),?_⟩
  and_intros
  wp_walk using A.ins,A.tk.ins;exact⟨R.tk,R.tx,R.dp,R.da,_,_,_,rfl,A.tk,h64,q⟩
theorem wG{t:Ad}(T:Tx w K mg t):bG P w K mg base Zt 3 t.tS t.uA ["self"] (O8 ⟨t.aV,t.aW,t.aJ⟩):=by
 refine T.Ip.ok oY (fun vs H Q E h=>?_) (fun Zs A outer s H vs Q E hr h=>?_)
 ·obtain⟨R,as,sl,S,rfl,_⟩:=h;rfl
 ·obtain⟨R,as,sl,S,rfl,A,hn,b1,b2,b3,b4,b5,q⟩:=h;have hu:=oF hr;refine⟨_,(aC (bI (aT Cg (aZ bJ (aN T.aX T.dF (pv 0)) aE (fun _ _=>rfl)) (bC (aD aR (aD aR aB))) (by with_unfolding_all rfl)) (aI (aO (aN T.aX T.dF (pv 0)))) bA)
   (aC (kG (i:=1) (fr:=[0]) (N:=["name","self"]) rfl (fun _ _ h=>h) (dW.free rfl rfl rfl rfl rfl (fun _ _ h=>h) rfl (by decide) rfl (fun j hj=>by rw[show j=0 by simpa using hj];exact⟨_,rfl,rfl,.inl rfl⟩)) (jI (cY (yN rfl) rfl T.pU pH (aD (aN T.aX T.fZ (pv 0)) aB))) (fun C s H ex pn=>⟨tH (aT Cf (sY hu (aN T.aX T.fZ (pv 1)) (pv 0) (fun _ _=>rfl)) eJ (nomark _)),(bC (aD (pv 0) (aD (sY hu (aN T.aX T.fZ (pv 1)) (pv 0) (fun _ _=>rfl)) aB)))⟩) oY.nd rfl (Or.inl rfl))
   (aC (kG (i:=2) (fr:=[0]) (N:=["key","self"]) rfl (fun _ _ h=>h) (dW.free rfl rfl rfl rfl rfl (fun _ _ h=>h) rfl (by decide) rfl (fun j hj=>by rw[show j=0 by simpa using hj];exact⟨_,rfl,rfl,.inl rfl⟩)) (jI (cY (yN rfl) rfl T.pU pH (aD (aN T.aX T.gI (pv 0)) aB))) (fun C s H ex pn=>⟨tH (xQ (sY hu (aN T.aX T.gI (pv 1)) (pv 0) (fun _ _=>rfl)) (fun _=>rfl)),(bC (aD (pv 0) (aD (dI fI rfl T.hX fD (aD (sY hu (aN T.aX T.gI (pv 1)) (pv 0) (fun _ _=>rfl)) aB)) aB)))⟩) oY.nd rfl (Or.inl rfl))
   (aI (aO (bC (aD (aN T.aX T.dF (pv 0)) (aD (cC (aN T.aX T.kB (pv 0)) T.cP T.En (Dg T) (hr.mono (by omega)) T.Fc .nil pass0) (aD (aN T.aX T.Cc (pv 0)) (aD (aN T.aX T.sQ (pv 0)) (aD (dI fI rfl T.hX fD (aD (pv 1) aB)) (aD (aN T.bD T.uS (aN T.aX T.cJ (pv 0))) (aD (dI fI rfl T.hX fD (aD (cC (pv 0) T.aX T.uN (sS T) (hr.mono (by omega)) T.wJ .nil pass0) aB)) (aD (dI (Fh rfl) rfl T.hX fD (aD (L4 (aN T.bD T.gH (aN T.aX T.cJ (pv 0)))) aB)) (aD (dI fI rfl T.hX fD (aD (pv 2) aB)) aB))))))))))))))),?_⟩
  and_intros
  refine aF fun R1 Zm=>?_;obtain⟨ps,s0,r0,rfl,ep,hin⟩:=A.slp.word hn;refine t7 fun RI hRI=>?_;wp_walk using A.ins,ep;refine fun p1 m1=>⟨rfl,rfl,?_⟩;rw[hin];have N1:=q0D (o:=.tup [.str "wait",.str "hear"]) m1;replace A:=A.kp N1;generalize Zh H p1 (.tup [.str "wait",.str "hear"])=G1 at *;clear m1 ep hin;cases hg:S.sl.v8 with
  | false =>
   rw[if_pos (show(!false)=true from rfl)];refine hRI _ _ ?_;wp_walk using A.ins;exact q _ _ (by unfold tQ;rw[if_neg (by rw[hg];simp)];exact A.slp) N1
  | true =>
   rw[if_neg (by simp)];clear hRI RI;refine Zm _ _ ?_;clear Zm;clear R1;refine aF fun R2 Zn=>?_;wp_walk using A.ins,A.nm,HL;refine⟨by rw[List.length_map];exact b2,fun l ns hl hp hs=>?_⟩;have hks:∀ n∈ns,n∈S.nm.map (·.1):=fun n hn=>hp.mem_iff.mp hn;have lns:ns.length < 64:=by rw[hp.length_eq,List.length_map];exact b2
   have ens:=Mu hp hs;have N2:=q0D (o:=.lst (ns.map V.str)) hl;have el:Zh G1 l (.lst (ns.map V.str)) l=some (.lst (ns.map V.str)):=aA;replace A:=A.kp N2;replace N1:=N1.trans N2;generalize Zh G1 l (.lst (ns.map V.str))=G2 at *;clear hp hs hl N2;refine⟨⟨_,dQ.of el⟩,?_⟩;obtain⟨Pv,Zq⟩:∃ Pv:Nat->List V->Hp->Prop,∀ i xs G,Pv i xs G=(fN G xs (fW S.nm (ns.take i))/\Kp [] G2 G):=⟨_,fun _ _ _=>rfl⟩;refine pN (ys:=ns.map V.str) Pv ?_ ?_ ?_ ?_ ?_
   ·rw[Zq];exact⟨.nil,Kp.refl⟩
   ·intro i xs G h;rw[Zq] at h;rw[h.1.len];have h1:=uT S.nm (ns.take i);rw[List.length_take] at h1;omega
   ·intro i xs G h;rw[Zq] at h;exact dQ.of (h.2.at el)
   ·intro i y xs G hi ey h;rw[Zq] at h;obtain⟨hP,KG⟩:=h;obtain⟨n,en,rfl⟩:∃ n,ns[i]?=some n/\y=V.str n:=by
     rw[List.getElem?_map] at ey;obtain⟨n,a0,b0⟩:=Option.map_eq_some_iff.mp ey;exact⟨n,a0,b0.symm⟩
    have vn:=LM (hks n (List.mem_of_getElem? en));have AG:=A.kp KG;have es:fW S.nm (ns.take (i+1))=fW S.nm (ns.take i)++fW S.nm [n]:=by rw[List.take_add_one,en,Option.toList_some,Cd]
    wp_walk using bE,Option.join_some,AG.ins,AG.nm,vn;cases hw:kS S.nm n with
    | none =>
     rw[if_pos (show wv none=V.Zj from rfl),Zq,es];exact⟨by rw[show fW S.nm [n]=[] by simp[fW,hw],List.append_nil];exact hP,KG⟩
    | some z =>
     rw[if_neg (by simp[wv])];intro p hp;rw[Zq,es,show fW S.nm [n]=[(.str n,wv (some z))] by simp[fW,hw]];exact⟨(hP.kt (aL.new hp)).snoc aA,KG.trans (Kp.new hp)⟩
   intro un G h ln2 hln;rw[Zq] at h;obtain⟨hP,KG⟩:=h;rw[List.length_map,List.take_length,ens] at hP;replace hP:fN G un S.nmS:=hP;have lun:un.length<=64:=by
    rw[hP.len];have h1:=uT S.nm (srt (S.nm.map (·.1)));rw[<- ens] at h1;show(fW S.nm (srt (S.nm.map (·.1)))).length<=64;rw[<- ens];omega
   have N3:=q0D (o:=.lst un) hln;have eun:Zh G ln2 (.lst un) ln2=some (.lst un):=aA;replace hP:=hP.kt (aL.nil N3);replace A:=A.kp (KG.trans N3);replace N1:=N1.trans (KG.trans N3);generalize Zh G ln2 (.lst un)=G3 at *;clear Zq KG N3 hln el hks ens lns;refine Zn _ _ ?_;clear Zn;clear R2;refine aF fun R3 Zw=>?_;obtain⟨kvs,ek,hL⟩:=A.lt;have sk:=Pe hL;wp_walk using A.ins,ek,sk;refine⟨by rw[List.length_map];exact b3,fun l ns hl hp hs=>?_⟩;have hks:∀ n∈ns,n∈S.lt.map (·.1):=fun n hn=>hp.mem_iff.mp hn;have lns:ns.length < 64:=by rw[hp.length_eq,List.length_map];exact b3
   have ens:=Mu hp hs;have N2:=q0D (o:=.lst (ns.map V.str)) hl;have el:Zh G3 l (.lst (ns.map V.str)) l=some (.lst (ns.map V.str)):=aA;replace A:=A.kp N2;replace N1:=N1.trans N2;replace hP:=hP.kt (aL.nil N2);replace eun:=N2.at eun;replace ek:=N2.at ek;replace hL:=hL.keep (fun a _ o e=>N2.at e);generalize Zh G3 l (.lst (ns.map V.str))=G4 at *;clear hp hs hl N2 sk;refine⟨⟨_,dQ.of el⟩,?_⟩;obtain⟨Pv,Zq⟩:∃ Pv:Nat->List V->Hp->Prop,∀ i xs G,Pv i xs G=(iZ G xs (iF S.lt (ns.take i))/\Kp [] G4 G):=⟨_,fun _ _ _=>rfl⟩;refine pN (ys:=ns.map V.str) Pv ?_ ?_ ?_ ?_ ?_
   ·rw[Zq];exact⟨.nil,Kp.refl⟩
   ·intro i xs G h;rw[Zq] at h;rw[h.1.len];have h1:=uM S.lt (ns.take i);rw[List.length_take] at h1;omega
   ·intro i xs G h;rw[Zq] at h;exact dQ.of (h.2.at el)
   ·intro i y xs G hi ey h;rw[Zq] at h;obtain⟨hT,KG⟩:=h;obtain⟨n,en,rfl⟩:∃ n,ns[i]?=some n/\y=V.str n:=by
     rw[List.getElem?_map] at ey;obtain⟨n,a0,b0⟩:=Option.map_eq_some_iff.mp ey;exact⟨n,a0,b0.symm⟩
    obtain⟨la,ws,vn,lw,ela⟩:=hL.inS (hks n (List.mem_of_getElem? en));have AG:=A.kp KG;have ekG:=KG.at ek;have elG:=KG.at ela;have es:iF S.lt (ns.take (i+1))=iF S.lt (ns.take i)++iF S.lt [n]:=by rw[List.take_add_one,en,Option.toList_some,B9]
    wp_walk using bE,Option.join_some,AG.ins,ekG,vn,elG;cases ws with
    | nil =>
     rw[if_neg (by simp),Zq,es];exact⟨by rw[show iF S.lt [n]=[] by simp[iF,lw],List.append_nil];exact hT,KG⟩
    | cons w r =>
     rw[if_pos (by simp)];wp_walk using AG.ins,ekG,vn,elG;intro q1 m1 q2 m2;rw[Zq,es,show iF S.lt [n]=[(n,w::r)] by simp[iF,lw]];exact⟨((hT.kt (aL.new m1)).kt (aL.new m2)).snoc aA ((q0D m2).at aA),(KG.trans (Kp.new m1)).trans (Kp.new m2)⟩
   intro ut G h ln3 hln;rw[Zq] at h;obtain⟨hT,KG⟩:=h;rw[List.length_map,List.take_length] at hT;have lut:ut.length<=64:=by
    rw[hT.len];have h1:=uM S.lt ns;omega
   rw[ens] at hT;replace hT:iZ G ut S.ltS:=hT;have N3:=q0D (o:=.lst ut) hln;have eut:Zh G ln3 (.lst ut) ln3=some (.lst ut):=aA;replace hT:=hT.kt (aL.nil N3);replace hP:=hP.kt (aL.nil (KG.trans N3));replace eun:=(KG.trans N3).at eun;replace A:=A.kp (KG.trans N3);replace N1:=N1.trans (KG.trans N3);generalize Zh G ln3 (.lst ut)=G5 at *;clear Zq KG N3 hln el hks ens lns ek hL;refine Zw _ _ ?_;clear Zw;clear R3;wp_walk using A.ins,A.wk.ins;refine⟨R.wk,R.wx,R.lb,R.ln,S.stk,rfl,A.wk,fun pl m1=>?_⟩;have N4:=q0D (o:=.tup ((bY S.stk).map V.int)) m1;have epl:Zh G5 pl (.tup ((bY S.stk).map V.int)) pl=some (.tup ((bY S.stk).map V.int)):=aA;replace A:=A.kp N4;replace N1:=N1.trans N4;replace hP:=hP.kt (aL.nil N4);replace hT:=hT.kt (aL.nil N4);replace eun:=N4.at eun;replace eut:=N4.at eut;generalize Zh G5 pl (.tup ((bY S.stk).map V.int))=G6 at *;clear N4 m1;wp_walk using A.ins,A.tk.ins,eun;refine fun pn m2=>?_;have N4:=q0D (o:=.tup un) m2;have epn:Zh G6 pn (.tup un) pn=some (.tup un):=aA;replace A:=A.kp N4;replace N1:=N1.trans N4;replace hP:=hP.kt (aL.nil N4);replace hT:=hT.kt (aL.nil N4);replace eun:=N4.at eun;replace eut:=N4.at eut;replace epl:=N4.at epl;generalize Zh G6 pn (.tup un)=G7 at *;clear N4 m2;wp_walk using A.ins,A.tk.ins;refine⟨R,as,_,S,rfl,A,b1,fun lo m3=>?_⟩;have N4:=q0D (o:=.lst (S.pend.map V.int)) m3;have elo:Zh G7 lo (.lst (S.pend.map V.int)) lo=some (.lst (S.pend.map V.int)):=aA;replace A:=A.kp N4;replace N1:=N1.trans N4;replace hP:=hP.kt (aL.nil N4);replace hT:=hT.kt (aL.nil N4);replace eun:=N4.at eun;replace eut:=N4.at eut;replace epl:=N4.at epl;replace epn:=N4.at epn;generalize Zh G7 lo (.lst (S.pend.map V.int))=G8 at *;clear N4 m3;wp_walk using elo;refine fun po m4=>?_;have N4:=q0D (o:=.tup (S.pend.map V.int)) m4;have epo:Zh G8 po (.tup (S.pend.map V.int)) po=some (.tup (S.pend.map V.int)):=aA;replace A:=A.kp N4;replace N1:=N1.trans N4;replace hP:=hP.kt (aL.nil N4);replace hT:=hT.kt (aL.nil N4);replace eun:=N4.at eun;replace eut:=N4.at eut;replace epl:=N4.at epl;replace epn:=N4.at epn;generalize Zh G8 po (.tup (S.pend.map V.int))=G9 at *;clear N4 m4;wp_walk using A.ins,A.tk.ins,A.tk.ha;refine fun rv m5=>?_;have N4:=q0D (o:=MR rv R.da) m5;have erv:Zh G9 rv (MR rv R.da) rv=some (MR rv R.da):=aA;replace A:=A.kp N4;replace N1:=N1.trans N4;replace hP:=hP.kt (aL.nil N4);replace hT:=hT.kt (aL.nil N4);replace eun:=N4.at eun;replace eut:=N4.at eut;replace epl:=N4.at epl;replace epn:=N4.at epn;replace epo:=N4.at epo;generalize Zh G9 rv (MR rv R.da)=GA at *;clear N4 m5;refine⟨R.da,_,rfl,A.tk.ha,fun pa aa GB m6 sm epa hla hpa=>?_⟩;have N4:Kp [] GA GB:=Kp.of sm;replace A:=A.kp N4;replace N1:=N1.trans N4;replace hP:=hP.kt (aL.nil N4);replace hT:=hT.kt (aL.nil N4);replace eun:=N4.at eun;replace eut:=N4.at eut;replace epl:=N4.at epl;replace epn:=N4.at epn;replace epo:=N4.at epo;have hA:fN GB (aa.map V.ref) S.anS:=fN.of (by rw[hla,Pu.anS,List.length_map,kO,List.length_map]) fun j a x y e1 e2=>by
    rw[Pu.anS,List.getElem?_map] at e2;obtain⟨p0,e3,e4⟩:=Option.map_eq_some_iff.mp e2;cases e4;exact hpa j a (.inl p0.1) (wv p0.2) e1 (by rw[kO,List.getElem?_map,e3];rfl)
   clear N4 sm hla hpa m6 erv;wp_walk using eut;refine fun pt m7 p m8=>?_;have N4:=(q0D (o:=.tup ut) m7).trans (Kp.new (o:=.tup [.ref ps,.ref pl,wv S.ar,.int S.nw,.ref pn,.int S.made,.ref po,.ref pa,.ref pt]) m8);refine q _ _ ?_ (N1.trans N4);unfold tQ;rw[if_pos hg];have T:=aL.nil N4;exact⟨p,pl,pn,po,pa,pt,.ref ps,un,_,ut,rfl,aA,A.slp.kt T,N4.at epl,N4.at epn,hP.kt T,N4.at epo,N4.at epa,hA.kt T,(q0D m8).at aA,hT.kt T⟩
theorem Tz{t:Ad}(T:Tx w K mg t):bG P w K mg base Zt 40 t.QK t.Q8 ["script"] (HI K):=by
 refine T.YD.ok kL (fun vs H Q E h=>?_) (fun Zs A outer s H vs Q E hr h=>?_)
 ·obtain⟨a,ns,rfl,_⟩:=h;rfl
 ·obtain⟨a,ns,rfl,hS,h63,q⟩:=h;refine⟨_,(aC (bB (i:=1) kL.nd rfl (Or.inl rfl) (aP (BK T) (hr.mono (by omega)) rfl T.Er T.v7.kp T.DM .nil pass0 (aD (cN Dv (pv 0) (cU aE) (cU aE)) aB)))
   (aC (bB (i:=2) kL.nd rfl (Or.inl rfl) (aP (BJ T) (hr.mono (by omega)) rfl T.Ep T.vZ.kp T.DL .nil pass0 (aD (pv 1) (aD (aP (sV T) (hr.mono (by omega)) rfl T.Ae T.qR.kp T.yI .nil pass0 (aD (pv 0) (aD aE aB))) aB))))
   (aC (bB (i:=3) kL.nd rfl (Or.inl rfl) (aP (vA T) (hr.mono (by omega)) rfl T.Af T.oC.kp T.yJ .nil pass0 (aD (cN Dv (pv 0) (cU aE) (cU aE)) aB)))
   (aC (bB (i:=4) kL.nd rfl (Or.inl rfl) (aP (I8 T) (hr.mono (by omega)) rfl T.OE T.Hk.kp T.M4 .nil pass0 (aD (pv 1) (aD (pv 2) (aD (pv 3) aB)))))
   (aC (bB (i:=5) kL.nd rfl (Or.inl rfl) (cY pI rfl T.DA qM (aD (pv 3) aB)))
   (aC (bI (aT Cf (pv 4) eJ (nomark _)) (aI (bB (i:=5) kL.nd rfl (Or.inl rfl) (aZ bJ (pv 4) aE (fun _ _=>rfl)))) bA)
   (aC (bB (i:=6) kL.nd rfl (Or.inl rfl) (aZ bJ (aP (qG T) (hr.mono (by omega)) rfl T.wF T.oE.kp T.vV .nil pass0 (aD (pv 2) (aD (pv 3) aB))) aE (fun _ _=>rfl)))
   (aC (AF PassesOwn.never rfl (Ji (c:=5) (by decide) rfl T.Bm (aD (bW q9 (aP (sV T) (hr.mono (by omega)) rfl T.Ae T.qR.kp T.yI .nil pass0 (aD (pv 0) (aD aE aB))) aE) (aD (bW dU (cY pI rfl T.DA qM (aD (pv 3) aB)) aE) (aD aE aB)))) (mK (i:=7) kL.nd rfl (Or.inl rfl)) (aC (bB (i:=8) kL.nd rfl (Or.inr rfl) (aP (As T) (hr.mono (by omega)) rfl T.Ek T.zK.kp T.DJ .nil pass0 (aD (pv 1) (aD (pv 2) (aD (cN Gp (pv 3) eK (cU (pv 7))) aB)))))
   (aC (bI (aT P5 (kY cX (aZ bJ (pv 8) aE (fun _ _=>rfl)) aR (nomark _)) (kY WZ (pv 7) (pv 5) (nomark _)) (nomark _)) (aI (aO Ci)) bA)
   (aI (bI (aT cX (aZ bJ (pv 8) aE (fun _ _=>rfl)) aR (nomark _)) (aC (bI (aT (Ge 3 (Lv hr (by decide))) (sX (fr:=[8]) (N:=["happening","told"]) rfl (fun _ _ h=>h) (dW.free rfl rfl rfl rfl rfl (fun _ _ h=>h) rfl (by decide) rfl (fun j hj=>by rw[show j=8 by simpa using hj];exact⟨_,rfl,rfl,.inl rfl⟩)) (jI (cN Gp (pv 3) (cU (pv 7)) eK)) (fun C s H ex pn=>⟨tG,(bL (aZ bJ (pv 1) aE (fun _ _=>rfl)) T.aX T.uO (qY T) (hr.mono (by omega)) T.yD .nil pass0 (aD (pv 0) aB))⟩)) (cN Gp (pv 6) (cU (pv 7)) eK) (nomark _)) (aI (aO Ci)) bA)
   (aC (bB (i:=9) kL.nd rfl (Or.inl rfl) (aZ bJ (aP (As T) (hr.mono (by omega)) rfl T.Ek T.zK.kp T.DJ .nil pass0 (aD (pv 1) (aD (pv 2) (aD (cN Gp (pv 3) eK (cU (pv 7))) aB)))) aE (fun _ _=>rfl)))
   (aI (bI (aT (Ge 4 (Lv hr (by decide))) (cC (pv 9) T.aX T.z9 (wG T) (hr.mono (by omega)) T.BQ .nil pass0) (cC (aZ bJ (aP (qG T) (hr.mono (by omega)) rfl T.wF T.oE.kp T.vV .nil pass0 (aD (pv 2) (aD (cN Gp (pv 3) eK (cU (pv 7))) aB))) aE (fun _ _=>rfl)) T.aX T.z9 (wG T) (hr.mono (by omega)) T.BQ .nil pass0) (nomark _)) (aI (aO Ci)) bA)))) bA)))))
   (aI (aO Ci)))))))))),?_⟩
  and_intros
  refine aF fun R1 Zm=>?_;wp_walk;refine⟨_,hS,fun q1 m1=>?_⟩;obtain⟨ms,em,lm⟩:=yP ns (some 2) (some 8);rw[em];have N1:=q0D (o:=.lst (ms.map V.int)) m1;replace hS:=N1.same.seq hS;refine⟨q1,ms,rfl,aA,by omega,fun p1 Z1 b1 G1 e1 s1 g1 n1 d1 l1 K1=>?_⟩;replace hS:=K1.same.seq hS;clear N1 m1 em K1;wp_walk;refine Zm _ _ ?_;clear Zm;clear R1;refine aF fun R2 Zn=>?_;wp_walk;refine⟨a,ns,0,rfl,hS,Int.le_refl _,fun z=>?_⟩;wp_walk;refine⟨p1,Z1,b1,z,rfl,e1,s1,g1,n1,d1,by omega,fun p2 Z0 b2 G2 e2 s2 g2 n2 d2 l2 K2=>?_⟩;replace hS:=K2.same.seq hS;replace e1:=K2.at e1;replace s1:=s1.kp (aL.nil K2);clear K2;wp_walk;refine Zn _ _ ?_;clear Zn;clear R2;refine aF fun R3 Zw=>?_;wp_walk;refine⟨_,hS,fun q3 m3=>?_⟩;obtain⟨ms3,em3,lm3⟩:=yP ns (some 10) (some 60);rw[em3];have N3:=q0D (o:=.lst (ms3.map V.int)) m3;refine⟨q3,ms3,rfl,aA,by omega,fun hl hv hs G3 eh hH ok lh fh K3=>?_⟩;replace K3:=N3.trans K3;have W:xV G3 p1 p2 hl Z1 Z0 hv b1 b2 hs:=⟨K3.at e1,s1.kp (aL.nil K3),g1,by omega,n1,K3.at e2,s2.kp (aL.nil K3),g2,by omega,n2,eh,hH,ok,by omega⟩;replace hS:=K3.same.seq hS;clear N3 m3 em3 K3 e1 s1 e2 s2 eh hH fh;wp_walk;refine Zw _ _ ?_;clear Zw;clear R3;refine aF fun R4 Z2=>?_
  suffices fin:∀(pv:Option V) (G:Hp),(fU b1 b2 hs=none/\pv=some .Zj\/∃ n p x y,fU b1 b2 hs=some n/\pv=some (.ref p)/\G p=some (.tup [.int n,x,y]))->Kp [] G3 G->R4 [some (.ref a),some (.ref p1),some (.ref p2),some (.ref hl),pv,none,none,none,none,none] G by
   wp_walk;refine⟨p1,p2,hl,Z1,Z0,hv,b1,b2,hs,rfl,W,fun e H' k=>?_,fun n e p x y H' hp ep k=>?_⟩
   ·wp_walk;exact fin _ _ (.inl ⟨e,rfl⟩) k
   ·wp_walk;exact fin _ _ (.inr ⟨n,p,x,y,e,rfl,ep⟩) k
  intro pv G hpv K4;replace W:=W.kp K4;replace hS:=K4.same.seq hS;clear K4;refine Z2 _ _ ?_;clear Z2;clear R4;refine aF fun R5 hR5=>?_;wp_walk using W.eh;refine hR5 _ _ ?_;clear hR5 R5;refine aF fun R6 hR6=>?_;have lhv:=W.hH.len
  suffices fin:∀ fv:Int,(fU b1 b2 hs=none/\fv=(hs.length:Int)\/∃ n:Nat,fU b1 b2 hs=some n/\fv=(n:Int))->R6 [some (.ref a),some (.ref p1),some (.ref p2),some (.ref hl),pv,some (.int fv),none,none,none,none] G by
   rcases hpv with⟨e,rfl⟩|⟨n,p,x,y,e,rfl,ep⟩
   ·skip;wp_walk;exact fin _ (.inl ⟨e,by omega⟩)
   ·skip;wp_walk using ep;exact fin _ (.inr ⟨n,e,rfl⟩)
  intro fv hfv;clear hpv;refine hR6 _ _ ?_;clear hR6 R6;refine aF fun R7 hR7=>?_;wp_walk;have wl:=W.len;refine⟨p2,hl,Z0,hv,b2,hs,rfl,W.e2,W.s2,W.g2,W.d2,W.eh,W.hH,W.sI,by omega,fun t0 R0 as0 sl0 cl rs G5 et0 A0 F0 hN0 ecl hr0 nd0 hf0 nc0 NR0 fc0 K5=>?_⟩;have w0:=kZ.of hr0;replace W:=W.kp K5;replace hS:=K5.same.seq hS;clear A0 F0 hN0 hr0 nd0 hf0 nc0 NR0 fc0 K5;wp_walk using et0;refine hR7 _ _ ?_;clear hR7 R7;refine aF fun R8 hR8=>?_;wp_walk;refine⟨a,ns,1,rfl,hS,by decide,fun z1=>?_⟩;wp_walk using W.eh;have g0:0<=z1 % 5:=Int.emod_nonneg _ (by decide);have g1:z1 % 5 < 5:=Int.emod_lt_of_pos _ (by decide);obtain⟨lo,elo⟩:∃ lo:Nat,z1 % 5=(lo:Int):=⟨(z1 % 5).toNat,by omega⟩;rw[elo];refine⟨(lo:Int),(hv.length:Int)+1,rfl,⟨by omega,by omega⟩,⟨by omega,by omega⟩,?_⟩;obtain⟨Pv,Zq⟩:∃ Pv:Nat->St->Hp->Prop,∀ i σ G,Pv i σ G = ∃(u7 u8 u9:Option V),σ=[some (.ref a),some (.ref p1),some (.ref p2),some (.ref hl),pv,some (.int fv),some (.ref cl),u7,u8,u9]/\Kp [] G5 G:=⟨_,fun _ _ _=>rfl⟩;refine Fx (lo:=(lo:Int)) (c:=5) Pv ?_ ?_ ?_
  ·rw[Zq];exact⟨_,_,_,rfl,Kp.refl⟩
  ·intro i σ G hi h;rw[Zq] at h;obtain⟨u7,u8,u9,rfl,KG⟩:=h;obtain⟨k,ek,lk⟩:∃ k:Nat,(lo:Int)+i * 5=(k:Int)/\k<=hs.length:=⟨lo+i * 5,by omega,by
    split at hi<;>omega⟩
   rw[ek];have back:∀(u7 u8 u9:Option V) (G':Hp),Kp [] G G'->Pv (i+1) [some (.ref a),some (.ref p1),some (.ref p2),some (.ref hl),pv,some (.int fv),some (.ref cl),u7,u8,u9] G':=fun u7 u8 u9 G' e=>by
    rw[Zq];exact⟨_,_,_,rfl,KG.trans e⟩
   clear Zq;replace W:=W.kp KG;replace ecl:=KG.at ecl;replace w0:=w0.kp KG;have WG:=W;have acO:=ecl;have w0G:=w0;clear KG ek hi;refine aF fun Ra ZS=>?_;wp_walk using W.eh;refine fun q1 n1=>?_;rw[CK];have K1:=q0D (o:=.lst (hv.take k)) n1;have tk:=Om b1 b2 hs k;refine⟨p1,p2,q1,Z1,Z0,hv.take k,b1,b2,hs.take k,rfl,W.cut K1 k aA,fun e t1 R as sl G1 et A fn NR K2=>?_,fun n e p x y G1 ep K2=>?_⟩
   ·have hk:(k:Int)<=fv:=by
     rw[e] at tk;rcases hfv with⟨e1,rfl⟩|⟨n,e1,rfl⟩
     ·omega
     ·rw[e1] at tk;simp only at tk;split at tk
      ·cases tk
      ·omega
    have K1w:=K1;replace K2:=K1.trans K2;refine ZS _ _ ?_;clear ZS Ra K1;refine aF fun Ra ZS=>?_;wp_walk using et,hk,decide_true;refine ZS _ _ ?_;clear ZS Ra;have lt:(hs.take k).length=k:=by rw[List.length_take];omega
    rw[lt] at fn;have adN:=lhv;replace W:=W.kp K2;replace ecl:=K2.at ecl;replace w0:=w0.kp K2;replace NR:∀ a,a∈R.cells\/a∈as->G a=none:=fun a ha=>K1w.fM (NR a ha);have LO0:Lone ⟨t.aV,t.aW,t.aJ⟩ G G1 R as sl (takes (dS b2) (hs.take k)).1 []:=⟨K2,A,NR,by simp⟩;clear A NR;generalize eS:(takes (dS b2) (hs.take k)).1=S at *;refine t7 fun RI hRI=>?_;wp_walk using et;refine hRI _ _ ?_;clear hRI RI;refine aF fun Ra ZS=>?_;refine t7 fun RI hRI=>?_;wp_walk using et,W.eh;refine fun q2 n2=>?_;rw[BY (by omega)];have N2:=q0D (o:=.lst (hv.drop k)) n2;have eq2:Zh G1 q2 (.lst (hv.drop k)) q2=some (.lst (hv.drop k)):=aA;have nq2:=LO0.a.dH n2;have nG2:=LO0.k.fM n2;replace LO0:=LO0.kp N2;replace et:=N2.at et;replace W:=W.kp N2;replace ecl:=N2.at ecl;replace w0:=w0.kp N2;generalize Zh G1 q2 (.lst (hv.drop k))=G2 at *;have hG0:=W.hH.drop k;refine⟨⟨_,dQ.of eq2⟩,?_⟩;obtain⟨Pw,Z4⟩:∃ Pw:Nat->List V->Hp->Prop,∀ i zs G',Pw i zs G' = ∃(ZC:List Addr) (Zz:V) (Z5:List Addr),zs=Z5.map V.ref/\Lone ⟨t.aV,t.aW,t.aJ⟩ G G' R ZC Zz (takes S ((hs.drop k).take i)).1 [q2]/\Fine (takes S ((hs.drop k).take i)).1 (302 * (k+i))/\eU G' Z5 (takes S ((hs.drop k).take i)).2/\(∀ a∈Z5,a∉R.cells/\a∉ZC)/\G' q2=some (.lst (hv.drop k))/\aL G2 G'/\Kp [] G G':=⟨_,fun _ _ _=>rfl⟩;refine pN (ys:=hv.drop k) Pw ?_ ?_ ?_ ?_ ?_
    ·rw[Z4];exact⟨as,sl,[],rfl,⟨LO0.k,LO0.a,LO0.fr,fun a ha=>by rw[show a=q2 by simpa using ha];exact⟨⟨_,eq2⟩,nq2⟩⟩,fn,.nil,by simp,eq2,fun _ _ e=>e,LO0.k⟩
    ·intro i zs G' h;rw[Z4] at h;obtain⟨_,_,Z5,rfl,_,_,hr,_⟩:=h;rw[List.length_map,hr.len,dD,List.length_take,List.length_drop];omega
    ·intro i zs G' h;rw[Z4] at h;obtain⟨_,_,_,_,_,_,_,_,e,_⟩:=h;exact dQ.of e
    ·intro i y zs G' hi ey h;rw[Z4] at h;obtain⟨ZC,Zz,Z5,rfl,LO,fn',hr3,hf3,e3,tk3,KG3⟩:=h;obtain⟨x,ex,hx⟩:=(hG0.kt tk3).iM ey;have es:takes S ((hs.drop k).take (i+1))=(((takes S ((hs.drop k).take i)).1.take x).1,(takes S ((hs.drop k).take i)).2++[((takes S ((hs.drop k).take i)).1.take x).2]):=by rw[List.take_add_one,ex,Option.toList_some,mU]
     have zk:=W.ok x (List.mem_of_mem_drop (List.mem_of_getElem? ex));have il:i < (hs.drop k).length:=(List.getElem?_eq_some_iff.mp ex).1;rw[List.length_drop] at il;have pw:=fn'.pend LO.a (by omega);have fn2:=fn'.take zk (by omega) pw;have et3:=tk3 _ _ et;generalize takes S ((hs.drop k).take i)=Z at *;obtain⟨S',aaQ⟩:=Z;wp_walk using bE,Option.join_some,et3,LO.a.ins;refine⟨R,ZC,_,S',y,x,302 * (k+i),rfl,LO.a,fn'.fit,by omega,fn'.isN,hx,zk.1,fun ZI ZU c uc Ga Aa hc nc ec hC Fa=>?_⟩;have T2:=LO.a.tkp Fa;have ncf:=LO.a.dH hc;show Pw (i+1) _ _;rw[Z4,es];have fn3:Fine (S'.take x).1 (302 * (k+(i+1))):=by
      rw[show 302 * (k+(i+1))=302 * (k+i)+302 by omega];exact fn2
     refine⟨ZI,ZU,Z5++[c],by simp,LO.step Fa Aa,fn3,(hr3.keep (fun a ha o e=>Fa.kp a o e (hf3 a ha).1 (hf3 a ha).2) T2).snoc ec hC,fun a ha=>?_,LO.keep Fa q2 (by simp) _ e3,tk3.trans T2,(LO.step Fa Aa).k⟩;rcases List.mem_append.mp ha with ha|ha
     ·refine⟨(hf3 a ha).1,fun z=>?_⟩;rcases Fa.new a z with y|y
      ·exact(hf3 a ha).2 y
      ·obtain⟨o,e⟩:=hr3.there a ha;rw[y] at e;cases e
     ·rw[show a=c by simpa using ha];exact⟨ncf.1,nc⟩
    intro zs G3 h l3 n3;rw[Z4] at h;obtain⟨ZC,Zz,Z5,rfl,LO,fn',hr3,hf3,e3,tk3,KG3⟩:=h;rw[show(hv.drop k).length=(hs.drop k).length by rw[List.length_drop,List.length_drop,lhv],List.take_length] at hr3;have w3:=kZ.of hr3;have N3:=q0D (o:=.lst (Z5.map V.ref)) n3;have el3:Zh G3 l3 (.lst (Z5.map V.ref)) l3=some (.lst (Z5.map V.ref)):=aA;replace w3:=w3.kp N3;replace KG3:=KG3.trans N3;generalize Zh G3 l3 (.lst (Z5.map V.ref))=G4 at *;have acN:=KG3.at acO;clear LO fn' hr3 hf3 e3 tk3 n3 N3 Z4 Pw;wp_walk using acN;refine fun q4 n4=>?_;have lrs:=w0G.1;rw[dD] at lrs;rw[BY (by rw[List.length_map];omega),<- List.map_drop];have N4:=q0D (o:=.lst ((rs.drop k).map V.ref)) n4;refine⟨true,?_,?_⟩
    ·have wd:=((w0G.kp KG3).kp N4).drop k;rw[GD,eS] at wd;exact kZ.rc (n:=0) (w3.kp N4) wd (N4.at el3) aA (jS _ _) (by simp)
    replace KG3:=KG3.trans N4;generalize Zh G4 q4 (.lst ((rs.drop k).map V.ref))=G5' at *;wp_walk;refine ZS _ _ ?_;clear ZS Ra hRI RI;refine aF fun Ra ZS=>?_;have W5:=WG.kp KG3;wp_walk using W5.eh;refine fun q6 n6=>?_;rw[CK];have N6:=q0D (o:=.lst (hv.take k)) n6;refine⟨p1,p2,q6,Z1,Z0,hv.take k,b1,b2,hs.take k,rfl,W5.cut N6 k aA,fun _ t6 R6 as6 sl6 G6 et6 A6 fn6 NR6 K6=>?_,fun n e' p x y G6 ep6 K6=>?_⟩
    ·rw[eS] at A6 fn6;replace KG3:=KG3.trans (N6.trans K6);wp_walk using et6;refine ZS _ _ ?_;clear ZS Ra;have W6:=WG.kp KG3;wp_walk using A6.ins;obtain⟨b0,c1,c2,c3,c4,c5⟩:=fn6.args (by rw[lt];omega);refine⟨R6,_,_,_,rfl,A6,b0,c1,c2,c3,c4,c5,fun s1 G7 hs1 K7=>?_⟩;replace W6:=W6.kp K7;replace KG3:=KG3.trans K7;wp_walk using W6.eh;refine fun q8 n8=>?_;rw[CK];have N8:=q0D (o:=.lst (hv.take k)) n8;have W8:=W6.cut N8 k aA;have wl8:=W8.len;refine⟨p2,q8,Z0,hv.take k,b2,hs.take k,rfl,W8.e2,W8.s2,W8.g2,W8.d2,W8.eh,W8.hH,W8.sI,by omega,fun t8 R8' as8 sl8 cl8 rs8 G8 et8 A8 F8 hN8 e8 hr8 nd8 hf8 nc8 NR8 fc8 K8=>?_⟩;rw[eS] at A8;replace KG3:=KG3.trans (N8.trans K8);replace hs1:=hs1.kt (aL.nil (N8.trans K8));wp_walk using et8,A8.ins;refine⟨R8',_,_,_,rfl,A8,b0,c1,c2,c3,c4,c5,fun s2 G9 hs2 K9=>?_⟩;replace hs1:=hs1.kt (aL.nil K9);obtain⟨x1,rfl⟩:=Mv b0 hs1;obtain⟨x2,rfl⟩:=Mv b0 hs2;wp_walk;refine⟨true,Xn (n:=0) b0 hs1 hs2,?_⟩;wp_walk;exact back _ _ _ _ (KG3.trans K9)
    ·rw[e] at e';cases e'
   ·have hk:¬ (k:Int)<=fv:=by
     rw[e] at tk;rcases hfv with⟨e1,rfl⟩|⟨m,e1,rfl⟩
     ·rw[e1] at tk;cases tk
     ·rw[e1] at tk;simp only at tk;split at tk
      ·omega
      ·cases tk
    replace K2:=K1.trans K2;refine ZS _ _ ?_;clear ZS Ra K1;wp_walk using ep,hk,decide_false,mV;exact back _ _ _ _ K2
  intro σ G h;rw[Zq] at h;obtain⟨u7,u8,u9,rfl,KG⟩:=h;refine hR8 _ _ ?_;clear hR8 R8;wp_walk;exact q _
end
theorem b0{P:List Value->Prop}(h:P []):∀ us:List Value,us.length=0->P us:=fun us e=>by rw[List.length_eq_zero_iff.mp e];exact h
theorem bS{P:List Value->Prop}{n:Nat}(h:∀ a,∀ us:List Value,us.length=n->P (a::us)):∀ us:List Value,us.length=n+1->P us
 | [],e=>by cases e
 | a::us,e=>h a us (Nat.succ.inj e)
theorem MK{q:Program}{loose:List Str}{XP:(q0C)->Heap->Prop}{K:Params->q0B}{as:List Addr}{n t:Nat}{r:PySem.W.RowW}{d:DefRec}{kwd:List (Str×Expr)}{run:Value->List Value->Sem Value}(e:∀ P:Params,as=List.map (fun x=>x.fst) (K P))(H:PySem.W.WalkO q loose XP (PySem.W.kHook K as e).says r d kwd run):PySem.W.WalkX q loose XP (PySem.W.X.obsZ as) (PySem.W.X.valZ K n t) r d kwd run:=fun w s₀ s₁ mg mb G y a o pm cd doc dV kV h1 h2 h3 h4 h5 h6 args vals bs L=>by
 obtain⟨_,f,_,_⟩:=PySem.W.X.z_facts e y;exact H w s₀ s₁ mg mb G (show PySem.W.InK K w s₁.heap from fun p ob hp=>L.keeps _ _ (f p ob hp)) a o pm cd doc dV kV h1 h2 h3 h4 h5 h6 args vals bs
section
open PySem.W
theorem QL{l:OpenLaw}{w:World}{K:Frag}{h:Heap}{mg:q0C}{fa:Addr}(X:K.In h)(G:h.Ns mainGlobals mg)(hfa:mg "law"=some (.ref fa))
    {f0 f1 f2 f3 f4 f5 f6 f7 f8 f9 f10 f11 f12 f13 f14 f15 f16 f17 f18 f19 f20 f21 f22 f23 f24 f25 f26 f27 f28 f29 f30 f31 f32 f33 f34 f35 f36 f37 f38 f39 f40 f41 f42 f43 f44 f45 f46 f47 f48 f49 f50 f51 f52 f53 f54 f55 f56 f57:Addr} {d0 d1 d2 d3 d4 d5 d6 d7 d8 d9 d10 d11 d12 d13 d14 d15 d16 d17 d18 d19 d20 d21 d22 d23 d24 d25 d26 d27 d28 d29 d30 d31 d32 d33 d34 d35 d36 d37 d38 d39 d40 d41 d42 d43 d44 d45 d46 d47 d48 d49 d50 d51 d52 d53 d54 d55 d56 d57:FuncData}
    {aJ:Addr}
    {aW:Addr}
    {aV:Addr}
    {tk0:Tok}
    {tk1:Tok}
    {tk2:Tok}
    {tp3:Addr} {te3:Array DictEntry} {tn3:Nat}
    (aaP:nsIn K mainGlobals "Tickets"=some (some (.ref aJ))) (aaU:plainGet K aJ Str.empty=true) (aaR:hasDictIn K aJ=true) (aaV:plainOver K aJ=true) (aaW:findIn K (.ref aJ) "__setattr__"=some (some (.builtin "object.__setattr__"))) (uP:makesIn K aJ=true) (aaT:keepIn K (.ref aJ)=true)
    (abA:nsIn K mainGlobals "Walk"=some (some (.ref aW))) (abO:plainGet K aW Str.empty=true) (abD:hasDictIn K aW=true) (abP:plainOver K aW=true) (abQ:findIn K (.ref aW) "__setattr__"=some (some (.builtin "object.__setattr__"))) (FQ:makesIn K aW=true) (abK:keepIn K (.ref aW)=true)
    (abT:nsIn K mainGlobals "Run"=some (some (.ref aV))) (acF:plainGet K aV Str.empty=true) (ab1:hasDictIn K aV=true) (acG:plainOver K aV=true) (acI:findIn K (.ref aV) "__setattr__"=some (some (.builtin "object.__setattr__"))) (Hu:makesIn K aV=true) (acB:keepIn K (.ref aV)=true)
    (a0:nsIn K mainGlobals "kept"=some (some (.ref f0)))
    (F0:Fun K "kept" "kept" Gi f0 d0)
    (a1:nsIn K mainGlobals "worth_of"=some (some (.ref f1)))
    (F1:Fun K "worth_of" "worth_of" vO f1 d1)
    (a2:nsIn K mainGlobals "joined"=some (some (.ref f2)))
    (F2:Fun K "joined" "joined" AO f2 d2)
    (a3:nsIn K mainGlobals "number_of"=some (some (.ref f3)))
    (F3:Fun K "number_of" "number_of" rG f3 d3)
    (a4:nsIn K mainGlobals "one_or_nought"=some (some (.ref f4)))
    (F4:Fun K "one_or_nought" "one_or_nought" lE f4 d4)
    (a5:findIn K (.ref aJ) "__init__"=some (some (.ref f5))) (i5:isFn K (.ref f5)=true)
    (F5:Fun K "__init__" "Tickets.__init__" lA f5 d5)
    (a6:findIn K (.ref aJ) "make"=some (some (.ref f6))) (i6:isFn K (.ref f6)=true)
    (F6:Fun K "make" "Tickets.make" lB f6 d6)
    (a7:findIn K (.ref aJ) "is_open"=some (some (.ref f7))) (i7:isFn K (.ref f7)=true)
    (F7:Fun K "is_open" "Tickets.is_open" iX f7 d7)
    (a8:findIn K (.ref aJ) "those_open"=some (some (.ref f8))) (i8:isFn K (.ref f8)=true)
    (F8:Fun K "those_open" "Tickets.those_open" gF f8 d8)
    (a9:findIn K (.ref aJ) "finish"=some (some (.ref f9))) (i9:isFn K (.ref f9)=true)
    (F9:Fun K "finish" "Tickets.finish" iW f9 d9)
    (a10:findIn K (.ref aJ) "shut"=some (some (.ref f10))) (i10:isFn K (.ref f10)=true)
    (F10:Fun K "shut" "Tickets.shut" lD f10 d10)
    (a11:findIn K (.ref aJ) "shut_all"=some (some (.ref f11))) (i11:isFn K (.ref f11)=true)
    (F11:Fun K "shut_all" "Tickets.shut_all" hW f11 d11)
    (a12:findIn K (.ref aJ) "first_done"=some (some (.ref f12))) (i12:isFn K (.ref f12)=true)
    (F12:Fun K "first_done" "Tickets.first_done" gE f12 d12)
    (a13:findIn K (.ref aW) "__init__"=some (some (.ref f13))) (i13:isFn K (.ref f13)=true)
    (F13:Fun K "__init__" "Walk.__init__" rE f13 d13)
    (a14:findIn K (.ref aW) "come_to"=some (some (.ref f14))) (i14:isFn K (.ref f14)=true)
    (F14:Fun K "come_to" "Walk.come_to" mN f14 d14)
    (a15:findIn K (.ref aW) "stands_at"=some (some (.ref f15))) (i15:isFn K (.ref f15)=true)
    (F15:Fun K "stands_at" "Walk.stands_at" kI f15 d15)
    (a16:findIn K (.ref aW) "pass_by"=some (some (.ref f16))) (i16:isFn K (.ref f16)=true)
    (F16:Fun K "pass_by" "Walk.pass_by" mO f16 d16)
    (a17:findIn K (.ref aW) "enter"=some (some (.ref f17))) (i17:isFn K (.ref f17)=true)
    (F17:Fun K "enter" "Walk.enter" oS f17 d17)
    (a18:findIn K (.ref aW) "leave"=some (some (.ref f18))) (i18:isFn K (.ref f18)=true)
    (F18:Fun K "leave" "Walk.leave" oT f18 d18)
    (a19:findIn K (.ref aW) "place"=some (some (.ref f19))) (i19:isFn K (.ref f19)=true)
    (F19:Fun K "place" "Walk.place" oU f19 d19)
    (a20:nsIn K mainGlobals "do_set"=some (some (.ref f20)))
    (F20:Fun K "do_set" "do_set" Dp f20 d20)
    (a21:nsIn K mainGlobals "do_order"=some (some (.ref f21)))
    (F21:Fun K "do_order" "do_order" vL f21 d21)
    (a22:nsIn K mainGlobals "do_timer"=some (some (.ref f22)))
    (F22:Fun K "do_timer" "do_timer" vM f22 d22)
    (a23:nsIn K mainGlobals "do_send"=some (some (.ref f23)))
    (F23:Fun K "do_send" "do_send" AM f23 d23)
    (a24:nsIn K mainGlobals "do_drop"=some (some (.ref f24)))
    (F24:Fun K "do_drop" "do_drop" AK f24 d24)
    (a25:nsIn K mainGlobals "do_wait"=some (some (.ref f25)))
    (F25:Fun K "do_wait" "do_wait" AN f25 d25)
    (a26:nsIn K mainGlobals "do_hear"=some (some (.ref f26)))
    (F26:Fun K "do_hear" "do_hear" AL f26 d26)
    (a27:nsIn K mainGlobals "do_end"=some (some (.ref f27)))
    (F27:Fun K "do_end" "do_end" Dn f27 d27)
    (a28:findIn K (.ref aV) "__init__"=some (some (.ref f28))) (i28:isFn K (.ref f28)=true)
    (F28:Fun K "__init__" "Run.__init__" vG f28 d28)
    (a29:findIn K (.ref aV) "open_tickets"=some (some (.ref f29))) (i29:isFn K (.ref f29)=true)
    (F29:Fun K "open_tickets" "Run.open_tickets" hJ f29 d29)
    (a30:findIn K (.ref aV) "state"=some (some (.ref f30))) (i30:isFn K (.ref f30)=true)
    (F30:Fun K "state" "Run.state" rC f30 d30)
    (a31:findIn K (.ref aV) "take"=some (some (.ref f31))) (i31:isFn K (.ref f31)=true)
    (F31:Fun K "take" "Run.take" vI f31 d31)
    (a32:findIn K (.ref aV) "passes_over"=some (some (.ref f32))) (i32:isFn K (.ref f32)=true)
    (F32:Fun K "passes_over" "Run.passes_over" iU f32 d32)
    (a33:findIn K (.ref aV) "take_done"=some (some (.ref f33))) (i33:isFn K (.ref f33)=true)
    (F33:Fun K "take_done" "Run.take_done" k9 f33 d33)
    (a34:findIn K (.ref aV) "take_letter"=some (some (.ref f34))) (i34:isFn K (.ref f34)=true)
    (F34:Fun K "take_letter" "Run.take_letter" iV f34 d34)
    (a35:findIn K (.ref aV) "wake"=some (some (.ref f35))) (i35:isFn K (.ref f35)=true)
    (F35:Fun K "wake" "Run.wake" vJ f35 d35)
    (a36:findIn K (.ref aV) "go_on"=some (some (.ref f36))) (i36:isFn K (.ref f36)=true)
    (F36:Fun K "go_on" "Run.go_on" vF f36 d36)
    (a37:findIn K (.ref aV) "do_one"=some (some (.ref f37))) (i37:isFn K (.ref f37)=true)
    (F37:Fun K "do_one" "Run.do_one" rB f37 d37)
    (a38:findIn K (.ref aV) "look"=some (some (.ref f38))) (i38:isFn K (.ref f38)=true)
    (F38:Fun K "look" "Run.look" vH f38 d38)
    (a39:findIn K (.ref aV) "end"=some (some (.ref f39))) (i39:isFn K (.ref f39)=true)
    (F39:Fun K "end" "Run.end" AJ f39 d39)
    (a40:findIn K (.ref aV) "wear_out"=some (some (.ref f40))) (i40:isFn K (.ref f40)=true)
    (F40:Fun K "wear_out" "Run.wear_out" mM f40 d40)
    (a41:findIn K (.ref aV) "worth"=some (some (.ref f41))) (i41:isFn K (.ref f41)=true)
    (F41:Fun K "worth" "Run.worth" rD f41 d41)
    (a42:findIn K (.ref aV) "new_ticket"=some (some (.ref f42))) (i42:isFn K (.ref f42)=true)
    (F42:Fun K "new_ticket" "Run.new_ticket" kH f42 d42)
    (a43:nsIn K mainGlobals "run_again"=some (some (.ref f43)))
    (F43:Fun K "run_again" "run_again" rH f43 d43)
    (a44:nsIn K mainGlobals "part_at"=some (some (.ref f44)))
    (F44:Fun K "part_at" "part_at" AR f44 d44)
    (a45:nsIn K mainGlobals "changed"=some (some (.ref f45)))
    (F45:Fun K "changed" "changed" vK f45 d45)
    (a46:nsIn K mainGlobals "first_unlike_commands"=some (some (.ref f46)))
    (F46:Fun K "first_unlike_commands" "first_unlike_commands" eW f46 d46)
    (a47:nsIn K mainGlobals "_law_cell_at"=some (some (.ref f47)))
    (F47:Fun K "_law_cell_at" "_law_cell_at" oV f47 d47)
    (a48:nsIn K mainGlobals "_law_row"=some (some (.ref f48)))
    (F48:Fun K "_law_row" "_law_row" AQ f48 d48)
    (a49:nsIn K mainGlobals "_law_take"=some (some (.ref f49)))
    (F49:Fun K "_law_take" "_law_take" vN f49 d49)
    (a50:nsIn K mainGlobals "_law_saying"=some (some (.ref f50)))
    (F50:Fun K "_law_saying" "_law_saying" oW f50 d50)
    (a51:nsIn K mainGlobals "_law_statement"=some (some (.ref f51)))
    (F51:Fun K "_law_statement" "_law_statement" kJ f51 d51)
    (a52:nsIn K mainGlobals "_law_block"=some (some (.ref f52)))
    (F52:Fun K "_law_block" "_law_block" rF f52 d52)
    (a53:nsIn K mainGlobals "_law_program"=some (some (.ref f53)))
    (F53:Fun K "_law_program" "_law_program" mQ f53 d53)
    (a54:nsIn K mainGlobals "_law_happenings"=some (some (.ref f54)))
    (F54:Fun K "_law_happenings" "_law_happenings" iY f54 d54)
    (a55:nsIn K mainGlobals "_law_changed"=some (some (.ref f55)))
    (F55:Fun K "_law_changed" "_law_changed" mP f55 d55)
    (a56:nsIn K mainGlobals "_law_stepped"=some (some (.ref f56)))
    (F56:Fun K "_law_stepped" "_law_stepped" mR f56 d56)
    (a57:nsIn K mainGlobals "law"=some (some (.ref f57)))
    (F57:Fun K "law" "law" Md f57 d57)
    (uS:findIn K (.ref aJ) "made"=some none)
    (gJ:findIn K (.ref aJ) "pending"=some none)
    (gH:findIn K (.ref aJ) "answers"=some none)
    (iH:findIn K (.ref aW) "blocks"=some none)
    (eT:findIn K (.ref aW) "numbers"=some none)
    (kB:findIn K (.ref aV) "walk"=some none)
    (dF:findIn K (.ref aV) "sleep"=some none)
    (Cc:findIn K (.ref aV) "arg"=some none)
    (sQ:findIn K (.ref aV) "now"=some none)
    (fZ:findIn K (.ref aV) "names"=some none)
    (cJ:findIn K (.ref aV) "tickets"=some none)
    (gI:findIn K (.ref aV) "letters"=some none)
    (v0:nsIn K mainGlobals "GREATEST_WORTH"=some (some (.int 1000000000 tk0)))
    (v1:nsIn K mainGlobals "GREATEST_MOMENT"=some (some (.int 1000000000000 tk1)))
    (v2:nsIn K mainGlobals "MOST_AT_ONCE"=some (some (.int 300 tk2)))
    (v3:nsIn K mainGlobals "DEEDS"=some (some (.ref tp3))) (u3:K.lookup tp3=some {cls:=.type "dict",data:=.dict te3 tn3})
    (ac4:nsIn K tp3 "set"=some (some (.ref f20)))
    (ac5:nsIn K tp3 "order"=some (some (.ref f21)))
    (ac6:nsIn K tp3 "timer"=some (some (.ref f22)))
    (ac7:nsIn K tp3 "child"=some (some (.ref f21)))
    (ac8:nsIn K tp3 "send"=some (some (.ref f23)))
    (ac9:nsIn K tp3 "drop"=some (some (.ref f24)))
    (adA:nsIn K tp3 "wait"=some (some (.ref f25)))
    (adB:nsIn K tp3 "hear"=some (some (.ref f26)))
    (adC:nsIn K tp3 "end"=some (some (.ref f27)))
    (rP:nsIn K mainGlobals "enumerate"=some none)
    (DA:nsIn K mainGlobals "len"=some none)
    (ML:nsIn K mainGlobals "max"=some none)
    (Pt:nsIn K mainGlobals "min"=some none)
    (Bm:nsIn K mainGlobals "range"=some none)
    (vU:nsIn K mainGlobals "reversed"=some none)
    (Px:nsIn K mainGlobals "set"=some none)
    (pU:nsIn K mainGlobals "sorted"=some none)
    (UI:nsIn K mainGlobals "sum"=some none)
    (hX:nsIn K mainGlobals "tuple"=some none)
    (kl3:KeysLit w.params te3.toList)
    : ∃ fd:FuncData,(∀(s:Shared) (v:Value),BindsTo s fd ⟨[v],[]⟩ [("script",v)])/\∀ base:Heap,K.In base->base.Ns mainGlobals mg->bG l.prog w K mg base Zt 40 fa fd ["script"] (HI K):=by
  have e:=hfa.symm.trans (mg_of X G a57);cases e;have T:Tx w K mg ⟨f0,_,f1,_,f2,_,f3,_,f4,_,f5,_,f6,_,f7,_,f8,_,f9,_,f10,_,f11,_,f12,_,f13,_,f14,_,f15,_,f16,_,f17,_,f18,_,f19,_,f20,_,f21,_,f22,_,f23,_,f24,_,f25,_,f26,_,f27,_,f28,_,f29,_,f30,_,f31,_,f32,_,f33,_,f34,_,f35,_,f36,_,f37,_,f38,_,f39,_,f40,_,f41,_,f42,_,f43,_,f44,_,f45,_,f46,_,f47,_,f48,_,f49,_,f50,_,f51,_,f52,_,f53,_,f54,_,f55,_,f56,_,fa,_,tk0,tk1,tk2,tp3,aJ,aW,aV⟩:=⟨F0,(F0.binds fun _ _ _ _ _ _=>bS fun _=>b0 rfl),(mg_of X G a0),F1,(F1.binds fun _ _ _ _ _ _=>bS fun _=>bS fun _=>bS fun _=>bS fun _=>bS fun _=>b0 rfl),(mg_of X G a1),F2,(F2.binds fun _ _ _ _ _ _=>bS fun _=>bS fun _=>bS fun _=>b0 rfl),(mg_of X G a2),F3,(F3.binds fun _ _ _ _ _ _=>bS fun _=>b0 rfl),(mg_of X G a3),F4,(F4.binds fun _ _ _ _ _ _=>bS fun _=>b0 rfl),(mg_of X G a4),F5,(F5.binds fun _ _ _ _ _ _=>bS fun _=>b0 rfl),⟨a5,i5,F5.kp⟩,F6,(F6.binds fun _ _ _ _ _ _=>bS fun _=>b0 rfl),⟨a6,i6,F6.kp⟩,F7,(F7.binds fun _ _ _ _ _ _=>bS fun _=>bS fun _=>b0 rfl),⟨a7,i7,F7.kp⟩,F8,(F8.binds fun _ _ _ _ _ _=>bS fun _=>b0 rfl),⟨a8,i8,F8.kp⟩,F9,(F9.binds fun _ _ _ _ _ _=>bS fun _=>bS fun _=>bS fun _=>b0 rfl),⟨a9,i9,F9.kp⟩,F10,(F10.binds fun _ _ _ _ _ _=>bS fun _=>bS fun _=>b0 rfl),⟨a10,i10,F10.kp⟩,F11,(F11.binds fun _ _ _ _ _ _=>bS fun _=>b0 rfl),⟨a11,i11,F11.kp⟩,F12,(F12.binds fun _ _ _ _ _ _=>bS fun _=>bS fun _=>b0 rfl),⟨a12,i12,F12.kp⟩,F13,(F13.binds fun _ _ _ _ _ _=>bS fun _=>bS fun _=>b0 rfl),⟨a13,i13,F13.kp⟩,F14,(F14.binds fun _ _ _ _ _ _=>bS fun _=>b0 rfl),⟨a14,i14,F14.kp⟩,F15,(F15.binds fun _ _ _ _ _ _=>bS fun _=>b0 rfl),⟨a15,i15,F15.kp⟩,F16,(F16.binds fun _ _ _ _ _ _=>bS fun _=>b0 rfl),⟨a16,i16,F16.kp⟩,F17,(F17.binds fun _ _ _ _ _ _=>bS fun _=>bS fun _=>b0 rfl),⟨a17,i17,F17.kp⟩,F18,(F18.binds fun _ _ _ _ _ _=>bS fun _=>b0 rfl),⟨a18,i18,F18.kp⟩,F19,(F19.binds fun _ _ _ _ _ _=>bS fun _=>b0 rfl),⟨a19,i19,F19.kp⟩,F20,(F20.binds fun _ _ _ _ _ _=>bS fun _=>bS fun _=>b0 rfl),(mg_of X G a20),F21,(F21.binds fun _ _ _ _ _ _=>bS fun _=>bS fun _=>b0 rfl),(mg_of X G a21),F22,(F22.binds fun _ _ _ _ _ _=>bS fun _=>bS fun _=>b0 rfl),(mg_of X G a22),F23,(F23.binds fun _ _ _ _ _ _=>bS fun _=>bS fun _=>b0 rfl),(mg_of X G a23),F24,(F24.binds fun _ _ _ _ _ _=>bS fun _=>bS fun _=>b0 rfl),(mg_of X G a24),F25,(F25.binds fun _ _ _ _ _ _=>bS fun _=>bS fun _=>b0 rfl),(mg_of X G a25),F26,(F26.binds fun _ _ _ _ _ _=>bS fun _=>bS fun _=>b0 rfl),(mg_of X G a26),F27,(F27.binds fun _ _ _ _ _ _=>bS fun _=>bS fun _=>b0 rfl),(mg_of X G a27),F28,(F28.binds fun _ _ _ _ _ _=>bS fun _=>bS fun _=>b0 rfl),⟨a28,i28,F28.kp⟩,F29,(F29.binds fun _ _ _ _ _ _=>bS fun _=>b0 rfl),⟨a29,i29,F29.kp⟩,F30,(F30.binds fun _ _ _ _ _ _=>bS fun _=>b0 rfl),⟨a30,i30,F30.kp⟩,F31,(F31.binds fun _ _ _ _ _ _=>bS fun _=>bS fun _=>b0 rfl),⟨a31,i31,F31.kp⟩,F32,(F32.binds fun _ _ _ _ _ _=>bS fun _=>bS fun _=>b0 rfl),⟨a32,i32,F32.kp⟩,F33,(F33.binds fun _ _ _ _ _ _=>bS fun _=>bS fun _=>bS fun _=>b0 rfl),⟨a33,i33,F33.kp⟩,F34,(F34.binds fun _ _ _ _ _ _=>bS fun _=>bS fun _=>bS fun _=>b0 rfl),⟨a34,i34,F34.kp⟩,F35,(F35.binds fun _ _ _ _ _ _=>bS fun _=>bS fun _=>b0 rfl),⟨a35,i35,F35.kp⟩,F36,(F36.binds fun _ _ _ _ _ _=>bS fun _=>b0 rfl),⟨a36,i36,F36.kp⟩,F37,(F37.binds fun _ _ _ _ _ _=>bS fun _=>bS fun _=>b0 rfl),⟨a37,i37,F37.kp⟩,F38,(F38.binds fun _ _ _ _ _ _=>bS fun _=>bS fun _=>b0 rfl),⟨a38,i38,F38.kp⟩,F39,(F39.binds fun _ _ _ _ _ _=>bS fun _=>bS fun _=>b0 rfl),⟨a39,i39,F39.kp⟩,F40,(F40.binds fun _ _ _ _ _ _=>bS fun _=>b0 rfl),⟨a40,i40,F40.kp⟩,F41,(F41.binds fun _ _ _ _ _ _=>bS fun _=>bS fun _=>b0 rfl),⟨a41,i41,F41.kp⟩,F42,(F42.binds fun _ _ _ _ _ _=>bS fun _=>bS fun _=>b0 rfl),⟨a42,i42,F42.kp⟩,F43,(F43.binds fun _ _ _ _ _ _=>bS fun _=>bS fun _=>b0 rfl),(mg_of X G a43),F44,(F44.binds fun _ _ _ _ _ _=>bS fun _=>bS fun _=>bS fun _=>b0 rfl),(mg_of X G a44),F45,(F45.binds fun _ _ _ _ _ _=>bS fun _=>bS fun _=>bS fun _=>b0 rfl),(mg_of X G a45),F46,(F46.binds fun _ _ _ _ _ _=>bS fun _=>bS fun _=>b0 rfl),(mg_of X G a46),F47,(F47.binds fun _ _ _ _ _ _=>bS fun _=>bS fun _=>b0 rfl),(mg_of X G a47),F48,(F48.binds fun _ _ _ _ _ _=>bS fun _=>b0 rfl),(mg_of X G a48),F49,(F49.binds fun _ _ _ _ _ _=>bS fun _=>bS fun _=>b0 rfl),(mg_of X G a49),F50,(F50.binds fun _ _ _ _ _ _=>bS fun _=>bS fun _=>b0 rfl),(mg_of X G a50),F51,(F51.binds fun _ _ _ _ _ _=>bS fun _=>bS fun _=>b0 rfl),(mg_of X G a51),F52,(F52.binds fun _ _ _ _ _ _=>bS fun _=>bS fun _=>b0 rfl),(mg_of X G a52),F53,(F53.binds fun _ _ _ _ _ _=>bS fun _=>b0 rfl),(mg_of X G a53),F54,(F54.binds fun _ _ _ _ _ _=>bS fun _=>b0 rfl),(mg_of X G a54),F55,(F55.binds fun _ _ _ _ _ _=>bS fun _=>bS fun _=>b0 rfl),(mg_of X G a55),F56,(F56.binds fun _ _ _ _ _ _=>bS fun _=>bS fun _=>b0 rfl),(mg_of X G a56),F57,(F57.binds fun _ _ _ _ _ _=>bS fun _=>b0 rfl),(mg_of X G a57),⟨aaU,aaR,aaV,aaW⟩,(mg_of X G aaP),⟨uP,a5,i5,aaT⟩,⟨abO,abD,abP,abQ⟩,(mg_of X G abA),⟨FQ,a13,i13,abK⟩,⟨acF,ab1,acG,acI⟩,(mg_of X G abT),⟨Hu,a28,i28,acB⟩,uS,gJ,gH,iH,eT,kB,dF,Cc,sQ,fZ,cJ,gI,(mg_of X G v0),(mg_of X G v1),(mg_of X G v2),(mg_of X G v3),⟨_,_,u3,kl3⟩,ac4,ac5,ac6,ac7,ac8,ac9,adA,adB,adC,(mg_none_of X G rP),(mg_none_of X G DA),(mg_none_of X G ML),(mg_none_of X G Pt),(mg_none_of X G Bm),(mg_none_of X G vU),(mg_none_of X G Px),(mg_none_of X G pU),(mg_none_of X G UI),(mg_none_of X G hX)⟩;refine⟨d57,?_,fun base _ _=>Tz T⟩;obtain⟨_,_,_,_,_,_,_,_,_,rfl,_⟩:=F57.ex;exact fun s v=>.of_eq rfl
end
theorem walk{l:PySem.W.OpenLaw}{q:Program}{loose:List Str}{XP:(q0C)->Heap->Prop}{YP:World->Heap->Prop}{d:DefRec}{K:Params->q0B}(hn:l.most=some 63)(hdf:d.params.defaults=[])
    (hY:∀(w:World) (h:Heap),YP w h->(K w.params).In h)
    (F:∀(w:World) (mg:q0C) (fa:Addr) (h:Heap),(K w.params).In h->h.Ns mainGlobals mg->mg d.name=some (.ref fa) ->
      ∃ fd:FuncData,(∀(s:Shared) (u:Value),BindsTo s fd ⟨[u],[]⟩ [("script",u)])/\∀ base:Heap,(K w.params).In base->base.Ns mainGlobals mg->bG l.prog w (K w.params) mg base Zt 40 fa fd ["script"] (HI (K w.params))) :
    PySem.W.WalkO q loose XP YP l.row.toRowW d [] (fun f vs=>PySem.call f vs) :=
  L2.Pr (n:=63) (k:=40) (x:="script") (CX:=fun _=>Zt) (sp:=fun w=>HI (K w.params)) hn (by decide) hdf ⟨rfl,by decide,by decide⟩ hY F (fun _ _ a ns hl _ hS=>⟨a,ns,rfl,hS,hl,fun _=>rfl⟩) fun _ _ _ _ _ z=>z
end Own
open PySem PySem.W PyProof.Rows
set_option maxRecDepth 100000 in
set_option maxHeartbeats 0 in
theorem PySem.Challenge.cw_outlast_k34_whole_let_by_goes_on_holds : PySem.Challenge.rw_outlast_k34_whole_let_by_goes_on.Holds := by
 w_on;o_law;z_head;(case hw=>w_witness2)
 k_fill
 refine Own.MK (fun _=>rfl) ?_;refine Own.walk (l:=PySem.Challenge.rw_outlast_k34_whole_let_by_goes_on) rfl rfl (fun w h Y=>PySem.W.kIn_of Y) ?F
 case F =>
  intro w mg fa h KX G hmg;apply Own.QL KX G hmg
  iterate 203 (first|(apply L2.S7<;>k_is)|k_is)
  exact⟨⟨_,_,rfl,rfl⟩,⟨_,_,rfl,rfl⟩,⟨_,_,rfl,rfl⟩,⟨_,_,rfl,rfl⟩,⟨_,_,rfl,rfl⟩,⟨_,_,rfl,rfl⟩,⟨_,_,rfl,rfl⟩,⟨_,_,rfl,rfl⟩,⟨_,_,rfl,rfl⟩,trivial⟩
