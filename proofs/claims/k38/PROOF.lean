import PyProof.Rows.All
import Wide.All
import OpenK.AllK
import Wide.FinOn
import Lean
import PyProof.EqAt
import PyProof.EqKinds
import PyProof.TupleCall
import PySem.Challenge.RW_outlast_k38_whole_never_is_never
set_option Elab.async false
set_option linter.all false
set_option compiler.extract_closed false
set_option bootstrap.genMatcherCode false
set_option genSizeOf false
set_option backward.eqns.nonrecursive false
set_option maxRecDepth 100000
local macro_rules | `(tactic| omega) => `(tactic| first | assumption | lia | omega +splitDisjunctions)
noncomputable section
local macro_rules
|`(mutual example:=[$ts,*] $cs:command* end)=>do
 let f(D:Array Lean.Syntax)(s:Lean.Syntax):=s.rewriteBottomUp fun s=>if s.isOfKind `scientific then (match s[0].getAtomVal.splitOn "e" with|[a,b]=>D[10*b.toNat!+a.toNat!]!|_=>s) else s.setInfo .none
 let D:=ts.getElems.foldl (fun D t=>D.push (f D t)) #[]
 return Lean.mkNullNode (cs.map fun c=>let s:=f D c;if s.isOfKind `Lean.Parser.Command.declaration&&(s[1].isOfKind `Lean.Parser.Command.definition||s[1].isOfKind `Lean.Parser.Command.abbrev) then s.setArg 0 (s[0].setArg 4 (Lean.mkNullNode #[Lean.mkNode `Lean.Parser.Command.noncomputable #[Lean.mkAtom "noncomputable"]])) else s)
namespace PySem.W.Fast
mutual
example:=[]
def tw16563178989771153872:=0
def tw14872725221694828899:=0
def tw14003907610191162920:=0
def tw4228087477404701103:=0
def tw7213390531339564277:=0
def tw2983171217988503572:=0
def tw13316810176864213042:=0
def tw6482474227469335321:=0
def tw14093115913498056128:=0
def tw772182141486836932:=0
def tw4459506270424476909:=0
def tw7573975644931354962:=0
def tw14323401995642391433:=0
def tw16880865840279335988:=0
def tw11035315114455872619:=0
def tw8662420479212408503:=0
def tw3205826417130247686:=0
def tw11174692978486930238:=0
def tw4900501932304321998:=0
def tw18148886631130860502:=0
def tw6299500448259269878:=0
def tw15103900881638105908:=0
def tw18233630041091828375:=0
def tw14203504616666522717:=0
def tw14704247512768416357:=0
def tw12828199914835475271:=0
def tw12859889753817622982:=0
def tw10193620613763473086:=0
def tw4253174788006492978:=0
def tw13068121665810053447:=0
def tw5803341915062688960:=0
def tw13644617397472603088:=0
def tw9871147993403607009:=0
def tw16340665845346855436:=0
def tw9102658289426017490:=0
def tw17372564200826677698:=0
def tw17104917113435341929:=0
def tw5652047530952966713:=0
def tw1062464002904736574:=0
def tw3439441328529309448:=0
def tw6706537517868913570:=0
def tw671772214704107889:=0
def tw13897425006992033428:=0
def tw12292348075566074962:=0
def tw17713801920216125865:=0
def tw13226797158005835985:=0
def tw16297031240935893102:=0
def tw14447669466443477923:=0
def tw1228171159550426948:=0
def tw14382359653219367458:=0
def tw11672314411757658193:=0
def tw4973544693355369848:=0
def tw14720512857090408402:=0
def tw7557104816039091413:=0
def tw17090348059619404813:=0
def tw15658748250425151196:=0
def tw18224758792921014397:=0
def tw2910353969669075273:=0
def tw17153032910773614976:=0
def tw6583199227203844989:=0
def tw13166843289591983582:=0
def tw2073569546674538492:=0
def tw13659377981279261001:=0
def tw12183270982158089526:=0
def tw8554442096228255816:=0
def tw4070592354724833415:=0
def tw11976687210565781431:=0
def tw2970617502618455498:=0
def tw7363301305894454403:=0
def tw9064478719361031801:=0
def tw2321596602100881884:=0
def tw10344859668510763670:=0
def tw6145624793581586546:=0
def tw4651732818390322243:=0
def tw8806884103659084875:=0
def tw13925091753443240304:=0
def tw5574115969501113419:=0
def tw7761716645370406610:=0
def tw16634617956104084347:=0
def tw7705476324841535468:=0
def tw5546566381765298349:=0
def tw8522585278047936273:=0
def tw7838723345634224921:=0
def tw14336288460259257762:=0
def tw5310346282632153956:=0
def tw12473336959716257715:=0
def tw4776642470697506778:=0
def tw17291898134734866268:=0
def tw88861422778023708:=0
def tw10804165129869784579:=0
def tw1618330623321750173:=0
def tw1794657896296518661:=0
def tw7806282087176377338:=0
def tw6889273957168016802:=0
def tw15389480366666878307:=0
def tw1958244076719229656:=0
def tw5910444543334260319:=0
def tw5384992697182158328:=0
def tw5417723115185717921:=0
def tw11825804665675895174:=0
def tw3001710513411375241:=0
def tw13150439649216208504:=0
def tw902910292063050726:=0
def tw10788891157681342116:=0
def tw4395489331460593283:=0
def tw11080535719441513012:=0
def tw16583806020657463108:=0
def tw2387302075421449366:=0
def tw9550861915353240826:=0
def tw3715633018045498152:=0
def tw10165434898068792120:=0
def tw2937899299613933557:=0
def tw15924891533678834755:=0
def tw14814148204367883356:=0
def tw218713028958124625:=0
def tw17889720615522606933:=0
def tw1283339619009746926:=0
def tw10936010363347315768:=0
def tw11057456161230472110:=0
def tw15993133094014295754:=0
def tw5327139921271518215:=0
def tw10300729473063641558:=0
def tw7216376291841622676:=0
def tw1855098227981709310:=0
def tw17629581228702459093:=0
def tw7859361843440561141:=0
def tw10757864070327541382:=0
def tw737601941578260524:=0
def tw7102089855400673645:=0
def tw12279916359598020321:=0
def tw18398019348701909155:=0
def tw7808250579196339421:=0
def tw17734282683713573552:=0
def tw2539645220743055566:=0
def tw10499845557303084491:=0
def tw10550651908356929062:=0
def tw595390131892399999:=0
def tw3558428249526408628:=0
def tw12868057256416629348:=0
def tw13116455546518367324:=0
def tw17468697475327742018:=0
def tw14729665966025189569:=0
def tw6997483150534581800:=0
def tw15811197487262616078:=0
def tw7542900904218954168:=0
def tw17646755955768964780:=0
def tw8624708251910363254:=0
def tw10895152216837404680:=0
def tw1273899501257719715:=0
def tw16338376602631407623:=0
def tw13994536307817541113:=0
def tw9843663900079719222:=0
def tw5288059136394546770:=0
def tw9299596139558540965:=0
def tw18361526758406616673:=0
def tw278829545509774290:=0
def tw8444835599268187548:=0
def tw13434434995625028422:=0
def tw2908328138261487903:=0
def tw8916631167190500878:=0
def tw2443302022719878477:=0
def tw999793228663405417:=0
def tw7965287315651385124:=0
def tw8699993243725256720:=0
def tw6974083615639862919:=0
def tw9183044439501633636:=0
def tw15976743883070255178:=0
def tw7480376464100991384:=0
def tw3227493535891328061:=0
def tw3945891208973391866:=0
def tw10834318659679965984:=0
def tw16545146741688997043:=0
def tw14856557485266604437:=0
def tw6622234941040127748:=0
def tw186405120456130441:=0
def tw1542504044765475053:=0
def tw12860049353404457627:=0
def tw4911888592728092372:=0
def tw13506414369216841929:=0
def tw12269362964648853663:=0
def tw7083204646014730895:=0
def tw1897496750755454084:=0
def tw11713335684557539257:=0
def tw2631354466249920523:=0
def tw16386510200724852333:=0
def tw10190319051747751932:=0
def tw13219701873594949113:=0
def tw2509174016154764431:=0
def tw14145536958941564982:=0
def tw6558491798173853258:=0
def tw8017296093396432174:=0
def tw12300490639041990578:=0
def tw9879759771493090999:=0
def tw6100713024224869361:=0
def tw3949989667501042453:=0
def tw17739550266784248423:=0
def tw11796172758976561580:=0
def tw3763731512218917017:=0
def tw17594711430528977306:=0
def tw5675721354399126989:=0
def tw12362884306276778175:=0
def tw3179228911738067541:=0
def tw3316481120589390605:=0
def tw14282071394050532661:=0
def tw13564590823007732948:=0
def tw17220551968157958136:=0
def tw22585463502195194:=0
def tw15206084761301659876:=0
def tw15125768389043735646:=0
def tw14566978083108613568:=0
def tw16707890900407796927:=0
def tw16418635856316905785:=0
def tw15245233537083372830:=0
def tw7851824504198436945:=0
def tw11481251270255304582:=0
def tw10640579448793476949:=0
def tw2055646120012346560:=0
def tw5718435389340170188:=0
def tw10428921536280437537:=0
def tw4815850749778789739:=0
def tw17723155178892676681:=0
def tw5247423921974762268:=0
def tw15969332306949531880:=0
def tw8447121015105009752:=0
def tw3904382739176415325:=0
def tw3885576999903523108:=0
def tw3668771959894893889:=0
def tw14768346520385947867:=0
def tw11153638172737295767:=0
def tw945505736091325397:=0
def tw2598180450212756070:=0
def tw7983230649364289380:=0
def tw6671948591082226026:=0
def tw3878060281857003337:=0
def tw13256904714598047482:=0
def tw8719077409207568229:=0
def tw2863007951260229304:=0
def tw11009268242002022016:=0
def tw14671555824658290913:=0
def tw11179485260876575989:=0
def tw9699428777497078878:=0
def tw16033718253882210392:=0
def tw11335878930438140207:=0
def tw4755708807501058752:=0
def tw6027115641690300058:=0
def tw18377477725643169140:=0
def tw11447212482974343985:=0
def tw1545517363122426039:=0
def tw3312107983671398953:=0
def tw9223243329844658101:=0
def tw8172700651452219722:=0
def tw9503180724771497705:=0
def tw7194647906707325810:=0
def tw14939892926915186153:=0
def tw11538395114452187199:=0
def tw5900146290687353453:=0
def tw5153408300008675334:=0
def tw18255676001486315436:=0
def tw16696753367366754606:=0
def tw15342727306163519759:=0
def tw12007912149812074451:=0
def tw7791213874342987952:=0
def tw2609720847489085995:=0
def tw15058659325559522542:=0
def tw477856214179227488:=0
def tw12869978433299033201:=0
def tw11250514333381577118:=0
def tw9393873288157002422:=0
def tw18193810050845980890:=0
def tw3986455169203635699:=0
def tw6232329629080676581:=0
def tw7356566897255691114:=0
def tw16673133748491763439:=0
def tw18166511620833204279:=0
def tw6290569286122721076:=0
def tw15434056836865901092:=0
def tw7881445885878824844:=0
def tw13757784365860093346:=0
def tw148044616261681542:=0
def tw10894297541922722524:=0
def tw13625607572229619411:=0
def tw10708084516176591614:=0
def tw5618277708551590688:=0
def tw4609960372442882792:=0
def tw12031116345190215376:=0
def tw17229472539915287827:=0
def tw688597739985348112:=0
def tw10569020390818207037:=0
def tw10534473474245064040:=0
def tw1838421346468829378:=0
def tw17843205871251168586:=0
def tw15508445359533421875:=0
def tw15315532427132939690:=0
def tw14933829189643129054:=0
def tw13273229317037001151:=0
def tw14677020178047711812:=0
def tw7254710772915100896:=0
def tw4008180471043686515:=0
def tw17715099411858862403:=0
def tw9177726666111324791:=0
def tw16320899782189344364:=0
def tw7648315279942890200:=0
def tw3071238194823961885:=0
def tw244196781582721676:=0
def tw18075253884237673018:=0
def tw2981512344748533997:=0
def tw16624192195304240821:=0
def tw17387971619272882775:=0
def tw15041622501990888435:=0
def tw7893994619166012138:=0
def tw17543045209802339204:=0
def tw16670485956139875983:=0
def tw9973076974318274024:=0
def tw10127638930969815667:=0
def tw8323556389815110377:=0
def tw2697535021906864915:=0
def tw11422258786242442096:=0
def tw10392039783744234251:=0
def tw8250526575109361086:=0
def tw8216959405848318854:=0
def tw6639856350434921780:=0
def tw2060002117656484962:=0
def tw565458436285388690:=0
def tw14293231975741055086:=0
def tw13970575784872563735:=0
def tw10695219032976441166:=0
def tw5390295410290190215:=0
def tw3097553918183162737:=0
def tw16379063133612365520:=0
def tw3841960358384880298:=0
def tw4634118822670308916:=0
def tw17235915520075271365:=0
def tw6232064845972751646:=0
def tw16944853017658572569:=0
def tw10364305622898793743:=0
def tw13391646056804428059:=0
def tw13608881827786396765:=0
def tw6022939420431085979:=0
def tw9393194068008033413:=0
def tw8309087179159158415:=0
def tw8312320910243806885:=0
def tw7364289639615256383:=0
def tw7225827580476363278:=0
def tw390191712575212944:=0
def tw3809195752279709492:=0
def tw2899344273951655767:=0
def tw2447149729790686053:=0
def tw1882031313845000203:=0
def tw18171627779943733590:=0
def tw17008579198743594880:=0
def tw14322672819506918932:=0
def tw1019649004994176617:=0
def tw10168850712039964944:=0
def tw6880471417245971388:=0
def tw3952976752053236315:=0
def tw16881114221355543167:=0
def tw11577938079678309797:=0
def tw972142704092064404:=0
def tw5675024646795217058:=0
def tw3765287683028275854:=0
def tw12468793101948926683:=0
def tw13717001092428104389:=0
def tw10561579953374957581:=0
def tw10239500656918256691:=0
def tw1844333112221656371:=0
def tw1393603812972474619:=0
def tw12727677641800840535:=0
def tw9772024674950107974:=0
def tw9756979914882962201:=0
def tw9548659918683665313:=0
def tw9436107160264824368:=0
def tw9429288370114215281:=0
def tw9329743633066815744:=0
def tw9183678844864520299:=0
def tw9091248384760674481:=0
def tw9013564431285295838:=0
def tw8633973080716873889:=0
def tw861762572746042868:=0
def tw8590774088296530805:=0
def tw8513988456332533530:=0
def tw8292260646755104630:=0
def tw8177758441800240091:=0
def tw7870770501682643144:=0
def tw7792496404916177202:=0
def tw774492398449921309:=0
def tw7714341362486037122:=0
def tw7692224296604968354:=0
def tw7426589561208070818:=0
def tw7209749420555581305:=0
def tw7177753106933607960:=0
def tw6960277158995804671:=0
def tw6831227970780555762:=0
def tw6747569559565365156:=0
def tw6547773583633727105:=0
def tw6439846582350530353:=0
def tw6348282827032752644:=0
def tw634563593015339053:=0
def tw6193785447275653675:=0
def tw6134646904132157761:=0
def tw6021024508811179176:=0
def tw5953827704013615199:=0
def tw5928884470221698968:=0
def tw5817449895241593880:=0
def tw574869974727169569:=0
def tw5570547771166209809:=0
def tw5512505383398520737:=0
def tw5436043538097892430:=0
def tw5435195119337447069:=0
def tw5402261836856344720:=0
def tw5379927278664119858:=0
def tw5324911128316919370:=0
def tw5179217916160375324:=0
def tw511026889116482242:=0
def tw5084378182895386520:=0
def tw4982877377535292892:=0
def tw4920708449509750324:=0
def tw484306367830995077:=0
def tw4752821369212541645:=0
def tw4673843114247809509:=0
def tw4659931099302594116:=0
def tw4638541597271103129:=0
def tw4603328032477611022:=0
def tw4526513526604001191:=0
def tw4391464391576718140:=0
def tw3758511641473236439:=0
def tw3726718043104047862:=0
def tw3472110124638224654:=0
def tw3452082415038813892:=0
def tw3399217827413670441:=0
def tw3348901692038754398:=0
def tw3290678194874393888:=0
def tw3195631325162853471:=0
def tw3034491333736132481:=0
def tw3006053260408509047:=0
def tw2995044479896571558:=0
def tw2850395003824487096:=0
def tw2797282507764553096:=0
def tw2770357435156250584:=0
def tw2751533477738901828:=0
def tw2614414767085312515:=0
def tw2512820840343397164:=0
def tw2222918698734755239:=0
def tw2168443990669422049:=0
def tw2020643263215977181:=0
def tw1910322602436500355:=0
def tw18393421713784977510:=0
def tw18350870375287439461:=0
def tw18319861200707033562:=0
def tw18315316280552747180:=0
def tw18067904464608745595:=0
def tw17979780961641163734:=0
def tw17860668250776019417:=0
def tw17841196102102704518:=0
def tw17766137499834047449:=0
def tw17619852516151539390:=0
def tw17468786106409302972:=0
def tw17388317944058258777:=0
def tw1712554484630832676:=0
def tw16929016728053614575:=0
def tw16761226441276342432:=0
def tw1668093134092581669:=0
def tw16639394877012736127:=0
def tw16160937155604984974:=0
def tw16059394886714002669:=0
def tw16019771991858020059:=0
def tw15999257090624642996:=0
def tw15997858321120895475:=0
def tw15765512339920580271:=0
def tw15637876871964403858:=0
def tw15527567543664905690:=0
def tw15504699376459590950:=0
def tw15200743343993608577:=0
def tw15194830118816474263:=0
def tw1502959262226699221:=0
def tw15013023879183354443:=0
def tw1478042033029381115:=0
def tw14585944516737081878:=0
def tw14475502163282067829:=0
def tw14427226294596122255:=0
def tw14419054431121394340:=0
def tw14381763473984454438:=0
def tw14309074229345740626:=0
def tw14306128151712760615:=0
def tw14293942332748888013:=0
def tw14260976308314196537:=0
def tw14073718984488940485:=0
def tw14049645178589487225:=0
def tw14021409655762570713:=0
def tw13943904635567119465:=0
def tw13902639017196652432:=0
def tw13824391011843922002:=0
def tw13747817325965036589:=0
def tw13591628922556427132:=0
def tw13400250573222493295:=0
def tw13194059209410855122:=0
def tw13111771319302877469:=0
def tw13050933275664940497:=0
def tw1293289111553994158:=0
def tw12874336040634696742:=0
def tw1282433444049085289:=0
end
end PySem.W.Fast
mutual
example:=[]
abbrev q0A:=PySem.Value->PySem.Shared->Prop
abbrev q0B:=PySem.W.Frag
abbrev q0C:=PySem.Str->Option PySem.Value
def Α:=@PySem.wpAny_bind
def Β:=@PySem.wpAny_pure
def Γ:=@PySem.Heap.get?_push_of_some
def Δ:=@List.length_map
def Ε:=@List.mem_cons
def Ζ:=@Nat.le_refl
def Η:=@List.size_toArray
def Θ:=@List.not_mem_nil
def Ι:=@List.length_append
def Κ:=@List.length_cons
def Λ:=@List.getElem?_eq_some_iff
def Μ:=@List.getElem?_eq_getElem
def Ν:=@PySem.Heap.get?_push_size
def Ξ:=@List.mem_cons_of_mem
def Ο:=@PySem.Heap.lt_size
def Ρ:=@Nat.ne_of_lt
def Τ:=@List.mem_singleton
def Υ:=@List.mem_append
def Φ:=@List.mem_of_getElem?
def Χ:=@List.cons_append
def Ψ:=@List.getElem?_map
def Ω:=@List.getElem?_cons_zero
def ϐ:=@Nat.lt_of_lt_of_le
def ϑ:=@Option.map_eq_some_iff
def ϒ:=@Option.some.injEq
def ϓ:=@Bool.false_ne_true
def ϔ:=@List.map_cons
def ϕ:=@Nat.le_trans
def ϖ:=@Nat.zero_le
def ϗ:=@List.mem_append_right
def Ϙ:=@List.map_append
def ϙ:=@PySem.wpAny_newObj_type
def Ϛ:=@Option.some.inj
def ϛ:=@List.nil_append
def Ϝ:=@List.mem_map
def ϝ:=@or_false
def Α0:=@List.length_take
def Α1:=@List.length_singleton
def Α2:=@Nat.lt_irrefl
def Α3:=@PyProof.Rows.slot_tuple_getitem
def Α4:=@PySem.Around.under_plainId
def Α5:=@PySem.Heap.get?_update_self
def Α6:=@List.take_add_one
def Α7:=@PySem.builtinLookup_eq_fast
def Α8:=@List.length_nil
def Α9:=@PySem.wpAny_call_entry
def Β0:=@PySem.wpAny_setState_of
def Β1:=@List.map_map
def Β2:=@PySem.wpAny_callSpecial?_slot
def Β3:=@Bool.and_eq_true
def Β4:=@PySem.Heap.SameBut.update
def Β5:=@PySem.codeAny_builtin
def Β6:=@beq_eq_false_iff_ne
def Β7:=@PySem.Obj.data_mapFields
def Β8:=@PySem.wpAny_holding
def Β9:=@List.take_length
def Γ0:=@PySem.PassesOwn.never
def Γ1:=@Array.getElem?_eq_getElem
def Γ2:=@decide_eq_false
def Γ3:=@List.mem_filter
def Γ4:=@List.cons.injEq
def Γ5:=@Bool.eq_iff_iff
def Γ6:=@PySem.Heap.get?_update_other
def Γ7:=@PySem.Calls.callWith_builtin
def Γ8:=@Option.join_some
def Γ9:=@Array.length_toList
def Δ0:=@List.getD_eq_getElem?_getD
def Δ1:=@List.forall_mem_cons
def Δ2:=@Bool.false_eq_true
def Δ3:=@Nat.le_succ
def Δ4:=@List.take_of_length_le
def Δ5:=@List.all_eq_true
def Δ6:=@PySem.typeLookup_type
def Δ7:=@PySem.plainId_quiet
def Δ8:=@List.getElem?_eq_none
def Δ9:=@PySem.F.type_list_extend
def Ε0:=@PySem.F.slot_list_extend
def Ε1:=@decide_eq_true
def Ε2:=@List.pairwise_cons
def Ε3:=@PySem.wpAny_mono
def Ε4:=@List.mem_append_left
def Ε5:=@Int.toNat_natCast
def Ε6:=@Ne.symm
def Ε7:=@Array.getElem?_toList
def Ε8:=@PySem.wpAny_typeOf
def Ε9:=@PySem.call_meetsIn
def Ζ0:=@PySem.F.called_set
def Ζ1:=@Int.emod_lt_of_pos
def Ζ2:=@PySem.wpAny_of_eq
def Ζ3:=@PySem.sizeLine_eq
def Ζ4:=@List.map_nil
def Ζ5:=@PySem.Calls.spliced_cons
def Ζ6:=@PySem.F.plainAttrs_dict
def Ζ7:=@List.length_eq_zero_iff
def Ζ8:=@decide_eq_true_eq
def Ζ9:=@Function.comp_def
def Η0:=@List.append_nil
def Η1:=@List.mergeSort_perm
def Η2:=@List.filterMap_cons
def Η3:=@PySem.isSubtype_type
def Η4:=@PySem.wpAny_field
def Η5:=@congrArg
def Η6:=@PySem.wpAny_truthy_bool
def Η7:=@PySem.F.slot_dict_get
def Η8:=@if_false
def Η9:=@congrFun
def Θ0:=@List.getElem?_eq_none_iff
def Θ1:=@List.drop_eq_getElem_cons
def Θ2:=@Int.emod_nonneg
def Θ3:=@List.mem_of_mem_take
def Θ4:=@PySem.wpAny_Call_Name_kw
def Θ5:=@PySem.wpAny_setField
def Θ6:=@PySem.Obj.isFreed_of_fields
def Θ7:=@Int.le_refl
def Θ8:=@Option.isSome_iff_exists
def Θ9:=@PySem.mem_of_lookup
def Ι0:=@PySem.wpAny_specialOf
def Ι1:=@PySem.lookup_relabel_local
def Ι2:=@PySem.Calls.evalArgs_plain
def Ι3:=@List.any_eq_true
def Ι4:=@Nat.lt_trans
def Ι5:=@PySem.wpAny_isInstance
def Ι6:=@List.nodup_cons
def Ι7:=@PyProof.Rows.callWith_type1
def Ι8:=@Nat.lt_succ_of_lt
def Ι9:=@Array.getElem?_eq_some_iff
def Κ0:=@PySem.wpAny_passesOwn
def Κ1:=@List.mem_range
def Κ2:=@PySem.wpAny_attempt
def Κ3:=@Nat.lt_succ_self
def Κ4:=@List.mem_flatMap
def Κ5:=@List.getElem_mem
def Κ6:=@PySem.eqIsQuiet_byValue
def Κ7:=@PySem.Calls.spliced_nil
def Κ8:=@PyProof.Rows.F.plain_set_update_loop
def Κ9:=@List.map_congr_left
def Λ0:=@PySem.wpAny_askSetting
end
namespace L2
open PySem PySem.Spec PyProof.Rows
mutual
example:=[]
variable{C a b:Addr}{A:Around}{g':Array GenState}{op:CmpOp}{c e tg:Expr}{fd:FuncData}{base h:Heap}{Xy:List (Addr×Obj)}{kw:List (Str×Value)}{ch fp:List Addr}{outer:List Env}{es:List Expr}{body:List Stmt}{ps:List Str}{us:List Value}{M:Model}{i k n t':Nat}{pos:Pos}{P:Program}{scope:Scope}{pl:Sem Bool}{s s':Shared}{x:Str}{Q:Unit->Shared->Prop}{u:Value}{f:Value->Value->Sem Value}{w:World}{E:q0A}{K:q0B}{mg:q0C}
inductive Key where
 | inl (i:Int)|inr (x:Str)|no
 deriving DecidableEq
def j0:Key->Value->Bool
 | .inl k,v=>Value.isInt k v
 | .inr x,v=>Value.isStrOf x v
 | .no,.none=>true
 | .no,_=>false
def WY(w:World):Key->Int
 | .inl k=>hashInt k
 | .inr x=>hashStr w x
 | .no=>reduceHash 0xFCA86420
theorem dD:∀{k:Key} {v:Value},j0 k v=true->(∃i t,k=Key.inl i/\v=Value.int i t)\/(∃x t,k=Key.inr x/\v=Value.str x t)\/(k=Key.no/\v=Value.none)
 | .inl i,v,h=>by
  obtain⟨t,e⟩:=Value.isInt_shape (k:=i) (v:=v) h;exact .inl ⟨i,t,rfl,e⟩
 | .inr x,v,h=>by
  obtain⟨t,e⟩:=Value.isStrOf_shape (x:=x) (v:=v) h;exact .inr (.inl ⟨x,t,rfl,e⟩)
 | .no,v,h=>by
  cases v<;>first|exact .inr (.inr ⟨rfl,rfl⟩)|cases h
def AX(i:Int)(t:Tok):j0 (.inl i) (.int i t)=true:=by simp[j0,Value.isInt]
def AY(x:Str)(t:Tok):j0 (.inr x) (.str x t)=true:=by simp[j0,Value.isStrOf]
theorem SX(a b:Int):decide (Key.inl a=Key.inl b)=(a==b):=by
 by_cases e:a=b
 ·subst e;simp
 ·have h:¬ Key.inl a=Key.inl b:=λq=>e (Key.inl.inj q);rw[Γ2 h];exact(Β6.mpr e).symm
theorem SY(a b:Str):decide (Key.inr a=Key.inr b)=decide (a=b):=by
 by_cases e:a=b
 ·subst e;simp
 ·have h:¬ Key.inr a=Key.inr b:=λq=>e (Key.inr.inj q);rw[Γ2 h,Γ2 e]
def aR(prog:Program)(w:World):PySem.KeyKind prog w Key where
 is:=j0
 hash:=WY w
 inj:=λv a b ha hb=>by
  rcases dD ha with⟨i,t,rfl,rfl⟩|⟨x,t,rfl,rfl⟩|⟨rfl,rfl⟩<;>rcases dD hb with⟨j,u,rfl,e⟩|⟨y,u,rfl,e⟩|⟨rfl,e⟩ <;>
   first|rfl|(cases e<;>rfl)
 byValue:=λk v h=>by
  rcases dD h with⟨i,t,rfl,rfl⟩|⟨x,t,rfl,rfl⟩|⟨rfl,rfl⟩<;>rfl
 pyHash:=λhv h=>by
  rcases dD hv with⟨i,t,rfl,rfl⟩|⟨x,t,rfl,rfl⟩|⟨rfl,rfl⟩
  ·exact wpAny_pyHash_int h
  ·exact wpAny_pyHash_str h
  ·exact PySem.W.pyHash_slot (T:="NoneType") rfl F.slot_NoneType_hash F.entry_NoneType_hash (F.args_NoneType_hash_1 _) (beq_builtin_none _) (.inl rfl) (Α (Β (Α (wpAny_mkInt (Β ⟨_,_,rfl,h⟩)))))
 eqBool:=λhu hv h=>by
  rcases dD hu with⟨i,t,rfl,rfl⟩|⟨x,t,rfl,rfl⟩|⟨rfl,rfl⟩<;>rcases dD hv with⟨j,u,rfl,rfl⟩|⟨y,u,rfl,rfl⟩|⟨rfl,rfl⟩
  ·rw[SX] at h;exact wpAny_eqBool_int h
  ·exact SeqAt.EqAt.int_str i t y u _ _ _ _ h
  ·exact SeqAt.EqAt.int_none i t _ _ _ _ h
  ·exact SeqAt.EqAt.str_int x t j u _ _ _ _ h
  ·rw[SY] at h;exact wpAny_eqBool_str h
  ·exact SeqAt.EqAt.str_none x t _ _ _ _ h
  ·exact SeqAt.EqAt.none_int j u _ _ _ _ h
  ·exact SeqAt.EqAt.none_str y u _ _ _ _ h
  ·exact SeqAt.EqAt.same .none _ _ _ _ h
 «strs»:=λk x t v h=>by
  rcases dD h with⟨i,u,rfl,e⟩|⟨y,u,rfl,e⟩|⟨rfl,e⟩
  ·exact nomatch e
  ·injection e with e1 _
   subst e1;cases v<;>rfl
  ·exact nomatch e
def Dt(prog:Program)(w:World)(i:Int)(t:Tok):(aR prog w).is (.inl i) (.int i t)=true:=AX i t
def Du(prog:Program)(w:World)(x:Str)(t:Tok):(aR prog w).is (.inr x) (.str x t)=true:=AY x t
inductive V where
 | XB|bl (b:Bool)|int (i:Int)|str (x:Str)|byt (b:Array UInt8)|flt (b:UInt64)|ref (a:Addr)|ty (n:String)
 deriving DecidableEq
variable{vs xs:List V}{v:V}
def bC:V->Value->Prop
 | .XB,u=>u=Value.none
 | .bl b,u=>u=Value.bool b
 | .int i,u=>∃t,u=Value.int i t
 | .str x,u=>∃t,u=Value.str x t
 | .byt b,u=>∃t,u=Value.bytes b t
 | .flt b,u=>∃t,u=Value.float b t
 | .ref a,u=>u=Value.ref a
 | .ty n,u=>u=Value.type n
abbrev XD:List V->List Value->Prop:=Paired bC
def XD.length(r:XD xs us):xs.length=us.length:=Paired.length r
theorem XD.get:∀{xs:List V} {us:List Value} {i:Nat} {x:V},XD xs us->xs[i]?=some x->∃u,us[i]?=some u/\bC x u
 | _,_,_,_,.nil,e=>by simp at e
 | _,_,0,_,.cons r _,e=>by simp at e;subst e;exact⟨_,rfl,r⟩
 | _,_,i+1,x,.cons _ t,e=>by
  obtain⟨u,h1,h2⟩:=XD.get (i:=i) (x:=x) t (by simpa using e);exact⟨u,by simpa using h1,h2⟩
theorem XD.set{x:V}{u:Value}(r:bC x u):∀{xs:List V} {us:List Value} (i:Nat),XD xs us->XD (xs.set i x) (us.set i u)
 | _,_,_,.nil=>.nil
 | _,_,0,.cons _ t=>.cons r t
 | _,_,i+1,.cons q t=>.cons q (XD.set r i t)
def XD.append{ys:List V}{ws:List Value}(h:XD xs us)(s:XD ys ws):XD (xs++ys) (us++ws):=by
 induction h with
 | nil=>exact s
 | cons r _ ih=>exact .cons r ih
theorem XD.take:∀{xs:List V} {us:List Value} (n:Nat),XD xs us->XD (xs.take n) (us.take n)
 | _,_,0,_=>.nil
 | _,_,_+1,.nil=>.nil
 | _,_,n+1,.cons r t=>.cons r (XD.take n t)
theorem XD.drop:∀{xs:List V} {us:List Value} (n:Nat),XD xs us->XD (xs.drop n) (us.drop n)
 | _,_,0,r=>r
 | _,_,_+1,.nil=>.nil
 | _,_,n+1,.cons _ t=>XD.drop n t
theorem XD.none_of:∀{xs:List V} {us:List Value} {i:Nat},XD xs us->xs[i]?=none->us[i]?=none:=λ{xs us i} r e=>by
 have h1:=r.length;have h2:xs.length<=i:=Θ0.mp e;exact Θ0.mpr (by omega)
def mC:Option V->Option Value->Prop
 | some v,some u=>bC v u
 | none,none=>True
 | _,_=>False
def KV{κ:Type}:List (κ×V)->List (κ×Value)->Prop:=Paired fun(p:κ×V) (q:κ×Value)=>p.1=q.1/\bC p.2 q.2
def kV:Key->V
 | .inl i=>.int i
 | .inr x=>.str x
 | .no=>.XB
inductive HO where
 /-- a list -/
 | lst (xs:List V)
 /-- a tuple (never changes) -/
 | tup (xs:List V)
 /-- a dict whose keys are ints and texts;one whose keys are tuples of ints and texts (the empty one is both) -/
 | dK (kvs:List (Key×V))|dT (kvs:List (List Key×V))
 /-- a set of ints: XA members,XA size -/
 | set (S:Int->Bool) (n:Nat)
 /-- an instance of the class at C,XA dict at dx,XA attributes -/
 | ins (C dx:Addr) (fs:List (Str×V))
 /-- the dict of the instance at x -/
 | own (x:Addr)
 /-- the dict of an exception -/
 | xd (fs:List (Str×V))
 /-- a bound method,f of x -/
 | met (f x:Addr)
 /-- a range object lo,lo+1,.. below hi -/
 | rng (lo hi:Int)
 /-- a thing that is known to the object (the script;a dict while a loop walks it): read,never written while it is so -/
 | XX (o:Obj) (u:HO)
 /-- a code object's table -/
 | tbl (ps:Array Value)
 /-- any other thing,by what is true of XA one object (a def of adS own: SetO a S n:=HO.ext λh=>..) -/
 | ext (φ:Heap->Prop)
variable{o:HO}
abbrev Hp:=Addr->Option HO
variable{H:Hp}
def Xz(H:Hp)(a:Addr)(o:HO):Hp:=λb=>if b=a then some o else H b
def aA:Xz H a o a=some o:=by unfold Xz;rw[if_pos rfl]
def aC(h:b≠a):Xz H a o b=H b:=by unfold Xz;rw[if_neg h]
def wO{u:HO}:Xz (Xz H a o) a u=Xz H a u:=by
 funext b;unfold Xz;split<;>rfl
def bU{u:HO}(h:H a=some o)(h':H b=some u)(d:o≠u):a≠b:=by
 intro e;subst e;rw[h] at h';exact d (Ϛ h')
def aD(h:H a=some o)(h':H b=none):a≠b:=by
 intro e;subst e;rw[h] at h';cases h'
end
section
variable(P:Program)(w:World)
noncomputable def c0(H:Hp)(h:Heap)(a:Addr):HO->Prop
  | .lst xs=>xs.length<=sizeLine/\∃(XA:List Value) (n:Nat),XD xs XA/\h.get? a=some {cls:=.type "list",data:=.seq XA.toArray n}
  | .tup xs=>xs.length<=sizeLine/\∃XA:List Value,XD xs XA/\IsTup h a XA.toArray
  | .dK kvs=>kvs.length<=sizeLine/\(a==sysModules)=false/\∃vs,KV kvs vs/\h.DictOf (aR P w) a vs
  | .dT kvs=>kvs.length<=sizeLine/\(a==sysModules)=false/\∃xs:List (List Key×Addr×Value),
      Paired (fun(p:List Key×V) (q:List Key×Addr×Value)=>p.1=q.1/\H q.2.1=some (.tup (p.1.map kV))/\bC p.2 q.2.2) kvs xs /\
      ∃o es ep,h.get? a=some o/\o.ExactDict/\o.data=.dict es ep/\es.toList=xs.map (entryOfKey (tupleKind (aR P w)))/\(xs.map (·.1)).Nodup
  | .set S n=>h.SetOf (intKind P w) a S n
  | .ins C dx fs=>H dx=some (.own a)/\fs.length<=1000/\dx≠a/\h.get? a=some (PySem.W.instObj C dx) /\
      ∃mA,h.Ns1 dx mA/\(∀f,mC (fs.lookup f) (mA f))/\PySem.Within mA (fs.map (·.1))
  | .own _=>∃o,h.get? a=some o
  | .xd fs=>∃mA,h.Ns1 a mA/\∀f,mC (fs.lookup f) (mA f)
  | .rng lo hi=>∃t u v,h.get? a=some {cls:=.type "range",data:=.fields #[.int lo t,.int hi u,.int 1 v]}
  | .XX o u=>h.get? a=some o/\c0 H h a u
  | .tbl ps=>h.get? a=some {cls:=.none,data:=.fields ps}
  | .met f x=>h.get? a=some (PySem.W.methodObj (.ref f) (.ref x))
  | .ext φ=>φ h/\(∃o,h.get? a=some o)/\∀h1 h2:Heap,φ h1->(∀o,h1.get? a=some o->h2.get? a=some o)->φ h2
def HOk(H:Hp)(h:Heap):Prop:=∀a o,H a=some o->c0 P w H h a o
end
section
mutual
example:=[.inl rfl,.own a,PySem.W.methodObj (.ref f) (.ref y)]
variable{H':Hp}{h':Heap}
def c0.lt(x:c0 P w H h a o):a < h.objs.size:=by
 cases o with
 | lst xs=>obtain⟨_,_,_,_,e⟩:=x;exact Ο e
 | tup xs=>obtain⟨_,_,_,p⟩:=x;exact p.lt
 | dK kvs=>obtain⟨_,_,_,_,o,_,_,e,_⟩:=x;exact Ο e
 | dT kvs=>obtain⟨_,_,_,_,o,_,_,e,_⟩:=x;exact Ο e
 | set S n=>obtain⟨o,_,_,_,e,_⟩:=x;exact Ο e
 | ins C dx fs=>obtain⟨_,_,_,e,_⟩:=x;exact Ο e
 | own y=>obtain⟨_,e⟩:=x;exact Ο e
 | xd fs=>obtain⟨_,⟨_,_,_,e,_⟩,_⟩:=x;exact Ο e
 | rng lo hi=>obtain⟨_,_,_,e⟩:=x;exact Ο e
 | XX ob u=>obtain⟨e,_⟩:=x;exact Ο e
 | tbl ps=>exact Ο (show h.get? a=some _ from x)
 | met f y=>exact Ο (show h.get? a=some _ from x)
 | ext φ=>obtain⟨_,⟨_,e⟩,_⟩:=x;exact Ο e
theorem Paired.S4{α β:Type}{F G:α->β->Prop}:∀{l₁:List α} {l₂:List β},Paired F l₁ l₂->(∀a b,F a b->G a b)->Paired G l₁ l₂
 | _,_,.nil,_=>.nil
 | _,_,.cons r t,f=>.cons (f _ _ r) (Paired.S4 t f)
def c0.uS(x:c0 P w H h a o)(k:∀b u,(b=a\/H b=some 1e0)->h.get? b=some u->h'.get? b=some u)(ho:∀b,H b=some 1e0->H' b=some 1e0)(ht:∀b xs,H b=some (.tup xs)->H' b=some (.tup xs)):c0 P w H' h' a o:=by
 induction o with
 | lst xs=>obtain⟨z,XA,n,r,e⟩:=x;exact⟨z,XA,n,r,k _ _ 0e0 e⟩
 | tup xs=>obtain⟨z,XA,r,ob,e,c⟩:=x;exact⟨z,XA,r,ob,k _ _ 0e0 e,c⟩
 | dK kvs=>obtain⟨z,y,vs,r,ob,es,ep,e,c⟩:=x;exact⟨z,y,vs,r,ob,es,ep,k _ _ 0e0 e,c⟩
 | dT kvs =>
  obtain⟨z,y,xs,r,ob,es,ep,e,c⟩:=x;exact⟨z,y,xs,Paired.S4 r λp q z=>⟨z.1,ht _ _ z.2.1,z.2.2⟩,ob,es,ep,k _ _ 0e0 e,c⟩
 | set S n=>obtain⟨ob,es,ep,t,e,c⟩:=x;exact⟨ob,es,ep,t,k _ _ 0e0 e,c⟩
 | ins C dx fs =>
  obtain⟨d,z,ne,e,mA,⟨od,es,ep,e2,c⟩,r⟩:=x;exact⟨ho _ d,z,ne,k _ _ 0e0 e,mA,⟨od,es,ep,k _ _ (.inr d) e2,c⟩,r⟩
 | own y=>obtain⟨ob,e⟩:=x;exact⟨ob,k _ _ 0e0 e⟩
 | xd fs=>obtain⟨mA,⟨od,es,ep,e,c⟩,r⟩:=x;exact⟨mA,⟨od,es,ep,k _ _ 0e0 e,c⟩,r⟩
 | rng lo hi=>obtain⟨t,u,v,e⟩:=x;exact⟨t,u,v,k _ _ 0e0 e⟩
 | XX ob u ih=>obtain⟨e,q⟩:=x;exact⟨k _ _ 0e0 e,ih q⟩
 | tbl ps =>
  have e:h.get? a=some {cls:=.none,data:=.fields ps}:=x;show h'.get? a=some {cls:=.none,data:=.fields ps};exact k a _ 0e0 e
 | met f y =>
  have e:h.get? a=some 2e0:=x;show h'.get? a=some 2e0;exact k a _ 0e0 e
 | ext φ=>obtain⟨p,⟨o,e⟩,st⟩:=x;exact⟨st _ _ p λo q=>k _ _ 0e0 q,⟨o,k _ _ 0e0 e⟩,st⟩
def HOk.lt(x:HOk P w H h)(e:H a=some o):a < h.objs.size:=(x a o e).lt
def HOk.fresh(x:HOk P w H h)(e:h.objs.size<=a):H a=none:=by
 cases q:H a with
 | none=>rfl
 | some u=>exact absurd (ϐ (x.lt q) e) (Α2 _)
def HOk.kept(x:HOk P w H h)(k:∀b u,h.get? b=some u->h'.get? b=some u):HOk P w H h':=λa o e =>
 (x a o e).uS (λb u _ q=>k b u q) (λ_ q=>q) λ_ _ q=>q
def HOk.laid(x:HOk P w H h)(k:∀b u,h.get? b=some u->h'.get? b=some u)(hp:h.objs.size<=a)(new:c0 P w (Xz H a o) h' a o):HOk P w (Xz H a o) h':=λb u e=>by
 have hn:=x.fresh hp;by_cases hb:b=a
 ·subst hb;rw[aA] at e;cases e;exact new
 ·rw[aC hb] at e;exact(x b u e).uS (λc v _ q=>k c v q) (λc q=>by rw[aC (aD q hn)];exact q) λc xs q=>by rw[aC (aD q hn)];exact q
end
end
def Rd(H:Hp)(a:Addr)(u:HO):Prop:=H a=some u\/∃o,H a=some (.XX o u)
def Rd.ok{u:HO}(r:Rd H a u)(x:HOk P w H h):c0 P w H h a u:=by
 rcases r with r|⟨o,r⟩
 ·exact x a u r
 ·obtain⟨_,q⟩:=x a _ r;exact q
noncomputable def Mut:Option HO->Prop
 | some (.lst _)=>True
 | some (.dK _)=>True
 | some (.dT _)=>True
 | some (.set _ _)=>True
 | some (.ins _ _ _)=>True
 | some (.ext _)=>True
 | _=>False
section
variable{h':Heap}{x e:Addr}{o':HO}
def HOk.write(ok:HOk P w H h)(mu:Mut (H x))(he:e=x\/H e=some (.own x))(k:∀b u,b≠e->h.get? b=some u->h'.get? b=some u)(heo:∃u,h'.get? e=some u)(new:c0 P w (Xz H x o') h' x o'):HOk P w (Xz H x o') h':=λb u q=>by
 have ab5:∀c y,H c=some (.own y)->c≠x:=λc y r z=>by subst z;rw[r] at mu;exact mu
 have adF:∀c xs,H c=some (.tup xs)->c≠x:=λc xs r z=>by subst z;rw[r] at mu;exact mu
 by_cases hb:b=x
 ·subst hb;rw[aA] at q;cases q;exact new
 ·rw[aC hb] at q;by_cases hbe:b=e
  ·have q':H b=some (.own x):=by
    rcases he with z|z
    ·exact absurd (hbe.trans z) hb
    ·rw[hbe];exact z
   rw[q] at q';cases q';obtain⟨v,hv⟩:=heo;exact⟨v,by rw[hbe];exact hv⟩
  ·refine(ok b u q).uS (λc v hc r=>k c v ?_ r) (λc r=>by rw[aC (ab5 c b r)];exact r) λc xs r=>by rw[aC (adF c xs r)];exact r
   rcases hc with rfl|hc
   ·exact hbe
   ·rintro rfl;rcases he with z|z
    ·exact ab5 c b hc z
    ·rw[hc] at z;cases z;exact hb rfl
end
structure Un(fs ex:List Addr)(H H':Hp)(h h':Heap):Prop where
 keep:∀b o,h.get? b=some o->H b=none->b∉fs->b∉ex->h'.get? b=some o
 slot:∀b o,h.get? b=some o->H b=none->b∈fs->b∉ex->∃sl,h'.get? b=some {o with slots:=sl}
 free:∀b o,h.get? b=some o->H b=none->b∉ex->H' b=none
 there:∀b o,h.get? b=some o->b∉ex->∃o',h'.get? b=some o'
 AB:∀b xs,H b=some (.tup xs)->H' b=some (.tup xs)
 xZ:∀b o u,H b=some (.XX o u)->H' b=some (.XX o u)
 AA:∀b ps,H b=some (.tbl ps)->∃more,H' b=some (.tbl (ps++more))
section
mutual
example:=[(hm b _ q λz=>z),aD q hn]
variable{fs fs' ex ex':List Addr}{H1 H2:Hp}{h1 h2 h':Heap}{x e:Addr}
def Un.any(u:Un fs ex H H1 h h1){ob:Obj}(q:h.get? b=some ob)(n:H b=none)(hx:b∉ex):∃sl,h1.get? b=some {ob with slots:=sl}:=by
 by_cases hb:b∈fs
 ·exact u.slot b ob q n hb hx
 ·exact⟨ob.slots,u.keep b ob q n hb hx⟩
def Un.kept(k:∀b u,h.get? b=some u->h'.get? b=some u):Un fs ex H H h h' :=
 ⟨λb ob q _ _ _=>k b ob q,λb ob q _ _ _=>⟨ob.slots,k b ob q⟩,λ_ _ _ n _=>n,λb ob q _=>⟨ob,k b ob q⟩,λ_ _ q=>q,λ_ _ _ q=>q,λ_ ps q=>⟨#[],by rw[q];simp⟩⟩
def Un.refl:Un fs ex H H h h:=Un.kept λ_ _ q=>q
def Un.laid(k:∀b u,h.get? b=some u->h'.get? b=some u)(hp:h.objs.size<=a)(hn:H a=none):Un fs ex H (Xz H a o) h h' where
 keep:=λb u q _ _ _=>k b u q
 slot:=λb u q _ _ _=>⟨u.slots,k b u q⟩
 free:=λb u q n _=>by rw[aC (Ρ (ϐ (Ο q) hp))];exact n
 there:=λb u q _=>⟨u,k b u q⟩
 AB:=λb xs q=>by rw[aC 1e0];exact q
 xZ:=λb u xs q=>by rw[aC 1e0];exact q
 AA:=λb ps q=>⟨#[],by rw[aC 1e0,q];simp⟩
def Un.write(mu:Mut (H x))(he:e=x\/H e=some (.own x))(k:∀b u,b≠e->h.get? b=some u->h'.get? b=some u)(heo:∃u,h'.get? e=some u):Un fs ex H (Xz H x o) h h':=by
 have hx:∀b,H b=none->b≠x:=λb n z=>by subst z;rw[n] at mu;exact mu
 have hb:∀b,H b=none->b≠e:=λb n z=>by
  subst z;rcases he with r|r
  ·exact hx b n r
  ·rw[n] at r;cases r
 have hm:∀b u,H b=some u->¬ Mut (some u)->b≠x:=λb u q nm z=>by subst z;rw[q] at mu;exact nm mu
 refine⟨λb u q n _ _=>k b u (hb b n) q,λb u q n _ _=>⟨u.slots,k b u (hb b n) q⟩,λb u q n _=>by rw[aC (hx b n)];exact n,λb u q _=>?_,
  λb xs q=>by rw[aC 0e0];exact q,λb u xs q=>by rw[aC 0e0];exact q,λb ps q=>⟨#[],by rw[aC 0e0,q];simp⟩⟩
 by_cases hbe:b=e
 ·subst hbe;exact heo
 ·exact⟨u,k b u hbe q⟩
end
end
mutual
example:=[Addr×Obj,trk h H]
def trk(h:Heap)(H:Hp):List Addr:=(List.range h.objs.size).filter λa=>(H a).isSome
def Ca(h:Heap)(H:Hp):Heap:=PySem.W.hideAll h 1e0
def IS(h:Heap)(H:Hp):(Ca h H).objs.size=h.objs.size:=PySem.W.hideAll_size _ _
def LC{o:Obj}(e:h.get? b=some o)(n:H b=none):(Ca h H).get? b=some o :=
 PySem.W.hideAll_get _ e λhm=>by
  have q:(H b).isSome=true:=(Γ3.mp hm).2;rw[n] at q;simp at q
def O8{o:Obj}(e:(Ca h H).get? b=some o):h.get? b=some o/\H b=none:=by
 have e':h.get? b=some o:=PySem.W.of_hideAll 1e0 e;refine⟨e',?_⟩;cases q:H b with
 | none=>rfl
 | some x =>
  have hm:b∈trk h H:=Γ3.mpr ⟨Κ1.mpr (Ο e'),by simp[q]⟩;have z:(Ca h H).get? b=none:=PySem.W.hideAll_none 1e0 hm;rw[z] at e;cases e
def NJ(g h:Heap)(L:Addr):List 0e0:=(List.range h.objs.size).filterMap λa=>if a=L\/(g.get? a).isSome=true then none else (h.get? a).map λo=>(a,o)
def rest(g h:Heap)(L d:Addr):List 0e0:=(NJ g h L).filter λp=>decide (p.1≠d)
structure Mod(K:q0B)(mg:q0C)(base:Heap):Prop where
 kin:K.In base
 glob:base.Ns mainGlobals mg
 blt:∃mb,base.Ns builtinsNs mb/\∀x:Str,x≠"__name__"->mb x=bootBuiltins x
 nolimit:base.NoLimit
structure Cx where
 prog:Program
 w:World
 K:q0B
 mg:Str->Option Value
 base:Heap
 A:Around
 N:List Str
 s₀:Shared
 H₀:Hp
 env:Env
 outer:List Env
 stack:List Env
 ex:List Addr
 fn:Str->Bool
 calm:Bool
 pn:List 0e0
 xe:Value->Shared->Prop
variable{X:Cx}
def frs(l:List Env):List Addr:=l.filterMap (·.frame)
abbrev Cx.fs(X:Cx):List Addr:=frs X.outer
def Vis(sc:Scope)(x:Str):Prop:=sc.names.lookup x=some .local\/sc.names.lookup x=some .cell\/sc.names.lookup x=some .free
def Loc(sc:Scope)(x:Str):Prop:=sc.names.lookup x=some .local\/sc.names.lookup x=some .cell
def Look(env:Env)(h:Heap)(m:q0C)(x:Str)(u:Value):Prop :=
 (env.kindOf x=some .local/\m x=some u)\/((env.kindOf x=some .cell\/env.kindOf x=some .free)/\∃c,env.cells.lookup x=some c/\h.IsCell c (some u))
structure Cx.Ok(X:Cx):Prop where
 mod:Mod X.K X.mg X.base
 kind:X.env.scope.kind=.function
 glob:X.env.globals=mainGlobals
 blt:X.env.builtins=builtinsNs
 above:X.s₀.heap.objs.size<=X.env.locals
 inj:∀x y c,X.env.cells.lookup x=some c->X.env.cells.lookup y=some c->x=y
 has:∀x,(X.env.kindOf x=some .cell\/X.env.kindOf x=some .free)->∃c,X.env.cells.lookup x=some c
 cab:∀x c,X.fn x=true->X.env.cells.lookup x=some c->X.s₀.heap.objs.size<=c
 hd:X.calm=true->X.A.handled=none
 frames:X.A.frames=some X.stack
 stk:X.stack=X.outer\/(X.stack=X.env::X.outer/\X.env.frame=some X.env.locals)
 exf:∀b∈X.ex,b≠X.env.locals/\∀x c,X.env.cells.lookup x=some c->c≠b
 bs:∀b o,X.base.get? b=some o->X.s₀.heap.get? b=some o/\X.H₀ b=none
 bsz:X.base.objs.size<=X.s₀.heap.objs.size
 DB:∀b o,X.base.get? b=some o->b∉X.ex
 IJ:∀b∈X.ex,b∉X.fs
 sD:X.s₀.heap.FunFrames X.base X.outer
 frf:∀b∈X.fs,X.H₀ b=none
structure XC(X:Cx)(Xy:List 0e0)(σ:List (Option V))(H:Hp)(s:Shared):Prop where
 ok:X.Ok
 os:s.os=X.s₀.os
 bare:AllBare s.gens
 base:Un X.fs X.ex X.H₀ H X.s₀.heap s.heap
 loc:∃m,s.heap.Ns X.env.locals m/\∀(i:Nat) (x:Str) (v:V),X.N[i]?=some x->σ[i]?=some (some v)->Vis X.env.scope x->∃u,bC v u/\Look X.env s.heap m x u
 cell:∀x c,X.env.cells.lookup x=some c->∃v,s.heap.IsCell c v
 free:H X.env.locals=none
 lO:∀x c,X.env.cells.lookup x=some c->H c=none
 pin:∀p∈X.pn++Xy,s.heap.get? p.1=some p.2/\H p.1=none/\p.1≠X.env.locals/\p.1∉X.fs/\∀v,p.2.data≠.cell v
 XF:HOk X.prog X.w H s.heap
 len:σ.length=X.N.length
end
section
mutual
example:=[(by simp),ϐ (Ο e) I.ok.above,neC b o e hx,Ρ (ϐ (Ο e) (I.ok.cab x c hfn hc)),(b∈X.ex\/X.s₀.heap.objs.size<=b),I.base.keep b o e n hb hx,(λz=>hc (by simp[z])),I.base.free b o e n hx,I.lO x c e,storeName X.env x u,σ.set i (some v),I.ok.DB b o e,frs X.stack,I.cne x c e,(λ_ q=>q),neL b o e,cne y c e]
variable{σ:List (Option V)}{H':Hp}{h':Heap}
def Cx.Ok.WZ(ok:X.Ok){o:Obj}(e:X.base.get? b=some o):b∉X.fs:=λhb=>by
 have:=(ok.sD.mem hb).1;rw[e] at this;cases this
def XC.bs(I:XC X Xy σ H s):∀b o,X.base.get? b=some o->s.heap.get? b=some o/\H b=none:=λb o e =>
 ⟨I.base.keep b o (I.ok.bs b o e).1 (I.ok.bs b o e).2 (I.ok.WZ e) 1e1,I.base.free b o (I.ok.bs b o e).1 (I.ok.bs b o e).2 1e1⟩
def XC.bk(I:XC X Xy σ H s):∀b o,X.base.get? b=some o->s.heap.get? b=some o:=λb o e=>(I.bs b o e).1
def XC.mod(I:XC X Xy σ H s):Mod X.K X.mg X.base:=I.ok.mod
def XC.kIn(I:XC X Xy σ H s):X.K.In s.heap:=I.ok.mod.kin.keeps I.bk
def XC.fr(I:XC X Xy σ H s):∃m,Fr X.base X.env.locals s.heap m :=
 let ⟨m,hn,_⟩:=I.loc
 ⟨m,hn,I.bk,ϕ I.ok.bsz I.ok.above⟩
def XC.lt(I:XC X Xy σ H s):X.env.locals < s.heap.objs.size:=let ⟨_,hn,_⟩:=I.loc;hn.lt
def XC.sz(I:XC X Xy σ H s):X.s₀.heap.objs.size<=s.heap.objs.size:=ϕ I.ok.above (Nat.le_of_lt I.lt)
def XC.Vw(I:XC X Xy σ H s)(h:s.heap.objs.size<=a):a∉X.fs:=λhb=>by
 obtain⟨_,o,ho,_⟩:=I.ok.sD.mem hb;exact absurd (ϐ (Ο ho) (ϕ I.sz h)) (Α2 _)
def XC.cne(I:XC X Xy σ H s):∀x c,X.env.cells.lookup x=some c->c≠X.env.locals:=λx c e z=>by
 obtain⟨v,o,ho,hd⟩:=I.cell x c e;obtain⟨m,⟨o',es,ep,ho',hd',_⟩,_⟩:=I.loc;rw[z,ho'] at ho;cases ho;rw[hd'] at hd;cases hd
def XC.sD(I:XC X Xy σ H s):s.heap.FunFrames X.base X.outer:=by
 have all:∀(l:List Env),(∀b∈frs l,b∈X.fs)->X.s₀.heap.FunFrames X.base l->s.heap.FunFrames X.base l:=by
  intro l
  induction l with
  | nil=>intro _ _;trivial
  | cons env r ih =>
   intro hs hl;obtain⟨hk,⟨L,o,hf,hn,ho,hd⟩,hr⟩:=hl;have hL:L∈X.fs:=hs L (by unfold frs;rw[Η2,hf];exact List.mem_cons_self);obtain⟨sl,e⟩:=I.base.slot L o ho (I.ok.frf L hL) hL λz=>I.ok.IJ L z hL;exact⟨hk,⟨L,_,hf,hn,e,hd⟩,ih (λb hb=>hs b (by unfold frs;rw[Η2,hf];exact Ξ _ hb)) hr⟩
 exact all X.outer (λ_ hb=>hb) I.ok.sD
theorem XC.stack(I:XC X Xy σ H s):s.heap.FunFrames X.base X.stack:=by
 rcases I.ok.stk with e|⟨e,hf⟩
 ·rw[e];exact I.sD
 ·rw[e];obtain⟨m,hn,_⟩:=I.loc;refine .cons (by rw[I.ok.kind];decide) hf hn ?_ I.sD;exact Heap.get?_none_of_le (ϕ I.ok.bsz I.ok.above)
def XC.uT(I:XC X Xy σ H s):∀b∈frs X.stack,b∈X.env.locals::X.fs:=λb hb=>by
 rcases I.ok.stk with e|⟨e,hf⟩
 ·rw[e] at hb;exact Ξ _ hb
 ·rw[e] at hb;unfold frs at hb;rw[Η2,hf] at hb;exact hb
def XC.CI(I:XC X Xy σ H s):∀b∈frs X.stack,H b=none:=λb hb=>by
 rcases Ε.mp (I.uT b hb) with e|hb
 ·rw[e];exact I.free
 ·obtain⟨_,o,ho,_⟩:=I.ok.sD.mem hb;exact I.base.free b o ho (I.ok.frf b hb) λz=>I.ok.IJ b z hb
def XC.step{d':Drawn}(I:XC X Xy σ H s)(hch:∀b∈ch,4e0/\b≠X.env.locals/\(∀x c,X.env.cells.lookup x=some c->c≠b)/\∀p∈X.pn++Xy,p.1≠b)(keep:∀b o,b≠X.env.locals->b∉X.fs->b∉ch->s.heap.get? b=some o->H b=none->h'.get? b=some o)(slot:∀b o,b≠X.env.locals->b∈X.fs->b∉ch->s.heap.get? b=some o->H b=none->∃sl,h'.get? b=some {o with slots:=sl})(free:∀b o,b∉ch->s.heap.get? b=some o->H b=none->H' b=none)(there:∀b o,b∉ch->s.heap.get? b=some o->∃o',h'.get? b=some o')(AB:∀b xs,H b=some (.tup xs)->H' b=some (.tup xs))(xZ:∀b o u,H b=some (.XX o u)->H' b=some (.XX o u))(AA:∀b ps,H b=some (.tbl ps)->∃more,H' b=some (.tbl (ps++more)))(ns:∀m,s.heap.Ns X.env.locals m->h'.Ns X.env.locals m)(XF:HOk X.prog X.w H' h')(hg:AllBare g') : XC X Xy σ H' {s with heap:=h',gens:=g',drawn:=d',toks:=t'}:=by
 have neL:∀b o,X.s₀.heap.get? b=some o->b≠X.env.locals:=λb o e=>Ρ 1e0;have neC:∀b o,X.s₀.heap.get? b=some o->b∉X.ex->b∉ch:=λb o e hx hb=>by
  rcases(hch b hb).1 with z|z
  ·exact hx z
  ·exact absurd (ϐ (Ο e) z) (Α2 _)
 have cellK:∀x c,X.env.cells.lookup x=some c->∀v,s.heap.IsCell c v->h'.IsCell c v:=λx c e v ⟨o,ho,hd⟩=>by
  have nch:c∉ch:=λz=>(hch c z).2.2.1 x c e rfl;by_cases hc:c∈X.fs
  ·obtain⟨sl,q⟩:=slot c o 3e1 hc nch ho 8e0;exact⟨_,q,hd⟩
  ·exact⟨o,keep c o 3e1 hc nch ho 8e0,hd⟩
 refine⟨I.ok,I.os,hg,⟨λb o e n hb hx=>?_,λb o e n hb hx=>?_,λb o e n hx=>?_,λb o e hx=>?_,λb xs e=>AB b xs (I.base.AB b xs e),λb o xs e=>xZ b o xs (I.base.xZ b o xs e),λb ps e=>?_⟩,?_,λx c e=>?_,?_,λx c e=>?_,λp hp=>?_,XF,I.len⟩
 ·exact keep b o 5e1 hb 2e0 5e0 7e0
 ·obtain⟨sl,e1⟩:=I.base.slot b o e n hb hx;obtain⟨XT,e2⟩:=slot b _ 5e1 hb 2e0 e1 7e0;exact⟨XT,e2⟩
 ·obtain⟨o',e1⟩:=I.base.there b o e hx;exact free b o' 2e0 e1 7e0
 ·obtain⟨o',e1⟩:=I.base.there b o e hx;exact there b o' 2e0 e1
 ·obtain⟨m1,e1⟩:=I.base.AA b ps e;obtain⟨m2,e2⟩:=AA b _ e1;exact⟨m1++m2,by rw[e2,Array.append_assoc]⟩
 ·obtain⟨m,hn,hl⟩:=I.loc;refine⟨m,ns m hn,λi x v e1 e2 e3=>?_⟩;obtain⟨u,r,l⟩:=hl i x v e1 e2 e3;refine⟨u,r,?_⟩;rcases l with l|⟨k,c,e,z⟩
  ·exact .inl l
  ·exact .inr ⟨k,c,e,cellK x c e _ z⟩
 ·obtain⟨v,z⟩:=I.cell x c e;exact⟨v,cellK x c e v z⟩
 ·obtain⟨m,⟨o,_,_,ho,_⟩,_⟩:=I.loc;exact free _ o (λz=>(hch _ z).2.1 rfl) ho I.free
 ·obtain⟨v,o,ho,hd⟩:=I.cell x c e;exact free c o (λz=>(hch c z).2.2.1 x c e rfl) ho 8e0
 ·obtain⟨e,n,ne,nf,d⟩:=I.pin p hp;have nch:p.1∉ch:=λz=>(hch p.1 z).2.2.2 p hp rfl;exact⟨keep p.1 p.2 ne nf nch e n,free p.1 p.2 nch e n,ne,nf,d⟩
def XC.un(I:XC X Xy σ H s)(u:Un X.fs [] H H' s.heap h')(XF:HOk X.prog X.w H' h'):XC X Xy σ H' {s with heap:=h',toks:=t'}:=by
 obtain⟨m,⟨o,es,ep,ho,r⟩,_⟩:=id I.loc;obtain⟨sl,hL⟩:=u.any ho I.free 0e0;exact I.step (g':=s.gens) (d':=s.drawn) (ch:=[]) (λ_ z=>nomatch z) (λb o _ hb _ e n=>u.keep b o e n hb 0e0) (λb o _ hb _ e n=>u.slot b o e n hb 0e0) (λb o _ e n=>u.free b o e n 0e0) (λb o _ e=>u.there b o e 0e0) u.AB u.xZ u.AA (λm' hm=>by
  obtain⟨o',es',ep',ho',r'⟩:=hm;rw[ho] at ho';cases ho';exact⟨_,es',ep',hL,r'⟩) XF I.bare
def XC.call{d':Drawn}(I:XC X Xy σ H s)(u:Un 2e1 ch H H' s.heap h')(XF:HOk X.prog X.w H' h')(hg:AllBare g')(hch:∀b∈ch,4e0/\b≠X.env.locals/\(∀x c,X.env.cells.lookup x=some c->c≠b)/\∀p∈X.pn++Xy,p.1≠b) : XC X Xy σ H' {s with heap:=h',gens:=g',drawn:=d',toks:=t'}:=by
 obtain⟨m,⟨o,es,ep,ho,r⟩,_⟩:=id I.loc;obtain⟨sl,hL⟩:=u.any ho I.free λz=>(hch _ z).2.1 rfl;exact I.step (ch:=ch) hch (λb o hL hb hc e n=>u.keep b o e n (λz=>(Ε.mp (I.uT b z)).elim hL hb) hc) (λb o _ _ hc e n=>u.any e n hc) (λb o hc e n=>u.free b o e n hc) (λb o hc e=>u.there b o e hc) u.AB u.xZ u.AA (λm' hm=>by
  obtain⟨o',es',ep',ho',r'⟩:=hm;rw[ho] at ho';cases ho';exact⟨_,es',ep',hL,r'⟩) XF hg
def XC.turned{it:Addr}(I:XC X Xy σ H s)(k:∀b o,b≠it->s.heap.get? b=some o->h'.get? b=some o)(hn:H it=none)(hL:it≠X.env.locals)(h1:it∈X.ex\/X.s₀.heap.objs.size<=it)(h2:∀x c,X.env.cells.lookup x=some c->c≠it)(h3:∀p∈X.pn++Xy,p.1≠it):XC X Xy σ H {s with heap:=h',toks:=t'}:=by
 have nit:∀b u,H b=some u->b≠it:=λb u e z=>by rw[z,hn] at e;cases e
 refine I.step (g':=s.gens) (d':=s.drawn) (ch:=[it]) (λb hb=>?_) (λb o _ _ hc e _=>k b o 6e0 e) (λb o _ _ hc e _=>⟨o.slots,k b o 6e0 e⟩) (λ_ _ _ _ n=>n)
  (λb o hc e=>⟨o,k b o 6e0 e⟩) (λ_ _ e=>e) (λ_ _ _ e=>e) (λb ps e=>⟨#[],by rw[e];simp⟩) (λm hm=>?_) (λb u e=>?_) I.bare
 ·have e:b=it:=by simpa using hb
  subst e;exact⟨h1,hL,h2,h3⟩
 ·obtain⟨o,es,ep,ho,r⟩:=hm;exact⟨o,es,ep,k _ o (Ε6 hL) ho,r⟩
 ·refine(I.XF b u e).uS (λc v hc q=>k c v ?_ q) 4e1 λ_ _ q=>q;rcases hc with z|z
  ·rw[z];exact nit b u e
  ·exact nit c _ z
def XC.tok(I:XC X Xy σ H s)(t:Nat):XC X Xy σ H {s with toks:=t}:=I.un (h':=s.heap) (t':=t) Un.refl I.XF
def XC.kept(I:XC X Xy σ H s)(k:∀b u,s.heap.get? b=some u->h'.get? b=some u):XC X Xy σ H {s with heap:=h',toks:=t'}:=I.un (Un.kept k) (I.XF.kept k)
def XC.laid(I:XC X Xy σ H s)(k:∀b u,s.heap.get? b=some u->h'.get? b=some u)(hp:s.heap.objs.size<=a)(new:c0 X.prog X.w (Xz H a o) h' a o) : XC X Xy σ (Xz H a o) {s with heap:=h',toks:=t'}:=I.un (Un.laid k hp (I.XF.fresh hp)) (I.XF.laid k hp new)
def XC.write{x e:Addr}(I:XC X Xy σ H s)(mu:Mut (H x))(he:e=x\/H e=some (.own x))(k:∀b u,b≠e->s.heap.get? b=some u->h'.get? b=some u)(heo:∃u,h'.get? e=some u)(new:c0 X.prog X.w (Xz H x o) h' x o):XC X Xy σ (Xz H x o) {s with heap:=h',toks:=t'}:=I.un (Un.write mu he k heo) (I.XF.write mu he k heo new)
def XC.sV{aaV:List (Addr×Obj)}(I:XC X Xy σ H s)(h:∀p∈aaV,s.heap.get? p.1=some p.2/\H p.1=none/\p.1≠X.env.locals/\p.1∉X.fs/\∀v,p.2.data≠.cell v):XC X aaV σ H s :=
 ⟨I.ok,I.os,I.bare,I.base,I.loc,I.cell,I.free,I.lO,λp hp=>(Υ.mp hp).elim (λz=>I.pin p (Ε4 _ z)) (h p),I.XF,I.len⟩
def DA{N:List Str}(hN:N.Nodup){j:Nat}(a:N[i]?=some x)(b:N[j]?=some x):i=j:=by
 obtain⟨h1,e1⟩:=Λ.mp a;obtain⟨h2,e2⟩:=Λ.mp b;exact(List.getElem_inj hN).mp (e1.trans e2.symm)
theorem BD(I:XC X Xy σ H s)(hN:X.N.Nodup)(hi:X.N[i]?=some x)(hx:Loc X.env.scope x)(r:bC v u)(h:∀s',XC X Xy 0e1 H s'->(∃a,Heap.SameBut a s.heap s'.heap/\(a=X.env.locals\/X.env.cells.lookup x=some a))->Q () s')(hf:X.fn x=true\/X.env.scope.names.lookup x=some .local:=by first|exact .inl rfl|exact .inr rfl|assumption):wpAny M A 9e0 Q E s:=by
 obtain⟨m,hn,hl⟩:=id I.loc;have acW:(X.env.scope.kind==.class||(X.env.scope.kind==.module&&X.env.locals !=X.env.globals))=false:=by rw[I.ok.kind];rfl
 have hiσ:i < σ.length:=by rw[I.len];exact(Λ.mp hi).1
 have cne:=I.cne;have tracked:∀{a:Addr} {h':Heap},(∃o,s.heap.get? a=some o/\H a=none)->Heap.SameBut a s.heap h'->HOk X.prog X.w H h':=λ{a h'} ha hs b ob e=>by
  obtain⟨_,_,aaT⟩:=ha;refine(I.XF b ob e).uS (λc w' hc q=>(hs.2 c ?_).trans q) 4e1 λ_ _ q=>q;rintro rfl;rcases hc with rfl|hc
  ·rw[aaT] at e;cases e
  ·rw[aaT] at hc;cases hc
 rcases hx with hk|hk
 ·refine wpAny_storeName_local hk hn (λh' hn' hs=>?_) acW;obtain⟨oL,_,_,hoL,_⟩:=id hn;refine h _ ⟨I.ok,I.os,I.bare,⟨λb o e n hb hx=>?_,λb o e n hb hx=>?_,I.base.free,λb o e hx=>?_,I.base.AB,I.base.xZ,I.base.AA⟩,⟨_,hn',λj y v' e1 e2 e3=>?_⟩,λy c e=>?_,I.free,I.lO,λp hp=>?_,tracked ⟨oL,hoL,I.free⟩ hs,by simpa using I.len⟩ ⟨_,hs,.inl rfl⟩
  ·exact(hs.2 b (Ρ 1e0)).trans 5e0
  ·obtain⟨sl,e1⟩:=I.base.slot b o e n hb hx;exact⟨sl,(hs.2 b (Ρ 1e0)).trans e1⟩
  ·obtain⟨o',e1⟩:=I.base.there b o e hx;exact⟨o',(hs.2 b (Ρ 1e0)).trans e1⟩
  ·by_cases hj:j=i
   ·subst hj;rw[hi] at e1;cases e1;rw[List.getElem?_set_self hiσ] at e2;cases e2;exact⟨u,r,.inl ⟨hk,by simp⟩⟩
   ·rw[List.getElem?_set_ne (Ε6 hj)] at e2;obtain⟨u',r',q⟩:=hl j y v' e1 e2 e3;refine⟨u',r',?_⟩;rcases q with⟨k,e⟩|⟨k,c,e,z⟩
    ·refine .inl ⟨k,?_⟩;have:y≠x:=λe=>hj (DA hN e1 (e▸hi));simp[this,e]
    ·exact .inr ⟨k,c,e,z.sameBut hs 6e1⟩
  ·obtain⟨w',z⟩:=I.cell y c e;exact⟨w',z.sameBut hs 6e1⟩
  ·obtain⟨e,n,ne,nf,d⟩:=I.pin p hp;exact⟨(hs.2 p.1 ne).trans e,n,ne,nf,d⟩
 ·have hfn:X.fn x=true:=by
   rcases hf with z|z
   ·exact z
   ·rw[z] at hk;cases hk
  obtain⟨c,hc⟩:=I.ok.has x (.inl hk);obtain⟨w',z⟩:=I.cell x c hc;refine wpAny_storeName_cell I.ok.kind hk hc z (λh' hc' hs=>?_);obtain⟨oc,hoc,acZ⟩:=id z;refine h {s with heap:=h'} ⟨I.ok,I.os,I.bare,⟨λb o e n hb hx=>?_,λb o e n hb hx=>?_,I.base.free,λb o e hx=>?_,I.base.AB,I.base.xZ,I.base.AA⟩,⟨m,hn.sameBut hs (Ε6 (cne x c hc)),λj y v' e1 e2 e3=>?_⟩,λy c' e=>?_,I.free,I.lO,λp hp=>?_,tracked ⟨oc,hoc,I.lO x c hc⟩ hs,by simpa using I.len⟩ ⟨c,hs,.inr hc⟩
  ·exact(hs.2 b 3e0).trans 5e0
  ·obtain⟨sl,e1⟩:=I.base.slot b o e n hb hx;exact⟨sl,(hs.2 b 3e0).trans e1⟩
  ·obtain⟨o',e1⟩:=I.base.there b o e hx;exact⟨o',(hs.2 b 3e0).trans e1⟩
  ·by_cases hj:j=i
   ·subst hj;rw[hi] at e1;cases e1;rw[List.getElem?_set_self hiσ] at e2;cases e2;exact⟨u,r,.inr ⟨.inl hk,c,hc,hc'⟩⟩
   ·rw[List.getElem?_set_ne (Ε6 hj)] at e2;obtain⟨u',r',q⟩:=hl j y v' e1 e2 e3;refine⟨u',r',?_⟩;rcases q with q|⟨k,c',e,z'⟩
    ·exact .inl q
    ·refine .inr ⟨k,c',e,z'.sameBut hs ?_⟩;rintro rfl;exact hj (DA hN e1 (I.ok.inj _ _ _ e hc▸hi))
  ·by_cases hcc:c'=c
   ·subst hcc;exact⟨_,hc'⟩
   ·obtain⟨w2,z2⟩:=I.cell y c' e;exact⟨w2,z2.sameBut hs hcc⟩
  ·obtain⟨e,n,ne,nf,d⟩:=I.pin p hp;refine⟨(hs.2 p.1 ?_).trans e,n,ne,nf,d⟩;intro q;rw[q,hoc] at e;have q':oc=p.2:=Ϛ e;exact d w' (by rw[<- q'];exact acZ)
theorem zY(I:XC X Xy σ H s)(hN:X.N.Nodup)(hi:X.N[i]?=some x)(hx:Loc X.env.scope x)(r:bC v u)(h:∀s',XC X Xy 0e1 H s'->Q () s')(hf:X.fn x=true\/X.env.scope.names.lookup x=some .local:=by first|exact .inl rfl|exact .inr rfl|assumption):wpAny M A 9e0 Q E s :=
 BD I hN hi hx r (λs' I' _=>h s' I') hf
def XC.Uq(I:XC X Xy σ H s)(ho:s'.os=s.os)(u:Un 2e1 ch H H' s.heap s'.heap)(XF:HOk X.prog X.w H' s'.heap)(hg:AllBare s'.gens)(hch:∀b∈ch,4e0/\b≠X.env.locals/\(∀x c,X.env.cells.lookup x=some c->c≠b)/\∀p∈X.pn++Xy,p.1≠b):XC X Xy σ H' s':=by
 obtain⟨h',g',d',t',o'⟩:=s';have e:o'=s.os:=ho;subst e;exact I.call (g':=g') (t':=t') (d':=d') u XF hg hch
end
end
mutual
example:=[Addr×Obj,model X.prog X.w,eval e X.env,TP X Xy σ Q,SP X Xy D]
abbrev XK:=Value->Option Addr->Hp->Prop
abbrev St:=List (Option V)
variable{σ:St}
abbrev VK:=V->Hp->Prop
abbrev TE:=St->Hp->VK->Prop
variable{t te:TE}
abbrev TT:=St->Hp->(Bool->Hp->Prop)->Prop
abbrev TA:=St->Hp->(List V->Hp->Prop)->Prop
structure Ends where
 nx:St->Hp->Prop
 rt:VK
 bk:St->Hp->Prop:=λ_ _=>False
 ct:St->Hp->Prop:=λ_ _=>False
variable{D:Ends}
abbrev TS:=Ends->St->Hp->Prop
variable{tb:TS}
inductive EP(X:Cx)(Xy:List 0e0)(σ:St)(Q:VK)(u:Value)(s':Shared):Prop
 | mk (v:V) (H':Hp) (I:XC X Xy σ H' s') (r:bC v u) (q:Q v H'):EP X Xy σ Q u s'
def TP(X:Cx)(Xy:List 0e0)(σ:St)(Q:Bool->Hp->Prop)(b:Bool)(s':Shared):Prop:=∃H',XC X Xy σ H' s'/\Q b H'
inductive AP(X:Cx)(Xy:List 0e0)(σ:St)(Q:List V->Hp->Prop)(us:List Value)(s':Shared):Prop
 | mk (vs:List V) (H':Hp) (I:XC X Xy σ H' s') (r:XD vs us) (q:Q vs H'):AP X Xy σ Q us s'
def SP(X:Cx)(Xy:List 0e0)(D:Ends)(f:Flow)(s':Shared):Prop :=
 match f with
 | .next=>∃σ' H',XC X Xy σ' H' s'/\D.nx σ' H'
 | .brk=>∃σ' H',XC X Xy σ' H' s'/\D.bk σ' H'
 | .cont=>∃σ' H',XC X Xy σ' H' s'/\D.ct σ' H'
 | .ret u=>∃v σ' H',XC X Xy σ' H' s'/\bC v u/\D.rt v H'
def PE(X:Cx)(e:Expr)(t:TE):Prop :=
 ∀(Xy:List 0e0) (s:Shared) (σ:St) (H:Hp) (Q:VK),XC X Xy σ H s->t σ H Q->wpAny 1e0 X.A 2e0 (EP X Xy σ Q) X.xe s
def PT(X:Cx)(e:Expr)(t:TT):Prop :=
 ∀(Xy:List 0e0) (s:Shared) (σ:St) (H:Hp) (Q:Bool->Hp->Prop),XC X Xy σ H s->t σ H Q->wpAny 1e0 X.A (isTrue e X.env 2e0) 3e0 X.xe s
def PW(X:Cx)(e:Expr)(t:TT):Prop :=
 ∀(whole:Sem Value) (Xy:List 0e0) (s:Shared) (σ:St) (H:Hp) (Q:Bool->Hp->Prop),XC X Xy σ H s->t σ H Q->wpAny 1e0 X.A (isTrue e X.env whole) 3e0 X.xe s
def PW.pt{t:TT}(h:PW X e t):PT X e t:=h _
def PA(X:Cx)(es:List Expr)(t:TA):Prop :=
 ∀(pos:Pos) (Xy:List 0e0) (s:Shared) (σ:St) (H:Hp) (Q:List V->Hp->Prop),XC X Xy σ H s->t σ H Q->wpAny 1e0 X.A (spliced (backTo pos (starEach es X.env))) (AP X Xy σ Q) X.xe s
def PS(X:Cx)(st:Stmt)(t:TS):Prop :=
 ∀(Xy:List 0e0) (s:Shared) (σ:St) (H:Hp) (D:Ends),XC X Xy σ H s->t D σ H->wpAny 1e0 X.A (exec st X.env) 4e0 X.xe s
def YN(X:Cx)(st:List Stmt)(t:TS):Prop :=
 ∀(Xy:List 0e0) (s:Shared) (σ:St) (H:Hp) (D:Ends),XC X Xy σ H s->t D σ H->wpAny 1e0 X.A (execs st X.env) 4e0 X.xe s
def thn{α:Type}{t:Sem α}{Q Q':α->Shared->Prop}(h:wpAny M A t Q E s)(hQ:∀a s,Q a s->Q' a s):wpAny M A t Q' E s:=Ε3 h hQ λ_ _ x=>x
end
section
mutual
example:=[model X.prog X.w,x==("__debug__":Str),.Name x pos,(by decide),(thn (ha Xy s σ H _ I h) λv s1 ⟨x,H1,I1,r1,q1⟩=>?_),ha Xy s σ H _ I h,(by rw[I.ok.glob];exact I.mod.glob.keeps I.bk),(thn (ha Xy s σ H Q I h) λc s1 e=>?_),a::b::rest,.BoolOp .And 8e0 pos,.BoolOp .Or 8e0 pos,.BoolOp .And (b::rest) pos,.BoolOp .Or (b::rest) pos,.Compare a [op] [b] pos,.UnaryOp .Not a pos,h Xy s σ H _ I hw,h Xy s σ H Q I hw]
def kF(i:Nat):TE:=λσ H Q=>∃v,σ[i]?=some (some v)/\Q v H
def tC(v:V):TE:=λ_ H Q=>Q v H
theorem mP(hN:X.N[i]?=some x)(hv:Vis X.env.scope x)(hd:1e0=false:=by decide)(hcd:(x==("__classdict__":Str))=false:=by decide):PE X 2e0 (kF i):=by
 intro Xy s σ H Q I h;obtain⟨v,e,h⟩:=h;obtain⟨m,hn,hl⟩:=I.loc;obtain⟨u,r,l⟩:=hl i x v hN e hv;have fin:EP X Xy σ Q u s:=⟨v,H,I,r,h⟩;rcases l with⟨hk,hm⟩|⟨hk,c,hc,Zx⟩
 ·exact wpAny_Name (wpAny_loadName_local I.ok.kind hk hn hm fin) hd
 ·rcases hk with hk|hk
  ·exact wpAny_Name (wpAny_loadName_cell I.ok.kind hk hc Zx fin) hd
  ·exact wpAny_Name (wpAny_loadName_free I.ok.kind hk hc Zx fin hcd) hd
def aB{i j pos}:PE X (.Constant (.int i) j pos) (tC (.int i)):=λ_ _ _ H _ I h=>wpAny_Constant_int ⟨.int i,H,I.tok _,⟨_,rfl⟩,h⟩
def mX{b j pos}:PE X (.Constant (.bool b) j pos) (tC (.bl b)):=λ_ _ _ H _ I h=>Constant_bool ⟨.bl b,H,I,rfl,h⟩
def fZ{j pos}:PE X (.Constant .none j pos) (tC .XB):=λ_ _ _ H _ I h=>Constant_none ⟨.XB,H,I,rfl,h⟩
def aL{x j pos}:PE X (.Constant (.str x) j pos) (tC (.str x)):=λ_ _ _ H _ I h=>Calls.Constant_str ⟨.str x,H,I.tok _,⟨_,rfl⟩,h⟩
def Gl(X:Cx)(x:Str):Prop:=X.env.kindOf x=some .globalImplicit
theorem wC{Q:q0A}(I:XC X Xy σ H s)(hg:Gl X x)(hm:X.mg x=some u)(h:Q u s)(hd:1e0=false:=by decide):wpAny 0e0 X.A (eval 2e0 X.env) Q E s :=
 Calls.Name_function_global I.ok.kind hg (Calls.loadGlobal_global 6e0 hm h) hd
theorem yM{Q:q0A}(I:XC X Xy σ H s)(hg:Gl X x)(hm:X.mg x=none)(hv:bootBuiltins x=some u)(h:Q u s)(hn:x≠"__name__":=by decide)(hd:1e0=false:=by decide):wpAny 0e0 X.A (eval 2e0 X.env) Q E s:=by
 obtain⟨mb,h1,h2⟩:=I.mod.blt;exact Calls.Name_function_global I.ok.kind hg (Calls.loadGlobal_builtin 6e0 hm (by rw[I.ok.blt];exact h1.keeps I.bk) ((h2 x hn).trans hv) h) hd
theorem iO(hg:Gl X x)(hm:X.mg x=some u)(r:bC v u)(hd:1e0=false:=by decide):PE X 2e0 (tC v) :=
 λ_ _ _ H _ I h=>wC I hg hm ⟨v,H,I,r,h⟩ hd
variable{a b:Expr}{ta tb:TE}
def PC(X:Cx)(op:CmpOp)(a b:Expr)(t:TE):Prop :=
 ∀(Xy:List (Addr×Obj)) (s:Shared) (σ:St) (H:Hp) (Q:VK),XC X Xy σ H s->t σ H Q ->
  wpAny 0e0 X.A (eval a X.env) (λv s₁=>wpAny 0e0 X.A (eval b X.env) (λu s₂=>wpAny 0e0 X.A (compareOp op v u) (EP X Xy σ Q) X.xe s₂) X.xe s₁) X.xe s
def tB(t:TE):TT:=λσ H Q=>t σ H λx H1=>∃c,x=.bl c/\Q c H1
theorem Ti(h:PC X op a b t)(h1:behindInMarks op b=false:=by first|exact  _ 3e0 3e0|rfl):PE X 3e1 t:=λXy s σ H Q I hw=>wpAny_Compare1 6e1 h1
theorem Fj(h:PC X op a b t)(h1:behindInMarks op b=false:=by first|exact  _ 3e0 3e0|rfl):PT X 3e1 (tB t):=by
 intro Xy s σ H Q I hw;refine wpAny_isTrue_Compare1 (thn 5e1 λv s1 h1=>thn h1 λu s2 h2=>thn h2 λc s3 ⟨x,H1,I1,r1,q1⟩=>?_) h1;obtain⟨d,rfl,q⟩:=q1;cases r1;exact Η6 ⟨H1,I1,q⟩
def Ct(h:PE X e t)(he:∀whole,isTrue e X.env whole=(do let v <- whole;standAt e.pos;holding [v] (truthy v)):=by intro _;rfl):PT X e (tB t):=by
 intro Xy s σ H Q I hw;refine isTrue_plain (thn 5e1 λv s1 ⟨x,H1,I1,r1,q1⟩=>?_) (he _);obtain⟨d,rfl,q⟩:=q1;cases r1;exact Η6 ⟨H1,I1,q⟩
variable{tA tB':TT}{rest:List Expr}
def VN(t u:TT):TT:=λσ H Q=>t σ H λc H1=>if c=true then u σ H1 Q else Q false H1
def Xn(t u:TT):TT:=λσ H Q=>t σ H λc H1=>if c=true then Q true H1 else u σ H1 Q
def VQ(t:TT):TT:=λσ H Q=>t σ H λc H1=>Q (!c) H1
def sX(ha:PT X a tA):PW X (.BoolOp .And [a] pos) tA:=by
 intro wh Xy s σ H Q I h;refine isTrue_and 7e0;cases c with
 | true=>exact isTrue_and_nil e
 | false=>exact e
def Fl(ha:PT X a tA):PW X (.BoolOp .Or [a] pos) tA:=by
 intro wh Xy s σ H Q I h;refine isTrue_or 7e0;cases c with
 | false=>exact isTrue_or_nil e
 | true=>exact e
def zD(ha:PT X a tA)(hb:PW X 1e1 tB'):PW X 9e0 (VN tA tB'):=by
 intro wh Xy s σ H Q I h;refine isTrue_and (thn 5e0 λc s1 ⟨H1,I1,q1⟩=>?_);cases c with
 | true=>exact hb wh Xy s1 σ H1 Q I1 q1
 | false=>exact⟨H1,I1,q1⟩
def Mz(ha:PT X a tA)(hb:PW X 2e1 tB'):PW X 0e1 (Xn tA tB'):=by
 intro wh Xy s σ H Q I h;refine isTrue_or (thn 5e0 λc s1 ⟨H1,I1,q1⟩=>?_);cases c with
 | true=>exact⟨H1,I1,q1⟩
 | false=>exact hb wh Xy s1 σ H1 Q I1 q1
def Fk(ha:PT X a tA):PT X 4e1 (VQ tA):=by
 intro Xy s σ H Q I h;exact isTrue_not (ha Xy s σ H (λc H1=>Q (!c) H1) I h)
def Ni(ta tb:TE):TE:=λσ H Q=>ta σ H λx H1=>∃c,x=.bl c/\if c=true then tb σ H1 Q else Q (.bl false) H1
def TB(ta tb:TE):TE:=λσ H Q=>ta σ H λx H1=>∃c,x=.bl c/\if c=true then Q (.bl true) H1 else tb σ H1 Q
def Nm(ta:TE):TE:=λσ H Q=>ta σ H λx H1=>∃c,x=.bl c/\Q (.bl (!c)) H1
def Fg{op}(h:PE X a t):PE X (.BoolOp op [a] pos) t:=λXy s σ H Q I hw=>BoolOp_one 6e1
def Mq(ha:PE X a ta)(hb:PE X 1e1 tb):PE X 9e0 (Ni ta tb):=by
 intro Xy s σ H Q I h;refine BoolOp_and 4e0;obtain⟨c,rfl,q1⟩:=q1;cases r1;refine Η6 ?_;cases c with
 | true=>exact hb Xy s1 σ H1 Q I1 q1
 | false=>exact⟨.bl false,H1,I1,rfl,q1⟩
def VA(ha:PE X a ta)(hb:PE X 2e1 tb):PE X 0e1 (TB ta tb):=by
 intro Xy s σ H Q I h;refine BoolOp_or 4e0;obtain⟨c,rfl,q1⟩:=q1;cases r1;refine Η6 ?_;cases c with
 | false=>exact hb Xy s1 σ H1 Q I1 q1
 | true=>exact⟨.bl true,H1,I1,rfl,q1⟩
def Tj(ha:PE X a ta):PE X 4e1 (Nm ta):=by
 intro Xy s σ H Q I h;refine UnaryOp_ 4e0;obtain⟨c,rfl,q1⟩:=q1;cases r1;exact not_of (Η6 ⟨.bl (!c),H1,I1,rfl,q1⟩)
def Xl(t:TT)(ta tb:TE):TE:=λσ H Q=>t σ H λc H1=>if c=true then ta σ H1 Q else tb σ H1 Q
def oP(hc:PT X c tA)(ha:PE X a ta)(hb:PE X b tb):PE X (.IfExp c a b pos) (Xl tA ta tb):=by
 intro Xy s σ H Q I h;refine wpAny_IfExp (thn (hc Xy s σ H _ I h) λd s1 ⟨H1,I1,q1⟩=>?_);cases d with
 | true=>exact ha Xy s1 σ H1 Q I1 q1
 | false=>exact hb Xy s1 σ H1 Q I1 q1
end
end
mutual
example:=[]
def c5(K:q0B)(H:Hp)(a:Addr)(xs:List V):Prop :=
 Rd H a (.lst xs) \/
  ∃(o:Obj) (XA:Array Value) (n:Nat),K.lookup a=some o/\o.cls=.type "list"/\o.dict=none/\o.data=.seq XA n/\XA.size<=sizeLine/\XD xs XA.toList
def cJ(K:q0B)(H:Hp)(a:Addr)(xs:List V):Prop :=
 Rd H a (.tup xs) \/
  ∃(o:Obj) (XA:Array Value) (n:Nat),K.lookup a=some o/\o.cls=.type "tuple"/\o.data=.seq XA n/\XA.size<=sizeLine/\XD xs XA.toList
def Wn:Value->Option V
 | .none=>some .XB
 | .bool b=>some (.bl b)
 | .int i _=>some (.int i)
 | .str x _=>some (.str x)
 | .bytes b _=>some (.byt b)
 | .float b _=>some (.flt b)
 | .ref a=>some (.ref a)
 | .type n=>some (.ty n)
 | _=>none
def bC.abs{x:V}(r:bC x u):Wn u=some x:=by
 cases x with
 | XB=>cases r;rfl
 | bl _=>cases r;rfl
 | int _=>obtain⟨t,rfl⟩:=r;rfl
 | str _=>obtain⟨t,rfl⟩:=r;rfl
 | byt _=>obtain⟨t,rfl⟩:=r;rfl
 | flt _=>obtain⟨t,rfl⟩:=r;rfl
 | ref _=>cases r;rfl
 | ty _=>cases r;rfl
def bC.inj{x y:V}(r:bC x u)(q:bC y u):x=y:=Ϛ (r.abs.symm.trans q.abs)
def XD.inj{ys:List V}(h:XD xs us)(g:XD ys us):xs=ys:=by
 induction h generalizing ys with
 | nil=>cases g;rfl
 | cons r t ih =>
  cases g with
  | cons r' t'=>rw[r.inj r',ih t']
end
section
mutual
example:=[]
variable{ys:List V}
def c5.of(h:H a=some (.lst xs)):c5 K H a xs:=.inl (.inl h)
def cJ.of(h:H a=some (.tup xs)):cJ K H a xs:=.inl (.inl h)
theorem XC.list(I:XC X Xy σ H s)(h:c5 X.K H a xs):∃XA:List Value,XD xs XA/\PlainL s.heap a XA.toArray/\xs.length<=sizeLine:=by
 rcases h with h|⟨o,XA,n,hk,hc,hd,hs,hz,r⟩
 ·obtain⟨z,XA,n,r,e⟩:=h.ok I.XF;exact⟨XA,r,⟨_,n,e,rfl,rfl,rfl⟩,z⟩
 ·refine⟨XA.toList,r,⟨o,n,I.kIn a o hk,hc,hd,by simpa using hs⟩,?_⟩;have e:=r.length;simp only[Γ9] at e;omega
theorem XC.tuple(I:XC X Xy σ H s)(h:cJ X.K H a xs):∃XA:List Value,XD xs XA/\IsTup s.heap a XA.toArray/\xs.length<=sizeLine:=by
 rcases h with h|⟨o,XA,n,hk,hc,hs,hz,r⟩
 ·obtain⟨z,XA,r,p⟩:=h.ok I.XF;exact⟨XA,r,p,z⟩
 ·refine⟨XA.toList,r,⟨o,I.kIn a o hk,hc,n,by simpa using hs⟩,?_⟩;have e:=r.length;simp only[Γ9] at e;omega
def XC.LS(I:XC X Xy σ H s)(h:c5 X.K H a xs)(h':c5 X.K H a ys):xs=ys:=by
 obtain⟨XA,r,⟨o,n,e,_,_,d⟩,_⟩:=I.list h;obtain⟨its',r',⟨o',n',e',_,_,d'⟩,_⟩:=I.list h';rw[e] at e';cases e';rw[d] at d';injection d' with d1 _
 have:XA=its':=by simpa using Η5 Array.toList d1
 subst this;exact r.inj r'
def XC.JM(I:XC X Xy σ H s)(h:cJ X.K H a xs)(h':cJ X.K H a ys):xs=ys:=by
 obtain⟨XA,r,⟨o,e,_,n,d⟩,_⟩:=I.tuple h;obtain⟨its',r',⟨o',e',_,n',d'⟩,_⟩:=I.tuple h';rw[e] at e';cases e';rw[d] at d';injection d' with d1 _
 have:XA=its':=by simpa using Η5 Array.toList d1
 subst this;exact r.inj r'
end
end
mutual
example:=[]
abbrev Cx.AD(X:Cx)(E:q0A):Cx:={X with xe:=E}
abbrev Cx.nox(X:Cx):Cx:=X.AD λ_ _=>False
def Cx.Ok.AD(ok:X.Ok)(E:q0A):(X.AD E).Ok :=
 ⟨ok.mod,ok.kind,ok.glob,ok.blt,ok.above,ok.inj,ok.has,ok.cab,ok.hd,ok.frames,ok.stk,ok.exf,ok.bs,ok.bsz,ok.DB,ok.IJ,ok.sD,ok.frf⟩
def Cx.Ok.oX(ok:(X.AD E).Ok):X.Ok :=
 ⟨ok.mod,ok.kind,ok.glob,ok.blt,ok.above,ok.inj,ok.has,ok.cab,ok.hd,ok.frames,ok.stk,ok.exf,ok.bs,ok.bsz,ok.DB,ok.IJ,ok.sD,ok.frf⟩
end
section
mutual
example:=[X.AD E]
def XC.AD(I:XC X Xy σ H s)(E:q0A):XC 0e0 Xy σ H s:=⟨I.ok.AD E,I.os,I.bare,I.base,I.loc,I.cell,I.free,I.lO,I.pin,I.XF,I.len⟩
def XC.oX(I:XC 0e0 Xy σ H s):XC X Xy σ H s:=⟨I.ok.oX,I.os,I.bare,I.base,I.loc,I.cell,I.free,I.lO,I.pin,I.XF,I.len⟩
def SP.oX{f:Flow}(h:SP 0e0 Xy D f s'):SP X Xy D f s':=by
 cases f with
 | next=>obtain⟨σ',H',I,q⟩:=h;exact⟨σ',H',I.oX,q⟩
 | brk=>obtain⟨σ',H',I,q⟩:=h;exact⟨σ',H',I.oX,q⟩
 | cont=>obtain⟨σ',H',I,q⟩:=h;exact⟨σ',H',I.oX,q⟩
 | ret u=>obtain⟨v,σ',H',I,r,q⟩:=h;exact⟨v,σ',H',I.oX,r,q⟩
def YN.nox{st:List Stmt}{t:TS}(h:YN X.nox st t):YN X st t:=λXy s σ H D I hw =>
 Ε3 (h Xy s σ H D (I.AD _) hw) (λ_ _ q=>q.oX) λ_ _ z=>False.elim z
end
end
section
mutual
example:=[he Xy s σ H _ I h]
variable{st:Stmt}{rest:List Stmt}{t u:TS}
def HS:TS:=λD σ H=>D.nx σ H
def FA(t u:TS):TS:=λD σ H=>t {D with nx:=u D} σ H
def Pr:YN X [] HS:=λ_ _ σ H _ I h=>wpAny_execs_nil ⟨σ,H,I,h⟩
def aG(h1:PS X st t)(h2:YN X rest u):YN X (st::rest) (FA t u):=by
 intro Xy s σ H D I h;refine wpAny_execs_cons (thn (h1 Xy s σ H {D with nx:=u D} I h) λf s1 q=>?_);cases f with
 | next =>
  obtain⟨σ',H',I',q⟩:=q;exact h2 Xy s1 σ' H' D I' q
 | ret v=>exact q
 | brk=>exact q
 | cont=>exact q
def aI(h1:PS X st t):YN X [st] t:=by
 intro Xy s σ H D I h;refine wpAny_execs_cons (thn (h1 Xy s σ H D I h) λf s1 q=>?_);cases f with
 | next=>exact wpAny_execs_nil q
 | ret v=>exact q
 | brk=>exact q
 | cont=>exact q
def XC.quiet(I:XC X Xy σ H s):interactive X.env=false:=by simp[interactive,I.ok.kind]
def Nl(te:TE):TS:=λD σ H=>te σ H λ_ H1=>D.nx σ H1
def bH(he:PE X e te)(hs:swapsWith e none pos.line X.env=pure false:=by rfl):PS X (.Expr e pos) (Nl te):=by
 intro Xy s σ H D I h;exact wpAny_Expr_any (thn 0e0 λv s1 ⟨x,H1,I1,r1,q1⟩=>⟨σ,H1,I1,q1⟩) I.quiet hs
def TC(te:TE):TS:=λD σ H=>te σ H D.rt
def aJ(he:PE X e te):PS X (.Return (some e) pos) (TC te):=by
 intro Xy s σ H D I h;exact wpAny_Return_some (thn 0e0 λv s1 ⟨x,H1,I1,r1,q1⟩=>⟨x,σ,H1,I1,r1,q1⟩)
def JK(c:TT)(t u:TS):TS:=λD σ H=>c σ H λb H1=>if b=true then t D σ H1 else u D σ H1
def zA{a b:List Stmt}{tc:TT}(hc:PT X c tc)(ha:YN X a t)(hb:YN X b u):PS X (.If c a b pos) (JK tc t u):=by
 intro Xy s σ H D I h;refine wpAny_If (thn (hc Xy s σ H _ I h) λd s1 ⟨H1,I1,q1⟩=>?_);cases d with
 | true=>exact ha Xy s1 σ H1 D I1 q1
 | false=>exact hb Xy s1 σ H1 D I1 q1
end
end
mutual
example:=[model X.prog X.w,Addr×Obj,St->Hp->Prop]
abbrev TG:=V->St->Hp->2e0->Prop
variable{g:TG}
abbrev TGs:=List V->St->Hp->2e0->Prop
def PG(X:Cx)(target:Expr)(t:TG):Prop :=
 ∀(Xy:List 1e0) (s:Shared) (σ:St) (H:Hp) (v:V) (u:Value) (Q:St->Hp->Prop),XC X Xy σ H s->bC v u->t v σ H Q ->
  wpAny 0e0 X.A (assign target X.env u) (λ_ s'=>∃σ' H',XC X Xy σ' H' s'/\Q σ' H') X.xe s
def PGs(X:Cx)(ts:List Expr)(t:TGs):Prop :=
 ∀(Xy:List 1e0) (s:Shared) (σ:St) (H:Hp) (vs:List V) (us:List Value) (Q:St->Hp->Prop),XC X Xy σ H s->XD vs us->t vs σ H Q ->
  wpAny 0e0 X.A (assignInOrder ((assignEach ts X.env).map (·.2)) us) (λ_ s'=>∃σ' H',XC X Xy σ' H' s'/\Q σ' H') X.xe s
abbrev TSet:=V->V->V->Hp->(Hp->Prop)->Prop
def PSet(X:Cx)(t:TSet):Prop :=
 ∀(Xy:List 1e0) (s:Shared) (σ:St) (H:Hp) (o i v:V) (ov iv u:Value) (Q:Hp->Prop),XC X Xy σ H s->bC o ov->bC i iv->bC v u->t o i v H Q ->
  wpAny 0e0 X.A (setItem ov iv u) (λ_ s'=>∃H',XC X Xy σ H' s'/\Q H') X.xe s
abbrev TIp:=V->V->Hp->VK->Prop
def PIp(X:Cx)(op:Operator)(t:TIp):Prop :=
 ∀(Xy:List 1e0) (s:Shared) (σ:St) (H:Hp) (x y:V) (v u:Value) (Q:VK),XC X Xy σ H s->bC x v->bC y u->t x y H Q ->
  wpAny 0e0 X.A (inplaceOp op v u) (EP X Xy σ Q) X.xe s
end
section
mutual
example:=[model X.prog X.w,he Xy s σ H _ I h,hi Xy s1 σ H1 _ I1 q1,ho Xy s σ H _ I h,.Subscript o i pos,.Name x pos']
def n9(i:Nat):TG:=λv σ H Q=>Q (σ.set i (some v)) H
theorem jO(hN:X.N.Nodup)(hi:X.N[i]?=some x)(hx:Loc X.env.scope x)(hf:X.fn x=true\/X.env.scope.names.lookup x=some .local:=by first|exact .inl rfl|exact .inr rfl|assumption):PG X (.Name x pos) (n9 i):=by
 intro Xy s σ H v u Q I r h;exact wpAny_assign_Name (zY I hN hi hx r (λs' I'=>⟨_,H,I',h⟩) hf)
def OV:TGs:=λvs σ H Q=>vs=[]/\Q σ H
def GJ(t:TG)(u:TGs):TGs:=λvs σ H Q=>∃v r,vs=v::r/\t v σ H λσ' H'=>u r σ' H' Q
def Cq:PGs X [] OV:=by
 intro Xy s σ H vs us Q I r h;obtain⟨e,h⟩:=h;subst e;cases r;exact assignInOrder_nil ⟨σ,H,I,h⟩
def j8{t:TG}{u:TGs}(h1:PG X e t)(h2:PGs X es u)(hs:(assignEach (e::es) X.env).map (·.2)=assign e X.env::(assignEach es X.env).map (·.2):=by rfl):PGs X (e::es) (GJ t u):=by
 intro Xy s σ H vs us Q I r h;obtain⟨v,vr,e1,h⟩:=h;subst e1;cases r with
 | cons r rr =>
  rw[hs];refine assignInOrder_cons (thn (h1 Xy s σ H _ _ _ I r h) λ_ s1 ⟨σ1,H1,I1,q1⟩=>?_);exact h2 Xy s1 σ1 H1 _ _ Q I1 rr q1
def OW(K:q0B)(n:Nat)(t:TGs):TG:=λv σ H Q=>∃a xs,v=.ref a/\cJ K H a xs/\xs.length=n/\t xs σ H Q
def Fh{t:TGs}(hc:X.calm=true)(h:PGs X es t)(hn:(assignEach es X.env).length=n:=by rfl)(XQ:(assignEach es X.env).findIdx? (·.1)=none:=by rfl):PG X (.Tuple es k pos) (OW X.K n t):=by
 intro Xy s σ H v u Q I r hw;obtain⟨a,xs,e1,hq,hl,hw⟩:=hw;subst e1;cases r;obtain⟨XA,rv,ht,hz⟩:=I.tuple hq;refine assign_Tuple_tuple (I.ok.hd hc) ht (by simp[hn,<- hl,rv.length]) XQ λh' hx=>?_;have I1:XC X Xy σ H {s with heap:=h'}:=I.kept (t':=s.toks) λb o e=>hx b o (Ρ (Ο e)) e;exact h Xy _ σ H xs _ Q I1 (by simpa using rv) hw
def Vp(to ti:TE)(t:TSet):TG:=λv σ H Q=>to σ H λo H1=>ti σ H1 λi H2=>t o i v H2 λH3=>Q σ H3
def Cp{o i:Expr}{to ti:TE}{t:TSet}(ho:PE X o to)(hi:PE X i ti)(hs:PSet X t)
    (ha:∀v,assign 4e0 X.env v=(do
      let ov <- holding [v] (eval o X.env);let iv <- holding [v,ov] (eval i X.env)
      standAt pos
      holding [v,ov,iv] (setItem ov iv v)
      release [v,ov,iv] []):=by intro _;rfl):PG X 4e0 (Vp to ti t):=by
  intro Xy s σ H v u Q I r h;rw[ha];refine Α (Β8 (thn 3e0 λov s1 ⟨x,H1,I1,r1,q1⟩=>?_));refine Α (Β8 (thn 2e0 λiv s2 ⟨y,H2,I2,r2,q2⟩=>?_));refine Α (wpAny_standAt (Α (Β8 (thn (hs Xy s2 σ H2 x y v ov iv u _ I2 r1 r2 r q2) λ_ s3 ⟨H3,I3,q3⟩=>?_))));exact wpAny_release ⟨σ,H3,I3,q3⟩
def Nj(te:TE)(g:TG):TS:=λD σ H=>te σ H λx H1=>g x σ H1 D.nx
def Cs(he:PE X e te)(hg:PG X tg g)(hs:swapsWithSole [tg] e pos.line X.env=pure false:=by rfl)(hw:swappedStores [tg] e X.env=pure none:=by rfl)(h1:(assignEach [tg] X.env).map (·.2)=[assign tg X.env]:=by rfl):PS X (.Assign [tg] e pos) (Nj te g):=by
 intro Xy s σ H D I h;refine wpAny_Assign_stores (thn 1e0 λv s1 ⟨x,H1,I1,r1,q1⟩=>?_) hs hw;rw[h1];exact thn (hg Xy s1 σ H1 x v _ I1 r1 q1) λ_ s2 q=>q
theorem zB{pos':Pos}(hN:X.N.Nodup)(hi:X.N[i]?=some x)(hx:Loc X.env.scope x)(he:PE X e te)(hs:swapsWith e (some 5e0) pos.line X.env=pure false:=by rfl)(hf:X.fn x=true\/X.env.scope.names.lookup x=some .local:=by first|exact .inl rfl|exact .inr rfl|assumption) : PS X (.Assign [.Name x pos'] e pos) (Nj te (n9 i)):=by
 intro Xy s σ H D I h;refine wpAny_Assign_Name (thn 1e0 λv s1 ⟨y,H1,I1,r1,q1⟩=>?_) hs;exact zY I1 hN hi hx r1 (λs2 I2=>⟨_,H1,I2,q1⟩) hf
def VO(i:Nat)(te:TE)(ti:TIp):TS:=λD σ H=>∃x,σ[i]?=some (some x)/\te σ H λy H1=>ti x y H1 λz H2=>D.nx (σ.set i (some z)) H2
theorem Tn{op:Operator}{ti:TIp}{pos':Pos}(hN:X.N.Nodup)(hi:X.N[i]?=some x)(hx:Loc X.env.scope x)(he:PE X e te)(ho:PIp X op ti)(hf:X.fn x=true\/X.env.scope.names.lookup x=some .local:=by first|exact .inl rfl|exact .inr rfl|assumption) : PS X (.AugAssign 5e0 op e pos) (VO i te ti):=by
 intro Xy s σ H D I h;obtain⟨v,e1,h⟩:=h;obtain⟨m,hn,hl⟩:=I.loc;have vis:Vis X.env.scope x:=by rcases hx with k|k;exact .inl k;exact .inr (.inl k)
 obtain⟨u,r,l⟩:=hl i x v hi e1 vis;refine wpAny_AugAssign_Name ?_;have go:wpAny 0e0 X.A (eval e X.env) (λw s₂=>wpAny 0e0 X.A (inplaceOp op u w) (λr s₃=>wpAny 0e0 X.A (storeName X.env x r) (λ_=>SP X Xy D .next) X.xe s₃) X.xe s₂) X.xe s:=by
  refine thn 1e0 λw s1 ⟨y,H1,I1,r1,q1⟩=>?_;refine thn (ho Xy s1 σ H1 v y u w _ I1 r r1 q1) λz s2 ⟨zv,H2,I2,r2,q2⟩=>?_;exact zY I2 hN hi hx r2 (λs3 I3=>⟨_,H2,I3,q2⟩) hf
 rcases l with⟨hk,hm⟩|⟨hk,c,hc,Zx⟩
 ·exact wpAny_loadName_local I.ok.kind hk hn hm go
 ·rcases hk with hk|hk
  ·exact wpAny_loadName_cell I.ok.kind hk hc Zx go
  ·rcases hx with k|k
   ·have:X.env.scope.names.lookup x=some .free:=hk;rw[k] at this;cases this
   ·have:X.env.scope.names.lookup x=some .free:=hk;rw[k] at this;cases this
def QL(to ti te:TE)(Zq:V->V->Hp->VK->Prop)(tip:TIp)(Zr:TSet):TS:=λD σ H=>to σ H λo H1=>ti σ H1 λi H2=>Zq o i H2 λx H3=>te σ H3 λy H4=>tip x y H4 λz H5=>Zr o i z H5 λH6=>D.nx σ H6
def PGet(X:Cx)(t:V->V->Hp->VK->Prop):Prop :=
 ∀(Xy:List (Addr×Obj)) (s:Shared) (σ:St) (H:Hp) (o i:V) (ov iv:Value) (Q:VK),XC X Xy σ H s->bC o ov->bC i iv->t o i H Q ->
  wpAny 0e0 X.A (getItem ov iv) (EP X Xy σ Q) X.xe s
def Po{o i:Expr}{to ti:TE}{Zq:V->V->Hp->VK->Prop}{tip:TIp}{Zr:TSet}{op:Operator}{aaI:Pos}(ho:PE X o to)(hi:PE X i ti)(hg:PGet X Zq)(he:PE X e te)(hp:PIp X op tip)(hs:PSet X Zr)
    (ha:∀ov iv new,augStore i ov iv new=(do holding [new,ov,iv] (setItem ov iv new);release [new,ov,iv] [];pure .next):=by intros;rfl):PS X (.AugAssign (.Subscript o i aaI) op e pos) (QL to ti te Zq tip Zr):=by
  intro Xy s σ H D I h;refine wpAny_AugAssign_SubscriptAny (thn 3e0 λov s1 ⟨x1,H1,I1,r1,q1⟩=>?_) ha;refine thn 2e0 λiv s2 ⟨x2,H2,I2,r2,q2⟩=>?_;refine thn (hg Xy s2 σ H2 x1 x2 ov iv _ I2 r1 r2 q2) λold s3 ⟨x3,H3,I3,r3,q3⟩=>?_;refine thn (he Xy s3 σ H3 _ I3 q3) λv s4 ⟨x4,H4,I4,r4,q4⟩=>?_;refine thn (hp Xy s4 σ H4 x3 x4 old v _ I4 r3 r4 q4) λnew s5 ⟨x5,H5,I5,r5,q5⟩=>?_;exact thn (hs Xy s5 σ H5 x1 x2 x5 ov iv new _ I5 r1 r2 r5 q5) λ_ s6 ⟨H6,I6,q6⟩=>⟨σ,H6,I6,q6⟩
def Xt(f:Int->Int->Int):TIp:=λx y H Q=>∃i j,x=.int i/\y=.int j/\Q (.int (f i j)) H
def SU:PIp X .Add (Xt λi j=>i+j):=by
 intro Xy s σ H x y v u Q I r1 r2 h;obtain⟨i,j,e1,e2,q⟩:=h;subst e1;subst e2;obtain⟨t,rfl⟩:=r1;obtain⟨t',rfl⟩:=r2;exact iadd_int ⟨.int _,H,I.tok _,⟨_,rfl⟩,q⟩
end
end
section
noncomputable def TF(c:TT)(tb:TS):TS:=λD σ H=>∃W:Nat->St->Hp->Prop,(∃m,W m σ H)/\∀m σ H,W m σ H ->
 c σ H λb H1=>if b=true then ∃N:St->Hp->Prop,(∀σ' H',N σ' H'->∃m',m' < m/\W m' σ' H')/\tb {D with nx:=N,ct:=N,bk:=D.nx} σ H1 else D.nx σ H1
def DN{tc:TT}(hp:PassesOwn (model X.prog X.w) X.A X.env X.xe)(hc:PT X c tc)(hb:YN X body tb):PS X (.While c body [] pos) (TF tc tb):=by
 intro Xy s σ H D I h;obtain⟨W,⟨m0,w0⟩,turn⟩:=h;refine wpAny_While (codeAny_whileLoop (λn s'=>∃σ' H',XC X Xy σ' H' s'/\W n σ' H') ?_ m0 ⟨σ,H,I,w0⟩);rintro n s1 ⟨σ1,H1,I1,w1⟩;refine Κ0 hp (thn (hc Xy s1 σ1 H1 _ I1 (turn n σ1 H1 w1)) λb s2 ⟨H2,I2,q2⟩=>?_);cases b with
 | true =>
  obtain⟨N,hN,q2⟩:=q2;rw[if_pos rfl];refine Κ0 hp (thn (hb Xy s2 σ1 H2 _ I2 q2) λf s3 q3=>?_);cases f with
  | next =>
   obtain⟨σ3,H3,I3,n3⟩:=q3;obtain⟨m',hm,w3⟩:=hN σ3 H3 n3;exact⟨m',hm,σ3,H3,I3,w3⟩
  | cont =>
   obtain⟨σ3,H3,I3,n3⟩:=q3;obtain⟨m',hm,w3⟩:=hN σ3 H3 n3;exact⟨m',hm,σ3,H3,I3,w3⟩
  | brk=>exact q3
  | ret v=>exact q3
 | false =>
  rw[if_neg ϓ];exact wpAny_execs_nil ⟨σ1,H2,I2,q2⟩
end
mutual
example:=[(by simp),Addr×Obj,.ref it,I.ok.hd hc,model P w,(λb o hb e=>eb b o hb e),(by decide),(λb o hb e=>(sb.2 b hb).trans e),letOwnedTupleGo tg (.ref it) u,(by simpa using hu),(by rw[z];exact hb),model X.prog X.w,(by simp;omega)]
structure It where
 go:Nat->Hp->Prop
 yld:Nat->Hp->V->Hp->Prop
 stop:Nat->Hp->Prop
def mB(X:Cx)(Xy:List 1e0)(H:Hp)(b:Addr):Prop :=
 H b=none/\b≠X.env.locals/\b∉X.fs/\(b∈X.ex\/X.s₀.heap.objs.size<=b)/\(∀x c,X.env.cells.lookup x=some c->c≠b)/\∀p∈X.pn++Xy,p.1≠b
def XC.IP{H':Hp}(I:XC X Xy σ H s)(hb:s.heap.objs.size<=b)(hn:H' b=none):mB X Xy H' b:=by
 refine⟨hn,Nat.ne_of_gt (ϐ I.lt hb),I.Vw hb,.inr (ϕ I.sz hb),λx c e z=>?_,λp hp z=>?_⟩
 ·obtain⟨v,q⟩:=I.cell x c e;exact absurd (ϐ q.lt 0e1) (Α2 _)
 ·exact absurd (ϐ (Ο (I.pin p hp).1) 0e1) (Α2 _)
structure Turn(P:Program)(w:World)(K:q0B)(tg:Expr)(J:It)(fp:List Addr)(it:Addr)(tn:Nat->Heap->Prop):Prop where
 mem:it∈fp
 obj:∀i h,tn i h->∀b∈fp,∃o,h.get? b=some o/\∀v,o.data≠.cell v
 keep:∀i h h',tn i h->(∀b∈fp,∀o,h.get? b=some o->h'.get? b=some o)->tn i h'
 item:∀(X:Cx),X.prog=P->X.w=w->X.K=K->X.calm=true->∀(i:Nat) (Xy:List 1e0) (s:Shared) (σ:St) (H:Hp) (E:q0A),XC X Xy σ H s->(∀b∈fp,mB X Xy H b)->tn i s.heap->J.go i H ->
  wpAny 4e0 X.A (pyNext 2e0) (λr s1=>∃u,r=some u /\
   wpAny 4e0 X.A 8e0 (λ_ s2=>∃x H',XC X Xy σ H' s2/\bC x u/\J.yld i H x H'/\tn (i+1) s2.heap/\∀b∈fp,H' b=none) E s1) E s
 done:∀(X:Cx),X.prog=P->X.w=w->X.K=K->X.calm=true->∀(i:Nat) (Xy:List 1e0) (s:Shared) (σ:St) (H:Hp) (E:q0A),XC X Xy σ H s->(∀b∈fp,mB X Xy H b)->tn i s.heap->J.stop i H ->
  wpAny 4e0 X.A (pyNext 2e0) (λr s1=>r=none/\XC X Xy σ H s1) E s
 self:∀(A:Around) (i:Nat) (s:Shared) (Q:q0A) (E:q0A),tn i s.heap->Q 2e0 s->wpAny 4e0 A (pyIter 2e0) Q E s
abbrev TI:=St->Hp->(It->Hp->Prop)->Prop
def PIE(X:Cx)(Xy:List 1e0)(σ:St)(tg:Expr)(R:It->Hp->Prop)(itv:Value)(s2:Shared):Prop :=
 ∃(it:Addr) (fp:List Addr) (tn:Nat->Heap->Prop) (J:It) (H':Hp),itv=.ref it/\XC X Xy σ H' s2/\Turn X.prog X.w X.K tg J fp it tn/\tn 0 s2.heap/\(∀b∈fp,mB X Xy H' b)/\R J H'
def PI(X:Cx)(tg iter:Expr)(wi:TI):Prop :=
 ∀(Xy:List 1e0) (s:Shared) (σ:St) (H:Hp) (R:It->Hp->Prop),XC X Xy σ H s->wi σ H R ->
  wpAny 1e1 X.A (eval iter X.env) (λv s1=>wpAny 1e1 X.A (pyIter v) (PIE X Xy σ tg R) X.xe s1) X.xe s
def GL{it:Addr}{o:Obj}{n:String}{vs:Array Value}(ho:s.heap.get? it=some o)(hc:o.cls=.type n)(hd:o.data=.fields vs)(hn:["enumerate","zip","dict_itemiterator","dict_reverseitemiterator","odict_iterator","itertools.zip_longest","itertools.pairwise"].contains n=false)(hQ:Q () s):wpAny M A 8e0 Q E s:=by
  unfold letOwnedTupleGo;cases tg<;>first
    | exact Β hQ
    | (cases u<;>first
        | exact Β hQ
        | (refine Α (wpAny_load ho ?_)
           rw[hc,hd];show wpAny M A (if (["enumerate","zip","dict_itemiterator","dict_reverseitemiterator","odict_iterator","itertools.zip_longest","itertools.pairwise"].contains n&&vs[0]?==some (rawInt _))=true then _ else _) Q E s;rw[if_neg (by intro h;rw[hn,Bool.false_and] at h;cases h)];exact Β hQ))
def Z9(K:q0B)(a:Addr):It :=
 ⟨λi H=>∃xs x,c5 K H a xs/\xs[i]?=some x,λi H x H'=>H'=H/\∀xs,c5 K H a xs->xs[i]?=some x,λi H=>∃xs,c5 K H a xs/\xs.length<=i⟩
def Itt(K:q0B)(a:Addr):It :=
 ⟨λi H=>∃xs x,cJ K H a xs/\xs[i]?=some x,λi H x H'=>H'=H/\∀xs,cJ K H a xs->xs[i]?=some x,λi H=>∃xs,cJ K H a xs/\xs.length<=i⟩
def ZV(lo:Int)(n:Nat):It:=⟨λi _=>i < n,λi H x H'=>H'=H/\x=.int (lo+i),λi _=>n<=i⟩
theorem JO(a it:Addr):Turn P w K tg (Z9 K a) [it] it (λi h=>h.IsListIter it a i) where
 mem:=by simp
 obj:=λi h st b hb=>by
  have e:b=it:=by simpa using hb
  subst e;obtain⟨o,e,c,d⟩:=st;exact⟨o,e,λv z=>by rw[d] at z;cases z⟩
 keep:=λi h h' st k=>st.at λo e=>k it 0e0 o e
 item:=by
  intro X hP hw hK hc i Xy s σ H E I hf st hg;subst hP hw hK;obtain⟨xs,x,hq,hx⟩:=hg;obtain⟨XA,rv,p,hz⟩:=I.list hq;obtain⟨u,hu,ru⟩:=rv.get hx;obtain⟨f0,f1,f2,f3,f4,f5⟩:=hf it 0e0;refine wpAny_pyNext_list_item st p.isList (x:=u) 9e0 λh' Ym sb=>?_;have I1:XC X Xy σ H {s with heap:=h'}:=I.turned (t':=s.toks) 7e0 f0 f1 f3 f4 f5;obtain⟨o,e,c,d⟩:=id Ym;exact⟨u,rfl,GL (s:={s with heap:=h'}) e c d 6e0 ⟨x,H,I1,ru,⟨rfl,λys hy=>by rw[I.LS hy hq];exact hx⟩,Ym,λb hb=>(hf b hb).1⟩⟩
 done:=by
  intro X hP hw hK hc i Xy s σ H E I hf st hg;subst hP hw hK;obtain⟨xs,hq,hx⟩:=hg;obtain⟨XA,rv,p,hz⟩:=I.list hq;obtain⟨f0,f1,f2,f3,f4,f5⟩:=hf it 0e0;have hl:=rv.length;exact wpAny_pyNext_list_end 3e0 st p.isList 2e1 λh' eb=>⟨rfl,I.turned (t':=s.toks) 5e0 f0 f1 f3 f4 f5⟩
 self:=λ_ _ _ _ _ st h=>wpAny_pyIter_listiter st h
theorem FH(a it:Addr):Turn P w K tg (Itt K a) [it] it (λi h=>h.IsTupleIter it a i) where
 mem:=by simp
 obj:=λi h st b hb=>by
  have e:b=it:=by simpa using hb
  subst e;obtain⟨o,e,c,d⟩:=st;exact⟨o,e,λv z=>by rw[d] at z;cases z⟩
 keep:=λi h h' st k=>st.at λo e=>k it 0e0 o e
 item:=by
  intro X hP hw hK hc i Xy s σ H E I hf st hg;subst hP hw hK;obtain⟨xs,x,hq,hx⟩:=hg;obtain⟨XA,rv,p,hz⟩:=I.tuple hq;obtain⟨u,hu,ru⟩:=rv.get hx;obtain⟨f0,f1,f2,f3,f4,f5⟩:=hf it 0e0;refine wpAny_pyNext_tuple_item st (show s.heap.IsTuple a XA.toArray from p) (x:=u) 9e0 λh' Ym sb=>?_;have I1:XC X Xy σ H {s with heap:=h'}:=I.turned (t':=s.toks) 7e0 f0 f1 f3 f4 f5;obtain⟨o,e,c,d⟩:=id Ym;exact⟨u,rfl,GL (s:={s with heap:=h'}) e c d 6e0 ⟨x,H,I1,ru,⟨rfl,λys hy=>by rw[I.JM hy hq];exact hx⟩,Ym,λb hb=>(hf b hb).1⟩⟩
 done:=by
  intro X hP hw hK hc i Xy s σ H E I hf st hg;subst hP hw hK;obtain⟨xs,hq,hx⟩:=hg;obtain⟨XA,rv,p,hz⟩:=I.tuple hq;obtain⟨f0,f1,f2,f3,f4,f5⟩:=hf it 0e0;have hl:=rv.length;exact wpAny_pyNext_tuple_end 3e0 st (show s.heap.IsTuple a XA.toArray from p) 2e1 λh' eb=>⟨rfl,I.turned (t':=s.toks) 5e0 f0 f1 f3 f4 f5⟩
 self:=λ_ _ _ _ _ st h=>wpAny_pyIter_tupleiter st h
theorem FE(it:Addr)(lo:Int)(n:Nat):Turn P w K tg (ZV lo n) [it] it (λi h=>IsRangeIter h it (lo+(i:Nat) * 1) ((n:Int) - (i:Nat)) 1) where
 mem:=by simp
 obj:=λi h st b hb=>by
  have e:b=it:=by simpa using hb
  subst e;exact⟨_,st,λv z=>by
   have z':Data.fields _=Data.cell v:=z;cases z'⟩
 keep:=λi h h' st k=>k it 0e0 _ st
 item:=by
  intro X hP hw hK hc i Xy s σ H E I hf st hg;subst hP hw hK;obtain⟨f0,f1,f2,f3,f4,f5⟩:=hf it 0e0;have W:=Walks.range (prog:=X.prog) (w:=X.w) 3e0 it lo 1 n;refine W.item i s _ _ hg st λv h' tk hv Ym kk=>?_;obtain⟨t,rfl⟩:=hv;have I1:XC X Xy σ H {s with heap:=h',toks:=tk}:=I.turned (λb o hb e=>kk b o (by simpa using hb) e) f0 f1 f3 f4 f5;refine⟨_,rfl,GL (s:={s with heap:=h',toks:=tk}) (n:="range_iterator") Ym rfl rfl 6e0 ⟨.int (lo+i),H,I1,⟨t,?_⟩,⟨rfl,rfl⟩,Ym,λb hb=>(hf b hb).1⟩⟩;rw[Int.mul_one]
 done:=by
  intro X hP hw hK hc i Xy s σ H E I hf st hg;subst hP hw hK;obtain⟨f0,f1,f2,f3,f4,f5⟩:=hf it 0e0;exact wpAny_pyNext_range_end 3e0 st (by have:n<=i:=hg;omega) λh' eb=>⟨rfl,I.turned (t':=s.toks) 5e0 f0 f1 f3 f4 f5⟩
 self:=λ_ _ _ _ _ st h=>wpAny_pyIter_rangeiter st h
end
section
mutual
example:=[I1.XF.fresh (Ζ _),2 ^ 62,ϗ _ (ϗ _ (mK hb e)),hl Xy s σ H _ I h,model X.prog X.w,Addr×Obj]
def Dl(K:q0B)(tl:TE):TI:=λσ H R=>tl σ H λx H1=>∃a,x=.ref a/\(∃xs,c5 K H1 a xs)/\R (Z9 K a) H1
def EN(K:q0B)(tl:TE):TI:=λσ H R=>tl σ H λx H1=>∃a,x=.ref a/\(∃xs,cJ K H1 a xs)/\R (Itt K a) H1
def dH{l:Expr}{tl:TE}(hl:PE X l tl):PI X tg l (Dl X.K tl):=by
 intro Xy s σ H R I h;refine thn 3e0 λv s1 ⟨x,H1,I1,r1,q1⟩=>?_;obtain⟨a,e,⟨xs,hq⟩,q⟩:=q1;subst e;cases r1;obtain⟨XA,rv,p,hz⟩:=I1.list hq;refine wpAny_pyIter_list p.isList ?_;refine⟨s1.heap.objs.size,[s1.heap.objs.size],_,_,H1,rfl,I1.kept (t':=s1.toks) λb o e=>Γ _ e,JO a _,⟨_,Ν _ rfl,rfl,rfl⟩,λb hb=>?_,q⟩;have e:b=s1.heap.objs.size:=by simpa using hb
 subst e;exact I1.IP (Ζ _) 0e0
def Cr{l:Expr}{tl:TE}(hl:PE X l tl):PI X tg l (EN X.K tl):=by
 intro Xy s σ H R I h;refine thn 3e0 λv s1 ⟨x,H1,I1,r1,q1⟩=>?_;obtain⟨a,e,⟨xs,hq⟩,q⟩:=q1;subst e;cases r1;obtain⟨XA,rv,p,hz⟩:=I1.tuple hq;refine wpAny_pyIter_tuple (show s1.heap.IsTuple a XA.toArray from p) ?_;refine⟨s1.heap.objs.size,[s1.heap.objs.size],_,_,H1,rfl,I1.kept (t':=s1.toks) λb o e=>Γ _ e,FH a _,⟨_,Ν _ rfl,rfl,rfl⟩,λb hb=>?_,q⟩;have e:b=s1.heap.objs.size:=by simpa using hb
 subst e;exact I1.IP (Ζ _) 0e0
theorem MB{R:It->Hp->Prop}{lo hi:Int}{t u v:Tok}{tk:Nat}(I:XC X Xy σ H s)(h1:-1e0<=lo)(h2:lo < 2 ^ 62)(h3:-1e0<=hi)(h4:hi < 2 ^ 62)(q:R (ZV lo (hi - lo).toNat) H):wpAny 4e0 X.A (pyIter (.ref s.heap.objs.size)) (PIE X Xy σ tg R) E {s with heap:=s.heap.push {cls:=.type "range",data:=.fields #[.int lo t,.int hi u,.int 1 v]},toks:=tk}:=by
 refine wpAny_pyIter_range (IsRange.new ..) (small_one h1 h2 h3 h4) ?_;have I1:XC X Xy σ H {s with heap:=s.heap.push {cls:=.type "range",data:=.fields #[.int lo t,.int hi u,.int 1 v]},toks:=tk}:=I.kept λb o e=>Γ _ e;refine⟨(s.heap.push {cls:=.type "range",data:=.fields #[.int lo t,.int hi u,.int 1 v]}).objs.size,[(s.heap.push {cls:=.type "range",data:=.fields #[.int lo t,.int hi u,.int 1 v]}).objs.size],_,_,H,rfl,
  I1.kept (t':=tk) λb o e=>Γ _ e,FE _ lo (hi - lo).toNat,?_,λb hb=>?_,q⟩
 ·have e1:lo+((0:Nat):Int) * 1=lo:=by simp
  have e2:(((hi - lo).toNat:Nat):Int) - ((0:Nat):Int)=Builtin.Range.rangeSize lo hi 1:=by rw[rangeSize_one];split<;>omega
  show IsRangeIter _ _ (lo+((0:Nat):Int) * 1) ((((hi - lo).toNat:Nat):Int) - ((0:Nat):Int)) 1;rw[e1,e2];exact Ν _ rfl
 ·have e:b=(s.heap.push {cls:=.type "range",data:=.fields #[.int lo t,.int hi u,.int 1 v]}).objs.size:=by simpa using hb
  subst e;exact I1.IP (Ζ _) 0e0
def Dm(ta:TA):TI:=λσ H R=>ta σ H λvs H1=>∃j:Int,vs=[.int j]/\-1e0<=j/\j < 2 ^ 62/\R (ZV 0 j.toNat) H1
theorem lX{a:Expr}{ta:TA}{p:Pos}(hg:Gl X "range")(hm:X.mg "range"=none)(ha:PA X [a] ta)(hs:starEach [a] X.env=[(false,eval a X.env)]:=by rfl):PI X tg (.Call (.Name "range" p) [a] [] pos) (Dm ta):=by
 intro Xy s σ H R I h;refine Call_ (yM I hg hm boot_range (Ι7 (thn (ha pos Xy s σ H _ I h) λus s1 ⟨vs,H1,I1,r1,q1⟩=>?_) hs rfl));obtain⟨j,e,q1,q2,q⟩:=q1;subst e;cases r1 with
 | cons r rr =>
  cases rr;obtain⟨t,rfl⟩:=r;exact call_range_1 (MB I1 (by omega) (by omega) q1 q2 (by simpa using q))
def Fz(wi:TI)(g:TG)(tb:TS):TS:=λD σ H=>wi σ H λJ H1=>∃W:Nat->Nat->St->Hp->Prop,(∃m,W 0 m σ H1)/\∀i m σ H,W i m σ H ->
 (J.stop i H/\D.nx σ H)\/(J.go i H/\∃N:St->Hp->Prop,(∀σ' H',N σ' H'->∃m',m' < m/\W (i+1) m' σ' H')/\∀x H',J.yld i H x H'->g x σ H' λσ2 H2=>tb {D with nx:=N,ct:=N,bk:=D.nx} σ2 H2)
def y9(fp:List Addr)(h:Heap):List 5e0:=fp.filterMap λb=>(h.get? b).map λo=>(b,o)
def mK{o:Obj}(hb:b∈fp)(e:h.get? b=some o):(b,o)∈y9 fp h:=List.mem_filterMap.mpr ⟨b,hb,by rw[e];rfl⟩
def Je{p:Addr×Obj}(hp:p∈y9 fp h):p.1∈fp/\h.get? p.1=some p.2:=by
 obtain⟨b,hb,e⟩:=List.mem_filterMap.mp hp;cases q:h.get? b with
 | none=>rw[q] at e;cases e
 | some o =>
  rw[q] at e;have e':(b,o)=p:=Ϛ e;subst e';exact⟨hb,q⟩
def XC.pinned(I:XC X Xy σ H s)(hf:∀b∈fp,mB X Xy H b)(ho:∀b∈fp,∃o,s.heap.get? b=some o/\∀v,o.data≠.cell v):XC X (Xy++y9 fp s.heap) σ H s :=
 I.sV λp hp=>(Υ.mp hp).elim (λz=>I.pin p (ϗ _ z)) λz=>by
  obtain⟨hb,e⟩:=Je z;obtain⟨f0,f1,f2,_⟩:=hf p.1 hb;obtain⟨o,e',d⟩:=ho p.1 hb;rw[e] at e';cases e';exact⟨e,f0,f1,f2,d⟩
def XC.Aa{pl:List 5e0}(I:XC X (Xy++pl) σ H s):XC X Xy σ H s:=I.sV λp hp=>I.pin p (ϗ _ (Ε4 _ hp))
def i7{iter:Expr}{wi:TI}(hp:PassesOwn 4e0 X.A X.env X.xe)(hc:X.calm=true)(hi:PI X tg iter wi)(hg:PG X tg g)(hb:YN X body tb)(hs:∀x,foldedSetIterable iter X.env x=pure x:=by intro _;rfl):PS X (.For tg iter body [] pos) (Fz wi g tb):=by
 intro Xy s σ H D I h;refine wpAny_For (thn (hi Xy s σ H _ I h) λv s1 h1=>thn h1 λitv s2 h2=>?_) hs;obtain⟨it,fp,tn,J,H2,e,I2,T,Yo,f2,W,⟨m0,w0⟩,turn⟩:=h2;subst e;have Zp:∀{H':Hp},(∀b∈fp,H' b=none)->∀b∈fp,mB X Xy H' b:=λhn b hb=>⟨hn b hb,(f2 b hb).2⟩;refine codeAny_forLoop_any (λn s'=>∃i σ' H',XC X Xy σ' H' s'/\tn i s'.heap/\(∀b∈fp,H' b=none)/\W i n σ' H') ?_ m0 ⟨0,σ,H2,I2,Yo,λb hb=>(f2 b hb).1,w0⟩;rintro n s3 ⟨i,σ3,H3,I3,st3,fr3,w3⟩;rcases turn i n σ3 H3 w3 with⟨stop,qn⟩|⟨go,N,hN,step⟩
 ·refine Κ0 hp (thn (T.done X rfl rfl rfl hc i Xy s3 σ3 H3 X.xe I3 (Zp fr3) st3 stop) λr s4 ⟨hr,I4⟩=>?_);subst hr;exact wpAny_execs_nil ⟨σ3,H3,I4,qn⟩
 ·refine Κ0 hp (thn (T.item X rfl rfl rfl hc i Xy s3 σ3 H3 X.xe I3 (Zp fr3) st3 go) λr s4 ⟨u,hr,h4⟩=>?_);subst hr;refine Κ0 hp (thn h4 λ_ s5 ⟨x,H5,I5,r5,y5,st5,fr5⟩=>?_);have I5':=I5.pinned (Zp fr5) (T.obj _ _ st5);refine Κ0 hp (thn (hg _ s5 σ3 H5 x u _ I5' r5 (step x H5 y5)) λ_ s6 ⟨σ6,H6,I6,q6⟩=>?_);refine Κ0 hp (thn (hb _ s6 σ6 H6 _ I6 q6) λf s7 q7=>?_);have again:∀{σ7:St} {H7:Hp},XC X (Xy++y9 fp s5.heap) σ7 H7 s7->N σ7 H7->∃m,m < n/\∃i σ' H',XC X Xy σ' H' s7/\tn i s7.heap/\(∀b∈fp,H' b=none)/\W i m σ' H':=λ{σ7 H7} I7 n7=>by
   obtain⟨m',hm,w7⟩:=hN σ7 H7 n7;refine⟨m',hm,i+1,σ7,H7,I7.Aa,T.keep _ _ _ st5 λb hb o e=>(I7.pin (b,o) 2e0).1,λb hb=>?_,w7⟩;obtain⟨o,e,d⟩:=T.obj _ _ st5 b hb;exact(I7.pin (b,o) 2e0).2.1
  cases f with
  | next=>obtain⟨σ7,H7,I7,n7⟩:=q7;exact again I7 n7
  | cont=>obtain⟨σ7,H7,I7,n7⟩:=q7;exact again I7 n7
  | brk=>obtain⟨σ7,H7,I7,q7⟩:=q7;exact⟨σ7,H7,I7.Aa,q7⟩
  | ret v=>obtain⟨x7,σ7,H7,I7,r7,q7⟩:=q7;exact⟨x7,σ7,H7,I7.Aa,r7,q7⟩
end
end
mutual
example:=[i+1,model X.prog X.w,Addr×Obj,EP X Xy σ Q]
theorem iS(Pv:Nat->St->Hp->Prop)(h0:Pv 0 σ H)(hl:∀i σ H,i<=xs.length->Pv i σ H->c5 K H a xs)(hs:∀i x σ H,xs[i]?=some x->Pv i σ H->g x σ H λσ2 H2=>tb {D with nx:=Pv 0e0,ct:=Pv 0e0,bk:=D.nx} σ2 H2)(hd:∀σ H,Pv xs.length σ H->D.nx σ H) : ∃W:Nat->Nat->St->Hp->Prop,(∃m,W 0 m σ H)/\∀i m σ H,W i m σ H -> ((Z9 K a).stop i H/\D.nx σ H)\/((Z9 K a).go i H/\∃N:St->Hp->Prop,(∀σ' H',N σ' H'->∃m',m' < m/\W 0e0 m' σ' H')/\∀x H',(Z9 K a).yld i H x H'->g x σ H' λσ2 H2=>tb {D with nx:=N,ct:=N,bk:=D.nx} σ2 H2):=by
 refine⟨λi m σ H=>m=xs.length - i/\i<=xs.length/\Pv i σ H,⟨xs.length,by simp,ϖ _,h0⟩,?_⟩;rintro i m σ H ⟨rfl,hi,p⟩;have q:=hl i σ H hi p;by_cases XW:i < xs.length
 ·refine .inr ⟨⟨xs,xs[i],q,by simp[XW]⟩,Pv 0e0,λσ' H' p'=>⟨xs.length - 0e0,by omega,rfl,XW,p'⟩,λx H' y=>?_⟩;obtain⟨e,y⟩:=y;subst e;exact hs i x σ _ (y xs q) p
 ·have e:i=xs.length:=by omega
  subst e;exact .inl ⟨⟨xs,q,Ζ _⟩,hd σ H p⟩
theorem OU(Pv:Nat->St->Hp->Prop)(h0:Pv 0 σ H)(hl:∀i σ H,i<=xs.length->Pv i σ H->cJ K H a xs)(hs:∀i x σ H,xs[i]?=some x->Pv i σ H->g x σ H λσ2 H2=>tb {D with nx:=Pv 0e0,ct:=Pv 0e0,bk:=D.nx} σ2 H2)(hd:∀σ H,Pv xs.length σ H->D.nx σ H) : ∃W:Nat->Nat->St->Hp->Prop,(∃m,W 0 m σ H)/\∀i m σ H,W i m σ H -> ((Itt K a).stop i H/\D.nx σ H)\/((Itt K a).go i H/\∃N:St->Hp->Prop,(∀σ' H',N σ' H'->∃m',m' < m/\W 0e0 m' σ' H')/\∀x H',(Itt K a).yld i H x H'->g x σ H' λσ2 H2=>tb {D with nx:=N,ct:=N,bk:=D.nx} σ2 H2):=by
 refine⟨λi m σ H=>m=xs.length - i/\i<=xs.length/\Pv i σ H,⟨xs.length,by simp,ϖ _,h0⟩,?_⟩;rintro i m σ H ⟨rfl,hi,p⟩;have q:=hl i σ H hi p;by_cases XW:i < xs.length
 ·refine .inr ⟨⟨xs,xs[i],q,by simp[XW]⟩,Pv 0e0,λσ' H' p'=>⟨xs.length - 0e0,by omega,rfl,XW,p'⟩,λx H' y=>?_⟩;obtain⟨e,y⟩:=y;subst e;exact hs i x σ _ (y xs q) p
 ·have e:i=xs.length:=by omega
  subst e;exact .inl ⟨⟨xs,q,Ζ _⟩,hd σ H p⟩
theorem tS{lo:Int}(Pv:Nat->St->Hp->Prop)(h0:Pv 0 σ H)(hs:∀i σ H,i < n->Pv i σ H->g (.int (lo+i)) σ H λσ2 H2=>tb {D with nx:=Pv 0e0,ct:=Pv 0e0,bk:=D.nx} σ2 H2)(hd:∀σ H,Pv n σ H->D.nx σ H) : ∃W:Nat->Nat->St->Hp->Prop,(∃m,W 0 m σ H)/\∀i m σ H,W i m σ H -> ((ZV lo n).stop i H/\D.nx σ H)\/((ZV lo n).go i H/\∃N:St->Hp->Prop,(∀σ' H',N σ' H'->∃m',m' < m/\W 0e0 m' σ' H')/\∀x H',(ZV lo n).yld i H x H'->g x σ H' λσ2 H2=>tb {D with nx:=N,ct:=N,bk:=D.nx} σ2 H2):=by
 refine⟨λi m σ H=>m=n - i/\i<=n/\Pv i σ H,⟨n,by simp,ϖ _,h0⟩,?_⟩;rintro i m σ H ⟨rfl,hi,p⟩;by_cases XW:i < n
 ·refine .inr ⟨XW,Pv 0e0,λσ' H' p'=>⟨n - 0e0,by omega,rfl,XW,p'⟩,λx H' y=>?_⟩;obtain⟨e,y⟩:=y;subst e y;exact hs i σ _ XW p
 ·have e:i=n:=by omega
  subst e;exact .inl ⟨Ζ _,hd σ H p⟩
abbrev R2:=V->V->Hp->VK->Prop
variable{r:R2}
def i9(X:Cx)(f:Value->Value->Sem Value)(r:R2):Prop :=
 ∀(Xy:List 2e0) (s:Shared) (σ:St) (H:Hp) (x y:V) (v u:Value) (Q:VK),XC X Xy σ H s->bC x v->bC y u->r x y H Q ->
  wpAny 1e0 X.A (f v u) 3e0 X.xe s
def Wm(X:Cx)(f:Value->Sem Value)(r:V->Hp->VK->Prop):Prop :=
 ∀(Xy:List 2e0) (s:Shared) (σ:St) (H:Hp) (x:V) (v:Value) (Q:VK),XC X Xy σ H s->bC x v->r x H Q ->
  wpAny 1e0 X.A (f v) 3e0 X.xe s
def eI(X:Cx)(f:Value)(r:List V->Hp->VK->Prop):Prop :=
 ∀(Xy:List 2e0) (s:Shared) (σ:St) (H:Hp) (xs:List V) (us:List Value) (Q:VK),XC X Xy σ H s->XD xs us->r xs H Q ->
  wpAny 1e0 X.A (call f us) 3e0 X.xe s
def Wl(X:Cx)(r:V->Hp->(Bool->Hp->Prop)->Prop):Prop :=
 ∀(Xy:List 2e0) (s:Shared) (σ:St) (H:Hp) (x:V) (v:Value) (Q:Bool->Hp->Prop),XC X Xy σ H s->bC x v->r x H Q ->
  wpAny 1e0 X.A (truthy v) (TP X Xy σ Q) X.xe s
def PU(r:R2)(ta tb:TE):TE:=λσ H Q=>ta σ H λx H1=>tb σ H1 λy H2=>r x y H2 Q
def Xp(r:V->Hp->VK->Prop)(ta:TE):TE:=λσ H Q=>ta σ H λx H1=>r x H1 Q
def rI(C:Int->Int->Prop)(g:Int->Int->V):R2:=λx y H Q=>∃i j,x=.int i/\y=.int j/\C i j/\Q (g i j) H
def PJ(g:Int->Int->V):R2:=λx y H Q=>∃i j,x=.int i/\y=.int j/\Q (g i j) H
def rU(g:Int->V):V->Hp->VK->Prop:=λx H Q=>∃i,x=.int i/\Q (g i) H
end
section
mutual
example:=[g i j,model X.prog X.w,f (.int i t) (.int j u),intBits_le_64 h1 h2,ha Xy s σ H _ I h]
variable{a b:Expr}{ta tb tc:TE}
def Rb(ha:PE X a ta)(hb:PE X b tb){R:V->V->Hp->Prop}(I:XC X Xy σ H s)(h:ta σ H λx H1=>tb σ H1 λy H2=>R x y H2){Q:q0A}(hf:∀v u s2 x y H2,XC X Xy σ H2 s2->bC x v->bC y u->R x y H2->wpAny 1e0 X.A (f v u) Q X.xe s2) : wpAny 1e0 X.A (eval a X.env) (λv s₁=>wpAny 1e0 X.A (eval b X.env) (λu s₂=>wpAny 1e0 X.A (f v u) Q X.xe s₂) X.xe s₁) X.xe s:=by
 refine thn 4e0 λv s1 ⟨x,H1,I1,r1,q1⟩=>?_;refine thn (hb Xy s1 σ H1 _ I1 q1) λu s2 ⟨y,H2,I2,r2,q2⟩=>?_;exact hf v u s2 x y H2 I2 r1 r2 q2
def bF{op:Operator}(ho:i9 X (binaryOp op) r)(ha:PE X a ta)(hb:PE X b tb):PE X (.BinOp a op b pos) (PU r ta tb):=by
 intro Xy s σ H Q I h;exact wpAny_BinOp (Rb ha hb I h λv u s2 x y H2 I2 rx ry q=>ho Xy s2 σ H2 x y v u Q I2 rx ry q)
def qC{op:UnaryOp}{r:V->Hp->VK->Prop}(ho:Wm X (unaryOp op) r)(ha:PE X a ta):PE X (.UnaryOp op a pos) (Xp r ta):=by
 intro Xy s σ H Q I h;exact UnaryOp_ (thn 4e0 λv s1 ⟨x,H1,I1,r1,q1⟩=>ho Xy s1 σ H1 x v Q I1 r1 q1)
def Wd{C:Int->Int->Prop}{g:Int->Int->Int}(rule:∀(i j:Int) (t u:Tok) (s:Shared) (Q:q0A) (E:q0A),C i j->Q (.int 0e0 s.toks) {s with toks:=s.toks+1}->wpAny 1e0 X.A 2e0 Q E s) : i9 X f (rI C λi j=>.int 0e0):=by
 intro Xy s σ H x y v u Q I rx ry h;obtain⟨i,j,rfl,rfl,hc,q⟩:=h;obtain⟨t,rfl⟩:=rx;obtain⟨t',rfl⟩:=ry;exact rule i j t t' s _ _ hc ⟨.int 0e0,H,I.tok _,⟨_,rfl⟩,q⟩
def Vy{g:Int->Int->Int}(rule:∀(i j:Int) (t u:Tok) (s:Shared) (Q:q0A) (E:q0A),Q (.int 0e0 s.toks) {s with toks:=s.toks+1}->wpAny 1e0 X.A 2e0 Q E s) : i9 X f (PJ λi j=>.int 0e0):=by
 intro Xy s σ H x y v u Q I rx ry h;obtain⟨i,j,rfl,rfl,q⟩:=h;obtain⟨t,rfl⟩:=rx;obtain⟨t',rfl⟩:=ry;exact rule i j t t' s _ _ ⟨.int 0e0,H,I.tok _,⟨_,rfl⟩,q⟩
def Tb{g:Int->Int->Bool}(rule:∀(i j:Int) (t u:Tok) (s:Shared) (Q:q0A) (E:q0A),Q (.bool 0e0) s->wpAny 1e0 X.A 2e0 Q E s) : i9 X f (PJ λi j=>.bl 0e0):=by
 intro Xy s σ H x y v u Q I rx ry h;obtain⟨i,j,rfl,rfl,q⟩:=h;obtain⟨t,rfl⟩:=rx;obtain⟨t',rfl⟩:=ry;exact rule i j t t' s _ _ ⟨.bl 0e0,H,I,rfl,q⟩
def CPow(i j:Int):Prop:=0<=j/\j<=1000000/\i.natAbs < 2 ^ 64
def CMul(i j:Int):Prop:=(-(2 ^ 64) < i/\i < 2 ^ 64)\/(-(2 ^ 64) < j/\j < 2 ^ 64)
def CMul.ok{i j:Int}(h:CMul i j):IntMulOk i j:=by
 rcases h with⟨h1,h2⟩|⟨h1,h2⟩
 ·exact .of_left 3e0
 ·exact .of_right 3e0
def Tc:i9 X (binaryOp .Add) (PJ λi j=>.int (i+j)):=Vy λ_ _ _ _ _ _ _ q=>add_int q
def lA:i9 X (binaryOp .Sub) (PJ λi j=>.int (i - j)):=Vy λ_ _ _ _ _ _ _ q=>sub_int q
def Fe:i9 X (binaryOp .Mult) (rI CMul λi j=>.int (i * j)):=Wd λ_ _ _ _ _ _ _ hc q=>mul_int q hc.ok
theorem mO:i9 X (binaryOp .Mod) (rI (λ_ j=>0 < j) λi j=>.int (i % j)):=Wd λi j _ _ _ _ _ hc q=>by
 have h1:(0:Int) < j:=hc;exact mod_int' (by omega) (by rw[Int.fmod_eq_emod_of_nonneg i (by omega)];exact q)
def Th:i9 X (binaryOp .Pow) (rI CPow λi j=>.int (i ^ j.toNat)):=Wd λ_ _ _ _ _ _ _ hc q=>pow_int_small hc.1 hc.2.1 hc.2.2 q
def Xw{f:Value->Sem Value}{g:Int->Int}(rule:∀(i:Int) (t:Tok) (s:Shared) (Q:q0A) (E:q0A),Q (.int (g i) s.toks) {s with toks:=s.toks+1}->wpAny 1e0 X.A (f (.int i t)) Q E s) : Wm X f (rU λi=>.int (g i)):=by
 intro Xy s σ H x v Q I rx h;obtain⟨i,rfl,q⟩:=h;obtain⟨t,rfl⟩:=rx;exact rule i t s _ _ ⟨.int (g i),H,I.tok _,⟨_,rfl⟩,q⟩
def lB:Wm X (unaryOp .USub) (rU λi=>.int (-i)):=Xw λ_ _ _ _ _ q=>neg_int q
end
end
mutual
example:=[]
def YI:V->V->Bool
 | .XB,.XB=>true | .XB,.int _=>true | .int _,.XB=>true | .XB,.bl _=>true | .bl _,.XB=>true | .XB,.str _=>true | .str _,.XB=>true
 | .int _,.int _=>true | .bl _,.bl _=>true | .str _,.str _=>true | .byt _,.byt _=>true
 | .int _,.str _=>true | .str _,.int _=>true | .bl _,.str _=>true | .str _,.bl _=>true
 | _,_=>false
def PF:R2:=λx y H Q=>YI x y=true/\Q (.bl (decide (x=y))) H
def VH:R2:=λx y H Q=>YI x y=true/\Q (.bl (!decide (x=y))) H
theorem Gq{i j:Int}:decide (V.int i=V.int j)=(i==j):=by
 rw[Γ5];simp
theorem KL{i j:Bool}:decide (V.bl i=V.bl j)=(i==j):=by
 rw[Γ5];simp
theorem Gr{i j:Str}:decide (V.str i=V.str j)=(i==j):=by
 rw[Γ5];simp
theorem Gp{i j:Array UInt8}:decide (V.byt i=V.byt j)=(i.toList==j.toList):=by
 rw[Γ5];cases i;cases j;simp
end
section
mutual
example:=[(bI I q (by simp)),(by omega),(by simp only[Η];omega),compareOp op,ho Xy s2 σ H2 x y v u _ I2 r1 r2 q2,.Compare a [op] [b] pos,hb Xy s1 σ H1 _ I1 q1,ha Xy s σ H _ I h,(y.length:Int) !=0,(y.size:Int) !=0,PU r ta tb,I.ok.hd hc,bI I q ?_]
variable{a b:Expr}{ta tb tc:TE}
def bI{Q:VK}{k k':Bool}(I:XC X Xy σ H s)(q:Q (.bl k) H)(e:k=k'):EP X Xy σ Q (.bool k') s:=by
 subst e;exact⟨.bl k,H,I,rfl,q⟩
def cO:i9 X (compareOp .Eq) PF:=by
 intro Xy s σ H x y v u Q I rx ry h;obtain⟨hs,q⟩:=h;cases x with
 | XB =>
  cases rx;cases y with
  | XB=>cases ry;exact PySem.EqNone.eq_none_none 0e0
  | bl j=>cases ry;exact PySem.EqNone.eq_none_bool 0e0
  | int j=>obtain⟨t',rfl⟩:=ry;exact PySem.EqNone.eq_none_int 0e0
  | str j=>obtain⟨t',rfl⟩:=ry;exact PySem.EqNone.eq_none_str 0e0
  | _=>exact absurd (show false=true from hs) ϓ
 | bl i =>
  cases rx;cases y with
  | XB=>cases ry;exact PySem.EqNone.eq_bool_none 0e0
  | bl j=>cases ry;exact eq_bool (bI I q KL)
  | str j=>obtain⟨t',rfl⟩:=ry;exact PySem.EqMixed.eq_bool_str 0e0
  | _=>exact absurd (show false=true from hs) ϓ
 | int i =>
  obtain⟨t,rfl⟩:=rx;cases y with
  | XB=>cases ry;exact PySem.EqNone.eq_int_none 0e0
  | int j=>obtain⟨t',rfl⟩:=ry;exact eq_int (bI I q Gq)
  | str j=>obtain⟨t',rfl⟩:=ry;exact PySem.EqMixed.eq_int_str 0e0
  | _=>exact absurd (show false=true from hs) ϓ
 | str i =>
  obtain⟨t,rfl⟩:=rx;cases y with
  | XB=>cases ry;exact PySem.EqNone.eq_str_none 0e0
  | bl j=>cases ry;exact PySem.EqMixed.eq_str_bool 0e0
  | int j=>obtain⟨t',rfl⟩:=ry;exact PySem.EqMixed.eq_str_int 0e0
  | str j=>obtain⟨t',rfl⟩:=ry;exact eq_str (bI I q Gr)
  | _=>exact absurd (show false=true from hs) ϓ
 | byt i =>
  obtain⟨t,rfl⟩:=rx;cases y with
  | byt j=>obtain⟨t',rfl⟩:=ry;exact PySem.W.eq_bytes (bI I q Gp)
  | _=>exact absurd (show false=true from hs) ϓ
 | _=>cases y<;>exact absurd (show false=true from hs) ϓ
def Mo:i9 X (compareOp .NotEq) VH:=by
 intro Xy s σ H x y v u Q I rx ry h;obtain⟨hs,q⟩:=h;cases x with
 | XB =>
  cases rx;cases y with
  | XB=>cases ry;exact PySem.EqNone.ne_none_none 0e0
  | bl j=>cases ry;exact PySem.EqNone.ne_none_bool 0e0
  | int j=>obtain⟨t',rfl⟩:=ry;exact PySem.EqNone.ne_none_int 0e0
  | str j=>obtain⟨t',rfl⟩:=ry;exact PySem.EqNone.ne_none_str 0e0
  | _=>exact absurd (show false=true from hs) ϓ
 | bl i =>
  cases rx;cases y with
  | XB=>cases ry;exact PySem.EqNone.ne_bool_none 0e0
  | bl j=>cases ry;exact ne_bool (bI I q (Η5 not KL))
  | str j=>obtain⟨t',rfl⟩:=ry;exact PySem.EqMixed.ne_bool_str 0e0
  | _=>exact absurd (show false=true from hs) ϓ
 | int i =>
  obtain⟨t,rfl⟩:=rx;cases y with
  | XB=>cases ry;exact PySem.EqNone.ne_int_none 0e0
  | int j=>obtain⟨t',rfl⟩:=ry;exact ne_int (bI I q (Η5 not Gq))
  | str j=>obtain⟨t',rfl⟩:=ry;exact PySem.EqMixed.ne_int_str 0e0
  | _=>exact absurd (show false=true from hs) ϓ
 | str i =>
  obtain⟨t,rfl⟩:=rx;cases y with
  | XB=>cases ry;exact PySem.EqNone.ne_str_none 0e0
  | bl j=>cases ry;exact PySem.EqMixed.ne_str_bool 0e0
  | int j=>obtain⟨t',rfl⟩:=ry;exact PySem.EqMixed.ne_str_int 0e0
  | str j=>obtain⟨t',rfl⟩:=ry;exact ne_str (bI I q (Η5 not Gr))
  | _=>exact absurd (show false=true from hs) ϓ
 | byt i =>
  obtain⟨t,rfl⟩:=rx;cases y with
  | byt j=>obtain⟨t',rfl⟩:=ry;exact PySem.W.ne_bytes (bI I q (Η5 not Gp))
  | _=>exact absurd (show false=true from hs) ϓ
 | _=>cases y<;>exact absurd (show false=true from hs) ϓ
theorem lW:i9 X (compareOp .Lt) (PJ λi j=>.bl (decide (i < j))):=Tb λ_ _ _ _ _ _ _ q=>lt_int q
theorem Vz:i9 X (compareOp .LtE) (PJ λi j=>.bl (decide (i<=j))):=Tb λ_ _ _ _ _ _ _ q=>le_int q
theorem DJ:i9 X (compareOp .Gt) (PJ λi j=>.bl (decide (j < i))):=Tb λ_ _ _ _ _ _ _ q=>gt_int q
theorem Tf:i9 X (compareOp .Is) (λx y H Q=>y=.XB/\Q (.bl (decide (x=.XB))) H):=by
 intro Xy s σ H x y v u Q I rx ry h;obtain⟨rfl,q⟩:=h;cases ry;refine is_none_gen 2e1;cases x<;>first
  | (cases rx;rfl)
  | (obtain⟨t,rfl⟩:=rx;rfl)
theorem Pd:i9 X (compareOp .IsNot) (λx y H Q=>y=.XB/\Q (.bl (!decide (x=.XB))) H):=by
 intro Xy s σ H x y v u Q I rx ry h;obtain⟨rfl,q⟩:=h;cases ry;refine isnot_none_gen 2e1;cases x<;>first
  | (cases rx;rfl)
  | (obtain⟨t,rfl⟩:=rx;rfl)
def i9.or{r':R2}(h:i9 X f r)(h':i9 X f r'):i9 X f (λx y H Q=>r x y H Q\/r' x y H Q):=by
 intro Xy s σ H x y v u Q I rx ry q;rcases q with q|q
 ·exact h Xy s σ H x y v u Q I rx ry q
 ·exact h' Xy s σ H x y v u Q I rx ry q
theorem nomark(b:Expr)(h:op≠.In:=by decide)(h2:op≠.NotIn:=by decide):behindInMarks op b=false:=by
 have e1:(op==CmpOp.In)=false:=by cases op<;>first|rfl|exact absurd rfl h
 have e2:(op==CmpOp.NotIn)=false:=by cases op<;>first|rfl|exact absurd rfl h2
 cases b<;>simp[behindInMarks,e1,e2]
def Hg(ho:i9 X 3e0 r)(ha:PE X a ta)(hb:PE X b tb)(hm:behindInMarks op b=false):PE X 5e0 0e1:=by
 intro Xy s σ H Q I h;exact wpAny_Compare1 (Rb ha hb I h λv u s2 x y H2 I2 rx ry q=>ho Xy s2 σ H2 x y v u Q I2 rx ry q) hm
def Ed(t:TE):TT:=λσ H Q=>t σ H λx H'=>∃k,x=.bl k/\Q k H'
def gU(ho:i9 X 3e0 r)(ha:PE X a ta)(hb:PE X b tb)(hm:behindInMarks op b=false):PT X 5e0 (Ed 0e1):=by
 intro Xy s σ H Q I h;refine wpAny_isTrue_Compare1 (thn 7e0 λv s1 ⟨x,H1,I1,r1,q1⟩=>thn 6e0 λu s2 ⟨y,H2,I2,r2,q2⟩ =>
  thn 4e0 λc s3 ⟨z,H3,I3,r3,k,e,q3⟩=>?_) hm
 subst e;cases r3;exact Η6 ⟨H3,I3,q3⟩
def Fy(r r':R2)(ta tb tc:TE):TE:=λσ H Q=>ta σ H λx H1=>tb σ H1 λy H2=>r x y H2 λz H3=>∃k,z=.bl k /\
 (if k=true then tc σ H3 λw' H4=>r' y w' H4 Q else Q (.bl false) H3)
def Mr{op':CmpOp}{r':R2}(ho:i9 X 3e0 r)(ho':i9 X (compareOp op') r')(ha:PE X a ta)(hb:PE X b tb)(hc:PE X c tc)(hm:lastMarks [op,op'] [b,c]=false:=by with_unfolding_all rfl):PE X (.Compare a [op,op'] [b,c] pos) (Fy r r' ta tb tc):=by
 intro Xy s σ H Q I h;refine Compare_chain (thn 7e0 λv s1 ⟨x,H1,I1,r1,q1⟩=>chain_link (thn 6e0 λu s2 ⟨y,H2,I2,r2,q2⟩ =>
  thn 4e0 λd s3 ⟨z,H3,I3,r3,k,e,q3⟩=>?_)) hm
 subst e;cases r3;refine Η6 ?_;cases k with
 | false=>exact ite_ff ⟨.bl false,H3,I3,rfl,q3⟩
 | true=>exact ite_tt (chain_last (thn (hc Xy s3 σ H3 _ I3 q3) λw' s4 ⟨z',H4,I4,r4,q4⟩=>ho' Xy s4 σ H4 y z' u w' Q I4 r2 r4 q4))
def TZ(K:q0B)(x:V)(H:Hp)(k:Bool):Prop :=
 match x with
 | .XB=>k=false
 | .bl b=>k=b
 | .int i=>k=(i !=0)
 | .str y=>y.length<=sizeLine/\k=8e0
 | .byt y=>y.size<=sizeLine/\k=9e0
 | .ref p=>(∃xs,c5 K H p xs/\k = !xs.isEmpty)\/(∃xs,cJ K H p xs/\k = !xs.isEmpty)\/∃kvs,H p=some (.dK kvs)/\k = !kvs.isEmpty
 | _=>False
def EO{κ:Type}{kvs:List (κ×V)}{vs:List (κ×Value)}(r:KV kvs vs):(!vs.isEmpty) = !kvs.isEmpty:=by
 cases r<;>rfl
def yI{XA:List Value}(r:XD xs XA):(!XA.toArray.isEmpty) = !xs.isEmpty:=by
 cases r<;>simp
theorem line63:(sizeLine:Nat) < 2 ^ 63:=by rw[Ζ3];decide
theorem TL:Wl X (λx H Q=>∃k,TZ X.K x H k/\Q k H):=by
 intro Xy s σ H x v Q I rx h;obtain⟨k,e,q⟩:=h;have hl:=line63;have hs:sizeLine=16777216:=Ζ3;cases x with
 | XB =>
  cases rx;have e':k=false:=e;subst e';exact truthy_none ⟨H,I,q⟩
 | bl b =>
  cases rx;have e':k=b:=e;subst e';exact Η6 ⟨H,I,q⟩
 | int i =>
  obtain⟨t,rfl⟩:=rx;have e':k=(i !=0):=e;subst e';exact PySem.P.truthy_int ⟨H,I,q⟩
 | str y =>
  obtain⟨t,rfl⟩:=rx;obtain⟨hy,e'⟩:y.length<=sizeLine/\k=8e0:=e;subst e';exact PySem.P.truthy_str 1e0 ⟨H,I.tok _,q⟩
 | byt y =>
  obtain⟨t,rfl⟩:=rx;obtain⟨hy,e'⟩:y.size<=sizeLine/\k=9e0:=e;subst e';exact PySem.W.truthy_bytes 1e0 ⟨H,I.tok _,q⟩
 | ref p =>
  cases rx;have e':(∃xs,c5 X.K H p xs/\k = !xs.isEmpty)\/(∃xs,cJ X.K H p xs/\k = !xs.isEmpty)\/∃kvs,H p=some (.dK kvs)/\k = !kvs.isEmpty:=e;rcases e' with⟨xs,hx,e'⟩|⟨xs,hx,e'⟩|⟨kvs,hx,e'⟩
  ·subst e';obtain⟨XA,r,pl,hz⟩:=I.list hx;have hlen:=r.length;exact wpAny_truthy_list pl.isList 2e0 ⟨H,I.tok _,by rw[yI r];exact q⟩
  ·subst e';obtain⟨XA,r,pl,hz⟩:=I.tuple hx;have hlen:=r.length;exact truthy_tuple pl 2e0 ⟨H,I.tok _,by rw[yI r];exact q⟩
  ·subst e';obtain⟨hz,hS,vs,r,m⟩:kvs.length<=sizeLine/\(p==sysModules)=false/\∃vs,KV kvs vs/\s.heap.DictOf (aR X.prog X.w) p vs:=I.XF p _ hx;have hlen:kvs.length=vs.length:=Paired.length r;exact wpAny_truthy_dict hS m 1e0 ⟨H,I.tok _,by rw[EO r];exact q⟩
 | _=>exact(show False from e).elim
def Fd:i9 X (binaryOp .Add) (λx y H Q=>∃i j,x=.str i/\y=.str j/\i.length+j.length<=sizeLine/\Q (.str (i++j)) H):=by
 intro Xy s σ H x y v u Q I rx ry h;obtain⟨i,j,rfl,rfl,hz,q⟩:=h;obtain⟨t,rfl⟩:=rx;obtain⟨t',rfl⟩:=ry;exact add_str (λt' tk=>⟨.str (i++j),H,I.tok _,⟨_,rfl⟩,q⟩) hz
def vals1{x:V}(r:XD [x] us):∃u,us=[u]/\bC x u:=by
 cases r with
 | cons r1 r2=>cases r2;exact⟨_,rfl,r1⟩
def vals2{x y:V}(r:XD [x,y] us):∃u w',us=[u,w']/\bC x u/\bC y w':=by
 cases r with
 | cons r1 r2 =>
  cases r2 with
  | cons r3 r4=>cases r4;exact⟨_,_,rfl,r1,r3⟩
def Ip(hc:X.calm=true):eI X (.builtin "max") (λxs H Q=>∃i j,xs=[.int i,.int j]/\Q (.int (if j > i then j else i)) H):=by
 intro Xy s σ H xs us Q I r h;obtain⟨i,j,rfl,q⟩:=h;obtain⟨u,w',rfl,⟨t,rfl⟩,⟨t',rfl⟩⟩:=vals2 r;refine max_two_ints 1e1 λh' tk k=>⟨_,H,I.kept k,?_,q⟩;by_cases hj:j > i
 ·rw[if_pos hj,if_pos hj];exact⟨_,rfl⟩
 ·rw[if_neg hj,if_neg hj];exact⟨_,rfl⟩
def Iq(hc:X.calm=true):eI X (.builtin "min") (λxs H Q=>∃i j,xs=[.int i,.int j]/\Q (.int (if j < i then j else i)) H):=by
 intro Xy s σ H xs us Q I r h;obtain⟨i,j,rfl,q⟩:=h;obtain⟨u,w',rfl,⟨t,rfl⟩,⟨t',rfl⟩⟩:=vals2 r;refine min_two_ints 1e1 λh' tk k=>⟨_,H,I.kept k,?_,q⟩;by_cases hj:j < i
 ·rw[if_pos hj,if_pos hj];exact⟨_,rfl⟩
 ·rw[if_neg hj,if_neg hj];exact⟨_,rfl⟩
def Wh(K:q0B)(x:V)(H:Hp)(n:Nat):Prop :=
 match x with
 | .str y=>y.length<=sizeLine/\n=y.length
 | .byt y=>y.size<=sizeLine/\n=y.size
 | .ref p=>(∃xs,c5 K H p xs/\n=xs.length)\/∃xs,cJ K H p xs/\n=xs.length
 | _=>False
theorem xE:eI X (.builtin "len") (λxs H Q=>∃x n,xs=[x]/\Wh X.K x H n/\Q (.int n) H):=by
 intro Xy s σ H xs us Q I r h;obtain⟨x,n,rfl,e,q⟩:=h;obtain⟨u,rfl,rx⟩:=vals1 r;have hl:=line63;have hs:sizeLine=16777216:=Ζ3;cases x with
 | str y =>
  obtain⟨t,rfl⟩:=rx;obtain⟨hy,e'⟩:y.length<=sizeLine/\n=y.length:=e;subst e';exact len_str 1e0 ⟨.int _,H,I.tok _,⟨_,rfl⟩,q⟩
 | byt y =>
  obtain⟨t,rfl⟩:=rx;obtain⟨hy,e'⟩:y.size<=sizeLine/\n=y.size:=e;subst e';exact PySem.W.len_bytes 1e0 ⟨.int _,H,I.tok _,⟨_,rfl⟩,q⟩
 | ref p =>
  cases rx;have e':(∃xs,c5 X.K H p xs/\n=xs.length)\/∃xs,cJ X.K H p xs/\n=xs.length:=e;rcases e' with⟨xs,hx,e'⟩|⟨xs,hx,e'⟩
  ·subst e';obtain⟨XA,r',pl,hz⟩:=I.list hx;have hlen:=r'.length;exact Calls.call_len_list pl.isList 2e0 ⟨.int xs.length,H,I.tok _,⟨_,by simp only[Η];rw[hlen]⟩,q⟩
  ·subst e';obtain⟨XA,r',pl,hz⟩:=I.tuple hx;have hlen:=r'.length;exact len_tuple pl 2e0 ⟨.int xs.length,H,I.tok _,⟨_,by simp only[Η];rw[hlen]⟩,q⟩
 | _=>exact(show False from e).elim
end
end
structure El(h:Heap)(x dx C:Addr)(mA:q0C):Prop where
 obj:h.get? x=some (PySem.W.instObj C dx)
 ns:h.Ns1 dx mA
 ne:dx≠x
def IY{dx:Addr}{mA:q0C}(n:h.Ns1 dx mA):∃od,h.get? dx=some od/\∀name,PySem.W.lookIn name od=some (mA name):=by
 obtain⟨o,es,ep,ho,hd,hk,_,hm⟩:=n;refine⟨o,ho,λname=>?_⟩;have e:=hm name;unfold nsFind findBy at e;rw[<- Array.find?_toList] at e;unfold PySem.W.lookIn;rw[hd];dsimp only;split
 ·rename_i y q
  rw[q] at e;exact Η5 some e
 ·rename_i q
  rw[q] at e;have a:es.toList.any (·.refKey)=false:=by
   rw[List.any_eq_false];intro y hy;obtain⟨z,t,YF⟩:=hk y (Array.mem_toList_iff.mp hy);simp[DictEntry.refKey,YF]
  have a':¬ es.toList.any (·.refKey)=true:=by rw[a];exact ϓ
  rw[if_neg a'];exact Η5 some e
def El.look{x dx:Addr}{mA:q0C}(I:El h x dx C mA):∃od,PySem.W.InstAt h x (PySem.W.instObj C dx) C (some od)/\∀name,PySem.W.lookIn name od=some (mA name) :=
 let ⟨od,ho,hl⟩:=IY I.ns
 ⟨od,⟨I.obj,rfl,rfl,ho⟩,hl⟩
section
mutual
example:=[model prog w,.ref f,.ref C,.ref x,s.heap.objs.size+1]
variable{prog:Program}{x dx f:Addr}{mA:q0C}{name:Str}{v:Value}
def OX{expr:Bool}{Q:q0A}(X:K.In s.heap)(I:El s.heap x dx C mA)(hg:PySem.W.plainGet K C name=true)(hh:PySem.W.hasDictIn K C=true)(ha:PySem.W.findIn K 2e0 name=some none)(hv:mA name=some v)(hv':PySem.W.handedIn v=true)(h:Q v {s with toks:=s.toks+1}) : wpAny 0e0 A (getAttr 3e0 name expr) Q E s:=by
 obtain⟨od,J,hl⟩:=I.look;exact PySem.W.get_value X J (PySem.W.plainGet_of hg).1 (PySem.W.findObj_own hh ha rfl (by rw[hl,hv])) hv' h
def Lz{Q:Value×List Value->Shared->Prop}(X:K.In s.heap)(I:El s.heap x dx C mA)(hg:PySem.W.plainGet K C name=true)(hf:PySem.W.findIn K 2e0 name=some (some 1e0))(ht:PySem.W.isFn K 1e0=true)(hv:mA name=none)(h:Q (.ref f,[.ref x]) s) : wpAny 0e0 A (getMethod 3e0 name pl) Q E s:=by
 obtain⟨od,J,hl⟩:=I.look;exact PySem.W.method_fn X J (PySem.W.plainGet_of hg).1 (PySem.W.plainGet_of hg).2 hf (beq_iff_eq.mp ht) (by show(PySem.W.lookIn name od).map (·.isSome)=some false;rw[hl,hv];rfl) h
theorem PN{ns:List Str}(X:K.In s.heap)(I:El s.heap x dx C mA)(hs:PySem.W.findIn K 2e0 "__setattr__"=some (some (.builtin "object.__setattr__")))(hp:PySem.W.plainOver K C=true)(ht:PySem.W.takerIn K C name=some none)(hh:PySem.W.hasDictIn K C=true)(hw:PySem.Within mA ns)(hsz:ns.length<=sizeLine)(h:∀h',El h' x dx C (λy=>if y=name then some v else mA y)->Heap.SameBut dx s.heap h'->Q () {s with heap:=h',toks:=s.toks+2}) : wpAny 0e0 A (setAttr 3e0 name v) Q E s:=by
 obtain⟨od,J,hl⟩:=I.look;refine PySem.W.set_plain X J hs (PySem.W.osa_open (s:={s with toks:=s.toks+1}) (r:=none) X J hp ht λb=>?_);obtain⟨cd,hc,hd'⟩:=PySem.W.any_some hh;have hx:s.heap.get? x=some ⟨.ref C,some dx,.plain,#[]⟩:=I.obj;refine Α (Β (Α (Α (wpAny_loadPart hx (Α (PySem.W.Looks.here (s:={s with toks:=s.toks+1}) (PySem.W.looks_clsIn X hc) ?_))))));rw[hd'];refine Β (a:=some dx) (Α (Β (Α ?_)));refine wpAny_nsSet1 (s:={s with toks:=s.toks+1}) I.ns λh' hn2 hs2=>?_;obtain⟨oD,esD,epD,hoD,hdD,hcD⟩:=hn2.count (PySem.Within.cons name v hw);refine Α (wpAny_lookBehind hoD (by rw[hdD];exact pastItsLine_dict (ϕ hcD (by rw[Κ];omega))) ?_);exact Β (h _ ⟨(hs2.2 _ (Ε6 I.ne)).trans I.obj,hn2,I.ne⟩ hs2)
def LY{R:Result->Shared->Prop}{vs:List Value}(X:K.In s.heap)(hm:PySem.W.makesIn K C=true)(hi:PySem.W.findIn K 2e0 "__init__"=some (some 1e0))(hf:PySem.W.typeIn K 1e0=some (.type "function"))(h:codeAny 0e0 (A.under (.builtin "type.__call__" ⟨.ref C::vs,kw⟩)) (.call 1e0 ⟨.ref 4e0::vs,kw⟩) (PySem.W.InitBack 4e0 R) {s with heap:=(s.heap.push PySem.W.emptyDict).push (PySem.W.instObj C s.heap.objs.size)}) : codeAny 0e0 A (.call 2e0 ⟨vs,kw⟩) R s:=by
 obtain⟨hh,g,d,t,os⟩:=s;exact PySem.W.make_core (PySem.W.makes_of X hm) (PySem.W.looks_findIn X hi) (λself=>PySem.W.bind_fn X self hf) (.inl rfl) h
end
end
mutual
example:=[Str×V,(if k=f then (k,v)::r else (k,x)::jP f v r),((k,x)::r)]
def jP(f:Str)(v:V):List 0e0->List 0e0
 | []=>[(f,v)]
 | (g,x)::r=>if g=f then (g,v)::r else (g,x)::jP f v r
theorem uZ(f g:Str)(v:V):∀fs:List 0e0,(jP f v fs).lookup g=if g=f then some v else fs.lookup g
 | []=>by
  show List.lookup g [(f,v)]=_;by_cases h:g=f
  ·have hb:(g==f)=true:=beq_iff_eq.mpr h;simp only[List.lookup,hb,if_pos h]
  ·have hb:(g==f)=false:=Β6.mpr h;simp only[List.lookup,hb,if_neg h]
 | (k,x)::r=>by
  have ih:=uZ f g v r;rw[show jP f v 2e0=1e0 from rfl];by_cases hk:k=f
  ·rw[if_pos hk];by_cases h:g=k
   ·have hb:(g==k)=true:=beq_iff_eq.mpr h;simp only[List.lookup,hb,if_pos (h.trans hk)]
   ·have hb:(g==k)=false:=Β6.mpr h;simp only[List.lookup,hb,if_neg (λe:g=f=>h (e.trans hk.symm))]
  ·rw[if_neg hk];by_cases h:g=k
   ·have hb:(g==k)=true:=beq_iff_eq.mpr h;simp only[List.lookup,hb,if_neg (λe:g=f=>hk (h.symm.trans e))]
   ·have hb:(g==k)=false:=Β6.mpr h;simp only[List.lookup,hb];exact ih
theorem tY(f:Str)(v:V):∀fs:List 0e0,f∈(jP f v fs).map (·.1)/\∀g,g∈fs.map (·.1)->g∈(jP f v fs).map (·.1)
 | []=>⟨by simp[jP],λg h=>by simp at h⟩
 | (k,x)::r=>by
  obtain⟨i1,i2⟩:=tY f v r;rw[show jP f v 2e0=1e0 from rfl];by_cases hk:k=f
  ·rw[if_pos hk];subst hk;exact⟨by simp,λg h=>by simpa using h⟩
  ·rw[if_neg hk];refine⟨?_,λg h=>?_⟩
   ·rw[ϔ];exact Ξ _ i1
   ·rw[ϔ] at h ⊢;rcases Ε.mp h with e|e
    ·exact Ε.mpr (.inl e)
    ·exact Ξ _ (i2 g e)
theorem uY(f:Str)(v:V):∀fs:List 0e0,(jP f v fs).length<=fs.length+1
 | []=>by simp[jP]
 | (k,x)::r=>by
  have ih:=uY f v r;rw[show jP f v 2e0=1e0 from rfl];by_cases hk:k=f
  ·rw[if_pos hk,Κ,Κ];omega
  ·rw[if_neg hk,Κ,Κ];omega
def mC.some_of{o:Option Value}(r:mC (some v) o):∃u,o=some u/\bC v u:=by
 cases o with
 | none=>exact(show False from r).elim
 | some u=>exact⟨u,rfl,r⟩
def mC.none_of{o:Option Value}(r:mC none o):o=none:=by
 cases o with
 | none=>rfl
 | some u=>exact(show False from r).elim
def IQ(r:bC v u):PySem.W.handedIn u=true:=by
 cases v with
 | XB=>cases (show u=Value.none from r);rfl
 | bl b=>cases (show u=Value.bool b from r);rfl
 | int i=>obtain⟨t,e⟩:=(show ∃t,u=Value.int i t from r);cases e;rfl
 | str x=>obtain⟨t,e⟩:=(show ∃t,u=Value.str x t from r);cases e;rfl
 | byt b=>obtain⟨t,e⟩:=(show ∃t,u=Value.bytes b t from r);cases e;rfl
 | flt b=>obtain⟨t,e⟩:=(show ∃t,u=Value.float b t from r);cases e;rfl
 | ref a=>cases (show u=Value.ref a from r);rfl
 | ty n=>cases (show u=Value.type n from r);rfl
end
section
variable{H':Hp}{h':Heap}{dx:Addr}{fs fs':List (Str×V)}
def Cb(XF:HOk P w H h)(e:H a=some (.ins C dx fs)):∃mA,El h a dx C mA/\(∀f,mC (fs.lookup f) (mA f))/\PySem.Within mA (fs.map (·.1))/\fs.length<=1000/\H dx=some (.own a):=by
 obtain⟨d,z,ne,ob,mA,n,r,q⟩:=(show c0 P w H h a (.ins C dx fs) from XF a _ e);exact⟨mA,⟨ob,n,ne⟩,r,q,z,d⟩
end
mutual
example:=[.ref C,.ref f]
structure Cls(K:q0B)(C:Addr):Prop where
 pg:PySem.W.plainGet K C Str.empty=true
 hd:PySem.W.hasDictIn K C=true
 po:PySem.W.plainOver K C=true
 sa:PySem.W.findIn K 0e0 "__setattr__"=some (some (.builtin "object.__setattr__"))
def Cls.get(c:Cls K C)(f:Str):PySem.W.plainGet K C f=true:=c.pg
def eD(K:q0B)(C:Addr)(f:Str):Prop:=PySem.W.findIn K 0e0 f=some none
def eD.VU{f:Str}(n:eD K C f):PySem.W.takerIn K C f=some none:=by
 unfold PySem.W.takerIn;rw[show PySem.W.findIn K 0e0 f=some none from n];rfl
structure Meth(K:q0B)(C:Addr)(m:Str)(f:Addr):Prop where
 at_:PySem.W.findIn K 0e0 m=some (some 1e0)
 fn:PySem.W.isFn K 1e0=true
 kp:PySem.W.keepIn K 1e0=true
end
section
mutual
example:=[s.heap.objs.size+1,PySem.W.instObj C s.heap.objs.size,model X.prog X.w,model prog w,.ins C dx fs,.ref a,(if g=f then some u else mA g),(λb u q=>Γ _ q),eval e env]
variable{dx:Addr}{fs:List (Str×V)}{f:Str}
def yD{b:Bool}{Q:q0A}(I:XC X Xy σ H s)(e:H a=some 4e0)(c:Cls X.K C)(n:eD X.K C f)(l:fs.lookup f=some v)(h:∀u s',XC X Xy σ H s'->bC v u->Q u s'):wpAny 2e0 A (getAttr 5e0 f b) Q E s:=by
 obtain⟨mA,O,r,_,_,_⟩:=Cb I.XF e;obtain⟨u,hu,ru⟩:=mC.some_of (v:=v) (o:=mA f) (by rw[<- l];exact r f);exact OX I.kIn O (c.get f) c.hd n hu (IQ ru) (h u _ (I.tok _) ru)
def yE{m:Str}{g:Addr}{Q:Value×List Value->Shared->Prop}(I:XC X Xy σ H s)(e:H a=some 4e0)(c:Cls X.K C)(k:Meth X.K C m g)(l:fs.lookup m=none)(h:Q (.ref g,[.ref a]) s):wpAny 2e0 A (getMethod 5e0 m pl) Q E s:=by
 obtain⟨mA,O,r,_,_,_⟩:=Cb I.XF e;have hn:mA m=none:=mC.none_of (by rw[<- l];exact r m);exact Lz I.kIn O (c.get m) k.at_ k.fn hn h
theorem zS{y:V}(I:XC X Xy σ H s)(e:H a=some 4e0)(c:Cls X.K C)(n:eD X.K C f)(hl:fs.length < 1000)(ry:bC y u)(h:∀s',XC X Xy σ (Xz H a (.ins C dx (jP f y fs))) s'->Q () s'):wpAny 2e0 A (setAttr 5e0 f u) Q E s:=by
 obtain⟨mA,O,r,wi,_,ho⟩:=Cb I.XF e;have hz:(fs.map (·.1)).length<=sizeLine:=by rw[Δ,Ζ3];omega
 refine PN I.kIn O c.sa c.po n.VU c.hd wi hz λh' O' sb=>h _ ?_;have hd:∃o,h'.get? dx=some o:=let ⟨o,_,_,e',_⟩:=O'.ns;⟨o,e'⟩;refine I.write (x:=a) (e:=dx) (by rw[e];exact True.intro) (.inr ho) (λb q hb z=>(sb.2 b hb).trans z) hd ?_;refine⟨by rw[aC O.ne];exact ho,?_,O.ne,O'.obj,_,O'.ns,λg=>?_,λg hg=>?_⟩
 ·have:=uY f y fs;omega
 ·show mC ((jP f y fs).lookup g) 6e0;rw[uZ];by_cases q:g=f
  ·rw[if_pos q,if_pos q];exact ry
  ·rw[if_neg q,if_neg q];exact r g
 ·by_cases q:g=f
  ·rw[q];exact(tY f y fs).1
  ·refine(tY f y fs).2 g (wi g λz=>hg ?_);show 6e0=none;rw[if_neg q];exact z
def XC.made(I:XC X Xy σ H s):XC X Xy σ (Xz (Xz H s.heap.objs.size (.own 0e0)) 0e0 (.ins C s.heap.objs.size [])) {s with heap:=(s.heap.push PySem.W.emptyDict).push 1e0}:=by
 have e1:(s.heap.push PySem.W.emptyDict).get? s.heap.objs.size=some PySem.W.emptyDict:=Ν s.heap rfl;have e2:((s.heap.push PySem.W.emptyDict).push 1e0).get? 0e0=some 1e0:=by
  have:=Ν (s.heap.push PySem.W.emptyDict) (o:=PySem.W.instObj C s.heap.objs.size) rfl
  rwa [Heap.size_push] at this
 have e3:(s.heap.push PySem.W.emptyDict).Ns s.heap.objs.size (λ_=>none):=⟨PySem.W.emptyDict,#[],_,e1,rfl,(λe he=>absurd he (by simp)),λ_=>rfl⟩;have I1:=I.laid (a:=s.heap.objs.size) (o:=.own 0e0) (h':=s.heap.push PySem.W.emptyDict) (t':=s.toks) 7e0 (Ζ _) ⟨_,e1⟩;refine I1.laid (a:=s.heap.objs.size+1) (o:=.ins C s.heap.objs.size []) (t':=s.toks) 7e0 (Nat.le_of_eq (Heap.size_push _ _)) ?_;have ne:s.heap.objs.size≠s.heap.objs.size+1:=Ρ (Κ3 _);refine⟨by rw[aC ne,aA],ϖ _,ne,e2,λ_=>none,(Heap.Ns1.of_empty e3).at λo q=>Γ _ q,λ_=>True.intro,λy hy=>absurd rfl hy⟩
def NN{prog:Program}{env:Env}{Q:q0A}(hb:attributeBase e f env 8e0=eval e env)(h:wpAny 3e0 A 8e0 (λo s₁=>wpAny 3e0 A (getAttr o f true) Q E s₁) E s):wpAny 3e0 A (eval (.Attribute e f pos) env) Q E s :=
 Attribute_any_ h (by rw[arm_eval_Attribute,hb])
end
end
noncomputable def Wg(X:Cx)(op:Operator)(rd:V->V->Hp->VK->Prop):Prop :=
 ∀(Xy:List (Addr×Obj)) (s:Shared) (σ:St) (H:Hp) (x y:V) (u v:Value) (Q:VK),XC X Xy σ H s->bC x u->bC y v->rd x y H Q->wpAny (model X.prog X.w) X.A (inplaceOp op u v) (EP X Xy σ Q) X.xe s
section
variable{o value:Expr}{f:Str}{pos' aaI:Pos}{ta tv:TE}
def W9:V->V->Hp->VK->Prop:=λx y H Q=>∃i j,x=.int i/\y=.int j/\Q (.int (i+j)) H
def SS:Wg X .Add W9:=by
 rintro Xy s σ H x y u v Q I rx ry ⟨i,j,rfl,rfl,q⟩;obtain⟨t,rfl⟩:=(show ∃t,u=Value.int i t from rx);obtain⟨t',rfl⟩:=(show ∃t',v=Value.int j t' from ry);exact PyProof.Rows.iadd_int ⟨.int (i+j),H,I.tok _,⟨_,rfl⟩,q⟩
end
section
variable{Q:q0A}{c:Value}{b:Bool}
end
mutual
example:=[(.builtin "type.__call__" ⟨.ref C::us,kw⟩)]
structure Room(k:Nat)(A:Around):Prop where
 hd:A.handled=none
 dp:A.depth+3 * k+5 < recursionLimit
 un:A.units+16 * k+200 < cLine
theorem Room.mono{j:Nat}(r:Room k A)(h:j<=k):Room j A:=⟨r.hd,by have:=r.dp;omega,by have:=r.un;omega⟩
theorem Room.deeper(r:Room (k+1) A)(env:Env):Room k (A.deeper env) :=
 ⟨r.hd,by have:=r.dp;show A.depth+1+3 * k+5 < _;omega,by have:=r.un;show A.units+3+16 * k+200 < _;omega⟩
def EU:(A.under 0e0).depth=A.depth+1:=by
 first|rfl|simp[Around.under,Code.weight,Code.isCreation,Code.isGuard,Code.isCaller,Code.frames,Code.isFrame,guardIds]
def EV:(A.under 0e0).units=A.units+1:=by
 first|rfl|simp[Around.under,Code.cUnits,Code.frames,Code.isFrame]
theorem Room.make(r:Room (k+1) A)(C:Addr)(us:List Value)(kw:List (Str×Value)):Room k (A.under 0e0) :=
 ⟨r.hd,by have:=r.dp;rw[EU];omega,by have:=r.un;rw[EV];omega⟩
theorem Room.depth(r:Room k A):A.depth < recursionLimit:=by have:=r.dp;omega
theorem Room.units(r:Room k A):A.units+64 < cLine:=by have:=r.un;omega
def z9:TA:=λ_ H Q=>Q [] H
def oW(ta:TE)(tr:TA):TA:=λσ H Q=>ta σ H λx H1=>tr σ H1 λxs H2=>Q (x::xs) H2
end
section
mutual
example:=[(thn (h pos Xy s σ H _ I hq) λus s1 ⟨xs,H1,I1,r,z,q⟩=>⟨by rw[<- r.length];exact z,?_⟩),(λb u e=>Γ _ e)]
variable{t:TA}
def bD:PA X [] z9:=λ_ _ _ _ H Q I h=>Κ7 ⟨[],H,I,.nil,h⟩
def Hd(ha:PE X e te)(hr:PA X es t)(hs:starEach (e::es) X.env=(false,eval e X.env)::starEach es X.env:=by rfl):PA X (e::es) (oW te t):=by
 intro pos Xy s σ H Q I h;rw[hs];show wpAny _ _ (spliced ((false,eval e X.env)::backTo pos (starEach es X.env))) _ _ s;refine Ζ5 (thn (ha Xy s σ H _ I h) λu s1 ⟨x,H1,I1,r1,q1⟩=>?_);exact thn (hr pos Xy s1 σ H1 _ I1 q1) λus s2 ⟨xs,H2,I2,r2,q2⟩=>⟨x::xs,H2,I2,.cons r1 r2,q2⟩
def VT(t:TA):TE:=λσ H Q=>t σ H λxs H1=>xs.length<=sizeLine/\∀p,H1 p=none->Q (.ref p) (Xz H1 p (.tup xs))
def VP(t:TA):TE:=λσ H Q=>t σ H λxs H1=>xs.length<=sizeLine/\∀p,H1 p=none->Q (.ref p) (Xz H1 p (.lst xs))
def aT{x1}(h:PA X es t):PE X (.Tuple es x1 pos) (VT t):=by
 intro Xy s σ H Q I hq;refine wpAny_Tuple_spliced 0e0;have hf:H1 s1.heap.objs.size=none:=I1.XF.fresh (Ζ _);refine⟨.ref s1.heap.objs.size,Xz H1 s1.heap.objs.size (.tup xs),I1.laid (t':=s1.toks) 1e0 (Ζ _) ?_,rfl,q _ hf⟩;exact⟨z,us,r,⟨_,Ν _ rfl,rfl,_,rfl⟩⟩
def bA(h:PA X es t):PE X (.List es pos) (VP t):=by
 intro Xy s σ H Q I hq;refine wpAny_List_spliced 0e0;have hf:H1 s1.heap.objs.size=none:=I1.XF.fresh (Ζ _);refine⟨.ref s1.heap.objs.size,Xz H1 s1.heap.objs.size (.lst xs),I1.laid (t':=s1.toks) 1e0 (Ζ _) ?_,rfl,q _ hf⟩;exact⟨z,us,0,r,Ν _ rfl⟩
end
end
mutual
example:=[]
abbrev Sp:=List V->Hp->VK->XK->Prop
abbrev CXT:=List Env->Hp->Shared->XK->Value->Shared->Prop
variable{CX:CXT}
structure Env0(P:Program)(w:World)(K:q0B)(mg:q0C)(base:Heap)(A:Around)(outer:List Env)(s:Shared)(H:Hp):Prop where
 frames:A.frames=some outer
 mod:Mod K mg base
 bs:∀b o,base.get? b=some o->s.heap.get? b=some o/\H b=none
 bsz:base.objs.size<=s.heap.objs.size
 sD:s.heap.FunFrames base outer
 frf:∀b∈frs outer,H b=none
 XF:HOk P w H s.heap
 bare:AllBare s.gens
def CE(outer:List Env)(P:Program)(w:World)(H:Hp)(s:Shared)(Q:VK)(u:Value)(s':Shared):Prop :=
 ∃v H',s'.os=s.os/\AllBare s'.gens/\Un (frs outer) [] H H' s.heap s'.heap/\HOk P w H' s'.heap/\bC v u/\Q v H'
def CR(CX:CXT)(outer:List Env)(P:Program)(w:World)(H:Hp)(s:Shared)(Q:VK)(E:XK)(r:Result)(s':Shared):Prop :=
 match r with
 | .ok (.ret u)=>CE outer P w H s Q u s'
 | .ok _=>False
 | .error e=>CX outer H s E e s'
structure fJ(P:Program)(w:World)(K:q0B)(mg:q0C)(base:Heap)(CX:CXT)(k:Nat)(f:Addr)(fd:FuncData)(ps:List Str)(sp:Sp):Prop where
 len:∀vs H Q E,sp vs H Q E->vs.length=ps.length
 run:∀(A:Around) (outer:List Env) (s:Shared) (H:Hp) (args:Args) (us:List Value) (vs:List V) (Q:VK) (E:XK),Room k A->Env0 P w K mg base A outer s H->BindsTo s fd args (ps.zip us)->XD vs us->sp vs H Q E ->
  codeAny (model P w) A (.call (.ref f) args) (CR CX outer P w H s Q E) s
def fJ.mono{j:Nat}{f:Addr}{sp:Sp}(F:fJ P w K mg base CX j f fd ps sp)(h:j<=k) : fJ P w K mg base CX k f fd ps sp:=⟨F.len,λA outer s H args us vs Q E hr=>F.run A outer s H args us vs Q E (hr.mono h)⟩
def Env0.make(e:Env0 P w K mg base A outer s H)(C:Addr)(us:List Value)(kw:List (Str×Value)) : Env0 P w K mg base (A.under (.builtin "type.__call__" ⟨.ref C::us,kw⟩)) outer s H:=⟨by first|exact e.frames|(simpa[Around.under,Code.envs,Code.isFrame,pushEnvs] using e.frames),e.mod,e.bs,e.bsz,e.sD,e.frf,e.XF,e.bare⟩
end
section
def XC.Vl(I:XC X Xy σ H s):Env0 X.prog X.w X.K X.mg X.base X.A X.stack s H :=
 ⟨I.ok.frames,I.ok.mod,I.bs,ϕ I.ok.bsz I.sz,I.stack,I.CI,I.XF,I.bare⟩
def XC.after{Q:VK}(I:XC X Xy σ H s)(h:CE X.stack X.prog X.w H s Q u s'):EP X Xy σ Q u s':=by
 obtain⟨v,H',os,bare,un,XF,r,q⟩:=h;obtain⟨hh,g,d,t,os'⟩:=s';obtain rfl:os'=s.os:=os;exact⟨v,H',I.call (h':=hh) (g':=g) (d':=d) (t':=t) (ch:=[]) un XF bare (λb z=>absurd z (by simp)),r,q⟩
end
mutual
example:=[vs++Yn]
def HQ(sp:Sp)(Yn:List V)(E:XK)(t:TA):TE:=λσ H Q=>t σ H λvs H1=>sp 0e0 H1 Q E
def Ec(C:Addr)(m:Str)(sp:Sp)(Yn:List V)(E:XK)(ta:TE)(t:TA):TE:=λσ H Q=>ta σ H λx H1=>∃a dx fs,x=.ref a/\H1 a=some (.ins C dx fs)/\fs.lookup m=none /\
 t σ H1 λvs H2=>sp (x::0e0) H2 Q E
def HR(C:Addr)(sp:Sp)(Yn:List V)(E:XK)(t:TA):TE:=λσ H Q=>t σ H λvs H1=>∀x dx,H1 x=none->H1 dx=none->dx≠x ->
 sp (.ref x::0e0) (Xz (Xz H1 dx (.own x)) x (.ins C dx [])) (λv H2=>v=.XB/\Q (.ref x) H2) E
def Binds(K:q0B)(fd:FuncData)(ps:List Str)(ds:List Value):Prop :=
 ∀(s:Shared) (us:List Value),K.In s.heap->(us++ds).length=ps.length->BindsTo s fd ⟨us,[]⟩ (ps.zip (us++ds))
def Binds.all(h:∀us:List Value,us.length=ps.length->bindArgs fd ⟨us,[]⟩=pure (ps.zip us)):Binds K fd ps []:=λs us _ hl=>by
 rw[Η0] at hl ⊢;exact .of_eq (h us hl)
def Passes(CX:CXT)(X:Cx)(E:XK):Prop:=∀(Xy:List (Addr×Obj)) (σ:St) (H:Hp) (s:Shared) (e:Value) (s':Shared),XC X Xy σ H s->CX X.stack H s E e s'->X.xe e s'
end
section
mutual
example:=[e::es,s.heap.objs.size+1,vs++Yn,.ref f,.ref C,.Attribute o m apos,us++ds,x==("__debug__":Str),wC I hg hm ?_ hdb,starEach es X.env,.Name x p,(thn (ha pos Xy s σ H _ I h) λus s1 ⟨vs,H1,I1,r,q⟩=>⟨I1.kIn,?_⟩),(thn (he Xy s σ H _ I h) λu s1 ⟨x,H1,I1,rx,a,dx,fs,ex,ea,l,q⟩=>?_),backToKw pos (keywordEach [] X.env),getMethod ov m pl,model X.prog X.w,EP X Xy σ Q]
variable{f:Addr}{sp:Sp}{Yn:List V}{ds:List Value}{E:XK}{m:Str}{p apos:Pos}{o:Expr}{ta:TE}{t:TA}
def Cy{Q:VK}(F:fJ X.prog X.w X.K X.mg X.base CX k f fd ps sp)(hr:Room k X.A)(hb:Binds X.K fd ps ds)(hd:XD Yn ds)(hx:Passes CX X E)(I:XC X Xy σ H s)(r:XD vs us)(h:sp 2e0 H Q E):wpAny 5e1 X.A (call 3e0 us) 6e1 X.xe s:=by
 have r2:XD 2e0 6e0:=r.append hd;have hl:(us++ds).length=ps.length:=by rw[<- r2.length];exact F.len _ _ _ _ h
 refine wpAny_call (codeAny_mono (F.run X.A X.stack s H ⟨us,[]⟩ 6e0 2e0 Q E hr I.Vl (hb s us I.kIn hl) r2 h) λr s' hq=>?_);cases r with
 | error e=>exact hx Xy σ H s e s' I hq
 | ok fl =>
  cases fl with
  | ret u=>exact I.after hq
  | next=>exact False.elim hq
  | brk=>exact False.elim hq
  | cont=>exact False.elim hq
theorem sR(F:fJ X.prog X.w X.K X.mg X.base CX k f fd ps sp)(hr:Room k X.A)(hg:Gl X x)(hm:X.mg x=some 3e0)(hk:PySem.W.keepIn X.K 3e0=true)(hb:Binds X.K fd ps ds)(hd:XD Yn ds)(hx:Passes CX X E)(ha:PA X 0e0 t)(hdb:7e0=false:=by decide)(he:starEach 0e0 X.env=(false,eval e X.env)::starEach es X.env:=by rfl)(YR:(backTo pos 9e0).any (·.1)=false:=by rfl) : PE X (.Call 0e1 0e0 [] pos) (HQ sp Yn E t):=by
 intro Xy s σ H Q I h;refine Θ4 8e0;refine PySem.W.callWith_K (h₀:=X.base) I.ok.mod.kin hk 1e1 he YR;exact Cy F hr hb hd hx I1 r q
def sU(he:PE X o ta)(c:Cls X.K C)(hm:Meth X.K C m f)(F:fJ X.prog X.w X.K X.mg X.base CX k f fd ps sp)(hr:Room k X.A)(hb:Binds X.K fd ps ds)(hd:XD Yn ds)(hx:Passes CX X E)(ha:PA X 0e0 t)
    (XQ:starEach 0e0 X.env=(false,eval e X.env)::starEach es X.env:=by rfl) (YR:(backTo pos 9e0).any (·.1)=false:=by rfl)
    (ht:eval (.Call 5e0 0e0 [] pos) X.env=(do
      let ov <- eval o X.env
      standAt apos.atName
      let (f,first) <- holding [ov] 4e1
      callWith pos f first (backTo pos (starEach 0e0 X.env)) 3e1):=by rfl) :
    PE X (.Call 5e0 0e0 [] pos) (Ec C m sp Yn E ta t):=by
  intro Xy s σ H Q I h;refine PySem.W.methodCall_KW (pl:=pl) 2e1 ht;subst ex;obtain rfl:u=Value.ref a:=rx;refine yE I1 ea c hm l ?_;refine PySem.W.callWith_K (first:=[.ref a]) (h₀:=X.base) I.ok.mod.kin hm.kp (thn (ha pos Xy s1 σ H1 _ I1 q) λus s2 ⟨vs,H2,I2,r,q2⟩=>⟨I2.kIn,?_⟩) XQ YR
  exact Cy (us:=.ref a::us) (vs:=.ref a::vs) F hr hb hd hx I2 (.cons rfl r) q2
def Mx(he:PE X o ta)(c:Cls X.K C)(hm:Meth X.K C m f)(F:fJ X.prog X.w X.K X.mg X.base CX k f fd ps sp)(hr:Room k X.A)(hb:Binds X.K fd ps ds)(hd:XD Yn ds)(hx:Passes CX X E)
    (ht:eval (.Call 5e0 [] [] pos) X.env=(do
      let ov <- eval o X.env
      standAt apos.atName
      let (f,first) <- holding [ov] 4e1
      callWith pos f first (backTo pos (starEach [] X.env)) 3e1):=by rfl) :
    PE X (.Call 5e0 [] [] pos) (Ec C m sp Yn E ta z9):=by
  intro Xy s σ H Q I h;refine PySem.W.methodCall_KW (pl:=pl) 2e1 ht;subst ex;obtain rfl:u=Value.ref a:=rx;refine yE I1 ea c hm l ?_;exact PySem.W.callWith_K0 (first:=[.ref a]) I1.kIn hm.kp (Cy (us:=[.ref a]) (vs:=[.ref a]) F hr hb hd hx I1 (.cons rfl .nil) q)
structure Mk(K:q0B)(C f:Addr):Prop where
 makes:PySem.W.makesIn K C=true
 init:PySem.W.findIn K 4e0 "__init__"=some (some 3e0)
 fn:PySem.W.isFn K 3e0=true
 kp:PySem.W.keepIn K 4e0=true
def DQ{Q:VK}(M:Mk X.K C f)(F:fJ X.prog X.w X.K X.mg X.base CX k f fd ps sp)(hr:Room (k+1) X.A)(hb:Binds X.K fd ps ds)(hd:XD Yn ds)(hx:Passes CX X E)(I:XC X Xy σ H s)(r:XD vs us)(h:∀x dx,H x=none->H dx=none->dx≠x->sp (.ref x::2e0) (Xz (Xz H dx (.own x)) x (.ins C dx [])) (λv H2=>v=.XB/\Q (.ref x) H2) E) : wpAny 5e1 X.A (call 4e0 us) 6e1 X.xe s:=by
 have hq:=h 1e0 s.heap.objs.size (I.XF.fresh (Δ3 _)) (I.XF.fresh (Ζ _)) (Ρ (Κ3 _));have I2:=XC.made (C:=C) I;have r2:XD (V.ref 1e0::2e0) (Value.ref 1e0::6e0):=.cons rfl (r.append hd);have hl:(Value.ref 1e0::us++ds).length=ps.length:=by
  have e:=r2.length;rw[F.len _ _ _ _ hq] at e;exact e.symm
 refine wpAny_call (LY (f:=f) I.kIn M.makes M.init (beq_iff_eq.mp M.fn) (codeAny_mono (F.run _ X.stack _ _ ⟨Value.ref 1e0::us,[]⟩ (Value.ref 1e0::6e0) _ _ E (hr.make C us [])
  (I2.Vl.make C us []) (hb _ (Value.ref 1e0::us) I2.kIn hl) r2 hq) λr s' hq'=>?_))
 cases r with
 | error e=>exact hx Xy σ _ _ e s' I2 hq'
 | ok fl =>
  cases fl with
  | ret u =>
   obtain⟨v,H',I3,rv,ev,q3⟩:=I2.after hq';subst ev;exact⟨rv,⟨V.ref 1e0,H',I3,rfl,q3⟩⟩
  | next=>exact False.elim hq'
  | brk=>exact False.elim hq'
  | cont=>exact False.elim hq'
theorem kW(M:Mk X.K C f)(F:fJ X.prog X.w X.K X.mg X.base CX k f fd ps sp)(hr:Room (k+1) X.A)(hg:Gl X x)(hm:X.mg x=some 4e0)(hb:Binds X.K fd ps ds)(hd:XD Yn ds)(hx:Passes CX X E)(ha:PA X 0e0 t)(hdb:7e0=false:=by decide)(he:starEach 0e0 X.env=(false,eval e X.env)::starEach es X.env:=by rfl)(YR:(backTo pos 9e0).any (·.1)=false:=by rfl) : PE X (.Call 0e1 0e0 [] pos) (HR C sp Yn E t):=by
 intro Xy s σ H Q I h;refine Θ4 8e0;refine PySem.W.callWith_K (h₀:=X.base) I.ok.mod.kin M.kp 1e1 he YR;exact DQ M F hr hb hd hx I1 r q
theorem Mw(M:Mk X.K C f)(F:fJ X.prog X.w X.K X.mg X.base CX k f fd ps sp)(hr:Room (k+1) X.A)(hg:Gl X x)(hm:X.mg x=some 4e0)(hb:Binds X.K fd ps ds)(hd:XD Yn ds)(hx:Passes CX X E)(hdb:7e0=false:=by decide):PE X (.Call 0e1 [] [] pos) (HR C sp Yn E z9):=by
 intro Xy s σ H Q I h;refine Θ4 8e0;exact PySem.W.callWith_K0 I.kIn M.kp (DQ (us:=[]) M F hr hb hd hx I .nil h)
end
end
section
variable{f:Addr}{ks:List Str}{sp:Sp}{E:XK}{m:Str}{p apos ad2:Pos}{o:Expr}{kws:List Keyword}{ta:TE}{t tk:TA}{nm:Option Str}
variable{g:List Value->List Value->List Value}{gV:List V->List V->List V}
end
mutual
example:=[((p,w)::P.zip vs),start N vs,xI CX P w K mg base N qual scope f X1 A outer s H E,envOfC qual scope s.heap.objs.size f cd,PySem.W.fnOf name qual params body scope dV kV doc pm an X1 ct,x.above y c (Θ9 h),s.heap.objs.size+1,(by simpa using hi),(by simpa using h2),(by simpa using h1),Str×Value,ps.zip us]
structure oZ(N P:List Str)(sc:Scope):Prop where
 kind:sc.kind=.function
 co:sc.isCoroutine=false
 gen:sc.isGenerator=false
 nd:N.Nodup
 pre:N.take P.length=P
 par:∀x∈P,sc.names.lookup x=some .local\/sc.names.lookup x=some .cell
 c9:∀y∈sc.names,y.2≠.free
theorem AL{kindOf:Str->Option NameKind}{x:Str}:∀{binds:List 0e1} {m:q0C},(∀v,(x,v)∉binds)->bindL kindOf binds m x=m x
 | [],_,_=>rfl
 | (n,v)::r,m,h=>by
  unfold bindL;rw[AL λw hw=>h w (Ξ _ hw)];split
  ·have:x≠n:=by rintro rfl;exact h v List.mem_cons_self
   simp[this]
  ·rfl
theorem AJ{kindOf:Str->Option NameKind}{x:Str}:∀{binds:List 0e1} {m:q0C},(∀v,(x,v)∉binds)->bindC kindOf binds m x=m x
 | [],_,_=>rfl
 | (n,v)::r,m,h=>by
  unfold bindC;rw[AJ λw hw=>h w (Ξ _ hw)];split
  ·rfl
  ·have:x≠n:=by rintro rfl;exact h v List.mem_cons_self
   simp[this]
theorem AK{kindOf:Str->Option NameKind}{x:Str}{v:Value}:∀{P:List Str} {vs:List Value} {i:Nat} {m:q0C},P.Nodup->P[i]?=some x->vs[i]?=some v->kindOf x=some .local -> bindL kindOf (P.zip vs) m x=some v
 | [],_,_,_,_,h,_,_=>by simp at h
 | _::_,[],_,_,_,_,h,_=>by simp at h
 | p::P,w::vs,0,m,nd,h1,h2,hk=>by
  simp at h1 h2;subst h1;subst h2;show bindL kindOf 0e0 m p=_;unfold bindL;rw[AL λv hv=>(Ι6.mp nd).1 (List.of_mem_zip hv).1,if_pos hk];simp
 | p::P,w::vs,i+1,m,nd,h1,h2,hk=>by
  show bindL kindOf 0e0 m x=_;unfold bindL;exact AK (i:=i) (Ι6.mp nd).2 9e0 8e0 hk
theorem AI{kindOf:Str->Option NameKind}{x:Str}{v:Value}:∀{P:List Str} {vs:List Value} {i:Nat} {m:q0C},P.Nodup->P[i]?=some x->vs[i]?=some v->kindOf x≠some .local -> bindC kindOf (P.zip vs) m x=some v
 | [],_,_,_,_,h,_,_=>by simp at h
 | _::_,[],_,_,_,_,h,_=>by simp at h
 | p::P,w::vs,0,m,nd,h1,h2,hk=>by
  simp at h1 h2;subst h1;subst h2;show bindC kindOf 0e0 m p=_;unfold bindC;rw[AJ λv hv=>(Ι6.mp nd).1 (List.of_mem_zip hv).1,if_neg hk];simp
 | p::P,w::vs,i+1,m,nd,h1,h2,hk=>by
  show bindC kindOf 0e0 m x=_;unfold bindC;exact AI (i:=i) (Ι6.mp nd).2 9e0 8e0 hk
def start(N:List Str)(vs:List V):St:=vs.map some++List.replicate (N.length - vs.length) none
def xI(CX:CXT)(P:Program)(w:World)(K:q0B)(mg:q0C)(base:Heap)(N:List Str)(qual:Str)(scope:Scope)(f:Addr)(cd:Value)(A:Around)(outer:List Env)(s:Shared)(H:Hp)(E:XK):Cx where
 prog:=P
 w:=w
 K:=K
 mg:=mg
 base:=base
 A:=A.deeper 3e0
 N:=N
 s₀:=s
 H₀:=H
 env:=envOfC qual scope s.heap.objs.size f cd
 outer:=outer
 stack:=envOfC qual scope s.heap.objs.size f cd::outer
 ex:=[]
 calm:=true
 fn:=λ_=>true
 pn:=[]
 xe:=λe s'=>wpAny (model P w) (A.deeper 3e0) (leaving 3e0 e) (λ_ s''=>CX outer H s E e s'') (λe' s''=>CX outer H s E e' s'') s'
def C1{sc:Scope}(h:sc.names.lookup x=some .cell):∃c,(cellsFrom n sc.names []).lookup x=some c:=by
 have q:=PySem.W.cellsFrom_some sc.names n [] (.inl h);exact Θ8.mp q
theorem IT{N:List Str}{qual:Str}{f:Addr}{cd:Value}{s1:Shared}{E:XK}(S:oZ N ps scope)(hd:A.handled=none)(e0:Env0 P w K mg base A outer s H)(hl:vs.length=ps.length)(r:XD vs us)(x:InCallC s s.heap.objs.size (bindL (envOfC qual scope s.heap.objs.size f cd).kindOf 1e1 λ_=>none) (cellsFrom 6e0 scope.names []) (bindC (envOfC qual scope s.heap.objs.size f cd).kindOf 1e1 λ_=>none) s1) : XC (xI CX P w K mg base N qual scope f cd A outer s H E) [] 1e0 H s1:=by
 have YR:ps.length<=N.length:=by have:=Η5 List.length S.pre;rw[Α0] at this;omega
 obtain⟨h1,tk,rfl,hk⟩:=x.done;have noA:∀b:Addr,b∉(xI CX P w K mg base N qual scope f cd A outer s H E).ex:=λb z=>absurd (show b∈([]:List Addr) from z) (by simp);refine⟨⟨e0.mod,S.kind,rfl,rfl,Ζ _,λy z c h1 h2=>?_,λy hy=>?_,λy c _ h=>?_,λ_=>hd,Around.frames_deeper e0.frames,.inr ⟨rfl,rfl⟩,λb z=>absurd z (noA b),e0.bs,e0.bsz,λb _ _=>noA b,λb z=>absurd z (noA b),e0.sD,e0.frf⟩,
  rfl,e0.bare,Un.kept hk,⟨_,x.toInCall.ns,λi y v h1 h2 h3=>?_⟩,λy c h=>⟨_,x.cell y c h⟩,e0.XF.fresh (Ζ _),λy c h=>?_,λp hp=>absurd (show p∈([]:List (Addr×Obj)) from hp) (by simp),e0.XF.kept hk,?_⟩
 ·exact name_of_addr x.apart (Θ9 h1) (Θ9 h2)
 ·have hy:scope.names.lookup y=some .cell\/scope.names.lookup y=some .free:=hy;rcases hy with hy|hy
  ·exact C1 hy
  ·exact absurd rfl (S.c9 _ (Θ9 hy))
 ·exact Nat.le_of_lt 5e0
 ·have hi:i < vs.length:=by
   unfold start at h2;by_cases hi:i < vs.length
   ·exact hi
   ·rw[List.getElem?_append_right 7e0] at h2;rw[List.getElem?_replicate] at h2;split at h2<;>cases h2
  have ha:vs[i]?=some v:=by
   unfold start at h2;rw[List.getElem?_append_left 7e0,Ψ] at h2;cases e:vs[i]? with
   | none=>rw[e] at h2;cases h2
   | some a=>rw[e] at h2;cases h2;rfl
  obtain⟨u,hu,rv⟩:=r.get ha;have hp:ps[i]?=some y:=by
   rw[<- S.pre,List.getElem?_take_of_lt (by omega)];exact h1
  have ndP:ps.Nodup:=by rw[<- S.pre];exact S.nd.sublist (List.take_sublist _ _)
  refine⟨u,rv,?_⟩;rcases S.par y (Φ hp) with k|k
  ·exact .inl ⟨k,AK ndP hp hu k⟩
  ·obtain⟨c,e⟩:=C1 (n:=s.heap.objs.size+1) k;refine .inr ⟨.inl k,c,e,?_⟩;have q:=x.cell y c e;rw[AI ndP hp hu (by show scope.names.lookup y≠_;rw[k];decide)] at q;exact q
 ·exact e0.XF.fresh (Nat.le_of_lt 5e0)
 ·unfold start;show _=N.length;rw[Ι,Δ,List.length_replicate];omega
def Vo{f:Addr}{name qual:Str}{params:Arguments}{dV kV doc pm X1 ct oc:Value}{an od:Option Addr}{Zn:Array (Option Value)}{N:List Str}{sp:Sp}(lk:K.lookup f=some ⟨oc,od,.func 4e0,Zn⟩)(hcd:PySem.W.codeIn K X1 qual=true)(S:oZ N ps scope)(len:∀vs H Q E,sp vs H Q E->vs.length=ps.length)(Y0:∀(A:Around) (outer:List Env) (s:Shared) (H:Hp) (vs:List V) (Q:VK) (E:XK),Room k (A.deeper (envOfC qual scope s.heap.objs.size f X1))->sp vs H Q E -> ∃t,YN 2e0 body t/\t {nx:=λ_ H'=>Q .XB H',rt:=Q} 1e0 H) : fJ P w K mg base CX (k+1) f 4e0 ps sp:=by
 refine⟨len,λA outer s H args us vs Q E hr e0 hb r hsp=>?_⟩;have hl:=len _ _ _ _ hsp;have KX:K.In s.heap:=e0.mod.kin.keeps λb o e=>(e0.bs b o e).1;have lim:s.heap.NoLimit:=e0.mod.nolimit.keeps λb o e=>(e0.bs b o e).1;have Yu:∀y∈ps.zip us,scope.names.lookup y.1=some .local\/(scope.names.lookup y.1=some .cell/\((cellsFrom 6e0 scope.names []).lookup y.1).isSome=true):=fun⟨n,v⟩ hy=>by
  rcases S.par n (List.of_mem_zip hy).1 with q|q
  ·exact .inl q
  ·exact .inr ⟨q,PySem.W.cellsFrom_some _ _ _ (.inl q)⟩
 refine codeAny_call_function hr.depth (KX _ _ lk) rfl S.co S.gen rfl (PySem.W.codeRec_of KX hcd) (hb _ _ _ _ ?_);refine wpAny_newFunctionEnv_cells S.kind Yu λenv he s1 x=>?_;subst he;refine⟨lim.keeps x.toInCall.keep,codeAny_func ?_⟩;obtain⟨t,ht,hq⟩:=Y0 A outer s H vs Q E (hr.deeper _) hsp;have I:XC 2e0 [] 1e0 H s1:=IT S hr.hd e0 hl r x;refine Ε3 (ht [] s1 1e0 H _ I hq) (λfl s' hs=>?_) λe s' hs=>hs;have fin:∀{σ':St} {H':Hp} {v:V} {u:Value},XC 2e0 [] σ' H' s'->bC v u->Q v H'->CE outer P w H s Q u s' :=
  λ{σ' H' v u} J rv q=>⟨v,H',J.os,J.bare,J.base,J.XF,rv,q⟩
 cases fl with
 | ret u =>
  obtain⟨v,σ',H',J,rv,q⟩:=hs;exact fin J rv q
 | next =>
  obtain⟨σ',H',J,q⟩:=hs;exact fin (v:=V.XB) (u:=Value.none) J rfl q
 | brk =>
  obtain⟨_,_,_,q⟩:=hs;exact False.elim q
 | cont =>
  obtain⟨_,_,_,q⟩:=hs;exact False.elim q
end
section
mutual
example:=[e::es,(thn (ha pos Xy s σ H _ I h) λus s1 ⟨vs,H1,I1,r1,q1⟩=>hc Xy s1 σ H1 vs us Q I1 r1 q1),.Call (.Name x p) (e::es) [] pos,yM I hg hm hv ?_ hn hdb,x==("__debug__":Str),starEach es X.env,.builtin id]
variable{p:Pos}{t:TA}{id T:String}{r:List V->Hp->VK->Prop}
def Xe(r:List V->Hp->VK->Prop)(t:TA):TE:=λσ H Q=>t σ H λvs H1=>r vs H1 Q
theorem bJ(hc:eI X 6e0 r)(hg:Gl X x)(hm:X.mg x=none)(hv:bootBuiltins x=some 6e0)(ha:PA X 0e0 t)(hn:x≠"__name__":=by decide)(hdb:4e0=false:=by decide)(he:starEach 0e0 X.env=(false,eval e X.env)::starEach es X.env:=by rfl)(YR:(backTo pos 5e0).any (·.1)=false:=by rfl):PE X 2e0 (Xe r t):=by
 intro Xy s σ H Q I h;refine Θ4 3e0;exact PyProof.Rows.callWith_builtin1 1e0 he YR
theorem bL(hc:eI X (.type T) r)(hg:Gl X x)(hm:X.mg x=none)(hv:bootBuiltins x=some (.type T))(ha:PA X 0e0 t)(hn:x≠"__name__":=by decide)(hdb:4e0=false:=by decide)(he:starEach 0e0 X.env=(false,eval e X.env)::starEach es X.env:=by rfl)(YR:(backTo pos 5e0).any (·.1)=false:=by rfl):PE X 2e0 (Xe r t):=by
 intro Xy s σ H Q I h;refine Θ4 3e0;exact Ι7 1e0 he YR
end
end
end L2
namespace HT
open PySem PyProof.Rows
section
open PySem.SeqAt
open PySem.AutoSeq1 (wpAny_loadPart')
open PySem.MeetsSeq PySem.MeetsSeq2 PySem.MeetsSeq3
end
section
mutual
example:=[fG items.size items.size hi - fG items.size 0 lo,(Β ⟨_,rfl,Β h⟩),model prog w,.ref t,fG items.size 0 lo,(by decide),.ref sl,(if v < 0 then max (v+(n:Int)) 0 else min v (n:Int)),(if v < 0 then (v+(n:Int)).toNat else min v.toNat n),PySem.F.args_tuple_add_2 _ _,.ref s.heap.objs.size,(by simpa using hv)]
variable{prog:Program}{w:World}{A:Around}{E:q0A}{s:Shared}
def NT{t b:Addr}{vs ws:List Value}{Q:q0A}(ht:IsTup s.heap t vs.toArray)(hb:IsTup s.heap b ws.toArray)(hv:vs≠[])(h1:ws=[]->Q 3e0 s)(h2:ws≠[]->Q 0e1 {s with heap:=s.heap.push {cls:=.type "tuple",data:=.seq (vs++ws).toArray}})(hsz:vs.length+ws.length<=sizeLine):wpAny 2e0 A (binaryOp .Add 3e0 (.ref b)) Q E s:=by
 obtain⟨⟨cls,dd,data,sl⟩,ho,hc,n,hd⟩:=id ht;obtain⟨⟨adT,dd2,data2,X2⟩,ho2,hc2,n2,hd2⟩:=id hb;simp only at hc hd hc2 hd2;subst hc hd hc2 hd2;have e:vs.toArray++ws.toArray=(vs++ws).toArray:=by simp
 by_cases hw:ws=[]
 ·exact concat_meets ⟨_,ho,rfl⟩ ⟨_,ho2,rfl⟩ noFill_tuple_add seq_tuple_add PySem.F.slot_tuple_add PySem.F.entry_tuple_add 9e0
   (tuple_addW1 t b vs.toArray ws.toArray n n2 dd dd2 sl X2 1e1 (by simp[hw])) ⟨ho,ho2,h1 hw⟩
 ·refine concat_meets ⟨_,ho,rfl⟩ ⟨_,ho2,rfl⟩ noFill_tuple_add seq_tuple_add PySem.F.slot_tuple_add PySem.F.entry_tuple_add 9e0
   (tuple_addW2 t b vs.toArray ws.toArray n n2 dd dd2 sl X2 1e1 (by simpa using hw) (by rw[Η,Η];exact hsz)) ⟨ho,ho2,?_⟩
  rw[e];exact h2 hw
def fG(n d:Nat):Option Int->Nat
 | none=>d
 | some v=>if v < 0 then (v+(n:Int)).toNat else min v.toNat n
def MF(n d:Nat):fG n d none=d:=rfl
theorem wN(n d k:Nat):fG n d (some (k:Int))=min k n:=by
 show(if (k:Int) < 0 then ((k:Int)+(n:Int)).toNat else min (k:Int).toNat n)=min k n;rw[if_neg (by omega),Ε5]
theorem Tw(n d:Nat)(hd:d<=n)(o:Option Int):fG n d o<=n:=by
 cases o with
 | none=>exact hd
 | some v =>
  show 8e0<=n;by_cases hv:v < 0
  ·rw[if_pos hv];omega
  ·rw[if_neg hv];exact Nat.min_le_right _ _
theorem Gm(v:Int)(n d:Nat):7e0=((fG n d (some v):Nat):Int):=by
 show 7e0=((8e0:Nat):Int);by_cases hv:v < 0
 ·simp only[if_pos hv];omega
 ·simp only[if_neg hv];omega
theorem Es(lo hi:Option Int)(n:Nat):Builtin.Slice.sliceAdjust lo hi 1 (n:Int)=(((fG n 0 lo:Nat):Int),((fG n n hi:Nat):Int)):=by
 have h1:¬ ((1:Int) < 0):=by omega
 unfold Builtin.Slice.sliceAdjust;simp only[h1,Η8];refine Prod.ext ?_ ?_
 ·cases lo with
  | none=>rfl
  | some v=>exact Gm v n 0
 ·cases hi with
  | none=>rfl
  | some v=>exact Gm v n n
theorem Fi(i j:Nat):Builtin.Slice.slicePlaces (i:Int) (j:Int) 1=j - i:=by
 unfold Builtin.Slice.slicePlaces;have h1:(1:Int) > 0:=by omega
 simp only[h1,if_true,Int.ediv_one];split<;>omega
def kE{v:Value}{o:Option Int}{Q:Option Int->Shared->Prop}(p:IsPart v o)(h:Q o s):wpAny 2e0 A (Builtin.Slice.slicePartIndex v) Q E s:=by
 cases p with
 | none=>exact slicePart_none h
 | int i t=>exact slicePart_int h
theorem l7{sl:Addr}{vl vu:Value}{lo hi:Option Int}{n:Nat}{Q:Int×Int×Nat->Shared->Prop}(hs:s.heap.IsSliceOf sl vl vu .none)(pl:IsPart vl lo)(pu:IsPart vu hi)(h:Q (((fG n 0 lo:Nat):Int),1,fG n n hi - fG n 0 lo) s):wpAny 2e0 A (Builtin.Slice.sliceApplied 6e0 (pure (n:Int))) Q E s:=by
 obtain⟨os,ZL,ZZ,ZI⟩:=id hs;unfold Builtin.Slice.sliceApplied Builtin.Slice.sliceFields;refine Α (Α (Η4 ZL ZI (x:=vl) rfl (Α (Η4 ZL ZI (x:=vu) rfl (Α (Η4 ZL ZI (x:=.none) rfl (Β ?_)))))));refine Α (slicePart_none ?_);show wpAny _ _ (if ((1:Int)==0)=true then _ else _) _ _ s;rw[if_neg 5e0];refine Α (kE pl (Α (kE pu (Α (Β ?_)))));show wpAny _ _ (match Builtin.Slice.sliceAdjust lo hi 1 (n:Int) with|(lo,hi)=>pure (lo,(1:Int),Builtin.Slice.slicePlaces lo hi 1)) _ _ s;rw[Es lo hi n];show wpAny _ _ (pure (((fG n 0 lo:Nat):Int),(1:Int),Builtin.Slice.slicePlaces ((fG n 0 lo:Nat):Int) ((fG n n hi:Nat):Int) 1)) _ _ s;rw[Fi];exact Β h
theorem My(xs:Array Value)(i k:Nat):((List.range k).filterMap fun(m:Nat)=>xs[((i:Int)+(m:Int) * 1).toNat]?).toArray=((xs.toList.drop i).take k).toArray:=by
 have e:(fun(m:Nat)=>xs[((i:Int)+(m:Int) * 1).toNat]?)=λm=>xs[i+m]?:=by
  funext m;have:((i:Int)+(m:Int) * 1).toNat=i+m:=by omega
  rw[this]
 rw[e];have:=pick_run xs i k;rw[List.filterMap_map] at this;have e2:((λx=>xs[x]?)∘λx=>i+x)=λm=>xs[i+m]?:=rfl;rw[e2] at this;rw[this]
theorem sE{t sl:Addr}{items:Array Value}{vl vu:Value}{lo hi:Option Int}{Q:q0A}(ht:IsTup s.heap t items)(hs:s.heap.IsSliceOf sl vl vu .none)(pl:IsPart vl lo)(pu:IsPart vu hi)(hw:¬ (fG items.size 0 lo=0/\fG items.size items.size hi=items.size))(h:Q 0e1 {s with heap:=s.heap.push {cls:=.type "tuple",data:=.seq ((items.toList.drop 4e0).take 0e0).toArray}})(hsz:items.size<=sizeLine):wpAny 2e0 A (getItem 3e0 6e0) Q E s:=by
 have Yv:sizeOk (.seq ((items.toList.drop 4e0).take 0e0).toArray):=by
  show((items.toList.drop 4e0).take 0e0).toArray.size<=sizeLine;rw[Η,Α0,List.length_drop,Γ9];omega
 have hj:fG items.size items.size hi<=items.size:=Tw _ _ (Ζ _) hi;obtain⟨os,ZL,ZZ,ZI⟩:=id hs;have hTs:s.TypeIs 6e0 "slice":=⟨os,ZL,ZZ⟩;unfold getItem
 try with_reducible refine Β8 ?_
 first|refine Α (Β ?_)|skip
 refine Α (wpAny_sequenceKey ht.typeIs 5e0 ?_);refine Α (Β2 (name:=Str.ofString "__getitem__") ht.typeIs Α3
  (Α9 Α3 ht.typeIs entry_tuple_getitem ?_ (args_tuple_getitem _ _)))
 show wpAny _ _ (Builtin.Tuple.tupleItemsOf 3e0 >>= _) _ _ s;refine Α (tupleItemsOf_ ht ?_);refine Α (Ε8 hTs ?_);rw[if_pos 5e0];refine Α (l7 hs pl pu ?_);have hno:¬ ((((fG items.size 0 lo:Nat):Int)==0&&(1:Int)==1&&0e0==items.size)=true):=by
  intro q;rw[Β3,Β3] at q;have q1:((fG items.size 0 lo:Nat):Int)=0:=eq_of_beq q.1.1;have q2:fG items.size items.size hi - fG items.size 0 lo=items.size:=eq_of_beq q.2;exact hw ⟨by omega,by omega⟩
 show wpAny _ _ (if (((fG items.size 0 lo:Nat):Int)==0&&(1:Int)==1&&0e0==items.size)=true then _ else _) _ _ s;rw[if_neg hno,My]
 first
  | exact Α (m:=Builtin.Tuple.tupleExact _) (ϙ 1e0 Yv)
  | exact Α (m:=Builtin.Tuple.tupleExact _) (ϙ (Α (Β 1e0)) Yv)
  | exact Α (Α (m:=Builtin.Tuple.tupleExact _) (ϙ (Β 1e0) Yv))
  | exact Α (Α (m:=Builtin.Tuple.tupleExact _) (ϙ 1e0 Yv))
end
end
end HT
namespace L2
open PySem PySem.Spec PyProof.Rows
mutual
example:=[Addr×Obj]
variable{a:Addr}{H:Hp}{Xy:List 0e0}{xs:List (List Key×Addr×Value)}{kvs:List (List Key×V)}{us:List Value}{n t':Nat}{o:Option V}{P:Program}{s:Shared}{σ:St}{y:V}{u:Value}{w:World}{Q:q0A}
abbrev TO:=St->Hp->(Option Int->Hp->Prop)->Prop
def PO(X:Cx)(e:Option Expr)(t:TO):Prop :=
 ∀(Xy:List 0e0) (s:Shared) (σ:St) (H:Hp) (Q:Option Int->Hp->Prop),XC X Xy σ H s->t σ H Q ->
  wpAny (model X.prog X.w) X.A (evalPart e X.env) (λu s'=>∃o H',XC X Xy σ H' s'/\IsPart u o/\Q o H') X.xe s
def HU:TO:=λ_ H Q=>Q none H
def Np(t:TE):TO:=λσ H Q=>t σ H λx H1=>∃i,x=.int i/\Q (some i) H1
end
section
mutual
example:=[HT.fG xs.length xs.length hi - HT.fG xs.length 0 lo,HT.fG xs.length 0 lo,.Slice lo hi none p2,(λb ob q=>Γ _ q),I.XF.fresh (Ζ _),model X.prog X.w,EP X Xy σ Q,fK xs lo hi]
variable{X:Cx}{e:Expr}{te:TE}{lo hi:Option Expr}{tl th:TO}{pos p2:Pos}
def fT:PO X none HU:=by
 intro Xy s σ H Q I h;rw[evalPart_none];exact Β ⟨none,H,I,.none,h⟩
def dI(h:PE X e te):PO X (some e) (Np te):=by
 intro Xy s σ H Q I hw;rw[evalPart_some];refine thn (h Xy s σ H _ I hw) λu s1 ⟨x,H1,I1,r1,q1⟩=>?_;obtain⟨i,rfl,q⟩:=q1;obtain⟨t,rfl⟩:=r1;exact⟨some i,H1,I1,.int i t,q⟩
def Ny(X:Cx)(r:V->Option Int->Option Int->Hp->VK->Prop):Prop :=
 ∀(Xy:List (Addr×Obj)) (s:Shared) (σ:St) (H:Hp) (x:V) (v vl vu:Value) (lo hi:Option Int) (sl:Addr) (Q:VK),XC X Xy σ H s->bC x v->s.heap.IsSliceOf sl vl vu .none->IsPart vl lo->IsPart vu hi->r x lo hi H Q ->
  ∃T id,typeLookup (.type T) "__getitem__"=pure (some (.builtin id))/\s.TypeIs v T/\wpAny 5e0 X.A (getItem v (.ref sl)) 6e0 X.xe s
def Ny.or{r r':V->Option Int->Option Int->Hp->VK->Prop}(h:Ny X r)(h':Ny X r'):Ny X (λx lo hi H Q=>r x lo hi H Q\/r' x lo hi H Q):=by
 intro Xy s σ H x v vl vu lo hi sl Q I rx hs pl pu q;rcases q with q|q
 ·exact h Xy s σ H x v vl vu lo hi sl Q I rx hs pl pu q
 ·exact h' Xy s σ H x v vl vu lo hi sl Q I rx hs pl pu q
def Xo(r:V->Option Int->Option Int->Hp->VK->Prop)(te:TE)(tl th:TO):TE:=λσ H Q=>te σ H λx H1=>tl σ H1 λl H2=>th σ H2 λu H3=>r x l u H3 Q
def eM{r:V->Option Int->Option Int->Hp->VK->Prop}(hr:Ny X r)(he:PE X e te)(hl:PO X lo tl)(hu:PO X hi th):PE X (.Subscript e 2e0 pos) (Xo r te tl th):=by
 intro Xy s σ H Q I h;refine Subscript_ (thn (he Xy s σ H _ I h) λv s1 ⟨x,H1,I1,r1,q1⟩=>?_);refine wpAny_Slice (thn (hl Xy s1 σ H1 _ I1 q1) λvl s2 ⟨l,H2,I2,pl,q2⟩=>thn (hu Xy s2 σ H2 _ I2 q2) λvu s3 ⟨u,H3,I3,pu,q3⟩=>?_);rw[evalPart_none];refine Β ?_;have I4:XC X Xy σ H3 {s3 with heap:=s3.heap.push {cls:=.type "slice",data:=.fields #[vl,vu,.none]}}:=I3.kept (t':=s3.toks) λb ob q=>Γ _ q;obtain⟨T,id,hT,ht,hg⟩:=hr Xy {s3 with heap:=s3.heap.push {cls:=.type "slice",data:=.fields #[vl,vu,.none]}} σ H3 x v vl vu l u s3.heap.objs.size Q I4 r1 (Heap.IsSliceOf.new ..) pl pu q3;show wpAny 5e0 X.A (subscriptTail e 2e0 v (.ref s3.heap.objs.size)) 6e0 X.xe {s3 with heap:=s3.heap.push {cls:=.type "slice",data:=.fields #[vl,vu,.none]}};exact tail_any (ops:=[.ref s3.heap.objs.size,v]) ht hT hg (by with_unfolding_all rfl)
def fK(xs:List V)(lo hi:Option Int):List V:=(xs.drop 1e0).take 0e0
theorem nS(xs:List V)(lo hi:Option Int):(fK xs lo hi).length<=xs.length:=by
 unfold fK;rw[Α0,List.length_drop];omega
def Xc(K:q0B):V->Option Int->Option Int->Hp->VK->Prop:=λx lo hi H Q=>∃a xs,x=.ref a/\cJ K H a xs /\
 ¬ (HT.fG xs.length 0 lo=0/\HT.fG xs.length xs.length hi=xs.length)/\∀p,H p=none->Q (.ref p) (Xz H p (.tup 7e0))
def MO:Ny X (Xc X.K):=by
 intro Xy s σ H x v vl vu lo hi sl Q I rx hs pl pu h;obtain⟨a,xs,rfl,hx,hw,q⟩:=h;cases rx;obtain⟨XA,r,ht,hz⟩:=I.tuple hx;have hlen:XA.toArray.size=xs.length:=by rw[Η];exact r.length.symm
 refine⟨"tuple",_,Α3.lookup,ht.typeIs,?_⟩;refine HT.sE ht hs pl pu (by rw[hlen];exact hw) ?_ (by rw[hlen];exact hz);rw[hlen];refine⟨.ref s.heap.objs.size,_,I.laid (t':=s.toks) (o:=.tup 7e0) 3e0 (Ζ _) ?_,rfl,q _ 4e0⟩;exact⟨ϕ (nS xs lo hi) hz,_,(r.drop 1e0).take 0e0,IsTup.new _ _⟩
def VE(K:q0B):R2:=λx y H Q=>∃a b xs ys,x=.ref a/\y=.ref b/\cJ K H a xs/\cJ K H b ys/\xs≠[]/\xs.length+ys.length<=sizeLine /\
 (ys=[]->Q (.ref a) H)/\(ys≠[]->∀p,H p=none->Q (.ref p) (Xz H p (.tup (xs++ys))))
def XD.wG{xs:List V}(r:XD xs us):us=[]↔xs=[]:=by
 cases r with
 | nil=>simp
 | cons _ _=>simp
def Hb:i9 X (binaryOp .Add) (VE X.K):=by
 intro Xy s σ H x y v u Q I rx ry h;obtain⟨a,b,xs,ys,rfl,rfl,ha,hb,hx,hz,q1,q2⟩:=h;cases rx;cases ry;obtain⟨XA,r1,p1,_⟩:=I.tuple ha;obtain⟨YG,r2,p2,_⟩:=I.tuple hb;refine HT.NT p1 p2 (λz=>hx (r1.wG.mp z)) (λz=>⟨.ref a,H,I,rfl,q1 (r2.wG.mp z)⟩) (λz=>?_) (by rw[<- r1.length,<- r2.length];exact hz);refine⟨.ref s.heap.objs.size,_,I.laid (t':=s.toks) (o:=.tup (xs++ys)) 3e0 (Ζ _) ?_,rfl,q2 (λw=>z (r2.wG.mpr w)) _ 4e0⟩;exact⟨by rw[Ι];exact hz,_,r1.append r2,IsTup.new _ _⟩
end
end
mutual
example:=[(by omega),model X.prog X.w,EP X Xy σ Q,Addr×Obj]
def yK(n:Nat)(i:Int):Option Nat:=if 0<=i then (if i < n then some i.toNat else none) else if -(n:Int)<=i then some (i+n).toNat else none
def iR{α:Type}(xs:List α)(i:Int):Option α:=(yK xs.length i).bind λj=>xs[j]?
theorem GU{i:Int}{j:Nat}(h:yK n i=some j):seqIndex? i n=some j/\j < n/\-(n:Int)<=i/\i < n:=by
 unfold yK at h;by_cases h0:0<=i
 ·rw[if_pos h0] at h;by_cases h1:i < n
  ·rw[if_pos h1] at h;have e:i.toNat=j:=Ϛ h;exact⟨by rw[seqIndex_of h0 h1,e],by omega,by omega,h1⟩
  ·rw[if_neg h1] at h;cases h
 ·rw[if_neg h0] at h;by_cases h1:-(n:Int)<=i
  ·rw[if_pos h1] at h;have e:(i+n).toNat=j:=Ϛ h;exact⟨by rw[seqIndex_neg 0e0 h1,e],by omega,h1,by omega⟩
  ·rw[if_neg h1] at h;cases h
def vV{α:Type}{xs:List α}{i:Int}{v:α}(h:iR xs i=some v):∃j,seqIndex? i xs.length=some j/\xs[j]?=some v/\j < xs.length/\-(xs.length:Int)<=i/\i < xs.length:=by
 unfold iR at h;cases e:yK xs.length i with
 | none=>rw[e] at h;cases h
 | some j =>
  rw[e] at h;obtain⟨h1,h2,h3,h4⟩:=GU e;exact⟨j,h1,h,h2,h3,h4⟩
theorem rQ{α:Type}{xs:List α}{j:Nat}{v:α}(h:xs[j]?=some v):iR xs (j:Int)=some v:=by
 have hj:j < xs.length:=(Λ.mp h).1;have e:yK xs.length (j:Int)=some j:=by
  unfold yK;rw[if_pos 0e0,if_pos 0e0];simp
 unfold iR;rw[e];exact h
theorem nN{α:Type}(xs:List α)(v:α):iR (xs++[v]) (-1)=some v:=by
 have hl:(xs++[v]).length=xs.length+1:=by simp
 have e:yK (xs++[v]).length (-1)=some xs.length:=by
  unfold yK;rw[hl,if_neg (by decide),if_pos 0e0]
  congr 1
  omega
 unfold iR;rw[e];show(xs++[v])[xs.length]?=some v;simp
def FU(b:Expr):Prop:=∀o i,subscripted b false o i=operate [o,i] (getItem o i)
def Ek(X:Cx)(r:R2):Prop :=
 ∀(value slice:Expr) (Xy:List 3e0) (s:Shared) (σ:St) (H:Hp) (x y:V) (v u:Value) (Q:VK),XC X Xy σ H s->bC x v->bC y u->r x y H Q ->
  subscripted slice false v u=operate [v,u] (getItem v u)->wpAny 1e0 X.A (subscriptTail value slice v u) 2e0 X.xe s
def Xr(X:Cx)(id:String)(r:V->List V->Hp->VK->Prop):Prop :=
 ∀(Xy:List 3e0) (s:Shared) (σ:St) (H:Hp) (x:V) (xs:List V) (v:Value) (us:List Value) (Q:VK),XC X Xy σ H s->bC x v->XD xs us->r x xs H Q ->
  wpAny 1e0 X.A (call (.builtin id) (v::us)) 2e0 X.xe s
end
section
mutual
example:=[EJ x,(by omega),(by simp only[Η]<;>omega),Ζ _,(λw hw=>oE rx fx r fs w (by simpa using hw)),.tup ys,.lst ys,.lst xs,(λh' c' kp e=>fin XA r' hz h' c' kp e),(c5 X.K H p ys\/cJ X.K H p ys),(by rw[hk];exact⟨_,I',q⟩),Xz H p (.lst (xs.set j v)),(by rw[hj];simpa using ew),(by rw[Η]<;>omega),I.XF.fresh 3e0,fK xs lo hi]
variable{X:Cx}{a b:Expr}{ta tb:TE}{pos:Pos}
def Ek.or{r r':R2}(h:Ek X r)(h':Ek X r'):Ek X (λx y H Q=>r x y H Q\/r' x y H Q):=by
 intro value slice Xy s σ H x y v u Q I rx ry q hs;rcases q with q|q
 ·exact h value slice Xy s σ H x y v u Q I rx ry q hs
 ·exact h' value slice Xy s σ H x y v u Q I rx ry q hs
def QB{r:R2}(hr:Ek X r)(ha:PE X a ta)(hb:PE X b tb)(hs:FU b):PE X (.Subscript a b pos) (PU r ta tb):=by
 intro Xy s σ H Q I h;exact Subscript_ (Rb ha hb I h λv u s2 x y H2 I2 rx ry q=>hr a b Xy s2 σ H2 x y v u Q I2 rx ry q (hs _ _))
def VF(K:q0B):R2:=λx y H Q=>∃p xs i v,x=.ref p/\y=.int i/\c5 K H p xs/\iR xs i=some v/\Q v H
def Tq(K:q0B):R2:=λx y H Q=>∃p xs i v,x=.ref p/\y=.int i/\cJ K H p xs/\iR xs i=some v/\Q v H
def VG:R2:=λx y H Q=>∃z i c,x=.str z/\y=.int i/\z.length<=sizeLine/\iR z.cps.toList i=some c/\Q (.str ⟨#[c]⟩) H
theorem GV:Ek X (VF X.K):=by
 intro value slice Xy s σ H x y v u Q I rx ry h hs;obtain⟨p,xs,i,z,rfl,rfl,hq,he,q⟩:=h;cases rx;obtain⟨t,rfl⟩:=ry;obtain⟨XA,r,pl,hz⟩:=I.list hq;obtain⟨j,h1,h2,h3,h4,h5⟩:=vV he;obtain⟨w,ew,YH⟩:=r.get h2;have hl:=r.length;have hn:=line63;have fin:EP X Xy σ Q w s:=⟨z,H,I,YH,q⟩;by_cases h0:0<=i
 ·have hj:i.toNat=j:=by
   rw[seqIndex_of h0 h5] at h1;exact Ϛ h1
  exact item_listR pl.isList h0 1e0 2e1 fin hs
 ·have hj:(i+(XA.toArray.size:Int)).toNat=j:=by
   rw[seqIndex_neg 1e0 h4] at h1;rw[Η,<- hl];exact Ϛ h1
  exact subscriptTail_builtinR (x:=w) pl.isList.typeIs slot_list_getitem.lookup
   (wpAny_getItem_list_neg (Q:=λr s'=>r=w/\EP X Xy σ Q r s') pl.isList 1e0 3e1 1e0 2e1 ⟨rfl,fin⟩) hs
theorem LI:Ek X (Tq X.K):=by
 intro value slice Xy s σ H x y v u Q I rx ry h hs;obtain⟨p,xs,i,z,rfl,rfl,hq,he,q⟩:=h;cases rx;obtain⟨t,rfl⟩:=ry;obtain⟨XA,r,pl,hz⟩:=I.tuple hq;obtain⟨j,h1,h2,h3,h4,h5⟩:=vV he;obtain⟨w,ew,YH⟩:=r.get h2;have hl:=r.length;have hn:=line63;have fin:EP X Xy σ Q w s:=⟨z,H,I,YH,q⟩;exact subscriptTail_builtinR (x:=w) pl.typeIs slot_tuple_getitem.lookup
  (getItem_tuple (j:=j) (Q:=λr s'=>r=w/\EP X Xy σ Q r s') pl 1e0 1e0 (by rw[Η,<- hl];exact h1) (by simpa using ew) ⟨rfl,fin⟩) hs
theorem SW:Ek X VG:=by
 intro value slice Xy s σ H x y v u Q I rx ry h hs;obtain⟨z,i,c,rfl,rfl,hz,he,q⟩:=h;obtain⟨t,rfl⟩:=rx;obtain⟨t',rfl⟩:=ry;obtain⟨j,h1,h2,h3,h4,h5⟩:=vV he;have hl:z.cps.toList.length=z.length:=by simp[Str.length]
 rw[hl] at h1 h4 h5;have hn:=line63;exact tail_any (typeIs_str s z t) slot_str_getitem.lookup (getItem_str (c:=c) (by
  have e1:decide (i < -(2 ^ 63:Int))=false:=Γ2 1e0;have e2:decide (i >= 2 ^ 63)=false:=Γ2 1e0;rw[e1,e2,Bool.or_false]) (by rw[h1];simpa using h2) ⟨.str ⟨#[c]⟩,H,I.tok _,⟨_,rfl⟩,q⟩) hs
def Xu(K:q0B):R2:=λx y H Q=>VF K x y H Q\/Tq K x y H Q\/VG x y H Q
def SV:Ek X (Xu X.K):=GV.or (LI.or SW)
def EW(XA:List Value)(n j:Nat)(u:Value):Obj.mapSeq (·.setIfInBounds j u) {cls:=.type "list",data:=.seq XA.toArray n}={cls:=.type "list",data:=.seq (XA.set j u).toArray n}:=by
 simp[Obj.mapSeq]
def XC.lst{p:Addr}{xs:List V}(I:XC X Xy σ H s)(h:H p=some 7e0) : ∃(XA:List Value) (n:Nat),XD xs XA/\s.heap.get? p=some {cls:=.type "list",data:=.seq XA.toArray n}/\xs.length<=sizeLine:=by
 obtain⟨z,XA,n,r,e⟩:=I.XF p _ h;exact⟨XA,n,r,e,z⟩
def XC.S3{p:Addr}{xs ys:List V}{XA its':List Value}{n':Nat}{f:Obj->Obj}(I:XC X Xy σ H s)(h:H p=some 7e0)(ho:s.heap.get? p=some {cls:=.type "list",data:=.seq XA.toArray n})(hf:f {cls:=.type "list",data:=.seq XA.toArray n}={cls:=.type "list",data:=.seq its'.toArray n'})(r:XD ys its')(hz:ys.length<=sizeLine)(t:Nat) : XC X Xy σ (Xz H p 6e0) {s with heap:=s.heap.update p f,toks:=t}:=by
 have e:(s.heap.update p f).get? p=some {cls:=.type "list",data:=.seq its'.toArray n'}:=by
  rw[Α5 f ho (by rw[hf]<;>rfl),hf]
 refine I.write (x:=p) (e:=p) (by rw[h];trivial) (.inl rfl) (λb u hb q=>(Γ6 _ _ (Ε6 hb)).trans q) ⟨_,e⟩ ?_;exact⟨hz,its',n',r,e⟩
def VI:V->V->V->Hp->(Hp->Prop)->Prop:=λo i v H Q=>∃p xs k j,o=.ref p/\i=.int k/\H p=some 7e0/\yK xs.length k=some j/\Q 1e1
theorem MK:PSet X VI:=by
 intro Xy s σ H o i v ov iv u Q I ro ri rv h;obtain⟨p,xs,k,j,rfl,rfl,hp,hj,q⟩:=h;cases ro;obtain⟨t,rfl⟩:=ri;obtain⟨XA,n,r,ho,hz⟩:=I.lst hp;obtain⟨h1,h2,h3,h4⟩:=GU hj;have hl:=r.length;have hn:=line63;have I':XC X Xy σ 1e1 {s with heap:=s.heap.update p (Obj.mapSeq (·.setIfInBounds j u))} :=
  I.S3 hp ho (EW XA n j u) (r.set rv j) (by rw[List.length_set];exact hz) s.toks
 by_cases h0:0<=k
 ·have hk:k.toNat=j:=by
   rw[seqIndex_of h0 h4] at h1;exact Ϛ h1
  exact PySem.W.ki_setAt ho h0 1e0 (by rw[Η,<- hl];exact h4) 0e1
 ·have hk:(k+(XA.toArray.size:Int)).toNat=j:=by
   rw[seqIndex_neg 1e0 h3] at h1;rw[Η,<- hl];exact Ϛ h1
  exact PySem.W.ki_setBack ho 1e0 (by rw[Η,<- hl];exact h3) 1e0 0e1
theorem CB(lo hi:Option Int)(n:Nat):(sliceBounds lo hi none n).1=((HT.fG n 0 lo:Nat):Int)/\(sliceBounds lo hi none n).2.1=((HT.fG n n hi:Nat):Int)/\(sliceBounds lo hi none n).2.2=1:=by
 refine⟨?_,?_,rfl⟩
 ·cases lo with
  | none=>simp[sliceBounds,HT.fG]
  | some i =>
   simp only[sliceBounds,HT.fG,Option.getD_none,show(1:Int) > 0 by decide,if_true];by_cases h:i < 0
   ·simp only[h,if_true]<;>omega
   ·simp only[h,Η8]<;>omega
 ·cases hi with
  | none=>simp[sliceBounds,HT.fG]
  | some i =>
   simp only[sliceBounds,HT.fG,Option.getD_none,show(1:Int) > 0 by decide,if_true];by_cases h:i < 0
   ·simp only[h,if_true]<;>omega
   ·simp only[h,Η8]<;>omega
def Az(XA:List Value)(lo hi:Option Int):slicePick XA.toArray lo hi none=((XA.drop (HT.fG XA.length 0 lo)).take (HT.fG XA.length XA.length hi - HT.fG XA.length 0 lo)).toArray:=by
 obtain⟨h1,h2,h3⟩:=CB lo hi XA.toArray.size;unfold slicePick;rw[h1,h2,h3];simp only[sliceRange_one,pick_run,Η]<;>rfl
def Ts(K:q0B):V->Option Int->Option Int->Hp->VK->Prop:=λx lo hi H Q=>∃a xs,x=.ref a/\c5 K H a xs/\∀p,H p=none->Q (.ref p) (Xz H p (.lst 5e1))
theorem CA:Ny X (Ts X.K):=by
 intro Xy s σ H x v vl vu lo hi sl Q I rx hs pl pu h;obtain⟨a,xs,rfl,hx,q⟩:=h;cases rx;obtain⟨XA,r,ht,hz⟩:=I.list hx;have hlen:=r.length;refine⟨"list",_,slot_list_getitem.lookup,ht.isList.typeIs,?_⟩;refine wpAny_getItem_list_slice ht.isList hs pl pu .none (by simp) ?_ 3e1;rw[Az,<- hlen];refine⟨.ref s.heap.objs.size,_,I.laid (t':=s.toks) (o:=.lst 5e1) (λb ob q=>Γ _ q) 3e0 ?_,rfl,q _ 4e1⟩;exact⟨ϕ (nS xs lo hi) hz,_,0,(r.drop (HT.fG xs.length 0 lo)).take (HT.fG xs.length xs.length hi - HT.fG xs.length 0 lo),Ν _ rfl⟩
def eB:V->Bool
 | .XB=>true
 | .bl _=>true
 | .int _=>true
 | .str _=>true
 | _=>false
def rG:V->V->Bool
 | .XB,.XB=>true
 | .bl a,.bl b=>a==b
 | .bl a,.int b=>(if a then 1 else 0)==b
 | .int a,.bl b=>a==(if b then 1 else 0)
 | .int a,.int b=>a==b
 | .str a,.str b=>a==b
 | _,_=>false
def Lq{A:Around}{x:V}{v:Value}(ry:bC y u)(rx:bC x v)(fy:eB y=true)(fx:eB x=true):SeqAt.EqAt A s u v (rG y x):=by
 cases y with
 | XB =>
  cases ry;cases x with
  | XB=>cases rx;exact SeqAt.EqAt.same _
  | bl b=>cases rx;exact SeqAt.EqAt.none_bool b
  | int b=>obtain⟨t,rfl⟩:=rx;exact SeqAt.EqAt.none_int b t
  | str b=>obtain⟨t,rfl⟩:=rx;exact SeqAt.EqAt.none_str b t
  | _=>exact absurd (show false=true from fx) ϓ
 | bl a =>
  cases ry;cases x with
  | XB=>cases rx;exact SeqAt.EqAt.bool_none a
  | bl b=>cases rx;exact SeqAt.EqAt.bool_bool a b
  | int b=>obtain⟨t,rfl⟩:=rx;exact SeqAt.EqAt.bool_int a b t
  | str b=>obtain⟨t,rfl⟩:=rx;exact SeqAt.EqAt.bool_str a b t
  | _=>exact absurd (show false=true from fx) ϓ
 | int a =>
  obtain⟨t',rfl⟩:=ry;cases x with
  | XB=>cases rx;exact SeqAt.EqAt.int_none a t'
  | bl b=>cases rx;exact SeqAt.EqAt.int_bool a t' b
  | int b=>obtain⟨t,rfl⟩:=rx;exact SeqAt.EqAt.int_int a t' b t
  | str b=>obtain⟨t,rfl⟩:=rx;exact SeqAt.EqAt.int_str a t' b t
  | _=>exact absurd (show false=true from fx) ϓ
 | str a =>
  obtain⟨t',rfl⟩:=ry;cases x with
  | XB=>cases rx;exact SeqAt.EqAt.str_none a t'
  | bl b=>cases rx;exact SeqAt.EqAt.str_bool a t' b
  | int b=>obtain⟨t,rfl⟩:=rx;exact SeqAt.EqAt.str_int a t' b t
  | str b=>obtain⟨t,rfl⟩:=rx;exact SeqAt.EqAt.str_str a t' b t
  | _=>exact absurd (show false=true from fx) ϓ
 | _=>exact absurd (show false=true from fy) ϓ
def EJ(x:V)(u:Value):Bool:=match u with
 | .none=>rG .XB x
 | .bool b=>rG (.bl b) x
 | .int i _=>rG (.int i) x
 | .str z _=>rG (.str z) x
 | _=>false
def Lr{x:V}(r:bC y u)(f:eB y=true):EJ x u=rG y x:=by
 cases y with
 | XB=>cases r;rfl
 | bl b=>cases r;rfl
 | int i=>obtain⟨t,rfl⟩:=r;rfl
 | str z=>obtain⟨t,rfl⟩:=r;rfl
 | _=>exact absurd (show false=true from f) ϓ
theorem rO{x:V}:∀{xs:List V} {us:List Value},XD xs us->xs.all eB=true->us.any 0e0=xs.any λy=>rG y x
 | _,_,.nil,_=>rfl
 | y::xs,u::us,.cons r t,f=>by
  rw[List.all_cons,Β3] at f;rw[List.any_cons,List.any_cons,Lr r f.1,rO t f.2]
theorem oE{A:Around}{s:Shared}{x:V}{v:Value}(rx:bC x v)(fx:eB x=true):∀{xs:List V} {us:List Value},XD xs us->xs.all eB=true->∀u∈us,SeqAt.EqAt A s u v (EJ x u)
 | _,_,.nil,_=>λu hu=>by cases hu
 | y::xs,u::us,.cons r t,f=>λu' hu=>by
  rw[List.all_cons,Β3] at f;rcases Ε.mp hu with rfl|hu
  ·rw[Lr r f.1];exact Lq r rx f.1 fx
  ·exact oE rx fx t f.2 u' hu
def Ag(x:V)(xs:List V):Bool:=xs.any λy=>rG y x
def Xk(K:q0B)(neg:Bool):R2:=λx y H Q=>∃p xs,y=.ref p/\(c5 K H p xs\/cJ K H p xs)/\eB x=true/\xs.all eB=true/\Q (.bl (if neg then !Ag x xs else Ag x xs)) H
def Bl:i9 X (compareOp .In) (Xk X.K false):=by
 intro Xy s σ H x y v u Q I rx ry h;obtain⟨p,xs,rfl,hq,fx,fs,q⟩:=h;cases ry;rcases hq with hq|hq
 ·obtain⟨XA,r,pl,hz⟩:=I.list hq;refine SeqAt.in_listAt 0e0 pl.isList 4e0 ⟨.bl _,H,I,rfl,?_⟩;rw[show XA.toArray.any 0e0=XA.any 0e0 by simp,rO r fs];exact q
 ·obtain⟨XA,r,pl,hz⟩:=I.tuple hq;refine SeqAt.in_tupleAt 0e0 pl 4e0 ⟨.bl _,H,I,rfl,?_⟩;rw[show XA.toArray.any 0e0=XA.any 0e0 by simp,rO r fs];exact q
def Cn:i9 X (compareOp .NotIn) (Xk X.K true):=by
 intro Xy s σ H x y v u Q I rx ry h;obtain⟨p,xs,rfl,hq,fx,fs,q⟩:=h;cases ry;rcases hq with hq|hq
 ·obtain⟨XA,r,pl,hz⟩:=I.list hq;refine SeqAt.notIn_listAt 0e0 pl.isList 4e0 ⟨.bl _,H,I,rfl,?_⟩;rw[show XA.toArray.any 0e0=XA.any 0e0 by simp,rO r fs];exact q
 ·obtain⟨XA,r,pl,hz⟩:=I.tuple hq;refine SeqAt.notIn_tupleAt 0e0 pl 4e0 ⟨.bl _,H,I,rfl,?_⟩;rw[show XA.toArray.any 0e0=XA.any 0e0 by simp,rO r fs];exact q
theorem rS:eI X (.builtin "len") (λxs H Q=>∃p ys,xs=[.ref p]/\9e0/\Q (.int ys.length) H):=by
 intro Xy s σ H xs us Q I r h;obtain⟨p,ys,rfl,hq,q⟩:=h;obtain⟨u,rfl,rx⟩:=vals1 r;cases rx;have hn:=line63;rcases hq with hq|hq
 ·obtain⟨XA,r',pl,hz⟩:=I.list hq;have hlen:=r'.length;exact Calls.call_len_list pl.isList 2e0 ⟨.int ys.length,H,I.tok _,⟨s.toks+1,by rw[Η,hlen]⟩,q⟩
 ·obtain⟨XA,r',pl,hz⟩:=I.tuple hq;have hlen:=r'.length;exact len_tuple pl 2e0 ⟨.int ys.length,H,I.tok _,⟨s.toks+1,by rw[Η,hlen]⟩,q⟩
theorem BO:eI X (.type "list") (λxs H Q=>∃p ys,xs=[.ref p]/\9e0/\∀l,H l=none->Q (.ref l) (Xz H l 6e0)):=by
  intro Xy s σ H xs us Q I r h;obtain⟨p,ys,rfl,hq,q⟩:=h;obtain⟨u,rfl,rx⟩:=vals1 r;cases rx;have fin:∀(XA:List Value),XD ys XA->ys.length<=sizeLine->∀(h':Heap) (c':Nat),(∀b o',s.heap.get? b=some o'->h'.get? b=some o') ->
      h'.get? s.heap.objs.size=some {cls:=.type "list",dict:=none,data:=.seq XA.toArray c',slots:=#[]}->EP X Xy σ Q (.ref s.heap.objs.size) {s with heap:=h'}:=λXA r' hz h' c' kp e =>
    ⟨.ref s.heap.objs.size,_,I.laid (t':=s.toks) kp 3e0 (show c0 X.prog X.w _ h' _ 6e0 from ⟨hz,XA,c',r',e⟩),rfl,q _ 4e1⟩
  rcases hq with hq|hq
  · obtain⟨XA,r',pl,hz⟩:=I.list hq;have hlen:=r'.length;obtain⟨o,ho,hc,n,hd⟩:=pl.isList;exact call_list_seq p (.inl rfl) ho hc hd 8e0 2e0
  · obtain⟨XA,r',pl,hz⟩:=I.tuple hq;have hlen:=r'.length;obtain⟨o,ho,hc,n,hd⟩:=pl;exact call_list_seq p (.inr rfl) ho hc hd 8e0 2e0
theorem pZ:eI X (.type "tuple") (λxs H Q=>∃p ys,xs=[.ref p]/\((c5 X.K H p ys/\∀l,H l=none->Q (.ref l) (Xz H l 5e0))\/(cJ X.K H p ys/\Q (.ref p) H))):=by
 intro Xy s σ H xs us Q I r h;obtain⟨p,ys,rfl,h⟩:=h;obtain⟨u,rfl,rx⟩:=vals1 r;cases rx;rcases h with⟨hq,q⟩|⟨hq,q⟩
 ·obtain⟨XA,r',pl,hz⟩:=I.list hq;have hlen:=r'.length;refine call_tuple_list pl.isList (λh' kp=>?_) 2e0;have I1:XC X Xy σ H {s with heap:=h'}:=I.kept (t':=s.toks) kp;have I2:XC X Xy σ (Xz H h'.objs.size 5e0) {s with heap:=h'.push {cls:=.type "tuple",data:=.seq XA.toArray}} :=
   I1.laid (t':=s.toks) (λb o e=>Γ _ e) 3e0 (show c0 X.prog X.w _ _ _ 5e0 from ⟨hz,XA,r',IsTup.new _ _⟩)
  exact⟨.ref h'.objs.size,_,I2,rfl,q _ (I1.XF.fresh 3e0)⟩
 ·obtain⟨XA,r',pl,hz⟩:=I.tuple hq;exact call_tuple_same pl ⟨.ref p,H,I,rfl,q⟩
def Xv(K:q0B)(T:String)(x:V)(H:Hp):Prop:=match x with
  | .str _=>T = "str"
  | .int _=>T = "int"
  | .ref p=>(T = "list"/\∃xs,c5 K H p xs)\/(T = "tuple"/\∃o,K.lookup p=some o/\o.cls=.type "tuple"/\o.dict=none) \/
      (T = "dict"/\((∃kvs,H p=some (.dK kvs))\/∃kvs,H p=some (.dT kvs)))\/(T = "set"/\∃S n,H p=some (.set S n))
  | _=>False
def FI{T:String}{x:V}{v:Value}(I:XC X Xy σ H s)(r:bC x v)(ty:Xv X.K T x H) : s.TypeIs v T/\∀a,v=.ref a->∃ob,s.heap.get? a=some ob/\ob.dict=none:=by
 cases x with
 | str z =>
  obtain⟨t,rfl⟩:=r;cases (show T = "str" from ty);exact⟨typeIs_str s z t,λ_ e=>nomatch e⟩
 | int i =>
  obtain⟨t,rfl⟩:=r;cases (show T = "int" from ty);exact⟨typeIs_int s i t,λ_ e=>nomatch e⟩
 | ref p =>
  cases r;rcases ty with⟨rfl,xs,hq⟩|⟨rfl,o,hk,hc,hd⟩|⟨rfl,hk⟩|⟨rfl,S,n,hk⟩
  ·obtain⟨XA,_,pl,_⟩:=I.list hq;refine⟨pl.isList.typeIs,λa e=>?_⟩;cases e;obtain⟨o,n,e,c,hd,_⟩:=pl;exact⟨o,e,hd⟩
  ·refine⟨⟨o,I.kIn p o hk,hc⟩,λa e=>?_⟩;cases e;exact⟨o,I.kIn _ o hk,hd⟩
  ·have z:∃o,s.heap.get? p=some o/\o.ExactDict:=by
    rcases hk with⟨kvs,hk⟩|⟨kvs,hk⟩
    ·obtain⟨_,_,_,_,o,_,_,e,ex,_⟩:=I.XF p _ hk;exact⟨o,e,ex⟩
    ·obtain⟨_,_,_,_,o,_,_,e,ex,_⟩:=I.XF p _ hk;exact⟨o,e,ex⟩
   obtain⟨o,e,ex⟩:=z;refine⟨⟨o,e,ex.1⟩,λa e2=>?_⟩;cases e2;exact⟨o,e,ex.2.1⟩
  ·obtain⟨o,_,_,_,e,ex,_⟩:=I.XF p _ hk;refine⟨⟨o,e,ex.1⟩,λa e2=>?_⟩;cases e2;exact⟨o,e,ex.2.1⟩
 | _=>exact False.elim ty
variable{o e:Expr}{es:List Expr}{to:TE}{t:TA}{name:Str}{apos XG:Pos}{T id:String}{r:V->List V->Hp->VK->Prop}
end
end
mutual
example:=[]
def Q6(X:Cx)(id:String)(r:V->List V->Hp->VK->Prop):Prop :=
 ∀(Xy:List (Addr×Obj)) (s:Shared) (σ:St) (H:Hp) (x:V) (xs:List V) (v:Value) (us:List Value) (Q:VK),XC X Xy σ H s->bC x v->XD xs us->r x xs H Q ->
  wpAny (model X.prog X.w) X.A (call (.builtin id) (v::us)) (EP X Xy σ Q) X.xe s
def XD.one{x:V}{us:List Value}(h:XD [x] us):∃u,us=[u]/\bC x u:=by
 cases h with
 | cons r t=>cases t;exact⟨_,rfl,r⟩
theorem XD.zero:∀{us:List Value},XD [] us->us=[]
 | _,.nil=>rfl
def XD.dropLast{xs:List V}(h:XD xs us):XD xs.dropLast us.dropLast:=by
 induction h with
 | nil=>exact .nil
 | cons r t ih =>
  cases t with
  | nil=>exact .nil
  | cons q t'=>exact .cons r ih
theorem XD.eraseIdx:∀{xs:List V} {us:List Value} (i:Nat),XD xs us->XD (xs.eraseIdx i) (us.eraseIdx i)
 | _,_,_,.nil=>.nil
 | _,_,0,.cons _ t=>t
 | _,_,i+1,.cons r t=>.cons r (XD.eraseIdx i t)
def XD.reverse{xs:List V}(h:XD xs us):XD xs.reverse us.reverse:=by
 induction h with
 | nil=>exact .nil
 | cons r t ih=>rw[List.reverse_cons,List.reverse_cons];exact XD.append ih (.cons r .nil)
theorem EK{α:Type}(l:List α):l.eraseIdx (l.length - 1)=l.dropLast:=by
 induction l with
 | nil=>rfl
 | cons a r ih =>
  cases r with
  | nil=>rfl
  | cons b r =>
   have e:(a::b::r).length - 1=((b::r).length - 1)+1:=by
    have h1:(a::b::r).length=r.length+2:=rfl;have h2:(b::r).length=r.length+1:=rfl;omega
   rw[e,List.eraseIdx_cons_succ,ih]
   all_goals rfl
theorem A7{α:Type}:∀(l:List α) (i:Nat),(l.eraseIdx i).length<=l.length
 | [],_=>Ζ _
 | _::_,0=>Δ3 _
 | _::r,i+1=>Nat.succ_le_succ (A7 r i)
end
section
mutual
example:=[Obj.mapSeq f]
variable{X:Cx}{l b:Addr}{xs ys zs:List V}
def XC.Au{XA its':List Value}{f:Array Value->Array Value}(I:XC X Xy σ H s)(hH:H l=some (.lst xs))(e:s.heap.get? l=some {cls:=.type "list",data:=.seq XA.toArray n})(hf:f XA.toArray=its'.toArray)(hv:XD ys its')(hz:ys.length<=sizeLine) : XC X Xy σ (Xz H l (.lst ys)) {s with heap:=s.heap.update l 0e0,toks:=t'}:=by
 have q:=PySem.IsL.update e f;rw[hf] at q;refine I.write (x:=l) (e:=l) (by rw[hH];exact trivial) (.inl rfl) (λb' u hb hu=>(Γ6 s.heap 0e0 (Ε6 hb)).trans hu) ⟨_,q⟩ ?_;exact⟨hz,its',_,hv,q⟩
def XC.O4{XA:List Value}(I:XC X Xy σ H s)(hv:XD ys XA)(hz:ys.length<=sizeLine) : XC X Xy σ (Xz H s.heap.objs.size (.lst ys)) {s with heap:=s.heap.push {cls:=.type "list",data:=.seq XA.toArray},toks:=t'} :=
 I.laid (λ_ _ q=>Γ _ q) (Ζ _) ⟨hz,XA,0,hv,Ν _ rfl⟩
def XC.fresh(I:XC X Xy σ H s):H s.heap.objs.size=none:=I.XF.fresh (Ζ _)
def XC.Ds(I:XC X Xy σ H s)(hH:H l=some (.lst xs)):xs.length<=sizeLine/\∃(XA:List Value) (n:Nat),XD xs XA/\xs.length=XA.length/\s.heap.get? l=some {cls:=.type "list",data:=.seq XA.toArray n}:=by
 obtain⟨z,XA,n,r,e⟩:=I.XF l _ hH;exact⟨z,XA,n,r,r.length,e⟩
theorem Ma(h:n<=sizeLine):Builtin.List.listTooLong n=false:=by
 unfold Builtin.List.listTooLong;exact Γ2 (by omega)
end
end
section
mutual
example:=[.lst xs,(by rw[Η];omega),.lst (xs++zs),r.append r2]
variable{X:Cx}
def PB:V->List V->Hp->VK->Prop:=λx vs H Q=>∃l xs y,x=.ref l/\vs=[y]/\H l=some 0e0/\xs.length < sizeLine/\Q .XB (Xz H l (.lst (xs++[y])))
theorem IZ:Q6 X "list.append" PB:=by
 intro Xy s σ H x vs v us Q I rx rv h;obtain⟨l,xs,y,rfl,rfl,hH,hz,q⟩:=h;cases rx;obtain⟨u,rfl,ru⟩:=rv.one;obtain⟨z,XA,n,r,hl,e⟩:=I.Ds hH;refine call_meets F.slot_list_append ⟨_,e,rfl⟩ F.entry_list_append (F.args_list_append_2 _ _) (PySem.list_append l XA.toArray n u 1e0) ⟨e,?_⟩;refine⟨.XB,_,I.Au (its':=XA++[u]) hH e (by simp) (r.append (.cons ru .nil)) ?_,rfl,q⟩;rw[Ι,Α1];omega
def PH:V->List V->Hp->VK->Prop:=λx vs H Q=>∃l b xs zs,x=.ref l/\vs=[.ref b]/\H l=some 0e0/\H b=some (.lst zs)/\xs.length+zs.length<=sizeLine/\Q .XB (Xz H l 2e0)
theorem I8:Q6 X "list.extend" PH:=by
 intro Xy s σ H x vs v us Q I rx rv h;obtain⟨l,b,xs,zs,rfl,rfl,hH,hB,hz,q⟩:=h;cases rx;obtain⟨u,rfl,ru⟩:=rv.one;cases ru;obtain⟨z,XA,n,r,hl,e⟩:=I.Ds hH;obtain⟨z2,YG,n2,r2,hl2,e2⟩:=I.Ds hB;have hsz:XA.toArray.size+YG.toArray.size<=sizeLine:=by rw[Η,Η];omega
 have abU:¬ (!XA.toArray.isEmpty&&Builtin.List.listTooLong (XA.toArray.size+YG.toArray.size))=true:=by
  rw[Ma hsz,Bool.and_false];exact ϓ
 refine call_meets F.slot_list_extend ⟨_,e,rfl⟩ F.entry_list_extend (F.args_list_extend_2 _ _)
  (AutoSeq1.list_extend_list_list_0 l XA.toArray n b YG.toArray n2 abU 1e0 (by omega)) ⟨e,e2,?_⟩
 refine⟨.XB,_,I.Au (its':=XA++YG) hH e (by simp) 3e0 ?_,rfl,q⟩;rw[Ι];omega
def Xb:V->List V->Hp->VK->Prop:=λx vs H Q=>∃l xs y,x=.ref l/\vs=[]/\H l=some 0e0/\xs[xs.length - 1]?=some y/\Q y (Xz H l (.lst xs.dropLast))
theorem S5:Q6 X "list.pop" Xb:=by
 intro Xy s σ H x vs v us Q I rx rv h;obtain⟨l,xs,y,rfl,rfl,hH,hy,q⟩:=h;cases rx;have hus:=rv.zero;subst hus;obtain⟨z,XA,n,r,hl,e⟩:=I.Ds hH;obtain⟨u,hu,ru⟩:=r.get hy;have hy':XA.toArray[XA.toArray.size - 1]?=some u:=by
  show XA.toArray[XA.length - 1]?=some u;rw[<- Ε7,<- hl];exact hu
 refine call_meets F.slot_list_pop ⟨_,e,rfl⟩ F.entry_list_pop (F.args_list_pop_1 _) (MeetsSeq.list_pop_last l XA.toArray n u hy' 1e0) ⟨e,?_⟩;refine⟨y,_,I.Au (its':=XA.dropLast) hH e ?_ r.dropLast ?_,ru,q⟩
 ·show XA.toArray.eraseIdxIfInBounds (XA.toArray.size - 1)=XA.dropLast.toArray;rw[Η,List.eraseIdxIfInBounds_toArray,EK]
 ·rw[List.length_dropLast];omega
def Tr:V->List V->Hp->VK->Prop:=λx vs H Q=>∃l xs i k y,x=.ref l/\vs=[.int i]/\H l=some 0e0/\-(2 ^ 63)<=i/\i < 2 ^ 63/\seqIndex? i xs.length=some k/\xs[k]?=some y/\Q y (Xz H l (.lst (xs.eraseIdx k)))
theorem LZ:Q6 X "list.pop" Tr:=by
 intro Xy s σ H x vs v us Q I rx rv h;obtain⟨l,xs,i,k,y,rfl,rfl,hH,h1,h2,hk,hy,q⟩:=h;cases rx;obtain⟨u,rfl,ru⟩:=rv.one;obtain⟨t,rfl⟩:=ru;obtain⟨z,XA,n,r,hl,e⟩:=I.Ds hH;obtain⟨w,hw,YH⟩:=r.get hy;refine call_meets F.slot_list_pop ⟨_,e,rfl⟩ F.entry_list_pop (F.args_list_pop_2 _ _)
  (MeetsSeq.list_pop_at l XA.toArray n i t k w (fitsIndex_both h1 h2) (by rw[Η,<- hl];exact hk) (by rw[<- Ε7];exact hw) 1e0) ⟨e,?_⟩
 refine⟨y,_,I.Au (its':=XA.eraseIdx k) hH e ?_ (r.eraseIdx k) ?_,YH,q⟩
 ·show XA.toArray.eraseIdxIfInBounds k=(XA.eraseIdx k).toArray;rw[List.eraseIdxIfInBounds_toArray]
 ·have:=A7 xs k;omega
def Xa:R2:=λx y H Q=>∃l b xs zs,x=.ref l/\y=.ref b/\H l=some 0e0/\H b=some (.lst zs)/\xs.length+zs.length<=sizeLine/\∀p,H p=none->Q (.ref p) (Xz H p 2e0)
theorem Td:i9 X (binaryOp .Add) Xa:=by
 intro Xy s σ H x y v u Q I rx ry h;obtain⟨l,b,xs,zs,rfl,rfl,hH,hB,hz,q⟩:=h;cases rx;cases ry;obtain⟨z,XA,n,r,hl,e⟩:=I.Ds hH;obtain⟨z2,YG,n2,r2,hl2,e2⟩:=I.Ds hB;refine PySem.P.add_list e e2 ?_ (by rw[Η,Η];omega);have ea:XA.toArray++YG.toArray=(XA++YG).toArray:=by simp
 rw[ea];exact⟨.ref _,_,I.O4 (t':=s.toks) 3e0 (by rw[Ι];omega),rfl,q _ I.fresh⟩
end
end
section
mutual
example:=[κ×V,κ×Value,(kvs.any λkv=>decide (kv.1=k)),kv.1=k,h1.trans z,(kvs.map λkv=>if kv.1=k then (kv.1,y) else kv),dS kvs k y,e.trans z]
variable{κ:Type}[DecidableEq κ]
def bY(kvs:List 0e0)(k:κ):Option V:=(kvs.find? λkv=>decide 3e0).map (·.2)
def dS(kvs:List 0e0)(k:κ)(v:V):List 0e0 :=
 if 2e0=true then kvs.map (λkv=>if kv.1=k then (kv.1,v) else kv) else kvs++[(k,v)]
def uW(kvs:List 0e0)(k:κ):List 0e0:=kvs.filter λkv=>decide (kv.1≠k)
def Eh{k:κ}:bY ([]:List 0e0) k=none:=rfl
def cP{p:κ×V}{r:List 0e0}{k:κ}(e:p.1=k):bY (p::r) k=some p.2:=by simp[bY,List.find?_cons,e]
def bZ{p:κ×V}{r:List 0e0}{k:κ}(e:¬ p.1=k):bY (p::r) k=bY r k:=by simp[bY,List.find?_cons,e]
theorem oY(k:κ):∀kvs:List 0e0,2e0=(bY kvs k).isSome
 | []=>rfl
 | p::r=>by
  rw[List.any_cons];by_cases e:p.1=k
  ·simp only[cP e,Ε1 e,Bool.true_or,Option.isSome_some]
  ·rw[bZ e,Γ2 e,Bool.false_or];exact oY k r
theorem Eg(k j:κ)(y:V):∀kvs:List 0e0,bY 5e0 j=(bY kvs j).map λx=>if j=k then y else x
 | []=>rfl
 | p::r=>by
  have ih:=Eg k j y r;rw[ϔ];by_cases h:p.1=k
  ·rw[if_pos h];by_cases e:p.1=j
   ·rw[cP (p:=(p.1,y)) e,cP e,Option.map_some,if_pos (e.symm.trans h)]
   ·rw[bZ (p:=(p.1,y)) e,bZ e,ih]
  ·rw[if_neg h];by_cases e:p.1=j
   ·rw[cP (p:=p) e,cP e,Option.map_some,if_neg (λz=>h 7e0)]
   ·rw[bZ (p:=p) e,bZ e,ih]
theorem BE(k j:κ)(y:V):∀kvs:List 0e0,bY kvs k=none->bY (kvs++[(k,y)]) j=if j=k then some y else bY kvs j
 | [],_=>by
  by_cases e:k=j
  ·rw[if_pos e.symm];exact cP (p:=(k,y)) e
  ·rw[if_neg (λz=>e z.symm)];exact bZ (p:=(k,y)) e
 | p::r,hn=>by
  rw[Χ];have hk:¬ p.1=k:=λz=>by rw[cP z] at hn;cases hn
  rw[bZ hk] at hn;have ih:=BE k j y r hn;by_cases e:p.1=j
  ·rw[cP e,cP e,if_neg (λz=>hk 7e0)]
  ·rw[bZ e,bZ e,ih]
theorem Ab(kvs:List 0e0)(k j:κ)(y:V):bY 6e0 j=if j=k then some y else bY kvs j:=by
 unfold dS;by_cases a:2e0=true
 ·rw[if_pos a,Eg];rw[oY] at a;by_cases e:j=k
  ·obtain⟨x,hx⟩:=Θ8.mp a;rw[if_pos e,e,hx,Option.map_some,if_pos rfl]
  ·rw[if_neg e];cases bY kvs j with
   | none=>rfl
   | some x=>rw[Option.map_some,if_neg e]
 ·rw[if_neg a];refine BE k j y kvs ?_;rw[oY] at a;cases q:bY kvs k with
  | none=>rfl
  | some x=>rw[q] at a;exact(a rfl).elim
theorem kS(kvs:List 0e0)(k:κ)(v:V):(dS kvs k v).length<=kvs.length+1:=by
 unfold dS;split
 ·rw[Δ];omega
 ·rw[Ι,Κ,Α8];omega
theorem zC{kvs:List 0e0}{k:κ}(v:V)(h:bY kvs k=none):dS kvs k v=kvs++[(k,v)]:=by
 unfold dS;rw[oY,h];exact if_neg (by decide)
def mC.tW{u:Option Value}(r:mC o u):o.isSome=u.isSome:=by
 cases o with
 | none=>cases u with
  | none=>rfl
  | some _=>exact(show False from r).elim
 | some _=>cases u with
  | none=>exact(show False from r).elim
  | some _=>rfl
def mC.getD{u:Option Value}{d:V}{d':Value}(r:mC o u)(rd:bC d d'):bC (o.getD d) (u.getD d'):=by
 cases o with
 | none=>cases u with
  | none=>exact rd
  | some _=>exact(show False from r).elim
 | some _=>cases u with
  | none=>exact(show False from r).elim
  | some _=>exact r
def KV.val{kvs:List 0e0}{vs:List 1e0}(r:KV kvs vs)(k:κ):mC (bY kvs k) (valueAt vs k):=by
 unfold KV at r
 induction r with
 | nil=>exact True.intro
 | @cons p q ps qs h t ih =>
  obtain⟨h1,h2⟩:=h;by_cases e:p.1=k
  ·have e':q.1=k:=h1.symm.trans e;have b:valueAt (q::qs) k=some q.2:=by simp[valueAt,List.find?_cons,e']
   rw[cP e,b];exact h2
  ·have e':¬ q.1=k:=λz=>e 4e0;have b:valueAt (q::qs) k=valueAt qs k:=by simp[valueAt,List.find?_cons,e']
   rw[bZ e,b];exact ih
theorem KV.any{kvs:List 0e0}{vs:List 1e0}(r:KV kvs vs)(k:κ):2e0=vs.any λkv=>decide 3e0:=by
 unfold KV at r
 induction r with
 | nil=>rfl
 | cons h t ih=>rw[List.any_cons,List.any_cons,ih,h.1]
def KV.Tt{kvs:List 0e0}{vs:List 1e0}(r:KV kvs vs)(k:κ)(ry:bC y u) : KV 5e0 (vs.map λkv=>if kv.1=k then (kv.1,u) else kv):=by
 unfold KV at r ⊢
 induction r with
 | nil=>exact .nil
 | @cons p q ps qs h t ih =>
  rw[ϔ,ϔ];refine .cons ?_ ih;obtain⟨h1,h2⟩:=h;by_cases e:p.1=k
  ·rw[if_pos e,if_pos (h1.symm.trans e)];exact⟨h1,ry⟩
  ·rw[if_neg e,if_neg (λz=>e 4e0)];exact⟨h1,h2⟩
theorem KV.put{kvs:List 0e0}{vs:List 1e0}(r:KV kvs vs)(k:κ)(ry:bC y u):KV 6e0 (stored vs k u):=by
 unfold dS stored;rw[r.any k];by_cases e:(vs.any λkv=>decide 3e0)=true
 ·rw[if_pos e,if_pos e];exact r.Tt k ry
 ·rw[if_neg e,if_neg e];exact Paired.snoc r ⟨rfl,ry⟩
theorem KV.drop{kvs:List 0e0}{vs:List 1e0}(r:KV kvs vs)(k:κ):KV (uW kvs k) (without vs k):=by
 unfold KV at r ⊢;unfold uW without
 induction r with
 | nil=>exact .nil
 | @cons p q ps qs h t ih =>
  obtain⟨h1,h2⟩:=h;rw[List.filter_cons,List.filter_cons];by_cases e:p.1=k
  ·have a:¬ decide (p.1≠k)=true:=by simp[e]
   have b:¬ decide (q.1≠k)=true:=by simp[h1.symm.trans e]
   rw[if_neg a,if_neg b];exact ih
  ·have e':¬ q.1=k:=λz=>e 4e0;have a:decide (p.1≠k)=true:=by simp[e]
   have b:decide (q.1≠k)=true:=by simp[e']
   rw[if_pos a,if_pos b];exact .cons ⟨h1,h2⟩ ih
def KV.length{kvs:List 0e0}{vs:List 1e0}(r:KV kvs vs):kvs.length=vs.length:=Paired.length r
def KU(kvs:List 0e0)(k:κ):(uW kvs k).length<=kvs.length:=List.length_filter_le _ _
end
end
mutual
example:=[h1.trans z]
def sH{k:Key}(r:bC (kV k) u):(aR P w).is k u=true:=by
 cases k with
 | inl i=>obtain⟨t,e⟩:=(show ∃t,u=Value.int i t from r);subst e;exact Dt P w i t
 | inr x=>obtain⟨t,e⟩:=(show ∃t,u=Value.str x t from r);subst e;exact Du P w x t
 | no=>cases (show u=Value.none from r);rfl
theorem AW{P:Program}{w:World}:∀{ks:List Key} {us:List Value},XD (ks.map kV) us->ItemsAre (aR P w) ks us
 | [],_,r=>by rw[Ζ4] at r;cases r;exact .nil
 | k::ks,_,r=>by
  rw[ϔ] at r;cases r with
  | cons h t=>exact .cons (sH h) (AW t)
abbrev KT(H:Hp):List (List Key×V)->List (List Key×Addr×Value)->Prop:=Paired λp q=>p.1=q.1/\H q.2.1=some (.tup (p.1.map kV))/\bC p.2 q.2.2
def KT.val(r:KT H kvs xs)(k:List Key):mC (bY kvs k) ((atKey xs k).map (·.2)):=by
 induction r with
 | nil=>exact True.intro
 | @cons p q ps qs h t ih =>
  obtain⟨h1,_,h2⟩:=h;by_cases e:p.1=k
  ·have e':q.1=k:=h1.symm.trans e;have b:atKey (q::qs) k=some q.2:=by simp[atKey,List.find?_cons,e']
   rw[cP e,b];exact h2
  ·have e':¬ q.1=k:=λz=>e 0e0;have b:atKey (q::qs) k=atKey qs k:=by simp[atKey,List.find?_cons,e']
   rw[bZ e,b];exact ih
def KT.Tt(r:KT H kvs xs)(k:List Key)(ry:bC y u) : KT H (kvs.map λkv=>if kv.1=k then (kv.1,y) else kv) (xs.map (putAt k u)):=by
 induction r with
 | nil=>exact .nil
 | @cons p q ps qs h t ih =>
  rw[ϔ,ϔ];refine .cons ?_ ih;obtain⟨h1,h2,h3⟩:=h;unfold putAt;by_cases e:p.1=k
  ·rw[if_pos e,if_pos (h1.symm.trans e)];exact⟨h1,h2,ry⟩
  ·rw[if_neg e,if_neg (λz=>e 0e0)];exact⟨h1,h2,h3⟩
theorem KT.put(r:KT H kvs xs)(k:List Key){b:Addr}(hb:H b=some (.tup (k.map kV)))(ry:bC y u) : KT H (dS kvs k y) (storedH xs k b u):=by
 have e:(kvs.any λkv=>decide (kv.1=k))=(atKey xs k).isSome:=by
  rw[oY,(r.val k).tW,Option.isSome_map]
 unfold dS storedH;rw[e];by_cases q:(atKey xs k).isSome=true
 ·rw[if_pos q,if_pos q];exact r.Tt k ry
 ·rw[if_neg q,if_neg q];exact Paired.snoc r ⟨rfl,hb,ry⟩
def KT.keeps{H':Hp}(r:KT H kvs xs)(ht:∀b ys,H b=some (.tup ys)->H' b=some (.tup ys)):KT H' kvs xs :=
 Paired.S4 r λ_ _ z=>⟨z.1,ht _ _ z.2.1,z.2.2⟩
end
section
mutual
example:=[aR P w,a==sysModules,.dT kvs,.dK kvs,.tup (ks.map kV)]
variable{h:Heap}
def QC{u:HO}(ok:HOk P w H h)(e:Rd H a u):c0 P w H h a u:=e.ok ok
def xP{kvs:List (Key×V)}(ok:HOk P w H h)(e:Rd H a 3e0):kvs.length<=sizeLine/\1e0=false/\∃vs,KV kvs vs/\h.DictOf 0e0 a vs :=
 show c0 P w H h a 3e0 from QC ok e
def rX{kvs:List (Key×V)}(ok:HOk P w H h)(e:H a=some 3e0):kvs.length<=sizeLine/\1e0=false/\∃vs,KV kvs vs/\h.DictOf 0e0 a vs:=xP ok (.inl e)
def tX{ks:List Key}(ok:HOk P w H h)(e:H a=some 4e0):(tupleKind 0e0).is h ks a:=by
 obtain⟨_,XA,r,o,h1,h2,n,h3⟩:=(show c0 P w H h a 4e0 from ok a _ e);exact⟨o,XA.toArray,n,h1,h2,h3,by simpa using AW r⟩
def xQ(ok:HOk P w H h)(e:Rd H a 2e0):kvs.length<=sizeLine/\1e0=false /\ ∃xs,KT H kvs xs/\h.DictOfH (tupleKind 0e0) a xs:=by
 obtain⟨z,y,xs,r,o,es,ep,h1,h2,h3,h4,h5⟩:=(show c0 P w H h a 2e0 from QC ok e);refine⟨z,y,xs,r,o,es,ep,h1,h2,h3,h4,λx hx=>?_,h5⟩;have all:∀{l:List (List Key×V)} {m:List (List Key×Addr×Value)},KT H l m->∀x∈m,(tupleKind 0e0).is h x.1 x.2.1:=by
  intro l m q
  induction q with
  | nil=>intro x hx;exact nomatch hx
  | @cons p q ps qs hq t ih =>
   intro x hx;rcases Ε.mp hx with e|hx
   ·subst e;exact tX ok (by rw[<- hq.1];exact hq.2.1)
   ·exact ih x hx
 exact all r x hx
def Ux(ok:HOk P w H h)(e:H a=some 2e0):kvs.length<=sizeLine/\1e0=false /\ ∃xs,KT H kvs xs/\h.DictOfH (tupleKind 0e0) a xs:=xQ ok (.inl e)
end
end
mutual
example:=[.dK kvs,dS kvs k v,.tup (k.map kV)]
def DGet(H:Hp)(a:Addr)(y:V)(r:Option V):Prop :=
 (∃kvs k,Rd H a 0e0/\y=kV k/\r=bY kvs k)\/∃kvs k b,Rd H a (.dT kvs)/\y=.ref b/\H b=some 2e0/\r=bY kvs k
def DPut(H:Hp)(a:Addr)(y v:V)(H':Hp):Prop :=
 (∃kvs k,H a=some 0e0/\y=kV k/\kvs.length < sizeLine/\H'=Xz H a (.dK 1e0)) \/
 ∃kvs k b,H a=some (.dT kvs)/\y=.ref b/\H b=some 2e0/\kvs.length < sizeLine/\H'=Xz H a (.dT 1e0)
def DGet.k{kvs:List (Key×V)}{k:Key}(e:H a=some 0e0):DGet H a (kV k) (bY kvs k):=.inl ⟨kvs,k,.inl e,rfl,rfl⟩
def DPut.k{kvs:List (Key×V)}{k:Key}{v:V}(e:H a=some 0e0)(hl:kvs.length < sizeLine):DPut H a (kV k) v (Xz H a (.dK 1e0)):=.inl ⟨kvs,k,e,rfl,hl,rfl⟩
end
section
mutual
example:=[I.tok _,tupleKind_room_in1 hu,model X.prog X.w,tX I.XF eb,.ref a,(by rw[e];exact True.intro),(by rw[l];exact rel.val k),Xz H a ob]
variable{X:Cx}{v:V}{r:Value}{A:Around}{E:q0A}
theorem XC.big(I:XC X Xy σ H s):sysModules < s.heap.objs.size:=by
 have h:mainGlobals < s.heap.objs.size:=(I.mod.glob.keeps I.bk).lt;exact Ι4 (by decide) h
def IC(hu:A.units+1 < cLine)(I:XC X Xy σ H s)(g:DGet H a y (some v))(ry:bC y u)(h:∀w' s',XC X Xy σ H s'->bC v w'->Q w' s') : wpAny 2e0 A (getItem 4e0 u) Q E s:=by
 rcases g with⟨kvs,k,e,ey,l⟩|⟨kvs,k,b,e,ey,eb,l⟩
 ·subst ey;obtain⟨z,hd,vs,rel,dd⟩:=xP I.XF e;obtain⟨w',hw,YH⟩:=mC.some_of (v:=v) (o:=valueAt vs k) 6e0;exact wpAny_getItem_of (sH ry) dd.mapOf hw (h w' _ 0e0 YH)
 ·subst ey;cases (show u=Value.ref b from ry);obtain⟨z,hd,xs,rel,dd⟩:=xQ I.XF e;obtain⟨w',hw,YH⟩:=mC.some_of (v:=v) (o:=(atKey xs k).map (·.2)) 6e0;obtain⟨p,hp,hp2⟩:=ϑ.mp hw;refine wpAny_getItem_heap 1e0 3e0 dd hp ?_;rw[hp2];exact h w' _ 0e0 YH
def WC(hu:A.units+1 < cLine)(I:XC X Xy σ H s)(g:DGet H a y o)(ry:bC y u)(h:∀s',XC X Xy σ H s'->Q (.bool o.isSome) s') : wpAny 2e0 A (compareOp .In u 4e0) Q E s:=by
 rcases g with⟨kvs,k,e,ey,l⟩|⟨kvs,k,b,e,ey,eb,l⟩
 ·subst ey;obtain⟨z,hd,vs,rel,dd⟩:=xP I.XF e;refine wpAny_in_of (sH ry) hd dd.mapOf ?_;rw[<- (rel.val k).tW,<- l];exact h _ 0e0
 ·subst ey;cases (show u=Value.ref b from ry);obtain⟨z,hd,xs,rel,dd⟩:=xQ I.XF e;refine wpAny_in_heap 1e0 3e0 hd dd ?_;have q:=(rel.val k).tW;rw[Option.isSome_map] at q;rw[<- q,<- l];exact h _ 0e0
def pD{h':Heap}{ob:HO}(I:XC X Xy σ H s)(mu:Mut (H a))(hs:Heap.SameBut a s.heap h')(he:∃q,h'.get? a=some q)(new:c0 X.prog X.w 7e0 h' a ob) : XC X Xy σ 7e0 {s with heap:=h',toks:=t'} :=
 I.write (x:=a) (e:=a) mu (.inl rfl) (λb q hb z=>(hs.2 b hb).trans z) he new
def qM{H':Hp}{h':Heap}{kvs:List (Key×V)}{vs:List (Key×Value)}(z:kvs.length<=sizeLine)(hd:(a==sysModules)=false)(rel:KV kvs vs)(dd:h'.DictOf (aR P w) a vs) : c0 P w H' h' a (.dK kvs):=⟨z,hd,vs,rel,dd⟩
theorem ID{H':Hp}{Q:Unit->Shared->Prop}(hu:A.units+1 < cLine)(I:XC X Xy σ H s)(g:DPut H a y v H')(ry:bC y u)(rv:bC v r)(h:∀s',XC X Xy σ H' s'->Q () s') : wpAny 2e0 A (setItem 4e0 u r) Q E s:=by
 rcases g with⟨kvs,k,e,ey,l,eH⟩|⟨kvs,k,b,e,ey,eb,l,eH⟩
 ·subst ey eH;obtain⟨z,hd,vs,rel,dd⟩:=rX I.XF e;have hz:vs.length<=sizeLine:=by rw[<- rel.length];exact z
  have hl:(dS kvs k v).length<=sizeLine:=by have:=kS kvs k v;omega
  refine wpAny_setItem_pairs (hsz:=hz) (sH ry) dd λh' YW hs=>h _ ?_;have he:∃q,h'.get? a=some q:=let ⟨q,_,_,hq,_⟩:=YW;⟨q,hq⟩;exact pD I 5e0 hs he (qM hl hd (rel.put k rv) YW)
 ·subst ey eH;cases (show u=Value.ref b from ry);obtain⟨z,hd,xs,rel,dd⟩:=Ux I.XF e;have hz:xs.length<=sizeLine:=by rw[<- Paired.length rel];exact z
  have hl:(dS kvs k v).length<=sizeLine:=by have:=kS kvs k v;omega
  refine wpAny_setItem_heap (hsz:=hz) 1e0 3e0 dd λh' YW hs=>h _ ?_;obtain⟨q,es,ep,hq,h2,h3,h4,_,h5⟩:=YW;refine pD I 5e0 hs ⟨q,hq⟩ ⟨hl,hd,_,(rel.put k eb rv).keeps λc ys ec=>?_,q,es,ep,hq,h2,h3,h4,h5⟩;rw[aC (bU ec e (λz=>nomatch z))];exact ec
end
end
section
variable{X:Cx}{kvs:List (Key×V)}{k:Key}{A:Around}{E:q0A}
def Ut{v:V}{more:List Value}(I:XC X Xy σ H s)(e:H a=some (.dK kvs))(ry:bC (kV k) u)(l:bY kvs k=some v)(hm:more=[]\/∃x,more=[x])(h:∀w' s',XC X Xy σ (Xz H a (.dK (uW kvs k))) s'->bC v w'->Q w' s'):wpAny (model X.prog X.w) A (call (.builtin "dict.pop") (.ref a::u::more)) Q E s:=by
 obtain⟨z,hd,vs,rel,dd⟩:=rX I.XF e;obtain⟨w',hw,YH⟩:=mC.some_of (v:=v) (o:=valueAt vs k) (by rw[<- l];exact rel.val k);have hp:(keyPart u).isSome=true:=by
  cases k with
  | inl i=>obtain⟨t,q⟩:=(show ∃t,u=Value.int i t from ry);subst q;rfl
  | inr x=>obtain⟨t,q⟩:=(show ∃t,u=Value.str x t from ry);subst q;rfl
  | no=>cases (show u=Value.none from ry);rfl
 have ha:argsOk "dict.pop" ⟨.ref a::u::more,[]⟩:=by
  rcases hm with q|⟨x,q⟩
  ·subst q;exact PySem.F.args_dict_pop_2 _ _
  ·subst q;exact PySem.F.args_dict_pop_3 _ _ _
 refine Ε9 PySem.F.slot_dict_pop dd.typeIs PySem.F.entry_dict_pop ha (meets_dict_pop_there (aR X.prog X.w) a (sH ry) more hm hp)
  ⟨vs,w',dd,by rw[<- rel.length];exact z,hw,λh' YW hs=>h w' _ ?_ YH⟩
 have he:∃q,h'.get? a=some q:=let ⟨q,_,_,hq,_⟩:=YW;⟨q,hq⟩;exact pD I (by rw[e];exact True.intro) hs he (qM (ϕ (KU kvs k) z) hd (rel.drop k) YW)
end
mutual
example:=[model prog w]
def Q7(i:Expr):Prop:=∀ov iv,subscripted i false ov iv=operate [ov,iv] (getItem ov iv)
def HP{prog:Program}{A:Around}{E:q0A}{env:Env}{value slice:Expr}{pos:Pos}{T id:String}(hl:typeLookup (.type T) "__getitem__"=pure (some (.builtin id)))(hs:Q7 slice)(h:wpAny 0e0 A (eval value env) (λo s₁=>wpAny 0e0 A (eval slice env) (λi s₂=>s₂.TypeIs o T/\wpAny 0e0 A (getItem o i) Q E s₂) E s₁) E s) : wpAny 0e0 A (eval (.Subscript value slice pos) env) Q E s:=by
 refine Subscript_ (Ε3 h (λo s₁ h₁=>Ε3 h₁ (λi s₂ h₂=>?_) λ_ _ x=>x) λ_ _ x=>x);obtain⟨hT,h₂⟩:=h₂;unfold subscriptTail;refine Α ?_;rw[getitemInPython_of_ne hT.not_modules];refine Α (Ι0 hT hl ?_);have fin:wpAny 0e0 A (subscripted slice false o i) (λr s₃=>wpAny 0e0 A (letTemporaryGo value o r >>= λ_=>pure r) Q E s₃) E s₂:=by
  rw[hs o i];exact wpAny_operating (Ε3 h₂ (λr s₃ h₃=>Α (wpAny_letTemporaryGo (Β h₃))) λ_ _ x=>x)
 first
  | exact Β (Α fin)
  | exact Α (Β (Α fin))
  | exact Α fin
def Dd{X:Cx}(I:XC X Xy σ H s)(g:DGet H a y o):s.TypeIs (.ref a) "dict":=by
 rcases g with⟨kvs,k,e,_,_⟩|⟨kvs,k,b,e,_,_,_⟩
 ·obtain⟨_,_,vs,_,dd⟩:=xP I.XF e;exact dd.typeIs
 ·obtain⟨_,_,xs,_,dd⟩:=xQ I.XF e;exact dd.typeIs
end
section
variable{X:Cx}{o i e value:Expr}{pos pos' aaI:Pos}{td ty tv:TE}
end
def KO(h:Heap)(hb:sysModules < h.objs.size):c0 P w H (h.push {cls:=.type "dict",data:=.dict #[]}) h.objs.size (.dK []) :=
 ⟨ϖ _,Β6.mpr (Ε6 (Ρ hb)),[],.nil,Heap.DictOf.new h⟩
def Nk:TE:=λ_ H Q=>∀p,H p=none->Q (.ref p) (Xz H p (.dK []))
section
variable{X:Cx}{pos:Pos}
def sT:PE X (.Dict [] [] pos) Nk:=λXy s σ H Q I h =>
 wpAny_Dict_empty ⟨.ref s.heap.objs.size,_,I.laid (a:=s.heap.objs.size) (o:=.dK []) (t':=s.toks) (λ_ _ q=>Γ _ q) (Ζ _) (KO s.heap I.big),rfl,h _ (I.XF.fresh (Ζ _))⟩
end
mutual
example:=[Key×V,(if ([]:List Keyword).isEmpty then 0 else 1),apos.endLine==XG.line,(starEach [e,f] X.env),keywordEach [] X.env,starEach [e] X.env,(λx=>x.1.isSome),eval o X.env,(λx=>!x.1),Key×Value]
def Nn:List (TE×TE)->St->Hp->(List (V×V)->Hp->Prop)->Prop
 | [],_,H,Q=>Q [] H
 | (tk,tv)::r,σ,H,Q=>tk σ H λx H1=>tv σ H1 λy H2=>Nn r σ H2 λps H3=>Q ((x,y)::ps) H3
abbrev VV:List (V×V)->List (Value×Value)->Prop:=Paired λp q=>bC p.1 q.1/\bC p.2 q.2
def PPs(X:Cx)(pos:Pos)(keys:List (Option Expr))(values:List Expr)(trs:List (TE×TE)):Prop :=
 ∀(Xy:List (Addr×Obj)) (s:Shared) (σ:St) (H:Hp) (Q:List (V×V)->Hp->Prop),XC X Xy σ H s->Nn trs σ H Q ->
  wpAny (model X.prog X.w) X.A (evalPairs (pairTrees keys values X.env pos)) (λvs s'=>∃ps H',XC X Xy σ H' s'/\VV ps vs/\Q ps H') X.xe s
def gS(kvs more:List 0e0):List 0e0:=more.foldl (λacc kv=>dS acc kv.1 kv.2) kvs
def KV.merge:∀{more:List 0e0} {rs:List 9e0} {kvs:List 0e0} {vs:List 9e0},KV more rs->KV kvs vs->KV (gS kvs more) (merged vs rs):=by
 intro more rs kvs vs r;unfold KV at r
 induction r generalizing kvs vs with
 | nil=>intro q;exact q
 | @cons p q ps qs h t ih =>
  intro r0;have e:KV (dS kvs p.1 p.2) (stored vs q.1 q.2):=by
   have:=r0.put p.1 h.2;rw[<- h.1];exact this
  exact ih e
structure M1(X:Cx)(o:Expr)(m:Str)(apos:Pos)(e:Expr)(XG:Pos):Prop where
 base:attributeBase o m X.env 7e0=eval o X.env
 Zu:((backTo XG 5e0).all 8e0&&(backToKw XG 4e0).all 6e0
 &&decide (([e]:List Expr).length+([]:List Keyword).length+1e0 < 30))=true
 line:2e0=true
 trees:backTo XG 5e0=[(false,eval e X.env)]
structure M2(X:Cx)(o:Expr)(m:Str)(apos:Pos)(e f:Expr)(XG:Pos):Prop where
 base:attributeBase o m X.env 7e0=eval o X.env
 Zu:((backTo XG 3e0).all 8e0&&(backToKw XG 4e0).all 6e0
 &&decide (([e,f]:List Expr).length+([]:List Keyword).length+1e0 < 30))=true
 line:2e0=true
 trees:backTo XG 3e0=[(false,eval e X.env),(false,eval f X.env)]
def Xq(H:Hp)(a:Addr):Prop:=(∃kvs,Rd H a (.dK kvs))\/∃kvs,Rd H a (.dT kvs)
def tV{X:Cx}(I:XC X Xy σ H s)(d:Xq H a) : s.TypeIs (.ref a) "dict"/\(∀b,Value.ref a=.ref b->∃ob,s.heap.get? b=some ob/\ob.dict=none)/\(a==sysModules)=false:=by
 rcases d with⟨kvs,e⟩|⟨kvs,e⟩
 ·obtain⟨_,hd,vs,_,dd⟩:=xP I.XF e;refine⟨dd.typeIs,λb q=>?_,hd⟩;cases q;obtain⟨ob,_,_,h1,h2,_⟩:=dd;exact⟨ob,h1,h2.2.1⟩
 ·obtain⟨_,hd,xs,_,dd⟩:=xQ I.XF e;refine⟨dd.typeIs,λb q=>?_,hd⟩;cases q;obtain⟨ob,_,_,h1,h2,_⟩:=dd;exact⟨ob,h1,h2.2.1⟩
end
section
mutual
example:=[aR X.prog X.w,I.tok _,PySem.F.args_dict_get_3 _ _ _,PySem.F.args_dict_get_2 _ _,.builtin "dict.get",model X.prog X.w]
variable{X:Cx}{d:V}{r:Value}{A:Around}{E:q0A}
def Rv(hu:A.units+1 < cLine)(I:XC X Xy σ H s)(g:DGet H a y o)(ry:bC y u)(h:∀w' s',XC X Xy σ H s'->bC (o.getD .XB) w'->Q w' s') : wpAny 5e0 A (call 4e0 [.ref a,u]) Q E s:=by
 rcases g with⟨kvs,k,e,ey,l⟩|⟨kvs,k,b,e,ey,eb,l⟩
 ·subst ey;obtain⟨z,hd,vs,rel,dd⟩:=xP I.XF e;refine Ε9 Η7 dd.typeIs PySem.F.entry_dict_get 3e0 (meets_dict_get 0e0 a (sH ry) hd) ⟨_,dd.mapOf,h _ _ 1e0 ?_⟩;rw[l];exact(rel.val k).getD rfl
 ·subst ey;cases (show u=Value.ref b from ry);obtain⟨z,hd,xs,rel,dd⟩:=xQ I.XF e;refine Ε9 Η7 dd.typeIs PySem.F.entry_dict_get 3e0 (meetsH_dict_get (tupleKind 0e0) a b hd) ⟨tupleKind_room_in1 hu,k,xs,tX I.XF eb,dd,h _ _ 1e0 ?_⟩;rw[l];exact(rel.val k).getD rfl
def Rw(hu:A.units+1 < cLine)(I:XC X Xy σ H s)(g:DGet H a y o)(ry:bC y u)(rd:bC d r)(h:∀w' s',XC X Xy σ H s'->bC (o.getD d) w'->Q w' s') : wpAny 5e0 A (call 4e0 [.ref a,u,r]) Q E s:=by
 rcases g with⟨kvs,k,e,ey,l⟩|⟨kvs,k,b,e,ey,eb,l⟩
 ·subst ey;obtain⟨z,hd,vs,rel,dd⟩:=xP I.XF e;refine Ε9 Η7 dd.typeIs PySem.F.entry_dict_get 2e0 (meets_dict_get_default 0e0 a (sH ry) hd r) ⟨_,dd.mapOf,h _ _ 1e0 ?_⟩;rw[l];exact(rel.val k).getD rd
 ·subst ey;cases (show u=Value.ref b from ry);obtain⟨z,hd,xs,rel,dd⟩:=xQ I.XF e;refine Ε9 Η7 dd.typeIs PySem.F.entry_dict_get 2e0 (meetsH_dict_get_default (tupleKind 0e0) a b hd r) ⟨tupleKind_room_in1 hu,k,xs,tX I.XF eb,dd,h _ _ 1e0 ?_⟩;rw[l];exact(rel.val k).getD rd
end
end
section
variable{X:Cx}{o e f:Expr}{apos XG:Pos}{td ty tx:TE}
end
section
variable{X:Cx}{kvs:List (Key×V)}{A:Around}{E:q0A}
end
section
variable{X:Cx}{A:Around}{E:q0A}
end
end L2
namespace Att
open PySem PySem.W PySem.Calls PyProof.Rows
mutual
example:=[.bool true,ns.map WData.int,true==true]
variable{h:Heap}{l:OpenLaw}
def vQ{P:Params}:∀(ns:List Int) (vs:List Value),WellAll P h vs 1e0->IntsAre vs ns:=by
 intro ns
 induction ns with
 | nil =>
  intro vs w;rw[Ζ4] at w;cases w;exact .nil
 | cons n ns ih =>
  intro vs w;rw[ϔ] at w;cases w with
  | cons a b =>
   cases a;exact .cons _ _ (ih _ b)
theorem JB{n:Nat}(hn:l.most=some n){P:Params}{args:List WData}{vals:List Value}(aaK:l.row.toRowW.claim.pre args=true)(hwl:WellAll P h vals args) : ∃a vs ns,vals=[Value.ref a]/\args=[WData.list 1e0]/\h.get? a=some {cls:=.type "list",data:=.seq vs.toArray}/\IntsAre vs ns/\ns.length<=n:=by
 have hsh:WShape.hasAll [] args [.list .int]=true:=(pre_splitW aaK).1;have hc:l.pre.holds [] {args:=args}=true:=(pre_splitW aaK).2;obtain⟨d,r,rfl,h1,h2⟩:=hasAllW_cons hsh;obtain rfl:=hasAllW_nil h2;obtain⟨xs,rfl,h3⟩:=hasW_list h1;obtain⟨ns,rfl⟩:=items_int h3;have hlen:ns.length<=n:=by
  unfold OpenLaw.pre at hc;have h4:(WTm.not (.lt (.lit (.int (n:Int))) (.len (.arg 0)))).holds [] {args:=[.list (ns.map .int)]}=true:=by
   have h4:=(holds_andW hc).1;rw[hn] at h4;exact h4
  have h5:=condW_of h4 (w_not (w_lt w_lit (w_len_list (w_arg rfl))));rw[Δ] at h5;refine Nat.le_of_not_lt λq=>?_;have q':(n:Int) < ((ns.length:Nat):Int):=by omega
  first
   | (rw[Ε1 q'] at h5;exact absurd h5 (by decide))
   | (simp at h5;omega)
 cases hwl with
 | cons w1 w2 =>
  cases w2;cases w1 with
  | list ho X3=>exact⟨_,_,ns,rfl,rfl,ho,vQ ns _ X3,hlen⟩
theorem Jx(l:OpenLaw)(args:List WData):l.row.toRowW.claim.post args 0e0 args=true :=
 postW_of (r:=l.row.toRowW) (X:=2e0)
  (show WShape.has [] 0e0 .bool=true by first|rfl|decide|simp[WShape.has,WShape.arms,WShape.armsAll])
  (show(WTm.eq .res (.lit 0e0)).value [] {args:=args,res:=some 0e0,after:=args}=some (.bool 2e0) from w_eq_bool (w_res rfl) w_lit) rfl
def CU{n:Nat}{q:Program}{loose:List Str}{XP:(q0C)->Heap->Prop}{YP:World->Heap->Prop}{d:DefRec}(hn:l.most=some n)(hdf:d.params.defaults=[])(call:∀(w:World) (s₀ s₁:Shared) (mg mb:q0C) (fa:Addr) (o:Obj) (pm cd doc:Value) (a:Addr) (vs:List Value) (ns:List Int), Ground q loose [] XP w s₀ mg mb s₁.heap->YP w s₁.heap -> s₁.heap.get? fa=some o->o.data=.func (docDef d.name d.params d.body d.scope pm cd doc)->s₁.heap.CodeRec cd d.name->mg d.name=some (.ref fa) -> s₁.heap.get? a=some {cls:=.type "list",data:=.seq vs.toArray}->IntsAre vs ns->ns.length<=n->s₁.gens = #[] -> codeAny (model l.prog w) callerA (.call (.ref fa) ⟨[.ref a],[]⟩) (λr s'=>r=.ok (.ret 0e0)/\OldK s₁.heap s'.heap/\s'.os=s₁.os/\AllBare s'.gens) s₁) : WalkO q loose XP YP l.row.toRowW d [] (λf vs=>PySem.call f vs):=by
 intro w s₀ s₁ mg mb G Y fa o pm cd doc dV kV ho hd hcd hD hmg hg args vals as aaK adV hrd hwl Zc;obtain rfl:dV=.none:=Dflts.none hD hdf;obtain rfl:kV=.none:=Dflts.noKw hD;obtain⟨a,vs,ns,rfl,rfl,aa9,hints,hlen⟩:=JB hn aaK hwl;refine enter_call (codeAny_mono (call w s₀ s₁ mg mb fa o pm cd doc a vs ns G Y ho (fd_plain hd) hcd hmg aa9 hints hlen hg) λr s' hq=>?_);obtain⟨rfl,h2,h3,h4⟩:=hq;exact⟨.inl ⟨.bool true,.bool true,[],rfl,λ_=>rfl,.bool true,Jx l _,λ_=>⟨List.Pairwise.nil,λ_ hm=>(nomatch hm)⟩⟩,h2,h3,h4⟩
end
section
mutual
example:=[]
variable{prog:Program}{w:World}{A:Around}{E:q0A}{s:Shared}{K:Frag}
def Ci(h:Heap):Heap:={h with objs:=#[]}
def qZ(h:Heap)(b:Addr):(Ci h).get? b=none:=by
 cases e:(Ci h).get? b with
 | none=>rfl
 | some o=>exact absurd (Ο e) (Nat.not_lt_zero _)
def ledger(h:Heap)(L d:Addr):List (Addr×Obj):=(List.range h.objs.size).filterMap λa=>if a=L\/a=d then none else (h.get? a).map λo=>(a,o)
def qU{L d a:Addr}{o:Obj}:(a,o)∈ledger h L d↔a≠L/\a≠d/\h.get? a=some o:=by
 unfold ledger;rw[List.mem_filterMap];constructor
 ·rintro⟨b,_,e⟩;split at e
  ·cases e
  ·rename_i hb
   obtain⟨o',ho,e'⟩:=ϑ.mp e;cases e';exact⟨λq=>hb (.inl q),λq=>hb (.inr q),ho⟩
 ·rintro⟨n1,n2,ho⟩;refine⟨a,Κ1.mpr (Ο ho),?_⟩;rw[if_neg (show ¬ (a=L\/a=d) from λq=>q.elim n1 n2),ho]<;>rfl
def u7{L d:Addr}{od:Obj}(YA:d≠L)(ho:h.get? d=some od):News (Ci h) L h ([]++(d,od)::ledger h L d):=by
 rintro⟨a,o⟩ hp;rcases Ε.mp hp with e|hp
 ·cases e;exact⟨ho,YA,qZ _ _⟩
 ·obtain⟨n1,n2,e⟩:=qU.mp hp;exact⟨e,n1,qZ _ _⟩
def Lu{L:Addr}{m:q0C}(n:h.Ns L m):Fr (Ci h) L h m :=
 ⟨n,λb o e=>(by rw[qZ] at e;cases e),ϖ _⟩
end
end
end Att
namespace L2
open PySem PySem.Spec PyProof.Rows
mutual
example:=[ns.map V.int,Ca s₁.heap H,(by rw[q];simp),(by simp),(λr s'=>r=.ok (.ret (.bool true))/\OldK s₁.heap s'.heap/\s'.os=s₁.os/\AllBare s'.gens),(.call (.ref fa) ⟨[.ref a],[]⟩),(λv _=>v=.bl true),(λ_ _ _=>False),K w.params,model P w,if_neg hb]
variable{f:Addr}{fd:FuncData}{k:Nat}{st:Stmt}{x:Str}
theorem pP:∀{vs:List Value} {ns:List Int},IntsAre vs ns->XD 0e0 vs
 | _,_,.nil=>.nil
 | _,_,.cons n t h=>.cons ⟨t,rfl⟩ (pP h)
def Only(H:Hp):Prop:=∀b,H b=none\/∃o xs,H b=some (.XX o (.lst xs))
def LN{P:Program}{w:World}{K:q0B}{mg mb:q0C}{CX:CXT}{fa a:Addr}{sp:Sp}{s₁:Shared}{vs:List Value}{ns:List Int}(KX:K.In s₁.heap)(hns:s₁.heap.Ns mainGlobals mg)(hb:s₁.heap.Ns builtinsNs mb)(hbb:∀x:Str,x≠"__name__"->mb x=bootBuiltins x)(acY:s₁.heap.NoLimit)(hg:s₁.gens = #[])(ha:s₁.heap.get? a=some {cls:=.type "list",data:=.seq vs.toArray})(hi:IntsAre vs ns)(hl:ns.length<=sizeLine)(hr:Room k callerA)(F:∀base:Heap,K.In base->base.Ns mainGlobals mg->fJ P w K mg base CX k fa fd [x] sp)(abR:∀(s:Shared) (u:Value),BindsTo s fd ⟨[u],[]⟩ [(x,u)])(hsp:∀H:Hp,Only H->c5 K H a 0e0->sp [.ref a] H 6e0 λ_ _ _=>False)(hCX:∀H e s',CX [] H s₁ 7e0 e s'->False) : codeAny 9e0 callerA 5e0 4e0 s₁:=by
  have rv:=pP hi;have adD:=hi.length;have core:∀H:Hp,Only H->c5 K H a 0e0->HOk P w H s₁.heap->(∀b,H b≠none->b=a)->(H a≠none->K.lookup a=none) ->
      codeAny 9e0 callerA 5e0 4e0 s₁:=by
    intro H hO hS XF hA hK;have Zs:∀{b:Addr} {o:Obj},s₁.heap.get? b=some o->H b=none->(Ca s₁.heap H).get? b=some o:=λe n=>LC e n;have noA:∀{b:Addr} {o:Obj} {es:Array DictEntry} {ep:Nat},s₁.heap.get? b=some o->o.data=.dict es ep->H b=none:=λ{b o es ep} e d=>by
      cases q:H b with
      | none=>rfl
      | some u =>
        have e':b=a:=hA b 2e0;subst e';rw[ha] at e;cases e;have d':Data.seq vs.toArray _=Data.dict es ep:=d;cases d'
    have nsK:∀{b:Addr} {m:q0C},s₁.heap.Ns b m->(Ca s₁.heap H).Ns b m:=λ{b m} ⟨o,es,ep,e,d,r⟩=>⟨o,es,ep,Zs e (noA e d),d,r⟩;have hKb:K.In 1e0:=λb o e=>Zs (KX b o e) (by
      cases q:H b with
      | none=>rfl
      | some u =>
        have e':b=a:=hA b 2e0;subst e';rw[hK 2e0] at e;cases e)
    have hM:Mod K mg 1e0:=⟨hKb,nsK hns,⟨mb,nsK hb,hbb⟩,let ⟨mc,h1,h2⟩:=acY;⟨mc,nsK h1,h2⟩⟩;have e0:Env0 P w K mg 1e0 callerA [] s₁ H:=⟨rfl,hM,λb o e=>O8 e,Nat.le_of_eq (IS _ _),trivial,λb hb=>absurd (show b∈([]:List Addr) from hb) 3e0,XF,.of_eq hg⟩;refine codeAny_mono ((F _ hKb (nsK hns)).run callerA [] s₁ H ⟨[.ref a],[]⟩ [.ref a] [.ref a] _ _ hr e0 (abR s₁ (.ref a)) (.cons rfl .nil) (hsp H hO hS)) λr s' h=>?_;cases r with
    | error e=>exact(hCX H e s' h).elim
    | ok fl =>
      cases fl with
      | next=>exact False.elim h
      | brk=>exact False.elim h
      | cont=>exact False.elim h
      | ret u =>
        obtain⟨v,H',os,bare,un,ac0,r',q⟩:=h;have q':v=.bl true:=q;subst q';obtain rfl:u=Value.bool true:=r';refine⟨rfl,OldK.of_keep λb o e=>?_,os,bare⟩;cases q:H b with
        | none=>exact un.keep b o e q (by intro z;exact absurd (show b∈([]:List Addr) from z) 3e0) 3e0
        | some u =>
          rcases hO b with z|⟨ob,xs,z⟩
          · rw[q] at z;cases z
          · have z2:=un.xZ b ob _ z;obtain⟨e1,_⟩:=XF b _ z;obtain⟨e2,_⟩:=ac0 b _ z2;rw[e] at e1;cases e1;exact e2
  cases hk:K.lookup a with
  | some o =>
    have e:=KX a o hk;rw[ha] at e;cases e;refine core (λ_=>none) (λ_=>.inl rfl) (.inr ⟨_,vs.toArray,_,hk,rfl,rfl,rfl,by rw[Η,adD];exact hl,by simpa using rv⟩) (λb u z=>by have z':(none:Option HO)=some u:=z;cases z') (λb z=>absurd rfl z) λz=>absurd rfl z
  | none =>
    refine core (λb=>if b=a then some (.XX {cls:=.type "list",data:=.seq vs.toArray} (.lst 0e0)) else none) (λb=>?_) (.inl (.inr ⟨{cls:=.type "list",data:=.seq vs.toArray},if_pos rfl⟩)) (λb u z=>?_) (λb z=>?_) λ_=>hk
    · by_cases hb:b=a
      · exact .inr ⟨_,_,if_pos hb⟩
      · exact .inl 0e1
    · by_cases hb:b=a
      · have z':=(if_pos hb).symm.trans z;cases z';subst hb;exact⟨ha,by rw[Δ];exact hl,vs,_,rv,ha⟩
      · have z':=(if_neg hb).symm.trans z;cases z'
    · by_cases hb:b=a
      · exact hb
      · exact absurd 0e1 z
def Qa{l:PySem.W.OpenLaw}{n:Nat}{q:Program}{loose:List Str}{XP:(q0C)->Heap->Prop}{YP:World->Heap->Prop}{d:DefRec}{K:Params->q0B}{CX:World->CXT}{sp:World->Sp}(hn:l.most=some n)(hn2:n<=sizeLine)(hdf:d.params.defaults=[])(hr:Room k callerA)(hY:∀(w:World) (h:Heap),YP w h->(K w.params).In h)(F:∀(w:World) (mg:q0C) (fa:Addr) (h:Heap),(K w.params).In h->h.Ns mainGlobals mg->mg d.name=some (.ref fa) -> ∃fd:FuncData,(∀(s:Shared) (u:Value),BindsTo s fd ⟨[u],[]⟩ [(x,u)]) /\ ∀base:Heap,(K w.params).In base->base.Ns mainGlobals mg->fJ l.prog w 8e0 mg base (CX w) k fa fd [x] (sp w))(hsp:∀(w:World) (H:Hp) (a:Addr) (ns:List Int),ns.length<=n->Only H->c5 8e0 H a 0e0->sp w [.ref a] H 6e0 λ_ _ _=>False)(hCX:∀(w:World) (H:Hp) (s:Shared) (e:Value) (s':Shared),CX w [] H s 7e0 e s'->False) : PySem.W.WalkO q loose XP YP l.row.toRowW d [] (λf vs=>PySem.call f vs):=by
 refine Att.CU hn hdf λw s₀ s₁ mg mb fa o pm cd doc a vs ns G Y ho hd hcd hmg aa9 hints hlen hg=>?_;have KX:=hY w _ Y;obtain⟨fd,hb,hF⟩:=F w mg fa _ KX G.T.g hmg;exact LN KX G.T.g G.T.b G.T.builtins G.T.nolimit hg aa9 hints (ϕ hlen hn2) hr hF hb (λH hO hS=>hsp w H a ns hlen hO hS) λH e s'=>hCX w H s₁ e s'
def bG(s:Stmt)(j:Nat):Stmt:=match s with
 | .ClassDef _ _ _ body _ _ _ _ _ _ _=>body.getD j (.Pass ⟨0,0,0,0⟩)
 | _=>.Pass ⟨0,0,0,0⟩
def iI(s:Stmt):Arguments:=match s with
 | .FunctionDef _ a _ _ _ _ _ _ _ _=>a
 | _=>{posonlyargs:=[],args:=[],vararg:=none,kwonlyargs:=[],kw_defaults:=[],kwarg:=none,defaults:=[]}
def fO(s:Stmt):List Stmt:=match s with
 | .FunctionDef _ _ b _ _ _ _ _ _ _=>b
 | _=>[]
def cK(s:Stmt):Scope:=match s with
 | .FunctionDef _ _ _ _ _ _ sc _ _ _=>sc
 | _=>{kind:=.function,names:=[],isGenerator:=false,isCoroutine:=false}
abbrev Yr:CXT:=λ_ _ _ _ _ _=>False
abbrev E0:XK:=λ_ _ _=>False
def pass0{X:Cx}:Passes Yr X E0:=λ_ _ _ _ _ _ _ h=>h.elim
structure Fun(K:q0B)(x qual:Str)(st:Stmt)(f:Addr)(fd:FuncData):Prop where
 ex:∃(oc:Value) (od:Option Addr) (kV doc pm:Value) (an:Option Addr) (X1 ct:Value) (Zn:Array (Option Value)),
  fd=PySem.W.fnOf x qual (iI st) (fO st) (cK st) .none kV doc pm an X1 ct/\K.lookup f=some ⟨oc,od,.func fd,Zn⟩/\PySem.W.codeIn K X1 qual=true
 kp:PySem.W.keepIn K (.ref f)=true
end
section
mutual
example:=[cK st,PySem.W.fnOf x qual (iI st) (fO st) 0e0 .none kV doc pm an X1 ct]
variable{P:Program}{w:World}{K:q0B}{mg:q0C}{base:Heap}
def Fun.ok{qual:Str}{N ps:List Str}{sp:Sp}(F:Fun K x qual st f fd)(S:oZ N ps 0e0)(len:∀vs H Q E,sp vs H Q E->vs.length=ps.length)(Y0:∀(X1:Value) (A:Around) (outer:List Env) (s:Shared) (H:Hp) (vs:List V) (Q:VK) (E:XK),Room k (A.deeper (envOfC qual 0e0 s.heap.objs.size f X1))->sp vs H Q E -> ∃t,YN (xI Yr P w K mg base N qual 0e0 f X1 A outer s H E).nox (fO st) t/\t {nx:=λ_ H'=>Q .XB H',rt:=Q} (start N vs) H):fJ P w K mg base Yr (k+1) f fd ps sp:=by
 obtain⟨oc,od,kV,doc,pm,an,X1,ct,Zn,rfl,lk,hcd⟩:=F.ex;refine Vo lk hcd S len λA outer s H vs Q E hr hsp=>?_;obtain⟨t,h,q⟩:=Y0 X1 A outer s H vs Q E hr hsp;exact⟨t,h.nox,q⟩
def Fun.binds{qual:Str}{ps:List Str}(F:Fun K x qual st f fd)(h:∀(kV doc pm:Value) (an:Option Addr) (X1 ct:Value) (us:List Value),us.length=ps.length->bindArgs 1e0 ⟨us,[]⟩=pure (ps.zip us)):Binds K fd ps []:=by
 obtain⟨oc,od,kV,doc,pm,an,X1,ct,Zn,rfl,lk,hcd⟩:=F.ex;exact .all (h kV doc pm an X1 ct)
def Lw{qual:Str}{oc:Value}{od an:Option Addr}{Zn:Array (Option Value)}{kV doc pm X1 ct:Value}(l:K.lookup f=some ⟨oc,od,.func 1e0,Zn⟩)(c:PySem.W.codeIn K X1 qual=true)(k:PySem.W.keepIn K (.ref f)=true):Fun K x qual st f 1e0:=⟨⟨oc,od,kV,doc,pm,an,X1,ct,Zn,rfl,l,c⟩,k⟩
end
end
theorem yF{A:Around}(hr:Room k A):A.units+1 < cLine:=Nat.lt_of_le_of_lt (Nat.add_le_add_left (by decide:1<=64) _) hr.units
theorem small1000{n:Nat}(h:n<=1000):n < sizeLine:=Nat.lt_of_le_of_lt h (by decide)
section
variable{X:Cx}
theorem pv(i:Nat){pos:Pos}(hN:X.N[i]?=some x:=by rfl)(hv:Vis X.env.scope x:=by first|exact Or.inl rfl|exact Or.inr (Or.inl rfl)|exact Or.inr (Or.inr rfl))(hd:(x==("__debug__":Str))=false:=by decide)(hcd:(x==("__classdict__":Str))=false:=by decide):PE X (.Name x pos) (kF i):=mP hN hv hd hcd
end
def Same(H H':Hp):Prop:=∀b o,H b=some o->H' b=some o
def Same.seq{K:q0B}{H H':Hp}{a:Addr}{xs:List V}(e:Same H H')(h:c5 K H a xs):c5 K H' a xs:=by
 rcases h with(h|⟨o,h⟩)|h
 ·exact .inl (.inl (e _ _ h))
 ·exact .inl (.inr ⟨o,e _ _ h⟩)
 ·exact .inr h
section
variable{X:Cx}
end
section
variable{κ:Type}[DecidableEq κ]
end
end L2
set_option maxHeartbeats 4000000
namespace L2
open PySem PySem.Spec PyProof.Rows
mutual
example:=[]
variable{a it:Addr}{A:Around}{items:Array Value}{X:Cx}{tg:Expr}{h:Heap}{H:Hp}{g:Int->Int->V}{J:It}{Xy:List (Addr×Obj)}{kvs:List (Key×V)}{cl:List (Str×Addr)}{fp:List Addr}{es:List Expr}{ns:List Int}{fr:List Nat}{vs xs ys:List V}{k:List V->Prop}{i j m0 n:Nat}{tn:Nat->Heap->Prop}{Pv:Nat->List V->Hp->Prop}{W:Nat->Nat->List V->Hp->Prop}{o:Option HO}{O:Option Int->Hp->Prop}{o0 o1 o2 o3 o4 o5 o6 o7:Option V}{P:Program}{Q:PySem.Fin->Shared->Prop}{sc:Scope}{t:SetTable}{s:Shared}{σ:St}{N:St->Hp->Prop}{x:Str}{RR:Value->Addr->Result->Shared->Prop}{w:World}{E:q0A}{K:q0B}
theorem NO:bootBuiltins "list"=some (.type "list"):=by decide +kernel
theorem vW:bootBuiltins "dict"=some (.type "dict"):=by decide +kernel
theorem eU:bootBuiltins "tuple"=some (.type "tuple"):=by decide +kernel
theorem Ex:bootBuiltins "max"=some (.builtin "max"):=by decide +kernel
theorem Ka:bootBuiltins "min"=some (.builtin "min"):=by decide +kernel
theorem iB:bootBuiltins "sorted"=some (.builtin "sorted"):=by decide +kernel
theorem iA:bootBuiltins "len"=some (.builtin "len"):=by decide +kernel
theorem CV:bootBuiltins "reversed"=some (.type "reversed"):=by decide +kernel
end
section
def TR(_ j:Int):Prop:=0 < j/\j.natAbs.log2 < 9000
theorem oM:i9 X (binaryOp .FloorDiv) (rI TR λi j=>.int (i / j)):=Wd λi j _ _ _ _ _ hc q=>by
 have h1:(0:Int) < j:=hc.1;exact floordiv_int (by omega) (by rw[Int.fdiv_eq_ediv_of_nonneg i (by omega)];exact q) (.inl (PyProof.noPylong_of_log2 hc.2))
theorem log2_lt{j:Int}(h0:0 < j)(h:j<=10 ^ 45):j.natAbs.log2 < 9000:=by
 have h1:j.natAbs<=10 ^ 45:=by omega
 have h2:j.natAbs < 2 ^ 150:=Nat.lt_of_le_of_lt h1 (by decide);have h3:j.natAbs.log2 < 150:=(Nat.log2_lt (by omega)).mpr h2;omega
end
noncomputable def oA:Expr->Bool
 | .Starred ..=>true
 | _=>false
def JJ{e:Expr}{env:Env}(h:oA e=false):starEach (e::es) env=(false,eval e env)::starEach es env:=by
 cases e<;>first|rfl|cases h
section
variable{e:Expr}{te:TE}{t:TA}
def bQ(ha:PE X e te)(hr:PA X es t)(h:oA e=false:=by rfl):PA X (e::es) (oW te t):=Hd ha hr (JJ h)
end
noncomputable abbrev sP(prog:Program)(w:World)(A:Around)(env:Env)(R:Result->Shared->Prop):Value->Shared->Prop:=notedBy (model prog w) A env λe s'=>R (.error e) s'
noncomputable abbrev HW(ifs:List Expr)(env:Env):Sem Bool:=forIn ifs true λc r=>if r=true then do let ok <- isTrue c env (eval c env);pure (ForInStep.yield ok) else pure (ForInStep.yield r)
section
mutual
example:=[model prog w,sP prog w A env R,(.ListComp elt [⟨target,iter,ifs,0⟩] scope pos)]
variable{prog:Program}{R:Result->Shared->Prop}
def C4{elt target iter:Expr}{ifs:List Expr}{scope:Scope}{pos:Pos}{it acc:Value}{env:Env}(I:Nat->Shared->Prop)(turn:∀n s,I n s->wpAny 0e0 A (pyNext it) (λr s₁=>match r with|none=>R (.ok .next) s₁|some v=>wpAny 0e0 A (letOwnedTupleGo target it v) (λ_ s₁'=>wpAny 0e0 A (assign target env v) (λ_ s₂ => wpAny 0e0 A (HW ifs env) (λok s₃ => if ok=true then wpAny 0e0 A (eval elt env) (λx s₄ => wpAny 0e0 A (call (.builtin "list.append") [acc,x]) (λ_ s₅=>∃m,m < n/\I m s₅) 1e0 s₄) 1e0 s₃ else ∃m,m < n/\I m s₃) 1e0 s₂) 1e0 s₁') 1e0 s₁) 1e0 s)(n:Nat)(h:I n s):codeAny 0e0 A (.compLoop 2e0 0 it acc env) R s:=by
 refine codeAny_loop rfl I (λn s hI=>?_) n h;show wpAny _ A ((compTurn 2e0 0 it acc env).onRaise (λx=>do noteFrame x env;theTreesLotGoes x)) _ _ s;refine wpAny_noted ?_;rw[compTurn_list];refine Α (wpAny_standAt (Α (Ε3 (turn n s hI) (λr s₁ h₁=>?_) λ_ _ h'=>h')));cases r with
 | none=>exact Β h₁
 | some v =>
  refine Α (Ε3 h₁ (λ_ s₁' h₁'=>?_) λ_ _ h'=>h');refine Α (Ε3 h₁' (λ_ s₂ h₂=>Α (Ε3 h₂ (λok s₃ h₃=>?_) λ_ _ h'=>h')) λ_ _ h'=>h');cases ok with
  | false=>exact Β ⟨rfl,h₃⟩
  | true =>
   exact Α (Α (Ε3 h₃ (λx s₄ h₄=>Α (Ε3 h₄ (λ_ s₅ h₅=>Β (Β ⟨rfl,h₅⟩)) λ_ _ h'=>h')) λ_ _ h'=>h'))
end
end
mutual
example:=[((relabel sc X.env).names.lookup y=some .cell\/(relabel sc X.env).names.lookup y=some .free),Str×Addr]
def cQ(X:Cx)(sc:Scope)(cl:List 1e0)(C:Addr)(N:List Str)(s:Shared)(H:Hp)(ex:List Addr)(pn:List (Addr×Obj)):Cx :=
 {X with env:=compEnvC sc cl C X.env,N:=N,s₀:=s,H₀:=H,outer:=X.stack,ex:=ex,fn:=λ_=>false,pn:=pn}
structure cS(X:Cx)(sc:Scope)(cl:List 1e0)(x:Str)(fr:List Nat)(N:List Str):Prop where
 kind:sc.kind=.function
 uE:∀y∈sc.names,y.2≠.cell
 names:∀y∈sc.names,y.2=.local->sc.names.lookup y.1=some .local
 BQ:closureFor sc X.env=pure cl
 sub:∀y c,cl.lookup y=some c->X.env.cells.lookup y=some c
 has:∀y,0e0->∃c,cl.lookup y=some c
 Z6:sc.names.lookup x=some .local
 nd:N.Nodup
 N0:N=x::fr.map λj=>X.N.getD j x
 frc:∀j∈fr,∃y,X.N[j]?=some y/\X.env.kindOf y=some .cell/\0e0
def aV(fr:List Nat)(σ:St):St:=fr.map λj=>(σ[j]?).join
end
section
mutual
example:=[S.sub y c e,some v,X.pn++Xy,cQ X sc cl C N s H fp 2e0,ϐ (Ο e) hC,I.uT b hm]
variable{C:Addr}{N:List Str}
def NV(I:XC X Xy σ H s)(S:cS X sc cl x fr N)(hf:∀b∈fp,mB X Xy H b)(Zj:∀b∈fp,b < s.heap.objs.size)(hC:s.heap.objs.size<=C) : (cQ X sc cl C N s H fp 2e0).Ok where
 mod:=I.ok.mod
 kind:=S.kind
 glob:=I.ok.glob
 blt:=I.ok.blt
 above:=hC
 inj:=λy z c h1 h2=>I.ok.inj y z c (S.sub y c h1) (S.sub z c h2)
 has:=S.has
 cab:=λ_ _ h=>by cases h
 hd:=I.ok.hd
 frames:=I.ok.frames
 stk:=.inl rfl
 exf:=λb hb=>⟨Ρ (ϐ (Zj b hb) hC),λy c e=>(hf b hb).2.2.2.2.1 y c 0e0⟩
 bs:=I.bs
 bsz:=ϕ I.ok.bsz I.sz
 DB:=λb o e hb=>by
  rcases(hf b hb).2.2.2.1 with z|z
  ·exact I.ok.DB b o e z
  ·exact absurd (ϐ (Ο e) (ϕ I.ok.bsz z)) (Α2 _)
 IJ:=λb hb hm=>by
  rcases Ε.mp 5e0 with z|z
  ·exact(hf b hb).2.1 z
  ·exact(hf b hb).2.2.1 z
 sD:=I.stack
 frf:=I.CI
def nostk(I:XC X Xy σ H s){b:Addr}(h1:b≠X.env.locals)(h2:b∉X.fs):b∉frs X.stack:=λhm=>by
 rcases Ε.mp 5e0 with z|z
 ·exact h1 z
 ·exact h2 z
def Kq(I:XC X Xy σ H s)(S:cS X sc cl x fr N)(hf:∀b∈fp,mB X Xy H b)(Zj:∀b∈fp,b < s.heap.objs.size)(hC:s.heap.objs.size<=C){h1:Heap}{t1:Nat}{m0:q0C}(hn:h1.Ns C m0)(hk:∀b o,s.heap.get? b=some o->h1.get? b=some o):XC 3e0 [] (none::aV fr σ) H {s with heap:=h1,toks:=t1}:=by
 refine⟨NV I S hf Zj hC,rfl,I.bare,Un.kept hk,⟨m0,hn,λi y v e1 e2 e3=>?_⟩,λy c e=>?_,I.XF.fresh hC,λy c e=>I.lO y c 0e0,λp hp=>?_,I.XF.kept hk,?_⟩
 ·have Zt:N[i]?=some y:=e1;rw[S.N0] at Zt;cases i with
  | zero =>
   have z:(some (none:Option V))=some 1e0:=e2;cases z
  | succ j =>
   have Ys:(fr.map λj=>X.N.getD j x)[j]?=some y:=Zt;have ZW:(aV fr σ)[j]?=some 1e0:=e2;unfold aV at ZW;rw[Ψ] at Ys ZW;cases q:fr[j]? with
   | none=>rw[q] at Ys;cases Ys
   | some k =>
    rw[q] at Ys ZW;have ey:X.N.getD k x=y:=Ϛ Ys;have ev:(σ[k]?).join=some v:=Ϛ ZW;obtain⟨y',hy,Yu,aaF⟩:=S.frc k (Φ q);have eyy:y=y':=by
     rw[<- ey,Δ0,hy];rfl
    subst eyy;have ev':σ[k]?=some 1e0:=by
     cases z:σ[k]? with
     | none=>rw[z] at ev;cases ev
     | some o =>
      rw[z] at ev;have ev2:o=some v:=ev;rw[ev2]
    obtain⟨m,_,hl⟩:=I.loc;obtain⟨u,r,l⟩:=hl k y v hy ev' (.inr (.inl Yu));refine⟨u,r,.inr ⟨aaF,?_⟩⟩;rcases l with⟨z,_⟩|⟨_,c,hc,o,ho,hd⟩
    ·rw[Yu] at z;cases z
    ·obtain⟨c',hc'⟩:=S.has y aaF;have z:=S.sub y c' hc';rw[hc] at z;cases z;exact⟨c,hc',o,hk c o ho,hd⟩
 ·obtain⟨v,o,ho,hd⟩:=I.cell y c 0e0;exact⟨v,o,hk c o ho,hd⟩
 ·have hp':p∈X.pn++Xy:=by
   have z:p∈2e0++[]:=hp;simpa using z
  obtain⟨e,n,ne,nf,d⟩:=I.pin p hp';exact⟨hk _ _ e,n,Ρ 4e0,nostk I ne nf,d⟩
 ·show(none::aV fr σ).length=N.length;rw[S.N0];simp[aV]
def Ko(I:XC X Xy σ H s)(hf:∀b∈fp,mB X Xy H b){D:Addr}{pl:List (Addr×Obj)}{σ':St}{H':Hp}{s':Shared}(J:XC 3e0 pl σ' H' s')(hC:s.heap.objs.size<=C)(hD:s.heap.objs.size<=D)(hDC:D≠C)(ZX:H' D=none){vals:List Value}{k:Nat}(hg:s'.heap.get? D=some {cls:=.type "list",data:=.seq vals.toArray k})(rv:XD xs vals)(hz:xs.length<=sizeLine){h':Heap}(hs:Heap.SameBut C s'.heap h'):XC X Xy σ (Xz H' D (.lst xs)) {s' with heap:=h'}:=by
 have lt:∀{b:Addr} {o:Obj},s.heap.get? b=some o->b < s.heap.objs.size:=λe=>Ο e;have neC:∀{b:Addr} {o:Obj},s.heap.get? b=some o->b≠C:=λe=>Ρ 4e0;have neD:∀{b:Addr} {o:Obj},s.heap.get? b=some o->b≠D:=λe=>Ρ (ϐ (Ο e) hD);have abB:∀{b:Addr} {o:HO},H b=some o->b≠D:=λe=>Ρ (ϐ (I.XF.lt e) hD);have base:Un (frs X.stack) fp H H' s.heap s'.heap:=J.base;have HC:H' C=none:=J.free;refine I.Uq (s':={s' with heap:=h'}) (ch:=fp) J.os ⟨λb o e n hb hx=>?_,λb o e n hb hx=>?_,λb o e n hx=>?_,λb o e hx=>?_,λb ys e=>?_,λb o u e=>?_,λb ps e=>?_⟩ (λb u e=>?_) J.bare (λb hb=>?_)
 ·exact(hs.2 b (neC e)).trans (base.keep b o e n hb hx)
 ·obtain⟨sl,q⟩:=base.slot b o e n hb hx;exact⟨sl,(hs.2 b (neC e)).trans q⟩
 ·rw[aC (neD e)];exact base.free b o e n hx
 ·obtain⟨o',q⟩:=base.there b o e hx;exact⟨o',(hs.2 b (neC e)).trans q⟩
 ·rw[aC (abB e)];exact base.AB b ys e
 ·rw[aC (abB e)];exact base.xZ b o u e
 ·rw[aC (abB e)];exact base.AA b ps e
 ·by_cases hb:b=D
  ·subst hb;rw[aA] at e;cases e;exact⟨hz,vals,k,rv,(hs.2 b hDC).trans hg⟩
  ·rw[aC hb] at e;have tC:∀{c:Addr} {o:HO},H' c=some o->c≠C:=λq z=>by rw[z,HC] at q;cases q
   have tD:∀{c:Addr} {o:HO},H' c=some o->c≠D:=λq z=>by rw[z,ZX] at q;cases q
   refine(J.XF b u e).uS (λc v hc q=>(hs.2 c ?_).trans q) (λc q=>by rw[aC (tD q)];exact q) λc ys q=>by rw[aC (tD q)];exact q
   rcases hc with z|z
   ·rw[z];exact tC e
   ·exact tC z
 ·obtain⟨_,f1,_,f3,f4,f5⟩:=hf b hb;exact⟨f3,f1,f4,f5⟩
end
end
mutual
example:=[some y::aV fr σ]
def PTs(Y:Cx)(ifs:List Expr)(t:TT):Prop :=
 ∀(Xy:List (Addr×Obj)) (s:Shared) (σ:St) (H:Hp) (Q:Bool->Hp->Prop),XC Y Xy σ H s->t σ H Q->wpAny (model Y.prog Y.w) Y.A (HW ifs Y.env) (TP Y Xy σ Q) Y.xe s
def QQ:TT:=λ_ H Q=>Q true H
def gW{Y:Cx}:PTs Y [] QQ:=λ_ _ _ H _ I h=>wpAny_tests_nil ⟨H,I,h⟩
def sW{Y:Cx}{c:Expr}{t:TT}(h:PT Y c t):PTs Y [c] t:=λXy s σ H Q I hw=>wpAny_tests_one (h Xy s σ H Q I hw)
@[irreducible] def l8(wi:TI)(fr:List Nat)(tc:TT)(te:TE):TE:=λσ H Q=>wi σ H λJ H1=>∃W:Nat->Nat->List V->Hp->Prop,(∃m,W 0 m [] H1)/\∀i m xs H,W i m xs H->xs.length<=1000000 /\
  ((J.stop i H/\∀p,H p=none->Q (.ref p) (Xz H p (.lst xs))) \/
   (J.go i H/\∀y H',J.yld i H y H'->tc 0e0 H' λb H2=>if b=true then te 0e0 H2 (λz H3=>∃m',m' < m/\W (i+1) m' (xs++[z]) H3) else ∃m',m' < m/\W (i+1) m' xs H2))
end
section
mutual
example:=[model X.prog X.w,cQ X sc cl G2.objs.size N s H fp (X.pn++Xy),.ref s.heap.objs.size,cQ X sc cl C N s H ex pn,.ref D,cQ X sc cl (s.heap.objs.size+1) N s H fp (X.pn++Xy),X.pn++Xy,compEnvC sc cl G2.objs.size X.env,.ref it,(by simp),newFunctionEnv sc X.env.globals cl [] X.env.qual none .none (some X.env),s.heap.objs.size+1,(.ListComp elt [⟨.Name x px,iter,ifs,0⟩] sc pos),(.ListComp elt [⟨tg,iter,ifs,0⟩] sc pos),(λp hp=>absurd hp 9e0),ϗ _ (ϗ _ (mK hb e)),(by rw[z];exact Α2 _),some y::aV fr σ,Xz H p (.lst xs),RR acc YV.locals,newList [],loop _ rfl,Str×Value,.Name x px,.ok .next]
variable{N:List Str}{elt iter:Expr}{px pos:Pos}{ifs:List Expr}{wi:TI}{tc:TT}{te:TE}
theorem uV{g:TG}{τ0:St}{O:St->Prop}(hc:X.calm=true)(NC:∀y∈sc.names,y.2≠.cell)(KD:sc.kind=.function)(SB:∀y c,cl.lookup y=some c->X.env.cells.lookup y=some c){Q:VK}(hx:∀e s',X.xe e s'->sP X.prog X.w X.A (compEnvC sc cl 1e1 X.env) (RR 2e0 1e1) e s')(hpg:PG 5e0 tg g)(hb:PTs 5e0 ifs tc/\PE 5e0 elt te)(I:XC X Xy σ H s)(T:Turn X.prog X.w X.K tg J fp it tn)(st:tn 0 s.heap)(hf:∀b∈fp,mB X Xy H b)(ac5:∀(C:Addr) (h1:Heap) (t1:Nat) (m0:q0C),(∀b∈fp,b < s.heap.objs.size)->s.heap.objs.size<=C->h1.Ns C m0->(∀b o,s.heap.get? b=some o->h1.get? b=some o)->XC (cQ X sc cl C N s H fp 6e0) [] τ0 H {s with heap:=h1,toks:=t1})(ok0:O τ0)(w0:W 0 m0 [] H)(turn:∀i m xs H,W i m xs H->xs.length<=1000000 /\ ((J.stop i H/\∀p,H p=none->Q (.ref p) 8e1) \/ (J.go i H/\∀y H',J.yld i H y H'->∀σ1,O σ1->g y σ1 H' λσ2 H1=>O σ2/\tc σ2 H1 λb H2=>if b=true then te σ2 H2 (λz H3=>∃m',m' < m/\W (i+1) m' (xs++[z]) H3) else ∃m',m' < m/\W (i+1) m' xs H2)))(fin:∀(D C:Addr) (s':Shared) (m':q0C) (H':Hp),s'.heap.Ns C m'->mB X Xy H' C->(∀h',Heap.SameBut C s'.heap h'->XC X Xy σ H' {s' with heap:=h'})->Q 4e0 H'->RR 4e0 C 4e2 s') : wpAny 0e0 X.A 0e2 (λacc s₃=>wpAny 0e0 X.A 0e1 (λYV s₄ => codeAny 0e0 X.A (.compStart 3e1 0 8e0 acc {YV with scope:=relabel sc X.env}) 9e1 s₄) E s₃) E s:=by
  refine ϙ (wpAny_newFunctionEnv NC (by intro y hy;simp at hy) (λh₁ aa8 aaL=>?_) KD);dsimp only at aa8 aaL ⊢;generalize hH2:s.heap.push {cls:=.type "list",dict:=none,data:=.seq ([]:List Value).toArray}=G2 at aa8 aaL ⊢;have hCs:G2.objs.size=s.heap.objs.size+1:=by rw[<- hH2,Heap.size_push]
  have hx:∀e s',X.xe e s'->sP X.prog X.w X.A 7e0 (RR 2e0 G2.objs.size) e s':=by rw[hCs];exact hx
  rw[<- hCs] at hpg hb;have hDC:s.heap.objs.size≠G2.objs.size:=by rw[hCs];exact Ρ (Κ3 _)
  have hC:s.heap.objs.size<=G2.objs.size:=by rw[hCs];exact Δ3 _
  have below:∀b,b < s.heap.objs.size->b≠G2.objs.size:=λb hb=>by rw[hCs];exact Ρ (Ι8 hb)
  have old:∀b o,s.heap.get? b=some o->h₁.get? b=some o:=λb o e=>aaL.extBut b o (below b (Ο e)) (Γ _ (hH2▸Γ _ e));have hD1:h₁.get? s.heap.objs.size=some {cls:=.type "list",data:=.seq ([]:List Value).toArray 0}:=aaL.extBut _ _ hDC (Γ _ (hH2▸Ν _ rfl));have Zj:∀b∈fp,b < s.heap.objs.size:=λb hbm=>by
    obtain⟨o,e,_⟩:=T.obj 0 s.heap st b hbm;exact Ο e
  have ZX:H s.heap.objs.size=none:=I.XF.fresh (Ζ _);have acN:s.heap.objs.size∉frs X.stack:=λhm=>by
    rcases Ε.mp (I.uT _ hm) with z|z
    · exact absurd I.lt (by rw[<- z];exact Α2 _)
    · exact I.Vw (Ζ _) z
  have abG:∀y c,cl.lookup y=some c->c≠s.heap.objs.size:=λy c e z=>by
    obtain⟨v,q⟩:=I.cell y c (SB y c e);exact absurd q.lt 6e1
  have acM:∀p∈X.pn++Xy,p.1≠s.heap.objs.size:=λp hp z=>absurd (Ο (I.pin p hp).1) 6e1;have Dfp:s.heap.objs.size∉fp:=λhm=>Α2 _ (Zj _ hm);have loop:∀s₃:Shared,s₃={s with heap:=h₁,toks:=s.toks+([]:List 2e2).length} ->
      codeAny 0e0 X.A (.compLoop 3e1 0 8e0 2e0 7e0) (RR 2e0 G2.objs.size) s₃:=by
    rintro s₃ rfl;have I0:=ac5 G2.objs.size h₁ (s.toks+([]:List 2e2).length) _ Zj hC aa8 old;refine C4 (λn s'=>∃(i:Nat) (xs:List V) (vals:List Value) (k:Nat) (v0:St) (H':Hp),XC 1e0 [] v0 H' s'/\O v0/\tn i s'.heap/\(∀b∈fp,H' b=none) /\
      s'.heap.get? s.heap.objs.size=some {cls:=.type "list",data:=.seq vals.toArray k}/\XD xs vals/\H' s.heap.objs.size=none/\W i n xs H') ?_ m0
      ⟨0,[],[],0,τ0,H,I0,ok0,T.keep _ _ _ st λb _ o e=>old b o e,λb hb=>(hf b hb).1,hD1,.nil,ZX,w0⟩
    rintro n s1 ⟨i,xs,vals,k,v0,H1,I1,ok1,YE,fr1,hg1,rv1,acS,w1⟩;have hlen:=rv1.length;obtain⟨hz,step⟩:=turn i n xs H1 w1;have hz2:xs.length<=sizeLine:=ϕ hz (by decide);have Zp:∀{H':Hp} {pl:List (Addr×Obj)},(∀b∈fp,H' b=none)->(∀p∈pl,p.1=s.heap.objs.size)->∀b∈fp,mB 1e0 pl H' b:=λ{H' pl} hn YR b hb =>
      ⟨hn b hb,below b (Zj b hb),nostk I (hf b hb).2.1 (hf b hb).2.2.1,.inl hb,λy c e=>(hf b hb).2.2.2.2.1 y c (SB y c e),λp hp z=>by
        rcases Υ.mp hp with q|q
        · exact(hf b hb).2.2.2.2.2 p q z
        · exact Dfp (by rw[<- YR p q,z];exact hb)⟩
    have I1':XC 1e0 [(s.heap.objs.size,{cls:=.type "list",data:=.seq vals.toArray k})] v0 H1 s1:=I1.sV λp hp=>by
      have e:p=(s.heap.objs.size,{cls:=.type "list",data:=.seq vals.toArray k}):=by simpa using hp
      subst e;exact⟨hg1,acS,hDC,acN,λv z=>by cases z⟩
    rcases step with⟨stop,hq⟩|⟨go,step⟩
    · refine thn (T.done 1e0 rfl rfl rfl hc i [(s.heap.objs.size,{cls:=.type "list",data:=.seq vals.toArray k})] s1 _ H1 _ I1' (Zp fr1 λp hp=>by
        have e:p=(s.heap.objs.size,{cls:=.type "list",data:=.seq vals.toArray k}):=by simpa using hp
        rw[e]) YE stop) λr s2 ⟨hr,I2⟩=>?_
      subst hr;obtain⟨g2,n2,_⟩:=I2.pin (s.heap.objs.size,{cls:=.type "list",data:=.seq vals.toArray k}) (ϗ _ 9e0);obtain⟨m2,hn2,_⟩:=I2.loc;have hCn:Xz H1 s.heap.objs.size (.lst xs) G2.objs.size=none:=by
        rw[aC (Ε6 hDC)];exact I2.free
      exact fin s.heap.objs.size G2.objs.size s2 m2 _ hn2 (I.IP hC hCn) (λh' Y9=>Ko I hf I2 hC (Ζ _) hDC n2 g2 rv1 hz2 Y9) (hq _ n2)
    · refine thn (T.item 1e0 rfl rfl rfl hc i [(s.heap.objs.size,{cls:=.type "list",data:=.seq vals.toArray k})] s1 _ H1 _ I1' (Zp fr1 λp hp=>by
        have e:p=(s.heap.objs.size,{cls:=.type "list",data:=.seq vals.toArray k}):=by simpa using hp
        rw[e]) YE go) λr s2 ⟨u,hr,h2⟩=>?_
      subst hr;refine thn h2 λ_ s3 ⟨y,H3,I3,r3,y3,st3,fr3⟩=>?_;have I3':=I3.pinned (Zp fr3 λp hp=>by
        have e:p=(s.heap.objs.size,{cls:=.type "list",data:=.seq vals.toArray k}):=by simpa using hp
        rw[e]) (T.obj _ _ st3)
      have back:∀{σ9:St} {H9:Hp} {s9:Shared},XC 1e0 ([(s.heap.objs.size,{cls:=.type "list",data:=.seq vals.toArray k})]++y9 fp s3.heap) σ9 H9 s9 ->
          tn (i+1) s9.heap/\(∀b∈fp,H9 b=none)/\s9.heap.get? s.heap.objs.size=some {cls:=.type "list",data:=.seq vals.toArray k}/\H9 s.heap.objs.size=none:=λ{σ9 H9 s9} I9=>by
        refine⟨T.keep _ _ _ st3 λb hb o e=>(I9.pin (b,o) 5e1).1,λb hb=>?_,?_⟩
        · obtain⟨o,e,d⟩:=T.obj _ _ st3 b hb;exact(I9.pin (b,o) 5e1).2.1
        · obtain⟨a1,a2,_⟩:=I9.pin (s.heap.objs.size,{cls:=.type "list",data:=.seq vals.toArray k}) (ϗ _ (Ε4 _ 9e0));exact⟨a1,a2⟩
      have noX:∀e s',(cQ X sc cl G2.objs.size N s H fp 6e0).xe e s'->sP X.prog X.w X.A 7e0 (RR 2e0 G2.objs.size) e s':=hx;refine Ε3 (hpg _ s3 _ H3 y u _ I3' r3 (step y H3 y3 v0 ok1)) (λ_ s4 ⟨σ4,H4,I4,Zd,hstep⟩=>?_) noX;obtain⟨hbT,hbE⟩:=hb;refine Ε3 (hbT _ s4 _ H4 _ I4 hstep) (λok s5 ⟨H5,I5,q5⟩=>?_) noX;cases ok with
      | false =>
        rw[if_neg ϓ];have q5':∃m',m' < n/\W (i+1) m' xs H5:=q5;obtain⟨m',hm,w5⟩:=q5';obtain⟨b1,b2,b3,b4⟩:=back I5;exact⟨m',hm,i+1,xs,vals,k,σ4,H5,I5.sV 4e1,Zd,b1,b2,b3,rv1,b4,w5⟩
      | true =>
        rw[if_pos rfl];refine Ε3 (hbE _ s5 _ H5 _ I5 q5) (λz s6 ⟨v6,H6,I6,r6,q6⟩=>?_) noX;obtain⟨m',hm,w6⟩:=q6;obtain⟨b1,b2,b3,b4⟩:=back I6;refine call_meets F.slot_list_append ⟨_,b3,rfl⟩ F.entry_list_append (F.args_list_append_2 _ _) (PySem.list_append s.heap.objs.size vals.toArray k z (by rw[Η];omega)) ⟨b3,?_⟩;have q7:=PySem.IsL.update b3 (λa:Array Value=>a.push z);have abW:vals.toArray.push z=(vals++[z]).toArray:=by simp
        rw[abW] at q7;have I6':XC 1e0 [] σ4 H6 s6:=I6.sV 4e1;have others:∀b o,b≠s.heap.objs.size->s6.heap.get? b=some o->(s6.heap.update s.heap.objs.size (Obj.mapSeq λa=>a.push z)).get? b=some o:=λb o hb' e=>(Γ6 _ _ (Ε6 hb')).trans e;refine⟨m',hm,i+1,xs++[v6],vals++[z],_,σ4,H6,I6'.turned (it:=s.heap.objs.size) others b4 hDC (.inr (Ζ _)) abG (λp hp z'=>?_),Zd,T.keep _ _ _ b1 λb hb' o e=>others b o (λz'=>Dfp (by rw[<- z'];exact hb')) e,b2,q7,rv1.append (.cons r6 .nil),b4,w6⟩;have hp':p∈X.pn++Xy:=by
          have z2:p∈6e0++[]:=hp;simpa using z2
        exact acM p hp' z'
  exact codeAny_compStart_list 1e2 (T.self _ _ _ _ _ (T.keep _ _ _ st λb _ o e=>old b o e) 1e2)
def xH(hc:X.calm=true)(hx:∀e s,¬ X.xe e s)(S:cS X sc cl x fr N)(hb:∀C s H ex pn,PTs 3e0 ifs tc/\PE 3e0 elt te){Q:VK}(I:XC X Xy σ H s)(T:Turn X.prog X.w X.K 3e2 J fp it tn)(st:tn 0 s.heap)(hf:∀b∈fp,mB X Xy H b)(w0:W 0 m0 [] H)(turn:∀i m xs H,W i m xs H->xs.length<=1000000 /\ ((J.stop i H/\∀p,H p=none->Q (.ref p) 8e1) \/ (J.go i H/\∀y H',J.yld i H y H'->tc 7e1 H' λb H2=>if b=true then te 7e1 H2 (λz H3=>∃m',m' < m/\W (i+1) m' (xs++[z]) H3) else ∃m',m' < m/\W (i+1) m' xs H2)))(fin:∀(D C:Addr) (s':Shared) (m':q0C) (H':Hp),s'.heap.Ns C m'->mB X Xy H' C->(∀h',Heap.SameBut C s'.heap h'->XC X Xy σ H' {s' with heap:=h'})->Q 4e0 H'->RR 4e0 C 4e2 s') : wpAny 0e0 X.A 0e2 (λacc s₃=>wpAny 0e0 X.A 0e1 (λYV s₄ => codeAny 0e0 X.A (.compStart 2e1 0 8e0 acc {YV with scope:=relabel sc X.env}) 9e1 s₄) E s₃) E s :=
 uV (τ0:=none::aV fr σ) (O:=λσ1=>∃v0,σ1=v0::aV fr σ) (g:=n9 0) hc S.uE S.kind S.sub (λe s' z=>(hx e s' z).elim) (jO (i:=0) S.nd (show N[0]?=some x by rw[S.N0];rfl) (.inl (Ι1 S.Z6)) (.inr (Ι1 S.Z6))) (hb _ _ _ _ _) I T st hf
  (λC h1 t1 m0 Zj hC hn hk=>Kq I S hf Zj hC hn hk) ⟨_,rfl⟩ w0
  (λi m xs H w=>let ⟨l,z⟩:=turn i m xs H w;⟨l,z.imp id fun⟨g,h⟩=>⟨g,λy H' hy σ1 ⟨v0,e⟩=>by subst e;exact⟨⟨_,rfl⟩,h y H' hy⟩⟩⟩) fin
def iN(hc:X.calm=true)(hx:∀e s,¬ X.xe e s)(S:cS X sc cl x fr N)(hi:PI X 3e2 iter wi)(hb:∀C s H ex pn,PTs 3e0 ifs tc/\PE 3e0 elt te)(hs:∀v,foldedSetIterable iter X.env v=pure v:=by intro _;rfl):PE X 2e1 (l8 wi fr tc te):=by
 intro Xy s σ H Q I h;unfold l8 at h;rw[eval_ListComp];refine wpAny_comprehension_free (use:=none) rfl hs S.BQ S.kind S.names ?_;refine thn (hi Xy s σ H _ I h) λv s1 h1=>thn h1 λitv s2 h2=>?_;obtain⟨it,fp,tn,J,H2,e,I2,T,Yo,f2,W,⟨m0,w0⟩,turn⟩:=h2;subst e;refine xH (RR:=λacc C=>compPost 0e0 X.A X.xe none (EP X Xy σ Q) acc C) hc hx S hb I2 T Yo f2 w0 turn ?_;intro D C s' m' H' hn _ aaC q;exact⟨m',hn,λh' Y9=>⟨.ref D,H',aaC h' Y9,rfl,q⟩⟩
end
end
theorem cS.c9(kind:sc.kind=.function)(nc:(sc.names.all λy=>y.2 !=.cell&&y.2 !=.free)=true)(nm:(sc.names.all λy=>!(y.2==.local)||sc.names.lookup y.1==some .local)=true)(Z6:sc.names.lookup x=some .local):cS X sc [] x [] [x] where
 kind:=kind
 uE:=λy hy e=>by
  have h:=Δ5.mp nc y hy;rw[e] at h;exact absurd h (by decide)
 names:=λy hy e=>by
  have h:=Δ5.mp nm y hy;rw[e] at h;simpa using h
 BQ:=closureFor_none λy hy e=>by
  have h:=Δ5.mp nc y hy;rw[e] at h;exact absurd h (by decide)
 sub:=λy c h=>by cases h
 has:=λy h=>by
  exfalso;have key:∀l:List (Str×NameKind),(l.all λy=>y.2 !=.cell&&y.2 !=.free)=true->∀k,(l.map fun(n,k)=>if (k==NameKind.free&&X.env.scope.kind==.function&&X.env.kindOf n==some .cell) then (n,NameKind.cell) else (n,k)).lookup y=some k->k≠.cell/\k≠.free:=by
   intro l
   induction l with
   | nil=>intro _ k e;cases e
   | cons p r ih =>
    obtain⟨n,kk⟩:=p;intro ha k e;rw[List.all_cons,Β3,Β3] at ha;obtain⟨⟨h1,h2⟩,h3⟩:=ha;have h2':(kk==NameKind.free)=false:=by simpa using h2
    rw[ϔ] at e;dsimp only at e;rw[h2',Bool.false_and,Bool.false_and,if_neg ϓ,List.lookup_cons] at e;cases q:(y==n) with
    | true =>
     rw[q] at e;have e':kk=k:=Ϛ e;subst e';exact⟨by simpa using h1,by simpa using h2⟩
    | false =>
     rw[q] at e;exact ih h3 k e
  rcases h with h|h
  ·exact(key sc.names nc _ h).1 rfl
  ·exact(key sc.names nc _ h).2 rfl
 Z6:=Z6
 nd:=by simp
 N0:=rfl
 frc:=λj hj=>by cases hj
section
mutual
example:=[(post_val_or_str ⟨ϕ (Txt.slice_le z _ _) hz,fin⟩),Txt.slice z lo hi]
def Tz:Ny X (λx lo hi H Q=>∃z,x=.str z/\z.length<=sizeLine/\Q (.str 1e0) H):=by
 intro Xy s σ H x v vl vu lo hi sl Q I rx hs pl pu h;obtain⟨z,rfl,hz,q⟩:=h;obtain⟨t,rfl⟩:=rx;have fin:∀t' k,EP X Xy σ Q (.str 1e0 t') {s with toks:=k}:=λt' k=>⟨.str _,H,I.tok _,⟨_,rfl⟩,q⟩;refine⟨"str",_,F.slot_str_getitem.lookup,typeIs_str s z t,?_⟩;cases pl with
 | none =>
  cases pu with
  | none=>exact wpAny_getItem_str_slice (l:=none) (u:=none) (st:=none) hs rfl 0e0
  | int j uj=>exact wpAny_getItem_str_slice (l:=none) (u:=some (j,uj)) (st:=none) hs rfl 0e0
 | int i ui =>
  cases pu with
  | none=>exact wpAny_getItem_str_slice (l:=some (i,ui)) (u:=none) (st:=none) hs rfl 0e0
  | int j uj=>exact wpAny_getItem_str_slice (l:=some (i,ui)) (u:=some (j,uj)) (st:=none) hs rfl 0e0
end
end
def cW(n:Nat)(Pv:Nat->List V->Hp->Prop)(i m:Nat)(xs:List V)(H:Hp):Prop:=m=n - i/\i<=n/\Pv i xs H
theorem cW.next(hi:i < n)(p:Pv (i+1) xs H):∃m',m' < n - i/\cW n Pv (i+1) m' xs H:=⟨n - (i+1),by omega,rfl,hi,p⟩
section
mutual
example:=[i+1,some y::aV fr σ,Xz H p (.lst xs),xs++[z],.ref p,some (.int (lo+i))::aV fr σ]
variable{tc:TT}{te:TE}{Q:VK}
theorem Iv(Pv:Nat->List V->Hp->Prop)(h0:Pv 0 [] H)(hz:∀i xs H,Pv i xs H->xs.length<=1000000)(hl:∀i xs H,Pv i xs H->c5 K H a ys)(hs:∀i y xs H,i < ys.length->ys[i]?=some y->Pv i xs H->tc 1e0 H λb H2=>if b=true then te 1e0 H2 (λz H3=>∃m',m' < ys.length - i/\cW ys.length Pv 0e0 m' 3e0 H3) else ∃m',m' < ys.length - i/\cW ys.length Pv 0e0 m' xs H2)(hd:∀xs H,Pv ys.length xs H->∀p,H p=none->Q 4e0 2e0) : ∃W:Nat->Nat->List V->Hp->Prop,(∃m,W 0 m [] H)/\∀i m xs H,W i m xs H->xs.length<=1000000 /\ (((Z9 K a).stop i H/\∀p,H p=none->Q 4e0 2e0) \/ ((Z9 K a).go i H/\∀y H',(Z9 K a).yld i H y H'->tc 1e0 H' λb H2=>if b=true then te 1e0 H2 (λz H3=>∃m',m' < m/\W 0e0 m' 3e0 H3) else ∃m',m' < m/\W 0e0 m' xs H2)):=by
 refine⟨cW ys.length Pv,⟨ys.length,by simp,ϖ _,h0⟩,?_⟩;rintro i m xs H ⟨rfl,hi,p⟩;refine⟨hz i xs H p,?_⟩;have q:=hl i xs H p;by_cases XW:i < ys.length
 ·refine .inr ⟨⟨ys,ys[i],q,by simp[XW]⟩,λy H' yy=>?_⟩;obtain⟨e,yy⟩:=yy;subst e;exact hs i y xs _ XW (yy ys q) p
 ·have e:i=ys.length:=by omega
  subst e;exact .inl ⟨⟨ys,q,Ζ _⟩,hd xs H p⟩
theorem EA{lo:Int}(Pv:Nat->List V->Hp->Prop)(h0:Pv 0 [] H)(hz:∀i xs H,Pv i xs H->xs.length<=1000000)(hs:∀i xs H,i < n->Pv i xs H->tc 5e0 H λb H2=>if b=true then te 5e0 H2 (λz H3=>∃m',m' < n - i/\cW n Pv 0e0 m' 3e0 H3) else ∃m',m' < n - i/\cW n Pv 0e0 m' xs H2)(hd:∀xs H,Pv n xs H->∀p,H p=none->Q 4e0 2e0) : ∃W:Nat->Nat->List V->Hp->Prop,(∃m,W 0 m [] H)/\∀i m xs H,W i m xs H->xs.length<=1000000 /\ (((ZV lo n).stop i H/\∀p,H p=none->Q 4e0 2e0) \/ ((ZV lo n).go i H/\∀y H',(ZV lo n).yld i H y H'->tc 1e0 H' λb H2=>if b=true then te 1e0 H2 (λz H3=>∃m',m' < m/\W 0e0 m' 3e0 H3) else ∃m',m' < m/\W 0e0 m' xs H2)):=by
 refine⟨cW n Pv,⟨n,by simp,ϖ _,h0⟩,?_⟩;rintro i m xs H ⟨rfl,hi,p⟩;refine⟨hz i xs H p,?_⟩;by_cases XW:i < n
 ·refine .inr ⟨XW,λy H' yy=>?_⟩;obtain⟨e,rfl⟩:=yy;subst e;exact hs i xs _ XW p
 ·have e:i=n:=by omega
  subst e;exact .inl ⟨Ζ _,hd xs H p⟩
end
end
section
variable{tc:TT}{te:TE}{H1:Hp}{Q:VK}
end
def yP{l:List (Str×NameKind)}{y:Str}{k:NameKind}(h:l.lookup y=some k):(y,k)∈l:=Θ9 h
theorem cS.free{N:List Str}(kind:sc.kind=.function)(nc:(sc.names.all λy=>y.2 !=.cell)=true)(nm:(sc.names.all λy=>!(y.2==.local)||sc.names.lookup y.1==some .local)=true)(Z6:sc.names.lookup x=some .local)(BQ:closureFor sc X.env=pure cl)(sub:∀y c,cl.lookup y=some c->X.env.cells.lookup y=some c)(has:((relabel sc X.env).names.all λy=>(y.2 !=.cell&&y.2 !=.free)||(cl.lookup y.1).isSome)=true)(nd:N.Nodup)(N0:N=x::fr.map λj=>X.N.getD j x)(frc:∀j∈fr,∃y,X.N[j]?=some y/\X.env.kindOf y=some .cell/\((relabel sc X.env).names.lookup y=some .cell\/(relabel sc X.env).names.lookup y=some .free)):cS X sc cl x fr N where
 kind:=kind
 uE:=λy hy e=>by
  have h:=Δ5.mp nc y hy;rw[e] at h;exact absurd h (by decide)
 names:=λy hy e=>by
  have h:=Δ5.mp nm y hy;rw[e] at h;simpa using h
 BQ:=BQ
 sub:=sub
 has:=λy h=>by
  have key:∀k,(relabel sc X.env).names.lookup y=some k->(k=.cell\/k=.free)->∃c,cl.lookup y=some c:=λk e hk=>by
   have h:=Δ5.mp has (y,k) (yP e);rcases hk with rfl|rfl
   ·exact Θ8.mp (by simpa using h)
   ·exact Θ8.mp (by simpa using h)
  rcases h with h|h
  ·exact key _ h (.inl rfl)
  ·exact key _ h (.inr rfl)
 Z6:=Z6
 nd:=nd
 N0:=N0
 frc:=frc
section
mutual
example:=[(.ListComp elt [⟨.Name x px,iter,ifs,0⟩] sc pos),assign (.Name y py) X.env,.Name y py,cQ X sc cl C N s H ex pn]
variable{N:List Str}{elt iter:Expr}{px pos:Pos}{ifs:List Expr}{wi:TI}{tc:TT}{te:TE}
theorem j9{y:Str}{py acF:Pos}(hc:X.calm=true)(hx:∀e s,¬ X.xe e s)(S:cS X sc cl x fr N)(hi:PI X (.Name x px) iter wi)(hb:∀C s H ex pn,PTs 3e0 ifs tc/\PE 3e0 elt te)(hN:X.N.Nodup)(hy:X.N[i]?=some y)(hl:Loc X.env.scope y)(hsw:swapsWith 0e0 (some 2e0) acF.line X.env=pure true:=by rfl)(hs:∀v,foldedSetIterable iter X.env v=pure v:=by intro _;rfl)(hf:X.fn y=true\/X.env.scope.names.lookup y=some .local:=by first|exact .inl rfl|exact .inr rfl|assumption) : PS X (.Assign [.Name y py] 0e0 acF) (Nj (l8 wi fr tc te) (n9 i)):=by
 intro Xy s σ H D I h;have h:l8 wi fr tc te σ H (λx H1=>n9 i x σ H1 D.nx):=h;unfold l8 at h;rw[exec_Assign_Name_used _ _ _ _ hsw];refine Α (wpAny_standAt (Α ?_));show wpAny _ X.A (do let _ <- comprehension 0e0 sc X.env _ (newList []) false (eval iter X.env) (some 1e0)) _ _ s;refine Α (Ε3 (wpAny_comprehension_free (use:=some 1e0) (Q:=λ_ s'=>SP X Xy D .next s') rfl hs S.BQ S.kind S.names
  (thn (hi Xy s σ H _ I h) λv s1 h1=>thn h1 λitv s2 h2=>?_)) (λ_ s' hq=>Β (Β hq)) λ_ _ e=>e)
 obtain⟨it,fp,tn,J,H2,e,I2,T,Yo,f2,W,⟨m0,w0⟩,turn⟩:=h2;subst e;refine xH (Q:=λx H1=>n9 i x σ H1 D.nx) (RR:=λacc C=>compPost (model X.prog X.w) X.A X.xe (some 1e0) (λ_ s'=>SP X Xy D .next s') acc C) hc hx S hb I2 T Yo f2 w0 turn ?_;intro D' C s' m' H' hn fC aaC q;show wpAny _ X.A (assign 2e0 X.env (.ref D')) _ _ _;have I':XC X Xy σ H' s':=aaC s'.heap (Heap.SameBut.refl ..);refine wpAny_assign_Name (BD (v:=.ref D') I' hN hy hl rfl (λs'' I'' ⟨a,hsa,ha⟩=>?_) hf);obtain⟨f0,f1,f2',f3,f4,f5⟩:=fC;have hCa:C≠a:=λz=>by
  rcases ha with ha|ha
  ·exact f1 (z.trans ha)
  ·exact f4 y a ha z.symm
 refine⟨m',hn.sameBut hsa hCa,λh' Y9=>?_⟩;exact⟨σ.set i (some (.ref D')),H',I''.turned (t':=s''.toks) (λb o hb' e=>(Y9.2 b hb').trans e) f0 f1 f3 f4 f5,q⟩
end
end
section
variable{prog:Program}
end
section
mutual
example:=[.int i,.str y,.str x,.int j]
variable{Q:VK}{i j:Int}{y:Str}{v:V}
def QT:kF 0 (some v::σ) H Q=Q v H:=by simp[kF]
def rD{o:Option V}:kF (n+1) (o::σ) H Q=kF n σ H Q:=by simp[kF]
def V0:kF 1 (o0::some v::σ) H Q=Q v H:=(rD.trans QT)
def V2:kF 2 (o0::o1::some v::σ) H Q=Q v H:=(rD.trans V0)
def V3:kF 3 (o0::o1::o2::some v::σ) H Q=Q v H:=(rD.trans V2)
def V4:kF 4 (o0::o1::o2::o3::some v::σ) H Q=Q v H:=(rD.trans V3)
def V5:kF 5 (o0::o1::o2::o3::o4::some v::σ) H Q=Q v H:=(rD.trans V4)
def V6:kF 6 (o0::o1::o2::o3::o4::o5::some v::σ) H Q=Q v H:=(rD.trans V5)
def V7:kF 7 (o0::o1::o2::o3::o4::o5::o6::some v::σ) H Q=Q v H:=(rD.trans V6)
def V8:kF 8 (o0::o1::o2::o3::o4::o5::o6::o7::some v::σ) H Q=Q v H:=(rD.trans V7)
def V9{o8:Option V}:kF 9 (o0::o1::o2::o3::o4::o5::o6::o7::o8::some v::σ) H Q=Q v H:=(rD.trans V8)
def QU{o8 o9:Option V}:kF 10 (o0::o1::o2::o3::o4::o5::o6::o7::o8::o9::some v::σ) H Q=Q v H:=(rD.trans V9)
def QV{o8 o9 o10:Option V}:kF 11 (o0::o1::o2::o3::o4::o5::o6::o7::o8::o9::o10::some v::σ) H Q=Q v H:=(rD.trans QU)
def QW{o8 o9 o10 o11:Option V}:kF 12 (o0::o1::o2::o3::o4::o5::o6::o7::o8::o9::o10::o11::some v::σ) H Q=Q v H:=(rD.trans QV)
def QX{o8 o9 o10 o11 o12:Option V}:kF 13 (o0::o1::o2::o3::o4::o5::o6::o7::o8::o9::o10::o11::o12::some v::σ) H Q=Q v H:=(rD.trans QW)
def QY{o8 o9 o10 o11 o12 o13:Option V}:kF 14 (o0::o1::o2::o3::o4::o5::o6::o7::o8::o9::o10::o11::o12::o13::some v::σ) H Q=Q v H:=(rD.trans QX)
def V1{o8 o9 o10 o11 o12 o13 o14:Option V}:kF 15 (o0::o1::o2::o3::o4::o5::o6::o7::o8::o9::o10::o11::o12::o13::o14::some v::σ) H Q=Q v H:=(rD.trans QY)
def ET{α β:Type}{f:α->β}{a:α}{l:List α}:List.map f (a::l)=f a::List.map f l:=rfl
def LX{α β:Type}{f:α->β}:List.map f []=[]:=rfl
def Xg{C:Int->Int->Prop}:rI C g 0e0 3e0 H Q=(C i j/\Q (g i j) H):=by simp[rI]
def VZ:PJ g 0e0 3e0 H Q=Q (g i j) H:=by simp[PJ]
def Xh{g:Int->V}:rU g 0e0 H Q=Q (g i) H:=by simp[rU]
def w_lit(h:Nat.ble n 1000=true):(n<=sizeLine)=True:=eq_true (Nat.le_of_lt (small1000 (Nat.le_of_ble_eq_true h)))
theorem VW:PF 0e0 3e0 H Q=Q (.bl (decide (i=j))) H:=by simp only[PF,show YI 0e0 3e0=true from rfl,V.int.injEq,true_and]
theorem VX:PF 2e0 1e0 H Q=Q (.bl (decide (x=y))) H:=by simp only[PF,show YI 2e0 1e0=true from rfl,V.str.injEq,true_and]
theorem VY:VH 2e0 1e0 H Q=Q (.bl (!decide (x=y))) H:=by simp only[VH,show YI 2e0 1e0=true from rfl,V.str.injEq,true_and]
end
end
def gD{a b:String}:(Str.ofString a=Str.ofString b)=(a=b):=by
 refine propext ⟨λh=>?_,λh=>by rw[h]⟩;rw[Str.ofString_eq_toList,Str.ofString_eq_toList] at h;have e:(a.toList.map Char.toNat)=(b.toList.map Char.toNat):=by
  have:=Η5 (λz:Str=>z.cps.toList) h;simpa using this
 have inj:∀x y:Char,x.toNat=y.toNat->x=y:=λx y q=>Char.ext (UInt32.toNat_inj.mp q);have:=(List.map_inj_right (f:=Char.toNat) (λx y q=>inj x y q)).mp e;exact String.toList_inj.mp this
def Kp(S:List Addr)(H H':Hp):Prop:=∀b o,H b=some o->b∉S->H' b=some o
section
mutual
example:=[Xz H p o]
variable{S T:List Addr}{H1 H2:Hp}{p:Addr}{o:HO}
def Kp.refl:Kp S H H:=λ_ _ h _=>h
def Kp.trans(x:Kp S H H1)(y:Kp S H1 H2):Kp S H H2:=λb o h n=>y b o (x b o h n) n
def Kp.mono(x:Kp S H H1)(h:∀b∈S,b∈T):Kp T H H1:=λb o e n=>x b o e λz=>n (h b z)
def Kp.new(h:H p=none):Kp S H 0e0:=λb u e _=>by rw[aC (aD e h)];exact e
def q0D(h:H p=none):Kp [] H 0e0:=Kp.new h
def Kp.set(h:p∈S):Kp S H 0e0:=λb u e n=>by rw[aC (show b≠p from λz=>n (by rw[z];exact h))];exact e
theorem Kp.at(x:Kp S H H1)(e:H a=some o)(n:a∉S:=by first|exact Θ|simp_all):H1 a=some o:=x a o e n
def Kp.same(x:Kp [] H H1):Same H H1:=λb o e=>x b o e (by simp)
def Kp.of(x:Same H H1):Kp S H H1:=λb o e _=>x b o e
def Kp.drop(x:Kp (p::S) H H1)(h:H p=none):Kp S H H1:=λb o e n=>x b o e (by
 simp only[Ε,not_or];exact⟨aD e h,n⟩)
end
end
mutual
example:=[.lst xs,.tup xs,.ref p,fK xs lo hi]
abbrev Tg{α:Type}(_:α):Type:=Unit
def jN{α:Type}(o:Option α)(k:α->Prop)(_u:Tg k:=()):Prop:=match o with
 | some x=>k x
 | none=>False
def JR(x:V)(k:Bool->Prop)(_u:Tg k:=()):Prop:=match x with
 | .bl b=>k b
 | _=>False
def eC(o:Option HO)(k:List V->Prop)(_u:Tg k:=()):Prop:=match o with
 | some 0e0=>k xs
 | _=>False
def mW(o:Option HO)(k:List V->Prop)(_u:Tg k:=()):Prop:=match o with
 | some 0e0=>k xs
 | some 1e0=>k xs
 | _=>False
def cN(o:Option HO)(k:List (Key×V)->Prop)(_u:Tg k:=()):Prop:=match o with
 | some (.dK xs)=>k xs
 | _=>False
def aU(x:V)(k:Addr->Prop)(_u:Tg k:=()):Prop:=match x with
 | .ref p=>k p
 | _=>False
def gT(x:V)(k:Int->Prop)(_u:Tg k:=()):Prop:=match x with
 | .int i=>k i
 | _=>False
def dO{α:Type}{o:Option α}{k:α->Prop}(h:jN o k):∃x,o=some x/\k x:=by
 cases o with
 | none=>exact h.elim
 | some x=>exact⟨x,rfl,h⟩
def S8{x:V}{k:Bool->Prop}(h:JR x k):∃b,x=.bl b/\k b:=by
 cases x with
 | bl b=>exact⟨b,rfl,h⟩
 | _=>exact h.elim
def uK{x:V}{k:Bool->Prop}:(∃b,x=.bl b/\k b)=JR x k:=by
 refine propext ⟨fun⟨b,e,h⟩=>by subst e;exact h,S8⟩
def aN{x:V}{k:Addr->Prop}(h:aU x k):∃b,x=.ref b/\k b:=by
 cases x with
 | ref b=>exact⟨b,rfl,h⟩
 | _=>exact h.elim
def eJ{x:V}{k:Int->Prop}(h:gT x k):∃b,x=.int b/\k b:=by
 cases x with
 | int b=>exact⟨b,rfl,h⟩
 | _=>exact h.elim
def eV(h:eC o k):∃xs,o=some 0e0/\k xs:=by
 unfold eC at h;split at h
 ·exact⟨_,rfl,h⟩
 ·exact h.elim
def oK(h:mW o k):∃xs,(o=some 0e0\/o=some 1e0)/\k xs:=by
 unfold mW at h;split at h
 ·exact⟨_,.inl rfl,h⟩
 ·exact⟨_,.inr rfl,h⟩
 ·exact h.elim
def c8{k:List (Key×V)->Prop}(h:cN o k):∃xs,o=some (.dK xs)/\k xs:=by
 unfold cN at h;split at h
 ·exact⟨_,rfl,h⟩
 ·exact h.elim
def Wa:R2:=λx y H Q=>match x with
 | .ref p=>mW (H p) λxs=>gT y λi=>jN (iR xs i) λv=>Q v H
 | .str z=>gT y λi=>z.length<=sizeLine/\jN (iR z.cps.toList i) λc=>Q (.str ⟨#[c]⟩) H
 | _=>False
def NP(H:Hp)(Q:VK)(a:Addr)(oa ob:Option HO):Prop:=match oa,ob with
 | some 0e0,some (.lst ys)=>xs.length+ys.length<=sizeLine/\∀p,H p=none->Q 2e0 (Xz H p (.lst (xs++ys)))
 | some 1e0,some (.tup ys)=>xs≠[]/\xs.length+ys.length<=sizeLine/\(ys≠[]->∀p,H p=none->Q 2e0 (Xz H p (.tup (xs++ys))))/\(ys=[]->Q (.ref a) H)
 | _,_=>False
def Kb:R2:=λx y H Q=>match x,y with
 | .int i,.int j=>Q (.int (i+j)) H
 | .str a,.str b=>a.length+b.length<=sizeLine/\Q (.str (a++b)) H
 | .ref a,.ref b=>NP H Q a (H a) (H b)
 | _,_=>False
def Kd(lo hi:Option Int)(H:Hp)(Q:VK)(o:Option HO):Prop:=match o with
 | some 0e0=>∀p,H p=none->Q 2e0 (Xz H p (.lst 3e0))
 | some 1e0=>¬ (HT.fG xs.length 0 lo=0/\HT.fG xs.length xs.length hi=xs.length)/\∀p,H p=none->Q 2e0 (Xz H p (.tup 3e0))
 | _=>False
def Wb:V->Option Int->Option Int->Hp->VK->Prop:=λx lo hi H Q=>match x with
 | .str z=>z.length<=sizeLine/\Q (.str (Txt.slice z lo hi)) H
 | .ref a=>Kd lo hi H Q (H a)
 | _=>False
def NS:List V->Hp->VK->Prop:=λvs H Q=>match vs with
 | [.str z]=>z.length<=sizeLine/\Q (.int z.length) H
 | [.ref p]=>mW (H p) λxs=>Q (.int xs.length) H
 | _=>False
def Uo:V->V->V->Hp->(Hp->Prop)->Prop:=λo i v H Q=>aU o λp=>gT i λk=>eC (H p) λxs=>jN (yK xs.length k) λj=>Q (Xz H p (.lst (xs.set j v)))
def kO:V->Option Key
 | .int i=>some (.inl i)
 | .str x=>some (.inr x)
 | .XB=>some .no
 | _=>none
def Ce{y:V}{k:Key}(h:kO y=some k):y=kV k:=by
 cases y<;>simp only[kO,ϒ,reduceCtorEq] at h<;>subst h<;>rfl
def Qh(td ty:TE):TE:=λσ H Q=>td σ H λx H1=>aU x λa=>cN (H1 a) λ_=>ty σ H1 λy H2=>cN (H2 a) λkvs=>jN (kO y) λk=>Q ((bY kvs k).getD .XB) H2
def Uj(td ty:TE):TE:=λσ H Q=>td σ H λx H1=>ty σ H1 λy H2=>aU x λa=>cN (H2 a) λkvs=>jN (kO y) λk=>jN (bY kvs k) λv=>Q v H2
def Rl(td ty tv:TE):TS:=λD σ H=>tv σ H λv H1=>td σ H1 λx H2=>ty σ H2 λy H3=>aU x λa=>cN (H3 a) λkvs=>jN (kO y) λk=>kvs.length < sizeLine/\D.nx σ (Xz H3 a (.dK (dS kvs k v)))
def Ws(neg:Bool):R2:=λx y H Q=>aU y λp=>mW (H p) λxs=>eB x=true/\xs.all eB=true/\Q (.bl (if neg=true then !Ag x xs else Ag x xs)) H
def Rg:R2:=λx y H Q=>match y with
 | .XB=>Q (.bl (decide (x=.XB))) H
 | _=>False
def Qo:R2:=λx y H Q=>match y with
 | .XB=>Q (.bl (!decide (x=.XB))) H
 | _=>False
def Ri:List V->Hp->VK->Prop:=λvs H Q=>match vs with
 | [.int i,.int j]=>Q (.int (if j > i then j else i)) H
 | _=>False
def Rj:List V->Hp->VK->Prop:=λvs H Q=>match vs with
 | [.int i,.int j]=>Q (.int (if j < i then j else i)) H
 | _=>False
def Ue(to te:TE):TE:=λσ H Q=>to σ H λx H1=>aU x λa=>eC (H1 a) λ_=>te σ H1 λy H2=>eC (H2 a) λxs=>xs.length < sizeLine/\Q .XB (Xz H2 a (.lst (xs++[y])))
def Um(to:TE):TE:=λσ H Q=>to σ H λx H1=>aU x λa=>eC (H1 a) λxs=>jN (xs[xs.length - 1]?) λy=>Q y (Xz H1 a (.lst xs.dropLast))
end
section
mutual
example:=[(λe=>.inl (.inl e)),.inl ‹_›,.inl e,(thn (ho Xy s σ H _ I h) λv s1 ⟨x,H1,I1,r1,q1⟩=>?_),(.inl ⟨rfl,xs,.inl (.inl e1)⟩),apos.endLine==XG.line,starEach [] X.env,eval o X.env]
def Ek.imp{r r':R2}(h:Ek X r)(f:∀x y H Q,r' x y H Q->r x y H Q):Ek X r':=λvalue slice Xy s σ H x y v u Q I rx ry q=>h value slice Xy s σ H x y v u Q I rx ry (f _ _ _ _ q)
def i9.imp{f:Value->Value->Sem Value}{r r':R2}(h:i9 X f r)(g:∀x y H Q,r' x y H Q->r x y H Q):i9 X f r':=λXy s σ H x y v u Q I rx ry q=>h Xy s σ H x y v u Q I rx ry (g _ _ _ _ q)
def aY:Ek X Wa:=SV.imp λx y H Q h=>by
 cases x with
 | ref p =>
  obtain⟨xs,e,h⟩:=oK h;obtain⟨i,rfl,h⟩:=eJ h;obtain⟨v,e2,h⟩:=dO h;rcases e with e|e
  ·exact .inl ⟨_,_,_,_,rfl,rfl,.inl 2e0,e2,h⟩
  ·exact .inr (.inl ⟨_,_,_,_,rfl,rfl,.inl 2e0,e2,h⟩)
 | str z =>
  obtain⟨i,rfl,h1,h⟩:=eJ h;obtain⟨v,e2,h⟩:=dO h;exact .inr (.inr ⟨_,_,_,rfl,rfl,h1,e2,h⟩)
 | _=>exact h.elim
def dB:i9 X (binaryOp .Add) Kb:=(Tc.or (Fd.or (Td.or Hb))).imp λx y H Q h=>by
 unfold Kb NP at h;split at h
 ·exact .inl ⟨_,_,rfl,rfl,h⟩
 ·exact .inr (.inl ⟨_,_,rfl,rfl,h.1,h.2⟩)
 ·split at h
  ·exact .inr (.inr (.inl ⟨_,_,_,_,rfl,rfl,‹_›,‹_›,h.1,h.2⟩))
  ·exact .inr (.inr (.inr ⟨_,_,_,_,rfl,rfl,.inl 1e0,.inl 1e0,h.1,h.2.1,h.2.2.2,h.2.2.1⟩))
  ·exact h.elim
 ·exact h.elim
def Xd:Ny X Wb:=λXy s σ H x v vl vu lo hi sl Q I rx hs pl pu h=>by
 refine(CA.or (MO.or Tz)) Xy s σ H x v vl vu lo hi sl Q I rx hs pl pu ?_;unfold Wb Kd at h;split at h
 ·exact .inr (.inr ⟨_,rfl,h.1,h.2⟩)
 ·split at h
  ·exact .inl ⟨_,_,rfl,.inl 1e0,h⟩
  ·exact .inr (.inl ⟨_,_,rfl,.inl 1e0,h.1,h.2⟩)
  ·exact h.elim
 ·exact h.elim
def gE:eI X (.builtin "len") NS:=λXy s σ H xs us Q I r h=>by
 unfold NS at h;split at h
 ·exact xE Xy s σ H _ us Q I r ⟨_,_,rfl,⟨h.1,rfl⟩,h.2⟩
 ·obtain⟨ys,e,h⟩:=oK h;rcases e with e|e
  ·exact xE Xy s σ H _ us Q I r ⟨_,_,rfl,.inl ⟨_,.inl 2e0,rfl⟩,h⟩
  ·exact xE Xy s σ H _ us Q I r ⟨_,_,rfl,.inr ⟨_,.inl 2e0,rfl⟩,h⟩
 ·exact h.elim
def DZ:PSet X Uo:=λXy s σ H o i v ov iv u Q I ro ri rv h=>by
 obtain⟨p,rfl,h⟩:=aN h;obtain⟨k,rfl,h⟩:=eJ h;obtain⟨xs,e,h⟩:=eV h;obtain⟨j,e2,h⟩:=dO h;exact MK Xy s σ H _ _ v ov iv u Q I ro ri rv ⟨_,_,_,_,rfl,rfl,e,e2,h⟩
def Cm:i9 X (compareOp .In) (Ws false):=Bl.imp λx y H Q h=>by
 obtain⟨p,rfl,h⟩:=aN h;obtain⟨xs,e,h1,h2,h⟩:=oK h;exact⟨_,_,rfl,e.imp 0e0 0e0,h1,h2,h⟩
def uN:i9 X (compareOp .NotIn) (Ws true):=Cn.imp λx y H Q h=>by
 obtain⟨p,rfl,h⟩:=aN h;obtain⟨xs,e,h1,h2,h⟩:=oK h;exact⟨_,_,rfl,e.imp 0e0 0e0,h1,h2,h⟩
def uM:i9 X (compareOp .Is) Rg:=Tf.imp λx y H Q h=>by
 cases y with
 | XB=>exact⟨rfl,h⟩
 | _=>exact h.elim
def Jm:i9 X (compareOp .IsNot) Qo:=Pd.imp λx y H Q h=>by
 cases y with
 | XB=>exact⟨rfl,h⟩
 | _=>exact h.elim
def tL(hc:X.calm=true):eI X (.builtin "max") Ri:=λXy s σ H xs us Q I r h=>by
 refine Ip hc Xy s σ H xs us Q I r ?_;unfold Ri at h;split at h
 ·exact⟨_,_,rfl,h⟩
 ·exact h.elim
def AN(hc:X.calm=true):eI X (.builtin "min") Rj:=λXy s σ H xs us Q I r h=>by
 refine Iq hc Xy s σ H xs us Q I r ?_;unfold Rj at h;split at h
 ·exact⟨_,_,rfl,h⟩
 ·exact h.elim
variable{o e:Expr}{to te:TE}{apos XG:Pos}
theorem wK(ho:PE X o to)(he:PE X e te)(Yc:attributeBase o "append" X.env 7e0=eval o X.env:=by rfl)(aa5:((backTo XG (starEach [e] X.env)).all (λx=>!x.1)&&(backToKw XG (keywordEach [] X.env)).all (λx=>x.1.isSome)&&decide ([e].length+([]:List Keyword).length+(if ([]:List Keyword).isEmpty then 0 else 1) < 30))=true:=by rfl)(Yd:5e0=true:=by rfl)(hs:starEach [e] X.env=(false,eval e X.env)::starEach [] X.env:=by rfl)(Zl:(backTo XG 6e0).any (·.1)=false:=by rfl) : PE X (.Call (.Attribute o "append" apos) [e] [] XG) (Ue to te):=by
 intro Xy s σ H Q I h;refine wpAny_Call_method_late Yc aa5 Yd rfl 3e0;obtain⟨a,rfl,q1⟩:=aN q1;obtain⟨xs,e1,q1⟩:=eV q1;obtain⟨h1,h2⟩:=FI (T:="list") I1 r1 4e0;refine⟨"list","list.append",PySem.F.plainAttrs_list,PySem.F.slot_list_append,PySem.F.type_list_append,h1,h2,?_⟩;have q2:oW te z9 σ H1 (λvs H2=>vs.length=1/\eC (H2 a) λxs=>xs.length < sizeLine/\Q .XB (Xz H2 a (.lst (xs++vs)))):=by
  simpa only[oW,z9,Κ,Α8,Nat.zero_add,true_and] using q1
 have hA:=Hd he bD hs XG Xy s1 σ H1 _ I1 q2;rw[hs] at hA ⊢;refine Γ7 (by show(false||(backTo XG 6e0).any (·.1))=false;rw[Zl]<;>rfl) (Ι2 ?_);refine thn hA λus s2 ⟨vs,H2,I2,r2,l2,q3⟩=>?_;obtain⟨xs,e3,q4,q5⟩:=eV q3
 match vs,l2,r2,q5 with
 | [y],_,r2,q5=>exact IZ Xy s2 σ H2 _ _ v us Q I2 r1 r2 ⟨_,_,_,rfl,rfl,e3,q4,q5⟩
def Co(ho:PE X o to)(Yc:attributeBase o "pop" X.env 7e0=eval o X.env:=by rfl)(Yd:5e0=true:=by rfl):PE X (.Call (.Attribute o "pop" apos) [] [] XG) (Um to):=by
 intro Xy s σ H Q I h;refine wpAny_Call_method0_late Yc Yd 3e0;obtain⟨a,rfl,q1⟩:=aN q1;obtain⟨xs,e1,q1⟩:=eV q1;obtain⟨y,e2,q1⟩:=dO q1;obtain⟨h1,h2⟩:=FI (T:="list") I1 r1 4e0;exact⟨"list","list.pop",PySem.F.plainAttrs_list,PySem.F.slot_list_pop,PySem.F.type_list_pop,h1,h2,Γ7 rfl (PySem.evalArgs_none (S5 Xy s1 σ H1 _ [] v [] Q I1 r1 .nil ⟨_,_,_,rfl,rfl,e1,e2,q1⟩))⟩
end
end
section
variable{o i e value:Expr}{pos pos' apos XG:Pos}{td ty tv:TE}
def Hh(hu:X.A.units+1 < cLine)(ho:PE X o td)(he:PE X e ty)(m:M1 X o "get" apos e XG):PE X (.Call (.Attribute o "get" apos) [e] [] XG) (Qh td ty):=by
 intro Xy s σ H Q I h;refine wpAny_Call_method m.base m.Zu m.line Ζ6 Η7 PySem.F.type_dict_get (thn (ho Xy s σ H _ I h) λu s1 ⟨x,H1,I1,rx,q1⟩=>?_);obtain⟨a,rfl,q1⟩:=aN q1;obtain⟨kvs,e1,q1⟩:=c8 q1;obtain rfl:u=Value.ref a:=rx;obtain⟨t1,t2,_⟩:=tV I1 (.inl ⟨_,.inl e1⟩);refine⟨t1,t2,?_⟩;rw[m.trees];refine Γ7 rfl (Ι2 (Ζ5 (thn (he Xy s1 σ H1 _ I1 q1) λiv s2 ⟨y,H2,I2,ry,q2⟩=>Κ7 ?_)));obtain⟨kvs,e1,q2⟩:=c8 q2;obtain⟨k,e2,q2⟩:=dO q2;have g:DGet H2 a y (bY kvs k):=by rw[Ce e2];exact DGet.k e1
 exact Rv hu I2 g ry λw' s3 I3 YH=>⟨_,H2,I3,YH,q2⟩
def sS(hu:X.A.units+1 < cLine)(ho:PE X o td)(hi:PE X i ty)(hs:Q7 i):PE X (.Subscript o i pos) (Uj td ty):=by
 intro Xy s σ H Q I h;refine HP PySem.F.slot_dict_getitem.lookup hs (thn (ho Xy s σ H _ I h) λu s1 ⟨x,H1,I1,rx,q1⟩=>thn (hi Xy s1 σ H1 _ I1 q1) λiv s2 ⟨y,H2,I2,ry,q2⟩=>?_);obtain⟨a,rfl,q2⟩:=aN q2;obtain⟨kvs,e1,q2⟩:=c8 q2;obtain⟨k,e2,q2⟩:=dO q2;obtain⟨v,e3,q2⟩:=dO q2;obtain rfl:u=Value.ref a:=rx;have g:DGet H2 a y (some v):=by rw[Ce e2,<- e3];exact DGet.k e1
 exact⟨Dd I2 g,IC hu I2 g ry λw' s3 I3 YH=>⟨v,H2,I3,YH,q2⟩⟩
def Pp(hu:X.A.units+1 < cLine)(ho:PE X o td)(hi:PE X i ty)(hv:PE X value tv)(hs:swapsWith value (some (.Subscript o i pos')) pos.line X.env=pure false:=by rfl) : PS X (.Assign [.Subscript o i pos'] value pos) (Rl td ty tv):=by
 intro Xy s σ H D I h;refine wpAny_Assign_Subscript (thn (hv Xy s σ H _ I h) λr s1 ⟨v,H1,I1,rv,q1⟩=>thn (ho Xy s1 σ H1 _ I1 q1) λu s2 ⟨x,H2,I2,rx,q2⟩=>thn (hi Xy s2 σ H2 _ I2 q2) λiv s3 ⟨y,H3,I3,ry,q3⟩=>?_) hs;obtain⟨a,rfl,q3⟩:=aN q3;obtain⟨kvs,e1,q3⟩:=c8 q3;obtain⟨k,e2,q3⟩:=dO q3;obtain rfl:u=Value.ref a:=rx;have g:DPut H3 a y v (Xz H3 a (.dK (dS kvs k v))):=by rw[Ce e2];exact DPut.k e1 q3.1
 exact ID hu I3 g ry rv λs4 I4=>⟨σ,_,I4,q3.2⟩
end
section
mutual
example:=[.ref p,some (.lst vs),.str x,.int i,.bl false]
variable{Q:VK}{D:Ends}{t u:TS}{te ta tb tc to ti:TE}{tl th:TO}{g:TG}{gs:TGs}{tt tt':TT}{as:TA}{i j:Int}{y:Str}{v w:V}{b:Bool}{p:Addr}{r r':R2}{B:Bool->Hp->Prop}
def Ve:FA t u D σ H=t {D with nx:=u D} σ H:=rfl
def UA:Nj te g D σ H=te σ H λx H1=>g x σ H1 D.nx:=rfl
def Sr:n9 n v σ H N=N (σ.set n (some v)) H:=rfl
def Vd:TC te D σ H=te σ H D.rt:=rfl
def UU:JK tt t u D σ H=tt σ H λb H1=>if b=true then t D σ H1 else u D σ H1:=rfl
def Lj:Ed te σ H B=te σ H λx H'=>JR x λk=>B k H':=by simp only[Ed,uK]
def WR:tB te σ H B=te σ H λx H'=>JR x λk=>B k H':=by simp only[tB,uK]
def WJ:Xl tt ta tb σ H Q=tt σ H λc H1=>if c=true then ta σ H1 Q else tb σ H1 Q:=rfl
def WN:PU r ta tb σ H Q=ta σ H λx H1=>tb σ H1 λy H2=>r x y H2 Q:=rfl
def WS{q:V->Hp->VK->Prop}:Xp q ta σ H Q=ta σ H λx H1=>q x H1 Q:=rfl
def Xs:tC v σ H Q=Q v H:=rfl
def RJ{A:List V->Hp->Prop}:oW te as σ H A=te σ H λx H1=>as σ H1 λxs H2=>A (x::xs) H2:=rfl
def U5{A:List V->Hp->Prop}:z9 σ H A=A [] H:=rfl
def KW{sp:Sp}{E:XK}:HQ sp [] E as σ H Q=as σ H λvs H1=>sp vs H1 Q E:=by simp only[HQ,Η0]
def WI{q:List V->Hp->VK->Prop}:Xe q as σ H Q=as σ H λvs H1=>q vs H1 Q:=rfl
def UZ:VP as σ H Q=as σ H λxs H1=>xs.length<=sizeLine/\∀p,H1 p=none->Q 0e0 (Xz H1 p (.lst xs)):=rfl
def Vj:VT as σ H Q=as σ H λxs H1=>xs.length<=sizeLine/\∀p,H1 p=none->Q 0e0 (Xz H1 p (.tup xs)):=rfl
def RO:Nk σ H Q = ∀p,H p=none->Q 0e0 (Xz H p (.dK [])):=rfl
def RP:Nl te D σ H=te σ H λ_ H1=>D.nx σ H1:=rfl
def Ss:HS D σ H=D.nx σ H:=rfl
def RE:Ni ta tb σ H Q=ta σ H λx H1=>JR x λc=>if c=true then tb σ H1 Q else Q 4e0 H1:=by simp only[Ni,uK]
def Va:TB ta tb σ H Q=ta σ H λx H1=>JR x λc=>if c=true then Q (.bl true) H1 else tb σ H1 Q:=by simp only[TB,uK]
def Su:Nm ta σ H Q=ta σ H λx H1=>JR x λc=>Q (.bl (!c)) H1:=by simp only[Nm,uK]
def Uy:VN tt tt' σ H B=tt σ H λc H1=>if c=true then tt' σ H1 B else B false H1:=rfl
def WO:Xn tt tt' σ H B=tt σ H λc H1=>if c=true then B true H1 else tt' σ H1 B:=rfl
def U6:VQ tt σ H B=tt σ H λc H1=>B (!c) H1:=rfl
def Oh:Fy r r' ta tb tc σ H Q=ta σ H λx H1=>tb σ H1 λy H2=>r x y H2 λz H3=>JR z λk=>if k=true then tc σ H3 λw' H4=>r' y w' H4 Q else Q 4e0 H3:=by simp only[Fy,uK]
def WQ{q:V->Option Int->Option Int->Hp->VK->Prop}:Xo q te tl th σ H Q=te σ H λx H1=>tl σ H1 λl H2=>th σ H2 λu H3=>q x l u H3 Q:=rfl
def Mh{k:Int->Prop}:(∃i,v=.int i/\k i)=gT v k:=propext ⟨fun⟨i,e,h⟩=>by subst e;exact h,eJ⟩
def Sv:Np te σ H O=te σ H λx H1=>gT x λi=>O (some i) H1:=by simp only[Np,Mh]
def Le:HU σ H O=O none H:=rfl
def RZ{s:TSet}:Vp to ti s v σ H N=to σ H λo H1=>ti σ H1 λi H2=>s o i v H2 λH3=>N σ H3:=rfl
def RY:OV [] σ H N=N σ H:=by simp[OV]
def Ow:GJ g gs (v::vs) σ H N=g v σ H λσ' H'=>gs vs σ' H' N:=propext ⟨fun⟨_,_,e,h⟩=>by cases e;exact h,λh=>⟨_,_,rfl,h⟩⟩
def RW:Qh ta tb σ H Q=ta σ H λx H1=>aU x λa=>cN (H1 a) λ_=>tb σ H1 λy H2=>cN (H2 a) λkvs=>jN (kO y) λk=>Q ((bY kvs k).getD .XB) H2:=rfl
def UT:Uj ta tb σ H Q=ta σ H λx H1=>tb σ H1 λy H2=>aU x λa=>cN (H2 a) λkvs=>jN (kO y) λk=>jN (bY kvs k) λv=>Q v H2:=rfl
def Vc:Rl ta tb tc D σ H=tc σ H λv H1=>ta σ H1 λx H2=>tb σ H2 λy H3=>aU x λa=>cN (H3 a) λkvs=>jN (kO y) λk=>kvs.length < sizeLine/\D.nx σ (Xz H3 a (.dK (dS kvs k v))):=rfl
def Uz:Ue to te σ H Q=to σ H λx H1=>aU x λa=>eC (H1 a) λ_=>te σ H1 λy H2=>eC (H2 a) λxs=>xs.length < sizeLine/\Q .XB (Xz H2 a (.lst (xs++[y]))):=rfl
def Vb:Um to σ H Q=to σ H λx H1=>aU x λa=>eC (H1 a) λxs=>jN (xs[xs.length - 1]?) λy=>Q y (Xz H1 a (.lst xs.dropLast)):=rfl
def U9{α:Type}{z:α}{k:α->Prop}{u:Tg k}:@jN _ (some z) k u=k z:=rfl
def U8{k:Bool->Prop}{u:Tg k}:@JR (.bl b) k u=k b:=rfl
def OE{k:Addr->Prop}{u:Tg k}:@aU 0e0 k u=k p:=rfl
def OC{k:Int->Prop}{u:Tg k}:@gT 3e0 k u=k i:=rfl
def OD{u:Tg k}:@eC 1e0 k u=k vs:=rfl
def Lf{u:Tg k}:@mW 1e0 k u=k vs:=rfl
def Lg{u:Tg k}:@mW (some (.tup vs)) k u=k vs:=rfl
def OB{k:List (Key×V)->Prop}{u:Tg k}:@cN (some (.dK kvs)) k u=k kvs:=rfl
def UX:Wa 0e0 w H Q=mW (H p) λxs=>gT w λi=>jN (iR xs i) λv=>Q v H:=rfl
def UY:Wa 2e0 w H Q=gT w λi=>x.length<=sizeLine/\jN (iR x.cps.toList i) λc=>Q (.str ⟨#[c]⟩) H:=rfl
def RB:Kb 3e0 (.int j) H Q=Q (.int (i+j)) H:=rfl
def RD:Kb 2e0 (.str y) H Q=(x.length+y.length<=sizeLine/\Q (.str (x++y)) H):=rfl
def RC:Kb (.ref a) 0e0 H Q=NP H Q a (H a) (H p):=rfl
def RH{us:List V}:NP H Q a 1e0 (some (.lst us))=(vs.length+us.length<=sizeLine/\∀p,H p=none->Q 0e0 (Xz H p (.lst (vs++us)))):=rfl
def Vi{lo hi:Option Int}:Wb 2e0 lo hi H Q=(x.length<=sizeLine/\Q (.str (Txt.slice x lo hi)) H):=rfl
def Vh{lo hi:Option Int}:Wb (.ref a) lo hi H Q=Kd lo hi H Q (H a):=rfl
def RK{lo hi:Option Int}:Kd lo hi H Q 1e0 = ∀p,H p=none->Q 0e0 (Xz H p (.lst (fK vs lo hi))):=rfl
def Sk:NS [.str x] H Q=(x.length<=sizeLine/\Q (.int x.length) H):=rfl
def Sj:NS [.ref p] H Q=mW (H p) λxs=>Q (.int xs.length) H:=rfl
def Vf{N:Hp->Prop}:Uo 0e0 3e0 v H N=eC (H p) λxs=>jN (yK xs.length i) λj=>N (Xz H p (.lst (xs.set j v))):=rfl
def WK{neg:Bool}:Ws neg v 0e0 H Q=mW (H p) λxs=>eB v=true/\xs.all eB=true/\Q (.bl (if neg=true then !Ag v xs else Ag v xs)) H:=rfl
def Sb:kO 3e0=some (.inl i):=rfl
def Se:kO 2e0=some (.inr x):=rfl
def Sd:kO .XB=some .no:=rfl
theorem r8{α:Type}{xs:List α}{k:Nat}:iR xs (OfNat.ofNat k)=xs[k]?:=by
 show iR xs ((k:Nat):Int)=xs[k]?;cases e:xs[k]? with
 | some z=>exact rQ e
 | none =>
  have:=Θ0.mp e;unfold iR yK;rw[if_pos (by omega),if_neg (by omega)];rfl
def UB{α:Type}{xs:List α}:iR xs 0=xs[0]?:=r8 (k:=0)
def UC{α:Type}{xs:List α}:iR xs 1=xs[1]?:=r8 (k:=1)
def UD{α:Type}{xs:List α}:iR xs 2=xs[2]?:=r8 (k:=2)
def UE{α:Type}{xs:List α}:iR xs 3=xs[3]?:=r8 (k:=3)
def UG{α:Type}{xs:List α}:iR xs 4=xs[4]?:=r8 (k:=4)
def UH{α:Type}{xs:List α}:iR xs 5=xs[5]?:=r8 (k:=5)
def UI{α:Type}{xs:List α}:iR xs 6=xs[6]?:=r8 (k:=6)
def UJ{α:Type}{xs:List α}:iR xs 7=xs[7]?:=r8 (k:=7)
def UK{α:Type}{xs:List α}:iR xs 8=xs[8]?:=r8 (k:=8)
theorem KZ:CPow 10 18=True:=eq_true ⟨by decide,by decide,by decide⟩
theorem R9{m:Nat}:yK (m+1) 0=some 0:=by simp[yK]<;>omega
theorem Sa{m:Nat}:yK (m+2) 1=some 1:=by simp[yK]<;>omega
theorem WL:Rg v .XB H Q=Q (.bl (decide (v=.XB))) H:=by cases v<;>rfl
theorem Ox:Qo v .XB H Q=Q (.bl (!decide (v=.XB))) H:=by cases v<;>rfl
def U0:Ri [.int i,.int j] H Q=Q (.int (if j > i then j else i)) H:=rfl
def U2:Rj [.int i,.int j] H Q=Q (.int (if j < i then j else i)) H:=rfl
theorem UM{c:Prop}[Decidable c]{P R:Prop}:(if (decide c)=true then P else R)=if c then P else R:=by
 by_cases h:c<;>simp[h]
theorem UN{c:Prop}[Decidable c]{P R:Prop}:(if (!decide c)=true then P else R)=if c then R else P:=by
 by_cases h:c<;>simp[h]
def R8{P R:Prop}:(if true=true then P else R)=P:=rfl
def R7{P R:Prop}:(if false=true then P else R)=R:=rfl
end
end
mutual
example:=[]
def WV{a b:Prop}[Decidable a][Decidable b]{P R:Prop}:(if a then P else if b then P else R)=if a\/b then P else R:=by
 by_cases ha:a<;>by_cases hb:b<;>simp[ha,hb]
def Kp.at1{r:Addr}{H':Hp}{o:HO}(x:Kp [r] H H')(e:H a=some o)(n:a≠r):H' a=some o:=x a o e (by simpa using n)
theorem Cw{i:Int}{k:V->Prop}(h0:0<=i)(h1:i < (xs.length:Int))(q:∀v∈xs,k v):jN (iR xs i) k:=by
 have hk:i.toNat < xs.length:=by omega
 have ek:i=((i.toNat:Nat):Int):=by omega
 have e:iR xs ((i.toNat:Nat):Int)=some xs[i.toNat]:=rQ (Μ hk);rw[<- ek] at e;rw[e];exact q _ (Κ5 hk)
theorem wM{i:Int}{k:Nat->Prop}(h0:0<=i)(h1:i < (x.length:Int))(q:∀c∈x.cps.toList,k c):jN (iR x.cps.toList i) k:=by
 have hl:x.cps.toList.length=x.length:=by simp[Str.length]
 have hk:i.toNat < x.cps.toList.length:=by omega
 have ek:i=((i.toNat:Nat):Int):=by omega
 have e:iR x.cps.toList ((i.toNat:Nat):Int)=some x.cps.toList[i.toNat]:=rQ (Μ hk);rw[<- ek] at e;rw[e];exact q _ (Κ5 hk)
def on1(vs:List V)(k:V->Prop)(_u:Tg k:=()):Prop:=match vs with
 | [v]=>k v
 | _=>False
def lp(J:It)(g:TG)(tb:TS)(D:Ends)(σ:St)(H:Hp):Prop:=∃W:Nat->Nat->St->Hp->Prop,(∃m,W 0 m σ H)/\∀i m σ H,W i m σ H ->
 (J.stop i H/\D.nx σ H)\/(J.go i H/\∃N:St->Hp->Prop,(∀σ' H',N σ' H'->∃m',m' < m/\W (i+1) m' σ' H')/\∀x H',J.yld i H x H'->g x σ H' λσ2 H2=>tb {D with nx:=N,ct:=N,bk:=D.nx} σ2 H2)
end
section
mutual
example:=[]
variable{D:Ends}{g:TG}{tb:TS}{as:TA}{te:TE}{v w:V}
def S7{k:V->Prop}:(∃z,vs=[z]/\k z)=on1 vs k:=by
 refine propext ⟨fun⟨z,e,h⟩=>by subst e;exact h,λh=>?_⟩;unfold on1 at h;split at h
 ·exact⟨_,rfl,h⟩
 ·exact h.elim
def U7{k:V->Prop}{u:Tg k}:@on1 [v] k u=k v:=rfl
def Ov:Fz (Dm as) g tb D σ H=as σ H λvs H1=>on1 vs λv=>gT v λj=>(-(2 ^ 62)<=j/\j < 2 ^ 62)/\lp (ZV 0 j.toNat) g tb D σ H1:=by
 unfold Fz Dm
 congr 1
 funext vs H1;refine propext ⟨fun⟨j,e,h1,h2,h⟩=>by subst e;exact⟨⟨h1,h2⟩,h⟩,λh=>?_⟩;unfold on1 at h;split at h
 ·obtain⟨j,rfl,⟨h1,h2⟩,h⟩:=eJ h;exact⟨j,rfl,h1,h2,h⟩
 ·exact h.elim
def RT:Fz (Dl K te) g tb D σ H=te σ H λx H1=>aU x λa=>(∃xs,c5 K H1 a xs)/\lp (Z9 K a) g tb D σ H1:=by
 unfold Fz Dl
 congr 1
 funext x H1;exact propext ⟨fun⟨a,e,h1,h⟩=>by subst e;exact⟨h1,h⟩,λh=>by obtain⟨a,rfl,h1,h⟩:=aN h;exact⟨a,rfl,h1,h⟩⟩
def RU:Fz (EN K te) g tb D σ H=te σ H λx H1=>aU x λa=>(∃xs,cJ K H1 a xs)/\lp (Itt K a) g tb D σ H1:=by
 unfold Fz EN
 congr 1
 funext x H1;exact propext ⟨fun⟨a,e,h1,h⟩=>by subst e;exact⟨h1,h⟩,λh=>by obtain⟨a,rfl,h1,h⟩:=aN h;exact⟨a,rfl,h1,h⟩⟩
end
end
noncomputable def lc(J:It)(fr:List Nat)(tc:TT)(te:TE)(σ:St)(H:Hp)(Q:VK):Prop:=∃W:Nat->Nat->List V->Hp->Prop,(∃m,W 0 m [] H)/\∀i m xs H,W i m xs H->xs.length<=1000000 /\
  ((J.stop i H/\∀p,H p=none->Q (.ref p) (Xz H p (.lst xs))) \/
   (J.go i H/\∀y H',J.yld i H y H'->tc (some y::aV fr σ) H' λb H2=>if b=true then te (some y::aV fr σ) H2 (λz H3=>∃m',m' < m/\W (i+1) m' (xs++[z]) H3) else ∃m',m' < m/\W (i+1) m' xs H2))
section
mutual
example:=[(λz H3=>Pv (i+1) (xs++[z]) H3),some (.int (lo+i))::aV fr σ,some y::aV fr σ,Xz H p (.lst xs)]
variable{tc:TT}{te tl:TE}{H1:Hp}{Q:VK}{as:TA}
def Ol:l8 (Dm as) fr tc te σ H Q=as σ H λvs H1=>on1 vs λv=>gT v λj=>(-(2 ^ 62)<=j/\j < 2 ^ 62)/\lc (ZV 0 j.toNat) fr tc te σ H1 Q:=by
 unfold l8 Dm
 congr 1
 funext vs H1;refine propext ⟨fun⟨j,e,h1,h2,h⟩=>by subst e;exact⟨⟨h1,h2⟩,h⟩,λh=>?_⟩;unfold on1 at h;split at h
 ·obtain⟨j,rfl,⟨h1,h2⟩,h⟩:=eJ h;exact⟨j,rfl,h1,h2,h⟩
 ·exact h.elim
def Oj:l8 (Dl K tl) fr tc te σ H Q=tl σ H λx H1=>aU x λa=>(∃xs,c5 K H1 a xs)/\lc (Z9 K a) fr tc te σ H1 Q:=by
 unfold l8 Dl
 congr 1
 funext x H1;exact propext ⟨fun⟨a,e,h1,h⟩=>by subst e;exact⟨h1,h⟩,λh=>by obtain⟨a,rfl,h1,h⟩:=aN h;exact⟨a,rfl,h1,h⟩⟩
def DH(x:V)(k:Str->Prop)(_u:Tg k:=()):Prop:=match x with
 | .str p=>k p
 | _=>False
def OF{k:Str->Prop}{u:Tg k}:@DH (.str x) k u=k x:=rfl
def SK{B:Bool->Hp->Prop}:QQ σ H B=B true H:=rfl
def UO:aV [] σ=[]:=rfl
def CZ(hi:i < n):(∃m',m' < n - i/\cW n Pv (i+1) m' xs H)=Pv (i+1) xs H :=
 propext ⟨fun⟨_,_,_,_,h⟩=>h,λh=>cW.next hi h⟩
def Dr{lo:Int}(Pv:Nat->List V->Hp->Prop)(h0:Pv 0 [] H)(hz:∀i xs H,Pv i xs H->xs.length<=1000000)(hs:∀i xs H,i < n->Pv i xs H->tc 1e0 H λb H2=>if b=true then te 1e0 H2 0e0 else Pv (i+1) xs H2)(hd:∀xs H,Pv n xs H->∀p,H p=none->Q (.ref p) 3e0):lc (ZV lo n) fr tc te σ H Q :=
 EA Pv h0 hz (λi xs H hi h=>by simp only[CZ hi];exact hs i xs H hi h) hd
def jH(Pv:Nat->List V->Hp->Prop)(h0:Pv 0 [] H)(hz:∀i xs H,Pv i xs H->xs.length<=1000000)(hl:∀i xs H,Pv i xs H->c5 K H a ys)(hs:∀i y xs H,i < ys.length->ys[i]?=some y->Pv i xs H->tc 2e0 H λb H2=>if b=true then te 2e0 H2 0e0 else Pv (i+1) xs H2)(hd:∀xs H,Pv ys.length xs H->∀p,H p=none->Q (.ref p) 3e0):lc (Z9 K a) fr tc te σ H Q :=
 Iv Pv h0 hz hl (λi y xs H hi e h=>by simp only[CZ hi];exact hs i y xs H hi e h) hd
end
end
noncomputable def Us(kb:List (Key×V)):List (Key×V)->Bool
 | []=>true
 | (k,v)::r=>match bY kb k with
  | none=>false
  | some y=>rG v y&&Us kb r
mutual
inductive vT(K:q0B)(H:Hp):Nat->V->V->Bool->Prop
 | flat {n:Nat} {x y:V}:eB x=true->eB y=true->vT K H n x y (rG x y)
 | same {n:Nat} {a:Addr}:vT K H n (.ref a) (.ref a) true
 | refs {n:Nat} {a b:Addr} {r:Bool}:a≠b->pX K H n a b r->vT K H n (.ref a) (.ref b) r
inductive pX(K:q0B)(H:Hp):Nat->Addr->Addr->Bool->Prop
 | list {n:Nat} {a b:Addr} {xs ys:List V} {e:Nat->Bool}:c5 K H a xs->c5 K H b ys->xs.length=ys.length->(∀j x y,xs[j]?=some x->ys[j]?=some y->vT K H n x y (e j))->pX K H (n+1) a b ((List.range xs.length).all e)
 | Yg {n:Nat} {a b:Addr} {xs ys:List V}:c5 K H a xs->c5 K H b ys->xs.length≠ys.length->pX K H (n+1) a b false
 | tup {n:Nat} {a b:Addr} {xs ys:List V} {e:Nat->Bool}:cJ K H a xs->cJ K H b ys->(∀j x y,xs[j]?=some x->ys[j]?=some y->vT K H n x y (e j))->pX K H (n+1) a b ((List.range (min xs.length ys.length)).all e&&xs.length==ys.length)
end
section
mutual
example:=[.ref b,.ref a,(by omega),(by show A.units+1+_ < _;omega),he j x y ex ey]
theorem kR{XA:List Value}(r:XD xs XA)(h:j < XA.toArray.size):∃x,xs[j]?=some x/\bC x XA.toArray[j]:=by
 have hj:j < xs.length:=by have:=r.length;simp only[Η] at h;omega
 have e:=Μ hj;obtain⟨u,g,ru⟩:=r.get e;refine⟨_,e,?_⟩;obtain⟨_,q⟩:=Λ.mp g;have:XA.toArray[j]=u:=by simpa using q
 rw[this];exact ru
theorem GH:∀(n:Nat),(∀{a b:Addr} {r:Bool},pX X.K H n a b r->∀{A:Around},XC X Xy σ H s->A.units+n < cLine->SeqAt.RcAt A s 1e0 0e0 r)/\(∀{x y:V} {b:Bool},vT X.K H n x y b->∀{A:Around} {v u:Value},XC X Xy σ H s->bC x v->bC y u->A.units+n < cLine->SeqAt.EqAt A s v u b):=by
 intro n;have up:∀{n:Nat},(∀{a b:Addr} {r:Bool},pX X.K H n a b r->∀{A:Around},XC X Xy σ H s->A.units+n < cLine->SeqAt.RcAt A s 1e0 0e0 r)->(∀{x y:V} {b:Bool},vT X.K H n x y b->∀{A:Around} {v u:Value},XC X Xy σ H s->bC x v->bC y u->A.units+n < cLine->SeqAt.EqAt A s v u b):=by
  intro n rc x y b h A v u I rx ry hu;cases h with
  | flat fx fy=>exact Lq rx ry fx fy
  | same =>
   cases rx;cases ry;exact SeqAt.EqAt.same _
  | refs ne h =>
   cases rx;cases ry;exact SeqAt.EqAt.of_refs ne (rc h I hu)
 suffices g:∀{a b:Addr} {r:Bool},pX X.K H n a b r->∀{A:Around},XC X Xy σ H s->A.units+n < cLine->SeqAt.RcAt A s 1e0 0e0 r from ⟨g,up g⟩
 induction n with
 | zero=>intro a b r h;cases h
 | succ n ih =>
  intro a b r h A I hu;have ih:=@up n @ih;cases h with
  | list hx hy hl he =>
   obtain⟨XA,r1,p1,z1⟩:=I.list hx;obtain⟨YT,r2,p2,z2⟩:=I.list hy;have l1:=r1.length;have l2:=r2.length;have:=SeqAt.RcAt.lists p1.isList p2.isList (by simp only[Η];omega) 2e0 (A:=A) (λj h1 h2=>by
    obtain⟨x,ex,rx⟩:=kR r1 h1;obtain⟨y,ey,ry⟩:=kR r2 h2;exact ih 4e0 I rx ry 3e0)
   rw[Η,<- l1] at this;exact this
  | Yg hx hy hl =>
   obtain⟨XA,r1,p1,z1⟩:=I.list hx;obtain⟨YT,r2,p2,z2⟩:=I.list hy;have l1:=r1.length;have l2:=r2.length;exact SeqAt.RcAt.lists_lengths p1.isList p2.isList (by simp only[Η,bne_iff_ne,ne_eq];omega) 2e0
  | tup hx hy he =>
   obtain⟨XA,r1,p1,z1⟩:=I.tuple hx;obtain⟨YT,r2,p2,z2⟩:=I.tuple hy;have l1:=r1.length;have l2:=r2.length;have:=SeqAt.RcAt.tuples (show s.heap.IsTuple _ XA.toArray from p1) (show s.heap.IsTuple _ YT.toArray from p2) 2e0 (A:=A) (λj h1 h2=>by
    obtain⟨x,ex,rx⟩:=kR r1 h1;obtain⟨y,ey,ry⟩:=kR r2 h2;exact ih 4e0 I rx ry 3e0)
   rw[Η,Η,<- l1,<- l2] at this;exact this
def Lo{x y:V}{b:Bool}(h:vT X.K H n x y b){v u:Value}(I:XC X Xy σ H s)(rx:bC x v)(ry:bC y u)(hu:A.units+n < cLine):SeqAt.EqAt A s v u b:=(GH n).2 h I rx ry hu
def MC{b:Addr}{r:Bool}(h:pX X.K H n a b r)(I:XC X Xy σ H s)(hu:A.units+n < cLine):SeqAt.RcAt A s 1e0 0e0 r:=(GH n).1 h I hu
end
end
inductive DPairs(H:Hp):List V->List V->Bool->Prop
  | nil:DPairs H [] [] true
  | cons {a b:Addr} {ka kb:List (Key×V)} {xs ys:List V} {r:Bool}:a≠b->H a=some (.dK ka)->H b=some (.dK kb)->(ka.all λkv=>eB kv.2)=true->(kb.all λkv=>eB kv.2)=true->DPairs H xs ys r ->
      DPairs H (.ref a::xs) (.ref b::ys) ((ka.length==kb.length&&Us kb ka)&&r)
section
variable{o e:Expr}{to te:TE}{apos XG:Pos}
end
section
mutual
example:=[]
variable{Q:VK}{b p:Addr}{x:V}
def SA{lo hi:Option Int}:Ts K (.ref a) lo hi H Q = ∃xs,c5 K H a xs/\∀p,H p=none->Q (.ref p) (Xz H p (.lst (fK xs lo hi))):=by simp[Ts]
def R5{t:TGs}:OW K n t (.ref a) σ H N = ∃xs,cJ K H a xs/\xs.length=n/\t xs σ H N:=by simp[OW]
def WE:((0:Nat):Int)=0:=rfl
def WG:((1:Nat):Int)=1:=rfl
def WH:((2:Nat):Int)=2:=rfl
end
end
noncomputable def sQ(o:Option HO)(k:List V->Prop)(_u:Tg k:=()):Prop:=match o with
 | some (.tup xs)=>k xs
 | _=>False
def y4(h:sQ o k):∃xs,o=some (.tup xs)/\k xs:=by
 unfold sQ at h;split at h
 ·exact⟨_,rfl,h⟩
 ·exact h.elim
noncomputable def Gi:R2:=λx y H Q=>aU x λa=>aU y λb=>sQ (H a) λxs=>sQ (H b) λys=>xs.length+ys.length<=sizeLine/\(if xs=[] then Q y H else if ys=[] then Q x H else ∀p,H p=none->Q (.ref p) (Xz H p (.tup (xs++ys))))
section
def Mn:i9 X (binaryOp .Add) (λx y H Q=>∃a b ys,x=.ref a/\y=.ref b/\cJ X.K H a []/\cJ X.K H b ys/\Q (.ref b) H):=by
 intro Xy s σ H x y v u Q I rx ry h;obtain⟨a,b,ys,rfl,rfl,ha,hb,q⟩:=h;cases rx;cases ry;obtain⟨XA,r1,p1,_⟩:=I.tuple ha;obtain⟨YG,r2,p2,_⟩:=I.tuple hb;have l1:XA=[]:=r1.wG.mpr rfl;obtain⟨⟨c1,d1,t1,o1⟩,ho,rfl,n,rfl⟩:=p1;obtain⟨⟨c2,d2,t2,o2⟩,ho2,rfl,n2,rfl⟩:=p2;exact concat_meets ⟨_,ho,rfl⟩ ⟨_,ho2,rfl⟩ noFill_tuple_add seq_tuple_add PySem.F.slot_tuple_add PySem.F.entry_tuple_add (PySem.F.args_tuple_add_2 _ _) (tuple_addW0 a b XA.toArray YG.toArray n n2 d1 d2 o1 o2 (by simp[l1])) ⟨ho,ho2,.ref b,H,I,rfl,q⟩
def Pe:i9 X (binaryOp .Add) Gi:=(Mn.or Hb).imp λx y H Q h=>by
 obtain⟨a,rfl,h1⟩:=aN h;obtain⟨b,rfl,h2⟩:=aN h1;obtain⟨xs,e1,h3⟩:=y4 h2;obtain⟨ys,e2,h4,h5⟩:=y4 h3;by_cases c:xs=[]
 ·rw[if_pos c] at h5;subst c;exact .inl ⟨a,b,ys,rfl,rfl,.inl (.inl e1),.inl (.inl e2),h5⟩
 ·rw[if_neg c] at h5;refine .inr ⟨a,b,xs,ys,rfl,rfl,.inl (.inl e1),.inl (.inl e2),c,h4,λz=>?_,λz=>?_⟩
  ·rw[if_pos z] at h5;exact h5
  ·rw[if_neg z] at h5;exact h5
end
section
variable{Q:VK}{b p:Addr}{lo hi:Option Int}
def OG{u:Tg k}:@sQ (some (.tup vs)) k u=k vs:=rfl
def Li:Gi (.ref a) (.ref b) H Q=sQ (H a) λxs=>sQ (H b) λys=>xs.length+ys.length<=sizeLine/\(if xs=[] then Q (.ref b) H else if ys=[] then Q (.ref a) H else ∀p,H p=none->Q (.ref p) (Xz H p (.tup (xs++ys)))):=rfl
def RL:Kd lo hi H Q (some (.tup vs))=(¬ (HT.fG vs.length 0 lo=0/\HT.fG vs.length vs.length hi=vs.length)/\∀p,H p=none->Q (.ref p) (Xz H p (.tup (fK vs lo hi)))):=rfl
end
def Cf:typeLookup (.type "list") "keys"=pure none:=by rw[Δ6,Α7];kernel_rfl
section
mutual
example:=[(by omega),aR P W,Key×Value,model P W,.ref a,(Builtin.«dict.update.loop» ⟨[.ref d,.ref it,rawInt i,.none],[]⟩),pyNext (.ref it) >>= _,(by decide +kernel),stored acc k v,.ret .none]
variable{prog:Program}
theorem IV{XA:Array Value}{Q:Option Value->Shared->Prop}(hx:s.heap.get? a=some {cls:=.type "list",data:=.seq XA n})(hA:A.handled=none)(hq:∀h' tk,(∀b o,s.heap.get? b=some o->h'.get? b=some o)->Q none {s with heap:=h',toks:=tk}):wpAny (model prog w) A (getAttr? 4e0 "keys") Q E s:=by
 obtain⟨hp,g,d,tk,os⟩:=s;have hT:∀t,(⟨hp,g,d,t,os⟩:Shared).TypeIs 4e0 "list":=λt=>⟨_,hx,rfl⟩;have f1:=sub_AttributeError;have f2:=F.slot_list_getattribute.lookup;have f3:=F.slot_list_getattribute.bind 4e0;unfold getAttr? getAttrBy? getAttrBy
 repeat (any_goals (first|assumption|exact hT _|((with_reducible show wpAny _ _ (call (Value.builtin "list.__getattribute__") _ _) _ _ _);refine call_meets F.slot_list_getattribute (hT _) am_entry_list_getattribute (F.args_list_getattribute_2 _ _) (meets_getattribute_miss_list a XA n #[] "keys" _ Cf 7e0 7e0) ⟨hx,hA,λh' tk' e hx'=>?_⟩)|wp_step))
 obtain⟨t',u',he⟩:=hx'.there;show wpAny _ _ (getattributeRaised _ _ _ _ _ _ _) _ _ _;unfold getattributeRaised;have f5:=am_list_getattr_none
 repeat (any_goals (first|assumption|wp_step))
 exact hq _ _ hx'.keeps
theorem gI:plainId "dict.update.loop"=true:=by decide +kernel
def pG:entryFor table "dict.update.loop"=some Builtin.«dict.update.loop»:=entryFor_of_fast (by kernel_rfl)
theorem P6{W:World}{d l t:Addr}{kv v:Value}{k:Key}{acc:List 2e0}(hit:s.heap.IsListIter it l i)(hl:s.heap.IsList l items)(hx:items[i]?=some (.ref t))(ht:s.heap.IsTuple t #[kv,v])(hk:(aR P W).is k kv=true)(hd:s.heap.DictOf 1e0 d acc)(hsz:acc.length<=sizeLine)(ndi:d≠it)(nti:t≠it)(hq:∀h' tk,h'.IsListIter it l (i+1)->h'.DictOf 1e0 d 8e0->(∀b o,b≠d->b≠it->s.heap.get? b=some o->h'.get? b=some o)->Q (.again (.builtin "dict.update.loop" ⟨[.ref d,.ref it,rawInt (i+1),.none],[]⟩)) {s with heap:=h',toks:=tk}) : wpAny 3e0 A 5e0 Q E s:=by
 unfold Builtin.«dict.update.loop»;show wpAny _ _ 6e0 _ _ _;refine Α (wpAny_pyNext_list_item hit hl hx λh1 aa6 sb=>?_);dsimp only;refine Α (Β8 ?_);refine Α (wpAny_tryCatch ?_);unfold Builtin.Dict.pairItems;obtain⟨o,ho,hc,m,Y8⟩:=ht;have ho1:h1.get? t=some o:=(sb.2 t nti).trans ho;refine Α (Ε8 (T:="tuple") ⟨o,ho1,hc⟩ ?_);rw[if_pos (by decide)];refine Α (wpAny_seqItems ho1 Y8 (Β ?_));show wpAny _ _ (holding [kv,v] (dictSet d kv v)) _ _ _;refine Β8 (wpAny_dictSet_pairs hk (hd.sameBut sb ndi) (λh2 hd2 ZU=>?_) hsz);refine Β (hq h2 _ ?_ hd2 λb o b1 b2 e=>(ZU.2 b b1).trans ((sb.2 b b2).trans e));exact aa6.at λo e=>(ZU.2 it ndi.symm).trans e
def TN{W:World}{d l:Addr}(hh:A.handled=none)(hit:s.heap.IsListIter it l i)(hl:s.heap.IsList l items)(hx:items[i]?=none)(hq:∀h',(∀b o,b≠it->s.heap.get? b=some o->h'.get? b=some o)->Q (.done 9e0) {s with heap:=h'}) : wpAny 3e0 A 5e0 Q E s:=by
 unfold Builtin.«dict.update.loop»;show wpAny _ _ 6e0 _ _ _;refine Α (wpAny_pyNext_list_end hh hit hl hx λh1 eb=>?_);dsimp only;show wpAny _ _ (Builtin.Dict.addKeywords d [] >>= _) _ _ _;exact Α (Β (Β (hq h1 λb o b1 e=>eb b o b1 e)))
theorem TM{W:World}{d l:Addr}{items:List Value}(ps:List 2e0)(ndi:d≠it)(ndl:l≠d)(nli:l≠it):∀(m i:Nat),items.length=i+m->∀(A:Around) (R:Result->Shared->Prop) (s:Shared) (acc:List 2e0),A.handled=none->s.heap.IsListIter it l i->s.heap.IsList l items.toArray -> (∀j,i<=j->j < items.length->∃(t:Addr) (kv:Value) (k:Key) (v:Value),items[j]?=some (.ref t)/\ps[j]?=some (k,v)/\s.heap.IsTuple t #[kv,v]/\(aR P W).is k kv=true/\t≠it/\t≠d) -> s.heap.DictOf 1e0 d acc->acc.length+m<=sizeLine->ps.length=items.length -> (∀h' tk,h'.DictOf 1e0 d (merged acc (ps.drop i))->(∀b o,b≠d->b≠it->s.heap.get? b=some o->h'.get? b=some o)->R (.ok 9e0) {s with heap:=h',toks:=tk}) -> codeAny 3e0 A (.builtin "dict.update.loop" ⟨[.ref d,.ref it,rawInt i,.none],[]⟩) R s:=by
 intro m
 induction m with
 | zero =>
  intro i hm A R s acc hh hit hl hp hd hsz hps q;refine Β5 pG ?_;rw[Α4 gI _];refine TN (A:=A.in1) hh hit hl (by simp;omega) λh' k=>?_;have e:ps.drop i=[]:=List.drop_of_length_le 0e0;rw[e] at q;exact q h' s.toks (by
   obtain⟨o,es,ep,ho,r⟩:=hd;exact⟨o,es,ep,k _ _ ndi ho,r⟩) λb o _ b2 e=>k b o b2 e
 | succ m ih =>
  intro i hm A R s acc hh hit hl hp hd hsz hps q;refine Β5 pG ?_;rw[Α4 gI _];obtain⟨t,kv,k,v,e1,e2,ht,hk,n1,n2⟩:=hp i (Ζ _) 0e0;refine P6 (A:=A.in1) hit hl (by simpa using e1) ht hk hd 0e0 ndi n1 λh' tk ZJ hd' kp=>?_;refine⟨Δ7 gI _,?_⟩;have c:((i:Int)+1)=((i+1:Nat):Int):=by omega
  rw[c];have es:ps.drop i=(k,v)::ps.drop (i+1):=by
   obtain⟨XW,e3⟩:=Λ.mp e2;rw[Θ1 XW,e3]
  refine ih (i+1) 0e0 A R _ 8e0 hh ZJ (hl.at λo e=>kp l o ndl nli e) (λj h1 h2=>?_) hd' ?_ hps λh'' tk' aa3 kp'=>?_
  ·obtain⟨t,kv,k,v,e1,e2,ht,hk,n1,n2⟩:=hp j 0e0 h2;obtain⟨o,ho,r⟩:=ht;exact⟨t,kv,k,v,e1,e2,⟨o,kp t o n2 n1 ho,r⟩,hk,n1,n2⟩
  ·have:=stored_length_le acc k v;omega
  ·refine q h'' tk' ?_ λb o b1 b2 e=>kp' b o b1 b2 (kp b o b1 b2 e);rw[es];exact aa3
end
end
mutual
example:=[.XX o (.dK kvs),Key×V,(by simp),dS acc kv.1 kv.2,.dK (gS [] kvs),aR X.prog X.w,(.tup [kV k,v]),Itd a o kvs,Key×Value,(by decide)]
def jA(H:Hp)(xs:List V)(kvs:List 1e0):Prop:=xs.length=kvs.length/\∀(j:Nat) (x:V),xs[j]?=some x->∃(t:Addr) (k:Key) (v:V),x=.ref t/\H t=some 6e0/\kvs[j]?=some (k,v)
def Ey:List V->Hp->VK->Prop:=λvs H Q=>on1 vs λx=>aU x λl=>eC (H l) λxs=>∃kvs,jA H xs kvs/\∀p,H p=none->Q (.ref p) (Xz H p 4e0)
def LM{W:World}(ok:HOk P W H h):∀{xs:List V} {XA:List Value} {kvs:List 1e0},XD xs XA->jA H xs kvs->∃ps:List 8e0,KV kvs ps/\ps.length=XA.length /\ ∀j,j < XA.length->∃(t:Addr) (kv:Value) (k:Key) (v:Value),XA[j]?=some (.ref t)/\ps[j]?=some (k,v)/\h.IsTuple t #[kv,v]/\(aR P W).is k kv=true/\H t≠none:=by
 intro xs XA kvs r
 induction r generalizing kvs with
 | nil =>
  intro p;cases kvs with
  | nil=>exact⟨[],.nil,rfl,λj hj=>absurd hj (Nat.not_lt_zero _)⟩
  | cons a b=>cases p.1
 | cons r rr ih =>
  intro p;cases kvs with
  | nil=>cases p.1
  | cons kv kvs =>
  rename_i x xs y ys
  obtain⟨t,k,v,rfl,ht,e⟩:=p.2 0 _ rfl;cases r;have e':kv=(k,v):=by simpa using e
  subst e';obtain⟨ps,h1,h2,h3⟩:=ih (kvs:=kvs) ⟨by simpa using p.1,λj y hy=>by
   obtain⟨t,k,v,a,b,c⟩:=p.2 (j+1) y (by simpa using hy);exact⟨t,k,v,a,b,by simpa using c⟩⟩
  obtain⟨_,XA,ri,hi⟩:=(show c0 P W H h t 6e0 from ok t _ ht);cases ri with
  | cons r1 ri=>cases ri with
   | cons r2 ri =>
    cases ri;refine⟨(k,_)::ps,.cons ⟨rfl,r2⟩ h1,by simp[h2],λj hj=>?_⟩;cases j with
    | zero=>exact⟨t,_,k,_,rfl,rfl,hi,sH r1,by rw[ht];simp⟩
    | succ j =>
     obtain⟨t',kv',k',v',a,b,c⟩:=h3 j (by simpa using hj);exact⟨t',kv',k',v',by simpa using a,by simpa using b,c⟩
theorem qW:∀(more acc:List 1e0),(gS acc more).length<=acc.length+more.length
 | [],acc=>Ζ _
 | kv::more,acc=>by
  have h1:=qW more 3e0;have h2:=kS acc kv.1 kv.2;show(gS 3e0 more).length<=_;simp only[Κ];omega
theorem xD(hc:X.calm=true):eI X (.type "dict") Ey:=λXy s σ H vs us Q I r h=>by
 have h0:=h;unfold Ey at h0;rw[<- S7] at h0;obtain⟨x,rfl,h1⟩:=h0;obtain⟨l,rfl,h2⟩:=aN h1;obtain⟨xs,el,kvs,hp,q⟩:=eV h2;obtain⟨u,rfl,ru⟩:=r.one;cases ru;obtain⟨z,XA,n,ri,hlen,eo⟩:=I.Ds el;obtain⟨ps,rel,oQ,pat⟩:=LM I.XF ri hp;have hA:=I.ok.hd hc;refine callType_codes (Q₁:=λobj s₁=>obj=.ref s.heap.objs.size/\s₁={s with heap:=s.heap.push {cls:=.type "dict",data:=.dict #[]}}) F.kt_called_dict (F.kt_typeCall_dict_1 _) F.entry_dict_init (kt_code_dict_new _ ⟨rfl,rfl⟩) ?_;rintro obj s₁ ⟨rfl,rfl⟩;have Zk:(s.heap.push {cls:=.type "dict",data:=.dict #[]}).DictOf 5e0 s.heap.objs.size []:=Heap.DictOf.new s.heap;refine⟨Zk.typeIs,F.args_dict_init_2 _ _,?_⟩;unfold Builtin.«dict.__init__» Builtin.Dict.selfAndRest;refine Α (Α (wpAny_notOrdered_dict Zk.typeIs ?_));show wpAny _ _ (pure (s.heap.objs.size,[Value.ref l])) _ _ _;refine Β ?_;show wpAny _ _ (Builtin.Dict.updateFrom "dict.__init__" s.heap.objs.size (.ref l) [] .none) _ _ _;unfold Builtin.Dict.updateFrom;have eo1:(s.heap.push {cls:=.type "dict",data:=.dict #[]}).get? l=some {cls:=.type "list",data:=.seq XA.toArray n}:=Γ _ eo;refine Α (Ε8 (T:="list") ⟨_,eo1,rfl⟩ ?_);rw[if_pos 9e0];refine Α (IV eo1 hA λh' tk kp=>?_);rw[if_pos (show(none:Option Value).isNone=true from rfl)];refine Α (wpAny_rule ?_);have hl1:h'.IsList l XA.toArray:=⟨_,kp _ _ eo1,rfl,n,rfl⟩;refine Α (wpAny_pyIter_list hl1 (Β ⟨Δ7 gI _,?_⟩));have hD:s.heap.objs.size < h'.objs.size:=Ο (kp _ _ (Ν _ rfl));have old:∀b o,s.heap.get? b=some o->(h'.push {cls:=.type "list_iterator",data:=.fields #[.ref l,rawInt 0]}).get? b=some o:=λb o e=>Γ _ (kp b o (Γ _ e));have lt:∀b o,s.heap.get? b=some o->b < s.heap.objs.size:=λb o e=>Ο e;have ll:=lt _ _ eo;refine TM ps (Ρ hD) (Ρ ll) (Ρ (Ι4 ll hD)) XA.length 0 2e0 X.A.in1 _ _ [] hA ⟨_,Ν _ rfl,rfl,rfl⟩ ⟨_,old _ _ eo,rfl,n,rfl⟩ (λj _ hj=>?_) ?_ (by simp only[Α8];omega) oQ λhF tkF hdF kpF=>?_
 ·obtain⟨t,kv,k,v,a1,a2,⟨o,ho,r⟩,a4,_⟩:=pat j hj;have tl:=lt _ _ ho;exact⟨t,kv,k,v,a1,a2,⟨o,old _ _ ho,r⟩,a4,Ρ (Ι4 tl hD),Ρ tl⟩
 ·obtain⟨o,es,ep,ho,r⟩:=Zk;exact⟨o,es,ep,Γ _ (kp _ _ ho),r⟩
 ·rw[List.drop_zero] at hdF;have kl:kvs.length<=sizeLine:=by rw[<- hp.1];exact z
  have ml:=qW kvs [];refine⟨rfl,.ref s.heap.objs.size,Xz H s.heap.objs.size 4e0,I.laid (λb o e=>kpF b o (Ρ (lt _ _ e)) (Ρ (Ι4 (lt _ _ e) hD)) (old _ _ e)) (Ζ _)
   (qM (by simp only[Α8] at ml;omega) (Β6.mpr (Ε6 (Ρ I.big))) (rel.merge .nil) hdF),rfl,q _ (I.XF.fresh (Ζ _))⟩
def Itd(a:Addr)(o:Obj)(kvs:List 1e0):It :=
 ⟨λi H=>i < kvs.length/\H a=some 0e0,λi H x H'=>H'=H/\∃kv,kvs[i]?=some kv/\x=kV kv.1,λi H=>i=kvs.length/\H a=some 0e0⟩
def sL{W:World}{k:Key}{v:Value}(h:(aR P W).is k v=true):bC (kV k) v:=by
 rcases dD h with⟨i,t,rfl,rfl⟩|⟨x,t,rfl,rfl⟩|⟨rfl,rfl⟩
 ·exact⟨t,rfl⟩
 ·exact⟨t,rfl⟩
 ·rfl
def Lv{o:Obj}{es:Array DictEntry}{ep:Nat}(I:XC X Xy σ H s)(e:H a=some 0e0)(ho:o.data=.dict es ep) : ∃vs,KV kvs vs/\s.heap.DictAt 5e0 a vs ep:=by
 obtain⟨h1,_,_,vs,rel,o',es',ep',h2,h3,h4,r⟩:=(show c0 X.prog X.w H s.heap a 0e0 from I.XF a _ e);rw[h1] at h2;cases h2;rw[ho] at h4;cases h4;exact⟨vs,rel,o,es,h1,h3,ho,r⟩
def KV.at{vs:List 8e0}(r:KV kvs vs){kv:Key×V}(e:kvs[i]?=some kv):∃v,vs[i]?=some (kv.1,v):=by
 unfold KV at r
 induction r generalizing i with
 | nil=>simp at e
 | @cons p q ps qs h t ih=>cases i with
  | zero =>
   have e':p=kv:=by simpa using e
   subst e';exact⟨q.2,by simp[h.1]⟩
  | succ i=>simpa using ih (i:=i) (by simpa using e)
theorem JN(a it:Addr)(o:Obj)(kvs:List 1e0)(es:Array DictEntry)(ep:Nat)(ho:o.data=.dict es ep):Turn P w K tg 7e0 [it] it (λi h=>h.IsKeyIter it a i kvs.length ep) where
 mem:=by simp
 obj:=λi h st b hb=>by
  have e:b=it:=by simpa using hb
  subst e;obtain⟨o,e,c,d⟩:=st;exact⟨o,e,λv z=>by rw[d] at z;cases z⟩
 keep:=λi h h' st k=>st.at λo e=>k it 2e0 o e
 item:=by
  intro X hP hw hK hc i Xy s σ H E I hf st hg;subst hP hw hK;obtain⟨hi,hq⟩:=hg;obtain⟨vs,rel,dd⟩:=Lv I hq ho;have hk:=Μ hi;obtain⟨v,hv⟩:=rel.at hk;obtain⟨f0,f1,f2,f3,f4,f5⟩:=hf it 2e0;rw[rel.length] at st;refine wpAny_pyNext_dict_item st dd hv λkey h' YF Ym sb=>?_;have I1:XC X Xy σ H {s with heap:=h'}:=I.turned (t':=s.toks) (λb o hb e=>(sb.2 b hb).trans e) f0 f1 f3 f4 f5;rw[<- rel.length] at Ym;obtain⟨o',e,c,d⟩:=id Ym;exact⟨key,rfl,GL (s:={s with heap:=h'}) e c d 9e0 ⟨kV (kvs[i]).1,H,I1,sL YF,⟨rfl,_,hk,rfl⟩,Ym,λb hb=>(hf b hb).1⟩⟩
 done:=by
  intro X hP hw hK hc i Xy s σ H E I hf st hg;subst hP hw hK;obtain⟨hi,hq⟩:=hg;obtain⟨vs,rel,dd⟩:=Lv I hq ho;obtain⟨f0,f1,f2,f3,f4,f5⟩:=hf it 2e0;rw[rel.length] at st hi;exact wpAny_pyNext_dict_end (I.ok.hd hc) st dd (Θ0.mpr (by omega)) λh' eb=>⟨rfl,I.turned (t':=s.toks) (λb o hb e=>eb b o hb e) f0 f1 f3 f4 f5⟩
 self:=λ_ _ _ _ _ st h=>wpAny_pyIter_keyiter st h
def SR(tl:TE):TI:=λσ H R=>tl σ H λx H1=>aU x λa=>cN (H1 a) λkvs=>∀o,R 7e0 (Xz H1 a 0e0)
def Pj{l:Expr}{tl:TE}(hl:PE X l tl):PI X tg l (SR tl):=by
 intro Xy s σ H R I h;refine thn (hl Xy s σ H _ I h) λv s1 ⟨x,H1,I1,r1,q1⟩=>?_;obtain⟨a,rfl,q2⟩:=aN q1;obtain⟨kvs,e,q⟩:=c8 q2;cases r1;obtain⟨z,hd,vs,rel,dd⟩:=rX I1.XF e;obtain⟨ep,dat⟩:=dd.dictAt;obtain⟨o,es,ho,hx,Y8,r⟩:=id dat;have I2:XC X Xy σ (Xz H1 a 0e0) s1:=I1.write (t':=s1.toks) (x:=a) (e:=a) (by rw[e];exact True.intro) (.inl rfl) (λ_ _ _ q=>q) ⟨o,ho⟩ ⟨ho,qM z hd rel dd⟩;refine wpAny_pyIter_dict hd dat ?_;have F:(Xz H1 a 0e0) s1.heap.objs.size=none:=I2.XF.fresh (Ζ _);refine⟨s1.heap.objs.size,[s1.heap.objs.size],_,_,_,rfl,I2.kept (t':=s1.toks) λb o e=>Γ _ e,JN a _ o kvs es ep Y8,?_,λb hb=>?_,q o⟩
 ·rw[rel.length];exact⟨_,Ν _ rfl,rfl,rfl⟩
 ·have e:b=s1.heap.objs.size:=by simpa using hb
  subst e;exact I2.IP (Ζ _) F
end
section
mutual
example:=[some (kV kv.1)::aV fr σ,.XX o (.dK kvs),Itd a o kvs]
variable{tc:TT}{te tl:TE}{Q:VK}
def Oi:l8 (SR tl) fr tc te σ H Q=tl σ H λx H1=>aU x λa=>cN (H1 a) λkvs=>∀o,lc 2e0 fr tc te σ (Xz H1 a 1e0) Q:=by
 unfold l8 SR;rfl
theorem O1{o:Obj}(Pv:Nat->List V->Hp->Prop)(h0:Pv 0 [] H)(hz:∀i xs H,Pv i xs H->xs.length<=1000000)(hl:∀i xs H,Pv i xs H->H a=some 1e0)(hs:∀i kv xs H,i < kvs.length->kvs[i]?=some kv->Pv i xs H->tc 0e0 H λb H2=>if b=true then te 0e0 H2 (λz H3=>Pv (i+1) (xs++[z]) H3) else Pv (i+1) xs H2)(hd:∀xs H,Pv kvs.length xs H->∀p,H p=none->Q (.ref p) (Xz H p (.lst xs))):lc 2e0 fr tc te σ H Q:=by
 refine⟨cW kvs.length Pv,⟨kvs.length,by simp,ϖ _,h0⟩,?_⟩;rintro i m xs H ⟨rfl,hi,p⟩;refine⟨hz i xs H p,?_⟩;by_cases XW:i < kvs.length
 ·refine .inr ⟨⟨XW,hl i xs H p⟩,λy H' yy=>?_⟩;obtain⟨e,kv,hk,rfl⟩:=yy;subst e;simp only[CZ XW];exact hs i kv xs _ XW hk p
 ·have e:i=kvs.length:=by omega
  subst e;exact .inl ⟨⟨rfl,hl _ xs H p⟩,hd xs H p⟩
end
end
section
variable{td ty tx:TE}{Q:VK}{D:Ends}{v w x:V}
def Oq{l:Addr}:Ey [.ref l] H Q=eC (H l) λxs=>∃kvs,jA H xs kvs/\∀p,H p=none->Q (.ref p) (Xz H p (.dK (gS [] kvs))):=rfl
end
def Kn:List V->Hp->VK->Prop:=λvs H Q=>on1 vs λx=>aU x λp=>eC (H p) λys=>∀l,H l=none->Q (.ref l) (Xz H l (.tup ys))
def Mi{x:V}{k:Str->Prop}(h:DH x k):∃z,x=.str z/\k z:=by
 unfold DH at h;split at h
 ·exact⟨_,rfl,h⟩
 ·exact h.elim
def fY{k:V->Prop}(h:on1 vs k):∃v,vs=[v]/\k v:=by
 unfold on1 at h;split at h
 ·exact⟨_,rfl,h⟩
 ·exact h.elim
section
def iC:eI X (.type "tuple") Kn:=λXy s σ H xs us Q I r h=>by
 obtain⟨x,rfl,h⟩:=fY h;obtain⟨p,rfl,h⟩:=aN h;obtain⟨ys,e,h⟩:=eV h;exact pZ Xy s σ H _ us Q I r ⟨_,_,rfl,.inl ⟨.inl (.inl e),h⟩⟩
end
section
variable{T:String}{r:V->List V->Hp->VK->Prop}{to:TE}{t:TA}{Q:VK}{y:Str}{i:Int}{p:Addr}{ys:List Str}
def OO:Kn [.ref p] H Q=eC (H p) λys=>∀l,H l=none->Q (.ref l) (Xz H l (.tup ys)):=rfl
end
abbrev TJ:=Str->St->Hp->(Str->Hp->Prop)->Prop
section
variable{e a b:Expr}{te:TE}{tj:TJ}{pos:Pos}
end
noncomputable def Xm(r:V->List V->Hp->VK->Prop)(to:TE)(t:TA):TE:=λσ H Q=>to σ H λx H1=>aU x λa=>eC (H1 a) λ_=>t σ H1 λxs H2=>r (.ref a) xs H2 Q
noncomputable def Ui:V->List V->Hp->VK->Prop:=λx vs H Q=>aU x λa=>on1 vs λy=>aU y λb=>eC (H a) λxs=>eC (H b) λzs=>xs.length+zs.length<=sizeLine/\Q .XB (Xz H a (.lst (xs++zs)))
noncomputable def Qp:V->List V->Hp->VK->Prop:=λx vs H Q=>aU x λa=>on1 vs λy=>gT y λi=>eC (H a) λxs=>i=0/\jN xs[0]? λv=>Q v (Xz H a (.lst xs.tail))
section
variable{o e:Expr}{to:TE}{t:TA}{name:Str}{apos XG:Pos}{id:String}{r:V->List V->Hp->VK->Prop}
theorem vB(slot:Slot "list" name id)(hty:typeOf (.builtin id)=pure (.type "method_descriptor"))(hm:Q6 X id r)(ho:PE X o to)(ha:PA X (e::es) t)(Yc:attributeBase o name X.env (eval o X.env)=eval o X.env:=by rfl)(aa5:((backTo XG (starEach (e::es) X.env)).all (λx=>!x.1)&&(backToKw XG (keywordEach [] X.env)).all (λx=>x.1.isSome)&&decide ((e::es).length+([]:List Keyword).length+(if ([]:List Keyword).isEmpty then 0 else 1) < 30))=true:=by rfl)(Yd:(apos.endLine==XG.line)=true:=by rfl)(hs:starEach (e::es) X.env=(false,eval e X.env)::starEach es X.env:=by rfl)(Zl:(backTo XG (starEach es X.env)).any (·.1)=false:=by rfl) : PE X (.Call (.Attribute o name apos) (e::es) [] XG) (Xm r to t):=by
 intro Xy s σ H Q I h;refine wpAny_Call_method_late Yc aa5 Yd rfl (thn (ho Xy s σ H _ I h) λv s1 ⟨x,H1,I1,r1,q1⟩=>?_);obtain⟨a,rfl,q1⟩:=aN q1;obtain⟨xs,e1,q1⟩:=eV q1;obtain⟨h1,h2⟩:=FI (T:="list") I1 r1 (.inl ⟨rfl,xs,.inl (.inl e1)⟩);refine⟨"list",id,PySem.F.plainAttrs_list,slot,hty,h1,h2,?_⟩;have hA:=ha XG Xy s1 σ H1 _ I1 q1;rw[hs] at hA ⊢;refine Γ7 (by show(false||(backTo XG (starEach es X.env)).any (·.1))=false;rw[Zl]<;>rfl) (Ι2 ?_);exact thn hA λus s2 ⟨vs,H2,I2,r2,q2⟩=>hm Xy s2 σ H2 _ vs v us Q I2 r1 r2 q2
def mL:Q6 X "list.extend" Ui:=λXy s σ H x vs v us Q I rx rv h=>by
 obtain⟨a,rfl,h1⟩:=aN h;obtain⟨y,rfl,h2⟩:=fY h1;obtain⟨b,rfl,h3⟩:=aN h2;obtain⟨xs,e1,h4⟩:=eV h3;obtain⟨zs,e2,h5⟩:=eV h4;exact I8 Xy s σ H _ _ v us Q I rx rv ⟨_,_,_,_,rfl,rfl,e1,e2,h5⟩
theorem O7:Q6 X "list.pop" Qp:=λXy s σ H x vs v us Q I rx rv h=>by
 obtain⟨a,rfl,h1⟩:=aN h;obtain⟨y,rfl,h2⟩:=fY h1;obtain⟨i,rfl,h3⟩:=eJ h2;obtain⟨xs,e1,rfl,h4⟩:=eV h3;obtain⟨y,e2,h5⟩:=dO h4;cases xs with
 | nil=>cases e2
 | cons z zs=>exact LZ Xy s σ H _ _ v us Q I rx rv ⟨_,_,_,0,y,rfl,rfl,e1,by decide,by decide,by simp[seqIndex?],e2,h5⟩
end
mutual
example:=[!xs.isEmpty]
def JL:Option HO->Option Bool
 | some (.lst xs)=>some 0e0
 | some (.tup xs)=>some 0e0
 | some (.dK kvs)=>some (!kvs.isEmpty)
 | _=>none
def Ef(H:Hp):V->Option Bool
 | .XB=>some false
 | .bl b=>some b
 | .int i=>some (i !=0)
 | .ref p=>JL (H p)
 | _=>none
def P1{x:V}{k:Bool}(h:Ef H x=some k):TZ K x H k:=by
 cases x with
 | XB=>cases h;rfl
 | bl b=>cases h;rfl
 | int i=>cases h;rfl
 | ref p =>
  simp only[Ef] at h;unfold JL at h;split at h
  ·next e=>cases h;exact .inl ⟨_,.inl (.inl e),rfl⟩
  ·next e=>cases h;exact .inr (.inl ⟨_,cJ.of e,rfl⟩)
  ·next e=>cases h;exact .inr (.inr ⟨_,e,rfl⟩)
  ·cases h
 | _=>cases h
def Nq(ta:TE):TT:=λσ H Q=>ta σ H λx H'=>jN (Ef H' x) λk=>Q k H'
def pO{a:Expr}{ta:TE}(ha:PE X a ta)(he:∀whole,isTrue a X.env whole=(do let v <- whole;standAt a.pos;holding [v] (truthy v))):PT X a (Nq ta):=by
 intro Xy s σ H Q I h;exact isTrue_plain (thn (ha Xy s σ H _ I h) λv s1 ⟨x,H1,I1,r1,q1⟩=>by
  obtain⟨k,e,q⟩:=dO q1;exact TL Xy s1 σ H1 x v Q I1 r1 ⟨k,P1 e,q⟩) (he _)
end
section
mutual
example:=[.ref p,some y::aV fr σ,!vs.isEmpty]
variable{te to:TE}{t:TA}{tj:TJ}{Q:VK}{acc:Str}{r:V->List V->Hp->VK->Prop}{QS:Str->Hp->Prop}{B:Bool->Hp->Prop}{D:Ends}{p q:Addr}{v:V}{b:Bool}{i:Int}
def RS:Str.empty++x=x:=by
 show(⟨#[]++x.cps⟩:Str)=x;rw[Array.empty_append]
def WM:Xm r to t σ H Q=to σ H λx H1=>aU x λa=>eC (H1 a) λ_=>t σ H1 λxs H2=>r (.ref a) xs H2 Q:=rfl
def UR:Ui 0e0 [.ref q] H Q=eC (H p) λxs=>eC (H q) λzs=>xs.length+zs.length<=sizeLine/\Q .XB (Xz H p (.lst (xs++zs))):=rfl
def Sw:Qp 0e0 [.int 0] H Q=eC (H p) λxs=>(0:Int)=0/\jN xs[0]? λv=>Q v (Xz H p (.lst xs.tail)):=rfl
def ON:Nq te σ H B=te σ H λx H'=>jN (Ef H' x) λk=>B k H':=rfl
def SI:Ef H .XB=some false:=rfl
def SE:Ef H (.bl b)=some b:=rfl
def SG:Ef H (.int i)=some (i !=0):=rfl
def Lk:Ef H 0e0=JL (H p):=rfl
def SH:JL (some (.lst vs))=some 2e0:=rfl
def SJ:JL (some (.tup vs))=some 2e0:=rfl
def SF:JL (some (.dK kvs))=some (!kvs.isEmpty):=rfl
variable{tc:TT}{tl:TE}
def Om:l8 (EN K tl) fr tc te σ H Q=tl σ H λx H1=>aU x λa=>(∃xs,cJ K H1 a xs)/\lc (Itt K a) fr tc te σ H1 Q:=by
 unfold l8 EN
 congr 1
 funext x H1;exact propext ⟨fun⟨a,e,h1,h⟩=>by subst e;exact⟨h1,h⟩,λh=>by obtain⟨a,rfl,h1,h⟩:=aN h;exact⟨a,rfl,h1,h⟩⟩
theorem LP(Pv:Nat->List V->Hp->Prop)(h0:Pv 0 [] H)(hz:∀i xs H,Pv i xs H->xs.length<=1000000)(hl:∀i xs H,Pv i xs H->cJ K H a ys)(hs:∀i y xs H,i < ys.length->ys[i]?=some y->Pv i xs H->tc 1e0 H λb H2=>if b=true then te 1e0 H2 (λz H3=>Pv (i+1) (xs++[z]) H3) else Pv (i+1) xs H2)(hd:∀xs H,Pv ys.length xs H->∀p,H p=none->Q 0e0 (Xz H p (.lst xs))):lc (Itt K a) fr tc te σ H Q:=by
 refine⟨cW ys.length Pv,⟨ys.length,by simp,ϖ _,h0⟩,?_⟩;rintro i m xs H ⟨rfl,hi,p⟩;refine⟨hz i xs H p,?_⟩;have q:=hl i xs H p;by_cases XW:i < ys.length
 ·refine .inr ⟨⟨ys,ys[i],q,by simp[XW]⟩,λy H' yy=>?_⟩;obtain⟨e,yy⟩:=yy;subst e;simp only[CZ XW];exact hs i y xs _ XW (yy ys q) p
 ·have e:i=ys.length:=by omega
  subst e;exact .inl ⟨⟨ys,q,Ζ _⟩,hd xs H p⟩
end
end
section
mutual
example:=[(by omega),(by show A.units+1+_ < _;omega),he j x y ex ey]
theorem PL{b:Addr}{r:Bool}(h:pX X.K H n a b r)(I:XC X Xy σ H s)(hu:A.units+n < cLine):SeqAt.RcNeAt A s (.ref a) (.ref b) (!r):=by
 cases h with
 | list hx hy hl he =>
  obtain⟨XA,r1,p1,z1⟩:=I.list hx;obtain⟨YT,r2,p2,z2⟩:=I.list hy;have l1:=r1.length;have l2:=r2.length;have:=SeqAt.RcNeAt.lists p1.isList p2.isList (by simp only[Η];omega) 0e0 (A:=A) (λj h1 h2=>by
   obtain⟨x,ex,rx⟩:=kR r1 h1;obtain⟨y,ey,ry⟩:=kR r2 h2;exact Lo 2e0 I rx ry 1e0)
  rw[Η,<- l1] at this;exact this
 | Yg hx hy hl =>
  obtain⟨XA,r1,p1,z1⟩:=I.list hx;obtain⟨YT,r2,p2,z2⟩:=I.list hy;have l1:=r1.length;have l2:=r2.length;exact SeqAt.RcNeAt.lists_lengths p1.isList p2.isList (by simp only[Η,bne_iff_ne,ne_eq];omega) 0e0
 | tup hx hy he =>
  obtain⟨XA,r1,p1,z1⟩:=I.tuple hx;obtain⟨YT,r2,p2,z2⟩:=I.tuple hy;have l1:=r1.length;have l2:=r2.length;have:=SeqAt.RcNeAt.tuples (show s.heap.IsTuple _ XA.toArray from p1) (show s.heap.IsTuple _ YT.toArray from p2) 0e0 (A:=A) (λj h1 h2=>by
   obtain⟨x,ex,rx⟩:=kR r1 h1;obtain⟨y,ey,ry⟩:=kR r2 h2;exact Lo 2e0 I rx ry 1e0)
  rw[Η,Η,<- l1,<- l2] at this;exact this
end
end
mutual
example:=[]
def Ul(K:q0B)(n:Nat):R2:=λx y H Q=>aU x λa=>aU y λb=>∃r,pX K H n a b r/\Q (.bl (!r)) H
def Rf(K:q0B)(n:Nat):R2:=λx y H Q=>aU x λa=>aU y λb=>∃r,pX K H n a b r/\Q (.bl r) H
theorem nF{k:Nat}(hr:Room k A)(h:n<=60):A.units+n < cLine:=Nat.lt_of_le_of_lt (Nat.add_le_add_left (by omega:n<=64) _) hr.units
def Ki:List V->Hp->VK->Prop:=λvs H Q=>on1 vs λx=>aU x λp=>mW (H p) λys=>∀l,H l=none->Q (.ref l) (Xz H l (.lst ys))
def Ql(K:q0B):List V->Hp->VK->Prop:=λvs H Q=>on1 vs λx=>aU x λp=>∃xs,c5 K H p xs/\Q (.int xs.length) H
end
section
mutual
example:=[bI I q rfl]
def y7(n:Nat)(hu:X.A.units+n < cLine):i9 X (compareOp .NotEq) (Ul X.K n):=λXy s σ H x y v u Q I rx ry h=>by
 obtain⟨a,rfl,h1⟩:=aN h;obtain⟨b,rfl,r,e,q⟩:=aN h1;cases rx;cases ry;exact PL e I hu X.prog X.w X.xe _ 0e0
def y6(n:Nat)(hu:X.A.units+n < cLine):i9 X (compareOp .Eq) (Rf X.K n):=λXy s σ H x y v u Q I rx ry h=>by
 obtain⟨a,rfl,h1⟩:=aN h;obtain⟨b,rfl,r,e,q⟩:=aN h1;cases rx;cases ry;exact MC e I hu X.prog X.w X.xe _ 0e0
def Io:eI X (.type "list") Ki:=λXy s σ H xs us Q I r h=>by
 obtain⟨x,rfl,h1⟩:=fY h;obtain⟨p,rfl,h2⟩:=aN h1;obtain⟨ys,e,h3⟩:=oK h2;refine BO Xy s σ H _ us Q I r ⟨p,ys,rfl,?_,h3⟩;rcases e with e|e
 ·exact .inl (c5.of e)
 ·exact .inr (cJ.of e)
def Il:eI X (.builtin "len") (Ql X.K):=λXy s σ H xs us Q I r h=>by
 obtain⟨x,rfl,h1⟩:=fY h;obtain⟨p,rfl,ys,e,q⟩:=aN h1;exact rS Xy s σ H _ us Q I r ⟨p,ys,rfl,.inl e,q⟩
end
end
section
mutual
example:=[]
variable{Q:VK}{b p:Addr}{i:Int}
def U3:Ul K n (.ref a) (.ref b) H Q = ∃r,pX K H n a b r/\Q (.bl (!r)) H:=rfl
def UP:Rf K n (.ref a) (.ref b) H Q = ∃r,pX K H n a b r/\Q (.bl r) H:=rfl
def OA:Ki [.ref p] H Q=mW (H p) λys=>∀l,H l=none->Q (.ref l) (Xz H l (.lst ys)):=rfl
def Sh:Ql K [.ref p] H Q = ∃xs,c5 K H p xs/\Q (.int xs.length) H:=rfl
end
end
def Str.cs(x:Str):List Nat:=x.cps.toList
section
variable{Q:VK}{p:Addr}{y z:Str}{neg:Bool}{v:V}
end
mutual
example:=[fs.lookup f]
def i8(C:Addr)(o:Option HO)(k:Addr->List (Str×V)->Prop)(_u:Tg k:=()):Prop:=match o with
 | some (.ins C' dx fs)=>C'=C/\k dx fs
 | _=>False
def oJ{C:Addr}{k:Addr->List (Str×V)->Prop}(h:i8 C o k):∃dx fs,o=some (.ins C dx fs)/\k dx fs:=by
 unfold i8 at h;split at h
 ·obtain⟨rfl,h⟩:=h;exact⟨_,_,rfl,h⟩
 ·exact h.elim
def NQ(C:Addr)(f:Str)(ta:TE):TE:=λσ H Q=>ta σ H λx H1=>aU x λa=>i8 C (H1 a) λ_ fs=>jN 0e0 λv=>Q v H1
def Qr(C:Addr)(f:Str)(ta tv:TE):TS:=λD σ H=>tv σ H λy H1=>ta σ H1 λx H2=>aU x λa=>i8 C (H2 a) λdx fs=>fs.length < 1000/\D.nx σ (Xz H2 a (.ins C dx (jP f y fs)))
def Qe(C:Addr)(f:Str)(ta tv:TE):TS:=λD σ H=>ta σ H λx H1=>aU x λa=>i8 C (H1 a) λ_ fs=>jN 0e0 λv=>tv σ H1 λy H2=>gT v λi=>gT y λj=>i8 C (H2 a) λdx fs'=>fs'.length < 1000/\D.nx σ (Xz H2 a (.ins C dx (jP f (.int (i+j)) fs')))
end
section
variable{o e value:Expr}{f:Str}{pos pos' aaI:Pos}{ta tv:TE}{C:Addr}
def aK(c:Cls X.K C)(n:eD X.K C f)(he:PE X e ta)(hb:attributeBase e f X.env (eval e X.env)=eval e X.env:=by rfl):PE X (.Attribute e f pos) (NQ C f ta):=λXy s σ H Q I h=>by
 refine NN hb (thn (he Xy s σ H _ I h) λu s1 ⟨x,H1,I1,rx,q1⟩=>?_);obtain⟨a,rfl,q2⟩:=aN q1;obtain⟨dx,fs,ea,q3⟩:=oJ q2;obtain⟨v,l,q⟩:=dO q3;obtain rfl:u=Value.ref a:=rx;exact yD I1 ea c n l λu' s2 I2 ru=>⟨v,H1,I2,ru,q⟩
def bO(c:Cls X.K C)(n:eD X.K C f)(ha:PE X o ta)(hv:PE X value tv)(hs:swapsWith value (some (.Attribute o f pos')) pos.line X.env=pure false:=by rfl):PS X (.Assign [.Attribute o f pos'] value pos) (Qr C f ta tv):=λXy s σ H D I h=>by
 refine plainObj_wpAny_Assign_Attribute (thn (hv Xy s σ H _ I h) λu s1 ⟨y,H1,I1,ry,q⟩=>thn (ha Xy s1 σ H1 _ I1 q) λov s2 ⟨x,H2,I2,rx,q1⟩=>?_) hs;obtain⟨a,rfl,q2⟩:=aN q1;obtain⟨dx,fs,ea,l,q3⟩:=oJ q2;obtain rfl:ov=Value.ref a:=rx;exact zS I2 ea c n l ry λs3 I3=>⟨σ,_,I3,q3⟩
def Pn(c:Cls X.K C)(n:eD X.K C f)(ha:PE X o ta)(hv:PE X value tv):PS X (.AugAssign (.Attribute o f aaI) .Add value pos) (Qe C f ta tv):=λXy s σ H D I h=>by
 refine wpAny_AugAssign_AttributeAny (thn (ha Xy s σ H _ I h) λov s1 ⟨x,H1,I1,rx,q1⟩=>?_);obtain⟨a,rfl,q2⟩:=aN q1;obtain⟨dx,fs,ea,q3⟩:=oJ q2;obtain⟨v,l,q⟩:=dO q3;obtain rfl:ov=Value.ref a:=rx;refine yD I1 ea c n l λu s2 I2 ru=>thn (hv Xy s2 σ H1 _ I2 q) λw3 s3 ⟨y,H2,I3,ry,q4⟩=>?_;obtain⟨i,rfl,q5⟩:=eJ q4;obtain⟨j,rfl,q6⟩:=eJ q5;obtain⟨dx',fs',ea',l',q7⟩:=oJ q6;refine thn (SS Xy s3 σ H2 (.int i) (.int j) u w3 (λz H3=>z=.int (i+j)/\H3=H2) I3 ru ry ⟨i,j,rfl,rfl,rfl,rfl⟩) λw4 s4 ⟨z,H3,I4,rz,ez,eH⟩=>?_;subst ez eH;exact zS I4 ea' c n l' rz λs5 I5=>⟨σ,_,I5,q7⟩
end
section
mutual
example:=[Str.ofString x,Str×V,((Str.ofString y,v)::r),fs.lookup f]
variable{C dx:Addr}{fs:List 1e0}{k:Addr->List 1e0->Prop}{m f:Str}{sp:Sp}{E:XK}{ta tv:TE}{t:TA}{Q:VK}{D:Ends}{v u:V}{r:List 1e0}
def Gy{u:Tg k}:@i8 C (some (.ins C dx fs)) k u=k dx fs:=by simp[i8]
def US:NQ C f ta σ H Q=ta σ H λx H1=>aU x λa=>i8 C (H1 a) λ_ fs=>jN 3e0 λv=>Q v H1:=rfl
def Sz:Qr C f ta tv D σ H=tv σ H λy H1=>ta σ H1 λx H2=>aU x λa=>i8 C (H2 a) λdx fs=>fs.length < 1000/\D.nx σ (Xz H2 a (.ins C dx (jP f y fs))):=rfl
def RF:Qe C f ta tv D σ H=ta σ H λx H1=>aU x λa=>i8 C (H1 a) λ_ fs=>jN 3e0 λv=>tv σ H1 λy H2=>gT v λi=>gT y λj=>i8 C (H2 a) λdx fs'=>fs'.length < 1000/\D.nx σ (Xz H2 a (.ins C dx (jP f (.int (i+j)) fs'))):=rfl
def Ld:Ec C m sp [] E ta t σ H Q=ta σ H λx H1=>aU x λa=>i8 C (H1 a) λ_ fs=>fs.lookup m=none/\t σ H1 λvs H2=>sp (.ref a::vs) H2 Q E:=by
 unfold Ec
 congr 1
 funext x H1;refine propext ⟨fun⟨a,dx,fs,e,e1,l,h⟩=>?_,λh=>?_⟩
 ·subst e;show i8 C (H1 a) _;rw[e1,Gy];simp only[Η0] at h;exact⟨l,h⟩
 ·obtain⟨a,rfl,h⟩:=aN h;obtain⟨dx,fs,e1,l,h⟩:=oJ h;exact⟨a,dx,fs,rfl,e1,l,by simpa only[Η0] using h⟩
def Sm:HR C sp [] E t σ H Q=t σ H λvs H1=>∀x dx,H1 x=none->H1 dx=none->dx≠x->sp (.ref x::vs) (Xz (Xz H1 dx (.own x)) x (.ins C dx [])) (λv H2=>v=.XB/\Q (.ref x) H2) E:=by
 unfold HR;simp only[Η0]
def Mb{x y:String}:(Str.ofString x=Str.ofString y)=(x=y):=gD
def Lc{x y:String}:List.lookup 0e0 2e0=if x=y then some v else List.lookup 0e0 r:=by
 by_cases h:x=y
 ·subst h;simp[List.lookup]
 ·have:(Str.ofString x==Str.ofString y)=false:=Β6.mpr λz=>h (Mb▸z);simp only[List.lookup,this,if_neg h]
def II:List.lookup x ([]:List 1e0)=none:=rfl
def Sx{x y:String}:jP 0e0 u 2e0=if y=x then (Str.ofString y,u)::r else (Str.ofString y,v)::jP 0e0 u r:=by
 rw[show jP 0e0 u 2e0=(if Str.ofString y=Str.ofString x then (Str.ofString y,u)::r else (Str.ofString y,v)::jP 0e0 u r) from rfl];by_cases h:y=x
 ·rw[if_pos h,if_pos (by rw[h])]
 ·rw[if_neg h,if_neg λz=>h (Mb▸z)]
def OH:jP x u []=[(x,u)]:=rfl
end
end
section
variable{Q:VK}{x:V}{p:Addr}{t:TA}{i:Int}{z:Str}{b:Bool}
end
def GD{a b:Str}:rG (.str a) (.str b)=(a==b):=rfl
def OS{a b:Int}:rG (.int a) (.int b)=(a==b):=rfl
section
mutual
example:=[(by intro z;cases z),.dK kvs,(λb q=>own b _ q),(λ_ _ _ z=>z)]
variable{o:Obj}
def XC.PZ(I:XC X Xy σ H s)(e:H a=some (.XX o 1e0))(YA:∀ob u,X.H₀ a≠some (.XX ob u)):XC X Xy σ (Xz H a 1e0) s:=by
 have nn:∀{b:Addr},H b=none->b≠a:=λh z=>by subst z;rw[e] at h;cases h
 refine⟨I.ok,I.os,I.bare,⟨I.base.keep,I.base.slot,λb ob q n hx=>?_,I.base.there,λb xs q=>?_,λb ob u q=>?_,λb ps q=>?_⟩,I.loc,I.cell,?_,λx c hc=>?_,λp hp=>?_,λb u q=>?_,I.len⟩
 ·have:=I.base.free b ob q n hx;rw[aC (nn this)];exact this
 ·have:=I.base.AB b xs q;rw[aC (bU this e 0e0)];exact this
 ·have h1:=I.base.xZ b ob u q;rw[aC (λz=>by subst z;exact YA _ _ q)];exact h1
 ·obtain⟨more,h1⟩:=I.base.AA b ps q;exact⟨more,by rw[aC (bU h1 e 0e0)];exact h1⟩
 ·rw[aC (nn I.free)];exact I.free
 ·rw[aC (nn (I.lO x c hc))];exact I.lO x c hc
 ·obtain⟨h1,h2,h3⟩:=I.pin p hp;exact⟨h1,by rw[aC (nn h2)];exact h2,h3⟩
 ·have own:∀b c,H b=some (.own c)->Xz H a 1e0 b=some (.own c):=λb c q=>by rw[aC (bU q e 0e0)];exact q
  have tup:∀b xs,H b=some (.tup xs)->Xz H a 1e0 b=some (.tup xs):=λb c q=>by rw[aC (bU q e 0e0)];exact q
  by_cases hb:b=a
  ·subst hb;rw[aA] at q;cases q;exact c0.uS (I.XF b _ e).2 3e0 2e0 tup
  ·rw[aC hb] at q;exact(I.XF b u q).uS 3e0 2e0 tup
end
end
mutual
example:=[Xz H a (.dK kvs),.XX o (.dK kvs),.XX ob u]
def QR(H₀:Hp)(D:Ends):Ends :=
 {nx:=λσ H=>∃a o kvs,H a=some 1e0/\(∀ob u,H₀ a≠some 2e0)/\D.nx σ 0e0
  bk:=λσ H=>∃a o kvs,H a=some 1e0/\(∀ob u,H₀ a≠some 2e0)/\D.bk σ 0e0
  ct:=λσ H=>∃a o kvs,H a=some 1e0/\(∀ob u,H₀ a≠some 2e0)/\D.ct σ 0e0
  rt:=λv H=>∃a o kvs,H a=some 1e0/\(∀ob u,H₀ a≠some 2e0)/\D.rt v 0e0}
def QP(H₀:Hp)(t:TS):TS:=λD σ H=>t (QR H₀ D) σ H
def Pq{st:Stmt}{t:TS}(h:PS X st t):PS X st (QP X.H₀ t):=λXy s σ H D I hq =>
 thn (h Xy s σ H _ I hq) λf s' q=>by
  cases f with
  | next=>obtain⟨σ',H',I',a,o,kvs,e,YA,q⟩:=q;exact⟨σ',_,I'.PZ e YA,q⟩
  | brk=>obtain⟨σ',H',I',a,o,kvs,e,YA,q⟩:=q;exact⟨σ',_,I'.PZ e YA,q⟩
  | cont=>obtain⟨σ',H',I',a,o,kvs,e,YA,q⟩:=q;exact⟨σ',_,I'.PZ e YA,q⟩
  | ret u=>obtain⟨v,σ',H',I',r,a,o,kvs,e,YA,q⟩:=q;exact⟨v,σ',_,I'.PZ e YA,r,q⟩
def Ug(ty td:TE):TE:=λσ H Q=>ty σ H λy H1=>td σ H1 λx H2=>aU x λa=>cN (H2 a) λkvs=>jN (kO y) λk=>Q (.bl (bY kvs k).isSome) H2
def Kf(td ty:TE):TE:=λσ H Q=>td σ H λx H1=>aU x λa=>cN (H1 a) λ_=>ty σ H1 λy H2=>cN (H2 a) λkvs=>jN (kO y) λk=>jN (bY kvs k) λv=>Q v (Xz H2 a (.dK (uW kvs k)))
def Ke(td ty tx:TE):TE:=λσ H Q=>td σ H λx H1=>aU x λa=>cN (H1 a) λ_=>ty σ H1 λy H2=>tx σ H2 λz H3=>cN (H3 a) λkvs=>jN (kO y) λk=>Q ((bY kvs k).getD z) H3
def Cd{y:V}{k:Key}(h:kO y=some k):y=kV k:=by
 cases y<;>simp[kO] at h<;>subst h<;>rfl
end
section
mutual
example:=[ho Xy s σ H _ I h,(thn 0e0 λu s1 ⟨x,H1,I1,rx,q1⟩=>?_),he Xy s1 σ H1 _ I1 q3,(.inl ⟨kv0,.inl e0⟩),(thn (hf Xy s2 σ H2 _ I2 q4) λfv s3 ⟨z,H3,I3,rz,q5⟩=>Κ7 ?_),aR X.prog X.w]
variable{o e f:Expr}{apos XG:Pos}{td ty tx:TE}
def Mt(ho:PE X o td)(he:PE X e ty)(m:M1 X o "pop" apos e XG):PE X (.Call (.Attribute o "pop" apos) [e] [] XG) (Kf td ty):=λXy s σ H Q I h=>by
 refine wpAny_Call_method m.base m.Zu m.line Ζ6 PySem.F.slot_dict_pop PySem.F.type_dict_pop 1e0;obtain⟨a,rfl,q2⟩:=aN q1;obtain⟨kv0,e0,q3⟩:=c8 q2;obtain rfl:u=Value.ref a:=rx;obtain⟨t1,t2,_⟩:=tV I1 3e0;refine⟨t1,t2,?_⟩;rw[m.trees];refine Γ7 rfl (Ι2 (Ζ5 (thn 2e0 λiv s2 ⟨y,H2,I2,ry,q4⟩=>Κ7 ?_)));obtain⟨kvs,ea,q5⟩:=c8 q4;obtain⟨k,ek,q6⟩:=dO q5;obtain⟨v,l,q7⟩:=dO q6;cases Cd ek;exact Ut I2 ea ry l (.inl rfl) λw' s3 I3 YH=>⟨v,_,I3,YH,q7⟩
def Jo(hu:X.A.units+1 < cLine)(ho:PE X o td)(he:PE X e ty)(hf:PE X f tx)(m:M2 X o "get" apos e f XG):PE X (.Call (.Attribute o "get" apos) [e,f] [] XG) (Ke td ty tx):=λXy s σ H Q I h=>by
 refine wpAny_Call_method m.base m.Zu m.line Ζ6 Η7 PySem.F.type_dict_get 1e0;obtain⟨a,rfl,q2⟩:=aN q1;obtain⟨kv0,e0,q3⟩:=c8 q2;obtain rfl:u=Value.ref a:=rx;obtain⟨t1,t2,_⟩:=tV I1 3e0;refine⟨t1,t2,?_⟩;rw[m.trees];refine Γ7 rfl (Ι2 (Ζ5 (thn 2e0 λiv s2 ⟨y,H2,I2,ry,q4⟩ =>
  Ζ5 4e0)))
 obtain⟨kvs,ea,q6⟩:=c8 q5;obtain⟨k,ek,q7⟩:=dO q6;cases Cd ek;exact Rw hu I3 (DGet.k ea) ry rz λw' s4 I4 YH=>⟨_,H3,I4,YH,q7⟩
def He(hu:X.A.units+1 < cLine)(hi:PE X e ty)(ho:PE X o td):PC X .In e o (Ug ty td):=λXy s σ H Q I h=>by
 refine thn (hi Xy s σ H _ I h) λiv s1 ⟨y,H1,I1,ry,q1⟩=>thn (ho Xy s1 σ H1 _ I1 q1) λu s2 ⟨x,H2,I2,rx,q2⟩=>?_;obtain⟨a,rfl,q3⟩:=aN q2;obtain⟨kvs,e0,q4⟩:=c8 q3;obtain⟨k,ek,q5⟩:=dO q4;obtain rfl:u=Value.ref a:=rx;cases Cd ek;exact WC hu I2 (DGet.k e0) ry λs3 I3=>⟨.bl (bY kvs k).isSome,H2,I3,rfl,q5⟩
def Gh(td:TE):TE:=λσ H Q=>td σ H λx H1=>aU x λa=>cN (H1 a) λ_=>Q .XB (Xz H1 a (.dK []))
def Jn(ho:PE X o td)(Yc:attributeBase o "clear" X.env (eval o X.env)=eval o X.env:=by rfl)(Yd:(apos.endLine==XG.line)=true:=by rfl):PE X (.Call (.Attribute o "clear" apos) [] [] XG) (Gh td):=λXy s σ H Q I h=>by
 refine wpAny_Call_method0_late Yc Yd (thn 0e0 λv s1 ⟨x,H1,I1,r1,q1⟩=>?_);obtain⟨a,rfl,q2⟩:=aN q1;obtain⟨kvs,e0,q3⟩:=c8 q2;obtain rfl:v=Value.ref a:=r1;obtain⟨t1,t2,_⟩:=tV I1 (.inl ⟨kvs,.inl e0⟩);refine⟨"dict","dict.clear",Ζ6,PySem.F.slot_dict_clear,PySem.F.type_dict_clear,t1,t2,Γ7 rfl (PySem.evalArgs_none ?_)⟩;obtain⟨z,hd,vs,rel,dd⟩:=rX I1.XF e0;refine Ε9 PySem.F.slot_dict_clear dd.typeIs PySem.F.entry_dict_clear (PySem.F.args_dict_clear_1 _) (meets_dict_clear 5e0 a)
  ⟨vs,dd,by rw[<- rel.length];exact z,λh' YW hs=>⟨.XB,_,?_,rfl,q3⟩⟩
 have he:∃q,h'.get? a=some q:=let ⟨q,_,_,hq,_⟩:=YW;⟨q,hq⟩;exact pD I1 (by rw[e0];exact True.intro) hs he (qM (ϖ _) hd .nil YW)
def Qf(td ty tx:TE):TE:=λσ H Q=>td σ H λx H1=>aU x λa=>cN (H1 a) λ_=>ty σ H1 λy H2=>tx σ H2 λz H3=>cN (H3 a) λkvs=>jN (kO y) λk=>kvs.length < sizeLine /\
 (∀v,bY kvs k=some v->Q v H3)/\(bY kvs k=none->Q z (Xz H3 a (.dK (dS kvs k z))))
theorem Mu(ho:PE X o td)(he:PE X e ty)(hf:PE X f tx)(m:M2 X o "setdefault" apos e f XG):PE X (.Call (.Attribute o "setdefault" apos) [e,f] [] XG) (Qf td ty tx):=λXy s σ H Q I h=>by
 refine wpAny_Call_method m.base m.Zu m.line Ζ6 PySem.F.slot_dict_setdefault PySem.F.type_dict_setdefault 1e0;obtain⟨a,rfl,q2⟩:=aN q1;obtain⟨kv0,e0,q3⟩:=c8 q2;obtain rfl:u=Value.ref a:=rx;obtain⟨t1,t2,_⟩:=tV I1 3e0;refine⟨t1,t2,?_⟩;rw[m.trees];refine Γ7 rfl (Ι2 (Ζ5 (thn 2e0 λiv s2 ⟨y,H2,I2,ry,q4⟩ =>
  Ζ5 4e0)))
 obtain⟨kvs,ea,q6⟩:=c8 q5;obtain⟨k,ek,hl,q7,q8⟩:=dO q6;cases Cd ek;obtain⟨z',hd,vs,rel,dd⟩:=rX I3.XF ea;refine Ε9 PySem.F.slot_dict_setdefault dd.typeIs PySem.F.entry_dict_setdefault (PySem.F.args_dict_setdefault_3 _ _ _) (kt_meets_setdefault 5e0 a (sH ry) hd fv)
  ⟨vs,dd,by rw[<- rel.length];exact z',λv hv=>?_,λhv h' YW hs=>?_⟩
 ·have:=rel.val k;rw[hv] at this;cases l:bY kvs k with
  | none=>rw[l] at this;exact this.elim
  | some w=>rw[l] at this;exact⟨w,H3,I3.tok _,this,q7 w l⟩
 ·have:=rel.val k;rw[hv] at this;cases l:bY kvs k with
  | some w=>rw[l] at this;exact this.elim
  | none =>
   have he:∃q,h'.get? a=some q:=let ⟨q,_,_,hq,_⟩:=YW;⟨q,hq⟩;exact⟨z,_,pD I3 (by rw[ea];exact True.intro) hs he (qM (by have:=kS kvs k z;omega) hd (rel.put k rz) YW),rz,q8 l⟩
end
end
section
mutual
example:=[]
variable{td ty tx:TE}{H₀:Hp}{Q:VK}{t:TS}{D:Ends}{v:V}
def SD:QP H₀ t D σ H=t (QR H₀ D) σ H:=rfl
def RN:Ug ty td σ H Q=ty σ H λy H1=>td σ H1 λx H2=>aU x λa=>cN (H2 a) λkvs=>jN (kO y) λk=>Q (.bl (bY kvs k).isSome) H2:=rfl
def Ot:Kf td ty σ H Q=td σ H λx H1=>aU x λa=>cN (H1 a) λ_=>ty σ H1 λy H2=>cN (H2 a) λkvs=>jN (kO y) λk=>jN (bY kvs k) λv=>Q v (Xz H2 a (.dK (uW kvs k))):=rfl
def Lb:Ke td ty tx σ H Q=td σ H λx H1=>aU x λa=>cN (H1 a) λ_=>ty σ H1 λy H2=>tx σ H2 λz H3=>cN (H3 a) λkvs=>jN (kO y) λk=>Q ((bY kvs k).getD z) H3:=rfl
def La:Gh td σ H Q=td σ H λx H1=>aU x λa=>cN (H1 a) λ_=>Q .XB (Xz H1 a (.dK [])):=rfl
def Ou:Qf td ty tx σ H Q=td σ H λx H1=>aU x λa=>cN (H1 a) λ_=>ty σ H1 λy H2=>tx σ H2 λz H3=>cN (H3 a) λkvs=>jN (kO y) λk=>kvs.length < sizeLine/\(∀v,bY kvs k=some v->Q v H3)/\(bY kvs k=none->Q z (Xz H3 a (.dK (dS kvs k z)))):=rfl
end
end
def Qi:V->V->Hp->VK->Prop:=λx y H Q=>aU x λp=>gT y λi=>eC (H p) λxs=>jN (iR xs i) λv=>Q v H
def Uk:TIp:=λx y H Q=>gT x λi=>gT y λj=>Q (.int (i+j)) H
section
mutual
example:=[(by omega),(by rw[hj];simpa using ew)]
theorem Vq:PGet X Qi:=λXy s σ H o i ov iv Q I ro ri h=>by
 obtain⟨p,rfl,h1⟩:=aN h;obtain⟨k,rfl,h2⟩:=eJ h1;obtain⟨xs,e,h3⟩:=eV h2;obtain⟨v,ea,q⟩:=dO h3;cases ro;obtain⟨t,rfl⟩:=ri;obtain⟨XA,r,pl,hz⟩:=I.list (c5.of e);obtain⟨j,g1,g2,g3,g4,g5⟩:=vV ea;obtain⟨w,ew,YH⟩:=r.get g2;have hl:=r.length;have hn:=line63;have fin:EP X Xy σ Q w s:=⟨v,H,I,YH,q⟩;by_cases h0:0<=k
 ·have hj:k.toNat=j:=by
   rw[seqIndex_of h0 g5] at g1;exact Ϛ g1
  exact wpAny_getItem_list pl.isList h0 0e0 1e0 fin
 ·have hj:(k+(XA.toArray.size:Int)).toNat=j:=by
   rw[seqIndex_neg 0e0 g4] at g1;rw[Η,<- hl];exact Ϛ g1
  exact wpAny_getItem_list_neg pl.isList 0e0 (by rw[Η];omega) 0e0 1e0 fin
def GS:PIp X .Add Uk:=λXy s σ H x y v u Q I r1 r2 h=>by
 obtain⟨i,rfl,h1⟩:=eJ h;obtain⟨j,rfl,q⟩:=eJ h1;exact SU Xy s σ H _ _ v u Q I r1 r2 ⟨i,j,rfl,rfl,q⟩
end
end
mutual
example:=[e::es,.Subscript (.Name x p) ke pos']
structure TV(P:Params)(K:q0B)(d:Addr):Prop where
 ex:∃es n,K.lookup d=some {cls:=.type "dict",data:=.dict es n}/\PySem.W.KeysLit P es.toList
def QM(tab:List (Str×Sp))(tk:TE)(t:TA):TE:=λσ H Q=>tk σ H λy H1=>DH y λx=>jN (tab.lookup x) λsp=>t σ H1 λvs H2=>sp vs H2 Q E0
theorem Ph{p pos pos':Pos}{d:Addr}{ke e:Expr}{tk:TE}{t:TA}{k:Nat}{tab:List (Str×Sp)}(hg:Gl X x)(hm:X.mg x=some (.ref d))(M:TV X.w.params X.K d)(hk:PE X ke tk)(hs:Q7 ke)
    (F:∀y sp,tab.lookup y=some sp->∃f fd ps,PySem.W.nsIn X.K d y=some (some (.ref f))/\fJ X.prog X.w X.K X.mg X.base Yr k f fd ps sp/\PySem.W.keepIn X.K (.ref f)=true/\Binds X.K fd ps [])
    (hr:Room k X.A) (ha:PA X 0e0 t) (hd:(x==("__debug__":Str))=false:=by decide) (he:starEach 0e0 X.env=(false,eval e X.env)::starEach es X.env:=by rfl) (YR:(backTo pos (starEach es X.env)).any (·.1)=false:=by rfl)
    (hc:eval (.Call 1e0 0e0 [] pos) X.env=(do
      let f <- eval 1e0 X.env
      callWith pos f [] (backTo pos (starEach 0e0 X.env)) (backToKw pos (keywordEach [] X.env))):=by rfl) :
    PE X (.Call 1e0 0e0 [] pos) (QM tab tk t):=λXy s σ H Q I h=>by
  obtain⟨es',n',lk,kl⟩:=M.ex;refine PyProof.Rows.Call_ (HP (T:="dict") PySem.F.slot_dict_getitem.lookup hs (thn (iO (v:=.ref d) hg hm rfl hd Xy s σ H (λv H'=>v=.ref d/\tk σ H' _) I ⟨rfl,h⟩) λo s1 ⟨v,H1,I1,r1,ev,q1⟩=>?_)) hc;subst ev;obtain rfl:o=Value.ref d:=r1;refine thn (hk Xy s1 σ H1 _ I1 q1) λi s2 ⟨y,H2,I2,ry,q2⟩=>?_;obtain⟨z,rfl,q3⟩:=Mi q2;obtain⟨sp,el,q4⟩:=dO q3;obtain⟨f,fd,ps,hns,hf,hkp,hb⟩:=F z sp el;obtain⟨t',rfl⟩:=ry;obtain⟨m,fr⟩:=I2.fr;refine⟨⟨_,I2.kIn _ _ lk,rfl⟩,PySem.W.topGetDict_K fr I2.mod.kin lk kl hns ?_⟩;refine PySem.W.callWith_K (h₀:=X.base) I2.mod.kin hkp (thn (ha pos Xy _ σ H2 _ (I2.tok _) q4) λus s3 ⟨vs,H3,I3,r3,q5⟩=>⟨I3.kIn,?_⟩) he YR;exact Cy (E:=E0) hf hr hb .nil pass0 I3 r3 (by simpa using q5)
end
section
mutual
example:=[]
variable{tab:List (Str×Sp)}{tk to ti te:TE}{t:TA}{Q:VK}{D:Ends}{p:Addr}{i j:Int}{Zq:V->V->Hp->VK->Prop}{tip:TIp}{Zr:TSet}
def RM:QM tab tk t σ H Q=tk σ H λy H1=>DH y λx=>jN (tab.lookup x) λsp=>t σ H1 λvs H2=>sp vs H2 Q E0:=rfl
def RX:Qi (.ref p) (.int i) H Q=eC (H p) λxs=>jN (iR xs i) λv=>Q v H:=rfl
def UW:Uk (.int i) (.int j) H Q=Q (.int (i+j)) H:=rfl
def RG:QL to ti te Zq tip Zr D σ H=to σ H λo H1=>ti σ H1 λi H2=>Zq o i H2 λx H3=>te σ H3 λy H4=>tip x y H4 λz H5=>Zr o i z H5 λH6=>D.nx σ H6:=rfl
def UL{i:Nat}{ti:TIp}:VO i te ti D σ H = ∃x,σ[i]?=some (some x)/\te σ H λy H1=>ti x y H1 λz H2=>D.nx (σ.set i (some z)) H2:=rfl
end
end
mutual
example:=[List.Mem.head _,(by omega),seqObj "list" vs.toArray 0,List.Mem.tail _ mem,.lst (XJ.map V.int)]
def intKeys:List (Key×V)->Option (List Int)
 | []=>some []
 | (.inl i,_)::r=>(intKeys r).map (i::·)
 | _=>none
theorem yH:∀{kvs:List (Key×V)} {ns:List Int},intKeys kvs=some ns->kvs.length=ns.length/\∀(j:Nat) (k:Key) (x:V),kvs[j]?=some (k,x)->∃i:Int,k=.inl i/\ns[j]?=some i
 | [],ns,h=>by cases h;exact⟨rfl,λj k x e=>by simp at e⟩
 | (k,v)::kvs,ns,h=>by
  cases k with
  | inl i =>
   simp only[intKeys,ϑ] at h;obtain⟨ms,e,rfl⟩:=h;obtain⟨l,f⟩:=yH e;refine⟨by simp[l],λj k x ej=>?_⟩;cases j with
   | zero=>simp only[Ω,ϒ,Prod.mk.injEq] at ej;exact⟨i,ej.1.symm,rfl⟩
   | succ j=>exact f j k x (by simpa using ej)
  | _=>cases h
def GQ:∀{vs:List Value},vs.length=ns.length->(∀(j:Nat) (v:Value),vs[j]?=some v->∃i t,ns[j]?=some i/\v=Value.int i t)->IntsAre vs ns:=by
 induction ns with
 | nil =>
  intro vs hl _;cases vs with
  | nil=>exact .nil
  | cons _ _=>simp at hl
 | cons n ns ih =>
  intro vs hl h;cases vs with
  | nil=>simp at hl
  | cons v vs =>
   obtain⟨i,t,e,rfl⟩:=h 0 v rfl;cases e;exact .cons _ _ (ih (by simpa using hl) λj v e=>h (j+1) v (by simpa using e))
def c0.there{o:HO}(x:c0 P w H h a o):∃ob,h.get? a=some ob:=by
 cases o with
 | lst xs=>obtain⟨_,_,_,_,e⟩:=x;exact⟨_,e⟩
 | tup xs=>obtain⟨_,_,_,o,e,_⟩:=x;exact⟨_,e⟩
 | dK kvs=>obtain⟨_,_,_,_,o,_,_,e,_⟩:=x;exact⟨_,e⟩
 | dT kvs=>obtain⟨_,_,_,_,o,_,_,e,_⟩:=x;exact⟨_,e⟩
 | set S n=>obtain⟨o,_,_,_,e,_⟩:=x;exact⟨_,e⟩
 | ins C dx fs=>obtain⟨_,_,_,e,_⟩:=x;exact⟨_,e⟩
 | own y=>obtain⟨_,e⟩:=x;exact⟨_,e⟩
 | xd fs=>obtain⟨_,⟨_,_,_,e,_⟩,_⟩:=x;exact⟨_,e⟩
 | rng lo hi=>obtain⟨_,_,_,e⟩:=x;exact⟨_,e⟩
 | XX ob u=>obtain⟨e,_⟩:=x;exact⟨_,e⟩
 | tbl ps=>exact⟨_,(show h.get? a=some _ from x)⟩
 | met f y=>exact⟨_,(show h.get? a=some _ from x)⟩
 | ext φ=>obtain⟨_,⟨_,e⟩,_⟩:=x;exact⟨_,e⟩
def Kk:List V->Hp->VK->Prop:=λvs H Q=>on1 vs λx=>aU x λp=>cN (H p) λkvs=>jN (intKeys kvs) λns=>ns.length < 64/\∀(l:Addr) (XJ:List Int),H l=none->XJ.Perm ns->XJ.Pairwise (·<=·)->Q (.ref l) (Xz H l 4e0)
theorem Ez(hc:X.calm=true):eI X (.builtin "sorted") Kk:=λXy s σ H xs us Q I r h=>by
 obtain⟨x,rfl,h1⟩:=fY h;obtain⟨p,rfl,h2⟩:=aN h1;obtain⟨kvs,e,h3⟩:=c8 h2;obtain⟨ns,ek,h64,q⟩:=dO h3;obtain⟨u,rfl,ru⟩:=vals1 r;cases ru;obtain⟨hl,hk⟩:=yH ek;obtain⟨z,hd,vs0,rel,dd⟩:=rX I.XF e;obtain⟨ep,dat⟩:=dd.dictAt;obtain⟨od,es,ho,_⟩:=id dat;obtain⟨m,hn,_⟩:=I.loc;have YA:p≠X.env.locals:=aD e I.free;have l0:=rel.length;refine PySem.W.kdu_sorted (PySem.W.kdl_dict (knd:=aR X.prog X.w) (kvs:=vs0) (ep:=ep) hd) (I.ok.hd hc) (Att.Lu hn) (Att.u7 YA ho) dat 1e0 λD h' tk vs F N lt hlen hP=>?_;have hI:IntsAre vs ns:=GQ 1e0 λj v ev=>by
  obtain⟨k,x,e1,e2⟩:=hP j v ev;have hj:j < kvs.length:=by
   have:=(Λ.mp e1).1;omega
  obtain⟨⟨k',x'⟩,ekv⟩:∃y,kvs[j]?=some y:=⟨_,Μ hj⟩;obtain⟨v',e3⟩:=KV.at rel ekv;rw[e1] at e3;cases e3;obtain⟨i,rfl,ei⟩:=hk j _ _ ekv;obtain⟨t,et⟩:=(show ∃t,v=Value.int i t from sL e2);exact⟨i,t,ei,et⟩
 have hD:h'.get? D=some 2e0:=(N _ 0e0).1;have old:∀b o,b≠X.env.locals->s.heap.get? b=some o->h'.get? b=some o/\b < D:=λb o nb eb=>by
  by_cases hb:b=p
  ·subst hb;rw[ho] at eb;cases eb;exact⟨(N _ (List.Mem.tail _ 0e0)).1,lt _ 0e0⟩
  ·have mem:=Att.qU (h:=s.heap) (L:=X.env.locals) (d:=p) |>.mpr ⟨nb,hb,eb⟩;exact⟨(N _ (List.Mem.tail _ 3e0)).1,lt _ 3e0⟩
 have g:MeetsIn X.prog X.w (Builtin.«list.sort» ⟨[.ref D],[]⟩) (λ_ R s=>s.heap.get? D=some 2e0/\∀(out:Array Value) (XJ:List Int),IntsAre out.toList XJ->XJ.Perm ns->XJ.Pairwise (·<=·)->R (.ok (.ret .none)) {s with heap:=sortedHeap s.heap D vs out}) :=
  λA R s ⟨g1,g2⟩=>list_sort_tree g1 hI 1e0 λout XJ a b c=>g2 out XJ a b c
 refine Ε9 PySem.F.slot_list_sort ⟨_,hD,rfl⟩ PySem.F.entry_list_sort (PySem.F.args_list_sort_1 _) g ⟨hD,λout XJ hI' hp hs=>?_⟩;have hDL:D≠X.env.locals:=(N _ 0e0).2.1;have ZX:H D=none:=by
  cases z:H D with
  | none=>rfl
  | some o =>
   obtain⟨ob,eb⟩:=(I.XF D o z).there;exact absurd (old D ob hDL eb).2 (Α2 _)
 have new:∀b o,b≠X.env.locals->s.heap.get? b=some o->(sortedHeap h' D vs out).get? b=some o:=λb o nb eb=>by
  obtain⟨h1,h2⟩:=old b o nb eb;rw[sortedHeap_old (Ρ h2) (Ο h1)];exact h1
 obtain⟨e',hD'⟩:=sortedHeap_at (out:=out) hD;have hns:∀m',s.heap.Ns X.env.locals m'->(sortedHeap h' D vs out).Ns X.env.locals m':=λm' hm=>by
  have em:m'=m:=by
   obtain⟨o1,XU,ep1,a1,b1,_,c1⟩:=hm;obtain⟨o2,es2,ep2,a2,b2,_,c2⟩:=hn;rw[a1] at a2;cases a2;rw[b1] at b2;cases b2;funext y;rw[<- c1,<- c2]
  subst em;obtain⟨o1,XU,ep1,a1,r1⟩:=F.ns;exact⟨o1,XU,ep1,by rw[sortedHeap_old hDL.symm (Ο a1)];exact a1,r1⟩
 have nn:∀{b:Addr} {o:HO},H b=some o->b≠D:=λh z=>by subst z;rw[ZX] at h;cases h
 have nl:∀{b:Addr} {o:HO},H b=some o->b≠X.env.locals:=λh=>aD h I.free;refine⟨.ref D,Xz H D 4e0,show XC X Xy σ _ {s with heap:=sortedHeap h' D vs out,gens:=s.gens,drawn:=s.drawn,toks:=tk} from I.step (g':=s.gens) (d':=s.drawn) (t':=tk) (ch:=[]) (λ_ z=>nomatch z) (λb o nb _ _ eb _=>new b o nb eb) (λb o nb _ _ eb _=>⟨o.slots,new b o nb eb⟩) (λb o _ eb hb=>?_) (λb o _ eb=>?_)
  (λb xs hb=>by rw[aC (nn hb)];exact hb) (λb o u hb=>by rw[aC (nn hb)];exact hb) (λb ps hb=>⟨#[],by rw[aC (nn hb),hb];simp⟩) hns (λb o hb=>?_) I.bare,rfl,q D XJ ZX hp hs⟩
 ·by_cases YZ:b=D
  ·subst YZ;by_cases hbL:b=X.env.locals
   ·exact absurd hbL hDL
   ·exact absurd (old b o hbL eb).2 (Α2 _)
  ·rw[aC YZ];exact hb
 ·by_cases hbL:b=X.env.locals
  ·subst hbL;obtain⟨o1,XU,ep1,a1,r1⟩:=hns m hn;exact⟨o1,a1⟩
  ·exact⟨o,new b o hbL eb⟩
 ·by_cases YZ:b=D
  ·subst YZ;rw[aA] at hb;cases hb;exact⟨by rw[Δ,hp.length_eq];omega,out.toList,e',pP hI',hD'⟩
  ·rw[aC YZ] at hb;refine(I.XF b o hb).uS (λc v hc ev=>?_) (λc hc=>by rw[aC (nn hc)];exact hc) λc xs hc=>by rw[aC (nn hc)];exact hc
   rcases hc with hc|hc
   ·subst hc;exact new c v (nl hb) ev
   ·exact new c v (nl hc) ev
end
section
variable{Q:VK}{p:Addr}
def OK:Kk [.ref p] H Q=cN (H p) λkvs=>jN (intKeys kvs) λns=>ns.length < 64/\∀(l:Addr) (XJ:List Int),H l=none->XJ.Perm ns->XJ.Pairwise (·<=·)->Q (.ref l) (Xz H l (.lst (XJ.map V.int))):=rfl
end
section
variable{h':Heap}
def XC.P2{t':Nat}{ch:List Addr}(I:XC X Xy σ H s)(hf:∀b∈ch,mB X Xy H b)(k:∀b o,b∉ch->s.heap.get? b=some o->h'.get? b=some o):XC X Xy σ H {s with heap:=h',toks:=t'}:=by
 have nch:∀b u,H b=some u->b∉ch:=λb u e z=>by rw[(hf b z).1] at e;cases e
 refine I.step (g':=s.gens) (d':=s.drawn) (ch:=ch) (λb hb=>?_) (λb o _ _ hc e _=>k b o hc e) (λb o _ _ hc e _=>⟨o.slots,k b o hc e⟩)
  (λb o _ e n=>n) (λb o hc e=>⟨o,k b o hc e⟩) (λ_ _ e=>e) (λ_ _ _ e=>e) (λb ps e=>⟨#[],by rw[e];simp⟩) (λm hm=>?_) (λb u e=>?_) I.bare
 ·obtain⟨_,f1,_,f3,f4,f5⟩:=hf b hb;exact⟨f3,f1,f4,f5⟩
 ·obtain⟨o,es,ep,ho,r⟩:=hm;exact⟨o,es,ep,k _ o (λz=>(hf _ z).2.1 rfl) ho,r⟩
 ·refine(I.XF b u e).uS (λc v hc q=>k c v ?_ q) (λ_ q=>q) λ_ _ q=>q;rcases hc with z|z
  ·rw[z];exact nch b u e
  ·exact nch c _ z
end
section
variable{prog:Program}
end
section
variable{prog:Program}
end
section
variable{t:Bool}
end
section
variable{elts:List Expr}{k:Nat}{tp:Pos}
end
section
variable{D:Ends}{g:TG}{tb:TS}{as:TA}
end
mutual
example:=[((relabel sc X.env).names.lookup y=some .cell\/(relabel sc X.env).names.lookup y=some .free)]
structure l9(X:Cx)(sc:Scope)(cl:List (Str×Addr))(x y0:Str)(fr:List Nat)(N:List Str):Prop where
 kind:sc.kind=.function
 uE:∀y∈sc.names,y.2≠.cell
 names:∀y∈sc.names,y.2=.local->sc.names.lookup y.1=some .local
 BQ:closureFor sc X.env=pure cl
 sub:∀y c,cl.lookup y=some c->X.env.cells.lookup y=some c
 has:∀y,0e0->∃c,cl.lookup y=some c
 Z6:sc.names.lookup x=some .local
 PY:sc.names.lookup y0=some .local
 nd:N.Nodup
 N0:N=x::y0::fr.map λj=>X.N.getD j x
 frc:∀j∈fr,∃y,X.N[j]?=some y/\X.env.kindOf y=some .cell/\0e0
end
section
mutual
example:=[some v,X.pn++Xy,some (none:Option V),S.sub y c e]
variable{C:Addr}{y0:Str}{N:List Str}
def Kr(I:XC X Xy σ H s)(S:l9 X sc cl x y0 fr N)(hf:∀b∈fp,mB X Xy H b)(Zj:∀b∈fp,b < s.heap.objs.size)(hC:s.heap.objs.size<=C) : (cQ X sc cl C N s H fp 1e0).Ok where
 mod:=I.ok.mod
 kind:=S.kind
 glob:=I.ok.glob
 blt:=I.ok.blt
 above:=hC
 inj:=λn z c h1 h2=>I.ok.inj n z c (S.sub n c h1) (S.sub z c h2)
 has:=S.has
 cab:=λ_ _ h=>by cases h
 hd:=I.ok.hd
 frames:=I.ok.frames
 stk:=.inl rfl
 exf:=λb hb=>⟨Ρ (ϐ (Zj b hb) hC),λn c e=>(hf b hb).2.2.2.2.1 n c (S.sub n c e)⟩
 bs:=I.bs
 bsz:=ϕ I.ok.bsz I.sz
 DB:=λb o e hb=>by
  rcases(hf b hb).2.2.2.1 with z|z
  ·exact I.ok.DB b o e z
  ·exact absurd (ϐ (Ο e) (ϕ I.ok.bsz z)) (Α2 _)
 IJ:=λb hb hm=>by
  rcases Ε.mp (I.uT b hm) with z|z
  ·exact(hf b hb).2.1 z
  ·exact(hf b hb).2.2.1 z
 sD:=I.stack
 frf:=I.CI
def Iu(I:XC X Xy σ H s)(S:l9 X sc cl x y0 fr N)(hf:∀b∈fp,mB X Xy H b)(Zj:∀b∈fp,b < s.heap.objs.size)(hC:s.heap.objs.size<=C){h1:Heap}{t1:Nat}{m0:q0C}(hn:h1.Ns C m0)(hk:∀b o,s.heap.get? b=some o->h1.get? b=some o):XC (cQ X sc cl C N s H fp 1e0) [] (none::none::aV fr σ) H {s with heap:=h1,toks:=t1}:=by
 refine⟨Kr I S hf Zj hC,rfl,I.bare,Un.kept hk,⟨m0,hn,λi y v e1 e2 e3=>?_⟩,λy c e=>?_,I.XF.fresh hC,λy c e=>I.lO y c 3e0,λp hp=>?_,I.XF.kept hk,?_⟩
 ·have Zt:N[i]?=some y:=e1;rw[S.N0] at Zt
  match i,Zt,e2 with
  | 0,_,e2=>exact absurd (show 2e0=some 0e0 from e2) (by simp)
  | 1,_,e2=>exact absurd (show 2e0=some 0e0 from e2) (by simp)
  | j+2,Zt,e2 =>
   have Ys:(fr.map λj=>X.N.getD j x)[j]?=some y:=Zt;have ZW:(aV fr σ)[j]?=some 0e0:=e2;unfold aV at ZW;rw[Ψ] at Ys ZW;cases q:fr[j]? with
   | none=>rw[q] at Ys;cases Ys
   | some k =>
    rw[q] at Ys ZW;have ey:X.N.getD k x=y:=Ϛ Ys;have ev:(σ[k]?).join=some v:=Ϛ ZW;obtain⟨y',hy,Yu,aaF⟩:=S.frc k (Φ q);have eyy:y=y':=by
     rw[<- ey,Δ0,hy];rfl
    subst eyy;have ev':σ[k]?=some 0e0:=by
     cases z:σ[k]? with
     | none=>rw[z] at ev;cases ev
     | some o =>
      rw[z] at ev;have ev2:o=some v:=ev;rw[ev2]
    obtain⟨m,_,hl⟩:=I.loc;obtain⟨u,r,l⟩:=hl k y v hy ev' (.inr (.inl Yu));refine⟨u,r,.inr ⟨aaF,?_⟩⟩;rcases l with⟨z,_⟩|⟨_,c,hc,o,ho,hd⟩
    ·rw[Yu] at z;cases z
    ·obtain⟨c',hc'⟩:=S.has y aaF;have z:=S.sub y c' hc';rw[hc] at z;cases z;exact⟨c,hc',o,hk c o ho,hd⟩
 ·obtain⟨v,o,ho,hd⟩:=I.cell y c 3e0;exact⟨v,o,hk c o ho,hd⟩
 ·have hp':p∈X.pn++Xy:=by
   have z:p∈1e0++[]:=hp;simpa using z
  obtain⟨e,n,ne,nf,d⟩:=I.pin p hp';exact⟨hk _ _ e,n,Ρ (ϐ (Ο e) hC),nostk I ne nf,d⟩
 ·show(none::none::aV fr σ).length=N.length;rw[S.N0];simp[aV]
end
end
@[irreducible] def CJ(K:q0B)(wi:TI)(fr:List Nat)(tc:TT)(te:TE):TE:=λσ H Q=>wi σ H λJ H1=>∃W:Nat->Nat->List V->Hp->Prop,(∃m,W 0 m [] H1)/\∀i m xs H,W i m xs H->xs.length<=1000000 /\
  ((J.stop i H/\∀p,H p=none->Q (.ref p) (Xz H p (.lst xs))) \/
   (J.go i H/\∀v H',J.yld i H v H'->∃p y y2,v=.ref p/\cJ K H' p [y,y2]/\tc (some y::some y2::aV fr σ) H' λb H2=>if b=true then te (some y::some y2::aV fr σ) H2 (λz H3=>∃m',m' < m/\W (i+1) m' (xs++[z]) H3) else ∃m',m' < m/\W (i+1) m' xs H2))
section
mutual
example:=[cQ X sc cl C N s H ex pn,model X.prog X.w,(.ListComp elt [⟨.Tuple [.Name x px,.Name y0 py] tk tp,iter,ifs,0⟩] sc pos),(.Tuple [.Name x px,.Name y0 py] tk tp),some y::some y2::aV fr σ]
variable{y0:Str}{N:List Str}{elt iter:Expr}{px py tp pos:Pos}{tk:Nat}{ifs:List Expr}{wi:TI}{tc:TT}{te:TE}
def C5(hc:X.calm=true)(hx:∀e s,¬ X.xe e s)(S:l9 X sc cl x y0 fr N)(hb:∀C s H ex pn,PTs 0e0 ifs tc/\PE 0e0 elt te){Q:VK}(I:XC X Xy σ H s)(T:Turn X.prog X.w X.K 3e0 J fp it tn)(st:tn 0 s.heap)(hf:∀b∈fp,mB X Xy H b)(w0:W 0 m0 [] H)(turn:∀i m xs H,W i m xs H->xs.length<=1000000 /\ ((J.stop i H/\∀p,H p=none->Q (.ref p) (Xz H p (.lst xs))) \/ (J.go i H/\∀v H',J.yld i H v H'->∃p y y2,v=.ref p/\cJ X.K H' p [y,y2]/\tc 4e0 H' λb H2=>if b=true then te 4e0 H2 (λz H3=>∃m',m' < m/\W (i+1) m' (xs++[z]) H3) else ∃m',m' < m/\W (i+1) m' xs H2)))(fin:∀(D C:Addr) (s':Shared) (m':q0C) (H':Hp),s'.heap.Ns C m'->mB X Xy H' C->(∀h',Heap.SameBut C s'.heap h'->XC X Xy σ H' {s' with heap:=h'})->Q (.ref D) H'->RR (.ref D) C (.ok .next) s') : wpAny 1e0 X.A (newList []) (λacc s₃=>wpAny 1e0 X.A (newFunctionEnv sc X.env.globals cl [] X.env.qual none .none (some X.env)) (λYV s₄ => codeAny 1e0 X.A (.compStart 2e0 0 (.ref it) acc {YV with scope:=relabel sc X.env}) (RR acc YV.locals) s₄) E s₃) E s :=
  uV (τ0:=none::none::aV fr σ) (O:=λσ1=>∃v0 v1,σ1=v0::v1::aV fr σ) (g:=OW X.K 2 (GJ (n9 0) (GJ (n9 1) OV))) hc S.uE S.kind S.sub (λe s' z=>(hx e s' z).elim)
    (Fh hc (j8 (jO (i:=0) S.nd (show N[0]?=some x by rw[S.N0];rfl) (.inl (Ι1 S.Z6)) (.inr (Ι1 S.Z6))) (j8 (jO (i:=1) S.nd (show N[1]?=some y0 by rw[S.N0];rfl) (.inl (Ι1 S.PY)) (.inr (Ι1 S.PY))) Cq))) (hb _ _ _ _ _) I T st hf
    (λC h1 t1 m0 Zj hC hn hk=>Iu I S hf Zj hC hn hk) ⟨_,_,rfl⟩ w0
    (λi m xs H w=>let ⟨l,z⟩:=turn i m xs H w;⟨l,z.imp id fun⟨g,h⟩=>⟨g,λv H' hy σ1 ⟨v0,v1,e⟩=>by
      subst e;obtain⟨pp,y,y2,rfl,hpp,hs⟩:=h v H' hy;exact⟨pp,[y,y2],rfl,hpp,rfl,_,_,rfl,_,_,rfl,rfl,⟨_,_,rfl⟩,hs⟩⟩⟩) fin
def Ms(hc:X.calm=true)(hx:∀e s,¬ X.xe e s)(S:l9 X sc cl x y0 fr N)(hi:PI X 3e0 iter wi)(hb:∀C s H ex pn,PTs 0e0 ifs tc/\PE 0e0 elt te)(hs:∀v,foldedSetIterable iter X.env v=pure v:=by intro _;rfl):PE X 2e0 (CJ X.K wi fr tc te):=by
 intro Xy s σ H Q I h;unfold CJ at h;rw[eval_ListComp];refine wpAny_comprehension_free (use:=none) rfl hs S.BQ S.kind S.names ?_;refine thn (hi Xy s σ H _ I h) λv s1 h1=>thn h1 λitv s2 h2=>?_;obtain⟨it,fp,tn,J,H2,e,I2,T,Yo,f2,W,⟨m0,w0⟩,turn⟩:=h2;subst e;refine C5 (RR:=λacc C=>compPost 1e0 X.A X.xe none (EP X Xy σ Q) acc C) hc hx S hb I2 T Yo f2 w0 turn ?_;intro D C s' m' H' hn _ aaC q;exact⟨m',hn,λh' Y9=>⟨.ref D,H',aaC h' Y9,rfl,q⟩⟩
end
end
def l9.of{y0:Str}{N M:List Str}(S:cS X sc cl x fr M)(PY:sc.names.lookup y0=some .local)(nd:N.Nodup)(N0:N=x::y0::fr.map λj=>X.N.getD j x):l9 X sc cl x y0 fr N :=
 ⟨S.kind,S.uE,S.names,S.BQ,S.sub,S.has,S.Z6,PY,nd,N0,S.frc⟩
noncomputable def lc2(K:q0B)(J:It)(fr:List Nat)(tc:TT)(te:TE)(σ:St)(H:Hp)(Q:VK):Prop:=∃W:Nat->Nat->List V->Hp->Prop,(∃m,W 0 m [] H)/\∀i m xs H,W i m xs H->xs.length<=1000000 /\
  ((J.stop i H/\∀p,H p=none->Q (.ref p) (Xz H p (.lst xs))) \/
   (J.go i H/\∀v H',J.yld i H v H'->∃p y y2,v=.ref p/\cJ K H' p [y,y2]/\tc (some y::some y2::aV fr σ) H' λb H2=>if b=true then te (some y::some y2::aV fr σ) H2 (λz H3=>∃m',m' < m/\W (i+1) m' (xs++[z]) H3) else ∃m',m' < m/\W (i+1) m' xs H2))
section
variable{tc:TT}{te:TE}{Q:VK}{as:TA}
end
section
def Qn(K:q0B):List V->Hp->VK->Prop:=λvs H Q=>on1 vs λx=>aU x λp=>∃xs,cJ K H p xs/\Q (.int xs.length) H
def Im:eI X (.builtin "len") (Qn X.K):=λXy s σ H xs us Q I r h=>by
 obtain⟨x,rfl,h1⟩:=fY h;obtain⟨p,rfl,ys,e,q⟩:=aN h1;exact rS Xy s σ H _ us Q I r ⟨p,ys,rfl,.inr e,q⟩
variable{o:Expr}{to:TE}{apos XG:Pos}
end
section
variable{Q:VK}{p:Addr}{to:TE}
def Sl:Qn K [.ref p] H Q = ∃xs,cJ K H p xs/\Q (.int xs.length) H:=rfl
theorem U4{a b:Bool}:VH (.bl a) (.bl b) H Q=Q (.bl (!decide (a=b))) H:=by simp only[VH,show YI (.bl a) (.bl b)=true from rfl,V.bl.injEq,true_and]
end
section
variable{Q:VK}{p b:Addr}
end
section
variable{y0:Str}{N:List Str}{elt iter:Expr}{px px0 tp pos:Pos}{tk:Nat}{ifs:List Expr}{wi:TI}{tc:TT}{te:TE}
end
section
variable{a b:TS}{D:Ends}
def aQ(h:∀R:St->Hp->Prop,(∀σ' H',b D σ' H'->R σ' H')->a {D with nx:=R} σ H):FA a b D σ H:=h (b D) λ_ _ x=>x
end
section
variable{td ty tv:TE}{trs:List (TE×TE)}{tk:TE}{Q:VK}{D:Ends}
end
section
mutual
example:=[dd==sysModules]
variable{W:World}{dd:Addr}{es:Array DictEntry}{ep:Nat}
def FT(h:Heap)(dd:Addr)(es:Array DictEntry)(ep:Nat):Prop:=∃o,h.get? dd=some o/\o.ExactDict/\o.data=.dict es ep
def FT.ty(x:FT s.heap dd es ep):s.TypeIs (.ref dd) "dict":=let ⟨o,e,c,_⟩:=x;⟨o,e,c.1⟩
def Ln(hm:0e0=false):MeetsIn P W (Builtin.«dict.__len__» ⟨[.ref dd],[]⟩) (λ_ R s=>∃es ep,FT s.heap dd es ep/\R (.ok (.ret (.int es.size s.toks))) {s with toks:=s.toks+1}) :=
 .of_wp λA R s ⟨es,ep,x,h⟩=>by
  obtain⟨o,e1,e2,e3⟩:=id x;show wpAny _ _ (dictSize dd >>= λ_=>_) _ _ s;unfold dictSize;refine Α (Α (wpAny_dictEntries e1 e3 (Β ?_)));show wpAny _ _ (Builtin.Dict.pendingCount dd >>= λ_=>_) _ _ s;refine Α (wpAny_pendingCount_other hm (wpAny_ret_mkInt ?_));rw[Nat.add_zero];exact h
theorem OP{Q:q0A}(hm:0e0=false)(x:FT s.heap dd es ep)(fit:(es.size:Int) < 2 ^ 63)(q:Q (.int es.size (s.toks+1)) {s with toks:=s.toks+1+1}) : wpAny (model P W) A (call (.builtin "len") [.ref dd]) Q E s:=by
 refine Calls.call_function_entry kind_len plain_len entry_len (args_len1 _) ?_;unfold Builtin.«len»;refine Α (m:=oneArg "len" _) (Β (Α (m:=callSpecial? (.ref dd) (Str.ofString "__len__")) (Β2 (name:=Str.ofString "__len__") x.ty F.slot_dict_len
  (Ε9 F.slot_dict_len x.ty F.entry_dict_len (F.args_dict_len_1 _) (Ln hm) ⟨es,ep,x,?_⟩))))
 show wpAny _ _ _ _ _ {s with toks:=s.toks+1};refine Α (Β8 (Β (Α (wpAny_letGo ?_))));show wpAny _ _ (if ((es.size:Nat):Int) < 0 then _ else _) _ _ _;rw[if_neg (by omega)];show wpAny _ _ (if ((es.size:Nat):Int) >= 2 ^ 63 then _ else _) _ _ _;rw[if_neg (by omega)];exact Α (wpAny_mkInt (Β ⟨_,rfl,q⟩))
end
end
section
open PySem.W
def Pm(n:Nat)(p:Array Nat):Prop:=p.Perm (List.toArray (List.range n))
variable{p:Array Nat}
end
section
open PySem.W
variable{W:World}
end
section
variable{W:World}{b:Addr}{es fs:Array DictEntry}{ep fp:Nat}
end
section
variable{D:Ends}{g:TG}{tb:TS}{as:TA}{Q:VK}{b:Addr}{p:Addr}
end
section
variable{Q:VK}{x:V}{p:Addr}{i:Int}{z:Str}
end
section
variable{a b:Expr}{rest:List Expr}{pos:Pos}{ta tb:TE}
end
noncomputable def W6(x:V)(k:Int->Prop)(_u:Tg k:=()):Prop:=match x with
 | .XB=>k 0
 | .int i=>k i
 | _=>False
section
variable{Q:VK}{ta tb:TE}{l:Addr}{i:Int}
end
mutual
example:=[(by omega),lo+hi,(by simpa using hi')]
def Rising(l:List Nat):Prop:=l.Pairwise (· < ·)
theorem xA(xs:Array Nat)(j:Nat)(hr:Rising xs.toList):∀(fuel lo hi:Nat),hi - lo<=fuel->lo<=hi->hi<=xs.size -> (∀i (h:i < xs.size),i < lo->xs[i] < j)->(∀i (h:i < xs.size),hi<=i->j<=xs[i]) -> (∀i (h:i < xs.size),i < SetTable.below.go xs j fuel lo hi->xs[i] < j)/\(∀i (h:i < xs.size),SetTable.below.go xs j fuel lo hi<=i->j<=xs[i])/\SetTable.below.go xs j fuel lo hi<=xs.size
 | 0,lo,hi,hf,hl,hh,h1,h2=>by
  have:lo=hi:=by omega
  subst this;exact⟨h1,h2,hh⟩
 | fuel+1,lo,hi,hf,hl,hh,h1,h2=>by
  have mono:∀i k (hi:i < xs.size) (hk:k < xs.size),i < k->xs[i] < xs[k]:=λi k hi hk hik=>by
   have:=List.pairwise_iff_getElem.mp hr i k (by simpa using hi) (by simpa using hk) hik;simpa using this
  unfold SetTable.below.go;by_cases c:lo < hi
  ·rw[if_pos c];have hm:1e0 / 2 < xs.size:=by omega
   have em:xs.getD (1e0 / 2) j=xs[1e0 / 2]:=by simp[Array.getD,hm]
   simp only[em];by_cases d:xs[1e0 / 2] < j
   ·rw[if_pos d];refine xA xs j hr fuel _ hi 0e0 0e0 hh (λi h XW=>?_) h2;by_cases e:i=1e0 / 2
    ·subst e;exact d
    ·exact Ι4 (mono i _ h hm 0e0) d
   ·rw[if_neg d];refine xA xs j hr fuel lo _ 0e0 0e0 0e0 h1 (λi h hle=>?_);by_cases e:i=1e0 / 2
    ·subst e;omega
    ·have:=mono _ i hm h 0e0;omega
  ·rw[if_neg c];have:lo=hi:=by omega
   subst this;exact⟨h1,h2,hh⟩
theorem qL(xs:Array Nat)(j:Nat)(hr:Rising xs.toList):(∀i (h:i < xs.size),i < SetTable.below xs j->xs[i] < j)/\(∀i (h:i < xs.size),SetTable.below xs j<=i->j<=xs[i])/\SetTable.below xs j<=xs.size :=
 xA xs j hr xs.size 0 xs.size 0e0 0e0 (Ζ _) (λi h XW=>absurd XW 0e0) (λi h hle=>absurd h 0e0)
theorem Ar{xs:Array Nat}(hr:Rising xs.toList)(hn:¬ xs[SetTable.below xs j]?=some j):Rising (SetTable.insertAt xs (SetTable.below xs j) j).toList:=by
 obtain⟨h1,h2,h3⟩:=qL xs j hr;rw[SetTable.toList_insertAt];generalize hb:SetTable.below xs j=b at *;unfold Rising at *;have split:=List.pairwise_append.mp (show(xs.toList.take b++xs.toList.drop b).Pairwise (· < ·) by rw[List.take_append_drop];exact hr);have lt:∀x∈xs.toList.take b,x < j:=λx hx=>by
  obtain⟨i,hi,rfl⟩:=List.mem_iff_getElem.mp hx;have hi':i < b/\i < xs.size:=by simpa[Nat.lt_min] using hi
  have:=h1 i hi'.2 hi'.1;simpa using this
 have gt:∀x∈xs.toList.drop b,j < x:=λx hx=>by
  obtain⟨i,hi,rfl⟩:=List.mem_iff_getElem.mp hx;have hi':b+i < xs.size:=by simp at hi;omega
  have hle:=h2 (b+i) hi' 0e0;have YA:xs[b+i]≠j:=λe=>by
   by_cases hz:i=0
   ·subst hz;exact hn (by rw[Γ1 2e0];simpa using e)
   ·have hb':b < xs.size:=by omega
    have h0:=h2 b hb' (Ζ _);have:=List.pairwise_iff_getElem.mp hr b (b+i) (by simpa using hb') 2e0 0e0;simp at this;omega
  have:xs.toList.drop b=xs.toList.drop b:=rfl;simp only[List.getElem_drop,Array.getElem_toList];omega
 refine List.pairwise_append.mpr ⟨split.1,Ε2.mpr ⟨gt,split.2.1⟩,λx hx y hy=>?_⟩;rcases Ε.mp hy with rfl|hy
 ·exact lt x hx
 ·exact split.2.2 x hx y hy
theorem qO{α:Type}:∀{l:List α} {i:Nat} (h:i < l.length),(l[i]::l.eraseIdx i).Perm l
 | a::l,0,_=>by simp
 | a::l,i+1,h=>by
  have:=qO (l:=l) (i:=i) (by simpa using h);simp only[List.getElem_cons_succ,List.eraseIdx_cons_succ];exact(List.Perm.swap _ _ _).trans (this.cons a)
theorem Hk{α:Type}(next:Nat->Nat):∀(fuel k:Nat) (left:List α) (out:Array α),fuel=left.length->∃ab7:Array α,pickOrder.go next fuel k left out=ab7/\ab7.toList.Perm (out.toList++left)
 | 0,k,left,out,h=>by
  have:left=[]:=Ζ7.mp h.symm;subst this;exact⟨out,by simp[pickOrder.go],by simp⟩
 | fuel+1,k,left,out,h=>by
  have hp:0 < left.length:=by omega
  have hi:next k % left.length < left.length:=Nat.mod_lt _ hp
  obtain⟨o,e,p⟩:=Hk next fuel (k+1) (left.eraseIdx (next k % left.length)) (out.push left[next k % left.length]) (by rw[List.length_eraseIdx_of_lt hi];omega)
  refine⟨o,?_,p.trans ?_⟩
  ·rw[pickOrder.go,Μ hi];exact e
  ·rw[Array.toList_push,List.append_assoc];refine List.Perm.append_left _ ?_;exact qO hi
def Jw{α:Type}(next:Nat->Nat)(xs:Array α):(pickOrder next xs).toList.Perm xs.toList:=by
 obtain⟨o,e,p⟩:=Hk next xs.size 0 xs.toList #[] (by simp)
 unfold pickOrder;rw[e];simpa using p
structure Qc(w:World)(t:SetTable):Prop where
 rise:Rising t.place.toList
 led:w.params.followText "set-order"=true\/t.led=true
 dum:t.dummies = #[]
 msk:t.mask=7
 pln:t.plain=true
def Dj(j:Nat):SetTable.has #[] j=false:=by simp[SetTable.has]
def Fp(h:t.slot j=.empty):¬ t.place[SetTable.below t.place j]?=some j:=λe=>by
 unfold SetTable.slot at h;simp only[e,beq_self_eq_true,if_true] at h;cases h
def CC(hd:t.dummies = #[])(j:Nat):t.slot j≠.dummy:=λh=>by
 unfold SetTable.slot at h;rw[hd,Dj] at h;simp only[Δ2,Η8] at h;split at h<;>cases h
theorem vC{t:SetTable}(hd:t.dummies = #[]){f:Nat->Int}{hh:Int}{j:Nat}{d:Option Nat}:∀(fuel:Nat) (p:SetTable.Probe),p.dummy=none->SetTable.probe.go t f hh fuel p=some (.empty j d)->t.slot j=.empty/\d=none
 | 0,p,_,h=>by cases h
 | fuel+1,p,hp,h=>by
  unfold SetTable.probe.go at h;have adv:(t.advance p).dummy=none:=by unfold SetTable.advance;split<;>exact hp
  cases hs:t.slot p.j with
  | empty =>
   rw[hs] at h;simp only[ϒ,SetTable.Met.empty.injEq] at h;obtain⟨rfl,rfl⟩:=h;exact⟨hs,hp⟩
  | dummy=>exact absurd hs (CC hd _)
  | live i =>
   rw[hs] at h;simp only at h;split at h
   ·cases h
   ·exact vC hd fuel _ adv h
end
section
variable(hd:t.dummies = #[])(hm:t.mask=7){h:Int}
abbrev prb(i pt:Nat):SetTable.Probe:=⟨i,0,i,pt,none⟩
include hd hm
theorem adv(i pt:Nat):t.advance (prb i pt)=prb ((i * 5+1+pt / 32) % 8) (pt / 32):=by
 have:(i * 5+1+pt / 32) % 8 < 8:=Nat.mod_lt _ (by decide);simp only[SetTable.advance,SetTable.leap,hm,SetTable.runEnd];simp
 try omega
end
mutual
example:=[]
def LK:Value->Int
 | .int i _=>i
 | _=>0
def ND(P:Program)(w:World)(a:Addr)(ns:List Int)(h:Heap):Prop:=∃(o:Obj) (es:Array (Int×Value)) (ep:Nat) (t:SetTable),h.get? a=some o/\o.ExactSet/\o.data=.set es ep t/\ElemsOf (intKind P w) es.toList/\es.size < scanBound/\t.fits es.size=true/\Qc w t/\(∀e∈es.toList,∃i tk,e.2=Value.int i tk)/\(es.toList.map λe=>LK e.2).Perm ns
def ND.keep{h':Heap}(x:ND P w a ns h)(k:∀o,h.get? a=some o->h'.get? a=some o):ND P w a ns h':=by
 obtain⟨o,es,ep,t,e,r⟩:=x;exact⟨o,es,ep,t,k o e,r⟩
def once(val:Nat->Int):Nat->List Int
 | 0=>[]
 | i+1=>if val i∈once val i then once val i else once val i++[val i]
end
section
variable{R:Result->Shared->Prop}{wr:List Addr}{Gs:Array GenState->Array GenState->Prop}{Pi:Nat->Value->Prop}{St:Nat->Shared->Prop}
end
section
abbrev mU(led:Bool):Obj:={cls:=.type "set",dict:=none,data:=.set #[] 0 (.fresh 0 0 led)}
def E6(a:Value){Q₁:q0A}(h:∀led:Bool,(w.params.followText "set-order"=true\/led=true)->Q₁ (.ref s.heap.objs.size) {s with heap:=s.heap.push (mU led)}) : codeAny (model P w) A (.call (.builtin "set.__new__") ⟨[.type "set",a],[]⟩) (wants Q₁ E) s:=by
 refine codeAny_of_tree ?_;show wpAny _ A.in1 (do checkBuiltinCall "set.__new__" ⟨[.type "set",a],[]⟩;again (.builtin "set.__new__" ⟨[.type "set",a],[]⟩)) _ _ s;refine Α (Ζ2 (PySem.F.newCall_set_1 a) (Β ⟨Δ7 PySem.F.plain_set_new _,Β5 PySem.F.entry_set_new ?_⟩));rw[Α4 PySem.F.plain_set_new _];unfold Builtin.«set.__new__» Builtin.Frozenset.newClass;have aaE:=sub_set_self;obtain⟨hp,g,d,tk,os⟩:=s;dsimp only;wp_walk;refine Λ0 (Β ?_);dsimp only;simp only[newObj];refine Α (wpAny_alloc (Β ?_));refine Β (h _ ?_);cases e:w.params.followText "set-order" with
 | true=>exact .inl rfl
 | false =>
  refine .inr ?_;show(!w.params.followText "set-order")=true;rw[e];rfl
end
mutual
example:=[(by decide +kernel),(by kernel_rfl),(by rw[Δ6,Α7];kernel_rfl),(by rw[Η3];kernel_rfl),(by first|exact .inl 0e0|exact .inr 0e0)]
def DL:Manifest.owners.lookup (String.ofList ['r','o','t','a','r','e','t','i','_','t','e','s'].reverse)=some Manifest.sig_set_iterator:=by kernel_rfl
theorem b9:Slot "set_iterator" "__next__" "set_iterator.__next__" :=
 .of (owner:="set_iterator") (n:="__next__") 2e0 0e0 0e0 0e0
  4e0 3e0
def iK:entryFor table "set_iterator.__next__"=some Builtin.«set_iterator.__next__»:=entryFor_of_tree 1e0
def jC(a:Value):argsOk "set_iterator.__next__" ⟨[a],[]⟩:=by
 unfold argsOk;rw[signature?_of (id:="set_iterator.__next__") (n:=['_','_','t','x','e','n','_','_']) (o:=['r','o','t','a','r','e','t','i','_','t','e','s']) 1e0 DL];kernel_rfl
theorem jR:Slot "set_iterator" "__iter__" "set_iterator.__iter__" :=
 .of (owner:="set_iterator") (n:="__iter__") 2e0 0e0 0e0 0e0
  4e0 3e0
theorem qA:entryFor table "set_iterator.__iter__"=some Builtin.«dict_keyiterator.__iter__» :=
 entryFor_alias (id':="dict_keyiterator.__iter__") 1e0 rfl 0e0 1e0
def rP(a:Value):argsOk "set_iterator.__iter__" ⟨[a],[]⟩:=by
 unfold argsOk;rw[signature?_of (id:="set_iterator.__iter__") (n:=['_','_','r','e','t','i','_','_']) (o:=['r','o','t','a','r','e','t','i','_','t','e','s']) 1e0 DL];kernel_rfl
theorem nU:entryFor table "set.__iter__"=some Builtin.«frozenset.__iter__» :=
 entryFor_alias (id':="frozenset.__iter__") 1e0 rfl 0e0 1e0
end
section
mutual
example:=[Int×Value,.ref it]
variable{es:Array 0e0}{ep:Nat}
def wQ(w:World)(h:Heap)(a:Addr)(es:Array 0e0)(ep:Nat)(t:SetTable):Prop:=∃o,h.get? a=some o/\o.ExactSet/\o.data=.set es ep t/\t.fits es.size=true/\Qc w t
def wQ.to{h':Heap}(x:wQ w h a es ep t)(k:∀o,h.get? a=some o->h'.get? a=some o):wQ w h' a es ep t:=let ⟨o,e,r⟩:=x;⟨o,k _ e,r⟩
def wQ.lt(x:wQ w h a es ep t):a < h.objs.size:=let ⟨_,e,_⟩:=x;Ο e
def wQ.ty(x:wQ w s.heap a es ep t):s.TypeIs (.ref a) "set":=let ⟨o,e,c,_⟩:=x;⟨o,e,c.1⟩
def oN(w:World)(a:Addr)(es:Array 0e0)(ep:Nat):Array 0e0:=if w.params.followText "set-order"=true then pickOrder (w.params.setOrder a ep) es else es
def DK:(oN w a es ep).toList.Perm es.toList:=by
 unfold oN;split
 ·exact Jw _ _
 ·exact .refl _
def oO:(oN w a es ep).size=es.size:=by have:=(DK (w:=w) (a:=a) (es:=es) (ep:=ep)).length_eq;simpa using this
def Em(w:World)(t:SetTable)(i sl:Nat):Prop:=w.params.followText "set-order"=true\/SetTable.below t.place sl=i
def Ah(w:World)(h:Heap)(it a:Addr)(i n ep:Nat)(t:SetTable):Prop:=∃o sl,h.get? it=some o/\o.cls=.type "set_iterator"/\o.data=.fields #[.int (sl:Nat) 0,.int (i:Nat) 0,.ref a,.int (n:Nat) 0,.int (ep:Nat) 0]/\Em w t i sl
def Ah.to{h':Heap}(x:Ah w h it a i n ep t)(k:∀o,h.get? it=some o->h'.get? it=some o):Ah w h' it a i n ep t:=let ⟨o,sl,e,r⟩:=x;⟨o,sl,k _ e,r⟩
def Ah.ty(x:Ah w s.heap it a i n ep t):s.TypeIs 1e0 "set_iterator":=let ⟨o,_,e,c,_⟩:=x;⟨o,e,c⟩
def ML{Q:q0A}(ki:Ah w s.heap it a i n ep t)(h:Q 1e0 s):wpAny (model P w) A (pyIter 1e0) Q E s:=by
 refine wpAny_pyIter_slot ki.ty jR (Α9 jR ki.ty qA ?_ (rP _));show wpAny _ _ (ret 1e0) _ _ s;exact Β ⟨_,rfl,"set_iterator",_,ki.ty,b9.lookup,h⟩
end
end
section
variable{prog:Program}{r:Addr}{es:Array (Int×Value)}{ep:Nat}
theorem LD{Q:Bool->Shared->Prop}(hT:s.TypeIs (.ref r) "set")(h:Q false s):wpAny (model prog w) A (Builtin.List.listLengthHint (.ref r)) Q E s:=by
 unfold Builtin.List.listLengthHint;refine Α (Ι0 hT PySem.F.slot_set_len.lookup ?_);generalize hid:("set.__len__":String)=id0
 wp_delta
 rw[show splitId id0=some ("set","__len__") from by subst hid;decide +kernel];subst hid;refine Α (Ι5 (T:="set") (b:=true) hT (by rw[Η3];kernel_rfl) ?_);refine wpAny_ite_split (λZY=>absurd ZY (by decide)) (λ_=>?_);refine wpAny_ite_split (λ_=>?_) (λZY=>absurd (by decide +kernel) ZY);refine Α (Ε8 hT ?_);exact Β h
end
mutual
example:=[H8 P w p ns]
theorem xB:bootBuiltins "set"=some (.type "set"):=by decide +kernel
def look1{k z:Str}{c:Addr}{r:List (Str×Addr)}(e:List.lookup k r=some a)(h:List.lookup z [(k,a)]=some c):List.lookup z r=some c:=by
 simp only[List.lookup] at h;split at h
 ·next y=>cases h;rw[eq_of_beq y];exact e
 ·cases h
def H8(P:Program)(w:World)(a:Addr)(ns:List Int):HO:=.ext (ND P w a ns)
def Qz(ns:List Int):List Int:=once (λi=>ns.getD i 0) ns.length
def Rm(P:Program)(w:World):List V->Hp->VK->Prop:=λvs H Q=>on1 vs λx=>aU x λp=>∃ns:List Int,H p=some (.lst (ns.map V.int))/\ns.length<=4/\∀l,H l=none->Q (.ref l) (Xz H l (H8 P w l (Qz ns)))
def Rh(P:Program)(w:World):List V->Hp->VK->Prop:=λvs H Q=>on1 vs λx=>aU x λp=>∃ns:List Int,H p=some 0e0/\Q (.int ns.length) H
def Ro(P:Program)(w:World):List V->Hp->VK->Prop:=λvs H Q=>on1 vs λx=>aU x λp=>∃ns:List Int,H p=some 0e0/\ns.length < 64/\∀(l:Addr) (XJ:List Int),H l=none->XJ.Perm ns->XJ.Pairwise (·<=·)->Q (.ref l) (Xz H l (.lst (XJ.map V.int)))
end
section
variable{Q:VK}{p:Addr}
def OI:Rm P w [.ref p] H Q = ∃ns:List Int,H p=some (.lst (ns.map V.int))/\ns.length<=4/\∀l,H l=none->Q (.ref l) (Xz H l (H8 P w l (Qz ns))):=rfl
def Oz:Rh P w [.ref p] H Q = ∃ns:List Int,H p=some (H8 P w p ns)/\Q (.int ns.length) H:=rfl
def Lh:Ro P w [.ref p] H Q = ∃ns:List Int,H p=some (H8 P w p ns)/\ns.length < 64/\∀(l:Addr) (XJ:List Int),H l=none->XJ.Perm ns->XJ.Pairwise (·<=·)->Q (.ref l) (Xz H l (.lst (XJ.map V.int))):=rfl
end
mutual
example:=[((List.range (min (2:Nat) 2)).all (λj=>if j=0 then (z==z') else false)&&((2:Nat)==2))]
def Uh(K:q0B)(n:Nat):R2:=λx y H Q=>aU x λa=>aU y λb=>(∃r,pX K H n a b r/\Q (.bl r) H) \/
 ∃(z z' u:Str) (p:Addr) (ts:List V),H a=some (.tup [.str z,.ref p])/\H p=some (.tup ts)/\H b=some (.tup [.str z',.str u])/\z≠z'/\Q (.bl false) H
theorem Te(n:Nat)(hn:2<=n)(hu:X.A.units+n < cLine):i9 X (compareOp .Eq) (Uh X.K n):=λXy s σ H x y v u Q I rx ry h=>by
 obtain⟨a,rfl,h1⟩:=aN h;obtain⟨b,rfl,h2⟩:=aN h1;cases rx;cases ry;rcases h2 with⟨r,e,q⟩|⟨z,z',k,p,ts,ea,ep,eb,ne,q⟩
 ·exact MC e I hu X.prog X.w X.xe _ (bI I q rfl)
 ·obtain⟨XA,r1,p1,_⟩:=I.tuple (cJ.of ea);obtain⟨YT,r2,p2,_⟩:=I.tuple (cJ.of eb);obtain⟨kts,r3,p3,_⟩:=I.tuple (cJ.of ep);cases r1 with
  | cons a1 r1 =>
  cases r1 with
  | cons a2 r1 =>
  cases r1;cases r2 with
  | cons b1 r2 =>
  cases r2 with
  | cons b2 r2 =>
  cases r2;obtain⟨t1,rfl⟩:=a1;cases a2;obtain⟨t2,rfl⟩:=b1;obtain⟨t3,rfl⟩:=b2;have:=SeqAt.RcAt.tuples (A:=X.A) (e:=λj=>if j=0 then (z==z') else false) (show s.heap.IsTuple a #[_,_] from p1) (show s.heap.IsTuple b #[_,_] from p2) (by omega) (λj h1 h2=>by
   match j,h1 with
   | 0,_=>exact SeqAt.EqAt.str_str z t1 z' t2
   | 1,_=>exact SeqAt.EqAt.tuple_str k t3 (show s.heap.IsTuple p kts.toArray from p3) (by show X.A.units+1 < _;omega))
  have nz:(z==z')=false:=Β6.mpr ne;have ef:0e0=false:=by rw[nz];rfl
  have:=this X.prog X.w X.xe (EP X Xy σ Q) (by
   show EP X Xy σ Q (.bool 0e0) s;rw[ef];exact bI I q rfl)
  exact this
end
section
variable{Q:VK}{b:Addr}
def UQ:Uh K n (.ref a) (.ref b) H Q=((∃r,pX K H n a b r/\Q (.bl r) H)\/∃(z z' u:Str) (p:Addr) (ts:List V),H a=some (.tup [.str z,.ref p])/\H p=some (.tup ts)/\H b=some (.tup [.str z',.str u])/\z≠z'/\Q (.bl false) H):=rfl
end
mutual
example:=[List.Mem.head _,(by omega),seqObj "list" vs.toArray 0,List.Mem.tail _ mem,.lst (XJ.map V.str)]
def jS:List (Key×V)->Option (List Str)
 | []=>some []
 | (.inr i,_)::r=>(jS r).map (i::·)
 | _=>none
theorem zZ:∀{kvs:List (Key×V)} {ns:List Str},jS kvs=some ns->kvs.length=ns.length/\∀(j:Nat) (k:Key) (x:V),kvs[j]?=some (k,x)->∃i:Str,k=.inr i/\ns[j]?=some i
 | [],ns,h=>by cases h;exact⟨rfl,λj k x e=>by simp at e⟩
 | (k,v)::kvs,ns,h=>by
  cases k with
  | inr i =>
   simp only[jS,ϑ] at h;obtain⟨ms,e,rfl⟩:=h;obtain⟨l,f⟩:=zZ e;refine⟨by simp[l],λj k x ej=>?_⟩;cases j with
   | zero=>simp only[Ω,ϒ,Prod.mk.injEq] at ej;exact⟨i,ej.1.symm,rfl⟩
   | succ j=>exact f j k x (by simpa using ej)
  | _=>cases h
def HN{ns:List Str}:∀{vs:List Value},vs.length=ns.length->(∀(j:Nat) (v:Value),vs[j]?=some v->∃i t,ns[j]?=some i/\v=Value.str i t)->StrsAre vs ns:=by
 induction ns with
 | nil =>
  intro vs hl _;cases vs with
  | nil=>exact .nil
  | cons _ _=>simp at hl
 | cons n ns ih =>
  intro vs hl h;cases vs with
  | nil=>simp at hl
  | cons v vs =>
   obtain⟨i,t,e,rfl⟩:=h 0 v rfl;cases e;exact .cons _ _ (ih (by simpa using hl) λj v e=>h (j+1) v (by simpa using e))
def Ac{vs:List Value}{ss:List Str}(h:StrsAre vs ss):XD (ss.map V.str) vs:=by
 induction h with
 | nil=>exact .nil
 | cons y t _ ih=>exact .cons ⟨t,rfl⟩ ih
def Kl:List V->Hp->VK->Prop:=λvs H Q=>on1 vs λx=>aU x λp=>cN (H p) λkvs=>jN (jS kvs) λns=>ns.length < 64/\∀(l:Addr) (XJ:List Str),H l=none->XJ.Perm ns->sortedS XJ=true->Q (.ref l) (Xz H l 4e0)
theorem xF(hc:X.calm=true):eI X (.builtin "sorted") Kl:=λXy s σ H xs us Q I r h=>by
 obtain⟨x,rfl,h1⟩:=fY h;obtain⟨p,rfl,h2⟩:=aN h1;obtain⟨kvs,e,h3⟩:=c8 h2;obtain⟨ns,ek,h64,q⟩:=dO h3;obtain⟨u,rfl,ru⟩:=vals1 r;cases ru;obtain⟨hl,hk⟩:=zZ ek;obtain⟨z,hd,vs0,rel,dd⟩:=rX I.XF e;obtain⟨ep,dat⟩:=dd.dictAt;obtain⟨od,es,ho,_⟩:=id dat;obtain⟨m,hn,_⟩:=I.loc;have YA:p≠X.env.locals:=aD e I.free;have l0:=rel.length;refine PySem.W.kdu_sorted (PySem.W.kdl_dict (knd:=aR X.prog X.w) (kvs:=vs0) (ep:=ep) hd) (I.ok.hd hc) (Att.Lu hn) (Att.u7 YA ho) dat 1e0 λD h' tk vs F N lt hlen hP=>?_;have hI:StrsAre vs ns:=HN 1e0 λj v ev=>by
  obtain⟨k,x,e1,e2⟩:=hP j v ev;have hj:j < kvs.length:=by
   have:=(Λ.mp e1).1;omega
  obtain⟨⟨k',x'⟩,ekv⟩:∃y,kvs[j]?=some y:=⟨_,Μ hj⟩;obtain⟨v',e3⟩:=KV.at rel ekv;rw[e1] at e3;cases e3;obtain⟨i,rfl,ei⟩:=hk j _ _ ekv;obtain⟨t,et⟩:=(show ∃t,v=Value.str i t from sL e2);exact⟨i,t,ei,et⟩
 have hD:h'.get? D=some 2e0:=(N _ 0e0).1;have old:∀b o,b≠X.env.locals->s.heap.get? b=some o->h'.get? b=some o/\b < D:=λb o nb eb=>by
  by_cases hb:b=p
  ·subst hb;rw[ho] at eb;cases eb;exact⟨(N _ (List.Mem.tail _ 0e0)).1,lt _ 0e0⟩
  ·have mem:=Att.qU (h:=s.heap) (L:=X.env.locals) (d:=p) |>.mpr ⟨nb,hb,eb⟩;exact⟨(N _ (List.Mem.tail _ 3e0)).1,lt _ 3e0⟩
 have g:MeetsIn X.prog X.w (Builtin.«list.sort» ⟨[.ref D],[]⟩) (λ_ R s=>s.heap.get? D=some 2e0/\∀(out:Array Value) (XJ:List Str),StrsAre out.toList XJ->XJ.Perm ns->sortedS XJ=true->R (.ok (.ret .none)) {s with heap:=sortedHeap s.heap D vs out}) :=
  λA R s ⟨g1,g2⟩=>list_sort_treeK strKind_oneLt g1 hI.keysOf (λv₁ v₂ rest e=>keyKind_strs (by rw[<- e];exact hI)) 1e0 λYm hp hs=>by
   obtain⟨ss',h1,h2,h3⟩:=sorted_out_str hI hp hs;exact g2 _ ss' h1 h2 h3
 refine Ε9 PySem.F.slot_list_sort ⟨_,hD,rfl⟩ PySem.F.entry_list_sort (PySem.F.args_list_sort_1 _) g ⟨hD,λout XJ hI' hp hs=>?_⟩;have hDL:D≠X.env.locals:=(N _ 0e0).2.1;have ZX:H D=none:=by
  cases z:H D with
  | none=>rfl
  | some o =>
   obtain⟨ob,eb⟩:=(I.XF D o z).there;exact absurd (old D ob hDL eb).2 (Α2 _)
 have new:∀b o,b≠X.env.locals->s.heap.get? b=some o->(sortedHeap h' D vs out).get? b=some o:=λb o nb eb=>by
  obtain⟨h1,h2⟩:=old b o nb eb;rw[sortedHeap_old (Ρ h2) (Ο h1)];exact h1
 obtain⟨e',hD'⟩:=sortedHeap_at (out:=out) hD;have hns:∀m',s.heap.Ns X.env.locals m'->(sortedHeap h' D vs out).Ns X.env.locals m':=λm' hm=>by
  have em:m'=m:=by
   obtain⟨o1,XU,ep1,a1,b1,_,c1⟩:=hm;obtain⟨o2,es2,ep2,a2,b2,_,c2⟩:=hn;rw[a1] at a2;cases a2;rw[b1] at b2;cases b2;funext y;rw[<- c1,<- c2]
  subst em;obtain⟨o1,XU,ep1,a1,r1⟩:=F.ns;exact⟨o1,XU,ep1,by rw[sortedHeap_old hDL.symm (Ο a1)];exact a1,r1⟩
 have nn:∀{b:Addr} {o:HO},H b=some o->b≠D:=λh z=>by subst z;rw[ZX] at h;cases h
 have nl:∀{b:Addr} {o:HO},H b=some o->b≠X.env.locals:=λh=>aD h I.free;refine⟨.ref D,Xz H D 4e0,show XC X Xy σ _ {s with heap:=sortedHeap h' D vs out,gens:=s.gens,drawn:=s.drawn,toks:=tk} from I.step (g':=s.gens) (d':=s.drawn) (t':=tk) (ch:=[]) (λ_ z=>nomatch z) (λb o nb _ _ eb _=>new b o nb eb) (λb o nb _ _ eb _=>⟨o.slots,new b o nb eb⟩) (λb o _ eb hb=>?_) (λb o _ eb=>?_)
  (λb xs hb=>by rw[aC (nn hb)];exact hb) (λb o u hb=>by rw[aC (nn hb)];exact hb) (λb ps hb=>⟨#[],by rw[aC (nn hb),hb];simp⟩) hns (λb o hb=>?_) I.bare,rfl,q D XJ ZX hp hs⟩
 ·by_cases YZ:b=D
  ·subst YZ;by_cases hbL:b=X.env.locals
   ·exact absurd hbL hDL
   ·exact absurd (old b o hbL eb).2 (Α2 _)
  ·rw[aC YZ];exact hb
 ·by_cases hbL:b=X.env.locals
  ·subst hbL;obtain⟨o1,XU,ep1,a1,r1⟩:=hns m hn;exact⟨o1,a1⟩
  ·exact⟨o,new b o hbL eb⟩
 ·by_cases YZ:b=D
  ·subst YZ;rw[aA] at hb;cases hb;exact⟨by rw[Δ,hp.length_eq];omega,out.toList,e',Ac hI',hD'⟩
  ·rw[aC YZ] at hb;refine(I.XF b o hb).uS (λc v hc ev=>?_) (λc hc=>by rw[aC (nn hc)];exact hc) λc xs hc=>by rw[aC (nn hc)];exact hc
   rcases hc with hc|hc
   ·subst hc;exact new c v (nl hb) ev
   ·exact new c v (nl hc) ev
end
section
variable{Q:VK}{p:Addr}
def OM:Kl [.ref p] H Q=cN (H p) λkvs=>jN (jS kvs) λns=>ns.length < 64/\∀(l:Addr) (XJ:List Str),H l=none->XJ.Perm ns->sortedS XJ=true->Q (.ref l) (Xz H l (.lst (XJ.map V.str))):=rfl
end
end L2
namespace PySem
open AutoSeq1 (wpAny_loadPart')
open PyProof.Rows PySem.W
section
variable {prog:Program} {w:World} {A:Around} {E:q0A} {s:Shared} {K:Type} [DecidableEq K] {knd:KeyKind prog w K} {r d:Addr} {kvs:List (K×Value)} {ep:Nat}
def nQ{Q₁:q0A}(hh:A.handled=none)(hv:s.heap.IsItemsView r d)(hm:s.heap.DictAt knd d kvs ep)(hn:kvs.length<=sizeLine)(hQ:∀(h':Heap) (tk:Nat) (as:List Addr),(∀b o,s.heap.get? b=some o->h'.get? b=some o)->as.length=kvs.length->KdxG knd kvs s.heap.objs.size h' as->Q₁ (.ref h'.objs.size) {s with heap:=h'.push {cls:=.type "tuple",data:=.seq (as.map Value.ref).toArray},toks:=tk}) : codeAny (model prog w) A (.call (.builtin "tuple.__new__") ⟨[.type "tuple",.ref r],[]⟩) (wants Q₁ E) s:=by
 refine codeAny_of_tree ?_;show wpAny _ A.in1 (do checkBuiltinCall "tuple.__new__" ⟨[.type "tuple",.ref r],[]⟩;again (.builtin "tuple.__new__" ⟨[.type "tuple",.ref r],[]⟩)) _ _ s;refine Α (Ζ2 (F.newCall_tuple_1 _) (Β ⟨Δ7 F.plain_tuple_new _,Β5 F.entry_tuple_new ?_⟩));rw[Α4 F.plain_tuple_new _];have aaE:=sub_tuple_self;have abT:=init_tuple_lookup;have hmh:=madeHere_tuple;have hTI:s.TypeIs (.ref r) "dict_items":=let ⟨o,ho,x,_⟩:=hv;⟨o,ho,x⟩;wp_walk using Ε8 hTI,kdx_collect (A:=A.in1) (knd:=knd) (kvs:=kvs) (ep:=ep) hh hv hm hn;intro h' tk as hk hl hG;show wpAny _ _ (Builtin.Tuple.tupleExact (as.map Value.ref).toArray >>= λv=>ret v) _ _ _;unfold Builtin.Tuple.tupleExact;refine Α (ϙ ?_ (by show(as.map Value.ref).toArray.size<=sizeLine;simpa[hl] using hn));refine Β ?_;exact hQ h' tk as hk hl hG
theorem tM{Q:q0A}(hh:A.handled=none)(hv:s.heap.IsItemsView r d)(hm:s.heap.DictAt knd d kvs ep)(hn:kvs.length<=sizeLine)(hQ:∀(h':Heap) (tk:Nat) (as:List Addr),(∀b o,s.heap.get? b=some o->h'.get? b=some o)->as.length=kvs.length->KdxG knd kvs s.heap.objs.size h' as->Q (.ref h'.objs.size) {s with heap:=h'.push {cls:=.type "tuple",data:=.seq (as.map Value.ref).toArray},toks:=tk}) : wpAny (model prog w) A (call (.type "tuple") [.ref r]) Q E s:=by
 refine callType_codes (Q₁:=λobj s₁=>s₁.TypeIs obj "tuple"/\Q obj s₁) F.called_tuple (F.typeCall_tuple_1 _) F.entry_object_init
  (nQ (knd:=knd) (kvs:=kvs) (ep:=ep) hh hv hm hn λh' tk as hk hl hG=>⟨⟨_,Ν _ rfl,rfl⟩,hQ h' tk as hk hl hG⟩) λobj s₁ h₁=>?_
 exact⟨h₁.1,F.args_object_init_2 obj _,object_init_meets F.called_tuple.init.lookup F.called_tuple.made (by decide) prog w A.in1 _ s₁ ⟨h₁.1,rfl,h₁.2⟩⟩
end
end PySem
namespace L2
open PySem PySem.Spec PyProof.Rows
variable{l:Addr}{items:Array Value}{kvs:List (Key×V)}{Q:Option Value->Shared->Prop}
def Q5(a d:Addr):HO:=.ext λh=>h.IsItemsView a d
section
variable{X:Cx}{o:Expr}{td:TE}{apos XG:Pos}
def Kh(td:TE):TE:=λσ H Q=>td σ H λx H1=>aU x λa=>cN (H1 a) λ_=>∀r,H1 r=none->Q (.ref r) (Xz H1 r (Q5 r a))
def Mv(ho:PE X o td)(Yc:attributeBase o "items" X.env (eval o X.env)=eval o X.env:=by rfl)(Yd:(apos.endLine==XG.line)=true:=by rfl):PE X (.Call (.Attribute o "items" apos) [] [] XG) (Kh td):=λXy s σ H Q I h=>by
 refine wpAny_Call_method0_late Yc Yd (thn (ho Xy s σ H _ I h) λv s1 ⟨x,H1,I1,r1,q1⟩=>?_);obtain⟨a,rfl,q2⟩:=aN q1;obtain⟨kvs,e0,q3⟩:=c8 q2;obtain rfl:v=Value.ref a:=r1;obtain⟨t1,t2,_⟩:=tV I1 (.inl ⟨kvs,.inl e0⟩);refine⟨"dict","dict.items",Ζ6,PySem.F.slot_dict_items,PySem.F.type_dict_items,t1,t2,Γ7 rfl (PySem.evalArgs_none ?_)⟩;obtain⟨z,hd,vs,rel,dd⟩:=rX I1.XF e0;refine Ε9 PySem.F.slot_dict_items dd.typeIs PySem.F.entry_dict_items (PySem.F.args_dict_items_1 _) (meets_dict_items (aR X.prog X.w) a hd) ⟨⟨vs,dd⟩,?_⟩;have I2:=I1.laid (t':=s1.toks) (λb o e=>Γ _ e) (Ζ _) (show c0 X.prog X.w _ (s1.heap.push {cls:=.type "dict_items",data:=.fields #[.ref a]}) _ (Q5 s1.heap.objs.size a) from ⟨⟨_,Ν _ rfl,rfl,rfl⟩,⟨_,Ν _ rfl⟩,λh1 h2 ⟨o,ho,x⟩ k=>⟨o,k o ho,x⟩⟩);exact⟨.ref _,_,I2,rfl,q3 _ (I1.XF.fresh (Ζ _))⟩
end
mutual
example:=[Key×V,(.tup [kV k,x])]
def KV.atR{vs:List (Key×Value)}(r:KV kvs vs){i:Nat}{k:Key}{x:V}(e:kvs[i]?=some (k,x)):∃v,vs[i]?=some (k,v)/\bC x v:=by
 unfold KV at r
 induction r generalizing i with
 | nil=>simp at e
 | @cons p q ps qs h t ih=>cases i with
  | zero =>
   have e':p=(k,x):=by simpa using e
   subst e';exact⟨q.2,by rw[Ω,show k=q.1 from h.1],h.2⟩
  | succ i=>simpa using ih (i:=i) (by simpa using e)
theorem BF:∀as:List Addr,XD (as.map V.ref) (as.map Value.ref)
 | []=>.nil
 | a::as=>.cons rfl (BF as)
def nK:List Addr->List 0e0->Hp->Hp
 | a::as,(k,x)::kvs,H=>Xz (nK as kvs H) a 1e0
 | _,_,H=>H
theorem pB{H:Hp}{b:Addr}:∀{as:List Addr} {kvs:List 0e0},b∉as->nK as kvs H b=H b
 | [],_,_=>by simp[nK]
 | a::as,[],_=>by simp[nK]
 | a::as,(k,x)::kvs,h=>by
  simp only[Ε,not_or] at h;rw[nK,aC h.1,pB h.2]
theorem wY{H:Hp}{a:Addr}{k:Key}{x:V}:∀{as:List Addr} {kvs:List 0e0} {j:Nat},as.Nodup->as[j]?=some a->kvs[j]?=some (k,x)->nK as kvs H a=some 1e0
 | [],_,_,_,h,_=>by simp at h
 | b::as,[],_,_,_,h=>by simp at h
 | b::as,(k',x')::kvs,0,_,h1,h2=>by
  simp only[Ω,ϒ,Prod.mk.injEq] at h1 h2;obtain⟨rfl,rfl⟩:=h2;subst h1;rw[nK,aA]
 | b::as,(k',x')::kvs,j+1,nd,h1,h2=>by
  rw[Ι6] at nd;simp only[List.getElem?_cons_succ] at h1 h2;have:a≠b:=λz=>nd.1 (by rw[<- z];exact Φ h1);rw[nK,aC this,wY nd.2 h1 h2]
theorem JX{H:Hp}{b:Addr}{o:HO}{as:List Addr}(nd:as.Nodup)(hl:as.length=kvs.length)(hb:b∈as)(h:nK as kvs H b=some o):∃(j:Nat) (k:Key) (x:V),as[j]?=some b/\kvs[j]?=some (k,x)/\o=.tup [kV k,x]:=by
 obtain⟨j,hj⟩:=List.mem_iff_getElem?.mp hb;have XW:j < kvs.length:=by have:=(Λ.mp hj).1;omega
 obtain⟨⟨k,x⟩,e⟩:∃y,kvs[j]?=some y:=⟨_,Μ XW⟩;rw[wY nd hj e] at h;exact⟨j,k,x,hj,e,(Ϛ h).symm⟩
end
section
variable{H:Hp}{Q:VK}{p:Addr}{td:TE}{σ:St}
def Oy:Kh td σ H Q=td σ H λx H1=>aU x λa=>cN (H1 a) λ_=>∀r,H1 r=none->Q (.ref r) (Xz H1 r (Q5 r a)):=rfl
end
mutual
example:=[]
def IW(a b:Str):Prop:=a.cps.toList<=b.cps.toList
def t4{a b c:Str}(h:IW a b)(g:IW b c):IW a c:=List.le_trans h g
def LR{a b:Str}(h:IW a b)(g:IW b a):a=b:=by
 have e:=List.le_antisymm h g;obtain⟨⟨x⟩⟩:=a;obtain⟨⟨y⟩⟩:=b;simp only at e;rw[e]
def AZ(a b:Str):IW a b\/IW b a:=List.le_total a.cps.toList b.cps.toList
theorem zF:∀{l:List Str} {p:Str},risingS p l=true->(p::l).Pairwise IW
 | [],p,_=>by simp
 | x::r,p,h=>by
  rw[risingS,Β3,Bool.not_eq_true',ltCps_eq,decide_eq_false_iff_not,List.not_lt] at h;have ih:=zF h.2;rw[Ε2];refine⟨λy hy=>?_,ih⟩;rcases Ε.mp hy with rfl|hy
  ·exact h.1
  ·exact t4 h.1 ((Ε2.mp ih).1 y hy)
def Ft{l:List Str}(h:sortedS l=true):l.Pairwise IW:=by
 cases l with
 | nil=>exact .nil
 | cons x r=>exact zF h
theorem Cu:∀{a b:List Str},a.Perm b->a.Pairwise IW->b.Pairwise IW->a=b
 | [],b,p,_,_=>by rw[List.nil_perm.mp p]
 | x::a,[],p,_,_=>by have:=p.length_eq;simp at this
 | x::a,y::b,p,ha,hb=>by
  rw[Ε2] at ha hb;have e:x=y:=by
   have h1:x∈y::b:=p.mem_iff.mp (by simp);have h2:y∈x::a:=p.mem_iff.mpr (by simp);rcases Ε.mp h1 with h1|h1
   ·exact h1
   rcases Ε.mp h2 with h2|h2
   ·exact h2.symm
   exact LR (ha.1 y h2) (hb.1 x h1)
  subst e;rw[Cu p.cons_inv ha.2 hb.2]
def JQ(a b:Str):Bool:=!(ltCps b.cps.toList a.cps.toList)
def fQ{a b:Str}:JQ a b=true↔IW a b:=by
 rw[JQ,Bool.not_eq_true',ltCps_eq,decide_eq_false_iff_not,List.not_lt];exact Iff.rfl
def srt(l:List Str):List Str:=l.mergeSort JQ
def Fv{l ns:List Str}(p:ns.Perm l)(h:sortedS ns=true):ns=srt l:=by
 refine Cu (p.trans (Η1 l JQ).symm) (Ft h) ?_;have:=List.pairwise_mergeSort (le:=JQ) (λa b c h g=>fQ.mpr (t4 (fQ.mp h) (fQ.mp g))) (λa b=>by
  rcases AZ a b with h|h
  ·rw[fQ.mpr h];simp
  ·rw[fQ.mpr h];simp) l
 exact this.imp λh=>fQ.mp h
end
section
variable{prog:Program}{w:World}{A:Around}{E:q0A}{s:Shared}{b0:Array Keyed}
end
noncomputable def Rp:List V->Hp->VK->Prop:=λvs H Q=>on1 vs λx=>aU x λp=>cN (H p) λkvs=>jN (intKeys kvs) λns=>ns.Pairwise (· < ·)/\∀(l:Addr) (XJ:List Int),H l=none->XJ.Perm ns->XJ.Pairwise (·<=·)->Q (.ref l) (Xz H l (.lst (XJ.map V.int)))
section
variable{H:Hp}{Q:VK}{p:Addr}
def OL:Rp [.ref p] H Q=cN (H p) λkvs=>jN (intKeys kvs) λns=>ns.Pairwise (· < ·)/\∀(l:Addr) (XJ:List Int),H l=none->XJ.Perm ns->XJ.Pairwise (·<=·)->Q (.ref l) (Xz H l (.lst (XJ.map V.int))):=rfl
end
noncomputable def Qj(K:q0B):R2:=λx y H Q=>aU y λp=>∃zs:List Str,cJ K H p (zs.map V.str)/\((∃u,x=.str u/\Q (.bl (Ag (.str u) (zs.map V.str))) H)\/∃a xs,x=.ref a/\cJ K H a xs/\Q (.bl false) H)
theorem Ei:∀{zs:List Str} {us:List Value},XD (zs.map V.str) us->∀w∈us,∃z t,w=.str z t
 | [],us,r=>by cases r;simp
 | z::zs,us,r=>by
  cases r with
  | cons a r =>
   obtain⟨t,rfl⟩:=a;intro w hw;rcases Ε.mp hw with rfl|hw
   ·exact⟨z,t,rfl⟩
   ·exact Ei r w hw
section
variable{X:Cx}
theorem Hc(hu:X.A.units+1 < cLine):i9 X (compareOp .In) (Qj X.K):=λXy s σ H x y v u Q I rx ry h=>by
 obtain⟨p,rfl,zs,hp,h1⟩:=aN h;rcases h1 with⟨k,rfl,q⟩|⟨a,xs,rfl,e,q⟩
 ·exact Bl Xy s σ H _ _ v u Q I rx ry ⟨_,_,rfl,.inr hp,rfl,by simp[Δ5,eB],q⟩
 ·obtain⟨XA,r1,p1,_⟩:=I.tuple e;obtain⟨YT,r2,p2,_⟩:=I.tuple hp;cases rx;cases ry;refine SeqAt.in_tupleAt (λ_=>false) (show s.heap.IsTuple p YT.toArray from p2) (λw hw=>?_) ?_
  ·obtain⟨z,t,rfl⟩:=Ei r2 w (by simpa using hw);exact SeqAt.EqAt.str_tuple z t (show s.heap.IsTuple a XA.toArray from p1) (by show X.A.units+1 < _;omega)
  ·rw[show(YT.toArray.any λ_=>false)=false by simp];exact bI I q rfl
end
section
mutual
example:=[some y1::some y2::aV fr σ,zs.map V.str]
variable{fr:List Nat}{tc:TT}{te tl:TE}{σ:St}{H:Hp}{Q:VK}{K:q0B}{x:V}{z:Str}{p:Addr}
def R6:Qj K x (.ref p) H Q = ∃zs:List Str,cJ K H p 1e0/\((∃u,x=.str u/\Q (.bl (Ag (.str u) 1e0)) H)\/∃a xs,x=.ref a/\cJ K H a xs/\Q (.bl false) H):=rfl
def KY:CJ K (EN K tl) fr tc te σ H Q=tl σ H λx H1=>aU x λa=>(∃xs,cJ K H1 a xs)/\lc2 K (Itt K a) fr tc te σ H1 Q:=by
 unfold CJ EN
 congr 1
 funext x H1;exact propext ⟨fun⟨a,e,h1,h⟩=>by subst e;exact⟨h1,h⟩,λh=>by obtain⟨a,rfl,h1,h⟩:=aN h;exact⟨a,rfl,h1,h⟩⟩
theorem O0{a:Addr}{ys:List V}(Pv:Nat->List V->Hp->Prop)(h0:Pv 0 [] H)(hz:∀i xs H,Pv i xs H->xs.length<=1000000)(hl:∀i xs H,Pv i xs H->cJ K H a ys)(hs:∀(i:Nat) y xs H,i < ys.length->ys[i]?=some y->Pv i xs H->∃p y1 y2,y=.ref p/\cJ K H p [y1,y2]/\tc 0e0 H λb H2=>if b=true then te 0e0 H2 (λz H3=>Pv (i+1) (xs++[z]) H3) else Pv (i+1) xs H2)(hd:∀xs H,Pv ys.length xs H->∀p,H p=none->Q (.ref p) (Xz H p (.lst xs))):lc2 K (Itt K a) fr tc te σ H Q:=by
 refine⟨cW ys.length Pv,⟨ys.length,by simp,ϖ _,h0⟩,?_⟩;rintro i m xs H ⟨rfl,hi,pv⟩;refine⟨hz i xs H pv,?_⟩;have q1:=hl i xs H pv;by_cases lt:i < ys.length
 ·refine .inr ⟨⟨ys,ys[i],q1,by simp[lt]⟩,λv H' yy=>?_⟩;obtain⟨e,yy⟩:=yy;subst e;obtain⟨p,y1,y2,ey,hp,hh⟩:=hs i v xs H' lt (yy ys q1) pv;refine⟨p,y1,y2,ey,hp,?_⟩;simp only[CZ lt];exact hh
 ·refine .inl ⟨⟨ys,q1,by omega⟩,?_⟩;exact hd xs H ((show i=ys.length by omega)▸pv)
end
end
section
variable{X:Cx}{K:q0B}{o e:Expr}{es:List Expr}{to:TE}{t:TA}{name:Str}{apos XG:Pos}{T id:String}{r:V->List V->Hp->VK->Prop}
end
section
variable{X:Cx}
end
section
variable{z y:Str}{i:Int}{H:Hp}{Q:VK}
end
namespace RV
mutual
example:=[(by decide +kernel),(by kernel_rfl),(by rw[Δ6,Α7];kernel_rfl),(by rw[Η3];kernel_rfl),(by first|exact .inl 0e0|exact .inr 0e0),.type "tuple",.type "reversed"]
def norev:typeLookup 5e0 "__reversed__"=pure none:=by rw[Δ6,Α7];kernel_rfl
def nodict:isSubtype 5e0 (.type "dict")=pure false:=by rw[Η3];kernel_rfl
def gi:typeLookup 5e0 "__getitem__"=pure (some (.builtin "tuple.__getitem__")):=by rw[Δ6,Α7];kernel_rfl
def nolen:typeLookup 6e0 "__len__"=pure none:=by rw[Δ6,Α7];kernel_rfl
def hint:typeLookup 6e0 "__length_hint__"=pure (some (.builtin "reversed.__length_hint__")):=by rw[Δ6,Α7];kernel_rfl
theorem D2:Slot "reversed" "__next__" "reversed.__next__":=.of (owner:="reversed") (n:="__next__") 2e0 0e0 0e0 0e0 4e0 3e0
theorem QG:Slot "reversed" "__iter__" "reversed.__iter__":=.of (owner:="reversed") (n:="__iter__") 2e0 0e0 0e0 0e0 4e0 3e0
def Vk:entryFor table "reversed.__next__"=some Builtin.«reversed.__next__»:=entryFor_of_tree 1e0
theorem QF:Slot "reversed" "__length_hint__" "reversed.__length_hint__":=.of (owner:="reversed") (n:="__length_hint__") 2e0 0e0 0e0 0e0 4e0 3e0
def WT:entryFor table "reversed.__length_hint__"=some Builtin.«reversed.__length_hint__»:=entryFor_of_tree 1e0
def own:Manifest.owners.lookup (String.ofList ['d','e','s','r','e','v','e','r'].reverse)=some Manifest.sig_reversed:=by kernel_rfl
def Ub(a:Value):argsOk "reversed.__next__" ⟨[a],[]⟩:=by
 unfold argsOk;rw[signature?_of (id:="reversed.__next__") (n:=['_','_','t','x','e','n','_','_']) (o:=['d','e','s','r','e','v','e','r']) 1e0 own];kernel_rfl
def Wq(a:Value):argsOk "reversed.__length_hint__" ⟨[a],[]⟩:=by
 unfold argsOk;rw[signature?_of (id:="reversed.__length_hint__") (n:=['_','_','t','n','i','h','_','h','t','g','n','e','l','_','_']) (o:=['d','e','s','r','e','v','e','r']) 1e0 own];kernel_rfl
def Wr(a:Value):argsOk "reversed.__iter__" ⟨[a],[]⟩:=by
 unfold argsOk;rw[signature?_of (id:="reversed.__iter__") (n:=['_','_','r','e','t','i','_','_']) (o:=['d','e','s','r','e','v','e','r']) 1e0 own];kernel_rfl
theorem WU:entryFor table "reversed.__iter__"=some Builtin.«dict_keyiterator.__iter__» :=
 entryFor_alias (id':="dict_keyiterator.__iter__") 1e0 (by first|rfl|decide +kernel|(unfold String.splitOn;simp +decide [String.splitOnAux])) 0e0 1e0
theorem VM:Slot "reversed" "__init__" "object.__init__":=.of (owner:="object") (n:="__init__") 2e0 0e0 0e0 0e0 4e0 3e0
theorem called:TypeCalled "reversed" "reversed.__new__" "object.__init__":=⟨by decide +kernel,by decide +kernel,⟨_,_,F.mro_reversed⟩,F.made_reversed,by decide +kernel,by rw[Η3];kernel_rfl,VM⟩
def obj(t:Addr)(i:Int):Obj:={cls:=.type "reversed",data:=.fields #[.ref t,rawInt i]}
def Is(h:Heap)(a t:Addr)(i:Int):Prop:=∃o,h.get? a=some o/\o.cls=.type "reversed"/\o.data=.fields #[.ref t,rawInt i]
end
section
mutual
example:=[(by omega),.ref it,(items.size:Int) - 1,model prog w,(by simp),(by decide),Η4 ho hd (x:=.ref l) rfl ?_,(items.size:Int) - 1+1,(by size_fits),Κ2 (Β2 (name:=Str.ofString "__next__") hit.ty D2 (Α9 D2 hit.ty Vk ?_ (Ub _))),(pure (some ((items.size:Nat):Int)) >>= λb=>_),(specialOf (.ref l) "__getitem__" >>= λb=>_),(Ζ2 (a:=()) (by first|rfl|kernel_rfl) ?_),Η4 ho hd (x:=rawInt (i:Int)) rfl ?_,(Ζ2 (a:=(Value.ref it,[])) rfl ?_),(items.size:Int) - 1+1 !=0,(λh=>hb (by simp[h])),.ref s.heap.objs.size,Ι0 hl.typeIs gi ?_,(by decide +kernel),.type "reversed",Θ6 (Β7 hd _),wpAny_rule ?_,(i:Int) - 1]
variable{prog:Program}{w:World}{A:Around}{E:q0A}{s:Shared}
def Is.ty{a t:Addr}{i:Int}(x:Is s.heap a t i):s.TypeIs (.ref a) "reversed":=let ⟨o,ho,hc,_⟩:=x;⟨o,ho,hc⟩
theorem make{Q₁:q0A}(hl:IsTup s.heap l items)(hf:(items.size:Int) < 2 ^ 63)(h:∀tk,s.toks<=tk->Q₁ 7e1 {s with heap:=s.heap.push (obj l 2e0),toks:=tk}) : codeAny 3e0 A (.call (.builtin "reversed.__new__") ⟨[.type "reversed",.ref l],[]⟩) (wants Q₁ E) s:=by
 refine codeAny_of_tree ?_;show wpAny _ A.in1 (do checkBuiltinCall "reversed.__new__" ⟨[.type "reversed",.ref l],[]⟩;again (.builtin "reversed.__new__" ⟨[.type "reversed",.ref l],[]⟩)) _ _ s;refine Α (Ζ2 (F.newCall_reversed_1 _) (Β ⟨Δ7 F.plain_reversed_new _,Β5 F.entry_reversed_new ?_⟩));rw[Α4 F.plain_reversed_new _];unfold Builtin.«reversed.__new__»;refine Α (Ζ2 (newClass_reversed _) ?_)
 try dsimp only
 refine Α 2e1
 refine Α 2e1
 try dsimp only
 refine Α (Ι0 hl.typeIs norev ?_)
 try dsimp only
 refine Α ?_;show wpAny _ _ (isInstance (.ref l) (.type "dict") >>= λb=>_) _ _ _;refine Α (Ι5 (b:=false) hl.typeIs nodict ?_);show wpAny _ _ 1e1 _ _ _;refine Α 8e1;show wpAny _ _ (if (["tuple.__getitem__","str.__getitem__","bytes.__getitem__","bytearray.__getitem__","memoryview.__getitem__","numpy.ndarray.__getitem__","sqlite3.Row.__getitem__"].contains "tuple.__getitem__")=true then pure true else _) _ _ _;rw[if_pos 9e1];refine Β ?_;show wpAny _ _ (call (Value.builtin "len") [Value.ref l] >>= λb=>_) _ _ _;refine Α (len_tuple hl hf ?_);show wpAny _ _ 0e1 _ _ _;refine Α (Β ?_);show wpAny _ _ (newObj 0e2 (.fields #[.ref l,rawInt 2e0]) >>= λb=>_) _ _ _;refine Α (ϙ ?_ 8e0);exact Β (h _ (by show s.toks<=s.toks+1+1;omega))
theorem call{Q:q0A}(hl:IsTup s.heap l items)(hf:(items.size:Int) < 2 ^ 63)(h:∀tk,s.toks<=tk->Q 7e1 {s with heap:=s.heap.push (obj l 2e0),toks:=tk}):wpAny 3e0 A (PySem.call 0e2 [.ref l]) Q E s:=by
 refine callType_codes (Q₁:=λob s₁=>s₁.TypeIs ob "reversed"/\Q ob s₁) called (F.typeCall_reversed_1 _) F.entry_object_init (make hl hf λtk ht=>⟨⟨_,Ν _ rfl,rfl⟩,h tk ht⟩) λob s₁ h₁=>?_;exact⟨h₁.1,F.args_object_init_2 ob _,object_init_meets called.init.lookup called.made 5e0 prog w A.in1 _ s₁ ⟨h₁.1,rfl,h₁.2⟩⟩
theorem item{it:Addr}{i:Nat}{x:Value}(hit:Is s.heap it l (i:Int))(hl:IsTup s.heap l items)(hx:items[i]?=some x)(hf:(items.size:Int) < 2 ^ 63)(hQ:∀h' tk,s.toks<=tk->Is h' it l 3e2->Heap.SameBut it s.heap h'->Q (some x) {s with heap:=h',toks:=tk}):wpAny 3e0 A (pyNext 1e0) Q E s:=by
 obtain⟨o,ho,hc,hd⟩:=id hit;have XW:i < items.size:=(Ι9.mp hx).1;unfold pyNext;refine Α 9e0;unfold Builtin.«reversed.__next__»;refine Α 4e1
 try dsimp only
 refine Α 6e0;refine Α 3e1;show wpAny _ _ (if (i:Int) < 0 then _ else _) _ _ s;rw[if_neg 0e0];show wpAny _ _ 1e1 _ _ _;refine Α 8e1;rw[if_neg 4e0];refine Α (wpAny_mkInt ?_);refine Α (Κ2 (getItem_tuple (s:={s with toks:=s.toks+1}) hl (by exact Int.le_trans 5e0 (Int.natCast_nonneg i)) (by exact Int.lt_trans (Int.ofNat_lt.mpr XW) hf) (j:=i) ?_ hx ?_))
 ·unfold seqIndex?;have e:(if (i:Int) < 0 then (i:Int)+items.size else i)=i:=if_neg 0e0;simp only[e];rw[if_pos (by simp;omega)];rfl
 ·show wpAny _ _ (field 1e0 1 >>= λb=>_) _ _ _;refine Α 3e1;show wpAny _ _ (setField 1e0 1 (rawInt 3e2) >>= λb=>_) _ _ _;refine Α (Θ5 ho hd 4e0 ?_);refine Β ⟨x,rfl,Β (hQ _ _ (by show s.toks<=s.toks+1;omega) ?_ (Β4 ..))⟩;exact⟨_,Α5 _ ho 1e2,(Obj.cls_mapFields ..).trans hc,by rw[Β7 hd];simp⟩
theorem over{it:Addr}(hh:A.handled=none)(hit:Is s.heap it l (-1))(hQ:∀h',Heap.ExtBut it s.heap h'->Q none {s with heap:=h'}):wpAny 3e0 A (pyNext 1e0) Q E s:=by
 obtain⟨o,ho,hc,hd⟩:=id hit;unfold pyNext;refine Α 9e0;unfold Builtin.«reversed.__next__»;refine Α 4e1
 try dsimp only
 refine Α 6e0;refine Α (Η4 ho hd (x:=rawInt (-1)) rfl ?_);show wpAny _ _ (if (-1:Int) < 0 then _ else _) _ _ s;rw[if_pos 5e0];refine Α 2e2;refine Α ?_;show wpAny _ _ (setField 1e0 1 (rawInt (-1)) >>= λb=>_) _ _ _;refine Α (Θ5 ho hd 4e0 ?_);refine Θ5 (Α5 _ ho 1e2) (Β7 hd _) 4e0 ?_;refine Α ?_;show wpAny _ _ (newExc (.type "StopIteration") [] >>= λb=>_) _ _ _;refine Α ?_;simp only[newExc,newTuple];refine Α (ϙ ?_ 8e0);refine Α (m:=firstArgMember _ _) (Ζ2 (a:=Value.none) (by first|rfl|(simp only[firstArgMember];rfl)) ?_)
 refine ϙ ?_ 8e0;simp only[raiseNew];refine Α (wpAny_handled ?_)
 first|rw[show A.in1.handled=none from hh]|rw[hh]
 refine Α (Β (wpAny_throw ?_));refine Α (Ι5 (T:="StopIteration") (b:=true) ⟨_,Ν _ rfl,rfl⟩ isSubtype_stop ?_);refine Β (hQ _ ?_);exact((((Β4 ..).extBut).trans (Β4 ..).extBut).push _).push _
def self{it:Addr}{i:Int}{Q:q0A}(hit:Is s.heap it l i)(h:Q 1e0 s):wpAny 3e0 A (pyIter 1e0) Q E s:=by
 refine wpAny_pyIter_slot hit.ty QG (Α9 QG hit.ty WU ?_ (Wr _));show wpAny _ _ (ret 1e0) _ _ s;exact Β ⟨_,rfl,"reversed",_,hit.ty,D2.lookup,h⟩
theorem room{I:Addr}{Q:Bool->Shared->Prop}(hit:Is s.heap I l 2e0)(hl:IsTup s.heap l items)(h0:0 < items.size)(hf:items.size<=1000)(hQ:∀tk,s.toks<=tk->Q true {s with toks:=tk}):wpAny 3e0 A (Builtin.List.listLengthHint (.ref I)) Q E s:=by
 obtain⟨o,ho,hc,hd⟩:=id hit;unfold Builtin.List.listLengthHint;refine Α (Ι0 hit.ty nolen ?_);show wpAny _ _ (specialOf (Value.ref I) (Str.ofString "__length_hint__") >>= _) _ _ _;refine Α (Ι0 hit.ty hint ?_);generalize hid:("reversed.__length_hint__":String)=id0
 (fail_if_success (clear hid id0))
 wp_delta
 rw[show splitId id0=some ("reversed","__length_hint__") from by subst hid;decide +kernel];subst hid;refine Α (Ι5 (b:=true) hit.ty (by rw[Η3];kernel_rfl) ?_);rw[if_neg 5e0];show wpAny 3e0 A (ite _ _ _) Q E s;rw[if_neg 9e1];refine Α 2e2;refine Α (Ζ2 (QF.bind _) ?_)
 try dsimp only
 refine Α (Κ2 (Α9 QF hit.ty WT ?_ (Wq _)));unfold Builtin.«reversed.__length_hint__»;refine Α (Ζ2 (a:=Value.ref I) rfl ?_);refine Α 6e0;rw[if_neg (show ¬ ((Value.ref l==Value.none)=true) from by simp)];refine Α (len_tuple hl 0e0 ?_);show wpAny _ _ 0e1 _ _ _;refine Α (Β ?_);show wpAny _ _ (field (.ref I) 1 >>= λb=>_) _ _ _;refine Α (Η4 ho hd (x:=rawInt 2e0) rfl ?_);show wpAny _ _ (if ((items.size:Nat):Int) < 2e0+1 then _ else retInt (2e0+1)) _ _ _;rw[if_neg 0e0];refine Α (wpAny_mkInt (Β ⟨_,rfl,?_⟩));show wpAny _ _ (pure (some 7e0) >>= λb=>_) _ _ _;refine Α (Β ?_);have z1:sizeLine > 1000:=by decide
 have n1:Builtin.List.listFitsIndex 7e0=true:=by
  unfold Builtin.List.listFitsIndex;simp only[Β3,Ζ8];omega
 have n2:¬ Builtin.List.listTooLong ((items.size:Int) - 1+1).toNat=true:=by
  unfold Builtin.List.listTooLong;simp only[Ζ8];omega
 show wpAny _ _ (ite ((!Builtin.List.listFitsIndex 7e0)=true) _ (ite ((items.size:Int) - 1+1 < 0) _ (ite (Builtin.List.listTooLong ((items.size:Int) - 1+1).toNat=true) _ (pure 5e1)))) _ _ _;rw[if_neg (by rw[n1];simp),if_neg 0e0,if_neg n2,show 5e1=true from bne_iff_ne.mpr 0e0];exact Β (hQ _ (by show s.toks<=s.toks+1+1+1;omega))
theorem walks(hh:A.handled=none)(I l:Addr)(YA:l≠I)(items:Array Value)(hf:(items.size:Int) < 2 ^ 63) : Walks prog w A I [I,l] [I] items.size (λi v=>items[items.size - 1 - i]?=some v) (λi h=>i<=items.size/\Is h I l ((items.size:Int) - 1 - (i:Int))/\IsTup h l items) where
 sub:=λb hb=>by simp at hb;simp[hb]
 frame:=λ_ _ _ x hk=>⟨x.1,let ⟨o,ho,r⟩:=x.2.1;⟨o,hk I 4e0 o ho,r⟩,let ⟨o,ho,r⟩:=x.2.2;⟨o,hk l 4e0 o ho,r⟩⟩
 item:=λi s Q E hi x hQ=>by
  have hit:=x.2.1;rw[show(items.size:Int) - 1 - (i:Int)=((items.size - 1 - i:Nat):Int) by omega] at hit;have hx:items[items.size - 1 - i]?=some (items[items.size - 1 - i]' 0e0):=Γ1 0e0;refine RV.item hit x.2.2 hx hf λh' tk _ ZJ Y9=>?_;rw[show((items.size - 1 - i:Nat):Int) - 1=(items.size:Int) - 1 - ((i+1:Nat):Int) by omega] at ZJ;exact hQ _ h' tk hx ⟨hi,ZJ,let ⟨o,ho,r⟩:=x.2.2;⟨o,(Y9.2 l YA).trans ho,r⟩⟩ λb o hb eo=>Y9.extBut b o 6e1 eo
 done:=λs Q E x hQ=>by
  have hit:=x.2.1;rw[show(items.size:Int) - 1 - (items.size:Int) = -1 by omega] at hit;exact RV.over hh hit λh' he'=>hQ h' s.toks λb o hb eo=>he' b o 6e1 eo
 self:=λ_ _ _ _ x hQ=>RV.self x.2.1 hQ
end
end
section
mutual
example:=[model prog w,.ref I,.ref s.heap.objs.size,Builtin.List.listLengthHint (.ref I),.ref s'.heap.objs.size]
variable{prog:Program}{w:World}{A:Around}{E:q0A}{s:Shared}{I:Addr}{fp wr:List Addr}{G:Array GenState->Array GenState->Prop}{n:Nat}{P:Nat->Value->Prop}{St:Nat->Shared->Prop}
theorem gather{Q:List Value->Shared->Prop}(hR:∀(s:Shared) (Q:Bool->Shared->Prop) (E:q0A),St 0 s->(∀tk,s.toks<=tk->Q true {s with toks:=tk})->wpAny 0e0 A.in1 3e0 Q E s)(W:WalksS prog w A.in1 I fp wr G n P St)(hT:∀i s,St i s->s.TypeIs 1e0 "reversed")(XQ:St 0 s)(hfp:∀b∈fp,b < s.heap.objs.size)(hI:I∈fp)(hQ:∀s' acc,Moved wr G s s'->ItemsOf P acc n->Q acc.toList s')(hn:n<=sizeLine):wpAny 0e0 A (collect 1e0) Q E s:=by
 have hSf:s.heap.objs.size∉fp:=λhm=>Α2 _ (hfp _ hm);have hSI:s.heap.objs.size≠I:=λe=>hSf (e▸hI);unfold collect;refine Α (wpAny_runValue (Β5 F.entry_proto_collect ?_));rw[Α4 F.plain_proto_collect _];show wpAny _ A.in1 (newList [] >>= λl=>again (.builtin "list.__iadd__" ⟨[l,.ref I],[]⟩)) _ _ s;refine Α (ϙ ?_);refine Β ⟨Δ7 F.plain_list_iadd _,Β5 F.entry_list_iadd ?_⟩;rw[Α4 F.plain_list_iadd _];have aaM:=W.frame 0 s (s.heap.push {cls:=.type "list",data:=.seq ([]:List Value).toArray}) s.toks XQ (Ζ _) λb _ o e=>Γ _ e;have hS₁:(s.heap.push {cls:=.type "list",data:=.seq ([]:List Value).toArray}).get? s.heap.objs.size=some {cls:=.type "list",data:=.seq ([]:List Value).toArray}:=Ν _ rfl;have h1:Builtin.List.listSameRef 2e0 1e0=false:=by simp[Builtin.List.listSameRef,hSI]
 show wpAny _ A.in1 (Builtin.List.listExtendWith 2e0 1e0 2e0) _ _ _;unfold Builtin.List.listExtendWith;refine Α (Ε8 (hT 0 _ aaM) ?_);rw[if_neg (by rw[h1];decide)];refine Α (W.self 0 _ _ _ aaM ?_);refine Α (Β8 ?_);refine hR _ _ _ aaM λtk ht=>?_;have ac2:=W.frame 0 _ _ tk aaM ht λb _ o e=>e;show wpAny _ A.in1 (rule "list.extend.makes-room" >>= λ_=>Builtin.List.listTouch 2e0 >>= λ_=>again (.builtin "list.extend.loop" ⟨[.ref s.heap.objs.size,.ref I,.ref s.heap.objs.size],[]⟩)) _ _ _;refine Α (wpAny_rule ?_);refine Α ?_;show wpAny _ A.in1 (updateSeq s.heap.objs.size (·.push .none) >>= λ_=>updateSeq s.heap.objs.size (·.pop)) _ _ _;refine Α (wpAny_updateSeq hS₁ rfl ?_);have hS₂:=Α5 (Obj.mapSeq (·.push Value.none)) hS₁ rfl;refine wpAny_updateSeq hS₂ rfl ?_;have hS₃:=Α5 (Obj.mapSeq (·.pop)) hS₂ rfl;have oth:∀b o,b≠s.heap.objs.size->(s.heap.push {cls:=.type "list",data:=.seq ([]:List Value).toArray}).get? b=some o->(((s.heap.push {cls:=.type "list",data:=.seq ([]:List Value).toArray}).update s.heap.objs.size (Obj.mapSeq (·.push Value.none))).update s.heap.objs.size (Obj.mapSeq (·.pop))).get? b=some o :=
  λb o hb e=>(Γ6 _ _ (Ε6 hb)).trans ((Γ6 _ _ (Ε6 hb)).trans e)
 refine Β ⟨Δ7 F.plain_extend_loop _,codeAny_extend_loopS W hn _ hSf _ n 0 _ _ _ rfl (ϖ _) (W.frame 0 ({s with heap:=s.heap.push {cls:=.type "list",data:=.seq ([]:List Value).toArray},toks:=tk}:Shared) _ tk ac2 (Ζ _) λb hb o e=>oth b o (λh=>hSf (h▸hb)) e) hS₃ (ItemsOf.nil P) λs' X9 c' hm YM XO=>?_⟩;show wpAny _ A (load s.heap.objs.size >>= _) _ _ s';refine Α (wpAny_load YM ?_);refine Β (hQ s' X9 ?_ XO);refine Moved.drop_new (o:={cls:=.type "list",data:=.seq ([]:List Value).toArray}) (tk:=s.toks) (Moved.trans W.gtrans ?_ hm) (Ζ _);exact⟨λb o hb e=>oth b o (λh=>hb (by simp[h])) e,W.grefl _,rfl,rfl,ht⟩
def tnew{Q₁:q0A}(hR:∀(s:Shared) (Q:Bool->Shared->Prop) (E:q0A),St 0 s->(∀tk,s.toks<=tk->Q true {s with toks:=tk})->wpAny 0e0 A.in1.in1 3e0 Q E s)(W:WalksS prog w A.in1.in1 I fp wr G n P St)(hT:∀i s,St i s->s.TypeIs 1e0 "reversed")(XQ:St 0 s)(hfp:∀b∈fp,b < s.heap.objs.size)(hI:I∈fp)(h:∀s' acc,Moved wr G s s'->ItemsOf P acc n->Q₁ 4e0 {s' with heap:=s'.heap.push {cls:=.type "tuple",data:=.seq acc}})(hsz:n<=sizeLine) : codeAny 0e0 A (.call (.builtin "tuple.__new__") ⟨[.type "tuple",.ref I],[]⟩) (wants Q₁ E) s:=by
 refine codeAny_of_tree ?_;show wpAny _ A.in1 (do checkBuiltinCall "tuple.__new__" ⟨[.type "tuple",.ref I],[]⟩;again (.builtin "tuple.__new__" ⟨[.type "tuple",.ref I],[]⟩)) _ _ s;refine Α (Ζ2 (F.newCall_tuple_1 _) (Β ⟨Δ7 F.plain_tuple_new _,Β5 F.entry_tuple_new ?_⟩));rw[Α4 F.plain_tuple_new _];have aaE:=sub_tuple_self;have abT:=init_tuple_lookup;have hmh:=madeHere_tuple;have hTI:=hT 0 s XQ;wp_walk using Ε8 hTI,gather hR W hT XQ hfp hI (hn:=hsz);intro s' acc hm XO;show wpAny _ _ (Builtin.Tuple.tupleExact acc.toList.toArray >>= λv=>ret v) _ _ _;unfold Builtin.Tuple.tupleExact;refine Α (ϙ ?_ (by show acc.toList.toArray.size<=sizeLine;simp only[Array.toArray_toList];rw[XO.1];exact hsz));refine Β ?_;have e:acc.toList.toArray=acc:=by simp
 rw[e];exact h s' acc hm XO
theorem tcall{Q:q0A}(hR:∀(s:Shared) (Q:Bool->Shared->Prop) (E:q0A),St 0 s->(∀tk,s.toks<=tk->Q true {s with toks:=tk})->wpAny 0e0 A.in1.in1.in1 3e0 Q E s)(W:WalksS prog w A.in1.in1.in1 I fp wr G n P St)(hT:∀i s,St i s->s.TypeIs 1e0 "reversed")(XQ:St 0 s)(hfp:∀b∈fp,b < s.heap.objs.size)(hI:I∈fp)(hQ:∀s' acc,Moved wr G s s'->ItemsOf P acc n->Q 4e0 {s' with heap:=s'.heap.push {cls:=.type "tuple",data:=.seq acc}})(hsz:n<=sizeLine) : wpAny 0e0 A (PySem.call (.type "tuple") [.ref I]) Q E s:=by
 refine callType_codes (Q₁:=λobj s₁=>s₁.TypeIs obj "tuple"/\Q obj s₁) F.called_tuple (F.typeCall_tuple_1 _) F.entry_object_init (tnew hR W hT XQ hfp hI (λs' acc hm XO=>⟨⟨_,Ν _ rfl,rfl⟩,hQ s' acc hm XO⟩) hsz) λobj s₁ h₁=>?_;exact⟨h₁.1,F.args_object_init_2 obj _,object_init_meets F.called_tuple.init.lookup F.called_tuple.made (by decide) prog w A.in1 _ s₁ ⟨h₁.1,rfl,h₁.2⟩⟩
end
end
end RV
mutual
example:=[(XA.toArray.size:Int) - 1,RV.obj a 0e0,.Name "reversed" p,(by rw[hsz];omega),(by decide),.tup xs.reverse]
def HV(K:q0B)(ta:TA):TE:=λσ H Q=>ta σ H λvs H1=>∃a xs,vs=[.ref a]/\cJ K H1 a xs/\1<=xs.length/\xs.length<=1000/\∀q,H1 q=none->Q (.ref q) (Xz H1 q 5e0)
theorem Jr{X:Cx}{e:Expr}{ta:TA}{p pos p2 acA:Pos}(hc:X.calm=true)(hgT:Gl X "tuple")(hmT:X.mg "tuple"=none)(hg:Gl X "reversed")(hm:X.mg "reversed"=none)(ha:PA X [e] ta)(hs:starEach [e] X.env=[(false,eval e X.env)]:=by rfl)(hs2:starEach [.Call 2e0 [e] [] pos] X.env=[(false,eval (.Call 2e0 [e] [] pos) X.env)]:=by rfl):PE X (.Call (.Name "tuple" p2) [.Call 2e0 [e] [] pos] [] acA) (HV X.K ta):=by
 intro Xy s σ H Q I h;refine Θ4 (yM I hgT hmT eU ?_ 4e0 4e0);refine Ι7 ?_ hs2 rfl;rw[hs2];show wpAny _ _ (spliced ((false,eval (.Call 2e0 [e] [] pos) X.env)::backTo acA [])) _ _ s;refine Ζ5 ?_;refine Θ4 (yM I hg hm CV ?_ 4e0 4e0);refine Ι7 (thn (ha pos Xy s σ H _ I h) λus s1 ⟨vs,H1,I1,r1,q1⟩=>?_) hs rfl;obtain⟨a,xs,rfl,hq,h1,h2,q⟩:=q1;obtain⟨u,rfl,ru⟩:=r1.one;cases ru;obtain⟨XA,rv,pt,hz⟩:=I1.tuple hq;have hl:=rv.length;have hsz:XA.toArray.size=XA.length:=by simp
 refine RV.call pt 3e0 λtk ht=>?_;refine Κ7 ?_;have I2:XC X Xy σ H1 {s1 with heap:=s1.heap.push 1e0,toks:=tk}:=I1.kept (t':=tk) λb o e=>Γ _ e;have hI:RV.Is (s1.heap.push 1e0) s1.heap.objs.size a 0e0:=⟨_,Ν _ rfl,rfl,rfl⟩;have pt2:IsTup (s1.heap.push 1e0) a XA.toArray:=let ⟨o,ho,r⟩:=pt;⟨o,Γ _ ho,r⟩;have XW:a < s1.heap.objs.size:=let ⟨o,ho,_⟩:=pt;Ο ho;have ac3:(s1.heap.push 1e0).objs.size=s1.heap.objs.size+1:=by simp[Heap.push]
 refine RV.tcall (λs Q E st hq=>RV.room (by simpa using st.2.1) st.2.2 3e0 3e0 hq) (RV.walks (A:=X.A.in1.in1.in1) (I.ok.hd hc) s1.heap.objs.size a (Ρ XW) XA.toArray 3e0).toS (λi s st=>st.2.1.ty) ⟨ϖ _,by simpa using hI,pt2⟩ (λb hb=>?_) (by simp) (λs' acc hm XO=>?_) (by rw[hsz,Ζ3];omega)
 ·show b < (s1.heap.push 1e0).objs.size;rw[ac3];simp only[Ε,Θ,ϝ] at hb;rcases hb with rfl|rfl
  ·exact Κ3 _
  ·exact Ι8 XW
 ·have ea:acc=XA.reverse.toArray:=by
   apply Array.ext_getElem?;intro j;by_cases hj:j < XA.length
   ·obtain⟨v,hv⟩:∃v,acc[j]?=some v:=⟨_,Γ1 (by rw[XO.1,hsz];exact hj)⟩;have:=XO.2 j v hv;rw[hv,<- this];simp only[Η,List.getElem?_toArray];rw[List.getElem?_reverse hj]
   ·rw[Array.getElem?_eq_none (by rw[XO.1,hsz];omega),Array.getElem?_eq_none (by simp;omega)]
  subst ea;have I3:XC X Xy σ H1 s':=by
   obtain⟨h',g',d',tk',os'⟩:=s';obtain⟨m1,m2,m3,m4,m5⟩:=hm;have e2:g'=s1.gens:=m2;have e3:d'=s1.drawn:=m3;have e4:os'=s1.os:=m4;subst e2 e3 e4;exact XC.P2 (s:={s1 with heap:=s1.heap.push 1e0,toks:=tk}) I2 (t':=tk') (ch:=[s1.heap.objs.size]) (λb hb=>by rw[show b=s1.heap.objs.size by simpa using hb];exact I1.IP (Ζ _) (I1.XF.fresh (Ζ _))) m1
  have I4:=I3.laid (t':=s'.toks) (λb o e=>Γ _ e) (Ζ _) (show c0 X.prog X.w _ (s'.heap.push {cls:=.type "tuple",data:=.seq XA.reverse.toArray}) s'.heap.objs.size 5e0 from ⟨by rw[List.length_reverse];exact hz,XA.reverse,rv.reverse,IsTup.new _ _⟩);exact⟨.ref _,_,I4,rfl,q _ (I3.XF.fresh (Ζ _))⟩
def Lm{K:q0B}{ta:TA}{σ:St}{H:Hp}{Q:VK}:HV K ta σ H Q=ta σ H λvs H1=>∃a xs,vs=[.ref a]/\cJ K H1 a xs/\1<=xs.length/\xs.length<=1000/\∀q,H1 q=none->Q (.ref q) (Xz H1 q 5e0):=rfl
end
section
variable{X:Cx}{tg:Expr}
end
end L2
namespace HT
open PySem PyProof.Rows
section
variable{prog:Program}{w:World}{A:Around}{E:q0A}{s:Shared}
theorem pR{t sl:Addr}{items:Array Value}{vl vu:Value}{lo hi:Option Int}{Q:q0A}(ht:IsTup s.heap t items)(hs:s.heap.IsSliceOf sl vl vu .none)(pl:IsPart vl lo)(pu:IsPart vu hi)(hw:fG items.size 0 lo=0/\fG items.size items.size hi=items.size)(h:Q (.ref t) s):wpAny (model prog w) A (getItem (.ref t) (.ref sl)) Q E s:=by
 obtain⟨os,ZL,ZZ,ZI⟩:=id hs;have hTs:s.TypeIs (.ref sl) "slice":=⟨os,ZL,ZZ⟩;unfold getItem
 try with_reducible refine Β8 ?_
 first|refine Α (Β ?_)|skip
 refine Α (wpAny_sequenceKey ht.typeIs (by decide) ?_);refine Α (Β2 (name:=Str.ofString "__getitem__") ht.typeIs Α3 (Α9 Α3 ht.typeIs entry_tuple_getitem ?_ (args_tuple_getitem _ _)));show wpAny _ _ (Builtin.Tuple.tupleItemsOf (.ref t) >>= _) _ _ s;refine Α (tupleItemsOf_ ht ?_);refine Α (Ε8 hTs ?_);rw[if_pos (by decide)];refine Α (l7 hs pl pu ?_);show wpAny _ _ (if (((fG items.size 0 lo:Nat):Int)==0&&(1:Int)==1&&(fG items.size items.size hi - fG items.size 0 lo)==items.size)=true then _ else _) _ _ s;rw[if_pos (by rw[hw.1,hw.2];simp)];refine Α ?_;show wpAny _ _ (typeOf (.ref t) >>= λb=>_) _ _ _;refine Α (Ε8 ht.typeIs ?_);refine Β ?_;rw[if_pos (by decide)];refine Α (wpAny_rule ?_);exact Β ⟨_,rfl,Β h⟩
end
end HT
namespace L2
open PySem PySem.Spec PyProof.Rows
mutual
example:=[some k,(HT.fG xs.length 0 lo=0/\HT.fG xs.length xs.length hi=xs.length),(by simpa using e')]
variable{a pt:Addr}{e:Int×Value}{k:Key}{ks:List Key}{ps:List Nat}{n:Nat}{Q:Option Value->Shared->Prop}{t:SetTable}{v:Value}{w:World}
def Up:V->Option Int->Option Int->Hp->VK->Prop:=λx lo hi H Q=>aU x λa=>sQ (H a) λxs =>
 (1e0->Q (.ref a) H)/\(¬ 1e0->∀p,H p=none->Q (.ref p) (Xz H p (.tup (fK xs lo hi))))
def jQ{X:Cx}:Ny X Up:=by
 intro Xy s σ H x v vl vu lo hi sl Q I rx hs pl pu h;obtain⟨a,rfl,h1⟩:=aN h;obtain⟨xs,ea,q1,q2⟩:=y4 h1;by_cases hw:HT.fG xs.length 0 lo=0/\HT.fG xs.length xs.length hi=xs.length
 ·cases rx;obtain⟨XA,r,ht,hz⟩:=I.tuple (cJ.of ea);have hlen:XA.toArray.size=xs.length:=by rw[Η];exact r.length.symm
  exact⟨"tuple",_,Α3.lookup,ht.typeIs,HT.pR ht hs pl pu (by rw[hlen];exact hw) ⟨.ref a,H,I,rfl,q1 hw⟩⟩
 ·exact MO Xy s σ H (.ref a) v vl vu lo hi sl Q I rx hs pl pu ⟨a,xs,rfl,cJ.of ea,hw,q2 hw⟩
def Km:R2:=Gi
def iV{X:Cx}:i9 X (binaryOp .Add) Km:=Pe
theorem DM{xs:List V}{XA:List Value}(r:XD xs XA):∀js:List Nat,∃ys,XD ys (js.filterMap λx=>XA.toArray[x]?)/\(∀y∈ys,y∈xs)/\ys.length<=js.length
 | []=>⟨[],.nil,by simp,by simp⟩
 | j::js=>by
  obtain⟨ys,h1,h2,h3⟩:=DM r js;cases e:xs[j]? with
  | none =>
   have e':=r.none_of e;refine⟨ys,?_,h2,by simp only[Κ];omega⟩;rw[List.filterMap_cons_none 2e0];exact h1
  | some x =>
   obtain⟨u,e',ru⟩:=r.get e;refine⟨x::ys,?_,λy hy=>?_,by simp only[Κ];omega⟩
   ·rw[List.filterMap_cons_some 2e0];exact .cons ru h1
   ·rcases Ε.mp hy with rfl|hy
    ·exact Φ e
    ·exact h2 y hy
theorem Jy{lo hi:Option Int}{k:Int}(h:0 < k)(n:Nat):(sliceRange (sliceBounds lo hi 0e0 n).1 (sliceBounds lo hi 0e0 n).2.1 (sliceBounds lo hi 0e0 n).2.2).length<=n:=by
 have a1:0<=(sliceBounds lo hi 0e0 n).1:=by
  cases lo with
  | none=>simp[sliceBounds,h]
  | some i=>simp only[sliceBounds,Option.getD_some,show k > 0 from h,if_true];omega
 have a2:(sliceBounds lo hi 0e0 n).2.1<=n:=by
  cases hi with
  | none=>simp[sliceBounds,h]
  | some i=>simp only[sliceBounds,Option.getD_some,show k > 0 from h,if_true];omega
 have a3:(sliceBounds lo hi 0e0 n).2.2=k:=rfl;generalize sliceBounds lo hi 0e0 n=z at *;obtain⟨b,c,d⟩:=z;simp only at a1 a2 a3;subst a3;unfold sliceRange;simp only[Δ,List.length_range,show d > 0 from h,if_true];split
 ·next hl =>
  have:(c - b+d - 1) / d<=c - b:=by
   refine Int.lt_add_one_iff.mp ?_;refine Int.ediv_lt_of_lt_mul h ?_;have m:(c - b) * 1<=(c - b) * d:=Int.mul_le_mul_of_nonneg_left (by omega) (by omega);rw[Int.add_mul];generalize (c - b) * d=y at *;omega
  omega
 ·simp
end
section
mutual
example:=[some m,.Slice lo hi (some st) p2]
variable{X:Cx}
def VS(K:q0B)(te:TE)(tl th ts:TO):TE:=λσ H Q=>te σ H λx H1=>tl σ H1 λ_ H2=>th σ H2 λ_ H3=>ts σ H3 λk H4=>∃a xs m,x=.ref a/\c5 K H4 a xs/\k=some m/\0 < m/\∀(ys:List V) p,(∀y∈ys,y∈xs)->ys.length<=xs.length->H4 p=none->Q (.ref p) (Xz H4 p (.lst ys))
theorem Jq{e:Expr}{te:TE}{lo hi:Option Expr}{st:Expr}{tl th ts:TO}{p2 pos:Pos}(he:PE X e te)(hl:PO X lo tl)(hu:PO X hi th)(hs:PO X (some st) ts):PE X (.Subscript e 1e0 pos) (VS X.K te tl th ts):=by
 intro Xy s σ H Q I h;refine Subscript_ (thn (he Xy s σ H _ I h) λv s1 ⟨x,H1,I1,r1,q1⟩=>?_);refine wpAny_Slice (thn (hl Xy s1 σ H1 _ I1 q1) λvl s2 ⟨l,H2,I2,pl,q2⟩=>thn (hu Xy s2 σ H2 _ I2 q2) λvu s3 ⟨u,H3,I3,pu,q3⟩=>thn (hs Xy s3 σ H3 _ I3 q3) λvk s4 ⟨k,H4,I4',pk,q4⟩=>?_);have I4:XC X Xy σ H4 {s4 with heap:=s4.heap.push {cls:=.type "slice",data:=.fields #[vl,vu,vk]}}:=I4'.kept (t':=s4.toks) λb ob q=>Γ _ q;obtain⟨a,xs,m,rfl,hx,rfl,hm,q⟩:=q4;cases r1;obtain⟨XA,r,ht,hz⟩:=I4.list hx;have hlen:=r.length;show wpAny (model X.prog X.w) X.A (subscriptTail e 1e0 (.ref a) (.ref s4.heap.objs.size)) (EP X Xy σ Q) X.xe {s4 with heap:=s4.heap.push {cls:=.type "slice",data:=.fields #[vl,vu,vk]}};refine tail_any (ops:=[.ref a,.ref s4.heap.objs.size]) ht.isList.typeIs slot_list_getitem.lookup ?_ (by with_unfolding_all rfl);refine wpAny_getItem_list_slice ht.isList (Heap.IsSliceOf.new ..) pl pu pk (by intro z;cases z;omega) ?_ (by rw[Η]<;>omega);obtain⟨ys,h1,h2,h3⟩:=DM r (sliceRange (sliceBounds l u 0e0 XA.toArray.size).1 (sliceBounds l u 0e0 XA.toArray.size).2.1 (sliceBounds l u 0e0 XA.toArray.size).2.2);have h4:=Jy (lo:=l) (hi:=u) hm XA.toArray.size;rw[Η] at h4;have h5:ys.length<=xs.length:=by rw[Η] at h3;omega
 refine⟨.ref (s4.heap.push {cls:=.type "slice",data:=.fields #[vl,vu,vk]}).objs.size,_,I4.laid (t':=s4.toks) (o:=.lst ys) (λb ob q=>Γ _ q) (Ζ _) ?_,rfl,q ys _ h2 h5 (I4.XF.fresh (Ζ _))⟩;exact⟨ϕ h5 hz,_,0,h1,Ν _ rfl⟩
end
end
section
variable{fr:List Nat}{tc:TT}{te tl:TE}{σ:St}{H:Hp}{Q:VK}{K:q0B}
end
section
variable{prog:Program}{A:Around}{E:q0A}{s:Shared}
end
section
variable{X:Cx}{pos:Pos}
end
mutual
example:=[]
def lE(i:Nat):TE:=λσ H Q=>jN (σ[i]?).join λv=>Q v H
def Gj(t:TE):TT:=λσ H B=>t σ H λx H'=>JR x λk=>B k H'
def Kc(sp:Sp)(t:TA):TE:=λσ H Q=>t σ H λvs H1=>sp vs H1 Q E0
def CY(C:Addr)(m:Str)(sp:Sp)(ta:TE)(t:TA):TE:=λσ H Q=>ta σ H λx H1=>aU x λa=>i8 C (H1 a) λ_ fs=>fs.lookup m=none/\t σ H1 λvs H2=>sp (.ref a::vs) H2 Q E0
end
section
mutual
example:=[]
variable{X:Cx}{e:Expr}{te ta:TE}{t:TA}{sp:Sp}{C:Addr}{m:Str}
def PE.cV{i:Nat}(h:PE X e (kF i)):PE X e (lE i):=λXy s σ H Q I q=>h Xy s σ H Q I (by
 obtain⟨v,e,q⟩:=dO q;refine⟨v,?_,q⟩;cases z:σ[i]? with
 | none=>rw[z] at e;cases e
 | some o=>rw[z] at e;cases o with
  | none=>cases e
  | some u=>cases e;rfl)
def PT.cT(h:PT X e (Ed te)):PT X e (Gj te):=λXy s σ H Q I q=>h Xy s σ H Q I (by rw[Lj];exact q)
def PE.cC(h:PE X e (HQ sp [] E0 t)):PE X e (Kc sp t):=λXy s σ H Q I q=>h Xy s σ H Q I (by rw[KW];exact q)
def PE.cM(h:PE X e (Ec C m sp [] E0 ta t)):PE X e (CY C m sp ta t):=λXy s σ H Q I q=>h Xy s σ H Q I (by rw[Ld];exact q)
end
end
section
mutual
example:=[]
variable{v:V}{o0 o1 o2 o3 o4 o5 o6:Option V}{σ:St}{H:Hp}{Q:VK}{B:Bool->Hp->Prop}{te ta:TE}{t:TA}{sp:Sp}{C:Addr}{m:Str}
def Wu:lE 0 (some v::σ) H Q=Q v H:=rfl
def Wv:lE 1 (o0::some v::σ) H Q=Q v H:=rfl
def Ww:lE 2 (o0::o1::some v::σ) H Q=Q v H:=rfl
def Wx:lE 3 (o0::o1::o2::some v::σ) H Q=Q v H:=rfl
def Wy:lE 4 (o0::o1::o2::o3::some v::σ) H Q=Q v H:=rfl
def Wz:lE 5 (o0::o1::o2::o3::o4::some v::σ) H Q=Q v H:=rfl
def WA:lE 6 (o0::o1::o2::o3::o4::o5::some v::σ) H Q=Q v H:=rfl
def WB:lE 7 (o0::o1::o2::o3::o4::o5::o6::some v::σ) H Q=Q v H:=rfl
def Rt:Gj te σ H B=te σ H λx H'=>JR x λk=>B k H':=rfl
def Rq:Kc sp t σ H Q=t σ H λvs H1=>sp vs H1 Q E0:=rfl
def Rr:CY C m sp ta t σ H Q=ta σ H λx H1=>aU x λa=>i8 C (H1 a) λ_ fs=>fs.lookup m=none/\t σ H1 λvs H2=>sp (.ref a::vs) H2 Q E0:=rfl
end
end
section
variable{X:Cx}{tg:Expr}
end
section
variable{K:q0B}{te:TE}{g:TG}{tb:TS}{D:Ends}{σ:St}{H:Hp}{xs:List V}
end
section
variable{P:Program}{K:q0B}{mg:q0C}{base:Heap}{N:List Str}{qual:Str}{scope:Scope}{f:Addr}{cd:Value}{A:Around}{outer:List Env}{s0 s s':Shared}{H0 H H':Hp}{E:XK}{Xy:List (Addr×Obj)}{σ:St}{x:Addr}{cls a0:Value}{B h':Heap}
end
section
variable{X:Cx}{Xy:List (Addr×Obj)}{σ:St}{H H':Hp}{s s':Shared}{x C:Addr}{h':Heap}
end
section
variable{M:Model}{A:Around}{E:q0A}{h:Heap}{g:Array GenState}{d:Drawn}{t:Nat}{os:OsState}
end
section
variable{X:Cx}{Xy:List (Addr×Obj)}{σ:St}{H H':Hp}{s s':Shared}{x C Dc:Addr}{bm bmD:List Value}{j:Nat}{n cx:Str}{b0:Stmt}{acG:List Stmt}{np hp:Pos}{ts:TS}{D0:Ends}
end
section
variable{X:Cx}{k:Nat}{f C Dc:Addr}{fd:FuncData}{ps:List Str}{sp:Sp}{Yn:List V}{ds:List Value}{bm bmD:List Value}{i j:Nat}{y n cx fx:Str}{b0:Stmt}{acG:List Stmt}{np hp yp fp cp ap pos:Pos}{ts:TS}{e:Expr}{es:List Expr}{t:TA}
end
section
variable{K:q0B}{M:Model}{A:Around}{E:q0A}{h:Heap}{g:Array GenState}{d:Drawn}{t:Nat}{os:OsState}{n:Str}{y:Option Value}{C:Addr}{bm:List Value}
end
section
variable{K:q0B}{prog:Program}{A:Around}{E:q0A}{h:Heap}{g:Array GenState}{d:Drawn}{t:Nat}{os:OsState}{C:Addr}{bm:List Value}{o:Obj}
def XP(K:q0B)(C a:Addr):Shared->Prop:=λs=>K.In s.heap/\∃o,s.heap.get? a=some o/\o.cls=.ref C
end
section
variable{X:Cx}{C:Addr}{bm:List Value}
end
section
variable{P:Program}{K:q0B}{mg:q0C}{base:Heap}
end
section
variable{n:Prop}{c:V->List V->Prop}{v:V}{r:List V}{D:Ends}{σ:St}{H:Hp}{C:Addr}{E:XK}{t:TA}{sp:Sp}{i j:Nat}{ts:TS}
end
mutual
example:=[Int×Value,(by decide)]
structure nI(w:World)(t:SetTable):Prop where
 led:w.params.followText "set-order"=true\/t.led=true
 rise:t.plain=true->Rising t.place.toList
 dum:t.plain=true->t.dummies = #[]
theorem nI.cH(T:nI w t)(n:Nat):nI w (t.standIn n):=⟨T.led,λe=>absurd (show false=true from e) 1e0,λe=>absurd (show false=true from e) 1e0⟩
def nI.or(T:nI w t)(n:Nat):nI w (t.orStandIn n):=by
 unfold SetTable.orStandIn;split
 ·exact T
 ·exact T.cH n
def LO(T:nI w t)(es:Array 0e0)(h:Int)(x:Value):nI w (layNew t es h x).2.1:=by
 unfold layNew;cases e:t.freeSlot h with
 | none=>exact T.cH _
 | some q =>
  obtain⟨slot,wd⟩:=q;show nI w ((t.put slot).1.orStandIn _);refine nI.or ?_ _;have em:∀hp:t.plain=true,t.slot slot=.empty:=λhp=>by
   unfold SetTable.freeSlot at e;split at e
   ·rename_i j d hq
    obtain⟨h1,rfl⟩:=vC (T.dum hp) _ _ rfl hq;simp only[Option.getD_none,ϒ,Prod.mk.injEq] at e;rw[<- e.1];exact h1
   ·cases e
  refine⟨T.led,λhp=>Ar (T.rise hp) (Fp (em hp)),λhp=>?_⟩;show(if SetTable.has t.dummies slot=true then _ else t.dummies) = #[];rw[T.dum hp,Dj];rfl
theorem zE{f:Nat->Option Nat}:∀(n k:Nat),Rising (((List.range' k n).filterMap λj=>(f j).map (j,·)).map (·.1))/\∀j∈((List.range' k n).filterMap λj=>(f j).map (j,·)).map (·.1),k<=j
 | 0,k=>⟨.nil,λj hj=>by cases hj⟩
 | n+1,k=>by
  obtain⟨h1,h2⟩:=zE (f:=f) n (k+1);rw[List.range'_succ,Η2];cases e:f k with
  | none=>exact⟨h1,λj hj=>Nat.le_of_succ_le (h2 j hj)⟩
  | some v =>
   refine⟨.cons (λj hj=>h2 j hj) h1,λj hj=>?_⟩;rcases Ε.mp hj with rfl|hj
   ·exact Ζ _
   ·exact Nat.le_of_succ_le (h2 j hj)
def Fm(T:nI w t)(es:Array 0e0)(n:Nat):nI w (relayAll t es n).2.1:=by
 unfold relayAll;cases e:t.relaid (es.map (·.1)) n with
 | none=>exact T.cH _
 | some q =>
  obtain⟨t',order⟩:=q;dsimp only;split
  ·unfold SetTable.relaid SetTable.laid at e;cases el:SetTable.layClean (SetTable.sizeAbove n - 1) (es.map (·.1)) with
   | none=>rw[el] at e;cases e
   | some ow =>
    rw[el] at e;simp only[Option.bind_eq_bind,Option.bind_some,Option.pure_def,ϒ,Prod.mk.injEq] at e;obtain⟨rfl,_⟩:=e;refine⟨T.led,λ_=>?_,λ_=>rfl⟩;have:=(zE (f:=λj=>ow.getD j none) (SetTable.sizeAbove n - 1+1) 0).1;rw[<- List.range_eq_range'] at this;exact this
  ·exact T.cH _
end
section
variable{P:Program}{A:Around}{E:q0A}{s:Shared}
end
section
variable{P:Program}{A:Around}{R:Result->Shared->Prop}{it:Addr}{fp wr:List Addr}{Gs:Array GenState->Array GenState->Prop}{Pi:Nat->Value->Prop}{St:Nat->Shared->Prop}
end
section
variable{P:Program}{A:Around}{E:q0A}{s:Shared}
def xS{led:Bool}(h:w.params.followText "set-order"=true\/led=true):nI w (.fresh 0 0 led):=⟨h,λ_=>.nil,λ_=>rfl⟩
end
section
variable{P:Program}{A:Around}{E:q0A}{s:Shared}{it:Addr}{es:Array (Int×Value)}{ep i:Nat}
def FO{src:Source}{Q:Nat->Shared->Prop}(hn:n≠0)(h:∀k d',k < n->Q k {s with drawn:=d'}):wpAny (model P w) A (choose src n) Q E s :=
 λ_ _ _=>⟨hn,h _ _ (Nat.mod_lt _ (Nat.pos_of_ne_zero hn))⟩
theorem HX{α:Type}:∀(n:Nat) (xs:List α) (s:Shared) {Q:List α->Shared->Prop},n=xs.length->(∀ys d',ys.Perm xs->Q ys {s with drawn:=d'})->wpAny (model P w) A (drawOrder n xs) Q E s
 | 0,xs,s,Q,e,h=>by
  have:xs=[]:=Ζ7.mp e.symm;subst this;unfold drawOrder;exact Β (h [] s.drawn (.refl _))
 | n+1,[],s,Q,e,h=>by cases e
 | n+1,x::xs,s,Q,e,h=>by
  unfold drawOrder;refine Α (FO (by simp) λk d' hk=>?_);have hx:(x::xs)[k]?=some (x::xs)[k]:=Μ hk;rw[hx];dsimp only;refine Α (HX n ((x::xs).eraseIdx k) _ ?_ λys d2 hp=>Β ?_)
  ·rw[List.length_eraseIdx];split
   ·rw[<- e];rfl
   ·omega
  ·exact h _ _ ((hp.cons _).trans (qO hk))
end
section
mutual
example:=[(by simp),.ref it,(by omega),model P w,Β ?_,Int×Value,Α (Β0 e1 e3 e4 (Β ?_)),Β0 e1 e3 e4 ?_,Β (Α (wpAny_fieldsOf i1 i3 ?_)),Α9 b9 ki.ty iK ?_ (jC _),(setEntries a >>= λ_=>_),(λh=>hb (by simp[h])),List.range es.size,rawInt (XT:Nat),oN w a es ep,rawInt 0,(Α (Λ0 4e0)),es.size > 1,!w.params.followText "set-order"&&(!t.plain&&decide 7e1),w.params.setOrder a ep,Int.toNat (ep:Nat),Θ6 (Β7 i3 _),Β4 ..,!t.plain&&decide 7e1,(ϙ ?_ (by size_fits)),(Ζ2 (a:=Value.none) (by first|rfl|(simp only[firstArgMember];rfl)) 4e2),(Ι5 (T:="StopIteration") (b:=true) ⟨_,Ν _ rfl,rfl⟩ (show _ from isSubtype_stop) ?_),((pure (Value.ref a,([]:List Value)):Sem _) >>= λz=>Builtin.Frozenset.addrOf z.1),4e2,(if w.params.followText "set-order"=true then _ else _),Α9 F.slot_set_iter x.ty nU ?_ (F.args_set_iter_1 _),(newExc (.type "StopIteration") [] >>= λ_=>_),(seqItems? (.ref pt) >>= λ_=>_),wpAny_seqItems i4 i5 ?_,Β (wpAny_throw ?_),rawInt ((i:Int)+1),(by rw[oO];exact hi),Int.toNat (sl:Nat),wpAny_handled ?_,pyIter (.ref a),(Α (Α (Β0 e1 e3 e4 (Β 4e0))))]
variable{P:Program}{A:Around}{E:q0A}{s:Shared}{it:Addr}{es:Array 5e0}{ep i:Nat}
def dY(w:World)(h:Heap)(a:Addr)(es:Array 5e0)(ep:Nat)(t:SetTable):Prop:=∃o,h.get? a=some o/\o.ExactSet/\o.data=.set es ep t/\t.fits es.size=true/\nI w t
def dY.to{h h':Heap}(x:dY w h a es ep t)(k:∀o,h.get? a=some o->h'.get? a=some o):dY w h' a es ep t:=let ⟨o,e,r⟩:=x;⟨o,k _ e,r⟩
def dY.lt{h:Heap}(x:dY w h a es ep t):a < h.objs.size:=let ⟨_,e,_⟩:=x;Ο e
def dY.ty(x:dY w s.heap a es ep t):s.TypeIs (.ref a) "set":=let ⟨o,e,c,_⟩:=x;⟨o,e,c.1⟩
def kQ(w:World)(es:Array 5e0)(t:SetTable):Prop:=w.params.followText "set-order"=false/\t.plain=false/\es.size > 1
theorem JD{Q:q0A}(x:dY w s.heap a es ep t)(hd:kQ w es t)(hsz:es.size < scanBound)(q:∀(ps:List Nat) d',ps.Perm 2e1->Q (.ref (s.heap.objs.size+1)) {s with heap:=(s.heap.push {cls:=.type "tuple",data:=.seq (ps.map fun(i:Nat)=>rawInt i).toArray}).push {cls:=.type "set_iterator",data:=.fields #[.ref s.heap.objs.size,.int 0 0,.ref a,.int es.size 0,.int ep 0]},drawn:=d'}):wpAny 3e0 A 9e3 Q E s:=by
 obtain⟨o,e1,e2,e3,e4,T⟩:=id x;refine wpAny_pyIter_slot x.ty F.slot_set_iter 0e3;unfold Builtin.«frozenset.__iter__»;refine Α ?_;show wpAny _ _ 7e2 _ _ s;refine Α (Β 4e0);refine Α 0e4;refine Α (Α 7e0);refine Α 6e1;refine Β ?_;show wpAny _ _ (if 8e1=true then _ else _) _ _ s;rw[hd.1,hd.2.1,Ε1 hd.2.2];simp only[Bool.not_false,Bool.and_true,if_true];refine Α (HX es.size 2e1 s 0e0 λps d' hp=>?_);have hl:ps.length=es.size:=by have:=hp.length_eq;simpa using this
 refine Α (wpAny_newTuple ?_ (by rw[Δ,hl];exact ϕ (Nat.le_of_lt hsz) (by decide)));have Zt:=Γ {cls:=.type "tuple",data:=.seq (ps.map fun(i:Nat)=>rawInt i).toArray} e1;refine Α (Α (Β0 Zt e3 e4 4e0));have z:(s.heap.push {cls:=.type "tuple",data:=.seq (ps.map fun(i:Nat)=>rawInt i).toArray}).objs.size=s.heap.objs.size+1:=Heap.size_push _ _;refine Α (ϙ (Β ⟨_,rfl,"set_iterator",_,⟨_,Ν _ rfl,rfl⟩,b9.lookup,?_⟩));have:=q ps d' hp;rw[<- z] at this;simpa[rawInt] using this
def pW(h:Heap)(it a:Addr)(i n ep:Nat)(pt:Addr)(ps:List Nat):Prop:=∃o op,h.get? it=some o/\o.cls=.type "set_iterator"/\o.data=.fields #[.ref pt,.int (i:Nat) 0,.ref a,.int (n:Nat) 0,.int (ep:Nat) 0]/\h.get? pt=some op/\op.data=.seq (ps.map fun(i:Nat)=>rawInt i).toArray 0
def pW.to{h h':Heap}(x:pW h it a i n ep pt ps)(k:∀o,h.get? it=some o->h'.get? it=some o)(k2:∀o,h.get? pt=some o->h'.get? pt=some o):pW h' it a i n ep pt ps:=let ⟨o,op,e,c,d,p,r⟩:=x;⟨o,op,k o e,c,d,k2 op p,r⟩
def pW.ty(x:pW s.heap it a i n ep pt ps):s.TypeIs 1e0 "set_iterator":=let ⟨o,_,e,c,_⟩:=x;⟨o,e,c⟩
def JF(ki:pW s.heap it a i es.size ep pt ps)(x:dY w s.heap a es ep t)(np:pt≠it){j:Nat}(hj:ps[i]?=some j)(he:es[j]?=some e)(q:∀h',pW h' it a (i+1) es.size ep pt ps->Heap.SameBut it s.heap h'->Q (some e.2) {s with heap:=h'}):wpAny 3e0 A (pyNext 1e0) Q E s:=by
 obtain⟨oi,op,i1,i2,i3,i4,i5⟩:=id ki;obtain⟨o,e1,e2,e3,e4,T⟩:=id x;unfold pyNext;refine Α (Κ2 (Β2 (name:=Str.ofString "__next__") ki.ty b9
  9e0))
 unfold Builtin.«set_iterator.__next__»;refine Α 8e0;show wpAny _ _ 0e1 _ _ s;refine Α 6e0;rw[if_neg 0e0];show wpAny _ _ 2e3 _ _ s;refine Α 3e3;dsimp only;have hg:(ps.map fun(i:Nat)=>rawInt i).toArray[Int.toNat (i:Nat)]?=some (rawInt (j:Nat)):=by
  rw[Ε5,List.getElem?_toArray,Ψ,hj];rfl
 rw[hg];show wpAny _ _ (setNextDrawn a (Int.toNat (j:Nat)) 0e2 >>= λz=>_) _ _ s;simp only[Ε5];refine Α ?_;unfold setNextDrawn;refine Α 7e0;dsimp only;rw[if_neg 0e0,he];refine Β ?_;show wpAny _ _ (setField 1e0 1 5e3 >>= λ_=>_) _ _ s;refine Α (Θ5 i1 i3 0e0 ?_);refine Β ⟨_,rfl,Β (q _ ⟨_,op,Α5 _ i1 1e2,(Obj.cls_mapFields ..).trans i2,by rw[Β7 i3];simp[rawInt],?_,i5⟩ 2e2)⟩;rw[(Β4 s.heap it _).2 pt np];exact i4
theorem MI(hh:A.handled=none)(ki:pW s.heap it a es.size es.size ep pt ps)(x:dY w s.heap a es ep t)(hl:ps.length=es.size)(q:∀h',Heap.ExtBut it s.heap h'->Q none {s with heap:=h'}):wpAny 3e0 A (pyNext 1e0) Q E s:=by
 obtain⟨oi,op,i1,i2,i3,i4,i5⟩:=id ki;obtain⟨o,e1,e2,e3,e4,T⟩:=id x;unfold pyNext;refine Α (Κ2 (Β2 (name:=Str.ofString "__next__") ki.ty b9
  9e0))
 unfold Builtin.«set_iterator.__next__»;refine Α 8e0;show wpAny _ _ 0e1 _ _ s;refine Α 6e0;rw[if_neg 0e0];show wpAny _ _ 2e3 _ _ s;refine Α 3e3;dsimp only;have hg:(ps.map fun(i:Nat)=>rawInt i).toArray[Int.toNat (es.size:Nat)]?=none:=by
  rw[Ε5,List.getElem?_toArray,Ψ,Δ8 2e0];rfl
 rw[hg];show wpAny _ _ (setField 1e0 0 5e1 >>= λ_=>_) _ _ s;refine Α (Θ5 i1 i3 0e0 ?_);have j1:(s.heap.update it (Obj.mapFields (·.setIfInBounds 0 5e1))).get? it=some (Obj.mapFields (·.setIfInBounds 0 5e1) oi):=Α5 _ i1 1e2;have j3:=Β7 i3 (·.setIfInBounds 0 5e1);show wpAny _ _ (setField 1e0 2 .none >>= λ_=>_) _ _ _;refine Α (Θ5 j1 j3 0e0 ?_);show wpAny _ _ 1e3 _ _ _;refine Α ?_;simp only[newExc,newTuple];refine Α 8e2;refine Α (m:=firstArgMember _ _) 5e2
 unfold raiseNew;refine Α 8e3;rw[show A.in1.handled=none from hh];refine Α 4e3;refine Α 6e2;exact Β (q _ ((((Β4 ..).trans 2e2).extBut.push _).push _))
def JI{Q:q0A}(ki:pW s.heap it a i n ep pt ps)(h:Q 1e0 s):wpAny 3e0 A (pyIter 1e0) Q E s:=by
 refine wpAny_pyIter_slot ki.ty jR (Α9 jR ki.ty qA ?_ (rP _));show wpAny _ _ (ret 1e0) _ _ s;exact Β ⟨_,rfl,"set_iterator",_,ki.ty,b9.lookup,h⟩
def BZ(es:Array 5e0)(ps:List Nat)(i:Nat)(e:Int×Value):Prop:=∃j,ps[i]?=some j/\es[j]?=some e
theorem EI(hp:ps.Perm 2e1)(hi:i < es.size):∃e,BZ es ps i e:=by
 have hl:ps.length=es.size:=by have:=hp.length_eq;simpa using this
 have h1:ps[i]?=some (ps[i]' 2e0):=Μ 2e0;have h2:=Κ1.mp (hp.mem_iff.mp (Κ5 (l:=ps) (n:=i) 2e0));exact⟨_,_,h1,Γ1 h2⟩
def FK(hh:A.handled=none)(it a pt:Addr)(ne:a≠it)(np:pt≠it)(es:Array 5e0)(ep:Nat)(t:SetTable)(ps:List Nat)(hp:ps.Perm 2e1) : Walks P w A it [it,a,pt] [it] es.size (λi v=>∃e,BZ es ps i e/\v=e.2) (λi h=>pW h it a i es.size ep pt ps/\dY w h a es ep t) where
 sub:=λb hb=>by simp at hb;simp[hb]
 frame:=λ_ _ _ st hk=>⟨st.1.to (λo e=>hk it 0e0 o e) (λo e=>hk pt 0e0 o e),st.2.to λo e=>hk a 0e0 o e⟩
 item:=λi s Q E hi st hQ=>by
  obtain⟨e,j,h1,h2⟩:=EI hp hi;exact JF st.1 st.2 np h1 h2 λh' k2 sb=>hQ _ h' s.toks ⟨e,⟨j,h1,h2⟩,rfl⟩ ⟨k2,st.2.to λo e=>sb.extBut a o ne e⟩ λb o hb e=>sb.extBut b o 1e1 e
 done:=λs Q E st hQ=>MI hh st.1 st.2 (by have:=hp.length_eq;simpa using this) λh' he=>hQ h' s.toks λb o hb e=>he b o 1e1 e
 self:=λ_ _ _ _ st hQ=>JI st.1 hQ
theorem Hq(T:nI w t)(nd:¬ kQ w es t)(c:w.params.followText "set-order"=false)(hz:t.place.size=es.size):Rising t.place.toList:=by
 cases hq:t.plain with
 | true=>exact T.rise hq
 | false =>
  have:¬ es.size > 1:=λz=>nd ⟨c,hq,z⟩;have hl:t.place.toList.length<=1:=by rw[Γ9];omega
  match e:t.place.toList,hl with
  | [],_=>exact .nil
  | [_],_=>exact List.pairwise_singleton _ _
theorem Fs(hr:Rising t.place.toList):SetTable.below t.place 0=0:=by
 obtain⟨h1,h2,h3⟩:=qL t.place 0 hr;by_cases z:SetTable.below t.place 0=0
 ·exact z
 ·have:=h1 0 2e0 2e0;omega
theorem Fq(hr:Rising t.place.toList){j:Nat}(e:t.place[i]?=some j):SetTable.below t.place (j+1)=i+1:=by
 obtain⟨hi,ej⟩:=Ι9.mp e;obtain⟨h1,h2,h3⟩:=qL t.place (j+1) hr;by_cases c:SetTable.below t.place (j+1)<=i
 ·have:=h2 i hi c;omega
 ·by_cases d:i+1 < SetTable.below t.place (j+1)
  ·have h4:i+1 < t.place.size:=by omega
   have h5:=h1 (i+1) h4 d;have h6:=List.pairwise_iff_getElem.mp hr i (i+1) (by simpa using hi) (by simpa using h4) 2e0;simp at h6;omega
  ·omega
theorem vK{sl:Nat}{Q:Option (Value×Nat)->Shared->Prop}(x:dY w s.heap a es ep t)(nd:¬ kQ w es t)(hs:Em w t i sl)(q1:∀e XT,4e1[i]?=some e->Em w t (i+1) XT->Q (some (e.2,XT)) s)(q0:4e1[i]?=none->Q none s):wpAny 3e0 A (setNext a sl i ep) Q E s:=by
 obtain⟨o,e1,e2,e3,e4,T⟩:=id x;unfold setNext;refine Α 7e0;dsimp only;refine Α 6e1;show wpAny _ _ 9e2 _ _ s;by_cases c:w.params.followText "set-order"=true
 ·rw[if_pos c,if_neg 0e0];unfold setWalk;refine Α (Α 7e0);dsimp only;refine Α 6e1;show wpAny _ _ 9e2 _ _ s;rw[if_pos c];refine Α (Λ0 (Β 4e0));show Q (Option.map _ (pickOrder 9e1 es)[i]?) s;have eo:oN w a es ep=pickOrder 9e1 es:=if_pos c;rw[eo] at q1 q0;cases h:(pickOrder 9e1 es)[i]? with
  | none=>exact q0 h
  | some e=>exact q1 e sl h (.inl c)
 ·rw[if_neg c];have eo:oN w a es ep=es:=if_neg c;rw[eo] at q1 q0;have hb:SetTable.below t.place sl=i:=hs.resolve_left c;have hl:t.led=true:=T.led.resolve_left c;show wpAny _ _ (if 3e2=true then _ else _) _ _ s;have c':w.params.followText "set-order"=false:=by simpa using c
  have nd':3e2=false:=by
   cases hq:t.plain with
   | true=>rfl
   | false =>
    by_cases z:es.size > 1
    ·exact absurd ⟨c',hq,z⟩ nd
    ·simp only[Γ2 z,Bool.and_false]
  rw[nd'];simp only[Δ2,Η8];show wpAny _ _ ((if (!t.led&&!es.isEmpty)=true then unsupported "set:maker-not-led" else pure ()) >>= λ_=>_) _ _ s;rw[hl];simp only[Bool.not_true,Bool.false_and,Δ2,Η8];refine Α (Β 4e0);rw[hb];have hz:t.place.size=es.size:=by
   have:=e4;unfold SetTable.fits at this;simp only[Β3,beq_iff_eq] at this;exact this.1
  by_cases d:i < es.size
  ·have h1:es[i]?=some es[i]:=Γ1 d;have h2:t.place[i]?=some (t.place[i]' 2e0):=Γ1 2e0;rw[h1,h2];exact q1 _ _ h1 (.inr (Fq (Hq T nd c' hz) h2))
  ·have h1:es[i]?=none:=Array.getElem?_eq_none 2e0;rw[h1];exact q0 h1
theorem JE{Q:q0A}(x:dY w s.heap a es ep t)(nd:¬ kQ w es t)(q:Q (.ref s.heap.objs.size) {s with heap:=s.heap.push {cls:=.type "set_iterator",data:=.fields #[.int 0 0,.int 0 0,.ref a,.int es.size 0,.int ep 0]}}):wpAny 3e0 A 9e3 Q E s:=by
 obtain⟨o,e1,e2,e3,e4,T⟩:=id x;refine wpAny_pyIter_slot x.ty F.slot_set_iter 0e3;unfold Builtin.«frozenset.__iter__»;refine Α ?_;show wpAny _ _ 7e2 _ _ s;refine Α (Β 4e0);refine Α 0e4;refine Α (Α 7e0);refine Α 6e1;refine Β ?_;show wpAny _ _ (if 8e1=true then _ else _) _ _ s;have nd':8e1=false:=by
  cases hc:w.params.followText "set-order" with
  | true=>rfl
  | false =>
   cases hq:t.plain with
   | true=>rfl
   | false =>
    by_cases z:es.size > 1
    ·exact absurd ⟨hc,hq,z⟩ nd
    ·simp only[Γ2 z,Bool.and_false]
 rw[nd'];simp only[Δ2,Η8];refine Α (Β (Α 6e0));refine Α (ϙ (Β ⟨_,rfl,"set_iterator",_,⟨_,Ν _ rfl,rfl⟩,b9.lookup,by simpa[rawInt] using q⟩))
def JH(ki:Ah w s.heap it a i es.size ep t)(x:dY w s.heap a es ep t)(nd:¬ kQ w es t)(he:4e1[i]?=some e)(q:∀h',Ah w h' it a (i+1) es.size ep t->Heap.SameBut it s.heap h'->Q (some e.2) {s with heap:=h'}):wpAny 3e0 A (pyNext 1e0) Q E s:=by
 obtain⟨oi,sl,i1,i2,i3,i4⟩:=id ki;obtain⟨o,e1,e2,e3,e4,T⟩:=id x;have lt:i < es.size:=by have:=(Ι9.mp he).1;rw[oO] at this;exact this
 unfold pyNext;refine Α (Κ2 (Β2 (name:=Str.ofString "__next__") ki.ty b9
  9e0))
 unfold Builtin.«set_iterator.__next__»;refine Α 8e0;show wpAny _ _ 0e1 _ _ s;refine Α 6e0;rw[if_neg 0e0];show wpAny _ _ (setNext a 7e3 (Int.toNat (i:Nat)) 0e2 >>= λz=>_) _ _ s;simp only[Ε5];refine Α ?_;refine vK x nd i4 (λe' XT he' Y9=>?_) λz=>by rw[z] at he;cases he
 rw[he] at he';cases he';show wpAny _ _ (setField 1e0 0 3e1 >>= λ_=>_) _ _ s;refine Α (Θ5 i1 i3 0e0 ?_);have j1:(s.heap.update it (Obj.mapFields (·.setIfInBounds 0 3e1))).get? it=some (Obj.mapFields (·.setIfInBounds 0 3e1) oi):=Α5 _ i1 1e2;have j3:(Obj.mapFields (·.setIfInBounds 0 3e1) oi).data=.fields #[.int (XT:Nat) 0,.int (i:Nat) 0,.ref a,.int (es.size:Nat) 0,.int (ep:Nat) 0]:=by rw[Β7 i3];simp[rawInt]
 show wpAny _ _ (setField 1e0 1 5e3 >>= λ_=>_) _ _ _;refine Α (Θ5 j1 j3 0e0 ?_);refine Β ⟨_,rfl,Β (q _ ⟨_,XT,Α5 _ j1 (Θ6 (Β7 j3 _)),((Obj.cls_mapFields ..).trans (Obj.cls_mapFields ..)).trans i2,by rw[Β7 j3];simp[rawInt],Y9⟩ ((Β4 ..).trans 2e2))⟩
theorem MJ(hh:A.handled=none)(ki:Ah w s.heap it a es.size es.size ep t)(x:dY w s.heap a es ep t)(nd:¬ kQ w es t)(q:∀h',Heap.ExtBut it s.heap h'->Q none {s with heap:=h'}):wpAny 3e0 A (pyNext 1e0) Q E s:=by
 obtain⟨oi,sl,i1,i2,i3,i4⟩:=id ki;obtain⟨o,e1,e2,e3,e4,T⟩:=id x;unfold pyNext;refine Α (Κ2 (Β2 (name:=Str.ofString "__next__") ki.ty b9
  9e0))
 unfold Builtin.«set_iterator.__next__»;refine Α 8e0;show wpAny _ _ 0e1 _ _ s;refine Α 6e0;rw[if_neg 0e0];show wpAny _ _ (setNext a 7e3 (Int.toNat (es.size:Nat)) 0e2 >>= λz=>_) _ _ s;simp only[Ε5];refine Α ?_;refine vK x nd i4 (λe' XT he' Y9=>by
  have:=(Ι9.mp he').1;rw[oO] at this;omega) λ_=>?_
 show wpAny _ _ (setField 1e0 2 .none >>= λ_=>_) _ _ s;refine Α (Θ5 i1 i3 0e0 ?_);show wpAny _ _ 1e3 _ _ _;refine Α ?_;simp only[newExc,newTuple];refine Α 8e2;refine Α (m:=firstArgMember _ _) 5e2
 unfold raiseNew;refine Α 8e3;rw[show A.in1.handled=none from hh];refine Α 4e3;refine Α 6e2;exact Β (q _ (((Β4 ..).extBut.push _).push _))
def FL(hh:A.handled=none)(it a:Addr)(ne:a≠it)(es:Array 5e0)(ep:Nat)(t:SetTable)(nd:¬ kQ w es t) : Walks P w A it [it,a] [it] es.size (λi v=>∃e,4e1[i]?=some e/\v=e.2) (λi h=>Ah w h it a i es.size ep t/\dY w h a es ep t) where
 sub:=λb hb=>by simp at hb;simp[hb]
 frame:=λ_ _ _ st hk=>⟨st.1.to λo e=>hk it 0e0 o e,st.2.to λo e=>hk a 0e0 o e⟩
 item:=λi s Q E hi st hQ=>JH st.1 st.2 nd (Γ1 6e3) λh' k2 sb=>hQ _ h' s.toks ⟨_,Γ1 6e3,rfl⟩ ⟨k2,st.2.to λo e=>sb.extBut a o ne e⟩ λb o hb e=>sb.extBut b o 1e1 e
 done:=λs Q E st hQ=>MJ hh st.1 st.2 nd λh' he=>hQ h' s.toks λb o hb e=>he b o 1e1 e
 self:=λ_ _ _ _ st hQ=>ML st.1 hQ
end
end
mutual
example:=[]
def sI:Value->Key
 | .int i _=>.inl i
 | .str x _=>.inr x
 | _=>.no
def sJ(h:j0 k v=true):sI v=k:=by
 rcases dD h with⟨i,t,rfl,rfl⟩|⟨x,t,rfl,rfl⟩|⟨rfl,rfl⟩<;>rfl
def zP(h:j0 k v=true):v.scannable=true:=by
 rcases dD h with⟨i,t,rfl,rfl⟩|⟨x,t,rfl,rfl⟩|⟨rfl,rfl⟩<;>rfl
def tK(P:Program)(w:World)(a:Addr)(ks:List Key)(h:Heap):Prop:=∃(o:Obj) (es:Array (Int×Value)) (ep:Nat) (t:SetTable),h.get? a=some o/\o.ExactSet/\o.data=.set es ep t/\ElemsOf (aR P w) es.toList/\es.size < scanBound/\t.fits es.size=true/\nI w t/\(es.toList.map λe=>sI e.2).Perm ks
def tK.keep{P:Program}{h h':Heap}(x:tK P w a ks h)(k:∀o,h.get? a=some o->h'.get? a=some o):tK P w a ks h':=by
 obtain⟨o,es,ep,t,e,r⟩:=x;exact⟨o,es,ep,t,k o e,r⟩
end
section
mutual
example:=[SetTable.grown XU.size,(aR P w).hash k,model P w,some true,Obj.putSet XU t2,Obj.putSet es3 t3,(if b=true then t1 else {t1 with plain:=false}),Int×Value,(by decide)]
variable{P:Program}{A:Around}{E:q0A}{s:Shared}
theorem Ig{o:Obj}{es:Array 7e0}{ep:Nat}(ho:s.heap.get? a=some o)(hex:o.ExactSet)(hd:o.data=.set es ep t)
    {XU:Array 7e0} {t2:SetTable}  (hel:ElemsOf (aR P w) XU.toList) (hb:XU.size < scanBound) (hf:t2.fits XU.size=true) (T:nI w t2) (hp:(XU.toList.map λe=>sI e.2).Perm ks)
    {Yx:Bool} {R:Option Bool->Shared->Prop} (h:∀h',Heap.SameBut a s.heap h'->tK P w a ks h'->R 3e0 {s with heap:=h'})
    (hgw:∀(b:Bool) {s₁:Shared} {Q':Unit->Shared->Prop},Q' () s₁->wpAny 2e0 A (match b with|true=>rule "set.scan.the-table-gave-way" | false=>pure ()) Q' E s₁) :
    wpAny 2e0 A (do
        storeSet a XU t2
        if (!Yx&&t2.tooFull)=true then do
          let __discr:=relayAll t2 XU 0e0
          match __discr with
          | (es,t,aaA)=>do
            (match aaA with|true=>rule "set.scan.the-table-gave-way" | false=>pure ())
            storeSet a es t
            pure 3e0
        else pure 3e0) R E s:=by
  refine Α (wpAny_storeSet_of ho hd ?_ (fits_of_scanBound hb));have hg:(s.heap.update a 4e0).get? a=some {o with data:=.set XU (ep+1) t2}:=by
    have:=Α5 4e0 ho (by rw[putSet_of XU t2 hd];rfl);rw[putSet_of XU t2 hd] at this;exact this
  have sb:=Β4 s.heap a 4e0;split
  · have q1:=relayAll_perm t2 XU 0e0;have q2:=relayAll_fits t2 XU 0e0;have q3:=Fm T XU 0e0;generalize relayAll t2 XU 0e0=Y at q1 q2 q3 ⊢;obtain⟨es3,t3,aaA⟩:=Y;dsimp only at q1 q2 q3 ⊢;have sz:es3.size=XU.size:=by
      have:=q1.length_eq;simpa using this
    refine Α (hgw _ ?_);refine Α (wpAny_storeSet_of hg rfl ?_ (fits_of_scanBound (by omega)));have hg2:((s.heap.update a 4e0).update a 5e0).get? a=some {o with data:=.set es3 (ep+1+1) t3}:=by
      have:=Α5 5e0 hg (by rw[putSet_of es3 t3 (o:={o with data:=.set XU (ep+1) t2}) rfl];rfl);rw[putSet_of es3 t3 (o:={o with data:=.set XU (ep+1) t2}) rfl] at this;exact this
    exact Β (h _ (sb.trans (Β4 _ a 5e0)) ⟨_,es3,ep+1+1,t3,hg2,hex,rfl,hel.perm q1,by omega,q2,q3,(q1.map _).trans hp⟩)
  · exact Β (h _ sb ⟨_,XU,ep+1,t2,hg,hex,rfl,hel,hb,hf,T,hp⟩)
theorem T8{Q:Bool->Shared->Prop}(hS:tK P w a ks s.heap)(hn:ks.length+1 < scanBound)(YF:j0 k v=true)(h:∀h',Heap.SameBut a s.heap h'->tK P w a (if k∈ks then ks else ks++[k]) h'->∀b,Q b {s with heap:=h'}):wpAny 2e0 A (setAddHashed a v 1e0) Q E s:=by
  obtain⟨o,es,ep,t,ho,hex,hd,hel,hb,hf,T,hp⟩:=hS;have hl:es.size=ks.length:=by have:=hp.length_eq;simpa using this
  have b1:scanBound=4096:=rfl;unfold setAddHashed setAddHashedIn;refine Β8 (Α (Β0 ho hd hf ?_));dsimp only;rw[byScan_of (knd:=aR P w) (zP YF) hb hel];simp only[↓reduceIte];unfold setAddByScan;refine Α ?_;refine Α (wpAny_rule ?_);refine Α (wpAny_setScan_of (knd:=aR P w) YF ho hd hf hel ?_);cases hr:List.findIdx? (λe=>(aR P w).is k e.2) es.toList with
  | some j =>
    dsimp only;obtain⟨hj,hpj,_⟩:=List.findIdx?_eq_some_iff_getElem.mp hr;have hm:k∈ks:=hp.mem_iff.mp (Ϝ.mpr ⟨es.toList[j],Κ5 hj,sJ hpj⟩);rw[if_pos hm] at h;refine Β (Β ?_);exact h s.heap (Heap.SameBut.refl a s.heap) ⟨o,es,ep,t,ho,hex,hd,hel,hb,hf,T,hp⟩ _
  | none =>
    dsimp only;have hm:k∉ks:=λz=>by
      obtain⟨e,he,ek⟩:=Ϝ.mp (hp.mem_iff.mpr z);obtain⟨⟨k',ev,_⟩,_⟩:=hel e he;have h1:=List.findIdx?_eq_none_iff.mp hr e he;have h2:=sJ ev;rw[h2] at ek;subst ek;rw[ev] at h1;cases h1
    rw[if_neg hm] at h;have Ye:=layNew_perm t es 1e0 v;have Zy:=layNew_fits t es 1e0 v;have hsz:t.place.size=es.size:=by
      have:=hf;unfold SetTable.fits at this;simp only[Β3,beq_iff_eq] at this;exact this.1
    have T1:=LO T es 1e0 v;generalize layNew t es 1e0 v=Y at Ye Zy T1 ⊢;obtain⟨XU,t1,Yx,aaA⟩:=Y;dsimp only at Ye Zy T1 ⊢;rw[Array.toList_push] at Ye;have acX:ElemsOf (aR P w) XU.toList:=(hel.push YF (zP YF)).perm Ye;have sz:XU.size=es.size+1:=by
      have:=Ye.length_eq;simpa using this
    have hp1:(XU.toList.map λe=>sI e.2).Perm (ks++[k]):=by
      refine(Ye.map _).trans ?_;rw[Ϙ];refine hp.append ?_;rw[show[((aR P w).hash k,v)].map (λe=>sI e.2)=[sI v] from rfl,sJ YF]
    have hgw:∀(b:Bool) {s₁:Shared} {Q':Unit->Shared->Prop},Q' () s₁->wpAny 2e0 A (match b with|true=>rule "set.scan.the-table-gave-way" | false=>pure ()) Q' E s₁:=λb s₁ Q' hq=>by
      cases b
      · exact Β hq
      · exact wpAny_rule hq
    have fin:∀b:Bool,wpAny 2e0 A (do
        storeSet a XU 6e0
        if (!Yx&&(if b=true then t1 else {t1 with plain:=false}).tooFull)=true then do
          let __discr:=relayAll 6e0 XU 0e0
          match __discr with
          | (es,t,aaA)=>do
            (match aaA with|true=>rule "set.scan.the-table-gave-way" | false=>pure ())
            storeSet a es t
            pure 3e0
        else pure 3e0) (λr s'=>wpAny 2e0 A (match r with|some added=>pure added|none=>setAddHashedIn a v 1e0 99999) Q E s') E s:=λb=>by
      refine Ig ho hex hd acX (by omega) ?_ ?_ hp1 (λh' hs YM=>Β (h h' hs YM _)) hgw
      · cases b
        · exact SetTable.fits_plain_off Zy
        · exact Zy
      · cases b
        · exact⟨T1.led,λe=>absurd (show false=true from e) 8e0,λe=>absurd (show false=true from e) 8e0⟩
        · exact T1
    refine Α (hgw _ ?_);split
    · refine Α ?_;rw[hashByValue_scannable 8 (zP YF)];refine Β ?_;exact fin _
    · refine Α (Β ?_);exact fin true
end
end
noncomputable def g9(val:Nat->Key):Nat->List Key
 | 0=>[]
 | i+1=>if val i∈g9 val i then g9 val i else g9 val i++[val i]
theorem uL(val:Nat->Key):∀i,(g9 val i).length<=i
 | 0=>Ζ _
 | i+1=>by
  have:=uL val i;rw[g9];split
  ·omega
  ·rw[Ι];simp;omega
section
variable{P:Program}{A:Around}{R:Result->Shared->Prop}{it:Addr}{fp wr:List Addr}{Gs:Array GenState->Array GenState->Prop}{Pi:Nat->Value->Prop}{St:Nat->Shared->Prop}
theorem LU(W:WalksS P w A.in1 it fp wr Gs n Pi St)(z:Addr)(hz:z∉fp)(val:Nat->Key)(aaN:∀i v,Pi i v->j0 (val i) v=true)(hn:n < scanBound) : ∀(k i:Nat) (s:Shared),n - i=k->i<=n->St i s->tK P w z (g9 val i) s.heap -> (∀s',Moved (z::wr) Gs s s'->tK P w z (g9 val n) s'.heap->R (.ok (.ret .none)) s')->codeAny (model P w) A (.builtin "set.update.loop" ⟨[.ref z,.ref it],[]⟩) R s:=by
 have zw:z∉wr:=λh=>hz (W.sub _ h);have up:∀b∈wr,b∈z::wr:=λb hb=>Ξ _ hb;intro k
 induction k with
 | zero =>
  intro i s hk hi st hS hR;obtain rfl:i=n:=by omega
  refine Β5 PyProof.Rows.F.entry_set_update_loop ?_;rw[Α4 Κ8 _];show wpAny _ A.in1 (pyNext (.ref it) >>= _) _ _ s;refine Α (W.done s _ _ st λs' hm=>?_);show wpAny _ A.in1 (ret Value.none) _ _ s';exact Β (hR s' (hm.mono up) (hS.keep λo e=>hm.heap z _ zw e))
 | succ k ih =>
  intro i s hk hi st hS hR;have lt:i < n:=by omega
  refine Β5 PyProof.Rows.F.entry_set_update_loop ?_;rw[Α4 Κ8 _];show wpAny _ A.in1 (pyNext (.ref it) >>= _) _ _ s;refine Α (W.item i s _ _ lt st λv s' hP Ym hm=>?_);have hv:=aaN i v hP;have YM:tK P w z (g9 val i) s'.heap:=hS.keep λo e=>hm.heap z _ zw e;show wpAny _ A.in1 (holding [v] (setAdd z v) >>= _) _ _ s';refine Α (Β8 ?_);unfold setAdd;refine Β8 ?_;refine Α ((aR P w).pyHash (k:=val i) hv ?_);have room:(g9 val i).length+1 < scanBound:=by have:=uL val i;omega
  refine T8 (s:={s' with toks:=s'.toks+1}) YM room hv λh' sb hS2 b=>?_;refine Β ⟨Δ7 Κ8 _,ih (i+1) _ (by omega) lt (W.frame _ s' _ _ Ym (Δ3 _) λc hc o e=>?_) hS2 λs2 hm2 hS3=>?_⟩
  ·rw[sb.2 c (λh:c=z=>hz (by rw[<- h];exact hc))];exact e
  ·refine hR s2 (Moved.trans W.gtrans ((hm.mono up).then_heap (Δ3 _) λc o hc e=>?_) hm2) hS3;rw[sb.2 c (λh:c=z=>hc (by rw[h];exact List.mem_cons_self))];exact e
end
section
variable{P:Program}{A:Around}{E:q0A}{s:Shared}
def TY(h:Heap)(l:Addr)(items:Array Value):Prop:=h.IsList l items\/h.IsTuple l items
set_option maxHeartbeats 8000000 in
mutual
example:=[mU led,.ref s.heap.objs.size,(by simp only[Ε,Θ,ϝ,not_or];exact⟨Ρ hb,Ρ (by rw[sz];exact Ι8 hb)⟩),wpAny_runValue ?_,g9 val items.size,ret Value.none,items.size - 0,Γ _ (Γ _ e),(by simp at he),.type "set",hl1.push _]
theorem Ru{l:Addr}{items:Array Value}{val:Nat->Key}{Q:q0A}(hh:A.handled=none)(hl:TY s.heap l items)(aaN:∀(i:Nat) (v:Value),items[i]?=some v->j0 (val i) v=true)(h4:items.size < scanBound)(h:∀(h':Heap) (tk:Nat),tK P w s.heap.objs.size 4e0 h'->(∀b o,b < s.heap.objs.size->s.heap.get? b=some o->h'.get? b=some o)->Q 1e0 {s with heap:=h',toks:=tk}) : wpAny (model P w) A (call 9e0 [.ref l]) Q E s:=by
  obtain⟨c,tl,adW⟩:=Ζ0.mro;have adR:=Ζ0.made;have aaE:=Ζ0.sub;refine wpAny_call (codeAny_of_tree ?_);show wpAny _ _ (callAny 9e0 _) _ _ _;refine Β ⟨Code.quiet_builtin _ (by decide +kernel),Β5 PySem.F.entry_type_call ?_⟩;rw[Around.under_plain (weight_type_call_type "set" [.ref l] []) rfl];have h1:=Ζ0.notType;have h2:=Ζ0.canCreate;have hct:=PySem.F.typeCall_set_1 (.ref l)
  repeat (any_goals (first|assumption|wp_step))
  refine codeAny_mono (E6 (.ref l) (E:=E) (Q₁:=λobj s₁=>∃led:Bool,(w.params.followText "set-order"=true\/led=true)/\obj=.ref s.heap.objs.size/\s₁={s with heap:=s.heap.push 0e0}) λled aaJ=>⟨led,aaJ,rfl,rfl⟩) λr s₁ hr=>?_;cases r with
  | error e=>exact hr
  | ok fl =>
    cases fl with
    | ret obj =>
      obtain⟨led,aaJ,rfl,rfl⟩:=hr;have hS:(s.heap.push 0e0).get? s.heap.objs.size=some 0e0:=Ν _ rfl;have hT:Shared.TypeIs {s with heap:=s.heap.push 0e0} 1e0 "set":=⟨_,hS,rfl⟩;have hli:=Ζ0.init.lookup;have hbi:=Ζ0.init.bind 1e0;have sz:(s.heap.push 0e0).objs.size=s.heap.objs.size+1:=Heap.size_push _ _;have hh3:A.in1.in1.in1.handled=none:=by simp[hh]
      have lS:l < s.heap.objs.size:=by rcases hl with⟨ol,hol,_⟩|⟨ol,hol,_⟩<;>exact Ο hol
      have abV:l≠(s.heap.push 0e0).objs.size:=Ρ (by rw[sz];exact Ι8 lS);have hSf:s.heap.objs.size∉[(s.heap.push 0e0).objs.size,l]:=by
        simp only[Ε,Θ,ϝ,not_or];exact⟨Ρ (by rw[sz];exact Κ3 _),Nat.ne_of_gt lS⟩
      have adZ:=PySem.F.sub_list_set;have adY:=PySem.F.sub_list_frozenset;have ad1:=PySem.F.sub_tuple_set;have ad0:=PySem.F.sub_tuple_frozenset;have YA:(Value.type "list"==Value.type "dict")=false:=by decide
      have adX:(Value.type "tuple"==Value.type "dict")=false:=by decide
      repeat (any_goals (first|assumption|wp_step))
      refine codeAny_mono (codeAny_call_builtin (R:=wants (λr s₂=>r=.none/\∃h' tk,s₂={s with heap:=h',toks:=tk}/\tK P w s.heap.objs.size 4e0 h' /\
          (∀b o,b < s.heap.objs.size->s.heap.get? b=some o->h'.get? b=some o)) E) Ζ0.init.plain PySem.F.entry_set_init (check_set_init_1 hT ?_)) λr₂ s₂ hr₂=>?_
      · rcases hl with hl|hl
        · have hl1:(s.heap.push 0e0).IsList l items:=hl.push _;obtain⟨ol,hol,Zh,nl,hdl⟩:=hl;obtain⟨adG,aaH,ab6,Zo⟩:=ol;simp only at Zh hdl;subst Zh hdl;have ac1:(s.heap.push 0e0).get? l=some ⟨.type "list",aaH,.seq items nl,Zo⟩:=Γ _ hol;unfold Builtin.«set.__init__» noKeywords Builtin.Frozenset.updateFrom;generalize hPI:pyIter=PI;wp_walk;subst hPI;refine wpAny_pyIter_list hl1 ?_;refine Α 3e0;refine LU ((Walks.list hh3 _ l abV items).toS) s.heap.objs.size hSf val aaN h4 6e0 0 _ (by omega) (ϖ _) ⟨⟨_,Ν _ rfl,rfl,rfl⟩,0e1⟩ ⟨_,#[],0,_,Γ _ hS,⟨rfl,rfl,rfl⟩,rfl,λe he=>8e0,by decide,rfl,xS aaJ,.nil⟩ ?hR;intro s' hm YM;obtain⟨h',g',d',tk',os'⟩:=s';have eg:g'=s.gens:=hm.gens;have ed:d'=s.drawn:=hm.drawn;have eo:os'=s.os:=hm.os;subst eg ed eo;show wpAny _ _ _ _ _ _;refine Β ?_;show wpAny _ _ 5e0 _ _ _;refine Β ⟨rfl,h',tk',rfl,YM,λb o hb e=>?_⟩;exact hm.heap b o 2e0 7e0
        · have hl1:(s.heap.push 0e0).IsTuple l items:=hl.push _;obtain⟨ol,hol,Zh,nl,hdl⟩:=hl;obtain⟨adG,aaH,ab6,Zo⟩:=ol;simp only at Zh hdl;subst Zh hdl;have ac1:(s.heap.push 0e0).get? l=some ⟨.type "tuple",aaH,.seq items nl,Zo⟩:=Γ _ hol;unfold Builtin.«set.__init__» noKeywords Builtin.Frozenset.updateFrom;generalize hPI:pyIter=PI;wp_walk;subst hPI;refine wpAny_pyIter_tuple hl1 ?_;refine Α 3e0;refine LU ((Walks.tuple hh3 _ l abV items).toS) s.heap.objs.size hSf val aaN h4 6e0 0 _ (by omega) (ϖ _) ⟨⟨_,Ν _ rfl,rfl,rfl⟩,0e1⟩ ⟨_,#[],0,_,Γ _ hS,⟨rfl,rfl,rfl⟩,rfl,λe he=>8e0,by decide,rfl,xS aaJ,.nil⟩ ?hR2;intro s' hm YM;obtain⟨h',g',d',tk',os'⟩:=s';have eg:g'=s.gens:=hm.gens;have ed:d'=s.drawn:=hm.drawn;have eo:os'=s.os:=hm.os;subst eg ed eo;show wpAny _ _ _ _ _ _;refine Β ?_;show wpAny _ _ 5e0 _ _ _;refine Β ⟨rfl,h',tk',rfl,YM,λb o hb e=>?_⟩;exact hm.heap b o 2e0 7e0
      · cases r₂ with
        | error e=>exact hr₂
        | ok fl₂ =>
          cases fl₂ with
          | ret r =>
            obtain⟨rfl,h',tk,rfl,YM,YQ⟩:=hr₂
            repeat (any_goals (first|assumption|wp_step))
            exact h _ _ YM YQ
          | _=>exact hr₂.elim
    | _=>exact hr.elim
end
end
end L2
namespace L2
open PySem PySem.Spec PyProof.Rows PySem.W
variable{a:Addr}{A:Around}{items:Array Value}{X:Cx}{h:Heap}{H:Hp}{acc vs:List Value}{i:Nat}{P:Program}{Q:PySem.Fin->Shared->Prop}{s:Shared}{W:World}{K:q0B}
section
mutual
example:=[model P w,.ref a,.ref s.heap.objs.size,Γ _ e,load s.heap.objs.size >>= _,h h' tk d' X9.toList hk XO,(by rw[Γ9];exact XO.1),(by rw[<- Ε7];exact e),wpAny_load YM ?_,(λb hb=>?_)]
variable{w:World}{E:q0A}{es:Array (Int×Value)}{ep:Nat}{t:SetTable}
theorem qT{α β:Type}{l:List α}{m:List β}{f:α->β}(hl:m.length=l.length)(h:∀(i:Nat) (y:β),m[i]?=some y->∃x,l[i]?=some x/\y=f x):m=l.map f:=by
 refine List.ext_getElem? λi=>?_;rw[Ψ];cases e:m[i]? with
 | none =>
  have:l[i]?=none:=Δ8 (by have:=Θ0.mp e;omega);rw[this];rfl
 | some y =>
  obtain⟨x,h1,h2⟩:=h i y e;rw[h1,h2];rfl
theorem EH{ps:List Nat}(hp:ps.Perm (List.range es.size))(hl:acc.length=es.size)(h:∀(j:Nat) (v:Value),acc[j]?=some v->∃e,BZ es ps j e/\v=e.2):acc.Perm (es.toList.map (·.2)):=by
 have hz:ps.length=es.size:=by have:=hp.length_eq;simpa using this
 have e1:acc=ps.map λj=>(es.toList.getD j (0,.none)).2:=qT (by omega) λi y hy=>by
  obtain⟨e,⟨j,h1,h2⟩,rfl⟩:=h i y hy;refine⟨j,h1,?_⟩;rw[Δ0,Ε7,h2];rfl
 have e2:es.toList.map (·.2)=(List.range es.size).map λj=>(es.toList.getD j (0,.none)).2:=qT (by simp) λi y hy=>by
  rw[Ψ,ϑ] at hy;obtain⟨x,hx,rfl⟩:=hy;have hi:i < es.size:=by have:=(Λ.mp hx).1;simpa using this
  exact⟨i,List.getElem?_range hi,by rw[Δ0,hx];rfl⟩
 rw[e1,e2];exact hp.map _
def Pf(hl:acc.length=es.size)(h:∀(j:Nat) (v:Value),acc[j]?=some v->∃e,(oN w a es ep)[j]?=some e/\v=e.2):acc.Perm (es.toList.map (·.2)):=by
 have e1:acc=(oN w a es ep).toList.map (·.2):=qT (hl.trans (by rw[Γ9,oO])) λi y hy=>by
  obtain⟨e,h1,rfl⟩:=h i y hy;exact⟨e,by rw[Ε7];exact h1,rfl⟩
 rw[e1];exact DK.map _
def Nv(x:dY w s.heap a es ep t)(hh:A.handled=none)(hsz:es.size < scanBound){Q:q0A}(q:∀(h1:Heap) (d1:Drawn) (it:Addr) (fp:List Addr) (St:Nat->Heap->Prop) (Pv:Nat->Value->Prop),(∀b o,s.heap.get? b=some o->h1.get? b=some o)->s.heap.objs.size<=it->(∀b∈fp,b=a\/s.heap.objs.size<=b) -> Walks P w A it fp [it] es.size Pv St->St 0 h1->(∀acc:Array Value,ItemsOf Pv acc es.size->acc.toList.Perm (es.toList.map (·.2)))->Q (.ref it) {s with heap:=h1,drawn:=d1}):wpAny 0e0 A (pyIter 1e0) Q E s:=by
 have XW:=x.lt;by_cases hd:kQ w es t
 ·refine JD x hd hsz λps d' hp=>?_;refine q _ d' (s.heap.objs.size+1) [s.heap.objs.size+1,a,s.heap.objs.size] _ _ (λb o e=>Γ _ 3e0) (Δ3 _) 9e0 (FK hh _ a s.heap.objs.size (Ρ (Ι8 XW)) (Ρ (Κ3 _)) es ep t ps hp) ⟨⟨{cls:=.type "set_iterator",data:=.fields #[.ref s.heap.objs.size,.int 0 0,.ref a,.int es.size 0,.int ep 0]},_,?_,rfl,rfl,Γ _ (Ν _ rfl),rfl⟩,x.to λo e=>Γ _ 3e0⟩ λacc XO=>EH hp 6e0 λj v e=>XO.2 j v 7e0
  ·simp only[Ε,Θ,ϝ] at hb;rcases hb with rfl|rfl|rfl
   ·exact .inr (Δ3 _)
   ·exact .inl rfl
   ·exact .inr (Ζ _)
  ·rw[show s.heap.objs.size.succ=(s.heap.push {cls:=.type "tuple",data:=.seq (ps.map fun(i:Nat)=>rawInt i).toArray}).objs.size from (Heap.size_push _ _).symm];exact Ν _ rfl
 ·refine JE x hd ?_;refine q _ s.drawn s.heap.objs.size [s.heap.objs.size,a] _ _ (λb o e=>Γ _ e) (Ζ _) 9e0 (FL hh _ a (Ρ XW) es ep t hd) ⟨⟨_,0,Ν _ rfl,rfl,rfl,(by
   obtain⟨_,_,_,_,e4,T⟩:=x;unfold SetTable.fits at e4;simp only[Β3,beq_iff_eq] at e4;cases c:w.params.followText "set-order" with
   | true=>exact .inl c
   | false=>exact .inr (Fs (Hq T hd c e4.1)))⟩,x.to λo e=>Γ _ e⟩ λacc XO=>Pf 6e0 λj v e=>XO.2 j v 7e0
  simp only[Ε,Θ,ϝ] at hb;rcases hb with rfl|rfl
  ·exact .inr (Ζ _)
  ·exact .inl rfl
theorem Fn{R:Result->Shared->Prop}(x:dY w s.heap a es ep t)(hsz:es.size < scanBound)(hh:A.handled=none)(S:Addr)(hSa:S≠a)(res:Value)(c₀:Nat)(hS:s.heap.get? S=some {cls:=.type "list",data:=.seq #[] c₀})(hR:∀h' tk d' X9 c',(∀b o,b≠S->s.heap.get? b=some o->h'.get? b=some o)->h'.get? S=some {cls:=.type "list",dict:=none,data:=.seq X9 c',slots:=#[]}->X9.toList.Perm (es.toList.map (·.2))->R (.ok (.ret res)) {s with heap:=h',toks:=tk,drawn:=d'}) : wpAny 0e0 A.in1 (Builtin.List.listExtendWith (.ref S) 1e0 res) (λfin s'=>match fin with | .done f=>R (.ok f) s' | .again c'=>c'.quiet=true/\codeAny 0e0 A c' R s') (λe s'=>R (.error e) s') s:=by
  have hn:es.size<=sizeLine:=fits_of_scanBound hsz;unfold Builtin.List.listExtendWith;refine Α (Ε8 (T:="set") x.ty ?_);have h1:Builtin.List.listSameRef (.ref S) 1e0=false:=by simp[Builtin.List.listSameRef,hSa]
  have n1:(Value.type "set"==Value.type "list")=false:=by decide
  have n2:(Value.type "set"==Value.type "tuple")=false:=by decide
  simp only[h1,n1,n2,Bool.or_false,Δ2,Η8];refine Α (Nv x (A:=A.in1) hh hsz λhI d1 it fp St Pv kI lI fI W st ac=>?_);have hSf:S∉fp:=λz=>by
    rcases fI S z with e|e
    · exact hSa e
    · exact absurd (Ο hS) (Nat.not_lt.mpr e)
  have hSI:S≠it:=Ρ (ϐ (Ο hS) lI);have key:∀(h:Heap) (c₁ tk:Nat),St 0 h->(∀b o,b≠S->s.heap.get? b=some o->h.get? b=some o) ->
      h.get? S=some {cls:=.type "list",data:=.seq #[] c₁}->codeAny 0e0 A (.builtin "list.extend.loop" ⟨[.ref S,.ref it,res],[]⟩) R {s with heap:=h,toks:=tk,drawn:=d1}:=by
    intro h c₁ tk XQ hk hS₁;refine codeAny_extend_loopS W.toS hn S hSf res es.size 0 _ #[] c₁ rfl (ϖ _) XQ hS₁ (ItemsOf.nil _) λs' X9 c' hm YM XO=>?_;rw[Moved.eq_with hm];refine hR s'.heap s'.toks d1 X9 c' (λb o hb e=>hm.heap b o (λaa7=>?_) (hk b o hb e)) YM (ac _ XO);rcases Ε.mp aa7 with e'|aa7
    · exact hb e'
    · have:=Τ.mp aa7;exact absurd (Ο e) (Nat.not_lt.mpr (this▸lI))
  have hS₁:=kI _ _ hS;refine Α (Β8 (LD (s:={s with heap:=hI,drawn:=d1}) (x.to λo e=>kI _ _ e).ty ?_));refine wpAny_ite_split (λ_=>?_) (λ_=>Β ⟨Δ7 PySem.F.plain_extend_loop _,key _ c₀ _ st (λb o _ e=>kI _ _ e) hS₁⟩);refine Α (wpAny_rule ?_);refine Α ?_;show wpAny _ _ (updateSeq S (·.push .none) >>= λ_=>updateSeq S (·.pop)) _ _ _;refine Α (wpAny_updateSeq hS₁ rfl ?_);have hS₂:=Α5 (Obj.mapSeq (·.push Value.none)) hS₁ rfl;refine wpAny_updateSeq (hz:=by seq_fits) hS₂ rfl ?_;have hS₃:=Α5 (Obj.mapSeq (·.pop)) hS₂ rfl;refine Β ⟨Δ7 PySem.F.plain_extend_loop _,key _ _ _ ?_ (λb o hb e=>?_) hS₃⟩
  · refine W.frame 0 _ _ st λb hb o e=>?_;have hbS:b≠S:=λh=>hSf (h▸hb);exact(Γ6 _ _ (Ε6 hbS)).trans ((Γ6 _ _ (Ε6 hbS)).trans e)
  · exact(Γ6 _ _ (Ε6 hb)).trans ((Γ6 _ _ (Ε6 hb)).trans (kI _ _ e))
def D1{R:List Value->Shared->Prop}(x:dY w s.heap a es ep t)(hsz:es.size < scanBound)(hh:A.handled=none)(h:∀(h':Heap) (tk:Nat) (d':Drawn) (acc:List Value),(∀b o,s.heap.get? b=some o->h'.get? b=some o)->acc.Perm (es.toList.map (·.2))->R acc {s with heap:=h',toks:=tk,drawn:=d'}) : wpAny 0e0 A (collect 1e0) R E s:=by
  have XW:=x.lt;unfold collect;refine Α (wpAny_runValue (Β5 entry_proto_collect' ?_));rw[Α4 PySem.F.plain_proto_collect _];show wpAny _ A.in1 (newList [] >>= λl=>again (.builtin "list.__iadd__" ⟨[l,.ref a],[]⟩)) _ _ s;refine Α (ϙ ?_);refine Β ⟨Δ7 PySem.F.plain_list_iadd _,Β5 entry_list_iadd' ?_⟩;rw[Α4 PySem.F.plain_list_iadd _];have hS₁:(s.heap.push {cls:=.type "list",data:=.seq ([]:List Value).toArray}).get? s.heap.objs.size=some {cls:=.type "list",data:=.seq #[]}:=Ν _ rfl;show wpAny _ A.in1 (Builtin.List.listExtendWith 2e0 1e0 2e0) _ _ _;have key:=Fn (A:=A) (s:={s with heap:=s.heap.push {cls:=.type "list",data:=.seq ([]:List Value).toArray}}) (P:=P)
    (R:=fun(q:Result) (s':Shared)=>∃(h':Heap) (tk:Nat) (d':Drawn) (X9:Array Value) (c':Nat),q=.ok (.ret 2e0)/\s'={s with heap:=h',toks:=tk,drawn:=d'} /\
      (∀b o,s.heap.get? b=some o->h'.get? b=some o)/\h'.get? s.heap.objs.size=some {cls:=.type "list",dict:=none,data:=.seq X9 c',slots:=#[]}/\X9.toList.Perm (es.toList.map (·.2)))
    (x.to λo e=>Γ _ e) hsz hh s.heap.objs.size (Nat.ne_of_gt XW) 2e0 0 hS₁
    (λh' tk d' X9 c' hk YM XO=>⟨h',tk,d',X9,c',rfl,rfl,λb o e=>hk b o (Ρ (Ο e)) 3e0,YM,XO⟩)
  refine Ε3 key (λfin s' x=>?_) λe s' x=>?_
  · cases fin with
    | done f =>
      obtain⟨h',tk,d',X9,c',e,rfl,hk,YM,XO⟩:=x;cases e;show wpAny _ A 4e0 _ _ _;refine Α 8e0;exact Β 5e0
    | again c₁ =>
      refine⟨x.1,codeAny_mono x.2 λq s₂ y=>?_⟩;obtain⟨h',tk,d',X9,c',rfl,rfl,hk,YM,XO⟩:=y;show wpAny _ A 4e0 _ _ _;refine Α 8e0;exact Β 5e0
  · obtain⟨_,_,_,_,_,e',_⟩:=x;cases e'
def Fo{Q:q0A}(x:dY w s.heap a es ep t)(hsz:es.size < scanBound)(hh:A.handled=none)(h:∀(D:Addr) (h':Heap) (tk:Nat) (d':Drawn) (vs:List Value),(∀b o,s.heap.get? b=some o->h'.get? b=some o/\b < D)->h'.get? D=some (listOf vs.toArray 0)->vs.Perm (es.toList.map (·.2)) -> wpAny 0e0 A.in1 (call (.builtin "list.sort") [.ref D]) (λ_ s'=>Q (.ref D) s') E {s with heap:=h',toks:=tk,drawn:=d'}) : wpAny 0e0 A (call (.builtin "sorted") [.ref a]) Q E s:=by
 refine PySem.Calls.call_function_entry kind_sorted plain_sorted entry_sorted (args_sorted1 _) ?_;unfold Builtin.«sorted»;refine Α (m:=checkCount "sorted" 1 1 _) (Β ?_);refine Α (D1 (A:=A.in1) x hsz hh λh' tk d' acc hk XO=>?_);have hl:acc.length=es.size:=by have:=XO.length_eq;simpa using this
 refine Α (wpAny_newList ?_ (by rw[hl];exact fits_of_scanBound hsz));have hg:=h h'.objs.size (h'.push {cls:=.type "list",data:=.seq acc.toArray}) tk d' acc (λb o e=>⟨Γ _ (hk b o e),Ο (hk b o e)⟩) (Ν _ rfl) XO;refine Α (Β8 (Ε3 hg (λ_ s' x=>?_) λ_ _ e=>e));exact Β ⟨_,rfl,x⟩
end
end
mutual
example:=[ks.map kV,(by omega),.ref l,((λk=>match k with | .inr i=>i|_=>Str.ofString "")∘Key.inr),((λk=>match k with | .inl i=>i|_=>(0:Int))∘Key.inl),(Ϝ.mpr ⟨v,m,rfl⟩),nH P w p ks]
def nH(P:Program)(w:World)(a:Addr)(ks:List Key):HO:=.ext (tK P w a ks)
def PM{ks:List Key}(x:tK X.prog X.w a ks h):c0 X.prog X.w H h a (nH X.prog X.w a ks) :=
 ⟨x,let ⟨o,_,_,_,e,_⟩:=x;⟨o,e⟩,λ_ _ y k=>y.keep k⟩
def g8(ks:List Key):List Key:=g9 (λi=>ks.getD i .no) ks.length
theorem P8{xs:List V}{us:List Value}(r:XD xs us){u:Value}(e:us[i]?=some u):∃x,xs[i]?=some x/\bC x u:=by
 have hl:=r.length;have hi:=(Λ.mp e).1;obtain⟨u',h1,h2⟩:=r.get (Μ (show i < xs.length by omega));rw[e] at h1;cases h1;exact⟨_,Μ 1e0,h2⟩
def LJ{k:Key}{v:Value}(h:bC (kV k) v):j0 k v=true:=by
 cases k with
 | inl i=>obtain⟨t,rfl⟩:=h;exact AX i t
 | inr x=>obtain⟨t,rfl⟩:=h;exact AY x t
 | no=>cases h;rfl
def Qq(P:Program)(w:World)(K:q0B):List V->Hp->VK->Prop:=λvs H Q=>on1 vs λx=>aU x λp=>∃ks:List Key,(c5 K H p 0e0\/cJ K H p 0e0)/\ks.length < 4096/\∀l,H l=none->Q 2e0 (Xz H l (nH P w l (g8 ks)))
theorem lF(hc:X.calm=true):eI X (.type "set") (Qq X.prog X.w X.K):=λXy s σ H xs us Q I r h=>by
 obtain⟨x,rfl,h1⟩:=fY h;obtain⟨p,rfl,ks,e,h4,q⟩:=aN h1;obtain⟨u,rfl,ru⟩:=vals1 r;cases ru;have b1:scanBound=4096:=rfl;obtain⟨XA,r',pl⟩:∃XA:List Value,XD 0e0 XA/\TY s.heap p XA.toArray:=by
  rcases e with e|e
  ·obtain⟨XA,r',pl,_⟩:=I.list e;exact⟨XA,r',.inl pl.isList⟩
  ·obtain⟨XA,r',pl,_⟩:=I.tuple e;exact⟨XA,r',.inr pl⟩
 have hlen:=r'.length;have lm:XA.toArray.size=ks.length:=by simpa using hlen.symm
 refine Ru (items:=XA.toArray) (val:=λi=>ks.getD i .no) (I.ok.hd hc) pl (λi v ev=>?_) 1e0 λh' tk hS kp=>?_
 ·rw[List.getElem?_toArray] at ev;obtain⟨y,e1,e2⟩:=P8 r' ev;rw[Ψ,ϑ] at e1;obtain⟨k,e3,rfl⟩:=e1;rw[Δ0,e3];exact LJ e2
 rw[lm] at hS;exact⟨.ref s.heap.objs.size,_,I.laid (t':=tk) (λb o e=>kp b o (Ο e) e) (Ζ _) (PM hS),rfl,q _ (I.XF.fresh (Ζ _))⟩
def Qk(P:Program)(w:World):List V->Hp->VK->Prop:=λvs H Q=>on1 vs λx=>aU x λp=>∃ks:List Key,H p=some 6e0/\Q (.int ks.length) H
theorem Ik:eI X (.builtin "len") (Qk X.prog X.w):=λXy s σ H xs us Q I r h=>by
 obtain⟨x,rfl,h1⟩:=fY h;obtain⟨p,rfl,ks,e,q⟩:=aN h1;obtain⟨u,rfl,ru⟩:=vals1 r;cases ru;obtain⟨⟨o,es,ep,t,ho,hex,hd,hel,hb,hf,T,hp⟩,_⟩:=I.XF p _ e;have hl:es.size=ks.length:=by have:=hp.length_eq;simpa using this
 have b1:scanBound=4096:=rfl;refine call_len_set ho hex hd hf 1e0 ?_;exact⟨.int ks.length,H,I.tok _,⟨_,by rw[hl]⟩,q⟩
def Kj(P:Program)(w:World):List V->Hp->VK->Prop:=λvs H Q=>on1 vs λx=>aU x λp=>∃ks:List Key,H p=some 6e0/\ks.length < 64 /\
  ((∃ns:List Int,ks=ns.map Key.inl/\∀(l:Addr) (XJ:List Int),H l=none->XJ.Perm ns->XJ.Pairwise (·<=·)->Q 2e0 (Xz H l (.lst (XJ.map V.int)))) \/
   (∃ss:List Str,ks=ss.map Key.inr/\∀(l:Addr),H l=none->Q 2e0 (Xz H l (.lst ((srt ss).map V.str)))))
def Dp{ns:List Int}(hv:∀v∈vs,∃k,j0 k v=true)(h:(vs.map sI).Perm (ns.map Key.inl)):∃ms:List Int,ms.Perm ns/\IntsAre vs ms:=by
 have hk:∀v∈vs,∃i t,v=Value.int i t:=λv m=>by
  obtain⟨k,e⟩:=hv v m;have:sI v∈ns.map Key.inl:=h.mem_iff.mp 5e0;obtain⟨i,_,ei⟩:=Ϝ.mp this;rw[sJ e] at ei;subst ei;obtain⟨t,et⟩:=Value.isInt_shape e;exact⟨i,t,et⟩
 refine⟨vs.map LK,?_,?_⟩
 ·have:=h.map (λk=>match k with | .inl i=>i|_=>(0:Int));rw[Β1,Β1] at this;have e1:ns.map 4e0=ns:=by
   rw[show 4e0=id from rfl,List.map_id]
  have e2:vs.map ((λk=>match k with | .inl i=>i|_=>(0:Int))∘sI)=vs.map LK:=Κ9 λv m=>by
   obtain⟨i,t,rfl⟩:=hk v m;rfl
  rw[e1,e2] at this;exact this
 ·refine GQ (by simp) λj v e=>?_;obtain⟨i,t,rfl⟩:=hk v (Φ e);exact⟨i,t,by rw[Ψ,e];rfl,rfl⟩
def Nh:Value->Str
 | .str x _=>x
 | _=>Str.ofString ""
def Eb{ns:List Str}(hv:∀v∈vs,∃k,j0 k v=true)(h:(vs.map sI).Perm (ns.map Key.inr)):∃ms:List Str,ms.Perm ns/\StrsAre vs ms:=by
 have hk:∀v∈vs,∃i t,v=Value.str i t:=λv m=>by
  obtain⟨k,e⟩:=hv v m;have:sI v∈ns.map Key.inr:=h.mem_iff.mp 5e0;obtain⟨i,_,ei⟩:=Ϝ.mp this;rw[sJ e] at ei;subst ei;obtain⟨t,et⟩:=Value.isStrOf_shape e;exact⟨i,t,et⟩
 refine⟨vs.map Nh,?_,?_⟩
 ·have:=h.map (λk=>match k with | .inr i=>i|_=>Str.ofString "");rw[Β1,Β1] at this;have e1:ns.map 3e0=ns:=by
   rw[show 3e0=id from rfl,List.map_id]
  have e2:vs.map ((λk=>match k with | .inr i=>i|_=>Str.ofString "")∘sI)=vs.map Nh:=Κ9 λv m=>by
   obtain⟨i,t,rfl⟩:=hk v m;rfl
  rw[e1,e2] at this;exact this
 ·refine HN (by simp) λj v e=>?_;obtain⟨i,t,rfl⟩:=hk v (Φ e);exact⟨i,t,by rw[Ψ,e];rfl,rfl⟩
end
section
variable{Xy:List (Addr×Obj)}{σ:St}{D:Addr}{h':Heap}{tk:Nat}{d':Drawn}{out:Array Value}{xs:List V}{Q:VK}
def Ls(I:XC X Xy σ H s)(old:∀b o,s.heap.get? b=some o->h'.get? b=some o/\b < D)(hD:h'.get? D=some (seqObj "list" vs.toArray 0))(hv:XD xs out.toList)(hz:xs.length<=sizeLine) : H D=none/\XC X Xy σ (Xz H D (.lst xs)) {s with heap:=sortedHeap h' D vs out,toks:=tk,drawn:=d'}:=by
 have ZX:H D=none:=by
  cases z:H D with
  | none=>rfl
  | some o =>
   obtain⟨ob,eb⟩:=(I.XF D o z).there;exact absurd (old D ob eb).2 (Α2 _)
 refine⟨ZX,?_⟩;have new:∀b o,s.heap.get? b=some o->(sortedHeap h' D vs out).get? b=some o:=λb o eb=>by
  obtain⟨h1,h2⟩:=old b o eb;rw[sortedHeap_old (Ρ h2) (Ο h1)];exact h1
 obtain⟨e',hD'⟩:=sortedHeap_at (out:=out) hD;have nn:∀{b:Addr} {o:HO},H b=some o->b≠D:=λh z=>by subst z;rw[ZX] at h;cases h
 refine show XC X Xy σ _ {s with heap:=sortedHeap h' D vs out,gens:=s.gens,drawn:=d',toks:=tk} from I.step (g':=s.gens) (d':=d') (t':=tk) (ch:=[]) (λ_ z=>nomatch z) (λb o nb _ _ eb _=>new b o eb) (λb o nb _ _ eb _=>⟨o.slots,new b o eb⟩) (λb o _ eb hb=>?_) (λb o _ eb=>⟨o,new b o eb⟩)
  (λb xs hb=>by rw[aC (nn hb)];exact hb) (λb o u hb=>by rw[aC (nn hb)];exact hb) (λb ps hb=>⟨#[],by rw[aC (nn hb),hb];simp⟩) (λm' hm=>?_) (λb o hb=>?_) I.bare
 ·by_cases YZ:b=D
  ·subst YZ;exact absurd (old b o eb).2 (Α2 _)
  ·rw[aC YZ];exact hb
 ·obtain⟨o1,XU,ep1,a1,r1⟩:=hm;exact⟨o1,XU,ep1,new _ _ a1,r1⟩
 ·by_cases YZ:b=D
  ·subst YZ;rw[aA] at hb;cases hb;exact⟨hz,out.toList,e',hv,hD'⟩
  ·rw[aC YZ] at hb;refine(I.XF b o hb).uS (λc v hc ev=>?_) (λc hc=>by rw[aC (nn hc)];exact hc) λc xs hc=>by rw[aC (nn hc)];exact hc
   exact new c v ev
end
mutual
example:=[(by rw[Δ,hp.length_eq,pm.length_eq,Ζ3];omega),(Builtin.«list.sort» ⟨[.ref D],[]⟩),seqObj "list" vs.toArray 0,PySem.F.args_list_sort_1 _,.ok (.ret .none),hp.trans pm]
theorem mD(hc:X.calm=true):eI X (.builtin "sorted") (Kj X.prog X.w):=λXy s σ H xs us Q I r h=>by
 obtain⟨x,rfl,h1⟩:=fY h;obtain⟨p,rfl,ks,e,h64,q0⟩:=aN h1;obtain⟨u,rfl,ru⟩:=vals1 r;cases ru;obtain⟨⟨od,es,ep,t,ho,hex,hd,hel,hb,hf,T,hp0⟩,_⟩:=I.XF p _ e;have hl:es.size=ks.length:=by have:=hp0.length_eq;simpa using this
 refine Fo ⟨od,ho,hex,hd,hf,T⟩ hb (I.ok.hd hc) λD h' tk d' vs old hD hvs=>?_;have lv:vs.length=ks.length:=by have:=hvs.length_eq;simp at this;omega
 have hkv:∀v∈vs,∃k,j0 k v=true:=λv m=>by
  obtain⟨e,me,rfl⟩:=Ϝ.mp (hvs.mem_iff.mp m);obtain⟨⟨k,hk,_⟩,_⟩:=hel e me;exact⟨k,hk⟩
 have hpk:(vs.map sI).Perm ks:=by
  refine(hvs.map sI).trans ?_;rw[Β1];exact hp0
 have fin:∀(out:Array Value) (ys:List V),XD ys out.toList->ys.length<=sizeLine->(H D=none->Q (.ref D) (Xz H D (.lst ys)))->EP X Xy σ Q (.ref D) {s with heap:=sortedHeap h' D vs out,toks:=tk,drawn:=d'}:=λout ys hv hz hq =>
  let f:=Ls (tk:=tk) (d':=d') I old hD hv hz
  ⟨.ref D,_,f.2,rfl,hq f.1⟩
 rcases q0 with⟨ns,ek,q⟩|⟨ss,ek,q⟩
 ·subst ek;obtain⟨ms,pm,hI⟩:=Dp hkv hpk;rw[Δ] at h64 lv;have g:MeetsIn X.prog X.w 1e0 (λ_ R s=>s.heap.get? D=some 2e0/\∀(out:Array Value) (XJ:List Int),IntsAre out.toList XJ->XJ.Perm ms->XJ.Pairwise (·<=·)->R 4e0 {s with heap:=sortedHeap s.heap D vs out}) :=
   λA R s ⟨g1,g2⟩=>list_sort_tree g1 hI (by omega) λout XJ a b c=>g2 out XJ a b c
  refine Ε9 PySem.F.slot_list_sort ⟨_,hD,rfl⟩ PySem.F.entry_list_sort 3e0 g ⟨hD,λout XJ hI' hp hs=>?_⟩;exact fin out _ (pP hI') 0e0 λz=>q D XJ z 5e0 hs
 ·subst ek;obtain⟨ms,pm,hI⟩:=Eb hkv hpk;rw[Δ] at h64 lv;have g:MeetsIn X.prog X.w 1e0 (λ_ R s=>s.heap.get? D=some 2e0/\∀(out:Array Value) (XJ:List Str),StrsAre out.toList XJ->XJ.Perm ms->sortedS XJ=true->R 4e0 {s with heap:=sortedHeap s.heap D vs out}) :=
   λA R s ⟨g1,g2⟩=>list_sort_treeK strKind_oneLt g1 hI.keysOf (λv₁ v₂ rest e=>keyKind_strs (by rw[<- e];exact hI)) (by omega) λYm hp hs=>by
    obtain⟨ss',h1,h2,h3⟩:=sorted_out_str hI hp hs;exact g2 _ ss' h1 h2 h3
  refine Ε9 PySem.F.slot_list_sort ⟨_,hD,rfl⟩ PySem.F.entry_list_sort 3e0 g ⟨hD,λout XJ hI' hp hs=>?_⟩;refine fin out _ (Ac hI') 0e0 λz=>?_;have:=q D z;rw[<- Fv 5e0 hs] at this;exact this
end
section
variable{w:World}{Q:VK}{p:Addr}
def Sy:Qq P w K [.ref p] H Q = ∃ks:List Key,(c5 K H p (ks.map kV)\/cJ K H p (ks.map kV))/\ks.length < 4096/\∀l,H l=none->Q (.ref l) (Xz H l (nH P w l (g8 ks))):=rfl
def Sf:Qk P w [.ref p] H Q = ∃ks:List Key,H p=some (nH P w p ks)/\Q (.int ks.length) H:=rfl
def OJ:Kj P w [.ref p] H Q = ∃ks:List Key,H p=some (nH P w p ks)/\ks.length < 64 /\ ((∃ns:List Int,ks=ns.map Key.inl/\∀(l:Addr) (XJ:List Int),H l=none->XJ.Perm ns->XJ.Pairwise (·<=·)->Q (.ref l) (Xz H l (.lst (XJ.map V.int)))) \/ (∃ss:List Str,ks=ss.map Key.inr/\∀(l:Addr),H l=none->Q (.ref l) (Xz H l (.lst ((srt ss).map V.str))))):=rfl
end
section
variable{M:Model}{E:q0A}
end
section
variable{w:World}{mg:q0C}{base:Heap}{N:List Str}{qual:Str}{scope:Scope}{f:Addr}{cd:Value}{outer:List Env}{s0:Shared}{H0:Hp}{E:XK}{Xy:List (Addr×Obj)}{σ:St}{fp:List Addr}{sc:Scope}{cl:List (Str×Addr)}{C:Addr}{N':List Str}
end
section
variable{sc:Scope}{cl:List (Str×Addr)}{x:Str}{fr:List Nat}{N:List Str}{elt iter:Expr}{px pos:Pos}{ifs:List Expr}{wi:TI}{tc:TT}{te:TE}
end
def As:typeLookup (.type "tuple") "keys"=pure none:=by rw[Δ6,Α7];kernel_rfl
section
mutual
example:=[(by omega),aR P W,Key×Value,model P W,.ref a,(Builtin.«dict.update.loop» ⟨[.ref d,.ref it,rawInt i,.none],[]⟩),pyNext (.ref it) >>= _,(by decide +kernel),stored acc k v,.ret .none]
variable{prog:Program}{w:World}{E:q0A}
theorem ER{XA:Array Value}{n:Nat}{sl:Array (Option Value)}{Q:Option Value->Shared->Prop}(hx:s.heap.get? a=some {cls:=.type "tuple",data:=.seq XA n,slots:=sl})(hA:A.handled=none)(hq:∀h' tk,(∀b o,s.heap.get? b=some o->h'.get? b=some o)->Q none {s with heap:=h',toks:=tk}):wpAny (model prog w) A (getAttr? 4e0 "keys") Q E s:=by
 obtain⟨hp,g,d,tk,os⟩:=s;have hT:∀t,(⟨hp,g,d,t,os⟩:Shared).TypeIs 4e0 "tuple":=λt=>⟨_,hx,rfl⟩;have f1:=sub_AttributeError;have f2:=F.slot_tuple_getattribute.lookup;have f3:=F.slot_tuple_getattribute.bind 4e0;unfold getAttr? getAttrBy? getAttrBy
 repeat (any_goals (first|assumption|exact hT _|((with_reducible show wpAny _ _ (call (Value.builtin "tuple.__getattribute__") _ _) _ _ _);refine call_meets F.slot_tuple_getattribute (hT _) am_entry_tuple_getattribute (F.args_tuple_getattribute_2 _ _) (meets_getattribute_miss_tuple a XA n sl "keys" _ As 7e0 7e0) ⟨hx,hA,λh' tk' e hx'=>?_⟩)|wp_step))
 obtain⟨t',u',he⟩:=hx'.there;show wpAny _ _ (getattributeRaised _ _ _ _ _ _ _) _ _ _;unfold getattributeRaised;have f5:=am_tuple_getattr_none
 repeat (any_goals (first|assumption|wp_step))
 exact hq _ _ hx'.keeps
theorem Nt{d it l t:Addr}{kv v:Value}{k:Key}{acc:List 2e0}(hit:s.heap.IsTupleIter it l i)(hl:s.heap.IsTuple l items)(hx:items[i]?=some (.ref t))(ht:s.heap.IsTuple t #[kv,v])(hk:(aR P W).is k kv=true)(hd:s.heap.DictOf 1e0 d acc)(hsz:acc.length<=sizeLine)(ndi:d≠it)(nti:t≠it)(hq:∀h' tk,h'.IsTupleIter it l (i+1)->h'.DictOf 1e0 d 8e0->(∀b o,b≠d->b≠it->s.heap.get? b=some o->h'.get? b=some o)->Q (.again (.builtin "dict.update.loop" ⟨[.ref d,.ref it,rawInt (i+1),.none],[]⟩)) {s with heap:=h',toks:=tk}) : wpAny 3e0 A 5e0 Q E s:=by
 unfold Builtin.«dict.update.loop»;show wpAny _ _ 6e0 _ _ _;refine Α (wpAny_pyNext_tuple_item hit hl hx λh1 aa6 sb=>?_);dsimp only;refine Α (Β8 ?_);refine Α (wpAny_tryCatch ?_);unfold Builtin.Dict.pairItems;obtain⟨o,ho,hc,m,Y8⟩:=ht;have ho1:h1.get? t=some o:=(sb.2 t nti).trans ho;refine Α (Ε8 (T:="tuple") ⟨o,ho1,hc⟩ ?_);rw[if_pos (by decide)];refine Α (wpAny_seqItems ho1 Y8 (Β ?_));show wpAny _ _ (holding [kv,v] (dictSet d kv v)) _ _ _;refine Β8 (wpAny_dictSet_pairs hk (hd.sameBut sb ndi) (λh2 hd2 ZU=>?_) hsz);refine Β (hq h2 _ ?_ hd2 λb o b1 b2 e=>(ZU.2 b b1).trans ((sb.2 b b2).trans e));exact aa6.at λo e=>(ZU.2 it ndi.symm).trans e
def P5{d it l:Addr}(hh:A.handled=none)(hit:s.heap.IsTupleIter it l i)(hl:s.heap.IsTuple l items)(hx:items[i]?=none)(hq:∀h',(∀b o,b≠it->s.heap.get? b=some o->h'.get? b=some o)->Q (.done 9e0) {s with heap:=h'}) : wpAny 3e0 A 5e0 Q E s:=by
 unfold Builtin.«dict.update.loop»;show wpAny _ _ 6e0 _ _ _;refine Α (wpAny_pyNext_tuple_end hh hit hl hx λh1 eb=>?_);dsimp only;show wpAny _ _ (Builtin.Dict.addKeywords d [] >>= _) _ _ _;exact Α (Β (Β (hq h1 λb o b1 e=>eb b o b1 e)))
theorem P4{d it l:Addr}{items:List Value}(ps:List 2e0)(ndi:d≠it)(ndl:l≠d)(nli:l≠it):∀(m i:Nat),items.length=i+m->∀(A:Around) (R:Result->Shared->Prop) (s:Shared) (acc:List 2e0),A.handled=none->s.heap.IsTupleIter it l i->s.heap.IsTuple l items.toArray -> (∀j,i<=j->j < items.length->∃(t:Addr) (kv:Value) (k:Key) (v:Value),items[j]?=some (.ref t)/\ps[j]?=some (k,v)/\s.heap.IsTuple t #[kv,v]/\(aR P W).is k kv=true/\t≠it/\t≠d) -> s.heap.DictOf 1e0 d acc->acc.length+m<=sizeLine->ps.length=items.length -> (∀h' tk,h'.DictOf 1e0 d (merged acc (ps.drop i))->(∀b o,b≠d->b≠it->s.heap.get? b=some o->h'.get? b=some o)->R (.ok 9e0) {s with heap:=h',toks:=tk}) -> codeAny 3e0 A (.builtin "dict.update.loop" ⟨[.ref d,.ref it,rawInt i,.none],[]⟩) R s:=by
 intro m
 induction m with
 | zero =>
  intro i hm A R s acc hh hit hl hp hd hsz hps q;refine Β5 pG ?_;rw[Α4 gI _];refine P5 (A:=A.in1) hh hit hl (by simp;omega) λh' k=>?_;have e:ps.drop i=[]:=List.drop_of_length_le 0e0;rw[e] at q;exact q h' s.toks (by
   obtain⟨o,es,ep,ho,r⟩:=hd;exact⟨o,es,ep,k _ _ ndi ho,r⟩) λb o _ b2 e=>k b o b2 e
 | succ m ih =>
  intro i hm A R s acc hh hit hl hp hd hsz hps q;refine Β5 pG ?_;rw[Α4 gI _];obtain⟨t,kv,k,v,e1,e2,ht,hk,n1,n2⟩:=hp i (Ζ _) 0e0;refine Nt (A:=A.in1) hit hl (by simpa using e1) ht hk hd 0e0 ndi n1 λh' tk ZJ hd' kp=>?_;refine⟨Δ7 gI _,?_⟩;have c:((i:Int)+1)=((i+1:Nat):Int):=by omega
  rw[c];have es:ps.drop i=(k,v)::ps.drop (i+1):=by
   obtain⟨XW,e3⟩:=Λ.mp e2;rw[Θ1 XW,e3]
  refine ih (i+1) 0e0 A R _ 8e0 hh ZJ (hl.at λo e=>kp l o ndl nli e) (λj h1 h2=>?_) hd' ?_ hps λh'' tk' aa3 kp'=>?_
  ·obtain⟨t,kv,k,v,e1,e2,ht,hk,n1,n2⟩:=hp j 0e0 h2;obtain⟨o,ho,r⟩:=ht;exact⟨t,kv,k,v,e1,e2,⟨o,kp t o n2 n1 ho,r⟩,hk,n1,n2⟩
  ·have:=stored_length_le acc k v;omega
  ·refine q h'' tk' ?_ λb o b1 b2 e=>kp' b o b1 b2 (kp b o b1 b2 e);rw[es];exact aa3
end
end
mutual
example:=[.dK (gS [] kvs),.ref l,.tup ys,Xz H l (.XX o 2e0)]
def nJ(H:Hp)(a:Addr)(xs:List V):Prop:=∃o:Obj,o.dict=none/\H a=some (.XX o (.tup xs))
def nJ.sq{xs:List V}(x:nJ H a xs):cJ K H a xs:=let ⟨o,_,e⟩:=x;.inl (.inr ⟨o,e⟩)
def Qs(K:q0B):List V->Hp->VK->Prop:=λvs H Q=>on1 vs λx=>aU x λp=>∃ys,c5 K H p ys/\∀l o,H l=none->o.dict=none->Q 1e0 3e0
theorem Ir:eI X (.type "tuple") (Qs X.K):=λXy s σ H xs us Q I r h=>by
 obtain⟨x,rfl,h1⟩:=fY h;obtain⟨p,rfl,ys,hq,q⟩:=aN h1;obtain⟨u,rfl,rx⟩:=vals1 r;cases rx;obtain⟨XA,r',pl,hz⟩:=I.list hq;have hlen:=r'.length;refine call_tuple_list pl.isList (λh' kp=>?_) (by simp only[Η]<;>omega);have I1:XC X Xy σ H {s with heap:=h'}:=I.kept (t':=s.toks) kp;have I2:XC X Xy σ (Xz H h'.objs.size (.XX {cls:=.type "tuple",data:=.seq XA.toArray} 2e0)) {s with heap:=h'.push {cls:=.type "tuple",data:=.seq XA.toArray}} :=
  I1.laid (t':=s.toks) (λb o e=>Γ _ e) (Ζ _) (show c0 X.prog X.w _ _ _ (.XX _ 2e0) from ⟨Ν _ rfl,hz,XA,r',IsTup.new _ _⟩)
 exact⟨.ref h'.objs.size,_,I2,rfl,q _ _ (I1.XF.fresh (Ζ _)) rfl⟩
def SM{p:Addr}{Q:VK}:Qs K [.ref p] H Q = ∃ys,c5 K H p ys/\∀l o,H l=none->o.dict=none->Q 1e0 3e0:=rfl
def Kg:List V->Hp->VK->Prop:=λvs H Q=>on1 vs λx=>aU x λl=>∃xs kvs,nJ H l xs/\jA H xs kvs/\∀p,H p=none->Q (.ref p) (Xz H p 0e0)
theorem xC(hc:X.calm=true):eI X (.type "dict") Kg:=λXy s σ H vs us Q I r h=>by
 obtain⟨x,rfl,h1⟩:=fY h;obtain⟨l,rfl,xs,kvs,el,hp,q⟩:=aN h1;obtain⟨u,rfl,ru⟩:=r.one;cases ru;obtain⟨ofz,odn,ef⟩:=el;obtain⟨eo0,z,XA,ri,⟨o2,e2,hc,n,Y8⟩⟩:=(show c0 X.prog X.w H s.heap l (.XX ofz (.tup xs)) from I.XF l _ ef);rw[eo0] at e2;cases e2;obtain⟨oc,od,ad6,Zn⟩:=ofz;simp only at odn hc Y8;subst odn hc Y8;have eo:s.heap.get? l=some {cls:=.type "tuple",data:=.seq XA.toArray n,slots:=Zn}:=eo0;have hlen:=ri.length;obtain⟨ps,rel,oQ,pat⟩:=LM I.XF ri hp;have hA:=I.ok.hd hc;refine callType_codes (Q₁:=λobj s₁=>obj=.ref s.heap.objs.size/\s₁={s with heap:=s.heap.push {cls:=.type "dict",data:=.dict #[]}}) F.kt_called_dict (F.kt_typeCall_dict_1 _) F.entry_dict_init (kt_code_dict_new _ ⟨rfl,rfl⟩) ?_;rintro obj s₁ ⟨rfl,rfl⟩;have Zk:(s.heap.push {cls:=.type "dict",data:=.dict #[]}).DictOf (aR X.prog X.w) s.heap.objs.size []:=Heap.DictOf.new s.heap;refine⟨Zk.typeIs,F.args_dict_init_2 _ _,?_⟩;unfold Builtin.«dict.__init__» Builtin.Dict.selfAndRest;refine Α (Α (wpAny_notOrdered_dict Zk.typeIs ?_));show wpAny _ _ (pure (s.heap.objs.size,[Value.ref l])) _ _ _;refine Β ?_;show wpAny _ _ (Builtin.Dict.updateFrom "dict.__init__" s.heap.objs.size 1e0 [] .none) _ _ _;unfold Builtin.Dict.updateFrom;have eo1:(s.heap.push {cls:=.type "dict",data:=.dict #[]}).get? l=some {cls:=.type "tuple",data:=.seq XA.toArray n,slots:=Zn}:=Γ _ eo;refine Α (Ε8 (T:="tuple") ⟨_,eo1,rfl⟩ ?_);rw[if_pos (by decide)];refine Α (ER eo1 hA λh' tk kp=>?_);rw[if_pos (show(none:Option Value).isNone=true from rfl)];refine Α (wpAny_rule ?_);have hl1:h'.IsTuple l XA.toArray:=⟨_,kp _ _ eo1,rfl,n,rfl⟩;refine Α (wpAny_pyIter_tuple hl1 (Β ⟨Δ7 gI _,?_⟩));have hD:s.heap.objs.size < h'.objs.size:=Ο (kp _ _ (Ν _ rfl));have old:∀b o,s.heap.get? b=some o->(h'.push {cls:=.type "tuple_iterator",data:=.fields #[.ref l,rawInt 0]}).get? b=some o:=λb o e=>Γ _ (kp b o (Γ _ e));have lt:∀b o,s.heap.get? b=some o->b < s.heap.objs.size:=λb o e=>Ο e;have ll:=lt _ _ eo;refine P4 ps (Ρ hD) (Ρ ll) (Ρ (Ι4 ll hD)) XA.length 0 (by simp) X.A.in1 _ _ [] hA ⟨_,Ν _ rfl,rfl,rfl⟩ ⟨_,old _ _ eo,rfl,n,rfl⟩ (λj _ hj=>?_) ?_ (by simp only[Α8];omega) oQ λhF tkF hdF kpF=>?_
 ·obtain⟨t,kv,k,v,a1,a2,⟨o,ho,r⟩,a4,_⟩:=pat j hj;have tl:=lt _ _ ho;exact⟨t,kv,k,v,a1,a2,⟨o,old _ _ ho,r⟩,a4,Ρ (Ι4 tl hD),Ρ tl⟩
 ·obtain⟨o,es,ep,ho,r⟩:=Zk;exact⟨o,es,ep,Γ _ (kp _ _ ho),r⟩
 ·rw[List.drop_zero] at hdF;have kl:kvs.length<=sizeLine:=by rw[<- hp.1];exact z
  have ml:=qW kvs [];refine⟨rfl,.ref s.heap.objs.size,Xz H s.heap.objs.size 0e0,I.laid (λb o e=>kpF b o (Ρ (lt _ _ e)) (Ρ (Ι4 (lt _ _ e) hD)) (old _ _ e)) (Ζ _)
   (qM (by simp only[Α8] at ml;omega) (Β6.mpr (Ε6 (Ρ I.big))) (rel.merge .nil) hdF),rfl,q _ (I.XF.fresh (Ζ _))⟩
def Oo{l:Addr}{Q:VK}:Kg [.ref l] H Q = ∃xs kvs,nJ H l xs/\jA H xs kvs/\∀p,H p=none->Q (.ref p) (Xz H p 0e0):=rfl
end
section
variable{o e:Expr}{td ty:TE}{apos XG:Pos}{d:Addr}{kvs:List (Key×V)}
end
section
variable{o e:Expr}{to te:TE}{apos XG:Pos}
end
section
variable{o e:Expr}{to te:TE}{apos XG:Pos}
end
section
variable{o e:Expr}{to te:TE}{apos XG:Pos}
end
section
variable{a:Expr}{ta:TE}{pos:Pos}
end
mutual
example:=[]
def kP{α:Type}:List α->List α
 | _::y::r=>y::kP r
 | _=>[]
theorem xY{α β:Type}{f g:α->Option β}:∀{l:List α},(∀x∈l,f x=g x)->l.filterMap f=l.filterMap g
 | [],_=>rfl
 | x::l,h=>by rw[Η2,Η2,h x (by simp),xY λy hy=>h y (by simp[hy])]
theorem Bf{α:Type}:∀xs:List α,(List.range (xs.length / 2)).filterMap (λk=>xs[1+2 * k]?)=kP xs
 | []=>by simp[kP]
 | [_]=>by simp[kP]
 | x::y::r=>by
  have ih:=Bf r;rw[show(x::y::r).length / 2=r.length / 2+1 by simp only[Κ];omega,List.range_succ_eq_map,Η2,List.filterMap_map];show y::_=y::kP r;rw[<- ih];refine Η5 (y::·) (xY λk _=>?_);show(x::y::r)[1+2 * (k+1)]?=r[1+2 * k]?;rw[show 1+2 * (k+1)=(1+2 * k)+1+1 by omega];rfl
theorem yS{α:Type}:∀xs:List α,(kP xs).length<=xs.length
 | []=>by simp[kP]
 | [_]=>by simp[kP]
 | _::_::r=>by have:=yS r;simp only[kP,Κ];omega
theorem XD.kP:∀{xs:List V} {us:List Value},XD xs us->XD (kP xs) (kP us)
 | _,_,.nil=>.nil
 | _,_,.cons _ .nil=>.nil
 | _,_,.cons _ (.cons b c)=>.cons b (XD.kP c)
end
section
mutual
example:=[some 1,(by decide),.ref sl,(Β ⟨_,rfl,Β h⟩),(items.size / 2),model prog w]
variable{prog:Program}{w:World}{E:q0A}
theorem uQ{sl:Addr}{vl vs:Value}{n:Nat}{Q:Int×Int×Nat->Shared->Prop}(hs:s.heap.IsSliceOf sl vl .none vs)(pl:IsPart vl 0e0)(ps:IsPart vs (some 2))(h:Q (((min 1 n:Nat):Int),2,n / 2) s):wpAny 5e0 A (Builtin.Slice.sliceApplied 2e0 (pure (n:Int))) Q E s:=by
 obtain⟨os,ZL,ZZ,ZI⟩:=id hs;unfold Builtin.Slice.sliceApplied Builtin.Slice.sliceFields;refine Α (Α (Η4 ZL ZI (x:=vl) rfl (Α (Η4 ZL ZI (x:=.none) rfl (Α (Η4 ZL ZI (x:=vs) rfl (Β ?_)))))));refine Α (HT.kE ps ?_);show wpAny _ _ (if ((2:Int)==0)=true then _ else _) _ _ s;rw[if_neg 1e0];refine Α (HT.kE pl (Α (HT.kE .none (Α (Β ?_)))));show wpAny _ _ (match Builtin.Slice.sliceAdjust 0e0 none 2 (n:Int) with|(lo,hi)=>pure (lo,(2:Int),Builtin.Slice.slicePlaces lo hi 2)) _ _ s;have e:Builtin.Slice.sliceAdjust 0e0 none 2 (n:Int)=(((min 1 n:Nat):Int),(n:Int)):=by
  have h1:¬ ((2:Int) < 0):=by omega
  unfold Builtin.Slice.sliceAdjust;simp only[h1,Η8];refine Prod.ext ?_ rfl;have h2:¬ ((1:Int) < 0):=by omega
  simp only[h2,Η8];omega
 rw[e];show wpAny _ _ (pure (((min 1 n:Nat):Int),(2:Int),Builtin.Slice.slicePlaces ((min 1 n:Nat):Int) (n:Int) 2)) _ _ s;have e2:Builtin.Slice.slicePlaces ((min 1 n:Nat):Int) (n:Int) 2=n / 2:=by
  unfold Builtin.Slice.slicePlaces;have h1:(2:Int) > 0:=by omega
  simp only[h1,if_true];split<;>omega
 rw[e2];exact Β h
theorem sF{t sl:Addr}{vl vs:Value}{Q:q0A}(ht:IsTup s.heap t items)(hs:s.heap.IsSliceOf sl vl .none vs)(pl:IsPart vl 0e0)(ps:IsPart vs (some 2))(h:Q (.ref s.heap.objs.size) {s with heap:=s.heap.push {cls:=.type "tuple",data:=.seq (kP items.toList).toArray}})(hsz:items.size<=sizeLine):wpAny 5e0 A (getItem (.ref t) 2e0) Q E s:=by
 have Yv:sizeOk (.seq (kP items.toList).toArray):=by
  show(kP items.toList).toArray.size<=sizeLine;have:=yS items.toList;rw[Γ9] at this;rw[Η];exact ϕ this hsz
 obtain⟨os,ZL,ZZ,ZI⟩:=id hs;have hTs:s.TypeIs 2e0 "slice":=⟨os,ZL,ZZ⟩;unfold getItem
 try with_reducible refine Β8 ?_
 first|refine Α (Β ?_)|skip
 refine Α (wpAny_sequenceKey ht.typeIs 1e0 ?_);refine Α (Β2 (name:=Str.ofString "__getitem__") ht.typeIs Α3
  (Α9 Α3 ht.typeIs entry_tuple_getitem ?_ (args_tuple_getitem _ _)))
 show wpAny _ _ (Builtin.Tuple.tupleItemsOf (.ref t) >>= _) _ _ s;refine Α (tupleItemsOf_ ht ?_);refine Α (Ε8 hTs ?_);rw[if_pos 1e0];refine Α (uQ hs pl ps ?_);show wpAny _ _ (if (((min 1 items.size:Nat):Int)==0&&(2:Int)==1&&4e0==items.size)=true then _ else _) _ _ s;rw[if_neg (by simp)];have e:((List.range 4e0).filterMap fun(k:Nat)=>items[(((min 1 items.size:Nat):Int)+(k:Int) * 2).toNat]?)=kP items.toList:=by
  rw[<- Bf,Γ9];refine xY λk hk=>?_;have YQ:=Κ1.mp hk;rw[Ε7]
  congr 1
  omega
 rw[e]
 first
  | exact Α (m:=Builtin.Tuple.tupleExact _) (ϙ 3e0 Yv)
  | exact Α (m:=Builtin.Tuple.tupleExact _) (ϙ (Α (Β 3e0)) Yv)
end
end
section
mutual
example:=[.Slice lo none (some st) p2,Xz H4 p (.tup (kP xs))]
def VR(K:q0B)(te:TE)(tl th ts:TO):TE:=λσ H Q=>te σ H λx H1=>tl σ H1 λl H2=>th σ H2 λu H3=>ts σ H3 λk H4=>∃a xs,x=.ref a/\cJ K H4 a xs/\l=some 1/\u=none/\k=some 2/\∀p,H4 p=none->Q (.ref p) 1e0
def Jp{e:Expr}{te:TE}{lo:Option Expr}{st:Expr}{tl th ts:TO}{p2 pos:Pos}(he:PE X e te)(hl:PO X lo tl)(hu:PO X none th)(hs:PO X (some st) ts):PE X (.Subscript e 0e0 pos) (VR X.K te tl th ts):=by
 intro Xy s σ H Q I h;refine Subscript_ (thn (he Xy s σ H _ I h) λv s1 ⟨x,H1,I1,r1,q1⟩=>?_);refine wpAny_Slice (thn (hl Xy s1 σ H1 _ I1 q1) λvl s2 ⟨l,H2,I2,pl,q2⟩=>thn (hu Xy s2 σ H2 _ I2 q2) λvu s3 ⟨u,H3,I3,pu,q3⟩=>thn (hs Xy s3 σ H3 _ I3 q3) λvk s4 ⟨k,H4,I4',pk,q4⟩=>?_);have I4:XC X Xy σ H4 {s4 with heap:=s4.heap.push {cls:=.type "slice",data:=.fields #[vl,vu,vk]}}:=I4'.kept (t':=s4.toks) λb ob q=>Γ _ q;obtain⟨a,xs,rfl,hx,rfl,rfl,rfl,q⟩:=q4;cases r1;cases pu;obtain⟨XA,r,ht,hz⟩:=I4.tuple hx;have hlen:XA.toArray.size=xs.length:=by rw[Η];exact r.length.symm
 show wpAny (model X.prog X.w) X.A (subscriptTail e 0e0 (.ref a) (.ref s4.heap.objs.size)) (EP X Xy σ Q) X.xe {s4 with heap:=s4.heap.push {cls:=.type "slice",data:=.fields #[vl,.none,vk]}};refine tail_any (ops:=[.ref a,.ref s4.heap.objs.size]) ht.typeIs Α3.lookup ?_ (by with_unfolding_all rfl);refine sF ht (Heap.IsSliceOf.new ..) pl pk ?_ (by rw[hlen];exact hz);refine⟨.ref (s4.heap.push {cls:=.type "slice",data:=.fields #[vl,.none,vk]}).objs.size,_,I4.laid (t':=s4.toks) (o:=.tup (kP xs)) (λb ob q=>Γ _ q) (Ζ _) ?_,rfl,q _ (I4.XF.fresh (Ζ _))⟩;exact⟨ϕ (yS xs) hz,_,r.kP,IsTup.new _ _⟩
def Vg{te:TE}{tl th ts:TO}{σ:St}{Q:VK}:VR K te tl th ts σ H Q=te σ H λx H1=>tl σ H1 λl H2=>th σ H2 λu H3=>ts σ H3 λk H4=>∃a xs,x=.ref a/\cJ K H4 a xs/\l=some 1/\u=none/\k=some 2/\∀p,H4 p=none->Q (.ref p) 1e0:=rfl
end
end
section
variable{Xy:List (Addr×Obj)}{σ:St}{G:Hp}{z:Shared}
end
section
variable{kk:Nat}{f:Addr}{fd:FuncData}{ps:List Str}{sp:Sp}
end
inductive Dv where
 | XB|int (i:Int)|str (x:Str)|tup (l:List Dv)
variable{ks:List (Dv×Addr)}{xs:List (Dv×Addr×Value)}
noncomputable instance:DecidableEq Dv:=Classical.typeDecidableEq Dv
mutual
noncomputable def Dv.dep:Dv->Nat
 | .tup l=>Dv.eS l+1
 | _=>0
noncomputable def Dv.eS:List Dv->Nat
 | []=>0
 | d::r=>max d.dep (Dv.eS r)
end
mutual
noncomputable def CL(h:Heap):Dv->Value->Prop
 | .XB,v=>v=.none
 | .int i,v=>∃t,v=.int i t
 | .str x,v=>∃t,v=.str x t
 | .tup l,v=>∃a XA,v=.ref a/\IsTup h a XA/\kL h l XA.toList
noncomputable def kL(h:Heap):List Dv->List Value->Prop
 | [],vs=>vs=[]
 | d::ds,vs=>∃v r,vs=v::r/\CL h d v/\kL h ds r
end
mutual
noncomputable def Dv.hs(w:World):Dv->Int
 | .XB=>0xFCA86420
 | .int i=>hashInt i
 | .str x=>hashStr w x
 | .tup l=>reduceHash (Builtin.Tuple.tupleHashOf (Dv.hss w l))
noncomputable def Dv.hss(w:World):List Dv->List Int
 | []=>[]
 | d::r=>d.hs w::Dv.hss w r
end
mutual
noncomputable def Dv.dr:Dv->Nat
 | .tup l=>Dv.drs l+1
 | _=>1
noncomputable def Dv.drs:List Dv->Nat
 | []=>0
 | d::r=>d.dr+Dv.drs r
end
def AV{x y:Array Value}(p:IsTup h a x)(q:IsTup h a y):x=y:=by
 obtain⟨o,e1,_,n,d1⟩:=p;obtain⟨o2,e2,_,n2,d2⟩:=q;rw[e1] at e2;cases e2;rw[d1] at d2;cases d2;rfl
mutual
theorem CL.inj{h:Heap}:∀{d e:Dv} {v:Value},CL h d v->CL h e v->d=e
 | .XB,.XB,_,_,_=>rfl
 | .int i,.int j,v,x,y=>by obtain⟨t,rfl⟩:=x;obtain⟨u,e⟩:=y;cases e;rfl
 | .str i,.str j,v,x,y=>by obtain⟨t,rfl⟩:=x;obtain⟨u,e⟩:=y;cases e;rfl
 | .tup l,.tup m,v,x,y=>by
  obtain⟨a,XA,rfl,t1,x⟩:=x;obtain⟨b,YT,e,t2,y⟩:=y;cases e;cases AV t1 t2;rw[kL.inj x y]
 | .XB,.int _,_,x,y=>by obtain⟨_,e⟩:=y;rw[show _=Value.none from x] at e;cases e
 | .XB,.str _,_,x,y=>by obtain⟨_,e⟩:=y;rw[show _=Value.none from x] at e;cases e
 | .XB,.tup _,_,x,y=>by obtain⟨_,_,e,_⟩:=y;rw[show _=Value.none from x] at e;cases e
 | .int _,.XB,_,x,y=>by obtain⟨_,e⟩:=x;rw[show _=Value.none from y] at e;cases e
 | .int _,.str _,_,x,y=>by obtain⟨_,e⟩:=x;obtain⟨_,g⟩:=y;rw[e] at g;cases g
 | .int _,.tup _,_,x,y=>by obtain⟨_,e⟩:=x;obtain⟨_,_,g,_⟩:=y;rw[e] at g;cases g
 | .str _,.XB,_,x,y=>by obtain⟨_,e⟩:=x;rw[show _=Value.none from y] at e;cases e
 | .str _,.int _,_,x,y=>by obtain⟨_,e⟩:=x;obtain⟨_,g⟩:=y;rw[e] at g;cases g
 | .str _,.tup _,_,x,y=>by obtain⟨_,e⟩:=x;obtain⟨_,_,g,_⟩:=y;rw[e] at g;cases g
 | .tup _,.XB,_,x,y=>by obtain⟨_,_,e,_⟩:=x;rw[show _=Value.none from y] at e;cases e
 | .tup _,.int _,_,x,y=>by obtain⟨_,_,e,_⟩:=x;obtain⟨_,g⟩:=y;rw[e] at g;cases g
 | .tup _,.str _,_,x,y=>by obtain⟨_,_,e,_⟩:=x;obtain⟨_,g⟩:=y;rw[e] at g;cases g
theorem kL.inj{h:Heap}:∀{d e:List Dv} {v:List Value},kL h d v->kL h e v->d=e
 | [],[],_,_,_=>rfl
 | [],_::_,_,x,y=>by obtain⟨_,_,e,_⟩:=y;rw[show _=[] from x] at e;cases e
 | _::_,[],_,x,y=>by obtain⟨_,_,e,_⟩:=x;rw[show _=[] from y] at e;cases e
 | _::_,_::_,_,x,y=>by
  obtain⟨u,r,rfl,x1,x2⟩:=x;obtain⟨_,_,e,y1,y2⟩:=y;cases e;rw[CL.inj x1 y1,kL.inj x2 y2]
end
mutual
theorem CL.to{h h':Heap}(k:∀a XA,IsTup h a XA->IsTup h' a XA):∀{d:Dv} {v:Value},CL h d v->CL h' d v
 | .XB,_,x=>x
 | .int _,_,x=>x
 | .str _,_,x=>x
 | .tup l,_,x=>by
  obtain⟨a,XA,e,t,x⟩:=x;exact⟨a,XA,e,k _ _ t,kL.to k x⟩
theorem kL.to{h h':Heap}(k:∀a XA,IsTup h a XA->IsTup h' a XA):∀{d:List Dv} {v:List Value},kL h d v->kL h' d v
 | [],_,x=>x
 | _::_,_,x=>by
  obtain⟨u,r,e,x1,x2⟩:=x;exact⟨u,r,e,CL.to k x1,kL.to k x2⟩
end
theorem kL.len{h:Heap}:∀{d:List Dv} {v:List Value},kL h d v->d.length=v.length
 | [],_,x=>by rw[show _=[] from x];rfl
 | _::_,_,x=>by obtain⟨u,r,rfl,_,x2⟩:=x;simp[kL.len x2]
theorem kL.at{h:Heap}:∀{d:List Dv} {v:List Value},kL h d v->∀{j:Nat} (h1:j < d.length) (h2:j < v.length),CL h d[j] v[j]
 | [],_,_,j,h1,_=>absurd h1 (Nat.not_lt_zero _)
 | e::ds,_,x,j,h1,h2=>by
  obtain⟨u,r,rfl,x1,x2⟩:=x;cases j with
  | zero=>exact x1
  | succ j=>exact kL.at x2 (Nat.lt_of_succ_lt_succ h1) (Nat.lt_of_succ_lt_succ h2)
theorem Dv.pK:∀{l:List Dv} {j:Nat} (h:j < l.length),l[j].dep<=Dv.eS l
 | [],_,h=>absurd h (Nat.not_lt_zero _)
 | d::r,0,_=>by simp only[Dv.eS,List.getElem_cons_zero];omega
 | d::r,j+1,h=>by
  have:=Dv.pK (l:=r) (j:=j) (Nat.lt_of_succ_lt_succ h);simp only[Dv.eS,List.getElem_cons_succ];omega
section
variable{w:World}{E:q0A}
mutual
theorem GN:∀(d:Dv) (v:Value) (A:Around) (s:Shared) (Q:Int->Shared->Prop),CL s.heap d v->A.units+d.dep < cLine->Q (d.hs w) {s with toks:=s.toks+d.dr}->wpAny (model P w) A (pyHash v) Q E s
 | .XB,_,A,s,Q,x,hu,h=>by
  cases (show _=Value.none from x);exact PySem.W.pyHash_slot (T:="NoneType") rfl F.slot_NoneType_hash F.entry_NoneType_hash (F.args_NoneType_hash_1 _) (beq_builtin_none _) (.inl rfl) (Α (Β (Α (wpAny_mkInt (Β ⟨_,_,rfl,h⟩)))))
 | .int i,_,A,s,Q,x,_,h=>by obtain⟨t,rfl⟩:=x;exact wpAny_pyHash_int h
 | .str y,_,A,s,Q,x,_,h=>by obtain⟨t,rfl⟩:=x;exact wpAny_pyHash_str h
 | .tup l,_,A,s,Q,x,hu,h=>by
  obtain⟨a,XA,rfl,⟨o,hg,Zh,n,hd⟩,x⟩:=x;refine PySem.W.pyHash_slot (T:="tuple") ⟨_,hg,Zh⟩ F.slot_tuple_hash F.entry_tuple_hash (F.args_tuple_hash_1 _) (beq_builtin_none _) (.inr (by omega)) ?_;show wpAny _ _ (Builtin.Tuple.tupleItemsOf (.ref a) >>= _) _ _ s;refine Α (wpAny_tupleItemsOf hg hd ?_);refine Α ?_;rw[<- Array.forIn_toList];refine Dk l XA.toList A.in1 s #[] _ x (by simp only[Dv.dep,Around.in1_units] at hu ⊢;omega) λb hb=>?_;show wpAny _ _ (retInt (Builtin.Tuple.tupleHashOf b.toList)) _ _ _;rw[hb];refine Α (wpAny_mkInt (Β ⟨_,_,rfl,?_⟩));simp only[Dv.hs,Dv.dr] at h;simpa[Nat.add_assoc] using h
theorem Dk:∀(l:List Dv) (vs:List Value) (A:Around) (s:Shared) (b:Array Int) (Q:Array Int->Shared->Prop),kL s.heap l vs->A.units+Dv.eS l < cLine ->
    (∀b',b'.toList=b.toList++Dv.hss w l->Q b' {s with toks:=s.toks+Dv.drs l}) ->
    wpAny (model P w) A (forIn vs b λx r=>do let h <- pyHash x;pure PUnit.unit;pure (ForInStep.yield (r.push h))) Q E s
  | [],_,A,s,b,Q,x,_,h=>by cases (show _=[] from x);exact Β (h b (by simp[Dv.hss]))
  | k::xs,_,A,s,b,Q,x,hu,h=>by
    obtain⟨u,r,rfl,x1,x2⟩:=x;simp only[Dv.eS] at hu;rw[List.forIn_cons];refine Α (Α (GN k _ A s _ x1 (by omega) ?_));refine Α (Β (Β ?_));refine Dk xs _ A _ _ Q x2 (by omega) λb' hb=>?_;have:=h b' (by simp[hb,Dv.hss]);simpa[Dv.drs,Nat.add_assoc] using this
end
theorem MA:∀(n:Nat) (d:Dv) (v:Value) (A:Around) (s:Shared) (Q:Bool->Shared->Prop),CL s.heap d v->d.dep<=n->Q true s->wpAny (model P w) A (eqIsQuiet n v) Q E s:=by
 intro n
 induction n with
 | zero =>
  intro d v A s Q x hd h;cases d with
  | XB=>cases (show _=Value.none from x);rw[Κ6 _ rfl];exact Β h
  | int i=>obtain⟨t,rfl⟩:=x;rw[Κ6 _ rfl];exact Β h
  | str i=>obtain⟨t,rfl⟩:=x;rw[Κ6 _ rfl];exact Β h
  | tup l=>simp[Dv.dep] at hd
 | succ n ih =>
  intro d v A s Q x hd h;cases d with
  | XB=>cases (show _=Value.none from x);rw[Κ6 _ rfl];exact Β h
  | int i=>obtain⟨t,rfl⟩:=x;rw[Κ6 _ rfl];exact Β h
  | str i=>obtain⟨t,rfl⟩:=x;rw[Κ6 _ rfl];exact Β h
  | tup l =>
   obtain⟨a,XA,rfl,⟨o,hg,Zh,m,hdt⟩,x⟩:=x;simp only[Dv.dep] at hd;have hT:s.TypeIs (.ref a) "tuple":=⟨o,hg,Zh⟩;unfold eqIsQuiet;refine Α (Ι0 hT F.slot_tuple_eq.lookup ?_);show wpAny _ _ (isInstance (.ref a) (.type "tuple") >>= _) _ _ s;refine Α (Ι5 hT isSubtype_tuple_tuple ?_);simp only[Bool.not_true,Δ2,Η8];refine Α (wpAny_seqItems hg hdt ?_);refine Α ?_;show wpAny _ _ (forIn XA _ _) _ _ s;rw[<- Array.forIn_toList];refine wpAny_forIn_list _ (λrest r s'=>r.1=none/\s'=s/\∃ds,kL s.heap ds rest/\Dv.eS ds<=n) _ ?_ ?_ _ _ ⟨rfl,rfl,l,x,by omega⟩
   ·rintro v rest r s' ⟨hr,rfl,ds,ZI,sub⟩;cases ds with
    | nil=>cases (show _=[] from ZI)
    | cons d ds =>
     obtain⟨v',r',e,x1,x2⟩:=ZI;cases e;simp only[Dv.eS] at sub;refine Α (ih d v A _ _ x1 (by omega) ?_);simp only[Bool.not_true,Δ2,Η8];exact Β ⟨rfl,rfl,ds,x2,by omega⟩
   ·rintro⟨r1,r2⟩ s' ⟨hr,rfl,_⟩;simp only at hr;subst hr;exact Β h
end
mutual
example:=[(by omega),(by simp only[Dv.dep] at hu2;omega),l[j]?=m[j]?]
theorem Gc:∀{l m:List Dv},((List.range (min l.length m.length)).all (λj=>decide 2e0)&&l.length==m.length)=decide (l=m):=by
 intro l m;rw[Γ5];simp only[Β3,Δ5,Κ1,Ζ8,beq_iff_eq];constructor
 ·rintro⟨h,e⟩;refine List.ext_getElem? λj=>?_;by_cases c:j < min l.length m.length
  ·exact h j c
  ·rw[Δ8 0e0,Δ8 0e0]
 ·rintro rfl;exact⟨λ_ _=>rfl,rfl⟩
theorem Qt:∀(n:Nat) (d e:Dv) (u v:Value) (A:Around) (s:Shared),d.dep<=n->CL s.heap d u->CL s.heap e v->A.units+d.dep < cLine->A.units+e.dep < cLine->SeqAt.EqAt A s u v (decide (d=e)):=by
 intro n
 induction n with
 | zero =>
  intro d e u v A s hd x y hu hu2;cases d with
  | tup l=>simp[Dv.dep] at hd
  | XB =>
   cases (show _=Value.none from x);cases e with
   | XB=>cases (show _=Value.none from y);simpa using SeqAt.EqAt.same (A:=A) (s:=s) Value.none
   | int j=>obtain⟨t,rfl⟩:=y;simpa using SeqAt.EqAt.none_int (A:=A) (s:=s) j t
   | str j=>obtain⟨t,rfl⟩:=y;simpa using SeqAt.EqAt.none_str (A:=A) (s:=s) j t
   | tup m=>obtain⟨a,XA,rfl,⟨o,hg,Zh,k,hd⟩,y⟩:=y;simpa using SeqAt.EqAt.none_tuple (A:=A) (show s.heap.IsTuple a XA from ⟨o,hg,Zh,k,hd⟩) 1e0
  | int i =>
   obtain⟨t,rfl⟩:=x;cases e with
   | XB=>cases (show _=Value.none from y);simpa using SeqAt.EqAt.int_none (A:=A) (s:=s) i t
   | int j=>obtain⟨t',rfl⟩:=y;have:=SeqAt.EqAt.int_int (A:=A) (s:=s) i t j t';rwa [show(i==j)=decide (Dv.int i=Dv.int j) by rw[Γ5];simp] at this
   | str j=>obtain⟨t',rfl⟩:=y;simpa using SeqAt.EqAt.int_str (A:=A) (s:=s) i t j t'
   | tup m=>obtain⟨a,XA,rfl,⟨o,hg,Zh,k,hd⟩,y⟩:=y;simpa using SeqAt.EqAt.int_tuple (A:=A) i t (show s.heap.IsTuple a XA from ⟨o,hg,Zh,k,hd⟩) 1e0
  | str i =>
   obtain⟨t,rfl⟩:=x;cases e with
   | XB=>cases (show _=Value.none from y);simpa using SeqAt.EqAt.str_none (A:=A) (s:=s) i t
   | int j=>obtain⟨t',rfl⟩:=y;simpa using SeqAt.EqAt.str_int (A:=A) (s:=s) i t j t'
   | str j=>obtain⟨t',rfl⟩:=y;have:=SeqAt.EqAt.str_str (A:=A) (s:=s) i t j t';rwa [show(i==j)=decide (Dv.str i=Dv.str j) by rw[Γ5];simp] at this
   | tup m=>obtain⟨a,XA,rfl,⟨o,hg,Zh,k,hd⟩,y⟩:=y;simpa using SeqAt.EqAt.str_tuple (A:=A) i t (show s.heap.IsTuple a XA from ⟨o,hg,Zh,k,hd⟩) 1e0
 | succ n ih =>
  intro d e u v A s hd x y hu hu2;cases d with
  | XB=>exact ih _ _ _ _ _ _ (ϖ _) x y hu hu2
  | int i=>exact ih _ _ _ _ _ _ (ϖ _) x y hu hu2
  | str i=>exact ih _ _ _ _ _ _ (ϖ _) x y hu hu2
  | tup l =>
   obtain⟨a,XA,rfl,t1,x⟩:=x;simp only[Dv.dep] at hd hu;cases e with
   | XB=>cases (show _=Value.none from y);simpa using SeqAt.EqAt.tuple_none (A:=A) (show s.heap.IsTuple a XA from t1) 0e0
   | int j=>obtain⟨t,rfl⟩:=y;simpa using SeqAt.EqAt.tuple_int (A:=A) j t (show s.heap.IsTuple a XA from t1) 0e0
   | str j=>obtain⟨t,rfl⟩:=y;simpa using SeqAt.EqAt.tuple_str (A:=A) j t (show s.heap.IsTuple a XA from t1) 0e0
   | tup m =>
    obtain⟨b,YT,rfl,t2,y⟩:=y;simp only[Dv.dep] at hu2;by_cases c:a=b
    ·subst c;cases AV t1 t2;rw[kL.inj x y];simpa using SeqAt.EqAt.same (A:=A) (s:=s) (.ref a)
    ·refine SeqAt.EqAt.of_refs c ?_;have l1:l.length=XA.size:=by have:=x.len;simpa using this
     have l2:m.length=YT.size:=by have:=y.len;simpa using this
     have:=SeqAt.RcAt.tuples (show s.heap.IsTuple a XA from t1) (show s.heap.IsTuple b YT from t2) 0e0 (A:=A) (e:=λj=>decide 2e0) (λj h1 h2=>by
      have x1:=x.at (j:=j) 0e0 (by simpa using h1);have y1:=y.at (j:=j) 0e0 (by simpa using h2);have:=ih l[j] m[j] _ _ A.in1 s (ϕ (Dv.pK _) 0e0) x1 y1 (by have:=Dv.pK (l:=l) (j:=j) 0e0;show A.units+1+_ < _;omega) (by have:=Dv.pK (l:=m) (j:=j) 0e0;show A.units+1+_ < _;omega);rw[show decide 2e0=decide (l[j]=m[j]) by
       rw[Μ 0e0,Μ 0e0,Γ5];simp]
      simpa using this)
     rw[<- l1,<- l2,Gc] at this
     rwa [show decide (Dv.tup l=Dv.tup m)=decide (l=m) by rw[Γ5];simp]
def nT(P:Program)(w:World):HeapKind P w Dv where
 is:=λh k a=>k.dep<=8/\CL h k (.ref a)
 hash:=λk=>k.hs w
 draws:=λk=>k.dr
 room:=λA=>A.units+8 < cLine
 inj:=λhx hy=>hx.2.inj hy.2
 keeps:=λx ho hd hs=>⟨x.1,x.2.to λb XA t=>by
  obtain⟨o,e,c,n,dd⟩:=t;refine⟨o,(hs.2 b (λz=>?_)).trans e,c,n,dd⟩;subst z;rw[ho] at e;cases e;rw[hd] at dd;cases dd⟩
 pyHash:=λ{A E s k a Q} hu hk h=>GN k _ A s Q hk.2 (by have:=hk.1;omega) h
 eqBool:=λ{A E s x y a b Q} hu hx hy h=>Qt 8 x y _ _ A s hx.1 hx.2 hy.2 (by have:=hx.1;omega) (by have:=hy.1;omega) P w E Q h
 quiet:=λ{A E s k a Q} hk h=>MA 8 k _ A s Q hk.2 hk.1 h
end
mutual
noncomputable def kK(K:q0B)(H:Hp):Dv->V->Prop
 | .XB,v=>v=.XB
 | .int i,v=>v=.int i
 | .str x,v=>v=.str x
 | .tup l,v=>∃a xs,v=.ref a/\cJ K H a xs/\lD K H l xs
noncomputable def lD(K:q0B)(H:Hp):List Dv->List V->Prop
 | [],vs=>vs=[]
 | d::ds,vs=>∃v r,vs=v::r/\kK K H d v/\lD K H ds r
end
mutual
theorem kK.kt{K:q0B}{H H':Hp}(k:∀a xs,cJ K H a xs->cJ K H' a xs):∀{d:Dv} {v:V},kK K H d v->kK K H' d v
 | .XB,_,x=>x
 | .int _,_,x=>x
 | .str _,_,x=>x
 | .tup l,_,x=>by
  obtain⟨a,xs,e,t,x⟩:=x;exact⟨a,xs,e,k _ _ t,lD.kt k x⟩
theorem lD.kt{K:q0B}{H H':Hp}(k:∀a xs,cJ K H a xs->cJ K H' a xs):∀{d:List Dv} {v:List V},lD K H d v->lD K H' d v
 | [],_,x=>x
 | _::_,_,x=>by
  obtain⟨u,r,e,x1,x2⟩:=x;exact⟨u,r,e,kK.kt k x1,lD.kt k x2⟩
end
def cJ.up{K:q0B}{H:Hp}{a:Addr}{o:HO}(h:∀xs,¬ Rd H a (.tup xs))(b:Addr)(xs:List V)(x:cJ K H b xs):cJ K (Xz H a o) b xs:=by
 rcases x with x|x
 ·left;have n:b≠a:=λz=>h xs (z▸x);rcases x with x|⟨q,x⟩
  ·exact .inl (by rw[aC n];exact x)
  ·exact .inr ⟨q,by rw[aC n];exact x⟩
 ·exact .inr x
section
variable{Xy:List (Addr×Obj)}{σ:St}
mutual
theorem tO(I:XC X Xy σ H s):∀{d:Dv} {v:V} {u:Value},kK X.K H d v->bC v u->CL s.heap d u
 | .XB,_,_,x,r=>by cases (show _=V.XB from x);exact r
 | .int _,_,_,x,r=>by cases (show _=V.int _ from x);exact r
 | .str _,_,_,x,r=>by cases (show _=V.str _ from x);exact r
 | .tup l,_,_,x,r=>by
  obtain⟨a,xs,rfl,t,x⟩:=x;obtain⟨XA,rv,p,_⟩:=I.tuple t;exact⟨a,XA.toArray,r,p,by simpa using Gv I x rv⟩
theorem Gv(I:XC X Xy σ H s):∀{d:List Dv} {v:List V} {u:List Value},lD X.K H d v->XD v u->kL s.heap d u
 | [],_,_,x,r=>by cases (show _=[] from x);cases r;rfl
 | _::_,_,_,x,r=>by
  obtain⟨v,vs,rfl,x1,x2⟩:=x;cases r with
  | cons r1 r2=>exact⟨_,_,rfl,tO I x1 r1,Gv I x2 r2⟩
end
end
mutual
example:=[(by omega),.tup l,(ks++[(.tup l,b)]),(fV P w a 2e0),(λx=>(x.1,x.2.1)),a==sysModules,.ref b,(ks.any λk=>decide (k.1=.tup l)),l[j]?=m[j]?,fV P w a ks]
theorem VJ{l m:List Dv}{b:Addr}(x:CL s.heap 1e0 (.ref a))(y:CL s.heap (.tup m) 6e0)(hu:A.units+Dv.eS l+1 < cLine)(hu2:A.units+Dv.eS m+1 < cLine):SeqAt.RcAt A s (.ref a) 6e0 (decide (l=m)):=by
 obtain⟨_,XA,e1,t1,x⟩:=x;obtain⟨_,YT,e2,t2,y⟩:=y;cases e1;cases e2;have l1:l.length=XA.size:=by have:=x.len;simpa using this
 have l2:m.length=YT.size:=by have:=y.len;simpa using this
 have:=SeqAt.RcAt.tuples (show s.heap.IsTuple a XA from t1) (show s.heap.IsTuple b YT from t2) 0e0 (A:=A) (e:=λj=>decide 8e0) (λj h1 h2=>by
  have x1:=x.at (j:=j) 0e0 (by simpa using h1);have y1:=y.at (j:=j) 0e0 (by simpa using h2);have:=Qt _ l[j] m[j] _ _ A.in1 s (Ζ _) x1 y1 (by have:=Dv.pK (l:=l) (j:=j) 0e0;show A.units+1+_ < _;omega) (by have:=Dv.pK (l:=m) (j:=j) 0e0;show A.units+1+_ < _;omega);rw[show decide 8e0=decide (l[j]=m[j]) by
   rw[Μ 0e0,Μ 0e0,Γ5];simp]
  simpa using this)
 rw[<- l1,<- l2,Gc] at this;exact this
def Qg(K:q0B):R2:=λx y H Q=>∃l m,kK K H 1e0 x/\kK K H (.tup m) y/\Dv.eS l<=20/\Dv.eS m<=20/\Q (.bl (decide (l=m))) H
theorem Pc{k:Nat}(hr:Room k X.A):i9 X (compareOp .Eq) (Qg X.K):=λXy s σ H x y v u Q I rx ry h=>by
 obtain⟨l,m,hx,hy,h1,h2,q⟩:=h;obtain⟨a,_,rfl,_⟩:=id hx;obtain⟨b,_,rfl,_⟩:=id hy;obtain rfl:v=Value.ref a:=rx;obtain rfl:u=Value.ref b:=ry;have hu:=nF hr (n:=40) (by decide);exact VJ (tO I hx rfl) (tO I hy rfl) 0e0 0e0 X.prog X.w X.xe _ (bI I q rfl)
def fV(P:Program)(w:World)(a:Addr)(ks:List (Dv×Addr)):HO:=.ext λh=>5e0=false/\∃(o:Obj) (es:Array DictEntry) (ep:Nat) (xs:List (Dv×Addr×Value)),h.get? a=some o/\o.ExactDict/\o.data=.dict es ep/\es.toList=xs.map (entryOfKey (nT P w))/\xs.map 4e0=ks/\(xs.map (·.1)).Nodup
structure gY(P:Program)(w:World)(K:q0B)(H:Hp)(a:Addr)(ks:List (Dv×Addr)):Prop where
 at_:H a=some 9e0
 ky:∀k∈ks,k.1.dep<=8/\kK K H k.1 (.ref k.2)
def GX{w:World}(z:5e0=false)(e:xs.map 4e0=ks)(dd:h.DictOfH (nT P w) a xs):c0 P w H h a 9e0:=by
 obtain⟨o,es,ep,ho,hx,hd,he,_,nd⟩:=dd;exact⟨⟨z,o,es,ep,xs,ho,hx,hd,he,e,nd⟩,⟨o,ho⟩,λh1 h2 ⟨z,o,es,ep,xs,ho,hx,hd,he,e,nd⟩ k=>⟨z,o,es,ep,xs,k _ ho,hx,hd,he,e,nd⟩⟩
def gY.dict{Xy:List (Addr×Obj)}{σ:St}(I:XC X Xy σ H s)(m:gY X.prog X.w X.K H a ks):5e0=false/\∃xs,s.heap.DictOfH (nT X.prog X.w) a xs/\xs.map 4e0=ks:=by
 obtain⟨⟨z,o,es,ep,xs,ho,hx,hd,he,e,nd⟩,_⟩:=I.XF a _ m.at_;refine⟨z,xs,⟨o,es,ep,ho,hx,hd,he,λx mx=>?_,nd⟩,e⟩;have:=m.ky (x.1,x.2.1) (by rw[<- e];exact Ϝ.mpr ⟨x,mx,rfl⟩);exact⟨this.1,tO I this.2 rfl⟩
theorem AH{k:Dv}:(atKey xs k).isSome=((xs.map λx=>(x.1,x.2.1)).any λy=>decide (y.1=k)):=by
 unfold atKey;rw[Option.isSome_map,List.any_map,Γ5,List.find?_isSome,Ι3];rfl
def QO(P:Program)(w:World)(K:q0B)(ty td:TE):TE:=λσ H Q=>ty σ H λy H1=>td σ H1 λx H2=>aU x λa=>∃ks l,gY P w K H2 a ks/\(Dv.tup l).dep<=8/\kK K H2 1e0 y/\Q (.bl (! 7e0)) H2
def QD(P:Program)(w:World)(K:q0B)(td ty tv:TE):TS:=λD σ H=>tv σ H λ_ H1=>td σ H1 λx H2=>ty σ H2 λy H3=>aU x λa=>∃ks l b,gY P w K H3 a ks/\y=.ref b/\(Dv.tup l).dep<=8/\kK K H3 1e0 y/\ks.length < sizeLine/\7e0=false /\
 D.nx σ (Xz H3 a 3e0)
def QN(P:Program)(w:World):TE:=λ_ H Q=>∀p,H p=none->Q (.ref p) (Xz H p (fV P w p []))
def Qm(P:Program)(w:World):List V->Hp->VK->Prop:=λvs H Q=>on1 vs λx=>aU x λp=>∃ks,H p=some (fV P w p ks)/\(ks.length:Int) < 2 ^ 63/\Q (.int ks.length) H
def gY.put{w:World}{b:Addr}{l:List Dv}(m:gY P w K H a ks)(hd:(Dv.tup l).dep<=8)(hk:kK K H 1e0 6e0):gY P w K (Xz H a 3e0) a 2e0:=by
 have kk:∀c xs,cJ K H c xs->cJ K (Xz H a 3e0) c xs:=cJ.up λxs r=>by
  rcases r with r|⟨q,r⟩<;>rw[m.at_] at r<;>cases r
 refine⟨aA,λk YQ=>?_⟩;rcases Υ.mp YQ with h|h
 ·exact⟨(m.ky k h).1,(m.ky k h).2.kt kk⟩
 ·cases Τ.mp h;exact⟨hd,hk.kt kk⟩
end
section
mutual
example:=[(by show X.A.units+1+8 < _;omega),ho Xy s1 σ H1 _ I1 q1]
variable{i o value:Expr}{ty td tv:TE}{pos pos':Pos}
theorem Hf(hu:X.A.units+9 < cLine)(hi:PE X i ty)(ho:PE X o td):PC X .NotIn i o (QO X.prog X.w X.K ty td):=by
 intro Xy s σ H Q I h;refine thn (hi Xy s σ H _ I h) λiv s1 ⟨y,H1,I1,ry,q1⟩=>thn 1e0 λu s2 ⟨x,H2,I2,rx,q2⟩=>?_;obtain⟨a,rfl,ks,l,m,hd,hk,q3⟩:=aN q2;obtain rfl:u=Value.ref a:=rx;obtain⟨b,xs,rfl,_⟩:=id hk;obtain rfl:iv=Value.ref b:=ry;obtain⟨z,ys,dd,e⟩:=m.dict I2;refine wpAny_notIn_heap (knd:=nT X.prog X.w) (k:=.tup l) 0e0 ⟨hd,tO I2 hk rfl⟩ z dd ?_;rw[AH,e];exact⟨.bl _,H2,I2.tok _,rfl,q3⟩
theorem Hn(hu:X.A.units+9 < cLine)(ho:PE X o td)(hi:PE X i ty)(hv:PE X value tv)(hs:swapsWith value (some (.Subscript o i pos')) pos.line X.env=pure false) : PS X (.Assign [.Subscript o i pos'] value pos) (QD X.prog X.w X.K td ty tv):=by
 intro Xy s σ H D I h;refine wpAny_Assign_Subscript (thn (hv Xy s σ H _ I h) λr s1 ⟨v,H1,I1,rv,q1⟩=>thn 1e0 λu s2 ⟨x,H2,I2,rx,q2⟩=>thn (hi Xy s2 σ H2 _ I2 q2) λiv s3 ⟨y,H3,I3,ry,q3⟩=>?_) hs;obtain⟨a,rfl,ks,l,b,m,rfl,hd,hk,hl,hno,q4⟩:=aN q3;obtain rfl:u=Value.ref a:=rx;obtain rfl:iv=Value.ref b:=ry;obtain⟨z,ys,dd,e⟩:=m.dict I3;have hyl:ys.length<=sizeLine:=by
  have:ys.length=ks.length:=by rw[<- e,Δ]
  omega
 refine wpAny_setItem_heap (knd:=nT X.prog X.w) (k:=.tup l) (hsz:=hyl) 0e0 ⟨hd,tO I3 hk rfl⟩ dd λh' YW Y9=>⟨σ,_,?_,q4⟩;have hn:atKey ys (.tup l)=none:=by
  have:=AH (xs:=ys) (k:=.tup l);rw[e,hno] at this;simpa using this
 rw[storedH_new hn] at YW;have he:∃q,h'.get? a=some q:=let ⟨q,_,_,hq,_⟩:=YW;⟨q,hq⟩;exact pD I3 (by rw[m.at_];exact True.intro) Y9 he (GX z (by simp[e]) YW)
def Hi:PE X (.Dict [] [] pos) (QN X.prog X.w):=λXy s σ H Q I h =>
 wpAny_Dict_empty ⟨.ref s.heap.objs.size,_,I.laid (a:=s.heap.objs.size) (o:=fV X.prog X.w s.heap.objs.size []) (t':=s.toks) (λ_ _ q=>Γ _ q) (Ζ _) (GX (xs:=[]) (Β6.mpr (Ε6 (Ρ I.big))) rfl (Heap.DictOfH.new _)),rfl,h _ (I.XF.fresh (Ζ _))⟩
def AM:eI X (.builtin "len") (Qm X.prog X.w):=λXy s σ H xs us Q I r h=>by
 obtain⟨x,rfl,h1⟩:=fY h;obtain⟨p,rfl,ks,e,hz,q⟩:=aN h1;obtain⟨u,rfl,ru⟩:=vals1 r;cases ru;obtain⟨⟨z,o,es,ep,ys,ho,hx,hd,he,ek,nd⟩,_⟩:=I.XF p _ e;have hl:es.size=ks.length:=by rw[<- Γ9,he,<- ek,Δ,Δ]
 refine OP z ⟨o,ho,hx,hd⟩ (by rw[hl];exact hz) ?_;exact⟨.int ks.length,H,(I.tok _).tok _,⟨_,by rw[hl]⟩,q⟩
end
end
section
mutual
example:=[.tup l,(ks.any λk=>decide (k.1=.tup l))]
variable{w:World}{ty td tv:TE}{σ:St}{Q:VK}{D:Ends}{p:Addr}{x y:V}
theorem RQ:Qg K x y H Q = ∃l m,kK K H 0e0 x/\kK K H (.tup m) y/\Dv.eS l<=20/\Dv.eS m<=20/\Q (.bl (decide (l=m))) H:=rfl
theorem Sq:QD P w K td ty tv D σ H=tv σ H λ_ H1=>td σ H1 λx H2=>ty σ H2 λy H3=>aU x λa=>∃ks l b,gY P w K H3 a ks/\y=.ref b/\(Dv.tup l).dep<=8/\kK K H3 0e0 y/\ks.length < sizeLine/\1e0=false/\D.nx σ (Xz H3 a (fV P w a (ks++[(.tup l,b)]))):=rfl
theorem So:QO P w K ty td σ H Q=ty σ H λy H1=>td σ H1 λx H2=>aU x λa=>∃ks l,gY P w K H2 a ks/\(Dv.tup l).dep<=8/\kK K H2 0e0 y/\Q (.bl (! 1e0)) H2:=rfl
def Sn:QN P w σ H Q = ∀p,H p=none->Q (.ref p) (Xz H p (fV P w p [])):=rfl
def Si:Qm P w [.ref p] H Q = ∃ks,H p=some (fV P w p ks)/\(ks.length:Int) < 2 ^ 63/\Q (.int ks.length) H:=rfl
end
end
mutual
example:=[(.XX {cls:=.type "tuple",data:=.seq (as.map Value.ref).toArray} (.tup (as.map V.ref))),as.map V.ref,(.tup [kV k,x]),nK as kvs H]
def Gk:List V->Hp->VK->Prop:=λvs H Q=>on1 vs λx=>aU x λr=>∃(d:Addr) (kvs:List (Key×V)),H r=some (Q5 r d)/\H d=some (.dK kvs)/\∀(l:Addr) (as:List Addr) (H':Hp),H l=none->Same H H'->nJ H' l 1e0->as.length=kvs.length->(∀(j:Nat) (a:Addr) (k:Key) (x:V),as[j]?=some a->kvs[j]?=some (k,x)->H' a=some 2e0)->Q (.ref l) H'
theorem C0(hc:X.calm=true):eI X (.type "tuple") Gk:=λXy s σ H xs us Q I rr h=>by
 obtain⟨x,rfl,h1⟩:=fY h;obtain⟨r,rfl,d,kvs,er,ed,q⟩:=aN h1;obtain⟨u,rfl,ru⟩:=vals1 rr;cases ru;have hv:s.heap.IsItemsView r d:=(I.XF r _ er).1;obtain⟨z,hd,vs0,rel,dd⟩:=rX I.XF ed;obtain⟨ep,dat⟩:=dd.dictAt;have l0:=rel.length;refine tM (knd:=aR X.prog X.w) (kvs:=vs0) (ep:=ep) (I.ok.hd hc) hv dat (by omega) λh' tk as hk hl hG=>?_;have fresh:∀{b:Addr},s.heap.objs.size<=b->H b=none:=λhb=>I.XF.fresh hb;have abF:∀b o,H b=some o->∃ob,s.heap.get? b=some ob:=λb o e=>(I.XF b o e).there;have hl0:H h'.objs.size=none:=by
  cases e:H h'.objs.size with
  | none=>rfl
  | some o =>
   obtain⟨ob,eb⟩:=abF _ _ e;exact absurd (Ο (hk _ _ eb)) (Α2 _)
 have nd:as.Nodup:=hG.rise.imp λh=>Ρ h;have aH:∀a∈as,H a=none:=λa ha=>fresh (Nat.le_of_lt (hG.above a ha));have nl:h'.objs.size∉as:=λz=>absurd (hG.there z) (Α2 _);have hlk:as.length=kvs.length:=by omega
 have same:Same H (Xz 3e0 h'.objs.size 0e0):=λb o e=>by
  have h1:b≠h'.objs.size:=λz=>by rw[z,hl0] at e;cases e
  have h2:b∉as:=λz=>by rw[aH b z] at e;cases e
  rw[aC h1,pB h2];exact e
 have Za:∀b o,s.heap.get? b=some o->(h'.push {cls:=.type "tuple",data:=.seq (as.map Value.ref).toArray}).get? b=some o:=λb o e=>Γ _ (hk b o e);refine⟨.ref h'.objs.size,Xz 3e0 h'.objs.size 0e0,show XC X Xy σ _ {s with heap:=h'.push {cls:=.type "tuple",data:=.seq (as.map Value.ref).toArray},gens:=s.gens,drawn:=s.drawn,toks:=tk} from I.step (g':=s.gens) (d':=s.drawn) (t':=tk) (ch:=[]) (λ_ z=>nomatch z) (λb o nb _ _ eb _=>Za b o eb) (λb o nb _ _ eb _=>⟨o.slots,Za b o eb⟩) (λb o _ eb hb=>?_) (λb o _ eb=>⟨o,Za b o eb⟩)
  (λb xs hb=>same b _ hb) (λb o u hb=>same b _ hb) (λb ps hb=>⟨#[],by rw[same b _ hb];simp⟩) (λm hm=>?_) (λb o hb=>?_) I.bare,rfl,q _ as _ hl0 same ⟨_,rfl,aA⟩ hlk λj a k x e1 e2=>?_⟩
 ·have h1:b≠h'.objs.size:=Ρ (Ο (hk b o eb));have h2:b∉as:=λz=>absurd (Ι4 (hG.above b z) (Ο eb)) (Α2 _);rw[aC h1,pB h2];exact hb
 ·obtain⟨o1,XU,ep1,a1,r1⟩:=hm;exact⟨o1,XU,ep1,Za _ _ a1,r1⟩
 ·by_cases h1:b=h'.objs.size
  ·subst h1;rw[aA] at hb;cases hb;exact⟨Ν _ rfl,by rw[Δ];omega,as.map Value.ref,BF as,IsTup.new _ _⟩
  ·rw[aC h1] at hb;by_cases h2:b∈as
   ·obtain⟨j,k,x,e1,e2,rfl⟩:=JX nd hlk h2 hb;obtain⟨key,k',x',e3,e4,e5⟩:=hG.pairs j b e1;obtain⟨v,e6,e7⟩:=KV.atR rel e2;rw[e3] at e6;cases e6;exact⟨by show 2<=sizeLine;rw[Ζ3];decide,[key,x'],.cons (sL e4) (.cons e7 .nil),⟨_,Γ _ e5,rfl,_,rfl⟩⟩
   ·rw[pB h2] at hb;exact(I.XF b o hb).uS (λc v _ ev=>Za c v ev) (λc hc=>same _ _ hc) λc xs hc=>same _ _ hc
 ·have:a≠h'.objs.size:=λz=>nl (by rw[<- z];exact Φ e1);rw[aC this,wY nd e1 e2]
def Ll{p:Addr}{Q:VK}:Gk [.ref p] H Q = ∃(d:Addr) (kvs:List (Key×V)),H p=some (Q5 p d)/\H d=some (.dK kvs)/\∀(l:Addr) (as:List Addr) (H':Hp),H l=none->Same H H'->nJ H' l 1e0->as.length=kvs.length->(∀(j:Nat) (a:Addr) (k:Key) (x:V),as[j]?=some a->kvs[j]?=some (k,x)->H' a=some 2e0)->Q (.ref l) H':=rfl
def Wt(K:q0B):R2:=λx y H Q=>Wa x y H Q\/Tq K x y H Q
def OZ:Ek X (Wt X.K):=aY.or LI
end
end L2
namespace Own
open PySem L2
variable{XP:(q0C)->Heap->Prop}{C a f l p:Addr}{A:Around}{Zn:Array (Option Value)}{wt:Bool}{CX:CXT}{o:HO}{base:Heap}{G G' H H' H1:Hp}{i:Int}{ks:List (Dv×Addr)}{kvs:List (Key×V)}{r:List (Str×Sp)}{ps:List (V×V)}{as ls:List Addr}{loose:List Str}{us xs:List V}{N made n:Nat}{P:Program}{sc:Scope}{s0 s1 s2 s3 s4 s5 s6 s7 s8:Sp}{k q:Str}{v:V}{Q:VK}{cd:Value}{E:XK}{K:q0B}{mg:q0C}
local macro_rules | `(tactic| exists $ts,*) => `(tactic| wp_walk using $ts,*)
set_option hygiene false in
local macro_rules | `(tactic| nomatch $a) => `(tactic| refine ($a).ok (fun vs H Q E h => ?_) (fun cdv A outer s H vs Q E hr sc h => ?_))
set_option hygiene false in
local macro_rules | `(tactic| nomatch $a, 0) => `(tactic| (refine ⟨_, $a, ?_⟩; clear sc; try dsimp only [L2.start, ET, LX, List.cons_append, List.nil_append, List.replicate_succ, List.replicate_zero, List.length_cons, List.length_nil, Nat.reduceAdd, Nat.reduceSub, Nat.zero_add]))
set_option hygiene false in
local macro_rules | `(tactic| left) => `(tactic| (refine aQ fun R0 hR0 => ?_; try dsimp only))
set_option hygiene false in
local macro_rules | `(tactic| right) => `(tactic| (refine hR0 _ _ ?_; clear hR0; try clear R0))
local macro_rules | `(tactic| and_intros) => `(tactic| try dsimp only [L2.start, ET, LX, List.cons_append, List.nil_append, List.replicate_succ, List.replicate_zero, List.length_cons, List.length_nil, Nat.reduceAdd, Nat.reduceSub, Nat.zero_add])
local macro_rules | `(tactic| infer_instance) => `(tactic| first | exact ⟨rfl, by first | exact Or.inl rfl | exact Or.inr (Or.inl rfl) | exact Or.inr (Or.inr rfl), by decide, by decide⟩ | exact ⟨rfl, rfl, rfl, by decide +kernel, rfl, by decide +kernel, by decide +kernel⟩)
seal PE PA PT PW PS YN PI PG PGs PTs PO PPs
mutual
example:=[]
inductive A5(p0 p1 p2 p3 p4:Prop):Prop
 | mk (_:p0) (_:p1) (_:p2) (_:p3) (_:p4):A5 p0 p1 p2 p3 p4
inductive A6(p0 p1 p2 p3 p4 p5:Prop):Prop
 | mk (_:p0) (_:p1) (_:p2) (_:p3) (_:p4) (_:p5):A6 p0 p1 p2 p3 p4 p5
inductive A10(p0 p1 p2 p3 p4 p5 p6 p7 p8 p9:Prop):Prop
 | mk (_:p0) (_:p1) (_:p2) (_:p3) (_:p4) (_:p5) (_:p6) (_:p7) (_:p8) (_:p9):A10 p0 p1 p2 p3 p4 p5 p6 p7 p8 p9
inductive A12(p0 p1 p2 p3 p4 p5 p6 p7 p8 p9 p10 p11:Prop):Prop
 | mk (_:p0) (_:p1) (_:p2) (_:p3) (_:p4) (_:p5) (_:p6) (_:p7) (_:p8) (_:p9) (_:p10) (_:p11):A12 p0 p1 p2 p3 p4 p5 p6 p7 p8 p9 p10 p11
inductive E2{α0 α1:Type}(P:α0->α1->Prop):Prop
 | mk (a0:α0) (a1:α1) (_:P a0 a1):E2 P
inductive E9{α0 α1 α2 α3 α4 α5 α6 α7 α8:Type}(P:α0->α1->α2->α3->α4->α5->α6->α7->α8->Prop):Prop
 | mk (a0:α0) (a1:α1) (a2:α2) (a3:α3) (a4:α4) (a5:α5) (a6:α6) (a7:α7) (a8:α8) (_:P a0 a1 a2 a3 a4 a5 a6 a7 a8):E9 P
inductive E13{α0 α1 α2 α3 α4 α5 α6 α7 α8 α9 α10 α11 α12:Type}(P:α0->α1->α2->α3->α4->α5->α6->α7->α8->α9->α10->α11->α12->Prop):Prop
 | mk (a0:α0) (a1:α1) (a2:α2) (a3:α3) (a4:α4) (a5:α5) (a6:α6) (a7:α7) (a8:α8) (a9:α9) (a10:α10) (a11:α11) (a12:α12) (_:P a0 a1 a2 a3 a4 a5 a6 a7 a8 a9 a10 a11 a12):E13 P
inductive E14{α0 α1 α2 α3 α4 α5 α6 α7 α8 α9 α10 α11 α12 α13:Type}(P:α0->α1->α2->α3->α4->α5->α6->α7->α8->α9->α10->α11->α12->α13->Prop):Prop
 | mk (a0:α0) (a1:α1) (a2:α2) (a3:α3) (a4:α4) (a5:α5) (a6:α6) (a7:α7) (a8:α8) (a9:α9) (a10:α10) (a11:α11) (a12:α12) (a13:α13) (_:P a0 a1 a2 a3 a4 a5 a6 a7 a8 a9 a10 a11 a12 a13):E14 P
inductive E15{α0 α1 α2 α3 α4 α5 α6 α7 α8 α9 α10 α11 α12 α13 α14:Type}(P:α0->α1->α2->α3->α4->α5->α6->α7->α8->α9->α10->α11->α12->α13->α14->Prop):Prop
 | mk (a0:α0) (a1:α1) (a2:α2) (a3:α3) (a4:α4) (a5:α5) (a6:α6) (a7:α7) (a8:α8) (a9:α9) (a10:α10) (a11:α11) (a12:α12) (a13:α13) (a14:α14) (_:P a0 a1 a2 a3 a4 a5 a6 a7 a8 a9 a10 a11 a12 a13 a14):E15 P
structure TU(K:q0B)(x q:Str)(st:Stmt)(ns ps:List Str)(f:Addr)(d:FuncData)(M:Prop):Prop where
 fn:Fun K x q st f d
 bd:Binds K d ps []
 sc:oZ ns ps (cK st)
 m:M
abbrev pQ(K:q0B)(mg:q0C)(x:Str)(st:Stmt)(ns ps:List Str)(f:Addr)(d:FuncData):Prop:=TU K x x st ns ps f d (mg x=some (.ref f))
abbrev pA(K:q0B)(C:Addr)(x q:Str)(st:Stmt)(ns ps:List Str)(f:Addr)(d:FuncData):Prop:=TU K x q st ns ps f d (Meth K C x f)
end
section
open PySem.Spec PyProof.Rows
mutual
example:=[some (.ref f),.ref f,cK st,PySem.W.fnOf x x (iI st) (fO st) (cK st) .none kV doc pm an X1 ct,PySem.W.fnOf x q (iI st) (fO st) (cK st) .none kV doc pm an X1 ct,ps.zip us]
variable{w:World}{h:Heap}{x:Str}{st:Stmt}{ns ps:List Str}{d:FuncData}{M:Prop}{k:Nat}{sp:Sp}
def TU.ok(g:TU K x q st ns ps f d M)(len:∀vs H Q E,sp vs H Q E->vs.length=ps.length)(Y0:∀(X1:Value) (A:Around) (outer:List Env) (s:Shared) (H:Hp) (vs:List V) (Q:VK) (E:XK),Room k (A.deeper (envOfC q 2e0 s.heap.objs.size f X1))->ns.Nodup->sp vs H Q E -> ∃t,YN (xI Yr P w K mg base ns q 2e0 f X1 A outer s H E).nox (fO st) t/\t {nx:=λ_ H'=>Q .XB H',rt:=Q} (start ns vs) H):fJ P w K mg base Yr (k+1) f d ps sp:=g.fn.ok g.sc len λX1 A outer s H vs Q E hr h=>Y0 X1 A outer s H vs Q E hr g.sc.nd h
def b0{P:List Value->Prop}(h:P []):∀us:List Value,us.length=0->P us:=λus e=>by rw[Ζ7.mp e];exact h
theorem bS{P:List Value->Prop}(h:∀a,∀us:List Value,us.length=n->P (a::us)):∀us:List Value,us.length=n+1->P us
 | [],e=>by cases e
 | a::us,e=>h a us (Nat.succ.inj e)
structure Gf0(K:q0B)(x:Str)(st:Stmt)(f:Addr)(d:FuncData):Prop where
 a:PySem.W.nsIn K mainGlobals x=some 0e0
 F:Fun K x x st f d
structure Gm0(K:q0B)(C:Addr)(x q:Str)(st:Stmt)(f:Addr)(d:FuncData):Prop where
 a:PySem.W.findIn K (.ref C) x=some 0e0
 i:PySem.W.isFn K 1e0=true
 F:Fun K x q st f d
def Vr{oc:Value}{od an:Option Addr}{kV doc pm X1 ct:Value}(a:PySem.W.nsIn K mainGlobals x=some 0e0)(l:K.lookup f=some ⟨oc,od,.func 3e0,Zn⟩)(c:PySem.W.codeIn K X1 x=true)(k:PySem.W.keepIn K 1e0=true):Gf0 K x st f 3e0:=⟨a,Lw l c k⟩
def Vs{oc:Value}{od an:Option Addr}{kV doc pm X1 ct:Value}(a:PySem.W.findIn K (.ref C) x=some 0e0)(i:PySem.W.isFn K 1e0=true)(l:K.lookup f=some ⟨oc,od,.func 4e0,Zn⟩)(c:PySem.W.codeIn K X1 q=true)(k:PySem.W.keepIn K 1e0=true):Gm0 K C x q st f 4e0:=⟨a,i,Lw l c k⟩
def Gf0.go(F:Gf0 K x st f d)(X:K.In h)(G:h.Ns mainGlobals mg)(b:∀(kV doc pm:Value) (an:Option Addr) (X1 ct:Value) (us:List Value),us.length=ps.length->bindArgs 3e0 ⟨us,[]⟩=pure 5e0:=by exact λ_ _ _ _ _ _=>by repeat (first|exact b0 rfl|refine bS λ_=>?_))(sc:oZ ns ps 2e0:=by infer_instance):pQ K mg x st ns ps f d:=⟨F.F,F.F.binds b,sc,PySem.W.mg_of X G F.a⟩
def Gm0.go(F:Gm0 K C x q st f d)(b:∀(kV doc pm:Value) (an:Option Addr) (X1 ct:Value) (us:List Value),us.length=ps.length->bindArgs 4e0 ⟨us,[]⟩=pure 5e0:=by exact λ_ _ _ _ _ _=>by repeat (first|exact b0 rfl|refine bS λ_=>?_))(sc:oZ ns ps 2e0:=by infer_instance):pA K C x q st ns ps f d:=⟨F.F,F.F.binds b,sc,F.a,F.i,F.F.kp⟩
end
end
section
open PySem.Spec PyProof.Rows
mutual
example:=[.Name x pos,e::es,.Attribute o m apos,PU r ta tb,(by omega),backToKw pos (keywordEach [] X.env),.Compare a [op] [b] pos,x==("__debug__":Str),starEach es X.env,getMethod ov m pl,compareOp op]
variable{X:Cx}{x:Str}{p pos:Pos}{e o:Expr}{es:List Expr}{t:TA}{k:Nat}{fd:FuncData}{ns ps:List Str}{sp:Sp}{st:Stmt}{ta td ty te tb tv:TE}{a b i value:Expr}
theorem pcl(F:fJ X.prog X.w X.K X.mg X.base Yr k f fd ps sp)(g:pQ X.K X.mg x st ns ps f fd)(ha:PA X 1e0 t)(hr:Room k X.A:=by exact hr.mono 4e0)(hg:Gl X x:=by rfl)(hdb:7e0=false:=by decide)(he:starEach 1e0 X.env=(false,eval e X.env)::starEach es X.env:=by rfl)(YR:(backTo pos 8e0).any (·.1)=false:=by rfl) : PE X (.Call (.Name x p) 1e0 [] pos) (Kc sp t):=(sR F hr hg g.m g.fn.kp g.bd .nil pass0 ha hdb he YR).cC
theorem pmt{m:Str}{apos:Pos}{pl:Sem Bool}(he:PE X o ta)(c:Cls X.K C)(F:fJ X.prog X.w X.K X.mg X.base Yr k f fd ps sp)(g:pA X.K C m q st ns ps f fd)(ha:PA X 1e0 t)(hr:Room k X.A:=by exact hr.mono 4e0)
    (XQ:starEach 1e0 X.env=(false,eval e X.env)::starEach es X.env:=by rfl) (YR:(backTo pos 8e0).any (·.1)=false:=by rfl)
    (ht:eval (.Call 2e0 1e0 [] pos) X.env=(do
      let ov <- eval o X.env
      standAt apos.atName
      let (f,first) <- holding [ov] 9e0
      callWith pos f first (backTo pos (starEach 1e0 X.env)) 5e0):=by rfl) :
    PE X (.Call 2e0 1e0 [] pos) (CY C m sp ta t):=(sU he c g.m F hr g.bd .nil pass0 ha XQ YR ht).cM
theorem pmt0{m:Str}{apos:Pos}{pl:Sem Bool}(he:PE X o ta)(c:Cls X.K C)(F:fJ X.prog X.w X.K X.mg X.base Yr k f fd ps sp)(g:pA X.K C m q st ns ps f fd)(hr:Room k X.A:=by exact hr.mono 4e0)
    (ht:eval (.Call 2e0 [] [] pos) X.env=(do
      let ov <- eval o X.env
      standAt apos.atName
      let (f,first) <- holding [ov] 9e0
      callWith pos f first (backTo pos (starEach [] X.env)) 5e0):=by rfl) :
    PE X (.Call 2e0 [] [] pos) (CY C m sp ta z9):=(Mx he c g.m F hr g.bd .nil pass0 ht).cM
theorem pst{pos':Pos}(i:Nat)(he:PE X e te)(hN:X.N.Nodup:=by exact sc)(hi:X.N[i]?=some x:=by rfl)(hx:Loc X.env.scope x:=by exact .inl rfl)(hs:swapsWith e (some (.Name x pos')) pos.line X.env=pure false:=by rfl)(hf:X.fn x=true\/X.env.scope.names.lookup x=some .local:=by first|exact .inl rfl|exact .inr rfl|assumption) : PS X (.Assign [.Name x pos'] e pos) (Nj te (n9 i)):=zB hN hi hx he hs hf
theorem pgn(i:Nat)(hN:X.N.Nodup:=by exact sc)(hi:X.N[i]?=some x:=by rfl)(hx:Loc X.env.scope x:=by exact .inl rfl)(hf:X.fn x=true\/X.env.scope.names.lookup x=some .local:=by first|exact .inl rfl|exact .inr rfl|assumption):PG X 0e0 (n9 i):=jO hN hi hx hf
def ppt{pos':Pos}(ho:PE X o td)(hi:PE X i ty)(hv:PE X value tv)(hs:swapsWith value (some (.Subscript o i pos')) pos.line X.env=pure false:=by rfl)(hu:X.A.units+1 < cLine:=by exact yF hr) : PS X (.Assign [.Subscript o i pos'] value pos) (Rl td ty tv):=Pp hu ho hi hv hs
def ptc{op:CmpOp}{r:R2}(ho:i9 X 0e1 r)(ha:PE X a ta)(hb:PE X b tb)(hm:behindInMarks op b=false:=by exact nomark _):PT X 6e0 (Gj 3e0):=(gU ho ha hb hm).cT
def pcr{op:CmpOp}{r:R2}(ho:i9 X 0e1 r)(ha:PE X a ta)(hb:PE X b tb)(hm:behindInMarks op b=false:=by exact nomark _):PE X 6e0 3e0:=Hg ho ha hb hm
def pix{r:R2}(hr:Ek X r)(ha:PE X a ta)(hb:PE X b tb)(hs:FU b:=by exact λ_ _=>rfl):PE X (.Subscript a b pos) 3e0:=QB hr ha hb hs
def pa1{t1:TE}{e1:Expr}(a:PE X e1 t1)(i:oA e1=false:=by rfl):PA X [e1] (oW t1 z9):=bQ a bD i
def pa2{t1 t2:TE}{e1 e2:Expr}(a:PE X e1 t1)(b:PE X e2 t2)(i:oA e1=false:=by rfl)(j:oA e2=false:=by rfl):PA X [e1,e2] (oW t1 (oW t2 z9)):=bQ a (pa1 b j) i
def pa3{t1 t2 t3:TE}{e1 e2 e3:Expr}(a:PE X e1 t1)(b:PE X e2 t2)(c:PE X e3 t3)(i:oA e1=false:=by rfl)(j:oA e2=false:=by rfl)(k:oA e3=false:=by rfl):PA X [e1,e2,e3] (oW t1 (oW t2 (oW t3 z9))):=bQ a (pa2 b c j k) i
def pss2{s1 s2:Stmt}{t1 t2:TS}(a:PS X s1 t1)(b:PS X s2 t2):YN X [s1,s2] (FA t1 t2):=aG a (aI b)
def pss3{s1 s2 s3:Stmt}{t1 t2 t3:TS}(a:PS X s1 t1)(b:PS X s2 t2)(c:PS X s3 t3):YN X [s1,s2,s3] (FA t1 (FA t2 t3)):=aG a (pss2 b c)
def pif{c:Expr}{l:List Stmt}{tc:TT}{t1:TS}(hc:PT X c tc)(ha:YN X l t1):PS X (.If c l [] pos) (JK tc t1 HS):=zA hc ha Pr
def Pk(X:Cx)(i:Nat)(x:Str):Prop:=X.N[i]?=some x/\Vis X.env.scope x/\7e0=false/\(x==("__classdict__":Str))=false
def pv0(h:Pk X 0 x:=by infer_instance):PE X 0e0 (lE 0):=(mP h.1 h.2.1 h.2.2.1 h.2.2.2).cV
def pv1(h:Pk X 1 x:=by infer_instance):PE X 0e0 (lE 1):=(mP h.1 h.2.1 h.2.2.1 h.2.2.2).cV
def pv2(h:Pk X 2 x:=by infer_instance):PE X 0e0 (lE 2):=(mP h.1 h.2.1 h.2.2.1 h.2.2.2).cV
def pv3(h:Pk X 3 x:=by infer_instance):PE X 0e0 (lE 3):=(mP h.1 h.2.1 h.2.2.1 h.2.2.2).cV
def pv4(h:Pk X 4 x:=by infer_instance):PE X 0e0 (lE 4):=(mP h.1 h.2.1 h.2.2.1 h.2.2.2).cV
def pv5(h:Pk X 5 x:=by infer_instance):PE X 0e0 (lE 5):=(mP h.1 h.2.1 h.2.2.1 h.2.2.2).cV
def pv6(h:Pk X 6 x:=by infer_instance):PE X 0e0 (lE 6):=(mP h.1 h.2.1 h.2.2.1 h.2.2.2).cV
def pv7(h:Pk X 7 x:=by infer_instance):PE X 0e0 (lE 7):=(mP h.1 h.2.1 h.2.2.1 h.2.2.2).cV
end
end
def top(i:Nat):Stmt:=PySem.Challenge.pw_outlast_k38_whole_never_is_never.main.body.getD i (.Pass ⟨0,0,0,0⟩)
mutual
example:=[top 25,k _ _ e,top 13,top 11,.ref a,ev p s,(if n < 1000000000 then n else 1000000000),(if num a < num b then (1:Int) else 0),(if num (ev p s)=0 then 1 else 0),(.int (if b=true then 1 else 0)),(if a=b then (1:Int) else 0),some (.ref t.wZ),.int (clamp n),.int (num w),(by decide)]
abbrev MG:Stmt:=top 4
abbrev By:Stmt:=top 6
abbrev DW:Stmt:=top 7
abbrev zO:Stmt:=top 8
abbrev qI:Stmt:=top 9
abbrev qE:Stmt:=bG 3e0 0
abbrev qF:Stmt:=bG 3e0 1
abbrev nC:Stmt:=bG 3e0 2
abbrev kC:Stmt:=bG 3e0 3
abbrev m9:Stmt:=bG 3e0 4
abbrev qG:Stmt:=bG 3e0 5
abbrev lZ:Stmt:=bG 3e0 6
abbrev kA:Stmt:=bG 3e0 7
abbrev zK:Stmt:=bG 2e0 0
abbrev tE:Stmt:=bG 2e0 1
abbrev oT:Stmt:=bG 2e0 2
abbrev tF:Stmt:=bG 2e0 3
abbrev vD:Stmt:=bG 2e0 4
abbrev vE:Stmt:=bG 2e0 5
abbrev vF:Stmt:=bG 2e0 6
abbrev zJ:Stmt:=bG 2e0 7
abbrev Hu:Stmt:=top 16
abbrev Bu:Stmt:=top 17
abbrev Bv:Stmt:=top 18
abbrev DU:Stmt:=top 19
abbrev DS:Stmt:=top 20
abbrev DV:Stmt:=top 21
abbrev DT:Stmt:=top 22
abbrev Ht:Stmt:=top 23
abbrev Bq:Stmt:=bG 0e0 0
abbrev lY:Stmt:=bG 0e0 2
abbrev zH:Stmt:=bG 0e0 3
abbrev Bs:Stmt:=bG 0e0 4
abbrev mY:Stmt:=bG 0e0 5
abbrev qD:Stmt:=bG 0e0 6
abbrev mZ:Stmt:=bG 0e0 7
abbrev Bt:Stmt:=bG 0e0 8
abbrev Bp:Stmt:=bG 0e0 9
abbrev zG:Stmt:=bG 0e0 10
abbrev Br:Stmt:=bG 0e0 11
abbrev DR:Stmt:=bG 0e0 12
abbrev sZ:Stmt:=bG 0e0 13
abbrev zI:Stmt:=bG 0e0 14
abbrev oS:Stmt:=bG 0e0 15
abbrev Hv:Stmt:=top 28
abbrev tH:Stmt:=top 31
abbrev kD:Stmt:=top 32
abbrev qJ:Stmt:=top 33
abbrev MH:Stmt:=top 34
abbrev vG:Stmt:=top 36
abbrev DY:Stmt:=top 37
abbrev Bx:Stmt:=top 38
abbrev vH:Stmt:=top 39
abbrev oU:Stmt:=top 40
abbrev zL:Stmt:=top 41
abbrev zN:Stmt:=top 42
abbrev tG:Stmt:=top 43
abbrev Bw:Stmt:=top 44
abbrev DX:Stmt:=top 45
abbrev qH:Stmt:=top 46
abbrev zM:Stmt:=top 47
abbrev QE:Stmt:=top 48
set_option genInjectivity false in
set_option genSizeOf false in
structure Ad where
 Ua:Addr
 Uu:FuncData
 w9:Addr
 xR:FuncData
 NG:Addr
 Od:FuncData
 Ij:Addr
 IG:FuncData
 BL:Addr
 BY:FuncData
 rL:Addr
 BU:FuncData
 BI:Addr
 BV:FuncData
 wX:Addr
 xN:FuncData
 rM:Addr
 rV:FuncData
 wW:Addr
 xM:FuncData
 BJ:Addr
 BW:FuncData
 vM:Addr
 vP:FuncData
 rK:Addr
 rT:FuncData
 AF:Addr
 IB:FuncData
 CO:Addr
 C7:FuncData
 Ak:Addr
 An:FuncData
 CP:Addr
 C8:FuncData
 Eo:Addr
 EB:FuncData
 Ep:Addr
 EC:FuncData
 Er:Addr
 ED:FuncData
 Ie:Addr
 IA:FuncData
 JZ:Addr
 Ry:FuncData
 wZ:Addr
 KI:FuncData
 CQ:Addr
 KJ:FuncData
 FZ:Addr
 NZ:FuncData
 FX:Addr
 NX:FuncData
 Gb:Addr
 N8:FuncData
 FY:Addr
 NY:FuncData
 JY:Addr
 Rx:FuncData
 CM:Addr
 Kx:FuncData
 vL:Addr
 vO:FuncData
 Ib:Addr
 Iy:FuncData
 JV:Addr
 Kz:FuncData
 wU:Addr
 xJ:FuncData
 BH:Addr
 BS:FuncData
 wV:Addr
 xK:FuncData
 JW:Addr
 KE:FuncData
 JT:Addr
 Kv:FuncData
 Ia:Addr
 Iw:FuncData
 JU:Addr
 Ky:FuncData
 NF:Addr
 NW:FuncData
 CN:Addr
 C6:FuncData
 Ic:Addr
 Iz:FuncData
 Aj:Addr
 Am:FuncData
 Q9:Addr
 RA:FuncData
 CT:Addr
 Dg:FuncData
 rN:Addr
 rW:FuncData
 BN:Addr
 B0:FuncData
 Uc:Addr
 Uw:FuncData
 Et:Addr
 EE:FuncData
 NI:Addr
 Of:FuncData
 J7:Addr
 KQ:FuncData
 qK:Addr
 qN:FuncData
 kZ:Addr
 k5:FuncData
 pC:Addr
 pE:FuncData
 Ii:Addr
 IF:FuncData
 CS:Addr
 De:FuncData
 J0:Addr
 KP:FuncData
 NH:Addr
 Oe:FuncData
 BK:Addr
 BX:FuncData
 Ih:Addr
 IE:FuncData
 Wp:Addr
 WD:FuncData
 yL:Tok
 vR:Tok
 Dq:Tok
 iZ:Addr
 jG:Addr
 qS:Addr
 aE:Addr
 aO:Addr
 aP:Addr
variable{t:Ad}
structure Tx(P:Program)(w:World)(base:Heap)(K:q0B)(mg:q0C)(t:Ad):Prop where
 AR:pQ K mg "kept" MG ["number"] ["number"] t.Ua t.Uu
 n8:pQ K mg "worth_of" By ["saying","names","arg","now","answers","kind","one","other"] ["saying","names","arg","now","answers"] t.w9 t.xR
 B7:pQ K mg "joined" DW ["sign","one","other","left","right"] ["sign","one","other"] t.NG t.Od
 lN:pQ K mg "number_of" zO ["worth"] ["worth"] t.Ij t.IG
 gO:pQ K mg "one_or_nought" qI ["truth"] ["truth"] t.BL t.BY
 mF:pA K t.aE "__init__" "Tickets.__init__" qE ["self"] ["self"] t.rL t.BU
 mG:pA K t.aE "make" "Tickets.make" qF ["self","ticket"] ["self"] t.BI t.BV
 eA:pA K t.aE "is_open" "Tickets.is_open" nC ["self","ticket"] ["self","ticket"] t.wX t.xN
 gM:pA K t.aE "those_open" "Tickets.those_open" kC ["self"] ["self"] t.rM t.rV
 jX:pA K t.aE "finish" "Tickets.finish" m9 ["self","ticket","worth"] ["self","ticket","worth"] t.wW t.xM
 jD:pA K t.aE "shut" "Tickets.shut" qG ["self","ticket"] ["self","ticket"] t.BJ t.BW
 fP:pA K t.aE "shut_all" "Tickets.shut_all" lZ ["self"] ["self"] t.vM t.vP
 gL:pA K t.aE "first_done" "Tickets.first_done" kA ["self","worths","tickets"] ["self","worths"] t.rK t.rT
 tR:pA K t.aO "__init__" "Walk.__init__" zK ["self","program"] ["self","program"] t.AF t.IB
 nX:pA K t.aO "come_to" "Walk.come_to" tE ["self"] ["self"] t.CO t.C7
 eN:pA K t.aO "stands_at" "Walk.stands_at" oT ["self"] ["self"] t.Ak t.An
 gF:pA K t.aO "pass_by" "Walk.pass_by" tF ["self"] ["self"] t.CP t.C8
 jY:pA K t.aO "enter" "Walk.enter" vD ["self","which"] ["self","which"] t.Eo t.EB
 qP:pA K t.aO "leave" "Walk.leave" vE ["self"] ["self"] t.Ep t.EC
 qQ:pA K t.aO "place" "Walk.place" vF ["self"] ["self"] t.Er t.ED
 tQ:pA K t.aO "go_to" "Walk.go_to" zJ ["self","place","which"] ["self","place"] t.Ie t.IA
 B4:pQ K mg "do_set" Hu ["run","statement"] ["run","statement"] t.JZ t.Ry
 lK:pQ K mg "do_order" Bu ["run","statement","worth","ticket"] ["run","statement"] t.wZ t.KI
 sC:pQ K mg "do_timer" Bv ["run","statement","worth","due","ticket"] ["run","statement"] t.CQ t.KJ
 v8:pQ K mg "do_send" DU ["run","statement"] ["run","statement"] t.FZ t.NZ
 vY:pQ K mg "do_drop" DS ["run","statement","ticket"] ["run","statement"] t.FX t.NX
 v9:pQ K mg "do_wait" DV ["run","statement","worths","ticket","pending"] ["run","statement"] t.Gb t.N8
 vZ:pQ K mg "do_hear" DT ["run","statement","worths"] ["run","statement"] t.FY t.NY
 B3:pQ K mg "do_end" Ht ["run","statement"] ["run","statement"] t.JY t.Rx
 gK:pA K t.aP "__init__" "Run.__init__" Bq ["self","program"] ["self","program"] t.CM t.Kx
 b7:pA K t.aP "open_tickets" "Run.open_tickets" lY ["self"] ["self"] t.vL t.vO
 lJ:pA K t.aP "state" "Run.state" zH ["self","names","letters"] ["self"] t.Ib t.Iy
 dZ:pA K t.aP "take" "Run.take" Bs ["self","happening"] ["self","happening"] t.JV t.Kz
 jV:pA K t.aP "passes_over" "Run.passes_over" mY ["self","happening","kind"] ["self","happening"] t.wU t.xJ
 mE:pA K t.aP "take_done" "Run.take_done" qD ["self","ticket","worth"] ["self","ticket","worth"] t.BH t.BS
 jW:pA K t.aP "take_letter" "Run.take_letter" mZ ["self","key","worth"] ["self","key","worth"] t.wV t.xK
 sA:pA K t.aP "wake" "Run.wake" Bt ["self","worth"] ["self","worth"] t.JW t.KE
 r9:pA K t.aP "go_on" "Run.go_on" Bp ["self","commands","many","statement"] ["self"] t.JT t.Kv
 tP:pA K t.aP "do_one" "Run.do_one" zG ["self","statement","kind","commands"] ["self","statement"] t.Ia t.Iw
 xU:pA K t.aP "look" "Run.look" Br ["self","statement"] ["self","statement"] t.JU t.Ky
 vX:pA K t.aP "end" "Run.end" DR ["self","worth"] ["self","worth"] t.NF t.NW
 nV:pA K t.aP "wear_out" "Run.wear_out" sZ ["self"] ["self"] t.CN t.C6
 dP:pA K t.aP "worth" "Run.worth" zI ["self","saying"] ["self","saying"] t.Ic t.Iz
 iL:pA K t.aP "new_ticket" "Run.new_ticket" oS ["self","name","ticket"] ["self","name"] t.Aj t.Am
 EM:pQ K mg "run_at" Hv ["program","state","run"] ["program","state"] t.Q9 t.RA
 n6:pQ K mg "parting_row" tH ["one","other","worths","keys","many","met","ways","length","longer","row","first","second","happening","left","right","pair"] ["one","other","worths","keys","many"] t.CT t.Dg
 gN:pQ K mg "happenings_behind" kD ["first","second","worths","keys","happenings","ticket","key"] ["first","second","worths","keys"] t.rN t.rW
 jF:pQ K mg "tickets_open" qJ ["state"] ["state"] t.BN t.B0
 GI:pQ K mg "step" MH ["program","state","happening","run","commands"] ["program","state","happening"] t.Uc t.Uw
 iD:pQ K mg "_law_cell_at" vG ["script","k"] ["script","k"] t.Et t.EE
 pI:pQ K mg "_law_row" DY ["cell"] ["cell"] t.NI t.Of
 cF:pQ K mg "_law_take" Bx ["row","many","told"] ["row","many"] t.J7 t.KQ
 cE:pQ K mg "_law_saying" vH ["row","deep","kind","some","sign"] ["row","deep"] t.qK t.qN
 eP:pQ K mg "_law_statement" oU ["row","deep","kind","name","some"] ["row","deep"] t.kZ t.k5
 lM:pQ K mg "_law_block" zL ["row","deep"] ["row","deep"] t.pC t.pE
 gG:pQ K mg "_law_plain" zN ["row","statement"] ["row"] t.Ii t.IF
 nZ:pQ K mg "_law_changed" tG ["program","cell","row","at","kind","turned"] ["program","cell"] t.CS t.De
 xX:pQ K mg "_law_flat" Bw ["cells"] ["cells"] t.J0 t.KP
 B8:pQ K mg "_law_due" DX ["program","other","worths","many","rows","pairs","length","fresh","row","run","twin","alike","states","tickets","ticket"] ["program","other","worths","many"] t.NH t.Oe
 mH:pQ K mg "_law_row_right" qH ["program","other","row","worths","run","twin","k","happening","tickets"] ["program","other","row","worths"] t.BK t.BX
 pH:pQ K mg "_law_never" zM ["program","other","worths","cells","run","twin","happening","cell","tickets"] ["program","other","worths","cells"] t.Ih t.IE
 Vn:pQ K mg "law" QE ["script","program","other","worths","many","told","cells"] ["script"] t.Wp t.WD
 aX:Cls K t.aE
 LW:mg "Tickets"=some (.ref t.aE)
 uB:Mk K t.aE t.rL
 bX:Cls K t.aO
 Vu:mg "Walk"=some (.ref t.aO)
 EX:Mk K t.aO t.AF
 aM:Cls K t.aP
 ES:mg "Run"=some (.ref t.aP)
 sO:Mk K t.aP t.CM
 qY:eD K t.aE "made"
 fF:eD K t.aE "pending"
 eZ:eD K t.aE "answers"
 iU:eD K t.aO "blocks"
 dE:eD K t.aO "numbers"
 i6:eD K t.aP "walk"
 cX:eD K t.aP "sleep"
 yR:eD K t.aP "arg"
 qB:eD K t.aP "now"
 fE:eD K t.aP "names"
 bR:eD K t.aP "tickets"
 fD:eD K t.aP "letters"
 nO:mg "GREATEST_WORTH"=some (.int 1000000000 t.yL)
 vN:mg "GREATEST_MOMENT"=some (.int 1000000000000 t.vR)
 CW:mg "MOST_AT_ONCE"=some (.int 300 t.Dq)
 Rc:mg "DEEDS"=some (.ref t.iZ)
 O5:TV w.params K t.iZ
 Jb:PySem.W.nsIn K t.iZ "set"=some (some (.ref t.JZ))
 Dx:PySem.W.nsIn K t.iZ "order"=some 1e1
 Dy:PySem.W.nsIn K t.iZ "timer"=some (some (.ref t.CQ))
 Dw:PySem.W.nsIn K t.iZ "child"=some 1e1
 E3:PySem.W.nsIn K t.iZ "send"=some (some (.ref t.FZ))
 EY:PySem.W.nsIn K t.iZ "drop"=some (some (.ref t.FX))
 E4:PySem.W.nsIn K t.iZ "wait"=some (some (.ref t.Gb))
 EZ:PySem.W.nsIn K t.iZ "hear"=some (some (.ref t.FY))
 Ja:PySem.W.nsIn K t.iZ "end"=some (some (.ref t.JY))
 rR:mg "SHORT_STATES"=some (.ref t.jG)
 gX:∀H:Hp,cJ K H t.jG [.str "new",.str "ended",.str "worn"]
 Rk:mg "NEW"=some (.ref t.qS)
 To:∀H:Hp,cJ K H t.qS [.str "new"]
 BG:mg "dict"=none
 rE:mg "len"=none
 Nw:mg "list"=none
 Nx:mg "max"=none
 Qb:mg "min"=none
 rF:mg "range"=none
 uU:mg "reversed"=none
 FR:mg "set"=none
 jT:mg "sorted"=none
 iH:mg "tuple"=none
abbrev Ok{P:Program}{w:World}{base:Heap}{K:q0B}{mg:q0C}{t:Ad}(_:Tx P w base K mg t){x q:Str}{st:Stmt}{ns ps:List Str}{f:Addr}{d:FuncData}{M:Prop}(_:TU K x q st ns ps f d M)(n:Nat)(sp:Sp):Prop:=fJ P w K mg base Yr n f d ps sp
def Xx{w:World}{N:List Str}{o:List Env}{s:Shared}:(xI CX P w K mg base N q sc f cd A o s H E).K=K:=rfl
def Xf{w:World}{N:List Str}{o:List Env}{s:Shared}:(xI CX P w K mg base N q sc f cd A o s H E).nox.K=K:=rfl
def small(h:n<=1000):n<=sizeLine:=Nat.le_of_lt (small1000 h)
def L0{j:Int}(h0:-(2 ^ 64) < i)(h1:i < 2 ^ 64):CMul i j:=.inl ⟨h0,h1⟩
structure Xj(H:Hp)(r:Addr):Prop where
 ex:∃c l f:Int,H r=some (.lst [.int c,.int l,.int f])/\0<=l/\l < 536870909
def clamp(n:Int):Int:=if 6e0 > -1000000000 then 6e0 else -1000000000
def MT:Sp:=λvs H Q _=>∃n:Int,vs=[.int n]/\Q 2e1 H
def Tp{n:Int}:MT [.int n] H Q E=Q 2e1 H:=propext ⟨fun⟨_,e,h⟩=>by cases e;exact h,λh=>⟨_,rfl,h⟩⟩
theorem nP(n:Int):-1000000000<=clamp n/\clamp n<=1000000000:=by
 unfold clamp
 repeat' split
 all_goals omega
abbrev Wo:=Option Int
variable{an ans:List (Int×Wo)}{lt:List (Str×List Wo)}{ws:List Wo}
def wv:Wo->V
 | none=>.XB
 | some n=>.int n
def num(w:Wo):Int:=w.getD 0
def wk:Wo->Key
 | none=>.no
 | some n=>.inl n
def cL(w:Wo):Prop:=∀n,w=some n->-1000000000<=n/\n<=1000000000
theorem FP{a b:Wo}(h:wv a=wv b):a=b:=by cases a<;>cases b<;>simp_all [wv]
def TQ(w:Wo):kO (wv w)=some (wk w):=by cases w<;>rfl
def FQ(w:Wo):(wv w=.XB)=(w=none):=by cases w<;>simp[wv]
def HY(w:Wo):eB (wv w)=true:=by cases w<;>rfl
def lR:cL none:=λ_ h=>nomatch h
def iT{n:Int}(h0:-1000000000<=n)(h1:n<=1000000000):cL (some n):=λm h=>by cases h;exact⟨h0,h1⟩
theorem LH{w:Wo}(h:cL w):-1000000000<=num w/\num w<=1000000000:=by
 cases w with
 | none=>exact⟨by decide,by decide⟩
 | some n=>exact h n rfl
def QJ:Sp:=λvs H Q _=>∃w:Wo,vs=[wv w]/\Q 3e1 H
def VC{w:Wo}:QJ [wv w] H Q E=Q 3e1 H :=
 propext ⟨fun⟨u,e,h⟩=>by simp only[Γ4,and_true] at e;rw[FP e];exact h,λh=>⟨w,rfl,h⟩⟩
def QK:Sp:=λvs H Q _=>∃b:Bool,vs=[.bl b]/\Q 9e0 H
def DO{b:Bool}:QK [.bl b] H Q E=Q 9e0 H :=
 propext ⟨fun⟨u,e,h⟩=>by cases e;exact h,λh=>⟨b,rfl,h⟩⟩
inductive Sg where
 | add|sub|mul|lt|eq
def Sg.s:Sg->Str
 | .add=>"+" | .sub=>"-" | .mul=>"*" | .lt=>"<" | .eq=>"="
def Sg.of(g:Sg)(a b:Wo):Int :=
 match g with
 | .add=>clamp (num a+num b) | .sub=>clamp (num a - num b) | .mul=>clamp (num a * num b) | .lt=>if num a < num b then 1 else 0 | .eq=>if a=b then 1 else 0
theorem Sg.Qx(g:Sg)(a b:Wo):-1000000000<=g.of a b/\g.of a b<=1000000000:=by
 cases g
 ·exact nP _
 ·exact nP _
 ·exact nP _
 ·show -1000000000<=7e0/\7e0<=1000000000;split<;>decide
 ·show -1000000000<=0e1/\0e1<=1000000000;split<;>decide
inductive D3(vs:List V)(H:Hp)(Q:VK)(E:XK):Prop
 | mk (g:Sg) (a b:Wo) (_:vs=[.str g.s,wv a,wv b]) (_:cL a) (_:Q (.int (g.of a b)) H):D3 vs H Q E
inductive Say where
 | num (n:Int)|XB|name (x:Str)|arg|now|ans (s:Say)|neg (s:Say)|two (g:Sg) (a b:Say)
variable{ss:List Say}
inductive dF(H:Hp):V->Say->Prop
 | num {a:Addr} {n:Int}:H a=some (.tup [.str "number",.int n])->dF H 4e0 (.num n)
 | XB {a:Addr}:H a=some (.tup [.str "none"])->dF H 4e0 .XB
 | name {a:Addr} {x:Str}:H a=some (.tup [.str "name",.str x])->dF H 4e0 (.name x)
 | arg {a:Addr}:H a=some (.tup [.str "arg"])->dF H 4e0 .arg
 | now {a:Addr}:H a=some (.tup [.str "now"])->dF H 4e0 .now
 | ans {a:Addr} {v:V} {s:Say}:H a=some (.tup [.str "answer",v])->dF H v s->dF H 4e0 (.ans s)
 | neg {a:Addr} {v:V} {s:Say}:H a=some (.tup [.str "not",v])->dF H v s->dF H 4e0 (.neg s)
 | two {a:Addr} {v u:V} {g:Sg} {s r:Say}:H a=some (.tup [.str g.s,v,u])->dF H v s->dF H u r->dF H 4e0 (.two g s r)
def aF(H H':Hp):Prop:=∀a xs,H a=some (.tup xs)->H' a=some (.tup xs)
def dF.kp{s:Say}(h:dF H v s)(k:aF H H'):dF H' v s:=by
 induction h with
 | num e=>exact .num 1e0
 | XB e=>exact .XB 1e0
 | name e=>exact .name 1e0
 | arg e=>exact .arg 1e0
 | now e=>exact .now 1e0
 | ans e _ ih=>exact .ans 1e0 ih
 | neg e _ ih=>exact .neg 1e0 ih
 | two e _ _ i1 i2=>exact .two 1e0 i1 i2
def aF.of{S:List Addr}(k:Kp S H H')(h:∀a∈S,∃o,H a=some o/\∀xs,o≠.tup xs):aF H H':=λa xs e=>k a _ e λz=>by
 obtain⟨o,e',d⟩:=h a z;rw[e] at e';exact d xs (Ϛ e').symm
def aF.new(h:H p=none):aF H (Xz H p o):=λa xs e=>by rw[aC (aD e h)];exact e
def aF.trans{H2:Hp}(a:aF H H1)(b:aF H1 H2):aF H H2:=λx xs e=>b x xs (a x xs e)
def Say.depth:Say->Nat
 | .ans s=>s.depth+1 | .neg s=>s.depth+1 | .two _ a b=>max a.depth b.depth+1 | .num _=>1 | .XB=>1 | .name _=>1 | .arg=>1 | .now=>1
def Say.ok:Say->Prop
 | .num n=>-1000000000<=n/\n<=1000000000 | .ans s=>s.ok | .neg s=>s.ok | .two _ a b=>a.ok/\b.ok|_=>True
def Say.AO(s:Say):1<=s.depth:=by cases s<;>simp[Say.depth]
structure Pl where
 nm:Str->Wo
 ar:Wo
 now:Int
 an:Wo->Wo
structure Pl.Ok(p:Pl):Prop where
 nm:∀x,cL (p.nm x)
 ar:cL p.ar
 an:∀w,cL (p.an w)
def ev(p:Pl):Say->Wo
 | .num n=>some n
 | .XB=>none
 | .name x=>p.nm x
 | .arg=>p.ar
 | .now=>some (clamp p.now)
 | .ans s=>p.an 5e0
 | .neg s=>some 8e0
 | .two g a b=>some (g.of (ev p a) (ev p b))
theorem Qu{p:Pl}(hp:p.Ok):∀{s:Say},s.ok->cL 5e0
 | .num n,h=>iT h.1 h.2
 | .XB,_=>lR
 | .name x,_=>hp.nm x
 | .arg,_=>hp.ar
 | .now,_=>iT (nP _).1 (nP _).2
 | .ans s,_=>hp.an _
 | .neg s,_=>by
  show cL (some 8e0);split<;>exact iT 4e1 4e1
 | .two g a b,_=>iT (g.Qx _ _).1 (g.Qx _ _).2
def Wj(H:Hp)(d:Addr)(f:Str->Wo):Prop:=∃kvs,H d=some (.dK kvs)/\∀x,(bY kvs (.inr x)).getD .XB=wv (f x)
def We(H:Hp)(d:Addr)(f:Wo->Wo):Prop:=∃kvs,H d=some (.dK kvs)/\∀w,(bY kvs (wk w)).getD .XB=wv (f w)
inductive PQ(d:Nat)(vs:List V)(H:Hp)(Q:VK)(E:XK):Prop
 | mk (v:V) (dn da:Addr) (p:Pl) (s:Say) (_:vs=[v,.ref dn,wv p.ar,.int p.now,.ref da]) (_:dF H v s) (_:s.depth<=d) (_:s.ok) (_:Wj H dn p.nm) (_:We H da p.an) (_:p.Ok) (_:Q (wv 5e0) H):PQ d vs H Q E
inductive Stm where
 | set (x:Str) (s:Say)|order (x y:Str) (s:Say)|XM (x:Str) (s:Say)|child (x y:Str) (s:Say)|send (s:Say) (k:Str) (r:Say)|drop (s:Say)
 | wait (x:Str) (ss:List Say)|XE (x k:Str)|fin (s:Say)|Yh (s:Say) (b:List Stm)|iff (s:Say) (b o:List Stm)
variable{b bb c ms:List Stm}{x:Stm}
inductive fW(H:Hp):List V->List Say->Prop
 | nil:fW H [] []
 | cons {v:V} {vs:List V} {s:Say} {ss:List Say}:dF H v s->fW H vs ss->fW H (v::vs) (s::ss)
def fW.kp{vs:List V}(h:fW H vs ss)(k:aF H H'):fW H' vs ss:=by
 induction h with
 | nil=>exact .nil
 | cons a _ ih=>exact .cons (a.kp k) ih
end
mutual
inductive cI(H:Hp):V->Stm->Prop
 | set {a:Addr} {x:Str} {v:V} {s:Say}:H a=some (.tup [.str "set",.str x,v])->dF H v s->cI H (.ref a) (.set x s)
 | order {a:Addr} {x y:Str} {v:V} {s:Say}:H a=some (.tup [.str "order",.str x,.str y,v])->dF H v s->cI H (.ref a) (.order x y s)
 | XM {a:Addr} {x:Str} {v:V} {s:Say}:H a=some (.tup [.str "timer",.str x,v])->dF H v s->cI H (.ref a) (.XM x s)
 | child {a:Addr} {x y:Str} {v:V} {s:Say}:H a=some (.tup [.str "child",.str x,.str y,v])->dF H v s->cI H (.ref a) (.child x y s)
 | send {a:Addr} {k:Str} {v u:V} {s r:Say}:H a=some (.tup [.str "send",v,.str k,u])->dF H v s->dF H u r->cI H (.ref a) (.send s k r)
 | drop {a:Addr} {v:V} {s:Say}:H a=some (.tup [.str "drop",v])->dF H v s->cI H (.ref a) (.drop s)
 | wait {a p:Addr} {x:Str} {vs:List V} {ss:List Say}:H a=some (.tup [.str "wait",.str x,.ref p])->H p=some (.tup vs)->fW H vs ss->cI H (.ref a) (.wait x ss)
 | XE {a:Addr} {x k:Str}:H a=some (.tup [.str "hear",.str x,.str k])->cI H (.ref a) (.XE x k)
 | fin {a:Addr} {v:V} {s:Say}:H a=some (.tup [.str "end",v])->dF H v s->cI H (.ref a) (.fin s)
 | Yh {a p:Addr} {v:V} {s:Say} {vs:List V} {b:List Stm}:H a=some (.tup [.str "while",v,.ref p])->dF H v s->H p=some (.tup vs)->aW H vs b->cI H (.ref a) (.Yh s b)
 | iff {a p q:Addr} {v:V} {s:Say} {vs us:List V} {b o:List Stm}:H a=some (.tup [.str "if",v,.ref p,.ref q])->dF H v s->H p=some (.tup vs)->aW H vs b->H q=some (.tup us)->aW H us o->cI H (.ref a) (.iff s b o)
inductive aW(H:Hp):List V->List Stm->Prop
 | nil:aW H [] []
 | cons {v:V} {vs:List V} {x:Stm} {xs:List Stm}:cI H v x->aW H vs xs->aW H (v::vs) (x::xs)
end
mutual
example:=[k _ _ e,s.kp k,k _ _ f,(λ_ _ a b=>.cons a b)]
def cI.kp(k:aF H H'){m:Stm}(h:cI H v m):cI H' v m :=
 cI.rec (motive_1:=λv m _=>cI H' v m) (motive_2:=λvs ms _=>aW H' vs ms)
  (λe s=>.set 0e0 1e0) (λe s=>.order 0e0 1e0) (λe s=>.XM 0e0 1e0) (λe s=>.child 0e0 1e0)
  (λe s r=>.send 0e0 1e0 (r.kp k)) (λe s=>.drop 0e0 1e0) (λe f s=>.wait 0e0 2e0 1e0) (λe=>.XE 0e0) (λe s=>.fin 0e0 1e0)
  (λe s f _ b=>.Yh 0e0 1e0 2e0 b) (λe s f _ f' _ b b'=>.iff 0e0 1e0 2e0 b (k _ _ f') b') .nil 3e0 h
def aW.kp(k:aF H H'){vs:List V}(h:aW H vs ms):aW H' vs ms :=
 aW.rec (motive_1:=λv m _=>cI H' v m) (motive_2:=λvs ms _=>aW H' vs ms)
  (λe s=>.set 0e0 1e0) (λe s=>.order 0e0 1e0) (λe s=>.XM 0e0 1e0) (λe s=>.child 0e0 1e0)
  (λe s r=>.send 0e0 1e0 (r.kp k)) (λe s=>.drop 0e0 1e0) (λe f s=>.wait 0e0 2e0 1e0) (λe=>.XE 0e0) (λe s=>.fin 0e0 1e0)
  (λe s f _ b=>.Yh 0e0 1e0 2e0 b) (λe s f _ f' _ b b'=>.iff 0e0 1e0 2e0 b (k _ _ f') b') .nil 3e0 h
end
mutual
noncomputable def Stm.dp:Stm->Nat
 | .Yh _ b=>Ao b+1
 | .iff _ b o=>max (Ao b) (Ao o)+1
 | .set _ _=>0
 | .order _ _ _=>0
 | .XM _ _=>0
 | .child _ _ _=>0
 | .send _ _ _=>0
 | .drop _=>0
 | .wait _ _=>0
 | .XE _ _=>0
 | .fin _=>0
noncomputable def Ao:List Stm->Nat
 | []=>0
 | m::ms=>max m.dp (Ao ms)
end
mutual
example:=[Int×Wo,Str×Wo,Str×List Wo,S.worth s,((k,b,n)::r),hE pend,Key×V,some i,.inl i,cZ st,.tup us,(by intro z;cases z),ss.map S.worth,(by simp),(pend.filter λj=>decide (j≠i)),(λz=>hj (Key.inr.inj z)),.lst (ws.map wv),dC l n w,(by rw[h]),.inr k,Key.inr.inj z,(l.any λp=>decide (p.1=n)),((Key.inl p.1,wv p.2)::hZ r),(if z > 0 then z else 0),(by simpa using e),.ins C dx [],((k,b,n')::r)]
def aW.at{vs:List V}(h:aW H vs ms):∀{i:Nat} {x:V},vs[i]?=some x->∃m,ms[i]?=some m/\cI H x m:=by
 induction ms generalizing vs with
 | nil=>cases h;intro i x e;simp at e
 | cons m ms ih =>
  cases h with
  | cons a b =>
   intro i x e;cases i with
   | zero=>simp only[Ω,ϒ] at e;subst e;exact⟨_,rfl,a⟩
   | succ i=>exact ih b 4e2
def aW.len{vs:List V}(h:aW H vs ms):ms.length=vs.length:=by
 induction ms generalizing vs with
 | nil=>cases h;rfl
 | cons m ms ih =>
  cases h with
  | cons a b=>simp[ih b]
def GP{ms:List Int}{i:Nat}{y:V}(h:(ms.map V.int)[i]?=some y):∃z:Int,y=.int z:=by
 rw[Ψ] at h;cases e:ms[i]? with
 | none=>rw[e] at h;cases h
 | some z=>rw[e] at h;exact⟨z,(Ϛ h).symm⟩
theorem AU(w:Wo):Ag (wv w) [.XB,.int 0]=decide (num w=0):=by
 cases w with
 | none=>rfl
 | some n =>
  by_cases h:n=0
  ·subst h;rfl
  ·have h':¬ (0=n):=λz=>h z.symm;simp[Ag,wv,rG,num,h,h']
theorem flat01:([.XB,.int 0]:List V).all eB=true:=by decide
def aF.nil(k:Kp [] H H'):aF H H':=λa xs e=>k a _ e 3e1
def _root_.L2.Kp.zQ:Kp [a] H (Xz H a o):=Kp.set 3e1
def hE(pend:List Int):List 6e0:=pend.map λi=>(.inl i,.bl true)
def hZ(ans:List 0e0):List 6e0:=ans.map λp=>(.inl p.1,wv p.2)
structure iW(C:Addr)(H:Hp)(tk tx dp da:Addr)(made:Nat)(pend:List Int)(ans:List 0e0):Prop where
 ins:H tk=some (.ins C tx [("made",.int made),("pending",.ref dp),("answers",.ref da)])
 hp:H dp=some (.dK 5e0)
 ha:H da=some (.dK (hZ ans))
 nda:dp≠da
 lt:∀i∈pend,0<=i/\i < made
 asc:pend.Pairwise (· < ·)
 la:∀p∈ans,0<=p.1/\p.1 < made
 dis:∀p∈ans,p.1∉pend
 small:made<=1000000
def iW.n1{tk tx dp da:Addr}{pend:List Int}(T:iW C H tk tx dp da made pend ans):tk≠dp/\tk≠da:=⟨bU T.ins T.hp 1e1,bU T.ins T.ha 1e1⟩
def iW.kp{tk tx dp da:Addr}{pend:List Int}(T:iW C H tk tx dp da made pend ans)(k:Kp [] H H'):iW C H' tk tx dp da made pend ans :=
 ⟨k.at T.ins,k.at T.hp,k.at T.ha,T.nda,T.lt,T.asc,T.la,T.dis,T.small⟩
theorem y8(pend:List Int)(w:Wo):(bY 5e0 (wk w)).isSome=decide (∃i∈pend,w=some i):=by
 induction pend with
 | nil=>simp[hE,Eh]
 | cons i r ih =>
  have e:hE (i::r)=(Key.inl i,V.bl true)::hE r:=rfl;rw[e];by_cases h:w=some i
  ·subst h;rw[show wk 7e0=Key.inl i from rfl,cP rfl];simp
  ·rw[bZ (λz=>h (by cases w with
    | none=>cases z
    | some j=>cases z;rfl)),ih]
   simp[h]
theorem Js(pend:List Int)(i:Int):uW 5e0 8e0=hE 4e1:=by
 unfold uW hE;rw[List.filter_map]
 congr 1
 apply List.filter_congr;intro j _;simp
def Jt(pend:List Int):intKeys 5e0=some pend:=by
 induction pend with
 | nil=>rfl
 | cons i r ih =>
  show(intKeys (hE r)).map (i::·)=_;rw[ih];rfl
theorem Ju{pend:List Int}(h:i∉pend):bY 5e0 8e0=none:=by
 have:=y8 pend 7e0;rw[show decide (∃j∈pend,some i=some j)=false by simp[h]] at this;cases e:bY 5e0 8e0 with
 | none=>rfl
 | some v=>rw[show wk 7e0=.inl i from rfl,e] at this;cases this
theorem Jv{pend:List Int}(h:i∈pend):∃v,bY 5e0 8e0=some v:=by
 have:=y8 pend 7e0;rw[show decide (∃j∈pend,some i=some j)=true by simpa using h] at this;exact Θ8.mp this
def J8(h:∀p∈ans,p.1≠i):bY (hZ ans) 8e0=none:=by
 induction ans with
 | nil=>rfl
 | cons p r ih =>
  have e:hZ (p::r)=(Key.inl p.1,wv p.2)::hZ r:=rfl;rw[e,bZ (λz=>h p 3e1 (by cases z;rfl)),ih λq hq=>h q (Ξ _ hq)]
def oV{a b:List Int}(p:a.Perm b)(ha:a.Pairwise (·<=·))(hb:b.Pairwise (· < ·)):a=b :=
 List.Perm.eq_of_pairwise (λx y _ _ h1 h2=>Int.le_antisymm h1 h2) ha (hb.imp λh=>Int.le_of_lt h) p
inductive zV(C:Addr)(vs:List V)(H:Hp)(Q:VK)(E:XK):Prop
 | mk (x dx:Addr) (_:vs=[.ref x]) (_:H x=some 5e2) (_:∀(dp da:Addr) (H':Hp),H dp=none->H da=none->iW C H' x dx dp da 0 [] []->Kp [x] H H'->Q .XB H'):zV C vs H Q E
inductive D6(C:Addr)(vs:List V)(H:Hp)(Q:VK)(E:XK):Prop
 | mk (tk tx dp da:Addr) (made:Nat) (pend:List Int) (ans:List 0e0) (_:vs=[.ref tk]) (_:iW C H tk tx dp da made pend ans) (_:made < 1000000) (_:pend.length < 1000000) (_:∀H',iW C H' tk tx dp da (made+1) (pend++[(made:Int)]) ans->Kp [tk,dp] H H'->Q (.int made) H'):D6 C vs H Q E
inductive D7(C:Addr)(vs:List V)(H:Hp)(Q:VK)(E:XK):Prop
 | mk (tk tx dp da:Addr) (made:Nat) (pend:List Int) (ans:List 0e0) (w:Wo) (_:vs=[.ref tk,wv w]) (_:iW C H tk tx dp da made pend ans) (_:Q (.bl (decide (∃i∈pend,w=some i))) H):D7 C vs H Q E
inductive BB(C:Addr)(vs:List V)(H:Hp)(Q:VK)(E:XK):Prop
 | mk (tk tx dp da:Addr) (made:Nat) (pend:List Int) (ans:List 0e0) (_:vs=[.ref tk]) (_:iW C H tk tx dp da made pend ans) (_:pend.length < 64) (_:∀l,H l=none->Q (.ref l) (Xz H l (.lst (pend.map V.int)))):BB C vs H Q E
inductive D8(C:Addr)(vs:List V)(H:Hp)(Q:VK)(E:XK):Prop
 | mk (tk tx dp da:Addr) (made:Nat) (pend:List Int) (ans:List 0e0) (i:Int) (_:vs=[.ref tk,.int i]) (_:iW C H tk tx dp da made pend ans) (_:i∈pend) (_:∀H',iW C H' tk tx dp da made 4e1 ans->Kp [dp] H H'->Q .XB H'):D8 C vs H Q E
inductive zU(C:Addr)(vs:List V)(H:Hp)(Q:VK)(E:XK):Prop
 | mk (tk tx dp da:Addr) (made:Nat) (pend:List Int) (ans:List 0e0) (i:Int) (w:Wo) (_:vs=[.ref tk,.int i,wv w]) (_:iW C H tk tx dp da made pend ans) (_:i∈pend) (_:ans.length < 1000000) (_:∀H',iW C H' tk tx dp da made 4e1 (ans++[(i,w)])->Kp [dp,da] H H'->Q .XB H'):zU C vs H Q E
inductive HK(C:Addr)(vs:List V)(H:Hp)(Q:VK)(E:XK):Prop
 | mk (tk tx dp da:Addr) (made:Nat) (pend:List Int) (ans:List 0e0) (_:vs=[.ref tk]) (_:iW C H tk tx dp da made pend ans) (_:∀H',iW C H' tk tx dp da made [] ans->Kp [dp] H H'->Q .XB H'):HK C vs H Q E
abbrev Stk:=List (Nat×List Stm×Nat)
variable{st:Stk}
def bP:Stk->List Int
 | []=>[]
 | [(_,_,n)]=>[(n:Int)]
 | (k,_,n)::r=>bP r++[(k:Int),(n:Int)]
inductive fU(H:Hp):List V->Stk->Prop
 | one {p:Addr} {us:List V} {k n:Nat} {b:List Stm}:H p=some 0e1->aW H us b->fU H [.ref p] [(k,b,n)]
 | cons {p:Addr} {us vs:List V} {k n:Nat} {b:List Stm} {r:Stk}:fU H vs r->H p=some 0e1->aW H us b->fU H (vs++[.ref p]) 4e0
def fU.kp{vs:List V}(h:fU H vs st)(k:aF H H'):fU H' vs st:=by
 induction h with
 | one e s=>exact .one (k _ _ e) (s.kp k)
 | cons _ e s ih=>exact .cons ih (k _ _ e) (s.kp k)
def fU.len{vs:List V}(h:fU H vs st):vs.length=st.length/\1<=st.length:=by
 induction h with
 | one=>exact⟨rfl,Ζ _⟩
 | cons _ _ _ ih=>simp[ih.1]
def fU.last{vs:List V}{k:Nat}{r:Stk}(h:fU H vs 4e0):∃(ws:List V) (p:Addr) (us:List V),vs=ws++[.ref p]/\H p=some 0e1/\aW H us b/\(r≠[]->fU H ws r)/\(r=[]->ws=[]):=by
 cases h with
 | one e s=>exact⟨[],_,_,rfl,e,s,λz=>absurd rfl z,λ_=>rfl⟩
 | @cons p us vs k n b r hr e s=>exact⟨vs,_,_,rfl,e,s,λ_=>hr,λz=>by subst z;cases hr⟩
def fU.turn{vs:List V}{k n':Nat}{r:Stk}(h:fU H vs 4e0):fU H vs 6e2:=by
 cases h with
 | one e s=>exact .one e s
 | cons hr e s=>exact .cons hr e s
def uF(k n:Nat)(b:List Stm)(r:Stk):∃l,bP 4e0=l++[(n:Int)]/\∀n',bP 6e2=l++[((n':Nat):Int)]:=by
 cases r with
 | nil=>exact⟨[],rfl,λ_=>rfl⟩
 | cons x r=>exact⟨bP (x::r)++[(k:Int)],by simp[bP],λn'=>by simp[bP]⟩
def uG(k:Nat)(b:List Stm)(n:Nat)(x:Nat×List Stm×Nat)(r:Stk):bP ((k,b,n)::x::r)=bP (x::r)++[(k:Int),(n:Int)]:=rfl
structure hX(C:Addr)(H:Hp)(wk wx lb ln:Addr)(st:Stk):Prop where
 ins:H wk=some (.ins C wx [("blocks",.ref lb),("numbers",.ref ln)])
 bl:∃vs,H lb=some (.lst vs)/\fU H vs st
 nu:H ln=some (.lst ((bP st).map V.int))
 ne:lb≠ln
 Zu:st.length<=100
def hX.kp{wk wx lb ln:Addr}(W:hX C H wk wx lb ln st)(k:Kp [] H H'):hX C H' wk wx lb ln st:=by
 obtain⟨vs,e,h⟩:=W.bl;exact⟨k.at W.ins,⟨vs,k.at e,h.kp (aF.nil k)⟩,k.at W.nu,W.ne,W.Zu⟩
def fH:Stk->Stk
 | (k,b,n)::r=>(k,b,n+1)::r
 | []=>[]
inductive zX(C:Addr)(vs:List V)(H:Hp)(Q:VK)(E:XK):Prop
 | mk (wk wx lb ln:Addr) (k n:Nat) (b:List Stm) (r:Stk) (m:Stm) (_:vs=[.ref wk]) (_:hX C H wk wx lb ln 4e0) (_:b[n]?=some m) (_:∀v,cI H v m->Q v H):zX C vs H Q E
inductive tJ(C:Addr)(vs:List V)(H:Hp)(Q:VK)(E:XK):Prop
 | mk (wk wx lb ln:Addr) (k n:Nat) (b:List Stm) (r:Stk) (_:vs=[.ref wk]) (_:hX C H wk wx lb ln 4e0) (_:∀H',hX C H' wk wx lb ln ((k,b,n+1)::r)->Kp [ln] H H'->Q .XB H'):tJ C vs H Q E
inductive zW(C:Addr)(vs:List V)(H:Hp)(Q:VK)(E:XK):Prop
 | mk (x dx p:Addr) (us:List V) (b:List Stm) (_:vs=[.ref x,.ref p]) (_:H x=some 5e2) (_:H p=some 0e1) (_:aW H us b) (_:∀(lb ln:Addr) (H':Hp),H lb=none->H ln=none->hX C H' x dx lb ln [(0,b,0)]->Kp [x] H H'->Q .XB H'):zW C vs H Q E
def Stm.sub:Stm->Nat->Option (List Stm)
 | .Yh _ b,0=>some b
 | .iff _ b _,0=>some b
 | .iff _ _ o,1=>some o
 | _,_=>none
def Stm.IU:Stm->Bool
 | .iff _ _ _=>true
 | _=>false
inductive uR(C:Addr)(vs:List V)(H:Hp)(Q:VK)(E:XK):Prop
 | mk (wk wx lb ln:Addr) (k n c:Nat) (b bb:List Stm) (r:Stk) (m:Stm) (_:vs=[.ref wk,.int c]) (_:hX C H wk wx lb ln 4e0) (_:b[n]?=some m) (_:m.sub c=some bb) (_:r.length<=90) (_:∀H',hX C H' wk wx lb ln ((c,bb,0)::(k,b,n)::r)->Kp [lb,ln] H H'->Q .XB H'):uR C vs H Q E
inductive BC(C:Addr)(vs:List V)(H:Hp)(Q:VK)(E:XK):Prop
 | mk (wk wx lb ln:Addr) (k n:Nat) (b:List Stm) (x:Nat×List Stm×Nat) (r:Stk) (m:Stm) (_:vs=[.ref wk]) (_:hX C H wk wx lb ln (x::(k,b,n)::r)) (_:b[n]?=some m) (_:∀H',hX C H' wk wx lb ln ((k,b,if m.IU=true then n+1 else n)::r)->Kp [lb,ln] H H'->Q .XB H'):BC C vs H Q E
def cI.subAt{m:Stm}{c:Nat}(h:cI H v m)(hs:m.sub c=some bb):∃(a p:Addr) (xs us:List V),v=.ref a/\H a=some (.tup xs)/\iR xs (2+(c:Int))=some (.ref p)/\H p=some 0e1/\aW H us bb:=by
 cases h with
 | @Yh a p v s vs b e h1 f hb =>
  match c,hs with
  | 0,hs=>cases hs;exact⟨a,p,_,vs,rfl,e,rfl,f,hb⟩
 | @iff a p q v s vs us b o e h1 f hb f2 hb2 =>
  match c,hs with
  | 0,hs=>cases hs;exact⟨a,p,_,vs,rfl,e,rfl,f,hb⟩
  | 1,hs=>cases hs;exact⟨a,q,_,us,rfl,e,rfl,f2,hb2⟩
 | _=>cases hs
theorem cI.Qw{m:Stm}(h:cI H v m):∃(a:Addr) (x:String) (xs:List V),v=.ref a/\H a=some (.tup (.str (Str.ofString x)::xs))/\decide (x = "if")=m.IU:=by
 cases h<;>exact⟨_,_,_,rfl,by assumption,rfl⟩
def aF.eX{ys:List V}(e:H l=some (.lst xs)):aF H (Xz H l (.lst ys)):=λa zs h=>by
 rw[aC (bU h e 1e1)];exact h
theorem DC:∀st:Stk,(bP st).length<=2 * st.length
 | []=>by simp[bP]
 | [(_,_,n)]=>by simp[bP]
 | (k,b,n)::x::r=>by
  have:=DC (x::r);rw[uG,Ι];simp only[Κ,Α8] at this ⊢;omega
def tZ{α:Type}(l:List α)(x:α):(l++[x])[(l++[x]).length - 1]?=some x:=by simp
def aF.tr{H2:Hp}(a:aF H H1)(b:aF H1 H2):aF H H2:=λc xs e=>b c xs (a c xs e)
def Bg(b:List Stm)(n:Nat):Nat:=match b[n]? with
 | some m=>if m.IU=true then n+1 else n
 | none=>n
def cZ:Stk->Stk
 | (k,b,n)::(k2,b2,n2)::r=>if n=b.length then cZ ((k2,b2,Bg b2 n2)::r) else (k,b,n)::(k2,b2,n2)::r
 | st=>st
termination_by st=>st.length
def AE:Stk->Prop
 | []=>False
 | (_,b,n)::r=>n<=b.length/\∀x∈r,x.2.2 < x.2.1.length
def cH:Stk->Option Stm
 | (_,b,n)::_=>b[n]?
 | []=>none
theorem DD(h:n < b.length):Bg b n<=b.length:=by
 unfold Bg;split
 ·split<;>omega
 ·omega
inductive D9(C:Addr)(vs:List V)(H:Hp)(Q:VK)(E:XK):Prop
 | mk (wk wx lb ln:Addr) (st:Stk) (_:vs=[.ref wk]) (_:hX C H wk wx lb ln st) (_:AE st) (_:(∀H',hX C H' wk wx lb ln 9e0->AE 9e0->cH 9e0=none->Kp [lb,ln] H H'->Q .XB H')) (_:∀(m:Stm) (v:V) (H':Hp),hX C H' wk wx lb ln 9e0->AE 9e0->cH 9e0=some m->cI H' v m->Kp [lb,ln] H H'->Q v H'):D9 C vs H Q E
abbrev Cmds:=List (List V)
variable{cs:Cmds}
inductive kX(H:Hp):List V->Cmds->Prop
 | nil:kX H [] []
 | cons {a:Addr} {c:List V} {us:List V} {cs:Cmds}:H a=some (.tup c)->kX H us cs->kX H (.ref a::us) (c::cs)
def kX.kt(h:kX H us cs)(k:aF H H'):kX H' us cs:=by
 induction h with
 | nil=>exact .nil
 | cons a _ ih=>exact .cons (k _ _ a) ih
def kX.len(h:kX H us cs):us.length=cs.length:=by
 induction h with
 | nil=>rfl
 | cons _ _ ih=>simp[ih]
def kX.app{vs:List V}{ps qs:Cmds}(h:kX H us ps)(g:kX H vs qs):kX H (us++vs) (ps++qs):=by
 induction h with
 | nil=>exact g
 | cons e _ ih=>exact .cons e ih
def kX.at(h:kX H us cs):∀{i:Nat} {v:V},us[i]?=some v->∃a c,v=.ref a/\cs[i]?=some c/\H a=some (.tup c):=by
 induction h with
 | nil=>intro i v e;simp at e
 | cons x _ ih =>
  intro i v e;cases i with
  | zero=>simp only[Ω,ϒ] at e;subst e;exact⟨_,_,rfl,rfl,x⟩
  | succ i=>exact ih 4e2
inductive Slp where
 | XB|new|wait (ts:List Int)|XE (k:Str)|ended (w:Wo)|worn
variable{s:Slp}
def Slp.isN:Slp->Bool
 | .XB=>true
 | _=>false
def iQ(H:Hp)(v:V):Slp->Prop
 | .XB=>v=.XB
 | .new=>∃p,v=.ref p/\H p=some (.tup [.str "new"])
 | .wait ts=>∃p p2,v=.ref p/\H p=some (.tup [.str "wait",.ref p2])/\H p2=some (.tup (ts.map V.int))
 | .XE k=>∃p,v=.ref p/\H p=some (.tup [.str "hear",.str k])
 | .ended w=>∃p,v=.ref p/\H p=some (.tup [.str "ended",wv w])
 | .worn=>∃p,v=.ref p/\H p=some (.tup [.str "worn"])
def iQ.kt(h:iQ H v s)(k:aF H H'):iQ H' v s:=by
 cases s with
 | XB=>exact h
 | wait ts=>obtain⟨p,p2,e,a,b⟩:=h;exact⟨p,p2,e,k _ _ a,k _ _ b⟩
 | _=>obtain⟨p,e,a⟩:=h;exact⟨p,e,k _ _ a⟩
def iQ.isN(h:iQ H v s):(s.isN=true/\v=.XB)\/(s.isN=false/\∃p,v=.ref p):=by
 cases s with
 | XB=>exact .inl ⟨rfl,h⟩
 | wait ts=>obtain⟨p,p2,e,a,b⟩:=h;exact .inr ⟨rfl,p,e⟩
 | _=>obtain⟨p,e,a⟩:=h;exact .inr ⟨rfl,p,e⟩
def kJ(l:List 1e0):List 6e0:=l.map λp=>(.inr p.1,wv p.2)
def dC(l:List 1e0)(n:Str)(w:Wo):List 1e0:=if 1e2=true then l.map (λp=>if p.1=n then (p.1,w) else p) else l++[(n,w)]
theorem mM(l:List 1e0)(n:Str)(w:Wo):dS (kJ l) (.inr n) (wv w)=kJ 7e1:=by
 have e:((kJ l).any λkv=>decide (kv.1=Key.inr n))=1e2:=by
  simp only[kJ,List.any_map,Ζ9,Key.inr.injEq]
 unfold dS dC;rw[e];split
 ·simp only[kJ,Β1,Ζ9,Key.inr.injEq];refine Κ9 λp _=>?_;by_cases h:p.1=n
  ·simp[h]
  ·simp[h]
 ·simp[kJ]
theorem fM(l:List 1e0)(n:Str)(w:Wo):(dC l n w).length<=l.length+1:=by
 unfold dC;split
 ·rw[Δ];omega
 ·simp
def bV:List 1e0->Str->Wo
 | [],_=>none
 | p::r,x=>if p.1=x then p.2 else bV r x
theorem wH:∀(l:List 1e0) (x:Str),(bY (kJ l) (.inr x)).getD .XB=wv (bV l x)
 | [],x=>rfl
 | p::r,x=>by
  have ih:=wH r x;show(bY ((Key.inr p.1,wv p.2)::kJ r) (.inr x)).getD .XB=_;by_cases h:p.1=x
  ·rw[cP 8e1,bV,if_pos h];rfl
  ·rw[bZ (λz=>h 0e2),bV,if_neg h];exact ih
def t8(l:List 1e0)(n:Str)(w:Wo)(x:Str):bV 7e1 x=if x=n then w else bV l x:=by
 have h1:=wH 7e1 x;rw[<- mM,Ab] at h1;by_cases h:x=n
 ·rw[if_pos 8e1] at h1;rw[if_pos h];exact(FP h1).symm
 ·rw[if_neg (λz=>h 0e2),wH] at h1;rw[if_neg h];exact(FP h1).symm
def fL(l:List 0e0):Wo->Wo
 | none=>none
 | some i=>match l with
  | []=>none
  | p::r=>if p.1=i then p.2 else fL r 7e0
theorem w8:∀(l:List 0e0) (w:Wo),(bY (hZ l) (wk w)).getD .XB=wv (fL l w)
 | [],none=>rfl
 | [],some _=>rfl
 | p::r,none=>by
  have ih:=w8 r none;show(bY 2e2 .no).getD .XB=_;rw[bZ 1e1];rw[show fL (p::r) none=fL r none from by rw[fL,fL]];exact ih
 | p::r,some i=>by
  have ih:=w8 r 7e0;show(bY 2e2 8e0).getD .XB=_;by_cases h:p.1=i
  ·rw[cP 8e1,fL,if_pos h];rfl
  ·rw[bZ (λz=>h (Key.inl.inj z)),fL,if_neg h];exact ih
inductive kN(H:Hp):List 6e0->List Addr->List 2e0->Prop
 | nil:kN H [] [] []
 | cons {a:Addr} {k:Str} {ws:List Wo} {kvs:List 6e0} {as:List Addr} {lt:List 2e0}:H a=some 6e1->kN H kvs as lt->kN H ((.inr k,.ref a)::kvs) (a::as) ((k,ws)::lt)
def kN.keep(h:kN H kvs as lt)(k:∀a∈as,∀o,H a=some o->H' a=some o):kN H' kvs as lt:=by
 induction h with
 | nil=>exact .nil
 | cons e _ ih=>exact .cons (k _ 3e1 _ e) (ih λa ha=>k a (Ξ _ ha))
def kN.ex(h:kN H kvs as lt):∀a∈as,∃xs,H a=some (.lst xs):=by
 induction h with
 | nil=>intro a ha;simp at ha
 | cons e _ ih=>intro a ha;rcases Ε.mp ha with rfl|ha;exact⟨_,e⟩;exact ih a ha
def kN.len(h:kN H kvs as lt):kvs.length=lt.length:=by
 induction h with
 | nil=>rfl
 | cons _ _ ih=>simp[ih]
def aZ:List 2e0->Str->Option (List Wo)
 | [],_=>none
 | p::r,k=>if p.1=k then some p.2 else aZ r k
def eX:List 2e0->Str->List Wo->List 2e0
 | [],_,_=>[]
 | p::r,k,ws=>if p.1=k then (p.1,ws)::r else p::eX r k ws
def kN.look(h:kN H kvs as lt)(k:Str):(bY kvs 9e1=none/\aZ lt k=none) \/ ∃a ws,bY kvs 9e1=some (.ref a)/\aZ lt k=some ws/\a∈as/\H a=some 6e1:=by
 induction h with
 | nil=>exact .inl ⟨rfl,rfl⟩
 | @cons a j ws kvs as lt e _ ih =>
  by_cases hj:j=k
  ·subst hj;exact .inr ⟨a,ws,cP rfl,by simp[aZ],by simp,e⟩
  ·rcases ih with⟨x,y⟩|⟨b,vs,x,y,z,u⟩
   ·exact .inl ⟨by rw[bZ 5e1];exact x,by simp[aZ,hj,y]⟩
   ·exact .inr ⟨b,vs,by rw[bZ 5e1];exact x,by simp[aZ,hj,y],Ξ _ z,u⟩
def kN.set{H:Hp}{kvs:List 6e0}{as:List Addr}{lt:List 2e0}(h:kN H kvs as lt){k:Str}{a:Addr}(r:List Wo)(hk:bY kvs 9e1=some (.ref a))(nd:as.Nodup):kN (Xz H a (.lst (r.map wv))) kvs as (eX lt k r):=by
 induction h with
 | nil=>cases hk
 | @cons b j ws kvs as lt e hr ih =>
  rw[Ι6] at nd;by_cases hj:j=k
  ·subst hj;rw[cP rfl] at hk;cases hk;rw[eX,if_pos rfl];exact .cons aA (hr.keep λc hc o h=>by rw[aC (show c≠a from λz=>nd.1 (by rw[<- z];exact hc))];exact h)
  ·rw[bZ 5e1] at hk;rw[eX,if_neg hj];have ha:a∈as:=by
    rcases hr.look k with⟨x,_⟩|⟨c,_,x,_,y,_⟩
    ·rw[x] at hk;cases hk
    ·rw[x] at hk;cases hk;exact y
   exact .cons (by rw[aC (show b≠a from λz=>nd.1 (by rw[z];exact ha))];exact e) (ih hk nd.2)
def kN.snoc{H:Hp}{kvs:List 6e0}{as:List Addr}{lt:List 2e0}(h:kN H kvs as lt){k:Str}{a:Addr}{ws:List Wo}(e:H a=some 6e1):kN H (kvs++[(.inr k,.ref a)]) (as++[a]) (lt++[(k,ws)]):=by
 induction h with
 | nil=>exact .cons e .nil
 | cons f _ ih=>exact .cons f ih
structure Pu where
 stk:Stk
 sl:Slp
 ar:Wo
 nw:Int
 nm:List 1e0
 made:Nat
 pend:List Int
 ans:List 0e0
 lt:List 2e0
variable{S T:Pu}
def Pu.pl(S:Pu):Pl:=⟨bV S.nm,S.ar,S.nw,fL S.ans⟩
def Pu.worth(S:Pu)(s:Say):Wo:=ev S.pl s
def Pu.j4(S:Pu)(n:Str):Pu:={S with made:=S.made+1,pend:=S.pend++[(S.made:Int)],nm:=dC S.nm n (some (S.made:Int))}
def Pu.pass(S:Pu):Pu:={S with stk:=fH S.stk}
def Gu(nw:Int):Wo->Int
 | none=>if nw < 1000000000000 then nw else 1000000000000
 | some z=>if nw+3e2 < 1000000000000 then nw+3e2 else 1000000000000
def Pu.ends(S:Pu)(w:Wo):Pu×Cmds:=({S with sl:=.ended w,pend:=[]},[[.str "end",wv w]])
def Pu.Ae(S:Pu):Pu×Cmds:=({S with sl:=.worn,pend:=[]},[[.str "worn"]])
def bW(ans:List 0e0)(ws:List Wo):Wo:=(ans.find? λp=>decide (some p.1∈ws)).map (·.1)
def Aq(i:Int):List Int->List Int
 | []=>[i]
 | j::r=>if i < j then i::j::r else if i=j then j::r else j::Aq i r
def cR(pend:List Int):List Wo->List Int
 | []=>[]
 | none::r=>cR pend r
 | some i::r=>if i∈pend then Aq i (cR pend r) else cR pend r
def bE(S:Pu):Stm->Pu×Cmds
 | .set x s=>({S with nm:=dC S.nm x 3e0},[])
 | .order x y s=>(S.j4 x,[[.str "order",.int S.made,.str y,wv 3e0]])
 | .child x y s=>(S.j4 x,[[.str "child",.int S.made,.str y,wv 3e0]])
 | .XM x s=>(S.j4 x,[[.str "timer",.int S.made,.int (Gu S.nw 3e0)]])
 | .send s k r=>(S,[[.str "send",wv 3e0,.str k,wv (S.worth r)]])
 | .drop s=>match S.worth s with
  | some i=>if i∈S.pend then ({S with pend:=S.pend.filter λj=>decide (j≠i)},[[.str "drop",.int i]]) else (S,[])
  | none=>(S,[])
 | .XE x k=>match (aZ S.lt k).getD [] with
  | w::r=>({S with nm:=dC S.nm x w,lt:=eX S.lt k r},[])
  | []=>({S with sl:=.XE k},[])
 | .wait x ss=>if bW S.ans 2e1=none/\cR S.pend 2e1≠[] then ({S with sl:=.wait (cR S.pend 2e1)},[]) else ({S with nm:=dC S.nm x (bW S.ans 2e1)},[])
 | .fin s=>S.ends 3e0
 | .Yh _ _=>(S,[])
 | .iff _ _ _=>(S,[])
def Stm.isB:Stm->Bool
 | .Yh _ _=>true
 | .iff _ _ _=>true
 | _=>false
def Pu.enter(S:Pu)(c:Nat)(b:List Stm):Pu:={S with stk:=(c,b,0)::S.stk}
def lT(S:Pu):Stm->Pu
 | .Yh s b=>if num 3e0=0 then S.pass else S.enter 0 b
 | .iff s b o=>if num 3e0=0 then S.enter 1 o else S.enter 0 b
 | _=>S
def one(S:Pu)(m:Stm):Pu×Cmds:=if m.isB=true then (lT S m,[]) else (if (bE S m).1.sl.isN=true then (bE S m).1.pass else (bE S m).1,(bE S m).2)
def Pu.bT(S:Pu):Pu:={S with stk:=cZ S.stk}
def b8:Nat->Pu->Pu×Cmds
 | 0,S=>match cH S.bT.stk with
  | none=>S.bT.ends none
  | some _=>S.bT.Ae
 | n+1,S=>match cH S.bT.stk with
  | none=>S.bT.ends none
  | some m=>if (one S.bT m).1.sl.isN=true then ((b8 n (one S.bT m).1).1,(one S.bT m).2++(b8 n (one S.bT m).1).2) else one S.bT m
def Pu.wake(S:Pu)(w:Wo):Pu×Cmds:=match cH S.stk with
 | some (.XE x _)=>b8 300 {S with nm:=dC S.nm x w,stk:=fH S.stk,sl:=.XB}
 | some (.wait x _)=>b8 300 {S with nm:=dC S.nm x w,stk:=fH S.stk,sl:=.XB}
 | _=>(S,[])
def later(nw m:Int):Int:=if m > nw then m else nw
def Say.sok(s:Say):Prop:=s.ok/\s.depth<=6
end
mutual
noncomputable def Stm.gd(wt:Bool):Stm->Prop
 | .set _ s=>s.sok
 | .order _ _ s=>s.sok
 | .child _ _ s=>s.sok
 | .XM _ s=>s.sok
 | .send s _ r=>s.sok/\r.sok
 | .drop s=>s.sok
 | .wait _ ss=>wt=true/\ss.length<=4/\∀s∈ss,s.sok
 | .XE _ _=>True
 | .fin s=>s.sok
 | .Yh s b=>s.sok/\Ap wt b
 | .iff s b o=>s.sok/\Ap wt b/\Ap wt o
noncomputable def Ap(wt:Bool):List Stm->Prop
 | []=>True
 | m::ms=>m.gd wt/\Ap wt ms
end
mutual
example:=[(by simpa using h)]
theorem Lx{wt:Bool}:∀{b:List Stm} {i:Nat} {m:Stm},Ap wt b->b[i]?=some m->m.gd wt
 | [],_,_,_,h=>by simp at h
 | _::_,0,_,g,h=>by simp only[Ω,ϒ] at h;subst h;simp only[Ap] at g;exact g.1
 | _::b,i+1,_,g,h=>by simp only[Ap] at g;exact Lx g.2 0e0
theorem KR:∀{b:List Stm} {i:Nat} {m:Stm},b[i]?=some m->m.dp<=Ao b
 | [],_,_,h=>by simp at h
 | _::_,0,_,h=>by simp only[Ω,ϒ] at h;subst h;simp only[Ao];omega
 | _::b,i+1,_,h=>by have:=KR (b:=b) 0e0;simp only[Ao];omega
def Xi:Stk->Prop
 | []=>True
 | (_,b,_)::r=>Ao b+r.length<=20/\Xi r
structure Ai(wt:Bool)(st:Stk):Prop where
 ok:AE st
 gd:∀x∈st,Ap wt x.2.1
 dp:Xi st
structure XN(wt:Bool)(S:Pu)(N:Nat):Prop where
 nm:S.nm.length<=N
 md:S.made<=N
 pd:S.pend.length<=N
 an:S.ans.length<=N
 lt:S.lt.length<=N
 lw:∀k ws,aZ S.lt k=some ws->ws.length<=N/\∀w∈ws,cL w
 pl:S.pl.Ok
 nw:0<=S.nw/\S.nw<=1000000000000
 sk:Ai wt S.stk
 sl:(∀k,S.sl=.XE k->∃x,cH S.stk=some (.XE x k))/\∀ts,S.sl=.wait ts->∃x ss,cH S.stk=some (.wait x ss)
structure Cl where
 r:Addr
 w:Addr
 t:Addr
structure Rn where
 x:Addr
 dx:Addr
 wk:Addr
 wx:Addr
 lb:Addr
 ln:Addr
 nm:Addr
 tk:Addr
 tx:Addr
 dp:Addr
 da:Addr
 lt:Addr
def Rn.cells(R:Rn):List Addr:=[R.x,R.lb,R.ln,R.nm,R.tk,R.dp,R.da,R.lt]
abbrev iE(c:Addr)(R:Rn)(sl:V)(ar:Wo)(nw:Int):HO:=.ins c R.dx [("walk",.ref R.wk),("sleep",sl),("arg",wv ar),("now",.int nw),("names",.ref R.nm),("tickets",.ref R.tk),("letters",.ref R.lt)]
def hX.keep{wk wx lb ln:Addr}(W:hX C H wk wx lb ln st)(k1:∀o,H wk=some o->H' wk=some o)(k2:∀o,H lb=some o->H' lb=some o)(k3:∀o,H ln=some o->H' ln=some o)(kt:aF H H'):hX C H' wk wx lb ln st:=by
 obtain⟨vs,e,h⟩:=W.bl;exact⟨k1 _ W.ins,⟨vs,k2 _ e,h.kp kt⟩,k3 _ W.nu,W.ne,W.Zu⟩
def iW.keep{tk tx dp da:Addr}{pend:List Int}(T:iW C H tk tx dp da made pend ans)(k1:∀o,H tk=some o->H' tk=some o)(k2:∀o,H dp=some o->H' dp=some o)(k3:∀o,H da=some o->H' da=some o):iW C H' tk tx dp da made pend ans :=
 ⟨k1 _ T.ins,k2 _ T.hp,k3 _ T.ha,T.nda,T.lt,T.asc,T.la,T.dis,T.small⟩
structure aS(C:Cl)(H:Hp)(R:Rn)(as:List Addr)(sl:V)(S:Pu):Prop where
 ins:H R.x=some (.ins C.r R.dx [("walk",.ref R.wk),("sleep",sl),("arg",wv S.ar),("now",.int S.nw),("names",.ref R.nm),("tickets",.ref R.tk),("letters",.ref R.lt)])
 slp:iQ H sl S.sl
 wk:hX C.w H R.wk R.wx R.lb R.ln S.stk
 tk:iW C.t H R.tk R.tx R.dp R.da S.made S.pend S.ans
 nm:H R.nm=some (.dK (kJ S.nm))
 lt:∃kvs,H R.lt=some (.dK kvs)/\kN H kvs as S.lt
 nas:as.Nodup
 ab:∀a∈as,a≠R.lb/\a≠R.ln
 xw:R.x≠R.wk
 xt:R.x≠R.tk
 wt:R.wk≠R.tk
 n1:R.nm≠R.dp
 n2:R.nm≠R.da
 n3:R.nm≠R.lt
 n4:R.lt≠R.dp
 n5:R.lt≠R.da
def jZ{b:Addr}{u v:HO}(e:H p=some o)(h:H b=some v)(d:v≠o:=by intro z;cases z):Xz H p u b=some v:=by
 rw[aC (bU h e d)];exact h
def aF.JC{u:HO}(e:H p=some o)(d:∀xs,o≠.tup xs:=by intro _ z;cases z):aF H (Xz H p u):=λa xs h=>jZ e h (d xs).symm
end
section
mutual
example:=[(by intro _ z;cases z),d _,(by intro _ _ _ z;cases z),(by simp[Rn.cells]),(λo h=>c 3e0 h),3e0,(λo h=>by rw[A.wk.ins] at h;cases h;exact at' A.wk.ins 0e0),(λo h=>by rw[A.tk.ins] at h;cases h;exact at' A.tk.ins 0e0),.inr k,(Xz H R.x (.ins C.r R.dx [("walk",.ref R.wk),("sleep",XT),("arg",wv ar'),("now",.int nw'),("names",.ref R.nm),("tickets",.ref R.tk),("letters",.ref R.lt)])),.dK (dS kvs 8e0 (.ref l)),.dK (kJ (dC S.nm n w)),(by simp[Rn.cells,z]),(by rw[<- z];exact m),(by rw[z];exact h),.lst (ws.map wv),.lst (r.map wv),(λo h=>by rw[A.wk.nu] at h;cases h;exact at' A.wk.nu 0e0),(λo h=>by rw[el] at h;cases h;exact at' el 0e0)]
variable{C:Cl}{R:Rn}{X7:List Addr}{sl:V}
def aS.keep(A:aS C H R as sl S)(k:∀b o,H b=some o->b=R.wk\/b∈R.cells\/b∈as->H' b=some o)(kt:aF H H'):aS C H' R as sl S:=by
 obtain⟨kvs,e,L⟩:=A.lt;have c:∀{b:Addr} {o:HO},b∈R.cells->H b=some o->H' b=some o:=λ{b o} h e=>k b o e (.inr (.inl h));exact {A with
  ins:=c 5e0 A.ins
  slp:=A.slp.kt kt
  wk:=A.wk.keep (λo h=>k _ o h (.inl rfl)) 4e0 4e0 kt
  tk:=A.tk.keep 4e0 4e0 4e0
  nm:=c 5e0 A.nm
  lt:=⟨kvs,c 5e0 e,L.keep λa ha o h=>k a o h (.inr (.inr ha))⟩}
def aS.kp(A:aS C H R as sl S)(k:Kp [] H H'):aS C H' R as sl S:=A.keep (λ_ _ h _=>k.at h) (aF.nil k)
def aS.cellK(A:aS C H R as sl S){b:Addr}(h:b∈R.cells\/b∈as):∃o,H b=some o/\∀xs,o≠.tup xs:=by
 obtain⟨kvs,e,L⟩:=A.lt;obtain⟨vs,el,_⟩:=A.wk.bl;rcases h with h|h
 ·simp only[Rn.cells,Ε,Θ,ϝ] at h;rcases h with rfl|rfl|rfl|rfl|rfl|rfl|rfl|rfl
  ·exact⟨_,A.ins,λ_ z=>by cases z⟩
  ·exact⟨_,el,λ_ z=>by cases z⟩
  ·exact⟨_,A.wk.nu,λ_ z=>by cases z⟩
  ·exact⟨_,A.nm,λ_ z=>by cases z⟩
  ·exact⟨_,A.tk.ins,λ_ z=>by cases z⟩
  ·exact⟨_,A.tk.hp,λ_ z=>by cases z⟩
  ·exact⟨_,A.tk.ha,λ_ z=>by cases z⟩
  ·exact⟨_,e,λ_ z=>by cases z⟩
 ·obtain⟨xs,ex⟩:=L.ex b h;exact⟨_,ex,λ_ z=>by cases z⟩
structure Fw(R:Rn)(as X7:List Addr)(H H':Hp):Prop where
 kp:∀b o,H b=some o->b∉R.cells->b∉as->H' b=some o
 dom:∀b o,H b=some o->∃o',H' b=some o'
 new:∀a∈X7,a∈as\/H a=none
def Fw.refl:Fw R as as H H:=⟨λ_ _ h _ _=>h,λ_ o h=>⟨o,h⟩,λ_ h=>.inl h⟩
def Fw.free(F:Fw R as X7 H H'){c:Addr}(h:H' c=none):H c=none:=by
 cases z:H c with
 | none=>rfl
 | some o=>obtain⟨o',z'⟩:=F.dom c o z;rw[h] at z';cases z'
def Fw.trans{abI:List Addr}{H'':Hp}(a:Fw R as X7 H H')(b:Fw R X7 abI H' H''):Fw R as abI H H'' :=
  ⟨λc o h n m=>b.kp c o (a.kp c o h n m) n (λz=>by
      rcases a.new c z with y|y
      · exact m y
      · rw[h] at y;cases y),λc o h=>(by obtain⟨o',h'⟩:=a.dom c o h;exact b.dom c o' h'),λc h=>by
    rcases b.new c h with y|y
    · exact a.new c y
    · exact .inr (a.free y)⟩
def Fw.of(k:Kp [] H H'):Fw R as as H H':=⟨λb o h _ _=>k.at h,λb o h=>⟨o,k.at h⟩,λ_ h=>.inl h⟩
def Fw.set{p:Addr}{o:HO}(h:p∈R.cells\/p∈as):Fw R as as H (Xz H p o) :=
 ⟨λb u e n m=>by rw[aC (λz=>by rcases h with h|h;exact n 4e1;exact m 4e1)];exact e,λb u e=>by by_cases z:b=p;exact⟨o,by rw[z,aA]⟩;exact⟨u,by rw[aC z];exact e⟩,λ_ h=>.inl h⟩
def Fw.ofD{D:List Addr}(k:Kp D H H')(h:∀b∈D,b∈R.cells/\∃o,H' b=some o):Fw R as as H H' :=
 ⟨λb o e n _=>k b o e λz=>n (h b z).1,λb o e=>by by_cases z:b∈D;exact(h b z).2;exact⟨o,k b o e z⟩,λ_ h=>.inl h⟩
def Fw.fresh{c:Addr}(F:Fw R as X7 H H')(h:H c=none):Fw R as X7 H (Xz H' c o) :=
 ⟨λb u e n m=>by rw[aC (aD e h)];exact F.kp b u e n m,λb u e=>by rw[aC (aD e h)];exact F.dom b u e,F.new⟩
def aS.tkp(A:aS C H R as sl S)(F:Fw R as X7 H H'):aF H H':=λb xs h=>F.kp b _ h (λz=>by
    obtain⟨o,e,d⟩:=A.cellK (.inl z);rw[h] at e;exact d xs (Ϛ e).symm) λz=>by
    obtain⟨o,e,d⟩:=A.cellK (.inr z);rw[h] at e;exact d xs (Ϛ e).symm
def aS.c9(A:aS C H R as sl S){c:Addr}(h:H c=none):c∉R.cells/\c∉as:=by
 refine⟨λz=>?_,λz=>?_⟩
 ·obtain⟨o,e,d⟩:=A.cellK (.inl z);rw[h] at e;cases e
 ·obtain⟨o,e,d⟩:=A.cellK (.inr z);rw[h] at e;cases e
def aS.attr(A:aS C H R as sl S)(XT:V)(s':Slp)(ar':Wo)(nw':Int)(h:iQ H XT s'):aS C 9e0 R as XT {S with sl:=s',ar:=ar',nw:=nw'}:=by
 obtain⟨kvs,e,L⟩:=A.lt;obtain⟨vs,el,_⟩:=A.wk.bl;have kt:aF H 9e0:=aF.JC A.ins;exact {A with
  ins:=aA
  slp:=h.kt kt
  wk:=A.wk.keep (λo h=>by rw[aC A.xw.symm];exact h) (λo h=>by rw[el] at h;cases h;exact jZ A.ins el) (λo h=>by rw[A.wk.nu] at h;cases h;exact jZ A.ins A.wk.nu) kt
  tk:=A.tk.keep (λo h=>by rw[aC A.xt.symm];exact h) (λo h=>by rw[A.tk.hp] at h;cases h;exact jZ A.ins A.tk.hp) (λo h=>by rw[A.tk.ha] at h;cases h;exact jZ A.ins A.tk.ha)
  nm:=jZ A.ins A.nm
  lt:=⟨kvs,jZ A.ins e,L.keep λa ha o h=>by obtain⟨xs,ex⟩:=L.ex a ha;rw[ex] at h;cases h;exact jZ A.ins ex⟩}
def aS.walk(A:aS C H R as sl S)(W:hX C.w H' R.wk R.wx R.lb R.ln st)(k:Kp [R.lb,R.ln] H H'):aS C H' R as sl {S with stk:=st}:=by
 obtain⟨kvs,e,L⟩:=A.lt;obtain⟨vs,el,_⟩:=A.wk.bl;have at':∀{b:Addr} {o:HO},H b=some o->(∀xs,o≠.lst xs)->H' b=some o:=λ{b o} h d=>k b o h (by
  simp only[Ε,Θ,ϝ,not_or];exact⟨bU h el 1e0,bU h A.wk.nu 1e0⟩)
 have kt:aF H H':=λb xs h=>at' h 0e0;exact {A with
  ins:=at' A.ins 0e0
  slp:=A.slp.kt kt
  wk:=W
  tk:=⟨at' A.tk.ins 0e0,at' A.tk.hp 0e0,at' A.tk.ha 0e0,A.tk.nda,A.tk.lt,A.tk.asc,A.tk.la,A.tk.dis,A.tk.small⟩
  nm:=at' A.nm 0e0
  lt:=⟨kvs,at' e 0e0,L.keep λa ha o h=>k a o h (by
   simp only[Ε,Θ,ϝ,not_or];exact A.ab a ha)⟩}
def aS.yC(_:aS C H R as sl S)(W:hX C.w H' R.wk R.wx R.lb R.ln st)(k:Kp [R.lb,R.ln] H H'):Fw R as as H H':=Fw.ofD k λb hb=>by
 obtain⟨vs,el,_⟩:=W.bl;simp only[Ε,Θ,ϝ] at hb;rcases hb with rfl|rfl
 ·exact⟨by simp[Rn.cells],_,el⟩
 ·exact⟨by simp[Rn.cells],_,W.nu⟩
def aS.tick(A:aS C H R as sl S){md:Nat}{pd:List Int}(T:iW C.t H' R.tk R.tx R.dp R.da md pd an)(k:Kp [R.tk,R.dp,R.da] H H'):aS C H' R as sl {S with made:=md,pend:=pd,ans:=an}:=by
 obtain⟨kvs,e,L⟩:=A.lt;obtain⟨vs,el,_⟩:=A.wk.bl;have at':∀{b:Addr} {o:HO},H b=some o->(∀xs,o≠.dK xs)->(∀C d f,o≠.ins C d f)->H' b=some o:=λ{b o} h d d2=>k b o h (by
  simp only[Ε,Θ,ϝ,not_or];exact⟨bU h A.tk.ins (d2 _ _ _),bU h A.tk.hp 1e0,bU h A.tk.ha 1e0⟩)
 have iR:∀{b:Addr} {o:HO},H b=some o->(∀xs,o≠.dK xs)->b≠R.tk->H' b=some o:=λ{b o} h d d2=>k b o h (by
  simp only[Ε,Θ,ϝ,not_or];exact⟨d2,bU h A.tk.hp 1e0,bU h A.tk.ha 1e0⟩)
 have atD:∀{b:Addr} {o:HO},H b=some o->(∀C d f,o≠.ins C d f)->b≠R.dp->b≠R.da->H' b=some o:=λ{b o} h d d2 d3=>k b o h (by
  simp only[Ε,Θ,ϝ,not_or];exact⟨bU h A.tk.ins (d _ _ _),d2,d3⟩)
 have kt:aF H H':=λb xs h=>at' h 0e0 2e0;exact {A with
  ins:=iR A.ins 0e0 A.xt
  slp:=A.slp.kt kt
  wk:=A.wk.keep (λo h=>by rw[A.wk.ins] at h;cases h;exact iR A.wk.ins 0e0 A.wt) (λo h=>by rw[el] at h;cases h;exact at' el 0e0 2e0) (λo h=>by rw[A.wk.nu] at h;cases h;exact at' A.wk.nu 0e0 2e0) kt
  tk:=T
  nm:=atD A.nm 2e0 A.n1 A.n2
  lt:=⟨kvs,atD e 2e0 A.n4 A.n5,L.keep λa ha o h=>by obtain⟨xs,ex⟩:=L.ex a ha;rw[ex] at h;cases h;exact at' ex 0e0 2e0⟩}
def aS.Di(_:aS C H R as sl S){md:Nat}{pd:List Int}(T:iW C.t H' R.tk R.tx R.dp R.da md pd an)(k:Kp [R.tk,R.dp,R.da] H H'):Fw R as as H H':=Fw.ofD k λb hb=>by
 simp only[Ε,Θ,ϝ] at hb;rcases hb with rfl|rfl|rfl
 ·exact⟨by simp[Rn.cells],_,T.ins⟩
 ·exact⟨by simp[Rn.cells],_,T.hp⟩
 ·exact⟨by simp[Rn.cells],_,T.ha⟩
def aS.name(A:aS C H R as sl S)(n:Str)(w:Wo):aS C (Xz H R.nm 1e1) R as sl {S with nm:=dC S.nm n w}:=by
 obtain⟨kvs,e,L⟩:=A.lt;obtain⟨vs,el,_⟩:=A.wk.bl;have at':∀{b:Addr} {o:HO},H b=some o->(∀xs,o≠.dK xs)->Xz H R.nm 1e1 b=some o:=λ{b o} h d=>jZ A.nm h 1e0;have kt:aF H _:=λb xs h=>at' h 0e0;exact {A with
  ins:=at' A.ins 0e0
  slp:=A.slp.kt kt
  wk:=A.wk.keep 6e0 8e1 7e1 kt
  tk:=A.tk.keep 7e0 (λo h=>by rw[aC A.n1.symm];exact h) (λo h=>by rw[aC A.n2.symm];exact h)
  nm:=aA
  lt:=⟨kvs,by rw[aC A.n3.symm];exact e,L.keep λa ha o h=>by obtain⟨xs,ex⟩:=L.ex a ha;rw[ex] at h;cases h;exact at' ex 0e0⟩}
def aS.Au(A:aS C H R as sl S)(e:H R.lt=some (.dK kvs))(hk:bY kvs 8e0=some (.ref l))(r:List Wo):aS C (Xz H l 6e1) R as sl {S with lt:=eX S.lt k r}/\l∈as:=by
 obtain⟨adB,e',L⟩:=A.lt;rw[e] at e';cases e';obtain⟨vs,el,_⟩:=A.wk.bl;obtain⟨ws,hl,ZA⟩:∃ws:List Wo,H l=some 5e1/\l∈as:=by
  rcases L.look k with⟨x,_⟩|⟨c,ws,x,_,y,z⟩
  ·rw[x] at hk;cases hk
  ·rw[x] at hk;cases hk;exact⟨ws,z,y⟩
 have at':∀{b:Addr} {o:HO},H b=some o->(∀xs,o≠.lst xs)->Xz H l 6e1 b=some o:=λ{b o} h d=>jZ hl h 1e0;have kt:aF H _:=λb xs h=>at' h 0e0;have nb:=A.ab l ZA;refine⟨{A with
  ins:=at' A.ins 0e0
  slp:=A.slp.kt kt
  wk:=A.wk.keep 6e0 (λo h=>by rw[aC nb.1.symm];exact h) (λo h=>by rw[aC nb.2.symm];exact h) kt
  tk:=A.tk.keep 7e0 (λo h=>by rw[A.tk.hp] at h;cases h;exact at' A.tk.hp 0e0) (λo h=>by rw[A.tk.ha] at h;cases h;exact at' A.tk.ha 0e0)
  nm:=at' A.nm 0e0
  lt:=⟨kvs,at' e 0e0,L.set r hk A.nas⟩},ZA⟩
def aS.O4(A:aS C H R as sl S)(e:H R.lt=some (.dK kvs))(hk:bY kvs 8e0=none)(hl:H l=some 5e1)(n1:l∉R.cells)(n2:l∉as):aS C (Xz H R.lt 0e1) R (as++[l]) sl {S with lt:=S.lt++[(k,ws)]}:=by
 obtain⟨adB,e',L⟩:=A.lt;rw[e] at e';cases e';obtain⟨vs,el,_⟩:=A.wk.bl;have at':∀{b:Addr} {o:HO},H b=some o->(∀xs,o≠.dK xs)->Xz H R.lt 0e1 b=some o:=λ{b o} h d=>jZ e h 1e0;have kt:aF H _:=λb xs h=>at' h 0e0;exact {A with
  ins:=at' A.ins 0e0
  slp:=A.slp.kt kt
  wk:=A.wk.keep 6e0 8e1 7e1 kt
  tk:=A.tk.keep 7e0 (λo h=>by rw[aC A.n4.symm];exact h) (λo h=>by rw[aC A.n5.symm];exact h)
  nm:=by rw[aC A.n3];exact A.nm
  lt:=⟨_,aA,by
   rw[zC _ hk];exact(L.keep λa ha o h=>by obtain⟨xs,ex⟩:=L.ex a ha;rw[ex] at h;cases h;exact jZ e ex).snoc (jZ e hl)⟩
  nas:=List.nodup_append.mpr ⟨A.nas,by simp,λa ha b hb=>by rw[show b=l by simpa using hb];exact λz=>n2 (by rw[<- z];exact ha)⟩
  ab:=λa ha=>by
   rcases Υ.mp ha with ha|ha
   ·exact A.ab a ha
   ·rw[show a=l by simpa using ha];exact⟨λz=>n1 2e1,λz=>n1 2e1⟩}
def aS.other(A:aS C H R as sl S){c:Addr}{vs:List V}(hc:H c=some (.lst us))(n1:c∉R.cells)(n2:c∉as):aS C (Xz H c (.lst vs)) R as sl S :=
 A.keep (λb o h m=>by
  rw[aC (λz=>by
   rcases m with m|m|m
   ·rw[z] at m;rw[m,A.wk.ins] at hc;cases hc
   ·exact n1 3e1
   ·exact n2 3e1)]
  exact h) (aF.JC hc)
end
end
mutual
example:=[Str×List Wo,N+1,Int×Wo,(by simp),V×V,(by cases e),Str×Wo,Δ3 N,Xz (Xz H1 dx (.own x)) x (.ins C dx []),i∈bK ans ws,ws.take i,ws.map wv,Xz H p o,(Kp.drop ((K1.mono (by simp)).trans K) hx),(Kp.new (by rw[aC ne.symm];exact hx)),(λv H2=>v=.XB/\Q x H2),.ins C.r dx [],(by simp[fL,h]),(.tup [x,y]),j∈i::r,.tup us,some i,Xz H1 dx (.own x),(by rw[show(S.enter c bb).sl=S.sl from rfl,hs] at e;cases e),(by rw[show S'.pass.sl=S'.sl from rfl,a] at e;cases e),(by rw[show S.bT.sl=S.sl from rfl,h] at e;cases e),Nat.le_succ_of_le F.pd,(by simp[Stm.dp];omega),(.tup [.str k,.ref b]),(by simp[fL,h,z]),Str.ofString a,ws.take (i+1),us++[.ref a],ns.map V.int,(by simp[hx]),(l++[(i,w)]),cU (cU f2),cU (cU f1),.ref a::us,bW ans ws,aF.nil K1,S.worth s]
def put2{x:Addr}{o' u:HO}(hx:H x=some u)(hp:H p=none):Xz 2e1 x o' x=some o'/\Xz 2e1 x o' p=some o/\Kp [x] H (Xz 2e1 x o')/\x≠p:=by
 have n:x≠p:=aD hx hp;exact⟨aA,by rw[aC n.symm];exact aA,(Kp.new hp).trans (Kp.set 3e0),n⟩
def cU(h:Xz H a o p=none):H p=none:=by
 by_cases e:p=a
 ·subst e;rw[aA] at h;cases h
 ·rwa [aC e] at h
def Told(C:Cl)(R:Rn)(as X7:List Addr)(H:Hp)(Q:VK)(z:Pu×Cmds):Prop:=∀(sl:V) (c:Addr) (us:List V) (H':Hp),aS C H' R X7 sl z.1->H c=none->H' c=some (.lst us)->kX H' us z.2->Fw R as X7 H H'->Q (.ref c) H'
inductive Ea(C:Cl)(vs:List V)(H:Hp)(Q:VK)(E:XK):Prop
 | mk (R:Rn) (as:List Addr) (sl:V) (S:Pu) (v:V) (s:Say) (_:vs=[.ref R.x,v]) (_:aS C H R as sl S) (_:S.pl.Ok) (_:dF H v s) (_:s.sok) (_:Q (wv 1e4) H):Ea C vs H Q E
inductive MV(C:Cl)(vs:List V)(H:Hp)(Q:VK)(E:XK):Prop
 | mk (R:Rn) (as:List Addr) (sl:V) (S:Pu) (n:Str) (_:vs=[.ref R.x,.str n]) (_:aS C H R as sl S) (_:S.made < 1000000) (_:S.pend.length < 1000000) (_:S.nm.length<=1000000) (_:∀H',aS C H' R as sl (S.j4 n)->Fw R as as H H'->Q (.int S.made) H'):MV C vs H Q E
inductive MQ(C:Cl)(vs:List V)(H:Hp)(Q:VK)(E:XK):Prop
 | mk (R:Rn) (as:List Addr) (sl:V) (S:Pu) (w:Wo) (_:vs=[.ref R.x,wv w]) (_:aS C H R as sl S) (_:Told C R as as H Q (S.ends w)):MQ C vs H Q E
inductive Nf(C:Cl)(vs:List V)(H:Hp)(Q:VK)(E:XK):Prop
 | mk (R:Rn) (as:List Addr) (sl:V) (S:Pu) (_:vs=[.ref R.x]) (_:aS C H R as sl S) (_:Told C R as as H Q S.Ae):Nf C vs H Q E
inductive dJ(C:Cl)(wt:Bool)(g:Stm->Prop)(vs:List V)(H:Hp)(Q:VK)(E:XK):Prop
 | mk (R:Rn) (as:List Addr) (sl:V) (S:Pu) (a:V) (m:Stm) (N:Nat) (_:vs=[.ref R.x,a]) (_:aS C H R as sl S) (_:S.sl=.XB) (_:cI H a m) (_:g m) (_:XN wt S N) (_:m.gd wt) (_:N<=900000) (_:Told C R as as H Q (bE S m)):dJ C wt g vs H Q E
inductive HE(C:Cl)(wt:Bool)(vs:List V)(H:Hp)(Q:VK)(E:XK):Prop
 | mk (R:Rn) (as:List Addr) (sl:V) (S:Pu) (a:V) (m:Stm) (N:Nat) (_:vs=[.ref R.x,a]) (_:aS C H R as sl S) (_:cI H a m) (_:m.isB=true) (_:XN wt S N) (_:m.gd wt) (_:cH S.stk=some m) (_:∀H',aS C H' R as sl (lT S m)->Fw R as as H H'->Q .XB H'):HE C wt vs H Q E
inductive MW(C:Cl)(wt:Bool)(vs:List V)(H:Hp)(Q:VK)(E:XK):Prop
 | mk (R:Rn) (as:List Addr) (sl:V) (S:Pu) (a:V) (m:Stm) (N:Nat) (_:vs=[.ref R.x,a]) (_:aS C H R as sl S) (_:S.sl=.XB) (_:cI H a m) (_:XN wt S N) (_:m.gd wt) (_:cH S.stk=some m) (_:N<=900000) (_:Told C R as as H Q (one S m)):MW C wt vs H Q E
inductive HF(C:Cl)(vs:List V)(H:Hp)(Q:VK)(E:XK):Prop
 | mk (R:Rn) (as:List Addr) (sl:V) (S:Pu) (_:vs=[.ref R.x]) (_:aS C H R as sl S) (_:S.pend.length < 64) (_:∀l,H l=none->Q (.ref l) (Xz H l (.lst (S.pend.map V.int)))):HF C vs H Q E
def Qv(F:XN wt S N){s:Say}(h:s.sok):cL 1e4:=Qu F.pl h.1
def O3{y:Str}{a:Sp}:List.lookup y ((y,a)::r)=some a:=by simp only[List.lookup,beq_self_eq_true]
theorem nG{a b:String}{s:Sp}(h:a≠b:=by decide):List.lookup 0e3 ((Str.ofString b,s)::r)=List.lookup 0e3 r:=by
 have:((Str.ofString a:Str)==Str.ofString b)=false:=Β6.mpr λz=>h (by rwa [gD] at z);simp only[List.lookup,this]
def O2{y:Str}{a sp:Sp}(h:List.lookup y ((k,a)::r)=some sp):(y=k/\sp=a)\/List.lookup y r=some sp:=by
 simp only[List.lookup] at h;split at h
 ·next z=>cases h;exact .inl ⟨eq_of_beq z,rfl⟩
 ·exact .inr h
def gA{m:Stm}(h:cH st=some m):∃k b n r,st=(k,b,n)::r/\b[n]?=some m:=by
 match st,h with
 | (k,b,n)::r,h=>exact⟨k,b,n,r,rfl,h⟩
def xO(S:Pu)(m:Stm):(bE S m).1.stk=S.stk:=by
 cases m<;>simp only[bE,Pu.j4,Pu.ends]
 ·split
  ·split<;>rfl
  ·rfl
 ·split<;>rfl
 ·split<;>rfl
theorem C3{wt:Bool}:∀st,Ai wt st->Ai wt (cZ st)
 | [],h=>h.ok.elim
 | [x],h=>by simp only[cZ];exact h
 | (k,b,n)::(k2,b2,n2)::r,h=>by
  rw[cZ];split
  ·have o:=h.ok.2 (k2,b2,n2) 3e0;exact C3 ((k2,b2,Bg b2 n2)::r) ⟨⟨DD o,λx hx=>h.ok.2 x (Ξ _ hx)⟩,λx hx=>by
    rcases Ε.mp hx with rfl|hx
    ·exact h.gd (k2,b2,n2) 3e0
    ·exact h.gd x 4e3,⟨h.dp.2.1,h.dp.2.2⟩⟩
  ·exact h
termination_by st=>st.length
def XN.bT(F:XN wt S N)(h:S.sl=.XB):XN wt S.bT N :=
 {F with sk:=C3 _ F.sk,sl:=⟨λk e=>5e2,λk e=>5e2⟩}
def XN.more{M:Nat}(F:XN wt S N)(h:N<=M):XN wt S M :=
 {F with nm:=ϕ F.nm h,md:=ϕ F.md h,pd:=ϕ F.pd h,an:=ϕ F.an h,lt:=ϕ F.lt h,lw:=λk ws e=>⟨ϕ (F.lw k ws e).1 h,(F.lw k ws e).2⟩}
def Ai.pass{m:Stm}(G:Ai wt st)(h:cH st=some m):Ai wt (fH st):=by
 obtain⟨k,b,n,r,rfl,hm⟩:=gA h;have hn:=(Λ.mp hm).1;exact⟨⟨hn,G.ok.2⟩,λx hx=>by
  rcases Ε.mp hx with rfl|hx
  ·exact G.gd (k,b,n) 3e0
  ·exact G.gd x 4e3,G.dp⟩
theorem Ai.enter{m:Stm}{c:Nat}(G:Ai wt st)(h:cH st=some m)(hg:Ap wt bb)(hd:Ao bb+1<=m.dp):Ai wt ((c,bb,0)::st):=by
 obtain⟨k,b,n,r,rfl,hm⟩:=gA h;have hn:=(Λ.mp hm).1;have h2:=KR hm;have h3:=G.dp.1;refine⟨⟨ϖ _,λx hx=>?_⟩,λx hx=>?_,?_,G.dp⟩
 ·rcases Ε.mp hx with rfl|hx
  ·exact hn
  ·exact G.ok.2 x hx
 ·rcases Ε.mp hx with rfl|hx
  ·exact hg
  ·exact G.gd x hx
 ·simp only[Κ];omega
def XN.stm(F:XN wt S N){m:Stm}(h:cH S.stk=some m):m.gd wt:=by
 obtain⟨k,b,n,r,e,hm⟩:=gA h;exact Lx (F.sk.gd (k,b,n) (by rw[e];simp)) hm
def Mf(h:S.pl.Ok)(n:Str){w:Wo}(hw:cL w):({S with nm:=dC S.nm n w}:Pu).pl.Ok :=
 ⟨λx=>by show cL (bV (dC S.nm n w) x);rw[t8];split;exact hw;exact h.nm x,h.ar,h.an⟩
theorem t5:∀(l:List 0e0) (k:Str) (r:List Wo) (j:Str) (ws:List Wo),aZ (eX l k r) j=some ws->(j=k/\ws=r)\/aZ l j=some ws
 | [],_,_,_,_,h=>by simp[eX,aZ] at h
 | p::l,k,r,j,ws,h=>by
  by_cases e:p.1=k
  ·rw[eX,if_pos e,aZ] at h;by_cases e2:p.1=j
   ·rw[if_pos e2] at h;cases h;exact .inl ⟨by rw[<- e2,e],rfl⟩
   ·rw[if_neg e2] at h;exact .inr (by rw[aZ,if_neg e2];exact h)
  ·rw[eX,if_neg e,aZ] at h;by_cases e2:p.1=j
   ·rw[if_pos e2] at h;exact .inr (by rw[aZ,if_pos e2];exact h)
   ·rw[if_neg e2] at h;rcases t5 l k r j ws h with x|x
    ·exact .inl x
    ·exact .inr (by rw[aZ,if_neg e2];exact x)
theorem zR:∀(l:List 0e0) (k:Str) (r:List Wo),(eX l k r).length=l.length
 | [],_,_=>rfl
 | p::l,k,r=>by
  rw[eX];split
  ·rfl
  ·simp[zR l k r]
theorem B5(h:∀w∈ws,cL w):cL 9e3:=by
 unfold bW;cases e:ans.find? λp=>decide (some p.1∈ws) with
 | none=>exact lR
 | some p =>
  have:=List.find?_some e;exact h _ (by simpa using this)
def AQ{α:Type}{p:α->Bool}{l:List α}:(l.filter p).length<=l.length:=List.length_filter_le p l
theorem XN.bE(F:XN wt S N){m:Stm}(h:cH S.stk=some m)(hs:S.sl=.XB)(hN:N<=900000):XN wt (bE S m).1 1e0:=by
 have g:=F.stm h;have F1:=F.more 7e0;have XR:(∀k,S.sl=.XE k->∃x,cH S.stk=some (.XE x k))/\∀ts,S.sl=.wait ts->∃x ss,cH S.stk=some (.wait x ss):=F.sl;have put:∀(n:Str) {w:Wo},cL w->XN wt {S with nm:=dC S.nm n w} 1e0:=λn w hw =>
  {F1 with nm:=by (have:=fM S.nm n w;have:=F.nm;show(dC S.nm n w).length<=N+1;omega),pl:=Mf F.pl n hw}
 have j4:∀n,XN wt (S.j4 n) 1e0:=λn =>
  have hw:cL (some (S.made:Int)):=iT (by omega) (by have:=F.md;omega)
  {F1 with
   nm:=(put n hw).nm
   pl:=(put n hw).pl
   md:=(by have:=F.md;show S.made+1<=N+1;omega)
   pd:=(by have:=F.pd;show(S.pend++[(S.made:Int)]).length<=N+1;rw[Ι];simp;exact this)}
 cases m with
 | set x s=>exact put x (Qv F g)
 | order x y s=>exact j4 x
 | child x y s=>exact j4 x
 | XM x s=>exact j4 x
 | send s k r=>exact F1
 | drop s =>
  simp only[Own.bE];split
  ·split
   ·exact {F1 with pd:=ϕ AQ 6e2}
   ·exact F1
  ·exact F1
 | wait x ss =>
  simp only[Own.bE];split
  ·exact {F1 with sl:=⟨λk e=>5e0,λts e=>⟨x,ss,h⟩⟩}
  ·exact put x (B5 λw hw=>by
    obtain⟨s,Y9,rfl⟩:=Ϝ.mp hw;exact Qv F (g.2.2 s Y9))
 | XE x k =>
  simp only[Own.bE];split
  ·next w r e =>
   obtain⟨ws,el,rfl⟩:∃ws,aZ S.lt k=some ws/\ws=w::r:=by
    cases el:aZ S.lt k with
    | none=>rw[el] at e;cases e
    | some ws=>rw[el] at e;exact⟨ws,rfl,e⟩
   have hl:=F.lw k _ el;exact {put x (hl.2 w 3e0) with
    lt:=(by have:=F.lt;show(eX S.lt k r).length<=N+1;rw[zR];omega)
    lw:=λj vs hj=>by
     rcases t5 S.lt k r j vs hj with⟨_,rfl⟩|z
     ·exact⟨by have:=hl.1;simp only[Κ] at this;omega,λw hw=>hl.2 w (Ξ _ hw)⟩
     ·exact F1.lw j vs z}
  ·exact {F1 with sl:=⟨λk' e=>(by cases e;exact⟨x,h⟩),λts e=>5e0⟩}
 | fin s=>exact {F1 with pd:=ϖ _,sl:=⟨λk e=>5e0,λk e=>5e0⟩}
 | Yh s b=>exact F1
 | iff s b o=>exact F1
def Cc(h:s.isN=true):s=.XB:=by cases s<;>first|rfl|cases h
theorem XN.one{wt:Bool}{S:Pu}{N:Nat}(F:XN wt S N){m:Stm}(h:cH S.stk=some m)(hs:S.sl=.XB)(hN:N<=900000):XN wt (one S m).1 1e0:=by
 have g:=F.stm h;have F1:=F.more 7e0;have ad5:∀{st:Stk},XN wt {S with stk:=st} 1e0->XN wt {S with stk:=st} 1e0:=λz=>z;have pass:∀{S':Pu},XN wt S' 1e0->S'.sl=.XB->S'.stk=S.stk->XN wt S'.pass 1e0:=λ{S'} z a b =>
  {z with sk:=(by have:=z.sk;rw[b] at this;show Ai wt (fH S'.stk);rw[b];exact this.pass h),sl:=⟨λk e=>4e2,λk e=>4e2⟩}
 have enter:∀(c:Nat) (bb:List Stm),Ap wt bb->Ao bb+1<=m.dp->XN wt (S.enter c bb) 1e0:=λc bb hg hd =>
  {F1 with sk:=F.sk.enter h hg hd,sl:=⟨λk e=>3e2,λk e=>3e2⟩}
 by_cases hB:m.isB=true
 ·simp only[Own.one,if_pos hB];cases m with
  | Yh s b =>
   simp only[lT];split
   ·exact pass F1 hs rfl
   ·exact enter 0 b g.2 (by simp[Stm.dp])
  | iff s b o =>
   simp only[lT];split
   ·exact enter 1 o g.2.2 7e2
   ·exact enter 0 b g.2.1 7e2
  | _=>cases hB
 ·simp only[Own.one,if_neg hB];have D:=F.bE h hs hN;split
  ·next z=>exact pass D (Cc z) (xO S m)
  ·exact D
def S9{m:Stm}(h:m.isB=false):one S m=(if (bE S m).1.sl.isN=true then (bE S m).1.pass else (bE S m).1,(bE S m).2):=by simp[one,h]
def QA{m:Stm}(h:m.isB=true):one S m=(lT S m,[]):=by simp[one,h]
def mJ:List.lookup (Str.ofString "set") [((Str.ofString "set":Str),s0),((Str.ofString "order":Str),s1),((Str.ofString "timer":Str),s2),((Str.ofString "child":Str),s3),((Str.ofString "send":Str),s4),((Str.ofString "drop":Str),s5),((Str.ofString "wait":Str),s6),((Str.ofString "hear":Str),s7),((Str.ofString "end":Str),s8)]=some s0:=by rw[O3]
def gQ:List.lookup (Str.ofString "order") [((Str.ofString "set":Str),s0),((Str.ofString "order":Str),s1),((Str.ofString "timer":Str),s2),((Str.ofString "child":Str),s3),((Str.ofString "send":Str),s4),((Str.ofString "drop":Str),s5),((Str.ofString "wait":Str),s6),((Str.ofString "hear":Str),s7),((Str.ofString "end":Str),s8)]=some s1:=by rw[nG,O3]
def gR:List.lookup (Str.ofString "timer") [((Str.ofString "set":Str),s0),((Str.ofString "order":Str),s1),((Str.ofString "timer":Str),s2),((Str.ofString "child":Str),s3),((Str.ofString "send":Str),s4),((Str.ofString "drop":Str),s5),((Str.ofString "wait":Str),s6),((Str.ofString "hear":Str),s7),((Str.ofString "end":Str),s8)]=some s2:=by rw[nG,nG,O3]
def gP:List.lookup (Str.ofString "child") [((Str.ofString "set":Str),s0),((Str.ofString "order":Str),s1),((Str.ofString "timer":Str),s2),((Str.ofString "child":Str),s3),((Str.ofString "send":Str),s4),((Str.ofString "drop":Str),s5),((Str.ofString "wait":Str),s6),((Str.ofString "hear":Str),s7),((Str.ofString "end":Str),s8)]=some s3:=by rw[nG,nG,nG,O3]
def jK:List.lookup (Str.ofString "send") [((Str.ofString "set":Str),s0),((Str.ofString "order":Str),s1),((Str.ofString "timer":Str),s2),((Str.ofString "child":Str),s3),((Str.ofString "send":Str),s4),((Str.ofString "drop":Str),s5),((Str.ofString "wait":Str),s6),((Str.ofString "hear":Str),s7),((Str.ofString "end":Str),s8)]=some s4:=by rw[nG,nG,nG,nG,O3]
def jI:List.lookup (Str.ofString "drop") [((Str.ofString "set":Str),s0),((Str.ofString "order":Str),s1),((Str.ofString "timer":Str),s2),((Str.ofString "child":Str),s3),((Str.ofString "send":Str),s4),((Str.ofString "drop":Str),s5),((Str.ofString "wait":Str),s6),((Str.ofString "hear":Str),s7),((Str.ofString "end":Str),s8)]=some s5:=by rw[nG,nG,nG,nG,nG,O3]
def jL:List.lookup (Str.ofString "wait") [((Str.ofString "set":Str),s0),((Str.ofString "order":Str),s1),((Str.ofString "timer":Str),s2),((Str.ofString "child":Str),s3),((Str.ofString "send":Str),s4),((Str.ofString "drop":Str),s5),((Str.ofString "wait":Str),s6),((Str.ofString "hear":Str),s7),((Str.ofString "end":Str),s8)]=some s6:=by rw[nG,nG,nG,nG,nG,nG,O3]
def jJ:List.lookup (Str.ofString "hear") [((Str.ofString "set":Str),s0),((Str.ofString "order":Str),s1),((Str.ofString "timer":Str),s2),((Str.ofString "child":Str),s3),((Str.ofString "send":Str),s4),((Str.ofString "drop":Str),s5),((Str.ofString "wait":Str),s6),((Str.ofString "hear":Str),s7),((Str.ofString "end":Str),s8)]=some s7:=by rw[nG,nG,nG,nG,nG,nG,nG,O3]
def mI:List.lookup (Str.ofString "end") [((Str.ofString "set":Str),s0),((Str.ofString "order":Str),s1),((Str.ofString "timer":Str),s2),((Str.ofString "child":Str),s3),((Str.ofString "send":Str),s4),((Str.ofString "drop":Str),s5),((Str.ofString "wait":Str),s6),((Str.ofString "hear":Str),s7),((Str.ofString "end":Str),s8)]=some s8:=by rw[nG,nG,nG,nG,nG,nG,nG,nG,O3]
def deeds9{Z:Str->Sp->Prop}{y:Str}{sp:Sp}(h:List.lookup y [((Str.ofString "set":Str),s0),((Str.ofString "order":Str),s1),((Str.ofString "timer":Str),s2),((Str.ofString "child":Str),s3),((Str.ofString "send":Str),s4),((Str.ofString "drop":Str),s5),((Str.ofString "wait":Str),s6),((Str.ofString "hear":Str),s7),((Str.ofString "end":Str),s8)]=some sp)(z0:Z "set" s0)(z1:Z "order" s1)(z2:Z "timer" s2)(z3:Z "child" s3)(z4:Z "send" s4)(z5:Z "drop" s5)(z6:Z "wait" s6)(z7:Z "hear" s7)(z8:Z "end" s8):Z y sp:=by
 rcases O2 h with⟨rfl,rfl⟩|h
 ·exact z0
 rcases O2 h with⟨rfl,rfl⟩|h
 ·exact z1
 rcases O2 h with⟨rfl,rfl⟩|h
 ·exact z2
 rcases O2 h with⟨rfl,rfl⟩|h
 ·exact z3
 rcases O2 h with⟨rfl,rfl⟩|h
 ·exact z4
 rcases O2 h with⟨rfl,rfl⟩|h
 ·exact z5
 rcases O2 h with⟨rfl,rfl⟩|h
 ·exact z6
 rcases O2 h with⟨rfl,rfl⟩|h
 ·exact z7
 rcases O2 h with⟨rfl,rfl⟩|h
 ·exact z8
 cases h
def lP(h:cH S.bT.stk=none)(n:Nat):b8 n S=S.bT.ends none:=by
 cases n<;>simp only[b8,h]
def tU{m:Stm}(h:cH S.bT.stk=some m):b8 0 S=S.bT.Ae:=by simp only[b8,h]
def B9{m:Stm}(h:cH S.bT.stk=some m)(z:(one S.bT m).1.sl.isN=true)(n:Nat):b8 (n+1) S=((b8 n (one S.bT m).1).1,(one S.bT m).2++(b8 n (one S.bT m).1).2):=by simp only[b8,h,z,if_true]
def tT{m:Stm}(h:cH S.bT.stk=some m)(z:(one S.bT m).1.sl.isN=false)(n:Nat):b8 (n+1) S=one S.bT m:=by simp only[b8,h,z,Η8,Δ2]
def C9(S:Pu)(m:Stm):(bE S m).2.length<=1:=by
 cases m<;>simp only[bE,Pu.ends,Κ,Α8,ϖ,Ζ,Nat.zero_add]
 ·split
  ·split<;>simp
  ·simp
 ·split<;>simp
 ·split<;>simp
def O9(S:Pu)(m:Stm):(one S m).2.length<=1:=by
 unfold one;split
 ·simp
 ·exact C9 S m
inductive Hap where
 | XS (m:Int) (w:Wo)|don (m t:Int) (w:Wo)|ltr (m:Int) (k:Str) (w:Wo)
variable{h:Hap}{fr lg rows:List (List Hap)}{hs row:List Hap}
def Hap.ini:Hap->List V
 | .XS m _=>[.str "begin",.int m]
 | .don m t _=>[.str "done",.int m,.int t]
 | .ltr m k _=>[.str "letter",.int m,.str k]
def Hap.w:Hap->Wo
 | .XS _ w | .don _ _ w | .ltr _ _ w=>w
variable{w:World}
def Hap.vs(h:Hap):List V:=h.ini++[wv h.w]
variable{vs:List V}
def Hap.m:Hap->Int
 | .XS m _ | .don m _ _ | .ltr m _ _=>m
variable{m:Stm}
def pV(H:Hp)(v:V)(h:Hap):Prop:=∃a,v=.ref a/\H a=some (.tup h.vs)
def Pu.over(S:Pu)(h:Hap):Bool:=match S.sl with
 | .new=>(match h with
  | .XS _ _=>false
  | _=>true)
 | .ended _=>true
 | .worn=>true
 | _=>(match h with
  | .XS _ _=>true
  | .don _ i _=>!decide (i∈S.pend)
  | .ltr _ _ _=>false)
def iX(l:List 0e0)(k:Str)(w:Wo):List 0e0:=match aZ l k with
 | some ws=>eX l k (ws++[w])
 | none=>l++[(k,[w])]
def Pu.at'(S:Pu)(m:Int):Pu:={S with nw:=later S.nw m}
def Pu.done(S:Pu)(i:Int)(w:Wo):Pu:={S with pend:=S.pend.filter λj=>decide (j≠i),ans:=S.ans++[(i,w)]}
def Pu.dW(S:Pu)(i:Int)(w:Wo):Pu×Cmds:=match S.sl with
 | .wait ts=>if i∈ts then (S.done i w).wake 1e2 else (S.done i w,[])
 | _=>(S.done i w,[])
def Pu.hJ(S:Pu)(k:Str)(w:Wo):Pu×Cmds:=match S.sl with
 | .XE k'=>if k'=k then S.wake w else ({S with lt:=iX S.lt k w},[])
 | _=>({S with lt:=iX S.lt k w},[])
def Pu.take(S:Pu)(h:Hap):Pu×Cmds:=if S.over h=true then (S,[]) else match h with
 | .XS m w=>b8 300 {S with nw:=later S.nw m,ar:=w,sl:=.XB}
 | .don m i w=>(S.at' m).dW i w
 | .ltr m k w=>(S.at' m).hJ k w
def eT(b:List Stm):Pu:=⟨[(0,b,0)],.new,none,0,[],0,[],[],[]⟩
inductive HL(C:Cl)(wt:Bool)(vs:List V)(H:Hp)(Q:VK)(E:XK):Prop
 | mk (R:Rn) (as:List Addr) (sl:V) (S:Pu) (w:Wo) (N:Nat) (_:vs=[.ref R.x,wv w]) (_:aS C H R as sl S) (_:XN wt S N) (_:N<=700000) (_:cL w) (_:((∃k,S.sl=.XE k)\/∃ts,S.sl=.wait ts)) (_:Told C R as as H Q (S.wake w)):HL C wt vs H Q E
inductive HJ(C:Cl)(wt:Bool)(vs:List V)(H:Hp)(Q:VK)(E:XK):Prop
 | mk (R:Rn) (as:List Addr) (sl:V) (S:Pu) (i:Int) (w:Wo) (N:Nat) (_:vs=[.ref R.x,.int i,wv w]) (_:aS C H R as sl S) (_:XN wt S N) (_:N<=600000) (_:cL w) (_:i∈S.pend) (_:S.sl.isN=false) (_:Told C R as as H Q (S.dW i w)):HJ C wt vs H Q E
def JS(C:Cl)(R:Rn)(as X7:List Addr)(H:Hp)(Q:VK)(z:Pu×Cmds):Prop:=∀(sl:V) (c:Addr) (us:List V) (H':Hp),aS C H' R X7 sl z.1->H c=none->c∉X7->H' c=some (.lst us)->kX H' us z.2->Fw R as X7 H H'->Q (.ref c) H'
inductive M0(C:Cl)(wt:Bool)(vs:List V)(H:Hp)(Q:VK)(E:XK):Prop
 | mk (R:Rn) (as:List Addr) (sl:V) (S:Pu) (k:Str) (w:Wo) (N:Nat) (_:vs=[.ref R.x,.str k,wv w]) (_:aS C H R as sl S) (_:XN wt S N) (_:N<=600000) (_:cL w) (_:((∃k,S.sl=.XE k)\/∃ts,S.sl=.wait ts)) (_:∀X7,JS C R as X7 H Q (S.hJ k w)):M0 C wt vs H Q E
inductive CF(C:Cl)(vs:List V)(H:Hp)(Q:VK)(E:XK):Prop
 | mk (x dx pg:Addr) (us:List V) (b:List Stm) (_:vs=[.ref x,.ref pg]) (_:H x=some 6e1) (_:H pg=some 0e2) (_:aW H us b) (_:∀(R:Rn) (sl:V) (H':Hp),R.x=x->aS C H' R [] sl (eT b)->Kp [x] H H'->(∀a∈R.cells,a=x\/H a=none)->Q .XB H'):CF C vs H Q E
theorem GO(i:Int)(ts:List Int):Ag (.int i) (ts.map V.int)=decide (i∈ts):=by
 rw[Γ5];simp[Ag,rG]
def IM(ts:List Int):(ts.map V.int).all eB=true:=by simp[eB]
theorem OY{b:Addr}{z x y:Str}(n:Nat)(ha:H a=some (.tup [.str z,.str x]))(hb:H b=some (.tup [.str z,.str y])):pX K H (n+1) a b (decide (x=y)):=by
 have:=pX.tup (K:=K) (H:=H) (n:=n) (e:=λj=>if j=0 then true else decide (x=y)) (cJ.of ha) (cJ.of hb) λj u v e1 e2=>by
  rcases j with _|_|j
  ·simp only[Ω,ϒ] at e1 e2;subst e1 e2;have:=vT.flat (K:=K) (H:=H) (n:=n) (x:=.str z) (y:=.str z) rfl rfl
   rwa [show rG (.str z) (.str z)=true by simp[rG]] at this
  ·simp only[List.getElem?_cons_succ,Ω,ϒ] at e1 e2;subst e1 e2;have:=vT.flat (K:=K) (H:=H) (n:=n) (x:=.str x) (y:=.str y) rfl rfl
   rwa [GD] at this
  ·simp at e1
 rw[show((List.range (min [V.str z,V.str x].length [V.str z,V.str y].length)).all (λj=>if j=0 then true else decide (x=y))&&[V.str z,V.str x].length==[V.str z,V.str y].length)=decide (x=y) by simp[List.range_succ]] at this;exact this
theorem XN.at'(F:XN wt S N){m:Int}(h:0<=m/\m<=1000000000000):XN wt (S.at' m) N :=
 {F with pl:=⟨F.pl.nm,F.pl.ar,F.pl.an⟩,nw:=(by have:=F.nw;show 0<=later S.nw m/\later S.nw m<=1000000000000;unfold later;split<;>omega)}
theorem yN{i:Int}{w:Wo}:∀(l:List 2e0) (x:Wo),fL 5e3 x=fL l x\/fL 5e3 x=w
 | _,none=>.inl (by simp[fL])
 | [],some j=>by
  by_cases h:i=j
  ·exact .inr 7e1
  ·exact .inl 7e1
 | p::r,some j=>by
  by_cases h:p.1=j
  ·exact .inl 7e1
  ·rcases yN (i:=i) (w:=w) r (some j) with z|z
   ·exact .inl 9e2
   ·exact .inr 9e2
def XN.done(F:XN wt S N){w:Wo}(hw:cL w):XN wt (S.done i w) 1e0 :=
 {F.more 7e0 with
  pd:=ϕ AQ 6e2
  an:=(by have:=F.an;show(S.ans++[(i,w)]).length<=N+1;simp;exact this)
  pl:=⟨F.pl.nm,F.pl.ar,λx=>(by
   show cL (fL (S.ans++[(i,w)]) x);rcases yN (i:=i) (w:=w) S.ans x with z|z
   ·rw[z];exact F.pl.an x
   ·rw[z];exact hw)⟩}
theorem yO{k:Str}{ws:List Wo}:∀(l:List 0e0) (j:Str) (vs:List Wo),aZ (l++[(k,ws)]) j=some vs->(j=k/\vs=ws)\/aZ l j=some vs
 | [],j,vs,h=>by
  rw[ϛ,aZ] at h;by_cases e:k=j
  ·rw[if_pos e] at h;cases h;exact .inl ⟨e.symm,rfl⟩
  ·rw[if_neg e] at h;cases h
 | p::r,j,vs,h=>by
  rw[Χ,aZ] at h;by_cases e:p.1=j
  ·rw[if_pos e] at h;exact .inr (by rw[aZ,if_pos e];exact h)
  ·rw[if_neg e] at h;rcases yO r j vs h with z|z
   ·exact .inl z
   ·exact .inr (by rw[aZ,if_neg e];exact z)
theorem XN.iX(F:XN wt S N){w:Wo}(hw:cL w):XN wt {S with lt:=iX S.lt k w} 1e0:=by
 have F1:=F.more 7e0;unfold Own.iX;cases e:aZ S.lt k with
 | some ws =>
  have hl:=F.lw k ws e;exact {F1 with
   lt:=(by have:=F.lt;show(eX S.lt k (ws++[w])).length<=N+1;rw[zR];omega)
   lw:=λj vs h=>by
    rcases t5 S.lt k _ j vs h with⟨_,rfl⟩|z
    ·exact⟨by have:=hl.1;simp;exact this,λu hu=>by
      rcases Υ.mp hu with hu|hu
      ·exact hl.2 u hu
      ·rw[show u=w by simpa using hu];exact hw⟩
    ·exact F1.lw j vs z}
 | none =>
  exact {F1 with
   lt:=(by have:=F.lt;show(S.lt++[(k,[w])]).length<=N+1;simp;exact this)
   lw:=λj vs h=>by
    rcases yO S.lt j vs h with⟨_,rfl⟩|z
    ·exact⟨by simp,λu hu=>by rw[show u=w by simpa using hu];exact hw⟩
    ·exact F1.lw j vs z}
theorem Cz{k:Str}{a b:List Wo}:∀{l:List 0e0},aZ l k=none->eX (l++[(k,a)]) k b=l++[(k,b)]
 | [],_=>by simp[eX]
 | p::r,h=>by
  rw[aZ] at h;by_cases e:p.1=k
  ·rw[if_pos e] at h;cases h
  ·rw[if_neg e] at h;rw[Χ,eX,if_neg e,Cz h];rfl
theorem XN.wake(F:XN wt S N)(h:cH S.stk=some m){w:Wo}(hw:cL w)(n:Str):XN wt {S with nm:=dC S.nm n w,stk:=fH S.stk,sl:=.XB} 1e0 :=
 {F.more 7e0 with
  nm:=(by have:=fM S.nm n w;have:=F.nm;show(dC S.nm n w).length<=N+1;omega)
  pl:=(Mf F.pl n hw)
  sk:=F.sk.pass h
  sl:=⟨λk e=>5e0,λk e=>5e0⟩}
def WX{x:Addr}{u:HO}(k:Kp [x] H G)(gx:G x=some u)(hp:G p=none):H p=none:=by
 cases z:H p with
 | none=>rfl
 | some o =>
  by_cases hz:p=x
  ·subst hz;rw[gx] at hp;cases hp
  ·rw[k.at1 z hz] at hp;cases hp
def O6{pg:Addr}{Q:Addr->Hp->Prop}(ep:H1 pg=some 0e2)(hs:aW H1 us b)(q:∀x wx lb ln H',Kp [] H1 H'->H1 x=none->H1 lb=none->H1 ln=none->hX C H' x wx lb ln [(0,b,0)]->Q x H') : ∀x dx,H1 x=none->H1 dx=none->dx≠x->zW C [.ref x,.ref pg] 8e0 5e1 E:=λx dx hx hdx ne=>by
 have K1:Kp [] H1 8e0:=(Kp.new hdx).trans 4e1;exact⟨x,dx,pg,us,b,rfl,aA,K1.at ep,hs.kp 0e4,λlb ln H' f1 f2 W K=>⟨rfl,q x dx lb ln H' 3e1 hx 7e3 6e3 W⟩⟩
def Vv{Q:Addr->Hp->Prop}(q:∀x tx dp da H',Kp [] H1 H'->H1 x=none->H1 dp=none->H1 da=none->iW C H' x tx dp da 0 [] []->Q x H') : ∀x dx,H1 x=none->H1 dx=none->dx≠x->zV C [.ref x] 8e0 5e1 E:=λx dx hx hdx ne=>by
 have K1:Kp [] H1 8e0:=(Kp.new hdx).trans 4e1;exact⟨x,dx,rfl,aA,λdp da H' f1 f2 T K=>⟨rfl,q x dx dp da H' 3e1 hx 7e3 6e3 T⟩⟩
def qX{C:Cl}{pg:Addr}{Q:Addr->Hp->Prop}(ep:H1 pg=some 0e2)(hs:aW H1 us b)(q:∀(R:Rn) (sl:V) H',aS C H' R [] sl (eT b)->Kp [] H1 H'->(∀a∈R.cells,H1 a=none)->Q R.x H') : ∀x dx,H1 x=none->H1 dx=none->dx≠x->CF C [.ref x,.ref pg] (Xz 2e2 x 6e1) 5e1 E:=λx dx hx hdx ne=>by
 have K1:Kp [] H1 (Xz 2e2 x 6e1):=(Kp.new hdx).trans 4e1;refine⟨x,dx,pg,us,b,rfl,aA,K1.at ep,hs.kp 0e4,λR sl H' e1 A K M=>⟨rfl,?_⟩⟩;subst e1;exact q R sl H' A 3e1 λa ha=>by
  rcases M a ha with rfl|z
  ·exact hx
  ·exact cU (cU z)
inductive BA(C:Addr)(vs:List V)(H:Hp)(Q:VK)(E:XK):Prop
 | mk (tk tx dp da l:Addr) (made:Nat) (pend:List Int) (ans:List 2e0) (ws:List Wo) (_:vs=[.ref tk,.ref l]) (_:iW C H tk tx dp da made pend ans) (_:H l=some (.lst 1e1)) (_:ws.length<=4) (_:ans.length<=1000000) (_:∀H',Kp [] H H'->Q (wv 9e3) H'):BA C vs H Q E
def LF(ans:List 2e0)(w:Wo):Bool:=ans.any λp=>decide (w=some p.1)
def bK(ans:List 2e0):List Wo->List Int
 | []=>[]
 | none::r=>bK ans r
 | some i::r=>if LF ans 1e2=true then i::bK ans r else bK ans r
def NK(ans:List 2e0)(w:Wo):(bY (hZ ans) (wk w)).isSome=LF ans w:=by
 induction ans with
 | nil=>simp[hZ,Eh,LF]
 | cons p r ih =>
  have e:hZ (p::r)=(Key.inl p.1,wv p.2)::hZ r:=rfl;rw[e];by_cases h:w=some p.1
  ·subst h;rw[show wk (some p.1)=Key.inl p.1 from rfl,cP rfl];simp[LF]
  ·rw[bZ (λz=>h (by cases w with
    | none=>cases z
    | some j=>cases z;rfl)),ih]
   simp[LF,h]
def LG(ans:List 2e0):LF ans none=false:=by simp[LF]
theorem tN(ans:List 2e0):∀(l r:List Wo),bK ans (l++r)=bK ans l++bK ans r
 | [],r=>rfl
 | none::l,r=>by simp only[Χ,bK,tN ans l r]
 | some i::l,r=>by
  simp only[Χ,bK,tN ans l r];split<;>simp
def EG{i:Nat}{w:Wo}(e:ws[i]?=some w):(bK ans 1e3).map V.int=if LF ans w=true then (bK ans 0e1).map V.int++[wv w] else (bK ans 0e1).map V.int:=by
 rw[Α6,e];simp only[Option.toList_some,tN,Ϙ];cases w with
 | none=>rw[LG];simp[bK]
 | some j =>
  simp only[bK];split<;>simp[wv]
theorem pF(ans:List 2e0):∀ws:List Wo,(bK ans ws).length<=ws.length
 | []=>Ζ _
 | none::r=>by have:=pF ans r;simp only[bK,Κ];omega
 | some i::r=>by
  have:=pF ans r;simp only[bK,Κ];split
  ·simp only[Κ];omega
  ·omega
theorem lU{ans:List 2e0}{i:Int}:∀{ws:List Wo},i∈bK ans ws↔LF ans 1e2=true/\some i∈ws
 | []=>by simp[bK]
 | none::r=>by simp[bK,lU (ws:=r)]
 | some j::r=>by
  have ih:=lU (ans:=ans) (i:=i) (ws:=r);simp only[bK];split
  ·next h =>
   simp only[Ε,ih,ϒ];constructor
   ·rintro(rfl|⟨a,b⟩)
    ·exact⟨h,.inl rfl⟩
    ·exact⟨a,.inr b⟩
   ·rintro⟨a,b|b⟩
    ·exact .inl b
    ·exact .inr ⟨a,b⟩
  ·next h =>
   rw[ih];simp only[Ε,ϒ];constructor
   ·rintro⟨a,b⟩;exact⟨a,.inr b⟩
   ·rintro⟨a,b|b⟩
    ·subst b;exact absurd a h
    ·exact⟨a,b⟩
theorem Dn(i:Int):∀ns:List Int,Ag (.int i) 3e3=decide (i∈ns)
 | []=>by simp[Ag]
 | n::r=>by
  have ih:=Dn i r;simp only[Ag,ϔ,List.any_cons] at ih ⊢;rw[ih];by_cases h:n=i
  ·subst h;simp[rG]
  ·have:rG (V.int n) (V.int i)=false:=by simp[rG,h]
   rw[this];simp[Ε6 h]
theorem xV{α:Type}{p q:α->Bool}:∀{l:List α},(∀x∈l,p x=q x)->l.find? p=l.find? q
 | [],_=>rfl
 | x::l,h=>by
  simp only[List.find?,h x 3e0,xV λy hy=>h y (Ξ _ hy)]
theorem xW(ans:List 2e0)(ws:List Wo):bW ans ws=((ans.map (·.1)).filter λi=>decide 9e0).head?:=by
 unfold bW;rw[List.head?_filter,List.find?_map]
 congr 1
 refine xV λp hp=>?_;have:LF ans (some p.1)=true:=by simp only[LF,Ι3];exact⟨p,hp,by simp⟩
 simp only[Function.comp,lU,this,true_and]
def Ml{ns:List Int}{us:List Int}(m:∀i,i∈us↔i∈ns)(h:us.length < 2){j:Int}(hi:i∈ns)(hj:j∈ns):i=j:=by
 have a:=(m i).mpr hi;have b:=(m j).mpr hj
 match us,h,a,b with
 | [],_,a,_=>cases a
 | [x],_,a,b =>
  rw[Τ.mp a,Τ.mp b]
theorem IK{us:List Int}(m:∀i,i∈us↔i∈bK ans ws)(h:us.length < 2):bW ans ws=(bK ans ws).head?:=by
 rw[xW];cases e:bK ans ws with
 | nil=>simp
 | cons i r =>
  have hi:i∈bK ans ws:=by rw[e];simp
  have he:∀j∈bK ans ws,j=i:=λj hj=>Ml m h hj hi;obtain⟨p,hp,ep⟩:=Ι3.mp (lU.mp hi).1;have ep:i=p.1:=by simpa using ep
  show _=some i;have hm:i∈((ans.map (·.1)).filter λj=>decide 9e1):=Γ3.mpr ⟨Ϝ.mpr ⟨p,hp,ep.symm⟩,by simp⟩;cases z:((ans.map (·.1)).filter λj=>decide 9e1) with
  | nil=>rw[z] at hm;cases hm
  | cons x xs =>
   have hx:x∈((ans.map (·.1)).filter λj=>decide 9e1):=by rw[z];simp
   have:=he x (by rw[e];simpa using(Γ3.mp hx).2);rw[this];rfl
theorem EL{us:List Int}(m:∀i,i∈us↔i∈bK ans ws)(h:¬ us.length < 2):∃i r,((ans.map (·.1)).filter λi=>decide 9e0)=i::r/\bW ans ws=some i:=by
 have hf:=xW ans ws;cases z:((ans.map (·.1)).filter λi=>decide 9e0) with
 | cons i r=>rw[z] at hf;exact⟨i,r,rfl,hf⟩
 | nil =>
  exfalso;cases us with
  | nil=>exact h 3e0
  | cons i r =>
   have hi:i∈bK ans ws:=(m i).mp 3e0;obtain⟨p,hp,ep⟩:=Ι3.mp (lU.mp hi).1;have ep:i=p.1:=by simpa using ep
   have hm:i∈((ans.map (·.1)).filter λi=>decide 9e0):=Γ3.mpr ⟨Ϝ.mpr ⟨p,hp,ep.symm⟩,by simpa using hi⟩;rw[z] at hm;cases hm
def fW.atW(h:fW H vs ss):∀{i:Nat} {x:V},vs[i]?=some x->∃y,ss[i]?=some y/\dF H x y:=by
 induction h with
 | nil=>intro i x e;simp at e
 | cons h _ ih =>
  intro i x e;cases i with
  | zero=>simp only[Ω,ϒ] at e;subst e;exact⟨_,rfl,h⟩
  | succ i=>exact ih (by simpa using e)
def fW.Vt(h:fW H vs ss):vs.length=ss.length:=by
 induction h with
 | nil=>rfl
 | cons _ _ ih=>simp[ih]
def eK(pend:List Int):List Wo->List Int
 | []=>[]
 | none::r=>eK pend r
 | some i::r=>if i∈pend then i::eK pend r else eK pend r
theorem uO(pend:List Int):∀(l r:List Wo),eK pend (l++r)=eK pend l++eK pend r
 | [],r=>rfl
 | none::l,r=>by simp only[Χ,eK,uO pend l r]
 | some i::l,r=>by
  simp only[Χ,eK,uO pend l r];split<;>simp
theorem Ff{pend:List Int}{i:Nat}{w:Wo}(e:ws[i]?=some w):(eK pend 1e3).map V.int=if decide (∃j∈pend,w=some j)=true then (eK pend 0e1).map V.int++[wv w] else (eK pend 0e1).map V.int:=by
 rw[Α6,e];simp only[Option.toList_some,uO,Ϙ];cases w with
 | none=>simp[eK]
 | some j =>
  by_cases h:j∈pend
  ·simp[eK,h,wv]
  ·simp[eK,h]
theorem pN(pend:List Int):∀ws:List Wo,(eK pend ws).length<=ws.length
 | []=>Ζ _
 | none::r=>by have:=pN pend r;simp only[eK,Κ];omega
 | some i::r=>by
  have:=pN pend r;simp only[eK,Κ];split
  ·simp only[Κ];omega
  ·omega
theorem sN{i j:Int}:∀{l:List Int},j∈Aq i l↔j=i\/j∈l
 | []=>by simp[Aq]
 | k::r=>by
  have ih:=sN (i:=i) (j:=j) (l:=r);simp only[Aq];split
  ·simp
  ·split
   ·next h =>
    subst h;simp only[Ε];constructor
    ·exact .inr
    ·rintro(z|z)
     ·exact .inl z
     ·exact z
   ·simp only[Ε,ih];constructor
    ·rintro(z|z|z)
     ·exact .inr (.inl z)
     ·exact .inl z
     ·exact .inr (.inr z)
    ·rintro(z|z|z)
     ·exact .inr (.inl z)
     ·exact .inl z
     ·exact .inr (.inr z)
theorem yG{i:Int}:∀{l:List Int},l.Pairwise (· < ·)->(Aq i l).Pairwise (· < ·)
 | [],_=>by simp[Aq]
 | k::r,h=>by
  obtain⟨h1,h2⟩:=Ε2.mp h;simp only[Aq];split
  ·next c=>exact Ε2.mpr ⟨λx hx=>by
    rcases Ε.mp hx with rfl|hx
    ·exact c
    ·have:=h1 x hx;omega,h⟩
  ·split
   ·exact h
   ·exact Ε2.mpr ⟨λx hx=>by
     rcases sN.mp hx with rfl|hx
     ·omega
     ·exact h1 x hx,yG h2⟩
theorem j7(pend:List Int):∀ws:List Wo,(cR pend ws).Pairwise (· < ·)
 | []=>.nil
 | none::r=>j7 pend r
 | some i::r=>by
  simp only[cR];split
  ·exact yG (j7 pend r)
  ·exact j7 pend r
theorem qV{pend:List Int}{j:Int}:∀{ws:List Wo},j∈cR pend ws↔j∈eK pend ws
 | []=>by simp[cR,eK]
 | none::r=>by simp only[cR,eK];exact qV
 | some i::r=>by
  have ih:=qV (pend:=pend) (j:=j) (ws:=r);simp only[cR,eK];split
  ·rw[sN,ih,Ε]
  ·exact ih
inductive eQ(H:Hp):List V->List 4e0->Prop
 | nil:eQ H [] []
 | cons {a:Addr} {x y:V} {us:List V} {ps:List 4e0}:H a=some 8e1->eQ H us ps->eQ H 8e3 ((x,y)::ps)
def eQ.kt(h:eQ H us ps)(k:aF H H'):eQ H' us ps:=by
 induction h with
 | nil=>exact .nil
 | cons a _ ih=>exact .cons (k _ _ a) ih
def eQ.snoc{H:Hp}{us:List V}{ps:List 4e0}{a:Addr}{x y:V}(h:eQ H us ps)(e:H a=some 8e1):eQ H 2e3 (ps++[(x,y)]):=by
 induction h with
 | nil=>exact .cons e .nil
 | cons b _ ih=>exact .cons b ih
def eQ.len(h:eQ H us ps):us.length=ps.length:=by
 induction h with
 | nil=>rfl
 | cons _ _ ih=>simp[ih]
theorem eQ.of{H:Hp}:∀{as:List Addr} {ps:List 4e0},as.length=ps.length->(∀(j:Nat) (a:Addr) (x y:V),as[j]?=some a->ps[j]?=some (x,y)->H a=some 8e1)->eQ H (as.map V.ref) ps
 | [],[],_,_=>.nil
 | [],_::_,h,_=>by simp at h
 | _::_,[],h,_=>by simp at h
 | a::as,(x,y)::ps,h,g=>.cons (g 0 a x y rfl rfl) (eQ.of (by simpa using h) λj b x y e1 e2=>g (j+1) b x y (by simpa using e1) (by simpa using e2))
inductive jU(H:Hp):List V->List 0e0->Prop
 | nil:jU H [] []
 | cons {a b:Addr} {k:Str} {ws:List Wo} {us:List V} {ps:List 0e0}:H a=some 8e2->H b=some (.tup 1e1)->jU H us ps->jU H 8e3 ((k,ws)::ps)
def jU.kt{ps:List 0e0}(h:jU H us ps)(k:aF H H'):jU H' us ps:=by
 induction h with
 | nil=>exact .nil
 | cons a b _ ih=>exact .cons (k _ _ a) (k _ _ b) ih
def jU.snoc{H:Hp}{us:List V}{ps:List 0e0}{a b:Addr}{k:Str}{ws:List Wo}(h:jU H us ps)(e:H a=some 8e2)(f:H b=some (.tup 1e1)):jU H 2e3 (ps++[(k,ws)]):=by
 induction h with
 | nil=>exact .cons e f .nil
 | cons c d _ ih=>exact .cons c d ih
def jU.len{ps:List 0e0}(h:jU H us ps):us.length=ps.length:=by
 induction h with
 | nil=>rfl
 | cons _ _ _ ih=>simp[ih]
def gH(nm:List 6e0):List Str->List 4e0
 | []=>[]
 | n::r=>if bV nm n=none then gH nm r else (.str n,wv (bV nm n))::gH nm r
theorem Bd(nm:List 6e0):∀l r:List Str,gH nm (l++r)=gH nm l++gH nm r
 | [],_=>rfl
 | n::l,r=>by
  simp only[Χ,gH,Bd nm l r];split<;>rfl
def gZ(lt:List 0e0):List Str->List 0e0
 | []=>[]
 | k::r=>if (aZ lt k).getD []=[] then gZ lt r else (k,(aZ lt k).getD [])::gZ lt r
theorem Bb(lt:List 0e0):∀l r:List Str,gZ lt (l++r)=gZ lt l++gZ lt r
 | [],_=>rfl
 | n::l,r=>by
  simp only[Χ,gZ,Bb lt l r];split<;>rfl
theorem uC(nm:List 6e0):∀l:List Str,(gH nm l).length<=l.length
 | []=>Ζ _
 | n::l=>by
  have:=uC nm l;simp only[gH];split<;>simp only[Κ]<;>omega
theorem uA(lt:List 0e0):∀l:List Str,(gZ lt l).length<=l.length
 | []=>Ζ _
 | n::l=>by
  have:=uA lt l;simp only[gZ];split<;>simp only[Κ]<;>omega
def Pu.nmS(S:Pu):List 4e0:=gH S.nm (srt (S.nm.map (·.1)))
def Pu.ltS(S:Pu):List 0e0:=gZ S.lt (srt (S.lt.map (·.1)))
def Pu.anS(S:Pu):List 4e0:=S.ans.map λp=>(.int p.1,wv p.2)
def Slp.dQ:Slp->Bool
 | .wait _=>true
 | .XE _=>true
 | _=>false
theorem HM:∀nm:List 6e0,jS (kJ nm)=some (nm.map (·.1))
 | []=>rfl
 | p::r=>by
  have ih:=HM r;show(jS (kJ r)).map (p.1::·)=_;rw[ih];rfl
def PR(h:kN H kvs as lt):jS kvs=some (lt.map (·.1)):=by
 induction h with
 | nil=>rfl
 | @cons a k ws kvs as lt _ _ ih =>
  show(jS kvs).map (k::·)=_;rw[ih];rfl
theorem L3:∀{nm:List 6e0} {n:Str},n∈nm.map (·.1)->bY (kJ nm) (.inr n)=some (wv (bV nm n))
 | [],n,h=>by simp at h
 | p::r,n,h=>by
  show bY ((Key.inr p.1,wv p.2)::kJ r) (.inr n)=_;by_cases e:p.1=n
  ·rw[cP (by rw[e]),bV,if_pos e]
  ·rw[bZ (λz=>e (Key.inr.inj z)),bV,if_neg e];refine L3 ?_;rcases Ε.mp h with h|h
   ·exact absurd h.symm e
   ·exact h
def kN.inS(h:kN H kvs as lt)(hk:k∈lt.map (·.1)):∃a ws,bY kvs (.inr k)=some (.ref a)/\aZ lt k=some ws/\H a=some (.lst 1e1):=by
 rcases h.look k with⟨_,e⟩|⟨a,ws,x,y,_,u⟩
 ·exfalso;clear h
  induction lt with
  | nil=>simp at hk
  | cons p r ih =>
   simp only[aZ] at e;split at e
   ·cases e
   ·next hp =>
    rcases Ε.mp hk with z|z
    ·exact hp z.symm
    ·exact ih z e
 ·exact⟨a,ws,x,y,u⟩
def iQ.word(h:iQ H v s)(hn:s.isN=false):∃(p:Addr) (s0:Str) (r0:List V),v=.ref p/\H p=some (.tup (.str s0::r0))/\Ag (.str s0) [.str "wait",.str "hear"]=s.dQ:=by
 cases s with
 | XB=>cases hn
 | new=>obtain⟨p,rfl,e⟩:=h;exact⟨p,_,_,rfl,e,by simp[Ag,rG,gD,Slp.dQ]⟩
 | wait ts=>obtain⟨p,p2,rfl,e,_⟩:=h;exact⟨p,_,_,rfl,e,by simp[Ag,rG,gD,Slp.dQ]⟩
 | XE k=>obtain⟨p,rfl,e⟩:=h;exact⟨p,_,_,rfl,e,by simp[Ag,rG,gD,Slp.dQ]⟩
 | ended w=>obtain⟨p,rfl,e⟩:=h;exact⟨p,_,_,rfl,e,by simp[Ag,rG,gD,Slp.dQ]⟩
 | worn=>obtain⟨p,rfl,e⟩:=h;exact⟨p,_,_,rfl,e,by simp[Ag,rG,gD,Slp.dQ]⟩
def BR{c:TT}{t u:TS}{D:Ends}{σ:St}(h:∀R:St->Hp->Prop,(∀σ' H',t D σ' H'->R σ' H')->JK c (λ_=>R) u D σ H):JK c t u D σ H:=h (t D) λ_ _ z=>z
inductive HG(C:Addr)(vs:List V)(H:Hp)(Q:VK)(E:XK):Prop
 | mk (wk wx lb ln:Addr) (st:Stk) (_:vs=[.ref wk]) (_:hX C H wk wx lb ln st) (_:∀p,H p=none->Q (.ref p) (Xz H p (.tup ((bP st).map V.int)))):HG C vs H Q E
def W8{w:Wo}{k:Int->Prop}{u:Tg k}:W6 (wv w) k u=k (num w):=by cases w<;>rfl
inductive MP(K:q0B)(vs:List V)(H:Hp)(Q:VK)(E:XK):Prop
 | mk (a:Addr) (ns:List Int) (k:Int) (_:vs=[.ref a,.int k]) (_:c5 K H a 3e3) (_:0<=k) (_:∀z:Int,Q (.int z) H):MP K vs H Q E
structure dX(H:Hp)(r:Addr):Prop where
 ex:∃c f:Int,H r=some (.lst [.int c,.int f])/\(0<=f/\f < 2147483587)
theorem dX.kp{S:List Addr}{r:Addr}(R:dX H r)(h:Kp S H H')(n:r∉S:=by first|exact Θ|simp_all):dX H' r:=by
 obtain⟨c,f,e,x⟩:=R;exact⟨c,f,h _ _ e n,x⟩
def dX.new{r:Addr}(R:dX H r)(h:H p=none):dX 2e1 r:=R.kp (S:=[]) (Kp.new h)
def dX.none{r:Addr}(R:dX H r)(h:H p=Option.none):p≠r:=by
 obtain⟨c,f,e,_⟩:=R;exact(aD e h).symm
def QI:Sp:=λvs H Q _=>∃c:Int,vs=[.int c]/\∀(r:Addr) (H':Hp),H r=none->Kp [] H H'->dX H' r->Q (.ref r) H'
def VB{c:Int}:QI [.int c] H Q E = ∀(r:Addr) (H':Hp),H r=none->Kp [] H H'->dX H' r->Q (.ref r) H':=propext ⟨fun⟨_,e,h⟩=>by cases e;exact h,λh=>⟨_,rfl,h⟩⟩
def QH:Sp:=λvs H Q _=>∃(r:Addr) (m:Int),vs=[.ref r,.int m]/\0 < m/\m<=10 ^ 45/\dX H r /\
 ∀(g:Int) (H':Hp),0<=g->g < m->dX H' r->Kp [r] H H'->Q (.int g) H'
def Pt{r:Addr}{m:Int}:QH [.ref r,.int m] H Q E=(0 < m/\m<=10 ^ 45/\dX H r/\∀(g:Int) (H':Hp),0<=g->g < m->dX H' r->Kp [r] H H'->Q (.int g) H') :=
 propext ⟨fun⟨_,_,e,h⟩=>by cases e;exact h,λh=>⟨_,_,rfl,h⟩⟩
end
mutual
noncomputable def Stm.k9(L:List Str):Stm->Prop
 | .set x _=>x∈L
 | .order x _ _=>x∈L
 | .child x _ _=>x∈L
 | .XM x _=>x∈L
 | .wait x ss=>x∈L/\ss.length<=4
 | .XE x _=>x∈L
 | .Yh _ b=>b.length<=8/\mT L b
 | .iff _ b o=>(b.length<=8/\o.length<=8)/\mT L b/\mT L o
 | _=>True
noncomputable def mT(L:List Str):List Stm->Prop
 | []=>True
 | m::ms=>m.k9 L/\mT L ms
end
mutual
example:=[(by omega),(λ_ z=>by cases z),N+302,(by cases e),vs++[v],b++[x],F2.wake e hi _,F1.wake e hw _,(λ_=>true)]
structure Wk(L:List Str)(S:Pu):Prop where
 nd:(S.nm.map (·.1)).Nodup
 sub:∀n∈S.nm.map (·.1),n∈L
 stk:∀x∈S.stk,mT L x.2.1
structure Wi(K:List Str)(S:Pu):Prop where
 nd:(S.lt.map (·.1)).Nodup
 sub:∀n∈S.lt.map (·.1),n∈K
def NM4:List Str:=["a","b","c","d"]
def KY3:List Str:=["key","yes","m"]
def dX.tk{r:Addr}(R:dX H r)(k:Kp [r] H H'):aF H H':=.of k λa ha=>by
 obtain⟨c,f,e,_⟩:=R;have:a=r:=by simpa using ha
 exact⟨_,this▸e,λ_ h=>by cases h⟩
def made1J{r:Addr}(x:Kp [r] (Xz H p o) H')(R:dX H r)(h:H p=Option.none):H' p=some o:=x.at1 aA (R.none h)
def Vm{a b:Prop}[Decidable a][Decidable b]{P R:Prop}:(if a then (if b then P else R) else R)=if a/\b then P else R:=by
 by_cases ha:a<;>by_cases hb:b<;>simp[ha,hb]
inductive CD(d:Nat)(vs:List V)(H:Hp)(Q:VK)(E:XK):Prop
 | mk (r:Addr) (dp:Int) (_:vs=[.ref r,.int dp]) (_:0<=dp) (_:dp < d) (_:dX H r) (_:∀(v:V) (s:Say) (H':Hp),dF H' v s->s.ok->(s.depth:Int)<=dp+1->dX H' r->Kp [r] H H'->Q v H'):CD d vs H Q E
def fW.snoc{H:Hp}{vs:List V}{ss:List Say}{v:V}{s:Say}(h:fW H vs ss)(e:dF H v s):fW H 4e0 (ss++[s]):=by
 induction h with
 | nil=>exact .cons e .nil
 | cons a _ ih=>exact .cons a ih
theorem Df:∀(b:List Stm) (x:Stm),Ao 5e0=max (Ao b) x.dp
 | [],x=>by simp[Ao]
 | y::b,x=>by
  simp only[Χ,Ao,Df b x];omega
def Ly(h:Ap true b)(g:x.gd true):Ap true 5e0:=by
 induction b with
 | nil=>simp only[ϛ,Ap];exact⟨g,trivial⟩
 | cons y b ih=>simp only[Χ,Ap] at h ⊢;exact⟨h.1,ih h.2⟩
def L4{L:List Str}(h:mT L b)(g:x.k9 L):mT L 5e0:=by
 induction b with
 | nil=>simp only[ϛ,mT];exact⟨g,trivial⟩
 | cons y b ih=>simp only[Χ,mT] at h ⊢;exact⟨h.1,ih h.2⟩
def aW.snoc{H:Hp}{vs:List V}{ms:List Stm}{v:V}{m:Stm}(h:aW H vs ms)(e:cI H v m):aW H 4e0 (ms++[m]):=by
 induction ms generalizing vs with
 | nil=>cases h;exact .cons e .nil
 | cons m ms ih =>
  cases h with
  | cons a b=>exact .cons a (ih b)
theorem look2{a b z:Str}{x y c:Addr}(n:(a==b)=false)(h:List.lookup z [(a,x),(b,y)]=some c):List.lookup z [(b,y),(a,x)]=some c:=by
 simp only[List.lookup] at h ⊢;by_cases h1:(z==a)=true
 ·by_cases h2:(z==b)=true
  ·rw[<- eq_of_beq h1,<- eq_of_beq h2] at n;simp at n
  ·simp only[h1,Bool.not_eq_true] at h h2 ⊢;simp only[h2];exact h
 ·simp only[Bool.not_eq_true] at h1;simp only[h1] at h ⊢;cases h2:z==b<;>simp_all
abbrev w4:List V:=[.str "arg",.str "now",.str "answer",.str "not"]
theorem abcd1{c:Nat}(h:c∈("abcd":Str).cps.toList):∃z:Str,(⟨#[c]⟩:Str)=z/\z∈NM4:=⟨_,rfl,(show ∀c∈("abcd":Str).cps.toList,(⟨#[c]⟩:Str)∈NM4 by decide +kernel) c h⟩
theorem FV:("abcd":Str).length=4:=by decide +kernel
inductive CG(d:Nat)(vs:List V)(H:Hp)(Q:VK)(E:XK):Prop
 | mk (r:Addr) (dp:Int) (_:vs=[.ref r,.int dp]) (_:0<=dp) (_:dp<=d) (_:dX H r) (_:∀(v:V) (x:Stm) (H':Hp),cI H' v x->x.gd true->x.k9 NM4->(x.dp:Int)<=dp->dX H' r->Kp [r] H H'->Q v H'):CG d vs H Q E
inductive zT(d:Nat)(vs:List V)(H:Hp)(Q:VK)(E:XK):Prop
 | mk (r:Addr) (dp:Int) (_:vs=[.ref r,.int dp]) (_:0<=dp) (_:dp < d) (_:dX H r) (_:∀(p:Addr) (us:List V) (b:List Stm) (H':Hp),H' p=some (.tup us)->aW H' us b->Ap true b->mT NM4 b->(Ao b:Int)<=dp->b.length<=3->dX H' r->Kp [r] H H'->Q (.ref p) H'):zT d vs H Q E
def XN.slp(F:XN wt S N)(x:Slp)(h1:∀k,x≠.XE k)(h2:∀ts,x≠.wait ts):XN wt {S with sl:=x,pend:=[]} N :=
 ⟨F.nm,F.md,ϖ _,F.an,F.lt,F.lw,F.pl,F.nw,F.sk,λk e=>absurd e (h1 k),λts e=>absurd e (h2 ts)⟩
theorem lL{wt:Bool}:∀(n:Nat) {S:Pu} {N:Nat},XN wt S N->S.sl=.XB->N+n<=900000->XN wt (b8 n S).1 (N+n)
 | 0,S,N,F,h,_=>by
  cases e:cH S.bT.stk with
  | none=>rw[lP e];exact(F.bT h).slp _ 1e0 1e0
  | some m=>rw[tU e];exact(F.bT h).slp _ 1e0 1e0
 | n+1,S,N,F,h,hN=>by
  cases e:cH S.bT.stk with
  | none=>rw[lP e];exact((F.bT h).slp _ 1e0 1e0).more 0e0
  | some m =>
   have F1:=(F.bT h).one e h 0e0;cases z:(one S.bT m).1.sl.isN with
   | true =>
    rw[B9 e z];exact(lL n F1 (Cc z) 0e0).more 0e0
   | false=>rw[tT e z];exact F1.more 0e0
theorem XN.PX(F:XN wt S N){m:Int}{w:Wo}(hm:0<=m/\m<=1000000000000)(hw:cL w)(hi:cL (some i))(hN:N<=800000):XN wt (S.take (.don m i w)).1 2e0:=by
 have F1:=F.at' hm;have F2:=F1.done (i:=i) hw;unfold Pu.take;split
 ·exact F.more 0e0
 show XN wt ((S.at' m).dW i w).1 2e0;unfold Pu.dW;split
 ·split
  ·unfold Pu.wake;split
   ·next e=>exact(lL 300 6e0 rfl 0e0).more 0e0
   ·next e=>exact(lL 300 6e0 rfl 0e0).more 0e0
   ·exact F2.more 0e0
  ·exact F2.more 0e0
 ·exact F2.more 0e0
theorem XN.PV(F:XN wt S N)(h:Hap)(hm:0<=h.m/\h.m<=1000000000000)(hw:cL h.w)(hi:∀i∈S.pend,cL (some i))(hN:N<=800000):XN wt (S.take h).1 2e0:=by
 cases h with
 | XS m w =>
  unfold Pu.take;split
  ·exact F.more 0e0
  have F1:=F.at' hm;have F2:XN wt {S with nw:=later S.nw m,ar:=w,sl:=.XB} N:=⟨F1.nm,F1.md,F1.pd,F1.an,F1.lt,F1.lw,⟨F1.pl.nm,hw,F1.pl.an⟩,F1.nw,F1.sk,λk e=>3e0,λk e=>3e0⟩;exact(lL 300 F2 rfl 0e0).more 0e0
 | don m i w =>
  by_cases hp:i∈S.pend
  ·exact F.PX hm hw (hi i hp) hN
  ·have F1:=F.at' hm;unfold Pu.take;split
   ·exact F.more 0e0
   ·next ho =>
    have F2:=F1.done (i:=i) hw;show XN wt ((S.at' m).dW i w).1 2e0;exfalso;refine ho ?_;unfold Pu.over;cases S.sl<;>simp[hp]
 | ltr m k w =>
  have F1:=F.at' hm;unfold Pu.take;split
  ·exact F.more 0e0
  show XN wt ((S.at' m).hJ k w).1 2e0;unfold Pu.hJ;split
  ·split
   ·unfold Pu.wake;split
    ·next e=>exact(lL 300 7e0 rfl 0e0).more 0e0
    ·next e=>exact(lL 300 7e0 rfl 0e0).more 0e0
    ·exact F1.more 0e0
   ·exact(F1.iX hw).more 0e0
  ·exact(F1.iX hw).more 0e0
inductive cD(H:Hp):List V->List Hap->Prop
 | nil:cD H [] []
 | cons {v:V} {vs:List V} {h:Hap} {hs:List Hap}:pV H v h->cD H vs hs->cD H (v::vs) (h::hs)
def iY(x:pV H v h)(k:aF H H'):pV H' v h:=by
 obtain⟨a,e,f⟩:=x;exact⟨a,e,k _ _ f⟩
def cD.kt(h:cD H vs hs)(k:aF H H'):cD H' vs hs:=by
 induction h with
 | nil=>exact .nil
 | cons a _ ih=>exact .cons (iY a k) ih
def cD.len(h:cD H vs hs):vs.length=hs.length:=by
 induction h with
 | nil=>rfl
 | cons _ _ ih=>simp[ih]
def takes:Pu->List Hap->Pu×List Cmds
 | S,[]=>(S,[])
 | S,h::r=>((takes (S.take h).1 r).1,(S.take h).2::(takes (S.take h).1 r).2)
theorem rB(h:Hap):∀(l:List Hap) (S:Pu),takes S (l++[h])=(((takes S l).1.take h).1,(takes S l).2++[((takes S l).1.take h).2])
 | [],S=>by simp[takes]
 | x::l,S=>by
  have:=rB h l (S.take x).1;simp only[Χ,takes,this]
def Hap.WW(h:Hap):Prop:=(0<=h.m/\h.m<=1000000000000)/\cL h.w
def cD.iR(h:cD H vs hs):∀{i:Nat} {v:V},vs[i]?=some v->∃x,hs[i]?=some x/\pV H v x:=by
 induction h with
 | nil=>intro i v e;simp at e
 | cons a _ ih =>
  intro i v e;cases i with
  | zero=>simp only[Ω,ϒ] at e;subst e;exact⟨_,rfl,a⟩
  | succ i=>exact ih (by simpa using e)
def IX(w:Wo):fL [] w=none:=by cases w<;>rfl
theorem B6(g:Ap wt b)(d:Ao b<=20):XN wt (eT b) 0 :=
 {nm:=Ζ _,md:=Ζ _,pd:=Ζ _,an:=Ζ _,lt:=Ζ _,lw:=λk ws h=>(by cases h)
  pl:=⟨λ_=>lR,lR,λw=>(by show cL (fL [] w);rw[IX];exact lR)⟩
  nw:=⟨Θ7 _,by show(0:Int)<=1000000000000;decide⟩
  sk:=⟨⟨ϖ _,by simp⟩,λx hx=>(by rw[show x=(0,b,0) by simpa[eT] using hx];exact g),⟨by simpa using d,trivial⟩⟩
  sl:=⟨λk e=>3e0,λk e=>3e0⟩}
def OR{b:Addr}{ys:List V}(ha:H a=some (.tup xs))(hb:H b=some (.tup ys))(hl:xs.length=ys.length)(h:∀(j:Nat) x y,xs[j]?=some x->ys[j]?=some y->vT K H n x y true):vT K H (n+1) (.ref a) (.ref b) true:=by
 by_cases ZY:a=b
 ·subst ZY;exact .same
 ·refine .refs ZY ?_;have:=pX.tup (K:=K) (H:=H) (n:=n) (e:=λ_=>true) (cJ.of ha) (cJ.of hb) h
  rwa [show((List.range (min xs.length ys.length)).all 8e0&&xs.length==ys.length)=true by simp[hl]] at this
def PK{b:Addr}{ys:List V}(ha:H a=some (.lst xs))(hb:H b=some (.lst ys))(hl:xs.length=ys.length)(h:∀(j:Nat) x y,xs[j]?=some x->ys[j]?=some y->vT K H n x y true):pX K H (n+1) a b true:=by
 have:=pX.list (K:=K) (H:=H) (n:=n) (e:=λ_=>true) (c5.of ha) (c5.of hb) hl h
 rwa [show(List.range xs.length).all 8e0=true by simp] at this
def OQ{b:Addr}{ys:List V}(ha:H a=some (.lst xs))(hb:H b=some (.lst ys))(hl:xs.length=ys.length)(h:∀(j:Nat) x y,xs[j]?=some x->ys[j]?=some y->vT K H n x y true):vT K H (n+1) (.ref a) (.ref b) true:=by
 by_cases ZY:a=b
 ·subst ZY;exact .same
 ·exact .refs ZY (PK ha hb hl h)
def Lp{x:V}(h:eB x=true)(e:rG x x=true):vT K H n x x true:=by
 have:=vT.flat (K:=K) (H:=H) (n:=n) h h
 rwa [e] at this
def uX(cs:Cmds):Prop:=∀c∈cs,∀v∈c,eB v=true/\rG v v=true
def cD.snoc{H:Hp}{vs:List V}{hs:List Hap}{v:V}{h:Hap}(x:cD H vs hs)(a:pV H v h):cD H 4e0 (hs++[h]):=by
 induction x with
 | nil=>exact .cons a .nil
 | cons b _ ih=>exact .cons b ih
def cD.app{gs:List Hap}(x:cD H vs hs)(y:cD H us gs):cD H (vs++us) (hs++gs):=by
 induction x with
 | nil=>exact y
 | cons b _ ih=>exact .cons b ih
def Mc(v:V):Prop:=eB v=true/\rG v v=true
def cY(x:Str):Mc (.str x):=⟨rfl,by simp[GD]⟩
def fR(i:Int):Mc (.int i):=⟨rfl,by simp[OS]⟩
def j5(w:Wo):Mc (wv w):=by
 cases w with
 | none=>exact⟨rfl,rfl⟩
 | some i=>exact fR i
structure Af(K:q0B)(H:Hp)(n:Nat)(xs ys:List V):Prop where
 len:xs.length=ys.length
 at':∀(j:Nat) x y,xs[j]?=some x->ys[j]?=some y->vT K H n x y true
end
section
mutual
example:=[]
variable{b:Addr}{x y:V}{ys:List V}
def Af.nil:Af K H n [] []:=⟨rfl,λj x y e=>by simp at e⟩
def Af.cons(h:vT K H n x y true)(t:Af K H n xs ys):Af K H n (x::xs) (y::ys):=⟨by simp[t.len],λj u v e1 e2=>by
 cases j with
 | zero =>
  simp only[Ω,ϒ] at e1 e2;subst e1 e2;exact h
 | succ j=>exact t.at' j u v (by simpa using e1) (by simpa using e2)⟩
def Mc.eq(h:Mc x):vT K H n x x true:=Lp h.1 h.2
def Af.refl(h:∀v∈xs,Mc v):Af K H n xs xs:=⟨rfl,λj u v e1 e2=>by
 rw[e1] at e2;cases e2;exact(h u (Φ e1)).eq⟩
def Af.tup(h:Af K H n xs ys)(ha:H a=some (.tup xs))(hb:H b=some (.tup ys)):vT K H (n+1) (.ref a) (.ref b) true:=OR ha hb h.len h.at'
def Af.lst(h:Af K H n xs ys)(ha:H a=some (.lst xs))(hb:H b=some (.lst ys)):vT K H (n+1) (.ref a) (.ref b) true:=OQ ha hb h.len h.at'
def Af.rcT(h:Af K H n xs ys)(ha:H a=some (.tup xs))(hb:H b=some (.tup ys)):pX K H (n+1) a b true:=by
 have:=pX.tup (K:=K) (H:=H) (n:=n) (e:=λ_=>true) (cJ.of ha) (cJ.of hb) h.at'
 rwa [show((List.range (min xs.length ys.length)).all (λ_=>true)&&xs.length==ys.length)=true by simp[h.len]] at this
end
end
mutual
example:=[(by simp only[Δ1];exact⟨cY _,j5 _,by simp⟩),(by simp only[Δ1];exact⟨cY _,fR _,cY _,j5 _,by simp⟩)]
def eO:uX []:=λ_ h=>by cases h
def IL{a b:Cmds}(h:uX a)(g:uX b):uX (a++b):=λc hc=>by
 rcases Υ.mp hc with hc|hc
 ·exact h c hc
 ·exact g c hc
def eY{c:List V}(h:∀v∈c,Mc v):uX [c]:=λx hx=>by
 rw[show x=c by simpa using hx];exact h
def Qy(m:Nat)(cs:Cmds):Prop:=uX cs/\cs.length<=m
def KN(S:Pu)(m:Stm):Qy 1 (bE S m).2:=by
 refine⟨?_,C9 S m⟩;cases m with
 | set x s=>exact eO
 | order x y s=>exact eY 1e0
 | child x y s=>exact eY 1e0
 | XM x s=>exact eY (by simp only[Δ1];exact⟨cY _,fR _,fR _,by simp⟩)
 | send s k r=>exact eY (by simp only[Δ1];exact⟨cY _,j5 _,cY _,j5 _,by simp⟩)
 | drop s =>
  simp only[Own.bE];split
  ·split
   ·exact eY (by simp only[Δ1];exact⟨cY _,fR _,by simp⟩)
   ·exact eO
  ·exact eO
 | XE x k =>
  simp only[Own.bE];split<;>exact eO
 | wait x ss =>
  simp only[Own.bE];split<;>exact eO
 | fin s=>exact eY 0e0
 | Yh s b=>exact eO
 | iff s b o=>exact eO
def Pa(S:Pu)(m:Stm):Qy 1 (one S m).2:=by
 unfold one;split
 ·exact⟨eO,by simp⟩
 ·exact KN S m
theorem sG:∀(n:Nat) (S:Pu),Qy (n+1) (b8 n S).2
 | 0,S=>by
  cases e:cH S.bT.stk with
  | none=>rw[lP e];exact⟨eY 0e0,by simp[Pu.ends]⟩
  | some m=>rw[tU e];exact⟨eY (by simp only[Δ1];exact⟨cY _,by simp⟩),by simp[Pu.Ae]⟩
 | n+1,S=>by
  cases e:cH S.bT.stk with
  | none=>rw[lP e];exact⟨eY 0e0,by simp[Pu.ends]⟩
  | some m =>
   have h1:=Pa S.bT m;cases z:(one S.bT m).1.sl.isN with
   | true =>
    rw[B9 e z];have h2:=sG n (one S.bT m).1;exact⟨IL h1.1 h2.1,by simp only[Ι];have:=h1.2;have:=h2.2;omega⟩
   | false=>rw[tT e z];exact⟨h1.1,by have:=h1.2;omega⟩
def Ej(S:Pu)(w:Wo):Qy 301 (S.wake w).2:=by
 unfold Pu.wake;split
 ·exact sG 300 _
 ·exact sG 300 _
 ·exact⟨eO,by simp⟩
def fN(S:Pu)(x:Hap):Qy 301 (S.take x).2:=by
 have nl:Qy 301 []:=⟨eO,by simp⟩;unfold Pu.take;split
 ·exact nl
 cases x with
 | XS m w=>exact sG 300 _
 | don m i w =>
  show Qy 301 ((S.at' m).dW i w).2;unfold Pu.dW;split
  ·split
   ·exact Ej _ _
   ·exact nl
  ·exact nl
 | ltr m k w =>
  show Qy 301 ((S.at' m).hJ k w).2;unfold Pu.hJ;split
  ·split
   ·exact Ej _ _
   ·exact nl
  ·exact nl
def Hap.inK(h:Hap):Prop:=h.WW/\∀m k w,h=.ltr m k w->k∈KY3
structure Fine(S:Pu)(N:Nat):Prop where
 fit:XN true S N
 isN:S.sl.isN=false
 nm:Wk NM4 S
 lt:Wi KY3 S
def aS.QZ{C:Cl}{R R':Rn}{X7:List Addr}{sl XT:V}{S':Pu}(A:aS C H R as sl S)(B:aS C H R' X7 XT S'):R'.wk∉R.cells/\R'.wk∉as:=by
 obtain⟨kvs,e,L⟩:=A.lt;obtain⟨vs,el,_⟩:=A.wk.bl;have w:=B.wk.ins;refine⟨λh=>?_,λh=>?_⟩
 ·simp only[Rn.cells,Ε,Θ,ϝ] at h;rcases h with h|h|h|h|h|h|h|h<;>rw[h] at w
  ·rw[A.ins] at w;simp at w
  ·rw[el] at w;cases w
  ·rw[A.wk.nu] at w;cases w
  ·rw[A.nm] at w;cases w
  ·rw[A.tk.ins] at w;simp at w
  ·rw[A.tk.hp] at w;cases w
  ·rw[A.tk.ha] at w;cases w
  ·rw[e] at w;cases w
 ·obtain⟨xs,ex⟩:=L.ex _ h;rw[ex] at w;cases w
structure Two(C:Cl)(G:Hp)(R1 R2:Rn)(XY XZ:List Addr)(X6 X2:V)(S1 S2:Pu)(L:List Addr):Prop where
 a1:aS C G R1 XY X6 S1
 a2:aS C G R2 XZ X2 S2
 dis:∀a,a∈R1.cells\/a∈XY->a∉R2.cells/\a∉XZ
 sf:∀a∈L,(∃o,G a=some o)/\(a∉R1.cells/\a∉XY)/\a∉R2.cells/\a∉XZ
end
section
mutual
example:=[.inr z]
variable{C:Cl}{R1 R2:Rn}{XY XZ X7:List Addr}{X6 X2 XT:V}{S1 S2 S':Pu}{L:List Addr}
def Two.symm(h:Two C G R1 R2 XY XZ X6 X2 S1 S2 L):Two C G R2 R1 XZ XY X2 X6 S2 S1 L :=
 ⟨h.a2,h.a1,λa ha=>⟨λz=>by rcases ha with y|y;exact(h.dis a (.inl z)).1 y;exact(h.dis a (.inl z)).2 y,λz=>by rcases ha with y|y;exact(h.dis a 0e0).1 y;exact(h.dis a 0e0).2 y⟩,λa ha=>⟨(h.sf a ha).1,(h.sf a ha).2.2,(h.sf a ha).2.1⟩⟩
def Two.keep(h:Two C G R1 R2 XY XZ X6 X2 S1 S2 L)(F:Fw R1 XY X7 G G'):∀a∈L,∀o,G a=some o->G' a=some o:=λa ha o e=>F.kp a o e (h.sf a ha).2.1.1 (h.sf a ha).2.1.2
def Two.step(h:Two C G R1 R2 XY XZ X6 X2 S1 S2 L)(F:Fw R1 XY X7 G G')(A:aS C G' R1 X7 XT S'):Two C G' R1 R2 X7 XZ XT X2 S' S2 L:=by
 have d:=h.symm.dis;refine⟨A,h.a2.keep (λb o e hb=>?_) (h.a1.tkp F),λa ha=>?_,λa ha=>?_⟩
 ·rcases hb with rfl|hb
  ·exact F.kp _ o e (h.a1.QZ h.a2).1 (h.a1.QZ h.a2).2
  ·exact F.kp b o e (d b hb).1 (d b hb).2
 ·rcases ha with ha|ha
  ·exact h.dis a (.inl ha)
  ·rcases F.new a ha with z|z
   ·exact h.dis a 0e0
   ·exact h.a2.c9 z
 ·obtain⟨⟨o,e⟩,n1,n2⟩:=h.sf a ha;refine⟨⟨o,h.keep F a ha o e⟩,⟨n1.1,λz=>?_⟩,n2⟩;rcases F.new a z with y|y
  ·exact n1.2 y
  ·rw[e] at y;cases y
def Two.kp(h:Two C G R1 R2 XY XZ X6 X2 S1 S2 L)(k:Kp [] G G'):Two C G' R1 R2 XY XZ X6 X2 S1 S2 L:=⟨h.a1.kp k,h.a2.kp k,h.dis,λa ha=>by
 obtain⟨⟨o,e⟩,n⟩:=h.sf a ha;exact⟨⟨o,k.at e⟩,n⟩⟩
variable{t2 x2 cl1 cl2 cl hl hd st:Addr}{rs1 rs2 rs3:List Addr}{hv hv':List V}{css:List Cmds}
variable{G0:Hp}{i:Nat}
end
end
mutual
example:=[Str×Wo,(λz=>by cases z),S.worth s,.ref a,(by rw[e];rfl),Str×List Wo,List Hap,(by simp),Cv b S,.ref b,(λa b e=>by cases e;rfl),(by unfold Pu.over;rw[hS]),(S.at' m).done i w,(by rw[e.1];simp),(Ng _).filter _,(by rw[hm];simp),(by rw[g2];simp),bV nm n≠none,(by simp[c]),aft c row,aft b row,Kp.new hp]
def aW.VL(h:aW H vs ms):∀{i:Nat} {v:V},vs[i]?=some v->∃m,ms[i]?=some m/\cI H v m:=by
 induction ms generalizing vs with
 | nil=>cases h;intro i v e;simp at e
 | cons m ms ih =>
  cases h with
  | cons a b =>
   intro i v e;cases i with
   | zero=>simp only[Ω,ϒ] at e;subst e;exact⟨m,rfl,a⟩
   | succ i=>exact ih b (by simpa using e)
theorem aW.pick{H:Hp}:∀{vs:List V} {P:Stm->Prop},(∀v∈vs,∃m,cI H v m/\P m)->∃ms,aW H vs ms/\(∀m∈ms,P m)/\ms.length=vs.length
 | [],_,_=>⟨[],.nil,by simp,rfl⟩
 | v::vs,P,h=>by
  obtain⟨m,a,b⟩:=h v 7e0;obtain⟨ms,c,d,e⟩:=aW.pick (vs:=vs) λx hx=>h x (Ξ _ hx);exact⟨m::ms,.cons a c,λx hx=>by
   rcases Ε.mp hx with rfl|hx
   ·exact b
   ·exact d x hx,by simp[e]⟩
def aW.all{P:Stm->Prop}(h:aW H vs ms)(p:∀m∈ms,P m):∀v∈vs,∃m,cI H v m/\P m:=λv hv=>by
 obtain⟨i,e⟩:=List.mem_iff_getElem?.mp hv;obtain⟨m,a,b⟩:=h.VL e;exact⟨m,b,p m (Φ a)⟩
def Ks{a b:Option Int}(h:v∈fK xs a b):v∈xs:=List.mem_of_mem_drop (Θ3 h)
def tI{lo hi:Option Int}(ha:H a=some (.tup xs))(h:∀p H',H' p=some (.tup (fK xs lo hi))->Kp [] H H'->Q (.ref p) H'):Up 3e0 lo hi H Q:=by
 show sQ (H a) _;rw[ha];exact⟨λhw=>h a H (by rw[ha];unfold fK;rw[hw.1,hw.2,List.drop_zero,Nat.sub_zero,Β9]) Kp.refl,λ_ p hp=>h p _ aA 1e2⟩
theorem vJ{b:Addr}{ys:List V}(ha:H a=some (.tup xs))(hb:H b=some (.tup ys))(l:xs.length+ys.length<=1000)(h:∀p H',H' p=some (.tup (xs++ys))->Kp [] H H'->Q (.ref p) H'):Km 3e0 9e0 H Q:=by
 show Gi 3e0 9e0 H Q;rw[Li,ha,hb];refine⟨by rw[Ζ3];omega,?_⟩;split
 ·next z=>exact h b H (by rw[hb,z];rfl) Kp.refl
 ·split
  ·next z=>exact h a H (by rw[ha,z,Η0]) Kp.refl
  ·exact λp hp=>h p _ aA 1e2
def teq(c d:List V):Bool:=(List.range (min c.length d.length)).all (λj=>match c[j]?,d[j]? with|some x,some y=>rG x y|_,_=>true)&&c.length==d.length
def ceq(cs ds:Cmds):Bool:=if cs.length=ds.length then (List.range cs.length).all (λj=>match cs[j]?,ds[j]? with|some c,some d=>teq c d|_,_=>true) else false
def Nr{c:List V}(h:∀v∈c,Mc v):teq c c=true:=by
 unfold teq;rw[Β3,Δ5];refine⟨λj _=>?_,by simp⟩;cases e:c[j]? with
 | none=>rfl
 | some x=>exact(h x (Φ e)).2
def TK{b:Addr}{c d:List V}(ha:H a=some (.tup c))(hb:H b=some (.tup d))(fc:∀v∈c,Mc v)(fd:∀v∈d,Mc v):vT K H (n+1) 3e0 9e0 (teq c d):=by
 by_cases ZY:a=b
 ·subst ZY;rw[ha] at hb;cases hb;rw[Nr fc];exact .same
 ·refine .refs ZY (pX.tup (cJ.of ha) (cJ.of hb) λj x y e1 e2=>?_);rw[e1,e2];exact vT.flat (fc x (Φ e1)).1 (fd y (Φ e2)).1
theorem xG{b:Addr}{ds:Cmds}(ha:H a=some (.lst us))(hb:H b=some (.lst vs))(h:kX H us cs)(g:kX H vs ds)(fc:uX cs)(fd:uX ds):pX K H (n+2) a b (ceq cs ds):=by
 have l1:=h.len;have l2:=g.len;unfold ceq;split
 ·next hl =>
  rw[<- l1];refine pX.list (c5.of ha) (c5.of hb) (by omega) λj x y e1 e2=>?_;obtain⟨p,c,rfl,e3,hp⟩:=h.at e1;obtain⟨p',d,rfl,e4,hp'⟩:=g.at e2;rw[e3,e4];exact TK hp hp' (fc c (Φ e3)) (fd d (Φ e4))
 ·next hl=>exact pX.Yg (c5.of ha) (c5.of hb) (by omega)
structure Al(S T:Pu):Prop where
 stk:S.stk=T.stk
 sl:S.sl=T.sl
 ar:S.ar=T.ar
 nw:S.nw=T.nw
 made:S.made=T.made
 pend:S.pend=T.pend
 ans:S.ans=T.ans
 nm:∀x,bV S.nm x=bV T.nm x
 lt:∀k,(aZ S.lt k).getD []=(aZ T.lt k).getD []
def Al.refl:Al S S:=⟨rfl,rfl,rfl,rfl,rfl,rfl,rfl,λ_=>rfl,λ_=>rfl⟩
def Al.pl(h:Al S T):S.pl=T.pl:=by
 unfold Pu.pl;rw[h.ar,h.nw,h.ans,funext h.nm]
def Al.worth(h:Al S T)(s:Say):S.worth s=T.worth s:=by unfold Pu.worth;rw[h.pl]
def Al.vS(h:Al S T)(x:Str)(w:Wo):∀y,bV (dC S.nm x w) y=bV (dC T.nm x w) y:=λy=>by rw[t8,t8,h.nm y]
theorem sM:∀(l:List 5e0) (k:Str) (r:List Wo) (j:Str),(aZ (eX l k r) j).getD []=if j=k/\(aZ l k).isSome then r else (aZ l j).getD []
 | [],k,r,j=>by simp[eX,aZ]
 | p::l,k,r,j=>by
  by_cases e:p.1=k
  ·simp only[eX,if_pos e,aZ];by_cases c:p.1=j
   ·rw[if_pos c,if_pos ⟨c.symm.trans e,rfl⟩];rfl
   ·rw[if_neg c,if_neg c,if_neg (λz=>c (e.trans z.1.symm))]
  ·simp only[eX,if_neg e,aZ];by_cases c:p.1=j
   ·rw[if_pos c,if_pos c,if_neg (λz=>e (c.trans z.1))]
   ·rw[if_neg c,if_neg c];exact sM l k r j
theorem A8:∀(l:List 5e0) (k:Str) (r:List Wo) (j:Str),aZ l k=none->(aZ (l++[(k,r)]) j).getD []=if j=k then r else (aZ l j).getD []
 | [],k,r,j,_=>by
  by_cases c:j=k
  ·simp[aZ,c]
  ·simp[aZ,c,Ε6 c]
 | p::l,k,r,j,h=>by
  simp only[aZ] at h;by_cases e:p.1=k
  ·rw[if_pos e] at h;cases h
  ·rw[if_neg e] at h;simp only[Χ,aZ];by_cases c:p.1=j
   ·rw[if_pos c,if_pos c,if_neg (λz=>e (c.trans z))]
   ·rw[if_neg c,if_neg c];exact A8 l k r j h
def FW(l:List 5e0)(k:Str)(w:Wo)(j:Str):(aZ (iX l k w) j).getD []=if j=k then (aZ l k).getD []++[w] else (aZ l j).getD []:=by
 unfold iX;cases e:aZ l k with
 | none=>simp only;rw[A8 l k _ j e];rfl
 | some ws =>
  simp only;rw[sM];by_cases c:j=k
  ·rw[if_pos ⟨c,by rw[e];rfl⟩,if_pos c];rfl
  ·rw[if_neg (λz=>c z.1),if_neg c]
def Al2(p q:Pu×Cmds):Prop:=Al p.1 q.1/\p.2=q.2
def Al.j4(h:Al S T)(x:Str):Al (S.j4 x) (T.j4 x):=by
 refine {h with made:=?_,pend:=?_,nm:=?_}
 ·show S.made+1=T.made+1;rw[h.made]
 ·show S.pend++_=T.pend++_;rw[h.made,h.pend]
 ·intro y;show bV (dC S.nm x _) y=bV (dC T.nm x _) y;rw[h.made];exact h.vS x _ y
def Al.bE(h:Al S T)(m:Stm):Al2 (bE S m) (bE T m):=by
 cases m with
 | set x s=>exact⟨{h with nm:=by show ∀y,bV (dC S.nm x 2e0) y=bV (dC T.nm x (T.worth s)) y;rw[h.worth];exact h.vS x _},rfl⟩
 | order x y s=>exact⟨h.j4 x,by show[[_,_,_,wv 2e0]]=_;rw[h.worth,h.made];rfl⟩
 | child x y s=>exact⟨h.j4 x,by show[[_,_,_,wv 2e0]]=_;rw[h.worth,h.made];rfl⟩
 | XM x s=>exact⟨h.j4 x,by show[[_,_,V.int (Gu S.nw 2e0)]]=_;rw[h.worth,h.made,h.nw];rfl⟩
 | send s k r=>exact⟨h,by show[[_,wv 2e0,_,wv (S.worth r)]]=_;rw[h.worth,h.worth];rfl⟩
 | drop s =>
  simp only[Own.bE,h.worth s];split
  ·rw[h.pend];split
   ·exact⟨{h with pend:=rfl},rfl⟩
   ·exact⟨h,rfl⟩
  ·exact⟨h,rfl⟩
 | XE x k =>
  simp only[Own.bE,h.lt k];split
  ·next w r e =>
   refine⟨{h with nm:=h.vS x w,lt:=λj=>?_},rfl⟩;show(aZ (eX S.lt k r) j).getD []=(aZ (eX T.lt k r) j).getD [];rw[sM,sM];have e1:(aZ S.lt k).isSome:=by
    have:=(h.lt k).trans e;cases z:aZ S.lt k with
    | none=>rw[z] at this;cases this
    | some _=>rfl
   have e2:(aZ T.lt k).isSome:=by
    cases z:aZ T.lt k with
    | none=>rw[z] at e;cases e
    | some _=>rfl
   simp only[e1,e2,h.lt j]
  ·exact⟨{h with sl:=rfl},rfl⟩
 | wait x ss =>
  have e:ss.map S.worth=ss.map T.worth:=Κ9 λs _=>h.worth s;simp only[Own.bE,e,h.ans,h.pend];split
  ·exact⟨{h with sl:=rfl,pend:=rfl,ans:=rfl},rfl⟩
  ·exact⟨{h with nm:=h.vS x _,pend:=rfl,ans:=rfl},rfl⟩
 | fin s =>
  simp only[Own.bE,h.worth s];exact⟨{h with sl:=rfl,pend:=rfl},rfl⟩
 | Yh s b=>exact⟨h,rfl⟩
 | iff s b o=>exact⟨h,rfl⟩
def Al.pass(h:Al S T):Al S.pass T.pass:={h with stk:=by show fH S.stk=fH T.stk;rw[h.stk]}
def Al.one{S T:Pu}(h:Al S T)(m:Stm):Al2 (one S m) (one T m):=by
 unfold Own.one;split
 ·refine⟨?_,rfl⟩;cases m with
  | Yh s b =>
   simp only[lT,h.worth s];split
   ·exact h.pass
   ·exact {h with stk:=by show _::S.stk=_::T.stk;rw[h.stk]}
  | iff s b o =>
   simp only[lT,h.worth s];split
   ·exact {h with stk:=by show _::S.stk=_::T.stk;rw[h.stk]}
   ·exact {h with stk:=by show _::S.stk=_::T.stk;rw[h.stk]}
  | _=>exact h
 ·have d:=h.bE m;rw[d.1.sl];refine⟨?_,d.2⟩;dsimp only;split
  ·exact d.1.pass
  ·exact d.1
def Al.bT(h:Al S T):Al S.bT T.bT:={h with stk:=by show cZ S.stk=cZ T.stk;rw[h.stk]}
theorem Al.b8:∀(n:Nat) {S T:Pu},Al S T->Al2 (b8 n S) (b8 n T)
 | 0,S,T,h=>by
  have c:=h.bT;unfold Own.b8;rw[c.stk];split
  ·exact⟨{c with sl:=rfl,pend:=rfl},rfl⟩
  ·exact⟨{c with sl:=rfl,pend:=rfl},rfl⟩
 | n+1,S,T,h=>by
  have c:=h.bT;unfold Own.b8;rw[c.stk];split
  ·exact⟨{c with sl:=rfl,pend:=rfl},rfl⟩
  ·next m _ =>
   have d:=c.one m;rw[d.1.sl];split
   ·have g:=Al.b8 n d.1;exact⟨g.1,by show _++_=_++_;rw[d.2,g.2]⟩
   ·exact d
def Al.wake(h:Al S T)(w:Wo):Al2 (S.wake w) (T.wake w):=by
 unfold Pu.wake;rw[h.stk];split
 ·exact Al.b8 300 {h with nm:=h.vS _ w,stk:=rfl,sl:=rfl}
 ·exact Al.b8 300 {h with nm:=h.vS _ w,stk:=rfl,sl:=rfl}
 ·exact⟨h,rfl⟩
def Al.done(h:Al S T)(i:Int)(w:Wo):Al (S.done i w) (T.done i w):={h with pend:=by show S.pend.filter _=T.pend.filter _;rw[h.pend],ans:=by show S.ans++_=T.ans++_;rw[h.ans]}
def Al.dW(h:Al S T)(i:Int)(w:Wo):Al2 (S.dW i w) (T.dW i w):=by
 unfold Pu.dW;rw[h.sl];split
 ·split
  ·exact(h.done i w).wake _
  ·exact⟨h.done i w,rfl⟩
 ·exact⟨h.done i w,rfl⟩
def Al.T9(h:Al S T)(k:Str)(w:Wo):Al {S with lt:=iX S.lt k w} {T with lt:=iX T.lt k w}:=
 ⟨h.stk,h.sl,h.ar,h.nw,h.made,h.pend,h.ans,h.nm,λj=>by
  show(aZ (iX S.lt k w) j).getD []=(aZ (iX T.lt k w) j).getD [];rw[FW,FW,h.lt j,h.lt k]⟩
def Al.hJ(h:Al S T)(k:Str)(w:Wo):Al2 (S.hJ k w) (T.hJ k w):=by
 unfold Pu.hJ;rw[h.sl];split
 ·split
  ·exact h.wake w
  ·exact⟨{h.T9 k w with sl:=rfl},rfl⟩
 ·exact⟨{h.T9 k w with sl:=rfl},rfl⟩
def Al.over(h:Al S T)(x:Hap):S.over x=T.over x:=by
 unfold Pu.over;rw[h.sl,h.pend]
def Al.at'(h:Al S T)(m:Int):Al (S.at' m) (T.at' m):={h with nw:=by show later S.nw m=later T.nw m;rw[h.nw]}
def Al.take(h:Al S T)(x:Hap):Al2 (S.take x) (T.take x):=by
 unfold Pu.take;rw[h.over x];split
 ·exact⟨h,rfl⟩
 ·cases x with
  | XS m w=>exact Al.b8 300 {h with nw:=by show later S.nw m=later T.nw m;rw[h.nw],ar:=rfl,sl:=rfl}
  | don m i w=>exact(h.at' m).dW i w
  | ltr m k w=>exact(h.at' m).hJ k w
def wD:Wo->Dv
 | none=>.XB
 | some i=>.int i
theorem CK:∀{a b:Wo},wD a=wD b->a=b
 | none,none,_=>rfl
 | some _,some _,h=>by cases h;rfl
 | none,some _,h=>by cases h
 | some _,none,h=>by cases h
def Hw:Slp->Dv
 | .XB=>.XB
 | .new=>.tup [.str "new"]
 | .wait ts=>.tup [.str "wait",.tup (ts.map Dv.int)]
 | .XE k=>.tup [.str "hear",.str k]
 | .ended w=>.tup [.str "ended",wD w]
 | .worn=>.tup [.str "worn"]
def Jd(nm:List 0e0):List Str->List 0e0
 | []=>[]
 | n::r=>if bV nm n=none then Jd nm r else (n,bV nm n)::Jd nm r
def Pu.nmL(S:Pu):List 0e0:=Jd S.nm (srt (S.nm.map (·.1)))
def iJ(S:Pu):Dv:=if S.sl.dQ=true then .tup [Hw S.sl,.tup ((bP S.stk).map Dv.int),wD S.ar,.int S.nw,.tup (S.nmL.map λp=>.tup [.str p.1,wD p.2]),.int S.made,.tup (S.pend.map Dv.int),.tup (S.ans.map λp=>.tup [.int p.1,wD p.2]),.tup (S.ltS.map λp=>.tup [.str p.1,.tup (p.2.map wD)])] else Hw S.sl
theorem uD(nm:List 0e0):∀l:List Str,gH nm l=(Jd nm l).map λp=>(.str p.1,wv p.2)
 | []=>rfl
 | n::l=>by
  simp only[gH,Jd];split
  ·exact uD nm l
  ·simp[uD nm l]
theorem iF(nm:List 0e0):∀l:List Str,Jd nm l=(l.filter λn=>decide 7e1).map λn=>(n,bV nm n)
 | []=>rfl
 | n::l=>by
  simp only[Jd];by_cases c:bV nm n=none
  ·rw[if_pos c,List.filter_cons_of_neg 8e1,iF nm l]
  ·rw[if_neg c,List.filter_cons_of_pos 8e1,iF nm l];rfl
theorem pL:∀{nm:List 0e0} {x:Str},bV nm x≠none->x∈nm.map (·.1)
 | [],_,h=>absurd rfl h
 | p::r,x,h=>by
  by_cases e:p.1=x
  ·simp[e]
  ·rw[bV,if_neg e] at h;exact Ξ _ (pL h)
def Ng(l:List Str):(srt l).Pairwise IW:=by
 have:=List.pairwise_mergeSort (le:=JQ) (λa b c h g=>fQ.mpr (t4 (fQ.mp h) (fQ.mp g))) (λa b=>by
  rcases AZ a b with h|h
  ·simp[fQ.mpr h]
  ·simp[fQ.mpr h]) l
 exact this.imp λh=>fQ.mp h
theorem Be{a b:List 0e0}(na:(a.map (·.1)).Nodup)(nb:(b.map (·.1)).Nodup)(h:∀x,bV a x=bV b x):Jd a (srt (a.map (·.1)))=Jd b (srt (b.map (·.1))):=by
 rw[iF,iF];have e:(λn=>(n,bV a n))=λn=>(n,bV b n):=funext λn=>by rw[h]
 have e2:(λn=>decide (bV a n≠none))=λn=>decide (bV b n≠none):=funext λn=>by rw[h]
 rw[e,e2]
 congr 1
 have pa:(srt (a.map (·.1))).Perm (a.map (·.1)):=Η1 _ JQ;have pb:(srt (b.map (·.1))).Perm (b.map (·.1)):=Η1 _ JQ;refine Cu ((List.perm_ext_iff_of_nodup ((pa.nodup_iff.mpr na).filter _) ((pb.nodup_iff.mpr nb).filter _)).mpr λx=>?_) 4e1 4e1;simp only[Γ3,pa.mem_iff,pb.mem_iff,Ζ8];exact⟨λz=>⟨pL z.2,z.2⟩,λz=>⟨pL (by rw[h];exact z.2),z.2⟩⟩
theorem Ba(nm:List 0e0)(x:Str):∀l:List Str,bV (Jd nm l) x=if x∈l then bV nm x else none
 | []=>rfl
 | n::l=>by
  have ih:=Ba nm x l;simp only[Jd];by_cases c:bV nm n=none
  ·rw[if_pos c,ih];by_cases e:x=n
   ·subst e;rw[c,ite_self,ite_self]
   ·simp only[Ε,e,false_or]
  ·rw[if_neg c,bV];by_cases e:n=x
   ·subst e;rw[if_pos rfl,if_pos 7e0]
   ·rw[if_neg e,ih];simp only[Ε,Ε6 e,false_or]
def pM(S:Pu)(x:Str):bV S.nmL x=bV S.nm x:=by
 unfold Pu.nmL;rw[Ba];split
 ·rfl
 ·next h =>
  cases z:bV S.nm x with
  | none=>rfl
  | some w=>exact absurd ((Η1 _ JQ).mem_iff.mpr (pL (by rw[z];exact λe=>by cases e))) h
theorem oC{α β:Type}{f:α->β}(hf:∀a b,f a=f b->a=b):∀{l m:List α},l.map f=m.map f->l=m
 | [],[],_=>rfl
 | [],_::_,h=>by simp at h
 | _::_,[],h=>by simp at h
 | a::l,b::m,h=>by simp only[ϔ,Γ4] at h;rw[hf _ _ h.1,oC hf h.2]
theorem Hx:∀{a b:Slp},Hw a=Hw b->a=b
 | .XB,.XB,_ | .new,.new,_ | .worn,.worn,_=>rfl
 | .wait ts,.wait us,h=>by
  simp only[Hw,Dv.tup.injEq,Γ4,and_true,true_and] at h;rw[oC 0e1 h]
 | .XE _,.XE _,h=>by simp only[Hw,Dv.tup.injEq,Γ4,Dv.str.injEq,and_true,true_and] at h;rw[h]
 | .ended _,.ended _,h=>by simp only[Hw,Dv.tup.injEq,Γ4,and_true,true_and] at h;rw[CK h]
 | .XB,.new,h | .XB,.wait _,h | .XB,.XE _,h | .XB,.ended _,h | .XB,.worn,h=>by cases h
 | .new,.XB,h | .wait _,.XB,h | .XE _,.XB,h | .ended _,.XB,h | .worn,.XB,h=>by cases h
 | .new,.wait _,h | .new,.XE _,h | .new,.ended _,h | .wait _,.new,h | .XE _,.new,h | .ended _,.new,h | .worn,.wait _,h | .worn,.XE _,h | .worn,.ended _,h | .wait _,.worn,h | .XE _,.worn,h | .ended _,.worn,h=>by simp[Hw] at h
 | .new,.worn,h | .worn,.new,h | .wait _,.XE _,h | .wait _,.ended _,h | .XE _,.wait _,h | .XE _,.ended _,h | .ended _,.wait _,h | .ended _,.XE _,h=>by
  simp only[Hw,Dv.tup.injEq,Γ4,Dv.str.injEq,gD] at h;exact absurd h.1 (by decide)
structure X0(b:List Stm)(S:Pu):Prop where
 stk:∃n,S.stk=[(0,b,n)]
 nd:(S.nm.map (·.1)).Nodup
 lt:S.lt=[]
def Over(s:Slp):Prop:=s=.worn\/∃w,s=.ended w
def Sim(S T:Pu):Prop:=Al S T\/(S.sl=T.sl/\Over S.sl)
def Bm(h:Over S.sl)(x:Hap):S.take x=(S,[]):=by
 unfold Pu.take;rw[if_pos];unfold Pu.over;rcases h with e|⟨w,e⟩<;>rw[e]
def Sim.take(h:Sim S T)(x:Hap):Sim (S.take x).1 (T.take x).1/\(S.take x).2=(T.take x).2:=by
 rcases h with a|⟨e,o⟩
 ·exact⟨.inl (a.take x).1,(a.take x).2⟩
 ·rw[Bm o,Bm (by rw[<- e];exact o)];exact⟨.inr ⟨e,o⟩,rfl⟩
def Sim.dv(h:Sim S T)(r:X0 b S)(q:X0 b T):iJ S=iJ T:=by
 rcases h with a|⟨e,o⟩
 ·unfold iJ;have hn:S.nmL=T.nmL:=Be r.nd q.nd a.nm;have hl:S.ltS=T.ltS:=by unfold Pu.ltS;rw[r.lt,q.lt]
  rw[a.sl,a.stk,a.ar,a.nw,a.made,a.pend,a.ans,hn,hl]
 ·unfold iJ;have g:S.sl.dQ=false:=by rcases o with z|⟨w,z⟩<;>rw[z]<;>rfl
  rw[<- e,g];rfl
def Sim.Vx(h:iJ S=iJ T)(r:X0 b S)(q:X0 b T)(n1:S.sl.isN=false)(n2:T.sl.isN=false)(w1:S.sl=.new->S=eT b)(w2:T.sl=.new->T=eT b):Sim S T:=by
 unfold iJ at h;cases g1:S.sl.dQ with
 | true =>
  cases g2:T.sl.dQ with
  | true =>
   rw[if_pos g1,if_pos g2] at h;simp only[Dv.tup.injEq,Γ4,Dv.int.injEq,and_true,Int.natCast_inj] at h;obtain⟨a1,a2,a3,a4,a5,a6,a7,a8,_⟩:=h;obtain⟨n,e1⟩:=r.stk;obtain⟨m,e2⟩:=q.stk;have hs:S.stk=T.stk:=by
    rw[e1,e2] at a2 ⊢;simp only[bP,ϔ,Ζ4,Γ4,Dv.int.injEq,and_true,Int.natCast_inj] at a2;rw[a2]
   refine .inl ⟨hs,Hx a1,CK a3,a4,a6,oC 0e1 a7,oC (λa b e=>?_) a8,λx=>?_,λk=>by rw[r.lt,q.lt]⟩
   ·obtain⟨i,w⟩:=a;obtain⟨j,u⟩:=b;simp only[Dv.tup.injEq,Γ4,Dv.int.injEq,and_true] at e;rw[e.1,CK e.2]
   ·have:S.nmL=T.nmL:=oC (λa b e=>by
     obtain⟨i,w⟩:=a;obtain⟨j,u⟩:=b;simp only[Dv.tup.injEq,Γ4,Dv.str.injEq,and_true] at e;rw[e.1,CK e.2]) a5
    rw[<- pM,<- pM,this]
  | false =>
   rw[if_pos g1,if_neg 6e1] at h;cases hT:T.sl<;>rw[hT] at h g2 n2<;>simp[Hw,Slp.dQ,Slp.isN] at h g2 n2
 | false =>
  rw[if_neg (by rw[g1];simp)] at h;cases g2:T.sl.dQ with
  | true =>
   rw[if_pos g2] at h;cases hS:S.sl<;>rw[hS] at h g1 n1<;>simp[Hw,Slp.dQ,Slp.isN] at h g1 n1
  | false =>
   rw[if_neg 6e1] at h;have e:=Hx h;cases hS:S.sl with
   | XB=>rw[hS] at n1;cases n1
   | wait _=>rw[hS] at g1;cases g1
   | XE _=>rw[hS] at g1;cases g1
   | worn=>exact .inr ⟨e,.inl hS⟩
   | ended w=>exact .inr ⟨e,.inr ⟨w,hS⟩⟩
   | new=>rw[w1 hS,w2 (by rw[<- e];exact hS)];exact .inl .refl
def Cv(b:List Stm)(S:Pu):Pu:=if S.sl.dQ=true then ⟨S.stk,S.sl,S.ar,S.nw,S.nmL,S.made,S.pend,S.ans,S.ltS⟩ else {eT b with sl:=S.sl}
theorem Dz(nm:List 0e0)(l:List Str):(Jd nm l).map (·.1)=l.filter λn=>decide 7e1:=by
 rw[iF,Β1];exact(Κ9 λ_ _=>rfl).trans (List.map_id _)
def wF(h:S.lt=[]):S.ltS=[]:=by unfold Pu.ltS;rw[h];simp[srt,gZ]
def VD(r:X0 b S):X0 b 8e0:=by
 unfold Cv;split
 ·refine⟨r.stk,?_,?_⟩
  ·show((Jd S.nm (srt (S.nm.map (·.1)))).map (·.1)).Nodup;rw[Dz];exact((Η1 _ JQ).nodup_iff.mpr r.nd).filter _
  ·exact wF r.lt
 ·exact⟨⟨0,rfl⟩,List.nodup_nil,rfl⟩
def PD(r:X0 b S)(n1:S.sl.isN=false)(w1:S.sl=.new->S=eT b):Sim 8e0 S:=by
 unfold Cv;cases g:S.sl.dQ with
 | true =>
  rw[if_pos rfl];exact .inl ⟨rfl,rfl,rfl,rfl,rfl,rfl,rfl,λx=>pM S x,λk=>by show(aZ S.ltS k).getD []=_;rw[wF r.lt,r.lt]⟩
 | false =>
  rw[if_neg 7e0];cases hS:S.sl with
  | XB=>rw[hS] at n1;cases n1
  | wait _=>rw[hS] at g;cases g
  | XE _=>rw[hS] at g;cases g
  | worn=>exact .inr ⟨hS.symm,.inl rfl⟩
  | ended w=>exact .inr ⟨hS.symm,.inr ⟨w,rfl⟩⟩
  | new=>rw[w1 hS];exact .inl .refl
def wL{l:List 0e0}(n:Str)(w:Wo)(h:(l.map (·.1)).Nodup):((dC l n w).map (·.1)).Nodup:=by
 unfold dC;split
 ·rw[Β1];rw[show((λx:Str×Wo=>x.1)∘λp:Str×Wo=>if p.1=n then (p.1,w) else p)=λx=>x.1 from funext λp=>by show(if p.1=n then (p.1,w) else p).1=p.1;split<;>rfl];exact h
 ·next hn =>
  rw[Ϙ,List.nodup_append];refine⟨h,by simp,λa ha b hb e=>hn ?_⟩;simp only[ϔ,Ζ4,Τ] at hb;obtain⟨p,hp,e2⟩:=Ϝ.mp ha;exact Ι3.mpr ⟨p,hp,by simp[e2,e,hb]⟩
def X0.vS(r:X0 b S){x:Str}{w:Wo}(h1:T.stk=S.stk)(h2:T.nm=dC S.nm x w)(h3:T.lt=S.lt):X0 b T:=⟨by rw[h1];exact r.stk,by rw[h2];exact wL x w r.nd,by rw[h3];exact r.lt⟩
def X0.same(r:X0 b S)(h1:T.stk=S.stk)(h2:T.nm=S.nm)(h3:T.lt=S.lt):X0 b T:=⟨by rw[h1];exact r.stk,by rw[h2];exact r.nd,by rw[h3];exact r.lt⟩
def X0.bE(r:X0 b S)(m:Stm):X0 b (bE S m).1:=by
 cases m with
 | set x s=>exact r.vS rfl rfl rfl
 | order x y s=>exact r.vS rfl rfl rfl
 | child x y s=>exact r.vS rfl rfl rfl
 | XM x s=>exact r.vS rfl rfl rfl
 | send s k q=>exact r
 | drop s =>
  simp only[Own.bE];split
  ·split
   ·exact r.same rfl rfl rfl
   ·exact r
  ·exact r
 | XE x k =>
  simp only[Own.bE];rw[r.lt];simp only[aZ,Option.getD_none];exact⟨r.stk,r.nd,rfl⟩
 | wait x ss =>
  simp only[Own.bE];split
  ·exact r.same rfl rfl rfl
  ·exact r.vS rfl rfl rfl
 | fin s=>exact r.same rfl rfl rfl
 | Yh s b=>exact r
 | iff s b o=>exact r
def X0.pass(r:X0 b S):X0 b S.pass:=by
 obtain⟨n,e⟩:=r.stk;exact⟨⟨n+1,by show fH S.stk=_;rw[e];rfl⟩,r.nd,r.lt⟩
def X0.one{b:List Stm}{S:Pu}(r:X0 b S){m:Stm}(hm:m.isB=false):X0 b (one S m).1:=by
 unfold Own.one;rw[if_neg 5e1];dsimp only;split
 ·exact(r.bE m).pass
 ·exact r.bE m
def X0.bT(r:X0 b S):S.bT=S:=by
 obtain⟨n,e⟩:=r.stk;unfold Pu.bT;rw[show cZ S.stk=S.stk by rw[e,cZ];simp]
def X0.cH(r:X0 b S)(hb:∀m∈b,m.isB=false)(h:cH S.stk=some m):m.isB=false:=by
 obtain⟨n,e⟩:=r.stk;rw[e] at h;exact hb m (Φ (show b[n]?=some m from h))
theorem X0.b8{b:List Stm}(hb:∀m∈b,m.isB=false):∀(n:Nat) {S:Pu},X0 b S->X0 b (b8 n S).1
 | 0,S,r=>by
  unfold Own.b8;rw[r.bT];split
  ·exact r.same rfl rfl rfl
  ·exact r.same rfl rfl rfl
 | n+1,S,r=>by
  unfold Own.b8;rw[r.bT];split
  ·exact r.same rfl rfl rfl
  ·next m hm =>
   have o:=r.one (r.cH hb hm);split
   ·exact X0.b8 hb n o
   ·exact o
def rest(S:Pu):Prop:=S.sl.isN=false/\S.sl≠.new/\(S.sl.dQ=false->S.pend=[])
def Oc(h:S.sl=.XB):(bE S m).1.sl=.XB\/rest (bE S m).1:=by
 cases m with
 | drop s =>
  simp only[bE];split
  ·split<;>exact .inl h
  ·exact .inl h
 | XE x k =>
  simp only[bE];split
  ·exact .inl h
  ·exact .inr ⟨rfl,1e0,λz=>by cases z⟩
 | wait x ss =>
  simp only[bE];split
  ·exact .inr ⟨rfl,1e0,λz=>by cases z⟩
  ·exact .inl h
 | fin s=>exact .inr ⟨rfl,1e0,λ_=>rfl⟩
 | _=>exact .inl h
def Mm(hm:m.isB=false)(h:S.sl=.XB):(one S m).1.sl=.XB\/rest (one S m).1:=by
 unfold one;rw[if_neg 5e1];dsimp only;rcases Oc (m:=m) h with e|e
 ·rw[if_pos 4e0];exact .inl e
 ·rw[if_neg 3e1];exact .inr e
theorem lQ{b:List Stm}(hb:∀m∈b,m.isB=false):∀(n:Nat) {S:Pu},X0 b S->S.sl=.XB->rest (b8 n S).1
 | 0,S,r,h=>by
  unfold b8;rw[r.bT];split
  ·exact⟨rfl,1e0,λ_=>rfl⟩
  ·exact⟨rfl,1e0,λ_=>rfl⟩
 | n+1,S,r,h=>by
  unfold b8;rw[r.bT];split
  ·exact⟨rfl,1e0,λ_=>rfl⟩
  ·next m hm =>
   have hB:=r.cH hb hm;rcases Mm hB h with e|e
   ·rw[if_pos 4e0];exact lQ hb n (r.one hB) e
   ·rw[if_neg 3e1];exact e
structure Z38(b:List Stm)(S:Pu):Prop where
 r:X0 b S
 st:S=eT b\/rest S
def Z38.isN(z:Z38 b S):S.sl.isN=false:=by
 rcases z.st with e|e
 ·rw[e];rfl
 ·exact e.1
def Z38.new(z:Z38 b S)(h:S.sl=.new):S=eT b:=z.st.resolve_right λe=>e.2.1 h
def Z38.pd(z:Z38 b S)(h:S.sl.dQ=false):S.pend=[]:=by
 rcases z.st with e|e
 ·rw[e];rfl
 ·exact e.2.2 h
def Z38.eT:Z38 b (eT b):=⟨⟨⟨0,rfl⟩,List.nodup_nil,rfl⟩,.inl rfl⟩
def Hap.nl:Hap->Bool
 | .ltr _ _ _=>false
 | _=>true
def Z38.wake(hb:∀m∈b,m.isB=false)(r:X0 b S)(e:rest S)(w:Wo):X0 b (S.wake w).1/\rest (S.wake w).1:=by
 unfold Pu.wake;have g:∀x,X0 b {S with nm:=dC S.nm x w,stk:=fH S.stk,sl:=.XB}:=λx=>by
  have:=r.pass;exact⟨this.stk,wL x w r.nd,r.lt⟩
 split
 ·exact⟨(g _).b8 hb 300,lQ hb 300 (g _) rfl⟩
 ·exact⟨(g _).b8 hb 300,lQ hb 300 (g _) rfl⟩
 ·exact⟨r,e⟩
def Z38.take'(hb:∀m∈b,m.isB=false)(z:Z38 b S)(hn:h.nl=true):Z38 b (S.take h).1/\(rest S\/(∃m w,h=.XS m w)->rest (S.take h).1):=by
 unfold Pu.take;split
 ·next ho =>
  refine⟨z,λq=>?_⟩;rcases q with q|⟨m,w,rfl⟩
  ·exact q
  ·exact z.st.resolve_left λe=>by rw[e] at ho;cases ho
 ·next ho =>
  cases h with
  | ltr m k w=>cases hn
  | XS m w =>
   have r:X0 b {S with nw:=later S.nw m,ar:=w,sl:=.XB}:=z.r.same rfl rfl rfl;exact⟨⟨r.b8 hb 300,.inr (lQ hb 300 r rfl)⟩,λ_=>lQ hb 300 r rfl⟩
  | don m i w =>
   have e:rest S:=z.st.resolve_left λe=>ho 4e0;have hg:S.sl.dQ=true:=by
    cases hS:S.sl with
    | new=>exact absurd hS e.2.1
    | XB=>have:=e.1;rw[hS] at this;cases this
    | ended w=>exact absurd 1e1 ho
    | worn=>exact absurd 1e1 ho
    | wait ts=>rfl
    | XE k=>rfl
   have r:X0 b 2e1:=z.r.same rfl rfl rfl;have e2:rest 2e1:=⟨e.1,e.2.1,λq=>by
    have q:S.sl.dQ=false:=q;rw[hg] at q;cases q⟩
   have g:X0 b ((S.at' m).dW i w).1/\rest ((S.at' m).dW i w).1:=by
    unfold Pu.dW;split
    ·split
     ·exact Z38.wake hb r e2 (some i)
     ·exact⟨r,e2⟩
    ·exact⟨r,e2⟩
   exact⟨⟨g.1,.inr g.2⟩,λ_=>g.2⟩
def Z38.take(hb:∀m∈b,m.isB=false)(z:Z38 b S)(hn:h.nl=true):Z38 b (S.take h).1:=(z.take' hb hn).1
def Z38.sim(z:Z38 b S):Sim 8e0 S:=PD z.r z.isN z.new
def Z38.eq(z:Z38 b S)(y:Z38 b T)(h:iJ S=iJ T):Sim S T:=Sim.Vx h z.r y.r z.isN y.isN z.new y.new
def Slp.isNew:Slp->Bool
 | .new=>true
 | _=>false
def Jz(l:List Int):List Int:=l.foldr Aq []
def gB(S T:Pu):List Int:=Jz (S.pend++T.pend)
def dM(ws:List Wo)(S T:Pu):List Hap:=if S.sl.isNew=true then (ws.take 1).map (Hap.XS 0) else (gB S T).flatMap λi=>ws.map (Hap.don 0 i)
def aft(b:List Stm)(row:List Hap):Pu:=(takes (eT b) row).1
def oB(b:List Stm)(row:List Hap):Cmds:=(takes (eT b) row).2.getLastD []
def dG(b:List Stm)(row:List Hap)(h:Hap):aft b (row++[h])=((aft b row).take h).1:=by unfold aft;rw[rB]
def cA(b:List Stm)(row:List Hap)(h:Hap):oB b (row++[h])=((aft b row).take h).2:=by
 unfold oB aft;rw[rB];simp
abbrev LQ(b c:List Stm)(row:List Hap):Prop:=ceq (oB b row) (oB c row)=true
def dU(b c:List Stm)(ws:List Wo)(rows:List 6e0):List 6e0:=rows.flatMap λrow=>(dM ws 0e2 9e1).map λh=>row++[h]
def prs(b c:List Stm)(row:List Hap):Dv×Dv:=(iJ 0e2,iJ 9e1)
inductive Acc where
 | part (row:List Hap)
 | on (met:List (Dv×Dv)) (fr:List 6e0)
inductive Res where
 | parts (row:List Hap)|never (n:Nat)|no
end
section
open Classical
mutual
example:=[List Hap,Dv×Dv,YE b c,.on met fr,(if prs b c row∈met then .on met fr else .on (met++[prs b c row]) (fr++[row])),(ϗ _ (by simp))]
def YE(b c:List Stm):Acc->List Hap->Acc
 | .part r,_=>.part r
 | .on met fr,row=>if LQ b c row then 4e0 else .part row
def rA(b c:List Stm)(met:List 1e0)(fr:List 0e0)(row:List Hap):YE b c 3e0 row=if LQ b c row then 4e0 else .part row:=rfl
def rnd(b c:List Stm)(ws:List Wo):Nat->List 0e0->List 1e0->Res
 | 0,_,_=>.no
 | n+1,rows,met=>match rows.foldl 2e0 (.on met []) with
  | .part row=>.parts row
  | .on XH fr=>if fr=[] then .never XH.length else rnd b c ws n (dU b c ws fr) XH
theorem pJ(b c:List Stm)(r:List Hap):∀rows:List 0e0,rows.foldl 2e0 (.part r)=.part r
 | []=>rfl
 | _::rows=>pJ b c r rows
theorem qR{b c:List Stm}{row:List Hap}:∀{rows:List 0e0} {met:List 1e0} {fr:List 0e0},rows.foldl 2e0 3e0=.part row->row∈rows/\¬ LQ b c row
 | [],_,_,h=>by cases h
 | x::rows,met,fr,h=>by
  rw[List.foldl_cons,rA] at h;by_cases e:LQ b c x
  ·rw[if_pos e] at h;have:row∈rows/\¬ LQ b c row:=by
    split at h
    ·exact qR h
    ·exact qR h
   exact⟨Ξ _ this.1,this.2⟩
  ·rw[if_neg e,pJ] at h;cases h;exact⟨by simp,e⟩
structure Q0(b c:List Stm)(rows:List 0e0)(met XH:List 1e0)(fr fr':List 0e0):Prop where
 sub:∀p∈met,p∈XH
 all:∀x∈rows,LQ b c x/\prs b c x∈XH
 fr0:∀x∈fr',x∈fr\/x∈rows
 new:∀p∈XH,p∈met\/∃x∈fr',x∈rows/\prs b c x=p
 frs:∀x∈fr,x∈fr'
theorem wA{b c:List Stm}{XH:List 1e0}{fr':List 0e0}:∀{rows:List 0e0} {met:List 1e0} {fr:List 0e0},rows.foldl 2e0 3e0=.on XH fr'->Q0 b c rows met XH fr fr'
 | [],_,_,h=>by cases h;exact⟨λ_ h=>h,(λ_ h=>by cases h),λ_ h=>.inl h,λ_ h=>.inl h,λ_ h=>h⟩
 | x::rows,met,fr,h=>by
  rw[List.foldl_cons,rA] at h;by_cases e:LQ b c x
  ·rw[if_pos e] at h;split at h
   ·next hm =>
    have F:=wA h;refine⟨F.sub,λy hy=>?_,λy hy=>(F.fr0 y hy).imp id (Ξ _),λp hp=>(F.new p hp).imp id fun⟨y,h1,h2,h3⟩=>⟨y,h1,Ξ _ h2,h3⟩,F.frs⟩;rcases Ε.mp hy with rfl|hy
    ·exact⟨e,F.sub _ hm⟩
    ·exact F.all y hy
   ·have F:=wA h;refine⟨λp hp=>F.sub p (Ε4 _ hp),λy hy=>?_,λy hy=>?_,λp hp=>?_,λy hy=>F.frs y (Ε4 _ hy)⟩
    ·rcases Ε.mp hy with rfl|hy
     ·exact⟨e,F.sub _ 5e0⟩
     ·exact F.all y hy
    ·rcases F.fr0 y hy with z|z
     ·rcases Υ.mp z with z|z
      ·exact .inl z
      ·exact .inr (by rw[Τ.mp z];simp)
     ·exact .inr (Ξ _ z)
    ·rcases F.new p hp with z|⟨y,h1,h2,h3⟩
     ·rcases Υ.mp z with z|z
      ·exact .inl z
      ·exact .inr ⟨x,F.frs x 5e0,by simp,(Τ.mp z).symm⟩
     ·exact .inr ⟨y,h1,Ξ _ h2,h3⟩
  ·rw[if_neg e,pJ] at h;cases h
end
end
inductive Gd(b c:List Stm)(ws:List Wo):List Hap->Prop
 | one {w:Wo}:ws.head?=some w->Gd b c ws [.XS 0 w]
 | snoc {row:List Hap} {i:Int} {w:Wo}:Gd b c ws row->LQ b c row->i∈gB (aft b row) (aft c row)->w∈ws->Gd b c ws (row++[.don 0 i w])
section
variable(hb:∀m∈b,m.isB=false)(hc:∀m∈c,m.isB=false)
include hb hc
mutual
example:=[aft c row,aft b row,(.inr ⟨_,_,rfl⟩)]
theorem Gd.z(g:Gd b c ws row):(Z38 b 1e0/\rest 1e0)/\Z38 c 0e0/\rest 0e0:=by
 induction g with
 | @one w e =>
  have h1:=Z38.eT (b:=b) |>.take' hb (h:=.XS 0 w) rfl;have h2:=Z38.eT (b:=c) |>.take' hc (h:=.XS 0 w) rfl;exact⟨⟨h1.1,h1.2 2e0⟩,h2.1,h2.2 2e0⟩
 | @snoc row i w _ _ _ _ ih =>
  rw[dG,dG];have h1:=ih.1.1.take' hb (h:=.don 0 i w) rfl;have h2:=ih.2.1.take' hc (h:=.don 0 i w) rfl;exact⟨⟨h1.1,h1.2 (.inl ih.1.2)⟩,h2.1,h2.2 (.inl ih.2.2)⟩
theorem Gd.LA(g:Gd b c ws row):dM ws 1e0 0e0=(gB 1e0 0e0).flatMap λi=>ws.map (Hap.don 0 i):=by
 have:=(g.z hb hc).1.2.2.1;unfold dM;rw[if_neg];intro z;cases h:(aft b row).sl<;>rw[h] at z<;>first|exact this h|cases z
theorem GK(h:∀x∈fr,Gd b c ws x/\LQ b c x):∀y∈dU b c ws fr,Gd b c ws y/\∃x∈fr,y.length=x.length+1:=by
 intro y hy;obtain⟨x,hx,hy⟩:=Κ4.mp hy;obtain⟨k,hk,rfl⟩:=Ϝ.mp hy;rw[(h x hx).1.LA hb hc] at hk;obtain⟨i,hi,hk⟩:=Κ4.mp hk;obtain⟨w,hw,rfl⟩:=Ϝ.mp hk;exact⟨.snoc (h x hx).1 (h x hx).2 hi hw,x,hx,by simp⟩
theorem Bo{row:List Hap}:∀(n k:Nat) {rows:List (List Hap)} {met:List (Dv×Dv)},(∀x∈rows,Gd b c ws x/\x.length=k)->rnd b c ws n rows met=.parts row->Gd b c ws row/\¬ LQ b c row/\row.length < k+n
 | 0,_,_,_,_,h=>by cases h
 | n+1,k,rows,met,g,h=>by
  unfold rnd at h;split at h
  ·next r e =>
   cases h;have:=qR e;exact⟨(g _ this.1).1,this.2,by have:=(g _ this.1).2;omega⟩
  ·next XH fr e =>
   split at h
   ·cases h
   ·have F:=wA e;have hf:∀x∈fr,Gd b c ws x/\LQ b c x/\x.length=k:=λx hx=>by
     have:=(F.fr0 x hx).resolve_left (by simp);exact⟨(g x this).1,(F.all x this).1,(g x this).2⟩
    have:=Bo n (k+1) (λy hy=>by
     obtain⟨g1,x,hx,e1⟩:=GK hb hc (λx hx=>⟨(hf x hx).1,(hf x hx).2.1⟩) y hy;exact⟨g1,by rw[e1,(hf x hx).2.2]⟩) h
    exact⟨this.1,this.2.1,by have:=this.2.2;omega⟩
end
omit hb hc
def Suc(b c:List Stm)(ws:List Wo)(rows:List (List Hap))(met:List (Dv×Dv))(y:List Hap):Prop:=y∈rows\/(LQ b c y/\prs b c y∈met)
structure Clo(b c:List Stm)(ws:List Wo)(rows:List (List Hap))(met:List (Dv×Dv)):Prop where
 rw:∀x∈rows,Gd b c ws x
 bg:∀w,ws.head?=some w->Suc b c ws rows met [.XS 0 w]
 st:∀p∈met,∃r,Gd b c ws r/\prs b c r=p/\∀i∈gB (aft b r) (aft c r),∀w∈ws,Suc b c ws rows met (r++[.don 0 i w])
include hb hc
theorem Bn{k:Nat}:∀(n:Nat) {rows:List (List Hap)} {met:List (Dv×Dv)},Clo b c ws rows met->rnd b c ws n rows met=.never k->∃XH,XH.length=k/\Clo b c ws [] XH
 | 0,_,_,_,h=>by cases h
 | n+1,rows,met,C,h=>by
  unfold rnd at h;split at h
  ·cases h
  ·next XH fr e =>
   have F:=wA e;have up:∀{y},Suc b c ws rows met y->LQ b c y/\prs b c y∈XH:=λs=>s.elim (F.all _) λs=>⟨s.1,F.sub _ s.2⟩;have C2:Clo b c ws (dU b c ws fr) XH:=by
    have hf:∀x∈fr,Gd b c ws x/\LQ b c x:=λx hx=>by
     have:=(F.fr0 x hx).resolve_left (by simp);exact⟨C.rw x this,(F.all x this).1⟩
    refine⟨λy hy=>(GK hb hc hf y hy).1,λw hw=>.inr (up (C.bg w hw)),λp hp=>?_⟩;rcases F.new p hp with z|⟨x,h1,h2,h3⟩
    ·obtain⟨r,g,ep,q⟩:=C.st p z;exact⟨r,g,ep,λi hi w hw=>.inr (up (q i hi w hw))⟩
    ·refine⟨x,(hf x h1).1,h3,λi hi w hw=>.inl (Κ4.mpr ⟨x,h1,Ϝ.mpr ⟨.don 0 i w,?_,rfl⟩⟩)⟩;rw[(hf x h1).1.LA hb hc];exact Κ4.mpr ⟨i,hi,Ϝ.mpr ⟨w,hw,rfl⟩⟩
   split at h
   ·next hfr =>
    cases h;subst hfr;exact⟨XH,rfl,C2⟩
   ·exact Bn n C2 h
theorem P0{S' T':Pu}(zs:Z38 b S)(zs':Z38 b S')(zt:Z38 c T)(zt':Z38 c T')(h1:Sim S S')(h2:Sim T T'):gB S T=gB S' T':=by
 have f:∀{b:List Stm} {S S':Pu},Z38 b S->Z38 b S'->Sim S S'->S.pend=S'.pend:=λz z' h=>by
  rcases h with a|⟨e,o⟩
  ·exact a.pend
  ·rw[z.pd (by rcases o with q|⟨w,q⟩<;>rw[q]<;>rfl),z'.pd (by rw[<- e];rcases o with q|⟨w,q⟩<;>rw[q]<;>rfl)]
 unfold gB;rw[f zs zs' h1,f zt zt' h2]
theorem BP{met:List (Dv×Dv)}(C:Clo b c ws [] met)(g:Gd b c ws row):LQ b c row/\prs b c row∈met:=by
 induction g with
 | one e=>exact(C.bg _ e).resolve_left (by simp)
 | @snoc row i w g _ hi hw ih =>
  obtain⟨r,gr,ep,q⟩:=C.st _ ih.2;have zr:=gr.z hb hc;have zz:=g.z hb hc;have e1:iJ (aft b r)=iJ (aft b row):=Η5 Prod.fst ep;have e2:iJ (aft c r)=iJ (aft c row):=Η5 Prod.snd ep;have s1:=zr.1.1.eq zz.1.1 e1;have s2:=zr.2.1.eq zz.2.1 e2;have:=(q i (by rw[P0 hb hc zr.1.1 zz.1.1 zr.2.1 zz.2.1 s1 s2];exact hi) w hw).resolve_left (by simp);have t1:=s1.take (.don 0 i w);have t2:=s2.take (.don 0 i w);refine⟨?_,?_⟩
  ·have h1:=this.1;unfold LQ at h1 ⊢;rw[cA,cA] at h1 ⊢;rw[<- t1.2,<- t2.2];exact h1
  ·have d1:=t1.1.dv (zr.1.1.take hb (h:=.don 0 i w) rfl).r (zz.1.1.take hb (h:=.don 0 i w) rfl).r;have d2:=t2.1.dv (zr.2.1.take hc (h:=.don 0 i w) rfl).r (zz.2.1.take hc (h:=.don 0 i w) rfl).r;have:=this.2;unfold prs at this ⊢;rw[dG,dG] at this ⊢;rw[d1,d2] at this;exact this
end
mutual
example:=[(by simp),(λ_ h=>by cases h),t.same rfl rfl rfl,ns.map Key.inl,(λkv=>(kV kv.1,kv.2)),Str×Wo,Int×Wo,.XS m w,(λz=>by rw[z,e] at ed;cases ed;exact h _ rfl),((0<=h.m/\h.m<=1000000000000)/\cL h.w),kd.pass hs rfl (Δ3 _) (fM _ _ _),iE C.r R (.ref p) none 0,.tup (S.pend.map V.int),(S.at' m).done i w,(by simpa using h),l.map Dv.int,Str×List Wo,p.2.map wD,aft c row,aft b row]
structure kY(S:Pu):Prop where
 lt:∀i∈S.pend,0<=i/\i < S.made
 asc:S.pend.Pairwise (· < ·)
 la:∀p∈S.ans,0<=p.1/\p.1 < S.made
 dis:∀p∈S.ans,p.1∉S.pend
 nd:(S.ans.map (·.1)).Nodup
def kY.same(t:kY S)(h1:T.made=S.made)(h2:T.pend=S.pend)(h3:T.ans=S.ans):kY T:=⟨by rw[h1,h2];exact t.lt,by rw[h2];exact t.asc,by rw[h1,h3];exact t.la,by rw[h2,h3];exact t.dis,by rw[h3];exact t.nd⟩
def kY.MN(t:kY S)(h1:T.made=S.made)(f:Int->Bool)(h2:T.pend=S.pend.filter f)(h3:T.ans=S.ans):kY T :=
 ⟨λi hi=>by rw[h2] at hi;rw[h1];exact t.lt i (Γ3.mp hi).1,by rw[h2];exact t.asc.filter _,by rw[h1,h3];exact t.la,λp hp=>by rw[h3] at hp;rw[h2];exact λz=>t.dis p hp (Γ3.mp z).1,by rw[h3];exact t.nd⟩
theorem kY.j4(t:kY S)(h1:T.made=S.made+1)(h2:T.pend=S.pend++[(S.made:Int)])(h3:T.ans=S.ans):kY T:=by
 refine⟨λi hi=>?_,?_,λp hp=>?_,λp hp=>?_,by rw[h3];exact t.nd⟩
 ·rw[h2] at hi;rw[h1];rcases Υ.mp hi with h|h
  ·have:=t.lt i h;omega
  ·rw[Τ.mp h];omega
 ·rw[h2,List.pairwise_append];exact⟨t.asc,by simp,λa ha c hc=>by rw[Τ.mp hc];exact(t.lt a ha).2⟩
 ·rw[h3] at hp;have:=t.la p hp;rw[h1];omega
 ·rw[h3] at hp;rw[h2];intro z;rcases Υ.mp z with z|z
  ·exact t.dis p hp z
  ·have:=t.la p hp;rw[Τ.mp z] at this;omega
def kY.nil(t:kY S)(h1:T.made=S.made)(h2:T.pend=[])(h3:T.ans=S.ans):kY T :=
 ⟨(λi hi=>by rw[h2] at hi;cases hi),by rw[h2];exact .nil,by rw[h1,h3];exact t.la,λp _=>by rw[h2];exact Θ,by rw[h3];exact t.nd⟩
def kY.bE(t:kY S)(m:Stm):kY (bE S m).1:=by
 cases m with
 | set x s=>exact t.same rfl rfl rfl
 | order x y s=>exact t.j4 rfl rfl rfl
 | child x y s=>exact t.j4 rfl rfl rfl
 | XM x s=>exact t.j4 rfl rfl rfl
 | send s k q=>exact t
 | drop s =>
  simp only[Own.bE];split
  ·split
   ·exact t.MN rfl _ rfl rfl
   ·exact t
  ·exact t
 | XE x k =>
  simp only[Own.bE];split
  ·exact t.same rfl rfl rfl
  ·exact t.same rfl rfl rfl
 | wait x ss =>
  simp only[Own.bE];split
  ·exact t.same rfl rfl rfl
  ·exact t.same rfl rfl rfl
 | fin s=>exact t.nil rfl rfl rfl
 | Yh s b=>exact t
 | iff s b o=>exact t
def kY.one{S:Pu}(t:kY S)(m:Stm):kY (one S m).1:=by
 unfold Own.one;split
 ·cases m with
  | Yh s b=>simp only[lT];split<;>exact t.same rfl rfl rfl
  | iff s b o=>simp only[lT];split<;>exact t.same rfl rfl rfl
  | _=>exact t
 ·dsimp only;split
  ·exact(t.bE m).same rfl rfl rfl
  ·exact t.bE m
theorem kY.b8:∀(n:Nat) {S:Pu},kY S->kY (b8 n S).1
 | 0,S,t=>by
  unfold Own.b8;have t:=t.same (T:=S.bT) rfl rfl rfl;split
  ·exact t.nil rfl rfl rfl
  ·exact t.nil rfl rfl rfl
 | n+1,S,t=>by
  unfold Own.b8;have t:=t.same (T:=S.bT) rfl rfl rfl;split
  ·exact t.nil rfl rfl rfl
  ·next m _ =>
   have o:=t.one m;split
   ·exact kY.b8 n o
   ·exact o
def kY.wake(t:kY S)(w:Wo):kY (S.wake w).1:=by
 unfold Pu.wake;split
 ·exact kY.b8 300 2e0
 ·exact kY.b8 300 2e0
 ·exact t
def kY.done(t:kY S)(hi:i∈S.pend)(w:Wo):kY (S.done i w):=by
 have hn:∀p∈S.ans,p.1≠i:=λp hp z=>t.dis p hp (by rw[z];exact hi);refine⟨λj hj=>t.lt j (Γ3.mp hj).1,t.asc.filter _,λp hp=>?_,λp hp=>?_,?_⟩
 ·rcases Υ.mp hp with h|h
  ·exact t.la p h
  ·rw[Τ.mp h];exact t.lt i hi
 ·intro z;have z:=Γ3.mp z;rcases Υ.mp hp with h|h
  ·exact t.dis p h z.1
  ·rw[Τ.mp h] at z;simp at z
 ·show((S.ans++[(i,w)]).map (·.1)).Nodup;rw[Ϙ,List.nodup_append];refine⟨t.nd,by simp,λa ha c hc e=>?_⟩;obtain⟨p,hp,rfl⟩:=Ϝ.mp ha;simp only[ϔ,Ζ4,Τ] at hc;exact hn p hp (e.trans hc)
def kY.take(t:kY S)(h:Hap):kY (S.take h).1:=by
 unfold Pu.take;split
 ·exact t
 ·next ho =>
  cases h with
  | XS m w=>exact kY.b8 300 2e0
  | don m i w =>
   have hi:i∈S.pend:=by
    unfold Pu.over at ho;cases hS:S.sl<;>rw[hS] at ho<;>simpa using ho
   have d:kY 3e1:=kY.done (S:=S.at' m) 2e0 hi w;show kY ((S.at' m).dW i w).1;unfold Pu.dW;split
   ·split
    ·exact d.wake _
    ·exact d
   ·exact d
  | ltr m k w =>
   have t':kY (S.at' m):=t.same rfl rfl rfl;show kY ((S.at' m).hJ k w).1;unfold Pu.hJ;split
   ·split
    ·exact t'.wake _
    ·exact t'.same rfl rfl rfl
   ·exact t'.same rfl rfl rfl
def kY.new:kY (eT b):=⟨1e0,.nil,1e0,1e0,.nil⟩
def Mk(b:List Stm)(S:Pu):Prop:=∃n,S.stk=[(0,b,n)]/\S.made<=n/\S.nm.length<=n/\n<=b.length
def Mk.same(k:Mk b S)(h1:T.stk=S.stk)(h2:T.made=S.made)(h3:T.nm=S.nm):Mk b T:=by
 obtain⟨n,e,l,l2,z⟩:=k;exact⟨n,h1.trans e,by rw[h2];exact l,by rw[h3];exact l2,z⟩
def Oa(S:Pu)(m:Stm):(bE S m).1.stk=S.stk/\(((bE S m).1.made=S.made/\(bE S m).1.nm=S.nm)\/((bE S m).1.made<=S.made+1/\(bE S m).1.nm.length<=S.nm.length+1/\(bE S m).1.sl=S.sl)):=by
 cases m with
 | set x s=>exact⟨rfl,.inr ⟨Δ3 _,fM _ _ _,rfl⟩⟩
 | order x y s=>exact⟨rfl,.inr ⟨Ζ _,fM _ _ _,rfl⟩⟩
 | child x y s=>exact⟨rfl,.inr ⟨Ζ _,fM _ _ _,rfl⟩⟩
 | XM x s=>exact⟨rfl,.inr ⟨Ζ _,fM _ _ _,rfl⟩⟩
 | send s k q=>exact⟨rfl,.inl ⟨rfl,rfl⟩⟩
 | drop s =>
  simp only[bE];split
  ·split<;>exact⟨rfl,.inl ⟨rfl,rfl⟩⟩
  ·exact⟨rfl,.inl ⟨rfl,rfl⟩⟩
 | XE x k =>
  simp only[bE];split
  ·exact⟨rfl,.inr ⟨Δ3 _,fM _ _ _,rfl⟩⟩
  ·exact⟨rfl,.inl ⟨rfl,rfl⟩⟩
 | wait x ss =>
  simp only[bE];split
  ·exact⟨rfl,.inl ⟨rfl,rfl⟩⟩
  ·exact⟨rfl,.inr ⟨Δ3 _,fM _ _ _,rfl⟩⟩
 | fin s=>exact⟨rfl,.inl ⟨rfl,rfl⟩⟩
 | Yh s b=>exact⟨rfl,.inl ⟨rfl,rfl⟩⟩
 | iff s b o=>exact⟨rfl,.inl ⟨rfl,rfl⟩⟩
theorem Mk.pass(k:Mk b S)(hs:cH S.stk=some m)(h1:T.stk=fH S.stk)(h2:T.made<=S.made+1)(h3:T.nm.length<=S.nm.length+1):Mk b T:=by
 obtain⟨n,e,l,l2,z⟩:=k;rw[e] at hs h1;have:n < b.length:=(Λ.mp (show b[n]?=some m from hs)).1;exact⟨n+1,h1,by omega,by omega,this⟩
theorem Mk.one{b:List Stm}{S:Pu}{m:Stm}(k:Mk b S)(hm:m.isB=false)(hs:cH S.stk=some m)(h0:S.sl=.XB):Mk b (one S m).1:=by
 have d:=Oa S m;unfold Own.one;rw[if_neg (by rw[hm];simp)];dsimp only;split
 ·refine k.pass hs (by show fH (Own.bE S m).1.stk=_;rw[d.1]) ?_ ?_
  ·show(Own.bE S m).1.made<=_;rcases d.2 with e|e
   ·have:=e.1;omega
   ·exact e.1
  ·show(Own.bE S m).1.nm.length<=_;rcases d.2 with e|e
   ·rw[e.2];omega
   ·exact e.2.1
 ·next hn =>
  have e:=d.2.resolve_right λe=>hn (by rw[e.2.2,h0];rfl);exact k.same d.1 e.1 e.2
theorem Mk.b8{b:List Stm}(hb:∀m∈b,m.isB=false):∀(n:Nat) {S:Pu},X0 b S->Mk b S->S.sl=.XB->Mk b (b8 n S).1
 | 0,S,r,k,h=>by
  unfold Own.b8;rw[r.bT];split
  ·exact k.same rfl rfl rfl
  ·exact k.same rfl rfl rfl
 | n+1,S,r,k,h=>by
  unfold Own.b8;rw[r.bT];split
  ·exact k.same rfl rfl rfl
  ·next m hm =>
   have hB:=r.cH hb hm;have o:=k.one hB hm h;rcases Mm hB h with e|e
   ·rw[if_pos (by rw[e];rfl)];exact Mk.b8 hb n (r.one hB) o e
   ·rw[if_neg (by rw[e.1];simp)];exact o
def Mk.take(hb:∀m∈b,m.isB=false)(z:Z38 b S)(k:Mk b S)(hn:h.nl=true):Mk b (S.take h).1:=by
 unfold Pu.take;split
 ·exact k
 ·cases h with
  | ltr m q w=>cases hn
  | XS m w=>exact Mk.b8 hb 300 (z.r.same rfl rfl rfl) (k.same rfl rfl rfl) rfl
  | don m i w =>
   show Mk b ((S.at' m).dW i w).1;have kd:Mk b 3e1:=k.same rfl rfl rfl;unfold Pu.dW;split
   ·split
    ·unfold Pu.wake;split
     ·next x q hs=>exact Mk.b8 hb 300 (let r:=z.r.pass;⟨r.stk,wL _ _ z.r.nd,z.r.lt⟩) 0e1 rfl
     ·next x q hs=>exact Mk.b8 hb 300 (let r:=z.r.pass;⟨r.stk,wL _ _ z.r.nd,z.r.lt⟩) 0e1 rfl
     ·exact kd
    ·exact kd
   ·exact kd
structure Y38(b:List Stm)(S:Pu)(N:Nat):Prop where
 z:Z38 b S
 tk:kY S
 mq:Mk b S
 ft:XN true S N
structure Pg38(b:List Stm):Prop where
 nb:∀m∈b,m.isB=false
 gd:Ap true b
 dp:Ao b<=20
 ln:b.length<=20
def Y38.new(g:Pg38 b):Y38 b (eT b) 0:=⟨.eT,.new,⟨0,rfl,Ζ _,Ζ _,ϖ _⟩,B6 g.gd g.dp⟩
theorem Y38.pend(g:Pg38 b)(y:Y38 b S N):∀i∈S.pend,0<=i/\i < 20:=λi hi=>by
 obtain⟨n,_,h1,_,h3⟩:=y.mq;have:=y.tk.lt i hi;have:=g.ln;omega
theorem BM:∀{l:List Int} {a c:Int},l.Pairwise (· < ·)->(∀i∈l,a<=i/\i < c)->(l.length:Int)<=max 0 (c - a)
 | [],_,_,_,_=>by simp;omega
 | i::l,a,c,h,q=>by
  have hi:=q i 0e0;have:=BM (l:=l) (a:=i+1) (c:=c) (Ε2.mp h).2 λj hj=>⟨by have:=(Ε2.mp h).1 j hj;omega,(q j (Ξ _ hj)).2⟩;simp only[Κ];omega
theorem Y38.oQ(g:Pg38 b)(y:Y38 b S N):S.pend.length<=20:=by
 have:=BM y.tk.asc (a:=0) (c:=20) (y.pend g);omega
theorem Y38.take(g:Pg38 b)(y:Y38 b S N)(hn:h.nl=true)(hm:0<=h.m/\h.m<=1000000000000)(hw:cL h.w)(hN:N<=800000):Y38 b (S.take h).1 (N+302) :=
 ⟨y.z.take g.nb hn,y.tk.take h,y.mq.take g.nb y.z hn,y.ft.PV h hm hw (λi hi=>iT (by have:=y.pend g i hi;omega) (by have:=y.pend g i hi;omega)) hN⟩
def Y38.Cv(g:Pg38 b)(y:Y38 b S N):Y38 b (Cv b S) N:=by
 have zr:Z38 b (Own.Cv b S):=by
  refine⟨VD y.z.r,?_⟩;unfold Own.Cv;rcases y.z.st with e|e
  ·left;rw[e];rfl
  ·right;split
   ·next q=>exact⟨e.1,e.2.1,λr=>absurd (show S.sl.dQ=false from r) (by rw[q];simp)⟩
   ·exact⟨e.1,e.2.1,λ_=>rfl⟩
 have ln:S.nmL.length<=S.nm.length:=by
  unfold Pu.nmL;rw[iF,Δ];refine ϕ (List.length_filter_le _ _) ?_;have:=(Η1 (S.nm.map (·.1)) JQ).length_eq;rw[Δ] at this;exact Nat.le_of_eq this
 cases hg:S.sl.dQ with
 | true =>
  have e:Own.Cv b S=⟨S.stk,S.sl,S.ar,S.nw,S.nmL,S.made,S.pend,S.ans,[]⟩:=by unfold Own.Cv;rw[if_pos hg,wF y.z.r.lt]
  rw[e] at zr ⊢;obtain⟨n,h1,h2,h3,h4⟩:=y.mq;have hf:=y.ft;refine⟨zr,⟨y.tk.lt,y.tk.asc,y.tk.la,y.tk.dis,y.tk.nd⟩,⟨n,h1,h2,ϕ ln h3,h4⟩,⟨ϕ ln hf.nm,hf.md,hf.pd,hf.an,ϖ _,(λk ws h=>by cases h),?_,hf.nw,hf.sk,hf.sl⟩⟩;exact⟨λx=>by show cL (bV S.nmL x);rw[pM];exact hf.pl.nm x,hf.pl.ar,hf.pl.an⟩
 | false =>
  have e:Own.Cv b S={eT b with sl:=S.sl}:=by unfold Own.Cv;rw[if_neg (by rw[hg];simp)]
  rw[e] at zr ⊢;have hf:=B6 g.gd g.dp;refine⟨zr,⟨1e0,.nil,1e0,1e0,.nil⟩,⟨0,rfl,Ζ _,Ζ _,ϖ _⟩,{hf.more (ϖ N) with sl:=⟨λk h=>?_,λts h=>?_⟩}⟩
  ·have h:S.sl=.XE k:=h;rw[h] at hg;cases hg
  ·have h:S.sl=.wait ts:=h;rw[h] at hg;cases hg
def iP(x:nJ H a xs)(k:Kp [] H H'):nJ H' a xs:=let ⟨o,d,e⟩:=x;⟨o,d,k.at e⟩
def Fu(k:Kp [] H H')(a:Addr)(xs:List V)(x:cJ K H a xs):cJ K H' a xs:=by
 rcases x with(x|⟨o,x⟩)|x
 ·exact .inl (.inl (k.at x))
 ·exact .inl (.inr ⟨o,k.at x⟩)
 ·exact .inr x
def rJ(H:Hp)(v:V)(S:Pu):Prop:=if S.sl.dQ=true then ∃(p pl pn po pa pt:Addr) (sl:V) (un ua ut:List V),v=.ref p/\H p=some (.tup [sl,.ref pl,wv S.ar,.int S.nw,.ref pn,.int S.made,.ref po,.ref pa,.ref pt])/\iQ H sl S.sl /\
    H pl=some (.tup ((bP S.stk).map V.int))/\nJ H pn un/\eQ H un S.nmS/\H po=some 2e1/\nJ H pa ua/\eQ H ua S.anS/\H pt=some (.tup ut)/\jU H ut S.ltS
  else iQ H v S.sl
def rJ.kp(h:rJ H v S)(k:Kp [] H H'):rJ H' v S:=by
 have T:=aF.nil k;unfold rJ at h ⊢;split at h
 ·next g =>
  rw[if_pos g];obtain⟨p,pl,pn,po,pa,pt,sl,un,ua,ut,e,h1,h2,h3,h4,h5,h6,h7,h8,h9,h10⟩:=h;exact⟨p,pl,pn,po,pa,pt,sl,un,ua,ut,e,k.at h1,h2.kt T,k.at h3,iP h4 k,h5.kt T,k.at h6,iP h7 k,h8.kt T,k.at h9,h10.kt T⟩
 ·next g=>rw[if_neg g];exact h.kt T
theorem rZ{K:q0B}{H:Hp}:∀l:List Int,lD K H 5e1 (l.map V.int)
 | []=>rfl
 | i::l=>⟨_,_,rfl,rfl,rZ l⟩
theorem Dh:∀w:Wo,kK K H (wD w) (wv w)
 | none=>rfl
 | some _=>rfl
theorem Gx{K:q0B}{H:Hp}:∀l:List Wo,lD K H (l.map wD) (l.map wv)
 | []=>rfl
 | w::l=>⟨_,_,rfl,Dh w,Gx l⟩
def iQ.dv(h:iQ H v s):kK K H (Hw s) v:=by
 cases s with
 | XB=>exact h
 | new=>obtain⟨p,rfl,e⟩:=h;exact⟨p,_,rfl,cJ.of e,_,_,rfl,rfl,rfl⟩
 | worn=>obtain⟨p,rfl,e⟩:=h;exact⟨p,_,rfl,cJ.of e,_,_,rfl,rfl,rfl⟩
 | XE k=>obtain⟨p,rfl,e⟩:=h;exact⟨p,_,rfl,cJ.of e,_,_,rfl,rfl,_,_,rfl,rfl,rfl⟩
 | ended w=>obtain⟨p,rfl,e⟩:=h;exact⟨p,_,rfl,cJ.of e,_,_,rfl,rfl,_,_,rfl,Dh w,rfl⟩
 | wait ts=>obtain⟨p,p2,rfl,e,e2⟩:=h;exact⟨p,_,rfl,cJ.of e,_,_,rfl,rfl,_,_,rfl,⟨p2,_,rfl,cJ.of e2,rZ ts⟩,rfl⟩
theorem Hm{K:q0B}{H:Hp}:∀{l:List 5e0} {us:List V},eQ H us (l.map λp=>(.str p.1,wv p.2))->lD K H (l.map λp=>.tup [.str p.1,wD p.2]) us
 | [],_,h=>by cases h;rfl
 | p::l,_,h=>by
  cases h with
  | cons e t=>exact⟨_,_,rfl,⟨_,_,rfl,cJ.of e,_,_,rfl,rfl,_,_,rfl,Dh _,rfl⟩,Hm t⟩
theorem Hl{K:q0B}{H:Hp}:∀{l:List 6e0} {us:List V},eQ H us (l.map λp=>(.int p.1,wv p.2))->lD K H (l.map λp=>.tup [.int p.1,wD p.2]) us
 | [],_,h=>by cases h;rfl
 | p::l,_,h=>by
  cases h with
  | cons e t=>exact⟨_,_,rfl,⟨_,_,rfl,cJ.of e,_,_,rfl,rfl,_,_,rfl,Dh _,rfl⟩,Hl t⟩
theorem LV{K:q0B}{H:Hp}:∀{l:List 6e1} {us:List V},jU H us l->lD K H (l.map λp=>.tup [.str p.1,.tup 7e1]) us
 | [],_,h=>by cases h;rfl
 | p::l,_,h=>by
  cases h with
  | cons e f t=>exact⟨_,_,rfl,⟨_,_,rfl,cJ.of e,_,_,rfl,rfl,_,_,rfl,⟨_,_,rfl,cJ.of f,Gx _⟩,rfl⟩,LV t⟩
def rJ.dv(h:rJ H v S):kK K H (iJ S) v:=by
 unfold rJ at h;unfold iJ;split at h
 ·next g =>
  rw[if_pos g];obtain⟨p,pl,pn,po,pa,pt,sl,un,ua,ut,rfl,h1,h2,h3,h4,h5,h6,h7,h8,h9,h10⟩:=h;exact⟨p,_,rfl,cJ.of h1,_,_,rfl,h2.dv,_,_,rfl,⟨_,_,rfl,cJ.of h3,rZ _⟩,_,_,rfl,Dh _,_,_,rfl,rfl,_,_,rfl,⟨_,_,rfl,h4.sq,Hm (by rw[Pu.nmS,uD] at h5;exact h5)⟩,_,_,rfl,rfl,_,_,rfl,⟨_,_,rfl,cJ.of h6,rZ _⟩,_,_,rfl,⟨_,_,rfl,h7.sq,Hl h8⟩,_,_,rfl,⟨_,_,rfl,cJ.of h9,LV h10⟩,rfl⟩
 ·next g=>rw[if_neg g];exact h.dv
def rJ.sim(h:rJ H v S)(s:Sim S T)(r:X0 b S)(q:X0 b T):rJ H v T:=by
 rcases s with a|⟨e,o⟩
 ·have hn:S.nmS=T.nmS:=by
   have:S.nmL=T.nmL:=Be r.nd q.nd a.nm;unfold Pu.nmS;rw[uD,uD];exact Η5 _ this
  have hl:S.ltS=T.ltS:=by unfold Pu.ltS;rw[r.lt,q.lt]
  have ha:S.anS=T.anS:=by unfold Pu.anS;rw[a.ans]
  unfold rJ at h ⊢;rw[a.sl,a.stk,a.ar,a.nw,a.made,a.pend,hn,hl,ha] at h;exact h
 ·have g:S.sl.dQ=false:=by rcases o with z|⟨w,z⟩<;>rw[z]<;>rfl
  unfold rJ at h ⊢;rw[if_neg (by rw[g];simp)] at h;rw[if_neg (by rw[<- e,g];simp),<- e];exact h
theorem rY(S:Pu):(iJ S).dep<=5:=by
 have wl:∀w:Wo,(wD w).dep=0:=λw=>by cases w<;>rfl
 have i0:∀l:List Int,Dv.eS 5e1=0:=λl=>by induction l with
  | nil=>rfl
  | cons _ _ ih=>simp[Dv.eS,Dv.dep,ih]
 have w0:∀l:List Wo,Dv.eS (l.map wD)=0:=λl=>by induction l with
  | nil=>rfl
  | cons _ _ ih=>simp[Dv.eS,wl,ih]
 have n1:∀l:List 5e0,Dv.eS (l.map λp=>Dv.tup [.str p.1,wD p.2])<=1:=λl=>by induction l with
  | nil=>simp[Dv.eS]
  | cons _ _ ih=>simp only[ϔ,Dv.eS,Dv.dep,wl];omega
 have a1:∀l:List 6e0,Dv.eS (l.map λp=>Dv.tup [.int p.1,wD p.2])<=1:=λl=>by induction l with
  | nil=>simp[Dv.eS]
  | cons _ _ ih=>simp only[ϔ,Dv.eS,Dv.dep,wl];omega
 have l2:∀l:List 6e1,Dv.eS (l.map λp=>Dv.tup [.str p.1,.tup 7e1])<=2:=λl=>by induction l with
  | nil=>simp[Dv.eS]
  | cons _ _ ih=>simp only[ϔ,Dv.eS,Dv.dep,w0];omega
 have s2:∀s:Slp,(Hw s).dep<=2:=λs=>by cases s<;>simp[Hw,Dv.dep,Dv.eS,wl,i0]
 unfold iJ;split
 ·have:=n1 S.nmL;have:=a1 S.ans;have:=l2 S.ltS;have:=s2 S.sl;simp only[Dv.dep,Dv.eS,wl,i0];omega
 ·have:=s2 S.sl;omega
inductive D5(C:Cl)(vs:List V)(H:Hp)(Q:VK)(E:XK):Prop
 | mk (R:Rn) (as:List Addr) (sl:V) (S:Pu) (_:vs=[.ref R.x]) (_:aS C H R as sl S) (_:S.sl.isN=false) (_:S.pend.length < 64) (_:S.nm.length < 64) (_:S.lt.length < 64) (_:S.ans.length<=1000000) (_:(∀k ws,aZ S.lt k=some ws->ws.length<=1000000)) (_:∀(v:V) (H':Hp),rJ H' v S->Kp [] H H'->Q v H'):D5 C vs H Q E
inductive MR(C:Addr)(vs:List V)(H:Hp)(Q:VK)(E:XK):Prop
 | mk (wk wx lb ln pl:Addr) (b:List Stm) (n:Nat) (_:vs=[.ref wk,.ref pl]) (_:hX C H wk wx lb ln [(0,b,0)]) (_:H pl=some (.tup [.int n])) (_:∀H',hX C H' wk wx lb ln [(0,b,n)]->Kp [lb,ln] H H'->Q .XB H'):MR C vs H Q E
theorem Bc:∀(kvs acc:List (Key×V)),((acc++kvs).map (·.1)).Nodup->gS acc kvs=acc++kvs
 | [],acc,_=>by simp[gS]
 | kv::kvs,acc,h=>by
  have e:dS acc kv.1 kv.2=acc++[kv]:=by
   unfold dS;rw[if_neg];intro z;obtain⟨x,hx,e⟩:=Ι3.mp z;rw[Ϙ,List.nodup_append] at h;exact h.2.2 x.1 (Ϝ.mpr ⟨x,hx,rfl⟩) kv.1 0e0 (of_decide_eq_true e)
  have:=Bc kvs (acc++[kv]) 4e1;rw[gS,List.foldl_cons,e];rw[gS] at this;rw[this];simp
def yQ(h:(kvs.map (·.1)).Nodup):gS [] kvs=kvs:=by
 rw[Bc kvs [] 4e1];rfl
theorem Cg{α β γ:Type}{f:α->β}{g:α->γ}(h:∀a b,f a=f b->g a=g b):∀{l:List α},(l.map g).Nodup->(l.map f).Nodup
 | [],_=>by simp
 | a::l,n=>by
  rw[ϔ,Ι6] at n ⊢;refine⟨λz=>n.1 ?_,Cg h n.2⟩;obtain⟨b,hb,e⟩:=Ϝ.mp z;exact Ϝ.mpr ⟨b,hb,h _ _ e⟩
def uP(x:eQ H us ps):∀{kvs:List (Key×V)},ps=kvs.map 4e0->jA H us kvs:=by
 induction x with
 | nil =>
  intro kvs e;cases kvs with
  | nil=>exact⟨rfl,λj x e=>by simp at e⟩
  | cons _ _=>simp at e
 | @cons a x y us ps h _ ih =>
  intro kvs e;cases kvs with
  | nil=>simp at e
  | cons kv kvs =>
   simp only[ϔ,Γ4,Prod.mk.injEq] at e;obtain⟨⟨e1,e2⟩,e3⟩:=e;have:=ih e3;refine⟨by simp[this.1],λj x ej=>?_⟩;cases j with
   | zero=>simp only[Ω,ϒ] at ej;subst ej;exact⟨a,kv.1,kv.2,rfl,by rw[<- e1,<- e2];exact h,rfl⟩
   | succ j=>simpa using this.2 j x (by simpa using ej)
def Jc(l:List 5e0):l.map (λp=>((.str p.1,wv p.2):V×V))=(kJ l).map 4e0:=by
 unfold kJ;rw[Β1];rfl
def Eu(l:List 6e0):l.map (λp=>((.int p.1,wv p.2):V×V))=(hZ l).map 4e0:=by
 unfold hZ;rw[Β1];rfl
def aS.chg{C:Cl}{R R':Rn}{sl:V}{S':Pu}(A:aS C H R [] sl S)(k:∀c o,H c=some o->c≠R.x->c≠R.tk->H' c=some o)(x1:R'.x=R.x)(x2:R'.wk=R.wk)(x3:R'.wx=R.wx)(x4:R'.lb=R.lb)(x5:R'.ln=R.ln)(x6:R'.tk=R.tk)(e1:S'.stk=S.stk)(e2:S'.sl=S.sl)(e3:S'.lt=[])(hi:H' R'.x=some (.ins C.r R'.dx [("walk",.ref R'.wk),("sleep",sl),("arg",wv S'.ar),("now",.int S'.nw),("names",.ref R'.nm),("tickets",.ref R'.tk),("letters",.ref R'.lt)]))(ht:iW C.t H' R'.tk R'.tx R'.dp R'.da S'.made S'.pend S'.ans)(hn:H' R'.nm=some (.dK (kJ S'.nm)))(hl:H' R'.lt=some (.dK []))(n1:R'.nm≠R'.dp)(n2:R'.nm≠R'.da)(n3:R'.nm≠R'.lt)(n4:R'.lt≠R'.dp)(n5:R'.lt≠R'.da):aS C H' R' [] sl S':=by
 have ni:∀{c:Addr} {o:HO},H c=some o->(∀D y fs,o≠.ins D y fs)->H' c=some o:=λe h=>k _ _ e (bU e A.ins (h _ _ _)) (bU e A.tk.ins (h _ _ _));have kt:aF H H':=λa xs h=>ni h 0e0;obtain⟨vs,eb,hB⟩:=A.wk.bl;refine⟨hi,by rw[e2];exact A.slp.kt kt,?_,ht,hn,⟨[],hl,by rw[e3];exact .nil⟩,List.nodup_nil,1e0,by rw[x1,x2];exact A.xw,by rw[x1,x6];exact A.xt,by rw[x2,x6];exact A.wt,n1,n2,n3,n4,n5⟩;rw[x2,x3,x4,x5,e1];exact⟨k _ _ A.wk.ins A.xw.symm A.wt,⟨vs,ni eb 0e0,hB.kp kt⟩,ni A.wk.nu 0e0,A.wk.ne,A.wk.Zu⟩
theorem iQ.short(h:iQ H v s)(n:s.isN=false)(g:s.dQ=false):∃(p:Addr) (s0:Str) (r0:List V),v=.ref p/\H p=some (.tup (.str s0::r0))/\Ag (.str s0) (List.map V.str ["new","ended","worn"])=true:=by
 cases s with
 | XB=>cases n
 | wait _=>cases g
 | XE _=>cases g
 | new=>obtain⟨p,rfl,e⟩:=h;exact⟨p,_,_,rfl,e,by decide +kernel⟩
 | ended w=>obtain⟨p,rfl,e⟩:=h;exact⟨p,_,_,rfl,e,by decide +kernel⟩
 | worn=>obtain⟨p,rfl,e⟩:=h;exact⟨p,_,_,rfl,e,by decide +kernel⟩
def iQ.tup(h:iQ H v s)(n:s.isN=false):∃(p:Addr) (xs:List V),v=.ref p/\H p=some (.tup xs):=by
 cases s with
 | XB=>cases n
 | wait _=>obtain⟨p,_,e,h,_⟩:=h;exact⟨p,_,e,h⟩
 | _=>obtain⟨p,e,h⟩:=h;exact⟨p,_,e,h⟩
inductive Nc(K:q0B)(vs:List V)(H:Hp)(Q:VK)(E:XK):Prop
 | mk (v:V) (b:List Stm) (S:Pu) (_:vs=[v]) (_:rJ H v S) (_:Z38 b S) (_:∀(q:Addr) (H':Hp),Kp [] H H'->H' q=some 2e1->Q (.ref q) H'):Nc K vs H Q E
def FJ{N:List Str}{o:List Env}{s:Shared}:(xI CX P w K mg base N q sc f cd A o s H E).prog=P:=rfl
def rC{N:List Str}{o:List Env}{s:Shared}:(xI CX P w K mg base N q sc f cd A o s H E).w=w:=rfl
theorem Bk(val:Nat->Key)(k:Key):∀n,k∈g9 val n↔∃i,i < n/\val i=k
 | 0=>by simp[g9]
 | n+1=>by
  have ih:=Bk val k n;rw[g9];constructor
  ·intro h;split at h
   ·obtain⟨i,a,b⟩:=ih.mp h;exact⟨i,by omega,b⟩
   ·rcases Υ.mp h with h|h
    ·obtain⟨i,a,b⟩:=ih.mp h;exact⟨i,by omega,b⟩
    ·exact⟨n,by omega,(Τ.mp h).symm⟩
  ·rintro⟨i,a,b⟩;by_cases c:i < n
   ·have:=ih.mpr ⟨i,c,b⟩;split
    ·exact this
    ·exact Ε4 _ this
   ·have:i=n:=by omega
    subst this;subst b;split
    ·assumption
    ·simp
theorem DI(val:Nat->Key):∀n,(g9 val n).Nodup
 | 0=>by simp[g9]
 | n+1=>by
  have ih:=DI val n;rw[g9];split
  ·exact ih
  ·next h=>exact List.nodup_append.mpr ⟨ih,by simp,λa ha b hb e=>h (by rw[<- Τ.mp hb,<- e];exact ha)⟩
def Bj{ks:List Key}{k:Key}:k∈g8 ks↔k∈ks:=by
 unfold g8;rw[Bk];constructor
 ·rintro⟨i,a,b⟩;rw[Δ0,Μ a] at b;exact b▸Κ5 a
 ·intro h;obtain⟨i,a,b⟩:=List.mem_iff_getElem.mp h;exact⟨i,a,by rw[Δ0,Μ a];exact b⟩
def Mj(ks:List Key):(g8 ks).Nodup:=DI _ _
def Jl(ks:List Key):(g8 ks).length<=ks.length:=uL _ _
theorem Ge:∀{ks:List Key},(∀k∈ks,∃i,k=Key.inl i)->∃ns:List Int,ks=ns.map Key.inl
 | [],_=>⟨[],rfl⟩
 | k::ks,h=>by
  obtain⟨i,rfl⟩:=h k 0e0;obtain⟨ns,rfl⟩:=Ge (ks:=ks) λx hx=>h x (Ξ _ hx);exact⟨i::ns,rfl⟩
def lV(ns:List Int):∃us:List Int,g8 3e0=us.map Key.inl/\us.Nodup/\(∀i,i∈us↔i∈ns)/\us.length<=ns.length:=by
 obtain⟨us,e⟩:=Ge (ks:=g8 3e0) λk hk=>by
  obtain⟨i,_,rfl⟩:=Ϝ.mp (Bj.mp hk);exact⟨i,rfl⟩
 have nd:=Mj 3e0;have ln:=Jl 3e0;rw[e] at nd ln;refine⟨us,e,(List.pairwise_map.mp nd).imp λh z=>h (by rw[z]),λi=>?_,by simpa using ln⟩;have:=Bj (ks:=ns.map Key.inl) (k:=.inl i);rw[e] at this;simpa using this
theorem oR{i:Int}:∀{l:List Int},i∈Jz l↔i∈l
 | []=>by simp[Jz]
 | j::l=>by
  have ih:=oR (i:=i) (l:=l);show i∈Aq j (Jz l)↔_;rw[sN,ih,Ε]
theorem sY:∀l:List Int,(Jz l).Pairwise (· < ·)
 | []=>.nil
 | j::l=>yG (sY l)
theorem q9{l us ns:List Int}(hp:ns.Perm us)(nd:us.Nodup)(hm:∀i,i∈us↔i∈l)(hs:ns.Pairwise (·<=·)):ns=Jz l:=by
 refine oV (hp.trans ?_) hs (sY l);exact(List.perm_ext_iff_of_nodup nd ((sY l).imp λh=>by omega)).mpr λj=>by rw[hm,oR]
theorem Og(n:S.sl.isN=false):∃l,iJ S=.tup l/\decide (l=[.str "new"])=S.sl.isNew/\Dv.eS l<=20:=by
 have hd:=rY S;unfold iJ at hd ⊢;cases hS:S.sl with
 | XB=>rw[hS] at n;cases n
 | new=>exact⟨_,rfl,by simp[Slp.isNew],by simp[Dv.eS,Dv.dep]⟩
 | worn=>exact⟨_,rfl,by simp only[Slp.isNew,Γ4,Dv.str.injEq,and_true,gD,decide_eq_false_iff_not];decide,by simp[Dv.eS,Dv.dep]⟩
 | ended w=>exact⟨_,rfl,by simp[Slp.isNew],by cases w<;>simp[Dv.eS,Dv.dep,wD]⟩
 | wait ts =>
  have g:(Slp.wait ts).dQ=true:=rfl;rw[hS,if_pos g] at hd;rw[if_pos g];exact⟨_,rfl,by simp[Slp.isNew],by simp only[Dv.dep] at hd;omega⟩
 | XE k =>
  have g:(Slp.XE k).dQ=true:=rfl;rw[hS,if_pos g] at hd;rw[if_pos g];exact⟨_,rfl,by simp[Slp.isNew],by simp only[Dv.dep] at hd;omega⟩
def jE{α β:Type}(f:α->List β)(l:List α)(i:Nat){x:α}(h:l[i]?=some x):(l.take (i+1)).flatMap f=(l.take i).flatMap f++f x:=by
 rw[Α6,h];simp
inductive D4(K:q0B)(C:Cl)(vs:List V)(H:Hp)(Q:VK)(E:XK):Prop
 | mk (R:Rn) (v:V) (_:vs=[.ref R.x,v]) (_:((∃(as:List Addr) (sl:V) (S:Pu) (h:Hap),aS C H R as sl S/\S.sl.isN=false/\pV H v h/\∀H',Kp [] H H'->Q (.bl (S.over h)) H')\/∃(p:Addr) (m:Int) (w:Wo),H R.x=some 1e1/\cJ K H p [.str "new"]/\pV H v 7e0/\Q (.bl false) H)):D4 K C vs H Q E
inductive HB(C:Cl)(wt:Bool)(vs:List V)(H:Hp)(Q:VK)(E:XK):Prop
 | mk (R:Rn) (as:List Addr) (sl:V) (S:Pu) (N:Nat) (_:vs=[.ref R.x]) (_:H R.x=some (iE C.r R sl S.ar S.nw)) (_:aS C (Xz H R.x (iE C.r R .XB S.ar S.nw)) R as .XB {S with sl:=.XB}) (_:XN wt {S with sl:=.XB} N) (_:N<=800000) (_:Told C R as as H Q (b8 300 {S with sl:=.XB})):HB C wt vs H Q E
structure TX(K:q0B)(C:Cl)(H:Hp)(R:Rn)(p:Addr)(b:List Stm):Prop where
 ins:H R.x=some 1e1
 sq:cJ K H p [.str "new"]
 ru:aS C (Xz H R.x (iE C.r R .XB none 0)) R [] .XB {eT b with sl:=.XB}
inductive Bz(K:q0B)(C:Cl)(wt:Bool)(vs:List V)(H:Hp)(Q:VK)(E:XK):Prop
 | mk (R:Rn) (v:V) (_:vs=[.ref R.x,v]) (_:((∃(as:List Addr) (sl:V) (S:Pu) (h:Hap) (N:Nat),aS C H R as sl S/\XN wt S N/\N<=500000/\S.sl.isN=false/\pV H v h/\9e0/\∀X7,JS C R as X7 H Q (S.take h))\/∃(p:Addr) (b:List Stm) (m:Int) (w:Wo),TX K C H R p b/\XN wt (eT b) 0/\pV H v 7e0/\((0<=m/\m<=1000000000000)/\cL w)/\JS C R [] [] H Q ((eT b).take 7e0))):Bz K C wt vs H Q E
inductive MY(K:q0B)(C:Cl)(vs:List V)(H:Hp)(Q:VK)(E:XK):Prop
 | mk (pg:Addr) (v:V) (us:List V) (b:List Stm) (_:vs=[.ref pg,v]) (_:H pg=some (.tup us)) (_:aW H us b) (_:((∃S:Pu,rJ H v S/\Z38 b S/\kY S/\S.made<=1000000/\S.pend.length<=1000/\∀(R:Rn) (sl:V) (H':Hp),aS C H' R [] sl (Cv b S)->Kp [] H H'->(∀a∈R.cells,H a=none)->Q (.ref R.x) H')\/∃p:Addr,v=.ref p/\cJ K H p [.str "new"]/\∀(R:Rn) (H':Hp),TX K C H' R p b->Kp [] H H'->(∀a∈R.cells,H a=none)->Q (.ref R.x) H')):MY K C vs H Q E
def JP(K:q0B)(H:Hp)(v:V)(b:List Stm)(S:Pu):Prop:=rJ H v S\/(S=eT b/\∃p,v=.ref p/\cJ K H p [.str "new"])
def JP.dv(h:JP K H v b S):kK K H (iJ S) v:=by
 rcases h with h|⟨rfl,p,rfl,h⟩
 ·exact h.dv
 ·exact⟨p,_,rfl,h,_,_,rfl,rfl,rfl⟩
def JP.kp(h:JP K H v b S)(k:Kp [] H H'):JP K H' v b S:=by
 rcases h with h|⟨e,p,e2,h⟩
 ·exact .inl (h.kp k)
 ·exact .inr ⟨e,p,e2,Fu k _ _ h⟩
inductive HI(K:q0B)(C:Cl)(vs:List V)(H:Hp)(Q:VK)(E:XK):Prop
 | mk (pg:Addr) (v hv:V) (us:List V) (b:List Stm) (S:Pu) (N:Nat) (h:Hap) (_:vs=[.ref pg,v,hv]) (_:H pg=some (.tup us)) (_:aW H us b) (_:Pg38 b) (_:JP K H v b S) (_:Y38 b S N) (_:N<=400000) (_:pV H hv h) (_:h.nl=true) (_:9e0) (_:(S=eT b->∃w,h=.XS 0 w)) (_:∀(t cl:Addr) (cs:List V) (v':V) (H':Hp),H' t=some (.tup [.ref cl,v'])->H' cl=some (.lst cs)->kX H' cs (S.take h).2->rJ H' v' (S.take h).1->Kp [] H H'->Q (.ref t) H'):HI K C vs H Q E
inductive MS(K:q0B)(vs:List V)(H:Hp)(Q:VK)(E:XK):Prop
 | mk (v1 v2:V) (wl kl:Addr) (b c:List Stm) (S U:Pu) (N M:Nat) (ws:List Wo) (_:vs=[v1,v2,.ref wl,.ref kl]) (_:Pg38 b) (_:Pg38 c) (_:JP K H v1 b S) (_:(S.sl.isNew=false->rJ H v2 U)) (_:Y38 b S N) (_:Y38 c U M) (_:H wl=some (.lst (ws.map wv))) (_:ws.length<=100) (_:H kl=some (.lst [])) (_:∀(l:Addr) (us:List V) (H':Hp),H l=none->Kp [] H H'->H' l=some (.lst us)->cD H' us (dM ws S U)->Q (.ref l) H'):MS K vs H Q E
def vA(p:Dv×Dv):Dv:=.tup [p.1,p.2]
def mQ(G G':Hp):Prop:=∀d o,G d=some o->(∀xs,o≠.lst xs)->(∀φ,o≠.ext φ)->G' d=some o
def mQ.of(k:Kp [] G G'):mQ G G':=λ_ _ e _ _=>k.at e
def mQ.trans{G'':Hp}(k:mQ G G')(k':mQ G' G''):mQ G G'':=λd o e h1 h2=>k' d o (k d o e h1 h2) h1 h2
def mQ.lst{ys:List V}(e:G a=some (.lst xs)):mQ G (Xz G a (.lst ys)):=λd o ed h _=>by
 rw[aC 8e0];exact ed
def mQ.met{ks':List (Dv×Addr)}(e:G a=some (fV P w a ks)):mQ G (Xz G a (fV P w a ks')):=λd o ed _ h=>by
 rw[aC 8e0];exact ed
def mQ.tup(k:mQ G G'):aF G G':=λa xs e=>k a _ e 0e0 0e0
def mQ.sq(k:mQ G G')(a:Addr)(xs:List V)(x:cJ K G a xs):cJ K G' a xs:=by
 rcases x with(x|⟨o,x⟩)|x
 ·exact .inl (.inl (k _ _ x 0e0 0e0))
 ·exact .inl (.inr ⟨o,k _ _ x 0e0 0e0⟩)
 ·exact .inr x
def rJ.kn(h:rJ H v S)(k:mQ H H'):rJ H' v S:=by
 have T:=k.tup;have kf:∀{a xs},nJ H a xs->nJ H' a xs:=fun⟨o,d,e⟩=>⟨o,d,k _ _ e 0e0 0e0⟩;unfold rJ at h ⊢;split at h
 ·next g =>
  rw[if_pos g];obtain⟨p,pl,pn,po,pa,pt,sl,un,ua,ut,e,h1,h2,h3,h4,h5,h6,h7,h8,h9,h10⟩:=h;exact⟨p,pl,pn,po,pa,pt,sl,un,ua,ut,e,T _ _ h1,h2.kt T,T _ _ h3,kf h4,h5.kt T,T _ _ h6,kf h7,h8.kt T,T _ _ h9,h10.kt T⟩
 ·next g=>rw[if_neg g];exact h.kt T
def JP.kn(h:JP K H v b S)(k:mQ H H'):JP K H' v b S:=by
 rcases h with h|⟨e,p,e2,h⟩
 ·exact .inl (h.kn k)
 ·exact .inr ⟨e,p,e2,k.sq _ _ h⟩
def mS(m:gY P w K H a ks)(k:mQ H H')(e:H' a=H a):gY P w K H' a ks :=
 ⟨e.trans m.at_,λx hx=>⟨(m.ky x hx).1,(m.ky x hx).2.kt k.sq⟩⟩
def wR(K:q0B)(H:Hp)(b c:List Stm)(v:V)(l:Addr)(row:List Hap):Prop:=∃(t:Addr) (us:List V) (v1 v2:V),v=.ref t/\H t=some (.tup [.ref l,v1,v2])/\H l=some (.lst us)/\cD H us row/\JP K H v1 b 9e1/\JP K H v2 c 8e1/\(row≠[]->rJ H v1 9e1/\rJ H v2 8e1)
def wR.kn(x:wR K H b c v l row)(k:mQ H H')(kl:H' l=H l):wR K H' b c v l row:=by
 obtain⟨t,us,v1,v2,e,h1,h2,h3,h4,h5,h6⟩:=x;exact⟨t,us,v1,v2,e,k.tup _ _ h1,kl.trans h2,h3.kt k.tup,h4.kn k,h5.kn k,λz=>⟨(h6 z).1.kn k,(h6 z).2.kn k⟩⟩
inductive dN(K:q0B)(H:Hp)(b c:List Stm):List V->List Addr->List (List Hap)->Prop
 | nil:dN K H b c [] [] []
 | cons {v:V} {l:Addr} {row:List Hap} {vs:List V} {ls:List Addr} {rows:List (List Hap)}:wR K H b c v l row->dN K H b c vs ls rows->dN K H b c (v::vs) (l::ls) (row::rows)
end
section
mutual
example:=[]
def dN.kn(x:dN K H b c vs ls rows)(k:mQ H H')(kl:∀l∈ls,H' l=H l):dN K H' b c vs ls rows:=by
 induction x with
 | nil=>exact .nil
 | cons a _ ih=>exact .cons (a.kn k (kl _ (by simp))) (ih λl hl=>kl l (Ξ _ hl))
def dN.ex(x:dN K H b c vs ls rows):∀l∈ls,∃us,H l=some (.lst us):=by
 induction x with
 | nil=>intro l h;cases h
 | cons a _ ih =>
  intro l h;rcases Ε.mp h with rfl|h
  ·obtain⟨_,us,_,_,_,_,e,_⟩:=a;exact⟨us,e⟩
  ·exact ih l h
def dN.kp(x:dN K H b c vs ls rows)(k:Kp [] H H'):dN K H' b c vs ls rows:=x.kn (.of k) λl hl=>by
 obtain⟨us,e⟩:=x.ex l hl;rw[e,k.at e]
def dN.snoc{v:V}{l:Addr}{row:List Hap}(x:dN K H b c vs ls rows)(y:wR K H b c v l row):dN K H b c (vs++[v]) (ls++[l]) (rows++[row]):=by
 induction x with
 | nil=>exact .cons y .nil
 | cons a _ ih=>exact .cons a ih
def dN.len(x:dN K H b c vs ls rows):vs.length=rows.length:=by
 induction x with
 | nil=>rfl
 | cons _ _ ih=>simp[ih]
def dN.at(x:dN K H b c vs ls rows):∀{i:Nat} {v:V},vs[i]?=some v->∃l row,l∈ls/\rows[i]?=some row/\wR K H b c v l row:=by
 induction x with
 | nil=>intro i v e;simp at e
 | cons a _ ih =>
  intro i v e;cases i with
  | zero=>simp only[Ω,ϒ] at e;subst e;exact⟨_,_,by simp,rfl,a⟩
  | succ i =>
   obtain⟨l,row,h1,h2,h3⟩:=ih (i:=i) (by simpa using e);exact⟨l,row,Ξ _ h1,by simpa using h2,h3⟩
end
end
mutual
example:=[aft c row,aft b row,List Hap,.on met [],.lst us,YE b c,Dv×Dv,302 * row.length,fr.take j,(by simp),(by omega),.tup us,some i,(ks.any λk=>decide (k.1=.tup [d1,d2])),(λx=>row++[x]),some (i+2),Addr×Addr,row::rows,(by decide)]
def Gd.ne(g:Gd b c ws row):row≠[]:=by
 induction g with
 | one=>simp
 | snoc=>simp
def bB(i:Nat):Nat:=10 ^ (i - 1)
def bM:Nat->Nat
 | 0=>0
 | i+1=>bM i+bB (i+1)
theorem J9:∀{i:Nat},i<=8->bM i<=11111111/\bB i<=10000000:=λ{i} h=>by
 have:∀i:Fin 9,bM i<=11111111/\bB i<=10000000:=by decide +kernel
 exact this ⟨i,by omega⟩
def rH(b c:List Stm)(ws:List Wo)(row:List Hap):Prop:=row=[]\/(Gd b c ws row/\LQ b c row)
theorem SO(g:Pg38 b)(gc:Pg38 c)(hw:∀w∈ws,cL w)(h:Gd b c ws row)(hl:row.length<=100):Y38 b 1e0 7e0/\Y38 c 0e0 7e0:=by
 induction h with
 | @one w e =>
  have hww:=hw w (List.mem_of_head? e);exact⟨(Y38.new g).take g (h:=.XS 0 w) rfl ⟨Θ7 _,(show(0:Int)<=1000000000000 by decide)⟩ hww 8e1,(Y38.new gc).take gc (h:=.XS 0 w) rfl ⟨Θ7 _,(show(0:Int)<=1000000000000 by decide)⟩ hww 8e1⟩
 | @snoc row i w _ _ _ hm ih =>
  rw[Ι,Α1] at hl ⊢;have ih:=ih 0e1;rw[dG,dG,show 302 * (row.length+1)=302 * row.length+302 by omega];exact⟨ih.1.take g (h:=.don 0 i w) rfl ⟨Θ7 _,(show(0:Int)<=1000000000000 by decide)⟩ (hw w hm) 0e1,ih.2.take gc (h:=.don 0 i w) rfl ⟨Θ7 _,(show(0:Int)<=1000000000000 by decide)⟩ (hw w hm) 0e1⟩
def rH.y(g:Pg38 b)(gc:Pg38 c)(hw:∀w∈ws,cL w)(h:rH b c ws row)(hl:row.length<=100):Y38 b 1e0 7e0/\Y38 c 0e0 7e0:=by
 rcases h with rfl|h
 ·exact⟨Y38.new g,Y38.new gc⟩
 ·exact SO g gc hw h.1 hl
def rH.new(g:Pg38 b)(gc:Pg38 c)(h:rH b c ws row):(aft b row).sl.isNew=true↔row=[]:=by
 rcases h with rfl|h
 ·exact⟨λ_=>rfl,λ_=>rfl⟩
 ·have r:=(h.1.z g.nb gc.nb).1.2.2.1;constructor
  ·intro e;cases hs:(aft b row).sl<;>rw[hs] at e r<;>first|exact absurd rfl r|cases e
  ·intro z;exact absurd z h.1.ne
def rH.next(g:Pg38 b)(gc:Pg38 c)(h:rH b c ws row){x:Hap}(hx:x∈dM ws 1e0 0e0):Gd b c ws (row++[x])/\x.nl=true/\x.m=0/\x.w∈ws/\(row=[]->∃w,x=.XS 0 w):=by
 rcases h with rfl|h
 ·have e:dM ws (aft b []) (aft c [])=(ws.take 1).map (Hap.XS 0):=rfl;rw[e] at hx;cases ws with
  | nil=>simp at hx
  | cons w r =>
   simp only[List.take_succ_cons,List.take_zero,ϔ,Ζ4,Τ] at hx;subst hx;exact⟨.one rfl,rfl,rfl,by simp[Hap.w],λ_=>⟨w,rfl⟩⟩
 ·rw[h.1.LA g.nb gc.nb] at hx;obtain⟨i,hi,hx⟩:=Κ4.mp hx;obtain⟨w,hw,rfl⟩:=Ϝ.mp hx;exact⟨.snoc h.1 h.2 hi hw,rfl,rfl,hw,λz=>absurd z h.1.ne⟩
def pY(H:Hp)(v:V):Res->Prop
 | .parts row=>∃(t l:Addr) (us:List V),v=.ref t/\H t=some (.tup [.str "parts",.ref l])/\H l=some 4e0/\cD H us row
 | .never n=>∃t,v=.ref t/\H t=some (.tup [.str "never",.int n])
 | .no=>∃t,v=.ref t/\H t=some (.tup [.str "none"])
theorem Ho{U:Pu}{M:Nat}(g:Pg38 b)(gc:Pg38 c)(y:Y38 b S N)(z:Y38 c U M)(hb:b.length<=5)(hc:c.length<=5):(gB S U).length<=5:=by
 have:=BM (sY (S.pend++U.pend)) (a:=0) (c:=5) λi hi=>by
  obtain⟨n,_,h1,_,h3⟩:=y.mq;obtain⟨m,_,h4,_,h6⟩:=z.mq;rcases Υ.mp (oR.mp hi) with h|h
  ·have:=y.tk.lt i h;omega
  ·have:=z.tk.lt i h;omega
 unfold gB;omega
theorem nY{α β:Type}{f:α->List β}{m:Nat}:∀{l:List α},(∀x∈l,(f x).length<=m)->(l.flatMap f).length<=l.length * m
 | [],_=>by simp
 | x::l,h=>by
  have:=nY (l:=l) λy hy=>h y (Ξ _ hy);have:=h x 9e0;rw[List.flatMap_cons,Ι,Κ,Nat.add_mul];omega
theorem yJ(g:Pg38 b)(gc:Pg38 c)(hw:∀w∈ws,cL w)(hb:b.length<=5)(hc:c.length<=5)(lw:ws.length<=2){i:Nat}(hi:i<=8)(h:∀r∈fr,rH b c ws r/\r.length=i)(hl:fr.length<=bB i):(dU b c ws fr).length<=bB (i+1):=by
 unfold dU;cases i with
 | zero =>
  have:=nY (f:=λrow=>(dM ws 1e0 0e0).map λx=>row++[x]) (m:=1) (l:=fr) λr hr=>by
   have e:r=[]:=Ζ7.mp (h r hr).2;rw[e,Δ,show dM ws (aft b []) (aft c [])=(ws.take 1).map (Hap.XS 0) from rfl,Δ,Α0];omega
  have:bB 0=1:=rfl;have:bB (0+1)=1:=rfl;omega
 | succ i =>
  have:=nY (f:=λrow=>(dM ws 1e0 0e0).map λx=>row++[x]) (m:=10) (l:=fr) λr hr=>by
   have ok:=(h r hr).1;have y:=ok.y g gc hw (by have:=(h r hr).2;omega);rcases ok with rfl|ok
   ·have:=(h _ hr).2;simp at this
   ·rw[Δ,ok.1.LA g.nb gc.nb];have l5:=Ho g gc y.1 y.2 hb hc;have:=nY (f:=λk=>ws.map (Hap.don 0 k)) (m:=2) (l:=gB (aft b r) (aft c r)) λ_ _=>by rw[Δ];exact lw
    omega
  have e:bB (i+1+1)=10 * bB (i+1):=by
   show 10 ^ (i+1)=10 * 10 ^ i;rw[Nat.pow_succ];omega
  omega
theorem vU{met:List 6e0}{d1 d2:Dv}(h:ks.map (·.1)=met.map vA):3e1=decide ((d1,d2)∈met):=by
 have e:3e1=(ks.map (·.1)).any λd=>decide (d=.tup [d1,d2]):=by rw[List.any_map];rfl
 rw[e,h,List.any_map,Γ5,Ι3,Ζ8];constructor
 ·rintro⟨p,hp,z⟩;have z:vA p=.tup [d1,d2]:=of_decide_eq_true z;unfold vA at z;simp only[Dv.tup.injEq,Γ4,and_true] at z;rw[<- z.1,<- z.2];exact hp
 ·intro hp;exact⟨(d1,d2),hp,Ε1 rfl⟩
def AS{met XH:List 6e0}{pre acB:List 2e0}{r:List Hap}(e:acB=pre++[r])(h:pre.foldl 5e0 3e0=.on XH lg):acB.foldl 5e0 3e0=YE b c (.on XH lg) r:=by
 rw[e,List.foldl_append,h];rfl
def Tv{j k:Nat}{x:Hap}(_:fr[j]?=some row)(e:(dM ws 1e0 0e0)[k]?=some x):dU b c ws 8e0++((dM ws 1e0 0e0).take (k+1)).map 4e1=(dU b c ws 8e0++((dM ws 1e0 0e0).take k).map λx=>row++[x])++[row++[x]]:=by
 rw[Α6,e];simp
def Hs{j k:Nat}{x:Hap}(er:fr[j]?=some row)(e:(dM ws 1e0 0e0)[k]?=some x):∃post,dU b c ws fr=(dU b c ws 8e0++((dM ws 1e0 0e0).take k).map λx=>row++[x])++(row++[x])::post:=by
 have h1:fr=fr.take j++row::fr.drop (j+1):=by
  have:=List.take_append_drop j fr;rw[Θ1 (Λ.mp er).1,(Λ.mp er).2] at this;exact this.symm
 have h2:dM ws 1e0 0e0=(dM ws 1e0 0e0).take k++x::(dM ws 1e0 0e0).drop (k+1):=by
  have:=List.take_append_drop k (dM ws 1e0 0e0);rw[Θ1 (Λ.mp e).1,(Λ.mp e).2] at this;exact this.symm
 refine⟨((dM ws 1e0 0e0).drop (k+1)).map 4e1++dU b c ws (fr.drop (j+1)),?_⟩
 conv=>lhs;rw[h1]
 unfold dU;rw[List.flatMap_append,List.flatMap_cons]
 conv=>lhs;rw[h2]
 simp
theorem ME{j k:Nat}(er:fr[j]?=some row)(hk:k < (dM ws 1e0 0e0).length):(dU b c ws 8e0).length+k+1<=(dU b c ws fr).length:=by
 obtain⟨post,e⟩:=Hs (b:=b) (c:=c) (ws:=ws) er (Μ hk);rw[e];simp only[Ι,Δ,Α0,Κ];omega
def DP(n:Nat){pre:List 2e0}{r:List Hap}{met XH:List 6e0}(h:∃post,rows=pre++r::post)(e:pre.foldl 5e0 3e0=.on XH lg)(nq:¬ LQ b c r):rnd b c ws (n+1) rows met=.parts r:=by
 obtain⟨post,rfl⟩:=h;unfold rnd;rw[List.foldl_append,e,List.foldl_cons,rA,if_neg nq,pJ]
def Hr{met XH:List 6e0}(e:rows.foldl 5e0 3e0=.on XH lg)(h:lg=[]):rnd b c ws (n+1) rows met=.never XH.length:=by
 unfold rnd;rw[e];simp only[h,if_true]
def MD{met XH:List 6e0}(e:rows.foldl 5e0 3e0=.on XH lg)(h:lg≠[]):rnd b c ws (n+1) rows met=rnd b c ws n (dU b c ws lg) XH:=by
 conv=>lhs;unfold rnd
 rw[e];simp only[if_neg h]
inductive MX(P:Program)(w:World)(K:q0B)(vs:List V)(H:Hp)(Q:VK)(E:XK):Prop
 | mk (p1 p2 wl kl:Addr) (X5 X4:List V) (b c:List Stm) (ws:List Wo) (n:Nat) (_:vs=[.ref p1,.ref p2,.ref wl,.ref kl,.int n]) (_:H p1=some (.tup X5)) (_:aW H X5 b) (_:H p2=some (.tup X4)) (_:aW H X4 c) (_:Pg38 b) (_:Pg38 c) (_:b.length<=5) (_:c.length<=5) (_:H wl=some (.lst (ws.map wv))) (_:ws.length<=2) (_:(∀w∈ws,cL w)) (_:H kl=some (.lst [])) (_:n<=8) (_:∀(v:V) (H':Hp),pY H' v (rnd b c ws n (dU b c ws [[]]) [])->Kp [] H H'->Q v H'):MX P w K vs H Q E
inductive HH(vs:List V)(H:Hp)(Q:VK)(E:XK):Prop
 | mk (r:Addr) (_:vs=[.ref r]) (_:dX H r) (_:∀(v:V) (x:Stm) (H':Hp),cI H' v x->x.gd true->x.dp=0->dX H' r->Kp [r] H H'->Q v H'):HH vs H Q E
inductive HA(vs:List V)(H:Hp)(Q:VK)(E:XK):Prop
 | mk (cl:Addr) (ms:List Int) (_:vs=[.ref cl]) (_:H cl=some (.lst (ms.map V.int))) (_:ms.length<=63) (_:∀(p:Addr) (us:List V) (b:List Stm) (H':Hp),H' p=some 1e1->aW H' us b->(∀x∈b,x.gd true/\x.dp=0)->b.length<=ms.length->Kp [] H H'->Q (.ref p) H'):HA vs H Q E
def Rz(h:x.dp=0):x.isB=false:=by
 cases x<;>first|rfl|(simp[Stm.dp] at h)
theorem Hj(h:∀x∈b,x.gd true/\x.dp=0)(l:b.length<=20):Pg38 b:=by
 refine⟨λm hm=>Rz (h m hm).2,?_,?_,l⟩
 ·clear l
  induction b with
  | nil=>simp only[Ap]
  | cons m b ih=>simp only[Ap];exact⟨(h m 9e0).1,ih λx hx=>h x (Ξ _ hx)⟩
 ·clear l;have:Ao b=0:=by
   induction b with
   | nil=>rfl
   | cons m b ih=>simp only[Ao];rw[(h m 9e0).2,ih λx hx=>h x (Ξ _ hx)];rfl
  omega
def Wc(x:Stm):Prop:=x.gd true/\x.dp=0
theorem Ku(h0:0<=i)(h1:i < us.length):(fK us none 2e1).length=i.toNat/\(fK us (some (i+1)) none).length=us.length - i.toNat - 1/\(fK us 2e1 none).length=us.length - i.toNat/\(fK us 2e1 5e1).length=min 2 (us.length - i.toNat)/\(fK us 5e1 none).length=us.length - i.toNat - 2:=by
 obtain⟨k,rfl⟩:∃k:Nat,i=(k:Int):=⟨i.toNat,by omega⟩;unfold fK;rw[show(k:Int)+1=((k+1:Nat):Int) by omega,show(k:Int)+2=((k+2:Nat):Int) by omega];simp only[HT.wN,HT.MF,Α0,List.length_drop,Ε5];omega
inductive Hy(vs:List V)(H:Hp)(Q:VK)(E:XK):Prop
 | mk (pg:Addr) (us:List V) (b:List Stm) (c:Int) (_:vs=[.ref pg,.int c]) (_:H pg=some 1e1) (_:aW H us b) (_:(∀m∈b,Wc m)) (_:b.length<=100) (_:∀(p:Addr) (us:List V) (b':List Stm) (H':Hp),H' p=some 1e1->aW H' us b'->(∀m∈b',Wc m)->b'.length<=b.length+1->Kp [] H H'->Q (.ref p) H'):Hy vs H Q E
def look1n{k2 z:Str}{a2 c:Addr}{r:List (Str×Addr)}(e:List.lookup k r=some a)(e2:List.lookup k2 r=some a2)(h:List.lookup z [(k,a),(k2,a2)]=some c):List.lookup z r=some c:=by
 simp only[List.lookup] at h;split at h
 ·next hz=>rw[eq_of_beq hz];rw[<- h];exact e
 ·split at h
  ·next hz=>rw[eq_of_beq hz];rw[<- h];exact e2
  ·cases h
def Pb{X:Cx}{k:Nat}(K:q0B)(hK:X.K=K)(n:Nat)(hn:n<=60)(hr:Room k X.A):i9 X (compareOp .Eq) (Rf K n):=by
 rw[<- hK];exact y6 n (nF hr hn)
inductive jB(G:Hp):List Addr->List 2e0->Prop
 | nil:jB G [] []
 | cons {l:Addr} {us:List V} {row:List Hap} {ls:List Addr} {rows:List 2e0}:G l=some 4e0->cD G us row->jB G ls rows->jB G (l::ls) 7e1
def jB.ex(x:jB G ls rows):∀l∈ls,∃us,G l=some 4e0:=by
 induction x with
 | nil=>intro l h;cases h
 | cons e _ _ ih =>
  intro l h;rcases Ε.mp h with rfl|h
  ·exact⟨_,e⟩
  ·exact ih l h
def jB.kn(x:jB G ls rows)(k:mQ G G')(kl:∀l∈ls,G' l=G l):jB G' ls rows:=by
 induction x with
 | nil=>exact .nil
 | cons e h _ ih=>exact .cons ((kl _ 9e0).trans e) (h.kt k.tup) (ih λl hl=>kl l (Ξ _ hl))
def jB.kp(x:jB G ls rows)(k:Kp [] G G'):jB G' ls rows:=x.kn (.of k) λl hl=>by
 obtain⟨us,e⟩:=x.ex l hl;rw[e,k.at e]
def jB.at(x:jB G ls rows):∀{i:Nat} {l:Addr},ls[i]?=some l->∃row us,rows[i]?=some row/\G l=some 4e0/\cD G us row:=by
 induction x with
 | nil=>intro i l e;simp at e
 | cons e h _ ih =>
  intro i l g;cases i with
  | zero=>simp only[Ω,ϒ] at g;subst g;exact⟨_,_,rfl,e,h⟩
  | succ i=>simpa using ih (i:=i) (by simpa using g)
def jB.len(x:jB G ls rows):ls.length=rows.length:=by
 induction x with
 | nil=>rfl
 | cons _ _ _ ih=>simp[ih]
def NB(b c:List Stm)(G:Hp)(v:V)(f:Addr×Addr)(row:List Hap):Prop:=∃(t:Addr) (us:List V),v=.ref t/\G t=some (.tup [.ref f.1,.ref f.2])/\G f.1=some 4e0/\cD G us row/\G f.2=some (.lst ((gB 1e0 0e0).map V.int))
inductive gJ(b c:List Stm)(G:Hp):List V->List 6e1->List 2e0->Prop
 | nil:gJ b c G [] [] []
 | cons {v:V} {f:Addr×Addr} {row:List Hap} {vs:List V} {fs:List 6e1} {rows:List 2e0}:NB b c G v f row->gJ b c G vs fs rows->gJ b c G (v::vs) (f::fs) 7e1
end
section
mutual
example:=[]
variable{fs:List (Addr×Addr)}
def gJ.kn(x:gJ b c G vs fs rows)(k:mQ G G')(kl:∀f∈fs,G' f.1=G f.1/\G' f.2=G f.2):gJ b c G' vs fs rows:=by
 induction x with
 | nil=>exact .nil
 | cons a _ ih =>
  refine .cons ?_ (ih λf hf=>kl f (Ξ _ hf));obtain⟨t,us,e,et,e1,h,e2⟩:=a;have z:=kl _ (List.mem_cons_self ..);exact⟨t,us,e,k.tup _ _ et,z.1.trans e1,h.kt k.tup,z.2.trans e2⟩
def gJ.ex(x:gJ b c G vs fs rows):∀f∈fs,(∃us,G f.1=some (.lst us))/\∃us,G f.2=some (.lst us):=by
 induction x with
 | nil=>intro l h;cases h
 | cons a _ ih =>
  intro l h;rcases Ε.mp h with rfl|h
  ·obtain⟨t,us,e,et,e1,h,e2⟩:=a;exact⟨⟨_,e1⟩,_,e2⟩
  ·exact ih l h
def gJ.kp(x:gJ b c G vs fs rows)(k:Kp [] G G'):gJ b c G' vs fs rows:=x.kn (.of k) λf hf=>by
 obtain⟨⟨us,e⟩,us',e'⟩:=x.ex f hf;rw[e,e',k.at e,k.at e'];exact⟨rfl,rfl⟩
def gJ.snoc{v:V}{f:Addr×Addr}{row:List Hap}(x:gJ b c G vs fs rows)(y:NB b c G v f row):gJ b c G (vs++[v]) (fs++[f]) (rows++[row]):=by
 induction x with
 | nil=>exact .cons y .nil
 | cons a _ ih=>exact .cons a ih
def gJ.len(x:gJ b c G vs fs rows):vs.length=rows.length:=by
 induction x with
 | nil=>rfl
 | cons _ _ ih=>simp[ih]
end
end
mutual
example:=[(by omega),.don m i w,(S.pend.filter λj=>decide (j≠i)),(by rw[h];rfl)]
def gJ.at{fs:List (Addr×Addr)}(x:gJ b c G vs fs rows):∀{i:Nat} {v:V},vs[i]?=some v->∃f row,f∈fs/\rows[i]?=some row/\NB b c G v f row:=by
 induction x with
 | nil=>intro i v e;simp at e
 | cons a _ ih =>
  intro i v e;cases i with
  | zero=>simp only[Ω,ϒ] at e;subst e;exact⟨_,_,by simp,rfl,a⟩
  | succ i =>
   obtain⟨f,row,hf,er,h⟩:=ih (by simpa using e);exact⟨f,row,Ξ _ hf,by simpa using er,h⟩
def jB.app{ls':List Addr}{aaW:List (List Hap)}(x:jB G ls rows)(y:jB G ls' aaW):jB G (ls++ls') (rows++aaW):=by
 induction x with
 | nil=>exact y
 | cons e h _ ih=>exact .cons e h ih
def aS.met{C:Cl}{G0:Hp}{R:Rn}{sl:V}{ks':List (Dv×Addr)}(A:aS C G R as sl S)(e:G a=some (fV P w a ks))(e0:G0 a=some o)(n:∀d,d∈R.cells\/d∈as->G0 d=none):aS C (Xz G a (fV P w a ks')) R as sl S:=A.keep (λd o' ed h=>by
 rw[aC]
 ·exact ed
 ·intro z;rcases h with h|h
  ·have wi:=A.wk.ins;rw[<- h,z,e] at wi;cases wi
  ·have:=n d h;rw[z,e0] at this;cases this) (mQ.met e).tup
def Gd.all(hw:∀w∈ws,cL w)(g:Gd b c ws row):∀h∈row,h.nl=true/\h.m=0/\cL h.w:=by
 induction g with
 | @one w e =>
  intro h hh;rw[Τ.mp hh];exact⟨rfl,rfl,hw w (List.mem_of_head? e)⟩
 | @snoc row i w _ _ _ hm ih =>
  intro h hh;rcases Υ.mp hh with z|z
  ·exact ih h z
  ·rw[Τ.mp z];exact⟨rfl,rfl,hw w hm⟩
theorem HZ{b:List Stm}(g:Pg38 b):∀{hs:List Hap} {S:Pu} {N:Nat},Y38 b S N->(∀h∈hs,h.nl=true/\h.m=0/\cL h.w)->N+302 * hs.length<=800000->Y38 b (takes S hs).1 (N+302 * hs.length)
 | [],S,N,y,_,_=>y
 | h::hs,S,N,y,q,l=>by
  rw[Κ] at l ⊢;obtain⟨h1,h2,h3⟩:=q h (by simp);have:=HZ g (hs:=hs) (y.take g h1 (by rw[h2];exact⟨Θ7 _,by decide⟩) h3 0e0) (λx hx=>q x (Ξ _ hx)) 0e0;rw[show N+302 * (hs.length+1)=N+302+302 * hs.length by omega];exact this
theorem nE(g:Pg38 b)(q:∀h∈hs,h.nl=true/\h.m=0/\cL h.w)(l:hs.length<=100):Y38 b (aft b hs) (302 * hs.length):=by
 have:=HZ g (Y38.new g) q 0e0
 rwa [Nat.zero_add] at this
theorem NM(xs:List V)(x:V):iR (xs++[x]) (-1)=some x:=by
 unfold iR;rw[show yK (xs++[x]).length (-1)=some xs.length by unfold yK;simp;omega];simp
def JA{j:Nat}(e:rows[j]?=some row):∃post,rows=rows.take j++row::post:=by
 refine⟨rows.drop (j+1),?_⟩;have:=List.take_append_drop j rows;rw[Θ1 (Λ.mp e).1,(Λ.mp e).2] at this;exact this.symm
inductive Hz(P:Program)(w:World)(K:q0B)(vs:List V)(H:Hp)(Q:VK)(E:XK):Prop
 | mk (p1 p2 wl:Addr) (X5 X4:List V) (b c:List Stm) (w0:Wo) (ws:List Wo) (n:Nat) (_:vs=[.ref p1,.ref p2,.ref wl,.int n]) (_:H p1=some (.tup X5)) (_:aW H X5 b) (_:H p2=some (.tup X4)) (_:aW H X4 c) (_:Pg38 b) (_:Pg38 c) (_:b.length<=5) (_:c.length<=5) (_:H wl=some (.lst ((w0::ws).map wv))) (_:ws.length<=1) (_:(∀w∈w0::ws,cL w)) (_:n<=8) (_:∀(v:V) (H':Hp),pY H' v (rnd b c (w0::ws) n [[.XS 0 w0]] [])->Kp [] H H'->Q v H'):Hz P w K vs H Q E
def Gg:V->Option Str
 | .str x=>some x
 | _=>none
def Gf:V->Option Int
 | .int i=>some i
 | .bl b=>some (if b then 1 else 0)
 | _=>none
def gC(c:List V):Option Str×Option Int:=((c[0]?).bind Gg,(c[1]?).bind Gf)
def pd1(p:List Int):Option Str×Option Int->List Int
 | (none,_)=>p
 | (some k,i)=>if k = "worn"\/k = "end" then [] else match i with
  | none=>p
  | some i=>if k = "drop" then p.filter λj=>decide (j≠i) else if k = "send" then p else p++[i]
def wJ(p:List Int)(cs:Cmds):List Int:=(cs.map gC).foldl pd1 p
theorem SN{x y:V}(h:rG x y=true):Gg x=Gg y/\Gf x=Gf y:=by
 cases x<;>cases y<;>simp_all [rG,Gg,Gf]
theorem TH{c d:List V}(h:teq c d=true)(j:Nat):(c[j]?).bind Gg=(d[j]?).bind Gg/\(c[j]?).bind Gf=(d[j]?).bind Gf:=by
 unfold teq at h;rw[Β3,Δ5] at h;have hl:c.length=d.length:=by simpa using h.2
 by_cases hj:j < c.length
 ·have:=h.1 j (Κ1.mpr 0e0);rw[Μ hj,Μ (by omega:j < d.length)] at this ⊢;exact SN this
 ·rw[Δ8 0e0,Δ8 0e0];exact⟨rfl,rfl⟩
theorem Ur{ds:Cmds}(h:ceq cs ds=true):cs.map gC=ds.map gC:=by
 unfold ceq at h;split at h
 ·next hl =>
  rw[Δ5] at h;refine List.ext_getElem? λj=>?_;rw[Ψ,Ψ];by_cases hj:j < cs.length
  ·have:=h j (Κ1.mpr hj);rw[Μ hj,Μ (by omega:j < ds.length)] at this ⊢;have t:=TH this;show some (gC _)=some (gC _);unfold gC;rw[(t 0).1,(t 1).2]
  ·rw[Δ8 0e0,Δ8 0e0]
 ·cases h
def Mp{ds:Cmds}(h:ceq cs ds=true)(p:List Int):wJ p cs=wJ p ds:=by unfold wJ;rw[Ur h]
def Pg(p:List Int)(a b:Cmds):wJ p (a++b)=wJ (wJ p a) b:=by unfold wJ;rw[Ϙ,List.foldl_append]
def Ob(S:Pu)(m:Stm):(bE S m).1.pend=wJ S.pend (bE S m).2/\(bE S m).1.ans=S.ans:=by
 cases m with
 | order x y s=>refine⟨?_,rfl⟩;simp[bE,wJ,gC,Gg,Gf,pd1,Pu.j4,gD]
 | child x y s=>refine⟨?_,rfl⟩;simp[bE,wJ,gC,Gg,Gf,pd1,Pu.j4,gD]
 | XM x s=>refine⟨?_,rfl⟩;simp[bE,wJ,gC,Gg,Gf,pd1,Pu.j4,gD]
 | send s k r=>refine⟨?_,rfl⟩;cases h:S.worth s<;>simp[bE,wJ,gC,Gg,Gf,pd1,gD,wv,h]
 | drop s =>
  simp only[bE];split
  ·split
   ·refine⟨?_,rfl⟩;simp[wJ,gC,Gg,Gf,pd1,gD]
   ·exact⟨rfl,rfl⟩
  ·exact⟨rfl,rfl⟩
 | XE x k=>simp only[bE];split<;>exact⟨rfl,rfl⟩
 | wait x ss=>simp only[bE];split<;>exact⟨rfl,rfl⟩
 | fin s=>refine⟨?_,rfl⟩;simp[bE,Pu.ends,wJ,gC,Gg,Gf,pd1]
 | _=>exact⟨rfl,rfl⟩
def Ta(S:Pu)(m:Stm):(one S m).1.pend=wJ S.pend (one S m).2/\(one S m).1.ans=S.ans:=by
 unfold one;split
 ·cases m with
  | Yh s b=>simp only[lT];split<;>exact⟨rfl,rfl⟩
  | iff s b o=>simp only[lT];split<;>exact⟨rfl,rfl⟩
  | _=>exact⟨rfl,rfl⟩
 ·dsimp only;split<;>exact Ob S m
def Gz(S:Pu)(w:Wo):(S.ends w).1.pend=wJ S.pend (S.ends w).2/\(S.ends w).1.ans=S.ans:=by
 refine⟨?_,rfl⟩;simp[Pu.ends,wJ,gC,Gg,Gf,pd1]
theorem wB:∀(n:Nat) (S:Pu),(b8 n S).1.pend=wJ S.pend (b8 n S).2/\(b8 n S).1.ans=S.ans
 | 0,S=>by
  unfold b8;split
  ·exact Gz S.bT none
  ·refine⟨?_,rfl⟩;simp[Pu.Ae,wJ,gC,Gg,Gf,pd1]
 | n+1,S=>by
  unfold b8;split
  ·exact Gz S.bT none
  ·next m _ =>
   have o:=Ta S.bT m;split
   ·have g:=wB n (one S.bT m).1;refine⟨?_,g.2.trans o.2⟩;show(b8 n _).1.pend=wJ S.pend (_++_);rw[Pg,g.1,o.1];rfl
   ·exact o
def P9(S:Pu)(w:Wo):(S.wake w).1.pend=wJ S.pend (S.wake w).2/\(S.wake w).1.ans=S.ans:=by
 unfold Pu.wake;split
 ·exact wB 300 _
 ·exact wB 300 _
 ·exact⟨rfl,rfl⟩
theorem OT{p:List Int}(h:i∉p):(p.filter λj=>decide (j≠i))=p:=List.filter_eq_self.mpr λj hj=>Ε1 λe=>h (e▸hj)
theorem Ee(S:Pu)(i:Int)(w:Wo):(S.dW i w).1.pend=wJ 2e0 (S.dW i w).2/\(S.dW i w).1.ans=S.ans++[(i,w)]:=by
 unfold Pu.dW;split
 ·split
  ·exact P9 (S.done i w) _
  ·exact⟨rfl,rfl⟩
 ·exact⟨rfl,rfl⟩
theorem EF(r:rest S)(m i:Int)(w:Wo):(S.take 1e0).1.pend=wJ 2e0 (S.take 1e0).2/\(i∈S.pend->(S.take 1e0).1.ans=S.ans++[(i,w)]):=by
 have ho:S.over 1e0=true↔i∉S.pend:=by
  unfold Pu.over;cases h:S.sl with
  | new=>exact absurd h r.2.1
  | XB=>have:=r.1;rw[h] at this;cases this
  | ended w=>simp[r.2.2 3e0]
  | worn=>simp[r.2.2 3e0]
  | wait ts=>simp
  | XE k=>simp
 unfold Pu.take;split
 ·next h =>
  have:=ho.mp h;exact⟨(OT this).symm,λz=>absurd z this⟩
 ·exact⟨(Ee (S.at' m) i w).1,λ_=>(Ee (S.at' m) i w).2⟩
def Ew(b:List Stm)(w:Wo):(aft b [.XS 0 w]).pend=wJ [] (oB b [.XS 0 w])/\(aft b [.XS 0 w]).ans=[]:=wB 300 _
end
section
variable(hb:∀m∈b,m.isB=false)(hc:∀m∈c,m.isB=false)
include hb hc
theorem Gd.same(g:Gd b c ws row)(q:LQ b c row):(aft b row).pend=(aft c row).pend:=by
 induction g with
 | @one w e=>rw[(Ew b w).1,(Ew c w).1,Mp q]
 | @snoc row i w g l hi hw ih =>
  have z:=g.z hb hc;have d1:=(EF z.1.2 0 i w).1;have d2:=(EF z.2.2 0 i w).1;rw[<- dG,<- cA] at d1 d2;rw[d1,d2,ih l,Mp q]
theorem Gd.Uv(g:Gd b c ws row):(aft b row).ans.length+1=row.length:=by
 induction g with
 | @one w e=>rw[(Ew b w).2];rfl
 | @snoc row i w g l hi hw ih =>
  have z:=g.z hb hc;have s:=g.same hb hc l;have hp:i∈(aft b row).pend:=by
   unfold gB at hi;rcases Υ.mp (oR.mp hi) with h|h
   ·exact h
   ·rw[s];exact h
  rw[dG,(EF z.1.2 0 i w).2 hp,Ι,Ι,Α1,Α1,ih]
end
theorem E5:∀(n:Nat) {l:List Int},l.Nodup->(∀i∈l,0<=i/\i < n)->l.length<=n
 | 0,l,_,h=>by
  cases l with
  | nil=>simp
  | cons a l=>have:=h a (by simp);omega
 | n+1,l,nd,h=>by
  by_cases hn:(n:Int)∈l
  ·have:=E5 n (l:=l.erase n) (nd.erase _) λi hi=>by
    have m:=(nd.mem_erase_iff).mp hi;have:=h i m.2;have:=m.1;omega
   have:=List.length_erase_of_mem hn;have:=List.length_pos_of_mem hn;omega
  ·have:=E5 n nd λi hi=>by
    have:=h i hi;have:i≠n:=λe=>hn (e▸hi);omega
   omega
theorem Gd.short(g:Pg38 b)(gc:Pg38 c)(hw:∀w∈ws,cL w)(l5:b.length<=5)(h:Gd b c ws row)(hl:row.length<=100):row.length<=6:=by
 have y:=(SO g gc hw h hl).1;have:=E5 (aft b row).made y.tk.nd λi hi=>by
  obtain⟨p,hp,rfl⟩:=Ϝ.mp hi;exact y.tk.la p hp
 rw[Δ] at this;obtain⟨n,_,h1,_,h3⟩:=y.mq;have:=h.Uv g.nb gc.nb;omega
structure En(C:Cl)(H G:Hp)(R1 R2:Rn)(XY XZ:List Addr)(X6 X2:V)(S1 S2:Pu):Prop where
 tw:Two C G R1 R2 XY XZ X6 X2 S1 S2 []
 nr:∀a,a∈R1.cells\/a∈R2.cells->H a=none
 na:∀a,a∈XY\/a∈XZ->H a=none
 kb:Kp [] H G
section
mutual
example:=[.inl z]
variable{C:Cl}{R1 R2:Rn}{XY XZ X7:List Addr}{X6 X2 XT:V}{S1 S2 S':Pu}
def En.symm(h:En C H G R1 R2 XY XZ X6 X2 S1 S2):En C H G R2 R1 XZ XY X2 X6 S2 S1:=⟨h.tw.symm,λa ha=>h.nr a ha.symm,λa ha=>h.na a ha.symm,h.kb⟩
def En.step(h:En C H G R1 R2 XY XZ X6 X2 S1 S2)(F:Fw R1 XY X7 G G')(A:aS C G' R1 X7 XT S'):En C H G' R1 R2 X7 XZ XT X2 S' S2:=by
 refine⟨h.tw.step F A,h.nr,λa ha=>?_,λa o e _=>F.kp a o (h.kb.at e) (λz=>by rw[h.nr a 0e0] at e;cases e) (λz=>by rw[h.na a 0e0] at e;cases e)⟩;rcases ha with ha|ha
 ·rcases F.new a ha with z|z
  ·exact h.na a 0e0
  ·cases zz:H a with
   | none=>rfl
   | some o=>rw[h.kb.at zz] at z;cases z
 ·exact h.na a (.inr ha)
def En.kp(h:En C H G R1 R2 XY XZ X6 X2 S1 S2)(k:Kp [] G G'):En C H G' R1 R2 XY XZ X6 X2 S1 S2:=⟨h.tw.kp k,h.nr,h.na,h.kb.trans k⟩
def En.new{G4:Hp}(kH:Kp [] H G)(A1:aS C G4 R1 [] X6 (eT b))(K4:Kp [] G G4)(N1:∀a∈R1.cells,G a=none)(A2:aS C G' R2 [] X2 (eT c))(K5:Kp [] G4 G')(N2:∀a∈R2.cells,G4 a=none):En C H G' R1 R2 [] [] X6 X2 (eT b) (eT c):=by
 refine⟨⟨A1.kp K5,A2,λa ha=>⟨λz=>?_,Θ⟩,λa ha=>by cases ha⟩,λa ha=>?_,(λa ha=>by rcases ha with z|z<;>cases z),(kH.trans K4).trans K5⟩
 ·rcases ha with ha|ha
  ·obtain⟨o,e,_⟩:=A1.cellK (.inl ha);rw[N2 a z] at e;cases e
  ·cases ha
 ·cases zz:H a with
  | none=>rfl
  | some o =>
   rcases ha with ha|ha
   ·have:=N1 a ha;rw[kH.at zz] at this;cases this
   ·have:=N2 a ha;rw[(kH.trans K4).at zz] at this;cases this
end
end
mutual
example:=[.lst ((w0::ws).map wv),(by omega),aF.nil k,.tup X5,.tup X4,w0::ws,row.take k,0+(i:Int)]
structure Wf(b c:List Stm)(ws:List Wo)(row:List Hap)(k:Nat)(x:Hap):Prop where
 z:k=0->∃w,ws.head?=some w/\x=.XS 0 w
 s:0 < k->∃i w,x=.don 0 i w/\i∈gB (aft b 6e0) (aft c 6e0)
 q:k+1 < row.length->LQ b c (row.take (k+1))
theorem Gd.at(g:Gd b c ws row):∀{k:Nat} {x:Hap},row[k]?=some x->Wf b c ws row k x:=by
 induction g with
 | @one w e =>
  intro k x h;cases k with
  | zero=>simp only[Ω,ϒ] at h;exact⟨λ_=>⟨w,e,h.symm⟩,λz=>absurd z (Α2 _),λz=>by simp at z⟩
  | succ k=>simp at h
 | @snoc row i w g l hi hw ih =>
  intro k x h;have ne:=List.length_pos_iff.mpr g.ne;by_cases hk:k < row.length
  ·rw[List.getElem?_append_left hk] at h;have a:=ih h;refine⟨a.z,?_,λ_=>?_⟩
   ·rw[List.take_append_of_le_length 1e0];exact a.s
   ·rw[List.take_append_of_le_length 1e0];by_cases h2:k+1 < row.length
    ·exact a.q h2
    ·rw[Δ4 1e0];exact l
  ·have hl:=(Λ.mp h).1;rw[Ι,Α1] at hl;have e:k=row.length:=by omega
   subst e;rw[List.getElem?_append_right (Ζ _),Nat.sub_self,Ω,ϒ] at h;refine⟨λz=>by omega,λ_=>⟨i,w,h.symm,?_⟩,λz=>?_⟩
   ·rw[List.take_append_of_le_length (Ζ _),Β9];exact hi
   ·rw[Ι,Α1] at z;omega
theorem Qd{i:Nat}{u:V}(h:us[i]?=some u):iR us 7e0=some u:=by
 have:=(Λ.mp h).1;unfold iR;rw[show yK us.length 7e0=some i by unfold yK;simp;omega];exact h
inductive MZ(vs:List V)(H:Hp)(Q:VK)(E:XK):Prop
 | mk (p1 p2 rl wl:Addr) (X5 X4 us:List V) (b c:List Stm) (w0:Wo) (ws:List Wo) (row:List Hap) (_:vs=[.ref p1,.ref p2,.ref rl,.ref wl]) (_:H p1=some 3e0) (_:aW H X5 b) (_:H p2=some 4e0) (_:aW H X4 c) (_:Pg38 b) (_:Pg38 c) (_:H rl=some (.lst us)) (_:cD H us row) (_:H wl=some 0e0) (_:(∀w∈w0::ws,cL w)) (_:Gd b c 5e0 row) (_:¬ LQ b c row) (_:row.length<=8) (_:∀H':Hp,Kp [] H H'->Q (.bl true) H'):MZ vs H Q E
theorem Ud{g:Int}(h0:0<=g)(h1:g < (us.length:Int)):∃u,u∈us/\iR us g=some u:=by
 have l:g.toNat < us.length:=by omega
 refine⟨us[g.toNat],Κ5 l,?_⟩;have:=Qd (Μ l)
 rwa [show 0+((g.toNat:Nat):Int)=g by omega] at this
inductive MU(vs:List V)(H:Hp)(Q:VK)(E:XK):Prop
 | mk (p1 p2 wl cl:Addr) (X5 X4:List V) (b c:List Stm) (w0:Wo) (ws:List Wo) (ms:List Int) (met:List (Dv×Dv)) (_:vs=[.ref p1,.ref p2,.ref wl,.ref cl]) (_:H p1=some 3e0) (_:aW H X5 b) (_:H p2=some 4e0) (_:aW H X4 c) (_:Pg38 b) (_:Pg38 c) (_:H wl=some 0e0) (_:ws.length<=1) (_:(∀w∈w0::ws,cL w)) (_:Clo b c 5e0 [] met) (_:H cl=some (.lst (ms.map V.int))) (_:ms.length<=63) (_:∀H':Hp,Kp [] H H'->Q (.bl true) H'):MU vs H Q E
def SQ(h:Hap):∀v∈h.vs,Mc v:=λv hv=>by
 cases h with
 | XS m w =>
  simp only[Hap.vs,Hap.ini,Χ,ϛ,Ε,Θ,ϝ] at hv;rcases hv with rfl|rfl|rfl
  ·exact cY _
  ·exact fR _
  ·exact j5 _
 | don m i w =>
  simp only[Hap.vs,Hap.ini,Χ,ϛ,Ε,Θ,ϝ] at hv;rcases hv with rfl|rfl|rfl|rfl
  ·exact cY _
  ·exact fR _
  ·exact fR _
  ·exact j5 _
 | ltr m k w =>
  simp only[Hap.vs,Hap.ini,Χ,ϛ,Ε,Θ,ϝ] at hv;rcases hv with rfl|rfl|rfl|rfl
  ·exact cY _
  ·exact fR _
  ·exact cY _
  ·exact j5 _
def LB(h:cD H us hs)(g:cD H vs hs):Af K H (n+1) us vs:=by
 induction h generalizing vs with
 | nil=>cases g;exact .nil
 | @cons v us h hs a _ ih =>
  cases g with
  | cons b g =>
   obtain⟨a1,rfl,e1⟩:=a;obtain⟨a2,rfl,e2⟩:=b;exact .cons (Af.tup (Af.refl (SQ h)) e1 e2) (ih g)
def Tu{u:V}{r:Res}(h:pY H u r)(g:pY H v r):∃a b,u=.ref a/\v=.ref b/\pX K H 4 a b true:=by
 cases r with
 | parts row =>
  obtain⟨t1,l1,X5,rfl,e1,f1,h1⟩:=h;obtain⟨t2,l2,X4,rfl,e2,f2,h2⟩:=g;exact⟨_,_,rfl,rfl,Af.rcT (n:=3) (.cons (cY _).eq (.cons (Af.lst (n:=2) (LB h1 h2) f1 f2) .nil)) e1 e2⟩
 | never n =>
  obtain⟨t1,rfl,e1⟩:=h;obtain⟨t2,rfl,e2⟩:=g;exact⟨_,_,rfl,rfl,Af.rcT (n:=3) (.cons (cY _).eq (.cons (fR _).eq .nil)) e1 e2⟩
 | no =>
  obtain⟨t1,rfl,e1⟩:=h;obtain⟨t2,rfl,e2⟩:=g;exact⟨_,_,rfl,rfl,Af.rcT (n:=3) (.cons (cY _).eq .nil) e1 e2⟩
def pY.kp{r:Res}(h:pY H v r)(k:Kp [] H H'):pY H' v r:=by
 cases r with
 | parts row =>
  obtain⟨t,l,us,rfl,e1,e2,h⟩:=h;exact⟨t,l,us,rfl,k.at e1,k.at e2,h.kt 2e0⟩
 | never n=>obtain⟨t,rfl,e⟩:=h;exact⟨t,rfl,k.at e⟩
 | no=>obtain⟨t,rfl,e⟩:=h;exact⟨t,rfl,k.at e⟩
theorem Gn(ns:List Int)(lo hi:Nat):∃ms:List Int,fK (ns.map V.int) (some (lo:Int)) (some (hi:Int))=ms.map V.int/\ms.length<=hi - lo:=by
 unfold fK;rw[<- List.map_drop,<- List.map_take];refine⟨_,rfl,?_⟩;simp only[HT.wN,Α0,Δ];omega
theorem GR:∀{ys:List V} {ms:List Int},(∀y∈ys,y∈ms.map V.int)->∃ks:List Int,ys=ks.map V.int
 | [],_,_=>⟨[],rfl⟩
 | y::ys,ms,h=>by
  obtain⟨ks,rfl⟩:=GR (ys:=ys) (ms:=ms) λz hz=>h z (Ξ _ hz);obtain⟨k,_,rfl⟩:=Ϝ.mp (h y (by simp));exact⟨k::ks,rfl⟩
def NU{w0:Wo}:Clo b c 5e0 [[.XS 0 w0]] []:=⟨λx hx=>by rw[Τ.mp hx];exact .one rfl,λw h=>by cases h;exact .inl (by simp),λp hp=>by cases hp⟩
structure In38(G:Hp)(p1 p2 wl:Addr)(X5 X4:List V)(b c:List Stm)(w0:Wo)(ws:List Wo):Prop where
 e1:G p1=some 3e0
 s1:aW G X5 b
 e2:G p2=some 4e0
 s2:aW G X4 c
 ew:G wl=some 0e0
def In38.kp{p1 p2 wl:Addr}{X5 X4:List V}{w0:Wo}(h:In38 G p1 p2 wl X5 X4 b c w0 ws)(k:Kp [] G G'):In38 G' p1 p2 wl X5 X4 b c w0 ws:=⟨k.at h.e1,h.s1.kp 2e0,k.at h.e2,h.s2.kp 2e0,k.at h.ew⟩
end
local macro_rules | `(tactic| wp_walk) => `(tactic| wp_walk using true_and)
local macro_rules | `(tactic| wp_walk using $ts,*) => do
  let us ← ts.getElems.mapM fun t => `(Lean.Parser.Tactic.simpLemma| $t:term)
  let vs <- ("↓Tp ↓VC ↓DO ↓TQ ↓W8 ↓VB ↓Pt ↓Wu ↓Wv ↓Ww ↓Wx ↓Wy ↓Wz ↓WA ↓WB ↓Rt ↓Rq ↓Rr ↓Ve ↓UA ↓Sr ↓Vd ↓UU ↓Lj ↓WR ↓WJ ↓WN ↓WS ↓Xs ↓RJ ↓U5 ↓KW ↓WI ↓UZ ↓Vj ↓RO ↓RP ↓Ss ↓RE ↓Va ↓Su ↓Uy ↓WO ↓U6 ↓Oh ↓WQ ↓Sv ↓Le ↓RZ ↓RY ↓Ow ↓RW ↓UT ↓Vc ↓Uz ↓Vb ↓U9 ↓U8 ↓OE ↓OC ↓OD ↓Lf ↓Lg ↓OB ↓UX ↓UY ↓RB ↓RD ↓RC ↓RH ↓Vi ↓Vh ↓RK ↓Sk ↓Sj ↓Vf ↓WK ↓Sb ↓Se ↓Sd ↓UB ↓UC ↓UD ↓UE ↓UG ↓UH ↓UI ↓UJ ↓UK ↓KZ ↓R9 ↓Sa ↓WL ↓Ox ↓U0 ↓U2 ↓UM ↓UN ↓R8 ↓R7 ↓U7 ↓Ov ↓RT ↓RU ↓Ol ↓Oj ↓OF ↓SK ↓UO ↓SA ↓R5 ↓WE ↓WG ↓WH ↓OG ↓Li ↓RL ↓Oi ↓Oq ↓OO ↓RS ↓WM ↓UR ↓Sw ↓ON ↓SI ↓SE ↓SG ↓Lk ↓SH ↓SJ ↓SF ↓Om ↓U3 ↓UP ↓OA ↓Sh ↓Gy ↓US ↓Sz ↓RF ↓Ld ↓Sm ↓Lc ↓II ↓Sx ↓OH ↓SD ↓RN ↓Ot ↓Lb ↓La ↓Ou ↓RM ↓RX ↓UW ↓RG ↓UL ↓OK ↓Sl ↓U4 ↓OI ↓Oz ↓Lh ↓UQ ↓OM ↓Oy ↓OL ↓R6 ↓KY ↓Lm ↓Sy ↓Sf ↓OJ ↓SM ↓Oo ↓Vg ↓RQ ↓Sq ↓So ↓Sn ↓Si ↓Ll ↓V0 ↓V2 ↓V3 ↓V4 ↓V5 ↓V6 ↓V7 ↓V8 ↓V9 ↓QU ↓QV ↓QW ↓QX ↓QY ↓V1 ↓QT ↓VZ ↓Xh ↓VW ↓VX ↓VY ↓Xg ↓aA ↓List.set_cons_zero ↓List.set_cons_succ ↓List.getElem?_cons_zero ↓List.getElem?_cons_succ L2.start ET LX List.cons_append List.nil_append List.append_nil List.replicate_succ List.replicate_zero List.length_cons List.length_nil Nat.reduceAdd Nat.reduceSub Nat.zero_add Nat.add_zero Nat.reduceLeDiff Nat.reducePow Nat.reduceLT true_and and_true false_and and_false forall_const ↓reduceIte gD String.reduceEq Int.reduceToNat Int.reducePow Int.reduceNeg Int.reduceSub Int.reduceAdd Int.reduceMul Int.reduceLT Int.reduceLE Int.reduceEq sizeLine Xx Xf decide_true decide_false Bool.not_true Bool.not_false Bool.false_eq_true".splitOn " ").toArray.mapM fun(n:String)=>do
    let p:=n.splitOn "↓";let x:=Lean.mkIdent (p.getLastD "").toName
    if p.length = 1 then `(Lean.Parser.Tactic.simpLemma| $x:term) else `(Lean.Parser.Tactic.simpLemma| ↓ $x:term)
  let ws:=us++vs
  `(tactic| try simp (config := { dsimp := false }) only [$ws,*])
noncomputable def HD(K:q0B):Sp:=λvs H Q _=>∃(a:Addr) (ns:List Int),vs=[.ref a]/\c5 K H a (ns.map V.int)/\ns.length<=63/\∀H',Q (.bl true) H'
section
mutual
example:=[(by simp),(by omega),(by decide),2e0,.lst [],pix aY pv1 aB,row++[x],(by intro z;cases z),(by simp[Rn.cells]),(.inl 8e0),aft c row,aft b row,.ref p2,.lst xs,(λ_ _ h=>h),4e1,some at',aF.nil N,pa1 pv2,.ref wl,pv 1,pv 0,i+1,pix aY pv0 aB,F1.free hc,.ref p1,w0::ws,.inr k,dS kvs 7e2 (.ref p2),aF.nil N4,(by simp only[Stm.dp];omega),aK T.aM T.bR pv0,S.worth s,bA bD,pa1 pv1,.ref p,.int n,pa2 pv0 aB,pcl (cB T) T.cF 7e3,Fw.of N4,F1.trans 9e3,aK T.aM T.cX pv0,(.tup [v6,v7]),pv 8,tail rfl _ XT c us H' A' hc ec hC FF,iE t.aP R (sl) S.ar (later S.nw m),(by with_unfolding_all rfl),aK T.bX T.dE pv0,(by decide +kernel),ptc lW pv2 aB,qC lB aB,A1.kp N4,j+1,pcl (dA T 4) T.cE 7e3,(cR S.pend ws).map V.int,(pmt pv0 T.aM (dR T) T.dP (pa1 5e0)),bQ 1e2 bD,aJ (bA bD),Or.inr rfl,(by first|(simp only[Stm.k9];done)|(simp only[Stm.k9];exact hx3)),((k,b,n)::r),((bP 0e6).map V.int++[.int kx]),Kp.new (o:=.lst [.ref p3]) h4,.cons ((q0D h4).at aA) .nil,(.tup [.str "hear",.str k]),aK T.aM T.fE pv0,ptc cO pv5 aL,aI (aJ mX),Or.inl rfl,.ref ps,.ref mt,.lst ws,eE T,(.tup [.str "name",.str x4]),(Xz G4 p5 3e7),later S.nw m,row.take i,(by simp only[Say.depth];omega),.lst ((bK ans ws).map V.int),pa2 pv0 (bF lA pv1 aB),.lst (vs++[.ref p]),ns.map V.str,.lst 1e8,kJ (dC S.nm x w),S.pend.map V.int,(λ_ _=>rfl),(λ_=>rfl),F3.free hc,ns.take i,aF.nil N7,as++[p2],.lst us,.ref a,(λj hj=>by rw[show j=0 by simpa using hj];exact⟨_,rfl,rfl,.inl rfl⟩),(cS.free rfl rfl rfl rfl rfl 4e1 rfl 2e0 rfl 3e9),((0<=x.m/\x.m<=1000000000000)/\cL x.w),aK T.aM T.i6 pv0,(by simp;try omega),aK T.bX T.iU pv0,aK T.aX T.fF pv0,aK T.aM T.qB pv0,.lst [.ref t0],aT (pa1 aL),i∈bK ans ws,KG.trans N3,F2.free hc,ws.map wv,pa2 aL aL,fr.take j,List Hap,Dv×Addr,.tup [],.ref rl,.ref lo,.ref kl,lF rfl,aJ pv2,Dv×Dv,pv 12,cG T,(.ins t.aP dx [("walk",.ref wk),("sleep",.ref p),("arg",.XB),("now",.int 0),("names",.ref nm),("tickets",.ref tk)]),8e0,fV P w mt [],(Xz (Xz (Xz H mt 2e12) l0 (.lst [])) t0 (.tup [.ref l0,.ref t.qS,.ref t.qS])),(.ins t.aP dx [("walk",.ref wk),("sleep",.ref p),("arg",.XB),("now",.int 0)]),pa2 pv0 aB,(.ins t.aP dx [("walk",.ref wk),("sleep",.ref p),("arg",.XB)]),pa1 pv0,(kW T.sO (fX T) (hr.mono 1e0) rfl T.ES T.gK.bd .nil pass0 7e12),(Yf++[(.tup [iJ (aft b 6e0),iJ (aft c 6e0)],pr)]),J5.tk K6,((aF.nil K5).trans 0e13).trans TA,(c5.of (by rw[aA];simp[kV,Β1,Ζ9])),g2 - 1,(.tup [.str "number",.int 3e13]),(.lst ((bP 0e6).map V.int)),(ks'++[(.tup [iJ 1e1,iJ 0e1],pr)]),((KK.trans K4).trans (N.mono 0e0)),(.ins t.aP dx [("walk",.ref wk)]),iE t.aP R 5e3 S.ar S.nw,(.tup [.str "wait",.ref l5]),(.tup [.str "name",.str x3]),((aft c 6e7).pend.map V.int),((aft c 6e0).pend.map V.int),(aft c row).pend.map V.int,((aft b 6e7).pend.map V.int),((aft b 6e0).pend.map V.int),(aft b row).pend.map V.int,(λh hh=>X3 h (Θ3 hh)),some (at'+2),some (S.made:Int),(λ_ _ h=>look1 rfl h),(by simpa[prs] using Zz),.lst [wv w],Xz G3 p2 3e15,cS.c9 rfl rfl rfl rfl,(bP S.stk).map V.int,F3.trans (Fw.of N4),F1.trans (Fw.of N3),ns.map V.int,.lst 9e15,(ws.take 1).map wv,(gB S U).map V.int,(y7 2 (nF hr 3e0)),Fw.of N3,(by rw[FV];omega),F1.free (cU h4),(by rw[hg];simp),ptc cO pv0 aL,.lst [.int 0],some (at'+1),(λy hy=>?_),M_1.trans Ze,(KH kG).at e,bW S.ans ws,row.take k,i∈S.pend,(by cases e),ws.take i,n - (i+1),dI aB,c5.of ez0,aF.nil N2,J4.new hp,.ref R2.x,.ref R1.x,Fw.of N2,A3.kp N4,ws++[w],us++us3,K1.at e,mD rfl,dI pv3,dH pv2,pv 10,(dJ ⟨t.aP,t.aO,t.aE⟩ true (λm=>∃x y s,m=.order x y s\/m=.child x y s)),row.take i,(aft b 6e19).pend.map V.int++(aft c 6e19).pend.map V.int,(by exact rfl),(λ_ _ h=>by first|exact h|exact look2 3e0 h|exact look1n 8e19 8e19 h),(.tup [.str "begin",.int 0,wv w0]),(Xz (Xz H tb 0e20) rb (.lst [.ref tb])),(kW T.sO (fX T) (hr.mono 1e0) rfl T.ES T.gK.bd .nil pass0 4e3),.lst [.int 1],Xz G2 l1' 3e20,(.lst [.XB,.int 2]),(Xz 4e20 l2' 5e20),(.ins t.aO wx [("blocks",.ref lb),("numbers",.ref ln)]),(.tup (fK us 6e1 (some (at'+2))).reverse),dI (bF dB pv3 aB),eM jQ pv0 9e20 fT,iO (v:=.ref t.qS) rfl T.Rk rfl,(bH (pmt0 6e9 T.bX (iM T) T.gF)),kJ (dC S.nm x 4e17),.tup [.str "arg"],Xz G6 p7 4e21,(.tup [.str "answer",.ref p5]),(λa b e=>by simpa using e),(.tup [.str "drop",.ref p5]),pmt0 pv0 T.bX (fS T) T.eN,Xz H3 c (.lst 9e18),(.tup [.str "ended",wv w]),(l++[(n:Int)]).map V.int,(.lst [.ref p1,.ref p5]),(.tup [.ref l,.ref l5]),ms2.map V.int,.lst 5e22,(Xz G4 l5 (.tup 4e5)),ZD.map V.ref,.lst 8e22,.tup [.str "worn"],pix aY (pv 14) aB,pix aY (pv 13) aB,(y6 1 (nF hr 3e0)),(λi xs G h=>?_),aK T.aM T.fD pv0,aK T.aM T.bR pv2,aT (pa2 aL pv1),YJ.tw.a2.tkp F2,F3.free (cU h4),.lst [.ref rb],.lst [.ref p7],ptc cO pv4 aB,ptc cO pv2 aB,KS _ (XK L8),.dK (hZ ans),pa1 aB,bA 6e24,K6.trans K7,.on met [],.don m i w,lg.take j,h.2.at el,aF.nil KB,aF.nil K1,Kp.new hp,J5.new hp,A3.tkp F3,A2.tkp F2,K9.at e8,A3.kp N3,A1.kp N3,.ref R.x,us++[y],pa1 pv6,pa1 pv3,aD e nr,KS _ K4,K2.at e,.ref wk,.ref wa,.ref ta,.ref a1,.lst ut,.lst un,.XS m w,.XE x k,tL rfl,aJ pv1,YE b c,.int i,.inr z,.inl z,!false,.lst ((aft b row).pend.map V.int++(aft c row).pend.map V.int),nH P w l4 (g8 (((aft b row).pend++(aft c row).pend).map Key.inl)),Xz (Xz (Xz GC p3 4e28) l4 5e28) l5 (.lst ((gB (aft b row) (aft c row)).map V.int)),3e7,(.lst ((aft b 6e0).pend.map V.int++(aft c 6e0).pend.map V.int)),(nH P w l4 (g8 (((aft b 6e0).pend++(aft c 6e0).pend).map Key.inl))),(Xz (Xz GB p3 8e28) l4 9e28),0e20,(((K24.trans (K5.mono 0e0)).trans K6).trans ((((N7.trans K8).trans K9).trans KA).mono 0e0)),g8 ((S.pend++U.pend).map Key.inl),(λC s H ex pn=>⟨gW,(aT (bQ aL (bQ aB (bQ 0e2 6e5)))) ⟩),(aT (pa1 (pcl (kU T) T.gG 8e1))),(bF iV (eM jQ pv0 fT 2e19) 5e29),(dJ ⟨t.aP,t.aO,t.aE⟩ true (λm=>∃s k r,m=.send s k r)),bF dB (pmt0 pv4 T.aM 9e11 T.b7) (pmt0 pv5 T.aM 9e11 T.b7),eM jQ pv0 fT 2e19,(dJ ⟨t.aP,t.aO,t.aE⟩ true (λm=>∃x ss,m=.wait x ss)),(dJ ⟨t.aP,t.aO,t.aE⟩ true (λm=>∃x s,m=.set x s)),(dJ ⟨t.aP,t.aO,t.aE⟩ true (λm=>∃x s,m=.XM x s)),(dJ ⟨t.aP,t.aO,t.aE⟩ true (λm=>∃x k,m=.XE x k)),(dJ ⟨t.aP,t.aO,t.aE⟩ true (λm=>∃s,m=.drop s)),(dJ ⟨t.aP,t.aO,t.aE⟩ true (λm=>∃s,m=.fin s)),Fw.set (p:=l) (o:=.lst ((ws++[w]).map wv)) (.inr ZA),aI (aJ (aT (pa2 aL (bJ AM rfl T.rE iA (pa1 pv5))))),Xz H ln (.lst ((l++[((n+1:Nat):Int)]).map V.int)),bQ pv1 (pa3 pv2 pv3 pv4),(pcl IH T.n8 (bQ 3e2 9e30)),(iO (v:=.int 1000000000) rfl T.nO ⟨_,rfl⟩),(by rw[show a=p2 by simpa using ha];exact hp2),Xz (Xz G9 py (.lst [y])) pz (.lst 3e26),Fw.set (p:=l) (o:=.lst (r.map wv)) (.inr ZA),(aI (bH (pmt 6e9 T.bX (mN T) T.jY 6e24))),(((KK.trans K4).trans K5).trans (N.mono 0e0)),(by simp only[Ι,List.length_reverse];omega),(λk ws e=>by rw[y2.z.r.lt] at e;cases e),(bF mO (bF oM (pcl (jM T) T.iD 5e12) aB) aB),(λzz=>by rw[NR a zz] at e;cases e),(bL ((xC rfl)) rfl T.BG vW (pa1 5e0)),pmt pv5 T.aM 2e7 T.dZ 4e26,pmt pv4 T.aM 2e7 T.dZ 4e26,(pmt pv0 T.aM (mV T) T.iL (pa1 5e0)),(lX rfl T.rF (pa1 (bF dB aB 8e3))),bF dB (pv 9) (bA (pa1 8e11)),aF.nil ((K8.trans K9).trans KA),(.tup [.str "ended",.str "worn"]),iO (v:=.ref t.jG) rfl T.rR rfl,(bH (pmt0 1e3 T.aX (kT T) T.fP)),pix aY pv2 aB,aT (pa3 aL aB 1e33),aJ (pmt0 pv0 T.aM (yT T) T.r9),XH.length=met.length+lg.length,(.tup [.str "hear",.str "send"]),iE t.aP R (.ref p6) S.ar S.nw,(aI (aJ (aT (pa3 aL pv3 3e5)))),(by rw[ϔ,Κ];exact Ζ1 _ 1e0),ZZ.kt (aF.nil (k3.trans N3)),bL iC rfl T.iH eU (pa1 pv4),(aT (pa2 aL (pix aY aL 8e3))),(by rw[aC n1.symm];exact aA),(by rw[M5.at hM.at_,hM.at_]),pix aY pv5 aB,ptc cO 4e34 aL,iE t.aP R (.XB) S.ar S.nw,(λj x y e=>by simp at e),eM CA pv0 (dI aB) (dI aB),(λi y xs G hi ey h=>?_),(Xz H5 p2 (.tup [v,u,u2])),(Xz G3 l4 (nH P w l4 3e29)),(S.lt++[(k,([]:List Wo))]),.lst (ws.map wv++[wv w]),(by rw[aC xT];exact F1 _),(KH kG).trans (.new h9),(A1.yC W2 (K2.mono 0e0)),(K2.trans k3).trans N3,f * f+69621 * f+12345,(KG.trans (N.mono 0e0)),(.lst (1e6++[.int nx])),(λa _ o h=>N2.at h),(.tup [.ref pz,v6,v7]),(.lst [.int 3,.int 1]),KH9.trans (.new h9),G lo=some (.lst lv),(k3.trans N3).at ec,(kJ (dC S.nm x 2e3)),(kJ (dC S.nm n 0e15)),(λ_ H1=>Q .XB H1),(by rw[lvl,hlv];rfl),(by rw[e0];exact ok),(by rw[aC nlm.symm]),.tup (.str kd::xs),s2.kp (aF.nil K4),gY P w K G mt ks',(λm xs G4 h=>?_),(λk xs G' h=>?_),(by simpa using hm),(by rw[e0];exact W),K8.at (T7 _ _ ep),(.tup [.XB,.int 0]),Ε6 (nlo hM.at_),met.length<=bM i,gY P w K G mt ks,aK T.aX T.eZ pv0,aK T.aM T.yR pv0,.int (0+(i:Int)),.XX on (.tup un),(by rw[Κ];omega),(by rw[hlv];simp),(Kp [mt,lo] G3 G),(Hc (nF hr 3e0)),ws++[V.ref p],ptc uM pv3 fZ,ptc cO pv2 aL,ptc DJ pv1 aB,pix aY pv7 aB,pix OZ pv1 aB,pcr cO pv2 aL,hks n (Φ en),(by rw[hn];rfl),cR S.pend ws,(by rw[e];rfl),(bA (pa1 2e10)),Kp [rn] GB G,Kp [mt] G2 G,Cp pv0 aB DZ,pa2 pv0 pv1,d0.trans hn,(bH (Co 7e4)),Hap.don 0 i,F2.trans F4,F2.trans F3,F1.trans F3,A2.Di T3 K4,.ltr m k0 w,(by simp[z]),aI (aJ fZ),aF.nil k68,T57 _ _ e5,Q5 rv R.da,F6.free hc,F4.free hc,300 - many,.wait x ss,pa2 fZ aB,gd.all hw,aF.nil NL,aF.nil N6,aF.nil N3,aF.nil K3,aF.nil K0,aF.new hp,aF.new ha,aF.new h2,aD ew ab4,V.ref R.x,Kp.new hc,Kp.new h9,Kp.new h5,KH9.at ew,J6.new hp]
variable(T:Tx P w base K mg t)
theorem cB:Ok T T.cF 1 QH:=by
 nomatch T.cF
 ·obtain⟨r,m,rfl,_⟩:=h;rfl
 ·obtain⟨r,m,rfl,m0,m1,⟨c,f,hr0,hx⟩,q⟩:=h
  nomatch (pss3 (pif (ptc DJ 3e2 (bF Th aB aB)) (pss3 (pst 2 (bF mO 3e2 pv1)) (Cs (bF oM 3e2 pv1) 7e40) 6e11)) (Cs (bF mO (bF dB (bF dB (bF Fe 3e2 3e2) (bF Fe aB 3e2)) aB) aB) 7e40) (aJ (bF mO (bF oM 3e2 aB) pv1))),0
  exists hr0
  have n0:=Θ2 8e35 (show(2147483587:Int)≠0 by decide);have n1:=Ζ1 8e35 (show(0:Int) < 2147483587 by decide);split
  ·exact⟨m0,⟨m0,log2_lt m0 m1⟩,q _ _ (Θ2 _ 1e0) (Ζ1 _ m0) ⟨_,_,aA,hx⟩ (Kp.set 0e0)⟩
  ·exact⟨L0 1e0 1e0,L0 1e0 1e0,⟨by decide,by decide⟩,m0,q _ _ (Θ2 _ 1e0) (Ζ1 _ m0) ⟨_,_,aA,n0,n1⟩ (Kp.set 0e0)⟩
theorem CH{d:Nat}(hn:3<=n)(IH:fJ P w K mg base Yr n t.qK t.qN ["row","deep"] (CD d)):Ok T T.cE (n+1) (CD (d+1)):=by
 nomatch T.cE
 ·obtain⟨r,dp,rfl,_⟩:=h;rfl
 ·obtain⟨r,dp,rfl,d1,d2,hR,q⟩:=h
  nomatch (aG (pst 2 8e3) (aG (pif (PW.pt (Mz 9e4 (Fl (ptc cO pv1 aB)))) (pss2 (pst 3 (bA (pa2 (aT (pa2 aL (bF lA 8e3 aB))) 1e34))) (aJ (pix aY (bF dB pv3 4e40) 8e3)))) (aG (pif 3e24 (aI (aJ (aT (pa2 aL 1e34))))) (pss3 (pif 3e24 (aI (aJ (aT (pa2 aL (pcl IH T.cE 9e7)))))) (pst 4 (pix aY (bA (bQ aL (bQ aL (pa3 aL aL aL)))) 8e3)) (aJ (aT (pa3 pv4 (pcl IH T.cE 9e7) (pcl IH T.cE 9e7)))))))),0
  left;wp_walk;refine⟨hR,λg H1 a1 b1 J1 K1=>?_⟩;wp_walk;right;left;refine BR λRI Zw=>?_;wp_walk;simp only[WV];split
  ·refine Zw _ _ ?_;clear Zw RI;refine aQ λRa hRa=>?_;wp_walk;refine⟨J1,λg2 H2 a2 b2 J2 K2 p1 h1=>?_⟩;have N1:=q0D (o:=.tup [.str "number",.int 3e13]) h1;have f1':Xz H2 p1 4e13 p1=some 4e13:=aA;have J3:=J2.new (o:=.tup [.str "number",.int 3e13]) h1;have KK:Kp [r] H (Xz H2 p1 4e13):=(K1.trans K2).trans (N1.mono 0e0);generalize Xz H2 p1 4e13=H3 at *;refine⟨J3,λg4 G4 a4 b4 J4 K4=>⟨by decide +kernel,?_⟩⟩;refine wM a4 5e16 λc4 hc4=>?_;obtain⟨x4,ex4,hx4⟩:=abcd1 hc4;rw[ex4];clear ex4 hc4 c4;wp_walk;refine λp5 h5 p6 h6=>?_;have T4:=J3.tk K4;have M_1:=q0D (o:=.tup [.str "name",.str x4]) h5;have Ze:=q0D (o:=.lst [.ref p1,.ref p5]) h6;have f1:=Ze.at (aA:4e7 p5=some 7e28);have f2:(Xz 4e7 p6 3e22) p6=some 3e22:=aA;have MM:=2e17;generalize Xz 4e7 p6 3e22=G6 at *;clear M_1 Ze h5 h6;replace f1':=MM.at (T4 _ _ f1');have J6:=J4.kp MM;replace KK:=(KK.trans K4).trans (MM.mono (T:=[r]) 0e0);refine hRa _ _ ?_;clear hRa Ra
   exists f2
   refine λp7 h7 p8 h8=>?_;have e6:=f2;have M_1:=q0D (o:=.tup [.str "arg"]) h7;have Ze:=q0D (o:=.lst [.ref p7]) h8;have g_1:=Ze.at (aA:5e21 p7=some 4e21);have g_2:(Xz 5e21 p8 1e24) p8=some 1e24:=aA;have M8:=2e17;generalize Xz 5e21 p8 1e24=G8 at *;clear M_1 Ze h7 h8;replace e6:=M8.at e6;replace f1':=M8.at f1';replace f1:=M8.at f1;replace J6:=J6.kp M8;replace KK:=KK.trans (M8.mono (T:=[r]) 0e0)
   exists e6,g_2
   refine λp9 h9=>⟨J6.new h9,λg10 G10 a10 b10 J10 K10=>?_⟩;have N9:=q0D (o:=.lst [.ref p1,.ref p5,.ref p7]) h9;have T10:=(aF.nil N9).trans ((J6.new h9).tk K10)
   exists made1J K10 J6 h9
   refine Cw a10 b10 λv hv=>?_;have KF:=(KK.trans (N9.mono (T:=[r]) 0e0)).trans K10;simp only[Ε,Θ,ϝ] at hv;rcases hv with rfl|rfl|rfl
   ·exact q _ (.num 3e13) _ (.num (T10 _ _ f1')) ⟨by omega,by omega⟩ 7e7 J10 KF
   ·exact q _ (.name x4) _ (.name (T10 _ _ f1)) trivial 7e7 J10 KF
   ·exact q _ .arg _ (.arg (T10 _ _ g_1)) trivial 7e7 J10 KF
  ·next hc =>
   clear Zw RI;right;left;wp_walk;split
   ·skip;refine⟨J1,λg4 G4 a4 b4 J4 K4=>⟨by decide +kernel,?_⟩⟩;refine wM a4 5e16 λc4 hc4=>?_;obtain⟨x4,ex4,hx4⟩:=abcd1 hc4;rw[ex4];clear ex4 hc4 c4;wp_walk;refine λp5 h5 p6 h6=>?_;have M_1:=q0D (o:=.tup [.str "name",.str x4]) h5;have Ze:=q0D (o:=.tup [.str "answer",.ref p5]) h6;have f1:=Ze.at (aA:4e7 p5=some 7e28);have f2:(Xz 4e7 p6 6e21) p6=some 6e21:=aA;have MM:=2e17;generalize Xz 4e7 p6 6e21=G6 at *;clear M_1 Ze h5 h6;exact q _ (.ans (.name x4)) _ (.ans f2 (.name f1)) trivial 7e7 (J4.kp MM) ((K1.trans K4).trans (MM.mono 0e0))
   right;left;wp_walk;split
   ·refine⟨r,dp - 1,rfl,by omega,by omega,J1,λv s H3 hv ok Zi J3 K3=>?_⟩;wp_walk;exact λp hp=>q _ (.neg s) _ (.neg aA (hv.kp 3e43)) ok 7e7 (J3.new hp) ((K1.trans K3).trans 5e25)
   right;left;wp_walk;refine λp hp=>⟨J1.new hp,λg4 H4 a4 b4 J4 K4=>?_⟩
   exists made1J K4 J1 hp
   refine Cw a4 b4 λv hv=>?_;have KK:Kp [r] H H4:=(K1.trans 5e25).trans K4;clear K1 K4 hp;wp_walk;right;wp_walk;refine⟨r,dp - 1,rfl,by omega,by omega,J4,λu s1 H3 hv1 ok1 hd1 J3 K3=>?_⟩;wp_walk;refine⟨r,dp - 1,rfl,by omega,by omega,J3,λu2 s2 H5 hv2 ok2 hd2 J5 K5 p2 h2=>?_⟩;have KF:=(KK.trans K3).trans (K5.trans (Kp.new (o:=.tup [v,u,u2]) h2));have T1:aF H3 0e35:=(J3.tk K5).trans 5e43;have fin:∀gg:Sg,v=.str gg.s->Q 2e1 0e35:=λgg e=>by
    subst e;exact q _ (.two gg s1 s2) _ (.two aA (hv1.kp T1) (hv2.kp 5e43)) ⟨ok1,ok2⟩ 7e7 (J5.new h2) KF
   simp only[Ε,Θ,ϝ] at hv;rcases hv with e|e|e|e|e
   ·exact fin .add e
   ·exact fin .sub e
   ·exact fin .mul e
   ·exact fin .lt e
   ·exact fin .eq e
theorem dA(T:Tx P w base K mg t):∀d,fJ P w K mg base Yr (d+3) t.qK t.qN ["row","deep"] (CD d):=by
 intro d
 induction d with
 | zero=>exact⟨λ_ _ _ _ x=>by (obtain⟨_,_,_,h,h',_⟩:=x;exact absurd h 1e0),λ_ _ _ _ _ _ _ _ _ _ _ _ _ x=>by (obtain⟨_,_,_,h,h',_⟩:=x;exact absurd h 1e0)⟩
 | succ d ih=>exact CH T 1e0 ih
theorem vI{d:Nat}(hn:3<=n)(IH:fJ P w K mg base Yr n t.kZ t.k5 ["row","deep"] (CG d)):Ok T T.lM (n+1) (zT (d+1)):=by
 nomatch T.lM
 ·obtain⟨r,dp,rfl,_⟩:=h;rfl
 ·obtain⟨r,dp,rfl,d1,d2,hR,q⟩:=h
  nomatch (aI (aJ (bL iC rfl T.iH eU (pa1 (iN (fr:=[0,1]) (N:=["k","row","deep"]) rfl 5e1 (cS.free rfl rfl rfl rfl rfl 9e19 rfl 3e0 rfl (λj hj=>by rcases(show j=0\/j=1 by simpa using hj) with rfl|rfl<;>exact⟨_,rfl,rfl,.inl rfl⟩)) 5e32 (λC s H ex pn=>⟨gW,(sR IH (hr.mono 1e0) rfl T.eP.m T.eP.fn.kp T.eP.bd .nil pass0 (bQ 0e2 (bQ (pv 2) bD))) ⟩)))))),0
  wp_walk;refine⟨hR,λgm G4 a4 b4 J4 K4=>⟨⟨by omega,by omega⟩,?_⟩⟩;obtain⟨Pv,XI⟩:∃Pv:Nat->List V->Hp->Prop,∀i xs G,Pv i xs G = ∃b:List Stm,aW G xs b/\b.length=i/\i<=3/\Ap true b/\mT NM4 b/\(Ao b:Int)<=dp/\dX G r/\Kp [r] H G:=⟨_,λ_ _ _=>rfl⟩;refine Dr (lo:=0) Pv ?_ ?_ ?_ ?_
  ·rw[XI];exact⟨[],.nil,rfl,by omega,by simp only[Ap],by simp only[mT],by simpa[Ao] using d1,J4,K4⟩
  ·intro i xs G h;rw[XI] at h;obtain⟨b,hs,lb,l3,_⟩:=h;have lv:=hs.len;omega
  ·intro i xs G hi h;rw[XI] at h;obtain⟨b,hs,lb,l3,gb,nb,db,JG,KG⟩:=h
   exists aV,Γ8
   refine⟨r,dp,rfl,d1,by omega,JG,λv x G5 hv gx nx dx J5 K5=>?_⟩;show Pv 2e2 _ _;rw[XI];exact⟨b++[x],(hs.kp (JG.tk K5)).snoc hv,by simp[lb],by omega,Ly gb gx,L4 nb nx,by rw[Df];omega,J5,KG.trans K5⟩
  intro xs G h l hl;rw[XI] at h;obtain⟨b,hs,lb,l3,gb,nb,db,JG,KG⟩:=h;have NL:=q0D (o:=.lst xs) hl;have el:Xz G l 3e1 l=some 3e1:=aA;replace hs:=hs.kp 8e42;replace JG:=JG.kp NL;replace KG:=KG.trans (NL.mono (T:=[r]) 0e0);generalize Xz G l 3e1=G8 at *;clear XI Pv NL hl
  exists el
  intro p hp;have N:=q0D (o:=.tup xs) hp;exact q p xs b _ aA (hs.kp 7e1) gb nb db 1e0 (JG.new hp) 9e35
theorem nD{d:Nat}(hn:9<=n)(IH:fJ P w K mg base Yr n t.pC t.pE ["row","deep"] (zT d)):Ok T T.eP (n+1) (CG d):=by
 nomatch T.eP
 ·obtain⟨r,dp,rfl,_⟩:=h;rfl
 ·obtain⟨r,dp,rfl,d1,d2,hR,q⟩:=h
  nomatch (aG (pst 2 8e3) (aG (pst 3 (pix aY aL 8e3)) (aG (pif 3e24 (aI (aJ (aT (bQ aL (pa3 pv3 aL 3e5)))))) (aG (pif 9e4 7e33) (aG (pif 9e4 (aI (aJ (aT (bQ aL (pa3 pv3 (pix aY (bA 7e10) 8e3) 3e5)))))) (aG (pif 9e4 7e33) (aG (pif 9e4 (aI (aJ (aT (pa2 aL (aT (pa2 aL pv3))))))) (aG (pif 9e4 (pss2 (j9 (i:=4) (fr:=[0]) (N:=["k","row"]) rfl 5e1 4e9 5e32 (λC s H ex pn=>⟨gW,(aT (bQ aL (bQ (QB aY aL (sR (cB T) (hr.mono 1e0) rfl T.cF.m T.cF.fn.kp T.cF.bd .nil pass0 (bQ 0e2 (bQ aB bD))) 5e8) bD))) ⟩) sc rfl 8e6) (aJ (aT (pa3 aL pv3 0e34))))) (aG (pif 9e4 (aI (aJ (aT (pa3 aL pv3 (pix aY (bA 7e10) 8e3)))))) (aG (pif 9e4 (aI (aJ (aT (bQ aL (pa3 3e5 aL 3e5)))))) (pss3 (pif (PW.pt (zD 9e4 (sX 6e39))) (aI (aJ (aT (bQ aL (pa3 3e5 (pcl IH T.lM 9e7) (pcl IH T.lM 9e7))))))) (pif 6e39 (aI (aJ (aT (pa3 aL 3e5 (pcl IH T.lM 9e7)))))) (aJ (aT (pa2 aL 3e5)))))))))))))),0
  left;wp_walk;refine⟨hR,λg G1 a1 b1 J1 K1=>?_⟩;wp_walk;right;left;wp_walk;refine⟨J1,λg3 G3 a3 b3 J3 K3=>⟨by decide +kernel,?_⟩⟩;refine wM a3 5e16 λc3 hc3=>?_;obtain⟨x3,ex3,hx3⟩:=abcd1 hc3;rw[ex3];clear ex3 hc3 c3;wp_walk;right;have KK:Kp [r] H G3:=K1.trans K3;clear K1 K3 J1 hR;left;wp_walk;split
  ·skip;refine⟨r,1,rfl,by decide,by decide,J3,λu4 s4 G4 ZM Zd hd4 J4 K4=>?_⟩;wp_walk;refine λp hp=>?_;have N:=q0D (o:=.tup [.str "child",.str x3,.str "other",u4]) hp;have w4:=ZM.kp 7e1;exact q _ (.child x3 "other" s4) _ (.child aA w4) ⟨Zd,by omega⟩ 9e5 0e3 3e18 7e13
  right;left;wp_walk;split
  ·skip;refine⟨r,2,rfl,by decide,by decide,J3,λu4 s4 G4 ZM Zd hd4 J4 K4=>?_⟩;wp_walk;refine λp hp=>?_;have N:=q0D (o:=.tup [.str "set",.str x3,u4]) hp;have w4:=ZM.kp 7e1;exact q _ (.set x3 s4) _ (.set aA w4) ⟨Zd,by omega⟩ 9e5 0e3 3e18 7e13
  right;left;wp_walk;split
  ·skip;refine λp5 h5=>⟨J3.new h5,λg5 G5 a5 b5 J5 K5=>?_⟩
   exists made1J K5 J3 h5
   refine Cw a5 b5 λy5 hy5=>?_;obtain⟨z5,rfl⟩:∃z:Str,y5=.str z:=by simp only[Ε,Θ,ϝ] at hy5;rcases hy5 with rfl|rfl<;>exact⟨_,rfl⟩
   have KK5:Kp [r] H G5:=(KK.trans 0e44).trans K5;wp_walk;refine⟨r,1,rfl,by decide,by decide,J5,λu6 s6 G6 hv6 ok6 hd6 J6 K6=>?_⟩;wp_walk;refine λp hp=>?_;have N:=q0D (o:=.tup [.str "order",.str x3,.str z5,u6]) hp;have w6:=hv6.kp 7e1;exact q _ (.order x3 z5 s6) _ (.order aA w6) ⟨ok6,by omega⟩ 9e5 0e3 2e44 ((KK5.trans K6).trans (N.mono 0e0))
  right;left;wp_walk;split
  ·skip;refine⟨r,1,rfl,by decide,by decide,J3,λu4 s4 G4 ZM Zd hd4 J4 K4=>?_⟩;wp_walk;refine λp hp=>?_;have N:=q0D (o:=.tup [.str "timer",.str x3,u4]) hp;have w4:=ZM.kp 7e1;exact q _ (.XM x3 s4) _ (.XM aA w4) ⟨Zd,by omega⟩ 9e5 0e3 3e18 7e13
  right;left;wp_walk;split
  ·refine λp5 h5 p6 h6=>?_;have M_1:=q0D (o:=.tup [.str "name",.str x3]) h5;have Ze:=q0D (o:=.tup [.str "drop",.ref p5]) h6;have f1:=Ze.at (aA:(Xz G3 p5 1e14) p5=some 1e14);have f2:(Xz (Xz G3 p5 1e14) p6 8e21) p6=some 8e21:=aA;have MM:=2e17;generalize Xz (Xz G3 p5 1e14) p6 8e21=G6 at *;clear M_1 Ze h5 h6;exact q _ (.drop (.name x3)) _ (.drop f2 (.name f1)) ⟨trivial,by simp[Say.depth]⟩ (by simp only[Stm.k9]) 0e3 (J3.kp MM) (KK.trans (MM.mono 0e0))
  right;left;refine BR λRI Zw=>?_;wp_walk;split
  ·refine Zw _ _ ?_;clear Zw RI;refine aQ λRa hRa=>?_;wp_walk;refine⟨J3,λgm G4 a4 b4 J4 K4=>⟨⟨by omega,by omega⟩,?_⟩⟩;obtain⟨Pv,XI⟩:∃Pv:Nat->List V->Hp->Prop,∀i xs G,Pv i xs G = ∃ss:List Say,fW G xs ss/\ss.length=i/\i<=3/\(∀s∈ss,s.sok)/\dX G r/\Kp [r] H G:=⟨_,λ_ _ _=>rfl⟩;refine Dr (lo:=0) Pv ?_ ?_ ?_ ?_
   ·rw[XI];exact⟨[],.nil,rfl,by omega,by simp,J4,KK.trans K4⟩
   ·intro i xs G h;rw[XI] at h;obtain⟨ss,hS,lS,l3,_⟩:=h;have lv:=hS.Vt;omega
   ·intro i xs G hi h;rw[XI] at h;obtain⟨ss,hS,lS,l3,hL,JG,KG⟩:=h
    exists aV,Γ8
    refine⟨JG,λg6 G6 a6 b6 J6 K6=>⟨by decide +kernel,?_⟩⟩;refine wM a6 5e16 λc6 hc6=>?_;obtain⟨x6,ex6,hx6⟩:=abcd1 hc6;rw[ex6];clear ex6 hc6 c6;wp_walk;refine λp7 h7=>?_;have N7:=q0D (o:=.tup [.str "name",.str x6]) h7;have T7:=(JG.tk K6).trans 9e8;show Pv 2e2 _ _;rw[XI];refine⟨ss++[.name x6],(hS.kp T7).snoc (.name aA),by simp[lS],by omega,λy hy=>?_,J6.new h7,(KG.trans K6).trans (N7.mono 0e0)⟩;rcases Υ.mp hy with hy|hy
    ·exact hL y hy
    ·rw[show y=.name x6 by simpa using hy];exact⟨trivial,by simp[Say.depth]⟩
   intro xs G h l hl;rw[XI] at h;obtain⟨ss,hS,lS,l3,hL,JG,KG⟩:=h;have NL:=q0D (o:=.lst xs) hl;have el:Xz G l 3e1 l=some 3e1:=aA;replace hS:=hS.kp 8e42;replace JG:=JG.kp NL;replace KG:=KG.trans (NL.mono (T:=[r]) 0e0);generalize Xz G l 3e1=G8 at *;refine hRa _ _ ?_;clear hRa Ra XI Pv NL hl
   exists el
   refine λp8 h8 p9 h9=>?_;have N:=(q0D (o:=.tup xs) h8).trans (Kp.new (o:=.tup [.str "wait",.str x3,.ref p8]) h9);exact q _ (.wait x3 ss) _ (.wait aA ((q0D h9).at aA) (hS.kp 7e1)) ⟨rfl,by omega,hL⟩ (by simp only[Stm.k9];exact⟨hx3,by omega⟩) 0e3 ((JG.new h8).new h9) 9e35
  clear Zw RI;right;left;wp_walk;split
  ·skip;refine λp5 h5=>⟨J3.new h5,λg5 G5 a5 b5 J5 K5=>?_⟩
   exists made1J K5 J3 h5
   refine Cw a5 b5 λy5 hy5=>?_;obtain⟨z5,rfl⟩:∃z:Str,y5=.str z:=by simp only[Ε,Θ,ϝ] at hy5;rcases hy5 with rfl|rfl<;>exact⟨_,rfl⟩
   have KK5:Kp [r] H G5:=(KK.trans 0e44).trans K5;wp_walk;refine λp hp=>?_;have N:=q0D (o:=.tup [.str "hear",.str x3,.str z5]) hp;exact q _ (.XE x3 z5) _ (.XE aA) trivial 9e5 0e3 6e25 (KK5.trans (N.mono 0e0))
  right;left;wp_walk;split
  ·skip;refine⟨r,0,rfl,by decide,by decide,J3,λu4 s4 G4 ZM Zd hd4 J4 K4=>?_⟩;wp_walk;refine⟨r,1,rfl,by decide,by decide,J4,λu5 s5 G5 hv5 ok5 hd5 J5 K5=>?_⟩;wp_walk;refine λp hp=>?_;have N:=q0D (o:=.tup [.str "send",u4,.str "key",u5]) hp;have w4:=ZM.kp ((J4.tk K5).trans 7e1);have w5:=hv5.kp 7e1;exact q _ (.send s4 "key" s5) _ (.send aA w4 w5) ⟨⟨Zd,by omega⟩,ok5,by omega⟩ 9e5 0e3 6e25 6e31
  right;left;refine BR λRI Zw=>?_;wp_walk;simp only[Vm];split
  ·next hc =>
   refine Zw _ _ ?_;clear Zw RI;wp_walk;refine⟨r,1,rfl,by decide,by decide,J3,λu4 s4 G4 ZM Zd hd4 J4 K4=>?_⟩;wp_walk;refine⟨r,dp - 1,rfl,by omega,by omega,J4,λp5 us5 b5 G5 e5 hs5 gd5 nm5 dp5 l5 J5 K5=>?_⟩;wp_walk;refine⟨r,dp - 1,rfl,by omega,by omega,J5,λp6 us6 b6 G6 e6 hs6 gd6 nm6 dp6 l6 J6 K6=>?_⟩;wp_walk;refine λp hp=>?_;have N:=q0D (o:=.tup [.str "if",u4,.ref p5,.ref p6]) hp;have T6:=(J5.tk K6).trans 7e1;have T5:=(J4.tk K5).trans T6;exact q _ (.iff s4 b5 b6) _ (.iff aA (ZM.kp T5) (T6 _ _ e5) (hs5.kp T6) (N.at e6) (hs6.kp 7e1)) ⟨⟨Zd,by omega⟩,gd5,gd6⟩ (by simp only[Stm.k9];exact⟨⟨by omega,by omega⟩,nm5,nm6⟩) 0e3 2e44 ((((KK.trans K4).trans K5).trans K6).trans (N.mono 0e0))
  clear Zw RI;right;left;wp_walk;split
  ·skip;refine⟨r,1,rfl,by decide,by decide,J3,λu4 s4 G4 ZM Zd hd4 J4 K4=>?_⟩;wp_walk;refine⟨r,dp - 1,rfl,by omega,by omega,J4,λp5 us5 b5 G5 e5 hs5 gd5 nm5 dp5 l5 J5 K5=>?_⟩;wp_walk;refine λp hp=>?_;have N:=q0D (o:=.tup [.str "while",u4,.ref p5]) hp;have T5:=(J4.tk K5).trans 7e1;exact q _ (.Yh s4 b5) _ (.Yh aA (ZM.kp T5) (N.at e5) (hs5.kp 7e1)) ⟨⟨Zd,by omega⟩,gd5⟩ (by simp only[Stm.k9];exact⟨by omega,nm5⟩) 0e3 6e25 6e31
  right;wp_walk;refine⟨r,1,rfl,by decide,by decide,J3,λu4 s4 G4 ZM Zd hd4 J4 K4=>?_⟩;wp_walk;refine λp hp=>?_;have N:=q0D (o:=.tup [.str "end",u4]) hp;have w4:=ZM.kp 7e1;exact q _ (.fin s4) _ (.fin aA w4) ⟨Zd,by omega⟩ 9e5 0e3 3e18 7e13
theorem blk0(T:Tx P w base K mg t):fJ P w K mg base Yr 9 t.pC t.pE ["row","deep"] (zT 0) :=
 ⟨λ_ _ _ _ x=>by (obtain⟨_,_,_,h,h',_⟩:=x;exact absurd h 1e0),λ_ _ _ _ _ _ _ _ _ _ _ _ _ x=>by (obtain⟨_,_,_,h,h',_⟩:=x;exact absurd h 1e0)⟩
theorem GY{t:Ad}(T:Tx P w base K mg t):∀d:Nat,fJ P w K mg base Yr (2 * d+10) t.kZ t.k5 ["row","deep"] (CG d)/\fJ P w K mg base Yr (2 * d+11) t.pC t.pE ["row","deep"] (zT (d+1))
 | 0=>by
  have a:=nD (P:=P) (base:=base) T (n:=9) (d:=0) (Ζ _) (blk0 T);exact⟨a,vI T 1e0 a⟩
 | d+1=>by
  have a:=nD (P:=P) (base:=base) T (n:=2 * d+11) (d:=d+1) 1e0 (GY T d).2;exact⟨a,vI T 1e0 a⟩
theorem kU:Ok T T.gG 14 HH:=by
 nomatch T.gG
 ·obtain⟨r,rfl,_⟩:=h;rfl
 ·obtain⟨r,rfl,J,q⟩:=h
  nomatch (pss3 (pst 1 (pcl (GY T 0).1 T.eP 5e12)) (pif (gU Cm 5e0 (aT 7e10) 6e4) (aI (aJ (aT (pa3 aL aL (aT (pa2 aL aB))))))) 8e27),0
  left;wp_walk;refine⟨r,0,rfl,by decide,by decide,J,λv x G1 hv gx nx dx J1 K1=>?_⟩;have d0:x.dp=0:=by omega
  obtain⟨a,kd,xs,rfl,ea,_⟩:=hv.Qw;right
  exists ea
  refine λp2 h2=>⟨rfl,rfl,?_⟩;have N2:=q0D (o:=.tup [.str "hear",.str "send"]) h2;have nr:r≠p2:=λz=>by
   obtain⟨_,_,e,_⟩:=J1;rw[<- z,e] at h2;cases h2
  have K2:Kp [r] H (Xz G1 p2 5e33):=K1.trans (N2.mono 0e0);have J2:=J1.kp N2;have hv2:=hv.kp 2e18;generalize Xz G1 p2 5e33=G2 at *;split
  ·refine λp3 h3 p4 h4=>?_;have N3:=q0D (o:=.tup [.str "number",.int 2]) h3;have N4:=q0D (o:=.tup [.str "set",.str "a",.ref p3]) h4;exact q _ (.set "a" (.num 2)) _ (.set aA (.num (N4.at aA))) ⟨⟨by decide,by decide⟩,by decide⟩ rfl ((J2.kp N3).kp N4) (K2.trans ((N3.trans N4).mono 0e0))
  ·exact q _ x _ hv2 gx d0 J2 K2
theorem Bi:Ok T T.pI 1 QI:=by
 nomatch T.pI
 ·obtain⟨c,rfl,_⟩:=h;rfl
 ·obtain⟨c,rfl,q⟩:=h
  nomatch (aI (aJ (bA (pa2 pv0 (bF mO pv0 aB))))),0
  wp_walk;exact λr YS=>q r _ YS (Kp.new YS) ⟨_,_,aA,Θ2 _ 3e0,Ζ1 _ 3e0⟩
theorem Fb:Ok T T.xX 20 HA:=by
 nomatch T.xX
 ·obtain⟨cl,ms,rfl,_⟩:=h;rfl
 ·obtain⟨cl,ms,rfl,ec,lm,q⟩:=h
  nomatch (aI (aJ (bL pZ rfl T.iH eU (pa1 (iN (cl:=[]) (fr:=[]) (N:=["cell"]) rfl 5e1 5e15 (dH pv0) (λC s H ex pn=>⟨gW,(sR (kU T) (hr.mono 1e0) rfl T.gG.m T.gG.fn.kp T.gG.bd .nil pass0 (bQ (sR (Bi T) (hr.mono 1e0) rfl T.pI.m T.pI.fn.kp T.pI.bd .nil pass0 6e5) bD)) ⟩)))))),0
  exists ec
  refine⟨⟨_,c5.of ec⟩,jH (ys:=ms.map V.int) (λi xs G=>∃b,aW G xs b/\(∀x∈b,x.gd true/\x.dp=0)/\b.length=i/\i<=ms.length/\Kp [] H G) ⟨[],.nil,(λx h=>by cases h),rfl,ϖ _,.refl⟩ 4e23 4e23 9e34 λxs G h l hl=>?_⟩
  ·obtain⟨b,hs,_,lb,li,_⟩:=h;have:=hs.len;omega
  ·obtain⟨b,_,_,_,_,k⟩:=h;exact c5.of (k.at ec)
  ·obtain⟨b,hs,hb,lb,li,k⟩:=h;rw[Δ] at hi;obtain⟨z,rfl⟩:=GP ey;wp_walk;refine λr G2 nr K2 J2=>⟨r,rfl,J2,λv x G3 hv gx dx J3 K3=>?_⟩;have KG3:Kp [] G G3:=λb o e _=>K3.at1 8e26 6e26;refine⟨b++[x],((hs.kp (aF.nil KG3)).snoc hv),λm hm=>?_,by simp[lb],hi,k.trans KG3⟩;rcases Υ.mp hm with h|h
   ·exact hb m h
   ·rw[Τ.mp h];exact⟨gx,dx⟩
  ·obtain⟨b,hs,hb,lb,li,k⟩:=h;have N:=q0D (o:=.lst xs) hl;have el:Xz G l 3e1 l=some 3e1:=aA;replace hs:=hs.kp 7e1;replace k:=k.trans N;generalize Xz G l 3e1=G2 at *
   exists el
   refine⟨l,xs,rfl,.inl ⟨c5.of el,λl2 h2=>?_⟩⟩;have N2:=q0D (o:=.tup xs) h2;exact q l2 xs b _ aA (hs.kp 2e18) hb 1e0 (k.trans N2)
theorem oI:Ok T T.jF 2 (Nc K):=by
 nomatch T.jF
 ·obtain⟨v,b,S,rfl,_⟩:=h;rfl
 ·obtain⟨v,b,S,rfl,XQ,z,q⟩:=h
  nomatch (aI (aJ (oP (gU 2e39 3e2 9e32 6e4) (aT bD) 3e2))),0
  unfold rJ at XQ;cases hg:S.sl.dQ with
  | false =>
   rw[if_neg 7e16] at XQ;obtain⟨p0,s0,r0,rfl,e0,hi⟩:=XQ.short z.isN hg
   exists e0
   refine⟨["new","ended","worn"],T.gX _,.inl ⟨s0,rfl,?_⟩⟩;rw[hi];wp_walk;refine λc hc=>q c _ (.new hc) ?_;rw[z.pd hg];exact aA
  | true =>
   rw[if_pos hg] at XQ;obtain⟨p,pl,pn,po,pa,pt,s1,un,ua,ut,rfl,h1,h2,h3,h4,h5,h6,h7,h8,h9,h10⟩:=XQ;obtain⟨ps,xs1,rfl,es⟩:=h2.tup z.isN
   exists h1
   refine⟨["new","ended","worn"],T.gX _,.inr ⟨ps,xs1,rfl,.inl (.inl es),?_⟩⟩
   exists h1
   exact q po _ .refl h6
theorem pU:Ok T T.gN 6 (MS K):=by
 nomatch T.gN
 ·obtain⟨v1,v2,wl,kl,b,c,S,U,N,M,ws,rfl,_⟩:=h;rfl
 ·obtain⟨v1,v2,wl,kl,b,c,S,U,N,M,ws,rfl,gb,gc,YE,Yo,y1,y2,ew,lw,ek,q⟩:=h
  nomatch (aG (pif (ptc (Pc hr) pv0 1e21) (aI (aJ (iN (cl:=[]) (fr:=[]) (N:=["worth"]) rfl 5e1 5e15 (dH (eM Xd pv2 fT 0e18)) (λC s H ex pn=>⟨gW,(aT (bQ aL (bQ aB 6e5))) ⟩))))) (aG (pst 4 3e3) (pss3 (i7 Γ0 rfl (dH (bJ 1e19 rfl T.jT iB (pa1 (bL 5e11 rfl T.FR xB (pa1 (bF iV (pcl (oI T) T.jF 7e12) (pcl (oI T) T.jF 4e3))))))) (jO (i:=5) sc rfl 8e5) (aI (bH (vB Ε0 Δ9 mL pv4 (pa1 (iN (fr:=[5]) (N:=["worth","ticket"]) rfl 5e1 (cS.free rfl rfl rfl rfl rfl 1e15 rfl 3e0 rfl (λj hj=>by rw[show j=5 by simpa using hj];exact⟨_,rfl,rfl,.inl rfl⟩)) 3e19 4e29)))))) (i7 Γ0 rfl (dH pv3) (jO (i:=6) sc rfl 8e5) (aI (bH (vB Ε0 Δ9 mL pv4 (pa1 (iN (fr:=[6]) (N:=["worth","key"]) rfl 5e1 (cS.free rfl rfl rfl rfl rfl 1e15 rfl 3e0 rfl (λj hj=>by rw[show j=6 by simpa using hj];exact⟨_,rfl,rfl,.inl rfl⟩)) 3e19 4e29)))))) (aJ pv4)))),0
  obtain⟨l0,e0,d0,b0⟩:=Og y1.z.isN;have dv0:=YE.dv;rw[e0] at dv0;left;wp_walk;refine⟨l0,[.str "new"],dv0,⟨_,_,rfl,T.To _,_,_,rfl,rfl,rfl⟩,b0,by decide,?_⟩;cases hn:S.sl.isNew with
  | true =>
   rw[if_pos (of_decide_eq_true 9e40)];have hh:dM ws S U=(ws.take 1).map (Hap.XS 0):=by unfold dM;rw[if_pos hn]
   rw[hh] at q;have hc:fK 6e10 none (some 1)=(ws.take 1).map wv:=by
    cases ws with
    | nil=>rfl
    | cons w r=>simp[fK,HT.fG]
   exists ew,hc
   intro p hp;have N0:=q0D (o:=.lst 1e16) hp;have el:Xz H p (.lst 1e16) p=some (.lst 1e16):=aA;generalize Xz H p (.lst 1e16)=G0 at *;refine⟨⟨_,c5.of el⟩,jH (ys:=(ws.take 1).map wv) (λi xs G=>cD G xs (((ws.take 1).take i).map (Hap.XS 0))/\Kp [] G0 G) ⟨.nil,.refl⟩ 4e23 (λi xs G h=>c5.of 2e25) 9e34 λxs G h l hl=>?_⟩
   ·rw[h.1.len];simp;omega
   ·rw[Ψ] at ey;obtain⟨w0,ew0,rfl⟩:=ϑ.mp ey;wp_walk;refine λa ha=>⟨?_,h.2.trans (.new ha)⟩;rw[Α6,ew0];simp only[Option.toList,Ϙ,ϔ,Ζ4];exact(h.1.kt 4e43).snoc ⟨a,rfl,aA⟩
   ·have N1:=q0D (o:=.lst xs) hl;have h1:=h.1;rw[Δ,Β9] at h1;exact q l xs _ (by cases zz:H l with|none=>rfl|some o=>(rw[(N0.trans h.2).at zz] at hl;cases hl)) ((N0.trans h.2).trans N1) aA (h1.kt (aF.nil N1))
  | false =>
   rw[if_neg (of_decide_eq_false 9e40)];right;replace YE:rJ H v1 S:=YE.resolve_right λz=>by rw[z.1] at hn;cases hn
   replace Yo:=Yo hn;have hh:dM ws S U=(gB S U).flatMap λi=>ws.map 1e41:=by unfold dM;rw[if_neg (by rw[hn];simp)]
   rw[hh] at q;left;wp_walk;intro hl hhl;right;left
   exists FJ,rC
   have N0:=q0D (o:=.lst []) hhl;have eh:Xz H hl 4e0 hl=some 4e0:=aA;generalize Xz H hl 4e0=G0 at *;refine⟨v1,b,S,rfl,YE.kp N0,y1.z,λq1 G1 K1 e1=>?_⟩;refine⟨v2,c,U,rfl,Yo.kp (N0.trans K1),y2.z,λq2 G2 K2 e2=>?_⟩;have lp1:=y1.oQ gb;have lp2:=y2.oQ gc;refine vJ (K2.at e1) e2 (by simp only[Δ];omega) λp3 G3 e3 K3=>?_;wp_walk;refine⟨(S.pend++U.pend).map Key.inl,.inr (cJ.of (by rw[e3];simp[kV,Β1,Ζ9])),by simp only[Δ,Ι];omega,λl4 h4=>?_⟩;obtain⟨us,eu,nd,mem,lu⟩:=lV (S.pend++U.pend);rw[Ι] at lu;refine⟨_,rfl,by rw[eu,Δ];omega,.inl ⟨us,eu,λl5 ns h5 hp hs=>?_⟩⟩;have n5:l5≠hl:=λe=>by
    rw[e,(q0D h4).at (K3.at (K2.at (K1.at eh)))] at h5;cases h5
   have ZF:ns=gB S U:=q9 hp nd mem hs;subst ZF;have N5:=(q0D (o:=nH P w l4 3e29) h4).trans (Kp.new (o:=.lst 2e16) h5);have e5:Xz 1e35 l5 (.lst 2e16) l5=some (.lst 2e16):=aA;generalize Xz 1e35 l5 (.lst 2e16)=G5 at *;have K5:Kp [] G0 G5:=((K1.trans K2).trans K3).trans N5;have lt5:(gB S U).length<=100:=by rw[hp.length_eq];omega
   replace eh:=K5.at eh;have hH5:∀{G},Kp [hl] G5 G->Kp [] H G:=λ{G} k a o e _=>k.at1 ((N0.trans K5).at e) (aD e hhl);clear N5 K3 K2 K1 e1 e2 e3 h4 h5 hp hs mem nd eu lu;refine⟨⟨_,c5.of e5⟩,?_⟩;obtain⟨Pv,XI⟩:∃Pv:Nat->St->Hp->Prop,∀i σ G,Pv i σ G=E2 fun(x:Option V) (hv:List V)=>A5 (σ=[some v1,some v2,some 9e1,some 4e11,some (.ref hl),x,none]) (G hl=some (.lst hv)) (cD G hv (((gB S U).take i).flatMap λi=>ws.map 1e41)) (hv.length<=100 * i) (Kp [hl] G5 G):=⟨_,λ_ _ _=>rfl⟩;refine iS (xs:=(gB S U).map V.int) Pv ?_ ?_ ?_ ?_
   ·rw[XI];exact⟨none,[],rfl,eh,.nil,by simp,.refl⟩
   ·intro i σ G _ h;rw[XI] at h;obtain⟨_,_,_,_,_,_,k⟩:=h;exact c5.of (k.at1 e5 n5)
   ·intro i y σ G hy h;rw[XI] at h;obtain⟨x,hv,rfl,eG,hG,lG,kG⟩:=h;have il:i < (gB S U).length:=by simpa using(Λ.mp hy).1
    rw[Ψ] at hy;obtain⟨tk,etk,rfl⟩:=ϑ.mp hy;have ewG:=(hH5 kG).at ew
    exists eG,ewG
    refine⟨⟨_,c5.of ewG⟩,jH (ys:=ws.map wv) (λj xs G'=>cD G' xs ((ws.take j).map (Hap.don 0 tk))/\Kp [] G G') ⟨.nil,.refl⟩ (λj xs G' h=>?_) (λj xs G' h=>c5.of (h.2.at ewG)) (λj z xs G' hj ez h=>?_) λxs G' h l hl6=>?_⟩
    ·rw[h.1.len];simp;omega
    ·rw[Ψ] at ez;obtain⟨w0,ew0,rfl⟩:=ϑ.mp ez
     exists aV,Γ8
     refine λa ha=>⟨?_,h.2.trans (.new ha)⟩;rw[Α6,ew0];simp only[Option.toList,Ϙ,ϔ,Ζ4];exact(h.1.kt 4e43).snoc ⟨a,rfl,aA⟩
    ·obtain⟨h1,k6⟩:=h;rw[Δ,Β9] at h1;have lx:xs.length=ws.length:=by rw[h1.len,Δ]
     have N6:=q0D (o:=.lst xs) hl6;have e6:Xz G' l 3e1 l=some 3e1:=aA;have eG6:=N6.at (k6.at eG);generalize Xz G' l 3e1=G6 at *
     exists eG6,e6
     have tk7:aF G6 (Xz G6 hl (.lst (hv++xs))):=aF.JC eG6;refine⟨by omega,?_⟩;rw[XI];refine⟨_,hv++xs,rfl,aA,?_,by simp only[Ι];omega,(kG.trans ((k6.trans N6).mono 0e0)).trans (Kp.set 0e0)⟩;rw[jE _ _ _ etk];exact(((hG.kt (aF.nil (k6.trans N6))).kt tk7).app ((h1.kt 9e42).kt tk7))
   ·intro σ G h;rw[XI] at h;obtain⟨x,hv,rfl,eG,hG,lG,kG⟩:=h;rw[Δ,Β9] at hG;right;left;have ekG:=(hH5 kG).at ek
    exists ekG
    refine⟨⟨_,c5.of ekG⟩,?_⟩;refine iS (xs:=[]) (λ_ σ' G'=>σ'=[some v1,some v2,some 9e1,some 4e11,some (.ref hl),x,none]/\G'=G) ⟨rfl,rfl⟩ (λi σ' G' _ h=>by rw[h.2];exact c5.of ekG) (λi y σ' G' hy=>by simp at hy) ?_;rintro σ' G' ⟨rfl,rfl⟩;right;wp_walk;exact q hl hv _ hhl (hH5 kG) eG hG
theorem DG:Ok T T.tR 1 (zW t.aO):=by
 nomatch T.tR
 ·obtain⟨x,dx,p,us,b,rfl,_⟩:=h;rfl
 ·obtain⟨x,dx,p,us,b,rfl,e,ep,hU,q⟩:=h
  nomatch (pss2 (bO T.bX T.iU pv0 (bA 4e3)) (bO T.bX T.dE pv0 7e24)),0
  exists e
  refine λlb f1=>?_;have n1:x≠lb:=aD e f1
  exists aC n1,e
  refine λln f2=>?_;have n2:x≠ln:=aD aA f2;have n3:lb≠ln:=aD 2e34 f2
  exists aC n2
  rw[aC n2.symm,aC n3.symm] at f2;have npx:p≠x:=bU ep e 7e0;have npl:=aD ep f1;have npn:=aD ep f2;have KK:Kp [x] H (Xz (Xz (Xz (Xz H lb (.lst [.ref p])) x (.ins t.aO dx [("blocks",.ref lb)])) ln 9e16) x (.ins t.aO dx [("blocks",.ref lb),("numbers",.ref ln)])):=λb o eb nb=>by
   have nb':b≠x:=by simpa using nb
   rw[aC nb',aC (aD eb f2),aC nb',aC (aD eb f1)];exact eb
  have TT:aF H _:=λa xs ea=>KK a _ ea (by simp only[Ε,Θ,ϝ];exact bU ea e 7e0);refine q lb ln _ f1 f2 ⟨aA,⟨[.ref p],?_,.one (TT _ _ ep) (hU.kp TT)⟩,?_,n3,by simp⟩ KK
  ·rw[aC n1.symm,aC n3,aC n1.symm];exact aA
  ·rw[aC n2.symm];exact aA
theorem yW:Ok T T.mF 1 (zV t.aE):=by
 nomatch T.mF
 ·obtain⟨x,dx,rfl,_⟩:=h;rfl
 ·obtain⟨x,dx,rfl,e,q⟩:=h
  nomatch (pss3 (bO T.aX T.qY pv0 aB) (bO T.aX T.fF pv0 sT) (bO T.aX T.eZ pv0 sT)),0
  exists e
  refine λdp f1=>?_;have n1:x≠dp:=aD aA f1
  exists aC n1
  refine λda f2=>?_;have n2:x≠da:=aD aA f2;have n3:dp≠da:=aD 2e34 f2
  exists aC n2
  rw[aC n1.symm] at f1;rw[aC n2.symm,aC n3.symm,aC n2.symm] at f2;refine q dp da _ f1 f2 ⟨aA,?_,?_,n3,by simp,.nil,by simp,by simp,by decide⟩ ?_
  ·rw[aC n1.symm,aC n3,aC n1.symm];exact aA
  ·rw[aC n2.symm];exact aA
  ·intro b o eb nb;have nb':b≠x:=by simpa using nb
   rw[aC nb',aC (aD eb f2),aC nb',aC (aD eb f1),aC nb'];exact eb
theorem fX:Ok T T.gK 3 (CF ⟨t.aP,t.aO,t.aE⟩):=by
 nomatch T.gK
 ·obtain⟨x,dx,pg,us,b,rfl,_⟩:=h;rfl
 ·obtain⟨x,dx,pg,us,b,rfl,e,ep,hs,q⟩:=h
  nomatch (aG (bO T.aM T.i6 pv0 (kW T.EX (DG T) (hr.mono 1e0) rfl T.Vu T.tR.bd .nil pass0 4e3)) (aG (bO T.aM T.cX pv0 2e10) (aG (bO T.aM T.yR pv0 fZ) (aG (bO T.aM T.qB pv0 aB) (pss3 (bO T.aM T.fE pv0 sT) (bO T.aM T.bR pv0 (Mw T.uB (yW T) (hr.mono 1e0) rfl T.LW T.mF.bd .nil pass0)) (bO T.aM T.fD pv0 sT)))))),0
  left
  exists e
  refine O6 ep hs λwk wx lb ln Gw Kw hwk hlb hln W0=>?_;have ew:=Kw.at e
  exists ew
  have g1:Xz Gw x 8e13 x=some 8e13:=aA;have K1:Kp [x] Gw (Xz Gw x 8e13):=Kp.set 0e0;generalize Xz Gw x 8e13=G1 at *;right;left
  exists g1
  refine λp h2=>?_;obtain⟨g2,f2,K2,n2⟩:=put2 (o:=.tup [.str "new"]) (o':=.ins t.aP dx [("walk",.ref wk),("sleep",.ref p)]) g1 h2
  exists aC n2,g1
  generalize Xz (Xz G1 p (.tup [.str "new"])) x (.ins t.aP dx [("walk",.ref wk),("sleep",.ref p)])=G2 at *;right;left
  exists g2
  have g3:Xz G2 x 6e12 x=some 6e12:=aA;have K3:Kp [x] G2 (Xz G2 x 6e12):=Kp.set 0e0;generalize Xz G2 x 6e12=G3 at *;right;left
  exists g3
  have g4:Xz G3 x 4e12 x=some 4e12:=aA;have K4:Kp [x] G3 (Xz G3 x 4e12):=Kp.set 0e0;generalize Xz G3 x 4e12=G4 at *;right;left
  exists g4
  refine λnm h5=>?_;obtain⟨g5,f5,K5,n5⟩:=put2 (o:=.dK []) (o':=.ins t.aP dx [("walk",.ref wk),("sleep",.ref p),("arg",.XB),("now",.int 0),("names",.ref nm)]) g4 h5
  exists aC n5,g4
  generalize Xz (Xz G4 nm (.dK [])) x (.ins t.aP dx [("walk",.ref wk),("sleep",.ref p),("arg",.XB),("now",.int 0),("names",.ref nm)])=G5 at *;right;left
  exists g5
  refine Vv λtk tx dp da Gt Kt htk Zi Y7 T0=>?_;have et:=Kt.at g5
  exists et
  have g6:Xz Gt x 0e12 x=some 0e12:=aA;have K6:Kp [x] Gt (Xz Gt x 0e12):=Kp.set 0e0;generalize Xz Gt x 0e12=G6 at *;right
  exists g6
  refine λlt h7=>?_;obtain⟨g7,f7,K7,n7⟩:=put2 (o:=.dK []) (o':=.ins t.aP dx [("walk",.ref wk),("sleep",.ref p),("arg",.XB),("now",.int 0),("names",.ref nm),("tickets",.ref tk),("letters",.ref lt)]) g6 h7
  exists aC n7,g6
  generalize Xz (Xz G6 lt (.dK [])) x (.ins t.aP dx [("walk",.ref wk),("sleep",.ref p),("arg",.XB),("now",.int 0),("names",.ref nm),("tickets",.ref tk),("letters",.ref lt)])=G7 at *;have KA:Kp [x] H G4:=((((Kw.mono 0e0).trans K1).trans K2).trans K3).trans K4;have KB:Kp [x] H Gt:=(KA.trans K5).trans (Kt.mono 0e0);have KC:Kp [x] H G6:=KB.trans K6;have xwk:x≠wk:=aD e hwk;have xtk:x≠tk:=aD g5 htk;have W7:Kp [x] Gw G7:=(((((K1.trans K2).trans K3).trans K4).trans K5).trans (Kt.mono 0e0)).trans 8e24;have P7:Kp [x] G2 G7:=(((K3.trans K4).trans K5).trans (Kt.mono 0e0)).trans 8e24;have N7:Kp [x] G5 G7:=(Kt.mono 0e0).trans 8e24;have T7:Kp [x] Gt G7:=K6.trans K7;have KD:Kp [x] H G7:=KC.trans K7;have W5:Kp [x] Gw G5:=((((K1.trans K2).trans K3).trans K4).trans K5);have xlb:lb≠x:=(aD e hlb).symm;have xln:ln≠x:=(aD e hln).symm;have xdp:dp≠x:=(aD g5 Zi).symm;have xda:da≠x:=(aD g5 Y7).symm;have nm6:=K6.at1 (Kt.at f5) n5.symm;have dp6:=K6.at1 T0.hp xdp;have da6:=K6.at1 T0.ha xda;have wk5:=W5.at1 W0.ins xwk.symm;have fr4:H nm=none:=WX KA g4 h5;have fr5:∀{a:Addr},G5 a=none->H a=none:=λh=>WX (KA.trans K5) g5 h;have acR:H lt=none:=WX KC g6 h7;have kt7:aF Gw G7:=λb xs hb=>W7.at1 hb (bU hb ew 7e0);refine q ⟨x,dx,wk,wx,lb,ln,nm,tk,tx,dp,da,lt⟩ 5e3 G7 rfl ⟨g7,⟨p,rfl,P7.at1 f2 n2.symm⟩,W0.keep (λo h=>W7.at1 h xwk.symm) (λo h=>W7.at1 h xlb) (λo h=>W7.at1 h xln) kt7,T0.keep (λo h=>T7.at1 h xtk.symm) (λo h=>T7.at1 h xdp) (λo h=>T7.at1 h xda),N7.at1 f5 n5.symm,⟨[],f7,.nil⟩,by simp,by simp,xwk,xtk,aD wk5 htk,aD f5 Zi,aD f5 Y7,aD nm6 h7,(aD dp6 h7).symm,(aD da6 h7).symm⟩ KD λa ha=>?_;simp only[Rn.cells,Ε,Θ,ϝ] at ha;rcases ha with rfl|rfl|rfl|rfl|rfl|rfl|rfl|rfl
  ·exact .inl rfl
  ·exact .inr hlb
  ·exact .inr hln
  ·exact .inr fr4
  ·exact .inr (fr5 htk)
  ·exact .inr (fr5 Zi)
  ·exact .inr (fr5 Y7)
  ·exact .inr acR
theorem fS:Ok T T.eN 1 (zX t.aO):=by
 nomatch T.eN
 ·obtain⟨wk,wx,lb,ln,k,n,b,r,m,rfl,_⟩:=h;rfl
 ·obtain⟨wk,wx,lb,ln,k,n,b,r,m,rfl,W,hm,q⟩:=h
  nomatch (aI (aJ (pix aY (pix aY 8e9 0e5) (pix aY 7e4 0e5)))),0
  obtain⟨vs,eb,hB⟩:=W.bl;obtain⟨ws,p,us,rfl,ep,hU,_,_⟩:=hB.last;obtain⟨l,el,_⟩:=uF k n b r;have en:=W.nu;rw[el] at en;have hn:n < us.length:=by
   have:=(Λ.mp hm).1;have:=hU.len;omega
  obtain⟨m',hm',hM⟩:=hU.at (Μ hn);rw[hm] at hm';cases hm';have i1:iR 3e39 (-1)=some 5e3:=nN _ _;have i2:iR 2e22 (-1)=some 6e3:=by rw[Ϙ];exact nN _ _
  have i3:iR us (n:Int)=some us[n]:=rQ (Μ hn)
  exists W.ins,eb,en,i1,i2,ep,i3
  exact q _ hM
theorem mN:Ok T T.jY 2 (uR t.aO):=by
 nomatch T.jY
 ·obtain⟨wk,wx,lb,ln,k,n,c,b,bb,r,m,rfl,_⟩:=h;rfl
 ·obtain⟨wk,wx,lb,ln,k,n,c,b,bb,r,m,rfl,W,hm,hs,abX,q⟩:=h
  nomatch (pss2 (bH (wK 8e9 (pix aY 9e21 (bF dB aB pv1)))) (bH (vB Ε0 Δ9 mL 7e4 (pa1 (bA (pa2 pv1 aB)))))),0
  obtain⟨vs,eb,hB⟩:=W.bl;have n1:wk≠ln:=bU W.ins W.nu 7e0;have n2:wk≠lb:=bU W.ins eb 7e0;have lv:=hB.len
  exists W.ins,eb
  refine⟨wk,wx,lb,ln,k,n,b,r,m,rfl,W,hm,λv hv=>?_⟩;obtain⟨a,p,xs,us,rfl,ea,hat,ep,hU⟩:=hv.subAt hs
  exists ea,hat,eb
  have lf:=W.Zu;simp only[Κ] at lv lf;refine⟨by omega,?_⟩;have T1:=aF.eX (ys:=vs++[V.ref p]) eb;have i1:Xz H lb 0e8 wk=some 7e20:=by rw[aC n2];exact W.ins
  have i2:Xz H lb 0e8 ln=some 5e13:=by rw[aC W.ne.symm];exact W.nu
  have i3:Xz H lb 0e8 lb=some 0e8:=aA;have K1:Kp [lb] H (Xz H lb 0e8):=Kp.zQ;have B1:=hB.kp T1;have U1:=hU.kp T1;have p1:=T1 _ _ ep;generalize Xz H lb 0e8=G at *
  exists i1,i2
  refine λl0 f0=>?_;have N0:=q0D (o:=.lst [.int c,.int 0]) f0
  exists N0.at i2,Δ
  have ll:=DC 0e6;simp only[Κ] at ll;refine⟨by omega,?_⟩;have nl0:ln≠l0:=aD i2 f0;have nb0:lb≠l0:=aD i3 f0;have nw0:wk≠l0:=aD i1 f0;have T2:aF G (Xz (Xz G l0 (.lst [.int c,.int 0])) ln (.lst ((bP 0e6).map V.int++[.int c,.int 0]))):=(aF.nil N0).tr (aF.eX (N0.at i2));refine q _ ⟨by rw[aC n1,aC nw0];exact i1,⟨_,by rw[aC W.ne,aC nb0];exact i3,.cons (B1.kp T2) (T2 _ _ p1) (U1.kp T2)⟩,by rw[aA,uG];simp,W.ne,by simp only[Κ];omega⟩ ?_;intro d o ed nd;simp only[Ε,Θ,ϝ,not_or] at nd;have g1:=K1.at1 ed nd.1;rw[aC nd.2,aC (aD g1 f0)];exact g1
theorem DF:Ok T T.tQ 3 (MR t.aO):=by
 nomatch T.tQ
 ·obtain⟨wk,wx,lb,ln,pl,b,n,rfl,_⟩:=h;rfl
 ·obtain⟨wk,wx,lb,ln,pl,b,n,rfl,W,ep,q⟩:=h
  nomatch (pss2 (i7 Γ0 rfl (Cr (Jp pv1 0e18 fT 0e18)) (pgn 2) (pss2 (Cs (pix aY pv1 (bF lA (bJ gE rfl T.rE iA (pa1 7e4)) aB)) (Cp 7e4 0e5 DZ)) (bH (pmt pv0 T.bX (mN T) T.jY 8e1)))) (Cs (pix aY pv1 0e5) (Cp 7e4 0e5 DZ))),0
  have ei:=W.ins;have en:=W.nu;have n1:wk≠ln:=bU ei en 7e0;wp_walk;refine⟨pl,_,rfl,cJ.of ep,λod hod=>?_⟩;rw[show kP [V.int (n:Int)]=[] from rfl];have N0:=q0D (o:=.tup []) hod;have eod:Xz H od 1e11 od=some 1e11:=aA;replace W:=W.kp N0;replace ep:=N0.at ep;generalize Xz H od 1e11=G0 at *;clear ei en;refine⟨⟨_,cJ.of eod⟩,?_⟩;refine OU (xs:=[]) (λ_ σ G=>σ=[some 9e26,some (.ref pl),none]/\G=G0) ⟨rfl,rfl⟩ (λi σ G _ h=>by rw[h.2];exact cJ.of eod) (λi y σ G hy=>by simp at hy) ?_;rintro σ G ⟨rfl,rfl⟩;have ei:=W.ins;have en:G ln=some (.lst [V.int 0]):=W.nu;have hal:iR [V.int (n:Int)] (-1)=some 6e3:=rfl;have ix:yK 1 (-1)=some 0:=rfl
  exists ei,en,ep,hal,ix
  obtain⟨vs,eb,hB⟩:=W.bl;refine q _ ⟨by rw[aC n1];exact ei,⟨vs,by rw[aC W.ne];exact eb,?_⟩,aA,W.ne,by simp⟩ ((N0.mono 0e0).trans (Kp.set 0e0));cases hB with
  | one e s=>exact .one (by rw[aC (bU e en 7e0)];exact e) (s.kp λa xs h=>by rw[aC (bU h en 7e0)];exact h)
  | cons h _ _=>cases h
theorem Mg:Ok T T.EM 6 (MY K ⟨t.aP,t.aO,t.aE⟩):=by
 nomatch T.EM
 ·obtain⟨pg,v,us,b,rfl,_⟩:=h;rfl
 ·obtain⟨pg,v,us,b,rfl,ep,hB,q0⟩:=h
  nomatch (aG (pst 2 8e12) (aG (pif (gU 2e39 8e39 9e32 6e4) (pss2 (bO T.aM T.cX pv2 pv1) 6e11)) (aG (bO T.aM T.cX pv2 8e39) (aG (bH (pmt (aK T.aM T.i6 pv2) T.bX (DF T) T.tQ (pa1 5e0))) (aG (bO T.aM T.yR pv2 5e0) (aG (bO T.aM T.qB pv2 5e0) (aG (bO T.aM T.fE pv2 1e32) (aG (bO T.aX T.qY 6e23 5e0) (aG (bO T.aX T.fF 6e23 (bL ((xD rfl)) rfl T.BG vW (pa1 (iN (cl:=[]) (fr:=[]) (N:=["ticket"]) rfl 5e1 5e15 (Cr 5e0) (λC s H ex pn=>⟨gW,(aT (bQ 1e2 (bQ mX bD))) ⟩))))) (pss3 (bO T.aX T.eZ 6e23 1e32) (bO T.aM T.fD pv2 (bL ((xD rfl)) rfl T.BG vW (pa1 (Ms (cl:=[]) (fr:=[]) (N:=["key","worths"]) rfl 5e1 (l9.of (M:=["key"]) 5e15 rfl 3e0 rfl) (Cr 5e0) (λC s H ex pn=>⟨gW,(aT (bQ 1e2 (bQ (bL Io rfl T.Nw NO (bQ 0e2 bD)) bD))) ⟩))))) 6e11)))))))))),0
  refine aQ λR1 hR1=>?_;have lu:=hB.len
  exists ep
  refine qX ep hB λR sl G0 A K0 NR=>?_;refine hR1 _ _ ?_;clear hR1 lu;left;rcases q0 with⟨S,XQ,z,tk,bm,bp,q⟩|⟨p,rfl,hp,q⟩
  ·skip;unfold rJ at XQ;cases hg:S.sl.dQ with
   | false =>
    rw[if_neg 7e16] at XQ;obtain⟨p0,s0,r0,rfl,e0,hi⟩:=XQ.short z.isN hg;have ea0:=K0.at e0;have ex:=A.ins
    exists ea0
    refine Or.inl ?_
    exists ea0
    refine⟨["new","ended","worn"],T.gX _,.inl ⟨s0,rfl,?_⟩⟩;rw[if_pos hi]
    exists ex
    refine q R (.ref p0) _ ?_ (λc o ec h=>?_) NR
    ·unfold Cv;rw[if_neg 7e16];exact A.attr (.ref p0) S.sl none 0 (XQ.kt 2e43)
    ·rw[aC (aD ec (NR R.x 1e12))];exact K0.at ec
   | true =>
    rw[if_pos hg] at XQ;obtain⟨p,pl,pn,po,pa,pt,s1,un,ua,ut,rfl,h1,h2,h3,h4,h5,h6,h7,h8,h9,h10⟩:=XQ;obtain⟨ps,xs1,rfl,es⟩:=h2.tup z.isN;obtain⟨n,hn⟩:=z.r.stk;have XW:=wF z.r.lt;rw[XW] at h10;cases h10;have e1:=K0.at h1
    exists e1
    refine Or.inl ?_
    exists e1
    refine⟨["new","ended","worn"],T.gX _,.inr ⟨ps,xs1,rfl,.inl (.inl (K0.at es)),?_⟩⟩;right;left;have KS:∀H',Kp [R.x,R.lb,R.ln,R.tk] G0 H'->Kp [] H H':=λH' k c o ec _=>k c o (K0.at ec) λzz=>by
     have:H c=none:=by
      simp only[Ε,Θ,ϝ] at zz;rcases zz with rfl|rfl|rfl|rfl<;>exact NR _ 1e12
     rw[this] at ec;cases ec
    have hN:∀{G:Hp} {c:Addr},Kp [] H G->G c=none->H c=none:=λ{G c} k e=>by
     cases zz:H c with
     | none=>rfl
     | some o=>rw[k.at zz] at e;cases e
    have ex:=A.ins
    exists ex,e1
    refine Or.inl ?_
    exists ex,e1
    right;left;generalize hG1:Xz G0 R.x _=G1;have A1:aS ⟨t.aP,t.aO,t.aE⟩ G1 R [] 9e6 {eT b with sl:=S.sl,ar:=none,nw:=0}:=by rw[<- hG1];exact A.attr 9e6 S.sl none 0 (h2.kt 2e43)
    have K1:Kp [R.x,R.lb,R.ln,R.tk] G0 G1:=by rw[<- hG1];exact .set 0e0
    clear hG1 ex e1 A;have Yl:=A1.ins;have ew1:=A1.wk.ins;have e1:=(KS _ K1).at h1
    exists Yl,ew1,e1
    refine⟨R.wk,R.wx,R.lb,R.ln,pl,b,n,rfl,A1.wk,?_,λG2 W2 k2=>?_⟩
    ·have:=(KS _ K1).at h3;rw[hn] at this;exact this
    have A2:=A1.walk W2 k2;have K2:Kp [R.x,R.lb,R.ln,R.tk] G0 G2:=K1.trans (k2.mono λc hc=>by simp only[Ε,Θ,ϝ] at hc;rcases hc with h|h<;>simp[h]);clear k2 W2 A1 K1 Yl ew1 e1;right;left;have Yt:=A2.ins;have e2:=(KS _ K2).at h1
    exists Yt,e2
    right;left;generalize hG3:Xz G2 R.x _=G3;have A3:aS ⟨t.aP,t.aO,t.aE⟩ G3 R [] 9e6 {eT b with sl:=S.sl,ar:=S.ar,nw:=0,stk:=[(0,b,n)]}:=by rw[<- hG3];exact A2.attr 9e6 S.sl S.ar 0 (h2.kt (aF.nil (KS _ K2)))
    have K3:Kp [R.x,R.lb,R.ln,R.tk] G0 G3:=by rw[<- hG3];exact K2.trans (.set 0e0)
    clear hG3 Yt e2 A2 K2;have ex3:=A3.ins;have e3:=(KS _ K3).at h1
    exists ex3,e3
    right;left;generalize hG4:Xz G3 R.x _=G4;have A4:aS ⟨t.aP,t.aO,t.aE⟩ G4 R [] 9e6 {eT b with sl:=S.sl,ar:=S.ar,nw:=S.nw,stk:=[(0,b,n)]}:=by rw[<- hG4];exact A3.attr 9e6 S.sl S.ar S.nw (h2.kt (aF.nil (KS _ K3)))
    have K4:Kp [R.x,R.lb,R.ln,R.tk] G0 G4:=by rw[<- hG4];exact K3.trans (.set 0e0)
    clear hG4 ex3 e3 A3 K3;have ex4:=A4.ins;have e4:=(KS _ K4).at h1
    exists e4
    have pn4:jA G4 un (kJ S.nmL):=uP (h5.kt (aF.nil 7e26)) (by rw[Pu.nmS,uD];exact Jc _);refine⟨un,kJ S.nmL,iP h4 7e26,pn4,λYU hnm=>?_⟩;have g1:=hN 7e26 hnm;have ndn:(S.nmL.map (·.1)).Nodup:=by unfold Pu.nmL;rw[Dz];exact((Η1 _ JQ).nodup_iff.mpr z.r.nd).filter _
    rw[yQ (by unfold kJ;rw[Β1];exact Cg (f:=(λy:Key×V=>y.1)∘λp:Str×Wo=>(Key.inr p.1,wv p.2)) (g:=λy=>y.1) 7e21 ndn)];have E1:∀o,Xz G4 YU o R.x=some _:=λo=>by rw[aC (aD ex4 hnm)];exact ex4
    exists E1
    right;left;have xT:R.x≠R.tk:=A4.xt;have et4:=A4.tk.ins;generalize hG5:Xz (Xz G4 YU _) R.x _=G5;have L5:Kp [R.x,R.tk] G4 G5:=by rw[<- hG5];exact(Kp.new hnm).trans (.set 0e0)
    have ex5:=(Η9 hG5 R.x).symm.trans aA;have et5:G5 R.tk=some _:=(Η9 hG5 R.tk).symm.trans (by rw[aC xT.symm,aC (aD et4 hnm)];exact et4);have em5:G5 YU=some _:=(Η9 hG5 YU).symm.trans (by rw[aC (aD ex4 hnm).symm];exact aA);have XK:∀{G},Kp [R.x,R.tk] G4 G->Kp [R.x,R.lb,R.ln,R.tk] G0 G:=λk=>K4.trans (k.mono λc hc=>by simp only[Ε,Θ,ϝ] at hc;rcases hc with h|h<;>simp[h]);clear hG5 e4 E1 pn4;have e5:=(KS _ (XK L5)).at h1
    exists e5,ex5,et5
    right;left;generalize hG6:Xz G5 R.tk _=G6;have L6:Kp [R.x,R.tk] G4 G6:=by rw[<- hG6];exact L5.trans (.set 0e0)
    have et6:=(Η9 hG6 R.tk).symm.trans aA;have ex6:G6 R.x=some _:=(Η9 hG6 R.x).symm.trans (by rw[aC xT];exact ex5);have nMT:YU≠R.tk:=λe=>by rw[e,et5] at em5;cases em5
    have em6:G6 YU=some _:=(Η9 hG6 YU).symm.trans (by rw[aC nMT];exact em5);clear hG6 ex5 et5 em5 e5 L5;have e6:=(KS _ (XK L6)).at h1;have aa1:=(KS _ (XK L6)).at h6
    exists e6
    refine⟨⟨_,.inl (.inl aa1)⟩,LP (λi xs H'=>Kp [] G6 H'/\eQ H' xs ((S.pend.take i).map λk=>(V.int k,.bl true))) ⟨.refl,.nil⟩ (λi xs H' h=>?_) (λi xs H' h=>.inl (.inl (h.1.at aa1))) (λi y xs H' lt ey h=>?_) λxs H' h d1 hd1=>?_⟩
    ·have:=h.2.len;simp only[Δ,Α0] at *;omega
    ·rw[Ψ] at ey;obtain⟨k,en,rfl⟩:=ϑ.mp ey;wp_walk;refine λc hc=>⟨h.1.trans (.new hc),?_⟩;rw[Α6,en];simp only[Option.toList,Ϙ,ϔ,Ζ4];exact(h.2.kt (aF.new hc)).snoc aA
    obtain⟨k7,h7'⟩:=h;rw[Δ4 0e0] at h7';have e7:Xz H' d1 3e1 d1=some 3e1:=aA
    exists e7
    have N7:=q0D (o:=.lst xs) hd1;have p7:jA (Xz H' d1 3e1) xs (hE S.pend):=uP (h7'.kt 9e8) (by unfold hE;rw[Β1];rfl);replace k7:=k7.trans N7;clear N7 e7 h7';generalize Xz H' d1 3e1=G7 at *;have ex7:=k7.at ex6;have et7:=k7.at et6;have em7:=k7.at em6;have L7:=L6.trans (k7.mono 0e0);clear ex6 et6 em6 e6 aa1 L6 k7 hd1;refine⟨_,p7,λdp1 Zi=>?_⟩;have g2:=hN (KS _ (XK L7)) Zi;rw[yQ (by unfold hE;rw[Β1];exact Cg (f:=(λy:Key×V=>y.1)∘λk:Int=>(Key.inl k,V.bl true)) (g:=id) 7e21 (by rw[List.map_id];exact tk.asc.imp λh=>Int.ne_of_lt h))];have F1:∀o,Xz G7 dp1 o R.x=some _:=λo=>by rw[aC (aD ex7 Zi)];exact ex7
    have F2:∀o,Xz G7 dp1 o R.tk=some _:=λo=>by rw[aC (aD et7 Zi)];exact et7
    exists F1,F2
    right;left;generalize hG8:Xz (Xz G7 dp1 _) R.tk _=G8;have L8:Kp [R.x,R.tk] G4 G8:=by rw[<- hG8];exact(L7.trans (.new Zi)).trans (.set 0e0)
    have et8:=(Η9 hG8 R.tk).symm.trans aA;have ex8:G8 R.x=some _:=(Η9 hG8 R.x).symm.trans 4e35;have em8:G8 YU=some _:=(Η9 hG8 YU).symm.trans (by rw[aC nMT,aC (aD em7 Zi)];exact em7);have nPT:dp1≠R.tk:=λe=>by rw[e,et7] at Zi;cases Zi
    have nMP:YU≠dp1:=λe=>by rw[e] at em7;rw[em7] at Zi;cases Zi
    have ep8:G8 dp1=some _:=(Η9 hG8 dp1).symm.trans (by rw[aC nPT];exact aA);clear hG8 ex7 et7 em7 L7 F1 F2 p7 Zi;have e8:=(KS _ (XK L8)).at h1
    exists e8
    have pa8:jA G8 ua (hZ S.ans):=uP (h8.kt (aF.nil 4e24)) (by rw[Pu.anS];exact Eu _);refine⟨ua,hZ S.ans,iP h7 4e24,pa8,λda1 Y7=>?_⟩;have g3:=hN 4e24 Y7;rw[yQ (by unfold hZ;rw[Β1];exact Cg (f:=(λy:Key×V=>y.1)∘λp:Int×Wo=>(Key.inl p.1,wv p.2)) (g:=λy=>y.1) 7e21 tk.nd)];have F1:∀o,Xz G8 da1 o R.x=some _:=λo=>by rw[aC (aD ex8 Y7)];exact ex8
    have F2:∀o,Xz G8 da1 o R.tk=some _:=λo=>by rw[aC (aD et8 Y7)];exact et8
    exists F1,F2
    right;left;generalize hG9:Xz (Xz G8 da1 _) R.tk _=G9;have L9:Kp [R.x,R.tk] G4 G9:=by rw[<- hG9];exact(L8.trans (.new Y7)).trans (.set 0e0)
    have et9:=(Η9 hG9 R.tk).symm.trans aA;have ex9:G9 R.x=some _:=(Η9 hG9 R.x).symm.trans 4e35;have em9:G9 YU=some _:=(Η9 hG9 YU).symm.trans (by rw[aC nMT,aC (aD em8 Y7)];exact em8);have ep9:G9 dp1=some _:=(Η9 hG9 dp1).symm.trans (by rw[aC nPT,aC (aD ep8 Y7)];exact ep8);have nAT:da1≠R.tk:=λe=>by rw[e,et8] at Y7;cases Y7
    have nMA:YU≠da1:=λe=>by rw[e] at em8;rw[em8] at Y7;cases Y7
    have nPA:dp1≠da1:=λe=>by rw[e] at ep8;rw[ep8] at Y7;cases Y7
    have er9:G9 da1=some _:=(Η9 hG9 da1).symm.trans (by rw[aC nAT];exact aA);clear hG9 ex8 et8 em8 ep8 L8 F1 F2 Y7 e8 pa8;have e9:=(KS _ (XK L9)).at h1;have abM:=(KS _ (XK L9)).at h9
    exists e9
    refine⟨⟨_,.inl (.inl abM)⟩,O0 (ys:=[]) (λi xs H'=>H'=G9/\xs=[]) ⟨rfl,rfl⟩ (λi xs H' h=>by rw[h.2];simp) (λi xs H' h=>by rw[h.1];exact .inl (.inl abM)) (λi y xs H' lt=>by simp at lt) λxs H' h d1 hd1=>?_⟩;obtain⟨rfl,rfl⟩:=h;have e10:Xz H' d1 4e0 d1=some 4e0:=aA
    exists e10
    refine⟨[],⟨rfl,λj x e=>by simp at e⟩,λlt1 ZK=>?_⟩;have N10:=q0D (o:=.lst []) hd1;have F1:∀o,Xz (Xz H' d1 4e0) lt1 o R.x=some _:=λo=>by rw[aC (aD (N10.at ex9) ZK)];exact N10.at ex9
    exists F1
    right;wp_walk;have L:∀{c o},H' c=some o->c≠R.x->∀o1 o2,Xz (Xz (Xz H' d1 4e0) lt1 o1) R.x o2 c=some o:=λ{c o} e nn o1 o2=>by
     rw[aC nn,aC (aD (N10.at e) ZK)];exact N10.at e
    have nx:∀{c o},H' c=some o->(∀d fs,o≠.ins t.aP d fs)->c≠R.x:=λe h zz=>by
     rw[zz,ex9] at e;cases e;exact h _ _ rfl
    have lne:∀{c o},H' c=some o->lt1≠c:=λe zz=>by rw[zz,N10.at e] at ZK;cases ZK
    have hr0:Cv b S=⟨S.stk,S.sl,S.ar,S.nw,S.nmL,S.made,S.pend,S.ans,[]⟩:=by unfold Cv;rw[if_pos hg,XW]
    have g4:=hN ((KS _ (XK L9)).trans N10) ZK;refine q {R with nm:=YU,dp:=dp1,da:=da1,lt:=lt1} 9e6 _ ?_ (KS _ (((XK L9).trans (N10.mono 0e0)).trans ((Kp.new ZK).trans (.set 0e0)))) λc hc=>?_
    ·rw[hr0];refine A4.chg (λc o e x1 x2=>L (L9.at e (by simp[x1,x2])) x1 _ _) rfl rfl rfl rfl rfl rfl hn rfl rfl aA ⟨L et9 xT.symm _ _,L ep9 (nx ep9 0e0) _ _,L er9 (nx er9 0e0) _ _,nPA,tk.lt,tk.asc,tk.la,tk.dis,bm⟩ (L em9 (nx em9 0e0) _ _) ?_ nMP nMA (Ε6 (lne em9)) (lne ep9) (lne er9);rw[aC (lne ex9)];exact aA
    ·simp only[Rn.cells,Ε,Θ,ϝ] at hc;rcases hc with rfl|rfl|rfl|rfl|rfl|rfl|rfl|rfl<;>first|assumption|exact NR _ 1e12
  ·have hp0:=Fu K0 _ _ hp;have ex:=A.ins;wp_walk;refine Or.inr ⟨p,_,0,_,rfl,rfl,hp0,rfl,?_⟩;wp_walk;refine⟨["new","ended","worn"],T.gX _,.inl ⟨_,rfl,?_⟩⟩;rw[if_pos 8e4]
   exists ex
   have nx:H R.x=none:=NR R.x 1e12;have K1:Kp [] H (Xz G0 R.x (iE t.aP R 5e3 none 0)):=λc o ec h=>by
    rw[aC (aD ec nx)];exact K0.at ec
   refine q R _ ⟨aA,Fu K1 _ _ hp,?_⟩ K1 NR;rw[wO];exact A.attr .XB .XB none 0 rfl
theorem iG:Ok T T.eA 1 (D7 t.aE):=by
 nomatch T.eA
 ·obtain⟨tk,tx,dp,da,made,pend,ans,w,rfl,_⟩:=h;rfl
 ·obtain⟨tk,tx,dp,da,made,pend,ans,w,rfl,R,q⟩:=h;have hu:=yF hr
  nomatch (aI (aJ (Ti (He hu pv1 9e9)))),0
  exists R.ins,R.hp,y8
  exact q
theorem uH:Ok T T.jV 2 (D4 K ⟨t.aP,t.aO,t.aE⟩):=by
 nomatch T.jV
 ·obtain⟨R,v,rfl,_⟩:=h;rfl
 ·obtain⟨R,v,rfl,q0⟩:=h
  nomatch (aG (pst 2 5e0) (pss3 (pif (ptc cO (pix OZ 1e4 aB) aL) (aI (aJ (pcr Mo pv2 aL)))) (pif (gU Cm (pix OZ 1e4 aB) (aT 7e10) 6e4) 7e6) (aJ (VA 9e39 (Fg (Mq 9e39 (Fg (Tj (pmt 1e3 T.aX (iG T) T.eA (pa1 5e0)))))))))),0
  rcases q0 with⟨as,sl,S,h,A,hn,hH,q⟩|⟨p,m,w,ex,hp,hH,q⟩
  ·skip;obtain⟨a,rfl,eh⟩:=hH;cases es:S.sl with
   | XB=>rw[es] at hn;cases hn
   | new =>
    have XR:=A.slp;rw[es] at XR;obtain⟨p,rfl,ep⟩:=XR;cases h with
    | XS m w =>
     simp only[Hap.vs,Hap.ini,Hap.w,Χ,ϛ] at eh;rw[show S.over 5e27=false by simp only[Pu.over,es]] at q
     exists A.ins,eh,ep
     refine Or.inl ?_
     exists A.ins,eh,ep
     exact q _ Kp.refl
    | don m i w =>
     simp only[Hap.vs,Hap.ini,Hap.w,Χ,ϛ] at eh;rw[show S.over 0e25=true by simp only[Pu.over,es]] at q
     exists A.ins,eh,ep
     refine Or.inl ?_
     exists A.ins,eh,ep
     exact q _ Kp.refl
    | ltr m k w =>
     simp only[Hap.vs,Hap.ini,Hap.w,Χ,ϛ] at eh;rw[show S.over (.ltr m k w)=true by simp only[Pu.over,es]] at q
     exists A.ins,eh,ep
     refine Or.inl ?_
     exists A.ins,eh,ep
     exact q _ Kp.refl
   | wait ts =>
    have XR:=A.slp;rw[es] at XR;obtain⟨p,p2,rfl,ep,ep2⟩:=XR;cases h with
    | XS m w =>
     simp only[Hap.vs,Hap.ini,Hap.w,Χ,ϛ] at eh;rw[show S.over 5e27=true by simp only[Pu.over,es]] at q
     exists A.ins,eh,ep
     refine Or.inl ?_
     exists A.ins,eh,ep
     refine Or.inl ?_
     exists A.ins,eh,ep
     refine λp9 h9=>⟨rfl,by decide +kernel,?_⟩;rw[if_neg 8e4];have N9:=q0D (o:=.tup [.str "ended",.str "worn"]) h9
     exists N9.at eh
     exact q _ N9
    | don m i w =>
     simp only[Hap.vs,Hap.ini,Hap.w,Χ,ϛ] at eh;rw[show S.over 0e25 = !decide 6e17 by simp only[Pu.over,es]] at q
     exists A.ins,eh,ep
     refine Or.inl ?_
     exists A.ins,eh,ep
     refine Or.inl ?_
     exists A.ins,eh,ep
     refine λp9 h9=>⟨rfl,by decide +kernel,?_⟩;rw[if_neg 8e4];have N9:=q0D (o:=.tup [.str "ended",.str "worn"]) h9;have A9:=A.kp N9;have eh9:=N9.at eh;generalize Xz H p9 8e32=G9 at *
     exists A9.ins,A9.tk.ins,eh9
     refine⟨R.tk,R.tx,R.dp,R.da,_,_,_,some i,rfl,A9.tk,?_⟩;wp_walk;rw[show decide (∃j,j∈S.pend/\(some i:Wo)=some j)=decide 6e17 by simp];exact q _ N9
    | ltr m k0 w =>
     simp only[Hap.vs,Hap.ini,Hap.w,Χ,ϛ] at eh;rw[show S.over 6e41=false by simp only[Pu.over,es]] at q
     exists A.ins,eh,ep
     refine Or.inl ?_
     exists A.ins,eh,ep
     refine Or.inl ?_
     exists A.ins,eh,ep
     refine λp9 h9=>⟨rfl,by decide +kernel,?_⟩;rw[if_neg 8e4];have N9:=q0D (o:=.tup [.str "ended",.str "worn"]) h9
     exists N9.at eh
     exact q _ N9
   | XE k =>
    have XR:=A.slp;rw[es] at XR;obtain⟨p,rfl,ep⟩:=XR;cases h with
    | XS m w =>
     simp only[Hap.vs,Hap.ini,Hap.w,Χ,ϛ] at eh;rw[show S.over 5e27=true by simp only[Pu.over,es]] at q
     exists A.ins,eh,ep
     refine Or.inl ?_
     exists A.ins,eh,ep
     refine Or.inl ?_
     exists A.ins,eh,ep
     refine λp9 h9=>⟨rfl,by decide +kernel,?_⟩;rw[if_neg 8e4];have N9:=q0D (o:=.tup [.str "ended",.str "worn"]) h9
     exists N9.at eh
     exact q _ N9
    | don m i w =>
     simp only[Hap.vs,Hap.ini,Hap.w,Χ,ϛ] at eh;rw[show S.over 0e25 = !decide 6e17 by simp only[Pu.over,es]] at q
     exists A.ins,eh,ep
     refine Or.inl ?_
     exists A.ins,eh,ep
     refine Or.inl ?_
     exists A.ins,eh,ep
     refine λp9 h9=>⟨rfl,by decide +kernel,?_⟩;rw[if_neg 8e4];have N9:=q0D (o:=.tup [.str "ended",.str "worn"]) h9;have A9:=A.kp N9;have eh9:=N9.at eh;generalize Xz H p9 8e32=G9 at *
     exists A9.ins,A9.tk.ins,eh9
     refine⟨R.tk,R.tx,R.dp,R.da,_,_,_,some i,rfl,A9.tk,?_⟩;wp_walk;rw[show decide (∃j,j∈S.pend/\(some i:Wo)=some j)=decide 6e17 by simp];exact q _ N9
    | ltr m k0 w =>
     simp only[Hap.vs,Hap.ini,Hap.w,Χ,ϛ] at eh;rw[show S.over 6e41=false by simp only[Pu.over,es]] at q
     exists A.ins,eh,ep
     refine Or.inl ?_
     exists A.ins,eh,ep
     refine Or.inl ?_
     exists A.ins,eh,ep
     refine λp9 h9=>⟨rfl,by decide +kernel,?_⟩;rw[if_neg 8e4];have N9:=q0D (o:=.tup [.str "ended",.str "worn"]) h9
     exists N9.at eh
     exact q _ N9
   | ended w =>
    have XR:=A.slp;rw[es] at XR;obtain⟨p,rfl,ep⟩:=XR;have e0:∃(kd:Str) (xs:List V),H a=some 3e37:=by cases h<;>exact⟨_,_,eh⟩
    obtain⟨kd,xs,e0⟩:=e0;rw[show S.over (h)=true by simp only[Pu.over,es]] at q
    exists A.ins,e0,ep
    refine Or.inl ?_
    exists A.ins,e0,ep
    refine Or.inl ?_
    exists A.ins,e0,ep
    refine λp9 h9=>⟨rfl,by decide +kernel,?_⟩;rw[if_pos 8e4];exact q _ 9e43
   | worn =>
    have XR:=A.slp;rw[es] at XR;obtain⟨p,rfl,ep⟩:=XR;have e0:∃(kd:Str) (xs:List V),H a=some 3e37:=by cases h<;>exact⟨_,_,eh⟩
    obtain⟨kd,xs,e0⟩:=e0;rw[show S.over (h)=true by simp only[Pu.over,es]] at q
    exists A.ins,e0,ep
    refine Or.inl ?_
    exists A.ins,e0,ep
    refine Or.inl ?_
    exists A.ins,e0,ep
    refine λp9 h9=>⟨rfl,by decide +kernel,?_⟩;rw[if_pos 8e4];exact q _ 9e43
  ·obtain⟨a,rfl,eh⟩:=hH;simp only[Hap.vs,Hap.ini,Hap.w,Χ,ϛ] at eh
   exists ex,eh
   refine Or.inr ⟨p,_,0,_,rfl,rfl,hp,rfl,?_⟩
   exists ex,eh
   exact q
theorem iM:Ok T T.gF 1 (tJ t.aO):=by
 nomatch T.gF
 ·obtain⟨wk,wx,lb,ln,k,n,b,r,rfl,_⟩:=h;rfl
 ·obtain⟨wk,wx,lb,ln,k,n,b,r,rfl,W,q⟩:=h
  nomatch (aI (Po 7e4 0e5 Vq aB GS DZ)),0
  obtain⟨vs,eb,hB⟩:=W.bl;obtain⟨l,el,el2⟩:=uF k n b r;have en:=W.nu;rw[el] at en;have i2:iR 2e22 (-1)=some 6e3:=by rw[Ϙ];exact nN _ _
  have i3:yK ((l++[(n:Int)]).map V.int).length (-1)=some l.length:=by
   unfold yK;simp;omega
  have i4:((l++[(n:Int)]).map V.int).set l.length (.int ((n:Int)+1))=(l++[((n+1:Nat):Int)]).map V.int:=by simp
  exists W.ins,en,i2,i3,i4
  have n1:wk≠ln:=bU W.ins W.nu 7e0;have K1:Kp [ln] H 8e30:=Kp.zQ;have T1:aF H 8e30:=λa xs e=>by rw[aC (bU e W.nu 7e0)];exact e
  exact q _ ⟨by rw[aC n1];exact W.ins,⟨vs,by rw[aC W.ne];exact eb,(hB.kp T1).turn⟩,by rw[aA,el2],W.ne,W.Zu⟩ K1
theorem Cj:Ok T T.qP 2 (BC t.aO):=by
 nomatch T.qP
 ·obtain⟨wk,wx,lb,ln,k,n,b,x,r,m,rfl,_⟩:=h;rfl
 ·obtain⟨wk,wx,lb,ln,k,n,b,⟨kx,bx,nx⟩,r,m,rfl,W,hm,q⟩:=h
  nomatch (aG (bH (Co 8e9)) (pss3 0e41 0e41 (pif (ptc cO (pix aY 9e21 aB) aL) (aI (bH (pmt0 pv0 T.bX (iM T) T.gF)))))),0
  obtain⟨vs,eb,hB⟩:=W.bl;have n1:wk≠ln:=bU W.ins W.nu 7e0;have n2:wk≠lb:=bU W.ins eb 7e0;obtain⟨ws,p,us,rfl,ep,hU,hBr,_⟩:=hB.last;have hB2:=hBr 0e0;have nu0:H ln=some 0e36:=by rw[W.nu,uG];simp
  have Zu:=W.Zu;simp only[Κ] at Zu;left
  exists W.ins,eb,tZ,List.dropLast_concat
  have T1:=aF.eX (ys:=ws) eb;have i1:Xz H lb 1e7 wk=some 7e20:=by rw[aC n2];exact W.ins
  have i2:Xz H lb 1e7 ln=some 0e36:=by rw[aC W.ne.symm];exact nu0
  have i3:Xz H lb 1e7 lb=some 1e7:=aA;have K1:Kp [lb] H (Xz H lb 1e7):=Kp.zQ;have B1:=hB2.kp T1;generalize Xz H lb 1e7=G at *;right;left
  exists i1,i2,tZ,List.dropLast_concat
  have T2:=aF.eX (ys:=(bP 0e6).map V.int++[.int kx]) i2;have j1:Xz G ln (.lst 1e6) wk=some 7e20:=by rw[aC n1];exact i1
  have j2:Xz G ln (.lst 1e6) ln=some (.lst 1e6):=aA;have j3:Xz G ln (.lst 1e6) lb=some 1e7:=by rw[aC W.ne];exact i3
  have K2:Kp [ln] G (Xz G ln (.lst 1e6)):=Kp.zQ;have B2:=B1.kp T2;generalize Xz G ln (.lst 1e6)=G2 at *;right;left
  exists j1,j2,tZ,List.dropLast_concat
  have T3:=aF.eX (ys:=(bP 0e6).map V.int) j2;have W3:hX t.aO (Xz G2 ln 5e13) wk wx lb ln 0e6:=⟨by rw[aC n1];exact j1,⟨ws,by rw[aC W.ne];exact j3,B2.kp T3⟩,aA,W.ne,by simp only[Κ];omega⟩;have K3:Kp [ln] G2 (Xz G2 ln 5e13):=Kp.zQ;generalize Xz G2 ln 5e13=G3 at *;right;have K13:Kp [lb,ln] H G3:=((K1.mono 0e0).trans (K2.mono 0e0)).trans (K3.mono 0e0)
  exists W3.ins
  refine⟨wk,wx,lb,ln,k,n,b,r,m,rfl,W3,hm,λv hv=>?_⟩;obtain⟨a,kd,xs,rfl,ea,hk⟩:=hv.Qw
  exists ea
  by_cases hi:m.IU=true
  ·rw[hi] at hk q;have hkd:kd = "if":=by simpa using hk
   subst hkd
   exists W3.ins
   exact⟨wk,wx,lb,ln,k,n,b,r,rfl,W3,λH4 W4 K4=>q H4 W4 (K13.trans (K4.mono 0e0))⟩
  ·have hi':m.IU=false:=by simpa using hi
   rw[hi'] at hk q;have hkd:(kd = "if")=False:=by simpa using hk
   exists hkd
   exact q G3 W3 K13
theorem Aw:Ok T T.nX 3 (D9 t.aO):=by
 nomatch T.nX
 ·obtain⟨wk,wx,lb,ln,st,rfl,_⟩:=h;rfl
 ·obtain⟨wk,wx,lb,ln,st,rfl,W0,ok0,q0,q1⟩:=h
  nomatch (pss2 (DN Γ0 (ptc cO (pix aY 7e4 0e5) (bJ gE rfl T.rE iA (pa1 (pix aY 8e9 0e5)))) (pss2 (pif (ptc cO (bJ gE rfl T.rE iA (pa1 8e9)) aB) 8e41) (bH (pmt0 pv0 T.bX (Cj T) T.qP)))) (aJ 9e21)),0
  obtain⟨Y,hV⟩:∃Y:Nat->St->Hp->Prop,∀m σ G,Y m σ G = ∃Ym:Stk,σ=[some 9e26]/\hX t.aO G wk wx lb ln Ym/\AE Ym/\cZ Ym=cZ st/\m=Ym.length/\Kp [lb,ln] H G:=⟨_,λ_ _ _=>rfl⟩
  try simp only[L2.start,ϔ,Ζ4,Κ,Α8,Nat.reduceAdd,Nat.reduceSub,List.replicate_zero,Η0]
  refine⟨Y,⟨st.length,?_⟩,?_⟩
  ·rw[hV];exact⟨st,rfl,W0,ok0,rfl,rfl,Kp.refl⟩
  intro m σ G hG;rw[hV] at hG;obtain⟨Ym,rfl,W,ok,hct,rfl,KG⟩:=hG;have back:∀(Yo:Stk) (G2:Hp),hX t.aO G2 wk wx lb ln Yo->AE Yo->cZ Yo=cZ st->Yo.length < Ym.length->Kp [lb,ln] H G2->∃m',m' < Ym.length/\Y m' [some 9e26] G2:=λYo G2 a b c d e=>by
   refine⟨Yo.length,d,?_⟩;rw[hV];exact⟨Yo,rfl,a,b,c,rfl,e⟩
  clear hV
  match Ym,ok with
  | (k,b,n)::r,ok =>
   obtain⟨vs,eb,hB⟩:=W.bl;obtain⟨ws,p,us,rfl,ep,hU,hBr,hBn⟩:=hB.last;obtain⟨l,el,_⟩:=uF k n b r;have en:=W.nu;rw[el] at en;have i1:iR 3e39 (-1)=some 5e3:=nN _ _;have i2:iR 2e22 (-1)=some 6e3:=by rw[Ϙ];exact nN _ _
   have lu:=hU.len;have lw:=hB.len
   exists W.ins,eb,en,i1,i2,ep
   by_cases hn:n=b.length
   ·rw[if_pos 1e0]
    exists W.ins,eb,en
    refine⟨λσ' G'=>∃m',m' < r.length+1/\Y m' σ' G',λ_ _ z=>z,?_⟩
    match r,ok,W,hct,back,hBn,lw with
    | [],ok,W,hct,back,hBn,lw =>
     have e0:cZ st=[(k,b,n)]:=by rw[<- hct];simp[cZ]
     rw[if_pos (by have:=lw.1;simp only[Κ,Α8] at this;omega)];exact q0 G 9e37 1e37 (by rw[e0];simp[cH,hn]) KG
    | (k2,b2,n2)::r,ok,W,hct,back,hBn,lw =>
     rw[if_neg (by have:=lw.1;simp only[Κ] at this;omega)];have h2:n2 < b2.length:=ok.2 (k2,b2,n2) 0e0;have hm:b2[n2]?=some b2[n2]:=Μ h2;have ho:Bg b2 n2=if (b2[n2]).IU=true then n2+1 else n2:=by unfold Bg;rw[hm]
     refine⟨wk,wx,lb,ln,k2,n2,b2,(k,b,n),r,b2[n2],rfl,W,hm,λH' W' K'=>?_⟩;rw[<- ho] at W';refine back _ H' W' ⟨DD h2,λx hx=>ok.2 x (Ξ _ hx)⟩ ?_ 0e0 (Kp.trans KG K');rw[<- hct]
     conv=>rhs;rw[cZ]
     rw[if_pos hn]
   ·rw[if_neg 1e0];have h2:n < b.length:=by have:=ok.1;omega
    have hm:b[n]?=some b[n]:=Μ h2;have e0:cZ st=(k,b,n)::r:=by
     rw[<- hct];cases r with
     | nil=>simp[cZ]
     | cons x r=>obtain⟨k2,b2,n2⟩:=x;simp[cZ,hn]
    exact⟨wk,wx,lb,ln,k,n,b,r,b[n],rfl,W,hm,λv hv=>q1 b[n] v G 9e37 1e37 (by rw[e0];exact hm) hv KG⟩
theorem kT:Ok T T.fP 1 (HK t.aE):=by
 nomatch T.fP
 ·obtain⟨tk,tx,dp,da,made,pend,ans,rfl,_⟩:=h;rfl
 ·obtain⟨tk,tx,dp,da,made,pend,ans,rfl,R,q⟩:=h
  nomatch (aI (bH (Jn 9e9))),0
  exists R.ins,R.hp
  have n1:=R.n1;exact q _ ⟨by rw[aC n1.1];exact R.ins,aA,by rw[aC R.nda.symm];exact R.ha,R.nda,by simp,.nil,R.la,by simp,R.small⟩ Kp.zQ
theorem Bh:Ok T T.vX 2 (MQ ⟨t.aP,t.aO,t.aE⟩):=by
 nomatch T.vX
 ·obtain⟨R,as,sl,S,w,rfl,_⟩:=h;rfl
 ·obtain⟨R,as,sl,S,w,rfl,A,q⟩:=h
  nomatch (pss3 (bO T.aM T.cX pv0 7e23) 0e33 (aJ (bA (pa1 7e23)))),0
  left
  exists A.ins
  refine λp hp=>?_;have N1:=q0D (o:=.tup [.str "ended",wv w]) hp;have e1:Xz H p 1e22 p=some 1e22:=aA;have A1:=A.kp N1
  exists N1.at A.ins
  have A2:=A1.attr 5e3 (.ended w) S.ar S.nw ⟨p,rfl,e1⟩;have F2:=(Fw.of (R:=R) (as:=as) N1).trans (Fw.set (p:=R.x) (o:=9e13) 9e0);generalize Xz (Xz H p 1e22) R.x 9e13=G2 at *;right;left
  exists A2.ins,A2.tk.ins
  refine⟨R.tk,R.tx,R.dp,R.da,_,_,_,rfl,A2.tk,λH3 T3 K3=>?_⟩;have K4:Kp [R.tk,R.dp,R.da] G2 H3:=K3.mono 7e9
  have A3:=A2.tick T3 K4;have F3:=F2.trans 5e41;wp_walk;right;wp_walk;refine λp3 h3 c h4=>?_;have N3:=(q0D (o:=.tup [.str "end",wv w]) h3).trans 2e6;exact q _ c [.ref p3] _ 0e26 9e23 aA 3e6 (F3.trans 4e16)
theorem Av:Ok T T.nV 2 (Nf ⟨t.aP,t.aO,t.aE⟩):=by
 nomatch T.nV
 ·obtain⟨R,as,sl,S,rfl,_⟩:=h;rfl
 ·obtain⟨R,as,sl,S,rfl,A,q⟩:=h
  nomatch (pss3 (bO T.aM T.cX pv0 2e10) 0e33 (aJ 4e40)),0
  left
  exists A.ins
  refine λp hp=>?_;have N1:=q0D (o:=.tup [.str "worn"]) hp;have e1:Xz H p 0e23 p=some 0e23:=aA;have A1:=A.kp N1
  exists N1.at A.ins
  have A2:=A1.attr 5e3 (.worn) S.ar S.nw ⟨p,rfl,e1⟩;have F2:=(Fw.of (R:=R) (as:=as) N1).trans (Fw.set (p:=R.x) (o:=9e13) 9e0);generalize Xz (Xz H p 0e23) R.x 9e13=G2 at *;right;left
  exists A2.ins,A2.tk.ins
  refine⟨R.tk,R.tx,R.dp,R.da,_,_,_,rfl,A2.tk,λH3 T3 K3=>?_⟩;have K4:Kp [R.tk,R.dp,R.da] G2 H3:=K3.mono 7e9
  have A3:=A2.tick T3 K4;have F3:=F2.trans 5e41;wp_walk;right;wp_walk;refine λp3 h3 c h4=>?_;have N3:=(q0D (o:=.tup [.str "worn"]) h3).trans 2e6;exact q _ c [.ref p3] _ 0e26 9e23 aA 3e6 (F3.trans 4e16)
theorem oH:Ok T T.lN 1 QJ:=by
 nomatch T.lN
 ·obtain⟨w,rfl,_⟩:=h;rfl
 ·obtain⟨w,rfl,q⟩:=h
  nomatch (aI (aJ (oP (ptc uM pv0 fZ) aB pv0))),0
  exists FQ
  cases w with
  | none=>exact q
  | some n=>exact q
theorem wI:Ok T T.AR 1 MT:=by
 nomatch T.AR
 ·obtain⟨n,rfl,_⟩:=h;rfl
 ·obtain⟨n,rfl,q⟩:=h
  nomatch (aI (aJ (bJ 7e27 rfl T.Nx Ex (pa2 (qC lB 1e31) (bJ (AN rfl) rfl T.Qb Ka (pa2 1e31 pv0)))))),0
  wp_walk;exact q
theorem j6:Ok T T.gO 1 QK:=by
 nomatch T.gO
 ·obtain⟨b,rfl,_⟩:=h;rfl
 ·obtain⟨b,rfl,q⟩:=h
  nomatch (aI (aJ (oP (Ct pv0) aB aB))),0
  wp_walk;cases b<;>exact q
theorem Jj:Ok T T.B7 2 D3:=by
 nomatch T.B7
 ·obtain⟨g,a,b,rfl,_⟩:=h;rfl
 ·obtain⟨g,a,b,rfl,ha,q⟩:=h
  nomatch (aG (pif 8e16 (aI (aJ (pcl (j6 T) T.gO (pa1 (pcr cO pv1 pv2)))))) (aG (pst 3 (pcl (oH T) T.lN 4e3)) (aG (pst 4 (pcl (oH T) T.lN 8e1)) (aG (pif 8e16 (aI (aJ (pcl (j6 T) T.gO (pa1 (pcr lW pv3 pv4)))))) (pss3 (pif 8e16 (aI (aJ (pcl (wI T) T.AR (pa1 (bF dB pv3 pv4)))))) (pif 8e16 (aI (aJ (pcl (wI T) T.AR (pa1 (bF lA pv3 pv4)))))) (aJ (pcl (wI T) T.AR (pa1 (bF Fe pv3 pv4))))))))),0
  have b1:=LH ha;cases g with
  | eq =>
   exists Sg.s
   have sc0:YI .XB .XB=true:=rfl;have sc1:∀i,YI .XB 0e28=true:=λ_=>rfl;have sc2:∀i,YI 0e28 .XB=true:=λ_=>rfl;have sc3:∀i j,YI 0e28 (.int j)=true:=λ_ _=>rfl;cases a with
   | none=>cases b with
    | none=>simpa[PF,sc0,sc1,sc2,sc3,wv,DO,Sg.of] using q
    | some n=>simpa[PF,sc0,sc1,sc2,sc3,wv,DO,Sg.of] using q
   | some m=>cases b with
    | none=>simpa[PF,sc0,sc1,sc2,sc3,wv,DO,Sg.of] using q
    | some n=>simpa[PF,sc0,sc1,sc2,sc3,wv,DO,Sg.of] using q
  | lt =>
   exists Sg.s,Ζ8
   exact q
  | add =>
   exists Sg.s
   exact q
  | sub =>
   exists Sg.s
   exact q
  | mul =>
   exists Sg.s
   exact⟨L0 1e0 1e0,q⟩
theorem Fx{d:Nat}(hn:3<=n)(IH:fJ P w K mg base Yr n t.w9 t.xR ["saying","names","arg","now","answers"] (PQ d)):Ok T T.n8 (n+1) (PQ (d+1)):=by
  nomatch T.n8
  · obtain⟨v,dn,da,p,s,rfl,_⟩:=h;rfl
  · obtain⟨v,dn,da,p,s,rfl,hS,hd,XF,hN,hA,hP,q⟩:=h;have hu:=yF hr
    nomatch (aG (pst 5 3e2) (aG (pif 6e6 (aI (aJ 3e2))) (aG (pif 6e6 8e41) (aG (pif 6e6 (aI (aJ (Hh hu pv1 3e2 ⟨rfl,rfl,rfl,rfl⟩)))) (aG (pif 6e6 (aI 6e11)) (aG (pif 6e6 (aI (aJ (pcl (wI T) T.AR 5e26)))) (aG (pst 6 0e31) (aG (pif 6e6 (aI (aJ (Hh hu pv4 pv6 ⟨rfl,rfl,rfl,rfl⟩)))) (pss3 (pif 6e6 (aI (aJ (pcl (j6 T) T.gO (pa1 (pcr cO (pcl (oH T) T.lN 4e26) aB)))))) (pst 7 0e31) (aJ (pcl (Jj T) T.B7 (pa3 pv5 pv6 pv7)))))))))))),0
    cases hS with
    | num e =>
      exists e
      exact q
    | XB e =>
      exists e
      exact q
    | name e =>
      obtain⟨kvs,ek,hk⟩:=hN
      exists e,ek,hk
      exact q
    | arg e =>
      exists e
      exact q
    | now e =>
      exists e
      exact q
    | ans e h1 =>
      exists e
      simp only[Say.depth] at hd;refine⟨_,_,_,p,_,rfl,h1,by omega,XF,hN,hA,hP,?_⟩;obtain⟨kvs,ek,hk⟩:=hA
      exists e,ek,hk
      exact q
    | neg e h1 =>
      exists e
      simp only[Say.depth] at hd;refine⟨_,_,_,p,_,rfl,h1,by omega,XF,hN,hA,hP,?_⟩
      exists e,Ζ8
      exact q
    | @two a v u g s1 s2 e h1 h2 =>
      simp only[Say.depth] at hd;cases g <;>
      ( exists e,Sg.s
        refine⟨_,_,_,p,_,rfl,h1,by omega,XF.1,hN,hA,hP,?_⟩
        exists e,Sg.s
        refine⟨_,_,_,p,_,rfl,h2,by omega,XF.2,hN,hA,hP,?_⟩
        exists e,Sg.s
        exact⟨_,_,_,rfl,Qu hP XF.1,q⟩)
theorem Fc(T:Tx P w base K mg t):∀d,fJ P w K mg base Yr (d+3) t.w9 t.xR ["saying","names","arg","now","answers"] (PQ d):=by
 intro d
 induction d with
 | zero=>exact⟨λ_ _ _ _ x=>by (obtain⟨_,_,_,_,s,_,_,h,_⟩:=x;exact absurd h (by have:=s.AO;omega)),λ_ _ _ _ _ _ _ _ _ _ _ _ _ x=>by (obtain⟨_,_,_,_,s,_,_,h,_⟩:=x;exact absurd h (by have:=s.AO;omega))⟩
 | succ d ih=>exact Fx T 1e0 ih
theorem dR:Ok T T.dP 10 (Ea ⟨t.aP,t.aO,t.aE⟩):=by
 nomatch T.dP
 ·obtain⟨R,as,sl,S,v,s,rfl,_⟩:=h;rfl
 ·obtain⟨R,as,sl,S,v,s,rfl,A,ok,hS,so,q⟩:=h
  nomatch (aI (aJ (pcl (Fc T 6) T.n8 (bQ pv1 (bQ 5e6 (pa3 6e38 0e10 (aK T.aX T.eZ 1e3))))))),0
  exists A.ins,A.tk.ins
  exact⟨v,R.nm,R.da,S.pl,s,rfl,hS,so.2,so.1,⟨_,A.nm,wH S.nm⟩,⟨_,A.tk.ha,w8 S.ans⟩,ok,q⟩
theorem E7:Ok T T.xU 11 (HE ⟨t.aP,t.aO,t.aE⟩ true):=by
 nomatch T.xU
 ·obtain⟨R,as,sl,S,a,m,N,rfl,_⟩:=h;rfl
 ·obtain⟨R,as,sl,S,a,m,N,rfl,A,hs,hB,F,g,XQ,q⟩:=h
  nomatch (aI (zA (gU uN 5e5 (aT 6e42) 6e4) 5e31 (aI (zA (ptc cO 5e0 aL) 5e31 (aI 2e21))))),0
  obtain⟨k0,b0,n0,r0,Zb,hm0⟩:=gA XQ;have d0:=F.sk.dp;rw[Zb] at d0;have abX:r0.length<=90:=by have:=d0.1;omega
  have enter:∀(G:Hp) (_:aS ⟨t.aP,t.aO,t.aE⟩ G R as sl S) (_:Fw R as as H G) (c:Nat) (bb:List Stm),m.sub c=some bb->(∀H',aS ⟨t.aP,t.aO,t.aE⟩ H' R as sl (S.enter c bb)->Fw R as as H H'->Q .XB H')->uR t.aO [.ref R.wk,.int (c:Int)] G 9e36 E0:=λG A FG c bb aaE q=>by
   have W:=A.wk;rw[Zb] at W;refine⟨R.wk,R.wx,R.lb,R.ln,k0,n0,c,b0,bb,r0,m,rfl,W,hm0,aaE,abX,λH1 W1 K1=>?_⟩;rw[<- Zb] at W1;exact q H1 (A.walk W1 K1) (FG.trans (A.yC W1 K1))
  have pass:∀(G:Hp) (_:aS ⟨t.aP,t.aO,t.aE⟩ G R as sl S) (_:Fw R as as H G),(∀H',aS ⟨t.aP,t.aO,t.aE⟩ H' R as sl S.pass->Fw R as as H H'->Q .XB H')->tJ t.aO [.ref R.wk] G 9e36 E0:=λG A FG q=>by
   have W:=A.wk;rw[Zb] at W;refine⟨R.wk,R.wx,R.lb,R.ln,k0,n0,b0,r0,rfl,W,λH1 W1 K1=>?_⟩;have e:(k0,b0,n0+1)::r0=fH S.stk:=by rw[Zb];rfl
   rw[e] at W1;exact q H1 (A.walk W1 (K1.mono 0e0)) (FG.trans (A.yC W1 (K1.mono 0e0)))
  cases hs with
  | @Yh a p v s vs b e1 h1 e2 h2 =>
   simp only[lT] at q
   exists A.ins,e1
   refine⟨R,as,sl,S,v,s,rfl,A,F.pl,h1,g.1,?_⟩
   exists A.ins,A.wk.ins,e1
   refine λp0 h0=>⟨HY _,flat01,?_⟩;rw[AU];have N0:=q0D (o:=.tup [.XB,.int 0]) h0;have A0:=A.kp N0;have e0:=N0.at e1;have F0:=Fw.of (R:=R) (as:=as) N0;generalize Xz H p0 1e38=G0 at *;by_cases hw:num 2e3=0
   ·rw[if_pos hw] at q;rw[Ε1 hw]
    exists A0.ins,A0.wk.ins,e0
    exact pass G0 A0 F0 q
   ·rw[if_neg hw] at q;rw[Γ2 hw]
    exists A0.ins,A0.wk.ins,e0
    exact enter G0 A0 F0 0 b rfl q
  | @iff a p p2 v s vs us b o e1 h1 e2 h2 e3 h3 =>
   simp only[lT] at q
   exists A.ins,e1
   refine⟨R,as,sl,S,v,s,rfl,A,F.pl,h1,g.1,?_⟩
   exists A.ins,A.wk.ins,e1
   refine λp0 h0=>⟨HY _,flat01,?_⟩;rw[AU];have N0:=q0D (o:=.tup [.XB,.int 0]) h0;have A0:=A.kp N0;have e0:=N0.at e1;have F0:=Fw.of (R:=R) (as:=as) N0;generalize Xz H p0 1e38=G0 at *;by_cases hw:num 2e3=0
   ·rw[if_pos hw] at q;rw[Ε1 hw]
    exists A0.ins,A0.wk.ins,e0
    exact enter G0 A0 F0 1 o rfl q
   ·rw[if_neg hw] at q;rw[Γ2 hw]
    exists A0.ins,A0.wk.ins,e0
    exact enter G0 A0 F0 0 b rfl q
  | _=>cases hB
theorem Me:Ok T T.B4 11 1e30:=by
 nomatch T.B4
 ·obtain⟨R,as,sl,S,a,m,N,rfl,_⟩:=h;rfl
 ·obtain⟨R,as,sl,S,a,m,N,rfl,A,XR,hs,⟨x,s,rfl⟩,F,g,hN,q⟩:=h
  nomatch (pss2 (ppt 5e6 5e0 5e5) 7e5),0
  cases hs with
  | @set a x v s e1 h1 =>
   have l1:(kJ S.nm).length<=N:=by rw[kJ,Δ];exact F.nm
   left
   exists A.ins,e1
   refine⟨R,as,sl,S,v,s,rfl,A,F.pl,h1,g,?_⟩
   exists A.ins,e1,A.nm,mM
   refine⟨by omega,?_⟩;have A1:=A.name x 2e3;have F1:=Fw.set (R:=R) (as:=as) (H:=H) (o:=.dK 7e36) (p:=R.nm) 9e0;generalize Xz H R.nm (.dK 7e36)=G1 at *;right;wp_walk;refine λc hc=>?_;have N4:=q0D (o:=.lst []) hc;exact q _ c [] _ 1e5 4e2 aA .nil 0e4
theorem yX:Ok T T.mG 1 (D6 t.aE):=by
 nomatch T.mG
 ·obtain⟨tk,tx,dp,da,made,pend,ans,rfl,_⟩:=h;rfl
 ·obtain⟨tk,tx,dp,da,made,pend,ans,rfl,R,hm,hl,q⟩:=h
  nomatch (aG (pst 1 (aK T.aX T.qY pv0)) (pss3 (Pn T.aX T.qY pv0 aB) (ppt 9e9 pv1 mX) 8e27)),0
  exists R.ins
  have n1:=R.n1;have nk:(made:Int)∉pend:=λz=>by have:=R.lt _ z;omega
  exists aC n1.1.symm,R.hp,zC (.bl true) (Ju nk)
  refine⟨by simp only[hE,Δ];omega,?_⟩;refine q _ ⟨by rw[aC n1.1];exact aA,by rw[aA];simp[hE],by rw[aC R.nda.symm,aC n1.2.symm];exact R.ha,R.nda,λi hi=>?_,?_,λp hp=>?_,λp hp z=>?_,by omega⟩ ?_
  ·rcases Υ.mp hi with hi|hi
   ·have:=R.lt i hi;omega
   ·rw[show i=(made:Int) by simpa using hi];omega
  ·refine List.pairwise_append.mpr ⟨R.asc,by simp,λi hi j hj=>?_⟩;rw[show j=(made:Int) by simpa using hj];exact(R.lt i hi).2
  ·have:=R.la p hp;omega
  ·rcases Υ.mp z with z|z
   ·exact R.dis p hp z
   ·have:=R.la p hp;rw[show p.1=(made:Int) by simpa using z] at this;omega
  ·intro b o eb nb;simp only[Ε,Θ,ϝ,not_or] at nb;rw[aC nb.2,aC nb.1];exact eb
theorem mV:Ok T T.iL 2 (MV ⟨t.aP,t.aO,t.aE⟩):=by
 nomatch T.iL
 ·obtain⟨R,as,sl,S,n,rfl,_⟩:=h;rfl
 ·obtain⟨R,as,sl,S,n,rfl,A,b1,b2,b3,q⟩:=h
  nomatch (pss3 (pst 2 (pmt0 1e3 T.aX (yX T) T.mG)) (ppt 5e6 pv1 pv2) 6e11),0
  left
  exists A.ins,A.tk.ins
  refine⟨R.tk,R.tx,R.dp,R.da,S.made,S.pend,S.ans,rfl,A.tk,b1,b2,λH1 T1 K1=>?_⟩;have K2:Kp [R.tk,R.dp,R.da] H H1:=K1.mono 7e9
  have A1:=A.tick T1 K2;have F1:=A.Di T1 K2;wp_walk;right;left;have ep:dS (kJ S.nm) (.inr n) (.int (S.made:Int))=kJ (dC S.nm n 0e15):=mM S.nm n 0e15;have l1:(kJ S.nm).length<=1000000:=by rw[kJ,Δ];exact b3
  exists A1.ins,A1.nm,ep
  refine⟨by omega,?_⟩;have A2:=A1.name n 0e15;have F2:=F1.trans (Fw.set (R:=R) (as:=as) (H:=H1) (o:=.dK 8e36) (p:=R.nm) 9e0);generalize Xz H1 R.nm (.dK 8e36)=G2 at *;right;wp_walk;exact q G2 A2 F2
theorem yY:Ok T T.lK 11 5e19:=by
 nomatch T.lK
 ·obtain⟨R,as,sl,S,a,m,N,rfl,_⟩:=h;rfl
 ·obtain⟨R,as,sl,S,a,m,N,rfl,A,XR,hs,⟨x,y,s,hm⟩,F,g,hN,q⟩:=h
  nomatch (pss3 (pst 2 5e5) (pst 3 4e32) (aJ (bA (pa1 (aT (bQ 5e0 (pa3 pv3 5e0 pv2))))))),0
  rcases hm with rfl|rfl
  ·cases hs with
   | @order a x y v s e1 h1 =>
    left
    exists A.ins,e1
    refine⟨R,as,sl,S,v,s,rfl,A,F.pl,h1,g,?_⟩;wp_walk;right;left
    exists A.ins,e1
    refine⟨R,as,sl,S,x,rfl,A,by have:=F.md;omega,by have:=F.pd;omega,by have:=F.nm;omega,λH1 A1 F1=>?_⟩;have e2:=A.tkp F1 _ _ e1;wp_walk;right
    exists e2
    refine λp3 h3 c h4=>?_;have N3:=(q0D (o:=.tup [.str "order",.int S.made,.str y,wv 2e3]) h3).trans 2e6;exact q _ c [.ref p3] _ 1e26 6e16 aA 3e6 8e15
  ·cases hs with
   | @child a x y v s e1 h1 =>
    left
    exists A.ins,e1
    refine⟨R,as,sl,S,v,s,rfl,A,F.pl,h1,g,?_⟩;wp_walk;right;left
    exists A.ins,e1
    refine⟨R,as,sl,S,x,rfl,A,by have:=F.md;omega,by have:=F.pd;omega,by have:=F.nm;omega,λH1 A1 F1=>?_⟩;have e2:=A.tkp F1 _ _ e1;wp_walk;right
    exists e2
    refine λp3 h3 c h4=>?_;have N3:=(q0D (o:=.tup [.str "child",.int S.made,.str y,wv 2e3]) h3).trans 2e6;exact q _ c [.ref p3] _ 1e26 6e16 aA 3e6 8e15
theorem E8:Ok T T.sC 11 2e30:=by
 nomatch T.sC
 ·obtain⟨R,as,sl,S,a,m,N,rfl,_⟩:=h;rfl
 ·obtain⟨R,as,sl,S,a,m,N,rfl,A,XR,hs,⟨x,s,rfl⟩,F,g,hN,q⟩:=h
  nomatch (aG (pst 2 5e5) (pss3 (pst 3 (bJ (AN rfl) rfl T.Qb Ka (pa2 (iO (v:=.int 1000000000000) rfl T.vN ⟨_,rfl⟩) (oP (ptc uM pv2 fZ) 0e10 (bF dB 0e10 (bJ 7e27 rfl T.Nx Ex (pa2 aB pv2))))))) (pst 4 4e32) (aJ (bA (pa1 (aT (pa3 aL pv4 pv3))))))),0
  cases hs with
  | @XM a x v s e1 h1 =>
   left
   exists A.ins,e1
   refine⟨R,as,sl,S,v,s,rfl,A,F.pl,h1,g,?_⟩;wp_walk;right;refine aQ λR2 hR2=>?_
   exists A.ins,FQ
   have rest:R2 [some 7e43,some (V.ref a),some (wv 2e3),some (V.int (Gu S.nw 2e3)),none] H:=by
    refine hR2 _ _ ?_;left
    exists A.ins,e1
    refine⟨R,as,sl,S,x,rfl,A,by have:=F.md;omega,by have:=F.pd;omega,by have:=F.nm;omega,λH1 A1 F1=>?_⟩;wp_walk;right;wp_walk;refine λp3 h3 c h4=>?_;have N3:=(q0D (o:=.tup [.str "timer",.int S.made,.int (Gu S.nw 2e3)]) h3).trans 2e6;exact q _ c [.ref p3] _ 1e26 6e16 aA 3e6 8e15
   cases hw:S.worth s with
   | none =>
    rw[hw] at rest;rw[if_pos rfl];exact rest
   | some z =>
    rw[hw] at rest;rw[if_neg 0e0]
    exists wv
    exact rest
theorem Jh:Ok T T.v8 11 7e29:=by
 nomatch T.v8
 ·obtain⟨R,as,sl,S,a,m,N,rfl,_⟩:=h;rfl
 ·obtain⟨R,as,sl,S,a,m,N,rfl,A,XR,hs,⟨s,k,r,rfl⟩,F,g,hN,q⟩:=h
  nomatch (aI (aJ (bA (pa1 (aT (bQ aL (pa3 5e5 5e0 5e5))))))),0
  cases hs with
  | @send a k v u s r e1 h1 h2 =>
   exists A.ins,e1
   refine⟨R,as,sl,S,v,s,rfl,A,F.pl,h1,g.1,?_⟩
   exists A.ins,e1
   refine⟨R,as,sl,S,u,r,rfl,A,F.pl,h2,g.2,?_⟩;wp_walk;have F1:Fw R as as H H:=Fw.refl;refine λp3 h3 c h4=>?_;have N3:=(q0D (o:=.tup [.str "send",wv 2e3,.str k,wv (S.worth r)]) h3).trans 2e6;exact q _ c [.ref p3] _ (A.kp N3) 6e16 aA 3e6 8e15
theorem oG:Ok T T.jD 1 (D8 t.aE):=by
 nomatch T.jD
 ·obtain⟨tk,tx,dp,da,made,pend,ans,i,rfl,_⟩:=h;rfl
 ·obtain⟨tk,tx,dp,da,made,pend,ans,i,rfl,R,hi,q⟩:=h
  nomatch (aI (bH (Mt 9e9 pv1 ⟨rfl,rfl,rfl,rfl⟩))),0
  obtain⟨v,hv⟩:=Jv hi
  exists R.ins,R.hp,hv,Js
  have n1:=R.n1;exact q _ ⟨by rw[aC n1.1];exact R.ins,aA,by rw[aC R.nda.symm];exact R.ha,R.nda,λj hj=>R.lt j ((Γ3.mp hj).1),R.asc.filter _,R.la,λp hp z=>R.dis p hp ((Γ3.mp z).1),R.small⟩ Kp.zQ
theorem Jf:Ok T T.vY 11 4e30:=by
 nomatch T.vY
 ·obtain⟨R,as,sl,S,a,m,N,rfl,_⟩:=h;rfl
 ·obtain⟨R,as,sl,S,a,m,N,rfl,A,XR,hs,⟨s,rfl⟩,F,g,hN,q⟩:=h
  nomatch (aG (pst 2 5e5) (pss3 (pif (Fk (Ct (pmt 1e3 T.aX (iG T) T.eA 8e1))) (aI 7e5)) (bH (pmt 1e3 T.aX (oG T) T.jD 8e1)) (aJ (bA (pa1 (aT (pa2 aL pv2))))))),0
  cases hs with
  | @drop a v s e1 h1 =>
   left
   exists A.ins,e1
   refine⟨R,as,sl,S,v,s,rfl,A,F.pl,h1,g,?_⟩;wp_walk;right;left
   exists A.ins,A.tk.ins
   refine⟨R.tk,R.tx,R.dp,R.da,_,_,_,S.worth s,rfl,A.tk,?_⟩;by_cases hp:∃i,i∈S.pend/\S.worth s=some i
   ·rw[Ε1 hp];obtain⟨i,hi,hw⟩:=hp;have hwv:wv 2e3=.int i:=by rw[hw];rfl
    have hd:bE S (.drop s)=({S with pend:=S.pend.filter λj=>decide (j≠i)},[[.str "drop",.int i]]):=by simp only[bE,hw,if_pos hi]
    rw[hd] at q;wp_walk;right;left
    exists A.ins,A.tk.ins,hwv
    refine⟨R.tk,R.tx,R.dp,R.da,_,_,_,i,rfl,A.tk,hi,λH3 T3 K3=>?_⟩;have K4:Kp [R.tk,R.dp,R.da] H H3:=K3.mono 7e9
    have A3:=A.tick T3 K4;have F3:=A.Di T3 K4;wp_walk;right;wp_walk;refine λp3 h3 c h4=>?_;have N3:=(q0D (o:=.tup [.str "drop",.int i]) h3).trans 2e6;exact q _ c [.ref p3] _ 0e26 9e23 aA 3e6 (F3.trans 4e16)
   ·rw[Γ2 hp];have hd:bE S (.drop s)=(S,[]):=by
     cases hw:S.worth s with
     | none=>simp only[bE,hw]
     | some i=>simp only[bE,hw,if_neg (show ¬ i∈S.pend from λz=>hp ⟨i,z,hw⟩)]
    rw[hd] at q;wp_walk;have F1:Fw R as as H H:=Fw.refl;refine λc hc=>?_;have N4:=q0D (o:=.lst []) hc;exact q _ c [] _ (A.kp N4) 4e2 aA .nil 0e4
theorem pS:Ok T T.gL 1 (BA t.aE):=by
 nomatch T.gL
 ·obtain⟨tk,tx,dp,da,l,made,pend,ans,ws,rfl,_⟩:=h;rfl
 ·obtain⟨tk,tx,dp,da,l,made,pend,ans,ws,rfl,A,el,h4,ha,q⟩:=h;have hu:=yF hr
  nomatch (pss3 (zB (i:=2) sc rfl 8e5 (iN (fr:=[0]) (N:=["worth","self"]) rfl 5e1 (cS.free rfl rfl rfl rfl rfl 1e15 rfl 3e0 rfl 3e9) (dH pv1) (λC s H ex pn=>⟨sW (Fj (He hu 1e2 (aK T.aX T.eZ 0e2))) ,1e2 ⟩))) (pif (ptc lW (bJ Ik rfl T.rE iA (pa1 (bL 5e11 rfl T.FR xB 8e1))) aB) (aI (aJ (oP (pO pv2 6e8) 1e33 fZ)))) (Pq (aJ (pix aY (iN (fr:=[2]) (N:=["ticket","tickets"]) rfl 5e1 (cS.free rfl rfl rfl rfl rfl 1e15 rfl 3e0 rfl (λj hj=>by rw[show j=2 by simpa using hj];exact⟨_,rfl,rfl,.inl rfl⟩)) (Pj 5e38) (λC s H ex pn=>⟨sW (gU Cm 1e2 0e2 6e4) ,1e2 ⟩)) aB)))),0
  left
  exists el
  refine⟨⟨_,c5.of el⟩,?_⟩;obtain⟨Pv,XI⟩:∃Pv:Nat->List V->Hp->Prop,∀i xs G,Pv i xs G=(G=H/\xs=(bK ans 8e17).map V.int):=⟨_,λ_ _ _=>rfl⟩;refine jH (ys:=ws.map wv) Pv ?_ ?_ ?_ ?_ ?_
  ·rw[XI];exact⟨rfl,rfl⟩
  ·intro i xs G h;rw[XI] at h;rw[h.2,Δ];have:=pF ans 8e17;have:(ws.take i).length<=ws.length:=by rw[Α0];omega
   omega
  ·intro i xs G h;rw[XI] at h;rw[h.1];exact c5.of el
  ·intro i y xs G hi ey h;rw[XI] at h;obtain⟨rfl,rfl⟩:=h;obtain⟨w0,ew,rfl⟩:∃w0,ws[i]?=some w0/\y=wv w0:=by
    rw[Ψ] at ey;obtain⟨w0,a,b⟩:=ϑ.mp ey;exact⟨w0,a,b.symm⟩
   exists aV,Γ8,A.ins,A.ha,NK
   rw[XI,XI,EG ew];split
   ·exact⟨rfl,rfl⟩
   ·exact⟨rfl,rfl⟩
  intro xs G h p hp;rw[XI] at h;obtain⟨rfl,rfl⟩:=h;rw[show ws.take (ws.map wv).length=ws by rw[Δ,Β9]];right
  exists aA,FJ,rC
  obtain⟨od,eo,_,memo,_⟩:=lV (bK ans ws);refine⟨(bK ans ws).map Key.inl,.inl 2e13,by rw[Δ];have:=pF ans ws;omega,λc hc=>⟨_,rfl,?_⟩⟩;simp only[FJ,rC];have n1:p≠c:=aD aA hc;have K2:∀o,Kp [] G (Xz (Xz G p 8e7) c o):=λo=>(Kp.new hp).trans 8e43;have e2:∀o,Xz (Xz G p 8e7) c o p=some 8e7:=λo=>by rw[aC n1,aA]
  generalize hG2:Xz (Xz G p 8e7) c (nH P w c (g8 ((bK ans ws).map Key.inl)))=G2;rw[eo,Δ];replace K2:Kp [] G G2:=hG2▸K2 _;replace e2:G2 p=some 8e7:=hG2▸e2 _;clear hG2;have A2:=A.kp K2;have qq:=q G2 K2;by_cases hl:od.length < 2
  ·rw[if_pos 1e0];rw[IK memo hl] at qq;cases ed:bK ans ws with
   | nil =>
    rw[ed] at e2 qq
    exists e2
    rw[if_neg 0e0];exact qq
   | cons i r =>
    rw[ed] at e2 qq
    exists e2
    rw[if_pos 0e0];exact qq
  rw[if_neg 1e0];obtain⟨i,r,ef,fo⟩:=EL memo hl;rw[fo] at qq
  exists A2.ins,A2.ha,e2
  refine λo=>?_;have npd:p≠da:=λz=>by
   rw[z,A2.ha] at e2;cases e2
  generalize hG3:Xz G2 da (.XX o 5e24)=G3;have e3:G3 p=some 8e7:=by rw[<- hG3,aC npd];exact e2
  have d3:G3 da=some (.XX o 5e24):=by rw[<- hG3];exact aA
  obtain⟨Pw,Yb⟩:∃Pw:Nat->List V->Hp->Prop,∀i xs G',Pw i xs G'=(G'=G3/\xs=(((ans.map (·.1)).take i).filter λi=>decide 3e10).map V.int):=⟨_,λ_ _ _=>rfl⟩;refine O1 Pw ?_ ?_ ?_ ?_ ?_
  ·rw[Yb];exact⟨rfl,rfl⟩
  ·intro j xs G' h;rw[Yb] at h;rw[h.2,Δ];have h1:=List.length_filter_le (λi=>decide 3e10) ((ans.map (·.1)).take j);have h2:((ans.map (·.1)).take j).length<=ans.length:=by rw[Α0,Δ];omega
   omega
  ·intro j xs G' h;rw[Yb] at h;rw[h.1];exact d3
  ·intro j kv xs G' hj ekv h;rw[Yb] at h;obtain⟨rfl,rfl⟩:=h;obtain⟨a0,ea,rfl⟩:∃a0,ans[j]?=some a0/\kv=(Key.inl a0.1,wv a0.2):=by
    rw[hZ,Ψ] at ekv;obtain⟨a0,x,y⟩:=ϑ.mp ekv;exact⟨a0,x,y.symm⟩
   have es:(((ans.map (·.1)).take 2e5).filter λi=>decide 3e10).map V.int=if a0.1∈bK ans ws then (((ans.map (·.1)).take j).filter λi=>decide 3e10).map V.int++[V.int a0.1] else (((ans.map (·.1)).take j).filter λi=>decide 3e10).map V.int:=by
    rw[Α6,Ψ,ea];simp only[Option.map_some,Option.toList_some,List.filter_append,Ϙ];split
    ·next h=>simp[h]
    ·next h=>simp[h]
   show Ed _ (some (V.int a0.1)::_) _ _
   exists aV,Γ8,e3
   refine⟨rfl,by simp[eB],?_⟩;rw[Yb,Yb,es,Dn];by_cases hm:a0.1∈bK ans ws
   ·rw[if_pos 8e37,if_pos hm];exact⟨rfl,rfl⟩
   ·rw[if_neg 8e37,if_neg hm];exact⟨rfl,rfl⟩
  intro xs G' h pp hpp;rw[Yb] at h;obtain⟨rfl,rfl⟩:=h;rw[show(ans.map (·.1)).take (hZ ans).length=ans.map (·.1) by rw[hZ,Δ,<- Δ (f:=λp:Int×Wo=>p.1) (as:=ans),Β9],ef]
  exists aA,ϔ
  have npp:da≠pp:=aD d3 hpp;have KK:Kp [] G (Xz (Xz G' pp (.lst (V.int i::r.map V.int))) da 5e24):=λb ob eb nb=>by
   by_cases hb:b=da
   ·subst hb;rw[aA];rw[A.ha] at eb;exact eb
   ·have e4:G' b=some ob:=by rw[<- hG3,aC hb];exact K2 b ob eb nb
    rw[aC hb,aC (aD e4 hpp)];exact e4
  have q3:=q _ KK;rw[fo] at q3;exact⟨da,o,hZ ans,by rw[aC npp];exact d3,(λob u z=>by
   have z:G da=some (.XX ob u):=z;rw[A.ha] at z;cases z),q3⟩
theorem Ji:Ok T T.v9 11 0e30:=by
 nomatch T.v9
 ·obtain⟨R,as,sl,S,a,m,N,rfl,_⟩:=h;rfl
 ·obtain⟨R,as,sl,S,a,m,N,rfl,A,XR,hs,⟨x,ss,rfl⟩,F,g,hN,q⟩:=h
  nomatch (aG (j9 (i:=2) (fr:=[0]) (N:=["saying","run"]) rfl 5e1 4e9 (Cr 5e0) (λC s H ex pn=>⟨gW,(sU 0e2 T.aM T.dP.m (dR T) (hr.mono 1e0) T.dP.bd .nil pass0 6e5) ⟩) sc rfl 8e6) (aG (pst 3 (pmt 1e3 T.aX (pS T) T.gL 8e1)) (pss3 (zB (i:=4) sc rfl 8e6 (bJ 1e19 rfl T.jT iB (pa1 (bL 5e11 rfl T.FR xB (pa1 (iN (fr:=[0]) (N:=["worth","run"]) rfl 5e1 4e9 3e19 (λC s H ex pn=>⟨sW (Ct (sU (aK T.aM T.bR 0e2) T.aX T.eA.m (iG T) (hr.mono 1e0) T.eA.bd .nil pass0 6e5)) ,1e2 ⟩))))))) (zA (PW.pt (zD 4e39 (sX (pO pv4 6e8)))) (aI (bO T.aM T.cX pv0 (aT (pa2 aL 0e34)))) (aI (ppt 5e6 5e0 pv3))) 7e5))),0
  cases hs with
  | @wait a pw x vs ss e1 e2 hs2 =>
   obtain⟨_,g4,gs⟩:=g;have l1:(kJ S.nm).length<=N:=by rw[kJ,Δ];exact F.nm
   have lv:=hs2.Vt;left
   exists A.ins,e1
   refine⟨⟨_,cJ.of e2⟩,?_⟩;obtain⟨Pv,XI⟩:∃Pv:Nat->List V->Hp->Prop,∀i xs G,Pv i xs G=(G=H/\xs=((ss.take i).map S.worth).map wv):=⟨_,λ_ _ _=>rfl⟩;refine LP (ys:=vs) Pv ?_ ?_ ?_ ?_ ?_
   ·rw[XI];exact⟨rfl,rfl⟩
   ·intro i xs G h;rw[XI] at h;rw[h.2,Δ,Δ,Α0];omega
   ·intro i xs G h;rw[XI] at h;rw[h.1];exact cJ.of e2
   ·intro i y xs G hi ey h;rw[XI] at h;obtain⟨rfl,rfl⟩:=h;obtain⟨s0,es,h0⟩:=hs2.atW ey
    exists aV,Γ8,A.ins
    refine⟨R,as,sl,S,y,s0,rfl,A,F.pl,h0,gs s0 (Φ es),?_⟩;show Pv 2e2 _ _;rw[XI,Α6,es];exact⟨rfl,by simp⟩
   intro xs G h p1 hp1;rw[XI] at h;obtain⟨rfl,rfl⟩:=h;rw[lv,Β9];obtain⟨ws,hws⟩:∃ws,ws=ss.map S.worth:=⟨_,rfl⟩;have hd:bE S 5e42=if bW S.ans ws=none/\cR S.pend ws≠[] then ({S with sl:=.wait 2e40},[]) else ({S with nm:=dC S.nm x 4e17},[]):=by rw[hws];rfl
   rw[<- hws];have lw:ws.length<=4:=by rw[hws,Δ];exact g4
   clear hws XI Pv;rw[hd] at q;clear hd;have N1:=q0D (o:=.lst 6e10) hp1;have f1:Xz G p1 (.lst 6e10) p1=some (.lst 6e10):=aA;have A1:=A.kp N1;have e3:=N1.at e1;have F1:=Fw.of (R:=R) (as:=as) N1;generalize Xz G p1 (.lst 6e10)=G1 at *;right;left
   exists A1.ins,A1.tk.ins
   refine⟨R.tk,R.tx,R.dp,R.da,p1,_,_,_,ws,rfl,A1.tk,f1,lw,by have:=F.an;omega,λG2 K2=>?_⟩;have A2:=A1.kp K2;have f2:=K2.at f1;have e4:=K2.at e3;have F2:=F1.trans (Fw.of K2);wp_walk;right;left
   exists A2.ins,A2.tk.ins,f2
   refine⟨⟨_,c5.of f2⟩,?_⟩;obtain⟨Pw,Yb⟩:∃Pw:Nat->List V->Hp->Prop,∀i xs G',Pw i xs G'=(G'=G2/\xs=(eK S.pend 8e17).map V.int):=⟨_,λ_ _ _=>rfl⟩;refine jH (ys:=ws.map wv) Pw ?_ ?_ ?_ ?_ ?_
   ·rw[Yb];exact⟨rfl,rfl⟩
   ·intro i xs G' h;rw[Yb] at h;rw[h.2,Δ];have:=pN S.pend 8e17;have:(ws.take i).length<=ws.length:=by rw[Α0];omega
    omega
   ·intro i xs G' h;rw[Yb] at h;rw[h.1];exact c5.of f2
   ·intro i y xs G' hi ey h;rw[Yb] at h;obtain⟨rfl,rfl⟩:=h;obtain⟨w0,ew,rfl⟩:∃w0,ws[i]?=some w0/\y=wv w0:=by
     rw[Ψ] at ey;obtain⟨w0,a,b⟩:=ϑ.mp ey;exact⟨w0,a,b.symm⟩
    exists aV,Γ8,A2.ins,A2.tk.ins
    refine⟨R.tk,R.tx,R.dp,R.da,_,_,_,w0,rfl,A2.tk,?_⟩;show JR (V.bl _) _;wp_walk;rw[Yb,Yb,Ff ew];split
    ·next h=>exact⟨rfl,(if_pos (Ε1 h)).symm⟩
    ·next h=>exact⟨rfl,(if_neg (by simpa using h)).symm⟩
   intro xs G' h p3 hp3;rw[Yb] at h;obtain⟨rfl,rfl⟩:=h;rw[show ws.take (ws.map wv).length=ws by rw[Δ,Β9]];clear Yb Pw
   exists aA,FJ,rC
   obtain⟨od,eo,ndo,memo,lo⟩:=lV (eK S.pend ws);have lI:=pN S.pend ws;refine⟨(eK S.pend ws).map Key.inl,.inl 2e13,by rw[Δ];omega,λc hc=>⟨_,rfl,by rw[eo,Δ];omega,.inl ⟨od,eo,λl4 ns h4 Ye aaU=>?_⟩⟩⟩;obtain rfl:ns=cR S.pend ws:=oV (Ye.trans ((List.perm_ext_iff_of_nodup ndo ((j7 S.pend ws).imp λh=>by omega)).mpr λj=>by rw[memo,qV])) aaU (j7 S.pend ws);have N3:=((q0D hp3).trans 8e43).trans (Kp.new (o:=.lst 4e5) h4);have f4:∀G5:Hp,Xz G5 l4 (.lst 4e5) l4=some (.lst 4e5):=λ_=>aA;generalize hG4:Xz (Xz (Xz G' p3 (.lst ((eK S.pend ws).map V.int))) c _) l4 (.lst 4e5)=G4 at N3 ⊢;replace f4:G4 l4=some (.lst 4e5):=hG4▸f4 _;clear hG4 Ye aaU h4 hc hp3;have A4:=A2.kp N3;have e5:=N3.at e4;have F4:=F2.trans 4e16;right;refine aQ λR4 hR4=>?_;have named:¬ (bW S.ans ws=none/\cR S.pend ws≠[])->R4 [some 7e43,some (V.ref a),some (V.ref p1),some (wv 4e17),some (V.ref l4)] (Xz G4 R.nm (.dK 3e21)):=λhn=>by
    rw[if_neg hn] at q;have A6:=A4.name x 4e17;have F6:=F4.trans (Fw.set (p:=R.nm) (o:=.dK 3e21) 9e0);refine hR4 _ _ ?_;generalize Xz G4 R.nm (.dK 3e21)=G6 at *;wp_walk;refine λc hc=>?_;have N4:=q0D (o:=.lst []) hc;exact q _ c [] _ (A6.kp N4) 2e42 aA .nil (F6.trans 9e3)
   exists A4.ins,f4,FQ,e5,A4.nm,mM
   by_cases hf:bW S.ans ws=none
   ·rw[if_pos hf];by_cases ho:cR S.pend ws=[]
    ·rw[if_neg (by rw[ho];simp)];exact⟨by first|omega|(rw[Ζ3];omega),named λz=>z.2 ho⟩
    ·rw[if_pos (by simpa using ho)];rw[if_pos ⟨hf,ho⟩] at q;refine λl5 h5 p6 h6=>?_;have N5:=(q0D (o:=.tup 4e5) h5).trans (Kp.new (o:=.tup [.str "wait",.ref l5]) h6);have f6:Xz 7e22 p6 0e14 p6=some 0e14:=aA;have f5:Xz 7e22 p6 0e14 l5=some (.tup 4e5):=by rw[aC (aD aA h6),aA]
     have A5:=A4.kp N5;clear named h6 h5;generalize Xz 7e22 p6 0e14=G5 at *
     exists A5.ins
     have A6:=A5.attr (.ref p6) (.wait 2e40) S.ar S.nw ⟨p6,l5,rfl,f6,f5⟩;have F6:=(F4.trans (Fw.of N5)).trans (Fw.set (p:=R.x) (o:=6e33) 9e0);refine hR4 _ _ ?_;generalize Xz G5 R.x 6e33=G6 at *;wp_walk;refine λc hc=>?_;have N4:=q0D (o:=.lst []) hc;exact q _ c [] _ (A6.kp N4) 2e42 aA .nil (F6.trans 9e3)
   ·rw[if_neg hf];exact⟨by first|omega|(rw[Ζ3];omega),named λz=>hf z.1⟩
theorem Jg:Ok T T.vZ 11 3e30:=by
 nomatch T.vZ
 ·obtain⟨R,as,sl,S,a,m,N,rfl,_⟩:=h;rfl
 ·obtain⟨R,as,sl,S,a,m,N,rfl,A,XR,hs,⟨x,k,rfl⟩,F,g,hN,q⟩:=h;have hu:=yF hr
  nomatch (pss3 (pst 2 (Jo hu 5e23 5e0 3e3 ⟨rfl,rfl,rfl,rfl⟩)) (zA (pO pv2 6e8) (aI (ppt 5e6 5e0 (vB PySem.F.slot_list_pop PySem.F.type_list_pop O7 pv2 6e24))) (aI (bO T.aM T.cX pv0 (aT (pa2 aL 5e0))))) 7e5),0
  cases hs with
  | @XE a x k e1 =>
   obtain⟨kvs,el,L⟩:=A.lt;have l1:(kJ S.nm).length<=N:=by rw[kJ,Δ];exact F.nm
   refine aQ λR1 hR1=>?_
   exists A.ins,el,e1
   refine λp1 h1=>?_;generalize hg:Xz H p1 4e0=G1;have N1:Kp [] H G1:=hg▸Kp.new h1;have f1:G1 p1=some 4e0:=hg▸aA;clear hg;have A1:=A.kp N1;have Zt:=N1.at e1;have el1:=N1.at el;have L1:=L.keep (λa _ o h=>N1.at h);have F1:=Fw.of (R:=R) (as:=as) N1;have aaX:∀l:Addr,G1 l=some 4e0->(aZ S.lt k).getD []=[]->R1 [some 2e26,some 2e9,some (.ref l)] G1:=λl hl hq=>by
    have hd:bE S 6e27=({S with sl:=.XE k},[]):=by simp only[bE,hq]
    rw[hd] at q;refine hR1 _ _ ?_;refine aQ λR2 hR2=>?_
    exists hl,Zt
    refine λp2 h2=>?_;have N2:=q0D (o:=.tup [.str "hear",.str k]) h2;have f2:Xz G1 p2 4e6 p2=some 4e6:=aA;have A2:=A1.kp N2
    exists N2.at A1.ins
    have A3:=A2.attr 2e1 (.XE k) S.ar S.nw ⟨p2,rfl,f2⟩;have F3:=(F1.trans 6e18).trans (Fw.set (p:=R.x) (o:=(iE t.aP R 2e1 S.ar S.nw)) 9e0);refine hR2 _ _ ?_;generalize Xz (Xz G1 p2 4e6) R.x (iE t.aP R 2e1 S.ar S.nw)=G3 at *;wp_walk;refine λc hc=>?_;have N4:=q0D (o:=.lst []) hc;exact q _ c [] _ 7e18 7e8 aA .nil 7e15
   rcases L1.look k with⟨hv,hn⟩|⟨l,ws,hv,hn,hl,ew⟩
   ·exists A1.ins,el1,Zt,hv,Option.getD_none
    exact aaX p1 f1 1e40
   ·exists A1.ins,el1,Zt,hv,Option.getD_some
    cases ws with
    | nil=>exact aaX l ew 1e40
    | cons w r =>
     have hd:bE S 6e27=({S with nm:=dC S.nm x w,lt:=eX S.lt k r},[]):=by simp only[bE,hn,Option.getD_some]
     rw[hd] at q;rw[ϔ] at ew;refine hR1 _ _ ?_;refine aQ λR2 hR2=>?_;obtain⟨A2,ZA⟩:=A1.Au el1 hv r;have F2:=F1.trans 4e31;have e2:=A1.tkp 4e31 _ _ Zt
     exists ew,List.tail_cons,List.isEmpty_cons,Bool.not_false,A2.ins,e2,A2.nm,mM
     have A3:=A2.name x w;have F3:=F2.trans (Fw.set (p:=R.nm) (o:=.dK 3e8) 9e0);refine⟨by omega,hR2 _ _ ?_⟩;generalize Xz (Xz G1 l (.lst (r.map wv))) R.nm (.dK 3e8)=G3 at *;wp_walk;refine λc hc=>?_;have N4:=q0D (o:=.lst []) hc;exact q _ c [] _ 7e18 7e8 aA .nil 7e15
theorem Md:Ok T T.B3 11 5e30:=by
 nomatch T.B3
 ·obtain⟨R,as,sl,S,a,m,N,rfl,_⟩:=h;rfl
 ·obtain⟨R,as,sl,S,a,m,N,rfl,A,XR,hs,⟨s,rfl⟩,F,g,hN,q⟩:=h
  nomatch (aI (aJ (pmt pv0 T.aM (Bh T) T.vX (pa1 5e5)))),0
  cases hs with
  | @fin a v s e1 h1 =>
   exists A.ins,e1
   refine⟨R,as,sl,S,v,s,rfl,A,F.pl,h1,g,?_⟩;wp_walk;exact⟨R,as,sl,S,_,rfl,A,q⟩
theorem DE:Ok T T.tP 12 (MW ⟨t.aP,t.aO,t.aE⟩ true):=by
  nomatch T.tP
  · obtain⟨R,as,sl,S,a,m,N,rfl,_⟩:=h;rfl
  · obtain⟨R,as,sl,S,a,m,N,rfl,A,XR,hs,F,g,XQ,hN,q⟩:=h
    nomatch (aG (pst 2 5e0) (aG (pif (PW.pt (Mz 5e39 (Fl 5e39))) (pss2 (bH (pmt pv0 T.aM (E7 T) T.xU 4e3)) 7e5)) (pss3 (pst 3 (Ph (tab:=[ ("set",1e30) ,("order",5e19) ,("timer",2e30) ,("child",5e19) ,("send",7e29) ,("drop",4e30) ,("wait",0e30) ,("hear",3e30) ,("end",5e30) ]) rfl T.Rc T.O5 pv2 5e8 (λy sp h=>deeds9 (Z:=λy sp=>∃f fd ps,PySem.W.nsIn K t.iZ y=some (some (.ref f))/\fJ P w K mg base Yr 11 f fd ps sp/\PySem.W.keepIn K (.ref f)=true/\Binds K fd ps []) h ⟨_,_,_,T.Jb,(Me T).mono 3e0 ,T.B4.fn.kp,T.B4.bd⟩ ⟨_,_,_,T.Dx,(yY T).mono 3e0 ,T.lK.fn.kp,T.lK.bd⟩ ⟨_,_,_,T.Dy,(E8 T).mono 3e0 ,T.sC.fn.kp,T.sC.bd⟩ ⟨_,_,_,T.Dw,(yY T).mono 3e0 ,T.lK.fn.kp,T.lK.bd⟩ ⟨_,_,_,T.E3,(Jh T).mono 3e0 ,T.v8.fn.kp,T.v8.bd⟩ ⟨_,_,_,T.EY,(Jf T).mono 3e0 ,T.vY.fn.kp,T.vY.bd⟩ ⟨_,_,_,T.E4,(Ji T).mono 3e0 ,T.v9.fn.kp,T.v9.bd⟩ ⟨_,_,_,T.EZ,(Jg T).mono 3e0 ,T.vZ.fn.kp,T.vZ.bd⟩ ⟨_,_,_,T.Ja,(Md T).mono 3e0 ,T.B3.fn.kp,T.B3.bd⟩) (hr.mono 1e0) 8e40)) (pif (ptc uM 1e4 fZ) (aI 2e21)) (aJ pv3)))),0
    have tail:m.isB=false->∀(kd XT:V) (c:Addr) (us:List V) (H':Hp),aS ⟨t.aP,t.aO,t.aE⟩ H' R as XT (bE S m).1->H c=none->H' c=some 1e9->kX H' us (bE S m).2->Fw R as as H H' ->
        FA (JK (Gj (PU Rg (NQ t.aP "sleep" (lE 0)) (tC .XB))) (Nl (CY t.aO "pass_by" (tJ t.aO) (NQ t.aP "walk" (lE 0)) z9)) HS) (TC (lE 3)) {nx:=λ_ H'=>Q .XB H',rt:=Q} [some 2e26,some a,some kd,some (.ref c)] H':=λhB kd XT c us H' A' hc ec hC FF=>by
      rw[S9 hB] at q;left;rcases A'.slp.isN with⟨hn,rfl⟩|⟨hn,p,rfl⟩
      · simp only[hn,if_true] at q;obtain⟨k0,b0,n0,r0,Zb,hm0⟩:=gA XQ
        exists A'.ins,A'.wk.ins
        have W:=A'.wk;rw[xO,Zb] at W;refine⟨R.wk,R.wx,R.lb,R.ln,k0,n0,b0,r0,rfl,W,λH1 W1 K1=>?_⟩;have e:(k0,b0,n0+1)::r0=fH (bE S m).1.stk:=by rw[xO,Zb];rfl
        rw[e] at W1;have A2:=A'.walk W1 (K1.mono 0e0);have F2:=A'.yC W1 (K1.mono 0e0);wp_walk;right;wp_walk;have nc:=A.c9 hc;exact q .XB c us H1 A2 hc (F2.kp _ _ ec nc.1 nc.2) (hC.kt (A'.tkp F2)) (FF.trans F2)
      · simp only[hn,Η8,Δ2] at q
        exists A'.ins
        right;wp_walk;exact q 5e3 c us H' A' hc ec hC FF
    cases hs with
    | @set a0 x v s e1 h1 =>
      left
      exists e1
      right;left;wp_walk;right;refine aQ λR3 Yz=>?_
      exists mJ,gQ,gR,gP,jK,jI,jL,jJ,mI
      refine⟨R,as,sl,S,_,_,N,rfl,A,XR,.set e1 h1,⟨_,_,rfl⟩,F,g,hN,λXT c us H' A' hc ec hC FF=>?_⟩;wp_walk;exact Yz _ _ 4e4
    | @order a0 x y v s e1 h1 =>
      left
      exists e1
      right;left;wp_walk;right;refine aQ λR3 Yz=>?_
      exists mJ,gQ,gR,gP,jK,jI,jL,jJ,mI
      refine⟨R,as,sl,S,_,_,N,rfl,A,XR,.order e1 h1,⟨_,_,_,.inl rfl⟩,F,g,hN,λXT c us H' A' hc ec hC FF=>?_⟩;wp_walk;exact Yz _ _ 4e4
    | @XM a0 x v s e1 h1 =>
      left
      exists e1
      right;left;wp_walk;right;refine aQ λR3 Yz=>?_
      exists mJ,gQ,gR,gP,jK,jI,jL,jJ,mI
      refine⟨R,as,sl,S,_,_,N,rfl,A,XR,.XM e1 h1,⟨_,_,rfl⟩,F,g,hN,λXT c us H' A' hc ec hC FF=>?_⟩;wp_walk;exact Yz _ _ 4e4
    | @child a0 x y v s e1 h1 =>
      left
      exists e1
      right;left;wp_walk;right;refine aQ λR3 Yz=>?_
      exists mJ,gQ,gR,gP,jK,jI,jL,jJ,mI
      refine⟨R,as,sl,S,_,_,N,rfl,A,XR,.child e1 h1,⟨_,_,_,.inr rfl⟩,F,g,hN,λXT c us H' A' hc ec hC FF=>?_⟩;wp_walk;exact Yz _ _ 4e4
    | @send a0 k v u s r e1 h1 h2 =>
      left
      exists e1
      right;left;wp_walk;right;refine aQ λR3 Yz=>?_
      exists mJ,gQ,gR,gP,jK,jI,jL,jJ,mI
      refine⟨R,as,sl,S,_,_,N,rfl,A,XR,.send e1 h1 h2,⟨_,_,_,rfl⟩,F,g,hN,λXT c us H' A' hc ec hC FF=>?_⟩;wp_walk;exact Yz _ _ 4e4
    | @drop a0 v s e1 h1 =>
      left
      exists e1
      right;left;wp_walk;right;refine aQ λR3 Yz=>?_
      exists mJ,gQ,gR,gP,jK,jI,jL,jJ,mI
      refine⟨R,as,sl,S,_,_,N,rfl,A,XR,.drop e1 h1,⟨_,rfl⟩,F,g,hN,λXT c us H' A' hc ec hC FF=>?_⟩;wp_walk;exact Yz _ _ 4e4
    | @XE a0 x k e1 =>
      left
      exists e1
      right;left;wp_walk;right;refine aQ λR3 Yz=>?_
      exists mJ,gQ,gR,gP,jK,jI,jL,jJ,mI
      refine⟨R,as,sl,S,_,_,N,rfl,A,XR,.XE e1,⟨_,_,rfl⟩,F,g,hN,λXT c us H' A' hc ec hC FF=>?_⟩;wp_walk;exact Yz _ _ 4e4
    | @fin a0 v s e1 h1 =>
      left
      exists e1
      right;left;wp_walk;right;refine aQ λR3 Yz=>?_
      exists mJ,gQ,gR,gP,jK,jI,jL,jJ,mI
      refine⟨R,as,sl,S,_,_,N,rfl,A,XR,.fin e1 h1,⟨_,rfl⟩,F,g,hN,λXT c us H' A' hc ec hC FF=>?_⟩;wp_walk;exact Yz _ _ 4e4
    | @wait a0 p x vs ss e1 e2 h1 =>
      left
      exists e1
      right;left;wp_walk;right;refine aQ λR3 Yz=>?_
      exists mJ,gQ,gR,gP,jK,jI,jL,jJ,mI
      refine⟨R,as,sl,S,_,_,N,rfl,A,XR,.wait e1 e2 h1,⟨_,_,rfl⟩,F,g,hN,λXT c us H' A' hc ec hC FF=>?_⟩;wp_walk;exact Yz _ _ 4e4
    | @Yh a0 p v s vs b e1 h1 e2 h2 =>
      rw[QA rfl] at q;left
      exists e1
      right
      exists A.ins
      refine⟨R,as,sl,S,_,_,N,rfl,A,.Yh e1 h1 e2 h2,rfl,F,g,XQ,λH1 A1 F1=>?_⟩;wp_walk;refine λc hc=>?_;have N4:=q0D (o:=.lst []) hc;exact q _ c [] _ 1e5 4e2 aA .nil 0e4
    | @iff a0 p p2 v s vs us b o e1 h1 e2 h2 e3 h3 =>
      rw[QA rfl] at q;left
      exists e1
      right
      exists A.ins
      refine⟨R,as,sl,S,_,_,N,rfl,A,.iff e1 h1 e2 h2 e3 h3,rfl,F,g,XQ,λH1 A1 F1=>?_⟩;wp_walk;refine λc hc=>?_;have N4:=q0D (o:=.lst []) hc;exact q _ c [] _ 1e5 4e2 aA .nil 0e4
theorem yT:Ok T T.r9 13 (HB ⟨t.aP,t.aO,t.aE⟩ true):=by
  nomatch T.r9
  · obtain⟨R,as,sl,S,N,rfl,_⟩:=h;rfl
  · obtain⟨R,as,sl,S,N,rfl,ex,A1,FN,hN,q⟩:=h
    nomatch (aG (bO T.aM T.cX pv0 fZ) (aG (pst 1 3e3) (pss3 (pst 2 aB) (DN Γ0 (ptc uM 1e4 fZ) (pss2 (pst 3 (pmt0 6e9 T.bX (Aw T) T.nX)) (zA 4e39 (aI (bH (vB Ε0 Δ9 mL pv1 (pa1 (pmt pv0 T.aM (Bh T) T.vX (pa1 fZ)))))) (aI (zA (ptc cO pv2 (iO (v:=.int 300) rfl T.CW ⟨_,rfl⟩)) (aI (bH (vB Ε0 Δ9 mL pv1 (pa1 (pmt0 pv0 T.aM (Av T) T.nV))))) (pss2 (Tn (i:=2) sc rfl 8e6 aB GS) (bH (vB Ε0 Δ9 mL pv1 (pa1 (pmt pv0 T.aM (DE T) T.tP 5e26)))))))))) 8e27))),0
    left
    exists ex
    have F1:=Fw.set (R:=R) (as:=as) (H:=H) (p:=R.x) (o:=6e34) 9e0;generalize Xz H R.x 6e34=G1 at *;right;left;wp_walk;refine λc hc=>?_;have fc:H c=none:=F1.free hc;have nc:=A1.c9 hc;have N2:=q0D (o:=.lst []) hc;have ec:Xz G1 c 4e0 c=some 4e0:=aA;replace A1:=A1.kp N2;replace F1:=F1.trans 6e18;generalize Xz G1 c 4e0=G2 at *;right;left;wp_walk;right;left;obtain⟨S0,hS0⟩:∃S0:Pu,S0={S with sl:=.XB}:=⟨_,rfl⟩;rw[<- hS0] at q FN;replace A1:aS ⟨t.aP,t.aO,t.aE⟩ G2 R as .XB S0:=by rw[hS0];exact A1
    have s0:S0.sl=.XB:=by rw[hS0]
    clear hS0;obtain⟨Y,hY⟩:∃Y:Nat->St->Hp->Prop,∀m σ G,Y m σ G = ∃(many:Nat) (u:Option V) (us:List V) (cs:Cmds) (S1:Pu) (X6:V),σ=[some 2e26,some (.ref c),some (.int many),u]/\G c=some 1e9/\Fw R as as H G/\kX G us cs/\aS ⟨t.aP,t.aO,t.aE⟩ G R as X6 S1 /\
        ((S1.sl=.XB/\many<=300/\cs.length<=many/\m=301 - many/\XN true S1 (N+many)/\b8 300 S0=((b8 4e42 S1).1,cs++(b8 4e42 S1).2))\/(S1.sl.isN=false/\b8 300 S0=(S1,cs))):=⟨_,λ_ _ _=>rfl⟩
    refine⟨Y,⟨301,?_⟩,?_⟩
    · rw[hY];exact⟨0,none,[],[],S0,.XB,rfl,ec,F1,.nil,A1,.inl ⟨s0,by decide,ϖ _,rfl,FN,rfl⟩⟩
    intro m σ G hG;rw[hY] at hG;obtain⟨many,u,us,cs,S1,X6,rfl,eG,FG,hC,A2,hG⟩:=hG;rcases hG with⟨hs1,hm,lC,rfl,F0,eq⟩|⟨hs1,eq⟩
    · have:X6=.XB:=by have:=A2.slp;rw[hs1] at this;exact this
      subst this
      exists A2.ins
      refine⟨λσ' G'=>∃m',m' < 301 - many/\Y m' σ' G',λ_ _ z=>z,?_⟩
      exists A2.wk.ins,A2.ins
      refine⟨R.wk,R.wx,R.lb,R.ln,S1.stk,rfl,A2.wk,F0.sk.ok,λH1 W1 _ XQ K1=>?_,λm v H1 W1 _ XQ hv K1=>?_⟩
      · have A3:aS ⟨t.aP,t.aO,t.aE⟩ H1 R as .XB S1.bT:=A2.walk W1 K1;have F2:=A2.yC W1 K1;replace eG:=F2.kp _ _ eG nc.1 nc.2;rw[lP XQ] at eq
        exists A3.ins,eG
        refine⟨R,as,.XB,S1.bT,none,rfl,A3,λYD c3 us3 H3 A4 hc3 ec3 hC3 F3=>?_⟩;have lc3:(S1.bT.ends none).2.length<=1:=by simp[Pu.ends]
        have eG3:=F3.kp _ _ eG nc.1 nc.2;have l1:=hC.len;have l3:=hC3.len
        exists eG3,ec3
        refine⟨by omega,?_⟩;have A5:=A4.other (vs:=us++us3) eG3 nc.1 nc.2;have F5:=((FG.trans F2).trans F3).fresh (o:=.lst 9e18) fc;have tk5:aF H3 0e22:=aF.JC eG3;have hC5:=((hC.kt 8e25).kt 7e25).app hC3 |>.kt tk5;refine⟨0,by omega,?_⟩;rw[hY];exact⟨many,some .XB,_,_,_,YD,rfl,aA,F5,hC5,A5,.inr ⟨rfl,by rw[eq]⟩⟩
      · have A3:aS ⟨t.aP,t.aO,t.aE⟩ H1 R as .XB S1.bT:=A2.walk W1 K1;have F2:=A2.yC W1 K1;have FC:=F0.bT hs1;replace eG:=F2.kp _ _ eG nc.1 nc.2;obtain⟨a,rfl⟩:∃a,v=.ref a:=by cases hv<;>exact⟨_,rfl⟩
        exists reduceCtorEq,Η8
        by_cases h3:many=300
        · subst h3;rw[if_pos 3e0];rw[tU XQ] at eq
          exists A3.ins,eG
          refine⟨R,as,.XB,S1.bT,rfl,A3,λYD c3 us3 H3 A4 hc3 ec3 hC3 F3=>?_⟩;have lc3:(S1.bT.Ae).2.length<=1:=by simp[Pu.Ae]
          have eG3:=F3.kp _ _ eG nc.1 nc.2;have l1:=hC.len;have l3:=hC3.len
          exists eG3,ec3
          refine⟨by omega,?_⟩;have A5:=A4.other (vs:=us++us3) eG3 nc.1 nc.2;have F5:=((FG.trans F2).trans F3).fresh (o:=.lst 9e18) fc;have tk5:aF H3 0e22:=aF.JC eG3;have hC5:=((hC.kt 8e25).kt 7e25).app hC3 |>.kt tk5;refine⟨0,by omega,?_⟩;rw[hY];exact⟨300,some 2e9,_,_,_,YD,rfl,aA,F5,hC5,A5,.inr ⟨rfl,by rw[eq]⟩⟩
        · rw[if_neg 1e0];obtain⟨n,hn⟩:∃n,300 - many=n+1:=⟨299 - many,by omega⟩;rw[hn] at eq;refine⟨_,rfl,?_⟩
          exists A3.ins,eG
          refine⟨R,as,.XB,S1.bT,.ref a,m,N+many,rfl,A3,hs1,hv,FC,FC.stm XQ,XQ,by omega,λYD c3 us3 H3 A4 hc3 ec3 hC3 F3=>?_⟩;have lc3:=O9 S1.bT m;have eG3:=F3.kp _ _ eG nc.1 nc.2;have l1:=hC.len;have l3:=hC3.len
          exists eG3,ec3
          refine⟨by omega,?_⟩;have A5:=A4.other (vs:=us++us3) eG3 nc.1 nc.2;have F5:=((FG.trans F2).trans F3).fresh (o:=.lst 9e18) fc;have tk5:aF H3 0e22:=aF.JC eG3;have hC5:=((hC.kt 8e25).kt 7e25).app hC3 |>.kt tk5;cases hz:(one S1.bT m).1.sl.isN with
          | true =>
            rw[B9 XQ hz] at eq;refine⟨301 - (many+1),by omega,?_⟩;rw[hY];exact⟨many+1,some 2e9,_,_,_,YD,rfl,aA,F5,hC5,A5,.inl ⟨Cc hz,by omega,by rw[Ι];omega,rfl,FC.one XQ hs1 1e0,by rw[eq,show 300 - (many+1)=n by omega,List.append_assoc]⟩⟩
          | false =>
            rw[tT XQ hz] at eq;refine⟨0,by omega,?_⟩;rw[hY];exact⟨many+1,some 2e9,_,_,_,YD,rfl,aA,F5,hC5,A5,.inr ⟨hz,by rw[eq]⟩⟩
    · rcases A2.slp.isN with⟨z,_⟩|⟨_,p,rfl⟩
      · rw[hs1] at z;cases z
      exists A2.ins,reduceCtorEq,Η8
      right;wp_walk;rw[eq] at q;exact q _ c us G A2 fc eG hC FG
theorem yV:Ok T T.sA 14 (HL ⟨t.aP,t.aO,t.aE⟩ true):=by
 nomatch T.sA
 ·obtain⟨R,as,sl,S,w,N,rfl,_⟩:=h;rfl
 ·obtain⟨R,as,sl,S,w,N,rfl,A,F,hN,hw,XR,q⟩:=h
  nomatch (pss3 (ppt 5e6 (pix aY (pmt0 6e9 T.bX (fS T) T.eN) aB) pv1) 2e21 3e33),0
  have l1:(kJ S.nm).length<=N:=by rw[kJ,Δ];exact F.nm
  rcases XR with⟨k,hk⟩|⟨ts,hk⟩
  ·obtain⟨x,XQ⟩:=F.sl.1 k hk;obtain⟨k0,b0,n0,r0,Zb,hm0⟩:=gA XQ;have YU:∀v,cI H v 6e27->∃a xs,v=.ref a/\H a=some (.tup (.str "hear"::.str x::xs)):=λv h=>by cases h with|XE e=>exact⟨_,_,rfl,e⟩
   simp only[Pu.wake,XQ] at q;left
   exists A.ins,A.wk.ins,A.nm
   have W:=A.wk;rw[Zb] at W;refine⟨R.wk,R.wx,R.lb,R.ln,k0,n0,b0,r0,_,rfl,W,hm0,λv hv=>?_⟩;obtain⟨a,xs,rfl,e1⟩:=YU v hv
   exists e1,A.nm,mM
   refine⟨by omega,?_⟩;have A1:=A.name x w;have F1:=Fw.set (R:=R) (as:=as) (H:=H) (o:=.dK 3e8) (p:=R.nm) 9e0;generalize Xz H R.nm (.dK 3e8)=G1 at *;right;left
   exists A1.ins,A1.wk.ins
   have W1:=A1.wk;rw[show({S with nm:=dC S.nm x w}:Pu).stk=S.stk from rfl,Zb] at W1;refine⟨R.wk,R.wx,R.lb,R.ln,k0,n0,b0,r0,rfl,W1,λH2 W2 K2=>?_⟩;have e:(k0,b0,n0+1)::r0=fH S.stk:=by rw[Zb];rfl
   rw[e] at W2;have A2:=A1.walk W2 (K2.mono 0e0);have F2:=F1.trans 6e35;wp_walk;right
   exists A2.ins
   exact⟨R,as,sl,_,N+1,rfl,A2.ins,A2.attr .XB .XB _ _ rfl,F.wake XQ hw x,by omega,λYD c us H3 A3 hc ec hC F3=>q YD c us H3 A3 5e10 ec hC 3e41⟩
  ·obtain⟨x,ss,XQ⟩:=F.sl.2 ts hk;obtain⟨k0,b0,n0,r0,Zb,hm0⟩:=gA XQ;have YU:∀v,cI H v 5e42->∃a xs,v=.ref a/\H a=some (.tup (.str "wait"::.str x::xs)):=λv h=>by cases h with|wait e _ _=>exact⟨_,_,rfl,e⟩
   simp only[Pu.wake,XQ] at q;left
   exists A.ins,A.wk.ins,A.nm
   have W:=A.wk;rw[Zb] at W;refine⟨R.wk,R.wx,R.lb,R.ln,k0,n0,b0,r0,_,rfl,W,hm0,λv hv=>?_⟩;obtain⟨a,xs,rfl,e1⟩:=YU v hv
   exists e1,A.nm,mM
   refine⟨by omega,?_⟩;have A1:=A.name x w;have F1:=Fw.set (R:=R) (as:=as) (H:=H) (o:=.dK 3e8) (p:=R.nm) 9e0;generalize Xz H R.nm (.dK 3e8)=G1 at *;right;left
   exists A1.ins,A1.wk.ins
   have W1:=A1.wk;rw[show({S with nm:=dC S.nm x w}:Pu).stk=S.stk from rfl,Zb] at W1;refine⟨R.wk,R.wx,R.lb,R.ln,k0,n0,b0,r0,rfl,W1,λH2 W2 K2=>?_⟩;have e:(k0,b0,n0+1)::r0=fH S.stk:=by rw[Zb];rfl
   rw[e] at W2;have A2:=A1.walk W2 (K2.mono 0e0);have F2:=F1.trans 6e35;wp_walk;right
   exists A2.ins
   exact⟨R,as,sl,_,N+1,rfl,A2.ins,A2.attr .XB .XB _ _ rfl,F.wake XQ hw x,by omega,λYD c us H3 A3 hc ec hC F3=>q YD c us H3 A3 5e10 ec hC 3e41⟩
theorem uI:Ok T T.jW 15 (M0 ⟨t.aP,t.aO,t.aE⟩ true):=by
 nomatch T.jW
 ·obtain⟨R,as,sl,S,k,w,N,rfl,_⟩:=h;rfl
 ·obtain⟨R,as,sl,S,k,w,N,rfl,A,F,hN,hw,XR,q⟩:=h
  nomatch (pss3 (pif (ptc (Te 2 3e0 (nF hr 3e0)) 1e4 7e23) (aI (aJ (pmt pv0 T.aM (yV T) T.sA 8e1)))) (bH (wK (Mu 5e23 pv1 3e3 ⟨rfl,rfl,rfl,rfl⟩) pv2)) 7e5),0
  have tl:=A.slp;rcases XR with⟨k',es⟩|⟨ts,es⟩
  ·rw[es] at tl;obtain⟨p,rfl,ep⟩:=tl;left
   exists A.ins
   refine λp1 h1=>?_;generalize hg:Xz H p1 4e6=G1;have N1:Kp [] H G1:=hg▸Kp.new h1;have f1:G1 p1=some 4e6:=hg▸aA;clear hg;have A1:=A.kp N1;have hp1:=N1.at ep;have F1:=Fw.of (R:=R) (as:=as) N1;refine .inl ⟨_,OY 1 hp1 f1,?_⟩;by_cases hk:k'=k
   ·subst hk;simp only[Pu.hJ,es,if_true] at q
    exists decide_true,A1.ins
    exact⟨R,as,.ref p,S,w,N,rfl,A1,F,by omega,hw,.inl ⟨k',es⟩,λYD c us H3 A3 hc ec hC F3=>q as YD c us H3 A3 4e2 (A.c9 4e2).2 ec hC 4e41⟩
   ·have hq:S.hJ k w=({S with lt:=iX S.lt k w},[]):=by simp only[Pu.hJ,es,if_neg hk]
    rw[hq] at q
    exists decide_false,hk
    right;left;obtain⟨kvs,el,L⟩:=A1.lt;have ll:=L.len;have fl:=F.lt
    exists A1.ins,el
    refine λp2 h2=>?_;have hp2:=F1.free h2;have N2:=q0D (o:=.lst []) h2;have f2:Xz G1 p2 4e0 p2=some 4e0:=aA;have A2:=A1.kp N2;have el2:=N2.at el;have LL:=L.keep 1e36;have F2:=F1.trans 6e18;have nc:=A1.c9 h2;generalize Xz G1 p2 4e0=G2 at *
    exists el2
    refine⟨by omega,λv hv=>?_,λhv=>?_⟩
    ·rcases LL.look k with⟨z,_⟩|⟨l,ws,z,hn,ZA,hl⟩
     ·rw[z] at hv;cases hv
     rw[z] at hv;cases hv;have lw:=(F.lw k ws hn).1;obtain⟨A3,_⟩:=A2.Au el2 z 8e18;have F3:=F2.trans 6e30;rw[show eX S.lt k 8e18=iX S.lt k w by rw[iX,hn]] at A3;rw[Ϙ,ϔ,Ζ4] at A3 F3
     exists hl
     refine⟨by simp;omega,?_⟩;generalize Xz G2 l 3e35=G3 at *;wp_walk;right;wp_walk;refine λc hc=>?_;have N4:=q0D (o:=.lst []) hc;exact q as _ c [] _ 7e18 7e8 (A3.c9 hc).2 aA .nil 7e15
    ·rcases LL.look k with⟨z,hn⟩|⟨l,ws,z,_⟩
     rotate_left
     ·rw[z] at hv;cases hv
     have A3:=A2.O4 (ws:=[]) el2 z f2 nc.1 nc.2;have F3:=F2.trans (Fw.set (p:=R.lt) (o:=.dK 8e2) 9e0);have f3:Xz G2 R.lt (.dK 8e2) p2=some 4e0:=jZ el2 f2;have el3:Xz G2 R.lt (.dK 8e2) R.lt=some (.dK 8e2):=aA;have z3:bY 8e2 7e2=some 2e1:=by rw[Ab,if_pos rfl]
     generalize Xz G2 R.lt (.dK 8e2)=G3 at *
     exists f3
     obtain⟨A4,_⟩:=A3.Au el3 z3 [w];have e4:eX 2e35 k [w]=iX S.lt k w:=by rw[Cz hn,iX,hn]
     rw[show({S with lt:=S.lt++[(k,([]:List Wo))]}:Pu).lt=S.lt++[(k,[])] from rfl,e4] at A4;have F4:Fw R as 0e9 H 4e15:=by
      have z:=F3.fresh (o:=.lst [wv w]) hp2;exact⟨z.kp,z.dom,λa ha=>by
       rcases Υ.mp ha with ha|ha
       ·exact .inl ha
       ·exact .inr 2e31⟩
     replace A4:aS ⟨t.aP,t.aO,t.aE⟩ 4e15 R 0e9 5e3 {S with lt:=iX S.lt k w}:=A4;generalize Xz G3 p2 3e15=G4 at *;right;wp_walk;refine λc hc=>?_;have N4:=q0D (o:=.lst []) hc;exact q 0e9 _ c [] _ (A4.kp N4) 3e42 (A4.c9 hc).2 aA .nil (F4.trans 9e3)
  ·rw[es] at tl;obtain⟨p,pw,rfl,ep,epw⟩:=tl;left
   exists A.ins
   refine λp1 h1=>?_;generalize hg:Xz H p1 4e6=G1;have N1:Kp [] H G1:=hg▸Kp.new h1;have f1:G1 p1=some 4e6:=hg▸aA;clear hg;have A1:=A.kp N1;have hp1:=N1.at ep;have hpw:=N1.at epw;have F1:=Fw.of (R:=R) (as:=as) N1;refine .inr ⟨Str.ofString "wait",Str.ofString "hear",k,pw,_,hp1,hpw,rfl,by decide,?_⟩;have hq:S.hJ k w=({S with lt:=iX S.lt k w},[]):=by simp only[Pu.hJ,es]
   rw[hq] at q;wp_walk;right;left;obtain⟨kvs,el,L⟩:=A1.lt;have ll:=L.len;have fl:=F.lt
   exists A1.ins,el
   refine λp2 h2=>?_;have hp2:=F1.free h2;have N2:=q0D (o:=.lst []) h2;have f2:Xz G1 p2 4e0 p2=some 4e0:=aA;have A2:=A1.kp N2;have el2:=N2.at el;have LL:=L.keep 1e36;have F2:=F1.trans 6e18;have nc:=A1.c9 h2;generalize Xz G1 p2 4e0=G2 at *
   exists el2
   refine⟨by omega,λv hv=>?_,λhv=>?_⟩
   ·rcases LL.look k with⟨z,_⟩|⟨l,ws,z,hn,ZA,hl⟩
    ·rw[z] at hv;cases hv
    rw[z] at hv;cases hv;have lw:=(F.lw k ws hn).1;obtain⟨A3,_⟩:=A2.Au el2 z 8e18;have F3:=F2.trans 6e30;rw[show eX S.lt k 8e18=iX S.lt k w by rw[iX,hn]] at A3;rw[Ϙ,ϔ,Ζ4] at A3 F3
    exists hl
    refine⟨by simp;omega,?_⟩;generalize Xz G2 l 3e35=G3 at *;wp_walk;right;wp_walk;refine λc hc=>?_;have N4:=q0D (o:=.lst []) hc;exact q as _ c [] _ 7e18 7e8 (A3.c9 hc).2 aA .nil 7e15
   ·rcases LL.look k with⟨z,hn⟩|⟨l,ws,z,_⟩
    rotate_left
    ·rw[z] at hv;cases hv
    have A3:=A2.O4 (ws:=[]) el2 z f2 nc.1 nc.2;have F3:=F2.trans (Fw.set (p:=R.lt) (o:=.dK 8e2) 9e0);have f3:Xz G2 R.lt (.dK 8e2) p2=some 4e0:=jZ el2 f2;have el3:Xz G2 R.lt (.dK 8e2) R.lt=some (.dK 8e2):=aA;have z3:bY 8e2 7e2=some 2e1:=by rw[Ab,if_pos rfl]
    generalize Xz G2 R.lt (.dK 8e2)=G3 at *
    exists f3
    obtain⟨A4,_⟩:=A3.Au el3 z3 [w];have e4:eX 2e35 k [w]=iX S.lt k w:=by rw[Cz hn,iX,hn]
    rw[show({S with lt:=S.lt++[(k,([]:List Wo))]}:Pu).lt=S.lt++[(k,[])] from rfl,e4] at A4;have F4:Fw R as 0e9 H 4e15:=by
     have z:=F3.fresh (o:=.lst [wv w]) hp2;exact⟨z.kp,z.dom,λa ha=>by
      rcases Υ.mp ha with ha|ha
      ·exact .inl ha
      ·exact .inr 2e31⟩
    replace A4:aS ⟨t.aP,t.aO,t.aE⟩ 4e15 R 0e9 5e3 {S with lt:=iX S.lt k w}:=A4;generalize Xz G3 p2 3e15=G4 at *;right;wp_walk;refine λc hc=>?_;have N4:=q0D (o:=.lst []) hc;exact q 0e9 _ c [] _ (A4.kp N4) 3e42 (A4.c9 hc).2 aA .nil (F4.trans 9e3)
theorem uJ:Ok T T.jX 2 (zU t.aE):=by
 nomatch T.jX
 ·obtain⟨tk,tx,dp,da,made,pend,ans,i,w,rfl,_⟩:=h;rfl
 ·obtain⟨tk,tx,dp,da,made,pend,ans,i,w,rfl,R,hi,hl,q⟩:=h
  nomatch (pss2 (bH (pmt pv0 T.aX (oG T) T.jD 4e3)) (ppt 5e38 pv1 pv2)),0
  exists R.ins
  refine⟨tk,tx,dp,da,made,pend,ans,i,rfl,R,hi,λH1 R1 K1=>?_⟩
  exists R1.ins,R1.ha,zC (wv w) (J8 λp hp z=>R.dis p hp (z▸hi))
  have n1:=R.n1;refine⟨by simp only[hZ,Δ];omega,q _ ⟨by rw[aC n1.2];exact R1.ins,by rw[aC R.nda];exact R1.hp,by rw[aA];simp[hZ],R.nda,R1.lt,R1.asc,λp hp=>?_,λp hp z=>?_,R.small⟩ ?_⟩
  ·rcases Υ.mp hp with hp|hp
   ·exact R.la p hp
   ·rw[show p=(i,w) by simpa using hp];exact R.lt i hi
  ·rcases Υ.mp hp with hp|hp
   ·exact R1.dis p hp z
   ·rw[show p=(i,w) by simpa using hp] at z;simpa using(Γ3.mp z).2
  ·intro b o eb nb;simp only[Ε,Θ,ϝ,not_or] at nb;rw[aC nb.2];exact K1.at1 eb nb.1
theorem yU:Ok T T.mE 15 (HJ ⟨t.aP,t.aO,t.aE⟩ true):=by
 nomatch T.mE
 ·obtain⟨R,as,sl,S,i,w,N,rfl,_⟩:=h;rfl
 ·obtain⟨R,as,sl,S,i,w,N,rfl,A,F,hN,hw,hi,hn,q⟩:=h
  nomatch (pss3 (bH (pmt 1e3 T.aX (uJ T) T.jX (pa2 pv1 pv2))) (pif (PW.pt (zD (ptc cO (pix aY 1e4 aB) aL) (sX (gU Cm pv1 (pix aY 1e4 aB) 6e4)))) (aI (aJ (pmt pv0 T.aM (yV T) T.sA 4e3)))) 7e5),0
  left
  exists A.ins,A.tk.ins
  refine⟨R.tk,R.tx,R.dp,R.da,_,_,_,i,w,rfl,A.tk,hi,by have:=F.an;omega,λH1 T1 K1=>?_⟩;have K2:Kp [R.tk,R.dp,R.da] H H1:=K1.mono 7e9
  have A1:aS ⟨t.aP,t.aO,t.aE⟩ H1 R as sl (S.done i w):=A.tick T1 K2;have F1:=A.Di T1 K2;have FD:=F.done (i:=i) hw;have wi:cL (some i):=iT (by have:=(A.tk.lt i hi).1;omega) (by have:=(A.tk.lt i hi).2;have:=F.md;omega);wp_walk;right;left;cases es:S.sl with
  | XB=>rw[es] at hn;cases hn
  | wait ts =>
   have XR:=A1.slp;rw[show(S.done i w).sl=S.sl from rfl,es] at XR;obtain⟨p,p2,rfl,ep,ep2⟩:=XR;simp only[Pu.dW,es] at q
   exists A1.ins,ep,ep2,GO,IM
   refine⟨rfl,?_⟩;by_cases ht:i∈ts
   ·rw[if_pos ht] at q
    exists ht,decide_true,A1.ins
    exact⟨R,as,.ref p,_,some i,N+1,rfl,A1,FD,by omega,wi,.inr ⟨ts,es⟩,λYD c us H3 A3 hc ec hC F3=>q YD c us H3 A3 4e2 ec hC 4e41⟩
   ·rw[if_neg ht] at q
    exists ht,decide_false
    right;wp_walk;refine λc hc=>?_;have N4:=q0D (o:=.lst []) hc;exact q _ c [] _ 1e5 4e2 aA .nil 0e4
  | new =>
   have XR:=A1.slp;rw[show(S.done i w).sl=S.sl from rfl,es] at XR;obtain⟨p,rfl,ep⟩:=XR;simp only[Pu.dW,es] at q
   exists A1.ins,ep
   right;wp_walk;refine λc hc=>?_;have N4:=q0D (o:=.lst []) hc;exact q _ c [] _ 1e5 4e2 aA .nil 0e4
  | XE k =>
   have XR:=A1.slp;rw[show(S.done i w).sl=S.sl from rfl,es] at XR;obtain⟨p,rfl,ep⟩:=XR;simp only[Pu.dW,es] at q
   exists A1.ins,ep
   right;wp_walk;refine λc hc=>?_;have N4:=q0D (o:=.lst []) hc;exact q _ c [] _ 1e5 4e2 aA .nil 0e4
  | ended u =>
   have XR:=A1.slp;rw[show(S.done i w).sl=S.sl from rfl,es] at XR;obtain⟨p,rfl,ep⟩:=XR;simp only[Pu.dW,es] at q
   exists A1.ins,ep
   right;wp_walk;refine λc hc=>?_;have N4:=q0D (o:=.lst []) hc;exact q _ c [] _ 1e5 4e2 aA .nil 0e4
  | worn =>
   have XR:=A1.slp;rw[show(S.done i w).sl=S.sl from rfl,es] at XR;obtain⟨p,rfl,ep⟩:=XR;simp only[Pu.dW,es] at q
   exists A1.ins,ep
   right;wp_walk;refine λc hc=>?_;have N4:=q0D (o:=.lst []) hc;exact q _ c [] _ 1e5 4e2 aA .nil 0e4
theorem eE:Ok T T.dZ 16 (Bz K ⟨t.aP,t.aO,t.aE⟩ true):=by
 nomatch T.dZ
 ·obtain⟨R,v,rfl,_⟩:=h;rfl
 ·obtain⟨R,v,rfl,q0⟩:=h
  nomatch (aG (pif (Ct (pmt pv0 T.aM (uH T) T.jV 4e3)) (aI 7e5)) (aG (bO T.aM T.qB pv0 (bJ 7e27 rfl T.Nx Ex (pa2 0e10 5e0))) (pss3 (pif (ptc cO 5e0 aL) (pss2 (bO T.aM T.yR pv0 5e0) 3e33)) (pif (ptc cO 5e0 aL) (aI (aJ (pmt pv0 T.aM (yU T) T.mE (pa2 5e0 5e0))))) (aJ (pmt pv0 T.aM (uI T) T.jW (pa2 5e0 5e0)))))),0
  rcases q0 with⟨as,sl,S,h,N,A,F,hN,hn,hH,ok,q⟩|⟨p,b,m,w,A,F,hH,ok,q⟩
  ·skip;left
   exists A.ins
   refine⟨R,v,rfl,.inl ⟨as,sl,S,h,A,hn,hH,λH1 K1=>?_⟩⟩;have A1:=A.kp K1;obtain⟨a,rfl,eh⟩:=hH;have eh1:=K1.at eh;cases ho:S.over h with
   | true =>
    simp only[Pu.take,ho,if_true] at q;wp_walk;have F1:=Fw.of (R:=R) (as:=as) K1;refine λc hc=>?_;have N4:=q0D (o:=.lst []) hc;exact q as _ c [] _ 1e5 4e2 (A1.c9 hc).2 aA .nil 0e4
   | false =>
    simp only[Pu.take,ho,Η8,Δ2] at q;wp_walk;right;cases h with
    | XS m w =>
     simp only[Hap.vs,Hap.ini,Hap.w,Χ,ϛ] at eh1;refine aQ λR2 hR2=>?_
     exists A1.ins,eh1
     have F1:=Fw.of (R:=R) (as:=as) K1;have A2:=A1.attr sl S.sl S.ar 5e7 A1.slp;have Z8:=Fw.set (R:=R) (as:=as) (H:=H1) (p:=R.x) (o:=5e4) 9e0;have eh2:=A1.tkp Z8 _ _ eh1;have F2:=F1.trans Z8;clear Z8;change R2 _ (Xz H1 R.x 5e4);generalize Xz H1 R.x 5e4=G2 at *;refine hR2 _ _ ?_;clear hR2 R2
     exists A2.ins,eh2
     have A3:=A2.attr sl S.sl w 5e7 A2.slp;have F3:=F2.trans (Fw.set (p:=R.x) (o:=(iE t.aP R (sl) w 5e7)) 9e0);generalize Xz G2 R.x (iE t.aP R (sl) w 5e7)=G3 at *
     exists A3.ins
     have FF:XN true ({S with nw:=later S.nw m,ar:=w,sl:=.XB}:Pu) N:={F with pl:=⟨F.pl.nm,ok.2,F.pl.an⟩,nw:=(F.at' ok.1).nw,sl:=⟨λk e=>7e17,λk e=>7e17⟩};exact⟨R,as,sl,_,N,rfl,A3.ins,A3.attr .XB .XB _ _ rfl,FF,by omega,λYD c us H3 A4 hc ec hC F4=>q as YD c us H3 A4 7e8 (A.c9 7e8).2 ec hC (F3.trans F4)⟩
    | don m i w =>
     simp only[Hap.vs,Hap.ini,Hap.w,Χ,ϛ] at eh1;have hi:i∈S.pend:=by
      cases es:S.sl<;>simp only[Pu.over,es,Bool.not_eq_false',Ζ8] at ho
      all_goals first|exact ho|cases ho
     refine aQ λR2 hR2=>?_
     exists A1.ins,eh1
     have F1:=Fw.of (R:=R) (as:=as) K1;have A2:=A1.attr sl S.sl S.ar 5e7 A1.slp;have Z8:=Fw.set (R:=R) (as:=as) (H:=H1) (p:=R.x) (o:=5e4) 9e0;have eh2:=A1.tkp Z8 _ _ eh1;have F2:=F1.trans Z8;clear Z8;change R2 _ (Xz H1 R.x 5e4);generalize Xz H1 R.x 5e4=G2 at *;refine hR2 _ _ ?_;clear hR2 R2
     exists A2.ins,eh2
     exact⟨R,as,sl,S.at' m,i,w,N,rfl,A2,F.at' ok.1,by omega,ok.2,hi,hn,λYD c us H3 A4 hc ec hC F4=>q as YD c us H3 A4 5e10 (A.c9 5e10).2 ec hC 2e41⟩
    | ltr m k w =>
     simp only[Hap.vs,Hap.ini,Hap.w,Χ,ϛ] at eh1;have hs:(∃k,S.sl=.XE k)\/∃ts,S.sl=.wait ts:=by
      cases es:S.sl with
      | XE k=>exact .inl ⟨k,rfl⟩
      | wait ts=>exact .inr ⟨ts,rfl⟩
      | XB=>rw[es] at hn;cases hn
      | _=>simp only[Pu.over,es] at ho;cases ho
     refine aQ λR2 hR2=>?_
     exists A1.ins,eh1
     have F1:=Fw.of (R:=R) (as:=as) K1;have A2:=A1.attr sl S.sl S.ar 5e7 A1.slp;have Z8:=Fw.set (R:=R) (as:=as) (H:=H1) (p:=R.x) (o:=5e4) 9e0;have eh2:=A1.tkp Z8 _ _ eh1;have F2:=F1.trans Z8;clear Z8;change R2 _ (Xz H1 R.x 5e4);generalize Xz H1 R.x 5e4=G2 at *;refine hR2 _ _ ?_;clear hR2 R2
     exists A2.ins,eh2
     exact⟨R,as,sl,S.at' m,k,w,N,rfl,A2,F.at' ok.1,by omega,ok.2,hs,λX7 YD c us H3 A4 hc nc ec hC F4=>q X7 YD c us H3 A4 5e10 nc ec hC 2e41⟩
  ·obtain⟨a,rfl,eh⟩:=hH;simp only[Hap.vs,Hap.ini,Hap.w,Χ,ϛ] at eh;have ex:=A.ins;left
   exists ex
   refine⟨R,_,rfl,.inr ⟨p,m,w,ex,A.sq,⟨a,rfl,by simpa[Hap.vs,Hap.ini,Hap.w] using eh⟩,?_⟩⟩;wp_walk;right;refine aQ λR2 hR2=>?_
   exists ex,eh
   refine hR2 _ _ ?_;clear hR2;generalize hG1:Xz H R.x _=G1;have Yl:=(Η9 hG1 R.x).symm.trans aA;have eh1:G1 a=some _:=(Η9 hG1 a).symm.trans (by rw[aC (bU eh ex 7e0)];exact eh);have F1:Fw R [] [] H G1:=by rw[<- hG1];exact Fw.set 9e0
   exists Yl,eh1
   have F2:∀o,Fw R [] [] H (Xz G1 R.x o):=λo=>F1.trans (Fw.set 9e0);have FF:XN true ({eT b with nw:=later 0 m,ar:=w,sl:=.XB}:Pu) 0:={F with pl:=⟨F.pl.nm,ok.2,F.pl.an⟩,nw:=(F.at' ok.1).nw,sl:=⟨λk e=>7e17,λk e=>7e17⟩};refine⟨R,[],.ref p,{eT b with nw:=later 0 m,ar:=w},0,rfl,aA,?_,FF,by omega,λYD c us H3 A4 hc ec hC F4=>q YD c us H3 A4 ((F2 _).free hc) 0e0 ec hC ((F2 _).trans F4)⟩;rw[wO,<- hG1,wO];have:=A.ru.attr .XB .XB w (later 0 m) rfl;rw[wO] at this;exact this
theorem Ck:Ok T T.qQ 1 (HG t.aO):=by
 nomatch T.qQ
 ·obtain⟨wk,wx,lb,ln,st,rfl,_⟩:=h;rfl
 ·obtain⟨wk,wx,lb,ln,st,rfl,W,q⟩:=h
  nomatch (aI (aJ (bL iC rfl T.iH eU (pa1 7e4)))),0
  exists W.ins,W.nu
  exact q
theorem pT:Ok T T.gM 1 (BB t.aE):=by
 nomatch T.gM
 ·obtain⟨tk,tx,dp,da,made,pend,ans,rfl,_⟩:=h;rfl
 ·obtain⟨tk,tx,dp,da,made,pend,ans,rfl,R,h64,q⟩:=h
  nomatch (aI (aJ (bJ (Ez rfl) rfl T.jT iB (pa1 9e9)))),0
  exists R.ins,R.hp,Jt
  exact⟨h64,λl XJ hl hp hs=>by rw[oV hp hs R.asc];exact q l hl⟩
theorem cG:Ok T T.b7 2 (HF ⟨t.aP,t.aO,t.aE⟩):=by
 nomatch T.b7
 ·obtain⟨R,as,sl,S,rfl,_⟩:=h;rfl
 ·obtain⟨R,as,sl,S,rfl,A,h64,q⟩:=h
  nomatch (aI (aJ (pmt0 1e3 T.aX (pT T) T.gM))),0
  exists A.ins,A.tk.ins
  exact⟨R.tk,R.tx,R.dp,R.da,_,_,_,rfl,A.tk,h64,q⟩
theorem oF:Ok T T.lJ 3 (D5 ⟨t.aP,t.aO,t.aE⟩):=by
 nomatch T.lJ
 ·obtain⟨R,as,sl,S,rfl,_⟩:=h;rfl
 ·obtain⟨R,as,sl,S,rfl,A,hn,b1,b2,b3,b4,b5,q⟩:=h;have hu:=yF hr
  nomatch (aG (pif (gU uN (pix aY 1e4 aB) (aT 7e10) 6e4) (aI (aJ 1e4))) (pss3 (j9 (i:=1) (fr:=[0]) (N:=["name","self"]) rfl 5e1 4e9 (dH (bJ (xF rfl) rfl T.jT iB (pa1 5e6))) (λC s H ex pn=>⟨sW (gU Jm (sS hu (aK T.aM T.fE 0e2) 1e2 5e8) fZ (nomark _)) ,(aT (bQ 1e2 (bQ (sS hu (aK T.aM T.fE 0e2) 1e2 5e8) bD))) ⟩) sc rfl 8e6) (j9 (i:=2) (fr:=[0]) (N:=["key","self"]) rfl 5e1 4e9 (dH (bJ (xF rfl) rfl T.jT iB (pa1 5e23))) (λC s H ex pn=>⟨sW (pO (sS hu (aK T.aM T.fD 0e2) 1e2 5e8) 6e8) ,(aT (bQ 1e2 (bQ (bL iC rfl T.iH eU (bQ (sS hu (aK T.aM T.fD 0e2) 1e2 5e8) bD)) bD))) ⟩) sc rfl 8e6) (aJ (aT (bQ 1e4 (bQ (pmt0 6e9 T.bX (Ck T) T.qQ) (bQ 6e38 (bQ 0e10 (bQ (bL Ir rfl T.iH eU 4e3) (bQ (aK T.aX T.qY 1e3) (pa3 (bL iC rfl T.iH eU (pa1 (pmt0 pv0 T.aM 9e11 T.b7))) (bL (C0 rfl) rfl T.iH eU (pa1 (Mv (aK T.aX T.eZ 1e3)))) (bL iC rfl T.iH eU 8e1)))))))))))),0
  left;obtain⟨ps,s0,r0,rfl,ep,Zz⟩:=A.slp.word hn;refine BR λRI Zw=>?_
  exists A.ins,ep
  refine λp1 m1=>⟨rfl,rfl,?_⟩;rw[Zz];have N1:=q0D (o:=.tup [.str "wait",.str "hear"]) m1;replace A:=A.kp N1;generalize Xz H p1 (.tup [.str "wait",.str "hear"])=G1 at *;clear m1 ep Zz;cases hg:S.sl.dQ with
  | false =>
   rw[if_pos (show 3e28=true from rfl)];refine Zw _ _ ?_
   exists A.ins
   exact q _ _ (by unfold rJ;rw[if_neg 7e16];exact A.slp) N1
  | true =>
   rw[if_neg 0e0];clear Zw RI;right;left
   exists A.ins,A.nm,HM
   refine⟨by rw[Δ];exact b2,λl ns hl hp hs=>?_⟩;have hks:∀n∈ns,n∈S.nm.map (·.1):=λn hn=>hp.mem_iff.mp hn;have lns:ns.length < 64:=by rw[hp.length_eq,Δ];exact b2
   have ZF:=Fv hp hs;have N2:=q0D (o:=.lst 1e8) hl;have el:Xz G1 l 2e8 l=some 2e8:=aA;replace A:=A.kp N2;replace N1:=N1.trans N2;generalize Xz G1 l 2e8=G2 at *;clear hp hs hl N2;refine⟨⟨_,c5.of el⟩,?_⟩;obtain⟨Pv,XI⟩:∃Pv:Nat->List V->Hp->Prop,∀i xs G,Pv i xs G=(eQ G xs (gH S.nm 8e8)/\Kp [] G2 G):=⟨_,λ_ _ _=>rfl⟩;refine jH (ys:=ns.map V.str) Pv ?_ ?_ ?_ ?_ ?_
   ·rw[XI];exact⟨.nil,Kp.refl⟩
   ·intro i xs G h;rw[XI] at h;rw[h.1.len];have h1:=uC S.nm 8e8;rw[Α0] at h1;omega
   ·intro i xs G h;rw[XI] at h;exact c5.of 2e25
   ·intro i y xs G hi ey h;rw[XI] at h;obtain⟨hP,KG⟩:=h;obtain⟨n,en,rfl⟩:∃n,ns[i]?=some n/\y=V.str n:=by
     rw[Ψ] at ey;obtain⟨n,a0,b0⟩:=ϑ.mp ey;exact⟨n,a0,b0.symm⟩
    have vn:=L3 0e40;have AG:=A.kp KG;have es:gH S.nm (ns.take 2e2)=gH S.nm 8e8++gH S.nm [n]:=by rw[Α6,en,Option.toList_some,Bd]
    exists aV,Γ8,AG.ins,AG.nm,vn
    cases hw:bV S.nm n with
    | none =>
     rw[if_pos (show wv none=V.XB from rfl),XI,es];exact⟨by rw[show gH S.nm [n]=[] by simp[gH,hw],Η0];exact hP,KG⟩
    | some z =>
     rw[if_neg (by simp[wv])];intro p hp;rw[XI,es,show gH S.nm [n]=[(.str n,wv (some z))] by simp[gH,hw]];exact⟨(hP.kt 3e43).snoc aA,KG.trans 5e25⟩
   intro un G h ln2 hln;rw[XI] at h;obtain⟨hP,KG⟩:=h;rw[Δ,Β9,ZF] at hP;replace hP:eQ G un S.nmS:=hP;have lun:un.length<=64:=by
    rw[hP.len];have h1:=uC S.nm (srt (S.nm.map (·.1)));rw[<- ZF] at h1;show(gH S.nm (srt (S.nm.map (·.1)))).length<=64;rw[<- ZF];omega
   have N3:=q0D (o:=.lst un) hln;have YO:Xz G ln2 4e27 ln2=some 4e27:=aA;replace hP:=hP.kt 0e43;replace A:=A.kp 4e10;replace N1:=N1.trans 4e10;generalize Xz G ln2 4e27=G3 at *;clear XI KG N3 hln el hks ZF lns;right;left;obtain⟨kvs,ek,hL⟩:=A.lt;have sk:=PR hL
   exists A.ins,ek,sk
   refine⟨by rw[Δ];exact b3,λl ns hl hp hs=>?_⟩;have hks:∀n∈ns,n∈S.lt.map (·.1):=λn hn=>hp.mem_iff.mp hn;have lns:ns.length < 64:=by rw[hp.length_eq,Δ];exact b3
   have ZF:=Fv hp hs;have N2:=q0D (o:=.lst 1e8) hl;have el:Xz G3 l 2e8 l=some 2e8:=aA;replace A:=A.kp N2;replace N1:=N1.trans N2;replace hP:=hP.kt 2e18;replace YO:=N2.at YO;replace ek:=N2.at ek;replace hL:=hL.keep (λa _ o e=>N2.at e);generalize Xz G3 l 2e8=G4 at *;clear hp hs hl N2 sk;refine⟨⟨_,c5.of el⟩,?_⟩;obtain⟨Pv,XI⟩:∃Pv:Nat->List V->Hp->Prop,∀i xs G,Pv i xs G=(jU G xs (gZ S.lt 8e8)/\Kp [] G4 G):=⟨_,λ_ _ _=>rfl⟩;refine jH (ys:=ns.map V.str) Pv ?_ ?_ ?_ ?_ ?_
   ·rw[XI];exact⟨.nil,Kp.refl⟩
   ·intro i xs G h;rw[XI] at h;rw[h.1.len];have h1:=uA S.lt 8e8;rw[Α0] at h1;omega
   ·intro i xs G h;rw[XI] at h;exact c5.of 2e25
   ·intro i y xs G hi ey h;rw[XI] at h;obtain⟨hT,KG⟩:=h;obtain⟨n,en,rfl⟩:∃n,ns[i]?=some n/\y=V.str n:=by
     rw[Ψ] at ey;obtain⟨n,a0,b0⟩:=ϑ.mp ey;exact⟨n,a0,b0.symm⟩
    obtain⟨la,ws,vn,lw,ela⟩:=hL.inS 0e40;have AG:=A.kp KG;have ekG:=KG.at ek;have elG:=KG.at ela;have es:gZ S.lt (ns.take 2e2)=gZ S.lt 8e8++gZ S.lt [n]:=by rw[Α6,en,Option.toList_some,Bb]
    exists aV,Γ8,AG.ins,ekG,vn,elG
    cases ws with
    | nil =>
     rw[if_neg 0e0,XI,es];exact⟨by rw[show gZ S.lt [n]=[] by simp[gZ,lw],Η0];exact hT,KG⟩
    | cons w r =>
     rw[if_pos 0e0]
     exists AG.ins,ekG,vn,elG
     intro q1 m1 q2 m2;rw[XI,es,show gZ S.lt [n]=[(n,w::r)] by simp[gZ,lw]];exact⟨((hT.kt (aF.new m1)).kt (aF.new m2)).snoc aA ((q0D m2).at aA),(KG.trans (Kp.new m1)).trans (Kp.new m2)⟩
   intro ut G h ln3 hln;rw[XI] at h;obtain⟨hT,KG⟩:=h;rw[Δ,Β9] at hT;have lut:ut.length<=64:=by
    rw[hT.len];have h1:=uA S.lt ns;omega
   rw[ZF] at hT;replace hT:jU G ut S.ltS:=hT;have N3:=q0D (o:=.lst ut) hln;have ZG:Xz G ln3 3e27 ln3=some 3e27:=aA;replace hT:=hT.kt 0e43;replace hP:=hP.kt (aF.nil 4e10);replace YO:=(KG.trans N3).at YO;replace A:=A.kp 4e10;replace N1:=N1.trans 4e10;generalize Xz G ln3 3e27=G5 at *;clear XI KG N3 hln el hks ZF lns ek hL;right
   exists A.ins,A.wk.ins
   refine⟨R.wk,R.wx,R.lb,R.ln,S.stk,rfl,A.wk,λpl m1=>?_⟩;have N4:=q0D (o:=.tup 6e15) m1;have epl:Xz G5 pl (.tup 6e15) pl=some (.tup 6e15):=aA;replace A:=A.kp N4;replace N1:=N1.trans N4;replace hP:=hP.kt 9e2;replace hT:=hT.kt 9e2;replace YO:=N4.at YO;replace ZG:=N4.at ZG;generalize Xz G5 pl (.tup 6e15)=G6 at *;clear N4 m1
   exists A.ins,A.tk.ins,YO
   refine⟨un,c5.of YO,λpn on m2 dn=>?_⟩;have N4:=q0D (o:=.XX on (.tup un)) m2;have epn:nJ (Xz G6 pn 8e38) pn un:=⟨on,dn,aA⟩;replace A:=A.kp N4;replace N1:=N1.trans N4;replace hP:=hP.kt 9e2;replace hT:=hT.kt 9e2;replace YO:=N4.at YO;replace ZG:=N4.at ZG;replace epl:=N4.at epl;generalize Xz G6 pn 8e38=G7 at *;clear N4 m2
   exists A.ins,A.tk.ins
   refine⟨R,as,_,S,rfl,A,b1,λlo m3=>?_⟩;have N4:=q0D (o:=.lst 4e8) m3;have elo:Xz G7 lo (.lst 4e8) lo=some (.lst 4e8):=aA;replace A:=A.kp N4;replace N1:=N1.trans N4;replace hP:=hP.kt 9e2;replace hT:=hT.kt 9e2;replace YO:=N4.at YO;replace ZG:=N4.at ZG;replace epl:=N4.at epl;replace epn:nJ _ pn un:=iP epn N4;generalize Xz G7 lo (.lst 4e8)=G8 at *;clear N4 m3
   exists elo
   refine λpo m4=>?_;generalize hg:Xz G8 po (.tup 4e8)=G9;have N4:Kp [] G8 G9:=hg▸Kp.new m4;have epo:G9 po=some (.tup 4e8):=hg▸aA;clear hg;replace A:=A.kp N4;replace N1:=N1.trans N4;replace hP:=hP.kt 9e2;replace hT:=hT.kt 9e2;replace YO:=N4.at YO;replace ZG:=N4.at ZG;replace epl:=N4.at epl;replace epn:nJ _ pn un:=iP epn N4;clear N4 m4
   exists A.ins,A.tk.ins,A.tk.ha
   refine λrv m5=>?_;generalize hg:Xz G9 rv 1e42=GA;have N4:Kp [] G9 GA:=hg▸Kp.new m5;have erv:GA rv=some 1e42:=hg▸aA;clear hg;replace A:=A.kp N4;replace N1:=N1.trans N4;replace hP:=hP.kt 9e2;replace hT:=hT.kt 9e2;replace YO:=N4.at YO;replace ZG:=N4.at ZG;replace epl:=N4.at epl;replace epn:nJ _ pn un:=iP epn N4;replace epo:=N4.at epo;clear N4 m5;refine⟨R.da,_,rfl,A.tk.ha,λpa aa GB m6 sm epa ZA hpa=>?_⟩;have N4:Kp [] GA GB:=Kp.of sm;replace A:=A.kp N4;replace N1:=N1.trans N4;replace hP:=hP.kt 9e2;replace hT:=hT.kt 9e2;replace YO:=N4.at YO;replace ZG:=N4.at ZG;replace epl:=N4.at epl;replace epn:nJ _ pn un:=iP epn N4;replace epo:=N4.at epo;have hA:eQ GB (aa.map V.ref) S.anS:=eQ.of (by rw[ZA,Pu.anS,Δ,hZ,Δ]) λj a x y e1 e2=>by
    rw[Pu.anS,Ψ] at e2;obtain⟨p0,e3,e4⟩:=ϑ.mp e2;cases e4;exact hpa j a (.inl p0.1) (wv p0.2) e1 (by rw[hZ,Ψ,e3];rfl)
   clear N4 sm ZA hpa m6 erv
   exists ZG
   refine λpt m7 p m8=>?_;have N4:=(q0D (o:=.tup ut) m7).trans (Kp.new (o:=.tup [.ref ps,.ref pl,wv S.ar,.int S.nw,.ref pn,.int S.made,.ref po,.ref pa,.ref pt]) m8);refine q _ _ ?_ (N1.trans N4);unfold rJ;rw[if_pos hg];have T:=aF.nil N4;exact⟨p,pl,pn,po,pa,pt,.ref ps,un,_,ut,rfl,aA,A.slp.kt T,N4.at epl,iP epn N4,hP.kt T,N4.at epo,iP epa N4,hA.kt T,(q0D m8).at aA,hT.kt T⟩
theorem Ha:Ok T T.GI 20 (HI K ⟨t.aP,t.aO,t.aE⟩):=by
 nomatch T.GI
 ·obtain⟨pg,v,hv,us,b,S,N,h,rfl,_⟩:=h;rfl
 ·obtain⟨pg,v,hv,us,b,S,N,h,rfl,ep,hB,g,XQ,y,bN,hH,hn,hm,hnw,q⟩:=h
  nomatch (pss3 (pst 3 (pcl (Mg T) T.EM 8e40)) (pst 4 (pmt pv3 T.aM 2e7 T.dZ 8e1)) (aJ (aT (pa2 pv4 (pmt0 pv3 T.aM (oF T) T.lJ))))),0
  left;obtain⟨nn,_,l1,l2,l3⟩:=y.mq;have gl:=g.ln;wp_walk;rcases XQ with XQ|⟨rfl,p,rfl,hp⟩
  ·refine⟨pg,v,us,b,rfl,ep,hB,.inl ⟨S,XQ,y.z,y.tk,by omega,by have:=y.oQ g;omega,λR sl G1 A K1 NR=>?_⟩⟩;right;left;have yr:=y.Cv g;have Yl:=A.ins
   exists Yl
   refine⟨R,hv,rfl,.inl ⟨[],sl,Cv b S,h,N,A,yr.ft,by omega,yr.z.isN,iY hH 4e25,hm,λX7 X2 c cs G2 A2 hc nc ec ZZ F=>?_⟩⟩;right;have K2:Kp [] H G2:=λa o e _=>F.kp a o 0e19 0e32 0e0;have y2:=yr.take g hn hm.1 hm.2 1e0;obtain⟨n2,_,l4,l5,l6⟩:=y2.mq;have hf:=y2.ft;have Yt:=A2.ins
   exists Yt
   refine⟨R,X7,X2,_,rfl,A2,y2.z.isN,by have:=y2.oQ g;omega,by omega,by rw[y2.z.r.lt];decide,by have:=hf.an;omega,8e31,λv' G3 st k3=>?_⟩;intro t1 ht1;have N3:=q0D (o:=.tup [.ref c,v']) ht1;have Yo:=st.sim (y.z.sim.take h).1 y2.z.r (y.z.take g.nb hn).r;rw[(y.z.sim.take h).2] at ZZ;exact q t1 c cs v' _ aA 6e36 9e33 (Yo.kp N3) 7e35
  ·obtain⟨w0,rfl⟩:=hnw rfl;refine⟨pg,_,us,b,rfl,ep,hB,.inr ⟨p,rfl,hp,λR G1 A K1 NR=>?_⟩⟩;right;left;have Yl:=A.ins
   exists Yl
   refine⟨R,hv,rfl,.inr ⟨p,b,0,w0,A,B6 g.gd g.dp,iY hH 4e25,hm,λX2 c cs G2 A2 hc nc ec ZZ F=>?_⟩⟩;right;have K2:Kp [] H G2:=λa o e _=>F.kp a o 0e19 0e32 0e0;have y2:=(Y38.new g).take g hn hm.1 hm.2 3e0;obtain⟨n2,_,l4,l5,l6⟩:=y2.mq;have hf:=y2.ft;have Yt:=A2.ins
   exists Yt
   refine⟨R,[],X2,_,rfl,A2,y2.z.isN,by have:=y2.oQ g;omega,by omega,by rw[y2.z.r.lt];decide,by have:=hf.an;omega,8e31,λv' G3 st k3=>?_⟩;intro t1 ht1;have N3:=q0D (o:=.tup [.ref c,v']) ht1;exact q t1 c cs v' _ aA 6e36 9e33 (st.kp N3) 7e35
theorem Ay:Ok T T.n6 24 (MX P w K):=by
 nomatch T.n6
 ·obtain⟨p1,p2,wl,kl,X5,X4,b,c,ws,n,rfl,_⟩:=h;rfl
 ·obtain⟨p1,p2,wl,kl,X5,X4,b,c,ws,n,rfl,e1,s1,e2,s2,gb,gc,lb,lc,ew,lw,hw,ek,hn,q⟩:=h
  nomatch (aG (pst 5 Hi) (pss3 (pst 6 (bA (pa1 (aT (pa3 3e3 1e21 1e21))))) (i7 Γ0 rfl (lX rfl T.rF (pa1 pv4)) (pgn 7) (aG (pst 8 3e3) (pss3 (i7 Γ0 rfl (dH pv6) (Fh rfl (j8 (pgn 9) (j8 (pgn 10) (j8 (pgn 11) Cq)))) (aI (i7 Γ0 rfl (dH (pcl (pU T) T.gN (bQ 4e19 (pa3 (pv 11) pv2 pv3)))) (pgn 12) (aG (pst 13 (pcl (Ha T) T.GI (pa3 pv0 4e19 8e11))) (aG (pst 14 (pcl (Ha T) T.GI (pa3 pv1 (pv 11) 8e11))) (pss3 (pif (ptc 3e16 2e23 1e23) (aI (aJ (aT (pa2 aL 6e32))))) (pst 15 (aT (pa2 2e23 1e23))) (pif (Fj (Hf (nF hr 3e0) (pv 15) pv5)) (pss2 (Hn (nF hr 3e0) pv5 (pv 15) mX rfl) (bH (wK 3e4 (aT (pa3 6e32 2e23 1e23)))))))))))) (pif (Fk (pO 3e4 6e8)) 7e30) (pst 6 3e4)))) (aJ 2e10))),0
  left
  exists FJ,rC
  intro mt hmt;right;left;wp_walk;intro l0 h0 t0 h1 wy h2;have M1:=q0D (o:=fV P w mt []) hmt;have M2:=q0D (o:=.lst []) h0;have M3:=q0D (o:=.tup [.ref l0,.ref t.qS,.ref t.qS]) h1;have M4:=q0D (o:=.lst [.ref t0]) h2;have K2:=((M1.trans M2).trans M3).trans M4;have em:gY P w K (Xz 3e12 wy 1e10) mt []:=⟨((M2.trans M3).trans M4).at aA,λk hk=>by cases hk⟩;have ey:Xz 3e12 wy 1e10 wy=some 1e10:=aA;have hw0:dN K (Xz 3e12 wy 1e10) b c [.ref t0] [l0] [[]] :=
   .cons ⟨t0,[],_,_,rfl,M4.at aA,(M3.trans M4).at aA,.nil,.inr ⟨rfl,_,rfl,T.To _⟩,.inr ⟨rfl,_,rfl,T.To _⟩,λz=>absurd rfl z⟩ .nil
  right;generalize Xz 3e12 wy 1e10=G2 at *;clear M1 M2 M3 M4 h0 h1 h2;have KH:∀{G},Kp [mt] G2 G->Kp [] H G:=λ{G} k a o e _=>k.at1 8e26 (aD e hmt);left;wp_walk;refine⟨⟨by omega,by omega⟩,?_⟩;obtain⟨Pv,XI⟩:∃Pv:Nat->St->Hp->Prop,∀i σ G,Pv i σ G=E15 fun(x7 x8 x9 YK YL Yq Yy Yi x15:Option V) (wa:Addr) (ks:List 0e11) (va:List V) (ls:List Addr) (fr:List 9e10) (met:List 7e11)=>A10 (σ=[some 5e2,some 2e1,some 9e1,some 4e11,some 6e3,some 0e7,some 0e27,x7,x8,x9,YK,YL,Yq,Yy,Yi,x15]) 4e38 (ks.map (·.1)=met.map vA) (G wa=some (.lst va)) (dN K G b c va ls fr) 6e40 ((∀r∈fr,rH b c ws r/\r.length=i)) (fr.length<=bB i) 3e38 (rnd b c ws n (dU b c ws [[]]) []=rnd b c ws (n - i) (dU b c ws fr) met):=⟨_,λ_ _ _=>rfl⟩;refine tS (lo:=0) Pv ?_ ?_ ?_
  ·rw[XI];exact⟨_,_,_,_,_,_,_,_,_,wy,[],_,_,[[]],[],rfl,em,rfl,ey,hw0,.refl,(λr hr=>by rw[Τ.mp hr];exact⟨.inl rfl,rfl⟩),by decide,ϖ _,rfl⟩
  ·intro i σ G hi h;rw[XI] at h;obtain⟨x7,x8,x9,YK,YL,Yq,Yy,Yi,x15,wa,ks,va,ls,fr,met,rfl,hM,hk,eW,hW,kG,hr,lf,lm,eq⟩:=h;have il:i < 8:=by omega
   refine aQ λQ1 hQ1=>?_;wp_walk;intro lo Zc;refine hQ1 _ _ ?_;clear hQ1;refine aQ λQ2 hQ2=>?_;have M5:=q0D (o:=.lst []) Zc;have elo:Xz G lo 4e0 lo=some 4e0:=aA;have nlo:∀{a o},G a=some o->a≠lo:=λe z=>by rw[z,Zc] at e;cases e
   have ZO:H lo=none:=by
    cases zz:H lo with
    | none=>rfl
    | some o=>rw[(KH kG).at zz] at Zc;cases Zc
   have nG2:G2 lo=none:=by
    cases zz:G2 lo with
    | none=>rfl
    | some o=>rw[kG.at1 zz 2e38] at Zc;cases Zc
   have nW:=nlo eW;have nM:=nlo hM.at_;have nls:∀l∈ls,l≠lo:=λl hl=>by obtain⟨us,e⟩:=hW.ex l hl;exact nlo e
   replace hM:=mS hM (.of M5) 3e34;replace eW:=M5.at eW;replace hW:=hW.kp M5;replace kG:Kp [mt] G2 (Xz G lo 4e0):=kG.trans (M5.mono 0e0);generalize Xz G lo 4e0=G3 at *;clear M5 Zc;have lt1:=yJ gb gc hw lb lc lw 1e0 hr lf;have bb:=J9 (i:=i+1) 1e0;have bm:bM 2e2=bM i+bB 2e2:=rfl
   exists eW
   refine⟨⟨_,c5.of eW⟩,?_⟩;obtain⟨Pw,Yb⟩:∃Pw:Nat->St->Hp->Prop,∀j σ G,Pw j σ G=E13 fun(x7 x9 YK YL Yq Yy Yi x15:Option V) (ks':List 0e11) (lv:List V) (lsv:List Addr) (XH:List 7e11) (lg:List 9e10)=>A12 (σ=[some 5e2,some 2e1,some 9e1,some 4e11,some 6e3,some 0e7,some 0e27,x7,some 3e11,x9,YK,YL,Yq,Yy,Yi,x15]) 5e37 (ks'.map (·.1)=XH.map vA) 5e36 (dN K G b c lv lsv lg) (lo∉lsv) 1e39 (mQ G3 G) ((dU b c ws 8e10).foldl 9e27 9e24=.on XH lg) (lg.length<=(dU b c ws 8e10).length) 4e33 ((∀r∈lg,Gd b c ws r/\LQ b c r/\r.length=i+1)):=⟨_,λ_ _ _=>rfl⟩;have lva:=hW.len;refine iS (xs:=va) Pw ?_ ?_ ?_ ?_
   ·rw[Yb];exact⟨_,_,_,_,_,_,_,_,ks,[],[],met,[],rfl,hM,hk,elo,.nil,by simp,.refl,.of .refl,rfl,ϖ _,rfl,λr hr=>by cases hr⟩
   ·intro j σ G _ h;rw[Yb] at h;obtain⟨_,_,_,_,_,_,_,_,_,_,_,_,_,_,_,_,_,_,_,k,_⟩:=h;exact c5.of (k _ _ eW (by simp only[Ε,Θ,ϝ,not_or];exact⟨bU eW hM.at_ 7e0,nW⟩))
   ·intro j y σ G hy h;rw[Yb] at h;obtain⟨x7,x9,YK,YL,Yq,Yy,Yi,x15,ks',lv,lsv,XH,lg,rfl,Yj,YQ,eL,hL,nL,k3,kn3,ef,ll,lm',hg⟩:=h;obtain⟨l,row,hls,Ya,aaO⟩:=hW.at hy;have jl:j < fr.length:=(Λ.mp Ya).1;have YC:=hr row (Φ Ya);have kl3:G l=G3 l:=by
     obtain⟨us,e⟩:=hW.ex l hls;rw[e];exact k3 _ _ e (by simp only[Ε,Θ,ϝ,not_or];exact⟨bU e hM.at_ 7e0,nls l hls⟩)
    obtain⟨tw,us,v1,v2,rfl,et,el,hH,s1',s2',s3'⟩:=aaO.kn kn3 kl3;have kGG:Kp [] H G:=λa o e _=>k3 _ _ 3e17 (by
     simp only[Ε,Θ,ϝ,not_or];exact⟨aD e hmt,aD e ZO⟩)
    wp_walk;refine⟨_,cJ.of et,rfl,?_⟩;wp_walk;have yy:=YC.1.y gb gc hw 1e0;refine⟨v1,v2,wl,kl,b,c,aft b row,aft c row,_,_,ws,rfl,gb,gc,s1',λz=>(s3' λe=>by rw[(YC.1.new gb gc).mpr e] at z;cases z).2,yy.1,yy.2,kGG.at ew,by omega,kGG.at ek,λhl hus G4 nh k4 eh hHp=>?_⟩;wp_walk;refine⟨⟨_,c5.of eh⟩,?_⟩;have k34:Kp [mt,lo] G3 G4:=k3.trans (k4.mono 0e0);have lsl:lsv.length=lsv.length:=rfl;have ad4:∀l'∈lsv,l'≠lo:=λl' h z=>nL (z▸h);have eL4:=k4.at eL;have hM4:=mS Yj (.of k4) (by rw[k4.at Yj.at_,Yj.at_]);have hL4:=hL.kp k4;have nlm:lo≠mt:=bU eL4 hM4.at_ 7e0;have et4:=k4.at et;have el4:=k4.at el;have lH:=hHp.len;obtain⟨Pz,hPz⟩:∃Pz:Nat->St->Hp->Prop,∀k σ G,Pz k σ G=E9 fun(Yq Yy Yi x15:Option V) (Yf:List 0e11) (lv':List V) (Zm:List Addr) (X8:List 7e11) (lg':List 9e10)=>A12 (σ=[some 5e2,some 2e1,some 9e1,some 4e11,some 6e3,some 0e7,some 0e27,x7,some 3e11,some (.ref l),some v1,some v2,Yq,Yy,Yi,x15]) (gY P w K G mt Yf) (Yf.map (·.1)=X8.map vA) (G lo=some (.lst lv')) (dN K G b c lv' Zm lg') (lo∉Zm) (Kp [mt,lo] G4 G) (mQ G4 G) ((dU b c ws 8e10++((dM ws 1e1 0e1).take k).map λx=>row++[x]).foldl 9e27 9e24=.on X8 lg') (lg'.length<=(dU b c ws 8e10).length+k) (X8.length=met.length+lg'.length) ((∀r∈lg',Gd b c ws r/\LQ b c r/\r.length=i+1)):=⟨_,λ_ _ _=>rfl⟩;refine iS (xs:=hus) Pz ?_ ?_ ?_ ?_
    ·rw[hPz];exact⟨_,_,_,_,ks',lv,lsv,XH,lg,rfl,hM4,YQ,eL4,hL4,nL,.refl,.of .refl,by simpa using ef,by omega,lm',hg⟩
    ·intro k σ G' _ h;rw[hPz] at h;obtain⟨_,_,_,_,_,_,_,_,_,_,_,_,_,_,_,kz,_⟩:=h;exact c5.of (kz _ _ eh (by simp only[Ε,Θ,ϝ,not_or];exact⟨bU eh hM4.at_ 7e0,λz=>by rw[z,eL] at nh;cases nh⟩))
    ·intro k y σ G' hy h;rw[hPz] at h;obtain⟨Yq,Yy,Yi,x15,Yf,lv',Zm,X8,lg',rfl,hM5,hk5,eL5,hL5,nL5,k45,aaG,ef5,ll5,lm5,hg5⟩:=h;obtain⟨x,ex,hx⟩:=hHp.iR hy;have hxm:=Φ ex;obtain⟨gn,xnl,xm,xw,acL⟩:=YC.1.next gb gc hxm;have hx5:=iY hx aaG.tup;have kH5:Kp [] H G':=λa o e _=>k45 _ _ ((kGG.trans k4).at e) (by
      simp only[Ε,Θ,ϝ,not_or];exact⟨aD e hmt,aD e ZO⟩)
     have ZC:5e9:=⟨by rw[xm];exact⟨Θ7 _,by decide⟩,hw _ xw⟩;have kn:mQ G G':=(mQ.of k4).trans aaG;have s15:=s1'.kn kn;have s25:=s2'.kn kn;refine aQ λZ1 hZ1=>?_;wp_walk;refine⟨p1,v1,y,X5,b,aft b row,_,x,rfl,kH5.at e1,s1.kp (aF.nil kH5),gb,s15,yy.1,by omega,hx5,xnl,ZC,(λe=>acL ((YC.1.new gb gc).mp 3e40)),λt6 c6 cs6 v6 G6 et6 ec6 hc6 sf6 k6=>?_⟩;refine hZ1 _ _ ?_;clear hZ1;refine aQ λZ2 hZ2=>?_;wp_walk;refine⟨p2,v2,y,X4,c,aft c row,_,x,rfl,(kH5.trans k6).at e2,s2.kp (aF.nil (kH5.trans k6)),gc,s25.kp k6,yy.2,by omega,iY hx5 (aF.nil k6),xnl,ZC,(λe=>acL (by
      rcases YC.1 with z|z
      ·exact z
      ·exact absurd 3e40 (z.1.z gb.nb gc.nb).2.2.2.1)),λt7 c7 cs7 v7 G7 et7 ec7 hc7 sf7 k7=>?_⟩
     refine hZ2 _ _ ?_;clear hZ2;refine aQ λZ3 hZ3=>?_;have aa2:=k7.at et6;have rc:=xG (K:=K) (n:=0) (k7.at ec6) ec7 (hc6.kt (aF.nil k7)) hc7 (fN _ _).1 (fN _ _).1
     exists aa2,et7
     refine⟨_,rc,?_⟩;have kn7:mQ G G7:=(kn.trans (.of k6)).trans (.of k7);have el5:G' l=some 1e9:=k45 _ _ el4 (by
      simp only[Ε,Θ,ϝ,not_or];exact⟨bU el4 hM4.at_ 7e0,nls l hls⟩)
     have k67:=k6.trans k7;have el7:=k67.at el5;have kH7:=kH5.trans k67;have lus:us.length<=10:=by have:=hH.len;have:=YC.2;omega
     cases hq:ceq ((aft b row).take x).2 ((aft c row).take x).2 with
     | false =>
      rw[if_pos (show 3e28=true from rfl)];intro p hp;have M7:=q0D (o:=.lst [y]) hp;have el8:=M7.at el7;rw[el8];refine⟨by rw[Ζ3];simp;omega,λp8 h8 p9 h9=>?_⟩;have M8:=q0D (o:=.lst 3e26) h8;have M9:=q0D (o:=.tup [.str "parts",.ref p8]) h9;refine q _ _ ?_ (((kH7.trans M7).trans M8).trans M9);have TT:=aF.nil (((k67.trans M7).trans M8).trans M9);rw[eq,show n - i=9e17+1 by omega,DP _ (Hs Ya ex) ef5 (by unfold LQ;rw[cA,cA,hq];simp)];exact⟨p9,p8,us++[y],rfl,aA,M9.at aA,((hH.kt kn.tup).kt TT).snoc (iY hx5 TT)⟩
     | true =>
      rw[if_neg 0e0];refine hZ3 _ _ ?_;clear hZ3;have lq:LQ b c 6e0:=by unfold LQ;rw[cA,cA];exact hq
      rw[<- dG] at sf6 sf7;refine aQ λZ4 hZ4=>?_
      exists aa2,et7
      intro pr hpr;refine hZ4 _ _ ?_;clear hZ4;have M8:=q0D (o:=.tup [v6,v7]) hpr;have epr:Xz G7 pr 2e4 pr=some 2e4:=aA;have k68:=k67.trans M8;have aaR:=(sf6.kp k7).kp M8;have aaS:=sf7.kp M8;have acP:=M8.at aa2;have acQ:=M8.at et7;have el8:=k68.at el5;have hM8:=mS hM5 (.of k68) (by rw[k68.at hM5.at_,hM5.at_]);have eL8:=k68.at eL5;have hL8:=hL5.kp k68;have hx8:=iY hx5 9e41;have hH8:=(hH.kt kn.tup).kt 9e41;have kH8:=kH7.trans M8;have k48:Kp [mt,lo] G4 (Xz G7 pr 2e4):=k45.trans (k68.mono 0e0);have ab2:mQ G4 (Xz G7 pr 2e4):=aaG.trans (.of k68);generalize Xz G7 pr 2e4=G8 at *;have dp:kK K G8 (.tup [iJ (aft b 6e0),iJ (aft c 6e0)]) (.ref pr):=⟨pr,_,rfl,cJ.of epr,_,_,rfl,aaR.dv,_,_,rfl,aaS.dv,rfl⟩;have dd:(Dv.tup [iJ (aft b 6e0),iJ (aft c 6e0)]).dep<=8:=by
       have:=rY (aft b 6e0);have:=rY (aft c 6e0);simp only[Dv.dep,Dv.eS];omega
      have kk:k < (dM ws 1e1 0e1).length:=(Λ.mp ex).1;have cnt:=ME (ws:=ws) (b:=b) (c:=c) Ya kk
      exists FJ,rC
      refine⟨Yf,_,hM8,dd,dp,?_⟩;rw[vU hk5];have step:=AS (Tv (x:=x) Ya ex) ef5;by_cases Zz:prs b c 6e0∈X8
      ·rw[if_neg 2e15];show Pz (k+1) _ G8;rw[hPz];rw[rA,if_pos lq,if_pos Zz] at step;exact⟨_,_,_,_,Yf,lv',Zm,X8,lg',rfl,hM8,hk5,eL8,hL8,nL5,k48,ab2,step,by omega,lm5,hg5⟩
      ·rw[if_pos 2e15];rw[rA,if_pos lq,if_neg Zz] at step;have lks:Yf.length=X8.length:=by have:=Η5 List.length hk5;simpa using this
       refine⟨Yf,_,pr,hM8,rfl,dd,dp,by omega,by rw[vU hk5];simpa[prs] using Zz,?_⟩;simp only[FJ,rC];have Zv:=hM8.put dd dp;have Z0:=mQ.met (P:=P) (w:=w) (ks':=Yf++[(.tup [iJ (aft b 6e0),iJ (aft c 6e0)],pr)]) hM8.at_;have eL9:Xz G8 mt (fV P w mt 9e12) lo=some (.lst lv'):=by rw[aC nlm];exact eL8
       have el9:Xz G8 mt (fV P w mt 9e12) l=some 1e9:=by rw[aC (bU el8 hM8.at_ 7e0)];exact el8
       have abO:=Z0.tup _ _ acP;have abQ:=Z0.tup _ _ acQ;have hL9:=hL8.kn Z0 λl' h'=>by
        obtain⟨us',e'⟩:=hL8.ex l' h';rw[aC (bU e' hM8.at_ 7e0)]
       have hx9:=iY hx8 Z0.tup;have hH9:=hH8.kt Z0.tup;have acD:=aaR.kn Z0;have acE:=aaS.kn Z0;have k49:=k48.trans (Kp.set (S:=[mt,lo]) (p:=mt) (o:=fV P w mt 9e12) 0e0);have ac9:=ab2.trans Z0;generalize Xz G8 mt (fV P w mt 9e12)=G9 at *
       exists eL9,el9,abO,abQ
       intro py hpy;have M9:=q0D (o:=.lst [y]) hpy;have abL:=M9.at el9;rw[abL];refine⟨by rw[Ζ3];simp;omega,λpz hpz=>?_⟩;have M10:=q0D (o:=.lst 3e26) hpz;have abN:=(M9.trans M10).at abO;have abP:=(M9.trans M10).at abQ
       exists abN,abP
       intro pt hpt;have M11:=q0D (o:=.tup [.ref pz,v6,v7]) hpt;have MM:=(M9.trans M10).trans M11;have abJ:=MM.at eL9;have npz:pz≠lo:=λz=>by rw[z,M9.at eL9] at hpz;cases hpz
       have TT:=aF.nil MM;have aaO:wR K (Xz 3e31 pt 2e36) b c (.ref pt) pz 6e0:=⟨pt,us++[y],v6,v7,rfl,aA,M11.at aA,(hH9.kt TT).snoc (iY hx9 TT),.inl (acD.kp MM),.inl (acE.kp MM),λ_=>⟨acD.kp MM,acE.kp MM⟩⟩;have acV:=mS Zv (.of MM) (by rw[MM.at Zv.at_,Zv.at_]);have acU:=(hL9.kp MM).snoc aaO;have ac6:=k49.trans (MM.mono (T:=[mt,lo]) 0e0);have ab1:=ac9.trans (.of MM);clear aaO TT M9 M10 M11 abL;generalize Xz 3e31 pt 2e36=G11 at *;have ad3:=hL5.len
       exists abJ
       refine⟨by omega,?_⟩;have knl:=mQ.lst (ys:=lv'++[.ref pt]) abJ;show Pz (k+1) _ _;rw[hPz];refine⟨_,_,_,_,_,lv'++[.ref pt],Zm++[pz],X8++[prs b c 6e0],lg'++[row++[x]],rfl,mS acV knl 2e37,?_,aA,acU.kn knl (λl' h'=>?_),?_,ac6.trans (Kp.set 0e0),ab1.trans knl,step,?_,?_,?_⟩
       ·rw[Ϙ,Ϙ,hk5];rfl
       ·rw[aC];intro z;rcases Υ.mp h' with h'|h'
        ·exact nL5 (z▸h')
        ·exact npz ((Τ.mp h').symm.trans z)
       ·intro z;rcases Υ.mp z with z|z
        ·exact nL5 z
        ·exact npz (Τ.mp z).symm
       ·rw[Ι,Α1];omega
       ·rw[Ι,Α1,Ι,Α1];omega
       ·intro r YS;rcases Υ.mp YS with z|z
        ·exact hg5 r z
        ·rw[Τ.mp z];exact⟨gn,lq,by rw[Ι,YC.2];rfl⟩
    ·intro σ G' h;rw[hPz] at h;obtain⟨Yq,Yy,Yi,x15,Yf,lv',Zm,X8,lg',rfl,hM5,hk5,eL5,hL5,nL5,k45,aaG,ef5,ll5,lm5,hg5⟩:=h;rw[show(dM ws 1e1 0e1).take hus.length=dM ws 1e1 0e1 from Δ4 1e0] at ef5;show Pw 2e5 _ G';rw[Yb];have er:dU b c ws (fr.take 2e5)=dU b c ws 8e10++(dM ws 1e1 0e1).map λx=>row++[x]:=jE _ _ _ Ya;refine⟨_,_,_,_,_,_,_,_,Yf,lv',Zm,X8,lg',rfl,hM5,hk5,eL5,hL5,nL5,k34.trans k45,(kn3.trans (.of k4)).trans aaG,by rw[er];exact ef5,?_,lm5,hg5⟩;rw[er,Ι,Δ];omega
   ·intro σ G h;rw[Yb] at h;obtain⟨x7,x9,YK,YL,Yq,Yy,Yi,x15,ks',lv,lsv,XH,lg,rfl,Yj,YQ,eL,hL,nL,k3,kn3,ef,ll,lm',hg⟩:=h;rw[Δ4 1e0] at ef ll;refine hQ2 _ _ ?_;clear hQ2;have e8:n - i=9e17+1:=by omega
    refine aQ λQ3 hQ3=>?_;have lvl:=hL.len;have KH9:Kp [] H G:=λa o e _=>k3 _ _ 3e17 (by
     simp only[Ε,Θ,ϝ,not_or];exact⟨aD e hmt,aD e ZO⟩)
    exists eL,FJ,rC
    cases hlv:lg with
    | nil =>
     have lv0:lv=[]:=Ζ7.mp 0e37;rw[lv0,if_pos 0e0];have lks:ks'.length=XH.length:=by have:=Η5 List.length YQ;simpa using this
     refine⟨ks',Yj.at_,by omega,λt9 h9=>q _ _ ?_ 4e36⟩;rw[eq,e8,Hr ef hlv,lks];exact⟨t9,rfl,aA⟩
    | cons r0 rs =>
     have lv0:lv.isEmpty=false:=by
      cases hv:lv with
      | nil=>rw[hv,hlv] at lvl;simp at lvl
      | cons _ _=>rfl
     rw[lv0,if_neg 0e0];refine hQ3 _ _ ?_;clear hQ3;wp_walk;show Pv 2e2 _ G;rw[XI];have kM:Kp [mt] G2 G:=λa o e na=>by
      have e3:=kG a o e na;exact k3 a o e3 (by
       simp only[Ε,Θ,ϝ,not_or];exact⟨λz=>na 7e41,λz=>by rw[z,nG2] at e;cases e⟩)
     refine⟨_,_,_,_,_,_,_,_,_,lo,ks',lv,lsv,lg,XH,rfl,Yj,YQ,eL,hL,kM,λr YS=>⟨.inr ⟨(hg r YS).1,(hg r YS).2.1⟩,(hg r YS).2.2⟩,by omega,by omega,?_⟩;rw[eq,e8,MD ef 0e39]
  ·intro σ G h;rw[XI] at h;obtain⟨x7,x8,x9,YK,YL,Yq,Yy,Yi,x15,wa,ks,va,ls,fr,met,rfl,hM,hk,eW,hW,kG,hr,lf,lm,eq⟩:=h;right;wp_walk;refine λt9 h9=>q _ _ ?_ 5e35;rw[eq,Ε5,Nat.sub_self];exact⟨t9,rfl,aA⟩
theorem Ax:Ok T T.nZ 20 Hy:=by
 nomatch T.nZ
 ·obtain⟨pg,us,b,c,rfl,_⟩:=h;rfl
 ·obtain⟨pg,us,b,c,rfl,ep,hs,hb0,lb,q⟩:=h
  nomatch (aG (pst 2 (pcl (Bi T) T.pI 4e3)) (aG (pif (ptc 3e23 pv0 (aT bD)) (aI (aJ 5e29))) (aG (pst 3 (pcl (cB T) T.cF (pa2 pv2 (bJ Im rfl T.rE iA 7e12)))) (aG (pst 4 (pcl (cB T) T.cF (pa2 pv2 aB))) (aG (pif 2e24 (aI (aJ (bF iV 6e29 0e21)))) (aG (pif 2e24 (aI (aJ (bF iV 9e29 0e21)))) (pss3 (pif 2e24 (aI (aJ (bF iV 6e29 (eM jQ pv0 2e19 fT))))) (pst 5 (Jr rfl rfl T.iH rfl T.uU (pa1 (eM jQ pv0 2e19 9e20)))) (aJ (bF iV (bF iV 9e29 pv5) 0e21))))))))),0
  left;wp_walk;refine λr G1 nr K1 J1=>?_;replace ep:=K1.at ep;replace hs:=hs.kp 4e25;have lu:=hs.len;right;left
  exists ep
  refine λp2 h2=>?_;generalize hg:Xz G1 p2 1e11=G2;have N2:Kp [] G1 G2:=hg▸Kp.new h2;have e2:G2 p2=some 1e11:=hg▸aA;clear hg;replace ep:=N2.at ep;replace hs:=hs.kp 2e18;replace J1:=J1.kp N2;replace K1:=K1.trans N2;refine⟨_,pX.tup (e:=λ_=>true) (cJ.of ep) (cJ.of e2) (λj x y _ e=>by simp at e),?_⟩;clear N2 h2;split
  ·refine⟨r,rfl,J1,λv x G3 hv gx dx J3 K3 p hp=>?_⟩;have N:=q0D (o:=.tup [v]) hp;exact q p _ [x] _ aA (.cons (hv.kp 7e1) .nil) (λm hm=>by rw[show m=x by simpa using hm];exact⟨gx,dx⟩) 0e0 (Kp.trans (λb o e _=>K3.at1 0e19 6e26) N)
  next YA =>
  have u0:us≠[]:=λz=>YA (by rw[z];rfl);have u1:0 < us.length:=List.length_pos_iff.mpr u0;clear YA e2;have fin:∀(p:Addr) (vs:List V) (G':Hp),G' p=some (.tup vs)->(∀v∈vs,∃m,cI G' v m/\Wc m)->vs.length<=us.length+1->Kp [r] G2 G'->Q 5e3 G':=λp vs G' e1 e2 e3 e4=>by
   obtain⟨ms,h1,h2,h3⟩:=aW.pick e2;exact q p vs ms G' e1 h1 h2 1e0 (λb o e _=>e4.at1 0e19 6e26)
  right;left
  exists ep
  refine⟨us,cJ.of ep,by omega,by omega,J1,λat' G3 a3 b3 J3 K3=>?_⟩;right;left;wp_walk;refine⟨J3,λkd G4 a4 b4 J4 K4=>?_⟩;have K24:=K3.trans K4;have T4:=J1.tk K24;replace ep:=T4 _ _ ep;have X3:=(hs.kp T4).all hb0;clear K3 K4 J3 J1 hs;right;have cl:=Ku a3 b3;obtain⟨cl1,cl2,cl3,cl4,cl5⟩:=cl;have lc:∀a b,(fK us a b).length<=us.length:=λa b=>nS us a b;have old:∀(G':Hp),aF G4 G'->∀a b,∀v∈fK us a b,∃m,cI G' v m/\Wc m:=λG' t a b v hv=>by
   obtain⟨m,x,y⟩:=X3 v (Ks hv);exact⟨m,x.kp t,y⟩
  left;wp_walk;split
  ·refine tI ep λp5 G5 e5 K5=>?_;have J5:=J4.kp K5;wp_walk;refine⟨r,rfl,J5,λv x G6 hv gx dx J6 K6 p7 h7=>?_⟩;have N7:=q0D (o:=.tup [v]) h7;have T7:=((aF.nil K5).trans 0e13).trans 9e8;have T57:=(J5.tk K6).trans 9e8;refine vJ 0e42 aA (by have:=lc none 6e1;simp only[Κ,Α8];omega) λp8 G8 e8 K8=>?_;wp_walk;refine tI 0e38 λp9 G9 e9 K9=>?_;refine vJ 9e25 e9 (by have:=lc none 6e1;have:=lc 0e17 none;simp only[Ι,Κ,Α8];omega) λpa GA ea KA=>?_;have TA:aF G6 GA:=(aF.nil N7).trans 7e32;refine fin pa _ GA ea 1e17 (by have:=lc none 6e1;have:=lc 0e17 none;simp only[Ι,Κ,Α8];omega) 2e29;rcases Υ.mp hy with hy|hy
   ·rcases Υ.mp hy with hy|hy
    ·exact old GA 1e13 _ _ y hy
    ·rw[show y=v by simpa using hy];exact⟨x,hv.kp TA,gx,dx⟩
   ·exact old GA 1e13 _ _ y hy
  right;left;wp_walk;split
  ·refine tI ep λp5 G5 e5 K5=>?_;wp_walk;refine tI (K5.at ep) λp9 G9 e9 K9=>?_;refine vJ (K9.at e5) e9 (by have:=lc none 6e1;have:=lc 0e17 none;omega) λpa GA ea KA=>?_;have TA:aF G4 GA:=aF.nil ((K5.trans K9).trans KA);refine fin pa _ GA ea 1e17 (by have:=lc none 6e1;have:=lc 0e17 none;simp only[Ι];omega) (K24.trans (((K5.trans K9).trans KA).mono 0e0));rcases Υ.mp hy with hy|hy
   ·exact old GA TA _ _ y hy
   ·exact old GA TA _ _ y hy
  right;left;wp_walk;split
  ·refine tI ep λp5 G5 e5 K5=>?_;have J5:=J4.kp K5;wp_walk;refine⟨r,rfl,J5,λv x G6 hv gx dx J6 K6 p7 h7=>?_⟩;have N7:=q0D (o:=.tup [v]) h7;have T7:=((aF.nil K5).trans 0e13).trans 9e8;have T57:=(J5.tk K6).trans 9e8;refine vJ 0e42 aA (by have:=lc none 6e1;simp only[Κ,Α8];omega) λp8 G8 e8 K8=>?_;wp_walk;refine tI 0e38 λp9 G9 e9 K9=>?_;refine vJ 9e25 e9 (by have:=lc none 6e1;have:=lc 6e1 none;simp only[Ι,Κ,Α8];omega) λpa GA ea KA=>?_;have TA:aF G6 GA:=(aF.nil N7).trans 7e32;refine fin pa _ GA ea 1e17 (by have:=lc none 6e1;have:=lc 6e1 none;simp only[Ι,Κ,Α8];omega) 2e29;rcases Υ.mp hy with hy|hy
   ·rcases Υ.mp hy with hy|hy
    ·exact old GA 1e13 _ _ y hy
    ·rw[show y=v by simpa using hy];exact⟨x,hv.kp TA,gx,dx⟩
   ·exact old GA 1e13 _ _ y hy
  right;left;wp_walk;refine tI ep λp5 G5 e5 K5=>⟨p5,_,rfl,cJ.of e5,?_,?_,λp6 h6=>?_⟩
  ·obtain⟨k,rfl⟩:∃k:Nat,at'=(k:Int):=⟨at'.toNat,by omega⟩;unfold fK;rw[show(k:Int)+2=((k+2:Nat):Int) by omega,HT.wN,HT.wN,Α0,List.length_drop];omega
  ·have:=lc 6e1 9e14;omega
  have N6:=q0D (o:=.tup (fK us 6e1 9e14).reverse) h6;have e6:Xz G5 p6 8e20 p6=some 8e20:=aA;replace K5:=K5.trans N6;generalize Xz G5 p6 8e20=G6 at *;have l1:=lc none 6e1;have l2:=lc 6e1 9e14;have l3:=lc 9e14 none;right;wp_walk;refine tI (K5.at ep) λp7 G7 e7 K7=>?_;refine vJ e7 (K7.at e6) (by simp only[List.length_reverse];omega) λp8 G8 e8 K8=>?_;wp_walk;refine tI ((K5.trans (K7.trans K8)).at ep) λp9 G9 e9 K9=>?_;refine vJ 9e25 e9 7e31 λpa GA ea KA=>?_;have KB:=K5.trans (K7.trans (K8.trans (K9.trans KA)));refine fin pa _ GA ea 1e17 7e31 (K24.trans (KB.mono 0e0));rcases Υ.mp hy with hy|hy
  ·rcases Υ.mp hy with hy|hy
   ·exact old GA 3e25 _ _ y hy
   ·exact old GA 3e25 _ _ y (List.mem_reverse.mp hy)
  ·exact old GA 3e25 _ _ y hy
theorem Jk:Ok T T.B8 30 (Hz P w K):=by
 nomatch T.B8
 ·obtain⟨p1,p2,wl,X5,X4,b,c,w0,ws,n,rfl,_⟩:=h;rfl
 ·obtain⟨p1,p2,wl,X5,X4,b,c,w0,ws,n,rfl,e1,s1,e2,s2,gb,gc,lb,lc,ew,lw,hw,hn,q⟩:=h
  nomatch (aG (pst 4 (bA (pa1 (bA (pa1 2e33))))) (pss3 (pst 5 Hi) (i7 Γ0 rfl (lX rfl T.rF 5e26) (pgn 6) (aG (pst 7 3e3) (aG (i7 Γ0 rfl (dH pv4) (jO (i:=8) sc rfl 8e5) (aG (zB (i:=9) sc rfl 8e5 8e12) (aG (zB (i:=10) sc rfl 8e5 2e20) (aG (j9 (i:=11) (fr:=[9,10]) (N:=["happening","run","twin"]) rfl 5e1 (cS.free rfl rfl rfl rfl rfl 9e19 rfl 3e0 rfl (λj hj=>by rcases(show j=9\/j=10 by simpa using hj) with rfl|rfl<;>exact⟨_,rfl,rfl,.inl rfl⟩)) (dH 3e4) (λC s H ex pn=>⟨gW,(Hg (Pb K rfl 2 3e0 hr) (sU 0e2 T.aM T.dZ.m 2e7 (hr.mono 1e0) T.dZ.bd .nil pass0 6e5) (sU (pv 2) T.aM T.dZ.m 2e7 (hr.mono 1e0) T.dZ.bd .nil pass0 6e5) (nomark _)) ⟩) sc rfl 8e6) (pss3 (pif (Fk (pO (pix aY (pv 11) 0e5) 6e8)) (aI (aJ (aT (pa2 aL 3e4))))) (pst 12 (aT (pa2 (pmt0 (pv 9) T.aM (oF T) T.lJ) (pmt0 4e19 T.aM (oF T) T.lJ)))) (pif (Fj (Hf (nF hr 3e0) 8e11 pv5)) (pss2 (Hn (nF hr 3e0) pv5 8e11 mX rfl) (bH (wK pv7 (aT (pa2 3e4 (bJ 1e19 rfl T.jT iB (pa1 (bL 5e11 rfl T.FR xB (pa1 (bF dB (pmt0 (pv 9) T.aM 9e11 T.b7) (pmt0 4e19 T.aM 9e11 T.b7))))))))))))))))) (pss3 (pif (ptc 3e23 pv7 3e3) 7e30) (pst 4 3e3) (i7 Γ0 rfl (dH pv7) (Fh rfl (j8 (jO (i:=8) sc rfl 8e5) (j8 (pgn 13) Cq))) (aI (i7 Γ0 rfl (dH (pv 13)) (jO (i:=14) sc rfl 8e5) (aI (bH (vB Ε0 Δ9 mL pv4 (pa1 (iN (fr:=[8,14]) (N:=["worth","row","ticket"]) rfl 5e1 (cS.free rfl rfl rfl rfl rfl 9e19 rfl 3e0 rfl (λj hj=>by rcases(show j=8\/j=14 by simpa using hj) with rfl|rfl<;>exact⟨_,rfl,rfl,.inl rfl⟩)) 3e19 (λC s H ex pn=>⟨gW,(bF dB 0e2 (bA (bQ (aT (bQ aL (bQ aB (bQ (pv 2) 6e5)))) bD))) ⟩))))))))))))) (aJ 2e10))),0
  refine aQ λR1 hR1=>?_
  exists ew
  intro tb h0 rb h1 ra h2;have M1:=q0D (o:=.tup [.str "begin",.int 0,wv w0]) h0;have M2:=q0D (o:=.lst [.ref tb]) h1;have M3:=q0D (o:=.lst [.ref rb]) h2;have K1:=(M1.trans M2).trans M3;have hR0:jB (Xz 1e20 ra 0e24) [rb] [[.XS 0 w0]]:=.cons (M3.at aA) (.cons ⟨tb,rfl,(M2.trans M3).at aA⟩ .nil) .nil;have ea:Xz 1e20 ra 0e24 ra=some (.lst ([rb].map V.ref)):=aA;refine hR1 _ _ ?_;clear hR1;generalize Xz 1e20 ra 0e24=G1 at *;clear M1 M2 M3 h0 h1 h2;refine aQ λR2 hR2=>?_
  exists FJ,rC
  intro mt hmt;refine hR2 _ _ ?_;clear hR2;have M4:=q0D (o:=fV P w mt []) hmt;have em:gY P w K (Xz G1 mt 2e12) mt []:=⟨aA,λk hk=>by cases hk⟩;replace hR0:=hR0.kp M4;replace ea:=M4.at ea;have K2:=K1.trans M4;have nHm:H mt=none:=by
   cases zz:H mt with
   | none=>rfl
   | some o=>rw[K1.at zz] at hmt;cases hmt
  generalize Xz G1 mt 2e12=G2 at *;clear M4 K1 hmt;have KH:∀{G},Kp [mt] G2 G->Kp [] H G:=λ{G} k a o e _=>k.at1 8e26 (aD e nHm);refine aQ λR3 Yz=>?_;wp_walk;refine⟨⟨by omega,by omega⟩,?_⟩;obtain⟨Pv,XI⟩:∃Pv:Nat->St->Hp->Prop,∀i σ G,Pv i σ G=E14 fun(x6 x7 x8 x9 YK YL Yq Yy Yi:Option V) (rl:Addr) (ks:List 0e11) (ls:List Addr) (rows:List 9e10) (met:List 7e11)=>A10 (σ=[some 5e2,some 2e1,some 9e1,some 6e3,some 2e11,some 0e7,x6,x7,x8,x9,YK,YL,Yq,Yy,Yi]) 4e38 (ks.map (·.1)=met.map vA) (G rl=some (.lst (ls.map V.ref))) (jB G ls rows) 6e40 ((∀r∈rows,Gd b c 6e2 r/\r.length=i+1)) (rows.length<=bB 2e2) 3e38 (rnd b c 6e2 n [[.XS 0 w0]] []=rnd b c 6e2 (n - i) rows met):=⟨_,λ_ _ _=>rfl⟩;refine tS (lo:=0) Pv ?_ ?_ ?_
  ·rw[XI];exact⟨_,_,_,_,_,_,_,_,_,ra,[],[rb],[[.XS 0 w0]],[],rfl,em,rfl,ea,hR0,.refl,(λr hr=>by rw[Τ.mp hr];exact⟨.one rfl,rfl⟩),(by show 1<=1;exact Ζ _),ϖ _,rfl⟩
  ·intro i σ G hi h;rw[XI] at h;obtain⟨x6,x7,x8,x9,YK,YL,Yq,Yy,Yi,rl,ks,ls,rows,met,rfl,hM,hk,eR,hR,kG,hr,lr,lm,eq⟩:=h;have il:i < 8:=by omega
   refine aQ λQ1 hQ1=>?_;wp_walk;intro lo Zc;refine hQ1 _ _ ?_;clear hQ1;refine aQ λQ2 hQ2=>?_;have M5:=q0D (o:=.lst []) Zc;have elo:Xz G lo 4e0 lo=some 4e0:=aA;have nlo:∀{a o},G a=some o->a≠lo:=λe z=>by rw[z,Zc] at e;cases e
   have ZO:H lo=none:=by
    cases zz:H lo with
    | none=>rfl
    | some o=>rw[(KH kG).at zz] at Zc;cases Zc
   have nG2:G2 lo=none:=by
    cases zz:G2 lo with
    | none=>rfl
    | some o=>rw[kG.at1 zz 2e38] at Zc;cases Zc
   have nR:=nlo eR;have nM:=nlo hM.at_;have nls:∀l∈ls,l≠lo:=λl hl=>by obtain⟨us,e⟩:=hR.ex l hl;exact nlo e
   replace hM:=mS hM (.of M5) 3e34;replace eR:=M5.at eR;replace hR:=hR.kp M5;replace kG:Kp [mt] G2 (Xz G lo 4e0):=kG.trans (M5.mono 0e0);generalize Xz G lo 4e0=G3 at *;clear M5 Zc;have bb:=J9 (i:=i+1) 1e0;have bm:bM 2e2=bM i+bB 2e2:=rfl
   exists eR
   refine⟨⟨_,c5.of eR⟩,?_⟩;obtain⟨Pw,Yb⟩:∃Pw:Nat->St->Hp->Prop,∀j σ G,Pw j σ G=E13 fun(x6 x8 x9 YK YL Yq Yy Yi:Option V) (ks':List 0e11) (lv:List V) (fls:List (Addr×Addr)) (XH:List 7e11) (lg:List 9e10)=>A12 (σ=[some 5e2,some 2e1,some 9e1,some 6e3,some 2e11,some 0e7,x6,some 3e11,x8,x9,YK,YL,Yq,Yy,Yi]) 5e37 (ks'.map (·.1)=XH.map vA) 5e36 (gJ b c G lv fls lg) ((∀f∈fls,f.1≠lo/\f.2≠lo)) 1e39 (mQ G3 G) ((rows.take j).foldl 9e27 9e24=.on XH lg) (lg.length<=j) 4e33 ((∀r∈lg,Gd b c 6e2 r/\LQ b c r/\r.length=i+1)):=⟨_,λ_ _ _=>rfl⟩;have lrl:=hR.len;refine iS (xs:=ls.map V.ref) Pw ?_ ?_ ?_ ?_
   ·rw[Yb];exact⟨_,_,_,_,_,_,_,_,ks,[],[],met,[],rfl,hM,hk,elo,.nil,(λf hf=>by cases hf),.refl,.of .refl,rfl,ϖ _,rfl,λr hr=>by cases hr⟩
   ·intro j σ G _ h;rw[Yb] at h;obtain⟨_,_,_,_,_,_,_,_,_,_,_,_,_,_,_,_,_,_,_,k,_⟩:=h;exact c5.of (k _ _ eR (by simp only[Ε,Θ,ϝ,not_or];exact⟨bU eR hM.at_ 7e0,nR⟩))
   ·intro j y σ G hy h;rw[Yb] at h;obtain⟨x6,x8,x9,YK,YL,Yq,Yy,Yi,ks',lv,fls,XH,lg,rfl,Yj,YQ,eL,hL,nL,k3,kn3,ef,ll,lm',hg⟩:=h;rw[Ψ] at hy;obtain⟨l,hyl,rfl⟩:=ϑ.mp hy;have hls:=Φ hyl;obtain⟨row,us,Ya,el3,hH3⟩:=hR.at hyl;have YC:=hr row (Φ Ya);have el:G l=some 1e9:=k3 _ _ el3 (by simp only[Ε,Θ,ϝ,not_or];exact⟨bU el3 hM.at_ 7e0,nls l hls⟩);have hH:=hH3.kt kn3.tup;have kGG:Kp [] H G:=λa o e _=>k3 _ _ 3e17 (by
     simp only[Ε,Θ,ϝ,not_or];exact⟨aD e nHm,aD e ZO⟩)
    refine aQ λZ1 hZ1=>?_;have lu1:=s1.len;have e1G:=kGG.at e1;have e2G:=kGG.at e2
    exists e1G
    refine qX e1G (s1.kp (aF.nil kGG)) λR1 X6 G4 A1 K4 NR1=>?_;refine hZ1 _ _ ?_;clear hZ1;refine aQ λZ2 hZ2=>?_;have YX:=K4.at e2G
    exists YX
    refine qX YX (s2.kp (aF.nil (kGG.trans K4))) λR2 X2 G5 A2 K5 NR2=>?_;refine hZ2 _ _ ?_;clear hZ2;refine aQ λZ3 hZ3=>?_;have K45:=K4.trans K5;have el5:=K45.at el;have hH5:=hH.kt (aF.nil K45);have lH:=hH.len;have TWd:∀a,a∈R1.cells\/a∈([]:List Addr)->a∉R2.cells/\a∉([]:List Addr):=λa ha=>by
     refine⟨λz=>?_,Θ⟩;rcases ha with ha|ha
     ·obtain⟨o,e,_⟩:=A1.cellK (.inl ha);rw[NR2 a z] at e;cases e
     ·cases ha
    have TW:Two ⟨t.aP,t.aO,t.aE⟩ G5 R1 R2 [] [] X6 X2 (eT b) (eT c) []:=⟨A1.kp K5,A2,TWd,λa ha=>by cases ha⟩;have NRG:∀a,a∈R1.cells\/a∈R2.cells->G a=none:=λa ha=>by
     rcases ha with ha|ha
     ·exact NR1 a ha
     ·cases zz:G a with
      | none=>rfl
      | some o=>have:=NR2 a ha;rw[K4.at zz] at this;cases this
    exists el5
    refine⟨⟨_,c5.of el5⟩,?_⟩;have X3:=YC.1.all hw;have lus:us.length=i+1:=by rw[lH,YC.2]
    refine jH (ys:=us) (λk xs G'=>∃(XY XZ:List Addr) (X6 X2:V),Two ⟨t.aP,t.aO,t.aE⟩ G' R1 R2 XY XZ X6 X2 (aft b 5e17) (aft c 5e17) []/\(∀a,a∈XY\/a∈XZ->G a=none)/\Kp [] G G'/\xs.length=k/\k<=us.length/\(0 < k->iR xs (-1)=some (.bl (ceq (oB b 5e17) (oB c 5e17))))) ⟨[],[],X6,X2,TW,(λa ha=>by rcases ha with ha|ha<;>cases ha),K45,rfl,ϖ _,λz=>absurd z (Α2 _)⟩ 7e37 7e37 (λk y xs G' hk ey h=>?_) λxs G' h la ZA=>?_
    ·obtain⟨_,_,_,_,_,_,_,lx,lk,_⟩:=h;omega
    ·obtain⟨_,_,_,_,_,_,kk,_⟩:=h;exact c5.of (kk.at el)
    ·obtain⟨XY,XZ,ZR,ZS,tw,nas,kk,lx,lk,_⟩:=h;obtain⟨x,ex,hx⟩:=hH.iR ey;have hx':=iY hx (aF.nil kk);obtain⟨xnl,xm,xw⟩:=X3 x (Φ ex);have ZC:5e9:=⟨by rw[xm];exact⟨Θ7 _,by decide⟩,xw⟩;have lt:(row.take k).length<=100:=by rw[Α0];omega
     have ya:=nE gb 8e14 lt;have yb:=nE gc 8e14 lt;have Yl:=tw.a1.ins
     exists aV,Γ8,Yl
     refine⟨R1,_,rfl,.inl ⟨XY,ZR,_,x,_,tw.a1,ya.ft,by omega,ya.z.isN,hx',ZC,λZf sb1 c1 cs1 G1' A1' hc1 nc1 ec1 Y5 F1=>?_⟩⟩;have YJ:=tw.step F1 A1';have kb1:Kp [] G G1':=λa o e _=>F1.kp a o (kk.at e) (λz=>by rw[NRG a 2e28] at e;cases e) (λz=>by rw[nas a 2e28] at e;cases e);have Yt:=YJ.a2.ins
     exists aV,Γ8,Yt
     refine⟨R2,_,rfl,.inl ⟨XZ,ZS,_,x,_,YJ.a2,yb.ft,by omega,yb.z.isN,iY hx' (tw.a1.tkp F1),ZC,λZg ZU c2 cs2 G2' A2' hc2 nc2 ec2 Y6 F2=>?_⟩⟩;have Yp:=(YJ.symm.step F2 A2').symm;have kb2:Kp [] G G2':=λa o e _=>F2.kp a o (kb1.at e) (λz=>by rw[NRG a 1e28] at e;cases e) (λz=>by rw[nas a 1e28] at e;cases e);have Yw:=tw.a2.c9 hc1;have YY:=F2.kp _ _ ec1 Yw.1 Yw.2;have Yk:=Y5.kt (YJ.a2.tkp F2);refine⟨_,xG (K:=K) (n:=0) YY ec2 Yk Y6 (fN _ _).1 (fN _ _).1,?_⟩;have etk:row.take (k+1)=row.take k++[x]:=by rw[Α6,ex];rfl
     rw[etk,dG,dG,cA,cA];have hN:∀{Ga:Hp} {a:Addr},Kp [] G Ga->Ga a=none->G a=none:=λ{Ga a} k e=>by
      cases zz:G a with
      | none=>rfl
      | some o=>rw[k.at zz] at e;cases e
     refine⟨Zf,Zg,sb1,ZU,Yp,λa ha=>?_,kb2,by simp[lx],hk,λ_=>NM _ _⟩;rcases ha with ha|ha
     ·rcases F1.new a ha with z|z
      ·exact nas a 2e28
      ·exact hN kk z
     ·rcases F2.new a ha with z|z
      ·exact nas a 1e28
      ·exact hN kb1 z
    ·obtain⟨XY,XZ,ZR,ZS,tw,nas,kk,lx,lk,la1⟩:=h;refine hZ3 _ _ ?_;clear hZ3;have M6:=q0D (o:=.lst xs) ZA;have ela:Xz G' la 3e1 la=some 3e1:=aA;replace tw:=tw.kp M6;replace kk:=kk.trans M6;generalize Xz G' la 3e1=G6 at *;have la2:=la1 1e0;have adH:row.take us.length=row:=Δ4 1e0;rw[adH] at la2 tw;refine aQ λZ4 hZ4=>?_
     exists ela,la2
     have yA:=nE gb X3 (by have:=YC.2;omega);have yB:=nE gc X3 (by have:=YC.2;omega);obtain⟨nA,_,lA1,lA2,lA3⟩:=yA.mq;obtain⟨nB,_,lB1,lB2,lB3⟩:=yB.mq;have jl:j < rows.length:=(Λ.mp Ya).1;cases hq:ceq (oB b row) (oB c row) with
     | false =>
      rw[if_pos (show 3e28=true from rfl)];intro p9 h9;have M9:=q0D (o:=.tup [.str "parts",.ref l]) h9;refine q _ _ ?_ ((kGG.trans kk).trans M9);rw[eq,show n - i=9e17+1 by omega,DP _ (JA Ya) ef (by unfold LQ;rw[hq];simp)];exact⟨p9,l,us,rfl,aA,(kk.trans M9).at el,hH.kt (aF.nil (kk.trans M9))⟩
     | true =>
      rw[if_neg 0e0];refine hZ4 _ _ ?_;clear hZ4;refine aQ λZ5 hZ5=>?_;have Yl:=tw.a1.ins
      exists Yl
      have fA:=yA.ft;have fB:=yB.ft;refine⟨R1,XY,ZR,_,rfl,tw.a1,yA.z.isN,by have:=yA.oQ gb;omega,by omega,by rw[yA.z.r.lt];decide,by have:=fA.an;omega,(λk ws e=>by rw[yA.z.r.lt] at e;cases e),λv6 G7 sf6 k7=>?_⟩;have Yt:=(tw.a2.kp k7).ins
      exists Yt
      refine⟨R2,XZ,ZS,_,rfl,tw.a2.kp k7,yB.z.isN,by have:=yB.oQ gc;omega,by omega,by rw[yB.z.r.lt];decide,by have:=fB.an;omega,(λk ws e=>by rw[yB.z.r.lt] at e;cases e),λv7 G8 sf7 k8=>?_⟩;intro pr hpr;refine hZ5 _ _ ?_;clear hZ5;have M8:=q0D (o:=.tup [v6,v7]) hpr;have epr:Xz G8 pr 2e4 pr=some 2e4:=aA;have k69:=(k7.trans k8).trans M8;have aaR:=(sf6.kp k8).kp M8;have aaS:=sf7.kp M8;have kG9:=kk.trans k69;replace tw:=tw.kp k69;have el9:=kG9.at el;have Zv:=mS Yj (.of kG9) (by rw[kG9.at Yj.at_,Yj.at_]);have eL9:=kG9.at eL;have hL9:=hL.kp kG9;have hH9:=hH.kt (aF.nil kG9);have k39:Kp [mt,lo] G3 (Xz G8 pr 2e4):=k3.trans (kG9.mono 0e0);have ab0:mQ G3 (Xz G8 pr 2e4):=kn3.trans (.of kG9);clear kG9;generalize Xz G8 pr 2e4=G9 at *;have dp:kK K G9 (.tup [iJ 1e1,iJ 0e1]) (.ref pr):=⟨pr,_,rfl,cJ.of epr,_,_,rfl,aaR.dv,_,_,rfl,aaS.dv,rfl⟩;have dd:(Dv.tup [iJ 1e1,iJ 0e1]).dep<=8:=by
       have:=rY 1e1;have:=rY 0e1;simp only[Dv.dep,Dv.eS];omega
      have lq:LQ b c row:=by unfold LQ;rw[hq]
      have etj:rows.take 2e5=rows.take j++[row]:=by rw[Α6,Ya];rfl
      have step:=AS etj ef;have nlm:lo≠mt:=bU eL Yj.at_ 7e0
      exists FJ,rC
      refine⟨ks',_,Zv,dd,dp,?_⟩;rw[vU YQ];by_cases Zz:prs b c row∈XH
      ·rw[if_neg 2e15];show Pw 2e5 _ G9;rw[Yb];rw[rA,if_pos lq,if_pos Zz] at step;exact⟨_,_,_,_,_,_,_,_,ks',lv,fls,XH,lg,rfl,Zv,YQ,eL9,hL9,nL,k39,ab0,step,by omega,lm',hg⟩
      ·rw[if_pos 2e15];rw[rA,if_pos lq,if_neg Zz] at step;have lks:ks'.length=XH.length:=by have:=Η5 List.length YQ;simpa using this
       refine⟨ks',_,pr,Zv,rfl,dd,dp,by omega,by rw[vU YQ];simpa[prs] using Zz,?_⟩;simp only[FJ,rC];have eM0:=Yj.at_;have a1:=aS.met (ks':=ks'++[(.tup [iJ 1e1,iJ 0e1],pr)]) tw.a1 Zv.at_ eM0 λd h=>by
        rcases h with h|h
        ·exact NRG d (.inl h)
        ·exact nas d (.inl h)
       have a2:=aS.met (ks':=ks'++[(.tup [iJ 1e1,iJ 0e1],pr)]) tw.a2 Zv.at_ eM0 λd h=>by
        rcases h with h|h
        ·exact NRG d (.inr h)
        ·exact nas d (.inr h)
       have hMA:=Zv.put dd dp;have Z0:=mQ.met (P:=P) (w:=w) (ks':=ks'++[(.tup [iJ 1e1,iJ 0e1],pr)]) Zv.at_;have eLA:Xz G9 mt (fV P w mt 6e13) lo=some (.lst lv):=by rw[aC nlm];exact eL9
       have elA:Xz G9 mt (fV P w mt 6e13) l=some 1e9:=by rw[aC (bU el9 Zv.at_ 7e0)];exact el9
       have hLA:=hL9.kn Z0 λf hf=>by
        obtain⟨⟨_,z1⟩,_,z2⟩:=hL9.ex f hf;rw[aC (bU z1 Zv.at_ 7e0),aC (bU z2 Zv.at_ 7e0)];exact⟨rfl,rfl⟩
       have hHA:=hH9.kt Z0.tup;have k3A:=k39.trans (Kp.set (S:=[mt,lo]) (p:=mt) (o:=fV P w mt 6e13) 0e0);have ac7:=ab0.trans Z0;generalize Xz G9 mt (fV P w mt 6e13)=GA at *;have exA:=a1.ins
       exists eLA,elA,exA,FJ,rC
       have lpA:=yA.oQ gb;have lpB:=yB.oQ gc;refine⟨R1,XY,ZR,_,rfl,a1,by omega,λq1 hq1=>?_⟩;have N1:=q0D (o:=.lst 7e14) hq1;have eq1:Xz GA q1 (.lst 7e14) q1=some (.lst 7e14):=aA;replace a2:=a2.kp N1;generalize Xz GA q1 (.lst 7e14)=GB at *;have exB:=a2.ins
       exists exB
       refine⟨R2,XZ,ZS,_,rfl,a2,by omega,λq2 hq2=>?_⟩;have N2:=q0D (o:=.lst 4e14) hq2;have eq2:Xz GB q2 (.lst 4e14) q2=some (.lst 4e14):=aA;replace eq1:=N2.at eq1;replace N2:=N1.trans N2;clear N1;generalize Xz GB q2 (.lst 4e14)=GC at *
       exists eq1,eq2
       refine⟨by simp only[Δ];omega,λp3 h3=>?_⟩;refine⟨((aft b row).pend++(aft c row).pend).map Key.inl,.inl 2e13,by simp only[Δ,Ι];omega,λl4 h4=>?_⟩;obtain⟨ns0,eu,nd,mem,lu⟩:=lV ((aft b row).pend++(aft c row).pend);rw[Ι] at lu;refine⟨_,rfl,by rw[eu,Δ];omega,.inl ⟨ns0,eu,λl5 ns h5 hp hs pt hpt=>?_⟩⟩;have ZF:ns=gB 1e1 0e1:=q9 hp nd mem hs;subst ZF;have N4:=(N2.trans (q0D (o:=4e28) h3)).trans (q0D (o:=5e28) h4);have n5:l5≠lo:=λe=>by rw[e,N4.at eLA] at h5;cases h5
       have N5:=q0D (o:=4e22) hpt;have N6:=(N4.trans (q0D (o:=(.lst ((gB 1e1 0e1).map V.int))) h5)).trans N5;have hFr:NB b c (Xz 6e28 pt 4e22) (.ref pt) (l,l5) row:=⟨pt,us,rfl,aA,N6.at elA,hHA.kt 9e42,N5.at aA⟩;clear N4 N5 hpt h5 h4 h3;generalize Xz 6e28 pt 4e22=GF at *;have eLF:=N6.at eLA;have hLF:=(hLA.kp N6).snoc hFr;have hMF:=mS hMA (.of N6) (by rw[N6.at hMA.at_,hMA.at_]);have k3F:=k3A.trans (N6.mono (T:=[mt,lo]) 0e0);have ac8:=ac7.trans (.of N6);have lvl:=hL.len
       exists eLF
       refine⟨by omega,?_⟩;have knl:=mQ.lst (ys:=lv++[.ref pt]) eLF;have nlF:∀f∈fls++[(l,l5)],f.1≠lo/\f.2≠lo:=λf hf=>by
        rcases Υ.mp hf with hf|hf
        ·exact nL f hf
        ·rw[Τ.mp hf];exact⟨nls l hls,n5⟩
       show Pw 2e5 _ _;rw[Yb];refine⟨_,_,_,_,_,_,_,_,_,lv++[.ref pt],fls++[(l,l5)],XH++[prs b c row],lg++[row],rfl,mS hMF knl 2e37,?_,aA,hLF.kn knl (λf hf=>?_),nlF,k3F.trans (Kp.set 0e0),ac8.trans knl,step,?_,?_,?_⟩
       ·rw[Ϙ,Ϙ,YQ];rfl
       ·rw[aC (nlF f hf).1,aC (nlF f hf).2];exact⟨rfl,rfl⟩
       ·rw[Ι,Α1];omega
       ·rw[Ι,Α1,Ι,Α1];omega
       ·intro r YS;rcases Υ.mp YS with z|z
        ·exact hg r z
        ·rw[Τ.mp z];exact⟨YC.1,lq,YC.2⟩
   ·intro σ G h;rw[Yb] at h;obtain⟨x6,x8,x9,YK,YL,Yq,Yy,Yi,ks',lv,fls,XH,lg,rfl,Yj,YQ,eL,hL,nL,k3,kn3,ef,ll,lm',hg⟩:=h;refine hQ2 _ _ ?_;clear hQ2;rw[Δ4 (by rw[Δ];omega)] at ef;rw[Δ] at ll;have e8:n - i=9e17+1:=by omega
    refine aQ λQ3 hQ3=>?_;have lvl:=hL.len;have KH9:Kp [] H G:=λa o e _=>k3 _ _ 3e17 (by
     simp only[Ε,Θ,ϝ,not_or];exact⟨aD e nHm,aD e ZO⟩)
    exists eL,FJ,rC
    intro z0 hz0;have N0:=q0D (o:=.lst []) hz0;have ez0:Xz G z0 4e0 z0=some 4e0:=aA;replace eL:=N0.at eL;replace hL:=hL.kp N0;replace Yj:=mS Yj (.of N0) (by rw[N0.at Yj.at_,Yj.at_]);replace KH9:=KH9.trans N0;replace k3:Kp [mt,lo] G3 (Xz G z0 4e0):=k3.trans (N0.mono 0e0);replace kn3:mQ G3 (Xz G z0 4e0):=kn3.trans (.of N0);clear N0 hz0;generalize Xz G z0 4e0=GA at *;cases hlv:lg with
    | nil =>
     have lv0:lv=[]:=Ζ7.mp 0e37;rw[lv0] at eL;refine⟨_,pX.list (e:=λ_=>true) (c5.of eL) 1e18 rfl 7e34,?_⟩;have lks:ks'.length=XH.length:=by have:=Η5 List.length YQ;simpa using this
     rw[if_pos (by rfl)];refine⟨ks',Yj.at_,by omega,λt9 h9=>q _ _ ?_ 4e36⟩;rw[eq,e8,Hr ef hlv,lks];exact⟨t9,rfl,aA⟩
    | cons r0 rs =>
     refine⟨_,pX.Yg (c5.of eL) 1e18 (by rw[lvl,hlv];simp),?_⟩;rw[if_neg 0e0];refine hQ3 _ _ ?_;clear hQ3;refine aQ λQ4 hQ4=>?_;wp_walk;intro rn hrn;refine hQ4 _ _ ?_;clear hQ4;have N1:=q0D (o:=.lst []) hrn;have ern:Xz GA rn 4e0 rn=some 4e0:=aA;have nrn:∀{a o},GA a=some o->a≠rn:=λe z=>by rw[z,hrn] at e;cases e
     have ab4:H rn=none:=by
      cases zz:H rn with
      | none=>rfl
      | some o=>rw[KH9.at zz] at hrn;cases hrn
     have kM:Kp [mt] G2 GA:=λa o e na=>by
      have e3:=kG a o e na;exact k3 a o e3 (by
       simp only[Ε,Θ,ϝ,not_or];exact⟨λz=>na 7e41,λz=>by rw[z,nG2] at e;cases e⟩)
     have nrL:=nrn eL;have nrM:=nrn Yj.at_;have nrF:∀f∈fls,f.1≠rn/\f.2≠rn:=λf hf=>by
      obtain⟨⟨_,z1⟩,_,z2⟩:=hL.ex f hf;exact⟨nrn z1,nrn z2⟩
     have adE:∀{a o},G2 a=some o->a∉[mt]->a≠rn:=λe na=>nrn (kM _ _ e na);replace kM:Kp [mt] G2 (Xz GA rn 4e0):=kM.trans (N1.mono 0e0);replace eL:=N1.at eL;replace hL:=hL.kp N1;replace Yj:=mS Yj (.of N1) (by rw[N1.at Yj.at_,Yj.at_]);replace KH9:=KH9.trans N1;clear N1 hrn nrn k3 kn3;generalize Xz GA rn 4e0=GB at *
     exists eL
     refine⟨⟨_,c5.of eL⟩,?_⟩;obtain⟨Px,hPx⟩:∃Px:Nat->St->Hp->Prop,∀j σ G,Px j σ G=E9 fun(x6 x8 x9 YK YL Yq Yy Yi:Option V) (ls2:List Addr)=>A6 (σ=[some 5e2,some 2e1,some 9e1,some 6e3,some (.ref rn),some 0e7,x6,some 3e11,x8,x9,YK,YL,Yq,Yy,Yi]) (G rn=some (.lst (ls2.map V.ref))) (jB G ls2 (dU b c 6e2 1e25)) (rn∉ls2) 5e40 (mQ GB G):=⟨_,λ_ _ _=>rfl⟩;have ab3:lg.length<=bB 2e2:=by omega
     have aaQ:∀r∈lg,rH b c 6e2 r/\r.length=i+1:=λr YS=>⟨.inr ⟨(hg r YS).1,(hg r YS).2.1⟩,(hg r YS).2.2⟩;have adC:=yJ gb gc hw lb lc 9e38 1e0 aaQ ab3;refine iS (xs:=lv) Px ?_ ?_ ?_ ?_
     ·rw[hPx];exact⟨_,_,_,_,_,_,_,_,[],rfl,ern,.nil,Θ,.refl,.of .refl⟩
     ·intro j σ G' _ h;rw[hPx] at h;obtain⟨_,_,_,_,_,_,_,_,_,_,_,_,_,k,_⟩:=h;exact c5.of (k.at1 eL nrL)
     ·intro j y σ G' hy h;rw[hPx] at h;obtain⟨x6,x8,x9,YK,YL,Yq,Yy,Yi,ls2,rfl,er2,hR2,n2,kB,knB⟩:=h;obtain⟨f,row,hf,Ya,tt,us,rfl,et,ef1,hH,ef2⟩:=hL.at hy;have etG:=knB.tup _ _ et;have adU:=kB.at1 ef1 (nrF f hf).1;have aa0:=kB.at1 ef2 (nrF f hf).2;have ewG:=kB.at1 1e44 6e43;have hHG:=hH.kt knB.tup;have YC:=hg row (Φ Ya)
      exists etG,aa0
      refine⟨_,cJ.of etG,rfl,?_⟩
      exists aa0
      refine⟨⟨_,c5.of aa0⟩,?_⟩;obtain⟨Py,hPy⟩:∃Py:Nat->St->Hp->Prop,∀k σ G,Py k σ G=E2 fun(Yi:Option V) (ls3:List Addr)=>A6 (σ=[some 5e2,some 2e1,some 9e1,some 6e3,some (.ref rn),some 0e7,x6,some 3e11,some (.ref f.1),x9,YK,YL,Yq,some (.ref f.2),Yi]) (G rn=some (.lst (ls3.map V.ref))) (jB G ls3 (dU b c 6e2 1e25++((gB 1e1 0e1).take k).flatMap λi=>(w0::ws).map λw=>row++[Hap.don 0 i w])) (rn∉ls3) 5e40 (mQ GB G):=⟨_,λ_ _ _=>rfl⟩;refine iS (xs:=(gB 1e1 0e1).map V.int) Py ?_ ?_ ?_ ?_
      ·rw[hPy];exact⟨_,ls2,rfl,er2,by simpa using hR2,n2,kB,knB⟩
      ·intro k σ G3' _ h;rw[hPy] at h;obtain⟨_,_,_,_,_,_,k3',_⟩:=h;exact c5.of (k3'.at1 ef2 (nrF f hf).2)
      ·intro k y σ G3' hy h;rw[hPy] at h;obtain⟨Yi,ls3,rfl,er3,aaB,n3,kB3,aaP⟩:=h;rw[Ψ] at hy;obtain⟨tk,etk,rfl⟩:=ϑ.mp hy;have acO:=kB3.at1 ef1 (nrF f hf).1;have ew3:=kB3.at1 1e44 6e43;have acT:=hH.kt aaP.tup
       exists er3,ew3
       refine⟨⟨_,c5.of ew3⟩,?_⟩;have lus:us.length=i+1:=by rw[hH.len,YC.2.2]
       refine jH (ys:=(w0::ws).map wv) (λm xs G4=>∃ZD:List Addr,xs=ZD.map V.ref/\jB G4 ZD (((w0::ws).take m).map λw=>row++[Hap.don 0 tk w])/\(∀l∈ZD,G3' l=none)/\Kp [] G3' G4/\xs.length<=m/\m<=2) ⟨[],rfl,.nil,(λl hl=>by cases hl),.refl,Ζ _,ϖ _⟩ 6e37 6e37 (λm y xs G4 hm ey h=>?_) λxs G4 h lz hlz=>?_
       ·obtain⟨_,_,_,_,_,l1,l2⟩:=h;omega
       ·obtain⟨_,_,_,_,k4,_⟩:=h;exact c5.of (k4.at ew3)
       ·obtain⟨ZD,rfl,h4,n4,k4,l1,l2⟩:=h;rw[Ψ] at ey;obtain⟨w1,ew1,rfl⟩:=ϑ.mp ey;have abK:=k4.at acO
        exists aV,Γ8,abK
        intro ta YB tb' htb;have Na:=q0D (o:=.tup [.str "done",.int 0,.int tk,wv w1]) YB;have Nb:=q0D (o:=.lst [.ref ta]) htb;have Nab:=Na.trans Nb;rw[Nab.at abK];refine⟨by rw[Ζ3];simp;omega,λtd htd=>?_⟩;have Nd:=q0D (o:=.lst (us++[.ref ta])) htd;have aaY:=Nab.trans Nd;refine⟨ZD++[td],by simp,?_,λl hl=>?_,k4.trans aaY,by simp;simpa using l1,by rw[Δ,Κ] at hm;omega⟩
        ·rw[Α6,ew1,Ϙ];exact(h4.kp aaY).app (.cons aA ((acT.kt (aF.nil (k4.trans aaY))).snoc ⟨ta,rfl,(Nb.trans Nd).at aA⟩) .nil)
        ·rcases Υ.mp hl with hl|hl
         ·exact n4 l hl
         ·rw[Τ.mp hl];cases zz:G3' td with
          | none=>rfl
          | some o=>rw[(k4.trans Nab).at zz] at htd;cases htd
       ·obtain⟨ZD,rfl,h4,n4,k4,l1,l2⟩:=h;rw[Δ,Β9] at h4;have Nz:=q0D (o:=.lst 8e22) hlz;have kz:=k4.trans Nz;have erz:=kz.at er3;have ezz:Xz G4 lz 9e22 lz=some 9e22:=aA;replace h4:=h4.kp Nz;have hRz:=(aaB.kp kz).app h4;have kBz:=kB3.trans (kz.mono (T:=[rn]) 0e0);have adA:=aaP.trans (.of kz);generalize Xz G4 lz 9e22=GZ at *
        exists erz,ezz
        have hsz:(List.map V.ref ls3).length+(List.map V.ref ZD).length<=16777216:=by
         have sh:=Gd.short gb gc hw lb YC.1 (by have:=YC.2.2;omega);rw[YC.2.2] at sh;have l3:=aaB.len;have l4:=h4.len;have lt:=yJ gb gc hw lb lc 9e38 1e0 (fr:=lg.take j) (λr YS=>aaQ r (Θ3 YS)) (by rw[Α0];omega);have lz:=nY (f:=λi=>(w0::ws).map λw=>row++[Hap.don 0 i w]) (m:=2) (l:=(gB 1e1 0e1).take k) λ_ _=>by rw[Δ,Κ];omega
         have yy:=SO gb gc hw YC.1 (by have:=YC.2.2;omega);have l5:=Ho gb gc yy.1 yy.2 lb lc;have bb2:=(J9 (i:=i+1+1) 1e0).2;rw[Ι] at l3;rw[Δ,Κ] at l4;rw[Α0] at lz;rw[Δ,Δ];omega
        refine⟨hsz,?_⟩;have nz:∀l∈ls3++ZD,l≠rn:=λl hl z=>by
         rcases Υ.mp hl with hl|hl
         ·exact n3 (z▸hl)
         ·have:=n4 l hl;rw[z,er3] at this;cases this
        have knl:=mQ.lst (ys:=ls3.map V.ref++ZD.map V.ref) erz;rw[hPy];refine⟨_,ls3++ZD,rfl,by rw[aA,Ϙ],?_,λz=>nz _ z rfl,kBz.trans (Kp.set 0e0),adA.trans knl⟩;rw[jE _ _ _ etk,<- List.append_assoc];exact hRz.kn knl λl hl=>by rw[aC (nz l hl)]
      ·intro σ G3' h;rw[hPy] at h;obtain⟨Yi,ls3,rfl,er3,aaB,n3,kB3,aaP⟩:=h;show Px 2e5 _ G3';rw[hPx];have er:dU b c 6e2 (lg.take 2e5)=dU b c 6e2 1e25++(dM 6e2 1e1 0e1).map λx=>row++[x]:=jE _ _ _ Ya;rw[Δ,Β9] at aaB;refine⟨_,_,_,_,_,_,_,_,ls3,rfl,er3,?_,n3,kB3,aaP⟩;rw[er,YC.1.LA gb.nb gc.nb,List.map_flatMap];simpa[Β1,Ζ9] using aaB
     ·intro σ G' h;rw[hPx] at h;obtain⟨x6,x8,x9,YK,YL,Yq,Yy,Yi,ls2,rfl,er2,hR2,n2,kB,knB⟩:=h;rw[Δ4 1e0] at hR2;show Pv 2e2 _ G';rw[XI];have kMX:Kp [mt] G2 G':=λa o e na=>kB.at1 (kM a o e na) (adE e na);refine⟨_,_,_,_,_,_,_,_,_,rn,ks',ls2,dU b c 6e2 lg,XH,rfl,mS Yj knB (by rw[kB.at1 Yj.at_ nrM,Yj.at_]),YQ,er2,hR2,kMX,λr YS=>?_,adC,by omega,?_⟩
      ·obtain⟨row,abY,hr2⟩:=Κ4.mp YS;obtain⟨x,hx,rfl⟩:=Ϝ.mp hr2;refine⟨((aaQ row abY).1.next gb gc hx).1,?_⟩;rw[Ι,(aaQ row abY).2];rfl
      ·rw[eq,e8,MD ef 0e39]
  ·intro σ G h;rw[XI] at h;obtain⟨x6,x7,x8,x9,YK,YL,Yq,Yy,Yi,rl,ks,ls,rows,met,rfl,hM,hk,eR,hR,kG,hr,lr,lm,eq⟩:=h;refine Yz _ _ ?_;wp_walk;refine λt9 h9=>q _ _ ?_ 5e35;rw[eq,Ε5,Nat.sub_self];exact⟨t9,rfl,aA⟩
theorem yZ:Ok T T.mH 30 MZ:=by
 nomatch T.mH
 ·obtain⟨p1,p2,rl,wl,X5,X4,us,b,c,w0,ws,row,rfl,_⟩:=h;rfl
 ·obtain⟨p1,p2,rl,wl,X5,X4,us,b,c,w0,ws,row,rfl,e1,s1,e2,s2,gb,gc,er,hH,ew,hw,gd,nq,lr,q⟩:=h
  nomatch (aG (pst 4 8e12) (pss3 (pst 5 2e20) (i7 Γ0 rfl (lX rfl T.rF (pa1 (bJ gE rfl T.rE iA 8e1))) (pgn 6) (aG (pst 7 (pix aY pv2 pv6)) (aG (pif (PW.pt (zD (ptc cO pv6 aB) (sX (ptc 3e16 pv7 (aT (pa3 aL aB (pix aY pv3 aB))))))) 7e6) (pss3 (pst 8 8e29) (pif (PW.pt (zD (ptc DJ pv6 aB) (sX (PW.pt (Mz (ptc Mo 7e39 aL) (Fl (gU uN 7e39 3e4 6e4))))))) 7e6) (pif (ptc Mo (pcr 3e16 (pmt pv4 T.aM 2e7 T.dZ (pa1 pv7)) (pmt pv5 T.aM 2e7 T.dZ (pa1 pv7))) (pcr cO pv6 (bF lA (bJ gE rfl T.rE iA 8e1) aB))) 7e6))))) (aJ (Mr lW Vz aB (bJ gE rfl T.rE iA 8e1) aB)))),0
  refine aQ λZ1 hZ1=>?_
  exists e1
  refine qX e1 s1 λR1 X6 G4 A1 K4 NR1=>?_;refine hZ1 _ _ ?_;clear hZ1;refine aQ λZ2 hZ2=>?_;have YX:=K4.at e2
  exists YX
  refine qX YX 4e37 λR2 X2 G5 A2 K5 NR2=>?_;refine hZ2 _ _ ?_;clear hZ2;have TW0:=En.new .refl A1 K4 NR1 A2 K5 NR2;clear A1 K4 NR1 A2 K5 NR2;refine aQ λZ3 hZ3=>?_;have erG:=TW0.kb.at er;have lH:=hH.len;have X3:=gd.all hw
  exists erG
  refine⟨⟨by omega,by omega⟩,?_⟩;obtain⟨Pv,XI⟩:∃Pv:Nat->St->Hp->Prop,∀i σ G,Pv i σ G = ∃(x6 x7 x8:Option V) (XY XZ:List Addr) (X6 X2:V),σ=[some 5e2,some 2e1,some 2e11,some 9e1,some 5e18,some 4e18,x6,x7,x8]/\En ⟨t.aP,t.aO,t.aE⟩ H G R1 R2 XY XZ X6 X2 (aft b 6e7) (aft c 6e7):=⟨_,λ_ _ _=>rfl⟩;refine tS (lo:=0) Pv ?_ ?_ ?_
  ·rw[XI];exact⟨_,_,_,[],[],X6,X2,rfl,TW0⟩
  ·intro i σ G hi h;rw[XI] at h;obtain⟨x6,x7,x8,XY,XZ,ZR,ZS,rfl,tw⟩:=h;have hi':i < us.length:=by omega
   have ey:=Μ hi';obtain⟨x,ex,hx⟩:=hH.iR ey;obtain⟨ta,eta,YB⟩:=iY hx (aF.nil tw.kb);obtain⟨xnl,xm,xw⟩:=X3 x (Φ ex);have ZC:5e9:=⟨by rw[xm];exact⟨Θ7 _,by decide⟩,xw⟩;have lt:(row.take i).length<=100:=by rw[Α0];omega
   have ya:=nE gb 8e14 lt;have yb:=nE gc 8e14 lt;have ga:=gd.at ex;rw[eta] at ey;have erI:=tw.kb.at er;have ewI:=tw.kb.at ew;refine aQ λY1 hY1=>?_
   exists erI
   rw[Qd ey];refine hY1 _ _ ?_;clear hY1;refine aQ λY2 hY2=>?_;have Yo:∀G',Kp [] G G'->Y2 [some 5e2,some 2e1,some 2e11,some 9e1,some 5e18,some 4e18,some 7e38,some 1e27,x8] G':=λG' kG=>by
    refine hY2 _ _ ?_;clear hY2;replace tw:=tw.kp kG;replace YB:=kG.at YB;refine aQ λY3 hY3=>?_;have Yl:=tw.tw.a1.ins
    exists Yl
    have lpA:=ya.oQ gb;have lpB:=yb.oQ gc;refine⟨R1,XY,ZR,_,rfl,tw.tw.a1,by omega,λq1 hq1=>?_⟩;have N1:=q0D (o:=.lst 5e14) hq1;have eq1:Xz G' q1 (.lst 5e14) q1=some (.lst 5e14):=aA;replace tw:=tw.kp N1;replace YB:=N1.at YB;clear N1 hq1 Yl;generalize Xz G' q1 (.lst 5e14)=GA at *;have Yt:=tw.tw.a2.ins
    exists Yt
    refine⟨R2,XZ,ZS,_,rfl,tw.tw.a2,by omega,λq2 hq2=>?_⟩;have N2:=q0D (o:=.lst 2e14) hq2;have eq2:Xz GA q2 (.lst 2e14) q2=some (.lst 2e14):=aA;replace eq1:=N2.at eq1;replace tw:=tw.kp N2;replace YB:=N2.at YB;clear N2 hq2 Yt;generalize Xz GA q2 (.lst 2e14)=GB at *
    exists eq1,eq2
    refine⟨by simp only[Δ];omega,λp3 h3=>?_⟩;refine hY3 _ _ ?_;clear hY3;have N3:=q0D (o:=.lst 7e19) h3;have eq3:Xz GB p3 (.lst 7e19) p3=some (.lst (((aft b 6e7).pend++(aft c 6e7).pend).map V.int)):=by rw[aA,Ϙ]
    replace tw:=tw.kp N3;replace YB:=N3.at YB;clear N3 h3 eq1 eq2;generalize Xz GB p3 (.lst 7e19)=GC at *;refine aQ λY4 hY4=>?_;have st4:∀(a8:Addr),Y4 [some 5e2,some 2e1,some 2e11,some 9e1,some 5e18,some 4e18,some 7e38,some 1e27,some (.ref a8)] GC:=λa8=>by
     refine hY4 _ _ ?_;clear hY4;have Yl:=tw.tw.a1.ins;have erC:=tw.kb.at er
     exists Yl,erC
     refine⟨R1,_,rfl,.inl ⟨XY,ZR,_,x,_,tw.tw.a1,ya.ft,by omega,ya.z.isN,⟨ta,rfl,YB⟩,ZC,λZf sb1 c1 cs1 G1' A1' hc1 nc1 ec1 Y5 F1=>?_⟩⟩;have YJ:=tw.step F1 A1';have Yt:=YJ.tw.a2.ins;have erD:=YJ.kb.at er
     exists Yt,erD
     refine⟨R2,_,rfl,.inl ⟨XZ,ZS,_,x,_,YJ.tw.a2,yb.ft,by omega,yb.z.isN,⟨ta,rfl,tw.tw.a1.tkp F1 _ _ YB⟩,ZC,λZg ZU c2 cs2 G2' A2' hc2 nc2 ec2 Y6 F2=>?_⟩⟩;have Yp:=(YJ.symm.step F2 A2').symm;have Yw:=tw.tw.a2.c9 hc1;have YY:=F2.kp _ _ ec1 Yw.1 Yw.2;have Yk:=Y5.kt 8e23;refine⟨_,xG (K:=K) (n:=0) YY ec2 Yk Y6 (fN _ _).1 (fN _ _).1,?_⟩;have etk:row.take 2e2=row.take i++[x]:=by rw[Α6,ex];rfl
     have erE:=Yp.kb.at er;rw[<- cA,<- cA,<- etk]
     exists erE
     rw[if_pos,XI]
     ·refine⟨_,_,_,Zf,Zg,sb1,ZU,rfl,?_⟩;rw[etk,dG,dG];exact Yp
     ·by_cases hl:i+1 < row.length
      ·have:=ga.q hl;unfold LQ at this;rw[this,Γ2 1e0];rfl
      ·rw[Δ4 1e0,Ε1 1e0];cases hq:ceq (oB b row) (oB c row) with
       | true=>exact absurd hq nq
       | false=>rfl
    by_cases hz:i=0
    ·skip
     exists YB,eq3
     rw[if_neg 1e0];exact st4 p3
    ·obtain⟨tk,w1,rfl,htk⟩:=ga.s 1e0;have ac4:GC ta=some (.tup [.str "done",.int 0,.int tk,wv w1]):=YB
     exists ac4,eq3
     rw[if_pos 1e0];refine⟨rfl,by simp[eB],?_⟩;rw[GO,Ε1 (oR.mp htk),if_neg 0e0];exact st4 p3
   by_cases hz:i=0
   ·obtain⟨w1,e0,rfl⟩:=ga.z hz;cases e0
    exists ewI
    rw[if_pos 1e0];intro p9 h9;have N9:=q0D (o:=.tup [.str "begin",.int 0,wv w0]) h9;refine⟨_,Af.rcT (n:=1) (Af.refl λv hv=>?_) (N9.at YB) aA,?_⟩
    ·simp only[Hap.vs,Hap.ini,Χ,ϛ,Ε,Θ,ϝ] at hv;rcases hv with rfl|rfl|rfl
     ·exact cY _
     ·exact fR _
     ·exact j5 _
    ·rw[if_neg 0e0];exact Yo _ N9
   ·skip
    exists ewI
    rw[if_neg 1e0];exact Yo G .refl
  ·intro σ G h;rw[XI] at h;obtain⟨x6,x7,x8,XY,XZ,ZR,ZS,rfl,tw⟩:=h;refine hZ3 _ _ ?_;have erI:=tw.kb.at er;have:=List.length_pos_iff.mpr gd.ne
   exists erI
   rw[if_pos 1e0,Ε1 1e0];exact q _ tw.kb
theorem jM:Ok T T.iD 1 (MP K):=by
 nomatch T.iD
 ·obtain⟨a,ns,k,rfl,_⟩:=h;rfl
 ·obtain⟨a,ns,k,rfl,hS,hk,q⟩:=h
  nomatch (pss2 (pif (ptc lW pv1 (bJ Il rfl T.rE iA 7e12)) (aI (aJ (pix GV pv0 pv1)))) (aJ aB)),0
  wp_walk;refine⟨_,hS,?_⟩;split
  ·next h =>
   rw[Δ] at h;have hj:k.toNat < ns.length:=by omega
   have ek:k=((k.toNat:Nat):Int):=by omega
   have e:iR 9e15 ((k.toNat:Nat):Int)=some (.int ns[k.toNat]):=rQ (by rw[Ψ,Μ hj];rfl);rw[<- ek] at e;exact⟨a,_,k,_,rfl,rfl,hS,e,q _⟩
  ·exact q 0
theorem u9:Ok T T.pH 30 MU:=by
 nomatch T.pH
 ·obtain⟨p1,p2,wl,cl,X5,X4,b,c,w0,ws,ms,met,rfl,_⟩:=h;rfl
 ·obtain⟨p1,p2,wl,cl,X5,X4,b,c,w0,ws,ms,met,rfl,e1,s1,e2,s2,gb,gc,ew,lw,hw,clo,ecl,lm,q⟩:=h;have hu:=yF hr
  nomatch (aG (pst 4 8e12) (aG (pst 5 2e20) (pss3 (pst 6 2e33) (i7 Γ0 rfl (dH pv3) (pgn 7) (aG (pif (ptc 3e16 3e32 2e32) 7e6) (pss3 (pst 8 (bJ 1e19 rfl T.jT iB (pa1 (bL 5e11 rfl T.FR xB (pa1 8e29))))) (pif (ptc 3e23 3e4 3e3) 7e6) (pst 6 (aT (bQ aL (pa3 aB (pix aY 3e4 (bF mO pv7 (bJ gE rfl T.rE iA (pa1 3e4)))) (pix aY pv2 (bF mO (bF oM pv7 aB) (bJ gE rfl T.rE iA 8e1)))))))))) (aJ (pcr (y6 2 (nF hr 3e0)) 3e32 2e32))))),0
  refine aQ λZ1 hZ1=>?_
  exists e1
  refine qX e1 s1 λR1 X6 G4 A1 K4 NR1=>?_;refine hZ1 _ _ ?_;clear hZ1;refine aQ λZ2 hZ2=>?_;have YX:=K4.at e2
  exists YX
  refine qX YX 4e37 λR2 X2 G5 A2 K5 NR2=>?_;refine hZ2 _ _ ?_;clear hZ2;have TW0:=En.new .refl A1 K4 NR1 A2 K5 NR2;clear A1 K4 NR1 A2 K5 NR2;refine aQ λZ3 hZ3=>?_;have ewG:=TW0.kb.at ew
  exists ewG
  intro t0 ht0;refine hZ3 _ _ ?_;clear hZ3;have N0:=q0D (o:=.tup [.str "begin",.int 0,wv w0]) ht0;replace TW0:=TW0.kp N0;have et0:Xz G5 t0 1e29 t0=some (.tup (Hap.XS 0 w0).vs):=aA;clear N0 ht0 ewG;generalize Xz G5 t0 1e29=G6 at *;refine aQ λZ4 hZ4=>?_;have ecG:=TW0.kb.at ecl
  exists ecG
  refine⟨⟨_,c5.of ecG⟩,?_⟩;obtain⟨Pv,XI⟩:∃Pv:Nat->St->Hp->Prop,∀j σ G,Pv j σ G=E9 fun(x7 x8:Option V) (XY XZ:List Addr) (X6 X2:V) (row:List Hap) (x:Hap) (ta:Addr)=>A6 (σ=[some 5e2,some 2e1,some 9e1,some (.ref cl),some 5e18,some 4e18,some 1e27,x7,x8]) (En ⟨t.aP,t.aO,t.aE⟩ H G R1 R2 XY XZ X6 X2 1e1 0e1) (G ta=some (.tup x.vs)) (Gd b c 6e2 6e0) (row.length=j) (j<=ms.length):=⟨_,λ_ _ _=>rfl⟩;refine iS (xs:=ms.map V.int) Pv ?_ ?_ ?_ ?_
  ·rw[XI];exact⟨_,_,[],[],X6,X2,[],.XS 0 w0,t0,rfl,TW0,et0,.one rfl,rfl,ϖ _⟩
  ·intro j σ G _ h;rw[XI] at h;obtain⟨x7,x8,XY,XZ,ZR,ZS,row,x,ta,rfl,tw,_⟩:=h;exact c5.of (tw.kb.at ecl)
  ·intro j y σ G hy h;rw[XI] at h;obtain⟨x7,x8,XY,XZ,ZR,ZS,row,x,ta,rfl,tw,YB,gd,lr,lj⟩:=h;obtain⟨z,rfl⟩:=GP hy;have hj:=(Λ.mp hy).1;rw[Δ] at hj;refine aQ λY1 hY1=>?_;have lt:row.length<=100:=by omega
   have X3:=λh (hh:h∈row)=>gd.all hw h (Ε4 _ hh);obtain⟨xnl,xm,xw⟩:=gd.all hw x (ϗ _ 0e0);have ZC:5e9:=⟨by rw[xm];exact⟨Θ7 _,by decide⟩,xw⟩;have ya:=nE gb X3 lt;have yb:=nE gc X3 lt;have Yl:=tw.tw.a1.ins
   exists Yl
   refine⟨R1,_,rfl,.inl ⟨XY,ZR,_,x,_,tw.tw.a1,ya.ft,by omega,ya.z.isN,⟨ta,rfl,YB⟩,ZC,λZf sb1 c1 cs1 G1' A1' hc1 nc1 ec1 Y5 F1=>?_⟩⟩;have YJ:=tw.step F1 A1';have Yt:=YJ.tw.a2.ins
   exists Yt
   refine⟨R2,_,rfl,.inl ⟨XZ,ZS,_,x,_,YJ.tw.a2,yb.ft,by omega,yb.z.isN,⟨ta,rfl,tw.tw.a1.tkp F1 _ _ YB⟩,ZC,λZg ZU c2 cs2 G2' A2' hc2 nc2 ec2 Y6 F2=>?_⟩⟩;have Yp:=(YJ.symm.step F2 A2').symm;have Yw:=tw.tw.a2.c9 hc1;have YY:=F2.kp _ _ ec1 Yw.1 Yw.2;have Yk:=Y5.kt 8e23;refine⟨_,xG (K:=K) (n:=0) YY ec2 Yk Y6 (fN _ _).1 (fN _ _).1,?_⟩;have lq:=(BP gb.nb gc.nb clo gd).1;unfold LQ at lq;rw[cA,cA] at lq;rw[lq];show Y1 _ G2';refine hY1 _ _ ?_;clear hY1;have ewI:=Yp.kb.at ew;rw[<- dG,<- dG] at Yp;clear YJ F1 F2 A1' A2' Y5 Yk Y6 ec1 YY ec2 tw Yl Yt ya yb YB;have gl:(row++[x]).length<=100:=by rw[Ι,Α1];omega
   have ya:=nE gb 7e42 gl;have yb:=nE gc 7e42 gl;have lpA:=ya.oQ gb;have lpB:=yb.oQ gc;refine aQ λY2 hY2=>?_;have Yl:=Yp.tw.a1.ins
   exists Yl
   refine⟨R1,Zf,sb1,_,rfl,Yp.tw.a1,by omega,λq1 hq1=>?_⟩;have N1:=q0D (o:=.lst 6e14) hq1;have eq1:Xz G2' q1 (.lst 6e14) q1=some (.lst 6e14):=aA;replace Yp:=Yp.kp N1;clear N1 hq1 Yl;generalize Xz G2' q1 (.lst 6e14)=GA at *;have Yt:=Yp.tw.a2.ins
   exists Yt,FJ,rC
   refine⟨R2,Zg,ZU,_,rfl,Yp.tw.a2,by omega,λq2 hq2=>?_⟩;have N2:=q0D (o:=.lst 3e14) hq2;have eq2:Xz GA q2 (.lst 3e14) q2=some (.lst 3e14):=aA;replace eq1:=N2.at eq1;replace Yp:=Yp.kp N2;clear N2 hq2 Yt;generalize Xz GA q2 (.lst 3e14)=GB at *
   exists eq1,eq2,FJ,rC
   refine⟨by simp only[Δ];omega,λp3 h3=>?_⟩;refine⟨((aft b 6e0).pend++(aft c 6e0).pend).map Key.inl,.inl 2e13,by simp only[Δ,Ι];omega,λl4 h4=>?_⟩;obtain⟨ns0,eu,nd,mem,lu⟩:=lV ((aft b 6e0).pend++(aft c 6e0).pend);rw[Ι] at lu;refine⟨_,rfl,by rw[eu,Δ];omega,.inl ⟨ns0,eu,λl5 ns h5 hp hs=>?_⟩⟩;have ZF:ns=gB (aft b 6e0) (aft c 6e0):=q9 hp nd mem hs;have N5:=((q0D (o:=8e28) h3).trans (q0D (o:=9e28) h4)).trans (q0D (o:=0e16) h5);have eF:Xz 0e29 l5 0e16 l5=some 0e16:=aA;refine hY2 _ _ ?_;clear hY2;replace Yp:=Yp.kp N5;clear N5 h3 h4 h5;generalize Xz 0e29 l5 0e16=GF at *;refine aQ λY3 hY3=>?_
   exists eF
   intro z0 hz0;have N0:=q0D (o:=.lst []) hz0;have ez0:Xz GF z0 4e0 z0=some 4e0:=aA;replace eF:=N0.at eF;replace Yp:=Yp.kp N0;clear N0 hz0;generalize Xz GF z0 4e0=GG at *;cases ns with
   | nil =>
    refine⟨_,pX.list (e:=λ_=>true) (c5.of eF) 1e18 rfl 7e34,?_⟩;rw[if_pos (by rfl)];exact q _ Yp.kb
   | cons n0 ns =>
    refine⟨_,pX.Yg (c5.of eF) 1e18 0e0,?_⟩;rw[if_neg 0e0];refine hY3 _ _ ?_;clear hY3;have ewF:=Yp.kb.at ew
    exists eF,ewF
    obtain⟨u,hu,etk⟩:=Ud (us:=(n0::ns).map V.int) (g:=z % (((ns.map V.int).length+1:Nat):Int)) (Θ2 _ 1e0) 8e33;obtain⟨tk,htk,rfl⟩:=Ϝ.mp hu;rw[ϔ] at etk;refine⟨by omega,?_⟩;rw[etk]
    exists ewF
    obtain⟨u2,hu2,ew2⟩:=Ud (us:=(w0::ws).map wv) (g:=z / 7 % (((ws.map wv).length+1:Nat):Int)) (Θ2 _ 1e0) 8e33;obtain⟨w1,hw1,rfl⟩:=Ϝ.mp hu2;rw[ϔ] at ew2;refine⟨⟨by decide,by decide⟩,by omega,?_⟩;rw[ew2];wp_walk;intro p9 h9;have N9:=q0D (o:=.tup [.str "done",.int 0,.int tk,wv w1]) h9;show Pv 2e5 _ _;rw[XI];refine⟨_,_,Zf,Zg,sb1,ZU,row++[x],.don 0 tk w1,p9,rfl,Yp.kp N9,aA,.snoc gd (BP gb.nb gc.nb clo gd).1 (by rw[<- ZF];exact htk) hw1,by rw[Ι,Α1,lr],hj⟩
  ·intro σ G h;rw[XI] at h;obtain⟨x7,x8,XY,XZ,ZR,ZS,row,x,ta,rfl,tw,YB,gd,lr,lj⟩:=h;refine hZ4 _ _ ?_;rw[Δ] at lr;have lt:row.length<=100:=by omega
   have X3:=λh (hh:h∈row)=>gd.all hw h (Ε4 _ hh);obtain⟨xnl,xm,xw⟩:=gd.all hw x (ϗ _ 0e0);have ZC:5e9:=⟨by rw[xm];exact⟨Θ7 _,by decide⟩,xw⟩;have ya:=nE gb X3 lt;have yb:=nE gc X3 lt;have Yl:=tw.tw.a1.ins
   exists Yl
   refine⟨R1,_,rfl,.inl ⟨XY,ZR,_,x,_,tw.tw.a1,ya.ft,by omega,ya.z.isN,⟨ta,rfl,YB⟩,ZC,λZf sb1 c1 cs1 G1' A1' hc1 nc1 ec1 Y5 F1=>?_⟩⟩;have YJ:=tw.step F1 A1';have Yt:=YJ.tw.a2.ins
   exists Yt
   refine⟨R2,_,rfl,.inl ⟨XZ,ZS,_,x,_,YJ.tw.a2,yb.ft,by omega,yb.z.isN,⟨ta,rfl,tw.tw.a1.tkp F1 _ _ YB⟩,ZC,λZg ZU c2 cs2 G2' A2' hc2 nc2 ec2 Y6 F2=>?_⟩⟩;have Yp:=(YJ.symm.step F2 A2').symm;have Yw:=tw.tw.a2.c9 hc1;have YY:=F2.kp _ _ ec1 Yw.1 Yw.2;have Yk:=Y5.kt 8e23;refine⟨_,xG (K:=K) (n:=0) YY ec2 Yk Y6 (fN _ _).1 (fN _ _).1,?_⟩;have lq:=(BP gb.nb gc.nb clo gd).1;unfold LQ at lq;rw[cA,cA] at lq;rw[lq];exact q _ Yp.kb
theorem S6:Ok T T.Vn 40 (HD K):=by
 nomatch T.Vn
 ·obtain⟨a,ns,rfl,_⟩:=h;rfl
 ·obtain⟨a,ns,rfl,hS,h63,q⟩:=h
  nomatch (aG (pst 1 (pcl (Fb T) T.xX (pa1 8e34))) (aG (pst 2 pv1) (aG (pif (ptc DJ (bF mO (pcl (jM T) T.iD 5e12) aB) aB) (aI (pst 2 (pcl (Ax T) T.nZ (pa2 pv1 (pcl (jM T) T.iD 5e12)))))) (aG (pst 3 (pix aY (bA (bQ 7e24 (pa3 (bA 6e42) 7e24 (bA (pa2 aB aB))))) 9e31)) (aG (pst 4 (bF dB aB 9e31)) (aG (pst 5 (pcl (Ay T) T.n6 (bQ pv1 (bQ pv2 (pa3 pv3 3e3 pv4))))) (aG (pif (ptc (y7 4 (nF hr 3e0)) pv5 (pcl (Jk T) T.B8 9e30)) 7e6) (pss3 (pif 5e34 (aI (aJ (pcl (yZ T) T.mH (bQ pv1 (pa3 pv2 4e34 pv3)))))) (pif 5e34 (pss2 (pst 6 8e34) (aJ (Mq (pcl (u9 T) T.pH (bQ pv1 (pa3 pv2 pv3 pv6))) (Fg (pcl (u9 T) T.pH (bQ pv1 (pa3 pv2 pv3 (Jq pv6 fT fT 0e18))))))))) (aJ mX))))))))),0
  left;wp_walk;refine⟨_,hS,λq1 m1=>?_⟩;obtain⟨ms,em,lm⟩:=Gn ns 2 6;rw[show((2:Nat):Int)=2 from rfl,show((6:Nat):Int)=6 from rfl] at em;rw[em];have N1:=q0D (o:=.lst (ms.map V.int)) m1;replace hS:=N1.same.seq hS;refine⟨q1,ms,rfl,aA,by omega,λp1 X5 b G1 e1 s1 g1 l1 K1=>?_⟩;replace hS:=K1.same.seq hS;clear N1 m1 em K1;wp_walk;right;left;wp_walk;right;refine aQ λR3 Yz=>?_;have gb:=Hj g1 1e0
  suffices fin:∀(p2:Addr) (X4:List V) (c:List Stm) (G:Hp),G p2=some (.tup X4)->aW G X4 c->Pg38 c->c.length<=5->Kp [] G1 G->R3 [some 2e9,some 5e2,some 2e1,none,none,none,none] G by
   wp_walk;refine⟨a,ns,1,rfl,hS,by decide,λz=>?_⟩;wp_walk;split
   ·refine⟨a,ns,0,rfl,hS,by decide,λz0=>?_⟩;exact⟨p1,X5,b,z0,rfl,e1,s1,g1,by omega,λp2 X4 c G e2 s2 g2 l2 k=>fin p2 X4 c G e2 s2 (Hj g2 1e0) 1e0 k⟩
   ·exact fin p1 X5 b G1 e1 s1 gb 1e0 .refl
  intro p2 X4 c G2 e2 s2 gc lc K2;replace e1:=K2.at e1;replace s1:=s1.kp (aF.nil K2);replace hS:=K2.same.seq hS;clear K2;refine Yz _ _ ?_;clear Yz;clear R3;refine aQ λR4 hR4=>?_
  suffices fin:∀(wl:Addr) (w0:Wo) (ws:List Wo) (G:Hp),G wl=some (.lst ((w0::ws).map wv))->ws.length<=1->(∀w∈w0::ws,cL w)->Kp [] G2 G->R4 [some 2e9,some 5e2,some 2e1,some 9e1,none,none,none] G by
   wp_walk;intro l1' m1' l2' m2' l3' m3' l4' m4' l5' m5';have N1:=q0D (o:=.lst [.int 1]) m1';have N2:=q0D (o:=.lst [.XB,.int 2]) m2';have N3:=q0D (o:=.lst [.int 0]) m3';have N4:=q0D (o:=.lst [.int 3,.int 1]) m4';have N5:=q0D (o:=.lst [.ref l1',.ref l2',.ref l3',.ref l4']) m5';have f1:=(((N2.trans N3).trans N4).trans N5).at (aA (H:=G2) (a:=l1') (o:=.lst [.int 1]));have f2:=((N3.trans N4).trans N5).at (aA (H:=Xz G2 l1' 3e20) (a:=l2') (o:=.lst [.XB,.int 2]));have f3:=(N4.trans N5).at (aA (H:=Xz 4e20 l2' 5e20) (a:=l3') (o:=.lst [.int 0]));have f4:=N5.at (aA (H:=Xz 6e20 l3' 9e16) (a:=l4') (o:=.lst [.int 3,.int 1]));have f5:=aA (H:=Xz (Xz 6e20 l3' 9e16) l4' 3e36) (a:=l5') (o:=.lst [.ref l1',.ref l2',.ref l3',.ref l4']);have NA:=(((N1.trans N2).trans N3).trans N4).trans N5;generalize Xz (Xz (Xz 6e20 l3' 9e16) l4' 3e36) l5' (.lst [.ref l1',.ref l2',.ref l3',.ref l4'])=GW at *;refine⟨a,ns,1,rfl,NA.same.seq hS,by decide,λz=>?_⟩
   exists f5
   refine⟨⟨by decide,by decide⟩,?_⟩;have g0:0<=z / 4 % 4:=Θ2 _ 3e0;have g1':z / 4 % 4 < 4:=Ζ1 _ 3e0;have w1:∀i:Int,-1000000000<=i->i<=1000000000->cL (some i):=λi h1 h2=>iT h1 h2;have w0:cL none:=lR;rcases(show z / 4 % 4=0\/z / 4 % 4=1\/z / 4 % 4=2\/z / 4 % 4=3 by omega) with e|e|e|e
   ·rw[e];exact fin l1' (some 1) [] GW f1 3e0 (λw hw=>by rw[Τ.mp hw];exact w1 1 3e0 3e0) NA
   ·rw[e];exact fin l2' none [some 2] GW f2 3e0 (λw hw=>by rcases Ε.mp hw with rfl|hw;exact w0;rw[Τ.mp hw];exact w1 2 3e0 3e0) NA
   ·rw[e];exact fin l3' (some 0) [] GW f3 3e0 (λw hw=>by rw[Τ.mp hw];exact w1 0 3e0 3e0) NA
   ·rw[e];exact fin l4' (some 3) [some 1] GW f4 3e0 (λw hw=>by rcases Ε.mp hw with rfl|hw;exact w1 3 3e0 3e0;rw[Τ.mp hw];exact w1 1 3e0 3e0) NA
  intro wl w0 ws G3 ew lw hw K3;have W:In38 G3 p1 p2 wl X5 X4 b c w0 ws:=⟨K3.at e1,s1.kp 1e43,K3.at e2,s2.kp 1e43,ew⟩;replace hS:=K3.same.seq hS;clear K3 e1 s1 e2 s2 ew;refine hR4 _ _ ?_;clear hR4 R4;left;wp_walk;refine⟨a,ns,1,rfl,hS,by decide,λz=>?_⟩;wp_walk;refine⟨⟨by decide,by decide⟩,?_⟩;have g0:0<=z / 16 % 5:=Θ2 _ 3e0;have g5:z / 16 % 5 < 5:=Ζ1 _ 3e0;obtain⟨n,en,hn⟩:∃n:Nat,4+z / 16 % 5=(n:Int)/\n<=8:=⟨(4+z / 16 % 5).toNat,by omega,by omega⟩;rw[en];clear en g0 g5;right;left;wp_walk;intro kl hkl;have N6:=q0D (o:=.lst []) hkl;replace W:=W.kp N6;replace hS:=N6.same.seq hS;refine⟨p1,p2,wl,kl,X5,X4,b,c,w0::ws,n,rfl,W.e1,W.s1,W.e2,W.s2,gb,gc,by omega,lc,W.ew,by rw[Κ];omega,hw,aA,hn,λv G4 rv K4=>?_⟩;replace W:=W.kp K4;replace hS:=K4.same.seq hS;clear N6 hkl K4;wp_walk;right;left;wp_walk;refine⟨p1,p2,wl,X5,X4,b,c,w0,ws,n,rfl,W.e1,W.s1,W.e2,W.s2,gb,gc,by omega,lc,W.ew,lw,hw,hn,λu G5 ru K5=>?_⟩;replace W:=W.kp K5;replace hS:=K5.same.seq hS;replace rv:=rv.kp K5;clear K5;obtain⟨a1,a2,rfl,rfl,rc⟩:=Tu (K:=K) rv ru;wp_walk;refine⟨_,rc,?_⟩;rw[if_neg 0e0];clear rc ru;cases aaD:rnd b c 6e2 n [[.XS 0 w0]] [] with
  | parts row =>
   have hrv:pY G5 2e27 (.parts row):=by rw[<- aaD];exact rv
   obtain⟨_,l,us,ez,et,el,hH⟩:=hrv;cases ez;have hp:=Bo (ws:=w0::ws) gb.nb gc.nb n 1 (λx hx=>by rw[Τ.mp hx];exact⟨.one rfl,rfl⟩) aaD;right;left
   exists et
   exact⟨p1,p2,l,wl,X5,X4,us,b,c,w0,ws,row,rfl,W.e1,W.s1,W.e2,W.s2,gb,gc,el,hH,W.ew,hw,hp.1,hp.2.1,by have:=hp.2.2;omega,λH' _=>q H'⟩
  | never m =>
   have hrv:pY G5 2e27 (.never m):=by rw[<- aaD];exact rv
   obtain⟨_,ez,et⟩:=hrv;cases ez;obtain⟨met,_,clo⟩:=Bn (ws:=w0::ws) gb.nb gc.nb n NU aaD;right;left
   exists et
   right;left
   exists et
   refine⟨_,hS,λq2 m2=>?_⟩;obtain⟨ms2,em2,lm2⟩:=Gn ns 6 46;rw[show((6:Nat):Int)=6 from rfl,show((46:Nat):Int)=46 from rfl] at em2;rw[em2];have N2:=q0D (o:=.lst 5e22) m2;have ZW:Xz G5 q2 6e22 q2=some 6e22:=aA;replace W:=W.kp N2;generalize Xz G5 q2 6e22=G6 at *;refine⟨p1,p2,wl,q2,X5,X4,b,c,w0,ws,ms2,met,rfl,W.e1,W.s1,W.e2,W.s2,gb,gc,W.ew,lw,hw,clo,ZW,by omega,λG7 K7=>?_⟩;replace W:=W.kp K7;have e7:=K7.at ZW
   exists e7
   unfold VS;wp_walk;refine⟨q2,_,2,rfl,c5.of e7,rfl,by decide,λys p9 hy ly h9=>?_⟩;obtain⟨ks,rfl⟩:=GR hy;have N9:=q0D (o:=.lst (ks.map V.int)) h9;replace W:=W.kp N9;rw[Δ,Δ] at ly;exact⟨p1,p2,wl,p9,X5,X4,b,c,w0,ws,ks,met,rfl,W.e1,W.s1,W.e2,W.s2,gb,gc,W.ew,lw,hw,clo,aA,by omega,λH' _=>q H'⟩
  | no =>
   have hrv:pY G5 2e27 .no:=by rw[<- aaD];exact rv
   obtain⟨_,ez,et⟩:=hrv;cases ez;right;left
   exists et
   right;left
   exists et
   right;wp_walk;exact q _
end
end
def Nu{q:Program}{K:Params->q0B}{t:Nat}{r:PySem.W.RowW}{d:DefRec}{kwd:List (Str×Expr)}{run:Value->List Value->Sem Value}(e:∀P:Params,as=List.map (λx=>x.fst) (K P))(H:PySem.W.WalkO q loose XP (PySem.W.kHook K as e).says r d kwd run):PySem.W.WalkX q loose XP (PySem.W.X.obsZ as) (PySem.W.X.valZ K n t) r d kwd run:=λw s₀ s₁ mg mb G y a o pm cd doc dV kV h1 h2 h3 h4 h5 h6 args vals bs L=>by
 obtain⟨_,f,_,_⟩:=PySem.W.X.z_facts e y;exact H w s₀ s₁ mg mb G (show PySem.W.InK K w s₁.heap from λp ob hp=>L.keeps _ _ (f p ob hp)) a o pm cd doc dV kV h1 h2 h3 h4 h5 h6 args vals bs
section
open PySem.W
mutual
example:=[.ref aP,.ref aE,.ref aO,some (.builtin "object.__setattr__"),(.cons ⟨_,rfl⟩ .nil),some (.ref f22),Option Value]
theorem Q8{l:OpenLaw}{K:Frag}{h:Heap}{fa:Addr}(X:K.In h)(G:h.Ns mainGlobals mg)(hfa:mg "law"=some (.ref fa)){f0 f1 f2 f3 f4 f5 f6 f7 f8 f9 f10 f11 f12 f13 f14 f15 f16 f17 f18 f19 f20 f21 f22 f23 f24 f25 f26 f27 f28 f29 f30 f31 f32 f33 f34 f35 f36 f37 f38 f39 f40 f41 f42 f43 f44 f45 f46 f47 f48 f49 f50 f51 f52 f53 f54 f55 f56 f57 f58 f59 f60 f61:Addr}{d0 d1 d2 d3 d4 d5 d6 d7 d8 d9 d10 d11 d12 d13 d14 d15 d16 d17 d18 d19 d20 d21 d22 d23 d24 d25 d26 d27 d28 d29 d30 d31 d32 d33 d34 d35 d36 d37 d38 d39 d40 d41 d42 d43 d44 d45 d46 d47 d48 d49 d50 d51 d52 d53 d54 d55 d56 d57 d58 d59 d60 d61:FuncData}{aE:Addr}{aO:Addr}{aP:Addr}{tk0:Tok}{tk1:Tok}{tk2:Tok}{Z7:Addr}{te3:Array DictEntry}{tn3:Nat}{tp4:Addr}{td4:Option Addr}{tn4:Nat}{ts4:Array 6e0}{acH acI acJ:Tok}{tp5:Addr}{td5:Option Addr}{tn5:Nat}{ts5:Array 6e0}{acK:Tok}(ZE:nsIn K mainGlobals "Tickets"=some (some 1e0))(ZP:plainGet K aE Str.empty=true)(ZH:hasDictIn K aE=true)(ZQ:plainOver K aE=true)(ZT:findIn K 1e0 "__setattr__"=some 3e0)(uB:makesIn K aE=true)(ZN:keepIn K 1e0=true)(aaZ:nsIn K mainGlobals "Walk"=some (some 2e0))(abC:plainGet K aO Str.empty=true)(aa4:hasDictIn K aO=true)(abD:plainOver K aO=true)(abE:findIn K 2e0 "__setattr__"=some 3e0)(EX:makesIn K aO=true)(abA:keepIn K 2e0=true)(abH:nsIn K mainGlobals "Run"=some (some 0e0))(ab8:plainGet K aP Str.empty=true)(abS:hasDictIn K aP=true)(ab9:plainOver K aP=true)(acC:findIn K 0e0 "__setattr__"=some 3e0)(sO:makesIn K aP=true)(abZ:keepIn K 0e0=true)(F0:Gf0 K "kept" MG f0 d0)(F1:Gf0 K "worth_of" By f1 d1)(F2:Gf0 K "joined" DW f2 d2)(F3:Gf0 K "number_of" zO f3 d3)(F4:Gf0 K "one_or_nought" qI f4 d4)(F5:Gm0 K aE "__init__" "Tickets.__init__" qE f5 d5)(F6:Gm0 K aE "make" "Tickets.make" qF f6 d6)(F7:Gm0 K aE "is_open" "Tickets.is_open" nC f7 d7)(F8:Gm0 K aE "those_open" "Tickets.those_open" kC f8 d8)(F9:Gm0 K aE "finish" "Tickets.finish" m9 f9 d9)(F10:Gm0 K aE "shut" "Tickets.shut" qG f10 d10)(F11:Gm0 K aE "shut_all" "Tickets.shut_all" lZ f11 d11)(F12:Gm0 K aE "first_done" "Tickets.first_done" kA f12 d12)(F13:Gm0 K aO "__init__" "Walk.__init__" zK f13 d13)(F14:Gm0 K aO "come_to" "Walk.come_to" tE f14 d14)(F15:Gm0 K aO "stands_at" "Walk.stands_at" oT f15 d15)(F16:Gm0 K aO "pass_by" "Walk.pass_by" tF f16 d16)(F17:Gm0 K aO "enter" "Walk.enter" vD f17 d17)(F18:Gm0 K aO "leave" "Walk.leave" vE f18 d18)(F19:Gm0 K aO "place" "Walk.place" vF f19 d19)(F20:Gm0 K aO "go_to" "Walk.go_to" zJ f20 d20)(F21:Gf0 K "do_set" Hu f21 d21)(F22:Gf0 K "do_order" Bu f22 d22)(F23:Gf0 K "do_timer" Bv f23 d23)(F24:Gf0 K "do_send" DU f24 d24)(F25:Gf0 K "do_drop" DS f25 d25)(F26:Gf0 K "do_wait" DV f26 d26)(F27:Gf0 K "do_hear" DT f27 d27)(F28:Gf0 K "do_end" Ht f28 d28)(F29:Gm0 K aP "__init__" "Run.__init__" Bq f29 d29)(F30:Gm0 K aP "open_tickets" "Run.open_tickets" lY f30 d30)(F31:Gm0 K aP "state" "Run.state" zH f31 d31)(F32:Gm0 K aP "take" "Run.take" Bs f32 d32)(F33:Gm0 K aP "passes_over" "Run.passes_over" mY f33 d33)(F34:Gm0 K aP "take_done" "Run.take_done" qD f34 d34)(F35:Gm0 K aP "take_letter" "Run.take_letter" mZ f35 d35)(F36:Gm0 K aP "wake" "Run.wake" Bt f36 d36)(F37:Gm0 K aP "go_on" "Run.go_on" Bp f37 d37)(F38:Gm0 K aP "do_one" "Run.do_one" zG f38 d38)(F39:Gm0 K aP "look" "Run.look" Br f39 d39)(F40:Gm0 K aP "end" "Run.end" DR f40 d40)(F41:Gm0 K aP "wear_out" "Run.wear_out" sZ f41 d41)(F42:Gm0 K aP "worth" "Run.worth" zI f42 d42)(F43:Gm0 K aP "new_ticket" "Run.new_ticket" oS f43 d43)(F44:Gf0 K "run_at" Hv f44 d44)(F45:Gf0 K "parting_row" tH f45 d45)(F46:Gf0 K "happenings_behind" kD f46 d46)(F47:Gf0 K "tickets_open" qJ f47 d47)(F48:Gf0 K "step" MH f48 d48)(F49:Gf0 K "_law_cell_at" vG f49 d49)(F50:Gf0 K "_law_row" DY f50 d50)(F51:Gf0 K "_law_take" Bx f51 d51)(F52:Gf0 K "_law_saying" vH f52 d52)(F53:Gf0 K "_law_statement" oU f53 d53)(F54:Gf0 K "_law_block" zL f54 d54)(F55:Gf0 K "_law_plain" zN f55 d55)(F56:Gf0 K "_law_changed" tG f56 d56)(F57:Gf0 K "_law_flat" Bw f57 d57)(F58:Gf0 K "_law_due" DX f58 d58)(F59:Gf0 K "_law_row_right" qH f59 d59)(F60:Gf0 K "_law_never" zM f60 d60)(F61:Gf0 K "law" QE f61 d61)(qY:findIn K 1e0 "made"=some none)(fF:findIn K 1e0 "pending"=some none)(eZ:findIn K 1e0 "answers"=some none)(iU:findIn K 2e0 "blocks"=some none)(dE:findIn K 2e0 "numbers"=some none)(i6:findIn K 0e0 "walk"=some none)(cX:findIn K 0e0 "sleep"=some none)(yR:findIn K 0e0 "arg"=some none)(qB:findIn K 0e0 "now"=some none)(fE:findIn K 0e0 "names"=some none)(bR:findIn K 0e0 "tickets"=some none)(fD:findIn K 0e0 "letters"=some none)(v0:nsIn K mainGlobals "GREATEST_WORTH"=some (some (.int 1000000000 tk0)))(v1:nsIn K mainGlobals "GREATEST_MOMENT"=some (some (.int 1000000000000 tk1)))(v2:nsIn K mainGlobals "MOST_AT_ONCE"=some (some (.int 300 tk2)))(v3:nsIn K mainGlobals "DEEDS"=some (some (.ref Z7)))(u3:K.lookup Z7=some {cls:=.type "dict",data:=.dict te3 tn3})(adI:nsIn K Z7 "set"=some (some (.ref f21)))(adJ:nsIn K Z7 "order"=some 5e0)(adK:nsIn K Z7 "timer"=some (some (.ref f23)))(adL:nsIn K Z7 "child"=some 5e0)(adM:nsIn K Z7 "send"=some (some (.ref f24)))(adN:nsIn K Z7 "drop"=some (some (.ref f25)))(adO:nsIn K Z7 "wait"=some (some (.ref f26)))(adP:nsIn K Z7 "hear"=some (some (.ref f27)))(adQ:nsIn K Z7 "end"=some (some (.ref f28)))(v4:nsIn K mainGlobals "SHORT_STATES"=some (some (.ref tp4)))(u4:K.lookup tp4=some ⟨.type "tuple",td4,.seq #[.str "new" acH,.str "ended" acI,.str "worn" acJ] tn4,ts4⟩)(v5:nsIn K mainGlobals "NEW"=some (some (.ref tp5)))(u5:K.lookup tp5=some ⟨.type "tuple",td5,.seq #[.str "new" acK] tn5,ts5⟩)(BG:nsIn K mainGlobals "dict"=some none)(rE:nsIn K mainGlobals "len"=some none)(Nw:nsIn K mainGlobals "list"=some none)(Nx:nsIn K mainGlobals "max"=some none)(Qb:nsIn K mainGlobals "min"=some none)(rF:nsIn K mainGlobals "range"=some none)(uU:nsIn K mainGlobals "reversed"=some none)(FR:nsIn K mainGlobals "set"=some none)(jT:nsIn K mainGlobals "sorted"=some none)(iH:nsIn K mainGlobals "tuple"=some none)(kl3:KeysLit w.params te3.toList) : ∃fd:FuncData,(∀(s:Shared) (v:Value),BindsTo s fd ⟨[v],[]⟩ [("script",v)])/\∀base:Heap,K.In base->base.Ns mainGlobals mg->fJ l.prog w K mg base Yr 40 fa fd ["script"] (HD K):=by
 have e:=hfa.symm.trans (mg_of X G F61.a);cases e;refine⟨d61,?_,λbase _ _=>S6 (?_:Tx l.prog w base K mg ⟨f0,d0,f1,d1,f2,d2,f3,d3,f4,d4,f5,d5,f6,d6,f7,d7,f8,d8,f9,d9,f10,d10,f11,d11,f12,d12,f13,d13,f14,d14,f15,d15,f16,d16,f17,d17,f18,d18,f19,d19,f20,d20,f21,d21,f22,d22,f23,d23,f24,d24,f25,d25,f26,d26,f27,d27,f28,d28,f29,d29,f30,d30,f31,d31,f32,d32,f33,d33,f34,d34,f35,d35,f36,d36,f37,d37,f38,d38,f39,d39,f40,d40,f41,d41,f42,d42,f43,d43,f44,d44,f45,d45,f46,d46,f47,d47,f48,d48,f49,d49,f50,d50,f51,d51,f52,d52,f53,d53,f54,d54,f55,d55,f56,d56,f57,d57,f58,d58,f59,d59,f60,d60,fa,d61,tk0,tk1,tk2,Z7,tp4,tp5,aE,aO,aP⟩)⟩
 ·obtain⟨_,_,_,_,_,_,_,_,_,rfl,_⟩:=F61.F.ex;exact λs v=>.of_eq rfl
 ·exact⟨(F0.go X G),(F1.go X G),(F2.go X G),(F3.go X G),(F4.go X G),F5.go,F6.go,F7.go,F8.go,F9.go,F10.go,F11.go,F12.go,F13.go,F14.go,F15.go,F16.go,F17.go,F18.go,F19.go,F20.go,(F21.go X G),(F22.go X G),(F23.go X G),(F24.go X G),(F25.go X G),(F26.go X G),(F27.go X G),(F28.go X G),F29.go,F30.go,F31.go,F32.go,F33.go,F34.go,F35.go,F36.go,F37.go,F38.go,F39.go,F40.go,F41.go,F42.go,F43.go,(F44.go X G),(F45.go X G),(F46.go X G),(F47.go X G),(F48.go X G),(F49.go X G),(F50.go X G),(F51.go X G),(F52.go X G),(F53.go X G),(F54.go X G),(F55.go X G),(F56.go X G),(F57.go X G),(F58.go X G),(F59.go X G),(F60.go X G),(F61.go X G),⟨ZP,ZH,ZQ,ZT⟩,(mg_of X G ZE),⟨uB,F5.a,F5.i,ZN⟩,⟨abC,aa4,abD,abE⟩,(mg_of X G aaZ),⟨EX,F13.a,F13.i,abA⟩,⟨ab8,abS,ab9,acC⟩,(mg_of X G abH),⟨sO,F29.a,F29.i,abZ⟩,qY,fF,eZ,iU,dE,i6,cX,yR,qB,fE,bR,fD,(mg_of X G v0),(mg_of X G v1),(mg_of X G v2),(mg_of X G v3),⟨_,_,u3,kl3⟩,adI,adJ,adK,adL,adM,adN,adO,adP,adQ,(mg_of X G v4),(λH=>.inr ⟨_,_,_,u4,rfl,rfl,(by show 3<=sizeLine;decide),(.cons ⟨_,rfl⟩ (.cons ⟨_,rfl⟩ 4e0))⟩),(mg_of X G v5),(λH=>.inr ⟨_,_,_,u5,rfl,rfl,(by show 1<=sizeLine;decide),4e0⟩),(mg_none_of X G BG),(mg_none_of X G rE),(mg_none_of X G Nw),(mg_none_of X G Nx),(mg_none_of X G Qb),(mg_none_of X G rF),(mg_none_of X G uU),(mg_none_of X G FR),(mg_none_of X G jT),(mg_none_of X G iH)⟩
end
end
theorem walk{l:PySem.W.OpenLaw}{q:Program}{YP:World->Heap->Prop}{d:DefRec}{K:Params->q0B}(hn:l.most=some 63)(hdf:d.params.defaults=[])(hY:∀(w:World) (h:Heap),YP w h->(K w.params).In h)(F:∀(w:World) (mg:q0C) (fa:Addr) (h:Heap),(K w.params).In h->h.Ns mainGlobals mg->mg d.name=some (.ref fa) -> ∃fd:FuncData,(∀(s:Shared) (u:Value),BindsTo s fd ⟨[u],[]⟩ [("script",u)])/\∀base:Heap,(K w.params).In base->base.Ns mainGlobals mg->fJ l.prog w (K w.params) mg base Yr 40 fa fd ["script"] (HD (K w.params))) : PySem.W.WalkO q loose XP YP l.row.toRowW d [] (λf vs=>PySem.call f vs) :=
 L2.Qa (n:=63) (k:=40) (x:="script") (CX:=λ_=>Yr) (sp:=λw=>HD (K w.params)) hn (by decide) hdf ⟨rfl,by decide,by decide⟩ hY F (λ_ _ a ns hl _ hS=>⟨a,ns,rfl,hS,hl,λ_=>rfl⟩) λ_ _ _ _ _ z=>z
end Own
open PySem PySem.W PyProof.Rows
set_option maxRecDepth 100000 in
set_option maxHeartbeats 0 in
theorem PySem.Challenge.cw_outlast_k38_whole_never_is_never_holds : PySem.Challenge.rw_outlast_k38_whole_never_is_never.Holds := by
 w_on;o_law;z_head;(case hw=>w_witness2)
 k_fill
 refine Own.Nu (λ_=>rfl) ?_;refine Own.walk (l:=PySem.Challenge.rw_outlast_k38_whole_never_is_never) rfl rfl (λw h Y=>PySem.W.kIn_of Y) ?F
 case F =>
  intro w mg fa h KX G hmg;apply Own.Q8 KX G hmg
  iterate 123 (first|(apply Own.Vr<;>k_is)|(apply Own.Vs<;>k_is)|k_is)
  exact⟨⟨_,_,rfl,rfl⟩,⟨_,_,rfl,rfl⟩,⟨_,_,rfl,rfl⟩,⟨_,_,rfl,rfl⟩,⟨_,_,rfl,rfl⟩,⟨_,_,rfl,rfl⟩,⟨_,_,rfl,rfl⟩,⟨_,_,rfl,rfl⟩,⟨_,_,rfl,rfl⟩,trivial⟩
