import PyProof.Rows.All
import Wide.All
import OpenK.AllK
import Wide.FinOn
import Lean
import PyProof.EqAt
import PyProof.EqKinds
import PyProof.TupleCall
import PySem.Challenge.RW_outlast_k17_whole_any_program
set_option Elab.async false
set_option linter.all false
set_option compiler.extract_closed false
set_option bootstrap.genMatcherCode false
set_option genSizeOf false
set_option maxRecDepth 100000
local macro_rules | `(tactic| omega) => `(tactic| first | assumption | lia | omega +splitDisjunctions)
noncomputable section
namespace PySem.W.Fast
def tw8992326113365201863:=Nat
def tw17185148026973328255:=Nat
def tw12915630027362633564:=Nat
def tw12705928883425861093:=Nat
def tw3394483471990727624:=Nat
def tw1824096238555956691:=Nat
def tw17579780239705148392:=Nat
def tw950140551410974082:=Nat
def tw6830713183188620317:=Nat
def tw183336350607443510:=Nat
def tw11916776652978230110:=Nat
def tw8651188376661797071:=Nat
def tw10179987490567616873:=Nat
def tw5779312607857722454:=Nat
def tw4348537521346492996:=Nat
def tw10249570128308995444:=Nat
def tw7377690148834813476:=Nat
def tw15597728239265279347:=Nat
def tw1559661115046064110:=Nat
def tw7827105809635472182:=Nat
def tw4759998310378342118:=Nat
def tw16607000571479230378:=Nat
def tw16489068819447862381:=Nat
def tw18022127976602565547:=Nat
def tw2799225601369928966:=Nat
def tw10376345448519440594:=Nat
def tw6460661804419965363:=Nat
def tw16501604524388165912:=Nat
def tw11831393466209482116:=Nat
def tw16379605496895690616:=Nat
def tw2226530753228862567:=Nat
def tw15456830754094139918:=Nat
def tw15533392272526321165:=Nat
def tw15638943657334762921:=Nat
def tw6470872681784745850:=Nat
def tw10356147098833071273:=Nat
def tw4670522872706374495:=Nat
def tw17167496060089643180:=Nat
def tw6882604295719366872:=Nat
def tw10956658219916314002:=Nat
def tw10022648757365423953:=Nat
def tw17394732767323072248:=Nat
def tw14716069253414804503:=Nat
def tw18146912836841161436:=Nat
def tw6445986867723002345:=Nat
def tw6685936507427148748:=Nat
def tw8461353267087749004:=Nat
def tw16075958595927379176:=Nat
def tw16238864128284629234:=Nat
def tw7222298393079008074:=Nat
def tw1225685736200360229:=Nat
def tw15789053866210254368:=Nat
def tw1663074654345529684:=Nat
def tw12463340238291226215:=Nat
def tw12239841977129135988:=Nat
def tw16784291106095782899:=Nat
def tw3905723897552240482:=Nat
def tw15077571272531954993:=Nat
def tw2634042176609736569:=Nat
def tw5652530241915474117:=Nat
def tw6135931849754676122:=Nat
def tw1032146722339763878:=Nat
def tw1735555703719361669:=Nat
def tw14564460571237058232:=Nat
def tw2538447360020341498:=Nat
def tw3089775835070397623:=Nat
def tw16677465113367105940:=Nat
def tw3142503103280387314:=Nat
def tw7064368662684416485:=Nat
def tw11268678214784847376:=Nat
def tw15015264654556482072:=Nat
def tw8312966316386340602:=Nat
def tw16827730533274078718:=Nat
def tw12707049955688141404:=Nat
def tw11353624679268209139:=Nat
def tw11285001329743292:=Nat
def tw13378452890204461916:=Nat
def tw7036362583888870499:=Nat
def tw3773303659767137055:=Nat
def tw203522886508194162:=Nat
def tw6746311283216525662:=Nat
def tw15871166153815141819:=Nat
def tw15374789848812344578:=Nat
def tw9394176229412163172:=Nat
def tw557120902298237636:=Nat
def tw9810036028965678607:=Nat
def tw17231516997948509640:=Nat
def tw12270234751856478351:=Nat
def tw5427471527147216943:=Nat
def tw877658175738230541:=Nat
def tw15497730405781180765:=Nat
def tw9242568704156276303:=Nat
def tw4004577233194693849:=Nat
def tw11934290142887938904:=Nat
def tw9748062103328529824:=Nat
def tw5135580295377136503:=Nat
def tw15250343875470219826:=Nat
def tw17951588838734490483:=Nat
def tw10735728696762255107:=Nat
def tw6484656356999431794:=Nat
def tw15848606734774204370:=Nat
def tw6578301776762402177:=Nat
def tw5572192921350458784:=Nat
def tw18261016200181299245:=Nat
def tw11666527940062960642:=Nat
def tw14986388385170389657:=Nat
def tw4541691338448082034:=Nat
def tw8041465849302275471:=Nat
def tw6505724327105302669:=Nat
def tw6628408412469293214:=Nat
def tw16749573259370434278:=Nat
def tw43392696295343938:=Nat
def tw14693768599125254893:=Nat
def tw12002579024778612592:=Nat
def tw14140418236206624847:=Nat
def tw13999594333201217132:=Nat
def tw15573319118877788260:=Nat
def tw13889744530760775552:=Nat
def tw15585334548000089063:=Nat
def tw13914589199339924563:=Nat
def tw2032254012990602867:=Nat
def tw11034299916169162560:=Nat
def tw8247457190203362996:=Nat
def tw12520461497012624886:=Nat
def tw11948718872938818750:=Nat
def tw8546787914561488118:=Nat
def tw7003237388529901337:=Nat
def tw11745383629117270430:=Nat
def tw11600151104527761734:=Nat
def tw8910603331601519536:=Nat
def tw7373488600470130671:=Nat
def tw11412078926387071760:=Nat
def tw7951606941422217390:=Nat
def tw850446925480013399:=Nat
def tw11694517303180346101:=Nat
def tw18369463192517318231:=Nat
def tw1885053707163260890:=Nat
def tw10992459120425876697:=Nat
def tw15792606011802528194:=Nat
def tw13982190411824959179:=Nat
def tw5815597214433906541:=Nat
def tw14361846644603939171:=Nat
def tw10157191254318225154:=Nat
def tw12268775167175102526:=Nat
def tw2694345462914548513:=Nat
def tw7365511266493059342:=Nat
def tw9044298350632040406:=Nat
def tw12453038582999312145:=Nat
def tw5598953460472333001:=Nat
def tw13142849602345992232:=Nat
def tw14715960744484294619:=Nat
def tw8859862857615214247:=Nat
def tw13271264599786542249:=Nat
def tw3081099560718040178:=Nat
def tw17049847851896491862:=Nat
def tw16359515021986959724:=Nat
def tw3103765133234211463:=Nat
def tw8769494342257897757:=Nat
def tw502910948387185737:=Nat
def tw15899352010535150880:=Nat
def tw4713054793228520209:=Nat
def tw363159693280478996:=Nat
def tw11158448808256407966:=Nat
def tw14766656165065327741:=Nat
def tw15203376129592772561:=Nat
def tw14410488482654784502:=Nat
def tw4996863846773267019:=Nat
def tw6282142889090665795:=Nat
def tw731209806487505989:=Nat
def tw10464027173115225478:=Nat
def tw6511529252156510175:=Nat
def tw5675279060170869343:=Nat
def tw12930655668973641526:=Nat
def tw2980101312502257462:=Nat
def tw7310718504781166143:=Nat
def tw6674399276169678188:=Nat
def tw15980650690167458653:=Nat
def tw15224996739315020300:=Nat
def tw10519036028938642866:=Nat
def tw10526626833165148559:=Nat
def tw12387285412257913603:=Nat
def tw8837358119016672699:=Nat
def tw7924290489404999442:=Nat
def tw7734006345005156264:=Nat
def tw9686204198703377656:=Nat
def tw13003877794018859580:=Nat
def tw1227334205758213382:=Nat
def tw7474022395563105021:=Nat
def tw17044774218338076317:=Nat
def tw9277079809939269758:=Nat
def tw8410230253956166365:=Nat
def tw13889302120403903536:=Nat
def tw8890582106178502545:=Nat
def tw1232746879815930630:=Nat
def tw13841472127178848656:=Nat
def tw11392038337467147735:=Nat
def tw17283988865937581603:=Nat
def tw16604029436102853701:=Nat
def tw14658720623103396361:=Nat
def tw2104027065224321675:=Nat
def tw4021943512768015361:=Nat
def tw8384454805749191558:=Nat
def tw5805362637071523340:=Nat
def tw11807214881116328364:=Nat
def tw16717435631447329766:=Nat
def tw1532334275668360001:=Nat
def tw13238025212545994362:=Nat
def tw18251897395317957497:=Nat
def tw16472459432311321600:=Nat
def tw2164574931507602409:=Nat
def tw2146033179309839204:=Nat
def tw18234983386522075459:=Nat
def tw10689499518059825943:=Nat
def tw10980986793356718441:=Nat
def tw8555962076340965112:=Nat
def tw11409921357936909872:=Nat
def tw15218849418988600038:=Nat
def tw14775737058798181271:=Nat
def tw4290670069447239716:=Nat
def tw4015712945691600977:=Nat
def tw10467726829323338078:=Nat
def tw6916068975322540200:=Nat
def tw12335492112307890983:=Nat
def tw12299960419747953566:=Nat
def tw6135542269815245235:=Nat
def tw6827876512192603540:=Nat
def tw6666367001974152015:=Nat
def tw1368302668132513892:=Nat
def tw10444694028287096647:=Nat
def tw12681117594335028742:=Nat
def tw952966052243368760:=Nat
def tw8169271954426993483:=Nat
def tw2634349787606464328:=Nat
def tw12312185361713782532:=Nat
def tw8441260854912773899:=Nat
def tw3529357195565068112:=Nat
def tw16351219650261729508:=Nat
def tw1763340922568445530:=Nat
def tw2166286244931912698:=Nat
def tw15912962667507888294:=Nat
def tw15338620463013940872:=Nat
def tw17350945727459356386:=Nat
def tw17064264794381965476:=Nat
def tw13556176759059168226:=Nat
def tw1887613938856363716:=Nat
def tw7573470589558795674:=Nat
def tw4388583675651060090:=Nat
def tw4618115747391590054:=Nat
def tw9828154031433601880:=Nat
def tw6400461797344660274:=Nat
def tw442363091110117095:=Nat
def tw3180383389494700390:=Nat
def tw12055083403075712451:=Nat
def tw8501400205636066158:=Nat
def tw4882011058643255937:=Nat
def tw202934280061907447:=Nat
def tw10302926302343674946:=Nat
def tw3283354236864207414:=Nat
def tw17523134502704219113:=Nat
def tw11623492181554437984:=Nat
def tw10505475368972383625:=Nat
def tw6025400544363514302:=Nat
def tw2412032848781943430:=Nat
def tw5302123594369137221:=Nat
def tw5244459176701442588:=Nat
def tw1699647022998746258:=Nat
def tw16560118976225369178:=Nat
def tw14509506149082699754:=Nat
def tw8982391352143929807:=Nat
def tw319204019581693135:=Nat
def tw16376453348525385102:=Nat
def tw1304409030048023741:=Nat
def tw3271573453393485654:=Nat
def tw2199689690578751144:=Nat
def tw14171011699723410359:=Nat
def tw10111089566272143003:=Nat
def tw7503476504264072562:=Nat
def tw4097717204132923832:=Nat
def tw12305493744119631464:=Nat
def tw10645924243376876732:=Nat
def tw3001144325584479002:=Nat
def tw16160650607762409322:=Nat
def tw16883461456407871490:=Nat
def tw1556704774670860101:=Nat
def tw16142958238462583809:=Nat
def tw5677801077804936743:=Nat
def tw3321802155241994999:=Nat
def tw17958945240682808982:=Nat
def tw17280948839775968195:=Nat
def tw16839658509167865704:=Nat
def tw14118062701513749339:=Nat
def tw11452173987975195571:=Nat
def tw10711375620320469267:=Nat
def tw9128039964270638688:=Nat
def tw6487073124245916104:=Nat
def tw16886741844086246388:=Nat
def tw12128700991188026220:=Nat
def tw12021596363821057962:=Nat
def tw994416046248571941:=Nat
def tw4777144445951454721:=Nat
def tw3340067329031050622:=Nat
def tw8310709743897316309:=Nat
def tw65550144191818289:=Nat
def tw9780871133411832766:=Nat
def tw8049548611873251779:=Nat
def tw10522915332498013006:=Nat
def tw5689166982515682900:=Nat
def tw17814535036192262533:=Nat
def tw5962840592554862806:=Nat
def tw5084298759173932181:=Nat
def tw13649359291031024847:=Nat
def tw10955685056505591432:=Nat
def tw17705355480310358165:=Nat
def tw10286638294150926656:=Nat
def tw8091248825045949373:=Nat
def tw4235794118918453084:=Nat
def tw1186148904210179008:=Nat
def tw8682008211878140503:=Nat
def tw14660283092355765921:=Nat
def tw4019335692232005448:=Nat
def tw13260633951856610674:=Nat
def tw1215381751368930656:=Nat
def tw5270382028916253422:=Nat
def tw17485873082294762363:=Nat
def tw1448524207833640239:=Nat
def tw10612134918483220768:=Nat
def tw6713745146632120170:=Nat
def tw2904287573028500391:=Nat
def tw16062007273101652355:=Nat
def tw11748108741195770892:=Nat
def tw9212253854466659316:=Nat
def tw6763205627691460930:=Nat
def tw9854046469691236333:=Nat
def tw17643574297313269158:=Nat
def tw13444892818942993145:=Nat
def tw11064368638065484974:=Nat
def tw1044502581387902095:=Nat
def tw8750229055304988462:=Nat
def tw6529467168064794954:=Nat
def tw136010707145897789:=Nat
end PySem.W.Fast
abbrev q0A:=PySem.Value->PySem.Shared->Prop
abbrev q0B:=PySem.W.Frag
abbrev q0C:=PySem.Str->Option PySem.Value
set_option hygiene false in
local macro_rules
|`(1e0)=>`(by omega)
|`(1e1)=>`(by simp)
|`(1e2)=>`(model X.prog X.w)
|`(1e3)=>`(by intro _ z;cases z)
|`(1e4)=>`(pix aK pv1 aB)
|`(1e5)=>`(Nat.le_refl _)
|`(1e6)=>`(by decide)
|`(1e7)=>`(by intro z;cases z)
|`(1e8)=>`(by simp[OK6])
|`(1e9)=>`(pdg pv0 aC)
|`(1e10)=>`(.lst [])
|`(1e11)=>`(.ref a)
|`(1e12)=>`(pcl (bB T) T.bK (pa2 pv0 aB))
|`(1e13)=>`(Addr×Obj)
|`(1e14)=>`(bP X sc cl G2.objs.size N s H fp (X.pn++V9))
|`(1e15)=>`(model prog w)
|`(1e16)=>`(by simp[Rn.cells])
|`(1e17)=>`(.dK kvs)
|`(1e18)=>`(by decide +kernel)
|`(1e19)=>`(S.worth s)
|`(1e20)=>`(.lst xs)
|`(1e21)=>`(.ref p)
|`(1e22)=>`((bI S.pend ws).map V.int)
|`(1e23)=>`(.inl rfl)
|`(1e24)=>`(aO Wt (.inr "now") (.int (if m > S.nw then m else S.nw)))
set_option hygiene false in
local macro_rules
|`(1e25)=>`(fA (b8 S.nm x w))
|`(1e26)=>`(Heap.lt_size e)
|`(1e27)=>`(.dK (aO lk (.inr k) (.ref l2)))
|`(1e28)=>`(some y::aT fr σ)
|`(1e29)=>`(s.heap.objs.size+1)
|`(1e30)=>`(by with_unfolding_all rfl)
|`(1e31)=>`((k,b,n)::r)
|`(1e32)=>`(Str×List Wo)
|`(1e33)=>`(.ref s.heap.objs.size)
|`(1e34)=>`(x==("__debug__":Str))
|`(1e35)=>`(Key×V)
|`(1e36)=>`(aO kvs (.inr k) (.ref p2))
|`(1e37)=>`(by simpa using h)
|`(1e38)=>`(.lst (ws.map wv))
|`(1e39)=>`(new++[pe])
|`(1e40)=>`(.inr "at")
|`(1e41)=>`(fun _ h=>nomatch h)
|`(1e42)=>`(wpAny_pure ?_)
|`(1e43)=>`(EP X V9 σ Q)
|`(1e44)=>`(ha V9 s σ H _ I h)
|`(1e45)=>`((S.pend.filter fun j=>decide (j≠i)).map V.int)
|`(1e46)=>`(bV I q 1e1)
|`(1e47)=>`(pix aK pv0 aB)
|`(1e48)=>`(.lst [.str "jump",.Wb,.ref ph,.int ((as.length+new.length+bY b'+bY o'+2:Nat):Int)])
|`(1e49)=>`(tail rfl _ WA c us H' A' hc ec hC FF)
set_option hygiene false in
local macro_rules
|`(1e50)=>`(.lst [.str "while",.ref a0,.ref ph,.int ((as.length+new.length+bY b'+2:Nat):Int)])
|`(1e51)=>`(.lst [.str "if",.ref a0,.ref ph,.int ((as.length+new.length+bY b'+2:Nat):Int)])
|`(1e52)=>`(jQ t.aN R (sl) S.ar (later S.nw m))
|`(1e53)=>`(k _ _ e)
|`(1e54)=>`(.tup xs)
|`(1e55)=>`(some (S.made:Int))
|`(1e56)=>`(.lst (((as++1e39++Wx)++[pj]).map V.ref))
|`(1e57)=>`(Int×Wo)
|`(1e58)=>`(bP X sc cl C N s H ex pn)
|`(1e59)=>`(starEach es X.env)
|`(1e60)=>`(pmt pv0 T.aW (dI T) T.dG (pa1 1e4))
|`(1e61)=>`(ho V9 s σ H _ I h)
|`(1e62)=>`(.iff et (hS.kp (aE.nil KT)) (TT _ _ el) (Xb.kp TT) (TT _ _ eq2) (Yg.kp TT))
|`(1e63)=>`(ns.map V.int)
|`(1e64)=>`(pcl (cQ T 4) T.bR (pa2 pv0 aB))
namespace L2
open PySem PySem.Spec PyProof.Rows
variable{C a b:Addr}{A:Around}{g':Array GenState}{op:CmpOp}{c e tg:Expr}{fd:FuncData}{base h:Heap}{V9:List 1e13}{kw:List (Str×Value)}{ch fp:List Addr}{outer:List Env}{es:List Expr}{body:List Stmt}{ps:List Str}{us:List Value}{M:Model}{i k n t':Nat}{o:Obj}{pos:Pos}{P:Program}{scope:Scope}{pl:Sem Bool}{s s':Shared}{x:Str}{Q:Unit->Shared->Prop}{u:Value}{f:Value->Value->Sem Value}{w:World}{E:q0A}{K:q0B}{mg:q0C}
inductive Key where
 | inl (i:Int)|inr (x:Str)|no
 deriving DecidableEq
noncomputable def Ai:Key->Value->Bool
 | .inl k,v=>Value.isInt k v
 | .inr x,v=>Value.isStrOf x v
 | .no,.none=>true
 | .no,_=>false
noncomputable def VD(w:World):Key->Int
 | .inl k=>hashInt k
 | .inr x=>hashStr w x
 | .no=>reduceHash 0xFCA86420
theorem dW:∀ {k:Key} {v:Value},Ai k v=true->(∃ i t,k=Key.inl i/\v=Value.int i t)\/(∃ x t,k=Key.inr x/\v=Value.str x t)\/(k=Key.no/\v=Value.none)
 | .inl i,v,h=>by
  obtain⟨t,e⟩:=Value.isInt_shape (k:=i) (v:=v) h;exact .inl ⟨i,t,rfl,e⟩
 | .inr x,v,h=>by
  obtain⟨t,e⟩:=Value.isStrOf_shape (x:=x) (v:=v) h;exact .inr (.inl ⟨x,t,rfl,e⟩)
 | .no,v,h=>by
  cases v<;>first|exact .inr (.inr ⟨rfl,rfl⟩)|cases h
def HZ(i:Int)(t:Tok):Ai (.inl i) (.int i t)=true:=by simp[Ai,Value.isInt]
def H8(x:Str)(t:Tok):Ai (.inr x) (.str x t)=true:=by simp[Ai,Value.isStrOf]
theorem Q5(a b:Int):decide (Key.inl a=Key.inl b)=(a==b):=by
 by_cases e:a=b
 ·subst e;simp
 ·have h:¬ Key.inl a=Key.inl b:=fun q=>e (Key.inl.inj q);rw[decide_eq_false h];exact(beq_eq_false_iff_ne.mpr e).symm
theorem Q6(a b:Str):decide (Key.inr a=Key.inr b)=decide (a=b):=by
 by_cases e:a=b
 ·subst e;simp
 ·have h:¬ Key.inr a=Key.inr b:=fun q=>e (Key.inr.inj q);rw[decide_eq_false h,decide_eq_false e]
noncomputable def bJ(prog:Program)(w:World):PySem.KeyKind prog w Key where
 is:=Ai
 hash:=VD w
 inj:=fun v a b ha hb=>by
  rcases dW ha with⟨i,t,rfl,rfl⟩|⟨x,t,rfl,rfl⟩|⟨rfl,rfl⟩<;>rcases dW hb with⟨j,u,rfl,e⟩|⟨y,u,rfl,e⟩|⟨rfl,e⟩ <;>
   first|rfl|(cases e<;>rfl)
 byValue:=fun k v h=>by
  rcases dW h with⟨i,t,rfl,rfl⟩|⟨x,t,rfl,rfl⟩|⟨rfl,rfl⟩<;>rfl
 pyHash:=fun hv h=>by
  rcases dW hv with⟨i,t,rfl,rfl⟩|⟨x,t,rfl,rfl⟩|⟨rfl,rfl⟩
  ·exact wpAny_pyHash_int h
  ·exact wpAny_pyHash_str h
  ·exact PySem.W.pyHash_slot (T:="NoneType") rfl F.slot_NoneType_hash F.entry_NoneType_hash (F.args_NoneType_hash_1 _) (beq_builtin_none _) 1e23 (wpAny_bind (wpAny_pure (wpAny_bind (wpAny_mkInt (wpAny_pure ⟨_,_,rfl,h⟩)))))
 eqBool:=fun hu hv h=>by
  rcases dW hu with⟨i,t,rfl,rfl⟩|⟨x,t,rfl,rfl⟩|⟨rfl,rfl⟩<;>rcases dW hv with⟨j,u,rfl,rfl⟩|⟨y,u,rfl,rfl⟩|⟨rfl,rfl⟩
  ·rw[Q5] at h;exact wpAny_eqBool_int h
  ·exact SeqAt.EqAt.int_str i t y u _ _ _ _ h
  ·exact SeqAt.EqAt.int_none i t _ _ _ _ h
  ·exact SeqAt.EqAt.str_int x t j u _ _ _ _ h
  ·rw[Q6] at h;exact wpAny_eqBool_str h
  ·exact SeqAt.EqAt.str_none x t _ _ _ _ h
  ·exact SeqAt.EqAt.none_int j u _ _ _ _ h
  ·exact SeqAt.EqAt.none_str y u _ _ _ _ h
  ·exact SeqAt.EqAt.same .none _ _ _ _ h
 «strs»:=fun k x t v h=>by
  rcases dW h with⟨i,u,rfl,e⟩|⟨y,u,rfl,e⟩|⟨rfl,e⟩
  ·exact nomatch e
  ·injection e with e1 _
   subst e1;cases v<;>rfl
  ·exact nomatch e
def CI(prog:Program)(w:World)(i:Int)(t:Tok):(bJ prog w).is (.inl i) (.int i t)=true:=HZ i t
def CJ(prog:Program)(w:World)(x:Str)(t:Tok):(bJ prog w).is (.inr x) (.str x t)=true:=H8 x t
inductive V where
 | Wb|bl (b:Bool)|int (i:Int)|str (x:Str)|byt (b:Array UInt8)|flt (b:UInt64)|ref (a:Addr)|ty (n:String)
 deriving DecidableEq
variable{vs xs:List V}{v:V}
noncomputable def bL:V->Value->Prop
 | .Wb,u=>u=Value.none
 | .bl b,u=>u=Value.bool b
 | .int i,u=>∃ t,u=Value.int i t
 | .str x,u=>∃ t,u=Value.str x t
 | .byt b,u=>∃ t,u=Value.bytes b t
 | .flt b,u=>∃ t,u=Value.float b t
 | .ref a,u=>u=Value.ref a
 | .ty n,u=>u=Value.type n
abbrev We:List V->List Value->Prop:=Paired bL
def We.length(r:We xs us):xs.length=us.length:=Paired.length r
theorem We.get:∀ {xs:List V} {us:List Value} {i:Nat} {x:V},We xs us->xs[i]?=some x->∃ u,us[i]?=some u/\bL x u
 | _,_,_,_,.nil,e=>by simp at e
 | _,_,0,_,.cons r _,e=>by simp at e;subst e;exact⟨_,rfl,r⟩
 | _,_,i+1,x,.cons _ t,e=>by
  obtain⟨u,h1,h2⟩:=We.get (i:=i) (x:=x) t (by simpa using e);exact⟨u,by simpa using h1,h2⟩
theorem We.set{x:V}{u:Value}(r:bL x u):∀ {xs:List V} {us:List Value} (i:Nat),We xs us->We (xs.set i x) (us.set i u)
 | _,_,_,.nil=>.nil
 | _,_,0,.cons _ t=>.cons r t
 | _,_,i+1,.cons q t=>.cons q (We.set r i t)
def We.append{ys:List V}{ws:List Value}(h:We xs us)(s:We ys ws):We (xs++ys) (us++ws):=by
 induction h with
 | nil=>exact s
 | cons r _ ih=>exact .cons r ih
theorem We.take:∀ {xs:List V} {us:List Value} (n:Nat),We xs us->We (xs.take n) (us.take n)
 | _,_,0,_=>.nil
 | _,_,_+1,.nil=>.nil
 | _,_,n+1,.cons r t=>.cons r (We.take n t)
theorem We.drop:∀ {xs:List V} {us:List Value} (n:Nat),We xs us->We (xs.drop n) (us.drop n)
 | _,_,0,r=>r
 | _,_,_+1,.nil=>.nil
 | _,_,n+1,.cons _ t=>We.drop n t
theorem We.none_of:∀ {xs:List V} {us:List Value} {i:Nat},We xs us->xs[i]?=none->us[i]?=none:=fun {xs us i} r e=>by
 have h1:=r.length;have h2:xs.length<=i:=List.getElem?_eq_none_iff.mp e;exact List.getElem?_eq_none_iff.mpr 1e0
noncomputable def kP:Option V->Option Value->Prop
 | some v,some u=>bL v u
 | none,none=>True
 | _,_=>False
def KV{κ:Type}:List (κ×V)->List (κ×Value)->Prop:=Paired fun(p:κ×V) (q:κ×Value)=>p.1=q.1/\bL p.2 q.2
noncomputable def kV:Key->V
 | .inl i=>.int i
 | .inr x=>.str x
 | .no=>.Wb
inductive HO where
 /-- a list -/
 | lst (xs:List V)
 /-- a tuple (never changes) -/
 | tup (xs:List V)
 /-- a dict whose keys are ints and texts;one whose keys are tuples of ints and texts (the empty one is both) -/
 | dK (kvs:List 1e35)|dT (kvs:List (List Key×V))
 /-- a set of ints: Wd members,Wd size -/
 | set (S:Int->Bool) (n:Nat)
 /-- an instance of the class at C,Wd dict at dx,Wd attributes -/
 | ins (C dx:Addr) (fs:List (Str×V))
 /-- the dict of the instance at x -/
 | own (x:Addr)
 /-- the dict of an exception -/
 | xd (fs:List (Str×V))
 /-- a bound method,f of x -/
 | met (f x:Addr)
 /-- a range object lo,lo+1,.. below hi -/
 | rng (lo hi:Int)
 /-- a thing that is known to the object (the script;a dict while a loop walks it): read,never written while it is so -/
 | Wz (o:Obj) (u:HO)
 /-- a code object's table -/
 | ZX (ps:Array Value)
 /-- any other thing,by what is true of Wd one object (a def of acK own: SetO a S n:=HO.ext fun h=>..) -/
 | ext (φ:Heap->Prop)
abbrev Hp:=Addr->Option HO
variable{H:Hp}
def Wa(H:Hp)(a:Addr)(o:HO):Hp:=fun b=>if b=a then some o else H b
def aA{o:HO}:Wa H a o a=some o:=by unfold Wa;rw[if_pos rfl]
def aD{o:HO}(h:b≠a):Wa H a o b=H b:=by unfold Wa;rw[if_neg h]
def cP{o u:HO}(h:H a=some o)(h':H b=some u)(d:o≠u):a≠b:=by
 intro e;subst e;rw[h] at h';exact d (Option.some.inj h')
def aF{o:HO}(h:H a=some o)(h':H b=none):a≠b:=by
 intro e;subst e;rw[h] at h';cases h'
section
variable(P:Program)(w:World)
noncomputable def dO(H:Hp)(h:Heap)(a:Addr):HO->Prop
  | .lst xs=>xs.length<=sizeLine/\∃(Wd:List Value) (n:Nat),We xs Wd/\h.get? a=some {cls:=.type "list",data:=.seq Wd.toArray n}
  | .tup xs=>xs.length<=sizeLine/\∃ Wd:List Value,We xs Wd/\IsTup h a Wd.toArray
  | .dK kvs=>kvs.length<=sizeLine/\(a==sysModules)=false/\∃ vs,KV kvs vs/\h.DictOf (bJ P w) a vs
  | .dT kvs=>kvs.length<=sizeLine/\(a==sysModules)=false/\∃ xs:List (List Key×Addr×Value),
      Paired (fun(p:List Key×V) (q:List Key×Addr×Value)=>p.1=q.1/\H q.2.1=some (.tup (p.1.map kV))/\bL p.2 q.2.2) kvs xs /\
      ∃ o es ep,h.get? a=some o/\o.ExactDict/\o.data=.dict es ep/\es.toList=xs.map (entryOfKey (tupleKind (bJ P w)))/\(xs.map (·.1)).Nodup
  | .set S n=>h.SetOf (intKind P w) a S n
  | .ins C dx fs=>H dx=some (.own a)/\fs.length<=1000/\dx≠a/\h.get? a=some (PySem.W.instObj C dx) /\
      ∃ mA,h.Ns1 dx mA/\(∀ f,kP (fs.lookup f) (mA f))/\PySem.Within mA (fs.map (·.1))
  | .own _=>∃ o,h.get? a=some o
  | .xd fs=>∃ mA,h.Ns1 a mA/\∀ f,kP (fs.lookup f) (mA f)
  | .rng lo hi=>∃ t u v,h.get? a=some {cls:=.type "range",data:=.fields #[.int lo t,.int hi u,.int 1 v]}
  | .Wz o u=>h.get? a=some o/\dO H h a u
  | .ZX ps=>h.get? a=some {cls:=.none,data:=.fields ps}
  | .met f x=>h.get? a=some (PySem.W.methodObj (.ref f) (.ref x))
  | .ext φ=>φ h/\(∃ o,h.get? a=some o)/\∀ h1 h2:Heap,φ h1->(∀ o,h1.get? a=some o->h2.get? a=some o)->φ h2
def HOk(H:Hp)(h:Heap):Prop:=∀ a o,H a=some o->dO P w H h a o
end
section
variable{H':Hp}{h':Heap}{o:HO}
def dO.lt(x:dO P w H h a o):a < h.objs.size:=by
 cases o with
 | lst xs=>obtain⟨_,_,_,_,e⟩:=x;exact Heap.lt_size e
 | tup xs=>obtain⟨_,_,_,p⟩:=x;exact p.lt
 | dK kvs=>obtain⟨_,_,_,_,o,_,_,e,_⟩:=x;exact Heap.lt_size e
 | dT kvs=>obtain⟨_,_,_,_,o,_,_,e,_⟩:=x;exact Heap.lt_size e
 | set S n=>obtain⟨o,_,_,_,e,_⟩:=x;exact Heap.lt_size e
 | ins C dx fs=>obtain⟨_,_,_,e,_⟩:=x;exact Heap.lt_size e
 | own y=>obtain⟨_,e⟩:=x;exact Heap.lt_size e
 | xd fs=>obtain⟨_,⟨_,_,_,e,_⟩,_⟩:=x;exact Heap.lt_size e
 | rng lo hi=>obtain⟨_,_,_,e⟩:=x;exact Heap.lt_size e
 | Wz ob u=>obtain⟨e,_⟩:=x;exact Heap.lt_size e
 | ZX ps=>exact Heap.lt_size (show h.get? a=some _ from x)
 | met f y=>exact Heap.lt_size (show h.get? a=some _ from x)
 | ext φ=>obtain⟨_,⟨_,e⟩,_⟩:=x;exact Heap.lt_size e
theorem Paired.Q9{α β:Type}{F G:α->β->Prop}:∀ {l₁:List α} {l₂:List β},Paired F l₁ l₂->(∀ a b,F a b->G a b)->Paired G l₁ l₂
 | _,_,.nil,_=>.nil
 | _,_,.cons r t,f=>.cons (f _ _ r) (Paired.Q9 t f)
def dO.zM(x:dO P w H h a o)(k:∀ b u,(b=a\/H b=some (.own a))->h.get? b=some u->h'.get? b=some u)(ho:∀ b,H b=some (.own a)->H' b=some (.own a))(ht:∀ b xs,H b=some 1e54->H' b=some 1e54):dO P w H' h' a o:=by
 induction o with
 | lst xs=>obtain⟨z,Wd,n,r,e⟩:=x;exact⟨z,Wd,n,r,k _ _ 1e23 e⟩
 | tup xs=>obtain⟨z,Wd,r,ob,e,c⟩:=x;exact⟨z,Wd,r,ob,k _ _ 1e23 e,c⟩
 | dK kvs=>obtain⟨z,y,vs,r,ob,es,ep,e,c⟩:=x;exact⟨z,y,vs,r,ob,es,ep,k _ _ 1e23 e,c⟩
 | dT kvs =>
  obtain⟨z,y,xs,r,ob,es,ep,e,c⟩:=x;exact⟨z,y,xs,Paired.Q9 r fun p q z=>⟨z.1,ht _ _ z.2.1,z.2.2⟩,ob,es,ep,k _ _ 1e23 e,c⟩
 | set S n=>obtain⟨ob,es,ep,t,e,c⟩:=x;exact⟨ob,es,ep,t,k _ _ 1e23 e,c⟩
 | ins C dx fs =>
  obtain⟨d,z,ne,e,mA,⟨od,es,ep,e2,c⟩,r⟩:=x;exact⟨ho _ d,z,ne,k _ _ 1e23 e,mA,⟨od,es,ep,k _ _ (.inr d) e2,c⟩,r⟩
 | own y=>obtain⟨ob,e⟩:=x;exact⟨ob,k _ _ 1e23 e⟩
 | xd fs=>obtain⟨mA,⟨od,es,ep,e,c⟩,r⟩:=x;exact⟨mA,⟨od,es,ep,k _ _ 1e23 e,c⟩,r⟩
 | rng lo hi=>obtain⟨t,u,v,e⟩:=x;exact⟨t,u,v,k _ _ 1e23 e⟩
 | Wz ob u ih=>obtain⟨e,q⟩:=x;exact⟨k _ _ 1e23 e,ih q⟩
 | ZX ps =>
  have e:h.get? a=some {cls:=.none,data:=.fields ps}:=x;show h'.get? a=some {cls:=.none,data:=.fields ps};exact k a _ 1e23 e
 | met f y =>
  have e:h.get? a=some (PySem.W.methodObj (.ref f) (.ref y)):=x;show h'.get? a=some (PySem.W.methodObj (.ref f) (.ref y));exact k a _ 1e23 e
 | ext φ=>obtain⟨p,⟨o,e⟩,st⟩:=x;exact⟨st _ _ p fun o q=>k _ _ 1e23 q,⟨o,k _ _ 1e23 e⟩,st⟩
def HOk.lt(x:HOk P w H h)(e:H a=some o):a < h.objs.size:=(x a o e).lt
def HOk.fresh(x:HOk P w H h)(e:h.objs.size<=a):H a=none:=by
 cases q:H a with
 | none=>rfl
 | some u=>exact absurd (Nat.lt_of_lt_of_le (x.lt q) e) (Nat.lt_irrefl _)
def HOk.kept(x:HOk P w H h)(k:∀ b u,h.get? b=some u->h'.get? b=some u):HOk P w H h':=fun a o e =>
 (x a o e).zM (fun b u _ q=>k b u q) (fun _ q=>q) fun _ _ q=>q
def HOk.laid(x:HOk P w H h)(k:∀ b u,h.get? b=some u->h'.get? b=some u)(hp:h.objs.size<=a)(new:dO P w (Wa H a o) h' a o):HOk P w (Wa H a o) h':=fun b u e=>by
 have hn:=x.fresh hp;by_cases hb:b=a
 ·subst hb;rw[aA] at e;cases e;exact new
 ·rw[aD hb] at e;exact(x b u e).zM (fun c v _ q=>k c v q) (fun c q=>by rw[aD (aF q hn)];exact q) fun c xs q=>by rw[aD (aF q hn)];exact q
end
def Rd(H:Hp)(a:Addr)(u:HO):Prop:=H a=some u\/∃ o,H a=some (.Wz o u)
def Rd.ok{u:HO}(r:Rd H a u)(x:HOk P w H h):dO P w H h a u:=by
 rcases r with r|⟨o,r⟩
 ·exact x a u r
 ·obtain⟨_,q⟩:=x a _ r;exact q
noncomputable def Mut:Option HO->Prop
 | some (.lst _)=>True
 | some (.dK _)=>True
 | some (.dT _)=>True
 | some (.set _ _)=>True
 | some (.ins _ _ _)=>True
 | some (.ext _)=>True
 | _=>False
section
variable{h':Heap}{x e:Addr}{o':HO}
def HOk.write(ok:HOk P w H h)(mu:Mut (H x))(he:e=x\/H e=some (.own x))(k:∀ b u,b≠e->h.get? b=some u->h'.get? b=some u)(heo:∃ u,h'.get? e=some u)(new:dO P w (Wa H x o') h' x o'):HOk P w (Wa H x o') h':=fun b u q=>by
 have aa5:∀ c y,H c=some (.own y)->c≠x:=fun c y r z=>by subst z;rw[r] at mu;exact mu
 have ab4:∀ c xs,H c=some 1e54->c≠x:=fun c xs r z=>by subst z;rw[r] at mu;exact mu
 by_cases hb:b=x
 ·subst hb;rw[aA] at q;cases q;exact new
 ·rw[aD hb] at q;by_cases hbe:b=e
  ·have q':H b=some (.own x):=by
    rcases he with z|z
    ·exact absurd (hbe.trans z) hb
    ·rw[hbe];exact z
   rw[q] at q';cases q';obtain⟨v,hv⟩:=heo;exact⟨v,by rw[hbe];exact hv⟩
  ·refine(ok b u q).zM (fun c v hc r=>k c v ?_ r) (fun c r=>by rw[aD (aa5 c b r)];exact r) fun c xs r=>by rw[aD (ab4 c xs r)];exact r
   rcases hc with rfl|hc
   ·exact hbe
   ·rintro rfl;rcases he with z|z
    ·exact aa5 c b hc z
    ·rw[hc] at z;cases z;exact hb rfl
end
structure Un(fs ex:List Addr)(H H':Hp)(h h':Heap):Prop where
 keep:∀ b o,h.get? b=some o->H b=none->b∉fs->b∉ex->h'.get? b=some o
 slot:∀ b o,h.get? b=some o->H b=none->b∈fs->b∉ex->∃ sl,h'.get? b=some {o with slots:=sl}
 free:∀ b o,h.get? b=some o->H b=none->b∉ex->H' b=none
 there:∀ b o,h.get? b=some o->b∉ex->∃ o',h'.get? b=some o'
 zO:∀ b xs,H b=some 1e54->H' b=some 1e54
 vY:∀ b o u,H b=some (.Wz o u)->H' b=some (.Wz o u)
 zN:∀ b ps,H b=some (.ZX ps)->∃ more,H' b=some (.ZX (ps++more))
section
variable{fs ZD ex ex':List Addr}{H1 H2:Hp}{h1 h2 h':Heap}{x e:Addr}{o:HO}
def Un.any(u:Un fs ex H H1 h h1){ob:Obj}(q:h.get? b=some ob)(n:H b=none)(hx:b∉ex):∃ sl,h1.get? b=some {ob with slots:=sl}:=by
 by_cases hb:b∈fs
 ·exact u.slot b ob q n hb hx
 ·exact⟨ob.slots,u.keep b ob q n hb hx⟩
def Un.kept(k:∀ b u,h.get? b=some u->h'.get? b=some u):Un fs ex H H h h' :=
 ⟨fun b ob q _ _ _=>k b ob q,fun b ob q _ _ _=>⟨ob.slots,k b ob q⟩,fun _ _ _ n _=>n,fun b ob q _=>⟨ob,k b ob q⟩,fun _ _ q=>q,fun _ _ _ q=>q,fun _ ps q=>⟨#[],by rw[q];simp⟩⟩
def Un.refl:Un fs ex H H h h:=Un.kept fun _ _ q=>q
def Un.laid(k:∀ b u,h.get? b=some u->h'.get? b=some u)(hp:h.objs.size<=a)(hn:H a=none):Un fs ex H (Wa H a o) h h' where
 keep:=fun b u q _ _ _=>k b u q
 slot:=fun b u q _ _ _=>⟨u.slots,k b u q⟩
 free:=fun b u q n _=>by rw[aD (Nat.ne_of_lt (Nat.lt_of_lt_of_le (Heap.lt_size q) hp))];exact n
 there:=fun b u q _=>⟨u,k b u q⟩
 zO:=fun b xs q=>by rw[aD (aF q hn)];exact q
 vY:=fun b u xs q=>by rw[aD (aF q hn)];exact q
 zN:=fun b ps q=>⟨#[],by rw[aD (aF q hn),q];simp⟩
def Un.write(mu:Mut (H x))(he:e=x\/H e=some (.own x))(k:∀ b u,b≠e->h.get? b=some u->h'.get? b=some u)(heo:∃ u,h'.get? e=some u):Un fs ex H (Wa H x o) h h':=by
 have hx:∀ b,H b=none->b≠x:=fun b n z=>by subst z;rw[n] at mu;exact mu
 have hb:∀ b,H b=none->b≠e:=fun b n z=>by
  subst z;rcases he with r|r
  ·exact hx b n r
  ·rw[n] at r;cases r
 have hm:∀ b u,H b=some u->¬ Mut (some u)->b≠x:=fun b u q nm z=>by subst z;rw[q] at mu;exact nm mu
 refine⟨fun b u q n _ _=>k b u (hb b n) q,fun b u q n _ _=>⟨u.slots,k b u (hb b n) q⟩,fun b u q n _=>by rw[aD (hx b n)];exact n,fun b u q _=>?_,
  fun b xs q=>by rw[aD (hm b _ q fun z=>z)];exact q,fun b u xs q=>by rw[aD (hm b _ q fun z=>z)];exact q,fun b ps q=>⟨#[],by rw[aD (hm b _ q fun z=>z),q];simp⟩⟩
 by_cases hbe:b=e
 ·subst hbe;exact heo
 ·exact⟨u,k b u hbe q⟩
end
def trk(h:Heap)(H:Hp):List Addr:=(List.range h.objs.size).filter fun a=>(H a).isSome
def Bi(h:Heap)(H:Hp):Heap:=PySem.W.hideAll h (trk h H)
def HW(h:Heap)(H:Hp):(Bi h H).objs.size=h.objs.size:=PySem.W.hideAll_size _ _
def Kk(e:h.get? b=some o)(n:H b=none):(Bi h H).get? b=some o :=
 PySem.W.hideAll_get _ e fun hm=>by
  have q:(H b).isSome=true:=(List.mem_filter.mp hm).2;rw[n] at q;simp at q
def ND(e:(Bi h H).get? b=some o):h.get? b=some o/\H b=none:=by
 have e':h.get? b=some o:=PySem.W.of_hideAll (trk h H) e;refine⟨e',?_⟩;cases q:H b with
 | none=>rfl
 | some x =>
  have hm:b∈trk h H:=List.mem_filter.mpr ⟨List.mem_range.mpr (Heap.lt_size e'),by simp[q]⟩;have z:(Bi h H).get? b=none:=PySem.W.hideAll_none (trk h H) hm;rw[z] at e;cases e
noncomputable def Mn(g h:Heap)(L:Addr):List 1e13:=(List.range h.objs.size).filterMap fun a=>if a=L\/(g.get? a).isSome=true then none else (h.get? a).map fun o=>(a,o)
def rest(g h:Heap)(L d:Addr):List 1e13:=(Mn g h L).filter fun p=>decide (p.1≠d)
structure Mod(K:q0B)(mg:q0C)(base:Heap):Prop where
 kin:K.In base
 glob:base.Ns mainGlobals mg
 blt:∃ mb,base.Ns builtinsNs mb/\∀ x:Str,x≠"__name__"->mb x=bootBuiltins x
 nolimit:base.NoLimit
set_option genInjectivity false in
structure Cx where
 prog:Program
 w:World
 K:q0B
 mg:Str->Option Value
 base:Heap
 A:Around
 N:List Str
 s₀:Shared
 H₀:Hp
 env:Env
 outer:List Env
 stack:List Env
 ex:List Addr
 fn:Str->Bool
 calm:Bool
 pn:List 1e13
 xe:Value->Shared->Prop
variable{X:Cx}
def frs(l:List Env):List Addr:=l.filterMap (·.frame)
abbrev Cx.fs(X:Cx):List Addr:=frs X.outer
def Vis(sc:Scope)(x:Str):Prop:=sc.names.lookup x=some .local\/sc.names.lookup x=some .cell\/sc.names.lookup x=some .free
def Loc(sc:Scope)(x:Str):Prop:=sc.names.lookup x=some .local\/sc.names.lookup x=some .cell
noncomputable def Look(env:Env)(h:Heap)(m:q0C)(x:Str)(u:Value):Prop :=
 (env.kindOf x=some .local/\m x=some u)\/((env.kindOf x=some .cell\/env.kindOf x=some .free)/\∃ c,env.cells.lookup x=some c/\h.IsCell c (some u))
structure Cx.Ok(X:Cx):Prop where
 mod:Mod X.K X.mg X.base
 kind:X.env.scope.kind=.function
 glob:X.env.globals=mainGlobals
 blt:X.env.builtins=builtinsNs
 above:X.s₀.heap.objs.size<=X.env.locals
 inj:∀ x y c,X.env.cells.lookup x=some c->X.env.cells.lookup y=some c->x=y
 has:∀ x,(X.env.kindOf x=some .cell\/X.env.kindOf x=some .free)->∃ c,X.env.cells.lookup x=some c
 cab:∀ x c,X.fn x=true->X.env.cells.lookup x=some c->X.s₀.heap.objs.size<=c
 hd:X.calm=true->X.A.handled=none
 frames:X.A.frames=some X.stack
 stk:X.stack=X.outer\/(X.stack=X.env::X.outer/\X.env.frame=some X.env.locals)
 exf:∀ b∈X.ex,b≠X.env.locals/\∀ x c,X.env.cells.lookup x=some c->c≠b
 bs:∀ b o,X.base.get? b=some o->X.s₀.heap.get? b=some o/\X.H₀ b=none
 bsz:X.base.objs.size<=X.s₀.heap.objs.size
 CQ:∀ b o,X.base.get? b=some o->b∉X.ex
 HP:∀ b∈X.ex,b∉X.fs
 pM:X.s₀.heap.FunFrames X.base X.outer
 frf:∀ b∈X.fs,X.H₀ b=none
structure Wc(X:Cx)(V9:List 1e13)(σ:List (Option V))(H:Hp)(s:Shared):Prop where
 ok:X.Ok
 os:s.os=X.s₀.os
 bare:AllBare s.gens
 base:Un X.fs X.ex X.H₀ H X.s₀.heap s.heap
 loc:∃ m,s.heap.Ns X.env.locals m/\∀(i:Nat) (x:Str) (v:V),X.N[i]?=some x->σ[i]?=some (some v)->Vis X.env.scope x->∃ u,bL v u/\Look X.env s.heap m x u
 cell:∀ x c,X.env.cells.lookup x=some c->∃ v,s.heap.IsCell c v
 free:H X.env.locals=none
 j7:∀ x c,X.env.cells.lookup x=some c->H c=none
 pin:∀ p∈X.pn++V9,s.heap.get? p.1=some p.2/\H p.1=none/\p.1≠X.env.locals/\p.1∉X.fs/\∀ v,p.2.data≠.cell v
 Wh:HOk X.prog X.w H s.heap
 len:σ.length=X.N.length
section
variable{σ:List (Option V)}{H':Hp}{h':Heap}
def Cx.Ok.VF(ok:X.Ok)(e:X.base.get? b=some o):b∉X.fs:=fun hb=>by
 have:=(ok.pM.mem hb).1;rw[e] at this;cases this
def Wc.bs(I:Wc X V9 σ H s):∀ b o,X.base.get? b=some o->s.heap.get? b=some o/\H b=none:=fun b o e =>
 ⟨I.base.keep b o (I.ok.bs b o e).1 (I.ok.bs b o e).2 (I.ok.VF e) (I.ok.CQ b o e),I.base.free b o (I.ok.bs b o e).1 (I.ok.bs b o e).2 (I.ok.CQ b o e)⟩
def Wc.bk(I:Wc X V9 σ H s):∀ b o,X.base.get? b=some o->s.heap.get? b=some o:=fun b o e=>(I.bs b o e).1
def Wc.mod(I:Wc X V9 σ H s):Mod X.K X.mg X.base:=I.ok.mod
def Wc.kIn(I:Wc X V9 σ H s):X.K.In s.heap:=I.ok.mod.kin.keeps I.bk
def Wc.fr(I:Wc X V9 σ H s):∃ m,Fr X.base X.env.locals s.heap m :=
 let ⟨m,hn,_⟩:=I.loc
 ⟨m,hn,I.bk,Nat.le_trans I.ok.bsz I.ok.above⟩
def Wc.lt(I:Wc X V9 σ H s):X.env.locals < s.heap.objs.size:=let ⟨_,hn,_⟩:=I.loc;hn.lt
def Wc.sz(I:Wc X V9 σ H s):X.s₀.heap.objs.size<=s.heap.objs.size:=Nat.le_trans I.ok.above (Nat.le_of_lt I.lt)
def Wc.Rc(I:Wc X V9 σ H s)(h:s.heap.objs.size<=a):a∉X.fs:=fun hb=>by
 obtain⟨_,o,ho,_⟩:=I.ok.pM.mem hb;exact absurd (Nat.lt_of_lt_of_le (Heap.lt_size ho) (Nat.le_trans I.sz h)) (Nat.lt_irrefl _)
def Wc.Z6(I:Wc X V9 σ H s):∀ x c,X.env.cells.lookup x=some c->c≠X.env.locals:=fun x c e z=>by
 obtain⟨v,o,ho,hd⟩:=I.cell x c e;obtain⟨m,⟨o',es,ep,Yw,hd',_⟩,_⟩:=I.loc;rw[z,Yw] at ho;cases ho;rw[hd'] at hd;cases hd
def Wc.pM(I:Wc X V9 σ H s):s.heap.FunFrames X.base X.outer:=by
 have all:∀(l:List Env),(∀ b∈frs l,b∈X.fs)->X.s₀.heap.FunFrames X.base l->s.heap.FunFrames X.base l:=by
  intro l
  induction l with
  | nil=>intro _ _;trivial
  | cons env r ih =>
   intro hs hl;obtain⟨hk,⟨L,o,hf,hn,ho,hd⟩,hr⟩:=hl;have hL:L∈X.fs:=hs L (by unfold frs;rw[List.filterMap_cons,hf];exact List.mem_cons_self);obtain⟨sl,e⟩:=I.base.slot L o ho (I.ok.frf L hL) hL fun z=>I.ok.HP L z hL;exact⟨hk,⟨L,_,hf,hn,e,hd⟩,ih (fun b hb=>hs b (by unfold frs;rw[List.filterMap_cons,hf];exact List.mem_cons_of_mem _ hb)) hr⟩
 exact all X.outer (fun _ hb=>hb) I.ok.pM
theorem Wc.stack(I:Wc X V9 σ H s):s.heap.FunFrames X.base X.stack:=by
 rcases I.ok.stk with e|⟨e,hf⟩
 ·rw[e];exact I.pM
 ·rw[e];obtain⟨m,hn,_⟩:=I.loc;refine .cons (by rw[I.ok.kind];decide) hf hn ?_ I.pM;exact Heap.get?_none_of_le (Nat.le_trans I.ok.bsz I.ok.above)
def Wc.oY(I:Wc X V9 σ H s):∀ b∈frs X.stack,b∈X.env.locals::X.fs:=fun b hb=>by
 rcases I.ok.stk with e|⟨e,hf⟩
 ·rw[e] at hb;exact List.mem_cons_of_mem _ hb
 ·rw[e] at hb;unfold frs at hb;rw[List.filterMap_cons,hf] at hb;exact hb
def Wc.BQ(I:Wc X V9 σ H s):∀ b∈frs X.stack,H b=none:=fun b hb=>by
 rcases List.mem_cons.mp (I.oY b hb) with e|hb
 ·rw[e];exact I.free
 ·obtain⟨_,o,ho,_⟩:=I.ok.pM.mem hb;exact I.base.free b o ho (I.ok.frf b hb) fun z=>I.ok.HP b z hb
def Wc.step{d':Drawn}(I:Wc X V9 σ H s)(Y8:∀ b∈ch,(b∈X.ex\/X.s₀.heap.objs.size<=b)/\b≠X.env.locals/\(∀ x c,X.env.cells.lookup x=some c->c≠b)/\∀ p∈X.pn++V9,p.1≠b)(keep:∀ b o,b≠X.env.locals->b∉X.fs->b∉ch->s.heap.get? b=some o->H b=none->h'.get? b=some o)(slot:∀ b o,b≠X.env.locals->b∈X.fs->b∉ch->s.heap.get? b=some o->H b=none->∃ sl,h'.get? b=some {o with slots:=sl})(free:∀ b o,b∉ch->s.heap.get? b=some o->H b=none->H' b=none)(there:∀ b o,b∉ch->s.heap.get? b=some o->∃ o',h'.get? b=some o')(zO:∀ b xs,H b=some 1e54->H' b=some 1e54)(vY:∀ b o u,H b=some (.Wz o u)->H' b=some (.Wz o u))(zN:∀ b ps,H b=some (.ZX ps)->∃ more,H' b=some (.ZX (ps++more)))(ns:∀ m,s.heap.Ns X.env.locals m->h'.Ns X.env.locals m)(Wh:HOk X.prog X.w H' h')(hg:AllBare g') : Wc X V9 σ H' {s with heap:=h',gens:=g',drawn:=d',toks:=t'}:=by
 have neL:∀ b o,X.s₀.heap.get? b=some o->b≠X.env.locals:=fun b o e=>Nat.ne_of_lt (Nat.lt_of_lt_of_le 1e26 I.ok.above);have ZT:∀ b o,X.s₀.heap.get? b=some o->b∉X.ex->b∉ch:=fun b o e hx hb=>by
  rcases(Y8 b hb).1 with z|z
  ·exact hx z
  ·exact absurd (Nat.lt_of_lt_of_le 1e26 z) (Nat.lt_irrefl _)
 have cellK:∀ x c,X.env.cells.lookup x=some c->∀ v,s.heap.IsCell c v->h'.IsCell c v:=fun x c e v ⟨o,ho,hd⟩=>by
  have nch:c∉ch:=fun z=>(Y8 c z).2.2.1 x c e rfl;by_cases hc:c∈X.fs
  ·obtain⟨sl,q⟩:=slot c o (I.Z6 x c e) hc nch ho (I.j7 x c e);exact⟨_,q,hd⟩
  ·exact⟨o,keep c o (I.Z6 x c e) hc nch ho (I.j7 x c e),hd⟩
 refine⟨I.ok,I.os,hg,⟨fun b o e n hb hx=>?_,fun b o e n hb hx=>?_,fun b o e n hx=>?_,fun b o e hx=>?_,fun b xs e=>zO b xs (I.base.zO b xs e),fun b o xs e=>vY b o xs (I.base.vY b o xs e),fun b ps e=>?_⟩,?_,fun x c e=>?_,?_,fun x c e=>?_,fun p hp=>?_,Wh,I.len⟩
 ·exact keep b o (neL b o e) hb (ZT b o e hx) (I.base.keep b o e n hb hx) (I.base.free b o e n hx)
 ·obtain⟨sl,e1⟩:=I.base.slot b o e n hb hx;obtain⟨WA,e2⟩:=slot b _ (neL b o e) hb (ZT b o e hx) e1 (I.base.free b o e n hx);exact⟨WA,e2⟩
 ·obtain⟨o',e1⟩:=I.base.there b o e hx;exact free b o' (ZT b o e hx) e1 (I.base.free b o e n hx)
 ·obtain⟨o',e1⟩:=I.base.there b o e hx;exact there b o' (ZT b o e hx) e1
 ·obtain⟨m1,e1⟩:=I.base.zN b ps e;obtain⟨m2,e2⟩:=zN b _ e1;exact⟨m1++m2,by rw[e2,Array.append_assoc]⟩
 ·obtain⟨m,hn,hl⟩:=I.loc;refine⟨m,ns m hn,fun i x v e1 e2 e3=>?_⟩;obtain⟨u,r,l⟩:=hl i x v e1 e2 e3;refine⟨u,r,?_⟩;rcases l with l|⟨k,c,e,z⟩
  ·exact .inl l
  ·exact .inr ⟨k,c,e,cellK x c e _ z⟩
 ·obtain⟨v,z⟩:=I.cell x c e;exact⟨v,cellK x c e v z⟩
 ·obtain⟨m,⟨o,_,_,ho,_⟩,_⟩:=I.loc;exact free _ o (fun z=>(Y8 _ z).2.1 rfl) ho I.free
 ·obtain⟨v,o,ho,hd⟩:=I.cell x c e;exact free c o (fun z=>(Y8 c z).2.2.1 x c e rfl) ho (I.j7 x c e)
 ·obtain⟨e,n,ne,nf,d⟩:=I.pin p hp;have nch:p.1∉ch:=fun z=>(Y8 p.1 z).2.2.2 p hp rfl;exact⟨keep p.1 p.2 ne nf nch e n,free p.1 p.2 nch e n,ne,nf,d⟩
def Wc.un(I:Wc X V9 σ H s)(u:Un X.fs [] H H' s.heap h')(Wh:HOk X.prog X.w H' h'):Wc X V9 σ H' {s with heap:=h',toks:=t'}:=by
 obtain⟨m,⟨o,es,ep,ho,r⟩,_⟩:=id I.loc;obtain⟨sl,hL⟩:=u.any ho I.free 1e1;exact I.step (g':=s.gens) (d':=s.drawn) (ch:=[]) (fun _ z=>nomatch z) (fun b o _ hb _ e n=>u.keep b o e n hb 1e1) (fun b o _ hb _ e n=>u.slot b o e n hb 1e1) (fun b o _ e n=>u.free b o e n 1e1) (fun b o _ e=>u.there b o e 1e1) u.zO u.vY u.zN (fun m' hm=>by
  obtain⟨o',es',YH,Yw,r'⟩:=hm;rw[ho] at Yw;cases Yw;exact⟨_,es',YH,hL,r'⟩) Wh I.bare
def Wc.call{d':Drawn}(I:Wc X V9 σ H s)(u:Un (frs X.stack) ch H H' s.heap h')(Wh:HOk X.prog X.w H' h')(hg:AllBare g')(Y8:∀ b∈ch,(b∈X.ex\/X.s₀.heap.objs.size<=b)/\b≠X.env.locals/\(∀ x c,X.env.cells.lookup x=some c->c≠b)/\∀ p∈X.pn++V9,p.1≠b) : Wc X V9 σ H' {s with heap:=h',gens:=g',drawn:=d',toks:=t'}:=by
 obtain⟨m,⟨o,es,ep,ho,r⟩,_⟩:=id I.loc;obtain⟨sl,hL⟩:=u.any ho I.free fun z=>(Y8 _ z).2.1 rfl;exact I.step (ch:=ch) Y8 (fun b o hL hb hc e n=>u.keep b o e n (fun z=>(List.mem_cons.mp (I.oY b z)).elim hL hb) hc) (fun b o _ _ hc e n=>u.any e n hc) (fun b o hc e n=>u.free b o e n hc) (fun b o hc e=>u.there b o e hc) u.zO u.vY u.zN (fun m' hm=>by
  obtain⟨o',es',YH,Yw,r'⟩:=hm;rw[ho] at Yw;cases Yw;exact⟨_,es',YH,hL,r'⟩) Wh hg
def Wc.turned{it:Addr}(I:Wc X V9 σ H s)(k:∀ b o,b≠it->s.heap.get? b=some o->h'.get? b=some o)(hn:H it=none)(hL:it≠X.env.locals)(h1:it∈X.ex\/X.s₀.heap.objs.size<=it)(h2:∀ x c,X.env.cells.lookup x=some c->c≠it)(h3:∀ p∈X.pn++V9,p.1≠it):Wc X V9 σ H {s with heap:=h',toks:=t'}:=by
 have nit:∀ b u,H b=some u->b≠it:=fun b u e z=>by rw[z,hn] at e;cases e
 refine I.step (g':=s.gens) (d':=s.drawn) (ch:=[it]) (fun b hb=>?_) (fun b o _ _ hc e _=>k b o (fun z=>hc (by simp[z])) e) (fun b o _ _ hc e _=>⟨o.slots,k b o (fun z=>hc (by simp[z])) e⟩) (fun _ _ _ _ n=>n)
  (fun b o hc e=>⟨o,k b o (fun z=>hc (by simp[z])) e⟩) (fun _ _ e=>e) (fun _ _ _ e=>e) (fun b ps e=>⟨#[],by rw[e];simp⟩) (fun m hm=>?_) (fun b u e=>?_) I.bare
 ·have e:b=it:=by simpa using hb
  subst e;exact⟨h1,hL,h2,h3⟩
 ·obtain⟨o,es,ep,ho,r⟩:=hm;exact⟨o,es,ep,k _ o (Ne.symm hL) ho,r⟩
 ·refine(I.Wh b u e).zM (fun c v hc q=>k c v ?_ q) (fun _ q=>q) fun _ _ q=>q;rcases hc with z|z
  ·rw[z];exact nit b u e
  ·exact nit c _ z
def Wc.tok(I:Wc X V9 σ H s)(t:Nat):Wc X V9 σ H {s with toks:=t}:=I.un (h':=s.heap) (t':=t) Un.refl I.Wh
def Wc.kept(I:Wc X V9 σ H s)(k:∀ b u,s.heap.get? b=some u->h'.get? b=some u):Wc X V9 σ H {s with heap:=h',toks:=t'}:=I.un (Un.kept k) (I.Wh.kept k)
def Wc.laid{o:HO}(I:Wc X V9 σ H s)(k:∀ b u,s.heap.get? b=some u->h'.get? b=some u)(hp:s.heap.objs.size<=a)(new:dO X.prog X.w (Wa H a o) h' a o) : Wc X V9 σ (Wa H a o) {s with heap:=h',toks:=t'}:=I.un (Un.laid k hp (I.Wh.fresh hp)) (I.Wh.laid k hp new)
def Wc.write{x e:Addr}{o:HO}(I:Wc X V9 σ H s)(mu:Mut (H x))(he:e=x\/H e=some (.own x))(k:∀ b u,b≠e->s.heap.get? b=some u->h'.get? b=some u)(heo:∃ u,h'.get? e=some u)(new:dO X.prog X.w (Wa H x o) h' x o):Wc X V9 σ (Wa H x o) {s with heap:=h',toks:=t'}:=I.un (Un.write mu he k heo) (I.Wh.write mu he k heo new)
def Wc.jK{ZV:List 1e13}(I:Wc X V9 σ H s)(h:∀ p∈ZV,s.heap.get? p.1=some p.2/\H p.1=none/\p.1≠X.env.locals/\p.1∉X.fs/\∀ v,p.2.data≠.cell v):Wc X ZV σ H s :=
 ⟨I.ok,I.os,I.bare,I.base,I.loc,I.cell,I.free,I.j7,fun p hp=>(List.mem_append.mp hp).elim (fun z=>I.pin p (List.mem_append_left _ z)) (h p),I.Wh,I.len⟩
def CP{N:List Str}(hN:N.Nodup){j:Nat}(a:N[i]?=some x)(b:N[j]?=some x):i=j:=by
 obtain⟨h1,e1⟩:=List.getElem?_eq_some_iff.mp a;obtain⟨h2,e2⟩:=List.getElem?_eq_some_iff.mp b;exact(List.getElem_inj hN).mp (e1.trans e2.symm)
theorem rW(I:Wc X V9 σ H s)(hN:X.N.Nodup)(hi:X.N[i]?=some x)(hx:Loc X.env.scope x)(r:bL v u)(h:∀ s',Wc X V9 (σ.set i (some v)) H s'->(∃ a,Heap.SameBut a s.heap s'.heap/\(a=X.env.locals\/X.env.cells.lookup x=some a))->Q () s')(hf:X.fn x=true\/X.env.scope.names.lookup x=some .local:=by first|exact .inl rfl|exact .inr rfl|assumption):wpAny M A (storeName X.env x u) Q E s:=by
 obtain⟨m,hn,hl⟩:=id I.loc;have abK:(X.env.scope.kind==.class||(X.env.scope.kind==.module&&X.env.locals !=X.env.globals))=false:=by rw[I.ok.kind];rfl
 have hiσ:i < σ.length:=by rw[I.len];exact(List.getElem?_eq_some_iff.mp hi).1
 have Z6:=I.Z6;have tracked:∀ {a:Addr} {h':Heap},(∃ o,s.heap.get? a=some o/\H a=none)->Heap.SameBut a s.heap h'->HOk X.prog X.w H h':=fun {a h'} ha hs b ob e=>by
  obtain⟨_,_,ZI⟩:=ha;refine(I.Wh b ob e).zM (fun c w' hc q=>(hs.2 c ?_).trans q) (fun _ q=>q) fun _ _ q=>q;rintro rfl;rcases hc with rfl|hc
  ·rw[ZI] at e;cases e
  ·rw[ZI] at hc;cases hc
 rcases hx with hk|hk
 ·refine wpAny_storeName_local hk hn (fun h' hn' hs=>?_) abK;obtain⟨oL,_,_,hoL,_⟩:=id hn;refine h _ ⟨I.ok,I.os,I.bare,⟨fun b o e n hb hx=>?_,fun b o e n hb hx=>?_,I.base.free,fun b o e hx=>?_,I.base.zO,I.base.vY,I.base.zN⟩,⟨_,hn',fun j y v' e1 e2 e3=>?_⟩,fun y c e=>?_,I.free,I.j7,fun p hp=>?_,tracked ⟨oL,hoL,I.free⟩ hs,by simpa using I.len⟩ ⟨_,hs,.inl rfl⟩
  ·exact(hs.2 b (Nat.ne_of_lt (Nat.lt_of_lt_of_le 1e26 I.ok.above))).trans (I.base.keep b o e n hb hx)
  ·obtain⟨sl,e1⟩:=I.base.slot b o e n hb hx;exact⟨sl,(hs.2 b (Nat.ne_of_lt (Nat.lt_of_lt_of_le 1e26 I.ok.above))).trans e1⟩
  ·obtain⟨o',e1⟩:=I.base.there b o e hx;exact⟨o',(hs.2 b (Nat.ne_of_lt (Nat.lt_of_lt_of_le 1e26 I.ok.above))).trans e1⟩
  ·by_cases hj:j=i
   ·subst hj;rw[hi] at e1;cases e1;rw[List.getElem?_set_self hiσ] at e2;cases e2;exact⟨u,r,.inl ⟨hk,by simp⟩⟩
   ·rw[List.getElem?_set_ne (Ne.symm hj)] at e2;obtain⟨u',r',q⟩:=hl j y v' e1 e2 e3;refine⟨u',r',?_⟩;rcases q with⟨k,e⟩|⟨k,c,e,z⟩
    ·refine .inl ⟨k,?_⟩;have:y≠x:=fun e=>hj (CP hN e1 (e▸hi));simp[this,e]
    ·exact .inr ⟨k,c,e,z.sameBut hs (Z6 y c e)⟩
  ·obtain⟨w',z⟩:=I.cell y c e;exact⟨w',z.sameBut hs (Z6 y c e)⟩
  ·obtain⟨e,n,ne,nf,d⟩:=I.pin p hp;exact⟨(hs.2 p.1 ne).trans e,n,ne,nf,d⟩
 ·have hfn:X.fn x=true:=by
   rcases hf with z|z
   ·exact z
   ·rw[z] at hk;cases hk
  obtain⟨c,hc⟩:=I.ok.has x (.inl hk);obtain⟨w',z⟩:=I.cell x c hc;refine wpAny_storeName_cell I.ok.kind hk hc z (fun h' YO hs=>?_);obtain⟨oc,hoc,abS⟩:=id z;refine h {s with heap:=h'} ⟨I.ok,I.os,I.bare,⟨fun b o e n hb hx=>?_,fun b o e n hb hx=>?_,I.base.free,fun b o e hx=>?_,I.base.zO,I.base.vY,I.base.zN⟩,⟨m,hn.sameBut hs (Ne.symm (Z6 x c hc)),fun j y v' e1 e2 e3=>?_⟩,fun y c' e=>?_,I.free,I.j7,fun p hp=>?_,tracked ⟨oc,hoc,I.j7 x c hc⟩ hs,by simpa using I.len⟩ ⟨c,hs,.inr hc⟩
  ·exact(hs.2 b (Nat.ne_of_lt (Nat.lt_of_lt_of_le 1e26 (I.ok.cab x c hfn hc)))).trans (I.base.keep b o e n hb hx)
  ·obtain⟨sl,e1⟩:=I.base.slot b o e n hb hx;exact⟨sl,(hs.2 b (Nat.ne_of_lt (Nat.lt_of_lt_of_le 1e26 (I.ok.cab x c hfn hc)))).trans e1⟩
  ·obtain⟨o',e1⟩:=I.base.there b o e hx;exact⟨o',(hs.2 b (Nat.ne_of_lt (Nat.lt_of_lt_of_le 1e26 (I.ok.cab x c hfn hc)))).trans e1⟩
  ·by_cases hj:j=i
   ·subst hj;rw[hi] at e1;cases e1;rw[List.getElem?_set_self hiσ] at e2;cases e2;exact⟨u,r,.inr ⟨.inl hk,c,hc,YO⟩⟩
   ·rw[List.getElem?_set_ne (Ne.symm hj)] at e2;obtain⟨u',r',q⟩:=hl j y v' e1 e2 e3;refine⟨u',r',?_⟩;rcases q with q|⟨k,c',e,z'⟩
    ·exact .inl q
    ·refine .inr ⟨k,c',e,z'.sameBut hs ?_⟩;rintro rfl;exact hj (CP hN e1 (I.ok.inj _ _ _ e hc▸hi))
  ·by_cases hcc:c'=c
   ·subst hcc;exact⟨_,YO⟩
   ·obtain⟨w2,z2⟩:=I.cell y c' e;exact⟨w2,z2.sameBut hs hcc⟩
  ·obtain⟨e,n,ne,nf,d⟩:=I.pin p hp;refine⟨(hs.2 p.1 ?_).trans e,n,ne,nf,d⟩;intro q;rw[q,hoc] at e;have q':oc=p.2:=Option.some.inj e;exact d w' (by rw[<- q'];exact abS)
theorem yK(I:Wc X V9 σ H s)(hN:X.N.Nodup)(hi:X.N[i]?=some x)(hx:Loc X.env.scope x)(r:bL v u)(h:∀ s',Wc X V9 (σ.set i (some v)) H s'->Q () s')(hf:X.fn x=true\/X.env.scope.names.lookup x=some .local:=by first|exact .inl rfl|exact .inr rfl|assumption):wpAny M A (storeName X.env x u) Q E s :=
 rW I hN hi hx r (fun s' I' _=>h s' I') hf
def Wc.Se(I:Wc X V9 σ H s)(ho:s'.os=s.os)(u:Un (frs X.stack) ch H H' s.heap s'.heap)(Wh:HOk X.prog X.w H' s'.heap)(hg:AllBare s'.gens)(Y8:∀ b∈ch,(b∈X.ex\/X.s₀.heap.objs.size<=b)/\b≠X.env.locals/\(∀ x c,X.env.cells.lookup x=some c->c≠b)/\∀ p∈X.pn++V9,p.1≠b):Wc X V9 σ H' s':=by
 obtain⟨h',g',d',t',o'⟩:=s';have e:o'=s.os:=ho;subst e;exact I.call (g':=g') (t':=t') (d':=d') u Wh hg Y8
end
abbrev XK:=Value->Option Addr->Hp->Prop
abbrev St:=List (Option V)
variable{σ:St}
abbrev VK:=V->Hp->Prop
abbrev TE:=St->Hp->VK->Prop
variable{t te:TE}
abbrev TT:=St->Hp->(Bool->Hp->Prop)->Prop
abbrev TA:=St->Hp->(List V->Hp->Prop)->Prop
set_option genInjectivity false in
structure Ends where
 nx:St->Hp->Prop
 rt:VK
 bk:St->Hp->Prop:=fun _ _=>False
 ct:St->Hp->Prop:=fun _ _=>False
variable{D:Ends}
abbrev TS:=Ends->St->Hp->Prop
variable{tb:TS}
inductive EP(X:Cx)(V9:List 1e13)(σ:St)(Q:VK)(u:Value)(s':Shared):Prop
 | mk (v:V) (H':Hp) (I:Wc X V9 σ H' s') (r:bL v u) (q:Q v H'):EP X V9 σ Q u s'
def TP(X:Cx)(V9:List 1e13)(σ:St)(Q:Bool->Hp->Prop)(b:Bool)(s':Shared):Prop:=∃ H',Wc X V9 σ H' s'/\Q b H'
inductive AP(X:Cx)(V9:List 1e13)(σ:St)(Q:List V->Hp->Prop)(us:List Value)(s':Shared):Prop
 | mk (vs:List V) (H':Hp) (I:Wc X V9 σ H' s') (r:We vs us) (q:Q vs H'):AP X V9 σ Q us s'
noncomputable def SP(X:Cx)(V9:List 1e13)(D:Ends)(f:Flow)(s':Shared):Prop :=
 match f with
 | .next=>∃ σ' H',Wc X V9 σ' H' s'/\D.nx σ' H'
 | .brk=>∃ σ' H',Wc X V9 σ' H' s'/\D.bk σ' H'
 | .cont=>∃ σ' H',Wc X V9 σ' H' s'/\D.ct σ' H'
 | .ret u=>∃ v σ' H',Wc X V9 σ' H' s'/\bL v u/\D.rt v H'
noncomputable def PE(X:Cx)(e:Expr)(t:TE):Prop :=
 ∀(V9:List 1e13) (s:Shared) (σ:St) (H:Hp) (Q:VK),Wc X V9 σ H s->t σ H Q->wpAny 1e2 X.A (eval e X.env) 1e43 X.xe s
noncomputable def PT(X:Cx)(e:Expr)(t:TT):Prop :=
 ∀(V9:List 1e13) (s:Shared) (σ:St) (H:Hp) (Q:Bool->Hp->Prop),Wc X V9 σ H s->t σ H Q->wpAny 1e2 X.A (isTrue e X.env (eval e X.env)) (TP X V9 σ Q) X.xe s
noncomputable def PW(X:Cx)(e:Expr)(t:TT):Prop :=
 ∀(whole:Sem Value) (V9:List 1e13) (s:Shared) (σ:St) (H:Hp) (Q:Bool->Hp->Prop),Wc X V9 σ H s->t σ H Q->wpAny 1e2 X.A (isTrue e X.env whole) (TP X V9 σ Q) X.xe s
def PW.pt{t:TT}(h:PW X e t):PT X e t:=h _
noncomputable def PA(X:Cx)(es:List Expr)(t:TA):Prop :=
 ∀(pos:Pos) (V9:List 1e13) (s:Shared) (σ:St) (H:Hp) (Q:List V->Hp->Prop),Wc X V9 σ H s->t σ H Q->wpAny 1e2 X.A (spliced (backTo pos 1e59)) (AP X V9 σ Q) X.xe s
noncomputable def PS(X:Cx)(st:Stmt)(t:TS):Prop :=
 ∀(V9:List 1e13) (s:Shared) (σ:St) (H:Hp) (D:Ends),Wc X V9 σ H s->t D σ H->wpAny 1e2 X.A (exec st X.env) (SP X V9 D) X.xe s
noncomputable def Xy(X:Cx)(st:List Stmt)(t:TS):Prop :=
 ∀(V9:List 1e13) (s:Shared) (σ:St) (H:Hp) (D:Ends),Wc X V9 σ H s->t D σ H->wpAny 1e2 X.A (execs st X.env) (SP X V9 D) X.xe s
def thn{α:Type}{t:Sem α}{Q Q':α->Shared->Prop}(h:wpAny M A t Q E s)(hQ:∀ a s,Q a s->Q' a s):wpAny M A t Q' E s:=wpAny_mono h hQ fun _ _ x=>x
section
def o7(i:Nat):TE:=fun σ H Q=>∃ v,σ[i]?=some (some v)/\Q v H
def tC(v:V):TE:=fun _ H Q=>Q v H
theorem lD(hN:X.N[i]?=some x)(hv:Vis X.env.scope x)(hd:1e34=false:=by decide)(YQ:(x==("__classdict__":Str))=false:=by decide):PE X (.Name x pos) (o7 i):=by
 intro V9 s σ H Q I h;obtain⟨v,e,h⟩:=h;obtain⟨m,hn,hl⟩:=I.loc;obtain⟨u,r,l⟩:=hl i x v hN e hv;have fin:EP X V9 σ Q u s:=⟨v,H,I,r,h⟩;rcases l with⟨hk,hm⟩|⟨hk,c,hc,X2⟩
 ·exact wpAny_Name (wpAny_loadName_local I.ok.kind hk hn hm fin) hd
 ·rcases hk with hk|hk
  ·exact wpAny_Name (wpAny_loadName_cell I.ok.kind hk hc X2 fin) hd
  ·exact wpAny_Name (wpAny_loadName_free I.ok.kind hk hc X2 fin YQ) hd
def aB{i j pos}:PE X (.Constant (.int i) j pos) (tC (.int i)):=fun _ _ _ H _ I h=>wpAny_Constant_int ⟨.int i,H,I.tok _,⟨_,rfl⟩,h⟩
def xN{b j pos}:PE X (.Constant (.bool b) j pos) (tC (.bl b)):=fun _ _ _ H _ I h=>Constant_bool ⟨.bl b,H,I,rfl,h⟩
def cD{j pos}:PE X (.Constant .none j pos) (tC .Wb):=fun _ _ _ H _ I h=>Constant_none ⟨.Wb,H,I,rfl,h⟩
def aC{x j pos}:PE X (.Constant (.str x) j pos) (tC (.str x)):=fun _ _ _ H _ I h=>Calls.Constant_str ⟨.str x,H,I.tok _,⟨_,rfl⟩,h⟩
def Gl(X:Cx)(x:Str):Prop:=X.env.kindOf x=some .globalImplicit
theorem tX{Q:q0A}(I:Wc X V9 σ H s)(hg:Gl X x)(hm:X.mg x=some u)(h:Q u s)(hd:1e34=false:=by decide):wpAny 1e2 X.A (eval (.Name x pos) X.env) Q E s :=
 Calls.Name_function_global I.ok.kind hg (Calls.loadGlobal_global (by rw[I.ok.glob];exact I.mod.glob.keeps I.bk) hm h) hd
theorem Bq{Q:q0A}(I:Wc X V9 σ H s)(hg:Gl X x)(hm:X.mg x=none)(hv:bootBuiltins x=some u)(h:Q u s)(hn:x≠"__name__":=by decide)(hd:1e34=false:=by decide):wpAny 1e2 X.A (eval (.Name x pos) X.env) Q E s:=by
 obtain⟨mb,h1,h2⟩:=I.mod.blt;exact Calls.Name_function_global I.ok.kind hg (Calls.loadGlobal_builtin (by rw[I.ok.glob];exact I.mod.glob.keeps I.bk) hm (by rw[I.ok.blt];exact h1.keeps I.bk) ((h2 x hn).trans hv) h) hd
theorem pX(hg:Gl X x)(hm:X.mg x=some u)(r:bL v u)(hd:1e34=false:=by decide):PE X (.Name x pos) (tC v) :=
 fun _ _ _ H _ I h=>tX I hg hm ⟨v,H,I,r,h⟩ hd
theorem lB(hg:Gl X x)(hm:X.mg x=none)(hv:bootBuiltins x=some u)(r:bL v u)(hn:x≠"__name__":=by decide)(hd:1e34=false:=by decide):PE X (.Name x pos) (tC v) :=
 fun _ _ _ H _ I h=>Bq I hg hm hv ⟨v,H,I,r,h⟩ hn hd
variable{a b:Expr}{ta tb:TE}
noncomputable def PC(X:Cx)(op:CmpOp)(a b:Expr)(t:TE):Prop :=
 ∀(V9:List 1e13) (s:Shared) (σ:St) (H:Hp) (Q:VK),Wc X V9 σ H s->t σ H Q ->
  wpAny 1e2 X.A (eval a X.env) (fun v s₁=>wpAny 1e2 X.A (eval b X.env) (fun u s₂=>wpAny 1e2 X.A (compareOp op v u) 1e43 X.xe s₂) X.xe s₁) X.xe s
def nobehind(b:Expr)(h:op≠.In)(h2:op≠.NotIn):behindInMarks op b=false:=by
 have e1:(op==CmpOp.In)=false:=by cases op<;>first|rfl|exact absurd rfl h
 have e2:(op==CmpOp.NotIn)=false:=by cases op<;>first|rfl|exact absurd rfl h2
 cases b<;>simp[behindInMarks,e1,e2]
def tB(t:TE):TT:=fun σ H Q=>t σ H fun x H1=>∃ c,x=.bl c/\Q c H1
theorem Rp(h:PC X op a b t)(h1:behindInMarks op b=false:=by first|exact nobehind _ 1e6 1e6|rfl):PE X (.Compare a [op] [b] pos) t:=fun V9 s σ H Q I hw=>wpAny_Compare1 (h V9 s σ H Q I hw) h1
theorem Ru(h:PC X op a b t)(h1:behindInMarks op b=false:=by first|exact nobehind _ 1e6 1e6|rfl):PT X (.Compare a [op] [b] pos) (tB t):=by
 intro V9 s σ H Q I hw;refine wpAny_isTrue_Compare1 (thn (h V9 s σ H _ I hw) fun v s1 h1=>thn h1 fun u s2 h2=>thn h2 fun c s3 ⟨x,H1,I1,r1,q1⟩=>?_) h1;obtain⟨d,rfl,q⟩:=q1;cases r1;exact wpAny_truthy_bool ⟨H1,I1,q⟩
def jT(h:PE X e t)(he:∀ whole,isTrue e X.env whole=(do let v <- whole;standAt e.pos;holding [v] (truthy v)):=by intro _;rfl):PT X e (tB t):=by
 intro V9 s σ H Q I hw;refine isTrue_plain (thn (h V9 s σ H _ I hw) fun v s1 ⟨x,H1,I1,r1,q1⟩=>?_) (he _);obtain⟨d,rfl,q⟩:=q1;cases r1;exact wpAny_truthy_bool ⟨H1,I1,q⟩
variable{tA tB':TT}{rest:List Expr}
def Uu(t u:TT):TT:=fun σ H Q=>t σ H fun c H1=>if c=true then u σ H1 Q else Q false H1
def VY(t u:TT):TT:=fun σ H Q=>t σ H fun c H1=>if c=true then Q true H1 else u σ H1 Q
def Ux(t:TT):TT:=fun σ H Q=>t σ H fun c H1=>Q (!c) H1
def eE(ha:PT X a tA):PW X (.BoolOp .And [a] pos) tA:=by
 intro wh V9 s σ H Q I h;refine isTrue_and (thn (ha V9 s σ H Q I h) fun c s1 e=>?_);cases c with
 | true=>exact isTrue_and_nil e
 | false=>exact e
def BI(ha:PT X a tA):PW X (.BoolOp .Or [a] pos) tA:=by
 intro wh V9 s σ H Q I h;refine isTrue_or (thn (ha V9 s σ H Q I h) fun c s1 e=>?_);cases c with
 | false=>exact isTrue_or_nil e
 | true=>exact e
def eY(ha:PT X a tA)(hb:PW X (.BoolOp .And (b::rest) pos) tB'):PW X (.BoolOp .And (a::b::rest) pos) (Uu tA tB'):=by
 intro wh V9 s σ H Q I h;refine isTrue_and (thn 1e44 fun c s1 ⟨H1,I1,q1⟩=>?_);cases c with
 | true=>exact hb wh V9 s1 σ H1 Q I1 q1
 | false=>exact⟨H1,I1,q1⟩
def GB(ha:PT X a tA)(hb:PW X (.BoolOp .Or (b::rest) pos) tB'):PW X (.BoolOp .Or (a::b::rest) pos) (VY tA tB'):=by
 intro wh V9 s σ H Q I h;refine isTrue_or (thn 1e44 fun c s1 ⟨H1,I1,q1⟩=>?_);cases c with
 | true=>exact⟨H1,I1,q1⟩
 | false=>exact hb wh V9 s1 σ H1 Q I1 q1
def rR(ha:PT X a tA):PT X (.UnaryOp .Not a pos) (Ux tA):=by
 intro V9 s σ H Q I h;exact isTrue_not (ha V9 s σ H (fun c H1=>Q (!c) H1) I h)
def L0(ta tb:TE):TE:=fun σ H Q=>ta σ H fun x H1=>∃ c,x=.bl c/\if c=true then tb σ H1 Q else Q (.bl false) H1
def RL(ta tb:TE):TE:=fun σ H Q=>ta σ H fun x H1=>∃ c,x=.bl c/\if c=true then Q (.bl true) H1 else tb σ H1 Q
def L5(ta:TE):TE:=fun σ H Q=>ta σ H fun x H1=>∃ c,x=.bl c/\Q (.bl (!c)) H1
def mM{op}(h:PE X a t):PE X (.BoolOp op [a] pos) t:=fun V9 s σ H Q I hw=>BoolOp_one (h V9 s σ H Q I hw)
def Ro(ha:PE X a ta)(hb:PE X (.BoolOp .And (b::rest) pos) tb):PE X (.BoolOp .And (a::b::rest) pos) (L0 ta tb):=by
 intro V9 s σ H Q I h;refine BoolOp_and (thn 1e44 fun v s1 ⟨x,H1,I1,r1,q1⟩=>?_);obtain⟨c,rfl,q1⟩:=q1;cases r1;refine wpAny_truthy_bool ?_;cases c with
 | true=>exact hb V9 s1 σ H1 Q I1 q1
 | false=>exact⟨.bl false,H1,I1,rfl,q1⟩
def OS(ha:PE X a ta)(hb:PE X (.BoolOp .Or (b::rest) pos) tb):PE X (.BoolOp .Or (a::b::rest) pos) (RL ta tb):=by
 intro V9 s σ H Q I h;refine BoolOp_or (thn 1e44 fun v s1 ⟨x,H1,I1,r1,q1⟩=>?_);obtain⟨c,rfl,q1⟩:=q1;cases r1;refine wpAny_truthy_bool ?_;cases c with
 | false=>exact hb V9 s1 σ H1 Q I1 q1
 | true=>exact⟨.bl true,H1,I1,rfl,q1⟩
def Rq(ha:PE X a ta):PE X (.UnaryOp .Not a pos) (L5 ta):=by
 intro V9 s σ H Q I h;refine UnaryOp_ (thn 1e44 fun v s1 ⟨x,H1,I1,r1,q1⟩=>?_);obtain⟨c,rfl,q1⟩:=q1;cases r1;exact not_of (wpAny_truthy_bool ⟨.bl (!c),H1,I1,rfl,q1⟩)
def VW(t:TT)(ta tb:TE):TE:=fun σ H Q=>t σ H fun c H1=>if c=true then ta σ H1 Q else tb σ H1 Q
def pY(hc:PT X c tA)(ha:PE X a ta)(hb:PE X b tb):PE X (.IfExp c a b pos) (VW tA ta tb):=by
 intro V9 s σ H Q I h;refine wpAny_IfExp (thn (hc V9 s σ H _ I h) fun d s1 ⟨H1,I1,q1⟩=>?_);cases d with
 | true=>exact ha V9 s1 σ H1 Q I1 q1
 | false=>exact hb V9 s1 σ H1 Q I1 q1
end
noncomputable def e9(K:q0B)(H:Hp)(a:Addr)(xs:List V):Prop :=
 Rd H a 1e20 \/
  ∃(o:Obj) (Wd:Array Value) (n:Nat),K.lookup a=some o/\o.cls=.type "list"/\o.dict=none/\o.data=.seq Wd n/\Wd.size<=sizeLine/\We xs Wd.toList
noncomputable def g9(K:q0B)(H:Hp)(a:Addr)(xs:List V):Prop :=
 Rd H a 1e54 \/
  ∃(o:Obj) (Wd:Array Value) (n:Nat),K.lookup a=some o/\o.cls=.type "tuple"/\o.data=.seq Wd n/\Wd.size<=sizeLine/\We xs Wd.toList
noncomputable def U9:Value->Option V
 | .none=>some .Wb
 | .bool b=>some (.bl b)
 | .int i _=>some (.int i)
 | .str x _=>some (.str x)
 | .bytes b _=>some (.byt b)
 | .float b _=>some (.flt b)
 | .ref a=>some 1e11
 | .type n=>some (.ty n)
 | _=>none
def bL.abs{x:V}(r:bL x u):U9 u=some x:=by
 cases x with
 | Wb=>cases r;rfl
 | bl _=>cases r;rfl
 | int _=>obtain⟨t,rfl⟩:=r;rfl
 | str _=>obtain⟨t,rfl⟩:=r;rfl
 | byt _=>obtain⟨t,rfl⟩:=r;rfl
 | flt _=>obtain⟨t,rfl⟩:=r;rfl
 | ref _=>cases r;rfl
 | ty _=>cases r;rfl
def bL.inj{x y:V}(r:bL x u)(q:bL y u):x=y:=Option.some.inj (r.abs.symm.trans q.abs)
def We.inj{ys:List V}(h:We xs us)(g:We ys us):xs=ys:=by
 induction h generalizing ys with
 | nil=>cases g;rfl
 | cons r t ih =>
  cases g with
  | cons r' t'=>rw[r.inj r',ih t']
section
variable{ys:List V}
def e9.of(h:H a=some 1e20):e9 K H a xs:=.inl (.inl h)
def g9.of(h:H a=some 1e54):g9 K H a xs:=.inl (.inl h)
theorem Wc.list(I:Wc X V9 σ H s)(h:e9 X.K H a xs):∃ Wd:List Value,We xs Wd/\PlainL s.heap a Wd.toArray/\xs.length<=sizeLine:=by
 rcases h with h|⟨o,Wd,n,hk,hc,hd,hs,hz,r⟩
 ·obtain⟨z,Wd,n,r,e⟩:=h.ok I.Wh;exact⟨Wd,r,⟨_,n,e,rfl,rfl,rfl⟩,z⟩
 ·refine⟨Wd.toList,r,⟨o,n,I.kIn a o hk,hc,hd,by simpa using hs⟩,?_⟩;have e:=r.length;simp only[Array.length_toList] at e;omega
theorem Wc.tuple(I:Wc X V9 σ H s)(h:g9 X.K H a xs):∃ Wd:List Value,We xs Wd/\IsTup s.heap a Wd.toArray/\xs.length<=sizeLine:=by
 rcases h with h|⟨o,Wd,n,hk,hc,hs,hz,r⟩
 ·obtain⟨z,Wd,r,p⟩:=h.ok I.Wh;exact⟨Wd,r,p,z⟩
 ·refine⟨Wd.toList,r,⟨o,I.kIn a o hk,hc,n,by simpa using hs⟩,?_⟩;have e:=r.length;simp only[Array.length_toList] at e;omega
def Wc.Ky(I:Wc X V9 σ H s)(h:e9 X.K H a xs)(h':e9 X.K H a ys):xs=ys:=by
 obtain⟨Wd,r,⟨o,n,e,_,_,d⟩,_⟩:=I.list h;obtain⟨its',r',⟨o',n',e',_,_,d'⟩,_⟩:=I.list h';rw[e] at e';cases e';rw[d] at d';injection d' with d1 _
 have:Wd=its':=by simpa using congrArg Array.toList d1
 subst this;exact r.inj r'
def Wc.IU(I:Wc X V9 σ H s)(h:g9 X.K H a xs)(h':g9 X.K H a ys):xs=ys:=by
 obtain⟨Wd,r,⟨o,e,_,n,d⟩,_⟩:=I.tuple h;obtain⟨its',r',⟨o',e',_,n',d'⟩,_⟩:=I.tuple h';rw[e] at e';cases e';rw[d] at d';injection d' with d1 _
 have:Wd=its':=by simpa using congrArg Array.toList d1
 subst this;exact r.inj r'
end
abbrev Cx.zP(X:Cx)(E:q0A):Cx:={X with xe:=E}
abbrev Cx.nox(X:Cx):Cx:=X.zP fun _ _=>False
def Cx.Ok.zP(ok:X.Ok)(E:q0A):(X.zP E).Ok :=
 ⟨ok.mod,ok.kind,ok.glob,ok.blt,ok.above,ok.inj,ok.has,ok.cab,ok.hd,ok.frames,ok.stk,ok.exf,ok.bs,ok.bsz,ok.CQ,ok.HP,ok.pM,ok.frf⟩
def Cx.Ok.mV(ok:(X.zP E).Ok):X.Ok :=
 ⟨ok.mod,ok.kind,ok.glob,ok.blt,ok.above,ok.inj,ok.has,ok.cab,ok.hd,ok.frames,ok.stk,ok.exf,ok.bs,ok.bsz,ok.CQ,ok.HP,ok.pM,ok.frf⟩
section
def Wc.zP(I:Wc X V9 σ H s)(E:q0A):Wc (X.zP E) V9 σ H s:=⟨I.ok.zP E,I.os,I.bare,I.base,I.loc,I.cell,I.free,I.j7,I.pin,I.Wh,I.len⟩
def Wc.mV(I:Wc (X.zP E) V9 σ H s):Wc X V9 σ H s:=⟨I.ok.mV,I.os,I.bare,I.base,I.loc,I.cell,I.free,I.j7,I.pin,I.Wh,I.len⟩
def SP.mV{f:Flow}(h:SP (X.zP E) V9 D f s'):SP X V9 D f s':=by
 cases f with
 | next=>obtain⟨σ',H',I,q⟩:=h;exact⟨σ',H',I.mV,q⟩
 | brk=>obtain⟨σ',H',I,q⟩:=h;exact⟨σ',H',I.mV,q⟩
 | cont=>obtain⟨σ',H',I,q⟩:=h;exact⟨σ',H',I.mV,q⟩
 | ret u=>obtain⟨v,σ',H',I,r,q⟩:=h;exact⟨v,σ',H',I.mV,r,q⟩
def Xy.nox{st:List Stmt}{t:TS}(h:Xy X.nox st t):Xy X st t:=fun V9 s σ H D I hw =>
 wpAny_mono (h V9 s σ H D (I.zP _) hw) (fun _ _ q=>q.mV) fun _ _ z=>False.elim z
end
section
variable{st:Stmt}{rest:List Stmt}{t u:TS}
def Hc:TS:=fun D σ H=>D.nx σ H
def Fb(t u:TS):TS:=fun D σ H=>t {D with nx:=u D} σ H
def NV:Xy X [] Hc:=fun _ _ σ H _ I h=>wpAny_execs_nil ⟨σ,H,I,h⟩
def aH(h1:PS X st t)(h2:Xy X rest u):Xy X (st::rest) (Fb t u):=by
 intro V9 s σ H D I h;refine wpAny_execs_cons (thn (h1 V9 s σ H {D with nx:=u D} I h) fun f s1 q=>?_);cases f with
 | next =>
  obtain⟨σ',H',I',q⟩:=q;exact h2 V9 s1 σ' H' D I' q
 | ret v=>exact q
 | brk=>exact q
 | cont=>exact q
def aG(h1:PS X st t):Xy X [st] t:=by
 intro V9 s σ H D I h;refine wpAny_execs_cons (thn (h1 V9 s σ H D I h) fun f s1 q=>?_);cases f with
 | next=>exact wpAny_execs_nil q
 | ret v=>exact q
 | brk=>exact q
 | cont=>exact q
def O9:TS:=fun D σ H=>D.ct σ H
def C8:PS X (.Continue pos) O9:=fun _ _ σ H _ I h=>wpAny_Continue ⟨σ,H,I,h⟩
def Wc.quiet(I:Wc X V9 σ H s):interactive X.env=false:=by simp[interactive,I.ok.kind]
def L4(te:TE):TS:=fun D σ H=>te σ H fun _ H1=>D.nx σ H1
def aM(he:PE X e te)(hs:swapsWith e none pos.line X.env=pure false:=by rfl):PS X (.Expr e pos) (L4 te):=by
 intro V9 s σ H D I h;exact wpAny_Expr_any (thn (he V9 s σ H _ I h) fun v s1 ⟨x,H1,I1,r1,q1⟩=>⟨σ,H1,I1,q1⟩) I.quiet hs
def RM(te:TE):TS:=fun D σ H=>te σ H D.rt
def aJ(he:PE X e te):PS X (.Return (some e) pos) (RM te):=by
 intro V9 s σ H D I h;exact wpAny_Return_some (thn (he V9 s σ H _ I h) fun v s1 ⟨x,H1,I1,r1,q1⟩=>⟨x,σ,H1,I1,r1,q1⟩)
def Pc:TS:=fun D _ H=>D.rt .Wb H
def uF:PS X (.Return none pos) Pc:=fun _ _ σ H _ I h=>wpAny_Return_none ⟨.Wb,σ,H,I,rfl,h⟩
def DD(c:TT)(t u:TS):TS:=fun D σ H=>c σ H fun b H1=>if b=true then t D σ H1 else u D σ H1
def fL{a b:List Stmt}{tc:TT}(hc:PT X c tc)(ha:Xy X a t)(hb:Xy X b u):PS X (.If c a b pos) (DD tc t u):=by
 intro V9 s σ H D I h;refine wpAny_If (thn (hc V9 s σ H _ I h) fun d s1 ⟨H1,I1,q1⟩=>?_);cases d with
 | true=>exact ha V9 s1 σ H1 D I1 q1
 | false=>exact hb V9 s1 σ H1 D I1 q1
end
abbrev TG:=V->St->Hp->(St->Hp->Prop)->Prop
variable{g:TG}
abbrev TGs:=List V->St->Hp->(St->Hp->Prop)->Prop
noncomputable def PG(X:Cx)(target:Expr)(t:TG):Prop :=
 ∀(V9:List 1e13) (s:Shared) (σ:St) (H:Hp) (v:V) (u:Value) (Q:St->Hp->Prop),Wc X V9 σ H s->bL v u->t v σ H Q ->
  wpAny 1e2 X.A (assign target X.env u) (fun _ s'=>∃ σ' H',Wc X V9 σ' H' s'/\Q σ' H') X.xe s
noncomputable def PGs(X:Cx)(ts:List Expr)(t:TGs):Prop :=
 ∀(V9:List 1e13) (s:Shared) (σ:St) (H:Hp) (vs:List V) (us:List Value) (Q:St->Hp->Prop),Wc X V9 σ H s->We vs us->t vs σ H Q ->
  wpAny 1e2 X.A (assignInOrder ((assignEach ts X.env).map (·.2)) us) (fun _ s'=>∃ σ' H',Wc X V9 σ' H' s'/\Q σ' H') X.xe s
abbrev TSet:=V->V->V->Hp->(Hp->Prop)->Prop
noncomputable def PSet(X:Cx)(t:TSet):Prop :=
 ∀(V9:List 1e13) (s:Shared) (σ:St) (H:Hp) (o i v:V) (ov iv u:Value) (Q:Hp->Prop),Wc X V9 σ H s->bL o ov->bL i iv->bL v u->t o i v H Q ->
  wpAny 1e2 X.A (setItem ov iv u) (fun _ s'=>∃ H',Wc X V9 σ H' s'/\Q H') X.xe s
abbrev TIp:=V->V->Hp->VK->Prop
noncomputable def PIp(X:Cx)(op:Operator)(t:TIp):Prop :=
 ∀(V9:List 1e13) (s:Shared) (σ:St) (H:Hp) (x y:V) (v u:Value) (Q:VK),Wc X V9 σ H s->bL x v->bL y u->t x y H Q ->
  wpAny 1e2 X.A (inplaceOp op v u) 1e43 X.xe s
section
def jF(i:Nat):TG:=fun v σ H Q=>Q (σ.set i (some v)) H
theorem uD(hN:X.N.Nodup)(hi:X.N[i]?=some x)(hx:Loc X.env.scope x)(hf:X.fn x=true\/X.env.scope.names.lookup x=some .local:=by first|exact .inl rfl|exact .inr rfl|assumption):PG X (.Name x pos) (jF i):=by
 intro V9 s σ H v u Q I r h;exact wpAny_assign_Name (yK I hN hi hx r (fun s' I'=>⟨_,H,I',h⟩) hf)
def Nj:TGs:=fun vs σ H Q=>vs=[]/\Q σ H
def FV(t:TG)(u:TGs):TGs:=fun vs σ H Q=>∃ v r,vs=v::r/\t v σ H fun σ' H'=>u r σ' H' Q
def uE:PGs X [] Nj:=by
 intro V9 s σ H vs us Q I r h;obtain⟨e,h⟩:=h;subst e;cases r;exact assignInOrder_nil ⟨σ,H,I,h⟩
def eW{t:TG}{u:TGs}(h1:PG X e t)(h2:PGs X es u)(hs:(assignEach (e::es) X.env).map (·.2)=assign e X.env::(assignEach es X.env).map (·.2):=by rfl):PGs X (e::es) (FV t u):=by
 intro V9 s σ H vs us Q I r h;obtain⟨v,vr,e1,h⟩:=h;subst e1;cases r with
 | cons r rr =>
  rw[hs];refine assignInOrder_cons (thn (h1 V9 s σ H _ _ _ I r h) fun _ s1 ⟨σ1,H1,I1,q1⟩=>?_);exact h2 V9 s1 σ1 H1 _ _ Q I1 rr q1
def Nk(K:q0B)(n:Nat)(t:TGs):TG:=fun v σ H Q=>∃ a xs,v=.ref a/\g9 K H a xs/\xs.length=n/\t xs σ H Q
def Lu{t:TGs}(hc:X.calm=true)(h:PGs X es t)(hn:(assignEach es X.env).length=n:=by rfl)(Wq:(assignEach es X.env).findIdx? (·.1)=none:=by rfl):PG X (.Tuple es k pos) (Nk X.K n t):=by
 intro V9 s σ H v u Q I r hw;obtain⟨a,xs,e1,hq,hl,hw⟩:=hw;subst e1;cases r;obtain⟨Wd,rv,ht,hz⟩:=I.tuple hq;refine assign_Tuple_tuple (I.ok.hd hc) ht (by simp[hn,<- hl,rv.length]) Wq fun h' hx=>?_;have I1:Wc X V9 σ H {s with heap:=h'}:=I.kept (t':=s.toks) fun b o e=>hx b o (Nat.ne_of_lt 1e26) e;exact h V9 _ σ H xs _ Q I1 (by simpa using rv) hw
def Tv(to ti:TE)(t:TSet):TG:=fun v σ H Q=>to σ H fun o H1=>ti σ H1 fun i H2=>t o i v H2 fun H3=>Q σ H3
def rP{o i:Expr}{to ti:TE}{t:TSet}(ho:PE X o to)(hi:PE X i ti)(hs:PSet X t)
    (ha:∀ v,assign (.Subscript o i pos) X.env v=(do
      let ov <- holding [v] (eval o X.env);let iv <- holding [v,ov] (eval i X.env)
      standAt pos
      holding [v,ov,iv] (setItem ov iv v)
      release [v,ov,iv] []):=by intro _;rfl):PG X (.Subscript o i pos) (Tv to ti t):=by
  intro V9 s σ H v u Q I r h;rw[ha];refine wpAny_bind (wpAny_holding (thn 1e61 fun ov s1 ⟨x,H1,I1,r1,q1⟩=>?_));refine wpAny_bind (wpAny_holding (thn (hi V9 s1 σ H1 _ I1 q1) fun iv s2 ⟨y,H2,I2,r2,q2⟩=>?_));refine wpAny_bind (wpAny_standAt (wpAny_bind (wpAny_holding (thn (hs V9 s2 σ H2 x y v ov iv u _ I2 r1 r2 r q2) fun _ s3 ⟨H3,I3,q3⟩=>?_))));exact wpAny_release ⟨σ,H3,I3,q3⟩
def IS(te:TE)(g:TG):TS:=fun D σ H=>te σ H fun x H1=>g x σ H1 D.nx
def lF(he:PE X e te)(hg:PG X tg g)(hs:swapsWithSole [tg] e pos.line X.env=pure false:=by rfl)(hw:swappedStores [tg] e X.env=pure none:=by rfl)(h1:(assignEach [tg] X.env).map (·.2)=[assign tg X.env]:=by rfl):PS X (.Assign [tg] e pos) (IS te g):=by
 intro V9 s σ H D I h;refine wpAny_Assign_stores (thn (he V9 s σ H _ I h) fun v s1 ⟨x,H1,I1,r1,q1⟩=>?_) hs hw;rw[h1];exact thn (hg V9 s1 σ H1 x v _ I1 r1 q1) fun _ s2 q=>q
theorem EU{pos':Pos}(hN:X.N.Nodup)(hi:X.N[i]?=some x)(hx:Loc X.env.scope x)(he:PE X e te)(hs:swapsWith e (some (.Name x pos')) pos.line X.env=pure false:=by rfl)(hf:X.fn x=true\/X.env.scope.names.lookup x=some .local:=by first|exact .inl rfl|exact .inr rfl|assumption) : PS X (.Assign [.Name x pos'] e pos) (IS te (jF i)):=by
 intro V9 s σ H D I h;refine wpAny_Assign_Name (thn (he V9 s σ H _ I h) fun v s1 ⟨y,H1,I1,r1,q1⟩=>?_) hs;exact yK I1 hN hi hx r1 (fun s2 I2=>⟨_,H1,I2,q1⟩) hf
def Uv(i:Nat)(te:TE)(ti:TIp):TS:=fun D σ H=>∃ x,σ[i]?=some (some x)/\te σ H fun y H1=>ti x y H1 fun z H2=>D.nx (σ.set i (some z)) H2
theorem Rt{op:Operator}{ti:TIp}{pos':Pos}(hN:X.N.Nodup)(hi:X.N[i]?=some x)(hx:Loc X.env.scope x)(he:PE X e te)(ho:PIp X op ti)(hf:X.fn x=true\/X.env.scope.names.lookup x=some .local:=by first|exact .inl rfl|exact .inr rfl|assumption) : PS X (.AugAssign (.Name x pos') op e pos) (Uv i te ti):=by
 intro V9 s σ H D I h;obtain⟨v,e1,h⟩:=h;obtain⟨m,hn,hl⟩:=I.loc;have vis:Vis X.env.scope x:=by rcases hx with k|k;exact .inl k;exact .inr (.inl k)
 obtain⟨u,r,l⟩:=hl i x v hi e1 vis;refine wpAny_AugAssign_Name ?_;have go:wpAny 1e2 X.A (eval e X.env) (fun w s₂=>wpAny 1e2 X.A (inplaceOp op u w) (fun r s₃=>wpAny 1e2 X.A (storeName X.env x r) (fun _=>SP X V9 D .next) X.xe s₃) X.xe s₂) X.xe s:=by
  refine thn (he V9 s σ H _ I h) fun w s1 ⟨y,H1,I1,r1,q1⟩=>?_;refine thn (ho V9 s1 σ H1 v y u w _ I1 r r1 q1) fun z s2 ⟨zv,H2,I2,r2,q2⟩=>?_;exact yK I2 hN hi hx r2 (fun s3 I3=>⟨_,H2,I3,q2⟩) hf
 rcases l with⟨hk,hm⟩|⟨hk,c,hc,X2⟩
 ·exact wpAny_loadName_local I.ok.kind hk hn hm go
 ·rcases hk with hk|hk
  ·exact wpAny_loadName_cell I.ok.kind hk hc X2 go
  ·rcases hx with k|k
   ·have:X.env.scope.names.lookup x=some .free:=hk;rw[k] at this;cases this
   ·have:X.env.scope.names.lookup x=some .free:=hk;rw[k] at this;cases this
noncomputable def O0(to ti te:TE)(XY:V->V->Hp->VK->Prop)(tip:TIp)(X0:TSet):TS:=fun D σ H=>to σ H fun o H1=>ti σ H1 fun i H2=>XY o i H2 fun x H3=>te σ H3 fun y H4=>tip x y H4 fun z H5=>X0 o i z H5 fun H6=>D.nx σ H6
noncomputable def PGet(X:Cx)(t:V->V->Hp->VK->Prop):Prop :=
 ∀(V9:List 1e13) (s:Shared) (σ:St) (H:Hp) (o i:V) (ov iv:Value) (Q:VK),Wc X V9 σ H s->bL o ov->bL i iv->t o i H Q ->
  wpAny 1e2 X.A (getItem ov iv) 1e43 X.xe s
def NS{o i:Expr}{to ti:TE}{XY:V->V->Hp->VK->Prop}{tip:TIp}{X0:TSet}{op:Operator}{Y4:Pos}(ho:PE X o to)(hi:PE X i ti)(hg:PGet X XY)(he:PE X e te)(hp:PIp X op tip)(hs:PSet X X0)
    (ha:∀ ov iv new,augStore i ov iv new=(do holding [new,ov,iv] (setItem ov iv new);release [new,ov,iv] [];pure .next):=by intros;rfl):PS X (.AugAssign (.Subscript o i Y4) op e pos) (O0 to ti te XY tip X0):=by
  intro V9 s σ H D I h;refine wpAny_AugAssign_SubscriptAny (thn 1e61 fun ov s1 ⟨x1,H1,I1,r1,q1⟩=>?_) ha;refine thn (hi V9 s1 σ H1 _ I1 q1) fun iv s2 ⟨x2,H2,I2,r2,q2⟩=>?_;refine thn (hg V9 s2 σ H2 x1 x2 ov iv _ I2 r1 r2 q2) fun old s3 ⟨x3,H3,I3,r3,q3⟩=>?_;refine thn (he V9 s3 σ H3 _ I3 q3) fun v s4 ⟨x4,H4,I4,r4,q4⟩=>?_;refine thn (hp V9 s4 σ H4 x3 x4 old v _ I4 r3 r4 q4) fun new s5 ⟨x5,H5,I5,r5,q5⟩=>?_;exact thn (hs V9 s5 σ H5 x1 x2 x5 ov iv new _ I5 r1 r2 r5 q5) fun _ s6 ⟨H6,I6,q6⟩=>⟨σ,H6,I6,q6⟩
def V4(f:Int->Int->Int):TIp:=fun x y H Q=>∃ i j,x=.int i/\y=.int j/\Q (.int (f i j)) H
def QZ:PIp X .Add (V4 fun i j=>i+j):=by
 intro V9 s σ H x y v u Q I r1 r2 h;obtain⟨i,j,e1,e2,q⟩:=h;subst e1;subst e2;obtain⟨t,rfl⟩:=r1;obtain⟨t',rfl⟩:=r2;exact iadd_int ⟨.int _,H,I.tok _,⟨_,rfl⟩,q⟩
end
section
noncomputable def Fc(c:TT)(tb:TS):TS:=fun D σ H=>∃ W:Nat->St->Hp->Prop,(∃ m,W m σ H)/\∀ m σ H,W m σ H ->
 c σ H fun b H1=>if b=true then ∃ N:St->Hp->Prop,(∀ σ' H',N σ' H'->∃ m',m' < m/\W m' σ' H')/\tb {D with nx:=N,ct:=N,bk:=D.nx} σ H1 else D.nx σ H1
def qA{tc:TT}(hp:PassesOwn 1e2 X.A X.env X.xe)(hc:PT X c tc)(hb:Xy X body tb):PS X (.While c body [] pos) (Fc tc tb):=by
 intro V9 s σ H D I h;obtain⟨W,⟨m0,w0⟩,turn⟩:=h;refine wpAny_While (codeAny_whileLoop (fun n s'=>∃ σ' H',Wc X V9 σ' H' s'/\W n σ' H') ?_ m0 ⟨σ,H,I,w0⟩);rintro n s1 ⟨σ1,H1,I1,w1⟩;refine wpAny_passesOwn hp (thn (hc V9 s1 σ1 H1 _ I1 (turn n σ1 H1 w1)) fun b s2 ⟨H2,I2,q2⟩=>?_);cases b with
 | true =>
  obtain⟨N,hN,q2⟩:=q2;rw[if_pos rfl];refine wpAny_passesOwn hp (thn (hb V9 s2 σ1 H2 _ I2 q2) fun f s3 q3=>?_);cases f with
  | next =>
   obtain⟨σ3,H3,I3,n3⟩:=q3;obtain⟨m',hm,w3⟩:=hN σ3 H3 n3;exact⟨m',hm,σ3,H3,I3,w3⟩
  | cont =>
   obtain⟨σ3,H3,I3,n3⟩:=q3;obtain⟨m',hm,w3⟩:=hN σ3 H3 n3;exact⟨m',hm,σ3,H3,I3,w3⟩
  | brk=>exact q3
  | ret v=>exact q3
 | false =>
  rw[if_neg Bool.false_ne_true];exact wpAny_execs_nil ⟨σ1,H2,I2,q2⟩
end
set_option genInjectivity false in
structure It where
 go:Nat->Hp->Prop
 X9:Nat->Hp->V->Hp->Prop
 stop:Nat->Hp->Prop
noncomputable def lV(X:Cx)(V9:List 1e13)(H:Hp)(b:Addr):Prop :=
 H b=none/\b≠X.env.locals/\b∉X.fs/\(b∈X.ex\/X.s₀.heap.objs.size<=b)/\(∀ x c,X.env.cells.lookup x=some c->c≠b)/\∀ p∈X.pn++V9,p.1≠b
def Wc.HS{H':Hp}(I:Wc X V9 σ H s)(hb:s.heap.objs.size<=b)(hn:H' b=none):lV X V9 H' b:=by
 refine⟨hn,Nat.ne_of_gt (Nat.lt_of_lt_of_le I.lt hb),I.Rc hb,.inr (Nat.le_trans I.sz hb),fun x c e z=>?_,fun p hp z=>?_⟩
 ·obtain⟨v,q⟩:=I.cell x c e;exact absurd (Nat.lt_of_lt_of_le q.lt (by rw[z];exact hb)) (Nat.lt_irrefl _)
 ·exact absurd (Nat.lt_of_lt_of_le (Heap.lt_size (I.pin p hp).1) (by rw[z];exact hb)) (Nat.lt_irrefl _)
structure Turn(P:Program)(w:World)(K:q0B)(tg:Expr)(J:It)(fp:List Addr)(it:Addr)(tn:Nat->Heap->Prop):Prop where
 mem:it∈fp
 obj:∀ i h,tn i h->∀ b∈fp,∃ o,h.get? b=some o/\∀ v,o.data≠.cell v
 keep:∀ i h h',tn i h->(∀ b∈fp,∀ o,h.get? b=some o->h'.get? b=some o)->tn i h'
 item:∀(X:Cx),X.prog=P->X.w=w->X.K=K->X.calm=true->∀(i:Nat) (V9:List 1e13) (s:Shared) (σ:St) (H:Hp) (E:q0A),Wc X V9 σ H s->(∀ b∈fp,lV X V9 H b)->tn i s.heap->J.go i H ->
  wpAny (model P w) X.A (pyNext (.ref it)) (fun r s1=>∃ u,r=some u /\
   wpAny (model P w) X.A (letOwnedTupleGo tg (.ref it) u) (fun _ s2=>∃ x H',Wc X V9 σ H' s2/\bL x u/\J.X9 i H x H'/\tn (i+1) s2.heap/\∀ b∈fp,H' b=none) E s1) E s
 done:∀(X:Cx),X.prog=P->X.w=w->X.K=K->X.calm=true->∀(i:Nat) (V9:List 1e13) (s:Shared) (σ:St) (H:Hp) (E:q0A),Wc X V9 σ H s->(∀ b∈fp,lV X V9 H b)->tn i s.heap->J.stop i H ->
  wpAny (model P w) X.A (pyNext (.ref it)) (fun r s1=>r=none/\Wc X V9 σ H s1) E s
 self:∀(A:Around) (i:Nat) (s:Shared) (Q:q0A) (E:q0A),tn i s.heap->Q (.ref it) s->wpAny (model P w) A (pyIter (.ref it)) Q E s
abbrev TI:=St->Hp->(It->Hp->Prop)->Prop
noncomputable def PIE(X:Cx)(V9:List 1e13)(σ:St)(tg:Expr)(R:It->Hp->Prop)(itv:Value)(s2:Shared):Prop :=
 ∃(it:Addr) (fp:List Addr) (tn:Nat->Heap->Prop) (J:It) (H':Hp),itv=.ref it/\Wc X V9 σ H' s2/\Turn X.prog X.w X.K tg J fp it tn/\tn 0 s2.heap/\(∀ b∈fp,lV X V9 H' b)/\R J H'
noncomputable def PI(X:Cx)(tg iter:Expr)(wi:TI):Prop :=
 ∀(V9:List 1e13) (s:Shared) (σ:St) (H:Hp) (R:It->Hp->Prop),Wc X V9 σ H s->wi σ H R ->
  wpAny 1e2 X.A (eval iter X.env) (fun v s1=>wpAny 1e2 X.A (pyIter v) (PIE X V9 σ tg R) X.xe s1) X.xe s
def FW{it:Addr}{n:String}{vs:Array Value}(ho:s.heap.get? it=some o)(hc:o.cls=.type n)(hd:o.data=.fields vs)(hn:["enumerate","zip","dict_itemiterator","dict_reverseitemiterator","odict_iterator","itertools.zip_longest","itertools.pairwise"].contains n=false)(hQ:Q () s):wpAny M A (letOwnedTupleGo tg (.ref it) u) Q E s:=by
  unfold letOwnedTupleGo;cases tg<;>first
    | exact wpAny_pure hQ
    | (cases u<;>first
        | exact wpAny_pure hQ
        | (refine wpAny_bind (wpAny_load ho ?_)
           rw[hc,hd];show wpAny M A (if (["enumerate","zip","dict_itemiterator","dict_reverseitemiterator","odict_iterator","itertools.zip_longest","itertools.pairwise"].contains n&&vs[0]?==some (rawInt _))=true then _ else _) Q E s;rw[if_neg (by intro h;rw[hn,Bool.false_and] at h;cases h)];exact wpAny_pure hQ))
noncomputable def Yb(K:q0B)(a:Addr):It :=
 ⟨fun i H=>∃ xs x,e9 K H a xs/\xs[i]?=some x,fun i H x H'=>H'=H/\∀ xs,e9 K H a xs->xs[i]?=some x,fun i H=>∃ xs,e9 K H a xs/\xs.length<=i⟩
noncomputable def Itt(K:q0B)(a:Addr):It :=
 ⟨fun i H=>∃ xs x,g9 K H a xs/\xs[i]?=some x,fun i H x H'=>H'=H/\∀ xs,g9 K H a xs->xs[i]?=some x,fun i H=>∃ xs,g9 K H a xs/\xs.length<=i⟩
def Yr(lo:Int)(n:Nat):It:=⟨fun i _=>i < n,fun i H x H'=>H'=H/\x=.int (lo+i),fun i _=>n<=i⟩
theorem IW(a it:Addr):Turn P w K tg (Yb K a) [it] it (fun i h=>h.IsListIter it a i) where
 mem:=by simp
 obj:=fun i h st b hb=>by
  have e:b=it:=by simpa using hb
  subst e;obtain⟨o,e,c,d⟩:=st;exact⟨o,e,fun v z=>by rw[d] at z;cases z⟩
 keep:=fun i h h' st k=>st.at fun o e=>k it 1e1 o e
 item:=by
  intro X hP hw hK hc i V9 s σ H E I hf st hg;subst hP hw hK;obtain⟨xs,x,hq,hx⟩:=hg;obtain⟨Wd,rv,p,hz⟩:=I.list hq;obtain⟨u,hu,ru⟩:=rv.get hx;obtain⟨f0,f1,f2,f3,f4,f5⟩:=hf it 1e1;refine wpAny_pyNext_list_item st p.isList (x:=u) (by simpa using hu) fun h' WB sb=>?_;have I1:Wc X V9 σ H {s with heap:=h'}:=I.turned (t':=s.toks) (fun b o hb e=>(sb.2 b hb).trans e) f0 f1 f3 f4 f5;obtain⟨o,e,c,d⟩:=id WB;exact⟨u,rfl,FW (s:={s with heap:=h'}) e c d 1e6 ⟨x,H,I1,ru,⟨rfl,fun ys hy=>by rw[I.Ky hy hq];exact hx⟩,WB,fun b hb=>(hf b hb).1⟩⟩
 done:=by
  intro X hP hw hK hc i V9 s σ H E I hf st hg;subst hP hw hK;obtain⟨xs,hq,hx⟩:=hg;obtain⟨Wd,rv,p,hz⟩:=I.list hq;obtain⟨f0,f1,f2,f3,f4,f5⟩:=hf it 1e1;have hl:=rv.length;exact wpAny_pyNext_list_end (I.ok.hd hc) st p.isList (by simp;omega) fun h' eb=>⟨rfl,I.turned (t':=s.toks) (fun b o hb e=>eb b o hb e) f0 f1 f3 f4 f5⟩
 self:=fun _ _ _ _ _ st h=>wpAny_pyIter_listiter st h
theorem Fg(a it:Addr):Turn P w K tg (Itt K a) [it] it (fun i h=>h.IsTupleIter it a i) where
 mem:=by simp
 obj:=fun i h st b hb=>by
  have e:b=it:=by simpa using hb
  subst e;obtain⟨o,e,c,d⟩:=st;exact⟨o,e,fun v z=>by rw[d] at z;cases z⟩
 keep:=fun i h h' st k=>st.at fun o e=>k it 1e1 o e
 item:=by
  intro X hP hw hK hc i V9 s σ H E I hf st hg;subst hP hw hK;obtain⟨xs,x,hq,hx⟩:=hg;obtain⟨Wd,rv,p,hz⟩:=I.tuple hq;obtain⟨u,hu,ru⟩:=rv.get hx;obtain⟨f0,f1,f2,f3,f4,f5⟩:=hf it 1e1;refine wpAny_pyNext_tuple_item st (show s.heap.IsTuple a Wd.toArray from p) (x:=u) (by simpa using hu) fun h' WB sb=>?_;have I1:Wc X V9 σ H {s with heap:=h'}:=I.turned (t':=s.toks) (fun b o hb e=>(sb.2 b hb).trans e) f0 f1 f3 f4 f5;obtain⟨o,e,c,d⟩:=id WB;exact⟨u,rfl,FW (s:={s with heap:=h'}) e c d 1e6 ⟨x,H,I1,ru,⟨rfl,fun ys hy=>by rw[I.IU hy hq];exact hx⟩,WB,fun b hb=>(hf b hb).1⟩⟩
 done:=by
  intro X hP hw hK hc i V9 s σ H E I hf st hg;subst hP hw hK;obtain⟨xs,hq,hx⟩:=hg;obtain⟨Wd,rv,p,hz⟩:=I.tuple hq;obtain⟨f0,f1,f2,f3,f4,f5⟩:=hf it 1e1;have hl:=rv.length;exact wpAny_pyNext_tuple_end (I.ok.hd hc) st (show s.heap.IsTuple a Wd.toArray from p) (by simp;omega) fun h' eb=>⟨rfl,I.turned (t':=s.toks) (fun b o hb e=>eb b o hb e) f0 f1 f3 f4 f5⟩
 self:=fun _ _ _ _ _ st h=>wpAny_pyIter_tupleiter st h
theorem Ff(it:Addr)(lo:Int)(n:Nat):Turn P w K tg (Yr lo n) [it] it (fun i h=>IsRangeIter h it (lo+(i:Nat) * 1) ((n:Int) - (i:Nat)) 1) where
 mem:=by simp
 obj:=fun i h st b hb=>by
  have e:b=it:=by simpa using hb
  subst e;exact⟨_,st,fun v z=>by
   have z':Data.fields _=Data.cell v:=z;cases z'⟩
 keep:=fun i h h' st k=>k it 1e1 _ st
 item:=by
  intro X hP hw hK hc i V9 s σ H E I hf st hg;subst hP hw hK;obtain⟨f0,f1,f2,f3,f4,f5⟩:=hf it 1e1;have W:=Walks.range (prog:=X.prog) (w:=X.w) (I.ok.hd hc) it lo 1 n;refine W.item i s _ _ hg st fun v h' tk hv WB kk=>?_;obtain⟨t,rfl⟩:=hv;have I1:Wc X V9 σ H {s with heap:=h',toks:=tk}:=I.turned (fun b o hb e=>kk b o (by simpa using hb) e) f0 f1 f3 f4 f5;refine⟨_,rfl,FW (s:={s with heap:=h',toks:=tk}) (n:="range_iterator") WB rfl rfl 1e6 ⟨.int (lo+i),H,I1,⟨t,?_⟩,⟨rfl,rfl⟩,WB,fun b hb=>(hf b hb).1⟩⟩;rw[Int.mul_one]
 done:=by
  intro X hP hw hK hc i V9 s σ H E I hf st hg;subst hP hw hK;obtain⟨f0,f1,f2,f3,f4,f5⟩:=hf it 1e1;exact wpAny_pyNext_range_end (I.ok.hd hc) st (by have:n<=i:=hg;omega) fun h' eb=>⟨rfl,I.turned (t':=s.toks) (fun b o hb e=>eb b o hb e) f0 f1 f3 f4 f5⟩
 self:=fun _ _ _ _ _ st h=>wpAny_pyIter_rangeiter st h
section
def wD(K:q0B)(tl:TE):TI:=fun σ H R=>tl σ H fun x H1=>∃ a,x=.ref a/\(∃ xs,e9 K H1 a xs)/\R (Yb K a) H1
def Kn(K:q0B)(tl:TE):TI:=fun σ H R=>tl σ H fun x H1=>∃ a,x=.ref a/\(∃ xs,g9 K H1 a xs)/\R (Itt K a) H1
def nG{l:Expr}{tl:TE}(hl:PE X l tl):PI X tg l (wD X.K tl):=by
 intro V9 s σ H R I h;refine thn (hl V9 s σ H _ I h) fun v s1 ⟨x,H1,I1,r1,q1⟩=>?_;obtain⟨a,e,⟨xs,hq⟩,q⟩:=q1;subst e;cases r1;obtain⟨Wd,rv,p,hz⟩:=I1.list hq;refine wpAny_pyIter_list p.isList ?_;refine⟨s1.heap.objs.size,[s1.heap.objs.size],_,_,H1,rfl,I1.kept (t':=s1.toks) fun b o e=>Heap.get?_push_of_some _ e,IW a _,⟨_,Heap.get?_push_size _ rfl,rfl,rfl⟩,fun b hb=>?_,q⟩;have e:b=s1.heap.objs.size:=by simpa using hb
 subst e;exact I1.HS 1e5 (I1.Wh.fresh 1e5)
def Lv{l:Expr}{tl:TE}(hl:PE X l tl):PI X tg l (Kn X.K tl):=by
 intro V9 s σ H R I h;refine thn (hl V9 s σ H _ I h) fun v s1 ⟨x,H1,I1,r1,q1⟩=>?_;obtain⟨a,e,⟨xs,hq⟩,q⟩:=q1;subst e;cases r1;obtain⟨Wd,rv,p,hz⟩:=I1.tuple hq;refine wpAny_pyIter_tuple (show s1.heap.IsTuple a Wd.toArray from p) ?_;refine⟨s1.heap.objs.size,[s1.heap.objs.size],_,_,H1,rfl,I1.kept (t':=s1.toks) fun b o e=>Heap.get?_push_of_some _ e,Fg a _,⟨_,Heap.get?_push_size _ rfl,rfl,rfl⟩,fun b hb=>?_,q⟩;have e:b=s1.heap.objs.size:=by simpa using hb
 subst e;exact I1.HS 1e5 (I1.Wh.fresh 1e5)
theorem Lx{R:It->Hp->Prop}{lo hi:Int}{t u v:Tok}{tk:Nat}(I:Wc X V9 σ H s)(h1:-(2 ^ 62)<=lo)(h2:lo < 2 ^ 62)(h3:-(2 ^ 62)<=hi)(h4:hi < 2 ^ 62)(q:R (Yr lo (hi - lo).toNat) H):wpAny 1e2 X.A (pyIter 1e33) (PIE X V9 σ tg R) E {s with heap:=s.heap.push {cls:=.type "range",data:=.fields #[.int lo t,.int hi u,.int 1 v]},toks:=tk}:=by
 refine wpAny_pyIter_range (IsRange.new ..) (small_one h1 h2 h3 h4) ?_;have I1:Wc X V9 σ H {s with heap:=s.heap.push {cls:=.type "range",data:=.fields #[.int lo t,.int hi u,.int 1 v]},toks:=tk}:=I.kept fun b o e=>Heap.get?_push_of_some _ e;refine⟨(s.heap.push {cls:=.type "range",data:=.fields #[.int lo t,.int hi u,.int 1 v]}).objs.size,[(s.heap.push {cls:=.type "range",data:=.fields #[.int lo t,.int hi u,.int 1 v]}).objs.size],_,_,H,rfl,
  I1.kept (t':=tk) fun b o e=>Heap.get?_push_of_some _ e,Ff _ lo (hi - lo).toNat,?_,fun b hb=>?_,q⟩
 ·have e1:lo+((0:Nat):Int) * 1=lo:=by simp
  have e2:(((hi - lo).toNat:Nat):Int) - ((0:Nat):Int)=Builtin.Range.rangeSize lo hi 1:=by rw[rangeSize_one];split<;>omega
  show IsRangeIter _ _ (lo+((0:Nat):Int) * 1) ((((hi - lo).toNat:Nat):Int) - ((0:Nat):Int)) 1;rw[e1,e2];exact Heap.get?_push_size _ rfl
 ·have e:b=(s.heap.push {cls:=.type "range",data:=.fields #[.int lo t,.int hi u,.int 1 v]}).objs.size:=by simpa using hb
  subst e;exact I1.HS 1e5 (I1.Wh.fresh 1e5)
def Cw(ta:TA):TI:=fun σ H R=>ta σ H fun vs H1=>∃ j:Int,vs=[.int j]/\-(2 ^ 62)<=j/\j < 2 ^ 62/\R (Yr 0 j.toNat) H1
theorem nH{a:Expr}{ta:TA}{p:Pos}(hg:Gl X "range")(hm:X.mg "range"=none)(ha:PA X [a] ta)(hs:starEach [a] X.env=[(false,eval a X.env)]:=by rfl):PI X tg (.Call (.Name "range" p) [a] [] pos) (Cw ta):=by
 intro V9 s σ H R I h;refine Call_ (Bq I hg hm boot_range (PyProof.Rows.callWith_type1 (thn (ha pos V9 s σ H _ I h) fun us s1 ⟨vs,H1,I1,r1,q1⟩=>?_) hs rfl));obtain⟨j,e,q1,q2,q⟩:=q1;subst e;cases r1 with
 | cons r rr =>
  cases rr;obtain⟨t,rfl⟩:=r;exact call_range_1 (Lx I1 1e0 1e0 q1 q2 (by simpa using q))
noncomputable def E8(wi:TI)(g:TG)(tb:TS):TS:=fun D σ H=>wi σ H fun J H1=>∃ W:Nat->Nat->St->Hp->Prop,(∃ m,W 0 m σ H1)/\∀ i m σ H,W i m σ H ->
 (J.stop i H/\D.nx σ H)\/(J.go i H/\∃ N:St->Hp->Prop,(∀ σ' H',N σ' H'->∃ m',m' < m/\W (i+1) m' σ' H')/\∀ x H',J.X9 i H x H'->g x σ H' fun σ2 H2=>tb {D with nx:=N,ct:=N,bk:=D.nx} σ2 H2)
def rQ(fp:List Addr)(h:Heap):List 1e13:=fp.filterMap fun b=>(h.get? b).map fun o=>(b,o)
def gY(hb:b∈fp)(e:h.get? b=some o):(b,o)∈rQ fp h:=List.mem_filterMap.mpr ⟨b,hb,by rw[e];rfl⟩
def Io{p:Addr×Obj}(hp:p∈rQ fp h):p.1∈fp/\h.get? p.1=some p.2:=by
 obtain⟨b,hb,e⟩:=List.mem_filterMap.mp hp;cases q:h.get? b with
 | none=>rw[q] at e;cases e
 | some o =>
  rw[q] at e;have e':(b,o)=p:=Option.some.inj e;subst e';exact⟨hb,q⟩
def Wc.pinned(I:Wc X V9 σ H s)(hf:∀ b∈fp,lV X V9 H b)(ho:∀ b∈fp,∃ o,s.heap.get? b=some o/\∀ v,o.data≠.cell v):Wc X (V9++rQ fp s.heap) σ H s :=
 I.jK fun p hp=>(List.mem_append.mp hp).elim (fun z=>I.pin p (List.mem_append_right _ z)) fun z=>by
  obtain⟨hb,e⟩:=Io z;obtain⟨f0,f1,f2,_⟩:=hf p.1 hb;obtain⟨o,e',d⟩:=ho p.1 hb;rw[e] at e';cases e';exact⟨e,f0,f1,f2,d⟩
def Wc.yP{pl:List 1e13}(I:Wc X (V9++pl) σ H s):Wc X V9 σ H s:=I.jK fun p hp=>I.pin p (List.mem_append_right _ (List.mem_append_left _ hp))
def BF{iter:Expr}{wi:TI}(hp:PassesOwn 1e2 X.A X.env X.xe)(hc:X.calm=true)(hi:PI X tg iter wi)(hg:PG X tg g)(hb:Xy X body tb)(hs:∀ x,foldedSetIterable iter X.env x=pure x:=by intro _;rfl):PS X (.For tg iter body [] pos) (E8 wi g tb):=by
 intro V9 s σ H D I h;refine wpAny_For (thn (hi V9 s σ H _ I h) fun v s1 h1=>thn h1 fun itv s2 h2=>?_) hs;obtain⟨it,fp,tn,J,H2,e,I2,T,XX,f2,W,⟨m0,w0⟩,turn⟩:=h2;subst e;have Xh:∀ {H':Hp},(∀ b∈fp,H' b=none)->∀ b∈fp,lV X V9 H' b:=fun hn b hb=>⟨hn b hb,(f2 b hb).2⟩;refine codeAny_forLoop_any (fun n s'=>∃ i σ' H',Wc X V9 σ' H' s'/\tn i s'.heap/\(∀ b∈fp,H' b=none)/\W i n σ' H') ?_ m0 ⟨0,σ,H2,I2,XX,fun b hb=>(f2 b hb).1,w0⟩;rintro n s3 ⟨i,σ3,H3,I3,Zh,ZC,w3⟩;rcases turn i n σ3 H3 w3 with⟨stop,qn⟩|⟨go,N,hN,step⟩
 ·refine wpAny_passesOwn hp (thn (T.done X rfl rfl rfl hc i V9 s3 σ3 H3 X.xe I3 (Xh ZC) Zh stop) fun r s4 ⟨hr,I4⟩=>?_);subst hr;exact wpAny_execs_nil ⟨σ3,H3,I4,qn⟩
 ·refine wpAny_passesOwn hp (thn (T.item X rfl rfl rfl hc i V9 s3 σ3 H3 X.xe I3 (Xh ZC) Zh go) fun r s4 ⟨u,hr,h4⟩=>?_);subst hr;refine wpAny_passesOwn hp (thn h4 fun _ s5 ⟨x,H5,I5,r5,y5,st5,fr5⟩=>?_);have I5':=I5.pinned (Xh fr5) (T.obj _ _ st5);refine wpAny_passesOwn hp (thn (hg _ s5 σ3 H5 x u _ I5' r5 (step x H5 y5)) fun _ s6 ⟨σ6,H6,I6,q6⟩=>?_);refine wpAny_passesOwn hp (thn (hb _ s6 σ6 H6 _ I6 q6) fun f s7 q7=>?_);have again:∀ {σ7:St} {H7:Hp},Wc X (V9++rQ fp s5.heap) σ7 H7 s7->N σ7 H7->∃ m,m < n/\∃ i σ' H',Wc X V9 σ' H' s7/\tn i s7.heap/\(∀ b∈fp,H' b=none)/\W i m σ' H':=fun {σ7 H7} I7 n7=>by
   obtain⟨m',hm,w7⟩:=hN σ7 H7 n7;refine⟨m',hm,i+1,σ7,H7,I7.yP,T.keep _ _ _ st5 fun b hb o e=>(I7.pin (b,o) (List.mem_append_right _ (List.mem_append_right _ (gY hb e)))).1,fun b hb=>?_,w7⟩;obtain⟨o,e,d⟩:=T.obj _ _ st5 b hb;exact(I7.pin (b,o) (List.mem_append_right _ (List.mem_append_right _ (gY hb e)))).2.1
  cases f with
  | next=>obtain⟨σ7,H7,I7,n7⟩:=q7;exact again I7 n7
  | cont=>obtain⟨σ7,H7,I7,n7⟩:=q7;exact again I7 n7
  | brk=>obtain⟨σ7,H7,I7,q7⟩:=q7;exact⟨σ7,H7,I7.yP,q7⟩
  | ret v=>obtain⟨x7,σ7,H7,I7,r7,q7⟩:=q7;exact⟨x7,σ7,H7,I7.yP,r7,q7⟩
end
theorem Ct(Pv:Nat->St->Hp->Prop)(h0:Pv 0 σ H)(hl:∀ i σ H,i<=xs.length->Pv i σ H->e9 K H a xs)(hs:∀ i x σ H,xs[i]?=some x->Pv i σ H->g x σ H fun σ2 H2=>tb {D with nx:=Pv (i+1),ct:=Pv (i+1),bk:=D.nx} σ2 H2)(hd:∀ σ H,Pv xs.length σ H->D.nx σ H) : ∃ W:Nat->Nat->St->Hp->Prop,(∃ m,W 0 m σ H)/\∀ i m σ H,W i m σ H -> ((Yb K a).stop i H/\D.nx σ H)\/((Yb K a).go i H/\∃ N:St->Hp->Prop,(∀ σ' H',N σ' H'->∃ m',m' < m/\W (i+1) m' σ' H')/\∀ x H',(Yb K a).X9 i H x H'->g x σ H' fun σ2 H2=>tb {D with nx:=N,ct:=N,bk:=D.nx} σ2 H2):=by
 refine⟨fun i m σ H=>m=xs.length - i/\i<=xs.length/\Pv i σ H,⟨xs.length,by simp,Nat.zero_le _,h0⟩,?_⟩;rintro i m σ H ⟨rfl,hi,p⟩;have q:=hl i σ H hi p;by_cases WG:i < xs.length
 ·refine .inr ⟨⟨xs,xs[i],q,by simp[WG]⟩,Pv (i+1),fun σ' H' p'=>⟨xs.length - (i+1),by omega,rfl,WG,p'⟩,fun x H' y=>?_⟩;obtain⟨e,y⟩:=y;subst e;exact hs i x σ _ (y xs q) p
 ·have e:i=xs.length:=by omega
  subst e;exact .inl ⟨⟨xs,q,Nat.le_refl _⟩,hd σ H p⟩
theorem Ae{lo:Int}(Pv:Nat->St->Hp->Prop)(h0:Pv 0 σ H)(hs:∀ i σ H,i < n->Pv i σ H->g (.int (lo+i)) σ H fun σ2 H2=>tb {D with nx:=Pv (i+1),ct:=Pv (i+1),bk:=D.nx} σ2 H2)(hd:∀ σ H,Pv n σ H->D.nx σ H) : ∃ W:Nat->Nat->St->Hp->Prop,(∃ m,W 0 m σ H)/\∀ i m σ H,W i m σ H -> ((Yr lo n).stop i H/\D.nx σ H)\/((Yr lo n).go i H/\∃ N:St->Hp->Prop,(∀ σ' H',N σ' H'->∃ m',m' < m/\W (i+1) m' σ' H')/\∀ x H',(Yr lo n).X9 i H x H'->g x σ H' fun σ2 H2=>tb {D with nx:=N,ct:=N,bk:=D.nx} σ2 H2):=by
 refine⟨fun i m σ H=>m=n - i/\i<=n/\Pv i σ H,⟨n,by simp,Nat.zero_le _,h0⟩,?_⟩;rintro i m σ H ⟨rfl,hi,p⟩;by_cases WG:i < n
 ·refine .inr ⟨WG,Pv (i+1),fun σ' H' p'=>⟨n - (i+1),by omega,rfl,WG,p'⟩,fun x H' y=>?_⟩;obtain⟨e,y⟩:=y;subst e y;exact hs i σ _ WG p
 ·have e:i=n:=by omega
  subst e;exact .inl ⟨Nat.le_refl _,hd σ H p⟩
abbrev R2:=V->V->Hp->VK->Prop
variable{r:R2}
noncomputable def jD(X:Cx)(f:Value->Value->Sem Value)(r:R2):Prop :=
 ∀(V9:List 1e13) (s:Shared) (σ:St) (H:Hp) (x y:V) (v u:Value) (Q:VK),Wc X V9 σ H s->bL x v->bL y u->r x y H Q ->
  wpAny 1e2 X.A (f v u) 1e43 X.xe s
noncomputable def U8(X:Cx)(f:Value->Sem Value)(r:V->Hp->VK->Prop):Prop :=
 ∀(V9:List 1e13) (s:Shared) (σ:St) (H:Hp) (x:V) (v:Value) (Q:VK),Wc X V9 σ H s->bL x v->r x H Q ->
  wpAny 1e2 X.A (f v) 1e43 X.xe s
noncomputable def fF(X:Cx)(f:Value)(r:List V->Hp->VK->Prop):Prop :=
 ∀(V9:List 1e13) (s:Shared) (σ:St) (H:Hp) (xs:List V) (us:List Value) (Q:VK),Wc X V9 σ H s->We xs us->r xs H Q ->
  wpAny 1e2 X.A (call f us) 1e43 X.xe s
noncomputable def U7(X:Cx)(r:V->Hp->(Bool->Hp->Prop)->Prop):Prop :=
 ∀(V9:List 1e13) (s:Shared) (σ:St) (H:Hp) (x:V) (v:Value) (Q:Bool->Hp->Prop),Wc X V9 σ H s->bL x v->r x H Q ->
  wpAny 1e2 X.A (truthy v) (TP X V9 σ Q) X.xe s
def Oq(r:R2)(ta tb:TE):TE:=fun σ H Q=>ta σ H fun x H1=>tb σ H1 fun y H2=>r x y H2 Q
def V0(r:V->Hp->VK->Prop)(ta:TE):TE:=fun σ H Q=>ta σ H fun x H1=>r x H1 Q
def rI(C:Int->Int->Prop)(g:Int->Int->V):R2:=fun x y H Q=>∃ i j,x=.int i/\y=.int j/\C i j/\Q (g i j) H
def Ob(g:Int->Int->V):R2:=fun x y H Q=>∃ i j,x=.int i/\y=.int j/\Q (g i j) H
def rU(g:Int->V):V->Hp->VK->Prop:=fun x H Q=>∃ i,x=.int i/\Q (g i) H
section
variable{a b:Expr}{ta tb tc:TE}
def Pr(ha:PE X a ta)(hb:PE X b tb){R:V->V->Hp->Prop}(I:Wc X V9 σ H s)(h:ta σ H fun x H1=>tb σ H1 fun y H2=>R x y H2){Q:q0A}(hf:∀ v u s2 x y H2,Wc X V9 σ H2 s2->bL x v->bL y u->R x y H2->wpAny 1e2 X.A (f v u) Q X.xe s2) : wpAny 1e2 X.A (eval a X.env) (fun v s₁=>wpAny 1e2 X.A (eval b X.env) (fun u s₂=>wpAny 1e2 X.A (f v u) Q X.xe s₂) X.xe s₁) X.xe s:=by
 refine thn 1e44 fun v s1 ⟨x,H1,I1,r1,q1⟩=>?_;refine thn (hb V9 s1 σ H1 _ I1 q1) fun u s2 ⟨y,H2,I2,r2,q2⟩=>?_;exact hf v u s2 x y H2 I2 r1 r2 q2
def bE{op:Operator}(ho:jD X (binaryOp op) r)(ha:PE X a ta)(hb:PE X b tb):PE X (.BinOp a op b pos) (Oq r ta tb):=by
 intro V9 s σ H Q I h;exact wpAny_BinOp (Pr ha hb I h fun v u s2 x y H2 I2 rx ry q=>ho V9 s2 σ H2 x y v u Q I2 rx ry q)
def fK{op:UnaryOp}{r:V->Hp->VK->Prop}(ho:U8 X (unaryOp op) r)(ha:PE X a ta):PE X (.UnaryOp op a pos) (V0 r ta):=by
 intro V9 s σ H Q I h;exact UnaryOp_ (thn 1e44 fun v s1 ⟨x,H1,I1,r1,q1⟩=>ho V9 s1 σ H1 x v Q I1 r1 q1)
def UZ{C:Int->Int->Prop}{g:Int->Int->Int}(rule:∀(i j:Int) (t u:Tok) (s:Shared) (Q:q0A) (E:q0A),C i j->Q (.int (g i j) s.toks) {s with toks:=s.toks+1}->wpAny 1e2 X.A (f (.int i t) (.int j u)) Q E s) : jD X f (rI C fun i j=>.int (g i j)):=by
 intro V9 s σ H x y v u Q I rx ry h;obtain⟨i,j,rfl,rfl,hc,q⟩:=h;obtain⟨t,rfl⟩:=rx;obtain⟨t',rfl⟩:=ry;exact rule i j t t' s _ _ hc ⟨.int (g i j),H,I.tok _,⟨_,rfl⟩,q⟩
def Uc{g:Int->Int->Int}(rule:∀(i j:Int) (t u:Tok) (s:Shared) (Q:q0A) (E:q0A),Q (.int (g i j) s.toks) {s with toks:=s.toks+1}->wpAny 1e2 X.A (f (.int i t) (.int j u)) Q E s) : jD X f (Ob fun i j=>.int (g i j)):=by
 intro V9 s σ H x y v u Q I rx ry h;obtain⟨i,j,rfl,rfl,q⟩:=h;obtain⟨t,rfl⟩:=rx;obtain⟨t',rfl⟩:=ry;exact rule i j t t' s _ _ ⟨.int (g i j),H,I.tok _,⟨_,rfl⟩,q⟩
def Ri{g:Int->Int->Bool}(rule:∀(i j:Int) (t u:Tok) (s:Shared) (Q:q0A) (E:q0A),Q (.bool (g i j)) s->wpAny 1e2 X.A (f (.int i t) (.int j u)) Q E s) : jD X f (Ob fun i j=>.bl (g i j)):=by
 intro V9 s σ H x y v u Q I rx ry h;obtain⟨i,j,rfl,rfl,q⟩:=h;obtain⟨t,rfl⟩:=rx;obtain⟨t',rfl⟩:=ry;exact rule i j t t' s _ _ ⟨.bl (g i j),H,I,rfl,q⟩
def CPow(i j:Int):Prop:=0<=j/\j<=1000000/\i.natAbs < 2 ^ 64
def CMul(i j:Int):Prop:=(-(2 ^ 64) < i/\i < 2 ^ 64)\/(-(2 ^ 64) < j/\j < 2 ^ 64)
def CMul.ok{i j:Int}(h:CMul i j):IntMulOk i j:=by
 rcases h with⟨h1,h2⟩|⟨h1,h2⟩
 ·exact .of_left (intBits_le_64 h1 h2)
 ·exact .of_right (intBits_le_64 h1 h2)
def Rj:jD X (binaryOp .Add) (Ob fun i j=>.int (i+j)):=Uc fun _ _ _ _ _ _ _ q=>add_int q
def i8:jD X (binaryOp .Sub) (Ob fun i j=>.int (i - j)):=Uc fun _ _ _ _ _ _ _ q=>sub_int q
def oW:jD X (binaryOp .Mult) (rI CMul fun i j=>.int (i * j)):=UZ fun _ _ _ _ _ _ _ hc q=>mul_int q hc.ok
theorem xJ:jD X (binaryOp .Mod) (rI (fun _ j=>0 < j) fun i j=>.int (i % j)):=UZ fun i j _ _ _ _ _ hc q=>by
 have h1:(0:Int) < j:=hc;exact mod_int' 1e0 (by rw[Int.fmod_eq_emod_of_nonneg i 1e0];exact q)
def i7:jD X (binaryOp .Pow) (rI CPow fun i j=>.int (i ^ j.toNat)):=UZ fun _ _ _ _ _ _ _ hc q=>pow_int_small hc.1 hc.2.1 hc.2.2 q
def V7{f:Value->Sem Value}{g:Int->Int}(rule:∀(i:Int) (t:Tok) (s:Shared) (Q:q0A) (E:q0A),Q (.int (g i) s.toks) {s with toks:=s.toks+1}->wpAny 1e2 X.A (f (.int i t)) Q E s) : U8 X f (rU fun i=>.int (g i)):=by
 intro V9 s σ H x v Q I rx h;obtain⟨i,rfl,q⟩:=h;obtain⟨t,rfl⟩:=rx;exact rule i t s _ _ ⟨.int (g i),H,I.tok _,⟨_,rfl⟩,q⟩
def dM:U8 X (unaryOp .USub) (rU fun i=>.int (-i)):=V7 fun _ _ _ _ _ q=>neg_int q
end
noncomputable def WV:V->V->Bool
 | .Wb,.Wb=>true | .Wb,.int _=>true | .int _,.Wb=>true | .Wb,.bl _=>true | .bl _,.Wb=>true | .Wb,.str _=>true | .str _,.Wb=>true
 | .int _,.int _=>true | .bl _,.bl _=>true | .str _,.str _=>true | .byt _,.byt _=>true
 | .int _,.str _=>true | .str _,.int _=>true | .bl _,.str _=>true | .str _,.bl _=>true
 | _,_=>false
def I8:R2:=fun x y H Q=>WV x y=true/\Q (.bl (decide (x=y))) H
def Rx:R2:=fun x y H Q=>WV x y=true/\Q (.bl (!decide (x=y))) H
theorem FE{i j:Int}:decide (V.int i=V.int j)=(i==j):=by
 rw[Bool.eq_iff_iff];simp
theorem JM{i j:Bool}:decide (V.bl i=V.bl j)=(i==j):=by
 rw[Bool.eq_iff_iff];simp
theorem FH{i j:Str}:decide (V.str i=V.str j)=(i==j):=by
 rw[Bool.eq_iff_iff];simp
theorem FA{i j:Array UInt8}:decide (V.byt i=V.byt j)=(i.toList==j.toList):=by
 rw[Bool.eq_iff_iff];cases i;cases j;simp
section
variable{a b:Expr}{ta tb tc:TE}
def bV{Q:VK}{k k':Bool}(I:Wc X V9 σ H s)(q:Q (.bl k) H)(e:k=k'):EP X V9 σ Q (.bool k') s:=by
 subst e;exact⟨.bl k,H,I,rfl,q⟩
def aU:jD X (compareOp .Eq) I8:=by
 intro V9 s σ H x y v u Q I rx ry h;obtain⟨hs,q⟩:=h;cases x with
 | Wb =>
  cases rx;cases y with
  | Wb=>cases ry;exact PySem.EqNone.eq_none_none 1e46
  | bl j=>cases ry;exact PySem.EqNone.eq_none_bool 1e46
  | int j=>obtain⟨t',rfl⟩:=ry;exact PySem.EqNone.eq_none_int 1e46
  | str j=>obtain⟨t',rfl⟩:=ry;exact PySem.EqNone.eq_none_str 1e46
  | _=>exact absurd (show false=true from hs) Bool.false_ne_true
 | bl i =>
  cases rx;cases y with
  | Wb=>cases ry;exact PySem.EqNone.eq_bool_none 1e46
  | bl j=>cases ry;exact eq_bool (bV I q JM)
  | str j=>obtain⟨t',rfl⟩:=ry;exact PySem.EqMixed.eq_bool_str 1e46
  | _=>exact absurd (show false=true from hs) Bool.false_ne_true
 | int i =>
  obtain⟨t,rfl⟩:=rx;cases y with
  | Wb=>cases ry;exact PySem.EqNone.eq_int_none 1e46
  | int j=>obtain⟨t',rfl⟩:=ry;exact eq_int (bV I q FE)
  | str j=>obtain⟨t',rfl⟩:=ry;exact PySem.EqMixed.eq_int_str 1e46
  | _=>exact absurd (show false=true from hs) Bool.false_ne_true
 | str i =>
  obtain⟨t,rfl⟩:=rx;cases y with
  | Wb=>cases ry;exact PySem.EqNone.eq_str_none 1e46
  | bl j=>cases ry;exact PySem.EqMixed.eq_str_bool 1e46
  | int j=>obtain⟨t',rfl⟩:=ry;exact PySem.EqMixed.eq_str_int 1e46
  | str j=>obtain⟨t',rfl⟩:=ry;exact eq_str (bV I q FH)
  | _=>exact absurd (show false=true from hs) Bool.false_ne_true
 | byt i =>
  obtain⟨t,rfl⟩:=rx;cases y with
  | byt j=>obtain⟨t',rfl⟩:=ry;exact PySem.W.eq_bytes (bV I q FA)
  | _=>exact absurd (show false=true from hs) Bool.false_ne_true
 | _=>cases y<;>exact absurd (show false=true from hs) Bool.false_ne_true
def C2:jD X (compareOp .NotEq) Rx:=by
 intro V9 s σ H x y v u Q I rx ry h;obtain⟨hs,q⟩:=h;cases x with
 | Wb =>
  cases rx;cases y with
  | Wb=>cases ry;exact PySem.EqNone.ne_none_none 1e46
  | bl j=>cases ry;exact PySem.EqNone.ne_none_bool 1e46
  | int j=>obtain⟨t',rfl⟩:=ry;exact PySem.EqNone.ne_none_int 1e46
  | str j=>obtain⟨t',rfl⟩:=ry;exact PySem.EqNone.ne_none_str 1e46
  | _=>exact absurd (show false=true from hs) Bool.false_ne_true
 | bl i =>
  cases rx;cases y with
  | Wb=>cases ry;exact PySem.EqNone.ne_bool_none 1e46
  | bl j=>cases ry;exact ne_bool (bV I q (congrArg not JM))
  | str j=>obtain⟨t',rfl⟩:=ry;exact PySem.EqMixed.ne_bool_str 1e46
  | _=>exact absurd (show false=true from hs) Bool.false_ne_true
 | int i =>
  obtain⟨t,rfl⟩:=rx;cases y with
  | Wb=>cases ry;exact PySem.EqNone.ne_int_none 1e46
  | int j=>obtain⟨t',rfl⟩:=ry;exact ne_int (bV I q (congrArg not FE))
  | str j=>obtain⟨t',rfl⟩:=ry;exact PySem.EqMixed.ne_int_str 1e46
  | _=>exact absurd (show false=true from hs) Bool.false_ne_true
 | str i =>
  obtain⟨t,rfl⟩:=rx;cases y with
  | Wb=>cases ry;exact PySem.EqNone.ne_str_none 1e46
  | bl j=>cases ry;exact PySem.EqMixed.ne_str_bool 1e46
  | int j=>obtain⟨t',rfl⟩:=ry;exact PySem.EqMixed.ne_str_int 1e46
  | str j=>obtain⟨t',rfl⟩:=ry;exact ne_str (bV I q (congrArg not FH))
  | _=>exact absurd (show false=true from hs) Bool.false_ne_true
 | byt i =>
  obtain⟨t,rfl⟩:=rx;cases y with
  | byt j=>obtain⟨t',rfl⟩:=ry;exact PySem.W.ne_bytes (bV I q (congrArg not FA))
  | _=>exact absurd (show false=true from hs) Bool.false_ne_true
 | _=>cases y<;>exact absurd (show false=true from hs) Bool.false_ne_true
theorem jJ:jD X (compareOp .Lt) (Ob fun i j=>.bl (decide (i < j))):=Ri fun _ _ _ _ _ _ _ q=>lt_int q
theorem Gp:jD X (compareOp .Gt) (Ob fun i j=>.bl (decide (j < i))):=Ri fun _ _ _ _ _ _ _ q=>gt_int q
theorem Ud:jD X (compareOp .GtE) (Ob fun i j=>.bl (decide (j<=i))):=Ri fun _ _ _ _ _ _ _ q=>ge_int q
theorem Rm:jD X (compareOp .Is) (fun x y H Q=>y=.Wb/\Q (.bl (decide (x=.Wb))) H):=by
 intro V9 s σ H x y v u Q I rx ry h;obtain⟨rfl,q⟩:=h;cases ry;refine is_none_gen (bV I q ?_);cases x<;>first
  | (cases rx;rfl)
  | (obtain⟨t,rfl⟩:=rx;rfl)
theorem NF:jD X (compareOp .IsNot) (fun x y H Q=>y=.Wb/\Q (.bl (!decide (x=.Wb))) H):=by
 intro V9 s σ H x y v u Q I rx ry h;obtain⟨rfl,q⟩:=h;cases ry;refine isnot_none_gen (bV I q ?_);cases x<;>first
  | (cases rx;rfl)
  | (obtain⟨t,rfl⟩:=rx;rfl)
def jD.or{r':R2}(h:jD X f r)(h':jD X f r'):jD X f (fun x y H Q=>r x y H Q\/r' x y H Q):=by
 intro V9 s σ H x y v u Q I rx ry q;rcases q with q|q
 ·exact h V9 s σ H x y v u Q I rx ry q
 ·exact h' V9 s σ H x y v u Q I rx ry q
theorem nomark(b:Expr)(h:op≠.In:=by decide)(h2:op≠.NotIn:=by decide):behindInMarks op b=false:=by
 have e1:(op==CmpOp.In)=false:=by cases op<;>first|rfl|exact absurd rfl h
 have e2:(op==CmpOp.NotIn)=false:=by cases op<;>first|rfl|exact absurd rfl h2
 cases b<;>simp[behindInMarks,e1,e2]
def NH(ho:jD X (compareOp op) r)(ha:PE X a ta)(hb:PE X b tb)(hm:behindInMarks op b=false):PE X (.Compare a [op] [b] pos) (Oq r ta tb):=by
 intro V9 s σ H Q I h;exact wpAny_Compare1 (Pr ha hb I h fun v u s2 x y H2 I2 rx ry q=>ho V9 s2 σ H2 x y v u Q I2 rx ry q) hm
def DF(t:TE):TT:=fun σ H Q=>t σ H fun x H'=>∃ k,x=.bl k/\Q k H'
def fU(ho:jD X (compareOp op) r)(ha:PE X a ta)(hb:PE X b tb)(hm:behindInMarks op b=false):PT X (.Compare a [op] [b] pos) (DF (Oq r ta tb)):=by
 intro V9 s σ H Q I h;refine wpAny_isTrue_Compare1 (thn 1e44 fun v s1 ⟨x,H1,I1,r1,q1⟩=>thn (hb V9 s1 σ H1 _ I1 q1) fun u s2 ⟨y,H2,I2,r2,q2⟩ =>
  thn (ho V9 s2 σ H2 x y v u _ I2 r1 r2 q2) fun c s3 ⟨z,H3,I3,r3,k,e,q3⟩=>?_) hm
 subst e;cases r3;exact wpAny_truthy_bool ⟨H3,I3,q3⟩
noncomputable def RU(K:q0B)(x:V)(H:Hp)(k:Bool):Prop :=
 match x with
 | .Wb=>k=false
 | .bl b=>k=b
 | .int i=>k=(i !=0)
 | .str y=>y.length<=sizeLine/\k=((y.length:Int) !=0)
 | .byt y=>y.size<=sizeLine/\k=((y.size:Int) !=0)
 | .ref p=>(∃ xs,e9 K H p xs/\k = !xs.isEmpty)\/(∃ xs,g9 K H p xs/\k = !xs.isEmpty)\/∃ kvs,H p=some 1e17/\k = !kvs.isEmpty
 | _=>False
def Eu{κ:Type}{kvs:List (κ×V)}{vs:List (κ×Value)}(r:KV kvs vs):(!vs.isEmpty) = !kvs.isEmpty:=by
 cases r<;>rfl
def wJ{Wd:List Value}(r:We xs Wd):(!Wd.toArray.isEmpty) = !xs.isEmpty:=by
 cases r<;>simp
theorem line63:(sizeLine:Nat) < 2 ^ 63:=by rw[sizeLine_eq];decide
theorem Fe:U7 X (fun x H Q=>∃ k,RU X.K x H k/\Q k H):=by
 intro V9 s σ H x v Q I rx h;obtain⟨k,e,q⟩:=h;have hl:=line63;have hs:sizeLine=16777216:=sizeLine_eq;cases x with
 | Wb =>
  cases rx;have e':k=false:=e;subst e';exact truthy_none ⟨H,I,q⟩
 | bl b =>
  cases rx;have e':k=b:=e;subst e';exact wpAny_truthy_bool ⟨H,I,q⟩
 | int i =>
  obtain⟨t,rfl⟩:=rx;have e':k=(i !=0):=e;subst e';exact PySem.P.truthy_int ⟨H,I,q⟩
 | str y =>
  obtain⟨t,rfl⟩:=rx;obtain⟨hy,e'⟩:y.length<=sizeLine/\k=((y.length:Int) !=0):=e;subst e';exact PySem.P.truthy_str 1e0 ⟨H,I.tok _,q⟩
 | byt y =>
  obtain⟨t,rfl⟩:=rx;obtain⟨hy,e'⟩:y.size<=sizeLine/\k=((y.size:Int) !=0):=e;subst e';exact PySem.W.truthy_bytes 1e0 ⟨H,I.tok _,q⟩
 | ref p =>
  cases rx;have e':(∃ xs,e9 X.K H p xs/\k = !xs.isEmpty)\/(∃ xs,g9 X.K H p xs/\k = !xs.isEmpty)\/∃ kvs,H p=some 1e17/\k = !kvs.isEmpty:=e;rcases e' with⟨xs,hx,e'⟩|⟨xs,hx,e'⟩|⟨kvs,hx,e'⟩
  ·subst e';obtain⟨Wd,r,pl,hz⟩:=I.list hx;have hlen:=r.length;exact wpAny_truthy_list pl.isList (by simp only[List.size_toArray];omega) ⟨H,I.tok _,by rw[wJ r];exact q⟩
  ·subst e';obtain⟨Wd,r,pl,hz⟩:=I.tuple hx;have hlen:=r.length;exact truthy_tuple pl (by simp only[List.size_toArray];omega) ⟨H,I.tok _,by rw[wJ r];exact q⟩
  ·subst e';obtain⟨hz,hS,vs,r,m⟩:kvs.length<=sizeLine/\(p==sysModules)=false/\∃ vs,KV kvs vs/\s.heap.DictOf (bJ X.prog X.w) p vs:=I.Wh p _ hx;have hlen:kvs.length=vs.length:=Paired.length r;exact wpAny_truthy_dict hS m 1e0 ⟨H,I.tok _,by rw[Eu r];exact q⟩
 | _=>exact(show False from e).elim
def EO:jD X (binaryOp .Add) (fun x y H Q=>∃ i j,x=.str i/\y=.str j/\i.length+j.length<=sizeLine/\Q (.str (i++j)) H):=by
 intro V9 s σ H x y v u Q I rx ry h;obtain⟨i,j,rfl,rfl,hz,q⟩:=h;obtain⟨t,rfl⟩:=rx;obtain⟨t',rfl⟩:=ry;exact add_str (fun t' tk=>⟨.str (i++j),H,I.tok _,⟨_,rfl⟩,q⟩) hz
def vals1{x:V}(r:We [x] us):∃ u,us=[u]/\bL x u:=by
 cases r with
 | cons r1 r2=>cases r2;exact⟨_,rfl,r1⟩
def vals2{x y:V}(r:We [x,y] us):∃ u w',us=[u,w']/\bL x u/\bL y w':=by
 cases r with
 | cons r1 r2 =>
  cases r2 with
  | cons r3 r4=>cases r4;exact⟨_,_,rfl,r1,r3⟩
def Ht(hc:X.calm=true):fF X (.builtin "max") (fun xs H Q=>∃ i j,xs=[.int i,.int j]/\Q (.int (if j > i then j else i)) H):=by
 intro V9 s σ H xs us Q I r h;obtain⟨i,j,rfl,q⟩:=h;obtain⟨u,w',rfl,⟨t,rfl⟩,⟨t',rfl⟩⟩:=vals2 r;refine max_two_ints (I.ok.hd hc) fun h' tk k=>⟨_,H,I.kept k,?_,q⟩;by_cases hj:j > i
 ·rw[if_pos hj,if_pos hj];exact⟨_,rfl⟩
 ·rw[if_neg hj,if_neg hj];exact⟨_,rfl⟩
def Hu(hc:X.calm=true):fF X (.builtin "min") (fun xs H Q=>∃ i j,xs=[.int i,.int j]/\Q (.int (if j < i then j else i)) H):=by
 intro V9 s σ H xs us Q I r h;obtain⟨i,j,rfl,q⟩:=h;obtain⟨u,w',rfl,⟨t,rfl⟩,⟨t',rfl⟩⟩:=vals2 r;refine min_two_ints (I.ok.hd hc) fun h' tk k=>⟨_,H,I.kept k,?_,q⟩;by_cases hj:j < i
 ·rw[if_pos hj,if_pos hj];exact⟨_,rfl⟩
 ·rw[if_neg hj,if_neg hj];exact⟨_,rfl⟩
def Hq:fF X (.type "int") (fun xs H Q=>(∃ i,xs=[.int i]/\Q (.int i) H)\/∃ k,xs=[.bl k]/\Q (.int (if k then 1 else 0)) H):=by
 intro V9 s σ H xs us Q I r h;rcases h with⟨i,rfl,q⟩|⟨k,rfl,q⟩
 ·obtain⟨u,rfl,t,rfl⟩:=vals1 r;exact call_int_int ⟨.int i,H,I,⟨_,rfl⟩,q⟩
 ·obtain⟨u,rfl,r1⟩:=vals1 r;cases r1;exact call_int_bool ⟨.int (if k then 1 else 0),H,I.tok _,⟨_,rfl⟩,q⟩
noncomputable def U5(K:q0B)(x:V)(H:Hp)(n:Nat):Prop :=
 match x with
 | .str y=>y.length<=sizeLine/\n=y.length
 | .byt y=>y.size<=sizeLine/\n=y.size
 | .ref p=>(∃ xs,e9 K H p xs/\n=xs.length)\/∃ xs,g9 K H p xs/\n=xs.length
 | _=>False
theorem uV:fF X (.builtin "len") (fun xs H Q=>∃ x n,xs=[x]/\U5 X.K x H n/\Q (.int n) H):=by
 intro V9 s σ H xs us Q I r h;obtain⟨x,n,rfl,e,q⟩:=h;obtain⟨u,rfl,rx⟩:=vals1 r;have hl:=line63;have hs:sizeLine=16777216:=sizeLine_eq;cases x with
 | str y =>
  obtain⟨t,rfl⟩:=rx;obtain⟨hy,e'⟩:y.length<=sizeLine/\n=y.length:=e;subst e';exact len_str 1e0 ⟨.int _,H,I.tok _,⟨_,rfl⟩,q⟩
 | byt y =>
  obtain⟨t,rfl⟩:=rx;obtain⟨hy,e'⟩:y.size<=sizeLine/\n=y.size:=e;subst e';exact PySem.W.len_bytes 1e0 ⟨.int _,H,I.tok _,⟨_,rfl⟩,q⟩
 | ref p =>
  cases rx;have e':(∃ xs,e9 X.K H p xs/\n=xs.length)\/∃ xs,g9 X.K H p xs/\n=xs.length:=e;rcases e' with⟨xs,hx,e'⟩|⟨xs,hx,e'⟩
  ·subst e';obtain⟨Wd,r',pl,hz⟩:=I.list hx;have hlen:=r'.length;exact Calls.call_len_list pl.isList (by simp only[List.size_toArray];omega) ⟨.int xs.length,H,I.tok _,⟨_,by simp only[List.size_toArray];rw[hlen]⟩,q⟩
  ·subst e';obtain⟨Wd,r',pl,hz⟩:=I.tuple hx;have hlen:=r'.length;exact len_tuple pl (by simp only[List.size_toArray];omega) ⟨.int xs.length,H,I.tok _,⟨_,by simp only[List.size_toArray];rw[hlen]⟩,q⟩
 | _=>exact(show False from e).elim
end
structure DM(h:Heap)(x dx C:Addr)(mA:q0C):Prop where
 obj:h.get? x=some (PySem.W.instObj C dx)
 ns:h.Ns1 dx mA
 ne:dx≠x
def Ie{dx:Addr}{mA:q0C}(n:h.Ns1 dx mA):∃ od,h.get? dx=some od/\∀ name,PySem.W.lookIn name od=some (mA name):=by
 obtain⟨o,es,ep,ho,hd,hk,_,hm⟩:=n;refine⟨o,ho,fun name=>?_⟩;have e:=hm name;unfold nsFind findBy at e;rw[<- Array.find?_toList] at e;unfold PySem.W.lookIn;rw[hd];dsimp only;split
 ·rename_i y q
  rw[q] at e;exact congrArg some e
 ·rename_i q
  rw[q] at e;have a:es.toList.any (·.refKey)=false:=by
   rw[List.any_eq_false];intro y hy;obtain⟨z,t,Yi⟩:=hk y (Array.mem_toList_iff.mp hy);simp[DictEntry.refKey,Yi]
  have a':¬ es.toList.any (·.refKey)=true:=by rw[a];exact Bool.false_ne_true
  rw[if_neg a'];exact congrArg some e
def DM.look{x dx:Addr}{mA:q0C}(I:DM h x dx C mA):∃ od,PySem.W.InstAt h x (PySem.W.instObj C dx) C (some od)/\∀ name,PySem.W.lookIn name od=some (mA name) :=
 let ⟨od,ho,hl⟩:=Ie I.ns
 ⟨od,⟨I.obj,rfl,rfl,ho⟩,hl⟩
section
variable{prog:Program}{x dx f:Addr}{mA:q0C}{name:Str}{v:Value}
def Nm{expr:Bool}{Q:q0A}(X:K.In s.heap)(I:DM s.heap x dx C mA)(hg:PySem.W.plainGet K C name=true)(hh:PySem.W.hasDictIn K C=true)(ha:PySem.W.findIn K (.ref C) name=some none)(hv:mA name=some v)(ZQ:PySem.W.handedIn v=true)(h:Q v {s with toks:=s.toks+1}) : wpAny 1e15 A (getAttr (.ref x) name expr) Q E s:=by
 obtain⟨od,J,hl⟩:=I.look;exact PySem.W.get_value X J (PySem.W.plainGet_of hg).1 (PySem.W.findObj_own hh ha rfl (by rw[hl,hv])) ZQ h
def Kh{Q:Value×List Value->Shared->Prop}(X:K.In s.heap)(I:DM s.heap x dx C mA)(hg:PySem.W.plainGet K C name=true)(hf:PySem.W.findIn K (.ref C) name=some (some (.ref f)))(ht:PySem.W.isFn K (.ref f)=true)(hv:mA name=none)(h:Q (.ref f,[.ref x]) s) : wpAny 1e15 A (getMethod (.ref x) name pl) Q E s:=by
 obtain⟨od,J,hl⟩:=I.look;exact PySem.W.method_fn X J (PySem.W.plainGet_of hg).1 (PySem.W.plainGet_of hg).2 hf (beq_iff_eq.mp ht) (by show(PySem.W.lookIn name od).map (·.isSome)=some false;rw[hl,hv];rfl) h
theorem Og{ns:List Str}(X:K.In s.heap)(I:DM s.heap x dx C mA)(hs:PySem.W.findIn K (.ref C) "__setattr__"=some (some (.builtin "object.__setattr__")))(hp:PySem.W.plainOver K C=true)(ht:PySem.W.takerIn K C name=some none)(hh:PySem.W.hasDictIn K C=true)(hw:PySem.Within mA ns)(hsz:ns.length<=sizeLine)(h:∀ h',DM h' x dx C (fun y=>if y=name then some v else mA y)->Heap.SameBut dx s.heap h'->Q () {s with heap:=h',toks:=s.toks+2}) : wpAny 1e15 A (setAttr (.ref x) name v) Q E s:=by
 obtain⟨od,J,hl⟩:=I.look;refine PySem.W.set_plain X J hs (PySem.W.osa_open (s:={s with toks:=s.toks+1}) (r:=none) X J hp ht fun b=>?_);obtain⟨cd,hc,hd'⟩:=PySem.W.any_some hh;have hx:s.heap.get? x=some ⟨.ref C,some dx,.plain,#[]⟩:=I.obj;refine wpAny_bind (wpAny_pure (wpAny_bind (wpAny_bind (wpAny_loadPart hx (wpAny_bind (PySem.W.Looks.here (s:={s with toks:=s.toks+1}) (PySem.W.looks_clsIn X hc) ?_))))));rw[hd'];refine wpAny_pure (a:=some dx) (wpAny_bind (wpAny_pure (wpAny_bind ?_)));refine wpAny_nsSet1 (s:={s with toks:=s.toks+1}) I.ns fun h' Zb hs2=>?_;obtain⟨oD,esD,epD,hoD,hdD,hcD⟩:=Zb.count (PySem.Within.cons name v hw);refine wpAny_bind (wpAny_lookBehind hoD (by rw[hdD];exact pastItsLine_dict (Nat.le_trans hcD (by rw[List.length_cons];omega))) ?_);exact wpAny_pure (h _ ⟨(hs2.2 _ (Ne.symm I.ne)).trans I.obj,Zb,I.ne⟩ hs2)
def KJ{R:Result->Shared->Prop}{vs:List Value}(X:K.In s.heap)(hm:PySem.W.makesIn K C=true)(hi:PySem.W.findIn K (.ref C) "__init__"=some (some (.ref f)))(hf:PySem.W.typeIn K (.ref f)=some (.type "function"))(h:codeAny 1e15 (A.under (.builtin "type.__call__" ⟨.ref C::vs,kw⟩)) (.call (.ref f) ⟨.ref 1e29::vs,kw⟩) (PySem.W.InitBack 1e29 R) {s with heap:=(s.heap.push PySem.W.emptyDict).push (PySem.W.instObj C s.heap.objs.size)}) : codeAny 1e15 A (.call (.ref C) ⟨vs,kw⟩) R s:=by
 obtain⟨hh,g,d,t,os⟩:=s;exact PySem.W.make_core (PySem.W.makes_of X hm) (PySem.W.looks_findIn X hi) (fun self=>PySem.W.bind_fn X self hf) 1e23 h
end
noncomputable def iT(f:Str)(v:V):List (Str×V)->List (Str×V)
 | []=>[(f,v)]
 | (g,x)::r=>if g=f then (g,v)::r else (g,x)::iT f v r
theorem sF(f g:Str)(v:V):∀ fs:List (Str×V),(iT f v fs).lookup g=if g=f then some v else fs.lookup g
 | []=>by
  show List.lookup g [(f,v)]=_;by_cases h:g=f
  ·have hb:(g==f)=true:=beq_iff_eq.mpr h;simp only[List.lookup,hb,if_pos h]
  ·have hb:(g==f)=false:=beq_eq_false_iff_ne.mpr h;simp only[List.lookup,hb,if_neg h]
 | (k,x)::r=>by
  have ih:=sF f g v r;rw[show iT f v ((k,x)::r)=(if k=f then (k,v)::r else (k,x)::iT f v r) from rfl];by_cases hk:k=f
  ·rw[if_pos hk];by_cases h:g=k
   ·have hb:(g==k)=true:=beq_iff_eq.mpr h;simp only[List.lookup,hb,if_pos (h.trans hk)]
   ·have hb:(g==k)=false:=beq_eq_false_iff_ne.mpr h;simp only[List.lookup,hb,if_neg (fun e:g=f=>h (e.trans hk.symm))]
  ·rw[if_neg hk];by_cases h:g=k
   ·have hb:(g==k)=true:=beq_iff_eq.mpr h;simp only[List.lookup,hb,if_neg (fun e:g=f=>hk (h.symm.trans e))]
   ·have hb:(g==k)=false:=beq_eq_false_iff_ne.mpr h;simp only[List.lookup,hb];exact ih
theorem rA(f:Str)(v:V):∀ fs:List (Str×V),f∈(iT f v fs).map (·.1)/\∀ g,g∈fs.map (·.1)->g∈(iT f v fs).map (·.1)
 | []=>⟨by simp[iT],fun g h=>by simp at h⟩
 | (k,x)::r=>by
  obtain⟨i1,i2⟩:=rA f v r;rw[show iT f v ((k,x)::r)=(if k=f then (k,v)::r else (k,x)::iT f v r) from rfl];by_cases hk:k=f
  ·rw[if_pos hk];subst hk;exact⟨by simp,fun g h=>by simpa using h⟩
  ·rw[if_neg hk];refine⟨?_,fun g h=>?_⟩
   ·rw[List.map_cons];exact List.mem_cons_of_mem _ i1
   ·rw[List.map_cons] at h ⊢;rcases List.mem_cons.mp h with e|e
    ·exact List.mem_cons.mpr (.inl e)
    ·exact List.mem_cons_of_mem _ (i2 g e)
theorem sC(f:Str)(v:V):∀ fs:List (Str×V),(iT f v fs).length<=fs.length+1
 | []=>by simp[iT]
 | (k,x)::r=>by
  have ih:=sC f v r;rw[show iT f v ((k,x)::r)=(if k=f then (k,v)::r else (k,x)::iT f v r) from rfl];by_cases hk:k=f
  ·rw[if_pos hk,List.length_cons,List.length_cons];omega
  ·rw[if_neg hk,List.length_cons,List.length_cons];omega
def kP.some_of{o:Option Value}(r:kP (some v) o):∃ u,o=some u/\bL v u:=by
 cases o with
 | none=>exact(show False from r).elim
 | some u=>exact⟨u,rfl,r⟩
def kP.none_of{o:Option Value}(r:kP none o):o=none:=by
 cases o with
 | none=>rfl
 | some u=>exact(show False from r).elim
def HV(r:bL v u):PySem.W.handedIn u=true:=by
 cases v with
 | Wb=>cases (show u=Value.none from r);rfl
 | bl b=>cases (show u=Value.bool b from r);rfl
 | int i=>obtain⟨t,e⟩:=(show ∃ t,u=Value.int i t from r);cases e;rfl
 | str x=>obtain⟨t,e⟩:=(show ∃ t,u=Value.str x t from r);cases e;rfl
 | byt b=>obtain⟨t,e⟩:=(show ∃ t,u=Value.bytes b t from r);cases e;rfl
 | flt b=>obtain⟨t,e⟩:=(show ∃ t,u=Value.float b t from r);cases e;rfl
 | ref a=>cases (show u=Value.ref a from r);rfl
 | ty n=>cases (show u=Value.type n from r);rfl
section
variable{H':Hp}{h':Heap}{dx:Addr}{fs ZD:List (Str×V)}
def Bk(Wh:HOk P w H h)(e:H a=some (.ins C dx fs)):∃ mA,DM h a dx C mA/\(∀ f,kP (fs.lookup f) (mA f))/\PySem.Within mA (fs.map (·.1))/\fs.length<=1000/\H dx=some (.own a):=by
 obtain⟨d,z,ne,ob,mA,n,r,q⟩:=(show dO P w H h a (.ins C dx fs) from Wh a _ e);exact⟨mA,⟨ob,n,ne⟩,r,q,z,d⟩
end
structure Cls(K:q0B)(C:Addr):Prop where
 pg:PySem.W.plainGet K C Str.empty=true
 hd:PySem.W.hasDictIn K C=true
 po:PySem.W.plainOver K C=true
 sa:PySem.W.findIn K (.ref C) "__setattr__"=some (some (.builtin "object.__setattr__"))
def Cls.get(c:Cls K C)(f:Str):PySem.W.plainGet K C f=true:=c.pg
def eB(K:q0B)(C:Addr)(f:Str):Prop:=PySem.W.findIn K (.ref C) f=some none
def eB.UC{f:Str}(n:eB K C f):PySem.W.takerIn K C f=some none:=by
 unfold PySem.W.takerIn;rw[show PySem.W.findIn K (.ref C) f=some none from n];rfl
structure Meth(K:q0B)(C:Addr)(m:Str)(f:Addr):Prop where
 at_:PySem.W.findIn K (.ref C) m=some (some (.ref f))
 fn:PySem.W.isFn K (.ref f)=true
 kp:PySem.W.keepIn K (.ref f)=true
section
variable{dx:Addr}{fs:List (Str×V)}{f:Str}
def wB{b:Bool}{Q:q0A}(I:Wc X V9 σ H s)(e:H a=some (.ins C dx fs))(c:Cls X.K C)(n:eB X.K C f)(l:fs.lookup f=some v)(h:∀ u s',Wc X V9 σ H s'->bL v u->Q u s'):wpAny 1e2 A (getAttr 1e11 f b) Q E s:=by
 obtain⟨mA,O,r,_,_,_⟩:=Bk I.Wh e;obtain⟨u,hu,ru⟩:=kP.some_of (v:=v) (o:=mA f) (by rw[<- l];exact r f);exact Nm I.kIn O (c.get f) c.hd n hu (HV ru) (h u _ (I.tok _) ru)
def wC{m:Str}{g:Addr}{Q:Value×List Value->Shared->Prop}(I:Wc X V9 σ H s)(e:H a=some (.ins C dx fs))(c:Cls X.K C)(k:Meth X.K C m g)(l:fs.lookup m=none)(h:Q (.ref g,[.ref a]) s):wpAny 1e2 A (getMethod 1e11 m pl) Q E s:=by
 obtain⟨mA,O,r,_,_,_⟩:=Bk I.Wh e;have hn:mA m=none:=kP.none_of (by rw[<- l];exact r m);exact Kh I.kIn O (c.get m) k.at_ k.fn hn h
theorem yB{y:V}(I:Wc X V9 σ H s)(e:H a=some (.ins C dx fs))(c:Cls X.K C)(n:eB X.K C f)(hl:fs.length < 1000)(ry:bL y u)(h:∀ s',Wc X V9 σ (Wa H a (.ins C dx (iT f y fs))) s'->Q () s'):wpAny 1e2 A (setAttr 1e11 f u) Q E s:=by
 obtain⟨mA,O,r,wi,_,ho⟩:=Bk I.Wh e;have hz:(fs.map (·.1)).length<=sizeLine:=by rw[List.length_map,sizeLine_eq];omega
 refine Og I.kIn O c.sa c.po n.UC c.hd wi hz fun h' O' sb=>h _ ?_;have hd:∃ o,h'.get? dx=some o:=let ⟨o,_,_,e',_⟩:=O'.ns;⟨o,e'⟩;refine I.write (x:=a) (e:=dx) (by rw[e];exact True.intro) (.inr ho) (fun b q hb z=>(sb.2 b hb).trans z) hd ?_;refine⟨by rw[aD O.ne];exact ho,?_,O.ne,O'.obj,_,O'.ns,fun g=>?_,fun g hg=>?_⟩
 ·have:=sC f y fs;omega
 ·show kP ((iT f y fs).lookup g) (if g=f then some u else mA g);rw[sF];by_cases q:g=f
  ·rw[if_pos q,if_pos q];exact ry
  ·rw[if_neg q,if_neg q];exact r g
 ·by_cases q:g=f
  ·rw[q];exact(rA f y fs).1
  ·refine(rA f y fs).2 g (wi g fun z=>hg ?_);show(if g=f then some u else mA g)=none;rw[if_neg q];exact z
def Wc.made(I:Wc X V9 σ H s):Wc X V9 σ (Wa (Wa H s.heap.objs.size (.own 1e29)) 1e29 (.ins C s.heap.objs.size [])) {s with heap:=(s.heap.push PySem.W.emptyDict).push (PySem.W.instObj C s.heap.objs.size)}:=by
 have e1:(s.heap.push PySem.W.emptyDict).get? s.heap.objs.size=some PySem.W.emptyDict:=Heap.get?_push_size s.heap rfl;have e2:((s.heap.push PySem.W.emptyDict).push (PySem.W.instObj C s.heap.objs.size)).get? 1e29=some (PySem.W.instObj C s.heap.objs.size):=by
  have:=Heap.get?_push_size (s.heap.push PySem.W.emptyDict) (o:=PySem.W.instObj C s.heap.objs.size) rfl
  rwa [Heap.size_push] at this
 have e3:(s.heap.push PySem.W.emptyDict).Ns s.heap.objs.size (fun _=>none):=⟨PySem.W.emptyDict,#[],_,e1,rfl,(fun e he=>absurd he 1e1),fun _=>rfl⟩;have I1:=I.laid (a:=s.heap.objs.size) (o:=.own 1e29) (h':=s.heap.push PySem.W.emptyDict) (t':=s.toks) (fun b u q=>Heap.get?_push_of_some _ q) 1e5 ⟨_,e1⟩;refine I1.laid (a:=s.heap.objs.size+1) (o:=.ins C s.heap.objs.size []) (t':=s.toks) (fun b u q=>Heap.get?_push_of_some _ q) (Nat.le_of_eq (Heap.size_push _ _)) ?_;have ne:s.heap.objs.size≠s.heap.objs.size+1:=Nat.ne_of_lt (Nat.lt_succ_self _);refine⟨by rw[aD ne,aA],Nat.zero_le _,ne,e2,fun _=>none,(Heap.Ns1.of_empty e3).at fun o q=>Heap.get?_push_of_some _ q,fun _=>True.intro,fun y hy=>absurd rfl hy⟩
def Mq{prog:Program}{env:Env}{Q:q0A}(hb:attributeBase e f env (eval e env)=eval e env)(h:wpAny 1e15 A (eval e env) (fun o s₁=>wpAny 1e15 A (getAttr o f true) Q E s₁) E s):wpAny 1e15 A (eval (.Attribute e f pos) env) Q E s :=
 Attribute_any_ h (by rw[arm_eval_Attribute,hb])
end
noncomputable def U4(X:Cx)(op:Operator)(rd:V->V->Hp->VK->Prop):Prop :=
 ∀(V9:List 1e13) (s:Shared) (σ:St) (H:Hp) (x y:V) (u v:Value) (Q:VK),Wc X V9 σ H s->bL x u->bL y v->rd x y H Q->wpAny 1e2 X.A (inplaceOp op u v) 1e43 X.xe s
section
variable{o value:Expr}{f:Str}{pos' Y4:Pos}{ta tv:TE}
def VI:V->V->Hp->VK->Prop:=fun x y H Q=>∃ i j,x=.int i/\y=.int j/\Q (.int (i+j)) H
def QY:U4 X .Add VI:=by
 rintro V9 s σ H x y u v Q I rx ry ⟨i,j,rfl,rfl,q⟩;obtain⟨t,rfl⟩:=(show ∃ t,u=Value.int i t from rx);obtain⟨t',rfl⟩:=(show ∃ t',v=Value.int j t' from ry);exact PyProof.Rows.iadd_int ⟨.int (i+j),H,I.tok _,⟨_,rfl⟩,q⟩
end
section
variable{Q:q0A}{c:Value}{b:Bool}
end
structure Room(k:Nat)(A:Around):Prop where
 hd:A.handled=none
 dp:A.depth+3 * k+5 < recursionLimit
 un:A.units+16 * k+200 < cLine
theorem Room.mono{j:Nat}(r:Room k A)(h:j<=k):Room j A:=⟨r.hd,by have:=r.dp;omega,by have:=r.un;omega⟩
theorem Room.deeper(r:Room (k+1) A)(env:Env):Room k (A.deeper env) :=
 ⟨r.hd,by have:=r.dp;show A.depth+1+3 * k+5 < _;omega,by have:=r.un;show A.units+3+16 * k+200 < _;omega⟩
def Ex:(A.under (.builtin "type.__call__" ⟨.ref C::us,kw⟩)).depth=A.depth+1:=by
 first|rfl|simp[Around.under,Code.weight,Code.isCreation,Code.isGuard,Code.isCaller,Code.frames,Code.isFrame,guardIds]
def Ey:(A.under (.builtin "type.__call__" ⟨.ref C::us,kw⟩)).units=A.units+1:=by
 first|rfl|simp[Around.under,Code.cUnits,Code.frames,Code.isFrame]
theorem Room.make(r:Room (k+1) A)(C:Addr)(us:List Value)(kw:List (Str×Value)):Room k (A.under (.builtin "type.__call__" ⟨.ref C::us,kw⟩)) :=
 ⟨r.hd,by have:=r.dp;rw[Ex];omega,by have:=r.un;rw[Ey];omega⟩
theorem Room.depth(r:Room k A):A.depth < recursionLimit:=by have:=r.dp;omega
theorem Room.units(r:Room k A):A.units+64 < cLine:=by have:=r.un;omega
def yM:TA:=fun _ H Q=>Q [] H
def mU(ta:TE)(tr:TA):TA:=fun σ H Q=>ta σ H fun x H1=>tr σ H1 fun xs H2=>Q (x::xs) H2
section
variable{t:TA}
def bQ:PA X [] yM:=fun _ _ _ _ H Q I h=>Calls.spliced_nil ⟨[],H,I,.nil,h⟩
def Gq(ha:PE X e te)(hr:PA X es t)(hs:starEach (e::es) X.env=(false,eval e X.env)::starEach es X.env:=by rfl):PA X (e::es) (mU te t):=by
 intro pos V9 s σ H Q I h;rw[hs];show wpAny _ _ (spliced ((false,eval e X.env)::backTo pos 1e59)) _ _ s;refine Calls.spliced_cons (thn 1e44 fun u s1 ⟨x,H1,I1,r1,q1⟩=>?_);exact thn (hr pos V9 s1 σ H1 _ I1 q1) fun us s2 ⟨xs,H2,I2,r2,q2⟩=>⟨x::xs,H2,I2,.cons r1 r2,q2⟩
def UB(t:TA):TE:=fun σ H Q=>t σ H fun xs H1=>xs.length<=sizeLine/\∀ p,H1 p=none->Q 1e21 (Wa H1 p 1e54)
def Uw(t:TA):TE:=fun σ H Q=>t σ H fun xs H1=>xs.length<=sizeLine/\∀ p,H1 p=none->Q 1e21 (Wa H1 p 1e20)
def a9{x1}(h:PA X es t):PE X (.Tuple es x1 pos) (UB t):=by
 intro V9 s σ H Q I hq;refine wpAny_Tuple_spliced (thn (h pos V9 s σ H _ I hq) fun us s1 ⟨xs,H1,I1,r,z,q⟩=>⟨by rw[<- r.length];exact z,?_⟩);have hf:H1 s1.heap.objs.size=none:=I1.Wh.fresh 1e5;refine⟨.ref s1.heap.objs.size,Wa H1 s1.heap.objs.size 1e54,I1.laid (t':=s1.toks) (fun b u e=>Heap.get?_push_of_some _ e) 1e5 ?_,rfl,q _ hf⟩;exact⟨z,us,r,⟨_,Heap.get?_push_size _ rfl,rfl,_,rfl⟩⟩
def aR(h:PA X es t):PE X (.List es pos) (Uw t):=by
 intro V9 s σ H Q I hq;refine wpAny_List_spliced (thn (h pos V9 s σ H _ I hq) fun us s1 ⟨xs,H1,I1,r,z,q⟩=>⟨by rw[<- r.length];exact z,?_⟩);have hf:H1 s1.heap.objs.size=none:=I1.Wh.fresh 1e5;refine⟨.ref s1.heap.objs.size,Wa H1 s1.heap.objs.size 1e20,I1.laid (t':=s1.toks) (fun b u e=>Heap.get?_push_of_some _ e) 1e5 ?_,rfl,q _ hf⟩;exact⟨z,us,0,r,Heap.get?_push_size _ rfl⟩
end
abbrev Sp:=List V->Hp->VK->XK->Prop
abbrev CXT:=List Env->Hp->Shared->XK->Value->Shared->Prop
variable{CX:CXT}
structure Env0(P:Program)(w:World)(K:q0B)(mg:q0C)(base:Heap)(A:Around)(outer:List Env)(s:Shared)(H:Hp):Prop where
 frames:A.frames=some outer
 mod:Mod K mg base
 bs:∀ b o,base.get? b=some o->s.heap.get? b=some o/\H b=none
 bsz:base.objs.size<=s.heap.objs.size
 pM:s.heap.FunFrames base outer
 frf:∀ b∈frs outer,H b=none
 Wh:HOk P w H s.heap
 bare:AllBare s.gens
noncomputable def CE(outer:List Env)(P:Program)(w:World)(H:Hp)(s:Shared)(Q:VK)(u:Value)(s':Shared):Prop :=
 ∃ v H',s'.os=s.os/\AllBare s'.gens/\Un (frs outer) [] H H' s.heap s'.heap/\HOk P w H' s'.heap/\bL v u/\Q v H'
noncomputable def CR(CX:CXT)(outer:List Env)(P:Program)(w:World)(H:Hp)(s:Shared)(Q:VK)(E:XK)(r:Result)(s':Shared):Prop :=
 match r with
 | .ok (.ret u)=>CE outer P w H s Q u s'
 | .ok _=>False
 | .error e=>CX outer H s E e s'
structure eP(P:Program)(w:World)(K:q0B)(mg:q0C)(base:Heap)(CX:CXT)(k:Nat)(f:Addr)(fd:FuncData)(ps:List Str)(sp:Sp):Prop where
 len:∀ vs H Q E,sp vs H Q E->vs.length=ps.length
 run:∀(A:Around) (outer:List Env) (s:Shared) (H:Hp) (args:Args) (us:List Value) (vs:List V) (Q:VK) (E:XK),Room k A->Env0 P w K mg base A outer s H->BindsTo s fd args (ps.zip us)->We vs us->sp vs H Q E ->
  codeAny (model P w) A (.call (.ref f) args) (CR CX outer P w H s Q E) s
def eP.mono{j:Nat}{f:Addr}{sp:Sp}(F:eP P w K mg base CX j f fd ps sp)(h:j<=k) : eP P w K mg base CX k f fd ps sp:=⟨F.len,fun A outer s H args us vs Q E hr=>F.run A outer s H args us vs Q E (hr.mono h)⟩
def eP.imp{f:Addr}{sp sp':Sp}(F:eP P w K mg base CX k f fd ps sp)(h:∀ vs H Q E,sp' vs H Q E->sp vs H Q E):eP P w K mg base CX k f fd ps sp' :=
 ⟨fun vs H Q E q=>F.len vs H Q E (h _ _ _ _ q),fun A outer s H args us vs Q E hr he hb hv hs=>F.run A outer s H args us vs Q E hr he hb hv (h _ _ _ _ hs)⟩
def Env0.make(e:Env0 P w K mg base A outer s H)(C:Addr)(us:List Value)(kw:List (Str×Value)) : Env0 P w K mg base (A.under (.builtin "type.__call__" ⟨.ref C::us,kw⟩)) outer s H:=⟨by first|exact e.frames|(simpa[Around.under,Code.envs,Code.isFrame,pushEnvs] using e.frames),e.mod,e.bs,e.bsz,e.pM,e.frf,e.Wh,e.bare⟩
section
def Wc.Tn(I:Wc X V9 σ H s):Env0 X.prog X.w X.K X.mg X.base X.A X.stack s H :=
 ⟨I.ok.frames,I.ok.mod,I.bs,Nat.le_trans I.ok.bsz I.sz,I.stack,I.BQ,I.Wh,I.bare⟩
def Wc.after{Q:VK}(I:Wc X V9 σ H s)(h:CE X.stack X.prog X.w H s Q u s'):EP X V9 σ Q u s':=by
 obtain⟨v,H',os,bare,un,Wh,r,q⟩:=h;obtain⟨hh,g,d,t,Zt⟩:=s';obtain rfl:Zt=s.os:=os;exact⟨v,H',I.call (h':=hh) (g':=g) (d':=d) (t':=t) (ch:=[]) un Wh bare (fun b z=>absurd z 1e1),r,q⟩
end
def Ha(sp:Sp)(WZ:List V)(E:XK)(t:TA):TE:=fun σ H Q=>t σ H fun vs H1=>sp (vs++WZ) H1 Q E
noncomputable def DE(C:Addr)(m:Str)(sp:Sp)(WZ:List V)(E:XK)(ta:TE)(t:TA):TE:=fun σ H Q=>ta σ H fun x H1=>∃ a dx fs,x=.ref a/\H1 a=some (.ins C dx fs)/\fs.lookup m=none /\
 t σ H1 fun vs H2=>sp (x::(vs++WZ)) H2 Q E
noncomputable def Hb(C:Addr)(sp:Sp)(WZ:List V)(E:XK)(t:TA):TE:=fun σ H Q=>t σ H fun vs H1=>∀ x dx,H1 x=none->H1 dx=none->dx≠x ->
 sp (.ref x::(vs++WZ)) (Wa (Wa H1 dx (.own x)) x (.ins C dx [])) (fun v H2=>v=.Wb/\Q (.ref x) H2) E
noncomputable def Binds(K:q0B)(fd:FuncData)(ps:List Str)(ds:List Value):Prop :=
 ∀(s:Shared) (us:List Value),K.In s.heap->(us++ds).length=ps.length->BindsTo s fd ⟨us,[]⟩ (ps.zip (us++ds))
def Binds.all(h:∀ us:List Value,us.length=ps.length->bindArgs fd ⟨us,[]⟩=pure (ps.zip us)):Binds K fd ps []:=fun s us _ hl=>by
 rw[List.append_nil] at hl ⊢;exact .of_eq (h us hl)
noncomputable def Passes(CX:CXT)(X:Cx)(E:XK):Prop:=∀(V9:List 1e13) (σ:St) (H:Hp) (s:Shared) (e:Value) (s':Shared),Wc X V9 σ H s->CX X.stack H s E e s'->X.xe e s'
section
variable{f:Addr}{sp:Sp}{WZ:List V}{ds:List Value}{E:XK}{m:Str}{p apos:Pos}{o:Expr}{ta:TE}{t:TA}
def BJ{Q:VK}(F:eP X.prog X.w X.K X.mg X.base CX k f fd ps sp)(hr:Room k X.A)(hb:Binds X.K fd ps ds)(hd:We WZ ds)(hx:Passes CX X E)(I:Wc X V9 σ H s)(r:We vs us)(h:sp (vs++WZ) H Q E):wpAny 1e2 X.A (call (.ref f) us) 1e43 X.xe s:=by
 have r2:We (vs++WZ) (us++ds):=r.append hd;have hl:(us++ds).length=ps.length:=by rw[<- r2.length];exact F.len _ _ _ _ h
 refine wpAny_call (codeAny_mono (F.run X.A X.stack s H ⟨us,[]⟩ (us++ds) (vs++WZ) Q E hr I.Tn (hb s us I.kIn hl) r2 h) fun r s' hq=>?_);cases r with
 | error e=>exact hx V9 σ H s e s' I hq
 | ok fl =>
  cases fl with
  | ret u=>exact I.after hq
  | next=>exact False.elim hq
  | brk=>exact False.elim hq
  | cont=>exact False.elim hq
theorem uA(F:eP X.prog X.w X.K X.mg X.base CX k f fd ps sp)(hr:Room k X.A)(hg:Gl X x)(hm:X.mg x=some (.ref f))(hk:PySem.W.keepIn X.K (.ref f)=true)(hb:Binds X.K fd ps ds)(hd:We WZ ds)(hx:Passes CX X E)(ha:PA X (e::es) t)(YR:1e34=false:=by decide)(he:starEach (e::es) X.env=(false,eval e X.env)::starEach es X.env:=by rfl)(WH:(backTo pos 1e59).any (·.1)=false:=by rfl) : PE X (.Call (.Name x p) (e::es) [] pos) (Ha sp WZ E t):=by
 intro V9 s σ H Q I h;refine wpAny_Call_Name_kw (tX I hg hm ?_ YR);refine PySem.W.callWith_K (h₀:=X.base) I.ok.mod.kin hk (thn (ha pos V9 s σ H _ I h) fun us s1 ⟨vs,H1,I1,r,q⟩=>⟨I1.kIn,?_⟩) he WH;exact BJ F hr hb hd hx I1 r q
def BD(he:PE X o ta)(c:Cls X.K C)(hm:Meth X.K C m f)(F:eP X.prog X.w X.K X.mg X.base CX k f fd ps sp)(hr:Room k X.A)(hb:Binds X.K fd ps ds)(hd:We WZ ds)(hx:Passes CX X E)(ha:PA X (e::es) t)
    (Wq:starEach (e::es) X.env=(false,eval e X.env)::starEach es X.env:=by rfl) (WH:(backTo pos 1e59).any (·.1)=false:=by rfl)
    (ht:eval (.Call (.Attribute o m apos) (e::es) [] pos) X.env=(do
      let ov <- eval o X.env
      standAt apos.atName
      let (f,first) <- holding [ov] (getMethod ov m pl)
      callWith pos f first (backTo pos (starEach (e::es) X.env)) (backToKw pos (keywordEach [] X.env))):=by rfl) :
    PE X (.Call (.Attribute o m apos) (e::es) [] pos) (DE C m sp WZ E ta t):=by
  intro V9 s σ H Q I h;refine PySem.W.methodCall_KW (pl:=pl) (thn (he V9 s σ H _ I h) fun u s1 ⟨x,H1,I1,rx,a,dx,fs,ex,ea,l,q⟩=>?_) ht;subst ex;obtain rfl:u=Value.ref a:=rx;refine wC I1 ea c hm l ?_;refine PySem.W.callWith_K (first:=[.ref a]) (h₀:=X.base) I.ok.mod.kin hm.kp (thn (ha pos V9 s1 σ H1 _ I1 q) fun us s2 ⟨vs,H2,I2,r,q2⟩=>⟨I2.kIn,?_⟩) Wq WH
  exact BJ (us:=.ref a::us) (vs:=.ref a::vs) F hr hb hd hx I2 (.cons rfl r) q2
def Lq(he:PE X o ta)(c:Cls X.K C)(hm:Meth X.K C m f)(F:eP X.prog X.w X.K X.mg X.base CX k f fd ps sp)(hr:Room k X.A)(hb:Binds X.K fd ps ds)(hd:We WZ ds)(hx:Passes CX X E)
    (ht:eval (.Call (.Attribute o m apos) [] [] pos) X.env=(do
      let ov <- eval o X.env
      standAt apos.atName
      let (f,first) <- holding [ov] (getMethod ov m pl)
      callWith pos f first (backTo pos (starEach [] X.env)) (backToKw pos (keywordEach [] X.env))):=by rfl) :
    PE X (.Call (.Attribute o m apos) [] [] pos) (DE C m sp WZ E ta yM):=by
  intro V9 s σ H Q I h;refine PySem.W.methodCall_KW (pl:=pl) (thn (he V9 s σ H _ I h) fun u s1 ⟨x,H1,I1,rx,a,dx,fs,ex,ea,l,q⟩=>?_) ht;subst ex;obtain rfl:u=Value.ref a:=rx;refine wC I1 ea c hm l ?_;exact PySem.W.callWith_K0 (first:=[.ref a]) I1.kIn hm.kp (BJ (us:=[.ref a]) (vs:=[.ref a]) F hr hb hd hx I1 (.cons rfl .nil) q)
structure Mk(K:q0B)(C f:Addr):Prop where
 makes:PySem.W.makesIn K C=true
 init:PySem.W.findIn K (.ref C) "__init__"=some (some (.ref f))
 fn:PySem.W.isFn K (.ref f)=true
 kp:PySem.W.keepIn K (.ref C)=true
def De{Q:VK}(M:Mk X.K C f)(F:eP X.prog X.w X.K X.mg X.base CX k f fd ps sp)(hr:Room (k+1) X.A)(hb:Binds X.K fd ps ds)(hd:We WZ ds)(hx:Passes CX X E)(I:Wc X V9 σ H s)(r:We vs us)(h:∀ x dx,H x=none->H dx=none->dx≠x->sp (.ref x::(vs++WZ)) (Wa (Wa H dx (.own x)) x (.ins C dx [])) (fun v H2=>v=.Wb/\Q (.ref x) H2) E) : wpAny 1e2 X.A (call (.ref C) us) 1e43 X.xe s:=by
 have hq:=h 1e29 s.heap.objs.size (I.Wh.fresh (Nat.le_succ _)) (I.Wh.fresh 1e5) (Nat.ne_of_lt (Nat.lt_succ_self _));have I2:=Wc.made (C:=C) I;have r2:We (V.ref 1e29::(vs++WZ)) (Value.ref 1e29::(us++ds)):=.cons rfl (r.append hd);have hl:(Value.ref 1e29::us++ds).length=ps.length:=by
  have e:=r2.length;rw[F.len _ _ _ _ hq] at e;exact e.symm
 refine wpAny_call (KJ (f:=f) I.kIn M.makes M.init (beq_iff_eq.mp M.fn) (codeAny_mono (F.run _ X.stack _ _ ⟨Value.ref 1e29::us,[]⟩ (Value.ref 1e29::(us++ds)) _ _ E (hr.make C us [])
  (I2.Tn.make C us []) (hb _ (Value.ref 1e29::us) I2.kIn hl) r2 hq) fun r s' hq'=>?_))
 cases r with
 | error e=>exact hx V9 σ _ _ e s' I2 hq'
 | ok fl =>
  cases fl with
  | ret u =>
   obtain⟨v,H',I3,rv,ev,q3⟩:=I2.after hq';subst ev;exact⟨rv,⟨V.ref 1e29,H',I3,rfl,q3⟩⟩
  | next=>exact False.elim hq'
  | brk=>exact False.elim hq'
  | cont=>exact False.elim hq'
theorem Gv(M:Mk X.K C f)(F:eP X.prog X.w X.K X.mg X.base CX k f fd ps sp)(hr:Room (k+1) X.A)(hg:Gl X x)(hm:X.mg x=some (.ref C))(hb:Binds X.K fd ps ds)(hd:We WZ ds)(hx:Passes CX X E)(ha:PA X (e::es) t)(YR:1e34=false:=by decide)(he:starEach (e::es) X.env=(false,eval e X.env)::starEach es X.env:=by rfl)(WH:(backTo pos 1e59).any (·.1)=false:=by rfl) : PE X (.Call (.Name x p) (e::es) [] pos) (Hb C sp WZ E t):=by
 intro V9 s σ H Q I h;refine wpAny_Call_Name_kw (tX I hg hm ?_ YR);refine PySem.W.callWith_K (h₀:=X.base) I.ok.mod.kin M.kp (thn (ha pos V9 s σ H _ I h) fun us s1 ⟨vs,H1,I1,r,q⟩=>⟨I1.kIn,?_⟩) he WH;exact De M F hr hb hd hx I1 r q
theorem Lp(M:Mk X.K C f)(F:eP X.prog X.w X.K X.mg X.base CX k f fd ps sp)(hr:Room (k+1) X.A)(hg:Gl X x)(hm:X.mg x=some (.ref C))(hb:Binds X.K fd ps ds)(hd:We WZ ds)(hx:Passes CX X E)(YR:1e34=false:=by decide):PE X (.Call (.Name x p) [] [] pos) (Hb C sp WZ E yM):=by
 intro V9 s σ H Q I h;refine wpAny_Call_Name_kw (tX I hg hm ?_ YR);exact PySem.W.callWith_K0 I.kIn M.kp (De (us:=[]) M F hr hb hd hx I .nil h)
end
section
variable{f:Addr}{ks:List Str}{sp:Sp}{E:XK}{m:Str}{p apos ac0:Pos}{o:Expr}{kws:List Keyword}{ta:TE}{t tk:TA}{nm:Option Str}
variable{g:List Value->List Value->List Value}{gV:List V->List V->List V}
end
structure mX(N P:List Str)(sc:Scope):Prop where
 kind:sc.kind=.function
 co:sc.isCoroutine=false
 gen:sc.isGenerator=false
 nd:N.Nodup
 pre:N.take P.length=P
 par:∀ x∈P,sc.names.lookup x=some .local\/sc.names.lookup x=some .cell
 gT:∀ y∈sc.names,y.2≠.free
theorem zW{kindOf:Str->Option NameKind}{x:Str}:∀ {binds:List (Str×Value)} {m:q0C},(∀ v,(x,v)∉binds)->bindL kindOf binds m x=m x
 | [],_,_=>rfl
 | (n,v)::r,m,h=>by
  unfold bindL;rw[zW fun w hw=>h w (List.mem_cons_of_mem _ hw)];split
  ·have:x≠n:=by rintro rfl;exact h v List.mem_cons_self
   simp[this]
  ·rfl
theorem zU{kindOf:Str->Option NameKind}{x:Str}:∀ {binds:List (Str×Value)} {m:q0C},(∀ v,(x,v)∉binds)->bindC kindOf binds m x=m x
 | [],_,_=>rfl
 | (n,v)::r,m,h=>by
  unfold bindC;rw[zU fun w hw=>h w (List.mem_cons_of_mem _ hw)];split
  ·rfl
  ·have:x≠n:=by rintro rfl;exact h v List.mem_cons_self
   simp[this]
theorem zV{kindOf:Str->Option NameKind}{x:Str}{v:Value}:∀ {P:List Str} {vs:List Value} {i:Nat} {m:q0C},P.Nodup->P[i]?=some x->vs[i]?=some v->kindOf x=some .local -> bindL kindOf (P.zip vs) m x=some v
 | [],_,_,_,_,h,_,_=>by simp at h
 | _::_,[],_,_,_,_,h,_=>by simp at h
 | p::P,w::vs,0,m,nd,h1,h2,hk=>by
  simp at h1 h2;subst h1;subst h2;show bindL kindOf ((p,w)::P.zip vs) m p=_;unfold bindL;rw[zW fun v hv=>(List.nodup_cons.mp nd).1 (List.of_mem_zip hv).1,if_pos hk];simp
 | p::P,w::vs,i+1,m,nd,h1,h2,hk=>by
  show bindL kindOf ((p,w)::P.zip vs) m x=_;unfold bindL;exact zV (i:=i) (List.nodup_cons.mp nd).2 (by simpa using h1) (by simpa using h2) hk
theorem zT{kindOf:Str->Option NameKind}{x:Str}{v:Value}:∀ {P:List Str} {vs:List Value} {i:Nat} {m:q0C},P.Nodup->P[i]?=some x->vs[i]?=some v->kindOf x≠some .local -> bindC kindOf (P.zip vs) m x=some v
 | [],_,_,_,_,h,_,_=>by simp at h
 | _::_,[],_,_,_,_,h,_=>by simp at h
 | p::P,w::vs,0,m,nd,h1,h2,hk=>by
  simp at h1 h2;subst h1;subst h2;show bindC kindOf ((p,w)::P.zip vs) m p=_;unfold bindC;rw[zU fun v hv=>(List.nodup_cons.mp nd).1 (List.of_mem_zip hv).1,if_neg hk];simp
 | p::P,w::vs,i+1,m,nd,h1,h2,hk=>by
  show bindC kindOf ((p,w)::P.zip vs) m x=_;unfold bindC;exact zT (i:=i) (List.nodup_cons.mp nd).2 (by simpa using h1) (by simpa using h2) hk
def start(N:List Str)(vs:List V):St:=vs.map some++List.replicate (N.length - vs.length) none
noncomputable def AU(CX:CXT)(P:Program)(w:World)(K:q0B)(mg:q0C)(base:Heap)(N:List Str)(qual:Str)(scope:Scope)(f:Addr)(cd:Value)(A:Around)(outer:List Env)(s:Shared)(H:Hp)(E:XK):Cx where
 prog:=P
 w:=w
 K:=K
 mg:=mg
 base:=base
 A:=A.deeper (envOfC qual scope s.heap.objs.size f cd)
 N:=N
 s₀:=s
 H₀:=H
 env:=envOfC qual scope s.heap.objs.size f cd
 outer:=outer
 stack:=envOfC qual scope s.heap.objs.size f cd::outer
 ex:=[]
 calm:=true
 fn:=fun _=>true
 pn:=[]
 xe:=fun e s'=>wpAny (model P w) (A.deeper (envOfC qual scope s.heap.objs.size f cd)) (leaving (envOfC qual scope s.heap.objs.size f cd) e) (fun _ s''=>CX outer H s E e s'') (fun e' s''=>CX outer H s E e' s'') s'
def Cd{sc:Scope}(h:sc.names.lookup x=some .cell):∃ c,(cellsFrom n sc.names []).lookup x=some c:=by
 have q:=PySem.W.cellsFrom_some sc.names n [] (.inl h);exact Option.isSome_iff_exists.mp q
theorem HY{N:List Str}{qual:Str}{f:Addr}{cd:Value}{s1:Shared}{E:XK}(S:mX N ps scope)(hd:A.handled=none)(e0:Env0 P w K mg base A outer s H)(hl:vs.length=ps.length)(r:We vs us)(x:InCallC s s.heap.objs.size (bindL (envOfC qual scope s.heap.objs.size f cd).kindOf (ps.zip us) fun _=>none) (cellsFrom 1e29 scope.names []) (bindC (envOfC qual scope s.heap.objs.size f cd).kindOf (ps.zip us) fun _=>none) s1) : Wc (AU CX P w K mg base N qual scope f cd A outer s H E) [] (start N vs) H s1:=by
 have WH:ps.length<=N.length:=by have:=congrArg List.length S.pre;rw[List.length_take] at this;omega
 obtain⟨h1,tk,rfl,hk⟩:=x.done;have noA:∀ b:Addr,b∉(AU CX P w K mg base N qual scope f cd A outer s H E).ex:=fun b z=>absurd (show b∈([]:List Addr) from z) 1e1;refine⟨⟨e0.mod,S.kind,rfl,rfl,Nat.le_refl _,fun y z c h1 h2=>?_,fun y hy=>?_,fun y c _ h=>?_,fun _=>hd,Around.frames_deeper e0.frames,.inr ⟨rfl,rfl⟩,fun b z=>absurd z (noA b),e0.bs,e0.bsz,fun b _ _=>noA b,fun b z=>absurd z (noA b),e0.pM,e0.frf⟩,
  rfl,e0.bare,Un.kept hk,⟨_,x.toInCall.ns,fun i y v h1 h2 h3=>?_⟩,fun y c h=>⟨_,x.cell y c h⟩,e0.Wh.fresh 1e5,fun y c h=>?_,fun p hp=>absurd (show p∈([]:List 1e13) from hp) 1e1,e0.Wh.kept hk,?_⟩
 ·exact name_of_addr x.apart (PySem.mem_of_lookup h1) (PySem.mem_of_lookup h2)
 ·have hy:scope.names.lookup y=some .cell\/scope.names.lookup y=some .free:=hy;rcases hy with hy|hy
  ·exact Cd hy
  ·exact absurd rfl (S.gT _ (PySem.mem_of_lookup hy))
 ·exact Nat.le_of_lt (x.above y c (PySem.mem_of_lookup h))
 ·have hi:i < vs.length:=by
   unfold start at h2;by_cases hi:i < vs.length
   ·exact hi
   ·rw[List.getElem?_append_right (by simpa using hi)] at h2;rw[List.getElem?_replicate] at h2;split at h2<;>cases h2
  have ha:vs[i]?=some v:=by
   unfold start at h2;rw[List.getElem?_append_left (by simpa using hi),List.getElem?_map] at h2;cases e:vs[i]? with
   | none=>rw[e] at h2;cases h2
   | some a=>rw[e] at h2;cases h2;rfl
  obtain⟨u,hu,rv⟩:=r.get ha;have hp:ps[i]?=some y:=by
   rw[<- S.pre,List.getElem?_take_of_lt 1e0];exact h1
  have ndP:ps.Nodup:=by rw[<- S.pre];exact S.nd.sublist (List.take_sublist _ _)
  refine⟨u,rv,?_⟩;rcases S.par y (List.mem_of_getElem? hp) with k|k
  ·exact .inl ⟨k,zV ndP hp hu k⟩
  ·obtain⟨c,e⟩:=Cd (n:=s.heap.objs.size+1) k;refine .inr ⟨.inl k,c,e,?_⟩;have q:=x.cell y c e;rw[zT ndP hp hu (by show scope.names.lookup y≠_;rw[k];decide)] at q;exact q
 ·exact e0.Wh.fresh (Nat.le_of_lt (x.above y c (PySem.mem_of_lookup h)))
 ·unfold start;show _=N.length;rw[List.length_append,List.length_map,List.length_replicate];omega
def Tt{f:Addr}{name qual:Str}{params:Arguments}{dV kV doc pm Wy ct oc:Value}{an od:Option Addr}{Yx:Array (Option Value)}{N:List Str}{sp:Sp}(lk:K.lookup f=some ⟨oc,od,.func (PySem.W.fnOf name qual params body scope dV kV doc pm an Wy ct),Yx⟩)(YQ:PySem.W.codeIn K Wy qual=true)(S:mX N ps scope)(len:∀ vs H Q E,sp vs H Q E->vs.length=ps.length)(XG:∀(A:Around) (outer:List Env) (s:Shared) (H:Hp) (vs:List V) (Q:VK) (E:XK),Room k (A.deeper (envOfC qual scope s.heap.objs.size f Wy))->sp vs H Q E -> ∃ t,Xy (AU CX P w K mg base N qual scope f Wy A outer s H E) body t/\t {nx:=fun _ H'=>Q .Wb H',rt:=Q} (start N vs) H) : eP P w K mg base CX (k+1) f (PySem.W.fnOf name qual params body scope dV kV doc pm an Wy ct) ps sp:=by
 refine⟨len,fun A outer s H args us vs Q E hr e0 hb r ZO=>?_⟩;have hl:=len _ _ _ _ ZO;have KX:K.In s.heap:=e0.mod.kin.keeps fun b o e=>(e0.bs b o e).1;have lim:s.heap.NoLimit:=e0.mod.nolimit.keeps fun b o e=>(e0.bs b o e).1;have Xd:∀ y∈ps.zip us,scope.names.lookup y.1=some .local\/(scope.names.lookup y.1=some .cell/\((cellsFrom 1e29 scope.names []).lookup y.1).isSome=true):=fun⟨n,v⟩ hy=>by
  rcases S.par n (List.of_mem_zip hy).1 with q|q
  ·exact .inl q
  ·exact .inr ⟨q,PySem.W.cellsFrom_some _ _ _ (.inl q)⟩
 refine codeAny_call_function hr.depth (KX _ _ lk) rfl S.co S.gen rfl (PySem.W.codeRec_of KX YQ) (hb _ _ _ _ ?_);refine wpAny_newFunctionEnv_cells S.kind Xd fun env he s1 x=>?_;subst he;refine⟨lim.keeps x.toInCall.keep,codeAny_func ?_⟩;obtain⟨t,ht,hq⟩:=XG A outer s H vs Q E (hr.deeper _) ZO;have I:Wc (AU CX P w K mg base N qual scope f Wy A outer s H E) [] (start N vs) H s1:=HY S hr.hd e0 hl r x;refine wpAny_mono (ht [] s1 (start N vs) H _ I hq) (fun fl s' hs=>?_) fun e s' hs=>hs;have fin:∀ {σ':St} {H':Hp} {v:V} {u:Value},Wc (AU CX P w K mg base N qual scope f Wy A outer s H E) [] σ' H' s'->bL v u->Q v H'->CE outer P w H s Q u s' :=
  fun {σ' H' v u} J rv q=>⟨v,H',J.os,J.bare,J.base,J.Wh,rv,q⟩
 cases fl with
 | ret u =>
  obtain⟨v,σ',H',J,rv,q⟩:=hs;exact fin J rv q
 | next =>
  obtain⟨σ',H',J,q⟩:=hs;exact fin (v:=V.Wb) (u:=Value.none) J rfl q
 | brk =>
  obtain⟨_,_,_,q⟩:=hs;exact False.elim q
 | cont =>
  obtain⟨_,_,_,q⟩:=hs;exact False.elim q
section
variable{p:Pos}{t:TA}{id T:String}{r:List V->Hp->VK->Prop}
def VP(r:List V->Hp->VK->Prop)(t:TA):TE:=fun σ H Q=>t σ H fun vs H1=>r vs H1 Q
theorem aY(hc:fF X (.builtin id) r)(hg:Gl X x)(hm:X.mg x=none)(hv:bootBuiltins x=some (.builtin id))(ha:PA X (e::es) t)(hn:x≠"__name__":=by decide)(YR:1e34=false:=by decide)(he:starEach (e::es) X.env=(false,eval e X.env)::starEach es X.env:=by rfl)(WH:(backTo pos 1e59).any (·.1)=false:=by rfl):PE X (.Call (.Name x p) (e::es) [] pos) (VP r t):=by
 intro V9 s σ H Q I h;refine wpAny_Call_Name_kw (Bq I hg hm hv ?_ hn YR);exact PyProof.Rows.callWith_builtin1 (thn (ha pos V9 s σ H _ I h) fun us s1 ⟨vs,H1,I1,r1,q1⟩=>hc V9 s1 σ H1 vs us Q I1 r1 q1) he WH
theorem cA(hc:fF X (.type T) r)(hg:Gl X x)(hm:X.mg x=none)(hv:bootBuiltins x=some (.type T))(ha:PA X (e::es) t)(hn:x≠"__name__":=by decide)(YR:1e34=false:=by decide)(he:starEach (e::es) X.env=(false,eval e X.env)::starEach es X.env:=by rfl)(WH:(backTo pos 1e59).any (·.1)=false:=by rfl):PE X (.Call (.Name x p) (e::es) [] pos) (VP r t):=by
 intro V9 s σ H Q I h;refine wpAny_Call_Name_kw (Bq I hg hm hv ?_ hn YR);exact PyProof.Rows.callWith_type1 (thn (ha pos V9 s σ H _ I h) fun us s1 ⟨vs,H1,I1,r1,q1⟩=>hc V9 s1 σ H1 vs us Q I1 r1 q1) he WH
end
end L2
namespace HT
open PySem PyProof.Rows
section
open PySem.SeqAt
open PySem.AutoSeq1 (wpAny_loadPart')
open PySem.MeetsSeq PySem.MeetsSeq2 PySem.MeetsSeq3
end
section
variable{prog:Program}{w:World}{A:Around}{E:q0A}{s:Shared}
def Mx{t b:Addr}{vs ws:List Value}{Q:q0A}(ht:IsTup s.heap t vs.toArray)(hb:IsTup s.heap b ws.toArray)(hv:vs≠[])(h1:ws=[]->Q (.ref t) s)(h2:ws≠[]->Q 1e33 {s with heap:=s.heap.push {cls:=.type "tuple",data:=.seq (vs++ws).toArray}})(hsz:vs.length+ws.length<=sizeLine):wpAny 1e15 A (binaryOp .Add (.ref t) (.ref b)) Q E s:=by
 obtain⟨⟨cls,dd,data,sl⟩,ho,hc,n,hd⟩:=id ht;obtain⟨⟨acS,dd2,data2,Zv⟩,WM,hc2,n2,hd2⟩:=id hb;simp only at hc hd hc2 hd2;subst hc hd hc2 hd2;have e:vs.toArray++ws.toArray=(vs++ws).toArray:=by simp
 by_cases hw:ws=[]
 ·exact concat_meets ⟨_,ho,rfl⟩ ⟨_,WM,rfl⟩ noFill_tuple_add seq_tuple_add PySem.F.slot_tuple_add PySem.F.entry_tuple_add (PySem.F.args_tuple_add_2 _ _)
   (tuple_addW1 t b vs.toArray ws.toArray n n2 dd dd2 sl Zv (by simpa using hv) (by simp[hw])) ⟨ho,WM,h1 hw⟩
 ·refine concat_meets ⟨_,ho,rfl⟩ ⟨_,WM,rfl⟩ noFill_tuple_add seq_tuple_add PySem.F.slot_tuple_add PySem.F.entry_tuple_add (PySem.F.args_tuple_add_2 _ _)
   (tuple_addW2 t b vs.toArray ws.toArray n n2 dd dd2 sl Zv (by simpa using hv) (by simpa using hw) (by rw[List.size_toArray,List.size_toArray];exact hsz)) ⟨ho,WM,?_⟩
  rw[e];exact h2 hw
noncomputable def g8(n d:Nat):Option Int->Nat
 | none=>d
 | some v=>if v < 0 then (v+(n:Int)).toNat else min v.toNat n
theorem RC(n d:Nat)(hd:d<=n)(o:Option Int):g8 n d o<=n:=by
 cases o with
 | none=>exact hd
 | some v =>
  show(if v < 0 then (v+(n:Int)).toNat else min v.toNat n)<=n;by_cases hv:v < 0
  ·rw[if_pos hv];omega
  ·rw[if_neg hv];exact Nat.min_le_right _ _
theorem Fy(v:Int)(n d:Nat):(if v < 0 then max (v+(n:Int)) 0 else min v (n:Int))=((g8 n d (some v):Nat):Int):=by
 show(if v < 0 then max (v+(n:Int)) 0 else min v (n:Int))=(((if v < 0 then (v+(n:Int)).toNat else min v.toNat n):Nat):Int);by_cases hv:v < 0
 ·simp only[if_pos hv];omega
 ·simp only[if_neg hv];omega
theorem DT(lo hi:Option Int)(n:Nat):Builtin.Slice.sliceAdjust lo hi 1 (n:Int)=(((g8 n 0 lo:Nat):Int),((g8 n n hi:Nat):Int)):=by
 have h1:¬ ((1:Int) < 0):=by omega
 unfold Builtin.Slice.sliceAdjust;simp only[h1,if_false];refine Prod.ext ?_ ?_
 ·cases lo with
  | none=>rfl
  | some v=>exact Fy v n 0
 ·cases hi with
  | none=>rfl
  | some v=>exact Fy v n n
theorem ET(i j:Nat):Builtin.Slice.slicePlaces (i:Int) (j:Int) 1=j - i:=by
 unfold Builtin.Slice.slicePlaces;have h1:(1:Int) > 0:=by omega
 simp only[h1,if_true,Int.ediv_one];split<;>omega
def yC{v:Value}{o:Option Int}{Q:Option Int->Shared->Prop}(p:IsPart v o)(h:Q o s):wpAny 1e15 A (Builtin.Slice.slicePartIndex v) Q E s:=by
 cases p with
 | none=>exact slicePart_none h
 | int i t=>exact slicePart_int h
theorem rT{sl:Addr}{vl vu:Value}{lo hi:Option Int}{n:Nat}{Q:Int×Int×Nat->Shared->Prop}(hs:s.heap.IsSliceOf sl vl vu .none)(pl:IsPart vl lo)(pu:IsPart vu hi)(h:Q (((g8 n 0 lo:Nat):Int),1,g8 n n hi - g8 n 0 lo) s):wpAny 1e15 A (Builtin.Slice.sliceApplied (.ref sl) (pure (n:Int))) Q E s:=by
 obtain⟨os,hos,hcs,YS⟩:=id hs;unfold Builtin.Slice.sliceApplied Builtin.Slice.sliceFields;refine wpAny_bind (wpAny_bind (wpAny_field hos YS (x:=vl) rfl (wpAny_bind (wpAny_field hos YS (x:=vu) rfl (wpAny_bind (wpAny_field hos YS (x:=.none) rfl 1e42))))));refine wpAny_bind (slicePart_none ?_);show wpAny _ _ (if ((1:Int)==0)=true then _ else _) _ _ s;rw[if_neg 1e6];refine wpAny_bind (yC pl (wpAny_bind (yC pu (wpAny_bind 1e42))));show wpAny _ _ (match Builtin.Slice.sliceAdjust lo hi 1 (n:Int) with|(lo,hi)=>pure (lo,(1:Int),Builtin.Slice.slicePlaces lo hi 1)) _ _ s;rw[DT lo hi n];show wpAny _ _ (pure (((g8 n 0 lo:Nat):Int),(1:Int),Builtin.Slice.slicePlaces ((g8 n 0 lo:Nat):Int) ((g8 n n hi:Nat):Int) 1)) _ _ s;rw[ET];exact wpAny_pure h
theorem Lw(xs:Array Value)(i k:Nat):((List.range k).filterMap fun(m:Nat)=>xs[((i:Int)+(m:Int) * 1).toNat]?).toArray=((xs.toList.drop i).take k).toArray:=by
 have e:(fun(m:Nat)=>xs[((i:Int)+(m:Int) * 1).toNat]?)=fun m=>xs[i+m]?:=by
  funext m;have:((i:Int)+(m:Int) * 1).toNat=i+m:=by omega
  rw[this]
 rw[e];have:=pick_run xs i k;rw[List.filterMap_map] at this;have e2:((fun x=>xs[x]?)∘fun x=>i+x)=fun m=>xs[i+m]?:=rfl;rw[e2] at this;rw[this]
theorem pN{t sl:Addr}{items:Array Value}{vl vu:Value}{lo hi:Option Int}{Q:q0A}(ht:IsTup s.heap t items)(hs:s.heap.IsSliceOf sl vl vu .none)(pl:IsPart vl lo)(pu:IsPart vu hi)(hw:¬ (g8 items.size 0 lo=0/\g8 items.size items.size hi=items.size))(h:Q 1e33 {s with heap:=s.heap.push {cls:=.type "tuple",data:=.seq ((items.toList.drop (g8 items.size 0 lo)).take (g8 items.size items.size hi - g8 items.size 0 lo)).toArray}})(hsz:items.size<=sizeLine):wpAny 1e15 A (getItem (.ref t) (.ref sl)) Q E s:=by
 have X5:sizeOk (.seq ((items.toList.drop (g8 items.size 0 lo)).take (g8 items.size items.size hi - g8 items.size 0 lo)).toArray):=by
  show((items.toList.drop (g8 items.size 0 lo)).take (g8 items.size items.size hi - g8 items.size 0 lo)).toArray.size<=sizeLine;rw[List.size_toArray,List.length_take,List.length_drop,Array.length_toList];omega
 have hj:g8 items.size items.size hi<=items.size:=RC _ _ 1e5 hi;obtain⟨os,hos,hcs,YS⟩:=id hs;have hTs:s.TypeIs (.ref sl) "slice":=⟨os,hos,hcs⟩;unfold getItem
 try with_reducible refine wpAny_holding ?_
 first|refine wpAny_bind 1e42|skip
 refine wpAny_bind (wpAny_sequenceKey ht.typeIs 1e6 ?_);refine wpAny_bind (wpAny_callSpecial?_slot (name:=Str.ofString "__getitem__") ht.typeIs PyProof.Rows.slot_tuple_getitem
  (wpAny_call_entry PyProof.Rows.slot_tuple_getitem ht.typeIs entry_tuple_getitem ?_ (args_tuple_getitem _ _)))
 show wpAny _ _ (Builtin.Tuple.tupleItemsOf (.ref t) >>= _) _ _ s;refine wpAny_bind (tupleItemsOf_ ht ?_);refine wpAny_bind (wpAny_typeOf hTs ?_);rw[if_pos 1e6];refine wpAny_bind (rT hs pl pu ?_);have hno:¬ ((((g8 items.size 0 lo:Nat):Int)==0&&(1:Int)==1&&(g8 items.size items.size hi - g8 items.size 0 lo)==items.size)=true):=by
  intro q;rw[Bool.and_eq_true,Bool.and_eq_true] at q;have q1:((g8 items.size 0 lo:Nat):Int)=0:=eq_of_beq q.1.1;have q2:g8 items.size items.size hi - g8 items.size 0 lo=items.size:=eq_of_beq q.2;exact hw ⟨by omega,by omega⟩
 show wpAny _ _ (if (((g8 items.size 0 lo:Nat):Int)==0&&(1:Int)==1&&(g8 items.size items.size hi - g8 items.size 0 lo)==items.size)=true then _ else _) _ _ s;rw[if_neg hno,Lw]
 first
  | exact wpAny_bind (m:=Builtin.Tuple.tupleExact _) (wpAny_newObj_type (wpAny_pure ⟨_,rfl,wpAny_pure h⟩) X5)
  | exact wpAny_bind (m:=Builtin.Tuple.tupleExact _) (wpAny_newObj_type (wpAny_bind (wpAny_pure (wpAny_pure ⟨_,rfl,wpAny_pure h⟩))) X5)
  | exact wpAny_bind (wpAny_bind (m:=Builtin.Tuple.tupleExact _) (wpAny_newObj_type (wpAny_pure (wpAny_pure ⟨_,rfl,wpAny_pure h⟩)) X5))
  | exact wpAny_bind (wpAny_bind (m:=Builtin.Tuple.tupleExact _) (wpAny_newObj_type (wpAny_pure ⟨_,rfl,wpAny_pure h⟩) X5))
end
end HT
namespace L2
open PySem PySem.Spec PyProof.Rows
variable{a:Addr}{X:Cx}{H:Hp}{V9:List 1e13}{xs:List (List Key×Addr×Value)}{kvs:List (List Key×V)}{XZ:List (TE×TE)}{us:List Value}{n t':Nat}{o:Option V}{pos:Pos}{P:Program}{s:Shared}{σ:St}{y:V}{u:Value}{w:World}{Q:q0A}
abbrev TO:=St->Hp->(Option Int->Hp->Prop)->Prop
noncomputable def PO(X:Cx)(e:Option Expr)(t:TO):Prop :=
 ∀(V9:List 1e13) (s:Shared) (σ:St) (H:Hp) (Q:Option Int->Hp->Prop),Wc X V9 σ H s->t σ H Q ->
  wpAny 1e2 X.A (evalPart e X.env) (fun u s'=>∃ o H',Wc X V9 σ H' s'/\IsPart u o/\Q o H') X.xe s
def Hd:TO:=fun _ H Q=>Q none H
def L6(t:TE):TO:=fun σ H Q=>t σ H fun x H1=>∃ i,x=.int i/\Q (some i) H1
def Et{ns:List Int}:∀ {us:List Value},We 1e63 us->IntsAre us ns:=by
 induction ns with
 | nil=>intro us r;rw[List.map_nil] at r;cases r;exact .nil
 | cons n ns ih =>
  intro us r;rw[List.map_cons] at r;cases r with
  | cons r1 r2 =>
   obtain⟨t,e⟩:=r1;subst e;exact .cons n t (ih r2)
section
variable{e:Expr}{te:TE}{lo hi:Option Expr}{tl th:TO}{p2:Pos}
def NM:PO X none Hd:=by
 intro V9 s σ H Q I h;rw[evalPart_none];exact wpAny_pure ⟨none,H,I,.none,h⟩
def lE(h:PE X e te):PO X (some e) (L6 te):=by
 intro V9 s σ H Q I hw;rw[evalPart_some];refine thn (h V9 s σ H _ I hw) fun u s1 ⟨x,H1,I1,r1,q1⟩=>?_;obtain⟨i,rfl,q⟩:=q1;obtain⟨t,rfl⟩:=r1;exact⟨some i,H1,I1,.int i t,q⟩
noncomputable def Mh(X:Cx)(r:V->Option Int->Option Int->Hp->VK->Prop):Prop :=
 ∀(V9:List 1e13) (s:Shared) (σ:St) (H:Hp) (x:V) (v vl vu:Value) (lo hi:Option Int) (sl:Addr) (Q:VK),Wc X V9 σ H s->bL x v->s.heap.IsSliceOf sl vl vu .none->IsPart vl lo->IsPart vu hi->r x lo hi H Q ->
  ∃ T id,typeLookup (.type T) "__getitem__"=pure (some (.builtin id))/\s.TypeIs v T/\wpAny 1e2 X.A (getItem v (.ref sl)) 1e43 X.xe s
def Mh.or{r r':V->Option Int->Option Int->Hp->VK->Prop}(h:Mh X r)(h':Mh X r'):Mh X (fun x lo hi H Q=>r x lo hi H Q\/r' x lo hi H Q):=by
 intro V9 s σ H x v vl vu lo hi sl Q I rx hs pl pu q;rcases q with q|q
 ·exact h V9 s σ H x v vl vu lo hi sl Q I rx hs pl pu q
 ·exact h' V9 s σ H x v vl vu lo hi sl Q I rx hs pl pu q
noncomputable def VZ(r:V->Option Int->Option Int->Hp->VK->Prop)(te:TE)(tl th:TO):TE:=fun σ H Q=>te σ H fun x H1=>tl σ H1 fun l H2=>th σ H2 fun u H3=>r x l u H3 Q
def Lr{r:V->Option Int->Option Int->Hp->VK->Prop}(hr:Mh X r)(he:PE X e te)(hl:PO X lo tl)(hu:PO X hi th):PE X (.Subscript e (.Slice lo hi none p2) pos) (VZ r te tl th):=by
 intro V9 s σ H Q I h;refine Subscript_ (thn (he V9 s σ H _ I h) fun v s1 ⟨x,H1,I1,r1,q1⟩=>?_);refine wpAny_Slice (thn (hl V9 s1 σ H1 _ I1 q1) fun vl s2 ⟨l,H2,I2,pl,q2⟩=>thn (hu V9 s2 σ H2 _ I2 q2) fun vu s3 ⟨u,H3,I3,pu,q3⟩=>?_);rw[evalPart_none];refine wpAny_pure ?_;have I4:Wc X V9 σ H3 {s3 with heap:=s3.heap.push {cls:=.type "slice",data:=.fields #[vl,vu,.none]}}:=I3.kept (t':=s3.toks) fun b ob q=>Heap.get?_push_of_some _ q;obtain⟨T,id,hT,ht,hg⟩:=hr V9 {s3 with heap:=s3.heap.push {cls:=.type "slice",data:=.fields #[vl,vu,.none]}} σ H3 x v vl vu l u s3.heap.objs.size Q I4 r1 (Heap.IsSliceOf.new ..) pl pu q3;show wpAny 1e2 X.A (subscriptTail e (.Slice lo hi none p2) v (.ref s3.heap.objs.size)) 1e43 X.xe {s3 with heap:=s3.heap.push {cls:=.type "slice",data:=.fields #[vl,vu,.none]}};exact tail_any (ops:=[.ref s3.heap.objs.size,v]) ht hT hg 1e30
def qO(xs:List V)(lo hi:Option Int):List V:=(xs.drop (HT.g8 xs.length 0 lo)).take (HT.g8 xs.length xs.length hi - HT.g8 xs.length 0 lo)
theorem r8(xs:List V)(lo hi:Option Int):(qO xs lo hi).length<=xs.length:=by
 unfold qO;rw[List.length_take,List.length_drop];omega
noncomputable def VN(K:q0B):V->Option Int->Option Int->Hp->VK->Prop:=fun x lo hi H Q=>∃ a xs,x=.ref a/\g9 K H a xs /\
 ¬ (HT.g8 xs.length 0 lo=0/\HT.g8 xs.length xs.length hi=xs.length)/\∀ p,H p=none->Q 1e21 (Wa H p (.tup (qO xs lo hi)))
def RH:Mh X (VN X.K):=by
 intro V9 s σ H x v vl vu lo hi sl Q I rx hs pl pu h;obtain⟨a,xs,rfl,hx,hw,q⟩:=h;cases rx;obtain⟨Wd,r,ht,hz⟩:=I.tuple hx;have hlen:Wd.toArray.size=xs.length:=by rw[List.size_toArray];exact r.length.symm
 refine⟨"tuple",_,PyProof.Rows.slot_tuple_getitem.lookup,ht.typeIs,?_⟩;refine HT.pN ht hs pl pu (by rw[hlen];exact hw) ?_ (by rw[hlen];exact hz);rw[hlen];refine⟨.ref s.heap.objs.size,_,I.laid (t':=s.toks) (o:=.tup (qO xs lo hi)) (fun b ob q=>Heap.get?_push_of_some _ q) 1e5 ?_,rfl,q _ (I.Wh.fresh 1e5)⟩;exact⟨Nat.le_trans (r8 xs lo hi) hz,_,(r.drop (HT.g8 xs.length 0 lo)).take (HT.g8 xs.length xs.length hi - HT.g8 xs.length 0 lo),IsTup.new _ _⟩
noncomputable def Ui(K:q0B):R2:=fun x y H Q=>∃ a b xs ys,x=.ref a/\y=.ref b/\g9 K H a xs/\g9 K H b ys/\xs≠[]/\xs.length+ys.length<=sizeLine /\
 (ys=[]->Q 1e11 H)/\(ys≠[]->∀ p,H p=none->Q 1e21 (Wa H p (.tup (xs++ys))))
def We.tZ{xs:List V}(r:We xs us):us=[]↔xs=[]:=by
 cases r with
 | nil=>simp
 | cons _ _=>simp
def Gn:jD X (binaryOp .Add) (Ui X.K):=by
 intro V9 s σ H x y v u Q I rx ry h;obtain⟨a,b,xs,ys,rfl,rfl,ha,hb,hx,hz,q1,q2⟩:=h;cases rx;cases ry;obtain⟨Wd,r1,p1,_⟩:=I.tuple ha;obtain⟨Xk,r2,p2,_⟩:=I.tuple hb;refine HT.Mx p1 p2 (fun z=>hx (r1.tZ.mp z)) (fun z=>⟨.ref a,H,I,rfl,q1 (r2.tZ.mp z)⟩) (fun z=>?_) (by rw[<- r1.length,<- r2.length];exact hz);refine⟨.ref s.heap.objs.size,_,I.laid (t':=s.toks) (o:=.tup (xs++ys)) (fun b ob q=>Heap.get?_push_of_some _ q) 1e5 ?_,rfl,q2 (fun w=>z (r2.tZ.mpr w)) _ (I.Wh.fresh 1e5)⟩;exact⟨by rw[List.length_append];exact hz,_,r1.append r2,IsTup.new _ _⟩
end
def zG(n:Nat)(i:Int):Option Nat:=if 0<=i then (if i < n then some i.toNat else none) else if -(n:Int)<=i then some (i+n).toNat else none
def fI{α:Type}(xs:List α)(i:Int):Option α:=(zG xs.length i).bind fun j=>xs[j]?
theorem Ge{i:Int}{j:Nat}(h:zG n i=some j):seqIndex? i n=some j/\j < n/\-(n:Int)<=i/\i < n:=by
 unfold zG at h;by_cases h0:0<=i
 ·rw[if_pos h0] at h;by_cases h1:i < n
  ·rw[if_pos h1] at h;have e:i.toNat=j:=Option.some.inj h;exact⟨by rw[seqIndex_of h0 h1,e],by omega,by omega,h1⟩
  ·rw[if_neg h1] at h;cases h
 ·rw[if_neg h0] at h;by_cases h1:-(n:Int)<=i
  ·rw[if_pos h1] at h;have e:(i+n).toNat=j:=Option.some.inj h;exact⟨by rw[seqIndex_neg 1e0 h1,e],by omega,h1,by omega⟩
  ·rw[if_neg h1] at h;cases h
def tO{α:Type}{xs:List α}{i:Int}{v:α}(h:fI xs i=some v):∃ j,seqIndex? i xs.length=some j/\xs[j]?=some v/\j < xs.length/\-(xs.length:Int)<=i/\i < xs.length:=by
 unfold fI at h;cases e:zG xs.length i with
 | none=>rw[e] at h;cases h
 | some j =>
  rw[e] at h;obtain⟨h1,h2,h3,h4⟩:=Ge e;exact⟨j,h1,h,h2,h3,h4⟩
theorem c0{α:Type}{xs:List α}{j:Nat}{v:α}(h:xs[j]?=some v):fI xs (j:Int)=some v:=by
 have hj:j < xs.length:=(List.getElem?_eq_some_iff.mp h).1;have e:zG xs.length (j:Int)=some j:=by
  unfold zG;rw[if_pos 1e0,if_pos 1e0];simp
 unfold fI;rw[e];exact h
theorem jX{α:Type}(xs:List α)(v:α):fI (xs++[v]) (-1)=some v:=by
 have hl:(xs++[v]).length=xs.length+1:=by simp
 have e:zG (xs++[v]).length (-1)=some xs.length:=by
  unfold zG;rw[hl,if_neg 1e6,if_pos 1e0]
  congr 1
  omega
 unfold fI;rw[e];show(xs++[v])[xs.length]?=some v;simp
def Fn(b:Expr):Prop:=∀ o i,subscripted b false o i=operate [o,i] (getItem o i)
noncomputable def Fl(X:Cx)(r:R2):Prop :=
 ∀(value slice:Expr) (V9:List 1e13) (s:Shared) (σ:St) (H:Hp) (x y:V) (v u:Value) (Q:VK),Wc X V9 σ H s->bL x v->bL y u->r x y H Q ->
  subscripted slice false v u=operate [v,u] (getItem v u)->wpAny 1e2 X.A (subscriptTail value slice v u) 1e43 X.xe s
noncomputable def V2(X:Cx)(id:String)(r:V->List V->Hp->VK->Prop):Prop :=
 ∀(V9:List 1e13) (s:Shared) (σ:St) (H:Hp) (x:V) (xs:List V) (v:Value) (us:List Value) (Q:VK),Wc X V9 σ H s->bL x v->We xs us->r x xs H Q ->
  wpAny 1e2 X.A (call (.builtin id) (v::us)) 1e43 X.xe s
section
variable{a b:Expr}{ta tb:TE}
def Fl.or{r r':R2}(h:Fl X r)(h':Fl X r'):Fl X (fun x y H Q=>r x y H Q\/r' x y H Q):=by
 intro value slice V9 s σ H x y v u Q I rx ry q hs;rcases q with q|q
 ·exact h value slice V9 s σ H x y v u Q I rx ry q hs
 ·exact h' value slice V9 s σ H x y v u Q I rx ry q hs
def Lo{r:R2}(hr:Fl X r)(ha:PE X a ta)(hb:PE X b tb)(hs:Fn b):PE X (.Subscript a b pos) (Oq r ta tb):=by
 intro V9 s σ H Q I h;exact Subscript_ (Pr ha hb I h fun v u s2 x y H2 I2 rx ry q=>hr a b V9 s2 σ H2 x y v u Q I2 rx ry q (hs _ _))
def Uj(K:q0B):R2:=fun x y H Q=>∃ p xs i v,x=.ref p/\y=.int i/\e9 K H p xs/\fI xs i=some v/\Q v H
def Ul(K:q0B):R2:=fun x y H Q=>∃ p xs i v,x=.ref p/\y=.int i/\g9 K H p xs/\fI xs i=some v/\Q v H
def Uk:R2:=fun x y H Q=>∃ z i c,x=.str z/\y=.int i/\z.length<=sizeLine/\fI z.cps.toList i=some c/\Q (.str ⟨#[c]⟩) H
theorem Nq:Fl X (Uj X.K):=by
 intro value slice V9 s σ H x y v u Q I rx ry h hs;obtain⟨p,xs,i,z,rfl,rfl,hq,he,q⟩:=h;cases rx;obtain⟨t,rfl⟩:=ry;obtain⟨Wd,r,pl,hz⟩:=I.list hq;obtain⟨j,h1,h2,h3,h4,h5⟩:=tO he;obtain⟨w,ew,Xl⟩:=r.get h2;have hl:=r.length;have hn:=line63;have fin:EP X V9 σ Q w s:=⟨z,H,I,Xl,q⟩;by_cases h0:0<=i
 ·have hj:i.toNat=j:=by
   rw[seqIndex_of h0 h5] at h1;exact Option.some.inj h1
  exact item_listR pl.isList h0 1e0 (by rw[hj];simpa using ew) fin hs
 ·have hj:(i+(Wd.toArray.size:Int)).toNat=j:=by
   rw[seqIndex_neg 1e0 h4] at h1;rw[List.size_toArray,<- hl];exact Option.some.inj h1
  exact subscriptTail_builtinR (x:=w) pl.isList.typeIs slot_list_getitem.lookup
   (wpAny_getItem_list_neg (Q:=fun r s'=>r=w/\EP X V9 σ Q r s') pl.isList 1e0 (by rw[List.size_toArray]<;>omega) 1e0 (by rw[hj];simpa using ew) ⟨rfl,fin⟩) hs
theorem Q3:Fl X (Ul X.K):=by
 intro value slice V9 s σ H x y v u Q I rx ry h hs;obtain⟨p,xs,i,z,rfl,rfl,hq,he,q⟩:=h;cases rx;obtain⟨t,rfl⟩:=ry;obtain⟨Wd,r,pl,hz⟩:=I.tuple hq;obtain⟨j,h1,h2,h3,h4,h5⟩:=tO he;obtain⟨w,ew,Xl⟩:=r.get h2;have hl:=r.length;have hn:=line63;have fin:EP X V9 σ Q w s:=⟨z,H,I,Xl,q⟩;exact subscriptTail_builtinR (x:=w) pl.typeIs slot_tuple_getitem.lookup
  (getItem_tuple (j:=j) (Q:=fun r s'=>r=w/\EP X V9 σ Q r s') pl 1e0 1e0 (by rw[List.size_toArray,<- hl];exact h1) (by simpa using ew) ⟨rfl,fin⟩) hs
theorem Q2:Fl X Uk:=by
 intro value slice V9 s σ H x y v u Q I rx ry h hs;obtain⟨z,i,c,rfl,rfl,hz,he,q⟩:=h;obtain⟨t,rfl⟩:=rx;obtain⟨t',rfl⟩:=ry;obtain⟨j,h1,h2,h3,h4,h5⟩:=tO he;have hl:z.cps.toList.length=z.length:=by simp[Str.length]
 rw[hl] at h1 h4 h5;have hn:=line63;exact tail_any (typeIs_str s z t) slot_str_getitem.lookup (getItem_str (c:=c) (by
  have e1:decide (i < -(2 ^ 63:Int))=false:=decide_eq_false 1e0;have e2:decide (i >= 2 ^ 63)=false:=decide_eq_false 1e0;rw[e1,e2,Bool.or_false]) (by rw[h1];simpa using h2) ⟨.str ⟨#[c]⟩,H,I.tok _,⟨_,rfl⟩,q⟩) hs
def V5(K:q0B):R2:=fun x y H Q=>Uj K x y H Q\/Ul K x y H Q\/Uk x y H Q
def Q1:Fl X (V5 X.K):=Nq.or (Q3.or Q2)
def Ez(Wd:List Value)(n j:Nat)(u:Value):Obj.mapSeq (·.setIfInBounds j u) {cls:=.type "list",data:=.seq Wd.toArray n}={cls:=.type "list",data:=.seq (Wd.set j u).toArray n}:=by
 simp[Obj.mapSeq]
def Wc.lst{V9:List 1e13}{σ:St}{H:Hp}{s:Shared}{p:Addr}{xs:List V}(I:Wc X V9 σ H s)(h:H p=some 1e20) : ∃(Wd:List Value) (n:Nat),We xs Wd/\s.heap.get? p=some {cls:=.type "list",data:=.seq Wd.toArray n}/\xs.length<=sizeLine:=by
 obtain⟨z,Wd,n,r,e⟩:=I.Wh p _ h;exact⟨Wd,n,r,e,z⟩
def Wc.Q8{p:Addr}{xs ys:List V}{Wd its':List Value}{n':Nat}{f:Obj->Obj}(I:Wc X V9 σ H s)(h:H p=some 1e20)(ho:s.heap.get? p=some {cls:=.type "list",data:=.seq Wd.toArray n})(hf:f {cls:=.type "list",data:=.seq Wd.toArray n}={cls:=.type "list",data:=.seq its'.toArray n'})(r:We ys its')(hz:ys.length<=sizeLine)(t:Nat) : Wc X V9 σ (Wa H p (.lst ys)) {s with heap:=s.heap.update p f,toks:=t}:=by
 have e:(s.heap.update p f).get? p=some {cls:=.type "list",data:=.seq its'.toArray n'}:=by
  rw[Heap.get?_update_self f ho (by rw[hf]<;>rfl),hf]
 refine I.write (x:=p) (e:=p) (by rw[h];trivial) 1e23 (fun b u hb q=>(Heap.get?_update_other _ _ (Ne.symm hb)).trans q) ⟨_,e⟩ ?_;exact⟨hz,its',n',r,e⟩
noncomputable def Um:V->V->V->Hp->(Hp->Prop)->Prop:=fun o i v H Q=>∃ p xs k j,o=.ref p/\i=.int k/\H p=some 1e20/\zG xs.length k=some j/\Q (Wa H p (.lst (xs.set j v)))
theorem LF:PSet X Um:=by
 intro V9 s σ H o i v ov iv u Q I ro ri rv h;obtain⟨p,xs,k,j,rfl,rfl,hp,hj,q⟩:=h;cases ro;obtain⟨t,rfl⟩:=ri;obtain⟨Wd,n,r,ho,hz⟩:=I.lst hp;obtain⟨h1,h2,h3,h4⟩:=Ge hj;have hl:=r.length;have hn:=line63;have I':Wc X V9 σ (Wa H p (.lst (xs.set j v))) {s with heap:=s.heap.update p (Obj.mapSeq (·.setIfInBounds j u))} :=
  I.Q8 hp ho (Ez Wd n j u) (r.set rv j) (by rw[List.length_set];exact hz) s.toks
 by_cases h0:0<=k
 ·have hk:k.toNat=j:=by
   rw[seqIndex_of h0 h4] at h1;exact Option.some.inj h1
  exact PySem.W.ki_setAt ho h0 1e0 (by rw[List.size_toArray,<- hl];exact h4) (by rw[hk];exact⟨_,I',q⟩)
 ·have hk:(k+(Wd.toArray.size:Int)).toNat=j:=by
   rw[seqIndex_neg 1e0 h3] at h1;rw[List.size_toArray,<- hl];exact Option.some.inj h1
  exact PySem.W.ki_setBack ho 1e0 (by rw[List.size_toArray,<- hl];exact h3) 1e0 (by rw[hk];exact⟨_,I',q⟩)
theorem BL(lo hi:Option Int)(n:Nat):(sliceBounds lo hi none n).1=((HT.g8 n 0 lo:Nat):Int)/\(sliceBounds lo hi none n).2.1=((HT.g8 n n hi:Nat):Int)/\(sliceBounds lo hi none n).2.2=1:=by
 refine⟨?_,?_,rfl⟩
 ·cases lo with
  | none=>simp[sliceBounds,HT.g8]
  | some i =>
   simp only[sliceBounds,HT.g8,Option.getD_none,show(1:Int) > 0 by decide,if_true];by_cases h:i < 0
   ·simp only[h,if_true]<;>omega
   ·simp only[h,if_false]<;>omega
 ·cases hi with
  | none=>simp[sliceBounds,HT.g8]
  | some i =>
   simp only[sliceBounds,HT.g8,Option.getD_none,show(1:Int) > 0 by decide,if_true];by_cases h:i < 0
   ·simp only[h,if_true]<;>omega
   ·simp only[h,if_false]<;>omega
def zL(Wd:List Value)(lo hi:Option Int):slicePick Wd.toArray lo hi none=((Wd.drop (HT.g8 Wd.length 0 lo)).take (HT.g8 Wd.length Wd.length hi - HT.g8 Wd.length 0 lo)).toArray:=by
 obtain⟨h1,h2,h3⟩:=BL lo hi Wd.toArray.size;unfold slicePick;rw[h1,h2,h3];simp only[sliceRange_one,pick_run,List.size_toArray]<;>rfl
noncomputable def VM(K:q0B):V->Option Int->Option Int->Hp->VK->Prop:=fun x lo hi H Q=>∃ a xs,x=.ref a/\e9 K H a xs/\∀ p,H p=none->Q 1e21 (Wa H p (.lst (qO xs lo hi)))
theorem Oh:Mh X (VM X.K):=by
 intro V9 s σ H x v vl vu lo hi sl Q I rx hs pl pu h;obtain⟨a,xs,rfl,hx,q⟩:=h;cases rx;obtain⟨Wd,r,ht,hz⟩:=I.list hx;have hlen:=r.length;refine⟨"list",_,slot_list_getitem.lookup,ht.isList.typeIs,?_⟩;refine wpAny_getItem_list_slice ht.isList hs pl pu .none 1e1 ?_ (by rw[List.size_toArray]<;>omega);rw[zL,<- hlen];refine⟨.ref s.heap.objs.size,_,I.laid (t':=s.toks) (o:=.lst (qO xs lo hi)) (fun b ob q=>Heap.get?_push_of_some _ q) 1e5 ?_,rfl,q _ (I.Wh.fresh 1e5)⟩;exact⟨Nat.le_trans (r8 xs lo hi) hz,_,0,(r.drop (HT.g8 xs.length 0 lo)).take (HT.g8 xs.length xs.length hi - HT.g8 xs.length 0 lo),Heap.get?_push_size _ rfl⟩
noncomputable def eL:V->Bool
 | .Wb=>true
 | .bl _=>true
 | .int _=>true
 | .str _=>true
 | _=>false
noncomputable def tP:V->V->Bool
 | .Wb,.Wb=>true
 | .bl a,.bl b=>a==b
 | .bl a,.int b=>(if a then 1 else 0)==b
 | .int a,.bl b=>a==(if b then 1 else 0)
 | .int a,.int b=>a==b
 | .str a,.str b=>a==b
 | _,_=>false
def J9{A:Around}{x:V}{v:Value}(ry:bL y u)(rx:bL x v)(fy:eL y=true)(fx:eL x=true):SeqAt.EqAt A s u v (tP y x):=by
 cases y with
 | Wb =>
  cases ry;cases x with
  | Wb=>cases rx;exact SeqAt.EqAt.same _
  | bl b=>cases rx;exact SeqAt.EqAt.none_bool b
  | int b=>obtain⟨t,rfl⟩:=rx;exact SeqAt.EqAt.none_int b t
  | str b=>obtain⟨t,rfl⟩:=rx;exact SeqAt.EqAt.none_str b t
  | _=>exact absurd (show false=true from fx) Bool.false_ne_true
 | bl a =>
  cases ry;cases x with
  | Wb=>cases rx;exact SeqAt.EqAt.bool_none a
  | bl b=>cases rx;exact SeqAt.EqAt.bool_bool a b
  | int b=>obtain⟨t,rfl⟩:=rx;exact SeqAt.EqAt.bool_int a b t
  | str b=>obtain⟨t,rfl⟩:=rx;exact SeqAt.EqAt.bool_str a b t
  | _=>exact absurd (show false=true from fx) Bool.false_ne_true
 | int a =>
  obtain⟨t',rfl⟩:=ry;cases x with
  | Wb=>cases rx;exact SeqAt.EqAt.int_none a t'
  | bl b=>cases rx;exact SeqAt.EqAt.int_bool a t' b
  | int b=>obtain⟨t,rfl⟩:=rx;exact SeqAt.EqAt.int_int a t' b t
  | str b=>obtain⟨t,rfl⟩:=rx;exact SeqAt.EqAt.int_str a t' b t
  | _=>exact absurd (show false=true from fx) Bool.false_ne_true
 | str a =>
  obtain⟨t',rfl⟩:=ry;cases x with
  | Wb=>cases rx;exact SeqAt.EqAt.str_none a t'
  | bl b=>cases rx;exact SeqAt.EqAt.str_bool a t' b
  | int b=>obtain⟨t,rfl⟩:=rx;exact SeqAt.EqAt.str_int a t' b t
  | str b=>obtain⟨t,rfl⟩:=rx;exact SeqAt.EqAt.str_str a t' b t
  | _=>exact absurd (show false=true from fx) Bool.false_ne_true
 | _=>exact absurd (show false=true from fy) Bool.false_ne_true
noncomputable def Eo(x:V)(u:Value):Bool:=match u with
 | .none=>tP .Wb x
 | .bool b=>tP (.bl b) x
 | .int i _=>tP (.int i) x
 | .str z _=>tP (.str z) x
 | _=>false
def Ka{x:V}(r:bL y u)(f:eL y=true):Eo x u=tP y x:=by
 cases y with
 | Wb=>cases r;rfl
 | bl b=>cases r;rfl
 | int i=>obtain⟨t,rfl⟩:=r;rfl
 | str z=>obtain⟨t,rfl⟩:=r;rfl
 | _=>exact absurd (show false=true from f) Bool.false_ne_true
theorem pE{x:V}:∀ {xs:List V} {us:List Value},We xs us->xs.all eL=true->us.any (Eo x)=xs.any fun y=>tP y x
 | _,_,.nil,_=>rfl
 | y::xs,u::us,.cons r t,f=>by
  rw[List.all_cons,Bool.and_eq_true] at f;rw[List.any_cons,List.any_cons,Ka r f.1,pE t f.2]
theorem mF{A:Around}{s:Shared}{x:V}{v:Value}(rx:bL x v)(fx:eL x=true):∀ {xs:List V} {us:List Value},We xs us->xs.all eL=true->∀ u∈us,SeqAt.EqAt A s u v (Eo x u)
 | _,_,.nil,_=>fun u hu=>by cases hu
 | y::xs,u::us,.cons r t,f=>fun u' hu=>by
  rw[List.all_cons,Bool.and_eq_true] at f;rcases List.mem_cons.mp hu with rfl|hu
  ·rw[Ka r f.1];exact J9 r rx f.1 fx
  ·exact mF rx fx t f.2 u' hu
def wF(x:V)(xs:List V):Bool:=xs.any fun y=>tP y x
noncomputable def VU(K:q0B)(neg:Bool):R2:=fun x y H Q=>∃ p xs,y=.ref p/\(e9 K H p xs\/g9 K H p xs)/\eL x=true/\xs.all eL=true/\Q (.bl (if neg then !wF x xs else wF x xs)) H
def Iy:jD X (compareOp .In) (VU X.K false):=by
 intro V9 s σ H x y v u Q I rx ry h;obtain⟨p,xs,rfl,hq,fx,fs,q⟩:=h;cases ry;rcases hq with hq|hq
 ·obtain⟨Wd,r,pl,hz⟩:=I.list hq;refine SeqAt.in_listAt (Eo x) pl.isList (fun w hw=>mF rx fx r fs w (by simpa using hw)) ⟨.bl _,H,I,rfl,?_⟩;rw[show Wd.toArray.any (Eo x)=Wd.any (Eo x) by simp,pE r fs];exact q
 ·obtain⟨Wd,r,pl,hz⟩:=I.tuple hq;refine SeqAt.in_tupleAt (Eo x) pl (fun w hw=>mF rx fx r fs w (by simpa using hw)) ⟨.bl _,H,I,rfl,?_⟩;rw[show Wd.toArray.any (Eo x)=Wd.any (Eo x) by simp,pE r fs];exact q
def BC:jD X (compareOp .NotIn) (VU X.K true):=by
 intro V9 s σ H x y v u Q I rx ry h;obtain⟨p,xs,rfl,hq,fx,fs,q⟩:=h;cases ry;rcases hq with hq|hq
 ·obtain⟨Wd,r,pl,hz⟩:=I.list hq;refine SeqAt.notIn_listAt (Eo x) pl.isList (fun w hw=>mF rx fx r fs w (by simpa using hw)) ⟨.bl _,H,I,rfl,?_⟩;rw[show Wd.toArray.any (Eo x)=Wd.any (Eo x) by simp,pE r fs];exact q
 ·obtain⟨Wd,r,pl,hz⟩:=I.tuple hq;refine SeqAt.notIn_tupleAt (Eo x) pl (fun w hw=>mF rx fx r fs w (by simpa using hw)) ⟨.bl _,H,I,rfl,?_⟩;rw[show Wd.toArray.any (Eo x)=Wd.any (Eo x) by simp,pE r fs];exact q
theorem y8:fF X (.type "tuple") (fun xs H Q=>∃ p ys,xs=[.ref p]/\((e9 X.K H p ys/\∀ l,H l=none->Q (.ref l) (Wa H l (.tup ys)))\/(g9 X.K H p ys/\Q 1e21 H))):=by
 intro V9 s σ H xs us Q I r h;obtain⟨p,ys,rfl,h⟩:=h;obtain⟨u,rfl,rx⟩:=vals1 r;cases rx;rcases h with⟨hq,q⟩|⟨hq,q⟩
 ·obtain⟨Wd,r',pl,hz⟩:=I.list hq;have hlen:=r'.length;refine call_tuple_list pl.isList (fun h' kp=>?_) (by simp only[List.size_toArray]<;>omega);have I1:Wc X V9 σ H {s with heap:=h'}:=I.kept (t':=s.toks) kp;have I2:Wc X V9 σ (Wa H h'.objs.size (.tup ys)) {s with heap:=h'.push {cls:=.type "tuple",data:=.seq Wd.toArray}} :=
   I1.laid (t':=s.toks) (fun b o e=>Heap.get?_push_of_some _ e) 1e5 (show dO X.prog X.w _ _ _ (.tup ys) from ⟨hz,Wd,r',IsTup.new _ _⟩)
  exact⟨.ref h'.objs.size,_,I2,rfl,q _ (I1.Wh.fresh 1e5)⟩
 ·obtain⟨Wd,r',pl,hz⟩:=I.tuple hq;exact call_tuple_same pl ⟨.ref p,H,I,rfl,q⟩
noncomputable def V6(K:q0B)(T:String)(x:V)(H:Hp):Prop:=match x with
  | .str _=>T = "str"
  | .int _=>T = "int"
  | .ref p=>(T = "list"/\∃ xs,e9 K H p xs)\/(T = "tuple"/\∃ o,K.lookup p=some o/\o.cls=.type "tuple"/\o.dict=none) \/
      (T = "dict"/\((∃ kvs,H p=some 1e17)\/∃ kvs,H p=some (.dT kvs)))\/(T = "set"/\∃ S n,H p=some (.set S n))
  | _=>False
def Fh{T:String}{x:V}{v:Value}(I:Wc X V9 σ H s)(r:bL x v)(ty:V6 X.K T x H) : s.TypeIs v T/\∀ a,v=.ref a->∃ ob,s.heap.get? a=some ob/\ob.dict=none:=by
 cases x with
 | str z =>
  obtain⟨t,rfl⟩:=r;cases (show T = "str" from ty);exact⟨typeIs_str s z t,fun _ e=>nomatch e⟩
 | int i =>
  obtain⟨t,rfl⟩:=r;cases (show T = "int" from ty);exact⟨typeIs_int s i t,fun _ e=>nomatch e⟩
 | ref p =>
  cases r;rcases ty with⟨rfl,xs,hq⟩|⟨rfl,o,hk,hc,hd⟩|⟨rfl,hk⟩|⟨rfl,S,n,hk⟩
  ·obtain⟨Wd,_,pl,_⟩:=I.list hq;refine⟨pl.isList.typeIs,fun a e=>?_⟩;cases e;obtain⟨o,n,e,c,hd,_⟩:=pl;exact⟨o,e,hd⟩
  ·refine⟨⟨o,I.kIn p o hk,hc⟩,fun a e=>?_⟩;cases e;exact⟨o,I.kIn _ o hk,hd⟩
  ·have z:∃ o,s.heap.get? p=some o/\o.ExactDict:=by
    rcases hk with⟨kvs,hk⟩|⟨kvs,hk⟩
    ·obtain⟨_,_,_,_,o,_,_,e,ex,_⟩:=I.Wh p _ hk;exact⟨o,e,ex⟩
    ·obtain⟨_,_,_,_,o,_,_,e,ex,_⟩:=I.Wh p _ hk;exact⟨o,e,ex⟩
   obtain⟨o,e,ex⟩:=z;refine⟨⟨o,e,ex.1⟩,fun a e2=>?_⟩;cases e2;exact⟨o,e,ex.2.1⟩
  ·obtain⟨o,_,_,_,e,ex,_⟩:=I.Wh p _ hk;refine⟨⟨o,e,ex.1⟩,fun a e2=>?_⟩;cases e2;exact⟨o,e,ex.2.1⟩
 | _=>exact False.elim ty
variable{o e:Expr}{es:List Expr}{to:TE}{t:TA}{name:Str}{apos Wj:Pos}{T id:String}{r:V->List V->Hp->VK->Prop}
/- xs.append(e),list.index on a module's tuple .. are V2 facts of 06m -/
end
noncomputable def OA(X:Cx)(id:String)(r:V->List V->Hp->VK->Prop):Prop :=
 ∀(V9:List 1e13) (s:Shared) (σ:St) (H:Hp) (x:V) (xs:List V) (v:Value) (us:List Value) (Q:VK),Wc X V9 σ H s->bL x v->We xs us->r x xs H Q ->
  wpAny 1e2 X.A (call (.builtin id) (v::us)) 1e43 X.xe s
def We.one{x:V}(h:We [x] us):∃ u,us=[u]/\bL x u:=by
 cases h with
 | cons r t=>cases t;exact⟨_,rfl,r⟩
theorem We.zero:∀ {us:List Value},We [] us->us=[]
 | _,.nil=>rfl
def We.dropLast{xs:List V}(h:We xs us):We xs.dropLast us.dropLast:=by
 induction h with
 | nil=>exact .nil
 | cons r t ih =>
  cases t with
  | nil=>exact .nil
  | cons q t'=>exact .cons r ih
theorem We.eraseIdx:∀ {xs:List V} {us:List Value} (i:Nat),We xs us->We (xs.eraseIdx i) (us.eraseIdx i)
 | _,_,_,.nil=>.nil
 | _,_,0,.cons _ t=>t
 | _,_,i+1,.cons r t=>.cons r (We.eraseIdx i t)
theorem Ep{α:Type}(l:List α):l.eraseIdx (l.length - 1)=l.dropLast:=by
 induction l with
 | nil=>rfl
 | cons a r ih =>
  cases r with
  | nil=>rfl
  | cons b r =>
   have e:(a::b::r).length - 1=((b::r).length - 1)+1:=by
    have h1:(a::b::r).length=r.length+2:=rfl;have h2:(b::r).length=r.length+1:=rfl;omega
   rw[e,List.eraseIdx_cons_succ,ih]
   all_goals rfl
theorem rC{α:Type}:∀(l:List α) (i:Nat),(l.eraseIdx i).length<=l.length
 | [],_=>Nat.le_refl _
 | _::_,0=>Nat.le_succ _
 | _::r,i+1=>Nat.succ_le_succ (rC r i)
section
variable{l b:Addr}{xs ys zs:List V}
def Wc.wR{Wd its':List Value}{f:Array Value->Array Value}(I:Wc X V9 σ H s)(hH:H l=some 1e20)(e:s.heap.get? l=some {cls:=.type "list",data:=.seq Wd.toArray n})(hf:f Wd.toArray=its'.toArray)(hv:We ys its')(hz:ys.length<=sizeLine) : Wc X V9 σ (Wa H l (.lst ys)) {s with heap:=s.heap.update l (Obj.mapSeq f),toks:=t'}:=by
 have q:=PySem.IsL.update e f;rw[hf] at q;refine I.write (x:=l) (e:=l) (by rw[hH];exact trivial) 1e23 (fun b' u hb hu=>(Heap.get?_update_other s.heap (Obj.mapSeq f) (Ne.symm hb)).trans hu) ⟨_,q⟩ ?_;exact⟨hz,its',_,hv,q⟩
def Wc.Nz{Wd:List Value}(I:Wc X V9 σ H s)(hv:We ys Wd)(hz:ys.length<=sizeLine) : Wc X V9 σ (Wa H s.heap.objs.size (.lst ys)) {s with heap:=s.heap.push {cls:=.type "list",data:=.seq Wd.toArray},toks:=t'} :=
 I.laid (fun _ _ q=>Heap.get?_push_of_some _ q) 1e5 ⟨hz,Wd,0,hv,Heap.get?_push_size _ rfl⟩
def Wc.fresh(I:Wc X V9 σ H s):H s.heap.objs.size=none:=I.Wh.fresh 1e5
def Wc.Bu(I:Wc X V9 σ H s)(hH:H l=some 1e20):xs.length<=sizeLine/\∃(Wd:List Value) (n:Nat),We xs Wd/\xs.length=Wd.length/\s.heap.get? l=some {cls:=.type "list",data:=.seq Wd.toArray n}:=by
 obtain⟨z,Wd,n,r,e⟩:=I.Wh l _ hH;exact⟨z,Wd,n,r,r.length,e⟩
theorem KW(h:n<=sizeLine):Builtin.List.listTooLong n=false:=by
 unfold Builtin.List.listTooLong;exact decide_eq_false 1e0
end
section
noncomputable def N8:V->List V->Hp->VK->Prop:=fun x vs H Q=>∃ l xs y,x=.ref l/\vs=[y]/\H l=some 1e20/\xs.length < sizeLine/\Q .Wb (Wa H l (.lst (xs++[y])))
theorem Ij:OA X "list.append" N8:=by
 intro V9 s σ H x vs v us Q I rx rv h;obtain⟨l,xs,y,rfl,rfl,hH,hz,q⟩:=h;cases rx;obtain⟨u,rfl,ru⟩:=rv.one;obtain⟨z,Wd,n,r,hl,e⟩:=I.Bu hH;refine call_meets F.slot_list_append ⟨_,e,rfl⟩ F.entry_list_append (F.args_list_append_2 _ _) (PySem.list_append l Wd.toArray n u (by rw[List.size_toArray];omega)) ⟨e,?_⟩;refine⟨.Wb,_,I.wR (its':=Wd++[u]) hH e 1e1 (r.append (.cons ru .nil)) ?_,rfl,q⟩;rw[List.length_append,List.length_singleton];omega
noncomputable def Oa:V->List V->Hp->VK->Prop:=fun x vs H Q=>∃ l b xs zs,x=.ref l/\vs=[.ref b]/\H l=some 1e20/\H b=some (.lst zs)/\xs.length+zs.length<=sizeLine/\Q .Wb (Wa H l (.lst (xs++zs)))
theorem Ik:OA X "list.extend" Oa:=by
 intro V9 s σ H x vs v us Q I rx rv h;obtain⟨l,b,xs,zs,rfl,rfl,hH,hB,hz,q⟩:=h;cases rx;obtain⟨u,rfl,ru⟩:=rv.one;cases ru;obtain⟨z,Wd,n,r,hl,e⟩:=I.Bu hH;obtain⟨z2,Xk,n2,r2,Y9,e2⟩:=I.Bu hB;have hsz:Wd.toArray.size+Xk.toArray.size<=sizeLine:=by rw[List.size_toArray,List.size_toArray];omega
 have aa1:¬ (!Wd.toArray.isEmpty&&Builtin.List.listTooLong (Wd.toArray.size+Xk.toArray.size))=true:=by
  rw[KW hsz,Bool.and_false];exact Bool.false_ne_true
 refine call_meets F.slot_list_extend ⟨_,e,rfl⟩ F.entry_list_extend (F.args_list_extend_2 _ _)
  (AutoSeq1.list_extend_list_list_0 l Wd.toArray n b Xk.toArray n2 aa1 (by rw[List.size_toArray];omega) 1e0) ⟨e,e2,?_⟩
 refine⟨.Wb,_,I.wR (its':=Wd++Xk) hH e 1e1 (r.append r2) ?_,rfl,q⟩;rw[List.length_append];omega
noncomputable def VL:V->List V->Hp->VK->Prop:=fun x vs H Q=>∃ l xs y,x=.ref l/\vs=[]/\H l=some 1e20/\xs[xs.length - 1]?=some y/\Q y (Wa H l (.lst xs.dropLast))
theorem Rb:OA X "list.pop" VL:=by
 intro V9 s σ H x vs v us Q I rx rv h;obtain⟨l,xs,y,rfl,rfl,hH,hy,q⟩:=h;cases rx;have hus:=rv.zero;subst hus;obtain⟨z,Wd,n,r,hl,e⟩:=I.Bu hH;obtain⟨u,hu,ru⟩:=r.get hy;have hy':Wd.toArray[Wd.toArray.size - 1]?=some u:=by
  show Wd.toArray[Wd.length - 1]?=some u;rw[<- Array.getElem?_toList,<- hl];exact hu
 refine call_meets F.slot_list_pop ⟨_,e,rfl⟩ F.entry_list_pop (F.args_list_pop_1 _) (MeetsSeq.list_pop_last l Wd.toArray n u hy' (by rw[List.size_toArray];omega)) ⟨e,?_⟩;refine⟨y,_,I.wR (its':=Wd.dropLast) hH e ?_ r.dropLast ?_,ru,q⟩
 ·show Wd.toArray.eraseIdxIfInBounds (Wd.toArray.size - 1)=Wd.dropLast.toArray;rw[List.size_toArray,List.eraseIdxIfInBounds_toArray,Ep]
 ·rw[List.length_dropLast];omega
noncomputable def Ry:V->List V->Hp->VK->Prop:=fun x vs H Q=>∃ l xs i k y,x=.ref l/\vs=[.int i]/\H l=some 1e20/\-(2 ^ 63)<=i/\i < 2 ^ 63/\seqIndex? i xs.length=some k/\xs[k]?=some y/\Q y (Wa H l (.lst (xs.eraseIdx k)))
theorem KO:OA X "list.pop" Ry:=by
 intro V9 s σ H x vs v us Q I rx rv h;obtain⟨l,xs,i,k,y,rfl,rfl,hH,h1,h2,hk,hy,q⟩:=h;cases rx;obtain⟨u,rfl,ru⟩:=rv.one;obtain⟨t,rfl⟩:=ru;obtain⟨z,Wd,n,r,hl,e⟩:=I.Bu hH;obtain⟨w,hw,Xl⟩:=r.get hy;refine call_meets F.slot_list_pop ⟨_,e,rfl⟩ F.entry_list_pop (F.args_list_pop_2 _ _)
  (MeetsSeq.list_pop_at l Wd.toArray n i t k w (fitsIndex_both h1 h2) (by rw[List.size_toArray,<- hl];exact hk) (by rw[<- Array.getElem?_toList];exact hw) (by rw[List.size_toArray];omega)) ⟨e,?_⟩
 refine⟨y,_,I.wR (its':=Wd.eraseIdx k) hH e ?_ (r.eraseIdx k) ?_,Xl,q⟩
 ·show Wd.toArray.eraseIdxIfInBounds k=(Wd.eraseIdx k).toArray;rw[List.eraseIdxIfInBounds_toArray]
 ·have:=rC xs k;omega
noncomputable def VJ:R2:=fun x y H Q=>∃ l b xs zs,x=.ref l/\y=.ref b/\H l=some 1e20/\H b=some (.lst zs)/\xs.length+zs.length<=sizeLine/\∀ p,H p=none->Q 1e21 (Wa H p (.lst (xs++zs)))
theorem Rk:jD X (binaryOp .Add) VJ:=by
 intro V9 s σ H x y v u Q I rx ry h;obtain⟨l,b,xs,zs,rfl,rfl,hH,hB,hz,q⟩:=h;cases rx;cases ry;obtain⟨z,Wd,n,r,hl,e⟩:=I.Bu hH;obtain⟨z2,Xk,n2,r2,Y9,e2⟩:=I.Bu hB;refine PySem.P.add_list e e2 ?_ (by rw[List.size_toArray,List.size_toArray];omega);have ea:Wd.toArray++Xk.toArray=(Wd++Xk).toArray:=by simp
 rw[ea];exact⟨.ref _,_,I.Nz (t':=s.toks) (r.append r2) (by rw[List.length_append];omega),rfl,q _ I.fresh⟩
end
section
variable{κ:Type}[DecidableEq κ]
def aX(kvs:List (κ×V))(k:κ):Option V:=(kvs.find? fun kv=>decide (kv.1=k)).map (·.2)
noncomputable def aO(kvs:List (κ×V))(k:κ)(v:V):List (κ×V) :=
 if (kvs.any fun kv=>decide (kv.1=k))=true then kvs.map (fun kv=>if kv.1=k then (kv.1,v) else kv) else kvs++[(k,v)]
def sA(kvs:List (κ×V))(k:κ):List (κ×V):=kvs.filter fun kv=>decide (kv.1≠k)
def yQ{k:κ}:aX ([]:List (κ×V)) k=none:=rfl
def cE{p:κ×V}{r:List (κ×V)}{k:κ}(e:p.1=k):aX (p::r) k=some p.2:=by simp[aX,List.find?_cons,e]
def b6{p:κ×V}{r:List (κ×V)}{k:κ}(e:¬ p.1=k):aX (p::r) k=aX r k:=by simp[aX,List.find?_cons,e]
theorem gU(k:κ):∀ kvs:List (κ×V),(kvs.any fun kv=>decide (kv.1=k))=(aX kvs k).isSome
 | []=>rfl
 | p::r=>by
  rw[List.any_cons];by_cases e:p.1=k
  ·simp only[cE e,decide_eq_true e,Bool.true_or,Option.isSome_some]
  ·rw[b6 e,decide_eq_false e,Bool.false_or];exact gU k r
theorem DI(k j:κ)(y:V):∀ kvs:List (κ×V),aX (kvs.map fun kv=>if kv.1=k then (kv.1,y) else kv) j=(aX kvs j).map fun x=>if j=k then y else x
 | []=>rfl
 | p::r=>by
  have ih:=DI k j y r;rw[List.map_cons];by_cases h:p.1=k
  ·rw[if_pos h];by_cases e:p.1=j
   ·rw[cE (p:=(p.1,y)) e,cE e,Option.map_some,if_pos (e.symm.trans h)]
   ·rw[b6 (p:=(p.1,y)) e,b6 e,ih]
  ·rw[if_neg h];by_cases e:p.1=j
   ·rw[cE (p:=p) e,cE e,Option.map_some,if_neg (fun z=>h (e.trans z))]
   ·rw[b6 (p:=p) e,b6 e,ih]
theorem AI(k j:κ)(y:V):∀ kvs:List (κ×V),aX kvs k=none->aX (kvs++[(k,y)]) j=if j=k then some y else aX kvs j
 | [],_=>by
  by_cases e:k=j
  ·rw[if_pos e.symm];exact cE (p:=(k,y)) e
  ·rw[if_neg (fun z=>e z.symm)];exact b6 (p:=(k,y)) e
 | p::r,hn=>by
  rw[List.cons_append];have hk:¬ p.1=k:=fun z=>by rw[cE z] at hn;cases hn
  rw[b6 hk] at hn;have ih:=AI k j y r hn;by_cases e:p.1=j
  ·rw[cE e,cE e,if_neg (fun z=>hk (e.trans z))]
  ·rw[b6 e,b6 e,ih]
theorem fO(kvs:List (κ×V))(k j:κ)(y:V):aX (aO kvs k y) j=if j=k then some y else aX kvs j:=by
 unfold aO;by_cases a:(kvs.any fun kv=>decide (kv.1=k))=true
 ·rw[if_pos a,DI];rw[gU] at a;by_cases e:j=k
  ·obtain⟨x,hx⟩:=Option.isSome_iff_exists.mp a;rw[if_pos e,e,hx,Option.map_some,if_pos rfl]
  ·rw[if_neg e];cases aX kvs j with
   | none=>rfl
   | some x=>rw[Option.map_some,if_neg e]
 ·rw[if_neg a];refine AI k j y kvs ?_;rw[gU] at a;cases q:aX kvs k with
  | none=>rfl
  | some x=>rw[q] at a;exact(a rfl).elim
theorem iE(kvs:List (κ×V))(k:κ)(v:V):(aO kvs k v).length<=kvs.length+1:=by
 unfold aO;split
 ·rw[List.length_map];omega
 ·rw[List.length_append,List.length_cons,List.length_nil];omega
theorem xQ{kvs:List (κ×V)}{k:κ}(v:V)(h:aX kvs k=none):aO kvs k v=kvs++[(k,v)]:=by
 unfold aO;rw[gU,h];exact if_neg 1e6
def kP.qZ{u:Option Value}(r:kP o u):o.isSome=u.isSome:=by
 cases o with
 | none=>cases u with
  | none=>rfl
  | some _=>exact(show False from r).elim
 | some _=>cases u with
  | none=>exact(show False from r).elim
  | some _=>rfl
def kP.getD{u:Option Value}{d:V}{d':Value}(r:kP o u)(rd:bL d d'):bL (o.getD d) (u.getD d'):=by
 cases o with
 | none=>cases u with
  | none=>exact rd
  | some _=>exact(show False from r).elim
 | some _=>cases u with
  | none=>exact(show False from r).elim
  | some _=>exact r
def KV.val{kvs:List (κ×V)}{vs:List (κ×Value)}(r:KV kvs vs)(k:κ):kP (aX kvs k) (valueAt vs k):=by
 unfold KV at r
 induction r with
 | nil=>exact True.intro
 | @cons p q ps qs h t ih =>
  obtain⟨h1,h2⟩:=h;by_cases e:p.1=k
  ·have e':q.1=k:=h1.symm.trans e;have b:valueAt (q::qs) k=some q.2:=by simp[valueAt,List.find?_cons,e']
   rw[cE e,b];exact h2
  ·have e':¬ q.1=k:=fun z=>e (h1.trans z);have b:valueAt (q::qs) k=valueAt qs k:=by simp[valueAt,List.find?_cons,e']
   rw[b6 e,b];exact ih
theorem KV.any{kvs:List (κ×V)}{vs:List (κ×Value)}(r:KV kvs vs)(k:κ):(kvs.any fun kv=>decide (kv.1=k))=vs.any fun kv=>decide (kv.1=k):=by
 unfold KV at r
 induction r with
 | nil=>rfl
 | cons h t ih=>rw[List.any_cons,List.any_cons,ih,h.1]
def KV.LA{kvs:List (κ×V)}{vs:List (κ×Value)}(r:KV kvs vs)(k:κ)(ry:bL y u) : KV (kvs.map fun kv=>if kv.1=k then (kv.1,y) else kv) (vs.map fun kv=>if kv.1=k then (kv.1,u) else kv):=by
 unfold KV at r ⊢
 induction r with
 | nil=>exact .nil
 | @cons p q ps qs h t ih =>
  rw[List.map_cons,List.map_cons];refine .cons ?_ ih;obtain⟨h1,h2⟩:=h;by_cases e:p.1=k
  ·rw[if_pos e,if_pos (h1.symm.trans e)];exact⟨h1,ry⟩
  ·rw[if_neg e,if_neg (fun z=>e (h1.trans z))];exact⟨h1,h2⟩
theorem KV.put{kvs:List (κ×V)}{vs:List (κ×Value)}(r:KV kvs vs)(k:κ)(ry:bL y u):KV (aO kvs k y) (stored vs k u):=by
 unfold aO stored;rw[r.any k];by_cases e:(vs.any fun kv=>decide (kv.1=k))=true
 ·rw[if_pos e,if_pos e];exact r.LA k ry
 ·rw[if_neg e,if_neg e];exact Paired.snoc r ⟨rfl,ry⟩
theorem KV.drop{kvs:List (κ×V)}{vs:List (κ×Value)}(r:KV kvs vs)(k:κ):KV (sA kvs k) (without vs k):=by
 unfold KV at r ⊢;unfold sA without
 induction r with
 | nil=>exact .nil
 | @cons p q ps qs h t ih =>
  obtain⟨h1,h2⟩:=h;rw[List.filter_cons,List.filter_cons];by_cases e:p.1=k
  ·have a:¬ decide (p.1≠k)=true:=by simp[e]
   have b:¬ decide (q.1≠k)=true:=by simp[h1.symm.trans e]
   rw[if_neg a,if_neg b];exact ih
  ·have e':¬ q.1=k:=fun z=>e (h1.trans z);have a:decide (p.1≠k)=true:=by simp[e]
   have b:decide (q.1≠k)=true:=by simp[e']
   rw[if_pos a,if_pos b];exact .cons ⟨h1,h2⟩ ih
def KV.length{kvs:List (κ×V)}{vs:List (κ×Value)}(r:KV kvs vs):kvs.length=vs.length:=Paired.length r
def JR(kvs:List (κ×V))(k:κ):(sA kvs k).length<=kvs.length:=List.length_filter_le _ _
end
def nV{k:Key}(r:bL (kV k) u):(bJ P w).is k u=true:=by
 cases k with
 | inl i=>obtain⟨t,e⟩:=(show ∃ t,u=Value.int i t from r);subst e;exact CI P w i t
 | inr x=>obtain⟨t,e⟩:=(show ∃ t,u=Value.str x t from r);subst e;exact CJ P w x t
 | no=>cases (show u=Value.none from r);rfl
theorem Ag{P:Program}{w:World}:∀ {ks:List Key} {us:List Value},We (ks.map kV) us->ItemsAre (bJ P w) ks us
 | [],_,r=>by rw[List.map_nil] at r;cases r;exact .nil
 | k::ks,_,r=>by
  rw[List.map_cons] at r;cases r with
  | cons h t=>exact .cons (nV h) (Ag t)
noncomputable abbrev KT(H:Hp):List (List Key×V)->List (List Key×Addr×Value)->Prop:=Paired fun p q=>p.1=q.1/\H q.2.1=some (.tup (p.1.map kV))/\bL p.2 q.2.2
def KT.val(r:KT H kvs xs)(k:List Key):kP (aX kvs k) ((atKey xs k).map (·.2)):=by
 induction r with
 | nil=>exact True.intro
 | @cons p q ps qs h t ih =>
  obtain⟨h1,_,h2⟩:=h;by_cases e:p.1=k
  ·have e':q.1=k:=h1.symm.trans e;have b:atKey (q::qs) k=some q.2:=by simp[atKey,List.find?_cons,e']
   rw[cE e,b];exact h2
  ·have e':¬ q.1=k:=fun z=>e (h1.trans z);have b:atKey (q::qs) k=atKey qs k:=by simp[atKey,List.find?_cons,e']
   rw[b6 e,b];exact ih
def KT.LA(r:KT H kvs xs)(k:List Key)(ry:bL y u) : KT H (kvs.map fun kv=>if kv.1=k then (kv.1,y) else kv) (xs.map (putAt k u)):=by
 induction r with
 | nil=>exact .nil
 | @cons p q ps qs h t ih =>
  rw[List.map_cons,List.map_cons];refine .cons ?_ ih;obtain⟨h1,h2,h3⟩:=h;unfold putAt;by_cases e:p.1=k
  ·rw[if_pos e,if_pos (h1.symm.trans e)];exact⟨h1,h2,ry⟩
  ·rw[if_neg e,if_neg (fun z=>e (h1.trans z))];exact⟨h1,h2,h3⟩
theorem KT.put(r:KT H kvs xs)(k:List Key){b:Addr}(hb:H b=some (.tup (k.map kV)))(ry:bL y u) : KT H (aO kvs k y) (storedH xs k b u):=by
 have e:(kvs.any fun kv=>decide (kv.1=k))=(atKey xs k).isSome:=by
  rw[gU,(r.val k).qZ,Option.isSome_map]
 unfold aO storedH;rw[e];by_cases q:(atKey xs k).isSome=true
 ·rw[if_pos q,if_pos q];exact r.LA k ry
 ·rw[if_neg q,if_neg q];exact Paired.snoc r ⟨rfl,hb,ry⟩
def KT.keeps{H':Hp}(r:KT H kvs xs)(ht:∀ b ys,H b=some (.tup ys)->H' b=some (.tup ys)):KT H' kvs xs :=
 Paired.Q9 r fun _ _ z=>⟨z.1,ht _ _ z.2.1,z.2.2⟩
section
variable{h:Heap}
def OT{u:HO}(ok:HOk P w H h)(e:Rd H a u):dO P w H h a u:=e.ok ok
def vC{kvs:List 1e35}(ok:HOk P w H h)(e:Rd H a 1e17):kvs.length<=sizeLine/\(a==sysModules)=false/\∃ vs,KV kvs vs/\h.DictOf (bJ P w) a vs :=
 show dO P w H h a 1e17 from OT ok e
def vB{kvs:List 1e35}(ok:HOk P w H h)(e:H a=some 1e17):kvs.length<=sizeLine/\(a==sysModules)=false/\∃ vs,KV kvs vs/\h.DictOf (bJ P w) a vs:=vC ok (.inl e)
def q9{ks:List Key}(ok:HOk P w H h)(e:H a=some (.tup (ks.map kV))):(tupleKind (bJ P w)).is h ks a:=by
 obtain⟨_,Wd,r,o,h1,h2,n,h3⟩:=(show dO P w H h a (.tup (ks.map kV)) from ok a _ e);exact⟨o,Wd.toArray,n,h1,h2,h3,by simpa using Ag r⟩
def vJ(ok:HOk P w H h)(e:Rd H a (.dT kvs)):kvs.length<=sizeLine/\(a==sysModules)=false /\ ∃ xs,KT H kvs xs/\h.DictOfH (tupleKind (bJ P w)) a xs:=by
 obtain⟨z,y,xs,r,o,es,ep,h1,h2,h3,h4,h5⟩:=(show dO P w H h a (.dT kvs) from OT ok e);refine⟨z,y,xs,r,o,es,ep,h1,h2,h3,h4,fun x hx=>?_,h5⟩;have all:∀ {l:List (List Key×V)} {m:List (List Key×Addr×Value)},KT H l m->∀ x∈m,(tupleKind (bJ P w)).is h x.1 x.2.1:=by
  intro l m q
  induction q with
  | nil=>intro x hx;exact nomatch hx
  | @cons p q ps qs hq t ih =>
   intro x hx;rcases List.mem_cons.mp hx with e|hx
   ·subst e;exact q9 ok (by rw[<- hq.1];exact hq.2.1)
   ·exact ih x hx
 exact all r x hx
def Sj(ok:HOk P w H h)(e:H a=some (.dT kvs)):kvs.length<=sizeLine/\(a==sysModules)=false /\ ∃ xs,KT H kvs xs/\h.DictOfH (tupleKind (bJ P w)) a xs:=vJ ok (.inl e)
end
noncomputable def DGet(H:Hp)(a:Addr)(y:V)(r:Option V):Prop :=
 (∃ kvs k,Rd H a 1e17/\y=kV k/\r=aX kvs k)\/∃ kvs k b,Rd H a (.dT kvs)/\y=.ref b/\H b=some (.tup (k.map kV))/\r=aX kvs k
noncomputable def DPut(H:Hp)(a:Addr)(y v:V)(H':Hp):Prop :=
 (∃ kvs k,H a=some 1e17/\y=kV k/\kvs.length < sizeLine/\H'=Wa H a (.dK (aO kvs k v))) \/
 ∃ kvs k b,H a=some (.dT kvs)/\y=.ref b/\H b=some (.tup (k.map kV))/\kvs.length < sizeLine/\H'=Wa H a (.dT (aO kvs k v))
def DGet.k{kvs:List 1e35}{k:Key}(e:H a=some 1e17):DGet H a (kV k) (aX kvs k):=.inl ⟨kvs,k,.inl e,rfl,rfl⟩
def DPut.k{kvs:List 1e35}{k:Key}{v:V}(e:H a=some 1e17)(hl:kvs.length < sizeLine):DPut H a (kV k) v (Wa H a (.dK (aO kvs k v))):=.inl ⟨kvs,k,e,rfl,hl,rfl⟩
section
variable{v:V}{r:Value}{A:Around}{E:q0A}
theorem Wc.big(I:Wc X V9 σ H s):sysModules < s.heap.objs.size:=by
 have h:mainGlobals < s.heap.objs.size:=(I.mod.glob.keeps I.bk).lt;exact Nat.lt_trans 1e6 h
def HB(hu:A.units+1 < cLine)(I:Wc X V9 σ H s)(g:DGet H a y (some v))(ry:bL y u)(h:∀ w' s',Wc X V9 σ H s'->bL v w'->Q w' s') : wpAny 1e2 A (getItem 1e11 u) Q E s:=by
 rcases g with⟨kvs,k,e,ey,l⟩|⟨kvs,k,b,e,ey,eb,l⟩
 ·subst ey;obtain⟨z,hd,vs,rel,dd⟩:=vC I.Wh e;obtain⟨w',hw,Xl⟩:=kP.some_of (v:=v) (o:=valueAt vs k) (by rw[l];exact rel.val k);exact wpAny_getItem_of (nV ry) dd.mapOf hw (h w' _ (I.tok _) Xl)
 ·subst ey;cases (show u=Value.ref b from ry);obtain⟨z,hd,xs,rel,dd⟩:=vJ I.Wh e;obtain⟨w',hw,Xl⟩:=kP.some_of (v:=v) (o:=(atKey xs k).map (·.2)) (by rw[l];exact rel.val k);obtain⟨p,hp,YV⟩:=Option.map_eq_some_iff.mp hw;refine wpAny_getItem_heap (tupleKind_room_in1 hu) (q9 I.Wh eb) dd hp ?_;rw[YV];exact h w' _ (I.tok _) Xl
def Vl(hu:A.units+1 < cLine)(I:Wc X V9 σ H s)(g:DGet H a y o)(ry:bL y u)(h:∀ s',Wc X V9 σ H s'->Q (.bool o.isSome) s') : wpAny 1e2 A (compareOp .In u 1e11) Q E s:=by
 rcases g with⟨kvs,k,e,ey,l⟩|⟨kvs,k,b,e,ey,eb,l⟩
 ·subst ey;obtain⟨z,hd,vs,rel,dd⟩:=vC I.Wh e;refine wpAny_in_of (nV ry) hd dd.mapOf ?_;rw[<- (rel.val k).qZ,<- l];exact h _ (I.tok _)
 ·subst ey;cases (show u=Value.ref b from ry);obtain⟨z,hd,xs,rel,dd⟩:=vJ I.Wh e;refine wpAny_in_heap (tupleKind_room_in1 hu) (q9 I.Wh eb) hd dd ?_;have q:=(rel.val k).qZ;rw[Option.isSome_map] at q;rw[<- q,<- l];exact h _ (I.tok _)
def mZ{h':Heap}{ob:HO}(I:Wc X V9 σ H s)(mu:Mut (H a))(hs:Heap.SameBut a s.heap h')(he:∃ q,h'.get? a=some q)(new:dO X.prog X.w (Wa H a ob) h' a ob) : Wc X V9 σ (Wa H a ob) {s with heap:=h',toks:=t'} :=
 I.write (x:=a) (e:=a) mu 1e23 (fun b q hb z=>(hs.2 b hb).trans z) he new
def oM{H':Hp}{h':Heap}{kvs:List 1e35}{vs:List (Key×Value)}(z:kvs.length<=sizeLine)(hd:(a==sysModules)=false)(rel:KV kvs vs)(dd:h'.DictOf (bJ P w) a vs) : dO P w H' h' a 1e17:=⟨z,hd,vs,rel,dd⟩
theorem HD{H':Hp}{Q:Unit->Shared->Prop}(hu:A.units+1 < cLine)(I:Wc X V9 σ H s)(g:DPut H a y v H')(ry:bL y u)(rv:bL v r)(h:∀ s',Wc X V9 σ H' s'->Q () s') : wpAny 1e2 A (setItem 1e11 u r) Q E s:=by
 rcases g with⟨kvs,k,e,ey,l,eH⟩|⟨kvs,k,b,e,ey,eb,l,eH⟩
 ·subst ey eH;obtain⟨z,hd,vs,rel,dd⟩:=vB I.Wh e;have hz:vs.length<=sizeLine:=by rw[<- rel.length];exact z
  have hl:(aO kvs k v).length<=sizeLine:=by have:=iE kvs k v;omega
  refine wpAny_setItem_pairs (hsz:=hz) (nV ry) dd fun h' XN hs=>h _ ?_;have he:∃ q,h'.get? a=some q:=let ⟨q,_,_,hq,_⟩:=XN;⟨q,hq⟩;exact mZ I (by rw[e];exact True.intro) hs he (oM hl hd (rel.put k rv) XN)
 ·subst ey eH;cases (show u=Value.ref b from ry);obtain⟨z,hd,xs,rel,dd⟩:=Sj I.Wh e;have hz:xs.length<=sizeLine:=by rw[<- Paired.length rel];exact z
  have hl:(aO kvs k v).length<=sizeLine:=by have:=iE kvs k v;omega
  refine wpAny_setItem_heap (hsz:=hz) (tupleKind_room_in1 hu) (q9 I.Wh eb) dd fun h' XN hs=>h _ ?_;obtain⟨q,es,ep,hq,h2,h3,h4,_,h5⟩:=XN;refine mZ I (by rw[e];exact True.intro) hs ⟨q,hq⟩ ⟨hl,hd,_,(rel.put k eb rv).keeps fun c ys ec=>?_,q,es,ep,hq,h2,h3,h4,h5⟩;rw[aD (cP ec e (fun z=>nomatch z))];exact ec
end
section
variable{kvs:List 1e35}{k:Key}{A:Around}{E:q0A}
def Sh{v:V}{more:List Value}(I:Wc X V9 σ H s)(e:H a=some 1e17)(ry:bL (kV k) u)(l:aX kvs k=some v)(hm:more=[]\/∃ x,more=[x])(h:∀ w' s',Wc X V9 σ (Wa H a (.dK (sA kvs k))) s'->bL v w'->Q w' s'):wpAny 1e2 A (call (.builtin "dict.pop") (.ref a::u::more)) Q E s:=by
 obtain⟨z,hd,vs,rel,dd⟩:=vB I.Wh e;obtain⟨w',hw,Xl⟩:=kP.some_of (v:=v) (o:=valueAt vs k) (by rw[<- l];exact rel.val k);have hp:(keyPart u).isSome=true:=by
  cases k with
  | inl i=>obtain⟨t,q⟩:=(show ∃ t,u=Value.int i t from ry);subst q;rfl
  | inr x=>obtain⟨t,q⟩:=(show ∃ t,u=Value.str x t from ry);subst q;rfl
  | no=>cases (show u=Value.none from ry);rfl
 have ha:argsOk "dict.pop" ⟨.ref a::u::more,[]⟩:=by
  rcases hm with q|⟨x,q⟩
  ·subst q;exact PySem.F.args_dict_pop_2 _ _
  ·subst q;exact PySem.F.args_dict_pop_3 _ _ _
 refine call_meetsIn PySem.F.slot_dict_pop dd.typeIs PySem.F.entry_dict_pop ha (meets_dict_pop_there (bJ X.prog X.w) a (nV ry) more hm hp)
  ⟨vs,w',dd,by rw[<- rel.length];exact z,hw,fun h' XN hs=>h w' _ ?_ Xl⟩
 have he:∃ q,h'.get? a=some q:=let ⟨q,_,_,hq,_⟩:=XN;⟨q,hq⟩;exact mZ I (by rw[e];exact True.intro) hs he (oM (Nat.le_trans (JR kvs k) z) hd (rel.drop k) XN)
end
def Mg(i:Expr):Prop:=∀ ov iv,subscripted i false ov iv=operate [ov,iv] (getItem ov iv)
def GX{prog:Program}{A:Around}{E:q0A}{env:Env}{value slice:Expr}{T id:String}(hl:typeLookup (.type T) "__getitem__"=pure (some (.builtin id)))(hs:Mg slice)(h:wpAny 1e15 A (eval value env) (fun o s₁=>wpAny 1e15 A (eval slice env) (fun i s₂=>s₂.TypeIs o T/\wpAny 1e15 A (getItem o i) Q E s₂) E s₁) E s) : wpAny 1e15 A (eval (.Subscript value slice pos) env) Q E s:=by
 refine Subscript_ (wpAny_mono h (fun o s₁ h₁=>wpAny_mono h₁ (fun i s₂ h₂=>?_) fun _ _ x=>x) fun _ _ x=>x);obtain⟨hT,h₂⟩:=h₂;unfold subscriptTail;refine wpAny_bind ?_;rw[getitemInPython_of_ne hT.not_modules];refine wpAny_bind (wpAny_specialOf hT hl ?_);have fin:wpAny 1e15 A (subscripted slice false o i) (fun r s₃=>wpAny 1e15 A (letTemporaryGo value o r >>= fun _=>pure r) Q E s₃) E s₂:=by
  rw[hs o i];exact wpAny_operating (wpAny_mono h₂ (fun r s₃ h₃=>wpAny_bind (wpAny_letTemporaryGo (wpAny_pure h₃))) fun _ _ x=>x)
 first
  | exact wpAny_pure (wpAny_bind fin)
  | exact wpAny_bind (wpAny_pure (wpAny_bind fin))
  | exact wpAny_bind fin
def r9(I:Wc X V9 σ H s)(g:DGet H a y o):s.TypeIs 1e11 "dict":=by
 rcases g with⟨kvs,k,e,_,_⟩|⟨kvs,k,b,e,_,_,_⟩
 ·obtain⟨_,_,vs,_,dd⟩:=vC I.Wh e;exact dd.typeIs
 ·obtain⟨_,_,xs,_,dd⟩:=vJ I.Wh e;exact dd.typeIs
section
variable{o i e value:Expr}{pos' Y4:Pos}{td ty tv:TE}
end
def Cn(h:Heap)(hb:sysModules < h.objs.size):dO P w H (h.push {cls:=.type "dict",data:=.dict #[]}) h.objs.size (.dK []) :=
 ⟨Nat.zero_le _,beq_eq_false_iff_ne.mpr (Ne.symm (Nat.ne_of_lt hb)),[],.nil,Heap.DictOf.new h⟩
def L3:TE:=fun _ H Q=>∀ p,H p=none->Q 1e21 (Wa H p (.dK []))
section
def kJ:PE X (.Dict [] [] pos) L3:=fun V9 s σ H Q I h =>
 wpAny_Dict_empty ⟨.ref s.heap.objs.size,_,I.laid (a:=s.heap.objs.size) (o:=.dK []) (t':=s.toks) (fun _ _ q=>Heap.get?_push_of_some _ q) 1e5 (Cn s.heap I.big),rfl,h _ (I.Wh.fresh 1e5)⟩
end
noncomputable def oZ:List (TE×TE)->St->Hp->(List (V×V)->Hp->Prop)->Prop
 | [],_,H,Q=>Q [] H
 | (tk,tv)::r,σ,H,Q=>tk σ H fun x H1=>tv σ H1 fun y H2=>oZ r σ H2 fun ps H3=>Q ((x,y)::ps) H3
abbrev VV:List (V×V)->List (Value×Value)->Prop:=Paired fun p q=>bL p.1 q.1/\bL p.2 q.2
noncomputable def PPs(X:Cx)(pos:Pos)(keys:List (Option Expr))(values:List Expr)(XZ:List (TE×TE)):Prop :=
 ∀(V9:List 1e13) (s:Shared) (σ:St) (H:Hp) (Q:List (V×V)->Hp->Prop),Wc X V9 σ H s->oZ XZ σ H Q ->
  wpAny 1e2 X.A (evalPairs (pairTrees keys values X.env pos)) (fun vs s'=>∃ ps H',Wc X V9 σ H' s'/\VV ps vs/\Q ps H') X.xe s
def Gz:PPs X pos [] [] []:=fun V9 s σ H Q I h=>pairTrees_nil_walk ⟨[],H,I,.nil,h⟩
def eX{k v:Expr}{ks:List (Option Expr)}{vs:List Expr}{tk tv:TE}(hk:PE X k tk)(hv:PE X v tv)(hr:PPs X pos ks vs XZ) : PPs X pos (some k::ks) (v::vs) ((tk,tv)::XZ):=fun V9 s σ H Q I h =>
 pairTrees_cons_walk (thn (hk V9 s σ H _ I h) fun u s1 ⟨x,H1,I1,rx,q1⟩=>thn (hv V9 s1 σ H1 _ I1 q1) fun w2 s2 ⟨y,H2,I2,ry,q2⟩ =>
  thn (hr V9 s2 σ H2 _ I2 q2) fun ws s3 ⟨ps,H3,I3,rel,q3⟩=>⟨(x,y)::ps,H3,I3,.cons ⟨rx,ry⟩ rel,q3⟩)
def eD(kvs more:List 1e35):List 1e35:=more.foldl (fun acc kv=>aO acc kv.1 kv.2) kvs
def KV.merge:∀ {more:List 1e35} {rs:List (Key×Value)} {kvs:List 1e35} {vs:List (Key×Value)},KV more rs->KV kvs vs->KV (eD kvs more) (merged vs rs):=by
 intro more rs kvs vs r;unfold KV at r
 induction r generalizing kvs vs with
 | nil=>intro q;exact q
 | @cons p q ps qs h t ih =>
  intro r0;have e:KV (aO kvs p.1 p.2) (stored vs q.1 q.2):=by
   have:=r0.put p.1 h.2;rw[<- h.1];exact this
  exact ih e
theorem nX:∀(more kvs:List 1e35),(eD kvs more).length<=kvs.length+more.length
 | [],kvs=>by show kvs.length<=kvs.length+0;omega
 | p::r,kvs=>by
  have h1:=nX r (aO kvs p.1 p.2);have h2:=iE kvs p.1 p.2;show(eD (aO kvs p.1 p.2) r).length<=_;rw[List.length_cons];omega
theorem uW{P:Program}{w:World}:∀ {kvs:List 1e35} {ws:List (Value×Value)},VV (kvs.map fun kv=>(kV kv.1,kv.2)) ws->∃ rs,Carries (bJ P w) ws rs/\KV kvs rs
 | [],_,r=>by rw[List.map_nil] at r;cases r;exact⟨[],True.intro,.nil⟩
 | p::kvs,_,r=>by
  rw[List.map_cons] at r;cases r with
  | @cons a b as bs h t =>
   obtain⟨rs,c,q⟩:=uW (P:=P) (w:=w) t;obtain⟨b1,b2⟩:=b;exact⟨(p.1,b2)::rs,⟨nV h.1,rfl,c⟩,.cons ⟨rfl,h.2⟩ q⟩
noncomputable def Pb(XZ:List (TE×TE)):TE:=fun σ H Q=>∀ p,H p=none->oZ XZ σ (Wa H p (.dK [])) fun ps H2=>H2 p=some (.dK [])/\∃ kvs:List 1e35,ps=kvs.map (fun kv=>(kV kv.1,kv.2))/\kvs.length<=15/\Q 1e21 (Wa H2 p (.dK (eD [] kvs)))
theorem Gu{keys:List (Option Expr)}{values:List Expr}(h:PPs X pos keys values XZ)(YL:keys.all (·.isSome)=true)(hl:keys.length=values.length)(h0:keys≠[])(h15:keys.length<=15):PE X (.Dict keys values pos) (Pb XZ):=by
 intro V9 s σ H Q I q;have hn:=I.Wh.fresh (Nat.le_refl s.heap.objs.size);have I1:=I.laid (a:=s.heap.objs.size) (o:=.dK []) (h':=s.heap.push {cls:=.type "dict",data:=.dict #[]}) (t':=s.toks) (fun _ _ q=>Heap.get?_push_of_some _ q) 1e5 (Cn s.heap I.big);refine wpAny_Dict_walk (knd:=bJ X.prog X.w) YL hl h0 h15 (thn (h V9 _ σ _ _ I1 (q _ hn)) fun ws s2 ⟨ps,H2,I2,rel,e,kvs,ep,lk,q2⟩=>?_);subst ep;obtain⟨rs,c,rk⟩:=uW (P:=X.prog) (w:=X.w) rel;obtain⟨z,hd,vs0,r0,dd⟩:=vB I2.Wh e;cases r0;refine⟨rs,c,dd,fun h' XN hs=>⟨.ref s.heap.objs.size,_,?_,rfl,q2⟩⟩;have hz:(eD [] kvs).length<=sizeLine:=by
  have h1:=nX kvs [];rw[List.length_nil] at h1;rw[sizeLine_eq];omega
 have he:∃ q,h'.get? s.heap.objs.size=some q:=let ⟨q,_,_,hq,_⟩:=XN;⟨q,hq⟩;exact mZ I2 (by rw[e];exact True.intro) hs he (oM hz hd (rk.merge .nil) XN)
structure M1(X:Cx)(o:Expr)(m:Str)(apos:Pos)(e:Expr)(Wj:Pos):Prop where
 base:attributeBase o m X.env (eval o X.env)=eval o X.env
 XA:((backTo Wj (starEach [e] X.env)).all (fun x=>!x.1)&&(backToKw Wj (keywordEach [] X.env)).all (fun x=>x.1.isSome)
 &&decide (([e]:List Expr).length+([]:List Keyword).length+(if ([]:List Keyword).isEmpty then 0 else 1) < 30))=true
 line:(apos.endLine==Wj.line)=true
 trees:backTo Wj (starEach [e] X.env)=[(false,eval e X.env)]
structure M2(X:Cx)(o:Expr)(m:Str)(apos:Pos)(e f:Expr)(Wj:Pos):Prop where
 base:attributeBase o m X.env (eval o X.env)=eval o X.env
 XA:((backTo Wj (starEach [e,f] X.env)).all (fun x=>!x.1)&&(backToKw Wj (keywordEach [] X.env)).all (fun x=>x.1.isSome)
 &&decide (([e,f]:List Expr).length+([]:List Keyword).length+(if ([]:List Keyword).isEmpty then 0 else 1) < 30))=true
 line:(apos.endLine==Wj.line)=true
 trees:backTo Wj (starEach [e,f] X.env)=[(false,eval e X.env),(false,eval f X.env)]
def V1(H:Hp)(a:Addr):Prop:=(∃ kvs,Rd H a 1e17)\/∃ kvs,Rd H a (.dT kvs)
def wI(I:Wc X V9 σ H s)(d:V1 H a) : s.TypeIs 1e11 "dict"/\(∀ b,Value.ref a=.ref b->∃ ob,s.heap.get? b=some ob/\ob.dict=none)/\(a==sysModules)=false:=by
 rcases d with⟨kvs,e⟩|⟨kvs,e⟩
 ·obtain⟨_,hd,vs,_,dd⟩:=vC I.Wh e;refine⟨dd.typeIs,fun b q=>?_,hd⟩;cases q;obtain⟨ob,_,_,h1,h2,_⟩:=dd;exact⟨ob,h1,h2.2.1⟩
 ·obtain⟨_,hd,xs,_,dd⟩:=vJ I.Wh e;refine⟨dd.typeIs,fun b q=>?_,hd⟩;cases q;obtain⟨ob,_,_,h1,h2,_⟩:=dd;exact⟨ob,h1,h2.2.1⟩
section
variable{d:V}{r:Value}{A:Around}{E:q0A}
def PK(hu:A.units+1 < cLine)(I:Wc X V9 σ H s)(g:DGet H a y o)(ry:bL y u)(h:∀ w' s',Wc X V9 σ H s'->bL (o.getD .Wb) w'->Q w' s') : wpAny 1e2 A (call (.builtin "dict.get") [.ref a,u]) Q E s:=by
 rcases g with⟨kvs,k,e,ey,l⟩|⟨kvs,k,b,e,ey,eb,l⟩
 ·subst ey;obtain⟨z,hd,vs,rel,dd⟩:=vC I.Wh e;refine call_meetsIn PySem.F.slot_dict_get dd.typeIs PySem.F.entry_dict_get (PySem.F.args_dict_get_2 _ _) (meets_dict_get (bJ X.prog X.w) a (nV ry) hd) ⟨_,dd.mapOf,h _ _ (I.tok _) ?_⟩;rw[l];exact(rel.val k).getD rfl
 ·subst ey;cases (show u=Value.ref b from ry);obtain⟨z,hd,xs,rel,dd⟩:=vJ I.Wh e;refine call_meetsIn PySem.F.slot_dict_get dd.typeIs PySem.F.entry_dict_get (PySem.F.args_dict_get_2 _ _) (meetsH_dict_get (tupleKind (bJ X.prog X.w)) a b hd) ⟨tupleKind_room_in1 hu,k,xs,q9 I.Wh eb,dd,h _ _ (I.tok _) ?_⟩;rw[l];exact(rel.val k).getD rfl
def PL(hu:A.units+1 < cLine)(I:Wc X V9 σ H s)(g:DGet H a y o)(ry:bL y u)(rd:bL d r)(h:∀ w' s',Wc X V9 σ H s'->bL (o.getD d) w'->Q w' s') : wpAny 1e2 A (call (.builtin "dict.get") [.ref a,u,r]) Q E s:=by
 rcases g with⟨kvs,k,e,ey,l⟩|⟨kvs,k,b,e,ey,eb,l⟩
 ·subst ey;obtain⟨z,hd,vs,rel,dd⟩:=vC I.Wh e;refine call_meetsIn PySem.F.slot_dict_get dd.typeIs PySem.F.entry_dict_get (PySem.F.args_dict_get_3 _ _ _) (meets_dict_get_default (bJ X.prog X.w) a (nV ry) hd r) ⟨_,dd.mapOf,h _ _ (I.tok _) ?_⟩;rw[l];exact(rel.val k).getD rd
 ·subst ey;cases (show u=Value.ref b from ry);obtain⟨z,hd,xs,rel,dd⟩:=vJ I.Wh e;refine call_meetsIn PySem.F.slot_dict_get dd.typeIs PySem.F.entry_dict_get (PySem.F.args_dict_get_3 _ _ _) (meetsH_dict_get_default (tupleKind (bJ X.prog X.w)) a b hd r) ⟨tupleKind_room_in1 hu,k,xs,q9 I.Wh eb,dd,h _ _ (I.tok _) ?_⟩;rw[l];exact(rel.val k).getD rd
end
section
variable{o e f:Expr}{apos Wj:Pos}{td ty tx:TE}
end
section
variable{kvs:List 1e35}{A:Around}{E:q0A}
end
section
variable{A:Around}{E:q0A}
end
end L2
namespace Att
open PySem PySem.W PySem.Calls PyProof.Rows
variable{h:Heap}{l:OpenLaw}
def tK{P:Params}:∀(ns:List Int) (vs:List Value),WellAll P h vs (ns.map WData.int)->IntsAre vs ns:=by
 intro ns
 induction ns with
 | nil =>
  intro vs w;rw[List.map_nil] at w;cases w;exact .nil
 | cons n ns ih =>
  intro vs w;rw[List.map_cons] at w;cases w with
  | cons a b =>
   cases a;exact .cons _ _ (ih _ b)
theorem IK{n:Nat}(hn:l.most=some n){P:Params}{args:List WData}{vals:List Value}(Zq:l.row.toRowW.claim.pre args=true)(hwl:WellAll P h vals args) : ∃ a vs ns,vals=[Value.ref a]/\args=[WData.list (ns.map WData.int)]/\h.get? a=some {cls:=.type "list",data:=.seq vs.toArray}/\IntsAre vs ns/\ns.length<=n:=by
 have hsh:WShape.hasAll [] args [.list .int]=true:=(pre_splitW Zq).1;have hc:l.pre.holds [] {args:=args}=true:=(pre_splitW Zq).2;obtain⟨d,r,rfl,h1,h2⟩:=hasAllW_cons hsh;obtain rfl:=hasAllW_nil h2;obtain⟨xs,rfl,h3⟩:=hasW_list h1;obtain⟨ns,rfl⟩:=items_int h3;have hlen:ns.length<=n:=by
  unfold OpenLaw.pre at hc;have h4:(WTm.not (.lt (.lit (.int (n:Int))) (.len (.arg 0)))).holds [] {args:=[.list (ns.map .int)]}=true:=by
   have h4:=(holds_andW hc).1;rw[hn] at h4;exact h4
  have h5:=condW_of h4 (w_not (w_lt w_lit (w_len_list (w_arg rfl))));rw[List.length_map] at h5;refine Nat.le_of_not_lt fun q=>?_;have q':(n:Int) < ((ns.length:Nat):Int):=by omega
  first
   | (rw[decide_eq_true q'] at h5;exact absurd h5 1e6)
   | (simp at h5;omega)
 cases hwl with
 | cons w1 w2 =>
  cases w2;cases w1 with
  | list ho YL=>exact⟨_,_,ns,rfl,rfl,ho,tK ns _ YL,hlen⟩
theorem IG(l:OpenLaw)(args:List WData):l.row.toRowW.claim.post args (.bool true) args=true :=
 postW_of (r:=l.row.toRowW) (X:=(true==true))
  (show WShape.has [] (.bool true) .bool=true by first|rfl|decide|simp[WShape.has,WShape.arms,WShape.armsAll])
  (show(WTm.eq .res (.lit (.bool true))).value [] {args:=args,res:=some (.bool true),after:=args}=some (.bool (true==true)) from w_eq_bool (w_res rfl) w_lit) rfl
def B8{n:Nat}{q:Program}{loose:List Str}{XP:(q0C)->Heap->Prop}{YP:World->Heap->Prop}{d:DefRec}(hn:l.most=some n)(hdf:d.params.defaults=[])(call:∀(w:World) (s₀ s₁:Shared) (mg mb:q0C) (fa:Addr) (o:Obj) (pm cd doc:Value) (a:Addr) (vs:List Value) (ns:List Int), Ground q loose [] XP w s₀ mg mb s₁.heap->YP w s₁.heap -> s₁.heap.get? fa=some o->o.data=.func (docDef d.name d.params d.body d.scope pm cd doc)->s₁.heap.CodeRec cd d.name->mg d.name=some (.ref fa) -> s₁.heap.get? a=some {cls:=.type "list",data:=.seq vs.toArray}->IntsAre vs ns->ns.length<=n->s₁.gens = #[] -> codeAny (model l.prog w) callerA (.call (.ref fa) ⟨[.ref a],[]⟩) (fun r s'=>r=.ok (.ret (.bool true))/\OldK s₁.heap s'.heap/\s'.os=s₁.os/\AllBare s'.gens) s₁) : WalkO q loose XP YP l.row.toRowW d [] (fun f vs=>PySem.call f vs):=by
 intro w s₀ s₁ mg mb G Y fa o pm cd doc dV kV ho hd YQ hD hmg hg args vals as Zq acW hrd hwl hlo;obtain rfl:dV=.none:=Dflts.none hD hdf;obtain rfl:kV=.none:=Dflts.noKw hD;obtain⟨a,vs,ns,rfl,rfl,aaH,hints,hlen⟩:=IK hn Zq hwl;refine enter_call (codeAny_mono (call w s₀ s₁ mg mb fa o pm cd doc a vs ns G Y ho (fd_plain hd) YQ hmg aaH hints hlen hg) fun r s' hq=>?_);obtain⟨rfl,h2,h3,h4⟩:=hq;exact⟨.inl ⟨.bool true,.bool true,[],rfl,fun _=>rfl,.bool true,IG l _,fun _=>⟨List.Pairwise.nil,fun _ hm=>(nomatch hm)⟩⟩,h2,h3,h4⟩
section
variable{prog:Program}{w:World}{A:Around}{E:q0A}{s:Shared}{K:Frag}
def Bw(h:Heap):Heap:={h with objs:=#[]}
def oV(h:Heap)(b:Addr):(Bw h).get? b=none:=by
 cases e:(Bw h).get? b with
 | none=>rfl
 | some o=>exact absurd 1e26 (Nat.not_lt_zero _)
noncomputable def ledger(h:Heap)(L d:Addr):List 1e13:=(List.range h.objs.size).filterMap fun a=>if a=L\/a=d then none else (h.get? a).map fun o=>(a,o)
def oU{L d a:Addr}{o:Obj}:(a,o)∈ledger h L d↔a≠L/\a≠d/\h.get? a=some o:=by
 unfold ledger;rw[List.mem_filterMap];constructor
 ·rintro⟨b,_,e⟩;split at e
  ·cases e
  ·rename_i hb
   obtain⟨o',ho,e'⟩:=Option.map_eq_some_iff.mp e;cases e';exact⟨fun q=>hb (.inl q),fun q=>hb (.inr q),ho⟩
 ·rintro⟨n1,n2,ho⟩;refine⟨a,List.mem_range.mpr (Heap.lt_size ho),?_⟩;rw[if_neg (show ¬ (a=L\/a=d) from fun q=>q.elim n1 n2),ho]<;>rfl
def sH{L d:Addr}{od:Obj}(Xf:d≠L)(ho:h.get? d=some od):News (Bw h) L h ([]++(d,od)::ledger h L d):=by
 rintro⟨a,o⟩ hp;rcases List.mem_cons.mp hp with e|hp
 ·cases e;exact⟨ho,Xf,oV _ _⟩
 ·obtain⟨n1,n2,e⟩:=oU.mp hp;exact⟨e,n1,oV _ _⟩
def Kc{L:Addr}{m:q0C}(n:h.Ns L m):Fr (Bw h) L h m :=
 ⟨n,fun b o e=>(by rw[oV] at e;cases e),Nat.zero_le _⟩
end
end Att
namespace L2
open PySem PySem.Spec PyProof.Rows
variable{f:Addr}{fd:FuncData}{k:Nat}{st:Stmt}{x:Str}
theorem nL:∀ {vs:List Value} {ns:List Int},IntsAre vs ns->We 1e63 vs
 | _,_,.nil=>.nil
 | _,_,.cons n t h=>.cons ⟨t,rfl⟩ (nL h)
def Only(H:Hp):Prop:=∀ b,H b=none\/∃ o xs,H b=some (.Wz o 1e20)
def Ku{P:Program}{w:World}{K:q0B}{mg mb:q0C}{CX:CXT}{fa a:Addr}{sp:Sp}{s₁:Shared}{vs:List Value}{ns:List Int}(KX:K.In s₁.heap)(Zc:s₁.heap.Ns mainGlobals mg)(hb:s₁.heap.Ns builtinsNs mb)(hbb:∀ x:Str,x≠"__name__"->mb x=bootBuiltins x)(abP:s₁.heap.NoLimit)(hg:s₁.gens = #[])(ha:s₁.heap.get? a=some {cls:=.type "list",data:=.seq vs.toArray})(hi:IntsAre vs ns)(hl:ns.length<=sizeLine)(hr:Room k callerA)(F:∀ base:Heap,K.In base->base.Ns mainGlobals mg->eP P w K mg base CX k fa fd [x] sp)(aaY:∀(s:Shared) (u:Value),BindsTo s fd ⟨[u],[]⟩ [(x,u)])(ZO:∀ H:Hp,Only H->e9 K H a 1e63->sp [.ref a] H (fun v _=>v=.bl true) fun _ _ _=>False)(hCX:∀ H e s',CX [] H s₁ (fun _ _ _=>False) e s'->False) : codeAny (model P w) callerA (.call (.ref fa) ⟨[.ref a],[]⟩) (fun r s'=>r=.ok (.ret (.bool true))/\OldK s₁.heap s'.heap/\s'.os=s₁.os/\AllBare s'.gens) s₁:=by
  have rv:=nL hi;have abW:=hi.length;have core:∀ H:Hp,Only H->e9 K H a 1e63->HOk P w H s₁.heap->(∀ b,H b≠none->b=a)->(H a≠none->K.lookup a=none) ->
      codeAny (model P w) callerA (.call (.ref fa) ⟨[.ref a],[]⟩) (fun r s'=>r=.ok (.ret (.bool true))/\OldK s₁.heap s'.heap/\s'.os=s₁.os/\AllBare s'.gens) s₁:=by
    intro H hO hS Wh hA hK;have X1:∀ {b:Addr} {o:Obj},s₁.heap.get? b=some o->H b=none->(Bi s₁.heap H).get? b=some o:=fun e n=>Kk e n;have noA:∀ {b:Addr} {o:Obj} {es:Array DictEntry} {ep:Nat},s₁.heap.get? b=some o->o.data=.dict es ep->H b=none:=fun {b o es ep} e d=>by
      cases q:H b with
      | none=>rfl
      | some u =>
        have e':b=a:=hA b (by rw[q];simp);subst e';rw[ha] at e;cases e;have d':Data.seq vs.toArray _=Data.dict es ep:=d;cases d'
    have nsK:∀ {b:Addr} {m:q0C},s₁.heap.Ns b m->(Bi s₁.heap H).Ns b m:=fun {b m} ⟨o,es,ep,e,d,r⟩=>⟨o,es,ep,X1 e (noA e d),d,r⟩;have hKb:K.In (Bi s₁.heap H):=fun b o e=>X1 (KX b o e) (by
      cases q:H b with
      | none=>rfl
      | some u =>
        have e':b=a:=hA b (by rw[q];simp);subst e';rw[hK (by rw[q];simp)] at e;cases e)
    have hM:Mod K mg (Bi s₁.heap H):=⟨hKb,nsK Zc,⟨mb,nsK hb,hbb⟩,let ⟨mc,h1,h2⟩:=abP;⟨mc,nsK h1,h2⟩⟩;have e0:Env0 P w K mg (Bi s₁.heap H) callerA [] s₁ H:=⟨rfl,hM,fun b o e=>ND e,Nat.le_of_eq (HW _ _),trivial,fun b hb=>absurd (show b∈([]:List Addr) from hb) 1e1,Wh,.of_eq hg⟩;refine codeAny_mono ((F _ hKb (nsK Zc)).run callerA [] s₁ H ⟨[.ref a],[]⟩ [.ref a] [.ref a] _ _ hr e0 (aaY s₁ 1e11) (.cons rfl .nil) (ZO H hO hS)) fun r s' h=>?_;cases r with
    | error e=>exact(hCX H e s' h).elim
    | ok fl =>
      cases fl with
      | next=>exact False.elim h
      | brk=>exact False.elim h
      | cont=>exact False.elim h
      | ret u =>
        obtain⟨v,H',os,bare,un,abT,r',q⟩:=h;have q':v=.bl true:=q;subst q';obtain rfl:u=Value.bool true:=r';refine⟨rfl,OldK.of_keep fun b o e=>?_,os,bare⟩;cases q:H b with
        | none=>exact un.keep b o e q (by intro z;exact absurd (show b∈([]:List Addr) from z) 1e1) 1e1
        | some u =>
          rcases hO b with z|⟨ob,xs,z⟩
          · rw[q] at z;cases z
          · have z2:=un.vY b ob _ z;obtain⟨e1,_⟩:=Wh b _ z;obtain⟨e2,_⟩:=abT b _ z2;rw[e] at e1;cases e1;exact e2
  cases hk:K.lookup a with
  | some o =>
    have e:=KX a o hk;rw[ha] at e;cases e;refine core (fun _=>none) (fun _=>.inl rfl) (.inr ⟨_,vs.toArray,_,hk,rfl,rfl,rfl,by rw[List.size_toArray,abW];exact hl,by simpa using rv⟩) (fun b u z=>by have z':(none:Option HO)=some u:=z;cases z') (fun b z=>absurd rfl z) fun z=>absurd rfl z
  | none =>
    refine core (fun b=>if b=a then some (.Wz {cls:=.type "list",data:=.seq vs.toArray} (.lst 1e63)) else none) (fun b=>?_) (.inl (.inr ⟨{cls:=.type "list",data:=.seq vs.toArray},if_pos rfl⟩)) (fun b u z=>?_) (fun b z=>?_) fun _=>hk
    · by_cases hb:b=a
      · exact .inr ⟨_,_,if_pos hb⟩
      · exact .inl (if_neg hb)
    · by_cases hb:b=a
      · have z':=(if_pos hb).symm.trans z;cases z';subst hb;exact⟨ha,by rw[List.length_map];exact hl,vs,_,rv,ha⟩
      · have z':=(if_neg hb).symm.trans z;cases z'
    · by_cases hb:b=a
      · exact hb
      · exact absurd (if_neg hb) z
def Ox{l:PySem.W.OpenLaw}{n:Nat}{q:Program}{loose:List Str}{XP:(q0C)->Heap->Prop}{YP:World->Heap->Prop}{d:DefRec}{K:Params->q0B}{CX:World->CXT}{sp:World->Sp}(hn:l.most=some n)(Zb:n<=sizeLine)(hdf:d.params.defaults=[])(hr:Room k callerA)(hY:∀(w:World) (h:Heap),YP w h->(K w.params).In h)(F:∀(w:World) (mg:q0C) (fa:Addr) (h:Heap),(K w.params).In h->h.Ns mainGlobals mg->mg d.name=some (.ref fa) -> ∃ fd:FuncData,(∀(s:Shared) (u:Value),BindsTo s fd ⟨[u],[]⟩ [(x,u)]) /\ ∀ base:Heap,(K w.params).In base->base.Ns mainGlobals mg->eP l.prog w (K w.params) mg base (CX w) k fa fd [x] (sp w))(ZO:∀(w:World) (H:Hp) (a:Addr) (ns:List Int),ns.length<=n->Only H->e9 (K w.params) H a 1e63->sp w [.ref a] H (fun v _=>v=.bl true) fun _ _ _=>False)(hCX:∀(w:World) (H:Hp) (s:Shared) (e:Value) (s':Shared),CX w [] H s (fun _ _ _=>False) e s'->False) : PySem.W.WalkO q loose XP YP l.row.toRowW d [] (fun f vs=>PySem.call f vs):=by
 refine Att.B8 hn hdf fun w s₀ s₁ mg mb fa o pm cd doc a vs ns G Y ho hd YQ hmg aaH hints hlen hg=>?_;have KX:=hY w _ Y;obtain⟨fd,hb,hF⟩:=F w mg fa _ KX G.T.g hmg;exact Ku KX G.T.g G.T.b G.T.builtins G.T.nolimit hg aaH hints (Nat.le_trans hlen Zb) hr hF hb (fun H hO hS=>ZO w H a ns hlen hO hS) fun H e s'=>hCX w H s₁ e s'
noncomputable def bU(s:Stmt)(j:Nat):Stmt:=match s with
 | .ClassDef _ _ _ body _ _ _ _ _ _ _=>body.getD j (.Pass ⟨0,0,0,0⟩)
 | _=>.Pass ⟨0,0,0,0⟩
noncomputable def hE(s:Stmt):Arguments:=match s with
 | .FunctionDef _ a _ _ _ _ _ _ _ _=>a
 | _=>{posonlyargs:=[],args:=[],vararg:=none,kwonlyargs:=[],kw_defaults:=[],kwarg:=none,defaults:=[]}
noncomputable def fP(s:Stmt):List Stmt:=match s with
 | .FunctionDef _ _ b _ _ _ _ _ _ _=>b
 | _=>[]
noncomputable def cK(s:Stmt):Scope:=match s with
 | .FunctionDef _ _ _ _ _ _ sc _ _ _=>sc
 | _=>{kind:=.function,names:=[],isGenerator:=false,isCoroutine:=false}
abbrev WW:CXT:=fun _ _ _ _ _ _=>False
abbrev E0:XK:=fun _ _ _=>False
def pass0{X:Cx}:Passes WW X E0:=fun _ _ _ _ _ _ _ h=>h.elim
structure Fun(K:q0B)(x qual:Str)(st:Stmt)(f:Addr)(fd:FuncData):Prop where
 ex:∃(oc:Value) (od:Option Addr) (kV doc pm:Value) (an:Option Addr) (Wy ct:Value) (Yx:Array (Option Value)),
  fd=PySem.W.fnOf x qual (hE st) (fP st) (cK st) .none kV doc pm an Wy ct/\K.lookup f=some ⟨oc,od,.func fd,Yx⟩/\PySem.W.codeIn K Wy qual=true
 kp:PySem.W.keepIn K (.ref f)=true
section
variable{P:Program}{w:World}{K:q0B}{mg:q0C}{base:Heap}
def Fun.ok{qual:Str}{N ps:List Str}{sp:Sp}(F:Fun K x qual st f fd)(S:mX N ps (cK st))(len:∀ vs H Q E,sp vs H Q E->vs.length=ps.length)(XG:∀(Wy:Value) (A:Around) (outer:List Env) (s:Shared) (H:Hp) (vs:List V) (Q:VK) (E:XK),Room k (A.deeper (envOfC qual (cK st) s.heap.objs.size f Wy))->sp vs H Q E -> ∃ t,Xy (AU WW P w K mg base N qual (cK st) f Wy A outer s H E).nox (fP st) t/\t {nx:=fun _ H'=>Q .Wb H',rt:=Q} (start N vs) H):eP P w K mg base WW (k+1) f fd ps sp:=by
 obtain⟨oc,od,kV,doc,pm,an,Wy,ct,Yx,rfl,lk,YQ⟩:=F.ex;refine Tt lk YQ S len fun A outer s H vs Q E hr ZO=>?_;obtain⟨t,h,q⟩:=XG Wy A outer s H vs Q E hr ZO;exact⟨t,h.nox,q⟩
def Fun.binds{qual:Str}{ps:List Str}(F:Fun K x qual st f fd)(h:∀(kV doc pm:Value) (an:Option Addr) (Wy ct:Value) (us:List Value),us.length=ps.length->bindArgs (PySem.W.fnOf x qual (hE st) (fP st) (cK st) .none kV doc pm an Wy ct) ⟨us,[]⟩=pure (ps.zip us)):Binds K fd ps []:=by
 obtain⟨oc,od,kV,doc,pm,an,Wy,ct,Yx,rfl,lk,YQ⟩:=F.ex;exact .all (h kV doc pm an Wy ct)
def Ke{qual:Str}{oc:Value}{od an:Option Addr}{Yx:Array (Option Value)}{kV doc pm Wy ct:Value}(l:K.lookup f=some ⟨oc,od,.func (PySem.W.fnOf x qual (hE st) (fP st) (cK st) .none kV doc pm an Wy ct),Yx⟩)(c:PySem.W.codeIn K Wy qual=true)(k:PySem.W.keepIn K (.ref f)=true):Fun K x qual st f (PySem.W.fnOf x qual (hE st) (fP st) (cK st) .none kV doc pm an Wy ct):=⟨⟨oc,od,kV,doc,pm,an,Wy,ct,Yx,rfl,l,c⟩,k⟩
end
theorem nU{A:Around}(hr:Room k A):A.units+1 < cLine:=Nat.lt_of_le_of_lt (Nat.add_le_add_left (by decide:1<=64) _) hr.units
theorem small1000{n:Nat}(h:n<=1000):n < sizeLine:=Nat.lt_of_le_of_lt h 1e6
section
variable{X:Cx}
theorem pv(i:Nat){pos:Pos}(hN:X.N[i]?=some x:=by rfl)(hv:Vis X.env.scope x:=by first|exact Or.inl rfl|exact Or.inr (Or.inl rfl)|exact Or.inr (Or.inr rfl))(hd:1e34=false:=by decide)(YQ:(x==("__classdict__":Str))=false:=by decide):PE X (.Name x pos) (o7 i):=lD hN hv hd YQ
end
def Same(H H':Hp):Prop:=∀ b o,H b=some o->H' b=some o
def Same.seq{K:q0B}{H H':Hp}{a:Addr}{xs:List V}(e:Same H H')(h:e9 K H a xs):e9 K H' a xs:=by
 rcases h with(h|⟨o,h⟩)|h
 ·exact .inl (.inl (e _ _ h))
 ·exact .inl (.inr ⟨o,e _ _ h⟩)
 ·exact .inr h
section
variable{X:Cx}
end
section
variable{κ:Type}[DecidableEq κ]
end
end L2
set_option maxHeartbeats 4000000
namespace L2
open PySem PySem.Spec PyProof.Rows
variable{a it l:Addr}{A:Around}{items:Array Value}{b r:Bool}{X:Cx}{h:Heap}{H:Hp}{g:Int->Int->V}{V9:List 1e13}{kvs:List 1e35}{cl:List (Str×Addr)}{R:List (V×V)->Hp->Prop}{fp:List Addr}{es:List Expr}{ns:List Int}{fr:List Nat}{vs xs ys:List V}{k:List V->Prop}{i j n:Nat}{tn:Nat->Heap->Prop}{Pv:Nat->List V->Hp->Prop}{W:Nat->Nat->List V->Hp->Prop}{o:Option HO}{O:Option Int->Hp->Prop}{o0:Option V}{Q:Option Value->Shared->Prop}{pos:Pos}{P:Program}{t:SetTable}{s:Shared}{σ:St}{N:St->Hp->Prop}{x y:Str}{T:String}{v:Value}{RR:Value->Addr->Result->Shared->Prop}{w:World}{E:q0A}{K:q0B}
theorem lW:bootBuiltins "int"=some (.type "int"):=by decide +kernel
theorem Mr:bootBuiltins "bool"=some (.type "bool"):=by decide +kernel
theorem AR:bootBuiltins "list"=some (.type "list"):=by decide +kernel
theorem Ms:bootBuiltins "dict"=some (.type "dict"):=by decide +kernel
theorem fJ:bootBuiltins "tuple"=some (.type "tuple"):=by decide +kernel
theorem eF:bootBuiltins "isinstance"=some (.builtin "isinstance"):=by decide +kernel
theorem oK:bootBuiltins "max"=some (.builtin "max"):=by decide +kernel
theorem AS:bootBuiltins "min"=some (.builtin "min"):=by decide +kernel
theorem zX:bootBuiltins "sorted"=some (.builtin "sorted"):=by decide +kernel
theorem eC:bootBuiltins "len"=some (.builtin "len"):=by decide +kernel
section
def RQ(_ j:Int):Prop:=0 < j/\j.natAbs.log2 < 9000
theorem C1:jD X (binaryOp .FloorDiv) (rI RQ fun i j=>.int (i / j)):=UZ fun i j _ _ _ _ _ hc q=>by
 have h1:(0:Int) < j:=hc.1;exact floordiv_int 1e0 (by rw[Int.fdiv_eq_ediv_of_nonneg i 1e0];exact q) (.inl (PyProof.noPylong_of_log2 hc.2))
theorem log2_lt{j:Int}(h0:0 < j)(h:j<=10 ^ 45):j.natAbs.log2 < 9000:=by
 have h1:j.natAbs<=10 ^ 45:=by omega
 have h2:j.natAbs < 2 ^ 150:=Nat.lt_of_le_of_lt h1 1e6;have h3:j.natAbs.log2 < 150:=(Nat.log2_lt 1e0).mpr h2;omega
inductive o9(K:q0B)(H:Hp):V->String->Bool->Prop
 | ii (n:Int):o9 K H (.int n) "int" true
 | ib (n:Int):o9 K H (.int n) "bool" false
 | is (n:Int):o9 K H (.int n) "str" false
 | it (n:Int):o9 K H (.int n) "tuple" false
 | bi (b:Bool):o9 K H (.bl b) "int" true
 | bb (b:Bool):o9 K H (.bl b) "bool" true
 | bs (b:Bool):o9 K H (.bl b) "str" false
 | bt (b:Bool):o9 K H (.bl b) "tuple" false
 | si (x:Str):o9 K H (.str x) "int" false
 | sb (x:Str):o9 K H (.str x) "bool" false
 | ss (x:Str):o9 K H (.str x) "str" true
 | st (x:Str):o9 K H (.str x) "tuple" false
 | ni:o9 K H .Wb "int" false
 | nb:o9 K H .Wb "bool" false
 | ns:o9 K H .Wb "str" false
 | nt:o9 K H .Wb "tuple" false
 | li {a:Addr} {xs:List V}:e9 K H a xs->o9 K H 1e11 "int" false
 | lb {a:Addr} {xs:List V}:e9 K H a xs->o9 K H 1e11 "bool" false
 | ls {a:Addr} {xs:List V}:e9 K H a xs->o9 K H 1e11 "str" false
 | lt {a:Addr} {xs:List V}:e9 K H a xs->o9 K H 1e11 "tuple" false
 | ti {a:Addr} {xs:List V}:g9 K H a xs->o9 K H 1e11 "int" false
 | tb {a:Addr} {xs:List V}:g9 K H a xs->o9 K H 1e11 "bool" false
 | ts {a:Addr} {xs:List V}:g9 K H a xs->o9 K H 1e11 "str" false
 | tt {a:Addr} {xs:List V}:g9 K H a xs->o9 K H 1e11 "tuple" true
 | di {a:Addr} {kvs:List 1e35}:H a=some 1e17->o9 K H 1e11 "int" false
 | db {a:Addr} {kvs:List 1e35}:H a=some 1e17->o9 K H 1e11 "bool" false
 | ds {a:Addr} {kvs:List 1e35}:H a=some 1e17->o9 K H 1e11 "str" false
def Wc.nC(I:Wc X V9 σ H s)(h:e9 X.K H a xs):∃ o,s.heap.get? a=some o/\o.cls=.type "list":=by
 obtain⟨Wd,_,⟨o,n,e,c,_,_⟩,_⟩:=I.list h;exact⟨o,e,c⟩
def Wc.rX(I:Wc X V9 σ H s)(h:g9 X.K H a xs):∃ o,s.heap.get? a=some o/\o.cls=.type "tuple":=by
 obtain⟨Wd,_,⟨o,e,c,_⟩,_⟩:=I.tuple h;exact⟨o,e,c⟩
def Wc.AZ(I:Wc X V9 σ H s)(h:H a=some 1e17):∃ o,s.heap.get? a=some o/\o.cls=.type "dict" :=
 r9 I (DGet.k (k:=.inl 0) h)
def Jz:fF X (.builtin "isinstance") (fun xs H Q=>∃ v T b,xs=[v,.ty T]/\o9 X.K H v T b/\Q (.bl b) H):=by
 intro V9 s σ H xs us Q I r h;obtain⟨v,T,b,rfl,hi,q⟩:=h;obtain⟨u,w',rfl,r1,r2⟩:=vals2 r;cases r2;have fin:EP X V9 σ Q (.bool b) s:=⟨.bl b,H,I,rfl,q⟩;have Ww:EP X V9 σ Q (.bool b) {s with toks:=s.toks+1}:=⟨.bl b,H,I.tok _,rfl,q⟩;cases hi with
 | ii n=>obtain⟨t,rfl⟩:=r1;exact IsiPair.int_int fin
 | ib n=>obtain⟨t,rfl⟩:=r1;exact IsiPair.int_bool Ww
 | is n=>obtain⟨t,rfl⟩:=r1;exact IsiPair.int_str Ww
 | it n=>obtain⟨t,rfl⟩:=r1;exact IsiPair.int_tuple Ww
 | bi b=>cases r1;exact IsiPair.bool_int fin
 | bb b=>cases r1;exact IsiPair.bool_bool fin
 | bs b=>cases r1;exact IsiPair.bool_str Ww
 | bt b=>cases r1;exact IsiPair.bool_tuple Ww
 | si x=>obtain⟨t,rfl⟩:=r1;exact IsiPair.str_int Ww
 | sb x=>obtain⟨t,rfl⟩:=r1;exact IsiPair.str_bool Ww
 | ss x=>obtain⟨t,rfl⟩:=r1;exact IsiPair.str_str fin
 | st x=>obtain⟨t,rfl⟩:=r1;exact IsiPair.str_tuple Ww
 | ni=>cases r1;exact IsiPair.NoneType_int Ww
 | nb=>cases r1;exact IsiPair.NoneType_bool Ww
 | ns=>cases r1;exact IsiPair.NoneType_str Ww
 | nt=>cases r1;exact IsiPair.NoneType_tuple Ww
 | li hl=>cases r1;obtain⟨o,e,c⟩:=Wc.nC I hl;exact IsiPair.list_int e c Ww
 | lb hl=>cases r1;obtain⟨o,e,c⟩:=Wc.nC I hl;exact IsiPair.list_bool e c Ww
 | ls hl=>cases r1;obtain⟨o,e,c⟩:=Wc.nC I hl;exact IsiPair.list_str e c Ww
 | lt hl=>cases r1;obtain⟨o,e,c⟩:=Wc.nC I hl;exact IsiPair.list_tuple e c Ww
 | ti hl=>cases r1;obtain⟨o,e,c⟩:=Wc.rX I hl;exact IsiPair.tuple_int e c Ww
 | tb hl=>cases r1;obtain⟨o,e,c⟩:=Wc.rX I hl;exact IsiPair.tuple_bool e c Ww
 | ts hl=>cases r1;obtain⟨o,e,c⟩:=Wc.rX I hl;exact IsiPair.tuple_str e c Ww
 | tt hl=>cases r1;obtain⟨o,e,c⟩:=Wc.rX I hl;exact IsiPair.tuple_tuple e c fin
 | di hl=>cases r1;obtain⟨o,e,c⟩:=Wc.AZ I hl;exact IsiPair.dict_int e c Ww
 | db hl=>cases r1;obtain⟨o,e,c⟩:=Wc.AZ I hl;exact IsiPair.dict_bool e c Ww
 | ds hl=>cases r1;obtain⟨o,e,c⟩:=Wc.AZ I hl;exact IsiPair.dict_str e c Ww
end
noncomputable def mE:Expr->Bool
 | .Starred ..=>true
 | _=>false
def IP{e:Expr}{env:Env}(h:mE e=false):starEach (e::es) env=(false,eval e env)::starEach es env:=by
 cases e<;>first|rfl|cases h
section
variable{e:Expr}{te:TE}{t:TA}
def eJ(ha:PE X e te)(hr:PA X es t)(h:mE e=false:=by rfl):PA X (e::es) (mU te t):=Gq ha hr (IP h)
end
noncomputable abbrev sI(prog:Program)(w:World)(A:Around)(env:Env)(R:Result->Shared->Prop):Value->Shared->Prop:=notedBy 1e15 A env fun e s'=>R (.error e) s'
noncomputable abbrev Hf(ifs:List Expr)(env:Env):Sem Bool:=forIn ifs true fun c r=>if r=true then do let ok <- isTrue c env (eval c env);pure (ForInStep.yield ok) else pure (ForInStep.yield r)
section
variable{prog:Program}{R:Result->Shared->Prop}
def rZ{elt target iter:Expr}{ifs:List Expr}{scope:Scope}{it acc:Value}{env:Env}(I:Nat->Shared->Prop)(turn:∀ n s,I n s->wpAny 1e15 A (pyNext it) (fun r s₁=>match r with|none=>R (.ok .next) s₁|some v=>wpAny 1e15 A (letOwnedTupleGo target it v) (fun _ s₁'=>wpAny 1e15 A (assign target env v) (fun _ s₂ => wpAny 1e15 A (Hf ifs env) (fun ok s₃ => if ok=true then wpAny 1e15 A (eval elt env) (fun x s₄ => wpAny 1e15 A (call (.builtin "list.append") [acc,x]) (fun _ s₅=>∃ m,m < n/\I m s₅) (sI prog w A env R) s₄) (sI prog w A env R) s₃ else ∃ m,m < n/\I m s₃) (sI prog w A env R) s₂) (sI prog w A env R) s₁') (sI prog w A env R) s₁) (sI prog w A env R) s)(n:Nat)(h:I n s):codeAny 1e15 A (.compLoop (.ListComp elt [⟨target,iter,ifs,0⟩] scope pos) 0 it acc env) R s:=by
 refine codeAny_loop rfl I (fun n s hI=>?_) n h;show wpAny _ A ((compTurn (.ListComp elt [⟨target,iter,ifs,0⟩] scope pos) 0 it acc env).onRaise (fun x=>do noteFrame x env;theTreesLotGoes x)) _ _ s;refine wpAny_noted ?_;rw[compTurn_list];refine wpAny_bind (wpAny_standAt (wpAny_bind (wpAny_mono (turn n s hI) (fun r s₁ h₁=>?_) fun _ _ h'=>h')));cases r with
 | none=>exact wpAny_pure h₁
 | some v =>
  refine wpAny_bind (wpAny_mono h₁ (fun _ s₁' h₁'=>?_) fun _ _ h'=>h');refine wpAny_bind (wpAny_mono h₁' (fun _ s₂ h₂=>wpAny_bind (wpAny_mono h₂ (fun ok s₃ h₃=>?_) fun _ _ h'=>h')) fun _ _ h'=>h');cases ok with
  | false=>exact wpAny_pure ⟨rfl,h₃⟩
  | true =>
   exact wpAny_bind (wpAny_bind (wpAny_mono h₃ (fun x s₄ h₄=>wpAny_bind (wpAny_mono h₄ (fun _ s₅ h₅=>wpAny_pure (wpAny_pure ⟨rfl,h₅⟩)) fun _ _ h'=>h')) fun _ _ h'=>h'))
end
noncomputable def bP(X:Cx)(sc:Scope)(cl:List (Str×Addr))(C:Addr)(N:List Str)(s:Shared)(H:Hp)(ex:List Addr)(pn:List 1e13):Cx :=
 {X with env:=compEnvC sc cl C X.env,N:=N,s₀:=s,H₀:=H,outer:=X.stack,ex:=ex,fn:=fun _=>false,pn:=pn}
structure eQ(X:Cx)(sc:Scope)(cl:List (Str×Addr))(x:Str)(fr:List Nat)(N:List Str):Prop where
 kind:sc.kind=.function
 wY:∀ y∈sc.names,y.2≠.cell
 names:∀ y∈sc.names,y.2=.local->sc.names.lookup y.1=some .local
 Ce:closureFor sc X.env=pure cl
 sub:∀ y c,cl.lookup y=some c->X.env.cells.lookup y=some c
 has:∀ y,((relabel sc X.env).names.lookup y=some .cell\/(relabel sc X.env).names.lookup y=some .free)->∃ c,cl.lookup y=some c
 tgt:sc.names.lookup x=some .local
 nd:N.Nodup
 N0:N=x::fr.map fun j=>X.N.getD j x
 YJ:∀ j∈fr,∃ y,X.N[j]?=some y/\X.env.kindOf y=some .cell/\((relabel sc X.env).names.lookup y=some .cell\/(relabel sc X.env).names.lookup y=some .free)
def aT(fr:List Nat)(σ:St):St:=fr.map fun j=>(σ[j]?).join
section
variable{sc:Scope}{C:Addr}{N:List Str}
def My(I:Wc X V9 σ H s)(S:eQ X sc cl x fr N)(hf:∀ b∈fp,lV X V9 H b)(XS:∀ b∈fp,b < s.heap.objs.size)(hC:s.heap.objs.size<=C) : (bP X sc cl C N s H fp (X.pn++V9)).Ok where
 mod:=I.ok.mod
 kind:=S.kind
 glob:=I.ok.glob
 blt:=I.ok.blt
 above:=hC
 inj:=fun y z c h1 h2=>I.ok.inj y z c (S.sub y c h1) (S.sub z c h2)
 has:=S.has
 cab:=fun _ _ h=>by cases h
 hd:=I.ok.hd
 frames:=I.ok.frames
 stk:=.inl rfl
 exf:=fun b hb=>⟨Nat.ne_of_lt (Nat.lt_of_lt_of_le (XS b hb) hC),fun y c e=>(hf b hb).2.2.2.2.1 y c (S.sub y c e)⟩
 bs:=I.bs
 bsz:=Nat.le_trans I.ok.bsz I.sz
 CQ:=fun b o e hb=>by
  rcases(hf b hb).2.2.2.1 with z|z
  ·exact I.ok.CQ b o e z
  ·exact absurd (Nat.lt_of_lt_of_le 1e26 (Nat.le_trans I.ok.bsz z)) (Nat.lt_irrefl _)
 HP:=fun b hb hm=>by
  rcases List.mem_cons.mp (I.oY b hm) with z|z
  ·exact(hf b hb).2.1 z
  ·exact(hf b hb).2.2.1 z
 pM:=I.stack
 frf:=I.BQ
def nostk(I:Wc X V9 σ H s){b:Addr}(h1:b≠X.env.locals)(h2:b∉X.fs):b∉frs X.stack:=fun hm=>by
 rcases List.mem_cons.mp (I.oY b hm) with z|z
 ·exact h1 z
 ·exact h2 z
def JC(I:Wc X V9 σ H s)(S:eQ X sc cl x fr N)(hf:∀ b∈fp,lV X V9 H b)(XS:∀ b∈fp,b < s.heap.objs.size)(hC:s.heap.objs.size<=C){h1:Heap}{t1:Nat}{m0:q0C}(hn:h1.Ns C m0)(hk:∀ b o,s.heap.get? b=some o->h1.get? b=some o):Wc (bP X sc cl C N s H fp (X.pn++V9)) [] (none::aT fr σ) H {s with heap:=h1,toks:=t1}:=by
 refine⟨My I S hf XS hC,rfl,I.bare,Un.kept hk,⟨m0,hn,fun i y v e1 e2 e3=>?_⟩,fun y c e=>?_,I.Wh.fresh hC,fun y c e=>I.j7 y c (S.sub y c e),fun p hp=>?_,I.Wh.kept hk,?_⟩
 ·have Xs:N[i]?=some y:=e1;rw[S.N0] at Xs;cases i with
  | zero =>
   have z:(some (none:Option V))=some (some v):=e2;cases z
  | succ j =>
   have W9:(fr.map fun j=>X.N.getD j x)[j]?=some y:=Xs;have YD:(aT fr σ)[j]?=some (some v):=e2;unfold aT at YD;rw[List.getElem?_map] at W9 YD;cases q:fr[j]? with
   | none=>rw[q] at W9;cases W9
   | some k =>
    rw[q] at W9 YD;have ey:X.N.getD k x=y:=Option.some.inj W9;have ev:(σ[k]?).join=some v:=Option.some.inj YD;obtain⟨y',hy,Xd,YZ⟩:=S.YJ k (List.mem_of_getElem? q);have eyy:y=y':=by
     rw[<- ey,List.getD_eq_getElem?_getD,hy];rfl
    subst eyy;have ev':σ[k]?=some (some v):=by
     cases z:σ[k]? with
     | none=>rw[z] at ev;cases ev
     | some o =>
      rw[z] at ev;have ev2:o=some v:=ev;rw[ev2]
    obtain⟨m,_,hl⟩:=I.loc;obtain⟨u,r,l⟩:=hl k y v hy ev' (.inr (.inl Xd));refine⟨u,r,.inr ⟨YZ,?_⟩⟩;rcases l with⟨z,_⟩|⟨_,c,hc,o,ho,hd⟩
    ·rw[Xd] at z;cases z
    ·obtain⟨c',YO⟩:=S.has y YZ;have z:=S.sub y c' YO;rw[hc] at z;cases z;exact⟨c,YO,o,hk c o ho,hd⟩
 ·obtain⟨v,o,ho,hd⟩:=I.cell y c (S.sub y c e);exact⟨v,o,hk c o ho,hd⟩
 ·have hp':p∈X.pn++V9:=by
   have z:p∈(X.pn++V9)++[]:=hp;simpa using z
  obtain⟨e,n,ne,nf,d⟩:=I.pin p hp';exact⟨hk _ _ e,n,Nat.ne_of_lt (Nat.lt_of_lt_of_le 1e26 hC),nostk I ne nf,d⟩
 ·show(none::aT fr σ).length=N.length;rw[S.N0];simp[aT]
def Ci(I:Wc X V9 σ H s)(hf:∀ b∈fp,lV X V9 H b){D:Addr}{pl:List 1e13}{σ':St}{H':Hp}{s':Shared}(J:Wc (bP X sc cl C N s H fp (X.pn++V9)) pl σ' H' s')(hC:s.heap.objs.size<=C)(hD:s.heap.objs.size<=D)(Yf:D≠C)(YK:H' D=none){vals:List Value}{k:Nat}(hg:s'.heap.get? D=some {cls:=.type "list",data:=.seq vals.toArray k})(rv:We xs vals)(hz:xs.length<=sizeLine){h':Heap}(hs:Heap.SameBut C s'.heap h'):Wc X V9 σ (Wa H' D 1e20) {s' with heap:=h'}:=by
 have lt:∀ {b:Addr} {o:Obj},s.heap.get? b=some o->b < s.heap.objs.size:=fun e=>Heap.lt_size e;have ZT:∀ {b:Addr} {o:Obj},s.heap.get? b=some o->b≠C:=fun e=>Nat.ne_of_lt (Nat.lt_of_lt_of_le 1e26 hC);have neD:∀ {b:Addr} {o:Obj},s.heap.get? b=some o->b≠D:=fun e=>Nat.ne_of_lt (Nat.lt_of_lt_of_le 1e26 hD);have aaO:∀ {b:Addr} {o:HO},H b=some o->b≠D:=fun e=>Nat.ne_of_lt (Nat.lt_of_lt_of_le (I.Wh.lt e) hD);have base:Un (frs X.stack) fp H H' s.heap s'.heap:=J.base;have HC:H' C=none:=J.free;refine I.Se (s':={s' with heap:=h'}) (ch:=fp) J.os ⟨fun b o e n hb hx=>?_,fun b o e n hb hx=>?_,fun b o e n hx=>?_,fun b o e hx=>?_,fun b ys e=>?_,fun b o u e=>?_,fun b ps e=>?_⟩ (fun b u e=>?_) J.bare (fun b hb=>?_)
 ·exact(hs.2 b (ZT e)).trans (base.keep b o e n hb hx)
 ·obtain⟨sl,q⟩:=base.slot b o e n hb hx;exact⟨sl,(hs.2 b (ZT e)).trans q⟩
 ·rw[aD (neD e)];exact base.free b o e n hx
 ·obtain⟨o',q⟩:=base.there b o e hx;exact⟨o',(hs.2 b (ZT e)).trans q⟩
 ·rw[aD (aaO e)];exact base.zO b ys e
 ·rw[aD (aaO e)];exact base.vY b o u e
 ·rw[aD (aaO e)];exact base.zN b ps e
 ·by_cases hb:b=D
  ·subst hb;rw[aA] at e;cases e;exact⟨hz,vals,k,rv,(hs.2 b Yf).trans hg⟩
  ·rw[aD hb] at e;have tC:∀ {c:Addr} {o:HO},H' c=some o->c≠C:=fun q z=>by rw[z,HC] at q;cases q
   have tD:∀ {c:Addr} {o:HO},H' c=some o->c≠D:=fun q z=>by rw[z,YK] at q;cases q
   refine(J.Wh b u e).zM (fun c v hc q=>(hs.2 c ?_).trans q) (fun c q=>by rw[aD (tD q)];exact q) fun c ys q=>by rw[aD (tD q)];exact q
   rcases hc with z|z
   ·rw[z];exact tC e
   ·exact tC z
 ·obtain⟨_,f1,_,f3,f4,f5⟩:=hf b hb;exact⟨f3,f1,f4,f5⟩
end
noncomputable def Zx(Y:Cx)(ifs:List Expr)(t:TT):Prop :=
 ∀(V9:List 1e13) (s:Shared) (σ:St) (H:Hp) (Q:Bool->Hp->Prop),Wc Y V9 σ H s->t σ H Q->wpAny (model Y.prog Y.w) Y.A (Hf ifs Y.env) (TP Y V9 σ Q) Y.xe s
def Pe:TT:=fun _ H Q=>Q true H
def BH{Y:Cx}:Zx Y [] Pe:=fun _ _ _ H _ I h=>wpAny_tests_nil ⟨H,I,h⟩
def nJ{Y:Cx}{c:Expr}{t:TT}(h:PT Y c t):Zx Y [c] t:=fun V9 s σ H Q I hw=>wpAny_tests_one (h V9 s σ H Q I hw)
@[irreducible] def kM(wi:TI)(fr:List Nat)(tc:TT)(te:TE):TE:=fun σ H Q=>wi σ H fun J H1=>∃ W:Nat->Nat->List V->Hp->Prop,(∃ m,W 0 m [] H1)/\∀ i m xs H,W i m xs H->xs.length<=1000000 /\
  ((J.stop i H/\∀ p,H p=none->Q 1e21 (Wa H p 1e20)) \/
   (J.go i H/\∀ y H',J.X9 i H y H'->tc 1e28 H' fun b H2=>if b=true then te 1e28 H2 (fun z H3=>∃ m',m' < m/\W (i+1) m' (xs++[z]) H3) else ∃ m',m' < m/\W (i+1) m' xs H2))
section
variable{sc:Scope}{N:List Str}{elt iter:Expr}{px:Pos}{ifs:List Expr}{wi:TI}{tc:TT}{te:TE}
theorem uZ(hc:X.calm=true)(hx:∀ e s,¬ X.xe e s)(S:eQ X sc cl x fr N)(hb:∀ C s H ex pn,Zx 1e58 ifs tc/\PE 1e58 elt te){J:It}{Q:VK}(I:Wc X V9 σ H s)(T:Turn X.prog X.w X.K (.Name x px) J fp it tn)(st:tn 0 s.heap)(hf:∀ b∈fp,lV X V9 H b){m0:Nat}(w0:W 0 m0 [] H)(turn:∀ i m xs H,W i m xs H->xs.length<=1000000 /\ ((J.stop i H/\∀ p,H p=none->Q 1e21 (Wa H p 1e20)) \/ (J.go i H/\∀ y H',J.X9 i H y H'->tc 1e28 H' fun b H2=>if b=true then te 1e28 H2 (fun z H3=>∃ m',m' < m/\W (i+1) m' (xs++[z]) H3) else ∃ m',m' < m/\W (i+1) m' xs H2)))(fin:∀(D C:Addr) (s':Shared) (m':q0C) (H':Hp),s'.heap.Ns C m'->lV X V9 H' C->(∀ h',Heap.SameBut C s'.heap h'->Wc X V9 σ H' {s' with heap:=h'})->Q (.ref D) H'->RR (.ref D) C (.ok .next) s') : wpAny 1e2 X.A (newList []) (fun acc s₃=>wpAny 1e2 X.A (newFunctionEnv sc X.env.globals cl [] X.env.qual none .none (some X.env)) (fun YC s₄ => codeAny 1e2 X.A (.compStart (.ListComp elt [⟨.Name x px,iter,ifs,0⟩] sc pos) 0 (.ref it) acc {YC with scope:=relabel sc X.env}) (RR acc YC.locals) s₄) E s₃) E s:=by
  refine wpAny_newObj_type (wpAny_newFunctionEnv S.wY (by intro y hy;simp at hy) (fun h₁ XT Xu=>?_) S.kind);dsimp only at XT Xu ⊢;generalize hH2:s.heap.push {cls:=.type "list",dict:=none,data:=.seq ([]:List Value).toArray}=G2 at XT Xu ⊢;have hCs:G2.objs.size=s.heap.objs.size+1:=by rw[<- hH2,Heap.size_push]
  have Yf:s.heap.objs.size≠G2.objs.size:=by rw[hCs];exact Nat.ne_of_lt (Nat.lt_succ_self _)
  have hC:s.heap.objs.size<=G2.objs.size:=by rw[hCs];exact Nat.le_succ _
  have below:∀ b,b < s.heap.objs.size->b≠G2.objs.size:=fun b hb=>by rw[hCs];exact Nat.ne_of_lt (Nat.lt_succ_of_lt hb)
  have old:∀ b o,s.heap.get? b=some o->h₁.get? b=some o:=fun b o e=>Xu.extBut b o (below b 1e26) (Heap.get?_push_of_some _ (hH2▸Heap.get?_push_of_some _ e));have hD1:h₁.get? s.heap.objs.size=some {cls:=.type "list",data:=.seq ([]:List Value).toArray 0}:=Xu.extBut _ _ Yf (Heap.get?_push_of_some _ (hH2▸Heap.get?_push_size _ rfl));have XS:∀ b∈fp,b < s.heap.objs.size:=fun b hbm=>by
    obtain⟨o,e,_⟩:=T.obj 0 s.heap st b hbm;exact Heap.lt_size e
  have YK:H s.heap.objs.size=none:=I.Wh.fresh 1e5;have Z2:s.heap.objs.size∉frs X.stack:=fun hm=>by
    rcases List.mem_cons.mp (I.oY _ hm) with z|z
    · exact absurd I.lt (by rw[<- z];exact Nat.lt_irrefl _)
    · exact I.Rc 1e5 z
  have Yz:∀ y c,cl.lookup y=some c->c≠s.heap.objs.size:=fun y c e z=>by
    obtain⟨v,q⟩:=I.cell y c (S.sub y c e);exact absurd q.lt (by rw[z];exact Nat.lt_irrefl _)
  have Z1:∀ p∈X.pn++V9,p.1≠s.heap.objs.size:=fun p hp z=>absurd (Heap.lt_size (I.pin p hp).1) (by rw[z];exact Nat.lt_irrefl _);have Dfp:s.heap.objs.size∉fp:=fun hm=>Nat.lt_irrefl _ (XS _ hm);have loop:∀ s₃:Shared,s₃={s with heap:=h₁,toks:=s.toks+([]:List (Str×Value)).length} ->
      codeAny 1e2 X.A (.compLoop (.ListComp elt [⟨.Name x px,iter,ifs,0⟩] sc pos) 0 (.ref it) 1e33 (compEnvC sc cl G2.objs.size X.env)) (RR 1e33 G2.objs.size) s₃:=by
    rintro s₃ rfl;have I0:Wc 1e14 [] (none::aT fr σ) H {s with heap:=h₁,toks:=s.toks+([]:List (Str×Value)).length}:=JC I S hf XS hC XT old;refine rZ (fun n s'=>∃(i:Nat) (xs:List V) (vals:List Value) (k:Nat) (v0:Option V) (H':Hp),Wc 1e14 [] (v0::aT fr σ) H' s'/\tn i s'.heap/\(∀ b∈fp,H' b=none) /\
      s'.heap.get? s.heap.objs.size=some {cls:=.type "list",data:=.seq vals.toArray k}/\We xs vals/\H' s.heap.objs.size=none/\W i n xs H') ?_ m0
      ⟨0,[],[],0,none,H,I0,T.keep _ _ _ st fun b _ o e=>old b o e,fun b hb=>(hf b hb).1,hD1,.nil,YK,w0⟩
    rintro n s1 ⟨i,xs,vals,k,v0,H1,I1,st1,fr1,hg1,Zu,aaB,w1⟩;have hlen:=Zu.length;obtain⟨hz,step⟩:=turn i n xs H1 w1;have hz2:xs.length<=sizeLine:=Nat.le_trans hz 1e6;have Xh:∀ {H':Hp} {pl:List 1e13},(∀ b∈fp,H' b=none)->(∀ p∈pl,p.1=s.heap.objs.size)->∀ b∈fp,lV 1e14 pl H' b:=fun {H' pl} hn WH b hb =>
      ⟨hn b hb,below b (XS b hb),nostk I (hf b hb).2.1 (hf b hb).2.2.1,.inl hb,fun y c e=>(hf b hb).2.2.2.2.1 y c (S.sub y c e),fun p hp z=>by
        rcases List.mem_append.mp hp with q|q
        · exact(hf b hb).2.2.2.2.2 p q z
        · exact Dfp (by rw[<- WH p q,z];exact hb)⟩
    have I1':Wc 1e14 [(s.heap.objs.size,{cls:=.type "list",data:=.seq vals.toArray k})] (v0::aT fr σ) H1 s1:=I1.jK fun p hp=>by
      have e:p=(s.heap.objs.size,{cls:=.type "list",data:=.seq vals.toArray k}):=by simpa using hp
      subst e;exact⟨hg1,aaB,Yf,Z2,fun v z=>by cases z⟩
    rcases step with⟨stop,hq⟩|⟨go,step⟩
    · refine thn (T.done 1e14 rfl rfl rfl hc i [(s.heap.objs.size,{cls:=.type "list",data:=.seq vals.toArray k})] s1 _ H1 _ I1' (Xh fr1 fun p hp=>by
        have e:p=(s.heap.objs.size,{cls:=.type "list",data:=.seq vals.toArray k}):=by simpa using hp
        rw[e]) st1 stop) fun r s2 ⟨hr,I2⟩=>?_
      subst hr;obtain⟨g2,n2,_⟩:=I2.pin (s.heap.objs.size,{cls:=.type "list",data:=.seq vals.toArray k}) (List.mem_append_right _ 1e1);obtain⟨m2,Zb,_⟩:=I2.loc;have hCn:Wa H1 s.heap.objs.size 1e20 G2.objs.size=none:=by
        rw[aD (Ne.symm Yf)];exact I2.free
      exact fin s.heap.objs.size G2.objs.size s2 m2 _ Zb (I.HS hC hCn) (fun h' X4=>Ci I hf I2 hC 1e5 Yf n2 g2 Zu hz2 X4) (hq _ n2)
    · refine thn (T.item 1e14 rfl rfl rfl hc i [(s.heap.objs.size,{cls:=.type "list",data:=.seq vals.toArray k})] s1 _ H1 _ I1' (Xh fr1 fun p hp=>by
        have e:p=(s.heap.objs.size,{cls:=.type "list",data:=.seq vals.toArray k}):=by simpa using hp
        rw[e]) st1 go) fun r s2 ⟨u,hr,h2⟩=>?_
      subst hr;refine thn h2 fun _ s3 ⟨y,H3,I3,r3,y3,Zh,ZC⟩=>?_;have I3':=I3.pinned (Xh ZC fun p hp=>by
        have e:p=(s.heap.objs.size,{cls:=.type "list",data:=.seq vals.toArray k}):=by simpa using hp
        rw[e]) (T.obj _ _ Zh)
      have back:∀ {σ9:St} {H9:Hp} {s9:Shared},Wc 1e14 ([(s.heap.objs.size,{cls:=.type "list",data:=.seq vals.toArray k})]++rQ fp s3.heap) σ9 H9 s9 ->
          tn (i+1) s9.heap/\(∀ b∈fp,H9 b=none)/\s9.heap.get? s.heap.objs.size=some {cls:=.type "list",data:=.seq vals.toArray k}/\H9 s.heap.objs.size=none:=fun {σ9 H9 s9} I9=>by
        refine⟨T.keep _ _ _ Zh fun b hb o e=>(I9.pin (b,o) (List.mem_append_right _ (List.mem_append_right _ (gY hb e)))).1,fun b hb=>?_,?_⟩
        · obtain⟨o,e,d⟩:=T.obj _ _ Zh b hb;exact(I9.pin (b,o) (List.mem_append_right _ (List.mem_append_right _ (gY hb e)))).2.1
        · obtain⟨a1,a2,_⟩:=I9.pin (s.heap.objs.size,{cls:=.type "list",data:=.seq vals.toArray k}) (List.mem_append_right _ (List.mem_append_left _ 1e1));exact⟨a1,a2⟩
      have hN0:(bP X sc cl G2.objs.size N s H fp (X.pn++V9)).N[0]?=some x:=by
        show N[0]?=some x;rw[S.N0];rfl
      have YU:(relabel sc X.env).names.lookup x=some .local:=lookup_relabel_local S.tgt;have hpg:PG 1e14 (.Name x px) (jF 0):=uD (i:=0) S.nd hN0 (.inl YU) (.inr YU);have noX:∀ e s',(bP X sc cl G2.objs.size N s H fp (X.pn++V9)).xe e s'->sI X.prog X.w X.A (compEnvC sc cl G2.objs.size X.env) (RR 1e33 G2.objs.size) e s':=fun e s' z=>(hx e s' z).elim;have YY:=step y H3 y3;refine wpAny_mono (hpg _ s3 _ H3 y u (fun σ' H'=>σ'=some y::aT fr σ/\H'=H3) I3' r3 ⟨rfl,rfl⟩) (fun _ s4 ⟨σ4,H4,I4,e4,e4'⟩=>?_) noX;subst e4 e4';obtain⟨hbT,hbE⟩:=hb G2.objs.size s H fp (X.pn++V9);refine wpAny_mono (hbT _ s4 _ H4 _ I4 YY) (fun ok s5 ⟨H5,I5,q5⟩=>?_) noX;cases ok with
      | false =>
        rw[if_neg Bool.false_ne_true];have q5':∃ m',m' < n/\W (i+1) m' xs H5:=q5;obtain⟨m',hm,w5⟩:=q5';obtain⟨b1,b2,b3,b4⟩:=back I5;exact⟨m',hm,i+1,xs,vals,k,some y,H5,I5.jK (fun p hp=>absurd hp 1e1),b1,b2,b3,Zu,b4,w5⟩
      | true =>
        rw[if_pos rfl];refine wpAny_mono (hbE _ s5 _ H5 _ I5 q5) (fun z s6 ⟨v6,H6,I6,r6,q6⟩=>?_) noX;obtain⟨m',hm,w6⟩:=q6;obtain⟨b1,b2,b3,b4⟩:=back I6;refine call_meets F.slot_list_append ⟨_,b3,rfl⟩ F.entry_list_append (F.args_list_append_2 _ _) (PySem.list_append s.heap.objs.size vals.toArray k z (by rw[List.size_toArray];omega)) ⟨b3,?_⟩;have q7:=PySem.IsL.update b3 (fun a:Array Value=>a.push z);have YX:vals.toArray.push z=(vals++[z]).toArray:=by simp
        rw[YX] at q7;have I6':Wc 1e14 [] 1e28 H6 s6:=I6.jK (fun p hp=>absurd hp 1e1);have others:∀ b o,b≠s.heap.objs.size->s6.heap.get? b=some o->(s6.heap.update s.heap.objs.size (Obj.mapSeq fun a=>a.push z)).get? b=some o:=fun b o WD e=>(Heap.get?_update_other _ _ (Ne.symm WD)).trans e;refine⟨m',hm,i+1,xs++[v6],vals++[z],_,some y,H6,I6'.turned (it:=s.heap.objs.size) others b4 Yf (.inr 1e5) Yz (fun p hp z'=>?_),T.keep _ _ _ b1 fun b WD o e=>others b o (fun z'=>Dfp (by rw[<- z'];exact WD)) e,b2,q7,Zu.append (.cons r6 .nil),b4,w6⟩;have hp':p∈X.pn++V9:=by
          have z2:p∈(X.pn++V9)++[]:=hp;simpa using z2
        exact Z1 p hp' z'
  exact codeAny_compStart_list (loop _ rfl) (T.self _ _ _ _ _ (T.keep _ _ _ st fun b _ o e=>old b o e) (loop _ rfl))
def nF(hc:X.calm=true)(hx:∀ e s,¬ X.xe e s)(S:eQ X sc cl x fr N)(hi:PI X (.Name x px) iter wi)(hb:∀ C s H ex pn,Zx 1e58 ifs tc/\PE 1e58 elt te)(hs:∀ v,foldedSetIterable iter X.env v=pure v:=by intro _;rfl):PE X (.ListComp elt [⟨.Name x px,iter,ifs,0⟩] sc pos) (kM wi fr tc te):=by
 intro V9 s σ H Q I h;unfold kM at h;rw[eval_ListComp];refine wpAny_comprehension_free (use:=none) rfl hs S.Ce S.kind S.names ?_;refine thn (hi V9 s σ H _ I h) fun v s1 h1=>thn h1 fun itv s2 h2=>?_;obtain⟨it,fp,tn,J,H2,e,I2,T,XX,f2,W,⟨m0,w0⟩,turn⟩:=h2;subst e;refine uZ (RR:=fun acc C=>compPost 1e2 X.A X.xe none 1e43 acc C) hc hx S hb I2 T XX f2 w0 turn ?_;intro D C s' m' H' hn _ YT q;exact⟨m',hn,fun h' X4=>⟨.ref D,H',YT h' X4,rfl,q⟩⟩
end
section
def RF:Mh X (fun x lo hi H Q=>∃ z,x=.str z/\z.length<=sizeLine/\Q (.str (Txt.slice z lo hi)) H):=by
 intro V9 s σ H x v vl vu lo hi sl Q I rx hs pl pu h;obtain⟨z,rfl,hz,q⟩:=h;obtain⟨t,rfl⟩:=rx;have fin:∀ t' k,EP X V9 σ Q (.str (Txt.slice z lo hi) t') {s with toks:=k}:=fun t' k=>⟨.str _,H,I.tok _,⟨_,rfl⟩,q⟩;refine⟨"str",_,F.slot_str_getitem.lookup,typeIs_str s z t,?_⟩;cases pl with
 | none =>
  cases pu with
  | none=>exact wpAny_getItem_str_slice (l:=none) (u:=none) (st:=none) hs rfl (post_val_or_str ⟨Nat.le_trans (Txt.slice_le z _ _) hz,fin⟩)
  | int j uj=>exact wpAny_getItem_str_slice (l:=none) (u:=some (j,uj)) (st:=none) hs rfl (post_val_or_str ⟨Nat.le_trans (Txt.slice_le z _ _) hz,fin⟩)
 | int i ui =>
  cases pu with
  | none=>exact wpAny_getItem_str_slice (l:=some (i,ui)) (u:=none) (st:=none) hs rfl (post_val_or_str ⟨Nat.le_trans (Txt.slice_le z _ _) hz,fin⟩)
  | int j uj=>exact wpAny_getItem_str_slice (l:=some (i,ui)) (u:=some (j,uj)) (st:=none) hs rfl (post_val_or_str ⟨Nat.le_trans (Txt.slice_le z _ _) hz,fin⟩)
end
section
variable{tg:Expr}
end
def cW(n:Nat)(Pv:Nat->List V->Hp->Prop)(i m:Nat)(xs:List V)(H:Hp):Prop:=m=n - i/\i<=n/\Pv i xs H
theorem cW.next(hi:i < n)(p:Pv (i+1) xs H):∃ m',m' < n - i/\cW n Pv (i+1) m' xs H:=⟨n - (i+1),by omega,rfl,hi,p⟩
section
variable{tc:TT}{te:TE}{Q:VK}
theorem Hw(Pv:Nat->List V->Hp->Prop)(h0:Pv 0 [] H)(hz:∀ i xs H,Pv i xs H->xs.length<=1000000)(hl:∀ i xs H,Pv i xs H->e9 K H a ys)(hs:∀ i y xs H,i < ys.length->ys[i]?=some y->Pv i xs H->tc 1e28 H fun b H2=>if b=true then te 1e28 H2 (fun z H3=>∃ m',m' < ys.length - i/\cW ys.length Pv (i+1) m' (xs++[z]) H3) else ∃ m',m' < ys.length - i/\cW ys.length Pv (i+1) m' xs H2)(hd:∀ xs H,Pv ys.length xs H->∀ p,H p=none->Q 1e21 (Wa H p 1e20)) : ∃ W:Nat->Nat->List V->Hp->Prop,(∃ m,W 0 m [] H)/\∀ i m xs H,W i m xs H->xs.length<=1000000 /\ (((Yb K a).stop i H/\∀ p,H p=none->Q 1e21 (Wa H p 1e20)) \/ ((Yb K a).go i H/\∀ y H',(Yb K a).X9 i H y H'->tc 1e28 H' fun b H2=>if b=true then te 1e28 H2 (fun z H3=>∃ m',m' < m/\W (i+1) m' (xs++[z]) H3) else ∃ m',m' < m/\W (i+1) m' xs H2)):=by
 refine⟨cW ys.length Pv,⟨ys.length,by simp,Nat.zero_le _,h0⟩,?_⟩;rintro i m xs H ⟨rfl,hi,p⟩;refine⟨hz i xs H p,?_⟩;have q:=hl i xs H p;by_cases WG:i < ys.length
 ·refine .inr ⟨⟨ys,ys[i],q,by simp[WG]⟩,fun y H' yy=>?_⟩;obtain⟨e,yy⟩:=yy;subst e;exact hs i y xs _ WG (yy ys q) p
 ·have e:i=ys.length:=by omega
  subst e;exact .inl ⟨⟨ys,q,Nat.le_refl _⟩,hd xs H p⟩
theorem Ec{lo:Int}(Pv:Nat->List V->Hp->Prop)(h0:Pv 0 [] H)(hz:∀ i xs H,Pv i xs H->xs.length<=1000000)(hs:∀ i xs H,i < n->Pv i xs H->tc (some (.int (lo+i))::aT fr σ) H fun b H2=>if b=true then te (some (.int (lo+i))::aT fr σ) H2 (fun z H3=>∃ m',m' < n - i/\cW n Pv (i+1) m' (xs++[z]) H3) else ∃ m',m' < n - i/\cW n Pv (i+1) m' xs H2)(hd:∀ xs H,Pv n xs H->∀ p,H p=none->Q 1e21 (Wa H p 1e20)) : ∃ W:Nat->Nat->List V->Hp->Prop,(∃ m,W 0 m [] H)/\∀ i m xs H,W i m xs H->xs.length<=1000000 /\ (((Yr lo n).stop i H/\∀ p,H p=none->Q 1e21 (Wa H p 1e20)) \/ ((Yr lo n).go i H/\∀ y H',(Yr lo n).X9 i H y H'->tc 1e28 H' fun b H2=>if b=true then te 1e28 H2 (fun z H3=>∃ m',m' < m/\W (i+1) m' (xs++[z]) H3) else ∃ m',m' < m/\W (i+1) m' xs H2)):=by
 refine⟨cW n Pv,⟨n,by simp,Nat.zero_le _,h0⟩,?_⟩;rintro i m xs H ⟨rfl,hi,p⟩;refine⟨hz i xs H p,?_⟩;by_cases WG:i < n
 ·refine .inr ⟨WG,fun y H' yy=>?_⟩;obtain⟨e,rfl⟩:=yy;subst e;exact hs i xs _ WG p
 ·have e:i=n:=by omega
  subst e;exact .inl ⟨Nat.le_refl _,hd xs H p⟩
end
section
variable{tc:TT}{te:TE}{H1:Hp}{Q:VK}
end
def wV{l:List (Str×NameKind)}{k:NameKind}(h:l.lookup y=some k):(y,k)∈l:=PySem.mem_of_lookup h
theorem eQ.free{sc:Scope}{N:List Str}(kind:sc.kind=.function)(nc:(sc.names.all fun y=>y.2 !=.cell)=true)(nm:(sc.names.all fun y=>!(y.2==.local)||sc.names.lookup y.1==some .local)=true)(tgt:sc.names.lookup x=some .local)(Ce:closureFor sc X.env=pure cl)(sub:∀ y c,cl.lookup y=some c->X.env.cells.lookup y=some c)(has:((relabel sc X.env).names.all fun y=>(y.2 !=.cell&&y.2 !=.free)||(cl.lookup y.1).isSome)=true)(nd:N.Nodup)(N0:N=x::fr.map fun j=>X.N.getD j x)(YJ:∀ j∈fr,∃ y,X.N[j]?=some y/\X.env.kindOf y=some .cell/\((relabel sc X.env).names.lookup y=some .cell\/(relabel sc X.env).names.lookup y=some .free)):eQ X sc cl x fr N where
 kind:=kind
 wY:=fun y hy e=>by
  have h:=List.all_eq_true.mp nc y hy;rw[e] at h;exact absurd h 1e6
 names:=fun y hy e=>by
  have h:=List.all_eq_true.mp nm y hy;rw[e] at h;simpa using h
 Ce:=Ce
 sub:=sub
 has:=fun y h=>by
  have key:∀ k,(relabel sc X.env).names.lookup y=some k->(k=.cell\/k=.free)->∃ c,cl.lookup y=some c:=fun k e hk=>by
   have h:=List.all_eq_true.mp has (y,k) (wV e);rcases hk with rfl|rfl
   ·exact Option.isSome_iff_exists.mp 1e37
   ·exact Option.isSome_iff_exists.mp 1e37
  rcases h with h|h
  ·exact key _ h 1e23
  ·exact key _ h (.inr rfl)
 tgt:=tgt
 nd:=nd
 N0:=N0
 YJ:=YJ
section
variable{sc:Scope}{N:List Str}{elt iter:Expr}{px:Pos}{ifs:List Expr}{wi:TI}{tc:TT}{te:TE}
theorem xP{py Y3:Pos}(hc:X.calm=true)(hx:∀ e s,¬ X.xe e s)(S:eQ X sc cl x fr N)(hi:PI X (.Name x px) iter wi)(hb:∀ C s H ex pn,Zx 1e58 ifs tc/\PE 1e58 elt te)(hN:X.N.Nodup)(hy:X.N[i]?=some y)(hl:Loc X.env.scope y)(hsw:swapsWith (.ListComp elt [⟨.Name x px,iter,ifs,0⟩] sc pos) (some (.Name y py)) Y3.line X.env=pure true:=by rfl)(hs:∀ v,foldedSetIterable iter X.env v=pure v:=by intro _;rfl)(hf:X.fn y=true\/X.env.scope.names.lookup y=some .local:=by first|exact .inl rfl|exact .inr rfl|assumption) : PS X (.Assign [.Name y py] (.ListComp elt [⟨.Name x px,iter,ifs,0⟩] sc pos) Y3) (IS (kM wi fr tc te) (jF i)):=by
 intro V9 s σ H D I h;have h:kM wi fr tc te σ H (fun x H1=>jF i x σ H1 D.nx):=h;unfold kM at h;rw[exec_Assign_Name_used _ _ _ _ hsw];refine wpAny_bind (wpAny_standAt (wpAny_bind ?_));show wpAny _ X.A (do let _ <- comprehension (.ListComp elt [⟨.Name x px,iter,ifs,0⟩] sc pos) sc X.env _ (newList []) false (eval iter X.env) (some (assign (.Name y py) X.env))) _ _ s;refine wpAny_bind (wpAny_mono (wpAny_comprehension_free (use:=some (assign (.Name y py) X.env)) (Q:=fun _ s'=>SP X V9 D .next s') rfl hs S.Ce S.kind S.names
  (thn (hi V9 s σ H _ I h) fun v s1 h1=>thn h1 fun itv s2 h2=>?_)) (fun _ s' hq=>wpAny_pure (wpAny_pure hq)) fun _ _ e=>e)
 obtain⟨it,fp,tn,J,H2,e,I2,T,XX,f2,W,⟨m0,w0⟩,turn⟩:=h2;subst e;refine uZ (Q:=fun x H1=>jF i x σ H1 D.nx) (RR:=fun acc C=>compPost 1e2 X.A X.xe (some (assign (.Name y py) X.env)) (fun _ s'=>SP X V9 D .next s') acc C) hc hx S hb I2 T XX f2 w0 turn ?_;intro D' C s' m' H' hn fC YT q;show wpAny _ X.A (assign (.Name y py) X.env (.ref D')) _ _ _;have I':Wc X V9 σ H' s':=YT s'.heap (Heap.SameBut.refl ..);refine wpAny_assign_Name (rW (v:=.ref D') I' hN hy hl rfl (fun s'' I'' ⟨a,hsa,ha⟩=>?_) hf);obtain⟨f0,f1,f2',f3,f4,f5⟩:=fC;have hCa:C≠a:=fun z=>by
  rcases ha with ha|ha
  ·exact f1 (z.trans ha)
  ·exact f4 y a ha z.symm
 refine⟨m',hn.sameBut hsa hCa,fun h' X4=>?_⟩;exact⟨σ.set i (some (.ref D')),H',I''.turned (t':=s''.toks) (fun b o WD e=>(X4.2 b WD).trans e) f0 f1 f3 f4 f5,q⟩
end
section
variable{prog:Program}
end
section
variable{Q:VK}{i j:Int}{v:V}
def Ph:o7 0 (some v::σ) H Q=Q v H:=by simp[o7]
def Fi{o:Option V}:o7 (n+1) (o::σ) H Q=o7 n σ H Q:=by simp[o7]
def UQ:o7 1 (o0::some v::σ) H Q=Q v H:=(Fi.trans Ph)
def UR{o1:Option V}:o7 2 (o0::o1::some v::σ) H Q=Q v H:=(Fi.trans UQ)
def US{o1 o2:Option V}:o7 3 (o0::o1::o2::some v::σ) H Q=Q v H:=(Fi.trans UR)
def UT{o1 o2 o3:Option V}:o7 4 (o0::o1::o2::o3::some v::σ) H Q=Q v H:=(Fi.trans US)
def UU{o1 o2 o3 o4:Option V}:o7 5 (o0::o1::o2::o3::o4::some v::σ) H Q=Q v H:=(Fi.trans UT)
def Ew{α β:Type}{f:α->β}{a:α}{l:List α}:List.map f (a::l)=f a::List.map f l:=rfl
def KI{α β:Type}{f:α->β}:List.map f []=[]:=rfl
def VR{C:Int->Int->Prop}:rI C g (.int i) (.int j) H Q=(C i j/\Q (g i j) H):=by simp[rI]
def UO:Ob g (.int i) (.int j) H Q=Q (g i j) H:=by simp[Ob]
def VS{g:Int->V}:rU g (.int i) H Q=Q (g i) H:=by simp[rU]
def w_lit(h:Nat.ble n 1000=true):(n<=sizeLine)=True:=eq_true (Nat.le_of_lt (small1000 (Nat.le_of_ble_eq_true h)))
theorem UJ:I8 (.int i) (.int j) H Q=Q (.bl (decide (i=j))) H:=by simp only[I8,show WV (.int i) (.int j)=true from rfl,V.int.injEq,true_and]
theorem UK:I8 (.str x) (.str y) H Q=Q (.bl (decide (x=y))) H:=by simp only[I8,show WV (.str x) (.str y)=true from rfl,V.str.injEq,true_and]
theorem UL:Rx (.int i) (.int j) H Q=Q (.bl (!decide (i=j))) H:=by simp only[Rx,show WV (.int i) (.int j)=true from rfl,V.int.injEq,true_and]
theorem UM:Rx (.str x) (.str y) H Q=Q (.bl (!decide (x=y))) H:=by simp only[Rx,show WV (.str x) (.str y)=true from rfl,V.str.injEq,true_and]
end
def cH{a b:String}:(Str.ofString a=Str.ofString b)=(a=b):=by
 refine propext ⟨fun h=>?_,fun h=>by rw[h]⟩;rw[Str.ofString_eq_toList,Str.ofString_eq_toList] at h;have e:(a.toList.map Char.toNat)=(b.toList.map Char.toNat):=by
  have:=congrArg (fun z:Str=>z.cps.toList) h;simpa using this
 have inj:∀ x y:Char,x.toNat=y.toNat->x=y:=fun x y q=>Char.ext (UInt32.toNat_inj.mp q);have:=(List.map_inj_right (f:=Char.toNat) (fun x y q=>inj x y q)).mp e;exact String.toList_inj.mp this
def Kp(S:List Addr)(H H':Hp):Prop:=∀ b o,H b=some o->b∉S->H' b=some o
section
variable{S T:List Addr}{H1 H2:Hp}{p:Addr}{o:HO}
def Kp.refl:Kp S H H:=fun _ _ h _=>h
def Kp.trans(x:Kp S H H1)(y:Kp S H1 H2):Kp S H H2:=fun b o h n=>y b o (x b o h n) n
def Kp.mono(x:Kp S H H1)(h:∀ b∈S,b∈T):Kp T H H1:=fun b o e n=>x b o e fun z=>n (h b z)
def Kp.new(h:H p=none):Kp S H (Wa H p o):=fun b u e _=>by rw[aD (aF e h)];exact e
def q0D(h:H p=none):Kp [] H (Wa H p o):=Kp.new h
def Kp.set(h:p∈S):Kp S H (Wa H p o):=fun b u e n=>by rw[aD (show b≠p from fun z=>n (by rw[z];exact h))];exact e
theorem Kp.at(x:Kp S H H1)(e:H a=some o)(n:a∉S:=by first|exact List.not_mem_nil|simp_all):H1 a=some o:=x a o e n
def Kp.same(x:Kp [] H H1):Same H H1:=fun b o e=>x b o e 1e1
def Kp.drop(x:Kp (p::S) H H1)(h:H p=none):Kp S H H1:=fun b o e n=>x b o e (by
 simp only[List.mem_cons,not_or];exact⟨aF e h,n⟩)
end
abbrev Tg{α:Type}(_:α):Type:=Unit
noncomputable def fD{α:Type}(o:Option α)(k:α->Prop)(_u:Tg k:=()):Prop:=match o with
 | some x=>k x
 | none=>False
noncomputable def Ld(x:V)(k:Bool->Prop)(_u:Tg k:=()):Prop:=match x with
 | .bl b=>k b
 | _=>False
noncomputable def dX(o:Option HO)(k:List V->Prop)(_u:Tg k:=()):Prop:=match o with
 | some 1e20=>k xs
 | _=>False
noncomputable def n9(o:Option HO)(k:List V->Prop)(_u:Tg k:=()):Prop:=match o with
 | some 1e20=>k xs
 | some 1e54=>k xs
 | _=>False
noncomputable def dA(o:Option HO)(k:List 1e35->Prop)(_u:Tg k:=()):Prop:=match o with
 | some (.dK xs)=>k xs
 | _=>False
noncomputable def bF(x:V)(k:Addr->Prop)(_u:Tg k:=()):Prop:=match x with
 | .ref p=>k p
 | _=>False
noncomputable def gE(x:V)(k:Int->Prop)(_u:Tg k:=()):Prop:=match x with
 | .int i=>k i
 | _=>False
def cF{α:Type}{o:Option α}{k:α->Prop}(h:fD o k):∃ x,o=some x/\k x:=by
 cases o with
 | none=>exact h.elim
 | some x=>exact⟨x,rfl,h⟩
def Rh{x:V}{k:Bool->Prop}(h:Ld x k):∃ b,x=.bl b/\k b:=by
 cases x with
 | bl b=>exact⟨b,rfl,h⟩
 | _=>exact h.elim
def xE{x:V}{k:Bool->Prop}:(∃ b,x=.bl b/\k b)=Ld x k:=by
 refine propext ⟨fun⟨b,e,h⟩=>by subst e;exact h,Rh⟩
def aQ{x:V}{k:Addr->Prop}(h:bF x k):∃ b,x=.ref b/\k b:=by
 cases x with
 | ref b=>exact⟨b,rfl,h⟩
 | _=>exact h.elim
def dR{x:V}{k:Int->Prop}(h:gE x k):∃ b,x=.int b/\k b:=by
 cases x with
 | int b=>exact⟨b,rfl,h⟩
 | _=>exact h.elim
def eV(h:dX o k):∃ xs,o=some 1e20/\k xs:=by
 unfold dX at h;split at h
 ·exact⟨_,rfl,h⟩
 ·exact h.elim
def pW(h:n9 o k):∃ xs,(o=some 1e20\/o=some 1e54)/\k xs:=by
 unfold n9 at h;split at h
 ·exact⟨_,.inl rfl,h⟩
 ·exact⟨_,.inr rfl,h⟩
 ·exact h.elim
def dJ{k:List 1e35->Prop}(h:dA o k):∃ xs,o=some (.dK xs)/\k xs:=by
 unfold dA at h;split at h
 ·exact⟨_,rfl,h⟩
 ·exact h.elim
noncomputable def Vc:R2:=fun x y H Q=>match x with
 | .ref p=>n9 (H p) fun xs=>gE y fun i=>fD (fI xs i) fun v=>Q v H
 | .str z=>gE y fun i=>z.length<=sizeLine/\fD (fI z.cps.toList i) fun c=>Q (.str ⟨#[c]⟩) H
 | _=>False
noncomputable def Mt(H:Hp)(Q:VK)(a:Addr)(oa ob:Option HO):Prop:=match oa,ob with
 | some 1e20,some (.lst ys)=>xs.length+ys.length<=sizeLine/\∀ p,H p=none->Q 1e21 (Wa H p (.lst (xs++ys)))
 | some 1e54,some (.tup ys)=>xs≠[]/\xs.length+ys.length<=sizeLine/\(ys≠[]->∀ p,H p=none->Q 1e21 (Wa H p (.tup (xs++ys))))/\(ys=[]->Q 1e11 H)
 | _,_=>False
noncomputable def Jn:R2:=fun x y H Q=>match x,y with
 | .int i,.int j=>Q (.int (i+j)) H
 | .str a,.str b=>a.length+b.length<=sizeLine/\Q (.str (a++b)) H
 | .ref a,.ref b=>Mt H Q a (H a) (H b)
 | _,_=>False
noncomputable def Jp(lo hi:Option Int)(H:Hp)(Q:VK)(o:Option HO):Prop:=match o with
 | some 1e20=>∀ p,H p=none->Q 1e21 (Wa H p (.lst (qO xs lo hi)))
 | some 1e54=>¬ (HT.g8 xs.length 0 lo=0/\HT.g8 xs.length xs.length hi=xs.length)/\∀ p,H p=none->Q 1e21 (Wa H p (.tup (qO xs lo hi)))
 | _=>False
noncomputable def UY:V->Option Int->Option Int->Hp->VK->Prop:=fun x lo hi H Q=>match x with
 | .str z=>z.length<=sizeLine/\Q (.str (Txt.slice z lo hi)) H
 | .ref a=>Jp lo hi H Q (H a)
 | _=>False
noncomputable def Mw:List V->Hp->VK->Prop:=fun vs H Q=>match vs with
 | [.str z]=>z.length<=sizeLine/\Q (.int z.length) H
 | [.ref p]=>n9 (H p) fun xs=>Q (.int xs.length) H
 | _=>False
noncomputable def Sd:V->V->V->Hp->(Hp->Prop)->Prop:=fun o i v H Q=>bF o fun p=>gE i fun k=>dX (H p) fun xs=>fD (zG xs.length k) fun j=>Q (Wa H p (.lst (xs.set j v)))
noncomputable def jC:V->Option Key
 | .int i=>some (.inl i)
 | .str x=>some (.inr x)
 | .Wb=>some .no
 | _=>none
def Bo{y:V}{k:Key}(h:jC y=some k):y=kV k:=by
 cases y<;>simp only[jC,Option.some.injEq,reduceCtorEq] at h<;>subst h<;>rfl
noncomputable def OE(td ty:TE):TE:=fun σ H Q=>td σ H fun x H1=>bF x fun a=>dA (H1 a) fun _=>ty σ H1 fun y H2=>dA (H2 a) fun kvs=>fD (jC y) fun k=>Q ((aX kvs k).getD .Wb) H2
noncomputable def Px(td ty:TE):TE:=fun σ H Q=>td σ H fun x H1=>ty σ H1 fun y H2=>bF x fun a=>dA (H2 a) fun kvs=>fD (jC y) fun k=>fD (aX kvs k) fun v=>Q v H2
noncomputable def PD(td ty tv:TE):TS:=fun D σ H=>tv σ H fun v H1=>td σ H1 fun x H2=>ty σ H2 fun y H3=>bF x fun a=>dA (H3 a) fun kvs=>fD (jC y) fun k=>kvs.length < sizeLine/\D.nx σ (Wa H3 a (.dK (aO kvs k v)))
noncomputable def Vb(neg:Bool):R2:=fun x y H Q=>bF y fun p=>n9 (H p) fun xs=>eL x=true/\xs.all eL=true/\Q (.bl (if neg=true then !wF x xs else wF x xs)) H
noncomputable def Mv:List V->Hp->VK->Prop:=fun vs H Q=>match vs with
 | [.int i]=>Q (.int i) H
 | [.bl k]=>Q (.int (if k=true then 1 else 0)) H
 | _=>False
noncomputable def Py:R2:=fun x y H Q=>match y with
 | .Wb=>Q (.bl (decide (x=.Wb))) H
 | _=>False
noncomputable def OI:R2:=fun x y H Q=>match y with
 | .Wb=>Q (.bl (!decide (x=.Wb))) H
 | _=>False
noncomputable def Pz:List V->Hp->VK->Prop:=fun vs H Q=>match vs with
 | [.int i,.int j]=>Q (.int (if j > i then j else i)) H
 | _=>False
noncomputable def PB:List V->Hp->VK->Prop:=fun vs H Q=>match vs with
 | [.int i,.int j]=>Q (.int (if j < i then j else i)) H
 | _=>False
noncomputable def Nt(v:V)(T:String):Option Bool:=match v with
 | .int _=>if T = "int" then some true else if T = "bool"\/T = "str"\/T = "tuple" then some false else none
 | .bl _=>if T = "int"\/T = "bool" then some true else if T = "str"\/T = "tuple" then some false else none
 | .str _=>if T = "str" then some true else if T = "int"\/T = "bool"\/T = "tuple" then some false else none
 | .Wb=>if T = "int"\/T = "bool"\/T = "str"\/T = "tuple" then some false else none
 | _=>none
noncomputable def oT(o:Option HO)(T:String):Option Bool:=match o with
 | some (.lst _)=>if T = "int"\/T = "bool"\/T = "str"\/T = "tuple" then some false else none
 | some (.tup _)=>if T = "tuple" then some true else if T = "int"\/T = "bool"\/T = "str" then some false else none
 | some (.dK _)=>if T = "int"\/T = "bool"\/T = "str" then some false else none
 | _=>none
noncomputable def lT:List V->Hp->VK->Prop:=fun vs H Q=>match vs with
 | [.ref p,.ty T]=>fD (oT (H p) T) fun b=>Q (.bl b) H
 | [v,.ty T]=>fD (Nt v T) fun b=>Q (.bl b) H
 | _=>False
def Q4{v:V}(h:Nt v T=some b):o9 K H v T b:=by
 unfold Nt at h;split at h
 all_goals (repeat' split at h)
 all_goals first
  | cases h
  | skip
 all_goals first
  | (subst_vars;constructor)
  | (rename_i q;rcases q with rfl|rfl<;>constructor)
  | (rename_i q _;rcases q with rfl|rfl<;>constructor)
  | (rename_i q;rcases q with rfl|rfl|rfl<;>constructor)
  | (rename_i q;rcases q with rfl|rfl|rfl|rfl<;>constructor)
def Nr{p:Addr}(h:oT (H p) T=some b):o9 K H 1e21 T b:=by
 unfold oT at h;split at h
 ·rename_i xs e
  have q:e9 K H p xs:=.inl (.inl e);split at h
  ·cases h
   rename_i z
   rcases z with rfl|rfl|rfl|rfl
   ·exact .li q
   ·exact .lb q
   ·exact .ls q
   ·exact .lt q
  ·cases h
 ·rename_i xs e
  have q:g9 K H p xs:=.inl (.inl e);split at h
  ·cases h
   subst_vars
   exact .tt q
  ·split at h
   ·cases h
    rename_i z
    rcases z with rfl|rfl|rfl
    ·exact .ti q
    ·exact .tb q
    ·exact .ts q
   ·cases h
 ·rename_i kvs e
  split at h
  ·cases h
   rename_i z
   rcases z with rfl|rfl|rfl
   ·exact .di e
   ·exact .db e
   ·exact .ds e
  ·cases h
 ·cases h
noncomputable def RW(to te:TE):TE:=fun σ H Q=>to σ H fun x H1=>bF x fun a=>dX (H1 a) fun _=>te σ H1 fun y H2=>dX (H2 a) fun xs=>xs.length < sizeLine/\Q .Wb (Wa H2 a (.lst (xs++[y])))
noncomputable def Sa(to:TE):TE:=fun σ H Q=>to σ H fun x H1=>bF x fun a=>dX (H1 a) fun xs=>fD (xs[xs.length - 1]?) fun y=>Q y (Wa H1 a (.lst xs.dropLast))
section
def Fl.imp{r r':R2}(h:Fl X r)(f:∀ x y H Q,r' x y H Q->r x y H Q):Fl X r':=fun value slice V9 s σ H x y v u Q I rx ry q=>h value slice V9 s σ H x y v u Q I rx ry (f _ _ _ _ q)
def jD.imp{f:Value->Value->Sem Value}{r r':R2}(h:jD X f r)(g:∀ x y H Q,r' x y H Q->r x y H Q):jD X f r':=fun V9 s σ H x y v u Q I rx ry q=>h V9 s σ H x y v u Q I rx ry (g _ _ _ _ q)
def aK:Fl X Vc:=Q1.imp fun x y H Q h=>by
 cases x with
 | ref p =>
  obtain⟨xs,e,h⟩:=pW h;obtain⟨i,rfl,h⟩:=dR h;obtain⟨v,e2,h⟩:=cF h;rcases e with e|e
  ·exact .inl ⟨_,_,_,_,rfl,rfl,.inl (.inl e),e2,h⟩
  ·exact .inr (.inl ⟨_,_,_,_,rfl,rfl,.inl (.inl e),e2,h⟩)
 | str z =>
  obtain⟨i,rfl,h1,h⟩:=dR h;obtain⟨v,e2,h⟩:=cF h;exact .inr (.inr ⟨_,_,_,rfl,rfl,h1,e2,h⟩)
 | _=>exact h.elim
def cG:jD X (binaryOp .Add) Jn:=(Rj.or (EO.or (Rk.or Gn))).imp fun x y H Q h=>by
 unfold Jn Mt at h;split at h
 ·exact .inl ⟨_,_,rfl,rfl,h⟩
 ·exact .inr (.inl ⟨_,_,rfl,rfl,h.1,h.2⟩)
 ·split at h
  ·exact .inr (.inr (.inl ⟨_,_,_,_,rfl,rfl,‹_›,‹_›,h.1,h.2⟩))
  ·exact .inr (.inr (.inr ⟨_,_,_,_,rfl,rfl,.inl (.inl ‹_›),.inl (.inl ‹_›),h.1,h.2.1,h.2.2.2,h.2.2.1⟩))
  ·exact h.elim
 ·exact h.elim
def VO:Mh X UY:=fun V9 s σ H x v vl vu lo hi sl Q I rx hs pl pu h=>by
 refine(Oh.or (RH.or RF)) V9 s σ H x v vl vu lo hi sl Q I rx hs pl pu ?_;unfold UY Jp at h;split at h
 ·exact .inr (.inr ⟨_,rfl,h.1,h.2⟩)
 ·split at h
  ·exact .inl ⟨_,_,rfl,.inl (.inl ‹_›),h⟩
  ·exact .inr (.inl ⟨_,_,rfl,.inl (.inl ‹_›),h.1,h.2⟩)
  ·exact h.elim
 ·exact h.elim
def b9:fF X (.builtin "len") Mw:=fun V9 s σ H xs us Q I r h=>by
 unfold Mw at h;split at h
 ·exact uV V9 s σ H _ us Q I r ⟨_,_,rfl,⟨h.1,rfl⟩,h.2⟩
 ·obtain⟨ys,e,h⟩:=pW h;rcases e with e|e
  ·exact uV V9 s σ H _ us Q I r ⟨_,_,rfl,.inl ⟨_,.inl (.inl e),rfl⟩,h⟩
  ·exact uV V9 s σ H _ us Q I r ⟨_,_,rfl,.inr ⟨_,.inl (.inl e),rfl⟩,h⟩
 ·exact h.elim
def yA:PSet X Sd:=fun V9 s σ H o i v ov iv u Q I ro ri rv h=>by
 obtain⟨p,rfl,h⟩:=aQ h;obtain⟨k,rfl,h⟩:=dR h;obtain⟨xs,e,h⟩:=eV h;obtain⟨j,e2,h⟩:=cF h;exact LF V9 s σ H _ _ v ov iv u Q I ro ri rv ⟨_,_,_,_,rfl,rfl,e,e2,h⟩
def jS:jD X (compareOp .In) (Vb false):=Iy.imp fun x y H Q h=>by
 obtain⟨p,rfl,h⟩:=aQ h;obtain⟨xs,e,h1,h2,h⟩:=pW h;exact⟨_,_,rfl,e.imp (fun e=>.inl (.inl e)) (fun e=>.inl (.inl e)),h1,h2,h⟩
def Iz:jD X (compareOp .NotIn) (Vb true):=BC.imp fun x y H Q h=>by
 obtain⟨p,rfl,h⟩:=aQ h;obtain⟨xs,e,h1,h2,h⟩:=pW h;exact⟨_,_,rfl,e.imp (fun e=>.inl (.inl e)) (fun e=>.inl (.inl e)),h1,h2,h⟩
def gB:fF X (.type "int") Mv:=fun V9 s σ H xs us Q I r h=>by
 refine Hq V9 s σ H xs us Q I r ?_;unfold Mv at h;split at h
 ·exact .inl ⟨_,rfl,h⟩
 ·exact .inr ⟨_,rfl,by
   rename_i k
   cases k<;>exact h⟩
 ·exact h.elim
def mK:jD X (compareOp .Is) Py:=Rm.imp fun x y H Q h=>by
 cases y with
 | Wb=>exact⟨rfl,h⟩
 | _=>exact h.elim
def rM:jD X (compareOp .IsNot) OI:=NF.imp fun x y H Q h=>by
 cases y with
 | Wb=>exact⟨rfl,h⟩
 | _=>exact h.elim
def gW(hc:X.calm=true):fF X (.builtin "max") Pz:=fun V9 s σ H xs us Q I r h=>by
 refine Ht hc V9 s σ H xs us Q I r ?_;unfold Pz at h;split at h
 ·exact⟨_,_,rfl,h⟩
 ·exact h.elim
def mY(hc:X.calm=true):fF X (.builtin "min") PB:=fun V9 s σ H xs us Q I r h=>by
 refine Hu hc V9 s σ H xs us Q I r ?_;unfold PB at h;split at h
 ·exact⟨_,_,rfl,h⟩
 ·exact h.elim
def qN:fF X (.builtin "isinstance") lT:=fun V9 s σ H xs us Q I r h=>by
 refine Jz V9 s σ H xs us Q I r ?_;unfold lT at h;split at h
 ·obtain⟨b,e,h⟩:=cF h;exact⟨_,_,b,rfl,Nr e,h⟩
 ·obtain⟨b,e,h⟩:=cF h;exact⟨_,_,b,rfl,Q4 e,h⟩
 ·exact h.elim
variable{o e:Expr}{to te:TE}{apos Wj:Pos}
theorem dC(ho:PE X o to)(he:PE X e te)(Xc:attributeBase o "append" X.env (eval o X.env)=eval o X.env:=by rfl)(aaE:((backTo Wj (starEach [e] X.env)).all (fun x=>!x.1)&&(backToKw Wj (keywordEach [] X.env)).all (fun x=>x.1.isSome)&&decide ([e].length+([]:List Keyword).length+(if ([]:List Keyword).isEmpty then 0 else 1) < 30))=true:=by rfl)(Xe:(apos.endLine==Wj.line)=true:=by rfl)(hs:starEach [e] X.env=(false,eval e X.env)::starEach [] X.env:=by rfl)(XU:(backTo Wj (starEach [] X.env)).any (·.1)=false:=by rfl) : PE X (.Call (.Attribute o "append" apos) [e] [] Wj) (RW to te):=by
 intro V9 s σ H Q I h;refine wpAny_Call_method_late Xc aaE Xe rfl (thn 1e61 fun v s1 ⟨x,H1,I1,r1,q1⟩=>?_);obtain⟨a,rfl,q1⟩:=aQ q1;obtain⟨xs,e1,q1⟩:=eV q1;obtain⟨h1,h2⟩:=Fh (T:="list") I1 r1 (.inl ⟨rfl,xs,.inl (.inl e1)⟩);refine⟨"list","list.append",PySem.F.plainAttrs_list,PySem.F.slot_list_append,PySem.F.type_list_append,h1,h2,?_⟩;have q2:mU te yM σ H1 (fun vs H2=>vs.length=1/\dX (H2 a) fun xs=>xs.length < sizeLine/\Q .Wb (Wa H2 a (.lst (xs++vs)))):=by
  simpa only[mU,yM,List.length_cons,List.length_nil,Nat.zero_add,true_and] using q1
 have hA:=Gq he bQ hs Wj V9 s1 σ H1 _ I1 q2;rw[hs] at hA ⊢;refine Calls.callWith_builtin (by show(false||(backTo Wj (starEach [] X.env)).any (·.1))=false;rw[XU]<;>rfl) (Calls.evalArgs_plain ?_);refine thn hA fun us s2 ⟨vs,H2,I2,r2,l2,q3⟩=>?_;obtain⟨xs,e3,q4,q5⟩:=eV q3
 match vs,l2,r2,q5 with
 | [y],_,r2,q5=>exact Ij V9 s2 σ H2 _ _ v us Q I2 r1 r2 ⟨_,_,_,rfl,rfl,e3,q4,q5⟩
def uC(ho:PE X o to)(Xc:attributeBase o "pop" X.env (eval o X.env)=eval o X.env:=by rfl)(Xe:(apos.endLine==Wj.line)=true:=by rfl):PE X (.Call (.Attribute o "pop" apos) [] [] Wj) (Sa to):=by
 intro V9 s σ H Q I h;refine wpAny_Call_method0_late Xc Xe (thn 1e61 fun v s1 ⟨x,H1,I1,r1,q1⟩=>?_);obtain⟨a,rfl,q1⟩:=aQ q1;obtain⟨xs,e1,q1⟩:=eV q1;obtain⟨y,e2,q1⟩:=cF q1;obtain⟨h1,h2⟩:=Fh (T:="list") I1 r1 (.inl ⟨rfl,xs,.inl (.inl e1)⟩);exact⟨"list","list.pop",PySem.F.plainAttrs_list,PySem.F.slot_list_pop,PySem.F.type_list_pop,h1,h2,Calls.callWith_builtin rfl (PySem.evalArgs_none (Rb V9 s1 σ H1 _ [] v [] Q I1 r1 .nil ⟨_,_,_,rfl,rfl,e1,e2,q1⟩))⟩
end
section
variable{o i e value:Expr}{pos' apos Wj:Pos}{td ty tv:TE}
def uB(hu:X.A.units+1 < cLine)(ho:PE X o td)(he:PE X e ty)(m:M1 X o "get" apos e Wj):PE X (.Call (.Attribute o "get" apos) [e] [] Wj) (OE td ty):=by
 intro V9 s σ H Q I h;refine wpAny_Call_method m.base m.XA m.line PySem.F.plainAttrs_dict PySem.F.slot_dict_get PySem.F.type_dict_get (thn 1e61 fun u s1 ⟨x,H1,I1,rx,q1⟩=>?_);obtain⟨a,rfl,q1⟩:=aQ q1;obtain⟨kvs,e1,q1⟩:=dJ q1;obtain rfl:u=Value.ref a:=rx;obtain⟨t1,t2,_⟩:=wI I1 (.inl ⟨_,.inl e1⟩);refine⟨t1,t2,?_⟩;rw[m.trees];refine Calls.callWith_builtin rfl (Calls.evalArgs_plain (Calls.spliced_cons (thn (he V9 s1 σ H1 _ I1 q1) fun iv s2 ⟨y,H2,I2,ry,q2⟩=>Calls.spliced_nil ?_)));obtain⟨kvs,e1,q2⟩:=dJ q2;obtain⟨k,e2,q2⟩:=cF q2;have g:DGet H2 a y (aX kvs k):=by rw[Bo e2];exact DGet.k e1
 exact PK hu I2 g ry fun w' s3 I3 Xl=>⟨_,H2,I3,Xl,q2⟩
def Ll(hu:X.A.units+1 < cLine)(ho:PE X o td)(hi:PE X i ty)(hs:Mg i):PE X (.Subscript o i pos) (Px td ty):=by
 intro V9 s σ H Q I h;refine GX PySem.F.slot_dict_getitem.lookup hs (thn 1e61 fun u s1 ⟨x,H1,I1,rx,q1⟩=>thn (hi V9 s1 σ H1 _ I1 q1) fun iv s2 ⟨y,H2,I2,ry,q2⟩=>?_);obtain⟨a,rfl,q2⟩:=aQ q2;obtain⟨kvs,e1,q2⟩:=dJ q2;obtain⟨k,e2,q2⟩:=cF q2;obtain⟨v,e3,q2⟩:=cF q2;obtain rfl:u=Value.ref a:=rx;have g:DGet H2 a y (some v):=by rw[Bo e2,<- e3];exact DGet.k e1
 exact⟨r9 I2 g,HB hu I2 g ry fun w' s3 I3 Xl=>⟨v,H2,I3,Xl,q2⟩⟩
def NT(hu:X.A.units+1 < cLine)(ho:PE X o td)(hi:PE X i ty)(hv:PE X value tv)(hs:swapsWith value (some (.Subscript o i pos')) pos.line X.env=pure false:=by rfl) : PS X (.Assign [.Subscript o i pos'] value pos) (PD td ty tv):=by
 intro V9 s σ H D I h;refine wpAny_Assign_Subscript (thn (hv V9 s σ H _ I h) fun r s1 ⟨v,H1,I1,rv,q1⟩=>thn (ho V9 s1 σ H1 _ I1 q1) fun u s2 ⟨x,H2,I2,rx,q2⟩=>thn (hi V9 s2 σ H2 _ I2 q2) fun iv s3 ⟨y,H3,I3,ry,q3⟩=>?_) hs;obtain⟨a,rfl,q3⟩:=aQ q3;obtain⟨kvs,e1,q3⟩:=dJ q3;obtain⟨k,e2,q3⟩:=cF q3;obtain rfl:u=Value.ref a:=rx;have g:DPut H3 a y v (Wa H3 a (.dK (aO kvs k v))):=by rw[Bo e2];exact DPut.k e1 q3.1
 exact HD hu I3 g ry rv fun s4 I4=>⟨σ,_,I4,q3.2⟩
end
section
variable{Q:VK}{D:Ends}{t u:TS}{te ta tb tc to ti:TE}{tl th:TO}{g:TG}{gs:TGs}{tt tt':TT}{as:TA}{i j:Int}{v w:V}{p:Addr}{r r':R2}{B:Bool->Hp->Prop}
def Te:Fb t u D σ H=t {D with nx:=u D} σ H:=rfl
def Sm:IS te g D σ H=te σ H fun x H1=>g x σ H1 D.nx:=rfl
def QD:jF n v σ H N=N (σ.set n (some v)) H:=rfl
def Td:RM te D σ H=te σ H D.rt:=rfl
def QJ:Pc D σ H=D.rt .Wb H:=rfl
def SE:DD tt t u D σ H=tt σ H fun b H1=>if b=true then t D σ H1 else u D σ H1:=rfl
def J6:DF te σ H B=te σ H fun x H'=>Ld x fun k=>B k H':=by simp only[DF,xE]
def Vy:tB te σ H B=te σ H fun x H'=>Ld x fun k=>B k H':=by simp only[tB,xE]
def Vr:VW tt ta tb σ H Q=tt σ H fun c H1=>if c=true then ta σ H1 Q else tb σ H1 Q:=rfl
def Vv:Oq r ta tb σ H Q=ta σ H fun x H1=>tb σ H1 fun y H2=>r x y H2 Q:=rfl
def Vz{q:V->Hp->VK->Prop}:V0 q ta σ H Q=ta σ H fun x H1=>q x H1 Q:=rfl
def V3:tC v σ H Q=Q v H:=rfl
def P5{A:List V->Hp->Prop}:mU te as σ H A=te σ H fun x H1=>as σ H1 fun xs H2=>A (x::xs) H2:=rfl
def SW{A:List V->Hp->Prop}:yM σ H A=A [] H:=rfl
def JS{sp:Sp}{E:XK}:Ha sp [] E as σ H Q=as σ H fun vs H1=>sp vs H1 Q E:=by simp only[Ha,List.append_nil]
def Vq{q:List V->Hp->VK->Prop}:VP q as σ H Q=as σ H fun vs H1=>q vs H1 Q:=rfl
def SQ:Uw as σ H Q=as σ H fun xs H1=>xs.length<=sizeLine/\∀ p,H1 p=none->Q 1e21 (Wa H1 p 1e20):=rfl
def Tj:UB as σ H Q=as σ H fun xs H1=>xs.length<=sizeLine/\∀ p,H1 p=none->Q 1e21 (Wa H1 p 1e54):=rfl
def Qd:L3 σ H Q = ∀ p,H p=none->Q 1e21 (Wa H p (.dK [])):=rfl
def Qe:L4 te D σ H=te σ H fun _ H1=>D.nx σ H1:=rfl
def QE:Hc D σ H=D.nx σ H:=rfl
def P6:O9 D σ H=D.ct σ H:=rfl
def PY:L0 ta tb σ H Q=ta σ H fun x H1=>Ld x fun c=>if c=true then tb σ H1 Q else Q (.bl false) H1:=by simp only[L0,xE]
def S9:RL ta tb σ H Q=ta σ H fun x H1=>Ld x fun c=>if c=true then Q (.bl true) H1 else tb σ H1 Q:=by simp only[RL,xE]
def QF:L5 ta σ H Q=ta σ H fun x H1=>Ld x fun c=>Q (.bl (!c)) H1:=by simp only[L5,xE]
def Sk:Uu tt tt' σ H B=tt σ H fun c H1=>if c=true then tt' σ H1 B else B false H1:=rfl
def Vw:VY tt tt' σ H B=tt σ H fun c H1=>if c=true then B true H1 else tt' σ H1 B:=rfl
def SX:Ux tt σ H B=tt σ H fun c H1=>B (!c) H1:=rfl
def Vx{q:V->Option Int->Option Int->Hp->VK->Prop}:VZ q te tl th σ H Q=te σ H fun x H1=>tl σ H1 fun l H2=>th σ H2 fun u H3=>q x l u H3 Q:=rfl
def Lf{k:Int->Prop}:(∃ i,v=.int i/\k i)=gE v k:=propext ⟨fun⟨i,e,h⟩=>by subst e;exact h,dR⟩
def QG:L6 te σ H O=te σ H fun x H1=>gE x fun i=>O (some i) H1:=by simp only[L6,Lf]
def J0:Hd σ H O=O none H:=rfl
def Qn{s:TSet}:Tv to ti s v σ H N=to σ H fun o H1=>ti σ H1 fun i H2=>s o i v H2 fun H3=>N σ H3:=rfl
def Qm:Nj [] σ H N=N σ H:=by simp[Nj]
def MS:FV g gs (v::vs) σ H N=g v σ H fun σ' H'=>gs vs σ' H' N:=propext ⟨fun⟨_,_,e,h⟩=>by cases e;exact h,fun h=>⟨_,_,rfl,h⟩⟩
def Qk:OE ta tb σ H Q=ta σ H fun x H1=>bF x fun a=>dA (H1 a) fun _=>tb σ H1 fun y H2=>dA (H2 a) fun kvs=>fD (jC y) fun k=>Q ((aX kvs k).getD .Wb) H2:=rfl
def SD:Px ta tb σ H Q=ta σ H fun x H1=>tb σ H1 fun y H2=>bF x fun a=>dA (H2 a) fun kvs=>fD (jC y) fun k=>fD (aX kvs k) fun v=>Q v H2:=rfl
def Tb:PD ta tb tc D σ H=tc σ H fun v H1=>ta σ H1 fun x H2=>tb σ H2 fun y H3=>bF x fun a=>dA (H3 a) fun kvs=>fD (jC y) fun k=>kvs.length < sizeLine/\D.nx σ (Wa H3 a (.dK (aO kvs k v))):=rfl
def Sl:RW to te σ H Q=to σ H fun x H1=>bF x fun a=>dX (H1 a) fun _=>te σ H1 fun y H2=>dX (H2 a) fun xs=>xs.length < sizeLine/\Q .Wb (Wa H2 a (.lst (xs++[y]))):=rfl
def Ta:Sa to σ H Q=to σ H fun x H1=>bF x fun a=>dX (H1 a) fun xs=>fD (xs[xs.length - 1]?) fun y=>Q y (Wa H1 a (.lst xs.dropLast)):=rfl
def S6{α:Type}{z:α}{k:α->Prop}{u:Tg k}:@fD _ (some z) k u=k z:=rfl
def S5{k:Bool->Prop}{u:Tg k}:@Ld (.bl b) k u=k b:=rfl
def MY{k:Addr->Prop}{u:Tg k}:@bF 1e21 k u=k p:=rfl
def MW{k:Int->Prop}{u:Tg k}:@gE (.int i) k u=k i:=rfl
def MX{u:Tg k}:@dX (some (.lst vs)) k u=k vs:=rfl
def J1{u:Tg k}:@n9 (some (.lst vs)) k u=k vs:=rfl
def J2{u:Tg k}:@n9 (some (.tup vs)) k u=k vs:=rfl
def MV{k:List 1e35->Prop}{u:Tg k}:@dA (some 1e17) k u=k kvs:=rfl
def SG:Vc 1e21 w H Q=n9 (H p) fun xs=>gE w fun i=>fD (fI xs i) fun v=>Q v H:=rfl
def SH:Vc (.str x) w H Q=gE w fun i=>x.length<=sizeLine/\fD (fI x.cps.toList i) fun c=>Q (.str ⟨#[c]⟩) H:=rfl
def PU:Jn (.int i) (.int j) H Q=Q (.int (i+j)) H:=rfl
def PX:Jn (.str x) (.str y) H Q=(x.length+y.length<=sizeLine/\Q (.str (x++y)) H):=rfl
def PV:Jn 1e11 1e21 H Q=Mt H Q a (H a) (H p):=rfl
def P4{us:List V}:Mt H Q a (some (.lst vs)) (some (.lst us))=(vs.length+us.length<=sizeLine/\∀ p,H p=none->Q 1e21 (Wa H p (.lst (vs++us)))):=rfl
def Ti{lo hi:Option Int}:UY (.str x) lo hi H Q=(x.length<=sizeLine/\Q (.str (Txt.slice x lo hi)) H):=rfl
def Th{lo hi:Option Int}:UY 1e11 lo hi H Q=Jp lo hi H Q (H a):=rfl
def P8{lo hi:Option Int}:Jp lo hi H Q (some (.lst vs)) = ∀ p,H p=none->Q 1e21 (Wa H p (.lst (qO vs lo hi))):=rfl
def QB:Mw [.str x] H Q=(x.length<=sizeLine/\Q (.int x.length) H):=rfl
def QA:Mw [.ref p] H Q=n9 (H p) fun xs=>Q (.int xs.length) H:=rfl
def Tf{N:Hp->Prop}:Sd 1e21 (.int i) v H N=dX (H p) fun xs=>fD (zG xs.length i) fun j=>N (Wa H p (.lst (xs.set j v))):=rfl
def Vs{neg:Bool}:Vb neg v 1e21 H Q=n9 (H p) fun xs=>eL v=true/\xs.all eL=true/\Q (.bl (if neg=true then !wF v xs else wF v xs)) H:=rfl
def Qx:jC (.int i)=some (.inl i):=rfl
def Qz:jC (.str x)=some (.inr x):=rfl
def Qy:jC .Wb=some .no:=rfl
theorem FJ{α:Type}{xs:List α}{k:Nat}:fI xs (OfNat.ofNat k)=xs[k]?:=by
 show fI xs ((k:Nat):Int)=xs[k]?;cases e:xs[k]? with
 | some z=>exact c0 e
 | none =>
  have:=List.getElem?_eq_none_iff.mp e;unfold fI zG;rw[if_pos 1e0,if_neg 1e0];rfl
def Sn{α:Type}{xs:List α}:fI xs 0=xs[0]?:=FJ (k:=0)
def So{α:Type}{xs:List α}:fI xs 1=xs[1]?:=FJ (k:=1)
def Sq{α:Type}{xs:List α}:fI xs 2=xs[2]?:=FJ (k:=2)
def Sr{α:Type}{xs:List α}:fI xs 3=xs[3]?:=FJ (k:=3)
theorem MI:CMul 3 j=True:=eq_true (.inl ⟨by decide,by decide⟩)
theorem MN:CPow 10 9=True:=eq_true ⟨by decide,by decide,by decide⟩
theorem JU:CPow 10 12=True:=eq_true ⟨by decide,by decide,by decide⟩
theorem JV:CPow 10 18=True:=eq_true ⟨by decide,by decide,by decide⟩
theorem Qw{m:Nat}:zG (m+1) 0=some 0:=by simp[zG]<;>omega
def Qq:Mv [.int i] H Q=Q (.int i) H:=rfl
def Qp:Mv [.bl b] H Q=Q (.int (if b=true then 1 else 0)) H:=rfl
theorem Vt:Py v .Wb H Q=Q (.bl (decide (v=.Wb))) H:=by cases v<;>rfl
theorem MT:OI v .Wb H Q=Q (.bl (!decide (v=.Wb))) H:=by cases v<;>rfl
def SR:Pz [.int i,.int j] H Q=Q (.int (if j > i then j else i)) H:=rfl
def SS:PB [.int i,.int j] H Q=Q (.int (if j < i then j else i)) H:=rfl
def zC:lT [.ref p,.ty "int"] H Q=fD (oT (H p) "int") fun b=>Q (.bl b) H:=rfl
def vM:lT [(.int i),.ty "bool"] H Q=Q (.bl false) H:=by simp[lT,Nt,fD]
def vP:lT [(.str x),.ty "bool"] H Q=Q (.bl false) H:=by simp[lT,Nt,fD]
def vN:lT [.Wb,.ty "bool"] H Q=Q (.bl false) H:=by simp[lT,Nt,fD]
def vO:lT [.ref p,.ty "bool"] H Q=fD (oT (H p) "bool") fun b=>Q (.bl b) H:=rfl
def zD:lT [.ref p,.ty "str"] H Q=fD (oT (H p) "str") fun b=>Q (.bl b) H:=rfl
def tG:lT [(.int i),.ty "tuple"] H Q=Q (.bl false) H:=by simp[lT,Nt,fD]
def tJ:lT [(.str x),.ty "tuple"] H Q=Q (.bl false) H:=by simp[lT,Nt,fD]
def tH:lT [.Wb,.ty "tuple"] H Q=Q (.bl false) H:=by simp[lT,Nt,fD]
def tI:lT [.ref p,.ty "tuple"] H Q=fD (oT (H p) "tuple") fun b=>Q (.bl b) H:=rfl
def HK:oT (some (.lst vs)) "bool"=some false:=by simp[oT]
def HL:oT (some (.tup vs)) "bool"=some false:=by simp[oT]
def Em:oT (some (.lst vs)) "tuple"=some false:=by simp[oT]
def En:oT (some (.tup vs)) "tuple"=some true:=by simp[oT]
theorem Su{c:Prop}[Decidable c]{P R:Prop}:(if (decide c)=true then P else R)=if c then P else R:=by
 by_cases h:c<;>simp[h]
theorem Sv{c:Prop}[Decidable c]{P R:Prop}:(if (!decide c)=true then P else R)=if c then R else P:=by
 by_cases h:c<;>simp[h]
def Qv{P R:Prop}:(if true=true then P else R)=P:=rfl
def Qu{P R:Prop}:(if false=true then P else R)=R:=rfl
end
def VA{a b:Prop}[Decidable a][Decidable b]{P R:Prop}:(if a then P else if b then P else R)=if a\/b then P else R:=by
 by_cases ha:a<;>by_cases hb:b<;>simp[ha,hb]
def Kp.Wl{r:Addr}{H':Hp}{o:HO}(x:Kp [r] H H')(e:H a=some o)(n:a≠r):H' a=some o:=x a o e (by simpa using n)
theorem iJ{i:Int}{k:V->Prop}(h0:0<=i)(h1:i < (xs.length:Int))(q:∀ v∈xs,k v):fD (fI xs i) k:=by
 have hk:i.toNat < xs.length:=by omega
 have ek:i=((i.toNat:Nat):Int):=by omega
 have e:fI xs ((i.toNat:Nat):Int)=some xs[i.toNat]:=c0 (List.getElem?_eq_getElem hk);rw[<- ek] at e;rw[e];exact q _ (List.getElem_mem hk)
noncomputable def on1(vs:List V)(k:V->Prop)(_u:Tg k:=()):Prop:=match vs with
 | [v]=>k v
 | _=>False
noncomputable def lp(J:It)(g:TG)(tb:TS)(D:Ends)(σ:St)(H:Hp):Prop:=∃ W:Nat->Nat->St->Hp->Prop,(∃ m,W 0 m σ H)/\∀ i m σ H,W i m σ H ->
 (J.stop i H/\D.nx σ H)\/(J.go i H/\∃ N:St->Hp->Prop,(∀ σ' H',N σ' H'->∃ m',m' < m/\W (i+1) m' σ' H')/\∀ x H',J.X9 i H x H'->g x σ H' fun σ2 H2=>tb {D with nx:=N,ct:=N,bk:=D.nx} σ2 H2)
section
variable{D:Ends}{g:TG}{tb:TS}{as:TA}{te:TE}{v w:V}
def Rg{k:V->Prop}:(∃ z,vs=[z]/\k z)=on1 vs k:=by
 refine propext ⟨fun⟨z,e,h⟩=>by subst e;exact h,fun h=>?_⟩;unfold on1 at h;split at h
 ·exact⟨_,rfl,h⟩
 ·exact h.elim
def S3{k:V->Prop}{u:Tg k}:@on1 [v] k u=k v:=rfl
def MR:E8 (Cw as) g tb D σ H=as σ H fun vs H1=>on1 vs fun v=>gE v fun j=>(-(2 ^ 62)<=j/\j < 2 ^ 62)/\lp (Yr 0 j.toNat) g tb D σ H1:=by
 unfold E8 Cw
 congr 1
 funext vs H1;refine propext ⟨fun⟨j,e,h1,h2,h⟩=>by subst e;exact⟨⟨h1,h2⟩,h⟩,fun h=>?_⟩;unfold on1 at h;split at h
 ·obtain⟨j,rfl,⟨h1,h2⟩,h⟩:=dR h;exact⟨j,rfl,h1,h2,h⟩
 ·exact h.elim
noncomputable def on2(vs:List V)(k:V->V->Prop)(_u:Tg k:=()):Prop:=match vs with
 | [v,w]=>k v w
 | _=>False
def S4{k:V->V->Prop}{u:Tg k}:@on2 [v,w] k u=k v w:=rfl
def Qh:E8 (wD K te) g tb D σ H=te σ H fun x H1=>bF x fun a=>(∃ xs,e9 K H1 a xs)/\lp (Yb K a) g tb D σ H1:=by
 unfold E8 wD
 congr 1
 funext x H1;exact propext ⟨fun⟨a,e,h1,h⟩=>by subst e;exact⟨h1,h⟩,fun h=>by obtain⟨a,rfl,h1,h⟩:=aQ h;exact⟨a,rfl,h1,h⟩⟩
end
noncomputable def lc(J:It)(fr:List Nat)(tc:TT)(te:TE)(σ:St)(H:Hp)(Q:VK):Prop:=∃ W:Nat->Nat->List V->Hp->Prop,(∃ m,W 0 m [] H)/\∀ i m xs H,W i m xs H->xs.length<=1000000 /\
  ((J.stop i H/\∀ p,H p=none->Q 1e21 (Wa H p 1e20)) \/
   (J.go i H/\∀ y H',J.X9 i H y H'->tc 1e28 H' fun b H2=>if b=true then te 1e28 H2 (fun z H3=>∃ m',m' < m/\W (i+1) m' (xs++[z]) H3) else ∃ m',m' < m/\W (i+1) m' xs H2))
section
variable{tc:TT}{te tl:TE}{H1:Hp}{Q:VK}{as:TA}
def ML:kM (Cw as) fr tc te σ H Q=as σ H fun vs H1=>on1 vs fun v=>gE v fun j=>(-(2 ^ 62)<=j/\j < 2 ^ 62)/\lc (Yr 0 j.toNat) fr tc te σ H1 Q:=by
 unfold kM Cw
 congr 1
 funext vs H1;refine propext ⟨fun⟨j,e,h1,h2,h⟩=>by subst e;exact⟨⟨h1,h2⟩,h⟩,fun h=>?_⟩;unfold on1 at h;split at h
 ·obtain⟨j,rfl,⟨h1,h2⟩,h⟩:=dR h;exact⟨j,rfl,h1,h2,h⟩
 ·exact h.elim
def MK:kM (wD K tl) fr tc te σ H Q=tl σ H fun x H1=>bF x fun a=>(∃ xs,e9 K H1 a xs)/\lc (Yb K a) fr tc te σ H1 Q:=by
 unfold kM wD
 congr 1
 funext x H1;exact propext ⟨fun⟨a,e,h1,h⟩=>by subst e;exact⟨h1,h⟩,fun h=>by obtain⟨a,rfl,h1,h⟩:=aQ h;exact⟨a,rfl,h1,h⟩⟩
noncomputable def CZ(x:V)(k:Str->Prop)(_u:Tg k:=()):Prop:=match x with
 | .str p=>k p
 | _=>False
def MZ{k:Str->Prop}{u:Tg k}:@CZ (.str x) k u=k x:=rfl
def QU{B:Bool->Hp->Prop}:Pe σ H B=B true H:=rfl
def Sw:aT [] σ=[]:=rfl
def Cb(hi:i < n):(∃ m',m' < n - i/\cW n Pv (i+1) m' xs H)=Pv (i+1) xs H :=
 propext ⟨fun⟨_,_,_,_,h⟩=>h,fun h=>cW.next hi h⟩
def wM{lo:Int}(Pv:Nat->List V->Hp->Prop)(h0:Pv 0 [] H)(hz:∀ i xs H,Pv i xs H->xs.length<=1000000)(hs:∀ i xs H,i < n->Pv i xs H->tc (some (.int (lo+i))::aT fr σ) H fun b H2=>if b=true then te (some (.int (lo+i))::aT fr σ) H2 (fun z H3=>Pv (i+1) (xs++[z]) H3) else Pv (i+1) xs H2)(hd:∀ xs H,Pv n xs H->∀ p,H p=none->Q 1e21 (Wa H p 1e20)):lc (Yr lo n) fr tc te σ H Q :=
 Ec Pv h0 hz (fun i xs H hi h=>by simp only[Cb hi];exact hs i xs H hi h) hd
def Bp(Pv:Nat->List V->Hp->Prop)(h0:Pv 0 [] H)(hz:∀ i xs H,Pv i xs H->xs.length<=1000000)(hl:∀ i xs H,Pv i xs H->e9 K H a ys)(hs:∀ i y xs H,i < ys.length->ys[i]?=some y->Pv i xs H->tc 1e28 H fun b H2=>if b=true then te 1e28 H2 (fun z H3=>Pv (i+1) (xs++[z]) H3) else Pv (i+1) xs H2)(hd:∀ xs H,Pv ys.length xs H->∀ p,H p=none->Q 1e21 (Wa H p 1e20)):lc (Yb K a) fr tc te σ H Q :=
 Hw Pv h0 hz hl (fun i y xs H hi e h=>by simp only[Cb hi];exact hs i y xs H hi e h) hd
end
noncomputable def Mz(kb:List 1e35):List 1e35->Bool
 | []=>true
 | (k,v)::r=>match aX kb k with
  | none=>false
  | some y=>tP v y&&Mz kb r
mutual
inductive Me(K:q0B)(H:Hp):Nat->V->V->Bool->Prop
 | flat {n:Nat} {x y:V}:eL x=true->eL y=true->Me K H n x y (tP x y)
 | same {n:Nat} {a:Addr}:Me K H n 1e11 1e11 true
 | refs {n:Nat} {a b:Addr} {r:Bool}:a≠b->yW K H n a b r->Me K H n 1e11 (.ref b) r
inductive yW(K:q0B)(H:Hp):Nat->Addr->Addr->Bool->Prop
 | list {n:Nat} {a b:Addr} {xs ys:List V} {e:Nat->Bool}:e9 K H a xs->e9 K H b ys->xs.length=ys.length->(∀ j x y,xs[j]?=some x->ys[j]?=some y->Me K H n x y (e j))->yW K H (n+1) a b ((List.range xs.length).all e)
 | Xv {n:Nat} {a b:Addr} {xs ys:List V}:e9 K H a xs->e9 K H b ys->xs.length≠ys.length->yW K H (n+1) a b false
 | tup {n:Nat} {a b:Addr} {xs ys:List V} {e:Nat->Bool}:g9 K H a xs->g9 K H b ys->(∀ j x y,xs[j]?=some x->ys[j]?=some y->Me K H n x y (e j))->yW K H (n+1) a b ((List.range (min xs.length ys.length)).all e&&xs.length==ys.length)
end
section
theorem jG{Wd:List Value}(r:We xs Wd)(h:j < Wd.toArray.size):∃ x,xs[j]?=some x/\bL x Wd.toArray[j]:=by
 have hj:j < xs.length:=by have:=r.length;simp only[List.size_toArray] at h;omega
 have e:=List.getElem?_eq_getElem hj;obtain⟨u,g,ru⟩:=r.get e;refine⟨_,e,?_⟩;obtain⟨_,q⟩:=List.getElem?_eq_some_iff.mp g;have:Wd.toArray[j]=u:=by simpa using q
 rw[this];exact ru
theorem FL:∀(n:Nat),(∀ {a b:Addr} {r:Bool},yW X.K H n a b r->∀ {A:Around},Wc X V9 σ H s->A.units+n < cLine->SeqAt.RcAt A s 1e11 (.ref b) r)/\(∀ {x y:V} {b:Bool},Me X.K H n x y b->∀ {A:Around} {v u:Value},Wc X V9 σ H s->bL x v->bL y u->A.units+n < cLine->SeqAt.EqAt A s v u b):=by
 intro n;have up:∀ {n:Nat},(∀ {a b:Addr} {r:Bool},yW X.K H n a b r->∀ {A:Around},Wc X V9 σ H s->A.units+n < cLine->SeqAt.RcAt A s 1e11 (.ref b) r)->(∀ {x y:V} {b:Bool},Me X.K H n x y b->∀ {A:Around} {v u:Value},Wc X V9 σ H s->bL x v->bL y u->A.units+n < cLine->SeqAt.EqAt A s v u b):=by
  intro n rc x y b h A v u I rx ry hu;cases h with
  | flat fx fy=>exact J9 rx ry fx fy
  | same =>
   cases rx;cases ry;exact SeqAt.EqAt.same _
  | refs ne h =>
   cases rx;cases ry;exact SeqAt.EqAt.of_refs ne (rc h I hu)
 suffices g:∀ {a b:Addr} {r:Bool},yW X.K H n a b r->∀ {A:Around},Wc X V9 σ H s->A.units+n < cLine->SeqAt.RcAt A s 1e11 (.ref b) r from ⟨g,up g⟩
 induction n with
 | zero=>intro a b r h;cases h
 | succ n ih =>
  intro a b r h A I hu;have ih:=@up n @ih;cases h with
  | list hx hy hl he =>
   obtain⟨Wd,r1,p1,z1⟩:=I.list hx;obtain⟨ZR,r2,p2,z2⟩:=I.list hy;have l1:=r1.length;have l2:=r2.length;have:=SeqAt.RcAt.lists p1.isList p2.isList (by simp only[List.size_toArray];omega) 1e0 (A:=A) (fun j h1 h2=>by
    obtain⟨x,ex,rx⟩:=jG r1 h1;obtain⟨y,ey,ry⟩:=jG r2 h2;exact ih (he j x y ex ey) I rx ry (by show A.units+1+_ < _;omega))
   rw[List.size_toArray,<- l1] at this;exact this
  | Xv hx hy hl =>
   obtain⟨Wd,r1,p1,z1⟩:=I.list hx;obtain⟨ZR,r2,p2,z2⟩:=I.list hy;have l1:=r1.length;have l2:=r2.length;exact SeqAt.RcAt.lists_lengths p1.isList p2.isList (by simp only[List.size_toArray,bne_iff_ne,ne_eq];omega) 1e0
  | tup hx hy he =>
   obtain⟨Wd,r1,p1,z1⟩:=I.tuple hx;obtain⟨ZR,r2,p2,z2⟩:=I.tuple hy;have l1:=r1.length;have l2:=r2.length;have:=SeqAt.RcAt.tuples (show s.heap.IsTuple _ Wd.toArray from p1) (show s.heap.IsTuple _ ZR.toArray from p2) 1e0 (A:=A) (fun j h1 h2=>by
    obtain⟨x,ex,rx⟩:=jG r1 h1;obtain⟨y,ey,ry⟩:=jG r2 h2;exact ih (he j x y ex ey) I rx ry (by show A.units+1+_ < _;omega))
   rw[List.size_toArray,List.size_toArray,<- l1,<- l2] at this;exact this
def J8{x y:V}(h:Me X.K H n x y b){u:Value}(I:Wc X V9 σ H s)(rx:bL x v)(ry:bL y u)(hu:A.units+n < cLine):SeqAt.EqAt A s v u b:=(FL n).2 h I rx ry hu
def Ly{b:Addr}(h:yW X.K H n a b r)(I:Wc X V9 σ H s)(hu:A.units+n < cLine):SeqAt.RcAt A s 1e11 (.ref b) r:=(FL n).1 h I hu
end
inductive DPairs(H:Hp):List V->List V->Bool->Prop
  | nil:DPairs H [] [] true
  | cons {a b:Addr} {ka kb:List 1e35} {xs ys:List V} {r:Bool}:a≠b->H a=some (.dK ka)->H b=some (.dK kb)->(ka.all fun kv=>eL kv.2)=true->(kb.all fun kv=>eL kv.2)=true->DPairs H xs ys r ->
      DPairs H (.ref a::xs) (.ref b::ys) ((ka.length==kb.length&&Mz kb ka)&&r)
section
variable{o e:Expr}{to te:TE}{apos Wj:Pos}
end
section
variable{Q:VK}{b p:Addr}{x:V}
def Qf:I8 .Wb .Wb H Q=Q (.bl true) H:=by simp only[I8,show WV .Wb .Wb=true from rfl,decide_true,true_and]
def Qo{t:TGs}:Nk K n t 1e11 σ H N = ∃ xs,g9 K H a xs/\xs.length=n/\t xs σ H N:=by simp[Nk]
def Vn:((0:Nat):Int)=0:=rfl
def Vo:((1:Nat):Int)=1:=rfl
def Vp:((2:Nat):Int)=2:=rfl
end
noncomputable def xF(o:Option HO)(k:List V->Prop)(_u:Tg k:=()):Prop:=match o with
 | some 1e54=>k xs
 | _=>False
def C0(h:xF o k):∃ xs,o=some 1e54/\k xs:=by
 unfold xF at h;split at h
 ·exact⟨_,rfl,h⟩
 ·exact h.elim
noncomputable def Jx:R2:=fun x y H Q=>bF x fun a=>bF y fun b=>xF (H a) fun xs=>xF (H b) fun ys=>xs.length+ys.length<=sizeLine/\(if xs=[] then Q y H else if ys=[] then Q x H else ∀ p,H p=none->Q 1e21 (Wa H p (.tup (xs++ys))))
section
def Lj:jD X (binaryOp .Add) (fun x y H Q=>∃ a b ys,x=.ref a/\y=.ref b/\g9 X.K H a []/\g9 X.K H b ys/\Q (.ref b) H):=by
 intro V9 s σ H x y v u Q I rx ry h;obtain⟨a,b,ys,rfl,rfl,ha,hb,q⟩:=h;cases rx;cases ry;obtain⟨Wd,r1,p1,_⟩:=I.tuple ha;obtain⟨Xk,r2,p2,_⟩:=I.tuple hb;have l1:Wd=[]:=r1.tZ.mpr rfl;obtain⟨⟨c1,d1,t1,o1⟩,ho,rfl,n,rfl⟩:=p1;obtain⟨⟨c2,d2,t2,o2⟩,WM,rfl,n2,rfl⟩:=p2;exact concat_meets ⟨_,ho,rfl⟩ ⟨_,WM,rfl⟩ noFill_tuple_add seq_tuple_add PySem.F.slot_tuple_add PySem.F.entry_tuple_add (PySem.F.args_tuple_add_2 _ _) (tuple_addW0 a b Wd.toArray Xk.toArray n n2 d1 d2 o1 o2 (by simp[l1])) ⟨ho,WM,.ref b,H,I,rfl,q⟩
def NG:jD X (binaryOp .Add) Jx:=(Lj.or Gn).imp fun x y H Q h=>by
 obtain⟨a,rfl,h1⟩:=aQ h;obtain⟨b,rfl,h2⟩:=aQ h1;obtain⟨xs,e1,h3⟩:=C0 h2;obtain⟨ys,e2,h4,h5⟩:=C0 h3;by_cases c:xs=[]
 ·rw[if_pos c] at h5;subst c;exact .inl ⟨a,b,ys,rfl,rfl,.inl (.inl e1),.inl (.inl e2),h5⟩
 ·rw[if_neg c] at h5;refine .inr ⟨a,b,xs,ys,rfl,rfl,.inl (.inl e1),.inl (.inl e2),c,h4,fun z=>?_,fun z=>?_⟩
  ·rw[if_pos z] at h5;exact h5
  ·rw[if_neg z] at h5;exact h5
end
section
variable{Q:VK}{b p:Addr}{lo hi:Option Int}
def Na{u:Tg k}:@xF (some (.tup vs)) k u=k vs:=rfl
def J5:Jx 1e11 (.ref b) H Q=xF (H a) fun xs=>xF (H b) fun ys=>xs.length+ys.length<=sizeLine/\(if xs=[] then Q (.ref b) H else if ys=[] then Q 1e11 H else ∀ p,H p=none->Q 1e21 (Wa H p (.tup (xs++ys)))):=rfl
def P9:Jp lo hi H Q (some (.tup vs))=(¬ (HT.g8 vs.length 0 lo=0/\HT.g8 vs.length vs.length hi=vs.length)/\∀ p,H p=none->Q 1e21 (Wa H p (.tup (qO vs lo hi)))):=rfl
end
def Bt:typeLookup (.type "list") "keys"=pure none:=by rw[typeLookup_type,builtinLookup_eq_fast];kernel_rfl
section
variable{prog:Program}
theorem Ia{Wd:Array Value}(hx:s.heap.get? a=some {cls:=.type "list",data:=.seq Wd n})(hA:A.handled=none)(hq:∀ h' tk,(∀ b o,s.heap.get? b=some o->h'.get? b=some o)->Q none {s with heap:=h',toks:=tk}):wpAny 1e15 A (getAttr? 1e11 "keys") Q E s:=by
 obtain⟨hp,g,d,tk,os⟩:=s;have hT:∀ t,(⟨hp,g,d,t,os⟩:Shared).TypeIs 1e11 "list":=fun t=>⟨_,hx,rfl⟩;have f1:=sub_AttributeError;have f2:=F.slot_list_getattribute.lookup;have f3:=F.slot_list_getattribute.bind 1e11;unfold getAttr? getAttrBy? getAttrBy
 repeat (any_goals (first|assumption|exact hT _|((with_reducible show wpAny _ _ (call (Value.builtin "list.__getattribute__") _ _) _ _ _);refine call_meets F.slot_list_getattribute (hT _) am_entry_list_getattribute (F.args_list_getattribute_2 _ _) (meets_getattribute_miss_list a Wd n #[] "keys" _ Bt 1e18 1e18) ⟨hx,hA,fun h' tk' e hx'=>?_⟩)|wp_step))
 obtain⟨t',u',he⟩:=hx'.there;show wpAny _ _ (getattributeRaised _ _ _ _ _ _ _) _ _ _;unfold getattributeRaised;have f5:=am_list_getattr_none
 repeat (any_goals (first|assumption|wp_step))
 exact hq _ _ hx'.keeps
theorem nI:plainId "dict.update.loop"=true:=by decide +kernel
def z9:entryFor table "dict.update.loop"=some Builtin.«dict.update.loop»:=entryFor_of_fast (by kernel_rfl)
theorem Ov{W:World}{d t:Addr}{kv:Value}{k:Key}{acc:List (Key×Value)}{Q:PySem.Fin->Shared->Prop}(hit:s.heap.IsListIter it l i)(hl:s.heap.IsList l items)(hx:items[i]?=some (.ref t))(ht:s.heap.IsTuple t #[kv,v])(hk:(bJ P W).is k kv=true)(hd:s.heap.DictOf (bJ P W) d acc)(hsz:acc.length<=sizeLine)(ndi:d≠it)(nti:t≠it)(hq:∀ h' tk,h'.IsListIter it l (i+1)->h'.DictOf (bJ P W) d (stored acc k v)->(∀ b o,b≠d->b≠it->s.heap.get? b=some o->h'.get? b=some o)->Q (.again (.builtin "dict.update.loop" ⟨[.ref d,.ref it,rawInt (i+1),.none],[]⟩)) {s with heap:=h',toks:=tk}) : wpAny (model P W) A (Builtin.«dict.update.loop» ⟨[.ref d,.ref it,rawInt i,.none],[]⟩) Q E s:=by
 unfold Builtin.«dict.update.loop»;show wpAny _ _ (pyNext (.ref it) >>= _) _ _ _;refine wpAny_bind (wpAny_pyNext_list_item hit hl hx fun h1 abN sb=>?_);dsimp only;refine wpAny_bind (wpAny_holding ?_);refine wpAny_bind (wpAny_tryCatch ?_);unfold Builtin.Dict.pairItems;obtain⟨o,ho,hc,m,aaD⟩:=ht;have ho1:h1.get? t=some o:=(sb.2 t nti).trans ho;refine wpAny_bind (wpAny_typeOf (T:="tuple") ⟨o,ho1,hc⟩ ?_);rw[if_pos 1e6];refine wpAny_bind (wpAny_seqItems ho1 aaD 1e42);show wpAny _ _ (holding [kv,v] (dictSet d kv v)) _ _ _;refine wpAny_holding (wpAny_dictSet_pairs hk (hd.sameBut sb ndi) (fun h2 hd2 sb2=>?_) hsz);refine wpAny_pure (hq h2 _ ?_ hd2 fun b o b1 b2 e=>(sb2.2 b b1).trans ((sb.2 b b2).trans e));exact abN.at fun o e=>(sb2.2 it ndi.symm).trans e
def RO{W:World}{d:Addr}{Q:PySem.Fin->Shared->Prop}(hh:A.handled=none)(hit:s.heap.IsListIter it l i)(hl:s.heap.IsList l items)(hx:items[i]?=none)(hq:∀ h',(∀ b o,b≠it->s.heap.get? b=some o->h'.get? b=some o)->Q (.done (.ret .none)) {s with heap:=h'}) : wpAny (model P W) A (Builtin.«dict.update.loop» ⟨[.ref d,.ref it,rawInt i,.none],[]⟩) Q E s:=by
 unfold Builtin.«dict.update.loop»;show wpAny _ _ (pyNext (.ref it) >>= _) _ _ _;refine wpAny_bind (wpAny_pyNext_list_end hh hit hl hx fun h1 eb=>?_);dsimp only;show wpAny _ _ (Builtin.Dict.addKeywords d [] >>= _) _ _ _;exact wpAny_bind (wpAny_pure (wpAny_pure (hq h1 fun b o b1 e=>eb b o b1 e)))
theorem L9{P:Program}{W:World}{d it l:Addr}{items:List Value}(ps:List (Key×Value))(ndi:d≠it)(ndl:l≠d)(nli:l≠it):∀(m i:Nat),items.length=i+m->∀(A:Around) (R:Result->Shared->Prop) (s:Shared) (acc:List (Key×Value)),A.handled=none->s.heap.IsListIter it l i->s.heap.IsList l items.toArray -> (∀ j,i<=j->j < items.length->∃(t:Addr) (kv:Value) (k:Key) (v:Value),items[j]?=some (.ref t)/\ps[j]?=some (k,v)/\s.heap.IsTuple t #[kv,v]/\(bJ P W).is k kv=true/\t≠it/\t≠d) -> s.heap.DictOf (bJ P W) d acc->acc.length+m<=sizeLine->ps.length=items.length -> (∀ h' tk,h'.DictOf (bJ P W) d (merged acc (ps.drop i))->(∀ b o,b≠d->b≠it->s.heap.get? b=some o->h'.get? b=some o)->R (.ok (.ret .none)) {s with heap:=h',toks:=tk}) -> codeAny (model P W) A (.builtin "dict.update.loop" ⟨[.ref d,.ref it,rawInt i,.none],[]⟩) R s
 | 0,i,hm,A,R,s,acc,hh,hit,hl,hp,hd,hsz,XH,q=>by
  refine codeAny_builtin z9 ?_;rw[Around.under_plainId nI _];refine RO (A:=A.in1) hh hit hl (by simp;omega) fun h' k=>?_;have e:ps.drop i=[]:=List.drop_of_length_le 1e0;rw[e] at q;exact q h' s.toks (by
   obtain⟨o,es,ep,ho,r⟩:=hd;exact⟨o,es,ep,k _ _ ndi ho,r⟩) fun b o _ b2 e=>k b o b2 e
 | m+1,i,hm,A,R,s,acc,hh,hit,hl,hp,hd,hsz,XH,q=>by
  refine codeAny_builtin z9 ?_;rw[Around.under_plainId nI _];obtain⟨t,kv,k,v,e1,e2,ht,hk,n1,n2⟩:=hp i 1e5 1e0;refine Ov (A:=A.in1) hit hl (by simpa using e1) ht hk hd 1e0 ndi n1 fun h' tk abM hd' kp=>?_;refine⟨plainId_quiet nI _,?_⟩;have c:((i:Int)+1)=((i+1:Nat):Int):=by omega
  rw[c];have es:ps.drop i=(k,v)::ps.drop (i+1):=by
   obtain⟨WG,e3⟩:=List.getElem?_eq_some_iff.mp e2;rw[List.drop_eq_getElem_cons WG,e3]
  refine L9 ps ndi ndl nli m (i+1) 1e0 A R _ (stored acc k v) hh abM (hl.at fun o e=>kp l o ndl nli e) (fun j h1 h2=>?_) hd' ?_ XH fun h'' tk' abL kp'=>?_
  ·obtain⟨t,kv,k,v,e1,e2,ht,hk,n1,n2⟩:=hp j 1e0 h2;obtain⟨o,ho,r⟩:=ht;exact⟨t,kv,k,v,e1,e2,⟨o,kp t o n2 n1 ho,r⟩,hk,n1,n2⟩
  ·have:=stored_length_le acc k v;omega
  ·refine q h'' tk' ?_ fun b o b1 b2 e=>kp' b o b1 b2 (kp b o b1 b2 e);rw[es];exact abL
end
noncomputable def tN(H:Hp)(xs:List V)(kvs:List 1e35):Prop:=xs.length=kvs.length/\∀(j:Nat) (x:V),xs[j]?=some x->∃(t:Addr) (k:Key) (v:V),x=.ref t/\H t=some (.tup [kV k,v])/\kvs[j]?=some (k,v)
noncomputable def DZ:List V->Hp->VK->Prop:=fun vs H Q=>on1 vs fun x=>bF x fun l=>dX (H l) fun xs=>∃ kvs,tN H xs kvs/\∀ p,H p=none->Q 1e21 (Wa H p (.dK (eD [] kvs)))
theorem Ks{H:Hp}{P:Program}{W:World}{h:Heap}(ok:HOk P W H h):∀ {xs:List V} {Wd:List Value} {kvs:List 1e35},We xs Wd->tN H xs kvs->∃ ps:List (Key×Value),KV kvs ps/\ps.length=Wd.length /\ ∀ j,j < Wd.length->∃(t:Addr) (kv:Value) (k:Key) (v:Value),Wd[j]?=some (.ref t)/\ps[j]?=some (k,v)/\h.IsTuple t #[kv,v]/\(bJ P W).is k kv=true/\H t≠none
 | [],_,[],.nil,_=>⟨[],.nil,rfl,fun j hj=>absurd hj (Nat.not_lt_zero _)⟩
 | [],_,_::_,.nil,p=>by cases p.1
 | _::_,_,[],.cons _ _,p=>by cases p.1
 | x::xs,_,kv::kvs,.cons r rr,p=>by
  obtain⟨t,k,v,rfl,ht,e⟩:=p.2 0 x rfl;cases r;have e':kv=(k,v):=by simpa using e
  subst e';obtain⟨ps,h1,h2,h3⟩:=Ks ok rr (kvs:=kvs) ⟨by simpa using p.1,fun j y hy=>by
   obtain⟨t,k,v,a,b,c⟩:=p.2 (j+1) y (by simpa using hy);exact⟨t,k,v,a,b,by simpa using c⟩⟩
  obtain⟨_,Wd,ri,hi⟩:=(show dO P W H h t (.tup [kV k,v]) from ok t _ ht);cases ri with
  | cons r1 ri=>cases ri with
   | cons r2 ri =>
    cases ri;refine⟨(k,_)::ps,.cons ⟨rfl,r2⟩ h1,by simp[h2],fun j hj=>?_⟩;cases j with
    | zero=>exact⟨t,_,k,_,rfl,rfl,hi,nV r1,by rw[ht];simp⟩
    | succ j =>
     obtain⟨t',Zf,k',v',a,b,c⟩:=h3 j (by simpa using hj);exact⟨t',Zf,k',v',by simpa using a,by simpa using b,c⟩
theorem wW:∀(more acc:List 1e35),(eD acc more).length<=acc.length+more.length
 | [],acc=>Nat.le_refl _
 | kv::more,acc=>by
  have h1:=wW more (aO acc kv.1 kv.2);have h2:=iE acc kv.1 kv.2;show(eD (aO acc kv.1 kv.2) more).length<=_;simp only[List.length_cons];omega
theorem D7(hc:X.calm=true):fF X (.type "dict") DZ:=fun V9 s σ H vs us Q I r h=>by
 have h0:=h;unfold DZ at h0;rw[<- Rg] at h0;obtain⟨x,rfl,h1⟩:=h0;obtain⟨l,rfl,h2⟩:=aQ h1;obtain⟨xs,el,kvs,hp,q⟩:=eV h2;obtain⟨u,rfl,ru⟩:=r.one;cases ru;obtain⟨z,Wd,n,ri,hlen,eo⟩:=I.Bu el;obtain⟨ps,rel,ab5,pat⟩:=Ks I.Wh ri hp;have hA:=I.ok.hd hc;refine callType_codes (Q₁:=fun obj s₁=>obj=.ref s.heap.objs.size/\s₁={s with heap:=s.heap.push {cls:=.type "dict",data:=.dict #[]}}) F.kt_called_dict (F.kt_typeCall_dict_1 _) F.entry_dict_init (kt_code_dict_new _ ⟨rfl,rfl⟩) ?_;rintro obj s₁ ⟨rfl,rfl⟩;have Xj:(s.heap.push {cls:=.type "dict",data:=.dict #[]}).DictOf (bJ X.prog X.w) s.heap.objs.size []:=Heap.DictOf.new s.heap;refine⟨Xj.typeIs,F.args_dict_init_2 _ _,?_⟩;unfold Builtin.«dict.__init__» Builtin.Dict.selfAndRest;refine wpAny_bind (wpAny_bind (wpAny_notOrdered_dict Xj.typeIs ?_));show wpAny _ _ (pure (s.heap.objs.size,[Value.ref l])) _ _ _;refine wpAny_pure ?_;show wpAny _ _ (Builtin.Dict.updateFrom "dict.__init__" s.heap.objs.size (.ref l) [] .none) _ _ _;unfold Builtin.Dict.updateFrom;have Xa:(s.heap.push {cls:=.type "dict",data:=.dict #[]}).get? l=some {cls:=.type "list",data:=.seq Wd.toArray n}:=Heap.get?_push_of_some _ eo;refine wpAny_bind (wpAny_typeOf (T:="list") ⟨_,Xa,rfl⟩ ?_);rw[if_pos 1e6];refine wpAny_bind (Ia Xa hA fun h' tk kp=>?_);rw[if_pos (show(none:Option Value).isNone=true from rfl)];refine wpAny_bind (wpAny_rule ?_);have Yv:h'.IsList l Wd.toArray:=⟨_,kp _ _ Xa,rfl,n,rfl⟩;refine wpAny_bind (wpAny_pyIter_list Yv (wpAny_pure ⟨plainId_quiet nI _,?_⟩));have hD:s.heap.objs.size < h'.objs.size:=Heap.lt_size (kp _ _ (Heap.get?_push_size _ rfl));have old:∀ b o,s.heap.get? b=some o->(h'.push {cls:=.type "list_iterator",data:=.fields #[.ref l,rawInt 0]}).get? b=some o:=fun b o e=>Heap.get?_push_of_some _ (kp b o (Heap.get?_push_of_some _ e));have lt:∀ b o,s.heap.get? b=some o->b < s.heap.objs.size:=fun b o e=>Heap.lt_size e;have ll:=lt _ _ eo;refine L9 ps (Nat.ne_of_lt hD) (Nat.ne_of_lt ll) (Nat.ne_of_lt (Nat.lt_trans ll hD)) Wd.length 0 1e1 X.A.in1 _ _ [] hA ⟨_,Heap.get?_push_size _ rfl,rfl,rfl⟩ ⟨_,old _ _ eo,rfl,n,rfl⟩ (fun j _ hj=>?_) ?_ (by simp only[List.length_nil];omega) ab5 fun hF tkF hdF kpF=>?_
 ·obtain⟨t,kv,k,v,a1,a2,⟨o,ho,r⟩,a4,_⟩:=pat j hj;have tl:=lt _ _ ho;exact⟨t,kv,k,v,a1,a2,⟨o,old _ _ ho,r⟩,a4,Nat.ne_of_lt (Nat.lt_trans tl hD),Nat.ne_of_lt tl⟩
 ·obtain⟨o,es,ep,ho,r⟩:=Xj;exact⟨o,es,ep,Heap.get?_push_of_some _ (kp _ _ ho),r⟩
 ·rw[List.drop_zero] at hdF;have kl:kvs.length<=sizeLine:=by rw[<- hp.1];exact z
  have ml:=wW kvs [];refine⟨rfl,.ref s.heap.objs.size,Wa H s.heap.objs.size (.dK (eD [] kvs)),I.laid (fun b o e=>kpF b o (Nat.ne_of_lt (lt _ _ e)) (Nat.ne_of_lt (Nat.lt_trans (lt _ _ e) hD)) (old _ _ e)) 1e5
   (oM (by simp only[List.length_nil] at ml;omega) (beq_eq_false_iff_ne.mpr (Ne.symm (Nat.ne_of_lt I.big))) (rel.merge .nil) hdF),rfl,q _ (I.Wh.fresh 1e5)⟩
noncomputable def Itd(a:Addr)(o:Obj)(kvs:List 1e35):It :=
 ⟨fun i H=>i < kvs.length/\H a=some (.Wz o 1e17),fun i H x H'=>H'=H/\∃ kv,kvs[i]?=some kv/\x=kV kv.1,fun i H=>i=kvs.length/\H a=some (.Wz o 1e17)⟩
def CG{W:World}{k:Key}(h:(bJ P W).is k v=true):bL (kV k) v:=by
 rcases dW h with⟨i,t,rfl,rfl⟩|⟨x,t,rfl,rfl⟩|⟨rfl,rfl⟩
 ·exact⟨t,rfl⟩
 ·exact⟨t,rfl⟩
 ·rfl
def Kd{o:Obj}{es:Array DictEntry}{ep:Nat}(I:Wc X V9 σ H s)(e:H a=some (.Wz o 1e17))(ho:o.data=.dict es ep) : ∃ vs,KV kvs vs/\s.heap.DictAt (bJ X.prog X.w) a vs ep:=by
 obtain⟨h1,_,_,vs,rel,o',es',YH,h2,h3,h4,r⟩:=(show dO X.prog X.w H s.heap a (.Wz o 1e17) from I.Wh a _ e);rw[h1] at h2;cases h2;rw[ho] at h4;cases h4;exact⟨vs,rel,o,es,h1,h3,ho,r⟩
def KV.at{vs:List (Key×Value)}(r:KV kvs vs){kv:Key×V}(e:kvs[i]?=some kv):∃ v,vs[i]?=some (kv.1,v):=by
 unfold KV at r
 induction r generalizing i with
 | nil=>simp at e
 | @cons p q ps qs h t ih=>cases i with
  | zero =>
   have e':p=kv:=by simpa using e
   subst e';exact⟨q.2,by simp[h.1]⟩
  | succ i=>simpa using ih (i:=i) (by simpa using e)
theorem IV{tg:Expr}(a it:Addr)(o:Obj)(kvs:List 1e35)(es:Array DictEntry)(ep:Nat)(ho:o.data=.dict es ep):Turn P w K tg (Itd a o kvs) [it] it (fun i h=>h.IsKeyIter it a i kvs.length ep) where
 mem:=by simp
 obj:=fun i h st b hb=>by
  have e:b=it:=by simpa using hb
  subst e;obtain⟨o,e,c,d⟩:=st;exact⟨o,e,fun v z=>by rw[d] at z;cases z⟩
 keep:=fun i h h' st k=>st.at fun o e=>k it 1e1 o e
 item:=by
  intro X hP hw hK hc i V9 s σ H E I hf st hg;subst hP hw hK;obtain⟨hi,hq⟩:=hg;obtain⟨vs,rel,dd⟩:=Kd I hq ho;have hk:=List.getElem?_eq_getElem hi;obtain⟨v,hv⟩:=rel.at hk;obtain⟨f0,f1,f2,f3,f4,f5⟩:=hf it 1e1;rw[rel.length] at st;refine wpAny_pyNext_dict_item st dd hv fun key h' Yi WB sb=>?_;have I1:Wc X V9 σ H {s with heap:=h'}:=I.turned (t':=s.toks) (fun b o hb e=>(sb.2 b hb).trans e) f0 f1 f3 f4 f5;rw[<- rel.length] at WB;obtain⟨o',e,c,d⟩:=id WB;exact⟨key,rfl,FW (s:={s with heap:=h'}) e c d 1e6 ⟨kV (kvs[i]).1,H,I1,CG Yi,⟨rfl,_,hk,rfl⟩,WB,fun b hb=>(hf b hb).1⟩⟩
 done:=by
  intro X hP hw hK hc i V9 s σ H E I hf st hg;subst hP hw hK;obtain⟨hi,hq⟩:=hg;obtain⟨vs,rel,dd⟩:=Kd I hq ho;obtain⟨f0,f1,f2,f3,f4,f5⟩:=hf it 1e1;rw[rel.length] at st hi;exact wpAny_pyNext_dict_end (I.ok.hd hc) st dd (List.getElem?_eq_none_iff.mpr 1e0) fun h' eb=>⟨rfl,I.turned (t':=s.toks) (fun b o hb e=>eb b o hb e) f0 f1 f3 f4 f5⟩
 self:=fun _ _ _ _ _ st h=>wpAny_pyIter_keyiter st h
def QX(tl:TE):TI:=fun σ H R=>tl σ H fun x H1=>bF x fun a=>dA (H1 a) fun kvs=>∀ o,R (Itd a o kvs) (Wa H1 a (.Wz o 1e17))
def NK{tg l:Expr}{tl:TE}(hl:PE X l tl):PI X tg l (QX tl):=by
 intro V9 s σ H R I h;refine thn (hl V9 s σ H _ I h) fun v s1 ⟨x,H1,I1,r1,q1⟩=>?_;obtain⟨a,rfl,q2⟩:=aQ q1;obtain⟨kvs,e,q⟩:=dJ q2;cases r1;obtain⟨z,hd,vs,rel,dd⟩:=vB I1.Wh e;obtain⟨ep,dat⟩:=dd.dictAt;obtain⟨o,es,ho,hx,aaD,r⟩:=id dat;have I2:Wc X V9 σ (Wa H1 a (.Wz o 1e17)) s1:=I1.write (t':=s1.toks) (x:=a) (e:=a) (by rw[e];exact True.intro) 1e23 (fun _ _ _ q=>q) ⟨o,ho⟩ ⟨ho,oM z hd rel dd⟩;refine wpAny_pyIter_dict hd dat ?_;have F:(Wa H1 a (.Wz o 1e17)) s1.heap.objs.size=none:=I2.Wh.fresh 1e5;refine⟨s1.heap.objs.size,[s1.heap.objs.size],_,_,_,rfl,I2.kept (t':=s1.toks) fun b o e=>Heap.get?_push_of_some _ e,IV a _ o kvs es ep aaD,?_,fun b hb=>?_,q o⟩
 ·rw[rel.length];exact⟨_,Heap.get?_push_size _ rfl,rfl,rfl⟩
 ·have e:b=s1.heap.objs.size:=by simpa using hb
  subst e;exact I2.HS 1e5 F
section
variable{tc:TT}{te tl:TE}{Q:VK}
def MJ:kM (QX tl) fr tc te σ H Q=tl σ H fun x H1=>bF x fun a=>dA (H1 a) fun kvs=>∀ o,lc (Itd a o kvs) fr tc te σ (Wa H1 a (.Wz o 1e17)) Q:=by
 unfold kM QX;rfl
theorem Nx{o:Obj}(Pv:Nat->List V->Hp->Prop)(h0:Pv 0 [] H)(hz:∀ i xs H,Pv i xs H->xs.length<=1000000)(hl:∀ i xs H,Pv i xs H->H a=some (.Wz o 1e17))(hs:∀ i kv xs H,i < kvs.length->kvs[i]?=some kv->Pv i xs H->tc (some (kV kv.1)::aT fr σ) H fun b H2=>if b=true then te (some (kV kv.1)::aT fr σ) H2 (fun z H3=>Pv (i+1) (xs++[z]) H3) else Pv (i+1) xs H2)(hd:∀ xs H,Pv kvs.length xs H->∀ p,H p=none->Q 1e21 (Wa H p 1e20)):lc (Itd a o kvs) fr tc te σ H Q:=by
 refine⟨cW kvs.length Pv,⟨kvs.length,by simp,Nat.zero_le _,h0⟩,?_⟩;rintro i m xs H ⟨rfl,hi,p⟩;refine⟨hz i xs H p,?_⟩;by_cases WG:i < kvs.length
 ·refine .inr ⟨⟨WG,hl i xs H p⟩,fun y H' yy=>?_⟩;obtain⟨e,kv,hk,rfl⟩:=yy;subst e;simp only[Cb WG];exact hs i kv xs _ WG hk p
 ·have e:i=kvs.length:=by omega
  subst e;exact .inl ⟨⟨rfl,hl _ xs H p⟩,hd xs H p⟩
end
section
variable{td ty tx:TE}{Q:VK}{D:Ends}{v w x:V}
def MO:DZ [.ref l] H Q=dX (H l) fun xs=>∃ kvs,tN H xs kvs/\∀ p,H p=none->Q 1e21 (Wa H p (.dK (eD [] kvs))):=rfl
end
def Jy:List V->Hp->VK->Prop:=fun vs H Q=>on1 vs fun x=>bF x fun p=>dX (H p) fun ys=>∀ l,H l=none->Q (.ref l) (Wa H l (.tup ys))
def Lg{x:V}{k:Str->Prop}(h:CZ x k):∃ z,x=.str z/\k z:=by
 unfold CZ at h;split at h
 ·exact⟨_,rfl,h⟩
 ·exact h.elim
def mI{k:V->Prop}(h:on1 vs k):∃ v,vs=[v]/\k v:=by
 unfold on1 at h;split at h
 ·exact⟨_,rfl,h⟩
 ·exact h.elim
section
def gX:fF X (.type "tuple") Jy:=fun V9 s σ H xs us Q I r h=>by
 obtain⟨x,rfl,h⟩:=mI h;obtain⟨p,rfl,h⟩:=aQ h;obtain⟨ys,e,h⟩:=eV h;exact y8 V9 s σ H _ us Q I r ⟨_,_,rfl,.inl ⟨.inl (.inl e),h⟩⟩
end
section
variable{r:V->List V->Hp->VK->Prop}{to:TE}{t:TA}{Q:VK}{i:Int}{p:Addr}{ys:List Str}
def Nh:Jy [.ref p] H Q=dX (H p) fun ys=>∀ l,H l=none->Q (.ref l) (Wa H l (.tup ys)):=rfl
end
abbrev TJ:=Str->St->Hp->(Str->Hp->Prop)->Prop
section
variable{e a b:Expr}{te:TE}{tj:TJ}
end
noncomputable def VX(r:V->List V->Hp->VK->Prop)(to:TE)(t:TA):TE:=fun σ H Q=>to σ H fun x H1=>bF x fun a=>dX (H1 a) fun _=>t σ H1 fun xs H2=>r 1e11 xs H2 Q
noncomputable def R7:V->List V->Hp->VK->Prop:=fun x vs H Q=>bF x fun a=>on1 vs fun y=>bF y fun b=>dX (H a) fun xs=>dX (H b) fun zs=>xs.length+zs.length<=sizeLine/\Q .Wb (Wa H a (.lst (xs++zs)))
noncomputable def OJ:V->List V->Hp->VK->Prop:=fun x vs H Q=>bF x fun a=>on1 vs fun y=>gE y fun i=>dX (H a) fun xs=>i=0/\fD xs[0]? fun v=>Q v (Wa H a (.lst xs.tail))
section
variable{o e:Expr}{to:TE}{t:TA}{name:Str}{apos Wj:Pos}{id:String}{r:V->List V->Hp->VK->Prop}
theorem pZ(slot:Slot "list" name id)(hty:typeOf (.builtin id)=pure (.type "method_descriptor"))(hm:OA X id r)(ho:PE X o to)(ha:PA X (e::es) t)(Xc:attributeBase o name X.env (eval o X.env)=eval o X.env:=by rfl)(aaE:((backTo Wj (starEach (e::es) X.env)).all (fun x=>!x.1)&&(backToKw Wj (keywordEach [] X.env)).all (fun x=>x.1.isSome)&&decide ((e::es).length+([]:List Keyword).length+(if ([]:List Keyword).isEmpty then 0 else 1) < 30))=true:=by rfl)(Xe:(apos.endLine==Wj.line)=true:=by rfl)(hs:starEach (e::es) X.env=(false,eval e X.env)::starEach es X.env:=by rfl)(XU:(backTo Wj 1e59).any (·.1)=false:=by rfl) : PE X (.Call (.Attribute o name apos) (e::es) [] Wj) (VX r to t):=by
 intro V9 s σ H Q I h;refine wpAny_Call_method_late Xc aaE Xe rfl (thn 1e61 fun v s1 ⟨x,H1,I1,r1,q1⟩=>?_);obtain⟨a,rfl,q1⟩:=aQ q1;obtain⟨xs,e1,q1⟩:=eV q1;obtain⟨h1,h2⟩:=Fh (T:="list") I1 r1 (.inl ⟨rfl,xs,.inl (.inl e1)⟩);refine⟨"list",id,PySem.F.plainAttrs_list,slot,hty,h1,h2,?_⟩;have hA:=ha Wj V9 s1 σ H1 _ I1 q1;rw[hs] at hA ⊢;refine Calls.callWith_builtin (by show(false||(backTo Wj 1e59).any (·.1))=false;rw[XU]<;>rfl) (Calls.evalArgs_plain ?_);exact thn hA fun us s2 ⟨vs,H2,I2,r2,q2⟩=>hm V9 s2 σ H2 _ vs v us Q I2 r1 r2 q2
def tY:OA X "list.extend" R7:=fun V9 s σ H x vs v us Q I rx rv h=>by
 obtain⟨a,rfl,h1⟩:=aQ h;obtain⟨y,rfl,h2⟩:=mI h1;obtain⟨b,rfl,h3⟩:=aQ h2;obtain⟨xs,e1,h4⟩:=eV h3;obtain⟨zs,e2,h5⟩:=eV h4;exact Ik V9 s σ H _ _ v us Q I rx rv ⟨_,_,_,_,rfl,rfl,e1,e2,h5⟩
theorem Bv:OA X "list.pop" OJ:=fun V9 s σ H x vs v us Q I rx rv h=>by
 obtain⟨a,rfl,h1⟩:=aQ h;obtain⟨y,rfl,h2⟩:=mI h1;obtain⟨i,rfl,h3⟩:=dR h2;obtain⟨xs,e1,rfl,h4⟩:=eV h3;obtain⟨y,e2,h5⟩:=cF h4;cases xs with
 | nil=>cases e2
 | cons z zs=>exact KO V9 s σ H _ _ v us Q I rx rv ⟨_,_,_,0,y,rfl,rfl,e1,by decide,by decide,by simp[seqIndex?],e2,h5⟩
end
noncomputable def IT:Option HO->Option Bool
 | some 1e20=>some (!xs.isEmpty)
 | some 1e54=>some (!xs.isEmpty)
 | some 1e17=>some (!kvs.isEmpty)
 | _=>none
noncomputable def yN(H:Hp):V->Option Bool
 | .Wb=>some false
 | .bl b=>some b
 | .int i=>some (i !=0)
 | .ref p=>IT (H p)
 | _=>none
def BR{x:V}{k:Bool}(h:yN H x=some k):RU K x H k:=by
 cases x with
 | Wb=>cases h;rfl
 | bl b=>cases h;rfl
 | int i=>cases h;rfl
 | ref p =>
  simp only[yN] at h;unfold IT at h;split at h
  ·next e=>cases h;exact .inl ⟨_,.inl (.inl e),rfl⟩
  ·next e=>cases h;exact .inr (.inl ⟨_,g9.of e,rfl⟩)
  ·next e=>cases h;exact .inr (.inr ⟨_,e,rfl⟩)
  ·cases h
 | _=>cases h
def L7(ta:TE):TT:=fun σ H Q=>ta σ H fun x H'=>fD (yN H' x) fun k=>Q k H'
def BG{a:Expr}{ta:TE}(ha:PE X a ta)(he:∀ whole,isTrue a X.env whole=(do let v <- whole;standAt a.pos;holding [v] (truthy v))):PT X a (L7 ta):=by
 intro V9 s σ H Q I h;exact isTrue_plain (thn 1e44 fun v s1 ⟨x,H1,I1,r1,q1⟩=>by
  obtain⟨k,e,q⟩:=cF q1;exact Fe V9 s1 σ H1 x v Q I1 r1 ⟨k,BR e,q⟩) (he _)
section
variable{te to:TE}{t:TA}{tj:TJ}{Q:VK}{acc:Str}{r:V->List V->Hp->VK->Prop}{QS:Str->Hp->Prop}{B:Bool->Hp->Prop}{D:Ends}{p q:Addr}{v:V}{i:Int}
def Vu:VX r to t σ H Q=to σ H fun x H1=>bF x fun a=>dX (H1 a) fun _=>t σ H1 fun xs H2=>r 1e11 xs H2 Q:=rfl
def Sz:R7 1e21 [.ref q] H Q=dX (H p) fun xs=>dX (H q) fun zs=>xs.length+zs.length<=sizeLine/\Q .Wb (Wa H p (.lst (xs++zs))):=rfl
def QH:OJ 1e21 [.int 0] H Q=dX (H p) fun xs=>(0:Int)=0/\fD xs[0]? fun v=>Q v (Wa H p (.lst xs.tail)):=rfl
def Ng:L7 te σ H B=te σ H fun x H'=>fD (yN H' x) fun k=>B k H':=rfl
def QR:yN H .Wb=some false:=rfl
def QN:yN H (.bl b)=some b:=rfl
def QP:yN H (.int i)=some (i !=0):=rfl
def J7:yN H 1e21=IT (H p):=rfl
def QQ:IT (some (.lst vs))=some (!vs.isEmpty):=rfl
def QT:IT (some (.tup vs))=some (!vs.isEmpty):=rfl
def QO:IT (some 1e17)=some (!kvs.isEmpty):=rfl
variable{tc:TT}{tl:TE}
def MM:kM (Kn K tl) fr tc te σ H Q=tl σ H fun x H1=>bF x fun a=>(∃ xs,g9 K H1 a xs)/\lc (Itt K a) fr tc te σ H1 Q:=by
 unfold kM Kn
 congr 1
 funext x H1;exact propext ⟨fun⟨a,e,h1,h⟩=>by subst e;exact⟨h1,h⟩,fun h=>by obtain⟨a,rfl,h1,h⟩:=aQ h;exact⟨a,rfl,h1,h⟩⟩
theorem Kx(Pv:Nat->List V->Hp->Prop)(h0:Pv 0 [] H)(hz:∀ i xs H,Pv i xs H->xs.length<=1000000)(hl:∀ i xs H,Pv i xs H->g9 K H a ys)(hs:∀ i y xs H,i < ys.length->ys[i]?=some y->Pv i xs H->tc 1e28 H fun b H2=>if b=true then te 1e28 H2 (fun z H3=>Pv (i+1) (xs++[z]) H3) else Pv (i+1) xs H2)(hd:∀ xs H,Pv ys.length xs H->∀ p,H p=none->Q 1e21 (Wa H p 1e20)):lc (Itt K a) fr tc te σ H Q:=by
 refine⟨cW ys.length Pv,⟨ys.length,by simp,Nat.zero_le _,h0⟩,?_⟩;rintro i m xs H ⟨rfl,hi,p⟩;refine⟨hz i xs H p,?_⟩;have q:=hl i xs H p;by_cases WG:i < ys.length
 ·refine .inr ⟨⟨ys,ys[i],q,by simp[WG]⟩,fun y H' yy=>?_⟩;obtain⟨e,yy⟩:=yy;subst e;simp only[Cb WG];exact hs i y xs _ WG (yy ys q) p
 ·have e:i=ys.length:=by omega
  subst e;exact .inl ⟨⟨ys,q,Nat.le_refl _⟩,hd xs H p⟩
end
section
theorem Oc{b:Addr}(h:yW X.K H n a b r)(I:Wc X V9 σ H s)(hu:A.units+n < cLine):SeqAt.RcNeAt A s 1e11 (.ref b) (!r):=by
 cases h with
 | list hx hy hl he =>
  obtain⟨Wd,r1,p1,z1⟩:=I.list hx;obtain⟨ZR,r2,p2,z2⟩:=I.list hy;have l1:=r1.length;have l2:=r2.length;have:=SeqAt.RcNeAt.lists p1.isList p2.isList (by simp only[List.size_toArray];omega) 1e0 (A:=A) (fun j h1 h2=>by
   obtain⟨x,ex,rx⟩:=jG r1 h1;obtain⟨y,ey,ry⟩:=jG r2 h2;exact J8 (he j x y ex ey) I rx ry (by show A.units+1+_ < _;omega))
  rw[List.size_toArray,<- l1] at this;exact this
 | Xv hx hy hl =>
  obtain⟨Wd,r1,p1,z1⟩:=I.list hx;obtain⟨ZR,r2,p2,z2⟩:=I.list hy;have l1:=r1.length;have l2:=r2.length;exact SeqAt.RcNeAt.lists_lengths p1.isList p2.isList (by simp only[List.size_toArray,bne_iff_ne,ne_eq];omega) 1e0
 | tup hx hy he =>
  obtain⟨Wd,r1,p1,z1⟩:=I.tuple hx;obtain⟨ZR,r2,p2,z2⟩:=I.tuple hy;have l1:=r1.length;have l2:=r2.length;have:=SeqAt.RcNeAt.tuples (show s.heap.IsTuple _ Wd.toArray from p1) (show s.heap.IsTuple _ ZR.toArray from p2) 1e0 (A:=A) (fun j h1 h2=>by
   obtain⟨x,ex,rx⟩:=jG r1 h1;obtain⟨y,ey,ry⟩:=jG r2 h2;exact J8 (he j x y ex ey) I rx ry (by show A.units+1+_ < _;omega))
  rw[List.size_toArray,List.size_toArray,<- l1,<- l2] at this;exact this
end
def R9(K:q0B)(n:Nat):R2:=fun x y H Q=>bF x fun a=>bF y fun b=>∃ r,yW K H n a b r/\Q (.bl (!r)) H
def RY(K:q0B)(n:Nat):R2:=fun x y H Q=>bF x fun a=>bF y fun b=>∃ r,yW K H n a b r/\Q (.bl r) H
theorem HX{k:Nat}(hr:Room k A)(h:n<=60):A.units+n < cLine:=Nat.lt_of_le_of_lt (Nat.add_le_add_left (by omega:n<=64) _) hr.units
section
def Lk(n:Nat)(hu:X.A.units+n < cLine):jD X (compareOp .NotEq) (R9 X.K n):=fun V9 s σ H x y v u Q I rx ry h=>by
 obtain⟨a,rfl,h1⟩:=aQ h;obtain⟨b,rfl,r,e,q⟩:=aQ h1;cases rx;cases ry;exact Oc e I hu X.prog X.w X.xe _ (bV I q rfl)
def ER(n:Nat)(hu:X.A.units+n < cLine):jD X (compareOp .Eq) (RY X.K n):=fun V9 s σ H x y v u Q I rx ry h=>by
 obtain⟨a,rfl,h1⟩:=aQ h;obtain⟨b,rfl,r,e,q⟩:=aQ h1;cases rx;cases ry;exact Ly e I hu X.prog X.w X.xe _ (bV I q rfl)
end
section
variable{Q:VK}{b p:Addr}{i:Int}
def SU:R9 K n 1e11 (.ref b) H Q = ∃ r,yW K H n a b r/\Q (.bl (!r)) H:=rfl
def Sx:RY K n 1e11 (.ref b) H Q = ∃ r,yW K H n a b r/\Q (.bl r) H:=rfl
end
def Str.cs(x:Str):List Nat:=x.cps.toList
section
variable{Q:VK}{p:Addr}{z:Str}{neg:Bool}{v:V}
end
noncomputable def iL(C:Addr)(o:Option HO)(k:Addr->List (Str×V)->Prop)(_u:Tg k:=()):Prop:=match o with
 | some (.ins C' dx fs)=>C'=C/\k dx fs
 | _=>False
def mJ{C:Addr}{k:Addr->List (Str×V)->Prop}(h:iL C o k):∃ dx fs,o=some (.ins C dx fs)/\k dx fs:=by
 unfold iL at h;split at h
 ·obtain⟨rfl,h⟩:=h;exact⟨_,_,rfl,h⟩
 ·exact h.elim
def Mu(C:Addr)(f:Str)(ta:TE):TE:=fun σ H Q=>ta σ H fun x H1=>bF x fun a=>iL C (H1 a) fun _ fs=>fD (fs.lookup f) fun v=>Q v H1
noncomputable def OK(C:Addr)(f:Str)(ta tv:TE):TS:=fun D σ H=>tv σ H fun y H1=>ta σ H1 fun x H2=>bF x fun a=>iL C (H2 a) fun dx fs=>fs.length < 1000/\D.nx σ (Wa H2 a (.ins C dx (iT f y fs)))
noncomputable def OC(C:Addr)(f:Str)(ta tv:TE):TS:=fun D σ H=>ta σ H fun x H1=>bF x fun a=>iL C (H1 a) fun _ fs=>fD (fs.lookup f) fun v=>tv σ H1 fun y H2=>gE v fun i=>gE y fun j=>iL C (H2 a) fun dx ZD=>ZD.length < 1000/\D.nx σ (Wa H2 a (.ins C dx (iT f (.int (i+j)) ZD)))
section
variable{o e value:Expr}{f:Str}{pos' Y4:Pos}{ta tv:TE}{C:Addr}
def aL(c:Cls X.K C)(n:eB X.K C f)(he:PE X e ta)(hb:attributeBase e f X.env (eval e X.env)=eval e X.env:=by rfl):PE X (.Attribute e f pos) (Mu C f ta):=fun V9 s σ H Q I h=>by
 refine Mq hb (thn (he V9 s σ H _ I h) fun u s1 ⟨x,H1,I1,rx,q1⟩=>?_);obtain⟨a,rfl,q2⟩:=aQ q1;obtain⟨dx,fs,ea,q3⟩:=mJ q2;obtain⟨v,l,q⟩:=cF q3;obtain rfl:u=Value.ref a:=rx;exact wB I1 ea c n l fun u' s2 I2 ru=>⟨v,H1,I2,ru,q⟩
def c9(c:Cls X.K C)(n:eB X.K C f)(ha:PE X o ta)(hv:PE X value tv)(hs:swapsWith value (some (.Attribute o f pos')) pos.line X.env=pure false:=by rfl):PS X (.Assign [.Attribute o f pos'] value pos) (OK C f ta tv):=fun V9 s σ H D I h=>by
 refine plainObj_wpAny_Assign_Attribute (thn (hv V9 s σ H _ I h) fun u s1 ⟨y,H1,I1,ry,q⟩=>thn (ha V9 s1 σ H1 _ I1 q) fun ov s2 ⟨x,H2,I2,rx,q1⟩=>?_) hs;obtain⟨a,rfl,q2⟩:=aQ q1;obtain⟨dx,fs,ea,l,q3⟩:=mJ q2;obtain rfl:ov=Value.ref a:=rx;exact yB I2 ea c n l ry fun s3 I3=>⟨σ,_,I3,q3⟩
def NO(c:Cls X.K C)(n:eB X.K C f)(ha:PE X o ta)(hv:PE X value tv):PS X (.AugAssign (.Attribute o f Y4) .Add value pos) (OC C f ta tv):=fun V9 s σ H D I h=>by
 refine wpAny_AugAssign_AttributeAny (thn 1e44 fun ov s1 ⟨x,H1,I1,rx,q1⟩=>?_);obtain⟨a,rfl,q2⟩:=aQ q1;obtain⟨dx,fs,ea,q3⟩:=mJ q2;obtain⟨v,l,q⟩:=cF q3;obtain rfl:ov=Value.ref a:=rx;refine wB I1 ea c n l fun u s2 I2 ru=>thn (hv V9 s2 σ H1 _ I2 q) fun w3 s3 ⟨y,H2,I3,ry,q4⟩=>?_;obtain⟨i,rfl,q5⟩:=dR q4;obtain⟨j,rfl,q6⟩:=dR q5;obtain⟨dx',ZD,ea',l',q7⟩:=mJ q6;refine thn (QY V9 s3 σ H2 (.int i) (.int j) u w3 (fun z H3=>z=.int (i+j)/\H3=H2) I3 ru ry ⟨i,j,rfl,rfl,rfl,rfl⟩) fun w4 s4 ⟨z,H3,I4,rz,ez,eH⟩=>?_;subst ez eH;exact yB I4 ea' c n l' rz fun s5 I5=>⟨σ,_,I5,q7⟩
end
section
variable{C dx:Addr}{fs:List (Str×V)}{k:Addr->List (Str×V)->Prop}{m f:Str}{sp:Sp}{E:XK}{ta tv:TE}{t:TA}{Q:VK}{D:Ends}{v u:V}{r:List (Str×V)}
def FK{u:Tg k}:@iL C (some (.ins C dx fs)) k u=k dx fs:=by simp[iL]
def SA:Mu C f ta σ H Q=ta σ H fun x H1=>bF x fun a=>iL C (H1 a) fun _ fs=>fD (fs.lookup f) fun v=>Q v H1:=rfl
def QK:OK C f ta tv D σ H=tv σ H fun y H1=>ta σ H1 fun x H2=>bF x fun a=>iL C (H2 a) fun dx fs=>fs.length < 1000/\D.nx σ (Wa H2 a (.ins C dx (iT f y fs))):=rfl
def PZ:OC C f ta tv D σ H=ta σ H fun x H1=>bF x fun a=>iL C (H1 a) fun _ fs=>fD (fs.lookup f) fun v=>tv σ H1 fun y H2=>gE v fun i=>gE y fun j=>iL C (H2 a) fun dx ZD=>ZD.length < 1000/\D.nx σ (Wa H2 a (.ins C dx (iT f (.int (i+j)) ZD))):=rfl
def JZ:DE C m sp [] E ta t σ H Q=ta σ H fun x H1=>bF x fun a=>iL C (H1 a) fun _ fs=>fs.lookup m=none/\t σ H1 fun vs H2=>sp (.ref a::vs) H2 Q E:=by
 unfold DE
 congr 1
 funext x H1;refine propext ⟨fun⟨a,dx,fs,e,e1,l,h⟩=>?_,fun h=>?_⟩
 ·subst e;show iL C (H1 a) _;rw[e1,FK];simp only[List.append_nil] at h;exact⟨l,h⟩
 ·obtain⟨a,rfl,h⟩:=aQ h;obtain⟨dx,fs,e1,l,h⟩:=mJ h;exact⟨a,dx,fs,rfl,e1,l,by simpa only[List.append_nil] using h⟩
def QC:Hb C sp [] E t σ H Q=t σ H fun vs H1=>∀ x dx,H1 x=none->H1 dx=none->dx≠x->sp (.ref x::vs) (Wa (Wa H1 dx (.own x)) x (.ins C dx [])) (fun v H2=>v=.Wb/\Q (.ref x) H2) E:=by
 unfold Hb;simp only[List.append_nil]
def K0{x y:String}:(Str.ofString x=Str.ofString y)=(x=y):=cH
def JY{x y:String}:List.lookup (Str.ofString x) ((Str.ofString y,v)::r)=if x=y then some v else List.lookup (Str.ofString x) r:=by
 by_cases h:x=y
 ·subst h;simp[List.lookup]
 ·have:(Str.ofString x==Str.ofString y)=false:=beq_eq_false_iff_ne.mpr fun z=>h (K0▸z);simp only[List.lookup,this,if_neg h]
def HM:List.lookup x ([]:List (Str×V))=none:=rfl
def QI{x y:String}:iT (Str.ofString x) u ((Str.ofString y,v)::r)=if y=x then (Str.ofString y,u)::r else (Str.ofString y,v)::iT (Str.ofString x) u r:=by
 rw[show iT (Str.ofString x) u ((Str.ofString y,v)::r)=(if Str.ofString y=Str.ofString x then (Str.ofString y,u)::r else (Str.ofString y,v)::iT (Str.ofString x) u r) from rfl];by_cases h:y=x
 ·rw[if_pos h,if_pos (by rw[h])]
 ·rw[if_neg h,if_neg fun z=>h (K0▸z)]
def Nc:iT x u []=[(x,u)]:=rfl
end
noncomputable def IX:List V->Option (List String)
 | []=>some []
 | .ty T::r=>(IX r).map (T::·)
 | _=>none
def yO(Ts:List String):Obj:={cls:=.type "tuple",data:=.seq (Ts.map Value.type).toArray}
noncomputable def Pf(t:TA):TE:=fun σ H Q=>t σ H fun xs H1=>fD (IX xs) fun Ts=>xs.length<=sizeLine/\∀ p,H1 p=none->Q 1e21 (Wa H1 p (.Wz (yO Ts) 1e54))
theorem L8:∀ {xs:List V} {Ts:List String} {us:List Value},IX xs=some Ts->We xs us->us=Ts.map Value.type
 | [],Ts,us,h,r=>by cases h;exact r.zero
 | x::xs,Ts,us,h,r=>by
  cases x with
  | ty T =>
   simp only[IX,Option.map_eq_some_iff] at h;obtain⟨Us,e,rfl⟩:=h;cases r with
   | cons r1 r2 =>
    cases r1;rw[L8 e r2];rfl
  | _=>cases h
def NJ{t:TA}{x1}(h:PA X es t):PE X (.Tuple es x1 pos) (Pf t):=by
 intro V9 s σ H Q I hq;refine wpAny_Tuple_spliced (thn (h pos V9 s σ H _ I hq) fun us s1 ⟨xs,H1,I1,r,q1⟩=>?_);obtain⟨Ts,e,z,q⟩:=cF q1;refine⟨by rw[<- r.length];exact z,?_⟩;have hf:H1 s1.heap.objs.size=none:=I1.Wh.fresh 1e5;have eu:=L8 e r;refine⟨.ref s1.heap.objs.size,Wa H1 s1.heap.objs.size (.Wz (yO Ts) 1e54),I1.laid (t':=s1.toks) (fun b u e=>Heap.get?_push_of_some _ e) 1e5 ?_,rfl,q _ hf⟩;refine⟨?_,z,us,r,⟨_,Heap.get?_push_size _ rfl,rfl,_,rfl⟩⟩;subst eu;exact Heap.get?_push_size _ rfl
noncomputable def ON:Option HO->Option String
 | some (.tup _)=>some "tuple"
 | some (.lst _)=>some "list"
 | _=>none
noncomputable def nW(H:Hp):V->Option String
 | .int _=>some "int"
 | .str _=>some "str"
 | .Wb=>some "NoneType"
 | .bl _=>some "bool"
 | .ref p=>ON (H p)
 | _=>none
noncomputable def CC:String->String->Bool
 | "int","int"=>true
 | "bool","int"=>true
 | "str","str"=>true
 | "tuple","tuple"=>true
 | "list","list"=>true
 | _,_=>false
noncomputable def OH:List V->Hp->VK->Prop:=fun vs H Q=>on2 vs fun x y=>bF y fun p=>∃ Ts xs,H p=some (.Wz (yO Ts) 1e54)/\(Ts=["int","str"]\/Ts=["list","tuple"])/\fD (nW H x) fun kd=>Q (.bl (Ts.any (CC kd))) H
def EN{k:V->V->Prop}(h:on2 vs k):∃ v w,vs=[v,w]/\k v w:=by
 unfold on2 at h;split at h
 ·exact⟨_,_,rfl,h⟩
 ·exact h.elim
section
def Hr:fF X (.builtin "isinstance") OH:=fun V9 s σ H xs us Q I r h=>by
 obtain⟨x,y,rfl,h1⟩:=EN h;obtain⟨p,rfl,Ts,zs,ep,hT,h2⟩:=aQ h1;obtain⟨kd,ek,q⟩:=cF h2;obtain⟨u,w',rfl,r1,r2⟩:=vals2 r;cases r2;have fin:∀ tk:Nat,EP X V9 σ Q (.bool (Ts.any (CC kd))) {s with toks:=tk}:=fun tk=>⟨.bl _,H,I.tok _,rfl,q⟩;have hp:s.heap.get? p=some {cls:=.type "tuple",data:=.seq (Ts.map Value.type).toArray}:=(I.Wh p _ ep).1;cases x with
 | int n =>
  cases ek;obtain⟨t,rfl⟩:=r1;rcases hT with rfl|rfl
  ·exact IsiPair.tupleOfB (Tx:="int") (cs:=[.type "int",.type "str"]) (.cons (.of_true F.isi_meta_int F.isi_self_int) (.cons (.of_false_int rfl F.isi_meta_str (by first|exact F.sub_int_str|rfl)) .nil)) rfl hp rfl fin
  ·exact IsiPair.tupleOfB (Tx:="int") (cs:=[.type "list",.type "tuple"]) (.cons (.of_false_int rfl F.isi_meta_list (by rfl)) (.cons (.of_false_int rfl F.isi_meta_tuple (by rfl)) .nil)) rfl hp rfl fin
 | str z =>
  cases ek;obtain⟨t,rfl⟩:=r1;rcases hT with rfl|rfl
  ·exact IsiPair.tupleOfB (Tx:="str") (cs:=[.type "int",.type "str"]) (.cons (.of_false_str rfl F.isi_meta_int (by rfl)) (.cons (.of_true F.isi_meta_str F.isi_self_str) .nil)) rfl hp rfl fin
  ·exact IsiPair.tupleOfB (Tx:="str") (cs:=[.type "list",.type "tuple"]) (.cons (.of_false_str rfl F.isi_meta_list (by rfl)) (.cons (.of_false_str rfl F.isi_meta_tuple (by rfl)) .nil)) rfl hp rfl fin
 | Wb =>
  cases ek;cases r1;rcases hT with rfl|rfl
  ·exact IsiPair.tupleOfB (Tx:="NoneType") (cs:=[.type "int",.type "str"]) (.cons (.of_false_none rfl F.isi_meta_int (by rfl)) (.cons (.of_false_none rfl F.isi_meta_str (by rfl)) .nil)) rfl hp rfl fin
  ·exact IsiPair.tupleOfB (Tx:="NoneType") (cs:=[.type "list",.type "tuple"]) (.cons (.of_false_none rfl F.isi_meta_list (by rfl)) (.cons (.of_false_none rfl F.isi_meta_tuple (by rfl)) .nil)) rfl hp rfl fin
 | bl b =>
  cases ek;cases r1;rcases hT with rfl|rfl
  ·exact IsiPair.tupleOfB (Tx:="bool") (cs:=[.type "int",.type "str"]) (.cons (.of_true F.isi_meta_int (by rfl)) (.cons (.of_false_bool rfl F.isi_meta_str (by rfl)) .nil)) rfl hp rfl fin
  ·exact IsiPair.tupleOfB (Tx:="bool") (cs:=[.type "list",.type "tuple"]) (.cons (.of_false_bool rfl F.isi_meta_list (by rfl)) (.cons (.of_false_bool rfl F.isi_meta_tuple (by rfl)) .nil)) rfl hp rfl fin
 | ref a =>
  cases r1;simp only[nW] at ek;unfold ON at ek;split at ek
  ·next e =>
   cases ek;obtain⟨o,eo,c⟩:=Wc.rX I (g9.of e);have ty:s.TypeIs 1e11 "tuple":=⟨o,eo,c⟩;rcases hT with rfl|rfl
   ·exact IsiPair.tupleOfB (Tx:="tuple") (cs:=[.type "int",.type "str"]) (.cons (.of_false_tuple rfl F.isi_meta_int (by rfl)) (.cons (.of_false_tuple rfl F.isi_meta_str (by rfl)) .nil)) ty hp rfl fin
   ·exact IsiPair.tupleOfB (Tx:="tuple") (cs:=[.type "list",.type "tuple"]) (.cons (.of_false_tuple rfl F.isi_meta_list (by rfl)) (.cons (.of_true F.isi_meta_tuple F.isi_self_tuple) .nil)) ty hp rfl fin
  ·next e =>
   cases ek;obtain⟨o,eo,c⟩:=Wc.nC I (e9.of e);have ty:s.TypeIs 1e11 "list":=⟨o,eo,c⟩;rcases hT with rfl|rfl
   ·exact IsiPair.tupleOfB (Tx:="list") (cs:=[.type "int",.type "str"]) (.cons (.of_false_list rfl F.isi_meta_int (by rfl)) (.cons (.of_false_list rfl F.isi_meta_str (by rfl)) .nil)) ty hp rfl fin
   ·exact IsiPair.tupleOfB (Tx:="list") (cs:=[.type "list",.type "tuple"]) (.cons (.of_true F.isi_meta_list F.isi_self_list) (.cons (.of_false_list rfl F.isi_meta_tuple (by rfl)) .nil)) ty hp rfl fin
  ·cases ek
 | _=>cases ek
end
section
variable{Q:VK}{x:V}{p:Addr}{t:TA}{i:Int}{z:Str}
def QV:Pf t σ H Q=t σ H fun xs H1=>fD (IX xs) fun Ts=>xs.length<=sizeLine/\∀ p,H1 p=none->Q 1e21 (Wa H1 p (.Wz (yO Ts) 1e54)):=rfl
def QW{S:String}:IX [.ty S,.ty T]=some [S,T]:=rfl
def Qs:OH [x,.ref p] H Q = ∃ Ts xs,H p=some (.Wz (yO Ts) 1e54)/\(Ts=["int","str"]\/Ts=["list","tuple"])/\fD (nW H x) fun kd=>Q (.bl (Ts.any (CC kd))) H:=rfl
end
def Ni{a b:Str}:tP (.str a) (.str b)=(a==b):=rfl
section
variable{o:Obj}
def Wc.Ou(I:Wc X V9 σ H s)(e:H a=some (.Wz o 1e17))(Xf:∀ ob u,X.H₀ a≠some (.Wz ob u)):Wc X V9 σ (Wa H a 1e17) s:=by
 have nn:∀ {b:Addr},H b=none->b≠a:=fun h z=>by subst z;rw[e] at h;cases h
 refine⟨I.ok,I.os,I.bare,⟨I.base.keep,I.base.slot,fun b ob q n hx=>?_,I.base.there,fun b xs q=>?_,fun b ob u q=>?_,fun b ps q=>?_⟩,I.loc,I.cell,?_,fun x c hc=>?_,fun p hp=>?_,fun b u q=>?_,I.len⟩
 ·have:=I.base.free b ob q n hx;rw[aD (nn this)];exact this
 ·have:=I.base.zO b xs q;rw[aD (cP this e 1e7)];exact this
 ·have h1:=I.base.vY b ob u q;rw[aD (fun z=>by subst z;exact Xf _ _ q)];exact h1
 ·obtain⟨more,h1⟩:=I.base.zN b ps q;exact⟨more,by rw[aD (cP h1 e 1e7)];exact h1⟩
 ·rw[aD (nn I.free)];exact I.free
 ·rw[aD (nn (I.j7 x c hc))];exact I.j7 x c hc
 ·obtain⟨h1,h2,h3⟩:=I.pin p hp;exact⟨h1,by rw[aD (nn h2)];exact h2,h3⟩
 ·have own:∀ b c,H b=some (.own c)->Wa H a 1e17 b=some (.own c):=fun b c q=>by rw[aD (cP q e 1e7)];exact q
  have tup:∀ b xs,H b=some 1e54->Wa H a 1e17 b=some 1e54:=fun b c q=>by rw[aD (cP q e 1e7)];exact q
  by_cases hb:b=a
  ·subst hb;rw[aA] at q;cases q;exact dO.zM (I.Wh b _ e).2 (fun _ _ _ z=>z) (fun b q=>own b _ q) tup
  ·rw[aD hb] at q;exact(I.Wh b u q).zM (fun _ _ _ z=>z) (fun b q=>own b _ q) tup
end
noncomputable def Pg(H₀:Hp)(D:Ends):Ends :=
 {nx:=fun σ H=>∃ a o kvs,H a=some (.Wz o 1e17)/\(∀ ob u,H₀ a≠some (.Wz ob u))/\D.nx σ (Wa H a 1e17)
  bk:=fun σ H=>∃ a o kvs,H a=some (.Wz o 1e17)/\(∀ ob u,H₀ a≠some (.Wz ob u))/\D.bk σ (Wa H a 1e17)
  ct:=fun σ H=>∃ a o kvs,H a=some (.Wz o 1e17)/\(∀ ob u,H₀ a≠some (.Wz ob u))/\D.ct σ (Wa H a 1e17)
  rt:=fun v H=>∃ a o kvs,H a=some (.Wz o 1e17)/\(∀ ob u,H₀ a≠some (.Wz ob u))/\D.rt v (Wa H a 1e17)}
def Pd(H₀:Hp)(t:TS):TS:=fun D σ H=>t (Pg H₀ D) σ H
def NU{st:Stmt}{t:TS}(h:PS X st t):PS X st (Pd X.H₀ t):=fun V9 s σ H D I hq =>
 thn (h V9 s σ H _ I hq) fun f s' q=>by
  cases f with
  | next=>obtain⟨σ',H',I',a,o,kvs,e,Xf,q⟩:=q;exact⟨σ',_,I'.Ou e Xf,q⟩
  | brk=>obtain⟨σ',H',I',a,o,kvs,e,Xf,q⟩:=q;exact⟨σ',_,I'.Ou e Xf,q⟩
  | cont=>obtain⟨σ',H',I',a,o,kvs,e,Xf,q⟩:=q;exact⟨σ',_,I'.Ou e Xf,q⟩
  | ret u=>obtain⟨v,σ',H',I',r,a,o,kvs,e,Xf,q⟩:=q;exact⟨v,σ',_,I'.Ou e Xf,r,q⟩
noncomputable def RX(ty td:TE):TE:=fun σ H Q=>ty σ H fun y H1=>td σ H1 fun x H2=>bF x fun a=>dA (H2 a) fun kvs=>fD (jC y) fun k=>Q (.bl (aX kvs k).isSome) H2
noncomputable def Jr(td ty:TE):TE:=fun σ H Q=>td σ H fun x H1=>bF x fun a=>dA (H1 a) fun _=>ty σ H1 fun y H2=>dA (H2 a) fun kvs=>fD (jC y) fun k=>fD (aX kvs k) fun v=>Q v (Wa H2 a (.dK (sA kvs k)))
noncomputable def Jq(td ty tx:TE):TE:=fun σ H Q=>td σ H fun x H1=>bF x fun a=>dA (H1 a) fun _=>ty σ H1 fun y H2=>tx σ H2 fun z H3=>dA (H3 a) fun kvs=>fD (jC y) fun k=>Q ((aX kvs k).getD z) H3
def Bn{y:V}{k:Key}(h:jC y=some k):y=kV k:=by
 cases y<;>simp[jC] at h<;>subst h<;>rfl
section
variable{o e f:Expr}{apos Wj:Pos}{td ty tx:TE}
def Lm(ho:PE X o td)(he:PE X e ty)(m:M1 X o "pop" apos e Wj):PE X (.Call (.Attribute o "pop" apos) [e] [] Wj) (Jr td ty):=fun V9 s σ H Q I h=>by
 refine wpAny_Call_method m.base m.XA m.line PySem.F.plainAttrs_dict PySem.F.slot_dict_pop PySem.F.type_dict_pop (thn 1e61 fun u s1 ⟨x,H1,I1,rx,q1⟩=>?_);obtain⟨a,rfl,q2⟩:=aQ q1;obtain⟨Wt,e0,q3⟩:=dJ q2;obtain rfl:u=Value.ref a:=rx;obtain⟨t1,t2,_⟩:=wI I1 (.inl ⟨Wt,.inl e0⟩);refine⟨t1,t2,?_⟩;rw[m.trees];refine Calls.callWith_builtin rfl (Calls.evalArgs_plain (Calls.spliced_cons (thn (he V9 s1 σ H1 _ I1 q3) fun iv s2 ⟨y,H2,I2,ry,q4⟩=>Calls.spliced_nil ?_)));obtain⟨kvs,ea,q5⟩:=dJ q4;obtain⟨k,ek,q6⟩:=cF q5;obtain⟨v,l,q7⟩:=cF q6;cases Bn ek;exact Sh I2 ea ry l 1e23 fun w' s3 I3 Xl=>⟨v,_,I3,Xl,q7⟩
def rO(hu:X.A.units+1 < cLine)(ho:PE X o td)(he:PE X e ty)(hf:PE X f tx)(m:M2 X o "get" apos e f Wj):PE X (.Call (.Attribute o "get" apos) [e,f] [] Wj) (Jq td ty tx):=fun V9 s σ H Q I h=>by
 refine wpAny_Call_method m.base m.XA m.line PySem.F.plainAttrs_dict PySem.F.slot_dict_get PySem.F.type_dict_get (thn 1e61 fun u s1 ⟨x,H1,I1,rx,q1⟩=>?_);obtain⟨a,rfl,q2⟩:=aQ q1;obtain⟨Wt,e0,q3⟩:=dJ q2;obtain rfl:u=Value.ref a:=rx;obtain⟨t1,t2,_⟩:=wI I1 (.inl ⟨Wt,.inl e0⟩);refine⟨t1,t2,?_⟩;rw[m.trees];refine Calls.callWith_builtin rfl (Calls.evalArgs_plain (Calls.spliced_cons (thn (he V9 s1 σ H1 _ I1 q3) fun iv s2 ⟨y,H2,I2,ry,q4⟩ =>
  Calls.spliced_cons (thn (hf V9 s2 σ H2 _ I2 q4) fun fv s3 ⟨z,H3,I3,rz,q5⟩=>Calls.spliced_nil ?_))))
 obtain⟨kvs,ea,q6⟩:=dJ q5;obtain⟨k,ek,q7⟩:=cF q6;cases Bn ek;exact PL hu I3 (DGet.k ea) ry rz fun w' s4 I4 Xl=>⟨_,H3,I4,Xl,q7⟩
def Gr(hu:X.A.units+1 < cLine)(hi:PE X e ty)(ho:PE X o td):PC X .In e o (RX ty td):=fun V9 s σ H Q I h=>by
 refine thn (hi V9 s σ H _ I h) fun iv s1 ⟨y,H1,I1,ry,q1⟩=>thn (ho V9 s1 σ H1 _ I1 q1) fun u s2 ⟨x,H2,I2,rx,q2⟩=>?_;obtain⟨a,rfl,q3⟩:=aQ q2;obtain⟨kvs,e0,q4⟩:=dJ q3;obtain⟨k,ek,q5⟩:=cF q4;obtain rfl:u=Value.ref a:=rx;cases Bn ek;exact Vl hu I2 (DGet.k e0) ry fun s3 I3=>⟨.bl (aX kvs k).isSome,H2,I3,rfl,q5⟩
def Fv(td:TE):TE:=fun σ H Q=>td σ H fun x H1=>bF x fun a=>dA (H1 a) fun _=>Q .Wb (Wa H1 a (.dK []))
def IA(ho:PE X o td)(Xc:attributeBase o "clear" X.env (eval o X.env)=eval o X.env:=by rfl)(Xe:(apos.endLine==Wj.line)=true:=by rfl):PE X (.Call (.Attribute o "clear" apos) [] [] Wj) (Fv td):=fun V9 s σ H Q I h=>by
 refine wpAny_Call_method0_late Xc Xe (thn 1e61 fun v s1 ⟨x,H1,I1,r1,q1⟩=>?_);obtain⟨a,rfl,q2⟩:=aQ q1;obtain⟨kvs,e0,q3⟩:=dJ q2;obtain rfl:v=Value.ref a:=r1;obtain⟨t1,t2,_⟩:=wI I1 (.inl ⟨kvs,.inl e0⟩);refine⟨"dict","dict.clear",PySem.F.plainAttrs_dict,PySem.F.slot_dict_clear,PySem.F.type_dict_clear,t1,t2,Calls.callWith_builtin rfl (PySem.evalArgs_none ?_)⟩;obtain⟨z,hd,vs,rel,dd⟩:=vB I1.Wh e0;refine call_meetsIn PySem.F.slot_dict_clear dd.typeIs PySem.F.entry_dict_clear (PySem.F.args_dict_clear_1 _) (meets_dict_clear (bJ X.prog X.w) a)
  ⟨vs,dd,by rw[<- rel.length];exact z,fun h' XN hs=>⟨.Wb,_,?_,rfl,q3⟩⟩
 have he:∃ q,h'.get? a=some q:=let ⟨q,_,_,hq,_⟩:=XN;⟨q,hq⟩;exact mZ I1 (by rw[e0];exact True.intro) hs he (oM (Nat.zero_le _) hd .nil XN)
noncomputable def OD(td ty tx:TE):TE:=fun σ H Q=>td σ H fun x H1=>bF x fun a=>dA (H1 a) fun _=>ty σ H1 fun y H2=>tx σ H2 fun z H3=>dA (H3 a) fun kvs=>fD (jC y) fun k=>kvs.length < sizeLine /\
 (∀ v,aX kvs k=some v->Q v H3)/\(aX kvs k=none->Q z (Wa H3 a (.dK (aO kvs k z))))
theorem Ln(ho:PE X o td)(he:PE X e ty)(hf:PE X f tx)(m:M2 X o "setdefault" apos e f Wj):PE X (.Call (.Attribute o "setdefault" apos) [e,f] [] Wj) (OD td ty tx):=fun V9 s σ H Q I h=>by
 refine wpAny_Call_method m.base m.XA m.line PySem.F.plainAttrs_dict PySem.F.slot_dict_setdefault PySem.F.type_dict_setdefault (thn 1e61 fun u s1 ⟨x,H1,I1,rx,q1⟩=>?_);obtain⟨a,rfl,q2⟩:=aQ q1;obtain⟨Wt,e0,q3⟩:=dJ q2;obtain rfl:u=Value.ref a:=rx;obtain⟨t1,t2,_⟩:=wI I1 (.inl ⟨Wt,.inl e0⟩);refine⟨t1,t2,?_⟩;rw[m.trees];refine Calls.callWith_builtin rfl (Calls.evalArgs_plain (Calls.spliced_cons (thn (he V9 s1 σ H1 _ I1 q3) fun iv s2 ⟨y,H2,I2,ry,q4⟩ =>
  Calls.spliced_cons (thn (hf V9 s2 σ H2 _ I2 q4) fun fv s3 ⟨z,H3,I3,rz,q5⟩=>Calls.spliced_nil ?_))))
 obtain⟨kvs,ea,q6⟩:=dJ q5;obtain⟨k,ek,hl,q7,q8⟩:=cF q6;cases Bn ek;obtain⟨z',hd,vs,rel,dd⟩:=vB I3.Wh ea;refine call_meetsIn PySem.F.slot_dict_setdefault dd.typeIs PySem.F.entry_dict_setdefault (PySem.F.args_dict_setdefault_3 _ _ _) (kt_meets_setdefault (bJ X.prog X.w) a (nV ry) hd fv)
  ⟨vs,dd,by rw[<- rel.length];exact z',fun v hv=>?_,fun hv h' XN hs=>?_⟩
 ·have:=rel.val k;rw[hv] at this;cases l:aX kvs k with
  | none=>rw[l] at this;exact this.elim
  | some w=>rw[l] at this;exact⟨w,H3,I3.tok _,this,q7 w l⟩
 ·have:=rel.val k;rw[hv] at this;cases l:aX kvs k with
  | some w=>rw[l] at this;exact this.elim
  | none =>
   have he:∃ q,h'.get? a=some q:=let ⟨q,_,_,hq,_⟩:=XN;⟨q,hq⟩;exact⟨z,_,mZ I3 (by rw[ea];exact True.intro) hs he (oM (by have:=iE kvs k z;omega) hd (rel.put k rz) XN),rz,q8 l⟩
end
section
variable{td ty tx:TE}{H₀:Hp}{Q:VK}{t:TS}{D:Ends}{v:V}
def QM:Pd H₀ t D σ H=t (Pg H₀ D) σ H:=rfl
def Qb:RX ty td σ H Q=ty σ H fun y H1=>td σ H1 fun x H2=>bF x fun a=>dA (H2 a) fun kvs=>fD (jC y) fun k=>Q (.bl (aX kvs k).isSome) H2:=rfl
def MP:Jr td ty σ H Q=td σ H fun x H1=>bF x fun a=>dA (H1 a) fun _=>ty σ H1 fun y H2=>dA (H2 a) fun kvs=>fD (jC y) fun k=>fD (aX kvs k) fun v=>Q v (Wa H2 a (.dK (sA kvs k))):=rfl
def JX:Jq td ty tx σ H Q=td σ H fun x H1=>bF x fun a=>dA (H1 a) fun _=>ty σ H1 fun y H2=>tx σ H2 fun z H3=>dA (H3 a) fun kvs=>fD (jC y) fun k=>Q ((aX kvs k).getD z) H3:=rfl
def JW:Fv td σ H Q=td σ H fun x H1=>bF x fun a=>dA (H1 a) fun _=>Q .Wb (Wa H1 a (.dK [])):=rfl
def MQ:OD td ty tx σ H Q=td σ H fun x H1=>bF x fun a=>dA (H1 a) fun _=>ty σ H1 fun y H2=>tx σ H2 fun z H3=>dA (H3 a) fun kvs=>fD (jC y) fun k=>kvs.length < sizeLine/\(∀ v,aX kvs k=some v->Q v H3)/\(aX kvs k=none->Q z (Wa H3 a (.dK (aO kvs k z)))):=rfl
end
def OF:V->V->Hp->VK->Prop:=fun x y H Q=>bF x fun p=>gE y fun i=>dX (H p) fun xs=>fD (fI xs i) fun v=>Q v H
def R8:TIp:=fun x y H Q=>gE x fun i=>gE y fun j=>Q (.int (i+j)) H
section
theorem Tw:PGet X OF:=fun V9 s σ H o i ov iv Q I ro ri h=>by
 obtain⟨p,rfl,h1⟩:=aQ h;obtain⟨k,rfl,h2⟩:=dR h1;obtain⟨xs,e,h3⟩:=eV h2;obtain⟨v,ea,q⟩:=cF h3;cases ro;obtain⟨t,rfl⟩:=ri;obtain⟨Wd,r,pl,hz⟩:=I.list (e9.of e);obtain⟨j,g1,g2,g3,g4,g5⟩:=tO ea;obtain⟨w,ew,Xl⟩:=r.get g2;have hl:=r.length;have hn:=line63;have fin:EP X V9 σ Q w s:=⟨v,H,I,Xl,q⟩;by_cases h0:0<=k
 ·have hj:k.toNat=j:=by
   rw[seqIndex_of h0 g5] at g1;exact Option.some.inj g1
  exact wpAny_getItem_list pl.isList h0 1e0 (by rw[hj];simpa using ew) fin
 ·have hj:(k+(Wd.toArray.size:Int)).toNat=j:=by
   rw[seqIndex_neg 1e0 g4] at g1;rw[List.size_toArray,<- hl];exact Option.some.inj g1
  exact wpAny_getItem_list_neg pl.isList 1e0 (by rw[List.size_toArray];omega) 1e0 (by rw[hj];simpa using ew) fin
def Gd:PIp X .Add R8:=fun V9 s σ H x y v u Q I r1 r2 h=>by
 obtain⟨i,rfl,h1⟩:=dR h;obtain⟨j,rfl,q⟩:=dR h1;exact QZ V9 s σ H _ _ v u Q I r1 r2 ⟨i,j,rfl,rfl,q⟩
end
structure RT(P:Params)(K:q0B)(d:Addr):Prop where
 ex:∃ es n,K.lookup d=some {cls:=.type "dict",data:=.dict es n}/\PySem.W.KeysLit P es.toList
noncomputable def Pa(tab:List (Str×Sp))(tk:TE)(t:TA):TE:=fun σ H Q=>tk σ H fun y H1=>CZ y fun x=>fD (tab.lookup x) fun sp=>t σ H1 fun vs H2=>sp vs H2 Q E0
theorem NI{p pos':Pos}{d:Addr}{ke e:Expr}{tk:TE}{t:TA}{k:Nat}{tab:List (Str×Sp)}(hg:Gl X x)(hm:X.mg x=some (.ref d))(M:RT X.w.params X.K d)(hk:PE X ke tk)(hs:Mg ke)
    (F:∀ y sp,tab.lookup y=some sp->∃ f fd ps,PySem.W.nsIn X.K d y=some (some (.ref f))/\eP X.prog X.w X.K X.mg X.base WW k f fd ps sp/\PySem.W.keepIn X.K (.ref f)=true/\Binds X.K fd ps [])
    (hr:Room k X.A) (ha:PA X (e::es) t) (hd:1e34=false:=by decide) (he:starEach (e::es) X.env=(false,eval e X.env)::starEach es X.env:=by rfl) (WH:(backTo pos 1e59).any (·.1)=false:=by rfl)
    (hc:eval (.Call (.Subscript (.Name x p) ke pos') (e::es) [] pos) X.env=(do
      let f <- eval (.Subscript (.Name x p) ke pos') X.env
      callWith pos f [] (backTo pos (starEach (e::es) X.env)) (backToKw pos (keywordEach [] X.env))):=by rfl) :
    PE X (.Call (.Subscript (.Name x p) ke pos') (e::es) [] pos) (Pa tab tk t):=fun V9 s σ H Q I h=>by
  obtain⟨es',n',lk,kl⟩:=M.ex;refine PyProof.Rows.Call_ (GX (T:="dict") PySem.F.slot_dict_getitem.lookup hs (thn (pX (v:=.ref d) hg hm rfl hd V9 s σ H (fun v H'=>v=.ref d/\tk σ H' _) I ⟨rfl,h⟩) fun o s1 ⟨v,H1,I1,r1,ev,q1⟩=>?_)) hc;subst ev;obtain rfl:o=Value.ref d:=r1;refine thn (hk V9 s1 σ H1 _ I1 q1) fun i s2 ⟨y,H2,I2,ry,q2⟩=>?_;obtain⟨z,rfl,q3⟩:=Lg q2;obtain⟨sp,el,q4⟩:=cF q3;obtain⟨f,fd,ps,Zc,hf,hkp,hb⟩:=F z sp el;obtain⟨t',rfl⟩:=ry;obtain⟨m,fr⟩:=I2.fr;refine⟨⟨_,I2.kIn _ _ lk,rfl⟩,PySem.W.topGetDict_K fr I2.mod.kin lk kl Zc ?_⟩;refine PySem.W.callWith_K (h₀:=X.base) I2.mod.kin hkp (thn (ha pos V9 _ σ H2 _ (I2.tok _) q4) fun us s3 ⟨vs,H3,I3,r3,q5⟩=>⟨I3.kIn,?_⟩) he WH;exact BJ (E:=E0) hf hr hb .nil pass0 I3 r3 (by simpa using q5)
section
variable{tab:List (Str×Sp)}{tk to ti te:TE}{t:TA}{Q:VK}{D:Ends}{p:Addr}{i j:Int}{XY:V->V->Hp->VK->Prop}{tip:TIp}{X0:TSet}
def Qa:Pa tab tk t σ H Q=tk σ H fun y H1=>CZ y fun x=>fD (tab.lookup x) fun sp=>t σ H1 fun vs H2=>sp vs H2 Q E0:=rfl
def Ql:OF 1e21 (.int i) H Q=dX (H p) fun xs=>fD (fI xs i) fun v=>Q v H:=rfl
def SF:R8 (.int i) (.int j) H Q=Q (.int (i+j)) H:=rfl
def P2:O0 to ti te XY tip X0 D σ H=to σ H fun o H1=>ti σ H1 fun i H2=>XY o i H2 fun x H3=>te σ H3 fun y H4=>tip x y H4 fun z H5=>X0 o i z H5 fun H6=>D.nx σ H6:=rfl
def Ss{i:Nat}{ti:TIp}:Uv i te ti D σ H = ∃ x,σ[i]?=some (some x)/\te σ H fun y H1=>ti x y H1 fun z H2=>D.nx (σ.set i (some z)) H2:=rfl
end
noncomputable def intKeys:List 1e35->Option (List Int)
 | []=>some []
 | (.inl i,_)::r=>(intKeys r).map (i::·)
 | _=>none
theorem wH:∀ {kvs:List 1e35} {ns:List Int},intKeys kvs=some ns->kvs.length=ns.length/\∀(j:Nat) (k:Key) (x:V),kvs[j]?=some (k,x)->∃ i:Int,k=.inl i/\ns[j]?=some i
 | [],ns,h=>by cases h;exact⟨rfl,fun j k x e=>by simp at e⟩
 | (k,v)::kvs,ns,h=>by
  cases k with
  | inl i =>
   simp only[intKeys,Option.map_eq_some_iff] at h;obtain⟨ms,e,rfl⟩:=h;obtain⟨l,f⟩:=wH e;refine⟨by simp[l],fun j k x ej=>?_⟩;cases j with
   | zero=>simp only[List.getElem?_cons_zero,Option.some.injEq,Prod.mk.injEq] at ej;exact⟨i,ej.1.symm,rfl⟩
   | succ j=>exact f j k x (by simpa using ej)
  | _=>cases h
def Gb:∀ {vs:List Value},vs.length=ns.length->(∀(j:Nat) (v:Value),vs[j]?=some v->∃ i t,ns[j]?=some i/\v=Value.int i t)->IntsAre vs ns:=by
 induction ns with
 | nil =>
  intro vs hl _;cases vs with
  | nil=>exact .nil
  | cons _ _=>simp at hl
 | cons n ns ih =>
  intro vs hl h;cases vs with
  | nil=>simp at hl
  | cons v vs =>
   obtain⟨i,t,e,rfl⟩:=h 0 v rfl;cases e;exact .cons _ _ (ih (by simpa using hl) fun j v e=>h (j+1) v (by simpa using e))
def dO.there{o:HO}(x:dO P w H h a o):∃ ob,h.get? a=some ob:=by
 cases o with
 | lst xs=>obtain⟨_,_,_,_,e⟩:=x;exact⟨_,e⟩
 | tup xs=>obtain⟨_,_,_,o,e,_⟩:=x;exact⟨_,e⟩
 | dK kvs=>obtain⟨_,_,_,_,o,_,_,e,_⟩:=x;exact⟨_,e⟩
 | dT kvs=>obtain⟨_,_,_,_,o,_,_,e,_⟩:=x;exact⟨_,e⟩
 | set S n=>obtain⟨o,_,_,_,e,_⟩:=x;exact⟨_,e⟩
 | ins C dx fs=>obtain⟨_,_,_,e,_⟩:=x;exact⟨_,e⟩
 | own y=>obtain⟨_,e⟩:=x;exact⟨_,e⟩
 | xd fs=>obtain⟨_,⟨_,_,_,e,_⟩,_⟩:=x;exact⟨_,e⟩
 | rng lo hi=>obtain⟨_,_,_,e⟩:=x;exact⟨_,e⟩
 | Wz ob u=>obtain⟨e,_⟩:=x;exact⟨_,e⟩
 | ZX ps=>exact⟨_,(show h.get? a=some _ from x)⟩
 | met f y=>exact⟨_,(show h.get? a=some _ from x)⟩
 | ext φ=>obtain⟨_,⟨_,e⟩,_⟩:=x;exact⟨_,e⟩
section
variable{Q:VK}{p:Addr}
end
section
variable{h':Heap}
end
section
variable{prog:Program}
end
section
variable{prog:Program}
end
section
variable{t:Bool}
end
section
variable{elts:List Expr}{k:Nat}{tp:Pos}
end
section
variable{D:Ends}{g:TG}{tb:TS}{as:TA}
end
structure kO(X:Cx)(sc:Scope)(cl:List (Str×Addr))(x y0:Str)(fr:List Nat)(N:List Str):Prop where
 kind:sc.kind=.function
 wY:∀ y∈sc.names,y.2≠.cell
 names:∀ y∈sc.names,y.2=.local->sc.names.lookup y.1=some .local
 Ce:closureFor sc X.env=pure cl
 sub:∀ y c,cl.lookup y=some c->X.env.cells.lookup y=some c
 has:∀ y,((relabel sc X.env).names.lookup y=some .cell\/(relabel sc X.env).names.lookup y=some .free)->∃ c,cl.lookup y=some c
 tgt:sc.names.lookup x=some .local
 RN:sc.names.lookup y0=some .local
 nd:N.Nodup
 N0:N=x::y0::fr.map fun j=>X.N.getD j x
 YJ:∀ j∈fr,∃ y,X.N[j]?=some y/\X.env.kindOf y=some .cell/\((relabel sc X.env).names.lookup y=some .cell\/(relabel sc X.env).names.lookup y=some .free)
section
variable{sc:Scope}{C:Addr}{y0:Str}{N:List Str}
def JD(I:Wc X V9 σ H s)(S:kO X sc cl x y0 fr N)(hf:∀ b∈fp,lV X V9 H b)(XS:∀ b∈fp,b < s.heap.objs.size)(hC:s.heap.objs.size<=C) : (bP X sc cl C N s H fp (X.pn++V9)).Ok where
 mod:=I.ok.mod
 kind:=S.kind
 glob:=I.ok.glob
 blt:=I.ok.blt
 above:=hC
 inj:=fun n z c h1 h2=>I.ok.inj n z c (S.sub n c h1) (S.sub z c h2)
 has:=S.has
 cab:=fun _ _ h=>by cases h
 hd:=I.ok.hd
 frames:=I.ok.frames
 stk:=.inl rfl
 exf:=fun b hb=>⟨Nat.ne_of_lt (Nat.lt_of_lt_of_le (XS b hb) hC),fun n c e=>(hf b hb).2.2.2.2.1 n c (S.sub n c e)⟩
 bs:=I.bs
 bsz:=Nat.le_trans I.ok.bsz I.sz
 CQ:=fun b o e hb=>by
  rcases(hf b hb).2.2.2.1 with z|z
  ·exact I.ok.CQ b o e z
  ·exact absurd (Nat.lt_of_lt_of_le 1e26 (Nat.le_trans I.ok.bsz z)) (Nat.lt_irrefl _)
 HP:=fun b hb hm=>by
  rcases List.mem_cons.mp (I.oY b hm) with z|z
  ·exact(hf b hb).2.1 z
  ·exact(hf b hb).2.2.1 z
 pM:=I.stack
 frf:=I.BQ
def Hv(I:Wc X V9 σ H s)(S:kO X sc cl x y0 fr N)(hf:∀ b∈fp,lV X V9 H b)(XS:∀ b∈fp,b < s.heap.objs.size)(hC:s.heap.objs.size<=C){h1:Heap}{t1:Nat}{m0:q0C}(hn:h1.Ns C m0)(hk:∀ b o,s.heap.get? b=some o->h1.get? b=some o):Wc (bP X sc cl C N s H fp (X.pn++V9)) [] (none::none::aT fr σ) H {s with heap:=h1,toks:=t1}:=by
 refine⟨JD I S hf XS hC,rfl,I.bare,Un.kept hk,⟨m0,hn,fun i y v e1 e2 e3=>?_⟩,fun y c e=>?_,I.Wh.fresh hC,fun y c e=>I.j7 y c (S.sub y c e),fun p hp=>?_,I.Wh.kept hk,?_⟩
 ·have Xs:N[i]?=some y:=e1;rw[S.N0] at Xs
  match i,Xs,e2 with
  | 0,_,e2=>exact absurd (show(some (none:Option V))=some (some v) from e2) 1e1
  | 1,_,e2=>exact absurd (show(some (none:Option V))=some (some v) from e2) 1e1
  | j+2,Xs,e2 =>
   have W9:(fr.map fun j=>X.N.getD j x)[j]?=some y:=Xs;have YD:(aT fr σ)[j]?=some (some v):=e2;unfold aT at YD;rw[List.getElem?_map] at W9 YD;cases q:fr[j]? with
   | none=>rw[q] at W9;cases W9
   | some k =>
    rw[q] at W9 YD;have ey:X.N.getD k x=y:=Option.some.inj W9;have ev:(σ[k]?).join=some v:=Option.some.inj YD;obtain⟨y',hy,Xd,YZ⟩:=S.YJ k (List.mem_of_getElem? q);have eyy:y=y':=by
     rw[<- ey,List.getD_eq_getElem?_getD,hy];rfl
    subst eyy;have ev':σ[k]?=some (some v):=by
     cases z:σ[k]? with
     | none=>rw[z] at ev;cases ev
     | some o =>
      rw[z] at ev;have ev2:o=some v:=ev;rw[ev2]
    obtain⟨m,_,hl⟩:=I.loc;obtain⟨u,r,l⟩:=hl k y v hy ev' (.inr (.inl Xd));refine⟨u,r,.inr ⟨YZ,?_⟩⟩;rcases l with⟨z,_⟩|⟨_,c,hc,o,ho,hd⟩
    ·rw[Xd] at z;cases z
    ·obtain⟨c',YO⟩:=S.has y YZ;have z:=S.sub y c' YO;rw[hc] at z;cases z;exact⟨c,YO,o,hk c o ho,hd⟩
 ·obtain⟨v,o,ho,hd⟩:=I.cell y c (S.sub y c e);exact⟨v,o,hk c o ho,hd⟩
 ·have hp':p∈X.pn++V9:=by
   have z:p∈(X.pn++V9)++[]:=hp;simpa using z
  obtain⟨e,n,ne,nf,d⟩:=I.pin p hp';exact⟨hk _ _ e,n,Nat.ne_of_lt (Nat.lt_of_lt_of_le 1e26 hC),nostk I ne nf,d⟩
 ·show(none::none::aT fr σ).length=N.length;rw[S.N0];simp[aT]
end
@[irreducible] def yL(K:q0B)(wi:TI)(fr:List Nat)(tc:TT)(te:TE):TE:=fun σ H Q=>wi σ H fun J H1=>∃ W:Nat->Nat->List V->Hp->Prop,(∃ m,W 0 m [] H1)/\∀ i m xs H,W i m xs H->xs.length<=1000000 /\
  ((J.stop i H/\∀ p,H p=none->Q 1e21 (Wa H p 1e20)) \/
   (J.go i H/\∀ v H',J.X9 i H v H'->∃ p y y2,v=.ref p/\g9 K H' p [y,y2]/\tc (some y::some y2::aT fr σ) H' fun b H2=>if b=true then te (some y::some y2::aT fr σ) H2 (fun z H3=>∃ m',m' < m/\W (i+1) m' (xs++[z]) H3) else ∃ m',m' < m/\W (i+1) m' xs H2))
section
variable{sc:Scope}{y0:Str}{N:List Str}{elt iter:Expr}{px py tp:Pos}{tk:Nat}{ifs:List Expr}{wi:TI}{tc:TT}{te:TE}
theorem Cg(hc:X.calm=true)(hx:∀ e s,¬ X.xe e s)(S:kO X sc cl x y0 fr N)(hb:∀ C s H ex pn,Zx 1e58 ifs tc/\PE 1e58 elt te){J:It}{Q:VK}(I:Wc X V9 σ H s)(T:Turn X.prog X.w X.K (.Tuple [.Name x px,.Name y0 py] tk tp) J fp it tn)(st:tn 0 s.heap)(hf:∀ b∈fp,lV X V9 H b){m0:Nat}(w0:W 0 m0 [] H)(turn:∀ i m xs H,W i m xs H->xs.length<=1000000 /\ ((J.stop i H/\∀ p,H p=none->Q 1e21 (Wa H p 1e20)) \/ (J.go i H/\∀ v H',J.X9 i H v H'->∃ p y y2,v=.ref p/\g9 X.K H' p [y,y2]/\tc (some y::some y2::aT fr σ) H' fun b H2=>if b=true then te (some y::some y2::aT fr σ) H2 (fun z H3=>∃ m',m' < m/\W (i+1) m' (xs++[z]) H3) else ∃ m',m' < m/\W (i+1) m' xs H2)))(fin:∀(D C:Addr) (s':Shared) (m':q0C) (H':Hp),s'.heap.Ns C m'->lV X V9 H' C->(∀ h',Heap.SameBut C s'.heap h'->Wc X V9 σ H' {s' with heap:=h'})->Q (.ref D) H'->RR (.ref D) C (.ok .next) s') : wpAny 1e2 X.A (newList []) (fun acc s₃=>wpAny 1e2 X.A (newFunctionEnv sc X.env.globals cl [] X.env.qual none .none (some X.env)) (fun YC s₄ => codeAny 1e2 X.A (.compStart (.ListComp elt [⟨.Tuple [.Name x px,.Name y0 py] tk tp,iter,ifs,0⟩] sc pos) 0 (.ref it) acc {YC with scope:=relabel sc X.env}) (RR acc YC.locals) s₄) E s₃) E s:=by
  refine wpAny_newObj_type (wpAny_newFunctionEnv S.wY (by intro y hy;simp at hy) (fun h₁ XT Xu=>?_) S.kind);dsimp only at XT Xu ⊢;generalize hH2:s.heap.push {cls:=.type "list",dict:=none,data:=.seq ([]:List Value).toArray}=G2 at XT Xu ⊢;have hCs:G2.objs.size=s.heap.objs.size+1:=by rw[<- hH2,Heap.size_push]
  have Yf:s.heap.objs.size≠G2.objs.size:=by rw[hCs];exact Nat.ne_of_lt (Nat.lt_succ_self _)
  have hC:s.heap.objs.size<=G2.objs.size:=by rw[hCs];exact Nat.le_succ _
  have below:∀ b,b < s.heap.objs.size->b≠G2.objs.size:=fun b hb=>by rw[hCs];exact Nat.ne_of_lt (Nat.lt_succ_of_lt hb)
  have old:∀ b o,s.heap.get? b=some o->h₁.get? b=some o:=fun b o e=>Xu.extBut b o (below b 1e26) (Heap.get?_push_of_some _ (hH2▸Heap.get?_push_of_some _ e));have hD1:h₁.get? s.heap.objs.size=some {cls:=.type "list",data:=.seq ([]:List Value).toArray 0}:=Xu.extBut _ _ Yf (Heap.get?_push_of_some _ (hH2▸Heap.get?_push_size _ rfl));have XS:∀ b∈fp,b < s.heap.objs.size:=fun b hbm=>by
    obtain⟨o,e,_⟩:=T.obj 0 s.heap st b hbm;exact Heap.lt_size e
  have YK:H s.heap.objs.size=none:=I.Wh.fresh 1e5;have Z2:s.heap.objs.size∉frs X.stack:=fun hm=>by
    rcases List.mem_cons.mp (I.oY _ hm) with z|z
    · exact absurd I.lt (by rw[<- z];exact Nat.lt_irrefl _)
    · exact I.Rc 1e5 z
  have Yz:∀ y c,cl.lookup y=some c->c≠s.heap.objs.size:=fun y c e z=>by
    obtain⟨v,q⟩:=I.cell y c (S.sub y c e);exact absurd q.lt (by rw[z];exact Nat.lt_irrefl _)
  have Z1:∀ p∈X.pn++V9,p.1≠s.heap.objs.size:=fun p hp z=>absurd (Heap.lt_size (I.pin p hp).1) (by rw[z];exact Nat.lt_irrefl _);have Dfp:s.heap.objs.size∉fp:=fun hm=>Nat.lt_irrefl _ (XS _ hm);have loop:∀ s₃:Shared,s₃={s with heap:=h₁,toks:=s.toks+([]:List (Str×Value)).length} ->
      codeAny 1e2 X.A (.compLoop (.ListComp elt [⟨.Tuple [.Name x px,.Name y0 py] tk tp,iter,ifs,0⟩] sc pos) 0 (.ref it) 1e33 (compEnvC sc cl G2.objs.size X.env)) (RR 1e33 G2.objs.size) s₃:=by
    rintro s₃ rfl;have I0:Wc 1e14 [] (none::none::aT fr σ) H {s with heap:=h₁,toks:=s.toks+([]:List (Str×Value)).length}:=Hv I S hf XS hC XT old;refine rZ (fun n s'=>∃(i:Nat) (xs:List V) (vals:List Value) (k:Nat) (v0 v1:Option V) (H':Hp),Wc 1e14 [] (v0::v1::aT fr σ) H' s'/\tn i s'.heap/\(∀ b∈fp,H' b=none) /\
      s'.heap.get? s.heap.objs.size=some {cls:=.type "list",data:=.seq vals.toArray k}/\We xs vals/\H' s.heap.objs.size=none/\W i n xs H') ?_ m0
      ⟨0,[],[],0,none,none,H,I0,T.keep _ _ _ st fun b _ o e=>old b o e,fun b hb=>(hf b hb).1,hD1,.nil,YK,w0⟩
    rintro n s1 ⟨i,xs,vals,k,v0,v1,H1,I1,st1,fr1,hg1,Zu,aaB,w1⟩;have hlen:=Zu.length;obtain⟨hz,step⟩:=turn i n xs H1 w1;have hz2:xs.length<=sizeLine:=Nat.le_trans hz 1e6;have Xh:∀ {H':Hp} {pl:List 1e13},(∀ b∈fp,H' b=none)->(∀ p∈pl,p.1=s.heap.objs.size)->∀ b∈fp,lV 1e14 pl H' b:=fun {H' pl} hn WH b hb =>
      ⟨hn b hb,below b (XS b hb),nostk I (hf b hb).2.1 (hf b hb).2.2.1,.inl hb,fun y c e=>(hf b hb).2.2.2.2.1 y c (S.sub y c e),fun p hp z=>by
        rcases List.mem_append.mp hp with q|q
        · exact(hf b hb).2.2.2.2.2 p q z
        · exact Dfp (by rw[<- WH p q,z];exact hb)⟩
    have I1':Wc 1e14 [(s.heap.objs.size,{cls:=.type "list",data:=.seq vals.toArray k})] (v0::v1::aT fr σ) H1 s1:=I1.jK fun p hp=>by
      have e:p=(s.heap.objs.size,{cls:=.type "list",data:=.seq vals.toArray k}):=by simpa using hp
      subst e;exact⟨hg1,aaB,Yf,Z2,fun v z=>by cases z⟩
    rcases step with⟨stop,hq⟩|⟨go,step⟩
    · refine thn (T.done 1e14 rfl rfl rfl hc i [(s.heap.objs.size,{cls:=.type "list",data:=.seq vals.toArray k})] s1 _ H1 _ I1' (Xh fr1 fun p hp=>by
        have e:p=(s.heap.objs.size,{cls:=.type "list",data:=.seq vals.toArray k}):=by simpa using hp
        rw[e]) st1 stop) fun r s2 ⟨hr,I2⟩=>?_
      subst hr;obtain⟨g2,n2,_⟩:=I2.pin (s.heap.objs.size,{cls:=.type "list",data:=.seq vals.toArray k}) (List.mem_append_right _ 1e1);obtain⟨m2,Zb,_⟩:=I2.loc;have hCn:Wa H1 s.heap.objs.size 1e20 G2.objs.size=none:=by
        rw[aD (Ne.symm Yf)];exact I2.free
      exact fin s.heap.objs.size G2.objs.size s2 m2 _ Zb (I.HS hC hCn) (fun h' X4=>Ci I hf I2 hC 1e5 Yf n2 g2 Zu hz2 X4) (hq _ n2)
    · refine thn (T.item 1e14 rfl rfl rfl hc i [(s.heap.objs.size,{cls:=.type "list",data:=.seq vals.toArray k})] s1 _ H1 _ I1' (Xh fr1 fun p hp=>by
        have e:p=(s.heap.objs.size,{cls:=.type "list",data:=.seq vals.toArray k}):=by simpa using hp
        rw[e]) st1 go) fun r s2 ⟨u,hr,h2⟩=>?_
      subst hr;refine thn h2 fun _ s3 ⟨vv,H3,I3,r3,y3,Zh,ZC⟩=>?_;have I3':=I3.pinned (Xh ZC fun p hp=>by
        have e:p=(s.heap.objs.size,{cls:=.type "list",data:=.seq vals.toArray k}):=by simpa using hp
        rw[e]) (T.obj _ _ Zh)
      have back:∀ {σ9:St} {H9:Hp} {s9:Shared},Wc 1e14 ([(s.heap.objs.size,{cls:=.type "list",data:=.seq vals.toArray k})]++rQ fp s3.heap) σ9 H9 s9 ->
          tn (i+1) s9.heap/\(∀ b∈fp,H9 b=none)/\s9.heap.get? s.heap.objs.size=some {cls:=.type "list",data:=.seq vals.toArray k}/\H9 s.heap.objs.size=none:=fun {σ9 H9 s9} I9=>by
        refine⟨T.keep _ _ _ Zh fun b hb o e=>(I9.pin (b,o) (List.mem_append_right _ (List.mem_append_right _ (gY hb e)))).1,fun b hb=>?_,?_⟩
        · obtain⟨o,e,d⟩:=T.obj _ _ Zh b hb;exact(I9.pin (b,o) (List.mem_append_right _ (List.mem_append_right _ (gY hb e)))).2.1
        · obtain⟨a1,a2,_⟩:=I9.pin (s.heap.objs.size,{cls:=.type "list",data:=.seq vals.toArray k}) (List.mem_append_right _ (List.mem_append_left _ 1e1));exact⟨a1,a2⟩
      have hN0:(bP X sc cl G2.objs.size N s H fp (X.pn++V9)).N[0]?=some x:=by
        show N[0]?=some x;rw[S.N0];rfl
      have hN1:(bP X sc cl G2.objs.size N s H fp (X.pn++V9)).N[1]?=some y0:=by
        show N[1]?=some y0;rw[S.N0];rfl
      have YU:(relabel sc X.env).names.lookup x=some .local:=lookup_relabel_local S.tgt;have ZK:(relabel sc X.env).names.lookup y0=some .local:=lookup_relabel_local S.RN;have hpg:PG 1e14 (.Tuple [.Name x px,.Name y0 py] tk tp) (Nk X.K 2 (FV (jF 0) (FV (jF 1) Nj))):=Lu hc (eW (uD (i:=0) S.nd hN0 (.inl YU) (.inr YU)) (eW (uD (i:=1) S.nd hN1 (.inl ZK) (.inr ZK)) uE));have noX:∀ e s',(bP X sc cl G2.objs.size N s H fp (X.pn++V9)).xe e s'->sI X.prog X.w X.A (compEnvC sc cl G2.objs.size X.env) (RR 1e33 G2.objs.size) e s':=fun e s' z=>(hx e s' z).elim;obtain⟨pp,y,y2,rfl,hpp,YY⟩:=step vv H3 y3;refine wpAny_mono (hpg _ s3 _ H3 (.ref pp) u (fun σ' H'=>σ'=some y::some y2::aT fr σ/\H'=H3) I3' r3 ⟨pp,[y,y2],rfl,hpp,rfl,_,_,rfl,_,_,rfl,rfl,rfl,rfl⟩) (fun _ s4 ⟨σ4,H4,I4,e4,e4'⟩=>?_) noX;subst e4 e4';obtain⟨hbT,hbE⟩:=hb G2.objs.size s H fp (X.pn++V9);refine wpAny_mono (hbT _ s4 _ H4 _ I4 YY) (fun ok s5 ⟨H5,I5,q5⟩=>?_) noX;cases ok with
      | false =>
        rw[if_neg Bool.false_ne_true];have q5':∃ m',m' < n/\W (i+1) m' xs H5:=q5;obtain⟨m',hm,w5⟩:=q5';obtain⟨b1,b2,b3,b4⟩:=back I5;exact⟨m',hm,i+1,xs,vals,k,some y,some y2,H5,I5.jK (fun p hp=>absurd hp 1e1),b1,b2,b3,Zu,b4,w5⟩
      | true =>
        rw[if_pos rfl];refine wpAny_mono (hbE _ s5 _ H5 _ I5 q5) (fun z s6 ⟨v6,H6,I6,r6,q6⟩=>?_) noX;obtain⟨m',hm,w6⟩:=q6;obtain⟨b1,b2,b3,b4⟩:=back I6;refine call_meets F.slot_list_append ⟨_,b3,rfl⟩ F.entry_list_append (F.args_list_append_2 _ _) (PySem.list_append s.heap.objs.size vals.toArray k z (by rw[List.size_toArray];omega)) ⟨b3,?_⟩;have q7:=PySem.IsL.update b3 (fun a:Array Value=>a.push z);have YX:vals.toArray.push z=(vals++[z]).toArray:=by simp
        rw[YX] at q7;have I6':Wc 1e14 [] (some y::some y2::aT fr σ) H6 s6:=I6.jK (fun p hp=>absurd hp 1e1);have others:∀ b o,b≠s.heap.objs.size->s6.heap.get? b=some o->(s6.heap.update s.heap.objs.size (Obj.mapSeq fun a=>a.push z)).get? b=some o:=fun b o WD e=>(Heap.get?_update_other _ _ (Ne.symm WD)).trans e;refine⟨m',hm,i+1,xs++[v6],vals++[z],_,some y,some y2,H6,I6'.turned (it:=s.heap.objs.size) others b4 Yf (.inr 1e5) Yz (fun p hp z'=>?_),T.keep _ _ _ b1 fun b WD o e=>others b o (fun z'=>Dfp (by rw[<- z'];exact WD)) e,b2,q7,Zu.append (.cons r6 .nil),b4,w6⟩;have hp':p∈X.pn++V9:=by
          have z2:p∈(X.pn++V9)++[]:=hp;simpa using z2
        exact Z1 p hp' z'
  exact codeAny_compStart_list (loop _ rfl) (T.self _ _ _ _ _ (T.keep _ _ _ st fun b _ o e=>old b o e) (loop _ rfl))
end
def kO.of{sc:Scope}{y0:Str}{N M:List Str}(S:eQ X sc cl x fr M)(RN:sc.names.lookup y0=some .local)(nd:N.Nodup)(N0:N=x::y0::fr.map fun j=>X.N.getD j x):kO X sc cl x y0 fr N :=
 ⟨S.kind,S.wY,S.names,S.Ce,S.sub,S.has,S.tgt,RN,nd,N0,S.YJ⟩
noncomputable def lc2(K:q0B)(J:It)(fr:List Nat)(tc:TT)(te:TE)(σ:St)(H:Hp)(Q:VK):Prop:=∃ W:Nat->Nat->List V->Hp->Prop,(∃ m,W 0 m [] H)/\∀ i m xs H,W i m xs H->xs.length<=1000000 /\
  ((J.stop i H/\∀ p,H p=none->Q 1e21 (Wa H p 1e20)) \/
   (J.go i H/\∀ v H',J.X9 i H v H'->∃ p y y2,v=.ref p/\g9 K H' p [y,y2]/\tc (some y::some y2::aT fr σ) H' fun b H2=>if b=true then te (some y::some y2::aT fr σ) H2 (fun z H3=>∃ m',m' < m/\W (i+1) m' (xs++[z]) H3) else ∃ m',m' < m/\W (i+1) m' xs H2))
section
variable{tc:TT}{te:TE}{Q:VK}{as:TA}
end
noncomputable def Bm:Option HO->Option Bool
 | some (.lst _)=>some true
 | some (.tup _)=>some false
 | _=>none
def Js:List V->Hp->VK->Prop:=fun vs H Q=>on2 vs fun x y=>bF x fun p=>y=.ty "list"/\fD (Bm (H p)) fun b=>Q (.bl b) H
section
def Hs:fF X (.builtin "isinstance") Js:=fun V9 s σ H xs us Q I r h=>by
 obtain⟨x,y,rfl,h1⟩:=EN h;obtain⟨p,rfl,rfl,h2⟩:=aQ h1;obtain⟨b,ek,q⟩:=cF h2;obtain⟨u,w',rfl,r1,r2⟩:=vals2 r;cases r1;cases r2;unfold Bm at ek;split at ek
 ·next e =>
  cases ek;obtain⟨o,eo,c⟩:=Wc.nC I (e9.of e);exact IsiPair.list_list eo c ⟨.bl true,H,I,rfl,q⟩
 ·next e =>
  cases ek;obtain⟨o,eo,c⟩:=Wc.rX I (g9.of e);exact IsiPair.tuple_list eo c ⟨.bl false,H,I.tok _,rfl,q⟩
 ·cases ek
variable{o:Expr}{to:TE}{apos Wj:Pos}
end
section
variable{Q:VK}{p:Addr}{to:TE}
def SN:Bm (some (.lst vs))=some true:=rfl
def SO:Bm (some (.tup vs))=some false:=rfl
theorem SV{a:Bool}:Rx (.bl a) (.bl b) H Q=Q (.bl (!decide (a=b))) H:=by simp only[Rx,show WV (.bl a) (.bl b)=true from rfl,V.bl.injEq,true_and]
end
section
variable{Q:VK}{p b:Addr}
end
section
variable{sc:Scope}{y0:Str}{N:List Str}{elt iter:Expr}{px px0 tp:Pos}{tk:Nat}{ifs:List Expr}{wi:TI}{tc:TT}{te:TE}
theorem C9{py Y3:Pos}(hc:X.calm=true)(hx:∀ e s,¬ X.xe e s)(S:kO X sc cl x y0 fr N)(hi:PI X (.Tuple [.Name x px,.Name y0 px0] tk tp) iter wi)(hb:∀ C s H ex pn,Zx 1e58 ifs tc/\PE 1e58 elt te)(hN:X.N.Nodup)(hy:X.N[i]?=some y)(hl:Loc X.env.scope y)(hsw:swapsWith (.ListComp elt [⟨.Tuple [.Name x px,.Name y0 px0] tk tp,iter,ifs,0⟩] sc pos) (some (.Name y py)) Y3.line X.env=pure true:=by rfl)(hs:∀ v,foldedSetIterable iter X.env v=pure v:=by intro _;rfl)(hf:X.fn y=true\/X.env.scope.names.lookup y=some .local:=by first|exact .inl rfl|exact .inr rfl|assumption) : PS X (.Assign [.Name y py] (.ListComp elt [⟨.Tuple [.Name x px,.Name y0 px0] tk tp,iter,ifs,0⟩] sc pos) Y3) (IS (yL X.K wi fr tc te) (jF i)):=by
 intro V9 s σ H D I h;have h:yL X.K wi fr tc te σ H (fun x H1=>jF i x σ H1 D.nx):=h;unfold yL at h;rw[exec_Assign_Name_used _ _ _ _ hsw];refine wpAny_bind (wpAny_standAt (wpAny_bind ?_));show wpAny _ X.A (do let _ <- comprehension (.ListComp elt [⟨.Tuple [.Name x px,.Name y0 px0] tk tp,iter,ifs,0⟩] sc pos) sc X.env _ (newList []) false (eval iter X.env) (some (assign (.Name y py) X.env))) _ _ s;refine wpAny_bind (wpAny_mono (wpAny_comprehension_free (use:=some (assign (.Name y py) X.env)) (Q:=fun _ s'=>SP X V9 D .next s') rfl hs S.Ce S.kind S.names
  (thn (hi V9 s σ H _ I h) fun v s1 h1=>thn h1 fun itv s2 h2=>?_)) (fun _ s' hq=>wpAny_pure (wpAny_pure hq)) fun _ _ e=>e)
 obtain⟨it,fp,tn,J,H2,e,I2,T,XX,f2,W,⟨m0,w0⟩,turn⟩:=h2;subst e;refine Cg (Q:=fun x H1=>jF i x σ H1 D.nx) (RR:=fun acc C=>compPost 1e2 X.A X.xe (some (assign (.Name y py) X.env)) (fun _ s'=>SP X V9 D .next s') acc C) hc hx S hb I2 T XX f2 w0 turn ?_;intro D' C s' m' H' hn fC YT q;show wpAny _ X.A (assign (.Name y py) X.env (.ref D')) _ _ _;have I':Wc X V9 σ H' s':=YT s'.heap (Heap.SameBut.refl ..);refine wpAny_assign_Name (rW (v:=.ref D') I' hN hy hl rfl (fun s'' I'' ⟨a,hsa,ha⟩=>?_) hf);obtain⟨f0,f1,f2',f3,f4,f5⟩:=fC;have hCa:C≠a:=fun z=>by
  rcases ha with ha|ha
  ·exact f1 (z.trans ha)
  ·exact f4 y a ha z.symm
 refine⟨m',hn.sameBut hsa hCa,fun h' X4=>?_⟩;exact⟨σ.set i (some (.ref D')),H',I''.turned (t':=s''.toks) (fun b o WD e=>(X4.2 b WD).trans e) f0 f1 f3 f4 f5,q⟩
end
section
variable{a b:TS}{D:Ends}
def bX(h:∀ R:St->Hp->Prop,(∀ σ' H',b D σ' H'->R σ' H')->a {D with nx:=R} σ H):Fb a b D σ H:=h (b D) fun _ _ x=>x
end
section
variable{td ty tv:TE}{XZ:List (TE×TE)}{tk:TE}{Q:VK}{D:Ends}
def J3:oZ [] σ H R=R [] H:=rfl
def Nb:oZ ((tk,tv)::XZ) σ H R=tk σ H fun x H1=>tv σ H1 fun y H2=>oZ XZ σ H2 fun ps H3=>R ((x,y)::ps) H3:=rfl
end
section
variable{W:World}{dd:Addr}{es:Array DictEntry}{ep:Nat}
end
section
open PySem.W
variable{p:Array Nat}
end
section
open PySem.W
variable{W:World}
end
section
variable{W:World}{b:Addr}{es fs:Array DictEntry}{ep fp:Nat}
end
section
variable{tg:Expr}
end
section
variable{D:Ends}{g:TG}{tb:TS}{as:TA}{Q:VK}{b:Addr}{p:Addr}
def Qc{XZ:List (TE×TE)}:Pb XZ σ H Q = ∀ p,H p=none->oZ XZ σ (Wa H p (.dK [])) fun ps H2=>H2 p=some (.dK [])/\∃ kvs:List 1e35,ps=kvs.map (fun kv=>(kV kv.1,kv.2))/\kvs.length<=15/\Q 1e21 (Wa H2 p (.dK (eD [] kvs))):=rfl
end
noncomputable def Ah(H:Hp):V->Option Bool
 | .ref p=>Bm (H p)
 | .int _=>some false
 | .str _=>some false
 | .Wb=>some false
 | _=>none
def OG:List V->Hp->VK->Prop:=fun vs H Q=>on2 vs fun x y=>y=.ty "list"/\fD (Ah H x) fun b=>Q (.bl b) H
def zY:fF X (.builtin "isinstance") OG:=fun V9 s σ H xs us Q I r h=>by
 obtain⟨x,y,rfl,rfl,h2⟩:=EN h;obtain⟨b,ek,q⟩:=cF h2;cases x with
 | ref p=>exact Hs V9 s σ H _ us Q I r (show V.ty "list"=V.ty "list"/\fD (Bm (H p)) (fun b=>Q (.bl b) H) from ⟨rfl,by rw[show Bm (H p)=some b from ek];exact q⟩)
 | int i =>
  cases ek;obtain⟨u,w',rfl,r1,r2⟩:=vals2 r;cases r2;obtain⟨t,rfl⟩:=r1;exact IsiPair.int_list ⟨.bl false,H,I.tok _,rfl,q⟩
 | str i =>
  cases ek;obtain⟨u,w',rfl,r1,r2⟩:=vals2 r;cases r2;obtain⟨t,rfl⟩:=r1;exact IsiPair.str_list ⟨.bl false,H,I.tok _,rfl,q⟩
 | Wb =>
  cases ek;obtain⟨u,w',rfl,r1,r2⟩:=vals2 r;cases r2;cases r1;exact IsiPair.NoneType_list ⟨.bl false,H,I.tok _,rfl,q⟩
 | _=>cases ek
section
variable{Q:VK}{x:V}{p:Addr}{i:Int}{z:Str}
def Qr:OG [x,.ty "list"] H Q=fD (Ah H x) fun b=>Q (.bl b) H:=by
 show(V.ty "list"=V.ty "list"/\_)=_;simp only[true_and]
def SK:Ah H 1e21=Bm (H p):=rfl
def SI:Ah H (.int i)=some false:=rfl
def SM:Ah H (.str z)=some false:=rfl
def SJ:Ah H .Wb=some false:=rfl
end
def Uz(ta tb:TE):TE:=fun σ H Q=>ta σ H fun x H1=>fD (yN H1 x) fun c=>if c=true then Q x H1 else tb σ H1 Q
section
variable{a b:Expr}{rest:List Expr}{ta tb:TE}
def Rr(ha:PE X a ta)(hb:PE X (.BoolOp .Or (b::rest) pos) tb):PE X (.BoolOp .Or (a::b::rest) pos) (Uz ta tb):=by
 intro V9 s σ H Q I h;refine BoolOp_or (thn 1e44 fun v s1 ⟨x,H1,I1,r1,q1⟩=>?_);obtain⟨k,e,q⟩:=cF q1;refine thn (Fe V9 s1 σ H1 x v (fun c H2=>c=k/\H2=H1) I1 r1 ⟨k,BR e,rfl,rfl⟩) fun c s2 ⟨H2,I2,e1,e2⟩=>?_;subst e1 e2;cases c with
 | true=>exact⟨x,_,I2,r1,q⟩
 | false=>exact hb V9 s2 σ _ Q I2 q
end
noncomputable def Le(x:V)(k:Int->Prop)(_u:Tg k:=()):Prop:=match x with
 | .Wb=>k 0
 | .int i=>k i
 | _=>False
def Uy(ta:TE):TE:=fun σ H Q=>ta σ H fun x H1=>Le x fun i=>Q (.int i) H1
def BE{a b:Expr}{rest:List Expr}{ta:TE}(ha:PE X a ta)(hb:PE X (.BoolOp .Or (b::rest) pos) (tC (.int 0))):PE X (.BoolOp .Or (a::b::rest) pos) (Uy ta):=by
 intro V9 s σ H Q I h;refine BoolOp_or (thn 1e44 fun v s1 ⟨x,H1,I1,r1,q1⟩=>?_);have hk:∃ k,yN H1 x=some k/\(if k=true then Q x H1 else Q (.int 0) H1):=by
  cases x with
  | Wb=>exact⟨false,rfl,q1⟩
  | int i =>
   refine⟨i !=0,rfl,?_⟩;by_cases hi:i=0
   ·subst hi;exact q1
   ·rw[if_pos (by simpa using hi)];exact q1
  | _=>exact q1.elim
 obtain⟨k,e,q⟩:=hk;refine thn (Fe V9 s1 σ H1 x v (fun c H2=>c=k/\H2=H1) I1 r1 ⟨k,BR e,rfl,rfl⟩) fun c s2 ⟨H2,I2,e1,e2⟩=>?_;subst e1 e2;cases c with
 | true=>exact⟨x,_,I2,r1,q⟩
 | false=>exact hb V9 s2 σ _ Q I2 q
def C7(i:Int)(ns:List Int):Option Nat:=ns.findIdx? fun j=>decide (j=i)
noncomputable def Sb:V->List V->Hp->VK->Prop:=fun x vs H Q=>bF x fun l=>on1 vs fun y=>gE y fun i=>∃ ns:List Int,H l=some (.lst 1e63)/\fD (C7 i ns) fun k=>Q .Wb (Wa H l (.lst ((ns.eraseIdx k).map V.int)))
theorem yR:∀ {ns:List Int} {us:List Value},We 1e63 us->∀(j:Nat) (h:j < us.length) (h':j < ns.length),∃ k:Tok,us[j]=.int ns[j] k
 | [],_,.nil,j,h,_=>absurd h 1e1
 | n::ns,u::us,.cons r t,0,_,_=>r
 | n::ns,u::us,.cons r t,j+1,h,h'=>yR (ns:=ns) (us:=us) t j 1e37 (by simpa using h')
theorem vR:∀(ns:List Int) (k:Nat),(ns.map V.int).eraseIdx k=(ns.eraseIdx k).map V.int
 | [],_=>rfl
 | _::_,0=>rfl
 | n::ns,k+1=>by simp only[List.map_cons,List.eraseIdx_cons_succ,vR ns k]
section
theorem KR:OA X "list.remove" Sb:=fun V9 s σ H x vs v us Q I rx rv h=>by
 obtain⟨l,rfl,h1⟩:=aQ h;obtain⟨y,rfl,h2⟩:=mI h1;obtain⟨i,rfl,ns,hH,h3⟩:=dR h2;obtain⟨k,ek,q⟩:=cF h3;cases rx;obtain⟨u,rfl,ru⟩:=rv.one;obtain⟨t,rfl⟩:=ru;obtain⟨z,Wd,n,r,hl,e⟩:=I.Bu hH;have hl':Wd.length=ns.length:=by rw[<- r.length,List.length_map]
 obtain⟨hk,hk1,hk2⟩:=List.findIdx?_eq_some_iff_getElem.mp ek;have isI:∀(j:Nat) (h:j < Wd.length),∃ tk:Tok,Wd[j]=.int (ns[j]'(by omega)) tk:=fun j h=>yR r j h 1e0;obtain⟨g,hg⟩:∃ g:Value->Bool,g=fun y=>(match y with | .int a _=>a==i|_=>false):=⟨_,rfl⟩;refine call_meets PySem.F.slot_list_remove ⟨_,e,rfl⟩ PySem.F.entry_list_remove (PySem.F.args_list_remove_2 _ _)
  (MeetsSeq.list_remove l Wd.toArray n (.int i t) g (fun y hy=>?_) k (by simp only[List.size_toArray];omega) ?_ ?_ (by rw[List.size_toArray];omega)) ⟨e,?_⟩
 ·obtain⟨j,hj,rfl⟩:=Array.mem_iff_getElem.mp hy;obtain⟨tk,et⟩:=isI j (by simpa using hj);rw[List.getElem_toArray,et,hg];exact MeetsSeq.EqGives.int _ _ _ _
 ·obtain⟨tk,et⟩:=isI k 1e0;rw[List.getElem_toArray,et,hg];simpa using hk1
 ·intro m hm WG;obtain⟨tk,et⟩:=isI m (by simpa using hm);rw[List.getElem_toArray,et,hg];simpa using hk2 m WG
 ·refine⟨.Wb,_,I.wR (its':=Wd.eraseIdx k) hH e ?_ ?_ ?_,rfl,q⟩
  ·show Wd.toArray.eraseIdxIfInBounds k=(Wd.eraseIdx k).toArray;rw[List.eraseIdxIfInBounds_toArray]
  ·rw[show(ns.eraseIdx k).map V.int=(ns.map V.int).eraseIdx k by rw[vR]];exact r.eraseIdx k
  ·have:=rC ns k;simp only[List.length_map] at this ⊢;omega
end
section
variable{Q:VK}{ta tb:TE}{i:Int}
def S8:Uz ta tb σ H Q=ta σ H fun x H1=>fD (yN H1 x) fun c=>if c=true then Q x H1 else tb σ H1 Q:=rfl
def S7:Uy ta σ H Q=ta σ H fun x H1=>Le x fun i=>Q (.int i) H1:=rfl
def SY{k:Int->Prop}{u:Tg k}:Le (.int i) k u=k i:=rfl
def S2{k:Int->Prop}{u:Tg k}:Le .Wb k u=k 0:=rfl
def Tc:Sb (.ref l) [.int i] H Q = ∃ ns:List Int,H l=some (.lst 1e63)/\fD (C7 i ns) fun k=>Q .Wb (Wa H l (.lst ((ns.eraseIdx k).map V.int))):=rfl
end
def Rising(l:List Nat):Prop:=l.Pairwise (· < ·)
theorem uU(xs:Array Nat)(j:Nat)(hr:Rising xs.toList):∀(fuel lo hi:Nat),hi - lo<=fuel->lo<=hi->hi<=xs.size -> (∀ i (h:i < xs.size),i < lo->xs[i] < j)->(∀ i (h:i < xs.size),hi<=i->j<=xs[i]) -> (∀ i (h:i < xs.size),i < SetTable.below.go xs j fuel lo hi->xs[i] < j)/\(∀ i (h:i < xs.size),SetTable.below.go xs j fuel lo hi<=i->j<=xs[i])/\SetTable.below.go xs j fuel lo hi<=xs.size
 | 0,lo,hi,hf,hl,hh,h1,h2=>by
  have:lo=hi:=by omega
  subst this;exact⟨h1,h2,hh⟩
 | fuel+1,lo,hi,hf,hl,hh,h1,h2=>by
  have mono:∀ i k (hi:i < xs.size) (hk:k < xs.size),i < k->xs[i] < xs[k]:=fun i k hi hk hik=>by
   have:=List.pairwise_iff_getElem.mp hr i k (by simpa using hi) (by simpa using hk) hik;simpa using this
  unfold SetTable.below.go;by_cases c:lo < hi
  ·rw[if_pos c];have hm:(lo+hi) / 2 < xs.size:=by omega
   have em:xs.getD ((lo+hi) / 2) j=xs[(lo+hi) / 2]:=by simp[Array.getD,hm]
   simp only[em];by_cases d:xs[(lo+hi) / 2] < j
   ·rw[if_pos d];refine uU xs j hr fuel _ hi 1e0 1e0 hh (fun i h WG=>?_) h2;by_cases e:i=(lo+hi) / 2
    ·subst e;exact d
    ·exact Nat.lt_trans (mono i _ h hm 1e0) d
   ·rw[if_neg d];refine uU xs j hr fuel lo _ 1e0 1e0 1e0 h1 (fun i h hle=>?_);by_cases e:i=(lo+hi) / 2
    ·subst e;omega
    ·have:=mono _ i hm h 1e0;omega
  ·rw[if_neg c];have:lo=hi:=by omega
   subst this;exact⟨h1,h2,hh⟩
theorem oJ(xs:Array Nat)(j:Nat)(hr:Rising xs.toList):(∀ i (h:i < xs.size),i < SetTable.below xs j->xs[i] < j)/\(∀ i (h:i < xs.size),SetTable.below xs j<=i->j<=xs[i])/\SetTable.below xs j<=xs.size :=
 uU xs j hr xs.size 0 xs.size 1e0 1e0 1e5 (fun i h WG=>absurd WG 1e0) (fun i h hle=>absurd h 1e0)
theorem zF{xs:Array Nat}(hr:Rising xs.toList)(hn:¬ xs[SetTable.below xs j]?=some j):Rising (SetTable.insertAt xs (SetTable.below xs j) j).toList:=by
 obtain⟨h1,h2,h3⟩:=oJ xs j hr;rw[SetTable.toList_insertAt];generalize hb:SetTable.below xs j=b at *;unfold Rising at *;have split:=List.pairwise_append.mp (show(xs.toList.take b++xs.toList.drop b).Pairwise (· < ·) by rw[List.take_append_drop];exact hr);have lt:∀ x∈xs.toList.take b,x < j:=fun x hx=>by
  obtain⟨i,hi,rfl⟩:=List.mem_iff_getElem.mp hx;have ZJ:i < b/\i < xs.size:=by simpa[Nat.lt_min] using hi
  have:=h1 i ZJ.2 ZJ.1;simpa using this
 have gt:∀ x∈xs.toList.drop b,j < x:=fun x hx=>by
  obtain⟨i,hi,rfl⟩:=List.mem_iff_getElem.mp hx;have ZJ:b+i < xs.size:=by simp at hi;omega
  have hle:=h2 (b+i) ZJ 1e0;have Xf:xs[b+i]≠j:=fun e=>by
   by_cases hz:i=0
   ·subst hz;exact hn (by rw[Array.getElem?_eq_getElem (by simpa using ZJ)];simpa using e)
   ·have WD:b < xs.size:=by omega
    have h0:=h2 b WD 1e5;have:=List.pairwise_iff_getElem.mp hr b (b+i) (by simpa using WD) (by simpa using ZJ) 1e0;simp at this;omega
  have:xs.toList.drop b=xs.toList.drop b:=rfl;simp only[List.getElem_drop,Array.getElem_toList];omega
 refine List.pairwise_append.mpr ⟨split.1,List.pairwise_cons.mpr ⟨gt,split.2.1⟩,fun x hx y hy=>?_⟩;rcases List.mem_cons.mp hy with rfl|hy
 ·exact lt x hx
 ·exact split.2.2 x hx y hy
theorem vS{α:Type}:∀ {l:List α} {i:Nat} (h:i < l.length),(l[i]::l.eraseIdx i).Perm l
 | a::l,0,_=>by simp
 | a::l,i+1,h=>by
  have:=vS (l:=l) (i:=i) 1e37;simp only[List.getElem_cons_succ,List.eraseIdx_cons_succ];exact(List.Perm.swap _ _ _).trans (this.cons a)
theorem Gx{α:Type}(next:Nat->Nat):∀(fuel k:Nat) (left:List α) (out:Array α),fuel=left.length->∃ aa9:Array α,pickOrder.go next fuel k left out=aa9/\aa9.toList.Perm (out.toList++left)
 | 0,k,left,out,h=>by
  have:left=[]:=List.length_eq_zero_iff.mp h.symm;subst this;exact⟨out,by simp[pickOrder.go],by simp⟩
 | fuel+1,k,left,out,h=>by
  have hp:0 < left.length:=by omega
  have hi:next k % left.length < left.length:=Nat.mod_lt _ hp
  obtain⟨o,e,p⟩:=Gx next fuel (k+1) (left.eraseIdx (next k % left.length)) (out.push left[next k % left.length]) (by rw[List.length_eraseIdx_of_lt hi];omega)
  refine⟨o,?_,p.trans ?_⟩
  ·rw[pickOrder.go,List.getElem?_eq_getElem hi];exact e
  ·rw[Array.toList_push,List.append_assoc];refine List.Perm.append_left _ ?_;exact vS hi
def IF{α:Type}(next:Nat->Nat)(xs:Array α):(pickOrder next xs).toList.Perm xs.toList:=by
 obtain⟨o,e,p⟩:=Gx next xs.size 0 xs.toList #[] 1e1
 unfold pickOrder;rw[e];simpa using p
structure nR(w:World)(t:SetTable):Prop where
 rise:Rising t.place.toList
 led:w.params.followText "set-order"=true\/t.led=true
 dum:t.dummies = #[]
 msk:t.mask=7
 pln:t.plain=true
def Cv(j:Nat):SetTable.has #[] j=false:=by simp[SetTable.has]
def EW(h:t.slot j=.empty):¬ t.place[SetTable.below t.place j]?=some j:=fun e=>by
 unfold SetTable.slot at h;simp only[e,beq_self_eq_true,if_true] at h;cases h
def yD(hd:t.dummies = #[])(j:Nat):t.slot j=.empty\/(∃ i,t.slot j=.live i/\j∈t.place.toList):=by
 unfold SetTable.slot;rw[hd,Cv];by_cases h:t.place[SetTable.below t.place j]?=some j
 ·refine .inr ⟨SetTable.below t.place j,by simp only[h,beq_self_eq_true,if_true],?_⟩;rw[<- Array.getElem?_toList] at h;exact List.mem_of_getElem? h
 ·refine .inl ?_;have:(t.place[SetTable.below t.place j]?==some j)=false:=by simpa using h
  simp[this]
theorem free4{l:List Nat}(h:l.length<=3):∃ j,j < 8/\j∉l:=by
 match l,h with
 | [],_=>exact⟨0,by decide,by simp⟩
 | [a],_=>by_cases h0:a=0;exact⟨1,by decide,by simp;omega⟩;exact⟨0,by decide,by simp;omega⟩
 | [a,b],_ =>
  by_cases h0:a=0\/b=0
  ·by_cases h1:a=1\/b=1
   ·exact⟨2,by decide,by simp;omega⟩
   ·exact⟨1,by decide,by simp;omega⟩
  ·exact⟨0,by decide,by simp;omega⟩
 | [a,b,c],_ =>
  by_cases h0:a=0\/b=0\/c=0
  ·by_cases h1:a=1\/b=1\/c=1
   ·by_cases h2:a=2\/b=2\/c=2
    ·exact⟨3,by decide,by simp;omega⟩
    ·exact⟨2,by decide,by simp;omega⟩
   ·exact⟨1,by decide,by simp;omega⟩
  ·exact⟨0,by decide,by simp;omega⟩
def ZL(i:Nat):Nat:=(i * 5+1) % 8
noncomputable def hops:Nat->Nat->Nat
 | 0,i=>i
 | m+1,i=>hops m (ZL i)
theorem Km:∀ i,i < 8->∀ j,j < 8->∃ m,m < 8/\hops m i=j:=by decide
section
variable(hd:t.dummies = #[])(hm:t.mask=7){h:Int}
abbrev prb(i pt:Nat):SetTable.Probe:=⟨i,0,i,pt,none⟩
include hd hm
theorem adv(i pt:Nat):t.advance (prb i pt)=prb ((i * 5+1+pt / 32) % 8) (pt / 32):=by
 have:(i * 5+1+pt / 32) % 8 < 8:=Nat.mod_lt _ 1e6;simp only[SetTable.advance,SetTable.leap,hm,SetTable.runEnd];simp
 try omega
theorem FZ(fuel i pt:Nat):(t.slot i=.empty/\SetTable.probe.go t (fun _=>h+1) h (fuel+1) (prb i pt)=some (.empty i none))\/SetTable.probe.go t (fun _=>h+1) h (fuel+1) (prb i pt)=SetTable.probe.go t (fun _=>h+1) h fuel (prb ((i * 5+1+pt / 32) % 8) (pt / 32)):=by
 rcases yD hd i with e|⟨k,e,_⟩
 ·refine .inl ⟨e,?_⟩;unfold SetTable.probe.go;simp only[e]
 ·refine .inr ?_
  conv=>lhs;unfold SetTable.probe.go
  simp only[e];rw[if_neg (by simp;try omega),adv hd hm]
theorem Ga:∀(m fuel i:Nat),m < fuel->i < 8->t.slot (hops m i)=.empty->∃ j,t.slot j=.empty/\SetTable.probe.go t (fun _=>h+1) h fuel (prb i 0)=some (.empty j none)
 | 0,fuel+1,i,_,hi,he=>by
  refine⟨i,he,?_⟩;have e:t.slot i=.empty:=he;unfold SetTable.probe.go;simp only[e]
 | m+1,fuel+1,i,hf,hi,he=>by
  rcases FZ hd hm (h:=h) fuel i 0 with⟨e,g⟩|g
  ·exact⟨i,e,g⟩
  ·rw[g];exact Ga m fuel _ 1e0 (Nat.mod_lt _ 1e6) he
theorem Kj(hp:t.place.size<=3):∀(d fuel i pt:Nat),pt < 32 ^ d->d+8<=fuel->i < 8->∃ j,t.slot j=.empty/\SetTable.probe.go t (fun _=>h+1) h fuel (prb i pt)=some (.empty j none)
 | 0,fuel,i,pt,h1,h2,hi=>by
  have:pt=0:=by simpa using h1
  subst this;obtain⟨j,hj,hn⟩:=free4 (l:=t.place.toList) (by simpa using hp);obtain⟨m,hm',e⟩:=Km i hi j hj;refine Ga hd hm m fuel i 1e0 hi ?_;rw[e];rcases yD hd j with z|⟨_,_,z⟩
  ·exact z
  ·exact absurd z hn
 | d+1,0,i,pt,h1,h2,hi=>absurd h2 1e0
 | d+1,fuel+1,i,pt,h1,h2,hi=>by
  rcases FZ hd hm (h:=h) fuel i pt with⟨e,g⟩|g
  ·exact⟨i,e,g⟩
  ·rw[g];exact Kj hp d fuel _ _ (by rw[Nat.pow_succ] at h1;omega) 1e0 (Nat.mod_lt _ 1e6)
theorem HU(hp:t.place.size<=3):∃ j,t.slot j=.empty/\t.freeSlot h=some (j,false):=by
 have hb:SetTable.bits h < 32 ^ 13:=by
  unfold SetTable.bits;have h1:=Int.emod_lt_of_pos h (show(0:Int) < 2 ^ 64 by decide);have h2:=Int.emod_nonneg h (show(2 ^ 64:Int)≠0 by decide);have:(32:Nat) ^ 13=36893488147419103232:=by decide
  omega
 have hs:t.probeStart h=prb (SetTable.bits h % 8) (SetTable.bits h):=by
  unfold SetTable.probeStart SetTable.runEnd;rw[hm];have:SetTable.bits h % 8 < 8:=Nat.mod_lt _ 1e6;simp
  try omega
 obtain⟨j,e,g⟩:=Kj hd hm (h:=h) hp 13 (10 * SetTable.turns t.mask) (SetTable.bits h % 8) (SetTable.bits h) hb (by rw[hm];decide) (Nat.mod_lt _ 1e6);refine⟨j,e,?_⟩;unfold SetTable.freeSlot SetTable.probe;rw[hs,g];rfl
end
theorem Nw(T:nR w t)(es:Array (Int×Value))(h:Int)(x:Value)(hp:t.place.size<=3)(hf:t.place.size=es.size):nR w (layNew t es h x).2.1:=by
 obtain⟨slot,hs,e⟩:=HU T.dum T.msk (h:=h) hp;have Tp:nR w (t.put slot).1:=by
  refine⟨zF T.rise (EW hs),T.led,?_,T.msk,T.pln⟩;show(if SetTable.has t.dummies slot=true then _ else t.dummies) = #[];rw[T.dum,Cv];rfl
 unfold layNew;rw[e];show nR w ((t.put slot).1.orStandIn _);have h1:=(SetTable.insertAt_perm es (t.put slot).2 (h,x)).length_eq;rw[Array.length_toList,Array.length_toList,Array.size_push] at h1;have h2:(t.put slot).1.place.size=t.place.size+1:=by
  have:=(SetTable.insertAt_perm t.place (SetTable.below t.place slot) slot).length_eq;rw[Array.length_toList,Array.length_toList,Array.size_push] at this;exact this
 have fit:(t.put slot).1.fits (SetTable.insertAt es (t.put slot).2 (h,x)).size=true:=by
  unfold SetTable.fits SetTable.fill;rw[Tp.dum,h2,h1,Tp.msk,hf];simp;omega
 unfold SetTable.orStandIn;rw[if_pos fit];exact Tp
noncomputable def CF:Value->Int
 | .int i _=>i
 | _=>0
noncomputable def qL(P:Program)(w:World)(a:Addr)(ns:List Int)(h:Heap):Prop:=∃(o:Obj) (es:Array (Int×Value)) (ep:Nat) (t:SetTable),h.get? a=some o/\o.ExactSet/\o.data=.set es ep t/\ElemsOf (intKind P w) es.toList/\es.size < scanBound/\t.fits es.size=true/\nR w t/\(∀ e∈es.toList,∃ i tk,e.2=Value.int i tk)/\(es.toList.map fun e=>CF e.2).Perm ns
def qL.keep{h':Heap}(x:qL P w a ns h)(k:∀ o,h.get? a=some o->h'.get? a=some o):qL P w a ns h':=by
 obtain⟨o,es,ep,t,e,r⟩:=x;exact⟨o,es,ep,t,k o e,r⟩
section
def Q0{i:Int}:(intKind P w).is i v=true↔∃ tk,v=.int i tk:=by
 constructor
 ·intro h;cases v with
  | int j tk=>exact⟨tk,by have:Value.isInt i (.int j tk)=true:=h;simp[Value.isInt] at this;rw[this]⟩
  | _=>cases h
 ·rintro⟨tk,rfl⟩;exact intKind_is _ _ _ _
theorem B3{o:Obj}{es:Array (Int×Value)}{ep:Nat}(ho:s.heap.get? a=some o)(hex:o.ExactSet)(hd:o.data=.set es ep t)
    {WO:Array (Int×Value)} {t2:SetTable}  (ZH:ElemsOf (intKind P w) WO.toList) (hb:WO.size < scanBound) (hf:t2.fits WO.size=true) (T:nR w t2) (hi:∀ e∈WO.toList,∃ i tk,e.2=Value.int i tk) (hp:(WO.toList.map fun e=>CF e.2).Perm ns) (h4:WO.size<=4)
    {XM:Bool} {X:Sem (Option Bool)} {R:Option Bool->Shared->Prop} (h:∀ h',Heap.SameBut a s.heap h'->qL P w a ns h'->R (some true) {s with heap:=h'}) :
    wpAny (model P w) A (do
        storeSet a WO t2
        if (!XM&&t2.tooFull)=true then X else pure (some true)) R E s:=by
  refine wpAny_bind (wpAny_storeSet_of ho hd ?_ (fits_of_scanBound hb));have full:t2.tooFull=false:=by
    have h1:t2.place.size=WO.size:=by
      have:=hf;unfold SetTable.fits at this;simp only[Bool.and_eq_true,beq_iff_eq] at this;exact this.1
    unfold SetTable.tooFull SetTable.fill;rw[T.dum,h1];have:=T.msk;simp;omega
  rw[full,Bool.and_false];simp only[Bool.false_eq_true,if_false];have hg:(s.heap.update a (Obj.putSet WO t2)).get? a=some {o with data:=.set WO (ep+1) t2}:=by
    have:=Heap.get?_update_self (Obj.putSet WO t2) ho (by rw[putSet_of WO t2 hd];rfl);rw[putSet_of WO t2 hd] at this;exact this
  exact wpAny_pure (h _ (Heap.SameBut.update s.heap a (Obj.putSet WO t2)) ⟨_,WO,ep+1,t2,hg,hex,rfl,ZH,hb,hf,T,hi,hp⟩)
theorem DR{i:Int}{tk:Tok}{Q:Bool->Shared->Prop}(hS:qL P w a ns s.heap)(hn:ns.length<=3)(h:∀ h',Heap.SameBut a s.heap h'->qL P w a (if i∈ns then ns else ns++[i]) h'->∀ b,Q b {s with heap:=h'}):wpAny (model P w) A (setAddHashed a (.int i tk) ((intKind P w).hash i)) Q E s:=by
 obtain⟨o,es,ep,t,ho,hex,hd,ZH,hb,hf,T,hi,hp⟩:=hS;have Yi:(intKind P w).is i (.int i tk)=true:=intKind_is _ _ _ _;have hl:es.size=ns.length:=by have:=hp.length_eq;simpa using this
 have b1:scanBound=4096:=rfl;unfold setAddHashed setAddHashedIn;refine wpAny_holding (wpAny_bind (wpAny_setState_of ho hd hf ?_));dsimp only;rw[byScan_of (knd:=intKind P w) rfl hb ZH];simp only[↓reduceIte];unfold setAddByScan;refine wpAny_bind ?_;refine wpAny_bind (wpAny_rule ?_);refine wpAny_bind (wpAny_setScan_of Yi ho hd hf ZH ?_);cases hr:List.findIdx? (fun e=>(intKind P w).is i e.2) es.toList with
 | some j =>
  dsimp only;obtain⟨hj,hpj,_⟩:=List.findIdx?_eq_some_iff_getElem.mp hr;obtain⟨tk',et⟩:=Q0.mp hpj;have hm:i∈ns:=hp.mem_iff.mp (List.mem_map.mpr ⟨es.toList[j],List.getElem_mem hj,by rw[et];rfl⟩);rw[if_pos hm] at h;refine wpAny_pure 1e42;exact h s.heap (Heap.SameBut.refl a s.heap) ⟨o,es,ep,t,ho,hex,hd,ZH,hb,hf,T,hi,hp⟩ _
 | none =>
  dsimp only;have hm:i∉ns:=fun z=>by
   obtain⟨e,he,ek⟩:=List.mem_map.mp (hp.mem_iff.mpr z);obtain⟨k,tk',ev⟩:=hi e he;have h1:=List.findIdx?_eq_none_iff.mp hr e he;rw[ev] at ek h1;have:k=i:=ek;subst this;rw[intKind_is] at h1;cases h1
  rw[if_neg hm] at h;have WI:=layNew_perm t es ((intKind P w).hash i) (.int i tk);have X3:=layNew_fits t es ((intKind P w).hash i) (.int i tk);have hsz:t.place.size=es.size:=by
   have:=hf;unfold SetTable.fits at this;simp only[Bool.and_eq_true,beq_iff_eq] at this;exact this.1
  have T1:=Nw T es ((intKind P w).hash i) (.int i tk) 1e0 hsz;generalize layNew t es ((intKind P w).hash i) (.int i tk)=Y at WI X3 T1 ⊢;obtain⟨WO,t1,XM,acV⟩:=Y;dsimp only at WI X3 T1 ⊢;rw[Array.toList_push] at WI;have aa0:ElemsOf (intKind P w) WO.toList:=(ZH.push Yi rfl).perm WI;have sz:WO.size=es.size+1:=by
   have:=WI.length_eq;simpa using this
  have hi1:∀ e∈WO.toList,∃ i tk,e.2=Value.int i tk:=fun e he=>by
   rcases List.mem_append.mp (WI.mem_iff.mp he) with he|he
   ·exact hi e he
   ·rw[show e=_ by simpa using he];exact⟨i,tk,rfl⟩
  have Zd:(WO.toList.map fun e=>CF e.2).Perm (ns++[i]):=by
   refine(WI.map _).trans ?_;rw[List.map_append];exact hp.append (.refl _)
  have hgw:∀(b:Bool) {s₁:Shared} {Q':Unit->Shared->Prop},Q' () s₁->wpAny (model P w) A (match b with|true=>rule "set.scan.the-table-gave-way" | false=>pure ()) Q' E s₁:=fun b s₁ Q' hq=>by
   cases b
   ·exact wpAny_pure hq
   ·exact wpAny_rule hq
  refine wpAny_bind (hgw _ ?_);split
  ·refine wpAny_bind ?_;rw[hashByValue_scannable 8 rfl];refine wpAny_pure ?_;simp only[plainKind,↓reduceIte];exact B3 ho hex hd aa0 1e0 X3 T1 hi1 Zd 1e0 fun h' hs Zn=>wpAny_pure (h h' hs Zn _)
  ·refine wpAny_bind 1e42;simp only[↓reduceIte];exact B3 ho hex hd aa0 1e0 X3 T1 hi1 Zd 1e0 fun h' hs Zn=>wpAny_pure (h h' hs Zn _)
end
noncomputable def once(val:Nat->Int):Nat->List Int
 | 0=>[]
 | i+1=>if val i∈once val i then once val i else once val i++[val i]
theorem xG(val:Nat->Int):∀ i,(once val i).length<=i
 | 0=>Nat.le_refl _
 | i+1=>by
  have:=xG val i;rw[once];split
  ·omega
  ·rw[List.length_append];simp;omega
section
variable{R:Result->Shared->Prop}{wr:List Addr}{Gs:Array GenState->Array GenState->Prop}{Pi:Nat->Value->Prop}{St:Nat->Shared->Prop}
theorem CH(W:WalksS P w A.in1 it fp wr Gs n Pi St)(z:Addr)(hz:z∉fp)(val:Nat->Int)(aaJ:∀ i v,Pi i v->∃ t,v=.int (val i) t)(hn:n<=4) : ∀(k i:Nat) (s:Shared),n - i=k->i<=n->St i s->qL P w z (once val i) s.heap -> (∀ s',Moved (z::wr) Gs s s'->qL P w z (once val n) s'.heap->R (.ok (.ret .none)) s')->codeAny (model P w) A (.builtin "set.update.loop" ⟨[.ref z,.ref it],[]⟩) R s:=by
 have zw:z∉wr:=fun h=>hz (W.sub _ h);have up:∀ b∈wr,b∈z::wr:=fun b hb=>List.mem_cons_of_mem _ hb;intro k
 induction k with
 | zero =>
  intro i s hk hi st hS hR;obtain rfl:i=n:=by omega
  refine codeAny_builtin PyProof.Rows.F.entry_set_update_loop ?_;rw[Around.under_plainId PyProof.Rows.F.plain_set_update_loop _];show wpAny _ A.in1 (pyNext (.ref it) >>= _) _ _ s;refine wpAny_bind (W.done s _ _ st fun s' hm=>?_);show wpAny _ A.in1 (ret Value.none) _ _ s';exact wpAny_pure (hR s' (hm.mono up) (hS.keep fun o e=>hm.heap z _ zw e))
 | succ k ih =>
  intro i s hk hi st hS hR;have lt:i < n:=by omega
  refine codeAny_builtin PyProof.Rows.F.entry_set_update_loop ?_;rw[Around.under_plainId PyProof.Rows.F.plain_set_update_loop _];show wpAny _ A.in1 (pyNext (.ref it) >>= _) _ _ s;refine wpAny_bind (W.item i s _ _ lt st fun v s' hP WB hm=>?_);obtain⟨t,rfl⟩:=aaJ i v hP;have Zn:qL P w z (once val i) s'.heap:=hS.keep fun o e=>hm.heap z _ zw e;show wpAny _ A.in1 (holding [Value.int (val i) t] (setAdd z (.int (val i) t)) >>= _) _ _ s';refine wpAny_bind (wpAny_holding ?_);unfold setAdd;refine wpAny_holding ?_;refine wpAny_bind ((intKind P w).pyHash (k:=val i) (intKind_is _ _ _ _) ?_);have room:(once val i).length<=3:=by have:=xG val i;omega
  refine DR (s:={s' with toks:=s'.toks+1}) Zn room fun h' sb Yg b=>?_;refine wpAny_pure ⟨plainId_quiet PyProof.Rows.F.plain_set_update_loop _,ih (i+1) _ 1e0 lt (W.frame _ s' _ _ WB (Nat.le_succ _) fun c hc o e=>?_) Yg fun s2 hm2 hS3=>?_⟩
  ·rw[sb.2 c (fun h:c=z=>hz (by rw[<- h];exact hc))];exact e
  ·refine hR s2 (Moved.trans W.gtrans ((hm.mono up).then_heap (Nat.le_succ _) fun c o hc e=>?_) hm2) hS3;rw[sb.2 c (fun h:c=z=>hc (by rw[h];exact List.mem_cons_self))];exact e
end
section
abbrev nY(led:Bool):Obj:={cls:=.type "set",dict:=none,data:=.set #[] 0 (.fresh 0 0 led)}
def EG(a:Value){Q₁:q0A}(h:∀ led:Bool,(w.params.followText "set-order"=true\/led=true)->Q₁ 1e33 {s with heap:=s.heap.push (nY led)}) : codeAny (model P w) A (.call (.builtin "set.__new__") ⟨[.type "set",a],[]⟩) (wants Q₁ E) s:=by
 refine codeAny_of_tree ?_;show wpAny _ A.in1 (do checkBuiltinCall "set.__new__" ⟨[.type "set",a],[]⟩;again (.builtin "set.__new__" ⟨[.type "set",a],[]⟩)) _ _ s;refine wpAny_bind (wpAny_of_eq (PySem.F.newCall_set_1 a) (wpAny_pure ⟨plainId_quiet PySem.F.plain_set_new _,codeAny_builtin PySem.F.entry_set_new ?_⟩));rw[Around.under_plainId PySem.F.plain_set_new _];unfold Builtin.«set.__new__» Builtin.Frozenset.newClass;have aaI:=sub_set_self;obtain⟨hp,g,d,tk,os⟩:=s;dsimp only;wp_walk;refine wpAny_askSetting 1e42;dsimp only;simp only[newObj];refine wpAny_bind (wpAny_alloc 1e42);refine wpAny_pure (h _ ?_);cases e:w.params.followText "set-order" with
 | true=>exact .inl rfl
 | false =>
  refine .inr ?_;show(!w.params.followText "set-order")=true;rw[e];rfl
def HN{led:Bool}(h:w.params.followText "set-order"=true\/led=true):nR w (.fresh 0 0 led):=⟨.nil,h,rfl,rfl,rfl⟩
set_option maxHeartbeats 8000000 in
theorem Cc{Q:q0A}(hh:A.handled=none)(hl:s.heap.IsList l items)(hi:IntsAre items.toList ns)(h4:items.size<=4)(h:∀(h':Heap) (tk:Nat),qL P w s.heap.objs.size (once (fun i=>ns.getD i 0) items.size) h'->(∀ b o,b < s.heap.objs.size->s.heap.get? b=some o->h'.get? b=some o)->Q 1e33 {s with heap:=h',toks:=tk}) : wpAny (model P w) A (call (.type "set") [.ref l]) Q E s:=by
  obtain⟨c,tl,acX⟩:=PySem.F.called_set.mro;have acI:=PySem.F.called_set.made;have aaI:=PySem.F.called_set.sub;refine wpAny_call (codeAny_of_tree ?_);show wpAny _ _ (callAny (.type "set") _) _ _ _;refine wpAny_pure ⟨Code.quiet_builtin _ 1e18,codeAny_builtin PySem.F.entry_type_call ?_⟩;rw[Around.under_plain (weight_type_call_type "set" [.ref l] []) rfl];have h1:=PySem.F.called_set.notType;have h2:=PySem.F.called_set.canCreate;have hct:=PySem.F.typeCall_set_1 (.ref l)
  repeat (any_goals (first|assumption|wp_step))
  refine codeAny_mono (EG (.ref l) (E:=E) (Q₁:=fun obj s₁=>∃ led:Bool,(w.params.followText "set-order"=true\/led=true)/\obj=.ref s.heap.objs.size/\s₁={s with heap:=s.heap.push (nY led)}) fun led aaG=>⟨led,aaG,rfl,rfl⟩) fun r s₁ hr=>?_;cases r with
  | error e=>exact hr
  | ok fl =>
    cases fl with
    | ret obj =>
      obtain⟨led,aaG,rfl,rfl⟩:=hr;have hS:(s.heap.push (nY led)).get? s.heap.objs.size=some (nY led):=Heap.get?_push_size _ rfl;have hT:Shared.TypeIs {s with heap:=s.heap.push (nY led)} 1e33 "set":=⟨_,hS,rfl⟩;have hli:=PySem.F.called_set.init.lookup;have hbi:=PySem.F.called_set.init.bind 1e33
      repeat (any_goals (first|assumption|wp_step))
      refine codeAny_mono (codeAny_call_builtin (R:=wants (fun r s₂=>r=.none/\∃ h' tk,s₂={s with heap:=h',toks:=tk}/\qL P w s.heap.objs.size (once (fun i=>ns.getD i 0) items.size) h' /\
          (∀ b o,b < s.heap.objs.size->s.heap.get? b=some o->h'.get? b=some o)) E) PySem.F.called_set.init.plain PySem.F.entry_set_init (check_set_init_1 hT ?_)) fun r₂ s₂ hr₂=>?_
      · obtain⟨ol,hol,hcl,nl,hdl⟩:=hl;obtain⟨ac3,aa8,acJ,aaQ⟩:=ol;simp only at hcl hdl;subst hcl hdl;have abU:(s.heap.push (nY led)).get? l=some ⟨.type "list",aa8,.seq items nl,aaQ⟩:=Heap.get?_push_of_some _ hol;have acZ:=PySem.F.sub_list_set;have acY:=PySem.F.sub_list_frozenset;have Xf:(Value.type "list"==Value.type "dict")=false:=by decide
        have Yv:(s.heap.push (nY led)).IsList l items:=⟨_,abU,rfl,nl,rfl⟩;unfold Builtin.«set.__init__» noKeywords Builtin.Frozenset.updateFrom;generalize hPI:pyIter=PI;wp_walk;subst hPI;refine wpAny_pyIter_list Yv ?_;refine wpAny_bind (wpAny_runValue ?_);have lS:l < s.heap.objs.size:=Heap.lt_size hol;have hh3:A.in1.in1.in1.handled=none:=by simp[hh]
        have sz:(s.heap.push (nY led)).objs.size=s.heap.objs.size+1:=Heap.size_push _ _;have abR:l≠(s.heap.push (nY led)).objs.size:=Nat.ne_of_lt (by rw[sz];exact Nat.lt_succ_of_lt lS);have hSf:s.heap.objs.size∉[(s.heap.push (nY led)).objs.size,l]:=by
          simp only[List.mem_cons,List.not_mem_nil,or_false,not_or];exact⟨Nat.ne_of_lt (by rw[sz];exact Nat.lt_succ_self _),Nat.ne_of_gt lS⟩
        have aaJ:∀(i:Nat) (v:Value),items[i]?=some v->∃ t,v=.int ((fun i=>ns.getD i 0) i) t:=fun i v hv=>IntsAre.int_at hi i v (by rw[Array.getElem?_toList];exact hv);refine CH ((Walks.list hh3 _ l abR items).toS) s.heap.objs.size hSf (fun i=>ns.getD i 0) aaJ h4 (items.size - 0) 0 _ 1e0 (Nat.zero_le _) ⟨⟨_,Heap.get?_push_size _ rfl,rfl,rfl⟩,(Yv.push _)⟩ ?hS0 ?hR
        case hS0=>exact⟨_,#[],0,_,Heap.get?_push_of_some _ hS,⟨rfl,rfl,rfl⟩,rfl,fun e he=>(by simp at he),by decide,rfl,HN aaG,by simp,.nil⟩
        case hR =>
          intro s' hm Zn;obtain⟨h',g',d',tk',Zt⟩:=s';have eg:g'=s.gens:=hm.gens;have ed:d'=s.drawn:=hm.drawn;have eo:Zt=s.os:=hm.os;subst eg ed eo;show wpAny _ _ _ _ _ _;refine wpAny_pure ?_;show wpAny _ _ (ret Value.none) _ _ _;refine wpAny_pure ⟨rfl,h',tk',rfl,Zn,fun b o hb e=>?_⟩;exact hm.heap b o (by simp only[List.mem_cons,List.not_mem_nil,or_false,not_or];exact⟨Nat.ne_of_lt hb,Nat.ne_of_lt (by rw[sz];exact Nat.lt_succ_of_lt hb)⟩) (Heap.get?_push_of_some _ (Heap.get?_push_of_some _ e))
      · cases r₂ with
        | error e=>exact hr₂
        | ok fl₂ =>
          cases fl₂ with
          | ret r =>
            obtain⟨rfl,h',tk,rfl,Zn,hk'⟩:=hr₂
            repeat (any_goals (first|assumption|wp_step))
            exact h _ _ Zn hk'
          | _=>exact hr₂.elim
    | _=>exact hr.elim
end
def C5:Manifest.owners.lookup (String.ofList ['r','o','t','a','r','e','t','i','_','t','e','s'].reverse)=some Manifest.sig_set_iterator:=by kernel_rfl
theorem fE:Slot "set_iterator" "__next__" "set_iterator.__next__" :=
 .of (owner:="set_iterator") (n:="__next__") (by rw[typeLookup_type,builtinLookup_eq_fast];kernel_rfl) 1e18 1e18 1e18
  (by first|exact .inl 1e18|exact .inr 1e18) (by rw[isSubtype_type];kernel_rfl)
def nS:entryFor table "set_iterator.__next__"=some Builtin.«set_iterator.__next__»:=entryFor_of_tree (by kernel_rfl)
def pF(a:Value):argsOk "set_iterator.__next__" ⟨[a],[]⟩:=by
 unfold argsOk;rw[signature?_of (id:="set_iterator.__next__") (n:=['_','_','t','x','e','n','_','_']) (o:=['r','o','t','a','r','e','t','i','_','t','e','s']) (by kernel_rfl) C5];kernel_rfl
theorem qH:Slot "set_iterator" "__iter__" "set_iterator.__iter__" :=
 .of (owner:="set_iterator") (n:="__iter__") (by rw[typeLookup_type,builtinLookup_eq_fast];kernel_rfl) 1e18 1e18 1e18
  (by first|exact .inl 1e18|exact .inr 1e18) (by rw[isSubtype_type];kernel_rfl)
theorem zE:entryFor table "set_iterator.__iter__"=some Builtin.«dict_keyiterator.__iter__» :=
 entryFor_alias (id':="dict_keyiterator.__iter__") (by kernel_rfl) rfl 1e18 (by kernel_rfl)
def AO(a:Value):argsOk "set_iterator.__iter__" ⟨[a],[]⟩:=by
 unfold argsOk;rw[signature?_of (id:="set_iterator.__iter__") (n:=['_','_','r','e','t','i','_','_']) (o:=['r','o','t','a','r','e','t','i','_','t','e','s']) (by kernel_rfl) C5];kernel_rfl
theorem vQ:entryFor table "set.__iter__"=some Builtin.«frozenset.__iter__» :=
 entryFor_alias (id':="frozenset.__iter__") (by kernel_rfl) rfl 1e18 (by kernel_rfl)
section
variable{es:Array (Int×Value)}{ep:Nat}
noncomputable def jW(w:World)(h:Heap)(a:Addr)(es:Array (Int×Value))(ep:Nat)(t:SetTable):Prop:=∃ o,h.get? a=some o/\o.ExactSet/\o.data=.set es ep t/\t.fits es.size=true/\nR w t
def jW.to{h':Heap}(x:jW w h a es ep t)(k:∀ o,h.get? a=some o->h'.get? a=some o):jW w h' a es ep t:=let ⟨o,e,r⟩:=x;⟨o,k _ e,r⟩
def jW.lt(x:jW w h a es ep t):a < h.objs.size:=let ⟨_,e,_⟩:=x;Heap.lt_size e
def jW.ty(x:jW w s.heap a es ep t):s.TypeIs 1e11 "set":=let ⟨o,e,c,_⟩:=x;⟨o,e,c.1⟩
noncomputable def lK(w:World)(a:Addr)(es:Array (Int×Value))(ep:Nat):Array (Int×Value):=if w.params.followText "set-order"=true then pickOrder (w.params.setOrder a ep) es else es
def xK:(lK w a es ep).toList.Perm es.toList:=by
 unfold lK;split
 ·exact IF _ _
 ·exact .refl _
def mL:(lK w a es ep).size=es.size:=by have:=(xK (w:=w) (a:=a) (es:=es) (ep:=ep)).length_eq;simpa using this
def AJ(w:World)(t:SetTable)(i sl:Nat):Prop:=w.params.followText "set-order"=true\/SetTable.below t.place sl=i
noncomputable def yV(w:World)(h:Heap)(it a:Addr)(i n ep:Nat)(t:SetTable):Prop:=∃ o sl,h.get? it=some o/\o.cls=.type "set_iterator"/\o.data=.fields #[.int (sl:Nat) 0,.int (i:Nat) 0,.ref a,.int (n:Nat) 0,.int (ep:Nat) 0]/\AJ w t i sl
def yV.to{h':Heap}(x:yV w h it a i n ep t)(k:∀ o,h.get? it=some o->h'.get? it=some o):yV w h' it a i n ep t:=let ⟨o,sl,e,r⟩:=x;⟨o,sl,k _ e,r⟩
def yV.ty(x:yV w s.heap it a i n ep t):s.TypeIs (.ref it) "set_iterator":=let ⟨o,_,e,c,_⟩:=x;⟨o,e,c⟩
theorem IM(T:nR w t):AJ w t 0 0:=.inr (by
 obtain⟨h1,h2,h3⟩:=oJ t.place 0 T.rise;by_cases z:SetTable.below t.place 0=0
 ·exact z
 ·have:=h1 0 1e0 1e0;omega)
theorem IL(T:nR w t)(e:t.place[i]?=some j):SetTable.below t.place (j+1)=i+1:=by
 obtain⟨hi,ej⟩:=Array.getElem?_eq_some_iff.mp e;obtain⟨h1,h2,h3⟩:=oJ t.place (j+1) T.rise;by_cases c:SetTable.below t.place (j+1)<=i
 ·have:=h2 i hi c;omega
 ·by_cases d:i+1 < SetTable.below t.place (j+1)
  ·have h4:i+1 < t.place.size:=by omega
   have h5:=h1 (i+1) h4 d;have h6:=List.pairwise_iff_getElem.mp T.rise i (i+1) (by simpa using hi) (by simpa using h4) 1e0;simp at h6;omega
  ·omega
theorem LD{Q:q0A}(x:jW w s.heap a es ep t)(q:Q 1e33 {s with heap:=s.heap.push {cls:=.type "set_iterator",data:=.fields #[.int 0 0,.int 0 0,.ref a,.int es.size 0,.int ep 0]}}):wpAny (model P w) A (pyIter 1e11) Q E s:=by
 obtain⟨o,e1,e2,e3,e4,T⟩:=id x;refine wpAny_pyIter_slot x.ty F.slot_set_iter (wpAny_call_entry F.slot_set_iter x.ty vQ ?_ (F.args_set_iter_1 _));unfold Builtin.«frozenset.__iter__»;refine wpAny_bind ?_;show wpAny _ _ ((pure (Value.ref a,([]:List Value)):Sem _) >>= fun z=>Builtin.Frozenset.addrOf z.1) _ _ s;refine wpAny_bind (wpAny_pure 1e42);refine wpAny_bind (wpAny_bind (wpAny_bind (wpAny_setState_of e1 e3 e4 (wpAny_pure 1e42))));refine wpAny_bind (wpAny_bind (wpAny_setState_of e1 e3 e4 ?_));refine wpAny_bind (wpAny_bind (wpAny_askSetting 1e42));refine wpAny_pure ?_;show wpAny _ _ (if (!w.params.followText "set-order"&&(!t.plain&&decide (es.size > 1)))=true then _ else _) _ _ s;rw[T.pln];simp only[Bool.not_true,Bool.false_and,Bool.and_false,Bool.false_eq_true,if_false];refine wpAny_bind (wpAny_pure (wpAny_bind (wpAny_bind (wpAny_setState_of e1 e3 e4 1e42))));refine wpAny_bind (wpAny_newObj_type (wpAny_pure ⟨_,rfl,"set_iterator",_,⟨_,Heap.get?_push_size _ rfl,rfl⟩,fE.lookup,by simpa[rawInt] using q⟩))
theorem yT{sl:Nat}{Q:Option (Value×Nat)->Shared->Prop}(x:jW w s.heap a es ep t)(hs:AJ w t i sl)(q1:∀ e WA,(lK w a es ep)[i]?=some e->AJ w t (i+1) WA->Q (some (e.2,WA)) s)(q0:(lK w a es ep)[i]?=none->Q none s):wpAny (model P w) A (setNext a sl i ep) Q E s:=by
 obtain⟨o,e1,e2,e3,e4,T⟩:=id x;unfold setNext;refine wpAny_bind (wpAny_setState_of e1 e3 e4 ?_);dsimp only;refine wpAny_bind (wpAny_bind (wpAny_askSetting 1e42));show wpAny _ _ (if w.params.followText "set-order"=true then _ else _) _ _ s;by_cases c:w.params.followText "set-order"=true
 ·rw[if_pos c,if_neg 1e1];unfold setWalk;refine wpAny_bind (wpAny_bind (wpAny_setState_of e1 e3 e4 ?_));dsimp only;refine wpAny_bind (wpAny_bind (wpAny_askSetting 1e42));show wpAny _ _ (if w.params.followText "set-order"=true then _ else _) _ _ s;rw[if_pos c];refine wpAny_bind (wpAny_askSetting (wpAny_pure 1e42));show Q (Option.map _ (pickOrder (w.params.setOrder a ep) es)[i]?) s;have eo:lK w a es ep=pickOrder (w.params.setOrder a ep) es:=if_pos c;rw[eo] at q1 q0;cases h:(pickOrder (w.params.setOrder a ep) es)[i]? with
  | none=>exact q0 h
  | some e=>exact q1 e sl h (.inl c)
 ·rw[if_neg c];have eo:lK w a es ep=es:=if_neg c;rw[eo] at q1 q0;have hb:SetTable.below t.place sl=i:=hs.resolve_left c;have hl:t.led=true:=T.led.resolve_left c;show wpAny _ _ (if (!t.plain&&decide (es.size > 1))=true then _ else _) _ _ s;rw[T.pln];simp only[Bool.not_true,Bool.false_and,Bool.false_eq_true,if_false];show wpAny _ _ ((if (!t.led&&!es.isEmpty)=true then unsupported "set:maker-not-led" else pure ()) >>= fun _=>_) _ _ s;rw[hl];simp only[Bool.not_true,Bool.false_and,Bool.false_eq_true,if_false];refine wpAny_bind (wpAny_pure 1e42);rw[hb];have hz:t.place.size=es.size:=by
   have:=e4;unfold SetTable.fits at this;simp only[Bool.and_eq_true,beq_iff_eq] at this;exact this.1
  by_cases d:i < es.size
  ·have h1:es[i]?=some es[i]:=Array.getElem?_eq_getElem d;have h2:t.place[i]?=some (t.place[i]'(by omega)):=Array.getElem?_eq_getElem 1e0;rw[h1,h2];exact q1 _ _ h1 (.inr (IL T h2))
  ·have h1:es[i]?=none:=Array.getElem?_eq_none 1e0;rw[h1];exact q0 h1
def LG(ki:yV w s.heap it a i es.size ep t)(x:jW w s.heap a es ep t){e:Int×Value}(he:(lK w a es ep)[i]?=some e)(q:∀ h',yV w h' it a (i+1) es.size ep t->Heap.SameBut it s.heap h'->Q (some e.2) {s with heap:=h'}):wpAny (model P w) A (pyNext (.ref it)) Q E s:=by
 obtain⟨oi,sl,i1,i2,i3,i4⟩:=id ki;obtain⟨o,e1,e2,e3,e4,T⟩:=id x;have lt:i < es.size:=by have:=(Array.getElem?_eq_some_iff.mp he).1;rw[mL] at this;exact this
 unfold pyNext;refine wpAny_bind (wpAny_attempt (wpAny_callSpecial?_slot (name:=Str.ofString "__next__") ki.ty fE
  (wpAny_call_entry fE ki.ty nS ?_ (pF _))))
 unfold Builtin.«set_iterator.__next__»;refine wpAny_bind (wpAny_pure (wpAny_bind (wpAny_fieldsOf i1 i3 ?_)));show wpAny _ _ (setEntries a >>= fun _=>_) _ _ s;refine wpAny_bind (wpAny_bind (wpAny_setState_of e1 e3 e4 1e42));rw[if_neg 1e1];show wpAny _ _ (setNext a (Int.toNat (sl:Nat)) (Int.toNat (i:Nat)) (Int.toNat (ep:Nat)) >>= fun z=>_) _ _ s;simp only[Int.toNat_natCast];refine wpAny_bind ?_;refine yT x i4 (fun e' WA he' X4=>?_) fun z=>by rw[z] at he;cases he
 rw[he] at he';cases he';show wpAny _ _ (setField (.ref it) 0 (rawInt (WA:Nat)) >>= fun _=>_) _ _ s;refine wpAny_bind (wpAny_setField i1 i3 1e1 ?_);have j1:(s.heap.update it (Obj.mapFields (·.setIfInBounds 0 (rawInt (WA:Nat))))).get? it=some (Obj.mapFields (·.setIfInBounds 0 (rawInt (WA:Nat))) oi):=Heap.get?_update_self _ i1 (Obj.isFreed_of_fields (Obj.data_mapFields i3 _));have j3:(Obj.mapFields (·.setIfInBounds 0 (rawInt (WA:Nat))) oi).data=.fields #[.int (WA:Nat) 0,.int (i:Nat) 0,.ref a,.int (es.size:Nat) 0,.int (ep:Nat) 0]:=by rw[Obj.data_mapFields i3];simp[rawInt]
 show wpAny _ _ (setField (.ref it) 1 (rawInt ((i:Int)+1)) >>= fun _=>_) _ _ _;refine wpAny_bind (wpAny_setField j1 j3 1e1 ?_);refine wpAny_pure ⟨_,rfl,wpAny_pure (q _ ⟨_,WA,Heap.get?_update_self _ j1 (Obj.isFreed_of_fields (Obj.data_mapFields j3 _)),((Obj.cls_mapFields ..).trans (Obj.cls_mapFields ..)).trans i2,by rw[Obj.data_mapFields j3];simp[rawInt],X4⟩ ((Heap.SameBut.update ..).trans (Heap.SameBut.update ..)))⟩
theorem Of(hh:A.handled=none)(ki:yV w s.heap it a es.size es.size ep t)(x:jW w s.heap a es ep t)(q:∀ h',Heap.ExtBut it s.heap h'->Q none {s with heap:=h'}):wpAny (model P w) A (pyNext (.ref it)) Q E s:=by
 obtain⟨oi,sl,i1,i2,i3,i4⟩:=id ki;obtain⟨o,e1,e2,e3,e4,T⟩:=id x;unfold pyNext;refine wpAny_bind (wpAny_attempt (wpAny_callSpecial?_slot (name:=Str.ofString "__next__") ki.ty fE
  (wpAny_call_entry fE ki.ty nS ?_ (pF _))))
 unfold Builtin.«set_iterator.__next__»;refine wpAny_bind (wpAny_pure (wpAny_bind (wpAny_fieldsOf i1 i3 ?_)));show wpAny _ _ (setEntries a >>= fun _=>_) _ _ s;refine wpAny_bind (wpAny_bind (wpAny_setState_of e1 e3 e4 1e42));rw[if_neg 1e1];show wpAny _ _ (setNext a (Int.toNat (sl:Nat)) (Int.toNat (es.size:Nat)) (Int.toNat (ep:Nat)) >>= fun z=>_) _ _ s;simp only[Int.toNat_natCast];refine wpAny_bind ?_;refine yT x i4 (fun e' WA he' X4=>by
  have:=(Array.getElem?_eq_some_iff.mp he').1;rw[mL] at this;omega) fun _=>?_
 show wpAny _ _ (setField (.ref it) 2 .none >>= fun _=>_) _ _ s;refine wpAny_bind (wpAny_setField i1 i3 1e1 ?_);show wpAny _ _ (newExc (.type "StopIteration") [] >>= fun _=>_) _ _ _;refine wpAny_bind ?_;simp only[newExc,newTuple];refine wpAny_bind (wpAny_newObj_type ?_ (by size_fits));refine wpAny_bind (m:=firstArgMember _ _) (wpAny_of_eq (a:=Value.none) (by first|rfl|(simp only[firstArgMember];rfl)) (wpAny_newObj_type ?_ (by size_fits)))
 simp only[raiseNew];refine wpAny_bind (wpAny_handled ?_);rw[show A.in1.handled=none from hh];refine wpAny_bind (wpAny_pure (wpAny_throw ?_));refine wpAny_bind (wpAny_isInstance (T:="StopIteration") (b:=true) ⟨_,Heap.get?_push_size _ rfl,rfl⟩ (show _ from isSubtype_stop) ?_);exact wpAny_pure (q _ (((Heap.SameBut.update ..).extBut.push _).push _))
def LH{Q:q0A}(ki:yV w s.heap it a i n ep t)(h:Q (.ref it) s):wpAny (model P w) A (pyIter (.ref it)) Q E s:=by
 refine wpAny_pyIter_slot ki.ty qH (wpAny_call_entry qH ki.ty zE ?_ (AO _));show wpAny _ _ (ret (.ref it)) _ _ s;exact wpAny_pure ⟨_,rfl,"set_iterator",_,ki.ty,fE.lookup,h⟩
def IY(hh:A.handled=none)(it a:Addr)(ne:a≠it)(es:Array (Int×Value))(ep:Nat)(t:SetTable) : Walks P w A it [it,a] [it] es.size (fun i v=>∃ e,(lK w a es ep)[i]?=some e/\v=e.2) (fun i h=>yV w h it a i es.size ep t/\jW w h a es ep t) where
 sub:=fun b hb=>by simp at hb;simp[hb]
 frame:=fun _ _ _ st hk=>⟨st.1.to fun o e=>hk it 1e1 o e,st.2.to fun o e=>hk a 1e1 o e⟩
 item:=fun i s Q E hi st hQ=>LG st.1 st.2 (Array.getElem?_eq_getElem (by rw[mL];exact hi)) fun h' k2 sb=>hQ _ h' s.toks ⟨_,Array.getElem?_eq_getElem (by rw[mL];exact hi),rfl⟩ ⟨k2,st.2.to fun o e=>sb.extBut a o ne e⟩ fun b o hb e=>sb.extBut b o (fun h=>hb (by simp[h])) e
 done:=fun s Q E st hQ=>Of hh st.1 st.2 fun h' he=>hQ h' s.toks fun b o hb e=>he b o (fun h=>hb (by simp[h])) e
 self:=fun _ _ _ _ st hQ=>LH st.1 hQ
end
section
variable{prog:Program}{r:Addr}{es:Array (Int×Value)}{ep:Nat}
theorem Kl{Q:Bool->Shared->Prop}(hT:s.TypeIs (.ref r) "set")(h:Q false s):wpAny 1e15 A (Builtin.List.listLengthHint (.ref r)) Q E s:=by
 unfold Builtin.List.listLengthHint;refine wpAny_bind (wpAny_specialOf hT PySem.F.slot_set_len.lookup ?_);generalize hid:("set.__len__":String)=id0
 wp_delta
 rw[show splitId id0=some ("set","__len__") from by subst hid;decide +kernel];subst hid;refine wpAny_bind (wpAny_isInstance (T:="set") (b:=true) hT (by rw[isSubtype_type];kernel_rfl) ?_);refine wpAny_ite_split (fun hab=>absurd hab 1e6) (fun _=>?_);refine wpAny_ite_split (fun _=>?_) (fun hab=>absurd 1e18 hab);refine wpAny_bind (wpAny_typeOf hT ?_);exact wpAny_pure h
open PySem.W in
theorem Ol:KdlSrc prog w "set" a a es.size (fun i v=>∃ e,(lK w a es ep)[i]?=some e/\v=e.2) (fun h=>jW w h a es ep t) where
 type:=fun _ hm=>hm.ty
 there:=fun _ hm=>⟨hm.lt,hm.lt⟩
 keep:=fun _ _ hm hk=>hm.to fun o e=>hk a 1e23 o e
 notList:=by decide
 notTuple:=by decide
 hint:=fun _ _ _ _ hm hq=>Kl hm.ty hq
 iter:=fun _ _ hh hm=>⟨_,_,(fun _ _ hq=>LD hm hq),IY hh _ a (Nat.ne_of_lt hm.lt) es ep t,⟨⟨_,0,Heap.get?_push_size _ rfl,rfl,rfl,IM (let ⟨_,_,_,_,_,T⟩:=hm;T)⟩,hm.to fun o e=>Heap.get?_push_of_some _ e⟩⟩
end
theorem Jm:bootBuiltins "set"=some (.type "set"):=by decide +kernel
def look1{k z:Str}{c:Addr}{r:List (Str×Addr)}(e:List.lookup k r=some a)(h:List.lookup z [(k,a)]=some c):List.lookup z r=some c:=by
 simp only[List.lookup] at h;split at h
 ·next y=>cases h;rw[eq_of_beq y];exact e
 ·cases h
def DN(P:Program)(w:World)(a:Addr)(ns:List Int):HO:=.ext (qL P w a ns)
def Oe(x:qL X.prog X.w a ns h):dO X.prog X.w H h a (DN X.prog X.w a ns) :=
 ⟨x,let ⟨o,_,_,_,e,_⟩:=x;⟨o,e⟩,fun _ _ y k=>y.keep k⟩
def lJ(ns:List Int):List Int:=once (fun i=>ns.getD i 0) ns.length
noncomputable def Ju(P:Program)(w:World):List V->Hp->VK->Prop:=fun vs H Q=>on1 vs fun x=>bF x fun p=>∃ ns:List Int,H p=some (.lst 1e63)/\ns.length<=4/\∀ l,H l=none->Q (.ref l) (Wa H l (DN P w l (lJ ns)))
theorem zZ(hc:X.calm=true):fF X (.type "set") (Ju X.prog X.w):=fun V9 s σ H xs us Q I r h=>by
 obtain⟨x,rfl,h1⟩:=mI h;obtain⟨p,rfl,ns,e,h4,q⟩:=aQ h1;obtain⟨u,rfl,ru⟩:=vals1 r;cases ru;obtain⟨Wd,r',pl,hz⟩:=I.list (e9.of e);have hi:IntsAre Wd ns:=Et r';have hlen:=r'.length;have lm:Wd.toArray.size=ns.length:=by simpa using hlen.symm
 refine Cc (items:=Wd.toArray) (I.ok.hd hc) pl.isList (by simpa using hi) 1e0 fun h' tk hS kp=>?_;rw[lm] at hS;exact⟨.ref s.heap.objs.size,_,I.laid (t':=tk) (fun b o e=>kp b o 1e26 e) 1e5 (Oe hS),rfl,q _ (I.Wh.fresh 1e5)⟩
noncomputable def Jt(P:Program)(w:World):List V->Hp->VK->Prop:=fun vs H Q=>on1 vs fun x=>bF x fun p=>∃ ns:List Int,H p=some (DN P w p ns)/\Q (.int ns.length) H
theorem D8:fF X (.builtin "len") (Jt X.prog X.w):=fun V9 s σ H xs us Q I r h=>by
 obtain⟨x,rfl,h1⟩:=mI h;obtain⟨p,rfl,ns,e,q⟩:=aQ h1;obtain⟨u,rfl,ru⟩:=vals1 r;cases ru;obtain⟨⟨o,es,ep,t,ho,hex,hd,ZH,hb,hf,T,hi,hp⟩,_⟩:=I.Wh p _ e;have hl:es.size=ns.length:=by have:=hp.length_eq;simpa using this
 have b1:scanBound=4096:=rfl;refine call_len_set ho hex hd hf 1e0 ?_;exact⟨.int ns.length,H,I.tok _,⟨_,by rw[hl]⟩,q⟩
noncomputable def Jv(P:Program)(w:World):List V->Hp->VK->Prop:=fun vs H Q=>on1 vs fun x=>bF x fun p=>∃ ns:List Int,H p=some (DN P w p ns)/\ns.length < 64/\∀(l:Addr) (Wv:List Int),H l=none->Wv.Perm ns->Wv.Pairwise (·<=·)->Q (.ref l) (Wa H l (.lst (Wv.map V.int)))
theorem Ea(hc:X.calm=true):fF X (.builtin "sorted") (Jv X.prog X.w):=fun V9 s σ H xs us Q I r h=>by
 obtain⟨x,rfl,h1⟩:=mI h;obtain⟨p,rfl,ns0,e,h64,q0⟩:=aQ h1;obtain⟨u,rfl,ru⟩:=vals1 r;cases ru;obtain⟨⟨od,es,ep,t,ho,hex,hd,ZH,hb,hf,T,hi,hp0⟩,_⟩:=I.Wh p _ e;have hl:es.size=ns0.length:=by have:=hp0.length_eq;simpa using this
 obtain⟨m,hn,_⟩:=I.loc;have Xf:p≠X.env.locals:=aF e I.free;obtain⟨ns,ens⟩:∃ ns,ns=(lK X.w p es ep).toList.map fun e=>CF e.2:=⟨_,rfl⟩;have pns:ns.Perm ns0:=by rw[ens];exact(xK.map _).trans hp0
 have lns:ns.length=es.size:=by rw[ens];simp[mL]
 have q:∀(l:Addr) (Wv:List Int),H l=none->Wv.Perm ns->Wv.Pairwise (·<=·)->Q (.ref l) (Wa H l (.lst (Wv.map V.int))):=fun l Wv a b c=>q0 l Wv a (b.trans pns) c;refine PySem.W.kdu_sorted (Ol (a:=p) (es:=es) (ep:=ep) (t:=t)) (I.ok.hd hc) (Att.Kc hn) (Att.sH Xf ho) ⟨od,ho,hex,hd,hf,T⟩ (by rw[sizeLine_eq];omega) fun D h' tk vs F N lt hlen hP=>?_;have hI:IntsAre vs ns:=Gb 1e0 fun j v ev=>by
  obtain⟨e,e1,rfl⟩:=hP j v ev;have Xs:(lK X.w p es ep).toList[j]?=some e:=by rw[Array.getElem?_toList];exact e1
  obtain⟨i,tk,et⟩:=hi e (xK.mem_iff.mp (List.mem_of_getElem? Xs));exact⟨i,tk,by rw[ens,List.getElem?_map,Xs];simp only[Option.map_some,et,CF],et⟩
 have hD:h'.get? D=some (seqObj "list" vs.toArray 0):=(N _ (List.Mem.head _)).1;have old:∀ b o,b≠X.env.locals->s.heap.get? b=some o->h'.get? b=some o/\b < D:=fun b o nb eb=>by
  by_cases hb:b=p
  ·subst hb;rw[ho] at eb;cases eb;exact⟨(N _ (List.Mem.tail _ (List.Mem.head _))).1,lt _ (List.Mem.head _)⟩
  ·have mem:=Att.oU (h:=s.heap) (L:=X.env.locals) (d:=p) |>.mpr ⟨nb,hb,eb⟩;exact⟨(N _ (List.Mem.tail _ (List.Mem.tail _ mem))).1,lt _ (List.Mem.tail _ mem)⟩
 have g:MeetsIn X.prog X.w (Builtin.«list.sort» ⟨[.ref D],[]⟩) (fun _ R s=>s.heap.get? D=some (seqObj "list" vs.toArray 0)/\∀(out:Array Value) (Wv:List Int),IntsAre out.toList Wv->Wv.Perm ns->Wv.Pairwise (·<=·)->R (.ok (.ret .none)) {s with heap:=sortedHeap s.heap D vs out}) :=
  fun A R s ⟨g1,g2⟩=>list_sort_tree g1 hI 1e0 fun out Wv a b c=>g2 out Wv a b c
 refine call_meetsIn PySem.F.slot_list_sort ⟨_,hD,rfl⟩ PySem.F.entry_list_sort (PySem.F.args_list_sort_1 _) g ⟨hD,fun out Wv hI' hp hs=>?_⟩;have hDL:D≠X.env.locals:=(N _ (List.Mem.head _)).2.1;have YK:H D=none:=by
  cases z:H D with
  | none=>rfl
  | some o =>
   obtain⟨ob,eb⟩:=(I.Wh D o z).there;exact absurd (old D ob hDL eb).2 (Nat.lt_irrefl _)
 have new:∀ b o,b≠X.env.locals->s.heap.get? b=some o->(sortedHeap h' D vs out).get? b=some o:=fun b o nb eb=>by
  obtain⟨h1,h2⟩:=old b o nb eb;rw[sortedHeap_old (Nat.ne_of_lt h2) (Heap.lt_size h1)];exact h1
 obtain⟨e',hD'⟩:=sortedHeap_at (out:=out) hD;have Zc:∀ m',s.heap.Ns X.env.locals m'->(sortedHeap h' D vs out).Ns X.env.locals m':=fun m' hm=>by
  have em:m'=m:=by
   obtain⟨o1,WO,ep1,a1,b1,_,c1⟩:=hm;obtain⟨o2,es2,ep2,a2,b2,_,c2⟩:=hn;rw[a1] at a2;cases a2;rw[b1] at b2;cases b2;funext y;rw[<- c1,<- c2]
  subst em;obtain⟨o1,WO,ep1,a1,r1⟩:=F.ns;exact⟨o1,WO,ep1,by rw[sortedHeap_old hDL.symm (Heap.lt_size a1)];exact a1,r1⟩
 have nn:∀ {b:Addr} {o:HO},H b=some o->b≠D:=fun h z=>by subst z;rw[YK] at h;cases h
 have nl:∀ {b:Addr} {o:HO},H b=some o->b≠X.env.locals:=fun h=>aF h I.free;refine⟨.ref D,Wa H D (.lst (Wv.map V.int)),show Wc X V9 σ _ {s with heap:=sortedHeap h' D vs out,gens:=s.gens,drawn:=s.drawn,toks:=tk} from I.step (g':=s.gens) (d':=s.drawn) (t':=tk) (ch:=[]) (fun _ z=>nomatch z) (fun b o nb _ _ eb _=>new b o nb eb) (fun b o nb _ _ eb _=>⟨o.slots,new b o nb eb⟩) (fun b o _ eb hb=>?_) (fun b o _ eb=>?_)
  (fun b xs hb=>by rw[aD (nn hb)];exact hb) (fun b o u hb=>by rw[aD (nn hb)];exact hb) (fun b ps hb=>⟨#[],by rw[aD (nn hb),hb];simp⟩) Zc (fun b o hb=>?_) I.bare,rfl,q D Wv YK hp hs⟩
 ·by_cases YM:b=D
  ·subst YM;by_cases YN:b=X.env.locals
   ·exact absurd YN hDL
   ·exact absurd (old b o YN eb).2 (Nat.lt_irrefl _)
  ·rw[aD YM];exact hb
 ·by_cases YN:b=X.env.locals
  ·subst YN;obtain⟨o1,WO,ep1,a1,r1⟩:=Zc m hn;exact⟨o1,a1⟩
  ·exact⟨o,new b o YN eb⟩
 ·by_cases YM:b=D
  ·subst YM;rw[aA] at hb;cases hb;exact⟨by rw[List.length_map,hp.length_eq,sizeLine_eq];omega,out.toList,e',nL hI',hD'⟩
  ·rw[aD YM] at hb;refine(I.Wh b o hb).zM (fun c v hc ev=>?_) (fun c hc=>by rw[aD (nn hc)];exact hc) fun c xs hc=>by rw[aD (nn hc)];exact hc
   rcases hc with hc|hc
   ·subst hc;exact new c v (nl hb) ev
   ·exact new c v (nl hc) ev
section
variable{Q:VK}{p:Addr}
def Nd:Ju P w [.ref p] H Q = ∃ ns:List Int,H p=some (.lst 1e63)/\ns.length<=4/\∀ l,H l=none->Q (.ref l) (Wa H l (DN P w l (lJ ns))):=rfl
def MU:Jt P w [.ref p] H Q = ∃ ns:List Int,H p=some (DN P w p ns)/\Q (.int ns.length) H:=rfl
def J4:Jv P w [.ref p] H Q = ∃ ns:List Int,H p=some (DN P w p ns)/\ns.length < 64/\∀(l:Addr) (Wv:List Int),H l=none->Wv.Perm ns->Wv.Pairwise (·<=·)->Q (.ref l) (Wa H l (.lst (Wv.map V.int))):=rfl
end
noncomputable def RZ(K:q0B)(n:Nat):R2:=fun x y H Q=>bF x fun a=>bF y fun b=>(∃ r,yW K H n a b r/\Q (.bl r) H) \/
 ∃(z z' u:Str) (p:Addr) (ts:List V),H a=some (.tup [.str z,.ref p])/\H p=some (.tup ts)/\H b=some (.tup [.str z',.str u])/\z≠z'/\Q (.bl false) H
theorem Rl(n:Nat)(hn:2<=n)(hu:X.A.units+n < cLine):jD X (compareOp .Eq) (RZ X.K n):=fun V9 s σ H x y v u Q I rx ry h=>by
 obtain⟨a,rfl,h1⟩:=aQ h;obtain⟨b,rfl,h2⟩:=aQ h1;cases rx;cases ry;rcases h2 with⟨r,e,q⟩|⟨z,z',k,p,ts,ea,ep,eb,ne,q⟩
 ·exact Ly e I hu X.prog X.w X.xe _ (bV I q rfl)
 ·obtain⟨Wd,r1,p1,_⟩:=I.tuple (g9.of ea);obtain⟨ZR,r2,p2,_⟩:=I.tuple (g9.of eb);obtain⟨kts,r3,p3,_⟩:=I.tuple (g9.of ep);cases r1 with
  | cons a1 r1 =>
  cases r1 with
  | cons a2 r1 =>
  cases r1;cases r2 with
  | cons b1 r2 =>
  cases r2 with
  | cons b2 r2 =>
  cases r2;obtain⟨t1,rfl⟩:=a1;cases a2;obtain⟨t2,rfl⟩:=b1;obtain⟨t3,rfl⟩:=b2;have:=SeqAt.RcAt.tuples (A:=X.A) (e:=fun j=>if j=0 then (z==z') else false) (show s.heap.IsTuple a #[_,_] from p1) (show s.heap.IsTuple b #[_,_] from p2) 1e0 (fun j h1 h2=>by
   match j,h1 with
   | 0,_=>exact SeqAt.EqAt.str_str z t1 z' t2
   | 1,_=>exact SeqAt.EqAt.tuple_str k t3 (show s.heap.IsTuple p kts.toArray from p3) (by show X.A.units+1 < _;omega))
  have nz:(z==z')=false:=beq_eq_false_iff_ne.mpr ne;have ef:((List.range (min (2:Nat) 2)).all (fun j=>if j=0 then (z==z') else false)&&((2:Nat)==2))=false:=by rw[nz];rfl
  have:=this X.prog X.w X.xe 1e43 (by
   show EP X V9 σ Q (.bool ((List.range (min (2:Nat) 2)).all (fun j=>if j=0 then (z==z') else false)&&((2:Nat)==2))) s;rw[ef];exact bV I q rfl)
  exact this
section
variable{Q:VK}{b:Addr}
def Sy:RZ K n 1e11 (.ref b) H Q=((∃ r,yW K H n a b r/\Q (.bl r) H)\/∃(z z' u:Str) (p:Addr) (ts:List V),H a=some (.tup [.str z,.ref p])/\H p=some (.tup ts)/\H b=some (.tup [.str z',.str u])/\z≠z'/\Q (.bl false) H):=rfl
end
section
variable{Q:VK}{p:Addr}
end
end L2
namespace PySem
open AutoSeq1 (wpAny_loadPart')
open PyProof.Rows PySem.W
section
variable {prog:Program} {w:World} {A:Around} {E:q0A} {s:Shared} {K:Type} [DecidableEq K] {knd:KeyKind prog w K} {r d:Addr} {kvs:List (K×Value)} {ep:Nat}
end
end PySem
namespace L2
open PySem PySem.Spec PyProof.Rows
section
variable{X:Cx}{o:Expr}{td:TE}{apos Wj:Pos}
end
section
variable{H:Hp}{Q:VK}{p:Addr}{td:TE}{σ:St}
end
end L2
namespace L2
open PySem PySem.Spec PyProof.Rows
variable{a:Addr}{items:Array Value}{ns:List Int}{vs:List Value}{n:Nat}{st:SortSt}
theorem Gj:∀(f n r:Nat),r<=1->minRun' f n r<=n+r
 | 0,n,r,_=>Nat.le_of_eq rfl
 | f+1,n,r,hr=>by
  rw[minRun'_succ];split
  ·omega
  ·have:=Gj f (n / 2) (max r (n % 2)) 1e0;omega
section
variable{prog:Program}{w:World}{A:Around}{E:q0A}{s:Shared}{b0:Array Keyed}
theorem Rz{C:Option Nat->SortSt->Prop}(ik:IntKeys b0)(sb:SBase b0 st)(one:1<=b0.size)(up:∀ n,1<=n->n < b0.size->K (arrOf st) (n - 1)<=K (arrOf st) n)(q:SortedTo (arrOf st) b0.size->C (some b0.size) st):wpS 1e15 A E s (countRun' 0 b0.size) C st:=by
 rw[countRun0_eq];refine wpS_bind (wpS_ascLoop ik 1e5 (Nat.le_refl 1) one sb (fun i j a b=>?_) fun n n1 n2 so oz=>?_)
 ·obtain rfl:i=j:=by omega
  exact Int.le_refl _
 ·have en:n=b0.size:=by
   rcases oz with z|z
   ·exact z
   ·rcases Nat.lt_or_ge n b0.size with y|y
    ·have:=up n n1 y;omega
    ·omega
  dsimp only;rw[en] at so ⊢;rw[if_pos 1e1];exact wpS_pure (q so)
theorem Oi{C:Unit->SortSt->Prop}(ik:IntKeys b0)(sb:SBase b0 st)(two:2<=b0.size)(up:∀ n,1<=n->n < b0.size->K (arrOf st) (n - 1)<=K (arrOf st) n)(q:∀ WB,(arrOf WB).Perm b0->failedOf WB=none->SortedTo (arrOf WB) b0.size->C () WB):wpS 1e15 A E s sortRuns' C st:=by
 rw[sortRuns'_eq];refine wpS_bind (wpS_get ?_);dsimp only;have mr:=Gj b0.size b0.size 0 1e0;simp only[sb.size];obtain⟨P1,hP1⟩:∃ P1:SortSt->Prop,∀ z,P1 z=(arrOf z=arrOf st/\failedOf z=none/\pendingOf z = #[(0,b0.size,0)]/\SortedTo (arrOf z) b0.size):=⟨_,fun _=>rfl⟩;refine wpS_bind (wpS_mono (wpS_forRange (I:=fun x c z=>(x=0/\c=(none,0)/\z=st)\/(1<=x/\c=(none,b0.size)/\P1 z)) (Q:=fun c z=>c=(none,b0.size)/\P1 z) ?stp ?end0 (.inl ⟨rfl,rfl,rfl⟩)) ?aft)
 case end0 =>
  rintro c z (⟨a,_,_⟩|⟨_,a,b⟩)
  ·omega
  ·exact⟨a,b⟩
 case stp =>
  rintro x c z _ _ (⟨rfl,rfl,rfl⟩|⟨_,rfl,b⟩)
  ·dsimp only;rw[if_neg 1e0];simp only[Nat.sub_zero,Nat.zero_add];refine wpS_bind (Rz ik sb 1e0 up fun so=>?_);dsimp only;rw[if_neg 1e0];refine wpS_bind (wpS_get ?_);rw[show(pendingOf z).back?=none by rw[sb.pend];rfl];dsimp only;refine wpS_bind (wpS_modify (wpS_pure (.inr ⟨Nat.le_refl _,rfl,?_⟩)));rw[hP1];exact⟨rfl,sb.failed,by show(pendingOf z).push _=_;rw[sb.pend];rfl,so⟩
  ·dsimp only;rw[if_pos 1e5];exact wpS_pure ⟨rfl,b⟩
 case aft =>
  rintro c z ⟨rfl,b⟩;rw[hP1] at b;dsimp only;refine wpS_bind (wpS_mono (wpS_forRange (I:=fun _ c y=>y=z/\c=(none,())) (Q:=fun c y=>y=z/\c=(none,())) ?_ (fun _ _ e=>e) ⟨rfl,rfl⟩) ?_)
  ·rintro x c y _ _ ⟨rfl,rfl⟩;refine wpS_bind (wpS_get ?_);rw[if_pos (by rw[b.2.2.1];exact Nat.le_refl 1)];exact wpS_pure ⟨rfl,rfl⟩
  ·rintro c y ⟨rfl,rfl⟩;exact wpS_pure (q _ (b.1▸sb.perm) b.2.1 b.2.2.2)
def Kr(hI:IntsAre vs ns):∀ {i:Nat} {n:Int},ns[i]?=some n->∃ t,vs[i]?=some (.int n t):=by
 induction hI with
 | nil=>intro i n h;simp at h
 | cons m t _ ih =>
  intro i n h;cases i with
  | zero =>
   simp only[List.getElem?_cons_zero,Option.some.injEq] at h;subst h;exact⟨t,rfl⟩
  | succ i=>exact ih 1e37
def Oz(hI:IntsAre vs ns){i:Nat}{n:Int}(h:ns[i]?=some n):K (pairsOf vs) i=n:=by
 obtain⟨t,e⟩:=Kr hI h;have z:(pairsOf vs)[i]?=some (.int n t,.int n t):=by
  rw[<- Array.getElem?_toList,pairsOf_toList,List.getElem?_zip_eq_some];exact⟨e,e⟩
 unfold K;rw[z];rfl
theorem Br{C:Fin->Shared->Prop}(ho:s.heap.get? a=some (seqObj "list" vs.toArray n))(hI:IntsAre vs ns)(hr:ns.Pairwise (·<=·))(hz:vs.length<=sizeLine)(q:∀(out:Array Value) (Wv:List Int),IntsAre out.toList Wv->Wv.Perm ns->Wv.Pairwise (·<=·)->C (.done (.ret .none)) {s with heap:=sortedHeap s.heap a vs out}) : wpAny 1e15 A (Builtin.«list.sort» ⟨[.ref a],[]⟩) C E s:=by
 by_cases XA:vs.length < 64
 ·exact list_sort_tree ho hI XA q
 have lI:vs.length=ns.length:=hI.length;have la:a < s.heap.objs.size:=Heap.lt_size ho;rw[list_sort_plain];refine wpAny_bind (listItems_at ho rfl (wpAny_bind (listUpdate_at ho rfl ?_)));obtain⟨e1,o1⟩:∃ e1,(s.heap.update a (Obj.mapSeq fun _=>#[])).get? a=some (seqObj "list" #[] e1):=⟨_,get?_update_seq ho (fun _=>#[])⟩;refine wpAny_bind (seqEpoch_at o1 rfl (wpAny_bind (wpAny_newTuple (wpAny_bind (wpAny_newList (wpAny_holding ?_))))));have o6:(((s.heap.update a (Obj.mapSeq fun _=>#[])).push (seqObj "tuple" vs.toArray 0)).push (seqObj "list" #[] 0)).get? a=some (seqObj "list" #[] e1):=Heap.get?_push_of_some _ (Heap.get?_push_of_some _ o1);show wpAny 1e15 A _ C E {s with heap:=((s.heap.update a (Obj.mapSeq fun _=>#[])).push (seqObj "tuple" vs.toArray 0)).push (seqObj "list" #[] 0)};dsimp only;have Xf:¬ vs.toArray.size < 2:=by rw[List.size_toArray];omega
 rw[if_neg Xf,if_neg Xf];obtain⟨u,v,rest,rfl⟩:∃ u v rest,vs=u::v::rest:=by
  match vs,XA with
  | [],z=>exact absurd 1e1 z
  | [_],z=>exact absurd 1e1 z
  | u::v::rest,_=>exact⟨u,v,rest,rfl⟩
 rw[keyKind_ints hI];refine wpAny_bind (wpAny_pure (wpAny_bind (wpAny_mono (Oi (b0:=pairsOf (u::v::rest)) (st:=SortSt.mk' oneType' ((u::v::rest).toArray.zip (u::v::rest).toArray) #[] 7 none)
  (C:=fun _ z=>(arrOf z).Perm (pairsOf (u::v::rest))/\failedOf z=none/\SortedTo (arrOf z) (pairsOf (u::v::rest)).size)
  hI.intKeys ⟨Array.Perm.refl _,rfl,rfl,rfl⟩ (by rw[pairsOf_size];simp) (fun i i1 i2=>?_) fun z x y c=>⟨x,y,c⟩) ?_ fun _ _ e=>e)))
 ·rw[pairsOf_size] at i2;have l1:i - 1 < ns.length:=by omega
  have l2:i < ns.length:=by omega
  show K (pairsOf (u::v::rest)) (i - 1)<=K (pairsOf (u::v::rest)) i;rw[Oz hI (List.getElem?_eq_getElem l1),Oz hI (List.getElem?_eq_getElem l2)];exact List.pairwise_iff_getElem.mp hr (i - 1) i l1 l2 1e0
 rintro⟨⟨⟩,z⟩ s' ⟨rfl,hp,hf,hs⟩;dsimp only;refine wpAny_bind (seqEpoch_at o6 rfl (wpAny_bind (listUpdate_at o6 rfl ?_ (hsz2:=by refine Nat.le_trans (Nat.le_of_eq ((Array.size_map ..).trans (hp.size_eq.trans (pairsOf_size _)))) ?_;omega))));rw[hf];simp only[bne_self_eq_false,Bool.false_eq_true,if_false];obtain⟨Wv,h1,h2,h3⟩:=sorted_out hI hp hs;exact wpAny_pure (q _ Wv h1 h2 h3)
end
noncomputable def Jw:List V->Hp->VK->Prop:=fun vs H Q=>on1 vs fun x=>bF x fun p=>dA (H p) fun kvs=>fD (intKeys kvs) fun ns=>ns.Pairwise (· < ·)/\∀(l:Addr) (Wv:List Int),H l=none->Wv.Perm ns->Wv.Pairwise (·<=·)->Q (.ref l) (Wa H l (.lst (Wv.map V.int)))
theorem Eb{X:Cx}(hc:X.calm=true):fF X (.builtin "sorted") Jw:=fun V9 s σ H xs us Q I r h=>by
 obtain⟨x,rfl,h1⟩:=mI h;obtain⟨p,rfl,h2⟩:=aQ h1;obtain⟨kvs,e,h3⟩:=dJ h2;obtain⟨ns,ek,abJ,q⟩:=cF h3;obtain⟨u,rfl,ru⟩:=vals1 r;cases ru;obtain⟨hl,hk⟩:=wH ek;obtain⟨z,hd,vs0,rel,dd⟩:=vB I.Wh e;obtain⟨ep,dat⟩:=dd.dictAt;obtain⟨od,es,ho,_⟩:=id dat;obtain⟨m,hn,_⟩:=I.loc;have Xf:p≠X.env.locals:=aF e I.free;have l0:=rel.length;refine PySem.W.kdu_sorted (PySem.W.kdl_dict (knd:=bJ X.prog X.w) (kvs:=vs0) (ep:=ep) hd) (I.ok.hd hc) (Att.Kc hn) (Att.sH Xf ho) dat 1e0 fun D h' tk vs F N lt hlen hP=>?_;have hI:IntsAre vs ns:=Gb 1e0 fun j v ev=>by
  obtain⟨k,x,e1,e2⟩:=hP j v ev;have hj:j < kvs.length:=by
   have:=(List.getElem?_eq_some_iff.mp e1).1;omega
  obtain⟨⟨k',x'⟩,ekv⟩:∃ y,kvs[j]?=some y:=⟨_,List.getElem?_eq_getElem hj⟩;obtain⟨v',e3⟩:=KV.at rel ekv;rw[e1] at e3;cases e3;obtain⟨i,rfl,ei⟩:=hk j _ _ ekv;obtain⟨t,et⟩:=(show ∃ t,v=Value.int i t from CG e2);exact⟨i,t,ei,et⟩
 have hD:h'.get? D=some (seqObj "list" vs.toArray 0):=(N _ (List.Mem.head _)).1;have old:∀ b o,b≠X.env.locals->s.heap.get? b=some o->h'.get? b=some o/\b < D:=fun b o nb eb=>by
  by_cases hb:b=p
  ·subst hb;rw[ho] at eb;cases eb;exact⟨(N _ (List.Mem.tail _ (List.Mem.head _))).1,lt _ (List.Mem.head _)⟩
  ·have mem:=Att.oU (h:=s.heap) (L:=X.env.locals) (d:=p) |>.mpr ⟨nb,hb,eb⟩;exact⟨(N _ (List.Mem.tail _ (List.Mem.tail _ mem))).1,lt _ (List.Mem.tail _ mem)⟩
 have g:MeetsIn X.prog X.w (Builtin.«list.sort» ⟨[.ref D],[]⟩) (fun _ R s=>s.heap.get? D=some (seqObj "list" vs.toArray 0)/\∀(out:Array Value) (Wv:List Int),IntsAre out.toList Wv->Wv.Perm ns->Wv.Pairwise (·<=·)->R (.ok (.ret .none)) {s with heap:=sortedHeap s.heap D vs out}) :=
  fun A R s ⟨g1,g2⟩=>Br g1 hI (abJ.imp fun h=>Int.le_of_lt h) 1e0 fun out Wv a b c=>g2 out Wv a b c
 refine call_meetsIn PySem.F.slot_list_sort ⟨_,hD,rfl⟩ PySem.F.entry_list_sort (PySem.F.args_list_sort_1 _) g ⟨hD,fun out Wv hI' hp hs=>?_⟩;have hDL:D≠X.env.locals:=(N _ (List.Mem.head _)).2.1;have YK:H D=none:=by
  cases z:H D with
  | none=>rfl
  | some o =>
   obtain⟨ob,eb⟩:=(I.Wh D o z).there;exact absurd (old D ob hDL eb).2 (Nat.lt_irrefl _)
 have new:∀ b o,b≠X.env.locals->s.heap.get? b=some o->(sortedHeap h' D vs out).get? b=some o:=fun b o nb eb=>by
  obtain⟨h1,h2⟩:=old b o nb eb;rw[sortedHeap_old (Nat.ne_of_lt h2) (Heap.lt_size h1)];exact h1
 obtain⟨e',hD'⟩:=sortedHeap_at (out:=out) hD;have Zc:∀ m',s.heap.Ns X.env.locals m'->(sortedHeap h' D vs out).Ns X.env.locals m':=fun m' hm=>by
  have em:m'=m:=by
   obtain⟨o1,WO,ep1,a1,b1,_,c1⟩:=hm;obtain⟨o2,es2,ep2,a2,b2,_,c2⟩:=hn;rw[a1] at a2;cases a2;rw[b1] at b2;cases b2;funext y;rw[<- c1,<- c2]
  subst em;obtain⟨o1,WO,ep1,a1,r1⟩:=F.ns;exact⟨o1,WO,ep1,by rw[sortedHeap_old hDL.symm (Heap.lt_size a1)];exact a1,r1⟩
 have nn:∀ {b:Addr} {o:HO},H b=some o->b≠D:=fun h z=>by subst z;rw[YK] at h;cases h
 have nl:∀ {b:Addr} {o:HO},H b=some o->b≠X.env.locals:=fun h=>aF h I.free;refine⟨.ref D,Wa H D (.lst (Wv.map V.int)),show Wc X V9 σ _ {s with heap:=sortedHeap h' D vs out,gens:=s.gens,drawn:=s.drawn,toks:=tk} from I.step (g':=s.gens) (d':=s.drawn) (t':=tk) (ch:=[]) (fun _ z=>nomatch z) (fun b o nb _ _ eb _=>new b o nb eb) (fun b o nb _ _ eb _=>⟨o.slots,new b o nb eb⟩) (fun b o _ eb hb=>?_) (fun b o _ eb=>?_)
  (fun b xs hb=>by rw[aD (nn hb)];exact hb) (fun b o u hb=>by rw[aD (nn hb)];exact hb) (fun b ps hb=>⟨#[],by rw[aD (nn hb),hb];simp⟩) Zc (fun b o hb=>?_) I.bare,rfl,q D Wv YK hp hs⟩
 ·by_cases YM:b=D
  ·subst YM;by_cases YN:b=X.env.locals
   ·exact absurd YN hDL
   ·exact absurd (old b o YN eb).2 (Nat.lt_irrefl _)
  ·rw[aD YM];exact hb
 ·by_cases YN:b=X.env.locals
  ·subst YN;obtain⟨o1,WO,ep1,a1,r1⟩:=Zc m hn;exact⟨o1,a1⟩
  ·exact⟨o,new b o YN eb⟩
 ·by_cases YM:b=D
  ·subst YM;rw[aA] at hb;cases hb;exact⟨by rw[List.length_map,hp.length_eq];omega,out.toList,e',nL hI',hD'⟩
  ·rw[aD YM] at hb;refine(I.Wh b o hb).zM (fun c v hc ev=>?_) (fun c hc=>by rw[aD (nn hc)];exact hc) fun c xs hc=>by rw[aD (nn hc)];exact hc
   rcases hc with hc|hc
   ·subst hc;exact new c v (nl hb) ev
   ·exact new c v (nl hc) ev
section
variable{H:Hp}{Q:VK}{p:Addr}
def Nf:Jw [.ref p] H Q=dA (H p) fun kvs=>fD (intKeys kvs) fun ns=>ns.Pairwise (· < ·)/\∀(l:Addr) (Wv:List Int),H l=none->Wv.Perm ns->Wv.Pairwise (·<=·)->Q (.ref l) (Wa H l (.lst (Wv.map V.int))):=rfl
end
theorem C6{xs:List V}{Wd:List Value}(r:We xs Wd):∀ js:List Nat,∃ ys,We ys (js.filterMap fun x=>Wd.toArray[x]?)/\(∀ y∈ys,y∈xs)/\ys.length<=js.length
 | []=>⟨[],.nil,by simp,by simp⟩
 | j::js=>by
  obtain⟨ys,h1,h2,h3⟩:=C6 r js;cases e:xs[j]? with
  | none =>
   have e':=r.none_of e;refine⟨ys,?_,h2,by simp only[List.length_cons];omega⟩;rw[List.filterMap_cons_none (by simpa using e')];exact h1
  | some x =>
   obtain⟨u,e',ru⟩:=r.get e;refine⟨x::ys,?_,fun y hy=>?_,by simp only[List.length_cons];omega⟩
   ·rw[List.filterMap_cons_some (by simpa using e')];exact .cons ru h1
   ·rcases List.mem_cons.mp hy with rfl|hy
    ·exact List.mem_of_getElem? e
    ·exact h2 y hy
theorem II{lo hi:Option Int}{k:Int}(h:0 < k)(n:Nat):(sliceRange (sliceBounds lo hi (some k) n).1 (sliceBounds lo hi (some k) n).2.1 (sliceBounds lo hi (some k) n).2.2).length<=n:=by
 have a1:0<=(sliceBounds lo hi (some k) n).1:=by
  cases lo with
  | none=>simp[sliceBounds,h]
  | some i=>simp only[sliceBounds,Option.getD_some,show k > 0 from h,if_true];omega
 have a2:(sliceBounds lo hi (some k) n).2.1<=n:=by
  cases hi with
  | none=>simp[sliceBounds,h]
  | some i=>simp only[sliceBounds,Option.getD_some,show k > 0 from h,if_true];omega
 have a3:(sliceBounds lo hi (some k) n).2.2=k:=rfl;generalize sliceBounds lo hi (some k) n=z at *;obtain⟨b,c,d⟩:=z;simp only at a1 a2 a3;subst a3;unfold sliceRange;simp only[List.length_map,List.length_range,show d > 0 from h,if_true];split
 ·next hl =>
  have:(c - b+d - 1) / d<=c - b:=by
   refine Int.lt_add_one_iff.mp ?_;refine Int.ediv_lt_of_lt_mul h ?_;have m:(c - b) * 1<=(c - b) * d:=Int.mul_le_mul_of_nonneg_left 1e0 1e0;rw[Int.add_mul];generalize (c - b) * d=y at *;omega
  omega
 ·simp
section
variable{X:Cx}
noncomputable def UA(K:q0B)(te:TE)(tl th ts:TO):TE:=fun σ H Q=>te σ H fun x H1=>tl σ H1 fun _ H2=>th σ H2 fun _ H3=>ts σ H3 fun k H4=>∃ a xs m,x=.ref a/\e9 K H4 a xs/\k=some m/\0 < m/\∀(ys:List V) p,(∀ y∈ys,y∈xs)->ys.length<=xs.length->H4 p=none->Q 1e21 (Wa H4 p (.lst ys))
theorem Ao{e:Expr}{te:TE}{lo hi:Option Expr}{st:Expr}{tl th ts:TO}{p2 pos:Pos}(he:PE X e te)(hl:PO X lo tl)(hu:PO X hi th)(hs:PO X (some st) ts):PE X (.Subscript e (.Slice lo hi (some st) p2) pos) (UA X.K te tl th ts):=by
 intro V9 s σ H Q I h;refine Subscript_ (thn (he V9 s σ H _ I h) fun v s1 ⟨x,H1,I1,r1,q1⟩=>?_);refine wpAny_Slice (thn (hl V9 s1 σ H1 _ I1 q1) fun vl s2 ⟨l,H2,I2,pl,q2⟩=>thn (hu V9 s2 σ H2 _ I2 q2) fun vu s3 ⟨u,H3,I3,pu,q3⟩=>thn (hs V9 s3 σ H3 _ I3 q3) fun vk s4 ⟨k,H4,I4',pk,q4⟩=>?_);have I4:Wc X V9 σ H4 {s4 with heap:=s4.heap.push {cls:=.type "slice",data:=.fields #[vl,vu,vk]}}:=I4'.kept (t':=s4.toks) fun b ob q=>Heap.get?_push_of_some _ q;obtain⟨a,xs,m,rfl,hx,rfl,hm,q⟩:=q4;cases r1;obtain⟨Wd,r,ht,hz⟩:=I4.list hx;have hlen:=r.length;show wpAny 1e2 X.A (subscriptTail e (.Slice lo hi (some st) p2) 1e11 (.ref s4.heap.objs.size)) 1e43 X.xe {s4 with heap:=s4.heap.push {cls:=.type "slice",data:=.fields #[vl,vu,vk]}};refine tail_any (ops:=[.ref a,.ref s4.heap.objs.size]) ht.isList.typeIs slot_list_getitem.lookup ?_ 1e30;refine wpAny_getItem_list_slice ht.isList (Heap.IsSliceOf.new ..) pl pu pk (by intro z;cases z;omega) ?_ (by rw[List.size_toArray]<;>omega);obtain⟨ys,h1,h2,h3⟩:=C6 r (sliceRange (sliceBounds l u (some m) Wd.toArray.size).1 (sliceBounds l u (some m) Wd.toArray.size).2.1 (sliceBounds l u (some m) Wd.toArray.size).2.2);have h4:=II (lo:=l) (hi:=u) hm Wd.toArray.size;rw[List.size_toArray] at h4;have h5:ys.length<=xs.length:=by rw[List.size_toArray] at h3;omega
 refine⟨.ref (s4.heap.push {cls:=.type "slice",data:=.fields #[vl,vu,vk]}).objs.size,_,I4.laid (t':=s4.toks) (o:=.lst ys) (fun b ob q=>Heap.get?_push_of_some _ q) 1e5 ?_,rfl,q ys _ h2 h5 (I4.Wh.fresh 1e5)⟩;exact⟨Nat.le_trans h5 hz,_,0,h1,Heap.get?_push_size _ rfl⟩
def QL{K:q0B}{te:TE}{tl th ts:TO}{σ:St}{H:Hp}{Q:VK}:UA K te tl th ts σ H Q=te σ H fun x H1=>tl σ H1 fun _ H2=>th σ H2 fun _ H3=>ts σ H3 fun k H4=>∃ a xs m,x=.ref a/\e9 K H4 a xs/\k=some m/\0 < m/\∀(ys:List V) p,(∀ y∈ys,y∈xs)->ys.length<=xs.length->H4 p=none->Q 1e21 (Wa H4 p (.lst ys)):=rfl
end
section
variable{fr:List Nat}{tc:TT}{te tl:TE}{σ:St}{H:Hp}{Q:VK}{K:q0B}
def JT:yL K (wD K tl) fr tc te σ H Q=tl σ H fun x H1=>bF x fun a=>(∃ xs,e9 K H1 a xs)/\lc2 K (Yb K a) fr tc te σ H1 Q:=by
 unfold yL wD
 congr 1
 funext x H1;exact propext ⟨fun⟨a,e,h1,h⟩=>by subst e;exact⟨h1,h⟩,fun h=>by obtain⟨a,rfl,h1,h⟩:=aQ h;exact⟨a,rfl,h1,h⟩⟩
theorem Kv{ys:List V}(Pv:Nat->List V->Hp->Prop)(h0:Pv 0 [] H)(hz:∀ i xs H,Pv i xs H->xs.length<=1000000)(hl:∀ i xs H,Pv i xs H->e9 K H a ys)(hs:∀(i:Nat) y xs H,i < ys.length->ys[i]?=some y->Pv i xs H->∃ p y1 y2,y=.ref p/\g9 K H p [y1,y2]/\tc (some y1::some y2::aT fr σ) H fun b H2=>if b=true then te (some y1::some y2::aT fr σ) H2 (fun z H3=>Pv (i+1) (xs++[z]) H3) else Pv (i+1) xs H2)(hd:∀ xs H,Pv ys.length xs H->∀ p,H p=none->Q 1e21 (Wa H p 1e20)):lc2 K (Yb K a) fr tc te σ H Q:=by
 refine⟨cW ys.length Pv,⟨ys.length,by simp,Nat.zero_le _,h0⟩,?_⟩;rintro i m xs H ⟨rfl,hi,pv⟩;refine⟨hz i xs H pv,?_⟩;have q1:=hl i xs H pv;by_cases lt:i < ys.length
 ·refine .inr ⟨⟨ys,ys[i],q1,by simp[lt]⟩,fun v H' yy=>?_⟩;obtain⟨e,yy⟩:=yy;subst e;obtain⟨p,y1,y2,ey,hp,hh⟩:=hs i v xs H' lt (yy ys q1) pv;refine⟨p,y1,y2,ey,hp,?_⟩;simp only[Cb lt];exact hh
 ·refine .inl ⟨⟨ys,q1,by omega⟩,?_⟩;exact hd xs H ((show i=ys.length by omega)▸pv)
end
def D0:R2:=Jx
def kH{X:Cx}:jD X (binaryOp .Add) D0:=NG
section
variable{prog:Program}{w:World}{A:Around}{E:q0A}{s:Shared}
theorem vI{it t:Addr}{items:Array Value}(Xf:t≠it):∀(n i:Nat) (s:Shared) (Q:List Value->Shared->Prop),s.heap.IsListIter it t i->s.heap.IsList t items->i+n<=items.size -> (∀ h',Heap.IsListIter h' it t (i+n)->Heap.SameBut it s.heap h'->Q ((items.toList.drop i).take n) {s with heap:=h'})->wpAny 1e15 A (draw (.ref it) n) Q E s
 | 0,i,s,Q,hit,_,_,hQ=>by
  show wpAny _ _ (pure []) Q E s;exact wpAny_pure (by simpa using hQ s.heap hit (Heap.SameBut.refl ..))
 | n+1,i,s,Q,hit,ht,hle,hQ=>by
  have WG:i < items.size:=by omega
  show wpAny _ _ (pyNext (.ref it) >>= _) Q E s;refine wpAny_bind (wpAny_pyNext_list_item hit ht (x:=items[i]) (by simp[WG]) fun h₁ aaF hs₁=>?_);refine wpAny_bind (wpAny_holding (vI Xf n (i+1) _ _ aaF (ht.extBut hs₁.extBut Xf) 1e0 fun h₂ abO hs₂=>wpAny_pure ?_));have hd:items.toList.drop i=items[i]::items.toList.drop (i+1):=by simp[List.drop_eq_getElem_cons,WG]
  have:=hQ h₂ (by rw[show i+(n+1)=i+1+n by omega];exact abO) (hs₁.trans hs₂);rw[hd,List.take_succ_cons] at this;exact this
theorem qJ{t:Addr}{Q:List Value->Shared->Prop}(hh:A.handled=none)(ht:s.heap.IsList t items)(hQ:∀ h',Heap.ExtBut s.heap.objs.size s.heap h'->Q items.toList {s with heap:=h'}):wpAny 1e15 A (unpackItems (.ref t) items.size none) Q E s:=by
 have WG:t≠s.heap.objs.size:=by obtain⟨o,ho,_⟩:=ht;exact Nat.ne_of_lt (Heap.lt_size ho)
 unfold unpackItems;refine wpAny_bind ?_
 ·unfold notIterableAtAll;refine wpAny_bind (wpAny_specialOf ht.typeIs slot_list_iter.lookup ?_);refine wpAny_pure ?_;simp only[Bool.false_eq_true,if_false];refine wpAny_bind (wpAny_holding (wpAny_pyIter_list ht ?_));refine wpAny_bind (wpAny_holding (vI WG items.size 0 _ _ ⟨_,Heap.get?_push_size _ rfl,rfl,rfl⟩ (ht.push _) 1e0 fun h₁ aaF hs₁=>?_));have YL:List.take items.size (List.drop 0 items.toList)=items.toList:=by
   rw[List.drop_zero];exact List.take_of_length_le 1e1
  rw[YL];rw[if_neg 1e1];have ht₁:h₁.IsList t items:=(ht.push _).extBut hs₁.extBut WG;refine wpAny_bind (wpAny_holding (wpAny_pyNext_list_end hh aaF ht₁ 1e1 fun h₂ he₂=>?_));simp only[Option.isSome_none,Bool.false_eq_true,if_false];refine wpAny_pure (hQ h₂ fun b o hb e=>he₂ b o hb (hs₁.extBut b o hb (Heap.get?_push_of_some _ e)))
def oI{env:Env}{elts:List Expr}{x1}{pos:Pos}{t:Addr}{Q:Unit->Shared->Prop}(hh:A.handled=none)(ht:s.heap.IsList t items)(hn:(assignEach elts env).length=items.size)(aa3:(assignEach elts env).findIdx? (·.1)=none)(h:∀ h',Heap.ExtBut s.heap.objs.size s.heap h'->wpAny 1e15 A (assignInOrder ((assignEach elts env).map (·.2)) items.toList) Q E {s with heap:=h'}) : wpAny 1e15 A (assign (.Tuple elts x1 pos) env (.ref t)) Q E s:=by
 rw[assign_Tuple];refine wpAny_bind (wpAny_standAt ?_);unfold unpack;rw[hn,aa3];exact wpAny_bind (wpAny_holding (qJ hh ht h))
end
section
variable{X:Cx}{pos:Pos}
def Tu(K:q0B)(n:Nat)(t:TGs):TG:=fun v σ H Q=>∃ a xs,v=.ref a/\e9 K H a xs/\xs.length=n/\t xs σ H Q
def Ls{es:List Expr}{k:Nat}{t:TGs}(hc:X.calm=true)(h:PGs X es t)(hn:(assignEach es X.env).length=n:=by rfl)(Wq:(assignEach es X.env).findIdx? (·.1)=none:=by rfl):PG X (.Tuple es k pos) (Tu X.K n t):=by
 intro V9 s σ H v u Q I r hw;obtain⟨a,xs,e1,hq,hl,hw⟩:=hw;subst e1;cases r;obtain⟨Wd,rv,ht,hz⟩:=I.list hq;refine oI (I.ok.hd hc) ht.isList (by simp[hn,<- hl,rv.length]) Wq fun h' hx=>?_;have I1:Wc X V9 σ H {s with heap:=h'}:=I.kept (t':=s.toks) fun b o e=>hx b o (Nat.ne_of_lt 1e26) e;exact h V9 _ σ H xs _ Q I1 (by simpa using rv) hw
def Qj{K:q0B}{t:TGs}{σ:St}{H:Hp}{Q:St->Hp->Prop}:Tu K n t 1e11 σ H Q = ∃ xs,e9 K H a xs/\xs.length=n/\t xs σ H Q:=propext ⟨fun⟨b,xs,e,h⟩=>by cases e;exact⟨xs,h⟩,fun⟨xs,h⟩=>⟨a,xs,rfl,h⟩⟩
end
def jY(i:Nat):TE:=fun σ H Q=>fD (σ[i]?).join fun v=>Q v H
def Fx(t:TE):TT:=fun σ H B=>t σ H fun x H'=>Ld x fun k=>B k H'
def Jo(sp:Sp)(t:TA):TE:=fun σ H Q=>t σ H fun vs H1=>sp vs H1 Q E0
noncomputable def Ca(C:Addr)(m:Str)(sp:Sp)(ta:TE)(t:TA):TE:=fun σ H Q=>ta σ H fun x H1=>bF x fun a=>iL C (H1 a) fun _ fs=>fs.lookup m=none/\t σ H1 fun vs H2=>sp (.ref a::vs) H2 Q E0
section
variable{X:Cx}{e:Expr}{te ta:TE}{t:TA}{sp:Sp}{C:Addr}{m:Str}
def PE.cV{i:Nat}(h:PE X e (o7 i)):PE X e (jY i):=fun V9 s σ H Q I q=>h V9 s σ H Q I (by
 obtain⟨v,e,q⟩:=cF q;refine⟨v,?_,q⟩;cases z:σ[i]? with
 | none=>rw[z] at e;cases e
 | some o=>rw[z] at e;cases o with
  | none=>cases e
  | some u=>cases e;rfl)
def PT.cT(h:PT X e (DF te)):PT X e (Fx te):=fun V9 s σ H Q I q=>h V9 s σ H Q I (by rw[J6];exact q)
def PE.cC(h:PE X e (Ha sp [] E0 t)):PE X e (Jo sp t):=fun V9 s σ H Q I q=>h V9 s σ H Q I (by rw[JS];exact q)
def PE.cM(h:PE X e (DE C m sp [] E0 ta t)):PE X e (Ca C m sp ta t):=fun V9 s σ H Q I q=>h V9 s σ H Q I (by rw[JZ];exact q)
end
section
variable{v:V}{o0 o1 o2 o3 o4 o5 o6:Option V}{σ:St}{H:Hp}{Q:VK}{B:Bool->Hp->Prop}{te ta:TE}{t:TA}{sp:Sp}{C:Addr}{m:Str}
def Vd:jY 0 (some v::σ) H Q=Q v H:=rfl
def Ve:jY 1 (o0::some v::σ) H Q=Q v H:=rfl
def Vf:jY 2 (o0::o1::some v::σ) H Q=Q v H:=rfl
def Vg:jY 3 (o0::o1::o2::some v::σ) H Q=Q v H:=rfl
def Vh:jY 4 (o0::o1::o2::o3::some v::σ) H Q=Q v H:=rfl
def Vi:jY 5 (o0::o1::o2::o3::o4::some v::σ) H Q=Q v H:=rfl
def Vj:jY 6 (o0::o1::o2::o3::o4::o5::some v::σ) H Q=Q v H:=rfl
def Vk:jY 7 (o0::o1::o2::o3::o4::o5::o6::some v::σ) H Q=Q v H:=rfl
def PJ:Fx te σ H B=te σ H fun x H'=>Ld x fun k=>B k H':=rfl
def PF:Jo sp t σ H Q=t σ H fun vs H1=>sp vs H1 Q E0:=rfl
def PH:Ca C m sp ta t σ H Q=ta σ H fun x H1=>bF x fun a=>iL C (H1 a) fun _ fs=>fs.lookup m=none/\t σ H1 fun vs H2=>sp (.ref a::vs) H2 Q E0:=rfl
end
end L2
namespace Own
open PySem L2
variable{XP:(q0C)->Heap->Prop}{C a dd fl l o2 op:Addr}{Yx:Array (Option Value)}{wt:Bool}{o:HO}{base:Heap}{G H H' H1:Hp}{i j:Int}{kvs:List 1e35}{D:List Addr}{ns pd pend pt:List Int}{loose:List Str}{ds us xs:List V}{N d p:Nat}{s0 s1 s2 s3 s4 s5 s6 s7 s8:Sp}{σ:St}{k q:Str}{ot ot':Str->Option V}{v y:V}{Q:VK}{E:XK}{K:q0B}{mg:q0C}
local macro_rules | `(tactic| exists $ts,*) => `(tactic| wp_walk using $ts,*)
set_option hygiene false in
local macro_rules | `(tactic| nomatch $a) => `(tactic| refine ($a).ok (fun vs H Q E h => ?_) (fun cdv A outer s H vs Q E hr sc h => ?_))
set_option hygiene false in
local macro_rules | `(tactic| nomatch $a, 0) => `(tactic| (refine ⟨_, $a, ?_⟩; clear sc; try dsimp only [L2.start, Ew, KI, List.cons_append, List.nil_append, List.replicate_succ, List.replicate_zero, List.length_cons, List.length_nil, Nat.reduceAdd, Nat.reduceSub, Nat.zero_add]))
set_option hygiene false in
local macro_rules | `(tactic| left) => `(tactic| (refine bX fun R0 hR0 => ?_; try dsimp only))
set_option hygiene false in
local macro_rules | `(tactic| right) => `(tactic| (refine hR0 _ _ ?_; clear hR0; try clear R0))
local macro_rules | `(tactic| and_intros) => `(tactic| try dsimp only [L2.start, Ew, KI, List.cons_append, List.nil_append, List.replicate_succ, List.replicate_zero, List.length_cons, List.length_nil, Nat.reduceAdd, Nat.reduceSub, Nat.zero_add])
local macro_rules | `(tactic| infer_instance) => `(tactic| first | exact ⟨rfl, by first | exact Or.inl rfl | exact Or.inr (Or.inl rfl) | exact Or.inr (Or.inr rfl), by decide, by decide⟩ | exact ⟨rfl, rfl, rfl, by decide +kernel, rfl, by decide +kernel, by decide +kernel⟩)
seal PE PA PT PW PS Xy PI PG PGs Zx PO PPs
inductive A5(p0 p1 p2 p3 p4:Prop):Prop
 | mk (_:p0) (_:p1) (_:p2) (_:p3) (_:p4):A5 p0 p1 p2 p3 p4
inductive A6(p0 p1 p2 p3 p4 p5:Prop):Prop
 | mk (_:p0) (_:p1) (_:p2) (_:p3) (_:p4) (_:p5):A6 p0 p1 p2 p3 p4 p5
inductive A7(p0 p1 p2 p3 p4 p5 p6:Prop):Prop
 | mk (_:p0) (_:p1) (_:p2) (_:p3) (_:p4) (_:p5) (_:p6):A7 p0 p1 p2 p3 p4 p5 p6
inductive A15(p0 p1 p2 p3 p4 p5 p6 p7 p8 p9 p10 p11 p12 p13 p14:Prop):Prop
 | mk (_:p0) (_:p1) (_:p2) (_:p3) (_:p4) (_:p5) (_:p6) (_:p7) (_:p8) (_:p9) (_:p10) (_:p11) (_:p12) (_:p13) (_:p14):A15 p0 p1 p2 p3 p4 p5 p6 p7 p8 p9 p10 p11 p12 p13 p14
inductive E2{α0 α1:Type}(P:α0->α1->Prop):Prop
 | mk (a0:α0) (a1:α1) (_:P a0 a1):E2 P
inductive E5{α0 α1 α2 α3 α4:Type}(P:α0->α1->α2->α3->α4->Prop):Prop
 | mk (a0:α0) (a1:α1) (a2:α2) (a3:α3) (a4:α4) (_:P a0 a1 a2 a3 a4):E5 P
inductive E6{α0 α1 α2 α3 α4 α5:Type}(P:α0->α1->α2->α3->α4->α5->Prop):Prop
 | mk (a0:α0) (a1:α1) (a2:α2) (a3:α3) (a4:α4) (a5:α5) (_:P a0 a1 a2 a3 a4 a5):E6 P
inductive E7{α0 α1 α2 α3 α4 α5 α6:Type}(P:α0->α1->α2->α3->α4->α5->α6->Prop):Prop
 | mk (a0:α0) (a1:α1) (a2:α2) (a3:α3) (a4:α4) (a5:α5) (a6:α6) (_:P a0 a1 a2 a3 a4 a5 a6):E7 P
inductive E9{α0 α1 α2 α3 α4 α5 α6 α7 α8:Type}(P:α0->α1->α2->α3->α4->α5->α6->α7->α8->Prop):Prop
 | mk (a0:α0) (a1:α1) (a2:α2) (a3:α3) (a4:α4) (a5:α5) (a6:α6) (a7:α7) (a8:α8) (_:P a0 a1 a2 a3 a4 a5 a6 a7 a8):E9 P
structure RS(K:q0B)(x q:Str)(st:Stmt)(ns ps:List Str)(f:Addr)(d:FuncData)(M:Prop):Prop where
 fn:Fun K x q st f d
 bd:Binds K d ps []
 sc:mX ns ps (cK st)
 m:M
noncomputable abbrev jV(K:q0B)(mg:q0C)(x:Str)(st:Stmt)(ns ps:List Str)(f:Addr)(d:FuncData):Prop:=RS K x x st ns ps f d (mg x=some (.ref f))
abbrev nO(K:q0B)(C:Addr)(x q:Str)(st:Stmt)(ns ps:List Str)(f:Addr)(d:FuncData):Prop:=RS K x q st ns ps f d (Meth K C x f)
section
open PySem.Spec PyProof.Rows
variable{P:Program}{w:World}{h:Heap}{x:Str}{st:Stmt}{ns ps:List Str}{f:Addr}{d:FuncData}{M:Prop}{k:Nat}{sp:Sp}
def RS.ok(g:RS K x q st ns ps f d M)(len:∀ vs H Q E,sp vs H Q E->vs.length=ps.length)(XG:∀(Wy:Value) (A:Around) (outer:List Env) (s:Shared) (H:Hp) (vs:List V) (Q:VK) (E:XK),Room k (A.deeper (envOfC q (cK st) s.heap.objs.size f Wy))->ns.Nodup->sp vs H Q E -> ∃ t,Xy (AU WW P w K mg base ns q (cK st) f Wy A outer s H E).nox (fP st) t/\t {nx:=fun _ H'=>Q .Wb H',rt:=Q} (start ns vs) H):eP P w K mg base WW (k+1) f d ps sp:=g.fn.ok g.sc len fun Wy A outer s H vs Q E hr h=>XG Wy A outer s H vs Q E hr g.sc.nd h
def b0{P:List Value->Prop}(h:P []):∀ us:List Value,us.length=0->P us:=fun us e=>by rw[List.length_eq_zero_iff.mp e];exact h
theorem bS{P:List Value->Prop}{n:Nat}(h:∀ a,∀ us:List Value,us.length=n->P (a::us)):∀ us:List Value,us.length=n+1->P us
 | [],e=>by cases e
 | a::us,e=>h a us (Nat.succ.inj e)
structure Gf0(K:q0B)(x:Str)(st:Stmt)(f:Addr)(d:FuncData):Prop where
 a:PySem.W.nsIn K mainGlobals x=some (some (.ref f))
 F:Fun K x x st f d
structure Gm0(K:q0B)(C:Addr)(x q:Str)(st:Stmt)(f:Addr)(d:FuncData):Prop where
 a:PySem.W.findIn K (.ref C) x=some (some (.ref f))
 i:PySem.W.isFn K (.ref f)=true
 F:Fun K x q st f d
def Tz{oc:Value}{od an:Option Addr}{kV doc pm Wy ct:Value}(a:PySem.W.nsIn K mainGlobals x=some (some (.ref f)))(l:K.lookup f=some ⟨oc,od,.func (PySem.W.fnOf x x (hE st) (fP st) (cK st) .none kV doc pm an Wy ct),Yx⟩)(c:PySem.W.codeIn K Wy x=true)(k:PySem.W.keepIn K (.ref f)=true):Gf0 K x st f (PySem.W.fnOf x x (hE st) (fP st) (cK st) .none kV doc pm an Wy ct):=⟨a,Ke l c k⟩
def TB{oc:Value}{od an:Option Addr}{kV doc pm Wy ct:Value}(a:PySem.W.findIn K (.ref C) x=some (some (.ref f)))(i:PySem.W.isFn K (.ref f)=true)(l:K.lookup f=some ⟨oc,od,.func (PySem.W.fnOf x q (hE st) (fP st) (cK st) .none kV doc pm an Wy ct),Yx⟩)(c:PySem.W.codeIn K Wy q=true)(k:PySem.W.keepIn K (.ref f)=true):Gm0 K C x q st f (PySem.W.fnOf x q (hE st) (fP st) (cK st) .none kV doc pm an Wy ct):=⟨a,i,Ke l c k⟩
def Gf0.go(F:Gf0 K x st f d)(X:K.In h)(G:h.Ns mainGlobals mg)(b:∀(kV doc pm:Value) (an:Option Addr) (Wy ct:Value) (us:List Value),us.length=ps.length->bindArgs (PySem.W.fnOf x x (hE st) (fP st) (cK st) .none kV doc pm an Wy ct) ⟨us,[]⟩=pure (ps.zip us):=by exact fun _ _ _ _ _ _=>by repeat (first|exact b0 rfl|refine bS fun _=>?_))(sc:mX ns ps (cK st):=by infer_instance):jV K mg x st ns ps f d:=⟨F.F,F.F.binds b,sc,PySem.W.mg_of X G F.a⟩
def Gm0.go(F:Gm0 K C x q st f d)(b:∀(kV doc pm:Value) (an:Option Addr) (Wy ct:Value) (us:List Value),us.length=ps.length->bindArgs (PySem.W.fnOf x q (hE st) (fP st) (cK st) .none kV doc pm an Wy ct) ⟨us,[]⟩=pure (ps.zip us):=by exact fun _ _ _ _ _ _=>by repeat (first|exact b0 rfl|refine bS fun _=>?_))(sc:mX ns ps (cK st):=by infer_instance):nO K C x q st ns ps f d:=⟨F.F,F.F.binds b,sc,F.a,F.i,F.F.kp⟩
end
section
open PySem.Spec PyProof.Rows
variable{X:Cx}{x:Str}{p pos:Pos}{e o:Expr}{es:List Expr}{t:TA}{k:Nat}{f:Addr}{fd:FuncData}{ns ps:List Str}{sp:Sp}{st:Stmt}{ta td ty te tb tv:TE}{a b i value:Expr}
theorem pcl(F:eP X.prog X.w X.K X.mg X.base WW k f fd ps sp)(g:jV X.K X.mg x st ns ps f fd)(ha:PA X (e::es) t)(hr:Room k X.A:=by exact hr.mono 1e0)(hg:Gl X x:=by rfl)(YR:1e34=false:=by decide)(he:starEach (e::es) X.env=(false,eval e X.env)::starEach es X.env:=by rfl)(WH:(backTo pos 1e59).any (·.1)=false:=by rfl) : PE X (.Call (.Name x p) (e::es) [] pos) (Jo sp t):=(uA F hr hg g.m g.fn.kp g.bd .nil pass0 ha YR he WH).cC
theorem pmt{m:Str}{apos:Pos}{pl:Sem Bool}(he:PE X o ta)(c:Cls X.K C)(F:eP X.prog X.w X.K X.mg X.base WW k f fd ps sp)(g:nO X.K C m q st ns ps f fd)(ha:PA X (e::es) t)(hr:Room k X.A:=by exact hr.mono 1e0)
    (Wq:starEach (e::es) X.env=(false,eval e X.env)::starEach es X.env:=by rfl) (WH:(backTo pos 1e59).any (·.1)=false:=by rfl)
    (ht:eval (.Call (.Attribute o m apos) (e::es) [] pos) X.env=(do
      let ov <- eval o X.env
      standAt apos.atName
      let (f,first) <- holding [ov] (getMethod ov m pl)
      callWith pos f first (backTo pos (starEach (e::es) X.env)) (backToKw pos (keywordEach [] X.env))):=by rfl) :
    PE X (.Call (.Attribute o m apos) (e::es) [] pos) (Ca C m sp ta t):=(BD he c g.m F hr g.bd .nil pass0 ha Wq WH ht).cM
theorem pmt0{m:Str}{apos:Pos}{pl:Sem Bool}(he:PE X o ta)(c:Cls X.K C)(F:eP X.prog X.w X.K X.mg X.base WW k f fd ps sp)(g:nO X.K C m q st ns ps f fd)(hr:Room k X.A:=by exact hr.mono 1e0)
    (ht:eval (.Call (.Attribute o m apos) [] [] pos) X.env=(do
      let ov <- eval o X.env
      standAt apos.atName
      let (f,first) <- holding [ov] (getMethod ov m pl)
      callWith pos f first (backTo pos (starEach [] X.env)) (backToKw pos (keywordEach [] X.env))):=by rfl) :
    PE X (.Call (.Attribute o m apos) [] [] pos) (Ca C m sp ta yM):=(Lq he c g.m F hr g.bd .nil pass0 ht).cM
theorem pst{pos':Pos}(i:Nat)(he:PE X e te)(hN:X.N.Nodup:=by exact sc)(hi:X.N[i]?=some x:=by rfl)(hx:Loc X.env.scope x:=by exact .inl rfl)(hs:swapsWith e (some (.Name x pos')) pos.line X.env=pure false:=by rfl)(hf:X.fn x=true\/X.env.scope.names.lookup x=some .local:=by first|exact .inl rfl|exact .inr rfl|assumption) : PS X (.Assign [.Name x pos'] e pos) (IS te (jF i)):=EU hN hi hx he hs hf
theorem pgn(i:Nat)(hN:X.N.Nodup:=by exact sc)(hi:X.N[i]?=some x:=by rfl)(hx:Loc X.env.scope x:=by exact .inl rfl)(hf:X.fn x=true\/X.env.scope.names.lookup x=some .local:=by first|exact .inl rfl|exact .inr rfl|assumption):PG X (.Name x pos) (jF i):=uD hN hi hx hf
def pdg(ho:PE X o td)(hi:PE X i ty)(hs:Mg i:=by exact fun _ _=>rfl)(hu:X.A.units+1 < cLine:=by exact nU hr):PE X (.Subscript o i pos) (Px td ty):=Ll hu ho hi hs
def ppt{pos':Pos}(ho:PE X o td)(hi:PE X i ty)(hv:PE X value tv)(hs:swapsWith value (some (.Subscript o i pos')) pos.line X.env=pure false:=by rfl)(hu:X.A.units+1 < cLine:=by exact nU hr) : PS X (.Assign [.Subscript o i pos'] value pos) (PD td ty tv):=NT hu ho hi hv hs
def ptc{op:CmpOp}{r:R2}(ho:jD X (compareOp op) r)(ha:PE X a ta)(hb:PE X b tb)(hm:behindInMarks op b=false:=by exact nomark _):PT X (.Compare a [op] [b] pos) (Fx (Oq r ta tb)):=(fU ho ha hb hm).cT
def pcr{op:CmpOp}{r:R2}(ho:jD X (compareOp op) r)(ha:PE X a ta)(hb:PE X b tb)(hm:behindInMarks op b=false:=by exact nomark _):PE X (.Compare a [op] [b] pos) (Oq r ta tb):=NH ho ha hb hm
def pix{r:R2}(hr:Fl X r)(ha:PE X a ta)(hb:PE X b tb)(hs:Fn b:=by exact fun _ _=>rfl):PE X (.Subscript a b pos) (Oq r ta tb):=Lo hr ha hb hs
def pa1{t1:TE}{e1:Expr}(a:PE X e1 t1)(i:mE e1=false:=by rfl):PA X [e1] (mU t1 yM):=eJ a bQ i
def pa2{t1 t2:TE}{e1 e2:Expr}(a:PE X e1 t1)(b:PE X e2 t2)(i:mE e1=false:=by rfl)(j:mE e2=false:=by rfl):PA X [e1,e2] (mU t1 (mU t2 yM)):=eJ a (pa1 b j) i
def pa3{t1 t2 t3:TE}{e1 e2 e3:Expr}(a:PE X e1 t1)(b:PE X e2 t2)(c:PE X e3 t3)(i:mE e1=false:=by rfl)(j:mE e2=false:=by rfl)(k:mE e3=false:=by rfl):PA X [e1,e2,e3] (mU t1 (mU t2 (mU t3 yM))):=eJ a (pa2 b c j k) i
def pss2{s1 s2:Stmt}{t1 t2:TS}(a:PS X s1 t1)(b:PS X s2 t2):Xy X [s1,s2] (Fb t1 t2):=aH a (aG b)
def pss3{s1 s2 s3:Stmt}{t1 t2 t3:TS}(a:PS X s1 t1)(b:PS X s2 t2)(c:PS X s3 t3):Xy X [s1,s2,s3] (Fb t1 (Fb t2 t3)):=aH a (pss2 b c)
def pif{c:Expr}{l:List Stmt}{tc:TT}{t1:TS}(hc:PT X c tc)(ha:Xy X l t1):PS X (.If c l [] pos) (DD tc t1 Hc):=fL hc ha NV
def Pk(X:Cx)(i:Nat)(x:Str):Prop:=X.N[i]?=some x/\Vis X.env.scope x/\1e34=false/\(x==("__classdict__":Str))=false
def pv0(h:Pk X 0 x:=by infer_instance):PE X (.Name x pos) (jY 0):=(lD h.1 h.2.1 h.2.2.1 h.2.2.2).cV
def pv1(h:Pk X 1 x:=by infer_instance):PE X (.Name x pos) (jY 1):=(lD h.1 h.2.1 h.2.2.1 h.2.2.2).cV
def pv2(h:Pk X 2 x:=by infer_instance):PE X (.Name x pos) (jY 2):=(lD h.1 h.2.1 h.2.2.1 h.2.2.2).cV
def pv3(h:Pk X 3 x:=by infer_instance):PE X (.Name x pos) (jY 3):=(lD h.1 h.2.1 h.2.2.1 h.2.2.2).cV
def pv4(h:Pk X 4 x:=by infer_instance):PE X (.Name x pos) (jY 4):=(lD h.1 h.2.1 h.2.2.1 h.2.2.2).cV
def pv5(h:Pk X 5 x:=by infer_instance):PE X (.Name x pos) (jY 5):=(lD h.1 h.2.1 h.2.2.1 h.2.2.2).cV
def pv6(h:Pk X 6 x:=by infer_instance):PE X (.Name x pos) (jY 6):=(lD h.1 h.2.1 h.2.2.1 h.2.2.2).cV
def pv7(h:Pk X 7 x:=by infer_instance):PE X (.Name x pos) (jY 7):=(lD h.1 h.2.1 h.2.2.1 h.2.2.2).cV
end
def top(i:Nat):Stmt:=PySem.Challenge.pw_outlast_k17_whole_any_program.main.body.getD i (.Pass ⟨0,0,0,0⟩)
abbrev LB:Stmt:=top 4
abbrev AD:Stmt:=top 6
abbrev Dk:Stmt:=top 7
abbrev x9:Stmt:=top 8
abbrev oF:Stmt:=top 9
abbrev oB:Stmt:=bU (top 11) 0
abbrev oC:Stmt:=bU (top 11) 1
abbrev lP:Stmt:=bU (top 11) 2
abbrev jB:Stmt:=bU (top 11) 3
abbrev lO:Stmt:=bU (top 11) 4
abbrev oE:Stmt:=bU (top 11) 5
abbrev kL:Stmt:=bU (top 11) 6
abbrev jA:Stmt:=bU (top 11) 7
abbrev xU:Stmt:=bU (top 13) 0
abbrev qC:Stmt:=bU (top 13) 1
abbrev mQ:Stmt:=bU (top 13) 2
abbrev qD:Stmt:=bU (top 13) 3
abbrev sO:Stmt:=bU (top 13) 4
abbrev sP:Stmt:=bU (top 13) 5
abbrev GD:Stmt:=top 16
abbrev Av:Stmt:=top 17
abbrev Aw:Stmt:=top 18
abbrev Di:Stmt:=top 19
abbrev Dg:Stmt:=top 20
abbrev Dj:Stmt:=top 21
abbrev Dh:Stmt:=top 22
abbrev GC:Stmt:=top 23
abbrev Aq:Stmt:=bU (top 25) 0
abbrev xS:Stmt:=bU (top 25) 1
abbrev kK:Stmt:=bU (top 25) 2
abbrev As:Stmt:=bU (top 25) 4
abbrev lL:Stmt:=bU (top 25) 5
abbrev oA:Stmt:=bU (top 25) 6
abbrev lM:Stmt:=bU (top 25) 7
abbrev Au:Stmt:=bU (top 25) 8
abbrev Ap:Stmt:=bU (top 25) 9
abbrev xR:Stmt:=bU (top 25) 10
abbrev Ar:Stmt:=bU (top 25) 11
abbrev Df:Stmt:=bU (top 25) 12
abbrev qB:Stmt:=bU (top 25) 13
abbrev xT:Stmt:=bU (top 25) 14
abbrev mP:Stmt:=bU (top 25) 15
abbrev Ax:Stmt:=top 28
abbrev AA:Stmt:=top 29
abbrev Az:Stmt:=top 30
abbrev x8:Stmt:=top 31
abbrev sU:Stmt:=top 32
abbrev xX:Stmt:=top 33
abbrev sV:Stmt:=top 34
abbrev sQ:Stmt:=top 35
abbrev qG:Stmt:=top 36
abbrev qE:Stmt:=top 37
abbrev AB:Stmt:=top 38
abbrev Ay:Stmt:=top 39
abbrev Dl:Stmt:=top 40
abbrev sW:Stmt:=top 41
abbrev xW:Stmt:=top 42
abbrev qF:Stmt:=top 43
abbrev sS:Stmt:=top 44
abbrev sR:Stmt:=top 45
abbrev GF:Stmt:=top 46
abbrev lQ:Stmt:=top 47
abbrev xY:Stmt:=top 48
abbrev xZ:Stmt:=top 49
abbrev mR:Stmt:=top 50
abbrev Dm:Stmt:=top 51
abbrev xV:Stmt:=top 52
abbrev OU:Stmt:=top 53
set_option genInjectivity false in
set_option genSizeOf false in
structure Ad where
 RV:Addr
 Si:FuncData
 uT:Addr
 vL:FuncData
 Mj:Addr
 MF:FuncData
 Ho:Addr
 HJ:FuncData
 AN:Addr
 A8:FuncData
 pB:Addr
 AW:FuncData
 AL:Addr
 AX:FuncData
 uO:Addr
 vA:FuncData
 pC:Addr
 pH:FuncData
 uN:Addr
 u9:FuncData
 AM:Addr
 AY:FuncData
 sY:Addr
 tF:FuncData
 pA:Addr
 pG:FuncData
 zS:Addr
 HA:FuncData
 BZ:Addr
 Ck:FuncData
 yZ:Addr
 zA:FuncData
 B0:Addr
 Cm:FuncData
 DO:Addr
 Ed:FuncData
 DQ:Addr
 Ee:FuncData
 Jh:Addr
 PN:FuncData
 uP:Addr
 JK:FuncData
 B4:Addr
 JL:FuncData
 Fs:Addr
 MD:FuncData
 Fp:Addr
 MB:FuncData
 Ft:Addr
 ME:FuncData
 Fq:Addr
 MC:FuncData
 Jg:Addr
 PM:FuncData
 BX:Addr
 JG:FuncData
 Hh:Addr
 Hy:FuncData
 sX:Addr
 tE:FuncData
 Je:Addr
 JI:FuncData
 uL:Addr
 u0:FuncData
 AK:Addr
 AV:FuncData
 uM:Addr
 u7:FuncData
 Jf:Addr
 JJ:FuncData
 Jc:Addr
 JF:FuncData
 Hg:Addr
 Hx:FuncData
 Jd:Addr
 JH:FuncData
 Mi:Addr
 MA:FuncData
 BY:Addr
 Cj:FuncData
 Hi:Addr
 Hz:FuncData
 yY:Addr
 y9:FuncData
 Ji:Addr
 JO:FuncData
 Jk:Addr
 JQ:FuncData
 Jj:Addr
 JP:FuncData
 Hn:Addr
 HI:FuncData
 oG:Addr
 oN:FuncData
 Hk:Addr
 HF:FuncData
 DX:Addr
 Ej:FuncData
 DU:Addr
 Eg:FuncData
 B7:Addr
 Cq:FuncData
 B5:Addr
 Co:FuncData
 uS:Addr
 vF:FuncData
 uQ:Addr
 vD:FuncData
 Ml:Addr
 MG:FuncData
 DY:Addr
 Ek:FuncData
 Hj:Addr
 HE:FuncData
 B6:Addr
 Cp:FuncData
 DW:Addr
 Ei:FuncData
 DV:Addr
 Eh:FuncData
 Pn:Addr
 PQ:FuncData
 uR:Addr
 vE:FuncData
 Hl:Addr
 HG:FuncData
 Hm:Addr
 HH:FuncData
 y7:Addr
 zB:FuncData
 Mm:Addr
 MH:FuncData
 qM:Addr
 qQ:FuncData
 Va:Addr
 Vm:FuncData
 wL:Tok
 tL:Tok
 CD:Tok
 iI:Addr
 aI:Addr
 aP:Addr
 aN:Addr
variable{t:Ad}
structure Tx(P:Program)(w:World)(base:Heap)(K:q0B)(mg:q0C)(t:Ad):Prop where
 Ab:jV K mg "kept" LB ["number"] ["number"] t.RV t.Si
 mD:jV K mg "worth_of" AD ["saying","names","arg","now","answers","kind","one","other"] ["saying","names","arg","now","answers"] t.uT t.vL
 Bd:jV K mg "joined" Dk ["sign","one","other","left","right"] ["sign","one","other"] t.Mj t.MF
 j6:jV K mg "number_of" x9 ["worth"] ["worth"] t.Ho t.HJ
 gO:jV K mg "one_or_nought" oF ["truth"] ["truth"] t.AN t.A8
 kS:nO K t.aI "__init__" "Tickets.__init__" oB ["self"] ["self"] t.pB t.AW
 kT:nO K t.aI "make" "Tickets.make" oC ["self","ticket"] ["self"] t.AL t.AX
 dP:nO K t.aI "is_open" "Tickets.is_open" lP ["self","ticket"] ["self","ticket"] t.uO t.vA
 gL:nO K t.aI "those_open" "Tickets.those_open" jB ["self"] ["self"] t.pC t.pH
 iY:nO K t.aI "finish" "Tickets.finish" lO ["self","ticket","worth"] ["self","ticket","worth"] t.uN t.u9
 iN:nO K t.aI "shut" "Tickets.shut" oE ["self","ticket"] ["self","ticket"] t.AM t.AY
 fQ:nO K t.aI "shut_all" "Tickets.shut_all" kL ["self"] ["self"] t.sY t.tF
 gK:nO K t.aI "first_done" "Tickets.first_done" jA ["self","worths","tickets"] ["self","worths"] t.pA t.pG
 qT:nO K t.aP "__init__" "Walk.__init__" xU ["self","program"] ["self","program"] t.zS t.HA
 l9:nO K t.aP "come_to" "Walk.come_to" qC ["self"] ["self"] t.BZ t.Ck
 eI:nO K t.aP "stands_at" "Walk.stands_at" mQ ["self"] ["self"] t.yZ t.zA
 gC:nO K t.aP "pass_by" "Walk.pass_by" qD ["self"] ["self"] t.B0 t.Cm
 kU:nO K t.aP "enter" "Walk.enter" sO ["self","which"] ["self","which"] t.DO t.Ed
 oP:nO K t.aP "leave" "Walk.leave" sP ["self"] ["self"] t.DQ t.Ee
 Bb:jV K mg "do_set" GD ["run","statement"] ["run","statement"] t.Jh t.PN
 jZ:jV K mg "do_order" Av ["run","statement","worth","ticket"] ["run","statement"] t.uP t.JK
 pK:jV K mg "do_timer" Aw ["run","statement","worth","due","ticket"] ["run","statement"] t.B4 t.JL
 tT:jV K mg "do_send" Di ["run","statement"] ["run","statement"] t.Fs t.MD
 tR:jV K mg "do_drop" Dg ["run","statement","ticket"] ["run","statement"] t.Fp t.MB
 tU:jV K mg "do_wait" Dj ["run","statement","worths","ticket","pending"] ["run","statement"] t.Ft t.ME
 tS:jV K mg "do_hear" Dh ["run","statement","worths"] ["run","statement"] t.Fq t.MC
 Ba:jV K mg "do_end" GC ["run","statement"] ["run","statement"] t.Jg t.PM
 vT:nO K t.aN "__init__" "Run.__init__" Aq ["self","program"] ["self","program"] t.BX t.JG
 m6:nO K t.aN "waits" "Run.waits" xS ["self"] ["self"] t.Hh t.Hy
 iH:nO K t.aN "open_tickets" "Run.open_tickets" kK ["self"] ["self"] t.sX t.tE
 vV:nO K t.aN "take" "Run.take" As ["self","happening"] ["self","happening"] t.Je t.JI
 iW:nO K t.aN "passes_over" "Run.passes_over" lL ["self","happening","kind"] ["self","happening"] t.uL t.u0
 kR:nO K t.aN "take_done" "Run.take_done" oA ["self","ticket","worth"] ["self","ticket","worth"] t.AK t.AV
 iX:nO K t.aN "take_letter" "Run.take_letter" lM ["self","key","worth"] ["self","key","worth"] t.uM t.u7
 pJ:nO K t.aN "wake" "Run.wake" Au ["self","worth"] ["self","worth"] t.Jf t.JJ
 pI:nO K t.aN "go_on" "Run.go_on" Ap ["self","commands","many","statement"] ["self"] t.Jc t.JF
 qS:nO K t.aN "do_one" "Run.do_one" xR ["self","statement","kind","commands"] ["self","statement"] t.Hg t.Hx
 vU:nO K t.aN "look" "Run.look" Ar ["self","statement"] ["self","statement"] t.Jd t.JH
 tQ:nO K t.aN "end" "Run.end" Df ["self","worth"] ["self","worth"] t.Mi t.MA
 l8:nO K t.aN "wear_out" "Run.wear_out" qB ["self"] ["self"] t.BY t.Cj
 dG:nO K t.aN "worth" "Run.worth" xT ["self","saying"] ["self","saying"] t.Hi t.Hz
 hJ:nO K t.aN "new_ticket" "Run.new_ticket" mP ["self","name","ticket"] ["self","name"] t.yY t.y9
 pL:jV K mg "_law_deck" Ax ["cell","turn"] ["cell","turn"] t.Ji t.JO
 bK:jV K mg "_law_pick" AA ["deck","many","found","number"] ["deck","many"] t.Jk t.JQ
 gN:jV K mg "_law_name" Az ["deck"] ["deck"] t.Jj t.JP
 iU:jV K mg "_law_worth" x8 ["deck","kind"] ["deck"] t.Hn t.HI
 bR:jV K mg "_law_saying" sU ["deck","deep","kind","one"] ["deck","deep"] t.oG t.oN
 qU:jV K mg "_law_plain" xX ["deck","kind"] ["deck"] t.Hk t.HF
 oS:jV K mg "_law_simple" sV ["deck","kind","sayings"] ["deck"] t.DX t.Ej
 kW:jV K mg "_law_closed" sQ ["frames","head","first","second"] ["frames"] t.DU t.Eg
 mC:jV K mg "_law_program" qG ["cells","frames","cell","deck","kind"] ["cells"] t.B7 t.Cq
 jE:jV K mg "_law_bounded" qE ["number"] ["number"] t.B5 t.Co
 eT:jV K mg "_law_says" AB ["saying","run","word","one","other","left","right"] ["saying","run"] t.uS t.vF
 j5:jV K mg "_law_flat" Ay ["block","path","code","k","here","word","at","over"] ["block","path","code"] t.uQ t.vD
 tV:jV K mg "_law_new" Dl ["program","code","run"] ["program"] t.Ml t.MG
 kX:jV K mg "_law_ticket" sW ["run","name"] ["run","name"] t.DY t.Ek
 m8:jV K mg "_law_ended" xW ["run","worth","orders"] ["run","worth","orders"] t.Hj t.HE
 mB:jV K mg "_law_do_plain" qF ["run","some","orders","word","worth","due"] ["run","some","orders"] t.B6 t.Cp
 oR:jV K mg "_law_do_wait" sS ["run","some","worths","ready"] ["run","some"] t.DW t.Ei
 oQ:jV K mg "_law_do_hear" sR ["run","some"] ["run","some"] t.DV t.Eh
 Bf:jV K mg "_law_go" GF ["run","orders","steps","word","some","path","where"] ["run","orders"] t.Pn t.PQ
 gM:jV K mg "_law_goes_behind" lQ ["run","worth","orders"] ["run","worth","orders"] t.uR t.vE
 m9:jV K mg "_law_takes" xY ["run","happening","orders","word","moment"] ["run","happening"] t.Hl t.HG
 nA:jV K mg "_law_waits" xZ ["run"] ["run"] t.Hm t.HH
 jP:jV K mg "_law_happening" mR ["deck","run","moment","kind","ticket","key"] ["deck","run"] t.y7 t.zB
 Bg:jV K mg "_law_row" Dm ["program","cells","run","row","k","deck","happening"] ["program","cells"] t.Mm t.MH
 dQ:jV K mg "_law_alike" xV ["one","other"] ["one","other"] t.qM t.qQ
 Tr:jV K mg "law" OU ["script","program","row","model","run","happening"] ["script"] t.Va t.Vm
 bG:Cls K t.aI
 Kz:mg "Tickets"=some (.ref t.aI)
 rE:Mk K t.aI t.pB
 cY:Cls K t.aP
 TY:mg "Walk"=some (.ref t.aP)
 EB:Mk K t.aP t.zS
 aW:Cls K t.aN
 VE:mg "Run"=some (.ref t.aN)
 KL:Mk K t.aN t.BX
 wX:eB K t.aI "made"
 gD:eB K t.aI "pending"
 gZ:eB K t.aI "answers"
 iF:eB K t.aP "blocks"
 fB:eB K t.aP "numbers"
 jR:eB K t.aN "walk"
 dN:eB K t.aN "sleep"
 CN:eB K t.aN "arg"
 sG:eB K t.aN "now"
 iS:eB K t.aN "names"
 cS:eB K t.aN "tickets"
 kF:eB K t.aN "letters"
 lX:mg "GREATEST_WORTH"=some (.int 1000000000 t.wL)
 sZ:mg "GREATEST_MOMENT"=some (.int 1000000000000 t.tL)
 B9:mg "MOST_AT_ONCE"=some (.int 300 t.CD)
 Pt:mg "DEEDS"=some (.ref t.iI)
 NB:RT w.params K t.iI
 Im:PySem.W.nsIn K t.iI "set"=some (some (.ref t.Jh))
 CL:PySem.W.nsIn K t.iI "order"=some (some (.ref t.uP))
 CM:PySem.W.nsIn K t.iI "timer"=some (some (.ref t.B4))
 CK:PySem.W.nsIn K t.iI "child"=some (some (.ref t.uP))
 EE:PySem.W.nsIn K t.iI "send"=some (some (.ref t.Fs))
 EC:PySem.W.nsIn K t.iI "drop"=some (some (.ref t.Fp))
 EF:PySem.W.nsIn K t.iI "wait"=some (some (.ref t.Ft))
 ED:PySem.W.nsIn K t.iI "hear"=some (some (.ref t.Fq))
 Il:PySem.W.nsIn K t.iI "end"=some (some (.ref t.Jg))
 Mc:mg "bool"=none
 Md:mg "dict"=none
 zQ:mg "int"=none
 dY:mg "isinstance"=none
 jU:mg "len"=none
 DK:mg "list"=none
 BV:mg "max"=none
 IZ:mg "min"=none
 rY:mg "range"=none
 Oy:mg "set"=none
 uJ:mg "sorted"=none
 iK:mg "tuple"=none
noncomputable abbrev Ok{P:Program}{w:World}{base:Heap}{K:q0B}{mg:q0C}{t:Ad}(_:Tx P w base K mg t){x q:Str}{st:Stmt}{ns ps:List Str}{f:Addr}{d:FuncData}{M:Prop}(_:RS K x q st ns ps f d M)(n:Nat)(sp:Sp):Prop:=eP P w K mg base WW n f d ps sp
def V8{CX:CXT}{P:Program}{w:World}{N:List Str}{sc:Scope}{f:Addr}{cd:Value}{A:Around}{o:List Env}{s:Shared}:(AU CX P w K mg base N q sc f cd A o s H E).K=K:=rfl
def VQ{CX:CXT}{P:Program}{w:World}{N:List Str}{sc:Scope}{f:Addr}{cd:Value}{A:Around}{o:List Env}{s:Shared}:(AU CX P w K mg base N q sc f cd A o s H E).nox.K=K:=rfl
def small{n:Nat}(h:n<=1000):n<=sizeLine:=Nat.le_of_lt (small1000 h)
def Gk(h0:-(2 ^ 64) < i)(h1:i < 2 ^ 64):CMul i j:=.inl ⟨h0,h1⟩
structure Fo(H:Hp)(r:Addr):Prop where
 ex:∃ c l f:Int,H r=some (.lst [.int c,.int l,.int f])/\0<=l/\l < 536870909
noncomputable def RJ:Sp:=fun vs H Q _=>∃(r:Addr) (m:Int),vs=[.ref r,.int m]/\0 < m/\m<=10 ^ 45/\Fo H r /\
 ∀(g:Int) (H':Hp),0<=g->g < m->Fo H' r->Kp [r] H H'->Q (.int g) H'
noncomputable def clamp(n:Int):Int:=if (if n < 1000000000 then n else 1000000000) > -1000000000 then (if n < 1000000000 then n else 1000000000) else -1000000000
def EX:Sp:=fun vs H Q _=>∃ n:Int,vs=[.int n]/\Q (.int (clamp n)) H
def Rv{n:Int}:EX [.int n] H Q E=Q (.int (clamp n)) H:=propext ⟨fun⟨_,e,h⟩=>by cases e;exact h,fun h=>⟨_,rfl,h⟩⟩
theorem lZ(n:Int):-1000000000<=clamp n/\clamp n<=1000000000:=by
 unfold clamp
 repeat' split
 all_goals omega
abbrev Wo:=Option Int
variable{an ans r:List 1e57}{lt:List 1e32}{ws:List Wo}
noncomputable def wv:Wo->V
 | none=>.Wb
 | some n=>.int n
def num(w:Wo):Int:=w.getD 0
noncomputable def wk:Wo->Key
 | none=>.no
 | some n=>.inl n
def dU(w:Wo):Prop:=∀ n,w=some n->-1000000000<=n/\n<=1000000000
theorem Fj{a b:Wo}(h:wv a=wv b):a=b:=by cases a<;>cases b<;>simp_all [wv]
def RP(w:Wo):jC (wv w)=some (wk w):=by cases w<;>rfl
def Fk(w:Wo):(wv w=.Wb)=(w=none):=by cases w<;>simp[wv]
def uI(w:Wo):eL (wv w)=true:=by cases w<;>rfl
def kD:dU none:=fun _ h=>nomatch h
def eU{n:Int}(h0:-1000000000<=n)(h1:n<=1000000000):dU (some n):=fun m h=>by cases h;exact⟨h0,h1⟩
theorem wK{w:Wo}(h:dU w):-1000000000<=num w/\num w<=1000000000:=by
 cases w with
 | none=>exact⟨by decide,by decide⟩
 | some n=>exact h n rfl
def OY:Sp:=fun vs H Q _=>∃ w:Wo,vs=[wv w]/\Q (.int (num w)) H
def Uh{w:Wo}:OY [wv w] H Q E=Q (.int (num w)) H :=
 propext ⟨fun⟨u,e,h⟩=>by simp only[List.cons.injEq,and_true] at e;rw[Fj e];exact h,fun h=>⟨w,rfl,h⟩⟩
def OZ:Sp:=fun vs H Q _=>∃ b:Bool,vs=[.bl b]/\Q (.int (if b=true then 1 else 0)) H
def Dd{b:Bool}:OZ [.bl b] H Q E=Q (.int (if b=true then 1 else 0)) H :=
 propext ⟨fun⟨u,e,h⟩=>by cases e;exact h,fun h=>⟨b,rfl,h⟩⟩
inductive Sg where
 | add|sub|mul|lt|eq
noncomputable def Sg.s:Sg->Str
 | .add=>"+" | .sub=>"-" | .mul=>"*" | .lt=>"<" | .eq=>"="
noncomputable def Sg.of(g:Sg)(a b:Wo):Int :=
 match g with
 | .add=>clamp (num a+num b) | .sub=>clamp (num a - num b) | .mul=>clamp (num a * num b) | .lt=>if num a < num b then 1 else 0 | .eq=>if a=b then 1 else 0
theorem Sg.OP(g:Sg)(a b:Wo):-1000000000<=g.of a b/\g.of a b<=1000000000:=by
 cases g
 ·exact lZ _
 ·exact lZ _
 ·exact lZ _
 ·show -1000000000<=(if num a < num b then (1:Int) else 0)/\(if num a < num b then (1:Int) else 0)<=1000000000;split<;>decide
 ·show -1000000000<=(if a=b then (1:Int) else 0)/\(if a=b then (1:Int) else 0)<=1000000000;split<;>decide
inductive Dq(vs:List V)(H:Hp)(Q:VK)(E:XK):Prop
 | mk (g:Sg) (a b:Wo) (_:vs=[.str g.s,wv a,wv b]) (_:dU a) (_:Q (.int (g.of a b)) H):Dq vs H Q E
inductive Say where
 | num (n:Int)|Wb|name (x:Str)|arg|now|ans (s:Say)|neg (s:Say)|two (g:Sg) (a b:Say)
variable{ss:List Say}{h:Option (Bool×Say)}{s:Say}
inductive cZ(H:Hp):V->Say->Prop
 | num {a:Addr} {n:Int}:H a=some (.tup [.str "number",.int n])->cZ H 1e11 (.num n)
 | Wb {a:Addr}:H a=some (.tup [.str "none"])->cZ H 1e11 .Wb
 | name {a:Addr} {x:Str}:H a=some (.tup [.str "name",.str x])->cZ H 1e11 (.name x)
 | arg {a:Addr}:H a=some (.tup [.str "arg"])->cZ H 1e11 .arg
 | now {a:Addr}:H a=some (.tup [.str "now"])->cZ H 1e11 .now
 | ans {a:Addr} {v:V} {s:Say}:H a=some (.tup [.str "answer",v])->cZ H v s->cZ H 1e11 (.ans s)
 | neg {a:Addr} {v:V} {s:Say}:H a=some (.tup [.str "not",v])->cZ H v s->cZ H 1e11 (.neg s)
 | two {a:Addr} {v u:V} {g:Sg} {s r:Say}:H a=some (.tup [.str g.s,v,u])->cZ H v s->cZ H u r->cZ H 1e11 (.two g s r)
def aE(H H':Hp):Prop:=∀ a xs,H a=some 1e54->H' a=some 1e54
def cZ.kp(h:cZ H v s)(k:aE H H'):cZ H' v s:=by
 induction h with
 | num e=>exact .num 1e53
 | Wb e=>exact .Wb 1e53
 | name e=>exact .name 1e53
 | arg e=>exact .arg 1e53
 | now e=>exact .now 1e53
 | ans e _ ih=>exact .ans 1e53 ih
 | neg e _ ih=>exact .neg 1e53 ih
 | two e _ _ i1 i2=>exact .two 1e53 i1 i2
def aE.of{S:List Addr}(k:Kp S H H')(h:∀ a∈S,∃ o,H a=some o/\∀ xs,o≠.tup xs):aE H H':=fun a xs e=>k a _ e fun z=>by
 obtain⟨o,e',d⟩:=h a z;rw[e] at e';exact d xs (Option.some.inj e').symm
def aE.new{p:Addr}(h:H p=none):aE H (Wa H p o):=fun a xs e=>by rw[aD (aF e h)];exact e
def aE.trans{H2:Hp}(a:aE H H1)(b:aE H1 H2):aE H H2:=fun x xs e=>b x xs (a x xs e)
noncomputable def Say.depth:Say->Nat
 | .ans s=>s.depth+1 | .neg s=>s.depth+1 | .two _ a b=>max a.depth b.depth+1 | .num _=>1 | .Wb=>1 | .name _=>1 | .arg=>1 | .now=>1
noncomputable def Say.ok:Say->Prop
 | .num n=>-1000000000<=n/\n<=1000000000 | .ans s=>s.ok | .neg s=>s.ok | .two _ a b=>a.ok/\b.ok|_=>True
def Say.m4(s:Say):1<=s.depth:=by cases s<;>simp[Say.depth]
set_option genInjectivity false in
structure Pl where
 nm:Str->Wo
 ar:Wo
 now:Int
 an:Wo->Wo
structure Pl.Ok(p:Pl):Prop where
 nm:∀ x,dU (p.nm x)
 ar:dU p.ar
 an:∀ w,dU (p.an w)
noncomputable def ev(p:Pl):Say->Wo
 | .num n=>some n
 | .Wb=>none
 | .name x=>p.nm x
 | .arg=>p.ar
 | .now=>some (clamp p.now)
 | .ans s=>p.an (ev p s)
 | .neg s=>some (if num (ev p s)=0 then 1 else 0)
 | .two g a b=>some (g.of (ev p a) (ev p b))
theorem FO{p:Pl}(hp:p.Ok):∀ {s:Say},s.ok->dU (ev p s)
 | .num n,h=>eU h.1 h.2
 | .Wb,_=>kD
 | .name x,_=>hp.nm x
 | .arg,_=>hp.ar
 | .now,_=>eU (lZ _).1 (lZ _).2
 | .ans s,_=>hp.an _
 | .neg s,_=>by
  show dU (some (if num (ev p s)=0 then 1 else 0));split<;>exact eU 1e6 1e6
 | .two g a b,_=>eU (g.OP _ _).1 (g.OP _ _).2
def U6(H:Hp)(d:Addr)(f:Str->Wo):Prop:=∃ kvs,H d=some 1e17/\∀ x,(aX kvs (.inr x)).getD .Wb=wv (f x)
def U2(H:Hp)(d:Addr)(f:Wo->Wo):Prop:=∃ kvs,H d=some 1e17/\∀ w,(aX kvs (wk w)).getD .Wb=wv (f w)
inductive Oj(d:Nat)(vs:List V)(H:Hp)(Q:VK)(E:XK):Prop
 | mk (v:V) (dn da:Addr) (p:Pl) (s:Say) (_:vs=[v,.ref dn,wv p.ar,.int p.now,.ref da]) (_:cZ H v s) (_:s.depth<=d) (_:s.ok) (_:U6 H dn p.nm) (_:U2 H da p.an) (_:p.Ok) (_:Q (wv (ev p s)) H):Oj d vs H Q E
inductive Stm where
 | set (x:Str) (s:Say)|order (x y:Str) (s:Say)|Wp (x:Str) (s:Say)|child (x y:Str) (s:Say)|send (s:Say) (k:Str) (r:Say)|drop (s:Say)
 | wait (x:Str) (ss:List Say)|Wg (x k:Str)|fin (s:Say)|Wu (s:Say) (b:List Stm)|iff (s:Say) (b o:List Stm)
variable{P b bb ms:List Stm}
inductive fW(H:Hp):List V->List Say->Prop
 | nil:fW H [] []
 | cons {v:V} {vs:List V} {s:Say} {ss:List Say}:cZ H v s->fW H vs ss->fW H (v::vs) (s::ss)
def fW.kp{vs:List V}(h:fW H vs ss)(k:aE H H'):fW H' vs ss:=by
 induction h with
 | nil=>exact .nil
 | cons a _ ih=>exact .cons (a.kp k) ih
mutual
inductive b7(H:Hp):V->Stm->Prop
 | set {a:Addr} {x:Str} {v:V} {s:Say}:H a=some (.tup [.str "set",.str x,v])->cZ H v s->b7 H 1e11 (.set x s)
 | order {a:Addr} {x y:Str} {v:V} {s:Say}:H a=some (.tup [.str "order",.str x,.str y,v])->cZ H v s->b7 H 1e11 (.order x y s)
 | Wp {a:Addr} {x:Str} {v:V} {s:Say}:H a=some (.tup [.str "timer",.str x,v])->cZ H v s->b7 H 1e11 (.Wp x s)
 | child {a:Addr} {x y:Str} {v:V} {s:Say}:H a=some (.tup [.str "child",.str x,.str y,v])->cZ H v s->b7 H 1e11 (.child x y s)
 | send {a:Addr} {k:Str} {v u:V} {s r:Say}:H a=some (.tup [.str "send",v,.str k,u])->cZ H v s->cZ H u r->b7 H 1e11 (.send s k r)
 | drop {a:Addr} {v:V} {s:Say}:H a=some (.tup [.str "drop",v])->cZ H v s->b7 H 1e11 (.drop s)
 | wait {a p:Addr} {x:Str} {vs:List V} {ss:List Say}:H a=some (.tup [.str "wait",.str x,.ref p])->H p=some (.tup vs)->fW H vs ss->b7 H 1e11 (.wait x ss)
 | Wg {a:Addr} {x k:Str}:H a=some (.tup [.str "hear",.str x,.str k])->b7 H 1e11 (.Wg x k)
 | fin {a:Addr} {v:V} {s:Say}:H a=some (.tup [.str "end",v])->cZ H v s->b7 H 1e11 (.fin s)
 | Wu {a p:Addr} {v:V} {s:Say} {vs:List V} {b:List Stm}:H a=some (.tup [.str "while",v,.ref p])->cZ H v s->H p=some (.tup vs)->bH H vs b->b7 H 1e11 (.Wu s b)
 | iff {a p q:Addr} {v:V} {s:Say} {vs us:List V} {b o:List Stm}:H a=some (.tup [.str "if",v,.ref p,.ref q])->cZ H v s->H p=some (.tup vs)->bH H vs b->H q=some (.tup us)->bH H us o->b7 H 1e11 (.iff s b o)
inductive bH(H:Hp):List V->List Stm->Prop
 | nil:bH H [] []
 | cons {v:V} {vs:List V} {x:Stm} {xs:List Stm}:b7 H v x->bH H vs xs->bH H (v::vs) (x::xs)
end
def b7.kp(k:aE H H'){m:Stm}(h:b7 H v m):b7 H' v m :=
 b7.rec (motive_1:=fun v m _=>b7 H' v m) (motive_2:=fun vs ms _=>bH H' vs ms)
  (fun e s=>.set 1e53 (s.kp k)) (fun e s=>.order 1e53 (s.kp k)) (fun e s=>.Wp 1e53 (s.kp k)) (fun e s=>.child 1e53 (s.kp k))
  (fun e s r=>.send 1e53 (s.kp k) (r.kp k)) (fun e s=>.drop 1e53 (s.kp k)) (fun e f s=>.wait 1e53 (k _ _ f) (s.kp k)) (fun e=>.Wg 1e53) (fun e s=>.fin 1e53 (s.kp k))
  (fun e s f _ b=>.Wu 1e53 (s.kp k) (k _ _ f) b) (fun e s f _ f' _ b b'=>.iff 1e53 (s.kp k) (k _ _ f) b (k _ _ f') b') .nil (fun _ _ a b=>.cons a b) h
def bH.kp(k:aE H H'){vs:List V}(h:bH H vs ms):bH H' vs ms :=
 bH.rec (motive_1:=fun v m _=>b7 H' v m) (motive_2:=fun vs ms _=>bH H' vs ms)
  (fun e s=>.set 1e53 (s.kp k)) (fun e s=>.order 1e53 (s.kp k)) (fun e s=>.Wp 1e53 (s.kp k)) (fun e s=>.child 1e53 (s.kp k))
  (fun e s r=>.send 1e53 (s.kp k) (r.kp k)) (fun e s=>.drop 1e53 (s.kp k)) (fun e f s=>.wait 1e53 (k _ _ f) (s.kp k)) (fun e=>.Wg 1e53) (fun e s=>.fin 1e53 (s.kp k))
  (fun e s f _ b=>.Wu 1e53 (s.kp k) (k _ _ f) b) (fun e s f _ f' _ b b'=>.iff 1e53 (s.kp k) (k _ _ f) b (k _ _ f') b') .nil (fun _ _ a b=>.cons a b) h
mutual
noncomputable def Stm.dp:Stm->Nat
 | .Wu _ b=>oO b+1
 | .iff _ b o=>max (oO b) (oO o)+1
 | .set _ _=>0
 | .order _ _ _=>0
 | .Wp _ _=>0
 | .child _ _ _=>0
 | .send _ _ _=>0
 | .drop _=>0
 | .wait _ _=>0
 | .Wg _ _=>0
 | .fin _=>0
noncomputable def oO:List Stm->Nat
 | []=>0
 | m::ms=>max m.dp (oO ms)
end
def bH.at{vs:List V}(h:bH H vs ms):∀ {i:Nat} {x:V},vs[i]?=some x->∃ m,ms[i]?=some m/\b7 H x m:=by
 induction ms generalizing vs with
 | nil=>cases h;intro i x e;simp at e
 | cons m ms ih =>
  cases h with
  | cons a b =>
   intro i x e;cases i with
   | zero=>simp only[List.getElem?_cons_zero,Option.some.injEq] at e;subst e;exact⟨_,rfl,a⟩
   | succ i=>exact ih b (by simpa using e)
def bH.len{vs:List V}(h:bH H vs ms):ms.length=vs.length:=by
 induction ms generalizing vs with
 | nil=>cases h;rfl
 | cons m ms ih =>
  cases h with
  | cons a b=>simp[ih b]
def Np{ms:List Int}{i:Nat}(h:(ms.map V.int)[i]?=some y):∃ z:Int,y=.int z:=by
 rw[List.getElem?_map] at h;cases e:ms[i]? with
 | none=>rw[e] at h;cases h
 | some z=>rw[e] at h;exact⟨z,(Option.some.inj h).symm⟩
theorem Af(w:Wo):wF (wv w) [.Wb,.int 0]=decide (num w=0):=by
 cases w with
 | none=>rfl
 | some n =>
  by_cases h:n=0
  ·subst h;rfl
  ·have h':¬ (0=n):=fun z=>h z.symm;simp[wF,wv,tP,num,h,h']
theorem flat01:([.Wb,.int 0]:List V).all eL=true:=by decide
def aE.nil(k:Kp [] H H'):aE H H':=fun a xs e=>k a _ e 1e1
def _root_.L2.Kp.jL:Kp [a] H (Wa H a o):=Kp.set 1e1
def i9(pend:List Int):List 1e35:=pend.map fun i=>(.inl i,.bl true)
def iD(ans:List 1e57):List 1e35:=ans.map fun p=>(.inl p.1,wv p.2)
structure iM(C:Addr)(H:Hp)(tk tx dp da:Addr)(made:Nat)(pend:List Int)(ans:List 1e57):Prop where
 ins:H tk=some (.ins C tx [("made",.int made),("pending",.ref dp),("answers",.ref da)])
 hp:H dp=some (.dK (i9 pend))
 ha:H da=some (.dK (iD ans))
 nda:dp≠da
 lt:∀ i∈pend,0<=i/\i < made
 asc:pend.Pairwise (· < ·)
 la:∀ p∈ans,0<=p.1/\p.1 < made
 dis:∀ p∈ans,p.1∉pend
 small:made<=1000000
def iM.n1{tk tx dp da:Addr}{made:Nat}(T:iM C H tk tx dp da made pend ans):tk≠dp/\tk≠da:=⟨cP T.ins T.hp 1e7,cP T.ins T.ha 1e7⟩
def iM.kp{tk tx dp da:Addr}{made:Nat}(T:iM C H tk tx dp da made pend ans)(k:Kp [] H H'):iM C H' tk tx dp da made pend ans :=
 ⟨k.at T.ins,k.at T.hp,k.at T.ha,T.nda,T.lt,T.asc,T.la,T.dis,T.small⟩
theorem xO(pend:List Int)(w:Wo):(aX (i9 pend) (wk w)).isSome=decide (∃ i∈pend,w=some i):=by
 induction pend with
 | nil=>simp[i9,yQ]
 | cons i r ih =>
  have e:i9 (i::r)=(Key.inl i,V.bl true)::i9 r:=rfl;rw[e];by_cases h:w=some i
  ·subst h;rw[show wk (some i)=Key.inl i from rfl,cE rfl];simp
  ·rw[b6 (fun z=>h (by cases w with
    | none=>cases z
    | some j=>cases z;rfl)),ih]
   simp[h]
theorem IB(pend:List Int)(i:Int):sA (i9 pend) (.inl i)=i9 (pend.filter fun j=>decide (j≠i)):=by
 unfold sA i9;rw[List.filter_map]
 congr 1
 apply List.filter_congr;intro j _;simp
def IC(pend:List Int):intKeys (i9 pend)=some pend:=by
 induction pend with
 | nil=>rfl
 | cons i r ih =>
  show(intKeys (i9 r)).map (i::·)=_;rw[ih];rfl
theorem ID(h:i∉pend):aX (i9 pend) (.inl i)=none:=by
 have:=xO pend (some i);rw[show decide (∃ j∈pend,some i=some j)=false by simp[h]] at this;cases e:aX (i9 pend) (.inl i) with
 | none=>rfl
 | some v=>rw[show wk (some i)=.inl i from rfl,e] at this;cases this
theorem IE(h:i∈pend):∃ v,aX (i9 pend) (.inl i)=some v:=by
 have:=xO pend (some i);rw[show decide (∃ j∈pend,some i=some j)=true by simpa using h] at this;exact Option.isSome_iff_exists.mp this
def Jl(h:∀ p∈ans,p.1≠i):aX (iD ans) (.inl i)=none:=by
 induction ans with
 | nil=>rfl
 | cons p r ih =>
  have e:iD (p::r)=(Key.inl p.1,wv p.2)::iD r:=rfl;rw[e,b6 (fun z=>h p 1e1 (by cases z;rfl)),ih fun q hq=>h q (List.mem_cons_of_mem _ hq)]
def mT{a b:List Int}(p:a.Perm b)(ha:a.Pairwise (·<=·))(hb:b.Pairwise (· < ·)):a=b :=
 List.Perm.eq_of_pairwise (fun x y _ _ h1 h2=>Int.le_antisymm h1 h2) ha (hb.imp fun h=>Int.le_of_lt h) p
inductive yF(C:Addr)(vs:List V)(H:Hp)(Q:VK)(E:XK):Prop
 | mk (x dx:Addr) (_:vs=[.ref x]) (_:H x=some (.ins C dx [])) (_:∀(dp da:Addr) (H':Hp),H dp=none->H da=none->iM C H' x dx dp da 0 [] []->Kp [x] H H'->Q .Wb H'):yF C vs H Q E
inductive Ds(C:Addr)(vs:List V)(H:Hp)(Q:VK)(E:XK):Prop
 | mk (tk tx dp da:Addr) (made:Nat) (pend:List Int) (ans:List 1e57) (_:vs=[.ref tk]) (_:iM C H tk tx dp da made pend ans) (_:made < 1000000) (_:pend.length < 1000000) (_:∀ H',iM C H' tk tx dp da (made+1) (pend++[(made:Int)]) ans->Kp [tk,dp] H H'->Q (.int made) H'):Ds C vs H Q E
inductive Dt(C:Addr)(vs:List V)(H:Hp)(Q:VK)(E:XK):Prop
 | mk (tk tx dp da:Addr) (made:Nat) (pend:List Int) (ans:List 1e57) (w:Wo) (_:vs=[.ref tk,wv w]) (_:iM C H tk tx dp da made pend ans) (_:Q (.bl (decide (∃ i∈pend,w=some i))) H):Dt C vs H Q E
inductive AF(C:Addr)(vs:List V)(H:Hp)(Q:VK)(E:XK):Prop
 | mk (tk tx dp da:Addr) (made:Nat) (pend:List Int) (ans:List 1e57) (_:vs=[.ref tk]) (_:iM C H tk tx dp da made pend ans) (_:pend.length<=1000000) (_:∀ l,H l=none->Q (.ref l) (Wa H l (.lst (pend.map V.int)))):AF C vs H Q E
inductive Du(C:Addr)(vs:List V)(H:Hp)(Q:VK)(E:XK):Prop
 | mk (tk tx dp da:Addr) (made:Nat) (pend:List Int) (ans:List 1e57) (i:Int) (_:vs=[.ref tk,.int i]) (_:iM C H tk tx dp da made pend ans) (_:i∈pend) (_:∀ H',iM C H' tk tx dp da made (pend.filter fun j=>decide (j≠i)) ans->Kp [dp] H H'->Q .Wb H'):Du C vs H Q E
inductive yE(C:Addr)(vs:List V)(H:Hp)(Q:VK)(E:XK):Prop
 | mk (tk tx dp da:Addr) (made:Nat) (pend:List Int) (ans:List 1e57) (i:Int) (w:Wo) (_:vs=[.ref tk,.int i,wv w]) (_:iM C H tk tx dp da made pend ans) (_:i∈pend) (_:ans.length < 1000000) (_:∀ H',iM C H' tk tx dp da made (pend.filter fun j=>decide (j≠i)) (ans++[(i,w)])->Kp [dp,da] H H'->Q .Wb H'):yE C vs H Q E
inductive GU(C:Addr)(vs:List V)(H:Hp)(Q:VK)(E:XK):Prop
 | mk (tk tx dp da:Addr) (made:Nat) (pend:List Int) (ans:List 1e57) (_:vs=[.ref tk]) (_:iM C H tk tx dp da made pend ans) (_:∀ H',iM C H' tk tx dp da made [] ans->Kp [dp] H H'->Q .Wb H'):GU C vs H Q E
abbrev Stk:=List (Nat×List Stm×Nat)
variable{st:Stk}
noncomputable def cO:Stk->List Int
 | []=>[]
 | [(_,_,n)]=>[(n:Int)]
 | (k,_,n)::r=>cO r++[(k:Int),(n:Int)]
inductive fV(H:Hp):List V->Stk->Prop
 | one {p:Addr} {us:List V} {k n:Nat} {b:List Stm}:H p=some (.tup us)->bH H us b->fV H [.ref p] [(k,b,n)]
 | cons {p:Addr} {us vs:List V} {k n:Nat} {b:List Stm} {r:Stk}:fV H vs r->H p=some (.tup us)->bH H us b->fV H (vs++[.ref p]) 1e31
def fV.kp{vs:List V}(h:fV H vs st)(k:aE H H'):fV H' vs st:=by
 induction h with
 | one e s=>exact .one 1e53 (s.kp k)
 | cons _ e s ih=>exact .cons ih 1e53 (s.kp k)
def fV.len{vs:List V}(h:fV H vs st):vs.length=st.length/\1<=st.length:=by
 induction h with
 | one=>exact⟨rfl,Nat.le_refl _⟩
 | cons _ _ _ ih=>simp[ih.1]
def fV.last{vs:List V}{k n:Nat}{r:Stk}(h:fV H vs 1e31):∃(ws:List V) (p:Addr) (us:List V),vs=ws++[.ref p]/\H p=some (.tup us)/\bH H us b/\(r≠[]->fV H ws r)/\(r=[]->ws=[]):=by
 cases h with
 | one e s=>exact⟨[],_,_,rfl,e,s,fun z=>absurd rfl z,fun _=>rfl⟩
 | @cons p us vs k n b r hr e s=>exact⟨vs,_,_,rfl,e,s,fun _=>hr,fun z=>by subst z;cases hr⟩
def fV.turn{vs:List V}{k n n':Nat}{r:Stk}(h:fV H vs 1e31):fV H vs ((k,b,n')::r):=by
 cases h with
 | one e s=>exact .one e s
 | cons hr e s=>exact .cons hr e s
def rG(k n:Nat)(b:List Stm)(r:Stk):∃ l,cO 1e31=l++[(n:Int)]/\∀ n',cO ((k,b,n')::r)=l++[((n':Nat):Int)]:=by
 cases r with
 | nil=>exact⟨[],rfl,fun _=>rfl⟩
 | cons x r=>exact⟨cO (x::r)++[(k:Int)],by simp[cO],fun n'=>by simp[cO]⟩
def rH(k:Nat)(b:List Stm)(n:Nat)(x:Nat×List Stm×Nat)(r:Stk):cO ((k,b,n)::x::r)=cO (x::r)++[(k:Int),(n:Int)]:=rfl
structure jO(C:Addr)(H:Hp)(wk wx lb ln:Addr)(st:Stk):Prop where
 ins:H wk=some (.ins C wx [("blocks",.ref lb),("numbers",.ref ln)])
 bl:∃ vs,H lb=some (.lst vs)/\fV H vs st
 nu:H ln=some (.lst ((cO st).map V.int))
 ne:lb≠ln
 XA:st.length<=100
noncomputable def fZ:Stk->Stk
 | (k,b,n)::r=>(k,b,n+1)::r
 | []=>[]
inductive yH(C:Addr)(vs:List V)(H:Hp)(Q:VK)(E:XK):Prop
 | mk (wk wx lb ln:Addr) (k n:Nat) (b:List Stm) (r:Stk) (m:Stm) (_:vs=[.ref wk]) (_:jO C H wk wx lb ln 1e31) (_:b[n]?=some m) (_:∀ v,b7 H v m->Q v H):yH C vs H Q E
inductive qI(C:Addr)(vs:List V)(H:Hp)(Q:VK)(E:XK):Prop
 | mk (wk wx lb ln:Addr) (k n:Nat) (b:List Stm) (r:Stk) (_:vs=[.ref wk]) (_:jO C H wk wx lb ln 1e31) (_:∀ H',jO C H' wk wx lb ln ((k,b,n+1)::r)->Kp [ln] H H'->Q .Wb H'):qI C vs H Q E
inductive yG(C:Addr)(vs:List V)(H:Hp)(Q:VK)(E:XK):Prop
 | mk (x dx p:Addr) (us:List V) (b:List Stm) (_:vs=[.ref x,.ref p]) (_:H x=some (.ins C dx [])) (_:H p=some (.tup us)) (_:bH H us b) (_:∀(lb ln:Addr) (H':Hp),H lb=none->H ln=none->jO C H' x dx lb ln [(0,b,0)]->Kp [x] H H'->Q .Wb H'):yG C vs H Q E
noncomputable def Stm.sub:Stm->Nat->Option (List Stm)
 | .Wu _ b,0=>some b
 | .iff _ b _,0=>some b
 | .iff _ _ o,1=>some o
 | _,_=>none
noncomputable def Stm.Bl:Stm->Bool
 | .iff _ _ _=>true
 | _=>false
inductive rV(C:Addr)(vs:List V)(H:Hp)(Q:VK)(E:XK):Prop
 | mk (wk wx lb ln:Addr) (k n c:Nat) (b bb:List Stm) (r:Stk) (m:Stm) (_:vs=[.ref wk,.int c]) (_:jO C H wk wx lb ln 1e31) (_:b[n]?=some m) (_:m.sub c=some bb) (_:r.length<=90) (_:∀ H',jO C H' wk wx lb ln ((c,bb,0)::(k,b,n)::r)->Kp [lb,ln] H H'->Q .Wb H'):rV C vs H Q E
inductive AG(C:Addr)(vs:List V)(H:Hp)(Q:VK)(E:XK):Prop
 | mk (wk wx lb ln:Addr) (k n:Nat) (b:List Stm) (x:Nat×List Stm×Nat) (r:Stk) (m:Stm) (_:vs=[.ref wk]) (_:jO C H wk wx lb ln (x::(k,b,n)::r)) (_:b[n]?=some m) (_:∀ H',jO C H' wk wx lb ln ((k,b,if m.Bl=true then n+1 else n)::r)->Kp [lb,ln] H H'->Q .Wb H'):AG C vs H Q E
def b7.subAt{m:Stm}{c:Nat}(h:b7 H v m)(hs:m.sub c=some bb):∃(a p:Addr) (xs us:List V),v=.ref a/\H a=some 1e54/\fI xs (2+(c:Int))=some 1e21/\H p=some (.tup us)/\bH H us bb:=by
 cases h with
 | @Wu a p v s vs b e h1 f hb =>
  match c,hs with
  | 0,hs=>cases hs;exact⟨a,p,_,vs,rfl,e,rfl,f,hb⟩
 | @iff a p q v s vs us b o e h1 f hb f2 hb2 =>
  match c,hs with
  | 0,hs=>cases hs;exact⟨a,p,_,vs,rfl,e,rfl,f,hb⟩
  | 1,hs=>cases hs;exact⟨a,q,_,us,rfl,e,rfl,f2,hb2⟩
 | _=>cases hs
theorem b7.TH{m:Stm}(h:b7 H v m):∃(a:Addr) (x:String) (xs:List V),v=.ref a/\H a=some (.tup (.str (Str.ofString x)::xs))/\decide (x = "if")=m.Bl:=by
 cases h<;>exact⟨_,_,_,rfl,by assumption,rfl⟩
def aE.dF{ys:List V}(e:H l=some 1e20):aE H (Wa H l (.lst ys)):=fun a zs h=>by
 rw[aD (cP h e 1e7)];exact h
theorem CS:∀ st:Stk,(cO st).length<=2 * st.length
 | []=>by simp[cO]
 | [(_,_,n)]=>by simp[cO]
 | (k,b,n)::x::r=>by
  have:=CS (x::r);rw[rH,List.length_append];simp only[List.length_cons,List.length_nil] at this ⊢;omega
def rB{α:Type}(l:List α)(x:α):(l++[x])[(l++[x]).length - 1]?=some x:=by simp
def aE.tr{H2:Hp}(a:aE H H1)(b:aE H1 H2):aE H H2:=fun c xs e=>b c xs (a c xs e)
noncomputable def nZ(b:List Stm)(n:Nat):Nat:=match b[n]? with
 | some m=>if m.Bl=true then n+1 else n
 | none=>n
noncomputable def bO:Stk->Stk
 | (k,b,n)::(k2,b2,n2)::r=>if n=b.length then bO ((k2,b2,nZ b2 n2)::r) else (k,b,n)::(k2,b2,n2)::r
 | st=>st
termination_by st=>st.length
noncomputable def zR:Stk->Prop
 | []=>False
 | (_,b,n)::r=>n<=b.length/\∀ x∈r,x.2.2 < x.2.1.length
noncomputable def Wf:Stk->Option Stm
 | (_,b,n)::_=>b[n]?
 | []=>none
theorem CT{n:Nat}(h:n < b.length):nZ b n<=b.length:=by
 unfold nZ;split
 ·split<;>omega
 ·omega
inductive Dx(C:Addr)(vs:List V)(H:Hp)(Q:VK)(E:XK):Prop
 | mk (wk wx lb ln:Addr) (st:Stk) (_:vs=[.ref wk]) (_:jO C H wk wx lb ln st) (_:zR st) (_:(∀ H',jO C H' wk wx lb ln (bO st)->zR (bO st)->Wf (bO st)=none->Kp [lb,ln] H H'->Q .Wb H')) (_:∀(m:Stm) (v:V) (H':Hp),jO C H' wk wx lb ln (bO st)->zR (bO st)->Wf (bO st)=some m->b7 H' v m->Kp [lb,ln] H H'->Q v H'):Dx C vs H Q E
abbrev Cmds:=List (List V)
variable{cs:Cmds}
inductive hZ(H:Hp):List V->Cmds->Prop
 | nil:hZ H [] []
 | cons {a:Addr} {c:List V} {us:List V} {cs:Cmds}:H a=some (.tup c)->hZ H us cs->hZ H (.ref a::us) (c::cs)
def hZ.kt(h:hZ H us cs)(k:aE H H'):hZ H' us cs:=by
 induction h with
 | nil=>exact .nil
 | cons a _ ih=>exact .cons (k _ _ a) ih
def hZ.len(h:hZ H us cs):us.length=cs.length:=by
 induction h with
 | nil=>rfl
 | cons _ _ ih=>simp[ih]
def hZ.app{vs:List V}{ps qs:Cmds}(h:hZ H us ps)(g:hZ H vs qs):hZ H (us++vs) (ps++qs):=by
 induction h with
 | nil=>exact g
 | cons e _ ih=>exact .cons e ih
def hZ.at(h:hZ H us cs):∀ {i:Nat} {v:V},us[i]?=some v->∃ a c,v=.ref a/\cs[i]?=some c/\H a=some (.tup c):=by
 induction h with
 | nil=>intro i v e;simp at e
 | cons x _ ih =>
  intro i v e;cases i with
  | zero=>simp only[List.getElem?_cons_zero,Option.some.injEq] at e;subst e;exact⟨_,_,rfl,rfl,x⟩
  | succ i=>exact ih (by simpa using e)
inductive Slp where
 | Wb|new|wait (ts:List Int)|Wg (k:Str)|ended (w:Wo)|worn
noncomputable def Slp.isN:Slp->Bool
 | .Wb=>true
 | _=>false
noncomputable def nQ(H:Hp)(v:V):Slp->Prop
 | .Wb=>v=.Wb
 | .new=>∃ p,v=.ref p/\H p=some (.tup [.str "new"])
 | .wait ts=>∃ p p2,v=.ref p/\H p=some (.tup [.str "wait",.ref p2])/\H p2=some (.tup (ts.map V.int))
 | .Wg k=>∃ p,v=.ref p/\H p=some (.tup [.str "hear",.str k])
 | .ended w=>∃ p,v=.ref p/\H p=some (.tup [.str "ended",wv w])
 | .worn=>∃ p,v=.ref p/\H p=some (.tup [.str "worn"])
def nQ.kt{s:Slp}(h:nQ H v s)(k:aE H H'):nQ H' v s:=by
 cases s with
 | Wb=>exact h
 | wait ts=>obtain⟨p,p2,e,a,b⟩:=h;exact⟨p,p2,e,k _ _ a,k _ _ b⟩
 | _=>obtain⟨p,e,a⟩:=h;exact⟨p,e,k _ _ a⟩
def nQ.isN{s:Slp}(h:nQ H v s):(s.isN=true/\v=.Wb)\/(s.isN=false/\∃ p,v=.ref p):=by
 cases s with
 | Wb=>exact .inl ⟨rfl,h⟩
 | wait ts=>obtain⟨p,p2,e,a,b⟩:=h;exact .inr ⟨rfl,p,e⟩
 | _=>obtain⟨p,e,a⟩:=h;exact .inr ⟨rfl,p,e⟩
def fA(l:List (Str×Wo)):List 1e35:=l.map fun p=>(.inr p.1,wv p.2)
noncomputable def b8(l:List (Str×Wo))(n:Str)(w:Wo):List (Str×Wo):=if (l.any fun p=>decide (p.1=n))=true then l.map (fun p=>if p.1=n then (p.1,w) else p) else l++[(n,w)]
theorem fS(l:List (Str×Wo))(n:Str)(w:Wo):aO (fA l) (.inr n) (wv w)=fA (b8 l n w):=by
 have e:((fA l).any fun kv=>decide (kv.1=Key.inr n))=(l.any fun p=>decide (p.1=n)):=by
  simp only[fA,List.any_map,Function.comp_def,Key.inr.injEq]
 unfold aO b8;rw[e];split
 ·simp only[fA,List.map_map,Function.comp_def,Key.inr.injEq];refine List.map_congr_left fun p _=>?_;by_cases h:p.1=n
  ·simp[h]
  ·simp[h]
 ·simp[fA]
theorem Dc(l:List (Str×Wo))(n:Str)(w:Wo):(b8 l n w).length<=l.length+1:=by
 unfold b8;split
 ·rw[List.length_map];omega
 ·simp
noncomputable def sE:List (Str×Wo)->Str->Wo
 | [],_=>none
 | p::r,x=>if p.1=x then p.2 else sE r x
theorem pR:∀(l:List (Str×Wo)) (x:Str),(aX (fA l) (.inr x)).getD .Wb=wv (sE l x)
 | [],x=>rfl
 | p::r,x=>by
  have ih:=pR r x;show(aX ((Key.inr p.1,wv p.2)::fA r) (.inr x)).getD .Wb=_;by_cases h:p.1=x
  ·rw[cE (by rw[h]),sE,if_pos h];rfl
  ·rw[b6 (fun z=>h (Key.inr.inj z)),sE,if_neg h];exact ih
def Ig(l:List (Str×Wo))(n:Str)(w:Wo)(x:Str):sE (b8 l n w) x=if x=n then w else sE l x:=by
 have h1:=pR (b8 l n w) x;rw[<- fS,fO] at h1;by_cases h:x=n
 ·rw[if_pos (by rw[h])] at h1;rw[if_pos h];exact(Fj h1).symm
 ·rw[if_neg (fun z=>h (Key.inr.inj z)),pR] at h1;rw[if_neg h];exact(Fj h1).symm
noncomputable def fG(l:List 1e57):Wo->Wo
 | none=>none
 | some i=>match l with
  | []=>none
  | p::r=>if p.1=i then p.2 else fG r (some i)
theorem pD:∀(l:List 1e57) (w:Wo),(aX (iD l) (wk w)).getD .Wb=wv (fG l w)
 | [],none=>rfl
 | [],some _=>rfl
 | p::r,none=>by
  have ih:=pD r none;show(aX ((Key.inl p.1,wv p.2)::iD r) .no).getD .Wb=_;rw[b6 1e7];rw[show fG (p::r) none=fG r none from by rw[fG,fG]];exact ih
 | p::r,some i=>by
  have ih:=pD r (some i);show(aX ((Key.inl p.1,wv p.2)::iD r) (.inl i)).getD .Wb=_;by_cases h:p.1=i
  ·rw[cE (by rw[h]),fG,if_pos h];rfl
  ·rw[b6 (fun z=>h (Key.inl.inj z)),fG,if_neg h];exact ih
inductive gI(H:Hp):List 1e35->List Addr->List 1e32->Prop
 | nil:gI H [] [] []
 | cons {a:Addr} {k:Str} {ws:List Wo} {kvs:List 1e35} {as:List Addr} {lt:List 1e32}:H a=some 1e38->gI H kvs as lt->gI H ((.inr k,.ref a)::kvs) (a::as) ((k,ws)::lt)
def gI.keep{as:List Addr}(h:gI H kvs as lt)(k:∀ a∈as,∀ o,H a=some o->H' a=some o):gI H' kvs as lt:=by
 induction h with
 | nil=>exact .nil
 | cons e _ ih=>exact .cons (k _ 1e1 _ e) (ih fun a ha=>k a (List.mem_cons_of_mem _ ha))
def gI.ex{as:List Addr}(h:gI H kvs as lt):∀ a∈as,∃ xs,H a=some 1e20:=by
 induction h with
 | nil=>intro a ha;simp at ha
 | cons e _ ih=>intro a ha;rcases List.mem_cons.mp ha with rfl|ha;exact⟨_,e⟩;exact ih a ha
def gI.len{as:List Addr}(h:gI H kvs as lt):kvs.length=lt.length:=by
 induction h with
 | nil=>rfl
 | cons _ _ ih=>simp[ih]
noncomputable def aS:List 1e32->Str->Option (List Wo)
 | [],_=>none
 | p::r,k=>if p.1=k then some p.2 else aS r k
noncomputable def dF:List 1e32->Str->List Wo->List 1e32
 | [],_,_=>[]
 | p::r,k,ws=>if p.1=k then (p.1,ws)::r else p::dF r k ws
def gI.look{as:List Addr}(h:gI H kvs as lt)(k:Str):(aX kvs (.inr k)=none/\aS lt k=none) \/ ∃ a ws,aX kvs (.inr k)=some 1e11/\aS lt k=some ws/\a∈as/\H a=some 1e38:=by
 induction h with
 | nil=>exact .inl ⟨rfl,rfl⟩
 | @cons a j ws kvs as lt e _ ih =>
  by_cases hj:j=k
  ·subst hj;exact .inr ⟨a,ws,cE rfl,by simp[aS],by simp,e⟩
  ·rcases ih with⟨x,y⟩|⟨b,vs,x,y,z,u⟩
   ·exact .inl ⟨by rw[b6 (fun z=>hj (Key.inr.inj z))];exact x,by simp[aS,hj,y]⟩
   ·exact .inr ⟨b,vs,by rw[b6 (fun z=>hj (Key.inr.inj z))];exact x,by simp[aS,hj,y],List.mem_cons_of_mem _ z,u⟩
def gI.set{H:Hp}{kvs:List 1e35}{as:List Addr}{lt:List 1e32}(h:gI H kvs as lt){k:Str}{a:Addr}(r:List Wo)(hk:aX kvs (.inr k)=some 1e11)(nd:as.Nodup):gI (Wa H a (.lst (r.map wv))) kvs as (dF lt k r):=by
 induction h with
 | nil=>cases hk
 | @cons b j ws kvs as lt e hr ih =>
  rw[List.nodup_cons] at nd;by_cases hj:j=k
  ·subst hj;rw[cE rfl] at hk;cases hk;rw[dF,if_pos rfl];exact .cons aA (hr.keep fun c hc o h=>by rw[aD (show c≠a from fun z=>nd.1 (by rw[<- z];exact hc))];exact h)
  ·rw[b6 (fun z=>hj (Key.inr.inj z))] at hk;rw[dF,if_neg hj];have ha:a∈as:=by
    rcases hr.look k with⟨x,_⟩|⟨c,_,x,_,y,_⟩
    ·rw[x] at hk;cases hk
    ·rw[x] at hk;cases hk;exact y
   exact .cons (by rw[aD (show b≠a from fun z=>nd.1 (by rw[z];exact ha))];exact e) (ih hk nd.2)
def gI.snoc{as:List Addr}(h:gI H kvs as lt)(e:H a=some 1e38):gI H (kvs++[(.inr k,.ref a)]) (as++[a]) (lt++[(k,ws)]):=by
 induction h with
 | nil=>exact .cons e .nil
 | cons f _ ih=>exact .cons f ih
set_option genInjectivity false in
structure Pu where
 stk:Stk
 sl:Slp
 ar:Wo
 nw:Int
 nm:List (Str×Wo)
 made:Nat
 pend:List Int
 ans:List 1e57
 lt:List 1e32
variable{S:Pu}
def Pu.pl(S:Pu):Pl:=⟨sE S.nm,S.ar,S.nw,fG S.ans⟩
def Pu.worth(S:Pu)(s:Say):Wo:=ev S.pl s
def Pu.rF(S:Pu)(n:Str):Pu:={S with made:=S.made+1,pend:=S.pend++[(S.made:Int)],nm:=b8 S.nm n 1e55}
def Pu.pass(S:Pu):Pu:={S with stk:=fZ S.stk}
noncomputable def vK(nw:Int):Wo->Int
 | none=>if nw < 1000000000000 then nw else 1000000000000
 | some z=>if nw+(if z > 0 then z else 0) < 1000000000000 then nw+(if z > 0 then z else 0) else 1000000000000
def Pu.ends(S:Pu)(w:Wo):Pu×Cmds:=({S with sl:=.ended w,pend:=[]},[[.str "end",wv w]])
def Pu.mW(S:Pu):Pu×Cmds:=({S with sl:=.worn,pend:=[]},[[.str "worn"]])
def aZ(ans:List 1e57)(ws:List Wo):Wo:=(ans.find? fun p=>decide (some p.1∈ws)).map (·.1)
noncomputable def wG(i:Int):List Int->List Int
 | []=>[i]
 | j::r=>if i < j then i::j::r else if i=j then j::r else j::wG i r
noncomputable def bI(pend:List Int):List Wo->List Int
 | []=>[]
 | none::r=>bI pend r
 | some i::r=>if i∈pend then wG i (bI pend r) else bI pend r
noncomputable def bW(S:Pu):Stm->Pu×Cmds
 | .set x s=>({S with nm:=b8 S.nm x 1e19},[])
 | .order x y s=>(S.rF x,[[.str "order",.int S.made,.str y,wv 1e19]])
 | .child x y s=>(S.rF x,[[.str "child",.int S.made,.str y,wv 1e19]])
 | .Wp x s=>(S.rF x,[[.str "timer",.int S.made,.int (vK S.nw 1e19)]])
 | .send s k r=>(S,[[.str "send",wv 1e19,.str k,wv (S.worth r)]])
 | .drop s=>match S.worth s with
  | some i=>if i∈S.pend then ({S with pend:=S.pend.filter fun j=>decide (j≠i)},[[.str "drop",.int i]]) else (S,[])
  | none=>(S,[])
 | .Wg x k=>match (aS S.lt k).getD [] with
  | w::r=>({S with nm:=b8 S.nm x w,lt:=dF S.lt k r},[])
  | []=>({S with sl:=.Wg k},[])
 | .wait x ss=>if aZ S.ans (ss.map S.worth)=none/\bI S.pend (ss.map S.worth)≠[] then ({S with sl:=.wait (bI S.pend (ss.map S.worth))},[]) else ({S with nm:=b8 S.nm x (aZ S.ans (ss.map S.worth))},[])
 | .fin s=>S.ends 1e19
 | .Wu _ _=>(S,[])
 | .iff _ _ _=>(S,[])
noncomputable def Stm.isB:Stm->Bool
 | .Wu _ _=>true
 | .iff _ _ _=>true
 | _=>false
def Pu.enter(S:Pu)(c:Nat)(b:List Stm):Pu:={S with stk:=(c,b,0)::S.stk}
noncomputable def sD(S:Pu):Stm->Pu
 | .Wu s b=>if num 1e19=0 then S.pass else S.enter 0 b
 | .iff s b o=>if num 1e19=0 then S.enter 1 o else S.enter 0 b
 | _=>S
noncomputable def one(S:Pu)(m:Stm):Pu×Cmds:=if m.isB=true then (sD S m,[]) else (if (bW S m).1.sl.isN=true then (bW S m).1.pass else (bW S m).1,(bW S m).2)
def Pu.bC(S:Pu):Pu:={S with stk:=bO S.stk}
noncomputable def dH:Nat->Pu->Pu×Cmds
 | 0,S=>match Wf S.bC.stk with
  | none=>S.bC.ends none
  | some _=>S.bC.mW
 | n+1,S=>match Wf S.bC.stk with
  | none=>S.bC.ends none
  | some m=>if (one S.bC m).1.sl.isN=true then ((dH n (one S.bC m).1).1,(one S.bC m).2++(dH n (one S.bC m).1).2) else one S.bC m
noncomputable def Pu.wake(S:Pu)(w:Wo):Pu×Cmds:=match Wf S.stk with
 | some (.Wg x _)=>dH 300 {S with nm:=b8 S.nm x w,stk:=fZ S.stk,sl:=.Wb}
 | some (.wait x _)=>dH 300 {S with nm:=b8 S.nm x w,stk:=fZ S.stk,sl:=.Wb}
 | _=>(S,[])
def later(nw m:Int):Int:=if m > nw then m else nw
def Say.sok(s:Say):Prop:=s.ok/\s.depth<=6
mutual
noncomputable def Stm.gd(wt:Bool):Stm->Prop
 | .set _ s=>s.sok
 | .order _ _ s=>s.sok
 | .child _ _ s=>s.sok
 | .Wp _ s=>s.sok
 | .send s _ r=>s.sok/\r.sok
 | .drop s=>s.sok
 | .wait _ ss=>wt=true/\ss.length<=4/\∀ s∈ss,s.sok
 | .Wg _ _=>True
 | .fin s=>s.sok
 | .Wu s b=>s.sok/\BW wt b
 | .iff s b o=>s.sok/\BW wt b/\BW wt o
noncomputable def BW(wt:Bool):List Stm->Prop
 | []=>True
 | m::ms=>m.gd wt/\BW wt ms
end
theorem Kf{wt:Bool}:∀ {b:List Stm} {i:Nat} {m:Stm},BW wt b->b[i]?=some m->m.gd wt
 | [],_,_,_,h=>by simp at h
 | _::_,0,_,g,h=>by simp only[List.getElem?_cons_zero,Option.some.injEq] at h;subst h;simp only[BW] at g;exact g.1
 | _::b,i+1,_,g,h=>by simp only[BW] at g;exact Kf g.2 1e37
theorem vH:∀ {b:List Stm} {i:Nat} {m:Stm},b[i]?=some m->m.dp<=oO b
 | [],_,_,h=>by simp at h
 | _::_,0,_,h=>by simp only[List.getElem?_cons_zero,Option.some.injEq] at h;subst h;simp only[oO];omega
 | _::b,i+1,_,h=>by have:=vH (b:=b) 1e37;simp only[oO];omega
noncomputable def U3:Stk->Prop
 | []=>True
 | (_,b,_)::r=>oO b+r.length<=20/\U3 r
structure yX(wt:Bool)(st:Stk):Prop where
 ok:zR st
 gd:∀ x∈st,BW wt x.2.1
 dp:U3 st
structure Wk(wt:Bool)(S:Pu)(N:Nat):Prop where
 nm:S.nm.length<=N
 md:S.made<=N
 pd:S.pend.length<=N
 an:S.ans.length<=N
 lt:S.lt.length<=N
 lw:∀ k ws,aS S.lt k=some ws->ws.length<=N/\∀ w∈ws,dU w
 pl:S.pl.Ok
 nw:0<=S.nw/\S.nw<=1000000000000
 sk:yX wt S.stk
 sl:(∀ k,S.sl=.Wg k->∃ x,Wf S.stk=some (.Wg x k))/\∀ ts,S.sl=.wait ts->∃ x ss,Wf S.stk=some (.wait x ss)
structure Cl where
 r:Addr
 w:Addr
 t:Addr
set_option genInjectivity false in
structure Rn where
 x:Addr
 dx:Addr
 wk:Addr
 wx:Addr
 lb:Addr
 ln:Addr
 nm:Addr
 tk:Addr
 tx:Addr
 dp:Addr
 da:Addr
 lt:Addr
def Rn.cells(R:Rn):List Addr:=[R.x,R.lb,R.ln,R.nm,R.tk,R.dp,R.da,R.lt]
noncomputable abbrev jQ(c:Addr)(R:Rn)(sl:V)(ar:Wo)(nw:Int):HO:=.ins c R.dx [("walk",.ref R.wk),("sleep",sl),("arg",wv ar),("now",.int nw),("names",.ref R.nm),("tickets",.ref R.tk),("letters",.ref R.lt)]
def jO.keep{wk wx lb ln:Addr}(W:jO C H wk wx lb ln st)(k1:∀ o,H wk=some o->H' wk=some o)(k2:∀ o,H lb=some o->H' lb=some o)(k3:∀ o,H ln=some o->H' ln=some o)(kt:aE H H'):jO C H' wk wx lb ln st:=by
 obtain⟨vs,e,h⟩:=W.bl;exact⟨k1 _ W.ins,⟨vs,k2 _ e,h.kp kt⟩,k3 _ W.nu,W.ne,W.XA⟩
def iM.keep{tk tx dp da:Addr}{made:Nat}(T:iM C H tk tx dp da made pend ans)(k1:∀ o,H tk=some o->H' tk=some o)(k2:∀ o,H dp=some o->H' dp=some o)(k3:∀ o,H da=some o->H' da=some o):iM C H' tk tx dp da made pend ans :=
 ⟨k1 _ T.ins,k2 _ T.hp,k3 _ T.ha,T.nda,T.lt,T.asc,T.la,T.dis,T.small⟩
structure bA(C:Cl)(H:Hp)(R:Rn)(as:List Addr)(sl:V)(S:Pu):Prop where
 ins:H R.x=some (.ins C.r R.dx [("walk",.ref R.wk),("sleep",sl),("arg",wv S.ar),("now",.int S.nw),("names",.ref R.nm),("tickets",.ref R.tk),("letters",.ref R.lt)])
 slp:nQ H sl S.sl
 wk:jO C.w H R.wk R.wx R.lb R.ln S.stk
 tk:iM C.t H R.tk R.tx R.dp R.da S.made S.pend S.ans
 nm:H R.nm=some (.dK (fA S.nm))
 lt:∃ kvs,H R.lt=some 1e17/\gI H kvs as S.lt
 nas:as.Nodup
 ab:∀ a∈as,a≠R.lb/\a≠R.ln
 xw:R.x≠R.wk
 xt:R.x≠R.tk
 wt:R.wk≠R.tk
 n1:R.nm≠R.dp
 n2:R.nm≠R.da
 n3:R.nm≠R.lt
 n4:R.lt≠R.dp
 n5:R.lt≠R.da
def cL{p b:Addr}{u v:HO}(e:H p=some o)(h:H b=some v)(d:v≠o:=by intro z;cases z):Wa H p u b=some v:=by
 rw[aD (cP h e d)];exact h
def aE.cI{p:Addr}{u:HO}(e:H p=some o)(d:∀ xs,o≠.tup xs:=by intro _ z;cases z):aE H (Wa H p u):=fun a xs h=>cL e h (d xs).symm
section
variable{C:Cl}{R:Rn}{as WC:List Addr}{sl:V}
def bA.keep(A:bA C H R as sl S)(k:∀ b o,H b=some o->b=R.wk\/b∈R.cells\/b∈as->H' b=some o)(kt:aE H H'):bA C H' R as sl S:=by
 obtain⟨kvs,e,L⟩:=A.lt;have c:∀ {b:Addr} {o:HO},b∈R.cells->H b=some o->H' b=some o:=fun {b o} h e=>k b o e (.inr (.inl h));exact {A with
  ins:=c 1e16 A.ins
  slp:=A.slp.kt kt
  wk:=A.wk.keep (fun o h=>k _ o h 1e23) (fun o h=>c 1e16 h) (fun o h=>c 1e16 h) kt
  tk:=A.tk.keep (fun o h=>c 1e16 h) (fun o h=>c 1e16 h) (fun o h=>c 1e16 h)
  nm:=c 1e16 A.nm
  lt:=⟨kvs,c 1e16 e,L.keep fun a ha o h=>k a o h (.inr (.inr ha))⟩}
def bA.kp(A:bA C H R as sl S)(k:Kp [] H H'):bA C H' R as sl S:=A.keep (fun _ _ h _=>k.at h) (aE.nil k)
def bA.cellK(A:bA C H R as sl S){b:Addr}(h:b∈R.cells\/b∈as):∃ o,H b=some o/\∀ xs,o≠.tup xs:=by
 obtain⟨kvs,e,L⟩:=A.lt;obtain⟨vs,el,_⟩:=A.wk.bl;rcases h with h|h
 ·simp only[Rn.cells,List.mem_cons,List.not_mem_nil,or_false] at h;rcases h with rfl|rfl|rfl|rfl|rfl|rfl|rfl|rfl
  ·exact⟨_,A.ins,fun _ z=>by cases z⟩
  ·exact⟨_,el,fun _ z=>by cases z⟩
  ·exact⟨_,A.wk.nu,fun _ z=>by cases z⟩
  ·exact⟨_,A.nm,fun _ z=>by cases z⟩
  ·exact⟨_,A.tk.ins,fun _ z=>by cases z⟩
  ·exact⟨_,A.tk.hp,fun _ z=>by cases z⟩
  ·exact⟨_,A.tk.ha,fun _ z=>by cases z⟩
  ·exact⟨_,e,fun _ z=>by cases z⟩
 ·obtain⟨xs,ex⟩:=L.ex b h;exact⟨_,ex,fun _ z=>by cases z⟩
structure Fw(R:Rn)(as WC:List Addr)(H H':Hp):Prop where
 kp:∀ b o,H b=some o->b∉R.cells->b∉as->H' b=some o
 dom:∀ b o,H b=some o->∃ o',H' b=some o'
 new:∀ a∈WC,a∈as\/H a=none
def Fw.refl:Fw R as as H H:=⟨fun _ _ h _ _=>h,fun _ o h=>⟨o,h⟩,fun _ h=>.inl h⟩
def Fw.free(F:Fw R as WC H H'){c:Addr}(h:H' c=none):H c=none:=by
 cases z:H c with
 | none=>rfl
 | some o=>obtain⟨o',z'⟩:=F.dom c o z;rw[h] at z';cases z'
def Fw.trans{aaV:List Addr}{H'':Hp}(a:Fw R as WC H H')(b:Fw R WC aaV H' H''):Fw R as aaV H H'' :=
  ⟨fun c o h n m=>b.kp c o (a.kp c o h n m) n (fun z=>by
      rcases a.new c z with y|y
      · exact m y
      · rw[h] at y;cases y),fun c o h=>(by obtain⟨o',h'⟩:=a.dom c o h;exact b.dom c o' h'),fun c h=>by
    rcases b.new c h with y|y
    · exact a.new c y
    · exact .inr (a.free y)⟩
def Fw.of(k:Kp [] H H'):Fw R as as H H':=⟨fun b o h _ _=>k.at h,fun b o h=>⟨o,k.at h⟩,fun _ h=>.inl h⟩
def Fw.set{p:Addr}{o:HO}(h:p∈R.cells\/p∈as):Fw R as as H (Wa H p o) :=
 ⟨fun b u e n m=>by rw[aD (fun z=>by rcases h with h|h;exact n (by rw[z];exact h);exact m (by rw[z];exact h))];exact e,fun b u e=>by by_cases z:b=p;exact⟨o,by rw[z,aA]⟩;exact⟨u,by rw[aD z];exact e⟩,fun _ h=>.inl h⟩
def Fw.ofD(k:Kp D H H')(h:∀ b∈D,b∈R.cells/\∃ o,H' b=some o):Fw R as as H H' :=
 ⟨fun b o e n _=>k b o e fun z=>n (h b z).1,fun b o e=>by by_cases z:b∈D;exact(h b z).2;exact⟨o,k b o e z⟩,fun _ h=>.inl h⟩
def Fw.fresh{c:Addr}(F:Fw R as WC H H')(h:H c=none):Fw R as WC H (Wa H' c o) :=
 ⟨fun b u e n m=>by rw[aD (aF e h)];exact F.kp b u e n m,fun b u e=>by rw[aD (aF e h)];exact F.dom b u e,F.new⟩
def bA.tkp(A:bA C H R as sl S)(F:Fw R as WC H H'):aE H H':=fun b xs h=>F.kp b _ h (fun z=>by
    obtain⟨o,e,d⟩:=A.cellK (.inl z);rw[h] at e;exact d xs (Option.some.inj e).symm) fun z=>by
    obtain⟨o,e,d⟩:=A.cellK (.inr z);rw[h] at e;exact d xs (Option.some.inj e).symm
def bA.gT(A:bA C H R as sl S){c:Addr}(h:H c=none):c∉R.cells/\c∉as:=by
 refine⟨fun z=>?_,fun z=>?_⟩
 ·obtain⟨o,e,d⟩:=A.cellK (.inl z);rw[h] at e;cases e
 ·obtain⟨o,e,d⟩:=A.cellK (.inr z);rw[h] at e;cases e
def bA.attr(A:bA C H R as sl S)(WA:V)(s':Slp)(ar':Wo)(nw':Int)(h:nQ H WA s'):bA C (Wa H R.x (.ins C.r R.dx [("walk",.ref R.wk),("sleep",WA),("arg",wv ar'),("now",.int nw'),("names",.ref R.nm),("tickets",.ref R.tk),("letters",.ref R.lt)])) R as WA {S with sl:=s',ar:=ar',nw:=nw'}:=by
 obtain⟨kvs,e,L⟩:=A.lt;obtain⟨vs,el,_⟩:=A.wk.bl;have kt:aE H (Wa H R.x (.ins C.r R.dx [("walk",.ref R.wk),("sleep",WA),("arg",wv ar'),("now",.int nw'),("names",.ref R.nm),("tickets",.ref R.tk),("letters",.ref R.lt)])):=aE.cI A.ins;exact {A with
  ins:=aA
  slp:=h.kt kt
  wk:=A.wk.keep (fun o h=>by rw[aD A.xw.symm];exact h) (fun o h=>by rw[el] at h;cases h;exact cL A.ins el) (fun o h=>by rw[A.wk.nu] at h;cases h;exact cL A.ins A.wk.nu) kt
  tk:=A.tk.keep (fun o h=>by rw[aD A.xt.symm];exact h) (fun o h=>by rw[A.tk.hp] at h;cases h;exact cL A.ins A.tk.hp) (fun o h=>by rw[A.tk.ha] at h;cases h;exact cL A.ins A.tk.ha)
  nm:=cL A.ins A.nm
  lt:=⟨kvs,cL A.ins e,L.keep fun a ha o h=>by obtain⟨xs,ex⟩:=L.ex a ha;rw[ex] at h;cases h;exact cL A.ins ex⟩}
def bA.walk(A:bA C H R as sl S)(W:jO C.w H' R.wk R.wx R.lb R.ln st)(k:Kp [R.lb,R.ln] H H'):bA C H' R as sl {S with stk:=st}:=by
 obtain⟨kvs,e,L⟩:=A.lt;obtain⟨vs,el,_⟩:=A.wk.bl;have at':∀ {b:Addr} {o:HO},H b=some o->(∀ xs,o≠.lst xs)->H' b=some o:=fun {b o} h d=>k b o h (by
  simp only[List.mem_cons,List.not_mem_nil,or_false,not_or];exact⟨cP h el (d _),cP h A.wk.nu (d _)⟩)
 have kt:aE H H':=fun b xs h=>at' h 1e3;exact {A with
  ins:=at' A.ins 1e3
  slp:=A.slp.kt kt
  wk:=W
  tk:=⟨at' A.tk.ins 1e3,at' A.tk.hp 1e3,at' A.tk.ha 1e3,A.tk.nda,A.tk.lt,A.tk.asc,A.tk.la,A.tk.dis,A.tk.small⟩
  nm:=at' A.nm 1e3
  lt:=⟨kvs,at' e 1e3,L.keep fun a ha o h=>k a o h (by
   simp only[List.mem_cons,List.not_mem_nil,or_false,not_or];exact A.ab a ha)⟩}
def bA.vZ(_:bA C H R as sl S)(W:jO C.w H' R.wk R.wx R.lb R.ln st)(k:Kp [R.lb,R.ln] H H'):Fw R as as H H':=Fw.ofD k fun b hb=>by
 obtain⟨vs,el,_⟩:=W.bl;simp only[List.mem_cons,List.not_mem_nil,or_false] at hb;rcases hb with rfl|rfl
 ·exact⟨by simp[Rn.cells],_,el⟩
 ·exact⟨by simp[Rn.cells],_,W.nu⟩
def bA.tick(A:bA C H R as sl S){md:Nat}(T:iM C.t H' R.tk R.tx R.dp R.da md pd an)(k:Kp [R.tk,R.dp,R.da] H H'):bA C H' R as sl {S with made:=md,pend:=pd,ans:=an}:=by
 obtain⟨kvs,e,L⟩:=A.lt;obtain⟨vs,el,_⟩:=A.wk.bl;have at':∀ {b:Addr} {o:HO},H b=some o->(∀ xs,o≠.dK xs)->(∀ C d f,o≠.ins C d f)->H' b=some o:=fun {b o} h d d2=>k b o h (by
  simp only[List.mem_cons,List.not_mem_nil,or_false,not_or];exact⟨cP h A.tk.ins (d2 _ _ _),cP h A.tk.hp (d _),cP h A.tk.ha (d _)⟩)
 have fI:∀ {b:Addr} {o:HO},H b=some o->(∀ xs,o≠.dK xs)->b≠R.tk->H' b=some o:=fun {b o} h d d2=>k b o h (by
  simp only[List.mem_cons,List.not_mem_nil,or_false,not_or];exact⟨d2,cP h A.tk.hp (d _),cP h A.tk.ha (d _)⟩)
 have atD:∀ {b:Addr} {o:HO},H b=some o->(∀ C d f,o≠.ins C d f)->b≠R.dp->b≠R.da->H' b=some o:=fun {b o} h d d2 d3=>k b o h (by
  simp only[List.mem_cons,List.not_mem_nil,or_false,not_or];exact⟨cP h A.tk.ins (d _ _ _),d2,d3⟩)
 have kt:aE H H':=fun b xs h=>at' h 1e3 (by intro _ _ _ z;cases z);exact {A with
  ins:=fI A.ins 1e3 A.xt
  slp:=A.slp.kt kt
  wk:=A.wk.keep (fun o h=>by rw[A.wk.ins] at h;cases h;exact fI A.wk.ins 1e3 A.wt) (fun o h=>by rw[el] at h;cases h;exact at' el 1e3 (by intro _ _ _ z;cases z)) (fun o h=>by rw[A.wk.nu] at h;cases h;exact at' A.wk.nu 1e3 (by intro _ _ _ z;cases z)) kt
  tk:=T
  nm:=atD A.nm (by intro _ _ _ z;cases z) A.n1 A.n2
  lt:=⟨kvs,atD e (by intro _ _ _ z;cases z) A.n4 A.n5,L.keep fun a ha o h=>by obtain⟨xs,ex⟩:=L.ex a ha;rw[ex] at h;cases h;exact at' ex 1e3 (by intro _ _ _ z;cases z)⟩}
def bA.Cu(_:bA C H R as sl S){md:Nat}(T:iM C.t H' R.tk R.tx R.dp R.da md pd an)(k:Kp [R.tk,R.dp,R.da] H H'):Fw R as as H H':=Fw.ofD k fun b hb=>by
 simp only[List.mem_cons,List.not_mem_nil,or_false] at hb;rcases hb with rfl|rfl|rfl
 ·exact⟨by simp[Rn.cells],_,T.ins⟩
 ·exact⟨by simp[Rn.cells],_,T.hp⟩
 ·exact⟨by simp[Rn.cells],_,T.ha⟩
def bA.name(A:bA C H R as sl S)(n:Str)(w:Wo):bA C (Wa H R.nm (.dK (fA (b8 S.nm n w)))) R as sl {S with nm:=b8 S.nm n w}:=by
 obtain⟨kvs,e,L⟩:=A.lt;obtain⟨vs,el,_⟩:=A.wk.bl;have at':∀ {b:Addr} {o:HO},H b=some o->(∀ xs,o≠.dK xs)->Wa H R.nm (.dK (fA (b8 S.nm n w))) b=some o:=fun {b o} h d=>cL A.nm h (d _);have kt:aE H _:=fun b xs h=>at' h 1e3;exact {A with
  ins:=at' A.ins 1e3
  slp:=A.slp.kt kt
  wk:=A.wk.keep (fun o h=>by rw[A.wk.ins] at h;cases h;exact at' A.wk.ins 1e3) (fun o h=>by rw[el] at h;cases h;exact at' el 1e3) (fun o h=>by rw[A.wk.nu] at h;cases h;exact at' A.wk.nu 1e3) kt
  tk:=A.tk.keep (fun o h=>by rw[A.tk.ins] at h;cases h;exact at' A.tk.ins 1e3) (fun o h=>by rw[aD A.n1.symm];exact h) (fun o h=>by rw[aD A.n2.symm];exact h)
  nm:=aA
  lt:=⟨kvs,by rw[aD A.n3.symm];exact e,L.keep fun a ha o h=>by obtain⟨xs,ex⟩:=L.ex a ha;rw[ex] at h;cases h;exact at' ex 1e3⟩}
def bA.wR(A:bA C H R as sl S)(e:H R.lt=some 1e17)(hk:aX kvs (.inr k)=some (.ref l))(r:List Wo):bA C (Wa H l (.lst (r.map wv))) R as sl {S with lt:=dF S.lt k r}/\l∈as:=by
 obtain⟨abV,e',L⟩:=A.lt;rw[e] at e';cases e';obtain⟨vs,el,_⟩:=A.wk.bl;obtain⟨ws,hl,Zo⟩:∃ ws:List Wo,H l=some 1e38/\l∈as:=by
  rcases L.look k with⟨x,_⟩|⟨c,ws,x,_,y,z⟩
  ·rw[x] at hk;cases hk
  ·rw[x] at hk;cases hk;exact⟨ws,z,y⟩
 have at':∀ {b:Addr} {o:HO},H b=some o->(∀ xs,o≠.lst xs)->Wa H l (.lst (r.map wv)) b=some o:=fun {b o} h d=>cL hl h (d _);have kt:aE H _:=fun b xs h=>at' h 1e3;have nb:=A.ab l Zo;refine⟨{A with
  ins:=at' A.ins 1e3
  slp:=A.slp.kt kt
  wk:=A.wk.keep (fun o h=>by rw[A.wk.ins] at h;cases h;exact at' A.wk.ins 1e3) (fun o h=>by rw[aD nb.1.symm];exact h) (fun o h=>by rw[aD nb.2.symm];exact h) kt
  tk:=A.tk.keep (fun o h=>by rw[A.tk.ins] at h;cases h;exact at' A.tk.ins 1e3) (fun o h=>by rw[A.tk.hp] at h;cases h;exact at' A.tk.hp 1e3) (fun o h=>by rw[A.tk.ha] at h;cases h;exact at' A.tk.ha 1e3)
  nm:=at' A.nm 1e3
  lt:=⟨kvs,at' e 1e3,L.set r hk A.nas⟩},Zo⟩
def bA.Nz(A:bA C H R as sl S)(e:H R.lt=some 1e17)(hk:aX kvs (.inr k)=none)(hl:H l=some 1e38)(n1:l∉R.cells)(n2:l∉as):bA C (Wa H R.lt (.dK (aO kvs (.inr k) (.ref l)))) R (as++[l]) sl {S with lt:=S.lt++[(k,ws)]}:=by
 obtain⟨abV,e',L⟩:=A.lt;rw[e] at e';cases e';obtain⟨vs,el,_⟩:=A.wk.bl;have at':∀ {b:Addr} {o:HO},H b=some o->(∀ xs,o≠.dK xs)->Wa H R.lt (.dK (aO kvs (.inr k) (.ref l))) b=some o:=fun {b o} h d=>cL e h (d _);have kt:aE H _:=fun b xs h=>at' h 1e3;exact {A with
  ins:=at' A.ins 1e3
  slp:=A.slp.kt kt
  wk:=A.wk.keep (fun o h=>by rw[A.wk.ins] at h;cases h;exact at' A.wk.ins 1e3) (fun o h=>by rw[el] at h;cases h;exact at' el 1e3) (fun o h=>by rw[A.wk.nu] at h;cases h;exact at' A.wk.nu 1e3) kt
  tk:=A.tk.keep (fun o h=>by rw[A.tk.ins] at h;cases h;exact at' A.tk.ins 1e3) (fun o h=>by rw[aD A.n4.symm];exact h) (fun o h=>by rw[aD A.n5.symm];exact h)
  nm:=by rw[aD A.n3];exact A.nm
  lt:=⟨_,aA,by
   rw[xQ _ hk];exact(L.keep fun a ha o h=>by obtain⟨xs,ex⟩:=L.ex a ha;rw[ex] at h;cases h;exact cL e ex).snoc (cL e hl)⟩
  nas:=List.nodup_append.mpr ⟨A.nas,by simp,fun a ha b hb=>by rw[show b=l by simpa using hb];exact fun z=>n2 (by rw[<- z];exact ha)⟩
  ab:=fun a ha=>by
   rcases List.mem_append.mp ha with ha|ha
   ·exact A.ab a ha
   ·rw[show a=l by simpa using ha];exact⟨fun z=>n1 (by simp[Rn.cells,z]),fun z=>n1 (by simp[Rn.cells,z])⟩}
def bA.other(A:bA C H R as sl S){c:Addr}{vs:List V}(hc:H c=some (.lst us))(n1:c∉R.cells)(n2:c∉as):bA C (Wa H c (.lst vs)) R as sl S :=
 A.keep (fun b o h m=>by
  rw[aD (fun z=>by
   rcases m with m|m|m
   ·rw[z] at m;rw[m,A.wk.ins] at hc;cases hc
   ·exact n1 (by rw[<- z];exact m)
   ·exact n2 (by rw[<- z];exact m))]
  exact h) (aE.cI hc)
end
def put2{x p:Addr}{o' u:HO}(hx:H x=some u)(hp:H p=none):Wa (Wa H p o) x o' x=some o'/\Wa (Wa H p o) x o' p=some o/\Kp [x] H (Wa (Wa H p o) x o')/\x≠p:=by
 have n:x≠p:=aF hx hp;exact⟨aA,by rw[aD n.symm];exact aA,(Kp.new hp).trans (Kp.set 1e1),n⟩
def cR{p:Addr}(h:Wa H a o p=none):H p=none:=by
 by_cases e:p=a
 ·subst e;rw[aA] at h;cases h
 ·rwa [aD e] at h
noncomputable def Told(C:Cl)(R:Rn)(as WC:List Addr)(H:Hp)(Q:VK)(z:Pu×Cmds):Prop:=∀(sl:V) (c:Addr) (us:List V) (H':Hp),bA C H' R WC sl z.1->H c=none->H' c=some (.lst us)->hZ H' us z.2->Fw R as WC H H'->Q (.ref c) H'
inductive Dy(C:Cl)(vs:List V)(H:Hp)(Q:VK)(E:XK):Prop
 | mk (R:Rn) (as:List Addr) (sl:V) (S:Pu) (v:V) (s:Say) (_:vs=[.ref R.x,v]) (_:bA C H R as sl S) (_:S.pl.Ok) (_:cZ H v s) (_:s.sok) (_:Q (wv 1e19) H):Dy C vs H Q E
inductive LQ(C:Cl)(vs:List V)(H:Hp)(Q:VK)(E:XK):Prop
 | mk (R:Rn) (as:List Addr) (sl:V) (S:Pu) (n:Str) (_:vs=[.ref R.x,.str n]) (_:bA C H R as sl S) (_:S.made < 1000000) (_:S.pend.length < 1000000) (_:S.nm.length<=1000000) (_:∀ H',bA C H' R as sl (S.rF n)->Fw R as as H H'->Q (.int S.made) H'):LQ C vs H Q E
inductive LN(C:Cl)(vs:List V)(H:Hp)(Q:VK)(E:XK):Prop
 | mk (R:Rn) (as:List Addr) (sl:V) (S:Pu) (w:Wo) (_:vs=[.ref R.x,wv w]) (_:bA C H R as sl S) (_:Told C R as as H Q (S.ends w)):LN C vs H Q E
inductive LY(C:Cl)(vs:List V)(H:Hp)(Q:VK)(E:XK):Prop
 | mk (R:Rn) (as:List Addr) (sl:V) (S:Pu) (_:vs=[.ref R.x]) (_:bA C H R as sl S) (_:Told C R as as H Q S.mW):LY C vs H Q E
inductive dD(C:Cl)(wt:Bool)(g:Stm->Prop)(vs:List V)(H:Hp)(Q:VK)(E:XK):Prop
 | mk (R:Rn) (as:List Addr) (sl:V) (S:Pu) (a:V) (m:Stm) (N:Nat) (_:vs=[.ref R.x,a]) (_:bA C H R as sl S) (_:S.sl=.Wb) (_:b7 H a m) (_:g m) (_:Wk wt S N) (_:m.gd wt) (_:N<=900000) (_:Told C R as as H Q (bW S m)):dD C wt g vs H Q E
inductive GO(C:Cl)(wt:Bool)(vs:List V)(H:Hp)(Q:VK)(E:XK):Prop
 | mk (R:Rn) (as:List Addr) (sl:V) (S:Pu) (a:V) (m:Stm) (N:Nat) (_:vs=[.ref R.x,a]) (_:bA C H R as sl S) (_:b7 H a m) (_:m.isB=true) (_:Wk wt S N) (_:m.gd wt) (_:Wf S.stk=some m) (_:∀ H',bA C H' R as sl (sD S m)->Fw R as as H H'->Q .Wb H'):GO C wt vs H Q E
inductive LR(C:Cl)(wt:Bool)(vs:List V)(H:Hp)(Q:VK)(E:XK):Prop
 | mk (R:Rn) (as:List Addr) (sl:V) (S:Pu) (a:V) (m:Stm) (N:Nat) (_:vs=[.ref R.x,a]) (_:bA C H R as sl S) (_:S.sl=.Wb) (_:b7 H a m) (_:Wk wt S N) (_:m.gd wt) (_:Wf S.stk=some m) (_:N<=900000) (_:Told C R as as H Q (one S m)):LR C wt vs H Q E
inductive OW(C:Cl)(wt:Bool)(vs:List V)(H:Hp)(Q:VK)(E:XK):Prop
 | mk (R:Rn) (as:List Addr) (sl:V) (S:Pu) (N:Nat) (_:vs=[.ref R.x]) (_:bA C H R as sl S) (_:Wk wt {S with sl:=.Wb} N) (_:N<=800000) (_:Told C R as as H Q (dH 300 {S with sl:=.Wb})):OW C wt vs H Q E
inductive Dw(C:Cl)(vs:List V)(H:Hp)(Q:VK)(E:XK):Prop
 | mk (R:Rn) (as:List Addr) (sl:V) (S:Pu) (_:vs=[.ref R.x]) (_:bA C H R as sl S) (_:Q sl H):Dw C vs H Q E
inductive GP(C:Cl)(vs:List V)(H:Hp)(Q:VK)(E:XK):Prop
 | mk (R:Rn) (as:List Addr) (sl:V) (S:Pu) (_:vs=[.ref R.x]) (_:bA C H R as sl S) (_:S.pend.length<=1000000) (_:∀ l,H l=none->Q (.ref l) (Wa H l (.lst (S.pend.map V.int)))):GP C vs H Q E
def OL(F:Wk wt S N)(h:s.sok):dU 1e19:=FO F.pl h.1
def Ny{y:Str}{a:Sp}{r:List (Str×Sp)}:List.lookup y ((y,a)::r)=some a:=by simp only[List.lookup,beq_self_eq_true]
theorem lU{a b:String}{s:Sp}{r:List (Str×Sp)}(h:a≠b:=by decide):List.lookup (Str.ofString a) ((Str.ofString b,s)::r)=List.lookup (Str.ofString a) r:=by
 have:((Str.ofString a:Str)==Str.ofString b)=false:=beq_eq_false_iff_ne.mpr fun z=>h (by rwa [cH] at z);simp only[List.lookup,this]
def Mf{y:Str}{a sp:Sp}{r:List (Str×Sp)}(h:List.lookup y ((k,a)::r)=some sp):(y=k/\sp=a)\/List.lookup y r=some sp:=by
 simp only[List.lookup] at h;split at h
 ·next z=>cases h;exact .inl ⟨eq_of_beq z,rfl⟩
 ·exact .inr h
def gA{m:Stm}(h:Wf st=some m):∃ k b n r,st=(k,b,n)::r/\b[n]?=some m:=by
 match st,h with
 | (k,b,n)::r,h=>exact⟨k,b,n,r,rfl,h⟩
def l7(S:Pu)(m:Stm):(bW S m).1.stk=S.stk:=by
 cases m<;>simp only[bW,Pu.rF,Pu.ends]
 ·split
  ·split<;>rfl
  ·rfl
 ·split<;>rfl
 ·split<;>rfl
theorem Cf{wt:Bool}:∀ st,yX wt st->yX wt (bO st)
 | [],h=>h.ok.elim
 | [x],h=>by simp only[bO];exact h
 | (k,b,n)::(k2,b2,n2)::r,h=>by
  rw[bO];split
  ·have o:=h.ok.2 (k2,b2,n2) 1e1;exact Cf ((k2,b2,nZ b2 n2)::r) ⟨⟨CT o,fun x hx=>h.ok.2 x (List.mem_cons_of_mem _ hx)⟩,fun x hx=>by
    rcases List.mem_cons.mp hx with rfl|hx
    ·exact h.gd (k2,b2,n2) 1e1
    ·exact h.gd x (by simp[hx]),⟨h.dp.2.1,h.dp.2.2⟩⟩
  ·exact h
termination_by st=>st.length
def Wk.bC(F:Wk wt S N)(h:S.sl=.Wb):Wk wt S.bC N :=
 {F with sk:=Cf _ F.sk,sl:=⟨fun k e=>(by rw[show S.bC.sl=S.sl from rfl,h] at e;cases e),fun k e=>(by rw[show S.bC.sl=S.sl from rfl,h] at e;cases e)⟩}
def Wk.more{M:Nat}(F:Wk wt S N)(h:N<=M):Wk wt S M :=
 {F with nm:=Nat.le_trans F.nm h,md:=Nat.le_trans F.md h,pd:=Nat.le_trans F.pd h,an:=Nat.le_trans F.an h,lt:=Nat.le_trans F.lt h,lw:=fun k ws e=>⟨Nat.le_trans (F.lw k ws e).1 h,(F.lw k ws e).2⟩}
def yX.pass{m:Stm}(G:yX wt st)(h:Wf st=some m):yX wt (fZ st):=by
 obtain⟨k,b,n,r,rfl,hm⟩:=gA h;have hn:=(List.getElem?_eq_some_iff.mp hm).1;exact⟨⟨hn,G.ok.2⟩,fun x hx=>by
  rcases List.mem_cons.mp hx with rfl|hx
  ·exact G.gd (k,b,n) 1e1
  ·exact G.gd x (by simp[hx]),G.dp⟩
theorem yX.enter{m:Stm}{c:Nat}(G:yX wt st)(h:Wf st=some m)(hg:BW wt bb)(hd:oO bb+1<=m.dp):yX wt ((c,bb,0)::st):=by
 obtain⟨k,b,n,r,rfl,hm⟩:=gA h;have hn:=(List.getElem?_eq_some_iff.mp hm).1;have h2:=vH hm;have h3:=G.dp.1;refine⟨⟨Nat.zero_le _,fun x hx=>?_⟩,fun x hx=>?_,?_,G.dp⟩
 ·rcases List.mem_cons.mp hx with rfl|hx
  ·exact hn
  ·exact G.ok.2 x hx
 ·rcases List.mem_cons.mp hx with rfl|hx
  ·exact hg
  ·exact G.gd x hx
 ·simp only[List.length_cons];omega
def Wk.stm(F:Wk wt S N){m:Stm}(h:Wf S.stk=some m):m.gd wt:=by
 obtain⟨k,b,n,r,e,hm⟩:=gA h;exact Kf (F.sk.gd (k,b,n) (by rw[e];simp)) hm
def Lc(h:S.pl.Ok)(n:Str){w:Wo}(hw:dU w):({S with nm:=b8 S.nm n w}:Pu).pl.Ok :=
 ⟨fun x=>by show dU (sE (b8 S.nm n w) x);rw[Ig];split;exact hw;exact h.nm x,h.ar,h.an⟩
theorem rD:∀(l:List 1e32) (k:Str) (r:List Wo) (j:Str) (ws:List Wo),aS (dF l k r) j=some ws->(j=k/\ws=r)\/aS l j=some ws
 | [],_,_,_,_,h=>by simp[dF,aS] at h
 | p::l,k,r,j,ws,h=>by
  by_cases e:p.1=k
  ·rw[dF,if_pos e,aS] at h;by_cases e2:p.1=j
   ·rw[if_pos e2] at h;cases h;exact .inl ⟨by rw[<- e2,e],rfl⟩
   ·rw[if_neg e2] at h;exact .inr (by rw[aS,if_neg e2];exact h)
  ·rw[dF,if_neg e,aS] at h;by_cases e2:p.1=j
   ·rw[if_pos e2] at h;exact .inr (by rw[aS,if_pos e2];exact h)
   ·rw[if_neg e2] at h;rcases rD l k r j ws h with x|x
    ·exact .inl x
    ·exact .inr (by rw[aS,if_neg e2];exact x)
theorem mS:∀(l:List 1e32) (k:Str) (r:List Wo),(dF l k r).length=l.length
 | [],_,_=>rfl
 | p::l,k,r=>by
  rw[dF];split
  ·rfl
  ·simp[mS l k r]
theorem Bc(h:∀ w∈ws,dU w):dU (aZ ans ws):=by
 unfold aZ;cases e:ans.find? fun p=>decide (some p.1∈ws) with
 | none=>exact kD
 | some p =>
  have:=List.find?_some e;exact h _ (by simpa using this)
def Aa{α:Type}{p:α->Bool}{l:List α}:(l.filter p).length<=l.length:=List.length_filter_le p l
theorem Wk.bW(F:Wk wt S N){m:Stm}(h:Wf S.stk=some m)(hs:S.sl=.Wb)(hN:N<=900000):Wk wt (bW S m).1 (N+1):=by
 have g:=F.stm h;have F1:=F.more (Nat.le_succ N);have Ws:(∀ k,S.sl=.Wg k->∃ x,Wf S.stk=some (.Wg x k))/\∀ ts,S.sl=.wait ts->∃ x ss,Wf S.stk=some (.wait x ss):=F.sl;have put:∀(n:Str) {w:Wo},dU w->Wk wt {S with nm:=b8 S.nm n w} (N+1):=fun n w hw =>
  {F1 with nm:=by (have:=Dc S.nm n w;have:=F.nm;show(b8 S.nm n w).length<=N+1;omega),pl:=Lc F.pl n hw}
 have rF:∀ n,Wk wt (S.rF n) (N+1):=fun n =>
  have hw:dU 1e55:=eU 1e0 (by have:=F.md;omega)
  {F1 with
   nm:=(put n hw).nm
   pl:=(put n hw).pl
   md:=(by have:=F.md;show S.made+1<=N+1;omega)
   pd:=(by have:=F.pd;show(S.pend++[(S.made:Int)]).length<=N+1;rw[List.length_append];simp;exact this)}
 cases m with
 | set x s=>exact put x (OL F g)
 | order x y s=>exact rF x
 | child x y s=>exact rF x
 | Wp x s=>exact rF x
 | send s k r=>exact F1
 | drop s =>
  simp only[Own.bW];split
  ·split
   ·exact {F1 with pd:=Nat.le_trans Aa (Nat.le_succ_of_le F.pd)}
   ·exact F1
  ·exact F1
 | wait x ss =>
  simp only[Own.bW];split
  ·exact {F1 with sl:=⟨fun k e=>(by cases e),fun ts e=>⟨x,ss,h⟩⟩}
  ·exact put x (Bc fun w hw=>by
    obtain⟨s,X4,rfl⟩:=List.mem_map.mp hw;exact OL F (g.2.2 s X4))
 | Wg x k =>
  simp only[Own.bW];split
  ·next w r e =>
   obtain⟨ws,el,rfl⟩:∃ ws,aS S.lt k=some ws/\ws=w::r:=by
    cases el:aS S.lt k with
    | none=>rw[el] at e;cases e
    | some ws=>rw[el] at e;exact⟨ws,rfl,e⟩
   have hl:=F.lw k _ el;exact {put x (hl.2 w 1e1) with
    lt:=(by have:=F.lt;show(dF S.lt k r).length<=N+1;rw[mS];omega)
    lw:=fun j vs hj=>by
     rcases rD S.lt k r j vs hj with⟨_,rfl⟩|z
     ·exact⟨by have:=hl.1;simp only[List.length_cons] at this;omega,fun w hw=>hl.2 w (List.mem_cons_of_mem _ hw)⟩
     ·exact F1.lw j vs z}
  ·exact {F1 with sl:=⟨fun k' e=>(by cases e;exact⟨x,h⟩),fun ts e=>(by cases e)⟩}
 | fin s=>exact {F1 with pd:=Nat.zero_le _,sl:=⟨fun k e=>(by cases e),fun k e=>(by cases e)⟩}
 | Wu s b=>exact F1
 | iff s b o=>exact F1
def nB{s:Slp}(h:s.isN=true):s=.Wb:=by cases s<;>first|rfl|cases h
theorem Wk.one(F:Wk wt S N){m:Stm}(h:Wf S.stk=some m)(hs:S.sl=.Wb)(hN:N<=900000):Wk wt (one S m).1 (N+1):=by
 have g:=F.stm h;have F1:=F.more (Nat.le_succ N);have ac2:∀ {st:Stk},Wk wt {S with stk:=st} (N+1)->Wk wt {S with stk:=st} (N+1):=fun z=>z;have pass:∀ {S':Pu},Wk wt S' (N+1)->S'.sl=.Wb->S'.stk=S.stk->Wk wt S'.pass (N+1):=fun {S'} z a b =>
  {z with sk:=(by have:=z.sk;rw[b] at this;show yX wt (fZ S'.stk);rw[b];exact this.pass h),sl:=⟨fun k e=>(by rw[show S'.pass.sl=S'.sl from rfl,a] at e;cases e),fun k e=>(by rw[show S'.pass.sl=S'.sl from rfl,a] at e;cases e)⟩}
 have enter:∀(c:Nat) (bb:List Stm),BW wt bb->oO bb+1<=m.dp->Wk wt (S.enter c bb) (N+1):=fun c bb hg hd =>
  {F1 with sk:=F.sk.enter h hg hd,sl:=⟨fun k e=>(by rw[show(S.enter c bb).sl=S.sl from rfl,hs] at e;cases e),fun k e=>(by rw[show(S.enter c bb).sl=S.sl from rfl,hs] at e;cases e)⟩}
 by_cases hB:m.isB=true
 ·simp only[Own.one,if_pos hB];cases m with
  | Wu s b =>
   simp only[sD];split
   ·exact pass F1 hs rfl
   ·exact enter 0 b g.2 (by simp[Stm.dp])
  | iff s b o =>
   simp only[sD];split
   ·exact enter 1 o g.2.2 (by simp[Stm.dp];omega)
   ·exact enter 0 b g.2.1 (by simp[Stm.dp];omega)
  | _=>cases hB
 ·simp only[Own.one,if_neg hB];have D:=F.bW h hs hN;split
  ·next z=>exact pass D (nB z) (l7 S m)
  ·exact D
def i6{m:Stm}(h:m.isB=false):one S m=(if (bW S m).1.sl.isN=true then (bW S m).1.pass else (bW S m).1,(bW S m).2):=by simp[one,h]
def An{m:Stm}(h:m.isB=true):one S m=(sD S m,[]):=by simp[one,h]
def k6:List.lookup (Str.ofString "set") [((Str.ofString "set":Str),s0),((Str.ofString "order":Str),s1),((Str.ofString "timer":Str),s2),((Str.ofString "child":Str),s3),((Str.ofString "send":Str),s4),((Str.ofString "drop":Str),s5),((Str.ofString "wait":Str),s6),((Str.ofString "hear":Str),s7),((Str.ofString "end":Str),s8)]=some s0:=by rw[Ny]
def gQ:List.lookup (Str.ofString "order") [((Str.ofString "set":Str),s0),((Str.ofString "order":Str),s1),((Str.ofString "timer":Str),s2),((Str.ofString "child":Str),s3),((Str.ofString "send":Str),s4),((Str.ofString "drop":Str),s5),((Str.ofString "wait":Str),s6),((Str.ofString "hear":Str),s7),((Str.ofString "end":Str),s8)]=some s1:=by rw[lU,Ny]
def gR:List.lookup (Str.ofString "timer") [((Str.ofString "set":Str),s0),((Str.ofString "order":Str),s1),((Str.ofString "timer":Str),s2),((Str.ofString "child":Str),s3),((Str.ofString "send":Str),s4),((Str.ofString "drop":Str),s5),((Str.ofString "wait":Str),s6),((Str.ofString "hear":Str),s7),((Str.ofString "end":Str),s8)]=some s2:=by rw[lU,lU,Ny]
def gP:List.lookup (Str.ofString "child") [((Str.ofString "set":Str),s0),((Str.ofString "order":Str),s1),((Str.ofString "timer":Str),s2),((Str.ofString "child":Str),s3),((Str.ofString "send":Str),s4),((Str.ofString "drop":Str),s5),((Str.ofString "wait":Str),s6),((Str.ofString "hear":Str),s7),((Str.ofString "end":Str),s8)]=some s3:=by rw[lU,lU,lU,Ny]
def iQ:List.lookup (Str.ofString "send") [((Str.ofString "set":Str),s0),((Str.ofString "order":Str),s1),((Str.ofString "timer":Str),s2),((Str.ofString "child":Str),s3),((Str.ofString "send":Str),s4),((Str.ofString "drop":Str),s5),((Str.ofString "wait":Str),s6),((Str.ofString "hear":Str),s7),((Str.ofString "end":Str),s8)]=some s4:=by rw[lU,lU,lU,lU,Ny]
def iO:List.lookup (Str.ofString "drop") [((Str.ofString "set":Str),s0),((Str.ofString "order":Str),s1),((Str.ofString "timer":Str),s2),((Str.ofString "child":Str),s3),((Str.ofString "send":Str),s4),((Str.ofString "drop":Str),s5),((Str.ofString "wait":Str),s6),((Str.ofString "hear":Str),s7),((Str.ofString "end":Str),s8)]=some s5:=by rw[lU,lU,lU,lU,lU,Ny]
def iR:List.lookup (Str.ofString "wait") [((Str.ofString "set":Str),s0),((Str.ofString "order":Str),s1),((Str.ofString "timer":Str),s2),((Str.ofString "child":Str),s3),((Str.ofString "send":Str),s4),((Str.ofString "drop":Str),s5),((Str.ofString "wait":Str),s6),((Str.ofString "hear":Str),s7),((Str.ofString "end":Str),s8)]=some s6:=by rw[lU,lU,lU,lU,lU,lU,Ny]
def iP:List.lookup (Str.ofString "hear") [((Str.ofString "set":Str),s0),((Str.ofString "order":Str),s1),((Str.ofString "timer":Str),s2),((Str.ofString "child":Str),s3),((Str.ofString "send":Str),s4),((Str.ofString "drop":Str),s5),((Str.ofString "wait":Str),s6),((Str.ofString "hear":Str),s7),((Str.ofString "end":Str),s8)]=some s7:=by rw[lU,lU,lU,lU,lU,lU,lU,Ny]
def k5:List.lookup (Str.ofString "end") [((Str.ofString "set":Str),s0),((Str.ofString "order":Str),s1),((Str.ofString "timer":Str),s2),((Str.ofString "child":Str),s3),((Str.ofString "send":Str),s4),((Str.ofString "drop":Str),s5),((Str.ofString "wait":Str),s6),((Str.ofString "hear":Str),s7),((Str.ofString "end":Str),s8)]=some s8:=by rw[lU,lU,lU,lU,lU,lU,lU,lU,Ny]
def deeds9{Z:Str->Sp->Prop}{y:Str}{sp:Sp}(h:List.lookup y [((Str.ofString "set":Str),s0),((Str.ofString "order":Str),s1),((Str.ofString "timer":Str),s2),((Str.ofString "child":Str),s3),((Str.ofString "send":Str),s4),((Str.ofString "drop":Str),s5),((Str.ofString "wait":Str),s6),((Str.ofString "hear":Str),s7),((Str.ofString "end":Str),s8)]=some sp)(z0:Z "set" s0)(z1:Z "order" s1)(z2:Z "timer" s2)(z3:Z "child" s3)(z4:Z "send" s4)(z5:Z "drop" s5)(z6:Z "wait" s6)(z7:Z "hear" s7)(z8:Z "end" s8):Z y sp:=by
 rcases Mf h with⟨rfl,rfl⟩|h
 ·exact z0
 rcases Mf h with⟨rfl,rfl⟩|h
 ·exact z1
 rcases Mf h with⟨rfl,rfl⟩|h
 ·exact z2
 rcases Mf h with⟨rfl,rfl⟩|h
 ·exact z3
 rcases Mf h with⟨rfl,rfl⟩|h
 ·exact z4
 rcases Mf h with⟨rfl,rfl⟩|h
 ·exact z5
 rcases Mf h with⟨rfl,rfl⟩|h
 ·exact z6
 rcases Mf h with⟨rfl,rfl⟩|h
 ·exact z7
 rcases Mf h with⟨rfl,rfl⟩|h
 ·exact z8
 cases h
def j9(h:Wf S.bC.stk=none)(n:Nat):dH n S=S.bC.ends none:=by
 cases n<;>simp only[dH,h]
def qY{m:Stm}(h:Wf S.bC.stk=some m):dH 0 S=S.bC.mW:=by simp only[dH,h]
def Bh{m:Stm}(h:Wf S.bC.stk=some m)(z:(one S.bC m).1.sl.isN=true)(n:Nat):dH (n+1) S=((dH n (one S.bC m).1).1,(one S.bC m).2++(dH n (one S.bC m).1).2):=by simp only[dH,h,z,if_true]
def qW{m:Stm}(h:Wf S.bC.stk=some m)(z:(one S.bC m).1.sl.isN=false)(n:Nat):dH (n+1) S=one S.bC m:=by simp only[dH,h,z,if_false,Bool.false_eq_true]
def JN(S:Pu)(m:Stm):(bW S m).2.length<=1:=by
 cases m<;>simp only[bW,Pu.ends,List.length_cons,List.length_nil,Nat.zero_le,Nat.le_refl,Nat.zero_add]
 ·split
  ·split<;>simp
  ·simp
 ·split<;>simp
 ·split<;>simp
def BB(S:Pu)(m:Stm):(one S m).2.length<=1:=by
 unfold one;split
 ·simp
 ·exact JN S m
inductive Hap where
 | WR (m:Int) (w:Wo)|don (m t:Int) (w:Wo)|ltr (m:Int) (k:Str) (w:Wo)
variable{hs:List Hap}
noncomputable def Hap.ini:Hap->List V
 | .WR m _=>[.str "begin",.int m]
 | .don m t _=>[.str "done",.int m,.int t]
 | .ltr m k _=>[.str "letter",.int m,.str k]
noncomputable def Hap.w:Hap->Wo
 | .WR _ w | .don _ _ w | .ltr _ _ w=>w
def Hap.vs(h:Hap):List V:=h.ini++[wv h.w]
variable{vs:List V}
noncomputable def Hap.m:Hap->Int
 | .WR m _ | .don m _ _ | .ltr m _ _=>m
variable{m:Stm}
def nP(H:Hp)(v:V)(h:Hap):Prop:=∃ a,v=.ref a/\H a=some (.tup h.vs)
noncomputable def Pu.over(S:Pu)(h:Hap):Bool:=match S.sl with
 | .new=>(match h with
  | .WR _ _=>false
  | _=>true)
 | .ended _=>true
 | .worn=>true
 | _=>(match h with
  | .WR _ _=>true
  | .don _ i _=>!decide (i∈S.pend)
  | .ltr _ _ _=>false)
noncomputable def iC(l:List 1e32)(k:Str)(w:Wo):List 1e32:=match aS l k with
 | some ws=>dF l k (ws++[w])
 | none=>l++[(k,[w])]
def Pu.at'(S:Pu)(m:Int):Pu:={S with nw:=later S.nw m}
def Pu.done(S:Pu)(i:Int)(w:Wo):Pu:={S with pend:=S.pend.filter fun j=>decide (j≠i),ans:=S.ans++[(i,w)]}
noncomputable def Pu.fH(S:Pu)(i:Int)(w:Wo):Pu×Cmds:=match S.sl with
 | .wait ts=>if i∈ts then (S.done i w).wake (some i) else (S.done i w,[])
 | _=>(S.done i w,[])
noncomputable def Pu.eZ(S:Pu)(k:Str)(w:Wo):Pu×Cmds:=match S.sl with
 | .Wg k'=>if k'=k then S.wake w else ({S with lt:=iC S.lt k w},[])
 | _=>({S with lt:=iC S.lt k w},[])
noncomputable def Pu.take(S:Pu)(h:Hap):Pu×Cmds:=if S.over h=true then (S,[]) else match h with
 | .WR m w=>dH 300 {S with nw:=later S.nw m,ar:=w,sl:=.Wb}
 | .don m i w=>(S.at' m).fH i w
 | .ltr m k w=>(S.at' m).eZ k w
def gS(b:List Stm):Pu:=⟨[(0,b,0)],.new,none,0,[],0,[],[],[]⟩
inductive LS(C:Cl)(vs:List V)(H:Hp)(Q:VK)(E:XK):Prop
 | mk (R:Rn) (as:List Addr) (sl:V) (S:Pu) (v:V) (h:Hap) (_:vs=[.ref R.x,v]) (_:bA C H R as sl S) (_:S.sl.isN=false) (_:nP H v h) (_:∀ H',Kp [] H H'->Q (.bl (S.over h)) H'):LS C vs H Q E
inductive GV(C:Cl)(wt:Bool)(vs:List V)(H:Hp)(Q:VK)(E:XK):Prop
 | mk (R:Rn) (as:List Addr) (sl:V) (S:Pu) (w:Wo) (N:Nat) (_:vs=[.ref R.x,wv w]) (_:bA C H R as sl S) (_:Wk wt S N) (_:N<=700000) (_:dU w) (_:((∃ k,S.sl=.Wg k)\/∃ ts,S.sl=.wait ts)) (_:Told C R as as H Q (S.wake w)):GV C wt vs H Q E
inductive GR(C:Cl)(wt:Bool)(vs:List V)(H:Hp)(Q:VK)(E:XK):Prop
 | mk (R:Rn) (as:List Addr) (sl:V) (S:Pu) (i:Int) (w:Wo) (N:Nat) (_:vs=[.ref R.x,.int i,wv w]) (_:bA C H R as sl S) (_:Wk wt S N) (_:N<=600000) (_:dU w) (_:i∈S.pend) (_:S.sl.isN=false) (_:Told C R as as H Q (S.fH i w)):GR C wt vs H Q E
noncomputable def OB(C:Cl)(R:Rn)(as WC:List Addr)(H:Hp)(Q:VK)(z:Pu×Cmds):Prop:=∀(sl:V) (c:Addr) (us:List V) (H':Hp),bA C H' R WC sl z.1->H c=none->c∉WC->H' c=some (.lst us)->hZ H' us z.2->Fw R as WC H H'->Q (.ref c) H'
inductive LX(C:Cl)(wt:Bool)(vs:List V)(H:Hp)(Q:VK)(E:XK):Prop
 | mk (R:Rn) (as:List Addr) (sl:V) (S:Pu) (k:Str) (w:Wo) (N:Nat) (_:vs=[.ref R.x,.str k,wv w]) (_:bA C H R as sl S) (_:Wk wt S N) (_:N<=600000) (_:dU w) (_:((∃ k,S.sl=.Wg k)\/∃ ts,S.sl=.wait ts)) (_:∀ WC,OB C R as WC H Q (S.eZ k w)):LX C wt vs H Q E
inductive GS(C:Cl)(wt:Bool)(vs:List V)(H:Hp)(Q:VK)(E:XK):Prop
 | mk (R:Rn) (as:List Addr) (sl:V) (S:Pu) (v:V) (h:Hap) (N:Nat) (_:vs=[.ref R.x,v]) (_:bA C H R as sl S) (_:Wk wt S N) (_:N<=500000) (_:S.sl.isN=false) (_:nP H v h) (_:((0<=h.m/\h.m<=1000000000000)/\dU h.w)) (_:∀ WC,OB C R as WC H Q (S.take h)):GS C wt vs H Q E
inductive BO(C:Cl)(vs:List V)(H:Hp)(Q:VK)(E:XK):Prop
 | mk (x dx pg:Addr) (us:List V) (b:List Stm) (_:vs=[.ref x,.ref pg]) (_:H x=some (.ins C.r dx [])) (_:H pg=some (.tup us)) (_:bH H us b) (_:∀(R:Rn) (sl:V) (H':Hp),R.x=x->bA C H' R [] sl (gS b)->Kp [x] H H'->(∀ a∈R.cells,a=x\/H a=none)->Q .Wb H'):BO C vs H Q E
theorem tW(i:Int)(ts:List Int):wF (.int i) (ts.map V.int)=decide (i∈ts):=by
 rw[Bool.eq_iff_iff];simp[wF,tP]
def m7(ts:List Int):(ts.map V.int).all eL=true:=by simp[eL]
theorem Nn{b:Addr}{z x y:Str}(n:Nat)(ha:H a=some (.tup [.str z,.str x]))(hb:H b=some (.tup [.str z,.str y])):yW K H (n+1) a b (decide (x=y)):=by
 have:=yW.tup (K:=K) (H:=H) (n:=n) (e:=fun j=>if j=0 then true else decide (x=y)) (g9.of ha) (g9.of hb) fun j u v e1 e2=>by
  rcases j with _|_|j
  ·simp only[List.getElem?_cons_zero,Option.some.injEq] at e1 e2;subst e1 e2;have:=Me.flat (K:=K) (H:=H) (n:=n) (x:=.str z) (y:=.str z) rfl rfl
   rwa [show tP (.str z) (.str z)=true by simp[tP]] at this
  ·simp only[List.getElem?_cons_succ,List.getElem?_cons_zero,Option.some.injEq] at e1 e2;subst e1 e2;have:=Me.flat (K:=K) (H:=H) (n:=n) (x:=.str x) (y:=.str y) rfl rfl
   rwa [Ni] at this
  ·simp at e1
 rw[show((List.range (min [V.str z,V.str x].length [V.str z,V.str y].length)).all (fun j=>if j=0 then true else decide (x=y))&&[V.str z,V.str x].length==[V.str z,V.str y].length)=decide (x=y) by simp[List.range_succ]] at this;exact this
theorem Wk.at'(F:Wk wt S N){m:Int}(h:0<=m/\m<=1000000000000):Wk wt (S.at' m) N :=
 {F with pl:=⟨F.pl.nm,F.pl.ar,F.pl.an⟩,nw:=(by have:=F.nw;show 0<=later S.nw m/\later S.nw m<=1000000000000;unfold later;split<;>omega)}
theorem wN{i:Int}{w:Wo}:∀(l:List 1e57) (x:Wo),fG (l++[(i,w)]) x=fG l x\/fG (l++[(i,w)]) x=w
 | _,none=>.inl (by simp[fG])
 | [],some j=>by
  by_cases h:i=j
  ·exact .inr (by simp[fG,h])
  ·exact .inl (by simp[fG,h])
 | p::r,some j=>by
  by_cases h:p.1=j
  ·exact .inl (by simp[fG,h])
  ·rcases wN (i:=i) (w:=w) r (some j) with z|z
   ·exact .inl (by simp[fG,h,z])
   ·exact .inr (by simp[fG,h,z])
def Wk.done(F:Wk wt S N){w:Wo}(hw:dU w):Wk wt (S.done i w) (N+1) :=
 {F.more (Nat.le_succ N) with
  pd:=Nat.le_trans Aa (Nat.le_succ_of_le F.pd)
  an:=(by have:=F.an;show(S.ans++[(i,w)]).length<=N+1;simp;exact this)
  pl:=⟨F.pl.nm,F.pl.ar,fun x=>(by
   show dU (fG (S.ans++[(i,w)]) x);rcases wN (i:=i) (w:=w) S.ans x with z|z
   ·rw[z];exact F.pl.an x
   ·rw[z];exact hw)⟩}
theorem wQ{k:Str}{ws:List Wo}:∀(l:List 1e32) (j:Str) (vs:List Wo),aS (l++[(k,ws)]) j=some vs->(j=k/\vs=ws)\/aS l j=some vs
 | [],j,vs,h=>by
  rw[List.nil_append,aS] at h;by_cases e:k=j
  ·rw[if_pos e] at h;cases h;exact .inl ⟨e.symm,rfl⟩
  ·rw[if_neg e] at h;cases h
 | p::r,j,vs,h=>by
  rw[List.cons_append,aS] at h;by_cases e:p.1=j
  ·rw[if_pos e] at h;exact .inr (by rw[aS,if_pos e];exact h)
  ·rw[if_neg e] at h;rcases wQ r j vs h with z|z
   ·exact .inl z
   ·exact .inr (by rw[aS,if_neg e];exact z)
theorem Wk.iC(F:Wk wt S N){w:Wo}(hw:dU w):Wk wt {S with lt:=iC S.lt k w} (N+1):=by
 have F1:=F.more (Nat.le_succ N);unfold Own.iC;cases e:aS S.lt k with
 | some ws =>
  have hl:=F.lw k ws e;exact {F1 with
   lt:=(by have:=F.lt;show(dF S.lt k (ws++[w])).length<=N+1;rw[mS];omega)
   lw:=fun j vs h=>by
    rcases rD S.lt k _ j vs h with⟨_,rfl⟩|z
    ·exact⟨by have:=hl.1;simp;exact this,fun u hu=>by
      rcases List.mem_append.mp hu with hu|hu
      ·exact hl.2 u hu
      ·rw[show u=w by simpa using hu];exact hw⟩
    ·exact F1.lw j vs z}
 | none =>
  exact {F1 with
   lt:=(by have:=F.lt;show(S.lt++[(k,[w])]).length<=N+1;simp;exact this)
   lw:=fun j vs h=>by
    rcases wQ S.lt j vs h with⟨_,rfl⟩|z
    ·exact⟨by simp,fun u hu=>by rw[show u=w by simpa using hu];exact hw⟩
    ·exact F1.lw j vs z}
theorem BK{k:Str}{a b:List Wo}:∀ {l:List 1e32},aS l k=none->dF (l++[(k,a)]) k b=l++[(k,b)]
 | [],_=>by simp[dF]
 | p::r,h=>by
  rw[aS] at h;by_cases e:p.1=k
  ·rw[if_pos e] at h;cases h
  ·rw[if_neg e] at h;rw[List.cons_append,dF,if_neg e,BK h];rfl
theorem Wk.wake(F:Wk wt S N)(h:Wf S.stk=some m){w:Wo}(hw:dU w)(n:Str):Wk wt {S with nm:=b8 S.nm n w,stk:=fZ S.stk,sl:=.Wb} (N+1) :=
 {F.more (Nat.le_succ N) with
  nm:=(by have:=Dc S.nm n w;have:=F.nm;show(b8 S.nm n w).length<=N+1;omega)
  pl:=(Lc F.pl n hw)
  sk:=F.sk.pass h
  sl:=⟨fun k e=>(by cases e),fun k e=>(by cases e)⟩}
def VB{x:Addr}{p:Addr}{u:HO}(k:Kp [x] H G)(gx:G x=some u)(hp:G p=none):H p=none:=by
 cases z:H p with
 | none=>rfl
 | some o =>
  by_cases hz:p=x
  ·subst hz;rw[gx] at hp;cases hp
  ·rw[k.Wl z hz] at hp;cases hp
def NC{pg:Addr}{Q:Addr->Hp->Prop}(ep:H1 pg=some (.tup us))(hs:bH H1 us b)(q:∀ x wx lb ln H',Kp [] H1 H'->H1 x=none->H1 lb=none->H1 ln=none->jO C H' x wx lb ln [(0,b,0)]->Q x H') : ∀ x dx,H1 x=none->H1 dx=none->dx≠x->yG C [.ref x,.ref pg] (Wa (Wa H1 dx (.own x)) x (.ins C dx [])) (fun v H2=>v=.Wb/\Q x H2) E:=fun x dx hx hdx ne=>by
 have K1:Kp [] H1 (Wa (Wa H1 dx (.own x)) x (.ins C dx [])):=(Kp.new hdx).trans (Kp.new (by rw[aD ne.symm];exact hx));exact⟨x,dx,pg,us,b,rfl,aA,K1.at ep,hs.kp (aE.nil K1),fun lb ln H' f1 f2 W K=>⟨rfl,q x dx lb ln H' (Kp.drop ((K1.mono 1e1).trans K) hx) hx (cR (cR f1)) (cR (cR f2)) W⟩⟩
def Ua{Q:Addr->Hp->Prop}(q:∀ x tx dp da H',Kp [] H1 H'->H1 x=none->H1 dp=none->H1 da=none->iM C H' x tx dp da 0 [] []->Q x H') : ∀ x dx,H1 x=none->H1 dx=none->dx≠x->yF C [.ref x] (Wa (Wa H1 dx (.own x)) x (.ins C dx [])) (fun v H2=>v=.Wb/\Q x H2) E:=fun x dx hx hdx ne=>by
 have K1:Kp [] H1 (Wa (Wa H1 dx (.own x)) x (.ins C dx [])):=(Kp.new hdx).trans (Kp.new (by rw[aD ne.symm];exact hx));exact⟨x,dx,rfl,aA,fun dp da H' f1 f2 T K=>⟨rfl,q x dx dp da H' (Kp.drop ((K1.mono 1e1).trans K) hx) hx (cR (cR f1)) (cR (cR f2)) T⟩⟩
def Ra{C:Cl}{pg:Addr}{Q:Addr->Hp->Prop}(ep:H1 pg=some (.tup us))(hs:bH H1 us b)(q:∀(R:Rn) (sl:V) H',bA C H' R [] sl (gS b)->Kp [] H1 H'->(∀ a∈R.cells,H1 a=none)->Q R.x H') : ∀ x dx,H1 x=none->H1 dx=none->dx≠x->BO C [.ref x,.ref pg] (Wa (Wa H1 dx (.own x)) x (.ins C.r dx [])) (fun v H2=>v=.Wb/\Q x H2) E:=fun x dx hx hdx ne=>by
 have K1:Kp [] H1 (Wa (Wa H1 dx (.own x)) x (.ins C.r dx [])):=(Kp.new hdx).trans (Kp.new (by rw[aD ne.symm];exact hx));refine⟨x,dx,pg,us,b,rfl,aA,K1.at ep,hs.kp (aE.nil K1),fun R sl H' e1 A K M=>⟨rfl,?_⟩⟩;subst e1;exact q R sl H' A (Kp.drop ((K1.mono 1e1).trans K) hx) fun a ha=>by
  rcases M a ha with rfl|z
  ·exact hx
  ·exact cR (cR z)
inductive AE(C:Addr)(vs:List V)(H:Hp)(Q:VK)(E:XK):Prop
 | mk (tk tx dp da l:Addr) (made:Nat) (pend:List Int) (ans:List 1e57) (ws:List Wo) (_:vs=[.ref tk,.ref l]) (_:iM C H tk tx dp da made pend ans) (_:H l=some 1e38) (_:ws.length<=4) (_:ans.length<=1000000) (_:∀ H',Kp [] H H'->Q (wv (aZ ans ws)) H'):AE C vs H Q E
def Ko(ans:List 1e57)(w:Wo):Bool:=ans.any fun p=>decide (w=some p.1)
noncomputable def bT(ans:List 1e57):List Wo->List Int
 | []=>[]
 | none::r=>bT ans r
 | some i::r=>if Ko ans (some i)=true then i::bT ans r else bT ans r
def Mo(ans:List 1e57)(w:Wo):(aX (iD ans) (wk w)).isSome=Ko ans w:=by
 induction ans with
 | nil=>simp[iD,yQ,Ko]
 | cons p r ih =>
  have e:iD (p::r)=(Key.inl p.1,wv p.2)::iD r:=rfl;rw[e];by_cases h:w=some p.1
  ·subst h;rw[show wk (some p.1)=Key.inl p.1 from rfl,cE rfl];simp[Ko]
  ·rw[b6 (fun z=>h (by cases w with
    | none=>cases z
    | some j=>cases z;rfl)),ih]
   simp[Ko,h]
def Kq(ans:List 1e57):Ko ans none=false:=by simp[Ko]
theorem qR(ans:List 1e57):∀(l r:List Wo),bT ans (l++r)=bT ans l++bT ans r
 | [],r=>rfl
 | none::l,r=>by simp only[List.cons_append,bT,qR ans l r]
 | some i::l,r=>by
  simp only[List.cons_append,bT,qR ans l r];split<;>simp
def El{i:Nat}{w:Wo}(e:ws[i]?=some w):(bT ans (ws.take (i+1))).map V.int=if Ko ans w=true then (bT ans (ws.take i)).map V.int++[wv w] else (bT ans (ws.take i)).map V.int:=by
 rw[List.take_add_one,e];simp only[Option.toList_some,qR,List.map_append];cases w with
 | none=>rw[Kq];simp[bT]
 | some j =>
  simp only[bT];split<;>simp[wv]
theorem m5(ans:List 1e57):∀ ws:List Wo,(bT ans ws).length<=ws.length
 | []=>Nat.le_refl _
 | none::r=>by have:=m5 ans r;simp only[bT,List.length_cons];omega
 | some i::r=>by
  have:=m5 ans r;simp only[bT,List.length_cons];split
  ·simp only[List.length_cons];omega
  ·omega
theorem kE{ans:List 1e57}{i:Int}:∀ {ws:List Wo},i∈bT ans ws↔Ko ans (some i)=true/\some i∈ws
 | []=>by simp[bT]
 | none::r=>by simp[bT,kE (ws:=r)]
 | some j::r=>by
  have ih:=kE (ans:=ans) (i:=i) (ws:=r);simp only[bT];split
  ·next h =>
   simp only[List.mem_cons,ih,Option.some.injEq];constructor
   ·rintro(rfl|⟨a,b⟩)
    ·exact⟨h,.inl rfl⟩
    ·exact⟨a,.inr b⟩
   ·rintro⟨a,b|b⟩
    ·exact .inl b
    ·exact .inr ⟨a,b⟩
  ·next h =>
   rw[ih];simp only[List.mem_cons,Option.some.injEq];constructor
   ·rintro⟨a,b⟩;exact⟨a,.inr b⟩
   ·rintro⟨a,b|b⟩
    ·subst b;exact absurd a h
    ·exact⟨a,b⟩
theorem Cy(i:Int):∀ ns:List Int,wF (.int i) 1e63=decide (i∈ns)
 | []=>by simp[wF]
 | n::r=>by
  have ih:=Cy i r;simp only[wF,List.map_cons,List.any_cons] at ih ⊢;rw[ih];by_cases h:n=i
  ·subst h;simp[tP]
  ·have:tP (V.int n) (V.int i)=false:=by simp[tP,h]
   rw[this];simp[Ne.symm h]
theorem vW{α:Type}{p q:α->Bool}:∀ {l:List α},(∀ x∈l,p x=q x)->l.find? p=l.find? q
 | [],_=>rfl
 | x::l,h=>by
  simp only[List.find?,h x 1e1,vW fun y hy=>h y (List.mem_cons_of_mem _ hy)]
theorem vX(ans:List 1e57)(ws:List Wo):aZ ans ws=((ans.map (·.1)).filter fun i=>decide (i∈bT ans ws)).head?:=by
 unfold aZ;rw[List.head?_filter,List.find?_map]
 congr 1
 refine vW fun p hp=>?_;have:Ko ans (some p.1)=true:=by simp only[Ko,List.any_eq_true];exact⟨p,hp,by simp⟩
 simp only[Function.comp,kE,this,true_and]
theorem xH{val:Nat->Int}{j:Int}:∀ {n:Nat},j∈once val n↔∃ k,k < n/\val k=j
 | 0=>by simp[once]
 | n+1=>by
  have ih:=xH (val:=val) (j:=j) (n:=n);have up:(∃ k,k < n+1/\val k=j)↔(∃ k,k < n/\val k=j)\/val n=j:=by
   constructor
   ·rintro⟨k,hk,e⟩;by_cases h:k=n
    ·subst h;exact .inr e
    ·exact .inl ⟨k,by omega,e⟩
   ·rintro(⟨k,hk,e⟩|e)
    ·exact⟨k,by omega,e⟩
    ·exact⟨n,by omega,e⟩
  rw[up,once];split
  ·next h =>
   rw[ih];constructor
   ·exact .inl
   ·rintro(z|z)
    ·exact z
    ·subst z;exact xH.mp h
  ·simp only[List.mem_append,List.mem_singleton,ih];constructor
   ·rintro(z|z)
    ·exact .inl z
    ·exact .inr z.symm
   ·rintro(z|z)
    ·exact .inl z
    ·exact .inr z.symm
def nE:j∈lJ ns↔j∈ns:=by
 unfold lJ;rw[xH,List.mem_iff_getElem];constructor
 ·rintro⟨k,hk,e⟩;exact⟨k,hk,by rw[List.getD_eq_getElem?_getD,List.getElem?_eq_getElem hk] at e;exact e⟩
 ·rintro⟨k,hk,e⟩;exact⟨k,hk,by rw[List.getD_eq_getElem?_getD,List.getElem?_eq_getElem hk];exact e⟩
def Lh(h:(lJ ns).length < 2)(hi:i∈ns)(hj:j∈ns):i=j:=by
 have a:=nE.mpr hi;have b:=nE.mpr hj
 match e:lJ ns,h with
 | [],_=>rw[e] at a;cases a
 | [x],_ =>
  rw[e] at a b;rw[List.mem_singleton.mp a,List.mem_singleton.mp b]
theorem HR(h:(lJ (bT ans ws)).length < 2):aZ ans ws=(bT ans ws).head?:=by
 rw[vX];cases e:bT ans ws with
 | nil=>simp
 | cons i r =>
  have hi:i∈bT ans ws:=by rw[e];simp
  have he:∀ j∈bT ans ws,j=i:=fun j hj=>Lh h hj hi;obtain⟨p,hp,ep⟩:=List.any_eq_true.mp (kE.mp hi).1;have ep:i=p.1:=by simpa using ep
  show _=some i;have hm:i∈((ans.map (·.1)).filter fun j=>decide (j∈i::r)):=List.mem_filter.mpr ⟨List.mem_map.mpr ⟨p,hp,ep.symm⟩,by simp⟩;cases z:((ans.map (·.1)).filter fun j=>decide (j∈i::r)) with
  | nil=>rw[z] at hm;cases hm
  | cons x xs =>
   have hx:x∈((ans.map (·.1)).filter fun j=>decide (j∈i::r)):=by rw[z];simp
   have:=he x (by rw[e];simpa using(List.mem_filter.mp hx).2);rw[this];rfl
theorem Er(h:¬ (lJ (bT ans ws)).length < 2):∃ i r,((ans.map (·.1)).filter fun i=>decide (i∈bT ans ws))=i::r/\aZ ans ws=some i:=by
 have hf:=vX ans ws;cases z:((ans.map (·.1)).filter fun i=>decide (i∈bT ans ws)) with
 | cons i r=>rw[z] at hf;exact⟨i,r,rfl,hf⟩
 | nil =>
  exfalso;cases e:lJ (bT ans ws) with
  | nil=>rw[e] at h;exact h 1e1
  | cons i r =>
   have hi:i∈bT ans ws:=nE.mp (by rw[e];simp);obtain⟨p,hp,ep⟩:=List.any_eq_true.mp (kE.mp hi).1;have ep:i=p.1:=by simpa using ep
   have hm:i∈((ans.map (·.1)).filter fun i=>decide (i∈bT ans ws)):=List.mem_filter.mpr ⟨List.mem_map.mpr ⟨p,hp,ep.symm⟩,by simpa using hi⟩;rw[z] at hm;cases hm
def fW.atW(h:fW H vs ss):∀ {i:Nat} {x:V},vs[i]?=some x->∃ y,ss[i]?=some y/\cZ H x y:=by
 induction h with
 | nil=>intro i x e;simp at e
 | cons h _ ih =>
  intro i x e;cases i with
  | zero=>simp only[List.getElem?_cons_zero,Option.some.injEq] at e;subst e;exact⟨_,rfl,h⟩
  | succ i=>exact ih (by simpa using e)
def fW.Q7(h:fW H vs ss):vs.length=ss.length:=by
 induction h with
 | nil=>rfl
 | cons _ _ ih=>simp[ih]
noncomputable def dB(pend:List Int):List Wo->List Int
 | []=>[]
 | none::r=>dB pend r
 | some i::r=>if i∈pend then i::dB pend r else dB pend r
theorem rN(pend:List Int):∀(l r:List Wo),dB pend (l++r)=dB pend l++dB pend r
 | [],r=>rfl
 | none::l,r=>by simp only[List.cons_append,dB,rN pend l r]
 | some i::l,r=>by
  simp only[List.cons_append,dB,rN pend l r];split<;>simp
theorem ES{i:Nat}{w:Wo}(e:ws[i]?=some w):(dB pend (ws.take (i+1))).map V.int=if decide (∃ j∈pend,w=some j)=true then (dB pend (ws.take i)).map V.int++[wv w] else (dB pend (ws.take i)).map V.int:=by
 rw[List.take_add_one,e];simp only[Option.toList_some,rN,List.map_append];cases w with
 | none=>simp[dB]
 | some j =>
  by_cases h:j∈pend
  ·simp[dB,h,wv]
  ·simp[dB,h]
theorem kI(pend:List Int):∀ ws:List Wo,(dB pend ws).length<=ws.length
 | []=>Nat.le_refl _
 | none::r=>by have:=kI pend r;simp only[dB,List.length_cons];omega
 | some i::r=>by
  have:=kI pend r;simp only[dB,List.length_cons];split
  ·simp only[List.length_cons];omega
  ·omega
theorem wU{i j:Int}:∀ {l:List Int},j∈wG i l↔j=i\/j∈l
 | []=>by simp[wG]
 | k::r=>by
  have ih:=wU (i:=i) (j:=j) (l:=r);simp only[wG];split
  ·simp
  ·split
   ·next h =>
    subst h;simp only[List.mem_cons];constructor
    ·exact .inr
    ·rintro(z|z)
     ·exact .inl z
     ·exact z
   ·simp only[List.mem_cons,ih];constructor
    ·rintro(z|z|z)
     ·exact .inr (.inl z)
     ·exact .inl z
     ·exact .inr (.inr z)
    ·rintro(z|z|z)
     ·exact .inr (.inl z)
     ·exact .inl z
     ·exact .inr (.inr z)
theorem Cz{i:Int}:∀ {l:List Int},l.Pairwise (· < ·)->(wG i l).Pairwise (· < ·)
 | [],_=>by simp[wG]
 | k::r,h=>by
  obtain⟨h1,h2⟩:=List.pairwise_cons.mp h;simp only[wG];split
  ·next c=>exact List.pairwise_cons.mpr ⟨fun x hx=>by
    rcases List.mem_cons.mp hx with rfl|hx
    ·exact c
    ·have:=h1 x hx;omega,h⟩
  ·split
   ·exact h
   ·exact List.pairwise_cons.mpr ⟨fun x hx=>by
     rcases wU.mp hx with rfl|hx
     ·omega
     ·exact h1 x hx,Cz h2⟩
theorem fY(pend:List Int):∀ ws:List Wo,(bI pend ws).Pairwise (· < ·)
 | []=>.nil
 | none::r=>fY pend r
 | some i::r=>by
  simp only[bI];split
  ·exact Cz (fY pend r)
  ·exact fY pend r
theorem lA{pend:List Int}{j:Int}:∀ {ws:List Wo},j∈bI pend ws↔j∈dB pend ws
 | []=>by simp[bI,dB]
 | none::r=>by simp only[bI,dB];exact lA
 | some i::r=>by
  have ih:=lA (pend:=pend) (j:=j) (ws:=r);simp only[bI,dB];split
  ·rw[wU,ih,List.mem_cons]
  ·exact ih
theorem xI(val:Nat->Int):∀ n,(once val n).Nodup
 | 0=>by simp[once]
 | n+1=>by
  have ih:=xI val n;rw[once];split
  ·exact ih
  ·next h=>exact List.nodup_append.mpr ⟨ih,by simp,fun a ha b hb=>by
    rw[List.mem_singleton.mp hb];exact fun z=>h (z▸ha)⟩
theorem C4(hp:ns.Perm (lJ (dB pend ws)))(hs:ns.Pairwise (·<=·)):ns=bI pend ws:=by
 refine mT (hp.trans ?_) hs (fY pend ws);refine(List.perm_ext_iff_of_nodup (xI _ _) ((fY pend ws).imp fun h=>by omega)).mpr fun j=>?_;show j∈lJ _↔_;rw[nE,lA]
noncomputable def Stm.CB:Stm->Bool
 | .set _ _ | .order _ _ _ | .Wp _ _ | .child _ _ _ | .send _ _ _ | .drop _=>true
 | _=>false
theorem OO{M:Int}(h:0 < M)(h':M<=2 ^ 62)(j:Int):CMul (i % M) j:=by
 have:=Int.emod_nonneg i (show M≠0 by omega);have:=Int.emod_lt_of_pos i h;exact .inl ⟨by omega,by omega⟩
def ix32:zG 3 2=some 2:=rfl
structure bZ(H:Hp)(r:Addr)(n:Nat):Prop where
 ex:∃ c m s:Int,H r=some (.lst [.int c,.int m,.int s])/\0<=s/\s<=n
def bZ.kp{r:Addr}{n:Nat}(R:bZ H r n)(h:Kp [] H H'):bZ H' r n:=by
 obtain⟨c,m,s,e,x⟩:=R;exact⟨c,m,s,h _ _ e 1e1,x⟩
def bZ.new{r p:Addr}{n:Nat}(R:bZ H r n)(h:H p=none):bZ (Wa H p o) r n:=R.kp (Kp.new h)
def bZ.none{r p:Addr}{n:Nat}(R:bZ H r n)(h:H p=Option.none):p≠r:=by
 obtain⟨c,m,s,e,_⟩:=R;exact(aF e h).symm
def made1{r p:Addr}{n:Nat}(x:Kp [r] (Wa H p o) H')(R:bZ H r n)(h:H p=none):H' p=some o:=x.Wl aA (R.none h)
noncomputable def GJ:Sp:=fun vs H Q _=>∃(r:Addr) (m:Int) (n:Nat),vs=[.ref r,.int m]/\0 < m/\m<=10 ^ 45/\bZ H r n/\n<=100000/\∀(g:Int) (H':Hp),0<=g->g < m->bZ H' r (n+1)->Kp [r] H H'->Q (.int g) H'
def NY{r:Addr}{m:Int}:GJ [.ref r,.int m] H Q E=(0 < m/\m<=10 ^ 45/\∃ n,bZ H r n/\n<=100000/\∀(g:Int) (H':Hp),0<=g->g < m->bZ H' r (n+1)->Kp [r] H H'->Q (.int g) H') :=
 propext ⟨fun⟨_,_,n,e,a,b,c⟩=>by cases e;exact⟨a,b,n,c⟩,fun⟨a,b,n,c⟩=>⟨_,_,n,rfl,a,b,c⟩⟩
inductive LK(vs:List V)(H:Hp)(Q:VK)(E:XK):Prop
 | mk (z:Int) (k:Nat) (_:vs=[.int z,.int k]) (_:∀ r H',H r=none->Kp [] H H'->bZ H' r k->Q (.ref r) H'):LK vs H Q E
noncomputable def gH:V->Prop
 | .Wb=>True
 | .str _=>True
 | .int _=>True
 | _=>False
inductive qK(H:Hp):Nat->V->V->Prop
 | atom {d:Nat} {v:V}:gH v->qK H (d+1) v v
 | tup {d:Nat} {a b:Addr} {xs ys:List V}:H a=some 1e54->H b=some (.tup ys)->xs.length=ys.length->xs.length<=100000->(∀(i:Nat) x y,xs[i]?=some x->ys[i]?=some y->qK H d x y)->qK H (d+1) 1e11 (.ref b)
 | lst {d:Nat} {a b:Addr} {xs ys:List V}:H a=some 1e20->H b=some (.lst ys)->xs.length=ys.length->xs.length<=100000->(∀(i:Nat) x y,xs[i]?=some x->ys[i]?=some y->qK H d x y)->qK H (d+1) 1e11 (.ref b)
def qK.kp{u:V}(h:qK H d v u)(k:Kp [] H H'):qK H' d v u:=by
 induction h with
 | atom a=>exact .atom a
 | tup a b c l _ ih=>exact .tup (k.at a) (k.at b) c l ih
 | lst a b c l _ ih=>exact .lst (k.at a) (k.at b) c l ih
inductive GH(d:Nat)(vs:List V)(H:Hp)(Q:VK)(E:XK):Prop
 | mk (v u:V) (d':Nat) (_:vs=[v,u]) (_:d'=d) (_:qK H d' v u) (_:∀ H',Kp [] H H'->Q (.bl true) H'):GH d vs H Q E
def lG(w:Wo):gH (wv w):=by cases w<;>trivial
def KU{b:Addr}{n:Nat}(ea:H a=some 1e10)(eb:H b=some 1e10):yW K H (n+1) a b true :=
 .list (n:=n) (xs:=[]) (ys:=[]) (e:=fun _=>true) (e9.of ea) (e9.of eb) rfl (fun j x y h1 _=>by simp at h1)
theorem bZ.up{H:Hp}{r:Addr}{n m:Nat}(R:bZ H r n)(h:n<=m):bZ H r m:=by
 obtain⟨c,f,s,e,x,y⟩:=R;exact⟨c,f,s,e,x,by omega⟩
def bZ.tk{r:Addr}{n:Nat}(R:bZ H r n)(k:Kp [r] H H'):aE H H':=.of k fun a ha=>by
 obtain⟨c,f,s,e,_⟩:=R;have:a=r:=by simpa using ha
 exact⟨_,this▸e,fun _ h=>by cases h⟩
noncomputable def bd:Nat->Nat
 | 0=>3
 | d+1=>2 * bd d+3
theorem Pq(d:Nat):3<=bd d:=by
 cases d with
 | zero=>exact Nat.le_refl _
 | succ d=>rw[bd];omega
inductive Dp(vs:List V)(H:Hp)(Q:VK)(E:XK):Prop
 | mk (r:Addr) (n:Nat) (_:vs=[.ref r]) (_:bZ H r n) (_:n<=900) (_:∀(w:Wo) (H':Hp),dU w->bZ H' r (n+2)->Kp [r] H H'->Q (wv w) H'):Dp vs H Q E
def GI:Sp:=fun vs H Q _=>∃(r:Addr) (n:Nat),vs=[.ref r]/\bZ H r n/\n<=900/\∀(x:Str) (H':Hp),bZ H' r (n+1)->Kp [r] H H'->Q (.str x) H'
def NX{r:Addr}:GI [.ref r] H Q E = ∃ n,bZ H r n/\n<=900/\∀(x:Str) (H':Hp),bZ H' r (n+1)->Kp [r] H H'->Q (.str x) H' :=
 propext ⟨fun⟨_,n,e,c⟩=>by cases e;exact⟨n,c⟩,fun⟨n,c⟩=>⟨_,n,rfl,c⟩⟩
inductive BM(d:Nat)(vs:List V)(H:Hp)(Q:VK)(E:XK):Prop
 | mk (r:Addr) (dp:Int) (n:Nat) (_:vs=[.ref r,.int dp]) (_:1<=dp) (_:dp<=d) (_:bZ H r n) (_:n+bd d<=900) (_:∀(v:V) (s:Say) (H':Hp),cZ H' v s->s.ok->(s.depth:Int)<=dp->bZ H' r (n+bd d)->Kp [r] H H'->Q v H'):BM d vs H Q E
inductive Dn(vs:List V)(H:Hp)(Q:VK)(E:XK):Prop
 | mk (r:Addr) (n:Nat) (_:vs=[.ref r]) (_:bZ H r n) (_:n<=100) (_:∀(v:V) (m:Stm) (H':Hp),b7 H' v m->m.gd false/\m.CB=true->Kp [r] H H'->Q v H'):Dn vs H Q E
def sst{a b:String}(h:a≠b):¬ ((Str.ofString a:Str)=Str.ofString b):=fun z=>h (by rwa [cH] at z)
def Nu{S:List Addr}{p:Addr}{u:HO}(h:H p=none):Kp S H (Wa (Wa H p o) p u):=fun b x e _=>by rw[aD (aF e h),aD (aF e h)];exact e
def OK6:List Str:=["code","at","mode","letters","awaited","outcome"]
inductive iB(H:Hp):List V->List 1e57->Prop
 | nil:iB H [] []
 | cons {a:Addr} {i:Int} {w:Wo} {ds:List V} {r:List 1e57}:H a=some (.tup [.int i,wv w])->iB H ds r->iB H (.ref a::ds) ((i,w)::r)
def iB.kt(h:iB H ds r)(k:aE H H'):iB H' ds r:=by
 induction h with
 | nil=>exact .nil
 | cons e _ ih=>exact .cons 1e53 ih
def iB.len(h:iB H ds r):ds.length=r.length:=by
 induction h with
 | nil=>rfl
 | cons _ _ ih=>simp[ih]
def iB.snoc{w:Wo}(h:iB H ds r)(e:H a=some (.tup [.int i,wv w])):iB H (ds++[.ref a]) (r++[(i,w)]):=by
 induction h with
 | nil=>exact .cons e .nil
 | cons f _ ih=>exact .cons f ih
def iB.at(h:iB H ds r):∀ {j:Nat} {v:V},ds[j]?=some v->∃ a i w,v=.ref a/\r[j]?=some (i,w)/\H a=some (.tup [.int i,wv w]):=by
 induction h with
 | nil=>intro j v e;simp at e
 | cons f _ ih =>
  intro j v e;cases j with
  | zero=>simp only[List.getElem?_cons_zero,Option.some.injEq] at e;subst e;exact⟨_,_,_,rfl,rfl,f⟩
  | succ j=>simpa using ih (by simpa using e)
def iB.pairs(h:iB H ds r):tN H ds (iD r):=by
 refine⟨by rw[h.len];simp[iD],fun j v e1=>?_⟩;obtain⟨a,i,w,rfl,e2,e3⟩:=h.at e1;exact⟨a,.inl i,wv w,rfl,e3,by rw[iD,List.getElem?_map,e2];rfl⟩
structure cJ(H:Hp)(md nd od dd:Addr)(ot:Str->Option V)(S:Pu):Prop where
 hm:∃ kvs,H md=some 1e17/\A7 ((kvs.length<=50/\∀ k∈OK6,aX kvs (.inr k)=ot k)) (aX kvs (.inr "names")=some (.ref nd)) (aX kvs (.inr "arg")=some (wv S.ar)) (aX kvs (.inr "now")=some (.int S.nw)) (aX kvs (.inr "made")=some (.int S.made)) (aX kvs (.inr "open")=some (.ref od)) (aX kvs (.inr "done")=some (.ref dd))
 hn:H nd=some (.dK (fA S.nm))
 ho:H od=some (.lst (S.pend.map V.int))
 hd:∃ ds,H dd=some (.lst ds)/\iB H ds S.ans
 n1:md≠nd
 n2:od≠dd
 asc:S.pend.Pairwise (· < ·)
 lt:∀ i∈S.pend,0<=i/\i < S.made
 uq:(S.ans.map (·.1)).Nodup
 dis:∀ p∈S.ans,p.1∉S.pend/\p.1 < S.made
def cJ.kp{md nd od:Addr}(M:cJ H md nd od dd ot S)(k:Kp [] H H'):cJ H' md nd od dd ot S:=by
 obtain⟨kvs,e,r⟩:=M.hm;obtain⟨ds,e2,r2⟩:=M.hd;exact {M with hm:=⟨kvs,k.at e,r⟩,hn:=k.at M.hn,ho:=k.at M.ho,hd:=⟨ds,k.at e2,r2.kt (aE.nil k)⟩}
theorem Aj:∀(more acc:List 1e35),(∀ kv∈more,aX acc kv.1=none)->(more.map (·.1)).Nodup->eD acc more=acc++more
 | [],acc,_,_=>by simp[eD]
 | kv::r,acc,h,nd=>by
  have e:aO acc kv.1 kv.2=acc++[kv]:=by
   have:=h kv 1e1;unfold aO;rw[gU,this];simp
  have:=Aj r (acc++[kv]) (fun x hx=>by
   rw[List.map_cons,List.nodup_cons] at nd;rw[<- e,fO,if_neg (fun z=>nd.1 (by rw[<- z];exact List.mem_map_of_mem hx))];exact h x (by simp[hx])) (by rw[List.map_cons,List.nodup_cons] at nd;exact nd.2)
  show eD (aO acc kv.1 kv.2) r=_;rw[e,this];simp
def Ih{l:List 1e57}(h:(l.map (·.1)).Nodup):eD [] (iD l)=iD l:=by
 rw[Aj _ _ (fun _ _=>yQ)]
 ·rfl
 ·rw[iD,List.map_map];have:(l.map (·.1)).Nodup:=h
  induction l with
  | nil=>simp
  | cons x r ih =>
   rw[List.map_cons,List.nodup_cons] at h ⊢;refine⟨fun z=>h.1 ?_,ih h.2 h.2⟩;obtain⟨y,hy,e⟩:=List.mem_map.mp z;simp only[Function.comp_apply,Key.inl.injEq] at e;exact List.mem_map.mpr ⟨y,hy,by simpa using e⟩
inductive uH(d:Nat)(vs:List V)(H:Hp)(Q:VK)(E:XK):Prop
 | mk (v:V) (md nd od dd:Addr) (ot:Str->Option V) (S:Pu) (s:Say) (_:vs=[v,.ref md]) (_:cZ H v s) (_:s.depth<=d) (_:s.ok) (_:cJ H md nd od dd ot S) (_:S.pl.Ok) (_:∀ H',Kp [] H H'->Q (wv 1e19) H'):uH d vs H Q E
def w_arg:S.worth .arg=S.ar:=rfl
def UI:S.worth (.ans s)=fG S.ans 1e19:=rfl
def UN:S.worth (.neg s)=some (if num 1e19=0 then 1 else 0):=rfl
def UP{g:Sg}{a b:Say}:S.worth (.two g a b)=some (g.of (S.worth a) (S.worth b)):=rfl
def VH{w:Wo}{k:Int->Prop}{u:Tg k}:Le (wv w) k u=k (num w):=by cases w<;>rfl
theorem To{a b:Wo}(q:Q (.bl (decide (a=b))) H):I8 (wv a) (wv b) H Q:=by
 cases a<;>cases b<;>(refine⟨rfl,?_⟩;simpa[wv] using q)
def Ic(w:Wo):fG [] w=none:=by cases w<;>rfl
theorem Ii{a b c:V}:eD [] [((.inr (Str.ofString "+"):Key),a),(.inr (Str.ofString "-"),b),(.inr (Str.ofString "*"),c)]=[(.inr (Str.ofString "+"),a),(.inr (Str.ofString "-"),b),(.inr (Str.ofString "*"),c)]:=by
 have n1:=sst (show "+"≠"-" by decide);have n2:=sst (show "+"≠"*" by decide);have n3:=sst (show "-"≠"*" by decide);simp[eD,aO,n1,n2,n3]
def UD{a b c:V}:aX [((.inr (Str.ofString "+"):Key),a),(.inr (Str.ofString "-"),b),(.inr (Str.ofString "*"),c)] (.inr (Str.ofString "+"))=some a:=cE rfl
theorem UH{a b c:V}:aX [((.inr (Str.ofString "+"):Key),a),(.inr (Str.ofString "-"),b),(.inr (Str.ofString "*"),c)] (.inr (Str.ofString "-"))=some b:=by
 rw[b6 (fun z=>sst (show "+"≠"-" by decide) (Key.inr.inj z)),cE rfl]
theorem UG{a b c:V}:aX [((.inr (Str.ofString "+"):Key),a),(.inr (Str.ofString "-"),b),(.inr (Str.ofString "*"),c)] (.inr (Str.ofString "*"))=some c:=by
 rw[b6 (fun z=>sst (show "+"≠"*" by decide) (Key.inr.inj z)),b6 (fun z=>sst (show "-"≠"*" by decide) (Key.inr.inj z)),cE rfl]
theorem gG{a b:String}{x:V}{o:Option V}(e:aX kvs (.inr (Str.ofString a))=o)(h:a≠b:=by decide):aX (aO kvs (.inr (Str.ofString b)) x) (.inr (Str.ofString a))=o:=by
 rw[fO,if_neg (fun z=>sst h (Key.inr.inj z))];exact e
def BU{a:String}{x:V}:aX (aO kvs (.inr (Str.ofString a)) x) (.inr (Str.ofString a))=some x:=by rw[fO,if_pos rfl]
def mN{k:Key}{x:V}(h:aX kvs k=some y):(aO kvs k x).length=kvs.length:=by
 unfold aO;rw[gU,h];simp
def ok6{b:Str}{x:V}(hk:k∈OK6)(h:b∉OK6):aX (aO kvs (.inr b) x) (.inr k)=aX kvs (.inr k):=by
 rw[fO,if_neg (fun z=>h (by cases z;exact hk))]
def made6:(Str.ofString "made")∉OK6:=by simp[OK6,cH]
theorem cJ.made{md nd od:Addr}(M:cJ H md nd od dd ot S)(e:H md=some 1e17):cJ (Wa H md (.dK (aO kvs (.inr "made") (.int ((S.made:Int)+1))))) md nd od dd ot {S with made:=S.made+1}:=by
 obtain⟨kv,e',l,v1,v2,v3,v4,v5,v6⟩:=M.hm;obtain⟨ds,e2,r2⟩:=M.hd;rw[e] at e';cases e';exact {M with
  hm:=⟨_,aA,⟨by rw[mN v4];exact l.1,fun k hk=>by rw[ok6 hk made6];exact l.2 k hk⟩,gG v1,gG v2,gG v3,BU,gG v5,gG v6⟩
  hn:=by rw[aD M.n1.symm];exact M.hn
  ho:=cL e M.ho
  hd:=⟨ds,cL e e2,r2.kt (aE.cI e)⟩
  lt:=fun i hi=>(by have:=M.lt i hi;exact⟨this.1,by show i < ((S.made+1:Nat):Int);omega⟩)
  dis:=fun p hp=>(by have:=M.dis p hp;exact⟨this.1,by show p.1 < ((S.made+1:Nat):Int);omega⟩)}
def cJ.open{md nd od:Addr}(M:cJ H md nd od dd ot S)(a:pd.Pairwise (· < ·))(b:∀ i∈pd,0<=i/\i < S.made)(c:∀ p∈S.ans,p.1∉pd):cJ (Wa H od (.lst (pd.map V.int))) md nd od dd ot {S with pend:=pd}:=by
 obtain⟨kv,e',r⟩:=M.hm;obtain⟨ds,e2,r2⟩:=M.hd;exact {M with
  hm:=⟨kv,cL M.ho e',r⟩
  hn:=cL M.ho M.hn
  ho:=aA
  hd:=⟨ds,by rw[aD M.n2.symm];exact e2,r2.kt (aE.cI M.ho)⟩
  asc:=a
  lt:=b
  dis:=fun p hp=>⟨c p hp,(M.dis p hp).2⟩}
def cJ.name{H:Hp}{md nd od dd:Addr}{ot:Str->Option V}{S:Pu}(M:cJ H md nd od dd ot S)(x:Str)(w:Wo):cJ (Wa H nd (.dK 1e25)) md nd od dd ot {S with nm:=b8 S.nm x w}:=by
 obtain⟨kv,e',r⟩:=M.hm;obtain⟨ds,e2,r2⟩:=M.hd;exact {M with
  hm:=⟨kv,by rw[aD M.n1];exact e',r⟩
  hn:=aA
  ho:=cL M.hn M.ho
  hd:=⟨ds,cL M.hn e2,r2.kt (aE.cI M.hn)⟩}
def cJ.tk{md nd od:Addr}(M:cJ H md nd od dd ot S)(k:Kp D H H')(h:∀ a∈D,a=md\/a=nd\/a=od\/∃ xs,H a=some 1e20):aE H H':=.of k fun a ha=>by
 obtain⟨kv,e',r⟩:=M.hm;rcases h a ha with rfl|rfl|rfl|⟨xs,e⟩
 ·exact⟨_,e',fun _ z=>by cases z⟩
 ·exact⟨_,M.hn,fun _ z=>by cases z⟩
 ·exact⟨_,M.ho,fun _ z=>by cases z⟩
 ·exact⟨_,e,fun _ z=>by cases z⟩
def cJ.other{md nd od:Addr}(M:cJ H md nd od dd ot S)(e:H op=some (.lst us))(n1:op≠od)(n2:op≠dd):cJ (Wa H op (.lst vs)) md nd od dd ot S:=by
 obtain⟨kv,e',r⟩:=M.hm;obtain⟨ds,e2,r2⟩:=M.hd;exact {M with
  hm:=⟨kv,cL e e',r⟩
  hn:=cL e M.hn
  ho:=by rw[aD n1.symm];exact M.ho
  hd:=⟨ds,by rw[aD n2.symm];exact e2,r2.kt (aE.cI e)⟩}
def PR(nw:Int)(w:Wo):(if nw+(if num w > 0 then num w else 0) < 1000000000000 then nw+(if num w > 0 then num w else 0) else 1000000000000)=vK nw w:=by
 cases w with
 | none=>simp[num,vK]
 | some z=>rfl
def cJ.nop{md nd od:Addr}(M:cJ H md nd od dd ot S)(e:H op=some (.lst us))(n1:op≠od):op∉[md,nd,od]:=by
 obtain⟨kv,e',r⟩:=M.hm;simp only[List.mem_cons,List.not_mem_nil,or_false,not_or];exact⟨cP e e' 1e7,cP e M.hn 1e7,n1⟩
inductive GK(vs:List V)(H:Hp)(Q:VK)(E:XK):Prop
 | mk (md nd od dd:Addr) (ot:Str->Option V) (S:Pu) (x:Str) (_:vs=[.ref md,.str x]) (_:cJ H md nd od dd ot S) (_:S.made<=100000) (_:S.pend.length<=100000) (_:S.nm.length<=100000) (_:∀ H',cJ H' md nd od dd ot (S.rF x)->Kp [md,nd,od] H H'->Q (.int S.made) H'):GK vs H Q E
inductive OX(vs:List V)(H:Hp)(Q:VK)(E:XK):Prop
 | mk (md nd od dd op:Addr) (ot:Str->Option V) (v:V) (S:Pu) (m:Stm) (us:List V) (cs:Cmds) (_:vs=[.ref md,v,.ref op]) (_:cJ H md nd od dd ot S) (_:b7 H v m) (_:m.CB=true) (_:m.gd false) (_:S.pl.Ok) (_:S.made<=100000) (_:S.pend.length<=100000) (_:S.nm.length<=100000) (_:H op=some (.lst us)) (_:hZ H us cs) (_:us.length<=100000) (_:op≠od) (_:op≠dd) (_:∀(H':Hp) (us':List V),cJ H' md nd od dd ot (bW S m).1->H' op=some (.lst us')->hZ H' us' (cs++(bW S m).2)->Kp [md,nd,od,op] H H'->Q .Wb H'):OX vs H Q E
theorem kQ:∀ {l:List Int} {i:Int} {k:Nat},l.Pairwise (· < ·)->C7 i l=some k->l.eraseIdx k=l.filter fun j=>decide (j≠i)
 | [],i,k,_,h=>by simp[C7] at h
 | a::l,i,k,p,h=>by
  rw[List.pairwise_cons] at p;unfold C7 at h;rw[List.findIdx?_cons] at h;by_cases e:a=i
  ·subst e;simp only[decide_true,if_true,Option.some.injEq] at h;subst h;rw[List.eraseIdx_cons_zero,List.filter_cons_of_neg 1e1];exact(List.filter_eq_self.mpr fun j hj=>by have:=p.1 j hj;simp;omega).symm
  ·simp only[e,decide_false,Bool.false_eq_true,if_false,Option.map_eq_some_iff] at h;obtain⟨k',e',rfl⟩:=h;rw[List.eraseIdx_cons_succ,List.filter_cons_of_pos (by simpa using e),kQ p.2 e']
def Gy{l:List Int}(h:i∈l):∃ k,C7 i l=some k:=by
 cases e:C7 i l with
 | some k=>exact⟨k,rfl⟩
 | none =>
  unfold C7 at e;rw[List.findIdx?_eq_none_iff] at e;exact absurd (e i h) 1e1
theorem TC(w:Wo)(p:List Int):wF (wv w) (p.map V.int)=decide (∃ i,i∈p/\w=some i):=by
 cases w with
 | none=>simp[wF,wv,tP]
 | some i=>rw[show wv (some i)=.int i from rfl,tW];simp
def qK.pair{b:Addr}(ha:H a=some 1e54)(hb:H b=some 1e54)(hl:xs.length<=100000)(h:∀ v∈xs,gH v):qK H (d+2) 1e11 (.ref b) :=
 .tup ha hb rfl hl fun i x y e1 e2=>by
  rw[e1] at e2;cases e2;exact .atom (h x (List.mem_of_getElem? e1))
def Pu.w(S:Pu)(st:Stk)(x:Slp):Pu:={S with stk:=st,sl:=x}
variable{w:Wo}
def FI(h:m.CB=true):(bW S m).1.sl=S.sl/\(bW S m).1.lt=S.lt/\(bW S m).1.ar=S.ar/\(bW S m).1.nw=S.nw:=by
 cases m with
 | drop s =>
  simp only[bW];split
  ·split
   ·exact⟨rfl,rfl,rfl,rfl⟩
   ·exact⟨rfl,rfl,rfl,rfl⟩
  ·exact⟨rfl,rfl,rfl,rfl⟩
 | wait _ _=>cases h
 | Wg _ _=>cases h
 | fin _=>cases h
 | Wu _ _=>cases h
 | iff _ _ _=>cases h
 | _=>exact⟨rfl,rfl,rfl,rfl⟩
theorem Ef(S:Pu)(m:Stm):∀ c∈(bW S m).2,c.length<=100000/\∀ v∈c,gH v:=by
 have at4:∀ {a b c d:V},gH a->gH b->gH c->gH d->∀ v∈[a,b,c,d],gH v:=fun {a b c d} h1 h2 h3 h4 v hv=>by
  simp only[List.mem_cons,List.not_mem_nil,or_false] at hv;rcases hv with rfl|rfl|rfl|rfl<;>assumption
 have at3:∀ {a b c:V},gH a->gH b->gH c->∀ v∈[a,b,c],gH v:=fun {a b c} h1 h2 h3 v hv=>by
  simp only[List.mem_cons,List.not_mem_nil,or_false] at hv;rcases hv with rfl|rfl|rfl<;>assumption
 have at2:∀ {a b:V},gH a->gH b->∀ v∈[a,b],gH v:=fun {a b} h1 h2 v hv=>by
  simp only[List.mem_cons,List.not_mem_nil,or_false] at hv;rcases hv with rfl|rfl<;>assumption
 intro c hc;cases m with
 | order x y s=>rw[show c=_ by simpa[bW] using hc];exact⟨by simp,at4 trivial trivial trivial (lG _)⟩
 | child x y s=>rw[show c=_ by simpa[bW] using hc];exact⟨by simp,at4 trivial trivial trivial (lG _)⟩
 | Wp x s=>rw[show c=_ by simpa[bW] using hc];exact⟨by simp,at3 trivial trivial trivial⟩
 | send s k r=>rw[show c=_ by simpa[bW] using hc];exact⟨by simp,at4 trivial (lG _) trivial (lG _)⟩
 | fin s=>rw[show c=_ by simpa[bW,Pu.ends] using hc];exact⟨by simp,at2 trivial (lG _)⟩
 | drop s =>
  simp only[bW] at hc;split at hc
  ·split at hc
   ·rw[show c=_ by simpa using hc];exact⟨by simp,at2 trivial trivial⟩
   ·simp at hc
  ·simp at hc
 | Wg x k =>
  simp only[bW] at hc;split at hc<;>simp at hc
 | wait x ss =>
  simp only[bW] at hc;split at hc<;>simp at hc
 | set x s=>simp[bW] at hc
 | Wu s b=>simp[bW] at hc
 | iff s b o=>simp[bW] at hc
theorem qK.Sf{b:Addr}(ea:H a=some (.lst us))(eb:H b=some (.lst vs))(ha:hZ H us cs)(hb:hZ H vs cs)(XA:cs.length<=100000)(hA:∀ c∈cs,c.length<=100000/\∀ v∈c,gH v):qK H (d+3) 1e11 (.ref b):=by
 have l1:=ha.len;have l2:=hb.len;refine .lst ea eb 1e0 1e0 fun i x y e1 e2=>?_;obtain⟨a',c,rfl,ec,ea'⟩:=ha.at e1;obtain⟨b',c',rfl,ec',eb'⟩:=hb.at e2;rw[ec] at ec';cases ec';obtain⟨hl,hv⟩:=hA c (List.mem_of_getElem? ec);exact qK.pair ea' eb' hl hv
def qK.ints{b:Addr}(ea:H a=some (.lst 1e63))(eb:H b=some (.lst 1e63))(XA:ns.length<=100000):qK H (d+3) 1e11 (.ref b):=by
 refine .lst ea eb rfl (by simpa using XA) fun i x y e1 e2=>?_;rw[e1] at e2;cases e2;rw[List.getElem?_map] at e1;obtain⟨z,_,rfl⟩:=Option.map_eq_some_iff.mp e1;exact .atom trivial
theorem FR(g:BW wt b)(d:oO b<=20):Wk wt (gS b) 0 :=
 {nm:=Nat.le_refl _,md:=Nat.le_refl _,pd:=Nat.le_refl _,an:=Nat.le_refl _,lt:=Nat.le_refl _,lw:=fun k ws h=>(by cases h)
  pl:=⟨fun _=>kD,kD,fun w=>(by show dU (fG [] w);rw[Ic];exact kD)⟩
  nw:=⟨Int.le_refl _,by show(0:Int)<=1000000000000;decide⟩
  sk:=⟨⟨Nat.zero_le _,by simp⟩,fun x hx=>(by rw[show x=(0,b,0) by simpa[gS] using hx];exact g),⟨by simpa using d,trivial⟩⟩
  sl:=⟨fun k e=>(by cases e),fun k e=>(by cases e)⟩}
def cN{c:TT}{t u:TS}{D:Ends}(h:∀ R:St->Hp->Prop,(∀ σ' H',t D σ' H'->R σ' H')->DD c (fun _=>R) u D σ H):DD c t u D σ H:=h (t D) fun _ _ z=>z
def qP{c:TT}{t u:TS}{D:Ends}(h:∀ R:St->Hp->Prop,(∀ σ' H',u D σ' H'->R σ' H')->DD c t (fun _=>R) D σ H):DD c t u D σ H:=h (u D) fun _ _ z=>z
def JE{c:TT}{tb:TS}{D:Ends}(h:∀ b:TS,(∀ D σ H,tb D σ H->b D σ H)->Fc c b D σ H):Fc c tb D σ H:=h tb fun _ _ _ z=>z
set_option genInjectivity false in
structure CE where
 m:Option Stm
 pt:List Int
 wh:Option Nat
variable{c:List CE}
mutual
noncomputable def Stm.sz:Stm->Nat
 | .Wu _ b=>bY b+2
 | .iff _ b o=>bY b+bY o+2
 | _=>1
noncomputable def bY:List Stm->Nat
 | []=>0
 | m::r=>m.sz+bY r
end
mutual
noncomputable def Be(pt:List Int)(p:Nat):Stm->List CE
 | .Wu s b=>⟨some (.Wu s b),pt,some (p+bY b+2)⟩::(Ac (pt++[0]) 0 (p+1) b++[⟨none,pt,some p⟩])
 | .iff s b o=>⟨some (.iff s b o),pt,some (p+bY b+2)⟩::(Ac (pt++[0]) 0 (p+1) b++(⟨none,pt,some (p+bY b+bY o+2)⟩::Ac (pt++[1]) 0 (p+bY b+2) o))
 | m=>[⟨some m,pt,none⟩]
noncomputable def Ac(pt:List Int)(k p:Nat):List Stm->List CE
 | []=>[]
 | m::r=>Be (pt++[(k:Int)]) p m++Ac pt (k+1) (p+m.sz) r
end
def Tq(h:m.isB=false):Be pt p m=[⟨some m,pt,none⟩]:=by
 cases m<;>first|(simp only[Be];done)|cases h
def IQ(h:m.isB=false):m.sz=1:=by
 cases m<;>first|(simp only[Stm.sz];done)|cases h
mutual
theorem FU(pt:List Int)(p:Nat):∀ m:Stm,(Be pt p m).length=m.sz
 | .Wu s b=>by simp only[Be,Stm.sz,List.length_cons,List.length_append,List.length_nil,fR]
 | .iff s b o=>by simp only[Be,Stm.sz,List.length_cons,List.length_append,fR];omega
 | .set _ _ | .order _ _ _ | .Wp _ _ | .child _ _ _ | .send _ _ _ | .drop _ | .wait _ _ | .Wg _ _ | .fin _=>by simp[Be,Stm.sz]
theorem fR(pt:List Int)(k p:Nat):∀ b:List Stm,(Ac pt k p b).length=bY b
 | []=>by simp[Ac,bY]
 | m::r=>by simp only[Ac,bY,List.length_append,FU,fR]
end
theorem fM:∀ {b:List Stm} {n:Nat} {m:Stm},b[n]?=some m->bY (b.take (n+1))=bY (b.take n)+m.sz
 | [],n,m,h=>by simp at h
 | x::b,0,m,h=>by
  simp only[List.getElem?_cons_zero,Option.some.injEq] at h;subst h;simp[bY]
 | x::b,n+1,m,h=>by
  have:=fM (b:=b) (n:=n) (m:=m) 1e37;simp only[List.take_succ_cons,bY] at this ⊢;omega
def yU(c:List CE)(p:Nat)(xs:List CE):Prop:=∀ i x,xs[i]?=some x->c[p+i]?=some x
def yU.left{xs ys:List CE}(h:yU c p (xs++ys)):yU c p xs:=fun i x e=>h i x (by
 rw[List.getElem?_append_left (List.getElem?_eq_some_iff.mp e).1];exact e)
theorem yU.right{xs ys:List CE}(h:yU c p (xs++ys)):yU c (p+xs.length) ys:=fun i x e=>by
 rw[Nat.add_assoc];exact h (xs.length+i) x (by rw[List.getElem?_append_right 1e0];simpa using e)
def yU.head{x:CE}{xs:List CE}(h:yU c p (x::xs)):c[p]?=some x:=h 0 x rfl
def yU.tail{x:CE}{xs:List CE}(h:yU c p (x::xs)):yU c (p+1) xs:=fun i y e=>by
 rw[Nat.add_assoc,Nat.add_comm 1 i];exact h (i+1) y (by simpa using e)
theorem yU.at{c:List CE}{pt:List Int}:∀ {b:List Stm} {k p n:Nat} {m:Stm},yU c p (Ac pt k p b)->b[n]?=some m->yU c (p+bY (b.take n)) (Be (pt++[((k+n:Nat):Int)]) (p+bY (b.take n)) m)
 | [],_,_,_,_,_,h=>by simp at h
 | x::b,k,p,0,m,hi,h=>by
  simp only[List.getElem?_cons_zero,Option.some.injEq] at h;subst h;simp only[Ac] at hi;simpa[bY] using hi.left
 | x::b,k,p,n+1,m,hi,h=>by
  simp only[Ac] at hi;have r:=hi.right;rw[FU] at r;have:=yU.at (n:=n) (m:=m) r 1e37;rw[List.take_succ_cons,bY,<- Nat.add_assoc]
  rwa [show k+1+n=k+(n+1) by omega] at this
inductive Bs(P:List Stm):Stk->Nat->List Int->Prop
 | bot {n:Nat}:Bs P [(0,P,n)] 0 []
 | Wu {n k2 n2 B:Nat} {s:Say} {b b2:List Stm} {r:Stk} {pt:List Int}:Bs P ((k2,b2,n2)::r) B pt->b2[n2]?=some (.Wu s b)->Bs P ((0,b,n)::(k2,b2,n2)::r) (B+bY (b2.take n2)+1) (pt++[(n2:Int)]++[0])
 | if0 {n k2 n2 B:Nat} {s:Say} {b o b2:List Stm} {r:Stk} {pt:List Int}:Bs P ((k2,b2,n2)::r) B pt->b2[n2]?=some (.iff s b o)->Bs P ((0,b,n)::(k2,b2,n2)::r) (B+bY (b2.take n2)+1) (pt++[(n2:Int)]++[0])
 | if1 {n k2 n2 B:Nat} {s:Say} {b o b2:List Stm} {r:Stk} {pt:List Int}:Bs P ((k2,b2,n2)::r) B pt->b2[n2]?=some (.iff s b o)->Bs P ((1,o,n)::(k2,b2,n2)::r) (B+bY (b2.take n2)+bY b+2) (pt++[(n2:Int)]++[1])
def iV(P:List Stm):List CE:=Ac [] 0 0 P
theorem Bs.inC{B:Nat}(h:Bs P st B pt):∃ k b n r,st=(k,b,n)::r/\yU (iV P) B (Ac pt 0 B b):=by
 induction h with
 | bot=>exact⟨_,_,_,_,rfl,fun i x e=>by rw[Nat.zero_add];exact e⟩
 | Wu hb e ih =>
  obtain⟨_,_,_,_,z,ih⟩:=ih;cases z;have:=yU.at ih e;simp only[Be,Nat.zero_add] at this;exact⟨_,_,_,_,rfl,this.tail.left⟩
 | if0 hb e ih =>
  obtain⟨_,_,_,_,z,ih⟩:=ih;cases z;have:=yU.at ih e;simp only[Be,Nat.zero_add] at this;exact⟨_,_,_,_,rfl,this.tail.left⟩
 | if1 hb e ih =>
  obtain⟨_,_,_,_,z,ih⟩:=ih;cases z;have:=yU.at ih e;simp only[Be,Nat.zero_add] at this;have:=this.tail.right.tail;rw[fR] at this;refine⟨_,_,_,_,rfl,?_⟩
  rwa [show ∀ x y:Nat,x+1+y+1=x+y+2 by omega] at this
def Bs.n{k n:Nat}{r:Stk}{B:Nat}(h:Bs P 1e31 B pt)(n':Nat):Bs P ((k,b,n')::r) B pt:=by
 cases h with
 | bot=>exact .bot
 | Wu hb e=>exact .Wu hb e
 | if0 hb e=>exact .if0 hb e
 | if1 hb e=>exact .if1 hb e
variable{n:Nat}
def Ps(P:List Stm)(st:Stk)(p:Nat):Prop:=∃ B pt k b n r,st=(k,b,n)::r/\Bs P st B pt/\p=B+bY (b.take n)/\n<=b.length
noncomputable def Mb(p:Nat):Stm->Option Nat
 | .Wu _ b=>some (p+bY b+2)
 | .iff _ b _=>some (p+bY b+2)
 | _=>none
def Kb(pt:List Int)(p:Nat)(m:Stm):∃ r,Be pt p m=⟨some m,pt,Mb p m⟩::r:=by
 cases m<;>exact⟨_,by simp only[Be,Mb];rfl⟩
def Ps.ent(h:Ps P st p)(e:Wf st=some m):∃ pt,(iV P)[p]?=some ⟨some m,pt,Mb p m⟩:=by
 obtain⟨B,pt,k,b,n,r,rfl,hB,rfl,hn⟩:=h;obtain⟨_,_,_,_,z,i⟩:=hB.inC;cases z;have:=yU.at i (show b[n]?=some m from e);obtain⟨q,hq⟩:=Kb (pt++[((0+n:Nat):Int)]) (B+bY (b.take n)) m;rw[hq] at this;exact⟨_,this.head⟩
theorem Ps.pass(h:Ps P st p)(e:Wf st=some m):Ps P (fZ st) (p+m.sz):=by
 obtain⟨B,pt,k,b,n,r,rfl,hB,rfl,hn⟩:=h;have e':b[n]?=some m:=e;exact⟨B,pt,k,b,n+1,r,rfl,hB.n _,by rw[fM e'];omega,(List.getElem?_eq_some_iff.mp e').1⟩
theorem Ps.Wu{P:List Stm}{st:Stk}{p:Nat}{s:Say}{b:List Stm}(h:Ps P st p)(e:Wf st=some (.Wu s b)):Ps P ((0,b,0)::st) (p+1):=by
 obtain⟨B,pt,k,b',n,r,rfl,hB,rfl,hn⟩:=h;exact⟨_,_,_,_,_,_,rfl,.Wu hB e,by simp[bY],by omega⟩
theorem Ps.if0{P:List Stm}{st:Stk}{p:Nat}{s:Say}{b o:List Stm}(h:Ps P st p)(e:Wf st=some (.iff s b o)):Ps P ((0,b,0)::st) (p+1):=by
 obtain⟨B,pt,k,b',n,r,rfl,hB,rfl,hn⟩:=h;exact⟨_,_,_,_,_,_,rfl,.if0 hB e,by simp[bY],by omega⟩
theorem Ps.if1{P:List Stm}{st:Stk}{p:Nat}{s:Say}{b o:List Stm}(h:Ps P st p)(e:Wf st=some (.iff s b o)):Ps P ((1,o,0)::st) (p+bY b+2):=by
 obtain⟨B,pt,k,b',n,r,rfl,hB,rfl,hn⟩:=h;exact⟨_,_,_,_,_,_,rfl,.if1 hB e,by simp[bY],by omega⟩
def uX{k:Nat}:bO [(k,b,n)]=[(k,b,n)]:=by simp[bO]
def JB{k:Nat}{x:Nat×List Stm×Nat}{r:Stk}(h:n≠b.length):bO ((k,b,n)::x::r)=(k,b,n)::x::r:=by
 obtain⟨a,c,d⟩:=x;rw[bO,if_neg h]
def uY{k k2 n2:Nat}{b2:List Stm}{r:Stk}:bO ((k,b,b.length)::(k2,b2,n2)::r)=bO ((k2,b2,nZ b2 n2)::r):=by
 rw[bO,if_pos rfl]
theorem Ps.turn:∀(l:Nat) (st:Stk) (p:Nat),st.length=l->Ps P st p -> (p=(iV P).length/\Wf (bO st)=none/\Ps P (bO st) p)\/(∃ m,Wf (bO st)=some m/\Ps P (bO st) p)\/∃ WB p' pt,(iV P)[p]?=some ⟨none,pt,some p'⟩/\Ps P WB p'/\bO WB=bO st/\WB.length < st.length:=by
 intro l
 induction l with
 | zero=>intro st p hl h;obtain⟨_,_,_,_,_,_,rfl,_⟩:=h;simp at hl
 | succ l ih =>
  intro st p hl h;have hh:=h;obtain⟨B,pt,k,b,n,r,rfl,hB,rfl,hn⟩:=h;by_cases e:n=b.length
  ·subst e;cases hB with
   | bot =>
    refine .inl ⟨?_,?_,?_⟩
    ·rw[iV,fR,List.take_length,Nat.zero_add]
    ·rw[uX];simp[Wf]
    ·rw[uX];exact hh
   | @Wu _ k2 n2 B s _ b2 r pt hb e =>
    refine .inr (.inr ?_);obtain⟨_,_,_,_,z,i⟩:=hb.inC;cases z;have:=yU.at i e;simp only[Be,Nat.zero_add] at this;have j:=this.tail.right.head;rw[fR] at j;rw[List.take_length];refine⟨_,_,_,j,⟨_,_,_,_,_,_,rfl,hb,rfl,Nat.le_of_lt (List.getElem?_eq_some_iff.mp e).1⟩,?_,by simp⟩;rw[uY]
    congr 2
    simp[nZ,e,Stm.Bl]
   | @if0 _ k2 n2 B s _ o b2 r pt hb e =>
    refine .inr (.inr ?_);obtain⟨_,_,_,_,z,i⟩:=hb.inC;cases z;have:=yU.at i e;simp only[Be,Nat.zero_add] at this;have j:=this.tail.right.head;rw[fR] at j;rw[List.take_length];refine⟨_,_,_,j,⟨_,_,_,_,n2+1,_,rfl,hb.n _,by rw[fM e,Stm.sz];omega,(List.getElem?_eq_some_iff.mp e).1⟩,?_,by simp⟩;rw[uY];simp[nZ,e,Stm.Bl]
   | @if1 _ k2 n2 B s b0 _ b2 r pt hb e =>
    have hp:Ps P ((k2,b2,n2+1)::r) (B+bY (b2.take n2)+bY b0+2+bY (b.take b.length)):=⟨_,_,_,_,n2+1,_,rfl,hb.n _,by rw[fM e,Stm.sz,List.take_length];omega,(List.getElem?_eq_some_iff.mp e).1⟩;have ec:bO ((1,b,b.length)::(k2,b2,n2)::r)=bO ((k2,b2,n2+1)::r):=by
     rw[uY];simp[nZ,e,Stm.Bl]
    rw[ec];rcases ih _ _ (by simp only[List.length_cons] at hl ⊢;omega) hp with z|z|⟨WB,p',pt',h1,h2,h3,h4⟩
    ·exact .inl z
    ·exact .inr (.inl z)
    ·exact .inr (.inr ⟨WB,p',pt',h1,h2,h3,by simp only[List.length_cons] at h4 ⊢;omega⟩)
  ·have lt:n < b.length:=by omega
   have ec:bO 1e31=(k,b,n)::r:=by
    cases r with
    | nil=>exact uX
    | cons x r=>exact JB e
   rw[ec];exact .inr (.inl ⟨b[n],by simp[Wf,lt],hh⟩)
noncomputable def Stm.kw:Stm->Str
 | .set _ _=>"set" | .order _ _ _=>"order" | .Wp _ _=>"timer" | .child _ _ _=>"child" | .send _ _ _=>"send" | .drop _=>"drop" | .wait _ _=>"wait" | .Wg _ _=>"hear" | .fin _=>"end" | .Wu _ _=>"while" | .iff _ _ _=>"if"
theorem b7.kw(h:b7 H v m):∃ a r,v=.ref a/\H a=some (.tup (.str m.kw::r)):=by
 cases h<;>exact⟨_,_,rfl,by assumption⟩
def b7.VC{o:List Stm}(h:b7 H 1e11 (.iff s b o)):∃ v p q us,H a=some (.tup [.str "if",v,.ref p,.ref q])/\H q=some (.tup us)/\bH H us o:=by
 cases h with
 | iff e _ _ _ eq ho=>exact⟨_,_,_,_,e,eq,ho⟩
def TU(h:m.isB=false):((m.kw=("while":Str))=False)/\((m.kw=("if":Str))=False)/\((m.kw=("jump":Str))=False):=by
 cases m<;>first|(simp[Stm.kw,cH];done)|cases h
theorem RK(m:Stm):1<=m.sz:=by cases m<;>simp only[Stm.sz]<;>omega
theorem kZ:∀ b:List Stm,b.length<=bY b
 | []=>by simp
 | m::r=>by have:=kZ r;have:=RK m;simp only[List.length_cons,bY];omega
theorem LZ:∀(b:List Stm) (n:Nat),bY (b.take n)<=bY b
 | [],_=>by simp
 | _::_,0=>by simp[bY]
 | m::r,n+1=>by have:=LZ r n;simp only[List.take_succ_cons,bY];omega
def kp1T{c:Addr}(k:Kp [c] H H')(e:H c=some 1e20):aE H H':=fun a ys h=>k a _ h (by
 simp only[List.mem_cons,List.not_mem_nil,or_false];intro z;subst z;rw[e] at h;cases h)
def free1{c p:Addr}(k:Kp [c] H G)(e:G c=some o)(h:G p=none):H p=none:=by
 cases z:H p with
 | none=>rfl
 | some u =>
  by_cases hc:p=c
  ·subst hc;rw[e] at h;cases h
  ·rw[k.Wl z hc] at h;cases h
def _root_.L2.Kp.cB{p:Addr}(k:Kp [] H H')(h:H' p=none):H p=none:=by
 cases e:H p with
 | none=>rfl
 | some o=>rw[k.at e] at h;cases h
def pQ{l k:List Addr}(h1:l.Nodup)(h2:k.Nodup)(t:∀ a∈l,∃ o,G a=some o)(f:∀ a∈k,G a=none):(l++k).Nodup:=List.nodup_append.mpr ⟨h1,h2,fun x hx y hy z=>by
 obtain⟨o,e⟩:=t x hx;rw[z,f y hy] at e;cases e⟩
def gF{l k:List Addr}(h1:∀ a∈l,∃ o,G a=some o)(h2:∀ a∈k,∃ o,G a=some o):∀ a∈l++k,∃ o,G a=some o:=fun a ha=>(List.mem_append.mp ha).elim (h1 a) (h2 a)
def kN{p:Addr}(h:G p=some o):∀ a∈[p],∃ o,G a=some o:=fun a ha=>by rw[show a=p by simpa using ha];exact⟨o,h⟩
noncomputable def U0:Option Nat->V
 | none=>.Wb
 | some n=>.int n
noncomputable def DL(H:Hp)(a:Addr)(e:CE):Prop:=∃ pa,H pa=some (.tup (e.pt.map V.int))/\match e.m with
 | some m=>∃ sv,b7 H sv m/\H a=some (.lst [.str m.kw,sv,.ref pa,U0 e.wh])
 | none=>H a=some (.lst [.str "jump",.Wb,.ref pa,U0 e.wh])
def DL.there{e:CE}(h:DL H a e):∃ xs,H a=some 1e20:=by
 obtain⟨pa,_,h⟩:=h;cases hm:e.m with
 | none=>rw[hm] at h;exact⟨_,h⟩
 | some m=>rw[hm] at h;obtain⟨_,_,h⟩:=h;exact⟨_,h⟩
def DL.keep{e:CE}(h:DL H a e)(k:∀ o,H a=some o->H' a=some o)(t:aE H H'):DL H' a e:=by
 obtain⟨pa,hp,h⟩:=h;refine⟨pa,t _ _ hp,?_⟩;cases hm:e.m with
 | none=>rw[hm] at h;exact k _ h
 | some m=>rw[hm] at h;obtain⟨sv,hs,h⟩:=h;exact⟨sv,hs.kp t,k _ h⟩
inductive cX(H:Hp):List Addr->List CE->Prop
 | nil:cX H [] []
 | cons {a:Addr} {e:CE} {as:List Addr} {c:List CE}:DL H a e->cX H as c->cX H (a::as) (e::c)
def cX.len{as:List Addr}(h:cX H as c):as.length=c.length:=by
 induction h with
 | nil=>rfl
 | cons _ _ ih=>simp[ih]
def cX.there{as:List Addr}(h:cX H as c):∀ a∈as,∃ xs,H a=some 1e20:=by
 induction h with
 | nil=>simp
 | cons e _ ih =>
  intro a ha;rcases List.mem_cons.mp ha with rfl|ha
  ·exact e.there
  ·exact ih a ha
def cX.ex{as:List Addr}(h:cX H as c):∀ a∈as,∃ o,H a=some o:=fun a ha=>let ⟨_,e⟩:=h.there a ha;⟨_,e⟩
def cX.keep{as:List Addr}(h:cX H as c)(k:∀ a∈as,∀ o,H a=some o->H' a=some o)(t:aE H H'):cX H' as c:=by
 induction h with
 | nil=>exact .nil
 | cons e _ ih=>exact .cons (e.keep (k _ 1e1) t) (ih fun a ha=>k a (by simp[ha]))
def cX.app{as bs:List Addr}{d:List CE}(h:cX H as c)(g:cX H bs d):cX H (as++bs) (c++d):=by
 induction h with
 | nil=>exact g
 | cons e _ ih=>exact .cons e ih
def cX.at{as:List Addr}(h:cX H as c):∀ {i:Nat} {e:CE},c[i]?=some e->∃ a,as[i]?=some a/\DL H a e:=by
 induction h with
 | nil=>intro i e z;simp at z
 | cons f _ ih =>
  intro i e z;cases i with
  | zero=>simp only[List.getElem?_cons_zero,Option.some.injEq] at z;subst z;exact⟨_,rfl,f⟩
  | succ i=>simpa using ih (by simpa using z)
theorem Cr{pt:List Int}:∀ {b:List Stm} {k p n:Nat} {m:Stm},b[n]?=some m->Ac pt k p (b.take (n+1))=Ac pt k p (b.take n)++Be (pt++[((k+n:Nat):Int)]) (p+bY (b.take n)) m
 | [],_,_,_,_,h=>by simp at h
 | x::b,k,p,0,m,h=>by
  simp only[List.getElem?_cons_zero,Option.some.injEq] at h;subst h;simp[Ac,bY]
 | x::b,k,p,n+1,m,h=>by
  have:=Cr (pt:=pt) (b:=b) (k:=k+1) (p:=p+x.sz) (n:=n) (m:=m) 1e37;simp only[List.take_succ_cons,Ac,bY] at this ⊢;rw[this,List.append_assoc,show k+1+n=k+(n+1) by omega,Nat.add_assoc p]
theorem lR{b:Addr}{ys:List V}(ha:H a=some 1e54)(hb:H b=some (.tup ys))(l:xs.length+ys.length<=1000)(h:∀ p H',H' p=some (.tup (xs++ys))->Kp [] H H'->Q 1e21 H'):D0 1e11 (.ref b) H Q:=by
 unfold D0;rw[J5,ha,hb];refine⟨by rw[sizeLine_eq];omega,?_⟩;split
 ·next e=>subst e;exact h b H (by simpa using hb) Kp.refl
 ·split
  ·next e=>subst e;exact h a H (by simpa using ha) Kp.refl
  ·exact fun p hp=>h p _ aA (Kp.new hp)
inductive BN(d:Nat)(vs:List V)(H:Hp)(Q:VK)(E:XK):Prop
 | mk (bp pp cl:Addr) (us:List V) (b:List Stm) (pt:List Int) (as:List Addr) (_:vs=[.ref bp,.ref pp,.ref cl]) (_:H bp=some (.tup us)) (_:bH H us b) (_:oO b < d) (_:H pp=some (.tup (pt.map V.int))) (_:pt.length+2 * d<=1000) (_:H cl=some (.lst (as.map V.ref))) (_:as.length+bY b<=100000) (_:∀(H':Hp) (new:List Addr),H' cl=some (.lst ((as++new).map V.ref))->cX H' new (Ac pt 0 as.length b)->(∀ a∈new,H a=none)->new.Nodup->Kp [cl] H H'->Q .Wb H'):BN d vs H Q E
def six6(h:k∈OK6):k≠("names":Str)/\k≠("arg":Str)/\k≠("now":Str)/\k≠("made":Str)/\k≠("open":Str)/\k≠("done":Str):=by
 simp only[OK6,List.mem_cons,List.not_mem_nil,or_false] at h;rcases h with rfl|rfl|rfl|rfl|rfl|rfl<;>simp[cH]
def BS{a b:Str}{x:V}{o:Option V}(h:a≠b)(e:aX kvs (.inr a)=o):aX (aO kvs (.inr b) x) (.inr a)=o:=by
 rw[fO,if_neg (fun z=>h (Key.inr.inj z))];exact e
def UE{a:Str}{x:V}:aX (aO kvs (.inr a) x) (.inr a)=some x:=by rw[fO,if_pos rfl]
section
variable{md nd od:Addr}
def cJ.AQ(M:cJ H md nd od dd ot S)(e:H md=some 1e17)(Zf:List 1e35):Wa H md (.dK Zf) nd=some (.dK (fA S.nm))/\Wa H md (.dK Zf) od=some (.lst (S.pend.map V.int))/\∃ ds,Wa H md (.dK Zf) dd=some (.lst ds)/\iB (Wa H md (.dK Zf)) ds S.ans:=by
 obtain⟨ds,e2,r2⟩:=M.hd;exact⟨by rw[aD M.n1.symm];exact M.hn,cL e M.ho,ds,cL e e2,r2.kt (aE.cI e)⟩
def cJ.ot6(M:cJ H md nd od dd ot S)(e:H md=some 1e17)(hk:k∈OK6)(hy:ot k=some y)(v:V):cJ (Wa H md (.dK (aO kvs (.inr k) v))) md nd od dd (fun j=>if j=k then some v else ot j) S:=by
 obtain⟨kv,e',l,v1,v2,v3,v4,v5,v6⟩:=M.hm;rw[e] at e';cases e';obtain⟨b1,b2,b3⟩:=M.AQ e (aO kvs (.inr k) v);obtain⟨n1,n2,n3,n4,n5,n6⟩:=six6 hk;exact {M with
  hm:=⟨_,aA,⟨by rw[mN (by rw[l.2 k hk];exact hy)];exact l.1,fun j hj=>by
   rw[fO];by_cases h:j=k
   ·subst h;simp
   ·rw[if_neg (fun z=>h (Key.inr.inj z)),if_neg h];exact l.2 j hj⟩,BS n1.symm v1,BS n2.symm v2,BS n3.symm v3,BS n4.symm v4,BS n5.symm v5,BS n6.symm v6⟩
  hn:=b1
  ho:=b2
  hd:=b3}
def cJ.now(M:cJ H md nd od dd ot S)(e:H md=some 1e17)(m:Int):cJ (Wa H md (.dK (aO kvs (.inr "now") (.int m)))) md nd od dd ot {S with nw:=m}:=by
 obtain⟨kv,e',l,v1,v2,v3,v4,v5,v6⟩:=M.hm;rw[e] at e';cases e';obtain⟨b1,b2,b3⟩:=M.AQ e (aO kvs (.inr "now") (.int m));exact {M with
  hm:=⟨_,aA,⟨by rw[mN v3];exact l.1,fun k hk=>by rw[BS (six6 hk).2.2.1 rfl];exact l.2 k hk⟩,gG v1,gG v2,BU,gG v4,gG v5,gG v6⟩
  hn:=b1
  ho:=b2
  hd:=b3}
def cJ.arg(M:cJ H md nd od dd ot S)(e:H md=some 1e17)(w:Wo):cJ (Wa H md (.dK (aO kvs (.inr "arg") (wv w)))) md nd od dd ot {S with ar:=w}:=by
 obtain⟨kv,e',l,v1,v2,v3,v4,v5,v6⟩:=M.hm;rw[e] at e';cases e';obtain⟨b1,b2,b3⟩:=M.AQ e (aO kvs (.inr "arg") (wv w));exact {M with
  hm:=⟨_,aA,⟨by rw[mN v2];exact l.1,fun k hk=>by rw[BS (six6 hk).2.1 rfl];exact l.2 k hk⟩,gG v1,BU,gG v3,gG v4,gG v5,gG v6⟩
  hn:=b1
  ho:=b2
  hd:=b3}
def cJ.opn(M:cJ H md nd od dd ot S)(e:H md=some 1e17)(WM:H o2=some 1e10)(n:o2≠dd):cJ (Wa H md (.dK (aO kvs (.inr "open") (.ref o2)))) md nd o2 dd ot {S with pend:=[]}:=by
 obtain⟨kv,e',l,v1,v2,v3,v4,v5,v6⟩:=M.hm;rw[e] at e';cases e';obtain⟨b1,b2,b3⟩:=M.AQ e (aO kvs (.inr "open") (.ref o2));exact {M with
  hm:=⟨_,aA,⟨by rw[mN v5];exact l.1,fun k hk=>by rw[BS (six6 hk).2.2.2.2.1 rfl];exact l.2 k hk⟩,gG v1,gG v2,gG v3,gG v4,BU,gG v6⟩
  hn:=b1
  ho:=cL e WM
  hd:=b3
  n2:=n
  asc:=List.Pairwise.nil
  lt:=fun i hi=>(by simp at hi)
  dis:=fun p hp=>⟨by simp,(M.dis p hp).2⟩}
end
set_option genInjectivity false in
structure Fa where
 md:Addr
 nd:Addr
 od:Addr
 dd:Addr
 ld:Addr
 cl:Addr
 cs:List Addr
 las:List Addr
 nk:Nat
 aw:Addr
variable{A:Fa}
def Fa.mut(A:Fa):List Addr:=[A.md,A.nd,A.od,A.dd,A.ld]++A.las
noncomputable def dZ(H:Hp)(A:Fa)(ot:Str->Option V):Slp->Prop
 | .new=>ot "mode"=some (.str "new")
 | .Wb=>ot "mode"=some (.str "on")
 | .wait ts=>ot "mode"=some (.str "wait")/\ot "awaited"=some (.ref A.aw)/\H A.aw=some (.lst (ts.map V.int))/\A.aw∉A.mut
 | .Wg _=>ot "mode"=some (.str "hear")
 | .ended w=>ot "mode"=some (.str "ended")/\ot "outcome"=some (wv w)
 | .worn=>ot "mode"=some (.str "worn")
structure bM(P:List Stm)(H:Hp)(A:Fa)(S:Pu)(p:Nat):Prop where
 ex:∃ ot:Str->Option V,cJ H A.md A.nd A.od A.dd ot S/\A5 ((∀ k∈OK6,∃ v,ot k=some v)) (ot "code"=some (.ref A.cl)) (ot "at"=some (.int p)) (ot "letters"=some (.ref A.ld)) (dZ H A ot S.sl)
 cl:H A.cl=some (.lst (A.cs.map V.ref))
 co:cX H A.cs (iV P)
 lt:∃ kvs ml,H A.ld=some 1e17/\gI H kvs A.las ml/\((ml.map (·.1)).Nodup/\ml.length<=A.nk)/\∀ k,(aS ml k).getD []=(aS S.lt k).getD []
 ps:Ps P S.stk p
 n1:A.md≠A.ld
 n2:A.nd≠A.ld
 nl:A.las.Nodup
 s1:A.od≠A.cl/\A.od∉A.cs/\A.dd≠A.cl/\A.dd∉A.cs
 s2:∀ a∈A.las,a≠A.od/\a≠A.dd/\a≠A.cl/\a∉A.cs
inductive LP(vs:List V)(H:Hp)(Q:VK)(E:XK):Prop
 | mk (bp:Addr) (us:List V) (b:List Stm) (_:vs=[.ref bp]) (_:H bp=some (.tup us)) (_:bH H us b) (_:oO b < 9) (_:bY b<=1000) (_:∀(A:Fa) (H':Hp),bM b H' A (gS b) 0->(∀ a∈A.mut,H a=none)->A.nk=0->(∃ o,H' A.aw=some o)->Kp [] H H'->Q (.ref A.md) H'):LP vs H Q E
def rS{cl x:Addr}{cs:List Addr}(e:H cl=some o)(h:cX H cs c)(n:H x=none):x≠cl/\x∉cs:=by
 refine⟨fun z=>?_,fun z=>?_⟩
 ·rw[z,e] at n;cases n
 ·obtain⟨o,e⟩:=h.ex x z;rw[e] at n;cases n
theorem ps0(b:List Stm):Ps b (gS b).stk 0:=⟨0,[],0,b,0,[],rfl,.bot,by simp[bY],by omega⟩
def eights{a b c d e f g h:V}:eD [] [((.inr (Str.ofString "code"):Key),a),(.inr (Str.ofString "at"),b),(.inr (Str.ofString "mode"),c),(.inr (Str.ofString "names"),d),(.inr (Str.ofString "arg"),e),(.inr (Str.ofString "now"),f),(.inr (Str.ofString "made"),g),(.inr (Str.ofString "open"),h)]=[((.inr (Str.ofString "code"):Key),a),(.inr (Str.ofString "at"),b),(.inr (Str.ofString "mode"),c),(.inr (Str.ofString "names"),d),(.inr (Str.ofString "arg"),e),(.inr (Str.ofString "now"),f),(.inr (Str.ofString "made"),g),(.inr (Str.ofString "open"),h)]:=by
 simp[eD,aO,cH]
section
variable{H'':Hp}{A' A'':Fa}{S':Pu}{p':Nat}
def bM.far(F:bM P H A S p){b:Addr}(hb:b=A.cl\/b∈A.cs\/b=A.ld\/b∈A.las):b≠A.md/\b≠A.nd/\b≠A.od/\b≠A.dd:=by
 obtain⟨ot,M,_⟩:=F.ex;obtain⟨kvs,em,_⟩:=M.hm;obtain⟨ds,ed,_⟩:=M.hd;obtain⟨lk,ml,el,hl,_⟩:=F.lt;have lst:∀ {xs:List V},H b=some 1e20->b≠A.md/\b≠A.nd:=fun e=>⟨cP e em 1e7,cP e M.hn 1e7⟩;rcases hb with rfl|hb|rfl|hb
 ·exact⟨(lst F.cl).1,(lst F.cl).2,F.s1.1.symm,F.s1.2.2.1.symm⟩
 ·obtain⟨xs,e⟩:=F.co.there b hb;exact⟨(lst e).1,(lst e).2,fun z=>F.s1.2.1 (z▸hb),fun z=>F.s1.2.2.2 (z▸hb)⟩
 ·exact⟨F.n1.symm,F.n2.symm,cP el M.ho 1e7,cP el ed 1e7⟩
 ·obtain⟨xs,e⟩:=hl.ex b hb;exact⟨(lst e).1,(lst e).2,(F.s2 b hb).1,(F.s2 b hb).2.1⟩
def bM.asm(F:bM P H A S p)(M':cJ H' A.md A.nd o2 A.dd ot' S')(Zt:∀ k∈OK6,∃ v,ot' k=some v)(c1:ot' "code"=some (.ref A.cl))(c2:ot' "at"=some (.int p'))(c3:ot' "letters"=some (.ref A.ld))(c4:dZ H' {A with od:=o2} ot' S'.sl)(K:∀ b o,H b=some o->(b=A.cl\/b∈A.cs\/b=A.ld\/b∈A.las)->H' b=some o)(T:aE H H')(hl:S'.lt=S.lt)(hp:Ps P S'.stk p')(so:o2≠A.cl/\o2∉A.cs)(sl:∀ a∈A.las,a≠o2):bM P H' {A with od:=o2} S' p':=by
 obtain⟨lk,ml,el,h1,h0,h2⟩:=F.lt;exact⟨⟨ot',M',Zt,c1,c2,c3,c4⟩,K _ _ F.cl 1e23,F.co.keep (fun a ha o e=>K a o e (.inr (.inl ha))) T,⟨lk,ml,K _ _ el (.inr (.inr 1e23)),h1.keep (fun a ha o e=>K a o e (.inr (.inr (.inr ha)))),h0,fun k=>by rw[hl];exact h2 k⟩,hp,F.n1,F.n2,F.nl,⟨so.1,so.2,F.s1.2.2.1,F.s1.2.2.2⟩,fun a ha=>⟨sl a ha,(F.s2 a ha).2⟩⟩
def bM.oH(F:bM P H A S p)(M':cJ H' A.md A.nd A.od A.dd ot' S')(Zt:∀ k∈OK6,∃ v,ot' k=some v)(c1:ot' "code"=some (.ref A.cl))(c2:ot' "at"=some (.int p'))(c3:ot' "letters"=some (.ref A.ld))(c4:dZ H' A ot' S'.sl)(K:∀ b o,H b=some o->(b=A.cl\/b∈A.cs\/b=A.ld\/b∈A.las)->H' b=some o)(T:aE H H')(hl:S'.lt=S.lt)(hp:Ps P S'.stk p'):bM P H' A S' p' :=
 F.asm M' Zt c1 c2 c3 c4 K T hl hp ⟨F.s1.1,F.s1.2.1⟩ fun a ha=>(F.s2 a ha).1
def bM.Pp(F:bM P H A S p){las:List Addr}{nk:Nat}(M':cJ H' A.md A.nd A.od A.dd ot' S')(Zt:∀ k∈OK6,∃ v,ot' k=some v)(c1:ot' "code"=some (.ref A.cl))(c2:ot' "at"=some (.int p'))(c3:ot' "letters"=some (.ref A.ld))(c4:dZ H' {A with las:=las,nk:=nk} ot' S'.sl)(K:∀ b o,H b=some o->(b=A.cl\/b∈A.cs)->H' b=some o)(T:aE H H')(hl:∃ kvs ml,H' A.ld=some 1e17/\gI H' kvs las ml/\((ml.map (·.1)).Nodup/\ml.length<=nk)/\∀ k,(aS ml k).getD []=(aS S'.lt k).getD [])(hp:Ps P S'.stk p')(nd:las.Nodup)(s2:∀ a∈las,a≠A.od/\a≠A.dd/\a≠A.cl/\a∉A.cs):bM P H' {A with las:=las,nk:=nk} S' p' :=
 ⟨⟨ot',M',Zt,c1,c2,c3,c4⟩,K _ _ F.cl 1e23,F.co.keep (fun a ha o e=>K a o e (.inr ha)) T,hl,hp,F.n1,F.n2,nd,F.s1,s2⟩
def dZ.keep{s:Slp}(h:dZ H A ot s)(k:∀ b o,H b=some o->b∉A.mut->H' b=some o):dZ H' A ot s:=by
 cases s with
 | wait ts=>obtain⟨h1,h2,h3,h4⟩:=h;exact⟨h1,h2,k _ _ h3 h4,h4⟩
 | _=>exact h
def bM.kp(F:bM P H A S p)(k:Kp [] H H'):bM P H' A S p:=by
 obtain⟨ot,M,os,c1,c2,c3,c4⟩:=F.ex;exact F.oH (M.kp k) os c1 c2 c3 (c4.keep fun _ _ e _=>k.at e) (fun _ _ e _=>k.at e) (aE.nil k) rfl F.ps
def bM.Up(F:bM P H A S p)(n:S.sl=.Wb)(a:Addr):bM P H {A with aw:=a} S p:=by
 obtain⟨ot,M,os,c1,c2,c3,c4⟩:=F.ex;exact⟨⟨ot,M,os,c1,c2,c3,by rw[n] at c4 ⊢;exact c4⟩,F.cl,F.co,F.lt,F.ps,F.n1,F.n2,F.nl,F.s1,F.s2⟩
def gJ(H:Hp)(A:Fa)(op:Addr)(cs:Cmds):Prop:=∃ us,H op=some (.lst us)/\hZ H us cs/\op∉A.mut/\op≠A.cl/\op∉A.cs
def gJ.kp(h:gJ H A op cs)(k:Kp [] H H'):gJ H' A op cs:=by
 obtain⟨us,e,c,r⟩:=h;exact⟨us,k.at e,c.kt (aE.nil k),r⟩
structure Fm(D:List Addr)(A A':Fa)(H H':Hp):Prop where
 kp:∀ b o,H b=some o->b∉A.mut->b∉D->H' b=some o
 st:∀ b o,H b=some o->∃ u,H' b=some u
 nw:∀ b∈A'.mut,b∈A.mut\/H b=none
 m1:A'.md=A.md/\A'.cl=A.cl/\A'.cs=A.cs
 nk:A'.nk=A.nk
 na:A'.aw=A.aw\/(H A'.aw=none/\∃ o,H' A'.aw=some o)
def Fm.refl:Fm D A A H H:=⟨fun _ _ e _ _=>e,fun _ o e=>⟨o,e⟩,fun _ h=>.inl h,⟨rfl,rfl,rfl⟩,rfl,.inl rfl⟩
def Fm.trans(x:Fm D A A' H H')(y:Fm D A' A'' H' H''):Fm D A A'' H H'':=by
 refine⟨fun b o e h1 h2=>y.kp b o (x.kp b o e h1 h2) (fun z=>?_) h2,fun b o e=>?_,fun b hb=>?_,⟨y.m1.1.trans x.m1.1,y.m1.2.1.trans x.m1.2.1,y.m1.2.2.trans x.m1.2.2⟩,y.nk.trans x.nk,?_⟩
 ·rcases x.nw b z with z|z
  ·exact h1 z
  ·rw[z] at e;cases e
 ·obtain⟨u,e'⟩:=x.st b o e;exact y.st b u e'
 ·rcases y.nw b hb with z|z
  ·exact x.nw b z
  ·refine .inr ?_;cases e:H b with
   | none=>rfl
   | some o =>
    obtain⟨u,e'⟩:=x.st b o e;rw[z] at e';cases e'
 ·rcases y.na with z|⟨z,zz⟩
  ·rw[z];rcases x.na with w|⟨w,o,e⟩
   ·exact .inl w
   ·exact .inr ⟨w,y.st _ o e⟩
  ·refine .inr ⟨?_,zz⟩;cases e:H A''.aw with
   | none=>rfl
   | some o =>
    obtain⟨u,e'⟩:=x.st _ o e;rw[z] at e';cases e'
def Fm.awN(x:Fm D A A H H')(h:H a=none)(e:H' a=some o):Fm D A {A with aw:=a} H H':=⟨x.kp,x.st,x.nw,x.m1,x.nk,.inr ⟨h,o,e⟩⟩
def Fm.of(k:Kp [] H H'):Fm D A A H H':=⟨fun _ _ e _ _=>k.at e,fun _ o e=>⟨o,k.at e⟩,fun _ h=>.inl h,⟨rfl,rfl,rfl⟩,rfl,.inl rfl⟩
def Fm.set{b:Addr}{o:HO}(h:b∈A.mut\/b∈D):Fm D A A H (Wa H b o):=by
 refine⟨fun c u e h1 h2=>by rw[aD (fun z=>by subst z;exact h.elim h1 h2)];exact e,fun c u e=>?_,fun _ h=>.inl h,⟨rfl,rfl,rfl⟩,rfl,.inl rfl⟩;by_cases z:c=b
 ·subst z;exact⟨_,aA⟩
 ·exact⟨u,by rw[aD z];exact e⟩
def Fm.ofK{E:List Addr}(k:Kp E H H')(h:∀ b∈E,(b∈A.mut\/b∈D)/\∃ u,H' b=some u):Fm D A A H H':=by
 refine⟨fun b o e h1 h2=>k b o e (fun z=>(h b z).1.elim h1 h2),fun b o e=>?_,fun _ h=>.inl h,⟨rfl,rfl,rfl⟩,rfl,.inl rfl⟩;by_cases z:b∈E
 ·exact(h b z).2
 ·exact⟨o,k b o e z⟩
def Fm.od(F:Fm D A A H H')(h:H o2=none):Fm D A {A with od:=o2} H H':=by
 refine⟨F.kp,F.st,fun b hb=>?_,⟨rfl,rfl,rfl⟩,rfl,.inl rfl⟩;simp only[Fa.mut,List.mem_append,List.mem_cons,List.not_mem_nil,or_false] at hb ⊢;rcases hb with(rfl|rfl|rfl|rfl|rfl)|hb
 ·exact .inl 1e1
 ·exact .inl 1e1
 ·exact .inr h
 ·exact .inl 1e1
 ·exact .inl 1e1
 ·exact .inl (.inr hb)
def bM.tup(F:bM P H A S p){b:Addr}(hb:b∈A.mut):∃ o,H b=some o/\∀ xs,o≠.tup xs:=by
 obtain⟨ot,M,_⟩:=F.ex;obtain⟨kvs,em,_⟩:=M.hm;obtain⟨ds,ed,_⟩:=M.hd;obtain⟨lk,ml,el,hl,_⟩:=F.lt;simp only[Fa.mut,List.mem_append,List.mem_cons,List.not_mem_nil,or_false] at hb;rcases hb with(rfl|rfl|rfl|rfl|rfl)|hb
 ·exact⟨_,em,fun _ z=>by cases z⟩
 ·exact⟨_,M.hn,fun _ z=>by cases z⟩
 ·exact⟨_,M.ho,fun _ z=>by cases z⟩
 ·exact⟨_,ed,fun _ z=>by cases z⟩
 ·exact⟨_,el,fun _ z=>by cases z⟩
 ·obtain⟨xs,e⟩:=hl.ex b hb;exact⟨_,e,fun _ z=>by cases z⟩
def bM.tkp(F:bM P H A S p)(f:Fm [op] A A' H H')(e:H op=some (.lst us)):aE H H':=fun a xs h=>f.kp a _ h (fun z=>by
 obtain⟨o,e',n⟩:=F.tup z;rw[h] at e';cases e';exact n xs rfl) (by
 simp only[List.mem_cons,List.not_mem_nil,or_false];intro z;subst z;rw[h] at e;cases e)
def Ub(h:op∉A.mut)(n:op≠o2):op∉({A with od:=o2}:Fa).mut:=by
 simp only[Fa.mut,List.mem_append,List.mem_cons,List.not_mem_nil,or_false,not_or] at h ⊢;exact⟨⟨h.1.1,h.1.2.1,n,h.1.2.2.2⟩,h.2⟩
def OR(h:∀ j∈OK6,∃ u,ot j=some u):∀ j∈OK6,∃ u,(fun j=>if j=k then some v else ot j) j=some u:=fun j hj=>by
 by_cases e:j=k
 ·exact⟨v,by simp[e]⟩
 ·obtain⟨u,z⟩:=h j hj;exact⟨u,by simp[e,z]⟩
def cJ.six{H0:Hp}{md nd od:Addr}(M:cJ H md nd od dd ot S)(e:H md=some 1e17)(hk:k∈OK6)(hy:ot k=some y)(os:∀ j∈OK6,∃ u,ot j=some u)(KM:Kp D H0 H)(TM:aE H0 H)(hd:md∈D)(v:V){P:Hp->Prop}(h:∀ G,cJ G md nd od dd (fun j=>if j=k then some v else ot j) S->(∀ j∈OK6,∃ u,(fun j=>if j=k then some v else ot j) j=some u)->Kp D H0 G->aE H0 G->(∀ {b:Addr} {o:HO},H b=some o->o≠.dK kvs->G b=some o)->aE H G->Kp [md] H G->P G):P (Wa H md (.dK (aO kvs (.inr k) v))) :=
 h _ (M.ot6 e hk hy v) (OR os) (KM.trans (Kp.set hd)) (TM.trans (aE.cI e)) (fun e1 d=>cL e e1 d) (aE.cI e) (Kp.set 1e1)
def uG(l:List 1e35)(k:Key)(v:V):(aO l k v).length<=l.length+1:=by
 unfold aO;split<;>simp
theorem dS{a b:String}(h:a≠b:=by decide):(fun j=>if j=Str.ofString b then some v else ot j) (Str.ofString a)=ot (Str.ofString a):=by
 simp only;rw[if_neg (sst h)]
def xM:(fun j=>if j=k then some v else ot j) k=some v:=by simp
end
def cJ.as{md nd od:Addr}{S':Pu}(M:cJ H md nd od dd ot S)(h:S'.ar=S.ar/\S'.nw=S.nw/\S'.nm=S.nm/\S'.made=S.made/\S'.pend=S.pend/\S'.ans=S.ans):cJ H md nd od dd ot S':=by
 obtain⟨h1,h2,h3,h4,h5,h6⟩:=h;exact⟨by rw[h1,h2,h4];exact M.hm,by rw[h3];exact M.hn,by rw[h5];exact M.ho,by rw[h6];exact M.hd,M.n1,M.n2,by rw[h5];exact M.asc,by rw[h5,h4];exact M.lt,by rw[h6];exact M.uq,by rw[h6,h5,h4];exact M.dis⟩
variable{as:List Addr}
def bM.FQ(F:bM P H A S p)(s1:op∉A.mut)(s2:op≠A.cl)(s3:op∉A.cs){b:Addr}(hb:b=A.cl\/b∈A.cs\/b=A.ld\/b∈A.las):b≠A.md/\b≠A.nd/\b≠A.od/\b≠A.dd/\b≠op:=by
 obtain⟨a1,a2,a3,a4⟩:=F.far hb;refine⟨a1,a2,a3,a4,?_⟩;simp only[Fa.mut,List.mem_append,List.mem_cons,List.not_mem_nil,or_false,not_or] at s1;rcases hb with rfl|hb|rfl|hb
 ·exact s2.symm
 ·exact fun z=>s3 (z▸hb)
 ·exact fun z=>s1.1.2.2.2.2 z.symm
 ·exact fun z=>s1.2 (z▸hb)
def bM.new(F:bM P H A S p){x:Addr}(h:H x=none):(x≠A.cl/\x∉A.cs)/\(∀ a∈A.las,a≠x)/\x∉A.mut:=by
 obtain⟨lk,ml,el,hl,_⟩:=F.lt;refine⟨rS F.cl F.co h,fun a ha=>?_,fun z=>?_⟩
 ·obtain⟨xs,e⟩:=hl.ex a ha;exact aF e h
 ·obtain⟨o,e,_⟩:=F.tup z;rw[h] at e;cases e
def aV:A.md∈A.mut/\A.nd∈A.mut/\A.od∈A.mut/\A.dd∈A.mut/\A.ld∈A.mut:=by simp[Fa.mut]
noncomputable def Pj(P:List Stm)(A:Fa)(op:Addr)(H:Hp)(Q:VK)(cs:Cmds)(z:Pu×Cmds):Prop:=∀(A':Fa) (p':Nat) (H':Hp),bM P H' A' z.1 p'->gJ H' A' op (cs++z.2)->Fm [op] A A' H H'->Q .Wb H'
inductive LM(vs:List V)(H:Hp)(Q:VK)(E:XK):Prop
 | mk (P:List Stm) (A:Fa) (S:Pu) (p:Nat) (w:Wo) (op:Addr) (cs:Cmds) (_:vs=[.ref A.md,wv w,.ref op]) (_:bM P H A S p) (_:gJ H A op cs) (_:cs.length<=1000) (_:Pj P A op H Q cs (S.ends w)):LM vs H Q E
inductive EY(g:Stm->Prop)(vs:List V)(H:Hp)(Q:VK)(E:XK):Prop
 | mk (P:List Stm) (A:Fa) (S:Pu) (p:Nat) (v:V) (m:Stm) (_:vs=[.ref A.md,v]) (_:bM P H A S p) (_:S.sl=.Wb) (_:b7 H v m) (_:g m) (_:m.gd true) (_:Wf S.stk=some m) (_:S.pl.Ok) (_:S.nm.length<=100000) (_:S.pend.length<=100000) (_:S.ans.length<=100000) (_:∀(A':Fa) (p':Nat) (H':Hp),bM P H' A' (one S m).1 p'->Fm [] A A' H H'->Q .Wb H'):EY g vs H Q E
theorem Bj(i:Int):∀ ws:List Wo,wF (.int i) (ws.map wv)=decide (some i∈ws)
 | []=>by simp[wF]
 | none::r=>by
  have:=Bj i r;simp only[List.map_cons,List.mem_cons,reduceCtorEq,false_or] at this ⊢;rw[<- this];simp[wF,wv,tP]
 | some j::r=>by
  have:=Bj i r;simp only[List.map_cons,List.mem_cons,Option.some.injEq] at this ⊢;rw[Bool.eq_iff_iff] at this ⊢;simp only[decide_eq_true_eq] at this ⊢;rw[<- this];simp only[wF,List.any_cons,Bool.or_eq_true];constructor
  ·rintro(h|h)
   ·exact .inl (by simp only[tP,wv,beq_iff_eq] at h;omega)
   ·exact .inr h
  ·rintro(h|h)
   ·exact .inl (by simp only[tP,wv,beq_iff_eq];omega)
   ·exact .inr h
def Cs(ws:List Wo):(ws.map wv).all eL=true:=by simp[uI]
def Od{b:Addr}(ha:H a=some 1e20)(hb:H b=some 1e10):yW K H 1 a b xs.isEmpty:=by
 cases xs with
 | nil =>
  have:=yW.list (K:=K) (H:=H) (n:=0) (e:=fun _=>true) (e9.of ha) (e9.of hb) rfl (fun j x y e _=>by simp at e);simpa using this
 | cons x xs=>exact yW.Xv (e9.of ha) (e9.of hb) 1e1
theorem nD{pend:List Int}{j:Int}:∀ {ws:List Wo},j∈dB pend ws↔j∈pend/\some j∈ws
 | []=>by simp[dB]
 | none::r=>by simp only[dB,nD (ws:=r)];simp
 | some i::r=>by
  simp only[dB];split
  ·next h =>
   simp only[List.mem_cons,nD (ws:=r),Option.some.injEq];constructor
   ·rintro(rfl|h2)
    ·exact⟨h,.inl rfl⟩
    ·exact⟨h2.1,.inr h2.2⟩
   ·rintro⟨h1,rfl|h2⟩
    ·exact .inl rfl
    ·exact .inr ⟨h1,h2⟩
  ·next h =>
   simp only[List.mem_cons,nD (ws:=r),Option.some.injEq];constructor
   ·rintro⟨h1,h2⟩;exact⟨h1,.inr h2⟩
   ·rintro⟨h1,rfl|h2⟩
    ·exact absurd h1 h
    ·exact⟨h1,h2⟩
theorem C3(h:pend.Pairwise (· < ·))(ws:List Wo):pend.filter (fun i=>decide (some i∈ws))=bI pend ws:=by
 refine mT ((List.perm_ext_iff_of_nodup ?_ ((fY pend ws).imp fun h=>by omega)).mpr fun j=>?_) ((h.filter _).imp fun h=>by omega) (fY pend ws)
 ·exact(h.filter _).imp fun h=>by omega
 ·rw[lA,nD,List.mem_filter];simp
def cU(ans:List 1e57)(ws:List Wo):List Int:=(ans.filter fun p=>decide (some p.1∈ws)).map (·.1)
def mO(ans:List 1e57)(ws:List Wo):aZ ans ws=(cU ans ws).head?:=by
 unfold aZ cU
 induction ans with
 | nil=>rfl
 | cons x r ih =>
  by_cases h:some x.1∈ws
  ·simp[List.find?_cons,h]
  ·simp only[List.find?_cons,List.filter_cons,h,decide_false,Bool.false_eq_true,if_false];exact ih
theorem EV{i:Nat}(e:ans[i]?=some (j,w)):(cU (ans.take (i+1)) ws).map V.int=if decide (some j∈ws)=true then (cU (ans.take i) ws).map V.int++[.int j] else (cU (ans.take i) ws).map V.int:=by
 unfold cU;rw[List.take_add_one,e,Option.toList_some,List.filter_append];by_cases h:some j∈ws<;>simp[h]
def HQ{l:List Int}{q:Int->Bool}{i:Nat}(e:l[i]?=some j):((l.take (i+1)).filter q).map V.int=if q j=true then ((l.take i).filter q).map V.int++[.int j] else ((l.take i).filter q).map V.int:=by
 rw[List.take_add_one,e,Option.toList_some,List.filter_append];by_cases h:q j=true<;>simp[h]
def Lz(ans:List 1e57)(ws:List Wo):((cU ans ws).map V.int++[V.Wb])[0]?=some (wv (aZ ans ws)):=by
 rw[mO];cases cU ans ws<;>rfl
def IJ(ans:List 1e57)(ws:List Wo):(cU ans ws).length<=ans.length:=by
 rw[cU,List.length_map];exact List.length_filter_le _ _
theorem k7:∀(l:List 1e32) (k:Str) (r:List Wo) (j:Str),aS (dF l k r) j=if j=k then (aS l k).map (fun _=>r) else aS l j
 | [],k,r,j=>by simp[aS,dF]
 | p::l,k,r,j=>by
  have ih:=k7 l k r j;by_cases h:p.1=k
  ·by_cases hj:j=k
   ·subst hj;simp[dF,aS,h]
   ·have:¬ p.1=j:=fun z=>hj (z▸h);have hk:¬ k=j:=fun z=>hj z.symm;simp[dF,aS,h,hj,hk]
  ·simp only[dF,h,if_false,aS,ih];by_cases hj:j=k
   ·subst hj;simp[h]
   ·simp[hj]
theorem nK:∀(l:List 1e32) (k:Str) (r:List Wo),(dF l k r).map (·.1)=l.map (·.1)
 | [],_,_=>rfl
 | p::l,k,r=>by
  simp only[dF];split
  ·rfl
  ·simp[nK l k r]
def wA{l:List 1e32}{r':List Wo}(h:(aS l k).getD []=w::r')(r:List Wo)(j:Str):(aS (dF l k r) j).getD []=if j=k then r else (aS l j).getD []:=by
 rw[k7];by_cases hj:j=k
 ·rw[if_pos hj,if_pos hj];cases e:aS l k with
  | none=>rw[e] at h;simp at h
  | some v=>rfl
 ·rw[if_neg hj,if_neg hj]
noncomputable def Slp.md:Slp->Str
 | .new=>"new" | .Wb=>"on" | .wait _=>"wait" | .Wg _=>"hear" | .ended _=>"ended" | .worn=>"worn"
def dZ.md{s:Slp}(h:dZ H A ot s):ot "mode"=some (.str s.md):=by
 cases s with
 | wait ts=>exact h.1
 | ended w=>exact h.1
 | _=>exact h
def TZ(s:Slp):(s.md=("on":Str))=(s.isN=true):=by
 cases s<;>simp[Slp.md,Slp.isN,cH]
def j8(h:Wf S.bC.stk=none)(n:Nat):dH n S=S.bC.ends none:=by
 cases n<;>simp only[dH,h]
def qX(h:Wf S.bC.stk=some m):dH 0 S=S.bC.mW:=by simp only[dH,h]
def qV(h:Wf S.bC.stk=some m)(n:Nat):dH (n+1) S=if (one S.bC m).1.sl.isN=true then ((dH n (one S.bC m).1).1,(one S.bC m).2++(dH n (one S.bC m).1).2) else one S.bC m:=by simp only[dH,h]
def Ki(h:bO st=bO S.stk)(n:Nat):dH n {S with stk:=st}=dH n S:=by
 have e:({S with stk:=st}:Pu).bC=S.bC:=by simp only[Pu.bC,h]
 cases n<;>simp only[dH,e]
def bM.stk(F:bM P H A S p)(h:Ps P st p):bM P H A {S with stk:=st} p:=by
 obtain⟨ot,M,os,c1,c2,c3,c4⟩:=F.ex;exact F.oH (M.as ⟨rfl,rfl,rfl,rfl,rfl,rfl⟩) os c1 c2 c3 c4 (fun _ _ e _=>e) (fun _ _ e=>e) rfl h
def bM.setAt(F:bM P H A S p)(e:H A.md=some 1e17){p':Nat}(h:Ps P st p'):bM P (Wa H A.md (.dK (aO kvs 1e40 (.int (p':Int))))) A {S with stk:=st} p':=by
 obtain⟨ot,M,os,c1,c2,c3,c4⟩:=F.ex;refine F.oH ((M.ot6 e (k:="at") 1e8 c2 (.int (p':Int))).as ⟨rfl,rfl,rfl,rfl,rfl,rfl⟩) (OR os) ((dS).trans c1) xM ((dS).trans c3) ?_ (fun b o z hb=>by rw[aD (F.far hb).1];exact z) (aE.cI e) rfl h;have c5:=dZ.keep (H':=Wa H A.md (.dK (aO kvs 1e40 (.int (p':Int))))) c4 (fun b o z hb=>by rw[aD (fun y=>hb (by rw[y];exact aV.1))];exact z);show dZ _ _ _ S.sl;cases hs:S.sl with
 | wait ts=>rw[hs] at c5;obtain⟨a1,a2,a3,a4⟩:=c5;exact⟨(dS).trans a1,(dS).trans a2,a3,a4⟩
 | ended w=>rw[hs] at c5;exact⟨(dS).trans c5.1,(dS).trans c5.2⟩
 | _=>rw[hs] at c5;exact(dS).trans c5
def gJ.md(h:gJ H A op cs)(e:H A.md=some 1e17)(Zf:List 1e35):gJ (Wa H A.md (.dK Zf)) A op cs:=by
 obtain⟨us,eo,hC,s⟩:=h;exact⟨us,cL e eo,hC.kt (aE.cI e),s⟩
theorem Oo(h:U3 st):st.length<=21:=by
 cases st with
 | nil=>simp
 | cons x r=>obtain⟨a,b,c⟩:=x;have:=h.1;simp only[List.length_cons];omega
inductive OV(vs:List V)(H:Hp)(Q:VK)(E:XK):Prop
 | mk (P:List Stm) (A:Fa) (S:Pu) (p:Nat) (op:Addr) (N:Nat) (_:vs=[.ref A.md,.ref op]) (_:bM P H A S p) (_:gJ H A op []) (_:Wk true {S with sl:=.Wb} N) (_:N<=90000) (_:Pj P A op H Q [] (dH 300 {S with sl:=.Wb})):OV vs H Q E
def TR(m:Stm):wF (.str m.kw) [.str "if",.str "while"]=m.isB:=by
 cases m<;>simp[wF,tP,Stm.kw,Stm.isB,cH]
def TV(m:Stm):(m.kw=("wait":Str))=(∃ x ss,m=.wait x ss):=by
 cases m<;>simp[Stm.kw,cH]
def TQ(m:Stm):(m.kw=("hear":Str))=(∃ x k,m=.Wg x k):=by
 cases m<;>simp[Stm.kw,cH]
def TK(m:Stm):(m.kw=("end":Str))=(∃ s,m=.fin s):=by
 cases m<;>simp[Stm.kw,cH]
def Kg(h:m.CB=true)(g:m.gd true):m.gd false:=by
 cases m<;>first|exact g|cases h
def Fm.mono{E:List Addr}{A':Fa}(x:Fm D A A' H H')(h:∀ a∈D,a∈E:=by simp):Fm E A A' H H':=⟨fun b o e h1 h2=>x.kp b o e h1 fun z=>h2 (h b z),x.st,x.nw,x.m1,x.nk,x.na⟩
def Fm.to{A':Fa}(x:Fm D A A' H H')(n:Nat):Fm D {A with nk:=n} {A' with nk:=n} H H':=⟨x.kp,x.st,x.nw,x.m1,rfl,x.na⟩
def Fm.eta{A':Fa}(x:Fm D A A' H H'):Fm D A {A' with nk:=A.nk} H H':=⟨x.kp,x.st,x.nw,x.m1,rfl,x.na⟩
def gJ.fm{A':Fa}(O:gJ H A op cs)(F:bM P H A S p)(W:Fm [] A A' H H'):gJ H' A' op cs:=by
 obtain⟨us,eo,hC,s1,s2,s3⟩:=O;have T:=F.tkp (W.mono (E:=[op]) 1e1) eo;refine⟨us,W.kp _ _ eo s1 1e1,hC.kt T,fun z=>?_,by rw[W.m1.2.1];exact s2,by rw[W.m1.2.2];exact s3⟩;rcases W.nw op z with z|z
 ·exact s1 z
 ·rw[z] at eo;cases eo
def OQ(h:(∃ x ss,m=.wait x ss)\/∃ x k,m=.Wg x k):(one S m).2=[]:=by
 rcases h with⟨x,ss,rfl⟩|⟨x,k,rfl⟩
 ·rw[i6 rfl];simp only[bW];split<;>rfl
 ·rw[i6 rfl];simp only[bW];split<;>rfl
def Gm:one S (.fin s)=S.ends 1e19:=by
 rw[i6 rfl];rfl
def Li(h:m.CB=true)(n:S.sl=.Wb):one S m=((bW S m).1.pass,(bW S m).2):=by
 have hb:m.isB=false:=by cases m<;>first|rfl|cases h
 rw[i6 hb,if_pos (by rw[(FI h).1,n];rfl)]
def t9:one S (.Wu s b)=(if num 1e19=0 then S.pass else S.enter 0 b,[]):=by rw[An rfl];rfl
def t8{o:List Stm}:one S (.iff s b o)=(if num 1e19=0 then S.enter 1 o else S.enter 0 b,[]):=by rw[An rfl];rfl
def Ug(h1:¬ m.isB=true)(h2:¬ ∃ x ss,m=.wait x ss)(h3:¬ ∃ x k,m=.Wg x k)(h4:¬ ∃ s,m=.fin s):m.CB=true:=by
 cases m<;>first|rfl|exact absurd rfl h1|exact absurd ⟨_,_,rfl⟩ h2|exact absurd ⟨_,_,rfl⟩ h3|exact absurd ⟨_,rfl⟩ h4
def bM.Uq(F:bM P H A S p)(x:Str)(w:Wo):bM P (Wa H A.nd (.dK 1e25)) A {S with nm:=b8 S.nm x w} p:=by
 obtain⟨ot,M,os,c1,c2,c3,c4⟩:=F.ex;exact F.oH (M.name x w) os c1 c2 c3 (c4.keep fun b o z hb=>by rw[aD (fun y=>hb (by rw[y];exact aV.2.1))];exact z) (fun b o z hb=>by rw[aD (F.far hb).2.1];exact z) (aE.cI M.hn) rfl F.ps
def gJ.nd(h:gJ H A op cs)(F:bM P H A S p)(Zf:List 1e35):gJ (Wa H A.nd (.dK Zf)) A op cs:=by
 obtain⟨us,eo,hC,s⟩:=h;obtain⟨ot,M,_⟩:=F.ex;exact⟨us,cL M.hn eo,hC.kt (aE.cI M.hn),s⟩
inductive LI(vs:List V)(H:Hp)(Q:VK)(E:XK):Prop
 | mk (P:List Stm) (A:Fa) (S:Pu) (p:Nat) (w:Wo) (op:Addr) (N:Nat) (_:vs=[.ref A.md,wv w,.ref op]) (_:bM P H A S p) (_:gJ H A op []) (_:Wk true S N) (_:N<=80000) (_:dU w) (_:((∃ k,S.sl=.Wg k)\/∃ ts,S.sl=.wait ts)) (_:Pj P A op H Q [] (S.wake w)):LI vs H Q E
def Ow(F:Wk wt S N)(h:(∃ k,S.sl=.Wg k)\/∃ ts,S.sl=.wait ts):∃ x m,Wf S.stk=some m/\m.isB=false/\(∀(H:Hp) v,b7 H v m->∃ a kw xs,v=.ref a/\H a=some (.tup (.str kw::.str x::xs)))/\∀ w,S.wake w=dH 300 {S with nm:=b8 S.nm x w,stk:=fZ S.stk,sl:=.Wb}:=by
 rcases h with⟨k,hk⟩|⟨ts,hk⟩
 ·obtain⟨x,Wq⟩:=F.sl.1 k hk;exact⟨x,_,Wq,rfl,fun H v h=>by cases h with|Wg e=>exact⟨_,_,_,rfl,e⟩,fun w=>by simp only[Pu.wake,Wq]⟩
 ·obtain⟨x,ss,Wq⟩:=F.sl.2 ts hk;exact⟨x,_,Wq,rfl,fun H v h=>by cases h with|wait e _ _=>exact⟨_,_,_,rfl,e⟩,fun w=>by simp only[Pu.wake,Wq]⟩
structure Std(S:Pu):Prop where
 nw:S.sl=.new->S.nw=0/\S.pend=[]
 en:∀ w,S.sl=.ended w->S.pend=[]
 wo:S.sl=.worn->S.pend=[]
 he:∀ k,S.sl=.Wg k->(aS S.lt k).getD []=[]
 wt:∀ ts,S.sl=.wait ts->∃ x ss,Wf S.stk=some (.wait x ss)/\ts.length<=ss.length
theorem CA(i:Int):∀ l:List Int,(wG i l).length<=l.length+1
 | []=>by simp[wG]
 | j::r=>by
  have:=CA i r;simp only[wG];split
  ·simp
  ·split
   ·simp
   ·simp only[List.length_cons];omega
theorem oX(pend:List Int):∀ ws:List Wo,(bI pend ws).length<=ws.length
 | []=>by simp[bI]
 | none::r=>by have:=oX pend r;simp only[bI,List.length_cons];omega
 | some i::r=>by
  have:=oX pend r;have:=CA i (bI pend r);simp only[bI,List.length_cons];split<;>omega
def GW(b:List Stm):Std (gS b):=⟨fun _=>⟨rfl,rfl⟩,1e41,(fun h=>nomatch h),1e41,1e41⟩
def yI(S:Pu)(w:Wo):Std (S.ends w).1:=⟨(fun h=>nomatch h),fun _ _=>rfl,(fun h=>nomatch h),1e41,1e41⟩
def Om(st:Wf S.stk=some m)(n:S.sl=.Wb)(h:¬ (one S m).1.sl.isN=true):Std (one S m).1:=by
 by_cases hb:m.isB=true
 ·exfalso;apply h;rw[An hb];cases m<;>first|(simp only[sD];split<;>(show S.sl.isN=true;rw[n];rfl))|cases hb
 ·rw[i6 (by simpa using hb)] at h ⊢;by_cases hd:(bW S m).1.sl.isN=true
  ·exfalso;apply h;rw[if_pos hd];exact hd
  ·rw[if_neg hd];cases m with
   | Wg x k =>
    simp only[bW] at hd ⊢;split
    ·next e=>rw[e] at hd;exact absurd (by show S.sl.isN=true;rw[n];rfl) hd
    ·next e=>exact⟨(fun h=>nomatch h),1e41,(fun h=>nomatch h),fun k' hk=>by cases hk;exact e,1e41⟩
   | wait x ss =>
    simp only[bW] at hd ⊢;split
    ·exact⟨(fun h=>nomatch h),1e41,(fun h=>nomatch h),1e41,fun ts ZP=>by
      cases ZP;refine⟨x,ss,st,?_⟩;have:=oX S.pend (ss.map S.worth);rw[List.length_map] at this;exact this⟩
    ·next e=>rw[if_neg e] at hd;exact absurd (by show S.sl.isN=true;rw[n];rfl) hd
   | fin s=>exact yI S _
   | drop s =>
    exfalso;apply hd;simp only[bW];split
    ·split<;>(show S.sl.isN=true;rw[n];rfl)
    ·show S.sl.isN=true;rw[n];rfl
   | Wu _ _=>exact absurd rfl hb
   | iff _ _ _=>exact absurd rfl hb
   | _=>exact absurd (by show S.sl.isN=true;rw[n];rfl) hd
theorem pP:∀(n:Nat) (S:Pu),S.sl=.Wb->Std (dH n S).1
 | 0,S,h=>by
  cases e:Wf S.bC.stk with
  | none=>rw[j8 e];exact yI _ _
  | some m=>rw[qX e];exact⟨(fun h=>nomatch h),1e41,fun _=>rfl,1e41,1e41⟩
 | n+1,S,h=>by
  cases e:Wf S.bC.stk with
  | none=>rw[j8 e];exact yI _ _
  | some m =>
   rw[qV e];split
   ·next hn=>exact pP n _ (nB hn)
   ·next hn=>exact Om e h hn
def DC(h:Std S)(w:Wo):Std (S.wake w).1:=by
 unfold Pu.wake;split
 ·exact pP _ _ rfl
 ·exact pP _ _ rfl
 ·exact h
def wO(l:List 1e32)(k:Str)(w:Wo)(j:Str):(aS (iC l k w) j).getD []=if j=k then (aS l k).getD []++[w] else (aS l j).getD []:=by
 unfold iC;cases e:aS l k with
 | some ws =>
  simp only;rw[k7];by_cases hj:j=k
  ·rw[if_pos hj,if_pos hj,e];rfl
  ·rw[if_neg hj,if_neg hj]
 | none =>
  simp only;have app:∀(l:List 1e32),aS (l++[(k,[w])]) j=match aS l j with|some v=>some v|none=>if k=j then some [w] else none:=fun l=>by
   induction l with
   | nil=>simp[aS]
   | cons x r ih =>
    simp only[List.cons_append,aS];split
    ·rfl
    ·exact ih
  rw[app];by_cases hj:j=k
  ·subst hj;rw[e];simp
  ·rw[if_neg hj];cases aS l j with
   | some v=>rfl
   | none=>simp only;rw[if_neg (fun z:k=j=>hj z.symm)]
def DB{ts:List Int}(h:S.sl=.wait ts)(w:∃ x ss,Wf S.stk=some (.wait x ss)/\ts.length<=ss.length):Std S:=by
 refine⟨fun z=>?_,fun _ z=>?_,fun z=>?_,fun _ z=>?_,fun j z=>?_⟩
 ·rw[h] at z;cases z
 ·rw[h] at z;cases z
 ·rw[h] at z;cases z
 ·rw[h] at z;cases z
 ·rw[h] at z;cases z;exact w
def yJ(h:S.sl=.Wg k)(e:(aS S.lt k).getD []=[]):Std S:=by
 refine⟨fun z=>?_,fun _ z=>?_,fun z=>?_,fun j z=>?_,fun _ z=>?_⟩
 ·rw[h] at z;cases z
 ·rw[h] at z;cases z
 ·rw[h] at z;cases z
 ·rw[h] at z;cases z;exact e
 ·rw[h] at z;cases z
def DA(s:Std S)(n:S.sl.isN=false)(h:Hap):Std (S.take h).1:=by
 unfold Pu.take;split
 ·exact s
 ·next ho =>
  cases h with
  | WR m w=>exact pP _ _ rfl
  | don m i w =>
   cases hs:S.sl with
   | wait ts =>
    have sd:Std ((S.at' m).done i w):=DB (show((S.at' m).done i w).sl=.wait ts from hs) (s.wt ts hs);simp only[Pu.fH,show(S.at' m).sl=S.sl from rfl,hs];split
    ·exact DC sd _
    ·exact sd
   | Wg k =>
    simp only[Pu.fH,show(S.at' m).sl=S.sl from rfl,hs];exact yJ (show((S.at' m).done i w).sl=.Wg k from hs) (s.he k hs)
   | Wb=>rw[hs] at n;cases n
   | new=>simp[Pu.over,hs] at ho
   | ended w'=>simp[Pu.over,hs] at ho
   | worn=>simp[Pu.over,hs] at ho
  | ltr m k w =>
   cases hs:S.sl with
   | wait ts =>
    simp only[Pu.eZ,show(S.at' m).sl=S.sl from rfl,hs];exact DB rfl (s.wt ts hs)
   | Wg k' =>
    simp only[Pu.eZ,show(S.at' m).sl=S.sl from rfl,hs];split
    ·exact DC (yJ (show(S.at' m).sl=.Wg k' from hs) (s.he k' hs)) _
    ·next hk =>
     refine yJ rfl ?_;show(aS (iC S.lt k w) k').getD []=[];rw[wO,if_neg hk];exact s.he k' hs
   | Wb=>rw[hs] at n;cases n
   | new=>simp[Pu.over,hs] at ho
   | ended w'=>simp[Pu.over,hs] at ho
   | worn=>simp[Pu.over,hs] at ho
section
def bM.LC(F:bM P H A S p)(e:H A.md=some 1e17)(m:Int):bM P (Wa H A.md (.dK (aO kvs (.inr "now") (.int m)))) A {S with nw:=m} p:=by
 obtain⟨ot,M,os,c1,c2,c3,c4⟩:=F.ex;exact F.oH (M.now e m) os c1 c2 c3 (c4.keep fun b o z hb=>by rw[aD (fun y=>hb (by rw[y];exact aV.1))];exact z) (fun b o z hb=>by rw[aD (F.far hb).1];exact z) (aE.cI e) rfl F.ps
def bM.Uo(F:bM P H A S p)(e:H A.md=some 1e17)(w:Wo):bM P (Wa H A.md (.dK (aO kvs (.inr "arg") (wv w)))) A {S with ar:=w} p:=by
 obtain⟨ot,M,os,c1,c2,c3,c4⟩:=F.ex;exact F.oH (M.arg e w) os c1 c2 c3 (c4.keep fun b o z hb=>by rw[aD (fun y=>hb (by rw[y];exact aV.1))];exact z) (fun b o z hb=>by rw[aD (F.far hb).1];exact z) (aE.cI e) rfl F.ps
def bM.Ur(F:bM P H A S p)(a:pd.Pairwise (· < ·))(b:∀ i∈pd,0<=i/\i < S.made)(c:∀ q∈S.ans,q.1∉pd):bM P (Wa H A.od (.lst (pd.map V.int))) A {S with pend:=pd} p:=by
 obtain⟨ot,M,os,c1,c2,c3,c4⟩:=F.ex;exact F.oH (M.open a b c) os c1 c2 c3 (c4.keep fun b o z hb=>by rw[aD (fun y=>hb (by rw[y];exact aV.2.2.1))];exact z) (fun b o z hb=>by rw[aD (F.far hb).2.2.1];exact z) (aE.cI M.ho) rfl F.ps
def bM.Pm(F:bM P H A S p)(e:H A.dd=some (.lst ds)){t:Addr}(et:H t=some (.tup [.int i,wv w]))(n1:i∉S.ans.map (·.1))(n2:i∉S.pend)(n3:i < S.made):bM P (Wa H A.dd (.lst (ds++[.ref t]))) A {S with ans:=S.ans++[(i,w)]} p:=by
 obtain⟨ot,M,os,c1,c2,c3,c4⟩:=F.ex;obtain⟨kv,e',r⟩:=M.hm;obtain⟨ds',e2,r2⟩:=M.hd;rw[e] at e2;cases e2;have T:aE H (Wa H A.dd (.lst (ds++[.ref t]))):=aE.cI e;refine F.oH (ot':=ot) ⟨⟨kv,cL e e',r⟩,cL e M.hn,by rw[aD M.n2];exact M.ho,⟨_,aA,(r2.snoc et).kt T⟩,M.n1,M.n2,M.asc,M.lt,?_,?_⟩ os c1 c2 c3 (c4.keep fun b o z hb=>by rw[aD (fun y=>hb (by rw[y];exact aV.2.2.2.1))];exact z) (fun b o z hb=>by rw[aD (F.far hb).2.2.2];exact z) T rfl F.ps
 ·show((S.ans++[(i,w)]).map (·.1)).Nodup;rw[List.map_append];exact List.nodup_append.mpr ⟨M.uq,by simp,fun x hx y hy z=>n1 (by rw[show y=i by simpa using hy] at z;rw[<- z];exact hx)⟩
 ·intro q hq;rcases List.mem_append.mp hq with hq|hq
  ·exact M.dis q hq
  ·rw[show q=(i,w) by simpa using hq];exact⟨n2,n3⟩
def gJ.put{b:Addr}{u:HO}(h:gJ H A op cs)(e:H b=some o)(hb:b∈A.mut)(d:∀ xs,o≠.tup xs):gJ (Wa H b u) A op cs:=by
 obtain⟨us,eo,hC,s⟩:=h;exact⟨us,by rw[aD (fun z=>s.1 (by rw[z];exact hb))];exact eo,hC.kt (aE.cI e d),s⟩
end
def gI.keys(h:gI H kvs as lt):kvs.map (·.1)=lt.map fun p=>Key.inr p.1:=by
 induction h with
 | nil=>rfl
 | cons _ _ ih=>simp[ih]
def gI.LA{l2:Addr}(e2:H l2=some 1e38)(h:gI H kvs as lt):(lt.map (·.1)).Nodup->as.Nodup->l2∉as->(∃ v,aS lt k=some v)->∃ WC,gI H (kvs.map fun kv=>if kv.1=.inr k then (kv.1,.ref l2) else kv) WC (dF lt k ws)/\WC.Nodup/\(∀ a∈WC,a=l2\/a∈as)/\l2∈WC:=by
 induction h with
 | nil=>intro _ _ _ ⟨v,z⟩;simp[aS] at z
 | @cons a j vs kvs as lt e hr ih =>
  intro nk na n2 ⟨v,z⟩;rw[List.map_cons,List.nodup_cons] at nk;rw[List.nodup_cons] at na;by_cases hj:j=k
  ·subst hj;have same:(kvs.map fun kv=>if kv.1=.inr j then (kv.1,.ref l2) else kv)=kvs:=by
    conv=>rhs;rw[<- List.map_id kvs]
    refine List.map_congr_left fun kv hkv=>?_;have:kv.1∈kvs.map (·.1):=List.mem_map_of_mem hkv;rw[hr.keys] at this;obtain⟨q,hq,eq⟩:=List.mem_map.mp this;have:¬ kv.1=.inr j:=fun y=>nk.1 (by
     rw[<- eq] at y;cases y;exact List.mem_map.mpr ⟨q,hq,rfl⟩)
    simp[this]
   refine⟨l2::as,?_,List.nodup_cons.mpr ⟨fun y=>n2 (by simp[y]),na.2⟩,fun b hb=>?_,by simp⟩
   ·rw[List.map_cons,same,dF,if_pos rfl,if_pos rfl];exact .cons e2 hr
   ·rcases List.mem_cons.mp hb with hb|hb
    ·exact .inl hb
    ·exact .inr (by simp[hb])
  ·obtain⟨WC,h1,h2,h3,h4⟩:=ih nk.2 na.2 (fun y=>n2 (by simp[y])) ⟨v,by simpa[aS,hj] using z⟩;refine⟨a::WC,?_,List.nodup_cons.mpr ⟨fun y=>?_,h2⟩,fun b hb=>?_,by simp[h4]⟩
   ·rw[List.map_cons,if_neg (fun y=>hj (Key.inr.inj y)),dF,if_neg hj];exact .cons e h1
   ·rcases h3 a y with y|y
    ·exact n2 (by simp[y])
    ·exact na.1 y
   ·rcases List.mem_cons.mp hb with rfl|hb
    ·exact .inr 1e1
    ·rcases h3 b hb with y|y
     ·exact .inl y
     ·exact .inr (by simp[y])
def gI.VG{l2:Addr}(e2:H l2=some 1e38)(h:gI H kvs as lt)(nk:(lt.map (·.1)).Nodup)(na:as.Nodup)(n2:l2∉as):∃ WC lt',gI H (aO kvs (.inr k) (.ref l2)) WC lt'/\(lt'.map (·.1)).Nodup/\WC.Nodup/\(∀ a∈WC,a=l2\/a∈as)/\l2∈WC/\aX (aO kvs (.inr k) (.ref l2)) (.inr k)=some (.ref l2)/\∀ j,(aS lt' j).getD []=if j=k then ws else (aS lt j).getD []:=by
 rcases h.look k with⟨z1,z2⟩|⟨a,vs,z1,z2,z3,z4⟩
 ·refine⟨as++[l2],lt++[(k,ws)],?_,?_,List.nodup_append.mpr ⟨na,by simp,fun x hx y hy z=>n2 (by rw[show y=l2 by simpa using hy] at z;rw[<- z];exact hx)⟩,fun a ha=>(List.mem_append.mp ha).elim .inr (fun y=>.inl (by simpa using y)),by simp,UE,fun j=>?_⟩
  ·have:aO kvs (.inr k) (.ref l2)=kvs++[(.inr k,.ref l2)]:=by
    unfold aO;rw[gU,z1];simp
   rw[this];exact h.snoc e2
  ·rw[List.map_append];refine List.nodup_append.mpr ⟨nk,by simp,fun x hx y hy z=>?_⟩;obtain⟨q,hq,e⟩:=List.mem_map.mp hx;have:∀(l:List 1e32),q∈l->aS l k≠none:=fun l=>by
    induction l with
    | nil=>simp
    | cons u r ih =>
     intro hu;rcases List.mem_cons.mp hu with rfl|hu
     ·simp[aS,e,z,show y=k by simpa using hy]
     ·simp only[aS];split
      ·simp
      ·exact ih hu
   exact this lt hq z2
  ·have app:∀(l:List 1e32),aS (l++[(k,ws)]) j=match aS l j with|some v=>some v|none=>if k=j then some ws else none:=fun l=>by
    induction l with
    | nil=>simp[aS]
    | cons x r ih =>
     simp only[List.cons_append,aS];split
     ·rfl
     ·exact ih
   rw[app];by_cases hj:j=k
   ·subst hj;rw[z2];simp
   ·rw[if_neg hj];cases aS lt j with
    | some v=>rfl
    | none=>simp only;rw[if_neg (fun z:k=j=>hj z.symm)]
 ·obtain⟨WC,h1,h2,h3,h4⟩:=h.LA e2 nk na n2 ⟨vs,z2⟩;refine⟨WC,dF lt k ws,?_,by rw[nK];exact nk,h2,h3,h4,UE,fun j=>?_⟩
  ·have:aO kvs (.inr k) (.ref l2)=kvs.map fun kv=>if kv.1=.inr k then (kv.1,.ref l2) else kv:=by
    unfold aO;rw[gU,z1];simp
   rw[this];exact h1
  ·rw[k7];by_cases hj:j=k
   ·rw[if_pos hj,if_pos hj,z2];rfl
   ·rw[if_neg hj,if_neg hj]
def NW{k:Key}{x:V}:(aO kvs k x).length<=kvs.length+1:=by
 unfold aO;split<;>simp
def cJ.OM{md nd od:Addr}(M:cJ H md nd od dd ot S)(k:∀ a o,H a=some o->a=md\/a=nd\/a=od\/a=dd->H' a=some o)(T:aE H H'):cJ H' md nd od dd ot S:=by
 obtain⟨kvs,e,r⟩:=M.hm;obtain⟨ds,e2,r2⟩:=M.hd;exact {M with hm:=⟨kvs,k _ _ e 1e23,r⟩,hn:=k _ _ M.hn (.inr 1e23),ho:=k _ _ M.ho (.inr (.inr 1e23)),hd:=⟨ds,k _ _ e2 (.inr (.inr (.inr rfl))),r2.kt T⟩}
def dZ.las{s:Slp}(h:dZ H A ot s){las:List Addr}(hl:∀ a∈las,a∈A.las\/H a=none)(k:∀ b o,H b=some o->b∉A.mut->H' b=some o):dZ H' {A with las:=las,nk:=n} ot s:=by
 cases s with
 | wait ts =>
  obtain⟨h1,h2,h3,h4⟩:=h;refine⟨h1,h2,k _ _ h3 h4,fun z=>?_⟩;simp only[Fa.mut,List.mem_append,List.mem_cons,List.not_mem_nil,or_false,not_or] at h4 z;rcases z with z|z
  ·rcases z with z|z|z|z|z
   ·exact h4.1.1 z
   ·exact h4.1.2.1 z
   ·exact h4.1.2.2.1 z
   ·exact h4.1.2.2.2.1 z
   ·exact h4.1.2.2.2.2 z
  ·rcases hl A.aw z with z|z
   ·exact h4.2 z
   ·rw[z] at h3;cases h3
 | _=>exact h
def Gg{las:List Addr}{b:Addr}(h:b∈({A with las:=las,nk:=n}:Fa).mut):b∈A.mut\/b∈las:=by
 simp only[Fa.mut,List.mem_append,List.mem_cons,List.not_mem_nil,or_false] at h ⊢;rcases h with h|h
 ·exact .inl (.inl h)
 ·exact .inr h
inductive Dr(vs:List V)(H:Hp)(Q:VK)(E:XK):Prop
 | mk (P:List Stm) (A:Fa) (S:Pu) (p:Nat) (v:V) (h:Hap) (N:Nat) (_:vs=[.ref A.md,v]) (_:bM P H A S p) (_:nP H v h) (_:((0<=h.m/\h.m<=1000000000000)/\dU h.w)) (_:Wk true S N) (_:N<=70000) (_:S.sl.isN=false) (_:Std S) (_:A.nk<=1000) (_:∀(A':Fa) (p':Nat) (op:Addr) (us:List V) (H':Hp),bM P H' A' (S.take h).1 p'->H op=none->H' op=some (.lst us)->hZ H' us (S.take h).2->op∉A'.mut->Fm [] A {A' with nk:=A.nk} H H'->A'.nk<=A.nk+1->Q (.ref op) H'):Dr vs H Q E
noncomputable def Slp.wh:Slp->Bool
 | .wait _=>true
 | .Wg _=>true
 | _=>false
def T9(s:Slp):wF (.str s.md) [.str "wait",.str "hear"]=s.wh:=by
 rw[Bool.eq_iff_iff];cases s<;>simp[wF,tP,Slp.md,Slp.wh,cH]
def UX{s:Slp}(h:s.wh=true):(∃ k,s=.Wg k)\/∃ ts,s=.wait ts:=by
 cases s<;>first|exact .inl ⟨_,rfl⟩|exact .inr ⟨_,rfl⟩|cases h
def EA(s:Slp):(s.md=("new":Str))=(s=.new):=by
 cases s<;>simp[Slp.md,cH]
def Gi(s:Slp):(s.md=("hear":Str))=(∃ k,s=.Wg k):=by
 cases s<;>simp[Slp.md,cH]
inductive Dv(vs:List V)(H:Hp)(Q:VK)(E:XK):Prop
 | mk (P:List Stm) (A:Fa) (S:Pu) (p:Nat) (N:Nat) (_:vs=[.ref A.md]) (_:bM P H A S p) (_:Wk true S N) (_:S.sl.isN=false) (_:(∀ ts,S.sl=.wait ts->ts.length<=100000)) (_:∀ v H',nQ H' v S.sl->Kp [] H H'->Q v H'):Dv vs H Q E
inductive LO(vs:List V)(H:Hp)(Q:VK)(E:XK):Prop
 | mk (P:List Stm) (A:Fa) (S:Pu) (p r n N:Nat) (_:vs=[.ref r,.ref A.md]) (_:bM P H A S p) (_:Wk true S N) (_:N<=90000) (_:bZ H r n) (_:n<=200) (_:r∉A.mut) (_:r≠A.cl) (_:r∉A.cs) (_:∀(v:V) (h:Hap) (n':Nat) (H':Hp),nP H' v h->((0<=h.m/\h.m<=1000000000000)/\dU h.w)->bZ H' r n'->n'<=n+20->Kp [r] H H'->Q v H'):LO vs H Q E
def Wk.slp(F:Wk wt S N)(x:Slp)(h1:∀ k,x≠.Wg k)(h2:∀ ts,x≠.wait ts):Wk wt {S with sl:=x,pend:=[]} N :=
 ⟨F.nm,F.md,Nat.zero_le _,F.an,F.lt,F.lw,F.pl,F.nw,F.sk,fun k e=>absurd e (h1 k),fun ts e=>absurd e (h2 ts)⟩
theorem j4{wt:Bool}:∀(n:Nat) {S:Pu} {N:Nat},Wk wt S N->S.sl=.Wb->N+n<=900000->Wk wt (dH n S).1 (N+n)
 | 0,S,N,F,h,_=>by
  cases e:Wf S.bC.stk with
  | none=>rw[j9 e];exact(F.bC h).slp _ (fun _ z=>by cases z) (fun _ z=>by cases z)
  | some m=>rw[qY e];exact(F.bC h).slp _ (fun _ z=>by cases z) (fun _ z=>by cases z)
 | n+1,S,N,F,h,hN=>by
  cases e:Wf S.bC.stk with
  | none=>rw[j9 e];exact((F.bC h).slp _ (fun _ z=>by cases z) (fun _ z=>by cases z)).more 1e0
  | some m =>
   have F1:=(F.bC h).one e h 1e0;cases z:(one S.bC m).1.sl.isN with
   | true =>
    rw[Bh e z];exact(j4 n F1 (nB z) 1e0).more 1e0
   | false=>rw[qW e z];exact F1.more 1e0
theorem Wk.Ot(F:Wk wt S N){m:Int}(hm:0<=m/\m<=1000000000000)(hw:dU w)(hi:dU (some i))(hN:N<=800000):Wk wt (S.take (.don m i w)).1 (N+302):=by
 have F1:=F.at' hm;have F2:=F1.done (i:=i) hw;unfold Pu.take;split
 ·exact F.more 1e0
 show Wk wt ((S.at' m).fH i w).1 (N+302);unfold Pu.fH;split
 ·split
  ·unfold Pu.wake;split
   ·next e=>exact(j4 300 (F2.wake e hi _) rfl 1e0).more 1e0
   ·next e=>exact(j4 300 (F2.wake e hi _) rfl 1e0).more 1e0
   ·exact F2.more 1e0
  ·exact F2.more 1e0
 ·exact F2.more 1e0
theorem Wk.He(F:Wk wt S N)(h:Hap)(hm:0<=h.m/\h.m<=1000000000000)(hw:dU h.w)(hi:∀ i∈S.pend,dU (some i))(hN:N<=800000):Wk wt (S.take h).1 (N+302):=by
 cases h with
 | WR m w =>
  unfold Pu.take;split
  ·exact F.more 1e0
  have F1:=F.at' hm;have F2:Wk wt {S with nw:=later S.nw m,ar:=w,sl:=.Wb} N:=⟨F1.nm,F1.md,F1.pd,F1.an,F1.lt,F1.lw,⟨F1.pl.nm,hw,F1.pl.an⟩,F1.nw,F1.sk,fun k e=>(by cases e),fun k e=>(by cases e)⟩;exact(j4 300 F2 rfl 1e0).more 1e0
 | don m i w =>
  by_cases hp:i∈S.pend
  ·exact F.Ot hm hw (hi i hp) hN
  ·have F1:=F.at' hm;unfold Pu.take;split
   ·exact F.more 1e0
   ·next ho =>
    have F2:=F1.done (i:=i) hw;show Wk wt ((S.at' m).fH i w).1 (N+302);exfalso;refine ho ?_;unfold Pu.over;cases S.sl<;>simp[hp]
 | ltr m k w =>
  have F1:=F.at' hm;unfold Pu.take;split
  ·exact F.more 1e0
  show Wk wt ((S.at' m).eZ k w).1 (N+302);unfold Pu.eZ;split
  ·split
   ·unfold Pu.wake;split
    ·next e=>exact(j4 300 (F1.wake e hw _) rfl 1e0).more 1e0
    ·next e=>exact(j4 300 (F1.wake e hw _) rfl 1e0).more 1e0
    ·exact F1.more 1e0
   ·exact(F1.iC hw).more 1e0
  ·exact(F1.iC hw).more 1e0
inductive eR(H:Hp):List V->List Hap->Prop
 | nil:eR H [] []
 | cons {v:V} {vs:List V} {h:Hap} {hs:List Hap}:nP H v h->eR H vs hs->eR H (v::vs) (h::hs)
def Es{h:Hap}(x:nP H v h)(k:aE H H'):nP H' v h:=by
 obtain⟨a,e,f⟩:=x;exact⟨a,e,k _ _ f⟩
def eR.kt(h:eR H vs hs)(k:aE H H'):eR H' vs hs:=by
 induction h with
 | nil=>exact .nil
 | cons a _ ih=>exact .cons (Es a k) ih
def eR.len(h:eR H vs hs):vs.length=hs.length:=by
 induction h with
 | nil=>rfl
 | cons _ _ ih=>simp[ih]
theorem pO:∀(n:Nat) (S:Pu),(dH n S).1.sl.isN=false
 | 0,S=>by
  cases e:Wf S.bC.stk with
  | none=>rw[j9 e];rfl
  | some m=>rw[qY e];rfl
 | n+1,S=>by
  cases e:Wf S.bC.stk with
  | none=>rw[j9 e];rfl
  | some m =>
   cases z:(one S.bC m).1.sl.isN with
   | true=>rw[Bh e z];exact pO n _
   | false=>rw[qW e z];exact z
def DJ(h:S.sl.isN=false)(w:Wo):(S.wake w).1.sl.isN=false:=by
 unfold Pu.wake;split
 ·exact pO _ _
 ·exact pO _ _
 ·exact h
def DH(h:S.sl.isN=false)(x:Hap):(S.take x).1.sl.isN=false:=by
 unfold Pu.take;split
 ·exact h
 cases x with
 | WR m w=>exact pO _ _
 | don m i w =>
  show((S.at' m).fH i w).1.sl.isN=false;unfold Pu.fH;split
  ·split
   ·exact DJ (show((S.at' m).done i w).sl.isN=false from h) _
   ·exact h
  ·exact h
 | ltr m k w =>
  show((S.at' m).eZ k w).1.sl.isN=false;unfold Pu.eZ;split
  ·split
   ·exact DJ (show(S.at' m).sl.isN=false from h) _
   ·exact h
  ·exact h
noncomputable def takes:Pu->List Hap->Pu×List Cmds
 | S,[]=>(S,[])
 | S,h::r=>((takes (S.take h).1 r).1,(S.take h).2::(takes (S.take h).1 r).2)
theorem o8(h:Hap):∀(l:List Hap) (S:Pu),takes S (l++[h])=(((takes S l).1.take h).1,(takes S l).2++[((takes S l).1.take h).2])
 | [],S=>by simp[takes]
 | x::l,S=>by
  have:=o8 h l (S.take x).1;simp only[List.cons_append,takes,this]
def eR.fI(h:eR H vs hs):∀ {i:Nat} {v:V},vs[i]?=some v->∃ x,hs[i]?=some x/\nP H v x:=by
 induction h with
 | nil=>intro i v e;simp at e
 | cons a _ ih =>
  intro i v e;cases i with
  | zero=>simp only[List.getElem?_cons_zero,Option.some.injEq] at e;subst e;exact⟨_,rfl,a⟩
  | succ i=>exact ih (by simpa using e)
def eR.snoc{h:Hap}(x:eR H vs hs)(a:nP H v h):eR H (vs++[v]) (hs++[h]):=by
 induction x with
 | nil=>exact .cons a .nil
 | cons b _ ih=>exact .cons b ih
def bM.oth(F:bM P H A S p)(e:H op=some (.lst us))(s1:op∉A.mut)(s2:op≠A.cl)(s3:op∉A.cs)(hw:∀ ts:List Int,S.sl=.wait ts->us≠ts.map V.int):bM P (Wa H op (.lst vs)) A S p:=by
 obtain⟨ot,M,os,c1,c2,c3,c4⟩:=F.ex;refine F.oH (M.other e (fun z=>s1 (by rw[z];exact aV.2.2.1)) (fun z=>s1 (by rw[z];exact aV.2.2.2.1))) os c1 c2 c3 ?_ (fun b o z hb=>by rw[aD (F.FQ s1 s2 s3 hb).2.2.2.2];exact z) (aE.cI e) rfl F.ps;cases hs:S.sl with
 | wait ts =>
  rw[hs] at c4;obtain⟨h1,h2,h3,h4⟩:=c4;refine⟨h1,h2,?_,h4⟩;rw[aD (fun z=>by
   rw[z,e] at h3;cases h3;exact hw ts hs rfl)]
  exact h3
 | _=>rw[hs] at c4;exact c4
def bM.kind(F:bM P H A S p){b:Addr}(hb:b∈A.mut):∃ o,H b=some o/\∀ c d fs,o≠.ins c d fs:=by
 obtain⟨ot,M,_⟩:=F.ex;obtain⟨kvs,em,_⟩:=M.hm;obtain⟨ds,ed,_⟩:=M.hd;obtain⟨lk,ml,el,hl,_⟩:=F.lt;simp only[Fa.mut,List.mem_append,List.mem_cons,List.not_mem_nil,or_false] at hb;rcases hb with(rfl|rfl|rfl|rfl|rfl)|hb
 ·exact⟨_,em,fun _ _ _ z=>by cases z⟩
 ·exact⟨_,M.hn,fun _ _ _ z=>by cases z⟩
 ·exact⟨_,M.ho,fun _ _ _ z=>by cases z⟩
 ·exact⟨_,ed,fun _ _ _ z=>by cases z⟩
 ·exact⟨_,el,fun _ _ _ z=>by cases z⟩
 ·obtain⟨xs,e⟩:=hl.ex b hb;exact⟨_,e,fun _ _ _ z=>by cases z⟩
def bM.TF(F:bM P H A S p)(k:∀ b o,H b=some o->(b∈A.mut\/b=A.cl\/b∈A.cs\/b=A.aw)->H' b=some o)(t:aE H H'):bM P H' A S p:=by
 obtain⟨ot,M,os,c1,c2,c3,c4⟩:=F.ex;refine F.oH (M.OM (fun a o e h=>k a o e (.inl (by
  rcases h with rfl|rfl|rfl|rfl
  ·exact aV.1
  ·exact aV.2.1
  ·exact aV.2.2.1
  ·exact aV.2.2.2.1))) t) os c1 c2 c3 ?_ (fun b o e hb=>k b o e (by
  rcases hb with hb|hb|hb|hb
  ·exact .inr (.inl hb)
  ·exact .inr (.inr (.inl hb))
  ·exact .inl (by rw[hb];exact aV.2.2.2.2)
  ·exact .inl (by simp[Fa.mut,hb]))) t rfl F.ps
 cases hs:S.sl with
 | wait ts =>
  rw[hs] at c4;obtain⟨h1,h2,h3,h4⟩:=c4;exact⟨h1,h2,k _ _ h3 (.inr (.inr (.inr rfl))),h4⟩
 | _=>rw[hs] at c4;exact c4
def KY{hv:List V}(h:eR H hv hs)(n:hs≠[])(ts:List Int):hv≠ts.map V.int:=by
 cases h with
 | nil=>exact absurd rfl n
 | cons a _ =>
  obtain⟨x,rfl,_⟩:=a;cases ts<;>simp
def hap1(h:Hap):h.vs[1]?=some (.int h.m):=by cases h<;>rfl
inductive LV(vs:List V)(H:Hp)(Q:VK)(E:XK):Prop
 | mk (bp cc:Addr) (us:List V) (b:List Stm) (ms:List Int) (_:vs=[.ref bp,.ref cc]) (_:H bp=some (.tup us)) (_:bH H us b) (_:BW true b) (_:oO b < 9) (_:bY b<=1000) (_:H cc=some (.lst (ms.map V.int))) (_:ms.length<=63) (_:∀(rl:Addr) (hv:List V) (hs:List Hap) (H':Hp),H' rl=some (.lst hv)->eR H' hv hs->(∀ h∈hs,(0<=h.m/\h.m<=1000000000000)/\dU h.w)->hs.length<=63->Kp [] H H'->Q (.ref rl) H'):LV vs H Q E
def fW.GG(h:fW H vs ss)(a:cZ H v s):fW H (vs++[v]) (ss++[s]):=by
 induction ss generalizing vs with
 | nil=>cases h;exact .cons a .nil
 | cons x r ih=>cases h with|cons b c=>exact .cons b (ih c)
inductive LW(vs:List V)(H:Hp)(Q:VK)(E:XK):Prop
 | mk (r:Addr) (n:Nat) (_:vs=[.ref r]) (_:bZ H r n) (_:n<=20) (_:∀(v:V) (m:Stm) (H':Hp),b7 H' v m->m.gd true->m.isB=false->Kp [r] H H'->Q v H'):LW vs H Q E
def Nl(h:m.CB=true)(g:m.gd false):m.gd true:=by
 cases m<;>first|exact g|cases h
def Ue(h:m.CB=true):m.isB=false:=by cases m<;>first|rfl|cases h
set_option genInjectivity false in
structure Fr where
 hd:Option (Bool×Say)
 b1:List Stm
 b2:Option (List Stm)
variable{f:Fr}
set_option genInjectivity false in
structure FC where
 fa:Addr
 f1:Addr
 f2:Option Addr
variable{x:FC×Fr}{I L:List (FC×Fr)}
def FC.cells(c:FC):List Addr:=c.fa::c.f1::c.f2.toList
def FC.cur(c:FC):Addr:=c.f2.getD c.f1
noncomputable def rv:Option Addr->V
 | none=>.Wb
 | some a=>.ref a
noncomputable def Jb(H:Hp)(v:V):Option (Bool×Say)->Prop
 | none=>v=.Wb
 | some (i,s)=>∃ a sv,v=.ref a/\H a=some (.tup [.str (if i=true then "if" else "while"),sv])/\cZ H sv s
noncomputable def B2At(H:Hp):Option Addr->Option (List Stm)->Prop
 | none,none=>True
 | some a,some b=>∃ us,H a=some (.lst us)/\bH H us b
 | _,_=>False
noncomputable def uK(H:Hp)(c:FC)(f:Fr):Prop:=∃ hv Xm,H c.fa=some (.lst [hv,.ref c.f1,rv c.f2])/\Jb H hv f.hd/\H c.f1=some (.lst Xm)/\bH H Xm f.b1/\B2At H c.f2 f.b2
def Jb.kt(x:Jb H v h)(t:aE H H'):Jb H' v h:=by
 cases h with
 | none=>exact x
 | some p=>obtain⟨i,s⟩:=p;obtain⟨a,sv,e,e1,e2⟩:=x;exact⟨a,sv,e,t _ _ e1,e2.kp t⟩
def B2At.keep{o:Option Addr}{b:Option (List Stm)}(x:B2At H o b)(k:∀ a∈o.toList,∀ u,H a=some u->H' a=some u)(t:aE H H'):B2At H' o b:=by
 cases o with
 | none=>cases b<;>exact x
 | some a =>
  cases b with
  | none=>exact x
  | some b=>obtain⟨us,e,h⟩:=x;exact⟨us,k a 1e1 _ e,h.kp t⟩
def uK.keep{c:FC}(h:uK H c f)(k:∀ a∈c.cells,∀ o,H a=some o->H' a=some o)(t:aE H H'):uK H' c f:=by
 obtain⟨hv,Xm,e1,e2,e3,e4,e5⟩:=h;exact⟨hv,Xm,k _ (by simp[FC.cells]) _ e1,e2.kt t,k _ (by simp[FC.cells]) _ e3,e4.kp t,e5.keep (fun a ha=>k a (by simp[FC.cells] at ha ⊢;exact .inr (.inr ha))) t⟩
noncomputable def Fr.add(f:Fr)(m:Stm):Fr:=match f.b2 with
 | none=>{f with b1:=f.b1++[m]}
 | some b=>{f with b2:=some (b++[m])}
def bH.GG{ss:List Stm}{s:Stm}(h:bH H vs ss)(a:b7 H v s):bH H (vs++[v]) (ss++[s]):=by
 induction ss generalizing vs with
 | nil=>cases h;exact .cons a .nil
 | cons x r ih=>cases h with|cons b c=>exact .cons b (ih c)
def uK.add{c:FC}(h:uK H c f)(nd:c.cells.Nodup)(hm:b7 H v m):∃ us b,H c.cur=some (.lst us)/\bH H us b/\(b=f.b1\/f.b2=some b)/\uK (Wa H c.cur (.lst (us++[v]))) c (f.add m):=by
 obtain⟨hv,Xm,e1,e2,e3,e4,e5⟩:=h;obtain⟨fa,f1,f2⟩:=c;obtain⟨hd,b1,b2⟩:=f;cases f2 with
 | none =>
  cases b2 with
  | some b=>exact e5.elim
  | none =>
   have n1:fa≠f1:=by simp[FC.cells] at nd;exact nd
   have t:aE H (Wa H f1 (.lst (Xm++[v]))):=aE.cI e3;exact⟨Xm,b1,e3,e4,.inl rfl,hv,Xm++[v],(by show Wa H f1 _ fa=_;rw[aD n1];exact e1),e2.kt t,aA,(e4.kp t).GG (hm.kp t),trivial⟩
 | some a =>
  cases b2 with
  | none=>exact e5.elim
  | some b =>
   obtain⟨WL,e6,e7⟩:=e5;have n1:fa≠a/\f1≠a:=by simp[FC.cells] at nd;exact⟨nd.1.2,nd.2⟩
   have t:aE H (Wa H a (.lst (WL++[v]))):=aE.cI e6;exact⟨WL,b,e6,e7,.inr rfl,hv,Xm,(by show Wa H a _ fa=_;rw[aD n1.1];exact e1),e2.kt t,(by show Wa H a _ f1=_;rw[aD n1.2];exact e3),e4.kp t,WL++[v],aA,(e7.kp t).GG (hm.kp t)⟩
def dE(L:List (FC×Fr)):List Addr:=L.flatMap fun x=>x.1.cells
structure iA(H:Hp)(fl:Addr)(L:List (FC×Fr)):Prop where
 e:H fl=some (.lst (L.map fun x=>.ref x.1.fa))
 fr:∀ x∈L,uK H x.1 x.2
 nd:(fl::dE L).Nodup
def bD(L M:List (FC×Fr)):dE (L++M)=dE L++dE M:=by simp[dE]
def bN(x:FC×Fr):dE [x]=x.1.cells:=by simp[dE]
def lY(h:x∈L)(ha:a∈x.1.cells):a∈dE L:=List.mem_flatMap.mpr ⟨x,h,ha⟩
def iA.keep(F:iA H fl L)(k:∀ a∈fl::dE L,∀ o,H a=some o->H' a=some o)(t:aE H H'):iA H' fl L :=
 ⟨k _ 1e1 _ F.e,fun x hx=>(F.fr x hx).keep (fun a ha=>k a (List.mem_cons_of_mem _ (lY hx ha))) t,F.nd⟩
def iA.kp(F:iA H fl L)(k:Kp [] H H'):iA H' fl L:=F.keep (fun _ _ _ e=>k.at e) (aE.nil k)
def uK.lst{H:Hp}{c:FC}{f:Fr}(h:uK H c f):∀ a∈c.cells,∃ xs,H a=some 1e20:=by
 obtain⟨hv,Xm,e1,e2,e3,e4,e5⟩:=h;intro a ha;simp only[FC.cells,List.mem_cons] at ha;rcases ha with rfl|rfl|ha
 ·exact⟨_,e1⟩
 ·exact⟨_,e3⟩
 ·cases h2:c.f2 with
  | none=>rw[h2] at ha;simp at ha
  | some b =>
   rw[h2] at ha e5;cases hb:f.b2 with
   | none=>rw[hb] at e5;exact e5.elim
   | some b'=>rw[hb] at e5;obtain⟨us,e,_⟩:=e5;rw[show a=b by simpa using ha];exact⟨_,e⟩
def iA.free{p:Addr}(F:iA H fl L)(h:H p=none):p∉fl::dE L:=fun z=>by
 rcases List.mem_cons.mp z with rfl|z
 ·rw[F.e] at h;cases h
 ·obtain⟨x,hx,hp⟩:=List.mem_flatMap.mp z;obtain⟨xs,e⟩:=(F.fr x hx).lst p hp;rw[h] at e;cases e
def iA.app(F:iA H fl (I++[x]))(hm:b7 H v m):∃ us b,H x.1.cur=some (.lst us)/\bH H us b/\(b=x.2.b1\/x.2.b2=some b)/\x.1.cur∈x.1.cells/\iA (Wa H x.1.cur (.lst (us++[v]))) fl (I++[(x.1,x.2.add m)]):=by
 have nd:=F.nd;rw[bD,bN,List.nodup_cons,List.nodup_append] at nd;obtain⟨us,b,e1,e2,e3,e4⟩:=(F.fr x 1e1).add nd.2.2.1 hm;have hc:x.1.cur∈x.1.cells:=by
  cases h:x.1.f2<;>simp[FC.cur,FC.cells,h]
 have t:aE H (Wa H x.1.cur (.lst (us++[v]))):=aE.cI e1;refine⟨us,b,e1,e2,e3,hc,⟨?_,fun y hy=>?_,?_⟩⟩
 ·rw[aD (fun z=>nd.1 (by rw[z];simp[hc]))];rw[F.e];simp
 ·rcases List.mem_append.mp hy with hy|hy
  ·refine(F.fr y (by simp[hy])).keep (fun a ha o e=>?_) t;rw[aD (fun z=>nd.2.2.2 a (lY hy ha) _ hc z)];exact e
  ·rw[show y=(x.1,x.2.add m) by simpa using hy];exact e4
 ·rw[bD,bN];exact List.nodup_cons.mpr ⟨nd.1,List.nodup_append.mpr nd.2⟩
def iA.pop(F:iA H fl (I++[x])):iA (Wa H fl (.lst (I.map fun x=>.ref x.1.fa))) fl I/\uK (Wa H fl (.lst (I.map fun x=>.ref x.1.fa))) x.1 x.2:=by
 have nd:=F.nd;rw[bD,bN,List.nodup_cons,List.nodup_append] at nd;have t:aE H (Wa H fl (.lst (I.map fun x=>.ref x.1.fa))):=aE.cI F.e;have k:∀ y∈I++[x],uK (Wa H fl (.lst (I.map fun x=>.ref x.1.fa))) y.1 y.2:=fun y hy=>(F.fr y hy).keep (fun a ha o e=>by
  rw[aD (fun z=>nd.1 (by
   rw[<- z];have:=lY hy ha;rw[bD,bN] at this;exact this))]
  exact e) t
 exact⟨⟨aA,fun y hy=>k y (by simp[hy]),List.nodup_cons.mpr ⟨fun z=>nd.1 (by simp[z]),nd.2.1⟩⟩,k x 1e1⟩
def iA.push{fa f1:Addr}{hv:V}(F:iA H fl L)(e1:H fa=some (.lst [hv,.ref f1,.Wb]))(e2:H f1=some 1e10)(hh:Jb H hv h)(n1:fa∉fl::dE L)(n2:f1∉fl::dE L)(n3:fa≠f1):iA (Wa H fl (.lst ((L++[((⟨fa,f1,none⟩:FC),(⟨h,[],none⟩:Fr))]).map fun x=>.ref x.1.fa))) fl (L++[((⟨fa,f1,none⟩:FC),(⟨h,[],none⟩:Fr))]):=by
 have nd:=F.nd;rw[List.nodup_cons] at nd;rw[List.mem_cons,not_or] at n1 n2;have t:aE H (Wa H fl (.lst ((L++[((⟨fa,f1,none⟩:FC),(⟨h,[],none⟩:Fr))]).map fun x=>.ref x.1.fa))):=aE.cI F.e;refine⟨aA,fun y hy=>?_,?_⟩
 ·rcases List.mem_append.mp hy with hy|hy
  ·exact(F.fr y hy).keep (fun a ha o e=>by rw[aD (fun z=>nd.1 (by rw[<- z];exact lY hy ha))];exact e) t
  ·rw[show y=((⟨fa,f1,none⟩:FC),(⟨h,[],none⟩:Fr)) by simpa using hy];exact⟨hv,[],by rw[aD n1.1];exact e1,hh.kt t,by rw[aD n2.1];exact e2,.nil,trivial⟩
 ·rw[bD,bN,List.nodup_cons];refine⟨fun z=>?_,List.nodup_append.mpr ⟨nd.2,by simp[FC.cells,n3],fun a ha b hb z=>?_⟩⟩
  ·rcases List.mem_append.mp z with z|z
   ·exact nd.1 z
   ·simp only[FC.cells,Option.toList_none,List.mem_cons,List.not_mem_nil,or_false] at z;rcases z with z|z
    ·exact n1.1 z.symm
    ·exact n2.1 z.symm
  ·simp only[FC.cells,Option.toList_none,List.mem_cons,List.not_mem_nil,or_false] at hb;rcases hb with rfl|rfl
   ·exact n1.2 (z▸ha)
   ·exact n2.2 (z▸ha)
def iA.snd{hv:V}(F:iA H fl (I++[x]))(f0:x.1.f2=none)(e1:H x.1.fa=some (.lst [hv,.ref x.1.f1,.Wb]))(e2:H a=some 1e10)(n:a∉fl::dE (I++[x])):iA (Wa H x.1.fa (.lst [hv,.ref x.1.f1,.ref a])) fl (I++[(⟨x.1.fa,x.1.f1,some a⟩,⟨x.2.hd,x.2.b1,some []⟩)]):=by
 have nd:=F.nd;rw[bD,bN,List.nodup_cons,List.nodup_append] at nd;rw[bD,bN,List.mem_cons,List.mem_append,not_or,not_or] at n;have hc:x.1.cells=[x.1.fa,x.1.f1]:=by simp[FC.cells,f0]
 rw[hc] at nd n;have t:aE H (Wa H x.1.fa (.lst [hv,.ref x.1.f1,.ref a])):=aE.cI e1;obtain⟨ZQ,Xm,g1,g2,g3,g4,g5⟩:=F.fr x 1e1;rw[e1] at g1;have ehv:ZQ=hv:=by
  have g:=Option.some.inj g1;simp only[HO.lst.injEq,List.cons.injEq] at g;exact g.1.symm
 subst ehv;have n12:x.1.fa≠x.1.f1:=by simpa using nd.2.2.1
 refine⟨?_,fun y hy=>?_,?_⟩
 ·rw[aD (fun z=>nd.1 (by rw[z];simp))];rw[F.e];simp
 ·rcases List.mem_append.mp hy with hy|hy
  ·exact(F.fr y (by simp[hy])).keep (fun b hb o e=>by rw[aD (fun z=>nd.2.2.2 b (lY hy hb) x.1.fa 1e1 z)];exact e) t
  ·rw[show y=(⟨x.1.fa,x.1.f1,some a⟩,⟨x.2.hd,x.2.b1,some []⟩) by simpa using hy];exact⟨ZQ,Xm,aA,g2.kt t,by rw[aD n12.symm];exact g3,g4.kp t,[],by rw[aD (fun z=>n.2.2 (by simp[z]))];exact e2,.nil⟩
 ·rw[bD,bN,List.nodup_cons];refine⟨fun z=>?_,List.nodup_append.mpr ⟨nd.2.1,?_,fun b hb c YO z=>?_⟩⟩
  ·rcases List.mem_append.mp z with z|z
   ·exact nd.1 (by simp[z])
   ·simp only[FC.cells,Option.toList_some,List.mem_cons,List.not_mem_nil,or_false] at z;rcases z with z|z|z
    ·exact nd.1 (by simp[z])
    ·exact nd.1 (by simp[z])
    ·exact n.1 z.symm
  ·have h1:¬ a=x.1.fa:=fun z=>n.2.2 (by simp[z]);have h2:¬ a=x.1.f1:=fun z=>n.2.2 (by simp[z]);simp[FC.cells,n12];exact⟨fun z=>h1 z.symm,fun z=>h2 z.symm⟩
  ·simp only[FC.cells,Option.toList_some,List.mem_cons,List.not_mem_nil,or_false] at YO;rcases YO with rfl|rfl|rfl
   ·exact nd.2.2.2 b hb _ 1e1 z
   ·exact nd.2.2.2 b hb _ 1e1 z
   ·exact n.2.1 (z▸hb)
def RB{o:Option Addr}(h:rv o=.Wb):o=none:=by
 cases o with
 | none=>rfl
 | some a=>cases h
def Gh(I:List (FC×Fr))(x:FC×Fr):fI ((I++[x]).map fun x=>V.ref x.1.fa) (-1)=some (.ref x.1.fa):=by
 rw[List.map_append];exact jX _ _
def Nv(I:List (FC×Fr))(x:FC×Fr):((I++[x]).map fun x=>V.ref x.1.fa)[((I++[x]).map fun x=>V.ref x.1.fa).length - 1]?=some (.ref x.1.fa):=by simp
def Ib(I:List (FC×Fr))(x:FC×Fr):((I++[x]).map fun x=>V.ref x.1.fa).dropLast=I.map fun x=>V.ref x.1.fa:=by simp
def eK(f:Fr)(i:Bool)(s:Say):Stm:=if i=true then .iff s f.b1 (f.b2.getD []) else .Wu s f.b1
inductive LJ(vs:List V)(H:Hp)(Q:VK)(E:XK):Prop
 | mk (fl:Addr) (I:List (FC×Fr)) (x y:FC×Fr) (i:Bool) (s:Say) (_:vs=[.ref fl]) (_:iA H fl (I++[x]++[y])) (_:y.2.hd=some (i,s)) (_:(∀ z∈I++[x]++[y],z.2.b1.length<=1000/\(z.2.b2.getD []).length<=1000)) (_:∀ H',iA H' fl (I++[(x.1,x.2.add (eK y.2 i s))])->Kp (fl::x.1.cells) H H'->Q .Wb H'):LJ vs H Q E
noncomputable def Gf(j:Nat)(f:Fr):Prop:=BW true f.b1/\BW true (f.b2.getD [])/\oO f.b1+j<=5/\oO (f.b2.getD [])+j<=5/\(j≠0->∃ i s,f.hd=some (i,s)/\s.sok)
def AH(L:List (FC×Fr)):Nat:=(L.map fun x=>bY x.2.b1+bY (x.2.b2.getD [])+2).sum
def GL(L:List (FC×Fr)):Prop:=∀ j x,L[j]?=some x->Gf j x.2
def jM(L M:List (FC×Fr)):AH (L++M)=AH L+AH M:=by simp[AH]
def jN(x:FC×Fr):AH [x]=bY x.2.b1+bY (x.2.b2.getD [])+2:=by simp[AH]
def GL.top(h:GL (I++[x])):Gf I.length x.2:=h I.length x 1e1
def GL.init(h:GL (I++[x])):GL I:=fun j y e=>h j y (by rw[List.getElem?_append_left (List.getElem?_eq_some_iff.mp e).1];exact e)
theorem GL.snoc(h:GL I)(g:Gf I.length x.2):GL (I++[x]):=fun j y e=>by
 by_cases hj:j < I.length
 ·rw[List.getElem?_append_left hj] at e;exact h j y e
 ·have:j=I.length:=by
   have:=(List.getElem?_eq_some_iff.mp e).1;simp at this;omega
  subst this;simp at e;subst e;exact g
theorem GY:∀(a b:List Stm),bY (a++b)=bY a+bY b
 | [],b=>by simp[bY]
 | x::a,b=>by simp only[List.cons_append,bY,GY a b];omega
theorem vG:∀(a:List Stm) (m:Stm),oO (a++[m])=max (oO a) m.dp
 | [],m=>by simp[oO]
 | x::a,m=>by simp only[List.cons_append,oO,vG a m];omega
theorem v9{wt:Bool}:∀ {a:List Stm} {m:Stm},BW wt a->m.gd wt->BW wt (a++[m])
 | [],m,_,h=>⟨h,trivial⟩
 | x::a,m,g,h=>⟨g.1,v9 g.2 h⟩
theorem DS(f:Fr)(m:Stm):bY (f.add m).b1+bY ((f.add m).b2.getD [])=bY f.b1+bY (f.b2.getD [])+m.sz:=by
 unfold Fr.add;cases h:f.b2<;>simp[h,GY,bY]<;>omega
theorem Gf.add{j:Nat}(g:Gf j f)(gm:m.gd true)(dm:m.dp+j<=5):Gf j (f.add m):=by
 obtain⟨g1,g2,g3,g4,g5⟩:=g;unfold Fr.add;cases h:f.b2 with
 | none =>
  rw[h] at g2 g4;exact⟨v9 g1 gm,g2,by show oO (f.b1++[m])+j<=5;rw[vG];omega,g4,g5⟩
 | some b =>
  rw[h] at g2 g4;exact⟨g1,v9 (show BW true b from g2) gm,g3,by show oO (b++[m])+j<=5;rw[vG];have:oO b+j<=5:=g4;omega,g5⟩
theorem JA{j:Nat}{i:Bool}(g:Gf (j+1) f)(hs:s.sok):(eK f i s).gd true/\(eK f i s).dp+j<=5/\(eK f i s).sz<=bY f.b1+bY (f.b2.getD [])+2:=by
 obtain⟨g1,g2,g3,g4,g5⟩:=g;cases i with
 | true=>exact⟨⟨hs,g1,g2⟩,by simp only[eK,if_true,Stm.dp];omega,by simp only[eK,if_true,Stm.sz];omega⟩
 | false=>exact⟨⟨hs,g1⟩,by simp only[eK,Bool.false_eq_true,if_false,Stm.dp];omega,by simp only[eK,Bool.false_eq_true,if_false,Stm.sz];omega⟩
theorem E4(h:x∈L):bY x.2.b1+bY (x.2.b2.getD [])+2<=AH L:=by
 induction L with
 | nil=>simp at h
 | cons y r ih =>
  rcases List.mem_cons.mp h with rfl|h
  ·simp[AH]
  ·have:=ih h;simp only[AH,List.map_cons,List.sum_cons] at this ⊢;omega
theorem Fz{y:FC×Fr}{i:Bool}(g:GL (I++[x]++[y]))(h:y.2.hd=some (i,s))(hs:s.sok):GL (I++[(x.1,x.2.add (eK y.2 i s))])/\AH (I++[(x.1,x.2.add (eK y.2 i s))])<=AH (I++[x]++[y]):=by
 have gy:=g.top;rw[List.length_append,List.length_singleton] at gy;obtain⟨c1,c2,c3⟩:=JA (i:=i) gy hs;refine⟨g.init.init.snoc (g.init.top.add c1 c2),?_⟩;rw[jM,jM,jM,jN,jN,jN];have:=DS x.2 (eK y.2 i s);show AH I+(bY (x.2.add (eK y.2 i s)).b1+bY ((x.2.add (eK y.2 i s)).b2.getD [])+2)<=_;omega
inductive LU(vs:List V)(H:Hp)(Q:VK)(E:XK):Prop
 | mk (cl:Addr) (ms:List Int) (_:vs=[.ref cl]) (_:H cl=some (.lst (ms.map V.int))) (_:ms.length<=63) (_:∀(p:Addr) (us:List V) (b:List Stm) (H':Hp),H' p=some (.tup us)->bH H' us b->BW true b->oO b<=5->bY b<=200->Kp [] H H'->Q 1e21 H'):LU vs H Q E
def Ja(cs:Cmds):Prop:=∀ c∈cs,c.length<=100000/\∀ v∈c,gH v
def Fu(h:gH v):Ja [[v,wv w]]:=fun c hc=>by
 rw[show c=[v,wv w] by simpa using hc];refine⟨by simp,fun u hu=>?_⟩;simp only[List.mem_cons,List.not_mem_nil,or_false] at hu;rcases hu with rfl|rfl
 ·exact h
 ·exact lG w
def Mp{a b:Cmds}(h:Ja a)(g:Ja b):Ja (a++b):=fun c hc=>(List.mem_append.mp hc).elim (h c) (g c)
def Am(S:Pu)(m:Stm):Ja (one S m).2:=by
 by_cases h:m.isB=true
 ·rw[An h];intro c hc;simp at hc
 ·rw[i6 1e37];exact Ef S m
theorem kY:∀(n:Nat) (S:Pu),(dH n S).2.length<=n+1/\Ja (dH n S).2
 | 0,S=>by
  cases e:Wf S.bC.stk with
  | none=>rw[j8 e];exact⟨by simp[Pu.ends],Fu trivial⟩
  | some m=>rw[qX e];exact⟨by simp[Pu.mW],fun c hc=>by rw[show c=[V.str "worn"] by simpa[Pu.mW] using hc];exact⟨by simp,fun u hu=>by rw[show u=.str "worn" by simpa using hu];trivial⟩⟩
 | n+1,S=>by
  cases e:Wf S.bC.stk with
  | none=>rw[j8 e];exact⟨by simp[Pu.ends],Fu trivial⟩
  | some m =>
   rw[qV e];have l1:=BB S.bC m;split
   ·have ih:=kY n (one S.bC m).1;exact⟨by rw[List.length_append];omega,Mp (Am _ _) ih.2⟩
   ·exact⟨by omega,Am _ _⟩
def yS(S:Pu)(w:Wo):(S.wake w).2.length<=301/\Ja (S.wake w).2:=by
 unfold Pu.wake;split
 ·exact kY 300 _
 ·exact kY 300 _
 ·exact⟨by simp,fun c hc=>by simp at hc⟩
def Fd(S:Pu)(h:Hap):(S.take h).2.length<=301/\Ja (S.take h).2:=by
 have e0:∀ T:Pu,((T,([]:Cmds)):Pu×Cmds).2.length<=301/\Ja ((T,([]:Cmds)):Pu×Cmds).2:=fun T=>⟨by simp,fun c hc=>by simp at hc⟩;unfold Pu.take;split
 ·exact e0 _
 ·cases h with
  | WR m w=>exact kY 300 _
  | don m i w =>
   show(((S.at' m).fH i w).2.length<=301/\Ja ((S.at' m).fH i w).2);unfold Pu.fH;split
   ·split
    ·exact yS _ _
    ·exact e0 _
   ·exact e0 _
  | ltr m k w =>
   show(((S.at' m).eZ k w).2.length<=301/\Ja ((S.at' m).eZ k w).2);unfold Pu.eZ;split
   ·split
    ·exact yS _ _
    ·exact e0 _
   ·exact e0 _
def Gc{ys:List V}(h:∀ y∈ys,y∈ns.map V.int):∃ ms:List Int,ys=ms.map V.int/\ms.length=ys.length:=by
 induction ys with
 | nil=>exact⟨[],rfl,rfl⟩
 | cons y r ih =>
  obtain⟨ms,e,l⟩:=ih fun z hz=>h z (by simp[hz]);obtain⟨n,_,rfl⟩:=List.mem_map.mp (h y 1e1);exact⟨n::ms,by rw[e];rfl,by simp[l]⟩
theorem qK.Ut{u:V}{s:Slp}(h1:nQ H v s)(h2:nQ H u s)(n:s.isN=false)(hs:∀ ts,s=.wait ts->ts.length<=1000):qK H 3 v u:=by
 cases s with
 | Wb=>cases n
 | wait ts =>
  have hl:=hs ts rfl;obtain⟨p,p2,rfl,e,e2⟩:=h1;obtain⟨q,q2,rfl,f,f2⟩:=h2;refine .tup e f rfl 1e1 fun i x y a b=>?_
  match i,a,b with
  | 0,a,b =>
   simp only[List.getElem?_cons_zero,Option.some.injEq] at a b;subst a b;exact .atom trivial
  | 1,a,b =>
   simp only[List.getElem?_cons_succ,List.getElem?_cons_zero,Option.some.injEq] at a b;subst a b;refine qK.pair (d:=0) e2 f2 (by rw[List.length_map];omega) fun v hv=>?_;obtain⟨j,_,rfl⟩:=List.mem_map.mp hv;trivial
  | k+2,a,b=>simp at a
 | ended w =>
  obtain⟨p,rfl,e⟩:=h1;obtain⟨q,rfl,f⟩:=h2;refine qK.pair (d:=1) e f 1e1 fun v hv=>?_;simp only[List.mem_cons,List.not_mem_nil,or_false] at hv;rcases hv with rfl|rfl
  ·trivial
  ·exact lG w
 | Wg k =>
  obtain⟨p,rfl,e⟩:=h1;obtain⟨q,rfl,f⟩:=h2;refine qK.pair (d:=1) e f 1e1 fun v hv=>?_;simp only[List.mem_cons,List.not_mem_nil,or_false] at hv;rcases hv with rfl|rfl<;>trivial
 | new =>
  obtain⟨p,rfl,e⟩:=h1;obtain⟨q,rfl,f⟩:=h2;refine qK.pair (d:=1) e f 1e1 fun v hv=>?_;simp only[List.mem_cons,List.not_mem_nil,or_false] at hv;subst hv;trivial
 | worn =>
  obtain⟨p,rfl,e⟩:=h1;obtain⟨q,rfl,f⟩:=h2;refine qK.pair (d:=1) e f 1e1 fun v hv=>?_;simp only[List.mem_cons,List.not_mem_nil,or_false] at hv;subst hv;trivial
local macro_rules | `(tactic| wp_walk) => `(tactic| wp_walk using true_and)
local macro_rules | `(tactic| wp_walk using $ts,*) => do
  let us ← ts.getElems.mapM fun t => `(Lean.Parser.Tactic.simpLemma| $t:term)
  let vs <- ("↓Rv ↓Uh ↓Dd ↓RP ↓NY ↓NX ↓VH ↓Vd ↓Ve ↓Vf ↓Vg ↓Vh ↓Vi ↓Vj ↓Vk ↓PJ ↓PF ↓PH ↓Te ↓Sm ↓QD ↓Td ↓QJ ↓SE ↓J6 ↓Vy ↓Vr ↓Vv ↓Vz ↓V3 ↓P5 ↓SW ↓JS ↓Vq ↓SQ ↓Tj ↓Qd ↓Qe ↓QE ↓P6 ↓PY ↓S9 ↓QF ↓Sk ↓Vw ↓SX ↓Vx ↓QG ↓J0 ↓Qn ↓Qm ↓MS ↓Qk ↓SD ↓Tb ↓Sl ↓Ta ↓S6 ↓S5 ↓MY ↓MW ↓MX ↓J1 ↓J2 ↓MV ↓SG ↓SH ↓PU ↓PX ↓PV ↓P4 ↓Ti ↓Th ↓P8 ↓QB ↓QA ↓Tf ↓Vs ↓Qx ↓Qz ↓Qy ↓Sn ↓So ↓Sq ↓Sr ↓MI ↓MN ↓JU ↓JV ↓Qw ↓Qq ↓Qp ↓Vt ↓MT ↓SR ↓SS ↓zC ↓vM ↓vP ↓vN ↓vO ↓zD ↓tG ↓tJ ↓tH ↓tI ↓HK ↓HL ↓Em ↓En ↓Su ↓Sv ↓Qv ↓Qu ↓S3 ↓MR ↓S4 ↓Qh ↓ML ↓MK ↓MZ ↓QU ↓Sw ↓Qf ↓Qo ↓Vn ↓Vo ↓Vp ↓Na ↓J5 ↓P9 ↓MJ ↓MO ↓Nh ↓Vu ↓Sz ↓QH ↓Ng ↓QR ↓QN ↓QP ↓J7 ↓QQ ↓QT ↓QO ↓MM ↓SU ↓Sx ↓FK ↓SA ↓QK ↓PZ ↓JZ ↓QC ↓JY ↓HM ↓QI ↓Nc ↓QV ↓QW ↓Qs ↓QM ↓Qb ↓MP ↓JX ↓JW ↓MQ ↓Qa ↓Ql ↓SF ↓P2 ↓Ss ↓SN ↓SO ↓SV ↓J3 ↓Nb ↓Qc ↓Qr ↓SK ↓SI ↓SM ↓SJ ↓S8 ↓S7 ↓SY ↓S2 ↓Tc ↓Nd ↓MU ↓J4 ↓Sy ↓Nf ↓QL ↓JT ↓Qj ↓UQ ↓UR ↓US ↓UT ↓UU ↓Ph ↓UO ↓VS ↓UJ ↓UK ↓UL ↓UM ↓VR ↓aA ↓List.set_cons_zero ↓List.set_cons_succ ↓List.getElem?_cons_zero ↓List.getElem?_cons_succ L2.start Ew KI List.cons_append List.nil_append List.append_nil List.replicate_succ List.replicate_zero List.length_cons List.length_nil Nat.reduceAdd Nat.reduceSub Nat.zero_add Nat.add_zero Nat.reduceLeDiff Nat.reducePow Nat.reduceLT true_and and_true false_and and_false forall_const ↓reduceIte cH String.reduceEq Int.reduceToNat Int.reducePow Int.reduceNeg Int.reduceSub Int.reduceAdd Int.reduceMul Int.reduceLT Int.reduceLE Int.reduceEq sizeLine V8 VQ decide_true decide_false Bool.not_true Bool.not_false Bool.false_eq_true".splitOn " ").toArray.mapM fun(n:String)=>do
    let p:=n.splitOn "↓";let x:=Lean.mkIdent (p.getLastD "").toName
    if p.length = 1 then `(Lean.Parser.Tactic.simpLemma| $x:term) else `(Lean.Parser.Tactic.simpLemma| ↓ $x:term)
  let ws:=us++vs
  `(tactic| try simp (config := { dsimp := false }) only [$ws,*])
noncomputable def GN(K:q0B):Sp:=fun vs H Q _=>∃(a:Addr) (ns:List Int),vs=[.ref a]/\e9 K H a 1e63/\ns.length<=63/\∀ H',Q (.bl true) H'
section
variable{P:Program}{w:World}(T:Tx P w base K mg t)
theorem CO:Ok T T.dQ 1 (fun _ _ _ _=>False):=T.dQ.ok (fun vs H Q E h=>False.elim h) (fun Wy A outer s H vs Q E hr _ h=>False.elim h)
theorem xD:Ok T T.pL 1 LK:=by
 nomatch T.pL
 ·obtain⟨z,k,rfl,_⟩:=h;rfl
 ·obtain⟨z,k,rfl,q⟩:=h
  nomatch (pss2 (pif (ptc Ud pv0 (bE i7 aB aB)) (aG (aJ (aR (pa3 (bE i8 pv0 (bE i7 aB aB)) aB pv1))))) (aJ (aR (pa3 pv0 aB pv1)))),0
  wp_walk;split
  ·exact fun r hr'=>q r _ hr' (Kp.new hr') ⟨_,_,_,aA,by omega,by omega⟩
  ·exact fun r hr'=>q r _ hr' (Kp.new hr') ⟨_,_,_,aA,by omega,by omega⟩
theorem bB:Ok T T.bK 1 GJ:=by
 nomatch T.bK
 ·obtain⟨r,m,n,rfl,_⟩:=h;rfl
 ·obtain⟨r,m,n,rfl,m0,m1,⟨c,f,s,hr0,s0,s1⟩,hn,q⟩:=h
  nomatch (aH (lF (bE cG 1e47 aB) (rP pv0 aB yA)) (aH (pif (ptc aU 1e47 aB) (pss3 (pst 2 (bE xJ 1e47 pv1)) (lF (bE C1 1e47 pv1) (rP pv0 aB yA)) (aJ pv2))) (pss3 (pst 3 (bE xJ (bE cG 1e47 (bE oW aB 1e47)) aB)) (pst 3 (bE xJ (bE oW pv3 pv3) aB)) (aJ (bE xJ (bE C1 (bE xJ (bE oW pv3 (bE cG (bE cG pv3 aB) (bE oW aB 1e47))) aB) aB) pv1))))),0
  exists hr0,ix32
  split
  ·exact⟨m0,⟨m0,log2_lt m0 m1⟩,q _ _ (Int.emod_nonneg _ 1e0) (Int.emod_lt_of_pos _ m0) ⟨_,_,_,aA,by omega,by omega⟩ ((Kp.set 1e1).trans (Kp.set 1e1))⟩
  ·exact⟨Gk 1e6 1e6,OO 1e6 1e6 _,OO 1e6 1e6 _,⟨by decide,by decide⟩,m0,q _ _ (Int.emod_nonneg _ 1e0) (Int.emod_lt_of_pos _ m0) ⟨_,_,_,aA,by omega,by omega⟩ (Kp.set 1e1)⟩
theorem pU:Ok T T.kW 1 LJ:=by
 nomatch T.kW
 ·obtain⟨fl,I,x,y,i,s,rfl,_⟩:=h;rfl
 ·obtain⟨fl,I,x,y,i,s,rfl,F,hh,hl,q⟩:=h;have hu:=nU hr
  nomatch (pss2 (lF (uC pv0) (Ls rfl (eW (pgn 1) (eW (pgn 2) (eW (pgn 3) uE))))) (fL (ptc aU 1e4 aC) (aG (aM (dC (pix aK (pix aK pv0 (fK dM aB)) (bE cG aB (cA gB rfl T.zQ lW (pa1 (pcr rM (pix aK (pix aK pv0 (fK dM aB)) aB) cD))))) (bE kH pv1 (a9 (pa2 (cA gX rfl T.iK fJ (pa1 pv2)) (cA gX rfl T.iK fJ (pa1 (Rr pv3 (mM (aR bQ))))))))))) (aG (aM (dC (pix aK (pix aK pv0 (fK dM aB)) (bE cG aB (cA gB rfl T.zQ lW (pa1 (pcr rM (pix aK (pix aK pv0 (fK dM aB)) aB) cD))))) (bE kH pv1 (a9 (pa1 (cA gX rfl T.iK fJ (pa1 pv2)))))))))),0
  have la:=Nv (I++[x]) y;have ld:=Ib (I++[x]) y;have ef:=F.e;obtain⟨P1,FY⟩:=F.pop;obtain⟨hv,Xm,e1,e2,e3,e4,e5⟩:=FY;rw[hh] at e2;obtain⟨ha,sv,rfl,eh,hS⟩:=e2;have K1:Kp (fl::x.1.cells) H (Wa H fl (.lst ((I++[x]).map fun x=>.ref x.1.fa))):=Kp.set 1e1;left
  exists ef,la,ld
  refine⟨_,e9.of e1,rfl,?_⟩;generalize Wa H fl (.lst ((I++[x]).map fun x=>.ref x.1.fa))=G1 at *;wp_walk;right;have FX:=P1.fr x 1e1;have FX0:=FX;obtain⟨Yj,usx,x1,x2,x3,x4,x5⟩:=FX;have ep:=P1.e;have l1:=Gh I x;clear la ld ef;have ac1:=hl;have fin:∀(Gt:Hp) (pt:Addr) (m:Stm),m=eK y.2 i s->b7 Gt (.ref pt) m->Kp [] G1 Gt->∃ us,Gt x.1.cur=some (.lst us)/\us.length < 16777216/\Q .Wb (Wa Gt x.1.cur (.lst (us++[.ref pt]))):=fun Gt pt m em hm KT=>by
   subst em;obtain⟨us,b,c1,c2,c3,c4,c5⟩:=(P1.kp KT).app hm;have lu:=c2.len;have lx:=hl x 1e1;refine⟨us,c1,?_,q _ c5 (fun z o e n=>?_)⟩
   ·rcases c3 with rfl|c3
    ·omega
    ·rw[c3] at lx;have:b.length<=1000:=lx.2;omega
   ·rw[aD (fun y=>n (by rw[y];exact List.mem_cons_of_mem _ c4))];exact KT.at (K1 z o e n)
  clear q P1 F;cases i with
  | true =>
   replace eh:G1 ha=some (.tup [.str "if",sv]):=eh;cases X6:x.1.f2 with
   | none =>
    have WJ:x.1.cur=x.1.f1:=by simp[FC.cur,X6]
    rw[X6] at x1;replace x1:G1 x.1.fa=some (.lst [Yj,.ref x.1.f1,.Wb]):=x1
    exists eh,ep,l1,x1,x3,e3
    refine fun l hl=>?_;generalize hg:Wa G1 l (.tup Xm)=G2;have NL:Kp [] G1 G2:=hg▸Kp.new hl;have el:G2 l=some (.tup Xm):=hg▸aA;clear hg;have Xb:=e4.kp (aE.nil NL);cases hy2:y.1.f2 with
    | none =>
     have hb:y.2.b2=none:=by
      rw[hy2] at e5;cases h:y.2.b2 with
      | none=>rfl
      | some b=>rw[h] at e5;exact e5.elim
     exists rv
     refine fun le hle q2 WU=>?_;have KQ:Kp [] G1 _:=(NL.trans (Kp.new (o:=.lst []) hle)).trans (Kp.new (o:=.tup []) WU);have eq2:Wa (Wa G2 le 1e10) q2 (.tup []) q2=some (.tup []):=aA;replace el:=(q0D (o:=.tup []) WU).at ((q0D (o:=.lst []) hle).at el);replace Xb:=Xb.kp (aE.nil ((q0D (o:=.lst []) hle).trans (Kp.new (o:=.tup []) WU)));have Yg:bH (Wa (Wa G2 le 1e10) q2 (.tup [])) [] (y.2.b2.getD []):=by rw[hb];exact .nil
     generalize Wa (Wa G2 le 1e10) q2 (.tup [])=GQ at *;refine fun p hp=>?_;have NP:=q0D (o:=.tup [.ref l,.ref q2]) hp;refine lR ((KQ.trans NP).at eh) aA 1e1 fun pt Gt et Kt=>?_;have KT:=(KQ.trans NP).trans Kt;have TT:=aE.nil (NP.trans Kt);obtain⟨us,c1,c2,c3⟩:=fin Gt pt (.iff s y.2.b1 (y.2.b2.getD [])) rfl 1e62 KT;rw[WJ] at c1 c3;rw[c1];exact⟨c2,c3⟩
    | some a2 =>
     rw[hy2] at e5;obtain⟨b2,WL,hb,e6,e7⟩:∃ b2 WL,y.2.b2=some b2/\G1 a2=some (.lst WL)/\bH G1 WL b2:=by
      cases h:y.2.b2 with
      | none=>rw[h] at e5;exact e5.elim
      | some b=>rw[h] at e5;obtain⟨us,e6,e7⟩:=e5;exact⟨b,us,rfl,e6,e7⟩
     replace e6:=NL.at e6;replace e7:=e7.kp (aE.nil NL)
     exists rv,e6
     split
     ·next ht =>
      refine fun q2 WU=>?_;have KQ:Kp [] G1 _:=NL.trans (Kp.new (o:=.tup WL) WU);have eq2:Wa G2 q2 (.tup WL) q2=some (.tup WL):=aA;replace el:=(q0D (o:=.tup WL) WU).at el;replace Xb:=Xb.kp (aE.nil (q0D (o:=.tup WL) WU));have Yg:bH (Wa G2 q2 (.tup WL)) WL (y.2.b2.getD []):=by rw[hb];exact e7.kp (aE.nil (q0D WU))
      generalize Wa G2 q2 (.tup WL)=GQ at *;refine fun p hp=>?_;have NP:=q0D (o:=.tup [.ref l,.ref q2]) hp;refine lR ((KQ.trans NP).at eh) aA 1e1 fun pt Gt et Kt=>?_;have KT:=(KQ.trans NP).trans Kt;have TT:=aE.nil (NP.trans Kt);obtain⟨us,c1,c2,c3⟩:=fin Gt pt (.iff s y.2.b1 (y.2.b2.getD [])) rfl 1e62 KT;rw[WJ] at c1 c3;rw[c1];exact⟨c2,c3⟩
     ·next ht =>
      have hu:WL=[]:=by cases WL<;>simp at ht ⊢
      subst hu;have hb0:b2=[]:=by cases e7;rfl
      subst hb0;refine fun le hle q2 WU=>?_;have KQ:Kp [] G1 _:=(NL.trans (Kp.new (o:=.lst []) hle)).trans (Kp.new (o:=.tup []) WU);have eq2:Wa (Wa G2 le 1e10) q2 (.tup []) q2=some (.tup []):=aA;replace el:=(q0D (o:=.tup []) WU).at ((q0D (o:=.lst []) hle).at el);replace Xb:=Xb.kp (aE.nil ((q0D (o:=.lst []) hle).trans (Kp.new (o:=.tup []) WU)));have Yg:bH (Wa (Wa G2 le 1e10) q2 (.tup [])) [] (y.2.b2.getD []):=by rw[hb];exact .nil
      generalize Wa (Wa G2 le 1e10) q2 (.tup [])=GQ at *;refine fun p hp=>?_;have NP:=q0D (o:=.tup [.ref l,.ref q2]) hp;refine lR ((KQ.trans NP).at eh) aA 1e1 fun pt Gt et Kt=>?_;have KT:=(KQ.trans NP).trans Kt;have TT:=aE.nil (NP.trans Kt);obtain⟨us,c1,c2,c3⟩:=fin Gt pt (.iff s y.2.b1 (y.2.b2.getD [])) rfl 1e62 KT;rw[WJ] at c1 c3;rw[c1];exact⟨c2,c3⟩
   | some a =>
    have WJ:x.1.cur=a:=by simp[FC.cur,X6]
    rw[X6] at x1 x5;replace x1:G1 x.1.fa=some (.lst [Yj,.ref x.1.f1,.ref a]):=x1;obtain⟨ux,ex⟩:∃ ux,G1 a=some (.lst ux):=by
     cases h:x.2.b2 with
     | none=>rw[h] at x5;exact x5.elim
     | some b=>rw[h] at x5;obtain⟨us,e6,e7⟩:=x5;exact⟨us,e6⟩
    exists eh,ep,l1,x1,ex,e3
    rw[show fI [Yj,.ref x.1.f1,.ref a] (1+if (!decide (V.ref a=V.Wb))=true then 1 else 0)=some 1e11 by rw[show(!decide (V.ref a=V.Wb))=true by simp];rfl]
    exists eh,ex,e3
    refine fun l hl=>?_;generalize hg:Wa G1 l (.tup Xm)=G2;have NL:Kp [] G1 G2:=hg▸Kp.new hl;have el:G2 l=some (.tup Xm):=hg▸aA;clear hg;have Xb:=e4.kp (aE.nil NL);cases hy2:y.1.f2 with
    | none =>
     have hb:y.2.b2=none:=by
      rw[hy2] at e5;cases h:y.2.b2 with
      | none=>rfl
      | some b=>rw[h] at e5;exact e5.elim
     exists rv
     refine fun le hle q2 WU=>?_;have KQ:Kp [] G1 _:=(NL.trans (Kp.new (o:=.lst []) hle)).trans (Kp.new (o:=.tup []) WU);have eq2:Wa (Wa G2 le 1e10) q2 (.tup []) q2=some (.tup []):=aA;replace el:=(q0D (o:=.tup []) WU).at ((q0D (o:=.lst []) hle).at el);replace Xb:=Xb.kp (aE.nil ((q0D (o:=.lst []) hle).trans (Kp.new (o:=.tup []) WU)));have Yg:bH (Wa (Wa G2 le 1e10) q2 (.tup [])) [] (y.2.b2.getD []):=by rw[hb];exact .nil
     generalize Wa (Wa G2 le 1e10) q2 (.tup [])=GQ at *;refine fun p hp=>?_;have NP:=q0D (o:=.tup [.ref l,.ref q2]) hp;refine lR ((KQ.trans NP).at eh) aA 1e1 fun pt Gt et Kt=>?_;have KT:=(KQ.trans NP).trans Kt;have TT:=aE.nil (NP.trans Kt);obtain⟨us,c1,c2,c3⟩:=fin Gt pt (.iff s y.2.b1 (y.2.b2.getD [])) rfl 1e62 KT;rw[WJ] at c1 c3;rw[c1];exact⟨c2,c3⟩
    | some a2 =>
     rw[hy2] at e5;obtain⟨b2,WL,hb,e6,e7⟩:∃ b2 WL,y.2.b2=some b2/\G1 a2=some (.lst WL)/\bH G1 WL b2:=by
      cases h:y.2.b2 with
      | none=>rw[h] at e5;exact e5.elim
      | some b=>rw[h] at e5;obtain⟨us,e6,e7⟩:=e5;exact⟨b,us,rfl,e6,e7⟩
     replace e6:=NL.at e6;replace e7:=e7.kp (aE.nil NL)
     exists rv,e6
     split
     ·next ht =>
      refine fun q2 WU=>?_;have KQ:Kp [] G1 _:=NL.trans (Kp.new (o:=.tup WL) WU);have eq2:Wa G2 q2 (.tup WL) q2=some (.tup WL):=aA;replace el:=(q0D (o:=.tup WL) WU).at el;replace Xb:=Xb.kp (aE.nil (q0D (o:=.tup WL) WU));have Yg:bH (Wa G2 q2 (.tup WL)) WL (y.2.b2.getD []):=by rw[hb];exact e7.kp (aE.nil (q0D WU))
      generalize Wa G2 q2 (.tup WL)=GQ at *;refine fun p hp=>?_;have NP:=q0D (o:=.tup [.ref l,.ref q2]) hp;refine lR ((KQ.trans NP).at eh) aA 1e1 fun pt Gt et Kt=>?_;have KT:=(KQ.trans NP).trans Kt;have TT:=aE.nil (NP.trans Kt);obtain⟨us,c1,c2,c3⟩:=fin Gt pt (.iff s y.2.b1 (y.2.b2.getD [])) rfl 1e62 KT;rw[WJ] at c1 c3;rw[c1];exact⟨c2,c3⟩
     ·next ht =>
      have hu:WL=[]:=by cases WL<;>simp at ht ⊢
      subst hu;have hb0:b2=[]:=by cases e7;rfl
      subst hb0;refine fun le hle q2 WU=>?_;have KQ:Kp [] G1 _:=(NL.trans (Kp.new (o:=.lst []) hle)).trans (Kp.new (o:=.tup []) WU);have eq2:Wa (Wa G2 le 1e10) q2 (.tup []) q2=some (.tup []):=aA;replace el:=(q0D (o:=.tup []) WU).at ((q0D (o:=.lst []) hle).at el);replace Xb:=Xb.kp (aE.nil ((q0D (o:=.lst []) hle).trans (Kp.new (o:=.tup []) WU)));have Yg:bH (Wa (Wa G2 le 1e10) q2 (.tup [])) [] (y.2.b2.getD []):=by rw[hb];exact .nil
      generalize Wa (Wa G2 le 1e10) q2 (.tup [])=GQ at *;refine fun p hp=>?_;have NP:=q0D (o:=.tup [.ref l,.ref q2]) hp;refine lR ((KQ.trans NP).at eh) aA 1e1 fun pt Gt et Kt=>?_;have KT:=(KQ.trans NP).trans Kt;have TT:=aE.nil (NP.trans Kt);obtain⟨us,c1,c2,c3⟩:=fin Gt pt (.iff s y.2.b1 (y.2.b2.getD [])) rfl 1e62 KT;rw[WJ] at c1 c3;rw[c1];exact⟨c2,c3⟩
  | false =>
   replace eh:G1 ha=some (.tup [.str "while",sv]):=eh;cases X6:x.1.f2 with
   | none =>
    have WJ:x.1.cur=x.1.f1:=by simp[FC.cur,X6]
    rw[X6] at x1;replace x1:G1 x.1.fa=some (.lst [Yj,.ref x.1.f1,.Wb]):=x1
    exists eh,ep,l1,x1,x3,e3
    refine fun l hl=>?_;generalize hg:Wa G1 l (.tup Xm)=G2;have NL:Kp [] G1 G2:=hg▸Kp.new hl;have el:G2 l=some (.tup Xm):=hg▸aA;clear hg;have Xb:=e4.kp (aE.nil NL);refine fun p hp=>?_;have NP:=q0D (o:=.tup [.ref l]) hp;refine lR ((NL.trans NP).at eh) aA 1e1 fun pt Gt et Kt=>?_;have KT:=(NL.trans NP).trans Kt;have TT:=aE.nil (NP.trans Kt);obtain⟨us,c1,c2,c3⟩:=fin Gt pt (.Wu s y.2.b1) rfl (.Wu et (hS.kp (aE.nil KT)) (TT _ _ el) (Xb.kp TT)) KT;rw[WJ] at c1 c3;rw[c1];exact⟨c2,c3⟩
   | some a =>
    have WJ:x.1.cur=a:=by simp[FC.cur,X6]
    rw[X6] at x1 x5;replace x1:G1 x.1.fa=some (.lst [Yj,.ref x.1.f1,.ref a]):=x1;obtain⟨ux,ex⟩:∃ ux,G1 a=some (.lst ux):=by
     cases h:x.2.b2 with
     | none=>rw[h] at x5;exact x5.elim
     | some b=>rw[h] at x5;obtain⟨us,e6,e7⟩:=x5;exact⟨us,e6⟩
    exists eh,ep,l1,x1,ex,e3
    rw[show fI [Yj,.ref x.1.f1,.ref a] (1+if (!decide (V.ref a=V.Wb))=true then 1 else 0)=some 1e11 by rw[show(!decide (V.ref a=V.Wb))=true by simp];rfl]
    exists eh,ex,e3
    refine fun l hl=>?_;generalize hg:Wa G1 l (.tup Xm)=G2;have NL:Kp [] G1 G2:=hg▸Kp.new hl;have el:G2 l=some (.tup Xm):=hg▸aA;clear hg;have Xb:=e4.kp (aE.nil NL);refine fun p hp=>?_;have NP:=q0D (o:=.tup [.ref l]) hp;refine lR ((NL.trans NP).at eh) aA 1e1 fun pt Gt et Kt=>?_;have KT:=(NL.trans NP).trans Kt;have TT:=aE.nil (NP.trans Kt);obtain⟨us,c1,c2,c3⟩:=fin Gt pt (.Wu s y.2.b1) rfl (.Wu et (hS.kp (aE.nil KT)) (TT _ _ el) (Xb.kp TT)) KT;rw[WJ] at c1 c3;rw[c1];exact⟨c2,c3⟩
theorem fX:Ok T T.gN 2 GI:=by
 nomatch T.gN
 ·obtain⟨r,n,rfl,_⟩:=h;rfl
 ·obtain⟨r,n,rfl,hR,hn,q⟩:=h
  nomatch (aG (aJ (pix aK (aR (eJ aC (pa3 aC aC aC))) 1e12))),0
  wp_walk;refine fun p hp=>⟨_,hR.new hp,by omega,fun g H1 a1 b1 R1 K1=>?_⟩
  exists made1 K1 hR hp
  refine iJ a1 b1 fun v hv=>?_;have K:=(Kp.new (S:=[r]) hp).trans K1;simp only[List.mem_cons,List.not_mem_nil,or_false] at hv;rcases hv with rfl|rfl|rfl|rfl<;>exact q _ _ R1 K
theorem BP(hn:3<=n)(IH:eP P w K mg base WW n t.oG t.oN ["deck","deep"] (BM d)):Ok T T.bR (n+1) (BM (d+1)):=by
 nomatch T.bR
 ·obtain⟨r,dp,n,rfl,_⟩:=h;rfl
 ·obtain⟨r,dp,n0,rfl,d1,d2,hR,hn0,q⟩:=h
  nomatch (aH (pst 2 1e12) (aH (pif (ptc jJ pv2 aB) (aG (aJ (a9 (pa2 aC (pcl (fX T) T.gN (pa1 pv0))))))) (aH (pif (PW.pt (GB (ptc jJ pv2 aB) (BI (ptc jJ pv1 aB)))) (aG (aJ (pix aK (aR (eJ (a9 (pa2 aC 1e12)) (eJ (a9 (pa1 aC)) (pa3 (a9 (pa1 aC)) (a9 (pa1 aC)) (a9 (pa2 aC (fK dM aB))))))) 1e12)))) (aH (pif (ptc aU pv2 aB) (aG (aJ (a9 (pa2 aC (pix aK (aR (eJ (bE i7 aB aB) (pa3 (fK dM (bE i7 aB aB)) aB aB))) 1e12)))))) (aH (pif (ptc aU pv2 aB) (aG (aJ (a9 (pa2 aC (pcl IH T.bR (pa2 pv0 (bE i8 pv1 aB)))))))) (pss3 (pif (ptc aU pv2 aB) (aG (aJ (a9 (pa2 aC (pcl IH T.bR (pa2 pv0 (bE i8 pv1 aB)))))))) (pst 3 (pcl IH T.bR (pa2 pv0 (bE i8 pv1 aB)))) (aJ (a9 (pa3 (pix aK (aR (eJ aC (eJ aC (pa3 aC aC aC)))) 1e12) pv3 (pcl IH T.bR (pa2 pv0 (bE i8 pv1 aB)))))))))))),0
  left;wp_walk;have bp:=Pq d;have be:bd (d+1)=2 * bd d+3:=rfl;refine⟨_,hR,by omega,fun g H1 a1 b1 R1 K1=>?_⟩;right;left;wp_walk;split
  ·refine⟨_,R1,by omega,fun x H2 R2 K2=>?_⟩;wp_walk;exact fun p hp=>q _ (.name x) _ (.name aA) trivial (by simpa[Say.depth] using d1) ((R2.new hp).up 1e0) ((K1.trans K2).trans (Kp.new hp))
  right;left;wp_walk;simp only[VA];split
  ·refine⟨_,R1,by omega,fun g2 H2 a2 b2 R2 K2=>?_⟩;wp_walk;refine fun p1 h1 p2 h2 p3 h3 p4 h4 p5 h5 p6 h6=>⟨_,(((((R2.new h1).new h2).new h3).new h4).new h5).new h6,by omega,fun g3 H3 a3 b3 R3 K3=>?_⟩;have q1:=(R2.none h1);have q2:=((R2.new (o:=.tup [.str "number",.int g2]) h1).none h2);have q3:=(((R2.new (o:=.tup [.str "number",.int g2]) h1).new (o:=.tup [.str "none"]) h2).none h3);have q4:=((((R2.new (o:=.tup [.str "number",.int g2]) h1).new (o:=.tup [.str "none"]) h2).new (o:=.tup [.str "arg"]) h3).none h4);have q5:=(((((R2.new (o:=.tup [.str "number",.int g2]) h1).new (o:=.tup [.str "none"]) h2).new (o:=.tup [.str "arg"]) h3).new (o:=.tup [.str "now"]) h4).none h5);have q6:=((((((R2.new (o:=.tup [.str "number",.int g2]) h1).new (o:=.tup [.str "none"]) h2).new (o:=.tup [.str "arg"]) h3).new (o:=.tup [.str "now"]) h4).new (o:=.tup [.str "number",.int (-7)]) h5).none h6);have N6:=q0D (o:=.lst [.ref p1,.ref p2,.ref p3,.ref p4,.ref p5]) h6;have N5:=(q0D (o:=.tup [.str "number",.int (-7)]) h5).trans N6;have N4:=(q0D (o:=.tup [.str "now"]) h4).trans N5;have N3:=(q0D (o:=.tup [.str "arg"]) h3).trans N4;have N2:=(q0D (o:=.tup [.str "none"]) h2).trans N3;have N1:=(q0D (o:=.tup [.str "number",.int g2]) h1).trans N2;have t1:=K3.Wl (N2.at aA) q1;have t2:=K3.Wl (N3.at aA) q2;have t3:=K3.Wl (N4.at aA) q3;have t4:=K3.Wl (N5.at aA) q4;have t5:=K3.Wl (N6.at aA) q5;have t6:=K3.Wl aA q6;have K:=((K1.trans K2).trans (N1.mono (T:=[r]) 1e1)).trans K3
   exists t6
   refine iJ a3 b3 fun v hv=>?_;simp only[List.mem_cons,List.not_mem_nil,or_false] at hv;rcases hv with rfl|rfl|rfl|rfl|rfl
   ·exact q _ (.num g2) _ (.num t1) ⟨by omega,by omega⟩ (by simpa[Say.depth] using d1) (R3.up 1e0) K
   ·exact q _ .Wb _ (.Wb t2) trivial (by simpa[Say.depth] using d1) (R3.up 1e0) K
   ·exact q _ .arg _ (.arg t3) trivial (by simpa[Say.depth] using d1) (R3.up 1e0) K
   ·exact q _ .now _ (.now t4) trivial (by simpa[Say.depth] using d1) (R3.up 1e0) K
   ·exact q _ (.num (-7)) _ (.num t5) ⟨by decide,by decide⟩ (by simpa[Say.depth] using d1) (R3.up 1e0) K
  rename_i hc
  right;left;wp_walk;split
  ·refine fun p hp=>⟨_,R1.new hp,by omega,fun g2 H2 a2 b2 R2 K2=>?_⟩
   exists made1 K2 R1 hp
   refine iJ a2 b2 fun v hv=>?_;wp_walk;refine fun p2 h2=>?_;have K:=((K1.trans (Kp.new hp)).trans K2).trans (Kp.new (o:=.tup [.str "number",v]) h2);simp only[List.mem_cons,List.not_mem_nil,or_false] at hv;rcases hv with rfl|rfl|rfl|rfl<;>exact q _ (.num _) _ (.num aA) ⟨by decide,by decide⟩ (by simpa[Say.depth] using d1) ((R2.new h2).up 1e0) K
  right;left;wp_walk;split
  ·refine⟨r,dp - 1,_,rfl,by omega,by omega,R1,by omega,fun v s H2 hv ok hdp R2 K2=>?_⟩;wp_walk;exact fun p hp=>q _ (.ans s) _ (.ans aA (hv.kp (aE.new hp))) ok (by simp only[Say.depth];omega) ((R2.new hp).up 1e0) ((K1.trans K2).trans (Kp.new hp))
  right;left;wp_walk;split
  ·refine⟨r,dp - 1,_,rfl,by omega,by omega,R1,by omega,fun v s H2 hv ok hdp R2 K2=>?_⟩;wp_walk;exact fun p hp=>q _ (.neg s) _ (.neg aA (hv.kp (aE.new hp))) ok (by simp only[Say.depth];omega) ((R2.new hp).up 1e0) ((K1.trans K2).trans (Kp.new hp))
  right;left;wp_walk;refine⟨r,dp - 1,_,rfl,by omega,by omega,R1,by omega,fun u s1 H2 hv1 ok1 hd1 R2 K2=>?_⟩;right;wp_walk;refine fun p hp=>⟨_,R2.new hp,by omega,fun g3 H3 a3 b3 R3 K3=>?_⟩
  exists made1 K3 R2 hp
  refine iJ a3 b3 fun v hv=>?_;wp_walk;refine⟨r,dp - 1,_,rfl,by omega,by omega,R3,by omega,fun u2 s2 H4 hv2 ok2 hd2 R4 K4 p2 h2=>?_⟩;have K:=(((K1.trans K2).trans (Kp.new hp)).trans K3).trans (K4.trans (Kp.new (o:=.tup [v,u,u2]) h2));have T1:aE H2 (Wa H4 p2 (.tup [v,u,u2])):=(((aE.new hp).trans ((R2.new hp).tk K3)).trans (R3.tk K4)).trans (aE.new h2);have fin:∀ gg:Sg,v=.str gg.s->Q (.ref p2) (Wa H4 p2 (.tup [v,u,u2])):=fun gg e=>by
   subst e;exact q _ (.two gg s1 s2) _ (.two aA (hv1.kp T1) (hv2.kp (aE.new h2))) ⟨ok1,ok2⟩ (by simp only[Say.depth];omega) ((R4.new h2).up 1e0) K
  simp only[List.mem_cons,List.not_mem_nil,or_false] at hv;rcases hv with e|e|e|e|e
  ·exact fin .add e
  ·exact fin .sub e
  ·exact fin .mul e
  ·exact fin .lt e
  ·exact fin .eq e
theorem cQ(T:Tx P w base K mg t):∀ d,eP P w K mg base WW (d+3) t.oG t.oN ["deck","deep"] (BM d):=by
 intro d
 induction d with
 | zero=>exact⟨fun _ _ _ _ x=>by (obtain⟨_,_,_,_,h,h',_⟩:=x;exact absurd h 1e0),fun _ _ _ _ _ _ _ _ _ _ _ _ _ x=>by (obtain⟨_,_,_,_,h,h',_⟩:=x;exact absurd h 1e0)⟩
 | succ d ih=>exact BP T 1e0 ih
theorem CY:Ok T T.qU 9 Dn:=by
 nomatch T.qU
 ·obtain⟨r,n,rfl,_⟩:=h;rfl
 ·obtain⟨r,n,rfl,hR,hn,q⟩:=h
  nomatch (aH (pst 1 1e12) (aH (pif (ptc jJ pv1 aB) (aG (aJ (a9 (pa3 aC (pcl (fX T) T.gN (pa1 pv0)) 1e64))))) (aH (pif (ptc jJ pv1 aB) (aG (aJ (a9 (eJ aC (pa3 (pcl (fX T) T.gN (pa1 pv0)) (pix aK (aR (pa2 aC aC)) 1e12) 1e64)))))) (aH (pif (ptc aU pv1 aB) (aG (aJ (a9 (pa3 aC (pcl (fX T) T.gN (pa1 pv0)) 1e64))))) (pss3 (pif (ptc aU pv1 aB) (aG (aJ (a9 (eJ aC (pa3 (pcl (fX T) T.gN (pa1 pv0)) (pix aK (aR (pa2 aC aC)) 1e12) 1e64)))))) (pif (ptc aU pv1 aB) (aG (aJ (a9 (eJ aC (pa3 1e64 (pix aK (aR (pa2 aC aC)) 1e12) 1e64)))))) (aJ (a9 (pa2 aC 1e64)))))))),0
  left;wp_walk;have b4:bd 4=93:=rfl;refine⟨_,hR,by omega,fun g H1 a1 b1 R1 K1=>?_⟩;right;left;wp_walk;split
  ·refine⟨_,R1,by omega,fun x H2 R2 K2=>?_⟩;wp_walk;refine⟨r,4,_,rfl,by decide,by decide,R2,by omega,fun v s H3 hv ok hd R3 K3 p hp=>?_⟩;exact q _ (.set x s) _ (.set aA (hv.kp (aE.new hp))) ⟨⟨ok,by omega⟩,rfl⟩ (((K1.trans K2).trans K3).trans (Kp.new hp))
  right;left;wp_walk;split
  ·refine⟨_,R1,by omega,fun x H2 R2 K2=>?_⟩;wp_walk;refine fun p1 h1=>⟨_,R2.new h1,by omega,fun g3 H3 a3 b3 R3 K3=>?_⟩
   exists made1 K3 R2 h1
   refine iJ a3 b3 fun y hy=>?_;wp_walk;obtain⟨z,rfl⟩:∃ z:Str,y=.str z:=by simp only[List.mem_cons,List.not_mem_nil,or_false] at hy;rcases hy with rfl|rfl<;>exact⟨_,rfl⟩
   refine⟨r,3,_,rfl,by decide,by decide,R3,by omega,fun v s H4 hv ok hd R4 K4 p hp=>?_⟩;exact q _ (.order x z s) _ (.order aA (hv.kp (aE.new hp))) ⟨⟨ok,by omega⟩,rfl⟩ ((((K1.trans K2).trans (Kp.new h1)).trans (K3.trans K4)).trans (Kp.new hp))
  right;left;wp_walk;split
  ·refine⟨_,R1,by omega,fun x H2 R2 K2=>?_⟩;wp_walk;refine⟨r,3,_,rfl,by decide,by decide,R2,by omega,fun v s H3 hv ok hd R3 K3 p hp=>?_⟩;exact q _ (.Wp x s) _ (.Wp aA (hv.kp (aE.new hp))) ⟨⟨ok,by omega⟩,rfl⟩ (((K1.trans K2).trans K3).trans (Kp.new hp))
  right;left;wp_walk;split
  ·refine⟨_,R1,by omega,fun x H2 R2 K2=>?_⟩;wp_walk;refine fun p1 h1=>⟨_,R2.new h1,by omega,fun g3 H3 a3 b3 R3 K3=>?_⟩
   exists made1 K3 R2 h1
   refine iJ a3 b3 fun y hy=>?_;wp_walk;obtain⟨z,rfl⟩:∃ z:Str,y=.str z:=by simp only[List.mem_cons,List.not_mem_nil,or_false] at hy;rcases hy with rfl|rfl<;>exact⟨_,rfl⟩
   refine⟨r,3,_,rfl,by decide,by decide,R3,by omega,fun v s H4 hv ok hd R4 K4 p hp=>?_⟩;exact q _ (.child x z s) _ (.child aA (hv.kp (aE.new hp))) ⟨⟨ok,by omega⟩,rfl⟩ ((((K1.trans K2).trans (Kp.new h1)).trans (K3.trans K4)).trans (Kp.new hp))
  right;left;wp_walk;split
  ·refine⟨r,2,_,rfl,by decide,by decide,R1,by omega,fun v s H2 hv ok hd R2 K2=>?_⟩;wp_walk;refine fun p1 h1=>⟨_,R2.new h1,by omega,fun g3 H3 a3 b3 R3 K3=>?_⟩
   exists made1 K3 R2 h1
   refine iJ a3 b3 fun y hy=>?_;wp_walk;obtain⟨z,rfl⟩:∃ z:Str,y=.str z:=by simp only[List.mem_cons,List.not_mem_nil,or_false] at hy;rcases hy with rfl|rfl<;>exact⟨_,rfl⟩
   refine⟨r,3,_,rfl,by decide,by decide,R3,by omega,fun v2 s2 H4 hv2 ok2 hd2 R4 K4 p hp=>?_⟩;have T1:aE H2 (Wa H4 p (.tup [.str "send",v,.str z,v2])):=(((aE.new h1).trans ((R2.new h1).tk K3)).trans (R3.tk K4)).trans (aE.new hp);exact q _ (.send s z s2) _ (.send aA (hv.kp T1) (hv2.kp (aE.new hp))) ⟨⟨⟨ok,by omega⟩,ok2,by omega⟩,rfl⟩ ((((K1.trans K2).trans (Kp.new h1)).trans (K3.trans K4)).trans (Kp.new hp))
  right;wp_walk;refine⟨r,2,_,rfl,by decide,by decide,R1,by omega,fun v s H2 hv ok hd R2 K2 p hp=>?_⟩;exact q _ (.drop s) _ (.drop aA (hv.kp (aE.new hp))) ⟨⟨ok,by omega⟩,rfl⟩ ((K1.trans K2).trans (Kp.new hp))
theorem BA:Ok T T.oS 12 LW:=by
 nomatch T.oS
 ·obtain⟨r,n,rfl,_⟩:=h;rfl
 ·obtain⟨r,n,rfl,hR,hn,q⟩:=h
  nomatch (aH (pst 1 1e12) (aH (pif (ptc jJ pv1 aB) (pss2 (xP (i:=2) (fr:=[0]) (N:=["k","deck"]) rfl (fun _ _ h=>h) (eQ.free rfl rfl rfl rfl rfl (fun _ _ h=>h) rfl 1e6 rfl (fun j hj=>by rw[show j=0 by simpa using hj];exact⟨_,rfl,rfl,.inl rfl⟩)) (nH rfl T.rY (pa1 (bE cG aB 1e12))) (fun C s H ex pn=>⟨BH,(uA (cQ T 4) (hr.mono 1e0) rfl T.bR.m T.bR.fn.kp T.bR.bd .nil pass0 (eJ (pv 1) (eJ aB bQ))) ⟩) sc rfl (Or.inl rfl)) (aJ (a9 (pa3 aC (pcl (fX T) T.gN (pa1 pv0)) (cA gX rfl T.iK fJ (pa1 pv2))))))) (pss3 (pif (ptc aU pv1 aB) (aG (aJ (a9 (pa3 aC (pcl (fX T) T.gN (pa1 pv0)) (pix aK (aR (pa2 aC aC)) 1e12)))))) (pif (PW.pt (eY (ptc aU pv1 aB) (eE (ptc aU 1e12 aB)))) (aG (aJ (a9 (pa2 aC 1e64))))) (aJ (pcl (CY T) T.qU (pa1 pv0)))))),0
  have bb:bd 4=93:=rfl;left;wp_walk;refine⟨_,hR,by omega,fun g G1 a1 b1 D1 K1=>?_⟩;wp_walk;right;left;refine cN fun RI Wi=>?_;wp_walk;split
  ·refine Wi _ _ ?_;clear Wi RI;left;wp_walk;refine⟨_,D1,by omega,fun gm G4 a4 b4 D4 K4=>⟨⟨by omega,by omega⟩,?_⟩⟩;obtain⟨Pv,Wr⟩:∃ Pv:Nat->List V->Hp->Prop,∀ i xs G,Pv i xs G = ∃ ss:List Say,fW G xs ss/\ss.length=i/\i<=4/\(∀ s∈ss,s.sok)/\bZ G r (n+2+93 * i)/\Kp [r] H G:=⟨_,fun _ _ _=>rfl⟩;refine wM (lo:=0) Pv ?_ ?_ ?_ ?_
   ·rw[Wr];exact⟨[],.nil,rfl,by omega,by simp,D4,K1.trans K4⟩
   ·intro i xs G h;rw[Wr] at h;obtain⟨ss,hS,lS,l3,_⟩:=h;have lv:=hS.Q7;omega
   ·intro i xs G hi h;rw[Wr] at h;obtain⟨ss,hS,lS,l3,hL,DG,KG⟩:=h
    exists aT,Option.join_some
    refine⟨r,2,_,rfl,by decide,by decide,DG,by omega,fun v s G5 hv ok hd D5 K5=>?_⟩;show Pv (i+1) _ _;rw[Wr];refine⟨ss++[s],(hS.kp (DG.tk K5)).GG hv,by simp[lS],by omega,fun y hy=>?_,D5.up 1e0,KG.trans K5⟩;rcases List.mem_append.mp hy with hy|hy
    ·exact hL y hy
    ·rw[show y=s by simpa using hy];exact⟨ok,by omega⟩
   intro xs G h l hl;rw[Wr] at h;obtain⟨ss,hS,lS,l3,hL,DG,KG⟩:=h;have nlr:=DG.none hl;have NL:=q0D (o:=.lst xs) hl;have el:Wa G l 1e20 l=some 1e20:=aA;replace hS:=hS.kp (aE.nil NL);replace DG:=DG.kp NL;replace KG:=KG.trans (NL.mono (T:=[r]) 1e1);generalize Wa G l 1e20=G8 at *;clear NL hl Wr Pv;right;wp_walk;refine⟨_,DG,by omega,fun x G9 D9 K9=>?_⟩;have el9:=K9.Wl el nlr
   exists el9
   refine fun p8 h8 p9 h9=>?_;have N:=(q0D (o:=.tup xs) h8).trans (Kp.new (o:=.tup [.str "wait",.str x,.ref p8]) h9);exact q _ (.wait x ss) _ (.wait aA ((q0D h9).at aA) (hS.kp ((DG.tk K9).trans (aE.nil N)))) ⟨rfl,by omega,hL⟩ rfl ((KG.trans K9).trans (N.mono 1e1))
  clear Wi RI;right;left;wp_walk;split
  ·refine⟨_,D1,by omega,fun x G2 D2 K2=>?_⟩;wp_walk;refine fun p1 h1=>⟨_,D2.new h1,by omega,fun g3 G3 a3 b3 D3 K3=>?_⟩
   exists made1 K3 D2 h1
   refine iJ a3 b3 fun y hy=>?_;obtain⟨z,rfl⟩:∃ z:Str,y=.str z:=by simp only[List.mem_cons,List.not_mem_nil,or_false] at hy;rcases hy with rfl|rfl<;>exact⟨_,rfl⟩
   wp_walk;intro p4 h4;exact q _ (.Wg x z) _ (.Wg aA) trivial rfl ((((K1.trans K2).trans (Kp.new h1)).trans K3).trans (Kp.new h4))
  right;refine bX fun R4 ZE=>?_;refine cN fun RI Wi=>?_
  suffices fin:(∀ n' G,bZ G r n'->n'<=n+2->Kp [r] H G->RI [some (.ref r),some (.int g),none] G)/\(∀ n' G,bZ G r n'->n'<=n+2->Kp [r] H G->R4 [some (.ref r),some (.int g),none] G) by
   wp_walk;split
   ·refine⟨_,D1,by omega,fun g2 G2 a2 b2 D2 K2=>?_⟩;split
    ·exact fin.1 _ _ D2 1e0 (K1.trans K2)
    ·exact fin.2 _ _ D2 1e0 (K1.trans K2)
   ·exact fin.2 _ _ D1 1e0 K1
  refine⟨fun n' G DG ln KG=>Wi _ _ ?_,fun n' G DG ln KG=>?_⟩
  ·clear Wi RI;wp_walk;refine⟨r,3,_,rfl,by decide,by decide,DG,by omega,fun v s G5 hv ok hd D5 K5=>?_⟩;wp_walk;intro p4 h4;exact q _ (.fin s) _ (.fin aA (hv.kp (aE.new h4))) ⟨ok,by omega⟩ rfl ((KG.trans K5).trans (Kp.new h4))
  ·clear Wi RI;refine ZE _ _ ?_;clear ZE;clear R4;wp_walk;refine⟨r,_,rfl,DG,by omega,fun v m G5 hm ⟨gm,WH⟩ K5=>?_⟩;wp_walk;exact q _ m _ hm (Nl WH gm) (Ue WH) (KG.trans K5)
theorem zK:Ok T T.mC 20 LU:=by
 nomatch T.mC
 ·obtain⟨cl,ms,rfl,_⟩:=h;rfl
 ·obtain⟨cl,ms,rfl,ec,lm,q⟩:=h
  nomatch (aH (pst 1 (aR (pa1 (aR (pa3 cD (aR bQ) cD))))) (pss3 (BF PassesOwn.never rfl (nG pv0) (pgn 2) (pss3 (pst 3 (pcl (xD T) T.pL (pa2 pv2 aB))) (pst 4 (pcl (bB T) T.bK (pa2 pv3 aB))) (fL (PW.pt (eY (ptc jJ pv4 aB) (eE (ptc jJ (aY b9 rfl T.jU eC (pa1 pv1)) aB)))) (aG (aM (dC pv1 (aR (pa3 (a9 (pa2 (pix aK (aR (eJ aC (pa3 aC aC aC))) pv4) (pcl (cQ T 4) T.bR (pa2 pv3 aB)))) (aR bQ) cD))))) (aG (fL (PW.pt (eY (ptc aU pv4 aB) (eE (ptc Gp (aY b9 rfl T.jU eC (pa1 pv1)) aB)))) (aG (aM (pcl (pU T) T.kW (pa1 pv1)))) (aG (fL (PW.pt (eY (ptc aU pv4 aB) (eY (ptc Gp (aY b9 rfl T.jU eC (pa1 pv1)) aB) (eY (ptc aU (pix aK (pix aK (pix aK pv1 (fK dM aB)) aB) aB) aC) (eE (ptc mK (pix aK (pix aK pv1 (fK dM aB)) aB) cD)))))) (aG (lF (aR bQ) (rP (pix aK pv1 (fK dM aB)) aB yA))) (aG (aM (dC (pix aK (pix aK pv1 (fK dM aB)) (bE cG aB (cA gB rfl T.zQ lW (pa1 (pcr rM (pix aK (pix aK pv1 (fK dM aB)) aB) cD))))) (pcl (BA T) T.oS (pa1 pv3)))))))))))) (qA PassesOwn.never (ptc Gp (aY b9 rfl T.jU eC (pa1 pv1)) aB) (aG (aM (pcl (pU T) T.kW (pa1 pv1))))) (aJ (cA gX rfl T.iK fJ (pa1 (pix aK 1e4 aB)))))),0
  left;wp_walk;refine fun f1 h1 fa h2 fl h3=>?_;have n1:fa≠f1:=fun z=>by rw[z,aA] at h2;cases h2
  have n2:fl≠fa:=fun z=>by rw[z,aA] at h3;cases h3
  have n3:fl≠f1:=fun z=>by rw[z,aD n1.symm,aA] at h3;cases h3
  have e1:Wa (Wa (Wa H f1 1e10) fa (.lst [.Wb,.ref f1,.Wb])) fl (.lst [.ref fa]) f1=some 1e10:=by rw[aD n3.symm,aD n1.symm,aA]
  have e2:Wa (Wa (Wa H f1 1e10) fa (.lst [.Wb,.ref f1,.Wb])) fl (.lst [.ref fa]) fa=some (.lst [.Wb,.ref f1,.Wb]):=by rw[aD n2.symm,aA]
  have e3:Wa (Wa (Wa H f1 1e10) fa (.lst [.Wb,.ref f1,.Wb])) fl (.lst [.ref fa]) fl=some (.lst [.ref fa]):=aA;have K1:Kp [] H (Wa (Wa (Wa H f1 1e10) fa (.lst [.Wb,.ref f1,.Wb])) fl (.lst [.ref fa])):=((Kp.new h1).trans (Kp.new h2)).trans (Kp.new h3);have z2:H fa=none:=by rw[aD n1] at h2;exact h2
  have z3:H fl=none:=by rw[aD n2,aD n3] at h3;exact h3
  have F1:iA (Wa (Wa (Wa H f1 1e10) fa (.lst [.Wb,.ref f1,.Wb])) fl (.lst [.ref fa])) fl ([]++[(⟨fa,f1,none⟩,⟨none,[],none⟩)]):=⟨e3,fun x hx=>by
   rw[show x=(⟨fa,f1,none⟩,⟨none,[],none⟩) by simpa using hx];exact⟨.Wb,[],e2,rfl,e1,.nil,trivial⟩,by simp[dE,FC.cells,n1,n2,n3]⟩
  have fr1:∀ a∈fl::dE ([]++[((⟨fa,f1,none⟩:FC),(⟨none,[],none⟩:Fr))]),H a=none:=fun a ha=>by
   simp only[List.nil_append,dE,List.flatMap_cons,List.flatMap_nil,FC.cells,Option.toList_none,List.append_nil,List.mem_cons,List.not_mem_nil,or_false] at ha;rcases ha with rfl|rfl|rfl
   ·exact z3
   ·exact z2
   ·exact h1
  generalize Wa (Wa (Wa H f1 1e10) fa (.lst [.Wb,.ref f1,.Wb])) fl (.lst [.ref fa])=G1 at *;clear e1 e2 e3 h2 h3;right;left;wp_walk;have ec1:=K1.at ec;refine⟨⟨_,e9.of ec1⟩,?_⟩;obtain⟨Pv,Wr⟩:∃ Pv:Nat->St->Hp->Prop,∀ i σ G,Pv i σ G=E5 fun(v2 v3 v4:Option V) (I:List (FC×Fr)) (x:FC×Fr)=>A7 (σ=[some (.ref cl),some (.ref fl),v2,v3,v4]) (iA G fl (I++[x])) (GL (I++[x])) (AH (I++[x])<=2 * i+2) (I.length<=5) ((∀ a∈fl::dE (I++[x]),H a=none)) (Kp [] H G):=⟨_,fun _ _ _=>rfl⟩;refine Ct (xs:=ms.map V.int) Pv ?_ ?_ ?_ ?_
  ·rw[Wr];exact⟨_,_,_,[],_,rfl,F1,(show GL [] from fun j x e=>by simp at e).snoc ⟨trivial,trivial,by simp[oO],by simp[oO],fun z=>absurd rfl z⟩,by simp[AH,bY],by simp,fr1,K1⟩
  ·intro i σ G _ h;rw[Wr] at h;obtain⟨_,_,_,_,_,_,_,_,_,_,_,k⟩:=h;exact e9.of (k.at ec)
  ·intro i y σ G hi h;rw[Wr] at h;obtain⟨v2,v3,v4,I,x,rfl,F,gl,sz,ll,fr,KG⟩:=h;obtain⟨z,rfl⟩:=Np hi;have hil:i < ms.length:=by have:=(List.getElem?_eq_some_iff.mp hi).1;simpa using this
   have back:∀(v2 v3 v4:Option V) (I:List (FC×Fr)) (x:FC×Fr) (G':Hp),iA G' fl (I++[x])->GL (I++[x])->AH (I++[x])<=2 * (i+1)+2->I.length<=5->(∀ a∈fl::dE (I++[x]),H a=none)->Kp [] H G'->Pv (i+1) [some (.ref cl),some (.ref fl),v2,v3,v4] G':=fun v2 v3 v4 I x G' x1 x2 x3 x4 x5 x6=>by
    rw[Wr];exact⟨_,_,_,I,x,rfl,x1,x2,x3,x4,x5,x6⟩
   clear Wr;left;wp_walk;refine⟨z,3,rfl,fun dk G3 ZG K3 RD=>?_⟩;wp_walk;right;left;wp_walk;refine⟨_,RD,by omega,fun kd G4 a4 b4 D4 K4=>?_⟩;have fdk:=F.free ZG;have aaA:H dk=none:=KG.cB ZG;have KK:Kp [] G G4:=fun b o e _=>K4.Wl (K3.at e) (aF e ZG);replace F:=F.kp KK;replace KG:=KG.trans KK;wp_walk;right;have XC:=F.e;have le:((I++[x]).map fun x=>V.ref x.1.fa).length=I.length+1:=by simp
   have l1:=Gh I x;have FX:=F.fr x 1e1;have FX0:=FX;obtain⟨Yj,usx,x1,x2,x3,x4,x5⟩:=FX;have lsz:∀ z∈I++[x],z.2.b1.length<=1000/\(z.2.b2.getD []).length<=1000:=fun z hz=>by
    have:=E4 hz;have:=kZ z.2.b1;have:=kZ (z.2.b2.getD []);omega
   have gx:=gl.top;refine cN fun RI Wi=>?_;refine qP fun RE Xp=>?_
   suffices fin:(kd < 4->I.length < 5->RI [some (.ref cl),some (.ref fl),some (.int z),some (.ref dk),some (.int kd)] G4)/\RE [some (.ref cl),some (.ref fl),some (.int z),some (.ref dk),some (.int kd)] G4 by
    exists XC,le
    split
    ·next h1 =>
     split
     ·next h2=>exact fin.1 h1 1e0
     ·exact fin.2
    ·exact fin.2
   refine⟨fun k4 l5=>Wi _ _ ?_,Xp _ _ ?_⟩
   ·clear Wi RI Xp RE
    exists XC
    refine fun pl WH=>?_;refine iJ a4 (by simp;omega) fun v hv=>?_;obtain⟨ib,rfl⟩:∃ ib:Bool,v=.str (if ib=true then "if" else "while"):=by
     simp only[List.mem_cons,List.not_mem_nil,or_false] at hv;rcases hv with rfl|rfl|rfl|rfl
     ·exact⟨true,rfl⟩
     ·exact⟨false,rfl⟩
     ·exact⟨true,rfl⟩
     ·exact⟨true,rfl⟩
    have NP:=q0D (o:=.lst [.str "if",.str "while",.str "if",.str "if"]) WH;have DP:=D4.kp NP;have FP:=F.kp NP;have KP:=KG.trans NP;have acU:dk∉fl::dE (I++[x]):=fdk;generalize Wa G4 pl (.lst [.str "if",.str "while",.str "if",.str "if"])=G5 at *;have bb:bd 4=93:=rfl;wp_walk;refine⟨dk,3,_,rfl,by decide,by decide,DP,by omega,fun sv s G6 hs ok hd D6 K6=>?_⟩;have KX:∀ b o,G5 b=some o->b≠dk->G6 b=some o:=fun b o e n=>K6.Wl e n;have F6:=FP.keep (fun a ha o e=>KX a o e (fun z=>fdk (z▸ha))) (DP.tk K6);have KH6:Kp [] H G6:=fun b o e _=>KX b o (KP.at e) (aF e aaA);wp_walk;refine fun ht h1 YI h2 fa' h3=>?_;have N1:=q0D (o:=.tup [.str (if ib=true then "if" else "while"),sv]) h1;have N2:=q0D (o:=.lst []) h2;have N3:=q0D (o:=.lst [.ref ht,.ref YI,.Wb]) h3;have m1:=((F6.kp N1).kp N2).free h3;have m2:=(F6.kp N1).free h2;have z1:H YI=none:=(KH6.trans N1).cB h2;have z2:H fa'=none:=((KH6.trans N1).trans N2).cB h3;have m3:fa'≠YI:=fun z=>by rw[z,aA] at h3;cases h3
    have NN:=(N1.trans N2).trans N3;have eh:=N3.at (N2.at (show Wa G6 ht (.tup [.str (if ib=true then "if" else "while"),sv]) ht=some (.tup [.str (if ib=true then "if" else "while"),sv]) from aA));have e2:=N3.at (show Wa (Wa G6 ht (.tup [.str (if ib=true then "if" else "while"),sv])) YI 1e10 YI=some 1e10 from aA);have e1:Wa (Wa (Wa G6 ht (.tup [.str (if ib=true then "if" else "while"),sv])) YI 1e10) fa' (.lst [.ref ht,.ref YI,.Wb]) fa'=some (.lst [.ref ht,.ref YI,.Wb]):=aA;generalize Wa (Wa (Wa G6 ht (.tup [.str (if ib=true then "if" else "while"),sv])) YI 1e10) fa' (.lst [.ref ht,.ref YI,.Wb])=G7 at *;have F7:=(F6.kp NN).push e1 e2 (h:=some (ib,s)) ⟨ht,sv,rfl,eh,hs.kp (aE.nil NN)⟩ m1 m2 m3;have abH:=(F6.kp NN).e
    exists abH
    refine⟨by rw[le];omega,?_⟩;rw[show((I++[x]).map fun x=>V.ref x.1.fa)++[V.ref fa']=((I++[x])++[((⟨fa',YI,none⟩:FC),(⟨some (ib,s),[],none⟩:Fr))]).map fun x=>V.ref x.1.fa by simp];refine back _ _ _ (I++[x]) _ _ F7 (gl.snoc ⟨trivial,trivial,by simp[oO];omega,by simp[oO];omega,fun _=>⟨ib,s,rfl,ok,by omega⟩⟩) ?_ (by simp;omega) (fun b hb=>?_) (fun b o e _=>by
     rw[aD (aF e (fr fl 1e1))];exact NN.at (KH6.at e))
    ·rw[jM,jN];show AH (I++[x])+(bY []+bY []+2)<=_;have:bY []=0:=by simp[bY]
     omega
    ·rw[bD,bN] at hb;rcases List.mem_cons.mp hb with hb|hb
     ·exact fr b (by simp[hb])
     ·rcases List.mem_append.mp hb with hb|hb
      ·exact fr b (by simp[hb])
      ·simp only[FC.cells,Option.toList_none,List.mem_cons,List.not_mem_nil,or_false] at hb;rcases hb with rfl|rfl
       ·exact z2
       ·exact z1
   ·clear Wi RI Xp RE;refine cN fun RI Wi=>?_;refine qP fun RE Xp=>?_
    suffices fin:(0 < I.length->RI [some (.ref cl),some (.ref fl),some (.int z),some (.ref dk),some (.int kd)] G4)/\RE [some (.ref cl),some (.ref fl),some (.int z),some (.ref dk),some (.int kd)] G4 by
     exists XC,le
     split
     ·split
      ·next h2=>exact fin.1 1e0
      ·exact fin.2
     ·exact fin.2
    refine⟨fun l0=>Wi _ _ ?_,Xp _ _ ?_⟩
    ·clear Wi RI Xp RE;obtain⟨I',y,rfl⟩:∃ I' y,I=I'++[y]:=⟨I.dropLast,I.getLast (fun z=>by rw[z] at l0;simp at l0),(List.dropLast_concat_getLast _).symm⟩;obtain⟨i0,s0,hh,hs0⟩:=gx.2.2.2.2 1e0;wp_walk;refine⟨fl,I',y,x,i0,s0,rfl,F,hh,lsz,fun G5 F5 K5=>?_⟩;obtain⟨c1,c2⟩:=Fz gl hh hs0;refine back _ _ _ I' _ G5 F5 c1 1e0 (by rw[List.length_append] at ll;simp at ll;omega) (fun a ha=>fr a ?_) ?_
     ·rw[bD,bN] at ha;rw[bD,bD,bN];rcases List.mem_cons.mp ha with ha|ha
      ·simp[ha]
      ·rcases List.mem_append.mp ha with ha|ha
       ·simp[ha]
       ·simp[show a∈y.1.cells from ha]
     ·intro b o e _;refine K5 b o (KG.at e) (fun z=>?_);have:b∈fl::dE (I'++[y]++[x]):=by
       rw[bD,bD,bN];rcases List.mem_cons.mp z with z|z
       ·simp[z]
       ·simp[z]
      rw[fr b this] at e;cases e
    ·clear Wi RI Xp RE;refine cN fun RI Wi=>?_;refine qP fun RE Xp=>?_
     suffices fin:(0 < I.length->x.1.f2=none->RI [some (.ref cl),some (.ref fl),some (.int z),some (.ref dk),some (.int kd)] G4)/\RE [some (.ref cl),some (.ref fl),some (.int z),some (.ref dk),some (.int kd)] G4 by
      by_cases l0:0 < I.length
      ·obtain⟨i0,s0,hh,hs0⟩:=gx.2.2.2.2 1e0;rw[hh] at x2;obtain⟨ha,sv,rfl,eh,hS⟩:=x2
       exists XC,le,l1,x1,eh
       repeat' split
       all_goals first|exact fin.2|exact fin.1 l0 (RB ‹_›)
      ·skip
       exists XC,le
       split
       ·rw[if_neg 1e0];exact fin.2
       ·exact fin.2
     refine⟨fun l0 f0=>Wi _ _ ?_,Xp _ _ ?_⟩
     ·clear Wi RI Xp RE;rw[f0] at x1;replace x1:G4 x.1.fa=some (.lst [Yj,.ref x.1.f1,.Wb]):=x1
      exists XC,l1,x1
      refine fun a ha=>?_;generalize hg:Wa G4 a 1e10=G5;have NA:Kp [] G4 G5:=hg▸Kp.new ha;have ea:G5 a=some 1e10:=hg▸aA;clear hg;have na:=F.free ha;replace F:=F.kp NA;replace XC:=NA.at XC;replace x1:=NA.at x1;have fa0:H a=none:=KG.cB ha;replace KG:=KG.trans NA;have F5:=F.snd f0 x1 ea na
      exists XC,l1,x1
      rw[show zG 3 2=some 2 from rfl];show Pv (i+1) _ (Wa G5 x.1.fa (.lst [Yj,.ref x.1.f1,.ref a]));obtain⟨g1,g2,g3,g4,g5⟩:=gx;have hb:x.2.b2=none:=by
       cases h:x.2.b2 with
       | none=>rfl
       | some b=>rw[f0,h] at x5;exact x5.elim
      rw[hb] at g2 g4;refine back _ _ _ I _ _ F5 (gl.init.snoc ⟨g1,g2,g3,g4,g5⟩) ?_ ll (fun b WD=>?_) (fun b o e _=>by
       rw[aD (fun z=>by
        rw[z,fr x.1.fa (by rw[bD,bN];simp[FC.cells])] at e;cases e)]
       exact KG.at e)
      ·have:=sz;rw[jM,jN,hb] at this;rw[jM,jN];show AH I+(bY x.2.b1+bY (([]:List Stm))+2)<=_;have h0:bY ((none:Option (List Stm)).getD [])=bY ([]:List Stm):=rfl;omega
      ·rw[bD,bN] at WD;rcases List.mem_cons.mp WD with WD|WD
       ·exact fr b (by simp[WD])
       ·rcases List.mem_append.mp WD with WD|WD
        ·exact fr b (by rw[bD];simp[WD])
        ·simp only[FC.cells,Option.toList_some,List.mem_cons,List.not_mem_nil,or_false] at WD;rcases WD with rfl|rfl|rfl
         ·exact fr _ (by rw[bD,bN];simp[FC.cells])
         ·exact fr _ (by rw[bD,bN];simp[FC.cells])
         ·exact fa0
     ·clear Wi RI Xp RE;cases X6:x.1.f2 with
      | none =>
       have WJ:x.1.cur=x.1.f1:=by simp[FC.cur,X6]
       rw[X6] at x1;replace x1:G4 x.1.fa=some (.lst [Yj,.ref x.1.f1,.Wb]):=x1
       exists XC,l1,x1,x3
       refine⟨dk,_,rfl,D4,by omega,fun v m G5 hm gm hB K5=>?_⟩;have F5:=F.keep (fun a ha o e=>K5.Wl e (fun z=>fdk (z▸ha))) (D4.tk K5);have KH5:Kp [] H G5:=fun b o e _=>K5.Wl (KG.at e) (aF e aaA);obtain⟨us,b,c1,c2,c3,c4,c5⟩:=F5.app hm;have lx:=lsz x 1e1;have lb:us.length<=1000:=by
        have lu:=c2.len;rcases c3 with rfl|c3
        ·omega
        ·rw[c3] at lx;have:b.length<=1000:=lx.2;omega
       have YJ:H x.1.cur=none:=fr _ (by rw[bD,bN];simp[c4]);have dm:m.dp=0:=by cases m<;>first|rfl|cases hB
       have sm:m.sz=1:=IQ hB;have bk:Pv (i+1) [some (.ref cl),some (.ref fl),some (.int z),some (.ref dk),some (.int kd)] (Wa G5 x.1.cur (.lst (us++[v]))):=back _ _ _ I _ _ c5 (gl.init.snoc (gx.add gm 1e0)) (by
        have ha:=DS x.2 m;have:=sz;rw[jM,jN] at this ⊢;show AH I+(bY (x.2.add m).b1+bY ((x.2.add m).b2.getD [])+2)<=_;omega) ll (fun b hb=>fr b (by
        rw[bD,bN] at hb ⊢;exact hb)) (fun b o e _=>by rw[aD (aF e YJ)];exact KH5.at e)
       rw[WJ] at c1 bk
       exists c1
       exact⟨by omega,bk⟩
      | some a =>
       have WJ:x.1.cur=a:=by simp[FC.cur,X6]
       rw[X6] at x1 x5;replace x1:G4 x.1.fa=some (.lst [Yj,.ref x.1.f1,.ref a]):=x1;obtain⟨ux,ex⟩:∃ ux,G4 a=some (.lst ux):=by
        cases h:x.2.b2 with
        | none=>rw[h] at x5;exact x5.elim
        | some b=>rw[h] at x5;obtain⟨us,e6,e7⟩:=x5;exact⟨us,e6⟩
       exists XC,l1,x1,ex
       rw[show fI [Yj,.ref x.1.f1,.ref a] (1+if (!decide (V.ref a=V.Wb))=true then 1 else 0)=some 1e11 by rw[show(!decide (V.ref a=V.Wb))=true by simp];rfl]
       exists XC,ex
       refine⟨dk,_,rfl,D4,by omega,fun v m G5 hm gm hB K5=>?_⟩;have F5:=F.keep (fun a ha o e=>K5.Wl e (fun z=>fdk (z▸ha))) (D4.tk K5);have KH5:Kp [] H G5:=fun b o e _=>K5.Wl (KG.at e) (aF e aaA);obtain⟨us,b,c1,c2,c3,c4,c5⟩:=F5.app hm;have lx:=lsz x 1e1;have lb:us.length<=1000:=by
        have lu:=c2.len;rcases c3 with rfl|c3
        ·omega
        ·rw[c3] at lx;have:b.length<=1000:=lx.2;omega
       have YJ:H x.1.cur=none:=fr _ (by rw[bD,bN];simp[c4]);have dm:m.dp=0:=by cases m<;>first|rfl|cases hB
       have sm:m.sz=1:=IQ hB;have bk:Pv (i+1) [some (.ref cl),some (.ref fl),some (.int z),some (.ref dk),some (.int kd)] (Wa G5 x.1.cur (.lst (us++[v]))):=back _ _ _ I _ _ c5 (gl.init.snoc (gx.add gm 1e0)) (by
        have ha:=DS x.2 m;have:=sz;rw[jM,jN] at this ⊢;show AH I+(bY (x.2.add m).b1+bY ((x.2.add m).b2.getD [])+2)<=_;omega) ll (fun b hb=>fr b (by
        rw[bD,bN] at hb ⊢;exact hb)) (fun b o e _=>by rw[aD (aF e YJ)];exact KH5.at e)
       rw[WJ] at c1 bk
       exists c1
       exact⟨by omega,bk⟩
  intro σ G h;rw[Wr,List.length_map] at h;obtain⟨v2,v3,v4,I,x,rfl,F,gl,sz,ll,fr,KG⟩:=h;clear Wr;right;left;refine JE fun tb htb=>?_;obtain⟨Y,hY⟩:∃ Y:Nat->St->Hp->Prop,∀ m σ G,Y m σ G=E2 fun(I:List (FC×Fr)) (x:FC×Fr)=>A7 (σ=[some (.ref cl),some (.ref fl),v2,v3,v4]) (iA G fl (I++[x])) (GL (I++[x])) (AH (I++[x])<=130) ((∀ a∈fl::dE (I++[x]),H a=none)) (Kp [] H G) (m=I.length):=⟨_,fun _ _ _=>rfl⟩;refine⟨Y,⟨_,(hY _ _ _).mpr ⟨I,x,rfl,F,gl,by omega,fr,KG,rfl⟩⟩,?_⟩;clear F gl sz fr KG I x ll;intro m σ G hG;rw[hY] at hG;obtain⟨I,x,rfl,F,gl,sz,fr,KG,rfl⟩:=hG;have XC:=F.e;have le:((I++[x]).map fun x=>V.ref x.1.fa).length=I.length+1:=by simp
  have lsz:∀ z∈I++[x],z.2.b1.length<=1000/\(z.2.b2.getD []).length<=1000:=fun z hz=>by
   have:=E4 hz;have:=kZ z.2.b1;have:=kZ (z.2.b2.getD []);omega
  have gx:=gl.top
  exists XC,le
  by_cases l0:0 < I.length
  ·rw[if_pos 1e0];refine⟨fun σ' G'=>∃ m',m' < I.length/\Y m' σ' G',fun _ _ z=>z,?_⟩;refine htb _ _ _ ?_;clear htb tb;obtain⟨I',y,rfl⟩:∃ I' y,I=I'++[y]:=⟨I.dropLast,I.getLast (fun z=>by rw[z] at l0;simp at l0),(List.dropLast_concat_getLast _).symm⟩;obtain⟨i0,s0,hh,hs0⟩:=gx.2.2.2.2 1e0;wp_walk;refine⟨fl,I',y,x,i0,s0,rfl,F,hh,lsz,fun G5 F5 K5=>?_⟩;obtain⟨c1,c2⟩:=Fz gl hh hs0;refine⟨I'.length,by simp,(hY _ _ _).mpr ⟨I',_,rfl,F5,c1,by omega,fun a ha=>fr a ?_,?_,rfl⟩⟩
   ·rw[bD,bN] at ha;rw[bD,bD,bN];rcases List.mem_cons.mp ha with ha|ha
    ·simp[ha]
    ·rcases List.mem_append.mp ha with ha|ha
     ·simp[ha]
     ·simp[show a∈y.1.cells from ha]
   ·intro b o e _;refine K5 b o (KG.at e) (fun z=>?_);have:b∈fl::dE (I'++[y]++[x]):=by
     rw[bD,bD,bN];rcases List.mem_cons.mp z with z|z
     ·simp[z]
     ·simp[z]
    rw[fr b this] at e;cases e
  ·rw[if_neg 1e0];have hI:I=[]:=by cases I with|nil=>rfl|cons _ _=>simp at l0
   subst hI;clear hY htb;right;obtain⟨Yj,usx,x1,x2,x3,x4,x5⟩:=F.fr x 1e1;replace XC:G fl=some (.lst [.ref x.1.fa]):=XC
   exists XC,x1,x3
   refine fun p hp=>?_;have N:=q0D (o:=.tup usx) hp;have:=E4 (show x∈[]++[x] by simp);exact q p usx x.2.b1 _ aA (x4.kp (aE.nil N)) gx.1 (by have:=gx.2.2.1;omega) 1e0 (KG.trans N)
theorem EZ(hn:3<=n)(IH:eP P w K mg base WW n t.uQ t.vD ["block","path","code"] (BN d)):Ok T T.j5 (n+1) (BN (d+1)):=by
 nomatch T.j5
 ·obtain⟨bp,pp,cl,us,b,pt,as,rfl,_⟩:=h;rfl
 ·obtain⟨bp,pp,cl,us,b,pt,as,rfl,eb,hs,hd,ep,lp,ec,lc,q⟩:=h
  nomatch (aG (BF PassesOwn.never rfl (nH rfl T.rY (pa1 (aY b9 rfl T.jU eC (pa1 pv0)))) (pgn 3) (aH (pst 4 (bE kH pv1 (a9 (pa1 pv3)))) (aH (pst 5 (pix aK (pix aK pv0 pv3) aB)) (aH (pst 6 (aY b9 rfl T.jU eC (pa1 pv2))) (pss3 (aM (dC pv2 (aR (eJ pv5 (pa3 (pix aK pv0 pv3) pv4 cD))))) (pif (ptc aU pv5 aC) (pss3 (aM (pcl IH T.j5 (pa3 (pix aK (pix aK pv0 pv3) aB) (bE kH pv4 (a9 (pa1 aB))) pv2))) (aM (dC pv2 (aR (eJ aC (pa3 cD pv4 pv6))))) (lF (aY b9 rfl T.jU eC (pa1 pv2)) (rP (pix aK pv2 pv6) aB yA)))) (pif (ptc aU pv5 aC) (aH (aM (pcl IH T.j5 (pa3 (pix aK (pix aK pv0 pv3) aB) (bE kH pv4 (a9 (pa1 aB))) pv2))) (aH (aM (dC pv2 (aR (eJ aC (pa3 cD pv4 cD))))) (aH (lF (aY b9 rfl T.jU eC (pa1 pv2)) (rP (pix aK pv2 pv6) aB yA)) (pss3 (pst 7 (bE i8 (aY b9 rfl T.jU eC (pa1 pv2)) aB)) (aM (pcl IH T.j5 (pa3 (pix aK (pix aK pv0 pv3) aB) (bE kH pv4 (a9 (pa1 aB))) pv2))) (lF (aY b9 rfl T.jU eC (pa1 pv2)) (rP (pix aK pv2 pv7) aB yA))))))))))))),0
  have lus:=hs.len;have lsz:=kZ b
  exists eb
  refine⟨⟨by omega,by omega⟩,?_⟩;obtain⟨Pv,Wr⟩:∃ Pv:Nat->St->Hp->Prop,∀ i σ G,Pv i σ G=E6 fun(v3 v4 v5 v6 v7:Option V) (new:List Addr)=>A6 (σ=[some (.ref bp),some (.ref pp),some (.ref cl),v3,v4,v5,v6,v7]) (G cl=some (.lst ((as++new).map V.ref))) (cX G new (Ac pt 0 as.length (b.take i))) ((∀ a∈new,H a=none)) (new.Nodup) (Kp [cl] H G):=⟨_,fun _ _ _=>rfl⟩;refine Ae (lo:=0) Pv ?_ ?_ ?_
  ·rw[Wr];exact⟨_,_,_,_,_,[],rfl,by simpa using ec,by simpa[Ac] using .nil,by simp,by simp,Kp.refl⟩
  ·intro i σ G hi h;rw[Wr] at h;obtain⟨v3,v4,v5,v6,v7,new,rfl,eG,hC,fN,nd,KG⟩:=h;have TG:=kp1T KG ec;have eG0:=eG;obtain⟨sv,ev⟩:∃ sv,us[i]?=some sv:=⟨us[i]'(by omega),by simp⟩;obtain⟨m,em,hm⟩:=hs.at ev;replace hm:=hm.kp TG;have Xt:=TG _ _ eb;have epG:=TG _ _ ep;have ix:fI us (i:Nat)=some sv:=c0 ev;obtain⟨a0,r0,rfl,e0⟩:=hm.kw;have lt:as.length+new.length+m.sz<=100000:=by
    have h1:=LZ b (i+1);rw[fM em] at h1;have h2:=hC.len;rw[fR] at h2;omega
   have el:((as++new).map V.ref).length=as.length+new.length:=by simp
   have back:∀(v3 v4 v5 v6 v7:Option V) (Yl:List Addr) (G':Hp),G' cl=some (.lst ((as++Yl).map V.ref))->cX G' Yl (Ac pt 0 as.length (b.take i)++Be (pt++[(i:Int)]) (as.length+new.length) m)->(∀ a∈Yl,H a=none)->Yl.Nodup->Kp [cl] H G'->Pv (i+1) [some (.ref bp),some (.ref pp),some (.ref cl),v3,v4,v5,v6,v7] G':=fun v3 v4 v5 v6 v7 Yl G' x1 x2 x3 x4 x5=>by
    rw[Wr];have h2:=hC.len;rw[fR] at h2;rw[h2] at x2;refine⟨_,_,_,_,_,Yl,rfl,x1,?_,x3,x4,x5⟩;rw[Cr em,Nat.zero_add];exact x2
   clear Wr;left
   exists Int.zero_add
   refine fun p1 h1=>?_;have N1:=q0D (o:=.tup [.int (i:Nat)]) h1;refine lR (N1.at epG) aA (by simp only[List.length_map,List.length_cons,List.length_nil];omega) fun ph G1 eh K1=>?_;replace eh:G1 ph=some (.tup ((pt++[(i:Int)]).map V.int)):=by rw[eh];simp
   replace K1:=N1.trans K1;replace hm:=hm.kp (aE.nil K1);replace hC:=hC.keep (fun _ _ _ e=>K1.at e) (aE.nil K1);replace eG:=K1.at eG;replace e0:=K1.at e0;replace Xt:=K1.at Xt;wp_walk;right;left
   exists Xt,Int.zero_add,ix,e0
   right;left
   exists eG,el
   right;left
   exists eG,Xt,Int.zero_add,ix
   refine fun pe hpe=>?_;have N4:=q0D (o:=.lst [.str m.kw,.ref a0,.ref ph,.Wb]) hpe;have ee:Wa G1 pe (.lst [.str m.kw,.ref a0,.ref ph,.Wb]) pe=some (.lst [.str m.kw,.ref a0,.ref ph,.Wb]):=aA;have fpe:H pe=none:=free1 KG eG0 (K1.cB hpe);have ZU:pe≠cl:=fun z=>by rw[z,eG] at hpe;cases hpe
   have npn:pe∉new:=fun z=>by
    obtain⟨xs,e⟩:=hC.there pe z;rw[e] at hpe;cases hpe
   have KN:=K1.trans N4;replace hm:=hm.kp (aE.nil N4);replace hC:=hC.keep (fun _ _ _ e=>N4.at e) (aE.nil N4);replace eG:=N4.at eG;replace e0:=N4.at e0;replace Xt:=N4.at Xt;replace eh:=N4.at eh;generalize Wa G1 pe (.lst [.str m.kw,.ref a0,.ref ph,.Wb])=G2 at *
   exists eG
   refine⟨by rw[el];omega,?_⟩;have ea:(as++new).map V.ref++[V.ref pe]=(as++1e39).map V.ref:=by simp
   rw[ea];have KS:Kp [cl] G2 (Wa G2 cl (.lst ((as++1e39).map V.ref))):=Kp.jL;have TS:=kp1T KS eG;have ncl:cl∉new:=fun z=>by rw[fN cl z] at ec;cases ec
   replace eG:Wa G2 cl (.lst ((as++1e39).map V.ref)) cl=some (.lst ((as++1e39).map V.ref)):=aA;replace ee:=KS.Wl ee ZU;replace hm:=hm.kp TS;replace hC:=hC.keep (fun a ha _ e=>KS.Wl e (fun z=>ncl (z▸ha))) TS;replace e0:=TS _ _ e0;replace Xt:=TS _ _ Xt;replace eh:=TS _ _ eh;have KH:Kp [cl] H (Wa G2 cl (.lst ((as++1e39).map V.ref))):=(KG.trans (KN.mono 1e1)).trans KS;generalize Wa G2 cl (.lst ((as++1e39).map V.ref))=G3 at *;have fN':∀ a∈new++[pe],H a=none:=fun a ha=>by
    rcases List.mem_append.mp ha with ha|ha
    ·exact fN a ha
    ·rw[show a=pe by simpa using ha];exact fpe
   have nd':(new++[pe]).Nodup:=List.nodup_append.mpr ⟨nd,by simp,fun x hx y hy z=>npn (by rw[show y=pe by simpa using hy] at z;rw[<- z];exact hx)⟩;have th3:=gF hC.ex (kN ee);clear K1 N1 N4 KN KS TS ea KG TG hpe h1;right;by_cases hB:m.isB=false
   ·obtain⟨w1,w2,_⟩:=TU hB
    exists w1,w2
    exact back _ _ _ _ _ _ _ eG (by rw[Tq hB];exact hC.app (.cons ⟨ph,eh,_,hm,ee⟩ .nil)) fN' nd' KH
   cases hm with
   | @Wu a p v s vs b' e hv YH WD =>
    have hm:b7 G3 (.ref a0) (.Wu s b'):=.Wu e hv YH WD;have lt':as.length+new.length+bY b'+2<=100000:=by simp only[Stm.sz] at lt;omega
    have dl:oO b' < d:=by have:=vH em;simp only[Stm.dp] at this;omega
    refine bX fun R5 hR5=>?_;refine cN fun RI Wi=>?_
    exists Stm.kw
    refine Wi _ _ ?_;clear Wi RI;have ee0:=ee;left
    exists Xt,Int.zero_add,ix,e
    refine fun pz hz=>?_;have NZ:=q0D (o:=.tup [.int 0]) hz;refine lR (NZ.at eh) aA (by simp only[List.length_map,List.length_append,List.length_cons,List.length_nil];omega) fun pq GZ eq KZ=>?_;replace KZ:=NZ.trans KZ;replace eq:GZ pq=some (.tup ((pt++[(i:Int)]++[0]).map V.int)):=by rw[eq];simp
    refine⟨_,pq,cl,_,_,pt++[(i:Int)]++[0],as++1e39,rfl,KZ.at YH,(WD).kp (aE.nil KZ),dl,eq,by simp only[List.length_append,List.length_cons,List.length_nil];omega,KZ.at eG,by simp only[List.length_append,List.length_cons,List.length_nil];omega,fun Zi Wx e50 WY XD aaN Z3=>?_⟩;wp_walk;right;have Zy:=(aE.nil KZ).trans (kp1T Z3 (KZ.at eG));have XQ:Kp [cl] G3 Zi:=(KZ.mono 1e1).trans Z3;have Zz:∀ a∈Wx,H a=none:=fun a ha=>free1 KH eG (KZ.cB (XD a ha));have x50:∀ a∈Wx,G3 a=none:=fun a ha=>KZ.cB (XD a ha);replace KH:=KH.trans XQ;replace eh:=Zy _ _ eh;replace ee:=XQ.Wl ee ZU;replace hC:=hC.keep (fun a ha _ e=>XQ.Wl e (fun z=>ncl (z▸ha))) Zy;replace hm:=hm.kp Zy;replace eG:=e50;clear KZ Z3 NZ hz eq;have nc5:cl∉Wx:=fun z=>by rw[Zz cl z] at ec;cases ec
    have l50:Wx.length=bY b':=by rw[WY.len,fR]
    have ee1:=ee;have nd5:(new++[pe]++Wx).Nodup:=pQ nd' aaN th3 x50;have th5:=gF (gF hC.ex (kN ee)) WY.ex;left
    exists eG
    refine fun pj hp=>?_;generalize hg:Wa Zi pj (.lst [.str "jump",.Wb,.ref ph,.int ((as.length+new.length:Nat):Int)])=G6;have N:Kp [] Zi G6:=hg▸Kp.new hp;have Xz:G6 pj=some (.lst [.str "jump",.Wb,.ref ph,.int ((as.length+new.length:Nat):Int)]):=hg▸aA;clear hg;have npj:pj≠cl:=fun z=>by rw[z,eG] at hp;cases hp
    have fpj:H pj=none:=free1 KH eG hp;have xpj:Zi pj=none:=hp;replace eh:=N.at eh;replace ee:=N.at ee;replace eG:=N.at eG;replace hC:=hC.keep (fun _ _ _ e=>N.at e) (aE.nil N);replace WY:=WY.keep (fun _ _ _ e=>N.at e) (aE.nil N);replace hm:=hm.kp (aE.nil N);replace KH:=KH.trans (N.mono 1e1)
    exists eG
    refine⟨by simp only[List.length_map,List.length_append,List.length_cons,List.length_nil];omega,?_⟩;rw[show((as++1e39++Wx)).map V.ref++[V.ref pj]=((as++1e39++Wx)++[pj]).map V.ref by simp];have KS:Kp [cl] G6 (Wa G6 cl 1e56):=Kp.jL;have TS:=kp1T KS eG;replace eG:Wa G6 cl 1e56 cl=some 1e56:=aA;replace eh:=TS _ _ eh;replace ee:=KS.Wl ee ZU;replace Xz:=KS.Wl Xz npj;replace hC:=hC.keep (fun a ha _ e=>KS.Wl e (fun z=>ncl (z▸ha))) TS;replace WY:=WY.keep (fun a ha _ e=>KS.Wl e (fun z=>nc5 (z▸ha))) TS;replace hm:=hm.kp TS;replace KH:=KH.trans KS;generalize Wa G6 cl 1e56=G7 at *;clear KS TS N hp;right;have ixe:fI ((as++1e39++Wx++[pj]).map V.ref) ((as.length+new.length:Nat):Int)=some (.ref pe):=c0 1e1;have aaP:pe∉Wx:=fun z=>by rw[x50 pe z] at ee0;cases ee0
    have npj:pj≠pe:=fun z=>by rw[z,ee1] at xpj;cases xpj
    exists eG,ixe,ee,Stm.kw
    rw[show zG 4 3=some 3 from rfl,show(List.map V.ref (as++1e39++Wx++[pj])).length=as.length+new.length+bY b'+2 from by simp[l50];omega];show R5 _ (Wa G7 pe 1e50);have TS:aE G7 (Wa G7 pe 1e50):=aE.cI ee;replace ee:Wa G7 pe 1e50 pe=some 1e50:=aA;have KE:∀ a u,a≠pe->G7 a=some u->Wa G7 pe 1e50 a=some u:=fun a u n e=>by rw[aD n];exact e
    replace eG:=KE _ _ ZU.symm eG;replace hm:=hm.kp TS;replace KH:Kp [cl] H (Wa G7 pe 1e50):=fun b o e n=>by rw[aD (aF e fpe)];exact KH b o e n
    replace eh:=TS _ _ eh;replace hC:=hC.keep (fun a ha o e=>KE _ _ (fun z=>npn (z▸ha)) e) TS;replace WY:=WY.keep (fun a ha o e=>KE _ _ (fun z=>aaP (z▸ha)) e) TS;replace Xz:=KE _ _ npj Xz;generalize Wa G7 pe 1e50=G8 at *;clear TS KE;refine hR5 _ _ ?_;clear hR5 R5
    exists Stm.kw
    refine back _ _ _ _ _ (new++[pe]++Wx++[pj]) _ (by rw[eG];simp) ?_ ?_ ?_ KH
    ·simp only[Be];have h5:=WY;rw[show(as++1e39).length=as.length+new.length+1 by simp;omega] at h5;have:=hC.app ((cX.cons (e:=⟨some (.Wu s b'),pt++[(i:Int)],some (as.length+new.length+bY b'+2)⟩) ⟨ph,eh,_,hm,ee⟩ h5).app (.cons (e:=⟨none,pt++[(i:Int)],some (as.length+new.length)⟩) ⟨ph,eh,Xz⟩ .nil));simpa using this
    ·intro a ha;simp only[List.mem_append,List.mem_cons,List.not_mem_nil,or_false] at ha;rcases ha with((ha|rfl)|ha)|rfl
     ·exact fN a ha
     ·exact fpe
     ·exact Zz a ha
     ·exact fpj
    ·exact pQ nd5 1e1 th5 (by simpa using xpj)
   | @iff a p q v s vs us' b' o' e hv YH WD eq' Yw =>
    have hm:b7 G3 (.ref a0) (.iff s b' o'):=.iff e hv YH WD eq' Yw;have lt':as.length+new.length+bY b'+bY o'+2<=100000:=by simp only[Stm.sz] at lt;omega
    have dl:oO b' < d:=by have:=vH em;simp only[Stm.dp] at this;omega
    have dl2:oO o' < d:=by have:=vH em;simp only[Stm.dp] at this;omega
    refine bX fun R5 hR5=>?_
    exists Stm.kw
    refine hR5 _ _ ?_;clear hR5 R5;refine cN fun RI Wi=>?_
    exists Stm.kw
    refine Wi _ _ ?_;clear Wi RI;have ee0:=ee;left
    exists Xt,Int.zero_add,ix,e
    refine fun pz hz=>?_;have NZ:=q0D (o:=.tup [.int 0]) hz;refine lR (NZ.at eh) aA (by simp only[List.length_map,List.length_append,List.length_cons,List.length_nil];omega) fun pq GZ eq KZ=>?_;replace KZ:=NZ.trans KZ;replace eq:GZ pq=some (.tup ((pt++[(i:Int)]++[0]).map V.int)):=by rw[eq];simp
    refine⟨_,pq,cl,_,_,pt++[(i:Int)]++[0],as++1e39,rfl,KZ.at YH,(WD).kp (aE.nil KZ),dl,eq,by simp only[List.length_append,List.length_cons,List.length_nil];omega,KZ.at eG,by simp only[List.length_append,List.length_cons,List.length_nil];omega,fun Zi Wx e50 WY XD aaN Z3=>?_⟩;wp_walk;right;have Zy:=(aE.nil KZ).trans (kp1T Z3 (KZ.at eG));have XQ:Kp [cl] G3 Zi:=(KZ.mono 1e1).trans Z3;have Zz:∀ a∈Wx,H a=none:=fun a ha=>free1 KH eG (KZ.cB (XD a ha));have x50:∀ a∈Wx,G3 a=none:=fun a ha=>KZ.cB (XD a ha);replace KH:=KH.trans XQ;replace eh:=Zy _ _ eh;replace Xt:=Zy _ _ Xt;replace ee:=XQ.Wl ee ZU;replace hC:=hC.keep (fun a ha _ e=>XQ.Wl e (fun z=>ncl (z▸ha))) Zy;replace hm:=hm.kp Zy;replace eG:=e50;clear KZ Z3 NZ hz eq;have nc5:cl∉Wx:=fun z=>by rw[Zz cl z] at ec;cases ec
    have l50:Wx.length=bY b':=by rw[WY.len,fR]
    have ee1:=ee;have nd5:(new++[pe]++Wx).Nodup:=pQ nd' aaN th3 x50;have th5:=gF (gF hC.ex (kN ee)) WY.ex;left
    exists eG
    refine fun pj hp=>?_;generalize hg:Wa Zi pj (.lst [.str "jump",.Wb,.ref ph,.Wb])=G6;have N:Kp [] Zi G6:=hg▸Kp.new hp;have Xz:G6 pj=some (.lst [.str "jump",.Wb,.ref ph,.Wb]):=hg▸aA;clear hg;have npj:pj≠cl:=fun z=>by rw[z,eG] at hp;cases hp
    have fpj:H pj=none:=free1 KH eG hp;have xpj:Zi pj=none:=hp;replace eh:=N.at eh;replace Xt:=N.at Xt;replace ee:=N.at ee;replace eG:=N.at eG;replace hC:=hC.keep (fun _ _ _ e=>N.at e) (aE.nil N);replace WY:=WY.keep (fun _ _ _ e=>N.at e) (aE.nil N);replace hm:=hm.kp (aE.nil N);replace KH:=KH.trans (N.mono 1e1)
    exists eG
    refine⟨by simp only[List.length_map,List.length_append,List.length_cons,List.length_nil];omega,?_⟩;rw[show((as++1e39++Wx)).map V.ref++[V.ref pj]=((as++1e39++Wx)++[pj]).map V.ref by simp];have KS:Kp [cl] G6 (Wa G6 cl 1e56):=Kp.jL;have TS:=kp1T KS eG;replace eG:Wa G6 cl 1e56 cl=some 1e56:=aA;replace eh:=TS _ _ eh;replace Xt:=TS _ _ Xt;replace ee:=KS.Wl ee ZU;replace Xz:=KS.Wl Xz npj;replace hC:=hC.keep (fun a ha _ e=>KS.Wl e (fun z=>ncl (z▸ha))) TS;replace WY:=WY.keep (fun a ha _ e=>KS.Wl e (fun z=>nc5 (z▸ha))) TS;replace hm:=hm.kp TS;replace KH:=KH.trans KS;generalize Wa G6 cl 1e56=G7 at *;clear KS TS N hp;right;have ixe:fI ((as++1e39++Wx++[pj]).map V.ref) ((as.length+new.length:Nat):Int)=some (.ref pe):=c0 1e1;have aaP:pe∉Wx:=fun z=>by rw[x50 pe z] at ee0;cases ee0
    have aa7:pj≠pe:=fun z=>by rw[z,ee1] at xpj;cases xpj
    refine bX fun R52 aaX=>?_
    exists eG,ixe,ee,Stm.kw
    rw[show zG 4 3=some 3 from rfl,show(List.map V.ref (as++1e39++Wx++[pj])).length=as.length+new.length+bY b'+2 from by simp[l50];omega];show R52 _ (Wa G7 pe 1e51);have TS:aE G7 (Wa G7 pe 1e51):=aE.cI ee;replace ee:Wa G7 pe 1e51 pe=some 1e51:=aA;have KE:∀ a u,a≠pe->G7 a=some u->Wa G7 pe 1e51 a=some u:=fun a u n e=>by rw[aD n];exact e
    replace eG:=KE _ _ ZU.symm eG;replace hm:=hm.kp TS;replace KH:Kp [cl] H (Wa G7 pe 1e51):=fun b o e n=>by rw[aD (aF e fpe)];exact KH b o e n
    replace eh:=TS _ _ eh;replace Xt:=TS _ _ Xt;replace hC:=hC.keep (fun a ha o e=>KE _ _ (fun z=>npn (z▸ha)) e) TS;replace WY:=WY.keep (fun a ha o e=>KE _ _ (fun z=>aaP (z▸ha)) e) TS;replace Xz:=KE _ _ aa7 Xz;generalize Wa G7 pe 1e51=G8 at *;clear TS KE;refine aaX _ _ ?_;clear aaX;clear R52;left
    exists eG
    rw[show((List.map V.ref (as++1e39++Wx++[pj])).length:Int) - 1=((as.length+new.length+bY b'+1:Nat):Int) by simp[l50];omega];right;replace eG:G8 cl=some (.lst ((as++(new++[pe]++Wx++[pj])).map V.ref)):=by rw[eG];simp
    have nd6:(new++[pe]++Wx++[pj]).Nodup:=pQ nd5 1e1 th5 (by simpa using xpj);have th6:=gF (gF (gF hC.ex (kN ee)) WY.ex) (kN Xz);clear e YH WD eq' Yw;obtain⟨_,_,_,_,e,eq',Yw⟩:=hm.VC;left
    exists Xt,Int.zero_add,ix,e
    refine fun pz hz=>?_;have NZ:=q0D (o:=.tup [.int 1]) hz;refine lR (NZ.at eh) aA (by simp only[List.length_map,List.length_append,List.length_cons,List.length_nil];omega) fun pq GZ eq KZ=>?_;replace KZ:=NZ.trans KZ;replace eq:GZ pq=some (.tup ((pt++[(i:Int)]++[1]).map V.int)):=by rw[eq];simp
    refine⟨_,pq,cl,_,_,pt++[(i:Int)]++[1],as++(new++[pe]++Wx++[pj]),rfl,KZ.at eq',(Yw).kp (aE.nil KZ),dl2,eq,by simp only[List.length_append,List.length_cons,List.length_nil];omega,KZ.at eG,by simp only[List.length_append,List.length_cons,List.length_nil];omega,fun Zj Zg e54 h54 ZA abX K54=>?_⟩;wp_walk;right;have T54:=(aE.nil KZ).trans (kp1T K54 (KZ.at eG));have YB:Kp [cl] G8 Zj:=(KZ.mono 1e1).trans K54;have f54:∀ a∈Zg,H a=none:=fun a ha=>free1 KH eG (KZ.cB (ZA a ha));have x54:∀ a∈Zg,G8 a=none:=fun a ha=>KZ.cB (ZA a ha);replace KH:=KH.trans YB;replace eh:=T54 _ _ eh;replace ee:=YB.Wl ee ZU;replace Xz:=YB.Wl Xz npj;replace hC:=hC.keep (fun a ha _ e=>YB.Wl e (fun z=>ncl (z▸ha))) T54;replace WY:=WY.keep (fun a ha _ e=>YB.Wl e (fun z=>nc5 (z▸ha))) T54;replace hm:=hm.kp T54;replace eG:=e54;clear KZ K54 NZ hz eq;have l54:Zg.length=bY o':=by rw[h54.len,fR]
    have ixj:fI ((as++(new++[pe]++Wx++[pj])++Zg).map V.ref) ((as.length+new.length+bY b'+1:Nat):Int)=some (.ref pj):=c0 (by
     rw[List.getElem?_map,<- l50,show as++(new++[pe]++Wx++[pj])++Zg=(as++new++[pe]++Wx)++(pj::Zg) by simp,List.getElem?_append_right (by simp;omega)];simp only[List.length_append,List.length_cons,List.length_nil];rw[show as.length+new.length+Wx.length+1 - (as.length+new.length+(0+1)+Wx.length)=0 by omega];rfl)
    have acT:=Xz;have abZ:pj∉new:=fun z=>by
     have h:=(List.nodup_append.mp nd6).2.2 pj (by simp[z]) pj 1e1;exact h rfl
    have abY:pj∉Wx:=fun z=>by
     have h:=(List.nodup_append.mp nd6).2.2 pj (by simp[z]) pj 1e1;exact h rfl
    have aa6:pj∉Zg:=fun z=>by
     obtain⟨o,e⟩:=th6 pj 1e1;rw[x54 pj z] at e;cases e
    have nd7:(new++[pe]++Wx++[pj]++Zg).Nodup:=pQ nd6 abX th6 x54
    exists eG,ixj,Xz,Stm.kw
    rw[show zG 4 3=some 3 from rfl,show(List.map V.ref (as++(new++[pe]++Wx++[pj])++Zg)).length=as.length+new.length+bY b'+bY o'+2 from by simp[l50,l54];omega];show Pv (i+1) _ (Wa Zj pj 1e48);have TS:aE Zj (Wa Zj pj 1e48):=aE.cI Xz;replace Xz:Wa Zj pj 1e48 pj=some 1e48:=aA;have KE:∀ a u,a≠pj->Zj a=some u->Wa Zj pj 1e48 a=some u:=fun a u n e=>by rw[aD n];exact e
    replace eG:=KE _ _ npj.symm eG;replace hm:=hm.kp TS;replace KH:Kp [cl] H (Wa Zj pj 1e48):=fun b o e n=>by rw[aD (aF e fpj)];exact KH b o e n
    replace eh:=TS _ _ eh;replace hC:=hC.keep (fun a ha o e=>KE _ _ (fun z=>abZ (z▸ha)) e) TS;replace WY:=WY.keep (fun a ha o e=>KE _ _ (fun z=>abY (z▸ha)) e) TS;replace h54:=h54.keep (fun a ha o e=>KE _ _ (fun z=>aa6 (z▸ha)) e) TS;replace ee:=KE _ _ aa7.symm ee;generalize Wa Zj pj 1e48=G9 at *;clear TS KE;refine back _ _ _ _ _ (new++[pe]++Wx++[pj]++Zg) _ (by rw[eG];simp) ?_ ?_ nd7 KH
    ·simp only[Be];have h5:=WY;rw[show(as++1e39).length=as.length+new.length+1 by simp;omega] at h5;have h6:=h54;rw[show(as++(new++[pe]++Wx++[pj])).length=as.length+new.length+bY b'+2 by simp[l50];omega] at h6;have:=hC.app ((cX.cons (e:=⟨some (.iff s b' o'),pt++[(i:Int)],some (as.length+new.length+bY b'+2)⟩) ⟨ph,eh,_,hm,ee⟩ h5).app (.cons (e:=⟨none,pt++[(i:Int)],some (as.length+new.length+bY b'+bY o'+2)⟩) ⟨ph,eh,Xz⟩ h6));simpa using this
    ·intro a ha;simp only[List.mem_append,List.mem_cons,List.not_mem_nil,or_false] at ha;rcases ha with(((ha|rfl)|ha)|rfl)|ha
     ·exact fN a ha
     ·exact fpe
     ·exact Zz a ha
     ·exact fpj
     ·exact f54 a ha
   | _=>exact absurd rfl hB
  intro σ G h;rw[Wr,Int.toNat_natCast,<- lus,List.take_length] at h;obtain⟨v3,v4,v5,v6,v7,new,rfl,eG,hC,fN,nd,KG⟩:=h;exact q G new eG hC fN nd KG
theorem EL(T:Tx P w base K mg t):∀ d,eP P w K mg base WW (d+3) t.uQ t.vD ["block","path","code"] (BN d):=by
 intro d
 induction d with
 | zero=>exact⟨fun _ _ _ _ x=>by (obtain⟨_,_,_,_,_,_,_,_,_,_,h,_⟩:=x;exact absurd h 1e0),fun _ _ _ _ _ _ _ _ _ _ _ _ _ x=>by (obtain⟨_,_,_,_,_,_,_,_,_,_,h,_⟩:=x;exact absurd h 1e0)⟩
 | succ d ih=>exact EZ T 1e0 ih
theorem Al:Ok T T.tV 13 LP:=by
 nomatch T.tV
 ·obtain⟨bp,us,b,rfl,_⟩:=h;rfl
 ·obtain⟨bp,us,b,rfl,eb,hs,hd,hz,q⟩:=h
  nomatch (aH (pst 1 (aR bQ)) (aH (aM (pcl (EL T 9) T.j5 (pa3 pv0 (a9 bQ) pv1))) (aH (pst 2 (Gu (eX aC pv1 (eX aC aB (eX aC aC (eX aC kJ (eX aC cD (eX aC aB (eX aC aB (eX aC (aR bQ) Gz)))))))) rfl rfl (List.cons_ne_nil _ _) 1e6)) (aH (ppt pv2 aC (aR bQ)) (aH (ppt pv2 aC kJ) (pss3 (ppt pv2 aC (aR bQ)) (ppt pv2 aC cD) (aJ pv2))))))),0
  left;wp_walk;refine fun cl hc=>?_;have K1:=q0D (o:=.lst []) hc;have e1:Wa H cl 1e10 cl=some (.lst (([]:List Addr).map V.ref)):=aA;replace eb:=K1.at eb;replace hs:=hs.kp (aE.nil K1);generalize Wa H cl 1e10=G1 at *;right;left;wp_walk;refine fun pe he=>?_;have K2:=q0D (o:=.tup []) he;refine⟨bp,pe,cl,us,b,[],[],rfl,K2.at eb,hs.kp (aE.nil K2),hd,aA,by simp,K2.at e1,by simp;omega,fun G2 cs e2 hC fr nd K3=>?_⟩;wp_walk;right;left;wp_walk;have K3':Kp [] H G2:=fun b o e _=>K3.Wl (K2.at (K1.at e)) (fun z=>by rw[z,hc] at e;cases e);have fr':∀ a∈cs,H a=none:=fun a ha=>K1.cB (K2.cB (fr a ha));rw[List.nil_append] at e2;rw[List.length_nil] at hC;refine fun md Za nd hnd od Zp=>?_;have x1:nd≠md:=fun z=>by rw[z,aA] at hnd;cases hnd
  have x2:od≠nd:=fun z=>by rw[z,aA] at Zp;cases Zp
  have x3:od≠md:=fun z=>by rw[z,aD x1.symm,aA] at Zp;cases Zp
  rw[aD x1] at hnd;rw[aD x2,aD x3] at Zp;refine⟨by rw[aD x3.symm,aD x1.symm,aA],[(.inr "code",.ref cl),(.inr "at",.int 0),(.inr "mode",.str "new"),(.inr "names",.ref nd),(.inr "arg",.Wb),(.inr "now",.int 0),(.inr "made",.int 0),(.inr "open",.ref od)],rfl,by simp,?_⟩;rw[eights];obtain⟨k8,hk8⟩:∃ k:List 1e35,k=[(.inr "code",.ref cl),(.inr "at",.int 0),(.inr "mode",.str "new"),(.inr "names",.ref nd),(.inr "arg",.Wb),(.inr "now",.int 0),(.inr "made",.int 0),(.inr "open",.ref od)]:=⟨_,rfl⟩;rw[<- hk8];have lk8:k8.length=8:=by rw[hk8];rfl
  have NA:Kp [] G2 (Wa (Wa (Wa (Wa G2 md (.dK [])) nd (.dK [])) od 1e10) md (.dK k8)):=fun b o e _=>by rw[aD (aF e Za),aD (aF e Zp),aD (aF e hnd),aD (aF e Za)];exact e
  have eM:Wa (Wa (Wa (Wa G2 md (.dK [])) nd (.dK [])) od 1e10) md (.dK k8) md=some (.dK k8):=aA;have eN:Wa (Wa (Wa (Wa G2 md (.dK [])) nd (.dK [])) od 1e10) md (.dK k8) nd=some (.dK []):=by rw[aD x1,aD x2.symm,aA]
  have eO:Wa (Wa (Wa (Wa G2 md (.dK [])) nd (.dK [])) od 1e10) md (.dK k8) od=some 1e10:=by rw[aD x3,aA]
  generalize Wa (Wa (Wa (Wa G2 md (.dK [])) nd (.dK [])) od 1e10) md (.dK k8)=G3 at *;have fm:H md=none:=K3'.cB Za;have fn:H nd=none:=K3'.cB hnd;have fo:H od=none:=K3'.cB Zp;have yo:od≠cl/\od∉cs:=rS e2 hC Zp;have KH:=K3'.trans NA;have YD:=e2;have hC':=hC;have abQ:=Za;replace e2:=NA.at e2;replace hC:=hC.keep (fun _ _ _ e=>NA.at e) (aE.nil NA);clear NA K3 K3' K2 K1 hnd Zp he;have Z0:md≠cl/\md∉cs:=rS YD hC' abQ;right;left
  exists eM
  refine fun dd hX=>?_;generalize hg:Wa G3 dd 1e10=G3a;have N:Kp [] G3 G3a:=hg▸Kp.new hX;have XR:G3a dd=some 1e10:=hg▸aA;clear hg;have fdd:H dd=none:=KH.cB hX;have ydd:dd≠cl/\dd∉cs:=rS e2 hC hX;have X7:dd≠md:=fun z=>by rw[z,eM] at hX;cases hX
  have acP:dd≠nd:=fun z=>by rw[z,eN] at hX;cases hX
  have abF:dd≠od:=fun z=>by rw[z,eO] at hX;cases hX
  replace eN:=N.at eN;replace eO:=N.at eO;replace e2:=N.at e2;replace eM:=N.at eM;replace hC:=hC.keep (fun _ _ _ e=>N.at e) (aE.nil N);replace KH:=KH.trans N;clear N hX
  exists eM
  refine⟨by omega,?_⟩;obtain⟨k9,hk9⟩:∃ k,aO (κ:=Key) k8 (.inr (Str.ofString "done")) (.ref dd)=k:=⟨_,rfl⟩;have lk9:k9.length<=k8.length+1:=hk9▸uG _ _ _;rw[hk9];have TS:aE G3a (Wa G3a md (.dK k9)):=aE.cI eM;have KE:∀ a u,a≠md->G3a a=some u->Wa G3a md (.dK k9) a=some u:=fun a u n e=>by rw[aD n];exact e
  replace eM:Wa G3a md (.dK k9) md=some (.dK k9):=aA;replace hC:=hC.keep (fun a ha o e=>KE _ _ (fun z=>Z0.2 (z▸ha)) e) TS;replace KH:Kp [] H (Wa G3a md (.dK k9)):=fun b o e n=>KE _ _ (aF e fm) (KH b o e n);replace eN:=KE _ _ x1 eN;replace eO:=KE _ _ x3 eO;replace e2:=KE _ _ Z0.1.symm e2;replace XR:=KE _ _ X7 XR;generalize Wa G3a md (.dK k9)=G3x at *;clear TS KE;right;left
  exists eM
  refine fun ld hX=>?_;generalize hg:Wa G3x ld (.dK [])=G3xa;have N:Kp [] G3x G3xa:=hg▸Kp.new hX;have Y7:G3xa ld=some (.dK []):=hg▸aA;clear hg;have fld:H ld=none:=KH.cB hX;have X9:ld≠cl/\ld∉cs:=rS e2 hC hX;have X8:ld≠md:=fun z=>by rw[z,eM] at hX;cases hX
  have abE:ld≠nd:=fun z=>by rw[z,eN] at hX;cases hX
  have acR:ld≠od:=fun z=>by rw[z,eO] at hX;cases hX
  have acM:ld≠dd:=fun z=>by rw[z,XR] at hX;cases hX
  replace eN:=N.at eN;replace eO:=N.at eO;replace e2:=N.at e2;replace XR:=N.at XR;replace eM:=N.at eM;replace hC:=hC.keep (fun _ _ _ e=>N.at e) (aE.nil N);replace KH:=KH.trans N;clear N hX
  exists eM
  refine⟨by omega,?_⟩;obtain⟨kA,hkA⟩:∃ k,aO (κ:=Key) k9 (.inr (Str.ofString "letters")) (.ref ld)=k:=⟨_,rfl⟩;have lkA:kA.length<=k9.length+1:=hkA▸uG _ _ _;rw[hkA];have TS:aE G3xa (Wa G3xa md (.dK kA)):=aE.cI eM;have KE:∀ a u,a≠md->G3xa a=some u->Wa G3xa md (.dK kA) a=some u:=fun a u n e=>by rw[aD n];exact e
  replace eM:Wa G3xa md (.dK kA) md=some (.dK kA):=aA;replace hC:=hC.keep (fun a ha o e=>KE _ _ (fun z=>Z0.2 (z▸ha)) e) TS;replace KH:Kp [] H (Wa G3xa md (.dK kA)):=fun b o e n=>KE _ _ (aF e fm) (KH b o e n);replace eN:=KE _ _ x1 eN;replace eO:=KE _ _ x3 eO;replace e2:=KE _ _ Z0.1.symm e2;replace XR:=KE _ _ X7 XR;replace Y7:=KE _ _ X8 Y7;generalize Wa G3xa md (.dK kA)=G3xx at *;clear TS KE;right;left
  exists eM
  refine fun aw hX=>?_;have N:=q0D (o:=.lst []) hX;have YF:Wa G3xx aw 1e10 aw=some 1e10:=aA;have faw:H aw=none:=KH.cB hX;have yaw:aw≠cl/\aw∉cs:=rS e2 hC hX;have ZZ:aw≠md:=fun z=>by rw[z,eM] at hX;cases hX
  have acO:aw≠nd:=fun z=>by rw[z,eN] at hX;cases hX
  have acQ:aw≠od:=fun z=>by rw[z,eO] at hX;cases hX
  have acL:aw≠dd:=fun z=>by rw[z,XR] at hX;cases hX
  have acN:aw≠ld:=fun z=>by rw[z,Y7] at hX;cases hX
  replace eN:=N.at eN;replace eO:=N.at eO;replace e2:=N.at e2;replace XR:=N.at XR;replace Y7:=N.at Y7;replace eM:=N.at eM;replace hC:=hC.keep (fun _ _ _ e=>N.at e) (aE.nil N);replace KH:=KH.trans N;generalize Wa G3xx aw 1e10=G3xxa at *;clear N hX
  exists eM
  refine⟨by omega,?_⟩;obtain⟨kB,hkB⟩:∃ k,aO (κ:=Key) kA (.inr (Str.ofString "awaited")) (.ref aw)=k:=⟨_,rfl⟩;have lkB:kB.length<=kA.length+1:=hkB▸uG _ _ _;rw[hkB];have TS:aE G3xxa (Wa G3xxa md (.dK kB)):=aE.cI eM;have KE:∀ a u,a≠md->G3xxa a=some u->Wa G3xxa md (.dK kB) a=some u:=fun a u n e=>by rw[aD n];exact e
  replace eM:Wa G3xxa md (.dK kB) md=some (.dK kB):=aA;replace hC:=hC.keep (fun a ha o e=>KE _ _ (fun z=>Z0.2 (z▸ha)) e) TS;replace KH:Kp [] H (Wa G3xxa md (.dK kB)):=fun b o e n=>KE _ _ (aF e fm) (KH b o e n);replace eN:=KE _ _ x1 eN;replace eO:=KE _ _ x3 eO;replace e2:=KE _ _ Z0.1.symm e2;replace XR:=KE _ _ X7 XR;replace Y7:=KE _ _ X8 Y7;replace YF:=KE _ _ ZZ YF;generalize Wa G3xxa md (.dK kB)=G3xxx at *;clear TS KE;right;left
  exists eM
  refine⟨by omega,?_⟩;obtain⟨kC,hkC⟩:∃ k,aO (κ:=Key) kB (.inr (Str.ofString "outcome")) .Wb=k:=⟨_,rfl⟩;have Mf:kC.length<=kB.length+1:=hkC▸uG _ _ _;rw[hkC];have TS:aE G3xxx (Wa G3xxx md (.dK kC)):=aE.cI eM;have KE:∀ a u,a≠md->G3xxx a=some u->Wa G3xxx md (.dK kC) a=some u:=fun a u n e=>by rw[aD n];exact e
  replace eM:Wa G3xxx md (.dK kC) md=some (.dK kC):=aA;replace hC:=hC.keep (fun a ha o e=>KE _ _ (fun z=>Z0.2 (z▸ha)) e) TS;replace KH:Kp [] H (Wa G3xxx md (.dK kC)):=fun b o e n=>KE _ _ (aF e fm) (KH b o e n);replace eN:=KE _ _ x1 eN;replace eO:=KE _ _ x3 eO;replace e2:=KE _ _ Z0.1.symm e2;replace XR:=KE _ _ X7 XR;replace Y7:=KE _ _ X8 Y7;replace YF:=KE _ _ ZZ YF;generalize Wa G3xxx md (.dK kC)=G3xxxx at *;clear TS KE;right;wp_walk;obtain rfl:kC=[(.inr "code",.ref cl),(.inr "at",.int 0),(.inr "mode",.str "new"),(.inr "names",.ref nd),(.inr "arg",.Wb),(.inr "now",.int 0),(.inr "made",.int 0),(.inr "open",.ref od),(.inr "done",.ref dd),(.inr "letters",.ref ld),(.inr "awaited",.ref aw),(.inr "outcome",.Wb)]:=by rw[<- hkC,<- hkB,<- hkA,<- hk9,hk8];simp[aO,cH]
  refine q ⟨md,nd,od,dd,ld,cl,cs,[],0,aw⟩ _ ?_ ?_ rfl ⟨_,YF⟩ KH
  ·have vv:∀ j:String,aX (κ:=Key) [(.inr "code",.ref cl),(.inr "at",.int 0),(.inr "mode",.str "new"),(.inr "names",.ref nd),(.inr "arg",.Wb),(.inr "now",.int 0),(.inr "made",.int 0),(.inr "open",.ref od),(.inr "done",.ref dd),(.inr "letters",.ref ld),(.inr "awaited",.ref aw),(.inr "outcome",.Wb)] (.inr (Str.ofString j))=(([(.inr "code",.ref cl),(.inr "at",.int 0),(.inr "mode",.str "new"),(.inr "names",.ref nd),(.inr "arg",.Wb),(.inr "now",.int 0),(.inr "made",.int 0),(.inr "open",.ref od),(.inr "done",.ref dd),(.inr "letters",.ref ld),(.inr "awaited",.ref aw),(.inr "outcome",.Wb)]:List 1e35).find? fun kv=>decide (kv.1=.inr (Str.ofString j))).map (·.2):=fun _=>rfl;refine⟨⟨fun j=>aX (κ:=Key) [(.inr "code",.ref cl),(.inr "at",.int 0),(.inr "mode",.str "new"),(.inr "names",.ref nd),(.inr "arg",.Wb),(.inr "now",.int 0),(.inr "made",.int 0),(.inr "open",.ref od),(.inr "done",.ref dd),(.inr "letters",.ref ld),(.inr "awaited",.ref aw),(.inr "outcome",.Wb)] (.inr j),⟨⟨_,eM,⟨by simp,fun _ _=>rfl⟩,?_,?_,?_,?_,?_,?_⟩,eN,eO,⟨[],XR,.nil⟩,x1.symm,abF.symm,List.Pairwise.nil,by simp[gS],by simp[gS],by simp[gS]⟩,?_,?_,?_,?_,?_⟩,e2,hC,⟨[],[],Y7,.nil,by simp,fun _=>rfl⟩,ps0 b,X8.symm,abE.symm,by simp,⟨yo.1,yo.2,ydd.1,ydd.2⟩,by simp⟩
   all_goals first|(rw[vv];simp[cH,gS,wv];done)|(dsimp only;rw[vv];simp[cH];done)|(show aX (κ:=Key) [(.inr "code",.ref cl),(.inr "at",.int 0),(.inr "mode",.str "new"),(.inr "names",.ref nd),(.inr "arg",.Wb),(.inr "now",.int 0),(.inr "made",.int 0),(.inr "open",.ref od),(.inr "done",.ref dd),(.inr "letters",.ref ld),(.inr "awaited",.ref aw),(.inr "outcome",.Wb)] (.inr (Str.ofString "mode"))=_;rw[vv];simp[cH];done)|skip
   intro k hk;simp only[OK6,List.mem_cons,List.not_mem_nil,or_false] at hk;rcases hk with rfl|rfl|rfl|rfl|rfl|rfl<;>(simp only[vv];simp[cH])
  ·intro a ha;simp only[Fa.mut,List.append_nil,List.mem_cons,List.not_mem_nil,or_false] at ha;rcases ha with rfl|rfl|rfl|rfl|rfl<;>assumption
theorem jI:Ok T T.iU 2 Dp:=by
 nomatch T.iU
 ·obtain⟨r,n,rfl,_⟩:=h;rfl
 ·obtain⟨r,n,rfl,hR,hn,q⟩:=h
  nomatch (aH (pst 1 1e12) (pss3 (pif (ptc aU pv1 aB) (aG (aJ cD))) (pif (ptc aU pv1 aB) (aG (aJ (pix aK (aR (eJ (bE i7 aB aB) (pa3 (fK dM (bE i7 aB aB)) (bE oW aB (bE i7 aB aB)) (fK dM aB)))) 1e12)))) (aJ 1e12))),0
  wp_walk;refine⟨_,hR,by omega,fun g H1 a1 b1 R1 K1=>?_⟩;split
  ·exact q none _ kD (R1.up 1e0) K1
  split
  ·refine⟨⟨by decide,by decide,by decide⟩,Gk 1e6 1e6,fun p hp=>⟨_,R1.new hp,by omega,fun g2 H2 a2 b2 R2 K2=>?_⟩⟩
   exists made1 K2 R1 hp
   refine iJ a2 b2 fun v hv=>?_;simp only[List.mem_cons,List.not_mem_nil,or_false] at hv;have K:=K1.trans ((Kp.new hp).trans K2);rcases hv with rfl|rfl|rfl|rfl<;>exact q (some _) _ (eU 1e6 1e6) R2 K
  ·refine⟨_,R1,by omega,fun g2 H2 a2 b2 R2 K2=>?_⟩;exact q (some _) _ (eU 1e0 1e0) R2 (K1.trans K2)
theorem tM:Ok T T.jP 4 LO:=by
 nomatch T.jP
 ·obtain⟨P0,A0,S,p,r,n,N,rfl,_⟩:=h;rfl
 ·obtain⟨P0,A0,S,p,r,n,N,rfl,F,FT,lN,hR,hn,s1,s2,s3,q⟩:=h
  nomatch (aH (pst 2 (pix aK (aR (pa2 1e12 (pcl (bB T) T.bK (pa2 pv0 (bE cG (bE i7 aB aB) aB))))) (cA gB rfl T.zQ lW (pa1 (pcr aU 1e12 aB))))) (aH (pst 3 1e12) (aH (pif (ptc aU pv3 aB) (aG (aJ (a9 (pa3 aC pv2 (pcl (jI T) T.iU (pa1 pv0))))))) (aH (pif (ptc jJ pv3 aB) (pss3 (pst 4 1e12) (pif (PW.pt (eY (ptc (Lk 1 (HX hr 1e6)) (pdg pv1 aC) (aR bQ)) (eE (ptc jJ pv3 aB)))) (aG (pst 4 (pix aK (pdg pv1 aC) (pcl (bB T) T.bK (pa2 pv0 (aY b9 rfl T.jU eC (pa1 (pdg pv1 aC))))))))) (aJ (a9 (eJ aC (pa3 pv2 pv4 (pcl (jI T) T.iU (pa1 pv0)))))))) (pss3 (pst 5 (pix aK (aR (pa2 aC aC)) 1e12)) (pif (PW.pt (eY (ptc aU (pdg pv1 aC) aC) (eE (ptc jJ pv3 aB)))) (aG (pst 5 (pix aK (pix aK (pix aK (pdg pv1 aC) (pdg pv1 aC)) aB) aB)))) (aJ (a9 (eJ aC (pa3 pv2 pv5 (pcl (jI T) T.iU (pa1 pv0))))))))))),0
  obtain⟨ot,M0,Xx,c1,c2,c3,c4⟩:=F.ex;obtain⟨Wt,Wm,WQ,t1,t2,t3,t4,t5,t6⟩:=M0.hm;have vm:aX Wt (.inr "mode")=some (.str S.sl.md):=(WQ.2 _ 1e8).trans c4.md;have va7:aX Wt 1e40=some (.int p):=(WQ.2 _ 1e8).trans c2;have vc7:aX Wt (.inr "code")=some (.ref A0.cl):=(WQ.2 _ 1e8).trans c1;have rmd:A0.md≠r:=fun z=>s1 (z▸aV.1);have rod:A0.od≠r:=fun z=>s1 (z▸aV.2.2.1);have lpd:=FT.pd;left;wp_walk;refine⟨n,hR,by omega,fun g1 H1 a1 b1 D1 K1=>⟨_,D1,by omega,fun g2 H2 a2 b2 D2 K2 p1 h1=>⟨_,D2.new h1,by omega,fun g3 H3 a3 b3 D3 K3=>?_⟩⟩⟩
  exists made1 K3 D2 h1
  refine iJ (by split<;>simp) (by split<;>simp) fun v hv=>?_;obtain⟨mo,rfl,hm⟩:∃ mo:Int,v=.int mo/\0<=mo/\mo<=1000000000000:=by
   simp only[List.mem_cons,List.not_mem_nil,or_false] at hv;rcases hv with rfl|rfl
   ·exact⟨_,rfl,by omega,by omega⟩
   ·exact⟨_,rfl,by omega,by omega⟩
  have KK:Kp [r] H H3:=((K1.trans K2).trans (Kp.new h1)).trans K3;clear K1 K2 K3 D1 D2 h1 hv;wp_walk;right;left;wp_walk;refine⟨_,D3,by omega,fun kd H4 a4 b4 D4 K4=>?_⟩;replace KK:=KK.trans K4;clear K4 D3;wp_walk;right;left;wp_walk;split
  ·refine⟨r,_,rfl,D4,by omega,fun w H5 hw D5 K5=>?_⟩;wp_walk;intro p5 h5;exact q _ (.WR mo w) _ _ ⟨p5,rfl,aA⟩ ⟨hm,hw⟩ (D5.new h5) 1e0 ((KK.trans K5).trans (Kp.new h5))
  right;left;refine cN fun RI Wi=>?_;wp_walk;split
  ·refine Wi _ _ ?_;clear Wi RI;left;wp_walk;refine⟨_,D4,by omega,fun tk H5 a5 b5 D5 K5=>?_⟩;replace KK:=KK.trans K5;wp_walk;right;refine bX fun R6 ZF=>?_;refine cN fun RI Wi=>?_
   suffices fin:∀(j:Int) (n':Nat) (G:Hp),bZ G r n'->n'<=n+8->Kp [r] H G->R6 [some (.ref r),some (.ref A0.md),some (.int mo),some (.int kd),some (.int j),none] G by
    have ho5:=KK.Wl M0.ho rod;have WT:=KK.Wl Wm rmd
    exists WT,t5,ho5
    refine fun p2 h2=>⟨_,Od ((q0D h2).at ho5) aA,?_⟩;have N2:=q0D (o:=.lst []) h2;split
    ·next hp =>
     split
     ·refine Wi _ _ ?_;replace ho5:=N2.at ho5;replace WT:=N2.at WT;have pos:0 < S.pend.length:=by
       cases e:S.pend with
       | nil=>rw[e] at hp;simp at hp
       | cons _ _=>simp
      exists WT,t5,ho5
      rw[List.length_map];refine⟨by omega,by omega,_,D5.new h2,by omega,fun g H' ag bg D6 K6=>?_⟩;have ho6:=K6.Wl ho5 rod;obtain⟨j,ej⟩:∃ j,fI (S.pend.map V.int) g=some (.int j):=by
       obtain⟨g',rfl⟩:∃ g':Nat,g=(g':Int):=⟨g.toNat,by omega⟩;exact⟨S.pend[g']'(by omega),c0 1e1⟩
      exists ho6,ej
      exact fin j _ _ D6 1e0 ((KK.trans (N2.mono 1e1)).trans K6)
     ·exact fin tk _ _ (D5.new h2) 1e0 (KK.trans (N2.mono 1e1))
    ·exact fin tk _ _ (D5.new h2) 1e0 (KK.trans (N2.mono 1e1))
   intro j n' G RG ln KG;clear RI Wi;refine ZF _ _ ?_;clear ZF;clear R6;wp_walk;refine⟨r,_,rfl,RG,by omega,fun w H6 hw D6 K6=>?_⟩;wp_walk;intro p6 h6;exact q _ (.don mo j w) _ _ ⟨p6,rfl,aA⟩ ⟨hm,hw⟩ (D6.new h6) 1e0 ((KG.trans K6).trans (Kp.new h6))
  clear Wi RI;right;left;wp_walk;refine fun p5 h5=>⟨_,D4.new h5,by omega,fun g5 G5 a5 b5 D5 K5=>?_⟩
  exists made1 K5 D4 h5
  refine iJ a5 b5 fun y5 hy5=>?_;obtain⟨z5,rfl⟩:∃ z:Str,y5=.str z:=by simp only[List.mem_cons,List.not_mem_nil,or_false] at hy5;rcases hy5 with rfl|rfl<;>exact⟨_,rfl⟩
  replace KK:Kp [r] H G5:=(KK.trans (Kp.new h5)).trans K5;wp_walk;right;refine bX fun R6 ZF=>?_;refine cN fun RI Wi=>?_
  suffices fin:∀ z:Str,R6 [some (.ref r),some (.ref A0.md),some (.int mo),some (.int kd),none,some (.str z)] G5 by
   have WT:=KK.Wl Wm rmd
   exists WT,vm,Gi
   split
   ·next hh =>
    rw[Gi] at hh;obtain⟨k',hs⟩:=hh;obtain⟨x,Wq⟩:=FT.sl.1 k' hs;obtain⟨pt,ec⟩:=F.ps.ent Wq;obtain⟨a,ea,pa,hpa,sv,XI,eA⟩:=F.co.at ec;have ar:a≠r:=fun z=>s3 (z▸List.mem_of_getElem? ea);have eA5:=KK.Wl eA ar;replace XI:=XI.kp (hR.tk KK);have ix:fI (A0.cs.map V.ref) (p:Int)=some 1e11:=c0 (by rw[List.getElem?_map,ea];rfl);have Yd:=KK.Wl F.cl (fun z=>s2 z.symm);cases XI with
    | @Wg a0 x k' e1 =>
     split
     ·refine Wi _ _ ?_
      exists WT,va7,vc7,Yd,ix,eA5,e1
      exact fin _
     ·exact fin _
   ·exact fin _
  intro z;clear RI Wi;refine ZF _ _ ?_;clear ZF;clear R6;wp_walk;refine⟨r,_,rfl,D5,by omega,fun w H6 hw D6 K6=>?_⟩;wp_walk;intro p6 h6;exact q _ (.ltr mo z w) _ _ ⟨p6,rfl,aA⟩ ⟨hm,hw⟩ (D6.new h6) 1e0 ((KK.trans K6).trans (Kp.new h6))
theorem sL:Ok T T.m8 1 LM:=by
 nomatch T.m8
 ·obtain⟨P0,A0,S,p,w,op,cs,rfl,_⟩:=h;rfl
 ·obtain⟨P0,A0,S,p,w,op,cs,rfl,F,O,lc,q⟩:=h
  nomatch (aH (ppt pv0 aC aC) (pss3 (ppt pv0 aC pv1) (ppt pv0 aC (aR bQ)) (aM (dC pv2 (a9 (pa2 aC pv1)))))),0
  obtain⟨ot,M0,Xx,c1,c2,c3,c4⟩:=F.ex;obtain⟨us,eo,hC,s1,s2,s3⟩:=O;have lu:=hC.len;have F0:=F;have e00:=eo;have KM:Kp [A0.md] H H:=Kp.refl;have TM:aE H H:=fun _ _ e=>e;obtain⟨Wt,Wm,WQ,_⟩:=M0.hm;obtain⟨y0,hy0⟩:=Xx "mode" 1e8;left
  exists Wm
  refine⟨by omega,?_⟩;refine M0.six Wm (k:="mode") 1e8 hy0 Xx KM TM 1e1 (.str "ended") fun G1 M1 Ym KM TM kp0 Z4 KS0=>?_;replace eo:=kp0 eo 1e7;replace hC:=hC.kt Z4;clear kp0 Z4 KS0 Wm WQ;right;obtain⟨WK,Wn,Xw,_⟩:=M1.hm;obtain⟨y1,hy1⟩:=Ym "outcome" 1e8;left
  exists Wn
  refine⟨by omega,?_⟩;refine M1.six Wn (k:="outcome") 1e8 hy1 Ym KM TM 1e1 (wv w) fun G2 M2 Y2 KM TM Zr Y5 Zw=>?_;replace eo:=Zr eo 1e7;replace hC:=hC.kt Y5;clear Zr Y5 Zw Wn Xw;right;left;obtain⟨ZS,WN,lk2,_⟩:=M2.hm
  exists WN
  refine fun o2 WM=>?_;generalize hg:Wa G2 o2 1e10=G2a;have N:Kp [] G2 G2a:=hg▸Kp.new WM;have Xn:G2a o2=some 1e10:=hg▸aA;clear hg;have fo2:H o2=none:=by
   cases e:H o2 with
   | none=>rfl
   | some o =>
    by_cases z:o2=A0.md
    ·rw[z,WN] at WM;cases WM
    ·rw[KM.Wl e z] at WM;cases WM
  have Y1:op≠o2:=aF eo WM;have nd2:o2≠A0.dd:=fun z=>by
   obtain⟨ds,ed,_⟩:=M2.hd;rw[z,ed] at WM;cases WM
  replace M2:=M2.kp N;replace WN:=N.at WN;replace eo:=N.at eo;replace hC:=hC.kt (aE.nil N);replace KM:=KM.trans (N.mono (T:=[A0.md]) 1e1);replace TM:=TM.trans (aE.nil N)
  exists WN
  refine⟨by omega,?_⟩;have M3:=M2.opn WN Xn nd2;have KS2:Kp [A0.md] G2a (Wa G2a A0.md (.dK (aO ZS (.inr "open") (.ref o2)))):=Kp.jL;have TS2:aE G2a (Wa G2a A0.md (.dK (aO ZS (.inr "open") (.ref o2)))):=aE.cI WN;replace eo:=cL (u:=.dK (aO ZS (.inr "open") (.ref o2))) WN eo;replace hC:=hC.kt TS2;replace KM:=KM.trans KS2;replace TM:=TM.trans TS2;generalize Wa G2a A0.md (.dK (aO ZS (.inr "open") (.ref o2)))=G3 at *;clear KS2 TS2 WN lk2 N WM Xn;right
  exists eo
  refine fun pt YW=>?_;generalize hg:Wa G3 pt (.tup [.str "end",wv w])=G3b;have N:Kp [] G3 G3b:=hg▸Kp.new YW;have ept:G3b pt=some (.tup [.str "end",wv w]):=hg▸aA;clear hg;replace M3:=M3.kp N;replace eo:=N.at eo;replace hC:=hC.kt (aE.nil N);replace KM:=KM.trans (N.mono (T:=[A0.md]) 1e1);replace TM:=TM.trans (aE.nil N)
  exists eo
  refine⟨by omega,?_⟩;have T4:aE G3b (Wa G3b op (.lst (us++[.ref pt]))):=aE.cI eo;have K4:Kp [op] G3b (Wa G3b op (.lst (us++[.ref pt]))):=Kp.jL;have hC4:=(hC.app (.cons ept .nil)).kt T4;have nod:op≠A0.dd:=fun z=>s1 (z▸aV.2.2.2.1);have nom:op≠A0.md:=fun z=>s1 (z▸aV.1);have M4:=M3.other (vs:=us++[.ref pt]) eo Y1 nod;have KF:Kp [A0.md,op] H (Wa G3b op (.lst (us++[.ref pt]))):=fun b o e n=>K4.Wl (KM.Wl e (fun z=>n (by simp[z]))) (fun z=>n (by simp[z]));obtain⟨w1,w2,w3⟩:=F0.new fo2;refine q _ p _ (F0.asm (M4.as ⟨rfl,rfl,rfl,rfl,rfl,rfl⟩) Y2 ?_ ?_ ?_ ⟨?_,?_⟩ (fun b o e hb=>?_) (TM.trans T4) rfl F0.ps w1 w2) ⟨_,aA,hC4,Ub s1 Y1,s2,s3⟩ ((Fm.ofK KF fun b hb=>?_).od fo2)
  ·simp[cH,c1]
  ·simp[cH,c2]
  ·simp[cH,c3]
  ·simp[cH]
  ·simp
  ·obtain⟨a1,a2,a3,a4,a5⟩:=F0.FQ s1 s2 s3 hb;exact KF b o e (by simp[a1,a5])
  ·simp only[List.mem_cons,List.not_mem_nil,or_false] at hb;rcases hb with rfl|rfl
   ·obtain⟨kv,e,_⟩:=M4.hm;exact⟨.inl aV.1,_,e⟩
   ·exact⟨.inr 1e1,_,aA⟩
theorem n8:Ok T T.jE 1 EX:=by
 nomatch T.jE
 ·obtain⟨n,rfl,_⟩:=h;rfl
 ·obtain⟨n,rfl,q⟩:=h
  nomatch (aG (aJ (aY (gW rfl) rfl T.BV oK (pa2 (fK dM (bE i7 aB aB)) (aY (mY rfl) rfl T.IZ AS (pa2 (bE i7 aB aB) pv0)))))),0
  wp_walk;exact q
theorem E1(hn:3<=n)(IH:eP P w K mg base WW n t.uS t.vF ["saying","run"] (uH d)):Ok T T.eT (n+1) (uH (d+1)):=by
  nomatch T.eT
  · obtain⟨v,md,nd,od,dd,ot,S,s,rfl,_⟩:=h;rfl
  · obtain⟨v,md,nd,od,dd,ot,S,s,rfl,hS,hd,Wh,M,hP,q⟩:=h;have hu:=nU hr
    nomatch (aH (pst 2 1e47) (aH (pif (ptc aU pv2 aC) (aG (aJ 1e47))) (aH (pif (ptc aU pv2 aC) (aG (aJ cD))) (aH (pif (ptc aU pv2 aC) (aG (aJ (uB hu (pdg pv1 aC) 1e47 ⟨rfl,rfl,rfl,rfl⟩)))) (aH (pif (ptc aU pv2 aC) (aG (aJ (pdg pv1 aC)))) (aH (pif (ptc aU pv2 aC) (aG (aJ (pcl (n8 T) T.jE (pa1 (pdg pv1 aC)))))) (aH (pst 3 (pcl IH T.eT (pa2 1e47 pv1))) (aH (pif (ptc aU pv2 aC) (aG (aJ (uB hu (cA ((D7 rfl)) rfl T.Md Ms (pa1 (pdg pv1 aC))) pv3 ⟨rfl,rfl,rfl,rfl⟩)))) (aH (pif (ptc aU pv2 aC) (aG (aJ (cA gB rfl T.zQ lW (pa1 (OS (pcr mK pv3 cD) (mM (pcr aU pv3 aB)))))))) (aH (pst 4 (pcl IH T.eT (pa2 1e47 pv1))) (aH (pif (ptc aU pv2 aC) (aG (aJ (cA gB rfl T.zQ lW (pa1 (pcr aU pv3 pv4)))))) (aH (pst 5 (BE pv3 (mM aB))) (pss3 (pst 6 (BE pv4 (mM aB))) (pif (ptc aU pv2 aC) (aG (aJ (cA gB rfl T.zQ lW (pa1 (pcr jJ pv5 pv6)))))) (aJ (pcl (n8 T) T.jE (pa1 (pdg (Gu (eX aC (bE cG pv5 pv6) (eX aC (bE i8 pv5 pv6) (eX aC (bE oW pv5 pv6) Gz))) rfl rfl (List.cons_ne_nil _ _) 1e6) pv2))))))))))))))))),0
    obtain⟨kvs,em,_,v1,v2,v3,v4,v5,v6⟩:=M.hm;cases hS with
    | num e =>
      exists e
      exact q _ Kp.refl
    | Wb e =>
      exists e
      exact q _ Kp.refl
    | @name a x e =>
      exists e,em,v1,M.hn,pR
      exact q _ Kp.refl
    | arg e =>
      exists e,em,v2
      exact q _ Kp.refl
    | now e =>
      exists e,em,v3
      exact q _ Kp.refl
    | @ans a v s e h1 =>
      exists e
      simp only[Say.depth] at hd;refine⟨_,md,nd,od,dd,ot,S,_,rfl,h1,by omega,Wh,M,hP,fun H1 K1=>?_⟩;obtain⟨ds,ed,rd⟩:=M.hd
      exists K1.at em,v6,K1.at ed
      refine⟨_,(rd.kt (aE.nil K1)).pairs,fun p hp=>?_⟩
      exists Ih M.uq,pD
      rw[UI] at q;exact q _ (K1.trans (Kp.new hp))
    | @neg a v s e h1 =>
      exists e
      simp only[Say.depth] at hd;refine⟨_,md,nd,od,dd,ot,S,_,rfl,h1,by omega,Wh,M,hP,fun H1 K1=>?_⟩;rw[UN] at q;cases hw:S.worth s with
      | none =>
        rw[hw] at q
        exists wv
        exact q _ K1
      | some z =>
        rw[hw] at q
        exists wv,reduceCtorEq
        by_cases hz:z=0
        · subst hz;exact q _ K1
        · have:=q _ K1;simp only[num,Option.getD_some,hz,if_false,wv] at this;simpa[hz] using this
    | @two a v u g s1 s2 e h1 h2 =>
      simp only[Say.depth] at hd;rw[UP] at q;have w1:dU (S.worth s1):=FO hP Wh.1;have w2:dU (S.worth s2):=FO hP Wh.2;have b1:=wK w1;have b2:=wK w2;cases g <;>
      ( exists e,Sg.s
        refine⟨_,md,nd,od,dd,ot,S,_,rfl,h1,by omega,Wh.1,M,hP,fun H1 K1=>?_⟩
        exists K1.at e,Sg.s
        refine⟨_,md,nd,od,dd,ot,S,_,rfl,h2.kp (aE.nil K1),by omega,Wh.2,M.kp K1,hP,fun H2 K2=>?_⟩;have q0:=q;replace q:=q H2 (K1.trans K2);wp_walk)
      case eq =>
        refine To ?_;wp_walk;rw[show(Sg.eq.of (S.worth s1) (S.worth s2))=if S.worth s1=S.worth s2 then 1 else 0 from rfl] at q;simpa[wv] using q
      case lt =>
        exists decide_eq_true_eq
        exact q
      all_goals (
        refine fun p hp=>⟨Gk 1e0 1e0,[(.inr "+",.int (num (S.worth s1)+num (S.worth s2))),(.inr "-",.int (num (S.worth s1) - num (S.worth s2))),(.inr "*",.int (num (S.worth s1) * num (S.worth s2)))],rfl,by simp,?_⟩
        exists Ii,UD,UH,UG
        exact q0 _ ((K1.trans K2).trans (Nu hp)))
theorem iZ(T:Tx P w base K mg t):∀ d,eP P w K mg base WW (d+3) t.uS t.vF ["saying","run"] (uH d):=by
 intro d
 induction d with
 | zero=>exact⟨fun _ _ _ _ x=>by (obtain⟨_,_,_,_,_,_,_,s,_,_,h,_⟩:=x;exact absurd h (by have:=s.m4;omega)),fun _ _ _ _ _ _ _ _ _ _ _ _ _ x=>by (obtain⟨_,_,_,_,_,_,_,s,_,_,h,_⟩:=x;exact absurd h (by have:=s.m4;omega))⟩
 | succ d ih=>exact E1 T 1e0 ih
theorem Bz:Ok T T.oR 11 (EY (fun m=>∃ x ss,m=.wait x ss)):=by
 nomatch T.oR
 ·obtain⟨P0,A0,S,p,v,m,rfl,_⟩:=h;rfl
 ·obtain⟨P0,A0,S,p,v,m,rfl,F,sn,hs,gm,g,st,hP,b1,b2,b3,q⟩:=h
  nomatch (aH (EU (i:=2) sc rfl (Or.inr rfl) (nF (fr:=[0]) (N:=["saying","run"]) rfl (fun _ _ h=>h) (eQ.free rfl rfl rfl rfl rfl (fun _ _ h=>look1 rfl h) rfl 1e6 rfl (fun j hj=>by rw[show j=0 by simpa using hj];exact⟨_,rfl,rfl,.inl rfl⟩)) (Lv 1e4) (fun C s H ex pn=>⟨BH,(uA (iZ T 6) (hr.mono 1e0) rfl T.eT.m T.eT.fn.kp T.eT.bd .nil pass0 (eJ (pv 0) (eJ (pv 1) bQ))) ⟩))) (aH (C9 (i:=3) (fr:=[2]) (N:=["ticket","worth","worths"]) rfl (fun _ _ h=>h) (kO.of (M:=["ticket","worths"]) (eQ.free rfl rfl rfl rfl rfl (fun _ _ h=>look1 rfl h) rfl 1e6 rfl (fun j hj=>by rw[show j=2 by simpa using hj];exact⟨_,rfl,rfl,.inl rfl⟩)) rfl 1e6 rfl) (nG 1e9) (fun C s H ex pn=>⟨nJ (fU jS (pv 0) (pv 2) 1e30) ,(pv 0) ⟩) sc rfl (Or.inl rfl)) (aH (ppt pv0 aC (nF (fr:=[2]) (N:=["ticket","worths"]) rfl (fun _ _ h=>h) (eQ.free rfl rfl rfl rfl rfl (fun _ _ h=>look1 rfl h) rfl 1e6 rfl (fun j hj=>by rw[show j=2 by simpa using hj];exact⟨_,rfl,rfl,.inl rfl⟩)) (nG 1e9) (fun C s H ex pn=>⟨nJ (fU jS (pv 0) (pv 1) 1e30) ,(pv 0) ⟩))) (pss3 (pif (PW.pt (eY (ptc (ER 1 (HX hr 1e6)) pv3 (aR bQ)) (eE (ptc (Lk 1 (HX hr 1e6)) 1e9 (aR bQ))))) (pss2 (ppt pv0 aC aC) uF)) (ppt 1e9 1e4 (pix aK (bE cG pv3 (aR (pa1 cD))) aB)) (ppt pv0 aC (bE cG 1e9 aB)))))),0
  obtain⟨x,ss,rfl⟩:=gm;cases hs with
  | @wait a pp x vs ss e1 e2 hss =>
   obtain⟨_,g4,gs⟩:=g;have lv:=hss.Q7;obtain⟨ot,M0,Xx,c1,c2,c3,c4⟩:=F.ex;left
   exists e1
   refine⟨⟨_,g9.of e2⟩,?_⟩;obtain⟨Pv,Wr⟩:∃ Pv:Nat->List V->Hp->Prop,∀ i xs G,Pv i xs G=(Kp [] H G/\xs=((ss.take i).map S.worth).map wv):=⟨_,fun _ _ _=>rfl⟩;refine Kx (ys:=vs) Pv ?_ ?_ ?_ ?_ ?_
   ·rw[Wr];exact⟨Kp.refl,rfl⟩
   ·intro i xs G h;rw[Wr] at h;rw[h.2,List.length_map,List.length_map,List.length_take];omega
   ·intro i xs G h;rw[Wr] at h;exact g9.of (h.1.at e2)
   ·intro i y xs G hi ey h;rw[Wr] at h;obtain⟨k,rfl⟩:=h;obtain⟨s0,es,h0⟩:=hss.atW ey;obtain⟨sk1,sk2⟩:=gs s0 (List.mem_of_getElem? es)
    exists aT,Option.join_some
    refine⟨y,A0.md,A0.nd,A0.od,A0.dd,ot,S,s0,rfl,h0.kp (aE.nil k),sk2,sk1,M0.kp k,hP,fun G' k'=>?_⟩;show Pv (i+1) _ _;rw[Wr,List.take_add_one,es];exact⟨k.trans k',by simp⟩
   intro xs G h p1 Zd;rw[Wr] at h;obtain⟨k,rfl⟩:=h;rw[lv,List.take_length];obtain⟨ws,Xq⟩:∃ ws,ws=ss.map S.worth:=⟨_,rfl⟩;have hd:bW S (.wait x ss)=if aZ S.ans ws=none/\bI S.pend ws≠[] then ({S with sl:=.wait (bI S.pend ws)},[]) else ({S with nm:=b8 S.nm x (aZ S.ans ws)},[]):=by rw[Xq];rfl
   rw[<- Xq];have lw:ws.length<=4:=by rw[Xq,List.length_map];exact g4
   clear Xq Wr Pv;have N1:=k.trans (q0D (o:=.lst (ws.map wv)) Zd);have f1:Wa G p1 1e38 p1=some 1e38:=aA;generalize Wa G p1 1e38=G1 at *;have F1:=F.kp N1;have M1:=M0.kp N1;replace e1:=N1.at e1;right;left;obtain⟨WK,Wn,Xw,u1,u2,u3,u4,u5,u6⟩:=M1.hm;obtain⟨ds,ed,YS⟩:=M1.hd;have lds:=YS.len
   exists Wn,u6
   refine⟨⟨_,e9.of ed⟩,?_⟩;obtain⟨Pw,WE⟩:∃ Pw:Nat->List V->Hp->Prop,∀ i xs G',Pw i xs G'=(G'=G1/\xs=(cU (S.ans.take i) ws).map V.int):=⟨_,fun _ _ _=>rfl⟩;refine Kv (ys:=ds) Pw ?_ ?_ ?_ ?_ ?_
   ·rw[WE];exact⟨rfl,rfl⟩
   ·intro i xs G' h;rw[WE] at h;have:=List.length_filter_le (fun p:Int×Wo=>decide (some p.1∈ws)) (S.ans.take i);rw[h.2,List.length_map,cU,List.length_map];rw[List.length_take] at this;omega
   ·intro i xs G' h;rw[WE] at h;rw[h.1];exact e9.of ed
   ·intro i y xs G' hi ey h;rw[WE] at h;obtain⟨rfl,rfl⟩:=h;obtain⟨t0,j0,w0,rfl,ej,et⟩:=YS.at ey;refine⟨t0,_,_,rfl,g9.of et,?_⟩
    exists aT,Option.join_some,f1,Bj
    refine⟨rfl,Cs ws,?_⟩;rw[WE,WE,EV ej];split
    ·next h=>exact⟨rfl,(if_pos 1e37).symm⟩
    ·next h=>exact⟨rfl,(if_neg 1e37).symm⟩
   intro xs G' h p2 YV;rw[WE,lds,List.take_length] at h;obtain⟨rfl,rfl⟩:=h;clear WE Pw;have N2:=q0D (o:=.lst ((cU S.ans ws).map V.int)) YV;have f2:Wa G' p2 (.lst ((cU S.ans ws).map V.int)) p2=some (.lst ((cU S.ans ws).map V.int)):=aA;have n12:p2≠A0.md:=fun z=>by rw[z,Wn] at YV;cases YV
   generalize Wa G' p2 (.lst ((cU S.ans ws).map V.int))=G2 at *;replace F1:=F1.kp N2;replace M1:=M1.kp N2;replace e1:=N2.at e1;replace f1:=N2.at f1;replace N1:=N1.trans N2;clear Wn Xw u1 u2 u3 u4 u5 u6 ed YS N2 WK ds lds;right;left;obtain⟨WK,Wn,Xw,u1,u2,u3,u4,u5,u6⟩:=M1.hm;obtain⟨y1,hy1⟩:=Xx "awaited" 1e8
   exists Wn,u5
   refine⟨⟨_,e9.of M1.ho⟩,?_⟩;obtain⟨Pw,WE⟩:∃ Pw:Nat->List V->Hp->Prop,∀ i xs G',Pw i xs G'=(G'=G2/\xs=((S.pend.take i).filter fun j=>decide (some j∈ws)).map V.int):=⟨_,fun _ _ _=>rfl⟩;refine Bp (ys:=S.pend.map V.int) Pw ?_ ?_ ?_ ?_ ?_
   ·rw[WE];exact⟨rfl,rfl⟩
   ·intro i xs G' h;rw[WE] at h;have:=List.length_filter_le (fun j=>decide (some j∈ws)) (S.pend.take i);rw[h.2,List.length_map];rw[List.length_take] at this;omega
   ·intro i xs G' h;rw[WE] at h;rw[h.1];exact e9.of M1.ho
   ·intro i y xs G' hi ey h;rw[WE] at h;obtain⟨rfl,rfl⟩:=h;rw[List.getElem?_map] at ey;obtain⟨j0,ej,rfl⟩:=Option.map_eq_some_iff.mp ey
    exists aT,Option.join_some,f1,Bj
    refine⟨rfl,Cs ws,?_⟩;rw[WE,WE,HQ ej];split
    ·next h=>exact⟨rfl,(if_pos 1e37).symm⟩
    ·next h=>exact⟨rfl,(if_neg 1e37).symm⟩
   intro xs G' h p3 ZM;rw[WE,List.length_map,List.take_length,C3 M1.asc] at h;obtain⟨rfl,rfl⟩:=h;clear WE Pw;have N2:=q0D (o:=.lst 1e22) ZM;have f3:Wa G' p3 (.lst 1e22) p3=some (.lst 1e22):=aA;obtain⟨w1,w2,w3⟩:=F1.new ZM;have fp3:H p3=none:=N1.cB ZM;replace F1:=F1.kp N2;replace M1:=M1.kp N2;replace e1:=N2.at e1;replace Wn:=N2.at Wn;replace f2:=N2.at f2;replace N1:=N1.trans N2;generalize Wa G' p3 (.lst 1e22)=G1 at *;have KM:Kp [A0.md] G1 G1:=Kp.refl;have TM:aE G1 G1:=fun _ _ e=>e;have Ym:=Xx
   exists Wn
   refine⟨by omega,?_⟩;refine M1.six Wn (k:="awaited") 1e8 hy1 Ym KM TM 1e1 (.ref p3) fun G2 M2 Y2 KM TM Zr Y5 Zw=>?_;replace f2:=Zr f2 1e7;replace f3:=Zr f3 1e7;replace e1:=Zr e1 1e7;clear Zr Y5 Zw Wn Xw;right;obtain⟨XJ,M2,Y2,d1,d2,d3,da,dm⟩:∃ XJ:Str->Option V,cJ G2 A0.md A0.nd A0.od A0.dd XJ S/\(∀ k∈OK6,∃ v,XJ k=some v)/\XJ "code"=some (.ref A0.cl)/\XJ "at"=some (.int p)/\XJ "letters"=some (.ref A0.ld)/\XJ "awaited"=some (.ref p3)/\XJ "mode"=some (.str "on"):=⟨_,M2,Y2,(dS).trans c1,(dS).trans c2,(dS).trans c3,xM,(dS).trans (by rw[sn] at c4;exact c4)⟩;have kn2:(fA S.nm).length<=100000:=by rw[fA,List.length_map];exact b1
   refine bX fun R4 ZE=>?_;refine cN fun RI Wi=>?_
   suffices fin:(aZ S.ans ws=none/\bI S.pend ws≠[]->∀ G,(cJ G A0.md A0.nd A0.od A0.dd XJ S/\G a=some (.tup [.str "wait",.str x,.ref pp])/\G p2=some (.lst ((cU S.ans ws).map V.int))/\G p3=some (.lst 1e22)/\Kp [A0.md] G1 G/\aE G1 G)->RI [some (.ref A0.md),some 1e11,some (.ref p1),some (.ref p2)] G)/\(¬ (aZ S.ans ws=none/\bI S.pend ws≠[])->∀ G,(cJ G A0.md A0.nd A0.od A0.dd XJ S/\G a=some (.tup [.str "wait",.str x,.ref pp])/\G p2=some (.lst ((cU S.ans ws).map V.int))/\G p3=some (.lst 1e22)/\Kp [A0.md] G1 G/\aE G1 G)->R4 [some (.ref A0.md),some 1e11,some (.ref p1),some (.ref p2)] G) by
    obtain⟨ZS,WN,lk2,t1,t2,t3,t4,t5,t6⟩:=M2.hm;have va:aX ZS (.inr "awaited")=some (.ref p3):=(lk2.2 _ 1e8).trans da
    exists f2
    refine fun q1 h1=>⟨_,Od ((q0D h1).at f2) aA,?_⟩;generalize hg:Wa G2 q1 1e10=G3;have NQ:Kp [] G2 G3:=hg▸Kp.new h1;clear hg;replace M2:=M2.kp NQ;replace WN:=NQ.at WN;replace f2:=NQ.at f2;replace f3:=NQ.at f3;replace e1:=NQ.at e1;replace KM:=KM.trans (NQ.mono (T:=[A0.md]) 1e1);replace TM:=TM.trans (aE.nil NQ)
    exists WN,va
    split
    ·next hr =>
     have hf:aZ S.ans ws=none:=by rw[mO];simpa using hr
     refine fun q2 h2=>⟨_,Od ((q0D h2).at f3) aA,?_⟩;have NR:=q0D (o:=.lst []) h2;split
     ·next ho=>exact fin.1 ⟨hf,by simpa using ho⟩ _ ⟨M2.kp NR,NR.at e1,NR.at f2,NR.at f3,KM.trans (NR.mono 1e1),TM.trans (aE.nil NR)⟩
     ·next ho=>exact fin.2 (fun z=>ho (by simpa using z.2)) _ ⟨M2.kp NR,NR.at e1,NR.at f2,NR.at f3,KM.trans (NR.mono 1e1),TM.trans (aE.nil NR)⟩
    ·next hr=>exact fin.2 (fun z=>hr (by have:=z.1;rw[mO] at this;simpa using this)) _ ⟨M2,e1,f2,f3,KM,TM⟩
   clear KM TM M2 e1 f2 f3;refine⟨fun cw G3 ⟨M3,e1,f2,f3,KM,TM⟩=>Wi _ _ ?_,fun cw G3 ⟨M3,e1,f2,f3,KM,TM⟩=>?_⟩
   ·clear Wi RI;have os3:=Y2;obtain⟨Y0,WS,XW,_⟩:=M3.hm;obtain⟨y3,hy3⟩:=os3 "mode" 1e8;left
    exists WS
    refine⟨by omega,?_⟩;refine M3.six WS (k:="mode") 1e8 hy3 os3 KM TM 1e1 (.str "wait") fun G4 M4 os4 KM TM kp3 TS3 KS3=>?_;replace f3:=kp3 f3 1e7;clear kp3 TS3 KS3 WS XW;right;wp_walk;have h1:one S (.wait x ss)=({S with sl:=.wait (bI S.pend ws)},[]):=by rw[i6 rfl,hd,if_pos cw];rfl
    rw[h1] at q;refine q {A0 with aw:=p3} p G4 ((F1.Up sn p3).oH (M4.as ⟨rfl,rfl,rfl,rfl,rfl,rfl⟩) os4 ((dS).trans d1) ((dS).trans d2) ((dS).trans d3) ⟨xM,(dS).trans da,f3,w3⟩ (fun b o e hb=>KM.Wl e (F1.far hb).1) TM rfl F1.ps) (((Fm.of N1).trans (Fm.ofK KM fun b hb=>?_)).awN fp3 f3);rw[show b=A0.md by simpa using hb];obtain⟨kv,e,_⟩:=M4.hm;exact⟨.inl aV.1,_,e⟩
   ·clear Wi RI;refine ZE _ _ ?_;clear ZE;clear R4;obtain⟨Y0,WS,XW,t1,t2,t3,t4,t5,t6⟩:=M3.hm;left
    exists WS,t1,f2,e1,M3.hn
    refine fun p4 h4=>?_;generalize hg:Wa G3 p4 (.lst [.Wb])=G4;have N4:Kp [] G3 G4:=hg▸Kp.new h4;have e4:G4 p4=some (.lst [.Wb]):=hg▸aA;clear hg;replace M3:=M3.kp N4;replace WS:=N4.at WS;replace f2:=N4.at f2;replace e1:=N4.at e1;replace KM:=KM.trans (N4.mono (T:=[A0.md]) 1e1);replace TM:=TM.trans (aE.nil N4)
    exists f2,e4
    refine⟨by have:=IJ S.ans ws;rw[List.length_map];omega,fun p5 h5=>?_⟩;rw[Lz];have N5:=q0D (o:=.lst ((cU S.ans ws).map V.int++[.Wb])) h5;replace M3:=M3.kp N5;replace WS:=N5.at WS;replace e1:=N5.at e1;replace KM:=KM.trans (N5.mono (T:=[A0.md]) 1e1);replace TM:=TM.trans (aE.nil N5);generalize Wa G4 p5 (.lst ((cU S.ans ws).map V.int++[.Wb]))=G5 at *
    exists WS,t1,e1,M3.hn,fS
    refine⟨by omega,?_⟩;have M6:=M3.name x (aZ S.ans ws);have TN:aE G5 (Wa G5 A0.nd (.dK (fA (b8 S.nm x (aZ S.ans ws))))):=aE.cI M3.hn;have KN:Kp [A0.md,A0.nd] G5 (Wa G5 A0.nd (.dK (fA (b8 S.nm x (aZ S.ans ws))))):=Kp.set 1e1;replace KM:=(KM.mono (T:=[A0.md,A0.nd]) 1e1).trans KN;replace TM:=TM.trans TN;generalize Wa G5 A0.nd (.dK (fA (b8 S.nm x (aZ S.ans ws))))=G6 at *;clear WS XW t1 t2 t3 t4 t5 t6 N4 N5 TN KN;have os6:=Y2;right;obtain⟨kv6,em6,lk6,_⟩:=M6.hm;have vat:aX kv6 1e40=some (.int p):=(lk6.2 _ 1e8).trans d2;obtain⟨y6,hy6⟩:=os6 "at" 1e8
    exists em6,vat
    refine⟨by omega,?_⟩;refine M6.six em6 (k:="at") 1e8 hy6 os6 KM TM 1e1 (.int ((p:Int)+1)) fun G7 M7 os7 KM TM kp6 TS6 KS6=>?_;clear kp6 TS6 KS6 em6 lk6;have h1:one S (.wait x ss)=(({S with nm:=b8 S.nm x (aZ S.ans ws)}:Pu).pass,[]):=by rw[i6 rfl,hd,if_neg cw,if_pos (by rw[show(({S with nm:=b8 S.nm x (aZ S.ans ws)}:Pu).sl)=S.sl from rfl,sn];rfl)]
    rw[h1] at q;have XH:=F1.ps.pass st;rw[IQ rfl] at XH;refine q A0 (p+1) G7 (F1.oH (M7.as ⟨rfl,rfl,rfl,rfl,rfl,rfl⟩) os7 ((dS).trans d1) xM ((dS).trans d3) ?_ (fun b o e hb=>KM b o e (by have:=F1.far hb;simp[this.1,this.2.1])) TM rfl XH) ((Fm.of N1).trans (Fm.ofK KM fun b hb=>?_))
    ·show dZ _ _ _ S.sl;rw[sn] at c4 ⊢;exact(dS).trans dm
    ·simp only[List.mem_cons,List.not_mem_nil,or_false] at hb;rcases hb with rfl|rfl
     ·obtain⟨kv,e,_⟩:=M7.hm;exact⟨.inl aV.1,_,e⟩
     ·exact⟨.inl aV.2.1,_,M7.hn⟩
theorem By:Ok T T.oQ 1 (EY (fun m=>∃ x k,m=.Wg x k)):=by
 nomatch T.oQ
 ·obtain⟨P0,A0,S,p,v,m,rfl,_⟩:=h;rfl
 ·obtain⟨P0,A0,S,p,v,m,rfl,F,sn,hs,gm,g,st,hP,b1,b2,b3,q⟩:=h;have hu:=nU hr
  nomatch (pss3 (pif (ptc (ER 1 (HX hr 1e6)) (rO hu 1e9 1e4 (aR bQ) ⟨rfl,rfl,rfl,rfl⟩) (aR bQ)) (pss2 (ppt pv0 aC aC) uF)) (ppt 1e9 1e4 (pZ PySem.F.slot_list_pop PySem.F.type_list_pop Bv (pdg 1e9 1e4) (pa1 aB))) (ppt pv0 aC (bE cG 1e9 aB))),0
  obtain⟨x,k,rfl⟩:=gm;cases hs with
  | @Wg a x k e1 =>
   obtain⟨ot,M0,Xx,c1,c2,c3,c4⟩:=F.ex;obtain⟨lk,ml,el,hl,hun,hq⟩:=F.lt;obtain⟨Wt,Wm,WQ,t1,t2,t3,t4,t5,t6⟩:=M0.hm;have vl:aX Wt (.inr "letters")=some (.ref A0.ld):=(WQ.2 _ 1e8).trans c3;have kn2:(fA S.nm).length<=100000:=by rw[fA,List.length_map];exact b1
   refine bX fun R1 hR1=>?_;refine cN fun RI Wi=>?_
   suffices fin:((aS S.lt k).getD []=[]->∀ G,Kp [] H G->RI [some (.ref A0.md),some 1e11] G)/\(∀ w r l,(aS S.lt k).getD []=w::r->aX lk (.inr k)=some (.ref l)->l∈A0.las->∀ G,G l=some (.lst ((w::r).map wv))->Kp [] H G->R1 [some (.ref A0.md),some 1e11] G) by
    exists Wm,vl,e1,el
    refine fun p1 h1=>?_;have N1:=q0D (o:=.lst []) h1;have e0:Wa H p1 1e10 p1=some 1e10:=aA;have hl':=hl.keep (fun _ _ _ e=>N1.at e);have el':=N1.at el;obtain⟨l,ws,hv,Yv,Xq,hx⟩:∃ l ws,(aX lk (.inr k)).getD (.ref p1)=.ref l/\Wa H p1 1e10 l=some 1e38/\(aS S.lt k).getD []=ws/\(ws≠[]->aX lk (.inr k)=some (.ref l)/\l∈A0.las):=by
     rcases hl'.look k with⟨z1,z2⟩|⟨l,ws,z1,z2,z3,z4⟩
     ·exact⟨p1,[],by rw[z1];rfl,e0,by rw[<- hq k,z2];rfl,fun z=>absurd rfl z⟩
     ·exact⟨l,ws,by rw[z1];rfl,z4,by rw[<- hq k,z2];rfl,fun _=>⟨z1,z3⟩⟩
    generalize Wa H p1 1e10=G1 at *
    exists el',hv
    refine fun p2 h2=>?_;have N2:=q0D (o:=.lst []) h2;have Y9:=N2.at Yv;refine⟨_,Od Y9 aA,?_⟩;cases ws with
    | nil=>exact fin.1 Xq _ (N1.trans N2)
    | cons w r =>
     obtain⟨x1,x2⟩:=hx 1e1;exact fin.2 w r l Xq x1 x2 _ Y9 (N1.trans N2)
   refine⟨fun hn G1 N1=>Wi _ _ ?_,fun w r l hn hv hll G1 Zl N1=>?_⟩
   ·clear Wi RI;have M1:=M0.kp N1;have Ym:=Xx;have KM:Kp [A0.md] G1 G1:=Kp.refl;have TM:aE G1 G1:=fun _ _ e=>e;have F1:=F.kp N1;obtain⟨WK,Wn,Xw,_⟩:=M1.hm;obtain⟨y1,hy1⟩:=Ym "mode" 1e8;left
    exists Wn
    refine⟨by omega,?_⟩;refine M1.six Wn (k:="mode") 1e8 hy1 Ym KM TM 1e1 (.str "hear") fun G2 M2 Y2 KM TM Zr Y5 Zw=>?_;clear Zr Y5 Zw Wn Xw;right;wp_walk;have h1:one S (.Wg x k)=({S with sl:=.Wg k},[]):=by
     have:bW S (.Wg x k)=({S with sl:=.Wg k},[]):=by simp only[bW,hn]
     rw[i6 rfl,this];rfl
    rw[h1] at q;refine q A0 p G2 (F1.oH (M2.as ⟨rfl,rfl,rfl,rfl,rfl,rfl⟩) Y2 ((dS).trans c1) ((dS).trans c2) ((dS).trans c3) xM (fun b o e hb=>KM.Wl e (F1.far hb).1) TM rfl F1.ps) ((Fm.of N1).trans (Fm.ofK KM fun b hb=>?_));rw[show b=A0.md by simpa using hb];obtain⟨kv,e,_⟩:=M2.hm;exact⟨.inl aV.1,_,e⟩
   ·clear Wi RI;refine hR1 _ _ ?_;clear hR1 R1;have F1:=F.kp N1;have M1:=M0.kp N1;replace Wm:=N1.at Wm;replace e1:=N1.at e1;replace el:=N1.at el;replace hl:=hl.keep (fun _ _ _ e=>N1.at e);left
    exists Wm,t1,vl,el,e1,M1.hn,hv,Zl
    rw[show(wv w::r.map wv).tail=r.map wv from rfl];obtain⟨g1,g2,g3,g4⟩:=F1.s2 l hll;have fl:=F1.far (.inr (.inr (.inr hll)));have M2:=M1.other (vs:=r.map wv) Zl g1 g2;have Y9:=hl.set r hv F1.nl;have KM:Kp [A0.md,A0.nd,l] G1 (Wa G1 l (.lst (r.map wv))):=Kp.set 1e1;have TM:aE G1 (Wa G1 l (.lst (r.map wv))):=aE.cI Zl;replace Wm:=cL (u:=.lst (r.map wv)) Zl Wm;replace el:=cL (u:=.lst (r.map wv)) Zl el;replace e1:=TM _ _ e1;have elr:Wa G1 l (.lst (r.map wv)) l=some (.lst (r.map wv)):=aA;generalize Wa G1 l (.lst (r.map wv))=G2 at *
    exists Wm,t1,e1,M2.hn,fS
    refine⟨by omega,?_⟩;have M3:=M2.name x w;have TN:aE G2 (Wa G2 A0.nd (.dK 1e25)):=aE.cI M2.hn;have KN:Kp [A0.md,A0.nd,l] G2 (Wa G2 A0.nd (.dK 1e25)):=Kp.set 1e1;replace el:Wa G2 A0.nd (.dK 1e25) A0.ld=some (.dK lk):=by rw[aD F.n2.symm];exact el
    replace elr:=cL (u:=.dK 1e25) M2.hn elr;replace Y9:=Y9.keep (H':=Wa G2 A0.nd (.dK 1e25)) (fun a ha o e=>by rw[aD (F1.far (.inr (.inr (.inr ha)))).2.1];exact e);replace KM:=KM.trans KN;replace TM:=TM.trans TN;generalize Wa G2 A0.nd (.dK 1e25)=G3 at *;clear Wm WQ t1 t2 t3 t4 t5 t6 TN KN;have os3:=Xx;right;obtain⟨Y0,WS,XW,_⟩:=M3.hm;have vat:aX Y0 1e40=some (.int p):=(XW.2 _ 1e8).trans c2;obtain⟨y3,hy3⟩:=os3 "at" 1e8
    exists WS,vat
    refine⟨by omega,?_⟩;refine M3.six WS (k:="at") 1e8 hy3 os3 KM TM 1e1 (.int ((p:Int)+1)) fun G4 M4 os4 KM TM kp3 TS3 KS3=>?_;replace el:=KS3 _ _ el (by simp[F.n1.symm]);replace elr:=kp3 elr 1e7;replace Y9:=Y9.keep fun a ha o e=>KS3 a o e (by simp[(F1.far (.inr (.inr (.inr ha)))).1]);clear kp3 TS3 KS3 WS XW;have h1:one S (.Wg x k)=(({S with nm:=b8 S.nm x w,lt:=dF S.lt k r}:Pu).pass,[]):=by
     have:bW S (.Wg x k)=({S with nm:=b8 S.nm x w,lt:=dF S.lt k r},[]):=by simp only[bW,hn]
     rw[i6 rfl,this,if_pos (by rw[show(({S with nm:=b8 S.nm x w,lt:=dF S.lt k r}:Pu).sl)=S.sl from rfl,sn];rfl)]
    rw[h1] at q;have XH:=F1.ps.pass st;rw[IQ rfl] at XH;refine q A0 (p+1) G4 (F1.Pp (M4.as ⟨rfl,rfl,rfl,rfl,rfl,rfl⟩) os4 ((dS).trans c1) xM ((dS).trans c3) ?_ (fun b o e hb=>?_) TM ⟨lk,_,el,Y9,⟨by rw[nK];exact hun.1,by rw[mS];exact hun.2⟩,fun j=>?_⟩ XH F1.nl F1.s2) ((Fm.of N1).trans (Fm.ofK KM fun b hb=>?_))
    ·show dZ _ _ _ S.sl;rw[sn] at c4 ⊢;exact(dS).trans c4
    ·have WD:b=A0.cl\/b∈A0.cs\/b=A0.ld\/b∈A0.las:=hb.elim .inl (fun h=>.inr (.inl h));have hf:=F1.far WD;refine KM b o e ?_;simp only[List.mem_cons,List.not_mem_nil,or_false,not_or];refine⟨hf.1,hf.2.1,fun z=>?_⟩;subst z;rcases hb with hb|hb
     ·exact g3 hb
     ·exact g4 hb
    ·show _=(aS (dF S.lt k r) j).getD [];rw[wA hn,wA (by rw[hq k];exact hn),hq j]
    ·simp only[List.mem_cons,List.not_mem_nil,or_false] at hb;rcases hb with rfl|rfl|rfl
     ·obtain⟨kv,e,_⟩:=M4.hm;exact⟨.inl aV.1,_,e⟩
     ·exact⟨.inl aV.2.1,_,M4.hn⟩
     ·exact⟨.inl (by simp[Fa.mut,hll]),_,elr⟩
theorem pV:Ok T T.kX 1 GK:=by
 nomatch T.kX
 ·obtain⟨md,nd,od,dd,ot,S,x,rfl,_⟩:=h;rfl
 ·obtain⟨md,nd,od,dd,ot,S,x,rfl,M,b1,b2,b3,q⟩:=h
  nomatch (aH (ppt pv0 aC (bE cG 1e9 aB)) (pss3 (aM (dC 1e9 (bE i8 1e9 aB))) (ppt 1e9 pv1 (bE i8 1e9 aB)) (aJ (bE i8 1e9 aB)))),0
  obtain⟨kvs,em,lk,v1,v2,v3,v4,v5,v6⟩:=M.hm;left
  exists em,v4
  have M1:=M.made em;have K1:Kp [md,nd,od] H (Wa H md (.dK (aO kvs (.inr "made") (.int ((S.made:Int)+1))))):=Kp.set 1e1;refine⟨by omega,?_⟩;generalize Wa H md (.dK (aO kvs (.inr "made") (.int ((S.made:Int)+1))))=G1 at *;right;left;obtain⟨WK,Wn,Xw,x1,x2,x3,x4,x5,x6⟩:=M1.hm;have e4:((({S with made:=S.made+1}:Pu).made:Nat):Int) - 1=(S.made:Int):=by show((S.made+1:Nat):Int) - 1=_;omega
  exists Wn,x5,M1.ho,x4,e4
  refine⟨by rw[List.length_map];show S.pend.length < _;omega,?_⟩;have ea:S.pend.map V.int++[V.int (S.made:Int)]=(S.pend++[(S.made:Int)]).map V.int:=by simp
  rw[show({S with made:=S.made+1}:Pu).pend=S.pend from rfl,ea];have M2:=M1.open (pd:=S.pend++[(S.made:Int)]) (List.pairwise_append.mpr ⟨M.asc,by simp,fun i hi j hj=>by rw[show j=(S.made:Int) by simpa using hj];exact(M.lt i hi).2⟩) (fun i hi=>by
   rcases List.mem_append.mp hi with hi|hi
   ·have:=M.lt i hi;exact⟨this.1,by show i < ((S.made+1:Nat):Int);omega⟩
   ·rw[show i=(S.made:Int) by simpa using hi];exact⟨by omega,by show(S.made:Int) < ((S.made+1:Nat):Int);omega⟩) (fun p hp hi=>by
   have d:=M.dis p hp;rcases List.mem_append.mp hi with hi|hi
   ·exact d.1 hi
   ·have:p.1=(S.made:Int):=by simpa using hi
    omega)
  have K2:Kp [md,nd,od] H _:=K1.trans (Kp.set (p:=od) (o:=.lst ((S.pend++[(S.made:Int)]).map V.int)) 1e1);generalize Wa G1 od (.lst ((S.pend++[(S.made:Int)]).map V.int))=G2 at *;right;left;obtain⟨ZS,WN,lk2,y1,y2,y3,y4,y5,y6⟩:=M2.hm;have ep:aO (fA S.nm) (.inr x) (.int (S.made:Int))=fA (b8 S.nm x 1e55):=fS S.nm x 1e55;have l1:(fA S.nm).length<=100000:=by rw[fA,List.length_map];exact b3
  have Zb:G2 nd=some (.dK (fA S.nm)):=M2.hn
  exists WN,y1,y4,e4,Zb,ep
  refine⟨by omega,?_⟩;have M3:=M2.name x 1e55;have K3:Kp [md,nd,od] H _:=K2.trans (Kp.set (p:=nd) (o:=.dK (fA (b8 S.nm x 1e55))) 1e1);replace M3:cJ (Wa G2 nd (.dK (fA (b8 S.nm x 1e55)))) md nd od dd ot (S.rF x):=M3;generalize Wa G2 nd (.dK (fA (b8 S.nm x 1e55)))=G3 at *;right;obtain⟨Y0,WS,XW,z1,z2,z3,z4,z5,z6⟩:=M3.hm
  exists WS,z4
  rw[show(((S.rF x).made:Nat):Int) - 1=(S.made:Int) from by show((S.made+1:Nat):Int) - 1=_;omega];exact q G3 M3 K3
theorem zJ:Ok T T.mB 10 OX:=by
 nomatch T.mB
 ·obtain⟨md,nd,od,dd,op,ot,v,S,m,us,cs,rfl,_⟩:=h;rfl
 ·obtain⟨md,nd,od,dd,op,ot,v,S,m,us,cs,rfl,M,hs,WH,g,hP,b1,b2,b3,eo,hC,b4,Zs,Y1,q⟩:=h
  nomatch (pss3 (pst 3 1e4) (pst 4 (pcl (iZ T 6) T.eT (pa2 (pix aK pv1 (fK dM aB)) pv0))) (fL (ptc aU pv3 aC) (aG (ppt 1e9 1e4 pv4)) (aG (fL (ptc aU pv3 aC) (pss2 (pst 5 (aY (mY rfl) rfl T.IZ AS (pa2 (bE i7 aB aB) (bE cG 1e9 (aY (gW rfl) rfl T.BV oK (pa2 aB (BE pv4 (mM aB)))))))) (aM (dC pv2 (a9 (pa3 aC (pcl (pV T) T.kX (pa2 pv0 1e4)) pv5))))) (aG (fL (ptc aU pv3 aC) (aG (aM (dC pv2 (a9 (eJ aC (pa3 (pcl (iZ T 6) T.eT (pa2 1e4 pv0)) 1e4 pv4)))))) (aG (fL (ptc aU pv3 aC) (aG (pif (fU jS pv4 1e9 1e30) (pss2 (aM (pZ PySem.F.slot_list_remove PySem.F.type_list_remove KR 1e9 (pa1 pv4))) (aM (dC pv2 (a9 (pa2 aC pv4))))))) (aG (aM (dC pv2 (a9 (eJ pv3 (pa3 (pcl (pV T) T.kX (pa2 pv0 1e4)) 1e4 pv4)))))))))))))),0
  cases hs with
  | @set a x v s e1 h1 =>
   have i1:fI [V.str "set",.str x,v] (-1)=some v:=rfl;left
   exists e1
   right;left
   exists e1,i1
   refine⟨v,md,nd,od,dd,ot,S,s,rfl,h1,g.2,g.1,M,hP,fun H1 K1=>?_⟩;have M1:=M.kp K1;have e2:=K1.at e1;have Xa:=K1.at eo;have Yu:=hC.kt (aE.nil K1);have T1:=aE.nil K1;obtain⟨kvs,em,lk,v1,v2,v3,v4,v5,v6⟩:=M1.hm;right;have l1:(fA S.nm).length<=100000:=by rw[fA,List.length_map];exact b3
   exists em,v1,M1.hn,e2,fS
   refine⟨by omega,?_⟩;have M2:=M1.name x 1e19;have t2:aE H1 (Wa H1 nd (.dK (fA (b8 S.nm x 1e19)))):=aE.cI M1.hn;exact q _ us M2 (cL M1.hn Xa) (by show hZ _ us (cs++[]);rw[List.append_nil];exact Yu.kt t2) ((K1.mono 1e1).trans (Kp.set 1e1))
  | @order a x y v s e1 h1 =>
   have i1:fI [V.str "order",.str x,.str y,v] (-1)=some v:=rfl;left
   exists e1
   right;left
   exists e1,i1
   refine⟨v,md,nd,od,dd,ot,S,s,rfl,h1,g.2,g.1,M,hP,fun H1 K1=>?_⟩;have M1:=M.kp K1;have e2:=K1.at e1;have Xa:=K1.at eo;have Yu:=hC.kt (aE.nil K1);have T1:=aE.nil K1;obtain⟨kvs,em,lk,v1,v2,v3,v4,v5,v6⟩:=M1.hm;right
   exists e2,Xa
   refine⟨md,nd,od,dd,ot,S,x,rfl,M1,b1,b2,b3,fun H2 M2 K2=>?_⟩;have T2:aE H1 H2:=M1.tk K2 (fun a ha=>by simp only[List.mem_cons,List.not_mem_nil,or_false] at ha;rcases ha with rfl|rfl|rfl;exact .inl rfl;exact .inr 1e23;exact .inr (.inr 1e23));have Yt:=T2 _ _ e2;have Xn:=K2 _ _ Xa (M1.nop Xa Zs);have Zm:=Yu.kt T2;have KK:Kp [md,nd,od,op] H H2:=(K1.mono 1e1).trans (K2.mono 1e1)
   exists Yt,Xn
   refine fun p hp=>?_;generalize hg:Wa H2 p (.tup [.str "order",.int S.made,.str y,wv 1e19])=G3;have N3:Kp [] H2 G3:=hg▸Kp.new hp;have e3:G3 p=some (.tup [.str "order",.int S.made,.str y,wv 1e19]):=hg▸aA;clear hg;have Xi:=N3.at Xn;have M3:=M2.kp N3;have Xo:=Zm.kt (aE.nil N3);have K3:=KK.trans (N3.mono (T:=[md,nd,od,op]) 1e1)
   exists Xi
   refine⟨by omega,?_⟩;have t4:aE G3 (Wa G3 op (.lst (us++[.ref p]))):=aE.cI Xi;exact q _ _ (M3.other Xi Zs Y1) aA ((Xo.app (.cons e3 .nil)).kt t4) (K3.trans (Kp.set 1e1))
  | @child a x y v s e1 h1 =>
   have i1:fI [V.str "child",.str x,.str y,v] (-1)=some v:=rfl;left
   exists e1
   right;left
   exists e1,i1
   refine⟨v,md,nd,od,dd,ot,S,s,rfl,h1,g.2,g.1,M,hP,fun H1 K1=>?_⟩;have M1:=M.kp K1;have e2:=K1.at e1;have Xa:=K1.at eo;have Yu:=hC.kt (aE.nil K1);have T1:=aE.nil K1;obtain⟨kvs,em,lk,v1,v2,v3,v4,v5,v6⟩:=M1.hm;right
   exists e2,Xa
   refine⟨md,nd,od,dd,ot,S,x,rfl,M1,b1,b2,b3,fun H2 M2 K2=>?_⟩;have T2:aE H1 H2:=M1.tk K2 (fun a ha=>by simp only[List.mem_cons,List.not_mem_nil,or_false] at ha;rcases ha with rfl|rfl|rfl;exact .inl rfl;exact .inr 1e23;exact .inr (.inr 1e23));have Yt:=T2 _ _ e2;have Xn:=K2 _ _ Xa (M1.nop Xa Zs);have Zm:=Yu.kt T2;have KK:Kp [md,nd,od,op] H H2:=(K1.mono 1e1).trans (K2.mono 1e1)
   exists Yt,Xn
   refine fun p hp=>?_;generalize hg:Wa H2 p (.tup [.str "child",.int S.made,.str y,wv 1e19])=G3;have N3:Kp [] H2 G3:=hg▸Kp.new hp;have e3:G3 p=some (.tup [.str "child",.int S.made,.str y,wv 1e19]):=hg▸aA;clear hg;have Xi:=N3.at Xn;have M3:=M2.kp N3;have Xo:=Zm.kt (aE.nil N3);have K3:=KK.trans (N3.mono (T:=[md,nd,od,op]) 1e1)
   exists Xi
   refine⟨by omega,?_⟩;have t4:aE G3 (Wa G3 op (.lst (us++[.ref p]))):=aE.cI Xi;exact q _ _ (M3.other Xi Zs Y1) aA ((Xo.app (.cons e3 .nil)).kt t4) (K3.trans (Kp.set 1e1))
  | @Wp a x v s e1 h1 =>
   have i1:fI [V.str "timer",.str x,v] (-1)=some v:=rfl;left
   exists e1
   right;left
   exists e1,i1
   refine⟨v,md,nd,od,dd,ot,S,s,rfl,h1,g.2,g.1,M,hP,fun H1 K1=>?_⟩;have M1:=M.kp K1;have e2:=K1.at e1;have Xa:=K1.at eo;have Yu:=hC.kt (aE.nil K1);have T1:=aE.nil K1;obtain⟨kvs,em,lk,v1,v2,v3,v4,v5,v6⟩:=M1.hm;right
   exists e2,Xa,em,v3,PR
   refine⟨md,nd,od,dd,ot,S,x,rfl,M1,b1,b2,b3,fun H2 M2 K2=>?_⟩;have T2:aE H1 H2:=M1.tk K2 (fun a ha=>by simp only[List.mem_cons,List.not_mem_nil,or_false] at ha;rcases ha with rfl|rfl|rfl;exact .inl rfl;exact .inr 1e23;exact .inr (.inr 1e23));have Yt:=T2 _ _ e2;have Xn:=K2 _ _ Xa (M1.nop Xa Zs);have Zm:=Yu.kt T2;have KK:Kp [md,nd,od,op] H H2:=(K1.mono 1e1).trans (K2.mono 1e1)
   exists Yt,Xn
   refine fun p hp=>?_;generalize hg:Wa H2 p (.tup [.str "timer",.int S.made,.int (vK S.nw 1e19)])=G3;have N3:Kp [] H2 G3:=hg▸Kp.new hp;have e3:G3 p=some (.tup [.str "timer",.int S.made,.int (vK S.nw 1e19)]):=hg▸aA;clear hg;have Xi:=N3.at Xn;have M3:=M2.kp N3;have Xo:=Zm.kt (aE.nil N3);have K3:=KK.trans (N3.mono (T:=[md,nd,od,op]) 1e1)
   exists Xi
   refine⟨by omega,?_⟩;have t4:aE G3 (Wa G3 op (.lst (us++[.ref p]))):=aE.cI Xi;exact q _ _ (M3.other Xi Zs Y1) aA ((Xo.app (.cons e3 .nil)).kt t4) (K3.trans (Kp.set 1e1))
  | @send a k v u s r e1 h1 h2 =>
   have i1:fI [V.str "send",v,.str k,u] (-1)=some u:=rfl;left
   exists e1
   right;left
   exists e1,i1
   refine⟨u,md,nd,od,dd,ot,S,r,rfl,h2,g.2.2,g.2.1,M,hP,fun H1 K1=>?_⟩;have M1:=M.kp K1;have e2:=K1.at e1;have Xa:=K1.at eo;have Yu:=hC.kt (aE.nil K1);have T1:=aE.nil K1;obtain⟨kvs,em,lk,v1,v2,v3,v4,v5,v6⟩:=M1.hm;right
   exists e2,Xa
   refine⟨v,md,nd,od,dd,ot,S,s,rfl,h1.kp T1,g.1.2,g.1.1,M1,hP,fun H2 K2=>?_⟩;have M2:=M1.kp K2;have Yt:=K2.at e2;have Xn:=K2.at Xa;have Zm:=Yu.kt (aE.nil K2);have KK:Kp [md,nd,od,op] H H2:=(K1.trans K2).mono 1e1
   exists Yt,Xn
   refine fun p hp=>?_;generalize hg:Wa H2 p (.tup [.str "send",wv 1e19,.str k,wv (S.worth r)])=G3;have N3:Kp [] H2 G3:=hg▸Kp.new hp;have e3:G3 p=some (.tup [.str "send",wv 1e19,.str k,wv (S.worth r)]):=hg▸aA;clear hg;have Xi:=N3.at Xn;have M3:=M2.kp N3;have Xo:=Zm.kt (aE.nil N3);have K3:=KK.trans (N3.mono (T:=[md,nd,od,op]) 1e1)
   exists Xi
   refine⟨by omega,?_⟩;have t4:aE G3 (Wa G3 op (.lst (us++[.ref p]))):=aE.cI Xi;exact q _ _ (M3.other Xi Zs Y1) aA ((Xo.app (.cons e3 .nil)).kt t4) (K3.trans (Kp.set 1e1))
  | @drop a v s e1 h1 =>
   have i1:fI [V.str "drop",v] (-1)=some v:=rfl;left
   exists e1
   right;left
   exists e1,i1
   refine⟨v,md,nd,od,dd,ot,S,s,rfl,h1,g.2,g.1,M,hP,fun H1 K1=>?_⟩;have M1:=M.kp K1;have e2:=K1.at e1;have Xa:=K1.at eo;have Yu:=hC.kt (aE.nil K1);have T1:=aE.nil K1;obtain⟨kvs,em,lk,v1,v2,v3,v4,v5,v6⟩:=M1.hm;right
   exists em,v5,M1.ho,TC
   refine⟨uI _,m7 _,?_⟩;have KK:Kp [md,nd,od,op] H H1:=K1.mono 1e1;by_cases hp:∃ i,i∈S.pend/\S.worth s=some i
   ·rw[if_pos hp];obtain⟨i,hi,hw⟩:=hp;have hwv:wv 1e19=.int i:=by rw[hw];rfl
    have hd:bW S (.drop s)=({S with pend:=S.pend.filter fun j=>decide (j≠i)},[[.str "drop",.int i]]):=by simp only[bW,hw,if_pos hi]
    rw[hd] at q;obtain⟨k,hk⟩:=Gy hi;have ef:=kQ M.asc hk;rw[hwv];wp_walk;refine⟨S.pend,M1.ho,?_⟩
    exists hk
    rw[ef];have M2:=M1.open (pd:=S.pend.filter fun j=>decide (j≠i)) (M.asc.filter _) (fun j hj=>M.lt j ((List.mem_filter.mp hj).1)) (fun p hp hj=>(M.dis p hp).1 ((List.mem_filter.mp hj).1));have T2:aE H1 (Wa H1 od (.lst 1e45)):=aE.cI M1.ho;have Xn:Wa H1 od (.lst 1e45) op=some (.lst us):=by rw[aD Zs];exact Xa
    have Zm:=Yu.kt T2;have K2:Kp [md,nd,od,op] H (Wa H1 od (.lst 1e45)):=KK.trans (Kp.set 1e1);generalize Wa H1 od (.lst 1e45)=G2 at *
    exists Xn,hwv
    refine fun p hp=>?_;generalize hg:Wa G2 p (.tup [.str "drop",.int i])=G3;have N3:Kp [] G2 G3:=hg▸Kp.new hp;have e3:G3 p=some (.tup [.str "drop",.int i]):=hg▸aA;clear hg;have Xi:=N3.at Xn;have M3:=M2.kp N3;have Xo:=Zm.kt (aE.nil N3);have K3:=K2.trans (N3.mono (T:=[md,nd,od,op]) 1e1)
    exists Xi
    refine⟨by omega,?_⟩;have t4:aE G3 (Wa G3 op (.lst (us++[.ref p]))):=aE.cI Xi;exact q _ _ (M3.other Xi Zs Y1) aA ((Xo.app (.cons e3 .nil)).kt t4) (K3.trans (Kp.set 1e1))
   ·rw[if_neg hp];have hd:bW S (.drop s)=(S,[]):=by
     cases hw:S.worth s with
     | none=>simp only[bW,hw]
     | some i=>simp only[bW,hw,if_neg (show ¬ i∈S.pend from fun z=>hp ⟨i,z,hw⟩)]
    rw[hd] at q;wp_walk;exact q _ us M1 Xa (by show hZ _ us (cs++[]);rw[List.append_nil];exact Yu) KK
  | _=>cases WH
theorem CW:Ok T T.Bf 14 OV:=by
 nomatch T.Bf
 ·obtain⟨P0,A0,S,p,op,N,rfl,_⟩:=h;rfl
 ·obtain⟨P0,A0,S,p,op,N,rfl,F,O,FT,lN,q⟩:=h
  nomatch (pss3 (pst 2 aB) (ppt pv0 aC aC) (qA PassesOwn.never (ptc aU 1e9 aC) (aH (pif (ptc aU 1e9 (aY b9 rfl T.jU eC (pa1 1e9))) (pss2 (aM (pcl (sL T) T.m8 (pa3 pv0 cD pv1))) uF)) (aH (lF (pix aK 1e9 1e9) (Ls rfl (eW (pgn 3) (eW (pgn 4) (eW (pgn 5) (eW (pgn 6) uE)))))) (aH (pif (ptc aU pv3 aC) (pss2 (ppt pv0 aC pv6) C8)) (pss3 (pif (ptc aU pv2 aB) (aH (ppt pv0 aC aC) (pss3 (ppt pv0 aC (aR bQ)) (aM (dC pv1 (a9 (pa1 aC)))) uF))) (pst 2 (bE cG pv2 aB)) (fL (fU jS pv3 (aR (pa2 aC aC)) 1e30) (aG (ppt pv0 aC (pix aK (aR (pa2 pv6 (bE cG 1e9 aB))) (cA gB rfl T.zQ lW (pa1 (pcr C2 (BE (pcl (iZ T 6) T.eT (pa2 (pix aK pv4 aB) pv0)) (mM aB)) aB)))))) (aG (fL (ptc aU pv3 aC) (aG (aM (pcl (Bz T) T.oR (pa2 pv0 pv4)))) (aG (fL (ptc aU pv3 aC) (aG (aM (pcl (By T) T.oQ (pa2 pv0 pv4)))) (aG (fL (ptc aU pv3 aC) (aG (aM (pcl (sL T) T.m8 (pa3 pv0 (pcl (iZ T 6) T.eT (pa2 (pix aK pv4 aB) pv0)) pv1)))) (pss2 (aM (pcl (zJ T) T.mB (pa3 pv0 pv4 pv1))) (ppt pv0 aC (bE cG 1e9 aB)))))))))))))))),0
  left;wp_walk;right;obtain⟨ot,M0,Xx,c1,c2,c3,c4⟩:=F.ex;have KM:Kp [A0.md] H H:=Kp.refl;have TM:aE H H:=fun _ _ e=>e;obtain⟨Wt,Wm,WQ,_⟩:=M0.hm;obtain⟨y0,hy0⟩:=Xx "mode" 1e8;left
  exists Wm
  refine⟨by omega,?_⟩;refine M0.six Wm (k:="mode") 1e8 hy0 Xx KM TM 1e1 (.str "on") fun G1 M1 Ym KM TM kp0 Z4 KS0=>?_;clear kp0 Z4 KS0 Wm WQ;right;obtain⟨S0,hS0⟩:∃ S0:Pu,S0={S with sl:=.Wb}:=⟨_,rfl⟩;rw[<- hS0] at q FT;have F1:bM P0 G1 A0 S0 p:=by
   rw[hS0];exact F.oH (M1.as ⟨rfl,rfl,rfl,rfl,rfl,rfl⟩) Ym ((dS).trans c1) ((dS).trans c2) ((dS).trans c3) xM (fun b o e hb=>KM.Wl e (F.far hb).1) TM rfl F.ps
  have O1:gJ G1 A0 op []:=by
   obtain⟨us,eo,hC,s1,s2,s3⟩:=O;exact⟨us,KM.Wl eo (fun z=>s1 (z▸aV.1)),hC.kt TM,s1,s2,s3⟩
  have W1:Fm [op] A0 A0 H G1:=Fm.ofK KM fun b hb=>by
   rw[show b=A0.md by simpa using hb];obtain⟨kv,e,_⟩:=M1.hm;exact⟨.inl aV.1,_,e⟩
  have sn0:S0.sl=.Wb:=by rw[hS0]
  clear hS0 F O M0 M1 Xx Ym c1 c2 c3 c4 KM TM;refine JE fun tb htb=>?_;obtain⟨Y,hY⟩:∃ Y:Nat->St->Hp->Prop,∀ m σ G,Y m σ G=E9 fun(w3 w4 w5 w6:Option V) (S1:Pu) (A1:Fa) (p1 i:Nat) (cs:Cmds)=>A7 (σ=[some (.ref A0.md),some (.ref op),some (.int (i:Int)),w3,w4,w5,w6]) (bM P0 G A1 S1 p1) (gJ G A1 op cs) (Fm [op] A0 A1 H G) (i<=300) (cs.length<=i) ((S1.sl=.Wb/\dH 300 S0=((dH (300 - i) S1).1,cs++(dH (300 - i) S1).2)/\Wk true S1.bC (N+i)/\m=(301 - i) * 1000+S1.stk.length\/S1.sl.isN=false/\dH 300 S0=(S1,cs)/\m=0)):=⟨_,fun _ _ _=>rfl⟩;refine⟨Y,⟨_,(hY _ _ _).mpr ⟨none,none,none,none,S0,A0,p,0,[],rfl,F1,O1,W1,by omega,by simp,.inl ⟨sn0,by simp,FT.bC sn0,rfl⟩⟩⟩,?_⟩;intro m σ G hG;rw[hY] at hG;obtain⟨w3,w4,w5,w6,S1,A1,p1,i,cs,rfl,F1,O1,W1,hi,lc,hg⟩:=hG;obtain⟨ot,M1,Ym,c1,c2,c3,c4⟩:=F1.ex;obtain⟨WK,Wn,Xw,t1,t2,t3,t4,t5,t6⟩:=M1.hm;have XB:A1.md=A0.md:=W1.m1.1;rw[XB] at Wn;have vm:aX WK (.inr "mode")=some (.str S1.sl.md):=(Xw.2 _ 1e8).trans c4.md;have va:aX WK 1e40=some (.int p1):=(Xw.2 _ 1e8).trans c2;have vc:aX WK (.inr "code")=some (.ref A1.cl):=(Xw.2 _ 1e8).trans c1
  exists Wn,vm,TZ
  rcases hg with⟨sn,hg,Ya,rfl⟩|⟨sn,hg,rfl⟩
  ·rw[if_pos (by rw[sn];rfl)];refine⟨fun σ' G'=>∃ m',m' < (301 - i) * 1000+S1.stk.length/\Y m' σ' G',fun _ _ z=>z,?_⟩;refine htb _ _ _ ?_;clear htb tb;have lcl:(A1.cs.map V.ref).length=(iV P0).length:=by rw[List.length_map,F1.co.len]
   have Yd:=F1.cl;rcases Ps.turn _ S1.stk p1 rfl F1.ps with⟨ep,es,XH⟩|⟨m,es,XH⟩|⟨WB,p',pt,ec,XH,hcm,WG⟩
   ·skip;left;refine cN fun RI Wi=>?_
    exists Wn,va,vc,Yd,lcl,ep
    refine Wi _ _ ?_;clear Wi RI;left;wp_walk;refine⟨P0,A1,S1.bC,p1,none,op,cs,by rw[XB];rfl,F1.stk XH,O1,by omega,fun A' p2 G' F' O' W'=>?_⟩;wp_walk;right;wp_walk;refine q A' p2 G' ?_ ?_ (W1.trans W')
    ·rw[hg,j8 es];exact F'
    ·rw[hg,j8 es];exact O'
   ·obtain⟨pt,ec⟩:=XH.ent es;have pl:p1 < (iV P0).length:=(List.getElem?_eq_some_iff.mp ec).1;obtain⟨a,ea,pa,hpa,sv,XI,eA⟩:=F1.co.at ec;have ix:fI (A1.cs.map V.ref) (p1:Int)=some 1e11:=c0 (by rw[List.getElem?_map,ea];rfl);have pn:((p1:Int)=((iV P0).length:Int))=False:=by simp;omega
    have WN:=Wn;rw[<- XB] at WN;have sT:Wf S1.bC.stk=some m:=es;have nT:S1.bC.sl=.Wb:=sn;replace F1:bM P0 G A1 S1.bC p1:=F1.stk XH;have kj:((m.kw=("jump":Str)))=False:=by cases m<;>simp[Stm.kw,cH]
    have gm:=Ya.stm sT;left
    exists Wn,va,vc,Yd,lcl,pn
    right;left
    exists Wn,va,vc,Yd,ix
    refine⟨_,e9.of eA,rfl,?_⟩;wp_walk;right;left
    exists kj
    right;left;refine cN fun RI Wi=>?_;wp_walk;by_cases hi3:i=300
    ·rw[if_pos 1e0];refine Wi _ _ ?_;clear Wi RI;rw[<- XB];obtain⟨ot,M0,Xx,c1,c2,c3,c4⟩:=F1.ex;obtain⟨us,eo,hC,s1,s2,s3⟩:=O1;have lu:=hC.len;have F0:=F1;have e00:=eo;have KM:Kp [A1.md] G G:=Kp.refl;have TM:aE G G:=fun _ _ e=>e;obtain⟨Wt,Wm,WQ,_⟩:=M0.hm;obtain⟨y0,hy0⟩:=Xx "mode" 1e8;left
     exists Wm
     refine⟨by omega,?_⟩;refine M0.six Wm (k:="mode") 1e8 hy0 Xx KM TM 1e1 (.str "worn") fun GW1 M1 Ym KM TM kp0 Z4 KS0=>?_;replace eo:=kp0 eo 1e7;replace hC:=hC.kt Z4;clear kp0 Z4 KS0 Wm WQ;right;left;obtain⟨WK,Wn,Xw,_⟩:=M1.hm
     exists Wn
     refine fun o2 WM=>?_;generalize hg:Wa GW1 o2 1e10=GW1a;have N:Kp [] GW1 GW1a:=hg▸Kp.new WM;have Xn:GW1a o2=some 1e10:=hg▸aA;clear hg;have fo2:G o2=none:=by
      cases e:G o2 with
      | none=>rfl
      | some o =>
       by_cases z:o2=A1.md
       ·rw[z,Wn] at WM;cases WM
       ·rw[KM.Wl e z] at WM;cases WM
     have Y1:op≠o2:=aF eo WM;have nd2:o2≠A1.dd:=fun z=>by
      obtain⟨ds,ed,_⟩:=M1.hd;rw[z,ed] at WM;cases WM
     replace M1:=M1.kp N;replace Wn:=N.at Wn;replace eo:=N.at eo;replace hC:=hC.kt (aE.nil N);replace KM:=KM.trans (N.mono (T:=[A1.md]) 1e1);replace TM:=TM.trans (aE.nil N)
     exists Wn
     refine⟨by omega,?_⟩;have M2:=M1.opn Wn Xn nd2;have Zw:Kp [A1.md] GW1a (Wa GW1a A1.md (.dK (aO WK (.inr "open") (.ref o2)))):=Kp.jL;have Y5:aE GW1a (Wa GW1a A1.md (.dK (aO WK (.inr "open") (.ref o2)))):=aE.cI Wn;replace eo:=cL (u:=.dK (aO WK (.inr "open") (.ref o2))) Wn eo;replace hC:=hC.kt Y5;replace KM:=KM.trans Zw;replace TM:=TM.trans Y5;generalize Wa GW1a A1.md (.dK (aO WK (.inr "open") (.ref o2)))=GW2 at *;clear Zw Y5 Wn Xw N WM Xn;right;left
     exists eo
     refine fun pt YW=>?_;generalize hg:Wa GW2 pt (.tup [.str "worn"])=GW2b;have N:Kp [] GW2 GW2b:=hg▸Kp.new YW;have ept:GW2b pt=some (.tup [.str "worn"]):=hg▸aA;clear hg;replace M2:=M2.kp N;replace eo:=N.at eo;replace hC:=hC.kt (aE.nil N);replace KM:=KM.trans (N.mono (T:=[A1.md]) 1e1);replace TM:=TM.trans (aE.nil N)
     exists eo
     refine⟨by omega,?_⟩;have T4:aE GW2b (Wa GW2b op (.lst (us++[.ref pt]))):=aE.cI eo;have K4:Kp [op] GW2b (Wa GW2b op (.lst (us++[.ref pt]))):=Kp.jL;have hC4:=(hC.app (.cons ept .nil)).kt T4;right;have nod:op≠A1.dd:=fun z=>s1 (z▸aV.2.2.2.1);have nom:op≠A1.md:=fun z=>s1 (z▸aV.1);have M4:=M2.other (vs:=us++[.ref pt]) eo Y1 nod;have KF:Kp [A1.md,op] G (Wa GW2b op (.lst (us++[.ref pt]))):=fun b o e n=>K4.Wl (KM.Wl e (fun z=>n (by simp[z]))) (fun z=>n (by simp[z]));obtain⟨w1,w2,w3⟩:=F0.new fo2;wp_walk;have ge:dH 300 S0=(S1.bC.mW.1,cs++S1.bC.mW.2):=by rw[hg,show 300 - i=0 by omega,qX sT]
     rw[ge] at q;refine q _ p1 _ (F0.asm (S':=S1.bC.mW.1) (M4.as ⟨rfl,rfl,rfl,rfl,rfl,rfl⟩) Ym ?_ ?_ ?_ ?_ (fun b o e hb=>?_) (TM.trans T4) rfl F0.ps w1 w2) ⟨_,aA,hC4,Ub s1 Y1,s2,s3⟩ (W1.trans ((Fm.ofK KF fun b hb=>?_).od fo2))
     ·simp[cH,c1]
     ·simp[cH,c2]
     ·simp[cH,c3]
     ·show dZ _ _ _ Slp.worn;simp[dZ]
     ·obtain⟨a1,a2,a3,a4,a5⟩:=F0.FQ s1 s2 s3 hb;exact KF b o e (by simp[a1,a5])
     ·simp only[List.mem_cons,List.not_mem_nil,or_false] at hb;rcases hb with rfl|rfl
      ·obtain⟨kv,e,_⟩:=M4.hm;exact⟨.inl aV.1,_,e⟩
      ·exact⟨.inr 1e1,_,aA⟩
    rw[if_neg 1e0];clear Wi RI;right;left;wp_walk;right;have back:∀(w3 w4 w5 w6:Option V) (A':Fa) (p':Nat) (G':Hp),bM P0 G' A' (one S1.bC m).1 p'->gJ G' A' op (cs++(one S1.bC m).2)->Fm [op] A1 A' G G'->∃ m',m' < (301 - i) * 1000+S1.stk.length/\Y m' [some (.ref A0.md),some (.ref op),some (.int ((i:Int)+1)),w3,w4,w5,w6] G':=fun w3 w4 w5 w6 A' p' G' F' O' W'=>by
     have FX:=Ya.one sT nT 1e0;have Wq:=qV sT (299 - i);rw[show 299 - i+1=300 - i by omega] at Wq;have l1:=BB S1.bC m;have l2:=Oo FX.sk.dp;by_cases hn:(one S1.bC m).1.sl.isN=true
     ·rw[if_pos hn] at Wq;refine⟨(301 - (i+1)) * 1000+(one S1.bC m).1.stk.length,by omega,(hY _ _ _).mpr ⟨w3,w4,w5,w6,(one S1.bC m).1,A',p',i+1,cs++(one S1.bC m).2,rfl,F',O',W1.trans W',by omega,by rw[List.length_append];omega,.inl ⟨nB hn,?_,FX.bC (nB hn),rfl⟩⟩⟩;rw[hg,Wq,show 300 - (i+1)=299 - i by omega,List.append_assoc]
     ·rw[if_neg hn] at Wq;exact⟨0,by omega,(hY _ _ _).mpr ⟨w3,w4,w5,w6,(one S1.bC m).1,A',p',i+1,cs++(one S1.bC m).2,rfl,F',O',W1.trans W',by omega,by rw[List.length_append];omega,.inr ⟨by simpa using hn,by rw[hg,Wq],rfl⟩⟩⟩
    clear hY;refine cN fun RI Wi=>?_
    exists TR
    refine fun pq hpq=>⟨rfl,rfl,?_⟩;generalize hg:Wa G pq (.lst [.str "if",.str "while"])=G2;have NQ:Kp [] G G2:=hg▸Kp.new hpq;clear hg;replace F1:=F1.kp NQ;replace O1:=O1.kp NQ;replace XI:=XI.kp (aE.nil NQ);replace Wn:=NQ.at Wn;replace WN:=NQ.at WN;replace back:=fun w3 w4 w5 w6 A' p' G' F' O' W'=>back w3 w4 w5 w6 A' p' G' F' O' ((Fm.of NQ).trans W');have b1:=Ya.nm;have b2:=Ya.pd;have b3:=Ya.an;have b4:=Ya.md;split
    ·next hb =>
     refine Wi _ _ ?_;clear Wi RI;obtain⟨XJ,M2,Y2,d1,d2,d3,d4⟩:=F1.ex;cases XI with
     | @Wu a0 pb v s vs b e1 hv epb hbb =>
      obtain⟨gs,gb⟩:=gm;rw[show U0 (Mb p1 (Stm.Wu s b))=.int ((p1+bY b+2:Nat):Int) from rfl]
      exists Wn,va,e1
      refine fun pl hl=>?_;generalize hg:Wa G2 pl (.lst [.int ((p1+bY b+2:Nat):Int),.int ((p1:Int)+1)])=G3;have NL:Kp [] G2 G3:=hg▸Kp.new hl;have el:G3 pl=some (.lst [.int ((p1+bY b+2:Nat):Int),.int ((p1:Int)+1)]):=hg▸aA;clear hg;have Xs:=NL.at e1;have ZQ:=hv.kp (aE.nil NL);have M2':=M2.kp NL
      exists Xs
      refine⟨v,A1.md,A1.nd,A1.od,A1.dd,XJ,S1.bC,s,by rw[XB],ZQ,gs.2,gs.1,M2',Ya.pl,fun G4 K4=>?_⟩;have K5:=NL.trans K4;replace el:=K4.at el;have WT:=K5.at WN;have F5:=F1.kp K5;have O5:=O1.kp K5
      exists el
      by_cases hz:num (S1.bC.worth s)=0
      ·rw[if_neg (by simp[hz]),show fI [V.int ((p1+bY b+2:Nat):Int),.int ((p1:Int)+1)] 0=some (.int ((p1+bY b+2:Nat):Int)) from rfl];have hp0:Ps P0 (fZ S1.bC.stk) (p1+bY b+2):=by
        have:=F5.ps.pass sT;rw[Stm.sz] at this;rw[Nat.add_assoc];exact this
       have hpX:=hp0;have F6:=F5.setAt WT hpX;have O6:=O5.md WT (aO WK 1e40 (.int (((p1+bY b+2:Nat):Int):Int)));have W6:=(Fm.of (D:=[op]) (A:=A1) K5).trans (Fm.set (b:=A1.md) (o:=.dK (aO WK 1e40 (.int (((p1+bY b+2:Nat):Int):Int)))) (.inl aV.1));rw[XB] at WT F6 O6 W6
       exists WT
       exact⟨by omega,back _ _ _ _ A1 _ _ (by rw[t9,if_pos hz];exact F6) (by rw[t9,if_pos hz,List.append_nil];exact O6) W6⟩
      ·rw[if_pos (by simp[hz]),show fI [V.int ((p1+bY b+2:Nat):Int),.int ((p1:Int)+1)] 1=some (.int ((p1:Int)+1)) from rfl];have hpX:=F5.ps.Wu sT;have F6:=F5.setAt WT hpX;have O6:=O5.md WT (aO WK 1e40 (.int (((p1+1:Nat):Int):Int)));have W6:=(Fm.of (D:=[op]) (A:=A1) K5).trans (Fm.set (b:=A1.md) (o:=.dK (aO WK 1e40 (.int (((p1+1:Nat):Int):Int)))) (.inl aV.1));rw[XB] at WT F6 O6 W6
       exists WT
       exact⟨by omega,back _ _ _ _ A1 _ _ (by rw[t9,if_neg hz];exact F6) (by rw[t9,if_neg hz,List.append_nil];exact O6) W6⟩
     | @iff a0 pb qb v s vs us' b o e1 hv epb hbb eqb hob =>
      obtain⟨gs,gb,go⟩:=gm;rw[show U0 (Mb p1 (Stm.iff s b o))=.int ((p1+bY b+2:Nat):Int) from rfl]
      exists Wn,va,e1
      refine fun pl hl=>?_;generalize hg:Wa G2 pl (.lst [.int ((p1+bY b+2:Nat):Int),.int ((p1:Int)+1)])=G3;have NL:Kp [] G2 G3:=hg▸Kp.new hl;have el:G3 pl=some (.lst [.int ((p1+bY b+2:Nat):Int),.int ((p1:Int)+1)]):=hg▸aA;clear hg;have Xs:=NL.at e1;have ZQ:=hv.kp (aE.nil NL);have M2':=M2.kp NL
      exists Xs
      refine⟨v,A1.md,A1.nd,A1.od,A1.dd,XJ,S1.bC,s,by rw[XB],ZQ,gs.2,gs.1,M2',Ya.pl,fun G4 K4=>?_⟩;have K5:=NL.trans K4;replace el:=K4.at el;have WT:=K5.at WN;have F5:=F1.kp K5;have O5:=O1.kp K5
      exists el
      by_cases hz:num (S1.bC.worth s)=0
      ·rw[if_neg (by simp[hz]),show fI [V.int ((p1+bY b+2:Nat):Int),.int ((p1:Int)+1)] 0=some (.int ((p1+bY b+2:Nat):Int)) from rfl];have hpX:=F5.ps.if1 sT;have F6:=F5.setAt WT hpX;have O6:=O5.md WT (aO WK 1e40 (.int (((p1+bY b+2:Nat):Int):Int)));have W6:=(Fm.of (D:=[op]) (A:=A1) K5).trans (Fm.set (b:=A1.md) (o:=.dK (aO WK 1e40 (.int (((p1+bY b+2:Nat):Int):Int)))) (.inl aV.1));rw[XB] at WT F6 O6 W6
       exists WT
       exact⟨by omega,back _ _ _ _ A1 _ _ (by rw[t8,if_pos hz];exact F6) (by rw[t8,if_pos hz,List.append_nil];exact O6) W6⟩
      ·rw[if_pos (by simp[hz]),show fI [V.int ((p1+bY b+2:Nat):Int),.int ((p1:Int)+1)] 1=some (.int ((p1:Int)+1)) from rfl];have hpX:=F5.ps.if0 sT;have F6:=F5.setAt WT hpX;have O6:=O5.md WT (aO WK 1e40 (.int (((p1+1:Nat):Int):Int)));have W6:=(Fm.of (D:=[op]) (A:=A1) K5).trans (Fm.set (b:=A1.md) (o:=.dK (aO WK 1e40 (.int (((p1+1:Nat):Int):Int)))) (.inl aV.1));rw[XB] at WT F6 O6 W6
       exists WT
       exact⟨by omega,back _ _ _ _ A1 _ _ (by rw[t8,if_neg hz];exact F6) (by rw[t8,if_neg hz,List.append_nil];exact O6) W6⟩
     | _=>cases hb
    ·next hb =>
     clear Wi RI;split
     ·next hw =>
      rw[TV] at hw;exact⟨P0,A1,S1.bC,p1,sv,m,by rw[XB],F1,nT,XI,hw,gm,sT,Ya.pl,by omega,by omega,by omega,fun A' p' G' F' W'=>back _ _ _ _ A' p' G' F' (by rw[OQ (.inl hw),List.append_nil];exact O1.fm F1 W') (W'.mono 1e1)⟩
     ·next hw =>
      rw[TV] at hw;split
      ·next hh =>
       rw[TQ] at hh;exact⟨P0,A1,S1.bC,p1,sv,m,by rw[XB],F1,nT,XI,hh,gm,sT,Ya.pl,by omega,by omega,by omega,fun A' p' G' F' W'=>back _ _ _ _ A' p' G' F' (by rw[OQ (.inr hh),List.append_nil];exact O1.fm F1 W') (W'.mono 1e1)⟩
      ·next hh =>
       rw[TQ] at hh;split
       ·next he =>
        rw[TK] at he;obtain⟨s0,rfl⟩:=he;cases XI with
        | @fin a0 v s e1 h1 =>
         obtain⟨XJ,M2,_⟩:=F1.ex
         exists e1
         refine⟨v,A1.md,A1.nd,A1.od,A1.dd,XJ,S1.bC,s0,by rw[XB],h1,gm.2,gm.1,M2,Ya.pl,fun G3 K3=>?_⟩;wp_walk;refine⟨P0,A1,S1.bC,p1,S1.bC.worth s0,op,cs,by rw[XB],F1.kp K3,O1.kp K3,by omega,fun A' p' G' F' O' W'=>?_⟩;wp_walk;exact back _ _ _ _ A' p' G' (by rw[Gm];exact F') (by rw[Gm];exact O') ((Fm.of K3).trans W')
       ·next he =>
        rw[TK] at he;have WH:=Ug hb hw hh he;obtain⟨XJ,M2,Y2,d1,d2,d3,d4⟩:=F1.ex;obtain⟨us,eo,hC,s1,s2,s3⟩:=O1;refine⟨A1.md,A1.nd,A1.od,A1.dd,op,XJ,sv,S1.bC,m,us,cs,by rw[XB],M2,XI,WH,Kg WH gm,Ya.pl,by omega,by omega,by omega,eo,hC,by rw[hC.len];omega,fun z=>s1 (z▸aV.2.2.1),fun z=>s1 (z▸aV.2.2.2.1),fun G3 Yq M3 Xi Xo K3=>?_⟩;obtain⟨dp1,dp2,dp3,dp4⟩:=FI (S:=S1.bC) WH;have T3:aE G2 G3:=M2.tk K3 (fun a ha=>by
         simp only[List.mem_cons,List.not_mem_nil,or_false] at ha;rcases ha with rfl|rfl|rfl|rfl
         ·exact .inl rfl
         ·exact .inr 1e23
         ·exact .inr (.inr 1e23)
         ·exact .inr (.inr (.inr ⟨_,eo⟩)))
        have F3:bM P0 G3 A1 (bW S1.bC m).1 p1:=F1.oH M3 Y2 d1 d2 d3 (by
         rw[dp1,nT];rw[nT] at d4;exact d4) (fun b o e hb=>by
         obtain⟨a1,a2,a3,a4,a5⟩:=F1.FQ s1 s2 s3 hb;exact K3 b o e (by simp[a1,a2,a3,a5])) T3 dp2 (by rw[l7];exact F1.ps)
        have W3:Fm [op] A1 A1 G2 G3:=Fm.ofK K3 fun b hb=>by
         simp only[List.mem_cons,List.not_mem_nil,or_false] at hb;rcases hb with rfl|rfl|rfl|rfl
         ·obtain⟨kv,e,_⟩:=M3.hm;exact⟨.inl aV.1,_,e⟩
         ·exact⟨.inl aV.2.1,_,M3.hn⟩
         ·exact⟨.inl aV.2.2.1,_,M3.ho⟩
         ·exact⟨.inr 1e1,_,Xi⟩
        have O3:gJ G3 A1 op (cs++(bW S1.bC m).2):=⟨Yq,Xi,Xo,s1,s2,s3⟩;obtain⟨Y0,WS,XW,_⟩:=M3.hm;have va3:aX Y0 1e40=some (.int p1):=(XW.2 _ 1e8).trans d2;have ZM:Ps P0 (fZ (bW S1.bC m).1.stk) (p1+1):=by
         have:=F1.ps.pass sT;rw[IQ (by simpa using hb)] at this;rw[l7];exact this
        have F4:=F3.setAt WS ZM;have O4:=O3.md WS (aO Y0 1e40 (.int ((p1+1:Nat):Int)));have W4:=W3.trans (Fm.set (b:=A1.md) (o:=.dK (aO Y0 1e40 (.int ((p1+1:Nat):Int)))) (.inl aV.1));rw[XB] at WS F4 O4 W4
        exists WS,va3
        exact⟨by omega,back _ _ _ _ A1 (p1+1) _ (by rw[Li WH nT];exact F4) (by rw[Li WH nT];exact O4) W4⟩
   ·have pl:p1 < (iV P0).length:=(List.getElem?_eq_some_iff.mp ec).1;obtain⟨a,ea,pa,hpa,eA⟩:=F1.co.at ec;have ix:fI (A1.cs.map V.ref) (p1:Int)=some 1e11:=c0 (by rw[List.getElem?_map,ea];rfl);have pn:((p1:Int)=((iV P0).length:Int))=False:=by simp;omega
    left
    exists Wn,va,vc,Yd,lcl,pn
    right;left
    exists Wn,va,vc,Yd,ix
    refine⟨_,e9.of eA,rfl,?_⟩;wp_walk;right;left;refine cN fun RI Wi=>?_;wp_walk;refine Wi _ _ ?_;clear Wi RI
    exists Wn
    have WN:=Wn;rw[<- XB] at WN;have F2:=F1.setAt WN XH;have O2:=O1.md WN (aO WK 1e40 (.int (p':Int)));have W2:=W1.trans (Fm.set (b:=A1.md) (o:=.dK (aO WK 1e40 (.int (p':Int)))) (.inl aV.1));rw[XB] at F2 O2 W2;have ecm:({S1 with stk:=WB}:Pu).bC=S1.bC:=by simp only[Pu.bC,hcm]
    exact⟨by omega,_,by show(301 - i) * 1000+WB.length < _;omega,(hY _ _ _).mpr ⟨_,_,_,_,{S1 with stk:=WB},A1,p',i,cs,rfl,F2,O2,W2,hi,lc,.inl ⟨sn,by rw[Ki hcm];exact hg,by rw[ecm];exact Ya,rfl⟩⟩⟩
  ·rw[if_neg (by rw[sn];simp)];wp_walk;refine q A1 p1 G (by rw[hg];exact F1) (by rw[hg];exact O1) W1
theorem kG:Ok T T.gM 15 LI:=by
 nomatch T.gM
 ·obtain⟨P0,A0,S,p,w,op,N,rfl,_⟩:=h;rfl
 ·obtain⟨P0,A0,S,p,w,op,N,rfl,F,O,FT,lN,hw,Ws,q⟩:=h
  nomatch (pss3 (ppt 1e9 (pix aK (pix aK (pix aK 1e9 1e9) aB) aB) pv1) (ppt pv0 aC (bE cG 1e9 aB)) (aM (pcl (CW T) T.Bf (pa2 pv0 pv2)))),0
  obtain⟨x,m,Wq,hB,hnm,hwk⟩:=Ow FT Ws;rw[hwk] at q;obtain⟨ot,M0,Xx,c1,c2,c3,c4⟩:=F.ex;obtain⟨Wt,Wm,WQ,t1,_⟩:=M0.hm;have va:aX Wt 1e40=some (.int p):=(WQ.2 _ 1e8).trans c2;have vc:aX Wt (.inr "code")=some (.ref A0.cl):=(WQ.2 _ 1e8).trans c1;obtain⟨pt,ec⟩:=F.ps.ent Wq;obtain⟨a,ea,pa,hpa,sv,XI,eA⟩:=F.co.at ec;have ix:fI (A0.cs.map V.ref) (p:Int)=some 1e11:=c0 (by rw[List.getElem?_map,ea];rfl);have Yd:=F.cl;obtain⟨a0,kw,xs0,rfl,e0⟩:=hnm H _ XI;have l1:(fA S.nm).length<=N:=by rw[fA,List.length_map];exact FT.nm
  left
  exists Wm,t1,va,vc,Yd,ix,eA,e0,M0.hn,fS
  refine⟨by omega,?_⟩;have F1:=F.Uq x w;have O1:=O.nd F 1e25;have W1:=Fm.set (D:=[op]) (A:=A0) (H:=H) (b:=A0.nd) (o:=.dK 1e25) (.inl aV.2.1);replace Wm:Wa H A0.nd (.dK 1e25) A0.md=some (.dK Wt):=by rw[aD M0.n1];exact Wm
  generalize Wa H A0.nd (.dK 1e25)=G1 at *;right;refine bX fun R2 XE=>?_
  exists Wm,va
  refine⟨by omega,?_⟩;have XH:Ps P0 (fZ S.stk) (p+1):=by
   have:=F1.ps.pass (show Wf ({S with nm:=b8 S.nm x w}:Pu).stk=some m from Wq);rw[IQ hB] at this;exact this
  have F2:=F1.setAt Wm XH;have O2:=O1.md Wm (aO Wt 1e40 (.int ((p+1:Nat):Int)));have W2:=W1.trans (Fm.set (b:=A0.md) (o:=.dK (aO Wt 1e40 (.int ((p+1:Nat):Int)))) (.inl aV.1));show R2 _ (Wa G1 A0.md (.dK (aO Wt 1e40 (.int ((p+1:Nat):Int)))));generalize Wa G1 A0.md (.dK (aO Wt 1e40 (.int ((p+1:Nat):Int))))=G2 at *;refine XE _ _ ?_;clear XE;clear R2;wp_walk;exact⟨P0,A0,_,p+1,op,N+1,rfl,F2,O2,FT.wake Wq hw x,by omega,fun A' p' G' F' O' W'=>q A' p' G' F' O' (W2.trans W')⟩
theorem sM:Ok T T.m9 16 Dr:=by
 nomatch T.m9
 ·obtain⟨P0,A0,S,p,v,h,N,rfl,_⟩:=h;rfl
 ·obtain⟨P0,A0,S,p,v,h,N,rfl,F,hH,hf,FT,lN,hn,sd,hnk,q⟩:=h;have hu:=nU hr
  nomatch (aH (pst 2 (aR bQ)) (pss3 (lF (Lr VO pv1 NM (lE aB)) (Lu rfl (eW (pgn 3) (eW (pgn 4) uE)))) (fL (PW.pt (eY (ptc aU 1e9 aC) (eE (ptc aU pv3 aC)))) (pss3 (ppt pv0 aC pv4) (ppt pv0 aC 1e4) (aM (pcl (CW T) T.Bf (pa2 pv0 pv2)))) (aG (fL (PW.pt (eY (ptc aU pv3 aC) (eE (fU jS 1e4 1e9 1e30)))) (aH (ppt pv0 aC (aY (gW rfl) rfl T.BV oK (pa2 1e9 pv4))) (pss3 (aM (pZ PySem.F.slot_list_remove PySem.F.type_list_remove KR 1e9 (pa1 1e4))) (aM (dC 1e9 (a9 (pa2 1e4 1e4)))) (pif (PW.pt (eY (ptc aU 1e9 aC) (eE (fU jS 1e4 1e9 1e30)))) (aG (aM (pcl (kG T) T.gM (pa3 pv0 1e4 pv2))))))) (aG (pif (PW.pt (eY (ptc aU pv3 aC) (eE (fU jS 1e9 (aR (pa2 aC aC)) 1e30)))) (pss3 (ppt pv0 aC (aY (gW rfl) rfl T.BV oK (pa2 1e9 pv4))) (ppt 1e9 1e4 (bE cG (rO hu 1e9 1e4 (aR bQ) ⟨rfl,rfl,rfl,rfl⟩) (aR (pa1 1e4)))) (pif (PW.pt (eY (ptc aU 1e9 aC) (eE (ptc aU (pix aK (pix aK (pix aK 1e9 1e9) aB) aB) 1e4)))) (aG (aM (pcl (kG T) T.gM (pa3 pv0 (pZ PySem.F.slot_list_pop PySem.F.type_list_pop Bv (pdg 1e9 1e4) (pa1 aB)) pv2))))))))))) (aJ pv2))),0
  obtain⟨ha,rfl,eh⟩:=hH;left;wp_walk;refine fun op ZL=>?_;have N1:=q0D (o:=.lst []) ZL;have eo:Wa H op 1e10 op=some 1e10:=aA;obtain⟨w1,w2,w3⟩:=F.new ZL;replace F:=F.kp N1;replace eh:=N1.at eh;have O1:gJ (Wa H op 1e10) A0 op []:=⟨[],eo,.nil,w3,w1.1,w1.2⟩;have Ye:∀(A':Fa) (p':Nat) (G':Hp),bM P0 G' A' (S.take h).1 p'->gJ G' A' op (S.take h).2->Fm [op] A0 {A' with nk:=A0.nk} (Wa H op 1e10) G'->A'.nk<=A0.nk+1->Q (.ref op) G':=fun A' p' G' F' ⟨us,e1,e2,e3,_⟩ W' hk=>q A' p' op us G' F' ZL e1 e2 e3 ⟨fun b o e h1 _=>W'.kp b o (N1.at e) h1 (by simp only[List.mem_cons,List.not_mem_nil,or_false];exact aF e ZL),fun b o e=>W'.st b o (N1.at e),fun b hb=>(W'.nw b hb).elim .inl (fun z=>.inr (N1.cB z)),W'.m1,W'.nk,W'.na.elim .inl (fun z=>.inr ⟨N1.cB z.1,z.2⟩)⟩ hk;clear q;generalize Wa H op 1e10=G1 at *;obtain⟨ot,M0,Xx,c1,c2,c3,c4⟩:=F.ex;obtain⟨Wt,Wm,WQ,t1,t2,t3,t4,t5,t6⟩:=M0.hm;have va:aX Wt 1e40=some (.int p):=(WQ.2 _ 1e8).trans c2;have vc:aX Wt (.inr "code")=some (.ref A0.cl):=(WQ.2 _ 1e8).trans c1;have vm:aX Wt (.inr "mode")=some (.str S.sl.md):=(WQ.2 _ 1e8).trans c4.md;have vl:aX Wt (.inr "letters")=some (.ref A0.ld):=(WQ.2 _ 1e8).trans c3;right;cases h with
  | WR m w =>
   have fin:∀(A':Fa) (p':Nat) (G':Hp),bM P0 G' A' (S.take (.WR m w)).1 p'->gJ G' A' op (S.take (.WR m w)).2->Fm [op] A0 A' G1 G'->Q (.ref op) G':=fun A' p' G' F' O' W'=>Ye A' p' G' F' O' W'.eta (by rw[W'.nk];omega);clear Ye;replace eh:G1 ha=some (.tup [.str "begin",.int m,wv w]):=eh;left
   exists eh
   refine⟨by decide,fun pt YW=>?_⟩;have ect:qO [.str "begin",.int m,wv w] none (some 2)=[.str "begin",.int m]:=rfl;rw[ect];refine⟨_,g9.of aA,rfl,?_⟩;have N2:=q0D (o:=.tup [.str "begin",.int m]) YW;replace F:=F.kp N2;replace O1:=O1.kp N2;replace eh:=N2.at eh;replace Wm:=N2.at Wm;replace M0:=M0.kp N2;replace c4:=c4.keep (H':=Wa G1 pt (.tup [.str "begin",.int m])) fun b o e _=>N2.at e;replace fin:=fun A' p' G' F' O' W'=>fin A' p' G' F' O' ((Fm.of N2).trans W');generalize Wa G1 pt (.tup [.str "begin",.int m])=G2 at *;wp_walk;right;left;refine cN fun RI Wi=>?_
   exists Wm,vm,EA
   split
   ·next Xj =>
    rw[EA] at Xj;refine Wi _ _ ?_;clear Wi RI;left
    exists Wm
    refine⟨by omega,?_⟩;have F1:=F.LC Wm m;replace O1:=O1.put (u:=.dK (aO Wt (.inr "now") (.int m))) Wm aV.1 1e3;have WX:=Fm.set (D:=[op]) (A:=A0) (H:=G2) (b:=A0.md) (o:=.dK (aO Wt (.inr "now") (.int m))) (.inl aV.1);have TX:aE G2 (Wa G2 A0.md (.dK (aO Wt (.inr "now") (.int m)))):=aE.cI Wm;replace eh:=TX _ _ eh;replace fin:=fun A' p' G' F' O' W'=>fin A' p' G' F' O' (WX.trans W');generalize Wa G2 A0.md (.dK (aO Wt (.inr "now") (.int m)))=G3 at *;clear WX TX;right;obtain⟨_,M1,_⟩:=F1.ex;obtain⟨WK,Wn,Xw,_⟩:=M1.hm;left
    exists Wn,eh
    refine⟨by omega,?_⟩;have F2:=F1.Uo Wn w;have O2:=O1.put (u:=.dK (aO WK (.inr "arg") (wv w))) Wn aV.1 1e3;have W2:=Fm.set (D:=[op]) (A:=A0) (H:=G3) (b:=A0.md) (o:=.dK (aO WK (.inr "arg") (wv w))) (.inl aV.1);replace fin:=fun A' p' G' F' O' W'=>fin A' p' G' F' O' (W2.trans W');generalize Wa G3 A0.md (.dK (aO WK (.inr "arg") (wv w)))=G4 at *;right;wp_walk;have et:S.take (.WR m w)=dH 300 {S with nw:=m,ar:=w,sl:=.Wb}:=by
     have:later S.nw m=m:=by
      rw[(sd.nw Xj).1];unfold later;have:=hf.1.1;split
      ·rfl
      ·show(0:Int)=m;have h1:0<=m:=this;omega
     simp only[Pu.take,Pu.over,Xj,Bool.false_eq_true,if_false,this]
    refine⟨P0,A0,_,p,op,N,rfl,F2,O2,{FT with pl:=⟨FT.pl.nm,hf.2,FT.pl.an⟩,nw:=hf.1,sl:=⟨1e41,1e41⟩},by omega,fun A' p' G' F' O' W'=>?_⟩;wp_walk;right;wp_walk;exact fin A' p' G' (by rw[et];exact F') (by rw[et];exact O') W'
   ·next Xj =>
    rw[EA] at Xj;clear Wi RI;right;wp_walk;have et:S.take (.WR m w)=(S,[]):=by
     have:S.over (.WR m w)=true:=by
      unfold Pu.over;cases hs:S.sl with
      | new=>exact absurd hs Xj
      | _=>rfl
     simp only[Pu.take,this,if_true]
    exact fin A0 p G2 (by rw[et];exact F) (by rw[et];exact O1) Fm.refl
  | don m i w =>
   have fin:∀(A':Fa) (p':Nat) (G':Hp),bM P0 G' A' (S.take (.don m i w)).1 p'->gJ G' A' op (S.take (.don m i w)).2->Fm [op] A0 A' G1 G'->Q (.ref op) G':=fun A' p' G' F' O' W'=>Ye A' p' G' F' O' W'.eta (by rw[W'.nk];omega);clear Ye;replace eh:G1 ha=some (.tup [.str "done",.int m,.int i,wv w]):=eh;left
   exists eh
   refine⟨by decide,fun pt YW=>?_⟩;have ect:qO [.str "done",.int m,.int i,wv w] none (some 2)=[.str "done",.int m]:=rfl;rw[ect];refine⟨_,g9.of aA,rfl,?_⟩;have N2:=q0D (o:=.tup [.str "done",.int m]) YW;replace F:=F.kp N2;replace O1:=O1.kp N2;replace eh:=N2.at eh;replace Wm:=N2.at Wm;replace M0:=M0.kp N2;replace c4:=c4.keep (H':=Wa G1 pt (.tup [.str "done",.int m])) fun b o e _=>N2.at e;replace fin:=fun A' p' G' F' O' W'=>fin A' p' G' F' O' ((Fm.of N2).trans W');generalize Wa G1 pt (.tup [.str "done",.int m])=G2 at *;wp_walk;right;left;refine cN fun RI Wi=>?_;refine qP fun RE Xp=>?_
   exists Wm,vm
   rw[ite_self];refine Xp _ _ ?_;clear Xp RE Wi RI;refine cN fun RI Wi=>?_
   exists Wm,t5,M0.ho,tW,eh
   refine⟨rfl,m7 _,?_⟩;split
   ·next hi =>
    refine Wi _ _ ?_;clear Wi RI;left
    exists Wm,t3,eh
    refine⟨by omega,?_⟩;have F1:bM P0 (Wa G2 A0.md (.dK 1e24)) A0 (S.at' m) p:=F.LC Wm _;replace O1:=O1.put (u:=.dK 1e24) Wm aV.1 1e3;have WX:=Fm.set (D:=[op]) (A:=A0) (H:=G2) (b:=A0.md) (o:=.dK 1e24) (.inl aV.1);have TX:aE G2 (Wa G2 A0.md (.dK 1e24)):=aE.cI Wm;replace eh:=TX _ _ eh;replace fin:=fun A' p' G' F' O' W'=>fin A' p' G' F' O' (WX.trans W');generalize Wa G2 A0.md (.dK 1e24)=G3 at *;clear WX TX M0 Wm t1 t2 t3 t4 t5 t6 c4;right;obtain⟨xt,M1,xos,xc,xc2,ZY,x4⟩:=F1.ex;obtain⟨WK,Wn,Xw,u1,u2,u3,u4,u5,u6⟩:=M1.hm;have Zv:(∃ ts,S.sl=.wait ts)\/∃ k,S.sl=.Wg k:=by
     cases hs:S.sl with
     | wait ts=>exact .inl ⟨ts,rfl⟩
     | Wg k=>exact .inr ⟨k,rfl⟩
     | Wb=>rw[hs] at hn;cases hn
     | new=>rw[(sd.nw hs).2] at hi;simp at hi
     | ended w'=>rw[sd.en w' hs] at hi;simp at hi
     | worn=>rw[sd.wo hs] at hi;simp at hi
    have et:S.take (.don m i w)=(S.at' m).fH i w:=by
     have:S.over (.don m i w)=false:=by
      unfold Pu.over;rcases Zv with⟨ts,hs⟩|⟨k,hs⟩<;>simp[hs,hi]
     simp only[Pu.take,this,Bool.false_eq_true,if_false]
    rw[et] at fin;obtain⟨k0,hk⟩:=Gy hi;have ef:S.pend.eraseIdx k0=S.pend.filter fun j=>decide (j≠i):=kQ M1.asc hk;left
    exists Wn,u5,M1.ho,eh
    refine⟨S.pend,rfl,?_⟩
    exists hk
    rw[ef];have F2:=F1.Ur (pd:=S.pend.filter fun j=>decide (j≠i)) (M1.asc.filter _) (fun j hj=>M1.lt j ((List.mem_filter.mp hj).1)) (fun q hq hj=>(M1.dis q hq).1 ((List.mem_filter.mp hj).1));have lti:i < (S.made:Int):=(M1.lt i hi).2;have nai:i∉S.ans.map (·.1):=fun z=>by
     obtain⟨q,hq,e⟩:=List.mem_map.mp z;exact(M1.dis q hq).1 (by rw[e];exact hi)
    have gei:=(M1.lt i hi).1;replace O1:=O1.put (u:=.lst 1e45) M1.ho aV.2.2.1 1e3;have WX:=Fm.set (D:=[op]) (A:=A0) (H:=G3) (b:=A0.od) (o:=.lst 1e45) (.inl aV.2.2.1);have TX:aE G3 (Wa G3 A0.od (.lst 1e45)):=aE.cI M1.ho;replace eh:=TX _ _ eh;replace fin:=fun A' p' G' F' O' W'=>fin A' p' G' F' O' (WX.trans W');generalize Wa G3 A0.od (.lst 1e45)=G4 at *;clear WX TX F1 M1 Wn Xw u3 u5 u6 x4 xos xc;right;obtain⟨xt,M2,xos,xc1,xc2,ZY,x4⟩:=F2.ex;obtain⟨ZS,WN,lk2,u1,u2,u3,u4,u5,u6⟩:=M2.hm;obtain⟨ds,ed,YS⟩:=M2.hd;have lds:=YS.len;left
    exists WN,u6,eh,ed
    refine fun pt YW=>?_;generalize hg:Wa G4 pt (.tup [.int i,wv w])=G5;have N3:Kp [] G4 G5:=hg▸Kp.new YW;have ept:G5 pt=some (.tup [.int i,wv w]):=hg▸aA;clear hg;replace F2:=F2.kp N3;replace O1:=O1.kp N3;replace ed:=N3.at ed;replace eh:=N3.at eh;replace fin:=fun A' p' G' F' O' W'=>fin A' p' G' F' O' ((Fm.of N3).trans W')
    exists ed
    refine⟨by have:=FT.an;have:ds.length=S.ans.length:=lds;omega,?_⟩;have F3:bM P0 (Wa G5 A0.dd (.lst (ds++[.ref pt]))) A0 ((S.at' m).done i w) p:=F2.Pm ed ept nai (by show i∉S.pend.filter _;simp) lti;replace O1:=O1.put (u:=.lst (ds++[.ref pt])) ed aV.2.2.2.1 1e3;have WX:=Fm.set (D:=[op]) (A:=A0) (H:=G5) (b:=A0.dd) (o:=.lst (ds++[.ref pt])) (.inl aV.2.2.2.1);have TX:aE G5 (Wa G5 A0.dd (.lst (ds++[.ref pt]))):=aE.cI ed;replace eh:=TX _ _ eh;replace fin:=fun A' p' G' F' O' W'=>fin A' p' G' F' O' (WX.trans W');generalize Wa G5 A0.dd (.lst (ds++[.ref pt]))=G6 at *;clear WX TX F2 M2 WN lk2 u1 u2 u3 u4 u5 u6 x4 xos xc1 xc2 ZY ed YS N3 ept;right;obtain⟨xt,M3,xos,xc1,xc2,ZY,x4⟩:=F3.ex;obtain⟨Y0,WS,XW,_⟩:=M3.hm;have vm3:aX Y0 (.inr "mode")=some (.str S.sl.md):=(XW.2 _ 1e8).trans x4.md;have FD:=(FT.at' hf.1).done (i:=i) hf.2;rcases Zv with⟨ts,hs⟩|⟨k,hs⟩
    ·have x5:dZ G6 A0 xt (.wait ts):=by
      have:=x4;rw[show((S.at' m).done i w).sl=S.sl from rfl,hs] at this;exact this
     obtain⟨_,va3,ea,_⟩:=x5;have va4:aX Y0 (.inr "awaited")=some (.ref A0.aw):=(XW.2 _ 1e8).trans va3;rw[hs] at vm3;have etd:(S.at' m).fH i w=if i∈ts then ((S.at' m).done i w).wake (some i) else ((S.at' m).done i w,[]):=by simp only[Pu.fH,show(S.at' m).sl=S.sl from rfl,hs]
     rw[etd] at fin;refine cN fun RI Wi=>?_
     exists WS,vm3,Slp.md,va4,ea,tW,eh
     refine⟨rfl,m7 _,?_⟩;split
     ·next ht =>
      refine Wi _ _ ?_;clear Wi RI;rw[if_pos ht] at fin
      exists eh
      refine⟨P0,A0,(S.at' m).done i w,p,some i,op,N+1,rfl,F3,O1,FD,by omega,eU 1e0 (by have:=FT.md;omega),.inr ⟨ts,hs⟩,fun A' p' G' F' O' W'=>?_⟩;wp_walk;right;wp_walk;exact fin A' p' G' F' O' W'
     ·next ht =>
      clear Wi RI;rw[if_neg ht] at fin;right;wp_walk;exact fin A0 p G6 F3 O1 Fm.refl
    ·rw[hs] at vm3;have etd:(S.at' m).fH i w=((S.at' m).done i w,[]):=by simp only[Pu.fH,show(S.at' m).sl=S.sl from rfl,hs]
     rw[etd] at fin;refine cN fun RI Wi=>?_
     exists WS,vm3,Slp.md
     clear Wi RI;right;wp_walk;exact fin A0 p G6 F3 O1 Fm.refl
   ·next hi =>
    clear Wi RI;wp_walk;right;wp_walk;have et:S.take (.don m i w)=(S,[]):=by
     have:S.over (.don m i w)=true:=by
      unfold Pu.over;cases hs:S.sl with
      | new=>rfl
      | ended _=>rfl
      | worn=>rfl
      | _=>simp[hi]
     simp only[Pu.take,this,if_true]
    exact fin A0 p G2 (by rw[et];exact F) (by rw[et];exact O1) Fm.refl
  | ltr m k w =>
   have fin:=Ye;clear Ye;replace eh:G1 ha=some (.tup [.str "letter",.int m,.str k,wv w]):=eh;left
   exists eh
   refine⟨by decide,fun pt YW=>?_⟩;have ect:qO [.str "letter",.int m,.str k,wv w] none (some 2)=[.str "letter",.int m]:=rfl;rw[ect];refine⟨_,g9.of aA,rfl,?_⟩;have N2:=q0D (o:=.tup [.str "letter",.int m]) YW;replace F:=F.kp N2;replace O1:=O1.kp N2;replace eh:=N2.at eh;replace Wm:=N2.at Wm;replace M0:=M0.kp N2;replace c4:=c4.keep (H':=Wa G1 pt (.tup [.str "letter",.int m])) fun b o e _=>N2.at e;replace fin:=fun A' p' G' F' O' W'=>fin A' p' G' F' O' ((Fm.of N2).trans W');generalize Wa G1 pt (.tup [.str "letter",.int m])=G2 at *;wp_walk;right;left;refine cN fun RI Wi=>?_;refine qP fun RE Xp=>?_
   exists Wm,vm
   rw[ite_self];refine Xp _ _ ?_;clear Xp RE Wi RI;refine cN fun RI Wi=>?_;refine qP fun RE Xp=>?_;wp_walk;refine Xp _ _ ?_;clear Xp RE Wi RI;refine cN fun RI Wi=>?_
   exists Wm,vm,T9
   refine fun pq hpq=>⟨rfl,rfl,?_⟩;have NQ:=q0D (o:=.lst [.str "wait",.str "hear"]) hpq;replace F:=F.kp NQ;replace O1:=O1.kp NQ;replace eh:=NQ.at eh;replace Wm:=NQ.at Wm;replace M0:=M0.kp NQ;replace c4:=c4.keep (H':=Wa G2 pq (.lst [.str "wait",.str "hear"])) fun b o e _=>NQ.at e;replace fin:=fun A' p' G' F' O' W'=>fin A' p' G' F' O' ((Fm.of NQ).trans W');generalize Wa G2 pq (.lst [.str "wait",.str "hear"])=G2a at *;split
   ·next hw =>
    refine Wi _ _ ?_;clear Wi RI;left
    exists Wm,t3,eh
    refine⟨by omega,?_⟩;have F1:bM P0 (Wa G2a A0.md (.dK 1e24)) A0 (S.at' m) p:=F.LC Wm _;replace O1:=O1.put (u:=.dK 1e24) Wm aV.1 1e3;have WX:=Fm.set (D:=[op]) (A:=A0) (H:=G2a) (b:=A0.md) (o:=.dK 1e24) (.inl aV.1);have TX:aE G2a (Wa G2a A0.md (.dK 1e24)):=aE.cI Wm;replace eh:=TX _ _ eh;replace fin:=fun A' p' G' F' O' W'=>fin A' p' G' F' O' (WX.trans W');generalize Wa G2a A0.md (.dK 1e24)=G3 at *;clear WX TX M0 Wm t1 t2 t3 t4 t5 t6 c4;right;obtain⟨xt,M1,xos,xc,xc2,ZY,x4⟩:=F1.ex;obtain⟨WK,Wn,Xw,u1,u2,u3,u4,u5,u6⟩:=M1.hm;have Zv:=UX hw;have et:S.take (.ltr m k w)=(S.at' m).eZ k w:=by
     have:S.over (.ltr m k w)=false:=by
      unfold Pu.over;rcases Zv with⟨ts,hs⟩|⟨k,hs⟩<;>simp[hs]
     simp only[Pu.take,this,Bool.false_eq_true,if_false]
    rw[et] at fin;obtain⟨lk,ml,el,hl,hun,hq⟩:=F1.lt;have vl1:aX WK (.inr "letters")=some (.ref A0.ld):=(Xw.2 _ 1e8).trans ZY;left
    exists Wn,vl1,eh,el
    refine fun p1 h1=>?_;have N1:=q0D (o:=.lst []) h1;have e0:Wa G3 p1 1e10 p1=some 1e10:=aA;have hl':=hl.keep (fun _ _ _ e=>N1.at e);obtain⟨l,ws,hv,Yv,Xq⟩:∃ l ws,(aX lk (.inr k)).getD (.ref p1)=.ref l/\Wa G3 p1 1e10 l=some 1e38/\(aS S.lt k).getD []=ws:=by
     rcases hl'.look k with⟨z1,z2⟩|⟨l,ws,z1,z2,z3,z4⟩
     ·exact⟨p1,[],by rw[z1];rfl,e0,by rw[<- show(aS ml k).getD []=(aS S.lt k).getD [] from hq k,z2];rfl⟩
     ·exact⟨l,ws,by rw[z1];rfl,z4,by rw[<- show(aS ml k).getD []=(aS S.lt k).getD [] from hq k,z2];rfl⟩
    replace el:=N1.at el;replace eh:=N1.at eh;replace Wn:=N1.at Wn;generalize Wa G3 p1 1e10=G4 at *;have lws:ws.length<=N:=by
     cases e:aS S.lt k with
     | none=>rw[e] at Xq;rw[<- Xq];simp
     | some v=>rw[e] at Xq;have:=(FT.lw k v e).1;rw[<- Xq];exact this
    exists el,hv,eh,Yv
    refine fun p2 h2=>?_;generalize hg:Wa G4 p2 (.lst [wv w])=G5;have N2:Kp [] G4 G5:=hg▸Kp.new h2;have e2:G5 p2=some (.lst [wv w]):=hg▸aA;clear hg;replace el:=N2.at el;replace eh:=N2.at eh;replace Wn:=N2.at Wn;replace Yv:=N2.at Yv
    exists Yv,e2
    refine⟨by rw[List.length_map];omega,fun l2 h2'=>?_⟩;rw[show ws.map wv++[wv w]=(ws++[w]).map wv by simp];have K5:Kp [] G3 G5:=N1.trans N2;obtain⟨n1,n2,n3⟩:=(F1.kp K5).new h2';have NL:=q0D (o:=.lst ((ws++[w]).map wv)) h2';have e3:Wa G5 l2 (.lst ((ws++[w]).map wv)) l2=some (.lst ((ws++[w]).map wv)):=aA;have nol:op≠l2:=by
     obtain⟨us,e,_⟩:=O1;exact aF (K5.at e) h2'
    have f3:G3 l2=none:=K5.cB h2';have KX:=K5.trans NL;replace O1:=O1.kp KX;replace M1:=M1.kp KX;replace hl:=hl.keep (fun _ _ _ e=>KX.at e);replace el:=NL.at el;replace eh:=NL.at eh;replace Wn:=NL.at Wn;generalize Wa G5 l2 (.lst ((ws++[w]).map wv))=G6 at *;have F6:=F1.kp KX;have nl2:l2∉A0.las:=fun z=>n2 l2 z rfl;obtain⟨Xg,ml',a1,a2,a3,a4,a5,a6,a7⟩:=hl.VG (k:=k) e3 hun.1 F1.nl nl2;have lml:lk.length=ml.length:=hl.len;have lm2:ml'.length<=A0.nk+1:=by
     rw[<- a1.len];have:=NW (kvs:=lk) (k:=.inr k) (x:=.ref l2);have:=hun.2;omega
    exists Wn,vl1,eh,el
    refine⟨by have:=hun.2;omega,?_⟩;have TL:aE G6 (Wa G6 A0.ld 1e27):=aE.cI el;have e7:Wa G6 A0.ld 1e27 A0.ld=some 1e27:=aA;have KE:∀ b o,G6 b=some o->b≠A0.ld->Wa G6 A0.ld 1e27 b=some o:=fun b o e n=>by rw[aD n];exact e
    have nld:l2≠A0.ld:=cP e3 el 1e7;replace O1:=O1.put (u:=.dK (aO lk (.inr k) (.ref l2))) el aV.2.2.2.2 1e3;replace eh:=TL _ _ eh;replace e3:=KE _ _ e3 nld;replace a1:=a1.keep (H':=Wa G6 A0.ld 1e27) (fun a ha o e=>KE a o e (by
     obtain⟨xs,ex⟩:=a1.ex a ha;exact cP ex el 1e7))
    have M7:cJ (Wa G6 A0.ld 1e27) A0.md A0.nd A0.od A0.dd xt (S.at' m):=M1.OM (fun a o e h=>KE a o e (by
     obtain⟨ds,ed,_⟩:=M1.hd;rcases h with rfl|rfl|rfl|rfl
     ·exact F1.n1
     ·exact F1.n2
     ·exact cP M1.ho el 1e7
     ·exact cP ed el 1e7)) TL
    have em7:=KE _ _ Wn F1.n1;have K7:∀ b o,G3 b=some o->b≠A0.ld->Wa G6 A0.ld 1e27 b=some o:=fun b o e n=>KE b o (KX.at e) n;have aaL:∀ a∈Xg,a∈A0.las\/G3 a=none:=fun a ha=>(a4 a ha).elim (fun z=>.inr (z▸f3)) .inl;have s22:∀ a∈Xg,a≠A0.od/\a≠A0.dd/\a≠A0.cl/\a∉A0.cs:=fun a ha=>by
     rcases a4 a ha with rfl|z
     ·obtain⟨ds,ed,_⟩:=(F1.ex.choose_spec).1.hd;exact⟨fun z=>n3 (z▸aV.2.2.1),fun z=>n3 (z▸aV.2.2.2.1),n1.1,n1.2⟩
     ·exact F1.s2 a z
    have T7:aE G3 (Wa G6 A0.ld 1e27):=(aE.nil KX).trans TL;have c7:=x4.las (H':=Wa G6 A0.ld 1e27) (las:=Xg) (n:=A0.nk+1) aaL (fun b o e h=>K7 b o e (fun z=>h (z▸aV.2.2.2.2)));have nop:op∉Xg:=fun z=>by
     obtain⟨us,e,_,s,_⟩:=O1;rcases a4 op z with y|y
     ·exact nol y
     ·exact s (by simp[Fa.mut,y])
    have O7:gJ (Wa G6 A0.ld 1e27) {A0 with las:=Xg,nk:=A0.nk+1} op []:=by
     obtain⟨us,e,hc,s,s2,s3⟩:=O1;exact⟨us,e,hc,fun z=>(Gg z).elim s nop,s2,s3⟩
    have W7:Fm [op] A0 {A0 with las:=Xg,nk:=A0.nk} G3 (Wa G6 A0.ld 1e27):=⟨fun b o e h1 _=>K7 b o e (fun z=>h1 (z▸aV.2.2.2.2)),fun b o e=>by
     by_cases z:b=A0.ld
     ·exact⟨_,by rw[z];exact e7⟩
     ·exact⟨o,K7 b o e z⟩,fun b hb=>(Gg hb).elim .inl (fun z=>(aaL b z).elim (fun y=>.inl (by simp[Fa.mut,y])) .inr),⟨rfl,rfl,rfl⟩,rfl,.inl rfl⟩
    generalize Wa G6 A0.ld 1e27=G7 at *;have aaM:∀ j,(aS ml' j).getD []=if j=k then ws++[w] else (aS S.lt j).getD []:=fun j=>by
     rw[a7 j];split
     ·rfl
     ·exact hq j
    clear KE TL el NL N1 N2 K5 e2 Yv;right;obtain⟨kv7,Z9,lk7,_⟩:=M7.hm;have vm7:aX kv7 (.inr "mode")=some (.str S.sl.md):=(lk7.2 _ 1e8).trans x4.md;have F2:bM P0 G7 {A0 with las:=Xg,nk:=A0.nk+1} {S.at' m with lt:=iC S.lt k w} p:=F1.Pp (M7.as ⟨rfl,rfl,rfl,rfl,rfl,rfl⟩) xos xc xc2 ZY c7 (fun b o e hb=>K7 b o e (fun z=>by
     have:=F1.far (hb.elim .inl (fun h=>.inr (.inl h)):b=A0.cl\/b∈A0.cs\/b=A0.ld\/b∈A0.las);rcases hb with hb|hb
     ·obtain⟨XW,_,Y6,_⟩:=F1.lt;have c:=F1.cl;rw[<- hb,z,Y6] at c;cases c
     ·obtain⟨xs,ex⟩:=F1.co.there b hb;obtain⟨XW,_,Y6,_⟩:=F1.lt;rw[z,Y6] at ex;cases ex)) T7 ⟨_,ml',e7,a1,⟨a2,lm2⟩,fun j=>by
      rw[aaM j];show _=(aS (iC S.lt k w) j).getD [];rw[wO,Xq]⟩ F1.ps a3 s22
    rcases Zv with⟨k',hs⟩|⟨ts,hs⟩
    ·rw[hs] at vm7;obtain⟨x,Wq⟩:=FT.sl.1 k' hs;obtain⟨pt,ec⟩:=F2.ps.ent (show Wf S.stk=some (.Wg x k') from Wq);obtain⟨a,ea,pa,hpa,sv,XI,eA⟩:=F2.co.at ec;cases XI with
     | @Wg a0 x k' e1 =>
      have ix:fI (A0.cs.map V.ref) (p:Int)=some 1e11:=c0 (by rw[List.getElem?_map,show A0.cs[p]?=some a from ea];rfl);have Yd:G7 A0.cl=some (.lst (A0.cs.map V.ref)):=F2.cl;have va7:aX kv7 1e40=some (.int p):=(lk7.2 _ 1e8).trans xc2;have vc7:aX kv7 (.inr "code")=some (.ref A0.cl):=(lk7.2 _ 1e8).trans xc;have vl7:aX kv7 (.inr "letters")=some (.ref A0.ld):=(lk7.2 _ 1e8).trans ZY;refine cN fun RI Wi=>?_
      exists Z9,vm7,Slp.md,va7,vc7,Yd,ix,eA,e1,eh
      split
      ·next hk =>
       subst hk;refine Wi _ _ ?_;clear Wi RI;have hw0:ws=[]:=by rw[<- Xq];exact sd.he _ hs
       subst hw0;have Yt:G7 l2=some (.lst [wv w]):=e3;have etl:(S.at' m).eZ k' w=(S.at' m).wake w:=by simp only[Pu.eZ,show(S.at' m).sl=S.sl from rfl,hs,if_true]
       rw[etl] at fin
       exists Z9,vl7,eh,e7,a6,Yt
       rw[show[wv w].tail=([]:List Wo).map wv from rfl];have abD:=s22 l2 a5;have M8:=M7.other (vs:=([]:List Wo).map wv) Yt abD.1 abD.2.1;have a8:=a1.set ([]:List Wo) a6 a3;have T8:aE G7 (Wa G7 l2 (.lst (([]:List Wo).map wv))):=aE.cI Yt;have K8:∀ b o,G3 b=some o->b≠A0.ld->Wa G7 l2 (.lst (([]:List Wo).map wv)) b=some o:=fun b o e n=>by rw[aD (aF e f3)];exact K7 b o e n
       have e8:Wa G7 l2 (.lst (([]:List Wo).map wv)) A0.ld=some (.dK (aO lk (.inr k') (.ref l2))):=by rw[aD nld.symm];exact e7
       have c8:=x4.las (H':=Wa G7 l2 (.lst (([]:List Wo).map wv))) (las:=Xg) (n:=A0.nk+1) aaL (fun b o e h=>K8 b o e (fun z=>h (z▸aV.2.2.2.2)));have O8:gJ (Wa G7 l2 (.lst (([]:List Wo).map wv))) {A0 with las:=Xg,nk:=A0.nk+1} op []:=O7.put Yt (by simp[Fa.mut,a5]) 1e3;have W8:=W7.trans (Fm.set (b:=l2) (o:=.lst (([]:List Wo).map wv)) (.inl (by simp[Fa.mut,a5])));have F3:bM P0 (Wa G7 l2 (.lst (([]:List Wo).map wv))) {A0 with las:=Xg,nk:=A0.nk+1} (S.at' m) p:=F1.Pp (M8.as ⟨rfl,rfl,rfl,rfl,rfl,rfl⟩) xos xc xc2 ZY c8 (fun b o e hb=>K8 b o e (fun z=>by
        obtain⟨XW,_,Y6,_⟩:=F1.lt;rcases hb with hb|hb
        ·have c:=F1.cl;rw[<- hb,z,Y6] at c;cases c
        ·obtain⟨xs,ex⟩:=F1.co.there b hb;rw[z,Y6] at ex;cases ex)) (T7.trans T8) ⟨_,_,e8,a8,⟨by rw[nK];exact a2,by rw[mS];exact lm2⟩,fun j=>by
         rw[wA (w:=w) (r':=[]) (by rw[aaM k',if_pos rfl];rfl)];show _=(aS S.lt j).getD [];split
         ·next z=>rw[z,Xq]
         ·next z=>rw[aaM j,if_neg z]⟩ F1.ps a3 s22
       generalize Wa G7 l2 (.lst (([]:List Wo).map wv))=G8 at *;refine⟨P0,{A0 with las:=Xg,nk:=A0.nk+1},S.at' m,p,w,op,N,rfl,F3,O8,FT.at' hf.1,by omega,hf.2,.inl ⟨k',hs⟩,fun A' p' G' F' O' W'=>?_⟩;wp_walk;right;wp_walk;exact fin A' p' G' F' O' (W8.trans (W'.to A0.nk)) (by rw[W'.nk];exact Nat.le_refl _)
      ·next hk =>
       clear Wi RI;have etl:(S.at' m).eZ k w=({S.at' m with lt:=iC S.lt k w},[]):=by simp only[Pu.eZ,show(S.at' m).sl=S.sl from rfl,hs,if_neg hk];rfl
       rw[etl] at fin;right;wp_walk;exact fin _ p G7 F2 O7 W7 1e5
    ·rw[hs] at vm7;have etl:(S.at' m).eZ k w=({S.at' m with lt:=iC S.lt k w},[]):=by simp only[Pu.eZ,show(S.at' m).sl=S.sl from rfl,hs];rfl
     rw[etl] at fin;refine cN fun RI Wi=>?_
     exists Z9,vm7,Slp.md
     clear Wi RI;right;wp_walk;exact fin _ p G7 F2 O7 W7 1e5
   ·next hw =>
    clear Wi RI;right;wp_walk;have et:S.take (.ltr m k w)=(S,[]):=by
     have:S.over (.ltr m k w)=true:=by
      unfold Pu.over;cases hs:S.sl with
      | new=>rfl
      | ended _=>rfl
      | worn=>rfl
      | Wb=>rw[hs] at hn;cases hn
      | wait ts=>rw[hs] at hw;exact absurd rfl hw
      | Wg ts=>rw[hs] at hw;exact absurd rfl hw
     simp only[Pu.take,this,if_true]
    exact fin A0 p G2a (by rw[et];exact F) (by rw[et];exact O1) Fm.refl 1e0
theorem Iw:Ok T T.Bg 18 LV:=by
 nomatch T.Bg
 ·obtain⟨bp,cc,us,b,ms,rfl,_⟩:=h;rfl
 ·obtain⟨bp,cc,us,b,ms,rfl,eb,Ze,gb,hd,hz,ec,lm,q⟩:=h
  nomatch (aH (pst 2 (pcl (Al T) T.tV (pa1 pv0))) (pss3 (pst 3 (aR bQ)) (BF PassesOwn.never rfl (nH rfl T.rY (pa1 (aY b9 rfl T.jU eC (pa1 pv1)))) (pgn 4) (aH (pst 5 (pcl (xD T) T.pL (pa2 (pix aK pv1 pv4) aB))) (aH (pst 6 (pcl (tM T) T.jP (pa2 pv5 pv2))) (pss3 (pif (PW.pt (eY (ptc aU pv4 aB) (eE (ptc Gp (pcl (bB T) T.bK (pa2 pv5 aB)) aB)))) (aG (pst 6 (a9 (pa3 aC (pix aK pv6 aB) (pcl (jI T) T.iU (pa1 pv5))))))) (aM (dC pv3 pv6)) (aM (pcl (sM T) T.m9 (pa2 pv2 pv6))))))) (aJ pv3))),0
  left;wp_walk;refine⟨bp,us,b,rfl,eb,Ze,hd,hz,fun A1 G1 F1 fr nk0 _ K1=>?_⟩;obtain⟨md,Za⟩:∃ md,md=A1.md:=⟨_,rfl⟩;rw[<- Za];wp_walk;right;left;wp_walk;refine fun rl hrl=>?_;generalize hg:Wa G1 rl 1e10=G2;have N1:Kp [] G1 G2:=hg▸Kp.new hrl;have er:G2 rl=some 1e10:=hg▸aA;clear hg;obtain⟨nc,_,nr⟩:=F1.new hrl;have frl:H rl=none:=K1.cB hrl;replace F1:=F1.kp N1;replace K1:=K1.trans N1;right;left
  exists K1.at ec
  refine⟨⟨by rw[List.length_map];omega,by rw[List.length_map];omega⟩,?_⟩;obtain⟨Pv,Wr⟩:∃ Pv:Nat->St->Hp->Prop,∀ i σ G,Pv i σ G=E7 fun(v4 v5 v6:Option V) (A:Fa) (p:Nat) (hv:List V) (hs:List Hap)=>A15 (σ=[some (.ref bp),some (.ref cc),some (.ref md),some (.ref rl),v4,v5,v6]) (bM b G A (takes (gS b) hs).1 p) (Wk true (takes (gS b) hs).1 (302 * i)) ((takes (gS b) hs).1.sl.isN=false) (Std (takes (gS b) hs).1) (A.nk<=i) (A.md=md) (G rl=some (.lst hv)) (eR G hv hs) (hs.length=i) ((∀ h∈hs,(0<=h.m/\h.m<=1000000000000)/\dU h.w)) (rl∉A.mut) ((rl≠A.cl/\rl∉A.cs)) ((∀ a∈A.mut,H a=none)) (Kp [] H G):=⟨_,fun _ _ _=>rfl⟩;refine Ae (lo:=0) Pv ?_ ?_ ?_
  ·rw[Wr];exact⟨_,_,_,A1,0,[],[],rfl,F1,FR gb 1e0,rfl,GW b,by omega,Za.symm,er,.nil,rfl,by simp,nr,nc,fr,K1⟩
  ·intro i σ G hi h;rw[Wr] at h;obtain⟨v4,v5,v6,A2,p,hv,hs,rfl,F,FT,hn,sd,hk,hm,eG,hH,lh,ok,nr,nc,fr,KG⟩:=h;rw[List.length_map] at hi;have hil:i < ms.length:=by omega
   obtain⟨z,ez⟩:∃ z,fI (ms.map V.int) (i:Nat)=some (.int z):=⟨ms[i],c0 1e1⟩;have ecG:=KG.at ec;generalize eS:(takes (gS b) hs).1=S at *;left
   exists ecG,Int.zero_add,ez
   refine⟨z,90,rfl,fun dk G3 ZG K3 RD=>?_⟩;wp_walk;right;left;wp_walk;obtain⟨d1,d2,d3⟩:=F.new ZG;refine⟨b,A2,S,p,dk,_,302 * i,by rw[hm],F.kp K3,FT,by omega,RD,by omega,d3,d1.1,d1.2,fun v h n' G4 hA hf D4 ln K4=>?_⟩;wp_walk;right;have KK:Kp [] G G4:=fun b o e _=>K4.Wl (K3.at e) (aF e ZG);refine bX fun R6 ZF=>?_;refine cN fun RI Wi=>?_
   suffices fin:∀(v:V) (h:Hap) (G':Hp),nP G' v h->((0<=h.m/\h.m<=1000000000000)/\dU h.w)->Kp [] G G'->R6 [some (.ref bp),some (.ref cc),some (.ref md),some (.ref rl),some (.int (i:Nat)),some (.ref dk),some v] G' by
    obtain⟨ha,rfl,eh⟩:=hA;wp_walk;split
    ·refine⟨_,D4,by omega,fun g G5 a5 b5 D5 K5=>?_⟩;have K45:Kp [] G G5:=fun b o e _=>K5.Wl (KK.at e) (fun z=>by
      have:=K3.at e;rw[z] at e;rw[ZG] at e;cases e)
     have eh5:=D4.tk K5 _ _ eh;wp_walk;split
     ·refine Wi _ _ ?_
      exists eh5,hap1 h
      refine⟨dk,_,rfl,D5,by omega,fun w G6 hw D6 K6=>?_⟩;wp_walk;intro p6 h6;exact fin _ (.WR h.m w) _ ⟨p6,rfl,aA⟩ ⟨hf.1,hw⟩ (fun b o e _=>(q0D h6).at (K6.Wl (K45.at e) (fun z=>by rw[z,ZG] at e;cases e)))
     ·exact fin _ h _ ⟨ha,rfl,eh5⟩ hf K45
    ·exact fin _ h _ ⟨ha,rfl,eh⟩ hf KK
   clear hA hf Wi RI D4 KK;intro v h G' hA hf KK;refine ZF _ _ ?_;clear ZF;clear R6;replace F:=F.kp KK;replace eG:=KK.at eG;replace hH:=hH.kt (aE.nil KK);have lv:=hH.len;left
   exists eG
   refine⟨by omega,?_⟩;have F5:=F.oth (vs:=hv++[v]) eG nr nc.1 nc.2 (fun ts ZP=>KY hH (fun z=>by
    rw[z] at eS;rw[<- eS] at ZP;cases ZP) ts)
   have T5:aE G' (Wa G' rl (.lst (hv++[v]))):=aE.cI eG;have K5:∀ b o,b≠rl->G' b=some o->Wa G' rl (.lst (hv++[v])) b=some o:=fun b o n e=>by rw[aD n];exact e
   replace eG:Wa G' rl (.lst (hv++[v])) rl=some (.lst (hv++[v])):=aA;replace hA:=Es hA T5;have hH5:=(hH.kt T5).snoc hA;have KH5:Kp [] H (Wa G' rl (.lst (hv++[v]))):=fun b o e _=>K5 b o (aF e frl) (KK.at (KG.at e));generalize Wa G' rl (.lst (hv++[v]))=G5 at *;right;wp_walk;refine⟨b,A2,S,p,v,h,302 * i,by rw[hm],F5,hA,hf,FT,by omega,hn,sd,by omega,fun A' p' op us' G6 F6 ZL e6 c6 n6 W6 hk6=>?_⟩;show Pv (i+1) _ _;rw[Wr];obtain⟨_,M5,_⟩:=F5.ex;have es:(takes (gS b) (hs++[h])).1=(S.take h).1:=by rw[o8,eS]
   have T6:aE G5 G6:=F5.tkp ((show Fm [] A2 {A' with nk:=A2.nk} G5 G6 from W6).mono (E:=[rl]) 1e1) eG;have e6r:G6 rl=some (.lst (hv++[v])):=W6.kp _ _ eG nr 1e1;refine⟨_,_,_,A',p',hv++[v],hs++[h],rfl,by rw[es];exact F6,?_,?_,?_,by omega,W6.m1.1.trans hm,e6r,hH5.kt T6,by simp[lh],?_,fun z=>?_,⟨by rw[show A'.cl=A2.cl from W6.m1.2.1];exact nc.1,by rw[show A'.cs=A2.cs from W6.m1.2.2];exact nc.2⟩,fun a ha=>?_,fun b o e _=>W6.kp b o (KH5.at e) (fun z=>by rw[fr b z] at e;cases e) 1e1⟩
   ·rw[es,show 302 * (i+1)=302 * i+302 by omega];exact FT.He h hf.1 hf.2 (fun j hj=>eU (by have:=(M5.lt j hj).1;omega) (by have:=(M5.lt j hj).2;have:=FT.md;omega)) 1e0
   ·rw[es];exact DH hn h
   ·rw[es];exact DA sd hn h
   ·intro x hx;rcases List.mem_append.mp hx with hx|hx
    ·exact ok x hx
    ·rw[show x=h by simpa using hx];exact hf
   ·rcases W6.nw rl z with z|z
    ·exact nr z
    ·rw[eG] at z;cases z
   ·rcases W6.nw a ha with z|z
    ·exact fr a z
    ·exact KH5.cB z
  intro σ G h;rw[Wr,List.length_map] at h;obtain⟨v4,v5,v6,A2,p,hv,hs,rfl,F,FT,hn,sd,hk,hm,eG,hH,lh,ok,nr,nc,fr,KG⟩:=h;right;wp_walk;exact q rl hv hs G eG hH ok 1e0 KG
theorem CV:Ok T T.qT 1 (yG t.aP):=by
 nomatch T.qT
 ·obtain⟨x,dx,p,us,b,rfl,_⟩:=h;rfl
 ·obtain⟨x,dx,p,us,b,rfl,e,ep,hU,q⟩:=h
  nomatch (pss2 (c9 T.cY T.iF pv0 (aR (pa1 pv1))) (c9 T.cY T.fB pv0 (aR (pa1 aB)))),0
  exists e
  refine fun lb f1=>?_;have n1:x≠lb:=aF e f1
  exists aD n1,e
  refine fun ln f2=>?_;have n2:x≠ln:=aF aA f2;have n3:lb≠ln:=aF (by rw[aD n1.symm];exact aA) f2
  exists aD n2
  rw[aD n2.symm,aD n3.symm] at f2;have npx:p≠x:=cP ep e 1e7;have npl:=aF ep f1;have npn:=aF ep f2;have KK:Kp [x] H (Wa (Wa (Wa (Wa H lb (.lst [.ref p])) x (.ins t.aP dx [("blocks",.ref lb)])) ln (.lst [.int 0])) x (.ins t.aP dx [("blocks",.ref lb),("numbers",.ref ln)])):=fun b o eb nb=>by
   have nb':b≠x:=by simpa using nb
   rw[aD nb',aD (aF eb f2),aD nb',aD (aF eb f1)];exact eb
  have TT:aE H _:=fun a xs ea=>KK a _ ea (by simp only[List.mem_cons,List.not_mem_nil,or_false];exact cP ea e 1e7);refine q lb ln _ f1 f2 ⟨aA,⟨[.ref p],?_,.one (TT _ _ ep) (hU.kp TT)⟩,?_,n3,by simp⟩ KK
  ·rw[aD n1.symm,aD n3,aD n1.symm];exact aA
  ·rw[aD n2.symm];exact aA
theorem xA:Ok T T.kS 1 (yF t.aI):=by
 nomatch T.kS
 ·obtain⟨x,dx,rfl,_⟩:=h;rfl
 ·obtain⟨x,dx,rfl,e,q⟩:=h
  nomatch (pss3 (c9 T.bG T.wX pv0 aB) (c9 T.bG T.gD pv0 kJ) (c9 T.bG T.gZ pv0 kJ)),0
  exists e
  refine fun dp f1=>?_;have n1:x≠dp:=aF aA f1
  exists aD n1
  refine fun da f2=>?_;have n2:x≠da:=aF aA f2;have n3:dp≠da:=aF (by rw[aD n1.symm];exact aA) f2
  exists aD n2
  rw[aD n1.symm] at f1;rw[aD n2.symm,aD n3.symm,aD n2.symm] at f2;refine q dp da _ f1 f2 ⟨aA,?_,?_,n3,by simp,.nil,by simp,by simp,by decide⟩ ?_
  ·rw[aD n1.symm,aD n3,aD n1.symm];exact aA
  ·rw[aD n2.symm];exact aA
  ·intro b o eb nb;have nb':b≠x:=by simpa using nb
   rw[aD nb',aD (aF eb f2),aD nb',aD (aF eb f1),aD nb'];exact eb
theorem EH:Ok T T.vT 3 (BO ⟨t.aN,t.aP,t.aI⟩):=by
 nomatch T.vT
 ·obtain⟨x,dx,pg,us,b,rfl,_⟩:=h;rfl
 ·obtain⟨x,dx,pg,us,b,rfl,e,ep,hs,q⟩:=h
  nomatch (aH (c9 T.aW T.jR pv0 (Gv T.EB (CV T) (hr.mono 1e0) rfl T.TY T.qT.bd .nil pass0 (pa1 pv1))) (aH (c9 T.aW T.dN pv0 (a9 (pa1 aC))) (aH (c9 T.aW T.CN pv0 cD) (aH (c9 T.aW T.sG pv0 aB) (pss3 (c9 T.aW T.iS pv0 kJ) (c9 T.aW T.cS pv0 (Lp T.rE (xA T) (hr.mono 1e0) rfl T.Kz T.kS.bd .nil pass0)) (c9 T.aW T.kF pv0 kJ)))))),0
  left
  exists e
  refine NC ep hs fun wk wx lb ln Gw Kw hwk hlb hln W0=>?_;have ew:=Kw.at e
  exists ew
  have g1:Wa Gw x (.ins t.aN dx [("walk",.ref wk)]) x=some (.ins t.aN dx [("walk",.ref wk)]):=aA;have K1:Kp [x] Gw (Wa Gw x (.ins t.aN dx [("walk",.ref wk)])):=Kp.set 1e1;generalize Wa Gw x (.ins t.aN dx [("walk",.ref wk)])=G1 at *;right;left
  exists g1
  refine fun p h2=>?_;obtain⟨g2,f2,K2,n2⟩:=put2 (o:=.tup [.str "new"]) (o':=.ins t.aN dx [("walk",.ref wk),("sleep",.ref p)]) g1 h2
  exists aD n2,g1
  generalize Wa (Wa G1 p (.tup [.str "new"])) x (.ins t.aN dx [("walk",.ref wk),("sleep",.ref p)])=G2 at *;right;left
  exists g2
  have g3:Wa G2 x (.ins t.aN dx [("walk",.ref wk),("sleep",.ref p),("arg",.Wb)]) x=some (.ins t.aN dx [("walk",.ref wk),("sleep",.ref p),("arg",.Wb)]):=aA;have K3:Kp [x] G2 (Wa G2 x (.ins t.aN dx [("walk",.ref wk),("sleep",.ref p),("arg",.Wb)])):=Kp.set 1e1;generalize Wa G2 x (.ins t.aN dx [("walk",.ref wk),("sleep",.ref p),("arg",.Wb)])=G3 at *;right;left
  exists g3
  have g4:Wa G3 x (.ins t.aN dx [("walk",.ref wk),("sleep",.ref p),("arg",.Wb),("now",.int 0)]) x=some (.ins t.aN dx [("walk",.ref wk),("sleep",.ref p),("arg",.Wb),("now",.int 0)]):=aA;have K4:Kp [x] G3 (Wa G3 x (.ins t.aN dx [("walk",.ref wk),("sleep",.ref p),("arg",.Wb),("now",.int 0)])):=Kp.set 1e1;generalize Wa G3 x (.ins t.aN dx [("walk",.ref wk),("sleep",.ref p),("arg",.Wb),("now",.int 0)])=G4 at *;right;left
  exists g4
  refine fun nm h5=>?_;obtain⟨g5,f5,K5,n5⟩:=put2 (o:=.dK []) (o':=.ins t.aN dx [("walk",.ref wk),("sleep",.ref p),("arg",.Wb),("now",.int 0),("names",.ref nm)]) g4 h5
  exists aD n5,g4
  generalize Wa (Wa G4 nm (.dK [])) x (.ins t.aN dx [("walk",.ref wk),("sleep",.ref p),("arg",.Wb),("now",.int 0),("names",.ref nm)])=G5 at *;right;left
  exists g5
  refine Ua fun tk tx dp da Gt Kt htk hdp hda T0=>?_;have et:=Kt.at g5
  exists et
  have g6:Wa Gt x (.ins t.aN dx [("walk",.ref wk),("sleep",.ref p),("arg",.Wb),("now",.int 0),("names",.ref nm),("tickets",.ref tk)]) x=some (.ins t.aN dx [("walk",.ref wk),("sleep",.ref p),("arg",.Wb),("now",.int 0),("names",.ref nm),("tickets",.ref tk)]):=aA;have K6:Kp [x] Gt (Wa Gt x (.ins t.aN dx [("walk",.ref wk),("sleep",.ref p),("arg",.Wb),("now",.int 0),("names",.ref nm),("tickets",.ref tk)])):=Kp.set 1e1;generalize Wa Gt x (.ins t.aN dx [("walk",.ref wk),("sleep",.ref p),("arg",.Wb),("now",.int 0),("names",.ref nm),("tickets",.ref tk)])=G6 at *;right
  exists g6
  refine fun lt h7=>?_;obtain⟨g7,f7,K7,n7⟩:=put2 (o:=.dK []) (o':=.ins t.aN dx [("walk",.ref wk),("sleep",.ref p),("arg",.Wb),("now",.int 0),("names",.ref nm),("tickets",.ref tk),("letters",.ref lt)]) g6 h7
  exists aD n7,g6
  generalize Wa (Wa G6 lt (.dK [])) x (.ins t.aN dx [("walk",.ref wk),("sleep",.ref p),("arg",.Wb),("now",.int 0),("names",.ref nm),("tickets",.ref tk),("letters",.ref lt)])=G7 at *;have KA:Kp [x] H G4:=((((Kw.mono 1e1).trans K1).trans K2).trans K3).trans K4;have KB:Kp [x] H Gt:=(KA.trans K5).trans (Kt.mono 1e1);have KC:Kp [x] H G6:=KB.trans K6;have xwk:x≠wk:=aF e hwk;have xtk:x≠tk:=aF g5 htk;have W7:Kp [x] Gw G7:=(((((K1.trans K2).trans K3).trans K4).trans K5).trans (Kt.mono 1e1)).trans (K6.trans K7);have P7:Kp [x] G2 G7:=(((K3.trans K4).trans K5).trans (Kt.mono 1e1)).trans (K6.trans K7);have N7:Kp [x] G5 G7:=(Kt.mono 1e1).trans (K6.trans K7);have T7:Kp [x] Gt G7:=K6.trans K7;have KD:Kp [x] H G7:=KC.trans K7;have W5:Kp [x] Gw G5:=((((K1.trans K2).trans K3).trans K4).trans K5);have xlb:lb≠x:=(aF e hlb).symm;have xln:ln≠x:=(aF e hln).symm;have xdp:dp≠x:=(aF g5 hdp).symm;have xda:da≠x:=(aF g5 hda).symm;have nm6:=K6.Wl (Kt.at f5) n5.symm;have dp6:=K6.Wl T0.hp xdp;have da6:=K6.Wl T0.ha xda;have wk5:=W5.Wl W0.ins xwk.symm;have fr4:H nm=none:=VB KA g4 h5;have fr5:∀ {a:Addr},G5 a=none->H a=none:=fun h=>VB (KA.trans K5) g5 h;have abI:H lt=none:=VB KC g6 h7;have kt7:aE Gw G7:=fun b xs hb=>W7.Wl hb (cP hb ew 1e7);refine q ⟨x,dx,wk,wx,lb,ln,nm,tk,tx,dp,da,lt⟩ 1e21 G7 rfl ⟨g7,⟨p,rfl,P7.Wl f2 n2.symm⟩,W0.keep (fun o h=>W7.Wl h xwk.symm) (fun o h=>W7.Wl h xlb) (fun o h=>W7.Wl h xln) kt7,T0.keep (fun o h=>T7.Wl h xtk.symm) (fun o h=>T7.Wl h xdp) (fun o h=>T7.Wl h xda),N7.Wl f5 n5.symm,⟨[],f7,.nil⟩,by simp,by simp,xwk,xtk,aF wk5 htk,aF f5 hdp,aF f5 hda,aF nm6 h7,(aF dp6 h7).symm,(aF da6 h7).symm⟩ KD fun a ha=>?_;simp only[Rn.cells,List.mem_cons,List.not_mem_nil,or_false] at ha;rcases ha with rfl|rfl|rfl|rfl|rfl|rfl|rfl|rfl
  ·exact .inl rfl
  ·exact .inr hlb
  ·exact .inr hln
  ·exact .inr fr4
  ·exact .inr (fr5 htk)
  ·exact .inr (fr5 hdp)
  ·exact .inr (fr5 hda)
  ·exact .inr abI
theorem Dz(IH:eP P w K mg base WW n t.qM t.qQ ["one","other"] (GH d)):Ok T T.dQ (n+1) (GH (d+1)):=by
 nomatch T.dQ
 ·obtain⟨v,u,d1,rfl,_⟩:=h;rfl
 ·obtain⟨v,u,d1,rfl,hd,hA,q⟩:=h
  nomatch (aH (pif (PW.pt (GB (jT (aY qN rfl T.dY eF (pa2 pv0 (lB (v:=.ty "bool") rfl T.Mc Mr rfl)))) (BI (ptc C2 (aY zY rfl T.dY eF (pa2 pv0 (lB (v:=.ty "list") rfl T.DK AR rfl))) (aY zY rfl T.dY eF (pa2 pv1 (lB (v:=.ty "list") rfl T.DK AR rfl))))))) (aG (aJ xN))) (aH (pif (ptc C2 (aY qN rfl T.dY eF (pa2 pv0 (lB (v:=.ty "tuple") rfl T.iK fJ rfl))) (aY qN rfl T.dY eF (pa2 pv1 (lB (v:=.ty "tuple") rfl T.iK fJ rfl)))) (aG (aJ xN))) (pss3 (pif (rR (jT (aY Hr rfl T.dY eF (pa2 pv0 (NJ (pa2 (lB (v:=.ty "list") rfl T.DK AR rfl) (lB (v:=.ty "tuple") rfl T.iK fJ rfl))))))) (aG (aJ (pcr aU pv0 pv1)))) (pif (ptc C2 (aY b9 rfl T.jU eC (pa1 pv0)) (aY b9 rfl T.jU eC (pa1 pv1))) (aG (aJ xN))) (aJ (pcr (ER 1 (HX hr 1e6)) (nF (fr:=[0,1]) (N:=["k","one","other"]) rfl (fun _ _ h=>h) (eQ.free rfl rfl rfl rfl rfl (fun _ _ h=>by first|exact h|exact look2 1e6 h) rfl 1e6 rfl (fun j hj=>by rcases(show j=0\/j=1 by simpa using hj) with rfl|rfl<;>exact⟨_,rfl,rfl,.inl rfl⟩)) (nH rfl T.rY (pa1 (aY b9 rfl T.jU eC (pa1 pv0)))) (fun C s H ex pn=>⟨nJ (rR (jT (uA IH (hr.mono 1e0) rfl T.dQ.m T.dQ.fn.kp T.dQ.bd .nil pass0 (eJ (Lo aK (pv 1) (pv 0) (fun _ _=>rfl)) (eJ (Lo aK (pv 2) (pv 0) (fun _ _=>rfl)) bQ))))) ,(pv 0) ⟩)) (aR bQ)))))),0
  cases hA with
  | atom h =>
   cases v with
   | Wb =>
    wp_walk;refine fun p hp=>?_;refine⟨["list","tuple"],_,rfl,.inr rfl,?_⟩;simp only[nW]
    exists show(["list","tuple"].any (CC "NoneType"))=false by decide,Bool.not_false
    exact q _ (Kp.new hp)
   | str z =>
    wp_walk;refine fun p hp=>?_;refine⟨["list","tuple"],_,rfl,.inr rfl,?_⟩;simp only[nW]
    exists show(["list","tuple"].any (CC "str"))=false by decide,Bool.not_false
    exact q _ (Kp.new hp)
   | int z =>
    wp_walk;refine fun p hp=>?_;refine⟨["list","tuple"],_,rfl,.inr rfl,?_⟩;simp only[nW]
    exists show(["list","tuple"].any (CC "int"))=false by decide,Bool.not_false
    exact q _ (Kp.new hp)
   | _=>exact h.elim
  | @tup dd a b xs ys ea eb hl hx hi =>
   obtain rfl:dd=d:=by omega
   exists ea,eb
   refine fun p hp=>?_;generalize hg:Wa H p (.Wz (yO ["list","tuple"]) (.tup [.ty "list",.ty "tuple"]))=G1;have N1:Kp [] H G1:=hg▸Kp.new hp;clear hg;refine⟨["list","tuple"],_,rfl,.inr rfl,?_⟩;have Z7:=N1.at ea;have eb1:=N1.at eb;have ek:nW G1 1e11=some "tuple":=by
    simp only[nW,Z7];rfl
   exists ek,show(["list","tuple"].any (CC "tuple"))=true by decide,Z7,eb1,hl
   refine⟨by omega,?_⟩;refine wM (lo:=0) (fun j zs G=>zs=[]/\Kp [] G1 G) ⟨rfl,Kp.refl⟩ ?_ ?_ ?_
   ·rintro j zs G ⟨rfl,_⟩;simp
   ·rintro j zs G hj ⟨rfl,KG⟩;have ea2:=KG.at Z7;have eb2:=KG.at eb1;have hj1:j < xs.length:=by omega
    have hj2:j < ys.length:=by omega
    have i1:fI xs (j:Int)=some xs[j]:=by rw[c0];exact List.getElem?_eq_getElem hj1
    have i2:fI ys (j:Int)=some ys[j]:=by rw[c0];exact List.getElem?_eq_getElem hj2
    have hc:=hi j _ _ (List.getElem?_eq_getElem hj1) (List.getElem?_eq_getElem hj2)
    exists aT,Option.join_some,Int.zero_add,ea2,eb2,i1,i2
    refine⟨_,_,dd,rfl,rfl,hc.kp (N1.trans KG),fun H' K'=>?_⟩;wp_walk;exact KG.trans K'
   rintro zs G ⟨rfl,KG⟩ l h2;wp_walk;refine fun l2 h3=>⟨true,KU ((q0D h3).at aA) aA,?_⟩;exact q _ ((N1.trans KG).trans ((Kp.new h2).trans (Kp.new h3)))
  | @lst dd a b xs ys ea eb hl hx hi =>
   obtain rfl:dd=d:=by omega
   exists ea,eb
   refine fun p hp=>?_;generalize hg:Wa H p (.Wz (yO ["list","tuple"]) (.tup [.ty "list",.ty "tuple"]))=G1;have N1:Kp [] H G1:=hg▸Kp.new hp;clear hg;refine⟨["list","tuple"],_,rfl,.inr rfl,?_⟩;have Z7:=N1.at ea;have eb1:=N1.at eb;have ek:nW G1 1e11=some "list":=by
    simp only[nW,Z7];rfl
   exists ek,show(["list","tuple"].any (CC "list"))=true by decide,Z7,eb1,hl
   refine⟨by omega,?_⟩;refine wM (lo:=0) (fun j zs G=>zs=[]/\Kp [] G1 G) ⟨rfl,Kp.refl⟩ ?_ ?_ ?_
   ·rintro j zs G ⟨rfl,_⟩;simp
   ·rintro j zs G hj ⟨rfl,KG⟩;have ea2:=KG.at Z7;have eb2:=KG.at eb1;have hj1:j < xs.length:=by omega
    have hj2:j < ys.length:=by omega
    have i1:fI xs (j:Int)=some xs[j]:=by rw[c0];exact List.getElem?_eq_getElem hj1
    have i2:fI ys (j:Int)=some ys[j]:=by rw[c0];exact List.getElem?_eq_getElem hj2
    have hc:=hi j _ _ (List.getElem?_eq_getElem hj1) (List.getElem?_eq_getElem hj2)
    exists aT,Option.join_some,Int.zero_add,ea2,eb2,i1,i2
    refine⟨_,_,dd,rfl,rfl,hc.kp (N1.trans KG),fun H' K'=>?_⟩;wp_walk;exact KG.trans K'
   rintro zs G ⟨rfl,KG⟩ l h2;wp_walk;refine fun l2 h3=>⟨true,KU ((q0D h3).at aA) aA,?_⟩;exact q _ ((N1.trans KG).trans ((Kp.new h2).trans (Kp.new h3)))
theorem iG{t:Ad}(T:Tx P w base K mg t):∀ d,eP P w K mg base WW (d+1) t.qM t.qQ ["one","other"] (GH d)
 | 0=>(CO T).imp fun vs H Q E ⟨v,u,d',_,hd,h,_⟩=>by subst hd;cases h
 | d+1=>Dz T (iG T d)
theorem sJ:Ok T T.m6 1 (Dw ⟨t.aN,t.aP,t.aI⟩):=by
 nomatch T.m6
 ·obtain⟨R,as,sl,S,rfl,_⟩:=h;rfl
 ·obtain⟨R,as,sl,S,rfl,A,q⟩:=h
  nomatch (aG (aJ (aL T.aW T.dN pv0))),0
  exists A.ins
  exact q
theorem sN:Ok T T.nA 2 Dv:=by
 nomatch T.nA
 ·obtain⟨P0,A0,S,p,N,rfl,_⟩:=h;rfl
 ·obtain⟨P0,A0,S,p,N,rfl,F,FT,hn,ht,q⟩:=h
  nomatch (aH (pif (ptc aU 1e9 aC) (aG (aJ (a9 (pa2 aC (cA gX rfl T.iK fJ (pa1 1e9))))))) (pss3 (pif (ptc aU 1e9 aC) (aG (aJ (a9 (pa2 aC (pix aK (pix aK (pix aK 1e9 1e9) aB) aB)))))) (pif (ptc aU 1e9 aC) (aG (aJ (a9 (pa2 aC 1e9))))) (aJ (a9 (pa1 1e9))))),0
  obtain⟨ot,M0,Xx,c1,c2,c3,c4⟩:=F.ex;obtain⟨Wt,Wm,WQ,_⟩:=M0.hm;have vm:aX Wt (.inr "mode")=some (.str S.sl.md):=(WQ.2 _ 1e8).trans c4.md;cases hs:S.sl with
  | Wb=>rw[hs] at hn;cases hn
  | wait ts =>
   rw[hs] at vm c4 q;obtain⟨_,va,ea,_⟩:=c4;have va0:aX Wt (.inr "awaited")=some (.ref A0.aw):=(WQ.2 _ 1e8).trans va;have lts:=ht ts hs
   exists Wm,vm,Slp.md,va0,ea
   refine fun l hl p1 h1=>q _ _ ⟨p1,l,rfl,aA,(q0D h1).at aA⟩ ((Kp.new hl).trans (Kp.new h1))
  | Wg k =>
   rw[hs] at vm q;obtain⟨x,Wq⟩:=FT.sl.1 k hs;obtain⟨pt,ec⟩:=F.ps.ent Wq;obtain⟨a,ea,pa,hpa,sv,XI,eA⟩:=F.co.at ec;cases XI with
   | @Wg a0 x k e1 =>
    have ix:fI (A0.cs.map V.ref) (p:Int)=some 1e11:=c0 (by rw[List.getElem?_map,ea];rfl);have Yd:=F.cl;have va7:aX Wt 1e40=some (.int p):=(WQ.2 _ 1e8).trans c2;have vc7:aX Wt (.inr "code")=some (.ref A0.cl):=(WQ.2 _ 1e8).trans c1
    exists Wm,vm,Slp.md,va7,vc7,Yd,ix,eA,e1
    exact fun p1 h1=>q _ _ ⟨p1,rfl,aA⟩ (Kp.new h1)
  | new =>
   rw[hs] at vm q
   exists Wm,vm,Slp.md
   exact fun p1 h1=>q _ _ ⟨p1,rfl,aA⟩ (Kp.new h1)
  | ended w =>
   rw[hs] at vm c4 q;have vo:aX Wt (.inr "outcome")=some (wv w):=(WQ.2 _ 1e8).trans c4.2
   exists Wm,vm,Slp.md,vo
   exact fun p1 h1=>q _ _ ⟨p1,rfl,aA⟩ (Kp.new h1)
  | worn =>
   rw[hs] at vm q
   exists Wm,vm,Slp.md
   exact fun p1 h1=>q _ _ ⟨p1,rfl,aA⟩ (Kp.new h1)
theorem g0:Ok T T.dP 1 (Dt t.aI):=by
 nomatch T.dP
 ·obtain⟨tk,tx,dp,da,made,pend,ans,w,rfl,_⟩:=h;rfl
 ·obtain⟨tk,tx,dp,da,made,pend,ans,w,rfl,R,q⟩:=h;have hu:=nU hr
  nomatch (aG (aJ (Rp (Gr hu pv1 (aL T.bG T.gD pv0))))),0
  exists R.ins,R.hp,xO
  exact q
theorem rJ:Ok T T.iW 2 (LS ⟨t.aN,t.aP,t.aI⟩):=by
 nomatch T.iW
 ·obtain⟨R,as,sl,S,v,h,rfl,_⟩:=h;rfl
 ·obtain⟨R,as,sl,S,v,h,rfl,A,hn,hH,q⟩:=h
  nomatch (aH (pst 2 1e4) (pss3 (pif (ptc aU (pix aK (aL T.aW T.dN pv0) aB) aC) (aG (aJ (pcr C2 pv2 aC)))) (pif (fU jS (pix aK (aL T.aW T.dN pv0) aB) (a9 (pa2 aC aC)) 1e30) (aG (aJ xN))) (aJ (OS (pcr aU pv2 aC) (mM (Ro (pcr aU pv2 aC) (mM (Rq (pmt (aL T.aW T.cS pv0) T.bG (g0 T) T.dP (pa1 1e4)))))))))),0
  obtain⟨a,rfl,eh⟩:=hH;cases es:S.sl with
  | Wb=>rw[es] at hn;cases hn
  | new =>
   have Ws:=A.slp;rw[es] at Ws;obtain⟨p,rfl,ep⟩:=Ws;cases h with
   | WR m w =>
    simp only[Hap.vs,Hap.ini,Hap.w,List.cons_append,List.nil_append] at eh;rw[show S.over (.WR m w)=false by simp only[Pu.over,es]] at q
    exists A.ins,eh,ep
    exact q _ Kp.refl
   | don m i w =>
    simp only[Hap.vs,Hap.ini,Hap.w,List.cons_append,List.nil_append] at eh;rw[show S.over (.don m i w)=true by simp only[Pu.over,es]] at q
    exists A.ins,eh,ep
    exact q _ Kp.refl
   | ltr m k w =>
    simp only[Hap.vs,Hap.ini,Hap.w,List.cons_append,List.nil_append] at eh;rw[show S.over (.ltr m k w)=true by simp only[Pu.over,es]] at q
    exists A.ins,eh,ep
    exact q _ Kp.refl
  | wait ts =>
   have Ws:=A.slp;rw[es] at Ws;obtain⟨p,p2,rfl,ep,ep2⟩:=Ws;cases h with
   | WR m w =>
    simp only[Hap.vs,Hap.ini,Hap.w,List.cons_append,List.nil_append] at eh;rw[show S.over (.WR m w)=true by simp only[Pu.over,es]] at q
    exists A.ins,eh,ep
    refine fun p9 h9=>⟨rfl,by decide +kernel,?_⟩;rw[if_neg 1e18];have N9:=q0D (o:=.tup [.str "ended",.str "worn"]) h9
    exists N9.at eh
    exact q _ N9
   | don m i w =>
    simp only[Hap.vs,Hap.ini,Hap.w,List.cons_append,List.nil_append] at eh;rw[show S.over (.don m i w) = !decide (i∈S.pend) by simp only[Pu.over,es]] at q
    exists A.ins,eh,ep
    refine fun p9 h9=>⟨rfl,by decide +kernel,?_⟩;rw[if_neg 1e18];have N9:=q0D (o:=.tup [.str "ended",.str "worn"]) h9;have A9:=A.kp N9;have eh9:=N9.at eh;generalize Wa H p9 (.tup [.str "ended",.str "worn"])=G9 at *
    exists A9.ins,A9.tk.ins,eh9
    refine⟨R.tk,R.tx,R.dp,R.da,_,_,_,some i,rfl,A9.tk,?_⟩;wp_walk;rw[show decide (∃ j,j∈S.pend/\(some i:Wo)=some j)=decide (i∈S.pend) by simp];exact q _ N9
   | ltr m k0 w =>
    simp only[Hap.vs,Hap.ini,Hap.w,List.cons_append,List.nil_append] at eh;rw[show S.over (.ltr m k0 w)=false by simp only[Pu.over,es]] at q
    exists A.ins,eh,ep
    refine fun p9 h9=>⟨rfl,by decide +kernel,?_⟩;rw[if_neg 1e18];have N9:=q0D (o:=.tup [.str "ended",.str "worn"]) h9
    exists N9.at eh
    exact q _ N9
  | Wg k =>
   have Ws:=A.slp;rw[es] at Ws;obtain⟨p,rfl,ep⟩:=Ws;cases h with
   | WR m w =>
    simp only[Hap.vs,Hap.ini,Hap.w,List.cons_append,List.nil_append] at eh;rw[show S.over (.WR m w)=true by simp only[Pu.over,es]] at q
    exists A.ins,eh,ep
    refine fun p9 h9=>⟨rfl,by decide +kernel,?_⟩;rw[if_neg 1e18];have N9:=q0D (o:=.tup [.str "ended",.str "worn"]) h9
    exists N9.at eh
    exact q _ N9
   | don m i w =>
    simp only[Hap.vs,Hap.ini,Hap.w,List.cons_append,List.nil_append] at eh;rw[show S.over (.don m i w) = !decide (i∈S.pend) by simp only[Pu.over,es]] at q
    exists A.ins,eh,ep
    refine fun p9 h9=>⟨rfl,by decide +kernel,?_⟩;rw[if_neg 1e18];have N9:=q0D (o:=.tup [.str "ended",.str "worn"]) h9;have A9:=A.kp N9;have eh9:=N9.at eh;generalize Wa H p9 (.tup [.str "ended",.str "worn"])=G9 at *
    exists A9.ins,A9.tk.ins,eh9
    refine⟨R.tk,R.tx,R.dp,R.da,_,_,_,some i,rfl,A9.tk,?_⟩;wp_walk;rw[show decide (∃ j,j∈S.pend/\(some i:Wo)=some j)=decide (i∈S.pend) by simp];exact q _ N9
   | ltr m k0 w =>
    simp only[Hap.vs,Hap.ini,Hap.w,List.cons_append,List.nil_append] at eh;rw[show S.over (.ltr m k0 w)=false by simp only[Pu.over,es]] at q
    exists A.ins,eh,ep
    refine fun p9 h9=>⟨rfl,by decide +kernel,?_⟩;rw[if_neg 1e18];have N9:=q0D (o:=.tup [.str "ended",.str "worn"]) h9
    exists N9.at eh
    exact q _ N9
  | ended w =>
   have Ws:=A.slp;rw[es] at Ws;obtain⟨p,rfl,ep⟩:=Ws;have e0:∃(kd:Str) (xs:List V),H a=some (.tup (.str kd::xs)):=by cases h<;>exact⟨_,_,eh⟩
   obtain⟨kd,xs,e0⟩:=e0;rw[show S.over (h)=true by simp only[Pu.over,es]] at q
   exists A.ins,e0,ep
   refine fun p9 h9=>⟨rfl,by decide +kernel,?_⟩;rw[if_pos 1e18];exact q _ (Kp.new h9)
  | worn =>
   have Ws:=A.slp;rw[es] at Ws;obtain⟨p,rfl,ep⟩:=Ws;have e0:∃(kd:Str) (xs:List V),H a=some (.tup (.str kd::xs)):=by cases h<;>exact⟨_,_,eh⟩
   obtain⟨kd,xs,e0⟩:=e0;rw[show S.over (h)=true by simp only[Pu.over,es]] at q
   exists A.ins,e0,ep
   refine fun p9 h9=>⟨rfl,by decide +kernel,?_⟩;rw[if_pos 1e18];exact q _ (Kp.new h9)
theorem hW:Ok T T.gC 1 (qI t.aP):=by
 nomatch T.gC
 ·obtain⟨wk,wx,lb,ln,k,n,b,r,rfl,_⟩:=h;rfl
 ·obtain⟨wk,wx,lb,ln,k,n,b,r,rfl,W,q⟩:=h
  nomatch (aG (NS (aL T.cY T.fB pv0) (fK dM aB) Tw aB Gd yA)),0
  obtain⟨vs,eb,hB⟩:=W.bl;obtain⟨l,el,YG⟩:=rG k n b r;have en:=W.nu;rw[el] at en;have i2:fI ((l++[(n:Int)]).map V.int) (-1)=some (.int n):=by rw[List.map_append];exact jX _ _
  have i3:zG ((l++[(n:Int)]).map V.int).length (-1)=some l.length:=by
   unfold zG;simp;omega
  have i4:((l++[(n:Int)]).map V.int).set l.length (.int ((n:Int)+1))=(l++[((n+1:Nat):Int)]).map V.int:=by simp
  exists W.ins,en,i2,i3,i4
  have n1:wk≠ln:=cP W.ins W.nu 1e7;have K1:Kp [ln] H (Wa H ln (.lst ((l++[((n+1:Nat):Int)]).map V.int))):=Kp.jL;have T1:aE H (Wa H ln (.lst ((l++[((n+1:Nat):Int)]).map V.int))):=fun a xs e=>by rw[aD (cP e W.nu 1e7)];exact e
  exact q _ ⟨by rw[aD n1];exact W.ins,⟨vs,by rw[aD W.ne];exact eb,(hB.kp T1).turn⟩,by rw[aA,YG],W.ne,W.XA⟩ K1
theorem fT:Ok T T.eI 1 (yH t.aP):=by
 nomatch T.eI
 ·obtain⟨wk,wx,lb,ln,k,n,b,r,m,rfl,_⟩:=h;rfl
 ·obtain⟨wk,wx,lb,ln,k,n,b,r,m,rfl,W,hm,q⟩:=h
  nomatch (aG (aJ (pix aK (pix aK (aL T.cY T.iF pv0) (fK dM aB)) (pix aK (aL T.cY T.fB pv0) (fK dM aB))))),0
  obtain⟨vs,eb,hB⟩:=W.bl;obtain⟨ws,p,us,rfl,ep,hU,_,_⟩:=hB.last;obtain⟨l,el,_⟩:=rG k n b r;have en:=W.nu;rw[el] at en;have hn:n < us.length:=by
   have:=(List.getElem?_eq_some_iff.mp hm).1;have:=hU.len;omega
  obtain⟨m',hm',hM⟩:=hU.at (List.getElem?_eq_getElem hn);rw[hm] at hm';cases hm';have i1:fI (ws++[V.ref p]) (-1)=some 1e21:=jX _ _;have i2:fI ((l++[(n:Int)]).map V.int) (-1)=some (.int n):=by rw[List.map_append];exact jX _ _
  have i3:fI us (n:Int)=some us[n]:=c0 (List.getElem?_eq_getElem hn)
  exists W.ins,eb,en,i1,i2,ep,i3
  exact q _ hM
theorem Bx:Ok T T.oP 2 (AG t.aP):=by
 nomatch T.oP
 ·obtain⟨wk,wx,lb,ln,k,n,b,x,r,m,rfl,_⟩:=h;rfl
 ·obtain⟨wk,wx,lb,ln,k,n,b,⟨kx,bx,nx⟩,r,m,rfl,W,hm,q⟩:=h
  nomatch (aH (aM (uC (aL T.cY T.iF pv0))) (pss3 (aM (uC (aL T.cY T.fB pv0))) (aM (uC (aL T.cY T.fB pv0))) (pif (ptc aU (pix aK (pmt0 pv0 T.cY (fT T) T.eI) aB) aC) (aG (aM (pmt0 pv0 T.cY (hW T) T.gC)))))),0
  obtain⟨vs,eb,hB⟩:=W.bl;have n1:wk≠ln:=cP W.ins W.nu 1e7;have n2:wk≠lb:=cP W.ins eb 1e7;obtain⟨ws,p,us,rfl,ep,hU,hBr,_⟩:=hB.last;have hB2:=hBr 1e1;have nu0:H ln=some (.lst (((cO 1e31).map V.int++[.int kx])++[.int nx])):=by rw[W.nu,rH];simp
  have XA:=W.XA;simp only[List.length_cons] at XA;left
  exists W.ins,eb,rB,List.dropLast_concat
  have T1:=aE.dF (ys:=ws) eb;have i1:Wa H lb (.lst ws) wk=some (.ins t.aP wx [("blocks",.ref lb),("numbers",.ref ln)]):=by rw[aD n2];exact W.ins
  have i2:Wa H lb (.lst ws) ln=some (.lst (((cO 1e31).map V.int++[.int kx])++[.int nx])):=by rw[aD W.ne.symm];exact nu0
  have i3:Wa H lb (.lst ws) lb=some (.lst ws):=aA;have K1:Kp [lb] H (Wa H lb (.lst ws)):=Kp.jL;have B1:=hB2.kp T1;generalize Wa H lb (.lst ws)=G at *;right;left
  exists i1,i2,rB,List.dropLast_concat
  have T2:=aE.dF (ys:=(cO 1e31).map V.int++[.int kx]) i2;have j1:Wa G ln (.lst ((cO 1e31).map V.int++[.int kx])) wk=some (.ins t.aP wx [("blocks",.ref lb),("numbers",.ref ln)]):=by rw[aD n1];exact i1
  have j2:Wa G ln (.lst ((cO 1e31).map V.int++[.int kx])) ln=some (.lst ((cO 1e31).map V.int++[.int kx])):=aA;have j3:Wa G ln (.lst ((cO 1e31).map V.int++[.int kx])) lb=some (.lst ws):=by rw[aD W.ne];exact i3
  have K2:Kp [ln] G (Wa G ln (.lst ((cO 1e31).map V.int++[.int kx]))):=Kp.jL;have B2:=B1.kp T2;generalize Wa G ln (.lst ((cO 1e31).map V.int++[.int kx]))=G2 at *;right;left
  exists j1,j2,rB,List.dropLast_concat
  have T3:=aE.dF (ys:=(cO 1e31).map V.int) j2;have W3:jO t.aP (Wa G2 ln (.lst ((cO 1e31).map V.int))) wk wx lb ln 1e31:=⟨by rw[aD n1];exact j1,⟨ws,by rw[aD W.ne];exact j3,B2.kp T3⟩,aA,W.ne,by simp only[List.length_cons];omega⟩;have K3:Kp [ln] G2 (Wa G2 ln (.lst ((cO 1e31).map V.int))):=Kp.jL;generalize Wa G2 ln (.lst ((cO 1e31).map V.int))=G3 at *;right;have K13:Kp [lb,ln] H G3:=((K1.mono 1e1).trans (K2.mono 1e1)).trans (K3.mono 1e1)
  exists W3.ins
  refine⟨wk,wx,lb,ln,k,n,b,r,m,rfl,W3,hm,fun v hv=>?_⟩;obtain⟨a,kd,xs,rfl,ea,hk⟩:=hv.TH
  exists ea
  by_cases hi:m.Bl=true
  ·rw[hi] at hk q;have hkd:kd = "if":=by simpa using hk
   subst hkd
   exists W3.ins
   exact⟨wk,wx,lb,ln,k,n,b,r,rfl,W3,fun H4 W4 K4=>q H4 W4 (K13.trans (K4.mono 1e1))⟩
  ·have ZJ:m.Bl=false:=by simpa using hi
   rw[ZJ] at hk q;have hkd:(kd = "if")=False:=by simpa using hk
   exists hkd
   exact q G3 W3 K13
theorem zI:Ok T T.l9 3 (Dx t.aP):=by
 nomatch T.l9
 ·obtain⟨wk,wx,lb,ln,st,rfl,_⟩:=h;rfl
 ·obtain⟨wk,wx,lb,ln,st,rfl,W0,ok0,q0,q1⟩:=h
  nomatch (pss2 (qA PassesOwn.never (ptc aU (pix aK (aL T.cY T.fB pv0) (fK dM aB)) (aY b9 rfl T.jU eC (pa1 (pix aK (aL T.cY T.iF pv0) (fK dM aB))))) (pss2 (pif (ptc aU (aY b9 rfl T.jU eC (pa1 (aL T.cY T.iF pv0))) aB) (aG (aJ cD))) (aM (pmt0 pv0 T.cY (Bx T) T.oP)))) (aJ (pmt0 pv0 T.cY (fT T) T.eI))),0
  obtain⟨Y,hV⟩:∃ Y:Nat->St->Hp->Prop,∀ m σ G,Y m σ G = ∃ WB:Stk,σ=[some (.ref wk)]/\jO t.aP G wk wx lb ln WB/\zR WB/\bO WB=bO st/\m=WB.length/\Kp [lb,ln] H G:=⟨_,fun _ _ _=>rfl⟩
  try simp only[L2.start,List.map_cons,List.map_nil,List.length_cons,List.length_nil,Nat.reduceAdd,Nat.reduceSub,List.replicate_zero,List.append_nil]
  refine⟨Y,⟨st.length,?_⟩,?_⟩
  ·rw[hV];exact⟨st,rfl,W0,ok0,rfl,rfl,Kp.refl⟩
  intro m σ G hG;rw[hV] at hG;obtain⟨WB,rfl,W,ok,hct,rfl,KG⟩:=hG;have back:∀(XX:Stk) (G2:Hp),jO t.aP G2 wk wx lb ln XX->zR XX->bO XX=bO st->XX.length < WB.length->Kp [lb,ln] H G2->∃ m',m' < WB.length/\Y m' [some (.ref wk)] G2:=fun XX G2 a b c d e=>by
   refine⟨XX.length,d,?_⟩;rw[hV];exact⟨XX,rfl,a,b,c,rfl,e⟩
  clear hV
  match WB,ok with
  | (k,b,n)::r,ok =>
   obtain⟨vs,eb,hB⟩:=W.bl;obtain⟨ws,p,us,rfl,ep,hU,hBr,hBn⟩:=hB.last;obtain⟨l,el,_⟩:=rG k n b r;have en:=W.nu;rw[el] at en;have i1:fI (ws++[V.ref p]) (-1)=some 1e21:=jX _ _;have i2:fI ((l++[(n:Int)]).map V.int) (-1)=some (.int n):=by rw[List.map_append];exact jX _ _
   have lu:=hU.len;have lw:=hB.len
   exists W.ins,eb,en,i1,i2,ep
   by_cases hn:n=b.length
   ·rw[if_pos 1e0]
    exists W.ins,eb,en
    refine⟨fun σ' G'=>∃ m',m' < r.length+1/\Y m' σ' G',fun _ _ z=>z,?_⟩
    match r,ok,W,hct,back,hBn,lw with
    | [],ok,W,hct,back,hBn,lw =>
     have e0:bO st=[(k,b,n)]:=by rw[<- hct];simp[bO]
     rw[if_pos (by have:=lw.1;simp only[List.length_cons,List.length_nil] at this;omega)];exact q0 G (by rw[e0];exact W) (by rw[e0];exact ok) (by rw[e0];simp[Wf,hn]) KG
    | (k2,b2,n2)::r,ok,W,hct,back,hBn,lw =>
     rw[if_neg (by have:=lw.1;simp only[List.length_cons] at this;omega)];have h2:n2 < b2.length:=ok.2 (k2,b2,n2) 1e1;have hm:b2[n2]?=some b2[n2]:=List.getElem?_eq_getElem h2;have ho:nZ b2 n2=if (b2[n2]).Bl=true then n2+1 else n2:=by unfold nZ;rw[hm]
     refine⟨wk,wx,lb,ln,k2,n2,b2,(k,b,n),r,b2[n2],rfl,W,hm,fun H' W' K'=>?_⟩;rw[<- ho] at W';refine back _ H' W' ⟨CT h2,fun x hx=>ok.2 x (List.mem_cons_of_mem _ hx)⟩ ?_ 1e1 (Kp.trans KG K');rw[<- hct]
     conv=>rhs;rw[bO]
     rw[if_pos hn]
   ·rw[if_neg 1e0];have h2:n < b.length:=by have:=ok.1;omega
    have hm:b[n]?=some b[n]:=List.getElem?_eq_getElem h2;have e0:bO st=(k,b,n)::r:=by
     rw[<- hct];cases r with
     | nil=>simp[bO]
     | cons x r=>obtain⟨k2,b2,n2⟩:=x;simp[bO,hn]
    exact⟨wk,wx,lb,ln,k,n,b,r,b[n],rfl,W,hm,fun v hv=>q1 b[n] v G (by rw[e0];exact W) (by rw[e0];exact ok) (by rw[e0];exact hm) hv KG⟩
theorem jH:Ok T T.fQ 1 (GU t.aI):=by
 nomatch T.fQ
 ·obtain⟨tk,tx,dp,da,made,pend,ans,rfl,_⟩:=h;rfl
 ·obtain⟨tk,tx,dp,da,made,pend,ans,rfl,R,q⟩:=h
  nomatch (aG (aM (IA (aL T.bG T.gD pv0)))),0
  exists R.ins,R.hp
  have n1:=R.n1;exact q _ ⟨by rw[aD n1.1];exact R.ins,aA,by rw[aD R.nda.symm];exact R.ha,R.nda,by simp,.nil,R.la,by simp,R.small⟩ Kp.jL
theorem Ak:Ok T T.tQ 2 (LN ⟨t.aN,t.aP,t.aI⟩):=by
 nomatch T.tQ
 ·obtain⟨R,as,sl,S,w,rfl,_⟩:=h;rfl
 ·obtain⟨R,as,sl,S,w,rfl,A,q⟩:=h
  nomatch (pss3 (c9 T.aW T.dN pv0 (a9 (pa2 aC pv1))) (aM (pmt0 (aL T.aW T.cS pv0) T.bG (jH T) T.fQ)) (aJ (aR (pa1 (a9 (pa2 aC pv1)))))),0
  left
  exists A.ins
  refine fun p hp=>?_;have N1:=q0D (o:=.tup [.str "ended",wv w]) hp;have e1:Wa H p (.tup [.str "ended",wv w]) p=some (.tup [.str "ended",wv w]):=aA;have A1:=A.kp N1
  exists N1.at A.ins
  have A2:=A1.attr 1e21 (.ended w) S.ar S.nw ⟨p,rfl,e1⟩;have F2:=(Fw.of (R:=R) (as:=as) N1).trans (Fw.set (p:=R.x) (o:=(jQ t.aN R 1e21 S.ar S.nw)) (.inl 1e16));generalize Wa (Wa H p (.tup [.str "ended",wv w])) R.x (jQ t.aN R 1e21 S.ar S.nw)=G2 at *;right;left
  exists A2.ins,A2.tk.ins
  refine⟨R.tk,R.tx,R.dp,R.da,_,_,_,rfl,A2.tk,fun H3 T3 K3=>?_⟩;have K4:Kp [R.tk,R.dp,R.da] G2 H3:=K3.mono (by simp;try omega)
  have A3:=A2.tick T3 K4;have F3:=F2.trans (A2.Cu T3 K4);wp_walk;right;wp_walk;refine fun p3 h3 c h4=>?_;have N3:=(q0D (o:=.tup [.str "end",wv w]) h3).trans (Kp.new (o:=.lst [.ref p3]) h4);exact q _ c [.ref p3] _ (A3.kp N3) (F3.free (cR h4)) aA (.cons ((q0D h4).at aA) .nil) (F3.trans (Fw.of N3))
theorem zH:Ok T T.l8 2 (LY ⟨t.aN,t.aP,t.aI⟩):=by
 nomatch T.l8
 ·obtain⟨R,as,sl,S,rfl,_⟩:=h;rfl
 ·obtain⟨R,as,sl,S,rfl,A,q⟩:=h
  nomatch (pss3 (c9 T.aW T.dN pv0 (a9 (pa1 aC))) (aM (pmt0 (aL T.aW T.cS pv0) T.bG (jH T) T.fQ)) (aJ (aR (pa1 (a9 (pa1 aC)))))),0
  left
  exists A.ins
  refine fun p hp=>?_;have N1:=q0D (o:=.tup [.str "worn"]) hp;have e1:Wa H p (.tup [.str "worn"]) p=some (.tup [.str "worn"]):=aA;have A1:=A.kp N1
  exists N1.at A.ins
  have A2:=A1.attr 1e21 (.worn) S.ar S.nw ⟨p,rfl,e1⟩;have F2:=(Fw.of (R:=R) (as:=as) N1).trans (Fw.set (p:=R.x) (o:=(jQ t.aN R 1e21 S.ar S.nw)) (.inl 1e16));generalize Wa (Wa H p (.tup [.str "worn"])) R.x (jQ t.aN R 1e21 S.ar S.nw)=G2 at *;right;left
  exists A2.ins,A2.tk.ins
  refine⟨R.tk,R.tx,R.dp,R.da,_,_,_,rfl,A2.tk,fun H3 T3 K3=>?_⟩;have K4:Kp [R.tk,R.dp,R.da] G2 H3:=K3.mono (by simp;try omega)
  have A3:=A2.tick T3 K4;have F3:=F2.trans (A2.Cu T3 K4);wp_walk;right;wp_walk;refine fun p3 h3 c h4=>?_;have N3:=(q0D (o:=.tup [.str "worn"]) h3).trans (Kp.new (o:=.lst [.ref p3]) h4);exact q _ c [.ref p3] _ (A3.kp N3) (F3.free (cR h4)) aA (.cons ((q0D h4).at aA) .nil) (F3.trans (Fw.of N3))
theorem mH:Ok T T.j6 1 OY:=by
 nomatch T.j6
 ·obtain⟨w,rfl,_⟩:=h;rfl
 ·obtain⟨w,rfl,q⟩:=h
  nomatch (aG (aJ (pY (ptc mK pv0 cD) aB pv0))),0
  exists Fk
  cases w with
  | none=>exact q
  | some n=>exact q
theorem t7:Ok T T.Ab 1 EX:=by
 nomatch T.Ab
 ·obtain⟨n,rfl,_⟩:=h;rfl
 ·obtain⟨n,rfl,q⟩:=h
  nomatch (aG (aJ (aY (gW rfl) rfl T.BV oK (pa2 (fK dM (pX (v:=.int 1000000000) rfl T.lX ⟨_,rfl⟩)) (aY (mY rfl) rfl T.IZ AS (pa2 (pX (v:=.int 1000000000) rfl T.lX ⟨_,rfl⟩) pv0)))))),0
  wp_walk;exact q
theorem i5:Ok T T.gO 1 OZ:=by
 nomatch T.gO
 ·obtain⟨b,rfl,_⟩:=h;rfl
 ·obtain⟨b,rfl,q⟩:=h
  nomatch (aG (aJ (pY (jT pv0) aB aB))),0
  wp_walk;cases b<;>exact q
theorem Iv:Ok T T.Bd 2 Dq:=by
 nomatch T.Bd
 ·obtain⟨g,a,b,rfl,_⟩:=h;rfl
 ·obtain⟨g,a,b,rfl,ha,q⟩:=h
  nomatch (aH (pif (ptc aU pv0 aC) (aG (aJ (pcl (i5 T) T.gO (pa1 (pcr aU pv1 pv2)))))) (aH (pst 3 (pcl (mH T) T.j6 (pa1 pv1))) (aH (pst 4 (pcl (mH T) T.j6 (pa1 pv2))) (aH (pif (ptc aU pv0 aC) (aG (aJ (pcl (i5 T) T.gO (pa1 (pcr jJ pv3 pv4)))))) (pss3 (pif (ptc aU pv0 aC) (aG (aJ (pcl (t7 T) T.Ab (pa1 (bE cG pv3 pv4)))))) (pif (ptc aU pv0 aC) (aG (aJ (pcl (t7 T) T.Ab (pa1 (bE i8 pv3 pv4)))))) (aJ (pcl (t7 T) T.Ab (pa1 (bE oW pv3 pv4))))))))),0
  have b1:=wK ha;cases g with
  | eq =>
   exists Sg.s
   have sc0:WV .Wb .Wb=true:=rfl;have sc1:∀ i,WV .Wb (.int i)=true:=fun _=>rfl;have sc2:∀ i,WV (.int i) .Wb=true:=fun _=>rfl;have sc3:∀ i j,WV (.int i) (.int j)=true:=fun _ _=>rfl;cases a with
   | none=>cases b with
    | none=>simpa[I8,sc0,sc1,sc2,sc3,wv,Dd,Sg.of] using q
    | some n=>simpa[I8,sc0,sc1,sc2,sc3,wv,Dd,Sg.of] using q
   | some m=>cases b with
    | none=>simpa[I8,sc0,sc1,sc2,sc3,wv,Dd,Sg.of] using q
    | some n=>simpa[I8,sc0,sc1,sc2,sc3,wv,Dd,Sg.of] using q
  | lt =>
   exists Sg.s,decide_eq_true_eq
   exact q
  | add =>
   exists Sg.s
   exact q
  | sub =>
   exists Sg.s
   exact q
  | mul =>
   exists Sg.s
   exact⟨Gk 1e0 1e0,q⟩
theorem E3(hn:3<=n)(IH:eP P w K mg base WW n t.uT t.vL ["saying","names","arg","now","answers"] (Oj d)):Ok T T.mD (n+1) (Oj (d+1)):=by
  nomatch T.mD
  · obtain⟨v,dn,da,p,s,rfl,_⟩:=h;rfl
  · obtain⟨v,dn,da,p,s,rfl,hS,hd,Wh,hN,hA,hP,q⟩:=h;have hu:=nU hr
    nomatch (aH (pst 5 1e47) (aH (pif (ptc aU pv5 aC) (aG (aJ 1e47))) (aH (pif (ptc aU pv5 aC) (aG (aJ cD))) (aH (pif (ptc aU pv5 aC) (aG (aJ (uB hu pv1 1e47 ⟨rfl,rfl,rfl,rfl⟩)))) (aH (pif (ptc aU pv5 aC) (aG (aJ pv2))) (aH (pif (ptc aU pv5 aC) (aG (aJ (pcl (t7 T) T.Ab (pa1 pv3))))) (aH (pst 6 (pcl IH T.mD (eJ 1e47 (eJ pv1 (pa3 pv2 pv3 pv4))))) (aH (pif (ptc aU pv5 aC) (aG (aJ (uB hu pv4 pv6 ⟨rfl,rfl,rfl,rfl⟩)))) (pss3 (pif (ptc aU pv5 aC) (aG (aJ (pcl (i5 T) T.gO (pa1 (pcr aU (pcl (mH T) T.j6 (pa1 pv6)) aB)))))) (pst 7 (pcl IH T.mD (eJ 1e47 (eJ pv1 (pa3 pv2 pv3 pv4))))) (aJ (pcl (Iv T) T.Bd (pa3 pv5 pv6 pv7)))))))))))),0
    cases hS with
    | num e =>
      exists e
      exact q
    | Wb e =>
      exists e
      exact q
    | name e =>
      obtain⟨kvs,ek,hk⟩:=hN
      exists e,ek,hk
      exact q
    | arg e =>
      exists e
      exact q
    | now e =>
      exists e
      exact q
    | ans e h1 =>
      exists e
      simp only[Say.depth] at hd;refine⟨_,_,_,p,_,rfl,h1,by omega,Wh,hN,hA,hP,?_⟩;obtain⟨kvs,ek,hk⟩:=hA
      exists e,ek,hk
      exact q
    | neg e h1 =>
      exists e
      simp only[Say.depth] at hd;refine⟨_,_,_,p,_,rfl,h1,by omega,Wh,hN,hA,hP,?_⟩
      exists e,decide_eq_true_eq
      exact q
    | @two a v u g s1 s2 e h1 h2 =>
      simp only[Say.depth] at hd;cases g <;>
      ( exists e,Sg.s
        refine⟨_,_,_,p,_,rfl,h1,by omega,Wh.1,hN,hA,hP,?_⟩
        exists e,Sg.s
        refine⟨_,_,_,p,_,rfl,h2,by omega,Wh.2,hN,hA,hP,?_⟩
        exists e,Sg.s
        exact⟨_,_,_,rfl,FO hP Wh.1,q⟩)
theorem EM(T:Tx P w base K mg t):∀ d,eP P w K mg base WW (d+3) t.uT t.vL ["saying","names","arg","now","answers"] (Oj d):=by
 intro d
 induction d with
 | zero=>exact⟨fun _ _ _ _ x=>by (obtain⟨_,_,_,_,s,_,_,h,_⟩:=x;exact absurd h (by have:=s.m4;omega)),fun _ _ _ _ _ _ _ _ _ _ _ _ _ x=>by (obtain⟨_,_,_,_,s,_,_,h,_⟩:=x;exact absurd h (by have:=s.m4;omega))⟩
 | succ d ih=>exact E3 T 1e0 ih
theorem dI:Ok T T.dG 10 (Dy ⟨t.aN,t.aP,t.aI⟩):=by
 nomatch T.dG
 ·obtain⟨R,as,sl,S,v,s,rfl,_⟩:=h;rfl
 ·obtain⟨R,as,sl,S,v,s,rfl,A,ok,hS,so,q⟩:=h
  nomatch (aG (aJ (pcl (EM T 6) T.mD (eJ pv1 (eJ (aL T.aW T.iS pv0) (pa3 (aL T.aW T.CN pv0) (aL T.aW T.sG pv0) (aL T.bG T.gZ (aL T.aW T.cS pv0)))))))),0
  exists A.ins,A.tk.ins
  exact⟨v,R.nm,R.da,S.pl,s,rfl,hS,so.2,so.1,⟨_,A.nm,pR S.nm⟩,⟨_,A.tk.ha,pD S.ans⟩,ok,q⟩
theorem pT:Ok T T.kU 2 (rV t.aP):=by
 nomatch T.kU
 ·obtain⟨wk,wx,lb,ln,k,n,c,b,bb,r,m,rfl,_⟩:=h;rfl
 ·obtain⟨wk,wx,lb,ln,k,n,c,b,bb,r,m,rfl,W,hm,hs,aa2,q⟩:=h
  nomatch (pss2 (aM (dC (aL T.cY T.iF pv0) (pix aK (pmt0 pv0 T.cY (fT T) T.eI) (bE cG aB pv1)))) (aM (pZ PySem.F.slot_list_extend PySem.F.type_list_extend tY (aL T.cY T.fB pv0) (pa1 (aR (pa2 pv1 aB)))))),0
  obtain⟨vs,eb,hB⟩:=W.bl;have n1:wk≠ln:=cP W.ins W.nu 1e7;have n2:wk≠lb:=cP W.ins eb 1e7;have lv:=hB.len
  exists W.ins,eb
  refine⟨wk,wx,lb,ln,k,n,b,r,m,rfl,W,hm,fun v hv=>?_⟩;obtain⟨a,p,xs,us,rfl,ea,hat,ep,hU⟩:=hv.subAt hs
  exists ea,hat,eb
  have lf:=W.XA;simp only[List.length_cons] at lv lf;refine⟨by omega,?_⟩;have T1:=aE.dF (ys:=vs++[V.ref p]) eb;have i1:Wa H lb (.lst (vs++[.ref p])) wk=some (.ins t.aP wx [("blocks",.ref lb),("numbers",.ref ln)]):=by rw[aD n2];exact W.ins
  have i2:Wa H lb (.lst (vs++[.ref p])) ln=some (.lst ((cO 1e31).map V.int)):=by rw[aD W.ne.symm];exact W.nu
  have i3:Wa H lb (.lst (vs++[.ref p])) lb=some (.lst (vs++[.ref p])):=aA;have K1:Kp [lb] H (Wa H lb (.lst (vs++[.ref p]))):=Kp.jL;have B1:=hB.kp T1;have U1:=hU.kp T1;have p1:=T1 _ _ ep;generalize Wa H lb (.lst (vs++[.ref p]))=G at *
  exists i1,i2
  refine fun l0 f0=>?_;have N0:=q0D (o:=.lst [.int c,.int 0]) f0
  exists N0.at i2,List.length_map
  have ll:=CS 1e31;simp only[List.length_cons] at ll;refine⟨by omega,?_⟩;have nl0:ln≠l0:=aF i2 f0;have nb0:lb≠l0:=aF i3 f0;have nw0:wk≠l0:=aF i1 f0;have T2:aE G (Wa (Wa G l0 (.lst [.int c,.int 0])) ln (.lst ((cO 1e31).map V.int++[.int c,.int 0]))):=(aE.nil N0).tr (aE.dF (N0.at i2));refine q _ ⟨by rw[aD n1,aD nw0];exact i1,⟨_,by rw[aD W.ne,aD nb0];exact i3,.cons (B1.kp T2) (T2 _ _ p1) (U1.kp T2)⟩,by rw[aA,rH];simp,W.ne,by simp only[List.length_cons];omega⟩ ?_;intro d o ed nd;simp only[List.mem_cons,List.not_mem_nil,or_false,not_or] at nd;have g1:=K1.Wl ed nd.1;rw[aD nd.2,aD (aF g1 f0)];exact g1
theorem EI:Ok T T.vU 11 (GO ⟨t.aN,t.aP,t.aI⟩ true):=by
 nomatch T.vU
 ·obtain⟨R,as,sl,S,a,m,N,rfl,_⟩:=h;rfl
 ·obtain⟨R,as,sl,S,a,m,N,rfl,A,hs,hB,F,g,Wq,q⟩:=h
  nomatch (aG (fL (fU Iz 1e60 (a9 (pa2 cD aB)) 1e30) (aG (aM (pmt (aL T.aW T.jR pv0) T.cY (pT T) T.kU (pa1 aB)))) (aG (fL (ptc aU 1e4 aC) (aG (aM (pmt (aL T.aW T.jR pv0) T.cY (pT T) T.kU (pa1 aB)))) (aG (aM (pmt0 (aL T.aW T.jR pv0) T.cY (hW T) T.gC))))))),0
  obtain⟨k0,b0,n0,r0,XO,hm0⟩:=gA Wq;have d0:=F.sk.dp;rw[XO] at d0;have aa2:r0.length<=90:=by have:=d0.1;omega
  have enter:∀(G:Hp) (_:bA ⟨t.aN,t.aP,t.aI⟩ G R as sl S) (_:Fw R as as H G) (c:Nat) (bb:List Stm),m.sub c=some bb->(∀ H',bA ⟨t.aN,t.aP,t.aI⟩ H' R as sl (S.enter c bb)->Fw R as as H H'->Q .Wb H')->rV t.aP [.ref R.wk,.int (c:Int)] G (fun _ H1=>Q .Wb H1) E0:=fun G A FG c bb aaI q=>by
   have W:=A.wk;rw[XO] at W;refine⟨R.wk,R.wx,R.lb,R.ln,k0,n0,c,b0,bb,r0,m,rfl,W,hm0,aaI,aa2,fun H1 W1 K1=>?_⟩;rw[<- XO] at W1;exact q H1 (A.walk W1 K1) (FG.trans (A.vZ W1 K1))
  have pass:∀(G:Hp) (_:bA ⟨t.aN,t.aP,t.aI⟩ G R as sl S) (_:Fw R as as H G),(∀ H',bA ⟨t.aN,t.aP,t.aI⟩ H' R as sl S.pass->Fw R as as H H'->Q .Wb H')->qI t.aP [.ref R.wk] G (fun _ H1=>Q .Wb H1) E0:=fun G A FG q=>by
   have W:=A.wk;rw[XO] at W;refine⟨R.wk,R.wx,R.lb,R.ln,k0,n0,b0,r0,rfl,W,fun H1 W1 K1=>?_⟩;have e:(k0,b0,n0+1)::r0=fZ S.stk:=by rw[XO];rfl
   rw[e] at W1;exact q H1 (A.walk W1 (K1.mono 1e1)) (FG.trans (A.vZ W1 (K1.mono 1e1)))
  cases hs with
  | @Wu a p v s vs b e1 h1 e2 h2 =>
   simp only[sD] at q
   exists A.ins,e1
   refine⟨R,as,sl,S,v,s,rfl,A,F.pl,h1,g.1,?_⟩
   exists A.ins,A.wk.ins,e1
   refine fun p0 h0=>⟨uI _,flat01,?_⟩;rw[Af];have N0:=q0D (o:=.tup [.Wb,.int 0]) h0;have A0:=A.kp N0;have e0:=N0.at e1;have F0:=Fw.of (R:=R) (as:=as) N0;generalize Wa H p0 (.tup [.Wb,.int 0])=G0 at *;by_cases hw:num 1e19=0
   ·rw[if_pos hw] at q;rw[decide_eq_true hw]
    exists A0.ins,A0.wk.ins,e0
    exact pass G0 A0 F0 q
   ·rw[if_neg hw] at q;rw[decide_eq_false hw]
    exists A0.ins,A0.wk.ins,e0
    exact enter G0 A0 F0 0 b rfl q
  | @iff a p p2 v s vs us b o e1 h1 e2 h2 e3 h3 =>
   simp only[sD] at q
   exists A.ins,e1
   refine⟨R,as,sl,S,v,s,rfl,A,F.pl,h1,g.1,?_⟩
   exists A.ins,A.wk.ins,e1
   refine fun p0 h0=>⟨uI _,flat01,?_⟩;rw[Af];have N0:=q0D (o:=.tup [.Wb,.int 0]) h0;have A0:=A.kp N0;have e0:=N0.at e1;have F0:=Fw.of (R:=R) (as:=as) N0;generalize Wa H p0 (.tup [.Wb,.int 0])=G0 at *;by_cases hw:num 1e19=0
   ·rw[if_pos hw] at q;rw[decide_eq_true hw]
    exists A0.ins,A0.wk.ins,e0
    exact enter G0 A0 F0 1 o rfl q
   ·rw[if_neg hw] at q;rw[decide_eq_false hw]
    exists A0.ins,A0.wk.ins,e0
    exact enter G0 A0 F0 0 b rfl q
  | _=>cases hB
theorem Lb:Ok T T.Bb 11 (dD ⟨t.aN,t.aP,t.aI⟩ true (fun m=>∃ x s,m=.set x s)):=by
 nomatch T.Bb
 ·obtain⟨R,as,sl,S,a,m,N,rfl,_⟩:=h;rfl
 ·obtain⟨R,as,sl,S,a,m,N,rfl,A,Ws,hs,⟨x,s,rfl⟩,F,g,hN,q⟩:=h
  nomatch (pss2 (ppt (aL T.aW T.iS pv0) 1e4 1e60) (aJ (aR bQ))),0
  cases hs with
  | @set a x v s e1 h1 =>
   have l1:(fA S.nm).length<=N:=by rw[fA,List.length_map];exact F.nm
   left
   exists A.ins,e1
   refine⟨R,as,sl,S,v,s,rfl,A,F.pl,h1,g,?_⟩
   exists A.ins,e1,A.nm,fS
   refine⟨by omega,?_⟩;have A1:=A.name x 1e19;have F1:=Fw.set (R:=R) (as:=as) (H:=H) (o:=.dK (fA (b8 S.nm x 1e19))) (p:=R.nm) (.inl 1e16);generalize Wa H R.nm (.dK (fA (b8 S.nm x 1e19)))=G1 at *;right;wp_walk;refine fun c hc=>?_;have N4:=q0D (o:=.lst []) hc;exact q _ c [] _ (A1.kp N4) (F1.free hc) aA .nil (F1.trans (Fw.of N4))
theorem xB:Ok T T.kT 1 (Ds t.aI):=by
 nomatch T.kT
 ·obtain⟨tk,tx,dp,da,made,pend,ans,rfl,_⟩:=h;rfl
 ·obtain⟨tk,tx,dp,da,made,pend,ans,rfl,R,hm,hl,q⟩:=h
  nomatch (aH (pst 1 (aL T.bG T.wX pv0)) (pss3 (NO T.bG T.wX pv0 aB) (ppt (aL T.bG T.gD pv0) pv1 xN) (aJ pv1))),0
  exists R.ins
  have n1:=R.n1;have nk:(made:Int)∉pend:=fun z=>by have:=R.lt _ z;omega
  exists aD n1.1.symm,R.hp,xQ (.bl true) (ID nk)
  refine⟨by simp only[i9,List.length_map];omega,?_⟩;refine q _ ⟨by rw[aD n1.1];exact aA,by rw[aA];simp[i9],by rw[aD R.nda.symm,aD n1.2.symm];exact R.ha,R.nda,fun i hi=>?_,?_,fun p hp=>?_,fun p hp z=>?_,by omega⟩ ?_
  ·rcases List.mem_append.mp hi with hi|hi
   ·have:=R.lt i hi;omega
   ·rw[show i=(made:Int) by simpa using hi];omega
  ·refine List.pairwise_append.mpr ⟨R.asc,by simp,fun i hi j hj=>?_⟩;rw[show j=(made:Int) by simpa using hj];exact(R.lt i hi).2
  ·have:=R.la p hp;omega
  ·rcases List.mem_append.mp z with z|z
   ·exact R.dis p hp z
   ·have:=R.la p hp;rw[show p.1=(made:Int) by simpa using z] at this;omega
  ·intro b o eb nb;simp only[List.mem_cons,List.not_mem_nil,or_false,not_or] at nb;rw[aD nb.2,aD nb.1];exact eb
theorem lH:Ok T T.hJ 2 (LQ ⟨t.aN,t.aP,t.aI⟩):=by
 nomatch T.hJ
 ·obtain⟨R,as,sl,S,n,rfl,_⟩:=h;rfl
 ·obtain⟨R,as,sl,S,n,rfl,A,b1,b2,b3,q⟩:=h
  nomatch (pss3 (pst 2 (pmt0 (aL T.aW T.cS pv0) T.bG (xB T) T.kT)) (ppt (aL T.aW T.iS pv0) pv1 pv2) (aJ pv2)),0
  left
  exists A.ins,A.tk.ins
  refine⟨R.tk,R.tx,R.dp,R.da,S.made,S.pend,S.ans,rfl,A.tk,b1,b2,fun H1 T1 K1=>?_⟩;have K2:Kp [R.tk,R.dp,R.da] H H1:=K1.mono (by simp;try omega)
  have A1:=A.tick T1 K2;have F1:=A.Cu T1 K2;wp_walk;right;left;have ep:aO (fA S.nm) (.inr n) (.int (S.made:Int))=fA (b8 S.nm n 1e55):=fS S.nm n 1e55;have l1:(fA S.nm).length<=1000000:=by rw[fA,List.length_map];exact b3
  exists A1.ins,A1.nm,ep
  refine⟨by omega,?_⟩;have A2:=A1.name n 1e55;have F2:=F1.trans (Fw.set (R:=R) (as:=as) (H:=H1) (o:=.dK (fA (b8 S.nm n 1e55))) (p:=R.nm) (.inl 1e16));generalize Wa H1 R.nm (.dK (fA (b8 S.nm n 1e55)))=G2 at *;right;wp_walk;exact q G2 A2 F2
theorem xC:Ok T T.jZ 11 (dD ⟨t.aN,t.aP,t.aI⟩ true (fun m=>∃ x y s,m=.order x y s\/m=.child x y s)):=by
 nomatch T.jZ
 ·obtain⟨R,as,sl,S,a,m,N,rfl,_⟩:=h;rfl
 ·obtain⟨R,as,sl,S,a,m,N,rfl,A,Ws,hs,⟨x,y,s,hm⟩,F,g,hN,q⟩:=h
  nomatch (pss3 (pst 2 1e60) (pst 3 (pmt pv0 T.aW (lH T) T.hJ (pa1 1e4))) (aJ (aR (pa1 (a9 (eJ 1e4 (pa3 pv3 1e4 pv2))))))),0
  rcases hm with rfl|rfl
  ·cases hs with
   | @order a x y v s e1 h1 =>
    left
    exists A.ins,e1
    refine⟨R,as,sl,S,v,s,rfl,A,F.pl,h1,g,?_⟩;wp_walk;right;left
    exists A.ins,e1
    refine⟨R,as,sl,S,x,rfl,A,by have:=F.md;omega,by have:=F.pd;omega,by have:=F.nm;omega,fun H1 A1 F1=>?_⟩;have e2:=A.tkp F1 _ _ e1;wp_walk;right
    exists e2
    refine fun p3 h3 c h4=>?_;have N3:=(q0D (o:=.tup [.str "order",.int S.made,.str y,wv 1e19]) h3).trans (Kp.new (o:=.lst [.ref p3]) h4);exact q _ c [.ref p3] _ (A1.kp N3) (F1.free (cR h4)) aA (.cons ((q0D h4).at aA) .nil) (F1.trans (Fw.of N3))
  ·cases hs with
   | @child a x y v s e1 h1 =>
    left
    exists A.ins,e1
    refine⟨R,as,sl,S,v,s,rfl,A,F.pl,h1,g,?_⟩;wp_walk;right;left
    exists A.ins,e1
    refine⟨R,as,sl,S,x,rfl,A,by have:=F.md;omega,by have:=F.pd;omega,by have:=F.nm;omega,fun H1 A1 F1=>?_⟩;have e2:=A.tkp F1 _ _ e1;wp_walk;right
    exists e2
    refine fun p3 h3 c h4=>?_;have N3:=(q0D (o:=.tup [.str "child",.int S.made,.str y,wv 1e19]) h3).trans (Kp.new (o:=.lst [.ref p3]) h4);exact q _ c [.ref p3] _ (A1.kp N3) (F1.free (cR h4)) aA (.cons ((q0D h4).at aA) .nil) (F1.trans (Fw.of N3))
theorem EK:Ok T T.pK 11 (dD ⟨t.aN,t.aP,t.aI⟩ true (fun m=>∃ x s,m=.Wp x s)):=by
 nomatch T.pK
 ·obtain⟨R,as,sl,S,a,m,N,rfl,_⟩:=h;rfl
 ·obtain⟨R,as,sl,S,a,m,N,rfl,A,Ws,hs,⟨x,s,rfl⟩,F,g,hN,q⟩:=h
  nomatch (aH (pst 2 1e60) (pss3 (pst 3 (aY (mY rfl) rfl T.IZ AS (pa2 (pX (v:=.int 1000000000000) rfl T.sZ ⟨_,rfl⟩) (pY (ptc mK pv2 cD) (aL T.aW T.sG pv0) (bE cG (aL T.aW T.sG pv0) (aY (gW rfl) rfl T.BV oK (pa2 aB pv2))))))) (pst 4 (pmt pv0 T.aW (lH T) T.hJ (pa1 1e4))) (aJ (aR (pa1 (a9 (pa3 aC pv4 pv3))))))),0
  cases hs with
  | @Wp a x v s e1 h1 =>
   left
   exists A.ins,e1
   refine⟨R,as,sl,S,v,s,rfl,A,F.pl,h1,g,?_⟩;wp_walk;right;refine bX fun R2 XE=>?_
   exists A.ins,Fk
   have rest:R2 [some (V.ref R.x),some (V.ref a),some (wv 1e19),some (V.int (vK S.nw 1e19)),none] H:=by
    refine XE _ _ ?_;left
    exists A.ins,e1
    refine⟨R,as,sl,S,x,rfl,A,by have:=F.md;omega,by have:=F.pd;omega,by have:=F.nm;omega,fun H1 A1 F1=>?_⟩;wp_walk;right;wp_walk;refine fun p3 h3 c h4=>?_;have N3:=(q0D (o:=.tup [.str "timer",.int S.made,.int (vK S.nw 1e19)]) h3).trans (Kp.new (o:=.lst [.ref p3]) h4);exact q _ c [.ref p3] _ (A1.kp N3) (F1.free (cR h4)) aA (.cons ((q0D h4).at aA) .nil) (F1.trans (Fw.of N3))
   cases hw:S.worth s with
   | none =>
    rw[hw] at rest;rw[if_pos rfl];exact rest
   | some z =>
    rw[hw] at rest;rw[if_neg 1e1]
    exists wv
    exact rest
theorem Ir:Ok T T.tT 11 (dD ⟨t.aN,t.aP,t.aI⟩ true (fun m=>∃ s k r,m=.send s k r)):=by
 nomatch T.tT
 ·obtain⟨R,as,sl,S,a,m,N,rfl,_⟩:=h;rfl
 ·obtain⟨R,as,sl,S,a,m,N,rfl,A,Ws,hs,⟨s,k,r,rfl⟩,F,g,hN,q⟩:=h
  nomatch (aG (aJ (aR (pa1 (a9 (eJ aC (pa3 1e60 1e4 1e60))))))),0
  cases hs with
  | @send a k v u s r e1 h1 h2 =>
   exists A.ins,e1
   refine⟨R,as,sl,S,v,s,rfl,A,F.pl,h1,g.1,?_⟩
   exists A.ins,e1
   refine⟨R,as,sl,S,u,r,rfl,A,F.pl,h2,g.2,?_⟩;wp_walk;have F1:Fw R as as H H:=Fw.refl;refine fun p3 h3 c h4=>?_;have N3:=(q0D (o:=.tup [.str "send",wv 1e19,.str k,wv (S.worth r)]) h3).trans (Kp.new (o:=.lst [.ref p3]) h4);exact q _ c [.ref p3] _ (A.kp N3) (F1.free (cR h4)) aA (.cons ((q0D h4).at aA) .nil) (F1.trans (Fw.of N3))
theorem mG:Ok T T.iN 1 (Du t.aI):=by
 nomatch T.iN
 ·obtain⟨tk,tx,dp,da,made,pend,ans,i,rfl,_⟩:=h;rfl
 ·obtain⟨tk,tx,dp,da,made,pend,ans,i,rfl,R,hi,q⟩:=h
  nomatch (aG (aM (Lm (aL T.bG T.gD pv0) pv1 ⟨rfl,rfl,rfl,rfl⟩))),0
  obtain⟨v,hv⟩:=IE hi
  exists R.ins,R.hp,hv,IB
  have n1:=R.n1;exact q _ ⟨by rw[aD n1.1];exact R.ins,aA,by rw[aD R.nda.symm];exact R.ha,R.nda,fun j hj=>R.lt j ((List.mem_filter.mp hj).1),R.asc.filter _,R.la,fun p hp z=>R.dis p hp ((List.mem_filter.mp z).1),R.small⟩ Kp.jL
theorem Ip:Ok T T.tR 11 (dD ⟨t.aN,t.aP,t.aI⟩ true (fun m=>∃ s,m=.drop s)):=by
 nomatch T.tR
 ·obtain⟨R,as,sl,S,a,m,N,rfl,_⟩:=h;rfl
 ·obtain⟨R,as,sl,S,a,m,N,rfl,A,Ws,hs,⟨s,rfl⟩,F,g,hN,q⟩:=h
  nomatch (aH (pst 2 1e60) (pss3 (pif (rR (jT (pmt (aL T.aW T.cS pv0) T.bG (g0 T) T.dP (pa1 pv2)))) (aG (aJ (aR bQ)))) (aM (pmt (aL T.aW T.cS pv0) T.bG (mG T) T.iN (pa1 pv2))) (aJ (aR (pa1 (a9 (pa2 aC pv2))))))),0
  cases hs with
  | @drop a v s e1 h1 =>
   left
   exists A.ins,e1
   refine⟨R,as,sl,S,v,s,rfl,A,F.pl,h1,g,?_⟩;wp_walk;right;left
   exists A.ins,A.tk.ins
   refine⟨R.tk,R.tx,R.dp,R.da,_,_,_,S.worth s,rfl,A.tk,?_⟩;by_cases hp:∃ i,i∈S.pend/\S.worth s=some i
   ·rw[decide_eq_true hp];obtain⟨i,hi,hw⟩:=hp;have hwv:wv 1e19=.int i:=by rw[hw];rfl
    have hd:bW S (.drop s)=({S with pend:=S.pend.filter fun j=>decide (j≠i)},[[.str "drop",.int i]]):=by simp only[bW,hw,if_pos hi]
    rw[hd] at q;wp_walk;right;left
    exists A.ins,A.tk.ins,hwv
    refine⟨R.tk,R.tx,R.dp,R.da,_,_,_,i,rfl,A.tk,hi,fun H3 T3 K3=>?_⟩;have K4:Kp [R.tk,R.dp,R.da] H H3:=K3.mono (by simp;try omega)
    have A3:=A.tick T3 K4;have F3:=A.Cu T3 K4;wp_walk;right;wp_walk;refine fun p3 h3 c h4=>?_;have N3:=(q0D (o:=.tup [.str "drop",.int i]) h3).trans (Kp.new (o:=.lst [.ref p3]) h4);exact q _ c [.ref p3] _ (A3.kp N3) (F3.free (cR h4)) aA (.cons ((q0D h4).at aA) .nil) (F3.trans (Fw.of N3))
   ·rw[decide_eq_false hp];have hd:bW S (.drop s)=(S,[]):=by
     cases hw:S.worth s with
     | none=>simp only[bW,hw]
     | some i=>simp only[bW,hw,if_neg (show ¬ i∈S.pend from fun z=>hp ⟨i,z,hw⟩)]
    rw[hd] at q;wp_walk;have F1:Fw R as as H H:=Fw.refl;refine fun c hc=>?_;have N4:=q0D (o:=.lst []) hc;exact q _ c [] _ (A.kp N4) (F1.free hc) aA .nil (F1.trans (Fw.of N4))
theorem nM:Ok T T.gK 1 (AE t.aI):=by
 nomatch T.gK
 ·obtain⟨tk,tx,dp,da,l,made,pend,ans,ws,rfl,_⟩:=h;rfl
 ·obtain⟨tk,tx,dp,da,l,made,pend,ans,ws,rfl,A,el,h4,ha,q⟩:=h;have hu:=nU hr
  nomatch (pss3 (EU (i:=2) sc rfl (Or.inr rfl) (nF (fr:=[0]) (N:=["worth","self"]) rfl (fun _ _ h=>h) (eQ.free rfl rfl rfl rfl rfl (fun _ _ h=>look1 rfl h) rfl 1e6 rfl (fun j hj=>by rw[show j=0 by simpa using hj];exact⟨_,rfl,rfl,.inl rfl⟩)) (nG pv1) (fun C s H ex pn=>⟨nJ (Ru (Gr hu (pv 0) (aL T.bG T.gZ (pv 1)))) ,(pv 0) ⟩))) (pif (ptc jJ (aY D8 rfl T.jU eC (pa1 (cA (zZ rfl) rfl T.Oy Jm (pa1 pv2)))) aB) (aG (aJ (pY (BG pv2 (fun _=>rfl)) (pix aK pv2 aB) cD)))) (NU (aJ (pix aK (nF (fr:=[2]) (N:=["ticket","tickets"]) rfl (fun _ _ h=>h) (eQ.free rfl rfl rfl rfl rfl (fun _ _ h=>look1 rfl h) rfl 1e6 rfl (fun j hj=>by rw[show j=2 by simpa using hj];exact⟨_,rfl,rfl,.inl rfl⟩)) (NK (aL T.bG T.gZ pv0)) (fun C s H ex pn=>⟨nJ (fU jS (pv 0) (pv 1) 1e30) ,(pv 0) ⟩)) aB)))),0
  left
  exists el
  refine⟨⟨_,e9.of el⟩,?_⟩;obtain⟨Pv,Wr⟩:∃ Pv:Nat->List V->Hp->Prop,∀ i xs G,Pv i xs G=(G=H/\xs=(bT ans (ws.take i)).map V.int):=⟨_,fun _ _ _=>rfl⟩;refine Bp (ys:=ws.map wv) Pv ?_ ?_ ?_ ?_ ?_
  ·rw[Wr];exact⟨rfl,rfl⟩
  ·intro i xs G h;rw[Wr] at h;rw[h.2,List.length_map];have:=m5 ans (ws.take i);have:(ws.take i).length<=ws.length:=by rw[List.length_take];omega
   omega
  ·intro i xs G h;rw[Wr] at h;rw[h.1];exact e9.of el
  ·intro i y xs G hi ey h;rw[Wr] at h;obtain⟨rfl,rfl⟩:=h;obtain⟨w0,ew,rfl⟩:∃ w0,ws[i]?=some w0/\y=wv w0:=by
    rw[List.getElem?_map] at ey;obtain⟨w0,a,b⟩:=Option.map_eq_some_iff.mp ey;exact⟨w0,a,b.symm⟩
   exists aT,Option.join_some,A.ins,A.ha,Mo
   rw[Wr,Wr,El ew];split
   ·exact⟨rfl,rfl⟩
   ·exact⟨rfl,rfl⟩
  intro xs G h p hp;rw[Wr] at h;obtain⟨rfl,rfl⟩:=h;rw[show ws.take (ws.map wv).length=ws by rw[List.length_map,List.take_length]];right
  exists aA
  refine⟨bT ans ws,rfl,Nat.le_trans (m5 ans ws) h4,fun c hc=>⟨_,rfl,?_⟩⟩;have n1:p≠c:=aF aA hc;have K2:∀ o,Kp [] G (Wa (Wa G p (.lst ((bT ans ws).map V.int))) c o):=fun o=>(Kp.new hp).trans (Kp.new hc);have e2:∀ o,Wa (Wa G p (.lst ((bT ans ws).map V.int))) c o p=some (.lst ((bT ans ws).map V.int)):=fun o=>by rw[aD n1,aA]
  generalize hG2:Wa (Wa G p (.lst ((bT ans ws).map V.int))) c _=G2;replace K2:Kp [] G G2:=hG2▸K2 _;replace e2:G2 p=some (.lst ((bT ans ws).map V.int)):=hG2▸e2 _;clear hG2;have A2:=A.kp K2;have qq:=q G2 K2;by_cases hl:(lJ (bT ans ws)).length < 2
  ·rw[if_pos 1e0];rw[HR hl] at qq;cases ed:bT ans ws with
   | nil =>
    rw[ed] at e2 qq
    exists e2
    rw[if_neg 1e1];exact qq
   | cons i r =>
    rw[ed] at e2 qq
    exists e2
    rw[if_pos 1e1];exact qq
  rw[if_neg 1e0];obtain⟨i,r,ef,fo⟩:=Er hl;rw[fo] at qq
  exists A2.ins,A2.ha,e2
  refine fun o=>?_;have npd:p≠da:=fun z=>by
   rw[z,A2.ha] at e2;cases e2
  generalize hG3:Wa G2 da (.Wz o (.dK (iD ans)))=G3;have e3:G3 p=some (.lst ((bT ans ws).map V.int)):=by rw[<- hG3,aD npd];exact e2
  have d3:G3 da=some (.Wz o (.dK (iD ans))):=by rw[<- hG3];exact aA
  obtain⟨Pw,WE⟩:∃ Pw:Nat->List V->Hp->Prop,∀ i xs G',Pw i xs G'=(G'=G3/\xs=(((ans.map (·.1)).take i).filter fun i=>decide (i∈bT ans ws)).map V.int):=⟨_,fun _ _ _=>rfl⟩;refine Nx Pw ?_ ?_ ?_ ?_ ?_
  ·rw[WE];exact⟨rfl,rfl⟩
  ·intro j xs G' h;rw[WE] at h;rw[h.2,List.length_map];have h1:=List.length_filter_le (fun i=>decide (i∈bT ans ws)) ((ans.map (·.1)).take j);have h2:((ans.map (·.1)).take j).length<=ans.length:=by rw[List.length_take,List.length_map];omega
   omega
  ·intro j xs G' h;rw[WE] at h;rw[h.1];exact d3
  ·intro j kv xs G' hj ekv h;rw[WE] at h;obtain⟨rfl,rfl⟩:=h;obtain⟨a0,ea,rfl⟩:∃ a0,ans[j]?=some a0/\kv=(Key.inl a0.1,wv a0.2):=by
    rw[iD,List.getElem?_map] at ekv;obtain⟨a0,x,y⟩:=Option.map_eq_some_iff.mp ekv;exact⟨a0,x,y.symm⟩
   have es:(((ans.map (·.1)).take (j+1)).filter fun i=>decide (i∈bT ans ws)).map V.int=if a0.1∈bT ans ws then (((ans.map (·.1)).take j).filter fun i=>decide (i∈bT ans ws)).map V.int++[V.int a0.1] else (((ans.map (·.1)).take j).filter fun i=>decide (i∈bT ans ws)).map V.int:=by
    rw[List.take_add_one,List.getElem?_map,ea];simp only[Option.map_some,Option.toList_some,List.filter_append,List.map_append];split
    ·next h=>simp[h]
    ·next h=>simp[h]
   show DF _ (some (V.int a0.1)::_) _ _
   exists aT,Option.join_some,e3
   refine⟨rfl,by simp[eL],?_⟩;rw[WE,WE,es,Cy];by_cases hm:a0.1∈bT ans ws
   ·rw[if_pos (by simpa using hm),if_pos hm];exact⟨rfl,rfl⟩
   ·rw[if_neg (by simpa using hm),if_neg hm];exact⟨rfl,rfl⟩
  intro xs G' h pp hpp;rw[WE] at h;obtain⟨rfl,rfl⟩:=h;rw[show(ans.map (·.1)).take (iD ans).length=ans.map (·.1) by rw[iD,List.length_map,<- List.length_map (f:=fun p:Int×Wo=>p.1) (as:=ans),List.take_length],ef]
  exists aA,List.map_cons
  have npp:da≠pp:=aF d3 hpp;have KK:Kp [] G (Wa (Wa G' pp (.lst (V.int i::r.map V.int))) da (.dK (iD ans))):=fun b ob eb nb=>by
   by_cases hb:b=da
   ·subst hb;rw[aA];rw[A.ha] at eb;exact eb
   ·have e4:G' b=some ob:=by rw[<- hG3,aD hb];exact K2 b ob eb nb
    rw[aD hb,aD (aF e4 hpp)];exact e4
  have q3:=q _ KK;rw[fo] at q3;exact⟨da,o,iD ans,by rw[aD npp];exact d3,(fun ob u z=>by
   have z:G da=some (.Wz ob u):=z;rw[A.ha] at z;cases z),q3⟩
theorem Iu:Ok T T.tU 11 (dD ⟨t.aN,t.aP,t.aI⟩ true (fun m=>∃ x ss,m=.wait x ss)):=by
 nomatch T.tU
 ·obtain⟨R,as,sl,S,a,m,N,rfl,_⟩:=h;rfl
 ·obtain⟨R,as,sl,S,a,m,N,rfl,A,Ws,hs,⟨x,ss,rfl⟩,F,g,hN,q⟩:=h
  nomatch (aH (xP (i:=2) (fr:=[0]) (N:=["saying","run"]) rfl (fun _ _ h=>h) (eQ.free rfl rfl rfl rfl rfl (fun _ _ h=>h) rfl 1e6 rfl (fun j hj=>by rw[show j=0 by simpa using hj];exact⟨_,rfl,rfl,.inl rfl⟩)) (Lv 1e4) (fun C s H ex pn=>⟨BH,(BD (pv 1) T.aW T.dG.m (dI T) (hr.mono 1e0) T.dG.bd .nil pass0 (eJ (pv 0) bQ)) ⟩) sc rfl (Or.inl rfl)) (aH (pst 3 (pmt (aL T.aW T.cS pv0) T.bG (nM T) T.gK (pa1 pv2))) (pss3 (pst 4 (aY (Ea rfl) rfl T.uJ zX (pa1 (cA (zZ rfl) rfl T.Oy Jm (pa1 (nF (fr:=[0]) (N:=["worth","run"]) rfl (fun _ _ h=>h) (eQ.free rfl rfl rfl rfl rfl (fun _ _ h=>h) rfl 1e6 rfl (fun j hj=>by rw[show j=0 by simpa using hj];exact⟨_,rfl,rfl,.inl rfl⟩)) (nG pv2) (fun C s H ex pn=>⟨nJ (jT (BD (aL T.aW T.cS (pv 1)) T.bG T.dP.m (g0 T) (hr.mono 1e0) T.dP.bd .nil pass0 (eJ (pv 0) bQ))) ,(pv 0) ⟩))))))) (fL (PW.pt (eY (ptc mK pv3 cD) (eE (BG pv4 (fun _=>rfl))))) (aG (c9 T.aW T.dN pv0 (a9 (pa2 aC (cA gX rfl T.iK fJ (pa1 pv4)))))) (aG (ppt (aL T.aW T.iS pv0) 1e4 pv3))) (aJ (aR bQ))))),0
  cases hs with
  | @wait a pw x vs ss e1 e2 hs2 =>
   obtain⟨_,g4,gs⟩:=g;have l1:(fA S.nm).length<=N:=by rw[fA,List.length_map];exact F.nm
   have lv:=hs2.Q7;left
   exists A.ins,e1
   refine⟨⟨_,g9.of e2⟩,?_⟩;obtain⟨Pv,Wr⟩:∃ Pv:Nat->List V->Hp->Prop,∀ i xs G,Pv i xs G=(G=H/\xs=((ss.take i).map S.worth).map wv):=⟨_,fun _ _ _=>rfl⟩;refine Kx (ys:=vs) Pv ?_ ?_ ?_ ?_ ?_
   ·rw[Wr];exact⟨rfl,rfl⟩
   ·intro i xs G h;rw[Wr] at h;rw[h.2,List.length_map,List.length_map,List.length_take];omega
   ·intro i xs G h;rw[Wr] at h;rw[h.1];exact g9.of e2
   ·intro i y xs G hi ey h;rw[Wr] at h;obtain⟨rfl,rfl⟩:=h;obtain⟨s0,es,h0⟩:=hs2.atW ey
    exists aT,Option.join_some,A.ins
    refine⟨R,as,sl,S,y,s0,rfl,A,F.pl,h0,gs s0 (List.mem_of_getElem? es),?_⟩;show Pv (i+1) _ _;rw[Wr,List.take_add_one,es];exact⟨rfl,by simp⟩
   intro xs G h p1 Zd;rw[Wr] at h;obtain⟨rfl,rfl⟩:=h;rw[lv,List.take_length];obtain⟨ws,Xq⟩:∃ ws,ws=ss.map S.worth:=⟨_,rfl⟩;have hd:bW S (.wait x ss)=if aZ S.ans ws=none/\bI S.pend ws≠[] then ({S with sl:=.wait (bI S.pend ws)},[]) else ({S with nm:=b8 S.nm x (aZ S.ans ws)},[]):=by rw[Xq];rfl
   rw[<- Xq];have lw:ws.length<=4:=by rw[Xq,List.length_map];exact g4
   clear Xq Wr Pv;rw[hd] at q;clear hd;have N1:=q0D (o:=.lst (ws.map wv)) Zd;have f1:Wa G p1 1e38 p1=some 1e38:=aA;have A1:=A.kp N1;have e3:=N1.at e1;have F1:=Fw.of (R:=R) (as:=as) N1;generalize Wa G p1 1e38=G1 at *;right;left
   exists A1.ins,A1.tk.ins
   refine⟨R.tk,R.tx,R.dp,R.da,p1,_,_,_,ws,rfl,A1.tk,f1,lw,by have:=F.an;omega,fun G2 K2=>?_⟩;have A2:=A1.kp K2;have f2:=K2.at f1;have e4:=K2.at e3;have F2:=F1.trans (Fw.of K2);wp_walk;right;left
   exists A2.ins,A2.tk.ins,f2
   refine⟨⟨_,e9.of f2⟩,?_⟩;obtain⟨Pw,WE⟩:∃ Pw:Nat->List V->Hp->Prop,∀ i xs G',Pw i xs G'=(G'=G2/\xs=(dB S.pend (ws.take i)).map V.int):=⟨_,fun _ _ _=>rfl⟩;refine Bp (ys:=ws.map wv) Pw ?_ ?_ ?_ ?_ ?_
   ·rw[WE];exact⟨rfl,rfl⟩
   ·intro i xs G' h;rw[WE] at h;rw[h.2,List.length_map];have:=kI S.pend (ws.take i);have:(ws.take i).length<=ws.length:=by rw[List.length_take];omega
    omega
   ·intro i xs G' h;rw[WE] at h;rw[h.1];exact e9.of f2
   ·intro i y xs G' hi ey h;rw[WE] at h;obtain⟨rfl,rfl⟩:=h;obtain⟨w0,ew,rfl⟩:∃ w0,ws[i]?=some w0/\y=wv w0:=by
     rw[List.getElem?_map] at ey;obtain⟨w0,a,b⟩:=Option.map_eq_some_iff.mp ey;exact⟨w0,a,b.symm⟩
    exists aT,Option.join_some,A2.ins,A2.tk.ins
    refine⟨R.tk,R.tx,R.dp,R.da,_,_,_,w0,rfl,A2.tk,?_⟩;show Ld (V.bl _) _;wp_walk;rw[WE,WE,ES ew];split
    ·next h=>exact⟨rfl,(if_pos (decide_eq_true h)).symm⟩
    ·next h=>exact⟨rfl,(if_neg 1e37).symm⟩
   intro xs G' h p3 ZM;rw[WE] at h;obtain⟨rfl,rfl⟩:=h;rw[show ws.take (ws.map wv).length=ws by rw[List.length_map,List.take_length]];clear WE Pw
   exists aA
   refine⟨dB S.pend ws,rfl,Nat.le_trans (kI S.pend ws) lw,fun c hc=>⟨_,rfl,?_,fun l4 ns h4 WI ZN=>?_⟩⟩
   ·have:=xG (fun i=>(dB S.pend ws).getD i 0) (dB S.pend ws).length;have:=kI S.pend ws;show(once _ _).length < 64;omega
   obtain rfl:=C4 WI ZN;have N3:=((q0D ZM).trans (Kp.new hc)).trans (Kp.new (o:=.lst 1e22) h4);have f4:∀ G5:Hp,Wa G5 l4 (.lst 1e22) l4=some (.lst 1e22):=fun _=>aA;generalize hG4:Wa (Wa (Wa G' p3 (.lst ((dB S.pend ws).map V.int))) c _) l4 (.lst 1e22)=G4 at N3 ⊢;replace f4:G4 l4=some (.lst 1e22):=hG4▸f4 _;clear hG4 WI ZN h4 hc ZM;have A4:=A2.kp N3;have e5:=N3.at e4;have F4:=F2.trans (Fw.of N3);right;refine bX fun R4 ZE=>?_;have named:¬ (aZ S.ans ws=none/\bI S.pend ws≠[])->R4 [some (V.ref R.x),some (V.ref a),some (V.ref p1),some (wv (aZ S.ans ws)),some (V.ref l4)] (Wa G4 R.nm (.dK (fA (b8 S.nm x (aZ S.ans ws))))):=fun hn=>by
    rw[if_neg hn] at q;have A6:=A4.name x (aZ S.ans ws);have F6:=F4.trans (Fw.set (p:=R.nm) (o:=.dK (fA (b8 S.nm x (aZ S.ans ws)))) (.inl 1e16));refine ZE _ _ ?_;generalize Wa G4 R.nm (.dK (fA (b8 S.nm x (aZ S.ans ws))))=G6 at *;wp_walk;refine fun c hc=>?_;have N4:=q0D (o:=.lst []) hc;exact q _ c [] _ (A6.kp N4) (F6.free hc) aA .nil (F6.trans (Fw.of N4))
   exists A4.ins,f4,Fk,e5,A4.nm,fS
   by_cases hf:aZ S.ans ws=none
   ·rw[if_pos hf];by_cases ho:bI S.pend ws=[]
    ·rw[if_neg (by rw[ho];simp)];exact⟨by first|omega|(rw[sizeLine_eq];omega),named fun z=>z.2 ho⟩
    ·rw[if_pos (by simpa using ho)];rw[if_pos ⟨hf,ho⟩] at q;refine fun l5 h5 p6 h6=>?_;have N5:=(q0D (o:=.tup 1e22) h5).trans (Kp.new (o:=.tup [.str "wait",.ref l5]) h6);have f6:Wa (Wa G4 l5 (.tup 1e22)) p6 (.tup [.str "wait",.ref l5]) p6=some (.tup [.str "wait",.ref l5]):=aA;have f5:Wa (Wa G4 l5 (.tup 1e22)) p6 (.tup [.str "wait",.ref l5]) l5=some (.tup 1e22):=by rw[aD (aF aA h6),aA]
     have A5:=A4.kp N5;clear named h6 h5;generalize Wa (Wa G4 l5 (.tup 1e22)) p6 (.tup [.str "wait",.ref l5])=G5 at *
     exists A5.ins
     have A6:=A5.attr (.ref p6) (.wait (bI S.pend ws)) S.ar S.nw ⟨p6,l5,rfl,f6,f5⟩;have F6:=(F4.trans (Fw.of N5)).trans (Fw.set (p:=R.x) (o:=(jQ t.aN R (.ref p6) S.ar S.nw)) (.inl 1e16));refine ZE _ _ ?_;generalize Wa G5 R.x (jQ t.aN R (.ref p6) S.ar S.nw)=G6 at *;wp_walk;refine fun c hc=>?_;have N4:=q0D (o:=.lst []) hc;exact q _ c [] _ (A6.kp N4) (F6.free hc) aA .nil (F6.trans (Fw.of N4))
   ·rw[if_neg hf];exact⟨by first|omega|(rw[sizeLine_eq];omega),named fun z=>hf z.1⟩
theorem Iq:Ok T T.tS 11 (dD ⟨t.aN,t.aP,t.aI⟩ true (fun m=>∃ x k,m=.Wg x k)):=by
 nomatch T.tS
 ·obtain⟨R,as,sl,S,a,m,N,rfl,_⟩:=h;rfl
 ·obtain⟨R,as,sl,S,a,m,N,rfl,A,Ws,hs,⟨x,k,rfl⟩,F,g,hN,q⟩:=h;have hu:=nU hr
  nomatch (pss3 (pst 2 (rO hu (aL T.aW T.kF pv0) 1e4 (aR bQ) ⟨rfl,rfl,rfl,rfl⟩)) (fL (BG pv2 (fun _=>rfl)) (aG (ppt (aL T.aW T.iS pv0) 1e4 (pZ PySem.F.slot_list_pop PySem.F.type_list_pop Bv pv2 (pa1 aB)))) (aG (c9 T.aW T.dN pv0 (a9 (pa2 aC 1e4))))) (aJ (aR bQ))),0
  cases hs with
  | @Wg a x k e1 =>
   obtain⟨kvs,el,L⟩:=A.lt;have l1:(fA S.nm).length<=N:=by rw[fA,List.length_map];exact F.nm
   refine bX fun R1 hR1=>?_
   exists A.ins,el,e1
   refine fun p1 h1=>?_;generalize hg:Wa H p1 1e10=G1;have N1:Kp [] H G1:=hg▸Kp.new h1;have f1:G1 p1=some 1e10:=hg▸aA;clear hg;have A1:=A.kp N1;have Xs:=N1.at e1;have Zl:=N1.at el;have L1:=L.keep (fun a _ o h=>N1.at h);have F1:=Fw.of (R:=R) (as:=as) N1;have ZW:∀ l:Addr,G1 l=some 1e10->(aS S.lt k).getD []=[]->R1 [some (.ref R.x),some 1e11,some (.ref l)] G1:=fun l hl hq=>by
    have hd:bW S (.Wg x k)=({S with sl:=.Wg k},[]):=by simp only[bW,hq]
    rw[hd] at q;refine hR1 _ _ ?_;refine bX fun R2 XE=>?_
    exists hl,Xs
    refine fun p2 h2=>?_;have N2:=q0D (o:=.tup [.str "hear",.str k]) h2;have f2:Wa G1 p2 (.tup [.str "hear",.str k]) p2=some (.tup [.str "hear",.str k]):=aA;have A2:=A1.kp N2
    exists N2.at A1.ins
    have A3:=A2.attr (.ref p2) (.Wg k) S.ar S.nw ⟨p2,rfl,f2⟩;have F3:=(F1.trans (Fw.of N2)).trans (Fw.set (p:=R.x) (o:=(jQ t.aN R (.ref p2) S.ar S.nw)) (.inl 1e16));refine XE _ _ ?_;generalize Wa (Wa G1 p2 (.tup [.str "hear",.str k])) R.x (jQ t.aN R (.ref p2) S.ar S.nw)=G3 at *;wp_walk;refine fun c hc=>?_;have N4:=q0D (o:=.lst []) hc;exact q _ c [] _ (A3.kp N4) (F3.free hc) aA .nil (F3.trans (Fw.of N4))
   rcases L1.look k with⟨hv,hn⟩|⟨l,ws,hv,hn,hl,ew⟩
   ·exists A1.ins,Zl,Xs,hv,Option.getD_none
    exact ZW p1 f1 (by rw[hn];rfl)
   ·exists A1.ins,Zl,Xs,hv,Option.getD_some
    cases ws with
    | nil=>exact ZW l ew (by rw[hn];rfl)
    | cons w r =>
     have hd:bW S (.Wg x k)=({S with nm:=b8 S.nm x w,lt:=dF S.lt k r},[]):=by simp only[bW,hn,Option.getD_some]
     rw[hd] at q;rw[List.map_cons] at ew;refine hR1 _ _ ?_;refine bX fun R2 XE=>?_;obtain⟨A2,Zo⟩:=A1.wR Zl hv r;have F2:=F1.trans (Fw.set (p:=l) (o:=.lst (r.map wv)) (.inr Zo));have e2:=A1.tkp (Fw.set (p:=l) (o:=.lst (r.map wv)) (.inr Zo)) _ _ Xs
     exists ew,List.tail_cons,List.isEmpty_cons,Bool.not_false,A2.ins,e2,A2.nm,fS
     have A3:=A2.name x w;have F3:=F2.trans (Fw.set (p:=R.nm) (o:=.dK 1e25) (.inl 1e16));refine⟨by omega,XE _ _ ?_⟩;generalize Wa (Wa G1 l (.lst (r.map wv))) R.nm (.dK 1e25)=G3 at *;wp_walk;refine fun c hc=>?_;have N4:=q0D (o:=.lst []) hc;exact q _ c [] _ (A3.kp N4) (F3.free hc) aA .nil (F3.trans (Fw.of N4))
theorem La:Ok T T.Ba 11 (dD ⟨t.aN,t.aP,t.aI⟩ true (fun m=>∃ s,m=.fin s)):=by
 nomatch T.Ba
 ·obtain⟨R,as,sl,S,a,m,N,rfl,_⟩:=h;rfl
 ·obtain⟨R,as,sl,S,a,m,N,rfl,A,Ws,hs,⟨s,rfl⟩,F,g,hN,q⟩:=h
  nomatch (aG (aJ (pmt pv0 T.aW (Ak T) T.tQ (pa1 1e60)))),0
  cases hs with
  | @fin a v s e1 h1 =>
   exists A.ins,e1
   refine⟨R,as,sl,S,v,s,rfl,A,F.pl,h1,g,?_⟩;wp_walk;exact⟨R,as,sl,S,_,rfl,A,q⟩
theorem CU:Ok T T.qS 12 (LR ⟨t.aN,t.aP,t.aI⟩ true):=by
  nomatch T.qS
  · obtain⟨R,as,sl,S,a,m,N,rfl,_⟩:=h;rfl
  · obtain⟨R,as,sl,S,a,m,N,rfl,A,Ws,hs,F,g,Wq,hN,q⟩:=h
    nomatch (aH (pst 2 1e4) (aH (pif (PW.pt (GB (ptc aU pv2 aC) (BI (ptc aU pv2 aC)))) (pss2 (aM (pmt pv0 T.aW (EI T) T.vU (pa1 pv1))) (aJ (aR bQ)))) (pss3 (pst 3 (NI (tab:=[ ("set",(dD ⟨t.aN,t.aP,t.aI⟩ true (fun m=>∃ x s,m=.set x s))) ,("order",(dD ⟨t.aN,t.aP,t.aI⟩ true (fun m=>∃ x y s,m=.order x y s\/m=.child x y s))) ,("timer",(dD ⟨t.aN,t.aP,t.aI⟩ true (fun m=>∃ x s,m=.Wp x s))) ,("child",(dD ⟨t.aN,t.aP,t.aI⟩ true (fun m=>∃ x y s,m=.order x y s\/m=.child x y s))) ,("send",(dD ⟨t.aN,t.aP,t.aI⟩ true (fun m=>∃ s k r,m=.send s k r))) ,("drop",(dD ⟨t.aN,t.aP,t.aI⟩ true (fun m=>∃ s,m=.drop s))) ,("wait",(dD ⟨t.aN,t.aP,t.aI⟩ true (fun m=>∃ x ss,m=.wait x ss))) ,("hear",(dD ⟨t.aN,t.aP,t.aI⟩ true (fun m=>∃ x k,m=.Wg x k))) ,("end",(dD ⟨t.aN,t.aP,t.aI⟩ true (fun m=>∃ s,m=.fin s))) ]) rfl T.Pt T.NB pv2 (fun _ _=>rfl) (fun y sp h=>deeds9 (Z:=fun y sp=>∃ f fd ps,PySem.W.nsIn K t.iI y=some (some (.ref f))/\eP P w K mg base WW 11 f fd ps sp/\PySem.W.keepIn K (.ref f)=true/\Binds K fd ps []) h ⟨_,_,_,T.Im,(Lb T).mono 1e6 ,T.Bb.fn.kp,T.Bb.bd⟩ ⟨_,_,_,T.CL,(xC T).mono 1e6 ,T.jZ.fn.kp,T.jZ.bd⟩ ⟨_,_,_,T.CM,(EK T).mono 1e6 ,T.pK.fn.kp,T.pK.bd⟩ ⟨_,_,_,T.CK,(xC T).mono 1e6 ,T.jZ.fn.kp,T.jZ.bd⟩ ⟨_,_,_,T.EE,(Ir T).mono 1e6 ,T.tT.fn.kp,T.tT.bd⟩ ⟨_,_,_,T.EC,(Ip T).mono 1e6 ,T.tR.fn.kp,T.tR.bd⟩ ⟨_,_,_,T.EF,(Iu T).mono 1e6 ,T.tU.fn.kp,T.tU.bd⟩ ⟨_,_,_,T.ED,(Iq T).mono 1e6 ,T.tS.fn.kp,T.tS.bd⟩ ⟨_,_,_,T.Il,(La T).mono 1e6 ,T.Ba.fn.kp,T.Ba.bd⟩) (hr.mono 1e0) (pa2 pv0 pv1))) (pif (ptc mK (aL T.aW T.dN pv0) cD) (aG (aM (pmt0 (aL T.aW T.jR pv0) T.cY (hW T) T.gC)))) (aJ pv3)))),0
    have tail:m.isB=false->∀(kd WA:V) (c:Addr) (us:List V) (H':Hp),bA ⟨t.aN,t.aP,t.aI⟩ H' R as WA (bW S m).1->H c=none->H' c=some (.lst us)->hZ H' us (bW S m).2->Fw R as as H H' ->
        Fb (DD (Fx (Oq Py (Mu t.aN "sleep" (jY 0)) (tC .Wb))) (L4 (Ca t.aP "pass_by" (qI t.aP) (Mu t.aN "walk" (jY 0)) yM)) Hc) (RM (jY 3)) {nx:=fun _ H'=>Q .Wb H',rt:=Q} [some (.ref R.x),some a,some kd,some (.ref c)] H':=fun hB kd WA c us H' A' hc ec hC FF=>by
      rw[i6 hB] at q;left;rcases A'.slp.isN with⟨hn,rfl⟩|⟨hn,p,rfl⟩
      · simp only[hn,if_true] at q;obtain⟨k0,b0,n0,r0,XO,hm0⟩:=gA Wq
        exists A'.ins,A'.wk.ins
        have W:=A'.wk;rw[l7,XO] at W;refine⟨R.wk,R.wx,R.lb,R.ln,k0,n0,b0,r0,rfl,W,fun H1 W1 K1=>?_⟩;have e:(k0,b0,n0+1)::r0=fZ (bW S m).1.stk:=by rw[l7,XO];rfl
        rw[e] at W1;have A2:=A'.walk W1 (K1.mono 1e1);have F2:=A'.vZ W1 (K1.mono 1e1);wp_walk;right;wp_walk;have nc:=A.gT hc;exact q .Wb c us H1 A2 hc (F2.kp _ _ ec nc.1 nc.2) (hC.kt (A'.tkp F2)) (FF.trans F2)
      · simp only[hn,if_false,Bool.false_eq_true] at q
        exists A'.ins
        right;wp_walk;exact q 1e21 c us H' A' hc ec hC FF
    cases hs with
    | @set a0 x v s e1 h1 =>
      left
      exists e1
      right;left;wp_walk;right;refine bX fun R3 XF=>?_
      exists k6,gQ,gR,gP,iQ,iO,iR,iP,k5
      refine⟨R,as,sl,S,_,_,N,rfl,A,Ws,.set e1 h1,⟨_,_,rfl⟩,F,g,hN,fun WA c us H' A' hc ec hC FF=>?_⟩;wp_walk;exact XF _ _ 1e49
    | @order a0 x y v s e1 h1 =>
      left
      exists e1
      right;left;wp_walk;right;refine bX fun R3 XF=>?_
      exists k6,gQ,gR,gP,iQ,iO,iR,iP,k5
      refine⟨R,as,sl,S,_,_,N,rfl,A,Ws,.order e1 h1,⟨_,_,_,.inl rfl⟩,F,g,hN,fun WA c us H' A' hc ec hC FF=>?_⟩;wp_walk;exact XF _ _ 1e49
    | @Wp a0 x v s e1 h1 =>
      left
      exists e1
      right;left;wp_walk;right;refine bX fun R3 XF=>?_
      exists k6,gQ,gR,gP,iQ,iO,iR,iP,k5
      refine⟨R,as,sl,S,_,_,N,rfl,A,Ws,.Wp e1 h1,⟨_,_,rfl⟩,F,g,hN,fun WA c us H' A' hc ec hC FF=>?_⟩;wp_walk;exact XF _ _ 1e49
    | @child a0 x y v s e1 h1 =>
      left
      exists e1
      right;left;wp_walk;right;refine bX fun R3 XF=>?_
      exists k6,gQ,gR,gP,iQ,iO,iR,iP,k5
      refine⟨R,as,sl,S,_,_,N,rfl,A,Ws,.child e1 h1,⟨_,_,_,.inr rfl⟩,F,g,hN,fun WA c us H' A' hc ec hC FF=>?_⟩;wp_walk;exact XF _ _ 1e49
    | @send a0 k v u s r e1 h1 h2 =>
      left
      exists e1
      right;left;wp_walk;right;refine bX fun R3 XF=>?_
      exists k6,gQ,gR,gP,iQ,iO,iR,iP,k5
      refine⟨R,as,sl,S,_,_,N,rfl,A,Ws,.send e1 h1 h2,⟨_,_,_,rfl⟩,F,g,hN,fun WA c us H' A' hc ec hC FF=>?_⟩;wp_walk;exact XF _ _ 1e49
    | @drop a0 v s e1 h1 =>
      left
      exists e1
      right;left;wp_walk;right;refine bX fun R3 XF=>?_
      exists k6,gQ,gR,gP,iQ,iO,iR,iP,k5
      refine⟨R,as,sl,S,_,_,N,rfl,A,Ws,.drop e1 h1,⟨_,rfl⟩,F,g,hN,fun WA c us H' A' hc ec hC FF=>?_⟩;wp_walk;exact XF _ _ 1e49
    | @Wg a0 x k e1 =>
      left
      exists e1
      right;left;wp_walk;right;refine bX fun R3 XF=>?_
      exists k6,gQ,gR,gP,iQ,iO,iR,iP,k5
      refine⟨R,as,sl,S,_,_,N,rfl,A,Ws,.Wg e1,⟨_,_,rfl⟩,F,g,hN,fun WA c us H' A' hc ec hC FF=>?_⟩;wp_walk;exact XF _ _ 1e49
    | @fin a0 v s e1 h1 =>
      left
      exists e1
      right;left;wp_walk;right;refine bX fun R3 XF=>?_
      exists k6,gQ,gR,gP,iQ,iO,iR,iP,k5
      refine⟨R,as,sl,S,_,_,N,rfl,A,Ws,.fin e1 h1,⟨_,rfl⟩,F,g,hN,fun WA c us H' A' hc ec hC FF=>?_⟩;wp_walk;exact XF _ _ 1e49
    | @wait a0 p x vs ss e1 e2 h1 =>
      left
      exists e1
      right;left;wp_walk;right;refine bX fun R3 XF=>?_
      exists k6,gQ,gR,gP,iQ,iO,iR,iP,k5
      refine⟨R,as,sl,S,_,_,N,rfl,A,Ws,.wait e1 e2 h1,⟨_,_,rfl⟩,F,g,hN,fun WA c us H' A' hc ec hC FF=>?_⟩;wp_walk;exact XF _ _ 1e49
    | @Wu a0 p v s vs b e1 h1 e2 h2 =>
      rw[An rfl] at q;left
      exists e1
      right
      exists A.ins
      refine⟨R,as,sl,S,_,_,N,rfl,A,.Wu e1 h1 e2 h2,rfl,F,g,Wq,fun H1 A1 F1=>?_⟩;wp_walk;refine fun c hc=>?_;have N4:=q0D (o:=.lst []) hc;exact q _ c [] _ (A1.kp N4) (F1.free hc) aA .nil (F1.trans (Fw.of N4))
    | @iff a0 p p2 v s vs us b o e1 h1 e2 h2 e3 h3 =>
      rw[An rfl] at q;left
      exists e1
      right
      exists A.ins
      refine⟨R,as,sl,S,_,_,N,rfl,A,.iff e1 h1 e2 h2 e3 h3,rfl,F,g,Wq,fun H1 A1 F1=>?_⟩;wp_walk;refine fun c hc=>?_;have N4:=q0D (o:=.lst []) hc;exact q _ c [] _ (A1.kp N4) (F1.free hc) aA .nil (F1.trans (Fw.of N4))
theorem wZ:Ok T T.pI 13 (OW ⟨t.aN,t.aP,t.aI⟩ true):=by
  nomatch T.pI
  · obtain⟨R,as,sl,S,N,rfl,_⟩:=h;rfl
  · obtain⟨R,as,sl,S,N,rfl,A,FN,hN,q⟩:=h
    nomatch (aH (c9 T.aW T.dN pv0 cD) (aH (pst 1 (aR bQ)) (pss3 (pst 2 aB) (qA PassesOwn.never (ptc mK (aL T.aW T.dN pv0) cD) (pss2 (pst 3 (pmt0 (aL T.aW T.jR pv0) T.cY (zI T) T.l9)) (fL (ptc mK pv3 cD) (aG (aM (pZ PySem.F.slot_list_extend PySem.F.type_list_extend tY pv1 (pa1 (pmt pv0 T.aW (Ak T) T.tQ (pa1 cD)))))) (aG (fL (ptc aU pv2 (pX (v:=.int 300) rfl T.B9 ⟨_,rfl⟩)) (aG (aM (pZ PySem.F.slot_list_extend PySem.F.type_list_extend tY pv1 (pa1 (pmt0 pv0 T.aW (zH T) T.l8))))) (pss2 (Rt (i:=2) sc rfl (Or.inl rfl) aB Gd) (aM (pZ PySem.F.slot_list_extend PySem.F.type_list_extend tY pv1 (pa1 (pmt pv0 T.aW (CU T) T.qS (pa1 pv3))))))))))) (aJ pv1)))),0
    left
    exists A.ins
    have A1:=A.attr .Wb .Wb S.ar S.nw rfl;have F1:=Fw.set (R:=R) (as:=as) (H:=H) (p:=R.x) (o:=(jQ t.aN R (.Wb) S.ar S.nw)) (.inl 1e16);generalize Wa H R.x (jQ t.aN R (.Wb) S.ar S.nw)=G1 at *;right;left;wp_walk;refine fun c hc=>?_;have fc:H c=none:=F1.free hc;have nc:=A.gT fc;have N2:=q0D (o:=.lst []) hc;have ec:Wa G1 c 1e10 c=some 1e10:=aA;replace A1:=A1.kp N2;replace F1:=F1.trans (Fw.of N2);generalize Wa G1 c 1e10=G2 at *;right;left;wp_walk;right;left;obtain⟨S0,hS0⟩:∃ S0:Pu,S0={S with sl:=.Wb}:=⟨_,rfl⟩;rw[<- hS0] at q FN;replace A1:bA ⟨t.aN,t.aP,t.aI⟩ G2 R as .Wb S0:=by rw[hS0];exact A1
    have s0:S0.sl=.Wb:=by rw[hS0]
    clear hS0;obtain⟨Y,hY⟩:∃ Y:Nat->St->Hp->Prop,∀ m σ G,Y m σ G = ∃(many:Nat) (u:Option V) (us:List V) (cs:Cmds) (S1:Pu) (sl1:V),σ=[some (.ref R.x),some (.ref c),some (.int many),u]/\G c=some (.lst us)/\Fw R as as H G/\hZ G us cs/\bA ⟨t.aN,t.aP,t.aI⟩ G R as sl1 S1 /\
        ((S1.sl=.Wb/\many<=300/\cs.length<=many/\m=301 - many/\Wk true S1 (N+many)/\dH 300 S0=((dH (300 - many) S1).1,cs++(dH (300 - many) S1).2))\/(S1.sl.isN=false/\dH 300 S0=(S1,cs))):=⟨_,fun _ _ _=>rfl⟩
    refine⟨Y,⟨301,?_⟩,?_⟩
    · rw[hY];exact⟨0,none,[],[],S0,.Wb,rfl,ec,F1,.nil,A1,.inl ⟨s0,by decide,Nat.zero_le _,rfl,FN,rfl⟩⟩
    intro m σ G hG;rw[hY] at hG;obtain⟨many,u,us,cs,S1,sl1,rfl,eG,FG,hC,A2,hG⟩:=hG;rcases hG with⟨hs1,hm,lC,rfl,F0,eq⟩|⟨hs1,eq⟩
    · have:sl1=.Wb:=by have:=A2.slp;rw[hs1] at this;exact this
      subst this
      exists A2.ins
      refine⟨fun σ' G'=>∃ m',m' < 301 - many/\Y m' σ' G',fun _ _ z=>z,?_⟩
      exists A2.wk.ins,A2.ins
      refine⟨R.wk,R.wx,R.lb,R.ln,S1.stk,rfl,A2.wk,F0.sk.ok,fun H1 W1 _ Wq K1=>?_,fun m v H1 W1 _ Wq hv K1=>?_⟩
      · have A3:bA ⟨t.aN,t.aP,t.aI⟩ H1 R as .Wb S1.bC:=A2.walk W1 K1;have F2:=A2.vZ W1 K1;replace eG:=F2.kp _ _ eG nc.1 nc.2;rw[j9 Wq] at eq
        exists A3.ins,eG
        refine⟨R,as,.Wb,S1.bC,none,rfl,A3,fun Xr c3 Yq H3 A4 hc3 ec3 Xo F3=>?_⟩;have lc3:(S1.bC.ends none).2.length<=1:=by simp[Pu.ends]
        have YE:=F3.kp _ _ eG nc.1 nc.2;have l1:=hC.len;have l3:=Xo.len
        exists YE,ec3
        refine⟨by omega,?_⟩;have A5:=A4.other (vs:=us++Yq) YE nc.1 nc.2;have F5:=((FG.trans F2).trans F3).fresh (o:=.lst (us++Yq)) fc;have tk5:aE H3 (Wa H3 c (.lst (us++Yq))):=aE.cI YE;have hC5:=((hC.kt (A2.tkp F2)).kt (A3.tkp F3)).app Xo |>.kt tk5;refine⟨0,by omega,?_⟩;rw[hY];exact⟨many,some .Wb,_,_,_,Xr,rfl,aA,F5,hC5,A5,.inr ⟨rfl,by rw[eq]⟩⟩
      · have A3:bA ⟨t.aN,t.aP,t.aI⟩ H1 R as .Wb S1.bC:=A2.walk W1 K1;have F2:=A2.vZ W1 K1;have FC:=F0.bC hs1;replace eG:=F2.kp _ _ eG nc.1 nc.2;obtain⟨a,rfl⟩:∃ a,v=.ref a:=by cases hv<;>exact⟨_,rfl⟩
        exists reduceCtorEq,if_false
        by_cases h3:many=300
        · subst h3;rw[if_pos 1e6];rw[qY Wq] at eq
          exists A3.ins,eG
          refine⟨R,as,.Wb,S1.bC,rfl,A3,fun Xr c3 Yq H3 A4 hc3 ec3 Xo F3=>?_⟩;have lc3:(S1.bC.mW).2.length<=1:=by simp[Pu.mW]
          have YE:=F3.kp _ _ eG nc.1 nc.2;have l1:=hC.len;have l3:=Xo.len
          exists YE,ec3
          refine⟨by omega,?_⟩;have A5:=A4.other (vs:=us++Yq) YE nc.1 nc.2;have F5:=((FG.trans F2).trans F3).fresh (o:=.lst (us++Yq)) fc;have tk5:aE H3 (Wa H3 c (.lst (us++Yq))):=aE.cI YE;have hC5:=((hC.kt (A2.tkp F2)).kt (A3.tkp F3)).app Xo |>.kt tk5;refine⟨0,by omega,?_⟩;rw[hY];exact⟨300,some 1e11,_,_,_,Xr,rfl,aA,F5,hC5,A5,.inr ⟨rfl,by rw[eq]⟩⟩
        · rw[if_neg 1e0];obtain⟨n,hn⟩:∃ n,300 - many=n+1:=⟨299 - many,by omega⟩;rw[hn] at eq;refine⟨_,rfl,?_⟩
          exists A3.ins,eG
          refine⟨R,as,.Wb,S1.bC,.ref a,m,N+many,rfl,A3,hs1,hv,FC,FC.stm Wq,Wq,by omega,fun Xr c3 Yq H3 A4 hc3 ec3 Xo F3=>?_⟩;have lc3:=BB S1.bC m;have YE:=F3.kp _ _ eG nc.1 nc.2;have l1:=hC.len;have l3:=Xo.len
          exists YE,ec3
          refine⟨by omega,?_⟩;have A5:=A4.other (vs:=us++Yq) YE nc.1 nc.2;have F5:=((FG.trans F2).trans F3).fresh (o:=.lst (us++Yq)) fc;have tk5:aE H3 (Wa H3 c (.lst (us++Yq))):=aE.cI YE;have hC5:=((hC.kt (A2.tkp F2)).kt (A3.tkp F3)).app Xo |>.kt tk5;cases hz:(one S1.bC m).1.sl.isN with
          | true =>
            rw[Bh Wq hz] at eq;refine⟨301 - (many+1),by omega,?_⟩;rw[hY];exact⟨many+1,some 1e11,_,_,_,Xr,rfl,aA,F5,hC5,A5,.inl ⟨nB hz,by omega,by rw[List.length_append];omega,rfl,FC.one Wq hs1 1e0,by rw[eq,show 300 - (many+1)=n by omega,List.append_assoc]⟩⟩
          | false =>
            rw[qW Wq hz] at eq;refine⟨0,by omega,?_⟩;rw[hY];exact⟨many+1,some 1e11,_,_,_,Xr,rfl,aA,F5,hC5,A5,.inr ⟨hz,by rw[eq]⟩⟩
    · rcases A2.slp.isN with⟨z,_⟩|⟨_,p,rfl⟩
      · rw[hs1] at z;cases z
      exists A2.ins,reduceCtorEq,if_false
      right;wp_walk;rw[eq] at q;exact q _ c us G A2 fc eG hC FG
theorem w9:Ok T T.pJ 14 (GV ⟨t.aN,t.aP,t.aI⟩ true):=by
 nomatch T.pJ
 ·obtain⟨R,as,sl,S,w,N,rfl,_⟩:=h;rfl
 ·obtain⟨R,as,sl,S,w,N,rfl,A,F,hN,hw,Ws,q⟩:=h
  nomatch (pss3 (ppt (aL T.aW T.iS pv0) (pix aK (pmt0 (aL T.aW T.jR pv0) T.cY (fT T) T.eI) aB) pv1) (aM (pmt0 (aL T.aW T.jR pv0) T.cY (hW T) T.gC)) (aJ (pmt0 pv0 T.aW (wZ T) T.pI))),0
  have l1:(fA S.nm).length<=N:=by rw[fA,List.length_map];exact F.nm
  rcases Ws with⟨k,hk⟩|⟨ts,hk⟩
  ·obtain⟨x,Wq⟩:=F.sl.1 k hk;obtain⟨k0,b0,n0,r0,XO,hm0⟩:=gA Wq;have nm1:∀ v,b7 H v (.Wg x k)->∃ a xs,v=.ref a/\H a=some (.tup (.str "hear"::.str x::xs)):=fun v h=>by cases h with|Wg e=>exact⟨_,_,rfl,e⟩
   simp only[Pu.wake,Wq] at q;left
   exists A.ins,A.wk.ins,A.nm
   have W:=A.wk;rw[XO] at W;refine⟨R.wk,R.wx,R.lb,R.ln,k0,n0,b0,r0,_,rfl,W,hm0,fun v hv=>?_⟩;obtain⟨a,xs,rfl,e1⟩:=nm1 v hv
   exists e1,A.nm,fS
   refine⟨by omega,?_⟩;have A1:=A.name x w;have F1:=Fw.set (R:=R) (as:=as) (H:=H) (o:=.dK 1e25) (p:=R.nm) (.inl 1e16);generalize Wa H R.nm (.dK 1e25)=G1 at *;right;left
   exists A1.ins,A1.wk.ins
   have W1:=A1.wk;rw[show({S with nm:=b8 S.nm x w}:Pu).stk=S.stk from rfl,XO] at W1;refine⟨R.wk,R.wx,R.lb,R.ln,k0,n0,b0,r0,rfl,W1,fun H2 W2 K2=>?_⟩;have e:(k0,b0,n0+1)::r0=fZ S.stk:=by rw[XO];rfl
   rw[e] at W2;have A2:=A1.walk W2 (K2.mono 1e1);have F2:=F1.trans (A1.vZ W2 (K2.mono 1e1));wp_walk;right
   exists A2.ins
   exact⟨R,as,sl,_,N+1,rfl,A2,F.wake Wq hw x,by omega,fun Xr c us H3 A3 hc ec hC F3=>q Xr c us H3 A3 (F2.free hc) ec hC (F2.trans F3)⟩
  ·obtain⟨x,ss,Wq⟩:=F.sl.2 ts hk;obtain⟨k0,b0,n0,r0,XO,hm0⟩:=gA Wq;have nm1:∀ v,b7 H v (.wait x ss)->∃ a xs,v=.ref a/\H a=some (.tup (.str "wait"::.str x::xs)):=fun v h=>by cases h with|wait e _ _=>exact⟨_,_,rfl,e⟩
   simp only[Pu.wake,Wq] at q;left
   exists A.ins,A.wk.ins,A.nm
   have W:=A.wk;rw[XO] at W;refine⟨R.wk,R.wx,R.lb,R.ln,k0,n0,b0,r0,_,rfl,W,hm0,fun v hv=>?_⟩;obtain⟨a,xs,rfl,e1⟩:=nm1 v hv
   exists e1,A.nm,fS
   refine⟨by omega,?_⟩;have A1:=A.name x w;have F1:=Fw.set (R:=R) (as:=as) (H:=H) (o:=.dK 1e25) (p:=R.nm) (.inl 1e16);generalize Wa H R.nm (.dK 1e25)=G1 at *;right;left
   exists A1.ins,A1.wk.ins
   have W1:=A1.wk;rw[show({S with nm:=b8 S.nm x w}:Pu).stk=S.stk from rfl,XO] at W1;refine⟨R.wk,R.wx,R.lb,R.ln,k0,n0,b0,r0,rfl,W1,fun H2 W2 K2=>?_⟩;have e:(k0,b0,n0+1)::r0=fZ S.stk:=by rw[XO];rfl
   rw[e] at W2;have A2:=A1.walk W2 (K2.mono 1e1);have F2:=F1.trans (A1.vZ W2 (K2.mono 1e1));wp_walk;right
   exists A2.ins
   exact⟨R,as,sl,_,N+1,rfl,A2,F.wake Wq hw x,by omega,fun Xr c us H3 A3 hc ec hC F3=>q Xr c us H3 A3 (F2.free hc) ec hC (F2.trans F3)⟩
theorem rK:Ok T T.iX 15 (LX ⟨t.aN,t.aP,t.aI⟩ true):=by
 nomatch T.iX
 ·obtain⟨R,as,sl,S,k,w,N,rfl,_⟩:=h;rfl
 ·obtain⟨R,as,sl,S,k,w,N,rfl,A,F,hN,hw,Ws,q⟩:=h
  nomatch (pss3 (pif (ptc (Rl 2 1e6 (HX hr 1e6)) (aL T.aW T.dN pv0) (a9 (pa2 aC pv1))) (aG (aJ (pmt pv0 T.aW (w9 T) T.pJ (pa1 pv2))))) (aM (dC (Ln (aL T.aW T.kF pv0) pv1 (aR bQ) ⟨rfl,rfl,rfl,rfl⟩) pv2)) (aJ (aR bQ))),0
  have tl:=A.slp;rcases Ws with⟨k',es⟩|⟨ts,es⟩
  ·rw[es] at tl;obtain⟨p,rfl,ep⟩:=tl;left
   exists A.ins
   refine fun p1 h1=>?_;generalize hg:Wa H p1 (.tup [.str "hear",.str k])=G1;have N1:Kp [] H G1:=hg▸Kp.new h1;have f1:G1 p1=some (.tup [.str "hear",.str k]):=hg▸aA;clear hg;have A1:=A.kp N1;have Zd:=N1.at ep;have F1:=Fw.of (R:=R) (as:=as) N1;refine .inl ⟨_,Nn 1 Zd f1,?_⟩;by_cases hk:k'=k
   ·subst hk;simp only[Pu.eZ,es,if_true] at q
    exists decide_true,A1.ins
    exact⟨R,as,.ref p,S,w,N,rfl,A1,F,by omega,hw,.inl ⟨k',es⟩,fun Xr c us H3 A3 hc ec hC F3=>q as Xr c us H3 A3 (F1.free hc) (A.gT (F1.free hc)).2 ec hC (F1.trans F3)⟩
   ·have hq:S.eZ k w=({S with lt:=iC S.lt k w},[]):=by simp only[Pu.eZ,es,if_neg hk]
    rw[hq] at q
    exists decide_false,hk
    right;left;obtain⟨kvs,el,L⟩:=A1.lt;have ll:=L.len;have fl:=F.lt
    exists A1.ins,el
    refine fun p2 h2=>?_;have YV:=F1.free h2;have N2:=q0D (o:=.lst []) h2;have f2:Wa G1 p2 1e10 p2=some 1e10:=aA;have A2:=A1.kp N2;have YG:=N2.at el;have LL:=L.keep (fun a _ o h=>N2.at h);have F2:=F1.trans (Fw.of N2);have nc:=A1.gT h2;generalize Wa G1 p2 1e10=G2 at *
    exists YG
    refine⟨by omega,fun v hv=>?_,fun hv=>?_⟩
    ·rcases LL.look k with⟨z,_⟩|⟨l,ws,z,hn,Zo,hl⟩
     ·rw[z] at hv;cases hv
     rw[z] at hv;cases hv;have lw:=(F.lw k ws hn).1;obtain⟨A3,_⟩:=A2.wR YG z (ws++[w]);have F3:=F2.trans (Fw.set (p:=l) (o:=.lst ((ws++[w]).map wv)) (.inr Zo));rw[show dF S.lt k (ws++[w])=iC S.lt k w by rw[iC,hn]] at A3;rw[List.map_append,List.map_cons,List.map_nil] at A3 F3
     exists hl
     refine⟨by simp;omega,?_⟩;generalize Wa G2 l (.lst (ws.map wv++[wv w]))=G3 at *;wp_walk;right;wp_walk;refine fun c hc=>?_;have N4:=q0D (o:=.lst []) hc;exact q as _ c [] _ (A3.kp N4) (F3.free hc) (A3.gT hc).2 aA .nil (F3.trans (Fw.of N4))
    ·rcases LL.look k with⟨z,hn⟩|⟨l,ws,z,_⟩
     rotate_left
     ·rw[z] at hv;cases hv
     have A3:=A2.Nz (ws:=[]) YG z f2 nc.1 nc.2;have F3:=F2.trans (Fw.set (p:=R.lt) (o:=.dK 1e36) (.inl 1e16));have f3:Wa G2 R.lt (.dK 1e36) p2=some 1e10:=cL YG f2;have Y6:Wa G2 R.lt (.dK 1e36) R.lt=some (.dK 1e36):=aA;have z3:aX 1e36 (.inr k)=some (.ref p2):=by rw[fO,if_pos rfl]
     generalize Wa G2 R.lt (.dK 1e36)=G3 at *
     exists f3
     obtain⟨A4,_⟩:=A3.wR Y6 z3 [w];have e4:dF (S.lt++[(k,([]:List Wo))]) k [w]=iC S.lt k w:=by rw[BK hn,iC,hn]
     rw[show({S with lt:=S.lt++[(k,([]:List Wo))]}:Pu).lt=S.lt++[(k,[])] from rfl,e4] at A4;have F4:Fw R as (as++[p2]) H (Wa G3 p2 (.lst [wv w])):=by
      have z:=F3.fresh (o:=.lst [wv w]) YV;exact⟨z.kp,z.dom,fun a ha=>by
       rcases List.mem_append.mp ha with ha|ha
       ·exact .inl ha
       ·exact .inr (by rw[show a=p2 by simpa using ha];exact YV)⟩
     replace A4:bA ⟨t.aN,t.aP,t.aI⟩ (Wa G3 p2 (.lst [wv w])) R (as++[p2]) 1e21 {S with lt:=iC S.lt k w}:=A4;generalize Wa G3 p2 (.lst [wv w])=G4 at *;right;wp_walk;refine fun c hc=>?_;have N4:=q0D (o:=.lst []) hc;exact q (as++[p2]) _ c [] _ (A4.kp N4) (F4.free hc) (A4.gT hc).2 aA .nil (F4.trans (Fw.of N4))
  ·rw[es] at tl;obtain⟨p,pw,rfl,ep,epw⟩:=tl;left
   exists A.ins
   refine fun p1 h1=>?_;generalize hg:Wa H p1 (.tup [.str "hear",.str k])=G1;have N1:Kp [] H G1:=hg▸Kp.new h1;have f1:G1 p1=some (.tup [.str "hear",.str k]):=hg▸aA;clear hg;have A1:=A.kp N1;have Zd:=N1.at ep;have hpw:=N1.at epw;have F1:=Fw.of (R:=R) (as:=as) N1;refine .inr ⟨Str.ofString "wait",Str.ofString "hear",k,pw,_,Zd,hpw,rfl,by decide,?_⟩;have hq:S.eZ k w=({S with lt:=iC S.lt k w},[]):=by simp only[Pu.eZ,es]
   rw[hq] at q;wp_walk;right;left;obtain⟨kvs,el,L⟩:=A1.lt;have ll:=L.len;have fl:=F.lt
   exists A1.ins,el
   refine fun p2 h2=>?_;have YV:=F1.free h2;have N2:=q0D (o:=.lst []) h2;have f2:Wa G1 p2 1e10 p2=some 1e10:=aA;have A2:=A1.kp N2;have YG:=N2.at el;have LL:=L.keep (fun a _ o h=>N2.at h);have F2:=F1.trans (Fw.of N2);have nc:=A1.gT h2;generalize Wa G1 p2 1e10=G2 at *
   exists YG
   refine⟨by omega,fun v hv=>?_,fun hv=>?_⟩
   ·rcases LL.look k with⟨z,_⟩|⟨l,ws,z,hn,Zo,hl⟩
    ·rw[z] at hv;cases hv
    rw[z] at hv;cases hv;have lw:=(F.lw k ws hn).1;obtain⟨A3,_⟩:=A2.wR YG z (ws++[w]);have F3:=F2.trans (Fw.set (p:=l) (o:=.lst ((ws++[w]).map wv)) (.inr Zo));rw[show dF S.lt k (ws++[w])=iC S.lt k w by rw[iC,hn]] at A3;rw[List.map_append,List.map_cons,List.map_nil] at A3 F3
    exists hl
    refine⟨by simp;omega,?_⟩;generalize Wa G2 l (.lst (ws.map wv++[wv w]))=G3 at *;wp_walk;right;wp_walk;refine fun c hc=>?_;have N4:=q0D (o:=.lst []) hc;exact q as _ c [] _ (A3.kp N4) (F3.free hc) (A3.gT hc).2 aA .nil (F3.trans (Fw.of N4))
   ·rcases LL.look k with⟨z,hn⟩|⟨l,ws,z,_⟩
    rotate_left
    ·rw[z] at hv;cases hv
    have A3:=A2.Nz (ws:=[]) YG z f2 nc.1 nc.2;have F3:=F2.trans (Fw.set (p:=R.lt) (o:=.dK 1e36) (.inl 1e16));have f3:Wa G2 R.lt (.dK 1e36) p2=some 1e10:=cL YG f2;have Y6:Wa G2 R.lt (.dK 1e36) R.lt=some (.dK 1e36):=aA;have z3:aX 1e36 (.inr k)=some (.ref p2):=by rw[fO,if_pos rfl]
    generalize Wa G2 R.lt (.dK 1e36)=G3 at *
    exists f3
    obtain⟨A4,_⟩:=A3.wR Y6 z3 [w];have e4:dF (S.lt++[(k,([]:List Wo))]) k [w]=iC S.lt k w:=by rw[BK hn,iC,hn]
    rw[show({S with lt:=S.lt++[(k,([]:List Wo))]}:Pu).lt=S.lt++[(k,[])] from rfl,e4] at A4;have F4:Fw R as (as++[p2]) H (Wa G3 p2 (.lst [wv w])):=by
     have z:=F3.fresh (o:=.lst [wv w]) YV;exact⟨z.kp,z.dom,fun a ha=>by
      rcases List.mem_append.mp ha with ha|ha
      ·exact .inl ha
      ·exact .inr (by rw[show a=p2 by simpa using ha];exact YV)⟩
    replace A4:bA ⟨t.aN,t.aP,t.aI⟩ (Wa G3 p2 (.lst [wv w])) R (as++[p2]) 1e21 {S with lt:=iC S.lt k w}:=A4;generalize Wa G3 p2 (.lst [wv w])=G4 at *;right;wp_walk;refine fun c hc=>?_;have N4:=q0D (o:=.lst []) hc;exact q (as++[p2]) _ c [] _ (A4.kp N4) (F4.free hc) (A4.gT hc).2 aA .nil (F4.trans (Fw.of N4))
theorem rL:Ok T T.iY 2 (yE t.aI):=by
 nomatch T.iY
 ·obtain⟨tk,tx,dp,da,made,pend,ans,i,w,rfl,_⟩:=h;rfl
 ·obtain⟨tk,tx,dp,da,made,pend,ans,i,w,rfl,R,hi,hl,q⟩:=h
  nomatch (pss2 (aM (pmt pv0 T.bG (mG T) T.iN (pa1 pv1))) (ppt (aL T.bG T.gZ pv0) pv1 pv2)),0
  exists R.ins
  refine⟨tk,tx,dp,da,made,pend,ans,i,rfl,R,hi,fun H1 R1 K1=>?_⟩
  exists R1.ins,R1.ha,xQ (wv w) (Jl fun p hp z=>R.dis p hp (z▸hi))
  have n1:=R.n1;refine⟨by simp only[iD,List.length_map];omega,q _ ⟨by rw[aD n1.2];exact R1.ins,by rw[aD R.nda];exact R1.hp,by rw[aA];simp[iD],R.nda,R1.lt,R1.asc,fun p hp=>?_,fun p hp z=>?_,R.small⟩ ?_⟩
  ·rcases List.mem_append.mp hp with hp|hp
   ·exact R.la p hp
   ·rw[show p=(i,w) by simpa using hp];exact R.lt i hi
  ·rcases List.mem_append.mp hp with hp|hp
   ·exact R1.dis p hp z
   ·rw[show p=(i,w) by simpa using hp] at z;simpa using(List.mem_filter.mp z).2
  ·intro b o eb nb;simp only[List.mem_cons,List.not_mem_nil,or_false,not_or] at nb;rw[aD nb.2];exact K1.Wl eb nb.1
theorem w8:Ok T T.kR 15 (GR ⟨t.aN,t.aP,t.aI⟩ true):=by
 nomatch T.kR
 ·obtain⟨R,as,sl,S,i,w,N,rfl,_⟩:=h;rfl
 ·obtain⟨R,as,sl,S,i,w,N,rfl,A,F,hN,hw,hi,hn,q⟩:=h
  nomatch (pss3 (aM (pmt (aL T.aW T.cS pv0) T.bG (rL T) T.iY (pa2 pv1 pv2))) (pif (PW.pt (eY (ptc aU (pix aK (aL T.aW T.dN pv0) aB) aC) (eE (fU jS pv1 (pix aK (aL T.aW T.dN pv0) aB) 1e30)))) (aG (aJ (pmt pv0 T.aW (w9 T) T.pJ (pa1 pv1))))) (aJ (aR bQ))),0
  left
  exists A.ins,A.tk.ins
  refine⟨R.tk,R.tx,R.dp,R.da,_,_,_,i,w,rfl,A.tk,hi,by have:=F.an;omega,fun H1 T1 K1=>?_⟩;have K2:Kp [R.tk,R.dp,R.da] H H1:=K1.mono (by simp;try omega)
  have A1:bA ⟨t.aN,t.aP,t.aI⟩ H1 R as sl (S.done i w):=A.tick T1 K2;have F1:=A.Cu T1 K2;have FD:=F.done (i:=i) hw;have wi:dU (some i):=eU (by have:=(A.tk.lt i hi).1;omega) (by have:=(A.tk.lt i hi).2;have:=F.md;omega);wp_walk;right;left;cases es:S.sl with
  | Wb=>rw[es] at hn;cases hn
  | wait ts =>
   have Ws:=A1.slp;rw[show(S.done i w).sl=S.sl from rfl,es] at Ws;obtain⟨p,p2,rfl,ep,ep2⟩:=Ws;simp only[Pu.fH,es] at q
   exists A1.ins,ep,ep2,tW,m7
   refine⟨rfl,?_⟩;by_cases ht:i∈ts
   ·rw[if_pos ht] at q
    exists ht,decide_true,A1.ins
    exact⟨R,as,.ref p,_,some i,N+1,rfl,A1,FD,by omega,wi,.inr ⟨ts,es⟩,fun Xr c us H3 A3 hc ec hC F3=>q Xr c us H3 A3 (F1.free hc) ec hC (F1.trans F3)⟩
   ·rw[if_neg ht] at q
    exists ht,decide_false
    right;wp_walk;refine fun c hc=>?_;have N4:=q0D (o:=.lst []) hc;exact q _ c [] _ (A1.kp N4) (F1.free hc) aA .nil (F1.trans (Fw.of N4))
  | new =>
   have Ws:=A1.slp;rw[show(S.done i w).sl=S.sl from rfl,es] at Ws;obtain⟨p,rfl,ep⟩:=Ws;simp only[Pu.fH,es] at q
   exists A1.ins,ep
   right;wp_walk;refine fun c hc=>?_;have N4:=q0D (o:=.lst []) hc;exact q _ c [] _ (A1.kp N4) (F1.free hc) aA .nil (F1.trans (Fw.of N4))
  | Wg k =>
   have Ws:=A1.slp;rw[show(S.done i w).sl=S.sl from rfl,es] at Ws;obtain⟨p,rfl,ep⟩:=Ws;simp only[Pu.fH,es] at q
   exists A1.ins,ep
   right;wp_walk;refine fun c hc=>?_;have N4:=q0D (o:=.lst []) hc;exact q _ c [] _ (A1.kp N4) (F1.free hc) aA .nil (F1.trans (Fw.of N4))
  | ended u =>
   have Ws:=A1.slp;rw[show(S.done i w).sl=S.sl from rfl,es] at Ws;obtain⟨p,rfl,ep⟩:=Ws;simp only[Pu.fH,es] at q
   exists A1.ins,ep
   right;wp_walk;refine fun c hc=>?_;have N4:=q0D (o:=.lst []) hc;exact q _ c [] _ (A1.kp N4) (F1.free hc) aA .nil (F1.trans (Fw.of N4))
  | worn =>
   have Ws:=A1.slp;rw[show(S.done i w).sl=S.sl from rfl,es] at Ws;obtain⟨p,rfl,ep⟩:=Ws;simp only[Pu.fH,es] at q
   exists A1.ins,ep
   right;wp_walk;refine fun c hc=>?_;have N4:=q0D (o:=.lst []) hc;exact q _ c [] _ (A1.kp N4) (F1.free hc) aA .nil (F1.trans (Fw.of N4))
theorem EJ:Ok T T.vV 16 (GS ⟨t.aN,t.aP,t.aI⟩ true):=by
 nomatch T.vV
 ·obtain⟨R,as,sl,S,v,h,N,rfl,_⟩:=h;rfl
 ·obtain⟨R,as,sl,S,v,h,N,rfl,A,F,hN,hn,hH,ok,q⟩:=h
  nomatch (aH (pif (jT (pmt pv0 T.aW (rJ T) T.iW (pa1 pv1))) (aG (aJ (aR bQ)))) (aH (c9 T.aW T.sG pv0 (aY (gW rfl) rfl T.BV oK (pa2 (aL T.aW T.sG pv0) 1e4))) (pss3 (pif (ptc aU 1e4 aC) (pss2 (c9 T.aW T.CN pv0 1e4) (aJ (pmt0 pv0 T.aW (wZ T) T.pI)))) (pif (ptc aU 1e4 aC) (aG (aJ (pmt pv0 T.aW (w8 T) T.kR (pa2 1e4 1e4))))) (aJ (pmt pv0 T.aW (rK T) T.iX (pa2 1e4 1e4)))))),0
  left
  exists A.ins
  refine⟨R,as,sl,S,v,h,rfl,A,hn,hH,fun H1 K1=>?_⟩;have A1:=A.kp K1;obtain⟨a,rfl,eh⟩:=hH;have Zk:=K1.at eh;cases ho:S.over h with
  | true =>
   simp only[Pu.take,ho,if_true] at q;wp_walk;have F1:=Fw.of (R:=R) (as:=as) K1;refine fun c hc=>?_;have N4:=q0D (o:=.lst []) hc;exact q as _ c [] _ (A1.kp N4) (F1.free hc) (A1.gT hc).2 aA .nil (F1.trans (Fw.of N4))
  | false =>
   simp only[Pu.take,ho,if_false,Bool.false_eq_true] at q;wp_walk;right;cases h with
   | WR m w =>
    simp only[Hap.vs,Hap.ini,Hap.w,List.cons_append,List.nil_append] at Zk;refine bX fun R2 XE=>?_
    exists A1.ins,Zk
    have F1:=Fw.of (R:=R) (as:=as) K1;have A2:=A1.attr sl S.sl S.ar (later S.nw m) A1.slp;have YA:=Fw.set (R:=R) (as:=as) (H:=H1) (p:=R.x) (o:=1e52) (.inl 1e16);have eh2:=A1.tkp YA _ _ Zk;have F2:=F1.trans YA;clear YA;change R2 _ (Wa H1 R.x 1e52);generalize Wa H1 R.x 1e52=G2 at *;refine XE _ _ ?_;clear XE;clear R2
    exists A2.ins,eh2
    have A3:=A2.attr sl S.sl w (later S.nw m) A2.slp;have F3:=F2.trans (Fw.set (p:=R.x) (o:=(jQ t.aN R (sl) w (later S.nw m))) (.inl 1e16));generalize Wa G2 R.x (jQ t.aN R (sl) w (later S.nw m))=G3 at *
    exists A3.ins
    have FF:Wk true ({S with nw:=later S.nw m,ar:=w,sl:=.Wb}:Pu) N:={F with pl:=⟨F.pl.nm,ok.2,F.pl.an⟩,nw:=(F.at' ok.1).nw,sl:=⟨fun k e=>(by cases e),fun k e=>(by cases e)⟩};exact⟨R,as,sl,_,N,rfl,A3,FF,by omega,fun Xr c us H3 A4 hc ec hC F4=>q as Xr c us H3 A4 (F3.free hc) (A.gT (F3.free hc)).2 ec hC (F3.trans F4)⟩
   | don m i w =>
    simp only[Hap.vs,Hap.ini,Hap.w,List.cons_append,List.nil_append] at Zk;have hi:i∈S.pend:=by
     cases es:S.sl<;>simp only[Pu.over,es,Bool.not_eq_false',decide_eq_true_eq] at ho
     all_goals first|exact ho|cases ho
    refine bX fun R2 XE=>?_
    exists A1.ins,Zk
    have F1:=Fw.of (R:=R) (as:=as) K1;have A2:=A1.attr sl S.sl S.ar (later S.nw m) A1.slp;have YA:=Fw.set (R:=R) (as:=as) (H:=H1) (p:=R.x) (o:=1e52) (.inl 1e16);have eh2:=A1.tkp YA _ _ Zk;have F2:=F1.trans YA;clear YA;change R2 _ (Wa H1 R.x 1e52);generalize Wa H1 R.x 1e52=G2 at *;refine XE _ _ ?_;clear XE;clear R2
    exists A2.ins,eh2
    exact⟨R,as,sl,S.at' m,i,w,N,rfl,A2,F.at' ok.1,by omega,ok.2,hi,hn,fun Xr c us H3 A4 hc ec hC F4=>q as Xr c us H3 A4 (F2.free hc) (A.gT (F2.free hc)).2 ec hC (F2.trans F4)⟩
   | ltr m k w =>
    simp only[Hap.vs,Hap.ini,Hap.w,List.cons_append,List.nil_append] at Zk;have hs:(∃ k,S.sl=.Wg k)\/∃ ts,S.sl=.wait ts:=by
     cases es:S.sl with
     | Wg k=>exact .inl ⟨k,rfl⟩
     | wait ts=>exact .inr ⟨ts,rfl⟩
     | Wb=>rw[es] at hn;cases hn
     | _=>simp only[Pu.over,es] at ho;cases ho
    refine bX fun R2 XE=>?_
    exists A1.ins,Zk
    have F1:=Fw.of (R:=R) (as:=as) K1;have A2:=A1.attr sl S.sl S.ar (later S.nw m) A1.slp;have YA:=Fw.set (R:=R) (as:=as) (H:=H1) (p:=R.x) (o:=1e52) (.inl 1e16);have eh2:=A1.tkp YA _ _ Zk;have F2:=F1.trans YA;clear YA;change R2 _ (Wa H1 R.x 1e52);generalize Wa H1 R.x 1e52=G2 at *;refine XE _ _ ?_;clear XE;clear R2
    exists A2.ins,eh2
    exact⟨R,as,sl,S.at' m,k,w,N,rfl,A2,F.at' ok.1,by omega,ok.2,hs,fun WC Xr c us H3 A4 hc nc ec hC F4=>q WC Xr c us H3 A4 (F2.free hc) nc ec hC (F2.trans F4)⟩
theorem nN:Ok T T.gL 1 (AF t.aI):=by
 nomatch T.gL
 ·obtain⟨tk,tx,dp,da,made,pend,ans,rfl,_⟩:=h;rfl
 ·obtain⟨tk,tx,dp,da,made,pend,ans,rfl,R,h64,q⟩:=h
  nomatch (aG (aJ (aY (Eb rfl) rfl T.uJ zX (pa1 (aL T.bG T.gD pv0))))),0
  exists R.ins,R.hp,IC
  exact⟨R.asc,fun l Wv hl hp hs=>by rw[mT hp hs R.asc];exact q l hl⟩
theorem pS:Ok T T.iH 2 (GP ⟨t.aN,t.aP,t.aI⟩):=by
 nomatch T.iH
 ·obtain⟨R,as,sl,S,rfl,_⟩:=h;rfl
 ·obtain⟨R,as,sl,S,rfl,A,h64,q⟩:=h
  nomatch (aG (aJ (pmt0 (aL T.aW T.cS pv0) T.bG (nN T) T.gL))),0
  exists A.ins,A.tk.ins
  exact⟨R.tk,R.tx,R.dp,R.da,_,_,_,rfl,A.tk,h64,q⟩
theorem Rf:Ok T T.Tr 40 (GN K):=by
 nomatch T.Tr
 ·obtain⟨a,ns,rfl,_⟩:=h;rfl
 ·obtain⟨a,ns,rfl,hS,h63,q⟩:=h
  nomatch (aH (pst 1 (pcl (zK T) T.mC (pa1 (Ao pv0 (lE aB) (lE aB) (lE aB))))) (aH (pst 2 (pcl (Iw T) T.Bg (pa2 pv1 (Ao pv0 (lE aB) (lE aB) (lE aB))))) (aH (pst 3 (pcl (Al T) T.tV (pa1 pv1))) (pss3 (pst 4 (Gv T.KL (EH T) (hr.mono 1e0) rfl T.VE T.vT.bd .nil pass0 (pa1 pv1))) (BF PassesOwn.never rfl (nG pv2) (pgn 5) (pss2 (pif (rR (jT (pcl (iG T 3) T.dQ (pa2 (pmt pv4 T.aW (EJ T) T.vV (pa1 pv5)) (pcl (sM T) T.m9 (pa2 pv3 pv5)))))) (aG (aJ xN))) (pif (PW.pt (GB (rR (jT (pcl (iG T 3) T.dQ (pa2 (pmt0 pv4 T.aW (sJ T) T.m6) (pcl (sN T) T.nA (pa1 pv3)))))) (BI (rR (jT (pcl (iG T 3) T.dQ (pa2 (pmt0 pv4 T.aW (pS T) T.iH) (pdg pv3 aC)))))))) (aG (aJ xN))))) (aJ (pcl (iG T 3) T.dQ (pa2 (pmt0 pv4 T.aW (sJ T) T.m6) (pcl (sN T) T.nA (pa1 pv3))))))))),0
  left;wp_walk;refine⟨a,_,2,rfl,hS,rfl,by decide,fun ys q1 hy ly m1=>?_⟩;obtain⟨ms,rfl,lm⟩:=Gc hy;rw[List.length_map,List.length_map] at ly;have N1:=q0D (o:=.lst (ms.map V.int)) m1;replace hS:=N1.same.seq hS;refine⟨q1,ms,rfl,aA,by omega,fun p1 us b G1 ep Ze gb db zb K1=>?_⟩;replace hS:=K1.same.seq hS;clear N1 m1 hy K1;wp_walk;right;left;wp_walk;refine⟨a,_,2,rfl,hS,rfl,by decide,fun ys q2 hy ly2 m2=>?_⟩;obtain⟨ms2,rfl,lm2⟩:=Gc hy;rw[List.length_map,List.length_map] at ly2;have N2:=q0D (o:=.lst (ms2.map V.int)) m2;refine⟨p1,q2,us,b,ms2,rfl,N2.at ep,Ze.kp (aE.nil N2),gb,by omega,by omega,aA,by omega,fun rl hv hs G2 er hH ok lh K2=>?_⟩;replace K2:=N2.trans K2;replace ep:=K2.at ep;replace Ze:=Ze.kp (aE.nil K2);clear N2 m2 hy hS K2;wp_walk;right;left;wp_walk;refine⟨p1,us,b,rfl,ep,Ze,by omega,by omega,fun A1 G3 F3 ZC nk0 xaw K3=>?_⟩;obtain⟨md,Za⟩:∃ md,md=A1.md:=⟨_,rfl⟩;rw[<- Za];replace ep:=K3.at ep;replace Ze:=Ze.kp (aE.nil K3);have er2:=er;replace er:=K3.at er;have er3:=er;replace hH:=hH.kt (aE.nil K3);wp_walk;right;left;have lu:=Ze.len;have lbz:=kZ b
  exists ep
  refine Ra ep Ze fun R sl G4 RA K4 NR=>?_;replace er:=K4.at er;replace hH:=hH.kt (aE.nil K4);have F4:=F3.kp K4;have lh2:=hH.len;obtain⟨oaw,YF⟩:=xaw;have nex:∀(x:Addr) (o:HO),G3 x=some o->x∉R.cells:=fun x o e z=>by rw[NR x z] at e;cases e
  have ab6:∀ x,x∈R.cells\/x∈([]:List Addr)->x∉A1.mut/\x≠A1.cl/\x∉A1.cs/\x≠A1.aw:=fun x hx=>by
   rcases hx with hx|hx
   ·have hn:=NR x hx;obtain⟨w1,w2,w3⟩:=F3.new hn;exact⟨w3,w1.1,w1.2,fun z=>by rw[z,YF] at hn;cases hn⟩
   ·simp at hx
  have ab2:rl∉A1.mut:=fun z=>by rw[ZC rl z] at er2;cases er2
  have ab3:rl∉R.cells:=nex rl _ er3;right;left
  exists er
  refine⟨⟨_,e9.of er⟩,?_⟩;obtain⟨Pv,Wr⟩:∃ Pv:Nat->St->Hp->Prop,∀ i σ G,Pv i σ G=E5 fun(v5:Option V) (as:List Addr) (sl:V) (A:Fa) (p:Nat)=>A15 (σ=[some 1e11,some (.ref p1),some (.ref rl),some (.ref md),some (.ref R.x),v5]) (bA ⟨t.aN,t.aP,t.aI⟩ G R as sl (takes (gS b) (hs.take i)).1) (bM b G A (takes (gS b) (hs.take i)).1 p) (Wk true (takes (gS b) (hs.take i)).1 (302 * i)) ((takes (gS b) (hs.take i)).1.sl.isN=false) (Std (takes (gS b) (hs.take i)).1) (A.nk<=i) (A.md=md) ((∀ x,x∈R.cells\/x∈as->x∉A.mut/\x≠A.cl/\x∉A.cs/\x≠A.aw)) ((∃ o,G A.aw=some o)) (G rl=some (.lst hv)) (eR G hv hs) (rl∉A.mut) (rl∉R.cells) (rl∉as):=⟨_,fun _ _ _=>rfl⟩;refine Ct (xs:=hv) Pv ?_ ?_ ?_ ?_
  ·rw[Wr];exact⟨_,[],sl,A1,0,rfl,RA,F4,FR gb 1e0,rfl,GW b,by omega,Za.symm,ab6,⟨_,K4.at YF⟩,er,hH,ab2,ab3,by simp⟩
  ·intro i σ G _ h;rw[Wr] at h;obtain⟨_,_,_,_,_,_,_,_,_,_,_,_,_,_,_,e,_⟩:=h;exact e9.of e
  ·intro i y σ G hi h;rw[Wr] at h;obtain⟨v5,as,sl,A2,p,rfl,RG,FG,FT,hn,sd,hk,hm,sep,xaw,eG,hG,nr1,nr2,nr3⟩:=h;obtain⟨x,ex,hx⟩:=hG.fI hi;have il:i < hs.length:=(List.getElem?_eq_some_iff.mp ex).1;have hf:=ok x (List.mem_of_getElem? ex);have es:takes (gS b) (hs.take (i+1))=(((takes (gS b) (hs.take i)).1.take x).1,(takes (gS b) (hs.take i)).2++[((takes (gS b) (hs.take i)).1.take x).2]):=by rw[List.take_add_one,ex,Option.toList_some,o8]
   generalize eS:(takes (gS b) (hs.take i)).1=S at *;left
   exists RG.ins
   refine⟨R,as,_,S,y,x,302 * i,rfl,RG,FT,by omega,hn,hx,hf,fun as2 Zv c uc G5 RA5 hc nc ec hC W5=>?_⟩;have T5:=RG.tkp W5;have hnc:∀ z,(z∈A2.mut\/z=A2.cl\/z∈A2.cs\/z=A2.aw)->z∉R.cells/\z∉as:=fun z hz=>by
    have no:¬ (z∈R.cells\/z∈as):=fun w=>by
     obtain⟨s1,s2,s3,s4⟩:=sep z w;rcases hz with hz|hz|hz|hz
     ·exact s1 hz
     ·exact s2 hz
     ·exact s3 hz
     ·exact s4 hz
    exact⟨fun w=>no (.inl w),fun w=>no (.inr w)⟩
   have FG5:bM b G5 A2 S p:=FG.TF (fun z o e hz=>W5.kp z o e (hnc z hz).1 (hnc z hz).2) T5;have hx5:=Es hx T5;have eG5:=W5.kp _ _ eG nr2 nr3;have hG5:=hG.kt T5;obtain⟨oaw,YF⟩:=xaw;have abG:=W5.kp _ _ YF (hnc _ (.inr (.inr (.inr rfl)))).1 (hnc _ (.inr (.inr (.inr rfl)))).2;obtain⟨f1,f2,f3⟩:=FG.new hc;have aaW:∀ z∈as2,z∉A2.mut/\z≠A2.cl/\z∉A2.cs/\z≠A2.aw:=fun z hz=>by
    rcases W5.new z hz with w|w
    ·exact sep z (.inr w)
    ·obtain⟨g1,g2,g3⟩:=FG.new w;exact⟨g3,g1.1,g1.2,fun y=>by rw[y,YF] at w;cases w⟩
   wp_walk;refine⟨b,A2,S,p,y,x,302 * i,by rw[hm],FG5,hx5,hf,FT,by omega,hn,sd,by omega,fun A' p' op us' G6 F6 ZL e6 c6 n6 W6 hk6=>?_⟩;have T6:aE G5 G6:=FG5.tkp (W6.mono (E:=[rl]) 1e1) eG5;have Ys:=RA5.keep (fun z o e hz=>W6.kp z o e (by
    rcases hz with rfl|hz|hz
    ·intro w;obtain⟨o',e',hk'⟩:=FG5.kind w;have:=RA5.wk.ins;rw[this] at e';cases e';exact hk' _ _ _ rfl
    ·exact(sep z (.inl hz)).1
    ·exact(aaW z hz).1) 1e1) T6
   have ec6:=W6.kp _ _ ec f3 1e1;have hC6:=hC.kt T6;obtain⟨Wl,at2⟩:=Fd S x;refine⟨.ref c,.ref op,3,rfl,rfl,qK.Sf ec6 e6 hC6 c6 1e0 at2,fun G7 K7=>?_⟩;have FT6:Wk true (S.take x).1 (302 * (i+1)):=by
    obtain⟨_,M5,_⟩:=FG5.ex;rw[show 302 * (i+1)=302 * i+302 by omega];exact FT.He x hf.1 hf.2 (fun j hj=>eU (by have:=(M5.lt j hj).1;omega) (by have:=(M5.lt j hj).2;have:=FT.md;omega)) 1e0
   have hn6:=DH hn x;have sd6:=DA sd hn x;have hw6:∀ ts,(S.take x).1.sl=.wait ts->ts.length<=1000:=fun ts ZP=>by
    obtain⟨x',ss,Wq,hl⟩:=sd6.wt ts ZP;have:=FT6.stm Wq;have h4:=this.2.1;omega
   have ab7:∀ z,z∈R.cells\/z∈as2->z∉A'.mut/\z≠A'.cl/\z∉A'.cs/\z≠A'.aw:=fun z hz=>by
    have old:z∉A2.mut/\z≠A2.cl/\z∉A2.cs/\z≠A2.aw:=hz.elim (fun w=>sep z (.inl w)) (aaW z);obtain⟨o,ez,_⟩:=RA5.cellK hz;refine⟨fun w=>?_,by rw[show A'.cl=A2.cl from W6.m1.2.1];exact old.2.1,by rw[show A'.cs=A2.cs from W6.m1.2.2];exact old.2.2.1,fun w=>?_⟩
    ·rcases W6.nw z w with w|w
     ·exact old.1 w
     ·rw[w] at ez;cases ez
    ·rcases W6.na with u|⟨u,_⟩
     ·exact old.2.2.2 (w.trans u)
     ·rw[<- show z=({A' with nk:=A2.nk}:Fa).aw from w,ez] at u;cases u
   have acH:∃ o,G6 A'.aw=some o:=by
    rcases W6.na with u|⟨_,u⟩
    ·rw[show A'.aw=A2.aw from u];exact W6.st _ _ abG
    ·exact u
   have ab0:rl∉A'.mut:=fun w=>by
    rcases W6.nw rl w with w|w
    ·exact nr1 w
    ·rw[eG5] at w;cases w
   have ab1:rl∉as2:=fun w=>by
    rcases W5.new rl w with w|w
    ·exact nr3 w
    ·rw[eG] at w;cases w
   have eG6:=K7.at (W6.kp _ _ eG5 nr1 1e1);have hG6:=(hG5.kt T6).kt (aE.nil K7);replace Ys:=Ys.kp K7;replace F6:=F6.kp K7;have am6:A'.md=md:=W6.m1.1.trans hm;obtain⟨o6,Z8⟩:=acH;replace Z8:=K7.at Z8;clear W6 W5 RA5 FG5 FG RG K7 T5 T6;wp_walk;right
   exists Ys.ins
   refine⟨R,as2,_,_,rfl,Ys,?_⟩;refine⟨b,A',(S.take x).1,p',_,by rw[am6],F6,FT6,hn6,fun ts h=>by have:=hw6 ts h;omega,fun v8 G8 hv8 K8=>?_⟩;replace Ys:=Ys.kp K8;refine⟨_,v8,3,rfl,rfl,qK.Ut Ys.slp hv8 hn6 hw6,fun G9 K9=>?_⟩;replace Ys:=Ys.kp K9
   exists Ys.ins
   have pd6:=FT6.pd;refine⟨R,as2,_,_,rfl,Ys,by omega,fun l hl=>?_⟩;have NL:=q0D (o:=.lst ((S.take x).1.pend.map V.int)) hl;have KA:=(K8.trans K9).trans NL;have F9:=F6.kp KA;obtain⟨_,M9,_⟩:=F9.ex;obtain⟨kv9,em9,lk9,_,_,_,_,v59,_⟩:=M9.hm;rw[am6] at em9
   exists em9,v59
   refine⟨.ref l,.ref A'.od,3,rfl,rfl,qK.ints aA M9.ho 1e0,fun GA KB=>?_⟩;have KC:=NL.trans KB;have KD:=KA.trans KB;wp_walk;rw[Wr];have eS1:(takes (gS b) (hs.take (i+1))).1=(S.take x).1:=by rw[es]
   rw[eS1];exact⟨_,as2,_,A',p',rfl,Ys.kp KC,F6.kp KD,FT6,hn6,sd6,by omega,am6,ab7,⟨_,KD.at Z8⟩,KD.at eG6,hG6.kt (aE.nil KD),ab0,nr2,ab1⟩
  intro σ G h;rw[Wr,lh2,List.take_length] at h;obtain⟨v5,as,sl,A2,p,rfl,RG,FG,FT,hn,sd,hk,hm,sep,xaw,eG,hG,nr1,nr2,nr3⟩:=h;right
  exists RG.ins
  refine⟨R,as,_,_,rfl,RG,?_⟩;have hw:∀ ts,(takes (gS b) hs).1.sl=.wait ts->ts.length<=1000:=fun ts ZP=>by
   obtain⟨x',ss,Wq,hl⟩:=sd.wt ts ZP;have:=FT.stm Wq;have h4:=this.2.1;omega
  refine⟨b,A2,_,p,_,by rw[hm],FG,FT,hn,fun ts h=>by have:=hw ts h;omega,fun v8 G8 hv8 K8=>?_⟩;refine⟨_,v8,3,rfl,rfl,qK.Ut (RG.kp K8).slp hv8 hn hw,fun G9 K9=>?_⟩;exact q _
end
def Ma{q:Program}{K:Params->q0B}{t:Nat}{r:PySem.W.RowW}{d:DefRec}{kwd:List (Str×Expr)}{run:Value->List Value->Sem Value}(e:∀ P:Params,as=List.map (fun x=>x.fst) (K P))(H:PySem.W.WalkO q loose XP (PySem.W.kHook K as e).says r d kwd run):PySem.W.WalkX q loose XP (PySem.W.X.obsZ as) (PySem.W.X.valZ K n t) r d kwd run:=fun w s₀ s₁ mg mb G y a o pm cd doc dV kV h1 h2 h3 h4 h5 h6 args vals bs L=>by
 obtain⟨_,f,_,_⟩:=PySem.W.X.z_facts e y;exact H w s₀ s₁ mg mb G (show PySem.W.InK K w s₁.heap from fun p ob hp=>L.keeps _ _ (f p ob hp)) a o pm cd doc dV kV h1 h2 h3 h4 h5 h6 args vals bs
section
open PySem.W
def Po{l:OpenLaw}{w:World}{K:Frag}{h:Heap}{fa:Addr}(X:K.In h)(G:h.Ns mainGlobals mg)(hfa:mg "law"=some (.ref fa)){f0 f1 f2 f3 f4 f5 f6 f7 f8 f9 f10 f11 f12 f13 f14 f15 f16 f17 f18 f19 f20 f21 f22 f23 f24 f25 f26 f27 f28 f29 f30 f31 f32 f33 f34 f35 f36 f37 f38 f39 f40 f41 f42 f43 f44 f45 f46 f47 f48 f49 Zz f51 f52 f53 f54 f55 f56 f57 f58 f59 f60 f61 f62 f63 f64 f65 f66 f67:Addr}{d0 d1 d2 d3 d4 d5 d6 d7 d8 d9 d10 d11 d12 d13 d14 d15 d16 d17 d18 d19 d20 d21 d22 d23 d24 d25 d26 d27 d28 d29 d30 d31 d32 d33 d34 d35 d36 d37 d38 d39 d40 d41 d42 d43 d44 d45 d46 d47 d48 d49 d50 d51 d52 d53 d54 d55 d56 d57 d58 d59 d60 d61 d62 d63 d64 d65 d66 d67:FuncData}{aI:Addr}{aP:Addr}{aN:Addr}{tk0:Tok}{tk1:Tok}{tk2:Tok}{Yy:Addr}{te3:Array DictEntry}{tn3:Nat}(Yc:nsIn K mainGlobals "Tickets"=some (some (.ref aI)))(Yn:plainGet K aI Str.empty=true)(Yh:hasDictIn K aI=true)(Yo:plainOver K aI=true)(Yp:findIn K (.ref aI) "__setattr__"=some (some (.builtin "object.__setattr__")))(rE:makesIn K aI=true)(Yk:keepIn K (.ref aI)=true)(Z5:nsIn K mainGlobals "Walk"=some (some (.ref aP)))(aaR:plainGet K aP Str.empty=true)(aaC:hasDictIn K aP=true)(aaS:plainOver K aP=true)(aaT:findIn K (.ref aP) "__setattr__"=some (some (.builtin "object.__setattr__")))(EB:makesIn K aP=true)(aaK:keepIn K (.ref aP)=true)(aaU:nsIn K mainGlobals "Run"=some (some (.ref aN)))(abA:plainGet K aN Str.empty=true)(aaZ:hasDictIn K aN=true)(abB:plainOver K aN=true)(abC:findIn K (.ref aN) "__setattr__"=some (some (.builtin "object.__setattr__")))(KL:makesIn K aN=true)(aa4:keepIn K (.ref aN)=true)(F0:Gf0 K "kept" LB f0 d0)(F1:Gf0 K "worth_of" AD f1 d1)(F2:Gf0 K "joined" Dk f2 d2)(F3:Gf0 K "number_of" x9 f3 d3)(F4:Gf0 K "one_or_nought" oF f4 d4)(F5:Gm0 K aI "__init__" "Tickets.__init__" oB f5 d5)(F6:Gm0 K aI "make" "Tickets.make" oC f6 d6)(F7:Gm0 K aI "is_open" "Tickets.is_open" lP f7 d7)(F8:Gm0 K aI "those_open" "Tickets.those_open" jB f8 d8)(F9:Gm0 K aI "finish" "Tickets.finish" lO f9 d9)(F10:Gm0 K aI "shut" "Tickets.shut" oE f10 d10)(F11:Gm0 K aI "shut_all" "Tickets.shut_all" kL f11 d11)(F12:Gm0 K aI "first_done" "Tickets.first_done" jA f12 d12)(F13:Gm0 K aP "__init__" "Walk.__init__" xU f13 d13)(F14:Gm0 K aP "come_to" "Walk.come_to" qC f14 d14)(F15:Gm0 K aP "stands_at" "Walk.stands_at" mQ f15 d15)(F16:Gm0 K aP "pass_by" "Walk.pass_by" qD f16 d16)(F17:Gm0 K aP "enter" "Walk.enter" sO f17 d17)(F18:Gm0 K aP "leave" "Walk.leave" sP f18 d18)(F19:Gf0 K "do_set" GD f19 d19)(F20:Gf0 K "do_order" Av f20 d20)(F21:Gf0 K "do_timer" Aw f21 d21)(F22:Gf0 K "do_send" Di f22 d22)(F23:Gf0 K "do_drop" Dg f23 d23)(F24:Gf0 K "do_wait" Dj f24 d24)(F25:Gf0 K "do_hear" Dh f25 d25)(F26:Gf0 K "do_end" GC f26 d26)(F27:Gm0 K aN "__init__" "Run.__init__" Aq f27 d27)(F28:Gm0 K aN "waits" "Run.waits" xS f28 d28)(F29:Gm0 K aN "open_tickets" "Run.open_tickets" kK f29 d29)(F30:Gm0 K aN "take" "Run.take" As f30 d30)(F31:Gm0 K aN "passes_over" "Run.passes_over" lL f31 d31)(F32:Gm0 K aN "take_done" "Run.take_done" oA f32 d32)(F33:Gm0 K aN "take_letter" "Run.take_letter" lM f33 d33)(F34:Gm0 K aN "wake" "Run.wake" Au f34 d34)(F35:Gm0 K aN "go_on" "Run.go_on" Ap f35 d35)(F36:Gm0 K aN "do_one" "Run.do_one" xR f36 d36)(F37:Gm0 K aN "look" "Run.look" Ar f37 d37)(F38:Gm0 K aN "end" "Run.end" Df f38 d38)(F39:Gm0 K aN "wear_out" "Run.wear_out" qB f39 d39)(F40:Gm0 K aN "worth" "Run.worth" xT f40 d40)(F41:Gm0 K aN "new_ticket" "Run.new_ticket" mP f41 d41)(F42:Gf0 K "_law_deck" Ax f42 d42)(F43:Gf0 K "_law_pick" AA f43 d43)(F44:Gf0 K "_law_name" Az f44 d44)(F45:Gf0 K "_law_worth" x8 f45 d45)(F46:Gf0 K "_law_saying" sU f46 d46)(F47:Gf0 K "_law_plain" xX f47 d47)(F48:Gf0 K "_law_simple" sV f48 d48)(F49:Gf0 K "_law_closed" sQ f49 d49)(F50:Gf0 K "_law_program" qG Zz d50)(F51:Gf0 K "_law_bounded" qE f51 d51)(F52:Gf0 K "_law_says" AB f52 d52)(F53:Gf0 K "_law_flat" Ay f53 d53)(F54:Gf0 K "_law_new" Dl f54 d54)(F55:Gf0 K "_law_ticket" sW f55 d55)(F56:Gf0 K "_law_ended" xW f56 d56)(F57:Gf0 K "_law_do_plain" qF f57 d57)(F58:Gf0 K "_law_do_wait" sS f58 d58)(F59:Gf0 K "_law_do_hear" sR f59 d59)(F60:Gf0 K "_law_go" GF f60 d60)(F61:Gf0 K "_law_goes_behind" lQ f61 d61)(F62:Gf0 K "_law_takes" xY f62 d62)(F63:Gf0 K "_law_waits" xZ f63 d63)(F64:Gf0 K "_law_happening" mR f64 d64)(F65:Gf0 K "_law_row" Dm f65 d65)(F66:Gf0 K "_law_alike" xV f66 d66)(F67:Gf0 K "law" OU f67 d67)(wX:findIn K (.ref aI) "made"=some none)(gD:findIn K (.ref aI) "pending"=some none)(gZ:findIn K (.ref aI) "answers"=some none)(iF:findIn K (.ref aP) "blocks"=some none)(fB:findIn K (.ref aP) "numbers"=some none)(jR:findIn K (.ref aN) "walk"=some none)(dN:findIn K (.ref aN) "sleep"=some none)(CN:findIn K (.ref aN) "arg"=some none)(sG:findIn K (.ref aN) "now"=some none)(iS:findIn K (.ref aN) "names"=some none)(cS:findIn K (.ref aN) "tickets"=some none)(kF:findIn K (.ref aN) "letters"=some none)(v0:nsIn K mainGlobals "GREATEST_WORTH"=some (some (.int 1000000000 tk0)))(v1:nsIn K mainGlobals "GREATEST_MOMENT"=some (some (.int 1000000000000 tk1)))(v2:nsIn K mainGlobals "MOST_AT_ONCE"=some (some (.int 300 tk2)))(v3:nsIn K mainGlobals "DEEDS"=some (some (.ref Yy)))(u3:K.lookup Yy=some {cls:=.type "dict",data:=.dict te3 tn3})(ab8:nsIn K Yy "set"=some (some (.ref f19)))(ab9:nsIn K Yy "order"=some (some (.ref f20)))(acA:nsIn K Yy "timer"=some (some (.ref f21)))(acB:nsIn K Yy "child"=some (some (.ref f20)))(acC:nsIn K Yy "send"=some (some (.ref f22)))(acD:nsIn K Yy "drop"=some (some (.ref f23)))(acE:nsIn K Yy "wait"=some (some (.ref f24)))(acF:nsIn K Yy "hear"=some (some (.ref f25)))(acG:nsIn K Yy "end"=some (some (.ref f26)))(Mc:nsIn K mainGlobals "bool"=some none)(Md:nsIn K mainGlobals "dict"=some none)(zQ:nsIn K mainGlobals "int"=some none)(dY:nsIn K mainGlobals "isinstance"=some none)(jU:nsIn K mainGlobals "len"=some none)(DK:nsIn K mainGlobals "list"=some none)(BV:nsIn K mainGlobals "max"=some none)(IZ:nsIn K mainGlobals "min"=some none)(rY:nsIn K mainGlobals "range"=some none)(Oy:nsIn K mainGlobals "set"=some none)(uJ:nsIn K mainGlobals "sorted"=some none)(iK:nsIn K mainGlobals "tuple"=some none)(kl3:KeysLit w.params te3.toList) : ∃ fd:FuncData,(∀(s:Shared) (v:Value),BindsTo s fd ⟨[v],[]⟩ [("script",v)])/\∀ base:Heap,K.In base->base.Ns mainGlobals mg->eP l.prog w K mg base WW 40 fa fd ["script"] (GN K):=by
 have e:=hfa.symm.trans (mg_of X G F67.a);cases e;refine⟨d67,?_,fun base _ _=>Rf (?_:Tx l.prog w base K mg ⟨f0,d0,f1,d1,f2,d2,f3,d3,f4,d4,f5,d5,f6,d6,f7,d7,f8,d8,f9,d9,f10,d10,f11,d11,f12,d12,f13,d13,f14,d14,f15,d15,f16,d16,f17,d17,f18,d18,f19,d19,f20,d20,f21,d21,f22,d22,f23,d23,f24,d24,f25,d25,f26,d26,f27,d27,f28,d28,f29,d29,f30,d30,f31,d31,f32,d32,f33,d33,f34,d34,f35,d35,f36,d36,f37,d37,f38,d38,f39,d39,f40,d40,f41,d41,f42,d42,f43,d43,f44,d44,f45,d45,f46,d46,f47,d47,f48,d48,f49,d49,Zz,d50,f51,d51,f52,d52,f53,d53,f54,d54,f55,d55,f56,d56,f57,d57,f58,d58,f59,d59,f60,d60,f61,d61,f62,d62,f63,d63,f64,d64,f65,d65,f66,d66,fa,d67,tk0,tk1,tk2,Yy,aI,aP,aN⟩)⟩
 ·obtain⟨_,_,_,_,_,_,_,_,_,rfl,_⟩:=F67.F.ex;exact fun s v=>.of_eq rfl
 ·exact⟨(F0.go X G),(F1.go X G),(F2.go X G),(F3.go X G),(F4.go X G),F5.go,F6.go,F7.go,F8.go,F9.go,F10.go,F11.go,F12.go,F13.go,F14.go,F15.go,F16.go,F17.go,F18.go,(F19.go X G),(F20.go X G),(F21.go X G),(F22.go X G),(F23.go X G),(F24.go X G),(F25.go X G),(F26.go X G),F27.go,F28.go,F29.go,F30.go,F31.go,F32.go,F33.go,F34.go,F35.go,F36.go,F37.go,F38.go,F39.go,F40.go,F41.go,(F42.go X G),(F43.go X G),(F44.go X G),(F45.go X G),(F46.go X G),(F47.go X G),(F48.go X G),(F49.go X G),(F50.go X G),(F51.go X G),(F52.go X G),(F53.go X G),(F54.go X G),(F55.go X G),(F56.go X G),(F57.go X G),(F58.go X G),(F59.go X G),(F60.go X G),(F61.go X G),(F62.go X G),(F63.go X G),(F64.go X G),(F65.go X G),(F66.go X G),(F67.go X G),⟨Yn,Yh,Yo,Yp⟩,(mg_of X G Yc),⟨rE,F5.a,F5.i,Yk⟩,⟨aaR,aaC,aaS,aaT⟩,(mg_of X G Z5),⟨EB,F13.a,F13.i,aaK⟩,⟨abA,aaZ,abB,abC⟩,(mg_of X G aaU),⟨KL,F27.a,F27.i,aa4⟩,wX,gD,gZ,iF,fB,jR,dN,CN,sG,iS,cS,kF,(mg_of X G v0),(mg_of X G v1),(mg_of X G v2),(mg_of X G v3),⟨_,_,u3,kl3⟩,ab8,ab9,acA,acB,acC,acD,acE,acF,acG,(mg_none_of X G Mc),(mg_none_of X G Md),(mg_none_of X G zQ),(mg_none_of X G dY),(mg_none_of X G jU),(mg_none_of X G DK),(mg_none_of X G BV),(mg_none_of X G IZ),(mg_none_of X G rY),(mg_none_of X G Oy),(mg_none_of X G uJ),(mg_none_of X G iK)⟩
end
theorem walk{l:PySem.W.OpenLaw}{q:Program}{YP:World->Heap->Prop}{d:DefRec}{K:Params->q0B}(hn:l.most=some 63)(hdf:d.params.defaults=[])(hY:∀(w:World) (h:Heap),YP w h->(K w.params).In h)(F:∀(w:World) (mg:q0C) (fa:Addr) (h:Heap),(K w.params).In h->h.Ns mainGlobals mg->mg d.name=some (.ref fa) -> ∃ fd:FuncData,(∀(s:Shared) (u:Value),BindsTo s fd ⟨[u],[]⟩ [("script",u)])/\∀ base:Heap,(K w.params).In base->base.Ns mainGlobals mg->eP l.prog w (K w.params) mg base WW 40 fa fd ["script"] (GN (K w.params))) : PySem.W.WalkO q loose XP YP l.row.toRowW d [] (fun f vs=>PySem.call f vs) :=
 L2.Ox (n:=63) (k:=40) (x:="script") (CX:=fun _=>WW) (sp:=fun w=>GN (K w.params)) hn 1e6 hdf ⟨rfl,by decide,by decide⟩ hY F (fun _ _ a ns hl _ hS=>⟨a,ns,rfl,hS,hl,fun _=>rfl⟩) fun _ _ _ _ _ z=>z
end Own
open PySem PySem.W PyProof.Rows
set_option maxRecDepth 100000 in
set_option maxHeartbeats 0 in
theorem PySem.Challenge.cw_outlast_k17_whole_any_program_holds : PySem.Challenge.rw_outlast_k17_whole_any_program.Holds := by
 w_on;o_law;z_head;(case hw=>w_witness2)
 k_fill
 refine Own.Ma (fun _=>rfl) ?_;refine Own.walk (l:=PySem.Challenge.rw_outlast_k17_whole_any_program) rfl rfl (fun w h Y=>PySem.W.kIn_of Y) ?F
 case F =>
  intro w mg fa h KX G hmg;apply Own.Po KX G hmg
  iterate 127 (first|(apply Own.Tz<;>k_is)|(apply Own.TB<;>k_is)|k_is)
  exact⟨⟨_,_,rfl,rfl⟩,⟨_,_,rfl,rfl⟩,⟨_,_,rfl,rfl⟩,⟨_,_,rfl,rfl⟩,⟨_,_,rfl,rfl⟩,⟨_,_,rfl,rfl⟩,⟨_,_,rfl,rfl⟩,⟨_,_,rfl,rfl⟩,⟨_,_,rfl,rfl⟩,trivial⟩
