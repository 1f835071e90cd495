import PyProof.Rows.All
import Wide.All
import OpenK.AllK
import Wide.FinOn
import Lean
import PyProof.EqAt
import PyProof.EqKinds
import PyProof.TupleCall
import PySem.Challenge.RW_outlast_k09_bounds_of_programs
set_option Elab.async false
set_option linter.all false
set_option maxRecDepth 100000
local macro_rules | `(tactic| omega) => `(tactic| first | assumption | lia | omega +splitDisjunctions)
namespace PySem.W.Fast
def tw14858599401360249544:=0
def tw751910020790273185:=0
def tw2824133564480124468:=0
def tw2695888923301561422:=0
def tw5706431528014114678:=0
def tw10600949967310608593:=0
def tw10297415225675157924:=0
def tw7003954003826576978:=0
def tw15123347203266760564:=0
def tw13785146195849087662:=0
def tw10475201535674473500:=0
def tw15856772705104547380:=0
def tw7780960615450520337:=0
def tw4731156912864314348:=0
def tw17550561225886146875:=0
def tw9148276414363327773:=0
def tw8052875678768081546:=0
def tw1371458705765302781:=0
def tw2497113469309710313:=0
def tw17194024304122564132:=0
def tw14376121129167079098:=0
def tw15216306300866445447:=0
def tw481675852007255054:=0
def tw18233119286665561419:=0
def tw621573980186924637:=0
def tw14252801420970920578:=0
def tw5883265520907373099:=0
def tw6228047776539991466:=0
def tw9058193380553703270:=0
def tw13509684072159752734:=0
def tw5545449697085015002:=0
def tw10887127082979038516:=0
def tw7567081225095406207:=0
def tw17710581867337922121:=0
def tw7005864723966819339:=0
def tw16497934171755849424:=0
def tw4077476893064296593:=0
def tw16124717377527419533:=0
def tw16411437584916379994:=0
def tw1174728188920788797:=0
def tw1181532390199127279:=0
def tw13528968633120509892:=0
def tw17853621096874751221:=0
def tw1127537555199524540:=0
def tw12880637487807240596:=0
def tw14814037571760299397:=0
def tw959630443742089578:=0
def tw8817191754291722506:=0
def tw6627210997997641598:=0
def tw4949117381841224694:=0
def tw54396347321540898:=0
def tw14416745586777561645:=0
def tw1537578788785935838:=0
def tw13162074687680516728:=0
def tw11658032732341101909:=0
def tw14919111059423606525:=0
def tw12914473591155263366:=0
def tw2829339495739199353:=0
def tw8779901973626092487:=0
def tw14957465108100725551:=0
def tw16731941276033827157:=0
def tw12650600145657664677:=0
def tw5807508613876487671:=0
def tw14346338373651639330:=0
def tw11075078714194593917:=0
def tw9491425920380390444:=0
def tw7066543034347356180:=0
def tw3339396635565515957:=0
def tw6401894365386147119:=0
def tw17593015701781777801:=0
def tw13334378743226554462:=0
def tw16289154164835559743:=0
def tw16455339960265596620:=0
def tw15826977005567598536:=0
def tw15610339952769046391:=0
def tw10947052436136838140:=0
def tw17922189099299016482:=0
def tw10068722347419207487:=0
def tw15765353207979444825:=0
def tw1855138018190827624:=0
def tw1515207477329326218:=0
def tw10941212108154543566:=0
def tw11770043350321978192:=0
def tw17021754258710002448:=0
def tw10037394504694815476:=0
def tw270882144027014556:=0
def tw16935315463557997425:=0
def tw5087156075937080915:=0
def tw13047902061807939390:=0
def tw8484336480481552352:=0
def tw13868737815109708360:=0
def tw16988788799826195908:=0
def tw21750261588356016:=0
def tw17597667026135077094:=0
def tw14292440797436436280:=0
def tw8076033330845457326:=0
def tw529623514472079832:=0
def tw4745529457912377224:=0
def tw12546607322183281290:=0
def tw7997045595493995241:=0
def tw12800093177841256788:=0
def tw5115881166027343440:=0
def tw11689894692937540876:=0
def tw2791213788938313887:=0
def tw8209843133658019618:=0
def tw7529904508137624780:=0
def tw3381622765023189042:=0
def tw12382884026521808196:=0
def tw6624045211922771815:=0
def tw16859244856556559123:=0
def tw7515553320452894003:=0
def tw17343307261670797271:=0
def tw14935772324446358687:=0
def tw5277963605820309460:=0
def tw3652712976412765163:=0
def tw1863598685857283656:=0
def tw11553278124741669815:=0
def tw1522972673371683956:=0
def tw274266993551675591:=0
def tw12908374849988290513:=0
def tw3490192622618921518:=0
def tw5201461837203355913:=0
def tw3081359123092518046:=0
def tw7544712865779296458:=0
def tw11434839540904785122:=0
def tw11279933336767285072:=0
def tw1109046844573206227:=0
def tw10371801119432905710:=0
def tw7265145814381304039:=0
def tw6129794694007066805:=0
def tw2085088657797859266:=0
def tw3743557498022225197:=0
def tw721102024401950168:=0
def tw17334626416792913248:=0
def tw197119287103404049:=0
def tw3270132450097715134:=0
def tw1220587686898355815:=0
def tw9716882428602618345:=0
def tw1940951048387723972:=0
def tw15486258210032082752:=0
def tw1787345368483768348:=0
def tw15651385123476354301:=0
def tw6622375647844643496:=0
def tw12709387651305978099:=0
def tw17438521222007452361:=0
def tw10571859199086701679:=0
def tw11267222099126821939:=0
def tw16416526107983261263:=0
def tw11430697133885693608:=0
def tw5083434324425075686:=0
def tw2701761798498180351:=0
def tw8650530891790271064:=0
def tw2813581822343087159:=0
def tw14172326008248067922:=0
def tw13773605213404042680:=0
def tw12204278864724090644:=0
def tw14529010281242737343:=0
def tw5429014412663698262:=0
def tw13047620123610764487:=0
def tw2000419652181707231:=0
def tw17996546586983231697:=0
def tw8464167820967936622:=0
def tw7800517615787446317:=0
def tw16511496828502521389:=0
def tw14080166255149815195:=0
def tw2320540309595359590:=0
def tw7472043994850307715:=0
def tw273640793857105652:=0
def tw2577493297903623396:=0
def tw5818891038784672704:=0
def tw14516814392683052875:=0
def tw11577412714680900890:=0
def tw11695658384558687511:=0
def tw9327774756119282960:=0
def tw14378473418933334424:=0
def tw14365116068472738733:=0
def tw11820334701271006487:=0
def tw14124860718790539171:=0
def tw320601063993941019:=0
def tw11625721737198720920:=0
def tw11513694701869842304:=0
def tw1368359773457301809:=0
def tw17931999091569196959:=0
def tw3791033404439997906:=0
def tw16524514199703395597:=0
def tw68870027560372491:=0
def tw17275492641187042138:=0
def tw1514473797667870767:=0
def tw15079408087820195047:=0
def tw11174272513004151434:=0
def tw546758155385112454:=0
def tw11119058500879920947:=0
def tw6941487913506944647:=0
def tw2650233143410450746:=0
def tw209943911362087646:=0
def tw11261351391690985049:=0
def tw17896976787411958663:=0
def tw4390274352884382941:=0
def tw12865884543011210388:=0
def tw784566844554178516:=0
def tw16283881776278547792:=0
def tw9899035183381002091:=0
def tw6190835119143326811:=0
def tw8823638310025541727:=0
def tw15734220729006810347:=0
def tw10744548486523357406:=0
def tw4586693692546041514:=0
def tw16013205816459590681:=0
def tw15168393653057897684:=0
def tw13285401879495830772:=0
def tw7165726305060647264:=0
def tw13222755816811523348:=0
def tw8396394882245510010:=0
def tw2108509240418061201:=0
def tw3533210061738145698:=0
def tw5220475734690748038:=0
def tw5995588541868948782:=0
def tw1903604691226489459:=0
def tw3285496499524656562:=0
def tw4383321853463328581:=0
def tw853784375188057341:=0
def tw15644368042173043729:=0
def tw3722255671455927990:=0
def tw6336052585641026496:=0
def tw388902471956468470:=0
def tw3350814000044415362:=0
def tw11692441627419206946:=0
def tw219988736866797138:=0
def tw3907529001190177037:=0
def tw10689260571424390539:=0
def tw924281494018716442:=0
def tw8028243728700051437:=0
def tw771133119508132797:=0
def tw4024395057992318640:=0
def tw3173231113233513383:=0
def tw2474433237994473474:=0
def tw13201984484144733011:=0
def tw1075295315002271995:=0
def tw4094415305317144249:=0
def tw8360998239298040361:=0
def tw16724677914535065592:=0
def tw7786616796674630951:=0
def tw503076306053368127:=0
def tw1008114692979799616:=0
def tw15112902382669193321:=0
def tw1666733500117020449:=0
def tw6353261501919723438:=0
def tw2879986358162544117:=0
def tw758941583098998121:=0
def tw6434938543889364213:=0
def tw14700624976355524553:=0
def tw12693119975262603382:=0
def tw6592708349055490497:=0
def tw7019341088098591923:=0
def tw5659950449397964147:=0
def tw5185191839321406592:=0
def tw458406234308488543:=0
def tw3575122936065765353:=0
def tw18300222428316032309:=0
def tw17758948834314402757:=0
def tw17384200545886945108:=0
def tw16981875722470430657:=0
def tw14774693229698525366:=0
def tw8344106482403517360:=0
def tw6761999018439352285:=0
def tw5667758027393872123:=0
def tw2342705164566575462:=0
def tw17620520440053679337:=0
def tw17514749738645378469:=0
def tw16491885427299905907:=0
def tw15740229149912973901:=0
def tw10695537290270184149:=0
def tw10181777768043686163:=0
def tw13480964985173979979:=0
def tw9498545649260998500:=0
def tw18191616643044980763:=0
def tw17480146044692328291:=0
def tw16785774998540985358:=0
def tw16154582257716511359:=0
def tw15406097621094613907:=0
def tw15073059078405116020:=0
def tw11811011115286240550:=0
def tw8613302692607200195:=0
def tw4325475088110780975:=0
def tw1748739486140985529:=0
def tw16654705804437353273:=0
def tw15621707612663100091:=0
def tw14883140724399239:=0
def tw12295340960050962841:=0
def tw11791085084211707779:=0
def tw11769700052404145304:=0
def tw10890903038252653687:=0
def tw9965612739602429938:=0
def tw9917417599352989113:=0
def tw9657437309468088969:=0
def tw913050638224000986:=0
def tw9108456052922592463:=0
def tw9063210154543721217:=0
def tw8738073149832529421:=0
def tw8672754967549869759:=0
def tw8662869661640626212:=0
def tw861752662855431740:=0
def tw8604622608422898590:=0
def tw8187305585159831334:=0
def tw805677316324229174:=0
def tw7863237130013916355:=0
def tw760949138205036927:=0
def tw7509648880639668587:=0
def tw7327056574787791063:=0
def tw7302788090441583570:=0
def tw7146862965193064937:=0
def tw7099740132629731855:=0
def tw707000008903347196:=0
def tw6958173306313914488:=0
def tw6956776725267509120:=0
def tw6943424554060511327:=0
def tw6779199339145058678:=0
def tw6768447555067627369:=0
def tw6525142419195828171:=0
def tw6514250697676209587:=0
def tw6431246511800897031:=0
def tw5827747667621824191:=0
def tw5777155908537205798:=0
def tw5722041534876523280:=0
def tw5708163249414431612:=0
def tw5542111866105880083:=0
def tw5277705661784789754:=0
def tw5271473143469524186:=0
def tw5239701128783511654:=0
def tw5083847591899138159:=0
def tw469986376787817514:=0
def tw3637901892565790295:=0
def tw3617234499595088179:=0
def tw358422593826904794:=0
def tw3231251533043313110:=0
def tw2782154165478954112:=0
def tw2653273403559448671:=0
def tw2250949047553463244:=0
def tw2228057862004796896:=0
def tw2146619009096014387:=0
def tw1940256917102982106:=0
def tw1922862917129343782:=0
def tw18204719510920606015:=0
def tw18074471243833675081:=0
def tw17512222276372514869:=0
def tw17455318083270713636:=0
def tw17279110872074973368:=0
def tw17278938882914659729:=0
def tw17126860253953277655:=0
def tw17074950632199544695:=0
def tw17057761678626367049:=0
def tw16780113286096999272:=0
def tw15817814226646256145:=0
def tw15577322380747920338:=0
def tw15243583304986028698:=0
def tw15178965385168412539:=0
def tw1515881427892255905:=0
def tw14553601873934370541:=0
def tw14551984225328647371:=0
def tw14491443738902713817:=0
def tw14435362048870933131:=0
def tw14379405676645473003:=0
def tw13900609706667204854:=0
def tw13402485058664882293:=0
def tw13075530971468851638:=0
def tw12657449459131167943:=0
def tw12650291858542769423:=0
def tw12610299112797846502:=0
def tw12160500787047287713:=0
def tw11889655580815414978:=0
def tw11866832251155100841:=0
def tw11630117124859853900:=0
def tw11062256119536060266:=0
def tw10462633904903608000:=0
def tw10382421896916804200:=0
def tw1037968999360476463:=0
def tw10120958330346948335:=0
def tw10079339766746385428:=0
def tw10044067722349005278:=0
def tw10030682958857430683:=0
end PySem.W.Fast
abbrev q0A:=PySem.Value->PySem.Shared->Prop
abbrev q0B:=PySem.W.Frag
abbrev q0C:=PySem.Str->Option PySem.Value
namespace L2
open PySem PySem.Spec PyProof.Rows
inductive Key where
 | inl (i:Int)|inr (x:Str)|no
 deriving DecidableEq
noncomputable def w9:Key->Value->Bool
 | .inl k,v=>Value.isInt k v
 | .inr x,v=>Value.isStrOf x v
 | .no,.none=>true
 | .no,_=>false
noncomputable def R8(w:World):Key->Int
 | .inl k=>hashInt k
 | .inr x=>hashStr w x
 | .no=>reduceHash 0xFCA86420
theorem dW:∀ {k:Key} {v:Value},w9 k v=true->(∃ i t,k=Key.inl i/\v=Value.int i t)\/(∃ x t,k=Key.inr x/\v=Value.str x t)\/(k=Key.no/\v=Value.none)
 | .inl i,v,h=>by
  obtain⟨t,e⟩:=Value.isInt_shape (k:=i) (v:=v) h;exact .inl ⟨i,t,rfl,e⟩
 | .inr x,v,h=>by
  obtain⟨t,e⟩:=Value.isStrOf_shape (x:=x) (v:=v) h;exact .inr (.inl ⟨x,t,rfl,e⟩)
 | .no,v,h=>by
  cases v<;>first|exact .inr (.inr ⟨rfl,rfl⟩)|cases h
theorem DC(i:Int)(t:Tok):w9 (.inl i) (.int i t)=true:=by simp[w9,Value.isInt]
theorem DD(x:Str)(t:Tok):w9 (.inr x) (.str x t)=true:=by simp[w9,Value.isStrOf]
theorem MW(a b:Int):decide (Key.inl a=Key.inl b)=(a==b):=by
 by_cases e:a=b
 ·subst e;simp
 ·have h:¬ Key.inl a=Key.inl b:=fun q=>e (Key.inl.inj q);rw[decide_eq_false h];exact(beq_eq_false_iff_ne.mpr e).symm
theorem MY(a b:Str):decide (Key.inr a=Key.inr b)=decide (a=b):=by
 by_cases e:a=b
 ·subst e;simp
 ·have h:¬ Key.inr a=Key.inr b:=fun q=>e (Key.inr.inj q);rw[decide_eq_false h,decide_eq_false e]
noncomputable def eU(prog:Program)(w:World):PySem.KeyKind prog w Key where
 is:=w9
 hash:=R8 w
 inj:=fun v a b ha hb=>by
  rcases dW ha with⟨i,t,rfl,rfl⟩|⟨x,t,rfl,rfl⟩|⟨rfl,rfl⟩<;>rcases dW hb with⟨j,u,rfl,e⟩|⟨y,u,rfl,e⟩|⟨rfl,e⟩ <;>
   first|rfl|(cases e<;>rfl)
 byValue:=fun k v h=>by
  rcases dW h with⟨i,t,rfl,rfl⟩|⟨x,t,rfl,rfl⟩|⟨rfl,rfl⟩<;>rfl
 pyHash:=fun hv h=>by
  rcases dW hv with⟨i,t,rfl,rfl⟩|⟨x,t,rfl,rfl⟩|⟨rfl,rfl⟩
  ·exact wpAny_pyHash_int h
  ·exact wpAny_pyHash_str h
  ·exact PySem.W.pyHash_slot (T:="NoneType") rfl F.slot_NoneType_hash F.entry_NoneType_hash (F.args_NoneType_hash_1 _) (beq_builtin_none _) (.inl rfl) (wpAny_bind (wpAny_pure (wpAny_bind (wpAny_mkInt (wpAny_pure ⟨_,_,rfl,h⟩)))))
 eqBool:=fun hu hv h=>by
  rcases dW hu with⟨i,t,rfl,rfl⟩|⟨x,t,rfl,rfl⟩|⟨rfl,rfl⟩<;>rcases dW hv with⟨j,u,rfl,rfl⟩|⟨y,u,rfl,rfl⟩|⟨rfl,rfl⟩
  ·rw[MW] at h;exact wpAny_eqBool_int h
  ·exact SeqAt.EqAt.int_str i t y u _ _ _ _ h
  ·exact SeqAt.EqAt.int_none i t _ _ _ _ h
  ·exact SeqAt.EqAt.str_int x t j u _ _ _ _ h
  ·rw[MY] at h;exact wpAny_eqBool_str h
  ·exact SeqAt.EqAt.str_none x t _ _ _ _ h
  ·exact SeqAt.EqAt.none_int j u _ _ _ _ h
  ·exact SeqAt.EqAt.none_str y u _ _ _ _ h
  ·exact SeqAt.EqAt.same .none _ _ _ _ h
 «strs»:=fun k x t v h=>by
  rcases dW h with⟨i,u,rfl,e⟩|⟨y,u,rfl,e⟩|⟨rfl,e⟩
  ·exact nomatch e
  ·injection e with e1 _
   subst e1;cases v<;>rfl
  ·exact nomatch e
theorem AI(prog:Program)(w:World)(i:Int)(t:Tok):(eU prog w).is (.inl i) (.int i t)=true:=DC i t
theorem qV(prog:Program)(w:World)(x:Str)(t:Tok):(eU prog w).is (.inr x) (.str x t)=true:=DD x t
inductive V where
 | SR|bl (b:Bool)|int (i:Int)|str (x:Str)|byt (b:Array UInt8)|flt (b:UInt64)|ref (a:Addr)|ty (n:String)
 deriving DecidableEq
noncomputable def bJ:V->Value->Prop
 | .SR,u=>u=Value.none
 | .bl b,u=>u=Value.bool b
 | .int i,u=>∃ t,u=Value.int i t
 | .str x,u=>∃ t,u=Value.str x t
 | .byt b,u=>∃ t,u=Value.bytes b t
 | .flt b,u=>∃ t,u=Value.float b t
 | .ref a,u=>u=Value.ref a
 | .ty n,u=>u=Value.type n
noncomputable abbrev Vals:List V->List Value->Prop:=Paired bJ
theorem Vals.length{xs:List V}{us:List Value}(r:Vals xs us):xs.length=us.length:=Paired.length r
theorem Vals.get:∀ {xs:List V} {us:List Value} {i:Nat} {x:V},Vals xs us->xs[i]?=some x->∃ u,us[i]?=some u/\bJ x u
 | _,_,_,_,.nil,e=>by simp at e
 | _,_,0,_,.cons r _,e=>by simp at e;subst e;exact⟨_,rfl,r⟩
 | _,_,i+1,x,.cons _ t,e=>by
  obtain⟨u,h1,h2⟩:=Vals.get (i:=i) (x:=x) t (by simpa using e);exact⟨u,by simpa using h1,h2⟩
theorem Vals.set{x:V}{u:Value}(r:bJ x u):∀ {xs:List V} {us:List Value} (i:Nat),Vals xs us->Vals (xs.set i x) (us.set i u)
 | _,_,_,.nil=>.nil
 | _,_,0,.cons _ t=>.cons r t
 | _,_,i+1,.cons q t=>.cons q (Vals.set r i t)
theorem Vals.append{xs ys:List V}{us ws:List Value}(h:Vals xs us)(s:Vals ys ws):Vals (xs++ys) (us++ws):=by
 induction h with
 | nil=>exact s
 | cons r _ ih=>exact .cons r ih
theorem Vals.take:∀ {xs:List V} {us:List Value} (n:Nat),Vals xs us->Vals (xs.take n) (us.take n)
 | _,_,0,_=>.nil
 | _,_,_+1,.nil=>.nil
 | _,_,n+1,.cons r t=>.cons r (Vals.take n t)
theorem Vals.drop:∀ {xs:List V} {us:List Value} (n:Nat),Vals xs us->Vals (xs.drop n) (us.drop n)
 | _,_,0,r=>r
 | _,_,_+1,.nil=>.nil
 | _,_,n+1,.cons _ t=>Vals.drop n t
theorem Vals.none_of:∀ {xs:List V} {us:List Value} {i:Nat},Vals xs us->xs[i]?=none->us[i]?=none:=fun {xs us i} r e=>by
 have h1:=r.length;have h2:xs.length<=i:=List.getElem?_eq_none_iff.mp e;exact List.getElem?_eq_none_iff.mpr (by omega)
noncomputable def l9:Option V->Option Value->Prop
 | some v,some u=>bJ v u
 | none,none=>True
 | _,_=>False
noncomputable def KV{κ:Type}:List (κ×V)->List (κ×Value)->Prop:=Paired fun(p:κ×V) (q:κ×Value)=>p.1=q.1/\bJ p.2 q.2
noncomputable def kV:Key->V
 | .inl i=>.int i
 | .inr x=>.str x
 | .no=>.SR
inductive HO where
 /-- a list -/
 | lst (xs:List V)
 /-- a tuple (never changes) -/
 | tup (xs:List V)
 /-- a dict whose keys are ints and texts;one whose keys are tuples of ints and texts (the empty one is both) -/
 | dK (SN:List (Key×V))|dT (SN:List (List Key×V))
 /-- a set of ints: SQ members,SQ size -/
 | set (S:Int->Bool) (n:Nat)
 /-- an instance of the class at C,SQ dict at dx,SQ attributes -/
 | ins (C dx:Addr) (fs:List (Str×V))
 /-- the dict of the instance at x -/
 | own (x:Addr)
 /-- the dict of an exception -/
 | xd (fs:List (Str×V))
 /-- a bound method,f of x -/
 | met (f x:Addr)
 /-- a range object lo,lo+1,.. below hi -/
 | XY (lo hi:Int)
 /-- a thing that is known to the object (the script;a dict while a loop walks it): read,never written while it is so -/
 | Tn (o:Obj) (u:HO)
 /-- a code object's table -/
 | VR (ps:Array Value)
 /-- any other thing,by what is true of SQ one object (a def of aaA own: SetO a S n:=HO.ext fun h=>..) -/
 | ext (φ:Heap->Prop)
noncomputable abbrev Hp:=Addr->Option HO
noncomputable def SM(H:Hp)(a:Addr)(o:HO):Hp:=fun b=>if b=a then some o else H b
theorem aB{H:Hp}{a:Addr}{o:HO}:SM H a o a=some o:=by unfold SM;rw[if_pos rfl]
theorem aY{H:Hp}{a b:Addr}{o:HO}(h:b≠a):SM H a o b=H b:=by unfold SM;rw[if_neg h]
theorem xE{H:Hp}{a b:Addr}{o u:HO}(h:H a=some o)(h':H b=some u)(d:o≠u):a≠b:=by
 intro e;subst e;rw[h] at h';exact d (Option.some.inj h')
theorem aX{H:Hp}{a b:Addr}{o:HO}(h:H a=some o)(h':H b=none):a≠b:=by
 intro e;subst e;rw[h] at h';cases h'
section
variable (P:Program) (w:World)
noncomputable def dU(H:Hp)(h:Heap)(a:Addr):HO->Prop
  | .lst xs=>xs.length<=sizeLine/\∃(SQ:List Value) (n:Nat),Vals xs SQ/\h.get? a=some {cls:=.type "list",data:=.seq SQ.toArray n}
  | .tup xs=>xs.length<=sizeLine/\∃ SQ:List Value,Vals xs SQ/\IsTup h a SQ.toArray
  | .dK SN=>SN.length<=sizeLine/\(a==sysModules)=false/\∃ vs,KV SN vs/\h.DictOf (eU P w) a vs
  | .dT SN=>SN.length<=sizeLine/\(a==sysModules)=false/\∃ xs:List (List Key×Addr×Value),
      Paired (fun(p:List Key×V) (q:List Key×Addr×Value)=>p.1=q.1/\H q.2.1=some (.tup (p.1.map kV))/\bJ p.2 q.2.2) SN xs /\
      ∃ o es ep,h.get? a=some o/\o.ExactDict/\o.data=.dict es ep/\es.toList=xs.map (entryOfKey (tupleKind (eU P w)))/\(xs.map (·.1)).Nodup
  | .set S n=>h.SetOf (intKind P w) a S n
  | .ins C dx fs=>H dx=some (.own a)/\fs.length<=1000/\dx≠a/\h.get? a=some (PySem.W.instObj C dx) /\
      ∃ mA,h.Ns1 dx mA/\(∀ f,l9 (fs.lookup f) (mA f))/\PySem.Within mA (fs.map (·.1))
  | .own _=>∃ o,h.get? a=some o
  | .xd fs=>∃ mA,h.Ns1 a mA/\∀ f,l9 (fs.lookup f) (mA f)
  | .XY lo hi=>∃ t u v,h.get? a=some {cls:=.type "range",data:=.fields #[.int lo t,.int hi u,.int 1 v]}
  | .Tn o u=>h.get? a=some o/\dU H h a u
  | .VR ps=>h.get? a=some {cls:=.none,data:=.fields ps}
  | .met f x=>h.get? a=some (PySem.W.methodObj (.ref f) (.ref x))
  | .ext φ=>φ h/\(∃ o,h.get? a=some o)/\∀ h1 h2:Heap,φ h1->(∀ o,h1.get? a=some o->h2.get? a=some o)->φ h2
noncomputable def HOk(H:Hp)(h:Heap):Prop:=∀ a o,H a=some o->dU P w H h a o
end
section
variable {P:Program} {w:World} {H H':Hp} {h h':Heap} {a:Addr} {o:HO}
theorem dU.lt(x:dU P w H h a o):a < h.objs.size:=by
 cases o with
 | lst xs=>obtain⟨_,_,_,_,e⟩:=x;exact Heap.lt_size e
 | tup xs=>obtain⟨_,_,_,p⟩:=x;exact p.lt
 | dK SN=>obtain⟨_,_,_,_,o,_,_,e,_⟩:=x;exact Heap.lt_size e
 | dT SN=>obtain⟨_,_,_,_,o,_,_,e,_⟩:=x;exact Heap.lt_size e
 | set S n=>obtain⟨o,_,_,_,e,_⟩:=x;exact Heap.lt_size e
 | ins C dx fs=>obtain⟨_,_,_,e,_⟩:=x;exact Heap.lt_size e
 | own y=>obtain⟨_,e⟩:=x;exact Heap.lt_size e
 | xd fs=>obtain⟨_,⟨_,_,_,e,_⟩,_⟩:=x;exact Heap.lt_size e
 | XY lo hi=>obtain⟨_,_,_,e⟩:=x;exact Heap.lt_size e
 | Tn ob u=>obtain⟨e,_⟩:=x;exact Heap.lt_size e
 | VR ps=>exact Heap.lt_size (show h.get? a=some _ from x)
 | met f y=>exact Heap.lt_size (show h.get? a=some _ from x)
 | ext φ=>obtain⟨_,⟨_,e⟩,_⟩:=x;exact Heap.lt_size e
theorem Paired.M6{α β:Type}{F G:α->β->Prop}:∀ {l₁:List α} {l₂:List β},Paired F l₁ l₂->(∀ a b,F a b->G a b)->Paired G l₁ l₂
 | _,_,.nil,_=>.nil
 | _,_,.cons r t,f=>.cons (f _ _ r) (Paired.M6 t f)
theorem dU.zX(x:dU P w H h a o)(k:∀ b u,(b=a\/H b=some (.own a))->h.get? b=some u->h'.get? b=some u)
    (ho:∀ b,H b=some (.own a)->H' b=some (.own a)) (ht:∀ b xs,H b=some (.tup xs)->H' b=some (.tup xs)):dU P w H' h' a o:=by
  induction o with
  | lst xs=>obtain⟨z,SQ,n,r,e⟩:=x;exact⟨z,SQ,n,r,k _ _ (.inl rfl) e⟩
  | tup xs=>obtain⟨z,SQ,r,ob,e,c⟩:=x;exact⟨z,SQ,r,ob,k _ _ (.inl rfl) e,c⟩
  | dK SN=>obtain⟨z,y,vs,r,ob,es,ep,e,c⟩:=x;exact⟨z,y,vs,r,ob,es,ep,k _ _ (.inl rfl) e,c⟩
  | dT SN =>
    obtain⟨z,y,xs,r,ob,es,ep,e,c⟩:=x;exact⟨z,y,xs,Paired.M6 r fun p q z=>⟨z.1,ht _ _ z.2.1,z.2.2⟩,ob,es,ep,k _ _ (.inl rfl) e,c⟩
  | set S n=>obtain⟨ob,es,ep,t,e,c⟩:=x;exact⟨ob,es,ep,t,k _ _ (.inl rfl) e,c⟩
  | ins C dx fs =>
    obtain⟨d,z,ne,e,mA,⟨od,es,ep,e2,c⟩,r⟩:=x;exact⟨ho _ d,z,ne,k _ _ (.inl rfl) e,mA,⟨od,es,ep,k _ _ (.inr d) e2,c⟩,r⟩
  | own y=>obtain⟨ob,e⟩:=x;exact⟨ob,k _ _ (.inl rfl) e⟩
  | xd fs=>obtain⟨mA,⟨od,es,ep,e,c⟩,r⟩:=x;exact⟨mA,⟨od,es,ep,k _ _ (.inl rfl) e,c⟩,r⟩
  | XY lo hi=>obtain⟨t,u,v,e⟩:=x;exact⟨t,u,v,k _ _ (.inl rfl) e⟩
  | Tn ob u ih=>obtain⟨e,q⟩:=x;exact⟨k _ _ (.inl rfl) e,ih q⟩
  | VR ps =>
    have e:h.get? a=some {cls:=.none,data:=.fields ps}:=x;show h'.get? a=some {cls:=.none,data:=.fields ps};exact k a _ (.inl rfl) e
  | met f y =>
    have e:h.get? a=some (PySem.W.methodObj (.ref f) (.ref y)):=x;show h'.get? a=some (PySem.W.methodObj (.ref f) (.ref y));exact k a _ (.inl rfl) e
  | ext φ=>obtain⟨p,⟨o,e⟩,st⟩:=x;exact⟨st _ _ p fun o q=>k _ _ (.inl rfl) q,⟨o,k _ _ (.inl rfl) e⟩,st⟩
theorem HOk.lt(x:HOk P w H h)(e:H a=some o):a < h.objs.size:=(x a o e).lt
theorem HOk.fresh(x:HOk P w H h)(e:h.objs.size<=a):H a=none:=by
 cases q:H a with
 | none=>rfl
 | some u=>exact absurd (Nat.lt_of_lt_of_le (x.lt q) e) (Nat.lt_irrefl _)
theorem HOk.kept(x:HOk P w H h)(k:∀ b u,h.get? b=some u->h'.get? b=some u):HOk P w H h':=fun a o e =>
 (x a o e).zX (fun b u _ q=>k b u q) (fun _ q=>q) fun _ _ q=>q
theorem HOk.laid(x:HOk P w H h)(k:∀ b u,h.get? b=some u->h'.get? b=some u)(hp:h.objs.size<=a)(new:dU P w (SM H a o) h' a o):HOk P w (SM H a o) h':=fun b u e=>by
 have hn:=x.fresh hp;by_cases hb:b=a
 ·subst hb;rw[aB] at e;cases e;exact new
 ·rw[aY hb] at e;exact(x b u e).zX (fun c v _ q=>k c v q) (fun c q=>by rw[aY (aX q hn)];exact q) fun c xs q=>by rw[aY (aX q hn)];exact q
end
noncomputable def Rd(H:Hp)(a:Addr)(u:HO):Prop:=H a=some u\/∃ o,H a=some (.Tn o u)
theorem Rd.of{H:Hp}{a:Addr}{u:HO}(h:H a=some u):Rd H a u:=.inl h
theorem Rd.ok{P:Program}{w:World}{H:Hp}{h:Heap}{a:Addr}{u:HO}(r:Rd H a u)(x:HOk P w H h):dU P w H h a u:=by
 rcases r with r|⟨o,r⟩
 ·exact x a u r
 ·obtain⟨_,q⟩:=x a _ r;exact q
noncomputable def Mut:Option HO->Prop
 | some (.lst _)=>True
 | some (.dK _)=>True
 | some (.dT _)=>True
 | some (.set _ _)=>True
 | some (.ins _ _ _)=>True
 | some (.ext _)=>True
 | _=>False
section
variable {P:Program} {w:World} {H:Hp} {h h':Heap} {x e:Addr} {o':HO}
theorem HOk.write(ok:HOk P w H h)(mu:Mut (H x))(he:e=x\/H e=some (.own x))(k:∀ b u,b≠e->h.get? b=some u->h'.get? b=some u)(Wt:∃ u,h'.get? e=some u)
    (new:dU P w (SM H x o') h' x o'):HOk P w (SM H x o') h':=fun b u q=>by
  have Xb:∀ c y,H c=some (.own y)->c≠x:=fun c y r z=>by subst z;rw[r] at mu;exact mu
  have ZE:∀ c xs,H c=some (.tup xs)->c≠x:=fun c xs r z=>by subst z;rw[r] at mu;exact mu
  by_cases hb:b=x
  · subst hb;rw[aB] at q;cases q;exact new
  · rw[aY hb] at q;by_cases V2:b=e
    · have q':H b=some (.own x):=by
        rcases he with z|z
        · exact absurd (V2.trans z) hb
        · rw[V2];exact z
      rw[q] at q';cases q';obtain⟨v,hv⟩:=Wt;exact⟨v,by rw[V2];exact hv⟩
    · refine(ok b u q).zX (fun c v hc r=>k c v ?_ r) (fun c r=>by rw[aY (Xb c b r)];exact r) fun c xs r=>by rw[aY (ZE c xs r)];exact r
      rcases hc with rfl|hc
      · exact V2
      · rintro rfl;rcases he with z|z
        · exact Xb c b hc z
        · rw[hc] at z;cases z;exact hb rfl
end
structure Un(fs ex:List Addr)(H H':Hp)(h h':Heap):Prop where
 keep:∀ b o,h.get? b=some o->H b=none->b∉fs->b∉ex->h'.get? b=some o
 slot:∀ b o,h.get? b=some o->H b=none->b∈fs->b∉ex->∃ sl,h'.get? b=some {o with slots:=sl}
 free:∀ b o,h.get? b=some o->H b=none->b∉ex->H' b=none
 there:∀ b o,h.get? b=some o->b∉ex->∃ o',h'.get? b=some o'
 lM:∀ b xs,H b=some (.tup xs)->H' b=some (.tup xs)
 kD:∀ b o u,H b=some (.Tn o u)->H' b=some (.Tn o u)
 lK:∀ b ps,H b=some (.VR ps)->∃ more,H' b=some (.VR (ps++more))
section
variable {fs Vg ex ex':List Addr} {H H1 H2:Hp} {h h1 h2 h':Heap} {a x e:Addr} {o:HO}
theorem Un.any(u:Un fs ex H H1 h h1){b:Addr}{ob:Obj}(q:h.get? b=some ob)(n:H b=none)(hx:b∉ex):∃ sl,h1.get? b=some {ob with slots:=sl}:=by
 by_cases hb:b∈fs
 ·exact u.slot b ob q n hb hx
 ·exact⟨ob.slots,u.keep b ob q n hb hx⟩
theorem Un.trans(a:Un fs ex H H1 h h1)(b:Un fs ex H1 H2 h1 h2):Un fs ex H H2 h h2 where
 keep:=fun c ob q n hc hx=>b.keep c ob (a.keep c ob q n hc hx) (a.free c ob q n hx) hc hx
 slot:=fun c ob q n hc hx=>by
  obtain⟨sl,e1⟩:=a.slot c ob q n hc hx;obtain⟨We,e2⟩:=b.slot c _ e1 (a.free c ob q n hx) hc hx;exact⟨We,e2⟩
 free:=fun c ob q n hx=>by
  obtain⟨o',e1⟩:=a.there c ob q hx;exact b.free c o' e1 (a.free c ob q n hx) hx
 there:=fun c ob q hx=>by
  obtain⟨o',e1⟩:=a.there c ob q hx;exact b.there c o' e1 hx
 lM:=fun c xs q=>b.lM c xs (a.lM c xs q)
 kD:=fun c ob xs q=>b.kD c ob xs (a.kD c ob xs q)
 lK:=fun c ps q=>by
  obtain⟨m1,e1⟩:=a.lK c ps q;obtain⟨m2,e2⟩:=b.lK c _ e1;exact⟨m1++m2,by rw[e2,Array.append_assoc]⟩
theorem Un.kept(k:∀ b u,h.get? b=some u->h'.get? b=some u):Un fs ex H H h h' :=
 ⟨fun b ob q _ _ _=>k b ob q,fun b ob q _ _ _=>⟨ob.slots,k b ob q⟩,fun _ _ _ n _=>n,fun b ob q _=>⟨ob,k b ob q⟩,fun _ _ q=>q,fun _ _ _ q=>q,fun _ ps q=>⟨#[],by rw[q];simp⟩⟩
theorem Un.refl:Un fs ex H H h h:=Un.kept fun _ _ q=>q
theorem Un.laid(k:∀ b u,h.get? b=some u->h'.get? b=some u)(hp:h.objs.size<=a)(hn:H a=none):Un fs ex H (SM H a o) h h' where
 keep:=fun b u q _ _ _=>k b u q
 slot:=fun b u q _ _ _=>⟨u.slots,k b u q⟩
 free:=fun b u q n _=>by rw[aY (Nat.ne_of_lt (Nat.lt_of_lt_of_le (Heap.lt_size q) hp))];exact n
 there:=fun b u q _=>⟨u,k b u q⟩
 lM:=fun b xs q=>by rw[aY (aX q hn)];exact q
 kD:=fun b u xs q=>by rw[aY (aX q hn)];exact q
 lK:=fun b ps q=>⟨#[],by rw[aY (aX q hn),q];simp⟩
theorem Un.write(mu:Mut (H x))(he:e=x\/H e=some (.own x))(k:∀ b u,b≠e->h.get? b=some u->h'.get? b=some u)(Wt:∃ u,h'.get? e=some u):Un fs ex H (SM H x o) h h':=by
 have hx:∀ b,H b=none->b≠x:=fun b n z=>by subst z;rw[n] at mu;exact mu
 have hb:∀ b,H b=none->b≠e:=fun b n z=>by
  subst z;rcases he with r|r
  ·exact hx b n r
  ·rw[n] at r;cases r
 have hm:∀ b u,H b=some u->¬ Mut (some u)->b≠x:=fun b u q nm z=>by subst z;rw[q] at mu;exact nm mu
 refine⟨fun b u q n _ _=>k b u (hb b n) q,fun b u q n _ _=>⟨u.slots,k b u (hb b n) q⟩,fun b u q n _=>by rw[aY (hx b n)];exact n,fun b u q _=>?_,
  fun b xs q=>by rw[aY (hm b _ q fun z=>z)];exact q,fun b u xs q=>by rw[aY (hm b _ q fun z=>z)];exact q,fun b ps q=>⟨#[],by rw[aY (hm b _ q fun z=>z),q];simp⟩⟩
 by_cases V2:b=e
 ·subst V2;exact Wt
 ·exact⟨u,k b u V2 q⟩
theorem Un.mono(u:Un fs ex H H1 h h1)(hs:∀ b∈fs,b∈Vg)(hx:∀ b∈ex,b∈ex'):Un Vg ex' H H1 h h1 :=
 ⟨fun b ob q n hb he=>u.keep b ob q n (fun z=>hb (hs b z)) fun z=>he (hx b z),fun _ _ q n _ he=>u.any q n fun z=>he (hx _ z),fun b ob q n he=>u.free b ob q n fun z=>he (hx b z),fun b ob q he=>u.there b ob q fun z=>he (hx b z),u.lM,u.kD,u.lK⟩
end
noncomputable def trk(h:Heap)(H:Hp):List Addr:=(List.range h.objs.size).filter fun a=>(H a).isSome
noncomputable def yT(h:Heap)(H:Hp):Heap:=PySem.W.hideAll h (trk h H)
theorem Dz(h:Heap)(H:Hp):(yT h H).objs.size=h.objs.size:=PySem.W.hideAll_size _ _
theorem Fn{h:Heap}{H:Hp}{b:Addr}{o:Obj}(e:h.get? b=some o)(n:H b=none):(yT h H).get? b=some o :=
 PySem.W.hideAll_get _ e fun hm=>by
  have q:(H b).isSome=true:=(List.mem_filter.mp hm).2;rw[n] at q;simp at q
theorem Jh{h:Heap}{H:Hp}{b:Addr}{o:Obj}(e:(yT h H).get? b=some o):h.get? b=some o/\H b=none:=by
 have e':h.get? b=some o:=PySem.W.of_hideAll (trk h H) e;refine⟨e',?_⟩;cases q:H b with
 | none=>rfl
 | some x =>
  have hm:b∈trk h H:=List.mem_filter.mpr ⟨List.mem_range.mpr (Heap.lt_size e'),by simp[q]⟩;have z:(yT h H).get? b=none:=PySem.W.hideAll_none (trk h H) hm;rw[z] at e;cases e
noncomputable def Hr(g h:Heap)(L:Addr):List (Addr×Obj):=(List.range h.objs.size).filterMap fun a=>if a=L\/(g.get? a).isSome=true then none else (h.get? a).map fun o=>(a,o)
noncomputable def rest(g h:Heap)(L d:Addr):List (Addr×Obj):=(Hr g h L).filter fun p=>decide (p.1≠d)
structure Mod(K:q0B)(mg:q0C)(base:Heap):Prop where
 kin:K.In base
 glob:base.Ns mainGlobals mg
 blt:∃ mb,base.Ns builtinsNs mb/\∀ x:Str,x≠"__name__"->mb x=bootBuiltins x
 nolimit:base.NoLimit
structure Cx where
 prog:Program
 w:World
 K:q0B
 mg:Str->Option Value
 base:Heap
 A:Around
 N:List Str
 s₀:Shared
 H₀:Hp
 env:Env
 outer:List Env
 stack:List Env
 ex:List Addr
 fn:Str->Bool
 calm:Bool
 pn:List (Addr×Obj)
 xe:Value->Shared->Prop
noncomputable def frs(l:List Env):List Addr:=l.filterMap (·.frame)
noncomputable abbrev Cx.fs(X:Cx):List Addr:=frs X.outer
noncomputable def Vis(sc:Scope)(x:Str):Prop:=sc.names.lookup x=some .local\/sc.names.lookup x=some .cell\/sc.names.lookup x=some .free
noncomputable def Loc(sc:Scope)(x:Str):Prop:=sc.names.lookup x=some .local\/sc.names.lookup x=some .cell
noncomputable def Look(env:Env)(h:Heap)(m:q0C)(x:Str)(u:Value):Prop :=
 (env.kindOf x=some .local/\m x=some u)\/((env.kindOf x=some .cell\/env.kindOf x=some .free)/\∃ c,env.cells.lookup x=some c/\h.IsCell c (some u))
structure Cx.Ok(X:Cx):Prop where
 mod:Mod X.K X.mg X.base
 kind:X.env.scope.kind=.function
 glob:X.env.globals=mainGlobals
 blt:X.env.builtins=builtinsNs
 above:X.s₀.heap.objs.size<=X.env.locals
 inj:∀ x y c,X.env.cells.lookup x=some c->X.env.cells.lookup y=some c->x=y
 has:∀ x,(X.env.kindOf x=some .cell\/X.env.kindOf x=some .free)->∃ c,X.env.cells.lookup x=some c
 cab:∀ x c,X.fn x=true->X.env.cells.lookup x=some c->X.s₀.heap.objs.size<=c
 hd:X.calm=true->X.A.handled=none
 frames:X.A.frames=some X.stack
 Vy:X.stack=X.outer\/(X.stack=X.env::X.outer/\X.env.frame=some X.env.locals)
 exf:∀ b∈X.ex,b≠X.env.locals/\∀ x c,X.env.cells.lookup x=some c->c≠b
 bs:∀ b o,X.base.get? b=some o->X.s₀.heap.get? b=some o/\X.H₀ b=none
 bsz:X.base.objs.size<=X.s₀.heap.objs.size
 BL:∀ b o,X.base.get? b=some o->b∉X.ex
 Du:∀ b∈X.ex,b∉X.fs
 mC:X.s₀.heap.FunFrames X.base X.outer
 frf:∀ b∈X.fs,X.H₀ b=none
structure SO(X:Cx)(SK:List (Addr×Obj))(σ:List (Option V))(H:Hp)(s:Shared):Prop where
 ok:X.Ok
 os:s.os=X.s₀.os
 bare:AllBare s.gens
 base:Un X.fs X.ex X.H₀ H X.s₀.heap s.heap
 loc:∃ m,s.heap.Ns X.env.locals m/\∀(i:Nat) (x:Str) (v:V),X.N[i]?=some x->σ[i]?=some (some v)->Vis X.env.scope x->∃ u,bJ v u/\Look X.env s.heap m x u
 cell:∀ x c,X.env.cells.lookup x=some c->∃ v,s.heap.IsCell c v
 free:H X.env.locals=none
 iO:∀ x c,X.env.cells.lookup x=some c->H c=none
 pin:∀ p∈X.pn++SK,s.heap.get? p.1=some p.2/\H p.1=none/\p.1≠X.env.locals/\p.1∉X.fs/\∀ v,p.2.data≠.cell v
 SS:HOk X.prog X.w H s.heap
 len:σ.length=X.N.length
section
variable {X:Cx} {SK:List (Addr×Obj)} {σ:List (Option V)} {H H':Hp} {s:Shared} {h':Heap}
theorem Cx.Ok.Sb(ok:X.Ok){b:Addr}{o:Obj}(e:X.base.get? b=some o):b∉X.fs:=fun hb=>by
 have:=(ok.mC.mem hb).1;rw[e] at this;cases this
theorem SO.bs(I:SO X SK σ H s):∀ b o,X.base.get? b=some o->s.heap.get? b=some o/\H b=none:=fun b o e =>
 ⟨I.base.keep b o (I.ok.bs b o e).1 (I.ok.bs b o e).2 (I.ok.Sb e) (I.ok.BL b o e),I.base.free b o (I.ok.bs b o e).1 (I.ok.bs b o e).2 (I.ok.BL b o e)⟩
theorem SO.bk(I:SO X SK σ H s):∀ b o,X.base.get? b=some o->s.heap.get? b=some o:=fun b o e=>(I.bs b o e).1
theorem SO.mod(I:SO X SK σ H s):Mod X.K X.mg X.base:=I.ok.mod
theorem SO.kIn(I:SO X SK σ H s):X.K.In s.heap:=I.ok.mod.kin.keeps I.bk
theorem SO.nolimit(I:SO X SK σ H s):s.heap.NoLimit:=I.ok.mod.nolimit.keeps I.bk
theorem SO.fr(I:SO X SK σ H s):∃ m,Fr X.base X.env.locals s.heap m :=
 let ⟨m,hn,_⟩:=I.loc
 ⟨m,hn,I.bk,Nat.le_trans I.ok.bsz I.ok.above⟩
theorem SO.lt(I:SO X SK σ H s):X.env.locals < s.heap.objs.size:=let ⟨_,hn,_⟩:=I.loc;hn.lt
theorem SO.sz(I:SO X SK σ H s):X.s₀.heap.objs.size<=s.heap.objs.size:=Nat.le_trans I.ok.above (Nat.le_of_lt I.lt)
theorem SO.P7(I:SO X SK σ H s){a:Addr}(h:s.heap.objs.size<=a):a∉X.fs:=fun hb=>by
 obtain⟨_,o,ho,_⟩:=I.ok.mC.mem hb;exact absurd (Nat.lt_of_lt_of_le (Heap.lt_size ho) (Nat.le_trans I.sz h)) (Nat.lt_irrefl _)
theorem SO.Vm(I:SO X SK σ H s):∀ x c,X.env.cells.lookup x=some c->c≠X.env.locals:=fun x c e z=>by
 obtain⟨v,o,ho,hd⟩:=I.cell x c e;obtain⟨m,⟨o',es,ep,Ta,Y8,_⟩,_⟩:=I.loc;rw[z,Ta] at ho;cases ho;rw[Y8] at hd;cases hd
theorem SO.mC(I:SO X SK σ H s):s.heap.FunFrames X.base X.outer:=by
 have all:∀(l:List Env),(∀ b∈frs l,b∈X.fs)->X.s₀.heap.FunFrames X.base l->s.heap.FunFrames X.base l:=by
  intro l
  induction l with
  | nil=>intro _ _;trivial
  | cons env r ih =>
   intro hs hl;obtain⟨hk,⟨L,o,hf,hn,ho,hd⟩,hr⟩:=hl;have hL:L∈X.fs:=hs L (by unfold frs;rw[List.filterMap_cons,hf];exact List.mem_cons_self);obtain⟨sl,e⟩:=I.base.slot L o ho (I.ok.frf L hL) hL fun z=>I.ok.Du L z hL;exact⟨hk,⟨L,_,hf,hn,e,hd⟩,ih (fun b hb=>hs b (by unfold frs;rw[List.filterMap_cons,hf];exact List.mem_cons_of_mem _ hb)) hr⟩
 exact all X.outer (fun _ hb=>hb) I.ok.mC
theorem SO.stack(I:SO X SK σ H s):s.heap.FunFrames X.base X.stack:=by
 rcases I.ok.Vy with e|⟨e,hf⟩
 ·rw[e];exact I.mC
 ·rw[e];obtain⟨m,hn,_⟩:=I.loc;refine .cons (by rw[I.ok.kind];decide) hf hn ?_ I.mC;exact Heap.get?_none_of_le (Nat.le_trans I.ok.bsz I.ok.above)
theorem SO.uW(I:SO X SK σ H s):∀ b∈frs X.stack,b∈X.env.locals::X.fs:=fun b hb=>by
 rcases I.ok.Vy with e|⟨e,hf⟩
 ·rw[e] at hb;exact List.mem_cons_of_mem _ hb
 ·rw[e] at hb;unfold frs at hb;rw[List.filterMap_cons,hf] at hb;exact hb
theorem SO.zY(I:SO X SK σ H s):∀ b∈frs X.stack,H b=none:=fun b hb=>by
 rcases List.mem_cons.mp (I.uW b hb) with e|hb
 ·rw[e];exact I.free
 ·obtain⟨_,o,ho,_⟩:=I.ok.mC.mem hb;exact I.base.free b o ho (I.ok.frf b hb) fun z=>I.ok.Du b z hb
theorem SO.step{g':Array GenState}{t':Nat}{d':Drawn}{ch:List Addr}(I:SO X SK σ H s)
    (Vh:∀ b∈ch,(b∈X.ex\/X.s₀.heap.objs.size<=b)/\b≠X.env.locals/\(∀ x c,X.env.cells.lookup x=some c->c≠b)/\∀ p∈X.pn++SK,p.1≠b)
    (keep:∀ b o,b≠X.env.locals->b∉X.fs->b∉ch->s.heap.get? b=some o->H b=none->h'.get? b=some o)
    (slot:∀ b o,b≠X.env.locals->b∈X.fs->b∉ch->s.heap.get? b=some o->H b=none->∃ sl,h'.get? b=some {o with slots:=sl}) (free:∀ b o,b∉ch->s.heap.get? b=some o->H b=none->H' b=none)
    (there:∀ b o,b∉ch->s.heap.get? b=some o->∃ o',h'.get? b=some o')
    (lM:∀ b xs,H b=some (.tup xs)->H' b=some (.tup xs)) (kD:∀ b o u,H b=some (.Tn o u)->H' b=some (.Tn o u)) (lK:∀ b ps,H b=some (.VR ps)->∃ more,H' b=some (.VR (ps++more)))
    (ns:∀ m,s.heap.Ns X.env.locals m->h'.Ns X.env.locals m) (SS:HOk X.prog X.w H' h') (hg:AllBare g') :
    SO X SK σ H' {s with heap:=h',gens:=g',drawn:=d',toks:=t'}:=by
  have neL:∀ b o,X.s₀.heap.get? b=some o->b≠X.env.locals:=fun b o e=>Nat.ne_of_lt (Nat.lt_of_lt_of_le (Heap.lt_size e) I.ok.above);have VP:∀ b o,X.s₀.heap.get? b=some o->b∉X.ex->b∉ch:=fun b o e hx hb=>by
    rcases(Vh b hb).1 with z|z
    · exact hx z
    · exact absurd (Nat.lt_of_lt_of_le (Heap.lt_size e) z) (Nat.lt_irrefl _)
  have cellK:∀ x c,X.env.cells.lookup x=some c->∀ v,s.heap.IsCell c v->h'.IsCell c v:=fun x c e v ⟨o,ho,hd⟩=>by
    have W8:c∉ch:=fun z=>(Vh c z).2.2.1 x c e rfl;by_cases hc:c∈X.fs
    · obtain⟨sl,q⟩:=slot c o (I.Vm x c e) hc W8 ho (I.iO x c e);exact⟨_,q,hd⟩
    · exact⟨o,keep c o (I.Vm x c e) hc W8 ho (I.iO x c e),hd⟩
  refine⟨I.ok,I.os,hg,⟨fun b o e n hb hx=>?_,fun b o e n hb hx=>?_,fun b o e n hx=>?_,fun b o e hx=>?_,fun b xs e=>lM b xs (I.base.lM b xs e),fun b o xs e=>kD b o xs (I.base.kD b o xs e),fun b ps e=>?_⟩,?_,fun x c e=>?_,?_,fun x c e=>?_,fun p hp=>?_,SS,I.len⟩
  · exact keep b o (neL b o e) hb (VP b o e hx) (I.base.keep b o e n hb hx) (I.base.free b o e n hx)
  · obtain⟨sl,e1⟩:=I.base.slot b o e n hb hx;obtain⟨We,e2⟩:=slot b _ (neL b o e) hb (VP b o e hx) e1 (I.base.free b o e n hx);exact⟨We,e2⟩
  · obtain⟨o',e1⟩:=I.base.there b o e hx;exact free b o' (VP b o e hx) e1 (I.base.free b o e n hx)
  · obtain⟨o',e1⟩:=I.base.there b o e hx;exact there b o' (VP b o e hx) e1
  · obtain⟨m1,e1⟩:=I.base.lK b ps e;obtain⟨m2,e2⟩:=lK b _ e1;exact⟨m1++m2,by rw[e2,Array.append_assoc]⟩
  · obtain⟨m,hn,hl⟩:=I.loc;refine⟨m,ns m hn,fun i x v e1 e2 e3=>?_⟩;obtain⟨u,r,l⟩:=hl i x v e1 e2 e3;refine⟨u,r,?_⟩;rcases l with l|⟨k,c,e,z⟩
    · exact .inl l
    · exact .inr ⟨k,c,e,cellK x c e _ z⟩
  · obtain⟨v,z⟩:=I.cell x c e;exact⟨v,cellK x c e v z⟩
  · obtain⟨m,⟨o,_,_,ho,_⟩,_⟩:=I.loc;exact free _ o (fun z=>(Vh _ z).2.1 rfl) ho I.free
  · obtain⟨v,o,ho,hd⟩:=I.cell x c e;exact free c o (fun z=>(Vh c z).2.2.1 x c e rfl) ho (I.iO x c e)
  · obtain⟨e,n,ne,nf,d⟩:=I.pin p hp;have W8:p.1∉ch:=fun z=>(Vh p.1 z).2.2.2 p hp rfl;exact⟨keep p.1 p.2 ne nf W8 e n,free p.1 p.2 W8 e n,ne,nf,d⟩
theorem SO.un{t':Nat}(I:SO X SK σ H s)(u:Un X.fs [] H H' s.heap h')(SS:HOk X.prog X.w H' h'):SO X SK σ H' {s with heap:=h',toks:=t'}:=by
 obtain⟨m,⟨o,es,ep,ho,r⟩,_⟩:=id I.loc;obtain⟨sl,hL⟩:=u.any ho I.free (by simp);exact I.step (g':=s.gens) (d':=s.drawn) (ch:=[]) (fun _ z=>nomatch z) (fun b o _ hb _ e n=>u.keep b o e n hb (by simp)) (fun b o _ hb _ e n=>u.slot b o e n hb (by simp)) (fun b o _ e n=>u.free b o e n (by simp)) (fun b o _ e=>u.there b o e (by simp)) u.lM u.kD u.lK (fun m' hm=>by
  obtain⟨o',Yv,Yu,Ta,r'⟩:=hm;rw[ho] at Ta;cases Ta;exact⟨_,Yv,Yu,hL,r'⟩) SS I.bare
theorem SO.call{g':Array GenState}{t':Nat}{d':Drawn}{ch:List Addr}(I:SO X SK σ H s)(u:Un (frs X.stack) ch H H' s.heap h')(SS:HOk X.prog X.w H' h')(hg:AllBare g')
    (Vh:∀ b∈ch,(b∈X.ex\/X.s₀.heap.objs.size<=b)/\b≠X.env.locals/\(∀ x c,X.env.cells.lookup x=some c->c≠b)/\∀ p∈X.pn++SK,p.1≠b) :
    SO X SK σ H' {s with heap:=h',gens:=g',drawn:=d',toks:=t'}:=by
  obtain⟨m,⟨o,es,ep,ho,r⟩,_⟩:=id I.loc;obtain⟨sl,hL⟩:=u.any ho I.free fun z=>(Vh _ z).2.1 rfl;exact I.step (ch:=ch) Vh (fun b o hL hb hc e n=>u.keep b o e n (fun z=>(List.mem_cons.mp (I.uW b z)).elim hL hb) hc) (fun b o _ _ hc e n=>u.any e n hc) (fun b o hc e n=>u.free b o e n hc) (fun b o hc e=>u.there b o e hc) u.lM u.kD u.lK (fun m' hm=>by
    obtain⟨o',Yv,Yu,Ta,r'⟩:=hm;rw[ho] at Ta;cases Ta;exact⟨_,Yv,Yu,hL,r'⟩) SS hg
theorem SO.turned{t':Nat}{it:Addr}(I:SO X SK σ H s)(k:∀ b o,b≠it->s.heap.get? b=some o->h'.get? b=some o)(hn:H it=none)(hL:it≠X.env.locals)
    (h1:it∈X.ex\/X.s₀.heap.objs.size<=it) (h2:∀ x c,X.env.cells.lookup x=some c->c≠it) (h3:∀ p∈X.pn++SK,p.1≠it):SO X SK σ H {s with heap:=h',toks:=t'}:=by
  have nit:∀ b u,H b=some u->b≠it:=fun b u e z=>by rw[z,hn] at e;cases e
  refine I.step (g':=s.gens) (d':=s.drawn) (ch:=[it]) (fun b hb=>?_) (fun b o _ _ hc e _=>k b o (fun z=>hc (by simp[z])) e) (fun b o _ _ hc e _=>⟨o.slots,k b o (fun z=>hc (by simp[z])) e⟩) (fun _ _ _ _ n=>n)
    (fun b o hc e=>⟨o,k b o (fun z=>hc (by simp[z])) e⟩) (fun _ _ e=>e) (fun _ _ _ e=>e) (fun b ps e=>⟨#[],by rw[e];simp⟩) (fun m hm=>?_) (fun b u e=>?_) I.bare
  · have e:b=it:=by simpa using hb
    subst e;exact⟨h1,hL,h2,h3⟩
  · obtain⟨o,es,ep,ho,r⟩:=hm;exact⟨o,es,ep,k _ o (Ne.symm hL) ho,r⟩
  · refine(I.SS b u e).zX (fun c v hc q=>k c v ?_ q) (fun _ q=>q) fun _ _ q=>q;rcases hc with z|z
    · rw[z];exact nit b u e
    · exact nit c _ z
theorem SO.tok(I:SO X SK σ H s)(t:Nat):SO X SK σ H {s with toks:=t}:=I.un (h':=s.heap) (t':=t) Un.refl I.SS
theorem SO.kept{t':Nat}(I:SO X SK σ H s)(k:∀ b u,s.heap.get? b=some u->h'.get? b=some u):SO X SK σ H {s with heap:=h',toks:=t'}:=I.un (Un.kept k) (I.SS.kept k)
theorem SO.laid{a:Addr}{o:HO}{t':Nat}(I:SO X SK σ H s)(k:∀ b u,s.heap.get? b=some u->h'.get? b=some u)(hp:s.heap.objs.size<=a)(new:dU X.prog X.w (SM H a o) h' a o) :
    SO X SK σ (SM H a o) {s with heap:=h',toks:=t'}:=I.un (Un.laid k hp (I.SS.fresh hp)) (I.SS.laid k hp new)
theorem SO.write{x e:Addr}{o:HO}{t':Nat}(I:SO X SK σ H s)(mu:Mut (H x))(he:e=x\/H e=some (.own x))(k:∀ b u,b≠e->s.heap.get? b=some u->h'.get? b=some u)(Wt:∃ u,h'.get? e=some u)
    (new:dU X.prog X.w (SM H x o) h' x o):SO X SK σ (SM H x o) {s with heap:=h',toks:=t'}:=I.un (Un.write mu he k Wt) (I.SS.write mu he k Wt new)
theorem SO.oK{VQ:List (Addr×Obj)}(I:SO X SK σ H s)(h:∀ p∈VQ,s.heap.get? p.1=some p.2/\H p.1=none/\p.1≠X.env.locals/\p.1∉X.fs/\∀ v,p.2.data≠.cell v):SO X VQ σ H s :=
 ⟨I.ok,I.os,I.bare,I.base,I.loc,I.cell,I.free,I.iO,fun p hp=>(List.mem_append.mp hp).elim (fun z=>I.pin p (List.mem_append_left _ z)) (h p),I.SS,I.len⟩
theorem uB{N:List Str}(hN:N.Nodup){i j:Nat}{x:Str}(a:N[i]?=some x)(b:N[j]?=some x):i=j:=by
 obtain⟨h1,e1⟩:=List.getElem?_eq_some_iff.mp a;obtain⟨h2,e2⟩:=List.getElem?_eq_some_iff.mp b;exact(List.getElem_inj hN).mp (e1.trans e2.symm)
theorem D3{M:Model}{A:Around}{E:q0A}{i:Nat}{x:Str}{v:V}{u:Value}{Q:Unit->Shared->Prop}(I:SO X SK σ H s)(hN:X.N.Nodup)(hi:X.N[i]?=some x)(hx:Loc X.env.scope x)(r:bJ v u)
    (h:∀ s',SO X SK (σ.set i (some v)) H s'->(∃ a,Heap.SameBut a s.heap s'.heap/\(a=X.env.locals\/X.env.cells.lookup x=some a))->Q () s') (hf:X.fn x=true\/X.env.scope.names.lookup x=some .local:=by first|exact .inl rfl|exact .inr rfl|assumption):wpAny M A (storeName X.env x u) Q E s:=by
  obtain⟨m,hn,hl⟩:=id I.loc;have V3:(X.env.scope.kind==.class||(X.env.scope.kind==.module&&X.env.locals !=X.env.globals))=false:=by rw[I.ok.kind];rfl
  have hiσ:i < σ.length:=by rw[I.len];exact(List.getElem?_eq_some_iff.mp hi).1
  have Vm:=I.Vm;have tracked:∀ {a:Addr} {h':Heap},(∃ o,s.heap.get? a=some o/\H a=none)->Heap.SameBut a s.heap h'->HOk X.prog X.w H h':=fun {a h'} ha hs b ob e=>by
    obtain⟨_,_,VM⟩:=ha;refine(I.SS b ob e).zX (fun c w' hc q=>(hs.2 c ?_).trans q) (fun _ q=>q) fun _ _ q=>q;rintro rfl;rcases hc with rfl|hc
    · rw[VM] at e;cases e
    · rw[VM] at hc;cases hc
  rcases hx with hk|hk
  · refine wpAny_storeName_local hk hn (fun h' Zj hs=>?_) V3;obtain⟨oL,_,_,hoL,_⟩:=id hn;refine h _ ⟨I.ok,I.os,I.bare,⟨fun b o e n hb hx=>?_,fun b o e n hb hx=>?_,I.base.free,fun b o e hx=>?_,I.base.lM,I.base.kD,I.base.lK⟩,⟨_,Zj,fun j y v' e1 e2 e3=>?_⟩,fun y c e=>?_,I.free,I.iO,fun p hp=>?_,tracked ⟨oL,hoL,I.free⟩ hs,by simpa using I.len⟩ ⟨_,hs,.inl rfl⟩
    · exact(hs.2 b (Nat.ne_of_lt (Nat.lt_of_lt_of_le (Heap.lt_size e) I.ok.above))).trans (I.base.keep b o e n hb hx)
    · obtain⟨sl,e1⟩:=I.base.slot b o e n hb hx;exact⟨sl,(hs.2 b (Nat.ne_of_lt (Nat.lt_of_lt_of_le (Heap.lt_size e) I.ok.above))).trans e1⟩
    · obtain⟨o',e1⟩:=I.base.there b o e hx;exact⟨o',(hs.2 b (Nat.ne_of_lt (Nat.lt_of_lt_of_le (Heap.lt_size e) I.ok.above))).trans e1⟩
    · by_cases hj:j=i
      · subst hj;rw[hi] at e1;cases e1;rw[List.getElem?_set_self hiσ] at e2;cases e2;exact⟨u,r,.inl ⟨hk,by simp⟩⟩
      · rw[List.getElem?_set_ne (Ne.symm hj)] at e2;obtain⟨u',r',q⟩:=hl j y v' e1 e2 e3;refine⟨u',r',?_⟩;rcases q with⟨k,e⟩|⟨k,c,e,z⟩
        · refine .inl ⟨k,?_⟩;have:y≠x:=fun e=>hj (uB hN e1 (e▸hi));simp[this,e]
        · exact .inr ⟨k,c,e,z.sameBut hs (Vm y c e)⟩
    · obtain⟨w',z⟩:=I.cell y c e;exact⟨w',z.sameBut hs (Vm y c e)⟩
    · obtain⟨e,n,ne,nf,d⟩:=I.pin p hp;exact⟨(hs.2 p.1 ne).trans e,n,ne,nf,d⟩
  · have Zb:X.fn x=true:=by
      rcases hf with z|z
      · exact z
      · rw[z] at hk;cases hk
    obtain⟨c,hc⟩:=I.ok.has x (.inl hk);obtain⟨w',z⟩:=I.cell x c hc;refine wpAny_storeName_cell I.ok.kind hk hc z (fun h' WO hs=>?_);obtain⟨oc,XO,Zk⟩:=id z;refine h {s with heap:=h'} ⟨I.ok,I.os,I.bare,⟨fun b o e n hb hx=>?_,fun b o e n hb hx=>?_,I.base.free,fun b o e hx=>?_,I.base.lM,I.base.kD,I.base.lK⟩,⟨m,hn.sameBut hs (Ne.symm (Vm x c hc)),fun j y v' e1 e2 e3=>?_⟩,fun y c' e=>?_,I.free,I.iO,fun p hp=>?_,tracked ⟨oc,XO,I.iO x c hc⟩ hs,by simpa using I.len⟩ ⟨c,hs,.inr hc⟩
    · exact(hs.2 b (Nat.ne_of_lt (Nat.lt_of_lt_of_le (Heap.lt_size e) (I.ok.cab x c Zb hc)))).trans (I.base.keep b o e n hb hx)
    · obtain⟨sl,e1⟩:=I.base.slot b o e n hb hx;exact⟨sl,(hs.2 b (Nat.ne_of_lt (Nat.lt_of_lt_of_le (Heap.lt_size e) (I.ok.cab x c Zb hc)))).trans e1⟩
    · obtain⟨o',e1⟩:=I.base.there b o e hx;exact⟨o',(hs.2 b (Nat.ne_of_lt (Nat.lt_of_lt_of_le (Heap.lt_size e) (I.ok.cab x c Zb hc)))).trans e1⟩
    · by_cases hj:j=i
      · subst hj;rw[hi] at e1;cases e1;rw[List.getElem?_set_self hiσ] at e2;cases e2;exact⟨u,r,.inr ⟨.inl hk,c,hc,WO⟩⟩
      · rw[List.getElem?_set_ne (Ne.symm hj)] at e2;obtain⟨u',r',q⟩:=hl j y v' e1 e2 e3;refine⟨u',r',?_⟩;rcases q with q|⟨k,c',e,z'⟩
        · exact .inl q
        · refine .inr ⟨k,c',e,z'.sameBut hs ?_⟩;rintro rfl;exact hj (uB hN e1 (I.ok.inj _ _ _ e hc▸hi))
    · by_cases hcc:c'=c
      · subst hcc;exact⟨_,WO⟩
      · obtain⟨w2,z2⟩:=I.cell y c' e;exact⟨w2,z2.sameBut hs hcc⟩
    · obtain⟨e,n,ne,nf,d⟩:=I.pin p hp;refine⟨(hs.2 p.1 ?_).trans e,n,ne,nf,d⟩;intro q;rw[q,XO] at e;have q':oc=p.2:=Option.some.inj e;exact d w' (by rw[<- q'];exact Zk)
theorem oR{M:Model}{A:Around}{E:q0A}{i:Nat}{x:Str}{v:V}{u:Value}{Q:Unit->Shared->Prop}(I:SO X SK σ H s)(hN:X.N.Nodup)(hi:X.N[i]?=some x)(hx:Loc X.env.scope x)(r:bJ v u)
    (h:∀ s',SO X SK (σ.set i (some v)) H s'->Q () s') (hf:X.fn x=true\/X.env.scope.names.lookup x=some .local:=by first|exact .inl rfl|exact .inr rfl|assumption):wpAny M A (storeName X.env x u) Q E s :=
  D3 I hN hi hx r (fun s' I' _=>h s' I') hf
theorem SO.Cs{s':Shared}{ch:List Addr}(I:SO X SK σ H s)(ho:s'.os=s.os)(u:Un (frs X.stack) ch H H' s.heap s'.heap)(SS:HOk X.prog X.w H' s'.heap)(hg:AllBare s'.gens)
    (Vh:∀ b∈ch,(b∈X.ex\/X.s₀.heap.objs.size<=b)/\b≠X.env.locals/\(∀ x c,X.env.cells.lookup x=some c->c≠b)/\∀ p∈X.pn++SK,p.1≠b):SO X SK σ H' s':=by
  obtain⟨h',g',d',t',o'⟩:=s';have e:o'=s.os:=ho;subst e;exact I.call (g':=g') (t':=t') (d':=d') u SS hg Vh
end
noncomputable abbrev XK:=Value->Option Addr->Hp->Prop
noncomputable abbrev St:=List (Option V)
noncomputable abbrev VK:=V->Hp->Prop
noncomputable abbrev TE:=St->Hp->VK->Prop
noncomputable abbrev TT:=St->Hp->(Bool->Hp->Prop)->Prop
noncomputable abbrev TA:=St->Hp->(List V->Hp->Prop)->Prop
structure Ends where
 nx:St->Hp->Prop
 rt:VK
 bk:St->Hp->Prop:=fun _ _=>False
 ct:St->Hp->Prop:=fun _ _=>False
noncomputable abbrev TS:=Ends->St->Hp->Prop
inductive EP(X:Cx)(SK:List (Addr×Obj))(σ:St)(Q:VK)(u:Value)(s':Shared):Prop
 | mk (v:V) (H':Hp) (I:SO X SK σ H' s') (r:bJ v u) (q:Q v H'):EP X SK σ Q u s'
noncomputable def TP(X:Cx)(SK:List (Addr×Obj))(σ:St)(Q:Bool->Hp->Prop)(b:Bool)(s':Shared):Prop:=∃ H',SO X SK σ H' s'/\Q b H'
inductive AP(X:Cx)(SK:List (Addr×Obj))(σ:St)(Q:List V->Hp->Prop)(us:List Value)(s':Shared):Prop
 | mk (vs:List V) (H':Hp) (I:SO X SK σ H' s') (r:Vals vs us) (q:Q vs H'):AP X SK σ Q us s'
noncomputable def SP(X:Cx)(SK:List (Addr×Obj))(D:Ends)(f:Flow)(s':Shared):Prop :=
 match f with
 | .next=>∃ σ' H',SO X SK σ' H' s'/\D.nx σ' H'
 | .brk=>∃ σ' H',SO X SK σ' H' s'/\D.bk σ' H'
 | .cont=>∃ σ' H',SO X SK σ' H' s'/\D.ct σ' H'
 | .ret u=>∃ v σ' H',SO X SK σ' H' s'/\bJ v u/\D.rt v H'
noncomputable def PE(X:Cx)(e:Expr)(t:TE):Prop :=
 ∀(SK:List (Addr×Obj)) (s:Shared) (σ:St) (H:Hp) (Q:VK),SO X SK σ H s->t σ H Q->wpAny (model X.prog X.w) X.A (eval e X.env) (EP X SK σ Q) X.xe s
noncomputable def PT(X:Cx)(e:Expr)(t:TT):Prop :=
 ∀(SK:List (Addr×Obj)) (s:Shared) (σ:St) (H:Hp) (Q:Bool->Hp->Prop),SO X SK σ H s->t σ H Q->wpAny (model X.prog X.w) X.A (isTrue e X.env (eval e X.env)) (TP X SK σ Q) X.xe s
noncomputable def PW(X:Cx)(e:Expr)(t:TT):Prop :=
 ∀(whole:Sem Value) (SK:List (Addr×Obj)) (s:Shared) (σ:St) (H:Hp) (Q:Bool->Hp->Prop),SO X SK σ H s->t σ H Q->wpAny (model X.prog X.w) X.A (isTrue e X.env whole) (TP X SK σ Q) X.xe s
theorem PW.pt{X:Cx}{e:Expr}{t:TT}(h:PW X e t):PT X e t:=h _
noncomputable def PA(X:Cx)(es:List Expr)(t:TA):Prop :=
 ∀(pos:Pos) (SK:List (Addr×Obj)) (s:Shared) (σ:St) (H:Hp) (Q:List V->Hp->Prop),SO X SK σ H s->t σ H Q->wpAny (model X.prog X.w) X.A (spliced (backTo pos (starEach es X.env))) (AP X SK σ Q) X.xe s
noncomputable def PS(X:Cx)(st:Stmt)(t:TS):Prop :=
 ∀(SK:List (Addr×Obj)) (s:Shared) (σ:St) (H:Hp) (D:Ends),SO X SK σ H s->t D σ H->wpAny (model X.prog X.w) X.A (exec st X.env) (SP X SK D) X.xe s
noncomputable def TN(X:Cx)(st:List Stmt)(t:TS):Prop :=
 ∀(SK:List (Addr×Obj)) (s:Shared) (σ:St) (H:Hp) (D:Ends),SO X SK σ H s->t D σ H->wpAny (model X.prog X.w) X.A (execs st X.env) (SP X SK D) X.xe s
theorem thn{α:Type}{t:Sem α}{Q Q':α->Shared->Prop}{M:Model}{A:Around}{E:q0A}{s:Shared}(h:wpAny M A t Q E s)(hQ:∀ a s,Q a s->Q' a s):wpAny M A t Q' E s:=wpAny_mono h hQ fun _ _ x=>x
section
variable {X:Cx}
noncomputable def dO(i:Nat):TE:=fun σ H Q=>∃ v,σ[i]?=some (some v)/\Q v H
noncomputable def tC(v:V):TE:=fun _ H Q=>Q v H
theorem Nd{i:Nat}{x:Str}{pos:Pos}(hN:X.N[i]?=some x)(hv:Vis X.env.scope x)(hd:(x==("__debug__":Str))=false:=by decide)(Ux:(x==("__classdict__":Str))=false:=by decide):PE X (.Name x pos) (dO i):=by
 intro SK s σ H Q I h;obtain⟨v,e,h⟩:=h;obtain⟨m,hn,hl⟩:=I.loc;obtain⟨u,r,l⟩:=hl i x v hN e hv;have fin:EP X SK σ Q u s:=⟨v,H,I,r,h⟩;rcases l with⟨hk,hm⟩|⟨hk,c,hc,VJ⟩
 ·exact wpAny_Name (wpAny_loadName_local I.ok.kind hk hn hm fin) hd
 ·rcases hk with hk|hk
  ·exact wpAny_Name (wpAny_loadName_cell I.ok.kind hk hc VJ fin) hd
  ·exact wpAny_Name (wpAny_loadName_free I.ok.kind hk hc VJ fin Ux) hd
theorem aF{i j pos}:PE X (.Constant (.int i) j pos) (tC (.int i)):=fun _ _ _ H _ I h=>wpAny_Constant_int ⟨.int i,H,I.tok _,⟨_,rfl⟩,h⟩
theorem xQ{b j pos}:PE X (.Constant (.bool b) j pos) (tC (.bl b)):=fun _ _ _ H _ I h=>Constant_bool ⟨.bl b,H,I,rfl,h⟩
theorem zM{j pos}:PE X (.Constant .none j pos) (tC .SR):=fun _ _ _ H _ I h=>Constant_none ⟨.SR,H,I,rfl,h⟩
theorem aE{x j pos}:PE X (.Constant (.str x) j pos) (tC (.str x)):=fun _ _ _ H _ I h=>Calls.Constant_str ⟨.str x,H,I.tok _,⟨_,rfl⟩,h⟩
noncomputable def Gl(X:Cx)(x:Str):Prop:=X.env.kindOf x=some .globalImplicit
theorem lY{E:q0A}{SK:List (Addr×Obj)}{s:Shared}{σ:St}{H:Hp}{x:Str}{u:Value}{pos:Pos}{Q:q0A}(I:SO X SK σ H s)(hg:Gl X x)(hm:X.mg x=some u)(h:Q u s)
    (hd:(x==("__debug__":Str))=false:=by decide):wpAny (model X.prog X.w) X.A (eval (.Name x pos) X.env) Q E s :=
  Calls.Name_function_global I.ok.kind hg (Calls.loadGlobal_global (by rw[I.ok.glob];exact I.mod.glob.keeps I.bk) hm h) hd
theorem yZ{E:q0A}{SK:List (Addr×Obj)}{s:Shared}{σ:St}{H:Hp}{x:Str}{u:Value}{pos:Pos}{Q:q0A}(I:SO X SK σ H s)(hg:Gl X x)(hm:X.mg x=none)(hv:bootBuiltins x=some u)(h:Q u s)
    (hn:x≠"__name__":=by decide) (hd:(x==("__debug__":Str))=false:=by decide):wpAny (model X.prog X.w) X.A (eval (.Name x pos) X.env) Q E s:=by
  obtain⟨mb,h1,h2⟩:=I.mod.blt;exact Calls.Name_function_global I.ok.kind hg (Calls.loadGlobal_builtin (by rw[I.ok.glob];exact I.mod.glob.keeps I.bk) hm (by rw[I.ok.blt];exact h1.keeps I.bk) ((h2 x hn).trans hv) h) hd
theorem cP{x:Str}{v:V}{u:Value}{pos:Pos}(hg:Gl X x)(hm:X.mg x=some u)(r:bJ v u)(hd:(x==("__debug__":Str))=false:=by decide):PE X (.Name x pos) (tC v) :=
 fun _ _ _ H _ I h=>lY I hg hm ⟨v,H,I,r,h⟩ hd
theorem zL{x:Str}{v:V}{u:Value}{pos:Pos}(hg:Gl X x)(hm:X.mg x=none)(hv:bootBuiltins x=some u)(r:bJ v u)(hn:x≠"__name__":=by decide)(hd:(x==("__debug__":Str))=false:=by decide):PE X (.Name x pos) (tC v) :=
 fun _ _ _ H _ I h=>yZ I hg hm hv ⟨v,H,I,r,h⟩ hn hd
variable {a b:Expr} {ta tb:TE} {pos:Pos}
noncomputable def tB(t:TE):TT:=fun σ H Q=>t σ H fun x H1=>∃ c,x=.bl c/\Q c H1
theorem iG{e:Expr}{t:TE}(h:PE X e t)(he:∀ whole,isTrue e X.env whole=(do let v <- whole;standAt e.pos;holding [v] (truthy v)):=by intro _;rfl):PT X e (tB t):=by
 intro SK s σ H Q I hw;refine isTrue_plain (thn (h SK s σ H _ I hw) fun v s1 ⟨x,H1,I1,r1,q1⟩=>?_) (he _);obtain⟨d,rfl,q⟩:=q1;cases r1;exact wpAny_truthy_bool ⟨H1,I1,q⟩
variable {tA X0:TT} {rest:List Expr}
noncomputable def Qy(t u:TT):TT:=fun σ H Q=>t σ H fun c H1=>if c=true then u σ H1 Q else Q false H1
noncomputable def Sw(t u:TT):TT:=fun σ H Q=>t σ H fun c H1=>if c=true then Q true H1 else u σ H1 Q
noncomputable def QF(t:TT):TT:=fun σ H Q=>t σ H fun c H1=>Q (!c) H1
theorem r8(ha:PT X a tA):PW X (.BoolOp .And [a] pos) tA:=by
 intro wh SK s σ H Q I h;refine isTrue_and (thn (ha SK s σ H Q I h) fun c s1 e=>?_);cases c with
 | true=>exact isTrue_and_nil e
 | false=>exact e
theorem pV(ha:PT X a tA):PW X (.BoolOp .Or [a] pos) tA:=by
 intro wh SK s σ H Q I h;refine isTrue_or (thn (ha SK s σ H Q I h) fun c s1 e=>?_);cases c with
 | false=>exact isTrue_or_nil e
 | true=>exact e
theorem zQ(ha:PT X a tA)(hb:PW X (.BoolOp .And (b::rest) pos) X0):PW X (.BoolOp .And (a::b::rest) pos) (Qy tA X0):=by
 intro wh SK s σ H Q I h;refine isTrue_and (thn (ha SK s σ H _ I h) fun c s1 ⟨H1,I1,q1⟩=>?_);cases c with
 | true=>exact hb wh SK s1 σ H1 Q I1 q1
 | false=>exact⟨H1,I1,q1⟩
theorem xR(ha:PT X a tA)(hb:PW X (.BoolOp .Or (b::rest) pos) X0):PW X (.BoolOp .Or (a::b::rest) pos) (Sw tA X0):=by
 intro wh SK s σ H Q I h;refine isTrue_or (thn (ha SK s σ H _ I h) fun c s1 ⟨H1,I1,q1⟩=>?_);cases c with
 | true=>exact⟨H1,I1,q1⟩
 | false=>exact hb wh SK s1 σ H1 Q I1 q1
theorem iF(ha:PT X a tA):PT X (.UnaryOp .Not a pos) (QF tA):=by
 intro SK s σ H Q I h;exact isTrue_not (ha SK s σ H (fun c H1=>Q (!c) H1) I h)
noncomputable def GO(ta tb:TE):TE:=fun σ H Q=>ta σ H fun x H1=>∃ c,x=.bl c/\if c=true then tb σ H1 Q else Q (.bl false) H1
noncomputable def QH(ta tb:TE):TE:=fun σ H Q=>ta σ H fun x H1=>∃ c,x=.bl c/\if c=true then Q (.bl true) H1 else tb σ H1 Q
noncomputable def GV(ta:TE):TE:=fun σ H Q=>ta σ H fun x H1=>∃ c,x=.bl c/\Q (.bl (!c)) H1
theorem zN{op}{t:TE}(h:PE X a t):PE X (.BoolOp op [a] pos) t:=fun SK s σ H Q I hw=>BoolOp_one (h SK s σ H Q I hw)
theorem zK(ha:PE X a ta)(hb:PE X (.BoolOp .And (b::rest) pos) tb):PE X (.BoolOp .And (a::b::rest) pos) (GO ta tb):=by
 intro SK s σ H Q I h;refine BoolOp_and (thn (ha SK s σ H _ I h) fun v s1 ⟨x,H1,I1,r1,q1⟩=>?_);obtain⟨c,rfl,q1⟩:=q1;cases r1;refine wpAny_truthy_bool ?_;cases c with
 | true=>exact hb SK s1 σ H1 Q I1 q1
 | false=>exact⟨.bl false,H1,I1,rfl,q1⟩
theorem Gn(ha:PE X a ta):PE X (.UnaryOp .Not a pos) (GV ta):=by
 intro SK s σ H Q I h;refine UnaryOp_ (thn (ha SK s σ H _ I h) fun v s1 ⟨x,H1,I1,r1,q1⟩=>?_);obtain⟨c,rfl,q1⟩:=q1;cases r1;exact not_of (wpAny_truthy_bool ⟨.bl (!c),H1,I1,rfl,q1⟩)
noncomputable def Su(t:TT)(ta tb:TE):TE:=fun σ H Q=>t σ H fun c H1=>if c=true then ta σ H1 Q else tb σ H1 Q
theorem oI{c:Expr}(hc:PT X c tA)(ha:PE X a ta)(hb:PE X b tb):PE X (.IfExp c a b pos) (Su tA ta tb):=by
 intro SK s σ H Q I h;refine wpAny_IfExp (thn (hc SK s σ H _ I h) fun d s1 ⟨H1,I1,q1⟩=>?_);cases d with
 | true=>exact ha SK s1 σ H1 Q I1 q1
 | false=>exact hb SK s1 σ H1 Q I1 q1
end
noncomputable def dS(K:q0B)(H:Hp)(a:Addr)(xs:List V):Prop :=
 Rd H a (.lst xs) \/
  ∃(o:Obj) (SQ:Array Value) (n:Nat),K.lookup a=some o/\o.cls=.type "list"/\o.dict=none/\o.data=.seq SQ n/\SQ.size<=sizeLine/\Vals xs SQ.toList
noncomputable def fS(K:q0B)(H:Hp)(a:Addr)(xs:List V):Prop :=
 Rd H a (.tup xs) \/
  ∃(o:Obj) (SQ:Array Value) (n:Nat),K.lookup a=some o/\o.cls=.type "tuple"/\o.data=.seq SQ n/\SQ.size<=sizeLine/\Vals xs SQ.toList
noncomputable def Rp:Value->Option V
 | .none=>some .SR
 | .bool b=>some (.bl b)
 | .int i _=>some (.int i)
 | .str x _=>some (.str x)
 | .bytes b _=>some (.byt b)
 | .float b _=>some (.flt b)
 | .ref a=>some (.ref a)
 | .type n=>some (.ty n)
 | _=>none
theorem bJ.abs{x:V}{u:Value}(r:bJ x u):Rp u=some x:=by
 cases x with
 | SR=>cases r;rfl
 | bl _=>cases r;rfl
 | int _=>obtain⟨t,rfl⟩:=r;rfl
 | str _=>obtain⟨t,rfl⟩:=r;rfl
 | byt _=>obtain⟨t,rfl⟩:=r;rfl
 | flt _=>obtain⟨t,rfl⟩:=r;rfl
 | ref _=>cases r;rfl
 | ty _=>cases r;rfl
theorem bJ.inj{x y:V}{u:Value}(r:bJ x u)(q:bJ y u):x=y:=Option.some.inj (r.abs.symm.trans q.abs)
theorem Vals.inj{xs ys:List V}{us:List Value}(h:Vals xs us)(g:Vals ys us):xs=ys:=by
 induction h generalizing ys with
 | nil=>cases g;rfl
 | cons r t ih =>
  cases g with
  | cons r' t'=>rw[r.inj r',ih t']
section
variable {X:Cx} {SK:List (Addr×Obj)} {σ:St} {H:Hp} {s:Shared} {a:Addr} {xs ys:List V}
theorem dS.of{K:q0B}(h:H a=some (.lst xs)):dS K H a xs:=.inl (.inl h)
theorem fS.of{K:q0B}(h:H a=some (.tup xs)):fS K H a xs:=.inl (.inl h)
theorem SO.list(I:SO X SK σ H s)(h:dS X.K H a xs):∃ SQ:List Value,Vals xs SQ/\PlainL s.heap a SQ.toArray/\xs.length<=sizeLine:=by
 rcases h with h|⟨o,SQ,n,hk,hc,hd,hs,hz,r⟩
 ·obtain⟨z,SQ,n,r,e⟩:=h.ok I.SS;exact⟨SQ,r,⟨_,n,e,rfl,rfl,rfl⟩,z⟩
 ·refine⟨SQ.toList,r,⟨o,n,I.kIn a o hk,hc,hd,by simpa using hs⟩,?_⟩;have e:=r.length;simp only[Array.length_toList] at e;omega
theorem SO.tuple(I:SO X SK σ H s)(h:fS X.K H a xs):∃ SQ:List Value,Vals xs SQ/\IsTup s.heap a SQ.toArray/\xs.length<=sizeLine:=by
 rcases h with h|⟨o,SQ,n,hk,hc,hs,hz,r⟩
 ·obtain⟨z,SQ,r,p⟩:=h.ok I.SS;exact⟨SQ,r,p,z⟩
 ·refine⟨SQ.toList,r,⟨o,I.kIn a o hk,hc,n,by simpa using hs⟩,?_⟩;have e:=r.length;simp only[Array.length_toList] at e;omega
theorem SO.FC(I:SO X SK σ H s)(h:dS X.K H a xs)(h':dS X.K H a ys):xs=ys:=by
 obtain⟨SQ,r,⟨o,n,e,_,_,d⟩,_⟩:=I.list h;obtain⟨its',r',⟨o',n',e',_,_,d'⟩,_⟩:=I.list h';rw[e] at e';cases e';rw[d] at d';injection d' with d1 _
 have:SQ=its':=by simpa using congrArg Array.toList d1
 subst this;exact r.inj r'
theorem SO.D5(I:SO X SK σ H s)(h:fS X.K H a xs)(h':fS X.K H a ys):xs=ys:=by
 obtain⟨SQ,r,⟨o,e,_,n,d⟩,_⟩:=I.tuple h;obtain⟨its',r',⟨o',e',_,n',d'⟩,_⟩:=I.tuple h';rw[e] at e';cases e';rw[d] at d';injection d' with d1 _
 have:SQ=its':=by simpa using congrArg Array.toList d1
 subst this;exact r.inj r'
end
noncomputable abbrev Cx.nF(X:Cx)(E:q0A):Cx:={X with xe:=E}
noncomputable abbrev Cx.nox(X:Cx):Cx:=X.nF fun _ _=>False
theorem Cx.Ok.nF{X:Cx}(ok:X.Ok)(E:q0A):(X.nF E).Ok :=
 ⟨ok.mod,ok.kind,ok.glob,ok.blt,ok.above,ok.inj,ok.has,ok.cab,ok.hd,ok.frames,ok.Vy,ok.exf,ok.bs,ok.bsz,ok.BL,ok.Du,ok.mC,ok.frf⟩
theorem Cx.Ok.g7{X:Cx}{E:q0A}(ok:(X.nF E).Ok):X.Ok :=
 ⟨ok.mod,ok.kind,ok.glob,ok.blt,ok.above,ok.inj,ok.has,ok.cab,ok.hd,ok.frames,ok.Vy,ok.exf,ok.bs,ok.bsz,ok.BL,ok.Du,ok.mC,ok.frf⟩
section
variable {X:Cx} {SK:List (Addr×Obj)} {σ:St} {H:Hp} {s:Shared} {E:q0A}
theorem SO.nF(I:SO X SK σ H s)(E:q0A):SO (X.nF E) SK σ H s:=⟨I.ok.nF E,I.os,I.bare,I.base,I.loc,I.cell,I.free,I.iO,I.pin,I.SS,I.len⟩
theorem SO.g7(I:SO (X.nF E) SK σ H s):SO X SK σ H s:=⟨I.ok.g7,I.os,I.bare,I.base,I.loc,I.cell,I.free,I.iO,I.pin,I.SS,I.len⟩
theorem SP.g7{D:Ends}{f:Flow}{s':Shared}(h:SP (X.nF E) SK D f s'):SP X SK D f s':=by
 cases f with
 | next=>obtain⟨σ',H',I,q⟩:=h;exact⟨σ',H',I.g7,q⟩
 | brk=>obtain⟨σ',H',I,q⟩:=h;exact⟨σ',H',I.g7,q⟩
 | cont=>obtain⟨σ',H',I,q⟩:=h;exact⟨σ',H',I.g7,q⟩
 | ret u=>obtain⟨v,σ',H',I,r,q⟩:=h;exact⟨v,σ',H',I.g7,r,q⟩
theorem PE.nox{e:Expr}{t:TE}(h:PE X.nox e t):PE X e t:=fun SK s σ H Q I hw =>
 wpAny_mono (h SK s σ H Q (I.nF _) hw) (fun _ _ ⟨v,H',I',r,q⟩=>⟨v,H',I'.g7,r,q⟩) fun _ _ z=>False.elim z
theorem PT.nox{e:Expr}{t:TT}(h:PT X.nox e t):PT X e t:=fun SK s σ H Q I hw =>
 wpAny_mono (h SK s σ H Q (I.nF _) hw) (fun _ _ ⟨H',I',q⟩=>⟨H',I'.g7,q⟩) fun _ _ z=>False.elim z
theorem TN.nox{st:List Stmt}{t:TS}(h:TN X.nox st t):TN X st t:=fun SK s σ H D I hw =>
 wpAny_mono (h SK s σ H D (I.nF _) hw) (fun _ _ q=>q.g7) fun _ _ z=>False.elim z
end
section
variable {X:Cx} {st:Stmt} {rest:List Stmt} {t u:TS} {e:Expr} {te:TE} {pos:Pos}
noncomputable def Kf:TS:=fun D σ H=>D.nx σ H
noncomputable def NO(t u:TS):TS:=fun D σ H=>t {D with nx:=u D} σ H
theorem aV:TN X [] Kf:=fun _ _ σ H _ I h=>wpAny_execs_nil ⟨σ,H,I,h⟩
theorem aD(h1:PS X st t)(h2:TN X rest u):TN X (st::rest) (NO t u):=by
 intro SK s σ H D I h;refine wpAny_execs_cons (thn (h1 SK s σ H {D with nx:=u D} I h) fun f s1 q=>?_);cases f with
 | next =>
  obtain⟨σ',H',I',q⟩:=q;exact h2 SK s1 σ' H' D I' q
 | ret v=>exact q
 | brk=>exact q
 | cont=>exact q
theorem aG(h1:PS X st t):TN X [st] t:=by
 intro SK s σ H D I h;refine wpAny_execs_cons (thn (h1 SK s σ H D I h) fun f s1 q=>?_);cases f with
 | next=>exact wpAny_execs_nil q
 | ret v=>exact q
 | brk=>exact q
 | cont=>exact q
noncomputable def NL:TS:=fun D σ H=>D.bk σ H
noncomputable def QA:TS:=fun D σ H=>D.ct σ H
theorem SO.quiet{SK:List (Addr×Obj)}{σ:St}{H:Hp}{s:Shared}(I:SO X SK σ H s):interactive X.env=false:=by simp[interactive,I.ok.kind]
noncomputable def Ke(te:TE):TS:=fun D σ H=>te σ H fun _ H1=>D.nx σ H1
theorem jU(he:PE X e te)(hs:swapsWith e none pos.line X.env=pure false:=by rfl):PS X (.Expr e pos) (Ke te):=by
 intro SK s σ H D I h;exact wpAny_Expr_any (thn (he SK s σ H _ I h) fun v s1 ⟨x,H1,I1,r1,q1⟩=>⟨σ,H1,I1,q1⟩) I.quiet hs
noncomputable def QI(te:TE):TS:=fun D σ H=>te σ H D.rt
theorem aQ(he:PE X e te):PS X (.Return (some e) pos) (QI te):=by
 intro SK s σ H D I h;exact wpAny_Return_some (thn (he SK s σ H _ I h) fun v s1 ⟨x,H1,I1,r1,q1⟩=>⟨x,σ,H1,I1,r1,q1⟩)
noncomputable def QJ:TS:=fun D _ H=>D.rt .SR H
noncomputable def QD(c:TT)(t u:TS):TS:=fun D σ H=>c σ H fun b H1=>if b=true then t D σ H1 else u D σ H1
theorem bG{c:Expr}{a b:List Stmt}{tc:TT}(hc:PT X c tc)(ha:TN X a t)(hb:TN X b u):PS X (.If c a b pos) (QD tc t u):=by
 intro SK s σ H D I h;refine wpAny_If (thn (hc SK s σ H _ I h) fun d s1 ⟨H1,I1,q1⟩=>?_);cases d with
 | true=>exact ha SK s1 σ H1 D I1 q1
 | false=>exact hb SK s1 σ H1 D I1 q1
noncomputable def NN:TS:=fun _ _ _=>False
end
noncomputable abbrev TG:=V->St->Hp->(St->Hp->Prop)->Prop
noncomputable abbrev TGs:=List V->St->Hp->(St->Hp->Prop)->Prop
noncomputable def PG(X:Cx)(target:Expr)(t:TG):Prop :=
 ∀(SK:List (Addr×Obj)) (s:Shared) (σ:St) (H:Hp) (v:V) (u:Value) (Q:St->Hp->Prop),SO X SK σ H s->bJ v u->t v σ H Q ->
  wpAny (model X.prog X.w) X.A (assign target X.env u) (fun _ s'=>∃ σ' H',SO X SK σ' H' s'/\Q σ' H') X.xe s
noncomputable def PGs(X:Cx)(ts:List Expr)(t:TGs):Prop :=
 ∀(SK:List (Addr×Obj)) (s:Shared) (σ:St) (H:Hp) (vs:List V) (us:List Value) (Q:St->Hp->Prop),SO X SK σ H s->Vals vs us->t vs σ H Q ->
  wpAny (model X.prog X.w) X.A (assignInOrder ((assignEach ts X.env).map (·.2)) us) (fun _ s'=>∃ σ' H',SO X SK σ' H' s'/\Q σ' H') X.xe s
noncomputable abbrev TSet:=V->V->V->Hp->(Hp->Prop)->Prop
noncomputable def PSet(X:Cx)(t:TSet):Prop :=
 ∀(SK:List (Addr×Obj)) (s:Shared) (σ:St) (H:Hp) (o i v:V) (ov iv u:Value) (Q:Hp->Prop),SO X SK σ H s->bJ o ov->bJ i iv->bJ v u->t o i v H Q ->
  wpAny (model X.prog X.w) X.A (setItem ov iv u) (fun _ s'=>∃ H',SO X SK σ H' s'/\Q H') X.xe s
noncomputable abbrev TIp:=V->V->Hp->VK->Prop
section
variable {X:Cx} {pos:Pos}
noncomputable def Az(i:Nat):TG:=fun v σ H Q=>Q (σ.set i (some v)) H
theorem hV{i:Nat}{x:Str}(hN:X.N.Nodup)(hi:X.N[i]?=some x)(hx:Loc X.env.scope x)(hf:X.fn x=true\/X.env.scope.names.lookup x=some .local:=by first|exact .inl rfl|exact .inr rfl|assumption):PG X (.Name x pos) (Az i):=by
 intro SK s σ H v u Q I r h;exact wpAny_assign_Name (oR I hN hi hx r (fun s' I'=>⟨_,H,I',h⟩) hf)
noncomputable def MJ:TGs:=fun vs σ H Q=>vs=[]/\Q σ H
noncomputable def J0(t:TG)(u:TGs):TGs:=fun vs σ H Q=>∃ v r,vs=v::r/\t v σ H fun σ' H'=>u r σ' H' Q
theorem Jn:PGs X [] MJ:=by
 intro SK s σ H vs us Q I r h;obtain⟨e,h⟩:=h;subst e;cases r;exact assignInOrder_nil ⟨σ,H,I,h⟩
theorem AY{e:Expr}{es:List Expr}{t:TG}{u:TGs}(h1:PG X e t)(h2:PGs X es u)
    (hs:(assignEach (e::es) X.env).map (·.2)=assign e X.env::(assignEach es X.env).map (·.2):=by rfl):PGs X (e::es) (J0 t u):=by
  intro SK s σ H vs us Q I r h;obtain⟨v,vr,e1,h⟩:=h;subst e1;cases r with
  | cons r rr =>
    rw[hs];refine assignInOrder_cons (thn (h1 SK s σ H _ _ _ I r h) fun _ s1 ⟨σ1,H1,I1,q1⟩=>?_);exact h2 SK s1 σ1 H1 _ _ Q I1 rr q1
noncomputable def MK(K:q0B)(n:Nat)(t:TGs):TG:=fun v σ H Q=>∃ a xs,v=.ref a/\fS K H a xs/\xs.length=n/\t xs σ H Q
theorem Nf{es:List Expr}{k:Nat}{t:TGs}{n:Nat}(hc:X.calm=true)(h:PGs X es t)
    (hn:(assignEach es X.env).length=n:=by rfl) (TF:(assignEach es X.env).findIdx? (·.1)=none:=by rfl):PG X (.Tuple es k pos) (MK X.K n t):=by
  intro SK s σ H v u Q I r hw;obtain⟨a,xs,e1,hq,hl,hw⟩:=hw;subst e1;cases r;obtain⟨SQ,rv,ht,hz⟩:=I.tuple hq;refine assign_Tuple_tuple (I.ok.hd hc) ht (by simp[hn,<- hl,rv.length]) TF fun h' hx=>?_;have I1:SO X SK σ H {s with heap:=h'}:=I.kept (t':=s.toks) fun b o e=>hx b o (Nat.ne_of_lt (Heap.lt_size e)) e;exact h SK _ σ H xs _ Q I1 (by simpa using rv) hw
noncomputable def PN(to ti:TE)(t:TSet):TG:=fun v σ H Q=>to σ H fun o H1=>ti σ H1 fun i H2=>t o i v H2 fun H3=>Q σ H3
theorem Gp{o i:Expr}{to ti:TE}{t:TSet}(ho:PE X o to)(hi:PE X i ti)(hs:PSet X t)
    (ha:∀ v,assign (.Subscript o i pos) X.env v=(do
      let ov <- holding [v] (eval o X.env);let iv <- holding [v,ov] (eval i X.env)
      standAt pos
      holding [v,ov,iv] (setItem ov iv v)
      release [v,ov,iv] []):=by intro _;rfl):PG X (.Subscript o i pos) (PN to ti t):=by
  intro SK s σ H v u Q I r h;rw[ha];refine wpAny_bind (wpAny_holding (thn (ho SK s σ H _ I h) fun ov s1 ⟨x,H1,I1,r1,q1⟩=>?_));refine wpAny_bind (wpAny_holding (thn (hi SK s1 σ H1 _ I1 q1) fun iv s2 ⟨y,H2,I2,r2,q2⟩=>?_));refine wpAny_bind (wpAny_standAt (wpAny_bind (wpAny_holding (thn (hs SK s2 σ H2 x y v ov iv u _ I2 r1 r2 r q2) fun _ s3 ⟨H3,I3,q3⟩=>?_))));exact wpAny_release ⟨σ,H3,I3,q3⟩
noncomputable def NK(te:TE)(g:TG):TS:=fun D σ H=>te σ H fun x H1=>g x σ H1 D.nx
theorem B5{tg e:Expr}{te:TE}{g:TG}(he:PE X e te)(hg:PG X tg g)(hs:swapsWithSole [tg] e pos.line X.env=pure false:=by rfl)(hw:swappedStores [tg] e X.env=pure none:=by rfl)
    (h1:(assignEach [tg] X.env).map (·.2)=[assign tg X.env]:=by rfl):PS X (.Assign [tg] e pos) (NK te g):=by
  intro SK s σ H D I h;refine wpAny_Assign_stores (thn (he SK s σ H _ I h) fun v s1 ⟨x,H1,I1,r1,q1⟩=>?_) hs hw;rw[h1];exact thn (hg SK s1 σ H1 x v _ I1 r1 q1) fun _ s2 q=>q
theorem aR{i:Nat}{x:Str}{e:Expr}{te:TE}{pos':Pos}(hN:X.N.Nodup)(hi:X.N[i]?=some x)(hx:Loc X.env.scope x)(he:PE X e te)(hs:swapsWith e (some (.Name x pos')) pos.line X.env=pure false:=by rfl)(hf:X.fn x=true\/X.env.scope.names.lookup x=some .local:=by first|exact .inl rfl|exact .inr rfl|assumption) :
    PS X (.Assign [.Name x pos'] e pos) (NK te (Az i)):=by
  intro SK s σ H D I h;refine wpAny_Assign_Name (thn (he SK s σ H _ I h) fun v s1 ⟨y,H1,I1,r1,q1⟩=>?_) hs;exact oR I1 hN hi hx r1 (fun s2 I2=>⟨_,H1,I2,q1⟩) hf
noncomputable def Sh(i:Nat)(te:TE)(ti:TIp):TS:=fun D σ H=>∃ x,σ[i]?=some (some x)/\te σ H fun y H1=>ti x y H1 fun z H2=>D.nx (σ.set i (some z)) H2
noncomputable def Qz(to ti te:TE)(Vz:V->V->Hp->VK->Prop)(X1:TIp)(VA:TSet):TS:=fun D σ H=>to σ H fun o H1=>ti σ H1 fun i H2=>Vz o i H2 fun x H3=>te σ H3 fun y H4=>X1 x y H4 fun z H5=>VA o i z H5 fun H6=>D.nx σ H6
end
section
variable {X:Cx} {pos:Pos}
noncomputable def NP(c:TT)(tb:TS):TS:=fun D σ H=>∃ W:Nat->St->Hp->Prop,(∃ m,W m σ H)/\∀ m σ H,W m σ H ->
 c σ H fun b H1=>if b=true then ∃ N:St->Hp->Prop,(∀ σ' H',N σ' H'->∃ m',m' < m/\W m' σ' H')/\tb {D with nx:=N,ct:=N,bk:=D.nx} σ H1 else D.nx σ H1
theorem AZ{c:Expr}{body:List Stmt}{tc:TT}{tb:TS}(hp:PassesOwn (model X.prog X.w) X.A X.env X.xe)(hc:PT X c tc)(hb:TN X body tb):PS X (.While c body [] pos) (NP tc tb):=by
 intro SK s σ H D I h;obtain⟨W,⟨m0,w0⟩,turn⟩:=h;refine wpAny_While (codeAny_whileLoop (fun n s'=>∃ σ' H',SO X SK σ' H' s'/\W n σ' H') ?_ m0 ⟨σ,H,I,w0⟩);rintro n s1 ⟨σ1,H1,I1,w1⟩;refine wpAny_passesOwn hp (thn (hc SK s1 σ1 H1 _ I1 (turn n σ1 H1 w1)) fun b s2 ⟨H2,I2,q2⟩=>?_);cases b with
 | true =>
  obtain⟨N,hN,q2⟩:=q2;rw[if_pos rfl];refine wpAny_passesOwn hp (thn (hb SK s2 σ1 H2 _ I2 q2) fun f s3 q3=>?_);cases f with
  | next =>
   obtain⟨σ3,H3,I3,n3⟩:=q3;obtain⟨m',hm,w3⟩:=hN σ3 H3 n3;exact⟨m',hm,σ3,H3,I3,w3⟩
  | cont =>
   obtain⟨σ3,H3,I3,n3⟩:=q3;obtain⟨m',hm,w3⟩:=hN σ3 H3 n3;exact⟨m',hm,σ3,H3,I3,w3⟩
  | brk=>exact q3
  | ret v=>exact q3
 | false =>
  rw[if_neg Bool.false_ne_true];exact wpAny_execs_nil ⟨σ1,H2,I2,q2⟩
end
structure It where
 go:Nat->Hp->Prop
 yld:Nat->Hp->V->Hp->Prop
 stop:Nat->Hp->Prop
noncomputable def nI(X:Cx)(SK:List (Addr×Obj))(H:Hp)(b:Addr):Prop :=
 H b=none/\b≠X.env.locals/\b∉X.fs/\(b∈X.ex\/X.s₀.heap.objs.size<=b)/\(∀ x c,X.env.cells.lookup x=some c->c≠b)/\∀ p∈X.pn++SK,p.1≠b
theorem SO.Dw{X:Cx}{SK:List (Addr×Obj)}{σ:St}{H H':Hp}{s:Shared}{b:Addr}(I:SO X SK σ H s)(hb:s.heap.objs.size<=b)(hn:H' b=none):nI X SK H' b:=by
 refine⟨hn,Nat.ne_of_gt (Nat.lt_of_lt_of_le I.lt hb),I.P7 hb,.inr (Nat.le_trans I.sz hb),fun x c e z=>?_,fun p hp z=>?_⟩
 ·obtain⟨v,q⟩:=I.cell x c e;exact absurd (Nat.lt_of_lt_of_le q.lt (by rw[z];exact hb)) (Nat.lt_irrefl _)
 ·exact absurd (Nat.lt_of_lt_of_le (Heap.lt_size (I.pin p hp).1) (by rw[z];exact hb)) (Nat.lt_irrefl _)
structure Turn(P:Program)(w:World)(K:q0B)(tg:Expr)(J:It)(fp:List Addr)(it:Addr)(tn:Nat->Heap->Prop):Prop where
 mem:it∈fp
 obj:∀ i h,tn i h->∀ b∈fp,∃ o,h.get? b=some o/\∀ v,o.data≠.cell v
 keep:∀ i h h',tn i h->(∀ b∈fp,∀ o,h.get? b=some o->h'.get? b=some o)->tn i h'
 item:∀(X:Cx),X.prog=P->X.w=w->X.K=K->X.calm=true->∀(i:Nat) (SK:List (Addr×Obj)) (s:Shared) (σ:St) (H:Hp) (E:q0A),SO X SK σ H s->(∀ b∈fp,nI X SK H b)->tn i s.heap->J.go i H ->
  wpAny (model P w) X.A (pyNext (.ref it)) (fun r s1=>∃ u,r=some u /\
   wpAny (model P w) X.A (letOwnedTupleGo tg (.ref it) u) (fun _ s2=>∃ x H',SO X SK σ H' s2/\bJ x u/\J.yld i H x H'/\tn (i+1) s2.heap/\∀ b∈fp,H' b=none) E s1) E s
 done:∀(X:Cx),X.prog=P->X.w=w->X.K=K->X.calm=true->∀(i:Nat) (SK:List (Addr×Obj)) (s:Shared) (σ:St) (H:Hp) (E:q0A),SO X SK σ H s->(∀ b∈fp,nI X SK H b)->tn i s.heap->J.stop i H ->
  wpAny (model P w) X.A (pyNext (.ref it)) (fun r s1=>r=none/\SO X SK σ H s1) E s
 self:∀(A:Around) (i:Nat) (s:Shared) (Q:q0A) (E:q0A),tn i s.heap->Q (.ref it) s->wpAny (model P w) A (pyIter (.ref it)) Q E s
noncomputable abbrev TI:=St->Hp->(It->Hp->Prop)->Prop
noncomputable def PIE(X:Cx)(SK:List (Addr×Obj))(σ:St)(tg:Expr)(R:It->Hp->Prop)(Zw:Value)(s2:Shared):Prop :=
 ∃(it:Addr) (fp:List Addr) (tn:Nat->Heap->Prop) (J:It) (H':Hp),Zw=.ref it/\SO X SK σ H' s2/\Turn X.prog X.w X.K tg J fp it tn/\tn 0 s2.heap/\(∀ b∈fp,nI X SK H' b)/\R J H'
noncomputable def PI(X:Cx)(tg iter:Expr)(wi:TI):Prop :=
 ∀(SK:List (Addr×Obj)) (s:Shared) (σ:St) (H:Hp) (R:It->Hp->Prop),SO X SK σ H s->wi σ H R ->
  wpAny (model X.prog X.w) X.A (eval iter X.env) (fun v s1=>wpAny (model X.prog X.w) X.A (pyIter v) (PIE X SK σ tg R) X.xe s1) X.xe s
theorem CD{M:Model}{A:Around}{E:q0A}{s:Shared}{tg:Expr}{it:Addr}{u:Value}{o:Obj}{n:String}{vs:Array Value}{Q:Unit->Shared->Prop}(ho:s.heap.get? it=some o)(hc:o.cls=.type n)(hd:o.data=.fields vs)
    (hn:["enumerate","zip","dict_itemiterator","dict_reverseitemiterator","odict_iterator","itertools.zip_longest","itertools.pairwise"].contains n=false) (hQ:Q () s):wpAny M A (letOwnedTupleGo tg (.ref it) u) Q E s:=by
  unfold letOwnedTupleGo;cases tg<;>first
    | exact wpAny_pure hQ
    | (cases u<;>first
        | exact wpAny_pure hQ
        | (refine wpAny_bind (wpAny_load ho ?_)
           rw[hc,hd];show wpAny M A (if (["enumerate","zip","dict_itemiterator","dict_reverseitemiterator","odict_iterator","itertools.zip_longest","itertools.pairwise"].contains n&&vs[0]?==some (rawInt _))=true then _ else _) Q E s;rw[if_neg (by intro h;rw[hn,Bool.false_and] at h;cases h)];exact wpAny_pure hQ))
noncomputable def UE(K:q0B)(a:Addr):It :=
 ⟨fun i H=>∃ xs x,dS K H a xs/\xs[i]?=some x,fun i H x H'=>H'=H/\∀ xs,dS K H a xs->xs[i]?=some x,fun i H=>∃ xs,dS K H a xs/\xs.length<=i⟩
noncomputable def VT(K:q0B)(a:Addr):It :=
 ⟨fun i H=>∃ xs x,fS K H a xs/\xs[i]?=some x,fun i H x H'=>H'=H/\∀ xs,fS K H a xs->xs[i]?=some x,fun i H=>∃ xs,fS K H a xs/\xs.length<=i⟩
noncomputable def Uo(lo:Int)(n:Nat):It:=⟨fun i _=>i < n,fun i H x H'=>H'=H/\x=.int (lo+i),fun i _=>n<=i⟩
theorem D6{P:Program}{w:World}{K:q0B}{tg:Expr}(a it:Addr):Turn P w K tg (UE K a) [it] it (fun i h=>h.IsListIter it a i) where
 mem:=by simp
 obj:=fun i h st b hb=>by
  have e:b=it:=by simpa using hb
  subst e;obtain⟨o,e,c,d⟩:=st;exact⟨o,e,fun v z=>by rw[d] at z;cases z⟩
 keep:=fun i h h' st k=>st.at fun o e=>k it (by simp) o e
 item:=by
  intro X hP hw hK hc i SK s σ H E I hf st hg;subst hP hw hK;obtain⟨xs,x,hq,hx⟩:=hg;obtain⟨SQ,rv,p,hz⟩:=I.list hq;obtain⟨u,hu,ru⟩:=rv.get hx;obtain⟨f0,f1,f2,f3,f4,f5⟩:=hf it (by simp);refine wpAny_pyNext_list_item st p.isList (x:=u) (by simpa using hu) fun h' U9 sb=>?_;have I1:SO X SK σ H {s with heap:=h'}:=I.turned (t':=s.toks) (fun b o hb e=>(sb.2 b hb).trans e) f0 f1 f3 f4 f5;obtain⟨o,e,c,d⟩:=id U9;exact⟨u,rfl,CD (s:={s with heap:=h'}) e c d (by decide) ⟨x,H,I1,ru,⟨rfl,fun ys hy=>by rw[I.FC hy hq];exact hx⟩,U9,fun b hb=>(hf b hb).1⟩⟩
 done:=by
  intro X hP hw hK hc i SK s σ H E I hf st hg;subst hP hw hK;obtain⟨xs,hq,hx⟩:=hg;obtain⟨SQ,rv,p,hz⟩:=I.list hq;obtain⟨f0,f1,f2,f3,f4,f5⟩:=hf it (by simp);have hl:=rv.length;exact wpAny_pyNext_list_end (I.ok.hd hc) st p.isList (by simp;omega) fun h' eb=>⟨rfl,I.turned (t':=s.toks) (fun b o hb e=>eb b o hb e) f0 f1 f3 f4 f5⟩
 self:=fun _ _ _ _ _ st h=>wpAny_pyIter_listiter st h
theorem Cg{P:Program}{w:World}{K:q0B}{tg:Expr}(a it:Addr):Turn P w K tg (VT K a) [it] it (fun i h=>h.IsTupleIter it a i) where
 mem:=by simp
 obj:=fun i h st b hb=>by
  have e:b=it:=by simpa using hb
  subst e;obtain⟨o,e,c,d⟩:=st;exact⟨o,e,fun v z=>by rw[d] at z;cases z⟩
 keep:=fun i h h' st k=>st.at fun o e=>k it (by simp) o e
 item:=by
  intro X hP hw hK hc i SK s σ H E I hf st hg;subst hP hw hK;obtain⟨xs,x,hq,hx⟩:=hg;obtain⟨SQ,rv,p,hz⟩:=I.tuple hq;obtain⟨u,hu,ru⟩:=rv.get hx;obtain⟨f0,f1,f2,f3,f4,f5⟩:=hf it (by simp);refine wpAny_pyNext_tuple_item st (show s.heap.IsTuple a SQ.toArray from p) (x:=u) (by simpa using hu) fun h' U9 sb=>?_;have I1:SO X SK σ H {s with heap:=h'}:=I.turned (t':=s.toks) (fun b o hb e=>(sb.2 b hb).trans e) f0 f1 f3 f4 f5;obtain⟨o,e,c,d⟩:=id U9;exact⟨u,rfl,CD (s:={s with heap:=h'}) e c d (by decide) ⟨x,H,I1,ru,⟨rfl,fun ys hy=>by rw[I.D5 hy hq];exact hx⟩,U9,fun b hb=>(hf b hb).1⟩⟩
 done:=by
  intro X hP hw hK hc i SK s σ H E I hf st hg;subst hP hw hK;obtain⟨xs,hq,hx⟩:=hg;obtain⟨SQ,rv,p,hz⟩:=I.tuple hq;obtain⟨f0,f1,f2,f3,f4,f5⟩:=hf it (by simp);have hl:=rv.length;exact wpAny_pyNext_tuple_end (I.ok.hd hc) st (show s.heap.IsTuple a SQ.toArray from p) (by simp;omega) fun h' eb=>⟨rfl,I.turned (t':=s.toks) (fun b o hb e=>eb b o hb e) f0 f1 f3 f4 f5⟩
 self:=fun _ _ _ _ _ st h=>wpAny_pyIter_tupleiter st h
theorem Cf{P:Program}{w:World}{K:q0B}{tg:Expr}(it:Addr)(lo:Int)(n:Nat):Turn P w K tg (Uo lo n) [it] it (fun i h=>IsRangeIter h it (lo+(i:Nat) * 1) ((n:Int) - (i:Nat)) 1) where
 mem:=by simp
 obj:=fun i h st b hb=>by
  have e:b=it:=by simpa using hb
  subst e;exact⟨_,st,fun v z=>by
   have z':Data.fields _=Data.cell v:=z;cases z'⟩
 keep:=fun i h h' st k=>k it (by simp) _ st
 item:=by
  intro X hP hw hK hc i SK s σ H E I hf st hg;subst hP hw hK;obtain⟨f0,f1,f2,f3,f4,f5⟩:=hf it (by simp);have W:=Walks.range (prog:=X.prog) (w:=X.w) (I.ok.hd hc) it lo 1 n;refine W.item i s _ _ hg st fun v h' tk hv U9 kk=>?_;obtain⟨t,rfl⟩:=hv;have I1:SO X SK σ H {s with heap:=h',toks:=tk}:=I.turned (fun b o hb e=>kk b o (by simpa using hb) e) f0 f1 f3 f4 f5;refine⟨_,rfl,CD (s:={s with heap:=h',toks:=tk}) (n:="range_iterator") U9 rfl rfl (by decide) ⟨.int (lo+i),H,I1,⟨t,?_⟩,⟨rfl,rfl⟩,U9,fun b hb=>(hf b hb).1⟩⟩;rw[Int.mul_one]
 done:=by
  intro X hP hw hK hc i SK s σ H E I hf st hg;subst hP hw hK;obtain⟨f0,f1,f2,f3,f4,f5⟩:=hf it (by simp);exact wpAny_pyNext_range_end (I.ok.hd hc) st (by have:n<=i:=hg;omega) fun h' eb=>⟨rfl,I.turned (t':=s.toks) (fun b o hb e=>eb b o hb e) f0 f1 f3 f4 f5⟩
 self:=fun _ _ _ _ _ st h=>wpAny_pyIter_rangeiter st h
section
variable {X:Cx} {tg:Expr}
noncomputable def AA(K:q0B)(tl:TE):TI:=fun σ H R=>tl σ H fun x H1=>∃ a,x=.ref a/\(∃ xs,dS K H1 a xs)/\R (UE K a) H1
noncomputable def Fo(K:q0B)(tl:TE):TI:=fun σ H R=>tl σ H fun x H1=>∃ a,x=.ref a/\(∃ xs,fS K H1 a xs)/\R (VT K a) H1
theorem zO{l:Expr}{tl:TE}(hl:PE X l tl):PI X tg l (AA X.K tl):=by
 intro SK s σ H R I h;refine thn (hl SK s σ H _ I h) fun v s1 ⟨x,H1,I1,r1,q1⟩=>?_;obtain⟨a,e,⟨xs,hq⟩,q⟩:=q1;subst e;cases r1;obtain⟨SQ,rv,p,hz⟩:=I1.list hq;refine wpAny_pyIter_list p.isList ?_;refine⟨s1.heap.objs.size,[s1.heap.objs.size],_,_,H1,rfl,I1.kept (t':=s1.toks) fun b o e=>Heap.get?_push_of_some _ e,D6 a _,⟨_,Heap.get?_push_size _ rfl,rfl,rfl⟩,fun b hb=>?_,q⟩;have e:b=s1.heap.objs.size:=by simpa using hb
 subst e;exact I1.Dw (Nat.le_refl _) (I1.SS.fresh (Nat.le_refl _))
theorem Gr{l:Expr}{tl:TE}(hl:PE X l tl):PI X tg l (Fo X.K tl):=by
 intro SK s σ H R I h;refine thn (hl SK s σ H _ I h) fun v s1 ⟨x,H1,I1,r1,q1⟩=>?_;obtain⟨a,e,⟨xs,hq⟩,q⟩:=q1;subst e;cases r1;obtain⟨SQ,rv,p,hz⟩:=I1.tuple hq;refine wpAny_pyIter_tuple (show s1.heap.IsTuple a SQ.toArray from p) ?_;refine⟨s1.heap.objs.size,[s1.heap.objs.size],_,_,H1,rfl,I1.kept (t':=s1.toks) fun b o e=>Heap.get?_push_of_some _ e,Cg a _,⟨_,Heap.get?_push_size _ rfl,rfl,rfl⟩,fun b hb=>?_,q⟩;have e:b=s1.heap.objs.size:=by simpa using hb
 subst e;exact I1.Dw (Nat.le_refl _) (I1.SS.fresh (Nat.le_refl _))
theorem Gx{SK:List (Addr×Obj)}{σ:St}{H:Hp}{s:Shared}{R:It->Hp->Prop}{E:q0A}{lo hi:Int}{t u v:Tok}{tk:Nat}(I:SO X SK σ H s)(h1:-(2 ^ 62)<=lo)(h2:lo < 2 ^ 62)(h3:-(2 ^ 62)<=hi)(h4:hi < 2 ^ 62)
    (q:R (Uo lo (hi - lo).toNat) H):wpAny (model X.prog X.w) X.A (pyIter (.ref s.heap.objs.size)) (PIE X SK σ tg R) E {s with heap:=s.heap.push {cls:=.type "range",data:=.fields #[.int lo t,.int hi u,.int 1 v]},toks:=tk}:=by
  refine wpAny_pyIter_range (IsRange.new ..) (small_one h1 h2 h3 h4) ?_;have I1:SO X SK σ H {s with heap:=s.heap.push {cls:=.type "range",data:=.fields #[.int lo t,.int hi u,.int 1 v]},toks:=tk}:=I.kept fun b o e=>Heap.get?_push_of_some _ e;refine⟨(s.heap.push {cls:=.type "range",data:=.fields #[.int lo t,.int hi u,.int 1 v]}).objs.size,[(s.heap.push {cls:=.type "range",data:=.fields #[.int lo t,.int hi u,.int 1 v]}).objs.size],_,_,H,rfl,
    I1.kept (t':=tk) fun b o e=>Heap.get?_push_of_some _ e,Cf _ lo (hi - lo).toNat,?_,fun b hb=>?_,q⟩
  · have e1:lo+((0:Nat):Int) * 1=lo:=by simp
    have e2:(((hi - lo).toNat:Nat):Int) - ((0:Nat):Int)=Builtin.Range.rangeSize lo hi 1:=by rw[rangeSize_one];split<;>omega
    show IsRangeIter _ _ (lo+((0:Nat):Int) * 1) ((((hi - lo).toNat:Nat):Int) - ((0:Nat):Int)) 1;rw[e1,e2];exact Heap.get?_push_size _ rfl
  · have e:b=(s.heap.push {cls:=.type "range",data:=.fields #[.int lo t,.int hi u,.int 1 v]}).objs.size:=by simpa using hb
    subst e;exact I1.Dw (Nat.le_refl _) (I1.SS.fresh (Nat.le_refl _))
noncomputable def AB(ta:TA):TI:=fun σ H R=>ta σ H fun vs H1=>∃ j:Int,vs=[.int j]/\-(2 ^ 62)<=j/\j < 2 ^ 62/\R (Uo 0 j.toNat) H1
noncomputable def J2(ta:TA):TI:=fun σ H R=>ta σ H fun vs H1=>∃ i j:Int,vs=[.int i,.int j]/\(-(2 ^ 62)<=i/\i < 2 ^ 62/\-(2 ^ 62)<=j/\j < 2 ^ 62)/\R (Uo i (j - i).toNat) H1
theorem pT{a:Expr}{ta:TA}{p pos:Pos}(hg:Gl X "range")(hm:X.mg "range"=none)(ha:PA X [a] ta)(hs:starEach [a] X.env=[(false,eval a X.env)]:=by rfl):PI X tg (.Call (.Name "range" p) [a] [] pos) (AB ta):=by
 intro SK s σ H R I h;refine Call_ (yZ I hg hm boot_range (PyProof.Rows.callWith_type1 (thn (ha pos SK s σ H _ I h) fun us s1 ⟨vs,H1,I1,r1,q1⟩=>?_) hs rfl));obtain⟨j,e,q1,q2,q⟩:=q1;subst e;cases r1 with
 | cons r rr =>
  cases rr;obtain⟨t,rfl⟩:=r;exact call_range_1 (Gx I1 (by omega) (by omega) q1 q2 (by simpa using q))
noncomputable def qK(wi:TI)(g:TG)(tb:TS):TS:=fun D σ H=>wi σ H fun J H1=>∃ W:Nat->Nat->St->Hp->Prop,(∃ m,W 0 m σ H1)/\∀ i m σ H,W i m σ H ->
 (J.stop i H/\D.nx σ H)\/(J.go i H/\∃ N:St->Hp->Prop,(∀ σ' H',N σ' H'->∃ m',m' < m/\W (i+1) m' σ' H')/\∀ x H',J.yld i H x H'->g x σ H' fun σ2 H2=>tb {D with nx:=N,ct:=N,bk:=D.nx} σ2 H2)
noncomputable def uM(fp:List Addr)(h:Heap):List (Addr×Obj):=fp.filterMap fun b=>(h.get? b).map fun o=>(b,o)
theorem jR{fp:List Addr}{h:Heap}{b:Addr}{o:Obj}(hb:b∈fp)(e:h.get? b=some o):(b,o)∈uM fp h:=List.mem_filterMap.mpr ⟨b,hb,by rw[e];rfl⟩
theorem DM{fp:List Addr}{h:Heap}{p:Addr×Obj}(hp:p∈uM fp h):p.1∈fp/\h.get? p.1=some p.2:=by
 obtain⟨b,hb,e⟩:=List.mem_filterMap.mp hp;cases q:h.get? b with
 | none=>rw[q] at e;cases e
 | some o =>
  rw[q] at e;have e':(b,o)=p:=Option.some.inj e;subst e';exact⟨hb,q⟩
theorem SO.pinned{SK:List (Addr×Obj)}{σ:St}{H:Hp}{s:Shared}{fp:List Addr}(I:SO X SK σ H s)(hf:∀ b∈fp,nI X SK H b)(ho:∀ b∈fp,∃ o,s.heap.get? b=some o/\∀ v,o.data≠.cell v):SO X (SK++uM fp s.heap) σ H s :=
 I.oK fun p hp=>(List.mem_append.mp hp).elim (fun z=>I.pin p (List.mem_append_right _ z)) fun z=>by
  obtain⟨hb,e⟩:=DM z;obtain⟨f0,f1,f2,_⟩:=hf p.1 hb;obtain⟨o,e',d⟩:=ho p.1 hb;rw[e] at e';cases e';exact⟨e,f0,f1,f2,d⟩
theorem SO.uZ{SK pl:List (Addr×Obj)}{σ:St}{H:Hp}{s:Shared}(I:SO X (SK++pl) σ H s):SO X SK σ H s:=I.oK fun p hp=>I.pin p (List.mem_append_right _ (List.mem_append_left _ hp))
theorem pU{iter:Expr}{body:List Stmt}{wi:TI}{g:TG}{tb:TS}{pos:Pos}(hp:PassesOwn (model X.prog X.w) X.A X.env X.xe)(hc:X.calm=true)(hi:PI X tg iter wi)(hg:PG X tg g)(hb:TN X body tb)
    (hs:∀ x,foldedSetIterable iter X.env x=pure x:=by intro _;rfl):PS X (.For tg iter body [] pos) (qK wi g tb):=by
  intro SK s σ H D I h;refine wpAny_For (thn (hi SK s σ H _ I h) fun v s1 h1=>thn h1 fun Zw s2 h2=>?_) hs;obtain⟨it,fp,tn,J,H2,e,I2,T,ZJ,f2,W,⟨m0,w0⟩,turn⟩:=h2;subst e
  -- what stays true of the iterator's objects through the loop
  have Uk:∀ {H':Hp},(∀ b∈fp,H' b=none)->∀ b∈fp,nI X SK H' b:=fun hn b hb=>⟨hn b hb,(f2 b hb).2⟩;refine codeAny_forLoop_any (fun n s'=>∃ i σ' H',SO X SK σ' H' s'/\tn i s'.heap/\(∀ b∈fp,H' b=none)/\W i n σ' H') ?_ m0 ⟨0,σ,H2,I2,ZJ,fun b hb=>(f2 b hb).1,w0⟩;rintro n s3 ⟨i,σ3,H3,I3,Wv,XF,w3⟩;rcases turn i n σ3 H3 w3 with⟨stop,qn⟩|⟨go,N,hN,step⟩
  · refine wpAny_passesOwn hp (thn (T.done X rfl rfl rfl hc i SK s3 σ3 H3 X.xe I3 (Uk XF) Wv stop) fun r s4 ⟨hr,I4⟩=>?_);subst hr;exact wpAny_execs_nil ⟨σ3,H3,I4,qn⟩
  · refine wpAny_passesOwn hp (thn (T.item X rfl rfl rfl hc i SK s3 σ3 H3 X.xe I3 (Uk XF) Wv go) fun r s4 ⟨u,hr,h4⟩=>?_);subst hr;refine wpAny_passesOwn hp (thn h4 fun _ s5 ⟨x,H5,I5,r5,y5,ZK,fr5⟩=>?_);have I5':=I5.pinned (Uk fr5) (T.obj _ _ ZK);refine wpAny_passesOwn hp (thn (hg _ s5 σ3 H5 x u _ I5' r5 (step x H5 y5)) fun _ s6 ⟨σ6,H6,I6,q6⟩=>?_);refine wpAny_passesOwn hp (thn (hb _ s6 σ6 H6 _ I6 q6) fun f s7 q7=>?_);have again:∀ {σ7:St} {H7:Hp},SO X (SK++uM fp s5.heap) σ7 H7 s7->N σ7 H7->∃ m,m < n/\∃ i σ' H',SO X SK σ' H' s7/\tn i s7.heap/\(∀ b∈fp,H' b=none)/\W i m σ' H':=fun {σ7 H7} I7 n7=>by
      obtain⟨m',hm,w7⟩:=hN σ7 H7 n7;refine⟨m',hm,i+1,σ7,H7,I7.uZ,T.keep _ _ _ ZK fun b hb o e=>(I7.pin (b,o) (List.mem_append_right _ (List.mem_append_right _ (jR hb e)))).1,fun b hb=>?_,w7⟩;obtain⟨o,e,d⟩:=T.obj _ _ ZK b hb;exact(I7.pin (b,o) (List.mem_append_right _ (List.mem_append_right _ (jR hb e)))).2.1
    cases f with
    | next=>obtain⟨σ7,H7,I7,n7⟩:=q7;exact again I7 n7
    | cont=>obtain⟨σ7,H7,I7,n7⟩:=q7;exact again I7 n7
    | brk=>obtain⟨σ7,H7,I7,q7⟩:=q7;exact⟨σ7,H7,I7.uZ,q7⟩
    | ret v=>obtain⟨x7,σ7,H7,I7,r7,q7⟩:=q7;exact⟨x7,σ7,H7,I7.uZ,r7,q7⟩
end
theorem Ay{K:q0B}{a:Addr}{xs:List V}{g:TG}{tb:TS}{D:Ends}{σ:St}{H:Hp}(Pv:Nat->St->Hp->Prop)(h0:Pv 0 σ H)(hl:∀ i σ H,i<=xs.length->Pv i σ H->dS K H a xs)
    (hs:∀ i x σ H,xs[i]?=some x->Pv i σ H->g x σ H fun σ2 H2=>tb {D with nx:=Pv (i+1),ct:=Pv (i+1),bk:=D.nx} σ2 H2) (hd:∀ σ H,Pv xs.length σ H->D.nx σ H) :
    ∃ W:Nat->Nat->St->Hp->Prop,(∃ m,W 0 m σ H)/\∀ i m σ H,W i m σ H ->
      ((UE K a).stop i H/\D.nx σ H)\/((UE K a).go i H/\∃ N:St->Hp->Prop,(∀ σ' H',N σ' H'->∃ m',m' < m/\W (i+1) m' σ' H')/\∀ x H',(UE K a).yld i H x H'->g x σ H' fun σ2 H2=>tb {D with nx:=N,ct:=N,bk:=D.nx} σ2 H2):=by
  refine⟨fun i m σ H=>m=xs.length - i/\i<=xs.length/\Pv i σ H,⟨xs.length,by simp,Nat.zero_le _,h0⟩,?_⟩;rintro i m σ H ⟨rfl,hi,p⟩;have q:=hl i σ H hi p;by_cases Tu:i < xs.length
  · refine .inr ⟨⟨xs,xs[i],q,by simp[Tu]⟩,Pv (i+1),fun σ' H' p'=>⟨xs.length - (i+1),by omega,rfl,Tu,p'⟩,fun x H' y=>?_⟩;obtain⟨e,y⟩:=y;subst e;exact hs i x σ _ (y xs q) p
  · have e:i=xs.length:=by omega
    subst e;exact .inl ⟨⟨xs,q,Nat.le_refl _⟩,hd σ H p⟩
theorem yR{K:q0B}{a:Addr}{xs:List V}{g:TG}{tb:TS}{D:Ends}{σ:St}{H:Hp}(Pv:Nat->St->Hp->Prop)(h0:Pv 0 σ H)(hl:∀ i σ H,i<=xs.length->Pv i σ H->fS K H a xs)
    (hs:∀ i x σ H,xs[i]?=some x->Pv i σ H->g x σ H fun σ2 H2=>tb {D with nx:=Pv (i+1),ct:=Pv (i+1),bk:=D.nx} σ2 H2) (hd:∀ σ H,Pv xs.length σ H->D.nx σ H) :
    ∃ W:Nat->Nat->St->Hp->Prop,(∃ m,W 0 m σ H)/\∀ i m σ H,W i m σ H ->
      ((VT K a).stop i H/\D.nx σ H)\/((VT K a).go i H/\∃ N:St->Hp->Prop,(∀ σ' H',N σ' H'->∃ m',m' < m/\W (i+1) m' σ' H')/\∀ x H',(VT K a).yld i H x H'->g x σ H' fun σ2 H2=>tb {D with nx:=N,ct:=N,bk:=D.nx} σ2 H2):=by
  refine⟨fun i m σ H=>m=xs.length - i/\i<=xs.length/\Pv i σ H,⟨xs.length,by simp,Nat.zero_le _,h0⟩,?_⟩;rintro i m σ H ⟨rfl,hi,p⟩;have q:=hl i σ H hi p;by_cases Tu:i < xs.length
  · refine .inr ⟨⟨xs,xs[i],q,by simp[Tu]⟩,Pv (i+1),fun σ' H' p'=>⟨xs.length - (i+1),by omega,rfl,Tu,p'⟩,fun x H' y=>?_⟩;obtain⟨e,y⟩:=y;subst e;exact hs i x σ _ (y xs q) p
  · have e:i=xs.length:=by omega
    subst e;exact .inl ⟨⟨xs,q,Nat.le_refl _⟩,hd σ H p⟩
theorem wX{lo:Int}{n:Nat}{g:TG}{tb:TS}{D:Ends}{σ:St}{H:Hp}(Pv:Nat->St->Hp->Prop)(h0:Pv 0 σ H)
    (hs:∀ i σ H,i < n->Pv i σ H->g (.int (lo+i)) σ H fun σ2 H2=>tb {D with nx:=Pv (i+1),ct:=Pv (i+1),bk:=D.nx} σ2 H2) (hd:∀ σ H,Pv n σ H->D.nx σ H) :
    ∃ W:Nat->Nat->St->Hp->Prop,(∃ m,W 0 m σ H)/\∀ i m σ H,W i m σ H ->
      ((Uo lo n).stop i H/\D.nx σ H)\/((Uo lo n).go i H/\∃ N:St->Hp->Prop,(∀ σ' H',N σ' H'->∃ m',m' < m/\W (i+1) m' σ' H')/\∀ x H',(Uo lo n).yld i H x H'->g x σ H' fun σ2 H2=>tb {D with nx:=N,ct:=N,bk:=D.nx} σ2 H2):=by
  refine⟨fun i m σ H=>m=n - i/\i<=n/\Pv i σ H,⟨n,by simp,Nat.zero_le _,h0⟩,?_⟩;rintro i m σ H ⟨rfl,hi,p⟩;by_cases Tu:i < n
  · refine .inr ⟨Tu,Pv (i+1),fun σ' H' p'=>⟨n - (i+1),by omega,rfl,Tu,p'⟩,fun x H' y=>?_⟩;obtain⟨e,y⟩:=y;subst e y;exact hs i σ _ Tu p
  · have e:i=n:=by omega
    subst e;exact .inl ⟨Nat.le_refl _,hd σ H p⟩
noncomputable abbrev R2:=V->V->Hp->VK->Prop
noncomputable def h9(X:Cx)(f:Value->Value->Sem Value)(r:R2):Prop :=
 ∀(SK:List (Addr×Obj)) (s:Shared) (σ:St) (H:Hp) (x y:V) (v u:Value) (Q:VK),SO X SK σ H s->bJ x v->bJ y u->r x y H Q ->
  wpAny (model X.prog X.w) X.A (f v u) (EP X SK σ Q) X.xe s
noncomputable def Ro(X:Cx)(f:Value->Sem Value)(r:V->Hp->VK->Prop):Prop :=
 ∀(SK:List (Addr×Obj)) (s:Shared) (σ:St) (H:Hp) (x:V) (v:Value) (Q:VK),SO X SK σ H s->bJ x v->r x H Q ->
  wpAny (model X.prog X.w) X.A (f v) (EP X SK σ Q) X.xe s
noncomputable def dG(X:Cx)(f:Value)(r:List V->Hp->VK->Prop):Prop :=
 ∀(SK:List (Addr×Obj)) (s:Shared) (σ:St) (H:Hp) (xs:List V) (us:List Value) (Q:VK),SO X SK σ H s->Vals xs us->r xs H Q ->
  wpAny (model X.prog X.w) X.A (call f us) (EP X SK σ Q) X.xe s
noncomputable def Rn(X:Cx)(r:V->Hp->(Bool->Hp->Prop)->Prop):Prop :=
 ∀(SK:List (Addr×Obj)) (s:Shared) (σ:St) (H:Hp) (x:V) (v:Value) (Q:Bool->Hp->Prop),SO X SK σ H s->bJ x v->r x H Q ->
  wpAny (model X.prog X.w) X.A (truthy v) (TP X SK σ Q) X.xe s
noncomputable def QG(r:R2)(ta tb:TE):TE:=fun σ H Q=>ta σ H fun x H1=>tb σ H1 fun y H2=>r x y H2 Q
noncomputable def Sy(r:V->Hp->VK->Prop)(ta:TE):TE:=fun σ H Q=>ta σ H fun x H1=>r x H1 Q
noncomputable def rI(C:Int->Int->Prop)(g:Int->Int->V):R2:=fun x y H Q=>∃ i j,x=.int i/\y=.int j/\C i j/\Q (g i j) H
noncomputable def Hj(g:Int->Int->V):R2:=fun x y H Q=>∃ i j,x=.int i/\y=.int j/\Q (g i j) H
noncomputable def rU(g:Int->V):V->Hp->VK->Prop:=fun x H Q=>∃ i,x=.int i/\Q (g i) H
section
variable {X:Cx} {a b c:Expr} {ta tb tc:TE} {pos:Pos}
theorem KP(ha:PE X a ta)(hb:PE X b tb){SK:List (Addr×Obj)}{s:Shared}{σ:St}{H:Hp}{R:V->V->Hp->Prop}(I:SO X SK σ H s)
    (h:ta σ H fun x H1=>tb σ H1 fun y H2=>R x y H2) {Q:q0A} {f:Value->Value->Sem Value}
    (hf:∀ v u s2 x y H2,SO X SK σ H2 s2->bJ x v->bJ y u->R x y H2->wpAny (model X.prog X.w) X.A (f v u) Q X.xe s2) :
    wpAny (model X.prog X.w) X.A (eval a X.env) (fun v s₁=>wpAny (model X.prog X.w) X.A (eval b X.env) (fun u s₂=>wpAny (model X.prog X.w) X.A (f v u) Q X.xe s₂) X.xe s₁) X.xe s:=by
  refine thn (ha SK s σ H _ I h) fun v s1 ⟨x,H1,I1,r1,q1⟩=>?_;refine thn (hb SK s1 σ H1 _ I1 q1) fun u s2 ⟨y,H2,I2,r2,q2⟩=>?_;exact hf v u s2 x y H2 I2 r1 r2 q2
theorem aZ{op:Operator}{r:R2}(ho:h9 X (binaryOp op) r)(ha:PE X a ta)(hb:PE X b tb):PE X (.BinOp a op b pos) (QG r ta tb):=by
 intro SK s σ H Q I h;exact wpAny_BinOp (KP ha hb I h fun v u s2 x y H2 I2 rx ry q=>ho SK s2 σ H2 x y v u Q I2 rx ry q)
theorem CS{op:UnaryOp}{r:V->Hp->VK->Prop}(ho:Ro X (unaryOp op) r)(ha:PE X a ta):PE X (.UnaryOp op a pos) (Sy r ta):=by
 intro SK s σ H Q I h;exact UnaryOp_ (thn (ha SK s σ H _ I h) fun v s1 ⟨x,H1,I1,r1,q1⟩=>ho SK s1 σ H1 x v Q I1 r1 q1)
theorem Rh{f:Value->Value->Sem Value}{C:Int->Int->Prop}{g:Int->Int->Int}
    (rule:∀(i j:Int) (t u:Tok) (s:Shared) (Q:q0A) (E:q0A),C i j->Q (.int (g i j) s.toks) {s with toks:=s.toks+1}->wpAny (model X.prog X.w) X.A (f (.int i t) (.int j u)) Q E s) :
    h9 X f (rI C fun i j=>.int (g i j)):=by
  intro SK s σ H x y v u Q I rx ry h;obtain⟨i,j,rfl,rfl,hc,q⟩:=h;obtain⟨t,rfl⟩:=rx;obtain⟨t',rfl⟩:=ry;exact rule i j t t' s _ _ hc ⟨.int (g i j),H,I.tok _,⟨_,rfl⟩,q⟩
theorem P9{f:Value->Value->Sem Value}{g:Int->Int->Int}
    (rule:∀(i j:Int) (t u:Tok) (s:Shared) (Q:q0A) (E:q0A),Q (.int (g i j) s.toks) {s with toks:=s.toks+1}->wpAny (model X.prog X.w) X.A (f (.int i t) (.int j u)) Q E s) :
    h9 X f (Hj fun i j=>.int (g i j)):=by
  intro SK s σ H x y v u Q I rx ry h;obtain⟨i,j,rfl,rfl,q⟩:=h;obtain⟨t,rfl⟩:=rx;obtain⟨t',rfl⟩:=ry;exact rule i j t t' s _ _ ⟨.int (g i j),H,I.tok _,⟨_,rfl⟩,q⟩
theorem Jj{f:Value->Value->Sem Value}{g:Int->Int->Bool}
    (rule:∀(i j:Int) (t u:Tok) (s:Shared) (Q:q0A) (E:q0A),Q (.bool (g i j)) s->wpAny (model X.prog X.w) X.A (f (.int i t) (.int j u)) Q E s) :
    h9 X f (Hj fun i j=>.bl (g i j)):=by
  intro SK s σ H x y v u Q I rx ry h;obtain⟨i,j,rfl,rfl,q⟩:=h;obtain⟨t,rfl⟩:=rx;obtain⟨t',rfl⟩:=ry;exact rule i j t t' s _ _ ⟨.bl (g i j),H,I,rfl,q⟩
noncomputable def CPow(i j:Int):Prop:=0<=j/\j<=1000000/\i.natAbs < 2 ^ 64
noncomputable def CMul(i j:Int):Prop:=(-(2 ^ 64) < i/\i < 2 ^ 64)\/(-(2 ^ 64) < j/\j < 2 ^ 64)
theorem CMul.ok{i j:Int}(h:CMul i j):IntMulOk i j:=by
 rcases h with⟨h1,h2⟩|⟨h1,h2⟩
 ·exact .of_left (intBits_le_64 h1 h2)
 ·exact .of_right (intBits_le_64 h1 h2)
theorem Nb:h9 X (binaryOp .Add) (Hj fun i j=>.int (i+j)):=P9 fun _ _ _ _ _ _ _ q=>add_int q
theorem uG:h9 X (binaryOp .Sub) (Hj fun i j=>.int (i - j)):=P9 fun _ _ _ _ _ _ _ q=>sub_int q
theorem uF:h9 X (binaryOp .Mult) (rI CMul fun i j=>.int (i * j)):=Rh fun _ _ _ _ _ _ _ hc q=>mul_int q hc.ok
theorem pQ:h9 X (binaryOp .Mod) (rI (fun _ j=>0 < j) fun i j=>.int (i % j)):=Rh fun i j _ _ _ _ _ hc q=>by
 have h1:(0:Int) < j:=hc;exact mod_int' (by omega) (by rw[Int.fmod_eq_emod_of_nonneg i (by omega)];exact q)
theorem BV:h9 X (binaryOp .Pow) (rI CPow fun i j=>.int (i ^ j.toNat)):=Rh fun _ _ _ _ _ _ _ hc q=>pow_int_small hc.1 hc.2.1 hc.2.2 q
theorem SI{f:Value->Sem Value}{g:Int->Int}
    (rule:∀(i:Int) (t:Tok) (s:Shared) (Q:q0A) (E:q0A),Q (.int (g i) s.toks) {s with toks:=s.toks+1}->wpAny (model X.prog X.w) X.A (f (.int i t)) Q E s) :
    Ro X f (rU fun i=>.int (g i)):=by
  intro SK s σ H x v Q I rx h;obtain⟨i,rfl,q⟩:=h;obtain⟨t,rfl⟩:=rx;exact rule i t s _ _ ⟨.int (g i),H,I.tok _,⟨_,rfl⟩,q⟩
theorem Ac:Ro X (unaryOp .USub) (rU fun i=>.int (-i)):=SI fun _ _ _ _ _ q=>neg_int q
end
noncomputable def scal:V->V->Bool
 | .SR,.SR=>true | .SR,.int _=>true | .int _,.SR=>true | .SR,.bl _=>true | .bl _,.SR=>true | .SR,.str _=>true | .str _,.SR=>true
 | .int _,.int _=>true | .bl _,.bl _=>true | .str _,.str _=>true | .byt _,.byt _=>true
 | .int _,.str _=>true | .str _,.int _=>true | .bl _,.str _=>true | .str _,.bl _=>true
 | _,_=>false
noncomputable def DV:R2:=fun x y H Q=>scal x y=true/\Q (.bl (decide (x=y))) H
noncomputable def Jt:R2:=fun x y H Q=>scal x y=true/\Q (.bl (!decide (x=y))) H
theorem Cv{i j:Int}:decide (V.int i=V.int j)=(i==j):=by
 rw[Bool.eq_iff_iff];simp
theorem EI{i j:Bool}:decide (V.bl i=V.bl j)=(i==j):=by
 rw[Bool.eq_iff_iff];simp
theorem Cw{i j:Str}:decide (V.str i=V.str j)=(i==j):=by
 rw[Bool.eq_iff_iff];simp
theorem Cu{i j:Array UInt8}:decide (V.byt i=V.byt j)=(i.toList==j.toList):=by
 rw[Bool.eq_iff_iff];cases i;cases j;simp
section
variable {X:Cx} {a b c:Expr} {ta tb tc:TE} {pos:Pos}
theorem bK{SK:List (Addr×Obj)}{σ:St}{H:Hp}{s:Shared}{Q:VK}{k k':Bool}(I:SO X SK σ H s)(q:Q (.bl k) H)(e:k=k'):EP X SK σ Q (.bool k') s:=by
 subst e;exact⟨.bl k,H,I,rfl,q⟩
theorem eL:h9 X (compareOp .Eq) DV:=by
 intro SK s σ H x y v u Q I rx ry h;obtain⟨hs,q⟩:=h;cases x with
 | SR =>
  cases rx;cases y with
  | SR=>cases ry;exact PySem.EqNone.eq_none_none (bK I q (by simp))
  | bl j=>cases ry;exact PySem.EqNone.eq_none_bool (bK I q (by simp))
  | int j=>obtain⟨t',rfl⟩:=ry;exact PySem.EqNone.eq_none_int (bK I q (by simp))
  | str j=>obtain⟨t',rfl⟩:=ry;exact PySem.EqNone.eq_none_str (bK I q (by simp))
  | _=>exact absurd (show false=true from hs) Bool.false_ne_true
 | bl i =>
  cases rx;cases y with
  | SR=>cases ry;exact PySem.EqNone.eq_bool_none (bK I q (by simp))
  | bl j=>cases ry;exact eq_bool (bK I q EI)
  | str j=>obtain⟨t',rfl⟩:=ry;exact PySem.EqMixed.eq_bool_str (bK I q (by simp))
  | _=>exact absurd (show false=true from hs) Bool.false_ne_true
 | int i =>
  obtain⟨t,rfl⟩:=rx;cases y with
  | SR=>cases ry;exact PySem.EqNone.eq_int_none (bK I q (by simp))
  | int j=>obtain⟨t',rfl⟩:=ry;exact eq_int (bK I q Cv)
  | str j=>obtain⟨t',rfl⟩:=ry;exact PySem.EqMixed.eq_int_str (bK I q (by simp))
  | _=>exact absurd (show false=true from hs) Bool.false_ne_true
 | str i =>
  obtain⟨t,rfl⟩:=rx;cases y with
  | SR=>cases ry;exact PySem.EqNone.eq_str_none (bK I q (by simp))
  | bl j=>cases ry;exact PySem.EqMixed.eq_str_bool (bK I q (by simp))
  | int j=>obtain⟨t',rfl⟩:=ry;exact PySem.EqMixed.eq_str_int (bK I q (by simp))
  | str j=>obtain⟨t',rfl⟩:=ry;exact eq_str (bK I q Cw)
  | _=>exact absurd (show false=true from hs) Bool.false_ne_true
 | byt i =>
  obtain⟨t,rfl⟩:=rx;cases y with
  | byt j=>obtain⟨t',rfl⟩:=ry;exact PySem.W.eq_bytes (bK I q Cu)
  | _=>exact absurd (show false=true from hs) Bool.false_ne_true
 | _=>cases y<;>exact absurd (show false=true from hs) Bool.false_ne_true
theorem xF:h9 X (compareOp .NotEq) Jt:=by
 intro SK s σ H x y v u Q I rx ry h;obtain⟨hs,q⟩:=h;cases x with
 | SR =>
  cases rx;cases y with
  | SR=>cases ry;exact PySem.EqNone.ne_none_none (bK I q (by simp))
  | bl j=>cases ry;exact PySem.EqNone.ne_none_bool (bK I q (by simp))
  | int j=>obtain⟨t',rfl⟩:=ry;exact PySem.EqNone.ne_none_int (bK I q (by simp))
  | str j=>obtain⟨t',rfl⟩:=ry;exact PySem.EqNone.ne_none_str (bK I q (by simp))
  | _=>exact absurd (show false=true from hs) Bool.false_ne_true
 | bl i =>
  cases rx;cases y with
  | SR=>cases ry;exact PySem.EqNone.ne_bool_none (bK I q (by simp))
  | bl j=>cases ry;exact ne_bool (bK I q (congrArg not EI))
  | str j=>obtain⟨t',rfl⟩:=ry;exact PySem.EqMixed.ne_bool_str (bK I q (by simp))
  | _=>exact absurd (show false=true from hs) Bool.false_ne_true
 | int i =>
  obtain⟨t,rfl⟩:=rx;cases y with
  | SR=>cases ry;exact PySem.EqNone.ne_int_none (bK I q (by simp))
  | int j=>obtain⟨t',rfl⟩:=ry;exact ne_int (bK I q (congrArg not Cv))
  | str j=>obtain⟨t',rfl⟩:=ry;exact PySem.EqMixed.ne_int_str (bK I q (by simp))
  | _=>exact absurd (show false=true from hs) Bool.false_ne_true
 | str i =>
  obtain⟨t,rfl⟩:=rx;cases y with
  | SR=>cases ry;exact PySem.EqNone.ne_str_none (bK I q (by simp))
  | bl j=>cases ry;exact PySem.EqMixed.ne_str_bool (bK I q (by simp))
  | int j=>obtain⟨t',rfl⟩:=ry;exact PySem.EqMixed.ne_str_int (bK I q (by simp))
  | str j=>obtain⟨t',rfl⟩:=ry;exact ne_str (bK I q (congrArg not Cw))
  | _=>exact absurd (show false=true from hs) Bool.false_ne_true
 | byt i =>
  obtain⟨t,rfl⟩:=rx;cases y with
  | byt j=>obtain⟨t',rfl⟩:=ry;exact PySem.W.ne_bytes (bK I q (congrArg not Cu))
  | _=>exact absurd (show false=true from hs) Bool.false_ne_true
 | _=>cases y<;>exact absurd (show false=true from hs) Bool.false_ne_true
theorem Gh:h9 X (compareOp .Lt) (Hj fun i j=>.bl (decide (i < j))):=Jj fun _ _ _ _ _ _ _ q=>lt_int q
theorem iD:h9 X (compareOp .LtE) (Hj fun i j=>.bl (decide (i<=j))):=Jj fun _ _ _ _ _ _ _ q=>le_int q
theorem Gg:h9 X (compareOp .Gt) (Hj fun i j=>.bl (decide (j < i))):=Jj fun _ _ _ _ _ _ _ q=>gt_int q
theorem Qa:h9 X (compareOp .GtE) (Hj fun i j=>.bl (decide (j<=i))):=Jj fun _ _ _ _ _ _ _ q=>ge_int q
theorem Jl:h9 X (compareOp .IsNot) (fun x y H Q=>y=.SR/\Q (.bl (!decide (x=.SR))) H):=by
 intro SK s σ H x y v u Q I rx ry h;obtain⟨rfl,q⟩:=h;cases ry;refine isnot_none_gen (bK I q ?_);cases x<;>first
  | (cases rx;rfl)
  | (obtain⟨t,rfl⟩:=rx;rfl)
theorem h9.or{f:Value->Value->Sem Value}{r r':R2}(h:h9 X f r)(h':h9 X f r'):h9 X f (fun x y H Q=>r x y H Q\/r' x y H Q):=by
 intro SK s σ H x y v u Q I rx ry q;rcases q with q|q
 ·exact h SK s σ H x y v u Q I rx ry q
 ·exact h' SK s σ H x y v u Q I rx ry q
theorem nomark(b:Expr){op:CmpOp}(h:op≠.In:=by decide)(h2:op≠.NotIn:=by decide):behindInMarks op b=false:=by
 have e1:(op==CmpOp.In)=false:=by cases op<;>first|rfl|exact absurd rfl h
 have e2:(op==CmpOp.NotIn)=false:=by cases op<;>first|rfl|exact absurd rfl h2
 cases b<;>simp[behindInMarks,e1,e2]
theorem gK{op:CmpOp}{r:R2}(ho:h9 X (compareOp op) r)(ha:PE X a ta)(hb:PE X b tb)(hm:behindInMarks op b=false):PE X (.Compare a [op] [b] pos) (QG r ta tb):=by
 intro SK s σ H Q I h;exact wpAny_Compare1 (KP ha hb I h fun v u s2 x y H2 I2 rx ry q=>ho SK s2 σ H2 x y v u Q I2 rx ry q) hm
noncomputable def C2(t:TE):TT:=fun σ H Q=>t σ H fun x H'=>∃ k,x=.bl k/\Q k H'
theorem aS{op:CmpOp}{r:R2}(ho:h9 X (compareOp op) r)(ha:PE X a ta)(hb:PE X b tb)(hm:behindInMarks op b=false):PT X (.Compare a [op] [b] pos) (C2 (QG r ta tb)):=by
 intro SK s σ H Q I h;refine wpAny_isTrue_Compare1 (thn (ha SK s σ H _ I h) fun v s1 ⟨x,H1,I1,r1,q1⟩=>thn (hb SK s1 σ H1 _ I1 q1) fun u s2 ⟨y,H2,I2,r2,q2⟩ =>
  thn (ho SK s2 σ H2 x y v u _ I2 r1 r2 q2) fun c s3 ⟨z,H3,I3,r3,k,e,q3⟩=>?_) hm
 subst e;cases r3;exact wpAny_truthy_bool ⟨H3,I3,q3⟩
noncomputable def zZ(r r':R2)(ta tb tc:TE):TE:=fun σ H Q=>ta σ H fun x H1=>tb σ H1 fun y H2=>r x y H2 fun z H3=>∃ k,z=.bl k /\
 (if k=true then tc σ H3 fun w' H4=>r' y w' H4 Q else Q (.bl false) H3)
theorem oG{op Wd:CmpOp}{r r':R2}(ho:h9 X (compareOp op) r)(Ta:h9 X (compareOp Wd) r')(ha:PE X a ta)(hb:PE X b tb)(hc:PE X c tc)
    (hm:lastMarks [op,Wd] [b,c]=false:=by with_unfolding_all rfl):PE X (.Compare a [op,Wd] [b,c] pos) (zZ r r' ta tb tc):=by
  intro SK s σ H Q I h;refine Compare_chain (thn (ha SK s σ H _ I h) fun v s1 ⟨x,H1,I1,r1,q1⟩=>chain_link (thn (hb SK s1 σ H1 _ I1 q1) fun u s2 ⟨y,H2,I2,r2,q2⟩ =>
    thn (ho SK s2 σ H2 x y v u _ I2 r1 r2 q2) fun d s3 ⟨z,H3,I3,r3,k,e,q3⟩=>?_)) hm
  subst e;cases r3;refine wpAny_truthy_bool ?_;cases k with
  | false=>exact ite_ff ⟨.bl false,H3,I3,rfl,q3⟩
  | true=>exact ite_tt (chain_last (thn (hc SK s3 σ H3 _ I3 q3) fun w' s4 ⟨z',H4,I4,r4,q4⟩=>Ta SK s4 σ H4 y z' u w' Q I4 r2 r4 q4))
theorem A0{op Wd:CmpOp}{r r':R2}(ho:h9 X (compareOp op) r)(Ta:h9 X (compareOp Wd) r')(ha:PE X a ta)(hb:PE X b tb)(hc:PE X c tc)
    (hm:lastMarks [op,Wd] [b,c]=false:=by with_unfolding_all rfl):PT X (.Compare a [op,Wd] [b,c] pos) (C2 (zZ r r' ta tb tc)):=by
  intro SK s σ H Q I h;refine isTrue_chain (thn (ha SK s σ H _ I h) fun v s1 ⟨x,H1,I1,r1,q1⟩=>test_link (thn (hb SK s1 σ H1 _ I1 q1) fun u s2 ⟨y,H2,I2,r2,q2⟩ =>
    thn (ho SK s2 σ H2 x y v u _ I2 r1 r2 q2) fun d s3 ⟨z,H3,I3,r3,k,e,q3⟩=>?_)) hm
  subst e;cases r3;refine wpAny_truthy_bool ?_;cases k with
  | false =>
    obtain⟨k',e',q'⟩:=q3;cases e';exact ite_ff ⟨H3,I3,q'⟩
  | true =>
    refine ite_tt (test_last (thn (hc SK s3 σ H3 _ I3 q3) fun w' s4 ⟨z',H4,I4,r4,q4⟩=>thn (Ta SK s4 σ H4 y z' u w' _ I4 r2 r4 q4) fun d' s5 ⟨z2,H5,I5,r5,k2,e2,q5⟩=>?_));subst e2;cases r5;exact wpAny_truthy_bool ⟨H5,I5,q5⟩
noncomputable def Oc(K:q0B)(x:V)(H:Hp)(k:Bool):Prop :=
 match x with
 | .SR=>k=false
 | .bl b=>k=b
 | .int i=>k=(i !=0)
 | .str y=>y.length<=sizeLine/\k=((y.length:Int) !=0)
 | .byt y=>y.size<=sizeLine/\k=((y.size:Int) !=0)
 | .ref p=>(∃ xs,dS K H p xs/\k = !xs.isEmpty)\/(∃ xs,fS K H p xs/\k = !xs.isEmpty)\/∃ SN,H p=some (.dK SN)/\k = !SN.isEmpty
 | _=>False
theorem Bx{κ:Type}{SN:List (κ×V)}{vs:List (κ×Value)}(r:KV SN vs):(!vs.isEmpty) = !SN.isEmpty:=by
 cases r<;>rfl
theorem tS{xs:List V}{SQ:List Value}(r:Vals xs SQ):(!SQ.toArray.isEmpty) = !xs.isEmpty:=by
 cases r<;>simp
theorem line63:(sizeLine:Nat) < 2 ^ 63:=by rw[sizeLine_eq];decide
theorem NQ:Rn X (fun x H Q=>∃ k,Oc X.K x H k/\Q k H):=by
 intro SK s σ H x v Q I rx h;obtain⟨k,e,q⟩:=h;have hl:=line63;have hs:sizeLine=16777216:=sizeLine_eq;cases x with
 | SR =>
  cases rx;have e':k=false:=e;subst e';exact truthy_none ⟨H,I,q⟩
 | bl b =>
  cases rx;have e':k=b:=e;subst e';exact wpAny_truthy_bool ⟨H,I,q⟩
 | int i =>
  obtain⟨t,rfl⟩:=rx;have e':k=(i !=0):=e;subst e';exact PySem.P.truthy_int ⟨H,I,q⟩
 | str y =>
  obtain⟨t,rfl⟩:=rx;obtain⟨hy,e'⟩:y.length<=sizeLine/\k=((y.length:Int) !=0):=e;subst e';exact PySem.P.truthy_str (by omega) ⟨H,I.tok _,q⟩
 | byt y =>
  obtain⟨t,rfl⟩:=rx;obtain⟨hy,e'⟩:y.size<=sizeLine/\k=((y.size:Int) !=0):=e;subst e';exact PySem.W.truthy_bytes (by omega) ⟨H,I.tok _,q⟩
 | ref p =>
  cases rx;have e':(∃ xs,dS X.K H p xs/\k = !xs.isEmpty)\/(∃ xs,fS X.K H p xs/\k = !xs.isEmpty)\/∃ SN,H p=some (.dK SN)/\k = !SN.isEmpty:=e;rcases e' with⟨xs,hx,e'⟩|⟨xs,hx,e'⟩|⟨SN,hx,e'⟩
  ·subst e';obtain⟨SQ,r,pl,hz⟩:=I.list hx;have hlen:=r.length;exact wpAny_truthy_list pl.isList (by simp only[List.size_toArray];omega) ⟨H,I.tok _,by rw[tS r];exact q⟩
  ·subst e';obtain⟨SQ,r,pl,hz⟩:=I.tuple hx;have hlen:=r.length;exact truthy_tuple pl (by simp only[List.size_toArray];omega) ⟨H,I.tok _,by rw[tS r];exact q⟩
  ·subst e';obtain⟨hz,hS,vs,r,m⟩:SN.length<=sizeLine/\(p==sysModules)=false/\∃ vs,KV SN vs/\s.heap.DictOf (eU X.prog X.w) p vs:=I.SS p _ hx;have hlen:SN.length=vs.length:=Paired.length r;exact wpAny_truthy_dict hS m (by omega) ⟨H,I.tok _,by rw[Bx r];exact q⟩
 | _=>exact(show False from e).elim
theorem BU:h9 X (binaryOp .Add) (fun x y H Q=>∃ i j,x=.str i/\y=.str j/\i.length+j.length<=sizeLine/\Q (.str (i++j)) H):=by
 intro SK s σ H x y v u Q I rx ry h;obtain⟨i,j,rfl,rfl,hz,q⟩:=h;obtain⟨t,rfl⟩:=rx;obtain⟨t',rfl⟩:=ry;exact add_str (fun t' tk=>⟨.str (i++j),H,I.tok _,⟨_,rfl⟩,q⟩) hz
theorem vals1{x:V}{us:List Value}(r:Vals [x] us):∃ u,us=[u]/\bJ x u:=by
 cases r with
 | cons r1 r2=>cases r2;exact⟨_,rfl,r1⟩
theorem vals2{x y:V}{us:List Value}(r:Vals [x,y] us):∃ u w',us=[u,w']/\bJ x u/\bJ y w':=by
 cases r with
 | cons r1 r2 =>
  cases r2 with
  | cons r3 r4=>cases r4;exact⟨_,_,rfl,r1,r3⟩
theorem Ex:dG X (.builtin "abs") (fun xs H Q=>∃ i,xs=[.int i]/\Q (.int (if i < 0 then -i else i)) H):=by
 intro SK s σ H xs us Q I r h;obtain⟨i,rfl,q⟩:=h;obtain⟨u,rfl,t,rfl⟩:=vals1 r;exact call_abs_int fun u tk=>⟨.int (if i < 0 then -i else i),H,I.tok _,⟨_,rfl⟩,q⟩
theorem Dj(hc:X.calm=true):dG X (.builtin "max") (fun xs H Q=>∃ i j,xs=[.int i,.int j]/\Q (.int (if j > i then j else i)) H):=by
 intro SK s σ H xs us Q I r h;obtain⟨i,j,rfl,q⟩:=h;obtain⟨u,w',rfl,⟨t,rfl⟩,⟨t',rfl⟩⟩:=vals2 r;refine max_two_ints (I.ok.hd hc) fun h' tk k=>⟨_,H,I.kept k,?_,q⟩;by_cases hj:j > i
 ·rw[if_pos hj,if_pos hj];exact⟨_,rfl⟩
 ·rw[if_neg hj,if_neg hj];exact⟨_,rfl⟩
theorem Dh:dG X (.type "int") (fun xs H Q=>(∃ i,xs=[.int i]/\Q (.int i) H)\/∃ k,xs=[.bl k]/\Q (.int (if k then 1 else 0)) H):=by
 intro SK s σ H xs us Q I r h;rcases h with⟨i,rfl,q⟩|⟨k,rfl,q⟩
 ·obtain⟨u,rfl,t,rfl⟩:=vals1 r;exact call_int_int ⟨.int i,H,I,⟨_,rfl⟩,q⟩
 ·obtain⟨u,rfl,r1⟩:=vals1 r;cases r1;exact call_int_bool ⟨.int (if k then 1 else 0),H,I.tok _,⟨_,rfl⟩,q⟩
theorem yH:dG X (.type "str") (fun xs H Q=>∃ i,xs=[.int i]/\i.natAbs.log2 < 1920/\Q (.str (toString i)) H):=by
 intro SK s σ H xs us Q I r h;obtain⟨i,rfl,hz,q⟩:=h;obtain⟨u,rfl,t,rfl⟩:=vals1 r;exact PySem.P.str_of_int hz ⟨.str _,H,I.tok _,⟨_,rfl⟩,q⟩
noncomputable def Rm(K:q0B)(x:V)(H:Hp)(n:Nat):Prop :=
 match x with
 | .str y=>y.length<=sizeLine/\n=y.length
 | .byt y=>y.size<=sizeLine/\n=y.size
 | .ref p=>(∃ xs,dS K H p xs/\n=xs.length)\/∃ xs,fS K H p xs/\n=xs.length
 | _=>False
theorem sR:dG X (.builtin "len") (fun xs H Q=>∃ x n,xs=[x]/\Rm X.K x H n/\Q (.int n) H):=by
 intro SK s σ H xs us Q I r h;obtain⟨x,n,rfl,e,q⟩:=h;obtain⟨u,rfl,rx⟩:=vals1 r;have hl:=line63;have hs:sizeLine=16777216:=sizeLine_eq;cases x with
 | str y =>
  obtain⟨t,rfl⟩:=rx;obtain⟨hy,e'⟩:y.length<=sizeLine/\n=y.length:=e;subst e';exact len_str (by omega) ⟨.int _,H,I.tok _,⟨_,rfl⟩,q⟩
 | byt y =>
  obtain⟨t,rfl⟩:=rx;obtain⟨hy,e'⟩:y.size<=sizeLine/\n=y.size:=e;subst e';exact PySem.W.len_bytes (by omega) ⟨.int _,H,I.tok _,⟨_,rfl⟩,q⟩
 | ref p =>
  cases rx;have e':(∃ xs,dS X.K H p xs/\n=xs.length)\/∃ xs,fS X.K H p xs/\n=xs.length:=e;rcases e' with⟨xs,hx,e'⟩|⟨xs,hx,e'⟩
  ·subst e';obtain⟨SQ,r',pl,hz⟩:=I.list hx;have hlen:=r'.length;exact Calls.call_len_list pl.isList (by simp only[List.size_toArray];omega) ⟨.int xs.length,H,I.tok _,⟨_,by simp only[List.size_toArray];rw[hlen]⟩,q⟩
  ·subst e';obtain⟨SQ,r',pl,hz⟩:=I.tuple hx;have hlen:=r'.length;exact len_tuple pl (by simp only[List.size_toArray];omega) ⟨.int xs.length,H,I.tok _,⟨_,by simp only[List.size_toArray];rw[hlen]⟩,q⟩
 | _=>exact(show False from e).elim
end
structure Bj(h:Heap)(x dx C:Addr)(mA:q0C):Prop where
 obj:h.get? x=some (PySem.W.instObj C dx)
 ns:h.Ns1 dx mA
 ne:dx≠x
theorem DG{h:Heap}{dx:Addr}{mA:q0C}(n:h.Ns1 dx mA):∃ od,h.get? dx=some od/\∀ name,PySem.W.lookIn name od=some (mA name):=by
 obtain⟨o,es,ep,ho,hd,hk,_,hm⟩:=n;refine⟨o,ho,fun name=>?_⟩;have e:=hm name;unfold nsFind findBy at e;rw[<- Array.find?_toList] at e;unfold PySem.W.lookIn;rw[hd];dsimp only;split
 ·rename_i y q
  rw[q] at e;exact congrArg some e
 ·rename_i q
  rw[q] at e;have a:es.toList.any (·.refKey)=false:=by
   rw[List.any_eq_false];intro y hy;obtain⟨z,t,Ze⟩:=hk y (Array.mem_toList_iff.mp hy);simp[DictEntry.refKey,Ze]
  have a':¬ es.toList.any (·.refKey)=true:=by rw[a];exact Bool.false_ne_true
  rw[if_neg a'];exact congrArg some e
theorem Bj.look{h:Heap}{x dx C:Addr}{mA:q0C}(I:Bj h x dx C mA):∃ od,PySem.W.InstAt h x (PySem.W.instObj C dx) C (some od)/\∀ name,PySem.W.lookIn name od=some (mA name) :=
 let ⟨od,ho,hl⟩:=DG I.ns
 ⟨od,⟨I.obj,rfl,rfl,ho⟩,hl⟩
section
variable {prog:Program} {w:World} {A:Around} {E:q0A} {s:Shared} {K:q0B} {x dx C f:Addr} {mA:q0C} {name:Str} {v:Value}
theorem ID{expr:Bool}{Q:q0A}(X:K.In s.heap)(I:Bj s.heap x dx C mA)(hg:PySem.W.plainGet K C name=true)(hh:PySem.W.hasDictIn K C=true)
    (ha:PySem.W.findIn K (.ref C) name=some none) (hv:mA name=some v) (hv':PySem.W.handedIn v=true) (h:Q v {s with toks:=s.toks+1}) :
    wpAny (model prog w) A (getAttr (.ref x) name expr) Q E s:=by
  obtain⟨od,J,hl⟩:=I.look;exact PySem.W.get_value X J (PySem.W.plainGet_of hg).1 (PySem.W.findObj_own hh ha rfl (by rw[hl,hv])) hv' h
theorem Fi{pl:Sem Bool}{Q:Value×List Value->Shared->Prop}(X:K.In s.heap)(I:Bj s.heap x dx C mA)(hg:PySem.W.plainGet K C name=true)
    (hf:PySem.W.findIn K (.ref C) name=some (some (.ref f))) (ht:PySem.W.isFn K (.ref f)=true) (hv:mA name=none) (h:Q (.ref f,[.ref x]) s) :
    wpAny (model prog w) A (getMethod (.ref x) name pl) Q E s:=by
  obtain⟨od,J,hl⟩:=I.look;exact PySem.W.method_fn X J (PySem.W.plainGet_of hg).1 (PySem.W.plainGet_of hg).2 hf (beq_iff_eq.mp ht) (by show(PySem.W.lookIn name od).map (·.isSome)=some false;rw[hl,hv];rfl) h
theorem Jy{ns:List Str}{Q:Unit->Shared->Prop}(X:K.In s.heap)(I:Bj s.heap x dx C mA)
    (hs:PySem.W.findIn K (.ref C) "__setattr__"=some (some (.builtin "object.__setattr__"))) (hp:PySem.W.plainOver K C=true) (ht:PySem.W.takerIn K C name=some none) (hh:PySem.W.hasDictIn K C=true)
    (hw:PySem.Within mA ns) (Zo:ns.length<=sizeLine)
    (h:∀ h',Bj h' x dx C (fun y=>if y=name then some v else mA y)->Heap.SameBut dx s.heap h'->Q () {s with heap:=h',toks:=s.toks+2}) :
    wpAny (model prog w) A (setAttr (.ref x) name v) Q E s:=by
  obtain⟨od,J,hl⟩:=I.look;refine PySem.W.set_plain X J hs (PySem.W.osa_open (s:={s with toks:=s.toks+1}) (r:=none) X J hp ht fun b=>?_);obtain⟨cd,hc,Y8⟩:=PySem.W.any_some hh;have hx:s.heap.get? x=some ⟨.ref C,some dx,.plain,#[]⟩:=I.obj;refine wpAny_bind (wpAny_pure (wpAny_bind (wpAny_bind (wpAny_loadPart hx (wpAny_bind (PySem.W.Looks.here (s:={s with toks:=s.toks+1}) (PySem.W.looks_clsIn X hc) ?_))))));rw[Y8];refine wpAny_pure (a:=some dx) (wpAny_bind (wpAny_pure (wpAny_bind ?_)));refine wpAny_nsSet1 (s:={s with toks:=s.toks+1}) I.ns fun h' UW Uh=>?_;obtain⟨oD,esD,epD,hoD,hdD,hcD⟩:=UW.count (PySem.Within.cons name v hw);refine wpAny_bind (wpAny_lookBehind hoD (by rw[hdD];exact pastItsLine_dict (Nat.le_trans hcD (by rw[List.length_cons];omega))) ?_);exact wpAny_pure (h _ ⟨(Uh.2 _ (Ne.symm I.ne)).trans I.obj,UW,I.ne⟩ Uh)
theorem FG{R:Result->Shared->Prop}{vs:List Value}{kw:List (Str×Value)}(X:K.In s.heap)(hm:PySem.W.makesIn K C=true)
    (hi:PySem.W.findIn K (.ref C) "__init__"=some (some (.ref f))) (hf:PySem.W.typeIn K (.ref f)=some (.type "function"))
    (h:codeAny (model prog w) (A.under (.builtin "type.__call__" ⟨.ref C::vs,kw⟩)) (.call (.ref f) ⟨.ref (s.heap.objs.size+1)::vs,kw⟩) (PySem.W.InitBack (s.heap.objs.size+1) R)
      {s with heap:=(s.heap.push PySem.W.emptyDict).push (PySem.W.instObj C s.heap.objs.size)}) :
    codeAny (model prog w) A (.call (.ref C) ⟨vs,kw⟩) R s:=by
  obtain⟨hh,g,d,t,os⟩:=s;exact PySem.W.make_core (PySem.W.makes_of X hm) (PySem.W.looks_findIn X hi) (fun self=>PySem.W.bind_fn X self hf) (.inl rfl) h
end
noncomputable def hZ(f:Str)(v:V):List (Str×V)->List (Str×V)
 | []=>[(f,v)]
 | (g,x)::r=>if g=f then (g,v)::r else (g,x)::hZ f v r
theorem qU(f g:Str)(v:V):∀ fs:List (Str×V),(hZ f v fs).lookup g=if g=f then some v else fs.lookup g
 | []=>by
  show List.lookup g [(f,v)]=_;by_cases h:g=f
  ·have hb:(g==f)=true:=beq_iff_eq.mpr h;simp only[List.lookup,hb,if_pos h]
  ·have hb:(g==f)=false:=beq_eq_false_iff_ne.mpr h;simp only[List.lookup,hb,if_neg h]
 | (k,x)::r=>by
  have ih:=qU f g v r;rw[show hZ f v ((k,x)::r)=(if k=f then (k,v)::r else (k,x)::hZ f v r) from rfl];by_cases hk:k=f
  ·rw[if_pos hk];by_cases h:g=k
   ·have hb:(g==k)=true:=beq_iff_eq.mpr h;simp only[List.lookup,hb,if_pos (h.trans hk)]
   ·have hb:(g==k)=false:=beq_eq_false_iff_ne.mpr h;simp only[List.lookup,hb,if_neg (fun e:g=f=>h (e.trans hk.symm))]
  ·rw[if_neg hk];by_cases h:g=k
   ·have hb:(g==k)=true:=beq_iff_eq.mpr h;simp only[List.lookup,hb,if_neg (fun e:g=f=>hk (h.symm.trans e))]
   ·have hb:(g==k)=false:=beq_eq_false_iff_ne.mpr h;simp only[List.lookup,hb];exact ih
theorem pK(f:Str)(v:V):∀ fs:List (Str×V),f∈(hZ f v fs).map (·.1)/\∀ g,g∈fs.map (·.1)->g∈(hZ f v fs).map (·.1)
 | []=>⟨by simp[hZ],fun g h=>by simp at h⟩
 | (k,x)::r=>by
  obtain⟨i1,i2⟩:=pK f v r;rw[show hZ f v ((k,x)::r)=(if k=f then (k,v)::r else (k,x)::hZ f v r) from rfl];by_cases hk:k=f
  ·rw[if_pos hk];subst hk;exact⟨by simp,fun g h=>by simpa using h⟩
  ·rw[if_neg hk];refine⟨?_,fun g h=>?_⟩
   ·rw[List.map_cons];exact List.mem_cons_of_mem _ i1
   ·rw[List.map_cons] at h ⊢;rcases List.mem_cons.mp h with e|e
    ·exact List.mem_cons.mpr (.inl e)
    ·exact List.mem_cons_of_mem _ (i2 g e)
theorem qT(f:Str)(v:V):∀ fs:List (Str×V),(hZ f v fs).length<=fs.length+1
 | []=>by simp[hZ]
 | (k,x)::r=>by
  have ih:=qT f v r;rw[show hZ f v ((k,x)::r)=(if k=f then (k,v)::r else (k,x)::hZ f v r) from rfl];by_cases hk:k=f
  ·rw[if_pos hk,List.length_cons,List.length_cons];omega
  ·rw[if_neg hk,List.length_cons,List.length_cons];omega
theorem l9.some_of{v:V}{o:Option Value}(r:l9 (some v) o):∃ u,o=some u/\bJ v u:=by
 cases o with
 | none=>exact(show False from r).elim
 | some u=>exact⟨u,rfl,r⟩
theorem l9.none_of{o:Option Value}(r:l9 none o):o=none:=by
 cases o with
 | none=>rfl
 | some u=>exact(show False from r).elim
theorem Dy{v:V}{u:Value}(r:bJ v u):PySem.W.handedIn u=true:=by
 cases v with
 | SR=>cases (show u=Value.none from r);rfl
 | bl b=>cases (show u=Value.bool b from r);rfl
 | int i=>obtain⟨t,e⟩:=(show ∃ t,u=Value.int i t from r);cases e;rfl
 | str x=>obtain⟨t,e⟩:=(show ∃ t,u=Value.str x t from r);cases e;rfl
 | byt b=>obtain⟨t,e⟩:=(show ∃ t,u=Value.bytes b t from r);cases e;rfl
 | flt b=>obtain⟨t,e⟩:=(show ∃ t,u=Value.float b t from r);cases e;rfl
 | ref a=>cases (show u=Value.ref a from r);rfl
 | ty n=>cases (show u=Value.type n from r);rfl
section
variable {P:Program} {w:World} {H H':Hp} {h h':Heap} {a C dx:Addr} {fs Vg:List (Str×V)}
theorem yU(SS:HOk P w H h)(e:H a=some (.ins C dx fs)):∃ mA,Bj h a dx C mA/\(∀ f,l9 (fs.lookup f) (mA f))/\PySem.Within mA (fs.map (·.1))/\fs.length<=1000/\H dx=some (.own a):=by
 obtain⟨d,z,ne,ob,mA,n,r,q⟩:=(show dU P w H h a (.ins C dx fs) from SS a _ e);exact⟨mA,⟨ob,n,ne⟩,r,q,z,d⟩
end
structure Cls(K:q0B)(C:Addr):Prop where
 pg:PySem.W.plainGet K C Str.empty=true
 hd:PySem.W.hasDictIn K C=true
 po:PySem.W.plainOver K C=true
 sa:PySem.W.findIn K (.ref C) "__setattr__"=some (some (.builtin "object.__setattr__"))
theorem Cls.get{K:q0B}{C:Addr}(c:Cls K C)(f:Str):PySem.W.plainGet K C f=true:=c.pg
noncomputable def iR(K:q0B)(C:Addr)(f:Str):Prop:=PySem.W.findIn K (.ref C) f=some none
theorem iR.QO{K:q0B}{C:Addr}{f:Str}(n:iR K C f):PySem.W.takerIn K C f=some none:=by
 unfold PySem.W.takerIn;rw[show PySem.W.findIn K (.ref C) f=some none from n];rfl
structure Meth(K:q0B)(C:Addr)(m:Str)(f:Addr):Prop where
 at_:PySem.W.findIn K (.ref C) m=some (some (.ref f))
 fn:PySem.W.isFn K (.ref f)=true
 kp:PySem.W.keepIn K (.ref f)=true
section
variable {X:Cx} {SK:List (Addr×Obj)} {σ:St} {H:Hp} {s:Shared} {a C dx:Addr} {fs:List (Str×V)} {f:Str} {v:V} {A:Around} {E:q0A}
theorem tO{b:Bool}{Q:q0A}(I:SO X SK σ H s)(e:H a=some (.ins C dx fs))(c:Cls X.K C)(n:iR X.K C f)(l:fs.lookup f=some v)
    (h:∀ u s',SO X SK σ H s'->bJ v u->Q u s'):wpAny (model X.prog X.w) A (getAttr (.ref a) f b) Q E s:=by
  obtain⟨mA,O,r,_,_,_⟩:=yU I.SS e;obtain⟨u,hu,ru⟩:=l9.some_of (v:=v) (o:=mA f) (by rw[<- l];exact r f);exact ID I.kIn O (c.get f) c.hd n hu (Dy ru) (h u _ (I.tok _) ru)
theorem tP{m:Str}{g:Addr}{pl:Sem Bool}{Q:Value×List Value->Shared->Prop}(I:SO X SK σ H s)(e:H a=some (.ins C dx fs))(c:Cls X.K C)(k:Meth X.K C m g)(l:fs.lookup m=none)
    (h:Q (.ref g,[.ref a]) s):wpAny (model X.prog X.w) A (getMethod (.ref a) m pl) Q E s:=by
  obtain⟨mA,O,r,_,_,_⟩:=yU I.SS e;have hn:mA m=none:=l9.none_of (by rw[<- l];exact r m);exact Fi I.kIn O (c.get m) k.at_ k.fn hn h
theorem uS{y:V}{u:Value}{Q:Unit->Shared->Prop}(I:SO X SK σ H s)(e:H a=some (.ins C dx fs))(c:Cls X.K C)(n:iR X.K C f)(hl:fs.length < 1000)(ry:bJ y u)
    (h:∀ s',SO X SK σ (SM H a (.ins C dx (hZ f y fs))) s'->Q () s'):wpAny (model X.prog X.w) A (setAttr (.ref a) f u) Q E s:=by
  obtain⟨mA,O,r,wi,_,ho⟩:=yU I.SS e;have hz:(fs.map (·.1)).length<=sizeLine:=by rw[List.length_map,sizeLine_eq];omega
  refine Jy I.kIn O c.sa c.po n.QO c.hd wi hz fun h' O' sb=>h _ ?_;have hd:∃ o,h'.get? dx=some o:=let ⟨o,_,_,e',_⟩:=O'.ns;⟨o,e'⟩;refine I.write (x:=a) (e:=dx) (by rw[e];exact True.intro) (.inr ho) (fun b q hb z=>(sb.2 b hb).trans z) hd ?_;refine⟨by rw[aY O.ne];exact ho,?_,O.ne,O'.obj,_,O'.ns,fun g=>?_,fun g hg=>?_⟩
  · have:=qT f y fs;omega
  · show l9 ((hZ f y fs).lookup g) (if g=f then some u else mA g);rw[qU];by_cases q:g=f
    · rw[if_pos q,if_pos q];exact ry
    · rw[if_neg q,if_neg q];exact r g
  · by_cases q:g=f
    · rw[q];exact(pK f y fs).1
    · refine(pK f y fs).2 g (wi g fun z=>hg ?_);show(if g=f then some u else mA g)=none;rw[if_neg q];exact z
theorem SO.made(I:SO X SK σ H s):SO X SK σ (SM (SM H s.heap.objs.size (.own (s.heap.objs.size+1))) (s.heap.objs.size+1) (.ins C s.heap.objs.size []))
    {s with heap:=(s.heap.push PySem.W.emptyDict).push (PySem.W.instObj C s.heap.objs.size)}:=by
  have e1:(s.heap.push PySem.W.emptyDict).get? s.heap.objs.size=some PySem.W.emptyDict:=Heap.get?_push_size s.heap rfl;have e2:((s.heap.push PySem.W.emptyDict).push (PySem.W.instObj C s.heap.objs.size)).get? (s.heap.objs.size+1)=some (PySem.W.instObj C s.heap.objs.size):=by
    have:=Heap.get?_push_size (s.heap.push PySem.W.emptyDict) (o:=PySem.W.instObj C s.heap.objs.size) rfl
    rwa [Heap.size_push] at this
  have e3:(s.heap.push PySem.W.emptyDict).Ns s.heap.objs.size (fun _=>none):=⟨PySem.W.emptyDict,#[],_,e1,rfl,(fun e he=>absurd he (by simp)),fun _=>rfl⟩;have I1:=I.laid (a:=s.heap.objs.size) (o:=.own (s.heap.objs.size+1)) (h':=s.heap.push PySem.W.emptyDict) (t':=s.toks) (fun b u q=>Heap.get?_push_of_some _ q) (Nat.le_refl _) ⟨_,e1⟩;refine I1.laid (a:=s.heap.objs.size+1) (o:=.ins C s.heap.objs.size []) (t':=s.toks) (fun b u q=>Heap.get?_push_of_some _ q) (Nat.le_of_eq (Heap.size_push _ _)) ?_;have ne:s.heap.objs.size≠s.heap.objs.size+1:=Nat.ne_of_lt (Nat.lt_succ_self _);refine⟨by rw[aY ne,aB],Nat.zero_le _,ne,e2,fun _=>none,(Heap.Ns1.of_empty e3).at fun o q=>Heap.get?_push_of_some _ q,fun _=>True.intro,fun y hy=>absurd rfl hy⟩
theorem Ht{prog:Program}{w:World}{env:Env}{e:Expr}{f:Str}{pos:Pos}{s:Shared}{Q:q0A}(hb:attributeBase e f env (eval e env)=eval e env)
    (h:wpAny (model prog w) A (eval e env) (fun o s₁=>wpAny (model prog w) A (getAttr o f true) Q E s₁) E s):wpAny (model prog w) A (eval (.Attribute e f pos) env) Q E s :=
  Attribute_any_ h (by rw[arm_eval_Attribute,hb])
end
noncomputable def Rl(X:Cx)(op:Operator)(rd:V->V->Hp->VK->Prop):Prop :=
 ∀(SK:List (Addr×Obj)) (s:Shared) (σ:St) (H:Hp) (x y:V) (u v:Value) (Q:VK),SO X SK σ H s->bJ x u->bJ y v->rd x y H Q->wpAny (model X.prog X.w) X.A (inplaceOp op u v) (EP X SK σ Q) X.xe s
section
variable {X:Cx} {o e value:Expr} {f:Str} {pos pos' Wf:Pos} {ta tv:TE}
noncomputable def Sd:V->V->Hp->VK->Prop:=fun x y H Q=>∃ i j,x=.int i/\y=.int j/\Q (.int (i+j)) H
theorem MP:Rl X .Add Sd:=by
 rintro SK s σ H x y u v Q I rx ry ⟨i,j,rfl,rfl,q⟩;obtain⟨t,rfl⟩:=(show ∃ t,u=Value.int i t from rx);obtain⟨t',rfl⟩:=(show ∃ t',v=Value.int j t' from ry);exact PyProof.Rows.iadd_int ⟨.int (i+j),H,I.tok _,⟨_,rfl⟩,q⟩
end
section
variable {X:Cx} {SK:List (Addr×Obj)} {σ:St} {H:Hp} {s:Shared} {A:Around} {E:q0A} {Q:q0A} {c:Value} {b:Bool}
end
structure Room(k:Nat)(A:Around):Prop where
 hd:A.handled=none
 dp:A.depth+3 * k+5 < recursionLimit
 un:A.units+16 * k+200 < cLine
theorem Room.mono{j k:Nat}{A:Around}(r:Room k A)(h:j<=k):Room j A:=⟨r.hd,by have:=r.dp;omega,by have:=r.un;omega⟩
theorem Room.deeper{k:Nat}{A:Around}(r:Room (k+1) A)(env:Env):Room k (A.deeper env) :=
 ⟨r.hd,by have:=r.dp;show A.depth+1+3 * k+5 < _;omega,by have:=r.un;show A.units+3+16 * k+200 < _;omega⟩
theorem Room.in1{k:Nat}{A:Around}(r:Room (k+1) A):Room k A.in1 :=
 ⟨r.hd,by have:=r.dp;show A.depth+3 * k+5 < _;omega,by have:=r.un;show A.units+1+16 * k+200 < _;omega⟩
theorem BC{A:Around}{C:Addr}{us:List Value}{kw:List (Str×Value)}:(A.under (.builtin "type.__call__" ⟨.ref C::us,kw⟩)).depth=A.depth+1:=by
 first|rfl|simp[Around.under,Code.weight,Code.isCreation,Code.isGuard,Code.isCaller,Code.frames,Code.isFrame,guardIds]
theorem BD{A:Around}{C:Addr}{us:List Value}{kw:List (Str×Value)}:(A.under (.builtin "type.__call__" ⟨.ref C::us,kw⟩)).units=A.units+1:=by
 first|rfl|simp[Around.under,Code.cUnits,Code.frames,Code.isFrame]
theorem Room.make{k:Nat}{A:Around}(r:Room (k+1) A)(C:Addr)(us:List Value)(kw:List (Str×Value)):Room k (A.under (.builtin "type.__call__" ⟨.ref C::us,kw⟩)) :=
 ⟨r.hd,by have:=r.dp;rw[BC];omega,by have:=r.un;rw[BD];omega⟩
theorem Room.depth{k:Nat}{A:Around}(r:Room k A):A.depth < recursionLimit:=by have:=r.dp;omega
theorem Room.units{k:Nat}{A:Around}(r:Room k A):A.units+64 < cLine:=by have:=r.un;omega
noncomputable def GU:TA:=fun _ H Q=>Q [] H
noncomputable def Bb(ta:TE)(tr:TA):TA:=fun σ H Q=>ta σ H fun x H1=>tr σ H1 fun xs H2=>Q (x::xs) H2
section
variable {X:Cx} {e:Expr} {es:List Expr} {te:TE} {t:TA} {pos:Pos}
theorem aA:PA X [] GU:=fun _ _ _ _ H Q I h=>Calls.spliced_nil ⟨[],H,I,.nil,h⟩
theorem CQ(ha:PE X e te)(hr:PA X es t)(hs:starEach (e::es) X.env=(false,eval e X.env)::starEach es X.env:=by rfl):PA X (e::es) (Bb te t):=by
 intro pos SK s σ H Q I h;rw[hs];show wpAny _ _ (spliced ((false,eval e X.env)::backTo pos (starEach es X.env))) _ _ s;refine Calls.spliced_cons (thn (ha SK s σ H _ I h) fun u s1 ⟨x,H1,I1,r1,q1⟩=>?_);exact thn (hr pos SK s1 σ H1 _ I1 q1) fun us s2 ⟨xs,H2,I2,r2,q2⟩=>⟨x::xs,H2,I2,.cons r1 r2,q2⟩
noncomputable def QL(t:TA):TE:=fun σ H Q=>t σ H fun xs H1=>xs.length<=sizeLine/\∀ p,H1 p=none->Q (.ref p) (SM H1 p (.tup xs))
noncomputable def QE(t:TA):TE:=fun σ H Q=>t σ H fun xs H1=>xs.length<=sizeLine/\∀ p,H1 p=none->Q (.ref p) (SM H1 p (.lst xs))
theorem aL{x1}(h:PA X es t):PE X (.Tuple es x1 pos) (QL t):=by
 intro SK s σ H Q I hq;refine wpAny_Tuple_spliced (thn (h pos SK s σ H _ I hq) fun us s1 ⟨xs,H1,I1,r,z,q⟩=>⟨by rw[<- r.length];exact z,?_⟩);have hf:H1 s1.heap.objs.size=none:=I1.SS.fresh (Nat.le_refl _);refine⟨.ref s1.heap.objs.size,SM H1 s1.heap.objs.size (.tup xs),I1.laid (t':=s1.toks) (fun b u e=>Heap.get?_push_of_some _ e) (Nat.le_refl _) ?_,rfl,q _ hf⟩;exact⟨z,us,r,⟨_,Heap.get?_push_size _ rfl,rfl,_,rfl⟩⟩
theorem gC(h:PA X es t):PE X (.List es pos) (QE t):=by
 intro SK s σ H Q I hq;refine wpAny_List_spliced (thn (h pos SK s σ H _ I hq) fun us s1 ⟨xs,H1,I1,r,z,q⟩=>⟨by rw[<- r.length];exact z,?_⟩);have hf:H1 s1.heap.objs.size=none:=I1.SS.fresh (Nat.le_refl _);refine⟨.ref s1.heap.objs.size,SM H1 s1.heap.objs.size (.lst xs),I1.laid (t':=s1.toks) (fun b u e=>Heap.get?_push_of_some _ e) (Nat.le_refl _) ?_,rfl,q _ hf⟩;exact⟨z,us,0,r,Heap.get?_push_size _ rfl⟩
end
noncomputable abbrev Sp:=List V->Hp->VK->XK->Prop
noncomputable abbrev CXT:=List Env->Hp->Shared->XK->Value->Shared->Prop
structure Env0(P:Program)(w:World)(K:q0B)(mg:q0C)(base:Heap)(A:Around)(outer:List Env)(s:Shared)(H:Hp):Prop where
 frames:A.frames=some outer
 mod:Mod K mg base
 bs:∀ b o,base.get? b=some o->s.heap.get? b=some o/\H b=none
 bsz:base.objs.size<=s.heap.objs.size
 mC:s.heap.FunFrames base outer
 frf:∀ b∈frs outer,H b=none
 SS:HOk P w H s.heap
 bare:AllBare s.gens
noncomputable def CE(outer:List Env)(P:Program)(w:World)(H:Hp)(s:Shared)(Q:VK)(u:Value)(s':Shared):Prop :=
 ∃ v H',s'.os=s.os/\AllBare s'.gens/\Un (frs outer) [] H H' s.heap s'.heap/\HOk P w H' s'.heap/\bJ v u/\Q v H'
noncomputable def CR(CX:CXT)(outer:List Env)(P:Program)(w:World)(H:Hp)(s:Shared)(Q:VK)(E:XK)(r:Result)(s':Shared):Prop :=
 match r with
 | .ok (.ret u)=>CE outer P w H s Q u s'
 | .ok _=>False
 | .error e=>CX outer H s E e s'
structure bL(P:Program)(w:World)(K:q0B)(mg:q0C)(base:Heap)(CX:CXT)(k:Nat)(f:Addr)(fd:FuncData)(ps:List Str)(sp:Sp):Prop where
 len:∀ vs H Q E,sp vs H Q E->vs.length=ps.length
 run:∀(A:Around) (outer:List Env) (s:Shared) (H:Hp) (args:Args) (us:List Value) (vs:List V) (Q:VK) (E:XK),Room k A->Env0 P w K mg base A outer s H->BindsTo s fd args (ps.zip us)->Vals vs us->sp vs H Q E ->
  codeAny (model P w) A (.call (.ref f) args) (CR CX outer P w H s Q E) s
theorem bL.mono{P:Program}{w:World}{K:q0B}{mg:q0C}{base:Heap}{CX:CXT}{j k:Nat}{f:Addr}{fd:FuncData}{ps:List Str}{sp:Sp}(F:bL P w K mg base CX j f fd ps sp)(h:j<=k) :
    bL P w K mg base CX k f fd ps sp:=⟨F.len,fun A outer s H args us vs Q E hr=>F.run A outer s H args us vs Q E (hr.mono h)⟩
theorem bL.imp{P:Program}{w:World}{K:q0B}{mg:q0C}{base:Heap}{CX:CXT}{k:Nat}{f:Addr}{fd:FuncData}{ps:List Str}{sp sp':Sp}(F:bL P w K mg base CX k f fd ps sp)
    (h:∀ vs H Q E,sp' vs H Q E->sp vs H Q E):bL P w K mg base CX k f fd ps sp' :=
  ⟨fun vs H Q E q=>F.len vs H Q E (h _ _ _ _ q),fun A outer s H args us vs Q E hr he hb hv hs=>F.run A outer s H args us vs Q E hr he hb hv (h _ _ _ _ hs)⟩
theorem Env0.make{P:Program}{w:World}{K:q0B}{mg:q0C}{base:Heap}{A:Around}{outer:List Env}{s:Shared}{H:Hp}(e:Env0 P w K mg base A outer s H)(C:Addr)(us:List Value)(kw:List (Str×Value)) :
    Env0 P w K mg base (A.under (.builtin "type.__call__" ⟨.ref C::us,kw⟩)) outer s H:=⟨by first|exact e.frames|(simpa[Around.under,Code.envs,Code.isFrame,pushEnvs] using e.frames),e.mod,e.bs,e.bsz,e.mC,e.frf,e.SS,e.bare⟩
theorem Env0.in1{P:Program}{w:World}{K:q0B}{mg:q0C}{base:Heap}{A:Around}{outer:List Env}{s:Shared}{H:Hp}(e:Env0 P w K mg base A outer s H) :
    Env0 P w K mg base A.in1 outer s H:=⟨e.frames,e.mod,e.bs,e.bsz,e.mC,e.frf,e.SS,e.bare⟩
section
variable {X:Cx} {SK:List (Addr×Obj)} {σ:St} {H:Hp} {s s':Shared}
theorem SO.MH(I:SO X SK σ H s):Env0 X.prog X.w X.K X.mg X.base X.A X.stack s H :=
 ⟨I.ok.frames,I.ok.mod,I.bs,Nat.le_trans I.ok.bsz I.sz,I.stack,I.zY,I.SS,I.bare⟩
theorem SO.after{Q:VK}{u:Value}(I:SO X SK σ H s)(h:CE X.stack X.prog X.w H s Q u s'):EP X SK σ Q u s':=by
 obtain⟨v,H',os,bare,un,SS,r,q⟩:=h;obtain⟨hh,g,d,t,os'⟩:=s';obtain rfl:os'=s.os:=os;exact⟨v,H',I.call (h':=hh) (g':=g) (d':=d) (t':=t) (ch:=[]) un SS bare (fun b z=>absurd z (by simp)),r,q⟩
end
noncomputable def GP(sp:Sp)(Th:List V)(E:XK)(t:TA):TE:=fun σ H Q=>t σ H fun vs H1=>sp (vs++Th) H1 Q E
noncomputable def C0(C:Addr)(m:Str)(sp:Sp)(Th:List V)(E:XK)(ta:TE)(t:TA):TE:=fun σ H Q=>ta σ H fun x H1=>∃ a dx fs,x=.ref a/\H1 a=some (.ins C dx fs)/\fs.lookup m=none /\
 t σ H1 fun vs H2=>sp (x::(vs++Th)) H2 Q E
noncomputable def GS(C:Addr)(sp:Sp)(Th:List V)(E:XK)(t:TA):TE:=fun σ H Q=>t σ H fun vs H1=>∀ x dx,H1 x=none->H1 dx=none->dx≠x ->
 sp (.ref x::(vs++Th)) (SM (SM H1 dx (.own x)) x (.ins C dx [])) (fun v H2=>v=.SR/\Q (.ref x) H2) E
noncomputable def Binds(K:q0B)(fd:FuncData)(ps:List Str)(ds:List Value):Prop :=
 ∀(s:Shared) (us:List Value),K.In s.heap->(us++ds).length=ps.length->BindsTo s fd ⟨us,[]⟩ (ps.zip (us++ds))
theorem Binds.all{K:q0B}{fd:FuncData}{ps:List Str}(h:∀ us:List Value,us.length=ps.length->bindArgs fd ⟨us,[]⟩=pure (ps.zip us)):Binds K fd ps []:=fun s us _ hl=>by
 rw[List.append_nil] at hl ⊢;exact .of_eq (h us hl)
noncomputable def Passes(CX:CXT)(X:Cx)(E:XK):Prop:=∀(SK:List (Addr×Obj)) (σ:St) (H:Hp) (s:Shared) (e:Value) (s':Shared),SO X SK σ H s->CX X.stack H s E e s'->X.xe e s'
section
variable {X:Cx} {CX:CXT} {k:Nat} {f C:Addr} {fd:FuncData} {ps:List Str} {sp:Sp} {Th:List V} {ds:List Value} {E:XK} {x m:Str} {p pos apos:Pos} {e o:Expr} {es:List Expr} {ta:TE} {t:TA}
theorem B7{SK:List (Addr×Obj)}{σ:St}{H:Hp}{s:Shared}{Q:VK}{us:List Value}{vs:List V}(F:bL X.prog X.w X.K X.mg X.base CX k f fd ps sp)(hr:Room k X.A)(hb:Binds X.K fd ps ds)(hd:Vals Th ds)(hx:Passes CX X E)
    (I:SO X SK σ H s) (r:Vals vs us) (h:sp (vs++Th) H Q E):wpAny (model X.prog X.w) X.A (call (.ref f) us) (EP X SK σ Q) X.xe s:=by
  have r2:Vals (vs++Th) (us++ds):=r.append hd;have hl:(us++ds).length=ps.length:=by rw[<- r2.length];exact F.len _ _ _ _ h
  refine wpAny_call (codeAny_mono (F.run X.A X.stack s H ⟨us,[]⟩ (us++ds) (vs++Th) Q E hr I.MH (hb s us I.kIn hl) r2 h) fun r s' hq=>?_);cases r with
  | error e=>exact hx SK σ H s e s' I hq
  | ok fl =>
    cases fl with
    | ret u=>exact I.after hq
    | next=>exact False.elim hq
    | brk=>exact False.elim hq
    | cont=>exact False.elim hq
theorem aK(F:bL X.prog X.w X.K X.mg X.base CX k f fd ps sp)(hr:Room k X.A)(hg:Gl X x)(hm:X.mg x=some (.ref f))(hk:PySem.W.keepIn X.K (.ref f)=true)(hb:Binds X.K fd ps ds)(hd:Vals Th ds)(hx:Passes CX X E)
    (ha:PA X (e::es) t) (Ug:(x==("__debug__":Str))=false:=by decide) (he:starEach (e::es) X.env=(false,eval e X.env)::starEach es X.env:=by rfl) (TQ:(backTo pos (starEach es X.env)).any (·.1)=false:=by rfl) :
    PE X (.Call (.Name x p) (e::es) [] pos) (GP sp Th E t):=by
  intro SK s σ H Q I h;refine wpAny_Call_Name_kw (lY I hg hm ?_ Ug);refine PySem.W.callWith_K (h₀:=X.base) I.ok.mod.kin hk (thn (ha pos SK s σ H _ I h) fun us s1 ⟨vs,H1,I1,r,q⟩=>⟨I1.kIn,?_⟩) he TQ;exact B7 F hr hb hd hx I1 r q
theorem l4{pl:Sem Bool}(he:PE X o ta)(c:Cls X.K C)(hm:Meth X.K C m f)(F:bL X.prog X.w X.K X.mg X.base CX k f fd ps sp)(hr:Room k X.A)(hb:Binds X.K fd ps ds)(hd:Vals Th ds)(hx:Passes CX X E)(ha:PA X (e::es) t)
    (TF:starEach (e::es) X.env=(false,eval e X.env)::starEach es X.env:=by rfl) (TQ:(backTo pos (starEach es X.env)).any (·.1)=false:=by rfl)
    (ht:eval (.Call (.Attribute o m apos) (e::es) [] pos) X.env=(do
      let ov <- eval o X.env
      standAt apos.atName
      let (f,first) <- holding [ov] (getMethod ov m pl)
      callWith pos f first (backTo pos (starEach (e::es) X.env)) (backToKw pos (keywordEach [] X.env))):=by rfl) :
    PE X (.Call (.Attribute o m apos) (e::es) [] pos) (C0 C m sp Th E ta t):=by
  intro SK s σ H Q I h;refine PySem.W.methodCall_KW (pl:=pl) (thn (he SK s σ H _ I h) fun u s1 ⟨x,H1,I1,rx,a,dx,fs,ex,ea,l,q⟩=>?_) ht;subst ex;obtain rfl:u=Value.ref a:=rx;refine tP I1 ea c hm l ?_;refine PySem.W.callWith_K (first:=[.ref a]) (h₀:=X.base) I.ok.mod.kin hm.kp (thn (ha pos SK s1 σ H1 _ I1 q) fun us s2 ⟨vs,H2,I2,r,q2⟩=>⟨I2.kIn,?_⟩) TF TQ
  exact B7 (us:=.ref a::us) (vs:=.ref a::vs) F hr hb hd hx I2 (.cons rfl r) q2
theorem lC{pl:Sem Bool}(he:PE X o ta)(c:Cls X.K C)(hm:Meth X.K C m f)(F:bL X.prog X.w X.K X.mg X.base CX k f fd ps sp)(hr:Room k X.A)(hb:Binds X.K fd ps ds)(hd:Vals Th ds)(hx:Passes CX X E)
    (ht:eval (.Call (.Attribute o m apos) [] [] pos) X.env=(do
      let ov <- eval o X.env
      standAt apos.atName
      let (f,first) <- holding [ov] (getMethod ov m pl)
      callWith pos f first (backTo pos (starEach [] X.env)) (backToKw pos (keywordEach [] X.env))):=by rfl) :
    PE X (.Call (.Attribute o m apos) [] [] pos) (C0 C m sp Th E ta GU):=by
  intro SK s σ H Q I h;refine PySem.W.methodCall_KW (pl:=pl) (thn (he SK s σ H _ I h) fun u s1 ⟨x,H1,I1,rx,a,dx,fs,ex,ea,l,q⟩=>?_) ht;subst ex;obtain rfl:u=Value.ref a:=rx;refine tP I1 ea c hm l ?_;exact PySem.W.callWith_K0 (first:=[.ref a]) I1.kIn hm.kp (B7 (us:=[.ref a]) (vs:=[.ref a]) F hr hb hd hx I1 (.cons rfl .nil) q)
structure Mk(K:q0B)(C f:Addr):Prop where
 makes:PySem.W.makesIn K C=true
 init:PySem.W.findIn K (.ref C) "__init__"=some (some (.ref f))
 fn:PySem.W.isFn K (.ref f)=true
 kp:PySem.W.keepIn K (.ref C)=true
theorem GA{SK:List (Addr×Obj)}{σ:St}{H:Hp}{s:Shared}{Q:VK}{us:List Value}{vs:List V}(M:Mk X.K C f)(F:bL X.prog X.w X.K X.mg X.base CX k f fd ps sp)(hr:Room (k+1) X.A)(hb:Binds X.K fd ps ds)(hd:Vals Th ds)
    (hx:Passes CX X E) (I:SO X SK σ H s) (r:Vals vs us)
    (h:∀ x dx,H x=none->H dx=none->dx≠x->sp (.ref x::(vs++Th)) (SM (SM H dx (.own x)) x (.ins C dx [])) (fun v H2=>v=.SR/\Q (.ref x) H2) E) :
    wpAny (model X.prog X.w) X.A (call (.ref C) us) (EP X SK σ Q) X.xe s:=by
  have hq:=h (s.heap.objs.size+1) s.heap.objs.size (I.SS.fresh (Nat.le_succ _)) (I.SS.fresh (Nat.le_refl _)) (Nat.ne_of_lt (Nat.lt_succ_self _));have I2:=SO.made (C:=C) I;have r2:Vals (V.ref (s.heap.objs.size+1)::(vs++Th)) (Value.ref (s.heap.objs.size+1)::(us++ds)):=.cons rfl (r.append hd);have hl:(Value.ref (s.heap.objs.size+1)::us++ds).length=ps.length:=by
    have e:=r2.length;rw[F.len _ _ _ _ hq] at e;exact e.symm
  refine wpAny_call (FG (f:=f) I.kIn M.makes M.init (beq_iff_eq.mp M.fn) (codeAny_mono (F.run _ X.stack _ _ ⟨Value.ref (s.heap.objs.size+1)::us,[]⟩ (Value.ref (s.heap.objs.size+1)::(us++ds)) _ _ E (hr.make C us [])
    (I2.MH.make C us []) (hb _ (Value.ref (s.heap.objs.size+1)::us) I2.kIn hl) r2 hq) fun r s' WW=>?_))
  cases r with
  | error e=>exact hx SK σ _ _ e s' I2 WW
  | ok fl =>
    cases fl with
    | ret u =>
      obtain⟨v,H',I3,rv,ev,q3⟩:=I2.after WW;subst ev;exact⟨rv,⟨V.ref (s.heap.objs.size+1),H',I3,rfl,q3⟩⟩
    | next=>exact False.elim WW
    | brk=>exact False.elim WW
    | cont=>exact False.elim WW
theorem Jm(M:Mk X.K C f)(F:bL X.prog X.w X.K X.mg X.base CX k f fd ps sp)(hr:Room (k+1) X.A)(hg:Gl X x)(hm:X.mg x=some (.ref C))(hb:Binds X.K fd ps ds)(hd:Vals Th ds)(hx:Passes CX X E)
    (ha:PA X (e::es) t) (Ug:(x==("__debug__":Str))=false:=by decide) (he:starEach (e::es) X.env=(false,eval e X.env)::starEach es X.env:=by rfl) (TQ:(backTo pos (starEach es X.env)).any (·.1)=false:=by rfl) :
    PE X (.Call (.Name x p) (e::es) [] pos) (GS C sp Th E t):=by
  intro SK s σ H Q I h;refine wpAny_Call_Name_kw (lY I hg hm ?_ Ug);refine PySem.W.callWith_K (h₀:=X.base) I.ok.mod.kin M.kp (thn (ha pos SK s σ H _ I h) fun us s1 ⟨vs,H1,I1,r,q⟩=>⟨I1.kIn,?_⟩) he TQ;exact GA M F hr hb hd hx I1 r q
end
section
variable {X:Cx} {CX:CXT} {k:Nat} {f C:Addr} {fd:FuncData} {ps ks:List Str} {sp:Sp} {E:XK} {x m:Str} {p pos apos aaE:Pos} {e o:Expr} {es:List Expr} {kws:List Keyword} {te ta:TE} {t tk:TA} {nm:Option Str}
variable {g:List Value->List Value->List Value} {gV:List V->List V->List V}
end
structure bA(N P:List Str)(sc:Scope):Prop where
 kind:sc.kind=.function
 co:sc.isCoroutine=false
 gen:sc.isGenerator=false
 nd:N.Nodup
 pre:N.take P.length=P
 par:∀ x∈P,sc.names.lookup x=some .local\/sc.names.lookup x=some .cell
 uC:∀ y∈sc.names,y.2≠.free
theorem wH{kindOf:Str->Option NameKind}{x:Str}:∀ {binds:List (Str×Value)} {m:q0C},(∀ v,(x,v)∉binds)->bindL kindOf binds m x=m x
 | [],_,_=>rfl
 | (n,v)::r,m,h=>by
  unfold bindL;rw[wH fun w hw=>h w (List.mem_cons_of_mem _ hw)];split
  ·have:x≠n:=by rintro rfl;exact h v List.mem_cons_self
   simp[this]
  ·rfl
theorem wF{kindOf:Str->Option NameKind}{x:Str}:∀ {binds:List (Str×Value)} {m:q0C},(∀ v,(x,v)∉binds)->bindC kindOf binds m x=m x
 | [],_,_=>rfl
 | (n,v)::r,m,h=>by
  unfold bindC;rw[wF fun w hw=>h w (List.mem_cons_of_mem _ hw)];split
  ·rfl
  ·have:x≠n:=by rintro rfl;exact h v List.mem_cons_self
   simp[this]
theorem wG{kindOf:Str->Option NameKind}{x:Str}{v:Value}:∀ {P:List Str} {vs:List Value} {i:Nat} {m:q0C},P.Nodup->P[i]?=some x->vs[i]?=some v->kindOf x=some .local ->
    bindL kindOf (P.zip vs) m x=some v
  | [],_,_,_,_,h,_,_=>by simp at h
  | _::_,[],_,_,_,_,h,_=>by simp at h
  | p::P,w::vs,0,m,nd,h1,h2,hk=>by
    simp at h1 h2;subst h1;subst h2;show bindL kindOf ((p,w)::P.zip vs) m p=_;unfold bindL;rw[wH fun v hv=>(List.nodup_cons.mp nd).1 (List.of_mem_zip hv).1,if_pos hk];simp
  | p::P,w::vs,i+1,m,nd,h1,h2,hk=>by
    show bindL kindOf ((p,w)::P.zip vs) m x=_;unfold bindL;exact wG (i:=i) (List.nodup_cons.mp nd).2 (by simpa using h1) (by simpa using h2) hk
theorem wD{kindOf:Str->Option NameKind}{x:Str}{v:Value}:∀ {P:List Str} {vs:List Value} {i:Nat} {m:q0C},P.Nodup->P[i]?=some x->vs[i]?=some v->kindOf x≠some .local ->
    bindC kindOf (P.zip vs) m x=some v
  | [],_,_,_,_,h,_,_=>by simp at h
  | _::_,[],_,_,_,_,h,_=>by simp at h
  | p::P,w::vs,0,m,nd,h1,h2,hk=>by
    simp at h1 h2;subst h1;subst h2;show bindC kindOf ((p,w)::P.zip vs) m p=_;unfold bindC;rw[wF fun v hv=>(List.nodup_cons.mp nd).1 (List.of_mem_zip hv).1,if_neg hk];simp
  | p::P,w::vs,i+1,m,nd,h1,h2,hk=>by
    show bindC kindOf ((p,w)::P.zip vs) m x=_;unfold bindC;exact wD (i:=i) (List.nodup_cons.mp nd).2 (by simpa using h1) (by simpa using h2) hk
noncomputable def start(N:List Str)(vs:List V):St:=vs.map some++List.replicate (N.length - vs.length) none
noncomputable def mB(CX:CXT)(P:Program)(w:World)(K:q0B)(mg:q0C)(base:Heap)(N:List Str)(qual:Str)(scope:Scope)(f:Addr)(cd:Value)(A:Around)(outer:List Env)(s:Shared)(H:Hp)(E:XK):Cx where
 prog:=P
 w:=w
 K:=K
 mg:=mg
 base:=base
 A:=A.deeper (envOfC qual scope s.heap.objs.size f cd)
 N:=N
 s₀:=s
 H₀:=H
 env:=envOfC qual scope s.heap.objs.size f cd
 outer:=outer
 stack:=envOfC qual scope s.heap.objs.size f cd::outer
 ex:=[]
 calm:=true
 fn:=fun _=>true
 pn:=[]
 xe:=fun e s'=>wpAny (model P w) (A.deeper (envOfC qual scope s.heap.objs.size f cd)) (leaving (envOfC qual scope s.heap.objs.size f cd) e) (fun _ ZH=>CX outer H s E e ZH) (fun e' ZH=>CX outer H s E e' ZH) s'
theorem Al{sc:Scope}{n:Nat}{x:Str}(h:sc.names.lookup x=some .cell):∃ c,(cellsFrom n sc.names []).lookup x=some c:=by
 have q:=PySem.W.cellsFrom_some sc.names n [] (.inl h);exact Option.isSome_iff_exists.mp q
theorem DA{CX:CXT}{P:Program}{w:World}{K:q0B}{mg:q0C}{base:Heap}{N ps:List Str}{qual:Str}{scope:Scope}{f:Addr}{cd:Value}{A:Around}{outer:List Env}{s s1:Shared}{H:Hp}{E:XK}{us:List Value}{vs:List V}
    (S:bA N ps scope) (hd:A.handled=none) (e0:Env0 P w K mg base A outer s H) (hl:vs.length=ps.length) (r:Vals vs us)
    (x:InCallC s s.heap.objs.size (bindL (envOfC qual scope s.heap.objs.size f cd).kindOf (ps.zip us) fun _=>none) (cellsFrom (s.heap.objs.size+1) scope.names []) (bindC (envOfC qual scope s.heap.objs.size f cd).kindOf (ps.zip us) fun _=>none) s1) :
    SO (mB CX P w K mg base N qual scope f cd A outer s H E) [] (start N vs) H s1:=by
  have TQ:ps.length<=N.length:=by have:=congrArg List.length S.pre;rw[List.length_take] at this;omega
  obtain⟨h1,tk,rfl,hk⟩:=x.done;have Xa:∀ b:Addr,b∉(mB CX P w K mg base N qual scope f cd A outer s H E).ex:=fun b z=>absurd (show b∈([]:List Addr) from z) (by simp);refine⟨⟨e0.mod,S.kind,rfl,rfl,Nat.le_refl _,fun y z c h1 h2=>?_,fun y hy=>?_,fun y c _ h=>?_,fun _=>hd,Around.frames_deeper e0.frames,.inr ⟨rfl,rfl⟩,fun b z=>absurd z (Xa b),e0.bs,e0.bsz,fun b _ _=>Xa b,fun b z=>absurd z (Xa b),e0.mC,e0.frf⟩,
    rfl,e0.bare,Un.kept hk,⟨_,x.toInCall.ns,fun i y v h1 h2 h3=>?_⟩,fun y c h=>⟨_,x.cell y c h⟩,e0.SS.fresh (Nat.le_refl _),fun y c h=>?_,fun p hp=>absurd (show p∈([]:List (Addr×Obj)) from hp) (by simp),e0.SS.kept hk,?_⟩
  · exact name_of_addr x.apart (PySem.mem_of_lookup h1) (PySem.mem_of_lookup h2)
  · have hy:scope.names.lookup y=some .cell\/scope.names.lookup y=some .free:=hy;rcases hy with hy|hy
    · exact Al hy
    · exact absurd rfl (S.uC _ (PySem.mem_of_lookup hy))
  · exact Nat.le_of_lt (x.above y c (PySem.mem_of_lookup h))
  · have hi:i < vs.length:=by
      unfold start at h2;by_cases hi:i < vs.length
      · exact hi
      · rw[List.getElem?_append_right (by simpa using hi)] at h2;rw[List.getElem?_replicate] at h2;split at h2<;>cases h2
    have ha:vs[i]?=some v:=by
      unfold start at h2;rw[List.getElem?_append_left (by simpa using hi),List.getElem?_map] at h2;cases e:vs[i]? with
      | none=>rw[e] at h2;cases h2
      | some a=>rw[e] at h2;cases h2;rfl
    obtain⟨u,hu,rv⟩:=r.get ha;have hp:ps[i]?=some y:=by
      rw[<- S.pre,List.getElem?_take_of_lt (by omega)];exact h1
    have ndP:ps.Nodup:=by rw[<- S.pre];exact S.nd.sublist (List.take_sublist _ _)
    refine⟨u,rv,?_⟩;rcases S.par y (List.mem_of_getElem? hp) with k|k
    · exact .inl ⟨k,wG ndP hp hu k⟩
    · obtain⟨c,e⟩:=Al (n:=s.heap.objs.size+1) k;refine .inr ⟨.inl k,c,e,?_⟩;have q:=x.cell y c e;rw[wD ndP hp hu (by show scope.names.lookup y≠_;rw[k];decide)] at q;exact q
  · exact e0.SS.fresh (Nat.le_of_lt (x.above y c (PySem.mem_of_lookup h)))
  · unfold start;show _=N.length;rw[List.length_append,List.length_map,List.length_replicate];omega
theorem JY{CX:CXT}{P:Program}{w:World}{K:q0B}{mg:q0C}{base:Heap}{k:Nat}{f:Addr}{name qual:Str}{params:Arguments}{body:List Stmt}{scope:Scope}{dV kV doc pm S0 ct oc:Value}{an od:Option Addr}
    {Vx:Array (Option Value)} {N ps:List Str} {sp:Sp} (lk:K.lookup f=some ⟨oc,od,.func (PySem.W.fnOf name qual params body scope dV kV doc pm an S0 ct),Vx⟩) (Ux:PySem.W.codeIn K S0 qual=true) (S:bA N ps scope)
    (len:∀ vs H Q E,sp vs H Q E->vs.length=ps.length)
    (TX:∀(A:Around) (outer:List Env) (s:Shared) (H:Hp) (vs:List V) (Q:VK) (E:XK),Room k (A.deeper (envOfC qual scope s.heap.objs.size f S0))->sp vs H Q E ->
      ∃ t,TN (mB CX P w K mg base N qual scope f S0 A outer s H E) body t/\t {nx:=fun _ H'=>Q .SR H',rt:=Q} (start N vs) H) :
    bL P w K mg base CX (k+1) f (PySem.W.fnOf name qual params body scope dV kV doc pm an S0 ct) ps sp:=by
  refine⟨len,fun A outer s H args us vs Q E hr e0 hb r Vi=>?_⟩;have hl:=len _ _ _ _ Vi;have KX:K.In s.heap:=e0.mod.kin.keeps fun b o e=>(e0.bs b o e).1;have lim:s.heap.NoLimit:=e0.mod.nolimit.keeps fun b o e=>(e0.bs b o e).1;have Us:∀ y∈ps.zip us,scope.names.lookup y.1=some .local\/(scope.names.lookup y.1=some .cell/\((cellsFrom (s.heap.objs.size+1) scope.names []).lookup y.1).isSome=true):=fun⟨n,v⟩ hy=>by
    rcases S.par n (List.of_mem_zip hy).1 with q|q
    · exact .inl q
    · exact .inr ⟨q,PySem.W.cellsFrom_some _ _ _ (.inl q)⟩
  refine codeAny_call_function hr.depth (KX _ _ lk) rfl S.co S.gen rfl (PySem.W.codeRec_of KX Ux) (hb _ _ _ _ ?_);refine wpAny_newFunctionEnv_cells S.kind Us fun env he s1 x=>?_;subst he;refine⟨lim.keeps x.toInCall.keep,codeAny_func ?_⟩;obtain⟨t,ht,hq⟩:=TX A outer s H vs Q E (hr.deeper _) Vi;have I:SO (mB CX P w K mg base N qual scope f S0 A outer s H E) [] (start N vs) H s1:=DA S hr.hd e0 hl r x;refine wpAny_mono (ht [] s1 (start N vs) H _ I hq) (fun fl s' hs=>?_) fun e s' hs=>hs;have fin:∀ {σ':St} {H':Hp} {v:V} {u:Value},SO (mB CX P w K mg base N qual scope f S0 A outer s H E) [] σ' H' s'->bJ v u->Q v H'->CE outer P w H s Q u s' :=
    fun {σ' H' v u} J rv q=>⟨v,H',J.os,J.bare,J.base,J.SS,rv,q⟩
  cases fl with
  | ret u =>
    obtain⟨v,σ',H',J,rv,q⟩:=hs;exact fin J rv q
  | next =>
    obtain⟨σ',H',J,q⟩:=hs;exact fin (v:=V.SR) (u:=Value.none) J rfl q
  | brk =>
    obtain⟨_,_,_,q⟩:=hs;exact False.elim q
  | cont =>
    obtain⟨_,_,_,q⟩:=hs;exact False.elim q
section
variable {X:Cx} {x:Str} {p pos:Pos} {e:Expr} {es:List Expr} {t:TA} {id T:String} {r:List V->Hp->VK->Prop}
noncomputable def Si(r:List V->Hp->VK->Prop)(t:TA):TE:=fun σ H Q=>t σ H fun vs H1=>r vs H1 Q
theorem cA(hc:dG X (.builtin id) r)(hg:Gl X x)(hm:X.mg x=none)(hv:bootBuiltins x=some (.builtin id))(ha:PA X (e::es) t)(hn:x≠"__name__":=by decide)(Ug:(x==("__debug__":Str))=false:=by decide)
    (he:starEach (e::es) X.env=(false,eval e X.env)::starEach es X.env:=by rfl) (TQ:(backTo pos (starEach es X.env)).any (·.1)=false:=by rfl):PE X (.Call (.Name x p) (e::es) [] pos) (Si r t):=by
  intro SK s σ H Q I h;refine wpAny_Call_Name_kw (yZ I hg hm hv ?_ hn Ug);exact PyProof.Rows.callWith_builtin1 (thn (ha pos SK s σ H _ I h) fun us s1 ⟨vs,H1,I1,r1,q1⟩=>hc SK s1 σ H1 vs us Q I1 r1 q1) he TQ
theorem fP(hc:dG X (.type T) r)(hg:Gl X x)(hm:X.mg x=none)(hv:bootBuiltins x=some (.type T))(ha:PA X (e::es) t)(hn:x≠"__name__":=by decide)(Ug:(x==("__debug__":Str))=false:=by decide)
    (he:starEach (e::es) X.env=(false,eval e X.env)::starEach es X.env:=by rfl) (TQ:(backTo pos (starEach es X.env)).any (·.1)=false:=by rfl):PE X (.Call (.Name x p) (e::es) [] pos) (Si r t):=by
  intro SK s σ H Q I h;refine wpAny_Call_Name_kw (yZ I hg hm hv ?_ hn Ug);exact PyProof.Rows.callWith_type1 (thn (ha pos SK s σ H _ I h) fun us s1 ⟨vs,H1,I1,r1,q1⟩=>hc SK s1 σ H1 vs us Q I1 r1 q1) he TQ
end
end L2
namespace HT
open PySem PyProof.Rows
section
open PySem.SeqAt
open PySem.AutoSeq1 (wpAny_loadPart')
open PySem.MeetsSeq PySem.MeetsSeq2 PySem.MeetsSeq3
end
section
variable {prog:Program} {w:World} {A:Around} {E:q0A} {s:Shared}
theorem HD{t b:Addr}{vs ws:List Value}{Q:q0A}(ht:IsTup s.heap t vs.toArray)(hb:IsTup s.heap b ws.toArray)(hv:vs≠[])
    (h1:ws=[]->Q (.ref t) s) (h2:ws≠[]->Q (.ref s.heap.objs.size) {s with heap:=s.heap.push {cls:=.type "tuple",data:=.seq (vs++ws).toArray}})
    (Zo:vs.length+ws.length<=sizeLine):wpAny (model prog w) A (binaryOp .Add (.ref t) (.ref b)) Q E s:=by
  obtain⟨⟨cls,dd,data,sl⟩,ho,hc,n,hd⟩:=id ht;obtain⟨⟨aaC,dd2,data2,sl2⟩,V5,Vo,n2,hd2⟩:=id hb;simp only at hc hd Vo hd2;subst hc hd Vo hd2;have e:vs.toArray++ws.toArray=(vs++ws).toArray:=by simp
  by_cases hw:ws=[]
  · exact concat_meets ⟨_,ho,rfl⟩ ⟨_,V5,rfl⟩ noFill_tuple_add seq_tuple_add PySem.F.slot_tuple_add PySem.F.entry_tuple_add (PySem.F.args_tuple_add_2 _ _)
      (tuple_addW1 t b vs.toArray ws.toArray n n2 dd dd2 sl sl2 (by simpa using hv) (by simp[hw])) ⟨ho,V5,h1 hw⟩
  · refine concat_meets ⟨_,ho,rfl⟩ ⟨_,V5,rfl⟩ noFill_tuple_add seq_tuple_add PySem.F.slot_tuple_add PySem.F.entry_tuple_add (PySem.F.args_tuple_add_2 _ _)
      (tuple_addW2 t b vs.toArray ws.toArray n n2 dd dd2 sl sl2 (by simpa using hv) (by simpa using hw) (by rw[List.size_toArray,List.size_toArray];exact Zo)) ⟨ho,V5,?_⟩
    rw[e];exact h2 hw
noncomputable def gD(n d:Nat):Option Int->Nat
 | none=>d
 | some v=>if v < 0 then (v+(n:Int)).toNat else min v.toNat n
theorem Jx(n d k:Nat):gD n d (some (k:Int))=min k n:=by
 show(if (k:Int) < 0 then ((k:Int)+(n:Int)).toNat else min (k:Int).toNat n)=min k n;rw[if_neg (by omega),Int.toNat_natCast]
theorem Nr(n d:Nat)(hd:d<=n)(o:Option Int):gD n d o<=n:=by
 cases o with
 | none=>exact hd
 | some v =>
  show(if v < 0 then (v+(n:Int)).toNat else min v.toNat n)<=n;by_cases hv:v < 0
  ·rw[if_pos hv];omega
  ·rw[if_neg hv];exact Nat.min_le_right _ _
theorem Ct(v:Int)(n d:Nat):(if v < 0 then max (v+(n:Int)) 0 else min v (n:Int))=((gD n d (some v):Nat):Int):=by
 show(if v < 0 then max (v+(n:Int)) 0 else min v (n:Int))=(((if v < 0 then (v+(n:Int)).toNat else min v.toNat n):Nat):Int);by_cases hv:v < 0
 ·simp only[if_pos hv];omega
 ·simp only[if_neg hv];omega
theorem Bk(lo hi:Option Int)(n:Nat):Builtin.Slice.sliceAdjust lo hi 1 (n:Int)=(((gD n 0 lo:Nat):Int),((gD n n hi:Nat):Int)):=by
 have h1:¬ ((1:Int) < 0):=by omega
 unfold Builtin.Slice.sliceAdjust;simp only[h1,if_false];refine Prod.ext ?_ ?_
 ·cases lo with
  | none=>rfl
  | some v=>exact Ct v n 0
 ·cases hi with
  | none=>rfl
  | some v=>exact Ct v n n
theorem B4(i j:Nat):Builtin.Slice.slicePlaces (i:Int) (j:Int) 1=j - i:=by
 unfold Builtin.Slice.slicePlaces;have h1:(1:Int) > 0:=by omega
 simp only[h1,if_true,Int.ediv_one];split<;>omega
theorem uT{v:Value}{o:Option Int}{Q:Option Int->Shared->Prop}(p:IsPart v o)(h:Q o s):wpAny (model prog w) A (Builtin.Slice.slicePartIndex v) Q E s:=by
 cases p with
 | none=>exact slicePart_none h
 | int i t=>exact slicePart_int h
theorem qJ{sl:Addr}{vl vu:Value}{lo hi:Option Int}{n:Nat}{Q:Int×Int×Nat->Shared->Prop}(hs:s.heap.IsSliceOf sl vl vu .none)(pl:IsPart vl lo)(pu:IsPart vu hi)
    (h:Q (((gD n 0 lo:Nat):Int),1,gD n n hi - gD n 0 lo) s):wpAny (model prog w) A (Builtin.Slice.sliceApplied (.ref sl) (pure (n:Int))) Q E s:=by
  obtain⟨os,WT,hcs,XI⟩:=id hs;unfold Builtin.Slice.sliceApplied Builtin.Slice.sliceFields;refine wpAny_bind (wpAny_bind (wpAny_field WT XI (x:=vl) rfl (wpAny_bind (wpAny_field WT XI (x:=vu) rfl (wpAny_bind (wpAny_field WT XI (x:=.none) rfl (wpAny_pure ?_)))))));refine wpAny_bind (slicePart_none ?_);show wpAny _ _ (if ((1:Int)==0)=true then _ else _) _ _ s;rw[if_neg (by decide)];refine wpAny_bind (uT pl (wpAny_bind (uT pu (wpAny_bind (wpAny_pure ?_)))));show wpAny _ _ (match Builtin.Slice.sliceAdjust lo hi 1 (n:Int) with|(lo,hi)=>pure (lo,(1:Int),Builtin.Slice.slicePlaces lo hi 1)) _ _ s;rw[Bk lo hi n];show wpAny _ _ (pure (((gD n 0 lo:Nat):Int),(1:Int),Builtin.Slice.slicePlaces ((gD n 0 lo:Nat):Int) ((gD n n hi:Nat):Int) 1)) _ _ s;rw[B4];exact wpAny_pure h
theorem Gs(xs:Array Value)(i k:Nat):((List.range k).filterMap fun(m:Nat)=>xs[((i:Int)+(m:Int) * 1).toNat]?).toArray=((xs.toList.drop i).take k).toArray:=by
 have e:(fun(m:Nat)=>xs[((i:Int)+(m:Int) * 1).toNat]?)=fun m=>xs[i+m]?:=by
  funext m;have:((i:Int)+(m:Int) * 1).toNat=i+m:=by omega
  rw[this]
 rw[e];have:=pick_run xs i k;rw[List.filterMap_map] at this;have e2:((fun x=>xs[x]?)∘fun x=>i+x)=fun m=>xs[i+m]?:=rfl;rw[e2] at this;rw[this]
theorem nU{t sl:Addr}{items:Array Value}{vl vu:Value}{lo hi:Option Int}{Q:q0A}(ht:IsTup s.heap t items)(hs:s.heap.IsSliceOf sl vl vu .none)(pl:IsPart vl lo)(pu:IsPart vu hi)
    (hw:¬ (gD items.size 0 lo=0/\gD items.size items.size hi=items.size))
    (h:Q (.ref s.heap.objs.size) {s with heap:=s.heap.push {cls:=.type "tuple",data:=.seq ((items.toList.drop (gD items.size 0 lo)).take (gD items.size items.size hi - gD items.size 0 lo)).toArray}})
    (Zo:items.size<=sizeLine):wpAny (model prog w) A (getItem (.ref t) (.ref sl)) Q E s:=by
  have Ut:sizeOk (.seq ((items.toList.drop (gD items.size 0 lo)).take (gD items.size items.size hi - gD items.size 0 lo)).toArray):=by
    show((items.toList.drop (gD items.size 0 lo)).take (gD items.size items.size hi - gD items.size 0 lo)).toArray.size<=sizeLine;rw[List.size_toArray,List.length_take,List.length_drop,Array.length_toList];omega
  have hj:gD items.size items.size hi<=items.size:=Nr _ _ (Nat.le_refl _) hi;obtain⟨os,WT,hcs,XI⟩:=id hs;have hTs:s.TypeIs (.ref sl) "slice":=⟨os,WT,hcs⟩;unfold getItem
  try with_reducible refine wpAny_holding ?_
  first|refine wpAny_bind (wpAny_pure ?_)|skip
  refine wpAny_bind (wpAny_sequenceKey ht.typeIs (by decide) ?_);refine wpAny_bind (wpAny_callSpecial?_slot (name:=Str.ofString "__getitem__") ht.typeIs PyProof.Rows.slot_tuple_getitem
    (wpAny_call_entry PyProof.Rows.slot_tuple_getitem ht.typeIs entry_tuple_getitem ?_ (args_tuple_getitem _ _)))
  show wpAny _ _ (Builtin.Tuple.tupleItemsOf (.ref t) >>= _) _ _ s;refine wpAny_bind (tupleItemsOf_ ht ?_);refine wpAny_bind (wpAny_typeOf hTs ?_);rw[if_pos (by decide)];refine wpAny_bind (qJ hs pl pu ?_);have hno:¬ ((((gD items.size 0 lo:Nat):Int)==0&&(1:Int)==1&&(gD items.size items.size hi - gD items.size 0 lo)==items.size)=true):=by
    intro q;rw[Bool.and_eq_true,Bool.and_eq_true] at q;have q1:((gD items.size 0 lo:Nat):Int)=0:=eq_of_beq q.1.1;have q2:gD items.size items.size hi - gD items.size 0 lo=items.size:=eq_of_beq q.2;exact hw ⟨by omega,by omega⟩
  show wpAny _ _ (if (((gD items.size 0 lo:Nat):Int)==0&&(1:Int)==1&&(gD items.size items.size hi - gD items.size 0 lo)==items.size)=true then _ else _) _ _ s;rw[if_neg hno,Gs]
  first
    | exact wpAny_bind (m:=Builtin.Tuple.tupleExact _) (wpAny_newObj_type (wpAny_pure ⟨_,rfl,wpAny_pure h⟩) Ut)
    | exact wpAny_bind (m:=Builtin.Tuple.tupleExact _) (wpAny_newObj_type (wpAny_bind (wpAny_pure (wpAny_pure ⟨_,rfl,wpAny_pure h⟩))) Ut)
    | exact wpAny_bind (wpAny_bind (m:=Builtin.Tuple.tupleExact _) (wpAny_newObj_type (wpAny_pure (wpAny_pure ⟨_,rfl,wpAny_pure h⟩)) Ut))
    | exact wpAny_bind (wpAny_bind (m:=Builtin.Tuple.tupleExact _) (wpAny_newObj_type (wpAny_pure ⟨_,rfl,wpAny_pure h⟩) Ut))
end
end HT
namespace L2
open PySem PySem.Spec PyProof.Rows
noncomputable abbrev TO:=St->Hp->(Option Int->Hp->Prop)->Prop
noncomputable def PO(X:Cx)(e:Option Expr)(t:TO):Prop :=
 ∀(SK:List (Addr×Obj)) (s:Shared) (σ:St) (H:Hp) (Q:Option Int->Hp->Prop),SO X SK σ H s->t σ H Q ->
  wpAny (model X.prog X.w) X.A (evalPart e X.env) (fun u s'=>∃ o H',SO X SK σ H' s'/\IsPart u o/\Q o H') X.xe s
noncomputable def C1:TO:=fun _ H Q=>Q none H
noncomputable def GX(t:TE):TO:=fun σ H Q=>t σ H fun x H1=>∃ i,x=.int i/\Q (some i) H1
section
variable {X:Cx} {e:Expr} {te:TE} {lo hi:Option Expr} {tl th:TO} {pos p2:Pos}
theorem rW:PO X none C1:=by
 intro SK s σ H Q I h;rw[evalPart_none];exact wpAny_pure ⟨none,H,I,.none,h⟩
theorem rX(h:PE X e te):PO X (some e) (GX te):=by
 intro SK s σ H Q I hw;rw[evalPart_some];refine thn (h SK s σ H _ I hw) fun u s1 ⟨x,H1,I1,r1,q1⟩=>?_;obtain⟨i,rfl,q⟩:=q1;obtain⟨t,rfl⟩:=r1;exact⟨some i,H1,I1,.int i t,q⟩
noncomputable def Ho(X:Cx)(r:V->Option Int->Option Int->Hp->VK->Prop):Prop :=
 ∀(SK:List (Addr×Obj)) (s:Shared) (σ:St) (H:Hp) (x:V) (v vl vu:Value) (lo hi:Option Int) (sl:Addr) (Q:VK),SO X SK σ H s->bJ x v->s.heap.IsSliceOf sl vl vu .none->IsPart vl lo->IsPart vu hi->r x lo hi H Q ->
  ∃ T id,typeLookup (.type T) "__getitem__"=pure (some (.builtin id))/\s.TypeIs v T/\wpAny (model X.prog X.w) X.A (getItem v (.ref sl)) (EP X SK σ Q) X.xe s
theorem Ho.or{r r':V->Option Int->Option Int->Hp->VK->Prop}(h:Ho X r)(h':Ho X r'):Ho X (fun x lo hi H Q=>r x lo hi H Q\/r' x lo hi H Q):=by
 intro SK s σ H x v vl vu lo hi sl Q I rx hs pl pu q;rcases q with q|q
 ·exact h SK s σ H x v vl vu lo hi sl Q I rx hs pl pu q
 ·exact h' SK s σ H x v vl vu lo hi sl Q I rx hs pl pu q
noncomputable def Sx(r:V->Option Int->Option Int->Hp->VK->Prop)(te:TE)(tl th:TO):TE:=fun σ H Q=>te σ H fun x H1=>tl σ H1 fun l H2=>th σ H2 fun u H3=>r x l u H3 Q
theorem oJ{r:V->Option Int->Option Int->Hp->VK->Prop}(hr:Ho X r)(he:PE X e te)(hl:PO X lo tl)(hu:PO X hi th):PE X (.Subscript e (.Slice lo hi none p2) pos) (Sx r te tl th):=by
 intro SK s σ H Q I h;refine Subscript_ (thn (he SK s σ H _ I h) fun v s1 ⟨x,H1,I1,r1,q1⟩=>?_);refine wpAny_Slice (thn (hl SK s1 σ H1 _ I1 q1) fun vl s2 ⟨l,H2,I2,pl,q2⟩=>thn (hu SK s2 σ H2 _ I2 q2) fun vu s3 ⟨u,H3,I3,pu,q3⟩=>?_);rw[evalPart_none];refine wpAny_pure ?_;have I4:SO X SK σ H3 {s3 with heap:=s3.heap.push {cls:=.type "slice",data:=.fields #[vl,vu,.none]}}:=I3.kept (t':=s3.toks) fun b ob q=>Heap.get?_push_of_some _ q;obtain⟨T,id,hT,ht,hg⟩:=hr SK {s3 with heap:=s3.heap.push {cls:=.type "slice",data:=.fields #[vl,vu,.none]}} σ H3 x v vl vu l u s3.heap.objs.size Q I4 r1 (Heap.IsSliceOf.new ..) pl pu q3;show wpAny (model X.prog X.w) X.A (subscriptTail e (.Slice lo hi none p2) v (.ref s3.heap.objs.size)) (EP X SK σ Q) X.xe {s3 with heap:=s3.heap.push {cls:=.type "slice",data:=.fields #[vl,vu,.none]}};exact tail_any (ops:=[.ref s3.heap.objs.size,v]) ht hT hg (by with_unfolding_all rfl)
noncomputable def kM(xs:List V)(lo hi:Option Int):List V:=(xs.drop (HT.gD xs.length 0 lo)).take (HT.gD xs.length xs.length hi - HT.gD xs.length 0 lo)
theorem qQ(xs:List V)(lo hi:Option Int):(kM xs lo hi).length<=xs.length:=by
 unfold kM;rw[List.length_take,List.length_drop];omega
noncomputable def Sf(K:q0B):V->Option Int->Option Int->Hp->VK->Prop:=fun x lo hi H Q=>∃ a xs,x=.ref a/\fS K H a xs /\
 ¬ (HT.gD xs.length 0 lo=0/\HT.gD xs.length xs.length hi=xs.length)/\∀ p,H p=none->Q (.ref p) (SM H p (.tup (kM xs lo hi)))
theorem Ny:Ho X (Sf X.K):=by
 intro SK s σ H x v vl vu lo hi sl Q I rx hs pl pu h;obtain⟨a,xs,rfl,hx,hw,q⟩:=h;cases rx;obtain⟨SQ,r,ht,hz⟩:=I.tuple hx;have hlen:SQ.toArray.size=xs.length:=by rw[List.size_toArray];exact r.length.symm
 refine⟨"tuple",_,PyProof.Rows.slot_tuple_getitem.lookup,ht.typeIs,?_⟩;refine HT.nU ht hs pl pu (by rw[hlen];exact hw) ?_ (by rw[hlen];exact hz);rw[hlen];refine⟨.ref s.heap.objs.size,_,I.laid (t':=s.toks) (o:=.tup (kM xs lo hi)) (fun b ob q=>Heap.get?_push_of_some _ q) (Nat.le_refl _) ?_,rfl,q _ (I.SS.fresh (Nat.le_refl _))⟩;exact⟨Nat.le_trans (qQ xs lo hi) hz,_,(r.drop (HT.gD xs.length 0 lo)).take (HT.gD xs.length xs.length hi - HT.gD xs.length 0 lo),IsTup.new _ _⟩
noncomputable def Qi(K:q0B):R2:=fun x y H Q=>∃ a b xs ys,x=.ref a/\y=.ref b/\fS K H a xs/\fS K H b ys/\xs≠[]/\xs.length+ys.length<=sizeLine /\
 (ys=[]->Q (.ref a) H)/\(ys≠[]->∀ p,H p=none->Q (.ref p) (SM H p (.tup (xs++ys))))
theorem Vals.rS{xs:List V}{us:List Value}(r:Vals xs us):us=[]↔xs=[]:=by
 cases r with
 | nil=>simp
 | cons _ _=>simp
theorem CO:h9 X (binaryOp .Add) (Qi X.K):=by
 intro SK s σ H x y v u Q I rx ry h;obtain⟨a,b,xs,ys,rfl,rfl,ha,hb,hx,hz,q1,q2⟩:=h;cases rx;cases ry;obtain⟨SQ,r1,p1,_⟩:=I.tuple ha;obtain⟨TZ,r2,p2,_⟩:=I.tuple hb;refine HT.HD p1 p2 (fun z=>hx (r1.rS.mp z)) (fun z=>⟨.ref a,H,I,rfl,q1 (r2.rS.mp z)⟩) (fun z=>?_) (by rw[<- r1.length,<- r2.length];exact hz);refine⟨.ref s.heap.objs.size,_,I.laid (t':=s.toks) (o:=.tup (xs++ys)) (fun b ob q=>Heap.get?_push_of_some _ q) (Nat.le_refl _) ?_,rfl,q2 (fun w=>z (r2.rS.mpr w)) _ (I.SS.fresh (Nat.le_refl _))⟩;exact⟨by rw[List.length_append];exact hz,_,r1.append r2,IsTup.new _ _⟩
end
noncomputable def CH(n:Nat)(i:Int):Option Nat:=if 0<=i then (if i < n then some i.toNat else none) else if -(n:Int)<=i then some (i+n).toNat else none
noncomputable def mP{α:Type}(xs:List α)(i:Int):Option α:=(CH xs.length i).bind fun j=>xs[j]?
theorem CI{n:Nat}{i:Int}{j:Nat}(h:CH n i=some j):seqIndex? i n=some j/\j < n/\-(n:Int)<=i/\i < n:=by
 unfold CH at h;by_cases h0:0<=i
 ·rw[if_pos h0] at h;by_cases h1:i < n
  ·rw[if_pos h1] at h;have e:i.toNat=j:=Option.some.inj h;exact⟨by rw[seqIndex_of h0 h1,e],by omega,by omega,h1⟩
  ·rw[if_neg h1] at h;cases h
 ·rw[if_neg h0] at h;by_cases h1:-(n:Int)<=i
  ·rw[if_pos h1] at h;have e:(i+n).toNat=j:=Option.some.inj h;exact⟨by rw[seqIndex_neg (by omega) h1,e],by omega,h1,by omega⟩
  ·rw[if_neg h1] at h;cases h
theorem yC{α:Type}{xs:List α}{i:Int}{v:α}(h:mP xs i=some v):∃ j,seqIndex? i xs.length=some j/\xs[j]?=some v/\j < xs.length/\-(xs.length:Int)<=i/\i < xs.length:=by
 unfold mP at h;cases e:CH xs.length i with
 | none=>rw[e] at h;cases h
 | some j =>
  rw[e] at h;obtain⟨h1,h2,h3,h4⟩:=CI e;exact⟨j,h1,h,h2,h3,h4⟩
theorem yD{α:Type}{xs:List α}{j:Nat}{v:α}(h:xs[j]?=some v):mP xs (j:Int)=some v:=by
 have hj:j < xs.length:=(List.getElem?_eq_some_iff.mp h).1;have e:CH xs.length (j:Int)=some j:=by
  unfold CH;rw[if_pos (by omega),if_pos (by omega)];simp
 unfold mP;rw[e];exact h
noncomputable def Hn(b:Expr):Prop:=∀ o i,subscripted b false o i=operate [o,i] (getItem o i)
noncomputable def C8(X:Cx)(r:R2):Prop :=
 ∀(value slice:Expr) (SK:List (Addr×Obj)) (s:Shared) (σ:St) (H:Hp) (x y:V) (v u:Value) (Q:VK),SO X SK σ H s->bJ x v->bJ y u->r x y H Q ->
  subscripted slice false v u=operate [v,u] (getItem v u)->wpAny (model X.prog X.w) X.A (subscriptTail value slice v u) (EP X SK σ Q) X.xe s
noncomputable def Hi(X:Cx)(id:String)(r:V->List V->Hp->VK->Prop):Prop :=
 ∀(SK:List (Addr×Obj)) (s:Shared) (σ:St) (H:Hp) (x:V) (xs:List V) (v:Value) (us:List Value) (Q:VK),SO X SK σ H s->bJ x v->Vals xs us->r x xs H Q ->
  wpAny (model X.prog X.w) X.A (call (.builtin id) (v::us)) (EP X SK σ Q) X.xe s
section
variable {X:Cx} {a b:Expr} {ta tb:TE} {pos:Pos}
theorem C8.or{r r':R2}(h:C8 X r)(h':C8 X r'):C8 X (fun x y H Q=>r x y H Q\/r' x y H Q):=by
 intro value slice SK s σ H x y v u Q I rx ry q hs;rcases q with q|q
 ·exact h value slice SK s σ H x y v u Q I rx ry q hs
 ·exact h' value slice SK s σ H x y v u Q I rx ry q hs
theorem Hi.or{id:String}{r r':V->List V->Hp->VK->Prop}(h:Hi X id r)(h':Hi X id r'):Hi X id (fun x xs H Q=>r x xs H Q\/r' x xs H Q):=by
 intro SK s σ H x xs v us Q I rx rs q;rcases q with q|q
 ·exact h SK s σ H x xs v us Q I rx rs q
 ·exact h' SK s σ H x xs v us Q I rx rs q
theorem bT{r:R2}(hr:C8 X r)(ha:PE X a ta)(hb:PE X b tb)(hs:Hn b):PE X (.Subscript a b pos) (QG r ta tb):=by
 intro SK s σ H Q I h;exact Subscript_ (KP ha hb I h fun v u s2 x y H2 I2 rx ry q=>hr a b SK s2 σ H2 x y v u Q I2 rx ry q (hs _ _))
noncomputable def Qj(K:q0B):R2:=fun x y H Q=>∃ p xs i v,x=.ref p/\y=.int i/\dS K H p xs/\mP xs i=some v/\Q v H
noncomputable def Ql(K:q0B):R2:=fun x y H Q=>∃ p xs i v,x=.ref p/\y=.int i/\fS K H p xs/\mP xs i=some v/\Q v H
noncomputable def Qk:R2:=fun x y H Q=>∃ z i c,x=.str z/\y=.int i/\z.length<=sizeLine/\mP z.cps.toList i=some c/\Q (.str ⟨#[c]⟩) H
theorem IL:C8 X (Qj X.K):=by
 intro value slice SK s σ H x y v u Q I rx ry h hs;obtain⟨p,xs,i,z,rfl,rfl,hq,he,q⟩:=h;cases rx;obtain⟨t,rfl⟩:=ry;obtain⟨SQ,r,pl,hz⟩:=I.list hq;obtain⟨j,h1,h2,h3,h4,h5⟩:=yC he;obtain⟨w,ew,Xe⟩:=r.get h2;have hl:=r.length;have hn:=line63;have fin:EP X SK σ Q w s:=⟨z,H,I,Xe,q⟩;by_cases h0:0<=i
 ·have hj:i.toNat=j:=by
   rw[seqIndex_of h0 h5] at h1;exact Option.some.inj h1
  exact item_listR pl.isList h0 (by omega) (by rw[hj];simpa using ew) fin hs
 ·have hj:(i+(SQ.toArray.size:Int)).toNat=j:=by
   rw[seqIndex_neg (by omega) h4] at h1;rw[List.size_toArray,<- hl];exact Option.some.inj h1
  exact subscriptTail_builtinR (x:=w) pl.isList.typeIs slot_list_getitem.lookup
   (wpAny_getItem_list_neg (Q:=fun r s'=>r=w/\EP X SK σ Q r s') pl.isList (by omega) (by rw[List.size_toArray]<;>omega) (by omega) (by rw[hj];simpa using ew) ⟨rfl,fin⟩) hs
theorem MU:C8 X (Ql X.K):=by
 intro value slice SK s σ H x y v u Q I rx ry h hs;obtain⟨p,xs,i,z,rfl,rfl,hq,he,q⟩:=h;cases rx;obtain⟨t,rfl⟩:=ry;obtain⟨SQ,r,pl,hz⟩:=I.tuple hq;obtain⟨j,h1,h2,h3,h4,h5⟩:=yC he;obtain⟨w,ew,Xe⟩:=r.get h2;have hl:=r.length;have hn:=line63;have fin:EP X SK σ Q w s:=⟨z,H,I,Xe,q⟩;exact subscriptTail_builtinR (x:=w) pl.typeIs slot_tuple_getitem.lookup
  (getItem_tuple (j:=j) (Q:=fun r s'=>r=w/\EP X SK σ Q r s') pl (by omega) (by omega) (by rw[List.size_toArray,<- hl];exact h1) (by simpa using ew) ⟨rfl,fin⟩) hs
theorem MT:C8 X Qk:=by
 intro value slice SK s σ H x y v u Q I rx ry h hs;obtain⟨z,i,c,rfl,rfl,hz,he,q⟩:=h;obtain⟨t,rfl⟩:=rx;obtain⟨t',rfl⟩:=ry;obtain⟨j,h1,h2,h3,h4,h5⟩:=yC he;have hl:z.cps.toList.length=z.length:=by simp[Str.length]
 rw[hl] at h1 h4 h5;have hn:=line63;exact tail_any (typeIs_str s z t) slot_str_getitem.lookup (getItem_str (c:=c) (by
  have e1:decide (i < -(2 ^ 63:Int))=false:=decide_eq_false (by omega);have e2:decide (i >= 2 ^ 63)=false:=decide_eq_false (by omega);rw[e1,e2,Bool.or_false]) (by rw[h1];simpa using h2) ⟨.str ⟨#[c]⟩,H,I.tok _,⟨_,rfl⟩,q⟩) hs
noncomputable def SF(K:q0B):R2:=fun x y H Q=>Qj K x y H Q\/Ql K x y H Q\/Qk x y H Q
theorem MS:C8 X (SF X.K):=IL.or (MU.or MT)
theorem BE(SQ:List Value)(n j:Nat)(u:Value):Obj.mapSeq (·.setIfInBounds j u) {cls:=.type "list",data:=.seq SQ.toArray n}={cls:=.type "list",data:=.seq (SQ.set j u).toArray n}:=by
 simp[Obj.mapSeq]
theorem SO.lst{SK:List (Addr×Obj)}{σ:St}{H:Hp}{s:Shared}{p:Addr}{xs:List V}(I:SO X SK σ H s)(h:H p=some (.lst xs)) :
    ∃(SQ:List Value) (n:Nat),Vals xs SQ/\s.heap.get? p=some {cls:=.type "list",data:=.seq SQ.toArray n}/\xs.length<=sizeLine:=by
  obtain⟨z,SQ,n,r,e⟩:=I.SS p _ h;exact⟨SQ,n,r,e,z⟩
theorem SO.MZ{SK:List (Addr×Obj)}{σ:St}{H:Hp}{s:Shared}{p:Addr}{xs ys:List V}{SQ its':List Value}{n n':Nat}{f:Obj->Obj}(I:SO X SK σ H s)(h:H p=some (.lst xs))
    (ho:s.heap.get? p=some {cls:=.type "list",data:=.seq SQ.toArray n}) (hf:f {cls:=.type "list",data:=.seq SQ.toArray n}={cls:=.type "list",data:=.seq its'.toArray n'}) (r:Vals ys its') (hz:ys.length<=sizeLine) (t:Nat) :
    SO X SK σ (SM H p (.lst ys)) {s with heap:=s.heap.update p f,toks:=t}:=by
  have e:(s.heap.update p f).get? p=some {cls:=.type "list",data:=.seq its'.toArray n'}:=by
    rw[Heap.get?_update_self f ho (by rw[hf]<;>rfl),hf]
  refine I.write (x:=p) (e:=p) (by rw[h];trivial) (.inl rfl) (fun b u hb q=>(Heap.get?_update_other _ _ (Ne.symm hb)).trans q) ⟨_,e⟩ ?_;exact⟨hz,its',n',r,e⟩
noncomputable def Qm:V->V->V->Hp->(Hp->Prop)->Prop:=fun o i v H Q=>∃ p xs k j,o=.ref p/\i=.int k/\H p=some (.lst xs)/\CH xs.length k=some j/\Q (SM H p (.lst (xs.set j v)))
theorem GD:PSet X Qm:=by
 intro SK s σ H o i v ov iv u Q I ro ri rv h;obtain⟨p,xs,k,j,rfl,rfl,hp,hj,q⟩:=h;cases ro;obtain⟨t,rfl⟩:=ri;obtain⟨SQ,n,r,ho,hz⟩:=I.lst hp;obtain⟨h1,h2,h3,h4⟩:=CI hj;have hl:=r.length;have hn:=line63;have I':SO X SK σ (SM H p (.lst (xs.set j v))) {s with heap:=s.heap.update p (Obj.mapSeq (·.setIfInBounds j u))} :=
  I.MZ hp ho (BE SQ n j u) (r.set rv j) (by rw[List.length_set];exact hz) s.toks
 by_cases h0:0<=k
 ·have hk:k.toNat=j:=by
   rw[seqIndex_of h0 h4] at h1;exact Option.some.inj h1
  exact PySem.W.ki_setAt ho h0 (by omega) (by rw[List.size_toArray,<- hl];exact h4) (by rw[hk];exact⟨_,I',q⟩)
 ·have hk:(k+(SQ.toArray.size:Int)).toNat=j:=by
   rw[seqIndex_neg (by omega) h3] at h1;rw[List.size_toArray,<- hl];exact Option.some.inj h1
  exact PySem.W.ki_setBack ho (by omega) (by rw[List.size_toArray,<- hl];exact h3) (by omega) (by rw[hk];exact⟨_,I',q⟩)
theorem zT(lo hi:Option Int)(n:Nat):(sliceBounds lo hi none n).1=((HT.gD n 0 lo:Nat):Int)/\(sliceBounds lo hi none n).2.1=((HT.gD n n hi:Nat):Int)/\(sliceBounds lo hi none n).2.2=1:=by
 refine⟨?_,?_,rfl⟩
 ·cases lo with
  | none=>simp[sliceBounds,HT.gD]
  | some i =>
   simp only[sliceBounds,HT.gD,Option.getD_none,show(1:Int) > 0 by decide,if_true];by_cases h:i < 0
   ·simp only[h,if_true]<;>omega
   ·simp only[h,if_false]<;>omega
 ·cases hi with
  | none=>simp[sliceBounds,HT.gD]
  | some i =>
   simp only[sliceBounds,HT.gD,Option.getD_none,show(1:Int) > 0 by decide,if_true];by_cases h:i < 0
   ·simp only[h,if_true]<;>omega
   ·simp only[h,if_false]<;>omega
theorem v9(SQ:List Value)(lo hi:Option Int):slicePick SQ.toArray lo hi none=((SQ.drop (HT.gD SQ.length 0 lo)).take (HT.gD SQ.length SQ.length hi - HT.gD SQ.length 0 lo)).toArray:=by
 obtain⟨h1,h2,h3⟩:=zT lo hi SQ.toArray.size;unfold slicePick;rw[h1,h2,h3];simp only[sliceRange_one,pick_run,List.size_toArray]<;>rfl
noncomputable def Nm(K:q0B):V->Option Int->Option Int->Hp->VK->Prop:=fun x lo hi H Q=>∃ a xs,x=.ref a/\dS K H a xs/\∀ p,H p=none->Q (.ref p) (SM H p (.lst (kM xs lo hi)))
theorem CU:Ho X (Nm X.K):=by
 intro SK s σ H x v vl vu lo hi sl Q I rx hs pl pu h;obtain⟨a,xs,rfl,hx,q⟩:=h;cases rx;obtain⟨SQ,r,ht,hz⟩:=I.list hx;have hlen:=r.length;refine⟨"list",_,slot_list_getitem.lookup,ht.isList.typeIs,?_⟩;refine wpAny_getItem_list_slice ht.isList hs pl pu .none (by simp) ?_ (by rw[List.size_toArray]<;>omega);rw[v9,<- hlen];refine⟨.ref s.heap.objs.size,_,I.laid (t':=s.toks) (o:=.lst (kM xs lo hi)) (fun b ob q=>Heap.get?_push_of_some _ q) (Nat.le_refl _) ?_,rfl,q _ (I.SS.fresh (Nat.le_refl _))⟩;exact⟨Nat.le_trans (qQ xs lo hi) hz,_,0,(r.drop (HT.gD xs.length 0 lo)).take (HT.gD xs.length xs.length hi - HT.gD xs.length 0 lo),Heap.get?_push_size _ rfl⟩
noncomputable def b8:V->Bool
 | .SR=>true
 | .bl _=>true
 | .int _=>true
 | .str _=>true
 | _=>false
noncomputable def Bh:V->V->Bool
 | .SR,.SR=>true
 | .bl a,.bl b=>a==b
 | .bl a,.int b=>(if a then 1 else 0)==b
 | .int a,.bl b=>a==(if b then 1 else 0)
 | .int a,.int b=>a==b
 | .str a,.str b=>a==b
 | _,_=>false
theorem Fd{A:Around}{s:Shared}{y x:V}{u v:Value}(ry:bJ y u)(rx:bJ x v)(fy:b8 y=true)(fx:b8 x=true):SeqAt.EqAt A s u v (Bh y x):=by
 cases y with
 | SR =>
  cases ry;cases x with
  | SR=>cases rx;exact SeqAt.EqAt.same _
  | bl b=>cases rx;exact SeqAt.EqAt.none_bool b
  | int b=>obtain⟨t,rfl⟩:=rx;exact SeqAt.EqAt.none_int b t
  | str b=>obtain⟨t,rfl⟩:=rx;exact SeqAt.EqAt.none_str b t
  | _=>exact absurd (show false=true from fx) Bool.false_ne_true
 | bl a =>
  cases ry;cases x with
  | SR=>cases rx;exact SeqAt.EqAt.bool_none a
  | bl b=>cases rx;exact SeqAt.EqAt.bool_bool a b
  | int b=>obtain⟨t,rfl⟩:=rx;exact SeqAt.EqAt.bool_int a b t
  | str b=>obtain⟨t,rfl⟩:=rx;exact SeqAt.EqAt.bool_str a b t
  | _=>exact absurd (show false=true from fx) Bool.false_ne_true
 | int a =>
  obtain⟨t',rfl⟩:=ry;cases x with
  | SR=>cases rx;exact SeqAt.EqAt.int_none a t'
  | bl b=>cases rx;exact SeqAt.EqAt.int_bool a t' b
  | int b=>obtain⟨t,rfl⟩:=rx;exact SeqAt.EqAt.int_int a t' b t
  | str b=>obtain⟨t,rfl⟩:=rx;exact SeqAt.EqAt.int_str a t' b t
  | _=>exact absurd (show false=true from fx) Bool.false_ne_true
 | str a =>
  obtain⟨t',rfl⟩:=ry;cases x with
  | SR=>cases rx;exact SeqAt.EqAt.str_none a t'
  | bl b=>cases rx;exact SeqAt.EqAt.str_bool a t' b
  | int b=>obtain⟨t,rfl⟩:=rx;exact SeqAt.EqAt.str_int a t' b t
  | str b=>obtain⟨t,rfl⟩:=rx;exact SeqAt.EqAt.str_str a t' b t
  | _=>exact absurd (show false=true from fx) Bool.false_ne_true
 | _=>exact absurd (show false=true from fy) Bool.false_ne_true
noncomputable def Bw(x:V)(u:Value):Bool:=match u with
 | .none=>Bh .SR x
 | .bool b=>Bh (.bl b) x
 | .int i _=>Bh (.int i) x
 | .str z _=>Bh (.str z) x
 | _=>false
theorem Fe{x y:V}{u:Value}(r:bJ y u)(f:b8 y=true):Bw x u=Bh y x:=by
 cases y with
 | SR=>cases r;rfl
 | bl b=>cases r;rfl
 | int i=>obtain⟨t,rfl⟩:=r;rfl
 | str z=>obtain⟨t,rfl⟩:=r;rfl
 | _=>exact absurd (show false=true from f) Bool.false_ne_true
theorem nK{x:V}:∀ {xs:List V} {us:List Value},Vals xs us->xs.all b8=true->us.any (Bw x)=xs.any fun y=>Bh y x
 | _,_,.nil,_=>rfl
 | y::xs,u::us,.cons r t,f=>by
  rw[List.all_cons,Bool.and_eq_true] at f;rw[List.any_cons,List.any_cons,Fe r f.1,nK t f.2]
theorem kZ{A:Around}{s:Shared}{x:V}{v:Value}(rx:bJ x v)(fx:b8 x=true):∀ {xs:List V} {us:List Value},Vals xs us->xs.all b8=true->∀ u∈us,SeqAt.EqAt A s u v (Bw x u)
 | _,_,.nil,_=>fun u hu=>by cases hu
 | y::xs,u::us,.cons r t,f=>fun u' hu=>by
  rw[List.all_cons,Bool.and_eq_true] at f;rcases List.mem_cons.mp hu with rfl|hu
  ·rw[Fe r f.1];exact Fd r rx f.1 fx
  ·exact kZ rx fx t f.2 u' hu
noncomputable def b7(x:V)(xs:List V):Bool:=xs.any fun y=>Bh y x
noncomputable def Sr(K:q0B)(neg:Bool):R2:=fun x y H Q=>∃ p xs,y=.ref p/\(dS K H p xs\/fS K H p xs)/\b8 x=true/\xs.all b8=true/\Q (.bl (if neg then !b7 x xs else b7 x xs)) H
theorem DO:h9 X (compareOp .In) (Sr X.K false):=by
 intro SK s σ H x y v u Q I rx ry h;obtain⟨p,xs,rfl,hq,fx,fs,q⟩:=h;cases ry;rcases hq with hq|hq
 ·obtain⟨SQ,r,pl,hz⟩:=I.list hq;refine SeqAt.in_listAt (Bw x) pl.isList (fun w hw=>kZ rx fx r fs w (by simpa using hw)) ⟨.bl _,H,I,rfl,?_⟩;rw[show SQ.toArray.any (Bw x)=SQ.any (Bw x) by simp,nK r fs];exact q
 ·obtain⟨SQ,r,pl,hz⟩:=I.tuple hq;refine SeqAt.in_tupleAt (Bw x) pl (fun w hw=>kZ rx fx r fs w (by simpa using hw)) ⟨.bl _,H,I,rfl,?_⟩;rw[show SQ.toArray.any (Bw x)=SQ.any (Bw x) by simp,nK r fs];exact q
theorem nZ:h9 X (compareOp .NotIn) (Sr X.K true):=by
 intro SK s σ H x y v u Q I rx ry h;obtain⟨p,xs,rfl,hq,fx,fs,q⟩:=h;cases ry;rcases hq with hq|hq
 ·obtain⟨SQ,r,pl,hz⟩:=I.list hq;refine SeqAt.notIn_listAt (Bw x) pl.isList (fun w hw=>kZ rx fx r fs w (by simpa using hw)) ⟨.bl _,H,I,rfl,?_⟩;rw[show SQ.toArray.any (Bw x)=SQ.any (Bw x) by simp,nK r fs];exact q
 ·obtain⟨SQ,r,pl,hz⟩:=I.tuple hq;refine SeqAt.notIn_tupleAt (Bw x) pl (fun w hw=>kZ rx fx r fs w (by simpa using hw)) ⟨.bl _,H,I,rfl,?_⟩;rw[show SQ.toArray.any (Bw x)=SQ.any (Bw x) by simp,nK r fs];exact q
theorem dG.or{f:Value}{r r':List V->Hp->VK->Prop}(h:dG X f r)(h':dG X f r'):dG X f (fun xs H Q=>r xs H Q\/r' xs H Q):=by
 intro SK s σ H xs us Q I rs q;rcases q with q|q
 ·exact h SK s σ H xs us Q I rs q
 ·exact h' SK s σ H xs us Q I rs q
theorem vI:dG X (.type "tuple") (fun xs H Q=>∃ p ys,xs=[.ref p]/\((dS X.K H p ys/\∀ l,H l=none->Q (.ref l) (SM H l (.tup ys)))\/(fS X.K H p ys/\Q (.ref p) H))):=by
 intro SK s σ H xs us Q I r h;obtain⟨p,ys,rfl,h⟩:=h;obtain⟨u,rfl,rx⟩:=vals1 r;cases rx;rcases h with⟨hq,q⟩|⟨hq,q⟩
 ·obtain⟨SQ,r',pl,hz⟩:=I.list hq;have hlen:=r'.length;refine call_tuple_list pl.isList (fun h' kp=>?_) (by simp only[List.size_toArray]<;>omega);have I1:SO X SK σ H {s with heap:=h'}:=I.kept (t':=s.toks) kp;have I2:SO X SK σ (SM H h'.objs.size (.tup ys)) {s with heap:=h'.push {cls:=.type "tuple",data:=.seq SQ.toArray}} :=
   I1.laid (t':=s.toks) (fun b o e=>Heap.get?_push_of_some _ e) (Nat.le_refl _) (show dU X.prog X.w _ _ _ (.tup ys) from ⟨hz,SQ,r',IsTup.new _ _⟩)
  exact⟨.ref h'.objs.size,_,I2,rfl,q _ (I1.SS.fresh (Nat.le_refl _))⟩
 ·obtain⟨SQ,r',pl,hz⟩:=I.tuple hq;exact call_tuple_same pl ⟨.ref p,H,I,rfl,q⟩
noncomputable def Ri(K:q0B)(T:String)(x:V)(H:Hp):Prop:=match x with
  | .str _=>T = "str"
  | .int _=>T = "int"
  | .ref p=>(T = "list"/\∃ xs,dS K H p xs)\/(T = "tuple"/\∃ o,K.lookup p=some o/\o.cls=.type "tuple"/\o.dict=none) \/
      (T = "dict"/\((∃ SN,H p=some (.dK SN))\/∃ SN,H p=some (.dT SN)))\/(T = "set"/\∃ S n,H p=some (.set S n))
  | _=>False
theorem Ci{SK:List (Addr×Obj)}{σ:St}{H:Hp}{s:Shared}{T:String}{x:V}{v:Value}(I:SO X SK σ H s)(r:bJ x v)(ty:Ri X.K T x H) :
    s.TypeIs v T/\∀ a,v=.ref a->∃ ob,s.heap.get? a=some ob/\ob.dict=none:=by
  cases x with
  | str z =>
    obtain⟨t,rfl⟩:=r;cases (show T = "str" from ty);exact⟨typeIs_str s z t,fun _ e=>nomatch e⟩
  | int i =>
    obtain⟨t,rfl⟩:=r;cases (show T = "int" from ty);exact⟨typeIs_int s i t,fun _ e=>nomatch e⟩
  | ref p =>
    cases r;rcases ty with⟨rfl,xs,hq⟩|⟨rfl,o,hk,hc,hd⟩|⟨rfl,hk⟩|⟨rfl,S,n,hk⟩
    · obtain⟨SQ,_,pl,_⟩:=I.list hq;refine⟨pl.isList.typeIs,fun a e=>?_⟩;cases e;obtain⟨o,n,e,c,hd,_⟩:=pl;exact⟨o,e,hd⟩
    · refine⟨⟨o,I.kIn p o hk,hc⟩,fun a e=>?_⟩;cases e;exact⟨o,I.kIn _ o hk,hd⟩
    · have z:∃ o,s.heap.get? p=some o/\o.ExactDict:=by
        rcases hk with⟨SN,hk⟩|⟨SN,hk⟩
        · obtain⟨_,_,_,_,o,_,_,e,ex,_⟩:=I.SS p _ hk;exact⟨o,e,ex⟩
        · obtain⟨_,_,_,_,o,_,_,e,ex,_⟩:=I.SS p _ hk;exact⟨o,e,ex⟩
      obtain⟨o,e,ex⟩:=z;refine⟨⟨o,e,ex.1⟩,fun a e2=>?_⟩;cases e2;exact⟨o,e,ex.2.1⟩
    · obtain⟨o,_,_,_,e,ex,_⟩:=I.SS p _ hk;refine⟨⟨o,e,ex.1⟩,fun a e2=>?_⟩;cases e2;exact⟨o,e,ex.2.1⟩
  | _=>exact False.elim ty
noncomputable def Ss(K:q0B)(T:String)(r:V->List V->Hp->VK->Prop)(to:TE)(t:TA):TE:=fun σ H Q=>to σ H fun x H1=>Ri K T x H1/\t σ H1 fun xs H2=>r x xs H2 Q
variable {o e:Expr} {es:List Expr} {to:TE} {t:TA} {name:Str} {apos SV:Pos} {T id:String} {r:V->List V->Hp->VK->Prop}
theorem AX(pa:PlainAttrs T)(slot:Slot T name id)(Zp:typeOf (.builtin id)=pure (.type "method_descriptor"))(hm:Hi X id r)(ho:PE X o to)(ha:PA X (e::es) t)
    (TV:attributeBase o name X.env (eval o X.env)=eval o X.env:=by rfl)
    (UU:((backTo SV (starEach (e::es) X.env)).all (fun x=>!x.1)&&(backToKw SV (keywordEach [] X.env)).all (fun x=>x.1.isSome)
     &&decide ((e::es).length+([]:List Keyword).length+(if ([]:List Keyword).isEmpty then 0 else 1) < 30))=true:=by rfl)
    (TY:(apos.endLine==SV.line)=true:=by rfl) (hs:starEach (e::es) X.env=(false,eval e X.env)::starEach es X.env:=by rfl) (Tv:(backTo SV (starEach es X.env)).any (·.1)=false:=by rfl) :
    PE X (.Call (.Attribute o name apos) (e::es) [] SV) (Ss X.K T r to t):=by
  intro SK s σ H Q I h;refine wpAny_Call_method_late TV UU TY rfl (thn (ho SK s σ H _ I h) fun v s1 ⟨x,H1,I1,r1,ty,q1⟩=>?_);obtain⟨h1,h2⟩:=Ci I1 r1 ty;refine⟨T,id,pa,slot,Zp,h1,h2,?_⟩;have hA:=ha SV SK s1 σ H1 _ I1 q1;rw[hs] at hA ⊢;refine Calls.callWith_builtin (by show(false||(backTo SV (starEach es X.env)).any (·.1))=false;rw[Tv]<;>rfl) (Calls.evalArgs_plain ?_);exact thn hA fun us s2 ⟨vs,H2,I2,r2,q2⟩=>hm SK s2 σ H2 x vs v us Q I2 r1 r2 q2
/- xs.append(e),list.index on a module's tuple .. are Hi facts of 06m -/
end
noncomputable def Rb(X:Cx)(id:String)(r:V->List V->Hp->VK->Prop):Prop :=
 ∀(SK:List (Addr×Obj)) (s:Shared) (σ:St) (H:Hp) (x:V) (xs:List V) (v:Value) (us:List Value) (Q:VK),SO X SK σ H s->bJ x v->Vals xs us->r x xs H Q ->
  wpAny (model X.prog X.w) X.A (call (.builtin id) (v::us)) (EP X SK σ Q) X.xe s
theorem Vals.one{x:V}{us:List Value}(h:Vals [x] us):∃ u,us=[u]/\bJ x u:=by
 cases h with
 | cons r t=>cases t;exact⟨_,rfl,r⟩
theorem Vals.two:∀ {x y:V} {us:List Value},Vals [x,y] us->∃ u v,us=[u,v]/\bJ x u/\bJ y v
 | _,_,_,.cons r (.cons q .nil)=>⟨_,_,rfl,r,q⟩
theorem Vals.zero:∀ {us:List Value},Vals [] us->us=[]
 | _,.nil=>rfl
theorem Vals.dropLast{xs:List V}{us:List Value}(h:Vals xs us):Vals xs.dropLast us.dropLast:=by
 induction h with
 | nil=>exact .nil
 | cons r t ih =>
  cases t with
  | nil=>exact .nil
  | cons q t'=>exact .cons r ih
theorem Vals.eraseIdx:∀ {xs:List V} {us:List Value} (i:Nat),Vals xs us->Vals (xs.eraseIdx i) (us.eraseIdx i)
 | _,_,_,.nil=>.nil
 | _,_,0,.cons _ t=>t
 | _,_,i+1,.cons r t=>.cons r (Vals.eraseIdx i t)
theorem xA{α:Type}:∀(l:List α) (i:Nat),(l.eraseIdx i).length<=l.length
 | [],_=>Nat.le_refl _
 | _::_,0=>Nat.le_succ _
 | _::r,i+1=>Nat.succ_le_succ (xA r i)
section
variable {X:Cx} {SK:List (Addr×Obj)} {σ:St} {H:Hp} {s:Shared} {l b:Addr} {xs ys zs:List V}
theorem SO.P5{SQ its':List Value}{n:Nat}{f:Array Value->Array Value}{t':Nat}(I:SO X SK σ H s)(hH:H l=some (.lst xs))
    (e:s.heap.get? l=some {cls:=.type "list",data:=.seq SQ.toArray n}) (hf:f SQ.toArray=its'.toArray) (hv:Vals ys its') (hz:ys.length<=sizeLine) :
    SO X SK σ (SM H l (.lst ys)) {s with heap:=s.heap.update l (Obj.mapSeq f),toks:=t'}:=by
  have q:=PySem.IsL.update e f;rw[hf] at q;refine I.write (x:=l) (e:=l) (by rw[hH];exact trivial) (.inl rfl) (fun b' u hb hu=>(Heap.get?_update_other s.heap (Obj.mapSeq f) (Ne.symm hb)).trans hu) ⟨_,q⟩ ?_;exact⟨hz,its',_,hv,q⟩
theorem SO.Sa{SQ:List Value}{t':Nat}(I:SO X SK σ H s)(hv:Vals ys SQ)(hz:ys.length<=sizeLine) :
    SO X SK σ (SM H s.heap.objs.size (.lst ys)) {s with heap:=s.heap.push {cls:=.type "list",data:=.seq SQ.toArray},toks:=t'} :=
  I.laid (fun _ _ q=>Heap.get?_push_of_some _ q) (Nat.le_refl _) ⟨hz,SQ,0,hv,Heap.get?_push_size _ rfl⟩
theorem SO.fresh(I:SO X SK σ H s):H s.heap.objs.size=none:=I.SS.fresh (Nat.le_refl _)
theorem SO.IS(I:SO X SK σ H s)(hH:H l=some (.lst xs)):xs.length<=sizeLine/\∃(SQ:List Value) (n:Nat),Vals xs SQ/\xs.length=SQ.length/\s.heap.get? l=some {cls:=.type "list",data:=.seq SQ.toArray n}:=by
 obtain⟨z,SQ,n,r,e⟩:=I.SS l _ hH;exact⟨z,SQ,n,r,r.length,e⟩
end
section
variable {X:Cx}
noncomputable def Js:V->List V->Hp->VK->Prop:=fun x vs H Q=>∃ l xs y,x=.ref l/\vs=[y]/\H l=some (.lst xs)/\xs.length < sizeLine/\Q .SR (SM H l (.lst (xs++[y])))
theorem DL:Rb X "list.append" Js:=by
 intro SK s σ H x vs v us Q I rx rv h;obtain⟨l,xs,y,rfl,rfl,hH,hz,q⟩:=h;cases rx;obtain⟨u,rfl,ru⟩:=rv.one;obtain⟨z,SQ,n,r,hl,e⟩:=I.IS hH;refine call_meets F.slot_list_append ⟨_,e,rfl⟩ F.entry_list_append (F.args_list_append_2 _ _) (PySem.list_append l SQ.toArray n u (by rw[List.size_toArray];omega)) ⟨e,?_⟩;refine⟨.SR,_,I.P5 (its':=SQ++[u]) hH e (by simp) (r.append (.cons ru .nil)) ?_,rfl,q⟩;rw[List.length_append,List.length_singleton];omega
noncomputable def Nl:V->List V->Hp->VK->Prop:=fun x vs H Q=>∃ l xs i k y,x=.ref l/\vs=[.int i]/\H l=some (.lst xs)/\-(2 ^ 63)<=i/\i < 2 ^ 63/\seqIndex? i xs.length=some k/\xs[k]?=some y/\Q y (SM H l (.lst (xs.eraseIdx k)))
theorem FT:Rb X "list.pop" Nl:=by
 intro SK s σ H x vs v us Q I rx rv h;obtain⟨l,xs,i,k,y,rfl,rfl,hH,h1,h2,hk,hy,q⟩:=h;cases rx;obtain⟨u,rfl,ru⟩:=rv.one;obtain⟨t,rfl⟩:=ru;obtain⟨z,SQ,n,r,hl,e⟩:=I.IS hH;obtain⟨w,hw,Xe⟩:=r.get hy;refine call_meets F.slot_list_pop ⟨_,e,rfl⟩ F.entry_list_pop (F.args_list_pop_2 _ _)
  (MeetsSeq.list_pop_at l SQ.toArray n i t k w (fitsIndex_both h1 h2) (by rw[List.size_toArray,<- hl];exact hk) (by rw[<- Array.getElem?_toList];exact hw) (by rw[List.size_toArray];omega)) ⟨e,?_⟩
 refine⟨y,_,I.P5 (its':=SQ.eraseIdx k) hH e ?_ (r.eraseIdx k) ?_,Xe,q⟩
 ·show SQ.toArray.eraseIdxIfInBounds k=(SQ.eraseIdx k).toArray;rw[List.eraseIdxIfInBounds_toArray]
 ·have:=xA xs k;omega
noncomputable def Se:R2:=fun x y H Q=>∃ l b xs zs,x=.ref l/\y=.ref b/\H l=some (.lst xs)/\H b=some (.lst zs)/\xs.length+zs.length<=sizeLine/\∀ p,H p=none->Q (.ref p) (SM H p (.lst (xs++zs)))
theorem Nc:h9 X (binaryOp .Add) Se:=by
 intro SK s σ H x y v u Q I rx ry h;obtain⟨l,b,xs,zs,rfl,rfl,hH,hB,hz,q⟩:=h;cases rx;cases ry;obtain⟨z,SQ,n,r,hl,e⟩:=I.IS hH;obtain⟨z2,TZ,n2,r2,Zg,e2⟩:=I.IS hB;refine PySem.P.add_list e e2 ?_ (by rw[List.size_toArray,List.size_toArray];omega);have ea:SQ.toArray++TZ.toArray=(SQ++TZ).toArray:=by simp
 rw[ea];exact⟨.ref _,_,I.Sa (t':=s.toks) (r.append r2) (by rw[List.length_append];omega),rfl,q _ I.fresh⟩
end
section
variable {κ:Type} [DecidableEq κ]
noncomputable def cQ(SN:List (κ×V))(k:κ):Option V:=(SN.find? fun kv=>decide (kv.1=k)).map (·.2)
noncomputable def iY(SN:List (κ×V))(k:κ)(v:V):List (κ×V) :=
 if (SN.any fun kv=>decide (kv.1=k))=true then SN.map (fun kv=>if kv.1=k then (kv.1,v) else kv) else SN++[(k,v)]
noncomputable def wQ(SN:List (κ×V))(k:κ):List (κ×V):=SN.filter fun kv=>decide (kv.1≠k)
theorem u9{p:κ×V}{r:List (κ×V)}{k:κ}(e:p.1=k):cQ (p::r) k=some p.2:=by simp[cQ,List.find?_cons,e]
theorem u6{p:κ×V}{r:List (κ×V)}{k:κ}(e:¬ p.1=k):cQ (p::r) k=cQ r k:=by simp[cQ,List.find?_cons,e]
theorem lN(k:κ):∀ SN:List (κ×V),(SN.any fun kv=>decide (kv.1=k))=(cQ SN k).isSome
 | []=>rfl
 | p::r=>by
  rw[List.any_cons];by_cases e:p.1=k
  ·simp only[u9 e,decide_eq_true e,Bool.true_or,Option.isSome_some]
  ·rw[u6 e,decide_eq_false e,Bool.false_or];exact lN k r
theorem Gv{SN:List (κ×V)}{k:κ}(v:V)(h:cQ SN k=none):iY SN k v=SN++[(k,v)]:=by
 unfold iY;rw[lN,h];exact if_neg (by decide)
theorem l9.DB{o:Option V}{u:Option Value}(r:l9 o u):o.isSome=u.isSome:=by
 cases o with
 | none=>cases u with
  | none=>rfl
  | some _=>exact(show False from r).elim
 | some _=>cases u with
  | none=>exact(show False from r).elim
  | some _=>rfl
theorem l9.getD{o:Option V}{u:Option Value}{d:V}{d':Value}(r:l9 o u)(rd:bJ d d'):bJ (o.getD d) (u.getD d'):=by
 cases o with
 | none=>cases u with
  | none=>exact rd
  | some _=>exact(show False from r).elim
 | some _=>cases u with
  | none=>exact(show False from r).elim
  | some _=>exact r
theorem KV.val{SN:List (κ×V)}{vs:List (κ×Value)}(r:KV SN vs)(k:κ):l9 (cQ SN k) (valueAt vs k):=by
 unfold KV at r
 induction r with
 | nil=>exact True.intro
 | @cons p q ps qs h t ih =>
  obtain⟨h1,h2⟩:=h;by_cases e:p.1=k
  ·have e':q.1=k:=h1.symm.trans e;have b:valueAt (q::qs) k=some q.2:=by simp[valueAt,List.find?_cons,e']
   rw[u9 e,b];exact h2
  ·have e':¬ q.1=k:=fun z=>e (h1.trans z);have b:valueAt (q::qs) k=valueAt qs k:=by simp[valueAt,List.find?_cons,e']
   rw[u6 e,b];exact ih
theorem KV.any{SN:List (κ×V)}{vs:List (κ×Value)}(r:KV SN vs)(k:κ):(SN.any fun kv=>decide (kv.1=k))=vs.any fun kv=>decide (kv.1=k):=by
 unfold KV at r
 induction r with
 | nil=>rfl
 | cons h t ih=>rw[List.any_cons,List.any_cons,ih,h.1]
theorem KV.Nq{SN:List (κ×V)}{vs:List (κ×Value)}(r:KV SN vs)(k:κ){y:V}{u:Value}(ry:bJ y u) :
    KV (SN.map fun kv=>if kv.1=k then (kv.1,y) else kv) (vs.map fun kv=>if kv.1=k then (kv.1,u) else kv):=by
  unfold KV at r ⊢
  induction r with
  | nil=>exact .nil
  | @cons p q ps qs h t ih =>
    rw[List.map_cons,List.map_cons];refine .cons ?_ ih;obtain⟨h1,h2⟩:=h;by_cases e:p.1=k
    · rw[if_pos e,if_pos (h1.symm.trans e)];exact⟨h1,ry⟩
    · rw[if_neg e,if_neg (fun z=>e (h1.trans z))];exact⟨h1,h2⟩
theorem KV.put{SN:List (κ×V)}{vs:List (κ×Value)}(r:KV SN vs)(k:κ){y:V}{u:Value}(ry:bJ y u):KV (iY SN k y) (stored vs k u):=by
 unfold iY stored;rw[r.any k];by_cases e:(vs.any fun kv=>decide (kv.1=k))=true
 ·rw[if_pos e,if_pos e];exact r.Nq k ry
 ·rw[if_neg e,if_neg e];exact Paired.snoc r ⟨rfl,ry⟩
theorem KV.drop{SN:List (κ×V)}{vs:List (κ×Value)}(r:KV SN vs)(k:κ):KV (wQ SN k) (without vs k):=by
 unfold KV at r ⊢;unfold wQ without
 induction r with
 | nil=>exact .nil
 | @cons p q ps qs h t ih =>
  obtain⟨h1,h2⟩:=h;rw[List.filter_cons,List.filter_cons];by_cases e:p.1=k
  ·have a:¬ decide (p.1≠k)=true:=by simp[e]
   have b:¬ decide (q.1≠k)=true:=by simp[h1.symm.trans e]
   rw[if_neg a,if_neg b];exact ih
  ·have e':¬ q.1=k:=fun z=>e (h1.trans z);have a:decide (p.1≠k)=true:=by simp[e]
   have b:decide (q.1≠k)=true:=by simp[e']
   rw[if_pos a,if_pos b];exact .cons ⟨h1,h2⟩ ih
theorem KV.keys{SN:List (κ×V)}{vs:List (κ×Value)}(r:KV SN vs):SN.map (·.1)=vs.map (·.1):=by
 unfold KV at r
 induction r with
 | nil=>rfl
 | cons h t ih=>rw[List.map_cons,List.map_cons,ih,h.1]
theorem KV.length{SN:List (κ×V)}{vs:List (κ×Value)}(r:KV SN vs):SN.length=vs.length:=Paired.length r
end
theorem P1{P:Program}{w:World}{k:Key}{u:Value}(r:bJ (kV k) u):(eU P w).is k u=true:=by
 cases k with
 | inl i=>obtain⟨t,e⟩:=(show ∃ t,u=Value.int i t from r);subst e;exact AI P w i t
 | inr x=>obtain⟨t,e⟩:=(show ∃ t,u=Value.str x t from r);subst e;exact qV P w x t
 | no=>cases (show u=Value.none from r);rfl
theorem w8{P:Program}{w:World}:∀ {ks:List Key} {us:List Value},Vals (ks.map kV) us->ItemsAre (eU P w) ks us
 | [],_,r=>by rw[List.map_nil] at r;cases r;exact .nil
 | k::ks,_,r=>by
  rw[List.map_cons] at r;cases r with
  | cons h t=>exact .cons (P1 h) (w8 t)
noncomputable abbrev KT(H:Hp):List (List Key×V)->List (List Key×Addr×Value)->Prop:=Paired fun p q=>p.1=q.1/\H q.2.1=some (.tup (p.1.map kV))/\bJ p.2 q.2.2
theorem KT.val{H:Hp}{SN:List (List Key×V)}{xs:List (List Key×Addr×Value)}(r:KT H SN xs)(k:List Key):l9 (cQ SN k) ((atKey xs k).map (·.2)):=by
 induction r with
 | nil=>exact True.intro
 | @cons p q ps qs h t ih =>
  obtain⟨h1,_,h2⟩:=h;by_cases e:p.1=k
  ·have e':q.1=k:=h1.symm.trans e;have b:atKey (q::qs) k=some q.2:=by simp[atKey,List.find?_cons,e']
   rw[u9 e,b];exact h2
  ·have e':¬ q.1=k:=fun z=>e (h1.trans z);have b:atKey (q::qs) k=atKey qs k:=by simp[atKey,List.find?_cons,e']
   rw[u6 e,b];exact ih
theorem KT.Nq{H:Hp}{SN:List (List Key×V)}{xs:List (List Key×Addr×Value)}(r:KT H SN xs)(k:List Key){y:V}{u:Value}(ry:bJ y u) :
    KT H (SN.map fun kv=>if kv.1=k then (kv.1,y) else kv) (xs.map (putAt k u)):=by
  induction r with
  | nil=>exact .nil
  | @cons p q ps qs h t ih =>
    rw[List.map_cons,List.map_cons];refine .cons ?_ ih;obtain⟨h1,h2,h3⟩:=h;unfold putAt;by_cases e:p.1=k
    · rw[if_pos e,if_pos (h1.symm.trans e)];exact⟨h1,h2,ry⟩
    · rw[if_neg e,if_neg (fun z=>e (h1.trans z))];exact⟨h1,h2,h3⟩
theorem KT.put{H:Hp}{SN:List (List Key×V)}{xs:List (List Key×Addr×Value)}(r:KT H SN xs)(k:List Key){b:Addr}{y:V}{u:Value}(hb:H b=some (.tup (k.map kV)))(ry:bJ y u) :
    KT H (iY SN k y) (storedH xs k b u):=by
  have e:(SN.any fun kv=>decide (kv.1=k))=(atKey xs k).isSome:=by
    rw[lN,(r.val k).DB,Option.isSome_map]
  unfold iY storedH;rw[e];by_cases q:(atKey xs k).isSome=true
  · rw[if_pos q,if_pos q];exact r.Nq k ry
  · rw[if_neg q,if_neg q];exact Paired.snoc r ⟨rfl,hb,ry⟩
theorem KT.keeps{H H':Hp}{SN:List (List Key×V)}{xs:List (List Key×Addr×Value)}(r:KT H SN xs)(ht:∀ b ys,H b=some (.tup ys)->H' b=some (.tup ys)):KT H' SN xs :=
 Paired.M6 r fun _ _ z=>⟨z.1,ht _ _ z.2.1,z.2.2⟩
section
variable {P:Program} {w:World} {H:Hp} {h:Heap} {a:Addr}
theorem J6{u:HO}(ok:HOk P w H h)(e:Rd H a u):dU P w H h a u:=e.ok ok
theorem OA{SN:List (Key×V)}(ok:HOk P w H h)(e:Rd H a (.dK SN)):SN.length<=sizeLine/\(a==sysModules)=false/\∃ vs,KV SN vs/\h.DictOf (eU P w) a vs :=
 show dU P w H h a (.dK SN) from J6 ok e
theorem MX{ks:List Key}(ok:HOk P w H h)(e:H a=some (.tup (ks.map kV))):(tupleKind (eU P w)).is h ks a:=by
 obtain⟨_,SQ,r,o,h1,h2,n,h3⟩:=(show dU P w H h a (.tup (ks.map kV)) from ok a _ e);exact⟨o,SQ.toArray,n,h1,h2,h3,by simpa using w8 r⟩
theorem OB{SN:List (List Key×V)}(ok:HOk P w H h)(e:Rd H a (.dT SN)):SN.length<=sizeLine/\(a==sysModules)=false /\
    ∃ xs,KT H SN xs/\h.DictOfH (tupleKind (eU P w)) a xs:=by
  obtain⟨z,y,xs,r,o,es,ep,h1,h2,h3,h4,h5⟩:=(show dU P w H h a (.dT SN) from J6 ok e);refine⟨z,y,xs,r,o,es,ep,h1,h2,h3,h4,fun x hx=>?_,h5⟩;have all:∀ {l:List (List Key×V)} {m:List (List Key×Addr×Value)},KT H l m->∀ x∈m,(tupleKind (eU P w)).is h x.1 x.2.1:=by
    intro l m q
    induction q with
    | nil=>intro x hx;exact nomatch hx
    | @cons p q ps qs hq t ih =>
      intro x hx;rcases List.mem_cons.mp hx with e|hx
      · subst e;exact MX ok (by rw[<- hq.1];exact hq.2.1)
      · exact ih x hx
  exact all r x hx
end
noncomputable def Te(H:Hp)(a:Addr)(y:V)(r:Option V):Prop :=
 (∃ SN k,Rd H a (.dK SN)/\y=kV k/\r=cQ SN k)\/∃ SN k b,Rd H a (.dT SN)/\y=.ref b/\H b=some (.tup (k.map kV))/\r=cQ SN k
noncomputable def DPut(H:Hp)(a:Addr)(y v:V)(H':Hp):Prop :=
 (∃ SN k,H a=some (.dK SN)/\y=kV k/\SN.length < sizeLine/\H'=SM H a (.dK (iY SN k v))) \/
 ∃ SN k b,H a=some (.dT SN)/\y=.ref b/\H b=some (.tup (k.map kV))/\SN.length < sizeLine/\H'=SM H a (.dT (iY SN k v))
theorem Te.k{H:Hp}{a:Addr}{SN:List (Key×V)}{k:Key}(e:H a=some (.dK SN)):Te H a (kV k) (cQ SN k):=.inl ⟨SN,k,.inl e,rfl,rfl⟩
theorem Te.t{H:Hp}{a b:Addr}{SN:List (List Key×V)}{k:List Key}(e:H a=some (.dT SN))(eb:H b=some (.tup (k.map kV))):Te H a (.ref b) (cQ SN k):=.inr ⟨SN,k,b,.inl e,rfl,eb,rfl⟩
theorem DPut.k{H:Hp}{a:Addr}{SN:List (Key×V)}{k:Key}{v:V}(e:H a=some (.dK SN))(hl:SN.length < sizeLine):DPut H a (kV k) v (SM H a (.dK (iY SN k v))):=.inl ⟨SN,k,e,rfl,hl,rfl⟩
theorem DPut.t{H:Hp}{a b:Addr}{SN:List (List Key×V)}{k:List Key}{v:V}(e:H a=some (.dT SN))(eb:H b=some (.tup (k.map kV)))(hl:SN.length < sizeLine) :
    DPut H a (.ref b) v (SM H a (.dT (iY SN k v))):=.inr ⟨SN,k,b,e,rfl,eb,hl,rfl⟩
section
variable {X:Cx} {SK:List (Addr×Obj)} {σ:St} {H:Hp} {s:Shared} {a:Addr} {y v:V} {u r:Value} {o:Option V} {A:Around} {E:q0A}
end
section
variable {X:Cx} {SK:List (Addr×Obj)} {σ:St} {H:Hp} {s:Shared} {a:Addr} {SN:List (Key×V)} {k:Key} {u:Value} {A:Around} {E:q0A}
end
theorem Ao{X:Cx}{SK:List (Addr×Obj)}{σ:St}{H:Hp}{s:Shared}{a:Addr}{y:V}{o:Option V}(I:SO X SK σ H s)(g:Te H a y o):s.TypeIs (.ref a) "dict":=by
 rcases g with⟨SN,k,e,_,_⟩|⟨SN,k,b,e,_,_,_⟩
 ·obtain⟨_,_,vs,_,dd⟩:=OA I.SS e;exact dd.typeIs
 ·obtain⟨_,_,xs,_,dd⟩:=OB I.SS e;exact dd.typeIs
noncomputable def Kd(td ty:TE):TE:=fun σ H Q=>td σ H fun x H1=>ty σ H1 fun y H2=>∃ a v,x=.ref a/\Te H2 a y (some v)/\Q v H2
noncomputable def QB(ty td:TE):TE:=fun σ H Q=>ty σ H fun y H1=>td σ H1 fun x H2=>∃ a o,x=.ref a/\Te H2 a y o/\Q (.bl o.isSome) H2
section
variable {X:Cx} {o i e value:Expr} {pos pos' Wf:Pos} {td ty tv:TE}
end
noncomputable def NM:TE:=fun _ H Q=>∀ p,H p=none->Q (.ref p) (SM H p (.dK []))
section
variable {X:Cx} {pos:Pos}
end
noncomputable def GW:List (TE×TE)->St->Hp->(List (V×V)->Hp->Prop)->Prop
 | [],_,H,Q=>Q [] H
 | (tk,tv)::r,σ,H,Q=>tk σ H fun x H1=>tv σ H1 fun y H2=>GW r σ H2 fun ps H3=>Q ((x,y)::ps) H3
noncomputable abbrev VV:List (V×V)->List (Value×Value)->Prop:=Paired fun p q=>bJ p.1 q.1/\bJ p.2 q.2
noncomputable def PPs(X:Cx)(pos:Pos)(keys:List (Option Expr))(values:List Expr)(trs:List (TE×TE)):Prop :=
 ∀(SK:List (Addr×Obj)) (s:Shared) (σ:St) (H:Hp) (Q:List (V×V)->Hp->Prop),SO X SK σ H s->GW trs σ H Q ->
  wpAny (model X.prog X.w) X.A (evalPairs (pairTrees keys values X.env pos)) (fun vs s'=>∃ ps H',SO X SK σ H' s'/\VV ps vs/\Q ps H') X.xe s
noncomputable def FJ(SN more:List (Key×V)):List (Key×V):=more.foldl (fun acc kv=>iY acc kv.1 kv.2) SN
structure M1(X:Cx)(o:Expr)(m:Str)(apos:Pos)(e:Expr)(SV:Pos):Prop where
 base:attributeBase o m X.env (eval o X.env)=eval o X.env
 few:((backTo SV (starEach [e] X.env)).all (fun x=>!x.1)&&(backToKw SV (keywordEach [] X.env)).all (fun x=>x.1.isSome)
 &&decide (([e]:List Expr).length+([]:List Keyword).length+(if ([]:List Keyword).isEmpty then 0 else 1) < 30))=true
 line:(apos.endLine==SV.line)=true
 trees:backTo SV (starEach [e] X.env)=[(false,eval e X.env)]
structure M2(X:Cx)(o:Expr)(m:Str)(apos:Pos)(e f:Expr)(SV:Pos):Prop where
 base:attributeBase o m X.env (eval o X.env)=eval o X.env
 few:((backTo SV (starEach [e,f] X.env)).all (fun x=>!x.1)&&(backToKw SV (keywordEach [] X.env)).all (fun x=>x.1.isSome)
 &&decide (([e,f]:List Expr).length+([]:List Keyword).length+(if ([]:List Keyword).isEmpty then 0 else 1) < 30))=true
 line:(apos.endLine==SV.line)=true
 trees:backTo SV (starEach [e,f] X.env)=[(false,eval e X.env),(false,eval f X.env)]
noncomputable def Ra(H:Hp)(a:Addr):Prop:=(∃ SN,Rd H a (.dK SN))\/∃ SN,Rd H a (.dT SN)
section
variable {X:Cx} {SK:List (Addr×Obj)} {σ:St} {H:Hp} {s:Shared} {a:Addr} {y d:V} {u r:Value} {o:Option V} {A:Around} {E:q0A}
end
noncomputable def GQ(td ty:TE):TE:=fun σ H Q=>td σ H fun x H1=>∃ a,x=.ref a/\Ra H1 a/\ty σ H1 fun y H2=>∃ o,Te H2 a y o/\Q (o.getD .SR) H2
noncomputable def GR(td ty tx:TE):TE:=fun σ H Q=>td σ H fun x H1=>∃ a,x=.ref a/\Ra H1 a/\ty σ H1 fun y H2=>tx σ H2 fun z H3=>∃ SN k,H3 a=some (.dK SN)/\y=kV k /\
 (∀ v,cQ SN k=some v->Q v (SM H3 a (.dK (wQ SN k))))/\(cQ SN k=none->Q z H3)
section
variable {X:Cx} {o e f:Expr} {apos SV:Pos} {td ty tx:TE}
end
section
variable {X:Cx} {SK:List (Addr×Obj)} {σ:St} {H:Hp} {s:Shared} {a:Addr} {SN:List (Key×V)} {A:Around} {E:q0A}
end
section
variable {X:Cx} {SK:List (Addr×Obj)} {σ:St} {H:Hp} {s:Shared} {a:Addr} {y:V} {u:Value} {A:Around} {E:q0A}
end
end L2
namespace Att
open PySem PySem.W PySem.Calls PyProof.Rows
theorem rF{P:Params}{h:Heap}:∀(ns:List Int) (vs:List Value),WellAll P h vs (ns.map WData.int)->IntsAre vs ns:=by
 intro ns
 induction ns with
 | nil =>
  intro vs w;rw[List.map_nil] at w;cases w;exact .nil
 | cons n ns ih =>
  intro vs w;rw[List.map_cons] at w;cases w with
  | cons a b =>
   cases a;exact .cons _ _ (ih _ b)
theorem DX{l:OpenLaw}{n:Nat}(hn:l.most=some n){P:Params}{h:Heap}{args:List WData}{vals:List Value}
    (Vs:l.row.toRowW.claim.pre args=true) (V8:WellAll P h vals args) :
    ∃ a vs ns,vals=[Value.ref a]/\args=[WData.list (ns.map WData.int)]/\h.get? a=some {cls:=.type "list",data:=.seq vs.toArray}/\IntsAre vs ns/\ns.length<=n:=by
  have hsh:WShape.hasAll [] args [.list .int]=true:=(pre_splitW Vs).1;have hc:l.pre.holds [] {args:=args}=true:=(pre_splitW Vs).2;obtain⟨d,r,rfl,h1,h2⟩:=hasAllW_cons hsh;obtain rfl:=hasAllW_nil h2;obtain⟨xs,rfl,h3⟩:=hasW_list h1;obtain⟨ns,rfl⟩:=items_int h3;have hlen:ns.length<=n:=by
    unfold OpenLaw.pre at hc;have h4:(WTm.not (.lt (.lit (.int (n:Int))) (.len (.arg 0)))).holds [] {args:=[.list (ns.map .int)]}=true:=by
      have h4:=(holds_andW hc).1;rw[hn] at h4;exact h4
    have h5:=condW_of h4 (w_not (w_lt w_lit (w_len_list (w_arg rfl))));rw[List.length_map] at h5;refine Nat.le_of_not_lt fun q=>?_;have q':(n:Int) < ((ns.length:Nat):Int):=by omega
    first
      | (rw[decide_eq_true q'] at h5;exact absurd h5 (by decide))
      | (simp at h5;omega)
  cases V8 with
  | cons w1 w2 =>
    cases w2;cases w1 with
    | list ho Y5=>exact⟨_,_,ns,rfl,rfl,ho,rF ns _ Y5,hlen⟩
theorem DT(l:OpenLaw)(args:List WData):l.row.toRowW.claim.post args (.bool true) args=true :=
 postW_of (r:=l.row.toRowW) (X:=(true==true))
  (show WShape.has [] (.bool true) .bool=true by first|rfl|decide|simp[WShape.has,WShape.arms,WShape.armsAll])
  (show(WTm.eq .res (.lit (.bool true))).value [] {args:=args,res:=some (.bool true),after:=args}=some (.bool (true==true)) from w_eq_bool (w_res rfl) w_lit) rfl
theorem Ag{l:OpenLaw}{n:Nat}{q:Program}{loose:List Str}{XP:(q0C)->Heap->Prop}{YP:World->Heap->Prop}{d:DefRec}
    (hn:l.most=some n) (Vp:d.params.defaults=[])
    (call:∀(w:World) (s₀ s₁:Shared) (mg mb:q0C) (fa:Addr) (o:Obj) (pm cd doc:Value) (a:Addr) (vs:List Value) (ns:List Int),
      Ground q loose [] XP w s₀ mg mb s₁.heap->YP w s₁.heap ->
      s₁.heap.get? fa=some o->o.data=.func (docDef d.name d.params d.body d.scope pm cd doc)->s₁.heap.CodeRec cd d.name->mg d.name=some (.ref fa) ->
      s₁.heap.get? a=some {cls:=.type "list",data:=.seq vs.toArray}->IntsAre vs ns->ns.length<=n->s₁.gens = #[] ->
      codeAny (model l.prog w) callerA (.call (.ref fa) ⟨[.ref a],[]⟩) (fun r s'=>r=.ok (.ret (.bool true))/\OldK s₁.heap s'.heap/\s'.os=s₁.os/\AllBare s'.gens) s₁) :
    WalkO q loose XP YP l.row.toRowW d [] (fun f vs=>PySem.call f vs):=by
  intro w s₀ s₁ mg mb G Y fa o pm cd doc dV kV ho hd Ux hD WQ hg args vals as Vs aaD hrd V8 XJ;obtain rfl:dV=.none:=Dflts.none hD Vp;obtain rfl:kV=.none:=Dflts.noKw hD;obtain⟨a,vs,ns,rfl,rfl,V6,hints,hlen⟩:=DX hn Vs V8;refine enter_call (codeAny_mono (call w s₀ s₁ mg mb fa o pm cd doc a vs ns G Y ho (fd_plain hd) Ux WQ V6 hints hlen hg) fun r s' hq=>?_);obtain⟨rfl,h2,h3,h4⟩:=hq;exact⟨.inl ⟨.bool true,.bool true,[],rfl,fun _=>rfl,.bool true,DT l _,fun _=>⟨List.Pairwise.nil,fun _ hm=>(nomatch hm)⟩⟩,h2,h3,h4⟩
section
variable {prog:Program} {w:World} {A:Around} {E:q0A} {s:Shared} {K:Frag}
noncomputable def ledger(h:Heap)(L d:Addr):List (Addr×Obj):=(List.range h.objs.size).filterMap fun a=>if a=L\/a=d then none else (h.get? a).map fun o=>(a,o)
end
end Att
namespace L2
open PySem PySem.Spec PyProof.Rows
theorem x8:∀ {vs:List Value} {ns:List Int},IntsAre vs ns->Vals (ns.map V.int) vs
 | _,_,.nil=>.nil
 | _,_,.cons n t h=>.cons ⟨t,rfl⟩ (x8 h)
noncomputable def Only(H:Hp):Prop:=∀ b,H b=none\/∃ o xs,H b=some (.Tn o (.lst xs))
theorem Fy{P:Program}{w:World}{K:q0B}{mg mb:q0C}{CX:CXT}{k:Nat}{fa a:Addr}{fd:FuncData}{x:Str}{sp:Sp}{s₁:Shared}{vs:List Value}{ns:List Int}
    (KX:K.In s₁.heap) (hns:s₁.heap.Ns mainGlobals mg) (hb:s₁.heap.Ns builtinsNs mb) (hbb:∀ x:Str,x≠"__name__"->mb x=bootBuiltins x) (Zh:s₁.heap.NoLimit) (hg:s₁.gens = #[])
    (ha:s₁.heap.get? a=some {cls:=.type "list",data:=.seq vs.toArray}) (hi:IntsAre vs ns) (hl:ns.length<=sizeLine) (hr:Room k callerA)
    (F:∀ base:Heap,K.In base->base.Ns mainGlobals mg->bL P w K mg base CX k fa fd [x] sp) (WN:∀(s:Shared) (u:Value),BindsTo s fd ⟨[u],[]⟩ [(x,u)])
    (Vi:∀ H:Hp,Only H->dS K H a (ns.map V.int)->sp [.ref a] H (fun v _=>v=.bl true) fun _ _ _=>False)
    (YZ:∀ H e s',CX [] H s₁ (fun _ _ _=>False) e s'->False) :
    codeAny (model P w) callerA (.call (.ref fa) ⟨[.ref a],[]⟩) (fun r s'=>r=.ok (.ret (.bool true))/\OldK s₁.heap s'.heap/\s'.os=s₁.os/\AllBare s'.gens) s₁:=by
  have rv:=x8 hi;have ZA:=hi.length
  -- from an abstract heap in which nothing but the script may be tracked
  have core:∀ H:Hp,Only H->dS K H a (ns.map V.int)->HOk P w H s₁.heap->(∀ b,H b≠none->b=a)->(H a≠none->K.lookup a=none) ->
      codeAny (model P w) callerA (.call (.ref fa) ⟨[.ref a],[]⟩) (fun r s'=>r=.ok (.ret (.bool true))/\OldK s₁.heap s'.heap/\s'.os=s₁.os/\AllBare s'.gens) s₁:=by
    intro H hO hS SS hA hK;have Up:∀ {b:Addr} {o:Obj},s₁.heap.get? b=some o->H b=none->(yT s₁.heap H).get? b=some o:=fun e n=>Fn e n;have Xa:∀ {b:Addr} {o:Obj} {es:Array DictEntry} {ep:Nat},s₁.heap.get? b=some o->o.data=.dict es ep->H b=none:=fun {b o es ep} e d=>by
      cases q:H b with
      | none=>rfl
      | some u =>
        have e':b=a:=hA b (by rw[q];simp);subst e';rw[ha] at e;cases e;have d':Data.seq vs.toArray _=Data.dict es ep:=d;cases d'
    have XX:∀ {b:Addr} {m:q0C},s₁.heap.Ns b m->(yT s₁.heap H).Ns b m:=fun {b m} ⟨o,es,ep,e,d,r⟩=>⟨o,es,ep,Up e (Xa e d),d,r⟩;have hKb:K.In (yT s₁.heap H):=fun b o e=>Up (KX b o e) (by
      cases q:H b with
      | none=>rfl
      | some u =>
        have e':b=a:=hA b (by rw[q];simp);subst e';rw[hK (by rw[q];simp)] at e;cases e)
    have hM:Mod K mg (yT s₁.heap H):=⟨hKb,XX hns,⟨mb,XX hb,hbb⟩,let ⟨mc,h1,h2⟩:=Zh;⟨mc,XX h1,h2⟩⟩;have e0:Env0 P w K mg (yT s₁.heap H) callerA [] s₁ H:=⟨rfl,hM,fun b o e=>Jh e,Nat.le_of_eq (Dz _ _),trivial,fun b hb=>absurd (show b∈([]:List Addr) from hb) (by simp),SS,.of_eq hg⟩;refine codeAny_mono ((F _ hKb (XX hns)).run callerA [] s₁ H ⟨[.ref a],[]⟩ [.ref a] [.ref a] _ _ hr e0 (WN s₁ (.ref a)) (.cons rfl .nil) (Vi H hO hS)) fun r s' h=>?_;cases r with
    | error e=>exact(YZ H e s' h).elim
    | ok fl =>
      cases fl with
      | next=>exact False.elim h
      | brk=>exact False.elim h
      | cont=>exact False.elim h
      | ret u =>
        obtain⟨v,H',os,bare,un,Zl,r',q⟩:=h;have q':v=.bl true:=q;subst q';obtain rfl:u=Value.bool true:=r';refine⟨rfl,OldK.of_keep fun b o e=>?_,os,bare⟩;cases q:H b with
        | none=>exact un.keep b o e q (by intro z;exact absurd (show b∈([]:List Addr) from z) (by simp)) (by simp)
        | some u =>
          rcases hO b with z|⟨ob,xs,z⟩
          · rw[q] at z;cases z
          · have z2:=un.kD b ob _ z;obtain⟨e1,_⟩:=SS b _ z;obtain⟨e2,_⟩:=Zl b _ z2;rw[e] at e1;cases e1;exact e2
  cases hk:K.lookup a with
  | some o =>
    -- the script is one of the module's own objects
    have e:=KX a o hk;rw[ha] at e;cases e;refine core (fun _=>none) (fun _=>.inl rfl) (.inr ⟨_,vs.toArray,_,hk,rfl,rfl,rfl,by rw[List.size_toArray,ZA];exact hl,by simpa using rv⟩) (fun b u z=>by have z':(none:Option HO)=some u:=z;cases z') (fun b z=>absurd rfl z) fun z=>absurd rfl z
  | none =>
    refine core (fun b=>if b=a then some (.Tn {cls:=.type "list",data:=.seq vs.toArray} (.lst (ns.map V.int))) else none) (fun b=>?_) (.inl (.inr ⟨{cls:=.type "list",data:=.seq vs.toArray},if_pos rfl⟩)) (fun b u z=>?_) (fun b z=>?_) fun _=>hk
    · by_cases hb:b=a
      · exact .inr ⟨_,_,if_pos hb⟩
      · exact .inl (if_neg hb)
    · by_cases hb:b=a
      · have z':=(if_pos hb).symm.trans z;cases z';subst hb;exact⟨ha,by rw[List.length_map];exact hl,vs,_,rv,ha⟩
      · have z':=(if_neg hb).symm.trans z;cases z'
    · by_cases hb:b=a
      · exact hb
      · exact absurd (if_neg hb) z
theorem JL{l:PySem.W.OpenLaw}{n k:Nat}{q:Program}{loose:List Str}{XP:(q0C)->Heap->Prop}{YP:World->Heap->Prop}{d:DefRec}{K:Params->q0B}{CX:World->CXT}{sp:World->Sp}{x:Str}
    (hn:l.most=some n) (UW:n<=sizeLine) (Vp:d.params.defaults=[]) (hr:Room k callerA)
    (hY:∀(w:World) (h:Heap),YP w h->(K w.params).In h)
    (F:∀(w:World) (mg:q0C) (fa:Addr) (h:Heap),(K w.params).In h->h.Ns mainGlobals mg->mg d.name=some (.ref fa) ->
      ∃ fd:FuncData,(∀(s:Shared) (u:Value),BindsTo s fd ⟨[u],[]⟩ [(x,u)]) /\
        ∀ base:Heap,(K w.params).In base->base.Ns mainGlobals mg->bL l.prog w (K w.params) mg base (CX w) k fa fd [x] (sp w))
    (Vi:∀(w:World) (H:Hp) (a:Addr) (ns:List Int),ns.length<=n->Only H->dS (K w.params) H a (ns.map V.int)->sp w [.ref a] H (fun v _=>v=.bl true) fun _ _ _=>False)
    (YZ:∀(w:World) (H:Hp) (s:Shared) (e:Value) (s':Shared),CX w [] H s (fun _ _ _=>False) e s'->False) :
    PySem.W.WalkO q loose XP YP l.row.toRowW d [] (fun f vs=>PySem.call f vs):=by
  refine Att.Ag hn Vp fun w s₀ s₁ mg mb fa o pm cd doc a vs ns G Y ho hd Ux WQ V6 hints hlen hg=>?_;have KX:=hY w _ Y;obtain⟨fd,hb,hF⟩:=F w mg fa _ KX G.T.g WQ;exact Fy KX G.T.g G.T.b G.T.builtins G.T.nolimit hg V6 hints (Nat.le_trans hlen UW) hr hF hb (fun H hO hS=>Vi w H a ns hlen hO hS) fun H e s'=>YZ w H s₁ e s'
noncomputable def lW(s:Stmt)(j:Nat):Stmt:=match s with
 | .ClassDef _ _ _ body _ _ _ _ _ _ _=>body.getD j (.Pass ⟨0,0,0,0⟩)
 | _=>.Pass ⟨0,0,0,0⟩
noncomputable def rM(s:Stmt):Arguments:=match s with
 | .FunctionDef _ a _ _ _ _ _ _ _ _=>a
 | _=>{posonlyargs:=[],args:=[],vararg:=none,kwonlyargs:=[],kw_defaults:=[],kwarg:=none,defaults:=[]}
noncomputable def lQ(s:Stmt):List Stmt:=match s with
 | .FunctionDef _ _ b _ _ _ _ _ _ _=>b
 | _=>[]
noncomputable def aP(s:Stmt):Scope:=match s with
 | .FunctionDef _ _ _ _ _ _ sc _ _ _=>sc
 | _=>{kind:=.function,names:=[],isGenerator:=false,isCoroutine:=false}
noncomputable abbrev Tc:CXT:=fun _ _ _ _ _ _=>False
noncomputable abbrev E0:XK:=fun _ _ _=>False
theorem pass0{X:Cx}:Passes Tc X E0:=fun _ _ _ _ _ _ _ h=>h.elim
structure Fun(K:q0B)(x qual:Str)(st:Stmt)(f:Addr)(fd:FuncData):Prop where
 ex:∃(oc:Value) (od:Option Addr) (kV doc pm:Value) (an:Option Addr) (S0 ct:Value) (Vx:Array (Option Value)),
  fd=PySem.W.fnOf x qual (rM st) (lQ st) (aP st) .none kV doc pm an S0 ct/\K.lookup f=some ⟨oc,od,.func fd,Vx⟩/\PySem.W.codeIn K S0 qual=true
 kp:PySem.W.keepIn K (.ref f)=true
section
variable {P:Program} {w:World} {K:q0B} {mg:q0C} {base:Heap}
theorem Fun.ok{x qual:Str}{st:Stmt}{f:Addr}{fd:FuncData}{N ps:List Str}{k:Nat}{sp:Sp}(F:Fun K x qual st f fd)(S:bA N ps (aP st))(len:∀ vs H Q E,sp vs H Q E->vs.length=ps.length)
    (TX:∀(S0:Value) (A:Around) (outer:List Env) (s:Shared) (H:Hp) (vs:List V) (Q:VK) (E:XK),Room k (A.deeper (envOfC qual (aP st) s.heap.objs.size f S0))->sp vs H Q E ->
      ∃ t,TN (mB Tc P w K mg base N qual (aP st) f S0 A outer s H E).nox (lQ st) t/\t {nx:=fun _ H'=>Q .SR H',rt:=Q} (start N vs) H):bL P w K mg base Tc (k+1) f fd ps sp:=by
  obtain⟨oc,od,kV,doc,pm,an,S0,ct,Vx,rfl,lk,Ux⟩:=F.ex;refine JY lk Ux S len fun A outer s H vs Q E hr Vi=>?_;obtain⟨t,h,q⟩:=TX S0 A outer s H vs Q E hr Vi;exact⟨t,h.nox,q⟩
theorem Fun.binds{x qual:Str}{st:Stmt}{f:Addr}{fd:FuncData}{ps:List Str}(F:Fun K x qual st f fd)
    (h:∀(kV doc pm:Value) (an:Option Addr) (S0 ct:Value) (us:List Value),us.length=ps.length->bindArgs (PySem.W.fnOf x qual (rM st) (lQ st) (aP st) .none kV doc pm an S0 ct) ⟨us,[]⟩=pure (ps.zip us)):Binds K fd ps []:=by
  obtain⟨oc,od,kV,doc,pm,an,S0,ct,Vx,rfl,lk,Ux⟩:=F.ex;exact .all (h kV doc pm an S0 ct)
theorem MI{x qual:Str}{st:Stmt}{f:Addr}{oc:Value}{od an:Option Addr}{Vx:Array (Option Value)}{kV doc pm S0 ct:Value}(l:K.lookup f=some ⟨oc,od,.func (PySem.W.fnOf x qual (rM st) (lQ st) (aP st) .none kV doc pm an S0 ct),Vx⟩)
    (c:PySem.W.codeIn K S0 qual=true) (k:PySem.W.keepIn K (.ref f)=true):Fun K x qual st f (PySem.W.fnOf x qual (rM st) (lQ st) (aP st) .none kV doc pm an S0 ct):=⟨⟨oc,od,kV,doc,pm,an,S0,ct,Vx,rfl,l,c⟩,k⟩
end
theorem PU{A:Around}{k:Nat}(hr:Room k A):A.units+1 < cLine:=Nat.lt_of_le_of_lt (Nat.add_le_add_left (by decide:1<=64) _) hr.units
theorem small1000{n:Nat}(h:n<=1000):n < sizeLine:=Nat.lt_of_le_of_lt h (by decide)
section
variable {X:Cx}
theorem pv(i:Nat){x:Str}{pos:Pos}(hN:X.N[i]?=some x:=by rfl)(hv:Vis X.env.scope x:=by first|exact Or.inl rfl|exact Or.inr (Or.inl rfl)|exact Or.inr (Or.inr rfl))(hd:(x==("__debug__":Str))=false:=by decide)
    (Ux:(x==("__classdict__":Str))=false:=by decide):PE X (.Name x pos) (dO i):=Nd hN hv hd Ux
end
noncomputable def Same(H H':Hp):Prop:=∀ b o,H b=some o->H' b=some o
theorem Same.refl(H:Hp):Same H H:=fun _ _ h=>h
theorem Same.trans{H H1 H2:Hp}(a:Same H H1)(b:Same H1 H2):Same H H2:=fun c o h=>b c o (a c o h)
theorem Same.free{H H':Hp}(e:Same H H'){l:Addr}(h:H' l=Option.none):H l=Option.none:=by
 cases q:H l with
 | none=>rfl
 | some o =>
  rw[e l o q] at h;cases h
theorem Same.seq{K:q0B}{H H':Hp}{a:Addr}{xs:List V}(e:Same H H')(h:dS K H a xs):dS K H' a xs:=by
 rcases h with(h|⟨o,h⟩)|h
 ·exact .inl (.inl (e _ _ h))
 ·exact .inl (.inr ⟨o,e _ _ h⟩)
 ·exact .inr h
section
variable {X:Cx}
end
section
variable {κ:Type} [DecidableEq κ]
theorem Hc{SN:List (κ×V)}{k:κ}(h:cQ SN k=none):¬ k∈SN.map (·.1):=by
 intro m;obtain⟨p,hp,e⟩:=List.mem_map.mp m;have q:(SN.any fun kv=>decide (kv.1=k))=true:=List.any_eq_true.mpr ⟨p,hp,decide_eq_true e⟩;rw[lN,h] at q;exact absurd q (by simp)
theorem CM:∀ {l:List κ} {k:κ},l.Nodup->¬ k∈l->(l++[k]).Nodup
 | [],k,_,_=>by simp
 | a::r,k,h,hk=>by
  obtain⟨h1,h2⟩:=List.nodup_cons.mp h;show(a::(r++[k])).Nodup;refine List.nodup_cons.mpr ⟨fun m=>?_,CM h2 fun m=>hk (List.mem_cons.mpr (Or.inr m))⟩;rcases List.mem_append.mp m with q|q
  ·exact h1 q
  ·exact hk (List.mem_cons.mpr (Or.inl (List.mem_singleton.mp q).symm))
theorem Jf{SN:List (κ×V)}{k:κ}(v:V)(hn:(SN.map (·.1)).Nodup)(h:cQ SN k=none):((iY SN k v).map (·.1)).Nodup:=by
 rw[Gv v h,List.map_append];exact CM hn (Hc h)
end
end L2
set_option maxHeartbeats 4000000
namespace L2
open PySem PySem.Spec PyProof.Rows
theorem Bn:bootBuiltins "int"=some (.type "int"):=by decide +kernel
theorem Bo:bootBuiltins "str"=some (.type "str"):=by decide +kernel
theorem nN:bootBuiltins "tuple"=some (.type "tuple"):=by decide +kernel
theorem eP:bootBuiltins "isinstance"=some (.builtin "isinstance"):=by decide +kernel
theorem KR:bootBuiltins "max"=some (.builtin "max"):=by decide +kernel
theorem Em:bootBuiltins "all"=some (.builtin "all"):=by decide +kernel
theorem KQ:bootBuiltins "abs"=some (.builtin "abs"):=by decide +kernel
theorem kK:bootBuiltins "len"=some (.builtin "len"):=by decide +kernel
section
variable {X:Cx}
noncomputable def Ob(_ j:Int):Prop:=0 < j/\j.natAbs.log2 < 9000
theorem Gf:h9 X (binaryOp .FloorDiv) (rI Ob fun i j=>.int (i / j)):=Rh fun i j _ _ _ _ _ hc q=>by
 have h1:(0:Int) < j:=hc.1;exact floordiv_int (by omega) (by rw[Int.fdiv_eq_ediv_of_nonneg i (by omega)];exact q) (.inl (PyProof.noPylong_of_log2 hc.2))
theorem log2_lt{j:Int}(h0:0 < j)(h:j<=10 ^ 45):j.natAbs.log2 < 9000:=by
 have h1:j.natAbs<=10 ^ 45:=by omega
 have h2:j.natAbs < 2 ^ 150:=Nat.lt_of_le_of_lt h1 (by decide);have h3:j.natAbs.log2 < 150:=(Nat.log2_lt (by omega)).mpr h2;omega
inductive nG(K:q0B)(H:Hp):V->String->Bool->Prop
 | ii (n:Int):nG K H (.int n) "int" true
 | ib (n:Int):nG K H (.int n) "bool" false
 | is (n:Int):nG K H (.int n) "str" false
 | it (n:Int):nG K H (.int n) "tuple" false
 | bi (b:Bool):nG K H (.bl b) "int" true
 | bb (b:Bool):nG K H (.bl b) "bool" true
 | bs (b:Bool):nG K H (.bl b) "str" false
 | bt (b:Bool):nG K H (.bl b) "tuple" false
 | si (x:Str):nG K H (.str x) "int" false
 | sb (x:Str):nG K H (.str x) "bool" false
 | ss (x:Str):nG K H (.str x) "str" true
 | st (x:Str):nG K H (.str x) "tuple" false
 | ni:nG K H .SR "int" false
 | nb:nG K H .SR "bool" false
 | ns:nG K H .SR "str" false
 | nt:nG K H .SR "tuple" false
 | li {a:Addr} {xs:List V}:dS K H a xs->nG K H (.ref a) "int" false
 | lb {a:Addr} {xs:List V}:dS K H a xs->nG K H (.ref a) "bool" false
 | ls {a:Addr} {xs:List V}:dS K H a xs->nG K H (.ref a) "str" false
 | lt {a:Addr} {xs:List V}:dS K H a xs->nG K H (.ref a) "tuple" false
 | ti {a:Addr} {xs:List V}:fS K H a xs->nG K H (.ref a) "int" false
 | tb {a:Addr} {xs:List V}:fS K H a xs->nG K H (.ref a) "bool" false
 | ts {a:Addr} {xs:List V}:fS K H a xs->nG K H (.ref a) "str" false
 | tt {a:Addr} {xs:List V}:fS K H a xs->nG K H (.ref a) "tuple" true
 | di {a:Addr} {SN:List (Key×V)}:H a=some (.dK SN)->nG K H (.ref a) "int" false
 | db {a:Addr} {SN:List (Key×V)}:H a=some (.dK SN)->nG K H (.ref a) "bool" false
 | ds {a:Addr} {SN:List (Key×V)}:H a=some (.dK SN)->nG K H (.ref a) "str" false
theorem SO.rR{SK:List (Addr×Obj)}{σ:St}{H:Hp}{s:Shared}{a:Addr}{xs:List V}(I:SO X SK σ H s)(h:dS X.K H a xs):∃ o,s.heap.get? a=some o/\o.cls=.type "list":=by
 obtain⟨SQ,_,⟨o,n,e,c,_,_⟩,_⟩:=I.list h;exact⟨o,e,c⟩
theorem SO.Ab{SK:List (Addr×Obj)}{σ:St}{H:Hp}{s:Shared}{a:Addr}{xs:List V}(I:SO X SK σ H s)(h:fS X.K H a xs):∃ o,s.heap.get? a=some o/\o.cls=.type "tuple":=by
 obtain⟨SQ,_,⟨o,e,c,_⟩,_⟩:=I.tuple h;exact⟨o,e,c⟩
theorem SO.yI{SK:List (Addr×Obj)}{σ:St}{H:Hp}{s:Shared}{a:Addr}{SN:List (Key×V)}(I:SO X SK σ H s)(h:H a=some (.dK SN)):∃ o,s.heap.get? a=some o/\o.cls=.type "dict" :=
 Ao I (Te.k (k:=.inl 0) h)
theorem EA:dG X (.builtin "isinstance") (fun xs H Q=>∃ v T b,xs=[v,.ty T]/\nG X.K H v T b/\Q (.bl b) H):=by
 intro SK s σ H xs us Q I r h;obtain⟨v,T,b,rfl,hi,q⟩:=h;obtain⟨u,w',rfl,r1,r2⟩:=vals2 r;cases r2;have fin:EP X SK σ Q (.bool b) s:=⟨.bl b,H,I,rfl,q⟩;have S2:EP X SK σ Q (.bool b) {s with toks:=s.toks+1}:=⟨.bl b,H,I.tok _,rfl,q⟩;cases hi with
 | ii n=>obtain⟨t,rfl⟩:=r1;exact IsiPair.int_int fin
 | ib n=>obtain⟨t,rfl⟩:=r1;exact IsiPair.int_bool S2
 | is n=>obtain⟨t,rfl⟩:=r1;exact IsiPair.int_str S2
 | it n=>obtain⟨t,rfl⟩:=r1;exact IsiPair.int_tuple S2
 | bi b=>cases r1;exact IsiPair.bool_int fin
 | bb b=>cases r1;exact IsiPair.bool_bool fin
 | bs b=>cases r1;exact IsiPair.bool_str S2
 | bt b=>cases r1;exact IsiPair.bool_tuple S2
 | si x=>obtain⟨t,rfl⟩:=r1;exact IsiPair.str_int S2
 | sb x=>obtain⟨t,rfl⟩:=r1;exact IsiPair.str_bool S2
 | ss x=>obtain⟨t,rfl⟩:=r1;exact IsiPair.str_str fin
 | st x=>obtain⟨t,rfl⟩:=r1;exact IsiPair.str_tuple S2
 | ni=>cases r1;exact IsiPair.NoneType_int S2
 | nb=>cases r1;exact IsiPair.NoneType_bool S2
 | ns=>cases r1;exact IsiPair.NoneType_str S2
 | nt=>cases r1;exact IsiPair.NoneType_tuple S2
 | li hl=>cases r1;obtain⟨o,e,c⟩:=SO.rR I hl;exact IsiPair.list_int e c S2
 | lb hl=>cases r1;obtain⟨o,e,c⟩:=SO.rR I hl;exact IsiPair.list_bool e c S2
 | ls hl=>cases r1;obtain⟨o,e,c⟩:=SO.rR I hl;exact IsiPair.list_str e c S2
 | lt hl=>cases r1;obtain⟨o,e,c⟩:=SO.rR I hl;exact IsiPair.list_tuple e c S2
 | ti hl=>cases r1;obtain⟨o,e,c⟩:=SO.Ab I hl;exact IsiPair.tuple_int e c S2
 | tb hl=>cases r1;obtain⟨o,e,c⟩:=SO.Ab I hl;exact IsiPair.tuple_bool e c S2
 | ts hl=>cases r1;obtain⟨o,e,c⟩:=SO.Ab I hl;exact IsiPair.tuple_str e c S2
 | tt hl=>cases r1;obtain⟨o,e,c⟩:=SO.Ab I hl;exact IsiPair.tuple_tuple e c fin
 | di hl=>cases r1;obtain⟨o,e,c⟩:=SO.yI I hl;exact IsiPair.dict_int e c S2
 | db hl=>cases r1;obtain⟨o,e,c⟩:=SO.yI I hl;exact IsiPair.dict_bool e c S2
 | ds hl=>cases r1;obtain⟨o,e,c⟩:=SO.yI I hl;exact IsiPair.dict_str e c S2
end
noncomputable def Fu:Expr->Bool
 | .Starred ..=>true
 | _=>false
theorem D2{e:Expr}{es:List Expr}{env:Env}(h:Fu e=false):starEach (e::es) env=(false,eval e env)::starEach es env:=by
 cases e<;>first|rfl|cases h
section
variable {X:Cx} {e:Expr} {es:List Expr} {te:TE} {t:TA}
theorem aC(ha:PE X e te)(hr:PA X es t)(h:Fu e=false:=by rfl):PA X (e::es) (Bb te t):=CQ ha hr (D2 h)
end
noncomputable abbrev uD(prog:Program)(w:World)(A:Around)(env:Env)(R:Result->Shared->Prop):Value->Shared->Prop:=notedBy (model prog w) A env fun e s'=>R (.error e) s'
noncomputable abbrev C4(ifs:List Expr)(env:Env):Sem Bool:=forIn ifs true fun c r=>if r=true then do let ok <- isTrue c env (eval c env);pure (ForInStep.yield ok) else pure (ForInStep.yield r)
section
variable {prog:Program} {w:World} {A:Around} {R:Result->Shared->Prop} {s:Shared}
theorem Am{elt target iter:Expr}{ifs:List Expr}{scope:Scope}{pos:Pos}{it acc:Value}{env:Env}(I:Nat->Shared->Prop)
    (turn:∀ n s,I n s->wpAny (model prog w) A (pyNext it) (fun r s₁=>match r with
      | none=>R (.ok .next) s₁
      | some v=>wpAny (model prog w) A (letOwnedTupleGo target it v) (fun _ s₁'=>wpAny (model prog w) A (assign target env v) (fun _ s₂ =>
          wpAny (model prog w) A (C4 ifs env) (fun ok s₃ =>
            if ok=true then wpAny (model prog w) A (eval elt env) (fun x s₄ =>
              wpAny (model prog w) A (call (.builtin "list.append") [acc,x]) (fun _ s₅=>∃ m,m < n/\I m s₅) (uD prog w A env R) s₄) (uD prog w A env R) s₃
            else ∃ m,m < n/\I m s₃) (uD prog w A env R) s₂) (uD prog w A env R) s₁') (uD prog w A env R) s₁) (uD prog w A env R) s)
    (n:Nat) (h:I n s):codeAny (model prog w) A (.compLoop (.ListComp elt [⟨target,iter,ifs,0⟩] scope pos) 0 it acc env) R s:=by
  refine codeAny_loop rfl I (fun n s hI=>?_) n h;show wpAny _ A ((compTurn (.ListComp elt [⟨target,iter,ifs,0⟩] scope pos) 0 it acc env).onRaise (fun x=>do noteFrame x env;theTreesLotGoes x)) _ _ s;refine wpAny_noted ?_;rw[compTurn_list];refine wpAny_bind (wpAny_standAt (wpAny_bind (wpAny_mono (turn n s hI) (fun r s₁ h₁=>?_) fun _ _ h'=>h')));cases r with
  | none=>exact wpAny_pure h₁
  | some v =>
    refine wpAny_bind (wpAny_mono h₁ (fun _ s₁' h₁'=>?_) fun _ _ h'=>h');refine wpAny_bind (wpAny_mono h₁' (fun _ s₂ h₂=>wpAny_bind (wpAny_mono h₂ (fun ok s₃ h₃=>?_) fun _ _ h'=>h')) fun _ _ h'=>h');cases ok with
    | false=>exact wpAny_pure ⟨rfl,h₃⟩
    | true =>
      exact wpAny_bind (wpAny_bind (wpAny_mono h₃ (fun x s₄ h₄=>wpAny_bind (wpAny_mono h₄ (fun _ s₅ h₅=>wpAny_pure (wpAny_pure ⟨rfl,h₅⟩)) fun _ _ h'=>h')) fun _ _ h'=>h'))
end
noncomputable def dD(X:Cx)(sc:Scope)(cl:List (Str×Addr))(C:Addr)(N:List Str)(s:Shared)(H:Hp)(ex:List Addr)(pn:List (Addr×Obj)):Cx :=
 {X with env:=compEnvC sc cl C X.env,N:=N,s₀:=s,H₀:=H,outer:=X.stack,ex:=ex,fn:=fun _=>false,pn:=pn}
structure gG(X:Cx)(sc:Scope)(cl:List (Str×Addr))(x:Str)(fr:List Nat)(N:List Str):Prop where
 kind:sc.kind=.function
 uA:∀ y∈sc.names,y.2≠.cell
 names:∀ y∈sc.names,y.2=.local->sc.names.lookup y.1=some .local
 Br:closureFor sc X.env=pure cl
 sub:∀ y c,cl.lookup y=some c->X.env.cells.lookup y=some c
 has:∀ y,((relabel sc X.env).names.lookup y=some .cell\/(relabel sc X.env).names.lookup y=some .free)->∃ c,cl.lookup y=some c
 Vj:sc.names.lookup x=some .local
 nd:N.Nodup
 N0:N=x::fr.map fun j=>X.N.getD j x
 VY:∀ j∈fr,∃ y,X.N[j]?=some y/\X.env.kindOf y=some .cell/\((relabel sc X.env).names.lookup y=some .cell\/(relabel sc X.env).names.lookup y=some .free)
noncomputable def bE(fr:List Nat)(σ:St):St:=fr.map fun j=>(σ[j]?).join
section
variable {X:Cx} {SK:List (Addr×Obj)} {σ:St} {H:Hp} {s:Shared} {sc:Scope} {cl:List (Str×Addr)} {C:Addr} {x:Str} {fr:List Nat} {N:List Str} {fp:List Addr}
theorem HF(I:SO X SK σ H s)(S:gG X sc cl x fr N)(hf:∀ b∈fp,nI X SK H b)(Vq:∀ b∈fp,b < s.heap.objs.size)(hC:s.heap.objs.size<=C) :
    (dD X sc cl C N s H fp (X.pn++SK)).Ok where
  mod:=I.ok.mod
  kind:=S.kind
  glob:=I.ok.glob
  blt:=I.ok.blt
  above:=hC
  inj:=fun y z c h1 h2=>I.ok.inj y z c (S.sub y c h1) (S.sub z c h2)
  has:=S.has
  cab:=fun _ _ h=>by cases h
  hd:=I.ok.hd
  frames:=I.ok.frames
  Vy:=.inl rfl
  exf:=fun b hb=>⟨Nat.ne_of_lt (Nat.lt_of_lt_of_le (Vq b hb) hC),fun y c e=>(hf b hb).2.2.2.2.1 y c (S.sub y c e)⟩
  bs:=I.bs
  bsz:=Nat.le_trans I.ok.bsz I.sz
  BL:=fun b o e hb=>by
    rcases(hf b hb).2.2.2.1 with z|z
    · exact I.ok.BL b o e z
    · exact absurd (Nat.lt_of_lt_of_le (Heap.lt_size e) (Nat.le_trans I.ok.bsz z)) (Nat.lt_irrefl _)
  Du:=fun b hb hm=>by
    rcases List.mem_cons.mp (I.uW b hm) with z|z
    · exact(hf b hb).2.1 z
    · exact(hf b hb).2.2.1 z
  mC:=I.stack
  frf:=I.zY
theorem nostk(I:SO X SK σ H s){b:Addr}(h1:b≠X.env.locals)(h2:b∉X.fs):b∉frs X.stack:=fun hm=>by
 rcases List.mem_cons.mp (I.uW b hm) with z|z
 ·exact h1 z
 ·exact h2 z
theorem ED(I:SO X SK σ H s)(S:gG X sc cl x fr N)(hf:∀ b∈fp,nI X SK H b)(Vq:∀ b∈fp,b < s.heap.objs.size)(hC:s.heap.objs.size<=C){h1:Heap}{t1:Nat}{m0:q0C}
    (hn:h1.Ns C m0) (hk:∀ b o,s.heap.get? b=some o->h1.get? b=some o):SO (dD X sc cl C N s H fp (X.pn++SK)) [] (none::bE fr σ) H {s with heap:=h1,toks:=t1}:=by
  refine⟨HF I S hf Vq hC,rfl,I.bare,Un.kept hk,⟨m0,hn,fun i y v e1 e2 e3=>?_⟩,fun y c e=>?_,I.SS.fresh hC,fun y c e=>I.iO y c (S.sub y c e),fun p hp=>?_,I.SS.kept hk,?_⟩
  · have e1':N[i]?=some y:=e1;rw[S.N0] at e1';cases i with
    | zero =>
      have z:(some (none:Option V))=some (some v):=e2;cases z
    | succ j =>
      have UO:(fr.map fun j=>X.N.getD j x)[j]?=some y:=e1';have XA:(bE fr σ)[j]?=some (some v):=e2;unfold bE at XA;rw[List.getElem?_map] at UO XA;cases q:fr[j]? with
      | none=>rw[q] at UO;cases UO
      | some k =>
        rw[q] at UO XA;have ey:X.N.getD k x=y:=Option.some.inj UO;have ev:(σ[k]?).join=some v:=Option.some.inj XA;obtain⟨y',hy,Us,WY⟩:=S.VY k (List.mem_of_getElem? q);have eyy:y=y':=by
          rw[<- ey,List.getD_eq_getElem?_getD,hy];rfl
        subst eyy;have ev':σ[k]?=some (some v):=by
          cases z:σ[k]? with
          | none=>rw[z] at ev;cases ev
          | some o =>
            rw[z] at ev;have ev2:o=some v:=ev;rw[ev2]
        obtain⟨m,_,hl⟩:=I.loc;obtain⟨u,r,l⟩:=hl k y v hy ev' (.inr (.inl Us));refine⟨u,r,.inr ⟨WY,?_⟩⟩;rcases l with⟨z,_⟩|⟨_,c,hc,o,ho,hd⟩
        · rw[Us] at z;cases z
        · obtain⟨c',WO⟩:=S.has y WY;have z:=S.sub y c' WO;rw[hc] at z;cases z;exact⟨c,WO,o,hk c o ho,hd⟩
  · obtain⟨v,o,ho,hd⟩:=I.cell y c (S.sub y c e);exact⟨v,o,hk c o ho,hd⟩
  · have Zm:p∈X.pn++SK:=by
      have z:p∈(X.pn++SK)++[]:=hp;simpa using z
    obtain⟨e,n,ne,nf,d⟩:=I.pin p Zm;exact⟨hk _ _ e,n,Nat.ne_of_lt (Nat.lt_of_lt_of_le (Heap.lt_size e) hC),nostk I ne nf,d⟩
  · show(none::bE fr σ).length=N.length;rw[S.N0];simp[bE]
theorem EC(I:SO X SK σ H s)(hf:∀ b∈fp,nI X SK H b){D:Addr}{pl:List (Addr×Obj)}{σ':St}{H':Hp}{s':Shared}(J:SO (dD X sc cl C N s H fp (X.pn++SK)) pl σ' H' s')
    (hC:s.heap.objs.size<=C) (hD:s.heap.objs.size<=D) (V1:D≠C) (Y2:H' D=none) {xs:List V} {vals:List Value} {k:Nat} (hg:s'.heap.get? D=some {cls:=.type "list",data:=.seq vals.toArray k}) (rv:Vals xs vals) (hz:xs.length<=sizeLine)
    {h':Heap} (hs:Heap.SameBut C s'.heap h'):SO X SK σ (SM H' D (.lst xs)) {s' with heap:=h'}:=by
  have lt:∀ {b:Addr} {o:Obj},s.heap.get? b=some o->b < s.heap.objs.size:=fun e=>Heap.lt_size e;have VP:∀ {b:Addr} {o:Obj},s.heap.get? b=some o->b≠C:=fun e=>Nat.ne_of_lt (Nat.lt_of_lt_of_le (Heap.lt_size e) hC);have neD:∀ {b:Addr} {o:Obj},s.heap.get? b=some o->b≠D:=fun e=>Nat.ne_of_lt (Nat.lt_of_lt_of_le (Heap.lt_size e) hD);have Wa:∀ {b:Addr} {o:HO},H b=some o->b≠D:=fun e=>Nat.ne_of_lt (Nat.lt_of_lt_of_le (I.SS.lt e) hD);have base:Un (frs X.stack) fp H H' s.heap s'.heap:=J.base;have HC:H' C=none:=J.free;refine I.Cs (s':={s' with heap:=h'}) (ch:=fp) J.os ⟨fun b o e n hb hx=>?_,fun b o e n hb hx=>?_,fun b o e n hx=>?_,fun b o e hx=>?_,fun b ys e=>?_,fun b o u e=>?_,fun b ps e=>?_⟩ (fun b u e=>?_) J.bare (fun b hb=>?_)
  · exact(hs.2 b (VP e)).trans (base.keep b o e n hb hx)
  · obtain⟨sl,q⟩:=base.slot b o e n hb hx;exact⟨sl,(hs.2 b (VP e)).trans q⟩
  · rw[aY (neD e)];exact base.free b o e n hx
  · obtain⟨o',q⟩:=base.there b o e hx;exact⟨o',(hs.2 b (VP e)).trans q⟩
  · rw[aY (Wa e)];exact base.lM b ys e
  · rw[aY (Wa e)];exact base.kD b o u e
  · rw[aY (Wa e)];exact base.lK b ps e
  · by_cases hb:b=D
    · subst hb;rw[aB] at e;cases e;exact⟨hz,vals,k,rv,(hs.2 b V1).trans hg⟩
    · rw[aY hb] at e;have tC:∀ {c:Addr} {o:HO},H' c=some o->c≠C:=fun q z=>by rw[z,HC] at q;cases q
      have tD:∀ {c:Addr} {o:HO},H' c=some o->c≠D:=fun q z=>by rw[z,Y2] at q;cases q
      refine(J.SS b u e).zX (fun c v hc q=>(hs.2 c ?_).trans q) (fun c q=>by rw[aY (tD q)];exact q) fun c ys q=>by rw[aY (tD q)];exact q
      rcases hc with z|z
      · rw[z];exact tC e
      · exact tC z
  · obtain⟨_,f1,_,f3,f4,f5⟩:=hf b hb;exact⟨f3,f1,f4,f5⟩
end
noncomputable def Wz(Y:Cx)(ifs:List Expr)(t:TT):Prop :=
 ∀(SK:List (Addr×Obj)) (s:Shared) (σ:St) (H:Hp) (Q:Bool->Hp->Prop),SO Y SK σ H s->t σ H Q->wpAny (model Y.prog Y.w) Y.A (C4 ifs Y.env) (TP Y SK σ Q) Y.xe s
noncomputable def Kg:TT:=fun _ H Q=>Q true H
theorem rZ{Y:Cx}:Wz Y [] Kg:=fun _ _ _ H _ I h=>wpAny_tests_nil ⟨H,I,h⟩
@[irreducible] def kC(wi:TI)(fr:List Nat)(tc:TT)(te:TE):TE:=fun σ H Q=>wi σ H fun J H1=>∃ W:Nat->Nat->List V->Hp->Prop,(∃ m,W 0 m [] H1)/\∀ i m xs H,W i m xs H->xs.length<=1000000 /\
  ((J.stop i H/\∀ p,H p=none->Q (.ref p) (SM H p (.lst xs))) \/
   (J.go i H/\∀ y H',J.yld i H y H'->tc (some y::bE fr σ) H' fun b H2=>if b=true then te (some y::bE fr σ) H2 (fun z H3=>∃ m',m' < m/\W (i+1) m' (xs++[z]) H3) else ∃ m',m' < m/\W (i+1) m' xs H2))
section
variable {X:Cx} {sc:Scope} {cl:List (Str×Addr)} {x:Str} {fr:List Nat} {N:List Str} {elt iter:Expr} {px pos:Pos} {ifs:List Expr} {wi:TI} {tc:TT} {te:TE}
theorem An{tg:Expr}{g:TG}{τ0:St}{O:St->Prop}(hc:X.calm=true)(hx:∀ e s,¬ X.xe e s)(NC:∀ y∈sc.names,y.2≠.cell)(KD:sc.kind=.function)(SB:∀ y c,cl.lookup y=some c->X.env.cells.lookup y=some c)(hpg:∀ C s H ex pn,PG (dD X sc cl C N s H ex pn) tg g)
    (hb:∀ C s H ex pn,Wz (dD X sc cl C N s H ex pn) ifs tc/\PE (dD X sc cl C N s H ex pn) elt te)
    {SK:List (Addr×Obj)} {σ:St} {H:Hp} {s:Shared} {it:Addr} {fp:List Addr} {tn:Nat->Heap->Prop} {J:It} {Q:VK} {RR:Value->Addr->Result->Shared->Prop} {E:q0A}
    (I:SO X SK σ H s) (T:Turn X.prog X.w X.K tg J fp it tn) (st:tn 0 s.heap) (hf:∀ b∈fp,nI X SK H b)
    (Zv:∀(C:Addr) (h1:Heap) (t1:Nat) (m0:q0C),(∀ b∈fp,b < s.heap.objs.size)->s.heap.objs.size<=C->h1.Ns C m0->(∀ b o,s.heap.get? b=some o->h1.get? b=some o)->SO (dD X sc cl C N s H fp (X.pn++SK)) [] τ0 H {s with heap:=h1,toks:=t1}) (ok0:O τ0)
    {W:Nat->Nat->List V->Hp->Prop} {m0:Nat} (w0:W 0 m0 [] H)
    (turn:∀ i m xs H,W i m xs H->xs.length<=1000000 /\
      ((J.stop i H/\∀ p,H p=none->Q (.ref p) (SM H p (.lst xs))) \/
       (J.go i H/\∀ y H',J.yld i H y H'->∀ σ1,O σ1->g y σ1 H' fun σ2 H1=>O σ2/\tc σ2 H1 fun b H2=>if b=true then te σ2 H2 (fun z H3=>∃ m',m' < m/\W (i+1) m' (xs++[z]) H3) else ∃ m',m' < m/\W (i+1) m' xs H2)))
    (fin:∀(D C:Addr) (s':Shared) (m':q0C) (H':Hp),s'.heap.Ns C m'->nI X SK H' C->(∀ h',Heap.SameBut C s'.heap h'->SO X SK σ H' {s' with heap:=h'})->Q (.ref D) H'->RR (.ref D) C (.ok .next) s') :
    wpAny (model X.prog X.w) X.A (newList []) (fun acc s₃=>wpAny (model X.prog X.w) X.A (newFunctionEnv sc X.env.globals cl [] X.env.qual none .none (some X.env)) (fun UN s₄ =>
      codeAny (model X.prog X.w) X.A (.compStart (.ListComp elt [⟨tg,iter,ifs,0⟩] sc pos) 0 (.ref it) acc {UN with scope:=relabel sc X.env}) (RR acc UN.locals) s₄) E s₃) E s:=by
  refine wpAny_newObj_type (wpAny_newFunctionEnv NC (by intro y hy;simp at hy) (fun h₁ V4 Vu=>?_) KD);dsimp only at V4 Vu ⊢;generalize Y3:s.heap.push {cls:=.type "list",dict:=none,data:=.seq ([]:List Value).toArray}=G2 at V4 Vu ⊢;have Y0:G2.objs.size=s.heap.objs.size+1:=by rw[<- Y3,Heap.size_push]
  have V1:s.heap.objs.size≠G2.objs.size:=by rw[Y0];exact Nat.ne_of_lt (Nat.lt_succ_self _)
  have hC:s.heap.objs.size<=G2.objs.size:=by rw[Y0];exact Nat.le_succ _
  have below:∀ b,b < s.heap.objs.size->b≠G2.objs.size:=fun b hb=>by rw[Y0];exact Nat.ne_of_lt (Nat.lt_succ_of_lt hb)
  have old:∀ b o,s.heap.get? b=some o->h₁.get? b=some o:=fun b o e=>Vu.extBut b o (below b (Heap.lt_size e)) (Heap.get?_push_of_some _ (Y3▸Heap.get?_push_of_some _ e));have hD1:h₁.get? s.heap.objs.size=some {cls:=.type "list",data:=.seq ([]:List Value).toArray 0}:=Vu.extBut _ _ V1 (Heap.get?_push_of_some _ (Y3▸Heap.get?_push_size _ rfl));have Vq:∀ b∈fp,b < s.heap.objs.size:=fun b hbm=>by
    obtain⟨o,e,_⟩:=T.obj 0 s.heap st b hbm;exact Heap.lt_size e
  have Y2:H s.heap.objs.size=none:=I.SS.fresh (Nat.le_refl _)
  -- what stays true of the made list's place
  have X5:s.heap.objs.size∉frs X.stack:=fun hm=>by
    rcases List.mem_cons.mp (I.uW _ hm) with z|z
    · exact absurd I.lt (by rw[<- z];exact Nat.lt_irrefl _)
    · exact I.P7 (Nat.le_refl _) z
  have Ww:∀ y c,cl.lookup y=some c->c≠s.heap.objs.size:=fun y c e z=>by
    obtain⟨v,q⟩:=I.cell y c (SB y c e);exact absurd q.lt (by rw[z];exact Nat.lt_irrefl _)
  have X4:∀ p∈X.pn++SK,p.1≠s.heap.objs.size:=fun p hp z=>absurd (Heap.lt_size (I.pin p hp).1) (by rw[z];exact Nat.lt_irrefl _);have ZO:s.heap.objs.size∉fp:=fun hm=>Nat.lt_irrefl _ (Vq _ hm);have loop:∀ s₃:Shared,s₃={s with heap:=h₁,toks:=s.toks+([]:List (Str×Value)).length} ->
      codeAny (model X.prog X.w) X.A (.compLoop (.ListComp elt [⟨tg,iter,ifs,0⟩] sc pos) 0 (.ref it) (.ref s.heap.objs.size) (compEnvC sc cl G2.objs.size X.env)) (RR (.ref s.heap.objs.size) G2.objs.size) s₃:=by
    rintro s₃ rfl;have I0:=Zv G2.objs.size h₁ (s.toks+([]:List (Str×Value)).length) _ Vq hC V4 old;refine Am (fun n s'=>∃(i:Nat) (xs:List V) (vals:List Value) (k:Nat) (v0:St) (H':Hp),SO (dD X sc cl G2.objs.size N s H fp (X.pn++SK)) [] v0 H' s'/\O v0/\tn i s'.heap/\(∀ b∈fp,H' b=none) /\
      s'.heap.get? s.heap.objs.size=some {cls:=.type "list",data:=.seq vals.toArray k}/\Vals xs vals/\H' s.heap.objs.size=none/\W i n xs H') ?_ m0
      ⟨0,[],[],0,τ0,H,I0,ok0,T.keep _ _ _ st fun b _ o e=>old b o e,fun b hb=>(hf b hb).1,hD1,.nil,Y2,w0⟩
    rintro n s1 ⟨i,xs,vals,k,v0,H1,I1,ok1,st1,fr1,hg1,XZ,Y1,w1⟩;have hlen:=XZ.length;obtain⟨hz,step⟩:=turn i n xs H1 w1;have hz2:xs.length<=sizeLine:=Nat.le_trans hz (by decide);have Uk:∀ {H':Hp} {pl:List (Addr×Obj)},(∀ b∈fp,H' b=none)->(∀ p∈pl,p.1=s.heap.objs.size)->∀ b∈fp,nI (dD X sc cl G2.objs.size N s H fp (X.pn++SK)) pl H' b:=fun {H' pl} hn TQ b hb =>
      ⟨hn b hb,below b (Vq b hb),nostk I (hf b hb).2.1 (hf b hb).2.2.1,.inl hb,fun y c e=>(hf b hb).2.2.2.2.1 y c (SB y c e),fun p hp z=>by
        rcases List.mem_append.mp hp with q|q
        · exact(hf b hb).2.2.2.2.2 p q z
        · exact ZO (by rw[<- TQ p q,z];exact hb)⟩
    have I1':SO (dD X sc cl G2.objs.size N s H fp (X.pn++SK)) [(s.heap.objs.size,{cls:=.type "list",data:=.seq vals.toArray k})] v0 H1 s1:=I1.oK fun p hp=>by
      have e:p=(s.heap.objs.size,{cls:=.type "list",data:=.seq vals.toArray k}):=by simpa using hp
      subst e;exact⟨hg1,Y1,V1,X5,fun v z=>by cases z⟩
    rcases step with⟨stop,hq⟩|⟨go,step⟩
    · refine thn (T.done (dD X sc cl G2.objs.size N s H fp (X.pn++SK)) rfl rfl rfl hc i [(s.heap.objs.size,{cls:=.type "list",data:=.seq vals.toArray k})] s1 _ H1 _ I1' (Uk fr1 fun p hp=>by
        have e:p=(s.heap.objs.size,{cls:=.type "list",data:=.seq vals.toArray k}):=by simpa using hp
        rw[e]) st1 stop) fun r s2 ⟨hr,I2⟩=>?_
      subst hr;obtain⟨g2,n2,_⟩:=I2.pin (s.heap.objs.size,{cls:=.type "list",data:=.seq vals.toArray k}) (List.mem_append_right _ (by simp));obtain⟨m2,UW,_⟩:=I2.loc;have hCn:SM H1 s.heap.objs.size (.lst xs) G2.objs.size=none:=by
        rw[aY (Ne.symm V1)];exact I2.free
      exact fin s.heap.objs.size G2.objs.size s2 m2 _ UW (I.Dw hC hCn) (fun h' Vt=>EC I hf I2 hC (Nat.le_refl _) V1 n2 g2 XZ hz2 Vt) (hq _ n2)
    · refine thn (T.item (dD X sc cl G2.objs.size N s H fp (X.pn++SK)) rfl rfl rfl hc i [(s.heap.objs.size,{cls:=.type "list",data:=.seq vals.toArray k})] s1 _ H1 _ I1' (Uk fr1 fun p hp=>by
        have e:p=(s.heap.objs.size,{cls:=.type "list",data:=.seq vals.toArray k}):=by simpa using hp
        rw[e]) st1 go) fun r s2 ⟨u,hr,h2⟩=>?_
      subst hr;refine thn h2 fun _ s3 ⟨y,H3,I3,r3,y3,Wv,XF⟩=>?_;have I3':=I3.pinned (Uk XF fun p hp=>by
        have e:p=(s.heap.objs.size,{cls:=.type "list",data:=.seq vals.toArray k}):=by simpa using hp
        rw[e]) (T.obj _ _ Wv)
      -- what the SK say again behind each part
      have back:∀ {σ9:St} {H9:Hp} {s9:Shared},SO (dD X sc cl G2.objs.size N s H fp (X.pn++SK)) ([(s.heap.objs.size,{cls:=.type "list",data:=.seq vals.toArray k})]++uM fp s3.heap) σ9 H9 s9 ->
          tn (i+1) s9.heap/\(∀ b∈fp,H9 b=none)/\s9.heap.get? s.heap.objs.size=some {cls:=.type "list",data:=.seq vals.toArray k}/\H9 s.heap.objs.size=none:=fun {σ9 H9 s9} I9=>by
        refine⟨T.keep _ _ _ Wv fun b hb o e=>(I9.pin (b,o) (List.mem_append_right _ (List.mem_append_right _ (jR hb e)))).1,fun b hb=>?_,?_⟩
        · obtain⟨o,e,d⟩:=T.obj _ _ Wv b hb;exact(I9.pin (b,o) (List.mem_append_right _ (List.mem_append_right _ (jR hb e)))).2.1
        · obtain⟨a1,a2,_⟩:=I9.pin (s.heap.objs.size,{cls:=.type "list",data:=.seq vals.toArray k}) (List.mem_append_right _ (List.mem_append_left _ (by simp)));exact⟨a1,a2⟩
      have ZC:∀ e s',(dD X sc cl G2.objs.size N s H fp (X.pn++SK)).xe e s'->uD X.prog X.w X.A (compEnvC sc cl G2.objs.size X.env) (RR (.ref s.heap.objs.size) G2.objs.size) e s':=fun e s' z=>(hx e s' z).elim;refine wpAny_mono (hpg _ _ _ _ _ _ s3 _ H3 y u _ I3' r3 (step y H3 y3 v0 ok1)) (fun _ s4 ⟨σ4,H4,I4,ok4,hstep⟩=>?_) ZC;obtain⟨hbT,hbE⟩:=hb G2.objs.size s H fp (X.pn++SK);refine wpAny_mono (hbT _ s4 _ H4 _ I4 hstep) (fun ok s5 ⟨H5,I5,q5⟩=>?_) ZC;cases ok with
      | false =>
        rw[if_neg Bool.false_ne_true];have q5':∃ m',m' < n/\W (i+1) m' xs H5:=q5;obtain⟨m',hm,w5⟩:=q5';obtain⟨b1,b2,b3,b4⟩:=back I5;exact⟨m',hm,i+1,xs,vals,k,σ4,H5,I5.oK (fun p hp=>absurd hp (by simp)),ok4,b1,b2,b3,XZ,b4,w5⟩
      | true =>
        rw[if_pos rfl];refine wpAny_mono (hbE _ s5 _ H5 _ I5 q5) (fun z s6 ⟨v6,H6,I6,r6,q6⟩=>?_) ZC;obtain⟨m',hm,w6⟩:=q6;obtain⟨b1,b2,b3,b4⟩:=back I6;refine call_meets F.slot_list_append ⟨_,b3,rfl⟩ F.entry_list_append (F.args_list_append_2 _ _) (PySem.list_append s.heap.objs.size vals.toArray k z (by rw[List.size_toArray];omega)) ⟨b3,?_⟩;have q7:=PySem.IsL.update b3 (fun a:Array Value=>a.push z);have WV:vals.toArray.push z=(vals++[z]).toArray:=by simp
        rw[WV] at q7;have I6':SO (dD X sc cl G2.objs.size N s H fp (X.pn++SK)) [] σ4 H6 s6:=I6.oK (fun p hp=>absurd hp (by simp));have others:∀ b o,b≠s.heap.objs.size->s6.heap.get? b=some o->(s6.heap.update s.heap.objs.size (Obj.mapSeq fun a=>a.push z)).get? b=some o:=fun b o Y6 e=>(Heap.get?_update_other _ _ (Ne.symm Y6)).trans e;refine⟨m',hm,i+1,xs++[v6],vals++[z],_,σ4,H6,I6'.turned (it:=s.heap.objs.size) others b4 V1 (.inr (Nat.le_refl _)) Ww (fun p hp z'=>?_),ok4,T.keep _ _ _ b1 fun b Y6 o e=>others b o (fun z'=>ZO (by rw[<- z'];exact Y6)) e,b2,q7,XZ.append (.cons r6 .nil),b4,w6⟩;have Zm:p∈X.pn++SK:=by
          have z2:p∈(X.pn++SK)++[]:=hp;simpa using z2
        exact X4 p Zm z'
  exact codeAny_compStart_list (loop _ rfl) (T.self _ _ _ _ _ (T.keep _ _ _ st fun b _ o e=>old b o e) (loop _ rfl))
theorem Bs(hc:X.calm=true)(hx:∀ e s,¬ X.xe e s)(S:gG X sc cl x fr N)
    (hb:∀ C s H ex pn,Wz (dD X sc cl C N s H ex pn) ifs tc/\PE (dD X sc cl C N s H ex pn) elt te)
    {SK:List (Addr×Obj)} {σ:St} {H:Hp} {s:Shared} {it:Addr} {fp:List Addr} {tn:Nat->Heap->Prop} {J:It} {Q:VK} {RR:Value->Addr->Result->Shared->Prop} {E:q0A}
    (I:SO X SK σ H s) (T:Turn X.prog X.w X.K (.Name x px) J fp it tn) (st:tn 0 s.heap) (hf:∀ b∈fp,nI X SK H b)
    {W:Nat->Nat->List V->Hp->Prop} {m0:Nat} (w0:W 0 m0 [] H)
    (turn:∀ i m xs H,W i m xs H->xs.length<=1000000 /\
      ((J.stop i H/\∀ p,H p=none->Q (.ref p) (SM H p (.lst xs))) \/
       (J.go i H/\∀ y H',J.yld i H y H'->tc (some y::bE fr σ) H' fun b H2=>if b=true then te (some y::bE fr σ) H2 (fun z H3=>∃ m',m' < m/\W (i+1) m' (xs++[z]) H3) else ∃ m',m' < m/\W (i+1) m' xs H2)))
    (fin:∀(D C:Addr) (s':Shared) (m':q0C) (H':Hp),s'.heap.Ns C m'->nI X SK H' C->(∀ h',Heap.SameBut C s'.heap h'->SO X SK σ H' {s' with heap:=h'})->Q (.ref D) H'->RR (.ref D) C (.ok .next) s') :
    wpAny (model X.prog X.w) X.A (newList []) (fun acc s₃=>wpAny (model X.prog X.w) X.A (newFunctionEnv sc X.env.globals cl [] X.env.qual none .none (some X.env)) (fun UN s₄ =>
      codeAny (model X.prog X.w) X.A (.compStart (.ListComp elt [⟨.Name x px,iter,ifs,0⟩] sc pos) 0 (.ref it) acc {UN with scope:=relabel sc X.env}) (RR acc UN.locals) s₄) E s₃) E s :=
  An (τ0:=none::bE fr σ) (O:=fun σ1=>∃ v0,σ1=v0::bE fr σ) (g:=Az 0) hc hx S.uA S.kind S.sub (fun C s H ex pn=>hV (i:=0) S.nd (show N[0]?=some x by rw[S.N0];rfl) (.inl (lookup_relabel_local S.Vj)) (.inr (lookup_relabel_local S.Vj))) hb I T st hf
    (fun C h1 t1 m0 Vq hC hn hk=>ED I S hf Vq hC hn hk) ⟨_,rfl⟩ w0
    (fun i m xs H w=>let ⟨l,z⟩:=turn i m xs H w;⟨l,z.imp id fun⟨g,h⟩=>⟨g,fun y H' hy σ1 ⟨v0,e⟩=>by subst e;exact⟨⟨_,rfl⟩,h y H' hy⟩⟩⟩) fin
theorem rV(hc:X.calm=true)(hx:∀ e s,¬ X.xe e s)(S:gG X sc cl x fr N)(hi:PI X (.Name x px) iter wi)
    (hb:∀ C s H ex pn,Wz (dD X sc cl C N s H ex pn) ifs tc/\PE (dD X sc cl C N s H ex pn) elt te)
    (hs:∀ v,foldedSetIterable iter X.env v=pure v:=by intro _;rfl):PE X (.ListComp elt [⟨.Name x px,iter,ifs,0⟩] sc pos) (kC wi fr tc te):=by
  intro SK s σ H Q I h;unfold kC at h;rw[eval_ListComp];refine wpAny_comprehension_free (use:=none) rfl hs S.Br S.kind S.names ?_;refine thn (hi SK s σ H _ I h) fun v s1 h1=>thn h1 fun Zw s2 h2=>?_;obtain⟨it,fp,tn,J,H2,e,I2,T,ZJ,f2,W,⟨m0,w0⟩,turn⟩:=h2;subst e;refine Bs (RR:=fun acc C=>compPost (model X.prog X.w) X.A X.xe none (EP X SK σ Q) acc C) hc hx S hb I2 T ZJ f2 w0 turn ?_;intro D C s' m' H' hn _ Za q;exact⟨m',hn,fun h' Vt=>⟨.ref D,H',Za h' Vt,rfl,q⟩⟩
end
theorem gG.uC{X:Cx}{sc:Scope}{x:Str}(kind:sc.kind=.function)(nc:(sc.names.all fun y=>y.2 !=.cell&&y.2 !=.free)=true)
    (nm:(sc.names.all fun y=>!(y.2==.local)||sc.names.lookup y.1==some .local)=true) (Vj:sc.names.lookup x=some .local):gG X sc [] x [] [x] where
  kind:=kind
  uA:=fun y hy e=>by
    have h:=List.all_eq_true.mp nc y hy;rw[e] at h;exact absurd h (by decide)
  names:=fun y hy e=>by
    have h:=List.all_eq_true.mp nm y hy;rw[e] at h;simpa using h
  Br:=closureFor_none fun y hy e=>by
    have h:=List.all_eq_true.mp nc y hy;rw[e] at h;exact absurd h (by decide)
  sub:=fun y c h=>by cases h
  has:=fun y h=>by
    exfalso;have key:∀ l:List (Str×NameKind),(l.all fun y=>y.2 !=.cell&&y.2 !=.free)=true->∀ k,(l.map fun(n,k)=>if (k==NameKind.free&&X.env.scope.kind==.function&&X.env.kindOf n==some .cell) then (n,NameKind.cell) else (n,k)).lookup y=some k->k≠.cell/\k≠.free:=by
      intro l
      induction l with
      | nil=>intro _ k e;cases e
      | cons p r ih =>
        obtain⟨n,kk⟩:=p;intro ha k e;rw[List.all_cons,Bool.and_eq_true,Bool.and_eq_true] at ha;obtain⟨⟨h1,h2⟩,h3⟩:=ha;have h2':(kk==NameKind.free)=false:=by simpa using h2
        rw[List.map_cons] at e;dsimp only at e;rw[h2',Bool.false_and,Bool.false_and,if_neg Bool.false_ne_true,List.lookup_cons] at e;cases q:(y==n) with
        | true =>
          rw[q] at e;have e':kk=k:=Option.some.inj e;subst e';exact⟨by simpa using h1,by simpa using h2⟩
        | false =>
          rw[q] at e;exact ih h3 k e
    rcases h with h|h
    · exact(key sc.names nc _ h).1 rfl
    · exact(key sc.names nc _ h).2 rfl
  Vj:=Vj
  nd:=by simp
  N0:=rfl
  VY:=fun j hj=>by cases hj
section
variable {X:Cx}
theorem DQ:h9 X (compareOp .LtE) (fun x y H Q=>∃ i j,x=.str i/\y=.str j/\Q (.bl (!decide (j.cps.toList < i.cps.toList))) H):=by
 intro SK s σ H x y v u Q I rx ry h;obtain⟨i,j,rfl,rfl,q⟩:=h;obtain⟨t,rfl⟩:=rx;obtain⟨t',rfl⟩:=ry;exact PySem.P.le_str (bK I q rfl)
theorem Nx:Ho X (fun x lo hi H Q=>∃ z,x=.str z/\z.length<=sizeLine/\Q (.str (Txt.slice z lo hi)) H):=by
 intro SK s σ H x v vl vu lo hi sl Q I rx hs pl pu h;obtain⟨z,rfl,hz,q⟩:=h;obtain⟨t,rfl⟩:=rx;have fin:∀ t' k,EP X SK σ Q (.str (Txt.slice z lo hi) t') {s with toks:=k}:=fun t' k=>⟨.str _,H,I.tok _,⟨_,rfl⟩,q⟩;refine⟨"str",_,F.slot_str_getitem.lookup,typeIs_str s z t,?_⟩;cases pl with
 | none =>
  cases pu with
  | none=>exact wpAny_getItem_str_slice (l:=none) (u:=none) (st:=none) hs rfl (post_val_or_str ⟨Nat.le_trans (Txt.slice_le z _ _) hz,fin⟩)
  | int j uj=>exact wpAny_getItem_str_slice (l:=none) (u:=some (j,uj)) (st:=none) hs rfl (post_val_or_str ⟨Nat.le_trans (Txt.slice_le z _ _) hz,fin⟩)
 | int i ui =>
  cases pu with
  | none=>exact wpAny_getItem_str_slice (l:=some (i,ui)) (u:=none) (st:=none) hs rfl (post_val_or_str ⟨Nat.le_trans (Txt.slice_le z _ _) hz,fin⟩)
  | int j uj=>exact wpAny_getItem_str_slice (l:=some (i,ui)) (u:=some (j,uj)) (st:=none) hs rfl (post_val_or_str ⟨Nat.le_trans (Txt.slice_le z _ _) hz,fin⟩)
theorem Ey(hc:X.calm=true):dG X (.builtin "all") (fun xs H Q=>∃(p:Addr) (bs:List Bool),xs=[.ref p]/\dS X.K H p (bs.map V.bl)/\Q (.bl (bs.all id)) H):=by
 intro SK s σ H xs us Q I r h;obtain⟨p,bs,rfl,hq,q⟩:=h;obtain⟨u,rfl,ru⟩:=vals1 r;cases ru;obtain⟨SQ,rv,pl,hz⟩:=I.list hq;have hl:=rv.length;rw[List.length_map] at hl;have ZG:=pl.isList;have Tu:p < s.heap.objs.size:=by obtain⟨_,e,_⟩:=ZG;exact Heap.lt_size e
 refine call_all_walk (wpAny_pyIter_list ZG ?_);refine⟨s.heap.objs.size,[s.heap.objs.size,p],[s.heap.objs.size],SQ.toArray.size,_,_,fun i=>(bs[i]?).getD true,rfl,Walks.list (A:=X.A.in1) (I.ok.hd hc) _ p (Nat.ne_of_lt Tu) SQ.toArray,
  ⟨⟨_,Heap.get?_push_size _ rfl,rfl,rfl⟩,ZG.push _⟩,fun i v s' Q' E' hP hQ=>?_,fun h' tk hk=>?_⟩
 ·have hP':SQ[i]?=some v:=by simpa using hP
  have hi:i < SQ.length:=(List.getElem?_eq_some_iff.mp hP').1;have e1:bs[i]?=some bs[i]:=List.getElem?_eq_getElem (by omega);obtain⟨u1,g1,s1⟩:=rv.get (i:=i) (x:=V.bl bs[i]) (by rw[List.getElem?_map,e1]<;>rfl);rw[hP'] at g1;cases g1;cases s1;simp only[e1,Option.getD_some] at hQ;exact wpAny_truthy_bool hQ
 ·have e:((List.range SQ.toArray.size).all fun i=>(bs[i]?).getD true)=bs.all id:=by
   rw[List.size_toArray,<- hl];rw[Bool.eq_iff_iff,List.all_eq_true,List.all_eq_true];constructor
   ·intro h x hx;obtain⟨i,hi,e⟩:=List.getElem_of_mem hx;have:=h i (List.mem_range.mpr hi);rw[List.getElem?_eq_getElem hi,Option.getD_some,e] at this;exact this
   ·intro h i hi;have hi':=List.mem_range.mp hi;rw[List.getElem?_eq_getElem hi',Option.getD_some];exact h _ (List.getElem_mem hi')
  rw[e];exact⟨.bl (bs.all id),H,I.kept (fun b o eb=>hk b o (fun hm=>by rw[List.mem_singleton.mp hm] at eb;exact Nat.lt_irrefl _ (Heap.lt_size eb)) (Heap.get?_push_of_some _ eb)),rfl,q⟩
end
noncomputable def VS(x:Str):It:=⟨fun i _=>i < x.cps.size,fun i H y H'=>H'=H/\∃ c,x.cps[i]?=some c/\y=.str ⟨#[c]⟩,fun i _=>x.cps.size<=i⟩
theorem Be{P:Program}{w:World}{K:q0B}{tg:Expr}{T:String}(hT:T = "str_ascii_iterator"\/T = "str_iterator")(x:Str)(t:Tok)(it:Addr) :
    Turn P w K tg (VS x) [it] it (fun i h=>i<=x.cps.size/\h.IsStrIter it T x t i) where
  mem:=by simp
  obj:=fun i h st b hb=>by
    have e:b=it:=by simpa using hb
    subst e;obtain⟨o,e,c,d⟩:=st.2;exact⟨o,e,fun v z=>by rw[d] at z;cases z⟩
  keep:=fun i h h' st k=>⟨st.1,let ⟨o,e,r⟩:=st.2;⟨o,k it (by simp) o e,r⟩⟩
  item:=by
    intro X hP hw hK hc i SK s σ H E I hf st hg;subst hP hw hK;obtain⟨f0,f1,f2,f3,f4,f5⟩:=hf it (by simp);have W:Walks X.prog X.w X.A it [it] [it] x.cps.size (SignAt x) (fun i h=>h.IsStrIter it T x t i):=by
      rcases hT with e|e
      · subst e;exact Walks.strAscii (I.ok.hd hc) it x t
      · subst e;exact Walks.strWide (I.ok.hd hc) it x t
    refine W.item i s _ _ hg st.2 fun v h' tk hv U9 kk=>?_;obtain⟨c,u,hcx,rfl⟩:=hv;have I1:SO X SK σ H {s with heap:=h',toks:=tk}:=I.turned (fun b o hb e=>kk b o (by simpa using hb) e) f0 f1 f3 f4 f5;obtain⟨o,eo,co,d⟩:=id U9;have hn:["enumerate","zip","dict_itemiterator","dict_reverseitemiterator","odict_iterator","itertools.zip_longest","itertools.pairwise"].contains T=false:=by
      rcases hT with e|e<;>subst e<;>decide
    exact⟨_,rfl,CD (s:={s with heap:=h',toks:=tk}) (n:=T) eo co d hn ⟨.str ⟨#[c]⟩,H,I1,⟨_,rfl⟩,⟨rfl,c,hcx,rfl⟩,⟨hg,U9⟩,fun b hb=>(hf b hb).1⟩⟩
  done:=by
    intro X hP hw hK hc i SK s σ H E I hf st hg;subst hP hw hK;obtain⟨f0,f1,f2,f3,f4,f5⟩:=hf it (by simp);have W:Walks X.prog X.w X.A it [it] [it] x.cps.size (SignAt x) (fun i h=>h.IsStrIter it T x t i):=by
      rcases hT with e|e
      · subst e;exact Walks.strAscii (I.ok.hd hc) it x t
      · subst e;exact Walks.strWide (I.ok.hd hc) it x t
    have ei:i=x.cps.size:=Nat.le_antisymm st.1 hg;subst ei;exact W.done s _ _ st.2 fun h' tk kk=>⟨rfl,I.turned (fun b o hb e=>kk b o (by simpa using hb) e) f0 f1 f3 f4 f5⟩
  self:=fun A i s Q E st h=>by
    rcases hT with e|e
    · subst e;exact wpAny_pyIter_striter_ascii st.2 h
    · subst e;exact wpAny_pyIter_striter_wide st.2 h
section
variable {X:Cx} {tg:Expr}
noncomputable def MN(tl:TE):TI:=fun σ H R=>tl σ H fun x H1=>∃ z,x=.str z/\R (VS z) H1
theorem Gq{l:Expr}{tl:TE}(hl:PE X l tl):PI X tg l (MN tl):=by
 intro SK s σ H R I h;refine thn (hl SK s σ H _ I h) fun v s1 ⟨x,H1,I1,r1,q1⟩=>?_;obtain⟨z,e,q⟩:=q1;subst e;obtain⟨t,rfl⟩:=r1;cases ha:z.cps.all (· < 128) with
 | true =>
  refine wpAny_pyIter_ascii ha ⟨s1.heap.objs.size,[s1.heap.objs.size],_,_,H1,rfl,I1.kept (t':=s1.toks) fun b o e=>Heap.get?_push_of_some _ e,Be (.inl rfl) z t _,⟨Nat.zero_le _,_,Heap.get?_push_size _ rfl,rfl,rfl⟩,fun b hb=>?_,q⟩;have e:b=s1.heap.objs.size:=by simpa using hb
  subst e;exact I1.Dw (Nat.le_refl _) (I1.SS.fresh (Nat.le_refl _))
 | false =>
  refine wpAny_pyIter_wide ha ⟨s1.heap.objs.size,[s1.heap.objs.size],_,_,H1,rfl,I1.kept (t':=s1.toks) fun b o e=>Heap.get?_push_of_some _ e,Be (.inr rfl) z t _,⟨Nat.zero_le _,_,Heap.get?_push_size _ rfl,rfl,rfl⟩,fun b hb=>?_,q⟩;have e:b=s1.heap.objs.size:=by simpa using hb
  subst e;exact I1.Dw (Nat.le_refl _) (I1.SS.fresh (Nat.le_refl _))
end
noncomputable def cW(n:Nat)(Pv:Nat->List V->Hp->Prop)(i m:Nat)(xs:List V)(H:Hp):Prop:=m=n - i/\i<=n/\Pv i xs H
theorem cW.next{n:Nat}{Pv:Nat->List V->Hp->Prop}{i:Nat}{xs:List V}{H:Hp}(hi:i < n)(p:Pv (i+1) xs H):∃ m',m' < n - i/\cW n Pv (i+1) m' xs H:=⟨n - (i+1),by omega,rfl,hi,p⟩
section
variable {fr:List Nat} {tc:TT} {te:TE} {σ:St} {H:Hp} {Q:VK}
theorem Dm{K:q0B}{a:Addr}{ys:List V}(Pv:Nat->List V->Hp->Prop)(h0:Pv 0 [] H)(hz:∀ i xs H,Pv i xs H->xs.length<=1000000)(hl:∀ i xs H,Pv i xs H->dS K H a ys)
    (hs:∀ i y xs H,i < ys.length->ys[i]?=some y->Pv i xs H->tc (some y::bE fr σ) H fun b H2=>if b=true then te (some y::bE fr σ) H2 (fun z H3=>∃ m',m' < ys.length - i/\cW ys.length Pv (i+1) m' (xs++[z]) H3) else ∃ m',m' < ys.length - i/\cW ys.length Pv (i+1) m' xs H2)
    (hd:∀ xs H,Pv ys.length xs H->∀ p,H p=none->Q (.ref p) (SM H p (.lst xs))) :
    ∃ W:Nat->Nat->List V->Hp->Prop,(∃ m,W 0 m [] H)/\∀ i m xs H,W i m xs H->xs.length<=1000000 /\
      (((UE K a).stop i H/\∀ p,H p=none->Q (.ref p) (SM H p (.lst xs))) \/
       ((UE K a).go i H/\∀ y H',(UE K a).yld i H y H'->tc (some y::bE fr σ) H' fun b H2=>if b=true then te (some y::bE fr σ) H2 (fun z H3=>∃ m',m' < m/\W (i+1) m' (xs++[z]) H3) else ∃ m',m' < m/\W (i+1) m' xs H2)):=by
  refine⟨cW ys.length Pv,⟨ys.length,by simp,Nat.zero_le _,h0⟩,?_⟩;rintro i m xs H ⟨rfl,hi,p⟩;refine⟨hz i xs H p,?_⟩;have q:=hl i xs H p;by_cases Tu:i < ys.length
  · refine .inr ⟨⟨ys,ys[i],q,by simp[Tu]⟩,fun y H' yy=>?_⟩;obtain⟨e,yy⟩:=yy;subst e;exact hs i y xs _ Tu (yy ys q) p
  · have e:i=ys.length:=by omega
    subst e;exact .inl ⟨⟨ys,q,Nat.le_refl _⟩,hd xs H p⟩
theorem EE{x:Str}(Pv:Nat->List V->Hp->Prop)(h0:Pv 0 [] H)(hz:∀ i xs H,Pv i xs H->xs.length<=1000000)
    (hs:∀ i c xs H,i < x.cps.size->x.cps[i]?=some c->Pv i xs H->tc (some (.str ⟨#[c]⟩)::bE fr σ) H fun b H2=>if b=true then te (some (.str ⟨#[c]⟩)::bE fr σ) H2 (fun z H3=>∃ m',m' < x.cps.size - i/\cW x.cps.size Pv (i+1) m' (xs++[z]) H3) else ∃ m',m' < x.cps.size - i/\cW x.cps.size Pv (i+1) m' xs H2)
    (hd:∀ xs H,Pv x.cps.size xs H->∀ p,H p=none->Q (.ref p) (SM H p (.lst xs))) :
    ∃ W:Nat->Nat->List V->Hp->Prop,(∃ m,W 0 m [] H)/\∀ i m xs H,W i m xs H->xs.length<=1000000 /\
      (((VS x).stop i H/\∀ p,H p=none->Q (.ref p) (SM H p (.lst xs))) \/
       ((VS x).go i H/\∀ y H',(VS x).yld i H y H'->tc (some y::bE fr σ) H' fun b H2=>if b=true then te (some y::bE fr σ) H2 (fun z H3=>∃ m',m' < m/\W (i+1) m' (xs++[z]) H3) else ∃ m',m' < m/\W (i+1) m' xs H2)):=by
  refine⟨cW x.cps.size Pv,⟨x.cps.size,by simp,Nat.zero_le _,h0⟩,?_⟩;rintro i m xs H ⟨rfl,hi,p⟩;refine⟨hz i xs H p,?_⟩;by_cases Tu:i < x.cps.size
  · refine .inr ⟨Tu,fun y H' yy=>?_⟩;obtain⟨e,c,hc,rfl⟩:=yy;subst e;exact hs i c xs _ Tu hc p
  · have e:i=x.cps.size:=by omega
    subst e;exact .inl ⟨Nat.le_refl _,hd xs H p⟩
theorem Bt{lo:Int}{n:Nat}(Pv:Nat->List V->Hp->Prop)(h0:Pv 0 [] H)(hz:∀ i xs H,Pv i xs H->xs.length<=1000000)
    (hs:∀ i xs H,i < n->Pv i xs H->tc (some (.int (lo+i))::bE fr σ) H fun b H2=>if b=true then te (some (.int (lo+i))::bE fr σ) H2 (fun z H3=>∃ m',m' < n - i/\cW n Pv (i+1) m' (xs++[z]) H3) else ∃ m',m' < n - i/\cW n Pv (i+1) m' xs H2)
    (hd:∀ xs H,Pv n xs H->∀ p,H p=none->Q (.ref p) (SM H p (.lst xs))) :
    ∃ W:Nat->Nat->List V->Hp->Prop,(∃ m,W 0 m [] H)/\∀ i m xs H,W i m xs H->xs.length<=1000000 /\
      (((Uo lo n).stop i H/\∀ p,H p=none->Q (.ref p) (SM H p (.lst xs))) \/
       ((Uo lo n).go i H/\∀ y H',(Uo lo n).yld i H y H'->tc (some y::bE fr σ) H' fun b H2=>if b=true then te (some y::bE fr σ) H2 (fun z H3=>∃ m',m' < m/\W (i+1) m' (xs++[z]) H3) else ∃ m',m' < m/\W (i+1) m' xs H2)):=by
  refine⟨cW n Pv,⟨n,by simp,Nat.zero_le _,h0⟩,?_⟩;rintro i m xs H ⟨rfl,hi,p⟩;refine⟨hz i xs H p,?_⟩;by_cases Tu:i < n
  · refine .inr ⟨Tu,fun y H' yy=>?_⟩;obtain⟨e,rfl⟩:=yy;subst e;exact hs i xs _ Tu p
  · have e:i=n:=by omega
    subst e;exact .inl ⟨Nat.le_refl _,hd xs H p⟩
end
section
variable {fr:List Nat} {tc:TT} {te:TE} {σ:St} {H H1:Hp} {Q:VK}
end
theorem tY{l:List (Str×NameKind)}{y:Str}{k:NameKind}(h:l.lookup y=some k):(y,k)∈l:=PySem.mem_of_lookup h
theorem gG.free{X:Cx}{sc:Scope}{cl:List (Str×Addr)}{x:Str}{fr:List Nat}{N:List Str}(kind:sc.kind=.function)(nc:(sc.names.all fun y=>y.2 !=.cell)=true)
    (nm:(sc.names.all fun y=>!(y.2==.local)||sc.names.lookup y.1==some .local)=true) (Vj:sc.names.lookup x=some .local) (Br:closureFor sc X.env=pure cl)
    (sub:∀ y c,cl.lookup y=some c->X.env.cells.lookup y=some c) (has:((relabel sc X.env).names.all fun y=>(y.2 !=.cell&&y.2 !=.free)||(cl.lookup y.1).isSome)=true)
    (nd:N.Nodup) (N0:N=x::fr.map fun j=>X.N.getD j x) (VY:∀ j∈fr,∃ y,X.N[j]?=some y/\X.env.kindOf y=some .cell/\((relabel sc X.env).names.lookup y=some .cell\/(relabel sc X.env).names.lookup y=some .free)):gG X sc cl x fr N where
  kind:=kind
  uA:=fun y hy e=>by
    have h:=List.all_eq_true.mp nc y hy;rw[e] at h;exact absurd h (by decide)
  names:=fun y hy e=>by
    have h:=List.all_eq_true.mp nm y hy;rw[e] at h;simpa using h
  Br:=Br
  sub:=sub
  has:=fun y h=>by
    have key:∀ k,(relabel sc X.env).names.lookup y=some k->(k=.cell\/k=.free)->∃ c,cl.lookup y=some c:=fun k e hk=>by
      have h:=List.all_eq_true.mp has (y,k) (tY e);rcases hk with rfl|rfl
      · exact Option.isSome_iff_exists.mp (by simpa using h)
      · exact Option.isSome_iff_exists.mp (by simpa using h)
    rcases h with h|h
    · exact key _ h (.inl rfl)
    · exact key _ h (.inr rfl)
  Vj:=Vj
  nd:=nd
  N0:=N0
  VY:=VY
section
variable {X:Cx} {sc:Scope} {cl:List (Str×Addr)} {x:Str} {fr:List Nat} {N:List Str} {elt iter:Expr} {px pos:Pos} {ifs:List Expr} {wi:TI} {tc:TT} {te:TE}
end
section
variable {prog:Program} {w:World} {A:Around} {E:q0A} {s:Shared}
end
section
variable {σ:St} {H:Hp} {Q:VK} {i j:Int} {x y:Str} {v:V} {n:Nat} {a:Addr}
theorem Ki:dO 0 (some v::σ) H Q=Q v H:=by simp[dO]
theorem fR{o:Option V}:dO (n+1) (o::σ) H Q=dO n σ H Q:=by simp[dO]
theorem QY{o0:Option V}:dO 1 (o0::some v::σ) H Q=Q v H:=(fR.trans Ki)
theorem QZ{o0 o1:Option V}:dO 2 (o0::o1::some v::σ) H Q=Q v H:=(fR.trans QY)
theorem Q0{o0 o1 o2:Option V}:dO 3 (o0::o1::o2::some v::σ) H Q=Q v H:=(fR.trans QZ)
theorem Q2{o0 o1 o2 o3:Option V}:dO 4 (o0::o1::o2::o3::some v::σ) H Q=Q v H:=(fR.trans Q0)
theorem Q3{o0 o1 o2 o3 o4:Option V}:dO 5 (o0::o1::o2::o3::o4::some v::σ) H Q=Q v H:=(fR.trans Q2)
theorem Q4{o0 o1 o2 o3 o4 o5:Option V}:dO 6 (o0::o1::o2::o3::o4::o5::some v::σ) H Q=Q v H:=(fR.trans Q3)
theorem Q5{o0 o1 o2 o3 o4 o5 o6:Option V}:dO 7 (o0::o1::o2::o3::o4::o5::o6::some v::σ) H Q=Q v H:=(fR.trans Q4)
theorem Q6{o0 o1 o2 o3 o4 o5 o6 o7:Option V}:dO 8 (o0::o1::o2::o3::o4::o5::o6::o7::some v::σ) H Q=Q v H:=(fR.trans Q5)
theorem Q7{o0 o1 o2 o3 o4 o5 o6 o7 o8:Option V}:dO 9 (o0::o1::o2::o3::o4::o5::o6::o7::o8::some v::σ) H Q=Q v H:=(fR.trans Q6)
theorem Kj{o0 o1 o2 o3 o4 o5 o6 o7 o8 o9:Option V}:dO 10 (o0::o1::o2::o3::o4::o5::o6::o7::o8::o9::some v::σ) H Q=Q v H:=(fR.trans Q7)
theorem Kk{o0 o1 o2 o3 o4 o5 o6 o7 o8 o9 S5:Option V}:dO 11 (o0::o1::o2::o3::o4::o5::o6::o7::o8::o9::S5::some v::σ) H Q=Q v H:=(fR.trans Kj)
theorem Kl{o0 o1 o2 o3 o4 o5 o6 o7 o8 o9 S5 S7:Option V}:dO 12 (o0::o1::o2::o3::o4::o5::o6::o7::o8::o9::S5::S7::some v::σ) H Q=Q v H:=(fR.trans Kk)
theorem Km{o0 o1 o2 o3 o4 o5 o6 o7 o8 o9 S5 S7 S8:Option V}:dO 13 (o0::o1::o2::o3::o4::o5::o6::o7::o8::o9::S5::S7::S8::some v::σ) H Q=Q v H:=(fR.trans Kl)
theorem Kn{o0 o1 o2 o3 o4 o5 o6 o7 o8 o9 S5 S7 S8 Tb:Option V}:dO 14 (o0::o1::o2::o3::o4::o5::o6::o7::o8::o9::S5::S7::S8::Tb::some v::σ) H Q=Q v H:=(fR.trans Km)
theorem Ko{o0 o1 o2 o3 o4 o5 o6 o7 o8 o9 S5 S7 S8 Tb Tf:Option V}:dO 15 (o0::o1::o2::o3::o4::o5::o6::o7::o8::o9::S5::S7::S8::Tb::Tf::some v::σ) H Q=Q v H:=(fR.trans Kn)
theorem Kq{o0 o1 o2 o3 o4 o5 o6 o7 o8 o9 S5 S7 S8 Tb Tf Tj:Option V}:dO 16 (o0::o1::o2::o3::o4::o5::o6::o7::o8::o9::S5::S7::S8::Tb::Tf::Tj::some v::σ) H Q=Q v H:=(fR.trans Ko)
theorem Kr{o0 o1 o2 o3 o4 o5 o6 o7 o8 o9 S5 S7 S8 Tb Tf Tj To:Option V}:dO 17 (o0::o1::o2::o3::o4::o5::o6::o7::o8::o9::S5::S7::S8::Tb::Tf::Tj::To::some v::σ) H Q=Q v H:=(fR.trans Kq)
theorem Ks{o0 o1 o2 o3 o4 o5 o6 o7 o8 o9 S5 S7 S8 Tb Tf Tj To Tq:Option V}:dO 18 (o0::o1::o2::o3::o4::o5::o6::o7::o8::o9::S5::S7::S8::Tb::Tf::Tj::To::Tq::some v::σ) H Q=Q v H:=(fR.trans Kr)
theorem Kt{o0 o1 o2 o3 o4 o5 o6 o7 o8 o9 S5 S7 S8 Tb Tf Tj To Tq Tw:Option V}:dO 19 (o0::o1::o2::o3::o4::o5::o6::o7::o8::o9::S5::S7::S8::Tb::Tf::Tj::To::Tq::Tw::some v::σ) H Q=Q v H:=(fR.trans Ks)
theorem Ku{o0 o1 o2 o3 o4 o5 o6 o7 o8 o9 S5 S7 S8 Tb Tf Tj To Tq Tw TH:Option V}:dO 20 (o0::o1::o2::o3::o4::o5::o6::o7::o8::o9::S5::S7::S8::Tb::Tf::Tj::To::Tq::Tw::TH::some v::σ) H Q=Q v H:=(fR.trans Kt)
theorem Kv{o0 o1 o2 o3 o4 o5 o6 o7 o8 o9 S5 S7 S8 Tb Tf Tj To Tq Tw TH TM:Option V}:dO 21 (o0::o1::o2::o3::o4::o5::o6::o7::o8::o9::S5::S7::S8::Tb::Tf::Tj::To::Tq::Tw::TH::TM::some v::σ) H Q=Q v H:=(fR.trans Ku)
theorem Kw{o0 o1 o2 o3 o4 o5 o6 o7 o8 o9 S5 S7 S8 Tb Tf Tj To Tq Tw TH TM T7:Option V}:dO 22 (o0::o1::o2::o3::o4::o5::o6::o7::o8::o9::S5::S7::S8::Tb::Tf::Tj::To::Tq::Tw::TH::TM::T7::some v::σ) H Q=Q v H:=(fR.trans Kv)
theorem Kx{o0 o1 o2 o3 o4 o5 o6 o7 o8 o9 S5 S7 S8 Tb Tf Tj To Tq Tw TH TM T7 Uj:Option V}:dO 23 (o0::o1::o2::o3::o4::o5::o6::o7::o8::o9::S5::S7::S8::Tb::Tf::Tj::To::Tq::Tw::TH::TM::T7::Uj::some v::σ) H Q=Q v H:=(fR.trans Kw)
theorem Ky{o0 o1 o2 o3 o4 o5 o6 o7 o8 o9 S5 S7 S8 Tb Tf Tj To Tq Tw TH TM T7 Uj UA:Option V}:dO 24 (o0::o1::o2::o3::o4::o5::o6::o7::o8::o9::S5::S7::S8::Tb::Tf::Tj::To::Tq::Tw::TH::TM::T7::Uj::UA::some v::σ) H Q=Q v H:=(fR.trans Kx)
theorem Kz{o0 o1 o2 o3 o4 o5 o6 o7 o8 o9 S5 S7 S8 Tb Tf Tj To Tq Tw TH TM T7 Uj UA U0:Option V}:dO 25 (o0::o1::o2::o3::o4::o5::o6::o7::o8::o9::S5::S7::S8::Tb::Tf::Tj::To::Tq::Tw::TH::TM::T7::Uj::UA::U0::some v::σ) H Q=Q v H:=(fR.trans Ky)
theorem KA{o0 o1 o2 o3 o4 o5 o6 o7 o8 o9 S5 S7 S8 Tb Tf Tj To Tq Tw TH TM T7 Uj UA U0 Vw:Option V}:dO 26 (o0::o1::o2::o3::o4::o5::o6::o7::o8::o9::S5::S7::S8::Tb::Tf::Tj::To::Tq::Tw::TH::TM::T7::Uj::UA::U0::Vw::some v::σ) H Q=Q v H:=(fR.trans Kz)
theorem KC{o0 o1 o2 o3 o4 o5 o6 o7 o8 o9 S5 S7 S8 Tb Tf Tj To Tq Tw TH TM T7 Uj UA U0 Vw Wc:Option V}:dO 27 (o0::o1::o2::o3::o4::o5::o6::o7::o8::o9::S5::S7::S8::Tb::Tf::Tj::To::Tq::Tw::TH::TM::T7::Uj::UA::U0::Vw::Wc::some v::σ) H Q=Q v H:=(fR.trans KA)
theorem KE{o0 o1 o2 o3 o4 o5 o6 o7 o8 o9 S5 S7 S8 Tb Tf Tj To Tq Tw TH TM T7 Uj UA U0 Vw Wc Xd:Option V}:dO 28 (o0::o1::o2::o3::o4::o5::o6::o7::o8::o9::S5::S7::S8::Tb::Tf::Tj::To::Tq::Tw::TH::TM::T7::Uj::UA::U0::Vw::Wc::Xd::some v::σ) H Q=Q v H:=(fR.trans KC)
theorem KH{o0 o1 o2 o3 o4 o5 o6 o7 o8 o9 S5 S7 S8 Tb Tf Tj To Tq Tw TH TM T7 Uj UA U0 Vw Wc Xd ZF:Option V}:dO 29 (o0::o1::o2::o3::o4::o5::o6::o7::o8::o9::S5::S7::S8::Tb::Tf::Tj::To::Tq::Tw::TH::TM::T7::Uj::UA::U0::Vw::Wc::Xd::ZF::some v::σ) H Q=Q v H:=(fR.trans KE)
theorem Q1{o0 o1 o2 o3 o4 o5 o6 o7 o8 o9 S5 S7 S8 Tb Tf Tj To Tq Tw TH TM T7 Uj UA U0 Vw Wc Xd ZF o29:Option V}:dO 30 (o0::o1::o2::o3::o4::o5::o6::o7::o8::o9::S5::S7::S8::Tb::Tf::Tj::To::Tq::Tw::TH::TM::T7::Uj::UA::U0::Vw::Wc::Xd::ZF::o29::some v::σ) H Q=Q v H:=(fR.trans KH)
theorem FF{α β:Type}{f:α->β}{a:α}{l:List α}:List.map f (a::l)=f a::List.map f l:=rfl
theorem J5{α β:Type}{f:α->β}:List.map f []=[]:=rfl
theorem Sl{C:Int->Int->Prop}{g:Int->Int->V}:rI C g (.int i) (.int j) H Q=(C i j/\Q (g i j) H):=by simp[rI]
theorem QX{g:Int->Int->V}:Hj g (.int i) (.int j) H Q=Q (g i j) H:=by simp[Hj]
theorem Sm{g:Int->V}:rU g (.int i) H Q=Q (g i) H:=by simp[rU]
theorem w_lit(h:Nat.ble n 1000=true):(n<=sizeLine)=True:=eq_true (Nat.le_of_lt (small1000 (Nat.le_of_ble_eq_true h)))
theorem QT:DV (.int i) (.int j) H Q=Q (.bl (decide (i=j))) H:=by simp only[DV,show scal (.int i) (.int j)=true from rfl,V.int.injEq,true_and]
theorem QU:DV (.str x) (.str y) H Q=Q (.bl (decide (x=y))) H:=by simp only[DV,show scal (.str x) (.str y)=true from rfl,V.str.injEq,true_and]
theorem QV:Jt (.int i) (.int j) H Q=Q (.bl (!decide (i=j))) H:=by simp only[Jt,show scal (.int i) (.int j)=true from rfl,V.int.injEq,true_and]
theorem QW:Jt (.str x) (.str y) H Q=Q (.bl (!decide (x=y))) H:=by simp only[Jt,show scal (.str x) (.str y)=true from rfl,V.str.injEq,true_and]
end
theorem fE{a b:String}:(Str.ofString a=Str.ofString b)=(a=b):=by
 refine propext ⟨fun h=>?_,fun h=>by rw[h]⟩;rw[Str.ofString_eq_toList,Str.ofString_eq_toList] at h;have e:(a.toList.map Char.toNat)=(b.toList.map Char.toNat):=by
  have:=congrArg (fun z:Str=>z.cps.toList) h;simpa using this
 have inj:∀ x y:Char,x.toNat=y.toNat->x=y:=fun x y q=>Char.ext (UInt32.toNat_inj.mp q);have:=(List.map_inj_right (f:=Char.toNat) (fun x y q=>inj x y q)).mp e;exact String.toList_inj.mp this
noncomputable def Kp(S:List Addr)(H H':Hp):Prop:=∀ b o,H b=some o->b∉S->H' b=some o
section
variable {S T:List Addr} {H H1 H2:Hp} {a p:Addr} {o:HO}
theorem Kp.refl:Kp S H H:=fun _ _ h _=>h
theorem Kp.trans(x:Kp S H H1)(y:Kp S H1 H2):Kp S H H2:=fun b o h n=>y b o (x b o h n) n
theorem Kp.mono(x:Kp S H H1)(h:∀ b∈S,b∈T):Kp T H H1:=fun b o e n=>x b o e fun z=>n (h b z)
theorem Kp.new(h:H p=none):Kp S H (SM H p o):=fun b u e _=>by rw[aY (aX e h)];exact e
theorem q0D(h:H p=none):Kp [] H (SM H p o):=Kp.new h
theorem Kp.set(h:p∈S):Kp S H (SM H p o):=fun b u e n=>by rw[aY (show b≠p from fun z=>n (by rw[z];exact h))];exact e
theorem Kp.at(x:Kp S H H1)(e:H a=some o)(n:a∉S:=by first|exact List.not_mem_nil|simp_all):H1 a=some o:=x a o e n
theorem Kp.same(x:Kp [] H H1):Same H H1:=fun b o e=>x b o e (by simp)
theorem Kp.of(x:Same H H1):Kp S H H1:=fun b o e _=>x b o e
theorem Kp.drop(x:Kp (p::S) H H1)(h:H p=none):Kp S H H1:=fun b o e n=>x b o e (by
 simp only[List.mem_cons,not_or];exact⟨aX e h,n⟩)
end
noncomputable abbrev Tg{α:Type}(_:α):Type:=Unit
noncomputable def dE{α:Type}(o:Option α)(k:α->Prop)(_u:Tg k:=()):Prop:=match o with
 | some x=>k x
 | none=>False
noncomputable def Ji(x:V)(k:Bool->Prop)(_u:Tg k:=()):Prop:=match x with
 | .bl b=>k b
 | _=>False
noncomputable def bF(o:Option HO)(k:List V->Prop)(_u:Tg k:=()):Prop:=match o with
 | some (.lst xs)=>k xs
 | _=>False
noncomputable def j6(o:Option HO)(k:List V->Prop)(_u:Tg k:=()):Prop:=match o with
 | some (.lst xs)=>k xs
 | some (.tup xs)=>k xs
 | _=>False
noncomputable def cI(o:Option HO)(k:List (Key×V)->Prop)(_u:Tg k:=()):Prop:=match o with
 | some (.dK xs)=>k xs
 | _=>False
noncomputable def aO(x:V)(k:Addr->Prop)(_u:Tg k:=()):Prop:=match x with
 | .ref p=>k p
 | _=>False
noncomputable def dR(x:V)(k:Int->Prop)(_u:Tg k:=()):Prop:=match x with
 | .int i=>k i
 | _=>False
theorem gZ{α:Type}{o:Option α}{k:α->Prop}(h:dE o k):∃ x,o=some x/\k x:=by
 cases o with
 | none=>exact h.elim
 | some x=>exact⟨x,rfl,h⟩
theorem Na{x:V}{k:Bool->Prop}(h:Ji x k):∃ b,x=.bl b/\k b:=by
 cases x with
 | bl b=>exact⟨b,rfl,h⟩
 | _=>exact h.elim
theorem pO{x:V}{k:Bool->Prop}:(∃ b,x=.bl b/\k b)=Ji x k:=by
 refine propext ⟨fun⟨b,e,h⟩=>by subst e;exact h,Na⟩
theorem bC{x:V}{k:Addr->Prop}(h:aO x k):∃ b,x=.ref b/\k b:=by
 cases x with
 | ref b=>exact⟨b,rfl,h⟩
 | _=>exact h.elim
theorem dI{x:V}{k:Int->Prop}(h:dR x k):∃ b,x=.int b/\k b:=by
 cases x with
 | int b=>exact⟨b,rfl,h⟩
 | _=>exact h.elim
theorem fZ{o:Option HO}{k:List V->Prop}(h:bF o k):∃ xs,o=some (.lst xs)/\k xs:=by
 unfold bF at h;split at h
 ·exact⟨_,rfl,h⟩
 ·exact h.elim
theorem nY{o:Option HO}{k:List V->Prop}(h:j6 o k):∃ xs,(o=some (.lst xs)\/o=some (.tup xs))/\k xs:=by
 unfold j6 at h;split at h
 ·exact⟨_,.inl rfl,h⟩
 ·exact⟨_,.inr rfl,h⟩
 ·exact h.elim
noncomputable def Ry:R2:=fun x y H Q=>match x with
 | .ref p=>j6 (H p) fun xs=>dR y fun i=>dE (mP xs i) fun v=>Q v H
 | .str z=>dR y fun i=>z.length<=sizeLine/\dE (mP z.cps.toList i) fun c=>Q (.str ⟨#[c]⟩) H
 | _=>False
noncomputable def Hv(H:Hp)(Q:VK)(a:Addr)(oa ob:Option HO):Prop:=match oa,ob with
 | some (.lst xs),some (.lst ys)=>xs.length+ys.length<=sizeLine/\∀ p,H p=none->Q (.ref p) (SM H p (.lst (xs++ys)))
 | some (.tup xs),some (.tup ys)=>xs≠[]/\xs.length+ys.length<=sizeLine/\(ys≠[]->∀ p,H p=none->Q (.ref p) (SM H p (.tup (xs++ys))))/\(ys=[]->Q (.ref a) H)
 | _,_=>False
noncomputable def En:R2:=fun x y H Q=>match x,y with
 | .int i,.int j=>Q (.int (i+j)) H
 | .str a,.str b=>a.length+b.length<=sizeLine/\Q (.str (a++b)) H
 | .ref a,.ref b=>Hv H Q a (H a) (H b)
 | _,_=>False
noncomputable def Eo(lo hi:Option Int)(H:Hp)(Q:VK)(o:Option HO):Prop:=match o with
 | some (.lst xs)=>∀ p,H p=none->Q (.ref p) (SM H p (.lst (kM xs lo hi)))
 | some (.tup xs)=>¬ (HT.gD xs.length 0 lo=0/\HT.gD xs.length xs.length hi=xs.length)/\∀ p,H p=none->Q (.ref p) (SM H p (.tup (kM xs lo hi)))
 | _=>False
noncomputable def Rc:V->Option Int->Option Int->Hp->VK->Prop:=fun x lo hi H Q=>match x with
 | .str z=>z.length<=sizeLine/\Q (.str (Txt.slice z lo hi)) H
 | .ref a=>Eo lo hi H Q (H a)
 | _=>False
noncomputable def Hz:List V->Hp->VK->Prop:=fun vs H Q=>match vs with
 | [.str z]=>z.length<=sizeLine/\Q (.int z.length) H
 | [.ref p]=>j6 (H p) fun xs=>Q (.int xs.length) H
 | _=>False
noncomputable def Oy:V->V->V->Hp->(Hp->Prop)->Prop:=fun o i v H Q=>aO o fun p=>dR i fun k=>bF (H p) fun xs=>dE (CH xs.length k) fun j=>Q (SM H p (.lst (xs.set j v)))
noncomputable def kE:V->Option Key
 | .int i=>some (.inl i)
 | .str x=>some (.inr x)
 | .SR=>some .no
 | _=>none
noncomputable def Om(td ty:TE):TE:=fun σ H Q=>td σ H fun x H1=>aO x fun a=>cI (H1 a) fun _=>ty σ H1 fun y H2=>cI (H2 a) fun SN=>dE (kE y) fun k=>Q ((cQ SN k).getD .SR) H2
noncomputable def Rt(td ty:TE):TE:=fun σ H Q=>td σ H fun x H1=>ty σ H1 fun y H2=>aO x fun a=>cI (H2 a) fun SN=>dE (kE y) fun k=>dE (cQ SN k) fun v=>Q v H2
noncomputable def RE(td ty tv:TE):TS:=fun D σ H=>tv σ H fun v H1=>td σ H1 fun x H2=>ty σ H2 fun y H3=>aO x fun a=>cI (H3 a) fun SN=>dE (kE y) fun k=>SN.length < sizeLine/\D.nx σ (SM H3 a (.dK (iY SN k v)))
noncomputable def Rv(neg:Bool):R2:=fun x y H Q=>aO y fun p=>j6 (H p) fun xs=>b8 x=true/\xs.all b8=true/\Q (.bl (if neg=true then !b7 x xs else b7 x xs)) H
noncomputable def Hx:List V->Hp->VK->Prop:=fun vs H Q=>match vs with
 | [.int i]=>Q (.int i) H
 | [.bl k]=>Q (.int (if k=true then 1 else 0)) H
 | _=>False
noncomputable def Rx:R2:=fun x y H Q=>match y with
 | .SR=>Q (.bl (decide (x=.SR))) H
 | _=>False
noncomputable def JV:R2:=fun x y H Q=>match y with
 | .SR=>Q (.bl (!decide (x=.SR))) H
 | _=>False
noncomputable def K0:List V->Hp->VK->Prop:=fun vs H Q=>match vs with
 | [.int i,.int j]=>Q (.int (if j > i then j else i)) H
 | _=>False
noncomputable def Rz:List V->Hp->VK->Prop:=fun vs H Q=>match vs with
 | [.int i,.int j]=>Q (.int (if j < i then j else i)) H
 | _=>False
noncomputable def KS:List V->Hp->VK->Prop:=fun vs H Q=>match vs with
 | [.int i]=>Q (.int (if i < 0 then -i else i)) H
 | _=>False
noncomputable def yY(v:V)(T:String):Option Bool:=match v with
 | .int _=>if T = "int" then some true else if T = "bool"\/T = "str"\/T = "tuple" then some false else none
 | .bl _=>if T = "int"\/T = "bool" then some true else if T = "str"\/T = "tuple" then some false else none
 | .str _=>if T = "str" then some true else if T = "int"\/T = "bool"\/T = "tuple" then some false else none
 | .SR=>if T = "int"\/T = "bool"\/T = "str"\/T = "tuple" then some false else none
 | _=>none
noncomputable def fY(o:Option HO)(T:String):Option Bool:=match o with
 | some (.lst _)=>if T = "int"\/T = "bool"\/T = "str"\/T = "tuple" then some false else none
 | some (.tup _)=>if T = "tuple" then some true else if T = "int"\/T = "bool"\/T = "str" then some false else none
 | some (.dK _)=>if T = "int"\/T = "bool"\/T = "str" then some false else none
 | _=>none
noncomputable def dH:List V->Hp->VK->Prop:=fun vs H Q=>match vs with
 | [.ref p,.ty T]=>dE (fY (H p) T) fun b=>Q (.bl b) H
 | [v,.ty T]=>dE (yY v T) fun b=>Q (.bl b) H
 | _=>False
theorem MV{K:q0B}{H:Hp}{v:V}{T:String}{b:Bool}(h:yY v T=some b):nG K H v T b:=by
 unfold yY at h;split at h
 all_goals (repeat' split at h)
 all_goals first
  | cases h
  | skip
 all_goals first
  | (subst_vars;constructor)
  | (rename_i q;rcases q with rfl|rfl<;>constructor)
  | (rename_i q _;rcases q with rfl|rfl<;>constructor)
  | (rename_i q;rcases q with rfl|rfl|rfl<;>constructor)
  | (rename_i q;rcases q with rfl|rfl|rfl|rfl<;>constructor)
theorem IP{K:q0B}{H:Hp}{p:Addr}{T:String}{b:Bool}(h:fY (H p) T=some b):nG K H (.ref p) T b:=by
 unfold fY at h;split at h
 ·rename_i xs e
  have q:dS K H p xs:=.inl (.inl e);split at h
  ·cases h
   rename_i z
   rcases z with rfl|rfl|rfl|rfl
   ·exact .li q
   ·exact .lb q
   ·exact .ls q
   ·exact .lt q
  ·cases h
 ·rename_i xs e
  have q:fS K H p xs:=.inl (.inl e);split at h
  ·cases h
   subst_vars
   exact .tt q
  ·split at h
   ·cases h
    rename_i z
    rcases z with rfl|rfl|rfl
    ·exact .ti q
    ·exact .tb q
    ·exact .ts q
   ·cases h
 ·rename_i SN e
  split at h
  ·cases h
   rename_i z
   rcases z with rfl|rfl|rfl
   ·exact .di e
   ·exact .db e
   ·exact .ds e
  ·cases h
 ·cases h
noncomputable def Oe(to te:TE):TE:=fun σ H Q=>to σ H fun x H1=>aO x fun a=>bF (H1 a) fun _=>te σ H1 fun y H2=>bF (H2 a) fun xs=>xs.length < sizeLine/\Q .SR (SM H2 a (.lst (xs++[y])))
noncomputable def RD(to:TE):TE:=fun σ H Q=>to σ H fun x H1=>aO x fun a=>bF (H1 a) fun xs=>dE (xs[xs.length - 1]?) fun y=>Q y (SM H1 a (.lst xs.dropLast))
section
variable {X:Cx}
theorem C8.imp{r r':R2}(h:C8 X r)(f:∀ x y H Q,r' x y H Q->r x y H Q):C8 X r':=fun value slice SK s σ H x y v u Q I rx ry q=>h value slice SK s σ H x y v u Q I rx ry (f _ _ _ _ q)
theorem h9.imp{f:Value->Value->Sem Value}{r r':R2}(h:h9 X f r)(g:∀ x y H Q,r' x y H Q->r x y H Q):h9 X f r':=fun SK s σ H x y v u Q I rx ry q=>h SK s σ H x y v u Q I rx ry (g _ _ _ _ q)
theorem cY:C8 X Ry:=MS.imp fun x y H Q h=>by
 cases x with
 | ref p =>
  obtain⟨xs,e,h⟩:=nY h;obtain⟨i,rfl,h⟩:=dI h;obtain⟨v,e2,h⟩:=gZ h;rcases e with e|e
  ·exact .inl ⟨_,_,_,_,rfl,rfl,.inl (.inl e),e2,h⟩
  ·exact .inr (.inl ⟨_,_,_,_,rfl,rfl,.inl (.inl e),e2,h⟩)
 | str z =>
  obtain⟨i,rfl,h1,h⟩:=dI h;obtain⟨v,e2,h⟩:=gZ h;exact .inr (.inr ⟨_,_,_,rfl,rfl,h1,e2,h⟩)
 | _=>exact h.elim
theorem aU:h9 X (binaryOp .Add) En:=(Nb.or (BU.or (Nc.or CO))).imp fun x y H Q h=>by
 unfold En Hv at h;split at h
 ·exact .inl ⟨_,_,rfl,rfl,h⟩
 ·exact .inr (.inl ⟨_,_,rfl,rfl,h.1,h.2⟩)
 ·split at h
  ·exact .inr (.inr (.inl ⟨_,_,_,_,rfl,rfl,‹_›,‹_›,h.1,h.2⟩))
  ·exact .inr (.inr (.inr ⟨_,_,_,_,rfl,rfl,.inl (.inl ‹_›),.inl (.inl ‹_›),h.1,h.2.1,h.2.2.2,h.2.2.1⟩))
  ·exact h.elim
 ·exact h.elim
theorem Nw:Ho X Rc:=fun SK s σ H x v vl vu lo hi sl Q I rx hs pl pu h=>by
 refine(CU.or (Ny.or Nx)) SK s σ H x v vl vu lo hi sl Q I rx hs pl pu ?_;unfold Rc Eo at h;split at h
 ·exact .inr (.inr ⟨_,rfl,h.1,h.2⟩)
 ·split at h
  ·exact .inl ⟨_,_,rfl,.inl (.inl ‹_›),h⟩
  ·exact .inr (.inl ⟨_,_,rfl,.inl (.inl ‹_›),h.1,h.2⟩)
  ·exact h.elim
 ·exact h.elim
theorem fI:dG X (.builtin "len") Hz:=fun SK s σ H xs us Q I r h=>by
 unfold Hz at h;split at h
 ·exact sR SK s σ H _ us Q I r ⟨_,_,rfl,⟨h.1,rfl⟩,h.2⟩
 ·obtain⟨ys,e,h⟩:=nY h;rcases e with e|e
  ·exact sR SK s σ H _ us Q I r ⟨_,_,rfl,.inl ⟨_,.inl (.inl e),rfl⟩,h⟩
  ·exact sR SK s σ H _ us Q I r ⟨_,_,rfl,.inr ⟨_,.inl (.inl e),rfl⟩,h⟩
 ·exact h.elim
theorem J7:PSet X Oy:=fun SK s σ H o i v ov iv u Q I ro ri rv h=>by
 obtain⟨p,rfl,h⟩:=bC h;obtain⟨k,rfl,h⟩:=dI h;obtain⟨xs,e,h⟩:=fZ h;obtain⟨j,e2,h⟩:=gZ h;exact GD SK s σ H _ _ v ov iv u Q I ro ri rv ⟨_,_,_,_,rfl,rfl,e,e2,h⟩
theorem pP:h9 X (compareOp .In) (Rv false):=DO.imp fun x y H Q h=>by
 obtain⟨p,rfl,h⟩:=bC h;obtain⟨xs,e,h1,h2,h⟩:=nY h;exact⟨_,_,rfl,e.imp (fun e=>.inl (.inl e)) (fun e=>.inl (.inl e)),h1,h2,h⟩
theorem xG:h9 X (compareOp .NotIn) (Rv true):=nZ.imp fun x y H Q h=>by
 obtain⟨p,rfl,h⟩:=bC h;obtain⟨xs,e,h1,h2,h⟩:=nY h;exact⟨_,_,rfl,e.imp (fun e=>.inl (.inl e)) (fun e=>.inl (.inl e)),h1,h2,h⟩
theorem Di:dG X (.type "int") Hx:=fun SK s σ H xs us Q I r h=>by
 refine Dh SK s σ H xs us Q I r ?_;unfold Hx at h;split at h
 ·exact .inl ⟨_,rfl,h⟩
 ·exact .inr ⟨_,rfl,by
   rename_i k
   cases k<;>exact h⟩
 ·exact h.elim
theorem DP:h9 X (compareOp .IsNot) JV:=Jl.imp fun x y H Q h=>by
 cases y with
 | SR=>exact⟨rfl,h⟩
 | _=>exact h.elim
theorem Dk(hc:X.calm=true):dG X (.builtin "max") K0:=fun SK s σ H xs us Q I r h=>by
 refine Dj hc SK s σ H xs us Q I r ?_;unfold K0 at h;split at h
 ·exact⟨_,_,rfl,h⟩
 ·exact h.elim
theorem Dg:dG X (.builtin "abs") KS:=fun SK s σ H xs us Q I r h=>by
 refine Ex SK s σ H xs us Q I r ?_;unfold KS at h;split at h
 ·exact⟨_,rfl,h⟩
 ·exact h.elim
theorem wL:dG X (.builtin "isinstance") dH:=fun SK s σ H xs us Q I r h=>by
 refine EA SK s σ H xs us Q I r ?_;unfold dH at h;split at h
 ·obtain⟨b,e,h⟩:=gZ h;exact⟨_,_,b,rfl,IP e,h⟩
 ·obtain⟨b,e,h⟩:=gZ h;exact⟨_,_,b,rfl,MV e,h⟩
 ·exact h.elim
variable {o e:Expr} {to te:TE} {apos SV:Pos}
theorem rT(ho:PE X o to)(he:PE X e te)(TV:attributeBase o "append" X.env (eval o X.env)=eval o X.env:=by rfl)
    (UU:((backTo SV (starEach [e] X.env)).all (fun x=>!x.1)&&(backToKw SV (keywordEach [] X.env)).all (fun x=>x.1.isSome)
     &&decide ([e].length+([]:List Keyword).length+(if ([]:List Keyword).isEmpty then 0 else 1) < 30))=true:=by rfl)
    (TY:(apos.endLine==SV.line)=true:=by rfl) (hs:starEach [e] X.env=(false,eval e X.env)::starEach [] X.env:=by rfl) (Tv:(backTo SV (starEach [] X.env)).any (·.1)=false:=by rfl) :
    PE X (.Call (.Attribute o "append" apos) [e] [] SV) (Oe to te):=by
  intro SK s σ H Q I h;refine wpAny_Call_method_late TV UU TY rfl (thn (ho SK s σ H _ I h) fun v s1 ⟨x,H1,I1,r1,q1⟩=>?_);obtain⟨a,rfl,q1⟩:=bC q1;obtain⟨xs,e1,q1⟩:=fZ q1;obtain⟨h1,h2⟩:=Ci (T:="list") I1 r1 (.inl ⟨rfl,xs,.inl (.inl e1)⟩);refine⟨"list","list.append",PySem.F.plainAttrs_list,PySem.F.slot_list_append,PySem.F.type_list_append,h1,h2,?_⟩;have q2:Bb te GU σ H1 (fun vs H2=>vs.length=1/\bF (H2 a) fun xs=>xs.length < sizeLine/\Q .SR (SM H2 a (.lst (xs++vs)))):=by
    simpa only[Bb,GU,List.length_cons,List.length_nil,Nat.zero_add,true_and] using q1
  have hA:=CQ he aA hs SV SK s1 σ H1 _ I1 q2;rw[hs] at hA ⊢;refine Calls.callWith_builtin (by show(false||(backTo SV (starEach [] X.env)).any (·.1))=false;rw[Tv]<;>rfl) (Calls.evalArgs_plain ?_);refine thn hA fun us s2 ⟨vs,H2,I2,r2,l2,q3⟩=>?_;obtain⟨xs,e3,q4,q5⟩:=fZ q3
  match vs,l2,r2,q5 with
  | [y],_,r2,q5=>exact DL SK s2 σ H2 _ _ v us Q I2 r1 r2 ⟨_,_,_,rfl,rfl,e3,q4,q5⟩
end
section
variable {X:Cx} {o i e value:Expr} {pos pos' apos SV:Pos} {td ty tv:TE}
noncomputable def Oh:List V->Hp->VK->Prop:=fun vs H Q=>match vs with
 | [.ref a]=>cI (H a) fun SN=>∀ p,H p=none->Q (.ref p) (SM H p (.dK SN))
 | _=>False
end
noncomputable def Itv(K:q0B)(a:Addr)(n:Nat):It :=
 ⟨fun i H=>i < n/\∃ xs,dS K H a xs/\xs.length=n,fun i H x H'=>H'=H/\∀ xs,dS K H a xs->xs[n - 1 - i]?=some x,fun i H=>i=n/\∃ xs,dS K H a xs/\xs.length=n⟩
noncomputable def PX(K:q0B)(ta:TA):TI:=fun σ H R=>ta σ H fun vs H1=>∃ a xs,vs=[.ref a]/\dS K H1 a xs/\R (Itv K a xs.length) H1
section
variable {σ:St} {H:Hp} {Q:VK} {D:Ends} {t u:TS} {te ta tb tc to ti:TE} {tl th:TO} {g:TG} {gs:TGs} {tt X2:TT} {as:TA} {i j:Int} {n:Nat} {x y:Str} {v w:V} {vs:List V} {b:Bool} {p a:Addr} {r r':R2} {B:Bool->Hp->Prop} {K:q0B}
theorem PB:NO t u D σ H=t {D with nx:=u D} σ H:=rfl
theorem OG:NK te g D σ H=te σ H fun x H1=>g x σ H1 D.nx:=rfl
theorem Me{N:St->Hp->Prop}:Az n v σ H N=N (σ.set n (some v)) H:=rfl
theorem Py:QI te D σ H=te σ H D.rt:=rfl
theorem Mo:QJ D σ H=D.rt .SR H:=rfl
theorem O2:QD tt t u D σ H=tt σ H fun b H1=>if b=true then t D σ H1 else u D σ H1:=rfl
theorem Mv:C2 te σ H B=te σ H fun x H'=>Ji x fun k=>B k H':=by simp only[C2,pO]
theorem RY:tB te σ H B=te σ H fun x H'=>Ji x fun k=>B k H':=by simp only[tB,pO]
theorem RO:Su tt ta tb σ H Q=tt σ H fun c H1=>if c=true then ta σ H1 Q else tb σ H1 Q:=rfl
theorem RV:QG r ta tb σ H Q=ta σ H fun x H1=>tb σ H1 fun y H2=>r x y H2 Q:=rfl
theorem RZ{q:V->Hp->VK->Prop}:Sy q ta σ H Q=ta σ H fun x H1=>q x H1 Q:=rfl
theorem SD:tC v σ H Q=Q v H:=rfl
theorem Lo{A:List V->Hp->Prop}:Bb te as σ H A=te σ H fun x H1=>as σ H1 fun xs H2=>A (x::xs) H2:=rfl
theorem Pj{A:List V->Hp->Prop}:GU σ H A=A [] H:=rfl
theorem Ll{sp:Sp}{E:XK}:GP sp [] E as σ H Q=as σ H fun vs H1=>sp vs H1 Q E:=by simp only[GP,List.append_nil]
theorem RN{q:List V->Hp->VK->Prop}:Si q as σ H Q=as σ H fun vs H1=>q vs H1 Q:=rfl
theorem Pa:QE as σ H Q=as σ H fun xs H1=>xs.length<=sizeLine/\∀ p,H1 p=none->Q (.ref p) (SM H1 p (.lst xs)):=rfl
theorem PJ:QL as σ H Q=as σ H fun xs H1=>xs.length<=sizeLine/\∀ p,H1 p=none->Q (.ref p) (SM H1 p (.tup xs)):=rfl
theorem Lw:NM σ H Q = ∀ p,H p=none->Q (.ref p) (SM H p (.dK [])):=rfl
theorem Lx:Ke te D σ H=te σ H fun _ H1=>D.nx σ H1:=rfl
theorem Mg:Kf D σ H=D.nx σ H:=rfl
theorem HH:NL D σ H=D.bk σ H:=rfl
theorem Lp:QA D σ H=D.ct σ H:=rfl
theorem Lf:GO ta tb σ H Q=ta σ H fun x H1=>Ji x fun c=>if c=true then tb σ H1 Q else Q (.bl false) H1:=by simp only[GO,pO]
theorem Pr:QH ta tb σ H Q=ta σ H fun x H1=>Ji x fun c=>if c=true then Q (.bl true) H1 else tb σ H1 Q:=by simp only[QH,pO]
theorem Mh:GV ta σ H Q=ta σ H fun x H1=>Ji x fun c=>Q (.bl (!c)) H1:=by simp only[GV,pO]
theorem OE:Qy tt X2 σ H B=tt σ H fun c H1=>if c=true then X2 σ H1 B else B false H1:=rfl
theorem RW:Sw tt X2 σ H B=tt σ H fun c H1=>if c=true then B true H1 else X2 σ H1 B:=rfl
theorem Pk:QF tt σ H B=tt σ H fun c H1=>B (!c) H1:=rfl
theorem HI:zZ r r' ta tb tc σ H Q=ta σ H fun x H1=>tb σ H1 fun y H2=>r x y H2 fun z H3=>Ji z fun k=>if k=true then tc σ H3 fun w' H4=>r' y w' H4 Q else Q (.bl false) H3:=by simp only[zZ,pO]
theorem RX{q:V->Option Int->Option Int->Hp->VK->Prop}:Sx q te tl th σ H Q=te σ H fun x H1=>tl σ H1 fun l H2=>th σ H2 fun u H3=>q x l u H3 Q:=rfl
theorem Gc{k:Int->Prop}:(∃ i,v=.int i/\k i)=dR v k:=propext ⟨fun⟨i,e,h⟩=>by subst e;exact h,dI⟩
theorem Ml{O:Option Int->Hp->Prop}:GX te σ H O=te σ H fun x H1=>dR x fun i=>O (some i) H1:=by simp only[GX,Gc]
theorem E6{O:Option Int->Hp->Prop}:C1 σ H O=O none H:=rfl
theorem LN{s:TSet}{N:St->Hp->Prop}:PN to ti s v σ H N=to σ H fun o H1=>ti σ H1 fun i H2=>s o i v H2 fun H3=>N σ H3:=rfl
theorem LM{N:St->Hp->Prop}:MJ [] σ H N=N σ H:=by simp[MJ]
theorem Ib{N:St->Hp->Prop}:J0 g gs (v::vs) σ H N=g v σ H fun σ' H'=>gs vs σ' H' N:=propext ⟨fun⟨_,_,e,h⟩=>by cases e;exact h,fun h=>⟨_,_,rfl,h⟩⟩
theorem LK:Om ta tb σ H Q=ta σ H fun x H1=>aO x fun a=>cI (H1 a) fun _=>tb σ H1 fun y H2=>cI (H2 a) fun SN=>dE (kE y) fun k=>Q ((cQ SN k).getD .SR) H2:=rfl
theorem O0:Rt ta tb σ H Q=ta σ H fun x H1=>tb σ H1 fun y H2=>aO x fun a=>cI (H2 a) fun SN=>dE (kE y) fun k=>dE (cQ SN k) fun v=>Q v H2:=rfl
theorem Pu:RE ta tb tc D σ H=tc σ H fun v H1=>ta σ H1 fun x H2=>tb σ H2 fun y H3=>aO x fun a=>cI (H3 a) fun SN=>dE (kE y) fun k=>SN.length < sizeLine/\D.nx σ (SM H3 a (.dK (iY SN k v))):=rfl
theorem OF:Oe to te σ H Q=to σ H fun x H1=>aO x fun a=>bF (H1 a) fun _=>te σ H1 fun y H2=>bF (H2 a) fun xs=>xs.length < sizeLine/\Q .SR (SM H2 a (.lst (xs++[y]))):=rfl
theorem Pt:RD to σ H Q=to σ H fun x H1=>aO x fun a=>bF (H1 a) fun xs=>dE (xs[xs.length - 1]?) fun y=>Q y (SM H1 a (.lst xs.dropLast)):=rfl
theorem Pq{α:Type}{z:α}{k:α->Prop}{u:Tg k}:@dE _ (some z) k u=k z:=rfl
theorem Pp{k:Bool->Prop}{u:Tg k}:@Ji (.bl b) k u=k b:=rfl
theorem Ik{k:Addr->Prop}{u:Tg k}:@aO (.ref p) k u=k p:=rfl
theorem Ii{k:Int->Prop}{u:Tg k}:@dR (.int i) k u=k i:=rfl
theorem Ij{k:List V->Prop}{u:Tg k}:@bF (some (.lst vs)) k u=k vs:=rfl
theorem E7{k:List V->Prop}{u:Tg k}:@j6 (some (.lst vs)) k u=k vs:=rfl
theorem E8{k:List V->Prop}{u:Tg k}:@j6 (some (.tup vs)) k u=k vs:=rfl
theorem Ih{SN:List (Key×V)}{k:List (Key×V)->Prop}{u:Tg k}:@cI (some (.dK SN)) k u=k SN:=rfl
theorem O5:Ry (.ref p) w H Q=j6 (H p) fun xs=>dR w fun i=>dE (mP xs i) fun v=>Q v H:=rfl
theorem O6:Ry (.str x) w H Q=dR w fun i=>x.length<=sizeLine/\dE (mP x.cps.toList i) fun c=>Q (.str ⟨#[c]⟩) H:=rfl
theorem Lc:En (.int i) (.int j) H Q=Q (.int (i+j)) H:=rfl
theorem Le:En (.str x) (.str y) H Q=(x.length+y.length<=sizeLine/\Q (.str (x++y)) H):=rfl
theorem Ld:En (.ref a) (.ref p) H Q=Hv H Q a (H a) (H p):=rfl
theorem Lm{us:List V}:Hv H Q a (some (.lst vs)) (some (.lst us))=(vs.length+us.length<=sizeLine/\∀ p,H p=none->Q (.ref p) (SM H p (.lst (vs++us)))):=rfl
theorem PF{lo hi:Option Int}:Rc (.str x) lo hi H Q=(x.length<=sizeLine/\Q (.str (Txt.slice x lo hi)) H):=rfl
theorem PD{lo hi:Option Int}:Rc (.ref a) lo hi H Q=Eo lo hi H Q (H a):=rfl
theorem Lq{lo hi:Option Int}:Eo lo hi H Q (some (.lst vs)) = ∀ p,H p=none->Q (.ref p) (SM H p (.lst (kM vs lo hi))):=rfl
theorem Ma:Hz [.str x] H Q=(x.length<=sizeLine/\Q (.int x.length) H):=rfl
theorem L9:Hz [.ref p] H Q=j6 (H p) fun xs=>Q (.int xs.length) H:=rfl
theorem PC{N:Hp->Prop}:Oy (.ref p) (.int i) v H N=bF (H p) fun xs=>dE (CH xs.length i) fun j=>N (SM H p (.lst (xs.set j v))):=rfl
theorem RP{neg:Bool}:Rv neg v (.ref p) H Q=j6 (H p) fun xs=>b8 v=true/\xs.all b8=true/\Q (.bl (if neg=true then !b7 v xs else b7 v xs)) H:=rfl
theorem Lu:Oh [.ref a] H Q=cI (H a) fun SN=>∀ p,H p=none->Q (.ref p) (SM H p (.dK SN)):=rfl
theorem L0:kE (.int i)=some (.inl i):=rfl
theorem L7:kE (.str x)=some (.inr x):=rfl
theorem L6:kE .SR=some .no:=rfl
theorem jF{α:Type}{xs:List α}{k:Nat}:mP xs (OfNat.ofNat k)=xs[k]?:=by
 show mP xs ((k:Nat):Int)=xs[k]?;cases e:xs[k]? with
 | some z=>exact yD e
 | none =>
  have:=List.getElem?_eq_none_iff.mp e;unfold mP CH;rw[if_pos (by omega),if_neg (by omega)];rfl
theorem OH{α:Type}{xs:List α}:mP xs 0=xs[0]?:=jF (k:=0)
theorem OI{α:Type}{xs:List α}:mP xs 1=xs[1]?:=jF (k:=1)
theorem OJ{α:Type}{xs:List α}:mP xs 2=xs[2]?:=jF (k:=2)
theorem OK{α:Type}{xs:List α}:mP xs 3=xs[3]?:=jF (k:=3)
theorem OL{α:Type}{xs:List α}:mP xs 4=xs[4]?:=jF (k:=4)
theorem OM{α:Type}{xs:List α}:mP xs 5=xs[5]?:=jF (k:=5)
theorem ON{α:Type}{xs:List α}:mP xs 6=xs[6]?:=jF (k:=6)
theorem OO{α:Type}{xs:List α}:mP xs 7=xs[7]?:=jF (k:=7)
theorem OP{α:Type}{xs:List α}:mP xs 8=xs[8]?:=jF (k:=8)
theorem OQ{α:Type}{xs:List α}:mP xs 9=xs[9]?:=jF (k:=9)
theorem Lg{α:Type}{xs:List α}:mP xs 10=xs[10]?:=jF (k:=10)
theorem Lh{α:Type}{xs:List α}:mP xs 11=xs[11]?:=jF (k:=11)
theorem Li{α:Type}{xs:List α}:mP xs 12=xs[12]?:=jF (k:=12)
theorem HJ:CMul 1 j=True:=eq_true (.inl ⟨by decide,by decide⟩)
theorem HK:CMul 2 j=True:=eq_true (.inl ⟨by decide,by decide⟩)
theorem HL:CMul 3 j=True:=eq_true (.inl ⟨by decide,by decide⟩)
theorem EJ:CMul 10 j=True:=eq_true (.inl ⟨by decide,by decide⟩)
theorem HS:CPow 10 6=True:=eq_true ⟨by decide,by decide,by decide⟩
theorem HU:CPow 10 9=True:=eq_true ⟨by decide,by decide,by decide⟩
theorem EM:CPow 10 12=True:=eq_true ⟨by decide,by decide,by decide⟩
theorem EN:CPow 10 18=True:=eq_true ⟨by decide,by decide,by decide⟩
theorem EO:CPow 10 30=True:=eq_true ⟨by decide,by decide,by decide⟩
theorem ER:CPow 10 40=True:=eq_true ⟨by decide,by decide,by decide⟩
theorem ES:CPow 10 45=True:=eq_true ⟨by decide,by decide,by decide⟩
theorem LX{m:Nat}:CH (m+1) 0=some 0:=by simp[CH]<;>omega
theorem LY{m:Nat}:CH (m+2) 1=some 1:=by simp[CH]<;>omega
theorem LQ:Hx [.int i] H Q=Q (.int i) H:=rfl
theorem LP:Hx [.bl b] H Q=Q (.int (if b=true then 1 else 0)) H:=rfl
theorem RQ:Rx v .SR H Q=Q (.bl (decide (v=.SR))) H:=by cases v<;>rfl
theorem Ic:JV v .SR H Q=Q (.bl (!decide (v=.SR))) H:=by cases v<;>rfl
theorem Pb:K0 [.int i,.int j] H Q=Q (.int (if j > i then j else i)) H:=rfl
theorem Pc:Rz [.int i,.int j] H Q=Q (.int (if j < i then j else i)) H:=rfl
theorem OC:KS [.int i] H Q=Q (.int (if i < 0 then -i else i)) H:=rfl
theorem vK:dH [(.int i),.ty "int"] H Q=Q (.bl true) H:=by simp[dH,yY,dE]
theorem yM:dH [(.bl b),.ty "int"] H Q=Q (.bl true) H:=by simp[dH,yY,dE]
theorem vN:dH [(.str x),.ty "int"] H Q=Q (.bl false) H:=by simp[dH,yY,dE]
theorem vL:dH [.SR,.ty "int"] H Q=Q (.bl false) H:=by simp[dH,yY,dE]
theorem vM:dH [.ref p,.ty "int"] H Q=dE (fY (H p) "int") fun b=>Q (.bl b) H:=rfl
theorem tE:dH [(.int i),.ty "bool"] H Q=Q (.bl false) H:=by simp[dH,yY,dE]
theorem vJ:dH [(.bl b),.ty "bool"] H Q=Q (.bl true) H:=by simp[dH,yY,dE]
theorem tH:dH [(.str x),.ty "bool"] H Q=Q (.bl false) H:=by simp[dH,yY,dE]
theorem tF:dH [.SR,.ty "bool"] H Q=Q (.bl false) H:=by simp[dH,yY,dE]
theorem tG:dH [.ref p,.ty "bool"] H Q=dE (fY (H p) "bool") fun b=>Q (.bl b) H:=rfl
theorem vO:dH [(.int i),.ty "str"] H Q=Q (.bl false) H:=by simp[dH,yY,dE]
theorem yN:dH [(.bl b),.ty "str"] H Q=Q (.bl false) H:=by simp[dH,yY,dE]
theorem vR:dH [(.str x),.ty "str"] H Q=Q (.bl true) H:=by simp[dH,yY,dE]
theorem vP:dH [.SR,.ty "str"] H Q=Q (.bl false) H:=by simp[dH,yY,dE]
theorem vQ:dH [.ref p,.ty "str"] H Q=dE (fY (H p) "str") fun b=>Q (.bl b) H:=rfl
theorem rB:dH [(.int i),.ty "tuple"] H Q=Q (.bl false) H:=by simp[dH,yY,dE]
theorem tI:dH [(.bl b),.ty "tuple"] H Q=Q (.bl false) H:=by simp[dH,yY,dE]
theorem rE:dH [(.str x),.ty "tuple"] H Q=Q (.bl false) H:=by simp[dH,yY,dE]
theorem rC:dH [.SR,.ty "tuple"] H Q=Q (.bl false) H:=by simp[dH,yY,dE]
theorem rD:dH [.ref p,.ty "tuple"] H Q=dE (fY (H p) "tuple") fun b=>Q (.bl b) H:=rfl
theorem EY:fY (some (.lst vs)) "int"=some false:=by simp[fY]
theorem E2:fY (some (.tup vs)) "int"=some false:=by simp[fY]
theorem Dq:fY (some (.lst vs)) "bool"=some false:=by simp[fY]
theorem Dr:fY (some (.tup vs)) "bool"=some false:=by simp[fY]
theorem EZ:fY (some (.lst vs)) "str"=some false:=by simp[fY]
theorem E3:fY (some (.tup vs)) "str"=some false:=by simp[fY]
theorem Bu:fY (some (.lst vs)) "tuple"=some false:=by simp[fY]
theorem Bv:fY (some (.tup vs)) "tuple"=some true:=by simp[fY]
theorem EW{SN:List (Key×V)}:fY (some (.dK SN)) "int"=some false:=by simp[fY]
theorem Dp{SN:List (Key×V)}:fY (some (.dK SN)) "bool"=some false:=by simp[fY]
theorem EX{SN:List (Key×V)}:fY (some (.dK SN)) "str"=some false:=by simp[fY]
theorem OS{c:Prop}[Decidable c]{P R:Prop}:(if (decide c)=true then P else R)=if c then P else R:=by
 by_cases h:c<;>simp[h]
theorem OT{c:Prop}[Decidable c]{P R:Prop}:(if (!decide c)=true then P else R)=if c then R else P:=by
 by_cases h:c<;>simp[h]
theorem LW{P R:Prop}:(if true=true then P else R)=P:=rfl
theorem LV{P R:Prop}:(if false=true then P else R)=R:=rfl
end
theorem Kp.at1{r a:Addr}{H H':Hp}{o:HO}(x:Kp [r] H H')(e:H a=some o)(n:a≠r):H' a=some o:=x a o e (by simpa using n)
theorem pW{xs:List V}{i:Int}{k:V->Prop}(h0:0<=i)(h1:i < (xs.length:Int))(q:∀ v∈xs,k v):dE (mP xs i) k:=by
 have hk:i.toNat < xs.length:=by omega
 have ek:i=((i.toNat:Nat):Int):=by omega
 have e:mP xs ((i.toNat:Nat):Int)=some xs[i.toNat]:=yD (List.getElem?_eq_getElem hk);rw[<- ek] at e;rw[e];exact q _ (List.getElem_mem hk)
noncomputable def on1(vs:List V)(k:V->Prop)(_u:Tg k:=()):Prop:=match vs with
 | [v]=>k v
 | _=>False
noncomputable def lp(J:It)(g:TG)(tb:TS)(D:Ends)(σ:St)(H:Hp):Prop:=∃ W:Nat->Nat->St->Hp->Prop,(∃ m,W 0 m σ H)/\∀ i m σ H,W i m σ H ->
 (J.stop i H/\D.nx σ H)\/(J.go i H/\∃ N:St->Hp->Prop,(∀ σ' H',N σ' H'->∃ m',m' < m/\W (i+1) m' σ' H')/\∀ x H',J.yld i H x H'->g x σ H' fun σ2 H2=>tb {D with nx:=N,ct:=N,bk:=D.nx} σ2 H2)
section
variable {σ:St} {H:Hp} {D:Ends} {g:TG} {tb:TS} {as:TA} {te:TE} {K:q0B} {v w:V}
theorem Pn{k:V->Prop}{u:Tg k}:@on1 [v] k u=k v:=rfl
theorem HZ:qK (AB as) g tb D σ H=as σ H fun vs H1=>on1 vs fun v=>dR v fun j=>(-(2 ^ 62)<=j/\j < 2 ^ 62)/\lp (Uo 0 j.toNat) g tb D σ H1:=by
 unfold qK AB
 congr 1
 funext vs H1;refine propext ⟨fun⟨j,e,h1,h2,h⟩=>by subst e;exact⟨⟨h1,h2⟩,h⟩,fun h=>?_⟩;unfold on1 at h;split at h
 ·obtain⟨j,rfl,⟨h1,h2⟩,h⟩:=dI h;exact⟨j,rfl,h1,h2,h⟩
 ·exact h.elim
noncomputable def on2(vs:List V)(k:V->V->Prop)(_u:Tg k:=()):Prop:=match vs with
 | [v,w]=>k v w
 | _=>False
theorem Po{k:V->V->Prop}{u:Tg k}:@on2 [v,w] k u=k v w:=rfl
theorem Ia:qK (J2 as) g tb D σ H=as σ H fun vs H1=>on2 vs fun v w=>dR v fun i=>dR w fun j=>(-(2 ^ 62)<=i/\i < 2 ^ 62/\-(2 ^ 62)<=j/\j < 2 ^ 62)/\lp (Uo i (j - i).toNat) g tb D σ H1:=by
 unfold qK J2
 congr 1
 funext vs H1;refine propext ⟨fun⟨i,j,e,h1,h⟩=>by subst e;exact⟨h1,h⟩,fun h=>?_⟩;unfold on2 at h;split at h
 ·obtain⟨i,rfl,h'⟩:=dI h;obtain⟨j,rfl,h1,h''⟩:=dI h';exact⟨i,j,rfl,h1,h''⟩
 ·exact h.elim
theorem LG:qK (AA K te) g tb D σ H=te σ H fun x H1=>aO x fun a=>(∃ xs,dS K H1 a xs)/\lp (UE K a) g tb D σ H1:=by
 unfold qK AA
 congr 1
 funext x H1;exact propext ⟨fun⟨a,e,h1,h⟩=>by subst e;exact⟨h1,h⟩,fun h=>by obtain⟨a,rfl,h1,h⟩:=bC h;exact⟨a,rfl,h1,h⟩⟩
theorem LH:qK (Fo K te) g tb D σ H=te σ H fun x H1=>aO x fun a=>(∃ xs,fS K H1 a xs)/\lp (VT K a) g tb D σ H1:=by
 unfold qK Fo
 congr 1
 funext x H1;exact propext ⟨fun⟨a,e,h1,h⟩=>by subst e;exact⟨h1,h⟩,fun h=>by obtain⟨a,rfl,h1,h⟩:=bC h;exact⟨a,rfl,h1,h⟩⟩
theorem LI:qK (PX K as) g tb D σ H=as σ H fun vs H1=>on1 vs fun x=>aO x fun a=>∃ xs,dS K H1 a xs/\lp (Itv K a xs.length) g tb D σ H1:=by
 unfold qK PX
 congr 1
 funext vs H1;refine propext ⟨fun⟨a,xs,e,h1,h⟩=>by subst e;exact⟨xs,h1,h⟩,fun h=>?_⟩;unfold on1 at h;split at h
 ·obtain⟨a,rfl,xs,h1,h⟩:=bC h;exact⟨a,xs,rfl,h1,h⟩
 ·exact h.elim
end
noncomputable def lc(J:It)(fr:List Nat)(tc:TT)(te:TE)(σ:St)(H:Hp)(Q:VK):Prop:=∃ W:Nat->Nat->List V->Hp->Prop,(∃ m,W 0 m [] H)/\∀ i m xs H,W i m xs H->xs.length<=1000000 /\
  ((J.stop i H/\∀ p,H p=none->Q (.ref p) (SM H p (.lst xs))) \/
   (J.go i H/\∀ y H',J.yld i H y H'->tc (some y::bE fr σ) H' fun b H2=>if b=true then te (some y::bE fr σ) H2 (fun z H3=>∃ m',m' < m/\W (i+1) m' (xs++[z]) H3) else ∃ m',m' < m/\W (i+1) m' xs H2))
section
variable {fr:List Nat} {tc:TT} {te tl:TE} {σ:St} {H H1:Hp} {Q:VK} {as:TA} {K:q0B}
theorem HP:kC (AB as) fr tc te σ H Q=as σ H fun vs H1=>on1 vs fun v=>dR v fun j=>(-(2 ^ 62)<=j/\j < 2 ^ 62)/\lc (Uo 0 j.toNat) fr tc te σ H1 Q:=by
 unfold kC AB
 congr 1
 funext vs H1;refine propext ⟨fun⟨j,e,h1,h2,h⟩=>by subst e;exact⟨⟨h1,h2⟩,h⟩,fun h=>?_⟩;unfold on1 at h;split at h
 ·obtain⟨j,rfl,⟨h1,h2⟩,h⟩:=dI h;exact⟨j,rfl,h1,h2,h⟩
 ·exact h.elim
theorem HN:kC (AA K tl) fr tc te σ H Q=tl σ H fun x H1=>aO x fun a=>(∃ xs,dS K H1 a xs)/\lc (UE K a) fr tc te σ H1 Q:=by
 unfold kC AA
 congr 1
 funext x H1;exact propext ⟨fun⟨a,e,h1,h⟩=>by subst e;exact⟨h1,h⟩,fun h=>by obtain⟨a,rfl,h1,h⟩:=bC h;exact⟨a,rfl,h1,h⟩⟩
noncomputable def fN(x:V)(k:Str->Prop)(_u:Tg k:=()):Prop:=match x with
 | .str p=>k p
 | _=>False
theorem Il{x:Str}{k:Str->Prop}{u:Tg k}:@fN (.str x) k u=k x:=rfl
theorem HQ:kC (MN tl) fr tc te σ H Q=tl σ H fun x H1=>fN x fun z=>lc (VS z) fr tc te σ H1 Q:=by
 unfold kC MN
 congr 1
 funext x H1;refine propext ⟨fun⟨a,e,h⟩=>by subst e;exact h,fun h=>?_⟩;cases x with
 | str z=>exact⟨z,rfl,h⟩
 | _=>exact h.elim
theorem MD{B:Bool->Hp->Prop}:Kg σ H B=B true H:=rfl
theorem OU:bE [] σ=[]:=rfl
theorem Ew{n:Nat}{Pv:Nat->List V->Hp->Prop}{i:Nat}{xs:List V}(hi:i < n):(∃ m',m' < n - i/\cW n Pv (i+1) m' xs H)=Pv (i+1) xs H :=
 propext ⟨fun⟨_,_,_,_,h⟩=>h,fun h=>cW.next hi h⟩
theorem Fz{lo:Int}{n:Nat}(Pv:Nat->List V->Hp->Prop)(h0:Pv 0 [] H)(hz:∀ i xs H,Pv i xs H->xs.length<=1000000)
    (hs:∀ i xs H,i < n->Pv i xs H->tc (some (.int (lo+i))::bE fr σ) H fun b H2=>if b=true then te (some (.int (lo+i))::bE fr σ) H2 (fun z H3=>Pv (i+1) (xs++[z]) H3) else Pv (i+1) xs H2)
    (hd:∀ xs H,Pv n xs H->∀ p,H p=none->Q (.ref p) (SM H p (.lst xs))):lc (Uo lo n) fr tc te σ H Q :=
  Bt Pv h0 hz (fun i xs H hi h=>by simp only[Ew hi];exact hs i xs H hi h) hd
theorem IQ{a:Addr}{ys:List V}(Pv:Nat->List V->Hp->Prop)(h0:Pv 0 [] H)(hz:∀ i xs H,Pv i xs H->xs.length<=1000000)(hl:∀ i xs H,Pv i xs H->dS K H a ys)
    (hs:∀ i y xs H,i < ys.length->ys[i]?=some y->Pv i xs H->tc (some y::bE fr σ) H fun b H2=>if b=true then te (some y::bE fr σ) H2 (fun z H3=>Pv (i+1) (xs++[z]) H3) else Pv (i+1) xs H2)
    (hd:∀ xs H,Pv ys.length xs H->∀ p,H p=none->Q (.ref p) (SM H p (.lst xs))):lc (UE K a) fr tc te σ H Q :=
  Dm Pv h0 hz hl (fun i y xs H hi e h=>by simp only[Ew hi];exact hs i y xs H hi e h) hd
theorem FA{x:Str}(Pv:Nat->List V->Hp->Prop)(h0:Pv 0 [] H)(hz:∀ i xs H,Pv i xs H->xs.length<=1000000)
    (hs:∀ i c xs H,i < x.cps.size->x.cps[i]?=some c->Pv i xs H->tc (some (.str ⟨#[c]⟩)::bE fr σ) H fun b H2=>if b=true then te (some (.str ⟨#[c]⟩)::bE fr σ) H2 (fun z H3=>Pv (i+1) (xs++[z]) H3) else Pv (i+1) xs H2)
    (hd:∀ xs H,Pv x.cps.size xs H->∀ p,H p=none->Q (.ref p) (SM H p (.lst xs))):lc (VS x) fr tc te σ H Q :=
  EE Pv h0 hz (fun i c xs H hi e h=>by simp only[Ew hi];exact hs i c xs H hi e h) hd
end
noncomputable def HG(kb:List (Key×V)):List (Key×V)->Bool
 | []=>true
 | (k,v)::r=>match cQ kb k with
  | none=>false
  | some y=>Bh v y&&HG kb r
mutual
inductive vD(K:q0B)(H:Hp):Nat->V->V->Bool->Prop
 | flat {n:Nat} {x y:V}:b8 x=true->b8 y=true->vD K H n x y (Bh x y)
 | same {n:Nat} {a:Addr}:vD K H n (.ref a) (.ref a) true
 | refs {n:Nat} {a b:Addr} {r:Bool}:a≠b->rK K H n a b r->vD K H n (.ref a) (.ref b) r
inductive rK(K:q0B)(H:Hp):Nat->Addr->Addr->Bool->Prop
 | list {n:Nat} {a b:Addr} {xs ys:List V} {e:Nat->Bool}:dS K H a xs->dS K H b ys->xs.length=ys.length->(∀ j x y,xs[j]?=some x->ys[j]?=some y->vD K H n x y (e j))->rK K H (n+1) a b ((List.range xs.length).all e)
 | Tr {n:Nat} {a b:Addr} {xs ys:List V}:dS K H a xs->dS K H b ys->xs.length≠ys.length->rK K H (n+1) a b false
 | tup {n:Nat} {a b:Addr} {xs ys:List V} {e:Nat->Bool}:fS K H a xs->fS K H b ys->(∀ j x y,xs[j]?=some x->ys[j]?=some y->vD K H n x y (e j))->rK K H (n+1) a b ((List.range (min xs.length ys.length)).all e&&xs.length==ys.length)
end
section
variable {X:Cx} {SK:List (Addr×Obj)} {σ:St} {H:Hp} {s:Shared}
theorem rQ{xs:List V}{SQ:List Value}(r:Vals xs SQ){j:Nat}(h:j < SQ.toArray.size):∃ x,xs[j]?=some x/\bJ x SQ.toArray[j]:=by
 have hj:j < xs.length:=by have:=r.length;simp only[List.size_toArray] at h;omega
 have e:=List.getElem?_eq_getElem hj;obtain⟨u,g,ru⟩:=r.get e;refine⟨_,e,?_⟩;obtain⟨_,q⟩:=List.getElem?_eq_some_iff.mp g;have:SQ.toArray[j]=u:=by simpa using q
 rw[this];exact ru
theorem IB:∀(n:Nat),(∀ {a b:Addr} {r:Bool},rK X.K H n a b r->∀ {A:Around},SO X SK σ H s->A.units+n < cLine->SeqAt.RcAt A s (.ref a) (.ref b) r)/\(∀ {x y:V} {b:Bool},vD X.K H n x y b->∀ {A:Around} {v u:Value},SO X SK σ H s->bJ x v->bJ y u->A.units+n < cLine->SeqAt.EqAt A s v u b):=by
 intro n;have up:∀ {n:Nat},(∀ {a b:Addr} {r:Bool},rK X.K H n a b r->∀ {A:Around},SO X SK σ H s->A.units+n < cLine->SeqAt.RcAt A s (.ref a) (.ref b) r)->(∀ {x y:V} {b:Bool},vD X.K H n x y b->∀ {A:Around} {v u:Value},SO X SK σ H s->bJ x v->bJ y u->A.units+n < cLine->SeqAt.EqAt A s v u b):=by
  intro n rc x y b h A v u I rx ry hu;cases h with
  | flat fx fy=>exact Fd rx ry fx fy
  | same =>
   cases rx;cases ry;exact SeqAt.EqAt.same _
  | refs ne h =>
   cases rx;cases ry;exact SeqAt.EqAt.of_refs ne (rc h I hu)
 suffices g:∀ {a b:Addr} {r:Bool},rK X.K H n a b r->∀ {A:Around},SO X SK σ H s->A.units+n < cLine->SeqAt.RcAt A s (.ref a) (.ref b) r from ⟨g,up g⟩
 induction n with
 | zero=>intro a b r h;cases h
 | succ n ih =>
  intro a b r h A I hu;have ih:=@up n @ih;cases h with
  | list hx hy hl he =>
   obtain⟨SQ,r1,p1,z1⟩:=I.list hx;obtain⟨Zx,r2,p2,z2⟩:=I.list hy;have l1:=r1.length;have l2:=r2.length;have:=SeqAt.RcAt.lists p1.isList p2.isList (by simp only[List.size_toArray];omega) (by omega) (A:=A) (fun j h1 h2=>by
    obtain⟨x,ex,rx⟩:=rQ r1 h1;obtain⟨y,ey,ry⟩:=rQ r2 h2;exact ih (he j x y ex ey) I rx ry (by show A.units+1+_ < _;omega))
   rw[List.size_toArray,<- l1] at this;exact this
  | Tr hx hy hl =>
   obtain⟨SQ,r1,p1,z1⟩:=I.list hx;obtain⟨Zx,r2,p2,z2⟩:=I.list hy;have l1:=r1.length;have l2:=r2.length;exact SeqAt.RcAt.lists_lengths p1.isList p2.isList (by simp only[List.size_toArray,bne_iff_ne,ne_eq];omega) (by omega)
  | tup hx hy he =>
   obtain⟨SQ,r1,p1,z1⟩:=I.tuple hx;obtain⟨Zx,r2,p2,z2⟩:=I.tuple hy;have l1:=r1.length;have l2:=r2.length;have:=SeqAt.RcAt.tuples (show s.heap.IsTuple _ SQ.toArray from p1) (show s.heap.IsTuple _ Zx.toArray from p2) (by omega) (A:=A) (fun j h1 h2=>by
    obtain⟨x,ex,rx⟩:=rQ r1 h1;obtain⟨y,ey,ry⟩:=rQ r2 h2;exact ih (he j x y ex ey) I rx ry (by show A.units+1+_ < _;omega))
   rw[List.size_toArray,List.size_toArray,<- l1,<- l2] at this;exact this
theorem Nn{n:Nat}{a b:Addr}{r:Bool}(h:rK X.K H n a b r){A:Around}(I:SO X SK σ H s)(hu:A.units+n < cLine):SeqAt.RcAt A s (.ref a) (.ref b) r:=(IB n).1 h I hu
end
noncomputable def So(P:Program)(W:World)(A:Around)(s:Shared)(y x:Value)(r:Bool):Prop:=∀(E:q0A) (Q:Bool->Shared->Prop),Q r s->wpAny (model P W) A (eqBool y x) Q E s
theorem So.of{P:Program}{W:World}{A:Around}{s:Shared}{y x:Value}{r:Bool}(h:SeqAt.EqAt A s y x r):So P W A s y x r:=h P W
noncomputable def RC:R2:=fun x y H Q=>aO x fun a=>aO y fun b=>bF (H a) fun xs=>bF (H b) fun ys=>ys=[]/\Q (.bl (!xs.isEmpty)) H
inductive S3(H:Hp):List V->List V->Bool->Prop
  | nil:S3 H [] [] true
  | cons {a b:Addr} {ka kb:List (Key×V)} {xs ys:List V} {r:Bool}:a≠b->H a=some (.dK ka)->H b=some (.dK kb)->(ka.all fun kv=>b8 kv.2)=true->(kb.all fun kv=>b8 kv.2)=true->S3 H xs ys r ->
      S3 H (.ref a::xs) (.ref b::ys) ((ka.length==kb.length&&HG kb ka)&&r)
theorem S3.len{H:Hp}{xs ys:List V}{r:Bool}(h:S3 H xs ys r):xs.length=ys.length:=by
 induction h with
 | nil=>rfl
 | cons _ _ _ _ _ _ ih=>simp[ih]
theorem S3.at{H:Hp}{xs ys:List V}{r:Bool}(h:S3 H xs ys r):∃ f:Nat->Bool,(List.range xs.length).all f=r/\∀ j x y,xs[j]?=some x->ys[j]?=some y->∃ a b ka kb,x=.ref a/\y=.ref b/\a≠b/\H a=some (.dK ka)/\H b=some (.dK kb)/\(ka.all fun kv=>b8 kv.2)=true/\(kb.all fun kv=>b8 kv.2)=true/\f j=(ka.length==kb.length&&HG kb ka):=by
 induction h with
 | nil=>exact⟨fun _=>true,rfl,fun j x y e=>by simp at e⟩
 | @cons a b ka kb xs ys r ne ea eb fa fb _ ih =>
  obtain⟨f,hf,hp⟩:=ih;refine⟨fun j=>match j with|0=>(ka.length==kb.length&&HG kb ka)|j+1=>f j,?_,?_⟩
  ·rw[List.length_cons,List.range_succ_eq_map,List.all_cons,List.all_map,<- hf];rfl
  ·intro j x y e1 e2;cases j with
   | zero =>
    simp only[List.getElem?_cons_zero,Option.some.injEq] at e1 e2;exact⟨a,b,ka,kb,e1.symm,e2.symm,ne,ea,eb,fa,fb,rfl⟩
   | succ j=>exact hp j x y (by simpa using e1) (by simpa using e2)
noncomputable def RB:R2:=fun x y H Q=>aO x fun a=>aO y fun b=>bF (H a) fun xs=>bF (H b) fun ys=>∃ r,S3 H xs ys r/\Q (.bl (!r)) H
noncomputable def PY(y:V)(xs:List V):Option Nat:=xs.findIdx? fun z=>Bh z y
section
variable {X:Cx}
variable {o e:Expr} {to te:TE} {apos SV:Pos}
noncomputable def Ru(to te:TE):TE:=fun σ H Q=>to σ H fun x H1=>aO x fun a=>bF (H1 a) fun _=>te σ H1 fun y H2=>bF (H2 a) fun xs=>b8 y=true/\xs.all b8=true/\dE (PY y xs) fun j=>Q (.int j) H2
theorem O1{σ:St}{H:Hp}{Q:VK}:Ru to te σ H Q=to σ H fun x H1=>aO x fun a=>bF (H1 a) fun _=>te σ H1 fun y H2=>bF (H2 a) fun xs=>b8 y=true/\xs.all b8=true/\dE (PY y xs) fun j=>Q (.int j) H2:=rfl
end
section
variable {H:Hp} {Q:VK} {a b p:Addr} {x:V}
theorem OW{a b:Bool}:DV (.bl a) (.bl b) H Q=Q (.bl (decide (a=b))) H:=by simp only[DV,show scal (.bl a) (.bl b)=true from rfl,V.bl.injEq,true_and]
theorem LB:DV .SR .SR H Q=Q (.bl true) H:=by simp only[DV,show scal .SR .SR=true from rfl,decide_true,true_and]
theorem LA{i:Int}:DV .SR (.int i) H Q=Q (.bl false) H:=by simp only[DV,show scal .SR (.int i)=true from rfl,reduceCtorEq,decide_false,true_and]
theorem Lz{i:Int}:DV (.int i) .SR H Q=Q (.bl false) H:=by simp only[DV,show scal (.int i) .SR=true from rfl,reduceCtorEq,decide_false,true_and]
theorem Mr{K:q0B}{lo hi:Option Int}:Nm K (.ref a) lo hi H Q = ∃ xs,dS K H a xs/\∀ p,H p=none->Q (.ref p) (SM H p (.lst (kM xs lo hi))):=by simp[Nm]
theorem LO{K:q0B}{n:Nat}{t:TGs}{σ:St}{N:St->Hp->Prop}:MK K n t (.ref a) σ H N = ∃ xs,fS K H a xs/\xs.length=n/\t xs σ H N:=by simp[MK]
theorem RJ:((0:Nat):Int)=0:=rfl
theorem RK:((1:Nat):Int)=1:=rfl
theorem RM:((2:Nat):Int)=2:=rfl
theorem Pg:RC (.ref a) (.ref b) H Q=bF (H a) fun xs=>bF (H b) fun ys=>ys=[]/\Q (.bl (!xs.isEmpty)) H:=rfl
theorem Pf:RB (.ref a) (.ref b) H Q=bF (H a) fun xs=>bF (H b) fun ys=>∃ r,S3 H xs ys r/\Q (.bl (!r)) H:=rfl
end
noncomputable def gO(o:Option HO)(k:List V->Prop)(_u:Tg k:=()):Prop:=match o with
 | some (.tup xs)=>k xs
 | _=>False
theorem lA{o:Option HO}{k:List V->Prop}(h:gO o k):∃ xs,o=some (.tup xs)/\k xs:=by
 unfold gO at h;split at h
 ·exact⟨_,rfl,h⟩
 ·exact h.elim
noncomputable def Es:R2:=fun x y H Q=>aO x fun a=>aO y fun b=>gO (H a) fun xs=>gO (H b) fun ys=>xs.length+ys.length<=sizeLine/\(if xs=[] then Q y H else if ys=[] then Q x H else ∀ p,H p=none->Q (.ref p) (SM H p (.tup (xs++ys))))
noncomputable def Oj:R2:=fun x y H Q=>aO x fun a=>aO y fun b=>gO (H a) fun xs=>gO (H b) fun ys=>ys=[]/\xs.all b8=true/\Q (.bl xs.isEmpty) H
section
variable {X:Cx}
theorem Gd:h9 X (binaryOp .Add) (fun x y H Q=>∃ a b ys,x=.ref a/\y=.ref b/\fS X.K H a []/\fS X.K H b ys/\Q (.ref b) H):=by
 intro SK s σ H x y v u Q I rx ry h;obtain⟨a,b,ys,rfl,rfl,ha,hb,q⟩:=h;cases rx;cases ry;obtain⟨SQ,r1,p1,_⟩:=I.tuple ha;obtain⟨TZ,r2,p2,_⟩:=I.tuple hb;have l1:SQ=[]:=r1.rS.mpr rfl;obtain⟨⟨c1,d1,t1,o1⟩,ho,rfl,n,rfl⟩:=p1;obtain⟨⟨c2,d2,t2,o2⟩,V5,rfl,n2,rfl⟩:=p2;exact concat_meets ⟨_,ho,rfl⟩ ⟨_,V5,rfl⟩ noFill_tuple_add seq_tuple_add PySem.F.slot_tuple_add PySem.F.entry_tuple_add (PySem.F.args_tuple_add_2 _ _) (tuple_addW0 a b SQ.toArray TZ.toArray n n2 d1 d2 o1 o2 (by simp[l1])) ⟨ho,V5,.ref b,H,I,rfl,q⟩
theorem zH:h9 X (binaryOp .Add) Es:=(Gd.or CO).imp fun x y H Q h=>by
 obtain⟨a,rfl,h1⟩:=bC h;obtain⟨b,rfl,h2⟩:=bC h1;obtain⟨xs,e1,h3⟩:=lA h2;obtain⟨ys,e2,h4,h5⟩:=lA h3;by_cases c:xs=[]
 ·rw[if_pos c] at h5;subst c;exact .inl ⟨a,b,ys,rfl,rfl,.inl (.inl e1),.inl (.inl e2),h5⟩
 ·rw[if_neg c] at h5;refine .inr ⟨a,b,xs,ys,rfl,rfl,.inl (.inl e1),.inl (.inl e2),c,h4,fun z=>?_,fun z=>?_⟩
  ·rw[if_pos z] at h5;exact h5
  ·rw[if_neg z] at h5;exact h5
end
section
variable {H:Hp} {Q:VK} {a b p:Addr} {vs:List V} {lo hi:Option Int}
theorem yO{k:List V->Prop}{u:Tg k}:@gO (some (.tup vs)) k u=k vs:=rfl
theorem Fb:Es (.ref a) (.ref b) H Q=gO (H a) fun xs=>gO (H b) fun ys=>xs.length+ys.length<=sizeLine/\(if xs=[] then Q (.ref b) H else if ys=[] then Q (.ref a) H else ∀ p,H p=none->Q (.ref p) (SM H p (.tup (xs++ys)))):=rfl
theorem LC:Oj (.ref a) (.ref b) H Q=gO (H a) fun xs=>gO (H b) fun ys=>ys=[]/\xs.all b8=true/\Q (.bl xs.isEmpty) H:=rfl
theorem Lr:Eo lo hi H Q (some (.tup vs))=(¬ (HT.gD vs.length 0 lo=0/\HT.gD vs.length vs.length hi=vs.length)/\∀ p,H p=none->Q (.ref p) (SM H p (.tup (kM vs lo hi)))):=rfl
end
section
variable {prog:Program} {w:World} {A:Around} {E:q0A}
end
noncomputable def Co(H:Hp)(xs:List V)(SN:List (Key×V)):Prop:=xs.length=SN.length/\∀(j:Nat) (x:V),xs[j]?=some x->∃(t:Addr) (k:Key) (v:V),x=.ref t/\H t=some (.tup [kV k,v])/\SN[j]?=some (k,v)
noncomputable def KY:List V->Hp->VK->Prop:=fun vs H Q=>on1 vs fun x=>aO x fun l=>bF (H l) fun xs=>∃ SN,Co H xs SN/\∀ p,H p=none->Q (.ref p) (SM H p (.dK (FJ [] SN)))
noncomputable def Itd(a:Addr)(o:Obj)(SN:List (Key×V)):It :=
 ⟨fun i H=>i < SN.length/\H a=some (.Tn o (.dK SN)),fun i H x H'=>H'=H/\∃ kv,SN[i]?=some kv/\x=kV kv.1,fun i H=>i=SN.length/\H a=some (.Tn o (.dK SN))⟩
theorem KV.at{SN:List (Key×V)}{vs:List (Key×Value)}(r:KV SN vs){i:Nat}{kv:Key×V}(e:SN[i]?=some kv):∃ v,vs[i]?=some (kv.1,v):=by
 unfold KV at r
 induction r generalizing i with
 | nil=>simp at e
 | @cons p q ps qs h t ih=>cases i with
  | zero =>
   have e':p=kv:=by simpa using e
   subst e';exact⟨q.2,by simp[h.1]⟩
  | succ i=>simpa using ih (i:=i) (by simpa using e)
noncomputable def PV(tl:TE):TI:=fun σ H R=>tl σ H fun x H1=>aO x fun a=>cI (H1 a) fun SN=>∀ o,R (Itd a o SN) (SM H1 a (.Tn o (.dK SN)))
section
variable {fr:List Nat} {tc:TT} {te tl:TE} {σ:St} {H:Hp} {Q:VK}
theorem HM:kC (PV tl) fr tc te σ H Q=tl σ H fun x H1=>aO x fun a=>cI (H1 a) fun SN=>∀ o,lc (Itd a o SN) fr tc te σ (SM H1 a (.Tn o (.dK SN))) Q:=by
 unfold kC PV;rfl
end
section
variable {td ty tx:TE} {σ:St} {H:Hp} {Q:VK} {D:Ends} {a:Addr} {v w x:V}
theorem AU{k:Addr->Prop}:(∃ a,x=.ref a/\k a)=aO x k:=propext ⟨fun⟨a,e,h⟩=>by subst e;exact h,bC⟩
theorem Ip:GQ td ty σ H Q=td σ H fun x H1=>aO x fun a=>Ra H1 a/\ty σ H1 fun y H2=>∃ o,Te H2 a y o/\Q (o.getD .SR) H2:=by simp only[GQ,AU]
theorem Mp:Kd td ty σ H Q=td σ H fun x H1=>ty σ H1 fun y H2=>aO x fun a=>∃ v,Te H2 a y (some v)/\Q v H2:=by
 unfold Kd
 congr 1
 funext x H1
 congr 1
 funext y H2;exact propext ⟨fun⟨a,v,e,h⟩=>by subst e;exact⟨v,h⟩,fun h=>by obtain⟨a,rfl,v,h⟩:=bC h;exact⟨a,v,rfl,h⟩⟩
theorem Pz:QB ty td σ H Q=ty σ H fun y H1=>td σ H1 fun x H2=>aO x fun a=>∃ o,Te H2 a y o/\Q (.bl o.isSome) H2:=by
 unfold QB
 congr 1
 funext y H1
 congr 1
 funext x H2;exact propext ⟨fun⟨a,o,e,h⟩=>by subst e;exact⟨o,h⟩,fun h=>by obtain⟨a,rfl,o,h⟩:=bC h;exact⟨a,o,rfl,h⟩⟩
theorem Iq:GR td ty tx σ H Q=td σ H fun x H1=>aO x fun a=>Ra H1 a/\ty σ H1 fun y H2=>tx σ H2 fun z H3=>∃ SN k,H3 a=some (.dK SN)/\y=kV k/\(∀ v,cQ SN k=some v->Q v (SM H3 a (.dK (wQ SN k))))/\(cQ SN k=none->Q z H3):=by
 simp only[GR,AU]
theorem HW{l:Addr}:KY [.ref l] H Q=bF (H l) fun xs=>∃ SN,Co H xs SN/\∀ p,H p=none->Q (.ref p) (SM H p (.dK (FJ [] SN))):=rfl
end
noncomputable def q9:List V->Option (List Str)
 | []=>some []
 | .str x::vs=>(q9 vs).map (x::·)
 | _::_=>none
theorem xX:∀ ys:List Str,q9 (ys.map V.str)=some ys
 | []=>rfl
 | y::ys=>by
  show(q9 (ys.map V.str)).map (y::·)=_;rw[xX ys];rfl
theorem Ba:∀ {xs:List V} {ys:List Str},q9 xs=some ys->xs=ys.map V.str
 | [],ys,h=>by cases h;rfl
 | x::xs,ys,h=>by
  cases x with
  | str z =>
   simp only[q9,Option.map_eq_some_iff] at h;obtain⟨zs,e,rfl⟩:=h;rw[Ba e];rfl
  | _=>cases h
theorem CZ:∀ {ys:List Str} {SQ:List Value},Vals (ys.map V.str) SQ->StrsAre SQ ys
 | [],_,.nil=>.nil
 | _::_,_,.cons ⟨_,h⟩ r=>by subst h;exact .cons _ _ (CZ r)
theorem xZ:∀(ys:List Str) (k:Nat),Vals (ys.map V.str) (strsFrom k ys)
 | [],_=>.nil
 | _::ys,k=>.cons ⟨_,rfl⟩ (xZ ys (k+1))
noncomputable def HA:List V->Hp->VK->Prop:=fun vs H Q=>match vs with
 | [.int i]=>i.natAbs.log2 < 1920/\Q (.str (toString i)) H
 | [.str x]=>Q (.str x) H
 | _=>False
noncomputable def JT:V->List V->Hp->VK->Prop:=fun x vs H Q=>fN x fun sep=>on1 vs fun y=>aO y fun l=>bF (H l) fun xs=>dE (q9 xs) fun ys=>(ys.map fun z=>z.length).sum+ys.length * sep.length<=16777216/\Q (.str (Txt.join sep ys)) H
noncomputable def Er:V->List V->Hp->VK->Prop:=fun x vs H Q=>fN x fun z=>on1 vs fun y=>fN y fun sep=>(sep.length==0)=false/\z.length+2<=sizeLine/\∀ l,H l=none->Q (.ref l) (SM H l (.lst ((Txt.split z sep).map V.str)))
noncomputable def Eu:List V->Hp->VK->Prop:=fun vs H Q=>on1 vs fun x=>aO x fun p=>bF (H p) fun ys=>∀ l,H l=none->Q (.ref l) (SM H l (.tup ys))
theorem eR{x:V}{k:Str->Prop}(h:fN x k):∃ z,x=.str z/\k z:=by
 unfold fN at h;split at h
 ·exact⟨_,rfl,h⟩
 ·exact h.elim
theorem iX{vs:List V}{k:V->Prop}(h:on1 vs k):∃ v,vs=[v]/\k v:=by
 unfold on1 at h;split at h
 ·exact⟨_,rfl,h⟩
 ·exact h.elim
section
variable {X:Cx}
theorem wM:dG X (.type "str") HA:=fun SK s σ H xs us Q I r h=>by
 unfold HA at h;split at h
 ·exact yH SK s σ H _ us Q I r ⟨_,rfl,h.1,h.2⟩
 ·obtain⟨u,rfl,t,rfl⟩:=vals1 r;exact PySem.P.str_of_str ⟨.str _,H,I,⟨_,rfl⟩,h⟩
 ·exact h.elim
theorem pB:dG X (.type "tuple") Eu:=fun SK s σ H xs us Q I r h=>by
 obtain⟨x,rfl,h⟩:=iX h;obtain⟨p,rfl,h⟩:=bC h;obtain⟨ys,e,h⟩:=fZ h;exact vI SK s σ H _ us Q I r ⟨_,_,rfl,.inl ⟨.inl (.inl e),h⟩⟩
theorem IZ:Hi X "str.join" JT:=by
 intro SK s σ H x xs v us Q I rx r h;obtain⟨sep,rfl,h⟩:=eR h;obtain⟨y,rfl,h⟩:=iX h;obtain⟨l,rfl,h⟩:=bC h;obtain⟨zs,e,h⟩:=fZ h;obtain⟨ys,ey,hz,q⟩:=gZ h;cases Ba ey;obtain⟨u,rfl,ru⟩:=vals1 r;cases ru;obtain⟨t,rfl⟩:=rx;obtain⟨SQ,r',pl,_⟩:=I.list (.inl (.inl e):dS X.K H l _);exact join_list pl.isList (by simpa using CZ r') hz fun t' k=>⟨.str _,H,I.tok _,⟨_,rfl⟩,q⟩
theorem AK:Hi X "str.split" Er:=by
 intro SK s σ H x xs v us Q I rx r h;obtain⟨z,rfl,h1⟩:=eR h;obtain⟨y,rfl,h2⟩:=iX h1;obtain⟨sep,rfl,h0,hz,q⟩:=eR h2;obtain⟨u,rfl,t',rfl⟩:=vals1 r;obtain⟨t,rfl⟩:=rx;have fin:∀(l:List Value) (n:Nat) (k:Nat),Vals ((Txt.split z sep).map V.str) l->(Txt.split z sep).length<=sizeLine->EP X SK σ Q (.ref s.heap.objs.size) {s with heap:=s.heap.push {cls:=.type "list",data:=.seq l.toArray n},toks:=k}:=fun l n k hv hl=>by
  refine⟨.ref _,_,I.laid (t':=k) (fun b o e=>Heap.get?_push_of_some _ e) (Nat.le_refl _) (show dU X.prog X.w _ _ _ (.lst ((Txt.split z sep).map V.str)) from ⟨by simpa using hl,l,n,hv,?_⟩),rfl,q _ (I.SS.fresh (Nat.le_refl _))⟩;exact Heap.get?_push_size _ rfl
 have hl:(Txt.split z sep).length<=sizeLine:=by
  have:=len_le_of_split (l:=(Txt.split z sep).map fun a=>(a,(0:Nat))) (x:=z) (y:=sep) (by simp[Function.comp_def]);simp only[List.length_map] at this;omega
 unfold Txt.split at fin hl;by_cases c1:(decide (z.length < sep.length)||decide (Builtin.Str.strKind z < Builtin.Str.strKind sep))=true
 ·rw[if_pos c1] at fin hl;exact call_meets F.slot_str_split (typeIs_str s z t) F.entry_str_split (F.args_str_split_2 _ _) (meets_str_split_cannot_occur z sep t t' c1) (fin [.str z t] 0 s.toks (.cons ⟨_,rfl⟩ .nil) hl)
 rw[if_neg c1] at fin hl;by_cases c2:(Builtin.Str.occurrences z sep 0 z.length (z.length+1)).isEmpty=true
 ·rw[if_pos c2] at fin hl;exact call_meets F.slot_str_split (typeIs_str s z t) F.entry_str_split (F.args_str_split_2 _ _) (meets_str_split_not_found z sep t t' (by simpa using c1) h0 c2) (fin [.str z t] 0 s.toks (.cons ⟨_,rfl⟩ .nil) hl)
 ·rw[if_neg c2] at fin hl;exact call_meets F.slot_str_split (typeIs_str s z t) F.entry_str_split (F.args_str_split_2 _ _) (meets_str_split_sep z sep t t' (by simpa using c1) h0 (by simpa using c2) (by omega) hl) (fin _ 0 _ (xZ _ _) hl)
noncomputable def JU:R2:=fun x y H Q=>aO x fun a=>aO y fun b=>gO (H a) fun xs=>gO (H b) fun ys=>ys=[]/\Q (.bl (!xs.isEmpty)) H
theorem Jk(hu:X.A.units < cLine):h9 X (compareOp .NotEq) JU:=fun SK s σ H x y v u Q I rx ry h=>by
 obtain⟨a,rfl,h1⟩:=bC h;obtain⟨b,rfl,h2⟩:=bC h1;obtain⟨xs,e1,h3⟩:=lA h2;obtain⟨ys,e2,rfl,q⟩:=lA h3;cases rx;cases ry;obtain⟨SQ,r1,p1,_⟩:=I.tuple (fS.of e1);obtain⟨TZ,r2,p2,_⟩:=I.tuple (fS.of e2);have l1:=r1.length;have l2:TZ.length=0:=r2.length.symm;refine SeqAt.RcNeAt.tuples (e:=fun _=>true) (show s.heap.IsTuple a SQ.toArray from p1) (show s.heap.IsTuple b TZ.toArray from p2) hu (fun j _ h2=>absurd h2 (by simp[l2])) X.prog X.w X.xe _ (bK I q ?_);cases xs with
 | nil =>
  have Zy:SQ.length=0:=l1.symm;simp[Zy,l2]
 | cons x xs =>
  have Zy:SQ.length=xs.length+1:=l1.symm;simp[Zy,l2]
end
section
variable {K:q0B} {T:String} {r:V->List V->Hp->VK->Prop} {to:TE} {t:TA} {σ:St} {H:Hp} {Q:VK} {x y:Str} {i:Int} {p:Addr} {ys:List Str}
theorem RI:Ss K T r to t σ H Q=to σ H fun x H1=>Ri K T x H1/\t σ H1 fun xs H2=>r x xs H2 Q:=rfl
theorem PK:Ri K "str" (.str x) H=True:=eq_true rfl
theorem Mt:HA [.int i] H Q=(i.natAbs.log2 < 1920/\Q (.str (toString i)) H):=rfl
theorem Mu:HA [.str x] H Q=Q (.str x) H:=rfl
theorem LZ:JT (.str x) [.ref p] H Q=bF (H p) fun xs=>dE (q9 xs) fun ys=>(ys.map fun z=>z.length).sum+ys.length * x.length<=16777216/\Q (.str (Txt.join x ys)) H:=rfl
theorem Iv:q9 (ys.map V.str)=some ys:=xX ys
theorem Iu:Er (.str x) [.str y] H Q=((y.length==0)=false/\x.length+2<=sizeLine/\∀ l,H l=none->Q (.ref l) (SM H l (.lst ((Txt.split x y).map V.str)))):=rfl
theorem Mf{q:Addr}:JU (.ref p) (.ref q) H Q=gO (H p) fun xs=>gO (H q) fun ys=>ys=[]/\Q (.bl (!xs.isEmpty)) H:=rfl
theorem Iz:Eu [.ref p] H Q=bF (H p) fun ys=>∀ l,H l=none->Q (.ref l) (SM H l (.tup ys)):=rfl
end
noncomputable abbrev TJ:=Str->St->Hp->(Str->Hp->Prop)->Prop
noncomputable def Sj(te:TE):TE:=fun σ H Q=>te σ H fun x H1=>fN x fun z=>z.length<=sizeLine/\Q (.str z) H1
noncomputable def SG:TJ:=fun acc _ H Q=>Q acc H
noncomputable def SH(te:TE)(tj:TJ):TJ:=fun acc σ H Q=>te σ H fun x H1=>fN x fun z=>(acc++z).length<=sizeLine/\tj (acc++z) σ H1 Q
noncomputable def JI(tj:TJ):TE:=fun σ H Q=>tj Str.empty σ H fun out H1=>out.length<=sizeLine/\Q (.str out) H1
section
variable {X:Cx} {e a b:Expr} {es:List Expr} {te:TE} {tj:TJ} {pos:Pos}
end
noncomputable def Sv(r:V->List V->Hp->VK->Prop)(to:TE)(t:TA):TE:=fun σ H Q=>to σ H fun x H1=>aO x fun a=>bF (H1 a) fun _=>t σ H1 fun xs H2=>r (.ref a) xs H2 Q
noncomputable def Rr:V->List V->Hp->VK->Prop:=fun x vs H Q=>aO x fun a=>on1 vs fun y=>aO y fun b=>bF (H a) fun xs=>bF (H b) fun zs=>xs.length+zs.length<=sizeLine/\Q .SR (SM H a (.lst (xs++zs)))
noncomputable def JW:V->List V->Hp->VK->Prop:=fun x vs H Q=>aO x fun a=>on1 vs fun y=>dR y fun i=>bF (H a) fun xs=>i=0/\dE xs[0]? fun v=>Q v (SM H a (.lst xs.tail))
section
variable {X:Cx} {o e:Expr} {es:List Expr} {to:TE} {t:TA} {name:Str} {apos SV:Pos} {id:String} {r:V->List V->Hp->VK->Prop}
theorem Qb(slot:Slot "list" name id)(Zp:typeOf (.builtin id)=pure (.type "method_descriptor"))(hm:Rb X id r)(ho:PE X o to)(ha:PA X (e::es) t)
    (TV:attributeBase o name X.env (eval o X.env)=eval o X.env:=by rfl)
    (UU:((backTo SV (starEach (e::es) X.env)).all (fun x=>!x.1)&&(backToKw SV (keywordEach [] X.env)).all (fun x=>x.1.isSome)
     &&decide ((e::es).length+([]:List Keyword).length+(if ([]:List Keyword).isEmpty then 0 else 1) < 30))=true:=by rfl)
    (TY:(apos.endLine==SV.line)=true:=by rfl) (hs:starEach (e::es) X.env=(false,eval e X.env)::starEach es X.env:=by rfl) (Tv:(backTo SV (starEach es X.env)).any (·.1)=false:=by rfl) :
    PE X (.Call (.Attribute o name apos) (e::es) [] SV) (Sv r to t):=by
  intro SK s σ H Q I h;refine wpAny_Call_method_late TV UU TY rfl (thn (ho SK s σ H _ I h) fun v s1 ⟨x,H1,I1,r1,q1⟩=>?_);obtain⟨a,rfl,q1⟩:=bC q1;obtain⟨xs,e1,q1⟩:=fZ q1;obtain⟨h1,h2⟩:=Ci (T:="list") I1 r1 (.inl ⟨rfl,xs,.inl (.inl e1)⟩);refine⟨"list",id,PySem.F.plainAttrs_list,slot,Zp,h1,h2,?_⟩;have hA:=ha SV SK s1 σ H1 _ I1 q1;rw[hs] at hA ⊢;refine Calls.callWith_builtin (by show(false||(backTo SV (starEach es X.env)).any (·.1))=false;rw[Tv]<;>rfl) (Calls.evalArgs_plain ?_);exact thn hA fun us s2 ⟨vs,H2,I2,r2,q2⟩=>hm SK s2 σ H2 _ vs v us Q I2 r1 r2 q2
theorem I8:Rb X "list.pop" JW:=fun SK s σ H x vs v us Q I rx rv h=>by
 obtain⟨a,rfl,h1⟩:=bC h;obtain⟨y,rfl,h2⟩:=iX h1;obtain⟨i,rfl,h3⟩:=dI h2;obtain⟨xs,e1,rfl,h4⟩:=fZ h3;obtain⟨y,e2,h5⟩:=gZ h4;cases xs with
 | nil=>cases e2
 | cons z zs=>exact FT SK s σ H _ _ v us Q I rx rv ⟨_,_,_,0,y,rfl,rfl,e1,by decide,by decide,by simp[seqIndex?],e2,h5⟩
end
noncomputable def D4:Option HO->Option Bool
 | some (.lst xs)=>some (!xs.isEmpty)
 | some (.tup xs)=>some (!xs.isEmpty)
 | some (.dK SN)=>some (!SN.isEmpty)
 | _=>none
noncomputable def Bd(H:Hp):V->Option Bool
 | .SR=>some false
 | .bl b=>some b
 | .int i=>some (i !=0)
 | .ref p=>D4 (H p)
 | _=>none
theorem JJ{K:q0B}{H:Hp}{x:V}{k:Bool}(h:Bd H x=some k):Oc K x H k:=by
 cases x with
 | SR=>cases h;rfl
 | bl b=>cases h;rfl
 | int i=>cases h;rfl
 | ref p =>
  simp only[Bd] at h;unfold D4 at h;split at h
  ·next e=>cases h;exact .inl ⟨_,.inl (.inl e),rfl⟩
  ·next e=>cases h;exact .inr (.inl ⟨_,fS.of e,rfl⟩)
  ·next e=>cases h;exact .inr (.inr ⟨_,e,rfl⟩)
  ·cases h
 | _=>cases h
noncomputable def GZ(ta:TE):TT:=fun σ H Q=>ta σ H fun x H'=>dE (Bd H' x) fun k=>Q k H'
theorem oM{X:Cx}{a:Expr}{ta:TE}(ha:PE X a ta)(he:∀ whole,isTrue a X.env whole=(do let v <- whole;standAt a.pos;holding [v] (truthy v))):PT X a (GZ ta):=by
 intro SK s σ H Q I h;exact isTrue_plain (thn (ha SK s σ H _ I h) fun v s1 ⟨x,H1,I1,r1,q1⟩=>by
  obtain⟨k,e,q⟩:=gZ q1;exact NQ SK s1 σ H1 x v Q I1 r1 ⟨k,JJ e,q⟩) (he _)
section
variable {te to:TE} {t:TA} {tj:TJ} {σ:St} {H:Hp} {Q:VK} {x acc:Str} {r:V->List V->Hp->VK->Prop} {QS:Str->Hp->Prop} {B:Bool->Hp->Prop} {D:Ends} {p q:Addr} {vs:List V} {SN:List (Key×V)} {v:V} {b:Bool} {i:Int}
theorem OZ:Sj te σ H Q=te σ H fun x H1=>fN x fun z=>z.length<=sizeLine/\Q (.str z) H1:=rfl
theorem RS:SG acc σ H QS=QS acc H:=rfl
theorem RT:SH te tj acc σ H QS=te σ H fun x H1=>fN x fun z=>(acc++z).length<=sizeLine/\tj (acc++z) σ H1 QS:=rfl
theorem EV:JI tj σ H Q=tj Str.empty σ H fun out H1=>out.length<=sizeLine/\Q (.str out) H1:=rfl
theorem LD:Str.empty++x=x:=by
 show(⟨#[]++x.cps⟩:Str)=x;rw[Array.empty_append]
theorem RU:Sv r to t σ H Q=to σ H fun x H1=>aO x fun a=>bF (H1 a) fun _=>t σ H1 fun xs H2=>r (.ref a) xs H2 Q:=rfl
theorem OX:Rr (.ref p) [.ref q] H Q=bF (H p) fun xs=>bF (H q) fun zs=>xs.length+zs.length<=sizeLine/\Q .SR (SM H p (.lst (xs++zs))):=rfl
theorem Mm:JW (.ref p) [.int 0] H Q=bF (H p) fun xs=>(0:Int)=0/\dE xs[0]? fun v=>Q v (SM H p (.lst xs.tail)):=rfl
theorem Iy:GZ te σ H B=te σ H fun x H'=>dE (Bd H' x) fun k=>B k H':=rfl
theorem MB:Bd H .SR=some false:=rfl
theorem Mx:Bd H (.bl b)=some b:=rfl
theorem Mz:Bd H (.int i)=some (i !=0):=rfl
theorem Fc:Bd H (.ref p)=D4 (H p):=rfl
theorem MA:D4 (some (.lst vs))=some (!vs.isEmpty):=rfl
theorem MC:D4 (some (.tup vs))=some (!vs.isEmpty):=rfl
theorem My:D4 (some (.dK SN))=some (!SN.isEmpty):=rfl
theorem Ig:NN D σ H=False:=rfl
variable {fr:List Nat} {tc:TT} {tl:TE} {K:q0B}
theorem HR:kC (Fo K tl) fr tc te σ H Q=tl σ H fun x H1=>aO x fun a=>(∃ xs,fS K H1 a xs)/\lc (VT K a) fr tc te σ H1 Q:=by
 unfold kC Fo
 congr 1
 funext x H1;exact propext ⟨fun⟨a,e,h1,h⟩=>by subst e;exact⟨h1,h⟩,fun h=>by obtain⟨a,rfl,h1,h⟩:=bC h;exact⟨a,rfl,h1,h⟩⟩
end
section
variable {X:Cx} {SK:List (Addr×Obj)} {σ:St} {H:Hp} {s:Shared}
end
noncomputable def RA(K:q0B)(n:Nat):R2:=fun x y H Q=>aO x fun a=>aO y fun b=>∃ r,rK K H n a b r/\Q (.bl (!r)) H
noncomputable def Oi(K:q0B)(n:Nat):R2:=fun x y H Q=>aO x fun a=>aO y fun b=>∃ r,rK K H n a b r/\Q (.bl r) H
theorem PR{A:Around}{k:Nat}(hr:Room k A){n:Nat}(h:n<=60):A.units+n < cLine:=Nat.lt_of_le_of_lt (Nat.add_le_add_left (by omega:n<=64) _) hr.units
noncomputable def Qn(n:Int)(xs:List V):List V:=(List.replicate n.toNat xs).flatten
noncomputable def RF:R2:=fun x y H Q=>aO x fun l=>dR y fun k=>bF (H l) fun xs=>(-(2 ^ 63)<=k/\k < 2 ^ 63)/\xs.length * k.toNat<=sizeLine/\∀ p,H p=none->Q (.ref p) (SM H p (.lst (Qn k xs)))
noncomputable def KZ:List V->Hp->VK->Prop:=fun vs H Q=>on1 vs fun x=>aO x fun p=>j6 (H p) fun ys=>∀ l,H l=none->Q (.ref l) (SM H l (.lst ys))
noncomputable def Ow(K:q0B):List V->Hp->VK->Prop:=fun vs H Q=>on1 vs fun x=>aO x fun p=>∃ xs,dS K H p xs/\Q (.int xs.length) H
section
variable {X:Cx}
theorem Ge(n:Nat)(hu:X.A.units+n < cLine):h9 X (compareOp .Eq) (Oi X.K n):=fun SK s σ H x y v u Q I rx ry h=>by
 obtain⟨a,rfl,h1⟩:=bC h;obtain⟨b,rfl,r,e,q⟩:=bC h1;cases rx;cases ry;exact Nn e I hu X.prog X.w X.xe _ (bK I q rfl)
end
section
variable {K:q0B} {H:Hp} {Q:VK} {a b p:Addr} {n:Nat} {i:Int}
theorem Pd:RA K n (.ref a) (.ref b) H Q = ∃ r,rK K H n a b r/\Q (.bl (!r)) H:=rfl
theorem OV:Oi K n (.ref a) (.ref b) H Q = ∃ r,rK K H n a b r/\Q (.bl r) H:=rfl
theorem Px:RF (.ref a) (.int i) H Q=bF (H a) fun xs=>(-(2 ^ 63)<=i/\i < 2 ^ 63)/\xs.length * i.toNat<=sizeLine/\∀ p,H p=none->Q (.ref p) (SM H p (.lst (Qn i xs))):=rfl
theorem Ie:KZ [.ref p] H Q=j6 (H p) fun ys=>∀ l,H l=none->Q (.ref l) (SM H l (.lst ys)):=rfl
theorem L8:Ow K [.ref p] H Q = ∃ xs,dS K H p xs/\Q (.int xs.length) H:=rfl
end
theorem rK.same{K:q0B}{H:Hp}{a b:Addr}{xs:List V}(h1:H a=some (.lst xs))(h2:H b=some (.lst xs))(h:∀ x∈xs,∃ c,x=.ref c):rK K H 1 a b true:=by
 have:=rK.list (K:=K) (H:=H) (n:=0) (a:=a) (b:=b) (e:=fun _=>true) (dS.of h1) (dS.of h2) rfl fun j x y e1 e2=>by
  rw[e1] at e2;cases e2;obtain⟨c,rfl⟩:=h x (List.mem_of_getElem? e1);exact .same
 rwa [show((List.range xs.length).all fun _=>true)=true by simp[List.all_eq_true]] at this
noncomputable def Str.cs(x:Str):List Nat:=x.cps.toList
theorem l8{x y:Str}(h:x.cps.toList=y.cps.toList):x=y:=by
 cases x;cases y;simp only[Str.mk.injEq];exact Array.toList_inj.mp h
theorem jN(a b:Str):(a++b).cps.toList=a.cps.toList++b.cps.toList:=Array.toList_append
noncomputable def jn(c:Nat):List (List Nat)->List Nat
 | []=>[]
 | [w]=>w
 | w::v::r=>w++c::jn c (v::r)
theorem EF{c:Nat}:∀ {u w R S:List Nat},c∉u->c∉w->u++c::R=w++c::S->u=w/\R=S
 | [],[],_,_,_,_,h=>by simpa using h
 | [],y::w,_,_,_,hw,h=>by
  simp only[List.nil_append,List.cons_append,List.cons.injEq] at h;exact absurd (List.mem_cons.mpr (.inl h.1)) hw
 | x::u,[],_,_,hu,_,h=>by
  simp only[List.nil_append,List.cons_append,List.cons.injEq] at h;exact absurd (List.mem_cons.mpr (.inl h.1.symm)) hu
 | x::u,y::w,R,S,hu,hw,h=>by
  simp only[List.cons_append,List.cons.injEq] at h;obtain⟨e,f⟩:=EF (fun z=>hu (List.mem_cons_of_mem _ z)) (fun z=>hw (List.mem_cons_of_mem _ z)) h.2;exact⟨by rw[h.1,e],f⟩
theorem Fw{c:Nat}:∀ {us ws:List (List Nat)},us≠[]->ws≠[]->(∀ u∈us,c∉u)->(∀ w∈ws,c∉w)->jn c us=jn c ws->us=ws
 | [],_,h,_,_,_,_=>absurd rfl h
 | _::_,[],_,h,_,_,_=>absurd rfl h
 | [u],[w],_,_,_,_,h=>by rw[show u=w from h]
 | [u],w::v::r,_,_,hu,_,h=>by
  have h:u=w++c::jn c (v::r):=h;exact absurd (by rw[h];simp) (hu u (by simp))
 | u::v::r,[w],_,_,_,hw,h=>by
  have h:u++c::jn c (v::r)=w:=h;exact absurd (by rw[<- h];simp) (hw w (by simp))
 | u::u2::us,w::w2::ws,_,_,hu,hw,h=>by
  obtain⟨e,f⟩:=EF (hu u (by simp)) (hw w (by simp)) (show u++c::jn c (u2::us)=w++c::jn c (w2::ws) from h);rw[e,Fw (by simp) (by simp) (fun z hz=>hu z (List.mem_cons_of_mem _ hz)) (fun z hz=>hw z (List.mem_cons_of_mem _ hz)) f]
theorem CB(c:Nat):∀(l:List Str) (x:List Nat),(List.foldl (fun acc (p:Str)=>acc++(#[c]:Array Nat)++p.cps) x.toArray l).toList=jn c (x::l.map fun p=>p.cps.toList)
 | [],x=>by simp[jn]
 | y::l,x=>by
  show(List.foldl _ (x.toArray++#[c]++y.cps) l).toList=_;have e:x.toArray++#[c]++y.cps=(x++c::y.cps.toList).toArray:=by apply Array.toList_inj.mp;simp
  rw[e,CB c l (x++c::y.cps.toList)];cases l with
  | nil=>simp[jn]
  | cons z l=>simp[jn]
theorem nV(c:Nat)(ws:List Str):(Txt.join ⟨#[c]⟩ ws).cps.toList=jn c (ws.map fun p=>p.cps.toList):=by
 cases ws with
 | nil=>rfl
 | cons w ws =>
  exact CB c ws w.cps.toList
theorem uV(x y:Str):Txt.split x y≠[]:=by
 unfold Txt.split;split
 ·simp
 ·split
  ·simp
  ·unfold Builtin.Str.partsBetween;simp only[ne_eq,List.map_eq_nil_iff];intro h;have:=congrArg List.length h;simp at this
theorem IW{us ws:List Str}(h:(us.map fun p=>p.cps.toList)=ws.map fun p=>p.cps.toList):us=ws:=by
 induction us generalizing ws with
 | nil=>cases ws with
  | nil=>rfl
  | cons w ws=>simp at h
 | cons u us ih=>cases ws with
  | nil=>simp at h
  | cons w ws =>
   simp only[List.map_cons,List.cons.injEq] at h;rw[l8 h.1,ih h.2]
theorem xW{c:Nat}{ws:List Str}(ne:ws≠[])(fr:∀ w∈ws,c∉w.cps.toList):Txt.split (Txt.join ⟨#[c]⟩ ws) ⟨#[c]⟩=ws:=by
 apply IW;refine Fw (c:=c) (by simpa using uV _ _) (by simpa using ne) (fun u hu=>?_) (fun u hu=>?_) ?_
 ·obtain⟨p,hp,rfl⟩:=List.mem_map.mp hu;exact StrLaws.split_free _ _ p hp
 ·obtain⟨p,hp,rfl⟩:=List.mem_map.mp hu;exact fr p hp
 ·rw[<- nV,<- nV];show(Builtin.Str.glued _ _).cps.toList=_;rw[StrLaws.glued_eq_join,StrLaws.join_split]
theorem wW:∀(l:List Str) (x:List Nat),(List.foldl (fun acc (p:Str)=>acc++("":Str).cps++p.cps) x.toArray l).toList=x++(l.map fun p=>p.cps.toList).flatten
 | [],x=>by simp
 | y::l,x=>by
  have e0:("":Str).cps = #[]:=by decide +kernel
  show(List.foldl _ (x.toArray++("":Str).cps++y.cps) l).toList=_;have e:x.toArray++("":Str).cps++y.cps=(x++y.cps.toList).toArray:=by rw[e0];apply Array.toList_inj.mp;simp
  rw[e,wW l (x++y.cps.toList)];simp
theorem pI(ws:List Str):(Txt.join "" ws).cps.toList=(ws.map fun p=>p.cps.toList).flatten:=by
 cases ws with
 | nil=>rfl
 | cons w ws =>
  exact wW ws w.cps.toList
theorem gY:("\n":Str)=⟨#[10]⟩/\(" ":Str)=⟨#[32]⟩/\("-":Str)=⟨#[45]⟩/\("0":Str)=⟨#[48]⟩/\("9":Str)=⟨#[57]⟩:=by decide +kernel
theorem Bz(rows:List Str)(tl:Str):Txt.join "" (rows.map fun r:Str=>r++"\n")++tl=Txt.join "\n" (rows++[tl]):=by
 apply l8;rw[jN,pI,gY.1,nV]
 induction rows with
 | nil=>simp[jn]
 | cons r rows ih =>
  simp only[List.map_cons,List.flatten_cons,jN,List.cons_append,List.append_assoc] at ih ⊢;rw[ih];cases rows with
  | nil=>simp[jn]
  | cons z l=>simp[jn]
theorem AG{rows:List Str}{tl:Str}(h:∀ r∈rows,10∉r.cps.toList)(ht:10∉tl.cps.toList):Txt.split (Txt.join "" (rows.map fun r:Str=>r++"\n")++tl) "\n"=rows++[tl]:=by
 rw[Bz,gY.1];exact xW (by simp) fun w hw=>by
  rcases List.mem_append.mp hw with hw|hw
  ·exact h w hw
  ·rw[show w=tl by simpa using hw];exact ht
theorem y8{rows:List Str}(h:∀ r∈rows,10∉r.cps.toList):Txt.split (Txt.join "" (rows.map fun r:Str=>r++"\n")) "\n"=rows++[("":Str)]:=by
 have:=AG (tl:="") h (by decide +kernel)
 rwa [show Txt.join "" (rows.map fun r:Str=>r++"\n")++""=Txt.join "" (rows.map fun r:Str=>r++"\n") from l8 (by rw[jN];simp[show("":Str).cps.toList=[] by decide +kernel])] at this
theorem Dn{α:Type}(f:α->V)(xs:List α)(y:α):kM ((xs++[y]).map f) none (some (-1))=xs.map f:=by
 have hl:((xs++[y]).map f).length=xs.length+1:=by simp
 unfold kM;have h1:HT.gD ((xs++[y]).map f).length 0 none=0:=rfl;have h2:HT.gD ((xs++[y]).map f).length ((xs++[y]).map f).length (some (-1))=xs.length:=by
  rw[hl];unfold HT.gD;simp;omega
 rw[h1,h2];simp
noncomputable def JR:List V->Hp->VK->Prop:=fun vs H Q=>on1 vs fun x=>fN x fun z=>z.length<=640/\dE (intText? z) fun n=>Q (.int n) H
noncomputable def Cr:V->List V->Hp->VK->Prop:=fun x vs H Q=>fN x fun z=>on1 vs fun y=>fN y fun p=>Q (.bl (Txt.startswith z p)) H
noncomputable def JQ:V->List V->Hp->VK->Prop:=fun x vs H Q=>fN x fun z=>on1 vs fun y=>fN y fun p=>Q (.bl (Txt.endswith z p)) H
noncomputable def Ov:R2:=fun x y H Q=>fN x fun i=>fN y fun j=>Q (.bl (!decide (j.cps.toList < i.cps.toList))) H
noncomputable def mT:List V->Option (List Bool)
 | []=>some []
 | .bl b::r=>(mT r).map (b::·)
 | _=>none
theorem wI:∀ {xs:List V} {bs:List Bool},mT xs=some bs->xs=bs.map V.bl
 | [],bs,h=>by cases h;rfl
 | x::xs,bs,h=>by
  cases x with
  | bl b =>
   simp only[mT,Option.map_eq_some_iff] at h;obtain⟨cs,e,rfl⟩:=h;rw[wI e];rfl
  | _=>cases h
theorem Ap:∀ {bs:List Bool},mT (bs.map V.bl)=some bs
 | []=>rfl
 | b::bs=>by
  show(mT (bs.map V.bl)).map (b::·)=_;rw[Ap];rfl
noncomputable def Od:List V->Hp->VK->Prop:=fun vs H Q=>on1 vs fun x=>aO x fun p=>bF (H p) fun xs=>dE (mT xs) fun bs=>Q (.bl (bs.all id)) H
noncomputable def Oq(K:q0B)(neg:Bool):R2:=fun x y H Q=>aO y fun p=>∃ xs,fS K H p xs/\b8 x=true/\xs.all b8=true/\Q (.bl (if neg=true then !b7 x xs else b7 x xs)) H
section
variable {X:Cx}
theorem wK:dG X (.type "int") JR:=fun SK s σ H xs us Q I r h=>by
 obtain⟨x,rfl,h1⟩:=iX h;obtain⟨z,rfl,hz,h2⟩:=eR h1;obtain⟨n,e,q⟩:=gZ h2;obtain⟨u,rfl,t,rfl⟩:=vals1 r;exact PySem.W.KIN.call_text e hz ⟨.int n,H,I.tok _,⟨_,rfl⟩,q⟩
theorem vW:Hi X "str.startswith" Cr:=fun SK s σ H x xs v us Q I rx r h=>by
 obtain⟨z,rfl,h1⟩:=eR h;obtain⟨y,rfl,h2⟩:=iX h1;obtain⟨p,rfl,q⟩:=eR h2;obtain⟨u,rfl,t',rfl⟩:=vals1 r;obtain⟨t,rfl⟩:=rx;exact PySem.SC.startswith ⟨.bl _,H,I,rfl,q⟩
theorem AJ:Hi X "str.endswith" JQ:=fun SK s σ H x xs v us Q I rx r h=>by
 obtain⟨z,rfl,h1⟩:=eR h;obtain⟨y,rfl,h2⟩:=iX h1;obtain⟨p,rfl,q⟩:=eR h2;obtain⟨u,rfl,t',rfl⟩:=vals1 r;obtain⟨t,rfl⟩:=rx;exact PySem.SC.endswith ⟨.bl _,H,I,rfl,q⟩
theorem zG:h9 X (compareOp .LtE) Ov:=DQ.imp fun x y H Q h=>by
 obtain⟨i,rfl,h1⟩:=eR h;obtain⟨j,rfl,q⟩:=eR h1;exact⟨i,j,rfl,rfl,q⟩
theorem wJ(hc:X.calm=true):dG X (.builtin "all") Od:=fun SK s σ H xs us Q I r h=>by
 obtain⟨x,rfl,h1⟩:=iX h;obtain⟨p,rfl,h2⟩:=bC h1;obtain⟨ys,e,h3⟩:=fZ h2;obtain⟨bs,eb,q⟩:=gZ h3;cases wI eb;exact Ey hc SK s σ H _ us Q I r ⟨p,bs,rfl,dS.of e,q⟩
theorem xH:h9 X (compareOp .NotIn) (Oq X.K true):=nZ.imp fun x y H Q h=>by
 obtain⟨p,rfl,xs,e,h1,h2,q⟩:=bC h;exact⟨_,_,rfl,.inr e,h1,h2,q⟩
end
section
variable {K:q0B} {H:Hp} {Q:VK} {p:Addr} {x y z:Str} {neg:Bool} {v:V}
theorem LR:JR [.str z] H Q=(z.length<=640/\dE (intText? z) fun n=>Q (.int n) H):=rfl
theorem E9:Cr (.str z) [.str y] H Q=Q (.bl (Txt.startswith z y)) H:=rfl
theorem Ly:JQ (.str z) [.str y] H Q=Q (.bl (Txt.endswith z y)) H:=rfl
theorem O9:Ov (.str x) (.str y) H Q=Q (.bl (!decide (y.cps.toList < x.cps.toList))) H:=rfl
theorem OD:Od [.ref p] H Q=bF (H p) fun xs=>dE (mT xs) fun bs=>Q (.bl (bs.all id)) H:=rfl
theorem O3:Oq K neg v (.ref p) H Q = ∃ xs,fS K H p xs/\b8 v=true/\xs.all b8=true/\Q (.bl (if neg=true then !b7 v xs else b7 v xs)) H:=rfl
end
noncomputable def SY(n:Nat):List Nat:=(Nat.toDigits 10 n).map Char.toNat
theorem jD(n:Nat):∀ c∈SY n,48<=c/\c<=57:=by
 intro c hc;obtain⟨d,hd,rfl⟩:=List.mem_map.mp hc;have:=Nat.isDigit_of_mem_toDigits (by decide) (by decide) hd;simp only[Char.isDigit,Bool.and_eq_true,decide_eq_true_eq] at this;exact⟨this.1,this.2⟩
theorem nO(n:Nat):SY n≠[]:=by simpa[SY] using Nat.toDigits_ne_nil
theorem gM{n k:Nat}(hk:0 < k):(SY n).length<=k↔n < 10 ^ k:=by
 rw[SY,List.length_map];exact Nat.length_toDigits_le_iff (by decide) hk
theorem nQ(n:Nat):NumText.digitsVal (SY n)=n:=PySem.W.KIN.val_back n
theorem Cj:∀(cs:List Nat) (a:Nat),(∀ c∈cs,48<=c/\c<=57)->List.foldl (fun acc c=>acc * 10+(c - 48)) a cs < (a+1) * 10 ^ cs.length
 | [],a,_=>by simp
 | c::cs,a,h=>by
  have h1:=h c (by simp);have h2:=Cj cs (a * 10+(c - 48)) fun z hz=>h z (List.mem_cons_of_mem _ hz);rw[List.foldl_cons];refine Nat.lt_of_lt_of_le h2 ?_;rw[List.length_cons,Nat.pow_succ,<- Nat.mul_assoc,Nat.mul_right_comm];exact Nat.mul_le_mul_right _ (by omega)
theorem wO{n:Nat}{cs:List Nat}(h:SY n=48::cs):n=0:=by
 have hv:=nQ n;have ha:=jD n;rw[h] at hv ha;cases cs with
 | nil=>rw[<- hv];rfl
 | cons c cs =>
  have h2:=Cj (c::cs) 0 fun z hz=>ha z (List.mem_cons_of_mem _ hz);have h3:NumText.digitsVal (48::c::cs)=NumText.digitsVal (c::cs):=by simp[NumText.digitsVal]
  rw[h3] at hv;have h4:n < 10 ^ (c::cs).length:=by
   rw[<- hv];simpa[NumText.digitsVal] using h2
  have h5:=(gM (n:=n) (k:=(c::cs).length) (by simp)).mpr h4;rw[h] at h5;simp at h5;omega
theorem rP(n:Nat):(Str.ofString (toString (n:Int))).cps.toList=SY n:=by
 show(Str.ofString (Nat.repr n)).cps.toList=_;rw[Nat.repr_eq_ofList_toDigits,PySem.W.Fast.ofString_ofList];rfl
theorem yV(n:Nat):(Str.ofString (toString (Int.negSucc n))).cps.toList=45::SY (n+1):=by
 show(Str.ofString ("-"++Nat.repr (n+1))).cps.toList=_;rw[PySem.Str.ofString_eq_toList,String.toList_append,Nat.repr_eq_ofList_toDigits];simp[SY]
theorem lX(i:Int)(h:i.natAbs < 10 ^ 100):intText? (Str.ofString (toString i))=some i:=by
 cases i with
 | ofNat n =>
  have e:(Str.ofString (toString (Int.ofNat n))).cps.toList=SY n:=rP n;have l:(SY n).length<=100:=(gM (by decide)).mpr h;rw[intText_digits (by rw[e];exact jD n) (by rw[e];exact nO n) (by show(Str.ofString (toString (Int.ofNat n))).cps.size<=4300;rw[<- Array.length_toList,e];omega),e,nQ];rfl
 | negSucc n =>
  have e:=yV n;have l:(SY (n+1)).length<=100:=(gM (by decide)).mpr (by simpa[Int.natAbs] using h);rw[intText_neg e (jD _) (nO _) (by show(Str.ofString (toString (Int.negSucc n))).cps.size<=4300;rw[<- Array.length_toList,e];simp;omega),nQ];rfl
noncomputable def gW:List Nat->List Nat
 | 45::r=>r
 | l=>l
noncomputable def k6(w:Str)(lo hi:Int):Bool :=
 let f:=gW w.cps.toList;decide (1<=f.length)&&decide (f.length<=(Str.ofString (toString (if hi > -lo then hi else -lo))).length)&&f.all (fun c=>decide (48<=c)&&decide (c<=57))&&!(decide (f[0]?=some 48)&&!decide (w = "0"))&&
  match intText? w with
  | some v=>decide (lo<=v)&&decide (v<=hi)
  | none=>false
theorem zW(w:Str):Txt.startswith w "-"=decide (w.cps.toList[0]?=some 45):=by
 rw[gY.2.2.1];have h:=StrLaws.subAt_one w 45 0;unfold Txt.startswith;rw[Bool.eq_iff_iff,Bool.and_eq_true,decide_eq_true_eq,decide_eq_true_eq];exact h
theorem DZ(w:Str)(h:1<=w.length):(Txt.slice w (some 1) none).cps.toList=w.cps.toList.drop 1:=by
 have e:Txt.slice w (some 1) none=StrLaws.sliceText w (some 1) none:=rfl;rw[e,StrLaws.sliceText_from (i:=1) ⟨by decide,by simp only[Array.length_toList];exact Int.ofNat_le.mpr h⟩];simp only[Int.toNat_one];apply List.take_of_length_le;simp only[List.length_drop];omega
theorem IC(w:Str):(if Txt.startswith w "-"=true then Txt.slice w (some 1) none else w).cps.toList=gW w.cps.toList:=by
 rw[zW];cases h:w.cps.toList with
 | nil =>
  simp only[List.getElem?_nil,reduceCtorEq,decide_false,Bool.false_eq_true,if_false];rw[h];rfl
 | cons c r =>
  simp only[List.getElem?_cons_zero,Option.some.injEq];by_cases hc:c=45
  ·subst hc;simp only[decide_true,if_true];rw[DZ w (by show 1<=w.cps.size;rw[<- Array.length_toList,h];simp),h];rfl
  ·simp only[hc,decide_false,Bool.false_eq_true,if_false];rw[h];unfold gW;split
   ·next e=>simp only[List.cons.injEq] at e;exact absurd e.1 hc
   ·rfl
noncomputable def iP(C:Addr)(o:Option HO)(k:Addr->List (Str×V)->Prop)(_u:Tg k:=()):Prop:=match o with
 | some (.ins C' dx fs)=>C'=C/\k dx fs
 | _=>False
theorem k9{C:Addr}{o:Option HO}{k:Addr->List (Str×V)->Prop}(h:iP C o k):∃ dx fs,o=some (.ins C dx fs)/\k dx fs:=by
 unfold iP at h;split at h
 ·obtain⟨rfl,h⟩:=h;exact⟨_,_,rfl,h⟩
 ·exact h.elim
noncomputable def Ol(C:Addr)(f:Str)(ta:TE):TE:=fun σ H Q=>ta σ H fun x H1=>aO x fun a=>iP C (H1 a) fun _ fs=>dE (fs.lookup f) fun v=>Q v H1
noncomputable def JX(C:Addr)(f:Str)(ta tv:TE):TS:=fun D σ H=>tv σ H fun y H1=>ta σ H1 fun x H2=>aO x fun a=>iP C (H2 a) fun dx fs=>fs.length < 1000/\D.nx σ (SM H2 a (.ins C dx (hZ f y fs)))
noncomputable def JP(C:Addr)(f:Str)(ta tv:TE):TS:=fun D σ H=>ta σ H fun x H1=>aO x fun a=>iP C (H1 a) fun _ fs=>dE (fs.lookup f) fun v=>tv σ H1 fun y H2=>dR v fun i=>dR y fun j=>iP C (H2 a) fun dx Vg=>Vg.length < 1000/\D.nx σ (SM H2 a (.ins C dx (hZ f (.int (i+j)) Vg)))
section
variable {X:Cx} {o e value:Expr} {f:Str} {pos pos' Wf:Pos} {ta tv:TE} {C:Addr}
theorem oH(c:Cls X.K C)(n:iR X.K C f)(he:PE X e ta)(hb:attributeBase e f X.env (eval e X.env)=eval e X.env:=by rfl):PE X (.Attribute e f pos) (Ol C f ta):=fun SK s σ H Q I h=>by
 refine Ht hb (thn (he SK s σ H _ I h) fun u s1 ⟨x,H1,I1,rx,q1⟩=>?_);obtain⟨a,rfl,q2⟩:=bC q1;obtain⟨dx,fs,ea,q3⟩:=k9 q2;obtain⟨v,l,q⟩:=gZ q3;obtain rfl:u=Value.ref a:=rx;exact tO I1 ea c n l fun u' s2 I2 ru=>⟨v,H1,I2,ru,q⟩
theorem zP(c:Cls X.K C)(n:iR X.K C f)(ha:PE X o ta)(hv:PE X value tv)(hs:swapsWith value (some (.Attribute o f pos')) pos.line X.env=pure false:=by rfl):PS X (.Assign [.Attribute o f pos'] value pos) (JX C f ta tv):=fun SK s σ H D I h=>by
 refine plainObj_wpAny_Assign_Attribute (thn (hv SK s σ H _ I h) fun u s1 ⟨y,H1,I1,ry,q⟩=>thn (ha SK s1 σ H1 _ I1 q) fun ov s2 ⟨x,H2,I2,rx,q1⟩=>?_) hs;obtain⟨a,rfl,q2⟩:=bC q1;obtain⟨dx,fs,ea,l,q3⟩:=k9 q2;obtain rfl:ov=Value.ref a:=rx;exact uS I2 ea c n l ry fun s3 I3=>⟨σ,_,I3,q3⟩
theorem rY(c:Cls X.K C)(n:iR X.K C f)(ha:PE X o ta)(hv:PE X value tv):PS X (.AugAssign (.Attribute o f Wf) .Add value pos) (JP C f ta tv):=fun SK s σ H D I h=>by
 refine wpAny_AugAssign_AttributeAny (thn (ha SK s σ H _ I h) fun ov s1 ⟨x,H1,I1,rx,q1⟩=>?_);obtain⟨a,rfl,q2⟩:=bC q1;obtain⟨dx,fs,ea,q3⟩:=k9 q2;obtain⟨v,l,q⟩:=gZ q3;obtain rfl:ov=Value.ref a:=rx;refine tO I1 ea c n l fun u s2 I2 ru=>thn (hv SK s2 σ H1 _ I2 q) fun w3 s3 ⟨y,H2,I3,ry,q4⟩=>?_;obtain⟨i,rfl,q5⟩:=dI q4;obtain⟨j,rfl,q6⟩:=dI q5;obtain⟨dx',Vg,ea',l',q7⟩:=k9 q6;refine thn (MP SK s3 σ H2 (.int i) (.int j) u w3 (fun z H3=>z=.int (i+j)/\H3=H2) I3 ru ry ⟨i,j,rfl,rfl,rfl,rfl⟩) fun w4 s4 ⟨z,H3,I4,rz,ez,eH⟩=>?_;subst ez eH;exact uS I4 ea' c n l' rz fun s5 I5=>⟨σ,_,I5,q7⟩
end
section
variable {C a dx:Addr} {fs:List (Str×V)} {k:Addr->List (Str×V)->Prop} {m f:Str} {sp:Sp} {E:XK} {ta tv:TE} {t:TA} {σ:St} {H:Hp} {Q:VK} {D:Ends} {v u:V} {r:List (Str×V)}
theorem Cz{k:Addr->List (Str×V)->Prop}{u:Tg k}:@iP C (some (.ins C dx fs)) k u=k dx fs:=by simp[iP]
theorem OY:Ol C f ta σ H Q=ta σ H fun x H1=>aO x fun a=>iP C (H1 a) fun _ fs=>dE (fs.lookup f) fun v=>Q v H1:=rfl
theorem Mq:JX C f ta tv D σ H=tv σ H fun y H1=>ta σ H1 fun x H2=>aO x fun a=>iP C (H2 a) fun dx fs=>fs.length < 1000/\D.nx σ (SM H2 a (.ins C dx (hZ f y fs))):=rfl
theorem Lj:JP C f ta tv D σ H=ta σ H fun x H1=>aO x fun a=>iP C (H1 a) fun _ fs=>dE (fs.lookup f) fun v=>tv σ H1 fun y H2=>dR v fun i=>dR y fun j=>iP C (H2 a) fun dx Vg=>Vg.length < 1000/\D.nx σ (SM H2 a (.ins C dx (hZ f (.int (i+j)) Vg))):=rfl
theorem Md:C0 C m sp [] E ta t σ H Q=ta σ H fun x H1=>aO x fun a=>iP C (H1 a) fun _ fs=>fs.lookup m=none/\t σ H1 fun vs H2=>sp (.ref a::vs) H2 Q E:=by
 unfold C0
 congr 1
 funext x H1;refine propext ⟨fun⟨a,dx,fs,e,e1,l,h⟩=>?_,fun h=>?_⟩
 ·subst e;show iP C (H1 a) _;rw[e1,Cz];simp only[List.append_nil] at h;exact⟨l,h⟩
 ·obtain⟨a,rfl,h⟩:=bC h;obtain⟨dx,fs,e1,l,h⟩:=k9 h;exact⟨a,dx,fs,rfl,e1,l,by simpa only[List.append_nil] using h⟩
theorem Mc:GS C sp [] E t σ H Q=t σ H fun vs H1=>∀ x dx,H1 x=none->H1 dx=none->dx≠x->sp (.ref x::vs) (SM (SM H1 dx (.own x)) x (.ins C dx [])) (fun v H2=>v=.SR/\Q (.ref x) H2) E:=by
 unfold GS;simp only[List.append_nil]
theorem Gb{x y:String}:(Str.ofString x=Str.ofString y)=(x=y):=fE
theorem E5{x y:String}:List.lookup (Str.ofString x) ((Str.ofString y,v)::r)=if x=y then some v else List.lookup (Str.ofString x) r:=by
 by_cases h:x=y
 ·subst h;simp[List.lookup]
 ·have:(Str.ofString x==Str.ofString y)=false:=beq_eq_false_iff_ne.mpr fun z=>h (Gb▸z);simp only[List.lookup,this,if_neg h]
theorem Ds{x:Str}:List.lookup x ([]:List (Str×V))=none:=rfl
theorem Mn{x y:String}:hZ (Str.ofString x) u ((Str.ofString y,v)::r)=if y=x then (Str.ofString y,u)::r else (Str.ofString y,v)::hZ (Str.ofString x) u r:=by
 rw[show hZ (Str.ofString x) u ((Str.ofString y,v)::r)=(if Str.ofString y=Str.ofString x then (Str.ofString y,u)::r else (Str.ofString y,v)::hZ (Str.ofString x) u r) from rfl];by_cases h:y=x
 ·rw[if_pos h,if_pos (by rw[h])]
 ·rw[if_neg h,if_neg fun z=>h (Gb▸z)]
theorem Im{x:Str}:hZ x u []=[(x,u)]:=rfl
end
noncomputable def JK:List V->Option (List String)
 | []=>some []
 | .ty T::r=>(JK r).map (T::·)
 | _=>none
noncomputable def C5(Ts:List String):Obj:={cls:=.type "tuple",data:=.seq (Ts.map Value.type).toArray}
noncomputable def QM(t:TA):TE:=fun σ H Q=>t σ H fun xs H1=>dE (JK xs) fun Ts=>xs.length<=sizeLine/\∀ p,H1 p=none->Q (.ref p) (SM H1 p (.Tn (C5 Ts) (.tup xs)))
noncomputable def P2:Option HO->Option String
 | some (.tup _)=>some "tuple"
 | some (.lst _)=>some "list"
 | _=>none
noncomputable def J4(H:Hp):V->Option String
 | .int _=>some "int"
 | .str _=>some "str"
 | .SR=>some "NoneType"
 | .bl _=>some "bool"
 | .ref p=>P2 (H p)
 | _=>none
noncomputable def P0:String->String->Bool
 | "int","int"=>true
 | "bool","int"=>true
 | "str","str"=>true
 | "tuple","tuple"=>true
 | "list","list"=>true
 | _,_=>false
noncomputable def Ou:List V->Hp->VK->Prop:=fun vs H Q=>on2 vs fun x y=>aO y fun p=>∃ Ts xs,H p=some (.Tn (C5 Ts) (.tup xs))/\(Ts=["int","str"]\/Ts=["list","tuple"])/\dE (J4 H x) fun kd=>Q (.bl (Ts.any (P0 kd))) H
section
variable {X:Cx}
end
section
variable {H:Hp} {Q:VK} {x:V} {p:Addr} {σ:St} {t:TA} {vs:List V} {i:Int} {z:Str} {b:Bool}
theorem MF:QM t σ H Q=t σ H fun xs H1=>dE (JK xs) fun Ts=>xs.length<=sizeLine/\∀ p,H1 p=none->Q (.ref p) (SM H1 p (.Tn (C5 Ts) (.tup xs))):=rfl
theorem MG{S T:String}:JK [.ty S,.ty T]=some [S,T]:=rfl
theorem LS:Ou [x,.ref p] H Q = ∃ Ts xs,H p=some (.Tn (C5 Ts) (.tup xs))/\(Ts=["int","str"]\/Ts=["list","tuple"])/\dE (J4 H x) fun kd=>Q (.bl (Ts.any (P0 kd))) H:=rfl
end
mutual
theorem vD.mono{K:q0B}{H:Hp}:∀ {n m:Nat} {x y:V} {b:Bool},vD K H n x y b->n<=m->vD K H m x y b
 | _,_,_,_,_,.flat a b,_=>.flat a b
 | _,_,_,_,_,.same,_=>.same
 | _,_,_,_,_,.refs ne r,h=>.refs ne (rK.mono r h)
theorem rK.mono{K:q0B}{H:Hp}:∀ {n m:Nat} {a b:Addr} {r:Bool},rK K H n a b r->n<=m->rK K H m a b r
 | _,m+1,_,_,_,.list a b c d,h=>.list a b c fun j x y e1 e2=>vD.mono (d j x y e1 e2) (by omega)
 | _,m+1,_,_,_,.Tr a b c,_=>.Tr a b c
 | _,m+1,_,_,_,.tup a b d,h=>.tup a b fun j x y e1 e2=>vD.mono (d j x y e1 e2) (by omega)
 | _,0,_,_,_,.list _ _ _ _,h=>absurd h (by omega)
 | _,0,_,_,_,.Tr _ _ _,h=>absurd h (by omega)
 | _,0,_,_,_,.tup _ _ _,h=>absurd h (by omega)
end
theorem vD.pair{K:q0B}{H:Hp}{n:Nat}{a b:Addr}{xs ys:List V}(e1:H a=some (.tup xs))(e2:H b=some (.tup ys))(hl:xs.length=ys.length)(he:∀(j:Nat) (x y:V),xs[j]?=some x->ys[j]?=some y->vD K H n x y true):vD K H (n+1) (.ref a) (.ref b) true:=by
 by_cases h:a=b
 ·subst h;exact .same
 ·have:=rK.tup (K:=K) (H:=H) (n:=n) (e:=fun _=>true) (fS.of e1) (fS.of e2) he;rw[show((List.range (min xs.length ys.length)).all (fun _=>true)&&xs.length==ys.length)=true by rw[hl];simp[List.all_eq_true]] at this;exact .refs h this
theorem cO{a b:Str}:Bh (.str a) (.str b)=(a==b):=rfl
theorem eM{b:Str}:Bh .SR (.str b)=false:=rfl
theorem IA{a b:Int}:Bh (.int a) (.int b)=(a==b):=rfl
theorem GN{K:q0B}{H:Hp}{n:Nat}(x:Str):vD K H n (.str x) (.str x) true:=by
 have:=vD.flat (K:=K) (H:=H) (n:=n) (x:=.str x) (y:=.str x) rfl rfl
 rwa [show Bh (.str x) (.str x)=true by simp[cO]] at this
theorem Ft{K:q0B}{H:Hp}{n:Nat}(i:Int):vD K H n (.int i) (.int i) true:=by
 have:=vD.flat (K:=K) (H:=H) (n:=n) (x:=.int i) (y:=.int i) rfl rfl
 rwa [show Bh (.int i) (.int i)=true by simp[IA]] at this
section
variable {X:Cx} {SK:List (Addr×Obj)} {σ:St} {H:Hp} {s:Shared} {a:Addr} {o:Obj} {SN:List (Key×V)}
end
noncomputable def Kh(H₀:Hp)(D:Ends):Ends :=
 {nx:=fun σ H=>∃ a o SN,H a=some (.Tn o (.dK SN))/\(∀ ob u,H₀ a≠some (.Tn ob u))/\D.nx σ (SM H a (.dK SN))
  bk:=fun σ H=>∃ a o SN,H a=some (.Tn o (.dK SN))/\(∀ ob u,H₀ a≠some (.Tn ob u))/\D.bk σ (SM H a (.dK SN))
  ct:=fun σ H=>∃ a o SN,H a=some (.Tn o (.dK SN))/\(∀ ob u,H₀ a≠some (.Tn ob u))/\D.ct σ (SM H a (.dK SN))
  rt:=fun v H=>∃ a o SN,H a=some (.Tn o (.dK SN))/\(∀ ob u,H₀ a≠some (.Tn ob u))/\D.rt v (SM H a (.dK SN))}
noncomputable def QK(H₀:Hp)(t:TS):TS:=fun D σ H=>t (Kh H₀ D) σ H
noncomputable def Rq(ty td:TE):TE:=fun σ H Q=>ty σ H fun y H1=>td σ H1 fun x H2=>aO x fun a=>cI (H2 a) fun SN=>dE (kE y) fun k=>Q (.bl (cQ SN k).isSome) H2
noncomputable def KW(td ty:TE):TE:=fun σ H Q=>td σ H fun x H1=>aO x fun a=>cI (H1 a) fun _=>ty σ H1 fun y H2=>cI (H2 a) fun SN=>dE (kE y) fun k=>dE (cQ SN k) fun v=>Q v (SM H2 a (.dK (wQ SN k)))
noncomputable def KU(td ty tx:TE):TE:=fun σ H Q=>td σ H fun x H1=>aO x fun a=>cI (H1 a) fun _=>ty σ H1 fun y H2=>tx σ H2 fun z H3=>cI (H3 a) fun SN=>dE (kE y) fun k=>Q ((cQ SN k).getD z) H3
section
variable {X:Cx} {o e f:Expr} {apos SV:Pos} {td ty tx:TE}
noncomputable def Hw(td:TE):TE:=fun σ H Q=>td σ H fun x H1=>aO x fun a=>cI (H1 a) fun _=>Q .SR (SM H1 a (.dK []))
noncomputable def Og(td ty tx:TE):TE:=fun σ H Q=>td σ H fun x H1=>aO x fun a=>cI (H1 a) fun _=>ty σ H1 fun y H2=>tx σ H2 fun z H3=>cI (H3 a) fun SN=>dE (kE y) fun k=>SN.length < sizeLine /\
 (∀ v,cQ SN k=some v->Q v H3)/\(cQ SN k=none->Q z (SM H3 a (.dK (iY SN k z))))
end
section
variable {td ty tx:TE} {σ:St} {H H₀:Hp} {Q:VK} {t:TS} {D:Ends} {v:V}
theorem Mw:QK H₀ t D σ H=t (Kh H₀ D) σ H:=rfl
theorem Lv:Rq ty td σ H Q=ty σ H fun y H1=>td σ H1 fun x H2=>aO x fun a=>cI (H2 a) fun SN=>dE (kE y) fun k=>Q (.bl (cQ SN k).isSome) H2:=rfl
theorem HX:KW td ty σ H Q=td σ H fun x H1=>aO x fun a=>cI (H1 a) fun _=>ty σ H1 fun y H2=>cI (H2 a) fun SN=>dE (kE y) fun k=>dE (cQ SN k) fun v=>Q v (SM H2 a (.dK (wQ SN k))):=rfl
theorem EU:KU td ty tx σ H Q=td σ H fun x H1=>aO x fun a=>cI (H1 a) fun _=>ty σ H1 fun y H2=>tx σ H2 fun z H3=>cI (H3 a) fun SN=>dE (kE y) fun k=>Q ((cQ SN k).getD z) H3:=rfl
theorem ET:Hw td σ H Q=td σ H fun x H1=>aO x fun a=>cI (H1 a) fun _=>Q .SR (SM H1 a (.dK [])):=rfl
theorem HY:Og td ty tx σ H Q=td σ H fun x H1=>aO x fun a=>cI (H1 a) fun _=>ty σ H1 fun y H2=>tx σ H2 fun z H3=>cI (H3 a) fun SN=>dE (kE y) fun k=>SN.length < sizeLine/\(∀ v,cQ SN k=some v->Q v H3)/\(cQ SN k=none->Q z (SM H3 a (.dK (iY SN k z)))):=rfl
end
noncomputable def Oo:V->V->Hp->VK->Prop:=fun x y H Q=>aO x fun p=>dR y fun i=>bF (H p) fun xs=>dE (mP xs i) fun v=>Q v H
noncomputable def Rw:TIp:=fun x y H Q=>dR x fun i=>dR y fun j=>Q (.int (i+j)) H
section
variable {X:Cx}
end
noncomputable def QC(tab:List (Str×Sp))(tk:TE)(t:TA):TE:=fun σ H Q=>tk σ H fun y H1=>fN y fun x=>dE (tab.lookup x) fun sp=>t σ H1 fun vs H2=>sp vs H2 Q E0
section
variable {tab:List (Str×Sp)} {tk to ti te:TE} {t:TA} {σ:St} {H:Hp} {Q:VK} {D:Ends} {p:Addr} {i j:Int} {Vz:V->V->Hp->VK->Prop} {X1:TIp} {VA:TSet}
theorem Ls:QC tab tk t σ H Q=tk σ H fun y H1=>fN y fun x=>dE (tab.lookup x) fun sp=>t σ H1 fun vs H2=>sp vs H2 Q E0:=rfl
theorem LL:Oo (.ref p) (.int i) H Q=bF (H p) fun xs=>dE (mP xs i) fun v=>Q v H:=rfl
theorem O4:Rw (.int i) (.int j) H Q=Q (.int (i+j)) H:=rfl
theorem Lk:Qz to ti te Vz X1 VA D σ H=to σ H fun o H1=>ti σ H1 fun i H2=>Vz o i H2 fun x H3=>te σ H3 fun y H4=>X1 x y H4 fun z H5=>VA o i z H5 fun H6=>D.nx σ H6:=rfl
theorem OR{i:Nat}{ti:TIp}:Sh i te ti D σ H = ∃ x,σ[i]?=some (some x)/\te σ H fun y H1=>ti x y H1 fun z H2=>D.nx (σ.set i (some z)) H2:=rfl
end
noncomputable def intKeys:List (Key×V)->Option (List Int)
 | []=>some []
 | (.inl i,_)::r=>(intKeys r).map (i::·)
 | _=>none
theorem dU.there{P:Program}{w:World}{H:Hp}{h:Heap}{a:Addr}{o:HO}(x:dU P w H h a o):∃ ob,h.get? a=some ob:=by
 cases o with
 | lst xs=>obtain⟨_,_,_,_,e⟩:=x;exact⟨_,e⟩
 | tup xs=>obtain⟨_,_,_,o,e,_⟩:=x;exact⟨_,e⟩
 | dK SN=>obtain⟨_,_,_,_,o,_,_,e,_⟩:=x;exact⟨_,e⟩
 | dT SN=>obtain⟨_,_,_,_,o,_,_,e,_⟩:=x;exact⟨_,e⟩
 | set S n=>obtain⟨o,_,_,_,e,_⟩:=x;exact⟨_,e⟩
 | ins C dx fs=>obtain⟨_,_,_,e,_⟩:=x;exact⟨_,e⟩
 | own y=>obtain⟨_,e⟩:=x;exact⟨_,e⟩
 | xd fs=>obtain⟨_,⟨_,_,_,e,_⟩,_⟩:=x;exact⟨_,e⟩
 | XY lo hi=>obtain⟨_,_,_,e⟩:=x;exact⟨_,e⟩
 | Tn ob u=>obtain⟨e,_⟩:=x;exact⟨_,e⟩
 | VR ps=>exact⟨_,(show h.get? a=some _ from x)⟩
 | met f y=>exact⟨_,(show h.get? a=some _ from x)⟩
 | ext φ=>obtain⟨_,⟨_,e⟩,_⟩:=x;exact⟨_,e⟩
noncomputable def K9:List V->Hp->VK->Prop:=fun vs H Q=>on1 vs fun x=>aO x fun p=>cI (H p) fun SN=>dE (intKeys SN) fun ns=>ns.length < 64/\∀(l:Addr) (Wb:List Int),H l=none->Wb.Perm ns->Wb.Pairwise (·<=·)->Q (.ref l) (SM H l (.lst (Wb.map V.int)))
section
variable {H:Hp} {Q:VK} {p:Addr}
theorem Ir:K9 [.ref p] H Q=cI (H p) fun SN=>dE (intKeys SN) fun ns=>ns.length < 64/\∀(l:Addr) (Wb:List Int),H l=none->Wb.Perm ns->Wb.Pairwise (·<=·)->Q (.ref l) (SM H l (.lst (Wb.map V.int))):=rfl
end
section
variable {X:Cx} {SK:List (Addr×Obj)} {σ:St} {H:Hp} {s:Shared} {h':Heap}
end
noncomputable def SOk(t:Bool)(h:Heap)(a:Addr)(us:Array Value):Prop:=match t with
 | true=>h.IsTuple a us
 | false=>h.IsList a us
noncomputable def SIter(t:Bool)(h:Heap)(it a:Addr)(i:Nat):Prop:=match t with
 | true=>h.IsTupleIter it a i
 | false=>h.IsListIter it a i
theorem SOk.keep{t:Bool}{h h':Heap}{a:Addr}{us:Array Value}(x:SOk t h a us)(e:∀ o,h.get? a=some o->h'.get? a=some o):SOk t h' a us:=by
 cases t<;>(obtain⟨o,ho,r⟩:=x;exact⟨o,e o ho,r⟩)
theorem SIter.keep{t:Bool}{h h':Heap}{it a:Addr}{i:Nat}(x:SIter t h it a i)(e:∀ o,h.get? it=some o->h'.get? it=some o):SIter t h' it a i:=by
 cases t<;>(obtain⟨o,ho,r⟩:=x;exact⟨o,e o ho,r⟩)
theorem SIter.obj{t:Bool}{h:Heap}{it a:Addr}{i:Nat}(x:SIter t h it a i):∃ o,h.get? it=some o/\∀ v,o.data≠.cell v:=by
 cases t<;>(obtain⟨o,ho,c,d⟩:=x;exact⟨o,ho,fun v z=>by rw[d] at z;cases z⟩)
section
variable {prog:Program} {w:World} {A:Around} {E:q0A} {s:Shared}
end
section
variable {prog:Program} {w:World} {A:Around} {E:q0A} {s:Shared}
end
noncomputable def D8(K:q0B)(t:Bool)(H:Hp)(a:Addr)(xs:List V):Prop:=match t with
 | true=>fS K H a xs
 | false=>dS K H a xs
section
variable {X:Cx} {SK:List (Addr×Obj)} {σ:St} {H:Hp} {s:Shared} {a:Addr} {xs ys:List V} {t:Bool}
end
noncomputable def Itz(K:q0B)(t u:Bool)(a b:Addr):It :=
  ⟨fun i H=>∃ xs ys x y,D8 K t H a xs/\D8 K u H b ys/\xs[i]?=some x/\ys[i]?=some y,
   fun i H v H'=>∃ p x y,H p=none/\v=.ref p/\H'=SM H p (.tup [x,y])/\(∀ xs,D8 K t H a xs->xs[i]?=some x)/\∀ ys,D8 K u H b ys->ys[i]?=some y,
   fun i H=>∃ xs ys,D8 K t H a xs/\D8 K u H b ys/\(xs.length<=i\/ys.length<=i)⟩
noncomputable def Ite(K:q0B)(a:Addr):It :=
  ⟨fun i H=>∃ xs x,dS K H a xs/\xs[i]?=some x,fun i H v H'=>∃ p x,H p=none/\v=.ref p/\H'=SM H p (.tup [.int i,x])/\∀ xs,dS K H a xs->xs[i]?=some x,
   fun i H=>∃ xs,dS K H a xs/\xs.length<=i⟩
section
variable {X:Cx} {elts:List Expr} {k:Nat} {tp:Pos}
noncomputable def MO(K:q0B)(ta:TA):TI:=fun σ H R=>ta σ H fun vs H1=>on2 vs fun x y=>aO x fun a=>aO y fun b=>∃ t u,(∃ xs,D8 K t H1 a xs)/\(∃ ys,D8 K u H1 b ys)/\R (Itz K t u a b) H1
noncomputable def MM(K:q0B)(ta:TA):TI:=fun σ H R=>ta σ H fun vs H1=>on1 vs fun x=>aO x fun a=>(∃ xs,dS K H1 a xs)/\R (Ite K a) H1
end
section
variable {σ:St} {H:Hp} {D:Ends} {g:TG} {tb:TS} {as:TA} {K:q0B}
theorem LJ:qK (MO K as) g tb D σ H=as σ H fun vs H1=>on2 vs fun x y=>aO x fun a=>aO y fun b=>∃ t u,(∃ xs,D8 K t H1 a xs)/\(∃ ys,D8 K u H1 b ys)/\lp (Itz K t u a b) g tb D σ H1:=rfl
theorem LF:qK (MM K as) g tb D σ H=as σ H fun vs H1=>on1 vs fun x=>aO x fun a=>(∃ xs,dS K H1 a xs)/\lp (Ite K a) g tb D σ H1:=rfl
end
structure Cn(X:Cx)(sc:Scope)(cl:List (Str×Addr))(x y0:Str)(fr:List Nat)(N:List Str):Prop where
 kind:sc.kind=.function
 uA:∀ y∈sc.names,y.2≠.cell
 names:∀ y∈sc.names,y.2=.local->sc.names.lookup y.1=some .local
 Br:closureFor sc X.env=pure cl
 sub:∀ y c,cl.lookup y=some c->X.env.cells.lookup y=some c
 has:∀ y,((relabel sc X.env).names.lookup y=some .cell\/(relabel sc X.env).names.lookup y=some .free)->∃ c,cl.lookup y=some c
 Vj:sc.names.lookup x=some .local
 QP:sc.names.lookup y0=some .local
 nd:N.Nodup
 N0:N=x::y0::fr.map fun j=>X.N.getD j x
 VY:∀ j∈fr,∃ y,X.N[j]?=some y/\X.env.kindOf y=some .cell/\((relabel sc X.env).names.lookup y=some .cell\/(relabel sc X.env).names.lookup y=some .free)
section
variable {X:Cx} {SK:List (Addr×Obj)} {σ:St} {H:Hp} {s:Shared} {sc:Scope} {cl:List (Str×Addr)} {C:Addr} {x y0:Str} {fr:List Nat} {N:List Str} {fp:List Addr}
end
@[irreducible] def Aa(K:q0B)(wi:TI)(fr:List Nat)(tc:TT)(te:TE):TE:=fun σ H Q=>wi σ H fun J H1=>∃ W:Nat->Nat->List V->Hp->Prop,(∃ m,W 0 m [] H1)/\∀ i m xs H,W i m xs H->xs.length<=1000000 /\
  ((J.stop i H/\∀ p,H p=none->Q (.ref p) (SM H p (.lst xs))) \/
   (J.go i H/\∀ v H',J.yld i H v H'->∃ p y y2,v=.ref p/\fS K H' p [y,y2]/\tc (some y::some y2::bE fr σ) H' fun b H2=>if b=true then te (some y::some y2::bE fr σ) H2 (fun z H3=>∃ m',m' < m/\W (i+1) m' (xs++[z]) H3) else ∃ m',m' < m/\W (i+1) m' xs H2))
section
variable {X:Cx} {sc:Scope} {cl:List (Str×Addr)} {x y0:Str} {fr:List Nat} {N:List Str} {elt iter:Expr} {px py tp pos:Pos} {tk:Nat} {ifs:List Expr} {wi:TI} {tc:TT} {te:TE}
end
theorem Cn.of{X:Cx}{sc:Scope}{cl:List (Str×Addr)}{x y0:Str}{fr:List Nat}{N M:List Str}(S:gG X sc cl x fr M)(QP:sc.names.lookup y0=some .local)(nd:N.Nodup)(N0:N=x::y0::fr.map fun j=>X.N.getD j x):Cn X sc cl x y0 fr N :=
 ⟨S.kind,S.uA,S.names,S.Br,S.sub,S.has,S.Vj,QP,nd,N0,S.VY⟩
noncomputable def lc2(K:q0B)(J:It)(fr:List Nat)(tc:TT)(te:TE)(σ:St)(H:Hp)(Q:VK):Prop:=∃ W:Nat->Nat->List V->Hp->Prop,(∃ m,W 0 m [] H)/\∀ i m xs H,W i m xs H->xs.length<=1000000 /\
  ((J.stop i H/\∀ p,H p=none->Q (.ref p) (SM H p (.lst xs))) \/
   (J.go i H/\∀ v H',J.yld i H v H'->∃ p y y2,v=.ref p/\fS K H' p [y,y2]/\tc (some y::some y2::bE fr σ) H' fun b H2=>if b=true then te (some y::some y2::bE fr σ) H2 (fun z H3=>∃ m',m' < m/\W (i+1) m' (xs++[z]) H3) else ∃ m',m' < m/\W (i+1) m' xs H2))
section
variable {fr:List Nat} {tc:TT} {te:TE} {σ:St} {H:Hp} {Q:VK} {as:TA} {K:q0B}
theorem EL:Aa K (MO K as) fr tc te σ H Q=as σ H fun vs H1=>on2 vs fun x y=>aO x fun a=>aO y fun b=>∃ t u,(∃ xs,D8 K t H1 a xs)/\(∃ ys,D8 K u H1 b ys)/\lc2 K (Itz K t u a b) fr tc te σ H1 Q:=by
 unfold Aa MO;rfl
theorem EK:Aa K (MM K as) fr tc te σ H Q=as σ H fun vs H1=>on1 vs fun x=>aO x fun a=>(∃ xs,dS K H1 a xs)/\lc2 K (Ite K a) fr tc te σ H1 Q:=by
 unfold Aa MM;rfl
end
inductive nH:List DictEntry->List (Key×V)->Prop
 | nil:nH [] []
 | cons {h:Int} {x:Str} {t:Tok} {u:Value} {v:V} {es:List DictEntry} {SN:List (Key×V)}:bJ v u->nH es SN->nH ({hash:=h,key:=.str x t,val:=u}::es) ((.inr x,v)::SN)
noncomputable def Ep(d:Addr)(SN:List (Key×V)):List V->Hp->VK->Prop:=fun vs H Q=>vs=[.ref d]/\∀ p,H p=none->Q (.ref p) (SM H p (.dK SN))
theorem nH.vals{P:Program}{w:World}{es:List DictEntry}{SN:List (Key×V)}(h:nH es SN):∃ vs:List (Key×Value),KV SN vs/\Pairs (eU P w) es vs:=by
 induction h with
 | nil=>exact⟨[],.nil,.nil⟩
 | @cons h x t u v es SN r _ ih =>
  obtain⟨vs,a,b⟩:=ih;exact⟨(.inr x,u)::vs,.cons ⟨rfl,r⟩ a,.cons (qV P w x t) rfl b⟩
theorem HV{d:Addr}{SN:List (Key×V)}{H:Hp}{Q:VK}:Ep d SN [.ref d] H Q = ∀ p,H p=none->Q (.ref p) (SM H p (.dK SN)):=by simp[Ep]
noncomputable def IM:Option HO->Option Bool
 | some (.lst _)=>some true
 | some (.tup _)=>some false
 | _=>none
noncomputable def JS:List V->Hp->VK->Prop:=fun vs H Q=>on2 vs fun x y=>aO x fun p=>y=.ty "list"/\dE (IM (H p)) fun b=>Q (.bl b) H
section
variable {X:Cx}
noncomputable def Ox(K:q0B):List V->Hp->VK->Prop:=fun vs H Q=>on1 vs fun x=>aO x fun p=>∃ xs,fS K H p xs/\Q (.int xs.length) H
variable {o:Expr} {to:TE} {apos SV:Pos}
noncomputable def Hy(to:TE):TE:=fun σ H Q=>to σ H fun x H1=>aO x fun a=>bF (H1 a) fun _=>Q .SR (SM H1 a (.lst []))
end
section
variable {H:Hp} {Q:VK} {p:Addr} {σ:St} {to:TE} {vs:List V}
theorem LU:JS [.ref p,.ty "list"] H Q=dE (IM (H p)) fun b=>Q (.bl b) H:=by
 unfold JS on2;simp only[aO,true_and]
theorem Mb{K:q0B}:Ox K [.ref p] H Q = ∃ xs,fS K H p xs/\Q (.int xs.length) H:=rfl
theorem O7:IM (some (.lst vs))=some true:=rfl
theorem O8:IM (some (.tup vs))=some false:=rfl
theorem E4:Hy to σ H Q=to σ H fun x H1=>aO x fun a=>bF (H1 a) fun _=>Q .SR (SM H1 a (.lst [])):=rfl
theorem Pe{a b:Bool}:Jt (.bl a) (.bl b) H Q=Q (.bl (!decide (a=b))) H:=by simp only[Jt,show scal (.bl a) (.bl b)=true from rfl,V.bl.injEq,true_and]
end
noncomputable def RH(K:q0B):List V->Hp->VK->Prop:=fun vs H Q=>on1 vs fun x=>aO x fun p=>∃ ns:List Int,dS K H p (ns.map V.int)/\∀ z:Int,Q (.int z) H
noncomputable def Of(K:q0B):R2:=fun x y H Q=>aO x fun a=>aO y fun b=>∃ xs ys,dS K H a xs/\dS K H b ys/\xs.length+ys.length<=sizeLine/\∀ p,H p=none->Q (.ref p) (SM H p (.lst (xs++ys)))
section
variable {X:Cx}
end
section
variable {K:q0B} {H:Hp} {Q:VK} {p a b:Addr}
theorem PH:RH K [.ref p] H Q = ∃ ns:List Int,dS K H p (ns.map V.int)/\∀ z:Int,Q (.int z) H:=rfl
theorem Ln:Of K (.ref a) (.ref b) H Q = ∃ xs ys,dS K H a xs/\dS K H b ys/\xs.length+ys.length<=sizeLine/\∀ p,H p=none->Q (.ref p) (SM H p (.lst (xs++ys))):=rfl
end
section
variable {X:Cx} {sc:Scope} {cl:List (Str×Addr)} {x y0:Str} {fr:List Nat} {N:List Str} {elt iter:Expr} {px px0 tp pos:Pos} {tk:Nat} {ifs:List Expr} {wi:TI} {tc:TT} {te:TE}
end
section
variable {a b:TS} {D:Ends} {σ:St} {H:Hp}
theorem bB(h:∀ R:St->Hp->Prop,(∀ σ' H',b D σ' H'->R σ' H')->a {D with nx:=R} σ H):NO a b D σ H:=h (b D) fun _ _ x=>x
theorem EG{tb:TS}{i:Nat}{v:V}(h:tb D (σ.set i (some v)) H):Az i v σ H fun σ2 H2=>tb D σ2 H2:=h
theorem Dv{K:q0B}{a:Addr}{xs:List V}{g:TG}{tb:TS}(Pv:Nat->St->Hp->Prop)(h0:Pv 0 σ H)(hl:∀ i σ H,i<=xs.length->Pv i σ H->dS K H a xs)
    (hs:∀(D':Ends) i x σ H,D'.nx=Pv (i+1)->xs[i]?=some x->Pv i σ H->g x σ H fun σ2 H2=>tb D' σ2 H2) (hd:∀ σ H,Pv xs.length σ H->D.nx σ H):lp (UE K a) g tb D σ H :=
  Ay Pv h0 hl (fun i x σ H e p=>hs _ i x σ H rfl e p) hd
end
section
variable {td ty tv:TE} {trs:List (TE×TE)} {tk:TE} {σ:St} {H:Hp} {Q:VK} {D:Ends}
theorem Te.tt{a b:Addr}{SN:List (List Key×V)}{k:List Key}(e:H a=some (.dT SN))(eb:H b=some (.tup (k.map kV))):Te H a (.ref b) (cQ SN k):=Te.t e eb
end
section
variable {P:Program} {W:World} {A:Around} {E:q0A} {s:Shared} {dd it:Addr} {es:Array DictEntry} {ep i:Nat}
noncomputable def sD(h:Heap)(dd:Addr)(es:Array DictEntry)(ep:Nat):Prop:=∃ o,h.get? dd=some o/\o.ExactDict/\o.data=.dict es ep
theorem sD.ty(x:sD s.heap dd es ep):s.TypeIs (.ref dd) "dict":=let ⟨o,e,c,_⟩:=x;⟨o,e,c.1⟩
theorem sD.to{h h':Heap}(x:sD h dd es ep)(k:∀ o,h.get? dd=some o->h'.get? dd=some o):sD h' dd es ep:=let ⟨o,e,r⟩:=x;⟨o,k _ e,r⟩
theorem sD.lt{h:Heap}(x:sD h dd es ep):dd < h.objs.size:=let ⟨_,e,_⟩:=x;Heap.lt_size e
end
section
open PySem.W
inductive sE{α:Type}(n:Nat)(R:α->Prop):KasT α->Prop
 | ret {a:α}:R a->sE n R (.ret a)
 | ask {i j:Nat} {k:Bool->KasT α}:i < n->j < n->(∀ b,sE n R (k b))->sE n R (.ask i j k)
theorem sE.bind{α β:Type}{n:Nat}{R:α->Prop}{S:β->Prop}{t:KasT α}{f:α->KasT β}(h:sE n R t)(g:∀ a,R a->sE n S (f a)):sE n S (t.bind f):=by
 induction h with
 | ret x=>exact g _ x
 | ask i j _ ih=>exact .ask i j ih
noncomputable def Pm(n:Nat)(p:Array Nat):Prop:=p.Perm (List.toArray (List.range n))
variable {n:Nat} {p:Array Nat}
theorem Pm.get(h:Pm n p)(hn:0 < n)(i:Nat):p.getD i 0 < n:=by
 by_cases hi:i < p.size
 ·have m:p[i]∈p:=Array.getElem_mem hi;have:=h.mem_iff.mp m;simp only[List.mem_toArray,List.mem_range] at this;simpa[Array.getD,hi] using this
 ·simpa[Array.getD,hi] using hn
end
section
open PySem.W
variable {P:Program} {W:World} {A:Around} {E:q0A} {s:Shared}
noncomputable def Pr2(h:Heap)(v:Value):Prop:=∃ a o x y t u c,v=.ref a/\h.get? a=some o/\o.cls=.type "tuple"/\o.data=.seq #[.int x t,.int y u] c
theorem Pr2.to{h h':Heap}{v:Value}(x:Pr2 h v)(k:∀ b o,h.get? b=some o->h'.get? b=some o):Pr2 h' v:=by
 obtain⟨a,o,x,y,t,u,c,e,g,r⟩:=x;exact⟨a,o,x,y,t,u,c,e,k _ _ g,r⟩
end
theorem KT.at{H:Hp}{SN:List (List Key×V)}{xs:List (List Key×Addr×Value)}(r:KT H SN xs):∀ {j:Nat} {x:List Key×Addr×Value},xs[j]?=some x->∃ kv,SN[j]?=some kv/\H x.2.1=some (.tup (kv.1.map kV)):=by
 induction r with
 | nil=>intro j x e;simp at e
 | cons h _ ih =>
  intro j x e;cases j with
  | zero=>simp only[List.getElem?_cons_zero,Option.some.injEq] at e;subst e;exact⟨_,rfl,h.2.1⟩
  | succ j=>exact ih (by simpa using e)
theorem KT.len{H:Hp}{SN:List (List Key×V)}{xs:List (List Key×Addr×Value)}(r:KT H SN xs):SN.length=xs.length:=by
 induction r with
 | nil=>rfl
 | cons _ _ ih=>simp[ih]
section
variable {P:Program} {W:World} {A:Around} {E:q0A} {s:Shared} {a b:Addr} {es fs:Array DictEntry} {ep fp:Nat}
end
section
variable {X:Cx} {tg:Expr}
end
section
variable {σ:St} {H:Hp} {D:Ends} {g:TG} {tb:TS} {as:TA} {Q:VK} {a b:Addr} {p:Addr}
end
section
variable {H:Hp} {Q:VK} {x:V} {p:Addr} {i:Int} {z:Str}
end
section
variable {X:Cx} {a b:Expr} {rest:List Expr} {pos:Pos} {ta tb:TE}
end
section
variable {X:Cx}
end
theorem FY:fillsNumberSlot (.type "tuple") "mul"=pure false:=PySem.fillsNumberSlot_seq (r:=some (.builtin "tuple.__rmul__")) PySem.F.slot_tuple_mul.lookup (by decide +kernel) PySem.F.slot_tuple_rmul.lookup (by decide +kernel)
theorem Jv:seqRepeat? (.type "tuple")=pure (some (.builtin "tuple.__mul__")):=by
 have h1:=PySem.seqSlot_of (T:="tuple") (name:="__mul__") PySem.F.slot_tuple_mul.lookup (by decide +kernel);have h2:=PySem.seqSlot_of (T:="tuple") (name:="__rmul__") PySem.F.slot_tuple_rmul.lookup (by decide +kernel);unfold seqRepeat?;rw[h1,h2];rfl
theorem Gy(a:Int)(t:Tok)(l:Addr)(dd:Option Addr)(SQ:Array Value)(n:Nat)(sl:Array (Option Value)):Meets (Builtin.«int.__rmul__» ⟨[.int a t,.ref l],[]⟩) (fun _ R s=>s.heap.get? l=some ⟨.type "tuple",dd,.seq SQ n,sl⟩/\R (.ok (.ret Value.notImplemented)) s) :=
 .of_wp fun prog w A R s h=>by
  obtain⟨hp,g,d,tk,os⟩:=s;obtain⟨hl,h⟩:=h;wp_walk;exact⟨_,rfl,h⟩
theorem FV(l:Addr)(dd:Option Addr)(SQ:Array Value)(n:Nat)(sl:Array (Option Value))(t:Tok):Meets (Builtin.«tuple.__mul__» ⟨[.ref l,.int 1 t],[]⟩) (fun _ R s=>s.heap.get? l=some ⟨.type "tuple",dd,.seq SQ n,sl⟩/\R (.ok (.ret (.ref l))) s) :=
 .of_wp fun prog w A R s h=>by
  obtain⟨hp,g,d,tk,os⟩:=s;obtain⟨hl,h⟩:=h;have f1:=AutoSeq1.idx_int;wp_walk using wpAny_loadPart' hl;exact⟨_,rfl,h⟩
theorem FU(l:Addr)(dd:Option Addr)(SQ:Array Value)(n:Nat)(sl:Array (Option Value))(t:Tok)(hc:¬ SQ.isEmpty=true):Meets (Builtin.«tuple.__mul__» ⟨[.ref l,.int 0 t],[]⟩) (fun _ R s=>s.heap.get? l=some ⟨.type "tuple",dd,.seq SQ n,sl⟩/\R (.ok (.ret (.ref s.heap.objs.size))) {s with heap:=s.heap.push {cls:=.type "tuple",data:=.seq #[]}}) :=
 .of_wp fun prog w A R s h=>by
  obtain⟨hp,g,d,tk,os⟩:=s;obtain⟨hl,h⟩:=h;have f1:=AutoSeq1.idx_int;wp_walk using wpAny_loadPart' hl;exact⟨_,rfl,h⟩
section
variable {X:Cx}
end
section
variable {σ:St} {H:Hp} {Q:VK} {ta tb:TE} {l a:Addr} {i:Int}
end
structure Fl(P:Program)(w:World)(base:Heap)(outer:List Env)(H:Hp)(s:Shared)(H':Hp)(x:Addr)(cls:Value)(s':Shared):Prop where
 os:s'.os=s.os
 bare:AllBare s'.gens
 un:Un (frs outer) [] H H' s.heap s'.heap
 SS:HOk P w H' s'.heap
 UH:∃ B a0,Heap.FlyingW B outer x cls a0 s'.heap/\base.StaysIn B/\(∀ a o,H' a=some o->∃ ob,B.get? a=some ob) /\
  (∀ b o,s.heap.get? b=some o->H b=none->b∉frs outer->B.get? b=some o)/\∀ b o,s.heap.get? b=some o->b∉frs outer->∃ ob,B.get? b=some ob
 nx:H' x=none
noncomputable def S9(P:Program)(w:World)(base:Heap):CXT:=fun outer H s E e s'=>∃ x cls H',e=.ref x/\Fl P w base outer H s H' x cls s'/\E cls none H'
section
variable {P:Program} {w:World} {K:q0B} {mg:q0C} {base:Heap} {N:List Str} {qual:Str} {scope:Scope} {f:Addr} {cd:Value} {A:Around} {outer:List Env} {s0 s s':Shared} {H0 H H':Hp} {E:XK} {SK:List (Addr×Obj)} {σ:St} {x:Addr} {cls a0:Value} {B h':Heap}
theorem HOk.Fg(x:HOk P w H' s'.heap)(b0:B.StaysIn s'.heap)(b1:B.StaysIn h')(b2:∀ a o,H' a=some o->∃ ob,B.get? a=some ob):HOk P w H' h':=fun a o e =>
  (x a o e).zX (fun b u hb q=>by
    obtain⟨ob,UX⟩:∃ ob,B.get? b=some ob:=by
      rcases hb with rfl|hb
      · exact b2 _ _ e
      · exact b2 _ _ hb
    have:=b0 b ob UX;rw[q] at this;cases this;exact b1 b _ UX) (fun _ q=>q) fun _ _ q=>q
theorem Fl.out(I:SO (mB (S9 P w base) P w K mg base N qual scope f cd A outer s0 H0 E) SK σ H' s)(hs:∀ b o,s.heap.get? b=some o->(∀ vs,o.data≠.fields vs)->∃ sl,h'.get? b=some {o with slots:=sl})
    (fl:Heap.FlyingW B outer x cls a0 h') (bs:base.StaysIn B) (b2:∀ a o,H' a=some o->∃ ob,B.get? a=some ob) (SS:HOk P w H' h')
    (b3:∀ b o,s0.heap.get? b=some o->H0 b=none->b∉frs outer->B.get? b=some o) (b4:∀ b o,s0.heap.get? b=some o->b∉frs outer->∃ ob,B.get? b=some ob) (nx:H' x=none) :
    Fl P w base outer H0 s0 H' x cls {s with heap:=h'}:=by
  have slot:∀ b o,s0.heap.get? b=some o->H0 b=none->b∈frs outer->∃ sl,h'.get? b=some {o with slots:=sl}:=fun b o q n hb=>by
    obtain⟨sl,e⟩:=I.base.slot b o q n hb (by intro z;cases z);obtain⟨_,o',Ta,hn⟩:=I.mC.mem hb;rw[e] at Ta;cases Ta;obtain⟨We,e'⟩:=hs b _ e hn;exact⟨We,e'⟩
  refine⟨I.os,I.bare,⟨fun b o q n hb _=>fl.1 b o (b3 b o q n hb),fun b o q n hb _=>slot b o q n hb,fun b o q n _=>I.base.free b o q n (by intro z;cases z),fun b o q _=>?_,I.base.lM,I.base.kD,I.base.lK⟩,SS,⟨B,a0,fl,bs,b2,b3,b4⟩,nx⟩;by_cases hb:b∈frs outer
  · obtain⟨_,o',Ta,_⟩:=fl.2.2.1.mem hb;exact⟨o',Ta⟩
  · obtain⟨ob,UX⟩:=b4 b o q hb;exact⟨ob,fl.1 b ob UX⟩
theorem CC{env:Env}{L b:Addr}(h:env.frame=some L)(hb:b∈frs (env::outer)):b=L\/b∈frs outer:=by
 unfold frs at hb;rw[List.filterMap_cons,h] at hb;exact List.mem_cons.mp hb
theorem pass1{E1:XK}(h:∀ cls od G,E1 cls od G->E cls od G):Passes (S9 P w base) (mB (S9 P w base) P w K mg base N qual scope f cd A outer s0 H0 E) E1:=by
 intro SK σ H s e s' I hx;obtain⟨x,cls,H',rfl,F,hE⟩:=hx;obtain⟨B,a0,UH,bs,b2,b3,b4⟩:=F.UH;have I':SO (mB (S9 P w base) P w K mg base N qual scope f cd A outer s0 H0 E) SK σ H' s':=I.Cs F.os F.un F.SS F.bare (by simp);have nL:∀ b o,s0.heap.get? b=some o->b∉frs outer->b∉frs (envOfC qual scope s0.heap.objs.size f cd::outer):=fun b o q hb z=>by
  rcases CC (L:=s0.heap.objs.size) rfl z with z|z
  ·exact absurd (Heap.lt_size q) (by rw[z];exact Nat.lt_irrefl _)
  ·exact hb z
 refine wpAny_leaves_onW (L:=s0.heap.objs.size) I.ok.frames rfl UH fun h' fl' up=>?_;refine⟨x,cls,H',rfl,Fl.out I' up fl' bs b2 (F.SS.Fg UH.1 fl'.1 b2) (fun b o q n hb=>?_) (fun b o q hb=>?_) F.nx,h _ _ _ hE⟩
 ·exact b3 b o (I.base.keep b o q n hb (by intro z;cases z)) (I.base.free b o q n (by intro z;cases z)) (nL b o q hb)
 ·obtain⟨o',Ta⟩:=I.base.there b o q (by intro z;cases z);exact b4 b o' Ta (nL b o q hb)
theorem raised1{args:List Value}(I:SO (mB (S9 P w base) P w K mg base N qual scope f cd A outer s0 H0 E) SK σ H s)(hx:Heap.MadeExcOf s.heap h' x cls args)(hE:E cls none H) :
    (mB (S9 P w base) P w K mg base N qual scope f cd A outer s0 H0 E).xe (.ref x) {s with heap:=h'}:=by
  have nL:∀ b o,s0.heap.get? b=some o->b∉frs outer->b∉frs (envOfC qual scope s0.heap.objs.size f cd::outer):=fun b o q hb z=>by
    rcases CC (L:=s0.heap.objs.size) rfl z with z|z
    · exact absurd (Heap.lt_size q) (by rw[z];exact Nat.lt_irrefl _)
    · exact hb z
  have Vy:=I.stack;have Uy:∀ env∈(envOfC qual scope s0.heap.objs.size f cd::outer),∀ b,env.frame=some b->b∈frs (envOfC qual scope s0.heap.objs.size f cd::outer):=fun env he b hb=>List.mem_filterMap.mpr ⟨env,he,hb⟩;have bs:base.StaysIn (PySem.W.hideAll s.heap (frs (envOfC qual scope s0.heap.objs.size f cd::outer))):=fun b o q=>PySem.W.hideAll_get _ (I.bk b o q) fun hm=>by
    have:base.get? b=none:=(Vy.mem hm).1;rw[q] at this;cases this
  have b2:∀ a o,H a=some o->∃ ob,(PySem.W.hideAll s.heap (frs (envOfC qual scope s0.heap.objs.size f cd::outer))).get? a=some ob:=fun a o e=>by
    obtain⟨ob,UX⟩:=(I.SS a o e).there;refine⟨ob,PySem.W.hideAll_get _ UX fun hm=>?_⟩;rw[I.zY a hm] at e;cases e
  have nx:H x=none:=by
    cases e:H x with
    | none=>rfl
    | some o =>
      obtain⟨ob,UX⟩:=(I.SS x o e).there;rw[hx.new] at UX;cases UX
  have I':SO (mB (S9 P w base) P w K mg base N qual scope f cd A outer s0 H0 E) SK σ H {s with heap:=h'}:=I.kept (t':=s.toks) fun b o e=>hx.keeps b o e;refine wpAny_leaves_madeW (L:=s0.heap.objs.size) (h:=s.heap) I.ok.frames rfl (fun b o q=>PySem.W.of_hideAll _ q) (PySem.W.funFrames_hide Vy Uy) hx fun h2 t fl _ _ up=>?_;refine⟨x,cls,H,rfl,Fl.out I' up fl bs b2 (I'.SS.Fg (fun b o q=>hx.keeps b o (PySem.W.of_hideAll _ q)) fl.1 b2) (fun b o q n hb=>?_) (fun b o q hb=>?_) nx,hE⟩
  · exact PySem.W.hideAll_get _ (I.base.keep b o q n hb (by intro z;cases z)) (nL b o q hb)
  · obtain⟨o',Ta⟩:=I.base.there b o q (by intro z;cases z);exact⟨o',PySem.W.hideAll_get _ Ta (nL b o q hb)⟩
end
noncomputable def FR(K:q0B)(C:Addr)(l:List Value):Bool:=match K.lookup C with
 | some ob=>(match ob.data with
  | .cls cd=>cd.mro==l
  | _=>false)
 | none=>false
noncomputable abbrev gT:List Value:=[.type "ValueError",.type "Exception",.type "BaseException",.type "object"]
structure XCls(K:q0B)(C:Addr)(bm:List Value):Prop where
 ok:PySem.W.excIn K C gT "ValueError.__new__"=true
 mro:FR K C (.ref C::bm)=true
theorem XCls.obj{K:q0B}{h:Heap}{C:Addr}{bm:List Value}(x:XCls K C bm)(X:K.In h):∃ N nm q bs hdct sn sub ab col dd k0 k1 k2 k3 k5 mN,h.get? C=some (excClassObj nm q C N bs bm hdct sn sub ab col dd k0 k1 k2 k3 k5 "ValueError.__new__")/\h.Ns N mN/\mN "__init__"=none/\OwnTail h gT bm:=by
 obtain⟨ok,mro⟩:=x;unfold FR at mro;unfold PySem.W.excIn at ok;split at ok
 ·next dct cdt slt lk =>
  rw[lk] at mro;have e1:=X C _ lk;split at ok
  ·next D l a0 a1 a2 a3 idn a5 e2 e3 =>
   simp only[Bool.and_eq_true,beq_iff_eq,Bool.not_eq_true'] at ok mro;obtain⟨⟨⟨⟨⟨rfl,rfl⟩,o3⟩,o4⟩,o5⟩,o6⟩:=ok;rw[e2] at mro;cases mro;obtain⟨c1,c2,c3,c4,c5,c6,c7,c8,c9,c10,c11⟩:=cdt;simp only at e2 o3 o5 o6;subst e2 o3;obtain⟨ls⟩:=slt;simp only at e3;subst e3;exact⟨c4,c1,c5,c2,c6,c7,c8,c9,c10,dct,a0,a1,a2,a3,a5,_,e1,.of_isNs (PySem.W.isNs_of_in X o5),PySem.W.nsMap_none_of_in X o5 o6,PySem.W.tail_of_in X o4⟩
  ·cases ok
 ·cases ok
noncomputable def Throws(X:Cx)(E:XK):Prop:=∀(SK:List (Addr×Obj)) (σ:St) (H:Hp) (s:Shared) (x:Addr) (cls:Value) (args:List Value) (h':Heap),SO X SK σ H s->Heap.MadeExcOf s.heap h' x cls args->E cls none H->X.xe (.ref x) {s with heap:=h'}
theorem throws1{P:Program}{w:World}{K:q0B}{mg:q0C}{base:Heap}{N:List Str}{qual:Str}{scope:Scope}{f:Addr}{cd:Value}{A:Around}{outer:List Env}{s0:Shared}{H0:Hp}{E:XK}:Throws (mB (S9 P w base) P w K mg base N qual scope f cd A outer s0 H0 E) E :=
 fun _ _ _ _ _ _ _ _ I hx hE=>raised1 I hx hE
noncomputable def GY(C:Addr)(E:XK)(t:TA):TS:=fun _ σ H=>t σ H fun vs H1=>vs.length<=100/\E (.ref C) none H1
theorem cU{X:Cx}{x:Str}{C:Addr}{bm:List Value}{E:XK}{e:Expr}{es:List Expr}{t:TA}{np SV pos:Pos}(hX:Throws X E)(hc:X.calm=true)(hg:Gl X x)(hm:X.mg x=some (.ref C))(xc:XCls X.K C bm)(ha:PA X (e::es) t)
    (Ug:(x==("__debug__":Str))=false:=by decide) (he:starEach (e::es) X.env=(false,eval e X.env)::starEach es X.env:=by rfl) (TQ:(backTo SV (starEach (e::es) X.env)).any (·.1)=false:=by rfl) (hb:backTo SV (starEach (e::es) X.env)=(false,eval e X.env)::backTo SV (starEach es X.env):=by rfl) :
    PS X (.Raise (some (.Call (.Name x np) (e::es) [] SV)) none pos) (GY C E t):=by
  intro SK s σ H D I h;obtain⟨N,nm,q,bs,hdct,sn,sub,ab,col,dd,k0,k1,k2,k3,k5,mN,c1,c2,c3,c4⟩:=xc.obj I.ok.mod.kin;refine wpAny_Raise_call_subU (C:=C) (N:=N) (nm:=nm) (q:=q) (bs:=bs) (bm:=bm) (hdct:=hdct) (sn:=sn) (sub:=sub) (ab:=ab) (col:=col) (dd:=dd) (k0:=k0) (k1:=k1) (k2:=k2) (k3:=k3) (k5:=k5) (mN:=mN) (bmB:=gT) PySem.F.excBase_ValueError (by rfl) PySem.F.excBase_ValueError (c4.hasType (by rfl)) (I.ok.hd hc) TQ c3 (lY I hg hm ⟨rfl,?_⟩ Ug);have key:=thn (ha SV SK s σ H _ I h) (Q':=fun vs s'=>vs.length<=sizeLine/\s'.heap.get? C=some (excClassObj nm q C N bs bm hdct sn sub ab col dd k0 k1 k2 k3 k5 "ValueError.__new__")/\s'.heap.Ns N mN/\OwnTail s'.heap gT bm/\∀ h' e,Heap.MadeExcOf s'.heap h' e (.ref C) vs->X.xe (.ref e) {s' with heap:=h'})
    fun vs s1 ⟨ws,H1,I1,r,l,q1⟩=>⟨by rw[<- r.length];exact Nat.le_trans l (by decide),I1.bk _ _ c1,c2.keeps I1.bk,c4.keeps I1.bk,fun h' e hm=>hX _ _ _ _ _ _ _ _ I1 hm q1⟩
  rw[hb] at key ⊢;exact PySem.Calls.evalArgs_plain (thn key fun vs s1 ⟨a,b,c,d,e⟩=>⟨rfl,a,b,c,d,e⟩)
noncomputable def vE(x C:Addr):HO:=.ext fun h=>∃ oe vs,h.get? x=some oe/\oe.cls=.ref C/\oe.data=.fields vs
noncomputable abbrev Cx.sui(X:Cx)(x:Addr):Cx:={X with A:=X.A.mark (some (.ref x)),calm:=false,xe:=fun _ _=>False}
section
variable {X:Cx} {SK:List (Addr×Obj)} {σ:St} {H H':Hp} {s s':Shared} {x C:Addr} {h':Heap}
theorem Cx.Ok.sui(ok:X.Ok)(x:Addr):(X.sui x).Ok :=
 ⟨ok.mod,ok.kind,ok.glob,ok.blt,ok.above,ok.inj,ok.has,ok.cab,(fun z=>by cases z),ok.frames,ok.Vy,ok.exf,ok.bs,ok.bsz,ok.BL,ok.Du,ok.mC,ok.frf⟩
theorem SO.sui(I:SO X SK σ H s)(x:Addr):SO (X.sui x) SK σ H s:=⟨I.ok.sui x,I.os,I.bare,I.base,I.loc,I.cell,I.free,I.iO,I.pin,I.SS,I.len⟩
theorem SO.QR(ok:X.Ok)(I:SO (X.sui x) SK σ H s):SO X SK σ H s:=⟨ok,I.os,I.bare,I.base,I.loc,I.cell,I.free,I.iO,I.pin,I.SS,I.len⟩
theorem SO.QQ{o:HO}(I:SO X SK σ H s)(h0:X.s₀.heap.get? x=none)(hn:H x=none)(nL:x≠X.env.locals)(nC:∀ y c,X.env.cells.lookup y=some c->c≠x)(nP:∀ p∈X.pn++SK,p.1≠x)(new:dU X.prog X.w (SM H x o) s.heap x o):SO X SK σ (SM H x o) s:=by
 have ne:∀ b ob,X.s₀.heap.get? b=some ob->b≠x:=fun b ob e z=>by rw[z,h0] at e;cases e
 have nt:∀ b u,H b=some u->b≠x:=fun b u e=>aX e hn;refine⟨I.ok,I.os,I.bare,⟨I.base.keep,I.base.slot,fun b ob e n hx=>by rw[aY (ne b ob e)];exact I.base.free b ob e n hx,I.base.there,fun b xs e=>by have:=I.base.lM b xs e;rw[aY (nt b _ this)];exact this,fun b ob u e=>by have:=I.base.kD b ob u e;rw[aY (nt b _ this)];exact this,fun b ps e=>by
  obtain⟨m,q⟩:=I.base.lK b ps e;exact⟨m,by rw[aY (nt b _ q)];exact q⟩⟩,I.loc,I.cell,by rw[aY nL.symm];exact I.free,fun y c e=>by rw[aY (nC y c e)];exact I.iO y c e,fun p hp=>?_,fun b u e=>?_,I.len⟩
 ·obtain⟨a,b,c⟩:=I.pin p hp;exact⟨a,by rw[aY (nP p hp)];exact b,c⟩
 ·by_cases hb:b=x
  ·subst hb;rw[aB] at e;cases e;exact new
  ·rw[aY hb] at e;exact(I.SS b u e).zX (fun _ _ _ q=>q) (fun c q=>by rw[aY (nt c _ q)];exact q) fun c xs q=>by rw[aY (nt c _ q)];exact q
theorem SO.gone{j:Nat}{y:Str}{m:q0C}{v:Option Value}{t':Nat}(I:SO X SK σ H s)(hN:X.N.Nodup)(hj:X.N[j]?=some y)(hm:s.heap.Ns X.env.locals m)(hn:h'.Ns X.env.locals (fun z=>if z=y then v else m z))(hs:Heap.SameBut X.env.locals s.heap h') :
    SO X SK (σ.set j none) H {s with heap:=h',toks:=t'}:=by
  obtain⟨m',XM,hl⟩:=id I.loc;obtain⟨oL,_,_,hoL,_⟩:=id hm;have up:∀ b ob,X.s₀.heap.get? b=some ob->b≠X.env.locals:=fun b ob e=>Nat.ne_of_lt (Nat.lt_of_lt_of_le (Heap.lt_size e) I.ok.above);have em:m'=m:=by
    obtain⟨o1,es1,ep1,a1,a2,_,a4⟩:=XM;obtain⟨o2,es2,ep2,b1,b2,_,b4⟩:=hm;rw[a1] at b1;cases b1;rw[a2] at b2;cases b2;funext z;rw[<- a4,<- b4]
  subst em;refine⟨I.ok,I.os,I.bare,⟨fun b o e n hb hx=>(hs.2 b (up b o e)).trans (I.base.keep b o e n hb hx),fun b o e n hb hx=>?_,I.base.free,fun b o e hx=>?_,I.base.lM,I.base.kD,I.base.lK⟩,⟨_,hn,fun i z w e1 e2 e3=>?_⟩,fun z c e=>?_,I.free,I.iO,fun p hp=>?_,fun b ob e=>?_,by simpa using I.len⟩
  · obtain⟨sl,q⟩:=I.base.slot b o e n hb hx;exact⟨sl,(hs.2 b (up b o e)).trans q⟩
  · obtain⟨o',q⟩:=I.base.there b o e hx;exact⟨o',(hs.2 b (up b o e)).trans q⟩
  · have hi:i≠j:=fun z=>by
      subst z;by_cases Tu:i < σ.length
      · rw[List.getElem?_set_self Tu] at e2;cases e2
      · rw[List.getElem?_eq_none (by simpa using Tu)] at e2;cases e2
    rw[List.getElem?_set_ne (Ne.symm hi)] at e2;obtain⟨u,r,q⟩:=hl i z w e1 e2 e3;refine⟨u,r,?_⟩;rcases q with⟨k,q⟩|⟨k,c,q1,q2⟩
    · refine .inl ⟨k,?_⟩;show(if z=y then v else m' z)=some u;rw[if_neg (fun zy:z=y=>hi (uB hN e1 (by rw[zy];exact hj)))];exact q
    · exact .inr ⟨k,c,q1,q2.sameBut hs (I.Vm z c q1)⟩
  · obtain⟨w,q⟩:=I.cell z c e;exact⟨w,q.sameBut hs (I.Vm z c e)⟩
  · obtain⟨a,b,c,d⟩:=I.pin p hp;exact⟨(hs.2 p.1 c).trans a,b,c,d⟩
  · refine(I.SS b ob e).zX (fun c u hc q=>(hs.2 c ?_).trans q) (fun _ q=>q) fun _ _ q=>q;rintro rfl;rcases hc with rfl|hc
    · rw[I.free] at e;cases e
    · rw[I.free] at hc;cases hc
end
theorem Fl.move{P:Program}{w:World}{base:Heap}{outer:List Env}{H:Hp}{s:Shared}{H':Hp}{x:Addr}{cls:Value}{s':Shared}(F:Fl P w base outer H s H' x cls s'){B h':Heap}{a0:Value}(UH:Heap.FlyingW B outer x cls a0 s'.heap)(bs:base.StaysIn B)(b2:∀ a o,H' a=some o->∃ ob,B.get? a=some ob)
    (b3:∀ b o,s.heap.get? b=some o->H b=none->b∉frs outer->B.get? b=some o) (b4:∀ b o,s.heap.get? b=some o->b∉frs outer->∃ ob,B.get? b=some ob) (UQ:Heap.FlyingW B outer x cls a0 h') (up:s'.heap.UpToSlots h'):Fl P w base outer H s H' x cls {s' with heap:=h'}:=by
  refine⟨F.os,F.bare,⟨fun b o q n hb _=>UQ.1 b o (b3 b o q n hb),fun b o q n hb hx=>?_,F.un.free,fun b o q hx=>?_,F.un.lM,F.un.kD,F.un.lK⟩,F.SS.Fg UH.1 UQ.1 b2,⟨B,a0,UQ,bs,b2,b3,b4⟩,F.nx⟩
  · obtain⟨sl,e⟩:=F.un.slot b o q n hb hx;obtain⟨_,o',Ta,hn⟩:=UH.2.2.1.mem hb;rw[e] at Ta;cases Ta;obtain⟨We,e'⟩:=up b _ e hn;exact⟨We,e'⟩
  · by_cases hb:b∈frs outer
    · obtain⟨_,o',Ta,_⟩:=UQ.2.2.1.mem hb;exact⟨o',Ta⟩
    · obtain⟨ob,UX⟩:=b4 b o q hb;exact⟨ob,UQ.1 b ob UX⟩
section
variable {M:Model} {A:Around} {E:q0A} {h:Heap} {g:Array GenState} {d:Drawn} {t:Nat} {os:OsState}
theorem Dt{Q:Bool->Shared->Prop}{e C D:Addr}{oe:Obj}{nm q nm' q':Str}{N N':Addr}{bs bm bs' bm':List Value}{hdct VL:Bool}{sn sn':List Str}{sub Xg:List Value}{ab ab':Bool}{col WB:Option Bool}{dd dd':Option Addr}{k0 k1 k2 k3 k5 j0 j1 j2 j3 j5:Option Value}{i1 i2:String}
    (hC:h.get? C=some (excClassObj nm q C N bs bm hdct sn sub ab col dd k0 k1 k2 k3 k5 i1)) (hD:h.get? D=some (excClassObj nm' q' D N' bs' bm' VL sn' Xg ab' WB dd' j0 j1 j2 j3 j5 i2)) (he:h.get? e=some oe) (V3:oe.cls=.ref C)
    (hb:(Value.ref D::bm').contains (.type "BaseException")=true) (hs:(Value.ref C::bm).contains (.ref D)=true) (hq:Q true ⟨h,g,d,t,os⟩):wpAny M A (excMatches (.ref e) (.ref D)) Q E ⟨h,g,d,t,os⟩:=by
  have f:=tc_notTuple;unfold excMatches
  repeat (first|(with_reducible refine wpAny_loadPart_at he ?_;rw[V3])|with_reducible refine wpAny_loadPart_at hD ?_|(with_reducible refine wpAny_isSubtype_exc hD ?_;rw[hb])|(with_reducible refine wpAny_isSubtype_exc hC ?_;rw[hs])|wp_step)
  exact hq
end
section
variable {X:Cx} {SK:List (Addr×Obj)} {σ:St} {H H':Hp} {s s':Shared} {x C Dc:Addr} {bm WA:List Value} {j:Nat} {n cx:Str} {b0:Stmt} {Td:List Stmt} {np hp:Pos} {ts:TS} {D0:Ends}
noncomputable abbrev CT(D0:Ends)(j:Nat):Ends:={nx:=fun σ' G=>D0.nx (σ'.set j none) G,rt:=fun _ _=>False}
theorem caught1(I:SO X SK σ H s)(F:Fl X.prog X.w X.base X.stack H s H' x (.ref C) s')(TF:X.stack=X.env::X.outer/\X.env.frame=some X.env.locals)(hN:X.N.Nodup)(hj:X.N[j]?=some n)(hl:X.env.kindOf n=some .local)(hg:Gl X cx)(hm:X.mg cx=some (.ref Dc))(xC:XCls X.K C bm)(xD:XCls X.K Dc WA)
    (WJ:(Value.ref C::bm).contains (.ref Dc)=true) (WX:TN (X.sui x) (b0::Td) ts) (q:ts (CT D0 j) (σ.set j (some (.ref x))) (SM H' x (vE x C))) (Ug:(cx==("__debug__":Str))=false) (hex:X.ex=[]) :
    wpAny (model X.prog X.w) X.A (noteFrame (.ref x) X.env) (fun _ s₂=>wpAny (model X.prog X.w) X.A (setFlight (.ref x) none) (fun _ s₃=>wpAny (model X.prog X.w) X.A (handleBy (.ref x) X.env [.ExceptHandler (some (.Name cx np)) (some n) (b0::Td) hp]) (SP X SK D0) X.xe s₃) X.xe s₂) X.xe s':=by
  obtain⟨B,a0,UH,bs,b2,b3,b4⟩:=F.UH;obtain⟨N,nm,q1,Yq,hdct,sn,sub,ab,col,dd,k0,k1,k2,k3,k5,mN,c1,c2,c3,c4⟩:=xC.obj I.ok.mod.kin;obtain⟨N',nm',q2,bs2,VL,sn',Xg,ab',WB,dd',j0,j1,j2,j3,j5,mN',d1,d2,d3,d4⟩:=xD.obj I.ok.mod.kin;have fl0:Heap.FlyingW B (X.env::X.outer) x (.ref C) a0 s'.heap:=by rw[<- TF.1];exact UH
  refine wpAny_looks_onW (L:=X.env.locals) (by rw[I.ok.frames,TF.1]) TF.2 fl0 fun h4 held up4=>?_;refine wpAny_landsW held fun h5 VX up5=>?_;have fl5:Heap.FlyingW B X.stack x (.ref C) a0 h5:=by rw[TF.1];exact VX
  have F5:=F.move UH bs b2 b3 b4 fl5 (up4.trans up5);have I5:SO X SK σ H' {s' with heap:=h5}:=I.Cs F5.os F5.un F5.SS F5.bare (by simp);obtain⟨oe,hoe,XO⟩:=VX.there;refine wpAny_handleBy_cons (codeAny_handlers_test (lY (X:=X.sui x) (I5.sui x) hg hm ?_ Ug)) (by intro z;cases z);refine Dt (I5.bk _ _ c1) (I5.bk _ _ d1) hoe XO (by rw[List.contains_cons,show WA.contains (Value.type "BaseException")=true from d4.hasType (by rfl),Bool.or_true]) WJ ?_;refine codeAny_handlers_suite_as ?_;refine lands_againW VX fun h6 WG up6=>?_;have fl6:Heap.FlyingW B X.stack x (.ref C) a0 h6:=by rw[TF.1];exact WG
  have F6:=F5.move fl5 bs b2 b3 b4 fl6 up6;have I6:SO X SK σ H' {s' with heap:=h6}:=I.Cs F6.os F6.un F6.SS F6.bare (by simp);obtain⟨oe6,vs6,_,_,_,Y9,Y7,hd6,_⟩:=id WG.2.2.2;have nf:x∉frs X.stack:=fun z=>by
    obtain⟨_,o',Ta,Zj⟩:=fl6.2.2.1.mem z;rw[Y9] at Ta;cases Ta;exact Zj _ hd6
  have nB:∀ b ob,s.heap.get? b=some ob->b≠x:=fun b ob e z=>by
    subst z;obtain⟨o',Ta⟩:=b4 b ob e nf;rw[UH.2.1] at Ta;cases Ta
  have It:SO X SK σ (SM H' x (vE x C)) {s' with heap:=h6}:=by
    refine I6.QQ ?_ F.nx ?_ (fun y c e z=>?_) (fun p hp z=>?_) ?_
    · cases e:X.s₀.heap.get? x with
      | none=>rfl
      | some o0 =>
        have h0:x∉X.ex:=by rw[hex];exact List.not_mem_nil
        obtain⟨o',Ta⟩:=I.base.there x o0 e h0;exact absurd rfl (nB x o' Ta)
    · intro z;exact nf (by rw[TF.1,z];unfold frs;rw[List.filterMap_cons,TF.2];exact List.mem_cons_self)
    · obtain⟨v,o1,ho1,_⟩:=I.cell y c e;exact nB c o1 ho1 z
    · exact nB p.1 p.2 (I.pin p hp).1 z
    · exact⟨⟨oe6,vs6,Y9,Y7.1,hd6⟩,⟨oe6,Y9⟩,fun h1 h2 ⟨o1,v1,a1,a2,a3⟩ k=>⟨o1,v1,k _ a1,a2,a3⟩⟩
  refine oR (X:=X.sui x) (i:=j) (v:=.ref x) (It.sui x) hN hj (.inl hl) rfl (fun s6 Is=>?_) (.inr hl);refine wpAny_mono (WX SK s6 _ _ _ Is q) (fun f s7 hs=>?_) (fun _ _ z=>z.elim);cases f with
  | next =>
    obtain⟨σ',H'',J,q'⟩:=hs;have J':=J.QR I.ok;obtain⟨m,XM,_⟩:=id J'.loc;exact wpAny_nameGoes_keeps hl XM (by rw[I.ok.kind];rfl) fun h8 v hn hs=>⟨σ'.set j none,H'',J'.gone hN hj XM hn hs,q'⟩
  | ret u=>obtain⟨_,_,_,_,_,z⟩:=hs;exact z.elim
  | brk=>obtain⟨_,_,_,z⟩:=hs;exact z.elim
  | cont=>obtain⟨_,_,_,z⟩:=hs;exact z.elim
end
noncomputable def G0(sp:Sp)(Th:List V)(t:TA)(i j:Nat)(C:Addr)(ts:TS):TS:=fun D σ H=>t σ H fun vs H1=>sp (vs++Th) H1 (fun v H2=>D.nx (σ.set i (some v)) H2) fun cls _ H2=>cls=.ref C/\∀ x,H2 x=none->ts (CT D j) (σ.set j (some (.ref x))) (SM H2 x (vE x C))
section
variable {X:Cx} {k:Nat} {f C Dc:Addr} {fd:FuncData} {ps:List Str} {sp:Sp} {Th:List V} {ds:List Value} {bm WA:List Value} {i j:Nat} {y n cx fx:Str} {b0:Stmt} {Td:List Stmt} {np hp yp fp cp ap pos:Pos} {ts:TS} {e:Expr} {es:List Expr} {t:TA}
noncomputable abbrev J1(X:Cx)(SK:List (Addr×Obj))(cx n:Str)(b0:Stmt)(Td:List Stmt)(np hp:Pos)(D0:Ends):Value->Shared->Prop:=fun e s₁=>wpAny (model X.prog X.w) X.A (noteFrame e X.env) (fun _ s₂=>wpAny (model X.prog X.w) X.A (setFlight e none) (fun _ s₃=>wpAny (model X.prog X.w) X.A (handleBy e X.env [.ExceptHandler (some (.Name cx np)) (some n) (b0::Td) hp]) (SP X SK D0) X.xe s₃) X.xe s₂) X.xe s₁
theorem G9{SK:List (Addr×Obj)}{σ:St}{H:Hp}{s:Shared}{Q:VK}{D0:Ends}(F:bL X.prog X.w X.K X.mg X.base (S9 X.prog X.w X.base) k f fd ps sp)(hr:Room k X.A)(Zc:Gl X fx)(Zi:X.mg fx=some (.ref f))(hk:PySem.W.keepIn X.K (.ref f)=true)(hb:Binds X.K fd ps ds)(hd:Vals Th ds)
    (ha:∀ E,PA (X.nF E) (e::es) t) (TF:X.stack=X.env::X.outer/\X.env.frame=some X.env.locals) (hN:X.N.Nodup) (hj:X.N[j]?=some n) (hl:X.env.kindOf n=some .local) (hg:Gl X cx) (hm:X.mg cx=some (.ref Dc)) (xC:XCls X.K C bm) (xD:XCls X.K Dc WA) (WJ:(Value.ref C::bm).contains (.ref Dc)=true) (WX:∀ x,TN (X.sui x) (b0::Td) ts)
    (Vp:(fx==("__debug__":Str))=false) (Ug:(cx==("__debug__":Str))=false) (hex:X.ex=[]) (he:starEach (e::es) X.env=(false,eval e X.env)::starEach es X.env) (TQ:(backTo cp (starEach es X.env)).any (·.1)=false) (I:SO X SK σ H s)
    (h:t σ H fun vs H1=>sp (vs++Th) H1 Q fun cls _ H2=>cls=.ref C/\∀ x,H2 x=none->ts (CT D0 j) (σ.set j (some (.ref x))) (SM H2 x (vE x C))) :
    wpAny (model X.prog X.w) X.A (eval (.Call (.Name fx fp) (e::es) [] cp) X.env) (EP X SK σ Q) (J1 X SK cx n b0 Td np hp D0) s:=by
  refine wpAny_Call_Name_kw (lY I Zc Zi ?_ Vp);refine PySem.W.callWith_K (h₀:=X.base) I.ok.mod.kin hk (thn (ha (J1 X SK cx n b0 Td np hp D0) cp SK s σ H _ (I.nF _) h) fun us s1 ⟨vs,H1,I1,r,q⟩=>⟨I1.g7.kIn,?_⟩) he TQ;have I1:=I1.g7;have r2:Vals (vs++Th) (us++ds):=r.append hd;have hlen:(us++ds).length=ps.length:=by rw[<- r2.length];exact F.len _ _ _ _ q
  refine wpAny_call (codeAny_mono (F.run X.A X.stack s1 H1 ⟨us,[]⟩ (us++ds) (vs++Th) _ _ hr I1.MH (hb s1 us I1.kIn hlen) r2 q) fun r s' hq=>?_);cases r with
  | error e1 =>
    obtain⟨x,cls,H',rfl,Fx,rfl,hts⟩:=hq;exact caught1 I1 Fx TF hN hj hl hg hm xC xD WJ (WX x) (hts x Fx.nx) Ug hex
  | ok fl =>
    cases fl with
    | ret u=>exact I1.after hq
    | next=>exact False.elim hq
    | brk=>exact False.elim hq
    | cont=>exact False.elim hq
theorem Jo(F:bL X.prog X.w X.K X.mg X.base (S9 X.prog X.w X.base) k f fd ps sp)(hr:Room k X.A)(Zc:Gl X fx)(Zi:X.mg fx=some (.ref f))(hk:PySem.W.keepIn X.K (.ref f)=true)(hb:Binds X.K fd ps ds)(hd:Vals Th ds)
    (ha:∀ E,PA (X.nF E) (e::es) t) (hN:X.N.Nodup) (hi:X.N[i]?=some y) (hy:Loc X.env.scope y) (hj:X.N[j]?=some n) (hg:Gl X cx) (hm:X.mg cx=some (.ref Dc)) (xC:XCls X.K C bm) (xD:XCls X.K Dc WA) (WJ:(Value.ref C::bm).contains (.ref Dc)=true) (WX:∀ x,TN (X.sui x) (b0::Td) ts)
    (hl:X.env.kindOf n=some .local:=by rfl) (TF:X.stack=X.env::X.outer/\X.env.frame=some X.env.locals:=by exact⟨rfl,rfl⟩) (Vp:(fx==("__debug__":Str))=false:=by decide) (Ug:(cx==("__debug__":Str))=false:=by decide) (hex:X.ex=[]:=by rfl) (he:starEach (e::es) X.env=(false,eval e X.env)::starEach es X.env:=by rfl) (TQ:(backTo cp (starEach es X.env)).any (·.1)=false:=by rfl)
    (hs:swapsWith (.Call (.Name fx fp) (e::es) [] cp) (some (.Name y yp)) ap.line X.env=pure false:=by rfl) (hf:X.fn y=true\/X.env.scope.names.lookup y=some .local:=by first|exact .inl rfl|exact .inr rfl|assumption) :
    PS X (.Try [.Assign [.Name y yp] (.Call (.Name fx fp) (e::es) [] cp) ap] [.ExceptHandler (some (.Name cx np)) (some n) (b0::Td) hp] [] [] pos) (G0 sp Th t i j C ts):=by
  intro SK s σ H D I h;refine wpAny_Try_except (wpAny_execs_cons (wpAny_Assign_Name (thn (G9 (D0:=D) F hr Zc Zi hk hb hd ha TF hN hj hl hg hm xC xD WJ WX Vp Ug hex he TQ I h) fun v s1 ⟨z,H1,I1,r1,q1⟩=>?_) hs));exact oR I1 hN hi hy r1 (fun s2 I2=>wpAny_execs_nil (wpAny_execs_nil ⟨_,H1,I2,q1⟩)) hf
end
noncomputable def eX(K:q0B)(n:Str):List Value->Bool
 | .ref a::r=>(match K.lookup a with
  | some ob=>(match ob.data with
   | .cls cd=>PySem.W.nsIn K cd.ns n==some none
   | _=>false)
  | none=>false)&&eX K n r
 | _=>true
section
variable {K:q0B} {M:Model} {A:Around} {E:q0A} {h:Heap} {g:Array GenState} {d:Drawn} {t:Nat} {os:OsState} {n:Str} {y:Option Value} {Q:Option Value->Shared->Prop} {C:Addr} {bm:List Value}
theorem xS{a:Addr}{c0:Value}{dd:Option Addr}{cd:ClassData}{sl:Array (Option Value)}{mA:q0C}(X:K.In h)(ha:h.get? a=some {cls:=c0,dict:=dd,data:=.cls cd,slots:=sl})(hN:h.Ns cd.ns mA){r:List Value}(q:eX K n (.ref a::r)=true):mA n=none/\eX K n r=true:=by
 simp only[eX,Bool.and_eq_true] at q;refine⟨?_,q.2⟩;have q1:=q.1;split at q1
 ·next ob lk =>
  have e:=X _ _ lk;rw[ha] at e;cases e;simp only[beq_iff_eq] at q1;exact PySem.W.ns_none_of X hN q1
 ·cases q1
theorem BA{l:List Value}(X:K.In h)(T:OwnTail h gT l)(q:eX K n l=true)(hr:lookupAlong gT n=pure y)(hq:Q y ⟨h,g,d,t,os⟩):wpAny M A (lookupAlong l n) Q E ⟨h,g,d,t,os⟩:=by
 induction T with
 | base=>rw[hr];exact wpAny_pure hq
 | own hA hN _ _ ih =>
  obtain⟨q1,q2⟩:=xS X hA hN q;rw[lookupAlong_cons];unfold classOwn classData;refine wpAny_bind (wpAny_bind (wpAny_bind (wpAny_load hA (wpAny_pure (wpAny_nsGet hN ?_)))));rw[q1];exact ih q2
theorem Ce(xc:XCls K C bm)(X:K.In h)(q:eX K n (.ref C::bm)=true)(hB:typeLookup (.type "ValueError") n=pure y)(hv:mroOf (.type "ValueError")=pure gT)(hq:Q y ⟨h,g,d,t,os⟩):wpAny M A (typeLookup (.ref C) n) Q E ⟨h,g,d,t,os⟩:=by
 obtain⟨N,nm,q1,Yq,hdct,sn,sub,ab,col,dd,k0,k1,k2,k3,k5,mN,c1,c2,c3,c4⟩:=xc.obj X;have hr:lookupAlong gT n=pure y:=by rw[typeLookup_eq,hv] at hB;exact hB
 rw[typeLookup_eq];refine wpAny_bind (wpAny_mroOf_exc c1 ?_);obtain⟨e1,e2⟩:=xS X c1 c2 q;rw[lookupAlong_cons];refine wpAny_bind (wpAny_classOwn_exc c1 c2 ?_);rw[e1];exact BA X c4 e2 hr hq
end
section
variable {K:q0B} {prog:Program} {w:World} {A:Around} {E:q0A} {h:Heap} {g:Array GenState} {d:Drawn} {t:Nat} {os:OsState} {C a:Addr} {bm:List Value} {o:Obj}
theorem vB(xc:XCls K C bm)(X:K.In h)(T:String)(b:Bool)(hb:gT.contains (.type T)=b){M:Model}{Q:Bool->Shared->Prop}(hq:Q b ⟨h,g,d,t,os⟩):wpAny M A (isSubtype (.ref C) (.type T)) Q E ⟨h,g,d,t,os⟩:=by
 obtain⟨N,nm,q1,Yq,hdct,sn,sub,ab,col,dd,k0,k1,k2,k3,k5,mN,c1,c2,c3,c4⟩:=xc.obj X;refine wpAny_isSubtype_exc c1 ?_;rw[List.contains_cons,show bm.contains (Value.type T)=b from c4.hasType hb];cases b<;>exact hq
theorem vU:typeLookup (.type "ValueError") "__class__"=pure (some (.builtin "object.__class__")):=by rw[typeLookup_type,builtinLookup_eq_fast];kernel_rfl
theorem HE{R:Result->Shared->Prop}(xc:XCls K C bm)(X:K.In h)(hx:h.get? a=some o)(hc:o.cls=.ref C)(hq:R (.ok (.ret (.ref C))) ⟨h,g,d,t,os⟩) :
    codeAny (model prog w) A (.call (.builtin "getset_descriptor.__get__") ⟨[.builtin "object.__class__",.ref a,.ref C],[]⟩) R ⟨h,g,d,t,os⟩:=by
  have f1:(⟨h,g,d,t,os⟩:Shared).TypeIs (.builtin "object.__class__") "getset_descriptor":=F.typeOf_object_class;have f2:∀ {M:Model} {A:Around} {E:q0A} {Q:Bool->Shared->Prop},Q true ⟨h,g,d,t,os⟩->wpAny M A (isSubtype (.ref C) (.type (".".intercalate ("object.__class__".cutAt '.').dropLast))) Q E ⟨h,g,d,t,os⟩:=fun z=>by
    rw[F.owner_object_class];exact vB xc X "object" true (by rfl) z
  refine codeAny_call_builtin F.slot_gs_get.plain F.entry_gs_get (F.slot_gs_get.check _ _ _ _ _ _ _ _ f1 (F.args_gs_get _ _ _) ?_)
  repeat (any_goals (first|assumption|(with_reducible refine wpAny_loadPart_at hx ?_;rw[hc])|with_reducible refine f2 ?_|wp_step))
  refine⟨Code.quiet_builtin _ (by decide +kernel),codeAny_builtin F.entry_object_class ?_⟩
  repeat (any_goals (first|assumption|(with_reducible refine wpAny_loadPart_at hx ?_;rw[hc])|wp_step))
structure XQ(K:q0B)(C:Addr)(bm:List Value):Prop extends XCls K C bm where
 q1:eX K "__getattribute__" (.ref C::bm)=true
 q2:eX K "__getattr__" (.ref C::bm)=true
 q3:eX K "__class__" (.ref C::bm)=true
theorem Fh{M:Model}{nv:Value}{Q:Unit->Shared->Prop}(xc:XCls K C bm)(X:K.In h)(hx:h.get? a=some o)(hc:o.cls=.ref C)(hq:Q () ⟨h,g,d,t,os⟩):wpAny M A (checkBuiltinCall "BaseException.__getattribute__" ⟨[.ref a,nv],[]⟩) Q E ⟨h,g,d,t,os⟩:=by
 have k1:builtinKind "BaseException.__getattribute__"=some .slot:=by decide +kernel
 have k2:splitId "BaseException.__getattribute__"=some ("BaseException","__getattribute__"):=by decide +kernel
 have k3:=F.args_bexc_ga (.ref a) nv;have f2:∀ {M:Model} {A:Around} {E:q0A} {Q:Bool->Shared->Prop},Q true ⟨h,g,d,t,os⟩->wpAny M A (isSubtype (.ref C) (.type "BaseException")) Q E ⟨h,g,d,t,os⟩:=fun z=>vB xc X "BaseException" true (by rfl) z;simp only[checkBuiltinCall,k1,k2];refine wpAny_bind ?_;unfold isInstance
 repeat (first|(with_reducible refine wpAny_loadPart_at hx ?_;rw[hc])|with_reducible refine f2 ?_|wp_step)
 exact hq
theorem Dl{tk:Tok}{Q:Fin->Shared->Prop}(xc:XQ K C bm)(X:K.In h)(hx:h.get? a=some o)(hc:o.cls=.ref C)(hq:Q (.done (.ret (.ref C))) ⟨h,g,d,t,os⟩) :
    wpAny (model prog w) A (Builtin.«object.__getattribute__» ⟨[.ref a,.str "__class__" tk],[]⟩) Q E ⟨h,g,d,t,os⟩:=by
  have f1:(⟨h,g,d,t,os⟩:Shared).TypeIs (.builtin "object.__class__") "getset_descriptor":=F.typeOf_object_class;have f2:=F.typeOf_object_class;have f3:=F.slot_gs_get.lookup;have f4:=F.slot_gs_set.lookup;have lk:∀ {M:Model} {A:Around} {E:q0A} {Q:Option Value->Shared->Prop},Q (some (.builtin "object.__class__")) ⟨h,g,d,t,os⟩->wpAny M A (typeLookup (.ref C) "__class__") Q E ⟨h,g,d,t,os⟩:=fun z=>Ce xc.toXCls X xc.q3 vU F.attrBase_ValueError.mro z
  repeat (any_goals (first|assumption|(with_reducible refine wpAny_loadPart_at hx ?_;rw[hc])|with_reducible refine lk ?_|wp_step))
  refine HE xc.toXCls X hx hc ?_
  repeat (any_goals (first|assumption|wp_step))
theorem La{tk:Tok}{fill expr:Bool}{Q:q0A}(xc:XQ K C bm)(X:K.In h)(hx:h.get? a=some o)(hc:o.cls=.ref C)(hq:Q (.ref C) ⟨h,g,d,t,os⟩):wpAny (model prog w) A (getAttrBy (.ref a) (.str "__class__" tk) fill expr) Q E ⟨h,g,d,t,os⟩:=by
 have FB:=F.attrBase_ValueError;have f3:=FB.ga.bind (.ref a);have y0:(expr&&onTheHeap (Value.builtin "BaseException.__getattribute__"))=false:=by cases expr<;>rfl
 have y2:(Value.builtin "BaseException.__getattribute__"==Value.builtin "object.__getattribute__")=false:=by decide +kernel
 have y1:(onTheHeap (Value.ref C)&&Value.builtin "BaseException.__getattribute__"==Value.builtin "object.__getattribute__")=false:=by rw[y2];rfl
 have l1:∀ {M:Model} {A:Around} {E:q0A} {Q:Option Value->Shared->Prop},Q (some (.builtin "BaseException.__getattribute__")) ⟨h,g,d,t,os⟩->wpAny M A (typeLookup (.ref C) "__getattribute__") Q E ⟨h,g,d,t,os⟩:=fun z=>Ce xc.toXCls X xc.q1 FB.ga.lookup FB.mro z;have l2:∀ {M:Model} {A:Around} {E:q0A} {Q:Option Value->Shared->Prop},Q none ⟨h,g,d,t,os⟩->wpAny M A (typeLookup (.ref C) "__getattr__") Q E ⟨h,g,d,t,os⟩:=fun z=>Ce xc.toXCls X xc.q2 FB.noGetattr FB.mro z
 repeat (any_goals (first|assumption|(with_reducible refine wpAny_loadPart_at hx ?_;rw[hc])|with_reducible refine l1 ?_|with_reducible refine l2 ?_|wp_step))
 refine codeAny_call_builtin FB.ga.plain F.entry_bexc_ga (Fh xc.toXCls X hx hc (Dl xc X hx hc ?_))
 repeat (any_goals (first|assumption|wp_step))
theorem EB{Q:Option Value->Shared->Prop}(xc:XQ K C bm)(X:K.In h)(hx:h.get? a=some o)(hc:o.cls=.ref C)(hq:Q (some (.ref C)) ⟨h,g,d,t+1,os⟩):wpAny (model prog w) A (getAttr? (.ref a) "__class__") Q E ⟨h,g,d,t,os⟩:=by
 unfold getAttr? getAttrBy?
 repeat (any_goals (first|assumption|with_reducible apply La xc X hx hc|wp_step))
noncomputable def XP(K:q0B)(C a:Addr):Shared->Prop:=fun s=>K.In s.heap/\∃ o,s.heap.get? a=some o/\o.cls=.ref C
theorem Ee(xc:XCls K C bm):Answers (XP K C a) (.ref a) (.ref C) true:=fun dep tk prog w A R s hs=>by
 obtain⟨h,g,d,t,os⟩:=s;obtain⟨⟨X,o,hx,hc⟩,hq⟩:=hs;have e:(Value.ref C==Value.ref C)=true:=by simp
 have q0:=hq t
 repeat (any_goals (first|assumption|(with_reducible refine wpAny_loadPart_at hx ?_;rw[hc])|wp_step))
theorem Ef(xc:XCls K C bm):Answers (XP K C a) (.ref a) (.type "ValueError") true:=fun dep tk prog w A R s hs=>by
 obtain⟨h,g,d,t,os⟩:=s;obtain⟨⟨X,o,hx,hc⟩,hq⟩:=hs;have q0:=hq t;have f2:∀ {M:Model} {A:Around} {E:q0A} {Q:Bool->Shared->Prop},Q true ⟨h,g,d,t,os⟩->wpAny M A (isSubtype (.ref C) (.type "ValueError")) Q E ⟨h,g,d,t,os⟩:=fun z=>vB xc X "ValueError" true (by rfl) z;have ty:typeOf (.type "ValueError")=pure (.type "type"):=by kernel_rfl
 repeat (any_goals (first|assumption|(with_reducible refine wpAny_loadPart_at hx ?_;rw[hc])|with_reducible refine f2 ?_|wp_step))
noncomputable def iT(K:q0B)(D:Addr):Bool:=match K.lookup D with
 | some ⟨.type "type",_,.cls _,_⟩=>true
 | _=>false
theorem Hs{D:Addr}(xc:XQ K C bm)(xd:iT K D=true)(hn:(Value.ref C::bm).contains (.ref D)=false):Answers (XP K C a) (.ref a) (.ref D) false:=fun dep tk prog w A R s hs=>by
 obtain⟨h,g,d,t,os⟩:=s;obtain⟨⟨X,o,hx,hc⟩,hq⟩:=hs;obtain⟨N,nm,q1,Yq,hdct,sn,sub,ab,col,dd,k0,k1,k2,k3,k5,mN,c1,c2,c3,c4⟩:=xc.toXCls.obj X;obtain⟨od,cdD,slD,d1⟩:∃ od cdD slD,h.get? D=some (⟨.type "type",od,.cls cdD,slD⟩:Obj):=by
  unfold iT at xd;split at xd
  ·next lk=>exact⟨_,_,_,X _ _ lk⟩
  ·cases xd
 have q0:=hq (t+1);have ne:(Value.ref C==Value.ref D)=false:=by
  rw[List.contains_cons,Bool.or_eq_false_iff] at hn;exact beq_eq_false_iff_ne.mpr fun z=>beq_eq_false_iff_ne.mp hn.1 z.symm
 have f2:∀ {M:Model} {A:Around} {E:q0A} {t:Nat} {Q:Bool->Shared->Prop},Q false ⟨h,g,d,t,os⟩->wpAny M A (isSubtype (.ref C) (.ref D)) Q E ⟨h,g,d,t,os⟩:=fun z=>wpAny_isSubtype_exc c1 (by rw[hn];exact z)
 repeat (any_goals (first|assumption|(with_reducible refine wpAny_loadPart_at hx ?_;rw[hc])|with_reducible refine wpAny_loadPart_at c1 ?_|with_reducible refine wpAny_loadPart_at d1 ?_|with_reducible refine f2 ?_|with_reducible apply EB xc X hx hc|wp_step))
theorem Cp{P:Shared->Prop}{x:Value}:∀ {cs:List Value},(∀ c∈cs,Answers P x c false)->AnswersAll P x cs (cs.map fun _=>false)
 | [],_=>trivial
 | c::cs,h=>⟨h c (by simp),Cp fun c' hc=>h c' (by simp[hc])⟩
theorem IJ{tp:Addr}{cs:List Value}{vs:List Bool}{tk:Tok}{s:Shared}{Q:Fin->Shared->Prop}{nn:Nat}{dt:Option Addr}{sl:Array (Option Value)}(xc:XCls K C bm)(hp:XP K C a s)(ht:s.heap.get? tp=some {cls:=.type "tuple",dict:=dt,data:=.seq cs.toArray nn,slots:=sl})(ha:AnswersAll (XP K C a) (.ref a) cs vs)
    (hq:∀ UB,Q (.done (.ret (.bool (vs.any id)))) {s with toks:=UB}):wpAny (model prog w) A (Builtin.«isinstance.nested» ⟨[.ref a,.ref tp,.int 0 tk],[]⟩) Q E s:=by
  obtain⟨h,g,d,t,os⟩:=s;obtain⟨X,o,hx,hc⟩:=id hp;have t2:(⟨h,g,d,t,os⟩:Shared).TypeIs (.ref tp) "tuple":=⟨_,ht,rfl⟩;have f1:=F.isi_sub_tuple;have ne:(Value.ref C==Value.ref tp)=false:=beq_eq_false_iff_ne.mpr fun z=>by
    obtain⟨_,_,_,_,_,_,_,_,_,_,_,_,_,_,_,_,c1,_⟩:=xc.obj X;injection z with z
    rw[z,ht] at c1;have z2:=congrArg Obj.cls (Option.some.inj c1);injection z2 with z2
    exact absurd z2 (by decide)
  repeat (any_goals (first|assumption|(with_reducible refine wpAny_loadPart_at hx ?_;rw[hc])|wp_step))
  refine wpAny_arrayLoop ?_;simp only[Option.getD_some,List.toList_toArray];refine isinstance_items (dep:=0) (fun _ _ z=>z) cs vs _ _ ha hp fun UB=>?_;cases hv:vs.any id<;>simp only[if_true,Bool.false_eq_true,if_false]<;>repeat (any_goals (first|assumption|wp_step))
  all_goals exact hv▸hq UB
end
section
variable {X:Cx} {C:Addr} {bm:List Value}
noncomputable def Ot(K:q0B)(C:Addr)(bm:List Value):List V->Hp->VK->Prop:=fun vs H Q=>∃ x,H x=some (vE x C)/\(((vs=[.ref x,.ref C]\/vs=[.ref x,.ty "ValueError"])/\Q (.bl true) H) \/
 ∃ p cs,vs=[.ref x,.ref p]/\H p=some (.tup cs)/\(∀ c∈cs,∃ D,c=.ref D/\iT K D=true/\(Value.ref C::bm).contains (.ref D)=false)/\Q (.bl false) H)
theorem Ez(xc:XQ X.K C bm):dG X (.builtin "isinstance") (Ot X.K C bm):=fun SK s σ H xs us Q I r h=>by
 obtain⟨x,hx,h⟩:=h;obtain⟨⟨oe,vs,e1,e2,e3⟩,_⟩:=I.SS x _ hx;have P:XP X.K C x s:=⟨I.kIn,oe,e1,e2⟩;have fin:∀ {b:Bool} {c:Value},Answers (XP X.K C x) (.ref x) c b->Q (.bl b) H->wpAny (model X.prog X.w) X.A (call (.builtin "isinstance") [.ref x,c]) (EP X SK σ Q) X.xe s:=fun {b c} A q =>
  call_isinstance (S:=fun _ R s=>XP X.K C x s/\∀ UB,R (.ok (.ret (.bool b))) {s with toks:=UB}) (fun _ _ _ _ _ hs=>isinstance_outer (A 0 _ _ _ _ _ _ hs) (by intro e;cases e)) ⟨P,fun UB=>⟨.bl b,H,I.tok UB,rfl,q⟩⟩
 rcases h with⟨rfl|rfl,q⟩|⟨p,cs,rfl,hp,hc,q⟩
 ·cases r with
  | cons r1 r =>
   cases r with
   | cons r2 r =>
    cases r;cases r1;cases r2;exact fin (Ee xc.toXCls) q
 ·cases r with
  | cons r1 r =>
   cases r with
   | cons r2 r =>
    cases r;cases r1;cases r2;exact fin (Ef xc.toXCls) q
 ·cases r with
  | cons r1 r =>
   cases r with
   | cons r2 r =>
    cases r;cases r1;cases r2;obtain⟨_,SQ,rv,⟨c0,dt,da,sl⟩,t1,t2,nt,t3⟩:=I.SS p _ hp;simp only at t2 t3;subst t2 t3;have al:∀ u∈SQ,Answers (XP X.K C x) (.ref x) u false:=fun u hu=>by
     obtain⟨i,hi⟩:=List.mem_iff_getElem?.mp hu;have li:i < cs.length:=by rw[rv.length];exact(List.getElem?_eq_some_iff.mp hi).1
     obtain⟨u',hu',ru⟩:=rv.get (List.getElem?_eq_getElem li);rw[hi] at hu';cases hu';obtain⟨D,eD,xd,hn⟩:=hc _ (List.getElem_mem li);rw[eD] at ru;cases ru;exact Hs xc xd hn
    have q':∀ UB,EP X SK σ Q (.bool ((SQ.map fun _=>false).any id)) {s with toks:=UB}:=fun UB=>by
     rw[show(SQ.map fun _=>false).any id=false by simp];exact⟨.bl false,H,I.tok UB,rfl,q⟩
    exact call_isinstance (S:=fun _ R s'=>s'=s/\∀ UB,R (.ok (.ret (.bool ((SQ.map fun _=>false).any id)))) {s' with toks:=UB}) (fun _ _ _ _ _ hs=>isinstance_outer (by obtain⟨rfl,hs⟩:=hs;exact IJ xc.toXCls P t1 (Cp al) hs) (by intro e;cases e)) ⟨rfl,q'⟩
end
theorem vG:bootBuiltins "ValueError"=some (.type "ValueError"):=by decide +kernel
section
variable {P:Program} {w:World} {K:q0B} {mg:q0C} {base:Heap}
theorem Fun.okE{x qual:Str}{st:Stmt}{f:Addr}{fd:FuncData}{N ps:List Str}{k:Nat}{sp:Sp}(F:Fun K x qual st f fd)(S:bA N ps (aP st))(len:∀ vs H Q E,sp vs H Q E->vs.length=ps.length)
    (TX:∀(S0:Value) (A:Around) (outer:List Env) (s:Shared) (H:Hp) (vs:List V) (Q:VK) (E:XK),Room k (A.deeper (envOfC qual (aP st) s.heap.objs.size f S0))->sp vs H Q E ->
      ∃ t,TN (mB (S9 P w base) P w K mg base N qual (aP st) f S0 A outer s H E) (lQ st) t/\t {nx:=fun _ H'=>Q .SR H',rt:=Q} (start N vs) H):bL P w K mg base (S9 P w base) (k+1) f fd ps sp:=by
  obtain⟨oc,od,kV,doc,pm,an,S0,ct,Vx,rfl,lk,Ux⟩:=F.ex;exact JY lk Ux S len fun A outer s H vs Q E hr Vi=>TX S0 A outer s H vs Q E hr Vi
end
noncomputable def Rg(xs:List V)(n:Prop)(c:V->List V->Prop)(_u:Tg c:=()):Prop:=match xs with
 | []=>n
 | v::r=>c v r
section
variable {n:Prop} {c:V->List V->Prop} {v:V} {r:List V} {D:Ends} {σ:St} {H:Hp} {C:Addr} {E:XK} {t:TA} {sp:Sp} {i j:Nat} {ts:TS}
theorem Mi:Rg [] n c=n:=rfl
theorem Mj:Rg (v::r) n c=c v r:=rfl
theorem Ph{y:Str}{Q:VK}:Jt .SR (.str y) H Q=Q (.bl true) H:=by simp[Jt,scal]
theorem Io:GY C E t D σ H=t σ H fun vs H1=>vs.length<=100/\E (.ref C) none H1:=rfl
theorem ME:G0 sp [] t i j C ts D σ H=t σ H fun vs H1=>sp vs H1 (fun v H2=>D.nx (σ.set i (some v)) H2) fun cls _ H2=>cls=.ref C/\∀ x,H2 x=none->ts (CT D j) (σ.set j (some (.ref x))) (SM H2 x (vE x C)):=by simp only[G0,List.append_nil]
end
theorem pA{X:Cx}{C:Addr}{bm:List Value}(K:q0B)(e:X.K=K)(xc:XQ K C bm):dG X (.builtin "isinstance") (Ot K C bm):=by subst e;exact Ez xc
noncomputable def Oz:R2:=fun x y H Q=>match x with
 | .str z=>dR y fun k=>(k=0/\Q (.str "") H)\/(k=1/\Q (.str z) H)
 | _=>False
theorem Ms{z:Str}{k:Int}{H:Hp}{Q:VK}:Oz (.str z) (.int k) H Q=((k=0/\Q (.str "") H)\/(k=1/\Q (.str z) H)):=rfl
theorem Q9{K:q0B}{C:Addr}{bm:List Value}(a:PySem.W.excIn K C [.type "ValueError",.type "Exception",.type "BaseException",.type "object"] "ValueError.__new__"=true)(b:FR K C (.ref C::bm)=true)(c:eX K "__getattribute__" (.ref C::bm)=true)(d:eX K "__getattr__" (.ref C::bm)=true)(e:eX K "__class__" (.ref C::bm)=true):XQ K C bm:=⟨⟨a,b⟩,c,d,e⟩
theorem Ja(l:Addr)(dd:Option Addr)(x:Value)(n:Nat)(sl:Array (Option Value))(t:Tok):Meets (Builtin.«tuple.__mul__» ⟨[.ref l,.int 2 t],[]⟩) (fun _ R s=>s.heap.get? l=some ⟨.type "tuple",dd,.seq #[x] n,sl⟩/\R (.ok (.ret (.ref s.heap.objs.size))) {s with heap:=s.heap.push {cls:=.type "tuple",data:=.seq #[x,x]}}) :=
 .of_wp fun prog w A R s h=>by
  obtain⟨hp,g,d,tk,os⟩:=s;obtain⟨hl,h⟩:=h;have f1:=AutoSeq1.idx_int;wp_walk using wpAny_loadPart' hl;exact⟨_,rfl,h⟩
theorem Jb(l:Addr)(dd:Option Addr)(x:Value)(n:Nat)(sl:Array (Option Value))(t:Tok):Meets (Builtin.«tuple.__mul__» ⟨[.ref l,.int 3 t],[]⟩) (fun _ R s=>s.heap.get? l=some ⟨.type "tuple",dd,.seq #[x] n,sl⟩/\R (.ok (.ret (.ref s.heap.objs.size))) {s with heap:=s.heap.push {cls:=.type "tuple",data:=.seq #[x,x,x]}}) :=
 .of_wp fun prog w A R s h=>by
  obtain⟨hp,g,d,tk,os⟩:=s;obtain⟨hl,h⟩:=h;have f1:=AutoSeq1.idx_int;wp_walk using wpAny_loadPart' hl;exact⟨_,rfl,h⟩
theorem Jc(l:Addr)(dd:Option Addr)(x:Value)(n:Nat)(sl:Array (Option Value))(t:Tok):Meets (Builtin.«tuple.__mul__» ⟨[.ref l,.int 4 t],[]⟩) (fun _ R s=>s.heap.get? l=some ⟨.type "tuple",dd,.seq #[x] n,sl⟩/\R (.ok (.ret (.ref s.heap.objs.size))) {s with heap:=s.heap.push {cls:=.type "tuple",data:=.seq #[x,x,x,x]}}) :=
 .of_wp fun prog w A R s h=>by
  obtain⟨hp,g,d,tk,os⟩:=s;obtain⟨hl,h⟩:=h;have f1:=AutoSeq1.idx_int;wp_walk using wpAny_loadPart' hl;exact⟨_,rfl,h⟩
theorem Jd(l:Addr)(dd:Option Addr)(x:Value)(n:Nat)(sl:Array (Option Value))(t:Tok):Meets (Builtin.«tuple.__mul__» ⟨[.ref l,.int 5 t],[]⟩) (fun _ R s=>s.heap.get? l=some ⟨.type "tuple",dd,.seq #[x] n,sl⟩/\R (.ok (.ret (.ref s.heap.objs.size))) {s with heap:=s.heap.push {cls:=.type "tuple",data:=.seq #[x,x,x,x,x]}}) :=
 .of_wp fun prog w A R s h=>by
  obtain⟨hp,g,d,tk,os⟩:=s;obtain⟨hl,h⟩:=h;have f1:=AutoSeq1.idx_int;wp_walk using wpAny_loadPart' hl;exact⟨_,rfl,h⟩
theorem Je(l:Addr)(dd:Option Addr)(x:Value)(n:Nat)(sl:Array (Option Value))(t:Tok):Meets (Builtin.«tuple.__mul__» ⟨[.ref l,.int 6 t],[]⟩) (fun _ R s=>s.heap.get? l=some ⟨.type "tuple",dd,.seq #[x] n,sl⟩/\R (.ok (.ret (.ref s.heap.objs.size))) {s with heap:=s.heap.push {cls:=.type "tuple",data:=.seq #[x,x,x,x,x,x]}}) :=
 .of_wp fun prog w A R s h=>by
  obtain⟨hp,g,d,tk,os⟩:=s;obtain⟨hl,h⟩:=h;have f1:=AutoSeq1.idx_int;wp_walk using wpAny_loadPart' hl;exact⟨_,rfl,h⟩
noncomputable def Et:R2:=fun x y H Q=>aO x fun a=>dR y fun k=>gO (H a) fun xs=>∃ v,xs=[v]/\(0<=k/\k<=6)/\(k=1->Q x H)/\(k≠1->∀ p,H p=none->Q (.ref p) (SM H p (.tup (List.replicate k.toNat v))))
section
variable {X:Cx}
theorem Gi:h9 X (binaryOp .Mult) Et:=fun SK s σ H x y v u Q I rx ry h=>by
 obtain⟨a,rfl,h1⟩:=bC h;obtain⟨k,rfl,h2⟩:=dI h1;obtain⟨xs,e1,v1,rfl,hk,q1,q2⟩:=lA h2;cases rx;obtain⟨t,rfl⟩:=ry;obtain⟨SQ,r1,p1,z1⟩:=I.tuple (.inl (.inl e1));obtain⟨w1,rfl⟩:∃ w1,SQ=[w1]:=by
  cases r1 with
  | cons a b=>cases b;exact⟨_,rfl⟩
 have TL:=(match r1 with | .cons a _=>a);obtain⟨⟨c1,d1,t1,o1⟩,ho,rfl,n,rfl⟩:=p1;refine wpAny_binaryOp_repeat_ref (T:="tuple") (U:="int") (by decide) ⟨_,ho,rfl⟩ (fun s'=>typeIs_int s' k t) FY PySem.F.fills_int_mul PySem.F.slot_int_rmul Jv PySem.F.slot_int_index.lookup
  (call_meets PySem.F.slot_int_rmul (typeIs_int s k t) PySem.F.entry_int_rmul (PySem.F.args_int_rmul_2 _ _) (Gy k t a d1 [w1].toArray n o1) ⟨ho,rfl,⟨_,ho,rfl⟩,?_⟩)
 have lay:∀(m:Nat) (ws:List Value),Vals (List.replicate m v1) ws->m<=6->k≠1->m=k.toNat->EP X SK σ Q (.ref s.heap.objs.size) {s with heap:=s.heap.push {cls:=.type "tuple",data:=.seq ws.toArray}}:=fun m ws hv hm Zd hmk=>by
  have I2:SO X SK σ (SM H s.heap.objs.size (.tup (List.replicate m v1))) {s with heap:=s.heap.push {cls:=.type "tuple",data:=.seq ws.toArray}} :=
   I.laid (t':=s.toks) (fun b o e=>Heap.get?_push_of_some _ e) (Nat.le_refl _) (show dU X.prog X.w _ _ _ (.tup (List.replicate m v1)) from ⟨by rw[List.length_replicate];exact Nat.le_trans hm (by decide),ws,hv,IsTup.new _ _⟩)
  exact⟨.ref s.heap.objs.size,_,I2,rfl,by rw[hmk];exact q2 Zd _ (I.SS.fresh (Nat.le_refl _))⟩
 obtain rfl|rfl|rfl|rfl|rfl|rfl|rfl:k=0\/k=1\/k=2\/k=3\/k=4\/k=5\/k=6:=by omega
 ·exact call_meets PySem.F.slot_tuple_mul ⟨_,ho,rfl⟩ PySem.F.entry_tuple_mul (PySem.F.args_tuple_mul_2 _ _) (FU a d1 [w1].toArray n o1 t (by simp)) ⟨ho,lay 0 [] .nil (by decide) (by decide) rfl⟩
 ·exact call_meets PySem.F.slot_tuple_mul ⟨_,ho,rfl⟩ PySem.F.entry_tuple_mul (PySem.F.args_tuple_mul_2 _ _) (FV a d1 [w1].toArray n o1 t) ⟨ho,.ref a,H,I,rfl,q1 rfl⟩
 ·exact call_meets PySem.F.slot_tuple_mul ⟨_,ho,rfl⟩ PySem.F.entry_tuple_mul (PySem.F.args_tuple_mul_2 _ _) (Ja a d1 w1 n o1 t) ⟨ho,lay 2 [w1,w1] (.cons TL (.cons TL .nil)) (by decide) (by decide) rfl⟩
 ·exact call_meets PySem.F.slot_tuple_mul ⟨_,ho,rfl⟩ PySem.F.entry_tuple_mul (PySem.F.args_tuple_mul_2 _ _) (Jb a d1 w1 n o1 t) ⟨ho,lay 3 [w1,w1,w1] (.cons TL (.cons TL (.cons TL .nil))) (by decide) (by decide) rfl⟩
 ·exact call_meets PySem.F.slot_tuple_mul ⟨_,ho,rfl⟩ PySem.F.entry_tuple_mul (PySem.F.args_tuple_mul_2 _ _) (Jc a d1 w1 n o1 t) ⟨ho,lay 4 [w1,w1,w1,w1] (.cons TL (.cons TL (.cons TL (.cons TL .nil)))) (by decide) (by decide) rfl⟩
 ·exact call_meets PySem.F.slot_tuple_mul ⟨_,ho,rfl⟩ PySem.F.entry_tuple_mul (PySem.F.args_tuple_mul_2 _ _) (Jd a d1 w1 n o1 t) ⟨ho,lay 5 [w1,w1,w1,w1,w1] (.cons TL (.cons TL (.cons TL (.cons TL (.cons TL .nil))))) (by decide) (by decide) rfl⟩
 ·exact call_meets PySem.F.slot_tuple_mul ⟨_,ho,rfl⟩ PySem.F.entry_tuple_mul (PySem.F.args_tuple_mul_2 _ _) (Je a d1 w1 n o1 t) ⟨ho,lay 6 [w1,w1,w1,w1,w1,w1] (.cons TL (.cons TL (.cons TL (.cons TL (.cons TL (.cons TL .nil)))))) (by decide) (by decide) rfl⟩
theorem Iw{a:Addr}{k:Int}{H:Hp}{Q:VK}:Et (.ref a) (.int k) H Q=gO (H a) fun xs=>∃ v,xs=[v]/\(0<=k/\k<=6)/\(k=1->Q (.ref a) H)/\(k≠1->∀ p,H p=none->Q (.ref p) (SM H p (.tup (List.replicate k.toNat v)))):=rfl
end
end L2
namespace Own
open PySem L2
local macro_rules | `(tactic| and_intros) => `(tactic| try dsimp only [L2.start, FF, J5, List.cons_append, List.nil_append, List.replicate_succ, List.replicate_zero, List.length_cons, List.length_nil, Nat.reduceAdd, Nat.reduceSub, Nat.zero_add])
local macro_rules | `(tactic| infer_instance) => `(tactic| exact ⟨rfl, rfl, rfl, by decide +kernel, rfl, by decide +kernel, by decide +kernel⟩)
seal PE PA PT PW PS TN PI PG PGs Wz PO PPs
noncomputable def top(i:Nat):Stmt:=PySem.Challenge.pw_outlast_k09_bounds_of_programs.main.body.getD i (.Pass ⟨0,0,0,0⟩)
noncomputable abbrev iH:Stmt:=top 11
noncomputable abbrev m7:Stmt:=top 12
noncomputable abbrev g6:Stmt:=top 17
noncomputable abbrev uN:Stmt:=top 18
noncomputable abbrev jA:Stmt:=top 25
noncomputable abbrev jV:Stmt:=lW (top 26) 0
noncomputable abbrev iZ:Stmt:=lW (top 26) 1
noncomputable abbrev i0:Stmt:=lW (top 26) 2
noncomputable abbrev gE:Stmt:=lW (top 26) 3
noncomputable abbrev fB:Stmt:=lW (top 26) 4
noncomputable abbrev eO:Stmt:=lW (top 26) 5
noncomputable abbrev lH:Stmt:=top 27
noncomputable abbrev lG:Stmt:=top 28
noncomputable abbrev jZ:Stmt:=top 29
noncomputable abbrev jY:Stmt:=top 30
noncomputable abbrev jX:Stmt:=top 31
noncomputable abbrev nD:Stmt:=top 32
noncomputable abbrev nE:Stmt:=top 33
noncomputable abbrev jW:Stmt:=top 34
noncomputable abbrev lE:Stmt:=top 36
noncomputable abbrev qD:Stmt:=top 37
noncomputable abbrev nA:Stmt:=top 38
noncomputable abbrev pZ:Stmt:=top 39
noncomputable abbrev qC:Stmt:=top 40
noncomputable abbrev qG:Stmt:=top 41
noncomputable abbrev m8:Stmt:=top 42
noncomputable abbrev pY:Stmt:=top 43
noncomputable abbrev qA:Stmt:=top 44
noncomputable abbrev qB:Stmt:=top 45
noncomputable abbrev qF:Stmt:=top 46
noncomputable abbrev p9:Stmt:=top 47
noncomputable abbrev lF:Stmt:=top 48
noncomputable abbrev uO:Stmt:=top 49
noncomputable abbrev m9:Stmt:=top 50
noncomputable abbrev GC:Stmt:=top 51
set_option genInjectivity false in
set_option genSizeOf false in
structure Ad where
 iS:Addr
 iU:FuncData
 oT:Addr
 pC:FuncData
 iA:Addr
 iB:FuncData
 yA:Addr
 yJ:FuncData
 jL:Addr
 jP:FuncData
 iN:Addr
 kN:FuncData
 jK:Addr
 jO:FuncData
 cM:Addr
 cN:FuncData
 gH:Addr
 gI:FuncData
 fV:Addr
 fX:FuncData
 eY:Addr
 eZ:FuncData
 mR:Addr
 mX:FuncData
 mQ:Addr
 mW:FuncData
 kJ:Addr
 kR:FuncData
 fF:Addr
 fK:FuncData
 kI:Addr
 kQ:FuncData
 oW:Addr
 pF:FuncData
 oX:Addr
 pG:FuncData
 kH:Addr
 kP:FuncData
 mM:Addr
 mU:FuncData
 sL:Addr
 sX:FuncData
 jB:Addr
 jE:FuncData
 sG:Addr
 sT:FuncData
 kG:Addr
 kO:FuncData
 sN:Addr
 sZ:FuncData
 oU:Addr
 pD:FuncData
 sF:Addr
 sS:FuncData
 sI:Addr
 sV:FuncData
 sJ:Addr
 sW:FuncData
 sM:Addr
 sY:FuncData
 sH:Addr
 sU:FuncData
 mO:Addr
 mV:FuncData
 yB:Addr
 yK:FuncData
 oV:Addr
 pE:FuncData
 KL:Addr
 Lb:FuncData
 tW:Tok
 yX:Tok
 pJ:Addr
 rG:Tok
 vT:Tok
 tV:Tok
 AF:Tok
 By:Addr
 aN:Addr
 aI:Addr
 aJ:Addr
 gU:Addr
 cL:Addr
 dQ:Addr
 cB:Addr
 dP:Addr
 fU:Addr
 bV:Addr
structure Tx(K:q0B)(mg:q0C)(t:Ad):Prop where
 mF:Fun K "is_number_word" "is_number_word" iH t.iS t.iU
 vF:Binds K t.iU ["word","least","greatest"] []
 vV:mg "is_number_word"=some (.ref t.iS)
 wR:Fun K "is_figure" "is_figure" m7 t.oT t.pC
 C9:Binds K t.pC ["sign"] []
 DI:mg "is_figure"=some (.ref t.oT)
 kS:Fun K "is_small_letter" "is_small_letter" g6 t.iA t.iB
 sO:Binds K t.iB ["sign"] []
 tZ:mg "is_small_letter"=some (.ref t.iA)
 rO:Fun K "is_name" "is_name" uN t.yA t.yJ
 yE:Binds K t.yJ ["thing"] []
 zA:mg "is_name"=some (.ref t.yA)
 nT:Fun K "read_program" "read_program" jA t.jL t.jP
 yF:Binds K t.jP ["text"] []
 zB:mg "read_program"=some (.ref t.jL)
 Aq:Fun K "__init__" "Reader.__init__" jV t.iN t.kN
 Ah:Binds K t.kN ["self","lines"] []
 IX:Meth K t.aN "__init__" t.iN
 yP:Fun K "ahead" "Reader.ahead" iZ t.jK t.jO
 fW:Binds K t.jO ["self"] []
 eQ:Meth K t.aN "ahead" t.jK
 yQ:Fun K "block" "Reader.block" i0 t.cM t.cN
 jM:Binds K t.cN ["self","deep"] []
 iW:Meth K t.aN "block" t.cM
 pH:Fun K "statement" "Reader.statement" gE t.gH t.gI
 oY:Binds K t.gI ["self","deep"] []
 nW:Meth K t.aN "statement" t.gH
 nR:Fun K "with_blocks" "Reader.with_blocks" fB t.fV t.fX
 nM:Binds K t.fX ["self","words","deep"] []
 mZ:Meth K t.aN "with_blocks" t.fV
 mY:Fun K "second_block" "Reader.second_block" eO t.eY t.eZ
 mS:Binds K t.eZ ["self","deep"] []
 mD:Meth K t.aN "second_block" t.eY
 tN:Fun K "take_plain" "take_plain" lH t.mR t.mX
 Bq:Binds K t.mX ["words"] []
 BI:mg "take_plain"=some (.ref t.mR)
 tM:Fun K "take_given" "take_given" lG t.mQ t.mW
 Bp:Binds K t.mW ["name","words"] []
 BH:mg "take_given"=some (.ref t.mQ)
 qS:Fun K "take_waited" "take_waited" jZ t.kJ t.kR
 Aj:Binds K t.kR ["words"] []
 AM:mg "take_waited"=some (.ref t.kJ)
 bR:Fun K "take_saying" "take_saying" jY t.fF t.fK
 bW:Binds K t.fK ["words","deep"] []
 bX:mg "take_saying"=some (.ref t.fF)
 qR:Fun K "take_joined" "take_joined" jX t.kI t.kQ
 Ai:Binds K t.kQ ["words","deep"] []
 AL:mg "take_joined"=some (.ref t.kI)
 lR:Fun K "take_name" "take_name" nD t.oW t.pF
 oZ:Binds K t.pF ["words"] []
 pL:mg "take_name"=some (.ref t.oW)
 eJ:Fun K "take_word" "take_word" nE t.oX t.pG
 fH:Binds K t.pG ["words"] []
 fM:mg "take_word"=some (.ref t.oX)
 kU:Fun K "refuse_more" "refuse_more" jW t.kH t.kP
 qP:Binds K t.kP ["words"] []
 qW:mg "refuse_more"=some (.ref t.kH)
 tK:Fun K "_law_stream" "_law_stream" lE t.mM t.mU
 Bl:Binds K t.mU ["cell"] []
 BF:mg "_law_stream"=some (.ref t.mM)
 b9:Fun K "_law_take" "_law_take" qD t.sL t.sX
 cC:Binds K t.sX ["row","many"] []
 cD:mg "_law_take"=some (.ref t.sL)
 eI:Fun K "_law_words" "_law_words" nA t.jB t.jE
 fG:Binds K t.jE ["saying"] []
 fL:mg "_law_words"=some (.ref t.jB)
 Ar:Fun K "_law_head" "_law_head" pZ t.sG t.sT
 Eg:Binds K t.sT ["one"] []
 FK:mg "_law_head"=some (.ref t.sG)
 nS:Fun K "_law_rows" "_law_rows" qC t.kG t.kO
 sP:Binds K t.kO ["program"] []
 t9:mg "_law_rows"=some (.ref t.kG)
 Ax:Fun K "_law_text" "_law_text" qG t.sN t.sZ
 El:Binds K t.sZ ["program"] []
 FQ:mg "_law_text"=some (.ref t.sN)
 wU:Fun K "_law_asked" "_law_asked" m8 t.oU t.pD
 Dd:Binds K t.pD ["text"] []
 DJ:mg "_law_asked"=some (.ref t.oU)
 iC:Fun K "_law_flat" "_law_flat" pY t.sF t.sS
 jC:Binds K t.sS ["row","many"] []
 jG:mg "_law_flat"=some (.ref t.sF)
 Au:Fun K "_law_many" "_law_many" qA t.sI t.sV
 Ei:Binds K t.sV ["row"] []
 FN:mg "_law_many"=some (.ref t.sI)
 Av:Fun K "_law_nest" "_law_nest" qB t.sJ t.sW
 Ej:Binds K t.sW ["row"] []
 FO:mg "_law_nest"=some (.ref t.sJ)
 Aw:Fun K "_law_tall" "_law_tall" qF t.sM t.sY
 Ek:Binds K t.sY ["row","deep"] []
 FP:mg "_law_tall"=some (.ref t.sM)
 As:Fun K "_law_high" "_law_high" p9 t.sH t.sU
 Eh:Binds K t.sU ["row"] []
 FL:mg "_law_high"=some (.ref t.sH)
 tL:Fun K "_law_waited" "_law_waited" lF t.mO t.mV
 Bm:Binds K t.mV ["row"] []
 BG:mg "_law_waited"=some (.ref t.mO)
 CA:Fun K "_law_far" "_law_far" uO t.yB t.yK
 Hu:Binds K t.yK ["row"] []
 IY:mg "_law_far"=some (.ref t.yB)
 wV:Fun K "_law_right" "_law_right" m9 t.oV t.pE
 De:Binds K t.pE ["case"] []
 DK:mg "_law_right"=some (.ref t.oV)
 R0:Fun K "law" "law" GC t.KL t.Lb
 SA:Binds K t.Lb ["script"] []
 SE:mg "law"=some (.ref t.KL)
 bH:Cls K t.aN
 IT:mg "Reader"=some (.ref t.aN)
 t8:Mk K t.aN t.iN
 nX:iR K t.aN "lines"
 cZ:iR K t.aN "lines_read"
 cS:iR K t.aN "statements_read"
 kL:mg "GREATEST_WORTH"=some (.int 1000000000 t.tW)
 yG:mg "LONGEST_NAME"=some (.int 6 t.yX)
 Df:mg "OWN_WORDS"=some (.ref t.pJ)
 DU:∀ H:Hp,fS K H t.pJ [.str "order",.str "timer",.str "child",.str "send",.str "drop",.str "wait",.str "hear",.str "if",.str "else",.str "done",.str "while",.str "end",.str "none",.str "arg",.str "now",.str "answer",.str "not"]
 rA:mg "MOST_STATEMENTS"=some (.int 60 t.rG)
 vH:mg "DEEPEST_BLOCK"=some (.int 5 t.vT)
 sQ:mg "DEEPEST_SAYING"=some (.int 6 t.tV)
 Ak:mg "MOST_WAITED"=some (.int 4 t.AF)
 K7:mg "SIGNS"=some (.ref t.By)
 Ng:∀ H:Hp,fS K H t.By [.str "+",.str "-",.str "*",.str "<",.str "="]
 tX:mg "OutlastError"=some (.ref t.aI)
 Hk:iT K t.aI=true
 wB:XQ K t.aI (gT)
 bO:mg "NoProgram"=some (.ref t.aJ)
 NY:iT K t.aJ=true
 bI:XQ K t.aJ (.ref t.aI::gT)
 IU:mg "NoLog"=some (.ref t.gU)
 NX:iT K t.gU=true
 DH:mg "NoState"=some (.ref t.cL)
 Hf:iT K t.cL=true
 Q8:XQ K t.cL (.ref t.aI::gT)
 FE:mg "NoRule"=some (.ref t.dQ)
 JN:iT K t.dQ=true
 Rk:XQ K t.dQ (.ref t.aI::gT)
 BB:mg "NoPolicy"=some (.ref t.cB)
 D7:iT K t.cB=true
 Oa:XQ K t.cB (.ref t.aI::gT)
 FD:mg "NoLine"=some (.ref t.dP)
 JM:iT K t.dP=true
 Rj:XQ K t.dP (.ref t.aI::gT)
 IV:mg "NoRun"=some (.ref t.fU)
 NZ:iT K t.fU=true
 Sn:XQ K t.fU (.ref t.aI::gT)
 AH:mg "NoCommand"=some (.ref t.bV)
 Cm:iT K t.bV=true
 NW:XQ K t.bV (.ref t.aI::gT)
 ZN:(t.aJ≠t.gU/\t.aI≠t.gU)/\(t.aJ≠t.cL/\t.aI≠t.cL)/\(t.aJ≠t.dQ/\t.aI≠t.dQ)/\(t.aJ≠t.cB/\t.aI≠t.cB)/\(t.aJ≠t.dP/\t.aI≠t.dP)/\(t.aJ≠t.fU/\t.aI≠t.fU)/\(t.aJ≠t.bV/\t.aI≠t.bV)
 lO:mg "ValueError"=none
 N8:mg "abs"=none
 JO:mg "all"=none
 Hg:mg "int"=none
 eF:mg "isinstance"=none
 wC:mg "len"=none
 N9:mg "max"=none
 vC:mg "range"=none
 Hh:mg "str"=none
 qM:mg "tuple"=none
theorem j9:bA ["word","least","greatest","figures"] ["word","least","greatest"] (aP iH):=by infer_instance
theorem A4:bA ["sign"] ["sign"] (aP m7):=by infer_instance
theorem qI:bA ["sign"] ["sign"] (aP g6):=by infer_instance
theorem DW:bA ["thing"] ["thing"] (aP uN):=by infer_instance
theorem iL:bA ["text","reader","program"] ["text"] (aP jA):=by infer_instance
theorem vZ:bA ["self","lines"] ["self","lines"] (aP jV):=by infer_instance
theorem uQ:bA ["self"] ["self"] (aP iZ):=by infer_instance
theorem lI:bA ["self","deep","statements"] ["self","deep"] (aP i0):=by infer_instance
theorem fC:bA ["self","deep","words","statement"] ["self","deep"] (aP gE):=by infer_instance
theorem cE:bA ["self","words","deep","kind","saying","first","blocks"] ["self","words","deep"] (aP fB):=by infer_instance
theorem gR:bA ["self","deep","block"] ["self","deep"] (aP eO):=by infer_instance
theorem oP:bA ["words","first"] ["words"] (aP lH):=by infer_instance
theorem oO:bA ["name","words","kind"] ["name","words"] (aP lG):=by infer_instance
theorem mI:bA ["words","sayings"] ["words"] (aP jZ):=by infer_instance
theorem mH:bA ["words","deep","word"] ["words","deep"] (aP jY):=by infer_instance
theorem gL:bA ["words","deep","one","sign","other"] ["words","deep"] (aP jX):=by infer_instance
theorem q8:bA ["words","word"] ["words"] (aP nD):=by infer_instance
theorem A5:bA ["words"] ["words"] (aP nE):=by infer_instance
theorem v8:bA ["words"] ["words"] (aP jW):=by infer_instance
theorem j4:bA ["cell","low"] ["cell"] (aP lE):=by infer_instance
theorem uR:bA ["row","many","got"] ["row","many"] (aP qD):=by infer_instance
theorem qZ:bA ["saying","one"] ["saying"] (aP nA):=by infer_instance
theorem eA:bA ["one","word","rest","text","part"] ["one"] (aP pZ):=by infer_instance
theorem iK:bA ["program","rows","one"] ["program"] (aP qC):=by infer_instance
theorem B9:bA ["program"] ["program"] (aP qG):=by infer_instance
theorem fQ:bA ["text","got","refused","e"] ["text"] (aP m8):=by infer_instance
theorem B8:bA ["row","many"] ["row","many"] (aP pY):=by infer_instance
theorem iJ:bA ["row","many","kind","first","inner"] ["row"] (aP qA):=by infer_instance
theorem eB:bA ["row","deep","block","k","kind"] ["row"] (aP qB):=by infer_instance
theorem fD:bA ["row","deep","saying","k","kind"] ["row","deep"] (aP qF):=by infer_instance
theorem iI:bA ["row","deep","saying","some"] ["row"] (aP p9):=by infer_instance
theorem oN:bA ["row","many"] ["row"] (aP lF):=by infer_instance
theorem xU:bA ["row","number"] ["row"] (aP uO):=by infer_instance
theorem lJ:bA ["case","got","refused"] ["case"] (aP m9):=by infer_instance
theorem zS:bA ["script","cell","row","case"] ["script"] (aP GC):=by infer_instance
theorem SJ{CX:CXT}{P:Program}{w:World}{K:q0B}{mg:q0C}{base:Heap}{N:List Str}{q:Str}{sc:Scope}{f:Addr}{cd:Value}{A:Around}{o:List Env}{s:Shared}{H:Hp}{E:XK}:(mB CX P w K mg base N q sc f cd A o s H E).K=K:=rfl
theorem Sk{CX:CXT}{P:Program}{w:World}{K:q0B}{mg:q0C}{base:Heap}{N:List Str}{q:Str}{sc:Scope}{f:Addr}{cd:Value}{A:Around}{o:List Env}{s:Shared}{H:Hp}{E:XK}:(mB CX P w K mg base N q sc f cd A o s H E).nox.K=K:=rfl
theorem small{n:Nat}(h:n<=1000):n<=sizeLine:=Nat.le_of_lt (small1000 h)
theorem CL{i j:Int}(h0:-(2 ^ 64) < i)(h1:i < 2 ^ 64):CMul i j:=.inl ⟨h0,h1⟩
structure bN(H:Hp)(r:Addr):Prop where
 ex:∃ c l f:Int,H r=some (.lst [.int c,.int l,.int f])/\0<=l/\l < 536870909
theorem bN.kp{S:List Addr}{H H':Hp}{r:Addr}(R:bN H r)(h:Kp S H H')(n:r∉S:=by first|exact List.not_mem_nil|simp_all):bN H' r:=by
 obtain⟨c,l,f,e,x⟩:=R;exact⟨c,l,f,h _ _ e n,x⟩
theorem bN.new{H:Hp}{r p:Addr}{o:HO}(R:bN H r)(h:H p=none):bN (SM H p o) r:=R.kp (S:=[]) (Kp.new h)
theorem bN.ne{H:Hp}{r p:Addr}{o:HO}(R:bN H r)(h:H p=some o)(d:∀ a b c:V,o≠.lst [a,b,c]):p≠r:=by
 obtain⟨c,l,f,e,_⟩:=R;exact xE h e (d _ _ _)
theorem bN.none{H:Hp}{r p:Addr}(R:bN H r)(h:H p=Option.none):p≠r:=by
 obtain⟨c,l,f,e,_⟩:=R;exact(aX e h).symm
theorem _root_.L2.Kp.made{r p:Addr}{H H':Hp}{o:HO}(x:Kp [r] (SM H p o) H')(R:bN H r)(h:H p=none):H' p=some o:=x.at1 aB (R.none h)
noncomputable def GI:Sp:=fun vs H Q _=>∃ c:Int,vs=[.int c]/\∀(r:Addr) (H':Hp),H r=none->Kp [] H H'->bN H' r->Q (.ref r) H'
noncomputable def GK:Sp:=fun vs H Q _=>∃(r:Addr) (m:Int),vs=[.ref r,.int m]/\0 < m/\m<=10 ^ 45/\bN H r /\
 ∀(g:Int) (H':Hp),0<=g->g < m->bN H' r->Kp [r] H H'->Q (.int g) H'
theorem Nj{r:Addr}{m:Int}{H:Hp}{Q:VK}{E:XK}:GK [.ref r,.int m] H Q E=(0 < m/\m<=10 ^ 45/\bN H r/\∀(g:Int) (H':Hp),0<=g->g < m->bN H' r->Kp [r] H H'->Q (.int g) H') :=
 propext ⟨fun⟨_,_,e,h⟩=>by cases e;exact h,fun h=>⟨_,_,rfl,h⟩⟩
noncomputable def clamp(n:Int):Int:=if (if n < 1000000000 then n else 1000000000) > -1000000000 then (if n < 1000000000 then n else 1000000000) else -1000000000
noncomputable def NB:Sp:=fun vs H Q _=>∃ n:Int,vs=[.int n]/\Q (.int (clamp n)) H
theorem Nh{n:Int}{H:Hp}{Q:VK}{E:XK}:NB [.int n] H Q E=Q (.int (clamp n)) H:=propext ⟨fun⟨_,e,h⟩=>by cases e;exact h,fun h=>⟨_,rfl,h⟩⟩
noncomputable abbrev Wo:=Option Int
noncomputable def wv:Wo->V
 | none=>.SR
 | some n=>.int n
noncomputable def num(w:Wo):Int:=w.getD 0
noncomputable def wk:Wo->Key
 | none=>.no
 | some n=>.inl n
noncomputable def yW(w:Wo):Prop:=∀ n,w=some n->-1000000000<=n/\n<=1000000000
theorem Ck{a b:Wo}(h:wv a=wv b):a=b:=by cases a<;>cases b<;>simp_all [wv]
theorem NU(w:Wo):kE (wv w)=some (wk w):=by cases w<;>rfl
theorem Fv:yW none:=fun _ h=>nomatch h
noncomputable def Qq:Sp:=fun vs H Q _=>∃ w:Wo,vs=[wv w]/\Q (.int (num w)) H
theorem Qe{w:Wo}{H:Hp}{Q:VK}{E:XK}:Qq [wv w] H Q E=Q (.int (num w)) H :=
 propext ⟨fun⟨u,e,h⟩=>by simp only[List.cons.injEq,and_true] at e;rw[Ck e];exact h,fun h=>⟨w,rfl,h⟩⟩
noncomputable def Qr:Sp:=fun vs H Q _=>∃ b:Bool,vs=[.bl b]/\Q (.int (if b=true then 1 else 0)) H
theorem Qf{b:Bool}{H:Hp}{Q:VK}{E:XK}:Qr [.bl b] H Q E=Q (.int (if b=true then 1 else 0)) H :=
 propext ⟨fun⟨u,e,h⟩=>by cases e;exact h,fun h=>⟨b,rfl,h⟩⟩
inductive Sg where
 | add|sub|mul|lt|eq
noncomputable def Sg.s:Sg->Str
 | .add=>"+" | .sub=>"-" | .mul=>"*" | .lt=>"<" | .eq=>"="
noncomputable def Sg.of(g:Sg)(a b:Wo):Int :=
 match g with
 | .add=>clamp (num a+num b) | .sub=>clamp (num a - num b) | .mul=>clamp (num a * num b) | .lt=>if num a < num b then 1 else 0 | .eq=>if a=b then 1 else 0
inductive Say where
 | num (n:Int)|SR|name (x:Str)|arg|now|Ti (s:Say)|neg (s:Say)|two (g:Sg) (a b:Say)
inductive aT(H:Hp):V->Say->Prop
 | num {a:Addr} {n:Int}:H a=some (.tup [.str "number",.int n])->aT H (.ref a) (.num n)
 | SR {a:Addr}:H a=some (.tup [.str "none"])->aT H (.ref a) .SR
 | name {a:Addr} {x:Str}:H a=some (.tup [.str "name",.str x])->aT H (.ref a) (.name x)
 | arg {a:Addr}:H a=some (.tup [.str "arg"])->aT H (.ref a) .arg
 | now {a:Addr}:H a=some (.tup [.str "now"])->aT H (.ref a) .now
 | Ti {a:Addr} {v:V} {s:Say}:H a=some (.tup [.str "answer",v])->aT H v s->aT H (.ref a) (.Ti s)
 | neg {a:Addr} {v:V} {s:Say}:H a=some (.tup [.str "not",v])->aT H v s->aT H (.ref a) (.neg s)
 | two {a:Addr} {v u:V} {g:Sg} {s r:Say}:H a=some (.tup [.str g.s,v,u])->aT H v s->aT H u r->aT H (.ref a) (.two g s r)
noncomputable def aH(H H':Hp):Prop:=∀ a xs,H a=some (.tup xs)->H' a=some (.tup xs)
theorem aT.kp{H H':Hp}{v:V}{s:Say}(h:aT H v s)(k:aH H H'):aT H' v s:=by
 induction h with
 | num e=>exact .num (k _ _ e)
 | SR e=>exact .SR (k _ _ e)
 | name e=>exact .name (k _ _ e)
 | arg e=>exact .arg (k _ _ e)
 | now e=>exact .now (k _ _ e)
 | Ti e _ ih=>exact .Ti (k _ _ e) ih
 | neg e _ ih=>exact .neg (k _ _ e) ih
 | two e _ _ i1 i2=>exact .two (k _ _ e) i1 i2
theorem aH.of{S:List Addr}{H H':Hp}(k:Kp S H H')(h:∀ a∈S,∃ o,H a=some o/\∀ xs,o≠.tup xs):aH H H':=fun a xs e=>k a _ e fun z=>by
 obtain⟨o,e',d⟩:=h a z;rw[e] at e';exact d xs (Option.some.inj e').symm
theorem aH.new{H:Hp}{p:Addr}{o:HO}(h:H p=none):aH H (SM H p o):=fun a xs e=>by rw[aY (aX e h)];exact e
theorem aH.trans{H H1 H2:Hp}(a:aH H H1)(b:aH H1 H2):aH H H2:=fun x xs e=>b x xs (a x xs e)
theorem aH.row{r:Addr}{H H':Hp}(k:Kp [r] H H')(R:bN H r):aH H H':=.of k fun a ha=>by
 obtain⟨c,l,f,e,_⟩:=R;have:a=r:=by simpa using ha
 exact⟨_,this▸e,fun _ h=>by cases h⟩
noncomputable def Say.depth:Say->Nat
 | .Ti s=>s.depth+1 | .neg s=>s.depth+1 | .two _ a b=>max a.depth b.depth+1 | .num _=>1 | .SR=>1 | .name _=>1 | .arg=>1 | .now=>1
noncomputable def Say.ok:Say->Prop
 | .num n=>-1000000000<=n/\n<=1000000000 | .Ti s=>s.ok | .neg s=>s.ok | .two _ a b=>a.ok/\b.ok|_=>True
theorem Say.wN(s:Say):1<=s.depth:=by cases s<;>simp[Say.depth]
structure Pl where
 nm:Str->Wo
 ar:Wo
 now:Int
 an:Wo->Wo
structure Pl.Ok(p:Pl):Prop where
 nm:∀ x,yW (p.nm x)
 ar:yW p.ar
 an:∀ w,yW (p.an w)
noncomputable def ev(p:Pl):Say->Wo
 | .num n=>some n
 | .SR=>none
 | .name x=>p.nm x
 | .arg=>p.ar
 | .now=>some (clamp p.now)
 | .Ti s=>p.an (ev p s)
 | .neg s=>some (if num (ev p s)=0 then 1 else 0)
 | .two g a b=>some (g.of (ev p a) (ev p b))
noncomputable def Hm(H:Hp)(d:Addr)(f:Str->Wo):Prop:=∃ SN,H d=some (.dK SN)/\∀ x,(cQ SN (.inr x)).getD .SR=wv (f x)
noncomputable def Hl(H:Hp)(d:Addr)(f:Wo->Wo):Prop:=∃ SN,H d=some (.dK SN)/\∀ w,(cQ SN (wk w)).getD .SR=wv (f w)
noncomputable def JG:Sp:=fun vs H Q _=>∃ r:Addr,vs=[.ref r]/\bN H r/\∀(w:Wo) (H':Hp),yW w->bN H' r->Kp [r] H H'->Q (wv w) H'
theorem Jr{r:Addr}{H:Hp}{Q:VK}{E:XK}:JG [.ref r] H Q E=(bN H r/\∀(w:Wo) (H':Hp),yW w->bN H' r->Kp [r] H H'->Q (wv w) H') :=
 propext ⟨fun⟨_,e,h⟩=>by cases e;exact h,fun h=>⟨_,rfl,h⟩⟩
noncomputable def rJ:List V:=[.str "order",.str "timer",.str "child",.str "send",.str "drop",.str "wait",.str "hear",.str "if",.str "else",.str "done",.str "while",.str "end",.str "none",.str "arg",.str "now",.str "answer",.str "not"]
noncomputable def Qs:Sp:=fun vs H Q _=>vs=[]/\∀(p:Addr) (H':Hp),H p=none->Kp [] H H'->H' p=some (.lst rJ)->Q (.ref p) H'
theorem Qg{H:Hp}{Q:VK}{E:XK}:Qs [] H Q E = ∀(p:Addr) (H':Hp),H p=none->Kp [] H H'->H' p=some (.lst rJ)->Q (.ref p) H':=propext ⟨fun h=>h.2,fun h=>⟨rfl,h⟩⟩
noncomputable def NJ(n:Nat):Sp:=fun vs H Q _=>∃ r:Addr,vs=[.ref r]/\bN H r/\∀(x:Str) (H':Hp),x.length<=n->bN H' r->Kp [r] H H'->Q (.str x) H'
theorem Nk{n:Nat}{r:Addr}{H:Hp}{Q:VK}{E:XK}:NJ n [.ref r] H Q E=(bN H r/\∀(x:Str) (H':Hp),x.length<=n->bN H' r->Kp [r] H H'->Q (.str x) H') :=
 propext ⟨fun⟨_,e,h⟩=>by cases e;exact h,fun h=>⟨_,rfl,h⟩⟩
noncomputable def cH(x:Str):Prop:=(decide (1<=x.length)&&(decide (x.length<=6)&&(x.cps.toList.all (fun c=>decide (97<=c)&&decide (c<=122))&&!b7 (.str x) rJ)))=true
theorem cH.len{x:Str}(h:cH x):x.length<=20:=by
 unfold cH at h;simp only[Bool.and_eq_true,decide_eq_true_eq] at h;omega
noncomputable def ND:Sp:=fun vs H Q _=>∃ r:Addr,vs=[.ref r]/\bN H r/\∀(x:Str) (H':Hp),cH x->bN H' r->Kp [r] H H'->Q (.str x) H'
theorem Ni{r:Addr}{H:Hp}{Q:VK}{E:XK}:ND [.ref r] H Q E=(bN H r/\∀(x:Str) (H':Hp),cH x->bN H' r->Kp [r] H H'->Q (.str x) H') :=
 propext ⟨fun⟨_,e,h⟩=>by cases e;exact h,fun h=>⟨_,rfl,h⟩⟩
theorem bD(a b:Str):(a++b).length=a.length+b.length:=by
 show(a.cps++b.cps).size=_;rw[Array.size_append];rfl
theorem DY(x:Str)(a b:Option Int):(Txt.slice x a b).length<=x.length:=Txt.slice_le x a b
structure Ec(H:Hp)(r nl lf:Addr)(dp:Int)(xs:List Str)(k:Int):Prop where
 row:bN H r
 lo:1<=dp
 hnl:H nl=some (.lst (xs.map V.str))
 l0:1<=xs.length
 l1:xs.length<=1000
 hlf:H lf=some (.lst [.int k])
 n1:nl≠r
 n2:lf≠r
 n3:nl≠lf
noncomputable def Say.nms:Say->List Str
 | .name x=>[x] | .Ti s=>s.nms | .neg s=>s.nms | .two _ a b=>a.nms++b.nms | .num _=>[] | .SR=>[] | .arg=>[] | .now=>[]
theorem aH.two{r lf:Addr}{H H':Hp}{k:Int}(x:Kp [r,lf] H H')(R:bN H r)(l:H lf=some (.lst [.int k])):aH H H':=.of x fun a ha=>by
 obtain⟨c,l',f,e,_⟩:=R;simp only[List.mem_cons,List.not_mem_nil,or_false] at ha;rcases ha with rfl|rfl
 ·exact⟨_,e,fun _ h=>by cases h⟩
 ·exact⟨_,l,fun _ h=>by cases h⟩
theorem Ec.kp{H H':Hp}{r nl lf:Addr}{dp:Int}{xs:List Str}{k k':Int}(I:Ec H r nl lf dp xs k)(x:Kp [r,lf] H H')(R:bN H' r)(l:H' lf=some (.lst [.int k'])){e:Int}(he:1<=e):Ec H' r nl lf e xs k' :=
 ⟨R,he,x _ _ I.hnl (by simp[I.n1,I.n3]),I.l0,I.l1,l,I.n1,I.n2,I.n3⟩
structure DOk(SN:List (Key×V)):Prop where
 val:∀ kv∈SN,∃ w,kv.2=wv w/\yW w
 nd:(SN.map (·.1)).Nodup
theorem DOk.nil:DOk []:=⟨fun _ h=>(by cases h),by simp⟩
theorem FI{SN:List (Key×V)}{k:Key}{v:V}{kv:Key×V}(h:kv∈iY SN k v):kv=(k,v)\/kv∈SN:=by
 unfold iY at h;split at h
 ·obtain⟨y,hy,e⟩:=List.mem_map.mp h;by_cases c:y.1=k
  ·rw[if_pos c] at e;exact .inl (by rw[<- e,c])
  ·rw[if_neg c] at e;exact .inr (e▸hy)
 ·rcases List.mem_append.mp h with h|h
  ·exact .inr h
  ·exact .inl (by simpa using h)
theorem DE(SN:List (Key×V))(k:Key)(v:V)(h:(SN.any fun kv=>decide (kv.1=k))=true):(iY SN k v).map (·.1)=SN.map (·.1):=by
 unfold iY;rw[if_pos h,List.map_map];refine List.map_congr_left fun kv _=>?_;simp only[Function.comp];split<;>rfl
theorem DOk.put{SN:List (Key×V)}(h:DOk SN)(k:Key){w:Wo}(hw:yW w):DOk (iY SN k (wv w)):=by
  refine⟨fun kv hm=>?_,?_⟩
  · rcases FI hm with e|e
    · exact⟨w,by rw[e],hw⟩
    · exact h.val kv e
  · cases e:(SN.any fun kv=>decide (kv.1=k)) with
    | true=>rw[DE SN k _ e];exact h.nd
    | false=>exact Jf _ h.nd (by
        rw[lN] at e;cases q:cQ SN k with
        | none=>rfl
        | some z=>rw[q] at e;cases e)
noncomputable def Sz:V->Wo
 | .int n=>some n
 | _=>none
theorem NV(w:Wo):Sz (wv w)=w:=by cases w<;>rfl
noncomputable def look(SN:List (Key×V))(k:Key):Wo:=Sz ((cQ SN k).getD .SR)
theorem Hb{SN:List (Key×V)}{k:Key}{v:V}(h:cQ SN k=some v):(k,v)∈SN:=by
 unfold cQ at h;obtain⟨kv,e,rfl⟩:=Option.map_eq_some_iff.mp h;have h1:=List.mem_of_find?_eq_some e;have h2:kv.1=k:=by simpa using List.find?_some e
 rw[<- h2];exact h1
theorem DOk.look{SN:List (Key×V)}(h:DOk SN)(k:Key):(cQ SN k).getD .SR=wv (look SN k)/\yW (look SN k):=by
 unfold Own.look;cases e:cQ SN k with
 | none=>exact⟨rfl,Fv⟩
 | some v =>
  obtain⟨w,e2,hw⟩:=h.val _ (Hb e);have e3:v=wv w:=e2;subst e3;rw[Option.getD_some,NV];exact⟨rfl,hw⟩
theorem DOk.nm{H:Hp}{d:Addr}{SN:List (Key×V)}(h:DOk SN)(e:H d=some (.dK SN)):Hm H d (fun x=>Own.look SN (.inr x)):=⟨SN,e,fun x=>(h.look _).1⟩
theorem DOk.an{H:Hp}{d:Addr}{SN:List (Key×V)}(h:DOk SN)(e:H d=some (.dK SN)):Hl H d (fun w=>Own.look SN (wk w)):=⟨SN,e,fun x=>(h.look _).1⟩
theorem _root_.L2.Kp.free{S:List Addr}{H H':Hp}{a p:Addr}{o:HO}(k:Kp S H H')(e:H a=some o)(n:a∉S)(h:H' p=none):a≠p:=aX (k a o e n) h
noncomputable def JA:Sp:=fun vs H Q _=>∃ a b:Wo,vs=[wv a,wv b]/\Q (.bl (decide (a=b))) H
theorem Jp{a b:Wo}{H:Hp}{Q:VK}{E:XK}:JA [wv a,wv b] H Q E=Q (.bl (decide (a=b))) H :=
 propext ⟨fun⟨c,d,e,h⟩=>by simp only[List.cons.injEq,and_true] at e;rw[Ck e.1,Ck e.2];exact h,fun h=>⟨a,b,rfl,h⟩⟩
theorem EH(ns:List Int)(lo hi:Option Int):∃ ms:List Int,kM (ns.map V.int) lo hi=ms.map V.int/\ms.length<=ns.length:=by
 unfold kM;rw[<- List.map_drop,<- List.map_take];exact⟨_,rfl,by rw[List.length_take,List.length_drop];omega⟩
theorem II{ms:List Int}{i:Nat}{y:V}(h:(ms.map V.int)[i]?=some y):∃ z:Int,y=.int z:=by
 rw[List.getElem?_map] at h;cases e:ms[i]? with
 | none=>rw[e] at h;cases h
 | some z=>rw[e] at h;exact⟨z,(Option.some.inj h).symm⟩
theorem Hm.kp{H H':Hp}{S:List Addr}{d:Addr}{f:Str->Wo}(h:Hm H d f)(k:Kp S H H')(n:d∉S):Hm H' d f:=by
 obtain⟨SN,e,q⟩:=h;exact⟨SN,k _ _ e n,q⟩
theorem Hl.kp{H H':Hp}{S:List Addr}{d:Addr}{f:Wo->Wo}(h:Hl H d f)(k:Kp S H H')(n:d∉S):Hl H' d f:=by
 obtain⟨SN,e,q⟩:=h;exact⟨SN,k _ _ e n,q⟩
theorem GB{a b:String}:(Str.ofString a==Str.ofString b)=decide (a=b):=by
 by_cases h:a=b
 ·subst h;simp
 ·rw[decide_eq_false h];exact beq_eq_false_iff_ne.mpr (fun z=>h (by rwa [fE] at z))
theorem aH.nil{H H':Hp}(k:Kp [] H H'):aH H H':=fun a xs e=>k a _ e (by simp)
theorem slen(x:String):(Str.ofString x).length=x.length:=PySem.ofString_length x
theorem ilen{n:Int}(h0:-1000000002<=n)(h1:n<=1000000002):(Str.ofString (toString n)).length<=20:=by
 rw[slen];cases n with
 | ofNat m =>
  show(Nat.repr m).length<=20;have:(Nat.repr m).length<=19:=(Nat.length_repr_le_iff (by decide)).mpr (by have:(Int.ofNat m)=(m:Int):=rfl;omega);omega
 | negSucc m =>
  show("-"++Nat.repr (m+1)).length<=20;have:(Nat.repr (m+1)).length<=19:=(Nat.length_repr_le_iff (by decide)).mpr (by
   have:Int.negSucc m = -((m:Int)+1):=by omega
   omega)
  rw[String.length_append];show 1+_<=20;omega
theorem ilog{n:Int}(h0:-1000000002<=n)(h1:n<=1000000002):n.natAbs.log2 < 1920:=by
 have h:n.natAbs < 2 ^ 1920:=Nat.lt_of_le_of_lt (show n.natAbs<=1000000002 by omega) (Nat.lt_of_lt_of_le (show 1000000002 < 2 ^ 30 by decide) (Nat.pow_le_pow_right (by decide) (by decide)));by_cases z:n.natAbs=0
 ·rw[z];decide
 ·exact(Nat.log2_lt z).mpr h
noncomputable def wd:Say->Str
 | .num n=>Str.ofString (toString n)
 | .SR=>"none"
 | .name x=>x
 | .arg=>"arg"
 | .now=>"now"
 | .Ti s=>("answer":Str)++" "++wd s
 | .neg s=>("not":Str)++" "++wd s
 | .two g a b=>("( ":Str)++wd a++" "++g.s++" "++wd b++" )"
noncomputable def Say.okL:Say->Prop
 | .num n=>-1000000002<=n/\n<=1000000002 | .Ti s=>s.okL | .neg s=>s.okL | .two _ a b=>a.okL/\b.okL|_=>True
noncomputable def Say.sh(s:Say):Prop:=s.okL/\∀ x∈s.nms,cH x
theorem lens:("none":Str).length=4/\("arg":Str).length=3/\("now":Str).length=3/\("answer":Str).length=6/\("not":Str).length=3/\("( ":Str).length=2/\(" ":Str).length=1/\(" )":Str).length=2:=by decide +kernel
theorem Sg.len(g:Sg):g.s.length=1:=by cases g<;>decide +kernel
theorem NT{s:Say}(h:s.sh):(wd s).length+7<=27 * 2 ^ s.depth:=by
 induction s with
 | num n =>
  have:=ilen h.1.1 h.1.2;simp only[wd,Say.depth];omega
 | SR=>simp only[wd,Say.depth,lens.1];omega
 | name x =>
  have:=(h.2 x (by simp[Say.nms])).len;simp only[wd,Say.depth];omega
 | arg=>simp only[wd,Say.depth,lens.2.1];omega
 | now=>simp only[wd,Say.depth,lens.2.2.1];omega
 | Ti s ih =>
  have:=ih ⟨h.1,h.2⟩;simp only[wd,Say.depth,bD,lens.2.2.2.1,lens.2.2.2.2.2.2.1,Nat.pow_succ];omega
 | neg s ih =>
  have:=ih ⟨h.1,h.2⟩;simp only[wd,Say.depth,bD,lens.2.2.2.2.1,lens.2.2.2.2.2.2.1,Nat.pow_succ];omega
 | two g a b i1 i2 =>
  have h1:=i1 ⟨h.1.1,fun x hx=>h.2 x (List.mem_append_left _ hx)⟩;have h2:=i2 ⟨h.1.2,fun x hx=>h.2 x (List.mem_append_right _ hx)⟩;have p1:2 ^ a.depth<=2 ^ max a.depth b.depth:=Nat.pow_le_pow_right (by decide) (Nat.le_max_left _ _);have p2:2 ^ b.depth<=2 ^ max a.depth b.depth:=Nat.pow_le_pow_right (by decide) (Nat.le_max_right _ _);simp only[wd,Say.depth,bD,lens.2.2.2.2.2.1,lens.2.2.2.2.2.2,g.len,Nat.pow_succ];omega
theorem eT{s:Say}(h:s.sh)(d:s.depth<=8):(wd s).length<=7000:=by
 have h1:=NT h;have h2:2 ^ s.depth<=2 ^ 8:=Nat.pow_le_pow_right (by decide) d;omega
noncomputable def zU(d:Nat):Sp:=fun vs H Q _=>∃(v:V) (s:Say),vs=[v]/\aT H v s/\s.depth<=d/\s.depth<=8/\s.sh/\∀ H',Kp [] H H'->Q (.str (wd s)) H'
theorem iV{x a b:String}:b7 (.str (Str.ofString x)) [.str (Str.ofString a),.str (Str.ofString b)]=(decide (a=x)||decide (b=x)):=by
 simp only[b7,cO,eM,List.any_cons,List.any_nil,Bool.or_false,GB]
theorem tR{x a b c d:String}:b7 (.str (Str.ofString x)) [.str (Str.ofString a),.str (Str.ofString b),.str (Str.ofString c),.str (Str.ofString d)]=(decide (a=x)||(decide (b=x)||(decide (c=x)||decide (d=x)))):=by
 simp only[b7,cO,eM,List.any_cons,List.any_nil,Bool.or_false,GB]
theorem flat2{a b:Str}:([.str a,.str b]:List V).all b8=true:=rfl
theorem flat4{a b c d:Str}:([.str a,.str b,.str c,.str d]:List V).all b8=true:=rfl
inductive Stm where
 | set (x:Str) (s:Say)|order (x y:Str) (s:Say)|SU (x:Str) (s:Say)|child (x y:Str) (s:Say)|send (s:Say) (k:Str) (r:Say)|drop (s:Say)
 | wait (x:Str) (ss:List Say)|SX (x k:Str)|fin (s:Say)|S1 (s:Say) (b:List Stm)|iff (s:Say) (b o:List Stm)
inductive dC(H:Hp):List V->List Say->Prop
 | nil:dC H [] []
 | cons {v:V} {vs:List V} {s:Say} {ss:List Say}:aT H v s->dC H vs ss->dC H (v::vs) (s::ss)
theorem dC.kp{H H':Hp}{vs:List V}{ss:List Say}(h:dC H vs ss)(k:aH H H'):dC H' vs ss:=by
 induction h with
 | nil=>exact .nil
 | cons a _ ih=>exact .cons (a.kp k) ih
mutual
inductive bQ(H:Hp):V->Stm->Prop
 | set {a:Addr} {x:Str} {v:V} {s:Say}:H a=some (.tup [.str "set",.str x,v])->aT H v s->bQ H (.ref a) (.set x s)
 | order {a:Addr} {x y:Str} {v:V} {s:Say}:H a=some (.tup [.str "order",.str x,.str y,v])->aT H v s->bQ H (.ref a) (.order x y s)
 | SU {a:Addr} {x:Str} {v:V} {s:Say}:H a=some (.tup [.str "timer",.str x,v])->aT H v s->bQ H (.ref a) (.SU x s)
 | child {a:Addr} {x y:Str} {v:V} {s:Say}:H a=some (.tup [.str "child",.str x,.str y,v])->aT H v s->bQ H (.ref a) (.child x y s)
 | send {a:Addr} {k:Str} {v u:V} {s r:Say}:H a=some (.tup [.str "send",v,.str k,u])->aT H v s->aT H u r->bQ H (.ref a) (.send s k r)
 | drop {a:Addr} {v:V} {s:Say}:H a=some (.tup [.str "drop",v])->aT H v s->bQ H (.ref a) (.drop s)
 | wait {a p:Addr} {x:Str} {vs:List V} {ss:List Say}:H a=some (.tup [.str "wait",.str x,.ref p])->H p=some (.tup vs)->dC H vs ss->bQ H (.ref a) (.wait x ss)
 | SX {a:Addr} {x k:Str}:H a=some (.tup [.str "hear",.str x,.str k])->bQ H (.ref a) (.SX x k)
 | fin {a:Addr} {v:V} {s:Say}:H a=some (.tup [.str "end",v])->aT H v s->bQ H (.ref a) (.fin s)
 | S1 {a p:Addr} {v:V} {s:Say} {vs:List V} {b:List Stm}:H a=some (.tup [.str "while",v,.ref p])->aT H v s->H p=some (.tup vs)->aW H vs b->bQ H (.ref a) (.S1 s b)
 | iff {a p q:Addr} {v:V} {s:Say} {vs us:List V} {b o:List Stm}:H a=some (.tup [.str "if",v,.ref p,.ref q])->aT H v s->H p=some (.tup vs)->aW H vs b->H q=some (.tup us)->aW H us o->bQ H (.ref a) (.iff s b o)
inductive aW(H:Hp):List V->List Stm->Prop
 | nil:aW H [] []
 | cons {v:V} {vs:List V} {x:Stm} {xs:List Stm}:bQ H v x->aW H vs xs->aW H (v::vs) (x::xs)
end
theorem bQ.kp{H H':Hp}(k:aH H H'){v:V}{m:Stm}(h:bQ H v m):bQ H' v m :=
 bQ.rec (motive_1:=fun v m _=>bQ H' v m) (motive_2:=fun vs ms _=>aW H' vs ms)
  (fun e s=>.set (k _ _ e) (s.kp k)) (fun e s=>.order (k _ _ e) (s.kp k)) (fun e s=>.SU (k _ _ e) (s.kp k)) (fun e s=>.child (k _ _ e) (s.kp k))
  (fun e s r=>.send (k _ _ e) (s.kp k) (r.kp k)) (fun e s=>.drop (k _ _ e) (s.kp k)) (fun e f s=>.wait (k _ _ e) (k _ _ f) (s.kp k)) (fun e=>.SX (k _ _ e)) (fun e s=>.fin (k _ _ e) (s.kp k))
  (fun e s f _ b=>.S1 (k _ _ e) (s.kp k) (k _ _ f) b) (fun e s f _ f' _ b b'=>.iff (k _ _ e) (s.kp k) (k _ _ f) b (k _ _ f') b') .nil (fun _ _ a b=>.cons a b) h
theorem aW.kp{H H':Hp}(k:aH H H'){vs:List V}{ms:List Stm}(h:aW H vs ms):aW H' vs ms :=
 aW.rec (motive_1:=fun v m _=>bQ H' v m) (motive_2:=fun vs ms _=>aW H' vs ms)
  (fun e s=>.set (k _ _ e) (s.kp k)) (fun e s=>.order (k _ _ e) (s.kp k)) (fun e s=>.SU (k _ _ e) (s.kp k)) (fun e s=>.child (k _ _ e) (s.kp k))
  (fun e s r=>.send (k _ _ e) (s.kp k) (r.kp k)) (fun e s=>.drop (k _ _ e) (s.kp k)) (fun e f s=>.wait (k _ _ e) (k _ _ f) (s.kp k)) (fun e=>.SX (k _ _ e)) (fun e s=>.fin (k _ _ e) (s.kp k))
  (fun e s f _ b=>.S1 (k _ _ e) (s.kp k) (k _ _ f) b) (fun e s f _ f' _ b b'=>.iff (k _ _ e) (s.kp k) (k _ _ f) b (k _ _ f') b') .nil (fun _ _ a b=>.cons a b) h
noncomputable def glue(t:Str)(ys:List Str):Str:=ys.foldl (fun t y=>t++" "++y) t
noncomputable def Say.s6(s:Say):Prop:=s.sh/\s.depth<=8
noncomputable def Stm.hd:Stm->Str
 | .set x s=>x++" = "++wd s
 | .order x y s=>glue (x++" = "++"order") [y,wd s]
 | .SU x s=>glue (x++" = "++"timer") [wd s]
 | .child x y s=>glue (x++" = "++"child") [y,wd s]
 | .send s k r=>("send ":Str)++wd s++" "++k++" "++wd r
 | .drop s=>("drop":Str)++" "++wd s
 | .wait x ss=>glue (x++" = "++"wait") (ss.map wd)
 | .SX x k=>glue (x++" = "++"hear") [k]
 | .fin s=>("end":Str)++" "++wd s
 | .S1 s _=>("while":Str)++" "++wd s
 | .iff s _ _=>("if":Str)++" "++wd s
noncomputable def Stm.SS:Stm->Prop
 | .set x s=>cH x/\s.s6
 | .order x y s=>cH x/\cH y/\s.s6
 | .SU x s=>cH x/\s.s6
 | .child x y s=>cH x/\cH y/\s.s6
 | .send s k r=>s.s6/\cH k/\r.s6
 | .drop s=>s.s6
 | .wait x ss=>cH x/\(0<=ss.length/\ss.length<=6)/\∀ s∈ss,s.s6
 | .SX x k=>cH x/\cH k
 | .fin s=>s.s6
 | .S1 s _=>s.s6
 | .iff s _ _=>s.s6
noncomputable def mL(H:Hp)(v:V)(y:Str):Prop:=v=.str y/\cH y\/∃ s:Say,aT H v s/\s.s6/\y=wd s
theorem mL.kp{H H':Hp}{v:V}{y:Str}(h:mL H v y)(k:aH H H'):mL H' v y:=h.imp id fun⟨s,a,b⟩=>⟨s,a.kp k,b⟩
theorem mL.len{H:Hp}{v:V}{y:Str}(h:mL H v y):y.length<=7000:=by
 rcases h with⟨_,h⟩|⟨s,_,h,rfl⟩
 ·have:=h.len;omega
 ·exact eT h.1 h.2
inductive cR(H:Hp):List V->List Str->Prop
 | nil:cR H [] []
 | cons {v:V} {vs:List V} {y:Str} {ys:List Str}:mL H v y->cR H vs ys->cR H (v::vs) (y::ys)
theorem cR.at{H:Hp}{vs:List V}{ys:List Str}(h:cR H vs ys):∀ {i:Nat} {x:V},vs[i]?=some x->∃ y,ys[i]?=some y/\mL H x y:=by
 induction h with
 | nil=>intro i x e;simp at e
 | cons a _ ih =>
  intro i x e;cases i with
  | zero=>simp only[List.getElem?_cons_zero,Option.some.injEq] at e;subst e;exact⟨_,rfl,a⟩
  | succ i=>exact ih (by simpa using e)
theorem cR.len{H:Hp}{vs:List V}{ys:List Str}(h:cR H vs ys):ys.length=vs.length:=by
 induction h with
 | nil=>rfl
 | cons _ _ ih=>simp[ih]
theorem cR.all{H:Hp}{vs:List V}{ys:List Str}(h:cR H vs ys):∀ y∈ys,y.length<=7000:=by
 induction h with
 | nil=>intro y hy;cases hy
 | cons a _ ih =>
  intro y hy;rcases List.mem_cons.mp hy with rfl|hy
  ·exact a.len
  ·exact ih y hy
theorem B3{H:Hp}{vs:List V}{ss:List Say}(h:dC H vs ss)(a:∀ s∈ss,s.s6):cR H vs (ss.map wd):=by
 induction h with
 | nil=>exact .nil
 | cons b _ ih=>exact .cons (.inr ⟨_,b,a _ (by simp),rfl⟩) (ih fun s hs=>a s (List.mem_cons_of_mem _ hs))
theorem lU(t:Str)(l:List Str)(y:Str):glue t (l++[y])=glue t l++" "++y:=by simp[glue]
theorem tQ(t:Str):∀(l:List Str),(∀ y∈l,y.length<=7000)->(glue t l).length<=t.length+7001 * l.length:=by
 intro l
 induction l generalizing t with
 | nil=>intro _;exact Nat.le_refl _
 | cons y l ih =>
  intro h;have h1:=ih (t++" "++y) fun z hz=>h z (List.mem_cons_of_mem _ hz);have h2:=h y (by simp);have h3:(glue t (y::l))=glue (t++" "++y) l:=rfl;rw[h3];simp only[bD,lens.2.2.2.2.2.2.1,List.length_cons] at h1 ⊢;omega
theorem aT.tup{H:Hp}{v:V}{s:Say}(h:aT H v s):∃ a xs,v=.ref a/\H a=some (.tup xs):=by
 cases h<;>exact⟨_,_,rfl,by assumption⟩
theorem qL{l:List Str}{i:Nat}{y:Str}(h:l[i]?=some y):l.take (i+1)=l.take i++[y]:=by rw[List.take_add_one,h];rfl
theorem hlens:("send ":Str).length=5/\(" = ":Str).length=3/\("order":Str).length=5/\("timer":Str).length=5/\("child":Str).length=5/\("wait":Str).length=4/\("hear":Str).length=4/\("drop":Str).length=4/\("end":Str).length=3/\("while":Str).length=5/\("if":Str).length=2:=by decide +kernel
noncomputable def Stm.is4:Stm->Bool
 | .drop _=>true | .fin _=>true | .S1 _ _=>true | .iff _ _ _=>true|_=>false
theorem bQ.four{H:Hp}{v:V}{m:Stm}(h:bQ H v m)(hm:m.SS):m.is4=false\/∃(a:Addr) (w:Str) (u:V) (r:List V) (s:Say),v=.ref a/\H a=some (.tup (.str w::u::r))/\aT H u s/\b7 (.str w) [.str "if",.str "while",.str "drop",.str "end"]=true/\w.length<=5/\s.sh/\s.depth<=8/\m.hd=w++" "++wd s:=by
 have l:=hlens;cases h with
 | drop e s=>exact .inr ⟨_,_,_,_,_,rfl,e,s,by rw[tR];decide,by omega,hm.1,hm.2,rfl⟩
 | fin e s=>exact .inr ⟨_,_,_,_,_,rfl,e,s,by rw[tR];decide,by omega,hm.1,hm.2,rfl⟩
 | S1 e s f b=>exact .inr ⟨_,_,_,_,_,rfl,e,s,by rw[tR];decide,by omega,hm.1,hm.2,rfl⟩
 | iff e s f b f2 b2=>exact .inr ⟨_,_,_,_,_,rfl,e,s,by rw[tR];decide,by omega,hm.1,hm.2,rfl⟩
 | _=>exact .inl rfl
noncomputable def Stm.isL:Stm->Bool
 | .order _ _ _=>true | .child _ _ _=>true | .SU _ _=>true | .SX _ _=>true|_=>false
theorem cR.kp{H H':Hp}{vs:List V}{ys:List Str}(h:cR H vs ys)(k:aH H H'):cR H' vs ys:=by
 induction h with
 | nil=>exact .nil
 | cons a _ ih=>exact .cons (a.kp k) ih
theorem bQ.lop{H:Hp}{v:V}{m:Stm}(h:bQ H v m)(hm:m.SS):m.isL=false\/∃(a:Addr) (w x:Str) (r:List V) (ys:List Str),v=.ref a/\H a=some (.tup (.str w::.str x::r))/\cR H r ys/\cH x/\b7 (.str w) [.str "if",.str "while",.str "drop",.str "end"]=false/\((w=("send":Str))=False)/\((w=("set":Str))=False)/\((w=("wait":Str))=False)/\w.length<=5/\kM (.str w::.str x::r) (some 2) none=r/\r.length<=2/\ys.length<=4/\m.hd=glue (x++" = "++w) ys:=by
 have l:=hlens;cases h with
 | order e s=>exact .inr ⟨_,_,_,_,_,rfl,e,.cons (.inl ⟨rfl,hm.2.1⟩) (.cons (.inr ⟨_,s,hm.2.2,rfl⟩) .nil),hm.1,by rw[tR];decide,by simp only[fE,String.reduceEq],by simp only[fE,String.reduceEq],by simp only[fE,String.reduceEq],by omega,rfl,by simp,by simp,rfl⟩
 | child e s=>exact .inr ⟨_,_,_,_,_,rfl,e,.cons (.inl ⟨rfl,hm.2.1⟩) (.cons (.inr ⟨_,s,hm.2.2,rfl⟩) .nil),hm.1,by rw[tR];decide,by simp only[fE,String.reduceEq],by simp only[fE,String.reduceEq],by simp only[fE,String.reduceEq],by omega,rfl,by simp,by simp,rfl⟩
 | SU e s=>exact .inr ⟨_,_,_,_,_,rfl,e,.cons (.inr ⟨_,s,hm.2,rfl⟩) .nil,hm.1,by rw[tR];decide,by simp only[fE,String.reduceEq],by simp only[fE,String.reduceEq],by simp only[fE,String.reduceEq],by omega,rfl,by simp,by simp,rfl⟩
 | SX e=>exact .inr ⟨_,_,_,_,_,rfl,e,.cons (.inl ⟨rfl,hm.2⟩) .nil,hm.1,by rw[tR];decide,by simp only[fE,String.reduceEq],by simp only[fE,String.reduceEq],by simp only[fE,String.reduceEq],by omega,rfl,by simp,by simp,rfl⟩
 | _=>exact .inl rfl
noncomputable def NA:Sp:=fun vs H Q _=>∃(v:V) (m:Stm),vs=[v]/\bQ H v m/\m.SS/\∀ H',Kp [] H H'->Q (.str m.hd) H'
mutual
noncomputable def Stm.rows:Stm->List Str
 | .S1 s b=>((("while":Str)++" "++wd s)::aM b)++[("done":Str)]
 | .iff s b o=>(((("if":Str)++" "++wd s)::aM b)++(if o.isEmpty=true then [] else ("else":Str)::aM o))++[("done":Str)]
 | .set x s=>[(Stm.set x s).hd]
 | .order x y s=>[(Stm.order x y s).hd]
 | .SU x s=>[(Stm.SU x s).hd]
 | .child x y s=>[(Stm.child x y s).hd]
 | .send s k r=>[(Stm.send s k r).hd]
 | .drop s=>[(Stm.drop s).hd]
 | .wait x ss=>[(Stm.wait x ss).hd]
 | .SX x k=>[(Stm.SX x k).hd]
 | .fin s=>[(Stm.fin s).hd]
noncomputable def aM:List Stm->List Str
 | []=>[]
 | m::ms=>m.rows++aM ms
end
mutual
noncomputable def Stm.dp:Stm->Nat
 | .S1 _ b=>fJ b+1
 | .iff _ b o=>max (fJ b) (fJ o)+1
 | .set _ _=>0
 | .order _ _ _=>0
 | .SU _ _=>0
 | .child _ _ _=>0
 | .send _ _ _=>0
 | .drop _=>0
 | .wait _ _=>0
 | .SX _ _=>0
 | .fin _=>0
noncomputable def fJ:List Stm->Nat
 | []=>0
 | m::ms=>max m.dp (fJ ms)
end
mutual
noncomputable def Stm.sz:Stm->Nat
 | .S1 _ b=>cX b+1
 | .iff _ b o=>cX b+cX o+1
 | .set _ _=>1
 | .order _ _ _=>1
 | .SU _ _=>1
 | .child _ _ _=>1
 | .send _ _ _=>1
 | .drop _=>1
 | .wait _ _=>1
 | .SX _ _=>1
 | .fin _=>1
noncomputable def cX:List Stm->Nat
 | []=>0
 | m::ms=>m.sz+cX ms
end
mutual
noncomputable def Stm.wf:Stm->Prop
 | .S1 s b=>s.s6/\C7 b
 | .iff s b o=>s.s6/\C7 b/\C7 o
 | m=>m.SS
noncomputable def C7:List Stm->Prop
 | []=>True
 | m::ms=>m.wf/\C7 ms
end
theorem Stm.bZ{m:Stm}(h:m.wf):m.SS:=by
 cases m<;>simp only[Stm.wf,Stm.SS] at h ⊢<;>first|exact h|exact h.1
theorem xT:∀ a b:List Stm,aM (a++b)=aM a++aM b
 | [],b=>by simp[aM]
 | x::a,b=>by simp[aM,xT a b]
theorem r9:∀ a b:List Stm,cX (a++b)=cX a+cX b
 | [],b=>by simp[cX]
 | x::a,b=>by simp[cX,r9 a b];omega
theorem rN:∀ a b:List Stm,fJ (a++b)=max (fJ a) (fJ b)
 | [],b=>by simp[fJ]
 | x::a,b=>by simp[fJ,rN a b,Nat.max_assoc]
mutual
theorem Stm.A3:∀ m:Stm,m.rows.length<=3 * m.sz
 | .S1 s b=>by have:=eK b;simp only[Stm.rows,Stm.sz,List.length_append,List.length_cons,List.length_nil];omega
 | .iff s b o=>by
  have h1:=eK b;have h2:=eK o;simp only[Stm.rows,Stm.sz,List.length_append,List.length_cons,List.length_nil];split
  ·simp only[List.length_nil];omega
  ·simp only[List.length_cons];omega
 | .set _ _ | .order _ _ _ | .SU _ _ | .child _ _ _ | .send _ _ _ | .drop _ | .wait _ _ | .SX _ _ | .fin _=>by simp[Stm.rows,Stm.sz]
theorem eK:∀ b:List Stm,(aM b).length<=3 * cX b
 | []=>by simp[aM]
 | m::ms=>by
  have h1:=m.A3;have h2:=eK ms;simp only[aM,cX,List.length_append];omega
end
theorem _root_.L2.Kp.Ae{H H':Hp}{p:Addr}(k:Kp [] H H')(h:H' p=none):H p=none:=by
 cases e:H p with
 | none=>rfl
 | some o=>rw[k.at e] at h;cases h
theorem _root_.L2.Kp.Ju{H H':Hp}{p:Addr}{o:HO}(k:Kp [] H H')(h:H p=none):Kp [] H (SM H' p o):=fun a ob e _=>by
 rw[aY (aX e h)];exact k.at e
theorem aW.at{H:Hp}{vs:List V}{ms:List Stm}(h:aW H vs ms):∀ {i:Nat} {x:V},vs[i]?=some x->∃ m,ms[i]?=some m/\bQ H x m:=by
 induction ms generalizing vs with
 | nil=>cases h;intro i x e;simp at e
 | cons m ms ih =>
  cases h with
  | cons a b =>
   intro i x e;cases i with
   | zero=>simp only[List.getElem?_cons_zero,Option.some.injEq] at e;subst e;exact⟨_,rfl,a⟩
   | succ i=>exact ih b (by simpa using e)
theorem aW.len{H:Hp}{vs:List V}{ms:List Stm}(h:aW H vs ms):ms.length=vs.length:=by
 induction ms generalizing vs with
 | nil=>cases h;rfl
 | cons m ms ih =>
  cases h with
  | cons a b=>simp[ih b]
theorem QN{l:List Stm}{i:Nat}{y:Stm}(h:l[i]?=some y):l.take (i+1)=l.take i++[y]:=by rw[List.take_add_one,h];rfl
theorem P6:∀ {l:List Stm} {i:Nat} {y:Stm},l[i]?=some y->(C7 l->y.wf)/\y.dp<=fJ l/\cX (l.take i)+y.sz<=cX l
 | m::ms,0,y,h=>by
  simp only[List.getElem?_cons_zero,Option.some.injEq] at h;subst h;refine⟨fun w=>w.1,by simp only[fJ];omega,by simp only[cX,List.take_zero];omega⟩
 | m::ms,i+1,y,h=>by
  obtain⟨h1,h2,h3⟩:=P6 (l:=ms) (i:=i) (y:=y) (by simpa using h);refine⟨fun w=>h1 w.2,by simp only[fJ];omega,by simp only[cX,List.take_succ_cons];omega⟩
 | [],_,_,h=>by simp at h
noncomputable def Cb(d:Nat):Sp:=fun vs H Q _=>∃(p:Addr) (us:List V) (b:List Stm),vs=[.ref p]/\H p=some (.tup us)/\aW H us b/\C7 b/\fJ b < d/\cX b<=1000 /\
 ∀(l:Addr) (H':Hp),H l=none->Kp [] H H'->H' l=some (.lst ((aM b).map V.str))->Q (.ref l) H'
theorem Say.s6.len{s:Say}(h:s.s6):(wd s).length<=7000:=eT h.1 h.2
theorem Stm.cK{m:Stm}(h:m.SS):m.hd.length<=50000:=by
 obtain⟨_,_,_,_,_,lo,l1,lc⟩:=lens;obtain⟨W3,leq,W2,W4,W1,W5,VO,VN,lend,W6,lif⟩:=hlens;cases m with
 | set x s=>have:=h.2.len;have:=h.1.len;simp only[Stm.hd,bD];omega
 | send s k r=>have:=h.1.len;have:=h.2.2.len;have:=h.2.1.len;simp only[Stm.hd,bD];omega
 | drop s=>have:=Say.s6.len h;simp only[Stm.hd,bD];omega
 | fin s=>have:=Say.s6.len h;simp only[Stm.hd,bD];omega
 | S1 s b=>have:=Say.s6.len h;simp only[Stm.hd,bD];omega
 | iff s b o=>have:=Say.s6.len h;simp only[Stm.hd,bD];omega
 | order x y s=>have:=h.2.2.len;have:=h.1.len;have:=h.2.1.len;simp only[Stm.hd,glue,List.foldl_cons,List.foldl_nil,bD];omega
 | child x y s=>have:=h.2.2.len;have:=h.1.len;have:=h.2.1.len;simp only[Stm.hd,glue,List.foldl_cons,List.foldl_nil,bD];omega
 | SU x s=>have:=h.2.len;have:=h.1.len;simp only[Stm.hd,glue,List.foldl_cons,List.foldl_nil,bD];omega
 | SX x k=>have:=h.2.len;have:=h.1.len;simp only[Stm.hd,glue,List.foldl_cons,List.foldl_nil,bD];omega
 | wait x ss =>
  have h1:=tQ (x++" = "++"wait") (ss.map wd) fun y hy=>by
   obtain⟨s,hs,rfl⟩:=List.mem_map.mp hy;exact(h.2.2 s hs).len
  have:=h.1.len;have:=h.2.1;simp only[Stm.hd,bD,List.length_map] at h1 ⊢;omega
mutual
theorem Stm.B6:∀ {m:Stm},m.wf->∀ r∈m.rows,r.length<=50000
 | .S1 s b,h,r,hr=>by
  simp only[Stm.rows,List.mem_append,List.mem_cons,List.not_mem_nil,or_false] at hr;rcases hr with(rfl|hr)|rfl
  ·exact Stm.cK (m:=.S1 s b) h.1
  ·exact gQ h.2 r hr
  ·decide +kernel
 | .iff s b o,h,r,hr=>by
  simp only[Stm.rows,List.mem_append,List.mem_cons,List.not_mem_nil,or_false] at hr;rcases hr with((rfl|hr)|hr)|rfl
  ·exact Stm.cK (m:=.iff s b o) h.1
  ·exact gQ h.2.1 r hr
  ·split at hr
   ·cases hr
   ·rcases List.mem_cons.mp hr with rfl|hr
    ·decide +kernel
    ·exact gQ h.2.2 r hr
  ·decide +kernel
 | .set x s,h,r,hr=>by rw[show r=_ by simpa[Stm.rows] using hr];exact Stm.cK (Stm.bZ h)
 | .order x y s,h,r,hr=>by rw[show r=_ by simpa[Stm.rows] using hr];exact Stm.cK (Stm.bZ h)
 | .SU x s,h,r,hr=>by rw[show r=_ by simpa[Stm.rows] using hr];exact Stm.cK (Stm.bZ h)
 | .child x y s,h,r,hr=>by rw[show r=_ by simpa[Stm.rows] using hr];exact Stm.cK (Stm.bZ h)
 | .send s k u,h,r,hr=>by rw[show r=_ by simpa[Stm.rows] using hr];exact Stm.cK (Stm.bZ h)
 | .drop s,h,r,hr=>by rw[show r=_ by simpa[Stm.rows] using hr];exact Stm.cK (Stm.bZ h)
 | .wait x ss,h,r,hr=>by rw[show r=_ by simpa[Stm.rows] using hr];exact Stm.cK (Stm.bZ h)
 | .SX x k,h,r,hr=>by rw[show r=_ by simpa[Stm.rows] using hr];exact Stm.cK (Stm.bZ h)
 | .fin s,h,r,hr=>by rw[show r=_ by simpa[Stm.rows] using hr];exact Stm.cK (Stm.bZ h)
theorem gQ:∀ {b:List Stm},C7 b->∀ r∈aM b,r.length<=50000
 | [],_,r,hr=>by simp[aM] at hr
 | m::ms,h,r,hr=>by
  simp only[aM,List.mem_append] at hr;rcases hr with hr|hr
  ·exact Stm.B6 h.1 r hr
  ·exact gQ h.2 r hr
end
theorem xY{B:Nat}:∀ {ys:List Str},(∀ y∈ys,y.length<=B)->(ys.map fun z=>z.length).sum<=B * ys.length
 | [],_=>by simp
 | y::ys,h=>by
  have h1:=xY (ys:=ys) fun z hz=>h z (List.mem_cons_of_mem _ hz);have h2:=h y (by simp);simp only[List.map_cons,List.sum_cons,List.length_cons,Nat.mul_add,Nat.mul_one];omega
noncomputable def eE(b:List Stm):Str:=Txt.join "" ((aM b).map fun r:Str=>r++"\n")
noncomputable def JF:Sp:=fun vs H Q _=>∃(p:Addr) (us:List V) (b:List Stm),vs=[.ref p]/\H p=some (.tup us)/\aW H us b/\C7 b/\fJ b<=7/\cX b<=100/\∀ H',Kp [] H H'->Q (.str (eE b)) H'
theorem BJ:("\n":Str).length=1/\("":Str).length=0:=by decide +kernel
theorem aH.set{H:Hp}{l:Addr}{xs ys:List V}(e:H l=some (.lst xs)):aH H (SM H l (.lst ys)):=fun a zs h=>by
 rw[aY (xE h e (by intro z;cases z))];exact h
theorem aW.snoc{H:Hp}{us:List V}{b:List Stm}{v:V}{m:Stm}(h:aW H us b)(g:bQ H v m):aW H (us++[v]) (b++[m]):=by
 induction b generalizing us with
 | nil=>cases h;exact .cons g .nil
 | cons m ms ih =>
  cases h with
  | cons a b=>exact .cons a (ih b)
theorem Stm.Cd(m:Stm):1<=m.sz:=by cases m<;>simp[Stm.sz]
theorem g0(a b c:Str):a++b++c=a++(b++c):=by
 show(⟨a.cps++b.cps++c.cps⟩:Str)=⟨a.cps++(b.cps++c.cps)⟩;rw[Array.append_assoc]
noncomputable def jb(ws:List Str):Str:=Txt.join " " ws
theorem AD(ws:List Str):(jb ws).cps.toList=jn 32 (ws.map fun p=>p.cps.toList):=by
 unfold jb;rw[gY.2.1];exact nV 32 ws
theorem tU(w:Str):jb [w]=w:=l8 (by rw[AD];rfl)
theorem bP(w:Str){ws:List Str}(h:ws≠[]):jb (w::ws)=w++" "++jb ws:=by
 cases ws with
 | nil=>exact absurd rfl h
 | cons v r =>
  apply l8;rw[jN,jN,AD,AD,gY.2.1];simp[jn]
theorem tT:∀ {us ws:List Str},us≠[]->ws≠[]->jb (us++ws)=jb us++" "++jb ws
 | [],_,h,_=>absurd rfl h
 | [u],ws,_,h=>by rw[List.singleton_append,bP u h,tU]
 | u::v::r,ws,_,h=>by
  rw[List.cons_append,bP u (by simp),tT (us:=v::r) (by simp) h,bP u (ws:=v::r) (by simp)];simp only[g0]
noncomputable def sw:Say->List Str
 | .num n=>[Str.ofString (toString n)]
 | .SR=>["none"]
 | .name x=>[x]
 | .arg=>["arg"]
 | .now=>["now"]
 | .Ti s=>"answer"::sw s
 | .neg s=>"not"::sw s
 | .two g a b=>"("::(sw a++g.s::(sw b++[(")":Str)]))
theorem gS:∀ s:Say,sw s≠[]
 | .num _ | .SR | .name _ | .arg | .now | .Ti _ | .neg _ | .two _ _ _=>by simp[sw]
theorem Gm:("( ":Str)=("(":Str)++" "/\(" )":Str)=(" ":Str)++")":=by decide +kernel
theorem mK(s:Say):wd s=jb (sw s):=by
 induction s with
 | Ti s ih=>rw[sw,wd,bP _ (gS s),ih]
 | neg s ih=>rw[sw,wd,bP _ (gS s),ih]
 | two g a b i1 i2 =>
  rw[sw,wd,bP _ (by simp),tT (gS a) (by simp),bP _ (by simp),tT (gS b) (by simp),tU,i1,i2,Gm.1,Gm.2];simp only[g0]
 | _=>simp only[sw,wd,tU]
noncomputable def Stm.ws:Stm->List Str
 | .set x s=>x::"="::sw s
 | .order x y s=>x::"="::"order"::y::sw s
 | .SU x s=>x::"="::"timer"::sw s
 | .child x y s=>x::"="::"child"::y::sw s
 | .send s k r=>"send"::(sw s++k::sw r)
 | .drop s=>"drop"::sw s
 | .wait x ss=>x::"="::"wait"::(ss.map sw).flatten
 | .SX x k=>[x,"=","hear",k]
 | .fin s=>"end"::sw s
 | .S1 s _=>"while"::sw s
 | .iff s _ _=>"if"::sw s
theorem eqm:(" ":Str)++"="++" " = " = "/\("send":Str)++" " = "send ":=by decide +kernel
theorem jQ(x:Str):x++" = "=x++" "++"="++" ":=by rw[<- eqm.1];simp only[g0]
theorem IE(t:Str):∀ l:List (List Str),(∀ w∈l,w≠[])->glue t (l.map jb)=if l.flatten=[] then t else t++" "++jb l.flatten:=by
 intro l
 induction l generalizing t with
 | nil=>intro _;simp[glue]
 | cons w l ih =>
  intro h;have hw:=h w (by simp);show glue (t++" "++jb w) (l.map jb)=_;rw[ih _ fun z hz=>h z (List.mem_cons_of_mem _ hz)];have h1:(w::l).flatten≠[]:=by simp[hw]
  rw[if_neg h1];by_cases h2:l.flatten=[]
  ·rw[if_pos h2,List.flatten_cons,h2,List.append_nil]
  ·rw[if_neg h2,List.flatten_cons,tT hw h2];simp only[g0]
theorem Stm.wZ(m:Stm):m.hd=jb m.ws:=by
 cases m with
 | set x s=>simp only[Stm.hd,Stm.ws,bP _ (gS s),bP x (ws:="="::sw s) (by simp),mK,jQ,g0]
 | order x y s=>simp only[Stm.hd,Stm.ws,glue,List.foldl_cons,List.foldl_nil,bP _ (gS s),bP _ (ws:=_::_) (by simp),mK,jQ,g0]
 | child x y s=>simp only[Stm.hd,Stm.ws,glue,List.foldl_cons,List.foldl_nil,bP _ (gS s),bP _ (ws:=_::_) (by simp),mK,jQ,g0]
 | SU x s=>simp only[Stm.hd,Stm.ws,glue,List.foldl_cons,List.foldl_nil,bP _ (gS s),bP _ (ws:=_::_) (by simp),mK,jQ,g0]
 | send s k r=>simp only[Stm.hd,Stm.ws,bP _ (ws:=sw s++k::sw r) (by simp),tT (gS s) (ws:=k::sw r) (by simp),bP k (gS r),mK,<- eqm.2,g0]
 | drop s=>simp only[Stm.hd,Stm.ws,bP _ (gS s),mK]
 | fin s=>simp only[Stm.hd,Stm.ws,bP _ (gS s),mK]
 | S1 s b=>simp only[Stm.hd,Stm.ws,bP _ (gS s),mK]
 | iff s b o=>simp only[Stm.hd,Stm.ws,bP _ (gS s),mK]
 | SX x k=>simp only[Stm.hd,Stm.ws,glue,List.foldl_cons,List.foldl_nil,bP _ (ws:=_::_) (by simp),tU,jQ,g0]
 | wait x ss =>
  have e:ss.map wd=(ss.map sw).map jb:=by rw[List.map_map];exact List.map_congr_left fun s _=>mK s
  simp only[Stm.hd,Stm.ws];rw[e,IE _ _ fun w hw=>by obtain⟨s,_,rfl⟩:=List.mem_map.mp hw;exact gS s];split
  ·next h=>rw[h];simp only[bP _ (ws:=_::_) (by simp),tU,jQ,g0]
  ·next h=>simp only[bP _ (ws:=_::_) (by simp),bP _ h,jQ,g0]
noncomputable def Fr(w:Str):Prop:=32∉w.cps.toList/\10∉w.cps.toList
theorem Fr.nm{x:Str}(h:cH x):Fr x:=by
 unfold cH at h;simp only[Bool.and_eq_true] at h;have:=List.all_eq_true.mp h.2.2.1;refine⟨fun z=>?_,fun z=>?_⟩<;>(have:=this _ z;simp at this)
theorem Fr.int(n:Int):Fr (Str.ofString (toString n)):=⟨PyProof.Rows.int_text_free' 32 (by decide) n,PyProof.Rows.int_text_free' 10 (by decide) n⟩
theorem cG:Fr "none"/\Fr "arg"/\Fr "now"/\Fr "answer"/\Fr "not"/\Fr "("/\Fr ")"/\Fr "="/\Fr "order"/\Fr "timer"/\Fr "child"/\Fr "send"/\Fr "drop"/\Fr "wait"/\Fr "hear"/\Fr "end"/\Fr "while"/\Fr "if"/\Fr "else"/\Fr "done":=by
 have f:∀ {w:Str},(w.cps.toList.all fun c=>c !=32&&c !=10)=true->Fr w:=fun h=>by
  have:=List.all_eq_true.mp h;exact⟨fun z=>by have:=this _ z;simp at this,fun z=>by have:=this _ z;simp at this⟩
 exact⟨f (by decide +kernel),f (by decide +kernel),f (by decide +kernel),f (by decide +kernel),f (by decide +kernel),f (by decide +kernel),f (by decide +kernel),f (by decide +kernel),f (by decide +kernel),f (by decide +kernel),f (by decide +kernel),f (by decide +kernel),f (by decide +kernel),f (by decide +kernel),f (by decide +kernel),f (by decide +kernel),f (by decide +kernel),f (by decide +kernel),f (by decide +kernel),f (by decide +kernel)⟩
theorem PM(g:Sg):Fr g.s:=by
 cases g<;>(unfold Fr;decide +kernel)
theorem kT{s:Say}(hs:s.sh):∀ w∈sw s,Fr w:=by
 induction s with
 | num n=>intro w h;rw[show w=_ by simpa[sw] using h];exact Fr.int n
 | SR=>intro w h;rw[show w=_ by simpa[sw] using h];exact cG.1
 | name x=>intro w h;rw[show w=x by simpa[sw] using h];exact Fr.nm (hs.2 x (by simp[Say.nms]))
 | arg=>intro w h;rw[show w=_ by simpa[sw] using h];exact cG.2.1
 | now=>intro w h;rw[show w=_ by simpa[sw] using h];exact cG.2.2.1
 | Ti s ih =>
  intro w h;rcases List.mem_cons.mp h with rfl|h
  ·exact cG.2.2.2.1
  ·exact ih ⟨hs.1,hs.2⟩ w h
 | neg s ih =>
  intro w h;rcases List.mem_cons.mp h with rfl|h
  ·exact cG.2.2.2.2.1
  ·exact ih ⟨hs.1,hs.2⟩ w h
 | two g a b i1 i2 =>
  intro w h;simp only[sw,List.mem_cons,List.mem_append,List.not_mem_nil,or_false] at h;rcases h with rfl|h|rfl|h|rfl
  ·exact cG.2.2.2.2.2.1
  ·exact i1 ⟨hs.1.1,fun x hx=>hs.2 x (List.mem_append_left _ hx)⟩ w h
  ·exact PM g
  ·exact i2 ⟨hs.1.2,fun x hx=>hs.2 x (List.mem_append_right _ hx)⟩ w h
  ·exact cG.2.2.2.2.2.2.1
theorem JZ{m:Stm}(h:m.SS):∀ w∈m.ws,Fr w:=by
 obtain⟨_,_,_,_,_,_,_,Wr,YW,YX,YU,WH,WD,WI,WE,YV,YY,fif,_,_⟩:=cG;intro w hw;cases m with
 | set x s =>
  simp only[Stm.ws,List.mem_cons] at hw;rcases hw with rfl|rfl|hw
  ·exact Fr.nm h.1
  ·exact Wr
  ·exact kT h.2.1 w hw
 | order x y s =>
  simp only[Stm.ws,List.mem_cons] at hw;rcases hw with rfl|rfl|rfl|rfl|hw
  ·exact Fr.nm h.1
  ·exact Wr
  ·exact YW
  ·exact Fr.nm h.2.1
  ·exact kT h.2.2.1 w hw
 | child x y s =>
  simp only[Stm.ws,List.mem_cons] at hw;rcases hw with rfl|rfl|rfl|rfl|hw
  ·exact Fr.nm h.1
  ·exact Wr
  ·exact YU
  ·exact Fr.nm h.2.1
  ·exact kT h.2.2.1 w hw
 | SU x s =>
  simp only[Stm.ws,List.mem_cons] at hw;rcases hw with rfl|rfl|rfl|hw
  ·exact Fr.nm h.1
  ·exact Wr
  ·exact YX
  ·exact kT h.2.1 w hw
 | send s k r =>
  simp only[Stm.ws,List.mem_cons,List.mem_append] at hw;rcases hw with rfl|hw|rfl|hw
  ·exact WH
  ·exact kT h.1.1 w hw
  ·exact Fr.nm h.2.1
  ·exact kT h.2.2.1 w hw
 | drop s =>
  rcases List.mem_cons.mp hw with rfl|hw
  ·exact WD
  ·exact kT h.1 w hw
 | fin s =>
  rcases List.mem_cons.mp hw with rfl|hw
  ·exact YV
  ·exact kT h.1 w hw
 | S1 s b =>
  rcases List.mem_cons.mp hw with rfl|hw
  ·exact YY
  ·exact kT h.1 w hw
 | iff s b o =>
  rcases List.mem_cons.mp hw with rfl|hw
  ·exact fif
  ·exact kT h.1 w hw
 | SX x k =>
  simp only[Stm.ws,List.mem_cons,List.not_mem_nil,or_false] at hw;rcases hw with rfl|rfl|rfl|rfl
  ·exact Fr.nm h.1
  ·exact Wr
  ·exact WE
  ·exact Fr.nm h.2
 | wait x ss =>
  simp only[Stm.ws,List.mem_cons] at hw;rcases hw with rfl|rfl|rfl|hw
  ·exact Fr.nm h.1
  ·exact Wr
  ·exact WI
  ·obtain⟨l,hl,hw⟩:=List.mem_flatten.mp hw;obtain⟨s,hs,rfl⟩:=List.mem_map.mp hl;exact kT (h.2.2 s hs).1 w hw
theorem KJ(m:Stm):∃ a b r,m.ws=a::b::r:=by
 have sp:∀ s:Say,∃ b r,sw s=b::r:=fun s=>by
  cases h:sw s with
  | nil=>exact absurd h (gS s)
  | cons b r=>exact⟨b,r,rfl⟩
 cases m with
 | drop s=>obtain⟨b,r,e⟩:=sp s;exact⟨"drop",b,r,by rw[Stm.ws,e]⟩
 | fin s=>obtain⟨b,r,e⟩:=sp s;exact⟨"end",b,r,by rw[Stm.ws,e]⟩
 | S1 s b=>obtain⟨b,r,e⟩:=sp s;exact⟨"while",b,r,by rw[Stm.ws,e]⟩
 | iff s b o=>obtain⟨b,r,e⟩:=sp s;exact⟨"if",b,r,by rw[Stm.ws,e]⟩
 | send s k r=>obtain⟨b,t,e⟩:=sp s;exact⟨"send",b,t++k::sw r,by rw[Stm.ws,e];rfl⟩
 | _=>exact⟨_,_,_,rfl⟩
theorem kX{m:Stm}(h:m.SS):Txt.split m.hd " "=m.ws:=by
 rw[Stm.wZ,jb,gY.2.1];obtain⟨a,b,r,e⟩:=KJ m;exact xW (by rw[e];simp) fun w hw=>(JZ h w hw).1
theorem FH{c k:Nat}:∀ {l:List (List Nat)},k∈jn c l->k=c\/∃ w∈l,k∈w
 | [],h=>by simp[jn] at h
 | [w],h=>.inr ⟨w,by simp,h⟩
 | w::v::r,h=>by
  rcases List.mem_append.mp (show k∈w++c::jn c (v::r) from h) with h|h
  ·exact .inr ⟨w,by simp,h⟩
  ·rcases List.mem_cons.mp h with h|h
   ·exact .inl h
   ·rcases FH h with h|⟨z,hz,h⟩
    ·exact .inl h
    ·exact .inr ⟨z,List.mem_cons_of_mem _ hz,h⟩
theorem kW{m:Stm}(h:m.SS):10∉m.hd.cps.toList:=by
 rw[Stm.wZ,AD];intro z;rcases FH z with z|⟨w,hw,z⟩
 ·cases z
 ·obtain⟨p,hp,rfl⟩:=List.mem_map.mp hw;exact(JZ h p hp).2 z
theorem Fm(m:Stm):32∈m.hd.cps.toList:=by
 rw[Stm.wZ,AD];obtain⟨a,b,r,e⟩:=KJ m;rw[e];simp[jn]
theorem yS{m:Stm}{x:String}(h:32∉(Str.ofString x).cps.toList):m.hd≠Str.ofString x:=fun e=>h (e▸Fm m)
mutual
theorem Stm.Jw:∀ {m:Stm},m.wf->∀ r∈m.rows,10∉r.cps.toList
 | .S1 s b,h,r,hr=>by
  simp only[Stm.rows,List.mem_append,List.mem_cons,List.not_mem_nil,or_false] at hr;rcases hr with(rfl|hr)|rfl
  ·exact kW (m:=.S1 s b) h.1
  ·exact lD h.2 r hr
  ·exact cG.2.2.2.2.2.2.2.2.2.2.2.2.2.2.2.2.2.2.2.2
 | .iff s b o,h,r,hr=>by
  simp only[Stm.rows,List.mem_append,List.mem_cons,List.not_mem_nil,or_false] at hr;rcases hr with((rfl|hr)|hr)|rfl
  ·exact kW (m:=.iff s b o) h.1
  ·exact lD h.2.1 r hr
  ·split at hr
   ·cases hr
   ·rcases List.mem_cons.mp hr with rfl|hr
    ·exact cG.2.2.2.2.2.2.2.2.2.2.2.2.2.2.2.2.2.2.1.2
    ·exact lD h.2.2 r hr
  ·exact cG.2.2.2.2.2.2.2.2.2.2.2.2.2.2.2.2.2.2.2.2
 | .set x s,h,r,hr=>by rw[show r=_ by simpa[Stm.rows] using hr];exact kW (Stm.bZ h)
 | .order x y s,h,r,hr=>by rw[show r=_ by simpa[Stm.rows] using hr];exact kW (Stm.bZ h)
 | .SU x s,h,r,hr=>by rw[show r=_ by simpa[Stm.rows] using hr];exact kW (Stm.bZ h)
 | .child x y s,h,r,hr=>by rw[show r=_ by simpa[Stm.rows] using hr];exact kW (Stm.bZ h)
 | .send s k u,h,r,hr=>by rw[show r=_ by simpa[Stm.rows] using hr];exact kW (Stm.bZ h)
 | .drop s,h,r,hr=>by rw[show r=_ by simpa[Stm.rows] using hr];exact kW (Stm.bZ h)
 | .wait x ss,h,r,hr=>by rw[show r=_ by simpa[Stm.rows] using hr];exact kW (Stm.bZ h)
 | .SX x k,h,r,hr=>by rw[show r=_ by simpa[Stm.rows] using hr];exact kW (Stm.bZ h)
 | .fin s,h,r,hr=>by rw[show r=_ by simpa[Stm.rows] using hr];exact kW (Stm.bZ h)
theorem lD:∀ {b:List Stm},C7 b->∀ r∈aM b,10∉r.cps.toList
 | [],_,r,hr=>by simp[aM] at hr
 | m::ms,h,r,hr=>by
  simp only[aM,List.mem_append] at hr;rcases hr with hr|hr
  ·exact Stm.Jw h.1 r hr
  ·exact lD h.2 r hr
end
theorem uY{b:List Stm}(h:C7 b):Txt.split (eE b) "\n"=aM b++[("":Str)]:=y8 (lD h)
noncomputable def BK(x:Str):Bool:=decide (1<=x.length)&&(decide (x.length<=6)&&(x.cps.toList.all (fun c=>decide (97<=c)&&decide (c<=122))&&!b7 (.str x) rJ))
theorem m4{x:Str}:cH x↔BK x=true:=Iff.rfl
theorem g8{x:Str}(h:cH x){l:List V}(hl:∀ v∈l,v∈rJ):b7 (.str x) l=false:=by
 unfold cH at h;simp only[Bool.and_eq_true,Bool.not_eq_true'] at h;have h1:=h.2.2.2;rw[Bool.eq_false_iff] at h1 ⊢;intro z;apply h1;obtain⟨v,hv,e⟩:=List.any_eq_true.mp z;exact List.any_eq_true.mpr ⟨v,hl v hv,e⟩
theorem FX{x:Str}(h:cH x){y:String}(hy:(.str (Str.ofString y):V)∈rJ):(x=Str.ofString y)=False:=by
 have:=g8 h (l:=[.str (Str.ofString y)]) (by simpa using hy);refine eq_false fun e=>?_;subst e;simp[b7,cO,eM] at this
theorem FW{x:Str}(h:cH x):x.cps.toList≠[]/\∀ c∈x.cps.toList,97<=c/\c<=122:=by
 unfold cH at h;simp only[Bool.and_eq_true,decide_eq_true_eq] at h;refine⟨fun z=>?_,fun c hc=>?_⟩
 ·have:x.length=0:=by show x.cps.size=0;rw[<- Array.length_toList,z];rfl
  omega
 ·have:=List.all_eq_true.mp h.2.2.1 c hc;simpa using this
theorem M8{x:Str}(h:cH x):(x = "(")=False:=eq_false fun e=>by
 subst e;have:=(FW h).2 40 (by decide +kernel);omega
theorem M7{x:Str}(h:cH x)(lo hi:Int):k6 x lo hi=false:=by
 obtain⟨h1,h2⟩:=FW h;unfold k6;cases e:x.cps.toList with
 | nil=>exact absurd e h1
 | cons c r =>
  have hc:=h2 c (by rw[e];simp);have ef:gW (c::r)=c::r:=by
   unfold gW;split
   ·next z=>simp only[List.cons.injEq] at z;omega
   ·rfl
  have:¬ (48<=c/\c<=57):=by omega
  have h3:(decide (48<=c)&&decide (c<=57))=false:=by
   rw[Bool.and_eq_false_iff];simp only[decide_eq_false_iff_not];omega
  simp only[ef,List.all_cons,h3,Bool.false_and,Bool.and_false]
theorem gX{n:Int}{x:String}(k:Nat)(hk:k∈(Str.ofString x).cps.toList)(h:k≠45/\(k < 48\/57 < k)):(Str.ofString (toString n)=Str.ofString x)=False:=eq_false fun e=>PyProof.Rows.int_text_free' k h n (by rw[e];exact hk)
theorem CG(n:Int):b7 (.str (Str.ofString (toString n))) [.str "none",.str "arg",.str "now"]=false:=by
 have h1:=gX (n:=n) (x:="none") 110 (by decide +kernel) (by decide);have h2:=gX (n:=n) (x:="arg") 97 (by decide +kernel) (by decide);have h3:=gX (n:=n) (x:="now") 110 (by decide +kernel) (by decide);simp only[b7,List.any_cons,List.any_nil,cO,eM,Bool.or_false,Bool.or_eq_false_iff,beq_eq_false_iff_ne];exact⟨fun z=>(h1▸z.symm),fun z=>(h2▸z.symm),fun z=>(h3▸z.symm)⟩
theorem CF(n:Int):b7 (.str (Str.ofString (toString n))) [.str "answer",.str "not"]=false:=by
 have h1:=gX (n:=n) (x:="answer") 110 (by decide +kernel) (by decide);have h2:=gX (n:=n) (x:="not") 110 (by decide +kernel) (by decide);simp only[b7,List.any_cons,List.any_nil,cO,eM,Bool.or_false,Bool.or_eq_false_iff,beq_eq_false_iff_ne];exact⟨fun z=>(h1▸z.symm),fun z=>(h2▸z.symm)⟩
theorem IG(n:Int):b7 (.str (Str.ofString (toString n))) [.str "order",.str "child",.str "timer",.str "wait",.str "hear"]=false:=by
 have h1:=gX (n:=n) (x:="order") 114 (by decide +kernel) (by decide);have h2:=gX (n:=n) (x:="child") 99 (by decide +kernel) (by decide);have h3:=gX (n:=n) (x:="timer") 114 (by decide +kernel) (by decide);have h4:=gX (n:=n) (x:="wait") 97 (by decide +kernel) (by decide);have h5:=gX (n:=n) (x:="hear") 97 (by decide +kernel) (by decide);simp only[b7,List.any_cons,List.any_nil,cO,eM,Bool.or_false,Bool.or_eq_false_iff,beq_eq_false_iff_ne];exact⟨fun z=>(h1▸z.symm),fun z=>(h2▸z.symm),fun z=>(h3▸z.symm),fun z=>(h4▸z.symm),fun z=>(h5▸z.symm)⟩
theorem Fs{n:Int}(h0:-1000000000<=n)(h1:n<=1000000000):k6 (Str.ofString (toString n)) (-1000000000) 1000000000=true:=by
 have hr:=lX n (Nat.lt_of_le_of_lt (show n.natAbs<=1000000000 by omega) (by decide));have hL:(Str.ofString (toString (if (1000000000:Int) > - -1000000000 then (1000000000:Int) else - -1000000000))).length=10:=by decide +kernel
 have hd:(List.all · fun c=>decide (48<=c)&&decide (c<=57))=(List.all · fun c=>decide (48<=c)&&decide (c<=57)):=rfl;have all:∀ m:Nat,(SY m).all (fun c=>decide (48<=c)&&decide (c<=57))=true:=fun m=>List.all_eq_true.mpr fun c hc=>by have:=jD m c hc;simpa using this
 have zero:("0":Str).cps.toList=[48]:=by decide +kernel
 unfold k6;rw[hr,hL];cases n with
 | ofNat m =>
  have e:(Str.ofString (toString (Int.ofNat m))).cps.toList=SY m:=rP m;have hm:m < 10 ^ 10:=by have:(Int.ofNat m)=(m:Int):=rfl;omega
  have Zz:(SY m).length<=10:=(gM (by decide)).mpr hm;have l1:1<=(SY m).length:=by
   cases hz:SY m with
   | nil=>exact absurd hz (nO m)
   | cons _ _=>simp
  have ef:gW (SY m)=SY m:=by
   unfold gW;split
   ·next z=>have:=jD m 45 (by rw[z];simp);omega
   ·rfl
  have z0:(decide ((SY m)[0]?=some 48)&&!decide (Str.ofString (toString (Int.ofNat m)) = "0"))=false:=by
   rw[Bool.and_eq_false_iff];by_cases hz:(SY m)[0]?=some 48
   ·right;have:∃ cs,SY m=48::cs:=by
     cases hq:SY m with
     | nil=>rw[hq] at hz;cases hz
     | cons a cs=>rw[hq] at hz;simp only[List.getElem?_cons_zero,Option.some.injEq] at hz;exact⟨cs,by rw[hz]⟩
    obtain⟨cs,hc⟩:=this;have m0:=wO hc;subst m0;decide +kernel
   ·left;simpa using hz
  simp only[e,ef,l1,Zz,all,z0,decide_true,Bool.true_and,Bool.not_false,Bool.and_true,Bool.and_eq_true,decide_eq_true_eq];exact⟨h0,h1⟩
 | negSucc m =>
  have e:=yV m;have hm:m+1 < 10 ^ 10:=by
   have:Int.negSucc m = -((m:Int)+1):=by omega
   omega
  have Zz:(SY (m+1)).length<=10:=(gM (by decide)).mpr hm;have l1:1<=(SY (m+1)).length:=by
   cases hz:SY (m+1) with
   | nil=>exact absurd hz (nO _)
   | cons _ _=>simp
  have ef:gW (45::SY (m+1))=SY (m+1):=rfl;have z0:(decide ((SY (m+1))[0]?=some 48)&&!decide (Str.ofString (toString (Int.negSucc m)) = "0"))=false:=by
   rw[Bool.and_eq_false_iff];left;simp only[decide_eq_false_iff_not];intro hz;have:∃ cs,SY (m+1)=48::cs:=by
    cases hq:SY (m+1) with
    | nil=>rw[hq] at hz;cases hz
    | cons a cs=>rw[hq] at hz;simp only[List.getElem?_cons_zero,Option.some.injEq] at hz;exact⟨cs,by rw[hz]⟩
   obtain⟨cs,hc⟩:=this;have:=wO hc;omega
  simp only[e,ef,l1,Zz,all,z0,decide_true,Bool.true_and,Bool.not_false,Bool.and_true,Bool.and_eq_true,decide_eq_true_eq];exact⟨h0,h1⟩
theorem IK{α:Type}(z1 z2:α){c:Prop}{inst:Decidable c}{A1 A2 B:Prop}{R:α->Prop}(h1:c->A1/\A2)(h2:¬ c->B)(hR:∀ z,z=(@ite α c inst z1 z2)->R z):@ite Prop c inst (A1/\A2/\R z1) (B/\R z2):=by
 by_cases h:c
 ·rw[if_pos h];exact⟨(h1 h).1,(h1 h).2,hR z1 (if_pos h).symm⟩
 ·rw[if_neg h];exact⟨h2 h,hR z2 (if_neg h).symm⟩
noncomputable def Ka:Sp:=fun vs H Q _=>∃ c:Nat,vs=[.str ⟨#[c]⟩]/\Q (.bl (decide (97<=c)&&decide (c<=122))) H
noncomputable def J9:Sp:=fun vs H Q _=>∃ c:Nat,vs=[.str ⟨#[c]⟩]/\Q (.bl (decide (48<=c)&&decide (c<=57))) H
theorem Qd{c:Nat}{H:Hp}{Q:VK}{E:XK}:Ka [.str ⟨#[c]⟩] H Q E=Q (.bl (decide (97<=c)&&decide (c<=122))) H:=propext ⟨fun⟨_,e,h⟩=>by cases e;exact h,fun h=>⟨_,rfl,h⟩⟩
theorem Qc{c:Nat}{H:Hp}{Q:VK}{E:XK}:J9 [.str ⟨#[c]⟩] H Q E=Q (.bl (decide (48<=c)&&decide (c<=57))) H:=propext ⟨fun⟨_,e,h⟩=>by cases e;exact h,fun h=>⟨_,rfl,h⟩⟩
noncomputable def A6:Sp:=fun vs H Q _=>∃ x:Str,vs=[.str x]/\x.length<=8000000/\∀ H',Kp [] H H'->Q (.bl (BK x)) H'
theorem Gw{x:Str}{H:Hp}{Q:VK}{E:XK}:A6 [.str x] H Q E=(x.length<=8000000/\∀ H',Kp [] H H'->Q (.bl (BK x)) H'):=propext ⟨fun⟨_,e,h⟩=>by cases e;exact h,fun h=>⟨_,rfl,h⟩⟩
noncomputable def CW:Sp:=fun vs H Q _=>∃(x:Str) (lo hi:Int),vs=[.str x,.int lo,.int hi]/\x.length<=8000000/\(-1000000000<=lo/\lo<=0/\0<=hi/\hi<=1000000000000)/\∀ H',Kp [] H H'->Q (.bl (k6 x lo hi)) H'
theorem Jq{x:Str}{lo hi:Int}{H:Hp}{Q:VK}{E:XK}:CW [.str x,.int lo,.int hi] H Q E=(x.length<=8000000/\(-1000000000<=lo/\lo<=0/\0<=hi/\hi<=1000000000000)/\∀ H',Kp [] H H'->Q (.bl (k6 x lo hi)) H') :=
 propext ⟨fun⟨_,_,_,e,h⟩=>by cases e;exact h,fun h=>⟨_,_,_,rfl,h⟩⟩
theorem mlog{n:Int}(h0:0<=n)(h1:n<=1000000000000):n.natAbs.log2 < 1920:=by
 have h:n.natAbs < 2 ^ 1920:=Nat.lt_of_le_of_lt (show n.natAbs<=1000000000000 by omega) (Nat.lt_of_lt_of_le (show 1000000000000 < 2 ^ 40 by decide) (Nat.pow_le_pow_right (by decide) (by decide)));by_cases z:n.natAbs=0
 ·rw[z];decide
 ·exact(Nat.log2_lt z).mpr h
theorem mlen{n:Int}(h0:0<=n)(h1:n<=1000000000000):(Str.ofString (toString n)).length<=13:=by
 obtain⟨m,rfl⟩:∃ m:Nat,n=(m:Int):=⟨n.toNat,by omega⟩;show(Str.ofString (toString (m:Int))).cps.size<=13;rw[<- Array.length_toList,rP];exact(gM (by decide)).mpr (by omega)
theorem tJ(l:List Nat):l.length<=(gW l).length+1:=by
 unfold gW;split<;>simp
theorem Ga{x:Str}(h:∀ c∈gW x.cps.toList,48<=c/\c<=57)(hn:gW x.cps.toList≠[])(hl:(gW x.cps.toList).length<=100):∃ n,intText? x=some n:=by
 have hx:x.length=x.cps.toList.length:=by show x.cps.size=_;rw[Array.length_toList]
 have Zg:=tJ x.cps.toList;cases e:x.cps.toList with
 | nil=>rw[e] at hn;exact absurd rfl hn
 | cons c r =>
  by_cases hc:c=45
  ·subst hc;rw[e] at h hn;exact⟨_,intText_neg e h hn (by omega)⟩
  ·have ef:gW (c::r)=c::r:=by
    unfold gW;split
    ·next z=>simp only[List.cons.injEq] at z;exact absurd z.1 hc
    ·rfl
   rw[e,ef] at h hn;exact⟨_,intText_digits (by rw[e];exact h) (by rw[e];exact hn) (by omega)⟩
theorem y9(a b:Nat):(decide (([a]:List Nat) < [b]))=decide (a < b):=by
 rw[Bool.eq_iff_iff,decide_eq_true_eq,decide_eq_true_eq];constructor
 ·intro h;cases h with
  | rel h=>exact h
  | cons h=>cases h
 ·exact fun h=>.rel h
theorem own17:rJ.all b8=true:=by decide
theorem Fp{x a b c:String}:b7 (.str (Str.ofString x)) [.str (Str.ofString a),.str (Str.ofString b),.str (Str.ofString c)]=(decide (a=x)||(decide (b=x)||decide (c=x))):=by
 simp only[b7,cO,eM,List.any_cons,List.any_nil,Bool.or_false,GB]
theorem flat3{a b c:Str}:([.str a,.str b,.str c]:List V).all b8=true:=rfl
theorem flat5{a b c d e:Str}:([.str a,.str b,.str c,.str d,.str e]:List V).all b8=true:=rfl
theorem aH.w{wl:Addr}{H H':Hp}{xs:List V}(k:Kp [wl] H H')(e:H wl=some (.lst xs)):aH H H':=fun a ys h=>k a _ h (by
 simp only[List.mem_cons,List.not_mem_nil,or_false];exact xE h e (by intro z;cases z))
theorem Say.v3(s:Say):(∃ w:Str,sw s=[w]/\(∀(H:Hp) (a:Addr),H a=some (.tup [.str w])->aT H (.ref a) s)/\b7 (.str w) [.str "none",.str "arg",.str "now"]=true)\/(s≠.SR/\s≠.arg/\s≠.now):=by
 cases s with
 | SR=>exact .inl ⟨_,rfl,fun _ _ e=>.SR e,by rw[Fp];decide⟩
 | arg=>exact .inl ⟨_,rfl,fun _ _ e=>.arg e,by rw[Fp];decide⟩
 | now=>exact .inl ⟨_,rfl,fun _ _ e=>.now e,by rw[Fp];decide⟩
 | _=>exact .inr ⟨nofun,nofun,nofun⟩
theorem Say.v2(s:Say):(∃(w:Str) (s1:Say),sw s=w::sw s1/\s.depth=s1.depth+1/\(s.sh->s1.sh)/\(∀(H:Hp) (a:Addr) (v:V),H a=some (.tup [.str w,v])->aT H v s1->aT H (.ref a) s)/\b7 (.str w) [.str "none",.str "arg",.str "now"]=false/\b7 (.str w) [.str "answer",.str "not"]=true)\/(∀ s1,s≠.Ti s1/\s≠.neg s1):=by
 cases s with
 | Ti s1=>exact .inl ⟨_,s1,rfl,rfl,fun h=>⟨h.1,h.2⟩,fun _ _ _ e h=>.Ti e h,by rw[Fp];decide,by rw[iV];decide⟩
 | neg s1=>exact .inl ⟨_,s1,rfl,rfl,fun h=>⟨h.1,h.2⟩,fun _ _ _ e h=>.neg e h,by rw[Fp];decide,by rw[iV];decide⟩
 | _=>exact .inr fun _=>⟨nofun,nofun⟩
theorem J8(g:Sg):b7 (.str g.s) [.str "+",.str "-",.str "*",.str "<",.str "="]=true:=by cases g<;>decide +kernel
theorem _root_.L2.Kp.mE{a:Addr}{H:Hp}{o:HO}:Kp [a] H (SM H a o):=Kp.set (by simp)
noncomputable def Stm.SW:Stm->Bool
 | .S1 _ _=>true | .iff _ _ _=>true
 | .set _ _=>false | .order _ _ _=>false | .SU _ _=>false | .child _ _ _=>false | .wait _ _=>false | .SX _ _=>false | .send _ _ _=>false | .drop _=>false | .fin _=>false
noncomputable abbrev l5:List V:=[.str "order",.str "child",.str "timer",.str "wait",.str "hear"]
theorem uX{s:Say}(h:s.sh):∃ w r,sw s=w::r/\b7 (.str w) l5=false:=by
 cases s with
 | num n=>exact⟨_,_,rfl,IG n⟩
 | name x=>exact⟨_,_,rfl,g8 (h.2 x (by simp[Say.nms])) (by decide)⟩
 | _=>exact⟨_,_,rfl,by decide +kernel⟩
theorem dC.Qo{H:Hp}{vs:List V}{ss:List Say}{v:V}{s:Say}(h:dC H vs ss)(a:aT H v s):dC H (vs++[v]) (ss++[s]):=by
 induction h with
 | nil=>exact .cons a .nil
 | cons b _ ih=>exact .cons b ih
theorem dC.ln{H:Hp}{vs:List V}{ss:List Say}(h:dC H vs ss):vs.length=ss.length:=by
 induction h with
 | nil=>rfl
 | cons _ _ ih=>simp[ih]
theorem CN{x:Str}(h:k6 x (-1000000000) 1000000000=true):∃ i:Int,intText? x=some i/\x.length<=640:=by
 unfold k6 at h;simp only[Bool.and_eq_true] at h;obtain⟨⟨⟨⟨h1,h2⟩,h3⟩,h4⟩,h5⟩:=h;cases e:intText? x with
 | none=>rw[e] at h5;cases h5
 | some i =>
  refine⟨i,rfl,?_⟩;have hL:(Str.ofString (toString (if (1000000000:Int) > - -1000000000 then (1000000000:Int) else - -1000000000))).length=10:=by decide +kernel
  rw[hL,decide_eq_true_eq] at h2;have:=tJ x.cps.toList;have lx:x.length=x.cps.toList.length:=by rw[Array.length_toList];rfl
  omega
noncomputable def leaf3(w:Str):Say:=if w = "none" then .SR else if w = "arg" then .arg else .now
noncomputable def un2(w:Str)(s:Say):Say:=if w = "answer" then .Ti s else .neg s
noncomputable def Nt(w:Str):Sg:=if w = "+" then .add else if w = "-" then .sub else if w = "*" then .mul else if w = "<" then .lt else .eq
noncomputable abbrev R9:List V:=[.str "+",.str "-",.str "*",.str "<",.str "="]
noncomputable abbrev l3:List V:=[.str "none",.str "arg",.str "now"]
noncomputable abbrev l2:List V:=[.str "answer",.str "not"]
noncomputable def iE(f:List Str->Option (Say×List Str))(r:List Str):Option (Say×List Str) :=
 match f r with
 | some (a,g::r2)=>(match f r2 with
  | some (b,c::r4)=>if b7 (.str g) R9=true/\c = ")" then some (.two (Nt g) a b,r4) else none
  | _=>none)
 | _=>none
noncomputable def cJ:Nat->List Str->Option (Say×List Str)
 | 0,_=>none
 | _+1,[]=>none
 | d+1,w::r =>
  if b7 (.str w) l3=true then some (leaf3 w,r)
  else if b7 (.str w) l2=true then (match cJ d r with
   | some (s,r')=>some (un2 w s,r')
   | none=>none)
  else if w = "(" then iE (cJ d) r
  else if k6 w (-1000000000) 1000000000=true then some (.num ((intText? w).getD 0),r)
  else if BK w=true then some (.name w,r)
  else none
theorem fA(d:Nat)(w:Str)(r:List Str):cJ (d+1) (w::r)=if b7 (.str w) l3=true then some (leaf3 w,r)
    else if b7 (.str w) l2=true then (match cJ d r with
      | some (s,r')=>some (un2 w s,r')
      | none=>none)
    else if w = "(" then iE (cJ d) r
    else if k6 w (-1000000000) 1000000000=true then some (.num ((intText? w).getD 0),r)
    else if BK w=true then some (.name w,r)
    else none:=rfl
noncomputable def j7:List Str->Option (Str×List Str)
 | []=>none
 | w::r=>if BK w=true then some (w,r) else none
theorem oC(w:Str)(r:List Str):j7 (w::r)=if BK w=true then some (w,r) else none:=rfl
noncomputable def iQ:Nat->List Say->List Str->Option (List Say×List Str)
 | 0,ss,ws=>some (ss,ws)
 | _+1,ss,[]=>some (ss,[])
 | n+1,ss,w::ws=>match cJ 6 (w::ws) with
  | some (s,r)=>iQ n (ss++[s]) r
  | none=>none
noncomputable def eV(ws:List Str):Option (List Say×List Str):=match cJ 6 ws with
 | some (s,r)=>iQ 3 [s] r
 | none=>none
noncomputable def m6(x:Str):List Str->Option (Stm×List Str)
  | []=>none
  | k::r=>if b7 (.str k) l5=false then (match cJ 6 (k::r) with
      | some (s,r')=>some (.set x s,r')
      | none=>none)
    else if k = "timer" then (match cJ 6 r with
      | some (s,r')=>some (.SU x s,r')
      | none=>none)
    else if k = "wait" then (match eV r with
      | some (ss,r')=>some (.wait x ss,r')
      | none=>none)
    else if k = "hear" then (match j7 r with
      | some (y,r')=>some (.SX x y,r')
      | none=>none)
    else match j7 r with
      | some (y,r1)=>(match cJ 6 r1 with
        | some (s,r')=>some (if k = "order" then .order x y s else .child x y s,r')
        | none=>none)
      | none=>none
noncomputable def dY:List Str->Option (Stm×List Str)
  | []=>none
  | f::r=>if f = "send" then (match cJ 6 r with
      | some (a,r1)=>(match j7 r1 with
        | some (k,r2)=>(match cJ 6 r2 with
          | some (b,r')=>some (.send a k b,r')
          | none=>none)
        | none=>none)
      | none=>none)
    else if f = "drop"\/f = "end" then (match cJ 6 r with
      | some (s,r')=>some (if f = "drop" then .drop s else .fin s,r')
      | none=>none)
    else if BK f=true then (match r with
      | []=>none
      | e::r1=>if e = "=" then m6 f r1 else none)
    else none
theorem aT.l3{H:Hp}{a:Addr}{w:Str}(h:b7 (.str w) l3=true)(e:H a=some (.tup [.str w])):aT H (.ref a) (leaf3 w):=by
 unfold leaf3;split
 ·next z=>subst z;exact .SR e
 ·split
  ·next z=>subst z;exact .arg e
  ·next h1 h2 =>
   have:w = "now":=by
    simp only[b7,List.any_cons,List.any_nil,cO,eM,Bool.or_false,Bool.or_eq_true,beq_iff_eq] at h;rcases h with h|h|h
    ·exact absurd h.symm h1
    ·exact absurd h.symm h2
    ·exact h.symm
   subst this;exact .now e
theorem aT.l2{H:Hp}{a:Addr}{w:Str}{v:V}{s:Say}(h:b7 (.str w) l2=true)(e:H a=some (.tup [.str w,v]))(hv:aT H v s):aT H (.ref a) (un2 w s):=by
 unfold un2;split
 ·next z=>subst z;exact .Ti e hv
 ·next h1 =>
  have:w = "not":=by
   simp only[b7,List.any_cons,List.any_nil,cO,eM,Bool.or_false,Bool.or_eq_true,beq_iff_eq] at h;rcases h with h|h
   ·exact absurd h.symm h1
   ·exact h.symm
  subst this;exact .neg e hv
theorem Ca{w:Str}(h:b7 (.str w) R9=true):(Nt w).s=w:=by
 simp only[b7,List.any_cons,List.any_nil,cO,eM,Bool.or_false,Bool.or_eq_true,beq_iff_eq] at h;rcases h with rfl|rfl|rfl|rfl|rfl<;>decide +kernel
noncomputable def WL(ws:List Str):Prop:=∀ w∈ws,w.length<=8000000
theorem WL.tl{w:Str}{ws:List Str}(h:WL (w::ws)):WL ws:=fun x hx=>h x (List.mem_cons_of_mem _ hx)
theorem WL.hd{w:Str}{ws:List Str}(h:WL (w::ws)):w.length<=8000000:=h w List.mem_cons_self
theorem oE:∀ {d:Nat} {ws:List Str} {s:Say} {r:List Str},cJ d ws=some (s,r)->∃ u,ws=u++r
 | 0,_,_,_,h=>by cases h
 | _+1,[],_,_,h=>by cases h
 | d+1,w::ws,s,r,h=>by
  rw[fA] at h;split at h
  ·cases h;exact⟨[w],rfl⟩
  split at h
  ·split at h
   ·next s1 r1 e =>
    cases h;obtain⟨u,rfl⟩:=oE e;exact⟨w::u,rfl⟩
   ·cases h
  split at h
  ·unfold iE at h;split at h
   ·next a g r2 e =>
    split at h
    ·next b c r4 e2 =>
     split at h
     ·cases h;obtain⟨u,hu⟩:=oE e;obtain⟨u2,hu2⟩:=oE e2;exact⟨w::(u++g::(u2++[c])),by rw[hu,hu2];simp⟩
     ·cases h
    ·cases h
   ·cases h
  split at h
  ·cases h;exact⟨[w],rfl⟩
  split at h
  ·cases h;exact⟨[w],rfl⟩
  ·cases h
theorem WL.say{d:Nat}{ws r:List Str}{s:Say}(h:WL ws)(e:cJ d ws=some (s,r)):WL r:=by
 obtain⟨u,rfl⟩:=oE e;exact fun w hw=>h w (List.mem_append_right _ hw)
noncomputable def Kc(C:Addr):Sp:=fun vs H Q E=>on1 vs fun x=>aO x fun a=>bF (H a) fun xs=>Rg xs (E (.ref C) none H) fun v r=>Q v (SM H a (.lst r))
theorem Qh{C a:Addr}{H:Hp}{Q:VK}{E:XK}:Kc C [.ref a] H Q E=bF (H a) fun xs=>Rg xs (E (.ref C) none H) fun v r=>Q v (SM H a (.lst r)):=rfl
noncomputable def JC(C:Addr):Sp:=fun vs H Q E=>∃(a:Addr) (xs:List V),vs=[.ref a]/\H a=some (.lst xs)/\(xs=[]->Q .SR H)/\(xs≠[]->E (.ref C) none H)
noncomputable def GJ(C:Addr)(d:Nat):Sp:=fun vs H Q E=>∃(wl:Addr) (dp:Int) (ws:List Str),vs=[.ref wl,.int dp]/\H wl=some (.lst (ws.map V.str))/\dp+d=7/\WL ws /\
 (∀(s:Say) (r:List Str),cJ d ws=some (s,r)->∀(v:V) (H':Hp),aT H' v s->H' wl=some (.lst (r.map V.str))->Kp [wl] H H'->Q v H')/\(cJ d ws=none->∀ H',Kp [wl] H H'->E (.ref C) none H')
noncomputable def Kb(C:Addr)(d:Nat):Sp:=fun vs H Q E=>∃ d':Nat,d=d'+1/\GJ C d' vs H Q E
noncomputable def Qu(C:Addr)(d:Nat):Sp:=fun vs H Q E=>∃(d':Nat) (wl:Addr) (dp:Int) (ws:List Str),d=d'+1/\vs=[.ref wl,.int dp]/\H wl=some (.lst (ws.map V.str))/\dp+d'=7/\WL ws /\
 (∀(s:Say) (r:List Str),iE (cJ d') ws=some (s,r)->∀(v:V) (H':Hp),aT H' v s->H' wl=some (.lst (r.map V.str))->Kp [wl] H H'->Q v H')/\(iE (cJ d') ws=none->∀ H',Kp [wl] H H'->E (.ref C) none H')
noncomputable def Qv(C:Addr):Sp:=fun vs H Q E=>∃(wl:Addr) (ws:List Str),vs=[.ref wl]/\H wl=some (.lst (ws.map V.str))/\WL ws /\
 (∀(x:Str) (r:List Str),j7 ws=some (x,r)->∀ H',H' wl=some (.lst (r.map V.str))->Kp [wl] H H'->Q (.str x) H')/\(j7 ws=none->∀ H',Kp [wl] H H'->E (.ref C) none H')
theorem WL.name{ws r:List Str}{x:Str}(h:WL ws)(e:j7 ws=some (x,r)):WL r:=by
 cases ws with
 | nil=>cases e
 | cons w ws =>
  rw[oC] at e;split at e
  ·cases e;exact h.tl
  ·cases e
theorem P4{wl:Addr}{H G:Hp}{o:HO}(k:Kp [] (SM H wl o) G):Kp [wl] H G:=Kp.mE.trans (Kp.of k.same)
noncomputable def NH(C:Addr):Sp:=fun vs H Q E=>∃(wl:Addr) (ws:List Str),vs=[.ref wl]/\H wl=some (.lst (ws.map V.str))/\WL ws /\
 (∀(ss:List Say) (r:List Str),eV ws=some (ss,r)->∀(p:Addr) (us:List V) (H':Hp),H' p=some (.tup us)->dC H' us ss->H' wl=some (.lst (r.map V.str))->Kp [wl] H H'->Q (.ref p) H')/\(eV ws=none->∀ H',Kp [wl] H H'->E (.ref C) none H')
noncomputable def Qt(C:Addr):Sp:=fun vs H Q E=>∃(wl:Addr) (x:Str) (ws:List Str),vs=[.str x,.ref wl]/\H wl=some (.lst (ws.map V.str))/\WL ws /\
 (∀(m:Stm) (r:List Str),m6 x ws=some (m,r)->∀(v:V) (H':Hp),bQ H' v m->H' wl=some (.lst (r.map V.str))->Kp [wl] H H'->Q v H')/\(m6 x ws=none->∀ H',Kp [wl] H H'->E (.ref C) none H')
noncomputable def Qw(C:Addr):Sp:=fun vs H Q E=>∃(wl:Addr) (ws:List Str),vs=[.ref wl]/\H wl=some (.lst (ws.map V.str))/\WL ws /\
 (∀(m:Stm) (r:List Str),dY ws=some (m,r)->∀(v:V) (H':Hp),bQ H' v m->H' wl=some (.lst (r.map V.str))->Kp [wl] H H'->Q v H')/\(dY ws=none->∀ H',Kp [wl] H H'->E (.ref C) none H')
theorem lZ(n:Nat)(ss:List Say)(w:Str)(ws:List Str):iQ (n+1) ss (w::ws)=match cJ 6 (w::ws) with
    | some (s,r)=>iQ n (ss++[s]) r
    | none=>none:=rfl
theorem zJ(n:Nat)(ss:List Say):iQ n ss []=some (ss,[]):=by cases n<;>rfl
theorem dJ(x k:Str)(r:List Str):m6 x (k::r)=if b7 (.str k) l5=false then (match cJ 6 (k::r) with
      | some (s,r')=>some (.set x s,r')
      | none=>none)
    else if k = "timer" then (match cJ 6 r with
      | some (s,r')=>some (.SU x s,r')
      | none=>none)
    else if k = "wait" then (match eV r with
      | some (ss,r')=>some (.wait x ss,r')
      | none=>none)
    else if k = "hear" then (match j7 r with
      | some (y,r')=>some (.SX x y,r')
      | none=>none)
    else match j7 r with
      | some (y,r1)=>(match cJ 6 r1 with
        | some (s,r')=>some (if k = "order" then .order x y s else .child x y s,r')
        | none=>none)
      | none=>none:=rfl
theorem gA(f:Str)(r:List Str):dY (f::r)=if f = "send" then (match cJ 6 r with
      | some (a,r1)=>(match j7 r1 with
        | some (k,r2)=>(match cJ 6 r2 with
          | some (b,r')=>some (.send a k b,r')
          | none=>none)
        | none=>none)
      | none=>none)
    else if f = "drop"\/f = "end" then (match cJ 6 r with
      | some (s,r')=>some (if f = "drop" then .drop s else .fin s,r')
      | none=>none)
    else if BK f=true then (match r with
      | []=>none
      | e::r1=>if e = "=" then m6 f r1 else none)
    else none:=rfl
theorem MR{p q A B:Prop}{d1:Decidable p}{d2:Decidable q}(h:p\/q)(a:A):@ite Prop p d1 A (@ite Prop q d2 A B):=by
 split
 ·exact a
 ·next z=>rw[if_pos (h.resolve_left z)];exact a
theorem PZ:b7 (.str "") l5=false:=by decide +kernel
structure fT(C:Addr)(H:Hp)(rd dx ll:Addr)(rows:List Str)(i k:Nat):Prop where
 ins:H rd=some (.ins C dx [("lines",.ref ll),("lines_read",.int i),("statements_read",.int k)])
 lin:H ll=some (.lst (rows.map V.str))
theorem fT.ne{C:Addr}{H:Hp}{rd dx ll:Addr}{rows:List Str}{i k:Nat}(R:fT C H rd dx ll rows i k):ll≠rd:=xE R.lin R.ins (by intro z;cases z)
theorem fT.kp{C:Addr}{H H':Hp}{rd dx ll:Addr}{rows:List Str}{i k:Nat}(R:fT C H rd dx ll rows i k)(h:Kp [] H H'):fT C H' rd dx ll rows i k:=⟨h.at R.ins,h.at R.lin⟩
theorem fT.set{C:Addr}{H:Hp}{rd dx ll:Addr}{rows:List Str}{i k i' k':Nat}(R:fT C H rd dx ll rows i k):fT C (SM H rd (.ins C dx [("lines",.ref ll),("lines_read",.int i'),("statements_read",.int k')])) rd dx ll rows i' k':=⟨aB,by rw[aY R.ne];exact R.lin⟩
theorem fT.w{C:Addr}{H H':Hp}{rd dx ll wl:Addr}{rows:List Str}{i k:Nat}(R:fT C H rd dx ll rows i k)(h:Kp [wl] H H')(n1:rd≠wl)(n2:ll≠wl):fT C H' rd dx ll rows i k:=⟨h.at1 R.ins n1,h.at1 R.lin n2⟩
theorem aH.rd{C:Addr}{H H':Hp}{rd dx ll:Addr}{rows:List Str}{i k:Nat}(R:fT C H rd dx ll rows i k)(h:Kp [rd] H H'):aH H H':=fun a ys e=>h a _ e (by
 simp only[List.mem_cons,List.not_mem_nil,or_false];exact xE e R.ins (by intro z;cases z))
noncomputable def ah(rows:List Str)(i:Nat):V:=match rows[i]? with
 | some r=>.str r
 | none=>.SR
theorem lP{rows:List Str}{i:Nat}{r:Str}{l:List Str}(h:rows.drop i=r::l):ah rows i=.str r:=by
 unfold ah;have:rows[i]?=some r:=by
  have e:=congrArg (fun l=>l[0]?) h;simpa using e
 rw[this]
theorem rL{rows:List Str}{i:Nat}(h:rows.drop i=[]):ah rows i=.SR:=by
 unfold ah;rw[List.getElem?_eq_none (by simpa using h)]
noncomputable def Jz(C:Addr):Sp:=fun vs H Q _=>∃(rd dx ll:Addr) (rows:List Str) (i k:Nat),vs=[.ref rd]/\fT C H rd dx ll rows i k/\Q (ah rows i) H
noncomputable def GH(C:Addr):Sp:=fun vs H Q _=>∃ x dx ll:Addr,vs=[.ref x,.ref ll]/\H x=some (.ins C dx [])/\∀ H',H' x=some (.ins C dx [("lines",.ref ll),("lines_read",.int 0),("statements_read",.int 0)])->Kp [x] H H'->Q .SR H'
noncomputable def kB:List Str->Prop
 | []=>True
 | r::_=>r = "else"\/r = "done"
noncomputable def vS(o:List Stm):List Str:=if o.isEmpty=true then [] else ("else":Str)::aM o
theorem s8{rows r:List Str}{i:Nat}{x:Str}(h:rows.drop i=x::r):rows.drop (i+1)=r:=by
 rw[<- List.drop_drop,h];rfl
theorem IF{r:Str}(h:r = "else"\/r = "done"):b7 (.str r) [.SR,.str "else",.str "done"]=true:=by rcases h with rfl|rfl<;>decide +kernel
theorem Fq:b7 .SR [.SR,.str "else",.str "done"]=true:=by decide
theorem PL{a b:Str}:([.SR,.str a,.str b]:List V).all b8=true:=rfl
theorem Hq(rows:List Str)(i:Nat):b8 (ah rows i)=true:=by unfold ah;split<;>rfl
theorem Bc(b:List Stm)(h:¬ eE b = ""):Txt.endswith (eE b) "\n"=true:=by
 unfold eE at h ⊢;have Wu:aM b≠[]:=fun z=>h (by rw[z];rfl);obtain⟨rs,r,hr⟩:∃ rs r,aM b=rs++[r]:=⟨(aM b).dropLast,(aM b).getLast Wu,(List.dropLast_concat_getLast Wu).symm⟩;rw[hr];have e:(Txt.join "" ((rs++[r]).map fun r:Str=>r++"\n")).cps.toList=((rs.map fun r:Str=>r++"\n").map fun p:Str=>p.cps.toList).flatten++r.cps.toList++[10]:=by
  rw[pI];simp only[List.map_append,List.map_cons,List.map_nil,List.flatten_append,List.flatten_cons,List.flatten_nil,List.append_nil,jN];rw[show("\n":Str).cps.toList=[10] by decide +kernel];simp
 generalize Txt.join "" ((rs++[r]).map fun r:Str=>r++"\n")=x at *;have hl:x.length=(((rs.map fun r:Str=>r++"\n").map fun p:Str=>p.cps.toList).flatten++r.cps.toList).length+1:=by
  show x.cps.size=_;rw[<- Array.length_toList,e,List.length_append];rfl
 have h1:=(StrLaws.subAt_one x 10 (x.length - 1)).mpr (by
  rw[e,hl];simp)
 unfold Txt.endswith;rw[gY.1];have l1:(⟨#[10]⟩:Str).length=1:=rfl;rw[l1] at h1 ⊢;rw[h1.2,Bool.and_true,decide_eq_true_eq];omega
theorem pX(m:Stm):∃ r,m.rows=m.hd::r:=by cases m<;>exact⟨_,rfl⟩
noncomputable def Say.shT(s:Say):Prop:=s.ok/\∀ x∈s.nms,cH x
noncomputable def Say.s6T(s:Say):Prop:=s.shT/\s.depth<=6
theorem Say.P8{s:Say}(h:s.ok):s.okL:=by
 induction s with
 | num n=>exact⟨Int.le_trans (by decide) h.1,Int.le_trans h.2 (by decide)⟩
 | Ti s ih=>exact ih h
 | neg s ih=>exact ih h
 | two g a b i1 i2=>exact⟨i1 h.1,i2 h.2⟩
 | _=>trivial
theorem Say.shT.lo{s:Say}(h:s.shT):s.sh:=⟨Say.P8 h.1,h.2⟩
theorem Say.s6T.lo{s:Say}(h:s.s6T):s.s6:=⟨h.1.lo,Nat.le_trans h.2 (by decide)⟩
noncomputable def Stm.kY:Stm->Prop
 | .set x s=>cH x/\s.s6T
 | .order x y s=>cH x/\cH y/\s.s6T
 | .SU x s=>cH x/\s.s6T
 | .child x y s=>cH x/\cH y/\s.s6T
 | .send s k r=>s.s6T/\cH k/\r.s6T
 | .drop s=>s.s6T
 | .wait x ss=>cH x/\(1<=ss.length/\ss.length<=4)/\∀ s∈ss,s.s6T
 | .SX x k=>cH x/\cH k
 | .fin s=>s.s6T
 | .S1 s _=>s.s6T
 | .iff s _ _=>s.s6T
theorem Stm.kY.lo{m:Stm}(h:m.kY):m.SS:=by
 cases m with
 | set x s=>exact⟨h.1,h.2.lo⟩
 | order x y s=>exact⟨h.1,h.2.1,h.2.2.lo⟩
 | SU x s=>exact⟨h.1,h.2.lo⟩
 | child x y s=>exact⟨h.1,h.2.1,h.2.2.lo⟩
 | send s k r=>exact⟨h.1.lo,h.2.1,h.2.2.lo⟩
 | drop s=>exact Say.s6T.lo h
 | wait x ss=>exact⟨h.1,⟨Nat.zero_le _,Nat.le_trans h.2.1.2 (by decide)⟩,fun s hs=>(h.2.2 s hs).lo⟩
 | SX x k=>exact h
 | fin s=>exact Say.s6T.lo h
 | S1 s b=>exact Say.s6T.lo h
 | iff s b o=>exact Say.s6T.lo h
mutual
noncomputable def Stm.wfT:Stm->Prop
 | .S1 s b=>s.s6T/\cV b
 | .iff s b o=>s.s6T/\cV b/\cV o
 | m=>m.kY
noncomputable def cV:List Stm->Prop
 | []=>True
 | m::ms=>m.wfT/\cV ms
end
theorem Stm.Af{m:Stm}(h:m.wfT):m.kY:=by
 cases m<;>first|exact h|exact h.1
mutual
theorem Stm.wfT.lo:∀ {m:Stm},m.wfT->m.wf
 | .S1 s b,h=>⟨h.1.lo,cV.lo h.2⟩
 | .iff s b o,h=>⟨h.1.lo,cV.lo h.2.1,cV.lo h.2.2⟩
 | .set x s,h=>Stm.kY.lo (m:=.set x s) h
 | .order x y s,h=>Stm.kY.lo (m:=.order x y s) h
 | .SU x s,h=>Stm.kY.lo (m:=.SU x s) h
 | .child x y s,h=>Stm.kY.lo (m:=.child x y s) h
 | .send s k r,h=>Stm.kY.lo (m:=.send s k r) h
 | .drop s,h=>Stm.kY.lo (m:=.drop s) h
 | .wait x ss,h=>Stm.kY.lo (m:=.wait x ss) h
 | .SX x k,h=>Stm.kY.lo (m:=.SX x k) h
 | .fin s,h=>Stm.kY.lo (m:=.fin s) h
theorem cV.lo:∀ {b:List Stm},cV b->C7 b
 | [],_=>trivial
 | m::ms,h=>⟨Stm.wfT.lo h.1,cV.lo h.2⟩
end
noncomputable def oA:List Str->Option (List Str)
 | []=>none
 | l::L=>if l = "done" then some L else none
noncomputable abbrev iM:=Nat->List Str->Option (List Stm×Nat×List Str)
noncomputable abbrev lB:List V:=[.str "if",.str "while"]
theorem zI(l:Str)(L:List Str):oA (l::L)=if l = "done" then some L else none:=rfl
noncomputable def gB(SW:iM)(k:Nat):List Str->Option (List Stm×Nat×List Str)
  | []=>some ([],k,[])
  | l::L=>if l = "else" then (match SW k L with
      | some (m::o,k',L')=>some (m::o,k',L')
      | _=>none)
    else some ([],k,l::L)
theorem jI(SW:iM)(k:Nat)(l:Str)(L:List Str):gB SW k (l::L)=if l = "else" then (match SW k L with
      | some (m::o,k',L')=>some (m::o,k',L')
      | _=>none)
    else some ([],k,l::L):=rfl
noncomputable def j8(SW:iM)(k:Nat)(ws L:List Str):Option (Stm×Nat×List Str):=match ws with
  | []=>none
  | kind::r=>(match cJ 6 r with
    | some (s,[])=>(match SW k L with
      | some (b,k1,L1)=>if kind = "while" then (match oA L1 with
          | some L2=>some (.S1 s b,k1,L2)
          | none=>none)
        else (match gB SW k1 L1 with
          | some (o,k2,L2)=>(match oA L2 with
            | some L3=>some (.iff s b o,k2,L3)
            | none=>none)
          | none=>none)
      | none=>none)
    | _=>none)
theorem hJ(SW:iM)(k:Nat)(kind:Str)(r L:List Str):j8 SW k (kind::r) L=(match cJ 6 r with
    | some (s,[])=>(match SW k L with
      | some (b,k1,L1)=>if kind = "while" then (match oA L1 with
          | some L2=>some (.S1 s b,k1,L2)
          | none=>none)
        else (match gB SW k1 L1 with
          | some (o,k2,L2)=>(match oA L2 with
            | some L3=>some (.iff s b o,k2,L3)
            | none=>none)
          | none=>none)
      | none=>none)
    | _=>none):=rfl
noncomputable def dB(SW:iM)(k:Nat)(l:Str)(L:List Str):Option (Stm×Nat×List Str) :=
 if 60 < k+1 then none
 else if b7 (.str ((Txt.split l " ").headD "")) lB=true then j8 SW (k+1) (Txt.split l " ") L
 else match dY (Txt.split l " ") with
  | some (m,[])=>some (m,k+1,L)
  | _=>none
noncomputable def gP(st:Nat->Str->List Str->Option (Stm×Nat×List Str)):Nat->List Stm->Nat->List Str->Option (List Stm×Nat×List Str)
 | 0,_,_,_=>none
 | _+1,acc,k,[]=>some (acc,k,[])
 | n+1,acc,k,l::L=>if l = "else"\/l = "done" then some (acc,k,l::L) else match st k l L with
  | some (m,k',L')=>gP st n (acc++[m]) k' L'
  | none=>none
theorem oB(st:Nat->Str->List Str->Option (Stm×Nat×List Str))(n:Nat)(acc:List Stm)(k:Nat)(l:Str)(L:List Str):gP st (n+1) acc k (l::L)=if l = "else"\/l = "done" then some (acc,k,l::L) else match st k l L with
    | some (m,k',L')=>gP st n (acc++[m]) k' L'
    | none=>none:=rfl
noncomputable def cF:Nat->iM
 | 0,_,_=>none
 | D+1,k,L=>gP (dB (cF D)) (L.length+1) [] k L
noncomputable def g9(t:Str):Option (List Stm):=if t≠""/\Txt.endswith t "\n"=false then none else match cF 6 0 (Txt.split t "\n").dropLast with
 | some (b,_,[])=>some b
 | _=>none
theorem C6:∀(cs ds:List Nat) (a b:Nat),cs.length=ds.length->(∀ c∈cs,48<=c/\c<=57)->(∀ c∈ds,48<=c/\c<=57)->List.foldl (fun acc c=>acc * 10+(c - 48)) a cs=List.foldl (fun acc c=>acc * 10+(c - 48)) b ds->a=b/\cs=ds
 | [],[],a,b,_,_,_,h=>⟨h,rfl⟩
 | [],_::_,_,_,l,_,_,_=>by cases l
 | _::_,[],_,_,l,_,_,_=>by cases l
 | c::cs,d::ds,a,b,l,h1,h2,h=>by
  obtain⟨e1,rfl⟩:=C6 cs ds _ _ (Nat.succ.inj l) (fun z hz=>h1 z (List.mem_cons_of_mem _ hz)) (fun z hz=>h2 z (List.mem_cons_of_mem _ hz)) h;have x:=h1 c (by simp);have y:=h2 d (by simp);replace e1:a * 10+(c - 48)=b * 10+(d - 48):=e1;refine⟨by omega,?_⟩;rw[show c=d by omega]
theorem Hd:∀(cs:List Nat) (a:Nat),a * 10 ^ cs.length<=List.foldl (fun acc c=>acc * 10+(c - 48)) a cs
 | [],a=>by simp
 | c::cs,a=>by
  have h2:=Hd cs (a * 10+(c - 48));rw[List.foldl_cons];refine Nat.le_trans ?_ h2;rw[List.length_cons,Nat.pow_succ,Nat.mul_comm _ 10,<- Nat.mul_assoc];exact Nat.mul_le_mul_right _ (by omega)
theorem Cy{cs:List Nat}(h:∀ c∈cs,48<=c/\c<=57)(ne:cs≠[])(h0:cs[0]?≠some 48):SY (NumText.digitsVal cs)=cs:=by
 have hl:(SY (NumText.digitsVal cs)).length=cs.length:=by
  have up:NumText.digitsVal cs < 10 ^ cs.length:=by
   have:=Cj cs 0 h;simpa[NumText.digitsVal] using this
  have lo:10 ^ (cs.length - 1)<=NumText.digitsVal cs:=by
   cases cs with
   | nil=>exact absurd rfl ne
   | cons c r =>
    have hc:=h c (by simp);have Vo:c≠48:=fun z=>h0 (by rw[z];rfl);have:=Hd r (0 * 10+(c - 48));rw[List.length_cons,Nat.add_sub_cancel];refine Nat.le_trans ?_ this;exact Nat.le_mul_of_pos_left _ (by omega)
  have l1:=(gM (n:=NumText.digitsVal cs) (k:=cs.length) (List.length_pos_iff.mpr ne)).mpr up;by_cases z:cs.length=1
  ·have:=nO (NumText.digitsVal cs);have:=List.length_pos_iff.mpr this;omega
  ·have hp:=List.length_pos_iff.mpr ne;have:¬ (SY (NumText.digitsVal cs)).length<=cs.length - 1:=fun z=>by
    have:=(gM (n:=NumText.digitsVal cs) (k:=cs.length - 1) (by omega)).mp z;omega
   omega
 have hv:=nQ (NumText.digitsVal cs);exact(C6 _ _ 0 0 hl (jD _) h hv).2
theorem AO{x:Str}(h:k6 x (-1000000000) 1000000000=true):∃ i:Int,intText? x=some i/\x=Str.ofString (toString i)/\-1000000000<=i/\i<=1000000000:=by
 obtain⟨i,hi,lx⟩:=CN h;unfold k6 at h;rw[hi] at h;simp only[Bool.and_eq_true,decide_eq_true_eq,Bool.not_eq_true',Bool.and_eq_false_iff,decide_eq_false_iff_not,Bool.not_eq_false'] at h;obtain⟨⟨⟨⟨h1,h2⟩,h3⟩,h4⟩,h5⟩:=h;refine⟨i,hi,?_,h5.1,h5.2⟩;have ad:∀ c∈gW x.cps.toList,48<=c/\c<=57:=fun c hc=>by have:=List.all_eq_true.mp h3 c hc;simpa using this
 have ne:gW x.cps.toList≠[]:=fun z=>by rw[z] at h1;simp at h1
 by_cases h0:x = "0"
 ·subst h0;have:intText? ("0":Str)=some 0:=by
   have:=lX 0 (by decide);exact this
  rw[this] at hi;cases hi;rfl
 ·have hz:(gW x.cps.toList)[0]?≠some 48:=by
   rcases h4 with h|h
   ·exact h
   ·exact absurd h h0
  apply l8;cases e:x.cps.toList with
  | nil=>rw[e] at ne;exact absurd rfl ne
  | cons c r =>
   by_cases hc:c=45
   ·subst hc;rw[e] at ad ne hz;have hv:=intText_neg e ad ne (by omega);rw[hv] at hi;cases hi;have hd:=Cy (cs:=r) ad ne hz;obtain⟨n,hn⟩:∃ n,NumText.digitsVal r=n+1:=by
     cases hq:NumText.digitsVal r with
     | succ n=>exact⟨n,rfl⟩
     | zero =>
      rw[hq] at hd;exfalso;apply hz;show r[0]?=some 48;rw[<- hd];decide +kernel
    rw[hn] at hd ⊢;rw[show(-((n+1:Nat):Int))=Int.negSucc n from rfl,yV,hd]
   ·have ef:gW (c::r)=c::r:=by
     unfold gW;split
     ·next z=>simp only[List.cons.injEq] at z;exact absurd z.1 hc
     ·rfl
    rw[e,ef] at ad ne hz;have hv:=intText_digits (x:=x) (by rw[e];exact ad) (by rw[e];exact ne) (by omega);rw[hv,e] at hi;cases hi;rw[rP,Cy ad ne hz]
theorem dM:∀ {d:Nat} {ws:List Str} {s:Say} {r:List Str},cJ d ws=some (s,r)->ws=sw s++r/\s.shT/\s.depth<=d
 | 0,_,_,_,h=>by cases h
 | _+1,[],_,_,h=>by cases h
 | d+1,w::ws,s,r,h=>by
  rw[fA] at h;split at h
  ·next h3 =>
   cases h;simp only[l3,b7,List.any_cons,List.any_nil,cO,eM,Bool.or_false,Bool.or_eq_true,beq_iff_eq] at h3;rcases h3 with rfl|rfl|rfl
   ·exact⟨rfl,⟨trivial,fun x hx=>by cases hx⟩,Nat.succ_le_succ (Nat.zero_le _)⟩
   ·exact⟨rfl,⟨trivial,fun x hx=>by cases hx⟩,Nat.succ_le_succ (Nat.zero_le _)⟩
   ·exact⟨rfl,⟨trivial,fun x hx=>by cases hx⟩,Nat.succ_le_succ (Nat.zero_le _)⟩
  split at h
  ·next h2 =>
   split at h
   ·next s1 r1 e =>
    cases h;obtain⟨e1,e2,e3⟩:=dM e;simp only[l2,b7,List.any_cons,List.any_nil,cO,eM,Bool.or_false,Bool.or_eq_true,beq_iff_eq] at h2;rcases h2 with rfl|rfl
    ·exact⟨by rw[e1];rfl,⟨e2.1,e2.2⟩,Nat.succ_le_succ e3⟩
    ·exact⟨by rw[e1];rfl,⟨e2.1,e2.2⟩,Nat.succ_le_succ e3⟩
   ·cases h
  split at h
  ·next hp =>
   unfold iE at h;split at h
   ·next a g r2 e =>
    split at h
    ·next b c r4 e2 =>
     split at h
     ·next hc =>
      cases h;obtain⟨a1,a2,a3⟩:=dM e;obtain⟨b1,b2,b3⟩:=dM e2;refine⟨?_,⟨⟨a2.1,b2.1⟩,fun x hx=>?_⟩,Nat.succ_le_succ (Nat.max_le.mpr ⟨a3,b3⟩)⟩
      ·rw[a1,b1,hp,hc.2,sw,Ca hc.1];simp
      ·rcases List.mem_append.mp hx with hx|hx
       ·exact a2.2 x hx
       ·exact b2.2 x hx
     ·cases h
    ·cases h
   ·cases h
  split at h
  ·next hn =>
   cases h;obtain⟨i,hi,hx,h1,h2⟩:=AO hn;rw[hi];exact⟨by rw[hx];rfl,⟨⟨h1,h2⟩,fun x hx=>by cases hx⟩,Nat.succ_le_succ (Nat.zero_le _)⟩
  split at h
  ·next hb =>
   cases h;exact⟨rfl,⟨trivial,fun x hx=>by rw[show x=w by simpa[Say.nms] using hx];exact m4.mpr hb⟩,Nat.succ_le_succ (Nat.zero_le _)⟩
  ·cases h
theorem pR{ws r:List Str}{x:Str}(h:j7 ws=some (x,r)):ws=x::r/\cH x:=by
 cases ws with
 | nil=>cases h
 | cons w ws =>
  rw[oC] at h;split at h
  ·next hb=>cases h;exact⟨rfl,m4.mpr hb⟩
  ·cases h
theorem xN:∀ {n:Nat} {ss ZI:List Say} {ws r:List Str},iQ n ss ws=some (ZI,r)->∃ tl,ZI=ss++tl/\ws=(tl.map sw).flatten++r/\(∀ s∈tl,s.s6T)/\tl.length<=n
 | 0,_,_,_,_,h=>by cases h;exact⟨[],by simp,rfl,by simp,Nat.le_refl _⟩
 | _+1,_,_,[],_,h=>by cases h;exact⟨[],by simp,rfl,by simp,Nat.zero_le _⟩
 | n+1,ss,ZI,w::ws,r,h=>by
  rw[lZ] at h;split at h
  ·next s r1 e =>
   obtain⟨a1,a2,a3⟩:=dM e;obtain⟨tl,rfl,b2,b3,b4⟩:=xN h;refine⟨s::tl,by simp,by rw[a1,b2];simp,fun z hz=>?_,Nat.succ_le_succ b4⟩;rcases List.mem_cons.mp hz with rfl|hz
   ·exact⟨a2,a3⟩
   ·exact b3 z hz
  ·cases h
theorem BW{x:Str}{ws r:List Str}{m:Stm}(hx:cH x)(h:m6 x ws=some (m,r)):x::"="::ws=m.ws++r/\m.kY/\m.SW=false:=by
 cases ws with
 | nil=>cases h
 | cons k ws =>
  rw[dJ] at h;split at h
  ·split at h
   ·next s r' e =>
    cases h;obtain⟨a1,a2,a3⟩:=dM e;exact⟨by rw[a1];rfl,⟨hx,a2,a3⟩,rfl⟩
   ·cases h
  next h5 =>
  split at h
  ·next hk =>
   split at h
   ·next s r' e =>
    cases h;obtain⟨a1,a2,a3⟩:=dM e;exact⟨by rw[a1,hk];rfl,⟨hx,a2,a3⟩,rfl⟩
   ·cases h
  next k1 =>
  split at h
  ·next hk =>
   split at h
   ·next ss r' e =>
    cases h;unfold eV at e;split at e
    ·next s r1 e1 =>
     obtain⟨a1,a2,a3⟩:=dM e1;obtain⟨tl,rfl,b2,b3,b4⟩:=xN e;refine⟨by rw[a1,b2,hk];simp[Stm.ws],⟨hx,⟨by simp,by simp;omega⟩,fun z hz=>?_⟩,rfl⟩;rcases List.mem_cons.mp (show z∈s::tl from hz) with rfl|hz
     ·exact⟨a2,a3⟩
     ·exact b3 z hz
    ·cases e
   ·cases h
  next k2 =>
  split at h
  ·next hk =>
   split at h
   ·next y r' e =>
    cases h;obtain⟨rfl,hy⟩:=pR e;exact⟨by rw[hk];rfl,⟨hx,hy⟩,rfl⟩
   ·cases h
  next k3 =>
  split at h
  ·next y r1 e =>
   obtain⟨rfl,hy⟩:=pR e;split at h
   ·next s r' e2 =>
    cases h;obtain⟨a1,a2,a3⟩:=dM e2;split
    ·next hk=>exact⟨by rw[a1,hk];rfl,⟨hx,hy,a2,a3⟩,rfl⟩
    ·next k4 =>
     have k5:k = "child":=by
      rw[Bool.not_eq_false] at h5;simp only[l5,b7,List.any_cons,List.any_nil,cO,eM,Bool.or_false,Bool.or_eq_true,beq_iff_eq] at h5;rcases h5 with h|h|h|h|h
      ·exact absurd h.symm k4
      ·exact h.symm
      ·exact absurd h.symm k1
      ·exact absurd h.symm k2
      ·exact absurd h.symm k3
     exact⟨by rw[a1,k5];rfl,⟨hx,hy,a2,a3⟩,rfl⟩
   ·cases h
  ·cases h
theorem BY{ws r:List Str}{m:Stm}(h:dY ws=some (m,r)):ws=m.ws++r/\m.kY/\m.SW=false:=by
 cases ws with
 | nil=>cases h
 | cons f ws =>
  rw[gA] at h;split at h
  ·next hf =>
   split at h
   ·next a r1 e =>
    split at h
    ·next k r2 e2 =>
     split at h
     ·next b r' e3 =>
      cases h;obtain⟨a1,a2,a3⟩:=dM e;obtain⟨rfl,hk⟩:=pR e2;obtain⟨b1,b2,b3⟩:=dM e3;exact⟨by rw[a1,b1,hf];simp[Stm.ws],⟨⟨a2,a3⟩,hk,b2,b3⟩,rfl⟩
     ·cases h
    ·cases h
   ·cases h
  split at h
  ·next hf =>
   split at h
   ·next s r' e =>
    cases h;obtain⟨a1,a2,a3⟩:=dM e;split
    ·next z=>exact⟨by rw[a1,z];rfl,⟨a2,a3⟩,rfl⟩
    ·next z=>exact⟨by rw[a1,hf.resolve_left z];rfl,⟨a2,a3⟩,rfl⟩
   ·cases h
  split at h
  ·next hb =>
   split at h
   ·cases h
   ·next e r1 =>
    split at h
    ·next he =>
     have:=BW (m4.mpr hb) h;exact⟨by rw[he];exact this.1,this.2⟩
    ·cases h
  ·cases h
theorem CK(y:Str)(ws:List Str):Txt.join y ws=Str.join y ws:=StrLaws.glued_eq_join y ws
theorem AE(l:Str):jb (Txt.split l " ")=l:=by
 unfold jb;rw[CK];exact StrLaws.join_split l " "
theorem A7(l:Str):∃ w r,Txt.split l " "=w::r:=by
 cases h:Txt.split l " " with
 | nil=>exact absurd h (uV l " ")
 | cons w r=>exact⟨w,r,rfl⟩
theorem xI{L L':List Str}(h:oA L=some L'):L=("done":Str)::L':=by
 cases L with
 | nil=>cases h
 | cons l L =>
  rw[zI] at h;split at h
  ·next e=>cases h;rw[e]
  ·cases h
noncomputable def Ed(D:Nat)(SW:iM):Prop:=∀ {k:Nat} {L:List Str} {b:List Stm} {k':Nat} {L':List Str},SW k L=some (b,k',L')->L=aM b++L'/\cV b/\fJ b < D/\k'=k+cX b/\(k<=60->k'<=60)
theorem AV{D:Nat}{SW:iM}(S:Ed D SW)(hD:0 < D){k k':Nat}{L L':List Str}{o:List Stm}(h:gB SW k L=some (o,k',L')):L=vS o++L'/\cV o/\fJ o < D/\k'=k+cX o/\(k<=60->k'<=60):=by
 cases L with
 | nil=>cases h;exact⟨rfl,trivial,hD,rfl,id⟩
 | cons l L =>
  rw[jI] at h;split at h
  ·next e =>
   split at h
   ·next m o k1 L1 e1 =>
    cases h;obtain⟨a,b⟩:=S e1;exact⟨by rw[a,e];rfl,b⟩
   ·cases h
  ·cases h;exact⟨rfl,trivial,hD,rfl,id⟩
theorem Sq{w:Str}(h:b7 (.str w) lB=true):w = "if"\/w = "while":=by
 simp only[lB,b7,List.any_cons,List.any_nil,cO,eM,Bool.or_false,Bool.or_eq_true,beq_iff_eq] at h;rcases h with h|h
 ·exact .inl h.symm
 ·exact .inr h.symm
theorem DS{D:Nat}{SW:iM}(S:Ed D SW){k k':Nat}{l w:Str}{r L L':List Str}{m:Stm}(hl:Txt.split l " "=w::r)(hw:b7 (.str w) lB=true)(h:j8 SW k (w::r) L=some (m,k',L')):l::L=m.rows++L'/\m.wfT/\m.dp<=D/\k'+1=k+m.sz/\(k<=60->k'<=60):=by
 rw[hJ] at h;split at h
 ·next s e =>
  obtain⟨a1,a2,a3⟩:=dM e;rw[List.append_nil] at a1;have hj:=AE l;rw[hl,a1] at hj;split at h
  ·next b k1 L1 e1 =>
   obtain⟨b1,b2,b3,b4,b5⟩:=S e1;split at h
   ·next hk =>
    split at h
    ·next L2 e2 =>
     cases h;rw[xI e2] at b1;refine⟨?_,⟨⟨a2,a3⟩,b2⟩,by show fJ b+1<=D;omega,by show k'+1=k+(cX b+1);omega,b5⟩;have:=Stm.wZ (.S1 s b);rw[show(Stm.S1 s b).ws=w::sw s by rw[hk];rfl,hj] at this;rw[b1,<- this];simp[Stm.rows,Stm.hd]
    ·cases h
   ·next hk =>
    have hi:=(Sq hw).resolve_right hk;split at h
    ·next o k2 L2 e2 =>
     obtain⟨c1,c2,c3,c4,c5⟩:=AV S (by omega) e2;split at h
     ·next L3 e3 =>
      cases h;rw[xI e3] at c1;refine⟨?_,⟨⟨a2,a3⟩,b2,c2⟩,by show max (fJ b) (fJ o)+1<=D;omega,by show k'+1=k+(cX b+cX o+1);omega,fun z=>c5 (b5 z)⟩;have:=Stm.wZ (.iff s b o);rw[show(Stm.iff s b o).ws=w::sw s by rw[hi];rfl,hj] at this;rw[b1,c1,<- this];simp[Stm.rows,Stm.hd,vS]
     ·cases h
    ·cases h
  ·cases h
 ·cases h
theorem xP{D:Nat}{SW:iM}(S:Ed D SW){k k':Nat}{l:Str}{L L':List Str}{m:Stm}(h:dB SW k l L=some (m,k',L')):l::L=m.rows++L'/\m.wfT/\m.dp<=D/\k'=k+m.sz/\k'<=60:=by
 unfold dB at h;obtain⟨w,r,hl⟩:=A7 l;rw[hl] at h;split at h
 ·cases h
 next hk =>
 split at h
 ·next hw =>
  obtain⟨a1,a2,a3,a4,a5⟩:=DS S hl hw h;exact⟨a1,a2,a3,by omega,a5 (by omega)⟩
 ·split at h
  ·next m' e =>
   cases h;obtain⟨a1,a2,a3⟩:=BY e;rw[List.append_nil] at a1;have hj:=AE l;rw[hl,a1,<- Stm.wZ] at hj;have:m.rows=[m.hd]/\m.wfT/\m.dp=0/\m.sz=1:=by cases m<;>first|exact⟨rfl,a2,rfl,rfl⟩|cases a3
   obtain⟨b1,b2,b3,b4⟩:=this;exact⟨by rw[b1,hj];rfl,b2,by omega,by omega,by omega⟩
  ·cases h
theorem xK{D:Nat}{SW:iM}(S:Ed D SW):∀ {n:Nat} {acc:List Stm} {k:Nat} {L:List Str} {b:List Stm} {k':Nat} {L':List Str},gP (dB SW) n acc k L=some (b,k',L')->∃ b2,b=acc++b2/\L=aM b2++L'/\cV b2/\fJ b2 < D+1/\k'=k+cX b2/\(k<=60->k'<=60)
 | 0,_,_,_,_,_,_,h=>by cases h
 | _+1,_,_,[],_,_,_,h=>by cases h;exact⟨[],by simp,rfl,trivial,Nat.succ_pos _,rfl,id⟩
 | n+1,acc,k,l::L,b,k',L',h=>by
  rw[oB] at h;split at h
  ·cases h;exact⟨[],by simp,rfl,trivial,Nat.succ_pos _,rfl,id⟩
  ·split at h
   ·next m k1 L1 e =>
    obtain⟨a1,a2,a3,a4,a5⟩:=xP S e;obtain⟨b2,rfl,c1,c2,c3,c4,c5⟩:=xK S h;exact⟨m::b2,by simp,by rw[a1,c1];simp[aM],⟨a2,c2⟩,by simp only[fJ];omega,by simp only[cX];omega,fun _=>c5 a5⟩
   ·cases h
theorem m5:∀ D,Ed D (cF D)
 | 0=>fun h=>by cases h
 | D+1=>fun h=>by
  obtain⟨b2,rfl,c⟩:=xK (m5 D) h;exact c
theorem lf3:b7 (.str "none") l3=true/\b7 (.str "arg") l3=true/\b7 (.str "now") l3=true/\b7 (.str "answer") l3=false/\b7 (.str "not") l3=false/\b7 (.str "(") l3=false/\b7 (.str "answer") l2=true/\b7 (.str "not") l2=true/\b7 (.str "(") l2=false:=by decide +kernel
theorem Nu(g:Sg):Nt g.s=g:=by
 have n:∀ h:Sg,h.s=g.s->h=g:=fun h z=>by
  revert z
  cases h<;>cases g<;>first|exact fun _=>rfl|exact fun z=>absurd z (by decide +kernel)
 exact n _ (Ca (J8 g))
theorem jT(s:Say):∀ {d:Nat} (_:s.shT) (_:s.depth<=d) (r:List Str),cJ d (sw s++r)=some (s,r):=by
 obtain⟨z1,z2,z3,z4,z5,z6,z7,z8,z9⟩:=lf3
 induction s with
 | num n =>
  intro d hs hd r;obtain⟨d,rfl⟩:∃ e,d=e+1:=⟨d - 1,by simp only[Say.depth] at hd;omega⟩;show cJ (d+1) (Str.ofString (toString n)::r)=_;rw[fA,if_neg (by rw[CG n];decide),if_neg (by rw[CF n];decide),if_neg (fun z=>by rw[gX (n:=n) (x:="(") 40 (by decide +kernel) (by decide)] at z;exact z),if_pos (Fs hs.1.1 hs.1.2),lX n (Nat.lt_of_le_of_lt (show n.natAbs<=1000000000 by have:=hs.1.1;have:=hs.1.2;omega) (by decide))];rfl
 | SR =>
  intro d hs hd r;obtain⟨d,rfl⟩:∃ e,d=e+1:=⟨d - 1,by simp only[Say.depth] at hd;omega⟩;show cJ (d+1) ("none"::r)=_;rw[fA,if_pos z1,leaf3,if_pos rfl]
 | arg =>
  intro d hs hd r;obtain⟨d,rfl⟩:∃ e,d=e+1:=⟨d - 1,by simp only[Say.depth] at hd;omega⟩;show cJ (d+1) ("arg"::r)=_;rw[fA,if_pos z2,leaf3,if_neg (by decide +kernel),if_pos rfl]
 | now =>
  intro d hs hd r;obtain⟨d,rfl⟩:∃ e,d=e+1:=⟨d - 1,by simp only[Say.depth] at hd;omega⟩;show cJ (d+1) ("now"::r)=_;rw[fA,if_pos z3,leaf3,if_neg (by decide +kernel),if_neg (by decide +kernel)]
 | name x =>
  intro d hs hd r;obtain⟨d,rfl⟩:∃ e,d=e+1:=⟨d - 1,by simp only[Say.depth] at hd;omega⟩;have hx:=hs.2 x (by simp[Say.nms]);show cJ (d+1) (x::r)=_;rw[fA,if_neg (by rw[g8 hx (by decide)];decide),if_neg (by rw[g8 hx (by decide)];decide),if_neg (fun z=>by rw[M8 hx] at z;exact z),if_neg (by rw[M7 hx];decide),if_pos (m4.mp hx)]
 | Ti s ih =>
  intro d hs hd r;obtain⟨d,rfl⟩:∃ e,d=e+1:=⟨d - 1,by simp only[Say.depth] at hd;omega⟩;show cJ (d+1) ("answer"::(sw s++r))=_;rw[fA,if_neg (by rw[z4];decide),if_pos z7,ih ⟨hs.1,hs.2⟩ (by simp only[Say.depth] at hd;omega) r];simp only[];rw[un2,if_pos rfl]
 | neg s ih =>
  intro d hs hd r;obtain⟨d,rfl⟩:∃ e,d=e+1:=⟨d - 1,by simp only[Say.depth] at hd;omega⟩;show cJ (d+1) ("not"::(sw s++r))=_;rw[fA,if_neg (by rw[z5];decide),if_pos z8,ih ⟨hs.1,hs.2⟩ (by simp only[Say.depth] at hd;omega) r];simp only[];rw[un2,if_neg (by decide +kernel)]
 | two g a b i1 i2 =>
  intro d hs hd r;obtain⟨d,rfl⟩:∃ e,d=e+1:=⟨d - 1,by simp only[Say.depth] at hd;omega⟩;have e:sw (.two g a b)++r=("(":Str)::(sw a++(g.s::(sw b++((")":Str)::r)))):=by simp[sw]
  rw[e,fA,if_neg (by rw[z6];decide),if_neg (by rw[z9];decide),if_pos rfl,iE,i1 ⟨hs.1.1,fun x hx=>hs.2 x (List.mem_append_left _ hx)⟩ (by simp only[Say.depth] at hd;omega)];simp only[];rw[i2 ⟨hs.1.2,fun x hx=>hs.2 x (List.mem_append_right _ hx)⟩ (by simp only[Say.depth] at hd;omega)];simp only[];rw[if_pos ⟨J8 g,trivial⟩,Nu]
theorem cT{s:Say}(h:s.s6T):cJ 6 (sw s)=some (s,[]):=by
 have:=jT s h.1 h.2 []
 rwa [List.append_nil] at this
theorem jH{x:Str}(h:cH x)(r:List Str):j7 (x::r)=some (x,r):=by rw[oC,if_pos (m4.mp h)]
theorem xM:∀(n:Nat) (tl acc:List Say),(∀ s∈tl,s.s6T)->tl.length<=n->iQ n acc (tl.map sw).flatten=some (acc++tl,[])
 | n,[],acc,_,_=>by simp only[List.map_nil,List.flatten_nil,List.append_nil];exact zJ n acc
 | 0,s::tl,_,_,h=>by simp at h
 | n+1,s::tl,acc,hs,h=>by
  have h6:=hs s (by simp);obtain⟨w,r,hw⟩:∃ w r,sw s=w::r:=by
   cases h:sw s with
   | nil=>exact absurd h (gS s)
   | cons a b=>exact⟨a,b,rfl⟩
  have e:=jT s h6.1 h6.2 (tl.map sw).flatten;have e2:=xM n tl (acc++[s]) (fun z hz=>hs z (List.mem_cons_of_mem _ hz)) (by simpa using h);simp only[List.map_cons,List.flatten_cons];rw[hw] at e ⊢;rw[List.cons_append] at e ⊢;rw[lZ,e];simp only[];rw[e2];simp
theorem AW{ss:List Say}(h1:1<=ss.length)(h4:ss.length<=4)(h:∀ s∈ss,s.s6T):eV (ss.map sw).flatten=some (ss,[]):=by
 cases ss with
 | nil=>simp at h1
 | cons s tl =>
  have h6:=h s (by simp);have e:=jT s h6.1 h6.2 (tl.map sw).flatten;have e2:=xM 3 tl [s] (fun z hz=>h z (List.mem_cons_of_mem _ hz)) (by simpa using h4);simp only[List.map_cons,List.flatten_cons];rw[eV,e];simp only[];rw[e2];rfl
theorem in5s:b7 (.str "timer") l5=true/\b7 (.str "wait") l5=true/\b7 (.str "hear") l5=true/\b7 (.str "order") l5=true/\b7 (.str "child") l5=true:=by decide +kernel
theorem ne5s:¬ ("wait":Str) = "timer"/\¬ ("hear":Str) = "timer"/\¬ ("hear":Str) = "wait"/\¬ ("order":Str) = "timer"/\¬ ("order":Str) = "wait"/\¬ ("order":Str) = "hear"/\¬ ("child":Str) = "timer"/\¬ ("child":Str) = "wait"/\¬ ("child":Str) = "hear"/\¬ ("child":Str) = "order"/\¬ ("drop":Str) = "send"/\¬ ("end":Str) = "send"/\¬ ("end":Str) = "drop":=by decide +kernel
theorem dN{x:Str}(hx:cH x)(ws:List Str):dY (x::"="::ws)=m6 x ws:=by
 rw[gA,if_neg (fun z=>by rw[FX hx (y:="send") (by decide)] at z;exact z),if_neg (fun z=>by
  rcases z with z|z
  ·rw[FX hx (y:="drop") (by decide)] at z;exact z
  ·rw[FX hx (y:="end") (by decide)] at z;exact z),if_pos (m4.mp hx)]
 simp only[];rw[if_pos trivial]
theorem BX{m:Stm}(h:m.kY)(hb:m.SW=false):dY m.ws=some (m,[]):=by
 obtain⟨a1,a2,a3,a4,a5⟩:=in5s;obtain⟨n1,n2,n3,n4,n5,n6,n7,n8,n9,XT,XU,V9,XW⟩:=ne5s;cases m with
 | S1 s b=>cases hb
 | iff s b o=>cases hb
 | set x s =>
  obtain⟨w,r,hw,hi⟩:=uX h.2.1.lo;show dY (x::"="::sw s)=_;rw[dN h.1];have e:=cT h.2;rw[hw] at e ⊢;rw[dJ,if_pos hi,e]
 | SU x s =>
  show dY (x::"="::"timer"::sw s)=_;rw[dN h.1,dJ,if_neg (by rw[a1];decide),if_pos rfl,cT h.2]
 | wait x ss =>
  show dY (x::"="::"wait"::(ss.map sw).flatten)=_;rw[dN h.1,dJ,if_neg (by rw[a2];decide),if_neg n1,if_pos rfl,AW h.2.1.1 h.2.1.2 h.2.2]
 | SX x k =>
  show dY (x::"="::"hear"::k::[])=_;rw[dN h.1,dJ,if_neg (by rw[a3];decide),if_neg n2,if_neg n3,if_pos rfl,jH h.2]
 | order x y s =>
  show dY (x::"="::"order"::y::sw s)=_;rw[dN h.1,dJ,if_neg (by rw[a4];decide),if_neg n4,if_neg n5,if_neg n6,jH h.2.1];simp only[];rw[cT h.2.2];simp only[];rw[if_pos trivial]
 | child x y s =>
  show dY (x::"="::"child"::y::sw s)=_;rw[dN h.1,dJ,if_neg (by rw[a5];decide),if_neg n7,if_neg n8,if_neg n9,jH h.2.1];simp only[];rw[cT h.2.2];simp only[];rw[if_neg XT]
 | send s k r =>
  show dY ("send"::(sw s++k::sw r))=_;rw[gA,if_pos rfl,jT s h.1.1 h.1.2];simp only[];rw[jH h.2.1];simp only[];rw[cT h.2.2]
 | drop s =>
  show dY ("drop"::sw s)=_;rw[gA,if_neg XU,if_pos (.inl rfl),cT h];simp only[];rw[if_pos trivial]
 | fin s =>
  show dY ("end"::sw s)=_;rw[gA,if_neg V9,if_pos (.inr rfl),cT h];simp only[];rw[if_neg XW]
noncomputable def Bi(D:Nat)(SW:iM):Prop:=∀ {k:Nat} {b:List Stm} {R:List Str},cV b->fJ b < D->k+cX b<=60->kB R->SW k (aM b++R)=some (b,k+cX b,R)
theorem Rf:b7 (.str "while") lB=true/\b7 (.str "if") lB=true/\¬ ("if":Str) = "while"/\¬ ("done":Str) = "else":=by decide +kernel
theorem CP(R:List Str):oA (("done":Str)::R)=some R:=by rw[zI,if_pos rfl]
theorem PQ{m:Stm}(h:m.kY)(hb:m.SW=false):b7 (.str (m.ws.headD "")) lB=false:=by
 cases m with
 | S1 s b=>cases hb
 | iff s b o=>cases hb
 | send s k r=>show b7 (.str "send") lB=false;decide +kernel
 | drop s=>show b7 (.str "drop") lB=false;decide +kernel
 | fin s=>show b7 (.str "end") lB=false;decide +kernel
 | set x s=>exact g8 h.1 (by decide)
 | order x y s=>exact g8 h.1 (by decide)
 | SU x s=>exact g8 h.1 (by decide)
 | child x y s=>exact g8 h.1 (by decide)
 | wait x ss=>exact g8 h.1 (by decide)
 | SX x k=>exact g8 h.1 (by decide)
theorem pS{D:Nat}{SW:iM}(B:Bi D SW){k:Nat}{m:Stm}{R:List Str}(h:m.wfT)(hd:m.dp<=D)(hk:k+m.sz<=60):dB SW k m.hd (m.rows.tail++R)=some (m,k+m.sz,R):=by
 have SS:=Stm.Af h;have sp:=m.Cd;obtain⟨b1,b2,b3,b4⟩:=Rf;rw[dB,if_neg (by omega),kX SS.lo];cases hb:m.SW with
 | false =>
  rw[if_neg (by rw[PQ SS hb];decide),BX SS hb];have:m.rows.tail=[]/\m.sz=1:=by cases m<;>first|exact⟨rfl,rfl⟩|cases hb
  rw[this.1,this.2];rfl
 | true =>
  cases m with
  | S1 s b =>
   rw[if_pos (show b7 (.str ((Stm.S1 s b).ws.headD "")) lB=true from b1)];show j8 SW (k+1) ("while"::sw s) _=_;have e:(Stm.S1 s b).rows.tail++R=aM b++(("done":Str)::R):=by simp[Stm.rows]
   simp only[Stm.dp] at hd;simp only[Stm.sz] at hk;rw[e,hJ,cT h.1];simp only[];rw[B h.2 (by omega) (by omega) (show kB (_::_) from Or.inr rfl)];simp only[];rw[if_pos trivial,CP];simp only[Stm.sz];rw[show k+1+cX b=k+(cX b+1) by omega]
  | iff s b o =>
   rw[if_pos (show b7 (.str ((Stm.iff s b o).ws.headD "")) lB=true from b2)];show j8 SW (k+1) ("if"::sw s) _=_;have e:(Stm.iff s b o).rows.tail++R=aM b++(vS o++(("done":Str)::R)):=by simp[Stm.rows,vS]
   simp only[Stm.dp] at hd;simp only[Stm.sz] at hk;have TF:kB (vS o++(("done":Str)::R)):=by
    cases o with
    | nil=>exact Or.inr rfl
    | cons a c=>exact Or.inl rfl
   rw[e,hJ,cT h.1];simp only[];rw[B h.2.1 (by omega) (by omega) TF];simp only[];have e2:gB SW (k+1+cX b) (vS o++(("done":Str)::R))=some (o,k+1+cX b+cX o,("done":Str)::R):=by
    cases o with
    | nil =>
     show gB SW (k+1+cX b) (("done":Str)::R)=_;rw[jI,if_neg b4];rfl
    | cons a c =>
     show gB SW (k+1+cX b) (("else":Str)::(aM (a::c)++(("done":Str)::R)))=_;rw[jI,if_pos rfl,B h.2.2 (by omega) (by omega) (show kB (_::_) from Or.inr rfl)]
   rw[if_neg b3,e2];simp only[];rw[CP];simp only[Stm.sz];rw[show k+1+cX b+cX o=k+(cX b+cX o+1) by omega]
  | _=>cases hb
theorem xJ{D:Nat}{SW:iM}(B:Bi D SW):∀(b:List Stm) {n:Nat} {acc:List Stm} {k:Nat} {R:List Str},(aM b++R).length < n->cV b->fJ b<=D->k+cX b<=60->kB R->gP (dB SW) n acc k (aM b++R)=some (acc++b,k+cX b,R)
 | [],n,acc,k,R,hn,_,_,_,hs=>by
  obtain⟨n,rfl⟩:∃ e,n=e+1:=⟨n - 1,by omega⟩;show gP (dB SW) (n+1) acc k R=_;cases R with
  | nil=>simp[gP,cX]
  | cons r R=>rw[oB,if_pos (show r = "else"\/r = "done" from hs)];simp[cX]
 | m::b,n,acc,k,R,hn,hw,hd,hk,hs=>by
  obtain⟨n,rfl⟩:∃ e,n=e+1:=⟨n - 1,by omega⟩;obtain⟨mr,WR⟩:=pX m;have e:aM (m::b)++R=m.hd::(m.rows.tail++(aM b++R)):=by rw[aM,WR];simp
  simp only[fJ] at hd;simp only[cX] at hk;rw[e,oB,if_neg (fun z=>by
   rcases z with z|z
   ·exact yS (m:=m) (x:="else") cG.2.2.2.2.2.2.2.2.2.2.2.2.2.2.2.2.2.2.1.1 z
   ·exact yS (m:=m) (x:="done") cG.2.2.2.2.2.2.2.2.2.2.2.2.2.2.2.2.2.2.2.1 z),pS B hw.1 (by omega) (by omega)]
  simp only[];rw[xJ B b (n:=n) (by rw[e] at hn;simp at hn ⊢;omega) hw.2 (by omega) (by omega) hs];simp only[cX];rw[List.append_assoc,show k+m.sz+cX b=k+(m.sz+cX b) by omega];rfl
theorem jS:∀ D,Bi D (cF D)
 | 0=>fun _ h=>absurd h (Nat.not_lt_zero _)
 | D+1=>fun hw hd hk hs=>xJ (jS D) _ (Nat.lt_succ_self _) hw (by omega) hk hs
theorem xO{b:List Stm}(h:cV b)(hd:fJ b<=5)(hz:cX b<=60):g9 (eE b)=some b:=by
 rw[g9,if_neg (fun z=>by rw[Bc b z.1] at z;cases z.2),uY (cV.lo h),List.dropLast_concat];have:=jS 6 (k:=0) (b:=b) (R:=[]) h (by omega) (by omega) trivial;rw[List.append_nil] at this;rw[this]
theorem CJ{c:Nat}:∀ {l:List (List Nat)} {w:List Nat},w∈l->w.length<=(jn c l).length
 | [],_,h=>by cases h
 | [v],w,h=>by rw[show w=v by simpa using h];exact Nat.le_refl _
 | v::u::r,w,h=>by
  show w.length<=(v++c::jn c (u::r)).length;rw[List.length_append,List.length_cons];rcases List.mem_cons.mp h with rfl|h
  ·omega
  ·have:=CJ (c:=c) h;omega
theorem xV(c:Nat)(x:Str):∀ w∈Txt.split x ⟨#[c]⟩,w.length<=x.length:=fun w hw=>by
 have h1:=CJ (c:=c) (List.mem_map_of_mem (f:=fun p:Str=>p.cps.toList) hw);rw[<- nV,CK,StrLaws.join_split] at h1;rw[Array.length_toList,Array.length_toList] at h1;exact h1
theorem GL{l:Str}(h:l.length<=8000000):WL (Txt.split l " "):=fun w hw=>by
 rw[gY.2.1] at hw;have:=xV 32 l w hw;omega
noncomputable def RL(rows:List Str):Prop:=∀ r∈rows,r.length<=8000000
noncomputable def GG(C X:Addr)(D:Nat):Sp:=fun vs H Q E=>∃(rd dx ll:Addr) (rows:List Str) (i k:Nat) (dp:Int),vs=[.ref rd,.int dp]/\fT C H rd dx ll rows i k/\dp+D=6/\RL rows/\k<=60 /\
 (∀(b:List Stm) (k':Nat) (L':List Str),cF D k (rows.drop i)=some (b,k',L')->∀(p:Addr) (us:List V) (H':Hp) (i':Nat),H' p=some (.tup us)->aW H' us b->fT C H' rd dx ll rows i' k'->rows.drop i'=L'->Kp [rd] H H'->Q (.ref p) H') /\
 (cF D k (rows.drop i)=none->∀ H',Kp [rd] H H'->E (.ref X) none H')
noncomputable def CV(C X:Addr)(D:Nat):Sp:=fun vs H Q E=>∃ D':Nat,D=D'+1/\GG C X D' vs H Q E
noncomputable def NF(C X:Addr)(D:Nat):Sp:=fun vs H Q E=>∃(D':Nat) (rd dx ll:Addr) (rows:List Str) (i k:Nat) (dp:Int),D=D'+1/\vs=[.ref rd,.int dp]/\fT C H rd dx ll rows i k/\dp+D'=6/\RL rows/\k<=60 /\
 (∀(o:List Stm) (k':Nat) (L':List Str),gB (cF D') k (rows.drop i)=some (o,k',L')->∀(p:Addr) (us:List V) (H':Hp) (i':Nat),H' p=some (.tup us)->aW H' us o->fT C H' rd dx ll rows i' k'->rows.drop i'=L'->Kp [rd] H H'->Q (.ref p) H') /\
 (gB (cF D') k (rows.drop i)=none->∀ H',Kp [rd] H H'->E (.ref X) none H')
noncomputable def Qx(C X:Addr)(D:Nat):Sp:=fun vs H Q E=>∃(D':Nat) (rd dx ll wl:Addr) (rows:List Str) (i k:Nat) (dp:Int) (kd:Str) (r:List Str),D=D'+1/\vs=[.ref rd,.ref wl,.int dp]/\fT C H rd dx ll rows i k/\H wl=some (.lst ((kd::r).map V.str))/\wl≠ll/\b7 (.str kd) lB=true/\WL (kd::r)/\dp+D=6/\RL rows/\k<=60 /\
 (∀(m:Stm) (k':Nat) (L':List Str),j8 (cF D') k (kd::r) (rows.drop i)=some (m,k',L')->∀(v:V) (H':Hp) (i':Nat),bQ H' v m->fT C H' rd dx ll rows i' k'->rows.drop i'=L'->Kp [rd,wl] H H'->Q v H') /\
 (j8 (cF D') k (kd::r) (rows.drop i)=none->∀ H',Kp [rd,wl] H H'->E (.ref X) none H')
noncomputable def NG(C X:Addr)(D:Nat):Sp:=fun vs H Q E=>∃(D':Nat) (rd dx ll:Addr) (rows:List Str) (i k:Nat) (dp:Int) (l:Str) (L:List Str),D=D'+1/\vs=[.ref rd,.int dp]/\fT C H rd dx ll rows i k/\rows.drop i=l::L/\dp+D=6/\RL rows/\k<=60 /\
 (∀(m:Stm) (k':Nat) (L':List Str),dB (cF D') k l L=some (m,k',L')->∀(v:V) (H':Hp) (i':Nat),bQ H' v m->fT C H' rd dx ll rows i' k'->rows.drop i'=L'->Kp [rd] H H'->Q v H') /\
 (dB (cF D') k l L=none->∀ H',Kp [rd] H H'->E (.ref X) none H')
theorem Ha{H:Hp}{us:List V}{b:List Stm}(h:aW H us b):us.isEmpty=b.isEmpty:=by
 cases h<;>rfl
theorem MQ{r:Str}(h:¬ (r = "else"\/r = "done")):b7 (.str r) [.SR,.str "else",.str "done"]=false:=by
 simp only[b7,List.any_cons,List.any_nil,cO,eM,Bool.or_false,Bool.false_or];rw[Bool.or_eq_false_iff];exact⟨beq_eq_false_iff_ne.mpr fun z=>h (.inl z.symm),beq_eq_false_iff_ne.mpr fun z=>h (.inr z.symm)⟩
noncomputable def JD(X:Addr):Sp:=fun vs H Q E=>∃ t:Str,vs=[.str t]/\t.length<=8000000/\(∀(b:List Stm),g9 t=some b->∀(p:Addr) (us:List V) (H':Hp),H' p=some (.tup us)->aW H' us b->Kp [] H H'->Q (.ref p) H')/\(g9 t=none->∀ H',Kp [] H H'->E (.ref X) none H')
noncomputable def tot(ws:List Str):Nat:=(ws.map fun w=>w.length+1).sum
theorem sA(a b:List Str):tot (a++b)=tot a+tot b:=by simp[tot]
theorem gF(w:Str):tot [w]=w.length+1:=by simp[tot]
theorem oS(w:Str)(ws:List Str):tot (w::ws)=w.length+1+tot ws:=by simp[tot]
theorem DF(l:List Str):(Txt.join "" (l.map fun r:Str=>r++"\n")).length=tot l:=by
 show(Txt.join "" (l.map fun r:Str=>r++"\n")).cps.size=_;rw[<- Array.length_toList,pI]
 induction l with
 | nil=>rfl
 | cons w r ih =>
  rw[oS,<- ih];simp only[List.map_cons,List.flatten_cons,List.length_append,jN,gY.1,Array.length_toList];rfl
noncomputable def JB(X:Addr):Sp:=fun vs H Q _=>∃ t:Str,vs=[.str t]/\t.length<=8000000/\(∀(b:List Stm),g9 t=some b->∀(a p:Addr) (us:List V) (H':Hp),H' a=some (.tup [.ref p,.bl false])->H' p=some (.tup us)->aW H' us b->Kp [] H H'->Q (.ref a) H')/\(g9 t=none->∀(a:Addr) (H':Hp),H' a=some (.tup [.SR,.bl true])->Kp [] H H'->Q (.ref a) H')
mutual
theorem Gz:∀ {m:Stm},m.wf->tot m.rows<=50011 * m.sz
 | .S1 s b,h=>by
  have h1:=jJ h.2;have h2:=Stm.cK (m:=.S1 s b) h.1;show tot ((((Stm.S1 s b).hd::aM b)++[("done":Str)]))<=50011 * (cX b+1);rw[sA,oS,gF,show("done":Str).length=4 by decide +kernel];omega
 | .iff s b o,h=>by
  have h1:=jJ h.2.1;have h3:=jJ h.2.2;have h2:=Stm.cK (m:=.iff s b o) h.1;show tot ((((Stm.iff s b o).hd::aM b)++(if o.isEmpty=true then [] else ("else":Str)::aM o))++[("done":Str)])<=50011 * (cX b+cX o+1);rw[sA,sA,oS,gF,show("done":Str).length=4 by decide +kernel];split
  ·rw[show tot []=0 from rfl];omega
  ·rw[oS,show("else":Str).length=4 by decide +kernel];omega
 | .set x s,h=>by have:=Stm.cK (Stm.bZ h);show tot [_]<=50011 * 1;rw[gF];omega
 | .order x y s,h=>by have:=Stm.cK (Stm.bZ h);show tot [_]<=50011 * 1;rw[gF];omega
 | .SU x s,h=>by have:=Stm.cK (Stm.bZ h);show tot [_]<=50011 * 1;rw[gF];omega
 | .child x y s,h=>by have:=Stm.cK (Stm.bZ h);show tot [_]<=50011 * 1;rw[gF];omega
 | .send s k u,h=>by have:=Stm.cK (Stm.bZ h);show tot [_]<=50011 * 1;rw[gF];omega
 | .drop s,h=>by have:=Stm.cK (Stm.bZ h);show tot [_]<=50011 * 1;rw[gF];omega
 | .wait x ss,h=>by have:=Stm.cK (Stm.bZ h);show tot [_]<=50011 * 1;rw[gF];omega
 | .SX x k,h=>by have:=Stm.cK (Stm.bZ h);show tot [_]<=50011 * 1;rw[gF];omega
 | .fin s,h=>by have:=Stm.cK (Stm.bZ h);show tot [_]<=50011 * 1;rw[gF];omega
theorem jJ:∀ {b:List Stm},C7 b->tot (aM b)<=50011 * cX b
 | [],_=>by simp[aM,tot]
 | m::ms,h=>by
  have h1:=Gz h.1;have h2:=jJ h.2;show tot (m.rows++aM ms)<=50011 * (m.sz+cX ms);rw[sA];omega
end
noncomputable def Uq(K:q0B)(H:Hp)(n:Nat)(P:V->Prop):Prop:=∀ v u,P v->P u->vD K H n v u true
inductive Ea:List V->List (V->Prop)->Prop
 | nil:Ea [] []
 | cons {v:V} {vs:List V} {P:V->Prop} {Ps:List (V->Prop)}:P v->Ea vs Ps->Ea (v::vs) (P::Ps)
theorem Ea.len{vs:List V}{Ps:List (V->Prop)}(h:Ea vs Ps):vs.length=Ps.length:=by
 induction h with
 | nil=>rfl
 | cons _ _ ih=>simp[ih]
noncomputable def qO(H:Hp)(Ps:List (V->Prop))(v:V):Prop:=∃ a vs,v=.ref a/\H a=some (.tup vs)/\Ea vs Ps
theorem Ea.eq{K:q0B}{H:Hp}{n:Nat}{vs:List V}{Ps:List (V->Prop)}(h:Ea vs Ps):∀ {us:List V},Ea us Ps->(∀ P∈Ps,Uq K H n P)->∀(j:Nat) (x y:V),vs[j]?=some x->us[j]?=some y->vD K H n x y true:=by
 induction h with
 | nil=>intro us _ _ j x y e;simp at e
 | cons p _ ih =>
  intro us g d j x y e1 e2;cases g with
  | cons q r =>
   cases j with
   | zero=>cases e1;cases e2;exact d _ (by simp) _ _ p q
   | succ j=>exact ih r (fun P hP=>d P (List.mem_cons_of_mem _ hP)) j x y (by simpa using e1) (by simpa using e2)
theorem dF{K:q0B}{H:Hp}{n:Nat}{Ps:List (V->Prop)}(h:∀ P∈Ps,Uq K H n P):Uq K H (n+1) (qO H Ps):=by
 rintro _ _ ⟨a,vs,rfl,ha,x⟩ ⟨b,us,rfl,hb,y⟩;exact .pair ha hb (by rw[x.len,y.len]) (x.eq y h)
theorem bY{K:q0B}{H:Hp}{n:Nat}{x:Str}:Uq K H n (fun v=>v=.str x):=by rintro _ _ rfl rfl;exact GN _
theorem NR{K:q0B}{H:Hp}{n:Nat}{x:Int}:Uq K H n (fun v=>v=.int x):=by rintro _ _ rfl rfl;exact Ft _
theorem fc{K:q0B}{H:Hp}{n:Nat}{P:V->Prop}{Ps:List (V->Prop)}(a:Uq K H n P)(b:∀ Q∈Ps,Uq K H n Q):∀ Q∈P::Ps,Uq K H n Q:=List.forall_mem_cons.mpr ⟨a,b⟩
theorem fn{K:q0B}{H:Hp}{n:Nat}:∀ Q∈([]:List (V->Prop)),Uq K H n Q:=fun _ h=>nomatch h
noncomputable def Say.parts(H:Hp):Say->List (V->Prop)
 | .num i=>[fun v=>v=.str "number",fun v=>v=.int i]
 | .SR=>[fun v=>v=.str "none"]
 | .name x=>[fun v=>v=.str "name",fun v=>v=.str x]
 | .arg=>[fun v=>v=.str "arg"]
 | .now=>[fun v=>v=.str "now"]
 | .Ti s=>[fun v=>v=.str "answer",fun v=>aT H v s]
 | .neg s=>[fun v=>v=.str "not",fun v=>aT H v s]
 | .two g s r=>[fun v=>v=.str g.s,fun v=>aT H v s,fun v=>aT H v r]
theorem aT.un{H:Hp}{v:V}{s:Say}(h:aT H v s):qO H (s.parts H) v:=by
 cases h with
 | num e=>exact⟨_,_,rfl,e,.cons rfl (.cons rfl .nil)⟩
 | SR e=>exact⟨_,_,rfl,e,.cons rfl .nil⟩
 | name e=>exact⟨_,_,rfl,e,.cons rfl (.cons rfl .nil)⟩
 | arg e=>exact⟨_,_,rfl,e,.cons rfl .nil⟩
 | now e=>exact⟨_,_,rfl,e,.cons rfl .nil⟩
 | Ti e s=>exact⟨_,_,rfl,e,.cons rfl (.cons s .nil)⟩
 | neg e s=>exact⟨_,_,rfl,e,.cons rfl (.cons s .nil)⟩
 | two e s r=>exact⟨_,_,rfl,e,.cons rfl (.cons s (.cons r .nil))⟩
theorem aT.uq{K:q0B}{H:Hp}(s:Say):∀ n,s.depth<=n->Uq K H n (fun v=>aT H v s):=by
 induction s with
 | Ti s ih =>
  intro n hn;simp only[Say.depth] at hn;obtain⟨n,rfl⟩:∃ m,n=m+1:=⟨n - 1,by omega⟩;exact fun v u h g=>dF (fc bY (fc (ih n (by omega)) fn)) v u h.un g.un
 | neg s ih =>
  intro n hn;simp only[Say.depth] at hn;obtain⟨n,rfl⟩:∃ m,n=m+1:=⟨n - 1,by omega⟩;exact fun v u h g=>dF (fc bY (fc (ih n (by omega)) fn)) v u h.un g.un
 | two g s r i1 i2 =>
  intro n hn;simp only[Say.depth] at hn;obtain⟨n,rfl⟩:∃ m,n=m+1:=⟨n - 1,by omega⟩;exact fun v u h g=>dF (fc bY (fc (i1 n (by omega)) (fc (i2 n (by omega)) fn))) v u h.un g.un
 | num i =>
  intro n hn;simp only[Say.depth] at hn;obtain⟨n,rfl⟩:∃ m,n=m+1:=⟨n - 1,by omega⟩;exact fun v u h g=>dF (fc bY (fc NR fn)) v u h.un g.un
 | name x =>
  intro n hn;simp only[Say.depth] at hn;obtain⟨n,rfl⟩:∃ m,n=m+1:=⟨n - 1,by omega⟩;exact fun v u h g=>dF (fc bY (fc bY fn)) v u h.un g.un
 | _ =>
  intro n hn;simp only[Say.depth] at hn;obtain⟨n,rfl⟩:∃ m,n=m+1:=⟨n - 1,by omega⟩;exact fun v u h g=>dF (fc bY fn) v u h.un g.un
theorem dC.ea{H:Hp}{vs:List V}{ss:List Say}(h:dC H vs ss):Ea vs (ss.map fun s v=>aT H v s):=by
 induction h with
 | nil=>exact .nil
 | cons a _ ih=>exact .cons a ih
theorem aW.ea{H:Hp}:∀ {vs:List V} {b:List Stm},aW H vs b->Ea vs (b.map fun m v=>bQ H v m)
 | _,[],h=>by cases h;exact .nil
 | _,m::ms,h=>by
  cases h with
  | cons a r=>exact .cons a (aW.ea r)
noncomputable def Stm.parts(H:Hp):Stm->List (V->Prop)
 | .set x s=>[fun v=>v=.str "set",fun v=>v=.str x,fun v=>aT H v s]
 | .order x y s=>[fun v=>v=.str "order",fun v=>v=.str x,fun v=>v=.str y,fun v=>aT H v s]
 | .SU x s=>[fun v=>v=.str "timer",fun v=>v=.str x,fun v=>aT H v s]
 | .child x y s=>[fun v=>v=.str "child",fun v=>v=.str x,fun v=>v=.str y,fun v=>aT H v s]
 | .send s k r=>[fun v=>v=.str "send",fun v=>aT H v s,fun v=>v=.str k,fun v=>aT H v r]
 | .drop s=>[fun v=>v=.str "drop",fun v=>aT H v s]
 | .wait x ss=>[fun v=>v=.str "wait",fun v=>v=.str x,qO H (ss.map fun s v=>aT H v s)]
 | .SX x k=>[fun v=>v=.str "hear",fun v=>v=.str x,fun v=>v=.str k]
 | .fin s=>[fun v=>v=.str "end",fun v=>aT H v s]
 | .S1 s b=>[fun v=>v=.str "while",fun v=>aT H v s,qO H (b.map fun m v=>bQ H v m)]
 | .iff s b o=>[fun v=>v=.str "if",fun v=>aT H v s,qO H (b.map fun m v=>bQ H v m),qO H (o.map fun m v=>bQ H v m)]
theorem bQ.un{H:Hp}{v:V}{m:Stm}(h:bQ H v m):qO H (m.parts H) v:=by
 cases h with
 | set e s=>exact⟨_,_,rfl,e,.cons rfl (.cons rfl (.cons s .nil))⟩
 | order e s=>exact⟨_,_,rfl,e,.cons rfl (.cons rfl (.cons rfl (.cons s .nil)))⟩
 | SU e s=>exact⟨_,_,rfl,e,.cons rfl (.cons rfl (.cons s .nil))⟩
 | child e s=>exact⟨_,_,rfl,e,.cons rfl (.cons rfl (.cons rfl (.cons s .nil)))⟩
 | send e s r=>exact⟨_,_,rfl,e,.cons rfl (.cons s (.cons rfl (.cons r .nil)))⟩
 | drop e s=>exact⟨_,_,rfl,e,.cons rfl (.cons s .nil)⟩
 | wait e f s=>exact⟨_,_,rfl,e,.cons rfl (.cons rfl (.cons ⟨_,_,rfl,f,s.ea⟩ .nil))⟩
 | SX e=>exact⟨_,_,rfl,e,.cons rfl (.cons rfl (.cons rfl .nil))⟩
 | fin e s=>exact⟨_,_,rfl,e,.cons rfl (.cons s .nil)⟩
 | S1 e s f b=>exact⟨_,_,rfl,e,.cons rfl (.cons s (.cons ⟨_,_,rfl,f,b.ea⟩ .nil))⟩
 | iff e s f b f2 b2=>exact⟨_,_,rfl,e,.cons rfl (.cons s (.cons ⟨_,_,rfl,f,b.ea⟩ (.cons ⟨_,_,rfl,f2,b2.ea⟩ .nil)))⟩
theorem vA:∀ {b:List Stm} {m:Stm},cV b->m∈b->m.wfT
 | x::b,m,h,hm=>by
  rcases List.mem_cons.mp hm with rfl|hm
  ·exact h.1
  ·exact vA h.2 hm
theorem yL:∀ {b:List Stm} {m:Stm},m∈b->m.dp<=fJ b
 | x::b,m,hm=>by
  simp only[fJ];rcases List.mem_cons.mp hm with rfl|hm
  ·omega
  ·have:=yL hm;omega
theorem NS{K:q0B}{H:Hp}:∀(n:Nat) (m:Stm),m.wfT->8+2 * m.dp<=n->Uq K H n (fun v=>bQ H v m):=by
 intro n
 induction n using Nat.strongRecOn with
 | ind n ih =>
  intro m w hn v u h g;have h:=h.un;have g:=g.un;obtain⟨k,rfl⟩:∃ k,n=k+2:=⟨n - 2,by omega⟩;have bl:∀ b:List Stm,cV b->8+2 * fJ b<=k->Uq K H (k+1) (qO H (b.map fun m v=>bQ H v m)):=fun b wb hb=>dF (by
   intro P hP;obtain⟨m,hm,rfl⟩:=List.mem_map.mp hP;exact ih k (by omega) m (vA wb hm) (by have:=yL hm;omega))
  have sy:∀ s:Say,s.s6T->Uq K H (k+1) (fun v=>aT H v s):=fun s hs=>aT.uq s (k+1) (by have:=hs.2;omega);cases m with
  | set x s=>exact dF (fc bY (fc bY (fc (sy s w.2) fn))) v u h g
  | order x y s=>exact dF (fc bY (fc bY (fc bY (fc (sy s w.2.2) fn)))) v u h g
  | SU x s=>exact dF (fc bY (fc bY (fc (sy s w.2) fn))) v u h g
  | child x y s=>exact dF (fc bY (fc bY (fc bY (fc (sy s w.2.2) fn)))) v u h g
  | send s y r=>exact dF (fc bY (fc (sy s w.1) (fc bY (fc (sy r w.2.2) fn)))) v u h g
  | drop s=>exact dF (fc bY (fc (sy s w) fn)) v u h g
  | wait x ss =>
   refine dF (fc bY (fc bY (fc (dF ?_) fn))) v u h g;intro P hP;obtain⟨s,hs,rfl⟩:=List.mem_map.mp hP;exact aT.uq s k (by have:=(w.2.2 s hs).2;omega)
  | SX x y=>exact dF (fc bY (fc bY (fc bY fn))) v u h g
  | fin s=>exact dF (fc bY (fc (sy s w) fn)) v u h g
  | S1 s b =>
   simp only[Stm.dp] at hn;exact dF (fc bY (fc (sy s w.1) (fc (bl b w.2 (by omega)) fn))) v u h g
  | iff s b o =>
   simp only[Stm.dp] at hn;exact dF (fc bY (fc (sy s w.1) (fc (bl b w.2.1 (by omega)) (fc (bl o w.2.2 (by omega)) fn)))) v u h g
theorem Gu{K:q0B}{H:Hp}{p q:Addr}{us ws:List V}{b:List Stm}(e1:H p=some (.tup us))(e2:H q=some (.tup ws))(h1:aW H us b)(h2:aW H ws b)(w:cV b)(d:fJ b<=5):rK K H 20 p q true:=by
 have l:us.length=ws.length:=by rw[<- h1.len,<- h2.len]
 have:=rK.tup (K:=K) (H:=H) (n:=19) (e:=fun _=>true) (fS.of e1) (fS.of e2) (h1.ea.eq h2.ea fun P hP=>by obtain⟨m,hm,rfl⟩:=List.mem_map.mp hP;exact NS 19 m (vA w hm) (by have:=yL hm;omega))
 rwa [show((List.range (min us.length ws.length)).all (fun _=>true)&&us.length==ws.length)=true by rw[l];simp[List.all_eq_true]] at this
theorem aW.app{H:Hp}{vs us:List V}{a b:List Stm}(h:aW H vs a)(y:aW H us b):aW H (vs++us) (a++b):=by
 induction a generalizing vs with
 | nil=>cases h;exact y
 | cons m ms ih =>
  cases h with
  | cons h r=>exact .cons h (ih r)
theorem C3{H:Hp}{Q:VK}{a b:Addr}{xs ys:List V}(h1:H a=some (.tup xs))(h2:H b=some (.tup ys))(l:xs.length+ys.length<=16777216)(q:∀ p H',H' p=some (.tup (xs++ys))->Kp [] H H'->Q (.ref p) H'):Es (.ref a) (.ref b) H Q:=by
 rw[Fb,h1,yO,h2,yO];refine⟨l,?_⟩;split
 ·next e=>subst e;exact q b H (by rw[h2];rfl) Kp.refl
 ·split
  ·next e=>subst e;exact q a H (by rw[h1];simp) Kp.refl
  ·exact fun p hp=>q p _ aB (Kp.new hp)
theorem FZ{n:Int}(h:n.natAbs < 10 ^ 100)(h2:¬ (-1000000000<=n/\n<=1000000000)):k6 (Str.ofString (toString n)) (-1000000000) 1000000000=false:=by
 cases e:k6 (Str.ofString (toString n)) (-1000000000) 1000000000 with
 | false=>rfl
 | true =>
  obtain⟨i,hi,_,a,b⟩:=AO e;rw[lX n h] at hi;cases hi;exact absurd ⟨a,b⟩ h2
theorem Jg(n:Int):BK (Str.ofString (toString n))=false:=by
 cases e:BK (Str.ofString (toString n)) with
 | false=>rfl
 | true =>
  obtain⟨h1,h2⟩:=FW (m4.mpr e);cases hc:(Str.ofString (toString n)).cps.toList with
  | nil=>exact absurd hc h1
  | cons c r =>
   have hm:c∈(Str.ofString (toString n)).cps.toList:=by rw[hc];simp
   have:=h2 c hm;exact absurd hm (PyProof.Rows.int_text_free' c ⟨by omega,.inr (by omega)⟩ n)
theorem Gj{n:Int}(h:n.natAbs < 10 ^ 100)(h2:¬ (-1000000000<=n/\n<=1000000000))(d:Nat)(r:List Str):cJ d (Str.ofString (toString n)::r)=none:=by
 cases d with
 | zero=>rfl
 | succ d=>rw[fA,if_neg (by rw[CG n];decide),if_neg (by rw[CF n];decide),if_neg (fun z=>by rw[gX (n:=n) (x:="(") 40 (by decide +kernel) (by decide)] at z;exact z),if_neg (by rw[FZ h h2];decide),if_neg (by rw[Jg];decide)]
theorem DR(s:Say):∀ {d:Nat} (_:s.shT) (_:d < s.depth) (r:List Str),cJ d (sw s++r)=none:=by
 obtain⟨z1,z2,z3,z4,z5,z6,z7,z8,z9⟩:=lf3;have leaf:∀ {s:Say} {d:Nat} (r:List Str),s.depth=1->d < s.depth->cJ d (sw s++r)=none:=fun r h g=>by
  rw[h] at g;obtain rfl:=Nat.lt_one_iff.mp g;rfl
 induction s with
 | num n=>intro d _ h r;exact leaf (s:=.num n) r rfl h
 | SR=>intro d _ h r;exact leaf (s:=.SR) r rfl h
 | arg=>intro d _ h r;exact leaf (s:=.arg) r rfl h
 | now=>intro d _ h r;exact leaf (s:=.now) r rfl h
 | name x=>intro d _ h r;exact leaf (s:=.name x) r rfl h
 | Ti s ih =>
  intro d hs hd r;cases d with
  | zero=>rfl
  | succ d =>
   show cJ (d+1) ("answer"::(sw s++r))=_;rw[fA,if_neg (by rw[z4];decide),if_pos z7,ih ⟨hs.1,hs.2⟩ (by simp only[Say.depth] at hd;omega) r]
 | neg s ih =>
  intro d hs hd r;cases d with
  | zero=>rfl
  | succ d =>
   show cJ (d+1) ("not"::(sw s++r))=_;rw[fA,if_neg (by rw[z5];decide),if_pos z8,ih ⟨hs.1,hs.2⟩ (by simp only[Say.depth] at hd;omega) r]
 | two g a b i1 i2 =>
  intro d hs hd r;cases d with
  | zero=>rfl
  | succ d =>
   have e:sw (.two g a b)++r=("(":Str)::(sw a++(g.s::(sw b++((")":Str)::r)))):=by simp[sw]
   have ha:a.shT:=⟨hs.1.1,fun x hx=>hs.2 x (List.mem_append_left _ hx)⟩;have hb:b.shT:=⟨hs.1.2,fun x hx=>hs.2 x (List.mem_append_right _ hx)⟩;simp only[Say.depth] at hd;rw[e,fA,if_neg (by rw[z6];decide),if_neg (by rw[z9];decide),if_pos rfl,iE];by_cases h:d < a.depth
   ·rw[i1 ha h]
   ·rw[jT a ha (by omega)];simp only[];rw[i2 hb (by omega)]
theorem ML{m:Stm}(h:m.SS)(hb:m.SW=false):b7 (.str (m.ws.headD "")) lB=false:=by
 cases m with
 | S1 s b=>cases hb
 | iff s b o=>cases hb
 | send s k r=>show b7 (.str "send") lB=false;decide +kernel
 | drop s=>show b7 (.str "drop") lB=false;decide +kernel
 | fin s=>show b7 (.str "end") lB=false;decide +kernel
 | set x s=>exact g8 h.1 (by decide)
 | order x y s=>exact g8 h.1 (by decide)
 | SU x s=>exact g8 h.1 (by decide)
 | child x y s=>exact g8 h.1 (by decide)
 | wait x ss=>exact g8 h.1 (by decide)
 | SX x k=>exact g8 h.1 (by decide)
theorem uI{st:Nat->Str->List Str->Option (Stm×Nat×List Str)}{n:Nat}{acc:List Stm}{k:Nat}{m:Stm}{L:List Str}:gP st (n+1) acc k (m.hd::L)=match st k m.hd L with
    | some (m,k',L')=>gP st n (acc++[m]) k' L'
    | none=>none:=by
  rw[oB,if_neg (fun z=>by
    rcases z with z|z
    · exact yS (m:=m) (x:="else") cG.2.2.2.2.2.2.2.2.2.2.2.2.2.2.2.2.2.2.1.1 z
    · exact yS (m:=m) (x:="done") cG.2.2.2.2.2.2.2.2.2.2.2.2.2.2.2.2.2.2.2.1 z)]
theorem uK{b:List Stm}(h:C7 b):g9 (eE b)=match cF 6 0 (aM b) with
    | some (b,_,[])=>some b
    | _=>none:=by
  rw[g9,if_neg (fun z=>by rw[Bc b z.1] at z;cases z.2),uY h,List.dropLast_concat]
theorem zR(m:Stm):m.rows=m.hd::m.rows.tail:=by
 obtain⟨mr,WR⟩:=pX m;rw[WR];rfl
theorem fO{m:Stm}(h:m.wf)(hn:dB (cF 5) 0 m.hd m.rows.tail=none):g9 (eE [m])=none:=by
 rw[uK (b:=[m]) ⟨h,trivial⟩];have e:aM [m]=m.hd::m.rows.tail:=by rw[aM,aM,List.append_nil];exact zR m
 rw[e,show cF 6 0 (m.hd::m.rows.tail)=gP (dB (cF 5)) ((m.hd::m.rows.tail).length+1) [] 0 (m.hd::m.rows.tail) from rfl,List.length_cons,uI,hn]
theorem dZ{SW:iM}{k:Nat}{m:Stm}{L:List Str}(h:m.SS)(hb:m.SW=false)(hn:∀ m',dY m.ws≠some (m',[])):dB SW k m.hd L=none:=by
 rw[dB,kX h,if_neg (show ¬ b7 (.str (m.ws.headD "")) lB=true by rw[ML h hb];decide)];split
 ·rfl
 ·split
  ·next m' e=>exact absurd e (hn m')
  ·rfl
noncomputable def D9(D:Nat)(SW:iM):Prop:=∀ {k:Nat} {b:List Stm} {R:List Str},cV b->D<=fJ b->k+cX b<=60->kB R->SW k (aM b++R)=none
theorem oQ(o:List Stm)(R:List Str):kB (vS o++(("done":Str)::R)):=by
 cases o with
 | nil=>exact Or.inr rfl
 | cons a c=>exact Or.inl rfl
theorem KI(s:Say)(b:List Stm)(R:List Str):(Stm.S1 s b).rows.tail++R=aM b++(("done":Str)::R):=by simp[Stm.rows]
theorem J3(s:Say)(b o:List Stm)(R:List Str):(Stm.iff s b o).rows.tail++R=aM b++(vS o++(("done":Str)::R)):=by simp[Stm.rows,vS]
theorem oF{SW:iM}{k:Nat}{o:List Stm}{R:List Str}(ho:o≠[])(h:SW k (aM o++(("done":Str)::R))=none):gB SW k (vS o++(("done":Str)::R))=none:=by
 cases o with
 | nil=>exact absurd rfl ho
 | cons a c =>
  show gB SW k (("else":Str)::(aM (a::c)++(("done":Str)::R)))=none;rw[jI,if_pos rfl,h]
theorem B1{D:Nat}{SW:iM}(B:Bi D SW)(N:D9 D SW){k:Nat}{m:Stm}{R:List Str}(h:m.wfT)(hd:D < m.dp)(hk:k+m.sz<=60):dB SW k m.hd (m.rows.tail++R)=none:=by
 have SS:=(Stm.Af h).lo;have sp:=m.Cd;obtain⟨b1,b2,b3,b4⟩:=Rf;rw[dB,if_neg (by omega),kX SS];cases m with
 | S1 s b =>
  rw[if_pos (show b7 (.str ((Stm.S1 s b).ws.headD "")) lB=true from b1)];show j8 SW (k+1) ("while"::sw s) _=_;simp only[Stm.dp] at hd;simp only[Stm.sz] at hk;rw[KI,hJ,cT h.1];simp only[];rw[N h.2 (by omega) (by omega) (show kB (_::_) from Or.inr rfl)]
 | iff s b o =>
  rw[if_pos (show b7 (.str ((Stm.iff s b o).ws.headD "")) lB=true from b2)];show j8 SW (k+1) ("if"::sw s) _=_;simp only[Stm.dp] at hd;simp only[Stm.sz] at hk;rw[J3,hJ,cT h.1];simp only[];by_cases hb:D<=fJ b
  ·rw[N h.2.1 hb (by omega) (oQ o R)]
  ·rw[B h.2.1 (by omega) (by omega) (oQ o R)];simp only[];rw[if_neg b3,oF (fun z=>by rw[z] at hd;simp only[fJ] at hd;omega) (N h.2.2 (by omega) (by omega) (show kB (_::_) from Or.inr rfl))]
 | _=>simp only[Stm.dp] at hd;omega
theorem uH{D:Nat}{SW:iM}(B:Bi D SW)(N:D9 D SW):∀(b:List Stm) {n:Nat} {acc:List Stm} {k:Nat} {R:List Str},(aM b++R).length < n->cV b->D < fJ b->k+cX b<=60->gP (dB SW) n acc k (aM b++R)=none
 | [],_,_,_,_,_,_,hd,_=>by simp only[fJ] at hd;omega
 | m::b,n,acc,k,R,hn,hw,hd,hk=>by
  obtain⟨n,rfl⟩:∃ e,n=e+1:=⟨n - 1,by omega⟩;have e:aM (m::b)++R=m.hd::(m.rows.tail++(aM b++R)):=by rw[aM,zR];simp
  simp only[fJ] at hd;simp only[cX] at hk;rw[e,uI];by_cases h:D < m.dp
  ·rw[B1 B N hw.1 h (by omega)]
  ·rw[pS B hw.1 (by omega) (by omega)];simp only[];exact uH B N b (by rw[e] at hn;simp at hn ⊢;omega) hw.2 (by omega) (by omega)
theorem qX:∀ D,D9 D (cF D)
 | 0=>fun _ _ _ _=>rfl
 | D+1=>fun hw hd hk hs=>uH (jS D) (qX D) _ (Nat.lt_succ_self _) hw hd hk
theorem BZ{b:List Stm}(h:cV b)(hd:6<=fJ b)(hz:cX b<=60):g9 (eE b)=none:=by
 have:=qX 6 (k:=0) (R:=[]) h hd (by omega) trivial;rw[List.append_nil] at this;rw[uK (cV.lo h),this]
noncomputable def Eb(D:Nat)(SW:iM):Prop:=∀ {k:Nat} {b:List Stm} {R:List Str},cV b->fJ b < D->60 < k+cX b->k<=60->kB R->SW k (aM b++R)=none
theorem B2{D:Nat}{SW:iM}(B:Bi D SW)(N:Eb D SW){k:Nat}{m:Stm}{R:List Str}(h:m.wfT)(hd:m.dp<=D)(hk:60 < k+m.sz):dB SW k m.hd (m.rows.tail++R)=none:=by
 have SS:=(Stm.Af h).lo;obtain⟨b1,b2,b3,b4⟩:=Rf;rw[dB];by_cases h1:60 < k+1
 ·rw[if_pos h1]
 rw[if_neg h1,kX SS];cases m with
 | S1 s b =>
  rw[if_pos (show b7 (.str ((Stm.S1 s b).ws.headD "")) lB=true from b1)];show j8 SW (k+1) ("while"::sw s) _=_;simp only[Stm.dp] at hd;simp only[Stm.sz] at hk;rw[KI,hJ,cT h.1];simp only[];rw[N h.2 (by omega) (by omega) (by omega) (show kB (_::_) from Or.inr rfl)]
 | iff s b o =>
  rw[if_pos (show b7 (.str ((Stm.iff s b o).ws.headD "")) lB=true from b2)];show j8 SW (k+1) ("if"::sw s) _=_;simp only[Stm.dp] at hd;simp only[Stm.sz] at hk;rw[J3,hJ,cT h.1];simp only[];by_cases hb:60 < k+1+cX b
  ·rw[N h.2.1 (by omega) hb (by omega) (oQ o R)]
  ·rw[B h.2.1 (by omega) (by omega) (oQ o R)];simp only[];rw[if_neg b3,oF (fun z=>by rw[z] at hk;simp only[cX] at hk;omega) (N h.2.2 (by omega) (by omega) (by omega) (show kB (_::_) from Or.inr rfl))]
 | _=>simp only[Stm.sz] at hk;omega
theorem uJ{D:Nat}{SW:iM}(B:Bi D SW)(N:Eb D SW):∀(b:List Stm) {n:Nat} {acc:List Stm} {k:Nat} {R:List Str},(aM b++R).length < n->cV b->fJ b<=D->60 < k+cX b->k<=60->gP (dB SW) n acc k (aM b++R)=none
 | [],_,_,_,_,_,_,_,hk,h6=>by simp only[cX] at hk;omega
 | m::b,n,acc,k,R,hn,hw,hd,hk,h6=>by
  obtain⟨n,rfl⟩:∃ e,n=e+1:=⟨n - 1,by omega⟩;have e:aM (m::b)++R=m.hd::(m.rows.tail++(aM b++R)):=by rw[aM,zR];simp
  simp only[fJ] at hd;simp only[cX] at hk;rw[e,uI];by_cases h:60 < k+m.sz
  ·rw[B2 B N hw.1 (by omega) h]
  ·rw[pS B hw.1 (by omega) (by omega)];simp only[];exact uJ B N b (by rw[e] at hn;simp at hn ⊢;omega) hw.2 (by omega) (by omega) (by omega)
theorem qY:∀ D,Eb D (cF D)
 | 0=>fun _ h _ _ _=>absurd h (Nat.not_lt_zero _)
 | D+1=>fun hw hd hk h6 _=>uJ (jS D) (qY D) _ (Nat.lt_succ_self _) hw (by omega) hk h6
theorem B0{b:List Stm}(h:cV b)(hd:fJ b<=5)(hz:60 < cX b):g9 (eE b)=none:=by
 have:=qY 6 (k:=0) (R:=[]) h (by omega) (by omega) (by omega) trivial;rw[List.append_nil] at this;rw[uK (cV.lo h),this]
theorem AN:cH "x"/\cH "y"/\cH "key":=by unfold cH;decide +kernel
theorem Ff{n:Int}(h:n.natAbs < 10 ^ 100)(hl:(Say.num n).s6)(h2:¬ (-1000000000<=n/\n<=1000000000)):g9 (eE [.fin (.num n)])=none:=by
 obtain⟨n1,n2,n3,n4,n5,n6,n7,n8,n9,XT,XU,V9,XW⟩:=ne5s;refine fO hl (dZ hl rfl fun m' e=>?_);rw[show(Stm.fin (.num n)).ws=("end":Str)::[Str.ofString (toString n)] from rfl,gA,if_neg V9,if_pos (.inr rfl),Gj h h2] at e;cases e
theorem Cq:∀ k:Nat,((List.replicate k Say.arg).map sw).flatten=List.replicate k ("arg":Str)
 | 0=>rfl
 | k+1=>by
  rw[List.replicate_succ,List.map_cons,List.flatten_cons,Cq k];rfl
theorem uL(r:List Str):cJ 6 (("arg":Str)::r)=some (.arg,r):=jT .arg ⟨trivial,fun x hx=>by cases hx⟩ (by decide) r
theorem xB:∀(n k:Nat) (acc:List Say),∃ ss,iQ n acc (List.replicate k ("arg":Str))=some (ss,List.replicate (k - n) ("arg":Str))
 | 0,k,acc=>⟨acc,rfl⟩
 | n+1,0,acc=>⟨acc,by rw[show List.replicate 0 ("arg":Str)=[] from rfl,zJ,Nat.zero_sub];rfl⟩
 | n+1,k+1,acc=>by
  obtain⟨ss,h⟩:=xB n k (acc++[.arg]);refine⟨ss,?_⟩;rw[List.replicate_succ,lZ,uL];simp only[];rw[h,Nat.succ_sub_succ]
theorem Bf{k:Nat}(h6:k<=6)(h:k=0\/4 < k):g9 (eE [.wait "x" (List.replicate k Say.arg)])=none:=by
 obtain⟨n1,n2,n3,n4,n5,n6,n7,n8,n9,XT,XU,V9,XW⟩:=ne5s;have SS:(Stm.wait "x" (List.replicate k Say.arg)).SS:=⟨AN.1,⟨Nat.zero_le _,by rw[List.length_replicate];exact h6⟩,fun s hs=>by rw[List.eq_of_mem_replicate hs];exact⟨⟨trivial,fun x hx=>by cases hx⟩,by decide⟩⟩;refine fO SS (dZ SS rfl fun m' e=>?_);rw[show(Stm.wait "x" (List.replicate k Say.arg)).ws=("x":Str)::"="::"wait"::((List.replicate k Say.arg).map sw).flatten from rfl,Cq,dN AN.1,dJ,if_neg (by rw[in5s.2.1];decide),if_neg n1,if_pos rfl,eV] at e;rcases h with rfl|h
 ·cases e
 ·obtain⟨k,rfl⟩:∃ j,k=j+1:=⟨k - 1,by omega⟩;rw[List.replicate_succ,uL] at e;simp only[] at e;obtain⟨ss,hm⟩:=xB 3 k [.arg];rw[hm] at e;obtain⟨j,hj⟩:∃ j,k - 3=j+1:=⟨k - 4,by omega⟩;rw[hj] at e;cases e
noncomputable def kA(s:Say):List Stm:=[.set "x" s,.wait "x" [.arg,s],.send s "key" .SR,.send .SR "key" s,.iff s [] [],.child "x" "y" s]
theorem Gk(r:List Str):cJ 6 (("none":Str)::r)=some (.SR,r):=jT .SR ⟨trivial,fun x hx=>by cases hx⟩ (by decide) r
theorem GF{s:Say}(hs:s.shT)(h7:6 < s.depth)(h8:s.depth<=8){m:Stm}(hm:m∈kA s):g9 (eE [m])=none:=by
 obtain⟨n1,n2,n3,n4,n5,n6,n7,n8,n9,XT,XU,V9,XW⟩:=ne5s;obtain⟨a1,a2,a3,a4,a5⟩:=in5s;have bad:∀ r,cJ 6 (sw s++r)=none:=fun r=>DR s hs h7 r;have Ue:cJ 6 (sw s)=none:=by have:=bad [];rwa [List.append_nil] at this
 have ls:s.s6:=⟨hs.lo,h8⟩;have l0:∀ t:Say,t=.arg\/t=.SR->t.s6:=fun t h=>by rcases h with rfl|rfl<;>exact⟨⟨trivial,fun x hx=>by cases hx⟩,by decide⟩
 obtain⟨x1,x2,x3⟩:=AN;simp only[kA,List.mem_cons,List.not_mem_nil,or_false] at hm;rcases hm with rfl|rfl|rfl|rfl|rfl|rfl
 ·refine fO (show(Stm.set "x" s).wf from ⟨x1,ls⟩) (dZ (m:=.set "x" s) ⟨x1,ls⟩ rfl fun m' e=>?_);obtain⟨w,r,hw,hi⟩:=uX ls.1;rw[show(Stm.set "x" s).ws=("x":Str)::"="::sw s from rfl,dN x1] at e;rw[hw] at e Ue;rw[dJ,if_pos hi,Ue] at e;cases e
 ·have SS:(Stm.wait "x" [.arg,s]).SS:=⟨x1,⟨Nat.zero_le _,by simp⟩,fun t ht=>by
   simp only[List.mem_cons,List.not_mem_nil,or_false] at ht;rcases ht with rfl|rfl
   ·exact l0 _ (.inl rfl)
   ·exact ls⟩
  refine fO SS (dZ SS rfl fun m' e=>?_);obtain⟨w,r,hw,hi⟩:=uX ls.1;rw[show(Stm.wait "x" [.arg,s]).ws=("x":Str)::"="::"wait"::"arg"::(sw s++[]) from rfl,List.append_nil,dN x1,dJ,if_neg (by rw[a2];decide),if_neg n1,if_pos rfl,eV,uL] at e;simp only[] at e;rw[hw] at e Ue;rw[lZ,Ue] at e;cases e
 ·refine fO (show(Stm.send s "key" .SR).wf from ⟨ls,x3,l0 _ (.inr rfl)⟩) (dZ (m:=.send s "key" .SR) ⟨ls,x3,l0 _ (.inr rfl)⟩ rfl fun m' e=>?_);rw[show(Stm.send s "key" .SR).ws=("send":Str)::(sw s++[("key":Str),"none"]) from rfl,gA,if_pos rfl,bad] at e;cases e
 ·refine fO (show(Stm.send .SR "key" s).wf from ⟨l0 _ (.inr rfl),x3,ls⟩) (dZ (m:=.send .SR "key" s) ⟨l0 _ (.inr rfl),x3,ls⟩ rfl fun m' e=>?_);rw[show(Stm.send .SR "key" s).ws=("send":Str)::"none"::"key"::sw s from rfl,gA,if_pos rfl,Gk] at e;simp only[] at e;rw[jH x3] at e;simp only[] at e;rw[Ue] at e;cases e
 ·refine fO (show(Stm.iff s [] []).wf from ⟨ls,trivial,trivial⟩) ?_;rw[dB,if_neg (by decide),kX (m:=.iff s [] []) ls,if_pos (show b7 (.str ((Stm.iff s [] []).ws.headD "")) lB=true from Rf.2.1)];show j8 (cF 5) 1 ("if"::sw s) _=none;rw[hJ,Ue]
 ·refine fO (show(Stm.child "x" "y" s).wf from ⟨x1,x2,ls⟩) (dZ (m:=.child "x" "y" s) ⟨x1,x2,ls⟩ rfl fun m' e=>?_);rw[show(Stm.child "x" "y" s).ws=("x":Str)::"="::"child"::"y"::sw s from rfl,dN x1,dJ,if_neg (by rw[a5];decide),if_neg n7,if_neg n8,if_neg n9,jH x2] at e;simp only[] at e;rw[Ue] at e;cases e
structure Good(b:List Stm)(ok:Bool):Prop where
 wf:C7 b
 dp:fJ b<=7
 sz:cX b<=62
 yes:ok=true->cV b/\fJ b<=5/\cX b<=60
 no:ok=false->g9 (eE b)=none
noncomputable def uU:Sp:=fun vs H Q _=>∃ r:Addr,vs=[.ref r]/\bN H r/\∀(c p:Addr) (us:List V) (b:List Stm) (ok:Bool) (H':Hp),H' c=some (.tup [.ref p,.bl ok])->H' p=some (.tup us)->aW H' us b->Good b ok->bN H' r->Kp [r] H H'->Q (.ref c) H'
noncomputable def Nz:Sp:=fun vs H Q _=>∃(r:Addr) (n:Int),vs=[.ref r,.int n]/\bN H r/\(0<=n/\n<=62)/\∀(p:Addr) (us:List V) (b:List Stm) (H':Hp),H' p=some (.tup us)->aW H' us b->cV b->fJ b=0->(cX b:Int)=n->b.length<=62->bN H' r->Kp [r] H H'->Q (.ref p) H'
noncomputable def NI:Sp:=fun vs H Q _=>∃(r:Addr) (n:Int),vs=[.ref r,.int n]/\bN H r/\(1<=n/\n<=8)/\∀(v:V) (s:Say) (H':Hp),aT H' v s->s.shT->(s.depth:Int)=n->bN H' r->Kp [r] H H'->Q v H'
noncomputable def JE:Sp:=fun vs H Q _=>∃(c p:Addr) (us:List V) (b:List Stm) (ok:Bool),vs=[.ref c]/\H c=some (.tup [.ref p,.bl ok])/\H p=some (.tup us)/\aW H us b/\Good b ok/\∀ H',Kp [] H H'->Q (.bl true) H'
theorem Bg{a b:List Stm}:cV (a++b)↔cV a/\cV b:=by
 induction a with
 | nil=>exact⟨fun h=>⟨trivial,h⟩,fun h=>h.2⟩
 | cons m a ih=>exact⟨fun h=>⟨⟨h.1,(ih.mp h.2).1⟩,(ih.mp h.2).2⟩,fun h=>⟨h.1.1,ih.mpr ⟨h.1.2,h.2⟩⟩⟩
theorem lV{b:List Stm}{n:Int}(w:cV b)(d:fJ b<=1)(e:(cX b:Int)=n)(h:n<=62):Good b (decide (n<=60)):=⟨cV.lo w,by omega,by omega,fun z=>⟨w,by omega,by have:=of_decide_eq_true z;omega⟩,fun z=>B0 w (by omega) (by have:=of_decide_eq_false z;omega)⟩
theorem uP{s:Say}(h:s=.arg\/s=.now\/s=.SR):s.s6T:=by rcases h with rfl|rfl|rfl<;>exact⟨⟨trivial,fun x hx=>by cases hx⟩,by decide⟩
theorem aW.Qp{H:Hp}{us:List V}{b:List Stm}{v:V}{m:Stm}(h:aW H us b)(g:bQ H v m):aW H (us++[v]) (b++[m]):=h.app (.cons g .nil)
theorem x9{b:List Stm}{m:Stm}(h:cV b)(g:m.wfT):cV (b++[m]):=Bg.mpr ⟨h,g,trivial⟩
theorem Np{K:q0B}{H:Hp}{a b:Addr}{xs:List V}(ha:H a=some (.tup xs))(hb:H b=some (.tup [])):rK K H 20 a b xs.isEmpty:=by
 have:=rK.tup (K:=K) (H:=H) (n:=19) (e:=fun _=>true) (fS.of ha) (fS.of hb) (fun j x y _ e=>by simp at e);have e:((List.range (min xs.length ([]:List V).length)).all (fun _=>true)&&xs.length==([]:List V).length)=xs.isEmpty:=by cases xs<;>simp
 rwa [e] at this
theorem Dx{b:List Stm}{n:Int}(w:cV b)(d:(fJ b:Int)=n)(e:cX b<=10)(h:n<=7):Good b (decide (n<=5)):=⟨cV.lo w,by omega,by omega,fun z=>⟨w,by have:=of_decide_eq_true z;omega,by omega⟩,fun z=>BZ w (by have:=of_decide_eq_false z;omega) (by omega)⟩
theorem say1(s:Say)(h:s=.num 1\/s=.arg\/s=.SR\/s=.name "x"):s.shT/\s.depth=1:=by
 rcases h with rfl|rfl|rfl|rfl
 ·exact⟨⟨⟨by decide,by decide⟩,fun x hx=>by cases hx⟩,rfl⟩
 ·exact⟨⟨trivial,fun x hx=>by cases hx⟩,rfl⟩
 ·exact⟨⟨trivial,fun x hx=>by cases hx⟩,rfl⟩
 ·exact⟨⟨trivial,fun x hx=>by rw[show x = "x" by simpa[Say.nms] using hx];exact AN.1⟩,rfl⟩
theorem sC{g:Sg}{a b:Say}(ha:a.shT)(hb:b.shT):(Say.two g a b).shT:=⟨⟨ha.1,hb.1⟩,fun x hx=>by
 rcases List.mem_append.mp hx with hx|hx
 ·exact ha.2 x hx
 ·exact hb.2 x hx⟩
theorem Fk{s:Say}(hs:s.shT)(h8:s.depth<=8){n:Int}(hn:(s.depth:Int)=n){m:Stm}(hm:m∈kA s)(hw:s.depth<=6->m.wfT)(hl:m.wf)(hd:m.dp<=1)(hz:m.sz=1):Good [m] (decide (n<=6)) :=
 ⟨⟨hl,trivial⟩,by simp only[fJ];omega,by simp only[cX];omega,fun z=>⟨⟨hw (by have:=of_decide_eq_true z;omega),trivial⟩,by simp only[fJ];omega,by simp only[cX];omega⟩,fun z=>GF hs (by have:=of_decide_eq_false z;omega) h8 hm⟩
theorem Nv{s:Say}(hs:s.shT)(h8:s.depth<=8){m:Stm}(hm:m∈kA s):(s.depth<=6->m.wfT)/\m.wf/\m.dp<=1/\m.sz=1:=by
 have ls:s.s6:=⟨hs.lo,h8⟩;obtain⟨x1,x2,x3⟩:=AN;have a1:=uP (s:=.arg) (.inl rfl);have n1:=uP (s:=.SR) (.inr (.inr rfl));simp only[kA,List.mem_cons,List.not_mem_nil,or_false] at hm;rcases hm with rfl|rfl|rfl|rfl|rfl|rfl
 ·exact⟨fun h=>⟨x1,hs,h⟩,⟨x1,ls⟩,Nat.zero_le _,rfl⟩
 ·refine⟨fun h=>⟨x1,⟨by simp,by simp⟩,fun t ht=>?_⟩,⟨x1,⟨by simp,by simp⟩,fun t ht=>?_⟩,Nat.zero_le _,rfl⟩
  ·simp only[List.mem_cons,List.not_mem_nil,or_false] at ht;rcases ht with rfl|rfl
   ·exact a1
   ·exact⟨hs,h⟩
  ·simp only[List.mem_cons,List.not_mem_nil,or_false] at ht;rcases ht with rfl|rfl
   ·exact a1.lo
   ·exact ls
 ·exact⟨fun h=>⟨⟨hs,h⟩,x3,n1⟩,⟨ls,x3,n1.lo⟩,Nat.zero_le _,rfl⟩
 ·exact⟨fun h=>⟨n1,x3,hs,h⟩,⟨n1.lo,x3,ls⟩,Nat.zero_le _,rfl⟩
 ·exact⟨fun h=>⟨⟨hs,h⟩,trivial,trivial⟩,⟨ls,trivial,trivial⟩,Nat.le_refl _,rfl⟩
 ·exact⟨fun h=>⟨x1,x2,hs,h⟩,⟨x1,x2,ls⟩,Nat.zero_le _,rfl⟩
noncomputable def nJ(H:Hp)(s:Say)(v:V):Prop:=∃ m,m∈kA s/\bQ H v m
theorem qH{H:Hp}{a:Addr}(h:H a=some (.tup [.str "arg"])):∀ k:Nat,dC H (List.replicate k (.ref a)) (List.replicate k Say.arg)
 | 0=>.nil
 | k+1=>by rw[List.replicate_succ,List.replicate_succ];exact .cons (.arg h) (qH h k)
theorem wY{k:Nat}(h:k<=6)(b:Bool)(hb:b=decide (1<=k/\k<=4)):Good [.wait "x" (List.replicate k Say.arg)] b:=by
 have all:∀ s∈List.replicate k Say.arg,s.s6T:=fun s hs=>by rw[List.eq_of_mem_replicate hs];exact uP (.inl rfl)
 have l:=List.length_replicate (n:=k) (a:=Say.arg);refine⟨⟨show(Stm.wait "x" (List.replicate k Say.arg)).wf from ⟨AN.1,⟨Nat.zero_le _,by omega⟩,fun s hs=>(all s hs).lo⟩,trivial⟩,by simp only[fJ,Stm.dp];omega,by simp only[cX,Stm.sz];omega,fun z=>?_,fun z=>Bf h ?_⟩
 ·have:=of_decide_eq_true (hb.symm.trans z);exact⟨⟨show(Stm.wait "x" (List.replicate k Say.arg)).wfT from ⟨AN.1,⟨by omega,by omega⟩,all⟩,trivial⟩,by simp only[fJ,Stm.dp];omega,by simp only[cX,Stm.sz];omega⟩
 ·have:=of_decide_eq_false (hb.symm.trans z);omega
theorem Fj{n:Int}(h:-1000000002<=n/\n<=1000000002)(b:Bool)(hb:b=decide (-1000000000<=n/\n<=1000000000)):Good [.fin (.num n)] b:=by
 have lo:(Say.num n).s6:=⟨⟨h,fun x hx=>by cases hx⟩,show 1<=8 by decide⟩;refine⟨⟨lo,trivial⟩,by simp only[fJ,Stm.dp];omega,by simp only[cX,Stm.sz];omega,fun z=>?_,fun z=>Ff (Nat.lt_of_le_of_lt (show n.natAbs<=1000000002 by omega) (by decide)) lo (of_decide_eq_false (hb.symm.trans z))⟩;exact⟨⟨show(Say.num n).s6T from ⟨⟨show -1000000000<=n/\n<=1000000000 from of_decide_eq_true (hb.symm.trans z),fun x hx=>by cases hx⟩,show 1<=6 by decide⟩,trivial⟩,by simp only[fJ,Stm.dp];omega,by simp only[cX,Stm.sz];omega⟩
local macro_rules | `(tactic| wp_walk) => `(tactic| wp_walk using true_and)
local macro_rules | `(tactic| wp_walk using $ts,*) => do
  let us ← ts.getElems.mapM fun t => `(Lean.Parser.Tactic.simpLemma| $t:term)
  let vs <- ("↓Nj ↓Nh ↓Qe ↓Qf ↓Jr ↓Qg ↓Nk ↓Ni ↓Jp ↓NU ↓Qh ↓Gw ↓Jq ↓Qd ↓Qc ↓PB ↓OG ↓Me ↓Py ↓Mo ↓O2 ↓Mv ↓RY ↓RO ↓RV ↓RZ ↓SD ↓Lo ↓Pj ↓Ll ↓RN ↓Pa ↓PJ ↓Lw ↓Lx ↓Mg ↓HH ↓Lp ↓Lf ↓Pr ↓Mh ↓OE ↓RW ↓Pk ↓HI ↓RX ↓Ml ↓E6 ↓LN ↓LM ↓Ib ↓LK ↓O0 ↓Pu ↓OF ↓Pt ↓Pq ↓Pp ↓Ik ↓Ii ↓Ij ↓E7 ↓E8 ↓Ih ↓O5 ↓O6 ↓Lc ↓Le ↓Ld ↓Lm ↓PF ↓PD ↓Lq ↓Ma ↓L9 ↓PC ↓RP ↓Lu ↓L0 ↓L7 ↓L6 ↓OH ↓OI ↓OJ ↓OK ↓OL ↓OM ↓ON ↓OO ↓OP ↓OQ ↓Lg ↓Lh ↓Li ↓HJ ↓HK ↓HL ↓EJ ↓HS ↓HU ↓EM ↓EN ↓EO ↓ER ↓ES ↓LX ↓LY ↓LQ ↓LP ↓RQ ↓Ic ↓Pb ↓Pc ↓OC ↓vK ↓yM ↓vN ↓vL ↓vM ↓tE ↓vJ ↓tH ↓tF ↓tG ↓vO ↓yN ↓vR ↓vP ↓vQ ↓rB ↓tI ↓rE ↓rC ↓rD ↓EY ↓E2 ↓Dq ↓Dr ↓EZ ↓E3 ↓Bu ↓Bv ↓EW ↓Dp ↓EX ↓OS ↓OT ↓LW ↓LV ↓Pn ↓HZ ↓Po ↓Ia ↓LG ↓LH ↓LI ↓HP ↓HN ↓Il ↓HQ ↓MD ↓OU ↓O1 ↓OW ↓LB ↓LA ↓Lz ↓Mr ↓LO ↓RJ ↓RK ↓RM ↓Pg ↓Pf ↓yO ↓LC ↓Lr ↓HM ↓Ip ↓Mp ↓Pz ↓Iq ↓HW ↓RI ↓PK ↓Mt ↓Mu ↓LZ ↓Iv ↓Iu ↓Mf ↓Iz ↓OZ ↓RS ↓RT ↓EV ↓LD ↓RU ↓OX ↓Mm ↓Iy ↓MB ↓Mx ↓Mz ↓Fc ↓MA ↓MC ↓My ↓Ig ↓HR ↓Pd ↓OV ↓Px ↓Ie ↓L8 ↓Ap ↓LR ↓E9 ↓Ly ↓O9 ↓OD ↓O3 ↓Cz ↓OY ↓Mq ↓Lj ↓Md ↓Mc ↓E5 ↓Ds ↓Mn ↓Im ↓MF ↓MG ↓LS ↓Mw ↓Lv ↓HX ↓EU ↓ET ↓HY ↓Ls ↓LL ↓O4 ↓Lk ↓OR ↓Ir ↓LJ ↓LF ↓EL ↓EK ↓HV ↓LU ↓Mb ↓O7 ↓O8 ↓E4 ↓Pe ↓PH ↓Ln ↓Mi ↓Mj ↓Ph ↓Io ↓ME ↓Ms ↓Iw ↓QY ↓QZ ↓Q0 ↓Q2 ↓Q3 ↓Q4 ↓Q5 ↓Q6 ↓Q7 ↓Kj ↓Kk ↓Kl ↓Km ↓Kn ↓Ko ↓Kq ↓Kr ↓Ks ↓Kt ↓Ku ↓Kv ↓Kw ↓Kx ↓Ky ↓Kz ↓KA ↓KC ↓KE ↓KH ↓Q1 ↓Ki ↓QX ↓Sm ↓QT ↓QU ↓QV ↓QW ↓Sl ↓aB ↓List.set_cons_zero ↓List.set_cons_succ ↓List.getElem?_cons_zero ↓List.getElem?_cons_succ L2.start FF J5 List.cons_append List.nil_append List.append_nil List.replicate_succ List.replicate_zero List.length_cons List.length_nil Nat.reduceAdd Nat.reduceSub Nat.zero_add Nat.add_zero Nat.reduceLeDiff Nat.reducePow Nat.reduceLT true_and and_true false_and and_false forall_const ↓reduceIte fE String.reduceEq Int.reduceToNat Int.reducePow Int.reduceNeg Int.reduceSub Int.reduceAdd Int.reduceMul Int.reduceLT Int.reduceLE Int.reduceEq sizeLine SJ Sk decide_true decide_false Bool.not_true Bool.not_false Bool.false_eq_true".splitOn " ").toArray.mapM fun(n:String)=>do
    let p:=n.splitOn "↓";let x:=Lean.mkIdent (p.getLastD "").toName
    if p.length = 1 then `(Lean.Parser.Tactic.simpLemma| $x:term) else `(Lean.Parser.Tactic.simpLemma| ↓ $x:term)
  let ws:=us++vs
  `(tactic| try simp (config := { dsimp := false }) only [$ws,*])
noncomputable def CY(K:q0B):Sp:=fun vs H Q _=>∃(a:Addr) (ns:List Int),vs=[.ref a]/\dS K H a (ns.map V.int)/\ns.length<=63/\∀ H',Q (.bl true) H'
section
variable {P:Program} {w:World} {K:q0B} {mg:q0C} {base:Heap}
theorem zC{t:Ad}(T:Tx K mg t):bL P w K mg base Tc 1 t.mM t.mU ["cell"] GI:=by
 refine T.tK.ok j4 (fun vs H Q E h=>?_) (fun S0 A outer s H vs Q E hr h=>?_)
 ·obtain⟨c,rfl,_⟩:=h;rfl
 ·obtain⟨c,rfl,q⟩:=h;refine⟨_,(aD (aR (i:=1) j4.nd rfl (Or.inl rfl) (aZ pQ (pv 0) aF))
   (aD (aR (i:=1) j4.nd rfl (Or.inl rfl) (aZ pQ (aZ aU (aZ uF (aZ pQ (aZ uF (pv 1) (pv 1)) aF) (aZ aU (pv 1) aF)) aF) aF))
   (aG (aQ (gC (aC (pv 0) (aC (pv 1) (aC (fP Di rfl T.Hg Bn (aC (gK Qa (pv 0) (aZ BV aF aF) (nomark _)) aA)) aA)))))))),?_⟩
  and_intros
  wp_walk;have m0:=Int.emod_nonneg c (show(536870909:Int)≠0 by decide);have m1:=Int.emod_lt_of_pos c (show(0:Int) < 536870909 by decide);have n0:=Int.emod_nonneg (c % 536870909 * (c % 536870909)) (show(536870909:Int)≠0 by decide);have n1:=Int.emod_lt_of_pos (c % 536870909 * (c % 536870909)) (show(0:Int) < 536870909 by decide);refine⟨CL (by omega) (by omega),CL (by omega) (by omega),fun r hr'=>?_⟩;refine q r _ hr' (Kp.new hr') ⟨_,_,_,aB,?_,?_⟩
  ·exact Int.emod_nonneg _ (by decide)
  ·exact Int.emod_lt_of_pos _ (by decide)
theorem bM{t:Ad}(T:Tx K mg t):bL P w K mg base Tc 1 t.sL t.sX ["row","many"] GK:=by
 refine T.b9.ok uR (fun vs H Q E h=>?_) (fun S0 A outer s H vs Q E hr h=>?_)
 ·obtain⟨r,m,rfl,_⟩:=h;rfl
 ·obtain⟨r,m,rfl,m0,m1,⟨c,l,f,hr0,l0,l1⟩,q⟩:=h;refine⟨_,(aD (bG (aS eL (bT cY (pv 0) aF (fun _ _=>rfl)) aF (nomark _)) (aD (aR (i:=2) uR.nd rfl (Or.inl rfl) (aZ pQ (bT cY (pv 0) aF (fun _ _=>rfl)) (pv 1)))
   (aD (B5 (aZ Gf (bT cY (pv 0) aF (fun _ _=>rfl)) (pv 1)) (Gp (pv 0) aF J7))
   (aG (aQ (pv 2))))) aV)
   (aD (B5 (aZ pQ (aZ uF (aZ aU (bT cY (pv 0) aF (fun _ _=>rfl)) aF) (aZ aU (bT cY (pv 0) aF (fun _ _=>rfl)) aF)) aF) (Gp (pv 0) aF J7))
   (aG (aQ (aZ pQ (aZ aU (aZ uF (bT cY (pv 0) aF (fun _ _=>rfl)) aF) aF) (pv 1)))))),?_⟩
  and_intros
  wp_walk using hr0;have n0:=Int.emod_nonneg ((l+7919) * (l+104729)) (show(536870909:Int)≠0 by decide);have n1:=Int.emod_lt_of_pos ((l+7919) * (l+104729)) (show(0:Int) < 536870909 by decide);split
  ·exact⟨m0,⟨m0,log2_lt m0 m1⟩,q _ _ (Int.emod_nonneg _ (by omega)) (Int.emod_lt_of_pos _ m0) ⟨_,_,_,aB,l0,l1⟩ (Kp.set (by simp))⟩
  ·exact⟨CL (by omega) (by omega),CL (by omega) (by omega),m0,q _ _ (Int.emod_nonneg _ (by omega)) (Int.emod_lt_of_pos _ m0) ⟨_,_,_,aB,n0,n1⟩ (Kp.set (by simp))⟩
theorem gJ{t:Ad}(T:Tx K mg t):bL P w K mg base Tc 4 t.sF t.sS ["row","many"] Nz:=by
 refine T.iC.ok B8 (fun vs H Q E h=>?_) (fun S0 A outer s H vs Q E hr h=>?_)
 ·obtain⟨r,n,rfl,_⟩:=h;rfl
 ·obtain⟨r,n,rfl,hR,hn,q⟩:=h;refine⟨_,(aG (aQ (fP pB rfl T.qM nN (aC (rV (fr:=[0]) (N:=["k","row"]) rfl (fun _ _ h=>h) (gG.free rfl rfl rfl rfl rfl (fun _ _ h=>h) rfl (by decide) rfl (fun j hj=>by rw[show j=0 by simpa using hj];exact⟨_,rfl,rfl,.inl rfl⟩)) (pT rfl T.vC (aC (pv 1) aA)) (fun C s H ex pn=>⟨rZ,(aL (aC aE (aC aE (aC (aL (aC aE (aC (aK (bM T) (hr.mono (by omega)) rfl T.cD T.b9.kp T.cC .nil pass0 (aC (pv 1) (aC aF aA))) aA))) aA))))⟩)) aA)))),?_⟩
  and_intros
  obtain⟨m,rfl⟩:∃ m:Nat,n=(m:Int):=⟨n.toNat,by omega⟩;wp_walk;refine⟨⟨Int.le_trans (by decide) (Int.natCast_nonneg m),Int.lt_of_le_of_lt hn.2 (by decide)⟩,?_⟩;rw[Int.toNat_natCast];refine Fz (lo:=0) (fun j xs G=>∃ b:List Stm,aW G xs b/\cV b/\fJ b=0/\cX b=j/\b.length=j/\j<=m/\bN G r/\Kp [r] H G) ⟨[],.nil,trivial,rfl,rfl,rfl,by omega,hR,Kp.refl⟩ ?_ ?_ ?_
  ·rintro j xs G ⟨b,hb,_,_,_,hl,hj,_⟩;have:=hb.len;omega
  ·rintro j xs G hj ⟨b,hb,wb,db,sb,lb,_,R,K⟩;wp_walk using bE,Option.join_some;refine⟨R,fun g G1 a1 b1 R1 K1 p1 h1 p2 h2=>?_⟩;have T1:aH G G1:=aH.row K1 R;have N1:=q0D (o:=.tup [.str "number",.int g]) h1;have N2:=q0D (o:=.tup [.str "set",.str "x",.ref p1]) h2;have N:=N1.trans N2;refine⟨b++[.set "x" (.num g)],((hb.kp T1).kp (aH.nil N)).Qp (.set aB (.num (N2.at aB))),x9 wb (show(Stm.set "x" (.num g)).wfT from ⟨AN.1,⟨⟨by omega,by omega⟩,fun x hx=>by cases hx⟩,show 1<=6 by decide⟩),?_,?_,?_,by omega,R1.kp N,(K.trans K1).trans (N.mono (by simp))⟩
   ·rw[rN,db];rfl
   ·rw[r9,sb];rfl
   ·rw[List.length_append,lb];rfl
  rintro xs G ⟨b,hb,wb,db,sb,lb,_,R,K⟩ l hl;have ln:=hb.len;have N1:=q0D (o:=.lst xs) hl;wp_walk;refine fun p hp=>?_;have N:=N1.trans (q0D (o:=.tup xs) hp);exact q p xs b _ aB (hb.kp (aH.nil N)) wb db (by rw[sb]) (by omega) (R.kp N) (K.trans (N.mono (by simp)))
theorem BO{t:Ad}(T:Tx K mg t):bL P w K mg base Tc 10 t.sI t.sV ["row"] uU:=by
 refine T.Au.ok iJ (fun vs H Q E h=>?_) (fun S0 A outer s H vs Q E hr h=>?_)
 ·obtain⟨r,rfl,_⟩:=h;rfl
 ·obtain⟨r,rfl,hR,q⟩:=h;refine⟨_,(aD (aR (i:=1) iJ.nd rfl (Or.inl rfl) (aZ aU aF (aK (bM T) (hr.mono (by omega)) rfl T.cD T.b9.kp T.cC .nil pass0 (aC (pv 0) (aC aF aA)))))
   (aD (aR (i:=2) iJ.nd rfl (Or.inl rfl) (aK (bM T) (hr.mono (by omega)) rfl T.cD T.b9.kp T.cC .nil pass0 (aC (pv 0) (aC aF aA))))
   (aD (bG (aS eL (pv 2) aF (nomark _)) (aG (aQ (aL (aC (aK (gJ T) (hr.mono (by omega)) rfl T.jG T.iC.kp T.jC .nil pass0 (aC (pv 0) (aC (pv 1) aA))) (aC (gK iD (pv 1) aF (nomark _)) aA))))) aV)
   (aD (aR (i:=3) iJ.nd rfl (Or.inl rfl) (aZ aU aF (aK (bM T) (hr.mono (by omega)) rfl T.cD T.b9.kp T.cC .nil pass0 (aC (pv 0) (aC (aZ uG (pv 1) aF) aA)))))
   (aD (aR (i:=4) iJ.nd rfl (Or.inl rfl) (aK (gJ T) (hr.mono (by omega)) rfl T.jG T.iC.kp T.jC .nil pass0 (aC (pv 0) (aC (aZ uG (aZ uG (pv 1) aF) (pv 3)) aA))))
   (aD (bG (aS eL (pv 2) aF (nomark _)) (aG (aQ (aL (aC (aZ zH (aK (gJ T) (hr.mono (by omega)) rfl T.jG T.iC.kp T.jC .nil pass0 (aC (pv 0) (aC (pv 3) aA))) (aL (aC (aL (aC aE (aC (aL (aC aE aA)) (aC (pv 4) aA)))) aA))) (aC (gK iD (pv 1) aF (nomark _)) aA))))) aV)
   (aD (bG (aS eL (pv 2) aF (nomark _)) (aG (aQ (aL (aC (aZ zH (aL (aC (aL (aC aE (aC (aL (aC aE aA)) (aC (pv 4) (aC (aL aA) aA))))) aA)) (aK (gJ T) (hr.mono (by omega)) rfl T.jG T.iC.kp T.jC .nil pass0 (aC (pv 0) (aC (pv 3) aA)))) (aC (gK iD (pv 1) aF (nomark _)) aA))))) aV)
   (aG (aQ (aL (aC (aL (aC (aL (aC aE (aC (aL (aC aE aA)) (aC (aK (gJ T) (hr.mono (by omega)) rfl T.jG T.iC.kp T.jC .nil pass0 (aC (pv 0) (aC (pv 3) aA))) (aC (pv 4) aA))))) aA)) (aC (gK iD (pv 1) aF (nomark _)) aA)))))))))))),?_⟩
  and_intros
  refine bB fun UG S6=>?_;wp_walk;refine⟨hR,fun g1 G1 a1 b1 R1 K1=>?_⟩;refine S6 _ _ ?_;clear S6;refine bB fun Wq TK=>?_;wp_walk;refine⟨R1,fun kd G2 a2 b2 R2 K2=>?_⟩;have hm:58<=58+g1/\58+g1<=62:=by omega
  generalize 58+g1=mn at *;replace K2:=K1.trans K2;clear K1 R1 a1 b1;refine TK _ _ ?_;clear TK;refine bB fun Xz Ur=>?_;by_cases c0:kd=0
  ·wp_walk using eq_true c0;refine⟨r,mn,rfl,R2,⟨by omega,by omega⟩,fun p us b G3 e3 U3 w3 d3 s3 l3 R3 K3=>?_⟩;wp_walk;refine fun c hc=>?_;have N:=q0D (o:=.tup [.ref p,.bl (decide (mn<=60))]) hc;exact q c p us b _ _ aB (N.at e3) (U3.kp (aH.nil N)) (lV w3 (by omega) s3 (by omega)) (R3.kp N) ((K2.trans K3).trans (N.mono (by simp)))
  wp_walk using c0;refine Ur _ _ ?_;clear Ur;refine bB fun Yn UR=>?_;wp_walk;refine⟨by omega,by omega,R2,fun g G3 a3 b3 R3 K3=>?_⟩;have hf:1<=1+g/\1+g<=mn - 2:=by omega
  generalize 1+g=fi at *;replace K3:=K2.trans K3;clear K2 R2 a3 b3;refine UR _ _ ?_;clear UR;refine bB fun Yo VG=>?_;wp_walk;refine⟨r,mn - 1 - fi,rfl,R3,⟨by omega,by omega⟩,fun pi ui bi G4 ei Ui wi di si li R4 K4=>?_⟩;replace K4:=K3.trans K4;clear K3 R3;have lu:=Ui.len;refine VG _ _ ?_;clear VG;refine bB fun R_6 VH=>?_;by_cases c1:kd=1
  ·wp_walk using eq_true c1;refine⟨r,fi,rfl,R4,⟨by omega,by omega⟩,fun pf uf bf G5 ef Uf Xw df sf lf R5 K5=>?_⟩;have T5:aH G4 G5:=aH.row K5 R4;replace K5:=K4.trans K5;have lv:=Uf.len;wp_walk;refine fun x1 f1 x2 f2 x3 f3=>?_;have N3:=q0D (o:=.tup [.ref x2]) f3;have N2:=(q0D (o:=.tup [.str "while",.ref x1,.ref pi]) f2).trans N3;have N1:=(q0D (o:=.tup [.str "now"]) f1).trans N2;have W:aW _ [.ref x2] [.S1 .now bi]:=.cons (.S1 (N3.at aB) (.now (N2.at aB)) (N1.at (T5 _ _ ei)) ((Ui.kp T5).kp (aH.nil N1))) .nil;replace ef:=N1.at ef;replace Uf:=Uf.kp (aH.nil N1);replace R5:=R5.kp N1;replace K5:=K5.trans (N1.mono (T:=[r]) (by simp));refine C3 ef aB (by simp;omega) fun p8 G8 h8 K8=>?_;wp_walk;refine fun c hc=>?_;have N:=K8.trans (q0D (o:=.tup [.ref p8,.bl (decide (mn<=60))]) hc);have M:=q0D (o:=.tup [.ref p8,.bl (decide (mn<=60))]) hc;exact q c p8 _ (bf++[.S1 .now bi]) _ _ aB (M.at h8) ((Uf.kp (aH.nil N)).app (W.kp (aH.nil N))) (lV (x9 Xw (show(Stm.S1 .now bi).wfT from ⟨uP (.inr (.inl rfl)),wi⟩)) (by rw[rN];simp only[fJ,Stm.dp];omega) (by rw[r9];simp only[cX,Stm.sz];omega) (by omega)) (R5.kp N) (K5.trans (N.mono (by simp)))
  wp_walk using c1;refine VH _ _ ?_;clear VH;refine bB fun R_7 VI=>?_;by_cases c2:kd=2
  ·wp_walk using eq_true c2;refine fun x1 f1 x0 f0 x2 f2 x3 f3=>?_;have N3:=q0D (o:=.tup [.ref x2]) f3;have N2:=(q0D (o:=.tup [.str "if",.ref x1,.ref pi,.ref x0]) f2).trans N3;have N0:=(q0D (o:=.tup []) f0).trans N2;have N1:=(q0D (o:=.tup [.str "arg"]) f1).trans N0;have W:aW _ [.ref x2] [.iff .arg bi []]:=.cons (.iff (N3.at aB) (.arg (N0.at aB)) (N1.at ei) (Ui.kp (aH.nil N1)) (N2.at aB) .nil) .nil;have e3:=aB (H:=SM (SM (SM G4 x1 (.tup [.str "arg"])) x0 (.tup [])) x2 (.tup [.str "if",.ref x1,.ref pi,.ref x0])) (a:=x3) (o:=.tup [.ref x2]);replace R4:=R4.kp N1;replace K4:=K4.trans (N1.mono (T:=[r]) (by simp));generalize SM (SM (SM (SM G4 x1 (.tup [.str "arg"])) x0 (.tup [])) x2 (.tup [.str "if",.ref x1,.ref pi,.ref x0])) x3 (.tup [.ref x2])=G7 at *;refine⟨r,fi,rfl,R4,⟨by omega,by omega⟩,fun pf uf bf G5 ef Uf Xw df sf lf R5 K5=>?_⟩;have T5:aH G7 G5:=aH.row K5 R4;replace K5:=K4.trans K5;have lv:=Uf.len;wp_walk;refine C3 (T5 _ _ e3) ef (by simp;omega) fun p8 G8 h8 K8=>?_;wp_walk;refine fun c hc=>?_;have M:=q0D (o:=.tup [.ref p8,.bl (decide (mn<=60))]) hc;have N:=K8.trans M;exact q c p8 _ ([.iff .arg bi []]++bf) _ _ aB (M.at h8) (((W.kp T5).kp (aH.nil N)).app (Uf.kp (aH.nil N))) (lV (Bg.mpr ⟨⟨show(Stm.iff .arg bi []).wfT from ⟨uP (.inl rfl),wi,trivial⟩,trivial⟩,Xw⟩) (by rw[rN];simp only[fJ,Stm.dp];omega) (by rw[r9];simp only[cX,Stm.sz];omega) (by omega)) (R5.kp N) (K5.trans (N.mono (by simp)))
  wp_walk using c2;refine VI _ _ ?_;clear VI;wp_walk;refine fun x1 f1=>?_;have N1:=q0D (o:=.tup [.str "arg"]) f1;have e1:SM G4 x1 (.tup [.str "arg"]) x1=some (.tup [.str "arg"]):=aB;replace ei:=N1.at ei;replace Ui:=Ui.kp (aH.nil N1);replace R4:=R4.kp N1;replace K4:=K4.trans (N1.mono (T:=[r]) (by simp));generalize SM G4 x1 (.tup [.str "arg"])=G7 at *;refine⟨r,fi,rfl,R4,⟨by omega,by omega⟩,fun pf uf bf G5 ef Uf Xw df sf lf R5 K5=>?_⟩;have T5:aH G7 G5:=aH.row K5 R4;replace K5:=K4.trans K5;wp_walk;refine fun x2 f2 x3 f3 c hc=>?_;have M:=q0D (o:=.tup [.ref x3,.bl (decide (mn<=60))]) hc;have N3:=(q0D (o:=.tup [.ref x2]) f3).trans M;have N2:=(q0D (o:=.tup [.str "if",.ref x1,.ref pf,.ref pi]) f2).trans N3;exact q c x3 _ [.iff .arg bf bi] _ _ aB (M.at aB) (.cons (.iff (N3.at aB) (.arg (N2.at (T5 _ _ e1))) (N2.at ef) (Uf.kp (aH.nil N2)) (N2.at (T5 _ _ ei)) ((Ui.kp T5).kp (aH.nil N2))) .nil) (lV (b:=[.iff .arg bf bi]) ⟨show(Stm.iff .arg bf bi).wfT from ⟨uP (.inl rfl),Xw,wi⟩,trivial⟩ (by simp only[fJ,Stm.dp];omega) (by simp only[cX,Stm.sz];omega) (by omega)) (R5.kp N2) (K5.trans (N2.mono (by simp)))
theorem BP{t:Ad}(T:Tx K mg t):bL P w K mg base Tc 10 t.sJ t.sW ["row"] uU:=by
 refine T.Av.ok eB (fun vs H Q E h=>?_) (fun S0 A outer s H vs Q E hr h=>?_)
 ·obtain⟨r,rfl,_⟩:=h;rfl
 ·obtain⟨r,rfl,hR,q⟩:=h;refine⟨_,(aD (aR (i:=1) eB.nd rfl (Or.inl rfl) (aZ aU aF (aK (bM T) (hr.mono (by omega)) rfl T.cD T.b9.kp T.cC .nil pass0 (aC (pv 0) (aC aF aA)))))
   (aD (aR (i:=2) eB.nd rfl (Or.inl rfl) (aK (gJ T) (hr.mono (by omega)) rfl T.jG T.iC.kp T.jC .nil pass0 (aC (pv 0) (aC (aK (bM T) (hr.mono (by omega)) rfl T.cD T.b9.kp T.cC .nil pass0 (aC (pv 0) (aC aF aA))) aA))))
   (aD (pU PassesOwn.never rfl (pT rfl T.vC (aC (pv 1) aA)) (hV (i:=3) eB.nd rfl (Or.inl rfl)) (aD (aR (i:=4) eB.nd rfl (Or.inl rfl) (aK (bM T) (hr.mono (by omega)) rfl T.cD T.b9.kp T.cC .nil pass0 (aC (pv 0) (aC aF aA))))
   (aG (bG (aS eL (pv 4) aF (nomark _)) (aG (aR (i:=2) eB.nd rfl (Or.inl rfl) (aL (aC (aL (aC aE (aC (aL (aC aE aA)) (aC (pv 2) aA)))) aA)))) (aG (bG (PW.pt (xR (aS eL (pv 4) aF (nomark _)) (pV (aS (Ge 20 (PR hr (by decide))) (pv 2) (aL aA) (nomark _))))) (aG (aR (i:=2) eB.nd rfl (Or.inl rfl) (aL (aC (aL (aC aE (aC (aL (aC aE aA)) (aC (pv 2) (aC (aL aA) aA))))) aA)))) (aG (aR (i:=2) eB.nd rfl (Or.inl rfl) (aL (aC (aL (aC aE (aC (aL (aC aE aA)) (aC (aL aA) (aC (pv 2) aA))))) aA))))))))))
   (aG (aQ (aL (aC (pv 2) (aC (gK iD (pv 1) aF (nomark _)) aA)))))))),?_⟩
  and_intros
  refine bB fun UG S6=>?_;wp_walk;refine⟨hR,fun g1 G1 a1 b1 R1 K1=>?_⟩;refine S6 _ _ ?_;clear S6;refine bB fun Wq TK=>?_;wp_walk;refine⟨R1,fun g2 G2 a2 b2 R2 K2=>⟨r,g2,rfl,R2,⟨by omega,by omega⟩,fun p0 u0 bl0 G3 e3 U3 w3 d3 s3 l3 R3 K3=>?_⟩⟩;obtain⟨dp,hdp,hd⟩:∃ dp:Nat,3+g1=(dp:Int)/\dp<=7:=⟨(3+g1).toNat,by omega,by omega⟩;rw[hdp];replace K3:=(K1.trans K2).trans K3;have s1:cX bl0<=1:=by omega
  clear K1 K2 R1 R2 a1 b1;refine TK _ _ ?_;clear TK;refine bB fun Xz Ur=>?_;wp_walk;refine⟨⟨Int.le_trans (by decide) (Int.natCast_nonneg dp),Int.lt_of_le_of_lt (Int.ofNat_le.mpr hd) (by decide)⟩,?_⟩;rw[Int.toNat_natCast];obtain⟨Pv,Tp⟩:∃ Pv:Nat->St->Hp->Prop,∀ j σ G,Pv j σ G = ∃(v3 v4:Option V) (p:Addr) (us:List V) (b:List Stm),σ=[some (.ref r),some (.int (dp:Int)),some (.ref p),v3,v4]/\G p=some (.tup us)/\aW G us b/\cV b/\fJ b=j/\cX b<=1+j/\bN G r/\Kp [r] H G:=⟨_,fun _ _ _=>rfl⟩;refine wX (lo:=0) (n:=dp) Pv ?_ ?_ ?_
  ·rw[Tp];exact⟨_,_,p0,u0,bl0,rfl,e3,U3,w3,d3,by omega,R3,K3⟩
  ·intro j σ G hj hG;rw[Tp] at hG;obtain⟨v3,v4,p,us,b,rfl,ep,hU,wb,db,sb,RG,KG⟩:=hG;have bk:∀(v3 v4:Option V) (p:Addr) (us:List V) (m:Stm) (G:Hp),G p=some (.tup us)->aW G us [m]->m.wfT->m.dp=j+1->m.sz<=2+j->bN G r->Kp [r] H G->Pv (j+1) [some (.ref r),some (.int (dp:Int)),some (.ref p),v3,v4] G:=fun v3 v4 p us m G a b c d e f g=>by
    rw[Tp];exact⟨_,_,p,us,[m],rfl,a,b,⟨c,trivial⟩,by simp only[fJ];omega,by simp only[cX];omega,f,g⟩
   clear Tp;refine EG (bB fun UG S6=>?_);wp_walk;refine⟨RG,fun kd G1 a1 b1 R1 K1=>?_⟩;have T1:aH G G1:=aH.row K1 RG;replace ep:=T1 _ _ ep;replace hU:=hU.kp T1;replace KG:=KG.trans K1;clear T1 K1 RG;refine S6 _ _ ?_;clear S6;by_cases c0:kd=0
   ·wp_walk using eq_true c0;refine fun x1 f1 x2 f2 x3 f3=>?_;have N3:=q0D (o:=.tup [.ref x2]) f3;have N2:=(q0D (o:=.tup [.str "while",.ref x1,.ref p]) f2).trans N3;have N1:=(q0D (o:=.tup [.str "arg"]) f1).trans N2;exact bk _ _ x3 _ (.S1 .arg b) _ aB (.cons (.S1 (N3.at aB) (.arg (N2.at aB)) (N1.at ep) (hU.kp (aH.nil N1))) .nil) ⟨uP (.inl rfl),wb⟩ (by simp only[Stm.dp];omega) (by simp only[Stm.sz];omega) (R1.kp N1) (KG.trans (N1.mono (by simp)))
   have one:∀(H5:Hp),H5 p=some (.tup us)->aW H5 us b->bN H5 r->Kp [r] H H5->∀(x1:Addr),H5 x1=none->∀ x0,SM H5 x1 (.tup [.str "arg"]) x0=none->∀ x2,SM (SM H5 x1 (.tup [.str "arg"])) x0 (.tup []) x2=none->∀ x3,SM (SM (SM H5 x1 (.tup [.str "arg"])) x0 (.tup [])) x2 (.tup [.str "if",.ref x1,.ref p,.ref x0]) x3=none->∀ v3 v4,Pv (j+1) [some (.ref r),some (.int (dp:Int)),some (.ref x3),v3,v4] (SM (SM (SM (SM H5 x1 (.tup [.str "arg"])) x0 (.tup [])) x2 (.tup [.str "if",.ref x1,.ref p,.ref x0])) x3 (.tup [.ref x2])):=fun H5 ep hU R5 K5 x1 f1 x0 f0 x2 f2 x3 f3 v3 v4=>by
    have N3:=q0D (o:=.tup [.ref x2]) f3;have N2:=(q0D (o:=.tup [.str "if",.ref x1,.ref p,.ref x0]) f2).trans N3;have N0:=(q0D (o:=.tup []) f0).trans N2;have N1:=(q0D (o:=.tup [.str "arg"]) f1).trans N0;exact bk _ _ x3 _ (.iff .arg b []) _ aB (.cons (.iff (N3.at aB) (.arg (N0.at aB)) (N1.at ep) (hU.kp (aH.nil N1)) (N2.at aB) .nil) .nil) ⟨uP (.inl rfl),wb,trivial⟩ (by simp only[Stm.dp,fJ];omega) (by simp only[Stm.sz,cX];omega) (R5.kp N1) (K5.trans (N1.mono (by simp)))
   by_cases c1:kd=1
   ·wp_walk using c0,eq_true c1;exact fun x1 f1 x0 f0 x2 f2 x3 f3=>one _ ep hU R1 KG x1 f1 x0 f0 x2 f2 x3 f3 _ _
   wp_walk using c0,c1;refine fun x0 f0=>⟨_,Np ((q0D f0).at ep) aB,?_⟩;have N0:=q0D (o:=.tup []) f0;replace ep:=N0.at ep;replace hU:=hU.kp (aH.nil N0);replace R1:=R1.kp N0;replace KG:=KG.trans (N0.mono (T:=[r]) (by simp));generalize SM G1 x0 (.tup [])=G4 at *;cases hz:us.isEmpty with
   | true =>
    wp_walk;exact fun x1 f1 x0 f0 x2 f2 x3 f3=>one _ ep hU R1 KG x1 f1 x0 f0 x2 f2 x3 f3 _ _
   | false =>
    wp_walk;refine fun x1 f1 x5 f5 x2 f2 x3 f3=>?_;have N3:=q0D (o:=.tup [.ref x2]) f3;have N2:=(q0D (o:=.tup [.str "if",.ref x1,.ref x5,.ref p]) f2).trans N3;have N5:=(q0D (o:=.tup []) f5).trans N2;have N1:=(q0D (o:=.tup [.str "arg"]) f1).trans N5;exact bk _ _ x3 _ (.iff .arg [] b) _ aB (.cons (.iff (N3.at aB) (.arg (N5.at aB)) (N2.at aB) .nil (N1.at ep) (hU.kp (aH.nil N1))) .nil) ⟨uP (.inl rfl),trivial,wb⟩ (by simp only[Stm.dp,fJ];omega) (by simp only[Stm.sz,cX];omega) (R1.kp N1) (KG.trans (N1.mono (by simp)))
  intro σ G hG;rw[Tp] at hG;obtain⟨v3,v4,p,us,b,rfl,ep,hU,wb,db,sb,RG,KG⟩:=hG;refine Ur _ _ ?_;clear Ur;wp_walk;refine fun c hc=>?_;have N:=q0D (o:=.tup [.ref p,.bl (decide ((dp:Int)<=5))]) hc;exact q c p us b _ _ aB (N.at ep) (hU.kp (aH.nil N)) (Dx wb (by omega) (by omega) (by omega)) (RG.kp N) (KG.trans (N.mono (by simp)))
theorem BR{t:Ad}(T:Tx K mg t):bL P w K mg base Tc 4 t.sM t.sY ["row","deep"] NI:=by
 refine T.Aw.ok fD (fun vs H Q E h=>?_) (fun S0 A outer s H vs Q E hr h=>?_)
 ·obtain⟨r,n,rfl,_⟩:=h;rfl
 ·obtain⟨r,n,rfl,hR,hn,q⟩:=h;refine⟨_,(aD (aR (i:=2) fD.nd rfl (Or.inl rfl) (bT cY (gC (aC (aL (aC aE (aC aF aA))) (aC (aL (aC aE aA)) (aC (aL (aC aE aA)) (aC (aL (aC aE (aC aE aA))) aA))))) (aK (bM T) (hr.mono (by omega)) rfl T.cD T.b9.kp T.cC .nil pass0 (aC (pv 0) (aC aF aA))) (fun _ _=>rfl)))
   (aD (pU PassesOwn.never rfl (pT rfl T.vC (aC (aZ uG (pv 1) aF) aA)) (hV (i:=3) fD.nd rfl (Or.inl rfl)) (aD (aR (i:=4) fD.nd rfl (Or.inl rfl) (aK (bM T) (hr.mono (by omega)) rfl T.cD T.b9.kp T.cC .nil pass0 (aC (pv 0) (aC aF aA))))
   (aG (bG (aS Gh (pv 4) aF (nomark _)) (aG (aR (i:=2) fD.nd rfl (Or.inl rfl) (aL (aC (bT cY (gC (aC aE (aC aE aA))) (pv 4) (fun _ _=>rfl)) (aC (pv 2) aA))))) (aG (bG (aS eL (pv 4) aF (nomark _)) (aG (aR (i:=2) fD.nd rfl (Or.inl rfl) (aL (aC (bT cY (gC (aC aE (aC aE aA))) (aK (bM T) (hr.mono (by omega)) rfl T.cD T.b9.kp T.cC .nil pass0 (aC (pv 0) (aC aF aA))) (fun _ _=>rfl)) (aC (pv 2) (aC (aL (aC aE aA)) aA)))))) (aG (aR (i:=2) fD.nd rfl (Or.inl rfl) (aL (aC (bT cY (gC (aC aE (aC aE aA))) (aK (bM T) (hr.mono (by omega)) rfl T.cD T.b9.kp T.cC .nil pass0 (aC (pv 0) (aC aF aA))) (fun _ _=>rfl)) (aC (aL (aC aE aA)) (aC (pv 2) aA))))))))))))
   (aG (aQ (pv 2))))),?_⟩
  and_intros
  obtain⟨m,rfl,hm⟩:∃ m:Nat,n=(m:Int)+1/\m<=7:=⟨(n - 1).toNat,by omega,by omega⟩;refine bB fun UG S6=>?_;wp_walk;refine fun x1 f1 x2 f2 x3 f3 x4 f4 l f5=>?_;have N5:=q0D (o:=.lst [.ref x1,.ref x2,.ref x3,.ref x4]) f5;have N4:=(q0D (o:=.tup [.str "name",.str "x"]) f4).trans N5;have N3:=(q0D (o:=.tup [.str "none"]) f3).trans N4;have N2:=(q0D (o:=.tup [.str "arg"]) f2).trans N3;have N1:=(q0D (o:=.tup [.str "number",.int 1]) f1).trans N2;have t1:=N2.at (aB (H:=H) (a:=x1) (o:=.tup [.str "number",.int 1]));have t2:=N3.at (aB (a:=x2) (o:=.tup [.str "arg"]));have t3:=N4.at (aB (a:=x3) (o:=.tup [.str "none"]));have t4:=N5.at (aB (a:=x4) (o:=.tup [.str "name",.str "x"]));have t5:=aB (H:=SM (SM (SM (SM H x1 (.tup [.str "number",.int 1])) x2 (.tup [.str "arg"])) x3 (.tup [.str "none"])) x4 (.tup [.str "name",.str "x"])) (a:=l) (o:=.lst [.ref x1,.ref x2,.ref x3,.ref x4]);have W9:l≠r:=fun z=>by
   have:=(hR.kp (N1:Kp [] H _)).ne t5 (fun a b c z=>by cases z);exact this z
  replace hR:=hR.kp N1;replace N1:Kp [r] H _:=N1.mono (by simp);generalize SM (SM (SM (SM (SM H x1 (.tup [.str "number",.int 1])) x2 (.tup [.str "arg"])) x3 (.tup [.str "none"])) x4 (.tup [.str "name",.str "x"])) l (.lst [.ref x1,.ref x2,.ref x3,.ref x4])=G1 at *;clear N5 N4 N3 N2;refine⟨hR,fun g G2 a2 b2 R2 K2=>?_⟩;have T2:aH G1 G2:=aH.row K2 hR;wp_walk using K2.at1 t5 W9;refine pW a2 b2 fun v hv=>?_;obtain⟨s,hs,Uz,Uh⟩:∃ s:Say,aT G2 v s/\s.shT/\s.depth=1:=by
   simp only[List.mem_cons,List.not_mem_nil,or_false] at hv;rcases hv with rfl|rfl|rfl|rfl
   ·exact⟨.num 1,.num (T2 _ _ t1),say1 _ (.inl rfl)⟩
   ·exact⟨.arg,.arg (T2 _ _ t2),say1 _ (.inr (.inl rfl))⟩
   ·exact⟨.SR,.SR (T2 _ _ t3),say1 _ (.inr (.inr (.inl rfl)))⟩
   ·exact⟨.name "x",.name (T2 _ _ t4),say1 _ (.inr (.inr (.inr rfl)))⟩
  replace N1:=N1.trans K2;clear hv T2 K2 t1 t2 t3 t4 t5 hR;wp_walk;refine S6 _ _ ?_;clear S6;refine bB fun Wq TK=>?_;wp_walk;rw[show(m:Int)+1 - 1=(m:Int) by omega];refine⟨⟨Int.le_trans (by decide) (Int.natCast_nonneg m),Int.lt_of_le_of_lt (Int.ofNat_le.mpr hm) (by decide)⟩,?_⟩;rw[Int.toNat_natCast];obtain⟨Pv,Tp⟩:∃ Pv:Nat->St->Hp->Prop,∀ j σ G,Pv j σ G = ∃(v3 v4:Option V) (v:V) (s:Say),σ=[some (.ref r),some (.int ((m:Int)+1)),some v,v3,v4]/\aT G v s/\s.shT/\s.depth=j+1/\bN G r/\Kp [r] H G:=⟨_,fun _ _ _=>rfl⟩;refine wX (lo:=0) (n:=m) Pv ?_ ?_ ?_
  ·rw[Tp];exact⟨_,_,v,s,rfl,hs,Uz,Uh,R2,N1⟩
  ·intro j σ G hj hG;rw[Tp] at hG;obtain⟨v3,v4,v,s,rfl,hv,sv,dv,RG,KG⟩:=hG;have bk:∀(v3 v4:Option V) (u:V) (t:Say) (G:Hp),aT G u t->t.shT->t.depth=j+2->bN G r->Kp [r] H G->Pv (j+1) [some (.ref r),some (.int ((m:Int)+1)),some u,v3,v4] G:=fun v3 v4 u t G a b c d e=>by
    rw[Tp];exact⟨_,_,u,t,rfl,a,b,c,d,e⟩
   clear Tp;refine EG (bB fun UG S6=>?_);wp_walk;refine⟨RG,fun kd G1 a1 b1 R1 K1=>?_⟩;have T1:aH G G1:=aH.row K1 RG;replace hv:=hv.kp T1;replace KG:=KG.trans K1;clear T1 K1 RG;refine S6 _ _ ?_;clear S6;by_cases c0:kd < 2
   ·wp_walk using c0;refine fun l1 f1=>?_;have N1:=q0D (o:=.lst [.str "not",.str "answer"]) f1;wp_walk;refine pW a1 (by simp;omega) fun w hw=>?_;wp_walk;refine fun p2 f2=>?_;have N:=N1.trans (q0D (o:=.tup [w,v]) f2);simp only[List.mem_cons,List.not_mem_nil,or_false] at hw;rcases hw with rfl|rfl
    ·exact bk _ _ _ (.neg s) _ (.neg aB (hv.kp (aH.nil N))) ⟨sv.1,sv.2⟩ (by simp only[Say.depth];omega) (R1.kp N) (KG.trans (N.mono (by simp)))
    ·exact bk _ _ _ (.Ti s) _ (.Ti aB (hv.kp (aH.nil N))) ⟨sv.1,sv.2⟩ (by simp only[Say.depth];omega) (R1.kp N) (KG.trans (N.mono (by simp)))
   by_cases c1:kd=2
   ·wp_walk using c0,eq_true c1;refine fun l1 f1=>⟨R1.new f1,fun g G2 a2 b2 R2 K2=>?_⟩;have N1:=q0D (o:=.lst [.str "+",.str "<"]) f1;have T2:aH _ G2:=aH.row K2 (R1.new f1);wp_walk using K2.made R1 f1;refine pW a2 b2 fun w hw=>?_;wp_walk;refine fun p1 g1 p2 g2=>?_;have M:=q0D (o:=.tup [w,v,.ref p1]) g2;have N:=(q0D (o:=.tup [.str "now"]) g1).trans M;have Uu:=((hv.kp (aH.nil N1)).kp T2).kp (aH.nil N);have now:aT _ (.ref p1) .now:=.now (M.at aB);have KK:=((KG.trans (N1.mono (T:=[r]) (by simp))).trans K2).trans (N.mono (T:=[r]) (by simp));have st:(Say.now).shT:=(uP (.inr (.inl rfl))).1;simp only[List.mem_cons,List.not_mem_nil,or_false] at hw;rcases hw with rfl|rfl
    ·exact bk _ _ _ (.two .add s .now) _ (.two aB Uu now) (sC sv st) (by simp only[Say.depth];omega) (R2.kp N) KK
    ·exact bk _ _ _ (.two .lt s .now) _ (.two aB Uu now) (sC sv st) (by simp only[Say.depth];omega) (R2.kp N) KK
   wp_walk using c0,c1;refine fun l1 f1=>⟨R1.new f1,fun g G2 a2 b2 R2 K2=>?_⟩;have N1:=q0D (o:=.lst [.str "*",.str "="]) f1;have T2:aH _ G2:=aH.row K2 (R1.new f1);wp_walk using K2.made R1 f1;refine pW a2 b2 fun w hw=>?_;wp_walk;refine fun p1 g1 p2 g2=>?_;have M:=q0D (o:=.tup [w,.ref p1,v]) g2;have N:=(q0D (o:=.tup [.str "none"]) g1).trans M;have Uu:=((hv.kp (aH.nil N1)).kp T2).kp (aH.nil N);have SR:aT _ (.ref p1) .SR:=.SR (M.at aB);have KK:=((KG.trans (N1.mono (T:=[r]) (by simp))).trans K2).trans (N.mono (T:=[r]) (by simp));have st:(Say.SR).shT:=(uP (.inr (.inr rfl))).1;simp only[List.mem_cons,List.not_mem_nil,or_false] at hw;rcases hw with rfl|rfl
   ·exact bk _ _ _ (.two .mul .SR s) _ (.two aB SR Uu) (sC st sv) (by simp only[Say.depth];omega) (R2.kp N) KK
   ·exact bk _ _ _ (.two .eq .SR s) _ (.two aB SR Uu) (sC st sv) (by simp only[Say.depth];omega) (R2.kp N) KK
  intro σ G hG;rw[Tp] at hG;obtain⟨v3,v4,v,s,rfl,hv,sv,dv,RG,KG⟩:=hG;refine TK _ _ ?_;clear TK;wp_walk;exact q v s G hv sv (by omega) RG KG
theorem BN{t:Ad}(T:Tx K mg t):bL P w K mg base Tc 8 t.sH t.sU ["row"] uU:=by
 refine T.As.ok iI (fun vs H Q E h=>?_) (fun S0 A outer s H vs Q E hr h=>?_)
 ·obtain⟨r,rfl,_⟩:=h;rfl
 ·obtain⟨r,rfl,hR,q⟩:=h;refine⟨_,(aD (aR (i:=1) iI.nd rfl (Or.inl rfl) (aZ aU aF (aK (bM T) (hr.mono (by omega)) rfl T.cD T.b9.kp T.cC .nil pass0 (aC (pv 0) (aC aF aA)))))
   (aD (aR (i:=2) iI.nd rfl (Or.inl rfl) (aK (BR T) (hr.mono (by omega)) rfl T.FP T.Aw.kp T.Ek .nil pass0 (aC (pv 0) (aC (pv 1) aA))))
   (aD (aR (i:=3) iI.nd rfl (Or.inl rfl) (gC (aC (aL (aC aE (aC aE (aC (pv 2) aA)))) (aC (aL (aC aE (aC aE (aC (aL (aC (aL (aC aE aA)) (aC (pv 2) aA))) aA)))) (aC (aL (aC aE (aC (pv 2) (aC aE (aC (aL (aC aE aA)) aA))))) aA)))))
   (aD (aR (i:=3) iI.nd rfl (Or.inl rfl) (aZ aU (pv 3) (gC (aC (aL (aC aE (aC (aL (aC aE aA)) (aC aE (aC (pv 2) aA))))) (aC (aL (aC aE (aC (pv 2) (aC (aL aA) (aC (aL aA) aA))))) (aC (aL (aC aE (aC aE (aC aE (aC (pv 2) aA))))) aA))))))
   (aG (aQ (aL (aC (aL (aC (bT cY (pv 3) (aK (bM T) (hr.mono (by omega)) rfl T.cD T.b9.kp T.cC .nil pass0 (aC (pv 0) (aC aF aA))) (fun _ _=>rfl)) aA)) (aC (gK iD (pv 1) aF (nomark _)) aA))))))))),?_⟩
  and_intros
  refine bB fun UG S6=>?_;wp_walk;refine⟨hR,fun g1 G1 a1 b1 R1 K1=>?_⟩;have hd:4<=4+g1/\4+g1<=8:=by omega
  generalize 4+g1=dp at *;refine S6 _ _ ?_;clear S6;refine bB fun Wq TK=>?_;wp_walk;refine⟨r,dp,rfl,R1,⟨by omega,by omega⟩,fun v s G2 hv sv dv R2 K2=>?_⟩;have h8:s.depth<=8:=by omega
  replace K2:=K1.trans K2;clear K1 R1 a1 b1;refine TK _ _ ?_;clear TK;refine bB fun Xz Ur=>?_;wp_walk;refine fun x1 f1 x2 f2 x3 f3 x4 f4 x5 f5 x6 f6 x7 f7=>?_;have N7:=q0D (o:=.lst [.ref x1,.ref x4,.ref x6]) f7;have N6:=(q0D (o:=.tup [.str "send",v,.str "key",.ref x5]) f6).trans N7;have N5:=(q0D (o:=.tup [.str "none"]) f5).trans N6;have N4:=(q0D (o:=.tup [.str "wait",.str "x",.ref x3]) f4).trans N5;have N3:=(q0D (o:=.tup [.ref x2,v]) f3).trans N4;have N2:=(q0D (o:=.tup [.str "arg"]) f2).trans N3;have N1:=(q0D (o:=.tup [.str "set",.str "x",v]) f1).trans N2;have t1:=N2.at (aB (H:=G2) (a:=x1) (o:=.tup [.str "set",.str "x",v]));have t2:=N3.at (aB (H:=SM G2 x1 (.tup [.str "set",.str "x",v])) (a:=x2) (o:=.tup [.str "arg"]));have t3:=N4.at (aB (H:=SM (SM G2 x1 (.tup [.str "set",.str "x",v])) x2 (.tup [.str "arg"])) (a:=x3) (o:=.tup [.ref x2,v]));have t4:=N5.at (aB (H:=SM (SM (SM G2 x1 (.tup [.str "set",.str "x",v])) x2 (.tup [.str "arg"])) x3 (.tup [.ref x2,v])) (a:=x4) (o:=.tup [.str "wait",.str "x",.ref x3]));have t5:=N6.at (aB (H:=SM (SM (SM (SM G2 x1 (.tup [.str "set",.str "x",v])) x2 (.tup [.str "arg"])) x3 (.tup [.ref x2,v])) x4 (.tup [.str "wait",.str "x",.ref x3])) (a:=x5) (o:=.tup [.str "none"]));have t6:=N7.at (aB (H:=SM (SM (SM (SM (SM G2 x1 (.tup [.str "set",.str "x",v])) x2 (.tup [.str "arg"])) x3 (.tup [.ref x2,v])) x4 (.tup [.str "wait",.str "x",.ref x3])) x5 (.tup [.str "none"])) (a:=x6) (o:=.tup [.str "send",v,.str "key",.ref x5]));have t7:=aB (H:=SM (SM (SM (SM (SM (SM G2 x1 (.tup [.str "set",.str "x",v])) x2 (.tup [.str "arg"])) x3 (.tup [.ref x2,v])) x4 (.tup [.str "wait",.str "x",.ref x3])) x5 (.tup [.str "none"])) x6 (.tup [.str "send",v,.str "key",.ref x5])) (a:=x7) (o:=.lst [.ref x1,.ref x4,.ref x6]);generalize SM (SM (SM (SM (SM (SM (SM G2 x1 (.tup [.str "set",.str "x",v])) x2 (.tup [.str "arg"])) x3 (.tup [.ref x2,v])) x4 (.tup [.str "wait",.str "x",.ref x3])) x5 (.tup [.str "none"])) x6 (.tup [.str "send",v,.str "key",.ref x5])) x7 (.lst [.ref x1,.ref x4,.ref x6])=G3 at *;clear N2 N3 N4 N5 N6 N7;replace hv:=hv.kp (aH.nil N1);replace R2:=R2.kp N1;replace K2:=K2.trans (N1.mono (T:=[r]) (by simp));have s1:nJ G3 s (.ref x1):=⟨_,by simp[kA],.set t1 hv⟩;have s2:nJ G3 s (.ref x4):=⟨.wait "x" [.arg,s],by simp[kA],.wait t4 t3 (.cons (.arg t2) (.cons hv .nil))⟩;have s3:nJ G3 s (.ref x6):=⟨.send s "key" .SR,by simp[kA],.send t6 hv (.SR t5)⟩;clear t1 t2 t3 t4 t5 t6 N1;refine Ur _ _ ?_;clear Ur;refine bB fun Yn UR=>?_;wp_walk;refine fun y1 fb1 y2 fb2 y3 fb3 y4 fb4 y5 fb5 y6 fb6 y7 fb7=>?_;have Yi:=q0D (o:=.lst [.ref y2,.ref y5,.ref y6]) fb7;have Yh:=(q0D (o:=.tup [.str "child",.str "x",.str "y",v]) fb6).trans Yi;have Yg:=(q0D (o:=.tup [.str "if",v,.ref y3,.ref y4]) fb5).trans Yh;have Yf:=(q0D (o:=.tup []) fb4).trans Yg;have Ye:=(q0D (o:=.tup []) fb3).trans Yf;have Yd:=(q0D (o:=.tup [.str "send",.ref y1,.str "key",v]) fb2).trans Ye;have Wp:=(q0D (o:=.tup [.str "none"]) fb1).trans Yd;have tb1:=Yd.at (aB (H:=G3) (a:=y1) (o:=.tup [.str "none"]));have tb2:=Ye.at (aB (H:=SM G3 y1 (.tup [.str "none"])) (a:=y2) (o:=.tup [.str "send",.ref y1,.str "key",v]));have tb3:=Yf.at (aB (H:=SM (SM G3 y1 (.tup [.str "none"])) y2 (.tup [.str "send",.ref y1,.str "key",v])) (a:=y3) (o:=.tup []));have tb4:=Yg.at (aB (H:=SM (SM (SM G3 y1 (.tup [.str "none"])) y2 (.tup [.str "send",.ref y1,.str "key",v])) y3 (.tup [])) (a:=y4) (o:=.tup []));have tb5:=Yh.at (aB (H:=SM (SM (SM (SM G3 y1 (.tup [.str "none"])) y2 (.tup [.str "send",.ref y1,.str "key",v])) y3 (.tup [])) y4 (.tup [])) (a:=y5) (o:=.tup [.str "if",v,.ref y3,.ref y4]));have tb6:=Yi.at (aB (H:=SM (SM (SM (SM (SM G3 y1 (.tup [.str "none"])) y2 (.tup [.str "send",.ref y1,.str "key",v])) y3 (.tup [])) y4 (.tup [])) y5 (.tup [.str "if",v,.ref y3,.ref y4])) (a:=y6) (o:=.tup [.str "child",.str "x",.str "y",v]));have tb7:=aB (H:=SM (SM (SM (SM (SM (SM G3 y1 (.tup [.str "none"])) y2 (.tup [.str "send",.ref y1,.str "key",v])) y3 (.tup [])) y4 (.tup [])) y5 (.tup [.str "if",v,.ref y3,.ref y4])) y6 (.tup [.str "child",.str "x",.str "y",v])) (a:=y7) (o:=.lst [.ref y2,.ref y5,.ref y6]);generalize SM (SM (SM (SM (SM (SM (SM G3 y1 (.tup [.str "none"])) y2 (.tup [.str "send",.ref y1,.str "key",v])) y3 (.tup [])) y4 (.tup [])) y5 (.tup [.str "if",v,.ref y3,.ref y4])) y6 (.tup [.str "child",.str "x",.str "y",v])) y7 (.lst [.ref y2,.ref y5,.ref y6])=G4 at *;clear Yd Ye Yf Yg Yh Yi;replace hv:=hv.kp (aH.nil Wp);replace R2:=R2.kp Wp;replace K2:=K2.trans (Wp.mono (T:=[r]) (by simp));replace t7:=Wp.at t7;have up:∀ {u:V},nJ G3 s u->nJ G4 s u:=fun⟨m,hm,h⟩=>⟨m,hm,h.kp (aH.nil Wp)⟩;have s4:nJ G4 s (.ref y2):=⟨.send .SR "key" s,by simp[kA],.send tb2 (.SR tb1) hv⟩;have s5:nJ G4 s (.ref y5):=⟨.iff s [] [],by simp[kA],.iff tb5 hv tb3 .nil tb4 .nil⟩;have s6:nJ G4 s (.ref y6):=⟨.child "x" "y" s,by simp[kA],.child tb6 hv⟩;replace s1:=up s1;replace s2:=up s2;replace s3:=up s3;clear up tb1 tb2 tb3 tb4 tb5 tb6 Wp;wp_walk using t7,tb7;refine fun l3 hl3=>?_;have M:=q0D (o:=.lst [.ref x1,.ref x4,.ref x6,.ref y2,.ref y5,.ref y6]) hl3;have e3:SM G4 l3 (.lst [.ref x1,.ref x4,.ref x6,.ref y2,.ref y5,.ref y6]) l3=some (.lst [.ref x1,.ref x4,.ref x6,.ref y2,.ref y5,.ref y6]):=aB;have all:∀ u∈[V.ref x1,.ref x4,.ref x6,.ref y2,.ref y5,.ref y6],nJ G4 s u:=fun u hu=>by
   simp only[List.mem_cons,List.not_mem_nil,or_false] at hu;rcases hu with rfl|rfl|rfl|rfl|rfl|rfl<;>assumption
  replace R2:=R2.kp M;replace K2:=K2.trans (M.mono (T:=[r]) (by simp));generalize SM G4 l3 (.lst [.ref x1,.ref x4,.ref x6,.ref y2,.ref y5,.ref y6])=G5 at *;have nl:l3≠r:=R2.ne e3 (fun a b c z=>by cases z);refine UR _ _ ?_;clear UR;wp_walk;refine⟨R2,fun g G6 a6 b6 R6 K6=>?_⟩;have T6:aH G5 G6:=aH.row K6 R2;wp_walk using K6.at1 e3 nl;refine pW a6 b6 fun u hu=>?_;obtain⟨m,hm,hM⟩:=all u hu;obtain⟨z1,z2,z3,z4⟩:=Nv sv h8 hm;wp_walk;refine fun p1 f1 c hc=>?_;have N2:=q0D (o:=.tup [.ref p1,.bl (decide (dp<=6))]) hc;have N:=(q0D (o:=.tup [u]) f1).trans N2;exact q c p1 _ [m] _ _ aB (N2.at aB) (.cons (((hM.kp (aH.nil M)).kp T6).kp (aH.nil N)) .nil) (Fk sv h8 dv hm z1 z2 z3 z4) (R6.kp N) ((K2.trans K6).trans (N.mono (by simp)))
theorem zD{t:Ad}(T:Tx K mg t):bL P w K mg base Tc 4 t.mO t.mV ["row"] uU:=by
 refine T.tL.ok oN (fun vs H Q E h=>?_) (fun S0 A outer s H vs Q E hr h=>?_)
 ·obtain⟨r,rfl,_⟩:=h;rfl
 ·obtain⟨r,rfl,hR,q⟩:=h;refine⟨_,(aD (aR (i:=1) oN.nd rfl (Or.inl rfl) (aK (bM T) (hr.mono (by omega)) rfl T.cD T.b9.kp T.cC .nil pass0 (aC (pv 0) (aC aF aA))))
   (aG (aQ (aL (aC (aL (aC (aL (aC aE (aC aE (aC (aZ Gi (aL (aC (aL (aC aE aA)) aA)) (pv 1)) aA)))) aA)) (aC (oG iD iD aF (pv 1) aF) aA)))))),?_⟩
  and_intros
  wp_walk;refine⟨hR,fun g G1 a1 b1 R1 K1=>?_⟩;obtain⟨k,rfl⟩:∃ k:Nat,g=(k:Int):=⟨g.toNat,by omega⟩;refine fun x1 f1 x2 f2=>⟨.ref x1,rfl,⟨a1,by omega⟩,fun h1=>?_,fun h1 x5 f5=>?_⟩
  ·have M2:=q0D (o:=.tup [.ref x1]) f2;have M1:=(q0D (o:=.tup [.str "arg"]) f1).trans M2;have E1:=M2.at (aB (H:=G1) (a:=x1) (o:=.tup [.str "arg"]));have EP:SM (SM G1 x1 (.tup [.str "arg"])) x2 (.tup [.ref x1]) x2=some (.tup (List.replicate k (.ref x1))):=by rw[show k=1 by omega];exact aB
   replace R1:=R1.kp M1;replace K1:=K1.trans (M1.mono (T:=[r]) (by simp));generalize SM (SM G1 x1 (.tup [.str "arg"])) x2 (.tup [.ref x1])=G3 at *;refine fun x3 f3 x4 f4=>?_;have M4:=q0D (o:=.tup [.ref x3]) f4;have M3:=(q0D (o:=.tup [.str "wait",.str "x",.ref x2]) f3).trans M4;have e1:=M3.at E1;have ep:=M3.at EP;have e3:=M4.at (aB (a:=x3) (o:=.tup [.str "wait",.str "x",.ref x2]));have e4:=aB (H:=SM G3 x3 (.tup [.str "wait",.str "x",.ref x2])) (a:=x4) (o:=.tup [.ref x3]);replace R1:=R1.kp M3;replace K1:=K1.trans (M3.mono (T:=[r]) (by simp));generalize SM (SM G3 x3 (.tup [.str "wait",.str "x",.ref x2])) x4 (.tup [.ref x3])=G5 at *;have fin:∀ b:Bool,b=decide (1<=k/\k<=4)->∀ c,G5 c=none->Q (.ref c) (SM G5 c (.tup [.ref x4,.bl b])):=fun b hb c hc=>by
    have N:=q0D (o:=.tup [.ref x4,.bl b]) hc;exact q c x4 _ [.wait "x" (List.replicate k Say.arg)] b _ aB (N.at e4) (.cons (.wait (N.at e3) (N.at ep) (qH (N.at e1) k)) .nil) (wY (by omega) b hb) (R1.kp N) (K1.trans (N.mono (by simp)))
   split
   ·next h=>exact fin _ (by rw[Bool.eq_iff_iff,decide_eq_true_eq,decide_eq_true_eq];omega)
   ·next h=>exact fin _ (decide_eq_false (by omega)).symm
  ·rw[Int.toNat_natCast] at *;have M5:=q0D (o:=.tup (List.replicate k (.ref x1))) f5;have M2:=(q0D (o:=.tup [.ref x1]) f2).trans M5;have M1:=(q0D (o:=.tup [.str "arg"]) f1).trans M2;have E1:=M2.at (aB (H:=G1) (a:=x1) (o:=.tup [.str "arg"]));have EP:=aB (H:=SM (SM G1 x1 (.tup [.str "arg"])) x2 (.tup [.ref x1])) (a:=x5) (o:=.tup (List.replicate k (.ref x1)));replace R1:=R1.kp M1;replace K1:=K1.trans (M1.mono (T:=[r]) (by simp));generalize SM (SM (SM G1 x1 (.tup [.str "arg"])) x2 (.tup [.ref x1])) x5 (.tup (List.replicate k (.ref x1)))=G3 at *;refine fun x3 f3 x4 f4=>?_;have M4:=q0D (o:=.tup [.ref x3]) f4;have M3:=(q0D (o:=.tup [.str "wait",.str "x",.ref x5]) f3).trans M4;have e1:=M3.at E1;have ep:=M3.at EP;have e3:=M4.at (aB (a:=x3) (o:=.tup [.str "wait",.str "x",.ref x5]));have e4:=aB (H:=SM G3 x3 (.tup [.str "wait",.str "x",.ref x5])) (a:=x4) (o:=.tup [.ref x3]);replace R1:=R1.kp M3;replace K1:=K1.trans (M3.mono (T:=[r]) (by simp));generalize SM (SM G3 x3 (.tup [.str "wait",.str "x",.ref x5])) x4 (.tup [.ref x3])=G5 at *;have fin:∀ b:Bool,b=decide (1<=k/\k<=4)->∀ c,G5 c=none->Q (.ref c) (SM G5 c (.tup [.ref x4,.bl b])):=fun b hb c hc=>by
    have N:=q0D (o:=.tup [.ref x4,.bl b]) hc;exact q c x4 _ [.wait "x" (List.replicate k Say.arg)] b _ aB (N.at e4) (.cons (.wait (N.at e3) (N.at ep) (qH (N.at e1) k)) .nil) (wY (by omega) b hb) (R1.kp N) (K1.trans (N.mono (by simp)))
   split
   ·next h=>exact fin _ (by rw[Bool.eq_iff_iff,decide_eq_true_eq,decide_eq_true_eq];omega)
   ·next h=>exact fin _ (decide_eq_false (by omega)).symm
theorem DN{t:Ad}(T:Tx K mg t):bL P w K mg base Tc 4 t.yB t.yK ["row"] uU:=by
 refine T.CA.ok xU (fun vs H Q E h=>?_) (fun S0 A outer s H vs Q E hr h=>?_)
 ·obtain⟨r,rfl,_⟩:=h;rfl
 ·obtain⟨r,rfl,hR,q⟩:=h;refine⟨_,(aD (aR (i:=1) xU.nd rfl (Or.inl rfl) (aZ uF (bT cY (gC (aC aF (aC (CS Ac aF) aA))) (aK (bM T) (hr.mono (by omega)) rfl T.cD T.b9.kp T.cC .nil pass0 (aC (pv 0) (aC aF aA))) (fun _ _=>rfl)) (aZ aU (aZ uG (aZ BV aF aF) aF) (aK (bM T) (hr.mono (by omega)) rfl T.cD T.b9.kp T.cC .nil pass0 (aC (pv 0) (aC aF aA))))))
   (aG (aQ (aL (aC (aL (aC (aL (aC aE (aC (aL (aC aE (aC (pv 1) aA))) aA))) aA)) (aC (gK iD (cA Dg rfl T.N8 KQ (aC (pv 1) aA)) (aZ BV aF aF) (nomark _)) aA)))))),?_⟩
  and_intros
  refine bB fun UG S6=>?_;wp_walk;refine fun l1 f1=>⟨hR.new f1,fun g G1 a1 b1 R1 K1=>?_⟩;wp_walk using K1.made hR f1;refine pW a1 b1 fun v hv=>?_;obtain⟨sg,rfl,XS⟩:∃ sg:Int,v=.int sg/\(sg=1\/sg = -1):=by
   simp only[List.mem_cons,List.not_mem_nil,or_false] at hv;rcases hv with rfl|rfl
   ·exact⟨_,rfl,.inl rfl⟩
   ·exact⟨_,rfl,.inr rfl⟩
  replace K1:=((q0D f1).mono (T:=[r]) (by simp)).trans K1;clear hv;wp_walk;refine⟨R1,fun g2 G2 a2 b2 R2 K2=>⟨.inl ⟨by rcases XS with rfl|rfl<;>decide,by rcases XS with rfl|rfl<;>decide⟩,?_⟩⟩;have hn:-1000000002<=sg * (999999998+g2)/\sg * (999999998+g2)<=1000000002:=by rcases XS with rfl|rfl<;>omega
  generalize sg * (999999998+g2)=n at *;replace K2:=K1.trans K2;clear K1 R1 XS;refine S6 _ _ ?_;clear S6;wp_walk;refine fun x1 f1 x2 f2 x3 f3 c hc=>?_;have N4:=q0D (o:=.tup [.ref x3,.bl (decide ((if n < 0 then -n else n)<=1000000000))]) hc;have N3:=(q0D (o:=.tup [.ref x2]) f3).trans N4;have N2:=(q0D (o:=.tup [.str "end",.ref x1]) f2).trans N3;have N1:=(q0D (o:=.tup [.str "number",.int n]) f1).trans N2;exact q c x3 _ [.fin (.num n)] _ _ aB (N4.at aB) (.cons (.fin (N3.at aB) (.num (N2.at aB))) .nil) (Fj hn _ (by rw[Bool.eq_iff_iff,decide_eq_true_eq,decide_eq_true_eq];split<;>omega)) (R2.kp N1) (K2.trans (N1.mono (by simp)))
theorem vX{t:Ad}(T:Tx K mg t):bL P w K mg base Tc 1 t.iN t.kN ["self","lines"] (GH t.aN):=by
 refine T.Aq.ok vZ (fun vs H Q E h=>?_) (fun S0 A outer s H vs Q E hr h=>?_)
 ·obtain⟨x,dx,ll,rfl,_⟩:=h;rfl
 ·obtain⟨x,dx,ll,rfl,e,q⟩:=h;refine⟨_,(aD (zP T.bH T.nX (pv 0) (pv 1))
   (aD (zP T.bH T.cZ (pv 0) aF)
   (aG (zP T.bH T.cS (pv 0) aF)))),?_⟩
  and_intros
  wp_walk using e;exact q _ aB (by intro b o e n;simp only[List.mem_cons,List.not_mem_nil,or_false] at n;rw[aY n,aY n,aY n];exact e)
theorem dX{t:Ad}(T:Tx K mg t):bL P w K mg base Tc 1 t.jK t.jO ["self"] (Jz t.aN):=by
 refine T.yP.ok uQ (fun vs H Q E h=>?_) (fun S0 A outer s H vs Q E hr h=>?_)
 ·obtain⟨rd,dx,ll,rows,i,k,rfl,_⟩:=h;rfl
 ·obtain⟨rd,dx,ll,rows,i,k,rfl,R,q⟩:=h;refine⟨_,(aG (aQ (oI (aS Gh (oH T.bH T.cZ (pv 0)) (cA fI rfl T.wC kK (aC (oH T.bH T.nX (pv 0)) aA)) (nomark _)) (bT cY (oH T.bH T.nX (pv 0)) (oH T.bH T.cZ (pv 0)) (fun _ _=>rfl)) zM))),?_⟩
  and_intros
  wp_walk using R.ins,R.lin,List.length_map;unfold ah at q;by_cases h:i < rows.length
  ·rw[List.getElem?_eq_getElem h] at q;rw[if_pos (by omega)];rw[yD (v:=.str rows[i]) (by rw[List.getElem?_map,List.getElem?_eq_getElem h];rfl)];exact q
  ·rw[List.getElem?_eq_none (by omega)] at q;rw[if_neg (by omega)];exact q
theorem dA{t:Ad}(T:Tx K mg t):bL P w K mg base (S9 P w base) 1 t.oX t.pG ["words"] (Kc t.aJ):=by
 refine T.eJ.okE A5 (fun vs H Q E h=>?_) (fun S0 A outer s H vs Q E hr h=>?_)
 ·obtain⟨x,rfl,h1⟩:=iX h;rfl
 ·obtain⟨x,rfl,h1⟩:=iX h;obtain⟨a,rfl,h2⟩:=bC h1;obtain⟨xs,e,q⟩:=fZ h2;refine⟨_,(aD (bG (iF (oM (pv 0) (fun _=>rfl))) (aG (cU throws1 rfl rfl T.bO T.bI.toXCls (aC aE aA))) aV)
   (aG (aQ (Qb PySem.F.slot_list_pop PySem.F.type_list_pop I8 (pv 0) (aC aF aA))))),?_⟩
  and_intros
  cases xs with
  | nil =>
   wp_walk using e,List.isEmpty_nil;exact q
  | cons y ys =>
   wp_walk using e,List.isEmpty_cons,List.tail_cons;exact q
theorem pN{t:Ad}(T:Tx K mg t):bL P w K mg base Tc 1 t.iA t.iB ["sign"] Ka:=by
 refine T.kS.ok qI (fun vs H Q E h=>?_) (fun S0 A outer s H vs Q E hr h=>?_)
 ·obtain⟨c,rfl,_⟩:=h;rfl
 ·obtain⟨c,rfl,q⟩:=h;refine⟨_,(aG (aQ (oG zG zG aE (pv 0) aE))),?_⟩
  and_intros
  wp_walk;have e1:(([c]:List Nat) < ("a":Str).cps.toList)=(c < 97):=by
   show(([c]:List Nat) < [97])=_;have:=y9 c 97;rw[Bool.eq_iff_iff,decide_eq_true_eq,decide_eq_true_eq] at this;exact propext this
  have e2:(!decide (("z":Str).cps.toList < ([c]:List Nat)))=decide (c<=122):=by
   show(!decide (([122]:List Nat) < [c]))=_;rw[y9,Bool.eq_iff_iff];simp
  rw[e2];simp only[e1];split
  ·next h =>
   rw[show decide (97<=c)=false by simp;omega,Bool.false_and] at q;exact q
  ·next h =>
   rw[show decide (97<=c)=true by simp;omega,Bool.true_and] at q;exact q
theorem pM{t:Ad}(T:Tx K mg t):bL P w K mg base Tc 2 t.yA t.yJ ["thing"] A6:=by
 refine T.rO.ok DW (fun vs H Q E h=>?_) (fun S0 A outer s H vs Q E hr h=>?_)
 ·obtain⟨x,rfl,_⟩:=h;rfl
 ·obtain⟨x,rfl,hx,q⟩:=h;refine⟨_,(aD (bG (PW.pt (xR (iF (iG (cA wL rfl T.eF eP (aC (pv 0) (aC (zL (v:=.ty "str") rfl T.Hh Bo rfl) aA))))) (pV (iF (A0 iD iD aF (cA fI rfl T.wC kK (aC (pv 0) aA)) (cP (v:=.int 6) rfl T.yG ⟨_,rfl⟩)))))) (aG (aQ xQ)) aV)
   (aG (aQ (zK (gK xH (pv 0) (cP (v:=.ref t.pJ) rfl T.Df rfl) (by with_unfolding_all rfl)) (zN (cA (wJ rfl) rfl T.JO Em (aC (rV (cl:=[]) (fr:=[]) (N:=["sign"]) rfl (fun _ _ h=>h) (gG.uC rfl rfl rfl rfl) (Gq (pv 0)) (fun C s H ex pn=>⟨rZ,(aK (pN T) (hr.mono (by omega)) rfl T.tZ T.kS.kp T.sO .nil pass0 (aC (pv 0) aA))⟩)) aA))))))),?_⟩
  and_intros
  have hB:BK x=(decide (1<=x.length)&&(decide (x.length<=6)&&(x.cps.toList.all (fun c=>decide (97<=c)&&decide (c<=122))&&!b7 (.str x) rJ))):=rfl;wp_walk;refine⟨by omega,?_⟩;by_cases c1:(1:Int)<=(x.length:Int)
  case neg =>
   rw[if_neg c1];wp_walk;rw[hB,show decide (1<=x.length)=false by simp;omega,Bool.false_and] at q;exact q _ Kp.refl
  rw[if_pos c1];wp_walk;by_cases c2:(x.length:Int)<=6
  case neg =>
   rw[if_neg c2];rw[hB,show decide (x.length<=6)=false by simp;omega,Bool.false_and,Bool.and_false] at q;exact q _ Kp.refl
  rw[if_pos c2];rw[show decide (1<=x.length)=true by simp;omega,show decide (x.length<=6)=true by simp;omega,Bool.true_and,Bool.true_and] at hB;refine⟨rJ,T.DU H,rfl,own17,?_⟩;by_cases c3:b7 (.str x) rJ=true
  ·rw[c3];wp_walk;rw[hB,c3,Bool.not_true,Bool.and_false] at q;exact q _ Kp.refl
  ·rw[show b7 (.str x) rJ=false from by simpa using c3];wp_walk;refine FA (fun i xs G=>xs=((x.cps.toList.take i).map fun c=>decide (97<=c)&&decide (c<=122)).map V.bl/\Kp [] H G) ⟨rfl,Kp.refl⟩ ?_ ?_ ?_
   ·rintro i xs G ⟨rfl,_⟩;simp only[List.length_map,List.length_take,Array.length_toList];have:x.cps.size=x.length:=rfl;omega
   ·rintro i c xs G hi hc ⟨rfl,k⟩;wp_walk using bE;refine⟨?_,k⟩;have e:x.cps.toList[i]?=some c:=by simpa using hc
    rw[List.take_add_one,e];simp
   ·rintro xs G ⟨rfl,k⟩ l hl;wp_walk;rw[show x.cps.toList.take x.cps.size=x.cps.toList by rw[<- Array.length_toList,List.take_length]];rw[hB,show b7 (.str x) rJ=false from by simpa using c3,Bool.not_false,Bool.and_true] at q;have:=q _ (k.trans (Kp.new (o:=.lst ((x.cps.toList.map fun c=>decide (97<=c)&&decide (c<=122)).map V.bl)) hl));rw[List.all_map];exact this
theorem k8{t:Ad}(T:Tx K mg t):bL P w K mg base (S9 P w base) 3 t.oW t.pF ["words"] (Qv t.aJ):=by
 refine T.lR.okE q8 (fun vs H Q E h=>?_) (fun S0 A outer s H vs Q E hr h=>?_)
 ·obtain⟨wl,ws,rfl,_⟩:=h;rfl
 ·obtain⟨wl,ws,rfl,e,hw,q,qE⟩:=h;refine⟨_,(aD (aR (i:=1) q8.nd rfl (Or.inl rfl) (aK (dA T) (hr.mono (by omega)) rfl T.fM T.eJ.kp T.fH .nil (pass1 fun _ _ _ z=>z) (aC (pv 0) aA)))
   (aD (bG (iF (iG (aK (pM T) (hr.mono (by omega)) rfl T.zA T.rO.kp T.yE .nil pass0 (aC (pv 1) aA)))) (aG (cU throws1 rfl rfl T.bO T.bI.toXCls (aC aE aA))) aV)
   (aG (aQ (pv 1))))),?_⟩
  and_intros
  cases ws with
  | nil =>
   wp_walk using e,List.map_nil;exact qE rfl _ Kp.refl
  | cons w r =>
   wp_walk using e,List.map_cons;refine⟨hw.hd,fun H' K'=>?_⟩;cases hn:BK w with
   | true =>
    wp_walk using hn;exact q w r (by rw[oC,if_pos hn]) _ (K'.at aB) (P4 K')
   | false =>
    wp_walk using hn;exact qE (by rw[oC,if_neg (by rw[hn];decide)]) _ (P4 K')
theorem AQ{t:Ad}(T:Tx K mg t):bL P w K mg base Tc 1 t.oT t.pC ["sign"] J9:=by
 refine T.wR.ok A4 (fun vs H Q E h=>?_) (fun S0 A outer s H vs Q E hr h=>?_)
 ·obtain⟨c,rfl,_⟩:=h;rfl
 ·obtain⟨c,rfl,q⟩:=h;refine⟨_,(aG (aQ (oG zG zG aE (pv 0) aE))),?_⟩
  and_intros
  wp_walk;have e1:(([c]:List Nat) < ("0":Str).cps.toList)=(c < 48):=by
   show(([c]:List Nat) < [48])=_;have:=y9 c 48;rw[Bool.eq_iff_iff,decide_eq_true_eq,decide_eq_true_eq] at this;exact propext this
  have e2:(!decide (("9":Str).cps.toList < ([c]:List Nat)))=decide (c<=57):=by
   show(!decide (([57]:List Nat) < [c]))=_;rw[y9,Bool.eq_iff_iff];simp
  rw[e2];simp only[e1];split
  ·next h =>
   rw[show decide (48<=c)=false by simp;omega,Bool.false_and] at q;exact q
  ·next h =>
   rw[show decide (48<=c)=true by simp;omega,Bool.true_and] at q;exact q
theorem rH{t:Ad}(T:Tx K mg t):bL P w K mg base Tc 2 t.iS t.iU ["word","least","greatest"] CW:=by
 refine T.mF.ok j9 (fun vs H Q E h=>?_) (fun S0 A outer s H vs Q E hr h=>?_)
 ·obtain⟨x,lo,hi,rfl,_⟩:=h;rfl
 ·obtain⟨x,lo,hi,rfl,hx,hb,q⟩:=h;refine⟨_,(aD (aR (i:=3) j9.nd rfl (Or.inl rfl) (oI (iG (AX PySem.F.plainAttrs_str PySem.F.slot_str_startswith PySem.F.type_str_startswith vW (pv 0) (aC aE aA))) (oJ Nw (pv 0) (rX aF) rW) (pv 0)))
   (aD (bG (iF (A0 iD iD aF (cA fI rfl T.wC kK (aC (pv 3) aA)) (cA fI rfl T.wC kK (aC (fP wM rfl T.Hh Bo (aC (cA (Dk rfl) rfl T.N9 KR (aC (CS Ac (pv 1)) (aC (pv 2) aA))) aA)) aA)))) (aG (aQ xQ)) aV)
   (aD (bG (PW.pt (xR (iF (iG (cA (wJ rfl) rfl T.JO Em (aC (rV (cl:=[]) (fr:=[]) (N:=["sign"]) rfl (fun _ _ h=>h) (gG.uC rfl rfl rfl rfl) (Gq (pv 3)) (fun C s H ex pn=>⟨rZ,(aK (AQ T) (hr.mono (by omega)) rfl T.DI T.wR.kp T.C9 .nil pass0 (aC (pv 0) aA))⟩)) aA)))) (pV (PW.pt (zQ (aS eL (bT cY (pv 3) aF (fun _ _=>rfl)) aE (nomark _)) (r8 (aS xF (pv 0) aE (nomark _)))))))) (aG (aQ xQ)) aV)
   (aG (aQ (oG iD iD (pv 1) (fP wK rfl T.Hg Bn (aC (pv 0) aA)) (pv 2))))))),?_⟩
  and_intros
  wp_walk;have fin:∀(b:Bool) (G:Hp),Kp [] H G->b=k6 x lo hi->Q (.bl b) G:=fun b G k e=>by rw[e];exact q G k
  have hW:k6 x lo hi=(decide (1<=(gW x.cps.toList).length)&&decide ((gW x.cps.toList).length<=(Str.ofString (toString (if hi > -lo then hi else -lo))).length)&&(gW x.cps.toList).all (fun c=>decide (48<=c)&&decide (c<=57))&&!(decide ((gW x.cps.toList)[0]?=some 48)&&!decide (x=Str.ofString "0"))&&(match intText? x with|some v=>decide (lo<=v)&&decide (v<=hi)|none=>false)):=rfl;have M0:0<=(if hi > -lo then hi else -lo)/\(if hi > -lo then hi else -lo)<=1000000000000:=by split<;>omega
  have Yc:(if hi > -lo then hi else -lo).natAbs.log2 < 1920:=mlog M0.1 M0.2;have aaB:(Str.ofString (toString (if hi > -lo then hi else -lo))).length<=13:=mlen M0.1 M0.2;have ef0:=IC x;have ns:=Ga (x:=x);have fl:=tJ x.cps.toList;generalize (if hi > -lo then hi else -lo)=M at *;generalize (Str.ofString (toString M)).length=L at *;generalize gW x.cps.toList=F at *;have lS:=DY x (some 1) none;generalize Txt.slice x (some 1) none=z1 at *;apply IK z1 x
  ·exact fun _=>⟨by omega,by omega⟩
  ·exact fun _=>by omega
  intro z hz;have lz:z.length<=x.length:=by rw[hz];split<;>omega
  have ef:z.cps.toList=F:=by rw[hz,<- ef0];first|done|(split<;>rfl)
  have lf:(z).length=F.length:=by rw[<- ef,Array.length_toList];rfl
  by_cases c1:(1:Int)<=((z).length:Int)
  case neg =>
   rw[if_neg c1];exact fin false H Kp.refl (by rw[hW,decide_eq_false (show ¬ 1<=F.length by omega)];rfl)
  rw[if_pos c1];refine⟨Yc,by omega,?_⟩;by_cases c2:((z).length:Int)<=(L:Int)
  case neg =>
   rw[if_neg c2];exact fin false H Kp.refl (by rw[hW,decide_eq_true (show 1<=F.length by omega),decide_eq_false (show ¬ F.length<=L by omega)];rfl)
  rw[if_pos c2];rw[decide_eq_true (show 1<=F.length by omega),decide_eq_true (show F.length<=L by omega),Bool.true_and,Bool.true_and] at hW;refine FA (fun i xs G=>xs=(((z).cps.toList.take i).map fun c=>decide (48<=c)&&decide (c<=57)).map V.bl/\Kp [] H G) ⟨rfl,Kp.refl⟩ ?_ ?_ ?_
  ·rintro i xs G ⟨rfl,_⟩;simp only[List.length_map,List.length_take,Array.length_toList];have:(z).cps.size=(z).length:=rfl;omega
  ·rintro i c xs G hi hc ⟨rfl,k⟩;wp_walk using bE;refine⟨?_,k⟩;have e:(z).cps.toList[i]?=some c:=by simpa using hc
   rw[List.take_add_one,e];simp
  ·rintro xs G ⟨rfl,k⟩ l hl;rw[show(z).cps.toList.take (z).cps.size=F by rw[<- Array.length_toList,List.take_length,ef]];have KN:=k.trans (q0D (o:=.lst ((F.map fun c=>decide (48<=c)&&decide (c<=57)).map V.bl)) hl);have el:SM G l (.lst ((F.map fun c=>decide (48<=c)&&decide (c<=57)).map V.bl)) l=some (.lst ((F.map fun c=>decide (48<=c)&&decide (c<=57)).map V.bl)):=aB;generalize SM G l (.lst ((F.map fun c=>decide (48<=c)&&decide (c<=57)).map V.bl))=G2 at *;wp_walk using el;rw[List.all_map,show((id∘fun c=>decide (48<=c)&&decide (c<=57)):Nat->Bool)=fun c=>decide (48<=c)&&decide (c<=57) from rfl];by_cases c3:F.all (fun c=>decide (48<=c)&&decide (c<=57))=true
   case neg =>
    rw[Bool.not_eq_true] at c3;rw[c3];wp_walk;exact fin false _ KN (by rw[hW,c3];rfl)
   rw[c3];rw[c3,Bool.true_and] at hW;wp_walk;refine⟨by omega,?_⟩;have ad:∀ c∈F,48<=c/\c<=57:=fun c hc=>by have:=List.all_eq_true.mp c3 c hc;simpa using this
   have lxx:x.length=x.cps.toList.length:=by rw[Array.length_toList];rfl
   have lx:x.length<=640:=by omega
   cases F with
   | nil=>simp at lf;omega
   | cons c0 r0 =>
    obtain⟨nv,hnv⟩:=ns ad (by simp) (by omega);rw[ef];wp_walk using hnv;have hz:((⟨#[c0]⟩:Str)=Str.ofString "0")=(c0=48):=propext ⟨fun z=>by have:=congrArg (fun y:Str=>y.cps.toList) z;rw[gY.2.2.2.1] at this;simpa using this,fun z=>by rw[z,gY.2.2.2.1]⟩;rw[hnv] at hW;simp only[List.getElem?_cons_zero,Option.some.injEq] at hW;have last:(!(decide (c0=48)&&!decide (x=Str.ofString "0")))=true->(if lo<=nv then Q (.bl (decide (nv<=hi))) G2 else Q (.bl false) G2):=fun ht=>by
     rw[ht,Bool.true_and] at hW;split
     ·next XJ=>exact fin _ _ KN (by rw[hW,decide_eq_true XJ,Bool.true_and])
     ·next XJ=>exact fin _ _ KN (by rw[hW,decide_eq_false XJ,Bool.false_and])
    simp only[hz];split
    ·next h0 =>
     split
     ·next Zs=>exact⟨lx,last (by simp[Zs])⟩
     ·next Zs=>exact fin false _ KN (by rw[hW];simp[h0,Zs])
    ·next h0=>exact⟨lx,last (by simp[h0])⟩
theorem wA{t:Ad}(T:Tx K mg t){n d:Nat}(hn:6<=n)(IH:bL P w K mg base (S9 P w base) n t.fF t.fK ["words","deep"] (Kb t.aJ d)):bL P w K mg base (S9 P w base) (n+1) t.kI t.kQ ["words","deep"] (Qu t.aJ d):=by
 refine T.qR.okE gL (fun vs H Q E h=>?_) (fun S0 A outer s H vs Q E hr h=>?_)
 ·obtain⟨d,wl,dp,ws,rfl,rfl,_⟩:=h;rfl
 ·obtain⟨d,wl,dp,ws,rfl,rfl,e,hd,hw,q,qE⟩:=h;refine⟨_,(aD (aR (i:=2) gL.nd rfl (Or.inl rfl) (aK IH (hr.mono (by omega)) rfl T.bX T.bR.kp T.bW .nil (pass1 fun _ _ _ z=>z) (aC (pv 0) (aC (pv 1) aA))))
   (aD (aR (i:=3) gL.nd rfl (Or.inl rfl) (aK (dA T) (hr.mono (by omega)) rfl T.fM T.eJ.kp T.fH .nil (pass1 fun _ _ _ z=>z) (aC (pv 0) aA)))
   (aD (aR (i:=4) gL.nd rfl (Or.inl rfl) (aK IH (hr.mono (by omega)) rfl T.bX T.bR.kp T.bW .nil (pass1 fun _ _ _ z=>z) (aC (pv 0) (aC (pv 1) aA))))
   (aD (bG (PW.pt (xR (aS xH (pv 3) (cP (v:=.ref t.By) rfl T.K7 rfl) (by with_unfolding_all rfl)) (pV (aS xF (aK (dA T) (hr.mono (by omega)) rfl T.fM T.eJ.kp T.fH .nil (pass1 fun _ _ _ z=>z) (aC (pv 0) aA)) aE (nomark _))))) (aG (cU throws1 rfl rfl T.bO T.bI.toXCls (aC aE aA))) aV)
   (aG (aQ (aL (aC (pv 3) (aC (pv 2) (aC (pv 4) aA)))))))))),?_⟩
  and_intros
  wp_walk;refine⟨d,rfl,wl,dp,ws,rfl,e,hd,hw,fun a r1 h1 v1 H1 Zq e1 K1=>?_,fun h1 H1 K1=>qE (by unfold iE;rw[h1]) _ K1⟩;have hw1:=hw.say h1;cases r1 with
  | nil =>
   wp_walk using e1,List.map_nil;exact qE (by unfold iE;rw[h1]) _ K1
  | cons g r2 =>
  wp_walk using e1,List.map_cons;have K2:=K1.trans (Kp.mE (a:=wl) (H:=H1) (o:=.lst (r2.map V.str)));have w2:SM H1 wl (.lst (r2.map V.str)) wl=some (.lst (r2.map V.str)):=aB;have s2:=Zq.kp (aH.set (ys:=r2.map V.str) e1);generalize SM H1 wl (.lst (r2.map V.str))=G2 at *;refine⟨d,rfl,wl,dp,r2,rfl,w2,hd,hw1.tl,fun b r3 h3 v3 H3 hv3 e3 K3=>?_,fun h3 H3 K3=>qE (by unfold iE;rw[h1];simp only[];rw[h3]) _ (K2.trans K3)⟩;have s3:=s2.kp (aH.w K3 w2);wp_walk;refine⟨_,T.Ng H3,rfl,flat5,?_⟩;cases hg:b7 (.str g) R9 with
  | false =>
   wp_walk using hg;exact qE (by
    unfold iE;rw[h1];simp only[];rw[h3];cases r3 with
    | nil=>rfl
    | cons c r4=>simp only[];rw[if_neg (fun z=>by rw[hg] at z;cases z.1)]) _ (K2.trans K3)
  | true =>
  cases r3 with
  | nil =>
   wp_walk using hg,e3,List.map_nil;exact qE (by unfold iE;rw[h1];simp only[];rw[h3]) _ (K2.trans K3)
  | cons c r4 =>
  wp_walk using hg,e3,List.map_cons;by_cases hc:c = ")"
  ·rw[if_pos hc];refine fun p4 S4=>?_;have T4:=aH.set (ys:=r4.map V.str) e3;exact q _ _ (by unfold iE;rw[h1];simp only[];rw[h3];simp only[];rw[if_pos ⟨hg,hc⟩]) _ _ (.two (by rw[Ca hg];exact aB) ((s3.kp T4).kp (aH.new S4)) ((hv3.kp T4).kp (aH.new S4))) ((q0D S4).at aB) (((K2.trans K3).trans Kp.mE).trans (Kp.new S4))
  ·rw[if_neg hc];exact qE (by unfold iE;rw[h1];simp only[];rw[h3];simp only[];rw[if_neg fun z=>hc z.2]) _ ((K2.trans K3).trans Kp.mE)
theorem mJ{t:Ad}(T:Tx K mg t){n d:Nat}(hn:6<=n)(IH:bL P w K mg base (S9 P w base) n t.fF t.fK ["words","deep"] (Kb t.aJ d)):bL P w K mg base (S9 P w base) (n+2) t.fF t.fK ["words","deep"] (GJ t.aJ d):=by
 refine T.bR.okE mH (fun vs H Q E h=>?_) (fun S0 A outer s H vs Q E hr h=>?_)
 ·obtain⟨wl,dp,ws,rfl,_⟩:=h;rfl
 ·obtain⟨wl,dp,ws,rfl,e,hd,hw,q,qE⟩:=h;refine⟨_,(aD (bG (aS Gg (pv 1) (cP (v:=.int 6) rfl T.sQ ⟨_,rfl⟩) (nomark _)) (aG (cU throws1 rfl rfl T.bO T.bI.toXCls (aC aE aA))) aV)
   (aD (aR (i:=2) mH.nd rfl (Or.inl rfl) (aK (dA T) (hr.mono (by omega)) rfl T.fM T.eJ.kp T.fH .nil (pass1 fun _ _ _ z=>z) (aC (pv 0) aA)))
   (aD (bG (aS pP (pv 2) (aL (aC aE (aC aE (aC aE aA)))) (by with_unfolding_all rfl)) (aG (aQ (aL (aC (pv 2) aA)))) aV)
   (aD (bG (aS pP (pv 2) (aL (aC aE (aC aE aA))) (by with_unfolding_all rfl)) (aG (aQ (aL (aC (pv 2) (aC (aK IH (hr.mono (by omega)) rfl T.bX T.bR.kp T.bW .nil (pass1 fun _ _ _ z=>z) (aC (pv 0) (aC (aZ aU (pv 1) aF) aA))) aA))))) aV)
   (aD (bG (aS eL (pv 2) aE (nomark _)) (aG (aQ (aK (wA T hn IH) (hr.mono (by omega)) rfl T.AL T.qR.kp T.Ai .nil (pass1 fun _ _ _ z=>z) (aC (pv 0) (aC (aZ aU (pv 1) aF) aA))))) aV)
   (aD (bG (iG (aK (rH T) (hr.mono (by omega)) rfl T.vV T.mF.kp T.vF .nil pass0 (aC (pv 2) (aC (CS Ac (cP (v:=.int 1000000000) rfl T.kL ⟨_,rfl⟩)) (aC (cP (v:=.int 1000000000) rfl T.kL ⟨_,rfl⟩) aA))))) (aG (aQ (aL (aC aE (aC (fP wK rfl T.Hg Bn (aC (pv 2) aA)) aA))))) aV)
   (aD (bG (iG (aK (pM T) (hr.mono (by omega)) rfl T.zA T.rO.kp T.yE .nil pass0 (aC (pv 2) aA))) (aG (aQ (aL (aC aE (aC (pv 2) aA))))) aV)
   (aG (cU throws1 rfl rfl T.bO T.bI.toXCls (aC aE aA)))))))))),?_⟩
  and_intros
  cases d with
  | zero =>
   wp_walk;rw[if_pos (by omega)];exact qE rfl _ Kp.refl
  | succ d =>
  cases ws with
  | nil =>
   wp_walk using e,List.map_nil;rw[if_neg (by omega)];exact qE rfl _ Kp.refl
  | cons w0 r =>
  rw[fA] at q qE;have WZ:=hw.hd;wp_walk using e,List.map_cons;rw[if_neg (by omega)];refine fun p hp=>⟨rfl,flat3,?_⟩;have K1:=(Kp.mE (a:=wl) (H:=H) (o:=.lst (r.map V.str))).trans (Kp.new (S:=[wl]) (o:=.tup [.str "none",.str "arg",.str "now"]) hp);have w1:=(q0D (o:=.tup [.str "none",.str "arg",.str "now"]) hp).at (aB (H:=H) (a:=wl) (o:=.lst (r.map V.str)));generalize SM (SM H wl (.lst (r.map V.str))) p (.tup [.str "none",.str "arg",.str "now"])=G at *;cases h3:b7 (.str w0) l3 with
  | true =>
   rw[if_pos h3] at q;wp_walk using h3;exact fun p2 WU=>q _ _ rfl _ _ (aT.l3 h3 aB) ((q0D WU).at w1) (K1.trans (Kp.new WU))
  | false =>
  rw[if_neg (by rw[h3];decide)] at q qE;wp_walk using h3;refine fun p2 WU=>⟨rfl,flat2,?_⟩;have K2:=K1.trans (Kp.new (S:=[wl]) (o:=.tup [.str "answer",.str "not"]) WU);have w2:=(q0D (o:=.tup [.str "answer",.str "not"]) WU).at w1;generalize SM G p2 (.tup [.str "answer",.str "not"])=G2 at *;cases h2:b7 (.str w0) l2 with
  | true =>
   rw[if_pos h2] at q qE;wp_walk using h2;refine⟨d,rfl,wl,dp+1,r,rfl,w2,by omega,hw.tl,fun s r' hs v H3 hv e3 K3=>?_,fun hs H3 K3=>qE (by rw[hs]) _ (K2.trans K3)⟩;wp_walk;exact fun p4 S4=>q _ _ (by rw[hs]) _ _ (aT.l2 h2 aB (hv.kp (aH.new S4))) ((q0D S4).at e3) ((K2.trans K3).trans (Kp.new S4))
  | false =>
  rw[if_neg (by rw[h2];decide)] at q qE;wp_walk using h2;by_cases XR:w0 = "("
  ·rw[if_pos XR] at q qE;rw[if_pos XR];wp_walk;exact⟨d,wl,dp+1,r,rfl,rfl,w2,by omega,hw.tl,fun s r' hs v H3 hv e3 K3=>q s r' hs v H3 hv e3 (K2.trans K3),fun hs H3 K3=>qE hs _ (K2.trans K3)⟩
  rw[if_neg XR] at q qE;rw[if_neg XR];wp_walk;refine⟨by omega,fun H3 K3=>?_⟩;have K3':=K2.trans (Kp.of (S:=[wl]) K3.same);have w3:=K3.at w2;cases hn:k6 w0 (-1000000000) 1000000000 with
  | true =>
   rw[if_pos hn] at q;obtain⟨i,hi,li⟩:=CN hn;wp_walk using hn,hi;refine⟨by omega,fun p4 S4=>?_⟩;exact q _ _ rfl _ _ (by rw[hi];exact .num aB) ((q0D S4).at w3) (K3'.trans (Kp.new S4))
  | false =>
  rw[if_neg (by rw[hn];decide)] at q qE;wp_walk using hn;refine⟨by omega,fun H4 K4=>?_⟩;have K4':=K3'.trans (Kp.of (S:=[wl]) K4.same);have w4:=K4.at w3;cases hb:BK w0 with
  | true =>
   rw[if_pos hb] at q;wp_walk using hb;exact fun p4 S4=>q _ _ rfl _ _ (.name aB) ((q0D S4).at w4) (K4'.trans (Kp.new S4))
  | false =>
  rw[if_neg (by rw[hb];decide)] at qE;wp_walk using hb;exact qE rfl _ K4'
theorem bU{t:Ad}(T:Tx K mg t):∀ d,bL P w K mg base (S9 P w base) (2 * d+8) t.fF t.fK ["words","deep"] (GJ t.aJ d)
 | 0=>mJ T (Nat.le_refl 6) ⟨fun _ _ _ _ x=>by (obtain⟨_,h,_⟩:=x;exact absurd h (by omega)),fun _ _ _ _ _ _ _ _ _ _ _ _ _ x=>by (obtain⟨_,h,_⟩:=x;exact absurd h (by omega))⟩
 | d+1=>mJ T (by omega) ((bU T d).imp fun _ _ _ _ ⟨d',h,x⟩=>by cases h;exact x)
theorem vY{t:Ad}(T:Tx K mg t):bL P w K mg base (S9 P w base) 22 t.kJ t.kR ["words"] (NH t.aJ):=by
 refine T.qS.okE mI (fun vs H Q E h=>?_) (fun S0 A outer s H vs Q E hr h=>?_)
 ·obtain⟨wl,ws,rfl,_⟩:=h;rfl
 ·obtain⟨wl,ws,rfl,e,hw,q,qE⟩:=h;refine⟨_,(aD (aR (i:=1) mI.nd rfl (Or.inl rfl) (gC (aC (aK (bU T 6) (hr.mono (by omega)) rfl T.bX T.bR.kp T.bW .nil (pass1 fun _ _ _ z=>z) (aC (pv 0) (aC aF aA))) aA)))
   (aD (AZ PassesOwn.leaving (PW.pt (zQ (oM (pv 0) (fun _=>rfl)) (r8 (aS Gh (cA fI rfl T.wC kK (aC (pv 1) aA)) (cP (v:=.int 4) rfl T.Ak ⟨_,rfl⟩) (nomark _))))) (aG (jU (rT (pv 1) (aK (bU T 6) (hr.mono (by omega)) rfl T.bX T.bR.kp T.bW .nil (pass1 fun _ _ _ z=>z) (aC (pv 0) (aC aF aA)))))))
   (aG (aQ (fP pB rfl T.qM nN (aC (pv 1) aA)))))),?_⟩
  and_intros
  wp_walk;refine⟨wl,1,ws,rfl,e,by decide,hw,fun s0 r0 h0 v1 H1 Zq e1 K1=>?_,fun h0 H1 K1=>qE (by unfold eV;rw[h0]) _ K1⟩;wp_walk;refine fun sl UI=>?_;have KN:=q0D (o:=.lst [v1]) UI;have ZD:wl≠sl:=aX e1 UI;have WS:H sl=none:=by
   cases hz:H sl with
   | none=>rfl
   | some o=>rw[K1.at1 hz ZD.symm] at UI;cases UI
  have hR:eV ws=iQ 3 [s0] r0:=by unfold eV;rw[h0]
  rw[hR] at q qE;obtain⟨W,hW⟩:∃ W:Nat->St->Hp->Prop,∀ m σ G,W m σ G = ∃(us:List V) (ss:List Say) (r:List Str),σ=[some (.ref wl),some (.ref sl)]/\G sl=some (.lst us)/\dC G us ss/\ss.length+m=4/\G wl=some (.lst (r.map V.str))/\WL r/\iQ 3 [s0] r0=iQ m ss r/\Kp [wl] H G:=⟨_,fun _ _ _=>rfl⟩;refine⟨W,⟨3,?_⟩,?_⟩
  ·rw[hW];exact⟨[v1],[s0],r0,rfl,aB,.cons (Zq.kp (aH.new UI)) .nil,rfl,KN.at e1,hw.say h0,rfl,K1.trans (Kp.new UI)⟩
  intro m σ G hG;rw[hW] at hG;obtain⟨us,ss,r,rfl,eS,hU,hm,eW,hwr,hP,KG⟩:=hG;have ln:=hU.ln;rw[hP] at q qE;have back:∀(VB:List V) (Xf:List Say) (r2:List Str) (G2:Hp) (m2:Nat),m=m2+1->G2 sl=some (.lst VB)->dC G2 VB Xf->Xf.length+m2=4->G2 wl=some (.lst (r2.map V.str))->WL r2->iQ m ss r=iQ m2 Xf r2->Kp [wl] H G2->∃ m',m' < m/\W m' [some (.ref wl),some (.ref sl)] G2:=fun VB Xf r2 G2 m2 hm2 a b c d e f g=>by
   refine⟨m2,by omega,?_⟩;rw[hW];exact⟨VB,Xf,r2,rfl,a,b,c,d,e,hP.trans f,g⟩
  clear hW;have stop:iQ m ss r=some (ss,r)->∀ p,G p=none->Q (.ref p) (SM G p (.tup us)):=fun z p hp=>q ss r z p us _ aB (hU.kp (aH.new hp)) ((q0D hp).at eW) (KG.trans (Kp.new hp));cases r with
  | nil =>
   wp_walk using eW,eS,List.map_nil,List.isEmpty_nil;exact stop (zJ _ _)
  | cons w1 r1 =>
  cases m with
  | zero =>
   wp_walk using eW,eS,List.map_cons,List.isEmpty_cons;rw[if_neg (by omega)];wp_walk using eS;exact stop rfl
  | succ m =>
  rw[lZ] at qE;wp_walk using eW,eS,List.map_cons,List.isEmpty_cons;rw[if_pos (by omega)];refine⟨fun σ' H'=>∃ m',m' < m+1/\W m' σ' H',fun _ _ h=>h,?_⟩;wp_walk using eS;refine⟨wl,1,w1::r1,rfl,eW,by decide,hwr,fun s2 r2 h2 v2 H2 Uu e2 K2=>?_,fun h2 H2 K2=>qE (by rw[h2]) _ (KG.trans K2)⟩;have eS2:=K2.at1 eS ZD.symm;wp_walk using eS2;have T2:=aH.w K2 eW;have T3:=aH.set (ys:=us++[v2]) eS2;refine⟨by omega,back _ _ _ _ m rfl aB (((hU.kp T2).kp T3).Qo (Uu.kp T3)) (by rw[List.length_append];simp only[List.length_cons,List.length_nil];omega) (by rw[aY ZD];exact e2) (hwr.say h2) (by rw[lZ,h2]) ?_⟩;exact fun b o eb nb=>by
   have:=(KG.trans K2) b o eb nb;rw[aY (fun z=>?_)]
   ·exact this
   ·subst z;exact absurd eb (by rw[WS];intro z;cases z)
theorem zE{t:Ad}(T:Tx K mg t):bL P w K mg base (S9 P w base) 24 t.mQ t.mW ["name","words"] (Qt t.aJ):=by
 refine T.tM.okE oO (fun vs H Q E h=>?_) (fun S0 A outer s H vs Q E hr h=>?_)
 ·obtain⟨wl,x,ws,rfl,_⟩:=h;rfl
 ·obtain⟨wl,x,ws,rfl,e,hw,q,qE⟩:=h;refine⟨_,(aD (aR (i:=2) oO.nd rfl (Or.inl rfl) (oI (oM (pv 1) (fun _=>rfl)) (bT cY (pv 1) aF (fun _ _=>rfl)) aE))
   (aD (bG (aS xG (pv 2) (aL (aC aE (aC aE (aC aE (aC aE (aC aE aA)))))) (by with_unfolding_all rfl)) (aG (aQ (aL (aC aE (aC (pv 0) (aC (aK (bU T 6) (hr.mono (by omega)) rfl T.bX T.bR.kp T.bW .nil (pass1 fun _ _ _ z=>z) (aC (pv 1) (aC aF aA))) aA)))))) aV)
   (aD (jU (aK (dA T) (hr.mono (by omega)) rfl T.fM T.eJ.kp T.fH .nil (pass1 fun _ _ _ z=>z) (aC (pv 1) aA)))
   (aD (bG (aS eL (pv 2) aE (nomark _)) (aG (aQ (aL (aC (pv 2) (aC (pv 0) (aC (aK (bU T 6) (hr.mono (by omega)) rfl T.bX T.bR.kp T.bW .nil (pass1 fun _ _ _ z=>z) (aC (pv 1) (aC aF aA))) aA)))))) aV)
   (aD (bG (aS eL (pv 2) aE (nomark _)) (aG (aQ (aL (aC (pv 2) (aC (pv 0) (aC (aK (vY T) (hr.mono (by omega)) rfl T.AM T.qS.kp T.Aj .nil (pass1 fun _ _ _ z=>z) (aC (pv 1) aA)) aA)))))) aV)
   (aD (bG (aS eL (pv 2) aE (nomark _)) (aG (aQ (aL (aC (pv 2) (aC (pv 0) (aC (aK (k8 T) (hr.mono (by omega)) rfl T.pL T.lR.kp T.oZ .nil (pass1 fun _ _ _ z=>z) (aC (pv 1) aA)) aA)))))) aV)
   (aG (aQ (aL (aC (pv 2) (aC (pv 0) (aC (aK (k8 T) (hr.mono (by omega)) rfl T.pL T.lR.kp T.oZ .nil (pass1 fun _ _ _ z=>z) (aC (pv 1) aA)) (aC (aK (bU T 6) (hr.mono (by omega)) rfl T.bX T.bR.kp T.bW .nil (pass1 fun _ _ _ z=>z) (aC (pv 1) (aC aF aA))) aA))))))))))))),?_⟩
  and_intros
  cases ws with
  | nil =>
   wp_walk using e,List.map_nil,List.isEmpty_nil;refine fun p hp=>⟨rfl,flat5,?_⟩;have KN:=q0D (o:=.tup [.str "order",.str "child",.str "timer",.str "wait",.str "hear"]) hp;have e1:=KN.at e;have K1:Kp [wl] H _:=KN.mono (by simp);generalize SM H p (.tup [.str "order",.str "child",.str "timer",.str "wait",.str "hear"])=G at *;wp_walk using PZ;exact⟨wl,1,[],rfl,e1,by decide,hw,fun _ _ h=>(nomatch h),fun _ H2 K2=>qE rfl _ (K1.trans K2)⟩
  | cons k r =>
  rw[dJ] at q qE;wp_walk using e,List.map_cons,List.isEmpty_cons;refine fun p hp=>⟨rfl,flat5,?_⟩;have KN:=q0D (o:=.tup [.str "order",.str "child",.str "timer",.str "wait",.str "hear"]) hp;have e1:=KN.at e;have K1:Kp [wl] H _:=KN.mono (by simp);generalize SM H p (.tup [.str "order",.str "child",.str "timer",.str "wait",.str "hear"])=G at *;cases h5:b7 (.str k) l5 with
  | false =>
   rw[if_pos h5] at q qE;wp_walk using h5;refine⟨wl,1,k::r,rfl,e1,by decide,hw,fun s r' hs v H2 hv e2 K2=>?_,fun hs H2 K2=>qE (by rw[hs]) _ (K1.trans K2)⟩;wp_walk;exact fun p4 S4=>q _ _ (by rw[hs]) _ _ (.set aB (hv.kp (aH.new S4))) ((q0D S4).at e2) ((K1.trans K2).trans (Kp.new S4))
  | true =>
  rw[if_neg (by rw[h5];decide)] at q qE;wp_walk using h5,e1,List.map_cons;have K2:=K1.trans (Kp.mE (a:=wl) (H:=G) (o:=.lst (r.map V.str)));have e2:SM G wl (.lst (r.map V.str)) wl=some (.lst (r.map V.str)):=aB;generalize SM G wl (.lst (r.map V.str))=G2 at *;by_cases k1:k = "timer"
  ·rw[if_pos k1] at q qE;rw[if_pos k1];wp_walk;refine⟨wl,1,r,rfl,e2,by decide,hw.tl,fun s r' hs v H3 hv e3 K3=>?_,fun hs H3 K3=>qE (by rw[hs]) _ (K2.trans K3)⟩;wp_walk;exact fun p4 S4=>q _ _ (by rw[hs]) _ _ (.SU (by rw[<- k1];exact aB) (hv.kp (aH.new S4))) ((q0D S4).at e3) ((K2.trans K3).trans (Kp.new S4))
  rw[if_neg k1] at q qE;rw[if_neg k1];by_cases k2:k = "wait"
  ·rw[if_pos k2] at q qE;rw[if_pos k2];wp_walk;refine⟨wl,r,rfl,e2,hw.tl,fun ss r' hs p3 us H3 h3 hU e3 K3=>?_,fun hs H3 K3=>qE (by rw[hs]) _ (K2.trans K3)⟩;wp_walk;exact fun p4 S4=>q _ _ (by rw[hs]) _ _ (.wait (by rw[<- k2];exact aB) ((q0D S4).at h3) (hU.kp (aH.new S4))) ((q0D S4).at e3) ((K2.trans K3).trans (Kp.new S4))
  rw[if_neg k2] at q qE;rw[if_neg k2];by_cases k3:k = "hear"
  ·rw[if_pos k3] at q qE;rw[if_pos k3];wp_walk;refine⟨wl,r,rfl,e2,hw.tl,fun y r' hs H3 e3 K3=>?_,fun hs H3 K3=>qE (by rw[hs]) _ (K2.trans K3)⟩;wp_walk;exact fun p4 S4=>q _ _ (by rw[hs]) _ _ (.SX (by rw[<- k3];exact aB)) ((q0D S4).at e3) ((K2.trans K3).trans (Kp.new S4))
  rw[if_neg k3] at q qE;rw[if_neg k3];wp_walk;refine⟨wl,r,rfl,e2,hw.tl,fun y r1 hs H3 e3 K3=>?_,fun hs H3 K3=>qE (by rw[hs]) _ (K2.trans K3)⟩;rw[hs] at q qE;wp_walk;refine⟨wl,1,r1,rfl,e3,by decide,hw.tl.name hs,fun s r' Uh v H4 hv e4 K4=>?_,fun Uh H4 K4=>qE (by simp only[];rw[Uh]) _ ((K2.trans K3).trans K4)⟩;wp_walk;refine fun p4 S4=>q _ _ (by simp only[];rw[Uh]) _ _ ?_ ((q0D S4).at e4) (((K2.trans K3).trans K4).trans (Kp.new S4));split
  ·next k4=>exact .order (by rw[<- k4];exact aB) (hv.kp (aH.new S4))
  ·next k4 =>
   have k5:k = "child":=by
    simp only[l5,b7,List.any_cons,List.any_nil,cO,eM,Bool.or_false,Bool.or_eq_true,beq_iff_eq] at h5;rcases h5 with h|h|h|h|h
    ·exact absurd h.symm k4
    ·exact h.symm
    ·exact absurd h.symm k1
    ·exact absurd h.symm k2
    ·exact absurd h.symm k3
   exact .child (by rw[<- k5];exact aB) (hv.kp (aH.new S4))
theorem zF{t:Ad}(T:Tx K mg t):bL P w K mg base (S9 P w base) 26 t.mR t.mX ["words"] (Qw t.aJ):=by
 refine T.tN.okE oP (fun vs H Q E h=>?_) (fun S0 A outer s H vs Q E hr h=>?_)
 ·obtain⟨wl,ws,rfl,_⟩:=h;rfl
 ·obtain⟨wl,ws,rfl,e,hw,q,qE⟩:=h;refine⟨_,(aD (aR (i:=1) oP.nd rfl (Or.inl rfl) (aK (dA T) (hr.mono (by omega)) rfl T.fM T.eJ.kp T.fH .nil (pass1 fun _ _ _ z=>z) (aC (pv 0) aA)))
   (aD (bG (aS eL (pv 1) aE (nomark _)) (aG (aQ (aL (aC (pv 1) (aC (aK (bU T 6) (hr.mono (by omega)) rfl T.bX T.bR.kp T.bW .nil (pass1 fun _ _ _ z=>z) (aC (pv 0) (aC aF aA))) (aC (aK (k8 T) (hr.mono (by omega)) rfl T.pL T.lR.kp T.oZ .nil (pass1 fun _ _ _ z=>z) (aC (pv 0) aA)) (aC (aK (bU T 6) (hr.mono (by omega)) rfl T.bX T.bR.kp T.bW .nil (pass1 fun _ _ _ z=>z) (aC (pv 0) (aC aF aA))) aA))))))) aV)
   (aD (bG (PW.pt (xR (aS eL (pv 1) aE (nomark _)) (pV (aS eL (pv 1) aE (nomark _))))) (aG (aQ (aL (aC (pv 1) (aC (aK (bU T 6) (hr.mono (by omega)) rfl T.bX T.bR.kp T.bW .nil (pass1 fun _ _ _ z=>z) (aC (pv 0) (aC aF aA))) aA))))) aV)
   (aD (bG (PW.pt (xR (iF (iG (aK (pM T) (hr.mono (by omega)) rfl T.zA T.rO.kp T.yE .nil pass0 (aC (pv 1) aA)))) (pV (aS xF (aK (dA T) (hr.mono (by omega)) rfl T.fM T.eJ.kp T.fH .nil (pass1 fun _ _ _ z=>z) (aC (pv 0) aA)) aE (nomark _))))) (aG (cU throws1 rfl rfl T.bO T.bI.toXCls (aC aE aA))) aV)
   (aG (aQ (aK (zE T) (hr.mono (by omega)) rfl T.BH T.tM.kp T.Bp .nil (pass1 fun _ _ _ z=>z) (aC (pv 1) (aC (pv 0) aA))))))))),?_⟩
  and_intros
  cases ws with
  | nil =>
   wp_walk using e,List.map_nil;exact qE rfl _ Kp.refl
  | cons f r =>
  rw[gA] at q qE;wp_walk using e,List.map_cons;have K1:=Kp.mE (a:=wl) (H:=H) (o:=.lst (r.map V.str));have e1:SM H wl (.lst (r.map V.str)) wl=some (.lst (r.map V.str)):=aB;generalize SM H wl (.lst (r.map V.str))=G1 at *;by_cases f1:f = "send"
  ·rw[if_pos f1] at q qE;rw[if_pos f1];wp_walk;refine⟨wl,1,r,rfl,e1,by decide,hw.tl,fun a r1 ha v2 H2 Uu e2 K2=>?_,fun ha H2 K2=>qE (by rw[ha]) _ (K1.trans K2)⟩;rw[ha] at q qE;wp_walk;refine⟨wl,r1,rfl,e2,hw.tl.say ha,fun k r2 hk H3 e3 K3=>?_,fun hk H3 K3=>qE (by simp only[];rw[hk]) _ ((K1.trans K2).trans K3)⟩;wp_walk;refine⟨wl,1,r2,rfl,e3,by decide,(hw.tl.say ha).name hk,fun b r3 hb v4 H4 hv4 e4 K4=>?_,fun hb H4 K4=>qE (by simp only[];rw[hk];simp only[];rw[hb]) _ (((K1.trans K2).trans K3).trans K4)⟩;wp_walk;exact fun p5 Vr=>q _ _ (by simp only[];rw[hk];simp only[];rw[hb]) _ _ (.send (by rw[<- f1];exact aB) (((Uu.kp (aH.w K3 e2)).kp (aH.w K4 e3)).kp (aH.new Vr)) (hv4.kp (aH.new Vr))) ((q0D Vr).at e4) ((((K1.trans K2).trans K3).trans K4).trans (Kp.new Vr))
  rw[if_neg f1] at q qE;rw[if_neg f1];by_cases hf:f = "drop"\/f = "end"
  ·rw[if_pos hf] at q qE;refine MR hf ?_;wp_walk;refine⟨wl,1,r,rfl,e1,by decide,hw.tl,fun s r1 hs v2 H2 Uu e2 K2=>?_,fun hs H2 K2=>qE (by rw[hs]) _ (K1.trans K2)⟩;wp_walk;refine fun p5 Vr=>q _ _ (by rw[hs]) _ _ ?_ ((q0D Vr).at e2) ((K1.trans K2).trans (Kp.new Vr));split
   ·next h=>exact .drop (by rw[<- h];exact aB) (Uu.kp (aH.new Vr))
   ·next h=>exact .fin (by rw[<- hf.resolve_left h];exact aB) (Uu.kp (aH.new Vr))
  rw[if_neg fun z=>hf (.inl z),if_neg fun z=>hf (.inr z)];rw[if_neg hf] at q qE;refine⟨hw.hd,fun H2 K2=>?_⟩;have Wx:=K1.trans (Kp.of (S:=[wl]) K2.same);have e2:=K2.at e1;cases hb:BK f with
  | false =>
   rw[if_neg (by rw[hb];decide)] at qE;wp_walk using hb;exact qE rfl _ Wx
  | true =>
  rw[if_pos hb] at q qE;cases r with
  | nil =>
   wp_walk using hb,e2,List.map_nil;exact qE rfl _ Wx
  | cons e3 r1 =>
  simp only[] at q qE;wp_walk using hb,e2,List.map_cons;by_cases h3:e3 = "="
  ·rw[if_pos h3] at q qE ⊢;wp_walk;exact⟨wl,f,r1,rfl,aB,hw.tl.tl,fun m r' hm v H4 hv e4 K4=>q m r' hm v H4 hv e4 ((Wx.trans Kp.mE).trans K4),fun hm H4 K4=>qE hm _ ((Wx.trans Kp.mE).trans K4)⟩
  ·rw[if_neg h3] at qE;rw[if_neg h3];exact qE rfl _ (Wx.trans Kp.mE)
theorem mG{t:Ad}(T:Tx K mg t):bL P w K mg base (S9 P w base) 1 t.kH t.kP ["words"] (JC t.aJ):=by
 refine T.kU.okE v8 (fun vs H Q E h=>?_) (fun S0 A outer s H vs Q E hr h=>?_)
 ·obtain⟨a,xs,rfl,_⟩:=h;rfl
 ·obtain⟨a,xs,rfl,e,q,qE⟩:=h;refine⟨_,(aG (bG (oM (pv 0) (fun _=>rfl)) (aG (cU throws1 rfl rfl T.bO T.bI.toXCls (aC aE aA))) aV)),?_⟩
  and_intros
  cases xs with
  | nil =>
   wp_walk using e,List.isEmpty_nil;exact q rfl
  | cons y ys =>
   wp_walk using e,List.isEmpty_cons;exact qE (by simp)
theorem D1{t:Ad}(T:Tx K mg t){n D:Nat}(hn:34<=n)(IH:bL P w K mg base (S9 P w base) n t.cM t.cN ["self","deep"] (CV t.aN t.aJ D)):bL P w K mg base (S9 P w base) (n+1) t.eY t.eZ ["self","deep"] (NF t.aN t.aJ D):=by
 refine T.mY.okE gR (fun vs H Q E h=>?_) (fun S0 A outer s H vs Q E hr h=>?_)
 ·obtain⟨D,rd,dx,ll,rows,i,k,dp,rfl,rfl,_⟩:=h;rfl
 ·obtain⟨D,rd,dx,ll,rows,i,k,dp,rfl,rfl,R,hd,UY,V0,q,qE⟩:=h;refine⟨_,(aD (bG (aS xF (lC (pv 0) T.bH T.eQ (dX T) (hr.mono (by omega)) T.fW .nil pass0) aE (nomark _)) (aG (aQ (aL aA))) aV)
   (aD (rY T.bH T.cZ (pv 0) aF)
   (aD (aR (i:=2) gR.nd rfl (Or.inl rfl) (l4 (pv 0) T.bH T.iW IH (hr.mono (by omega)) T.jM .nil (pass1 fun _ _ _ z=>z) (aC (pv 1) aA)))
   (aD (bG (iF (oM (pv 2) (fun _=>rfl))) (aG (cU throws1 rfl rfl T.bO T.bI.toXCls (aC aE aA))) aV)
   (aG (aQ (pv 2))))))),?_⟩
  and_intros
  have ins:=R.ins;cases hL:rows.drop i with
  | nil =>
   rw[hL] at q;wp_walk using ins;refine⟨rd,dx,ll,rows,i,k,rfl,R,?_⟩;rw[rL hL];wp_walk;exact fun p hp=>q _ _ _ rfl p [] _ i aB .nil (R.kp (Kp.new hp)) hL (Kp.new hp)
  | cons l L =>
  rw[hL,jI] at q qE;wp_walk using ins;refine⟨rd,dx,ll,rows,i,k,rfl,R,?_⟩;rw[lP hL];by_cases he:l = "else"
  ·rw[if_pos he] at q qE;wp_walk using he,ins;have R1:=R.set (i':=i+1) (k':=k);rw[show((i+1:Nat):Int)=(i:Int)+1 by omega] at R1;have K1:=Kp.mE (a:=rd) (H:=H) (o:=.ins t.aN dx [("lines",.ref ll),("lines_read",.int ((i:Int)+1)),("statements_read",.int k)]);have Vv:=R1.ins;generalize SM H rd (.ins t.aN dx [("lines",.ref ll),("lines_read",.int ((i:Int)+1)),("statements_read",.int k)])=G at *;have R1':fT t.aN G rd dx ll rows (i+1) k:=⟨by rw[Vv],R1.lin⟩;have Ws:=s8 hL;wp_walk using Vv;refine⟨D,rfl,rd,dx,ll,rows,i+1,k,dp,rfl,R1',hd,UY,V0,fun b k' L' hb p us H2 i' h2 hU R2 hL2 K2=>?_,fun hb H2 K2=>qE (by rw[<- Ws,hb]) _ (K1.trans K2)⟩;rw[Ws] at hb;cases b with
   | nil =>
    have Wu:us.isEmpty=true:=Ha hU;wp_walk using h2,Wu;exact qE (by rw[hb]) _ (K1.trans K2)
   | cons m ms =>
    have Wu:us.isEmpty=false:=Ha hU;wp_walk using h2,Wu;exact q _ _ _ (by rw[hb]) p us H2 i' h2 hU R2 hL2 (K1.trans K2)
  ·rw[if_neg he] at q;wp_walk using he;exact fun p hp=>q _ _ _ rfl p [] _ i aB .nil (R.kp (Kp.new hp)) hL (Kp.new hp)
theorem JH{t:Ad}(T:Tx K mg t){n D:Nat}(hn:34<=n)(IH:bL P w K mg base (S9 P w base) n t.cM t.cN ["self","deep"] (CV t.aN t.aJ D)):bL P w K mg base (S9 P w base) (n+2) t.fV t.fX ["self","words","deep"] (Qx t.aN t.aJ D):=by
 refine T.nR.okE cE (fun vs H Q E h=>?_) (fun S0 A outer s H vs Q E hr h=>?_)
 ·obtain⟨D,rd,dx,ll,wl,rows,i,k,dp,kd,r,rfl,rfl,_⟩:=h;rfl
 ·obtain⟨D,rd,dx,ll,wl,rows,i,k,dp,kd,r,rfl,rfl,R,e,Xc,hkd,hw,hd,UY,V0,q,qE⟩:=h;refine⟨_,(aD (aR (i:=3) cE.nd rfl (Or.inl rfl) (aK (dA T) (hr.mono (by omega)) rfl T.fM T.eJ.kp T.fH .nil (pass1 fun _ _ _ z=>z) (aC (pv 1) aA)))
   (aD (aR (i:=4) cE.nd rfl (Or.inl rfl) (aK (bU T 6) (hr.mono (by omega)) rfl T.bX T.bR.kp T.bW .nil (pass1 fun _ _ _ z=>z) (aC (pv 1) (aC aF aA))))
   (aD (jU (aK (mG T) (hr.mono (by omega)) rfl T.qW T.kU.kp T.qP .nil (pass1 fun _ _ _ z=>z) (aC (pv 1) aA)))
   (aD (aR (i:=5) cE.nd rfl (Or.inl rfl) (l4 (pv 0) T.bH T.iW IH (hr.mono (by omega)) T.jM .nil (pass1 fun _ _ _ z=>z) (aC (aZ aU (pv 2) aF) aA)))
   (aD (aR (i:=6) cE.nd rfl (Or.inl rfl) (oI (aS eL (pv 3) aE (nomark _)) (aL (aC (pv 5) aA)) (aL (aC (pv 5) (aC (l4 (pv 0) T.bH T.mD (D1 T hn IH) (hr.mono (by omega)) T.mS .nil (pass1 fun _ _ _ z=>z) (aC (aZ aU (pv 2) aF) aA)) aA)))))
   (aD (bG (aS xF (lC (pv 0) T.bH T.eQ (dX T) (hr.mono (by omega)) T.fW .nil pass0) aE (nomark _)) (aG (cU throws1 rfl rfl T.bO T.bI.toXCls (aC aE aA))) aV)
   (aD (rY T.bH T.cZ (pv 0) aF)
   (aG (aQ (aZ zH (aL (aC (pv 3) (aC (pv 4) aA))) (pv 6))))))))))),?_⟩
  and_intros
  have nrw:rd≠wl:=xE R.ins e (by intro z;cases z);rw[hJ] at q qE;refine bB fun UG S6=>?_;wp_walk using e,List.map_cons;have K1:=Kp.mE (a:=wl) (H:=H) (o:=.lst (r.map V.str));have R1:=R.w K1 nrw Xc.symm;have e1:SM H wl (.lst (r.map V.str)) wl=some (.lst (r.map V.str)):=aB;generalize SM H wl (.lst (r.map V.str))=G1 at *;refine S6 _ _ ?_;clear S6;refine bB fun Wq TK=>?_;wp_walk;refine⟨wl,1,r,rfl,e1,by decide,hw.tl,fun s r2 hs v2 H2 Uu e2 K2=>?_,fun hs H2 K2=>qE (by rw[hs]) _ ((K1.trans K2).mono (by simp))⟩;have R2:=R1.w K2 nrw Xc.symm;refine TK _ _ ?_;clear TK;refine bB fun Xz Ur=>?_;wp_walk;have VU:Kp [rd,wl] H H2:=(K1.trans K2).mono (by simp);refine⟨wl,r2.map V.str,rfl,e2,fun hz=>?_,fun hz=>qE (by rw[hs];cases r2 with|nil=>exact absurd rfl hz|cons a b=>rfl) _ VU⟩;obtain rfl:r2=[]:=by
   cases r2 with
   | nil=>rfl
   | cons a b=>cases hz
  rw[hs] at q qE;wp_walk;refine Ur _ _ ?_;clear Ur;refine bB fun Yn UR=>?_;wp_walk using R2.ins;refine⟨D,rfl,rd,dx,ll,rows,i,k,dp+1,rfl,R2,by omega,UY,V0,fun b k1 L1 hb p3 us H3 i3 h3 hU R3 XG K3=>?_,fun hb H3 K3=>qE (by simp only[];rw[hb]) _ (VU.trans (K3.mono (by simp)))⟩;simp only[hb] at q qE;have k60:k1<=60:=(m5 D hb).2.2.2.2 V0;have s3:=Uu.kp (aH.rd R2 K3);replace VU:=VU.trans (K3.mono (S:=[rd]) (T:=[rd,wl]) (by simp));clear K3 R2 R1 K1 K2 hs hb;refine UR _ _ ?_;clear UR;refine bB fun Yo VG=>?_
  suffices fin:∀(bs:List V) (m:Stm) (k4 i4 p4:Nat) (L4:List Str) (G4:Hp),aT G4 v2 s->fT t.aN G4 rd dx ll rows i4 k4->rows.drop i4=L4->G4 p4=some (.tup bs)->Kp [rd,wl] H G4->(∀ L5,oA L4=some L5->∀(v:V) (H':Hp) (i':Nat),bQ H' v m->fT t.aN H' rd dx ll rows i' k4->rows.drop i'=L5->Kp [rd,wl] H H'->Q v H')->(oA L4=none->∀ H',Kp [rd,wl] H H'->E (.ref t.aJ) none H')->(bs.length<=2/\bs≠[])->(∀(G5:Hp) (a:Addr),aH G4 G5->aT G5 v2 s->G5 a=some (.tup ([.str kd,v2]++bs))->bQ G5 (.ref a) m)->Yo [some (.ref rd),some (.ref wl),some (.int dp),some (.str kd),some v2,some (.ref p3),some (.ref p4)] G4 by
   by_cases hk:kd = "while"
   ·simp only[if_pos hk] at q qE;wp_walk using eq_true hk;refine fun p4 S4=>?_;have N4:=q0D (o:=.tup [.ref p3]) S4;refine fin [.ref p3] (.S1 s b) k1 i3 p4 L1 _ (s3.kp (aH.nil N4)) (R3.kp N4) XG aB (VU.trans (N4.mono (by simp))) (fun L5 h5 v H' i' hv R' WK K'=>q _ _ _ (by rw[h5]) v H' i' hv R' WK K') (fun h5 H' K'=>qE (by rw[h5]) _ K') ⟨by simp,by simp⟩ fun G5 a T5 s5 ea=>?_;have VW:aH H3 G5:=(aH.nil N4).trans T5;exact .S1 (by rw[ea,hk];rfl) s5 (VW _ _ h3) (hU.kp VW)
   ·simp only[if_neg hk] at q qE;have hi:=(Sq hkd).resolve_right hk;wp_walk using hk,R3.ins;refine⟨D,rd,dx,ll,rows,i3,k1,dp+1,rfl,rfl,R3,by omega,UY,k60,fun o k2 L2 ho q3 us3 H33 i33 h33 hU3 R33 Y4 Xx=>?_,fun ho H33 Xx=>qE (by rw[<- XG,ho]) _ (VU.trans (Xx.mono (by simp)))⟩;rw[XG] at ho;have Yp:=aH.rd R3 Xx;wp_walk;refine fun p4 S4=>?_;have N4:=q0D (o:=.tup [.ref p3,.ref q3]) S4;refine fin [.ref p3,.ref q3] (.iff s b o) k2 i33 p4 L2 _ ((s3.kp Yp).kp (aH.nil N4)) (R33.kp N4) Y4 aB ((VU.trans (Xx.mono (by simp))).trans (N4.mono (by simp))) (fun L5 h5 v H' i' hv R' WK K'=>q _ _ _ (by rw[ho];simp only[];rw[h5]) v H' i' hv R' WK K') (fun h5 H' K'=>qE (by rw[ho];simp only[];rw[h5]) _ K') ⟨by simp,by simp⟩ fun G5 a T5 s5 ea=>?_;have VW:aH H33 G5:=(aH.nil N4).trans T5;exact .iff (by rw[ea,hi];rfl) s5 (VW _ _ (Yp _ _ h3)) ((hU.kp Yp).kp VW) (VW _ _ h33) (hU3.kp VW)
  intro bs m k4 i4 p4 L4 G4 s4 R4 Vn e4 K4 ok no lb mk;clear q qE s3 hU h3 R3 XG;refine VG _ _ ?_;clear VG;refine bB fun R_6 VH=>?_;wp_walk using R4.ins;refine⟨rd,dx,ll,rows,i4,k4,rfl,R4,?_⟩;cases L4 with
  | nil =>
   rw[rL Vn];wp_walk;exact no rfl _ K4
  | cons l5 L5 =>
  rw[lP Vn];rw[zI] at ok no;by_cases XH:l5 = "done"
  case neg =>
   rw[if_neg XH] at no;wp_walk using XH;exact no rfl _ K4
  rw[if_pos XH] at ok;wp_walk using XH;refine VH _ _ ?_;clear VH;refine bB fun R_7 VI=>?_;wp_walk using R4.ins;have R5:=R4.set (i':=i4+1) (k':=k4);rw[show((i4+1:Nat):Int)=(i4:Int)+1 by omega] at R5;have N5:=Kp.mE (a:=rd) (H:=G4) (o:=.ins t.aN dx [("lines",.ref ll),("lines_read",.int ((i4:Int)+1)),("statements_read",.int k4)]);have T5:aH G4 _:=aH.rd R4 N5;replace K4:=K4.trans (N5.mono (S:=[rd]) (T:=[rd,wl]) (by simp));replace s4:=s4.kp T5;replace e4:=T5 _ _ e4;generalize SM G4 rd (.ins t.aN dx [("lines",.ref ll),("lines_read",.int ((i4:Int)+1)),("statements_read",.int k4)])=G5 at *;refine VI _ _ ?_;clear VI N5 R4;wp_walk;refine fun p6 hp6=>?_;have N6:=q0D (o:=.tup [.str kd,v2]) hp6;have e46:=N6.at e4;have e66:SM G5 p6 (.tup [.str kd,v2]) p6=some (.tup [.str kd,v2]):=aB;have R6:fT t.aN G5 rd dx ll rows (i4+1) k4:=⟨by rw[R5.ins],R5.lin⟩;have R7:=R6.kp N6;have K6:=K4.trans (N6.mono (S:=[]) (T:=[rd,wl]) (by simp));have s6:=s4.kp (aH.nil N6);replace T5:=T5.trans (aH.nil N6);clear R5 R6 K4 s4 e4;generalize SM G5 p6 (.tup [.str kd,v2])=G6 at *;obtain⟨lb1,lb2⟩:=lb;have bs0:bs.isEmpty=false:=by
   cases bs with
   | nil=>exact absurd rfl lb2
   | cons a b=>rfl
  wp_walk using e66,e46,reduceCtorEq,Fb,lb2;refine⟨by omega,?_⟩;refine fun p7 hp7=>?_;have N7:=q0D (o:=.tup ([.str kd,v2]++bs)) hp7;exact ok _ rfl _ _ (i4+1) (mk _ _ (T5.trans (aH.nil N7)) (s6.kp (aH.nil N7)) aB) (R7.kp N7) (s8 Vn) (K6.trans (N7.mono (by simp)))
theorem zV{t:Ad}(T:Tx K mg t){n D:Nat}(hn:34<=n)(IH:bL P w K mg base (S9 P w base) n t.cM t.cN ["self","deep"] (CV t.aN t.aJ D)):bL P w K mg base (S9 P w base) (n+3) t.gH t.gI ["self","deep"] (NG t.aN t.aJ D):=by
 refine T.pH.okE fC (fun vs H Q E h=>?_) (fun S0 A outer s H vs Q E hr h=>?_)
 ·obtain⟨D,rd,dx,ll,rows,i,k,dp,l,L,rfl,rfl,_⟩:=h;rfl
 ·obtain⟨D,rd,dx,ll,rows,i,k,dp,l,L,rfl,rfl,R,hL,hd,UY,V0,q,qE⟩:=h;refine⟨_,(aD (aR (i:=2) fC.nd rfl (Or.inl rfl) (AX PySem.F.plainAttrs_str PySem.F.slot_str_split PySem.F.type_str_split AK (lC (pv 0) T.bH T.eQ (dX T) (hr.mono (by omega)) T.fW .nil pass0) (aC aE aA)))
   (aD (rY T.bH T.cZ (pv 0) aF)
   (aD (rY T.bH T.cS (pv 0) aF)
   (aD (bG (aS Gg (oH T.bH T.cS (pv 0)) (cP (v:=.int 60) rfl T.rA ⟨_,rfl⟩) (nomark _)) (aG (cU throws1 rfl rfl T.bO T.bI.toXCls (aC aE aA))) aV)
   (aD (bG (aS pP (bT cY (pv 2) aF (fun _ _=>rfl)) (aL (aC aE (aC aE aA))) (by with_unfolding_all rfl)) (aG (aQ (l4 (pv 0) T.bH T.mZ (JH T hn IH) (hr.mono (by omega)) T.nM .nil (pass1 fun _ _ _ z=>z) (aC (pv 2) (aC (pv 1) aA))))) aV)
   (aD (aR (i:=3) fC.nd rfl (Or.inl rfl) (aK (zF T) (hr.mono (by omega)) rfl T.BI T.tN.kp T.Bq .nil (pass1 fun _ _ _ z=>z) (aC (pv 2) aA)))
   (aD (jU (aK (mG T) (hr.mono (by omega)) rfl T.qW T.kU.kp T.qP .nil (pass1 fun _ _ _ z=>z) (aC (pv 2) aA)))
   (aG (aQ (pv 3)))))))))),?_⟩
  and_intros
  have Zu:=R.ins;have lh:l.length<=8000000:=UY l (List.mem_of_mem_drop (i:=i) (by rw[hL];exact List.mem_cons_self));have V8:=GL lh;have Ws:=s8 hL;obtain⟨w0,wr,Zr⟩:=A7 l;rw[dB,Zr] at q qE;rw[Zr] at V8;refine bB fun UG S6=>?_;wp_walk using Zu;refine⟨rd,dx,ll,rows,i,k,rfl,R,?_⟩;rw[lP hL];wp_walk;refine⟨by decide +kernel,by omega,fun wl WZ=>?_⟩;rw[Zr];have N1:=q0D (o:=.lst ((w0::wr).map V.str)) WZ;have R1:=R.kp N1;have e1:SM H wl (.lst ((w0::wr).map V.str)) wl=some (.lst ((w0::wr).map V.str)):=aB;have Xc:wl≠ll:=(aX R.lin WZ).symm;have nwr:wl≠rd:=(aX R.ins WZ).symm;have Vv:=R1.ins;generalize SM H wl (.lst ((w0::wr).map V.str))=G1 at *;refine S6 _ _ ?_;clear S6;refine bB fun Wq TK=>?_;wp_walk using Vv;refine TK _ _ ?_;clear TK;refine bB fun Xz Ur=>?_;wp_walk;have R2:=(R1.set (i':=i+1) (k':=k)).set (i':=i+1) (k':=k+1);rw[show((i+1:Nat):Int)=(i:Int)+1 by omega,show((k+1:Nat):Int)=(k:Int)+1 by omega] at R2;have K2:Kp [rd] G1 (SM (SM G1 rd (.ins t.aN dx [("lines",.ref ll),("lines_read",.int ((i:Int)+1)),("statements_read",.int k)])) rd (.ins t.aN dx [("lines",.ref ll),("lines_read",.int ((i:Int)+1)),("statements_read",.int ((k:Int)+1))])):=Kp.mE.trans Kp.mE;have e2:=K2.at1 e1 nwr;have W0:=R2.ins;generalize SM (SM G1 rd (.ins t.aN dx [("lines",.ref ll),("lines_read",.int ((i:Int)+1)),("statements_read",.int k)])) rd (.ins t.aN dx [("lines",.ref ll),("lines_read",.int ((i:Int)+1)),("statements_read",.int ((k:Int)+1))])=G2 at *;refine Ur _ _ ?_;clear Ur;have VF:∀ {H5:Hp},Kp [rd,wl] G2 H5->Kp [rd] H H5:=fun K5 b o eb nb=>by
   have nb2:b≠wl:=aX eb WZ;exact K5 b o (K2 b o (N1.at eb) nb) (by simp[nb2];simpa using nb)
  refine bB fun Yn UR=>?_;wp_walk using W0;by_cases h61:60 < k+1
  ·rw[if_pos h61] at qE;rw[if_pos (by omega)];wp_walk;exact qE rfl _ (VF Kp.refl)
  rw[if_neg h61] at q qE;rw[if_neg (by omega)];wp_walk;refine UR _ _ ?_;clear UR;refine bB fun Yo VG=>?_;have R2':fT t.aN G2 rd dx ll rows (i+1) (k+1):=⟨by rw[W0],R2.lin⟩;wp_walk using e2,List.map_cons;refine fun p3 Zn=>⟨rfl,flat2,?_⟩;have N3:=q0D (o:=.tup [.str "if",.str "while"]) Zn;have R3:=R2'.kp N3;have e3:=N3.at e2;replace VF:∀ {H5:Hp},Kp [rd,wl] _ H5->Kp [rd] H H5:=fun {H5} K5=>VF ((N3.mono (by simp):Kp [rd,wl] G2 _).trans K5);generalize SM G2 p3 (.tup [.str "if",.str "while"])=G3 at *;cases hb:b7 (.str w0) lB with
  | true =>
   rw[if_pos (show b7 (.str ((w0::wr).headD "")) lB=true from hb)] at q qE;wp_walk using hb,R3.ins;exact⟨D,rd,dx,ll,wl,rows,i+1,k+1,dp,w0,wr,rfl,rfl,R3,e3,Xc,hb,V8,hd,UY,by omega,fun m k' L' hm v H' i' hv R' WK K'=>q m k' L' (by rw[<- Ws];exact hm) v H' i' hv R' WK (VF K'),fun hm H' K'=>qE (by rw[<- Ws];exact hm) _ (VF K')⟩
  | false =>
   rw[if_neg (show ¬ b7 (.str ((w0::wr).headD "")) lB=true by show ¬ b7 (.str w0) lB=true;rw[hb];decide)] at q qE;wp_walk using hb;refine VG _ _ ?_;clear VG;refine bB fun R_6 VH=>?_;wp_walk;refine⟨wl,w0::wr,rfl,e3,V8,fun m r hm v H4 hv e4 K4=>?_,fun hm H4 K4=>qE (by rw[hm]) _ (VF (K4.mono (by simp)))⟩;refine VH _ _ ?_;clear VH;refine bB fun R_7 VI=>?_;wp_walk;refine⟨wl,r.map V.str,rfl,e4,fun hz=>?_,fun hz=>qE (by rw[hm];cases r with|nil=>exact absurd rfl hz|cons a b=>rfl) _ (VF (K4.mono (by simp)))⟩;obtain rfl:r=[]:=by
    cases r with
    | nil=>rfl
    | cons a b=>cases hz
   wp_walk;refine VI _ _ ?_;clear VI;have R4:=R3.w K4 nwr.symm Xc.symm;wp_walk;exact q m (k+1) L (by rw[hm]) v H4 (i+1) hv R4 Ws (VF (K4.mono (by simp)))
theorem A8{t:Ad}(T:Tx K mg t){n D:Nat}(hn:34<=n)(IH:bL P w K mg base (S9 P w base) n t.cM t.cN ["self","deep"] (CV t.aN t.aJ D)):bL P w K mg base (S9 P w base) (n+4) t.cM t.cN ["self","deep"] (GG t.aN t.aJ D):=by
 refine T.yQ.okE lI (fun vs H Q E h=>?_) (fun S0 A outer s H vs Q E hr h=>?_)
 ·obtain⟨rd,dx,ll,rows,i,k,dp,rfl,_⟩:=h;rfl
 ·obtain⟨rd,dx,ll,rows,i,k,dp,rfl,R,hd,UY,V0,q,qE⟩:=h;refine⟨_,(aD (bG (aS Gg (pv 1) (cP (v:=.int 5) rfl T.vH ⟨_,rfl⟩) (nomark _)) (aG (cU throws1 rfl rfl T.bO T.bI.toXCls (aC aE aA))) aV)
   (aD (aR (i:=2) lI.nd rfl (Or.inl rfl) (gC aA))
   (aD (AZ PassesOwn.leaving (aS xG (lC (pv 0) T.bH T.eQ (dX T) (hr.mono (by omega)) T.fW .nil pass0) (aL (aC zM (aC aE (aC aE aA)))) (by with_unfolding_all rfl)) (aG (jU (rT (pv 2) (l4 (pv 0) T.bH T.nW (zV T hn IH) (hr.mono (by omega)) T.oY .nil (pass1 fun _ _ _ z=>z) (aC (pv 1) aA))))))
   (aG (aQ (fP pB rfl T.qM nN (aC (pv 2) aA))))))),?_⟩
  and_intros
  cases D with
  | zero =>
   wp_walk;rw[if_pos (by omega)];exact qE rfl _ Kp.refl
  | succ D =>
  wp_walk;rw[if_neg (by omega)];refine fun sl UI=>?_;have nsr:rd≠sl:=aX R.ins UI;have nsl:ll≠sl:=aX R.lin UI;have hR:cF (D+1) k (rows.drop i)=gP (dB (cF D)) ((rows.drop i).length+1) [] k (rows.drop i):=rfl;rw[hR] at q qE;obtain⟨res,V7⟩:∃ res,res=gP (dB (cF D)) ((rows.drop i).length+1) [] k (rows.drop i):=⟨_,rfl⟩;rw[<- V7] at q qE;obtain⟨W,hW⟩:∃ W:Nat->St->Hp->Prop,∀ m σ G,W m σ G = ∃(us:List V) (acc:List Stm) (i1 k1:Nat),σ=[some (.ref rd),some (.int dp),some (.ref sl)]/\G sl=some (.lst us)/\aW G us acc/\fT t.aN G rd dx ll rows i1 k1/\res=gP (dB (cF D)) m acc k1 (rows.drop i1)/\(rows.drop i1).length < m/\acc.length<=k1/\k1<=60/\Kp [rd] H G:=⟨_,fun _ _ _=>rfl⟩;refine⟨W,⟨(rows.drop i).length+1,?_⟩,?_⟩
  ·rw[hW];exact⟨[],[],i,k,rfl,aB,.nil,R.kp (Kp.new UI),V7,Nat.lt_succ_self _,Nat.zero_le _,V0,Kp.new UI⟩
  clear hR V7;intro m σ G hG;rw[hW] at hG;obtain⟨us,acc,i1,k1,rfl,eS,hU,RG,hP,hm,ha,Zd,KG⟩:=hG;have ln:=hU.len;obtain⟨m,rfl⟩:∃ e,m=e+1:=⟨m - 1,by omega⟩;have back:∀(VB:List V) (UM:List Stm) (i2 k2:Nat) (G2:Hp),G2 sl=some (.lst VB)->aW G2 VB UM->fT t.aN G2 rd dx ll rows i2 k2->res=gP (dB (cF D)) m UM k2 (rows.drop i2)->(rows.drop i2).length < m->UM.length<=k2->k2<=60->Kp [rd] H G2->∃ m',m' < m+1/\W m' [some (.ref rd),some (.int dp),some (.ref sl)] G2:=fun VB UM i2 k2 G2 h1 h2 h3 h4 h5 h6 h7 h8=>by
   refine⟨m,Nat.lt_succ_self _,?_⟩;rw[hW];exact⟨VB,UM,i2,k2,rfl,h1,h2,h3,h4,h5,h6,h7,h8⟩
  clear hW;wp_walk using RG.ins;refine⟨rd,dx,ll,rows,_,_,rfl,RG,?_⟩;wp_walk;refine fun p3 Zn=>⟨Hq _ _,PL,?_⟩;have N3:=q0D (o:=.tup [.SR,.str "else",.str "done"]) Zn;have R3:=RG.kp N3;have XB:=N3.at eS;have U3:=hU.kp (aH.nil N3);have K3:=KG.trans (N3.mono (by simp):Kp [rd] G _);generalize SM G p3 (.tup [.SR,.str "else",.str "done"])=G3 at *;have fin:b7 (ah rows i1) [.SR,.str "else",.str "done"]=true->res=some (acc,k1,rows.drop i1)->∀ p,G3 p=none->Q (.ref p) (SM G3 p (.tup us)):=fun _ z p hp=>q acc k1 _ z p us _ i1 aB (U3.kp (aH.new hp)) (R3.kp (Kp.new hp)) rfl (K3.trans (Kp.new hp));cases hL:rows.drop i1 with
  | nil =>
   rw[hL] at hP fin;have Uy:b7 (ah rows i1) [.SR,.str "else",.str "done"]=true:=by rw[rL hL];exact Fq
   wp_walk using Uy,XB;exact fin Uy hP
  | cons l L =>
  rw[hL,oB] at hP;by_cases TF:l = "else"\/l = "done"
  ·rw[hL] at fin;rw[if_pos TF] at hP;have Uy:b7 (ah rows i1) [.SR,.str "else",.str "done"]=true:=by rw[lP hL];exact IF TF
   wp_walk using Uy,XB;exact fin Uy hP
  rw[if_neg TF] at hP;clear fin;have Uy:b7 (ah rows i1) [.SR,.str "else",.str "done"]=false:=by rw[lP hL];exact MQ TF
  wp_walk using Uy;refine⟨fun σ' H'=>∃ m',m' < m+1/\W m' σ' H',fun _ _ h=>h,?_⟩;wp_walk using XB,R3.ins;refine⟨D,rd,dx,ll,rows,_,_,dp,l,L,rfl,rfl,R3,hL,hd,UY,Zd,fun st k' L' hs v H4 i' hv R4 Vn K4=>?_,fun hs H4 K4=>qE (by rw[hP,hs]) _ (K3.trans K4)⟩;rw[hs] at hP;obtain⟨b1,b2,b3,b4,b5⟩:=xP (m5 D) hs;have sp:=st.Cd;have eS4:=K4.at1 XB nsr.symm;have T4:=aH.rd R3 K4;wp_walk using eS4;have T5:=aH.set (ys:=us++[v]) eS4;have K5:Kp [sl] H4 (SM H4 sl (.lst (us++[v]))):=Kp.mE;have lL:L'.length<=L.length:=by
   have:=congrArg List.length b1;rw[List.length_append,List.length_cons] at this;obtain⟨mr,WR⟩:=pX st;rw[WR,List.length_cons] at this;omega
  rw[hL,List.length_cons] at hm;refine⟨by omega,back _ (acc++[st]) i' k' _ aB (((U3.kp T4).kp T5).snoc (hv.kp T5)) (R4.w K5 nsr nsl) (by rw[Vn];exact hP) (by rw[Vn];omega) (by rw[List.length_append,List.length_cons,List.length_nil];omega) b5 ?_⟩;exact fun c o ec nc=>by
   have:=(K3.trans K4) c o ec nc;rw[aY (aX ec UI)];exact this
theorem k7{t:Ad}(T:Tx K mg t):∀ D,bL P w K mg base (S9 P w base) (4 * D+38) t.cM t.cN ["self","deep"] (GG t.aN t.aJ D)
 | 0=>A8 T (Nat.le_refl 34) ⟨fun _ _ _ _ x=>by (obtain⟨_,h,_⟩:=x;exact absurd h (by omega)),fun _ _ _ _ _ _ _ _ _ _ _ _ _ x=>by (obtain⟨_,h,_⟩:=x;exact absurd h (by omega))⟩
 | D+1=>A8 T (by omega) ((k7 T D).imp fun _ _ _ _ ⟨D',h,x⟩=>by cases h;exact x)
theorem uE{t:Ad}(T:Tx K mg t):bL P w K mg base (S9 P w base) 66 t.jL t.jP ["text"] (JD t.aJ):=by
 refine T.nT.okE iL (fun vs H Q E h=>?_) (fun S0 A outer s H vs Q E hr h=>?_)
 ·obtain⟨x,rfl,_⟩:=h;rfl
 ·obtain⟨x,rfl,lx,q,qE⟩:=h;refine⟨_,(aD (bG (PW.pt (zQ (aS xF (pv 0) aE (nomark _)) (r8 (iF (iG (AX PySem.F.plainAttrs_str PySem.F.slot_str_endswith PySem.F.type_str_endswith AJ (pv 0) (aC aE aA))))))) (aG (cU throws1 rfl rfl T.bO T.bI.toXCls (aC aE aA))) aV)
   (aD (aR (i:=1) iL.nd rfl (Or.inl rfl) (Jm T.t8 (vX T) (hr.mono (by omega)) rfl T.IT T.Ah .nil pass0 (aC (oJ Nw (AX PySem.F.plainAttrs_str PySem.F.slot_str_split PySem.F.type_str_split AK (pv 0) (aC aE aA)) rW (rX (CS Ac aF))) aA)))
   (aD (aR (i:=2) iL.nd rfl (Or.inl rfl) (l4 (pv 1) T.bH T.iW (k7 T 6) (hr.mono (by omega)) T.jM .nil (pass1 fun _ _ _ z=>z) (aC aF aA)))
   (aD (bG (aS DP (lC (pv 1) T.bH T.eQ (dX T) (hr.mono (by omega)) T.fW .nil pass0) zM (nomark _)) (aG (cU throws1 rfl rfl T.bO T.bI.toXCls (aC aE aA))) aV)
   (aG (aQ (pv 2))))))),?_⟩
  and_intros
  rw[g9] at q qE;refine bB fun UG S6=>?_;wp_walk;by_cases US:x≠""/\Txt.endswith x "\n"=false
  ·rw[if_pos US] at qE;rw[if_neg US.1,US.2];wp_walk;exact qE rfl _ Kp.refl
  rw[if_neg US] at q qE
  suffices go:UG [some (.str x),none,none] H by
   split
   ·exact go
   ·next hx =>
    rw[show Txt.endswith x "\n"=true by
     cases e:Txt.endswith x "\n" with
     | true=>rfl
     | false=>exact absurd ⟨hx,e⟩ US]
    wp_walk;exact go
  refine S6 _ _ ?_;clear S6;obtain⟨rows,last,hs⟩:∃ rows last,Txt.split x "\n"=rows++[last]:=⟨_,_,(List.dropLast_concat_getLast (uV x "\n")).symm⟩;have UY:RL rows:=fun r hr=>by
   have:=xV 10 x r (by rw[<- gY.1,hs];exact List.mem_append_left _ hr);omega
  rw[hs,List.dropLast_concat] at q qE;refine bB fun Wq TK=>?_;wp_walk;refine⟨by decide +kernel,by omega,fun l1 h1=>?_⟩;rw[hs];have N1:=q0D (o:=.lst ((rows++[last]).map V.str)) h1;have e1:SM H l1 (.lst ((rows++[last]).map V.str)) l1=some (.lst ((rows++[last]).map V.str)):=aB;generalize SM H l1 (.lst ((rows++[last]).map V.str))=G1 at *;wp_walk using e1;refine fun l2 h2=>?_;rw[Dn V.str rows last];have N2:=N1.trans (q0D (o:=.lst (rows.map V.str)) h2);have e2:SM G1 l2 (.lst (rows.map V.str)) l2=some (.lst (rows.map V.str)):=aB;generalize SM G1 l2 (.lst (rows.map V.str))=G2 at *;refine fun rd dx fr fd nd=>⟨rd,dx,l2,rfl,aB,fun H3 e3 K3=>⟨rfl,?_⟩⟩;have W9:l2≠rd:=aX e2 fr;have nld:l2≠dx:=aX e2 fd;have e23:H3 l2=some (.lst (rows.map V.str)):=K3.at1 (by rw[aY W9,aY nld];exact e2) W9;have R3:fT t.aN H3 rd dx l2 rows 0 0:=⟨by rw[e3];rfl,e23⟩;have N3:Kp [] H H3:=fun c o ec nc=>by
   have Yr:=N2.at ec;have n1:=aX Yr fr;exact K3.at1 (by rw[aY n1,aY (aX Yr fd)];exact Yr) n1
  have N4:∀ {H4:Hp},Kp [rd] H3 H4->Kp [] H H4:=fun K4 c o ec nc=>K4.at1 (N3.at ec) (fun z=>by subst z;exact absurd (N2.at ec) (by rw[fr];intro z;cases z));refine TK _ _ ?_;clear TK N1 e1 N2 e2 e3 K3 W9 nld e23 N3;wp_walk using R3.ins;refine⟨rd,dx,l2,rows,0,0,0,rfl,R3,by decide,UY,by decide,fun b k' L' hb p us H4 i' h4 hU R4 Vn K4=>?_,fun hb H4 K4=>qE (by rw[List.drop_zero] at hb;rw[hb]) _ (N4 K4)⟩;rw[List.drop_zero] at hb;rw[hb] at q qE;wp_walk using R4.ins;refine⟨rd,dx,l2,rows,_,_,rfl,R4,?_⟩;cases L' with
  | nil =>
   rw[rL Vn];wp_walk;exact q b rfl p us H4 h4 hU (N4 K4)
  | cons l L =>
   rw[lP Vn];wp_walk;exact qE rfl _ (N4 K4)
theorem AR{t:Ad}(T:Tx K mg t):bL P w K mg base Tc 70 t.oU t.pD ["text"] (JB t.aJ):=by
 refine T.wU.ok fQ (fun vs H Q E h=>?_) (fun S0 A outer s H vs Q E hr h=>?_)
 ·obtain⟨x,rfl,_⟩:=h;rfl
 ·obtain⟨x,rfl,lx,q,qN⟩:=h;refine⟨_,(aD (aR (i:=1) fQ.nd rfl (Or.inl rfl) zM)
   (aD (aR (i:=2) fQ.nd rfl (Or.inl rfl) xQ)
   (aD (Jo (i:=1) (j:=3) (uE T) (hr.mono (by omega)) rfl T.zB T.nT.kp T.yF .nil (fun _=>(aC (pv 0) aA)) fQ.nd rfl (Or.inl rfl) rfl rfl T.tX T.bI.toXCls T.wB.toXCls (by simp) (fun _=>(aD (aR (i:=2) fQ.nd rfl (Or.inl rfl) (zK (cA (pA K rfl T.bI) rfl T.eF eP (aC (pv 3) (aC (cP (v:=.ref t.aJ) rfl T.bO rfl) aA))) (zN (cA (pA K rfl T.bI) rfl T.eF eP (aC (pv 3) (aC (zL (v:=.ty "ValueError") rfl T.lO vG rfl) aA))))))
   (aG (aR (i:=2) fQ.nd rfl (Or.inl rfl) (zK (pv 2) (zN (Gn (cA (pA K rfl T.bI) rfl T.eF eP (aC (pv 3) (aC (aL (aC (cP (v:=.ref t.bV) rfl T.AH rfl) (aC (cP (v:=.ref t.dP) rfl T.FD rfl) (aC (cP (v:=.ref t.gU) rfl T.IU rfl) (aC (cP (v:=.ref t.cB) rfl T.BB rfl) (aC (cP (v:=.ref t.dQ) rfl T.FE rfl) (aC (cP (v:=.ref t.fU) rfl T.IV rfl) (aC (cP (v:=.ref t.cL) rfl T.DH rfl) aA)))))))) aA)))))))))))
   (aG (aQ (aL (aC (pv 1) (aC (pv 2) aA)))))))),?_⟩
  and_intros
  wp_walk;refine⟨x,rfl,lx,fun b hb p us H1 h1 hU K1=>?_,fun hb H1 K1=>⟨rfl,fun e he=>?_⟩⟩
  ·wp_walk;exact fun a ha=>q b hb a p us _ aB ((q0D ha).at h1) (hU.kp (aH.new ha)) (K1.trans (Kp.new ha))
  ·have N1:=q0D (o:=vE e t.aJ) he;have e1:SM H1 e (vE e t.aJ) e=some (vE e t.aJ):=aB;replace N1:=K1.trans N1;generalize SM H1 e (vE e t.aJ)=G1 at *;wp_walk;refine⟨e,e1,.inl ⟨.inl rfl,?_⟩⟩;wp_walk;refine⟨e,e1,.inl ⟨.inr rfl,?_⟩⟩;wp_walk;refine fun p hp=>?_;have N2:=q0D (o:=.tup [.ref t.bV,.ref t.dP,.ref t.gU,.ref t.cB,.ref t.dQ,.ref t.fU,.ref t.cL]) hp;refine⟨e,N2.at e1,.inr ⟨p,_,rfl,aB,?_,?_⟩⟩
   ·have ne:∀ D:Addr,t.aJ≠D/\t.aI≠D->(Value.ref t.aJ::Value.ref t.aI::gT).contains (.ref D)=false:=fun D ⟨a,b⟩=>by
     simp only[List.contains_cons,List.contains_nil,Bool.or_eq_false_iff,beq_eq_false_iff_ne,ne_eq,Value.ref.injEq,reduceCtorEq,not_false_eq_true,and_true];exact⟨fun z=>a z.symm,fun z=>b z.symm⟩
    obtain⟨x1,x2,x3,x4,x5,x6,x7⟩:=T.ZN;intro c hc;simp only[List.mem_cons,List.not_mem_nil,or_false] at hc;rcases hc with rfl|rfl|rfl|rfl|rfl|rfl|rfl
    ·exact⟨_,rfl,T.Cm,ne _ x7⟩
    ·exact⟨_,rfl,T.JM,ne _ x5⟩
    ·exact⟨_,rfl,T.NX,ne _ x1⟩
    ·exact⟨_,rfl,T.D7,ne _ x4⟩
    ·exact⟨_,rfl,T.JN,ne _ x3⟩
    ·exact⟨_,rfl,T.NZ,ne _ x6⟩
    ·exact⟨_,rfl,T.Hf,ne _ x2⟩
   ·wp_walk;exact fun a ha=>qN hb a _ aB ((N1.trans N2).trans (Kp.new ha))
theorem A9{t:Ad}(T:Tx K mg t){n d:Nat}(hn:3<=n)(IH:bL P w K mg base Tc n t.jB t.jE ["saying"] (zU d)):bL P w K mg base Tc (n+1) t.jB t.jE ["saying"] (zU (d+1)):=by
  refine T.eI.ok qZ (fun vs H Q E h=>?_) (fun S0 A outer s H vs Q E hr h=>?_)
  · obtain⟨v,s,rfl,_⟩:=h;rfl
  · obtain⟨v,s,rfl,hS,hd,h6,hs,q⟩:=h;refine⟨_,(aD (bG (aS pP (bT cY (pv 0) aF (fun _ _=>rfl)) (aL (aC aE (aC aE aA))) (by with_unfolding_all rfl)) (aG (aQ (fP wM rfl T.Hh Bo (aC (bT cY (pv 0) aF (fun _ _=>rfl)) aA)))) aV)
      (aD (bG (aS eL (cA fI rfl T.wC kK (aC (pv 0) aA)) aF (nomark _)) (aG (aQ (bT cY (pv 0) aF (fun _ _=>rfl)))) aV)
      (aD (bG (aS eL (cA fI rfl T.wC kK (aC (pv 0) aA)) aF (nomark _)) (aG (aQ (aZ aU (aZ aU (bT cY (pv 0) aF (fun _ _=>rfl)) aE) (aK IH (hr.mono (by omega)) rfl T.fL T.eI.kp T.fG .nil pass0 (aC (bT cY (pv 0) aF (fun _ _=>rfl)) aA))))) aV)
      (aD (aR (i:=1) qZ.nd rfl (Or.inl rfl) (aK IH (hr.mono (by omega)) rfl T.fL T.eI.kp T.fG .nil pass0 (aC (bT cY (pv 0) aF (fun _ _=>rfl)) aA)))
      (aG (aQ (aZ aU (aZ aU (aZ aU (aZ aU (aZ aU (aZ aU aE (pv 1)) aE) (bT cY (pv 0) aF (fun _ _=>rfl))) aE) (aK IH (hr.mono (by omega)) rfl T.fL T.eI.kp T.fG .nil pass0 (aC (bT cY (pv 0) aF (fun _ _=>rfl)) aA))) aE))))))),?_⟩
    and_intros
    obtain⟨_,_,_,la,ln,lo,l1,lc⟩:=lens;cases hS with
    | num e =>
      wp_walk using e;refine fun p hp=>⟨rfl,flat2,?_⟩;have KG:=q0D (o:=.tup [.str "number",.str "name"]) hp;have e1:=KG.at e;generalize SM H p (.tup [.str "number",.str "name"])=G at *;wp_walk using e1,iV,String.reduceEq,decide_true,decide_false,Bool.or_false,Bool.true_or,Bool.or_true;exact⟨ilog hs.1.1 hs.1.2,q _ KG⟩
    | SR e =>
      wp_walk using e;refine fun p hp=>⟨rfl,flat2,?_⟩;have KG:=q0D (o:=.tup [.str "number",.str "name"]) hp;have e1:=KG.at e;generalize SM H p (.tup [.str "number",.str "name"])=G at *;wp_walk using e1,iV,String.reduceEq,decide_true,decide_false,Bool.or_false,Bool.true_or,Bool.or_true;exact q _ KG
    | name e =>
      wp_walk using e;refine fun p hp=>⟨rfl,flat2,?_⟩;have KG:=q0D (o:=.tup [.str "number",.str "name"]) hp;have e1:=KG.at e;generalize SM H p (.tup [.str "number",.str "name"])=G at *;wp_walk using e1,iV,String.reduceEq,decide_true,decide_false,Bool.or_false,Bool.true_or,Bool.or_true;exact q _ KG
    | arg e =>
      wp_walk using e;refine fun p hp=>⟨rfl,flat2,?_⟩;have KG:=q0D (o:=.tup [.str "number",.str "name"]) hp;have e1:=KG.at e;generalize SM H p (.tup [.str "number",.str "name"])=G at *;wp_walk using e1,iV,String.reduceEq,decide_true,decide_false,Bool.or_false,Bool.true_or,Bool.or_true;exact q _ KG
    | now e =>
      wp_walk using e;refine fun p hp=>⟨rfl,flat2,?_⟩;have KG:=q0D (o:=.tup [.str "number",.str "name"]) hp;have e1:=KG.at e;generalize SM H p (.tup [.str "number",.str "name"])=G at *;wp_walk using e1,iV,String.reduceEq,decide_true,decide_false,Bool.or_false,Bool.true_or,Bool.or_true;exact q _ KG
    | @Ti a v s1 e h1 =>
      wp_walk using e;refine fun p hp=>⟨rfl,flat2,?_⟩;have KG:=q0D (o:=.tup [.str "number",.str "name"]) hp;have e1:=KG.at e;generalize SM H p (.tup [.str "number",.str "name"])=G at *;wp_walk using e1,iV,String.reduceEq,decide_true,decide_false,Bool.or_false,Bool.true_or,Bool.or_true;simp only[Say.depth] at hd h6;have Uz:s1.sh:=⟨hs.1,hs.2⟩;have l2:=eT Uz (by omega);refine⟨by omega,v,s1,rfl,h1.kp (aH.nil KG),by omega,by omega,Uz,fun H2 K2=>?_⟩;wp_walk using bD;exact⟨by omega,q _ (KG.trans K2)⟩
    | @neg a v s1 e h1 =>
      wp_walk using e;refine fun p hp=>⟨rfl,flat2,?_⟩;have KG:=q0D (o:=.tup [.str "number",.str "name"]) hp;have e1:=KG.at e;generalize SM H p (.tup [.str "number",.str "name"])=G at *;wp_walk using e1,iV,String.reduceEq,decide_true,decide_false,Bool.or_false,Bool.true_or,Bool.or_true;simp only[Say.depth] at hd h6;have Uz:s1.sh:=⟨hs.1,hs.2⟩;have l2:=eT Uz (by omega);refine⟨by omega,v,s1,rfl,h1.kp (aH.nil KG),by omega,by omega,Uz,fun H2 K2=>?_⟩;wp_walk using bD;exact⟨by omega,q _ (KG.trans K2)⟩
    | @two a v u g s1 s2 e h1 h2 =>
      simp only[Say.depth] at hd h6;have Uz:s1.sh:=⟨hs.1.1,fun x hx=>hs.2 x (List.mem_append_left _ hx)⟩;have Uh:s2.sh:=⟨hs.1.2,fun x hx=>hs.2 x (List.mem_append_right _ hx)⟩;have l2:=eT Uz (by omega);have l3:=eT Uh (by omega);have lg:=g.len;cases g <;>
      ( simp only[Sg.s] at e lg
        wp_walk using e;refine fun p hp=>⟨rfl,flat2,?_⟩;have KG:=q0D (o:=.tup [.str "number",.str "name"]) hp;have e1:=KG.at e;generalize SM H p (.tup [.str "number",.str "name"])=G at *;wp_walk using e1,iV,String.reduceEq,decide_true,decide_false,Bool.or_false,Bool.true_or,Bool.or_true;refine⟨v,s1,rfl,h1.kp (aH.nil KG),by omega,by omega,Uz,fun H2 K2=>?_⟩;have e2:=K2.at e1;wp_walk using e2,bD;refine⟨by omega,by omega,by omega,by omega,u,s2,rfl,(h2.kp (aH.nil KG)).kp (aH.nil K2),by omega,by omega,Uh,fun H3 K3=>?_⟩;wp_walk using e2,bD;exact⟨by omega,by omega,q _ ((KG.trans K2).trans K3)⟩)
theorem gN{t:Ad}(T:Tx K mg t):∀ d,bL P w K mg base Tc (d+3) t.jB t.jE ["saying"] (zU d):=by
 intro d
 induction d with
 | zero=>exact⟨fun _ _ _ _ x=>by (obtain⟨_,s,_,_,h,_⟩:=x;exact absurd h (by have:=s.wN;omega)),fun _ _ _ _ _ _ _ _ _ _ _ _ _ x=>by (obtain⟨_,s,_,_,h,_⟩:=x;exact absurd h (by have:=s.wN;omega))⟩
 | succ d ih=>exact A9 T (by omega) ih
theorem BM{t:Ad}(T:Tx K mg t):bL P w K mg base Tc 14 t.sG t.sT ["one"] NA:=by
 refine T.Ar.ok eA (fun vs H Q E h=>?_) (fun S0 A outer s H vs Q E hr h=>?_)
 ·obtain⟨v,m,rfl,_⟩:=h;rfl
 ·obtain⟨v,m,rfl,hM,hm,q⟩:=h;refine⟨_,(aD (aR (i:=1) eA.nd rfl (Or.inl rfl) (bT cY (pv 0) aF (fun _ _=>rfl)))
   (aD (bG (aS pP (pv 1) (aL (aC aE (aC aE (aC aE (aC aE aA))))) (by with_unfolding_all rfl)) (aG (aQ (aZ aU (aZ aU (pv 1) aE) (aK (gN T 8) (hr.mono (by omega)) rfl T.fL T.eI.kp T.fG .nil pass0 (aC (bT cY (pv 0) aF (fun _ _=>rfl)) aA))))) aV)
   (aD (bG (aS eL (pv 1) aE (nomark _)) (aG (aQ (aZ aU (aZ aU (aZ aU (aZ aU (aZ aU aE (aK (gN T 8) (hr.mono (by omega)) rfl T.fL T.eI.kp T.fG .nil pass0 (aC (bT cY (pv 0) aF (fun _ _=>rfl)) aA))) aE) (bT cY (pv 0) aF (fun _ _=>rfl))) aE) (aK (gN T 8) (hr.mono (by omega)) rfl T.fL T.eI.kp T.fG .nil pass0 (aC (bT cY (pv 0) aF (fun _ _=>rfl)) aA))))) aV)
   (aD (bG (aS eL (pv 1) aE (nomark _)) (aG (aQ (aZ aU (aZ aU (bT cY (pv 0) aF (fun _ _=>rfl)) aE) (aK (gN T 8) (hr.mono (by omega)) rfl T.fL T.eI.kp T.fG .nil pass0 (aC (bT cY (pv 0) aF (fun _ _=>rfl)) aA))))) aV)
   (aD (aR (i:=2) eA.nd rfl (Or.inl rfl) (oJ Nw (pv 0) (rX aF) rW))
   (aD (bG (aS eL (pv 1) aE (nomark _)) (aG (aR (i:=2) eA.nd rfl (Or.inl rfl) (bT cY (pv 0) aF (fun _ _=>rfl)))) aV)
   (aD (aR (i:=3) eA.nd rfl (Or.inl rfl) (aZ aU (aZ aU (bT cY (pv 0) aF (fun _ _=>rfl)) aE) (pv 1)))
   (aD (pU PassesOwn.never rfl (Gr (pv 2)) (hV (i:=4) eA.nd rfl (Or.inl rfl)) (aG (bG (iG (cA wL rfl T.eF eP (aC (pv 4) (aC (zL (v:=.ty "tuple") rfl T.qM nN rfl) aA)))) (aG (aR (i:=3) eA.nd rfl (Or.inl rfl) (aZ aU (aZ aU (pv 3) aE) (aK (gN T 8) (hr.mono (by omega)) rfl T.fL T.eI.kp T.fG .nil pass0 (aC (pv 4) aA))))) (aG (aR (i:=3) eA.nd rfl (Or.inl rfl) (aZ aU (aZ aU (pv 3) aE) (pv 4)))))))
   (aG (aQ (pv 3))))))))))),?_⟩
  and_intros
  obtain⟨_,_,_,_,_,lo,l1,lc⟩:=lens;rcases hM.four hm with hn|⟨a,wo,u,r,s1,rfl,e,h1,Uy,hl,Uz,Uh,hh⟩
  rotate_left
  ·rw[hh] at q;clear hh hM hm;wp_walk using e;refine fun p hp=>⟨rfl,flat4,?_⟩;have KG:=q0D (o:=.tup [.str "if",.str "while",.str "drop",.str "end"]) hp;have e1:=KG.at e;generalize SM H p (.tup [.str "if",.str "while",.str "drop",.str "end"])=G at *;wp_walk using e1,Uy;have l2:=eT Uz Uh;refine⟨by omega,_,_,rfl,h1.kp (aH.nil KG),Uh,Uh,Uz,fun H2 K2=>?_⟩;wp_walk using bD;exact⟨by omega,q _ (KG.trans K2)⟩
  rcases hM.lop hm with UW|⟨a,wo,x,r,ys,rfl,e,hP0,hx,Uy,ns,nt,nw,hl,hcut,hr2,h4,hh⟩
  rotate_left
  ·have leq:=hlens.2.1;rw[hh] at q;clear hh hM hm hn;wp_walk using e;refine fun p hp=>⟨rfl,flat4,?_⟩;have KG:=q0D (o:=.tup [.str "if",.str "while",.str "drop",.str "end"]) hp;have e1:=KG.at e;generalize SM H p (.tup [.str "if",.str "while",.str "drop",.str "end"])=G at *;wp_walk using e1,Uy,ns,nt;refine⟨fun h=>absurd ((HT.Jx (r.length+1+1) 0 2).symm.trans h.1) (by omega),fun c hc=>?_⟩;rw[hcut];have KN:=q0D (o:=.tup r) hc;have Uc:=KG.trans KN;have e2:=KN.at e1;have eN:SM G c (.tup r) c=some (.tup r):=aB;have kk:aH H (SM G c (.tup r)):=aH.nil Uc;generalize SM G c (.tup r)=G2 at *;have hP:cR G2 r ys:=hP0.kp kk;have eC:=eN;have n1:x.length<=20:=hx.len;wp_walk using e2,bD,nw;refine⟨by omega,by omega,?_⟩;refine⟨⟨_,fS.of eC⟩,?_⟩;have all:=hP.all;have hl:=hP.len;have lT:((x++" = "++wo)).length<=100:=by
    simp only[bD];omega
   have tl:(ys).take (r:List V).length=ys:=by rw[<- hl,List.take_length]
   refine yR (xs:=r) (fun i σ H'=>∃ v:Option V,σ=[some (.ref a),some (.str wo),some (.ref c),some (.str (glue (x++" = "++wo) ((ys).take i))),v]/\Kp [] G2 H') ⟨none,rfl,Kp.refl⟩ (fun i σ H' _ ⟨_,_,k⟩=>fS.of (k.at eC)) ?_ ?_
   ·rintro i z σ H' hi ⟨v,rfl,K'⟩;obtain⟨y',Zt,pt⟩:=hP.at hi;have e5:=qL Zt;have l5:=tQ (x++" = "++wo) ((ys).take i) fun z hz=>all z (List.mem_of_mem_take hz);have l6:=pt.len;have l7:((ys).take i).length<=6:=by rw[List.length_take];omega
    rcases pt.kp (aH.nil K') with⟨rfl,_⟩|⟨s',Vt,VZ,rfl⟩
    ·wp_walk using bD;exact⟨by omega,by omega,_,by rw[e5,lU],K'⟩
    ·obtain⟨a',xs',rfl,e'⟩:=Vt.tup;wp_walk using e',bD;refine⟨by omega,_,s',rfl,Vt,VZ.2,VZ.2,VZ.1,fun H2 K2=>?_⟩;wp_walk using bD;exact⟨by omega,_,by rw[e5,lU],K'.trans K2⟩
   ·rintro σ H' ⟨v,rfl,K'⟩;rw[tl];wp_walk;exact q H' (Uc.trans K')
  obtain⟨W3,leq,W2,W4,W1,W5,VO,VN,lend,W6,lif⟩:=hlens;clear W2 W4 W1 VO VN lend W6 lif;cases hM with
  | order=>exact nomatch (show true=false from UW)
  | child=>exact nomatch (show true=false from UW)
  | SU=>exact nomatch (show true=false from UW)
  | SX=>exact nomatch (show true=false from UW)
  | drop=>exact nomatch (show true=false from hn)
  | fin=>exact nomatch (show true=false from hn)
  | S1=>exact nomatch (show true=false from hn)
  | iff=>exact nomatch (show true=false from hn)
  | @wait a p1 x vs ss e f h1 =>
   wp_walk using e;refine fun p hp=>⟨rfl,flat4,?_⟩;have KG:=q0D (o:=.tup [.str "if",.str "while",.str "drop",.str "end"]) hp;have e1:=KG.at e;generalize SM H p (.tup [.str "if",.str "while",.str "drop",.str "end"])=G at *;wp_walk using e1,tR,String.reduceEq,decide_true,decide_false,Bool.or_false,Bool.true_or,Bool.or_true,Bool.false_or;refine⟨by decide,fun c hc=>?_⟩;rw[show kM [.str "wait",.str x,.ref p1] (some 2) none=[.ref p1] from rfl];have KN:=q0D (o:=.tup [.ref p1]) hc;have Uc:=KG.trans KN;have e2:=KN.at e1;have eN:SM G c (.tup [.ref p1]) c=some (.tup [.ref p1]):=aB;have kk:aH H (SM G c (.tup [.ref p1])):=aH.nil Uc;generalize SM G c (.tup [.ref p1])=G2 at *;have hP:cR G2 vs (ss.map wd):=B3 (h1.kp kk) hm.2.2;have eC:=Uc.at f;have h4:(ss.map wd).length<=6:=by simpa using hm.2.1.2
   have n1:x.length<=20:=hm.1.len;wp_walk using e2,bD;refine⟨by omega,by omega,?_⟩;refine⟨⟨_,fS.of eC⟩,?_⟩;have all:=hP.all;have hl:=hP.len;have lT:((x++" = "++"wait")).length<=100:=by
    simp only[bD];omega
   have tl:((ss.map wd)).take (vs:List V).length=(ss.map wd):=by rw[<- hl,List.take_length]
   refine yR (xs:=vs) (fun i σ H'=>∃ v:Option V,σ=[some (.ref a),some (.str "wait"),some (.ref p1),some (.str (glue (x++" = "++"wait") (((ss.map wd)).take i))),v]/\Kp [] G2 H') ⟨none,rfl,Kp.refl⟩ (fun i σ H' _ ⟨_,_,k⟩=>fS.of (k.at eC)) ?_ ?_
   ·rintro i z σ H' hi ⟨v,rfl,K'⟩;obtain⟨y',Zt,pt⟩:=hP.at hi;have e5:=qL Zt;have l5:=tQ (x++" = "++"wait") (((ss.map wd)).take i) fun z hz=>all z (List.mem_of_mem_take hz);have l6:=pt.len;have l7:(((ss.map wd)).take i).length<=6:=by rw[List.length_take];omega
    rcases pt.kp (aH.nil K') with⟨rfl,_⟩|⟨s',Vt,VZ,rfl⟩
    ·wp_walk using bD;exact⟨by omega,by omega,_,by rw[e5,lU],K'⟩
    ·obtain⟨a',xs',rfl,e'⟩:=Vt.tup;wp_walk using e',bD;refine⟨by omega,_,s',rfl,Vt,VZ.2,VZ.2,VZ.1,fun H2 K2=>?_⟩;wp_walk using bD;exact⟨by omega,_,by rw[e5,lU],K'.trans K2⟩
   ·rintro σ H' ⟨v,rfl,K'⟩;rw[tl];wp_walk;exact q H' (Uc.trans K')
  | @set a x v s1 e h1 =>
   wp_walk using e;refine fun p hp=>⟨rfl,flat4,?_⟩;have KG:=q0D (o:=.tup [.str "if",.str "while",.str "drop",.str "end"]) hp;have e1:=KG.at e;generalize SM H p (.tup [.str "if",.str "while",.str "drop",.str "end"])=G at *;wp_walk using e1,tR,String.reduceEq,decide_true,decide_false,Bool.or_false,Bool.true_or,Bool.or_true,Bool.false_or;have l2:=eT hm.2.1 hm.2.2;have n1:x.length<=20:=hm.1.len;refine⟨by omega,_,_,rfl,h1.kp (aH.nil KG),hm.2.2,hm.2.2,hm.2.1,fun H2 K2=>?_⟩;wp_walk using bD;exact⟨by omega,q _ (KG.trans K2)⟩
  | @send a k v u s1 s2 e h1 h2 =>
   wp_walk using e;refine fun p hp=>⟨rfl,flat4,?_⟩;have KG:=q0D (o:=.tup [.str "if",.str "while",.str "drop",.str "end"]) hp;have e1:=KG.at e;generalize SM H p (.tup [.str "if",.str "while",.str "drop",.str "end"])=G at *;wp_walk using e1,tR,String.reduceEq,decide_true,decide_false,Bool.or_false,Bool.true_or,Bool.or_true,Bool.false_or;have l2:=eT hm.1.1 hm.1.2;have l3:=eT hm.2.2.1 hm.2.2.2;have n1:k.length<=20:=hm.2.1.len;refine⟨_,_,rfl,h1.kp (aH.nil KG),hm.1.2,hm.1.2,hm.1.1,fun H2 K2=>?_⟩;have e2:=K2.at e1;wp_walk using e2,bD;refine⟨by omega,by omega,by omega,by omega,_,_,rfl,(h2.kp (aH.nil KG)).kp (aH.nil K2),hm.2.2.2,hm.2.2.2,hm.2.2.1,fun H3 K3=>?_⟩;wp_walk using bD;exact⟨by omega,q _ ((KG.trans K2).trans K3)⟩
theorem Cc{t:Ad}(T:Tx K mg t){n d:Nat}(hn:14<=n)(IH:bL P w K mg base Tc n t.kG t.kO ["program"] (Cb d)):bL P w K mg base Tc (n+1) t.kG t.kO ["program"] (Cb (d+1)):=by
 refine T.nS.ok iK (fun vs H Q E h=>?_) (fun S0 A outer s H vs Q E hr h=>?_)
 ·obtain⟨p,us,b,rfl,_⟩:=h;rfl
 ·obtain⟨p,us,b,rfl,hp,hB,hw,hd,hz,q⟩:=h;refine⟨_,(aD (aR (i:=1) iK.nd rfl (Or.inl rfl) (gC aA))
   (aD (pU PassesOwn.never rfl (Gr (pv 0)) (hV (i:=2) iK.nd rfl (Or.inl rfl)) (aD (jU (rT (pv 1) (aK (BM T) (hr.mono (by omega)) rfl T.FK T.Ar.kp T.Eg .nil pass0 (aC (pv 2) aA))))
   (aG (bG (aS pP (bT cY (pv 2) aF (fun _ _=>rfl)) (aL (aC aE (aC aE aA))) (by with_unfolding_all rfl)) (aD (aR (i:=1) iK.nd rfl (Or.inl rfl) (aZ aU (pv 1) (aK IH (hr.mono (by omega)) rfl T.t9 T.nS.kp T.sP .nil pass0 (aC (bT cY (pv 2) aF (fun _ _=>rfl)) aA))))
   (aD (bG (PW.pt (zQ (aS eL (cA fI rfl T.wC kK (aC (pv 2) aA)) aF (nomark _)) (r8 (aS (Jk (Nat.lt_of_succ_lt (PU hr))) (bT cY (pv 2) aF (fun _ _=>rfl)) (aL aA) (nomark _))))) (aG (aR (i:=1) iK.nd rfl (Or.inl rfl) (aZ aU (aZ aU (pv 1) (gC (aC aE aA))) (aK IH (hr.mono (by omega)) rfl T.t9 T.nS.kp T.sP .nil pass0 (aC (bT cY (pv 2) aF (fun _ _=>rfl)) aA))))) aV)
   (aG (jU (rT (pv 1) aE))))) aV))))
   (aG (aQ (pv 1))))),?_⟩
  and_intros
  wp_walk;refine fun l0 Zf=>⟨⟨_,fS.of ((q0D Zf).at hp)⟩,?_⟩;have hl:=hB.len;obtain⟨Pv,Tp⟩:∃ Pv:Nat->St->Hp->Prop,∀ i σ G,Pv i σ G = ∃(v:Option V) (l:Addr),σ=[some (.ref p),some (.ref l),v]/\H l=none/\Kp [] H G/\G l=some (.lst ((aM (b.take i)).map V.str)):=⟨_,fun _ _ _=>rfl⟩;refine yR (xs:=us) Pv ?_ ?_ ?_ ?_
  ·rw[Tp];exact⟨none,l0,rfl,Zf,Kp.new Zf,aB⟩
  ·intro i σ G _ hG;rw[Tp] at hG;obtain⟨_,_,_,_,k,_⟩:=hG;exact fS.of (k.at hp)
  ·intro i y σ G hi hG;rw[Tp] at hG;obtain⟨v,l,rfl,fl,KG,el⟩:=hG;obtain⟨m,hm,hM⟩:=hB.at hi;obtain⟨m1,m2,m3⟩:=P6 hm;have XN:=m1 hw;have e5:=QN hm;have back:∀(l':Addr) (w:Option V) (G':Hp),H l'=none->Kp [] H G'->G' l'=some (.lst ((aM (b.take i)++m.rows).map V.str))->Pv (i+1) [some (.ref p),some (.ref l'),w] G':=fun l' w G' h1 h2 h3=>by
    rw[Tp];refine⟨_,_,rfl,h1,h2,?_⟩;rw[e5,xT,h3];simp[aM]
   clear Tp;wp_walk using el;refine⟨y,m,rfl,hM.kp (aH.nil KG),(Stm.bZ XN),fun H1 K1=>?_⟩;have el1:=K1.at el;have ll:=eK (b.take i);have lm:=m.A3;wp_walk using el1,List.length_map;refine⟨by omega,?_⟩;have TC:Kp [] H (SM H1 l (.lst ((aM (b.take i)).map V.str++[.str m.hd]))):=(KG.trans K1).Ju fl;have UP:SM H1 l (.lst ((aM (b.take i)).map V.str++[.str m.hd])) l=some (.lst ((aM (b.take i)++[m.hd]).map V.str)):=by rw[aB];simp
   generalize SM H1 l (.lst ((aM (b.take i)).map V.str++[.str m.hd]))=G1 at *;cases hM with
   | set e _ =>
    have e1:=TC.at e;wp_walk using e1;refine fun c hc=>⟨rfl,flat2,?_⟩;wp_walk using iV,String.reduceEq,decide_true,decide_false,Bool.or_false,Bool.true_or,Bool.or_true,Bool.false_or;exact back l _ _ fl (TC.trans (Kp.new hc)) ((q0D hc).at UP)
   | order e _ =>
    have e1:=TC.at e;wp_walk using e1;refine fun c hc=>⟨rfl,flat2,?_⟩;wp_walk using iV,String.reduceEq,decide_true,decide_false,Bool.or_false,Bool.true_or,Bool.or_true,Bool.false_or;exact back l _ _ fl (TC.trans (Kp.new hc)) ((q0D hc).at UP)
   | SU e _ =>
    have e1:=TC.at e;wp_walk using e1;refine fun c hc=>⟨rfl,flat2,?_⟩;wp_walk using iV,String.reduceEq,decide_true,decide_false,Bool.or_false,Bool.true_or,Bool.or_true,Bool.false_or;exact back l _ _ fl (TC.trans (Kp.new hc)) ((q0D hc).at UP)
   | child e _ =>
    have e1:=TC.at e;wp_walk using e1;refine fun c hc=>⟨rfl,flat2,?_⟩;wp_walk using iV,String.reduceEq,decide_true,decide_false,Bool.or_false,Bool.true_or,Bool.or_true,Bool.false_or;exact back l _ _ fl (TC.trans (Kp.new hc)) ((q0D hc).at UP)
   | send e _ _ =>
    have e1:=TC.at e;wp_walk using e1;refine fun c hc=>⟨rfl,flat2,?_⟩;wp_walk using iV,String.reduceEq,decide_true,decide_false,Bool.or_false,Bool.true_or,Bool.or_true,Bool.false_or;exact back l _ _ fl (TC.trans (Kp.new hc)) ((q0D hc).at UP)
   | drop e _ =>
    have e1:=TC.at e;wp_walk using e1;refine fun c hc=>⟨rfl,flat2,?_⟩;wp_walk using iV,String.reduceEq,decide_true,decide_false,Bool.or_false,Bool.true_or,Bool.or_true,Bool.false_or;exact back l _ _ fl (TC.trans (Kp.new hc)) ((q0D hc).at UP)
   | wait e _ _ =>
    have e1:=TC.at e;wp_walk using e1;refine fun c hc=>⟨rfl,flat2,?_⟩;wp_walk using iV,String.reduceEq,decide_true,decide_false,Bool.or_false,Bool.true_or,Bool.or_true,Bool.false_or;exact back l _ _ fl (TC.trans (Kp.new hc)) ((q0D hc).at UP)
   | SX e =>
    have e1:=TC.at e;wp_walk using e1;refine fun c hc=>⟨rfl,flat2,?_⟩;wp_walk using iV,String.reduceEq,decide_true,decide_false,Bool.or_false,Bool.true_or,Bool.or_true,Bool.false_or;exact back l _ _ fl (TC.trans (Kp.new hc)) ((q0D hc).at UP)
   | fin e _ =>
    have e1:=TC.at e;wp_walk using e1;refine fun c hc=>⟨rfl,flat2,?_⟩;wp_walk using iV,String.reduceEq,decide_true,decide_false,Bool.or_false,Bool.true_or,Bool.or_true,Bool.false_or;exact back l _ _ fl (TC.trans (Kp.new hc)) ((q0D hc).at UP)
   | @S1 a p1 v1 s1 vs bb e h1 f hb =>
    have e1:=TC.at e;wp_walk using e1;refine fun c hc=>⟨rfl,flat2,?_⟩;have KN:=q0D (o:=.tup [.str "if",.str "while"]) hc;have Uc:=TC.trans KN;have e2:=KN.at e1;have Ys:=KN.at UP;generalize SM G1 c (.tup [.str "if",.str "while"])=G2 at *;wp_walk using e2,iV,String.reduceEq,decide_true,decide_false,Bool.or_false,Bool.true_or,Bool.or_true,Bool.false_or;have d1:fJ bb < d:=by simp only[Stm.dp] at m2;omega
    simp only[Stm.sz] at m3 lm;have z1:=eK bb;refine⟨p1,vs,bb,rfl,Uc.at f,hb.kp (aH.nil Uc),XN.2,d1,by omega,fun l2 H3 f3 K3 e3=>?_⟩;have Yt:=K3.at Ys;have e4:=K3.at e2;wp_walk using Yt,e3,e4,List.length_map,List.length_append;refine⟨by omega,fun c2 Vo=>?_⟩;have WC:=(Uc.trans K3).Ae Vo;have Wy:=q0D (o:=.lst ((aM (b.take i)++[(Stm.S1 s1 bb).hd]).map V.str++(aM bb).map V.str)) Vo;have X8:=(Uc.trans K3).trans Wy;have e6:=Wy.at e4;have Uw:SM H3 c2 (.lst ((aM (b.take i)++[(Stm.S1 s1 bb).hd]).map V.str++(aM bb).map V.str)) c2=some (.lst (((aM (b.take i)++[(Stm.S1 s1 bb).hd])++aM bb).map V.str)):=by rw[aB,<- List.map_append]
    generalize SM H3 c2 (.lst ((aM (b.take i)++[(Stm.S1 s1 bb).hd]).map V.str++(aM bb).map V.str))=H5 at *;wp_walk using e6,Uw,List.length_map,List.length_append;exact⟨by omega,back c2 _ _ WC (X8.Ju WC) (by rw[aB];simp[Stm.rows,Stm.hd])⟩
   | @iff a p1 q1 v1 s1 vs ws bb oo e h1 f hb f2 hb2 =>
    have e1:=TC.at e;wp_walk using e1;refine fun c hc=>⟨rfl,flat2,?_⟩;have KN:=q0D (o:=.tup [.str "if",.str "while"]) hc;have Uc:=TC.trans KN;have e2:=KN.at e1;have Ys:=KN.at UP;generalize SM G1 c (.tup [.str "if",.str "while"])=G2 at *;wp_walk using e2,iV,String.reduceEq,decide_true,decide_false,Bool.or_false,Bool.true_or,Bool.or_true,Bool.false_or;have d1:fJ bb < d:=by simp only[Stm.dp] at m2;omega
    simp only[Stm.sz] at m3 lm;have z1:=eK bb;refine⟨p1,vs,bb,rfl,Uc.at f,hb.kp (aH.nil Uc),XN.2.1,d1,by omega,fun l2 H3 f3 K3 e3=>?_⟩;have Yt:=K3.at Ys;have e4:=K3.at e2;wp_walk using Yt,e3,e4,List.length_map,List.length_append;refine⟨by omega,fun c2 Vo=>?_⟩;have WC:=(Uc.trans K3).Ae Vo;have Wy:=q0D (o:=.lst ((aM (b.take i)++[(Stm.iff s1 bb oo).hd]).map V.str++(aM bb).map V.str)) Vo;have X8:=(Uc.trans K3).trans Wy;have e6:=Wy.at e4;have Uw:SM H3 c2 (.lst ((aM (b.take i)++[(Stm.iff s1 bb oo).hd]).map V.str++(aM bb).map V.str)) c2=some (.lst (((aM (b.take i)++[(Stm.iff s1 bb oo).hd])++aM bb).map V.str)):=by rw[aB,<- List.map_append]
    generalize SM H3 c2 (.lst ((aM (b.take i)++[(Stm.iff s1 bb oo).hd]).map V.str++(aM bb).map V.str))=H5 at *;wp_walk using e6,Uw,List.length_map,List.length_append;refine fun c4 hc4=>?_;have Ya:=q0D (o:=.tup []) hc4;have X9:=X8.trans Ya;have e7:=Ya.at e6;have Vf:=Ya.at Uw;have eq7:=X9.at f2;have e0:SM H5 c4 (.tup []) c4=some (.tup []):=aB;generalize SM H5 c4 (.tup [])=H6 at *;wp_walk using e7,eq7,e0;have d2:fJ oo < d:=by simp only[Stm.dp] at m2;omega
    have z2:=eK oo;cases hb2 with
    | nil =>
     wp_walk using Vf,List.isEmpty_nil,List.length_map,List.length_append;exact⟨by omega,back c2 _ _ WC (X9.Ju WC) (by rw[aB];simp[Stm.rows,Stm.hd])⟩
    | @cons v5 vs5 x5 X3 ha hbs =>
     wp_walk using Vf,List.isEmpty_cons;refine fun c5 hc5=>?_;have Yb:=q0D (o:=.lst [.str "else"]) hc5;have XD:=Yb.at Vf;have e8:=Yb.at e7;wp_walk using XD,e8,List.length_map,List.length_append;refine⟨by omega,fun c6 Y7=>?_⟩;have KN6:=q0D (o:=.lst (((aM (b.take i)++[(Stm.iff s1 bb (x5::X3)).hd])++aM bb).map V.str++[.str "else"])) Y7;have Xy:=(X9.trans Yb).trans KN6;have e9:=KN6.at e8;have ec6:SM (SM H6 c5 (.lst [.str "else"])) c6 (.lst (((aM (b.take i)++[(Stm.iff s1 bb (x5::X3)).hd])++aM bb).map V.str++[.str "else"])) c6=some (.lst ((((aM (b.take i)++[(Stm.iff s1 bb (x5::X3)).hd])++aM bb)++[("else":Str)]).map V.str)):=by rw[aB];simp
     generalize SM (SM H6 c5 (.lst [.str "else"])) c6 (.lst (((aM (b.take i)++[(Stm.iff s1 bb (x5::X3)).hd])++aM bb).map V.str++[.str "else"]))=H7 at *;wp_walk using e9;refine⟨q1,_,_,rfl,Xy.at f2,(aW.cons ha hbs).kp (aH.nil Xy),XN.2.2,d2,by omega,fun l7 H8 f8 K8 e10=>?_⟩;have ec7:=K8.at ec6;wp_walk using ec7,e10,List.length_map,List.length_append;refine⟨by omega,fun c9 hc9=>?_⟩;have fc9:=(Xy.trans K8).Ae hc9;wp_walk using aB,List.length_map,List.length_append;exact⟨by omega,back c9 _ _ fc9 (((Xy.trans K8).trans (Kp.new hc9)).Ju fc9) (by rw[aB];simp[Stm.rows,Stm.hd])⟩
  ·intro σ G hG;rw[Tp] at hG;obtain⟨v,l,rfl,fl,KG,el⟩:=hG;rw[<- hl,List.take_length] at el;wp_walk;exact q l G fl KG el
theorem BQ{t:Ad}(T:Tx K mg t):∀ d,bL P w K mg base Tc (d+14) t.kG t.kO ["program"] (Cb d):=by
 intro d
 induction d with
 | zero=>exact⟨fun _ _ _ _ x=>by (obtain⟨_,_,_,_,_,_,_,h,_⟩:=x;exact absurd h (by omega)),fun _ _ _ _ _ _ _ _ _ _ _ _ _ x=>by (obtain⟨_,_,_,_,_,_,_,h,_⟩:=x;exact absurd h (by omega))⟩
 | succ d ih=>exact Cc T (by omega) ih
theorem BS{t:Ad}(T:Tx K mg t):bL P w K mg base Tc 26 t.sN t.sZ ["program"] JF:=by
 refine T.Ax.ok B9 (fun vs H Q E h=>?_) (fun S0 A outer s H vs Q E hr h=>?_)
 ·obtain⟨p,us,b,rfl,_⟩:=h;rfl
 ·obtain⟨p,us,b,rfl,hp,hB,hw,hd,hz,q⟩:=h;refine⟨_,(aG (aQ (AX PySem.F.plainAttrs_str PySem.F.slot_str_join PySem.F.type_str_join IZ aE (aC (rV (cl:=[]) (fr:=[]) (N:=["line"]) rfl (fun _ _ h=>h) (gG.uC rfl rfl rfl rfl) (zO (aK (BQ T 8) (hr.mono (by omega)) rfl T.t9 T.nS.kp T.sP .nil pass0 (aC (pv 0) aA))) (fun C s H ex pn=>⟨rZ,aZ aU (pv 0) aE⟩)) aA)))),?_⟩
  and_intros
  wp_walk;refine⟨p,us,b,rfl,hp,hB,hw,by omega,by omega,fun l G fl KG el=>?_⟩;have ll:=eK b;have sm:=gQ hw;wp_walk;refine⟨⟨_,dS.of el⟩,?_⟩;refine IQ (ys:=(aM b).map V.str) (fun j xs G'=>xs=(((aM b).take j).map fun r:Str=>r++"\n").map V.str/\Kp [] G G') ⟨rfl,Kp.refl⟩ ?_ ?_ ?_ ?_
  ·rintro j xs G' ⟨rfl,_⟩;simp only[List.length_map,List.length_take];omega
  ·rintro j xs G' ⟨_,k⟩;exact dS.of (k.at el)
  ·rintro j y xs G' _ hj ⟨rfl,k⟩;obtain⟨r,hr,rfl⟩:∃ r,(aM b)[j]?=some r/\V.str r=y:=by
    rw[List.getElem?_map] at hj;exact Option.map_eq_some_iff.mp hj
   have e5:=qL hr;have lr:=sm r (List.mem_of_getElem? hr);have ln:=BJ.1;wp_walk using bE,Option.join_some;refine⟨by omega,?_,k⟩;rw[e5];simp
  ·rintro xs G' ⟨rfl,k⟩ l2 Zg;simp only[List.length_map,List.take_length];wp_walk;have sb:((((aM b).map fun r:Str=>r++"\n")).map fun z=>z.length).sum<=50001 * ((aM b).map fun r:Str=>r++"\n").length:=xY fun y hy=>by
    obtain⟨r,hr,rfl⟩:=List.mem_map.mp hy;have:=sm r hr;simp only[bD,BJ.1];omega
   simp only[List.length_map] at sb;simp only[BJ.2,List.length_map,Nat.mul_zero,Nat.add_zero];exact⟨by omega,q _ ((KG.trans k).trans (Kp.new Zg))⟩
theorem AS{t:Ad}(T:Tx K mg t):bL P w K mg base Tc 80 t.oV t.pE ["case"] JE:=by
 refine T.wV.ok lJ (fun vs H Q E h=>?_) (fun S0 A outer s H vs Q E hr h=>?_)
 ·obtain⟨c,p,us,b,ok,rfl,_⟩:=h;rfl
 ·obtain⟨c,p,us,b,ok,rfl,hc,hp,hU,gd,q⟩:=h;refine⟨_,(aD (B5 (aK (AR T) (hr.mono (by omega)) rfl T.DJ T.wU.kp T.Dd .nil pass0 (aC (aK (BS T) (hr.mono (by omega)) rfl T.FQ T.Ax.kp T.El .nil pass0 (aC (bT cY (pv 0) aF (fun _ _=>rfl)) aA)) aA)) (Nf rfl (AY (hV (i:=1) lJ.nd rfl (Or.inl rfl)) (AY (hV (i:=2) lJ.nd rfl (Or.inl rfl)) Jn))))
   (aD (bG (iF (iG (bT cY (pv 0) aF (fun _ _=>rfl)))) (aG (aQ (pv 2))) aV)
   (aG (aQ (zK (Gn (pv 2)) (zN (gK (Ge 20 (PR hr (by decide))) (pv 1) (bT cY (pv 0) aF (fun _ _=>rfl)) (nomark _)))))))),?_⟩
  and_intros
  refine bB fun UG S6=>?_;wp_walk using hc;refine⟨p,us,b,rfl,hp,hU,gd.wf,gd.dp,by have:=gd.sz;omega,fun H1 K1=>?_⟩;wp_walk;have lt:(eE b).length<=8000000:=by
   have:=jJ gd.wf;have:=gd.sz;unfold eE;rw[DF];omega
  refine⟨eE b,rfl,lt,fun b' hb t1 p2 u2 H2 h2 h3 hU2 K2=>?_,fun hb t1 H2 h2 K2=>?_⟩
  ·cases ok with
   | false=>rw[gd.no rfl] at hb;cases hb
   | true =>
    obtain⟨w1,w2,w3⟩:=gd.yes rfl;rw[xO w1 w2 w3] at hb;cases hb;wp_walk;refine⟨_,fS.of h2,rfl,?_⟩;wp_walk;refine S6 _ _ ?_;clear S6;have KK:=K1.trans K2;wp_walk using KK.at hc;refine⟨true,Gu h3 (KK.at hp) hU2 (hU.kp (aH.nil KK)) w1 w2,?_⟩;exact q _ KK
  ·cases ok with
   | true =>
    obtain⟨w1,w2,w3⟩:=gd.yes rfl;rw[xO w1 w2 w3] at hb;cases hb
   | false =>
    wp_walk;refine⟨_,fS.of h2,rfl,?_⟩;wp_walk;refine S6 _ _ ?_;clear S6;have KK:=K1.trans K2;wp_walk using KK.at hc;exact q _ KK
theorem M9{t:Ad}(T:Tx K mg t):bL P w K mg base Tc 100 t.KL t.Lb ["script"] (CY K):=by
 refine T.R0.ok zS (fun vs H Q E h=>?_) (fun S0 A outer s H vs Q E hr h=>?_)
 ·obtain⟨a,ns,rfl,_⟩:=h;rfl
 ·obtain⟨a,ns,rfl,hS,h63,q⟩:=h;refine⟨_,(aD (pU PassesOwn.never rfl (zO (aZ aU (gC (aC aF (aC aF aA))) (oJ CU (pv 0) rW (rX aF)))) (hV (i:=1) zS.nd rfl (Or.inl rfl)) (aD (aR (i:=2) zS.nd rfl (Or.inl rfl) (aK (zC T) (hr.mono (by omega)) rfl T.BF T.tK.kp T.Bl .nil pass0 (aC (pv 1) aA)))
   (aG (pU PassesOwn.never rfl (zO (gC (aC (aK (BO T) (hr.mono (by omega)) rfl T.FN T.Au.kp T.Ei .nil pass0 (aC (pv 2) aA)) (aC (aK (BP T) (hr.mono (by omega)) rfl T.FO T.Av.kp T.Ej .nil pass0 (aC (pv 2) aA)) (aC (aK (BN T) (hr.mono (by omega)) rfl T.FL T.As.kp T.Eh .nil pass0 (aC (pv 2) aA)) (aC (aK (zD T) (hr.mono (by omega)) rfl T.BG T.tL.kp T.Bm .nil pass0 (aC (pv 2) aA)) (aC (aK (DN T) (hr.mono (by omega)) rfl T.IY T.CA.kp T.Hu .nil pass0 (aC (pv 2) aA)) aA))))))) (hV (i:=3) zS.nd rfl (Or.inl rfl)) (aG (bG (iF (iG (aK (AS T) (hr.mono (by omega)) rfl T.DK T.wV.kp T.De .nil pass0 (aC (pv 3) aA)))) (aG (aQ xQ)) aV))))))
   (aG (aQ xQ))),?_⟩
  and_intros
  wp_walk;refine fun p1 h1=>⟨_,(Kp.new h1).same.seq hS,fun p2 h2=>?_⟩;obtain⟨ms,em,lm⟩:=EH ns none (some 12);rw[em] at *;have V9:=aX aB h2;wp_walk using aY V9,List.length_map;refine⟨by omega,fun p3 h3=>⟨⟨_,dS.of aB⟩,?_⟩⟩;obtain⟨Pv,Tp⟩:∃ Pv:Nat->St->Hp->Prop,∀ i σ G,Pv i σ G = ∃(v1 v2 v3:Option V),σ=[some (.ref a),v1,v2,v3]/\G p3=some (.lst ((0::1::ms).map V.int)):=⟨_,fun _ _ _=>rfl⟩;refine Dv (xs:=(0::1::ms).map V.int) Pv ?_ ?_ ?_ ?_
  ·rw[Tp];exact⟨none,none,none,rfl,aB⟩
  ·intro i σ G _ hG;rw[Tp] at hG;obtain⟨_,_,_,_,e⟩:=hG;exact dS.of e
  ·intro D' i y σ G hn hi hG;rw[Tp] at hG;obtain⟨v1,v2,v3,rfl,eG⟩:=hG;obtain⟨z,rfl⟩:=II hi;have back:∀(w1 w2 w3:Option V) (G':Hp),G' p3=some (.lst ((0::1::ms).map V.int))->D'.nx [some (.ref a),w1,w2,w3] G':=fun w1 w2 w3 G' e=>by
    rw[hn,Tp];exact⟨_,_,_,rfl,e⟩
   clear Tp;refine EG (bB fun UG S6=>?_);wp_walk;refine⟨z,rfl,fun r H1 nr K1 R1=>?_⟩;have W7:p3≠r:=aX eG nr;replace eG:=K1.at eG;clear K1 nr;refine S6 _ _ ?_;clear S6;wp_walk;refine⟨r,rfl,R1,fun c1 q1 u1 b1 o1 HA1 Ve eq1 U1 g1 Yj K2=>?_⟩;replace eG:=K2.at1 eG W7;clear K2 R1;wp_walk;refine⟨r,rfl,Yj,fun c2 q2 u2 b2 o2 HA2 Uw eq2 U2 g2 Yk K3=>?_⟩;have T2:aH HA1 HA2:=aH.row K3 Yj;replace eG:=K3.at1 eG W7;replace Ve:=T2 _ _ Ve;replace eq1:=T2 _ _ eq1;replace U1:=U1.kp T2;clear Yj K3 T2;wp_walk;refine⟨r,rfl,Yk,fun c3 q3 u3 b3 o3 HA3 Vf eq3 U3 g3 Yl K3=>?_⟩;have T3:aH HA2 HA3:=aH.row K3 Yk;replace eG:=K3.at1 eG W7;replace Ve:=T3 _ _ Ve;replace eq1:=T3 _ _ eq1;replace U1:=U1.kp T3;replace Uw:=T3 _ _ Uw;replace eq2:=T3 _ _ eq2;replace U2:=U2.kp T3;clear Yk K3 T3;wp_walk;refine⟨r,rfl,Yl,fun c4 q4 u4 b4 o4 HA4 XC eq4 U4 g4 Ym K3=>?_⟩;have T4:aH HA3 HA4:=aH.row K3 Yl;replace eG:=K3.at1 eG W7;replace Ve:=T4 _ _ Ve;replace eq1:=T4 _ _ eq1;replace U1:=U1.kp T4;replace Uw:=T4 _ _ Uw;replace eq2:=T4 _ _ eq2;replace U2:=U2.kp T4;replace Vf:=T4 _ _ Vf;replace eq3:=T4 _ _ eq3;replace U3:=U3.kp T4;clear Yl K3 T4;wp_walk;refine⟨r,rfl,Ym,fun c5 q5 u5 b5 o5 Wn XD eq5 U5 g5 RA5 K3=>?_⟩;have T5:aH HA4 Wn:=aH.row K3 Ym;replace eG:=K3.at1 eG W7;replace Ve:=T5 _ _ Ve;replace eq1:=T5 _ _ eq1;replace U1:=U1.kp T5;replace Uw:=T5 _ _ Uw;replace eq2:=T5 _ _ eq2;replace U2:=U2.kp T5;replace Vf:=T5 _ _ Vf;replace eq3:=T5 _ _ eq3;replace U3:=U3.kp T5;replace XC:=T5 _ _ XC;replace eq4:=T5 _ _ eq4;replace U4:=U4.kp T5;clear Ym K3 T5;wp_walk;refine fun cl hcl=>⟨⟨_,dS.of aB⟩,?_⟩;have N:=q0D (o:=.lst [.ref c1,.ref c2,.ref c3,.ref c4,.ref c5]) hcl;have el:SM Wn cl (.lst [.ref c1,.ref c2,.ref c3,.ref c4,.ref c5]) cl=some (.lst [.ref c1,.ref c2,.ref c3,.ref c4,.ref c5]):=aB;replace eG:=N.at eG;have all:∀ u∈[V.ref c1,.ref c2,.ref c3,.ref c4,.ref c5],∃(c p:Addr) (us:List V) (b:List Stm) (ok:Bool),u=.ref c/\Wn c=some (.tup [.ref p,.bl ok])/\Wn p=some (.tup us)/\aW Wn us b/\Good b ok:=fun u hu=>by
    simp only[List.mem_cons,List.not_mem_nil,or_false] at hu;rcases hu with rfl|rfl|rfl|rfl|rfl
    ·exact⟨c1,q1,u1,b1,o1,rfl,Ve,eq1,U1,g1⟩
    ·exact⟨c2,q2,u2,b2,o2,rfl,Uw,eq2,U2,g2⟩
    ·exact⟨c3,q3,u3,b3,o3,rfl,Vf,eq3,U3,g3⟩
    ·exact⟨c4,q4,u4,b4,o4,rfl,XC,eq4,U4,g4⟩
    ·exact⟨c5,q5,u5,b5,o5,rfl,XD,eq5,U5,g5⟩
   clear Ve Uw Vf XC XD eq1 eq2 eq3 eq4 eq5 U1 U2 U3 U4 U5 g1 g2 g3 g4 g5;generalize SM Wn cl (.lst [.ref c1,.ref c2,.ref c3,.ref c4,.ref c5])=HB at *;obtain⟨Pw,WM⟩:∃ Pw:Nat->St->Hp->Prop,∀ j σ G,Pw j σ G = ∃(w3:Option V),σ=[some (.ref a),some (.int z),some (.ref r),w3]/\Kp [] HB G:=⟨_,fun _ _ _=>rfl⟩;refine Ay (xs:=[.ref c1,.ref c2,.ref c3,.ref c4,.ref c5]) Pw ?_ ?_ ?_ ?_
   ·rw[WM];exact⟨_,rfl,Kp.refl⟩
   ·intro j σ G _ hG;rw[WM] at hG;obtain⟨_,_,k⟩:=hG;exact dS.of (k.at el)
   ·intro j u σ G hj hG;rw[WM] at hG;obtain⟨w3,rfl,k⟩:=hG;obtain⟨c,p,us,b,ok,rfl,h1,h2,h3,h4⟩:=all u (List.mem_of_getElem? hj);have kk:=N.trans k;wp_walk;refine⟨c,p,us,b,ok,rfl,kk.at h1,kk.at h2,h3.kp (aH.nil kk),h4,fun G2 K2=>?_⟩;wp_walk;rw[WM];exact⟨_,rfl,k.trans K2⟩
   ·intro σ G hG;rw[WM] at hG;obtain⟨w3,rfl,k⟩:=hG;exact back _ _ _ _ (k.at eG)
  ·intro σ G hG;rw[Tp] at hG;obtain⟨v1,v2,v3,rfl,eG⟩:=hG;wp_walk;exact q _
end
theorem b0{P:List Value->Prop}(h:P []):∀ us:List Value,us.length=0->P us:=fun us e=>by rw[List.length_eq_zero_iff.mp e];exact h
theorem bS{P:List Value->Prop}{n:Nat}(h:∀ a,∀ us:List Value,us.length=n->P (a::us)):∀ us:List Value,us.length=n+1->P us
 | [],e=>by cases e
 | a::us,e=>h a us (Nat.succ.inj e)
theorem He{q:Program}{loose:List Str}{XP:(q0C)->Heap->Prop}{K:Params->q0B}{as:List Addr}{n t:Nat}{r:PySem.W.RowW}{d:DefRec}{kwd:List (Str×Expr)}{run:Value->List Value->Sem Value}(e:∀ P:Params,as=List.map (fun x=>x.fst) (K P))(H:PySem.W.WalkO q loose XP (PySem.W.kHook K as e).says r d kwd run):PySem.W.WalkX q loose XP (PySem.W.X.obsZ as) (PySem.W.X.valZ K n t) r d kwd run:=fun w s₀ s₁ mg mb G y a o pm cd doc dV kV h1 h2 h3 h4 h5 h6 args vals bs L=>by
 obtain⟨_,f,_,_⟩:=PySem.W.X.z_facts e y;exact H w s₀ s₁ mg mb G (show PySem.W.InK K w s₁.heap from fun p ob hp=>L.keeps _ _ (f p ob hp)) a o pm cd doc dV kV h1 h2 h3 h4 h5 h6 args vals bs
section
open PySem.W
theorem KO{l:OpenLaw}{w:World}{K:Frag}{h:Heap}{mg:q0C}{fa:Addr}(X:K.In h)(G:h.Ns mainGlobals mg)(hfa:mg "law"=some (.ref fa))
    {f0 f1 f2 f3 f4 f5 f6 f7 f8 f9 XE Yw Yx Yy Yz YA YB YC YD YE YF YG YH YI YJ YK YL YM YN YO YQ YR YS YT f34:Addr} {d0 d1 d2 d3 d4 d5 d6 d7 d8 d9 d10 d11 d12 d13 d14 d15 d16 d17 d18 d19 d20 d21 d22 d23 d24 d25 d26 d27 d28 d29 d30 d31 d32 d33 d34:FuncData}
    {aN:Addr}
    {aI aJ gU cL dQ cB dP fU bV:Addr}
    {tk0:Tok}
    {tk1:Tok}
    {ZL:Addr} {td2:Option Addr} {tn2:Nat} {ts2:Array (Option Value)} {Xh Xi Xj Xk Xl Xm Xn Xo Xp Xq Wg Wh Wi Wj Wk Wl Wm:Tok}
    {tk3:Tok}
    {tk4:Tok}
    {tk5:Tok}
    {tk6:Tok}
    {ZM:Addr} {td7:Option Addr} {tn7:Nat} {ts7:Array (Option Value)} {Xr Xs Xt Xu Xv:Tok}
    (UJ:nsIn K mainGlobals "Reader"=some (some (.ref aN))) (U6:plainGet K aN Str.empty=true) (UT:hasDictIn K aN=true) (U7:plainOver K aN=true) (U8:findIn K (.ref aN) "__setattr__"=some (some (.builtin "object.__setattr__"))) (t8:makesIn K aN=true) (UZ:keepIn K (.ref aN)=true)
    (a0:nsIn K mainGlobals "is_number_word"=some (some (.ref f0)))
    (F0:Fun K "is_number_word" "is_number_word" iH f0 d0)
    (a1:nsIn K mainGlobals "is_figure"=some (some (.ref f1)))
    (F1:Fun K "is_figure" "is_figure" m7 f1 d1)
    (a2:nsIn K mainGlobals "is_small_letter"=some (some (.ref f2)))
    (F2:Fun K "is_small_letter" "is_small_letter" g6 f2 d2)
    (a3:nsIn K mainGlobals "is_name"=some (some (.ref f3)))
    (F3:Fun K "is_name" "is_name" uN f3 d3)
    (a4:nsIn K mainGlobals "read_program"=some (some (.ref f4)))
    (F4:Fun K "read_program" "read_program" jA f4 d4)
    (a5:findIn K (.ref aN) "__init__"=some (some (.ref f5))) (i5:isFn K (.ref f5)=true)
    (F5:Fun K "__init__" "Reader.__init__" jV f5 d5)
    (a6:findIn K (.ref aN) "ahead"=some (some (.ref f6))) (i6:isFn K (.ref f6)=true)
    (F6:Fun K "ahead" "Reader.ahead" iZ f6 d6)
    (a7:findIn K (.ref aN) "block"=some (some (.ref f7))) (i7:isFn K (.ref f7)=true)
    (F7:Fun K "block" "Reader.block" i0 f7 d7)
    (a8:findIn K (.ref aN) "statement"=some (some (.ref f8))) (i8:isFn K (.ref f8)=true)
    (F8:Fun K "statement" "Reader.statement" gE f8 d8)
    (a9:findIn K (.ref aN) "with_blocks"=some (some (.ref f9))) (i9:isFn K (.ref f9)=true)
    (F9:Fun K "with_blocks" "Reader.with_blocks" fB f9 d9)
    (a10:findIn K (.ref aN) "second_block"=some (some (.ref XE))) (i10:isFn K (.ref XE)=true)
    (X6:Fun K "second_block" "Reader.second_block" eO XE d10)
    (a11:nsIn K mainGlobals "take_plain"=some (some (.ref Yw)))
    (ZP:Fun K "take_plain" "take_plain" lH Yw d11)
    (a12:nsIn K mainGlobals "take_given"=some (some (.ref Yx)))
    (ZQ:Fun K "take_given" "take_given" lG Yx d12)
    (a13:nsIn K mainGlobals "take_waited"=some (some (.ref Yy)))
    (ZR:Fun K "take_waited" "take_waited" jZ Yy d13)
    (a14:nsIn K mainGlobals "take_saying"=some (some (.ref Yz)))
    (ZS:Fun K "take_saying" "take_saying" jY Yz d14)
    (a15:nsIn K mainGlobals "take_joined"=some (some (.ref YA)))
    (ZT:Fun K "take_joined" "take_joined" jX YA d15)
    (a16:nsIn K mainGlobals "take_name"=some (some (.ref YB)))
    (ZU:Fun K "take_name" "take_name" nD YB d16)
    (a17:nsIn K mainGlobals "take_word"=some (some (.ref YC)))
    (ZV:Fun K "take_word" "take_word" nE YC d17)
    (a18:nsIn K mainGlobals "refuse_more"=some (some (.ref YD)))
    (ZW:Fun K "refuse_more" "refuse_more" jW YD d18)
    (a19:nsIn K mainGlobals "_law_stream"=some (some (.ref YE)))
    (ZX:Fun K "_law_stream" "_law_stream" lE YE d19)
    (a20:nsIn K mainGlobals "_law_take"=some (some (.ref YF)))
    (ZY:Fun K "_law_take" "_law_take" qD YF d20)
    (a21:nsIn K mainGlobals "_law_words"=some (some (.ref YG)))
    (ZZ:Fun K "_law_words" "_law_words" nA YG d21)
    (a22:nsIn K mainGlobals "_law_head"=some (some (.ref YH)))
    (Z0:Fun K "_law_head" "_law_head" pZ YH d22)
    (a23:nsIn K mainGlobals "_law_rows"=some (some (.ref YI)))
    (Z1:Fun K "_law_rows" "_law_rows" qC YI d23)
    (a24:nsIn K mainGlobals "_law_text"=some (some (.ref YJ)))
    (Z2:Fun K "_law_text" "_law_text" qG YJ d24)
    (a25:nsIn K mainGlobals "_law_asked"=some (some (.ref YK)))
    (Z3:Fun K "_law_asked" "_law_asked" m8 YK d25)
    (a26:nsIn K mainGlobals "_law_flat"=some (some (.ref YL)))
    (Z4:Fun K "_law_flat" "_law_flat" pY YL d26)
    (a27:nsIn K mainGlobals "_law_many"=some (some (.ref YM)))
    (Z5:Fun K "_law_many" "_law_many" qA YM d27)
    (a28:nsIn K mainGlobals "_law_nest"=some (some (.ref YN)))
    (Z6:Fun K "_law_nest" "_law_nest" qB YN d28)
    (a29:nsIn K mainGlobals "_law_tall"=some (some (.ref YO)))
    (Z7:Fun K "_law_tall" "_law_tall" qF YO d29)
    (a30:nsIn K mainGlobals "_law_high"=some (some (.ref YQ)))
    (Z8:Fun K "_law_high" "_law_high" p9 YQ d30)
    (a31:nsIn K mainGlobals "_law_waited"=some (some (.ref YR)))
    (Z9:Fun K "_law_waited" "_law_waited" lF YR d31)
    (a32:nsIn K mainGlobals "_law_far"=some (some (.ref YS)))
    (F32:Fun K "_law_far" "_law_far" uO YS d32)
    (a33:nsIn K mainGlobals "_law_right"=some (some (.ref YT)))
    (F33:Fun K "_law_right" "_law_right" m9 YT d33)
    (a34:nsIn K mainGlobals "law"=some (some (.ref f34)))
    (X7:Fun K "law" "law" GC f34 d34)
    (nX:findIn K (.ref aN) "lines"=some none)
    (cZ:findIn K (.ref aN) "lines_read"=some none)
    (cS:findIn K (.ref aN) "statements_read"=some none)
    (Tt:nsIn K mainGlobals "OutlastError"=some (some (.ref aI)))
    (TU:nsIn K mainGlobals "NoProgram"=some (some (.ref aJ)))
    (Vk:nsIn K mainGlobals "NoLog"=some (some (.ref gU)))
    (Uv:nsIn K mainGlobals "NoState"=some (some (.ref cL)))
    (UL:nsIn K mainGlobals "NoRule"=some (some (.ref dQ)))
    (Ud:nsIn K mainGlobals "NoPolicy"=some (some (.ref cB)))
    (UK:nsIn K mainGlobals "NoLine"=some (some (.ref dP)))
    (Vl:nsIn K mainGlobals "NoRun"=some (some (.ref fU)))
    (TR:nsIn K mainGlobals "NoCommand"=some (some (.ref bV)))
    (TB:iT K aI=true)
    (Tz:XQ K aI (gT))
    (Ub:iT K aJ=true)
    (T9:XQ K aJ (.ref aI::gT))
    (VD:iT K gU=true)
    (UD:iT K cL=true)
    (UC:XQ K cL (.ref aI::gT))
    (Vd:iT K dQ=true)
    (Vb:XQ K dQ (.ref aI::gT))
    (Um:iT K cB=true)
    (Ul:XQ K cB (.ref aI::gT))
    (Vc:iT K dP=true)
    (Va:XQ K dP (.ref aI::gT))
    (VE:iT K fU=true)
    (VC:XQ K fU (.ref aI::gT))
    (Ua:iT K bV=true)
    (T8:XQ K bV (.ref aI::gT))
    (ZN:(aJ≠gU/\aI≠gU)/\(aJ≠cL/\aI≠cL)/\(aJ≠dQ/\aI≠dQ)/\(aJ≠cB/\aI≠cB)/\(aJ≠dP/\aI≠dP)/\(aJ≠fU/\aI≠fU)/\(aJ≠bV/\aI≠bV))
    (v0:nsIn K mainGlobals "GREATEST_WORTH"=some (some (.int 1000000000 tk0)))
    (v1:nsIn K mainGlobals "LONGEST_NAME"=some (some (.int 6 tk1)))
    (v2:nsIn K mainGlobals "OWN_WORDS"=some (some (.ref ZL))) (u2:K.lookup ZL=some ⟨.type "tuple",td2,.seq #[.str "order" Xh,.str "timer" Xi,.str "child" Xj,.str "send" Xk,.str "drop" Xl,.str "wait" Xm,.str "hear" Xn,.str "if" Xo,.str "else" Xp,.str "done" Xq,.str "while" Wg,.str "end" Wh,.str "none" Wi,.str "arg" Wj,.str "now" Wk,.str "answer" Wl,.str "not" Wm] tn2,ts2⟩)
    (v3:nsIn K mainGlobals "MOST_STATEMENTS"=some (some (.int 60 tk3)))
    (v4:nsIn K mainGlobals "DEEPEST_BLOCK"=some (some (.int 5 tk4)))
    (v5:nsIn K mainGlobals "DEEPEST_SAYING"=some (some (.int 6 tk5)))
    (v6:nsIn K mainGlobals "MOST_WAITED"=some (some (.int 4 tk6)))
    (v7:nsIn K mainGlobals "SIGNS"=some (some (.ref ZM))) (u7:K.lookup ZM=some ⟨.type "tuple",td7,.seq #[.str "+" Xr,.str "-" Xs,.str "*" Xt,.str "<" Xu,.str "=" Xv] tn7,ts7⟩)
    (lO:nsIn K mainGlobals "ValueError"=some none)
    (N8:nsIn K mainGlobals "abs"=some none)
    (JO:nsIn K mainGlobals "all"=some none)
    (Hg:nsIn K mainGlobals "int"=some none)
    (eF:nsIn K mainGlobals "isinstance"=some none)
    (wC:nsIn K mainGlobals "len"=some none)
    (N9:nsIn K mainGlobals "max"=some none)
    (vC:nsIn K mainGlobals "range"=some none)
    (Hh:nsIn K mainGlobals "str"=some none)
    (qM:nsIn K mainGlobals "tuple"=some none)
    : ∃ fd:FuncData,(∀(s:Shared) (v:Value),BindsTo s fd ⟨[v],[]⟩ [("script",v)])/\∀ base:Heap,K.In base->base.Ns mainGlobals mg->bL l.prog w K mg base Tc 100 fa fd ["script"] (CY K):=by
  have e:=hfa.symm.trans (mg_of X G a34);cases e;have T:Tx K mg ⟨f0,_,f1,_,f2,_,f3,_,f4,_,f5,_,f6,_,f7,_,f8,_,f9,_,XE,_,Yw,_,Yx,_,Yy,_,Yz,_,YA,_,YB,_,YC,_,YD,_,YE,_,YF,_,YG,_,YH,_,YI,_,YJ,_,YK,_,YL,_,YM,_,YN,_,YO,_,YQ,_,YR,_,YS,_,YT,_,fa,_,tk0,tk1,ZL,tk3,tk4,tk5,tk6,ZM,aN,aI,aJ,gU,cL,dQ,cB,dP,fU,bV⟩:=⟨F0,(F0.binds fun _ _ _ _ _ _=>bS fun _=>bS fun _=>bS fun _=>b0 rfl),(mg_of X G a0),F1,(F1.binds fun _ _ _ _ _ _=>bS fun _=>b0 rfl),(mg_of X G a1),F2,(F2.binds fun _ _ _ _ _ _=>bS fun _=>b0 rfl),(mg_of X G a2),F3,(F3.binds fun _ _ _ _ _ _=>bS fun _=>b0 rfl),(mg_of X G a3),F4,(F4.binds fun _ _ _ _ _ _=>bS fun _=>b0 rfl),(mg_of X G a4),F5,(F5.binds fun _ _ _ _ _ _=>bS fun _=>bS fun _=>b0 rfl),⟨a5,i5,F5.kp⟩,F6,(F6.binds fun _ _ _ _ _ _=>bS fun _=>b0 rfl),⟨a6,i6,F6.kp⟩,F7,(F7.binds fun _ _ _ _ _ _=>bS fun _=>bS fun _=>b0 rfl),⟨a7,i7,F7.kp⟩,F8,(F8.binds fun _ _ _ _ _ _=>bS fun _=>bS fun _=>b0 rfl),⟨a8,i8,F8.kp⟩,F9,(F9.binds fun _ _ _ _ _ _=>bS fun _=>bS fun _=>bS fun _=>b0 rfl),⟨a9,i9,F9.kp⟩,X6,(X6.binds fun _ _ _ _ _ _=>bS fun _=>bS fun _=>b0 rfl),⟨a10,i10,X6.kp⟩,ZP,(ZP.binds fun _ _ _ _ _ _=>bS fun _=>b0 rfl),(mg_of X G a11),ZQ,(ZQ.binds fun _ _ _ _ _ _=>bS fun _=>bS fun _=>b0 rfl),(mg_of X G a12),ZR,(ZR.binds fun _ _ _ _ _ _=>bS fun _=>b0 rfl),(mg_of X G a13),ZS,(ZS.binds fun _ _ _ _ _ _=>bS fun _=>bS fun _=>b0 rfl),(mg_of X G a14),ZT,(ZT.binds fun _ _ _ _ _ _=>bS fun _=>bS fun _=>b0 rfl),(mg_of X G a15),ZU,(ZU.binds fun _ _ _ _ _ _=>bS fun _=>b0 rfl),(mg_of X G a16),ZV,(ZV.binds fun _ _ _ _ _ _=>bS fun _=>b0 rfl),(mg_of X G a17),ZW,(ZW.binds fun _ _ _ _ _ _=>bS fun _=>b0 rfl),(mg_of X G a18),ZX,(ZX.binds fun _ _ _ _ _ _=>bS fun _=>b0 rfl),(mg_of X G a19),ZY,(ZY.binds fun _ _ _ _ _ _=>bS fun _=>bS fun _=>b0 rfl),(mg_of X G a20),ZZ,(ZZ.binds fun _ _ _ _ _ _=>bS fun _=>b0 rfl),(mg_of X G a21),Z0,(Z0.binds fun _ _ _ _ _ _=>bS fun _=>b0 rfl),(mg_of X G a22),Z1,(Z1.binds fun _ _ _ _ _ _=>bS fun _=>b0 rfl),(mg_of X G a23),Z2,(Z2.binds fun _ _ _ _ _ _=>bS fun _=>b0 rfl),(mg_of X G a24),Z3,(Z3.binds fun _ _ _ _ _ _=>bS fun _=>b0 rfl),(mg_of X G a25),Z4,(Z4.binds fun _ _ _ _ _ _=>bS fun _=>bS fun _=>b0 rfl),(mg_of X G a26),Z5,(Z5.binds fun _ _ _ _ _ _=>bS fun _=>b0 rfl),(mg_of X G a27),Z6,(Z6.binds fun _ _ _ _ _ _=>bS fun _=>b0 rfl),(mg_of X G a28),Z7,(Z7.binds fun _ _ _ _ _ _=>bS fun _=>bS fun _=>b0 rfl),(mg_of X G a29),Z8,(Z8.binds fun _ _ _ _ _ _=>bS fun _=>b0 rfl),(mg_of X G a30),Z9,(Z9.binds fun _ _ _ _ _ _=>bS fun _=>b0 rfl),(mg_of X G a31),F32,(F32.binds fun _ _ _ _ _ _=>bS fun _=>b0 rfl),(mg_of X G a32),F33,(F33.binds fun _ _ _ _ _ _=>bS fun _=>b0 rfl),(mg_of X G a33),X7,(X7.binds fun _ _ _ _ _ _=>bS fun _=>b0 rfl),(mg_of X G a34),⟨U6,UT,U7,U8⟩,(mg_of X G UJ),⟨t8,a5,i5,UZ⟩,nX,cZ,cS,(mg_of X G v0),(mg_of X G v1),(mg_of X G v2),(fun H=>.inr ⟨_,_,_,u2,rfl,rfl,(by show 17<=sizeLine;decide),(.cons ⟨_,rfl⟩ (.cons ⟨_,rfl⟩ (.cons ⟨_,rfl⟩ (.cons ⟨_,rfl⟩ (.cons ⟨_,rfl⟩ (.cons ⟨_,rfl⟩ (.cons ⟨_,rfl⟩ (.cons ⟨_,rfl⟩ (.cons ⟨_,rfl⟩ (.cons ⟨_,rfl⟩ (.cons ⟨_,rfl⟩ (.cons ⟨_,rfl⟩ (.cons ⟨_,rfl⟩ (.cons ⟨_,rfl⟩ (.cons ⟨_,rfl⟩ (.cons ⟨_,rfl⟩ (.cons ⟨_,rfl⟩ .nil)))))))))))))))))⟩),(mg_of X G v3),(mg_of X G v4),(mg_of X G v5),(mg_of X G v6),(mg_of X G v7),(fun H=>.inr ⟨_,_,_,u7,rfl,rfl,(by show 5<=sizeLine;decide),(.cons ⟨_,rfl⟩ (.cons ⟨_,rfl⟩ (.cons ⟨_,rfl⟩ (.cons ⟨_,rfl⟩ (.cons ⟨_,rfl⟩ .nil)))))⟩),(mg_of X G Tt),TB,Tz,(mg_of X G TU),Ub,T9,(mg_of X G Vk),VD,(mg_of X G Uv),UD,UC,(mg_of X G UL),Vd,Vb,(mg_of X G Ud),Um,Ul,(mg_of X G UK),Vc,Va,(mg_of X G Vl),VE,VC,(mg_of X G TR),Ua,T8,ZN,(mg_none_of X G lO),(mg_none_of X G N8),(mg_none_of X G JO),(mg_none_of X G Hg),(mg_none_of X G eF),(mg_none_of X G wC),(mg_none_of X G N9),(mg_none_of X G vC),(mg_none_of X G Hh),(mg_none_of X G qM)⟩;refine⟨d34,?_,fun base _ _=>M9 T⟩;obtain⟨_,_,_,_,_,_,_,_,_,rfl,_⟩:=X7.ex;exact fun s v=>.of_eq rfl
end
theorem walk{l:PySem.W.OpenLaw}{q:Program}{loose:List Str}{XP:(q0C)->Heap->Prop}{YP:World->Heap->Prop}{d:DefRec}{K:Params->q0B}(hn:l.most=some 63)(Vp:d.params.defaults=[])
    (hY:∀(w:World) (h:Heap),YP w h->(K w.params).In h)
    (F:∀(w:World) (mg:q0C) (fa:Addr) (h:Heap),(K w.params).In h->h.Ns mainGlobals mg->mg d.name=some (.ref fa) ->
      ∃ fd:FuncData,(∀(s:Shared) (u:Value),BindsTo s fd ⟨[u],[]⟩ [("script",u)])/\∀ base:Heap,(K w.params).In base->base.Ns mainGlobals mg->bL l.prog w (K w.params) mg base Tc 100 fa fd ["script"] (CY (K w.params))) :
    PySem.W.WalkO q loose XP YP l.row.toRowW d [] (fun f vs=>PySem.call f vs) :=
  L2.JL (n:=63) (k:=100) (x:="script") (CX:=fun _=>Tc) (sp:=fun w=>CY (K w.params)) hn (by decide) Vp ⟨rfl,by decide,by decide⟩ hY F (fun _ _ a ns hl _ hS=>⟨a,ns,rfl,hS,hl,fun _=>rfl⟩) fun _ _ _ _ _ z=>z
end Own
open PySem PySem.W PyProof.Rows
set_option maxRecDepth 100000 in
set_option maxHeartbeats 0 in
theorem PySem.Challenge.cw_outlast_k09_bounds_of_programs_holds : PySem.Challenge.rw_outlast_k09_bounds_of_programs.Holds := by
 w_on;o_law;z_head;(case hw=>w_witness2)
 k_fill
 refine Own.He (fun _=>rfl) ?_;refine Own.walk (l:=PySem.Challenge.rw_outlast_k09_bounds_of_programs) rfl rfl (fun w h Y=>PySem.W.kIn_of Y) ?F
 case F =>
  intro w mg fa h KX G WQ;apply Own.KO KX G WQ
  iterate 133 (first|(apply L2.MI<;>k_is)|k_is|(refine L2.Q9 (by k_exc) (by kernel_rfl) (by kernel_rfl) (by kernel_rfl) (by kernel_rfl))|kernel_rfl|decide)
