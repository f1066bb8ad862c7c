import PyProof.Rows.All
import OpenK.KLine
import Lean
import PyProof.EqAt
import PyProof.EqKinds
import PyProof.TupleCall
import PyProof.NsDelKeeps
import PyProof.NeKinds
import PyProof.CompFree
import PyProof.CompMap
import KE.LcSums
import PyProof.CompUse
import PyProof.Rows.RuleIs
import PyProof.Rows.RuleIs2
import PyProof.ZipIter
import PyProof.DictKinds
import PyProof.DictRoads
import PyProof.AutoRange
import PyProof.FactsAll.range_1
import KE.KTryMore
import PyProof.StrCalls2
import PyProof.CallStr
import PyProof.SliceStr2
import PyProof.StrOps2
import PyProof.StrLawsChain
import PyProof.StrLawsTight
import PyProof.StrWalks
import PyProof.EnumMake
import KE.KIntText
import PyProof.Rows.Range3
import PyProof.AutoSeq1
import PyProof.AutoListH
import PyProof.FitsReplace
import PyProof.Rows.FStr
import PyProof.Rows.Chain
import PyProof.SeqRoads
import PyProof.ListOps
import KE.KDictOf
import KE.KDictList
import KE.KFromBytes
import KE.KIsAll
import KE.KItem
import KE.KxBytes
import KE.RegKIsAll
import KE.RegKTryMore
import PySem.Challenge.RW_slipring_k37_whole_stand_texts
set_option Elab.async false
set_option linter.all false
set_option maxRecDepth 100000
set_option maxHeartbeats 4000000
section
open PySem PySem.W PyProof.Rows
set_option maxRecDepth 100000
set_option maxHeartbeats 0
theorem hk2{K:Params->Frag}{as:List Addr}(n:Nat)(e:∀P,as=(K P).map (·.1))(w:World)(s:Shared)(x:((as.take n).map s.heap.get?,(as.drop n).map s.heap.get?)=(((K w.params).take n).map (λp=>some p.2),((K w.params).drop n).map λp=>some p.2)):InK K w s.heap:=InK.of e w s (by simpa only[<-List.map_append,List.take_append_drop] using congr (congrArg (·++·) (Prod.mk.inj x).1) (Prod.mk.inj x).2)
set_option hygiene false in
local macro_rules|`(tactic| refine $hd ($n1 := $v1) ($n2 := $v2) ($n3 := $v3) ($n4 := $v4) ($n5 := $_ ($_ $k $a $e)) ($n6 := $_) ($n7 := $v7) ($n8 := $v8) $x1 $_ $x3 $x4 $x5 $x6 $x7 $x8 $x9 $x10 $x11 $x12 $x13 $x14 $x15)=>`(tactic| refine $hd ($n1 := $v1) ($n2 := $v2) ($n3 := $v3) ($n4 := $v4) ($n5 := fun s=>(List.map s.heap.get? (List.take 400 $a),List.map s.heap.get? (List.drop 400 $a))) ($n6 := fun w=>(List.map (fun p=>some p.2) (List.take 400 ($k w.params)),List.map (fun p=>some p.2) (List.drop 400 ($k w.params)))) ($n7 := $v7) ($n8 := $v8) $x1 (hk2 400 $e) $x3 $x4 $x5 $x6 $x7 $x8 $x9 $x10 $x11 $x12 $x13 $x14 $x15)
namespace PySem.W.Fast
def tw10042083083395451092:=()
def tw10113706765991148843:=()
def tw10206956779759575209:=()
def tw10374632558016547081:=()
def tw10978428329303985719:=()
def tw11018145951921344529:=()
def tw11521511281804667912:=()
def tw12460080407810076477:=()
def tw12509177155966099375:=()
def tw13114645530532618160:=()
def tw13406377419850843074:=()
def tw13469501207593853456:=()
def tw1351852979975943594:=()
def tw13732051381489595846:=()
def tw1382182411562308786:=()
def tw14332724281983326942:=()
def tw14383893971135437652:=()
def tw1478030337931831861:=()
def tw14831331821628862639:=()
def tw15163409612377130007:=()
def tw15528221797031607849:=()
def tw16766683885213920930:=()
def tw17477562940448075814:=()
def tw17653592248189364939:=()
def tw17710873009340938204:=()
def tw17724038513149304489:=()
def tw17744993626210230056:=()
def tw18017129668781235815:=()
def tw18437792190763421558:=()
def tw2785556982917274878:=()
def tw2786648768249225349:=()
def tw3104164581258916895:=()
def tw3112634735961092027:=()
def tw3615178456390077923:=()
def tw3998647374267775353:=()
def tw4670614919966055157:=()
def tw52312688904243638:=()
def tw621824258390432152:=()
def tw6427576097997697322:=()
def tw6512149657230936976:=()
def tw7774113678449685934:=()
def tw861502493610598483:=()
def tw8715888555302371167:=()
def tw8997383693586321770:=()
def tw9380741260308362100:=()
def tw938635154573522699:=()
def tw9464783005390448368:=()
def tw9493307185956880263:=()
def tw9582823730064241283:=()
def tw9910136688757260964:=()
def tw3328118118096588273:=()
def tw13567515925198824819:=()
def tw15214748959534726111:=()
def tw3049343062529576306:=()
def tw4290864757253303354:=()
def tw3671519592330383864:=()
def tw3592811809046731828:=()
def tw11373181179767321252:=()
def tw1378205811072252300:=()
def tw8356303796347215682:=()
def tw17883462748017686043:=()
def tw9320515035125037321:=()
def tw2629151800749243262:=()
def tw14196522196718054806:=()
def tw7001957589650049515:=()
def tw16132249320637822498:=()
def tw9592300441314626372:=()
def tw14647417624928369756:=()
def tw7592715696027808041:=()
def tw14061609134260724683:=()
def tw11489344026974618541:=()
def tw14833712730911297017:=()
def tw5037459499596335280:=()
def tw6084841979344569690:=()
def tw2314633323536394700:=()
def tw5960047855520388891:=()
def tw4946147512530127568:=()
def tw8122695690928665766:=()
def tw14553807712399142462:=()
def tw14538725608371270373:=()
def tw211337195705725219:=()
def tw2741014181512449073:=()
def tw866717566613908145:=()
def tw14577027041581768965:=()
def tw18367749455379333440:=()
def tw3713540243193553862:=()
def tw6408400580700104982:=()
def tw561727478393794602:=()
def tw9510108024173832781:=()
def tw10159399881129095643:=()
def tw12314708539913122752:=()
def tw16753820520455620202:=()
def tw18073898193381586223:=()
def tw12408111787983249662:=()
def tw9784134513789038367:=()
def tw4903002758410956813:=()
def tw977512076041815475:=()
def tw16217903435359918192:=()
def tw15925456577456769635:=()
def tw6557801498797044033:=()
def tw599730875272715187:=()
def tw11066385474520676512:=()
def tw14746253646979254834:=()
def tw15621415185263527259:=()
def tw7538781388859322016:=()
def tw991626836265849350:=()
def tw1719895430356276633:=()
def tw15702583709834301711:=()
def tw14172470266813156586:=()
def tw6128145076113358165:=()
def tw2466311954974566718:=()
def tw209982475168477708:=()
def tw13215348057498601715:=()
def tw6278996535519779258:=()
def tw4323258101793500111:=()
def tw14993981098963755598:=()
def tw14782954611325821827:=()
def tw2135409205425526673:=()
def tw8212203176049278890:=()
def tw14560624547652848805:=()
def tw4309217394794523951:=()
def tw9806118890596472461:=()
def tw1467881925912835984:=()
def tw16925712312323332580:=()
def tw15752536640612570366:=()
def tw15861351967447197489:=()
def tw16260866306193365299:=()
def tw8318101203651539667:=()
def tw4493901809537577575:=()
def tw8285278889055680438:=()
def tw12147665669636231765:=()
def tw1158361714356455011:=()
def tw18094105663378112561:=()
def tw16378183091871739711:=()
def tw12843764043397292189:=()
def tw8159993647027272844:=()
def tw2474200967059427378:=()
def tw12138319994727072339:=()
def tw16721508838639397229:=()
def tw12747814925858328940:=()
def tw1725486776273817318:=()
def tw15805137534098808535:=()
def tw1922157984580058403:=()
def tw14226173905949225808:=()
def tw18105302477358141223:=()
def tw5467331546851215429:=()
def tw4971374062829452455:=()
def tw1070438729232803039:=()
def tw5010956058597451964:=()
def tw5217270863462422736:=()
def tw16226643914720891334:=()
def tw16248296213531012650:=()
def tw10861573186032746274:=()
def tw8535803893964050539:=()
def tw10295913840692754127:=()
def tw4607425872040536859:=()
def tw1937721966566455358:=()
def tw9950792792127014553:=()
def tw8222940686941784037:=()
def tw17916429707943930468:=()
def tw9433028549170029634:=()
def tw8432719020341155521:=()
def tw15438627641174518403:=()
def tw18183970276198133131:=()
def tw13421457143807847188:=()
def tw6030501089693204938:=()
def tw11824586356888161845:=()
def tw17339309145561079191:=()
def tw12960429369202013873:=()
def tw14903569129155370506:=()
def tw247591363613054380:=()
def tw3475869608268796686:=()
def tw13956191218907399338:=()
def tw11853640710764476214:=()
def tw1401067106901849026:=()
def tw8498532028676091811:=()
def tw13437419889732721216:=()
def tw4096438862311573950:=()
def tw14847308668706973960:=()
def tw17658959251048325594:=()
def tw9947508896943372755:=()
def tw11212356425047092601:=()
def tw17590705303994421779:=()
def tw5072417060200589145:=()
def tw16864618592142003386:=()
def tw13855379610559885079:=()
def tw14961746396406840608:=()
def tw14904681115217272601:=()
def tw3681537716864247207:=()
def tw5000232492035539693:=()
def tw12020253756985099128:=()
def tw2084650752826471497:=()
def tw10341888390210383824:=()
def tw6105849179199505303:=()
def tw1532491051758110099:=()
def tw4561898282857576226:=()
def tw17980500129456985241:=()
def tw3110587219445414310:=()
def tw15235614512728720:=()
def tw7220529860990300233:=()
def tw11898673842065290130:=()
def tw10510019762269167821:=()
def tw15240619367488684849:=()
def tw6702445572142316249:=()
def tw5872530126848033075:=()
def tw18031968618487185184:=()
def tw14963028359598502718:=()
def tw4683681711962371626:=()
def tw3308634892276815127:=()
def tw11564986514327137767:=()
def tw14935467056822913822:=()
def tw8733291241859026926:=()
def tw7322748291113730364:=()
def tw17338325484393633139:=()
def tw17214186515701724070:=()
def tw5274481202262711730:=()
def tw8865387616306378214:=()
def tw3300257896294614128:=()
def tw9860861378791804195:=()
def tw3099597729799864441:=()
def tw87601786513091389:=()
def tw5537553045615171315:=()
def tw2941924889016668590:=()
def tw15402603294489630176:=()
def tw12382822922155266910:=()
def tw3919386906821981792:=()
def tw446995266069924076:=()
def tw1825952489489211193:=()
def tw1708089923452030704:=()
def tw13813618637161013713:=()
def tw12670982853097334264:=()
def tw726351398001015727:=()
def tw2483420100392427323:=()
def tw16279288168775177219:=()
def tw16723463757517087524:=()
def tw3992765435912101610:=()
def tw10510056951384868246:=()
def tw6822071536725586909:=()
def tw3300454383303005205:=()
def tw2570914705882880060:=()
def tw13953587524928339648:=()
def tw10698057553749749337:=()
def tw9387514328989991554:=()
def tw1599053048872161195:=()
def tw6356304189028158447:=()
def tw14842496431369740429:=()
def tw3419001889969749887:=()
def tw16902440903046159558:=()
def tw11738243743197964597:=()
def tw4734895289157585001:=()
def tw8739830900816887780:=()
def tw2107523057676978006:=()
def tw4075453323654395381:=()
def tw16756451883985382160:=()
def tw1950803216711332702:=()
def tw896878414759379649:=()
def tw2080317491765294665:=()
def tw5344687154915797982:=()
def tw14424681132571578402:=()
def tw5101696844757716304:=()
def tw13135312941875745310:=()
def tw3543459598558145280:=()
def tw2789304352393801511:=()
def tw1972164579936704799:=()
def tw4547051000311932777:=()
def tw3239113980409921550:=()
def tw16298917771340976007:=()
def tw140001813534094272:=()
def tw13055953723892786844:=()
def tw11266997524610791606:=()
def tw6229817132586351632:=()
def tw3382625519597670723:=()
def tw2646887283097553488:=()
def tw2261719852989239553:=()
def tw18157406047293677543:=()
def tw13674586047789940208:=()
def tw12903330217458380548:=()
def tw1205604411410820431:=()
def tw17410218998227585676:=()
def tw11024694936033576346:=()
def tw17334828202450815106:=()
def tw17170472223608059050:=()
def tw6148498323302512570:=()
def tw13462424878891718212:=()
def tw8752102160057688731:=()
def tw2694234056635809718:=()
def tw16053306600634468012:=()
def tw14404928986312190071:=()
def tw18383651708701053236:=()
def tw3726453103677007866:=()
def tw17852080271459398996:=()
def tw11153475782318119604:=()
def tw3365755272349913518:=()
def tw2244103112122482387:=()
def tw1915925776726481438:=()
def tw14243238205550065757:=()
def tw10016166984437732892:=()
def tw6125853113672642322:=()
def tw16203965252921439515:=()
def tw15831126876759372255:=()
def tw2692750590507578028:=()
def tw11076892268299887525:=()
def tw10910644110388302437:=()
def tw10842938092177581297:=()
def tw10741264400317747893:=()
def tw9630203353718772412:=()
def tw9116068151291705539:=()
def tw8995945545434573385:=()
def tw8565224436197482051:=()
def tw7091221385724896812:=()
def tw5289818103960998278:=()
def tw4480162626587320490:=()
def tw3215387988796971590:=()
def tw1956775160557780875:=()
def tw1607123104830579860:=()
def tw15895094517606616290:=()
def tw14592624751514493413:=()
def tw14154597600763967237:=()
def tw13831308528885131752:=()
def tw13810262117814702294:=()
def tw13769103115541136327:=()
def tw13622603851894308203:=()
def tw12717557048674177747:=()
def tw11317637306720784765:=()
def tw10876078143196172821:=()
def tw9304451534382375720:=()
def tw8972062959192195235:=()
def tw772564365185477556:=()
def tw7046044490832178742:=()
def tw6945566481307383155:=()
def tw6575520176995025181:=()
def tw6420159726195949164:=()
def tw6327569006664949090:=()
def tw615563214671542189:=()
def tw539538531456391632:=()
def tw4953865588907285216:=()
def tw4849480874435393781:=()
def tw463774138113389760:=()
def tw4436474186459923750:=()
def tw4189273013823423559:=()
def tw3897268976836264337:=()
def tw2259672571474061568:=()
def tw17691633702590694504:=()
def tw17678831435119133177:=()
def tw17592209452093105858:=()
def tw17483705464198625004:=()
def tw17382457898008728272:=()
def tw17260811203177919210:=()
def tw16654469307462801742:=()
def tw16626521671886133394:=()
def tw15254633091992210921:=()
def tw3374319085511977134:=()
def tw14564479935002850509:=()
def tw11513857634932158529:=()
def tw18310463660012746435:=()
def tw14727194681476072466:=()
def tw13160504802963445071:=()
def tw10958628066121416707:=()
def tw14859695947638507448:=()
def tw13547939009206843870:=()
def tw12488014758255163090:=()
def tw10551173667578312727:=()
def tw14074196154385387334:=()
def tw12431713363859531893:=()
def tw10879749546641988924:=()
def tw17062427158221528723:=()
def tw12550775161083096063:=()
def tw11408881796089955267:=()
def tw6953138203311097117:=()
def tw10826640976665885199:=()
def tw7867829370405329436:=()
def tw15499940227032437249:=()
def tw3985964047577975286:=()
def tw17613222154834848340:=()
def tw16615150188913437886:=()
def tw9404705873571188630:=()
def tw16889402180269171592:=()
def tw14689541978594310382:=()
def tw7212858340449540239:=()
def tw6548459193220583526:=()
def tw890339118813698166:=()
def tw13053770412826190925:=()
def tw1979317910248211280:=()
def tw4077048163395320219:=()
def tw643336161829623379:=()
def tw16773468814595293053:=()
def tw4684226298888400098:=()
def tw8002303944043701648:=()
def tw16873086082458093902:=()
def tw10294118229990073760:=()
def tw9972681490609642005:=()
def tw9402243437249704421:=()
def tw896239598344801917:=()
def tw8331849164307833061:=()
def tw8157277791214410489:=()
def tw7374399212775623666:=()
def tw5667099127317398114:=()
def tw4635989785427082552:=()
def tw4171853373547519906:=()
def tw16409965706819354750:=()
def tw7476452910721959123:=()
def tw17464319187374939960:=()
def tw9615563845995560447:=()
def tw8949853181751564097:=()
def tw8899516883271353254:=()
def tw740290905518256060:=()
def tw4804111812005502284:=()
def tw4562827626845409882:=()
def tw2827255003249426055:=()
def tw2400638427578300857:=()
def tw1840220198017710270:=()
def tw17292613610259460706:=()
def tw17187875760726034783:=()
def tw16919654943277366748:=()
def tw12727641955093265886:=()
def tw9456574344343218679:=()
def tw8912161614967838395:=()
def tw7480016910919988345:=()
def tw5438652380644606353:=()
def tw3721919958574915784:=()
def tw18418582437962087742:=()
def tw15779231459743154856:=()
def tw13757698761724263525:=()
def tw12772213712371865176:=()
def tw2187251505897268136:=()
def tw13946496683202179788:=()
def tw10539347186207431242:=()
def tw7086961617601330827:=()
def tw17435391645217708394:=()
def tw16955839230299176341:=()
def tw11421057715548341654:=()
def tw18101783494082082527:=()
def tw9495317472360511255:=()
def tw5498123283257192965:=()
def tw4321966507151631593:=()
def tw3270257207059953099:=()
def tw2144661209622563809:=()
def tw14387916025512776202:=()
def tw12917704675397863716:=()
def tw11766667032028208565:=()
def tw10792498714594961201:=()
def tw13913613514976480042:=()
def tw8047209995159408440:=()
def tw3520257249291928256:=()
def tw16636501806038632012:=()
def tw14284835775768690865:=()
def tw13861969467909019144:=()
def tw12887044766017154078:=()
def tw11401859456886640639:=()
def tw9796564346219866840:=()
def tw9592521066531166775:=()
def tw9113380124883318265:=()
def tw855453113358079251:=()
def tw8060666987683057360:=()
def tw7217548393331319763:=()
def tw7050804516273991350:=()
def tw6522051377940421278:=()
def tw2358075552688931204:=()
def tw2295934692909999376:=()
def tw15042883488752021643:=()
def tw14219159868682941630:=()
def tw13812277999558781770:=()
def tw1342123614928995077:=()
def tw13034982811429478159:=()
def tw12297992134047619483:=()
def tw9977182230042388008:=()
def tw9919008367099125623:=()
def tw9879335643197240621:=()
def tw9757595895972200118:=()
def tw9689729476882780088:=()
def tw9646623106273453227:=()
def tw9536688357841153863:=()
def tw9461873434466728008:=()
def tw9399754086935153974:=()
def tw9331231397406362311:=()
def tw9317495090193701157:=()
def tw9197174079833555027:=()
def tw9104974531708491489:=()
def tw8924819469995637033:=()
def tw8919978131948313185:=()
def tw8431482922422412695:=()
def tw8422229294311615681:=()
def tw8219003486749837733:=()
def tw8186657734068701312:=()
def tw8171798328758944481:=()
def tw7921390202802761869:=()
def tw7424060955962978353:=()
def tw7007286002206832825:=()
def tw6968137755033780318:=()
def tw6858818405166986180:=()
def tw6851275008772768644:=()
def tw6828597562223498359:=()
def tw6690350156832105676:=()
def tw6549852094080907030:=()
def tw6542358382571353910:=()
def tw6472337539984862722:=()
def tw6469784823511061222:=()
def tw6216382948874008006:=()
def tw6170744672141170255:=()
def tw6162269159774324313:=()
def tw6124413428159637790:=()
def tw6056707288978253535:=()
def tw5994696166404524948:=()
def tw5725222548895626118:=()
def tw5702276774652866934:=()
def tw5622701340561072331:=()
def tw5449601097390414333:=()
def tw542563422162235373:=()
def tw5323657890516693427:=()
def tw514280064592716601:=()
def tw5002640475654186023:=()
def tw4906484309439969231:=()
def tw4859391219904099992:=()
def tw4548300405975405348:=()
def tw4483904966330829159:=()
def tw447263597446747957:=()
def tw443766864951011646:=()
def tw4334401890000744311:=()
def tw4046790133079468173:=()
def tw4015202173357781934:=()
def tw3953844824629472508:=()
def tw384561282630992784:=()
def tw3778530596728393105:=()
def tw3641951560692057861:=()
def tw354308444213283272:=()
def tw3303267245142563540:=()
def tw3238445694619138142:=()
def tw3235425350174046738:=()
def tw3042748168174471775:=()
def tw2950685276103557050:=()
def tw2931988195819169919:=()
def tw2869065659524454656:=()
def tw28018229315631829:=()
def tw258204147387103276:=()
def tw2455152089536381482:=()
def tw2353497105660221152:=()
def tw1998347030407657756:=()
def tw1864683662541468164:=()
def tw1835071406663858368:=()
def tw18293242582946804979:=()
def tw18146532975450069615:=()
def tw18095796173783872564:=()
def tw17760279517084355780:=()
def tw17659185236578331656:=()
def tw17351735930882485243:=()
def tw17348111734160510231:=()
def tw17318462890700432884:=()
def tw1717767836212652739:=()
def tw17155049476370652306:=()
def tw17013487888433625170:=()
def tw16860917588515726111:=()
def tw16766484511958638138:=()
def tw16682895059504647277:=()
def tw16670775579421159206:=()
def tw16607193741793207195:=()
def tw16493865465440409018:=()
def tw16309811473084048462:=()
def tw16120054744476736488:=()
def tw16108870410212019532:=()
def tw15577281813014381367:=()
def tw15565715512253457277:=()
def tw15554417296805563061:=()
def tw15541240446876304647:=()
def tw15127105006835628225:=()
def tw1495895850433845275:=()
def tw14827714588952709054:=()
def tw14782755387869428366:=()
def tw14760874974797668852:=()
def tw14520296925931582552:=()
def tw14341141199694864594:=()
def tw140236481695663071:=()
def tw14022695629967993375:=()
def tw1383625962624193546:=()
def tw13631397514672939371:=()
def tw13385558918117058561:=()
def tw13367274342830030513:=()
def tw13307065042914920193:=()
def tw12954591660760965231:=()
def tw1293241653719404408:=()
def tw12773500944031208451:=()
def tw12770481643036789091:=()
def tw12669407529647801677:=()
def tw12528533614272120300:=()
def tw12459912946257978736:=()
def tw12269216009862288129:=()
def tw12099505692703838030:=()
def tw1207101557538958131:=()
def tw1205274952441263945:=()
def tw12003660372656728261:=()
def tw11962351593759143498:=()
def tw11907897558876765624:=()
def tw11823594873375168262:=()
def tw11662115353561507501:=()
def tw11481637867367846703:=()
def tw11429584451438056573:=()
def tw11384182702204212275:=()
def tw10888863842102328177:=()
def tw10624116801336726872:=()
def tw10611411778653204182:=()
def tw10519837036962490867:=()
def tw10258873121960336067:=()
def tw1000662321505670351:=()
end PySem.W.Fast
open_top hd for PySem.Challenge.rw_slipring_k37_whole_stand_texts
end
open PySem.W (Frag findIn nsIn mg_of mroIn keepIn kia_one excIn clsIn isFn mg_none_of plainGet hasDictIn makesIn codeIn exmAny plainOver callWith_K kitOne specialIn exmOne)
set_option hygiene false
local macro_rules
| `(↑1)=>`(⟨rfl,rfl,rfl,by decide +kernel,rfl,by decide +kernel,by decide +kernel⟩)
| `(↑2)=>`((λf cdv A outer s H vs Q E hr h=>?_))
| `(↑3)=>`((@d4 _ _ _ _ _ f9 (@d4 _ _ _ _ _ f9 (@d4 _ _ _ _ _ f9 (@d4 _ _ _ _ _ f9 (@d4 _ _ _ _ _ f9 (@d4 _ _ _ _ _ f9 (@d5 _) rfl) rfl) rfl) rfl) rfl) rfl))
| `(↑4)=>`((j5 G_law_take hr (by decide) rfl k7 (d4 (pv 0) (d4 d7 d5))))
| `(↑5)=>`((by decide))
set_option hygiene true
namespace L2
open PySem PySem.Spec PyProof.Rows
abbrev Key:=Sum Int Str
def d3l:Key->Value->Bool
 | .inl k,v=>Value.isInt k v
 | .inr x,v=>Value.isStrOf x v
def d7y(w:World):Key->Int
 | .inl k=>hashInt k
 | .inr x=>hashStr w x
theorem a1b:∀{k:Key}{v:Value},d3l k v=true->(∃i t,k=Sum.inl i/\v=Value.int i t)\/(∃x t,k=Sum.inr x/\v=Value.str x t)
 | .inl i,v,h=>by
  obtain⟨t,e⟩:=Value.isInt_shape (k:=i) (v:=v) h;exact .inl ⟨i,t,rfl,e⟩
 | .inr x,v,h=>by
  obtain⟨t,e⟩:=Value.isStrOf_shape (x:=x) (v:=v) h;exact .inr ⟨x,t,rfl,e⟩
theorem d3k(a b:Int):decide ((Sum.inl a:Key)=Sum.inl b)=(a == b):=by
 by_cases e:a=b
 ·subst e;simp
 ·have h:¬ (Sum.inl a:Key)=Sum.inl b:=λq=>e (Sum.inl.inj q)
  rw[decide_eq_false h];exact(beq_eq_false_iff_ne.mpr e).symm
theorem d3h(a b:Str):decide ((Sum.inr a:Key)=Sum.inr b)=decide (a=b):=by
 by_cases e:a=b
 ·subst e;simp
 ·have h:¬ (Sum.inr a:Key)=Sum.inr b:=λq=>e (Sum.inr.inj q)
  rw[decide_eq_false h,decide_eq_false e]
theorem d3j(a:Int)(b:Str):decide ((Sum.inl a:Key)=Sum.inr b)=false:=decide_eq_false (λq=>nomatch q)
theorem d3i(a:Str)(b:Int):decide ((Sum.inr a:Key)=Sum.inl b)=false:=decide_eq_false (λq=>nomatch q)
def c5g(prog:Program)(w:World):PySem.KeyKind prog w Key where
 is:=d3l
 hash:=d7y w
 inj:=λv a b ha hb=>by
  rcases a1b ha with ⟨i,t,rfl,rfl⟩|⟨x,t,rfl,rfl⟩
  ·rcases a1b hb with ⟨j,u,rfl,e⟩|⟨y,u,rfl,e⟩
   ·injection e with e1 _;rw[e1]
   ·exact nomatch e
  ·rcases a1b hb with ⟨j,u,rfl,e⟩|⟨y,u,rfl,e⟩
   ·exact nomatch e
   ·injection e with e1 _;rw[e1]
 byValue:=λk v h=>by
  rcases a1b h with ⟨i,t,rfl,rfl⟩|⟨x,t,rfl,rfl⟩ <;> rfl
 pyHash:=λhv h=>by
  rcases a1b hv with ⟨i,t,rfl,rfl⟩|⟨x,t,rfl,rfl⟩
  ·exact wpAny_pyHash_int h
  ·exact wpAny_pyHash_str h
 eqBool:=λhu hv h=>by
  rcases a1b hu with ⟨i,t,rfl,rfl⟩|⟨x,t,rfl,rfl⟩
  ·rcases a1b hv with ⟨j,u,rfl,rfl⟩|⟨y,u,rfl,rfl⟩
   ·rw[d3k] at h;exact wpAny_eqBool_int h
   ·rw[d3j] at h;exact SeqAt.EqAt.int_str i t y u _ _ _ _ h
  ·rcases a1b hv with ⟨j,u,rfl,rfl⟩|⟨y,u,rfl,rfl⟩
   ·rw[d3i] at h;exact SeqAt.EqAt.str_int x t j u _ _ _ _ h
   ·rw[d3h] at h;exact wpAny_eqBool_str h
 «strs»:=λk x t v h=>by
  rcases a1b h with ⟨i,u,rfl,e⟩|⟨y,u,rfl,e⟩
  ·exact nomatch e
  ·injection e with e1 _
   subst e1;cases v <;> rfl
end L2
namespace L2
open PySem PySem.Spec PyProof.Rows
inductive V where
 | non|bl (b:Bool)|int (i:Int)|str (x:Str)|byt (b:Array UInt8)|flt (b:UInt64)|ref (a:Addr)|ty (n:String)
 deriving DecidableEq
def RelV:V->Value->Prop
 | .non,u=>u=Value.none
 | .bl b,u=>u=Value.bool b
 | .int i,u=>∃t,u=Value.int i t
 | .str x,u=>∃t,u=Value.str x t
 | .byt b,u=>∃t,u=Value.bytes b t
 | .flt b,u=>∃t,u=Value.float b t
 | .ref a,u=>u=Value.ref a
 | .ty n,u=>u=Value.type n
abbrev Vals:List V->List Value->Prop:=Paired RelV
theorem Vals.length{xs:List V}{us:List Value}(r:Vals xs us):xs.length=us.length:=Paired.length r
theorem Vals.get:∀{xs:List V}{us:List Value}{i:Nat}{x:V},Vals xs us->xs[i]?=some x->∃u,us[i]?=some u/\RelV x u
 | _,_,_,_,.nil,e=>by simp at e
 | _,_,0,_,.cons r _,e=>by simp at e;subst e;exact⟨_,rfl,r⟩
 | _,_,i+1,x,.cons _ t,e=>by
  obtain⟨u,h1,h2⟩:=Vals.get (i:=i) (x:=x) t (by simpa using e)
  exact⟨u,by simpa using h1,h2⟩
theorem Vals.set{x:V}{u:Value}(r:RelV x u):∀{xs:List V}{us:List Value}(i:Nat),Vals xs us->Vals (xs.set i x) (us.set i u)
 | _,_,_,.nil=>.nil
 | _,_,0,.cons _ t=>.cons r t
 | _,_,i+1,.cons q t=>.cons q (Vals.set r i t)
theorem Vals.append{xs ys:List V}{us ws:List Value}(h:Vals xs us)(s:Vals ys ws):Vals (xs++ys) (us++ws):=by
 induction h with
 | nil=>exact s
 | cons r t ih=>exact .cons r ih
theorem Vals.take:∀{xs:List V}{us:List Value}(n:Nat),Vals xs us->Vals (xs.take n) (us.take n)
 | _,_,0,_=>.nil
 | _,_,_+1,.nil=>.nil
 | _,_,n+1,.cons r t=>.cons r (Vals.take n t)
theorem Vals.drop:∀{xs:List V}{us:List Value}(n:Nat),Vals xs us->Vals (xs.drop n) (us.drop n)
 | _,_,0,r=>r
 | _,_,_+1,.nil=>.nil
 | _,_,n+1,.cons _ t=>Vals.drop n t
theorem Vals.none_of:∀{xs:List V}{us:List Value}{i:Nat},Vals xs us->xs[i]?=none->us[i]?=none:=λ{xs us i} r e=>by
 have h1:=r.length;have h2:xs.length<=i:=List.getElem?_eq_none_iff.mp e;exact List.getElem?_eq_none_iff.mpr (by lia)
def d6n:Option V->Option Value->Prop
 | some v,some u=>RelV v u
 | none,none=>True
 | _,_=>False
def KV{κ:Type}:List (κ×V)->List (κ×Value)->Prop:=Paired λ(p:κ×V) (q:κ×Value)=>p.1=q.1/\RelV p.2 q.2
def kV:Key->V
 | .inl i=>.int i
 | .inr x=>.str x
inductive HO where
 | lst (xs:List V)
 | tup (xs:List V)
 | dK (kvs:List (Key×V))|dT (kvs:List (List Key×V))
 | set (S:Int->Bool) (n:Nat)
 | ins (C dx:Addr) (fs:List (Str×V))
 | own (x:Addr)
 | xd (fs:List (Str×V))
 | met (f x:Addr)
 | rng (lo hi:Int)
 | frz (o:Obj) (u:HO)
 | tbl (ps:Array Value)
 | ext (φ:Heap->Prop)
abbrev Hp:=Addr->Option HO
def upd(H:Hp)(a:Addr)(o:HO):Hp:=λb=>if b=a then some o else H b
theorem d8{H:Hp}{a:Addr}{o:HO}:upd H a o a=some o:=by unfold upd;rw[if_pos rfl]
theorem j4{H:Hp}{a b:Addr}{o:HO}(h:b≠a):upd H a o b=H b:=by unfold upd;rw[if_neg h]
theorem b9l{H:Hp}{a:Addr}{o u:HO}:upd (upd H a o) a u=upd H a u:=by
 funext b;unfold upd;split <;> rfl
theorem g9{H:Hp}{a b:Addr}{o:HO}(h:H a=some o)(h':H b=none):a≠b:=by
 intro e;subst e;rw[h] at h';cases h'
section
variable(P:Program)(w:World)
def ObjOk(H:Hp)(h:Heap)(a:Addr):HO->Prop
 | .lst xs=>xs.length<=sizeLine/\∃(its:List Value)(n:Nat),Vals xs its/\h.get? a=some { cls:=.type "list",data:=.seq its.toArray n }
 | .tup xs=>xs.length<=sizeLine/\∃its:List Value,Vals xs its/\IsTup h a its.toArray
 | .dK kvs=>kvs.length<=sizeLine/\(a == sysModules)=false/\∃vs,KV kvs vs/\h.DictOf (c5g P w) a vs
 | .dT kvs=>kvs.length<=sizeLine/\(a == sysModules)=false/\∃xs:List (List Key×Addr×Value),
   Paired (λ(p:List Key×V) (q:List Key×Addr×Value)=>p.1=q.1/\H q.2.1=some (.tup (p.1.map kV))/\RelV p.2 q.2.2) kvs xs /\
   ∃o es ep,h.get? a=some o/\o.ExactDict/\o.data=.dict es ep/\es.toList=xs.map (entryOfKey (tupleKind (c5g P w)))/\(xs.map (·.1)).Nodup
 | .set S n=>h.SetOf (intKind P w) a S n
 | .ins C dx fs=>H dx=some (.own a)/\fs.length<=1000/\dx≠a/\h.get? a=some (PySem.W.instObj C dx) /\
   ∃mA,h.Ns1 dx mA/\(∀f,d6n (fs.lookup f) (mA f))/\PySem.Within mA (fs.map (·.1))
 | .own _=>∃o,h.get? a=some o
 | .xd fs=>∃mA,h.Ns1 a mA/\∀f,d6n (fs.lookup f) (mA f)
 | .rng lo hi=>∃t u v,h.get? a=some { cls:=.type "range",data:=.fields #[.int lo t,.int hi u,.int 1 v] }
 | .frz o u=>h.get? a=some o/\ObjOk H h a u
 | .tbl ps=>h.get? a=some { cls:=.none,data:=.fields ps }
 | .met f x=>h.get? a=some (PySem.W.methodObj (.ref f) (.ref x))
 | .ext φ=>φ h/\(∃o,h.get? a=some o)/\∀h1 h2:Heap,φ h1->(∀o,h1.get? a=some o->h2.get? a=some o)->φ h2
def HOk(H:Hp)(h:Heap):Prop:=∀a o,H a=some o->ObjOk P w H h a o
end
section
variable{P:Program}{w:World}{H H':Hp}{h h':Heap}{a:Addr}{o:HO}
theorem ObjOk.lt(x:ObjOk P w H h a o):a<h.objs.size:=by
 cases o with
 | lst xs=>obtain⟨_,_,_,_,e⟩:=x;exact Heap.lt_size e
 | tup xs=>obtain⟨_,_,_,p⟩:=x;exact p.lt
 | dK kvs=>obtain⟨_,_,_,_,o,_,_,e,_⟩:=x;exact Heap.lt_size e
 | dT kvs=>obtain⟨_,_,_,_,o,_,_,e,_⟩:=x;exact Heap.lt_size e
 | set S n=>obtain⟨o,_,_,_,e,_⟩:=x;exact Heap.lt_size e
 | ins C dx fs=>obtain⟨_,_,_,e,_⟩:=x;exact Heap.lt_size e
 | own y=>obtain⟨_,e⟩:=x;exact Heap.lt_size e
 | xd fs=>obtain⟨_,⟨_,_,_,e,_⟩,_⟩:=x;exact Heap.lt_size e
 | rng lo hi=>obtain⟨_,_,_,e⟩:=x;exact Heap.lt_size e
 | frz ob u=>obtain⟨e,_⟩:=x;exact Heap.lt_size e
 | tbl ps=>exact Heap.lt_size (show h.get? a=some _ from x)
 | met f y=>exact Heap.lt_size (show h.get? a=some _ from x)
 | ext φ=>obtain⟨_,⟨_,e⟩,_⟩:=x;exact Heap.lt_size e
theorem Paired.mapP{α β:Type}{F G:α->β->Prop}{l₁:List α}{l₂:List β}(h:Paired F l₁ l₂)(f:∀a b,F a b->G a b):Paired G l₁ l₂:=by
 induction h with
 | nil=>exact .nil
 | cons r t ih=>exact .cons (f _ _ r) ih
theorem ObjOk.stay(x:ObjOk P w H h a o)(k:∀b u,(b=a\/H b=some (.own a))->h.get? b=some u->h'.get? b=some u)(ho:∀b,H b=some (.own a)->H' b=some (.own a))(ht:∀b xs,H b=some (.tup xs)->H' b=some (.tup xs)):ObjOk P w H' h' a o:=by
 induction o with
 | lst xs=>obtain⟨z,its,n,r,e⟩:=x;exact⟨z,its,n,r,k _ _ (.inl rfl) e⟩
 | tup xs=>obtain⟨z,its,r,ob,e,c⟩:=x;exact⟨z,its,r,ob,k _ _ (.inl rfl) e,c⟩
 | dK kvs=>obtain⟨z,y,vs,r,ob,es,ep,e,c⟩:=x;exact⟨z,y,vs,r,ob,es,ep,k _ _ (.inl rfl) e,c⟩
 | dT kvs=>
  obtain⟨z,y,xs,r,ob,es,ep,e,c⟩:=x;exact⟨z,y,xs,Paired.mapP r λp q z=>⟨z.1,ht _ _ z.2.1,z.2.2⟩,ob,es,ep,k _ _ (.inl rfl) e,c⟩
 | set S n=>obtain⟨ob,es,ep,t,e,c⟩:=x;exact⟨ob,es,ep,t,k _ _ (.inl rfl) e,c⟩
 | ins C dx fs=>
  obtain⟨d,z,ne,e,mA,⟨od,es,ep,e2,c⟩,r⟩:=x;exact⟨ho _ d,z,ne,k _ _ (.inl rfl) e,mA,⟨od,es,ep,k _ _ (.inr d) e2,c⟩,r⟩
 | own y=>obtain⟨ob,e⟩:=x;exact⟨ob,k _ _ (.inl rfl) e⟩
 | xd fs=>obtain⟨mA,⟨od,es,ep,e,c⟩,r⟩:=x;exact⟨mA,⟨od,es,ep,k _ _ (.inl rfl) e,c⟩,r⟩
 | rng lo hi=>obtain⟨t,u,v,e⟩:=x;exact⟨t,u,v,k _ _ (.inl rfl) e⟩
 | frz ob u ih=>obtain⟨e,q⟩:=x;exact⟨k _ _ (.inl rfl) e,ih q⟩
 | tbl ps=>
  have e:h.get? a=some { cls:=.none,data:=.fields ps }:=x;show h'.get? a=some { cls:=.none,data:=.fields ps };exact k a _ (.inl rfl) e
 | met f y=>
  have e:h.get? a=some (PySem.W.methodObj (.ref f) (.ref y)):=x;show h'.get? a=some (PySem.W.methodObj (.ref f) (.ref y));exact k a _ (.inl rfl) e
 | ext φ=>obtain⟨p,⟨o,e⟩,st⟩:=x;exact⟨st _ _ p λo q=>k _ _ (.inl rfl) q,⟨o,k _ _ (.inl rfl) e⟩,st⟩
theorem HOk.lt(x:HOk P w H h)(e:H a=some o):a<h.objs.size:=(x a o e).lt
theorem HOk.fresh(x:HOk P w H h)(e:h.objs.size<=a):H a=none:=by
 cases q:H a with
 | none=>rfl
 | some u=>exact absurd (Nat.lt_of_lt_of_le (x.lt q) e) (Nat.lt_irrefl _)
theorem HOk.kept(x:HOk P w H h)(k:∀b u,h.get? b=some u->h'.get? b=some u):HOk P w H h':=λa o e=>
 (x a o e).stay (λb u _ q=>k b u q) (λ_ q=>q) λ_ _ q=>q
theorem HOk.laid(x:HOk P w H h)(k:∀b u,h.get? b=some u->h'.get? b=some u)(hp:h.objs.size<=a)(new:ObjOk P w (upd H a o) h' a o):HOk P w (upd H a o) h':=λb u e=>by
 have hn:=x.fresh hp;by_cases hb:b=a
 ·subst hb;rw[d8] at e;cases e;exact new
 ·rw[j4 hb] at e
  exact(x b u e).stay (λc v _ q=>k c v q) (λc q=>by rw[j4 (g9 q hn)];exact q) λc xs q=>by rw[j4 (g9 q hn)];exact q
end
def Rd(H:Hp)(a:Addr)(u:HO):Prop:=H a=some u \/ ∃o,H a=some (.frz o u)
theorem Rd.ok{P:Program}{w:World}{H:Hp}{h:Heap}{a:Addr}{u:HO}(r:Rd H a u)(x:HOk P w H h):ObjOk P w H h a u:=by
 rcases r with r|⟨o,r⟩
 ·exact x a u r
 ·obtain⟨_,q⟩:=x a _ r
  exact q
def Mut:Option HO->Prop
 | some (.lst _)=>True
 | some (.dK _)=>True
 | some (.dT _)=>True
 | some (.set _ _)=>True
 | some (.ins _ _ _)=>True
 | some (.ext _)=>True
 | _=>False
section
variable{P:Program}{w:World}{H:Hp}{h h':Heap}{x e:Addr}{o':HO}
theorem HOk.write(ok:HOk P w H h)(mu:Mut (H x))(he:e=x\/H e=some (.own x))(k:∀b u,b≠e->h.get? b=some u->h'.get? b=some u)(heo:∃u,h'.get? e=some u)(new:ObjOk P w (upd H x o') h' x o'):HOk P w (upd H x o') h':=λb u q=>by
 have nown:∀c y,H c=some (.own y)->c≠x:=λc y r z=>by subst z;rw[r] at mu;exact mu
 have ntup:∀c xs,H c=some (.tup xs)->c≠x:=λc xs r z=>by subst z;rw[r] at mu;exact mu
 by_cases hb:b=x
 ·subst hb;rw[d8] at q;cases q;exact new
 ·rw[j4 hb] at q
  by_cases hbe:b=e
  ·have q':H b=some (.own x):=by
    rcases he with z|z
    ·exact absurd (hbe.trans z) hb
    ·rw[hbe];exact z
   rw[q] at q';cases q';obtain⟨v,hv⟩:=heo;exact⟨v,by rw[hbe];exact hv⟩
  ·refine (ok b u q).stay (λc v hc r=>k c v ?_ r) (λc r=>by rw[j4 (nown c b r)];exact r) λc xs r=>by rw[j4 (ntup c xs r)];exact r
   rcases hc with rfl|hc
   ·exact hbe
   ·rintro rfl
    rcases he with z|z
    ·exact nown c b hc z
    ·rw[hc] at z;cases z;exact hb rfl
end
structure Un(fs ex:List Addr)(H H':Hp)(h h':Heap):Prop where
 keep:∀b o,h.get? b=some o->H b=none->b ∉ fs->b ∉ ex->h'.get? b=some o
 slot:∀b o,h.get? b=some o->H b=none->b∈fs->b ∉ ex->∃sl,h'.get? b=some { o with slots:=sl }
 free:∀b o,h.get? b=some o->H b=none->b ∉ ex->H' b=none
 there:∀b o,h.get? b=some o->b ∉ ex->∃o',h'.get? b=some o'
 tups:∀b xs,H b=some (.tup xs)->H' b=some (.tup xs)
 frzs:∀b o u,H b=some (.frz o u)->H' b=some (.frz o u)
 tbls:∀b ps,H b=some (.tbl ps)->∃more,H' b=some (.tbl (ps++more))
section
variable{fs fs' ex ex':List Addr}{H H1 H2:Hp}{h h1 h2 h':Heap}{a x e:Addr}{o:HO}
theorem Un.any(u:Un fs ex H H1 h h1){b:Addr}{ob:Obj}(q:h.get? b=some ob)(n:H b=none)(hx:b ∉ ex):∃sl,h1.get? b=some { ob with slots:=sl }:=by
 by_cases hb:b∈fs
 ·exact u.slot b ob q n hb hx
 ·exact⟨ob.slots,u.keep b ob q n hb hx⟩
theorem Un.kept(k:∀b u,h.get? b=some u->h'.get? b=some u):Un fs ex H H h h' :=
 ⟨λb ob q _ _ _=>k b ob q,λb ob q _ _ _=>⟨ob.slots,k b ob q⟩,λ_ _ _ n _=>n,λb ob q _=>⟨ob,k b ob q⟩,λ_ _ q=>q,λ_ _ _ q=>q,λ_ ps q=>⟨#[],by rw[q];simp⟩⟩
theorem Un.refl:Un fs ex H H h h:=Un.kept λ_ _ q=>q
theorem Un.laid(k:∀b u,h.get? b=some u->h'.get? b=some u)(hp:h.objs.size<=a)(hn:H a=none):Un fs ex H (upd H a o) h h' where
 keep:=λb u q _ _ _=>k b u q
 slot:=λb u q _ _ _=>⟨u.slots,k b u q⟩
 free:=λb u q n _=>by rw[j4 (Nat.ne_of_lt (Nat.lt_of_lt_of_le (Heap.lt_size q) hp))];exact n
 there:=λb u q _=>⟨u,k b u q⟩
 tups:=λb xs q=>by rw[j4 (g9 q hn)];exact q
 frzs:=λb u xs q=>by rw[j4 (g9 q hn)];exact q
 tbls:=λb ps q=>⟨#[],by rw[j4 (g9 q hn),q];simp⟩
theorem Un.write(mu:Mut (H x))(he:e=x\/H e=some (.own x))(k:∀b u,b≠e->h.get? b=some u->h'.get? b=some u)(heo:∃u,h'.get? e=some u):Un fs ex H (upd H x o) h h':=by
 have hx:∀b,H b=none->b≠x:=λb n z=>by subst z;rw[n] at mu;exact mu
 have hb:∀b,H b=none->b≠e:=λb n z=>by
  subst z;rcases he with r|r
  ·exact hx b n r
  ·rw[n] at r;cases r
 have hm:∀b u,H b=some u->¬ Mut (some u)->b≠x:=λb u q nm z=>by subst z;rw[q] at mu;exact nm mu
 refine⟨λb u q n _ _=>k b u (hb b n) q,λb u q n _ _=>⟨u.slots,k b u (hb b n) q⟩,λb u q n _=>by rw[j4 (hx b n)];exact n,λb u q _=>?_,
  λb xs q=>by rw[j4 (hm b _ q λz=>z)];exact q,λb u xs q=>by rw[j4 (hm b _ q λz=>z)];exact q,λb ps q=>⟨#[],by rw[j4 (hm b _ q λz=>z),q];simp⟩⟩
 by_cases hbe:b=e
 ·subst hbe;exact heo
 ·exact⟨u,k b u hbe q⟩
end
def trk(h:Heap)(H:Hp):List Addr:=(List.range h.objs.size).filter λa=>(H a).isSome
def c7w(h:Heap)(H:Hp):Heap:=PySem.W.hideAll h (trk h H)
theorem c5o(h:Heap)(H:Hp):(c7w h H).objs.size=h.objs.size:=PySem.W.hideAll_size _ _
theorem c7v{h:Heap}{H:Hp}{b:Addr}{o:Obj}(e:h.get? b=some o)(n:H b=none):(c7w h H).get? b=some o :=
 PySem.W.hideAll_get _ e λhm=>by
  have q:(H b).isSome=true:=(List.mem_filter.mp hm).2;rw[n] at q;simp at q
theorem d0r{h:Heap}{H:Hp}{b:Addr}{o:Obj}(e:(c7w h H).get? b=some o):h.get? b=some o/\H b=none:=by
 have e':h.get? b=some o:=PySem.W.of_hideAll (trk h H) e;refine⟨e',?_⟩;cases q:H b with
 | none=>rfl
 | some x=>
  have hm:b∈trk h H:=List.mem_filter.mpr ⟨List.mem_range.mpr (Heap.lt_size e'),by simp[q]⟩
  have z:(c7w h H).get? b=none:=PySem.W.hideAll_none (trk h H) hm;rw[z] at e;cases e
end L2
namespace L2
open PySem PySem.Spec PyProof.Rows
structure Mod(K:Frag)(mg:Str->Option Value)(base:Heap):Prop where
 kin:K.In base
 glob:base.Ns mainGlobals mg
 blt:∃mb,base.Ns builtinsNs mb/\∀x:Str,x≠"__name__"->mb x=bootBuiltins x
 nolimit:base.NoLimit
structure Cx where
 prog:Program
 w:World
 K:Frag
 mg:Str->Option Value
 base:Heap
 A:Around
 N:List Str
 s₀:Shared
 H₀:Hp
 env:Env
 outer:List Env
 stack:List Env
 ex:List Addr
 fn:Str->Bool
 calm:Bool
 pn:List (Addr×Obj)
 xe:Value->Shared->Prop
def frs(l:List Env):List Addr:=l.filterMap (·.frame)
abbrev Cx.fs(X:Cx):List Addr:=frs X.outer
def Vis(sc:Scope)(x:Str):Prop:=sc.names.lookup x=some .local\/sc.names.lookup x=some .cell\/sc.names.lookup x=some .free
def Loc(sc:Scope)(x:Str):Prop:=sc.names.lookup x=some .local\/sc.names.lookup x=some .cell
def d7q(env:Env)(h:Heap)(m:Str->Option Value)(x:Str)(u:Value):Prop :=
 (env.kindOf x=some .local/\m x=some u)\/((env.kindOf x=some .cell\/env.kindOf x=some .free)/\∃c,env.cells.lookup x=some c/\h.IsCell c (some u))
structure Cx.Ok(X:Cx):Prop where
 mod:Mod X.K X.mg X.base
 kind:X.env.scope.kind=.function
 glob:X.env.globals=mainGlobals
 blt:X.env.builtins=builtinsNs
 above:X.s₀.heap.objs.size<=X.env.locals
 inj:∀x y c,X.env.cells.lookup x=some c->X.env.cells.lookup y=some c->x=y
 has:∀x,(X.env.kindOf x=some .cell\/X.env.kindOf x=some .free)->∃c,X.env.cells.lookup x=some c
 cab:∀x c,X.fn x=true->X.env.cells.lookup x=some c->X.s₀.heap.objs.size<=c
 hd:X.calm=true->X.A.handled=none
 frames:X.A.frames=some X.stack
 stk:X.stack=X.outer\/(X.stack=X.env::X.outer/\X.env.frame=some X.env.locals)
 exf:∀b∈X.ex,b≠X.env.locals/\∀x c,X.env.cells.lookup x=some c->c≠b
 bs:∀b o,X.base.get? b=some o->X.s₀.heap.get? b=some o/\X.H₀ b=none
 bsz:X.base.objs.size<=X.s₀.heap.objs.size
 noex:∀b o,X.base.get? b=some o->b ∉ X.ex
 exfs:∀b∈X.ex,b ∉ X.fs
 funs:X.s₀.heap.FunFrames X.base X.outer
 frf:∀b∈X.fs,X.H₀ b=none
structure Inv(X:Cx)(pins:List (Addr×Obj))(σ:List (Option V))(H:Hp)(s:Shared):Prop where
 ok:X.Ok
 os:s.os=X.s₀.os
 bare:AllBare s.gens
 base:Un X.fs X.ex X.H₀ H X.s₀.heap s.heap
 loc:∃m,s.heap.Ns X.env.locals m/\∀(i:Nat)(x:Str)(v:V),X.N[i]?=some x->σ[i]?=some (some v)->Vis X.env.scope x->∃u,RelV v u/\d7q X.env s.heap m x u
 cell:∀x c,X.env.cells.lookup x=some c->∃v,s.heap.IsCell c v
 free:H X.env.locals=none
 freeC:∀x c,X.env.cells.lookup x=some c->H c=none
 pin:∀p∈X.pn++pins,s.heap.get? p.1=some p.2/\H p.1=none/\p.1≠X.env.locals/\p.1 ∉ X.fs/\∀v,p.2.data≠.cell v
 hok:HOk X.prog X.w H s.heap
 len:σ.length=X.N.length
section
variable{X:Cx}{pins:List (Addr×Obj)}{σ:List (Option V)}{H H':Hp}{s:Shared}{h':Heap}
theorem Cx.Ok.nofr(ok:X.Ok){b:Addr}{o:Obj}(e:X.base.get? b=some o):b ∉ X.fs:=λhb=>by
 have:=(ok.funs.mem hb).1;rw[e] at this;cases this
theorem Inv.bs(I:Inv X pins σ H s):∀b o,X.base.get? b=some o->s.heap.get? b=some o/\H b=none:=λb o e=>
 ⟨I.base.keep b o (I.ok.bs b o e).1 (I.ok.bs b o e).2 (I.ok.nofr e) (I.ok.noex b o e),I.base.free b o (I.ok.bs b o e).1 (I.ok.bs b o e).2 (I.ok.noex b o e)⟩
theorem Inv.bk(I:Inv X pins σ H s):∀b o,X.base.get? b=some o->s.heap.get? b=some o:=λb o e=>(I.bs b o e).1
theorem Inv.mod(I:Inv X pins σ H s):Mod X.K X.mg X.base:=I.ok.mod
theorem Inv.kIn(I:Inv X pins σ H s):X.K.In s.heap:=I.ok.mod.kin.keeps I.bk
theorem Inv.lt(I:Inv X pins σ H s):X.env.locals<s.heap.objs.size:=by obtain⟨_,hn,_⟩:=I.loc;exact hn.lt
theorem Inv.sz(I:Inv X pins σ H s):X.s₀.heap.objs.size<=s.heap.objs.size:=Nat.le_trans I.ok.above (Nat.le_of_lt I.lt)
theorem Inv.nofs(I:Inv X pins σ H s){a:Addr}(h:s.heap.objs.size<=a):a ∉ X.fs:=λhb=>by
 obtain⟨_,o,ho,_⟩:=I.ok.funs.mem hb;exact absurd (Nat.lt_of_lt_of_le (Heap.lt_size ho) (Nat.le_trans I.sz h)) (Nat.lt_irrefl _)
theorem Inv.cne(I:Inv X pins σ H s):∀x c,X.env.cells.lookup x=some c->c≠X.env.locals:=λx c e z=>by
 obtain⟨v,o,ho,hd⟩:=I.cell x c e;obtain⟨m,⟨o',es,ep,ho',hd',_⟩,_⟩:=I.loc;rw[z,ho'] at ho;cases ho;rw[hd'] at hd;cases hd
theorem Inv.funs(I:Inv X pins σ H s):s.heap.FunFrames X.base X.outer:=by
 have all:∀(l:List Env),(∀b∈frs l,b∈X.fs)->X.s₀.heap.FunFrames X.base l->s.heap.FunFrames X.base l:=by
  intro l
  induction l with
  | nil=>intro _ _;trivial
  | cons env r ih=>
   intro hs hl;obtain⟨hk,⟨L,o,hf,hn,ho,hd⟩,hr⟩:=hl;have hL:L∈X.fs:=hs L (by unfold frs;rw[List.filterMap_cons,hf];exact List.mem_cons_self)
   obtain⟨sl,e⟩:=I.base.slot L o ho (I.ok.frf L hL) hL λz=>I.ok.exfs L z hL;exact⟨hk,⟨L,_,hf,hn,e,hd⟩,ih (λb hb=>hs b (by unfold frs;rw[List.filterMap_cons,hf];exact List.mem_cons_of_mem _ hb)) hr⟩
 exact all X.outer (λ_ hb=>hb) I.ok.funs
theorem Inv.stack(I:Inv X pins σ H s):s.heap.FunFrames X.base X.stack:=by
 rcases I.ok.stk with e|⟨e,hf⟩
 ·rw[e];exact I.funs
 ·rw[e]
  obtain⟨m,hn,_⟩:=I.loc;refine .cons (by rw[I.ok.kind];decide) hf hn ?_ I.funs
  exact Heap.get?_none_of_le (Nat.le_trans I.ok.bsz I.ok.above)
theorem Inv.stkSub(I:Inv X pins σ H s):∀b∈frs X.stack,b∈X.env.locals::X.fs:=λb hb=>by
 rcases I.ok.stk with e|⟨e,hf⟩
 ·rw[e] at hb;exact List.mem_cons_of_mem _ hb
 ·rw[e] at hb
  unfold frs at hb;rw[List.filterMap_cons,hf] at hb;exact hb
theorem Inv.stkFree(I:Inv X pins σ H s):∀b∈frs X.stack,H b=none:=λb hb=>by
 rcases List.mem_cons.mp (I.stkSub b hb) with e|hb
 ·rw[e];exact I.free
 ·obtain⟨_,o,ho,_⟩:=I.ok.funs.mem hb
  exact I.base.free b o ho (I.ok.frf b hb) λz=>I.ok.exfs b z hb
theorem Inv.step{g':Array GenState}{t':Nat}{d':Drawn}{ch:List Addr}(I:Inv X pins σ H s)(hch:∀b∈ch,(b∈X.ex\/X.s₀.heap.objs.size<=b)/\b≠X.env.locals/\(∀x c,X.env.cells.lookup x=some c->c≠b)/\∀p∈X.pn++pins,p.1≠b)(keep:∀b o,b≠X.env.locals->b ∉ X.fs->b ∉ ch->s.heap.get? b=some o->H b=none->h'.get? b=some o)(slot:∀b o,b≠X.env.locals->b∈X.fs->b ∉ ch->s.heap.get? b=some o->H b=none->∃sl,h'.get? b=some { o with slots:=sl })(free:∀b o,b ∉ ch->s.heap.get? b=some o->H b=none->H' b=none)(there:∀b o,b ∉ ch->s.heap.get? b=some o->∃o',h'.get? b=some o')(tups:∀b xs,H b=some (.tup xs)->H' b=some (.tup xs))(frzs:∀b o u,H b=some (.frz o u)->H' b=some (.frz o u))(tbls:∀b ps,H b=some (.tbl ps)->∃more,H' b=some (.tbl (ps++more)))(ns:∀m,s.heap.Ns X.env.locals m->h'.Ns X.env.locals m)(hok:HOk X.prog X.w H' h')(hg:AllBare g'):
  Inv X pins σ H' { s with heap:=h',gens:=g',drawn:=d',toks:=t' }:=by
 have neL:∀b o,X.s₀.heap.get? b=some o->b≠X.env.locals:=λb o e=>Nat.ne_of_lt (Nat.lt_of_lt_of_le (Heap.lt_size e) I.ok.above);have neC:∀b o,X.s₀.heap.get? b=some o->b ∉ X.ex->b ∉ ch:=λb o e hx hb=>by
  rcases (hch b hb).1 with z|z
  ·exact hx z
  ·exact absurd (Nat.lt_of_lt_of_le (Heap.lt_size e) z) (Nat.lt_irrefl _)
 have cellK:∀x c,X.env.cells.lookup x=some c->∀v,s.heap.IsCell c v->h'.IsCell c v:=λx c e v zb_=>by
  obtain⟨o,ho,hd⟩:=zb_;have nch:c ∉ ch:=λz=>(hch c z).2.2.1 x c e rfl;by_cases hc:c∈X.fs
  ·obtain⟨sl,q⟩:=slot c o (I.cne x c e) hc nch ho (I.freeC x c e)
   exact⟨_,q,hd⟩
  ·exact⟨o,keep c o (I.cne x c e) hc nch ho (I.freeC x c e),hd⟩
 refine⟨I.ok,I.os,hg,⟨λb o e n hb hx=>?_,λb o e n hb hx=>?_,λb o e n hx=>?_,λb o e hx=>?_,λb xs e=>tups b xs (I.base.tups b xs e),λb o xs e=>frzs b o xs (I.base.frzs b o xs e),λb ps e=>?_⟩,?_,λx c e=>?_,?_,λx c e=>?_,λp hp=>?_,hok,I.len⟩
 ·exact keep b o (neL b o e) hb (neC b o e hx) (I.base.keep b o e n hb hx) (I.base.free b o e n hx)
 ·obtain⟨sl,e1⟩:=I.base.slot b o e n hb hx
  obtain⟨sl',e2⟩:=slot b _ (neL b o e) hb (neC b o e hx) e1 (I.base.free b o e n hx);exact⟨sl',e2⟩
 ·obtain⟨o',e1⟩:=I.base.there b o e hx
  exact free b o' (neC b o e hx) e1 (I.base.free b o e n hx)
 ·obtain⟨o',e1⟩:=I.base.there b o e hx
  exact there b o' (neC b o e hx) e1
 ·obtain⟨m1,e1⟩:=I.base.tbls b ps e
  obtain⟨m2,e2⟩:=tbls b _ e1;exact⟨m1++m2,by rw[e2,Array.append_assoc]⟩
 ·obtain⟨m,hn,hl⟩:=I.loc
  refine⟨m,ns m hn,λi x v e1 e2 e3=>?_⟩;obtain⟨u,r,l⟩:=hl i x v e1 e2 e3;refine⟨u,r,?_⟩;rcases l with l|⟨k,c,e,z⟩
  ·exact .inl l
  ·exact .inr ⟨k,c,e,cellK x c e _ z⟩
 ·obtain⟨v,z⟩:=I.cell x c e
  exact⟨v,cellK x c e v z⟩
 ·obtain⟨m,⟨o,_,_,ho,_⟩,_⟩:=I.loc
  exact free _ o (λz=>(hch _ z).2.1 rfl) ho I.free
 ·obtain⟨v,o,ho,hd⟩:=I.cell x c e
  exact free c o (λz=>(hch c z).2.2.1 x c e rfl) ho (I.freeC x c e)
 ·obtain⟨e,n,ne,nf,d⟩:=I.pin p hp
  have nch:p.1 ∉ ch:=λz=>(hch p.1 z).2.2.2 p hp rfl;exact⟨keep p.1 p.2 ne nf nch e n,free p.1 p.2 nch e n,ne,nf,d⟩
theorem Inv.un{t':Nat}(I:Inv X pins σ H s)(u:Un X.fs [] H H' s.heap h')(hok:HOk X.prog X.w H' h'):Inv X pins σ H' { s with heap:=h',toks:=t' }:=by
 obtain⟨m,⟨o,es,ep,ho,r⟩,_⟩:=id I.loc;obtain⟨sl,hL⟩:=u.any ho I.free (by simp)
 exact I.step (g':=s.gens) (d':=s.drawn) (ch:=[]) (λ_ z=>nomatch z) (λb o _ hb _ e n=>u.keep b o e n hb (by simp)) (λb o _ hb _ e n=>u.slot b o e n hb (by simp)) (λb o _ e n=>u.free b o e n (by simp)) (λb o _ e=>u.there b o e (by simp)) u.tups u.frzs u.tbls (λm' hm=>by
  obtain⟨o',es',ep',ho',r'⟩:=hm;rw[ho] at ho';cases ho';exact⟨_,es',ep',hL,r'⟩) hok I.bare
theorem Inv.call{g':Array GenState}{t':Nat}{d':Drawn}{ch:List Addr}(I:Inv X pins σ H s)(u:Un (frs X.stack) ch H H' s.heap h')(hok:HOk X.prog X.w H' h')(hg:AllBare g')(hch:∀b∈ch,(b∈X.ex\/X.s₀.heap.objs.size<=b)/\b≠X.env.locals/\(∀x c,X.env.cells.lookup x=some c->c≠b)/\∀p∈X.pn++pins,p.1≠b):
  Inv X pins σ H' { s with heap:=h',gens:=g',drawn:=d',toks:=t' }:=by
 obtain⟨m,⟨o,es,ep,ho,r⟩,_⟩:=id I.loc;obtain⟨sl,hL⟩:=u.any ho I.free λz=>(hch _ z).2.1 rfl;exact I.step (ch:=ch) hch (λb o hL hb hc e n=>u.keep b o e n (λz=>(List.mem_cons.mp (I.stkSub b z)).elim hL hb) hc) (λb o _ _ hc e n=>u.any e n hc) (λb o hc e n=>u.free b o e n hc) (λb o hc e=>u.there b o e hc) u.tups u.frzs u.tbls (λm' hm=>by
  obtain⟨o',es',ep',ho',r'⟩:=hm;rw[ho] at ho';cases ho';exact⟨_,es',ep',hL,r'⟩) hok hg
theorem Inv.turned{t':Nat}{it:Addr}(I:Inv X pins σ H s)(k:∀b o,b≠it->s.heap.get? b=some o->h'.get? b=some o)(hn:H it=none)(hL:it≠X.env.locals)(h1:it∈X.ex\/X.s₀.heap.objs.size<=it)(h2:∀x c,X.env.cells.lookup x=some c->c≠it)(h3:∀p∈X.pn++pins,p.1≠it):Inv X pins σ H { s with heap:=h',toks:=t' }:=by
 have nit:∀b u,H b=some u->b≠it:=λb u e z=>by rw[z,hn] at e;cases e
 refine I.step (g':=s.gens) (d':=s.drawn) (ch:=[it]) (λb hb=>?_) (λb o _ _ hc e _=>k b o (λz=>hc (by simp[z])) e) (λb o _ _ hc e _=>⟨o.slots,k b o (λz=>hc (by simp[z])) e⟩) (λ_ _ _ _ n=>n)
  (λb o hc e=>⟨o,k b o (λz=>hc (by simp[z])) e⟩) (λ_ _ e=>e) (λ_ _ _ e=>e) (λb ps e=>⟨#[],by rw[e];simp⟩) (λm hm=>?_) (λb u e=>?_) I.bare
 ·have e:b=it:=by simpa using hb
  subst e;exact⟨h1,hL,h2,h3⟩
 ·obtain⟨o,es,ep,ho,r⟩:=hm
  exact⟨o,es,ep,k _ o (Ne.symm hL) ho,r⟩
 ·refine (I.hok b u e).stay (λc v hc q=>k c v ?_ q) (λ_ q=>q) λ_ _ q=>q
  rcases hc with z|z
  ·rw[z];exact nit b u e
  ·exact nit c _ z
theorem Inv.tok(I:Inv X pins σ H s)(t:Nat):Inv X pins σ H { s with toks:=t }:=I.un (h':=s.heap) (t':=t) Un.refl I.hok
theorem Inv.kept{t':Nat}(I:Inv X pins σ H s)(k:∀b u,s.heap.get? b=some u->h'.get? b=some u):Inv X pins σ H { s with heap:=h',toks:=t' }:=I.un (Un.kept k) (I.hok.kept k)
theorem Inv.laid{a:Addr}{o:HO}{t':Nat}(I:Inv X pins σ H s)(k:∀b u,s.heap.get? b=some u->h'.get? b=some u)(hp:s.heap.objs.size<=a)(new:ObjOk X.prog X.w (upd H a o) h' a o):
  Inv X pins σ (upd H a o) { s with heap:=h',toks:=t' }:=I.un (Un.laid k hp (I.hok.fresh hp)) (I.hok.laid k hp new)
theorem Inv.write{x e:Addr}{o:HO}{t':Nat}(I:Inv X pins σ H s)(mu:Mut (H x))(he:e=x\/H e=some (.own x))(k:∀b u,b≠e->s.heap.get? b=some u->h'.get? b=some u)(heo:∃u,h'.get? e=some u)(new:ObjOk X.prog X.w (upd H x o) h' x o):Inv X pins σ (upd H x o) { s with heap:=h',toks:=t' }:=I.un (Un.write mu he k heo) (I.hok.write mu he k heo new)
theorem Inv.weak{σ':List (Option V)}(I:Inv X pins σ H s)(hl:σ'.length=σ.length)(w:∀(i:Nat) v,σ'[i]?=some (some v)->σ[i]?=some (some v)):Inv X pins σ' H s :=
 ⟨I.ok,I.os,I.bare,I.base,let ⟨m,hn,hl'⟩:=I.loc;⟨m,hn,λi x v e1 e2 e3=>hl' i x v e1 (w i v e2) e3⟩,I.cell,I.free,I.freeC,I.pin,I.hok,hl.trans I.len⟩
theorem Inv.pins_of{pins':List (Addr×Obj)}(I:Inv X pins σ H s)(h:∀p∈pins',s.heap.get? p.1=some p.2/\H p.1=none/\p.1≠X.env.locals/\p.1 ∉ X.fs/\∀v,p.2.data≠.cell v):Inv X pins' σ H s :=
 ⟨I.ok,I.os,I.bare,I.base,I.loc,I.cell,I.free,I.freeC,λp hp=>(List.mem_append.mp hp).elim (λz=>I.pin p (List.mem_append_left _ z)) (h p),I.hok,I.len⟩
theorem b6l{N:List Str}(hN:N.Nodup){i j:Nat}{x:Str}(a:N[i]?=some x)(b:N[j]?=some x):i=j:=by
 obtain⟨h1,e1⟩:=List.getElem?_eq_some_iff.mp a;obtain⟨h2,e2⟩:=List.getElem?_eq_some_iff.mp b;exact(List.getElem_inj hN).mp (e1.trans e2.symm)
theorem b6z{M:Model}{A:Around}{E:Value->Shared->Prop}{i:Nat}{x:Str}{v:V}{u:Value}{Q:Unit->Shared->Prop}(I:Inv X pins σ H s)(hN:X.N.Nodup)(hi:X.N[i]?=some x)(hx:Loc X.env.scope x)(r:RelV v u)(h:∀s',Inv X pins (σ.set i (some v)) H s'->(∃a,Heap.SameBut a s.heap s'.heap/\(a=X.env.locals\/X.env.cells.lookup x=some a))->Q () s')(hf:X.fn x=true\/X.env.scope.names.lookup x=some .local:=by first|exact .inl rfl|exact .inr rfl|assumption):wpAny M A (storeName X.env x u) Q E s:=by
 obtain⟨m,hn,hl⟩:=id I.loc;have hcls:(X.env.scope.kind == .class || (X.env.scope.kind == .module && X.env.locals != X.env.globals))=false:=by rw[I.ok.kind];rfl
 have hiσ:i<σ.length:=by rw[I.len];exact(List.getElem?_eq_some_iff.mp hi).1
 have cne:=I.cne;have tracked:∀{a:Addr}{h':Heap},(∃o,s.heap.get? a=some o/\H a=none)->Heap.SameBut a s.heap h'->HOk X.prog X.w H h':=λ{a h'} ha hs b ob e=>by
  obtain⟨_,_,hfree⟩:=ha;refine (I.hok b ob e).stay (λc w' hc q=>(hs.2 c ?_).trans q) (λ_ q=>q) λ_ _ q=>q;rintro rfl;rcases hc with rfl|hc
  ·rw[hfree] at e;cases e
  ·rw[hfree] at hc;cases hc
 rcases hx with hk|hk
 ·refine wpAny_storeName_local hk hn (λh' hn' hs=>?_) hcls
  obtain⟨oL,_,_,hoL,_⟩:=id hn;refine h _ ⟨I.ok,I.os,I.bare,⟨λb o e n hb hx=>?_,λb o e n hb hx=>?_,I.base.free,λb o e hx=>?_,I.base.tups,I.base.frzs,I.base.tbls⟩,⟨_,hn',λj y v' e1 e2 e3=>?_⟩,λy c e=>?_,I.free,I.freeC,λp hp=>?_,tracked ⟨oL,hoL,I.free⟩ hs,by simpa using I.len⟩ ⟨_,hs,.inl rfl⟩
  ·exact(hs.2 b (Nat.ne_of_lt (Nat.lt_of_lt_of_le (Heap.lt_size e) I.ok.above))).trans (I.base.keep b o e n hb hx)
  ·obtain⟨sl,e1⟩:=I.base.slot b o e n hb hx
   exact⟨sl,(hs.2 b (Nat.ne_of_lt (Nat.lt_of_lt_of_le (Heap.lt_size e) I.ok.above))).trans e1⟩
  ·obtain⟨o',e1⟩:=I.base.there b o e hx
   exact⟨o',(hs.2 b (Nat.ne_of_lt (Nat.lt_of_lt_of_le (Heap.lt_size e) I.ok.above))).trans e1⟩
  ·by_cases hj:j=i
   ·subst hj
    rw[hi] at e1;cases e1;rw[List.getElem?_set_self hiσ] at e2;cases e2;exact⟨u,r,.inl ⟨hk,by simp⟩⟩
   ·rw[List.getElem?_set_ne (Ne.symm hj)] at e2
    obtain⟨u',r',q⟩:=hl j y v' e1 e2 e3;refine⟨u',r',?_⟩;rcases q with ⟨k,e⟩|⟨k,c,e,z⟩
    ·refine .inl ⟨k,?_⟩
     have:y≠x:=λe=>hj (b6l hN e1 (e ▸ hi));simp[this,e]
    ·exact .inr ⟨k,c,e,z.sameBut hs (cne y c e)⟩
  ·obtain⟨w',z⟩:=I.cell y c e
   exact⟨w',z.sameBut hs (cne y c e)⟩
  ·obtain⟨e,n,ne,nf,d⟩:=I.pin p hp
   exact⟨(hs.2 p.1 ne).trans e,n,ne,nf,d⟩
 ·have hfn:X.fn x=true:=by
   rcases hf with z|z
   ·exact z
   ·rw[z] at hk;cases hk
  obtain⟨c,hc⟩:=I.ok.has x (.inl hk);obtain⟨w',z⟩:=I.cell x c hc;refine wpAny_storeName_cell I.ok.kind hk hc z (λh' hc' hs=>?_);obtain⟨oc,hoc,hocd⟩:=id z;refine h { s with heap:=h' } ⟨I.ok,I.os,I.bare,⟨λb o e n hb hx=>?_,λb o e n hb hx=>?_,I.base.free,λb o e hx=>?_,I.base.tups,I.base.frzs,I.base.tbls⟩,⟨m,hn.sameBut hs (Ne.symm (cne x c hc)),λj y v' e1 e2 e3=>?_⟩,λy c' e=>?_,I.free,I.freeC,λp hp=>?_,tracked ⟨oc,hoc,I.freeC x c hc⟩ hs,by simpa using I.len⟩ ⟨c,hs,.inr hc⟩
  ·exact(hs.2 b (Nat.ne_of_lt (Nat.lt_of_lt_of_le (Heap.lt_size e) (I.ok.cab x c hfn hc)))).trans (I.base.keep b o e n hb hx)
  ·obtain⟨sl,e1⟩:=I.base.slot b o e n hb hx
   exact⟨sl,(hs.2 b (Nat.ne_of_lt (Nat.lt_of_lt_of_le (Heap.lt_size e) (I.ok.cab x c hfn hc)))).trans e1⟩
  ·obtain⟨o',e1⟩:=I.base.there b o e hx
   exact⟨o',(hs.2 b (Nat.ne_of_lt (Nat.lt_of_lt_of_le (Heap.lt_size e) (I.ok.cab x c hfn hc)))).trans e1⟩
  ·by_cases hj:j=i
   ·subst hj
    rw[hi] at e1;cases e1;rw[List.getElem?_set_self hiσ] at e2;cases e2;exact⟨u,r,.inr ⟨.inl hk,c,hc,hc'⟩⟩
   ·rw[List.getElem?_set_ne (Ne.symm hj)] at e2
    obtain⟨u',r',q⟩:=hl j y v' e1 e2 e3;refine⟨u',r',?_⟩;rcases q with q|⟨k,c',e,z'⟩
    ·exact .inl q
    ·refine .inr ⟨k,c',e,z'.sameBut hs ?_⟩
     rintro rfl;exact hj (b6l hN e1 (I.ok.inj _ _ _ e hc ▸ hi))
  ·by_cases hcc:c'=c
   ·subst hcc;exact⟨_,hc'⟩
   ·obtain⟨w2,z2⟩:=I.cell y c' e
    exact⟨w2,z2.sameBut hs hcc⟩
  ·obtain⟨e,n,ne,nf,d⟩:=I.pin p hp
   refine⟨(hs.2 p.1 ?_).trans e,n,ne,nf,d⟩;intro q;rw[q,hoc] at e;have q':oc=p.2:=Option.some.inj e;exact d w' (by rw[<- q'];exact hocd)
theorem b1y{M:Model}{A:Around}{E:Value->Shared->Prop}{i:Nat}{x:Str}{v:V}{u:Value}{Q:Unit->Shared->Prop}(I:Inv X pins σ H s)(hN:X.N.Nodup)(hi:X.N[i]?=some x)(hx:Loc X.env.scope x)(r:RelV v u)(h:∀s',Inv X pins (σ.set i (some v)) H s'->Q () s')(hf:X.fn x=true\/X.env.scope.names.lookup x=some .local:=by first|exact .inl rfl|exact .inr rfl|assumption):wpAny M A (storeName X.env x u) Q E s :=
 b6z I hN hi hx r (λs' I' _=>h s' I') hf
theorem Inv.call'{s':Shared}{ch:List Addr}(I:Inv X pins σ H s)(ho:s'.os=s.os)(u:Un (frs X.stack) ch H H' s.heap s'.heap)(hok:HOk X.prog X.w H' s'.heap)(hg:AllBare s'.gens)(hch:∀b∈ch,(b∈X.ex\/X.s₀.heap.objs.size<=b)/\b≠X.env.locals/\(∀x c,X.env.cells.lookup x=some c->c≠b)/\∀p∈X.pn++pins,p.1≠b):Inv X pins σ H' s':=by
 obtain⟨h',g',d',t',o'⟩:=s';have e:o'=s.os:=ho;subst e;exact I.call (g':=g') (t':=t') (d':=d') u hok hg hch
end
abbrev XK:=Value->Option Addr->Hp->Prop
abbrev St:=List (Option V)
abbrev VK:=V->Hp->Prop
abbrev TE:=St->Hp->VK->Prop
abbrev TT:=St->Hp->(Bool->Hp->Prop)->Prop
abbrev TA:=St->Hp->(List V->Hp->Prop)->Prop
structure Ends where
 nx:St->Hp->Prop
 rt:VK
 bk:St->Hp->Prop:=λ_ _=>False
 ct:St->Hp->Prop:=λ_ _=>False
abbrev TS:=Ends->St->Hp->Prop
def EP(X:Cx)(pins:List (Addr×Obj))(σ:St)(Q:VK)(u:Value)(s':Shared):Prop:=∃v H',Inv X pins σ H' s'/\RelV v u/\Q v H'
def TP(X:Cx)(pins:List (Addr×Obj))(σ:St)(Q:Bool->Hp->Prop)(b:Bool)(s':Shared):Prop:=∃H',Inv X pins σ H' s'/\Q b H'
def AP(X:Cx)(pins:List (Addr×Obj))(σ:St)(Q:List V->Hp->Prop)(us:List Value)(s':Shared):Prop:=∃vs H',Inv X pins σ H' s'/\Vals vs us/\Q vs H'
def SP(X:Cx)(pins:List (Addr×Obj))(D:Ends)(f:Flow)(s':Shared):Prop :=
 match f with
 | .next=>∃σ' H',Inv X pins σ' H' s'/\D.nx σ' H'
 | .brk=>∃σ' H',Inv X pins σ' H' s'/\D.bk σ' H'
 | .cont=>∃σ' H',Inv X pins σ' H' s'/\D.ct σ' H'
 | .ret u=>∃v σ' H',Inv X pins σ' H' s'/\RelV v u/\D.rt v H'
def PE(X:Cx)(e:Expr)(t:TE):Prop :=
 ∀(pins:List (Addr×Obj))(s:Shared)(σ:St)(H:Hp)(Q:VK),Inv X pins σ H s->t σ H Q->wpAny (model X.prog X.w) X.A (eval e X.env) (EP X pins σ Q) X.xe s
def PT(X:Cx)(e:Expr)(t:TT):Prop :=
 ∀(pins:List (Addr×Obj))(s:Shared)(σ:St)(H:Hp)(Q:Bool->Hp->Prop),Inv X pins σ H s->t σ H Q->wpAny (model X.prog X.w) X.A (isTrue e X.env (eval e X.env)) (TP X pins σ Q) X.xe s
def PW(X:Cx)(e:Expr)(t:TT):Prop :=
 ∀(whole:Sem Value)(pins:List (Addr×Obj))(s:Shared)(σ:St)(H:Hp)(Q:Bool->Hp->Prop),Inv X pins σ H s->t σ H Q->wpAny (model X.prog X.w) X.A (isTrue e X.env whole) (TP X pins σ Q) X.xe s
theorem PW.pt{X:Cx}{e:Expr}{t:TT}(h:PW X e t):PT X e t:=h _
def PA(X:Cx)(es:List Expr)(t:TA):Prop :=
 ∀(pos:Pos)(pins:List (Addr×Obj))(s:Shared)(σ:St)(H:Hp)(Q:List V->Hp->Prop),Inv X pins σ H s->t σ H Q->wpAny (model X.prog X.w) X.A (spliced (backTo pos (starEach es X.env))) (AP X pins σ Q) X.xe s
def PS(X:Cx)(st:Stmt)(t:TS):Prop :=
 ∀(pins:List (Addr×Obj))(s:Shared)(σ:St)(H:Hp)(D:Ends),Inv X pins σ H s->t D σ H->wpAny (model X.prog X.w) X.A (exec st X.env) (SP X pins D) X.xe s
def PSs(X:Cx)(st:List Stmt)(t:TS):Prop :=
 ∀(pins:List (Addr×Obj))(s:Shared)(σ:St)(H:Hp)(D:Ends),Inv X pins σ H s->t D σ H->wpAny (model X.prog X.w) X.A (execs st X.env) (SP X pins D) X.xe s
theorem thn{α:Type}{t:Sem α}{Q Q':α->Shared->Prop}{M:Model}{A:Around}{E:Value->Shared->Prop}{s:Shared}(h:wpAny M A t Q E s)(hQ:∀a s,Q a s->Q' a s):wpAny M A t Q' E s:=wpAny_mono h hQ λ_ _ x=>x
end L2
namespace L2
open PySem PySem.Spec PyProof.Rows
section
variable{X:Cx}
def d4r(i:Nat):TE:=λσ H Q=>∃v,σ[i]?=some (some v)/\Q v H
def tC(v:V):TE:=λ_ H Q=>Q v H
theorem d3b{i:Nat}{x:Str}{pos:Pos}(hN:X.N[i]?=some x)(hv:Vis X.env.scope x)(hd:(x == ("__debug__":Str))=false:=by decide)(hcd:(x == ("__classdict__":Str))=false:=by decide):PE X (.Name x pos) (d4r i):=by
 intro pins s σ H Q I h;obtain⟨v,e,h⟩:=h;obtain⟨m,hn,hl⟩:=I.loc;obtain⟨u,r,l⟩:=hl i x v hN e hv;have fin:EP X pins σ Q u s:=⟨v,H,I,r,h⟩;rcases l with ⟨hk,hm⟩|⟨hk,c,hc,hcell⟩
 ·exact wpAny_Name (wpAny_loadName_local I.ok.kind hk hn hm fin) hd
 ·rcases hk with hk|hk
  ·exact wpAny_Name (wpAny_loadName_cell I.ok.kind hk hc hcell fin) hd
  ·exact wpAny_Name (wpAny_loadName_free I.ok.kind hk hc hcell fin hcd) hd
theorem d7{i j pos}:PE X (.Constant (.int i) j pos) (tC (.int i)):=λ_ _ _ H _ I h=>wpAny_Constant_int ⟨.int i,H,I.tok _,⟨_,rfl⟩,h⟩
theorem a2p{b j pos}:PE X (.Constant (.bool b) j pos) (tC (.bl b)):=λ_ _ _ H _ I h=>Constant_bool ⟨.bl b,H,I,rfl,h⟩
theorem a1i{j pos}:PE X (.Constant .none j pos) (tC .non):=λ_ _ _ H _ I h=>Constant_none ⟨.non,H,I,rfl,h⟩
theorem f9{x j pos}:PE X (.Constant (.str x) j pos) (tC (.str x)):=λ_ _ _ H _ I h=>Calls.Constant_str ⟨.str x,H,I.tok _,⟨_,rfl⟩,h⟩
def Gl(X:Cx)(x:Str):Prop:=X.env.kindOf x=some .globalImplicit
theorem a7m{E:Value->Shared->Prop}{pins:List (Addr×Obj)}{s:Shared}{σ:St}{H:Hp}{x:Str}{u:Value}{pos:Pos}{Q:Value->Shared->Prop}(I:Inv X pins σ H s)(hg:Gl X x)(hm:X.mg x=some u)(h:Q u s)(hd:(x == ("__debug__":Str))=false:=by decide):wpAny (model X.prog X.w) X.A (eval (.Name x pos) X.env) Q E s :=
 Calls.Name_function_global I.ok.kind hg (Calls.loadGlobal_global (by rw[I.ok.glob];exact I.mod.glob.keeps I.bk) hm h) hd
theorem b3r{E:Value->Shared->Prop}{pins:List (Addr×Obj)}{s:Shared}{σ:St}{H:Hp}{x:Str}{u:Value}{pos:Pos}{Q:Value->Shared->Prop}(I:Inv X pins σ H s)(hg:Gl X x)(hm:X.mg x=none)(hv:bootBuiltins x=some u)(h:Q u s)(hn:x≠"__name__":=by decide)(hd:(x == ("__debug__":Str))=false:=by decide):wpAny (model X.prog X.w) X.A (eval (.Name x pos) X.env) Q E s:=by
 obtain⟨mb,h1,h2⟩:=I.mod.blt;exact Calls.Name_function_global I.ok.kind hg (Calls.loadGlobal_builtin (by rw[I.ok.glob];exact I.mod.glob.keeps I.bk) hm (by rw[I.ok.blt];exact h1.keeps I.bk) ((h2 x hn).trans hv) h) hd
theorem b3b{x:Str}{v:V}{u:Value}{pos:Pos}(hg:Gl X x)(hm:X.mg x=some u)(r:RelV v u)(hd:(x == ("__debug__":Str))=false:=by decide):PE X (.Name x pos) (tC v) :=
 λ_ _ _ H _ I h=>a7m I hg hm ⟨v,H,I,r,h⟩ hd
theorem d0o{x:Str}{v:V}{u:Value}{pos:Pos}(hg:Gl X x)(hm:X.mg x=none)(hv:bootBuiltins x=some u)(r:RelV v u)(hn:x≠"__name__":=by decide)(hd:(x == ("__debug__":Str))=false:=by decide):PE X (.Name x pos) (tC v) :=
 λ_ _ _ H _ I h=>b3r I hg hm hv ⟨v,H,I,r,h⟩ hn hd
variable{a b:Expr}{ta tb:TE}{pos:Pos}
def tB(t:TE):TT:=λσ H Q=>t σ H λx H1=>∃c,x=.bl c/\Q c H1
theorem a2g{e:Expr}{t:TE}(h:PE X e t)(he:∀whole,isTrue e X.env whole=(do let v <- whole;standAt e.pos;holding [v] (truthy v)):=by intro _;rfl):PT X e (tB t):=by
 intro pins s σ H Q I hw;refine isTrue_plain (thn (h pins s σ H _ I hw) λv s1 z0_=>?_) (he _);obtain⟨x,H1,I1,r1,q1⟩:=z0_;obtain⟨d,rfl,q⟩:=q1;cases r1;exact wpAny_truthy_bool ⟨H1,I1,q⟩
variable{tA tB':TT}{rest:List Expr}
def d6y(t u:TT):TT:=λσ H Q=>t σ H λc H1=>if c=true then u σ H1 Q else Q false H1
def tOr(t u:TT):TT:=λσ H Q=>t σ H λc H1=>if c=true then Q true H1 else u σ H1 Q
def d6v(t:TT):TT:=λσ H Q=>t σ H λc H1=>Q (!c) H1
theorem b0n(ha:PT X a tA):PW X (.BoolOp .And [a] pos) tA:=by
 intro wh pins s σ H Q I h;refine isTrue_and (thn (ha pins s σ H Q I h) λc s1 e=>?_);cases c with
 | true=>exact isTrue_and_nil e
 | false=>exact e
theorem a1o(ha:PT X a tA):PW X (.BoolOp .Or [a] pos) tA:=by
 intro wh pins s σ H Q I h;refine isTrue_or (thn (ha pins s σ H Q I h) λc s1 e=>?_);cases c with
 | false=>exact isTrue_or_nil e
 | true=>exact e
theorem b2y(ha:PT X a tA)(hb:PW X (.BoolOp .And (b::rest) pos) tB'):PW X (.BoolOp .And (a::b::rest) pos) (d6y tA tB'):=by
 intro wh pins s σ H Q I h;refine isTrue_and (thn (ha pins s σ H _ I h) λc s1 z0_=>?_);obtain⟨H1,I1,q1⟩:=z0_;cases c with
 | true=>exact hb wh pins s1 σ H1 Q I1 q1
 | false=>exact⟨H1,I1,q1⟩
theorem a2f(ha:PT X a tA)(hb:PW X (.BoolOp .Or (b::rest) pos) tB'):PW X (.BoolOp .Or (a::b::rest) pos) (tOr tA tB'):=by
 intro wh pins s σ H Q I h;refine isTrue_or (thn (ha pins s σ H _ I h) λc s1 z0_=>?_);obtain⟨H1,I1,q1⟩:=z0_;cases c with
 | true=>exact⟨H1,I1,q1⟩
 | false=>exact hb wh pins s1 σ H1 Q I1 q1
theorem a3d(ha:PT X a tA):PT X (.UnaryOp .Not a pos) (d6v tA):=by
 intro pins s σ H Q I h;exact isTrue_not (ha pins s σ H (λc H1=>Q (!c) H1) I h)
def d2q(ta tb:TE):TE:=λσ H Q=>ta σ H λx H1=>∃c,x=.bl c/\if c=true then tb σ H1 Q else Q (.bl false) H1
def d6u(ta tb:TE):TE:=λσ H Q=>ta σ H λx H1=>∃c,x=.bl c/\if c=true then Q (.bl true) H1 else tb σ H1 Q
theorem a1p{op}{t:TE}(h:PE X a t):PE X (.BoolOp op [a] pos) t:=λpins s σ H Q I hw=>BoolOp_one (h pins s σ H Q I hw)
theorem a1z(ha:PE X a ta)(hb:PE X (.BoolOp .And (b::rest) pos) tb):PE X (.BoolOp .And (a::b::rest) pos) (d2q ta tb):=by
 intro pins s σ H Q I h;refine BoolOp_and (thn (ha pins s σ H _ I h) λv s1 z0_=>?_);obtain⟨x,H1,I1,r1,q1⟩:=z0_;obtain⟨c,rfl,q1⟩:=q1;cases r1;refine wpAny_truthy_bool ?_;cases c with
 | true=>exact hb pins s1 σ H1 Q I1 q1
 | false=>exact⟨.bl false,H1,I1,rfl,q1⟩
theorem c7k(ha:PE X a ta)(hb:PE X (.BoolOp .Or (b::rest) pos) tb):PE X (.BoolOp .Or (a::b::rest) pos) (d6u ta tb):=by
 intro pins s σ H Q I h;refine BoolOp_or (thn (ha pins s σ H _ I h) λv s1 z0_=>?_);obtain⟨x,H1,I1,r1,q1⟩:=z0_;obtain⟨c,rfl,q1⟩:=q1;cases r1;refine wpAny_truthy_bool ?_;cases c with
 | false=>exact hb pins s1 σ H1 Q I1 q1
 | true=>exact⟨.bl true,H1,I1,rfl,q1⟩
def tIf(t:TT)(ta tb:TE):TE:=λσ H Q=>t σ H λc H1=>if c=true then ta σ H1 Q else tb σ H1 Q
theorem a5w{c:Expr}(hc:PT X c tA)(ha:PE X a ta)(hb:PE X b tb):PE X (.IfExp c a b pos) (tIf tA ta tb):=by
 intro pins s σ H Q I h;refine wpAny_IfExp (thn (hc pins s σ H _ I h) λd s1 z0_=>?_);obtain⟨H1,I1,q1⟩:=z0_;cases d with
 | true=>exact ha pins s1 σ H1 Q I1 q1
 | false=>exact hb pins s1 σ H1 Q I1 q1
end
end L2
namespace L2
open PySem PySem.Spec PyProof.Rows
def SqL(K:Frag)(H:Hp)(a:Addr)(xs:List V):Prop :=
 Rd H a (.lst xs) \/
  ∃(o:Obj)(its:Array Value)(n:Nat),K.lookup a=some o/\o.cls=.type "list"/\o.dict=none/\o.data=.seq its n/\its.size<=sizeLine/\Vals xs its.toList
def SqT(K:Frag)(H:Hp)(a:Addr)(xs:List V):Prop :=
 Rd H a (.tup xs) \/
  ∃(o:Obj)(its:Array Value)(n:Nat),K.lookup a=some o/\o.cls=.type "tuple"/\o.data=.seq its n/\its.size<=sizeLine/\Vals xs its.toList
def d8q:Value->Option V
 | .none=>some .non
 | .bool b=>some (.bl b)
 | .int i _=>some (.int i)
 | .str x _=>some (.str x)
 | .bytes b _=>some (.byt b)
 | .float b _=>some (.flt b)
 | .ref a=>some (.ref a)
 | .type n=>some (.ty n)
 | _=>none
theorem RelV.abs{x:V}{u:Value}(r:RelV x u):d8q u=some x:=by
 cases x with
 | non=>cases r;rfl
 | bl _=>cases r;rfl
 | int _=>obtain⟨t,rfl⟩:=r;rfl
 | str _=>obtain⟨t,rfl⟩:=r;rfl
 | byt _=>obtain⟨t,rfl⟩:=r;rfl
 | flt _=>obtain⟨t,rfl⟩:=r;rfl
 | ref _=>cases r;rfl
 | ty _=>cases r;rfl
theorem RelV.inj{x y:V}{u:Value}(r:RelV x u)(q:RelV y u):x=y:=Option.some.inj (r.abs.symm.trans q.abs)
theorem Vals.inj{xs ys:List V}{us:List Value}(h:Vals xs us)(h':Vals ys us):xs=ys:=by
 induction h generalizing ys with
 | nil=>cases h';rfl
 | cons r t ih=>cases h' with|cons r' t'=>rw[r.inj r',ih t']
section
variable{X:Cx}{pins:List (Addr×Obj)}{σ:St}{H:Hp}{s:Shared}{a:Addr}{xs ys:List V}
theorem SqL.of{K:Frag}(h:H a=some (.lst xs)):SqL K H a xs:=.inl (.inl h)
theorem SqT.of{K:Frag}(h:H a=some (.tup xs)):SqT K H a xs:=.inl (.inl h)
theorem Inv.list(I:Inv X pins σ H s)(h:SqL X.K H a xs):∃its:List Value,Vals xs its/\PlainL s.heap a its.toArray/\xs.length<=sizeLine:=by
 rcases h with h|⟨o,its,n,hk,hc,hd,hs,hz,r⟩
 ·obtain⟨z,its,n,r,e⟩:=h.ok I.hok
  exact⟨its,r,⟨_,n,e,rfl,rfl,rfl⟩,z⟩
 ·refine⟨its.toList,r,⟨o,n,I.kIn a o hk,hc,hd,by simpa using hs⟩,?_⟩
  have e:=r.length;simp only[Array.length_toList] at e;lia
theorem Inv.tuple(I:Inv X pins σ H s)(h:SqT X.K H a xs):∃its:List Value,Vals xs its/\IsTup s.heap a its.toArray/\xs.length<=sizeLine:=by
 rcases h with h|⟨o,its,n,hk,hc,hs,hz,r⟩
 ·obtain⟨z,its,r,p⟩:=h.ok I.hok
  exact⟨its,r,p,z⟩
 ·refine⟨its.toList,r,⟨o,I.kIn a o hk,hc,n,by simpa using hs⟩,?_⟩
  have e:=r.length;simp only[Array.length_toList] at e;lia
theorem Inv.list_inj(I:Inv X pins σ H s)(h:SqL X.K H a xs)(h':SqL X.K H a ys):xs=ys:=by
 obtain⟨its,r,⟨o,n,e,_,_,d⟩,_⟩:=I.list h;obtain⟨its',r',⟨o',n',e',_,_,d'⟩,_⟩:=I.list h';rw[e] at e';cases e';rw[d] at d';injection d' with d1 _
 have:its=its':=by simpa using congrArg Array.toList d1
 subst this;exact r.inj r'
theorem Inv.tuple_inj(I:Inv X pins σ H s)(h:SqT X.K H a xs)(h':SqT X.K H a ys):xs=ys:=by
 obtain⟨its,r,⟨o,e,_,n,d⟩,_⟩:=I.tuple h;obtain⟨its',r',⟨o',e',_,n',d'⟩,_⟩:=I.tuple h';rw[e] at e';cases e';rw[d] at d';injection d' with d1 _
 have:its=its':=by simpa using congrArg Array.toList d1
 subst this;exact r.inj r'
end
section
variable{X:Cx}{pins:List (Addr×Obj)}{σ:St}{H:Hp}{s:Shared}{E:Value->Shared->Prop}
end
section
variable{X:Cx}{st:Stmt}{rest:List Stmt}{t u:TS}{e:Expr}{te:TE}{pos:Pos}
def d0c:TS:=λD σ H=>D.nx σ H
def d4s(t u:TS):TS:=λD σ H=>t { D with nx:=u D } σ H
theorem i9:PSs X [] d0c:=λ_ _ σ H _ I h=>wpAny_execs_nil ⟨σ,H,I,h⟩
theorem d6(h1:PS X st t)(h2:PSs X rest u):PSs X (st::rest) (d4s t u):=by
 intro pins s σ H D I h;refine wpAny_execs_cons (thn (h1 pins s σ H { D with nx:=u D } I h) λf s1 q=>?_)
 cases f with
 | next=>
  obtain⟨σ',H',I',q⟩:=q;exact h2 pins s1 σ' H' D I' q
 | ret v=>exact q
 | brk=>exact q
 | cont=>exact q
theorem f8(h1:PS X st t):PSs X [st] t:=by
 intro pins s σ H D I h;refine wpAny_execs_cons (thn (h1 pins s σ H D I h) λf s1 q=>?_);cases f with
 | next=>exact wpAny_execs_nil q
 | ret v=>exact q
 | brk=>exact q
 | cont=>exact q
theorem Inv.quiet{pins:List (Addr×Obj)}{σ:St}{H:Hp}{s:Shared}(I:Inv X pins σ H s):interactive X.env=false:=by simp[interactive,I.ok.kind]
def d2n(te:TE):TS:=λD σ H=>te σ H λ_ H1=>D.nx σ H1
theorem a1q(he:PE X e te)(hs:swapsWith e none pos.line X.env=pure false:=by rfl):PS X (.Expr e pos) (d2n te):=by
 intro pins s σ H D I h;exact wpAny_Expr_any (thn (he pins s σ H _ I h) λv s1 z0_=>by obtain⟨x,H1,I1,r1,q1⟩:=z0_;exact⟨σ,H1,I1,q1⟩) I.quiet hs
def d6t(te:TE):TS:=λD σ H=>te σ H D.rt
theorem i5(he:PE X e te):PS X (.Return (some e) pos) (d6t te):=by
 intro pins s σ H D I h;exact wpAny_Return_some (thn (he pins s σ H _ I h) λv s1 z0_=>by obtain⟨x,H1,I1,r1,q1⟩:=z0_;exact⟨x,σ,H1,I1,r1,q1⟩)
def d5d(c:TT)(t u:TS):TS:=λD σ H=>c σ H λb H1=>if b=true then t D σ H1 else u D σ H1
theorem v9{c:Expr}{a b:List Stmt}{tc:TT}(hc:PT X c tc)(ha:PSs X a t)(hb:PSs X b u):PS X (.If c a b pos) (d5d tc t u):=by
 intro pins s σ H D I h;refine wpAny_If (thn (hc pins s σ H _ I h) λd s1 z0_=>?_);obtain⟨H1,I1,q1⟩:=z0_;cases d with
 | true=>exact ha pins s1 σ H1 D I1 q1
 | false=>exact hb pins s1 σ H1 D I1 q1
end
abbrev TG:=V->St->Hp->(St->Hp->Prop)->Prop
abbrev TGs:=List V->St->Hp->(St->Hp->Prop)->Prop
def PG(X:Cx)(target:Expr)(t:TG):Prop :=
 ∀(pins:List (Addr×Obj))(s:Shared)(σ:St)(H:Hp)(v:V)(u:Value)(Q:St->Hp->Prop),Inv X pins σ H s->RelV v u->t v σ H Q ->
  wpAny (model X.prog X.w) X.A (assign target X.env u) (λ_ s'=>∃σ' H',Inv X pins σ' H' s'/\Q σ' H') X.xe s
def PGs(X:Cx)(ts:List Expr)(t:TGs):Prop :=
 ∀(pins:List (Addr×Obj))(s:Shared)(σ:St)(H:Hp)(vs:List V)(us:List Value)(Q:St->Hp->Prop),Inv X pins σ H s->Vals vs us->t vs σ H Q ->
  wpAny (model X.prog X.w) X.A (assignInOrder ((assignEach ts X.env).map (·.2)) us) (λ_ s'=>∃σ' H',Inv X pins σ' H' s'/\Q σ' H') X.xe s
abbrev d4x:=V->V->V->Hp->(Hp->Prop)->Prop
def d7p(X:Cx)(t:d4x):Prop :=
 ∀(pins:List (Addr×Obj))(s:Shared)(σ:St)(H:Hp)(o i v:V)(ov iv u:Value)(Q:Hp->Prop),Inv X pins σ H s->RelV o ov->RelV i iv->RelV v u->t o i v H Q ->
  wpAny (model X.prog X.w) X.A (setItem ov iv u) (λ_ s'=>∃H',Inv X pins σ H' s'/\Q H') X.xe s
abbrev TIp:=V->V->Hp->VK->Prop
def PIp(X:Cx)(op:Operator)(t:TIp):Prop :=
 ∀(pins:List (Addr×Obj))(s:Shared)(σ:St)(H:Hp)(x y:V)(v u:Value)(Q:VK),Inv X pins σ H s->RelV x v->RelV y u->t x y H Q ->
  wpAny (model X.prog X.w) X.A (inplaceOp op v u) (EP X pins σ Q) X.xe s
section
variable{X:Cx}{pos:Pos}
def a2r(i:Nat):TG:=λv σ H Q=>Q (σ.set i (some v)) H
theorem g0{i:Nat}{x:Str}(hN:X.N.Nodup)(hi:X.N[i]?=some x)(hx:Loc X.env.scope x)(hf:X.fn x=true\/X.env.scope.names.lookup x=some .local:=by first|exact .inl rfl|exact .inr rfl|assumption):PG X (.Name x pos) (a2r i):=by
 intro pins s σ H v u Q I r h;exact wpAny_assign_Name (b1y I hN hi hx r (λs' I'=>⟨_,H,I',h⟩) hf)
def d4j:TGs:=λvs σ H Q=>vs=[]/\Q σ H
def a4e(t:TG)(u:TGs):TGs:=λvs σ H Q=>∃v r,vs=v::r/\t v σ H λσ' H'=>u r σ' H' Q
theorem a2o:PGs X [] d4j:=by
 intro pins s σ H vs us Q I r h;obtain⟨e,h⟩:=h;subst e;cases r;exact assignInOrder_nil ⟨σ,H,I,h⟩
theorem i4{e:Expr}{es:List Expr}{t:TG}{u:TGs}(h1:PG X e t)(h2:PGs X es u)(hs:(assignEach (e::es) X.env).map (·.2)=assign e X.env::(assignEach es X.env).map (·.2):=by rfl):PGs X (e::es) (a4e t u):=by
 intro pins s σ H vs us Q I r h;obtain⟨v,vr,e1,h⟩:=h;subst e1;cases r with
 | cons r rr=>
  rw[hs];refine assignInOrder_cons (thn (h1 pins s σ H _ _ _ I r h) λ_ s1 z0_=>?_);obtain⟨σ1,H1,I1,q1⟩:=z0_;exact h2 pins s1 σ1 H1 _ _ Q I1 rr q1
def d4w(K:Frag)(n:Nat)(t:TGs):TG:=λv σ H Q=>∃a xs,v=.ref a/\SqT K H a xs/\xs.length=n/\t xs σ H Q
theorem d3a{es:List Expr}{k:Nat}{t:TGs}{n:Nat}(hc:X.calm=true)(h:PGs X es t)(hn:(assignEach es X.env).length=n:=by rfl)(hst:(assignEach es X.env).findIdx? (·.1)=none:=by rfl):PG X (.Tuple es k pos) (d4w X.K n t):=by
 intro pins s σ H v u Q I r hw;obtain⟨a,xs,e1,hq,hl,hw⟩:=hw;subst e1;cases r;obtain⟨its,rv,ht,hz⟩:=I.tuple hq;refine assign_Tuple_tuple (I.ok.hd hc) ht (by simp[hn,<- hl,rv.length]) hst λh' hx=>?_
 have I1:Inv X pins σ H { s with heap:=h' }:=I.kept (t':=s.toks) λb o e=>hx b o (Nat.ne_of_lt (Heap.lt_size e)) e
 exact h pins _ σ H xs _ Q I1 (by simpa using rv) hw
def d7j(to ti:TE)(t:d4x):TG:=λv σ H Q=>to σ H λo H1=>ti σ H1 λi H2=>t o i v H2 λH3=>Q σ H3
theorem b7r{o i:Expr}{to ti:TE}{t:d4x}(ho:PE X o to)(hi:PE X i ti)(hs:d7p X t)(ha:∀v,assign (.Subscript o i pos) X.env v=(do
   let ov <- holding [v] (eval o X.env)
   let iv <- holding [v,ov] (eval i X.env)
   standAt pos
   holding [v,ov,iv] (setItem ov iv v)
   release [v,ov,iv] []):=by intro _;rfl):PG X (.Subscript o i pos) (d7j to ti t):=by
 intro pins s σ H v u Q I r h;rw[ha];refine wpAny_bind (wpAny_holding (thn (ho pins s σ H _ I h) λov s1 z0_=>?_));obtain⟨x,H1,I1,r1,q1⟩:=z0_;refine wpAny_bind (wpAny_holding (thn (hi pins s1 σ H1 _ I1 q1) λiv s2 z0_=>?_));obtain⟨y,H2,I2,r2,q2⟩:=z0_;refine wpAny_bind (wpAny_standAt (wpAny_bind (wpAny_holding (thn (hs pins s2 σ H2 x y v ov iv u _ I2 r1 r2 r q2) λ_ s3 z0_=>?_))));obtain⟨H3,I3,q3⟩:=z0_;exact wpAny_release ⟨σ,H3,I3,q3⟩
def d2p(te:TE)(g:TG):TS:=λD σ H=>te σ H λx H1=>g x σ H1 D.nx
theorem a3e{tg e:Expr}{te:TE}{g:TG}(he:PE X e te)(hg:PG X tg g)(hs:swapsWithSole [tg] e pos.line X.env=pure false:=by rfl)(hw:swappedStores [tg] e X.env=pure none:=by rfl)(h1:(assignEach [tg] X.env).map (·.2)=[assign tg X.env]:=by rfl):PS X (.Assign [tg] e pos) (d2p te g):=by
 intro pins s σ H D I h;refine wpAny_Assign_stores (thn (he pins s σ H _ I h) λv s1 z0_=>?_) hs hw;obtain⟨x,H1,I1,r1,q1⟩:=z0_;rw[h1];exact thn (hg pins s1 σ H1 x v _ I1 r1 q1) λ_ s2 q=>q
theorem i7{i:Nat}{x:Str}{e:Expr}{te:TE}{pos':Pos}(hN:X.N.Nodup)(hi:X.N[i]?=some x)(hx:Loc X.env.scope x)(he:PE X e te)(hs:swapsWith e (some (.Name x pos')) pos.line X.env=pure false:=by rfl)(hf:X.fn x=true\/X.env.scope.names.lookup x=some .local:=by first|exact .inl rfl|exact .inr rfl|assumption):
  PS X (.Assign [.Name x pos'] e pos) (d2p te (a2r i)):=by
 intro pins s σ H D I h;refine wpAny_Assign_Name (thn (he pins s σ H _ I h) λv s1 z0_=>?_) hs;obtain⟨y,H1,I1,r1,q1⟩:=z0_;exact b1y I1 hN hi hx r1 (λs2 I2=>⟨_,H1,I2,q1⟩) hf
def d7t(i:Nat)(te:TE)(ti:TIp):TS:=λD σ H=>∃x,σ[i]?=some (some x)/\te σ H λy H1=>ti x y H1 λz H2=>D.nx (σ.set i (some z)) H2
theorem c9a{i:Nat}{x:Str}{e:Expr}{te:TE}{op:Operator}{ti:TIp}{pos':Pos}(hN:X.N.Nodup)(hi:X.N[i]?=some x)(hx:Loc X.env.scope x)(he:PE X e te)(ho:PIp X op ti)(hf:X.fn x=true\/X.env.scope.names.lookup x=some .local:=by first|exact .inl rfl|exact .inr rfl|assumption):
  PS X (.AugAssign (.Name x pos') op e pos) (d7t i te ti):=by
 intro pins s σ H D I h;obtain⟨v,e1,h⟩:=h;obtain⟨m,hn,hl⟩:=I.loc;have vis:Vis X.env.scope x:=by rcases hx with k|k;exact .inl k;exact .inr (.inl k)
 obtain⟨u,r,l⟩:=hl i x v hi e1 vis;refine wpAny_AugAssign_Name ?_;have go:wpAny (model X.prog X.w) X.A (eval e X.env) (λw s₂=>wpAny (model X.prog X.w) X.A (inplaceOp op u w) (λr s₃=>wpAny (model X.prog X.w) X.A (storeName X.env x r) (λ_=>SP X pins D .next) X.xe s₃) X.xe s₂) X.xe s:=by
  refine thn (he pins s σ H _ I h) λw s1 z0_=>?_;obtain⟨y,H1,I1,r1,q1⟩:=z0_;refine thn (ho pins s1 σ H1 v y u w _ I1 r r1 q1) λz s2 z0_=>?_;obtain⟨zv,H2,I2,r2,q2⟩:=z0_;exact b1y I2 hN hi hx r2 (λs3 I3=>⟨_,H2,I3,q2⟩) hf
 rcases l with ⟨hk,hm⟩|⟨hk,c,hc,hcell⟩
 ·exact wpAny_loadName_local I.ok.kind hk hn hm go
 ·rcases hk with hk|hk
  ·exact wpAny_loadName_cell I.ok.kind hk hc hcell go
  ·rcases hx with k|k
   ·have:X.env.scope.names.lookup x=some .free:=hk
    rw[k] at this;cases this
   ·have:X.env.scope.names.lookup x=some .free:=hk
    rw[k] at this;cases this
end
structure It where
 go:Nat->Hp->Prop
 yld:Nat->Hp->V->Hp->Prop
 stop:Nat->Hp->Prop
def c2n(X:Cx)(pins:List (Addr×Obj))(H:Hp)(b:Addr):Prop :=
 H b=none/\b≠X.env.locals/\b ∉ X.fs/\(b∈X.ex\/X.s₀.heap.objs.size<=b)/\(∀x c,X.env.cells.lookup x=some c->c≠b)/\∀p∈X.pn++pins,p.1≠b
theorem Inv.fpOk{X:Cx}{pins:List (Addr×Obj)}{σ:St}{H H':Hp}{s:Shared}{b:Addr}(I:Inv X pins σ H s)(hb:s.heap.objs.size<=b)(hn:H' b=none):c2n X pins H' b:=by
 refine⟨hn,Nat.ne_of_gt (Nat.lt_of_lt_of_le I.lt hb),I.nofs hb,.inr (Nat.le_trans I.sz hb),λx c e z=>?_,λp hp z=>?_⟩
 ·obtain⟨v,q⟩:=I.cell x c e
  exact absurd (Nat.lt_of_lt_of_le q.lt (by rw[z];exact hb)) (Nat.lt_irrefl _)
 ·exact absurd (Nat.lt_of_lt_of_le (Heap.lt_size (I.pin p hp).1) (by rw[z];exact hb)) (Nat.lt_irrefl _)
structure d4q(P:Program)(w:World)(K:Frag)(tg:Expr)(J:It)(fp:List Addr)(it:Addr)(tn:Nat->Heap->Prop):Prop where
 mem:it∈fp
 obj:∀i h,tn i h->∀b∈fp,∃o,h.get? b=some o/\∀v,o.data≠.cell v
 keep:∀i h h',tn i h->(∀b∈fp,∀o,h.get? b=some o->h'.get? b=some o)->tn i h'
 item:∀(X:Cx),X.prog=P->X.w=w->X.K=K->X.calm=true->∀(i:Nat)(pins:List (Addr×Obj))(s:Shared)(σ:St)(H:Hp)(E:Value->Shared->Prop),Inv X pins σ H s->(∀b∈fp,c2n X pins H b)->tn i s.heap->J.go i H ->
  wpAny (model P w) X.A (pyNext (.ref it)) (λr s1=>∃u,r=some u /\
   wpAny (model P w) X.A (letOwnedTupleGo tg (.ref it) u) (λ_ s2=>∃x H',Inv X pins σ H' s2/\RelV x u/\J.yld i H x H'/\tn (i+1) s2.heap/\∀b∈fp,H' b=none) E s1) E s
 done:∀(X:Cx),X.prog=P->X.w=w->X.K=K->X.calm=true->∀(i:Nat)(pins:List (Addr×Obj))(s:Shared)(σ:St)(H:Hp)(E:Value->Shared->Prop),Inv X pins σ H s->(∀b∈fp,c2n X pins H b)->tn i s.heap->J.stop i H ->
  wpAny (model P w) X.A (pyNext (.ref it)) (λr s1=>r=none/\Inv X pins σ H s1) E s
 self:∀(A:Around)(i:Nat)(s:Shared)(Q:Value->Shared->Prop)(E:Value->Shared->Prop),tn i s.heap->Q (.ref it) s->wpAny (model P w) A (pyIter (.ref it)) Q E s
abbrev TI:=St->Hp->(It->Hp->Prop)->Prop
def PIE(X:Cx)(pins:List (Addr×Obj))(σ:St)(tg:Expr)(R:It->Hp->Prop)(itv:Value)(s2:Shared):Prop :=
 ∃(it:Addr)(fp:List Addr)(tn:Nat->Heap->Prop)(J:It)(H':Hp),itv=.ref it/\Inv X pins σ H' s2/\d4q X.prog X.w X.K tg J fp it tn/\tn 0 s2.heap/\(∀b∈fp,c2n X pins H' b)/\R J H'
def PI(X:Cx)(tg iter:Expr)(wi:TI):Prop :=
 ∀(pins:List (Addr×Obj))(s:Shared)(σ:St)(H:Hp)(R:It->Hp->Prop),Inv X pins σ H s->wi σ H R ->
  wpAny (model X.prog X.w) X.A (eval iter X.env) (λv s1=>wpAny (model X.prog X.w) X.A (pyIter v) (PIE X pins σ tg R) X.xe s1) X.xe s
theorem c7y{M:Model}{A:Around}{E:Value->Shared->Prop}{s:Shared}{tg:Expr}{it:Addr}{u:Value}{o:Obj}{n:String}{vs:Array Value}{Q:Unit->Shared->Prop}(ho:s.heap.get? it=some o)(hc:o.cls=.type n)(hd:o.data=.fields vs)(hn:["enumerate","zip","dict_itemiterator","dict_reverseitemiterator","odict_iterator","itertools.zip_longest","itertools.pairwise"].contains n=false)(hQ:Q () s):wpAny M A (letOwnedTupleGo tg (.ref it) u) Q E s:=by
 unfold letOwnedTupleGo;cases tg <;> first
  | exact wpAny_pure hQ
  | (cases u <;> first
    | exact wpAny_pure hQ
    | (
      refine wpAny_bind (wpAny_load ho ?_);rw[hc,hd];show wpAny M A (if (["enumerate","zip","dict_itemiterator","dict_reverseitemiterator","odict_iterator","itertools.zip_longest","itertools.pairwise"].contains n && vs[0]? == some (rawInt _))=true then _ else _) Q E s;rw[if_neg (by intro h;rw[hn,Bool.false_and] at h;cases h)]
      exact wpAny_pure hQ))
def Itl(K:Frag)(a:Addr):It :=
 ⟨λi H=>∃xs x,SqL K H a xs/\xs[i]?=some x,λi H x H'=>H'=H/\∀xs,SqL K H a xs->xs[i]?=some x,λi H=>∃xs,SqL K H a xs/\xs.length<=i⟩
def Itt(K:Frag)(a:Addr):It :=
 ⟨λi H=>∃xs x,SqT K H a xs/\xs[i]?=some x,λi H x H'=>H'=H/\∀xs,SqT K H a xs->xs[i]?=some x,λi H=>∃xs,SqT K H a xs/\xs.length<=i⟩
def Itr(lo:Int)(n:Nat):It:=⟨λi _=>i<n,λi H x H'=>H'=H/\x=.int (lo+i),λi _=>n<=i⟩
theorem c3s{P:Program}{w:World}{K:Frag}{tg:Expr}(a it:Addr):d4q P w K tg (Itl K a) [it] it (λi h=>h.IsListIter it a i) where
 mem:=by simp
 obj:=λi h st b hb=>by
  have e:b=it:=by simpa using hb
  subst e;obtain⟨o,e,c,d⟩:=st;exact⟨o,e,λv z=>by rw[d] at z;cases z⟩
 keep:=λi h h' st k=>st.at λo e=>k it (by simp) o e
 item:=by
  intro X hP hw hK hc i pins s σ H E I hf st hg;subst hP hw hK;obtain⟨xs,x,hq,hx⟩:=hg;obtain⟨its,rv,p,hz⟩:=I.list hq;obtain⟨u,hu,ru⟩:=rv.get hx;obtain⟨f0,f1,f2,f3,f4,f5⟩:=hf it (by simp)
  refine wpAny_pyNext_list_item st p.isList (x:=u) (by simpa using hu) λh' st' sb=>?_
  have I1:Inv X pins σ H { s with heap:=h' }:=I.turned (t':=s.toks) (λb o hb e=>(sb.2 b hb).trans e) f0 f1 f3 f4 f5
  obtain⟨o,e,c,d⟩:=id st';exact⟨u,rfl,c7y (s:={ s with heap:=h' }) e c d (by decide) ⟨x,H,I1,ru,⟨rfl,λys hy=>by rw[I.list_inj hy hq];exact hx⟩,st',λb hb=>(hf b hb).1⟩⟩
 done:=by
  intro X hP hw hK hc i pins s σ H E I hf st hg;subst hP hw hK;obtain⟨xs,hq,hx⟩:=hg;obtain⟨its,rv,p,hz⟩:=I.list hq;obtain⟨f0,f1,f2,f3,f4,f5⟩:=hf it (by simp)
  have hl:=rv.length;exact wpAny_pyNext_list_end (I.ok.hd hc) st p.isList (by simp;lia) λh' eb=>⟨rfl,I.turned (t':=s.toks) (λb o hb e=>eb b o hb e) f0 f1 f3 f4 f5⟩
 self:=λ_ _ _ _ _ st h=>wpAny_pyIter_listiter st h
theorem c2p{P:Program}{w:World}{K:Frag}{tg:Expr}(a it:Addr):d4q P w K tg (Itt K a) [it] it (λi h=>h.IsTupleIter it a i) where
 mem:=by simp
 obj:=λi h st b hb=>by
  have e:b=it:=by simpa using hb
  subst e;obtain⟨o,e,c,d⟩:=st;exact⟨o,e,λv z=>by rw[d] at z;cases z⟩
 keep:=λi h h' st k=>st.at λo e=>k it (by simp) o e
 item:=by
  intro X hP hw hK hc i pins s σ H E I hf st hg;subst hP hw hK;obtain⟨xs,x,hq,hx⟩:=hg;obtain⟨its,rv,p,hz⟩:=I.tuple hq;obtain⟨u,hu,ru⟩:=rv.get hx;obtain⟨f0,f1,f2,f3,f4,f5⟩:=hf it (by simp)
  refine wpAny_pyNext_tuple_item st (show s.heap.IsTuple a its.toArray from p) (x:=u) (by simpa using hu) λh' st' sb=>?_
  have I1:Inv X pins σ H { s with heap:=h' }:=I.turned (t':=s.toks) (λb o hb e=>(sb.2 b hb).trans e) f0 f1 f3 f4 f5
  obtain⟨o,e,c,d⟩:=id st';exact⟨u,rfl,c7y (s:={ s with heap:=h' }) e c d (by decide) ⟨x,H,I1,ru,⟨rfl,λys hy=>by rw[I.tuple_inj hy hq];exact hx⟩,st',λb hb=>(hf b hb).1⟩⟩
 done:=by
  intro X hP hw hK hc i pins s σ H E I hf st hg;subst hP hw hK;obtain⟨xs,hq,hx⟩:=hg;obtain⟨its,rv,p,hz⟩:=I.tuple hq;obtain⟨f0,f1,f2,f3,f4,f5⟩:=hf it (by simp)
  have hl:=rv.length;exact wpAny_pyNext_tuple_end (I.ok.hd hc) st (show s.heap.IsTuple a its.toArray from p) (by simp;lia) λh' eb=>⟨rfl,I.turned (t':=s.toks) (λb o hb e=>eb b o hb e) f0 f1 f3 f4 f5⟩
 self:=λ_ _ _ _ _ st h=>wpAny_pyIter_tupleiter st h
theorem c2q{P:Program}{w:World}{K:Frag}{tg:Expr}(it:Addr)(lo:Int)(n:Nat):d4q P w K tg (Itr lo n) [it] it (λi h=>IsRangeIter h it (lo+(i:Nat)*1) ((n:Int)-(i:Nat)) 1) where
 mem:=by simp
 obj:=λi h st b hb=>by
  have e:b=it:=by simpa using hb
  subst e;exact⟨_,st,λv z=>by
   have z':Data.fields _=Data.cell v:=z;cases z'⟩
 keep:=λi h h' st k=>k it (by simp) _ st
 item:=by
  intro X hP hw hK hc i pins s σ H E I hf st hg;subst hP hw hK;obtain⟨f0,f1,f2,f3,f4,f5⟩:=hf it (by simp)
  have W:=Walks.range (prog:=X.prog) (w:=X.w) (I.ok.hd hc) it lo 1 n;refine W.item i s _ _ hg st λv h' tk hv st' kk=>?_;obtain⟨t,rfl⟩:=hv;have I1:Inv X pins σ H { s with heap:=h',toks:=tk }:=I.turned (λb o hb e=>kk b o (by simpa using hb) e) f0 f1 f3 f4 f5
  refine⟨_,rfl,c7y (s:={ s with heap:=h',toks:=tk }) (n:="range_iterator") st' rfl rfl (by decide) ⟨.int (lo+i),H,I1,⟨t,?_⟩,⟨rfl,rfl⟩,st',λb hb=>(hf b hb).1⟩⟩
  rw[Int.mul_one]
 done:=by
  intro X hP hw hK hc i pins s σ H E I hf st hg;subst hP hw hK;obtain⟨f0,f1,f2,f3,f4,f5⟩:=hf it (by simp)
  exact wpAny_pyNext_range_end (I.ok.hd hc) st (by have:n<=i:=hg;lia) λh' eb=>⟨rfl,I.turned (t':=s.toks) (λb o hb e=>eb b o hb e) f0 f1 f3 f4 f5⟩
 self:=λ_ _ _ _ _ st h=>wpAny_pyIter_rangeiter st h
end L2
namespace L2
open PySem PySem.Spec PyProof.Rows
section
variable{X:Cx}{tg:Expr}
def d1a(K:Frag)(tl:TE):TI:=λσ H R=>tl σ H λx H1=>∃a,x=.ref a/\(∃xs,SqL K H1 a xs)/\R (Itl K a) H1
def d5t(K:Frag)(tl:TE):TI:=λσ H R=>tl σ H λx H1=>∃a,x=.ref a/\(∃xs,SqT K H1 a xs)/\R (Itt K a) H1
theorem d0l{l:Expr}{tl:TE}(hl:PE X l tl):PI X tg l (d1a X.K tl):=by
 intro pins s σ H R I h;refine thn (hl pins s σ H _ I h) λv s1 z0_=>?_;obtain⟨x,H1,I1,r1,q1⟩:=z0_;obtain⟨a,e,⟨xs,hq⟩,q⟩:=q1;subst e;cases r1;obtain⟨its,rv,p,hz⟩:=I1.list hq;refine wpAny_pyIter_list p.isList ?_;refine⟨s1.heap.objs.size,[s1.heap.objs.size],_,_,H1,rfl,I1.kept (t':=s1.toks) λb o e=>Heap.get?_push_of_some _ e,c3s a _,⟨_,Heap.get?_push_size _ rfl,rfl,rfl⟩,λb hb=>?_,q⟩;have e:b=s1.heap.objs.size:=by simpa using hb
 subst e;exact I1.fpOk (Nat.le_refl _) (I1.hok.fresh (Nat.le_refl _))
theorem d2z{l:Expr}{tl:TE}(hl:PE X l tl):PI X tg l (d5t X.K tl):=by
 intro pins s σ H R I h;refine thn (hl pins s σ H _ I h) λv s1 z0_=>?_;obtain⟨x,H1,I1,r1,q1⟩:=z0_;obtain⟨a,e,⟨xs,hq⟩,q⟩:=q1;subst e;cases r1;obtain⟨its,rv,p,hz⟩:=I1.tuple hq;refine wpAny_pyIter_tuple (show s1.heap.IsTuple a its.toArray from p) ?_;refine⟨s1.heap.objs.size,[s1.heap.objs.size],_,_,H1,rfl,I1.kept (t':=s1.toks) λb o e=>Heap.get?_push_of_some _ e,c2p a _,⟨_,Heap.get?_push_size _ rfl,rfl,rfl⟩,λb hb=>?_,q⟩;have e:b=s1.heap.objs.size:=by simpa using hb
 subst e;exact I1.fpOk (Nat.le_refl _) (I1.hok.fresh (Nat.le_refl _))
theorem c1a{pins:List (Addr×Obj)}{σ:St}{H:Hp}{s:Shared}{R:It->Hp->Prop}{E:Value->Shared->Prop}{lo hi:Int}{t u v:Tok}{tk:Nat}(I:Inv X pins σ H s)(h1:-(2 ^ 62)<=lo)(h2:lo<2 ^ 62)(h3:-(2 ^ 62)<=hi)(h4:hi<2 ^ 62)(q:R (Itr lo (hi-lo).toNat) H):wpAny (model X.prog X.w) X.A (pyIter (.ref s.heap.objs.size)) (PIE X pins σ tg R) E { s with heap:=s.heap.push { cls:=.type "range",data:=.fields #[.int lo t,.int hi u,.int 1 v] },toks:=tk }:=by
 refine wpAny_pyIter_range (IsRange.new ..) (small_one h1 h2 h3 h4) ?_;have I1:Inv X pins σ H { s with heap:=s.heap.push { cls:=.type "range",data:=.fields #[.int lo t,.int hi u,.int 1 v] },toks:=tk }:=I.kept λb o e=>Heap.get?_push_of_some _ e
 refine⟨(s.heap.push { cls:=.type "range",data:=.fields #[.int lo t,.int hi u,.int 1 v] }).objs.size,[(s.heap.push { cls:=.type "range",data:=.fields #[.int lo t,.int hi u,.int 1 v] }).objs.size],_,_,H,rfl,
  I1.kept (t':=tk) λb o e=>Heap.get?_push_of_some _ e,c2q _ lo (hi-lo).toNat,?_,λb hb=>?_,q⟩
 ·have e1:lo+((0:Nat):Int)*1=lo:=by simp
  have e2:(((hi-lo).toNat:Nat):Int)-((0:Nat):Int)=Builtin.Range.rangeSize lo hi 1:=by rw[rangeSize_one];split <;> lia
  show IsRangeIter _ _ (lo+((0:Nat):Int)*1) ((((hi-lo).toNat:Nat):Int)-((0:Nat):Int)) 1;rw[e1,e2];exact Heap.get?_push_size _ rfl
 ·have e:b=(s.heap.push { cls:=.type "range",data:=.fields #[.int lo t,.int hi u,.int 1 v] }).objs.size:=by simpa using hb
  subst e;exact I1.fpOk (Nat.le_refl _) (I1.hok.fresh (Nat.le_refl _))
def d3o(ta:TA):TI:=λσ H R=>ta σ H λvs H1=>∃j:Int,vs=[.int j]/\-(2 ^ 62)<=j/\j<2 ^ 62/\R (Itr 0 j.toNat) H1
def d3n(ta:TA):TI:=λσ H R=>ta σ H λvs H1=>∃i j:Int,vs=[.int i,.int j]/\(-(2 ^ 62)<=i/\i<2 ^ 62/\-(2 ^ 62)<=j/\j<2 ^ 62)/\R (Itr i (j-i).toNat) H1
theorem a1u{a:Expr}{ta:TA}{p pos:Pos}(hg:Gl X "range")(hm:X.mg "range" = none)(ha:PA X [a] ta)(hs:starEach [a] X.env=[(false,eval a X.env)]:=by rfl):PI X tg (.Call (.Name "range" p) [a] [] pos) (d3o ta):=by
 intro pins s σ H R I h;refine Call_ (b3r I hg hm boot_range (PyProof.Rows.callWith_type1 (thn (ha pos pins s σ H _ I h) λus s1 z0_=>?_) hs rfl));obtain⟨vs,H1,I1,r1,q1⟩:=z0_;obtain⟨j,e,q1,q2,q⟩:=q1;subst e;cases r1 with
 | cons r rr=>
  cases rr;obtain⟨t,rfl⟩:=r;exact call_range_1 (c1a I1 (by lia) (by lia) q1 q2 (by simpa using q))
theorem c4o{a b:Expr}{ta:TA}{p pos:Pos}(hg:Gl X "range")(hm:X.mg "range" = none)(ha:PA X [a,b] ta)(hs:starEach [a,b] X.env=[(false,eval a X.env),(false,eval b X.env)]:=by rfl)(hs2:starEach [b] X.env=[(false,eval b X.env)]:=by rfl):
  PI X tg (.Call (.Name "range" p) [a,b] [] pos) (d3n ta):=by
 intro pins s σ H R I h;refine Call_ (b3r I hg hm boot_range (PyProof.Rows.callWith_type1 (thn (ha pos pins s σ H _ I h) λus s1 ⟨vs,H1,I1,r1,q1⟩=>?_) (by rw[hs,hs2]) (by rw[hs2];rfl)))
 obtain⟨i,j,e,⟨q1,q2,q3,q4⟩,q⟩:=q1;subst e;cases r1 with
 | cons r rr=>
  cases rr with
  | cons r' rr=>
   cases rr;obtain⟨t,rfl⟩:=r;obtain⟨t',rfl⟩:=r';exact call_range_2 (c1a I1 q1 q2 q3 q4 q)
def d6x(wi:TI)(g:TG)(tb:TS):TS:=λD σ H=>wi σ H λJ H1=>∃W:Nat->Nat->St->Hp->Prop,(∃m,W 0 m σ H1)/\∀i m σ H,W i m σ H ->
 (J.stop i H/\D.nx σ H)\/(J.go i H/\∃N:St->Hp->Prop,(∀σ' H',N σ' H'->∃m',m'<m/\W (i+1) m' σ' H')/\∀x H',J.yld i H x H'->g x σ H' λσ2 H2=>tb { D with nx:=N,ct:=N,bk:=D.nx } σ2 H2)
def b7q(fp:List Addr)(h:Heap):List (Addr×Obj):=fp.filterMap λb=>(h.get? b).map λo=>(b,o)
theorem a3i{fp:List Addr}{h:Heap}{b:Addr}{o:Obj}(hb:b∈fp)(e:h.get? b=some o):(b,o)∈b7q fp h:=List.mem_filterMap.mpr ⟨b,hb,by rw[e];rfl⟩
theorem c5c{fp:List Addr}{h:Heap}{p:Addr×Obj}(hp:p∈b7q fp h):p.1∈fp/\h.get? p.1=some p.2:=by
 obtain⟨b,hb,e⟩:=List.mem_filterMap.mp hp;cases q:h.get? b with
 | none=>rw[q] at e;cases e
 | some o=>
  rw[q] at e;have e':(b,o)=p:=Option.some.inj e;subst e';exact⟨hb,q⟩
theorem Inv.pinned{pins:List (Addr×Obj)}{σ:St}{H:Hp}{s:Shared}{fp:List Addr}(I:Inv X pins σ H s)(hf:∀b∈fp,c2n X pins H b)(ho:∀b∈fp,∃o,s.heap.get? b=some o/\∀v,o.data≠.cell v):Inv X (pins++b7q fp s.heap) σ H s :=
 I.pins_of λp hp=>(List.mem_append.mp hp).elim (λz=>I.pin p (List.mem_append_right _ z)) λz=>by
  obtain⟨hb,e⟩:=c5c z;obtain⟨f0,f1,f2,_⟩:=hf p.1 hb;obtain⟨o,e',d⟩:=ho p.1 hb;rw[e] at e';cases e';exact⟨e,f0,f1,f2,d⟩
theorem Inv.unpinned{pins pl:List (Addr×Obj)}{σ:St}{H:Hp}{s:Shared}(I:Inv X (pins++pl) σ H s):Inv X pins σ H s:=I.pins_of λp hp=>I.pin p (List.mem_append_right _ (List.mem_append_left _ hp))
theorem b2z{iter:Expr}{body:List Stmt}{wi:TI}{g:TG}{tb:TS}{pos:Pos}(hp:PassesOwn (model X.prog X.w) X.A X.env X.xe)(hc:X.calm=true)(hi:PI X tg iter wi)(hg:PG X tg g)(hb:PSs X body tb)(hs:∀x,foldedSetIterable iter X.env x=pure x:=by intro _;rfl):PS X (.For tg iter body [] pos) (d6x wi g tb):=by
 intro pins s σ H D I h;refine wpAny_For (thn (hi pins s σ H _ I h) λv s1 h1=>thn h1 λitv s2 h2=>?_) hs;obtain⟨it,fp,tn,J,H2,e,I2,T,st2,f2,W,⟨m0,w0⟩,turn⟩:=h2;subst e;have stat:∀{H':Hp},(∀b∈fp,H' b=none)->∀b∈fp,c2n X pins H' b:=λhn b hb=>⟨hn b hb,(f2 b hb).2⟩;refine codeAny_forLoop_any (λn s'=>∃i σ' H',Inv X pins σ' H' s'/\tn i s'.heap/\(∀b∈fp,H' b=none)/\W i n σ' H') ?_ m0 ⟨0,σ,H2,I2,st2,λb hb=>(f2 b hb).1,w0⟩;rintro n s3 ⟨i,σ3,H3,I3,st3,fr3,w3⟩;rcases turn i n σ3 H3 w3 with ⟨stop,qn⟩|⟨go,N,hN,step⟩
 ·refine wpAny_passesOwn hp (thn (T.done X rfl rfl rfl hc i pins s3 σ3 H3 X.xe I3 (stat fr3) st3 stop) λr s4 z0_=>?_)
  obtain⟨hr,I4⟩:=z0_;subst hr;exact wpAny_execs_nil ⟨σ3,H3,I4,qn⟩
 ·refine wpAny_passesOwn hp (thn (T.item X rfl rfl rfl hc i pins s3 σ3 H3 X.xe I3 (stat fr3) st3 go) λr s4 z0_=>?_)
  obtain⟨u,hr,h4⟩:=z0_;subst hr;refine wpAny_passesOwn hp (thn h4 λ_ s5 z0_=>?_);obtain⟨x,H5,I5,r5,y5,st5,fr5⟩:=z0_;have I5':=I5.pinned (stat fr5) (T.obj _ _ st5);refine wpAny_passesOwn hp (thn (hg _ s5 σ3 H5 x u _ I5' r5 (step x H5 y5)) λ_ s6 z0_=>?_);obtain⟨σ6,H6,I6,q6⟩:=z0_;refine wpAny_passesOwn hp (thn (hb _ s6 σ6 H6 _ I6 q6) λf s7 q7=>?_);have again:∀{σ7:St}{H7:Hp},Inv X (pins++b7q fp s5.heap) σ7 H7 s7->N σ7 H7->∃m,m<n/\∃i σ' H',Inv X pins σ' H' s7/\tn i s7.heap/\(∀b∈fp,H' b=none)/\W i m σ' H':=λ{σ7 H7} I7 n7=>by
   obtain⟨m',hm,w7⟩:=hN σ7 H7 n7;refine⟨m',hm,i+1,σ7,H7,I7.unpinned,T.keep _ _ _ st5 λb hb o e=>(I7.pin (b,o) (List.mem_append_right _ (List.mem_append_right _ (a3i hb e)))).1,λb hb=>?_,w7⟩;obtain⟨o,e,d⟩:=T.obj _ _ st5 b hb;exact(I7.pin (b,o) (List.mem_append_right _ (List.mem_append_right _ (a3i hb e)))).2.1
  cases f with
  | next=>obtain⟨σ7,H7,I7,n7⟩:=q7;exact again I7 n7
  | cont=>obtain⟨σ7,H7,I7,n7⟩:=q7;exact again I7 n7
  | brk=>obtain⟨σ7,H7,I7,q7⟩:=q7;exact⟨σ7,H7,I7.unpinned,q7⟩
  | ret v=>obtain⟨x7,σ7,H7,I7,r7,q7⟩:=q7;exact⟨x7,σ7,H7,I7.unpinned,r7,q7⟩
end
theorem c8h{K:Frag}{a:Addr}{xs:List V}{g:TG}{tb:TS}{D:Ends}{σ:St}{H:Hp}(Pv:Nat->St->Hp->Prop)(h0:Pv 0 σ H)(hl:∀i σ H,i<=xs.length->Pv i σ H->SqL K H a xs)(hs:∀i x σ H,xs[i]?=some x->Pv i σ H->g x σ H λσ2 H2=>tb { D with nx:=Pv (i+1),ct:=Pv (i+1),bk:=D.nx } σ2 H2)(hd:∀σ H,Pv xs.length σ H->D.nx σ H):
  ∃W:Nat->Nat->St->Hp->Prop,(∃m,W 0 m σ H)/\∀i m σ H,W i m σ H ->
   ((Itl K a).stop i H/\D.nx σ H)\/((Itl K a).go i H/\∃N:St->Hp->Prop,(∀σ' H',N σ' H'->∃m',m'<m/\W (i+1) m' σ' H')/\∀x H',(Itl K a).yld i H x H'->g x σ H' λσ2 H2=>tb { D with nx:=N,ct:=N,bk:=D.nx } σ2 H2):=by
 refine⟨λi m σ H=>m=xs.length-i/\i<=xs.length/\Pv i σ H,⟨xs.length,by simp,Nat.zero_le _,h0⟩,?_⟩
 rintro i m σ H ⟨rfl,hi,p⟩;have q:=hl i σ H hi p;by_cases hlt:i<xs.length
 ·refine .inr ⟨⟨xs,xs[i],q,by simp[hlt]⟩,Pv (i+1),λσ' H' p'=>⟨xs.length-(i+1),by lia,rfl,hlt,p'⟩,λx H' y=>?_⟩
  obtain⟨e,y⟩:=y;subst e;exact hs i x σ _ (y xs q) p
 ·have e:i=xs.length:=by lia
  subst e;exact .inl ⟨⟨xs,q,Nat.le_refl _⟩,hd σ H p⟩
theorem d1k{K:Frag}{a:Addr}{xs:List V}{g:TG}{tb:TS}{D:Ends}{σ:St}{H:Hp}(Pv:Nat->St->Hp->Prop)(h0:Pv 0 σ H)(hl:∀i σ H,i<=xs.length->Pv i σ H->SqT K H a xs)(hs:∀i x σ H,xs[i]?=some x->Pv i σ H->g x σ H λσ2 H2=>tb { D with nx:=Pv (i+1),ct:=Pv (i+1),bk:=D.nx } σ2 H2)(hd:∀σ H,Pv xs.length σ H->D.nx σ H):
  ∃W:Nat->Nat->St->Hp->Prop,(∃m,W 0 m σ H)/\∀i m σ H,W i m σ H ->
   ((Itt K a).stop i H/\D.nx σ H)\/((Itt K a).go i H/\∃N:St->Hp->Prop,(∀σ' H',N σ' H'->∃m',m'<m/\W (i+1) m' σ' H')/\∀x H',(Itt K a).yld i H x H'->g x σ H' λσ2 H2=>tb { D with nx:=N,ct:=N,bk:=D.nx } σ2 H2):=by
 refine⟨λi m σ H=>m=xs.length-i/\i<=xs.length/\Pv i σ H,⟨xs.length,by simp,Nat.zero_le _,h0⟩,?_⟩
 rintro i m σ H ⟨rfl,hi,p⟩;have q:=hl i σ H hi p;by_cases hlt:i<xs.length
 ·refine .inr ⟨⟨xs,xs[i],q,by simp[hlt]⟩,Pv (i+1),λσ' H' p'=>⟨xs.length-(i+1),by lia,rfl,hlt,p'⟩,λx H' y=>?_⟩
  obtain⟨e,y⟩:=y;subst e;exact hs i x σ _ (y xs q) p
 ·have e:i=xs.length:=by lia
  subst e;exact .inl ⟨⟨xs,q,Nat.le_refl _⟩,hd σ H p⟩
theorem a7p{lo:Int}{n:Nat}{g:TG}{tb:TS}{D:Ends}{σ:St}{H:Hp}(Pv:Nat->St->Hp->Prop)(h0:Pv 0 σ H)(hs:∀i σ H,i<n->Pv i σ H->g (.int (lo+i)) σ H λσ2 H2=>tb { D with nx:=Pv (i+1),ct:=Pv (i+1),bk:=D.nx } σ2 H2)(hd:∀σ H,Pv n σ H->D.nx σ H):
  ∃W:Nat->Nat->St->Hp->Prop,(∃m,W 0 m σ H)/\∀i m σ H,W i m σ H ->
   ((Itr lo n).stop i H/\D.nx σ H)\/((Itr lo n).go i H/\∃N:St->Hp->Prop,(∀σ' H',N σ' H'->∃m',m'<m/\W (i+1) m' σ' H')/\∀x H',(Itr lo n).yld i H x H'->g x σ H' λσ2 H2=>tb { D with nx:=N,ct:=N,bk:=D.nx } σ2 H2):=by
 refine⟨λi m σ H=>m=n-i/\i<=n/\Pv i σ H,⟨n,by simp,Nat.zero_le _,h0⟩,?_⟩
 rintro i m σ H ⟨rfl,hi,p⟩;by_cases hlt:i<n
 ·refine .inr ⟨hlt,Pv (i+1),λσ' H' p'=>⟨n-(i+1),by lia,rfl,hlt,p'⟩,λx H' y=>?_⟩
  obtain⟨e,y⟩:=y;subst e y;exact hs i σ _ hlt p
 ·have e:i=n:=by lia
  subst e;exact .inl ⟨Nat.le_refl _,hd σ H p⟩
end L2
namespace L2
open PySem PySem.Spec PyProof.Rows
abbrev R2:=V->V->Hp->VK->Prop
def OpR(X:Cx)(f:Value->Value->Sem Value)(r:R2):Prop :=
 ∀(pins:List (Addr×Obj))(s:Shared)(σ:St)(H:Hp)(x y:V)(v u:Value)(Q:VK),Inv X pins σ H s->RelV x v->RelV y u->r x y H Q ->
  wpAny (model X.prog X.w) X.A (f v u) (EP X pins σ Q) X.xe s
def UnR(X:Cx)(f:Value->Sem Value)(r:V->Hp->VK->Prop):Prop :=
 ∀(pins:List (Addr×Obj))(s:Shared)(σ:St)(H:Hp)(x:V)(v:Value)(Q:VK),Inv X pins σ H s->RelV x v->r x H Q ->
  wpAny (model X.prog X.w) X.A (f v) (EP X pins σ Q) X.xe s
def a4w(X:Cx)(f:Value)(r:List V->Hp->VK->Prop):Prop :=
 ∀(pins:List (Addr×Obj))(s:Shared)(σ:St)(H:Hp)(xs:List V)(us:List Value)(Q:VK),Inv X pins σ H s->Vals xs us->r xs H Q ->
  wpAny (model X.prog X.w) X.A (call f us) (EP X pins σ Q) X.xe s
def tOp(r:R2)(ta tb:TE):TE:=λσ H Q=>ta σ H λx H1=>tb σ H1 λy H2=>r x y H2 Q
def tUn(r:V->Hp->VK->Prop)(ta:TE):TE:=λσ H Q=>ta σ H λx H1=>r x H1 Q
def rI(C:Int->Int->Prop)(g:Int->Int->V):R2:=λx y H Q=>∃i j,x=.int i/\y=.int j/\C i j/\Q (g i j) H
def rI0(g:Int->Int->V):R2:=λx y H Q=>∃i j,x=.int i/\y=.int j/\Q (g i j) H
def rU(g:Int->V):V->Hp->VK->Prop:=λx H Q=>∃i,x=.int i/\Q (g i) H
section
variable{X:Cx}{a b c:Expr}{ta tb tc:TE}{pos:Pos}
theorem d6m(ha:PE X a ta)(hb:PE X b tb){pins:List (Addr×Obj)}{s:Shared}{σ:St}{H:Hp}{R:V->V->Hp->Prop}(I:Inv X pins σ H s)(h:ta σ H λx H1=>tb σ H1 λy H2=>R x y H2){Q:Value->Shared->Prop}{f:Value->Value->Sem Value}(hf:∀v u s2 x y H2,Inv X pins σ H2 s2->RelV x v->RelV y u->R x y H2->wpAny (model X.prog X.w) X.A (f v u) Q X.xe s2):
  wpAny (model X.prog X.w) X.A (eval a X.env) (λv s₁=>wpAny (model X.prog X.w) X.A (eval b X.env) (λu s₂=>wpAny (model X.prog X.w) X.A (f v u) Q X.xe s₂) X.xe s₁) X.xe s:=by
 refine thn (ha pins s σ H _ I h) λv s1 z0_=>?_;obtain⟨x,H1,I1,r1,q1⟩:=z0_;refine thn (hb pins s1 σ H1 _ I1 q1) λu s2 z0_=>?_;obtain⟨y,H2,I2,r2,q2⟩:=z0_;exact hf v u s2 x y H2 I2 r1 r2 q2
theorem j8{op:Operator}{r:R2}(ho:OpR X (binaryOp op) r)(ha:PE X a ta)(hb:PE X b tb):PE X (.BinOp a op b pos) (tOp r ta tb):=by
 intro pins s σ H Q I h;exact wpAny_BinOp (d6m ha hb I h λv u s2 x y H2 I2 rx ry q=>ho pins s2 σ H2 x y v u Q I2 rx ry q)
theorem d0m{op:UnaryOp}{r:V->Hp->VK->Prop}(ho:UnR X (unaryOp op) r)(ha:PE X a ta):PE X (.UnaryOp op a pos) (tUn r ta):=by
 intro pins s σ H Q I h;exact UnaryOp_ (thn (ha pins s σ H _ I h) λv s1 z0_=>by obtain⟨x,H1,I1,r1,q1⟩:=z0_;exact ho pins s1 σ H1 x v Q I1 r1 q1)
theorem opI{f:Value->Value->Sem Value}{C:Int->Int->Prop}{g:Int->Int->Int}(rule:∀(i j:Int) (t u:Tok) (s:Shared) (Q:Value->Shared->Prop) (E:Value->Shared->Prop),C i j->Q (.int (g i j) s.toks) { s with toks:=s.toks+1 }->wpAny (model X.prog X.w) X.A (f (.int i t) (.int j u)) Q E s):
  OpR X f (rI C λi j=>.int (g i j)):=by
 intro pins s σ H x y v u Q I rx ry h;obtain⟨i,j,rfl,rfl,hc,q⟩:=h;obtain⟨t,rfl⟩:=rx;obtain⟨t',rfl⟩:=ry;exact rule i j t t' s _ _ hc ⟨.int (g i j),H,I.tok _,⟨_,rfl⟩,q⟩
theorem d7f{f:Value->Value->Sem Value}{g:Int->Int->Int}(rule:∀(i j:Int) (t u:Tok) (s:Shared) (Q:Value->Shared->Prop) (E:Value->Shared->Prop),Q (.int (g i j) s.toks) { s with toks:=s.toks+1 }->wpAny (model X.prog X.w) X.A (f (.int i t) (.int j u)) Q E s):
  OpR X f (rI0 λi j=>.int (g i j)):=by
 intro pins s σ H x y v u Q I rx ry h;obtain⟨i,j,rfl,rfl,q⟩:=h;obtain⟨t,rfl⟩:=rx;obtain⟨t',rfl⟩:=ry;exact rule i j t t' s _ _ ⟨.int (g i j),H,I.tok _,⟨_,rfl⟩,q⟩
theorem d4v{f:Value->Value->Sem Value}{g:Int->Int->Bool}(rule:∀(i j:Int) (t u:Tok) (s:Shared) (Q:Value->Shared->Prop) (E:Value->Shared->Prop),Q (.bool (g i j)) s->wpAny (model X.prog X.w) X.A (f (.int i t) (.int j u)) Q E s):
  OpR X f (rI0 λi j=>.bl (g i j)):=by
 intro pins s σ H x y v u Q I rx ry h;obtain⟨i,j,rfl,rfl,q⟩:=h;obtain⟨t,rfl⟩:=rx;obtain⟨t',rfl⟩:=ry;exact rule i j t t' s _ _ ⟨.bl (g i j),H,I,rfl,q⟩
def d8r(i j:Int):Prop:=0<=j/\j<=1000000/\i.natAbs<2 ^ 64
def CMul(i j:Int):Prop:=(-(2 ^ 64)<i/\i<2 ^ 64)\/(-(2 ^ 64)<j/\j<2 ^ 64)
theorem CMul.ok{i j:Int}(h:CMul i j):IntMulOk i j:=by
 rcases h with ⟨h1,h2⟩|⟨h1,h2⟩
 ·exact .of_left (intBits_le_64 h1 h2)
 ·exact .of_right (intBits_le_64 h1 h2)
theorem a0y:OpR X (binaryOp .Add) (rI0 λi j=>.int (i+j)):=d7f λ_ _ _ _ _ _ _ q=>add_int q
theorem a4i:OpR X (binaryOp .Sub) (rI0 λi j=>.int (i-j)):=d7f λ_ _ _ _ _ _ _ q=>sub_int q
theorem a0q:OpR X (binaryOp .Mult) (rI CMul λi j=>.int (i*j)):=opI λ_ _ _ _ _ _ _ hc q=>mul_int q hc.ok
theorem a5c:OpR X (binaryOp .Mod) (rI (λ_ j=>0<j) λi j=>.int (i % j)):=opI λi j _ _ _ _ _ hc q=>by
 have h1:(0:Int)<j:=hc;exact mod_int' (by lia) (by rw[Int.fmod_eq_emod_of_nonneg i (by lia)];exact q)
theorem c1j:OpR X (binaryOp .Pow) (rI d8r λi j=>.int (i ^ j.toNat)):=opI λ_ _ _ _ _ _ _ hc q=>pow_int_small hc.1 hc.2.1 hc.2.2 q
theorem unI{f:Value->Sem Value}{g:Int->Int}(rule:∀(i:Int) (t:Tok) (s:Shared) (Q:Value->Shared->Prop) (E:Value->Shared->Prop),Q (.int (g i) s.toks) { s with toks:=s.toks+1 }->wpAny (model X.prog X.w) X.A (f (.int i t)) Q E s):
  UnR X f (rU λi=>.int (g i)):=by
 intro pins s σ H x v Q I rx h;obtain⟨i,rfl,q⟩:=h;obtain⟨t,rfl⟩:=rx;exact rule i t s _ _ ⟨.int (g i),H,I.tok _,⟨_,rfl⟩,q⟩
theorem c3q:UnR X (unaryOp .USub) (rU λi=>.int (-i)):=unI λ_ _ _ _ _ q=>neg_int q
end
def d4t:V->V->Bool
 | .non,.non=>true|.non,.int _=>true|.int _,.non=>true|.non,.bl _=>true|.bl _,.non=>true|.non,.str _=>true|.str _,.non=>true
 | .int _,.int _=>true|.bl _,.bl _=>true|.str _,.str _=>true|.byt _,.byt _=>true
 | .int _,.str _=>true|.str _,.int _=>true|.bl _,.str _=>true|.str _,.bl _=>true
 | _,_=>false
def rEq:R2:=λx y H Q=>d4t x y=true/\Q (.bl (decide (x=y))) H
def rNe:R2:=λx y H Q=>d4t x y=true/\Q (.bl (!decide (x=y))) H
theorem y6{i j:Int}:decide (V.int i=V.int j)=(i == j):=by
 rw[Bool.eq_iff_iff];simp
theorem c9q{i j:Bool}:decide (V.bl i=V.bl j)=(i == j):=by
 rw[Bool.eq_iff_iff];simp
theorem a1r{i j:Str}:decide (V.str i=V.str j)=(i == j):=by
 rw[Bool.eq_iff_iff];simp
theorem c6e{i j:Array UInt8}:decide (V.byt i=V.byt j)=(i.toList == j.toList):=by
 rw[Bool.eq_iff_iff];cases i;cases j;simp
section
variable{X:Cx}{a b c:Expr}{ta tb tc:TE}{pos:Pos}
theorem a0f{pins:List (Addr×Obj)}{σ:St}{H:Hp}{s:Shared}{Q:VK}{k k':Bool}(I:Inv X pins σ H s)(q:Q (.bl k) H)(e:k=k'):EP X pins σ Q (.bool k') s:=by
 subst e;exact⟨.bl k,H,I,rfl,q⟩
theorem a1k:OpR X (compareOp .Eq) rEq:=by
 intro pins s σ H x y v u Q I rx ry h;obtain⟨hs,q⟩:=h;cases x with
 | non=>
  cases rx;cases y with
  | non=>cases ry;exact PySem.EqNone.eq_none_none (a0f I q (by simp))
  | bl j=>cases ry;exact PySem.EqNone.eq_none_bool (a0f I q (by simp))
  | int j=>obtain⟨t',rfl⟩:=ry;exact PySem.EqNone.eq_none_int (a0f I q (by simp))
  | str j=>obtain⟨t',rfl⟩:=ry;exact PySem.EqNone.eq_none_str (a0f I q (by simp))
  | _=>exact absurd (show false=true from hs) Bool.false_ne_true
 | bl i=>
  cases rx;cases y with
  | non=>cases ry;exact PySem.EqNone.eq_bool_none (a0f I q (by simp))
  | bl j=>cases ry;exact eq_bool (a0f I q c9q)
  | str j=>obtain⟨t',rfl⟩:=ry;exact PySem.EqMixed.eq_bool_str (a0f I q (by simp))
  | _=>exact absurd (show false=true from hs) Bool.false_ne_true
 | int i=>
  obtain⟨t,rfl⟩:=rx;cases y with
  | non=>cases ry;exact PySem.EqNone.eq_int_none (a0f I q (by simp))
  | int j=>obtain⟨t',rfl⟩:=ry;exact eq_int (a0f I q y6)
  | str j=>obtain⟨t',rfl⟩:=ry;exact PySem.EqMixed.eq_int_str (a0f I q (by simp))
  | _=>exact absurd (show false=true from hs) Bool.false_ne_true
 | str i=>
  obtain⟨t,rfl⟩:=rx;cases y with
  | non=>cases ry;exact PySem.EqNone.eq_str_none (a0f I q (by simp))
  | bl j=>cases ry;exact PySem.EqMixed.eq_str_bool (a0f I q (by simp))
  | int j=>obtain⟨t',rfl⟩:=ry;exact PySem.EqMixed.eq_str_int (a0f I q (by simp))
  | str j=>obtain⟨t',rfl⟩:=ry;exact eq_str (a0f I q a1r)
  | _=>exact absurd (show false=true from hs) Bool.false_ne_true
 | byt i=>
  obtain⟨t,rfl⟩:=rx;cases y with
  | byt j=>obtain⟨t',rfl⟩:=ry;exact PySem.W.eq_bytes (a0f I q c6e)
  | _=>exact absurd (show false=true from hs) Bool.false_ne_true
 | _=>cases y <;> exact absurd (show false=true from hs) Bool.false_ne_true
theorem a4b:OpR X (compareOp .NotEq) rNe:=by
 intro pins s σ H x y v u Q I rx ry h;obtain⟨hs,q⟩:=h;cases x with
 | non=>
  cases rx;cases y with
  | non=>cases ry;exact PySem.EqNone.ne_none_none (a0f I q (by simp))
  | bl j=>cases ry;exact PySem.EqNone.ne_none_bool (a0f I q (by simp))
  | int j=>obtain⟨t',rfl⟩:=ry;exact PySem.EqNone.ne_none_int (a0f I q (by simp))
  | str j=>obtain⟨t',rfl⟩:=ry;exact PySem.EqNone.ne_none_str (a0f I q (by simp))
  | _=>exact absurd (show false=true from hs) Bool.false_ne_true
 | bl i=>
  cases rx;cases y with
  | non=>cases ry;exact PySem.EqNone.ne_bool_none (a0f I q (by simp))
  | bl j=>cases ry;exact ne_bool (a0f I q (congrArg not c9q))
  | str j=>obtain⟨t',rfl⟩:=ry;exact PySem.EqMixed.ne_bool_str (a0f I q (by simp))
  | _=>exact absurd (show false=true from hs) Bool.false_ne_true
 | int i=>
  obtain⟨t,rfl⟩:=rx;cases y with
  | non=>cases ry;exact PySem.EqNone.ne_int_none (a0f I q (by simp))
  | int j=>obtain⟨t',rfl⟩:=ry;exact ne_int (a0f I q (congrArg not y6))
  | str j=>obtain⟨t',rfl⟩:=ry;exact PySem.EqMixed.ne_int_str (a0f I q (by simp))
  | _=>exact absurd (show false=true from hs) Bool.false_ne_true
 | str i=>
  obtain⟨t,rfl⟩:=rx;cases y with
  | non=>cases ry;exact PySem.EqNone.ne_str_none (a0f I q (by simp))
  | bl j=>cases ry;exact PySem.EqMixed.ne_str_bool (a0f I q (by simp))
  | int j=>obtain⟨t',rfl⟩:=ry;exact PySem.EqMixed.ne_str_int (a0f I q (by simp))
  | str j=>obtain⟨t',rfl⟩:=ry;exact ne_str (a0f I q (congrArg not a1r))
  | _=>exact absurd (show false=true from hs) Bool.false_ne_true
 | byt i=>
  obtain⟨t,rfl⟩:=rx;cases y with
  | byt j=>obtain⟨t',rfl⟩:=ry;exact PySem.W.ne_bytes (a0f I q (congrArg not c6e))
  | _=>exact absurd (show false=true from hs) Bool.false_ne_true
 | _=>cases y <;> exact absurd (show false=true from hs) Bool.false_ne_true
theorem a2a:OpR X (compareOp .Lt) (rI0 λi j=>.bl (decide (i<j))):=d4v λ_ _ _ _ _ _ _ q=>lt_int q
theorem c7o:OpR X (compareOp .LtE) (rI0 λi j=>.bl (decide (i<=j))):=d4v λ_ _ _ _ _ _ _ q=>le_int q
theorem b1q:OpR X (compareOp .Gt) (rI0 λi j=>.bl (decide (j<i))):=d4v λ_ _ _ _ _ _ _ q=>gt_int q
theorem c7p:OpR X (compareOp .GtE) (rI0 λi j=>.bl (decide (j<=i))):=d4v λ_ _ _ _ _ _ _ q=>ge_int q
theorem b7v:OpR X (compareOp .In) (λx y H Q=>∃i j,x=.str i/\y=.str j/\Q (.bl (!(Builtin.Str.occurrences j i 0 j.length 1).isEmpty)) H):=by
 intro pins s σ H x y v u Q I rx ry h;obtain⟨i,j,rfl,rfl,q⟩:=h;obtain⟨t,rfl⟩:=rx;obtain⟨t',rfl⟩:=ry;exact in_str (a0f I q rfl)
theorem b4v:OpR X (compareOp .Is) (λx y H Q=>y=.non/\Q (.bl (decide (x=.non))) H):=by
 intro pins s σ H x y v u Q I rx ry h;obtain⟨rfl,q⟩:=h;cases ry;refine is_none_gen (a0f I q ?_);cases x <;> first
  | (cases rx;rfl)
  | (obtain⟨t,rfl⟩:=rx;rfl)
theorem c5a:OpR X (compareOp .IsNot) (λx y H Q=>y=.non/\Q (.bl (!decide (x=.non))) H):=by
 intro pins s σ H x y v u Q I rx ry h;obtain⟨rfl,q⟩:=h;cases ry;refine isnot_none_gen (a0f I q ?_);cases x <;> first
  | (cases rx;rfl)
  | (obtain⟨t,rfl⟩:=rx;rfl)
theorem i3(b:Expr){op:CmpOp}(h:op≠.In:=by decide)(h2:op≠.NotIn:=by decide):behindInMarks op b=false:=by
 have e1:(op == CmpOp.In)=false:=by cases op <;> first|rfl|exact absurd rfl h
 have e2:(op == CmpOp.NotIn)=false:=by cases op <;> first|rfl|exact absurd rfl h2
 cases b <;> simp[behindInMarks,e1,e2]
theorem m9{op:CmpOp}{r:R2}(ho:OpR X (compareOp op) r)(ha:PE X a ta)(hb:PE X b tb)(hm:behindInMarks op b=false):PE X (.Compare a [op] [b] pos) (tOp r ta tb):=by
 intro pins s σ H Q I h;exact wpAny_Compare1 (d6m ha hb I h λv u s2 x y H2 I2 rx ry q=>ho pins s2 σ H2 x y v u Q I2 rx ry q) hm
def d0b(t:TE):TT:=λσ H Q=>t σ H λx H'=>∃k,x=.bl k/\Q k H'
theorem g6{op:CmpOp}{r:R2}(ho:OpR X (compareOp op) r)(ha:PE X a ta)(hb:PE X b tb)(hm:behindInMarks op b=false):PT X (.Compare a [op] [b] pos) (d0b (tOp r ta tb)):=by
 intro pins s σ H Q I h;refine wpAny_isTrue_Compare1 (thn (ha pins s σ H _ I h) λv s1 ⟨x,H1,I1,r1,q1⟩=>thn (hb pins s1 σ H1 _ I1 q1) λu s2 ⟨y,H2,I2,r2,q2⟩=>
  thn (ho pins s2 σ H2 x y v u _ I2 r1 r2 q2) λc s3 ⟨z,H3,I3,r3,k,e,q3⟩=>?_) hm
 subst e;cases r3;exact wpAny_truthy_bool ⟨H3,I3,q3⟩
theorem b4x:(sizeLine:Nat)<2 ^ 63:=by rw[sizeLine_eq];decide
theorem c2z:OpR X (binaryOp .Add) (λx y H Q=>∃i j,x=.str i/\y=.str j/\i.length+j.length<=sizeLine/\Q (.str (i++j)) H):=by
 intro pins s σ H x y v u Q I rx ry h;obtain⟨i,j,rfl,rfl,hz,q⟩:=h;obtain⟨t,rfl⟩:=rx;obtain⟨t',rfl⟩:=ry;exact add_str (λt' tk=>⟨.str (i++j),H,I.tok _,⟨_,rfl⟩,q⟩) hz
theorem b4b{x:V}{us:List Value}(r:Vals [x] us):∃u,us=[u]/\RelV x u:=by
 cases r with
 | cons r1 r2=>cases r2;exact⟨_,rfl,r1⟩
theorem d2d{x y:V}{us:List Value}(r:Vals [x,y] us):∃u w',us=[u,w']/\RelV x u/\RelV y w':=by
 cases r with
 | cons r1 r2=>
  cases r2 with
  | cons r3 r4=>cases r4;exact⟨_,_,rfl,r1,r3⟩
theorem c6j(hc:X.calm=true):a4w X (.builtin "max") (λxs H Q=>∃i j,xs=[.int i,.int j]/\Q (.int (if j > i then j else i)) H):=by
 intro pins s σ H xs us Q I r h;obtain⟨i,j,rfl,q⟩:=h;obtain⟨u,w',rfl,⟨t,rfl⟩,⟨t',rfl⟩⟩:=d2d r;refine max_two_ints (I.ok.hd hc) λh' tk k=>⟨_,H,I.kept k,?_,q⟩;by_cases hj:j > i
 ·rw[if_pos hj,if_pos hj];exact⟨_,rfl⟩
 ·rw[if_neg hj,if_neg hj];exact⟨_,rfl⟩
theorem c6i(hc:X.calm=true):a4w X (.builtin "min") (λxs H Q=>∃i j,xs=[.int i,.int j]/\Q (.int (if j<i then j else i)) H):=by
 intro pins s σ H xs us Q I r h;obtain⟨i,j,rfl,q⟩:=h;obtain⟨u,w',rfl,⟨t,rfl⟩,⟨t',rfl⟩⟩:=d2d r;refine min_two_ints (I.ok.hd hc) λh' tk k=>⟨_,H,I.kept k,?_,q⟩;by_cases hj:j<i
 ·rw[if_pos hj,if_pos hj];exact⟨_,rfl⟩
 ·rw[if_neg hj,if_neg hj];exact⟨_,rfl⟩
theorem a3z:a4w X (.type "int") (λxs H Q=>(∃i,xs=[.int i]/\Q (.int i) H) \/ ∃k,xs=[.bl k]/\Q (.int (if k then 1 else 0)) H):=by
 intro pins s σ H xs us Q I r h;rcases h with ⟨i,rfl,q⟩|⟨k,rfl,q⟩
 ·obtain⟨u,rfl,t,rfl⟩:=b4b r
  exact call_int_int ⟨.int i,H,I,⟨_,rfl⟩,q⟩
 ·obtain⟨u,rfl,r1⟩:=b4b r
  cases r1;exact call_int_bool ⟨.int (if k then 1 else 0),H,I.tok _,⟨_,rfl⟩,q⟩
theorem a4k:a4w X (.type "str") (λxs H Q=>∃i,xs=[.int i]/\i.natAbs.log2<1920/\Q (.str (toString i)) H):=by
 intro pins s σ H xs us Q I r h;obtain⟨i,rfl,hz,q⟩:=h;obtain⟨u,rfl,t,rfl⟩:=b4b r;exact PySem.P.str_of_int hz ⟨.str _,H,I.tok _,⟨_,rfl⟩,q⟩
end
end L2
namespace L2
open PySem PySem.Spec PyProof.Rows
structure ObjM(h:Heap)(x dx C:Addr)(mA:Str->Option Value):Prop where
 obj:h.get? x=some (PySem.W.instObj C dx)
 ns:h.Ns1 dx mA
 ne:dx≠x
theorem c5h{h:Heap}{dx:Addr}{mA:Str->Option Value}(n:h.Ns1 dx mA):∃od,h.get? dx=some od/\∀name,PySem.W.lookIn name od=some (mA name):=by
 obtain⟨o,es,ep,ho,hd,hk,_,hm⟩:=n;refine⟨o,ho,λname=>?_⟩;have e:=hm name;unfold nsFind findBy at e;rw[<- Array.find?_toList] at e;unfold PySem.W.lookIn;rw[hd];dsimp only;split
 ·rename_i y q
  rw[q] at e;exact congrArg some e
 ·rename_i q
  rw[q] at e;have a:es.toList.any (·.refKey)=false:=by
   rw[List.any_eq_false];intro y hy;obtain⟨z,t,hkey⟩:=hk y (Array.mem_toList_iff.mp hy);simp[DictEntry.refKey,hkey]
  have a':¬ es.toList.any (·.refKey)=true:=by rw[a];exact Bool.false_ne_true
  rw[if_neg a'];exact congrArg some e
theorem ObjM.look{h:Heap}{x dx C:Addr}{mA:Str->Option Value}(I:ObjM h x dx C mA):∃od,PySem.W.InstAt h x (PySem.W.instObj C dx) C (some od)/\∀name,PySem.W.lookIn name od=some (mA name) :=
 let ⟨od,ho,hl⟩:=c5h I.ns
 ⟨od,⟨I.obj,rfl,rfl,ho⟩,hl⟩
section
variable{prog:Program}{w:World}{A:Around}{E:Value->Shared->Prop}{s:Shared}{K:Frag}{x dx C f:Addr}{mA:Str->Option Value}{name:Str}{v:Value}
end
section
variable{P:Program}{w:World}{H H':Hp}{h h':Heap}{a C dx:Addr}{fs fs':List (Str×V)}
theorem d0z(hok:HOk P w H h)(e:H a=some (.ins C dx fs)):∃mA,ObjM h a dx C mA/\(∀f,d6n (fs.lookup f) (mA f))/\PySem.Within mA (fs.map (·.1))/\fs.length<=1000/\H dx=some (.own a):=by
 obtain⟨d,z,ne,ob,mA,n,r,q⟩:=(show ObjOk P w H h a (.ins C dx fs) from hok a _ e);exact⟨mA,⟨ob,n,ne⟩,r,q,z,d⟩
end
structure Cls(K:Frag)(C:Addr):Prop where
 pg:plainGet K C Str.empty=true
 hd:hasDictIn K C=true
 po:plainOver K C=true
 sa:findIn K (.ref C) "__setattr__" = some (some (.builtin "object.__setattr__"))
theorem Cls.get{K:Frag}{C:Addr}(c:Cls K C)(f:Str):plainGet K C f=true:=c.pg
section
variable{X:Cx}{pins:List (Addr×Obj)}{σ:St}{H:Hp}{s:Shared}{a C dx:Addr}{fs:List (Str×V)}{f:Str}{v:V}{A:Around}{E:Value->Shared->Prop}
end
section
variable{X:Cx}{o e value:Expr}{f:Str}{pos pos' tpos:Pos}{ta tv:TE}
end
section
variable{X:Cx}{pins:List (Addr×Obj)}{σ:St}{H:Hp}{s:Shared}{A:Around}{E:Value->Shared->Prop}{Q:Value->Shared->Prop}{c:Value}{b:Bool}
inductive c3l(K:Frag)(H:Hp):V->Value->Prop where
 | non:c3l K H .non (.type "NoneType")
 | bl (x:Bool):c3l K H (.bl x) (.type "bool")
 | int (i:Int):c3l K H (.int i) (.type "int")
 | str (x:Str):c3l K H (.str x) (.type "str")
 | flt (x:UInt64):c3l K H (.flt x) (.type "float")
 | lst {a:Addr} {xs:List V} (e:H a=some (.lst xs)):c3l K H (.ref a) (.type "list")
 | frz {a:Addr} {o:Obj} {xs:List V} (e:H a=some (.frz o (.lst xs))):c3l K H (.ref a) (.type "list")
 | tup {a:Addr} {xs:List V} (e:H a=some (.tup xs)):c3l K H (.ref a) (.type "tuple")
 | dK {a:Addr} {kvs:List (Key×V)} (e:H a=some (.dK kvs)):c3l K H (.ref a) (.type "dict")
 | dT {a:Addr} {kvs:List (List Key×V)} (e:H a=some (.dT kvs)):c3l K H (.ref a) (.type "dict")
 | ins {a C dx:Addr} {fs:List (Str×V)} (e:H a=some (.ins C dx fs)) (cl:Cls K C) (ha:findIn K (.ref C) "__class__" = some (some (.builtin "object.__class__")))
   (hn:specialIn K (.builtin "object.__class__") "__get__" = some (some (.builtin "getset_descriptor.__get__"))) (htk:PySem.W.takesIn K (.builtin "object.__class__")=some true)
   (hm:mroIn K C (.type "object")=some true):c3l K H (.ref a) (.ref C)
theorem c5l{x:V}{u t:Value}(I:Inv X pins σ H s)(rx:RelV x u)(ty:c3l X.K H x t)(e:kitOne X.K t c=some b)(h:∀tk,Q (.bool b) { s with toks:=tk }):
  wpAny (model X.prog X.w) A (call (.builtin "isinstance") [u,c]) Q E s:=by
 cases ty with
 | non=>cases (show u=Value.none from rx);exact kia_one PySem.W.kitx_none I.kIn True.intro e (λz=>nomatch z) h
 | bl y=>cases (show u=Value.bool y from rx);exact kia_one PySem.W.kitx_bool I.kIn True.intro e (λz=>nomatch z) h
 | int i=>obtain⟨t,q⟩:=(show ∃t,u=Value.int i t from rx);cases q;exact kia_one PySem.W.kitx_int I.kIn True.intro e (λz=>nomatch z) h
 | str y=>obtain⟨t,q⟩:=(show ∃t,u=Value.str y t from rx);cases q;exact kia_one PySem.W.kitx_str I.kIn True.intro e (λz=>nomatch z) h
 | flt y=>obtain⟨t,q⟩:=(show ∃t,u=Value.float y t from rx);cases q;exact kia_one PySem.W.kitx_float I.kIn True.intro e (λz=>nomatch z) h
 | @lst a xs ea=>
  cases (show u=Value.ref a from rx);obtain⟨_,_,n,_,h1⟩:=(show ObjOk X.prog X.w H s.heap a (.lst xs) from I.hok a _ ea);exact kia_one PySem.W.kitx_list I.kIn ⟨_,h1,rfl⟩ e (λz=>nomatch z) h
 | @frz a ob xs ea=>
  cases (show u=Value.ref a from rx);obtain⟨_,_,_,n,_,h1⟩:=(show ObjOk X.prog X.w H s.heap a (.frz ob (.lst xs)) from I.hok a _ ea);exact kia_one PySem.W.kitx_list I.kIn ⟨_,h1,rfl⟩ e (λz=>nomatch z) h
 | @tup a xs ea=>
  cases (show u=Value.ref a from rx);obtain⟨_,_,_,p⟩:=(show ObjOk X.prog X.w H s.heap a (.tup xs) from I.hok a _ ea);obtain⟨o,h1,h2,_⟩:=p;exact kia_one PySem.W.kitx_tuple I.kIn ⟨o,h1,h2⟩ e (λz=>nomatch z) h
 | @dK a kvs ea=>
  cases (show u=Value.ref a from rx);obtain⟨_,_,vs,_,p⟩:=(show ObjOk X.prog X.w H s.heap a (.dK kvs) from I.hok a _ ea);obtain⟨o,es,ep,h1,h2,_⟩:=p;exact kia_one PySem.W.kitx_dict I.kIn ⟨o,h1,h2.1⟩ e (λz=>nomatch z) h
 | @dT a kvs ea=>
  cases (show u=Value.ref a from rx);obtain⟨_,_,xs,_,o,es,ep,h1,h2,_⟩:=(show ObjOk X.prog X.w H s.heap a (.dT kvs) from I.hok a _ ea);exact kia_one PySem.W.kitx_dict I.kIn ⟨o,h1,h2.1⟩ e (λz=>nomatch z) h
 | @ins a C dx fs ea cl ha hn htk hm=>
  cases (show u=Value.ref a from rx);obtain⟨mA,O,_⟩:=d0z I.hok ea;obtain⟨od,J,_⟩:=O.look;exact kia_one (PySem.W.kitx_own (cl.get _) cl.hd ha hn htk hm) I.kIn J e (λz=>nomatch z) h
end
end L2
namespace L2
open PySem PySem.Spec PyProof.Rows
structure Room(k:Nat)(A:Around):Prop where
 hd:A.handled=none
 dp:A.depth+3*k+5<recursionLimit
 un:A.units+16*k+200<cLine
theorem Room.mono{j k:Nat}{A:Around}(r:Room k A)(h:j<=k):Room j A:=⟨r.hd,by have:=r.dp;lia,by have:=r.un;lia⟩
theorem Room.deeper{k:Nat}{A:Around}(r:Room (k+1) A)(env:Env):Room k (A.deeper env) :=
 ⟨r.hd,by have:=r.dp;show A.depth+1+3*k+5<_;lia,by have:=r.un;show A.units+3+16*k+200<_;lia⟩
theorem Room.depth{k:Nat}{A:Around}(r:Room k A):A.depth<recursionLimit:=by have:=r.dp;lia
def d1w:TA:=λ_ H Q=>Q [] H
def c7b(ta:TE)(tr:TA):TA:=λσ H Q=>ta σ H λx H1=>tr σ H1 λxs H2=>Q (x::xs) H2
section
variable{X:Cx}{e:Expr}{es:List Expr}{te:TE}{t:TA}{pos:Pos}
theorem d5:PA X [] d1w:=λ_ _ _ _ H Q I h=>Calls.spliced_nil ⟨[],H,I,.nil,h⟩
theorem d4(ha:PE X e te)(hr:PA X es t)(hs:starEach (e::es) X.env=(false,eval e X.env)::starEach es X.env:=by rfl):PA X (e::es) (c7b te t):=by
 intro pos pins s σ H Q I h;rw[hs];show wpAny _ _ (spliced ((false,eval e X.env)::backTo pos (starEach es X.env))) _ _ s;refine Calls.spliced_cons (thn (ha pins s σ H _ I h) λu s1 z0_=>?_);obtain⟨x,H1,I1,r1,q1⟩:=z0_;exact thn (hr pos pins s1 σ H1 _ I1 q1) λus s2 z0_=>by obtain⟨xs,H2,I2,r2,q2⟩:=z0_;exact⟨x::xs,H2,I2,.cons r1 r2,q2⟩
def d6r(t:TA):TE:=λσ H Q=>t σ H λxs H1=>xs.length<=sizeLine/\∀p,H1 p=none->Q (.ref p) (upd H1 p (.tup xs))
def d6w(t:TA):TE:=λσ H Q=>t σ H λxs H1=>xs.length<=sizeLine/\∀p,H1 p=none->Q (.ref p) (upd H1 p (.lst xs))
theorem a0k{x1}(h:PA X es t):PE X (.Tuple es x1 pos) (d6r t):=by
 intro pins s σ H Q I hq;refine wpAny_Tuple_spliced (thn (h pos pins s σ H _ I hq) λus s1 ⟨xs,H1,I1,r,z,q⟩=>⟨by rw[<- r.length];exact z,?_⟩)
 have hf:H1 s1.heap.objs.size=none:=I1.hok.fresh (Nat.le_refl _);refine⟨.ref s1.heap.objs.size,upd H1 s1.heap.objs.size (.tup xs),I1.laid (t':=s1.toks) (λb u e=>Heap.get?_push_of_some _ e) (Nat.le_refl _) ?_,rfl,q _ hf⟩;exact⟨z,us,r,⟨_,Heap.get?_push_size _ rfl,rfl,_,rfl⟩⟩
theorem m5(h:PA X es t):PE X (.List es pos) (d6w t):=by
 intro pins s σ H Q I hq;refine wpAny_List_spliced (thn (h pos pins s σ H _ I hq) λus s1 ⟨xs,H1,I1,r,z,q⟩=>⟨by rw[<- r.length];exact z,?_⟩)
 have hf:H1 s1.heap.objs.size=none:=I1.hok.fresh (Nat.le_refl _);refine⟨.ref s1.heap.objs.size,upd H1 s1.heap.objs.size (.lst xs),I1.laid (t':=s1.toks) (λb u e=>Heap.get?_push_of_some _ e) (Nat.le_refl _) ?_,rfl,q _ hf⟩;exact⟨z,us,0,r,Heap.get?_push_size _ rfl⟩
end
abbrev Sp:=List V->Hp->VK->XK->Prop
abbrev CXT:=List Env->Hp->Shared->XK->Value->Shared->Prop
structure d4y(P:Program)(w:World)(K:Frag)(mg:Str->Option Value)(base:Heap)(A:Around)(outer:List Env)(s:Shared)(H:Hp):Prop where
 frames:A.frames=some outer
 mod:Mod K mg base
 bs:∀b o,base.get? b=some o->s.heap.get? b=some o/\H b=none
 bsz:base.objs.size<=s.heap.objs.size
 funs:s.heap.FunFrames base outer
 frf:∀b∈frs outer,H b=none
 hok:HOk P w H s.heap
 bare:AllBare s.gens
def CE(outer:List Env)(P:Program)(w:World)(H:Hp)(s:Shared)(Q:VK)(u:Value)(s':Shared):Prop :=
 ∃v H',s'.os=s.os/\AllBare s'.gens/\Un (frs outer) [] H H' s.heap s'.heap/\HOk P w H' s'.heap/\RelV v u/\Q v H'
def CR(CX:CXT)(outer:List Env)(P:Program)(w:World)(H:Hp)(s:Shared)(Q:VK)(E:XK)(r:Result)(s':Shared):Prop :=
 match r with
 | .ok (.ret u)=>CE outer P w H s Q u s'
 | .ok _=>False
 | .error e=>CX outer H s E e s'
structure c6q(P:Program)(w:World)(K:Frag)(mg:Str->Option Value)(base:Heap)(CX:CXT)(k:Nat)(f:Addr)(fd:FuncData)(ps:List Str)(sp:Sp):Prop where
 len:∀vs H Q E,sp vs H Q E->vs.length=ps.length
 run:∀(A:Around)(outer:List Env)(s:Shared)(H:Hp)(args:Args)(us:List Value)(vs:List V)(Q:VK)(E:XK),Room k A->d4y P w K mg base A outer s H->BindsTo s fd args (ps.zip us)->Vals vs us->sp vs H Q E ->
  codeAny (model P w) A (.call (.ref f) args) (CR CX outer P w H s Q E) s
section
variable{X:Cx}{pins:List (Addr×Obj)}{σ:St}{H:Hp}{s s':Shared}
theorem Inv.env0(I:Inv X pins σ H s):d4y X.prog X.w X.K X.mg X.base X.A X.stack s H :=
 ⟨I.ok.frames,I.ok.mod,I.bs,Nat.le_trans I.ok.bsz I.sz,I.stack,I.stkFree,I.hok,I.bare⟩
theorem Inv.after{Q:VK}{u:Value}(I:Inv X pins σ H s)(h:CE X.stack X.prog X.w H s Q u s'):EP X pins σ Q u s':=by
 obtain⟨v,H',os,bare,un,hok,r,q⟩:=h;obtain⟨hh,g,d,t,os'⟩:=s';obtain rfl:os'=s.os:=os;exact⟨v,H',I.call (h':=hh) (g':=g) (d':=d) (t':=t) (ch:=[]) un hok bare (λb z=>absurd z (by simp)),r,q⟩
end
def d5e(sp:Sp)(dvs:List V)(E:XK)(t:TA):TE:=λσ H Q=>t σ H λvs H1=>sp (vs++dvs) H1 Q E
def Binds(K:Frag)(fd:FuncData)(ps:List Str)(ds:List Value):Prop :=
 ∀(s:Shared)(us:List Value),K.In s.heap->(us++ds).length=ps.length->BindsTo s fd ⟨us,[]⟩ (ps.zip (us++ds))
theorem Binds.all{K:Frag}{fd:FuncData}{ps:List Str}(h:∀us:List Value,us.length=ps.length->bindArgs fd ⟨us,[]⟩=pure (ps.zip us)):Binds K fd ps []:=λs us _ hl=>by
 rw[List.append_nil] at hl ⊢;exact .of_eq (h us hl)
def b5e(CX:CXT)(X:Cx)(E:XK):Prop:=∀(pins:List (Addr×Obj))(σ:St)(H:Hp)(s:Shared)(e:Value)(s':Shared),Inv X pins σ H s->CX X.stack H s E e s'->X.xe e s'
section
variable{X:Cx}{CX:CXT}{k:Nat}{f C:Addr}{fd:FuncData}{ps:List Str}{sp:Sp}{dvs:List V}{ds:List Value}{E:XK}{x m:Str}{p pos apos:Pos}{e o:Expr}{es:List Expr}{ta:TE}{t:TA}
theorem d2u{pins:List (Addr×Obj)}{σ:St}{H:Hp}{s:Shared}{Q:VK}{us:List Value}{vs:List V}(F:c6q X.prog X.w X.K X.mg X.base CX k f fd ps sp)(hr:Room k X.A)(hb:Binds X.K fd ps ds)(hd:Vals dvs ds)(hx:b5e CX X E)(I:Inv X pins σ H s)(r:Vals vs us)(h:sp (vs++dvs) H Q E):wpAny (model X.prog X.w) X.A (call (.ref f) us) (EP X pins σ Q) X.xe s:=by
 have r2:Vals (vs++dvs) (us++ds):=r.append hd;have hl:(us++ds).length=ps.length:=by rw[<- r2.length];exact F.len _ _ _ _ h
 refine wpAny_call (codeAny_mono (F.run X.A X.stack s H ⟨us,[]⟩ (us++ds) (vs++dvs) Q E hr I.env0 (hb s us I.kIn hl) r2 h) λr s' hq=>?_);cases r with
 | error e=>exact hx pins σ H s e s' I hq
 | ok fl=>
  cases fl with
  | ret u=>exact I.after hq
  | next=>exact False.elim hq
  | brk=>exact False.elim hq
  | cont=>exact False.elim hq
theorem d0n(F:c6q X.prog X.w X.K X.mg X.base CX k f fd ps sp)(hr:Room k X.A)(hg:Gl X x)(hm:X.mg x=some (.ref f))(hk:keepIn X.K (.ref f)=true)(hb:Binds X.K fd ps ds)(hd:Vals dvs ds)(hx:b5e CX X E)(ha:PA X (e::es) t)(hdb:(x == ("__debug__":Str))=false:=by decide)(he:starEach (e::es) X.env=(false,eval e X.env)::starEach es X.env:=by rfl)(hpl:(backTo pos (starEach es X.env)).any (·.1)=false:=by rfl):
  PE X (.Call (.Name x p) (e::es) [] pos) (d5e sp dvs E t):=by
 intro pins s σ H Q I h;refine wpAny_Call_Name_kw (a7m I hg hm ?_ hdb);refine callWith_K (h₀:=X.base) I.ok.mod.kin hk (thn (ha pos pins s σ H _ I h) λus s1 z0_=>?_) he hpl;obtain⟨vs,H1,I1,r,q⟩:=z0_;refine⟨I1.kIn,?_⟩;exact d2u F hr hb hd hx I1 r q
end
section
variable{X:Cx}{CX:CXT}{k:Nat}{f C:Addr}{fd:FuncData}{ps ks:List Str}{sp:Sp}{E:XK}{x m:Str}{p pos apos kpos:Pos}{e o:Expr}{es:List Expr}{kws:List Keyword}{te ta:TE}{t tk:TA}{nm:Option Str}
variable{g:List Value->List Value->List Value}{gV:List V->List V->List V}
end
structure j3(N P:List Str)(sc:Scope):Prop where
 kind:sc.kind=.function
 co:sc.isCoroutine=false
 gen:sc.isGenerator=false
 nd:N.Nodup
 pre:N.take P.length=P
 par:∀x∈P,sc.names.lookup x=some .local\/sc.names.lookup x=some .cell
 nofree:∀y∈sc.names,y.2≠.free
theorem b9f{kindOf:Str->Option NameKind}{x:Str}:∀{binds:List (Str×Value)}{m:Str->Option Value},(∀v,(x,v) ∉ binds)->bindL kindOf binds m x=m x
 | [],_,_=>rfl
 | (n,v)::r,m,h=>by
  unfold bindL;rw[b9f λw hw=>h w (List.mem_cons_of_mem _ hw)];split
  ·have:x≠n:=by rintro rfl;exact h v List.mem_cons_self
   simp[this]
  ·rfl
theorem b9h{kindOf:Str->Option NameKind}{x:Str}:∀{binds:List (Str×Value)}{m:Str->Option Value},(∀v,(x,v) ∉ binds)->bindC kindOf binds m x=m x
 | [],_,_=>rfl
 | (n,v)::r,m,h=>by
  unfold bindC;rw[b9h λw hw=>h w (List.mem_cons_of_mem _ hw)];split
  ·rfl
  ·have:x≠n:=by rintro rfl;exact h v List.mem_cons_self
   simp[this]
theorem b9g{kindOf:Str->Option NameKind}{x:Str}{v:Value}:∀{P:List Str}{vs:List Value}{i:Nat}{m:Str->Option Value},P.Nodup->P[i]?=some x->vs[i]?=some v->kindOf x=some .local ->
  bindL kindOf (P.zip vs) m x=some v
 | [],_,_,_,_,h,_,_=>by simp at h
 | _::_,[],_,_,_,_,h,_=>by simp at h
 | p::P,w::vs,0,m,nd,h1,h2,hk=>by
  simp at h1 h2;subst h1;subst h2;show bindL kindOf ((p,w)::P.zip vs) m p=_;unfold bindL;rw[b9f λv hv=>(List.nodup_cons.mp nd).1 (List.of_mem_zip hv).1,if_pos hk];simp
 | p::P,w::vs,i+1,m,nd,h1,h2,hk=>by
  show bindL kindOf ((p,w)::P.zip vs) m x=_;unfold bindL;exact b9g (i:=i) (List.nodup_cons.mp nd).2 (by simpa using h1) (by simpa using h2) hk
theorem b9i{kindOf:Str->Option NameKind}{x:Str}{v:Value}:∀{P:List Str}{vs:List Value}{i:Nat}{m:Str->Option Value},P.Nodup->P[i]?=some x->vs[i]?=some v->kindOf x≠some .local ->
  bindC kindOf (P.zip vs) m x=some v
 | [],_,_,_,_,h,_,_=>by simp at h
 | _::_,[],_,_,_,_,h,_=>by simp at h
 | p::P,w::vs,0,m,nd,h1,h2,hk=>by
  simp at h1 h2;subst h1;subst h2;show bindC kindOf ((p,w)::P.zip vs) m p=_;unfold bindC;rw[b9h λv hv=>(List.nodup_cons.mp nd).1 (List.of_mem_zip hv).1,if_neg hk];simp
 | p::P,w::vs,i+1,m,nd,h1,h2,hk=>by
  show bindC kindOf ((p,w)::P.zip vs) m x=_;unfold bindC;exact b9i (i:=i) (List.nodup_cons.mp nd).2 (by simpa using h1) (by simpa using h2) hk
def start(N:List Str)(vs:List V):St:=vs.map some++List.replicate (N.length-vs.length) none
def a8f(CX:CXT)(P:Program)(w:World)(K:Frag)(mg:Str->Option Value)(base:Heap)(N:List Str)(qual:Str)(scope:Scope)(f:Addr)(cd:Value)(A:Around)(outer:List Env)(s:Shared)(H:Hp)(E:XK):Cx where
 prog:=P
 w:=w
 K:=K
 mg:=mg
 base:=base
 A:=A.deeper (envOfC qual scope s.heap.objs.size f cd)
 N:=N
 s₀:=s
 H₀:=H
 env:=envOfC qual scope s.heap.objs.size f cd
 outer:=outer
 stack:=envOfC qual scope s.heap.objs.size f cd::outer
 ex:=[]
 calm:=true
 fn:=λ_=>true
 pn:=[]
 xe:=λe s'=>wpAny (model P w) (A.deeper (envOfC qual scope s.heap.objs.size f cd)) (leaving (envOfC qual scope s.heap.objs.size f cd) e) (λ_ s''=>CX outer H s E e s'') (λe' s''=>CX outer H s E e' s'') s'
theorem c2k{sc:Scope}{n:Nat}{x:Str}(h:sc.names.lookup x=some .cell):∃c,(cellsFrom n sc.names []).lookup x=some c:=by
 have q:=PySem.W.cellsFrom_some sc.names n [] (.inl h);exact Option.isSome_iff_exists.mp q
theorem c5m{CX:CXT}{P:Program}{w:World}{K:Frag}{mg:Str->Option Value}{base:Heap}{N ps:List Str}{qual:Str}{scope:Scope}{f:Addr}{cd:Value}{A:Around}{outer:List Env}{s s1:Shared}{H:Hp}{E:XK}{us:List Value}{vs:List V}(S:j3 N ps scope)(hd:A.handled=none)(e0:d4y P w K mg base A outer s H)(hl:vs.length=ps.length)(r:Vals vs us)(x:InCallC s s.heap.objs.size (bindL (envOfC qual scope s.heap.objs.size f cd).kindOf (ps.zip us) λ_=>none) (cellsFrom (s.heap.objs.size+1) scope.names []) (bindC (envOfC qual scope s.heap.objs.size f cd).kindOf (ps.zip us) λ_=>none) s1):
  Inv (a8f CX P w K mg base N qual scope f cd A outer s H E) [] (start N vs) H s1:=by
 have hpl:ps.length<=N.length:=by have:=congrArg List.length S.pre;rw[List.length_take] at this;lia
 obtain⟨h1,tk,rfl,hk⟩:=x.done;have noA:∀b:Addr,b ∉ (a8f CX P w K mg base N qual scope f cd A outer s H E).ex:=λb z=>absurd (show b∈([]:List Addr) from z) (by simp)
 refine⟨⟨e0.mod,S.kind,rfl,rfl,Nat.le_refl _,λy z c h1 h2=>?_,λy hy=>?_,λy c _ h=>?_,λ_=>hd,Around.frames_deeper e0.frames,.inr ⟨rfl,rfl⟩,λb z=>absurd z (noA b),e0.bs,e0.bsz,λb _ _=>noA b,λb z=>absurd z (noA b),e0.funs,e0.frf⟩,
  rfl,e0.bare,Un.kept hk,⟨_,x.toInCall.ns,λi y v h1 h2 h3=>?_⟩,λy c h=>⟨_,x.cell y c h⟩,e0.hok.fresh (Nat.le_refl _),λy c h=>?_,λp hp=>absurd (show p∈([]:List (Addr×Obj)) from hp) (by simp),e0.hok.kept hk,?_⟩
 ·exact name_of_addr x.apart (PySem.mem_of_lookup h1) (PySem.mem_of_lookup h2)
 ·have hy:scope.names.lookup y=some .cell\/scope.names.lookup y=some .free:=hy
  rcases hy with hy|hy
  ·exact c2k hy
  ·exact absurd rfl (S.nofree _ (PySem.mem_of_lookup hy))
 ·exact Nat.le_of_lt (x.above y c (PySem.mem_of_lookup h))
 ·have hi:i<vs.length:=by
   unfold start at h2;by_cases hi:i<vs.length
   ·exact hi
   ·rw[List.getElem?_append_right (by simpa using hi)] at h2
    rw[List.getElem?_replicate] at h2;split at h2 <;> cases h2
  have ha:vs[i]?=some v:=by
   unfold start at h2;rw[List.getElem?_append_left (by simpa using hi),List.getElem?_map] at h2
   cases e:vs[i]? with
   | none=>rw[e] at h2;cases h2
   | some a=>rw[e] at h2;cases h2;rfl
  obtain⟨u,hu,rv⟩:=r.get ha;have hp:ps[i]?=some y:=by
   rw[<- S.pre,List.getElem?_take_of_lt (by lia)];exact h1
  have ndP:ps.Nodup:=by rw[<- S.pre];exact S.nd.sublist (List.take_sublist _ _)
  refine⟨u,rv,?_⟩;rcases S.par y (List.mem_of_getElem? hp) with k|k
  ·exact .inl ⟨k,b9g ndP hp hu k⟩
  ·obtain⟨c,e⟩:=c2k (n:=s.heap.objs.size+1) k
   refine .inr ⟨.inl k,c,e,?_⟩;have q:=x.cell y c e;rw[b9i ndP hp hu (by show scope.names.lookup y≠_;rw[k];decide)] at q
   exact q
 ·exact e0.hok.fresh (Nat.le_of_lt (x.above y c (PySem.mem_of_lookup h)))
 ·unfold start
  show _=N.length;rw[List.length_append,List.length_map,List.length_replicate];lia
theorem d6k{CX:CXT}{P:Program}{w:World}{K:Frag}{mg:Str->Option Value}{base:Heap}{k:Nat}{f:Addr}{name qual:Str}{params:Arguments}{body:List Stmt}{scope:Scope}{dV kV doc pm cdv ct oc:Value}{an od:Option Addr}{osl:Array (Option Value)}{N ps:List Str}{sp:Sp}(lk:K.lookup f=some ⟨oc,od,.func (PySem.W.fnOf name qual params body scope dV kV doc pm an cdv ct),osl⟩)(hcd:codeIn K cdv qual=true)(S:j3 N ps scope)(len:∀vs H Q E,sp vs H Q E->vs.length=ps.length)(hbody:∀(A:Around) (outer:List Env) (s:Shared) (H:Hp) (vs:List V) (Q:VK) (E:XK),Room k (A.deeper (envOfC qual scope s.heap.objs.size f cdv))->sp vs H Q E ->
   ∃t,PSs (a8f CX P w K mg base N qual scope f cdv A outer s H E) body t/\t { nx:=λ_ H'=>Q .non H',rt:=Q } (start N vs) H):
  c6q P w K mg base CX (k+1) f (PySem.W.fnOf name qual params body scope dV kV doc pm an cdv ct) ps sp:=by
 refine⟨len,λA outer s H args us vs Q E hr e0 hb r hsp=>?_⟩;have hl:=len _ _ _ _ hsp;have KX:K.In s.heap:=e0.mod.kin.keeps λb o e=>(e0.bs b o e).1;have lim:s.heap.NoLimit:=e0.mod.nolimit.keeps λb o e=>(e0.bs b o e).1;have hkind:∀y∈ps.zip us,scope.names.lookup y.1=some .local\/(scope.names.lookup y.1=some .cell/\((cellsFrom (s.heap.objs.size+1) scope.names []).lookup y.1).isSome=true):=λ⟨n,v⟩ hy=>by
  rcases S.par n (List.of_mem_zip hy).1 with q|q
  ·exact .inl q
  ·exact .inr ⟨q,PySem.W.cellsFrom_some _ _ _ (.inl q)⟩
 refine codeAny_call_function hr.depth (KX _ _ lk) rfl S.co S.gen rfl (PySem.W.codeRec_of KX hcd) (hb _ _ _ _ ?_);refine wpAny_newFunctionEnv_cells S.kind hkind λenv he s1 x=>?_;subst he;refine⟨lim.keeps x.toInCall.keep,codeAny_func ?_⟩;obtain⟨t,ht,hq⟩:=hbody A outer s H vs Q E (hr.deeper _) hsp;have I:Inv (a8f CX P w K mg base N qual scope f cdv A outer s H E) [] (start N vs) H s1:=c5m S hr.hd e0 hl r x;refine wpAny_mono (ht [] s1 (start N vs) H _ I hq) (λfl s' hs=>?_) λe s' hs=>hs;have fin:∀{σ':St}{H':Hp}{v:V}{u:Value},Inv (a8f CX P w K mg base N qual scope f cdv A outer s H E) [] σ' H' s'->RelV v u->Q v H'->CE outer P w H s Q u s' :=
  λ{σ' H' v u} J rv q=>⟨v,H',J.os,J.bare,J.base,J.hok,rv,q⟩
 cases fl with
 | ret u=>
  obtain⟨v,σ',H',J,rv,q⟩:=hs;exact fin J rv q
 | next=>
  obtain⟨σ',H',J,q⟩:=hs;exact fin (v:=V.non) (u:=Value.none) J rfl q
 | brk=>
  obtain⟨_,_,_,q⟩:=hs;exact False.elim q
 | cont=>
  obtain⟨_,_,_,q⟩:=hs;exact False.elim q
end L2
namespace L2
open PySem PySem.Spec PyProof.Rows
section
variable{X:Cx}{x:Str}{p pos:Pos}{e:Expr}{es:List Expr}{t:TA}{id T:String}{r:List V->Hp->VK->Prop}
def tCB(r:List V->Hp->VK->Prop)(t:TA):TE:=λσ H Q=>t σ H λvs H1=>r vs H1 Q
theorem i6(hc:a4w X (.builtin id) r)(hg:Gl X x)(hm:X.mg x=none)(hv:bootBuiltins x=some (.builtin id))(ha:PA X (e::es) t)(hn:x≠"__name__":=by decide)(hdb:(x == ("__debug__":Str))=false:=by decide)(he:starEach (e::es) X.env=(false,eval e X.env)::starEach es X.env:=by rfl)(hpl:(backTo pos (starEach es X.env)).any (·.1)=false:=by rfl):PE X (.Call (.Name x p) (e::es) [] pos) (tCB r t):=by
 intro pins s σ H Q I h;refine wpAny_Call_Name_kw (b3r I hg hm hv ?_ hn hdb);exact PyProof.Rows.callWith_builtin1 (thn (ha pos pins s σ H _ I h) λus s1 z0_=>by obtain⟨vs,H1,I1,r1,q1⟩:=z0_;exact hc pins s1 σ H1 vs us Q I1 r1 q1) he hpl
theorem m6(hc:a4w X (.type T) r)(hg:Gl X x)(hm:X.mg x=none)(hv:bootBuiltins x=some (.type T))(ha:PA X (e::es) t)(hn:x≠"__name__":=by decide)(hdb:(x == ("__debug__":Str))=false:=by decide)(he:starEach (e::es) X.env=(false,eval e X.env)::starEach es X.env:=by rfl)(hpl:(backTo pos (starEach es X.env)).any (·.1)=false:=by rfl):PE X (.Call (.Name x p) (e::es) [] pos) (tCB r t):=by
 intro pins s σ H Q I h;refine wpAny_Call_Name_kw (b3r I hg hm hv ?_ hn hdb);exact PyProof.Rows.callWith_type1 (thn (ha pos pins s σ H _ I h) λus s1 z0_=>by obtain⟨vs,H1,I1,r1,q1⟩:=z0_;exact hc pins s1 σ H1 vs us Q I1 r1 q1) he hpl
end
end L2
namespace HT
open PySem PyProof.Rows
section
open PySem.SeqAt
open PySem.AutoSeq1 (wpAny_loadPart')
open PySem.MeetsSeq PySem.MeetsSeq2 PySem.MeetsSeq3
end
section
variable{prog:Program}{w:World}{A:Around}{E:Value->Shared->Prop}{s:Shared}
theorem cat_tup{t b:Addr}{vs ws:List Value}{Q:Value->Shared->Prop}(ht:IsTup s.heap t vs.toArray)(hb:IsTup s.heap b ws.toArray)(hv:vs≠[])(h1:ws=[]->Q (.ref t) s)(h2:ws≠[]->Q (.ref s.heap.objs.size) { s with heap:=s.heap.push { cls:=.type "tuple",data:=.seq (vs++ws).toArray } })(hsz:vs.length+ws.length<=sizeLine):wpAny (model prog w) A (binaryOp .Add (.ref t) (.ref b)) Q E s:=by
 obtain⟨⟨cls,dd,data,sl⟩,ho,hc,n,hd⟩:=id ht;obtain⟨⟨cls2,dd2,data2,sl2⟩,ho2,hc2,n2,hd2⟩:=id hb;simp only at hc hd hc2 hd2;subst hc hd hc2 hd2;have e:vs.toArray++ws.toArray=(vs++ws).toArray:=by simp
 by_cases hw:ws=[]
 ·exact concat_meets ⟨_,ho,rfl⟩ ⟨_,ho2,rfl⟩ noFill_tuple_add seq_tuple_add PySem.F.slot_tuple_add PySem.F.entry_tuple_add (PySem.F.args_tuple_add_2 _ _)
   (tuple_addW1 t b vs.toArray ws.toArray n n2 dd dd2 sl sl2 (by simpa using hv) (by simp[hw])) ⟨ho,ho2,h1 hw⟩
 ·refine concat_meets ⟨_,ho,rfl⟩ ⟨_,ho2,rfl⟩ noFill_tuple_add seq_tuple_add PySem.F.slot_tuple_add PySem.F.entry_tuple_add (PySem.F.args_tuple_add_2 _ _)
   (tuple_addW2 t b vs.toArray ws.toArray n n2 dd dd2 sl sl2 (by simpa using hv) (by simpa using hw) (by rw[List.size_toArray,List.size_toArray];exact hsz)) ⟨ho,ho2,?_⟩
  rw[e];exact h2 hw
def sIx(n d:Nat):Option Int->Nat
 | none=>d
 | some v=>if v<0 then (v+(n:Int)).toNat else min v.toNat n
theorem sIx_none(n d:Nat):sIx n d none=d:=rfl
theorem sIx_nat(n d k:Nat):sIx n d (some (k:Int))=min k n:=by
 show(if (k:Int)<0 then ((k:Int)+(n:Int)).toNat else min (k:Int).toNat n)=min k n;rw[if_neg (by lia),Int.toNat_natCast]
theorem d2s(n d:Nat)(hd:d<=n)(o:Option Int):sIx n d o<=n:=by
 cases o with
 | none=>exact hd
 | some v=>
  show(if v<0 then (v+(n:Int)).toNat else min v.toNat n)<=n;by_cases hv:v<0
  ·rw[if_pos hv];lia
  ·rw[if_neg hv];exact Nat.min_le_right _ _
theorem c6g(v:Int)(n d:Nat):(if v<0 then max (v+(n:Int)) 0 else min v (n:Int))=((sIx n d (some v):Nat):Int):=by
 show(if v<0 then max (v+(n:Int)) 0 else min v (n:Int))=(((if v<0 then (v+(n:Int)).toNat else min v.toNat n):Nat):Int);by_cases hv:v<0
 ·simp only[if_pos hv];lia
 ·simp only[if_neg hv];lia
theorem c3k(lo hi:Option Int)(n:Nat):Builtin.Slice.sliceAdjust lo hi 1 (n:Int)=(((sIx n 0 lo:Nat):Int),((sIx n n hi:Nat):Int)):=by
 have h1:¬ ((1:Int)<0):=by lia
 unfold Builtin.Slice.sliceAdjust;simp only[h1,if_false];refine Prod.ext ?_ ?_
 ·cases lo with
  | none=>rfl
  | some v=>exact c6g v n 0
 ·cases hi with
  | none=>rfl
  | some v=>exact c6g v n n
theorem c2x(i j:Nat):Builtin.Slice.slicePlaces (i:Int) (j:Int) 1=j-i:=by
 unfold Builtin.Slice.slicePlaces;have h1:(1:Int) > 0:=by lia
 simp only[h1,if_true,Int.ediv_one];split <;> lia
theorem a4y{v:Value}{o:Option Int}{Q:Option Int->Shared->Prop}(p:IsPart v o)(h:Q o s):wpAny (model prog w) A (Builtin.Slice.slicePartIndex v) Q E s:=by
 cases p with
 | none=>exact slicePart_none h
 | int i t=>exact slicePart_int h
theorem b1p{sl:Addr}{vl vu:Value}{lo hi:Option Int}{n:Nat}{Q:Int×Int×Nat->Shared->Prop}(hs:s.heap.IsSliceOf sl vl vu .none)(pl:IsPart vl lo)(pu:IsPart vu hi)(h:Q (((sIx n 0 lo:Nat):Int),1,sIx n n hi-sIx n 0 lo) s):wpAny (model prog w) A (Builtin.Slice.sliceApplied (.ref sl) (pure (n:Int))) Q E s:=by
 obtain⟨os,hos,hcs,hds⟩:=id hs;unfold Builtin.Slice.sliceApplied Builtin.Slice.sliceFields;refine wpAny_bind (wpAny_bind (wpAny_field hos hds (x:=vl) rfl (wpAny_bind (wpAny_field hos hds (x:=vu) rfl (wpAny_bind (wpAny_field hos hds (x:=.none) rfl (wpAny_pure ?_)))))));refine wpAny_bind (slicePart_none ?_);show wpAny _ _ (if ((1:Int) == 0)=true then _ else _) _ _ s;rw[if_neg ↑5];refine wpAny_bind (a4y pl (wpAny_bind (a4y pu (wpAny_bind (wpAny_pure ?_)))));show wpAny _ _ (match Builtin.Slice.sliceAdjust lo hi 1 (n:Int) with|(lo,hi)=>pure (lo,(1:Int),Builtin.Slice.slicePlaces lo hi 1)) _ _ s
 rw[c3k lo hi n];show wpAny _ _ (pure (((sIx n 0 lo:Nat):Int),(1:Int),Builtin.Slice.slicePlaces ((sIx n 0 lo:Nat):Int) ((sIx n n hi:Nat):Int) 1)) _ _ s;rw[c2x];exact wpAny_pure h
theorem c7j(xs:Array Value)(i k:Nat):((List.range k).filterMap λ(m:Nat)=>xs[((i:Int)+(m:Int)*1).toNat]?).toArray=((xs.toList.drop i).take k).toArray:=by
 have e:(λ(m:Nat)=>xs[((i:Int)+(m:Int)*1).toNat]?)=λm=>xs[i+m]?:=by
  funext m;have:((i:Int)+(m:Int)*1).toNat=i+m:=by lia
  rw[this]
 rw[e];have:=pick_run xs i k;rw[List.filterMap_map] at this;have e2:((λx=>xs[x]?) ∘ λx=>i+x)=λm=>xs[i+m]?:=rfl;rw[e2] at this;rw[this]
theorem getItem_tuple_cut{t sl:Addr}{items:Array Value}{vl vu:Value}{lo hi:Option Int}{Q:Value->Shared->Prop}(ht:IsTup s.heap t items)(hs:s.heap.IsSliceOf sl vl vu .none)(pl:IsPart vl lo)(pu:IsPart vu hi)(hw:¬ (sIx items.size 0 lo=0/\sIx items.size items.size hi=items.size))(h:Q (.ref s.heap.objs.size) { s with heap:=s.heap.push { cls:=.type "tuple",data:=.seq ((items.toList.drop (sIx items.size 0 lo)).take (sIx items.size items.size hi-sIx items.size 0 lo)).toArray } })(hsz:items.size<=sizeLine):wpAny (model prog w) A (getItem (.ref t) (.ref sl)) Q E s:=by
 have htake:sizeOk (.seq ((items.toList.drop (sIx items.size 0 lo)).take (sIx items.size items.size hi-sIx items.size 0 lo)).toArray):=by
  show((items.toList.drop (sIx items.size 0 lo)).take (sIx items.size items.size hi-sIx items.size 0 lo)).toArray.size<=sizeLine;rw[List.size_toArray,List.length_take,List.length_drop,Array.length_toList];lia
 have hj:sIx items.size items.size hi<=items.size:=d2s _ _ (Nat.le_refl _) hi;obtain⟨os,hos,hcs,hds⟩:=id hs;have hTs:s.TypeIs (.ref sl) "slice":=⟨os,hos,hcs⟩;unfold getItem
 try with_reducible refine wpAny_holding ?_
 first|refine wpAny_bind (wpAny_pure ?_)|skip
 refine wpAny_bind (wpAny_sequenceKey ht.typeIs ↑5 ?_);refine wpAny_bind (wpAny_callSpecial?_slot (name:=Str.ofString "__getitem__") ht.typeIs PyProof.Rows.slot_tuple_getitem
  (wpAny_call_entry PyProof.Rows.slot_tuple_getitem ht.typeIs entry_tuple_getitem ?_ (args_tuple_getitem _ _)))
 show wpAny _ _ (Builtin.Tuple.tupleItemsOf (.ref t) >>= _) _ _ s;refine wpAny_bind (tupleItemsOf_ ht ?_);refine wpAny_bind (wpAny_typeOf hTs ?_);rw[if_pos ↑5];refine wpAny_bind (b1p hs pl pu ?_);have hno:¬ ((((sIx items.size 0 lo:Nat):Int) == 0 && (1:Int) == 1 && (sIx items.size items.size hi-sIx items.size 0 lo) == items.size)=true):=by
  intro q;rw[Bool.and_eq_true,Bool.and_eq_true] at q;have q1:((sIx items.size 0 lo:Nat):Int)=0:=eq_of_beq q.1.1;have q2:sIx items.size items.size hi-sIx items.size 0 lo=items.size:=eq_of_beq q.2;exact hw ⟨by lia,by lia⟩
 show wpAny _ _ (if (((sIx items.size 0 lo:Nat):Int) == 0 && (1:Int) == 1 && (sIx items.size items.size hi-sIx items.size 0 lo) == items.size)=true then _ else _) _ _ s;rw[if_neg hno,c7j]
 first
  | exact wpAny_bind (m:=Builtin.Tuple.tupleExact _) (wpAny_newObj_type (wpAny_pure ⟨_,rfl,wpAny_pure h⟩) htake)
  | exact wpAny_bind (m:=Builtin.Tuple.tupleExact _) (wpAny_newObj_type (wpAny_bind (wpAny_pure (wpAny_pure ⟨_,rfl,wpAny_pure h⟩))) htake)
  | exact wpAny_bind (wpAny_bind (m:=Builtin.Tuple.tupleExact _) (wpAny_newObj_type (wpAny_pure (wpAny_pure ⟨_,rfl,wpAny_pure h⟩)) htake))
  | exact wpAny_bind (wpAny_bind (m:=Builtin.Tuple.tupleExact _) (wpAny_newObj_type (wpAny_pure ⟨_,rfl,wpAny_pure h⟩) htake))
end
end HT
namespace L2
open PySem PySem.Spec PyProof.Rows
abbrev TO:=St->Hp->(Option Int->Hp->Prop)->Prop
def PO(X:Cx)(e:Option Expr)(t:TO):Prop :=
 ∀(pins:List (Addr×Obj))(s:Shared)(σ:St)(H:Hp)(Q:Option Int->Hp->Prop),Inv X pins σ H s->t σ H Q ->
  wpAny (model X.prog X.w) X.A (evalPart e X.env) (λu s'=>∃o H',Inv X pins σ H' s'/\IsPart u o/\Q o H') X.xe s
def c3v:TO:=λ_ H Q=>Q none H
def d2l(t:TE):TO:=λσ H Q=>t σ H λx H1=>∃i,x=.int i/\Q (some i) H1
section
variable{X:Cx}{e:Expr}{te:TE}{lo hi:Option Expr}{tl th:TO}{pos p2:Pos}
theorem a0p:PO X none c3v:=by
 intro pins s σ H Q I h;rw[evalPart_none];exact wpAny_pure ⟨none,H,I,.none,h⟩
theorem a0e(h:PE X e te):PO X (some e) (d2l te):=by
 intro pins s σ H Q I hw;rw[evalPart_some];refine thn (h pins s σ H _ I hw) λu s1 z0_=>?_;obtain⟨x,H1,I1,r1,q1⟩:=z0_;obtain⟨i,rfl,q⟩:=q1;obtain⟨t,rfl⟩:=r1;exact⟨some i,H1,I1,.int i t,q⟩
def SlR(X:Cx)(r:V->Option Int->Option Int->Hp->VK->Prop):Prop :=
 ∀(pins:List (Addr×Obj))(s:Shared)(σ:St)(H:Hp)(x:V)(v vl vu:Value)(lo hi:Option Int)(sl:Addr)(Q:VK),Inv X pins σ H s->RelV x v->s.heap.IsSliceOf sl vl vu .none->IsPart vl lo->IsPart vu hi->r x lo hi H Q ->
  ∃T id,typeLookup (.type T) "__getitem__" = pure (some (.builtin id))/\s.TypeIs v T/\wpAny (model X.prog X.w) X.A (getItem v (.ref sl)) (EP X pins σ Q) X.xe s
def tSl(r:V->Option Int->Option Int->Hp->VK->Prop)(te:TE)(tl th:TO):TE:=λσ H Q=>te σ H λx H1=>tl σ H1 λl H2=>th σ H2 λu H3=>r x l u H3 Q
theorem z8{r:V->Option Int->Option Int->Hp->VK->Prop}(hr:SlR X r)(he:PE X e te)(hl:PO X lo tl)(hu:PO X hi th):PE X (.Subscript e (.Slice lo hi none p2) pos) (tSl r te tl th):=by
 intro pins s σ H Q I h;refine Subscript_ (thn (he pins s σ H _ I h) λv s1 z0_=>?_);obtain⟨x,H1,I1,r1,q1⟩:=z0_;refine wpAny_Slice (thn (hl pins s1 σ H1 _ I1 q1) λvl s2 z0_=>?_);obtain⟨l,H2,I2,pl,q2⟩:=z0_;refine thn (hu pins s2 σ H2 _ I2 q2) λvu s3 z1_=>?_;obtain⟨u,H3,I3,pu,q3⟩:=z1_;rw[evalPart_none];refine wpAny_pure ?_;have I4:Inv X pins σ H3 { s3 with heap:=s3.heap.push { cls:=.type "slice",data:=.fields #[vl,vu,.none] } }:=I3.kept (t':=s3.toks) λb ob q=>Heap.get?_push_of_some _ q
 obtain⟨T,id,hT,ht,hg⟩:=hr pins { s3 with heap:=s3.heap.push { cls:=.type "slice",data:=.fields #[vl,vu,.none] } } σ H3 x v vl vu l u s3.heap.objs.size Q I4 r1 (Heap.IsSliceOf.new ..) pl pu q3
 show wpAny (model X.prog X.w) X.A (subscriptTail e (.Slice lo hi none p2) v (.ref s3.heap.objs.size)) (EP X pins σ Q) X.xe { s3 with heap:=s3.heap.push { cls:=.type "slice",data:=.fields #[vl,vu,.none] } }
 exact tail_any (ops:=[.ref s3.heap.objs.size,v]) ht hT hg (by with_unfolding_all rfl)
def b6s(xs:List V)(lo hi:Option Int):List V:=(xs.drop (HT.sIx xs.length 0 lo)).take (HT.sIx xs.length xs.length hi-HT.sIx xs.length 0 lo)
theorem b3w(xs:List V)(lo hi:Option Int):(b6s xs lo hi).length<=xs.length:=by
 unfold b6s;rw[List.length_take,List.length_drop];lia
def d6z(K:Frag):V->Option Int->Option Int->Hp->VK->Prop:=λx lo hi H Q=>∃a xs,x=.ref a/\SqT K H a xs /\
 ¬ (HT.sIx xs.length 0 lo=0/\HT.sIx xs.length xs.length hi=xs.length)/\∀p,H p=none->Q (.ref p) (upd H p (.tup (b6s xs lo hi)))
theorem d2r:SlR X (d6z X.K):=by
 intro pins s σ H x v vl vu lo hi sl Q I rx hs pl pu h;obtain⟨a,xs,rfl,hx,hw,q⟩:=h;cases rx;obtain⟨its,r,ht,hz⟩:=I.tuple hx;have hlen:its.toArray.size=xs.length:=by rw[List.size_toArray];exact r.length.symm
 refine⟨"tuple",_,PyProof.Rows.slot_tuple_getitem.lookup,ht.typeIs,?_⟩;refine HT.getItem_tuple_cut ht hs pl pu (by rw[hlen];exact hw) ?_ (by rw[hlen];exact hz)
 rw[hlen];refine⟨.ref s.heap.objs.size,_,I.laid (t':=s.toks) (o:=.tup (b6s xs lo hi)) (λb ob q=>Heap.get?_push_of_some _ q) (Nat.le_refl _) ?_,rfl,q _ (I.hok.fresh (Nat.le_refl _))⟩;exact⟨Nat.le_trans (b3w xs lo hi) hz,_,(r.drop (HT.sIx xs.length 0 lo)).take (HT.sIx xs.length xs.length hi-HT.sIx xs.length 0 lo),IsTup.new _ _⟩
def d5l(K:Frag):R2:=λx y H Q=>∃a b xs ys,x=.ref a/\y=.ref b/\SqT K H a xs/\SqT K H b ys/\xs≠[]/\xs.length+ys.length<=sizeLine /\
 (ys=[]->Q (.ref a) H)/\(ys≠[]->∀p,H p=none->Q (.ref p) (upd H p (.tup (xs++ys))))
theorem Vals.nil_iff{xs:List V}{us:List Value}(r:Vals xs us):us=[] ↔ xs=[]:=by
 cases r with
 | nil=>simp
 | cons _ _=>simp
theorem d0q:OpR X (binaryOp .Add) (d5l X.K):=by
 intro pins s σ H x y v u Q I rx ry h;obtain⟨a,b,xs,ys,rfl,rfl,ha,hb,hx,hz,q1,q2⟩:=h;cases rx;cases ry;obtain⟨its,r1,p1,_⟩:=I.tuple ha;obtain⟨its2,r2,p2,_⟩:=I.tuple hb;refine HT.cat_tup p1 p2 (λz=>hx (r1.nil_iff.mp z)) (λz=>⟨.ref a,H,I,rfl,q1 (r2.nil_iff.mp z)⟩) (λz=>?_) (by rw[<- r1.length,<- r2.length];exact hz)
 refine⟨.ref s.heap.objs.size,_,I.laid (t':=s.toks) (o:=.tup (xs++ys)) (λb ob q=>Heap.get?_push_of_some _ q) (Nat.le_refl _) ?_,rfl,q2 (λw=>z (r2.nil_iff.mpr w)) _ (I.hok.fresh (Nat.le_refl _))⟩;exact⟨by rw[List.length_append];exact hz,_,r1.append r2,IsTup.new _ _⟩
end
end L2
namespace L2
open PySem PySem.Spec PyProof.Rows
def ixN(n:Nat)(i:Int):Option Nat:=if 0<=i then (if i<n then some i.toNat else none) else if -(n:Int)<=i then some (i+n).toNat else none
def atI{α:Type}(xs:List α)(i:Int):Option α:=(ixN xs.length i).bind λj=>xs[j]?
theorem c5j{n:Nat}{i:Int}{j:Nat}(h:ixN n i=some j):seqIndex? i n=some j/\j<n/\-(n:Int)<=i/\i<n:=by
 unfold ixN at h;by_cases h0:0<=i
 ·rw[if_pos h0] at h
  by_cases h1:i<n
  ·rw[if_pos h1] at h
   have e:i.toNat=j:=Option.some.inj h;exact⟨by rw[seqIndex_of h0 h1,e],by lia,by lia,h1⟩
  ·rw[if_neg h1] at h;cases h
 ·rw[if_neg h0] at h
  by_cases h1:-(n:Int)<=i
  ·rw[if_pos h1] at h
   have e:(i+n).toNat=j:=Option.some.inj h;exact⟨by rw[seqIndex_neg (by lia) h1,e],by lia,h1,by lia⟩
  ·rw[if_neg h1] at h;cases h
theorem a7q{α:Type}{xs:List α}{i:Int}{v:α}(h:atI xs i=some v):∃j,seqIndex? i xs.length=some j/\xs[j]?=some v/\j<xs.length/\-(xs.length:Int)<=i/\i<xs.length:=by
 unfold atI at h;cases e:ixN xs.length i with
 | none=>rw[e] at h;cases h
 | some j=>
  rw[e] at h;obtain⟨h1,h2,h3,h4⟩:=c5j e;exact⟨j,h1,h,h2,h3,h4⟩
def d1u(b:Expr):Prop:=∀o i,subscripted b false o i=operate [o,i] (getItem o i)
def IxR(X:Cx)(r:R2):Prop :=
 ∀(value slice:Expr)(pins:List (Addr×Obj))(s:Shared)(σ:St)(H:Hp)(x y:V)(v u:Value)(Q:VK),Inv X pins σ H s->RelV x v->RelV y u->r x y H Q ->
  subscripted slice false v u=operate [v,u] (getItem v u)->wpAny (model X.prog X.w) X.A (subscriptTail value slice v u) (EP X pins σ Q) X.xe s
def MtR(X:Cx)(id:String)(r:V->List V->Hp->VK->Prop):Prop :=
 ∀(pins:List (Addr×Obj))(s:Shared)(σ:St)(H:Hp)(x:V)(xs:List V)(v:Value)(us:List Value)(Q:VK),Inv X pins σ H s->RelV x v->Vals xs us->r x xs H Q ->
  wpAny (model X.prog X.w) X.A (call (.builtin id) (v::us)) (EP X pins σ Q) X.xe s
section
variable{X:Cx}{a b:Expr}{ta tb:TE}{pos:Pos}
theorem o0{r:R2}(hr:IxR X r)(ha:PE X a ta)(hb:PE X b tb)(hs:d1u b):PE X (.Subscript a b pos) (tOp r ta tb):=by
 intro pins s σ H Q I h;exact Subscript_ (d6m ha hb I h λv u s2 x y H2 I2 rx ry q=>hr a b pins s2 σ H2 x y v u Q I2 rx ry q (hs _ _))
def d5j(K:Frag):R2:=λx y H Q=>∃p xs i v,x=.ref p/\y=.int i/\SqL K H p xs/\atI xs i=some v/\Q v H
def d5i(K:Frag):R2:=λx y H Q=>∃p xs i v,x=.ref p/\y=.int i/\SqT K H p xs/\atI xs i=some v/\Q v H
def d7v:R2:=λx y H Q=>∃z i c,x=.str z/\y=.int i/\z.length<=sizeLine/\atI z.cps.toList i=some c/\Q (.str ⟨#[c]⟩) H
theorem d0y:IxR X (d5j X.K):=by
 intro value slice pins s σ H x y v u Q I rx ry h hs;obtain⟨p,xs,i,z,rfl,rfl,hq,he,q⟩:=h;cases rx;obtain⟨t,rfl⟩:=ry;obtain⟨its,r,pl,hz⟩:=I.list hq;obtain⟨j,h1,h2,h3,h4,h5⟩:=a7q he;obtain⟨w,ew,rw'⟩:=r.get h2;have hl:=r.length;have hn:=b4x;have fin:EP X pins σ Q w s:=⟨z,H,I,rw',q⟩;by_cases h0:0<=i
 ·have hj:i.toNat=j:=by
   rw[seqIndex_of h0 h5] at h1;exact Option.some.inj h1
  exact item_listR pl.isList h0 (by lia) (by rw[hj];simpa using ew) fin hs
 ·have hj:(i+(its.toArray.size:Int)).toNat=j:=by
   rw[seqIndex_neg (by lia) h4] at h1
   rw[List.size_toArray,<- hl];exact Option.some.inj h1
  exact subscriptTail_builtinR (x:=w) pl.isList.typeIs slot_list_getitem.lookup
   (wpAny_getItem_list_neg (Q:=λr s'=>r=w/\EP X pins σ Q r s') pl.isList (by lia) (by rw[List.size_toArray] <;> lia) (by lia) (by rw[hj];simpa using ew) ⟨rfl,fin⟩) hs
theorem d3m:IxR X (d5i X.K):=by
 intro value slice pins s σ H x y v u Q I rx ry h hs;obtain⟨p,xs,i,z,rfl,rfl,hq,he,q⟩:=h;cases rx;obtain⟨t,rfl⟩:=ry;obtain⟨its,r,pl,hz⟩:=I.tuple hq;obtain⟨j,h1,h2,h3,h4,h5⟩:=a7q he;obtain⟨w,ew,rw'⟩:=r.get h2;have hl:=r.length;have hn:=b4x;have fin:EP X pins σ Q w s:=⟨z,H,I,rw',q⟩;exact subscriptTail_builtinR (x:=w) pl.typeIs slot_tuple_getitem.lookup
  (getItem_tuple (j:=j) (Q:=λr s'=>r=w/\EP X pins σ Q r s') pl (by lia) (by lia) (by rw[List.size_toArray,<- hl];exact h1) (by simpa using ew) ⟨rfl,fin⟩) hs
theorem c9c:IxR X d7v:=by
 intro value slice pins s σ H x y v u Q I rx ry h hs;obtain⟨z,i,c,rfl,rfl,hz,he,q⟩:=h;obtain⟨t,rfl⟩:=rx;obtain⟨t',rfl⟩:=ry;obtain⟨j,h1,h2,h3,h4,h5⟩:=a7q he;have hl:z.cps.toList.length=z.length:=by simp[Str.length]
 rw[hl] at h1 h4 h5;have hn:=b4x;exact tail_any (typeIs_str s z t) slot_str_getitem.lookup (getItem_str (c:=c) (by
  have e1:decide (i < -(2 ^ 63:Int))=false:=decide_eq_false (by lia)
  have e2:decide (i >= 2 ^ 63)=false:=decide_eq_false (by lia)
  rw[e1,e2,Bool.or_false]) (by rw[h1];simpa using h2) ⟨.str ⟨#[c]⟩,H,I.tok _,⟨_,rfl⟩,q⟩) hs
theorem c3d(its:List Value)(n j:Nat)(u:Value):Obj.mapSeq (·.setIfInBounds j u) { cls:=.type "list",data:=.seq its.toArray n }={ cls:=.type "list",data:=.seq (its.set j u).toArray n }:=by
 simp[Obj.mapSeq]
theorem Inv.lst{pins:List (Addr×Obj)}{σ:St}{H:Hp}{s:Shared}{p:Addr}{xs:List V}(I:Inv X pins σ H s)(h:H p=some (.lst xs)):
  ∃(its:List Value)(n:Nat),Vals xs its/\s.heap.get? p=some { cls:=.type "list",data:=.seq its.toArray n }/\xs.length<=sizeLine:=by
 obtain⟨z,its,n,r,e⟩:=I.hok p _ h;exact⟨its,n,r,e,z⟩
theorem Inv.lstUpd{pins:List (Addr×Obj)}{σ:St}{H:Hp}{s:Shared}{p:Addr}{xs ys:List V}{its its':List Value}{n n':Nat}{f:Obj->Obj}(I:Inv X pins σ H s)(h:H p=some (.lst xs))(ho:s.heap.get? p=some { cls:=.type "list",data:=.seq its.toArray n })(hf:f { cls:=.type "list",data:=.seq its.toArray n }={ cls:=.type "list",data:=.seq its'.toArray n' })(r:Vals ys its')(hz:ys.length<=sizeLine)(t:Nat):
  Inv X pins σ (upd H p (.lst ys)) { s with heap:=s.heap.update p f,toks:=t }:=by
 have e:(s.heap.update p f).get? p=some { cls:=.type "list",data:=.seq its'.toArray n' }:=by
  rw[Heap.get?_update_self f ho (by rw[hf] <;> rfl),hf]
 refine I.write (x:=p) (e:=p) (by rw[h];trivial) (.inl rfl) (λb u hb q=>(Heap.get?_update_other _ _ (Ne.symm hb)).trans q) ⟨_,e⟩ ?_
 exact⟨hz,its',n',r,e⟩
def d2v:V->V->V->Hp->(Hp->Prop)->Prop:=λo i v H Q=>∃p xs k j,o=.ref p/\i=.int k/\H p=some (.lst xs)/\ixN xs.length k=some j/\Q (upd H p (.lst (xs.set j v)))
theorem a9l:d7p X d2v:=by
 intro pins s σ H o i v ov iv u Q I ro ri rv h;obtain⟨p,xs,k,j,rfl,rfl,hp,hj,q⟩:=h;cases ro;obtain⟨t,rfl⟩:=ri;obtain⟨its,n,r,ho,hz⟩:=I.lst hp;obtain⟨h1,h2,h3,h4⟩:=c5j hj;have hl:=r.length;have hn:=b4x;have I':Inv X pins σ (upd H p (.lst (xs.set j v))) { s with heap:=s.heap.update p (Obj.mapSeq (·.setIfInBounds j u)) } :=
  I.lstUpd hp ho (c3d its n j u) (r.set rv j) (by rw[List.length_set];exact hz) s.toks
 by_cases h0:0<=k
 ·have hk:k.toNat=j:=by
   rw[seqIndex_of h0 h4] at h1;exact Option.some.inj h1
  exact PySem.W.ki_setAt ho h0 (by lia) (by rw[List.size_toArray,<- hl];exact h4) (by rw[hk];exact⟨_,I',q⟩)
 ·have hk:(k+(its.toArray.size:Int)).toNat=j:=by
   rw[seqIndex_neg (by lia) h3] at h1
   rw[List.size_toArray,<- hl];exact Option.some.inj h1
  exact PySem.W.ki_setBack ho (by lia) (by rw[List.size_toArray,<- hl];exact h3) (by lia) (by rw[hk];exact⟨_,I',q⟩)
theorem b7c(lo hi:Option Int)(n:Nat):(sliceBounds lo hi none n).1=((HT.sIx n 0 lo:Nat):Int)/\(sliceBounds lo hi none n).2.1=((HT.sIx n n hi:Nat):Int)/\(sliceBounds lo hi none n).2.2=1:=by
 refine⟨?_,?_,rfl⟩
 ·cases lo with
  | none=>simp[sliceBounds,HT.sIx]
  | some i=>
   simp only[sliceBounds,HT.sIx,Option.getD_none,show(1:Int) > 0 by decide,if_true]
   by_cases h:i<0
   ·simp only[h,if_true] <;> lia
   ·simp only[h,if_false] <;> lia
 ·cases hi with
  | none=>simp[sliceBounds,HT.sIx]
  | some i=>
   simp only[sliceBounds,HT.sIx,Option.getD_none,show(1:Int) > 0 by decide,if_true]
   by_cases h:i<0
   ·simp only[h,if_true] <;> lia
   ·simp only[h,if_false] <;> lia
theorem b5i(its:List Value)(lo hi:Option Int):slicePick its.toArray lo hi none=((its.drop (HT.sIx its.length 0 lo)).take (HT.sIx its.length its.length hi-HT.sIx its.length 0 lo)).toArray:=by
 obtain⟨h1,h2,h3⟩:=b7c lo hi its.toArray.size;unfold slicePick;rw[h1,h2,h3];simp only[sliceRange_one,pick_run,List.size_toArray] <;> rfl
def d4u(K:Frag):V->Option Int->Option Int->Hp->VK->Prop:=λx lo hi H Q=>∃a xs,x=.ref a/\SqL K H a xs/\∀p,H p=none->Q (.ref p) (upd H p (.lst (b6s xs lo hi)))
theorem d0d:SlR X (d4u X.K):=by
 intro pins s σ H x v vl vu lo hi sl Q I rx hs pl pu h;obtain⟨a,xs,rfl,hx,q⟩:=h;cases rx;obtain⟨its,r,ht,hz⟩:=I.list hx;have hlen:=r.length;refine⟨"list",_,slot_list_getitem.lookup,ht.isList.typeIs,?_⟩;refine wpAny_getItem_list_slice ht.isList hs pl pu .none (by simp) ?_ (by rw[List.size_toArray] <;> lia)
 rw[b5i,<- hlen];refine⟨.ref s.heap.objs.size,_,I.laid (t':=s.toks) (o:=.lst (b6s xs lo hi)) (λb ob q=>Heap.get?_push_of_some _ q) (Nat.le_refl _) ?_,rfl,q _ (I.hok.fresh (Nat.le_refl _))⟩;exact⟨Nat.le_trans (b3w xs lo hi) hz,_,0,(r.drop (HT.sIx xs.length 0 lo)).take (HT.sIx xs.length xs.length hi-HT.sIx xs.length 0 lo),Heap.get?_push_size _ rfl⟩
def a3g:V->Bool
 | .non=>true
 | .bl _=>true
 | .int _=>true
 | .str _=>true
 | _=>false
def eqV:V->V->Bool
 | .non,.non=>true
 | .bl a,.bl b=>a == b
 | .bl a,.int b=>(if a then 1 else 0) == b
 | .int a,.bl b=>a == (if b then 1 else 0)
 | .int a,.int b=>a == b
 | .str a,.str b=>a == b
 | _,_=>false
theorem c9o{A:Around}{s:Shared}{y x:V}{u v:Value}(ry:RelV y u)(rx:RelV x v)(fy:a3g y=true)(fx:a3g x=true):SeqAt.EqAt A s u v (eqV y x):=by
 cases y with
 | non=>
  cases ry;cases x with
  | non=>cases rx;exact SeqAt.EqAt.same _
  | bl b=>cases rx;exact SeqAt.EqAt.none_bool b
  | int b=>obtain⟨t,rfl⟩:=rx;exact SeqAt.EqAt.none_int b t
  | str b=>obtain⟨t,rfl⟩:=rx;exact SeqAt.EqAt.none_str b t
  | _=>exact absurd (show false=true from fx) Bool.false_ne_true
 | bl a=>
  cases ry;cases x with
  | non=>cases rx;exact SeqAt.EqAt.bool_none a
  | bl b=>cases rx;exact SeqAt.EqAt.bool_bool a b
  | int b=>obtain⟨t,rfl⟩:=rx;exact SeqAt.EqAt.bool_int a b t
  | str b=>obtain⟨t,rfl⟩:=rx;exact SeqAt.EqAt.bool_str a b t
  | _=>exact absurd (show false=true from fx) Bool.false_ne_true
 | int a=>
  obtain⟨t',rfl⟩:=ry;cases x with
  | non=>cases rx;exact SeqAt.EqAt.int_none a t'
  | bl b=>cases rx;exact SeqAt.EqAt.int_bool a t' b
  | int b=>obtain⟨t,rfl⟩:=rx;exact SeqAt.EqAt.int_int a t' b t
  | str b=>obtain⟨t,rfl⟩:=rx;exact SeqAt.EqAt.int_str a t' b t
  | _=>exact absurd (show false=true from fx) Bool.false_ne_true
 | str a=>
  obtain⟨t',rfl⟩:=ry;cases x with
  | non=>cases rx;exact SeqAt.EqAt.str_none a t'
  | bl b=>cases rx;exact SeqAt.EqAt.str_bool a t' b
  | int b=>obtain⟨t,rfl⟩:=rx;exact SeqAt.EqAt.str_int a t' b t
  | str b=>obtain⟨t,rfl⟩:=rx;exact SeqAt.EqAt.str_str a t' b t
  | _=>exact absurd (show false=true from fx) Bool.false_ne_true
 | _=>exact absurd (show false=true from fy) Bool.false_ne_true
def eqU(x:V)(u:Value):Bool:=match u with
 | .none=>eqV .non x
 | .bool b=>eqV (.bl b) x
 | .int i _=>eqV (.int i) x
 | .str z _=>eqV (.str z) x
 | _=>false
theorem c2b{x y:V}{u:Value}(r:RelV y u)(f:a3g y=true):eqU x u=eqV y x:=by
 cases y with
 | non=>cases r;rfl
 | bl b=>cases r;rfl
 | int i=>obtain⟨t,rfl⟩:=r;rfl
 | str z=>obtain⟨t,rfl⟩:=r;rfl
 | _=>exact absurd (show false=true from f) Bool.false_ne_true
theorem b4a{x:V}:∀{xs:List V}{us:List Value},Vals xs us->xs.all a3g=true->us.any (eqU x)=xs.any λy=>eqV y x
 | _,_,.nil,_=>rfl
 | y::xs,u::us,.cons r t,f=>by
  rw[List.all_cons,Bool.and_eq_true] at f;rw[List.any_cons,List.any_cons,c2b r f.1,b4a t f.2]
theorem a7v{A:Around}{s:Shared}{x:V}{v:Value}(rx:RelV x v)(fx:a3g x=true):∀{xs:List V}{us:List Value},Vals xs us->xs.all a3g=true->∀u∈us,SeqAt.EqAt A s u v (eqU x u)
 | _,_,.nil,_=>λu hu=>by cases hu
 | y::xs,u::us,.cons r t,f=>λu' hu=>by
  rw[List.all_cons,Bool.and_eq_true] at f;rcases List.mem_cons.mp hu with rfl|hu
  ·rw[c2b r f.1];exact c9o r rx f.1 fx
  ·exact a7v rx fx t f.2 u' hu
def inV(x:V)(xs:List V):Bool:=xs.any λy=>eqV y x
def rIn(K:Frag)(neg:Bool):R2:=λx y H Q=>∃p xs,y=.ref p/\(SqL K H p xs\/SqT K H p xs)/\a3g x=true/\xs.all a3g=true/\Q (.bl (if neg then !inV x xs else inV x xs)) H
theorem c5b:OpR X (compareOp .In) (rIn X.K false):=by
 intro pins s σ H x y v u Q I rx ry h;obtain⟨p,xs,rfl,hq,fx,fs,q⟩:=h;cases ry;rcases hq with hq|hq
 ·obtain⟨its,r,pl,hz⟩:=I.list hq
  refine SeqAt.in_listAt (eqU x) pl.isList (λw hw=>a7v rx fx r fs w (by simpa using hw)) ⟨.bl _,H,I,rfl,?_⟩
  rw[show its.toArray.any (eqU x)=its.any (eqU x) by simp,b4a r fs]
  exact q
 ·obtain⟨its,r,pl,hz⟩:=I.tuple hq
  refine SeqAt.in_tupleAt (eqU x) pl (λw hw=>a7v rx fx r fs w (by simpa using hw)) ⟨.bl _,H,I,rfl,?_⟩
  rw[show its.toArray.any (eqU x)=its.any (eqU x) by simp,b4a r fs]
  exact q
theorem b7u:OpR X (compareOp .NotIn) (rIn X.K true):=by
 intro pins s σ H x y v u Q I rx ry h;obtain⟨p,xs,rfl,hq,fx,fs,q⟩:=h;cases ry;rcases hq with hq|hq
 ·obtain⟨its,r,pl,hz⟩:=I.list hq
  refine SeqAt.notIn_listAt (eqU x) pl.isList (λw hw=>a7v rx fx r fs w (by simpa using hw)) ⟨.bl _,H,I,rfl,?_⟩
  rw[show its.toArray.any (eqU x)=its.any (eqU x) by simp,b4a r fs]
  exact q
 ·obtain⟨its,r,pl,hz⟩:=I.tuple hq
  refine SeqAt.notIn_tupleAt (eqU x) pl (λw hw=>a7v rx fx r fs w (by simpa using hw)) ⟨.bl _,H,I,rfl,?_⟩
  rw[show its.toArray.any (eqU x)=its.any (eqU x) by simp,b4a r fs]
  exact q
theorem b9d:a4w X (.builtin "len") (λxs H Q=>∃p ys,xs=[.ref p]/\(SqL X.K H p ys\/SqT X.K H p ys)/\Q (.int ys.length) H):=by
 intro pins s σ H xs us Q I r h;obtain⟨p,ys,rfl,hq,q⟩:=h;obtain⟨u,rfl,rx⟩:=b4b r;cases rx;have hn:=b4x;rcases hq with hq|hq
 ·obtain⟨its,r',pl,hz⟩:=I.list hq
  have hlen:=r'.length;exact Calls.call_len_list pl.isList (by simp only[List.size_toArray] <;> lia) ⟨.int ys.length,H,I.tok _,⟨s.toks+1,by rw[List.size_toArray,hlen]⟩,q⟩
 ·obtain⟨its,r',pl,hz⟩:=I.tuple hq
  have hlen:=r'.length;exact len_tuple pl (by simp only[List.size_toArray] <;> lia) ⟨.int ys.length,H,I.tok _,⟨s.toks+1,by rw[List.size_toArray,hlen]⟩,q⟩
theorem a1l:a4w X (.builtin "len") (λxs H Q=>∃z,xs=[.str z]/\z.length<=sizeLine/\Q (.int z.length) H):=by
 intro pins s σ H xs us Q I r h;obtain⟨z,rfl,hz,q⟩:=h;obtain⟨u,rfl,t,rfl⟩:=b4b r;have hn:=b4x;exact len_str (by lia) ⟨.int z.length,H,I.tok _,⟨_,rfl⟩,q⟩
theorem b9c:a4w X (.type "list") (λxs H Q=>∃p ys,xs=[.ref p]/\(SqL X.K H p ys\/SqT X.K H p ys)/\∀l,H l=none->Q (.ref l) (upd H l (.lst ys))):=by
 intro pins s σ H xs us Q I r h;obtain⟨p,ys,rfl,hq,q⟩:=h;obtain⟨u,rfl,rx⟩:=b4b r;cases rx;have fin:∀(its:List Value),Vals ys its->ys.length<=sizeLine->∀(h':Heap)(c':Nat),(∀b o',s.heap.get? b=some o'->h'.get? b=some o') ->
   h'.get? s.heap.objs.size=some { cls:=.type "list",dict:=none,data:=.seq its.toArray c',slots:=#[] }->EP X pins σ Q (.ref s.heap.objs.size) { s with heap:=h' }:=λits r' hz h' c' kp e=>
  ⟨.ref s.heap.objs.size,_,I.laid (t':=s.toks) kp (Nat.le_refl _) (show ObjOk X.prog X.w _ h' _ (.lst ys) from⟨hz,its,c',r',e⟩),rfl,q _ (I.hok.fresh (Nat.le_refl _))⟩
 rcases hq with hq|hq
 ·obtain⟨its,r',pl,hz⟩:=I.list hq
  have hlen:=r'.length;obtain⟨o,ho,hc,n,hd⟩:=pl.isList;exact call_list_seq p (.inl rfl) ho hc hd (λh' c' kp e=>fin its r' hz h' c' kp e) (by simp only[List.size_toArray] <;> lia)
 ·obtain⟨its,r',pl,hz⟩:=I.tuple hq
  have hlen:=r'.length;obtain⟨o,ho,hc,n,hd⟩:=pl;exact call_list_seq p (.inr rfl) ho hc hd (λh' c' kp e=>fin its r' hz h' c' kp e) (by simp only[List.size_toArray] <;> lia)
theorem b6u:a4w X (.type "tuple") (λxs H Q=>∃p ys,xs=[.ref p]/\((SqL X.K H p ys/\∀l,H l=none->Q (.ref l) (upd H l (.tup ys)))\/(SqT X.K H p ys/\Q (.ref p) H))):=by
 intro pins s σ H xs us Q I r h;obtain⟨p,ys,rfl,h⟩:=h;obtain⟨u,rfl,rx⟩:=b4b r;cases rx;rcases h with ⟨hq,q⟩|⟨hq,q⟩
 ·obtain⟨its,r',pl,hz⟩:=I.list hq
  have hlen:=r'.length;refine call_tuple_list pl.isList (λh' kp=>?_) (by simp only[List.size_toArray] <;> lia)
  have I1:Inv X pins σ H { s with heap:=h' }:=I.kept (t':=s.toks) kp
  have I2:Inv X pins σ (upd H h'.objs.size (.tup ys)) { s with heap:=h'.push { cls:=.type "tuple",data:=.seq its.toArray } } :=
   I1.laid (t':=s.toks) (λb o e=>Heap.get?_push_of_some _ e) (Nat.le_refl _) (show ObjOk X.prog X.w _ _ _ (.tup ys) from⟨hz,its,r',IsTup.new _ _⟩)
  exact⟨.ref h'.objs.size,_,I2,rfl,q _ (I1.hok.fresh (Nat.le_refl _))⟩
 ·obtain⟨its,r',pl,hz⟩:=I.tuple hq
  exact call_tuple_same pl ⟨.ref p,H,I,rfl,q⟩
def tyV(K:Frag)(T:String)(x:V)(H:Hp):Prop:=match x with
 | .str _=>T="str"
 | .int _=>T="int"
 | .ref p=>(T="list"/\∃xs,SqL K H p xs)\/(T="tuple"/\∃o,K.lookup p=some o/\o.cls=.type "tuple"/\o.dict=none) \/
   (T="dict"/\((∃kvs,H p=some (.dK kvs)) \/ ∃kvs,H p=some (.dT kvs)))\/(T="set"/\∃S n,H p=some (.set S n))
 | _=>False
theorem d2g{pins:List (Addr×Obj)}{σ:St}{H:Hp}{s:Shared}{T:String}{x:V}{v:Value}(I:Inv X pins σ H s)(r:RelV x v)(ty:tyV X.K T x H):
  s.TypeIs v T/\∀a,v=.ref a->∃ob,s.heap.get? a=some ob/\ob.dict=none:=by
 cases x with
 | str z=>
  obtain⟨t,rfl⟩:=r;cases (show T="str" from ty);exact⟨typeIs_str s z t,λ_ e=>nomatch e⟩
 | int i=>
  obtain⟨t,rfl⟩:=r;cases (show T="int" from ty);exact⟨typeIs_int s i t,λ_ e=>nomatch e⟩
 | ref p=>
  cases r;rcases ty with ⟨rfl,xs,hq⟩|⟨rfl,o,hk,hc,hd⟩|⟨rfl,hk⟩|⟨rfl,S,n,hk⟩
  ·obtain⟨its,_,pl,_⟩:=I.list hq
   refine⟨pl.isList.typeIs,λa e=>?_⟩;cases e;obtain⟨o,n,e,c,hd,_⟩:=pl;exact⟨o,e,hd⟩
  ·refine⟨⟨o,I.kIn p o hk,hc⟩,λa e=>?_⟩
   cases e;exact⟨o,I.kIn _ o hk,hd⟩
  ·have z:∃o,s.heap.get? p=some o/\o.ExactDict:=by
    rcases hk with ⟨kvs,hk⟩|⟨kvs,hk⟩
    ·obtain⟨_,_,_,_,o,_,_,e,ex,_⟩:=I.hok p _ hk
     exact⟨o,e,ex⟩
    ·obtain⟨_,_,_,_,o,_,_,e,ex,_⟩:=I.hok p _ hk
     exact⟨o,e,ex⟩
   obtain⟨o,e,ex⟩:=z;refine⟨⟨o,e,ex.1⟩,λa e2=>?_⟩;cases e2;exact⟨o,e,ex.2.1⟩
  ·obtain⟨o,_,_,_,e,ex,_⟩:=I.hok p _ hk
   refine⟨⟨o,e,ex.1⟩,λa e2=>?_⟩;cases e2;exact⟨o,e,ex.2.1⟩
 | _=>exact False.elim ty
def tBM(K:Frag)(T:String)(r:V->List V->Hp->VK->Prop)(to:TE)(t:TA):TE:=λσ H Q=>to σ H λx H1=>tyV K T x H1/\t σ H1 λxs H2=>r x xs H2 Q
variable{o e:Expr}{es:List Expr}{to:TE}{t:TA}{name:Str}{apos cpos:Pos}{T id:String}{r:V->List V->Hp->VK->Prop}
theorem c4s(pa:PlainAttrs T)(slot:Slot T name id)(hty:typeOf (.builtin id)=pure (.type "method_descriptor"))(hm:MtR X id r)(ho:PE X o to)(ha:PA X (e::es) t)(hbase:attributeBase o name X.env (eval o X.env)=eval o X.env:=by rfl)(hfew:((backTo cpos (starEach (e::es) X.env)).all (λx=>!x.1) && (backToKw cpos (keywordEach [] X.env)).all (λx=>x.1.isSome)
   && decide ((e::es).length+([]:List Keyword).length+(if ([]:List Keyword).isEmpty then 0 else 1)<30))=true:=by rfl)(hline:(apos.endLine == cpos.line)=true:=by rfl)(hs:starEach (e::es) X.env=(false,eval e X.env)::starEach es X.env:=by rfl)(hplain:(backTo cpos (starEach es X.env)).any (·.1)=false:=by rfl):
  PE X (.Call (.Attribute o name apos) (e::es) [] cpos) (tBM X.K T r to t):=by
 intro pins s σ H Q I h;refine wpAny_Call_method_late hbase hfew hline rfl (thn (ho pins s σ H _ I h) λv s1 z0_=>?_);obtain⟨x,H1,I1,r1,ty,q1⟩:=z0_;obtain⟨h1,h2⟩:=d2g I1 r1 ty;refine⟨T,id,pa,slot,hty,h1,h2,?_⟩;have hA:=ha cpos pins s1 σ H1 _ I1 q1;rw[hs] at hA ⊢;refine Calls.callWith_builtin (by show(false || (backTo cpos (starEach es X.env)).any (·.1))=false;rw[hplain] <;> rfl) (Calls.evalArgs_plain ?_)
 exact thn hA λus s2 z0_=>by obtain⟨vs,H2,I2,r2,q2⟩:=z0_;exact hm pins s2 σ H2 x vs v us Q I2 r1 r2 q2
end
end L2
namespace L2
open PySem PySem.Spec PyProof.Rows
def MtM(X:Cx)(id:String)(r:V->List V->Hp->VK->Prop):Prop :=
 ∀(pins:List (Addr×Obj))(s:Shared)(σ:St)(H:Hp)(x:V)(xs:List V)(v:Value)(us:List Value)(Q:VK),Inv X pins σ H s->RelV x v->Vals xs us->r x xs H Q ->
  wpAny (model X.prog X.w) X.A (call (.builtin id) (v::us)) (EP X pins σ Q) X.xe s
theorem Vals.one{x:V}{us:List Value}(h:Vals [x] us):∃u,us=[u]/\RelV x u:=by
 cases h with|cons r t=>cases t;exact⟨_,rfl,r⟩
theorem Vals.two{x y:V}{us:List Value}(h:Vals [x,y] us):∃u v,us=[u,v]/\RelV x u/\RelV y v:=by
 cases h with|cons r t=>cases t with|cons q t=>cases t;exact⟨_,_,rfl,r,q⟩
theorem Vals.rep{xs:List V}{us:List Value}(h:Vals xs us):∀k:Nat,Vals (List.replicate k xs).flatten (List.replicate k us).flatten
 | 0=>.nil
 | k+1=>by
  rw[List.replicate_succ,List.replicate_succ,List.flatten_cons,List.flatten_cons];exact Vals.append h (Vals.rep h k)
theorem b8s(its:List Value):∀(k:Nat)(acc:List Value),
  List.foldl (λx1 x2=>x1++x2) acc.toArray (List.replicate k its.toArray)=(acc++(List.replicate k its).flatten).toArray
 | 0,acc=>by simp
 | k+1,acc=>by
  have e:acc.toArray++its.toArray=(acc++its).toArray:=by simp
  have e2:(acc++its)++(List.replicate k its).flatten=acc++(List.replicate (k+1) its).flatten:=by
   rw[List.replicate_succ,List.flatten_cons,List.append_assoc]
  rw[<- e2,<- b8s its k (acc++its),<- e,List.replicate_succ,List.foldl_cons]
section
variable{X:Cx}{pins:List (Addr×Obj)}{σ:St}{H:Hp}{s:Shared}{l b:Addr}{xs ys zs:List V}
theorem Inv.lset{its its':List Value}{n:Nat}{f:Array Value->Array Value}{t':Nat}(I:Inv X pins σ H s)(hH:H l=some (.lst xs))(e:s.heap.get? l=some { cls:=.type "list",data:=.seq its.toArray n })(hf:f its.toArray=its'.toArray)(hv:Vals ys its')(hz:ys.length<=sizeLine):
  Inv X pins σ (upd H l (.lst ys)) { s with heap:=s.heap.update l (Obj.mapSeq f),toks:=t' }:=by
 have q:=PySem.IsL.update e f;rw[hf] at q;refine I.write (x:=l) (e:=l) (by rw[hH];exact trivial) (.inl rfl) (λb' u hb hu=>(Heap.get?_update_other s.heap (Obj.mapSeq f) (Ne.symm hb)).trans hu) ⟨_,q⟩ ?_
 exact⟨hz,its',_,hv,q⟩
theorem Inv.lnew{its:List Value}{t':Nat}(I:Inv X pins σ H s)(hv:Vals ys its)(hz:ys.length<=sizeLine):
  Inv X pins σ (upd H s.heap.objs.size (.lst ys)) { s with heap:=s.heap.push { cls:=.type "list",data:=.seq its.toArray },toks:=t' } :=
 I.laid (λ_ _ q=>Heap.get?_push_of_some _ q) (Nat.le_refl _) ⟨hz,its,0,hv,Heap.get?_push_size _ rfl⟩
theorem Inv.fresh(I:Inv X pins σ H s):H s.heap.objs.size=none:=I.hok.fresh (Nat.le_refl _)
theorem Inv.lstM(I:Inv X pins σ H s)(hH:H l=some (.lst xs)):xs.length<=sizeLine/\∃(its:List Value)(n:Nat),Vals xs its/\xs.length=its.length/\s.heap.get? l=some { cls:=.type "list",data:=.seq its.toArray n }:=by
 obtain⟨z,its,n,r,e⟩:=I.hok l _ hH;exact⟨z,its,n,r,r.length,e⟩
theorem c1l{n:Nat}(h:n<=sizeLine):Builtin.List.listTooLong n=false:=by
 unfold Builtin.List.listTooLong;exact decide_eq_false (by lia)
end
section
variable{X:Cx}
def b5s:V->List V->Hp->VK->Prop:=λx vs H Q=>∃l xs y,x=.ref l/\vs=[y]/\H l=some (.lst xs)/\xs.length<sizeLine/\Q .non (upd H l (.lst (xs++[y])))
theorem b3n:MtM X "list.append" b5s:=by
 intro pins s σ H x vs v us Q I rx rv h;obtain⟨l,xs,y,rfl,rfl,hH,hz,q⟩:=h;cases rx;obtain⟨u,rfl,ru⟩:=rv.one;obtain⟨z,its,n,r,hl,e⟩:=I.lstM hH;refine call_meets F.slot_list_append ⟨_,e,rfl⟩ F.entry_list_append (F.args_list_append_2 _ _) (PySem.list_append l its.toArray n u (by rw[List.size_toArray];lia)) ⟨e,?_⟩
 refine⟨.non,_,I.lset (its':=its++[u]) hH e (by simp) (r.append (.cons ru .nil)) ?_,rfl,q⟩
 rw[List.length_append,List.length_singleton];lia
def d5m:R2:=λx y H Q=>∃l b xs zs,x=.ref l/\y=.ref b/\H l=some (.lst xs)/\H b=some (.lst zs)/\xs.length+zs.length<=sizeLine/\∀p,H p=none->Q (.ref p) (upd H p (.lst (xs++zs)))
theorem a2b:OpR X (binaryOp .Add) d5m:=by
 intro pins s σ H x y v u Q I rx ry h;obtain⟨l,b,xs,zs,rfl,rfl,hH,hB,hz,q⟩:=h;cases rx;cases ry;obtain⟨z,its,n,r,hl,e⟩:=I.lstM hH;obtain⟨z2,its2,n2,r2,hl2,e2⟩:=I.lstM hB;refine PySem.P.add_list e e2 ?_ (by rw[List.size_toArray,List.size_toArray];lia)
 have ea:its.toArray++its2.toArray=(its++its2).toArray:=by simp
 rw[ea];exact⟨.ref _,_,I.lnew (t':=s.toks) (r.append r2) (by rw[List.length_append];lia),rfl,q _ I.fresh⟩
def d7u:R2:=λx y H Q=>∃l k xs,x=.ref l/\y=.int k/\H l=some (.lst xs)/\-(2 ^ 63)<=k/\k<2 ^ 63/\xs.length*k.toNat<=sizeLine /\
 ∀p,H p=none->Q (.ref p) (upd H p (.lst (List.replicate k.toNat xs).flatten))
theorem c0f{α:Type}(xs:List α)(k:Nat):(List.replicate k xs).flatten.length=k*xs.length:=by
 induction k with
 | zero=>simp
 | succ k ih=>rw[List.replicate_succ,List.flatten_cons,List.length_append,ih,Nat.succ_mul,Nat.add_comm]
theorem c4z:OpR X (binaryOp .Mult) d7u:=by
 intro pins s σ H x y v u Q I rx ry h;obtain⟨l,k,xs,rfl,rfl,hH,h1,h2,hz,q⟩:=h;cases rx;obtain⟨t,rfl⟩:=ry;obtain⟨z,its,n,r,hl,e⟩:=I.lstM hH;have hlen:its.toArray.size*k.toNat<=sizeLine:=by rw[List.size_toArray,<- hl];exact hz
 have hcap:¬ its.toArray.size*k.toNat > (2 ^ 63-1) / 8:=by
  have:(sizeLine:Nat)<=(2 ^ 63-1) / 8:=by decide
  lia
 have hfit:¬ (!Builtin.List.listFitsIndex k)=true:=by
  rw[fitsIndex_both h1 h2];exact Bool.false_ne_true
 have hlong:¬ Builtin.List.listTooLong (its.toArray.size*k.toNat)=true:=by
  rw[c1l hlen];exact Bool.false_ne_true
 have hnew:List.foldl (λx1 x2=>x1++x2) #[] (List.replicate (if its.toArray.isEmpty=true then 0 else k.toNat) its.toArray)=(List.replicate k.toNat its).flatten.toArray:=by
  have f0:∀m:Nat,List.foldl (λx1 x2=>x1++x2) #[] (List.replicate m its.toArray)=(List.replicate m its).flatten.toArray:=λm=>by
   have:=b8s its m [];rw[List.nil_append] at this;exact this
  rw[f0];cases its with
  | nil=>simp
  | cons a r'=>rw[if_neg (by simp)]
 refine wpAny_binaryOp_repeat_ref (T:="list") (U:="int") ↑5 ⟨_,e,rfl⟩ (λs'=>typeIs_int s' k t) noFill_list_mul F.fills_int_mul F.slot_int_rmul repeat_list F.slot_int_index.lookup
  (call_meets F.slot_int_rmul (typeIs_int s k t) F.entry_int_rmul (F.args_int_rmul_2 _ _) (int___rmul___int_list k t l its.toArray n)
   ⟨e,rfl,⟨_,e,rfl⟩,call_meets F.slot_list_mul ⟨_,e,rfl⟩ F.entry_list_mul (F.args_list_mul_2 _ _) (AutoListH.list___mul___list_int_3 l its.toArray n k t hfit hcap hlong) ⟨e,?_⟩⟩)
 rw[hnew];exact⟨.ref _,_,I.lnew (t':=s.toks) (r.rep k.toNat) (by rw[c0f,Nat.mul_comm];exact hz),rfl,q _ I.fresh⟩
end
section
variable{prog:Program}{w:World}{A:Around}{E:Value->Shared->Prop}{s:Shared}
set_option maxRecDepth 100000 in
end
section
variable{X:Cx}
end
end L2
namespace Att
open PySem PySem.W PySem.Calls PyProof.Rows
theorem b3t{P:Params}{h:Heap}:∀(ns:List Int)(vs:List Value),WellAll P h vs (ns.map WData.int)->IntsAre vs ns:=by
 intro ns
 induction ns with
 | nil=>
  intro vs w;rw[List.map_nil] at w;cases w;exact .nil
 | cons n ns ih=>
  intro vs w;rw[List.map_cons] at w;cases w with
  | cons a b=>
   cases a;exact .cons _ _ (ih _ b)
theorem c4d{l:OpenLaw}{n:Nat}(hn:l.most=some n){P:Params}{h:Heap}{args:List WData}{vals:List Value}(hpre:l.row.toRowW.claim.pre args=true)(hwl:WellAll P h vals args):
  ∃a vs ns,vals=[Value.ref a]/\args=[WData.list (ns.map WData.int)]/\h.get? a=some { cls:=.type "list",data:=.seq vs.toArray }/\IntsAre vs ns/\ns.length<=n:=by
 have hsh:WShape.hasAll [] args [.list .int]=true:=(pre_splitW hpre).1;have hc:l.pre.holds [] { args:=args }=true:=(pre_splitW hpre).2;obtain⟨d,r,rfl,h1,h2⟩:=hasAllW_cons hsh;obtain rfl:=hasAllW_nil h2;obtain⟨xs,rfl,h3⟩:=hasW_list h1;obtain⟨ns,rfl⟩:=items_int h3;have hlen:ns.length<=n:=by
  unfold OpenLaw.pre at hc;have h4:(WTm.not (.lt (.lit (.int (n:Int))) (.len (.arg 0)))).holds [] { args:=[.list (ns.map .int)] }=true:=by
   have h4:=(holds_andW hc).1;rw[hn] at h4;exact h4
  have h5:=condW_of h4 (w_not (w_lt w_lit (w_len_list (w_arg rfl))));rw[List.length_map] at h5;refine Nat.le_of_not_lt λq=>?_;have q':(n:Int)<((ns.length:Nat):Int):=by lia
  first
   | (rw[decide_eq_true q'] at h5;exact absurd h5 ↑5)
   | (simp at h5;lia)
 cases hwl with
 | cons w1 w2=>
  cases w2;cases w1 with
  | list ho hall=>exact⟨_,_,ns,rfl,rfl,ho,b3t ns _ hall,hlen⟩
theorem c4l(l:OpenLaw)(args:List WData):l.row.toRowW.claim.post args (.bool true) args=true :=
 postW_of (r:=l.row.toRowW) (X:=(true == true))
  (show WShape.has [] (.bool true) .bool=true by first|rfl|decide|simp[WShape.has,WShape.arms,WShape.armsAll])
  (show(WTm.eq .res (.lit (.bool true))).value [] { args:=args,res:=some (.bool true),after:=args }=some (.bool (true == true)) from w_eq_bool (w_res rfl) w_lit) rfl
theorem attach_call{l:OpenLaw}{n:Nat}{q:Program}{loose:List Str}{XP:(Str->Option Value)->Heap->Prop}{YP:World->Heap->Prop}{d:DefRec}(hn:l.most=some n)(hdf:d.params.defaults=[])(call:∀(w:World) (s₀ s₁:Shared) (mg mb:Str->Option Value) (fa:Addr) (o:Obj) (pm cd doc:Value) (a:Addr) (vs:List Value) (ns:List Int),
   Ground q loose [] XP w s₀ mg mb s₁.heap->YP w s₁.heap ->
   s₁.heap.get? fa=some o->o.data=.func (docDef d.name d.params d.body d.scope pm cd doc)->s₁.heap.CodeRec cd d.name->mg d.name=some (.ref fa) ->
   s₁.heap.get? a=some { cls:=.type "list",data:=.seq vs.toArray }->IntsAre vs ns->ns.length<=n->s₁.gens=#[] ->
   codeAny (model l.prog w) callerA (.call (.ref fa) ⟨[.ref a],[]⟩) (λr s'=>r=.ok (.ret (.bool true))/\OldK s₁.heap s'.heap/\s'.os=s₁.os/\AllBare s'.gens) s₁):
  WalkO q loose XP YP l.row.toRowW d [] (λf vs=>PySem.call f vs):=by
 intro w s₀ s₁ mg mb G Y fa o pm cd doc dV kV ho hd hcd hD hmg hg args vals as hpre hlay hrd hwl hlo;obtain rfl:dV=.none:=Dflts.none hD hdf;obtain rfl:kV=.none:=Dflts.noKw hD;obtain⟨a,vs,ns,rfl,rfl,hobj,hints,hlen⟩:=c4d hn hpre hwl;refine enter_call (codeAny_mono (call w s₀ s₁ mg mb fa o pm cd doc a vs ns G Y ho (fd_plain hd) hcd hmg hobj hints hlen hg) λr s' hq=>?_);obtain⟨rfl,h2,h3,h4⟩:=hq;exact⟨.inl ⟨.bool true,.bool true,[],rfl,λ_=>rfl,.bool true,c4l l _,λ_=>⟨List.Pairwise.nil,λ_ hm=>(nomatch hm)⟩⟩,h2,h3,h4⟩
section
variable{prog:Program}{w:World}{A:Around}{E:Value->Shared->Prop}{s:Shared}{K:Frag}
end
end Att
namespace L2
open PySem PySem.Spec PyProof.Rows
theorem b6w:∀{vs:List Value}{ns:List Int},IntsAre vs ns->Vals (ns.map V.int) vs
 | _,_,.nil=>.nil
 | _,_,.cons n t h=>.cons ⟨t,rfl⟩ (b6w h)
def d6o(H:Hp):Prop:=∀b,H b=none \/ ∃o xs,H b=some (.frz o (.lst xs))
theorem c7t{P:Program}{w:World}{K:Frag}{mg mb:Str->Option Value}{CX:CXT}{k:Nat}{fa a:Addr}{fd:FuncData}{x:Str}{sp:Sp}{s₁:Shared}{vs:List Value}{ns:List Int}(KX:K.In s₁.heap)(hns:s₁.heap.Ns mainGlobals mg)(hb:s₁.heap.Ns builtinsNs mb)(hbb:∀x:Str,x≠"__name__"->mb x=bootBuiltins x)(hlim:s₁.heap.NoLimit)(hg:s₁.gens=#[])(ha:s₁.heap.get? a=some { cls:=.type "list",data:=.seq vs.toArray })(hi:IntsAre vs ns)(hl:ns.length<=sizeLine)(hr:Room k callerA)(F:∀base:Heap,K.In base->base.Ns mainGlobals mg->c6q P w K mg base CX k fa fd [x] sp)(hbind:∀(s:Shared) (u:Value),BindsTo s fd ⟨[u],[]⟩ [(x,u)])(hsp:∀H:Hp,d6o H->SqL K H a (ns.map V.int)->sp [.ref a] H (λv _=>v=.bl true) λ_ _ _=>False)(hCX:∀H e s',CX [] H s₁ (λ_ _ _=>False) e s'->False):
  codeAny (model P w) callerA (.call (.ref fa) ⟨[.ref a],[]⟩) (λr s'=>r=.ok (.ret (.bool true))/\OldK s₁.heap s'.heap/\s'.os=s₁.os/\AllBare s'.gens) s₁:=by
 have rv:=b6w hi;have lenV:=hi.length;have core:∀H:Hp,d6o H->SqL K H a (ns.map V.int)->HOk P w H s₁.heap->(∀b,H b≠none->b=a)->(H a≠none->K.lookup a=none) ->
   codeAny (model P w) callerA (.call (.ref fa) ⟨[.ref a],[]⟩) (λr s'=>r=.ok (.ret (.bool true))/\OldK s₁.heap s'.heap/\s'.os=s₁.os/\AllBare s'.gens) s₁:=by
  intro H hO hS hok hA hK;have base_of:∀{b:Addr}{o:Obj},s₁.heap.get? b=some o->H b=none->(c7w s₁.heap H).get? b=some o:=λe n=>c7v e n;have noA:∀{b:Addr}{o:Obj}{es:Array DictEntry}{ep:Nat},s₁.heap.get? b=some o->o.data=.dict es ep->H b=none:=λ{b o es ep} e d=>by
   cases q:H b with
   | none=>rfl
   | some u=>
    have e':b=a:=hA b (by rw[q];simp)
    subst e';rw[ha] at e;cases e;have d':Data.seq vs.toArray _=Data.dict es ep:=d;cases d'
  have nsK:∀{b:Addr}{m:Str->Option Value},s₁.heap.Ns b m->(c7w s₁.heap H).Ns b m:=λ{b m} ⟨o,es,ep,e,d,r⟩=>⟨o,es,ep,base_of e (noA e d),d,r⟩;have hKb:K.In (c7w s₁.heap H):=λb o e=>base_of (KX b o e) (by
   cases q:H b with
   | none=>rfl
   | some u=>
    have e':b=a:=hA b (by rw[q];simp)
    subst e';rw[hK (by rw[q];simp)] at e;cases e)
  have hM:Mod K mg (c7w s₁.heap H):=⟨hKb,nsK hns,⟨mb,nsK hb,hbb⟩,let ⟨mc,h1,h2⟩:=hlim;⟨mc,nsK h1,h2⟩⟩
  have e0:d4y P w K mg (c7w s₁.heap H) callerA [] s₁ H:=⟨rfl,hM,λb o e=>d0r e,Nat.le_of_eq (c5o _ _),trivial,λb hb=>absurd (show b∈([]:List Addr) from hb) (by simp),hok,.of_eq hg⟩
  refine codeAny_mono ((F _ hKb (nsK hns)).run callerA [] s₁ H ⟨[.ref a],[]⟩ [.ref a] [.ref a] _ _ hr e0 (hbind s₁ (.ref a)) (.cons rfl .nil) (hsp H hO hS)) λr s' h=>?_;cases r with
  | error e=>exact(hCX H e s' h).elim
  | ok fl=>
   cases fl with
   | next=>exact False.elim h
   | brk=>exact False.elim h
   | cont=>exact False.elim h
   | ret u=>
    obtain⟨v,H',os,bare,un,hok',r',q⟩:=h;have q':v=.bl true:=q;subst q';obtain rfl:u=Value.bool true:=r';refine⟨rfl,OldK.of_keep λb o e=>?_,os,bare⟩;cases q:H b with
    | none=>exact un.keep b o e q (by intro z;exact absurd (show b∈([]:List Addr) from z) (by simp)) (by simp)
    | some u=>
     rcases hO b with z|⟨ob,xs,z⟩
     ·rw[q] at z;cases z
     ·have z2:=un.frzs b ob _ z
      obtain⟨e1,_⟩:=hok b _ z;obtain⟨e2,_⟩:=hok' b _ z2;rw[e] at e1;cases e1;exact e2
 cases hk:K.lookup a with
 | some o=>
  have e:=KX a o hk;rw[ha] at e;cases e;refine core (λ_=>none) (λ_=>.inl rfl) (.inr ⟨_,vs.toArray,_,hk,rfl,rfl,rfl,by rw[List.size_toArray,lenV];exact hl,by simpa using rv⟩) (λb u z=>by have z':(none:Option HO)=some u:=z;cases z') (λb z=>absurd rfl z) λz=>absurd rfl z
 | none=>
  refine core (λb=>if b=a then some (.frz { cls:=.type "list",data:=.seq vs.toArray } (.lst (ns.map V.int))) else none) (λb=>?_) (.inl (.inr ⟨{ cls:=.type "list",data:=.seq vs.toArray },if_pos rfl⟩)) (λb u z=>?_) (λb z=>?_) λ_=>hk
  ·by_cases hb:b=a
   ·exact .inr ⟨_,_,if_pos hb⟩
   ·exact .inl (if_neg hb)
  ·by_cases hb:b=a
   ·have z':=(if_pos hb).symm.trans z
    cases z';subst hb;exact⟨ha,by rw[List.length_map];exact hl,vs,_,rv,ha⟩
   ·have z':=(if_neg hb).symm.trans z
    cases z'
  ·by_cases hb:b=a
   ·exact hb
   ·exact absurd (if_neg hb) z
end L2
namespace L2
open PySem PySem.Spec PyProof.Rows
theorem walk_of{l:PySem.W.OpenLaw}{n k:Nat}{q:Program}{loose:List Str}{XP:(Str->Option Value)->Heap->Prop}{YP:World->Heap->Prop}{d:DefRec}{K:Params->Frag}{CX:World->CXT}{sp:World->Sp}{x:Str}(hn:l.most=some n)(hn2:n<=sizeLine)(hdf:d.params.defaults=[])(hr:Room k callerA)(hY:∀(w:World) (h:Heap),YP w h->(K w.params).In h)(F:∀(w:World) (mg:Str->Option Value) (fa:Addr) (h:Heap),(K w.params).In h->h.Ns mainGlobals mg->mg d.name=some (.ref fa) ->
   ∃fd:FuncData,(∀(s:Shared) (u:Value),BindsTo s fd ⟨[u],[]⟩ [(x,u)]) /\
    ∀base:Heap,(K w.params).In base->base.Ns mainGlobals mg->c6q l.prog w (K w.params) mg base (CX w) k fa fd [x] (sp w))(hsp:∀(w:World) (H:Hp) (a:Addr) (ns:List Int),ns.length<=n->d6o H->SqL (K w.params) H a (ns.map V.int)->sp w [.ref a] H (λv _=>v=.bl true) λ_ _ _=>False)(hCX:∀(w:World) (H:Hp) (s:Shared) (e:Value) (s':Shared),CX w [] H s (λ_ _ _=>False) e s'->False):
  PySem.W.WalkO q loose XP YP l.row.toRowW d [] (λf vs=>PySem.call f vs):=by
 refine Att.attach_call hn hdf λw s₀ s₁ mg mb fa o pm cd doc a vs ns G Y ho hd hcd hmg hobj hints hlen hg=>?_;have KX:=hY w _ Y;obtain⟨fd,hb,hF⟩:=F w mg fa _ KX G.T.g hmg;exact c7t KX G.T.g G.T.b G.T.builtins G.T.nolimit hg hobj hints (Nat.le_trans hlen hn2) hr hF hb (λH hO hS=>hsp w H a ns hlen hO hS) λH e s'=>hCX w H s₁ e s'
end L2
namespace L2
open PySem PySem.Spec PyProof.Rows
def a3c(s:Stmt):Arguments:=match s with
 | .FunctionDef _ a _ _ _ _ _ _ _ _=>a
 | _=>{ posonlyargs:=[],args:=[],vararg:=none,kwonlyargs:=[],kw_defaults:=[],kwarg:=none,defaults:=[] }
def a2e(s:Stmt):List Stmt:=match s with
 | .FunctionDef _ _ b _ _ _ _ _ _ _=>b
 | _=>[]
def g7(s:Stmt):Scope:=match s with
 | .FunctionDef _ _ _ _ _ _ sc _ _ _=>sc
 | _=>{ kind:=.function,names:=[],isGenerator:=false,isCoroutine:=false }
abbrev E0:XK:=λ_ _ _=>False
structure Fun(K:Frag)(x qual:Str)(st:Stmt)(f:Addr)(fd:FuncData):Prop where
 ex:∃(oc:Value)(od:Option Addr)(kV doc pm:Value)(an:Option Addr)(cdv ct:Value)(osl:Array (Option Value)),
  fd=PySem.W.fnOf x qual (a3c st) (a2e st) (g7 st) .none kV doc pm an cdv ct/\K.lookup f=some ⟨oc,od,.func fd,osl⟩/\codeIn K cdv qual=true
 kp:keepIn K (.ref f)=true
section
variable{P:Program}{w:World}{K:Frag}{mg:Str->Option Value}{base:Heap}
theorem Fun.binds{x qual:Str}{st:Stmt}{f:Addr}{fd:FuncData}{ps:List Str}(F:Fun K x qual st f fd)(h:∀(kV doc pm:Value) (an:Option Addr) (cdv ct:Value) (us:List Value),us.length=ps.length->bindArgs (PySem.W.fnOf x qual (a3c st) (a2e st) (g7 st) .none kV doc pm an cdv ct) ⟨us,[]⟩=pure (ps.zip us)):Binds K fd ps []:=by
 obtain⟨oc,od,kV,doc,pm,an,cdv,ct,osl,rfl,lk,hcd⟩:=F.ex;exact .all (h kV doc pm an cdv ct)
theorem c9j{x qual:Str}{st:Stmt}{f:Addr}{oc:Value}{od an:Option Addr}{osl:Array (Option Value)}{kV doc pm cdv ct:Value}(l:K.lookup f=some ⟨oc,od,.func (PySem.W.fnOf x qual (a3c st) (a2e st) (g7 st) .none kV doc pm an cdv ct),osl⟩)(c:codeIn K cdv qual=true)(k:keepIn K (.ref f)=true):Fun K x qual st f (PySem.W.fnOf x qual (a3c st) (a2e st) (g7 st) .none kV doc pm an cdv ct):=⟨⟨oc,od,kV,doc,pm,an,cdv,ct,osl,rfl,l,c⟩,k⟩
end
section
variable{X:Cx}
theorem pv(i:Nat){x:Str}{pos:Pos}(hN:X.N[i]?=some x:=by rfl)(hv:Vis X.env.scope x:=by first|exact Or.inl rfl|exact Or.inr (Or.inl rfl)|exact Or.inr (Or.inr rfl))(hd:(x == ("__debug__":Str))=false:=by decide)(hcd:(x == ("__classdict__":Str))=false:=by decide):PE X (.Name x pos) (d4r i):=d3b hN hv hd hcd
end
theorem d5s{A B:Prop}(h:B):if false=true then A else B:=by
 rw[if_neg Bool.false_ne_true];exact h
theorem d5p{A B:Prop}(h:A):if true=true then A else B:=by
 rw[if_pos rfl];exact h
theorem c3e{c A B:Prop}[Decidable c](h1:c->A)(h2:¬ c->B):if c then A else B:=by
 by_cases h:c
 ·rw[if_pos h]
  exact h1 h
 ·rw[if_neg h]
  exact h2 h
def Same(H H':Hp):Prop:=∀b o,H b=some o->H' b=some o
theorem Same.refl(H:Hp):Same H H:=λ_ _ h=>h
theorem Same.trans{H H1 H2:Hp}(a:Same H H1)(b:Same H1 H2):Same H H2:=λc o h=>b c o (a c o h)
theorem Same.free{H H':Hp}(e:Same H H'){l:Addr}(h:H' l=Option.none):H l=Option.none:=by
 cases q:H l with
 | none=>rfl
 | some o=>
  rw[e l o q] at h;cases h
theorem Same.seq{K:Frag}{H H':Hp}{a:Addr}{xs:List V}(e:Same H H')(h:SqL K H a xs):SqL K H' a xs:=by
 rcases h with (h|⟨o,h⟩)|h
 ·exact .inl (.inl (e _ _ h))
 ·exact .inl (.inr ⟨o,e _ _ h⟩)
 ·exact .inr h
end L2
namespace L2
open PySem PySem.Spec PyProof.Rows
def K2(h h':Heap)(e:Addr):Prop:=∀o vs,h.get? e=some o->o.data=.fields vs->∃o' ws,h'.get? e=some o'/\o'.data=.fields ws/\ws[2]?=vs[2]?
def NC(h:Heap)(e:Addr):Prop:=∃o vs,h.get? e=some o/\o.data=.fields vs/\vs[2]?=some .none
theorem NC.on{h h':Heap}{e:Addr}(n:NC h e)(k:K2 h h' e):NC h' e:=by
 obtain⟨o,vs,a,b,c⟩:=n;obtain⟨o',ws,x,y,z⟩:=k o vs a b;exact⟨o',ws,x,y,z.trans c⟩
theorem K2.trans{h h1 h2:Heap}{e:Addr}(a:K2 h h1 e)(b:K2 h1 h2 e):K2 h h2 e:=by
 intro o vs p q;obtain⟨o1,v1,x,y,z⟩:=a o vs p q;obtain⟨o2,v2,x2,y2,z2⟩:=b o1 v1 x y;exact⟨o2,v2,x2,y2,z2.trans z⟩
theorem K2.same{h h':Heap}{e:Addr}(k:∀o,h.get? e=some o->h'.get? e=some o):K2 h h' e:=λo vs p q=>⟨o,vs,k o p,q,rfl⟩
section
variable{M:Model}{A:Around}{E:Value->Shared->Prop}{s:Shared}
theorem c2d{base:Heap}{env:Env}{outer:List Env}{L e:Addr}{oe:Obj}{vs:Array Value}{head a0:Value}{hn:Bool}{Q:Unit->Shared->Prop}(hfr:A.frames=some (env::outer))(hl:s.heap.FunFrames base (env::outer))(hf:env.frame=some L)(he:s.heap.get? e=some oe)(hkb:base.StaysIn s.heap)(hen:base.get? e=none)(hd:oe.data=.fields vs)(hsz:1<vs.size)(h0:vs[0]?=some a0)(q:∀h',Heap.NotedW base (env::outer) e oe.cls a0 (rawInt L) s.heap h'->K2 s.heap h' e->Q () { s with heap:=h' }):
  wpAny M A (do let a <- frameOf env;let pl <- entryPlaceOf L hn;let b <- EntryCells.newEntry head a .none (rawInt L) .none pl;setField (.ref e) 1 b) Q E s:=by
 have out:e ∉ (env::outer).filterMap (·.frame):=λhm=>by
  obtain⟨_,o,ho,nf⟩:=hl.mem hm;cases he.symm.trans ho;exact nf vs hd
 refine wpAny_bind (wpAny_frameOf_fun hfr hl hf λh1 hs=>?_);refine wpAny_bind (wpAny_entryPlaceOf λpl hpl=>?_);unfold EntryCells.newEntry newFields;refine wpAny_bind (wpAny_newObj_type ?_ (hpl.sizeOk5 _ _ _ _ _));generalize hnw:({ cls:=.type "traceback",dict:=none,data:=.fields ([head,.ref L,.none,rawInt L,.none]++(if pl.isEmpty then List.replicate 6 Value.none else pl)).toArray }:Obj)=nw;have dnw:nw.data=.fields ([head,.ref L,.none,rawInt L,.none]++(if pl.isEmpty then List.replicate 6 Value.none else pl)).toArray:=by rw[<- hnw]
 have e1:h1.get? e=some oe:=(hs.2.1 e out).trans he;have k1:base.StaysIn h1:=λb o hb=>(hs.2.1 b λhm=>by rw[(hl.mem hm).1] at hb;cases hb).trans (hkb b o hb)
 have e2:=Heap.get?_push_of_some (h:=h1) nw e1;have tne:h1.objs.size≠e:=Nat.ne_of_gt (Heap.lt_size e1);have d3:=Obj.data_mapFields hd (·.setIfInBounds 1 (Value.ref h1.objs.size))
 have e3:=Heap.get?_update_self (Obj.mapFields (·.setIfInBounds 1 (Value.ref h1.objs.size))) e2 (Obj.isFreed_of_fields d3)
 have t3:=(Heap.get?_update_other (h1.push nw) (Obj.mapFields (·.setIfInBounds 1 (Value.ref h1.objs.size))) (Ne.symm tne)).trans (Heap.get?_push_size h1 (by rw[<- hnw];rfl))
 have stay:∀b o,b≠e->h1.get? b=some o->((h1.push nw).update e (Obj.mapFields (·.setIfInBounds 1 (Value.ref h1.objs.size)))).get? b=some o:=λb o nb hb=>
  (Heap.get?_update_other _ _ (Ne.symm nb)).trans (Heap.get?_push_of_some _ hb)
 have rec_:∀b o,s.heap.get? b=some o->(∀ws,o.data≠.fields ws)->b≠e:=λb o hb nf z=>by
  rw[z] at hb;cases he.symm.trans hb;exact nf vs hd
 refine wpAny_setField e2 hd hsz (q _ ⟨λb o hb=>stay b o (λz=>by rw[z,hen] at hb;cases hb) (k1 b o hb),hl.of_keeps λb o hb nf=>?_,?_,λb o hb nf=>?_⟩ ?_)
 ·obtain⟨sl,z⟩:=hs.2.2 b o hb
  exact⟨_,stay b _ (rec_ b o hb nf) z,rfl⟩
 ·exact⟨_,_,h1.objs.size,_,_,e3,⟨Obj.cls_mapFields _ _,by rw[Array.getElem?_setIfInBounds_ne ↑5];exact h0⟩,d3,by simp[hsz],k1.fresh,tne,t3,dnw,by first|(simp;done)|(rcases hpl with rfl|⟨_,_,_,_,_,_,_,rfl⟩ <;> simp)⟩
 ·obtain⟨sl,z⟩:=hs.2.2 b o hb
  exact⟨sl,stay b _ (rec_ b o hb nf) z⟩
 ·intro o ws p r
  cases he.symm.trans p;cases hd.symm.trans r;exact⟨_,_,e3,d3,by rw[Array.getElem?_setIfInBounds_ne ↑5]⟩
theorem b6p{base:Heap}{l:List Env}{e:Addr}{cls a0 fl:Value}{Q:Unit->Shared->Prop}(hkb:base.StaysIn s.heap)(hl:s.heap.FunFrames base l)(ht:s.heap.TracedAtW base e cls a0 fl)(q:∀h',base.StaysIn h'->h'.FunFrames base l->h'.TracedW base e cls a0->s.heap.UpToSlots h'->K2 s.heap h' e->Q () { s with heap:=h' }):wpAny M A (setFlight (.ref e) none) Q E s:=by
 obtain⟨oe,vs,T,oT,ts,he,hc,hd,h1,nT,Te,hT,dT,h3⟩:=ht;have z3:3<ts.size:=(Array.getElem?_eq_some_iff.mp h3).1;have oth:∀b,b≠T->(s.heap.update T (Obj.mapFields (·.setIfInBounds 3 ((none:Option Addr).elim Value.none λf=>rawInt f)))).get? b=s.heap.get? b:=λb hb=>Heap.get?_update_other _ _ (Ne.symm hb)
 have rec_:∀b o,s.heap.get? b=some o->(∀ws,o.data≠.fields ws)->b≠T:=λb o hb nf z=>by
  rw[z] at hb;cases hT.symm.trans hb;exact nf ts dT
 unfold setFlight;refine wpAny_bind (wpAny_field he hd h1 ?_);rw[if_pos (show(Value.ref T != Value.none)=true by simp)]
 refine wpAny_setField hT dT z3 (q _ (λb o hb=>(oth b λz=>by rw[z,nT] at hb;cases hb).trans (hkb b o hb)) (hl.of_keeps λb o hb nf=>⟨o,(oth b (rec_ b o hb nf)).trans hb,rfl⟩) ?_ (λb o hb nf=>⟨o.slots,(oth b (rec_ b o hb nf)).trans hb⟩) (K2.same λo p=>(oth e (Ne.symm Te)).trans p))
 exact⟨oe,vs,T,_,_,(oth e (Ne.symm Te)).trans he,hc,hd,h1,nT,Te,Heap.get?_update_self _ hT (Obj.isFreed_of_fields (Obj.data_mapFields dT _)),Obj.data_mapFields dT _,by simp[z3]⟩
theorem d0t{base:Heap}{env:Env}{outer:List Env}{L e:Addr}{cls a0:Value}{Q:Unit->Shared->Prop}(hfr:A.frames=some (env::outer))(hf:env.frame=some L)(R:Heap.FlyingW base (env::outer) e cls a0 s.heap)(q:∀h',Heap.HeldW base (env::outer) e cls a0 L h'->s.heap.UpToSlots h'->K2 s.heap h' e->Q () { s with heap:=h' }):wpAny M A (noteFrame (.ref e) env) Q E s:=by
 obtain⟨hkb,hen,hl,oe,vs,T,oT,ts,he,⟨hc,h0⟩,hd,h1,nT,Te,hT,dT,h3⟩:=R;subst hc;unfold noteFrame;simp only[hf];refine wpAny_bind (wpAny_field he hd h1 ?_);rw[if_pos (show(Value.ref T != Value.none)=true by simp)]
 refine wpAny_bind (wpAny_field hT dT h3 ?_);rw[if_neg (show ¬ ((Value.none == rawInt L)=true) by simp[rawInt])]
 refine wpAny_bind (wpAny_setField hT dT (Array.getElem?_eq_some_iff.mp h3).1 ?_);have oth:∀b,b≠T->(s.heap.update T (Obj.mapFields (·.setIfInBounds 3 Value.none))).get? b=s.heap.get? b:=λb hb=>Heap.get?_update_other _ _ (Ne.symm hb)
 have rec_:∀b o,s.heap.get? b=some o->(∀ws,o.data≠.fields ws)->b≠T:=λb o hb nf z=>by
  rw[z] at hb;cases hT.symm.trans hb;exact nf ts dT
 refine c2d hfr (hl.of_keeps λb o hb nf=>⟨o,(oth b (rec_ b o hb nf)).trans hb,rfl⟩) hf ((oth e (Ne.symm Te)).trans he) (λb o hb=>(oth b λz=>by rw[z,nT] at hb;cases hb).trans (hkb b o hb)) hen hd (Array.getElem?_eq_some_iff.mp h1).1 h0 λh' N k=>?_
 obtain⟨x1,x2,x3,x4⟩:=N;exact q h' ⟨x1,hen,x2,x3⟩ (λb o hb nf=>x4 b o ((oth b (rec_ b o hb nf)).trans hb) nf) ((K2.same λo p=>(oth e (Ne.symm Te)).trans p).trans k)
theorem c5i{base:Heap}{l:List Env}{e L:Addr}{cls a0:Value}{Q:Unit->Shared->Prop}(R:Heap.HeldW base l e cls a0 L s.heap)(q:∀h',Heap.FlyingW base l e cls a0 h'->s.heap.UpToSlots h'->K2 s.heap h' e->Q () { s with heap:=h' }):wpAny M A (setFlight (.ref e) none) Q E s:=by
 obtain⟨a,b,c,d⟩:=R;exact b6p a c d λh' x1 x2 x3 x4 x5=>q h' ⟨x1,b,x2,x3⟩ x4 x5
theorem d0v{base:Heap}{env:Env}{outer:List Env}{L e:Addr}{cls a0:Value}{Q:Unit->Shared->Prop}(hfr:A.frames=some (env::outer))(hf:env.frame=some L)(R:Heap.FlyingW base (env::outer) e cls a0 s.heap)(q:∀h',Heap.FlyingW base outer e cls a0 h'->s.heap.UpToSlots h'->K2 s.heap h' e->Q () { s with heap:=h' }):wpAny M A (leaving env (.ref e)) Q E s:=by
 unfold leaving;refine wpAny_bind (d0t hfr hf R λh1 R1 u1 k1=>?_);refine c5i (s:={ s with heap:=h1 }) R1 λh2 R2 u2 k2=>?_
 obtain⟨a,b,⟨_,_,c⟩,d⟩:=R2;exact q h2 ⟨a,b,c,d⟩ (u1.trans u2) (k1.trans k2)
theorem d5o{base h:Heap}{env:Env}{outer:List Env}{L e:Addr}{cls:Value}{args:List Value}{Q:Unit->Shared->Prop}(hfr:A.frames=some (env::outer))(hf:env.frame=some L)(hkb:base.StaysIn h)(hl:h.FunFrames base (env::outer))(hx:Heap.MadeExcOf h s.heap e cls args)(q:∀h' t,Heap.FlyingW base outer e cls (.ref t) h'->s.heap.UpToSlots h'->NC h' e->Q () { s with heap:=h' }):wpAny M A (leaving env (.ref e)) Q E s:=by
 obtain⟨t,he,_,_⟩:=hx.there;have ne:base.get? e=none:=by
  cases z:base.get? e with
  | none=>rfl
  | some o=>have:=hkb e o z;rw[hx.new] at this;cases this
 unfold leaving noteFrame;simp only[hf];refine wpAny_bind (wpAny_bind (wpAny_field he rfl (x:=.none) rfl ?_));rw[if_neg ↑5];refine c2d (a0:=.ref t) hfr (hl.of_keeps λb o hb _=>⟨o,hx.keeps b o hb,rfl⟩) hf he (λb o hb=>hx.keeps b o (hkb b o hb)) ne rfl (by show 1<6;decide) rfl λh1 N k1=>?_
 obtain⟨x1,x2,x3,x4⟩:=N;refine b6p (s:={ s with heap:=h1 }) x1 x2 x3 λh2 y1 y2 y3 y4 k2=>?_
 obtain⟨_,_,y2⟩:=y2;exact q h2 t ⟨y1,ne,y2,y3⟩ (Heap.UpToSlots.trans x4 y4) (NC.on ⟨_,_,he,rfl,rfl⟩ (k1.trans k2))
end
end L2
namespace L2
open PySem PySem.Spec PyProof.Rows
theorem a3w{P:Program}{w:World}{H:Hp}{h h':Heap}(x:HOk P w H h)(k:∀b o u,H b=some o->h.get? b=some u->h'.get? b=some u):HOk P w H h' :=
 λb u e=>(x b u e).stay (λc v hc q=>by
  rcases hc with z|z
  ·subst z;exact k _ _ _ e q
  ·exact k _ _ _ z q) (λ_ q=>q) λ_ _ q=>q
structure b9j(B:Heap)(l:List Env)(H H':Hp)(h:Heap):Prop where
 tr:∀b o,H' b=some o->∃ob,B.get? b=some ob
 un:∀b o,h.get? b=some o->H b=none->b ∉ frs l->B.get? b=some o
 th:∀b o,h.get? b=some o->b ∉ frs l->∃ob,B.get? b=some ob
structure Fly(P:Program)(w:World)(l:List Env)(H H':Hp)(s s':Shared)(a:Addr)(C:Value):Prop where
 os:s'.os=s.os
 bare:AllBare s'.gens
 un:Un (frs l) [] H H' s.heap s'.heap
 hok:HOk P w H' s'.heap
 fl:∃(B:Heap)(a0:Value),Heap.FlyingW B l a C a0 s'.heap/\b9j B l H H' s.heap
def CXK(P:Program)(w:World):CXT:=λouter H s E e s'=>∃(a:Addr)(C:Value)(H':Hp),e=.ref a/\Fly P w outer H H' s s' a C/\∃o,(o=none->NC s'.heap a)/\E C o H'
theorem c9x{l:List Env}{H H':Hp}{h h' h'' B:Heap}{a:Addr}{C a0:Value}(u:Un (frs l) [] H H' h h')(fl:Heap.FlyingW B l a C a0 h')(k:b9j B l H H' h)(st:B.StaysIn h'')(up:h'.UpToSlots h''):Un (frs l) [] H H' h h'' where
 keep:=λb o q n hb _=>st b o (k.un b o q n hb)
 slot:=λb o q n hb hx=>by
  obtain⟨sl,e1⟩:=u.slot b o q n hb hx;obtain⟨_,o',ho',hd⟩:=fl.2.2.1.mem hb;rw[e1] at ho';cases ho';obtain⟨sl',e2⟩:=up b _ e1 hd;exact⟨sl',e2⟩
 free:=u.free
 there:=λb o q hx=>by
  by_cases hb:b∈frs l
  ·obtain⟨_,o',ho',hd⟩:=fl.2.2.1.mem hb
   obtain⟨sl',e2⟩:=up b _ ho' hd;exact⟨_,e2⟩
  ·obtain⟨ob,e⟩:=k.th b o q hb
   exact⟨ob,st b ob e⟩
 tups:=u.tups
 frzs:=u.frzs
 tbls:=u.tbls
theorem c5n{P:Program}{w:World}{l:List Env}{H H':Hp}{h h' h'' B:Heap}{a:Addr}{C a0:Value}(x:HOk P w H' h')(fl:Heap.FlyingW B l a C a0 h')(k:b9j B l H H' h)(st:B.StaysIn h''):HOk P w H' h'' :=
 a3w x λb o u e q=>by
  obtain⟨ob,e1⟩:=k.tr b o e;have e2:=fl.1 b ob e1;rw[q] at e2;cases e2;exact st b _ e1
section
variable{X:Cx}{pins:List (Addr×Obj)}{σ:St}{H H':Hp}{s:Shared}{h' h'' B:Heap}{a:Addr}{C a0:Value}
theorem Inv.left(I:Inv X pins σ H s)(hex:X.ex=[])(hst:X.stack=X.env::X.outer)(u:Un (frs X.stack) [] H H' s.heap h')(fl:Heap.FlyingW B X.stack a C a0 h')(k:b9j B X.stack H H' s.heap)(st:B.StaysIn h'')(up:h'.UpToSlots h''):Un X.fs [] X.H₀ H' X.s₀.heap h''/\b9j B X.outer X.H₀ H' X.s₀.heap:=by
 have u2:=c9x u fl k st up;have nx:∀b:Addr,b ∉ X.ex:=λb z=>by rw[hex] at z;cases z
 have sub:∀b o,X.s₀.heap.get? b=some o->b ∉ X.fs->b ∉ frs X.stack:=λb o e hb z=>by
  rcases List.mem_cons.mp (I.stkSub b z) with y|y
  ·exact absurd (Nat.lt_of_lt_of_le (Heap.lt_size e) I.ok.above) (by rw[y];exact Nat.lt_irrefl _)
  ·exact hb y
 have infs:∀b,b∈X.fs->b∈frs X.stack:=λb hb=>by
  rw[hst];obtain⟨env,he,hf⟩:=List.mem_filterMap.mp hb;exact List.mem_filterMap.mpr ⟨env,List.mem_cons_of_mem _ he,hf⟩
 refine⟨⟨λb o q n hb _=>?_,λb o q n hb _=>?_,λb o q n _=>?_,λb o q _=>?_,λb xs q=>u2.tups b xs (I.base.tups b xs q),λb o xs q=>u2.frzs b o xs (I.base.frzs b o xs q),λb ps q=>?_⟩,⟨k.tr,λb o q n hb=>?_,λb o q hb=>?_⟩⟩
 ·exact u2.keep b o (I.base.keep b o q n hb (nx b)) (I.base.free b o q n (nx b)) (sub b o q hb) (by simp)
 ·obtain⟨sl,e1⟩:=I.base.slot b o q n hb (nx b)
  obtain⟨sl',e2⟩:=u2.slot b _ e1 (I.base.free b o q n (nx b)) (infs b hb) (by simp)
  exact⟨sl',e2⟩
 ·obtain⟨o',e1⟩:=I.base.there b o q (nx b)
  exact u2.free b o' e1 (I.base.free b o q n (nx b)) (by simp)
 ·obtain⟨o',e1⟩:=I.base.there b o q (nx b)
  exact u2.there b o' e1 (by simp)
 ·obtain⟨m1,e1⟩:=I.base.tbls b ps q
  obtain⟨m2,e2⟩:=u2.tbls b _ e1;exact⟨m1++m2,by rw[e2,Array.append_assoc]⟩
 ·exact k.un b o (I.base.keep b o q n hb (nx b)) (I.base.free b o q n (nx b)) (sub b o q hb)
 ·obtain⟨o',e1⟩:=I.base.there b o q (nx b)
  exact k.th b o' e1 (sub b o q hb)
theorem Inv.keeps0(I:Inv X pins σ H s):b9j (PySem.W.hideAll s.heap (frs X.stack)) X.stack H H s.heap where
 tr:=λb o e=>by
  obtain⟨ob,q⟩:=Option.isSome_iff_exists.mp (show(s.heap.get? b).isSome=true by
   have:=I.hok.lt e;cases z:s.heap.get? b with
   | some _=>rfl
   | none=>exact absurd z (by
     obtain⟨u,hu⟩:∃u,s.heap.get? b=some u:=by
      have x:=I.hok b o e;cases o with
      | lst xs=>obtain⟨_,_,_,_,q⟩:=(show _/\_ from x);exact⟨_,q⟩
      | tup xs=>obtain⟨_,_,_,o,q,_⟩:=(show _/\_ from x);exact⟨_,q⟩
      | dK kvs=>obtain⟨_,_,_,_,o,_,_,q,_⟩:=(show _/\_ from x);exact⟨_,q⟩
      | dT kvs=>obtain⟨_,_,_,_,o,_,_,q,_⟩:=(show _/\_ from x);exact⟨_,q⟩
      | set S n=>obtain⟨o,_,_,_,q,_⟩:=(show Heap.SetOf _ _ _ _ _ from x);exact⟨_,q⟩
      | ins C dx fs=>obtain⟨_,_,_,q,_⟩:=(show _/\_ from x);exact⟨_,q⟩
      | own y=>obtain⟨o,q⟩:=(show ∃o,_ from x);exact⟨_,q⟩
      | xd fs=>obtain⟨mA,n,_⟩:=(show ∃mA,_ from x);obtain⟨o,_,_,q,_⟩:=n;exact⟨_,q⟩
      | rng lo hi=>obtain⟨_,_,_,q⟩:=(show ∃_ _ _,_ from x);exact⟨_,q⟩
      | frz o u=>obtain⟨q,_⟩:=(show _/\_ from x);exact⟨_,q⟩
      | tbl ps=>exact⟨_,x⟩
      | met f y=>exact⟨_,x⟩
      | ext φ=>obtain⟨_,⟨o,q⟩,_⟩:=(show _/\_ from x);exact⟨_,q⟩
     rw[hu];simp))
  refine⟨ob,PySem.W.hideAll_get _ q λz=>?_⟩;rw[I.stkFree b z] at e;cases e
 un:=λb o q _ hb=>PySem.W.hideAll_get _ q hb
 th:=λb o q hb=>⟨o,PySem.W.hideAll_get _ q hb⟩
end
section
variable{P:Program}{w:World}{K:Frag}{mg:Str->Option Value}{base:Heap}{N:List Str}{qual:Str}{scope:Scope}{f:Addr}{cd:Value}{A:Around}{outer:List Env}{s₀:Shared}{H₀:Hp}{E₀:XK}
theorem c9k{pins:List (Addr×Obj)}{σ:St}{H:Hp}{s:Shared}{h'':Heap}{e:Addr}{C a0:Value}(I:Inv (a8f (CXK P w) P w K mg base N qual scope f cd A outer s₀ H₀ E₀) pins σ H s)(x1:Heap.FlyingW (PySem.W.hideAll s.heap (frs (a8f (CXK P w) P w K mg base N qual scope f cd A outer s₀ H₀ E₀).stack)) outer e C a0 h'')(up:s.heap.UpToSlots h''):Fly P w outer H₀ H s₀ { s with heap:=h'' } e C:=by
 have k0:=I.keeps0;have FW:∀b∈frs (a8f (CXK P w) P w K mg base N qual scope f cd A outer s₀ H₀ E₀).stack,∃o,s.heap.get? b=some o/\∀vs,o.data≠.fields vs:=λb hb=>(I.stack.mem hb).2;have nx:∀b:Addr,b ∉ (a8f (CXK P w) P w K mg base N qual scope f cd A outer s₀ H₀ E₀).ex:=λb z=>by cases z
 have sub:∀b o,s₀.heap.get? b=some o->b ∉ frs outer->b ∉ frs (a8f (CXK P w) P w K mg base N qual scope f cd A outer s₀ H₀ E₀).stack:=λb o e' hb z=>by
  rcases List.mem_cons.mp (I.stkSub b z) with y|y
  ·exact absurd (Nat.lt_of_lt_of_le (Heap.lt_size e') I.ok.above) (by rw[y];exact Nat.lt_irrefl _)
  ·exact hb y
 have infs:∀b,b∈frs outer->b∈frs (a8f (CXK P w) P w K mg base N qual scope f cd A outer s₀ H₀ E₀).stack:=λb hb=>by
  obtain⟨env,he,hf⟩:=List.mem_filterMap.mp hb;exact List.mem_filterMap.mpr ⟨env,List.mem_cons_of_mem _ he,hf⟩
 refine⟨I.os,I.bare,⟨λb o z n hb _=>?_,λb o z n hb _=>?_,λb o z n _=>I.base.free b o z n (nx b),λb o z _=>?_,I.base.tups,I.base.frzs,I.base.tbls⟩,?_,⟨_,_,x1,⟨k0.tr,λb o z n hb=>?_,λb o z hb=>?_⟩⟩⟩
 ·exact x1.1 b o (k0.un b o (I.base.keep b o z n hb (nx b)) (I.base.free b o z n (nx b)) (sub b o z hb))
 ·obtain⟨sl,e1⟩:=I.base.slot b o z n hb (nx b)
  obtain⟨o',e2,hd⟩:=FW b (infs b hb);rw[e1] at e2;cases e2;obtain⟨sl',e3⟩:=up b _ e1 hd;exact⟨sl',e3⟩
 ·obtain⟨o',e1⟩:=I.base.there b o z (nx b)
  by_cases hb:b∈frs outer
  ·obtain⟨o'',e2,hd⟩:=FW b (infs b hb)
   obtain⟨sl',e3⟩:=up b _ e2 hd;exact⟨_,e3⟩
  ·obtain⟨ob,e2⟩:=k0.th b o' e1 (sub b o z hb)
   exact⟨ob,x1.1 b ob e2⟩
 ·refine a3w I.hok λb o u z y=>?_
  obtain⟨ob,e1⟩:=k0.tr b o z;have e2:=PySem.W.of_hideAll _ e1;rw[y] at e2;cases e2;exact x1.1 b _ e1
 ·exact k0.un b o (I.base.keep b o z n hb (nx b)) (I.base.free b o z n (nx b)) (sub b o z hb)
 ·obtain⟨o',e1⟩:=I.base.there b o z (nx b)
  exact k0.th b o' e1 (sub b o z hb)
theorem c1z{pins:List (Addr×Obj)}{σ:St}{H:Hp}{s:Shared}(I:Inv (a8f (CXK P w) P w K mg base N qual scope f cd A outer s₀ H₀ E₀) pins σ H s):s.heap.FunFrames (PySem.W.hideAll s.heap (frs (a8f (CXK P w) P w K mg base N qual scope f cd A outer s₀ H₀ E₀).stack)) (a8f (CXK P w) P w K mg base N qual scope f cd A outer s₀ H₀ E₀).stack :=
 PySem.W.funFrames_hide I.stack λenv he b hb=>List.mem_filterMap.mpr ⟨env,he,hb⟩
theorem b7o{pins:List (Addr×Obj)}{σ:St}{H:Hp}{s:Shared}{h':Heap}{e:Addr}{C:Value}{vs:List Value}(I:Inv (a8f (CXK P w) P w K mg base N qual scope f cd A outer s₀ H₀ E₀) pins σ H s)(hx:Heap.MadeExcOf s.heap h' e C vs)(q:E₀ C none H):(a8f (CXK P w) P w K mg base N qual scope f cd A outer s₀ H₀ E₀).xe (.ref e) { s with heap:=h' }:=by
 refine d5o (base:=PySem.W.hideAll s.heap (frs (a8f (CXK P w) P w K mg base N qual scope f cd A outer s₀ H₀ E₀).stack)) (h:=s.heap) I.ok.frames rfl (λb o z=>PySem.W.of_hideAll _ z) (c1z I) hx λh'' t x1 x4 nc=>?_;exact⟨e,C,H,rfl,c9k (s:=s) I x1 ((Heap.UpToSlots.of_keeps hx.keeps).trans x4),none,λ_=>nc,q⟩
theorem k7:b5e (CXK P w) (a8f (CXK P w) P w K mg base N qual scope f cd A outer s₀ H₀ E₀) E₀:=by
 intro pins σ H s e s' I h;obtain⟨a,C,H',rfl,F,o,nc,q⟩:=h;obtain⟨B,a0,fl,k⟩:=F.fl;refine d0v (base:=B) I.ok.frames rfl fl λh'' x1 x2 x3=>?_;obtain⟨u,k'⟩:=I.left rfl rfl F.un fl k x1.1 x2;exact⟨a,C,H',rfl,⟨F.os.trans I.os,F.bare,u,c5n F.hok fl k x1.1,⟨B,a0,x1,k'⟩⟩,o,λz=>(nc z).on x3,q⟩
theorem a5x:PassesOwn (model (a8f (CXK P w) P w K mg base N qual scope f cd A outer s₀ H₀ E₀).prog (a8f (CXK P w) P w K mg base N qual scope f cd A outer s₀ H₀ E₀).w) (a8f (CXK P w) P w K mg base N qual scope f cd A outer s₀ H₀ E₀).A (a8f (CXK P w) P w K mg base N qual scope f cd A outer s₀ H₀ E₀).env (a8f (CXK P w) P w K mg base N qual scope f cd A outer s₀ H₀ E₀).xe:=PassesOwn.leaving
end
end L2
namespace L2
open PySem PySem.Spec PyProof.Rows
theorem Cx.Ok.re{X:Cx}{A':Around}{calm':Bool}{pn':List (Addr×Obj)}{xe':Value->Shared->Prop}(ok:X.Ok)(hA:A'.frames=X.A.frames)(hc:calm'=true->A'.handled=none):({ X with A:=A',calm:=calm',pn:=pn',xe:=xe' }:Cx).Ok :=
 ⟨ok.mod,ok.kind,ok.glob,ok.blt,ok.above,ok.inj,ok.has,ok.cab,hc,hA.trans ok.frames,ok.stk,ok.exf,ok.bs,ok.bsz,ok.noex,ok.exfs,ok.funs,ok.frf⟩
theorem Inv.re{X:Cx}{pins pins':List (Addr×Obj)}{σ:St}{H:Hp}{s:Shared}{A':Around}{calm':Bool}{pn':List (Addr×Obj)}{xe':Value->Shared->Prop}(I:Inv X pins σ H s)(hA:A'.frames=X.A.frames)(hc:calm'=true->A'.handled=none)(hp:∀p∈pn'++pins',p∈X.pn++pins):Inv ({ X with A:=A',calm:=calm',pn:=pn',xe:=xe' }:Cx) pins' σ H s :=
 ⟨I.ok.re hA hc,I.os,I.bare,I.base,I.loc,I.cell,I.free,I.freeC,λp h=>I.pin p (hp p h),I.hok,I.len⟩
abbrev Cx.tryX(X:Cx)(pn':List (Addr×Obj))(E:Value->Shared->Prop):Cx:={ X with pn:=pn',xe:=E }
abbrev Cx.inH(X:Cx)(pn':List (Addr×Obj))(a:Addr):Cx:={ X with A:=X.A.mark (some (.ref a)),calm:=false,pn:=pn',xe:=λ_ _=>False }
theorem c6b{K:Frag}{h:Heap}{C:Addr}{bmB:List Value}{newId:String}(X:K.In h)(q:excIn K C bmB newId=true):
  ∃bm N nm qn bs hdct sn sub ab col dd k0 k1 k2 k3 k5 mN,h.get? C=some (excClassObj nm qn C N bs bm hdct sn sub ab col dd k0 k1 k2 k3 k5 newId)/\h.Ns N mN/\mN "__init__" = none/\OwnTail h bmB bm:=by
 unfold excIn at q;split at q
 case h_2=>cases q
 case h_1 dd cd sl ho=>
  split at q
  case h_2=>cases q
  case h_1 C' bm k0 k1 k2 k3 n k5 hm hs=>
   simp only[Bool.and_eq_true,beq_iff_eq,Bool.not_eq_true'] at q;obtain⟨⟨⟨⟨⟨q1,q2⟩,q3⟩,q4⟩,q5⟩,q6⟩:=q;obtain⟨nm,bs,mro,ns,qn,hd,sn,sub,ab,col,del⟩:=cd;dsimp only at hm q3 q5 q6;subst q1 q2 hm q3;obtain⟨l⟩:=sl;dsimp only at hs;subst hs;exact⟨bm,ns,nm,qn,bs,hd,sn,sub,ab,col,dd,k0,k1,k2,k3,k5,_,X _ _ ho,.of_isNs (PySem.W.isNs_of_in X q5),PySem.W.nsMap_none_of_in X q5 q6,PySem.W.tail_of_in X q4⟩
abbrev c8r:List Value:=[.type "ValueError",.type "Exception",.type "BaseException",.type "object"]
def d6p(K:Frag)(C:Addr):Prop:=excIn K C c8r "ValueError.__new__" = true
def c0p(X:Cx)(C:Addr)(E:XK):Prop:=∀(pins:List (Addr×Obj))(σ:St)(H:Hp)(s:Shared)(h':Heap)(e:Addr)(vs:List Value),Inv X pins σ H s->Heap.MadeExcOf s.heap h' e (.ref C) vs->E (.ref C) none H->X.xe (.ref e) { s with heap:=h' }
def c0v(C:Addr)(E:XK)(t:TA):TS:=λ_ σ H=>t σ H λvs H1=>vs.length<=sizeLine/\E (.ref C) none H1
section
variable{X:Cx}
theorem c7i{x:Str}{C:Addr}{E:XK}{np cpos pos:Pos}{e₀:Expr}{rest:List Expr}{t:TA}(hc:X.calm=true)(hg:Gl X x)(hm:X.mg x=some (.ref C))(hC:d6p X.K C)(hx:c0p X C E)(ha:PA X (e₀::rest) t)(hd:(x == ("__debug__":Str))=false:=by decide)(he:starEach (e₀::rest) X.env=(false,eval e₀ X.env)::starEach rest X.env:=by rfl)(hpl:(backTo cpos (starEach rest X.env)).any (·.1)=false:=by rfl):
  PS X (.Raise (some (.Call (.Name x np) (e₀::rest) [] cpos)) none pos) (c0v C E t):=by
 intro pins s σ H D I h;obtain⟨bm,N,nm,qn,bs,hdct,sn,sub,ab,col,dd,k0,k1,k2,k3,k5,mN,gC,gN,gi,gT⟩:=c6b I.ok.mod.kin hC;refine wpAny_Raise_call_subT (C:=C) (nm:=nm) (q:=qn) (N:=N) (bs:=bs) (bm:=bm) (hdct:=hdct) (sn:=sn) (sub:=sub) (ab:=ab) (col:=col) (dd:=dd) (k0:=k0) (k1:=k1) (k2:=k2) (k3:=k3) (k5:=k5)
  PySem.F.excBase_ValueError (mN:=mN) (gT.hasType ↑5) (I.ok.hd hc) (by rw[he];show(false || (backTo cpos (starEach rest X.env)).any (·.1))=false;rw[hpl];rfl) gi (a7m I hg hm ⟨rfl,?_⟩ hd)
 have hp:=ha cpos pins s σ H _ I h;rw[he] at hp ⊢;refine Calls.evalArgs_plain (thn hp λus s1 z0_=>?_);obtain⟨vs,H1,I1,r,z,q⟩:=z0_;exact⟨rfl,by rw[<- r.length];exact z,I1.bk _ _ gC,gN.keeps I1.bk,gT.keeps I1.bk,λh' e hm'=>hx pins σ H1 s1 h' e us I1 hm' q⟩
end
def b0r(X:Cx)(J:St->XK):Prop:=∀(pins:List (Addr×Obj))(σ:St)(H:Hp)(s:Shared)(e:Value)(s':Shared),Inv X pins σ H s->CXK X.prog X.w X.stack H s (J σ) e s'->X.xe e s'
def c3x(sp:Sp)(J:St->XK)(t:TA):TE:=λσ H Q=>t σ H λvs H1=>sp vs H1 Q (J σ)
section
variable{X:Cx}{k:Nat}{f:Addr}{fd:FuncData}{ps:List Str}{sp:Sp}{J:St->XK}{x:Str}{p pos:Pos}{e:Expr}{es:List Expr}{t:TA}
theorem c7l(F:c6q X.prog X.w X.K X.mg X.base (CXK X.prog X.w) k f fd ps sp)(hr:Room k X.A)(hg:Gl X x)(hm:X.mg x=some (.ref f))(hk:keepIn X.K (.ref f)=true)(hb:Binds X.K fd ps [])(hx:b0r X J)(ha:PA X (e::es) t)(hdb:(x == ("__debug__":Str))=false:=by decide)(he:starEach (e::es) X.env=(false,eval e X.env)::starEach es X.env:=by rfl)(hpl:(backTo pos (starEach es X.env)).any (·.1)=false:=by rfl):
  PE X (.Call (.Name x p) (e::es) [] pos) (c3x sp J t):=by
 intro pins s σ H Q I h;refine wpAny_Call_Name_kw (a7m I hg hm ?_ hdb);refine callWith_K (h₀:=X.base) I.ok.mod.kin hk (thn (ha pos pins s σ H _ I h) λus s1 z0_=>?_) he hpl;obtain⟨vs,H1,I1,r,q⟩:=z0_;refine⟨I1.kIn,?_⟩;have hl:us.length=ps.length:=by rw[<- r.length];exact F.len _ _ _ _ q
 have hbd:=hb s1 us I1.kIn (by rw[List.append_nil];exact hl)
 rw[List.append_nil] at hbd;refine wpAny_call (codeAny_mono (F.run X.A X.stack s1 H1 ⟨us,[]⟩ us vs Q (J σ) hr I1.env0 hbd r q) λr' s' hq=>?_);cases r' with
 | error e=>exact hx pins σ H1 s1 e s' I1 hq
 | ok fl=>
  cases fl with
  | ret u=>exact I1.after hq
  | next=>exact False.elim hq
  | brk=>exact False.elim hq
  | cont=>exact False.elim hq
end
def c3h(a:Addr)(C:Value):HO:=.ext λh=>∃o,h.get? a=some o/\o.cls=C
theorem d2f{fs:List Addr}{H H':Hp}{h h':Heap}{a:Addr}{o:HO}(u:Un fs [] H H' h h')(hn:h.get? a=none)(hf:H' a=none):Un fs [] H (upd H' a o) h h' where
 keep:=u.keep
 slot:=u.slot
 free:=λb ob q n hx=>by
  have:b≠a:=λz=>by rw[z,hn] at q;cases q
  rw[j4 this];exact u.free b ob q n hx
 there:=u.there
 tups:=λb xs q=>by
  have z:=u.tups b xs q;rw[j4 (g9 z hf)];exact z
 frzs:=λb ob xs q=>by
  have z:=u.frzs b ob xs q;rw[j4 (g9 z hf)];exact z
 tbls:=λb ps q=>by
  obtain⟨m,z⟩:=u.tbls b ps q;refine⟨m,?_⟩;rw[j4 (g9 z hf)];exact z
theorem d1b{P:Program}{w:World}{H:Hp}{h:Heap}{a:Addr}{C:Value}(x:HOk P w H h)(hf:H a=none)(he:∃o,h.get? a=some o/\o.cls=C):HOk P w (upd H a (c3h a C)) h:=λb u e=>by
 by_cases hb:b=a
 ·subst hb
  rw[d8] at e;cases e;obtain⟨o,h1,h2⟩:=he;exact⟨⟨o,h1,h2⟩,⟨o,h1⟩,λ_ _ ⟨o,q1,q2⟩ k=>⟨o,k o q1,q2⟩⟩
 ·rw[j4 hb] at e
  exact(x b u e).stay (λc v _ q=>q) (λc q=>by rw[j4 (g9 q hf)];exact q) λc xs q=>by rw[j4 (g9 q hf)];exact q
theorem Inv.unname{X:Cx}{pins:List (Addr×Obj)}{σ:St}{H:Hp}{s:Shared}{i t:Nat}{x:Str}{m:Str->Option Value}{v:Option Value}{h':Heap}(I:Inv X pins σ H s)(hN:X.N.Nodup)(hi:X.N[i]?=some x)(hl:∀(j:Nat) (y:Str) (v:V),X.N[j]?=some y->σ[j]?=some (some v)->Vis X.env.scope y->∃u,RelV v u/\d7q X.env s.heap m y u)(hn':h'.Ns X.env.locals (λy=>if y=x then v else m y))(hs:Heap.SameBut X.env.locals s.heap h'):Inv X pins (σ.set i none) H { s with heap:=h',toks:=t }:=by
 have ne:∀b o,X.s₀.heap.get? b=some o->b≠X.env.locals:=λb o e=>Nat.ne_of_lt (Nat.lt_of_lt_of_le (Heap.lt_size e) I.ok.above);refine⟨I.ok,I.os,I.bare,⟨λb o e n hb hx=>?_,λb o e n hb hx=>?_,I.base.free,λb o e hx=>?_,I.base.tups,I.base.frzs,I.base.tbls⟩,⟨_,hn',λj y v' e1 e2 e3=>?_⟩,λy c e=>?_,I.free,I.freeC,λp hp=>?_,?_,by simpa using I.len⟩
 ·exact(hs.2 b (ne b o e)).trans (I.base.keep b o e n hb hx)
 ·obtain⟨sl,e1⟩:=I.base.slot b o e n hb hx
  exact⟨sl,(hs.2 b (ne b o e)).trans e1⟩
 ·obtain⟨o',e1⟩:=I.base.there b o e hx
  exact⟨o',(hs.2 b (ne b o e)).trans e1⟩
 ·have hj:j≠i:=λz=>by
   subst z;by_cases hlt:j<σ.length
   ·rw[List.getElem?_set_self hlt] at e2;cases e2
   ·rw[List.getElem?_eq_none_iff.mpr (by rw[List.length_set];lia)] at e2;cases e2
  rw[List.getElem?_set_ne (Ne.symm hj)] at e2;obtain⟨u',r',q⟩:=hl j y v' e1 e2 e3;refine⟨u',r',?_⟩;rcases q with ⟨k,e⟩|⟨k,c,e,z⟩
  ·refine .inl ⟨k,?_⟩
   have:y≠x:=λe=>hj (b6l hN e1 (e ▸ hi));simp[this,e]
  ·exact .inr ⟨k,c,e,z.sameBut hs (I.cne y c e)⟩
 ·obtain⟨w',z⟩:=I.cell y c e
  exact⟨w',z.sameBut hs (I.cne y c e)⟩
 ·obtain⟨e,n,ne,nf,d⟩:=I.pin p hp
  exact⟨(hs.2 p.1 ne).trans e,n,ne,nf,d⟩
 ·exact a3w I.hok λb o u e q=>(hs.2 b (λz=>by rw[z,I.free] at e;cases e)).trans q
def Ends.unset(D:Ends)(i:Nat):Ends:=⟨λσ H=>D.nx (σ.set i none) H,D.rt,λσ H=>D.bk (σ.set i none) H,λσ H=>D.ct (σ.set i none) H⟩
def c8t(K:Frag)(c:Addr)(i:Nat)(tb:(St->XK)->TS)(th:TS):TS:=λD σ H=>
 tb (λσ1 C _ H'=>exmOne K C (.ref c)=some true/\∀a,H' a=none->th (D.unset i) (σ1.set i (some (.ref a))) (upd H' a (c3h a C))) D σ H
section
variable{X:Cx}{body suite:List Stmt}{b₀:Stmt}{x n:Str}{np hpos pos:Pos}{c:Addr}{i:Nat}{tb:(St->XK)->TS}{th:TS}
theorem Fly.caught{pins:List (Addr×Obj)}{σ:St}{H H':Hp}{s s':Shared}{a:Addr}{C:Value}{B h'':Heap}{a0:Value}(I:Inv X pins σ H s)(F:Fly X.prog X.w X.stack H H' s s' a C)(fl:Heap.FlyingW B X.stack a C a0 s'.heap)(k:b9j B X.stack H H' s.heap)(st:B.StaysIn h'')(up:s'.heap.UpToSlots h''):Inv X pins σ H' { s' with heap:=h'' } :=
 I.call' (s':={ s' with heap:=h'' }) (ch:=[]) F.os (c9x F.un fl k st up) (c5n F.hok fl k st) F.bare (λ_ z=>nomatch z)
theorem Fly.caughtAs{pins:List (Addr×Obj)}{σ:St}{H H':Hp}{s s':Shared}{a:Addr}{C:Value}{B h'':Heap}{a0:Value}(I:Inv X pins σ H s)(F:Fly X.prog X.w X.stack H H' s s' a C)(fl:Heap.FlyingW B X.stack a C a0 s'.heap)(k:b9j B X.stack H H' s.heap)(fl2:Heap.FlyingW B X.stack a C a0 h'')(up:s'.heap.UpToSlots h''):H' a=none/\Inv X pins σ (upd H' a (c3h a C)) { s' with heap:=h'' }:=by
 have hn:H' a=none:=by
  cases q:H' a with
  | none=>rfl
  | some o=>
   obtain⟨ob,e⟩:=k.tr a o q;rw[fl.2.1] at e;cases e
 have ha:s.heap.get? a=none:=by
  cases q:s.heap.get? a with
  | none=>rfl
  | some o=>
   by_cases hb:a∈frs X.stack
   ·obtain⟨_,o',h1,h2⟩:=fl.2.2.1.mem hb
    obtain⟨oe,vs,h3,_,h4,_⟩:=fl.first;rw[h1] at h3;cases h3;exact absurd h4 (h2 vs)
   ·obtain⟨ob,e⟩:=k.th a o q hb
    rw[fl.2.1] at e;cases e
 refine⟨hn,I.call' (s':={ s' with heap:=h'' }) (ch:=[]) F.os (d2f (c9x F.un fl k fl2.1 up) ha hn) (d1b (c5n F.hok fl k fl2.1) hn fl2.there) F.bare (λ_ z=>nomatch z)⟩
theorem c7h(hcal:X.calm=true)(hst:X.stack=X.env::X.outer)(hfr:X.env.frame=some X.env.locals)(hg:Gl X x)(hm:X.mg x=some (.ref c))(hN:X.N.Nodup)(hi:X.N[i]?=some n)(hk:X.env.scope.names.lookup n=some .local)(hb:∀pn' E J,b0r (X.tryX pn' E) J->PSs (X.tryX pn' E) body (tb J))(hh:∀pn' a,PSs (X.inH pn' a) (b₀::suite) th)(hd:(x == ("__debug__":Str))=false:=by decide):
  PS X (.Try body [.ExceptHandler (some (.Name x np)) (some n) (b₀::suite) hpos] [] [] pos) (c8t X.K c i tb th):=by
 intro pins s σ H D I h;have hcl:X.calm=true->X.A.handled=none:=I.ok.hd;have hp:b0r (X.tryX (X.pn++pins) (λe s'=>∃pins' σ1 H1 s1,Inv (X.tryX (X.pn++pins) X.xe) pins' σ1 H1 s1/\CXK X.prog X.w X.stack H1 s1 ((λσ1 C _ H'=>exmOne X.K C (.ref c)=some true/\∀a,H' a=none->th (D.unset i) (σ1.set i (some (.ref a))) (upd H' a (c3h a C)):St->XK) σ1) e s'))
   (λσ1 C _ H'=>exmOne X.K C (.ref c)=some true/\∀a,H' a=none->th (D.unset i) (σ1.set i (some (.ref a))) (upd H' a (c3h a C))) :=
  λpins' σ1 H1 s1 e s' I1 q=>⟨pins',σ1,H1,s1,I1.re rfl hcl (λp z=>z),q⟩
 have back:∀{A':Around}{c':Bool}{xe':Value->Shared->Prop}{pins':List (Addr×Obj)}{σ1:St}{H1:Hp}{s1:Shared},X.A.frames=A'.frames->Inv ({ X with A:=A',calm:=c',pn:=X.pn++pins,xe:=xe' }:Cx) pins' σ1 H1 s1->Inv X pins σ1 H1 s1 :=
  λhA I1=>I1.re (pn':=X.pn) (calm':=X.calm) (A':=X.A) (xe':=X.xe) hA hcl (λp z=>List.mem_append_left _ z)
 refine wpAny_Try_except (wpAny_mono (hb _ _ _ hp [] s σ H D (I.re rfl hcl (λp z=>by simpa using z)) h) (λf s1 q=>?_) λe s1 q=>?_)
 ·cases f with
  | next=>obtain⟨σ',H',I',q⟩:=q;exact wpAny_execs_nil ⟨σ',H',back rfl I',q⟩
  | brk=>obtain⟨σ',H',I',q⟩:=q;exact⟨σ',H',back rfl I',q⟩
  | cont=>obtain⟨σ',H',I',q⟩:=q;exact⟨σ',H',back rfl I',q⟩
  | ret u=>obtain⟨v,σ',H',I',r,q⟩:=q;exact⟨v,σ',H',back rfl I',r,q⟩
 ·obtain⟨pins',σ1,H1,s2,I1,a,C,H',rfl,F,_,_,hx,hq⟩:=q
  have I1:Inv X pins σ1 H1 s2:=back rfl I1;obtain⟨B,a0,fl,k⟩:=F.fl;have hs:X.A.frames=some (X.env::X.outer):=by rw[<- hst];exact I1.ok.frames
  refine wpAny_looks_onW (base:=B) hs hfr (by rw[<- hst];exact fl) λh4 hh4 up4=>?_
  refine wpAny_landsW hh4 λh5 fl5 up5=>?_;have fl5':Heap.FlyingW B X.stack a C a0 h5:=by rw[hst];exact fl5
  have up:s1.heap.UpToSlots h5:=up4.trans up5;have I5:=F.caught I1 fl k fl5'.1 up;refine wpAny_handleBy_cons (codeAny_handlers_test ?_) (by intro q;cases q)
  have I5h:Inv (X.inH (X.pn++pins) a) [] σ1 H' { s1 with heap:=h5 }:=I5.re rfl (λz=>nomatch z) (λp z=>by simpa using z)
  refine a7m (X:=X.inH (X.pn++pins) a) I5h hg hm ?_ hd;have LT:PySem.W.Looks (model X.prog X.w) h5 (typeOf (.ref a)) C:=by
   obtain⟨ob,hob,hc⟩:=fl5'.there;subst hc;exact(PySem.W.Looks.ld hob).andThen .now
  refine (PySem.W.exm_one (K:=X.K) (h:=h5) I5.kIn LT hx).here ?_;refine codeAny_handlers_suite_as ?_;refine lands_againW fl5' λh6 fl6 up6=>?_;obtain⟨hn,I6⟩:=F.caughtAs I1 fl k fl6 (up.trans up6);have I6h:Inv (X.inH (X.pn++pins) a) [] σ1 (upd H' a (c3h a C)) { s1 with heap:=h6 }:=I6.re rfl (λz=>nomatch z) (λp z=>by simpa using z)
  refine b1y (X:=X.inH (X.pn++pins) a) (v:=.ref a) I6h hN hi (Or.inl hk) rfl (λs7 I7=>?_) (Or.inr hk);refine wpAny_mono (hh (X.pn++pins) a [] s7 _ _ _ I7 (hq a hn)) (λf s8 q8=>?_) (λ_ _ z=>z.elim);have goes:∀{σ':St}{H2:Hp}{R:Unit->Shared->Prop},Inv (X.inH (X.pn++pins) a) [] σ' H2 s8->(∀s9,Inv X pins (σ'.set i none) H2 s9->R () s9)->wpAny (model X.prog X.w) X.A (do bindName X.env n .none;unbindBehindTheSuite X.env n hpos) R X.xe s8:=λ{σ' H2 R} I8 k8=>by
   have I8:Inv X pins σ' H2 s8:=back (A':=X.A.mark (some (.ref a))) rfl I8;obtain⟨m,hn8,hl8⟩:=id I8.loc;refine wpAny_nameGoes_keeps hk hn8 (by rw[I8.ok.kind];rfl) λh9 v hn9 hs9=>k8 _ (I8.unname hN hi hl8 hn9 hs9)
  cases f with
  | next=>obtain⟨σ',H2,I8,q8⟩:=q8;exact goes I8 λs9 I9=>⟨_,H2,I9,q8⟩
  | brk=>obtain⟨σ',H2,I8,q8⟩:=q8;exact goes I8 λs9 I9=>⟨_,H2,I9,q8⟩
  | cont=>obtain⟨σ',H2,I8,q8⟩:=q8;exact goes I8 λs9 I9=>⟨_,H2,I9,q8⟩
  | ret u=>obtain⟨v,σ',H2,I8,r,q8⟩:=q8;exact goes I8 λs9 I9=>⟨v,_,H2,I9,r,q8⟩
end
end L2
namespace L2
open PySem PySem.Spec PyProof.Rows Builtin Builtin.ObjectAttr Builtin.Getset_descriptor
structure ExK(K:Frag)(C:Addr):Prop where
 ex:d6p K C
 ga:findIn K (.ref C) "__getattribute__" = some (some (.builtin "BaseException.__getattribute__"))
 gn:findIn K (.ref C) "__getattr__" = some none
 cl:findIn K (.ref C) "__class__" = some (some (.builtin "object.__class__"))
 mb:mroIn K C (.type "BaseException")=some true
 mo:mroIn K C (.type "object")=some true
 ic:(clsIn K C).isSome=true
 sg:specialIn K (.builtin "object.__class__") "__get__" = some (some (.builtin "getset_descriptor.__get__"))
 tk:PySem.W.takesIn K (.builtin "object.__class__")=some true
section
variable{prog:Program}{w:World}{A:Around}{E:Value->Shared->Prop}{R:Result->Shared->Prop}{K:Frag}{C x:Addr}{s:Shared}
theorem d2b(X:K.In s.heap)(L0:PySem.W.Looks (model prog w) s.heap (typeOf (.ref x)) (.ref C))(hm:mroIn K C (.type "object")=some true)(h:R (.ok (.ret (.ref C))) s):
  codeAny (model prog w) A (.call (.builtin "getset_descriptor.__get__") ⟨[.builtin "object.__class__",.ref x,.ref C],[]⟩) R s:=by
 obtain⟨hh,g,dr,t,os⟩:=s;have L1:=PySem.W.looks_mroIn (M:=model prog w) X hm;have pl:=PySem.W.KF.slot_gs.plain;refine codeAny_call_builtin pl PySem.W.KF.entry_gs (PySem.W.KF.slot_gs.check _ _ _ _ _ _ _ _ PySem.W.KF.type_class (PySem.W.KF.args_gs _ _ _) ?_);unfold Builtin.«getset_descriptor.__get__» descrGet;rw[PySem.W.dga_obj];refine wpAny_bind (wpAny_pure ?_);unfold descrGetter descrCheckInstance descrNameAndClass isInstance;simp only[PySem.W.KF.owner_class]
 repeat lk
 refine⟨Code.quiet_builtin _ (by decide +kernel),codeAny_builtin PySem.W.KF.entry_class ?_⟩
 unfold Builtin.«object.__class__» shownTypeOf
 repeat lk
 exact h
theorem c9t(X:K.In s.heap)(k:ExK K C):PySem.W.Looks (model prog w) s.heap (find (.ref x) (.ref C) "__class__") (.bind (.builtin "getset_descriptor.__get__") (.builtin "object.__class__")):=by
 have L1:=PySem.W.looks_findIn (M:=model prog w) X k.cl;have L2:PySem.W.Looks (model prog w) s.heap (getOf (some (.builtin "object.__class__"))) (some (.builtin "getset_descriptor.__get__")):=PySem.W.looks_specialIn X k.sg;have L3:=PySem.W.looks_takesIn (M:=model prog w) X k.tk;refine L1.andThen (L2.andThen ?_);have L4:PySem.W.Looks (model prog w) s.heap (dataDescriptor? (some (.builtin "object.__class__")) (some (.builtin "getset_descriptor.__get__"))) (some (.builtin "getset_descriptor.__get__",.builtin "object.__class__")):=L3.andThen .now;exact L4.andThen (PySem.W.Looks.tag .now)
theorem c6s{tk:Tok}{Q:Fin->Shared->Prop}(X:K.In s.heap)(k:ExK K C)(L0:PySem.W.Looks (model prog w) s.heap (typeOf (.ref x)) (.ref C))(h:Q (.done (.ret (.ref C))) s):
  wpAny (model prog w) A (Builtin.«object.__getattribute__» ⟨[.ref x,.str "__class__" tk],[]⟩) Q E s:=by
 obtain⟨hh,g,dr,t,os⟩:=s;have L1:=c9t (prog:=prog) (w:=w) (x:=x) X k;unfold Builtin.«object.__getattribute__» slotArgs attrName
 repeat lk
 show wpAny _ _ (run (.call (.builtin "getset_descriptor.__get__") ⟨[.builtin "object.__class__",.ref x,.ref C],[]⟩) none) _ _ _;refine wpAny_run (A:=A) (d2b X L0 k.mo ?_);show wpAny _ _ (pure (Value.ref C)) _ _ _;exact wpAny_pure (wpAny_pure h)
theorem c6t{nameV:Value}{Q:Unit->Shared->Prop}(X:K.In s.heap)(k:ExK K C)(L0:PySem.W.Looks (model prog w) s.heap (typeOf (.ref x)) (.ref C))(h:Q () s):
  wpAny (model prog w) A (checkBuiltinCall "BaseException.__getattribute__" ⟨[.ref x,nameV],[]⟩) Q E s:=by
 obtain⟨hh,g,dr,t,os⟩:=s;have e1:builtinKind "BaseException.__getattribute__" = some .slot:=by decide +kernel
 have e2:splitId "BaseException.__getattribute__" = some ("BaseException","__getattribute__"):=by decide +kernel
 have L1:=PySem.W.looks_mroIn (M:=model prog w) X k.mb;have hz:=F.args_bexc_ga (.ref x) nameV;have L2:PySem.W.Looks (model prog w) hh (isInstance (.ref x) (.type "BaseException")) true:=L0.andThen L1;simp only[checkBuiltinCall,e1,e2];refine wpAny_bind (L2.at ?_)
 repeat (first|assumption|wp_step)
 all_goals exact h
theorem d4z{tk:Tok}{fill:Bool}{Q:Value->Shared->Prop}(X:K.In s.heap)(k:ExK K C)(L0:PySem.W.Looks (model prog w) s.heap (typeOf (.ref x)) (.ref C))(h:Q (.ref C) s):
  wpAny (model prog w) A (getAttrBy (.ref x) (.str "__class__" tk) fill) Q E s:=by
 obtain⟨hh,g,dr,t,os⟩:=s;have L1:=PySem.W.looks_findIn (M:=model prog w) X k.ga;have L2:=PySem.W.looks_findIn (M:=model prog w) X k.gn;have hb:=F.attr_ValueError.ga.bind (.ref x);unfold getAttrBy;refine wpAny_holding (wpAny_bind (L0.at (wpAny_bind (L1.at ?_))));dsimp only;have ne:(Value.builtin "BaseException.__getattribute__" == Value.builtin "object.__getattribute__")=false:=by decide +kernel
 have oh:onTheHeap (Value.ref C)=true:=rfl;rw[ne,Bool.and_false,if_neg Bool.false_ne_true];unfold getAttrByItsOwn hookBefore;rw[if_pos oh];refine wpAny_bind (L2.at (wpAny_bind (wpAny_attempt (wpAny_holding ?_))));unfold callGetattribute;rw[Bool.false_and,if_neg Bool.false_ne_true];unfold boundAndCalled;rw[hb];refine wpAny_bind (wpAny_pure ?_);refine wpAny_call (codeAny_call_builtin F.attr_ValueError.ga.plain F.entry_bexc_ga (c6t X k L0 (c6s X k L0 ?_)));exact wpAny_pure h
theorem c9u{Q:Option Value->Shared->Prop}(X:K.In s.heap)(k:ExK K C)(L0:PySem.W.Looks (model prog w) s.heap (typeOf (.ref x)) (.ref C))(h:Q (some (.ref C)) { s with toks:=s.toks+1 }):
  wpAny (model prog w) A (getAttr? (.ref x) "__class__") Q E s:=by
 obtain⟨hh,g,dr,t,os⟩:=s;unfold getAttr? getAttrBy?;exact wpAny_bind (wpAny_mkText (wpAny_bind (wpAny_attempt (d4z X k L0 (wpAny_pure h)))))
end
def ExAt(a C:Addr)(h:Heap):Prop:=∃o,h.get? a=some o/\o.cls=.ref C
theorem ExAt.ty{a C:Addr}{h:Heap}(M:Model)(p:ExAt a C h):PySem.W.Looks M h (typeOf (.ref a)) (.ref C):=by
 obtain⟨o,h1,h2⟩:=p;exact h2 ▸ (PySem.W.Looks.ld h1).andThen .now
theorem c1n{K:Frag}{a C:Addr}(k:ExK K C):PySem.W.KitX K (.ref a) (.ref C) (ExAt a C) where
 ty:=λM h _ p=>p.ty M
 it:=λM h X _=>by
  obtain⟨cd,hc⟩:=Option.isSome_iff_exists.mp k.ic;unfold clsIn at hc;split at hc
  case h_2=>cases hc
  case h_1 c' d' cd' sl' ho=>
   intro A' Q' E' s' kk q;unfold isType loadHead;exact wpAny_bind (wpAny_loadPart (kk _ _ (X _ _ ho)) (wpAny_pure q))
 ne:=λh tp dd its n sl X htp=>by
  obtain⟨cd,hc⟩:=Option.isSome_iff_exists.mp k.ic;cases hb:(Value.ref C == Value.ref tp) with
  | false=>rfl
  | true=>
   have e:C=tp:=Value.ref.inj (beq_iff_eq.mp hb);subst e;unfold clsIn at hc;split at hc
   case h_2=>cases hc
   case h_1 c' d' cd' sl' ho=>
    have z:=(X _ _ ho).symm.trans htp;cases z
 ca:=λX p h=>c9u X k (p.ty _) h
inductive TyX(K:Frag)(H:Hp):V->Value->Prop where
 | ty {x:V} {t:Value} (h:c3l K H x t):TyX K H x t
 | exc {a C:Addr} (e:H a=some (c3h a (.ref C))) (k:ExK K C):TyX K H (.ref a) (.ref C)
def c6r:V->Option Value
 | .ref a=>some (.ref a)
 | .ty n=>some (.type n)
 | _=>none
theorem c2j{c:V}{cv u:Value}(h:c6r c=some cv)(r:RelV c u):u=cv:=by
 cases c with
 | ref a=>cases h;exact r
 | ty n=>cases h;exact r
 | _=>cases h
theorem b9b:∀{cs:List V}{cvs us:List Value},cs.map c6r=cvs.map some->Vals cs us->us=cvs
 | [],[],_,_,.nil=>rfl
 | [],_::_,_,h,_=>by cases h
 | _::_,[],_,h,_=>by cases h
 | c::cs,cv::cvs,_,h,.cons r t=>by
  have h1:c6r c=some cv:=List.head_eq_of_cons_eq h;have h2:cs.map c6r=cvs.map some:=List.tail_eq_of_cons_eq h;rw[c2j h1 r,b9b h2 t]
section
variable{X:Cx}
theorem c8l:a4w X (.builtin "isinstance") (λxs H Q=>∃x c t cv b,xs=[x,c]/\TyX X.K H x t/\c6r c=some cv/\kitOne X.K t cv=some b/\Q (.bl b) H):=by
 intro pins s σ H xs us Q I r h;obtain⟨x,c,t,cv,b,rfl,ty,hc,hk,q⟩:=h;obtain⟨u,us',rfl,rx,r2⟩:∃u us',us=u::us'/\RelV x u/\Vals [c] us':=by cases r with|cons a b=>exact⟨_,_,rfl,a,b⟩
 obtain⟨v,rfl,rc⟩:∃v,us'=[v]/\RelV c v:=by cases r2 with|cons a b=>cases b;exact⟨_,rfl,a⟩
 have e:=c2j hc rc;subst e;cases ty with
 | ty ty=>exact c5l I rx ty hk λtk=>⟨.bl b,H,I.tok tk,rfl,q⟩
 | @exc a C ea k=>
  cases (show u=Value.ref a from rx);obtain⟨p,_⟩:=(show ObjOk X.prog X.w H s.heap a (c3h a (.ref C)) from I.hok a _ ea);exact kia_one (c1n k) I.kIn p hk (λz=>nomatch z) λtk=>⟨.bl b,H,I.tok tk,rfl,q⟩
theorem c6k:a4w X (.builtin "isinstance") (λxs H Q=>∃a C tp cs cvs b,xs=[.ref a,.ref tp]/\H a=some (c3h a (.ref C))/\ExK X.K C/\H tp=some (.tup cs)/\cs.map c6r=cvs.map some/\PySem.W.kitAny X.K (.ref C) cvs=some b/\Q (.bl b) H):=by
 intro pins s σ H xs us Q I r h;obtain⟨a,C,tp,cs,cvs,b,rfl,ea,k,et,hc,hk,q⟩:=h;obtain⟨u,us',rfl,rx,r2⟩:∃u us',us=u::us'/\RelV (.ref a) u/\Vals [.ref tp] us':=by cases r with|cons a b=>exact⟨_,_,rfl,a,b⟩
 obtain⟨v,rfl,rc⟩:∃v,us'=[v]/\RelV (.ref tp) v:=by cases r2 with|cons a b=>cases b;exact⟨_,rfl,a⟩
 cases (show u=Value.ref a from rx);cases (show v=Value.ref tp from rc);obtain⟨p,_⟩:=(show ObjOk X.prog X.w H s.heap a (c3h a (.ref C)) from I.hok a _ ea);obtain⟨_,its,rt,o,h1,h2,n,h3⟩:=(show ObjOk X.prog X.w H s.heap tp (.tup cs) from I.hok tp _ et);have e:=b9b hc rt;subst e;obtain⟨oc,od,oda,osl⟩:=o;dsimp only at h2 h3;subst h2 h3;exact PySem.W.kia_tup (c1n k) I.kIn p h1 hk (λz=>nomatch z) λtk=>⟨.bl b,H,I.tok tk,rfl,q⟩
end
end L2
namespace L2
open PySem PySem.Spec PyProof.Rows
inductive EqD(K:Frag)(H:Hp):Nat->V->V->Bool->Prop where
 | flat {n:Nat} {x y:V} (fx:a3g x=true) (fy:a3g y=true):EqD K H n x y (eqV x y)
 | lst {n:Nat} {p q:Addr} {xs ys:List V} {e:Nat->Bool} (ne:p≠q) (hp:SqL K H p xs) (hq:SqL K H q ys) (hl:xs.length=ys.length)
   (h:∀(j:Nat)(x y:V),xs[j]?=some x->ys[j]?=some y->EqD K H n x y (e j)):EqD K H (n+1) (.ref p) (.ref q) ((List.range xs.length).all e)
 | lstN {n:Nat} {p q:Addr} {xs ys:List V} (ne:p≠q) (hp:SqL K H p xs) (hq:SqL K H q ys) (hl:xs.length≠ys.length):EqD K H (n+1) (.ref p) (.ref q) false
 | tup {n:Nat} {p q:Addr} {xs ys:List V} {e:Nat->Bool} (ne:p≠q) (hp:SqT K H p xs) (hq:SqT K H q ys)
   (h:∀(j:Nat)(x y:V),xs[j]?=some x->ys[j]?=some y->EqD K H n x y (e j)):EqD K H (n+1) (.ref p) (.ref q) ((List.range (min xs.length ys.length)).all e && xs.length == ys.length)
 | self {n:Nat} {p:Addr} {xs:List V} (hp:SqT K H p xs):EqD K H n (.ref p) (.ref p) true
theorem Vals.at{xs:List V}{us:List Value}(r:Vals xs us){j:Nat}(h:j<us.toArray.size):∃x,xs[j]?=some x/\RelV x us.toArray[j]:=by
 have hl:j<xs.length:=by rw[r.length];simpa using h
 obtain⟨u,e,q⟩:=r.get (List.getElem?_eq_getElem hl);refine⟨xs[j],List.getElem?_eq_getElem hl,?_⟩;have:us.toArray[j]=u:=by
  simp only[List.getElem_toArray];have:=List.getElem?_eq_some_iff.mp e;exact this.2
 rw[this];exact q
section
variable{X:Cx}{pins:List (Addr×Obj)}{σ:St}{H:Hp}{s:Shared}
theorem b8u(I:Inv X pins σ H s){n:Nat}{x y:V}{b:Bool}(d:EqD X.K H n x y b):∀{A:Around}{u v:Value},RelV x u->RelV y v->A.units+n<cLine->SeqAt.EqAt A s u v b:=by
 induction d with
 | flat fx fy=>intro A u v rx ry hu;exact c9o rx ry fx fy
 | @lst n p q xs ys e ne hp hq hl h ih=>
  intro A u v rx ry hu;cases rx;cases ry;obtain⟨i1,r1,p1,z1⟩:=I.list hp;obtain⟨i2,r2,p2,z2⟩:=I.list hq;have e1:=r1.length;have e2:=r2.length;rw[show xs.length=i1.toArray.size by simpa using e1]
  refine SeqAt.EqAt.of_refs ne (SeqAt.RcAt.lists p1.isList p2.isList (by simp only[List.size_toArray];lia) (by lia) λj h1 h2=>?_)
  obtain⟨a,ea,ra⟩:=r1.at h1;obtain⟨c,ec,rc⟩:=r2.at h2;exact ih j a c ea ec ra rc (by show A.units+1+n<cLine;lia)
 | @lstN n p q xs ys ne hp hq hl=>
  intro A u v rx ry hu;cases rx;cases ry;obtain⟨i1,r1,p1,z1⟩:=I.list hp;obtain⟨i2,r2,p2,z2⟩:=I.list hq;have e1:=r1.length;have e2:=r2.length;exact SeqAt.EqAt.of_refs ne (SeqAt.RcAt.lists_lengths p1.isList p2.isList (by simp only[List.size_toArray,bne_iff_ne];lia) (by lia))
 | @tup n p q xs ys e ne hp hq h ih=>
  intro A u v rx ry hu;cases rx;cases ry;obtain⟨i1,r1,p1,z1⟩:=I.tuple hp;obtain⟨i2,r2,p2,z2⟩:=I.tuple hq;have e1:=r1.length;have e2:=r2.length;rw[show xs.length=i1.toArray.size by simpa using e1,show ys.length=i2.toArray.size by simpa using e2]
  refine SeqAt.EqAt.of_refs ne (SeqAt.RcAt.tuples p1 p2 (by lia) λj h1 h2=>?_)
  obtain⟨a,ea,ra⟩:=r1.at h1;obtain⟨c,ec,rc⟩:=r2.at h2;exact ih j a c ea ec ra rc (by show A.units+1+n<cLine;lia)
 | self hp=>
  intro A u v rx ry hu;cases rx;cases ry;exact SeqAt.EqAt.same _
theorem c2l(k:Nat):((List.range (min k k)).all (λ_=>true) && k == k)=true:=by simp
theorem d3f{n:Nat}(hu:X.A.units+(n+1)<cLine):OpR X (compareOp .Eq) (λx y H Q=>∃p q b,x=.ref p/\y=.ref q/\EqD X.K H (n+1) x y b/\Q (.bl b) H):=by
 intro pins s σ H x y v u Q I rx ry h;obtain⟨p,q,b,rfl,rfl,d,hq⟩:=h;cases rx;cases ry;cases d with
 | flat fx fy=>cases fx
 | @lst _ _ _ xs ys e ne h1 h2 hl h=>
  obtain⟨i1,r1,p1,z1⟩:=I.list h1;obtain⟨i2,r2,p2,z2⟩:=I.list h2;have e1:=r1.length;have e2:=r2.length;rw[show xs.length=i1.toArray.size by simpa using e1] at hq
  refine SeqAt.RcAt.lists p1.isList p2.isList (by simp only[List.size_toArray];lia) (by lia) (λj h1 h2=>?_) _ _ _ _ ⟨.bl _,H,I,rfl,hq⟩
  obtain⟨a,ea,ra⟩:=r1.at h1;obtain⟨c,ec,rc⟩:=r2.at h2;exact b8u I (h j a c ea ec) ra rc (by show X.A.units+1+n<cLine;lia)
 | @lstN _ _ _ xs ys ne h1 h2 hl=>
  obtain⟨i1,r1,p1,z1⟩:=I.list h1;obtain⟨i2,r2,p2,z2⟩:=I.list h2;have e1:=r1.length;have e2:=r2.length;exact SeqAt.RcAt.lists_lengths p1.isList p2.isList (by simp only[List.size_toArray,bne_iff_ne];lia) (by lia) _ _ _ _ ⟨.bl _,H,I,rfl,hq⟩
 | @tup _ _ _ xs ys e ne h1 h2 h=>
  obtain⟨i1,r1,p1,z1⟩:=I.tuple h1;obtain⟨i2,r2,p2,z2⟩:=I.tuple h2;have e1:=r1.length;have e2:=r2.length;rw[show xs.length=i1.toArray.size by simpa using e1,show ys.length=i2.toArray.size by simpa using e2] at hq
  refine SeqAt.RcAt.tuples p1 p2 (by lia) (λj h1 h2=>?_) _ _ _ _ ⟨.bl _,H,I,rfl,hq⟩
  obtain⟨a,ea,ra⟩:=r1.at h1;obtain⟨c,ec,rc⟩:=r2.at h2;exact b8u I (h j a c ea ec) ra rc (by show X.A.units+1+n<cLine;lia)
 | @self _ _ xs hp=>
  obtain⟨i1,r1,p1,z1⟩:=I.tuple hp;rw[<- c2l i1.toArray.size] at hq;exact SeqAt.RcAt.tuples p1 p1 (by lia) (λj h1 h2=>SeqAt.EqAt.same _) _ _ _ _ ⟨.bl _,H,I,rfl,hq⟩
theorem d3d{n:Nat}(hu:X.A.units+(n+1)<cLine):OpR X (compareOp .NotEq) (λx y H Q=>∃p q b,x=.ref p/\y=.ref q/\EqD X.K H (n+1) x y b/\Q (.bl (!b)) H):=by
 intro pins s σ H x y v u Q I rx ry h;obtain⟨p,q,b,rfl,rfl,d,hq⟩:=h;cases rx;cases ry;cases d with
 | flat fx fy=>cases fx
 | @lst _ _ _ xs ys e ne h1 h2 hl h=>
  obtain⟨i1,r1,p1,z1⟩:=I.list h1;obtain⟨i2,r2,p2,z2⟩:=I.list h2;have e1:=r1.length;have e2:=r2.length;rw[show xs.length=i1.toArray.size by simpa using e1] at hq
  refine SeqAt.RcNeAt.lists p1.isList p2.isList (by simp only[List.size_toArray];lia) (by lia) (λj h1 h2=>?_) _ _ _ _ ⟨.bl _,H,I,rfl,hq⟩
  obtain⟨a,ea,ra⟩:=r1.at h1;obtain⟨c,ec,rc⟩:=r2.at h2;exact b8u I (h j a c ea ec) ra rc (by show X.A.units+1+n<cLine;lia)
 | @lstN _ _ _ xs ys ne h1 h2 hl=>
  obtain⟨i1,r1,p1,z1⟩:=I.list h1;obtain⟨i2,r2,p2,z2⟩:=I.list h2;have e1:=r1.length;have e2:=r2.length;exact SeqAt.RcNeAt.lists_lengths p1.isList p2.isList (by simp only[List.size_toArray,bne_iff_ne];lia) (by lia) _ _ _ _ ⟨.bl _,H,I,rfl,hq⟩
 | @tup _ _ _ xs ys e ne h1 h2 h=>
  obtain⟨i1,r1,p1,z1⟩:=I.tuple h1;obtain⟨i2,r2,p2,z2⟩:=I.tuple h2;have e1:=r1.length;have e2:=r2.length;rw[show xs.length=i1.toArray.size by simpa using e1,show ys.length=i2.toArray.size by simpa using e2] at hq
  refine SeqAt.RcNeAt.tuples p1 p2 (by lia) (λj h1 h2=>?_) _ _ _ _ ⟨.bl _,H,I,rfl,hq⟩
  obtain⟨a,ea,ra⟩:=r1.at h1;obtain⟨c,ec,rc⟩:=r2.at h2;exact b8u I (h j a c ea ec) ra rc (by show X.A.units+1+n<cLine;lia)
 | @self _ _ xs hp=>
  obtain⟨i1,r1,p1,z1⟩:=I.tuple hp;rw[<- c2l i1.toArray.size] at hq;exact SeqAt.RcNeAt.tuples p1 p1 (by lia) (λj h1 h2=>SeqAt.EqAt.same _) _ _ _ _ ⟨.bl _,H,I,rfl,hq⟩
end
def eqL:List V->List V->Bool
 | [],[]=>true
 | x::xs,y::ys=>eqV x y && eqL xs ys
 | _,_=>false
theorem c6c:∀{xs ys:List V},xs.length≠ys.length->eqL xs ys=false
 | [],[],h=>absurd rfl h
 | [],_::_,_=>rfl
 | _::_,[],_=>rfl
 | x::xs,y::ys,h=>by
  show(eqV x y && eqL xs ys)=false;rw[c6c (λe=>h (by simp[e])),Bool.and_false]
theorem b4g(e:Nat->Bool)(n:Nat):(List.range (n+1)).all e=(e 0 && (List.range n).all λj=>e (j+1)):=by
 rw[List.range_succ_eq_map,List.all_cons,List.all_map]
 rfl
theorem b8v:∀{xs ys:List V},xs.length=ys.length->(List.range xs.length).all (λj=>eqV (xs.getD j .non) (ys.getD j .non))=eqL xs ys
 | [],[],_=>rfl
 | [],_::_,h=>by cases h
 | _::_,[],h=>by cases h
 | x::xs,y::ys,h=>by
  have h':xs.length=ys.length:=by simpa using h
  rw[List.length_cons,b4g];have e:=b8v h';simp only[List.getD_cons_zero,List.getD_cons_succ];rw[e]
  rfl
theorem c8j{K:Frag}{H:Hp}{p q:Addr}{xs ys:List V}(ne:p≠q)(hp:SqL K H p xs)(hq:SqL K H q ys)(fx:xs.all a3g=true)(fy:ys.all a3g=true):EqD K H 1 (.ref p) (.ref q) (eqL xs ys):=by
 by_cases h:xs.length=ys.length
 ·rw[<- b8v h]
  refine EqD.lst ne hp hq h λj x y hx hy=>?_;have e1:xs.getD j .non=x:=by rw[List.getD_eq_getElem?_getD,hx];rfl
  have e2:ys.getD j .non=y:=by rw[List.getD_eq_getElem?_getD,hy];rfl
  show EqD K H 0 x y (eqV (xs.getD j .non) (ys.getD j .non));rw[e1,e2];exact EqD.flat (List.all_eq_true.mp fx x (List.mem_of_getElem? hx)) (List.all_eq_true.mp fy y (List.mem_of_getElem? hy))
 ·rw[c6c h]
  exact EqD.lstN ne hp hq h
end L2
namespace L2
open PySem PySem.Spec PyProof.Rows
def a0x(X:Cx)(N:List Str)(scope:Scope)(cl:List (Str×Addr))(C:Addr)(s:Shared)(H:Hp)(ex:List Addr)(pn:List (Addr×Obj)):Cx :=
 { prog:=X.prog,w:=X.w,K:=X.K,mg:=X.mg,base:=X.base,A:=X.A,N:=N,s₀:=s,H₀:=H,env:=compEnvC scope cl C X.env,outer:=X.stack,stack:=X.stack,ex:=ex,fn:=λ_=>false,calm:=X.calm,pn:=pn,xe:=λ_ _=>False }
def a0g(nt:Nat)(fr:List Nat)(σ:St):St:=List.replicate nt none++fr.map λj=>(σ[j]?).join
def c7c(wi:TI)(nt:Nat)(fr:List Nat)(g:TG)(te:TE):TE:=λσ H Q=>wi σ H λJ H1=>∀D,H1 D=none->∃(n:Nat)(W:Nat->List V->Hp->Prop),W 0 [] (upd H1 D (.lst [])) /\
 ∀i acc H,W i acc H->H D=some (.lst acc)/\acc.length<sizeLine /\
  ((J.stop i H/\Q (.ref D) H)\/(i<n/\J.go i H/\∀x H',J.yld i H x H'->g x (a0g nt fr σ) H' λσ2 H2=>te σ2 H2 λy H3=>H3 D=some (.lst acc)/\W (i+1) (acc++[y]) (upd H3 D (.lst (acc++[y])))))
def b1n(nt:Nat)(g:TG):Prop:=∀(x:V)(σ:St)(H:Hp)(Q:St->Hp->Prop),g x σ H Q->g x σ H λσ2 H2=>(∀j,nt<=j->σ2[j]?=σ[j]?)/\Q σ2 H2
theorem y9{i nt:Nat}(h:i<nt):b1n nt (a2r i):=λx σ H Q q=>⟨λj hj=>List.getElem?_set_ne (by lia),q⟩
structure CompOk(X:Cx)(N:List Str)(scope:Scope)(cl:List (Str×Addr))(nt:Nat)(fr:List Nat):Prop where
 clos:closureFor scope X.env=pure cl
 kind:scope.kind=.function
 cell:∀y∈scope.names,y.2≠.cell
 names:∀y∈scope.names,y.2=.local->scope.names.lookup y.1=some .local
 sub:∀p∈cl,X.env.cells.lookup p.1=some p.2
 has:((relabel scope X.env).names.all λy=>!(y.2 == .cell || y.2 == .free) || (cl.lookup y.1).isSome)=true
 len:N.length=nt+fr.length
 frn:∀(j i:Nat),fr[j]?=some i->∃x,N[nt+j]?=some x/\X.N[i]?=some x/\(X.env.kindOf x=some .cell\/X.env.kindOf x=some .free)/\((relabel scope X.env).names.lookup x=some .cell\/(relabel scope X.env).names.lookup x=some .free)
section
variable{X:Cx}{pins:List (Addr×Obj)}{σ:St}{H:Hp}{s:Shared}{N:List Str}{scope:Scope}{cl:List (Str×Addr)}{nt:Nat}{fr:List Nat}
theorem CompOk.cl_at(k:CompOk X N scope cl nt fr){x:Str}{c:Addr}(h:cl.lookup x=some c):X.env.cells.lookup x=some c:=k.sub (x,c) (PySem.mem_of_lookup h)
theorem CompOk.start(k:CompOk X N scope cl nt fr)(I:Inv X pins σ H s){C:Addr}{h':Heap}{t':Nat}{ex:List Addr}(hex:∀b∈ex,c2n X pins H b/\b<s.heap.objs.size)(hC:s.heap.objs.size<=C)(hn:h'.Ns C λ_=>none)(hk:∀b o,s.heap.get? b=some o->h'.get? b=some o):
  Inv (a0x X N scope cl C s H ex (X.pn++pins)) [] (a0g nt fr σ) H { s with heap:=h',toks:=t' }:=by
 have ncell:∀x c,cl.lookup x=some c->c<s.heap.objs.size:=λx c e=>by
  obtain⟨v,z⟩:=I.cell x c (k.cl_at e);exact z.lt
 refine⟨⟨I.ok.mod,?_,I.ok.glob,I.ok.blt,hC,λx y c h1 h2=>I.ok.inj x y c (k.cl_at h1) (k.cl_at h2),λx hx=>?_,λx c hf _=>(nomatch hf),I.ok.hd,I.ok.frames,.inl rfl,λb hb=>⟨?_,λx c e=>?_⟩,I.bs,?_,λb o e hb=>?_,λb hb z=>?_,I.stack,I.stkFree⟩,
  rfl,I.bare,Un.kept hk,⟨_,hn,λi x v e1 e2 e3=>?_⟩,λx c e=>?_,I.hok.fresh hC,λx c e=>I.freeC x c (k.cl_at e),λp hp=>?_,I.hok.kept hk,?_⟩
 ·show(relabel scope X.env).kind=.function
  exact k.kind
 ·have hx:(relabel scope X.env).names.lookup x=some .cell\/(relabel scope X.env).names.lookup x=some .free:=hx
  have hall:=List.all_eq_true.mp k.has;rcases hx with hx|hx
  ·have:=hall _ (PySem.mem_of_lookup hx)
   simp only[beq_self_eq_true,Bool.true_or,Bool.not_true,Bool.false_or] at this;exact Option.isSome_iff_exists.mp this
  ·have:=hall _ (PySem.mem_of_lookup hx)
   simp only[beq_self_eq_true,Bool.or_true,Bool.not_true,Bool.false_or] at this;exact Option.isSome_iff_exists.mp this
 ·exact Nat.ne_of_lt (Nat.lt_of_lt_of_le (hex b hb).2 hC)
 ·exact(hex b hb).1.2.2.2.2.1 x c (k.cl_at e)
 ·exact Nat.le_trans I.ok.bsz I.sz
 ·obtain⟨_,_,_,h4,_⟩:=(hex b hb).1
  have hs:=(I.ok.bs b o e).1;rcases h4 with z|z
  ·exact I.ok.noex b o e z
  ·exact absurd (Nat.lt_of_lt_of_le (Heap.lt_size hs) z) (Nat.lt_irrefl _)
 ·rcases List.mem_cons.mp (I.stkSub b z) with y|y
  ·exact(hex b hb).1.2.1 y
  ·exact(hex b hb).1.2.2.1 y
 ·have hi:¬ i<nt:=λhi=>by
   unfold a0g at e2;rw[List.getElem?_append_left (by simpa using hi),List.getElem?_replicate] at e2
   split at e2 <;> cases e2
  obtain⟨j,rfl⟩:∃j,i=nt+j:=⟨i-nt,by lia⟩
  unfold a0g at e2;rw[List.getElem?_append_right (by simp),List.length_replicate,Nat.add_sub_cancel_left,List.getElem?_map] at e2
  cases hj:fr[j]? with
  | none=>rw[hj] at e2;cases e2
  | some i'=>
   rw[hj] at e2;have e2:(σ[i']?).join=some v:=Option.some.inj e2;have e4:σ[i']?=some (some v):=by
    cases z:σ[i']? with
    | none=>rw[z] at e2;cases e2
    | some y=>rw[z] at e2;rw[show y=some v from e2]
   obtain⟨x',n1,n2,n3,n4⟩:=k.frn j i' hj;have e1:N[nt+j]?=some x:=e1;rw[n1] at e1;cases e1;obtain⟨m,hm,hl⟩:=I.loc;obtain⟨u,r,l⟩:=hl i' x v n2 e4 (n3.elim (λz=>.inr (.inl z)) λz=>.inr (.inr z));refine⟨u,r,.inr ⟨n4,?_⟩⟩;rcases l with ⟨z,_⟩|⟨_,c,hc,hcell⟩
   ·rcases n3 with y|y <;> (rw[z] at y;cases y)
   ·have hall:=List.all_eq_true.mp k.has
    have hs:(cl.lookup x).isSome=true:=by
     rcases n4 with y|y
     ·have:=hall _ (PySem.mem_of_lookup y)
      simpa using this
     ·have:=hall _ (PySem.mem_of_lookup y)
      simpa using this
    obtain⟨c',hc'⟩:=Option.isSome_iff_exists.mp hs;have z:=k.cl_at hc';rw[hc] at z;cases z;exact⟨c,hc',hcell.elim λo ho=>⟨o,hk _ _ ho.1,ho.2⟩⟩
 ·obtain⟨v,o,ho,hd⟩:=I.cell x c (k.cl_at e)
  exact⟨v,o,hk _ _ ho,hd⟩
 ·obtain⟨e,n,ne,nf,d⟩:=I.pin p (by have hp:p∈(X.pn++pins)++[]:=hp;rw[List.append_nil] at hp;exact hp)
  refine⟨hk _ _ e,n,Nat.ne_of_lt (Nat.lt_of_lt_of_le (Heap.lt_size e) hC),λz=>?_,d⟩;rcases List.mem_cons.mp (I.stkSub _ z) with y|y
  ·exact ne y
  ·exact nf y
 ·show(a0g nt fr σ).length=N.length
  unfold a0g;rw[List.length_append,List.length_replicate,List.length_map,k.len]
theorem Inv.blockEnd{ex:List Addr}{C:Addr}{σ':St}{H H':Hp}{s':Shared}{h'':Heap}{pn' pins':List (Addr×Obj)}(I:Inv X pins σ H s)(hex:∀b∈ex,c2n X pins H b)(J:Inv (a0x X N scope cl C s H ex pn') pins' σ' H' s')(hC:s.heap.objs.size<=C)(hs:Heap.SameBut C s'.heap h''):Inv X pins σ H' { s' with heap:=h'' }:=by
 have ne:∀b o,s.heap.get? b=some o->b≠C:=λb o e=>Nat.ne_of_lt (Nat.lt_of_lt_of_le (Heap.lt_size e) hC);refine I.call' (s':={ s' with heap:=h'' }) (ch:=ex) J.os ⟨λb o e n hb hx=>?_,λb o e n hb hx=>?_,J.base.free,λb o e hx=>?_,J.base.tups,J.base.frzs,J.base.tbls⟩ ?_ J.bare λb hb=>⟨(hex b hb).2.2.2.1,(hex b hb).2.1,(hex b hb).2.2.2.2.1,(hex b hb).2.2.2.2.2⟩
 ·exact(hs.2 b (ne b o e)).trans (J.base.keep b o e n hb hx)
 ·obtain⟨sl,e1⟩:=J.base.slot b o e n hb hx
  exact⟨sl,(hs.2 b (ne b o e)).trans e1⟩
 ·obtain⟨o',e1⟩:=J.base.there b o e hx
  exact⟨o',(hs.2 b (ne b o e)).trans e1⟩
 ·exact a3w J.hok λb o u e q=>(hs.2 b (λz=>by
   have:=J.free;rw[show(a0x X N scope cl C s H ex pn').env.locals=C from rfl,<- z,e] at this;cases this)).trans q
def b2i(wi:TI)(nt:Nat)(fr:List Nat)(g:TG)(tt:TT)(te:TE):TE:=λσ H Q=>wi σ H λJ H1=>∀D,H1 D=none->∃(n:Nat)(W:Nat->List V->Hp->Prop),W 0 [] (upd H1 D (.lst [])) /\
 ∀i acc H,W i acc H->H D=some (.lst acc)/\acc.length<sizeLine /\
  ((J.stop i H/\Q (.ref D) H)\/(i<n/\J.go i H/\∀x H',J.yld i H x H'->g x (a0g nt fr σ) H' λσ2 H2=>tt σ2 H2 λc H3=>if c=true then (te σ2 H3 λy H4=>H4 D=some (.lst acc)/\W (i+1) (acc++[y]) (upd H4 D (.lst (acc++[y])))) else W (i+1) acc H3))
def PTs(X:Cx)(ifs:List Expr)(t:TT):Prop:=∀(pins:List (Addr×Obj))(s:Shared)(σ:St)(H:Hp)(Q:Bool->Hp->Prop),Inv X pins σ H s->t σ H Q->wpAny (model X.prog X.w) X.A (forIn ifs true λc r=>if r=true then do let ok <- isTrue c X.env (eval c X.env);pure (ForInStep.yield ok) else pure (ForInStep.yield r)) (TP X pins σ Q) X.xe s
theorem d0i{e:Expr}{t:TT}(h:PT X e t):PTs X [e] t:=λ_ s σ H Q I q=>wpAny_tests_one (h _ s σ H Q I q)
theorem c4j:PTs X [] (λ_ H Q=>Q true H):=λ_ s σ H Q I q=>wpAny_tests_nil ⟨H,I,q⟩
theorem b9a{elt iter tg:Expr}{ifs:List Expr}{pos pos':Pos}{wi:TI}{g:TG}{te:TE}{tt:TT}{use:Option (Value->Sem Unit)}{PQ:Value->Shared->Prop}{Q:VK}(hc:X.calm=true)(k:CompOk X N scope cl nt fr)(hi:PI X tg iter wi)(gk:b1n nt g)(hg:∀C s H ex pn',PG (a0x X N scope cl C s H ex pn') tg g)(ht:∀C s H ex pn',PTs (a0x X N scope cl C s H ex pn') ifs tt)(he:∀C s H ex pn',PE (a0x X N scope cl C s H ex pn') elt te)(hs:∀x,foldedSetIterable iter X.env x=pure x)(I:Inv X pins σ H s)(h:b2i wi nt fr g tt te σ H Q)(fin:∀{H3:Hp} {s3:Shared} {C D:Addr} {fp:List Addr} {H6:Hp} {s7:Shared},Inv X pins σ H3 s3->(∀b∈fp,c2n X pins H3 b)->s3.heap.objs.size<=C->Inv (a0x X N scope cl C s3 H3 fp (X.pn++pins)) [] (a0g nt fr σ) H6 s7->Q (.ref D) H6->compPost (model X.prog X.w) X.A X.xe use PQ (.ref D) C (.ok .next) s7):
  wpAny (model X.prog X.w) X.A (comprehension (.ListComp elt [⟨tg,iter,ifs,0⟩] scope pos) scope X.env pos' (newList []) false (eval iter X.env) use) PQ X.xe s:=by
 refine wpAny_comprehension_free rfl hs k.clos k.kind k.names (thn (hi pins s σ H _ I h) λxv s1 h1=>thn h1 λitv s2 h2=>?_);obtain⟨it,fp,tn,J,H2,rfl,I2,T,st2,f2,R2⟩:=h2;obtain⟨n,W,w0,turn⟩:=R2 _ I2.fresh;have I3:Inv X pins σ (upd H2 s2.heap.objs.size (.lst [])) { s2 with heap:=s2.heap.push { cls:=.type "list",data:=.seq ([]:List Value).toArray } }:=I2.lnew (its:=[]) (t':=s2.toks) .nil (Nat.zero_le _)
 have fp2:∀b∈fp,b<s2.heap.objs.size:=λb hb=>by
  obtain⟨o,e,_⟩:=T.obj _ _ st2 b hb;exact Heap.lt_size e
 have f3:∀b∈fp,c2n X pins (upd H2 s2.heap.objs.size (.lst [])) b:=λb hb=>⟨by rw[j4 (Nat.ne_of_lt (fp2 b hb))];exact(f2 b hb).1,(f2 b hb).2⟩
 refine wpAny_newObj_type (hd:=by show(0:Nat)<=_;exact Nat.zero_le _) ?_
 have hsz:({ s2 with heap:=s2.heap.push { cls:=.type "list",data:=.seq ([]:List Value).toArray } }:Shared).heap.objs.size=s2.heap.objs.size+1:=Heap.size_push _ _
 have kp:∀b o,s2.heap.get? b=some o->({ s2 with heap:=s2.heap.push { cls:=.type "list",data:=.seq ([]:List Value).toArray } }:Shared).heap.get? b=some o:=λb o e=>Heap.get?_push_of_some _ e
 generalize ({ s2 with heap:=s2.heap.push { cls:=.type "list",data:=.seq ([]:List Value).toArray } }:Shared)=s3 at *
 have dn:∀b∈fp,b<s3.heap.objs.size:=λb hb=>by rw[hsz];exact Nat.lt_succ_of_lt (fp2 b hb)
 refine wpAny_newFunctionEnv k.cell (by intro y hy;cases hy) (λh4 hns hsb=>?_) k.kind
 have keep4:∀b o,s3.heap.get? b=some o->h4.get? b=some o:=λb o e=>(hsb.2 b (Nat.ne_of_lt (Heap.lt_size e))).trans (Heap.get?_push_of_some _ e);have I4:=k.start I3 (C:=s3.heap.objs.size) (h':=h4) (t':=s3.toks) (ex:=fp) (λb hb=>⟨f3 b hb,dn b hb⟩) (Nat.le_refl _) hns keep4;have st4:tn 0 h4:=T.keep _ _ _ st2 λb hb o e=>keep4 b o (kp b o e);generalize hC:s3.heap.objs.size=C at I4 hns;have hC3:s3.heap.objs.size<=C:=Nat.le_of_eq hC;generalize hH:upd H2 s2.heap.objs.size (.lst [])=H3 at *;generalize s2.heap.objs.size=D at *;have stat:∀{H':Hp},(∀b∈fp,H' b=none)->∀b∈fp,c2n (a0x X N scope cl C s3 H3 fp (X.pn++pins)) [] H' b:=λ{H'} hn b hb=>by
  refine⟨hn b hb,Nat.ne_of_lt (Nat.lt_of_lt_of_le (dn b hb) hC3),λz=>?_,.inl hb,λx c e=>(f2 b hb).2.2.2.2.1 x c (k.cl_at e),λp hp=>(f2 b hb).2.2.2.2.2 p (by have hp:p∈(X.pn++pins)++[]:=hp;rw[List.append_nil] at hp;exact hp)⟩
  rcases List.mem_cons.mp (I2.stkSub b z) with y|y
  ·exact(f2 b hb).2.1 y
  ·exact(f2 b hb).2.2.1 y
 have loop:∀s5:Shared,s5={ s3 with heap:=h4,toks:=s3.toks }->codeAny (model X.prog X.w) X.A (.compLoop (.ListComp elt [⟨tg,iter,ifs,0⟩] scope pos) 0 (.ref it) (.ref D) (compEnvC scope cl C X.env)) (compPost (model X.prog X.w) X.A X.xe use PQ (.ref D) C) s5:=by
  rintro s5 rfl;refine codeAny_loop rfl (λm s'=>∃i acc H',m=n-i/\Inv (a0x X N scope cl C s3 H3 fp (X.pn++pins)) [] (a0g nt fr σ) H' s'/\tn i s'.heap/\(∀b∈fp,H' b=none)/\W i acc H') ?_ n ⟨0,[],_,rfl,I4,st4,λb hb=>(f3 b hb).1,w0⟩;rintro m s6 ⟨i,acc,H6,rfl,I6,st6,fr6,w6⟩;show wpAny _ _ ((compTurn (.ListComp elt [⟨tg,iter,ifs,0⟩] scope pos) 0 (.ref it) (.ref D) (compEnvC scope cl C X.env)).onRaise (λx=>do noteFrame x (compEnvC scope cl C X.env);theTreesLotGoes x)) _ _ s6
  refine wpAny_noted ?_;rw[compTurn_list];refine wpAny_bind (wpAny_standAt (wpAny_bind ?_));obtain⟨hD6,hz6,alt⟩:=turn i acc H6 w6;rcases alt with ⟨stop,qn⟩|⟨hin,go,step⟩
  ·refine wpAny_mono (T.done (a0x X N scope cl C s3 H3 fp (X.pn++pins)) rfl rfl rfl hc i [] s6 (a0g nt fr σ) H6 (λ_ _=>False) I6 (stat fr6) st6 stop) (λr s7 z0_=>?_) (λ_ _ z=>z.elim)
   obtain⟨hr,I7⟩:=z0_;subst hr;exact wpAny_pure (fin I3 f3 hC3 I7 qn)
  ·refine wpAny_mono (T.item (a0x X N scope cl C s3 H3 fp (X.pn++pins)) rfl rfl rfl hc i [] s6 (a0g nt fr σ) H6 (λ_ _=>False) I6 (stat fr6) st6 go) (λr s7 z0_=>?_) (λ_ _ z=>z.elim)
   obtain⟨u,hr,h7⟩:=z0_;subst hr;refine wpAny_bind (wpAny_mono h7 (λ_ s8 z0_=>?_) (λ_ _ z=>z.elim));obtain⟨x,H8,I8,r8,y8,st8,fr8⟩:=z0_;refine wpAny_bind (wpAny_mono (hg _ _ _ _ _ _ s8 _ H8 x u _ (I8.pinned (stat fr8) (T.obj _ _ st8)) r8 (gk _ _ _ _ (step x H8 y8))) (λ_ s9 z0_=>?_) (λ_ _ z=>z.elim));obtain⟨σ9,H9,I9,k9,q9⟩:=z0_;refine wpAny_bind (wpAny_mono (ht _ _ _ _ _ _ s9 σ9 H9 _ I9 q9) (λok s12 z0_=>?_) (λ_ _ z=>z.elim));obtain⟨H12,I12,q12⟩:=z0_;have weak:∀{H11:Hp}{s11:Shared},Inv (a0x X N scope cl C s3 H3 fp (X.pn++pins)) ([]++b7q fp s8.heap) σ9 H11 s11->Inv (a0x X N scope cl C s3 H3 fp (X.pn++pins)) [] (a0g nt fr σ) H11 s11/\tn (i+1) s11.heap/\∀b∈fp,H11 b=none:=λ{H11 s11} I11=>by
    refine⟨(I11.unpinned (pins:=[])).weak ?_ λj v' e=>?_,?_,λb hb=>?_⟩
    ·rw[I11.len,<- I4.len]
    ·by_cases hj:nt<=j
     ·rw[k9 j hj];exact e
     ·unfold a0g at e
      rw[List.getElem?_append_left (by rw[List.length_replicate];lia),List.getElem?_replicate] at e
      split at e <;> cases e
    ·exact T.keep _ _ _ st8 λb hb o e=>(I11.pin (b,o) (List.mem_append_right _ (List.mem_append_right _ (a3i hb e)))).1
    ·obtain⟨o,e,d⟩:=T.obj _ _ st8 b hb
     exact(I11.pin (b,o) (List.mem_append_right _ (List.mem_append_right _ (a3i hb e)))).2.1
   cases ok with
   | false=>
    rw[if_neg Bool.false_ne_true] at q12;obtain⟨z1,z2,z3⟩:=weak I12;exact wpAny_pure ⟨rfl,n-(i+1),by lia,i+1,acc,_,rfl,z1,z2,z3,q12⟩
   | true=>
    rw[if_pos rfl] at q12;refine wpAny_bind (wpAny_bind (wpAny_mono (he _ _ _ _ _ _ s12 σ9 H12 _ I12 q12) (λv s10 z0_=>?_) (λ_ _ z=>z.elim)));obtain⟨y,H10,I10,r10,hD10,q10⟩:=z0_;refine wpAny_bind (wpAny_mono (b3n (X:=a0x X N scope cl C s3 H3 fp (X.pn++pins)) _ s10 σ9 H10 (.ref D) [y] (.ref D) [v] (λv' H'=>v'=.non/\H'=upd H10 D (.lst (acc++[y]))) I10 rfl (.cons r10 .nil) ⟨_,acc,y,rfl,rfl,hD10,hz6,rfl,rfl⟩) (λv' s11 z0_=>?_) (λ_ _ z=>z.elim));obtain⟨_,H11,I11,_,_,e11⟩:=z0_;subst e11;obtain⟨z1,z2,z3⟩:=weak I11;exact wpAny_pure (wpAny_pure ⟨rfl,n-(i+1),by lia,i+1,acc++[y],_,rfl,z1,z2,z3,q10⟩)
 exact codeAny_compStart_list (loop _ rfl) (T.self _ 0 _ _ _ st4 (loop _ rfl))
theorem c1e{elt iter tg:Expr}{ifs:List Expr}{pos:Pos}{wi:TI}{g:TG}{te:TE}{tt:TT}(hc:X.calm=true)(k:CompOk X N scope cl nt fr)(hi:PI X tg iter wi)(gk:b1n nt g)(hg:∀C s H ex pn',PG (a0x X N scope cl C s H ex pn') tg g)(ht:∀C s H ex pn',PTs (a0x X N scope cl C s H ex pn') ifs tt)(he:∀C s H ex pn',PE (a0x X N scope cl C s H ex pn') elt te)(hs:∀x,foldedSetIterable iter X.env x=pure x):
  PE X (.ListComp elt [⟨tg,iter,ifs,0⟩] scope pos) (b2i wi nt fr g tt te):=by
 intro pins s σ H Q I h;rw[eval_ListComp];refine b9a hc k hi gk hg ht he hs I h λI3 f3 hC3 I7 qn=>?_;obtain⟨m7,hn7,_⟩:=id I7.loc;exact⟨m7,hn7,λh8 hs8=>⟨.ref _,_,I3.blockEnd f3 I7 hC3 hs8,rfl,qn⟩⟩
theorem a1j{elt iter tg:Expr}{pos:Pos}{wi:TI}{g:TG}{te:TE}(hc:X.calm=true)(k:CompOk X N scope cl nt fr)(hi:PI X tg iter wi)(gk:b1n nt g)(hg:∀C s H ex pn',PG (a0x X N scope cl C s H ex pn') tg g)(he:∀C s H ex pn',PE (a0x X N scope cl C s H ex pn') elt te)(hs:∀x,foldedSetIterable iter X.env x=pure x:=by intro _;rfl):
  PE X (.ListComp elt [⟨tg,iter,[],0⟩] scope pos) (c7c wi nt fr g te):=c1e hc k hi gk hg (λ_ _ _ _ _=>c4j) he hs
theorem a7k{elt iter tg ce:Expr}{pos:Pos}{wi:TI}{g:TG}{te:TE}{tt:TT}(hc:X.calm=true)(k:CompOk X N scope cl nt fr)(hi:PI X tg iter wi)(gk:b1n nt g)(hg:∀C s H ex pn',PG (a0x X N scope cl C s H ex pn') tg g)(ht:∀C s H ex pn',PT (a0x X N scope cl C s H ex pn') ce tt)(he:∀C s H ex pn',PE (a0x X N scope cl C s H ex pn') elt te)(hs:∀x,foldedSetIterable iter X.env x=pure x:=by intro _;rfl):
  PE X (.ListComp elt [⟨tg,iter,[ce],0⟩] scope pos) (b2i wi nt fr g tt te):=c1e hc k hi gk hg (λC s H ex pn'=>d0i (ht C s H ex pn')) he hs
end
end L2
namespace L2
open PySem PySem.Spec PyProof.Rows
structure FnT(P:Program)(w:World)(K:Frag)(mg:Str->Option Value)(base:Heap)(x:Str)(k:Nat)(ps:List Str)(sp:Sp):Prop where
 ex:∃(f:Addr)(fd:FuncData),c6q P w K mg base (CXK P w) k f fd ps sp/\mg x=some (.ref f)/\keepIn K (.ref f)=true/\Binds K fd ps []
theorem Fun.okX{P:Program}{w:World}{K:Frag}{mg:Str->Option Value}{base:Heap}{x qual:Str}{st:Stmt}{f:Addr}{fd:FuncData}{N ps:List Str}{k:Nat}{sp:Sp}(F:Fun K x qual st f fd)(S:j3 N ps (g7 st))(len:∀vs H Q E,sp vs H Q E->vs.length=ps.length)(hbody:∀(cdv:Value) (A:Around) (outer:List Env) (s:Shared) (H:Hp) (vs:List V) (Q:VK) (E:XK),Room k (A.deeper (envOfC qual (g7 st) s.heap.objs.size f cdv))->sp vs H Q E ->
   ∃t,PSs (a8f (CXK P w) P w K mg base N qual (g7 st) f cdv A outer s H E) (a2e st) t/\t { nx:=λ_ H'=>Q .non H',rt:=Q } (start N vs) H):c6q P w K mg base (CXK P w) (k+1) f fd ps sp:=by
 obtain⟨oc,od,kV,doc,pm,an,cdv,ct,osl,rfl,lk,hcd⟩:=F.ex;exact d6k lk hcd S len λA outer s H vs Q E hr hsp=>hbody cdv A outer s H vs Q E hr hsp
structure DefT(K:Frag)(mg:Str->Option Value)(x:Str)(st:Stmt)(ps:List Str):Prop where
 ex:∃(f:Addr)(fd:FuncData),Fun K x x st f fd/\mg x=some (.ref f)/\Binds K fd ps []
theorem DefT.fn{P:Program}{w:World}{K:Frag}{mg:Str->Option Value}{base:Heap}{x:Str}{st:Stmt}{N ps:List Str}{k:Nat}{sp:Sp}(D:DefT K mg x st ps)(S:j3 N ps (g7 st))(len:∀vs H Q E,sp vs H Q E->vs.length=ps.length)(hbody:∀(f:Addr) (cdv:Value) (A:Around) (outer:List Env) (s:Shared) (H:Hp) (vs:List V) (Q:VK) (E:XK),Room k (A.deeper (envOfC x (g7 st) s.heap.objs.size f cdv))->sp vs H Q E ->
   ∃t,PSs (a8f (CXK P w) P w K mg base N x (g7 st) f cdv A outer s H E) (a2e st) t/\t { nx:=λ_ H'=>Q .non H',rt:=Q } (start N vs) H):FnT P w K mg base x (k+1) ps sp:=by
 obtain⟨f,fd,F,hm,hb⟩:=D.ex;exact⟨f,fd,F.okX S len (hbody f),hm,F.kp,hb⟩
theorem DefT.mk'{K:Frag}{h:Heap}{mg:Str->Option Value}{x:Str}{st:Stmt}{ps:List Str}{f:Addr}{oc:Value}{od an:Option Addr}{osl:Array (Option Value)}{kV doc pm cdv ct:Value}(X:K.In h)(G:h.Ns mainGlobals mg)(a:nsIn K mainGlobals x=some (some (.ref f)))(l:K.lookup f=some ⟨oc,od,.func (PySem.W.fnOf x x (a3c st) (a2e st) (g7 st) .none kV doc pm an cdv ct),osl⟩)(c:codeIn K cdv x=true)(k:keepIn K (.ref f)=true)(hb:∀(kV doc pm:Value) (an:Option Addr) (cdv ct:Value) (us:List Value),us.length=ps.length->bindArgs (PySem.W.fnOf x x (a3c st) (a2e st) (g7 st) .none kV doc pm an cdv ct) ⟨us,[]⟩=pure (ps.zip us)):DefT K mg x st ps :=
 have F:=c9j (st:=st) (x:=x) (qual:=x) l c k
 ⟨_,_,F,mg_of X G a,F.binds hb⟩
def tFn(sp:Sp)(E:XK)(t:TA):TE:=λσ H Q=>t σ H λvs H1=>sp vs H1 Q E
section
variable{X:Cx}{k j:Nat}{ps:List Str}{sp:Sp}{E:XK}{J:St->XK}{x:Str}{p pos:Pos}{e:Expr}{es:List Expr}{t:TA}
theorem j5(G:FnT X.prog X.w X.K X.mg X.base x k ps sp)(hr:Room j X.A)(hj:k<=j)(hg:Gl X x)(hx:b5e (CXK X.prog X.w) X E)(ha:PA X (e::es) t)(hdb:(x == ("__debug__":Str))=false:=by decide)(he:starEach (e::es) X.env=(false,eval e X.env)::starEach es X.env:=by rfl)(hpl:(backTo pos (starEach es X.env)).any (·.1)=false:=by rfl):PE X (.Call (.Name x p) (e::es) [] pos) (tFn sp E t):=by
 obtain⟨f,fd,F,hm,hk,hb⟩:=G.ex;intro pins s σ H Q I h;refine d0n F (hr.mono hj) hg hm hk hb .nil hx ha hdb he hpl pins s σ H Q I ?_;show t σ H λvs H1=>sp (vs++[]) H1 Q E;simp only[List.append_nil];exact h
theorem c1d(G:FnT X.prog X.w X.K X.mg X.base x k ps sp)(hr:Room j X.A)(hj:k<=j)(hg:Gl X x)(hx:b0r X J)(ha:PA X (e::es) t)(hdb:(x == ("__debug__":Str))=false:=by decide)(he:starEach (e::es) X.env=(false,eval e X.env)::starEach es X.env:=by rfl)(hpl:(backTo pos (starEach es X.env)).any (·.1)=false:=by rfl):PE X (.Call (.Name x p) (e::es) [] pos) (c3x sp J t):=by
 obtain⟨f,fd,F,hm,hk,hb⟩:=G.ex;exact c7l F (hr.mono hj) hg hm hk hb hx ha hdb he hpl
theorem b4i{N:List Str}{scope:Scope}{cl:List (Str×Addr)}{C:Addr}{s:Shared}{H:Hp}{ex:List Addr}{pn':List (Addr×Obj)}:b5e (CXK X.prog X.w) (a0x X N scope cl C s H ex pn') E0:=by
 intro pins σ H' s' e s'' I h;obtain⟨_,_,_,_,_,_,_,q⟩:=h;exact q.elim
end
structure ExT(K:Frag)(mg:Str->Option Value)(x:Str)(C:Addr):Prop where
 k:ExK K C
 m:mg x=some (.ref C)
section
variable{X:Cx}
theorem a3r{P:Program}{w:World}{K:Frag}{mg:Str->Option Value}{base:Heap}{N:List Str}{qual:Str}{scope:Scope}{f:Addr}{cd:Value}{A:Around}{outer:List Env}{s₀:Shared}{H₀:Hp}{E₀:XK}{C:Addr}:
  c0p (a8f (CXK P w) P w K mg base N qual scope f cd A outer s₀ H₀ E₀) C E₀:=λpins σ H s h' e vs I hx q=>b7o I hx q
theorem a0w{x:Str}{n:Int}{pos:Pos}(hm:∃t,X.mg x=some (.int n t))(hg:Gl X x)(hd:(x == ("__debug__":Str))=false:=by decide):PE X (.Name x pos) (tC (.int n)):=by
 obtain⟨t,h⟩:=hm;exact b3b hg h ⟨t,rfl⟩ hd
theorem a8y{x:Str}{C:Addr}{pos:Pos}(T:ExT X.K X.mg x C)(hg:Gl X x)(hd:(x == ("__debug__":Str))=false:=by decide):PE X (.Name x pos) (tC (.ref C)):=b3b hg T.m rfl hd
theorem d3c{x:Str}{n:String}{pos:Pos}(hm:X.mg x=none)(hv:bootBuiltins x=some (.type n))(hg:Gl X x)(hn:x≠"__name__":=by decide)(hd:(x == ("__debug__":Str))=false:=by decide):PE X (.Name x pos) (tC (.ty n)):=d0o hg hm hv rfl hn hd
theorem a0o{x:Str}{C:Addr}{E:XK}{np cpos pos:Pos}{e₀:Expr}{rest:List Expr}{t:TA}(T:ExT X.K X.mg x C)(hc:X.calm=true)(hg:Gl X x)(hx:c0p X C E)(ha:PA X (e₀::rest) t)(hd:(x == ("__debug__":Str))=false:=by decide)(he:starEach (e₀::rest) X.env=(false,eval e₀ X.env)::starEach rest X.env:=by rfl)(hpl:(backTo cpos (starEach rest X.env)).any (·.1)=false:=by rfl):
  PS X (.Raise (some (.Call (.Name x np) (e₀::rest) [] cpos)) none pos) (c0v C E t):=c7i hc hg T.m T.k.ex hx ha hd he hpl
theorem c4t{o e:Expr}{to:TE}{t:TA}{apos cpos:Pos}(ho:PE X o to)(ha:PA X [e] t)(hbase:attributeBase o "append" X.env (eval o X.env)=eval o X.env:=by rfl)(hfew:((backTo cpos (starEach [e] X.env)).all (λx=>!x.1) && (backToKw cpos (keywordEach [] X.env)).all (λx=>x.1.isSome) && decide ([e].length+([]:List Keyword).length+(if ([]:List Keyword).isEmpty then 0 else 1)<30))=true:=by rfl)(hline:(apos.endLine == cpos.line)=true:=by rfl)(hs:starEach [e] X.env=(false,eval e X.env)::starEach [] X.env:=by rfl)(hplain:(backTo cpos (starEach [] X.env)).any (·.1)=false:=by rfl):
  PE X (.Call (.Attribute o "append" apos) [e] [] cpos) (tBM X.K "list" b5s to t) :=
 c4s PySem.F.plainAttrs_list PySem.F.slot_list_append PySem.F.type_list_append (λpins s σ H x xs v us Q I rx rs q=>b3n pins s σ H x xs v us Q I rx rs q) ho ha hbase hfew hline hs hplain
theorem c6l(hc:X.calm=true):a4w X (.builtin "all") (λxs H Q=>∃(p:Addr)(bs:List Bool),xs=[.ref p]/\SqL X.K H p (bs.map V.bl)/\Q (.bl (bs.all id)) H):=by
 intro pins s σ H xs us Q I r h;obtain⟨p,bs,rfl,hq,q⟩:=h;obtain⟨u,rfl,rx⟩:=r.one;cases rx;obtain⟨its,ri,pl,hz⟩:=I.list hq;have hl:=pl.isList;have hlt:p<s.heap.objs.size:=by obtain⟨_,e,_⟩:=hl;exact Heap.lt_size e
 have hn:its.toArray.size=bs.length:=by have:=ri.length;simpa using this.symm
 have wl:=Walks.list (prog:=X.prog) (w:=X.w) (A:=X.A.in1) (I.ok.hd hc) s.heap.objs.size p (Nat.ne_of_lt hlt) its.toArray;refine call_all_walk (wpAny_pyIter_list hl ⟨_,_,_,_,_,_,(λi=>(bs[i]?).getD true),rfl,wl,⟨⟨_,Heap.get?_push_size _ rfl,rfl,rfl⟩,hl.push _⟩,?_,?_⟩)
 ·intro i v s' Q' E' hP hQ
  have hP:its.toArray[i]?=some v:=hP;have hP:its[i]?=some v:=by simpa using hP
  have hi:i<(bs.map V.bl).length:=by
   have:=(List.getElem?_eq_some_iff.mp hP).1;rw[ri.length];exact this
  obtain⟨u,e,q'⟩:=ri.get (List.getElem?_eq_getElem hi);rw[hP] at e;cases e;have hi':i<bs.length:=by simpa using hi
  have e2:(bs.map V.bl)[i]=V.bl bs[i]:=List.getElem_map _;rw[e2] at q';cases (show v=Value.bool bs[i] from q');simp only[List.getElem?_eq_getElem hi',Option.getD_some] at hQ;exact wpAny_truthy_bool hQ
 ·intro h' tk hk
  have e:((List.range its.toArray.size).all λi=>(bs[i]?).getD true)=bs.all id:=by rw[hn];exact LSm.range_all bs
  rw[e];exact⟨.bl _,H,I.kept (t':=tk) (LSm.kept_iter hk),rfl,q⟩
def d6q(_ j:Int):Prop:=0<j/\j.natAbs.log2<9000
theorem a7t:OpR X (binaryOp .FloorDiv) (rI d6q λi j=>.int (i / j)):=opI λi j _ _ _ _ _ hc q=>by
 have e:i / j=i.fdiv j:=(Int.fdiv_eq_ediv_of_nonneg i (Int.le_of_lt hc.1)).symm;rw[e] at q;exact floordiv_int (by have:=hc.1;lia) q (.inl (PyProof.noPylong_of_log2 hc.2))
theorem i8{K:Frag}(h:X.K=K:=by rfl):IxR X (d5j K):=h ▸ d0y
theorem a0i{K:Frag}(h:X.K=K:=by rfl):IxR X (d5i K):=h ▸ d3m
theorem a1m{K:Frag}(h:X.K=K:=by rfl):SlR X (d4u K):=h ▸ d0d
theorem a3u{K:Frag}(h:X.K=K:=by rfl):OpR X (compareOp .In) (rIn K false):=h ▸ c5b
theorem a9p{K:Frag}(h:X.K=K:=by rfl):OpR X (compareOp .NotIn) (rIn K true):=h ▸ b7u
def d7e(K:Frag)(n:Nat):R2:=λx y H Q=>∃p q b,x=.ref p/\y=.ref q/\EqD K H (n+1) x y b/\Q (.bl b) H
def d7b(K:Frag)(n:Nat):R2:=λx y H Q=>∃p q b,x=.ref p/\y=.ref q/\EqD K H (n+1) x y b/\Q (.bl (!b)) H
theorem b3e{K:Frag}{n:Nat}(hu:X.A.units+(n+1)<cLine)(h:X.K=K:=by rfl):OpR X (compareOp .Eq) (d7e K n):=h ▸ d3f hu
theorem b3d{K:Frag}{n:Nat}(hu:X.A.units+(n+1)<cLine)(h:X.K=K:=by rfl):OpR X (compareOp .NotEq) (d7b K n):=h ▸ d3d hu
def d7c(K:Frag):List V->Hp->VK->Prop:=λxs H Q=>∃x c t cv b,xs=[x,c]/\TyX K H x t/\c6r c=some cv/\kitOne K t cv=some b/\Q (.bl b) H
def d2w(K:Frag):List V->Hp->VK->Prop:=λxs H Q=>∃a C tp cs cvs b,xs=[.ref a,.ref tp]/\H a=some (c3h a (.ref C))/\ExK K C/\H tp=some (.tup cs)/\cs.map c6r=cvs.map some/\PySem.W.kitAny K (.ref C) cvs=some b/\Q (.bl b) H
def d5h(K:Frag):List V->Hp->VK->Prop:=λxs H Q=>∃p ys,xs=[.ref p]/\(SqL K H p ys\/SqT K H p ys)/\Q (.int ys.length) H
def b9s(K:Frag):List V->Hp->VK->Prop:=λxs H Q=>∃p ys,xs=[.ref p]/\(SqL K H p ys\/SqT K H p ys)/\∀l,H l=none->Q (.ref l) (upd H l (.lst ys))
def d7w(K:Frag):List V->Hp->VK->Prop:=λxs H Q=>∃(p:Addr)(bs:List Bool),xs=[.ref p]/\SqL K H p (bs.map V.bl)/\Q (.bl (bs.all id)) H
theorem b3x{K:Frag}(h:X.K=K:=by rfl):a4w X (.builtin "isinstance") (d7c K):=h ▸ c8l
theorem b5d{K:Frag}(h:X.K=K:=by rfl):a4w X (.builtin "isinstance") (d2w K):=h ▸ c6k
theorem j2{K:Frag}(h:X.K=K:=by rfl):a4w X (.builtin "len") (d5h K):=h ▸ b9d
theorem a2s{K:Frag}(h:X.K=K:=by rfl):a4w X (.type "list") (b9s K):=h ▸ b9c
theorem b3y{K:Frag}(hc:X.calm=true)(h:X.K=K:=by rfl):a4w X (.builtin "all") (d7w K):=h ▸ c6l hc
theorem a1y{K:Frag}{tg l:Expr}{tl:TE}(hl:PE X l tl)(h:X.K=K:=by rfl):PI X tg l (d1a K tl):=h ▸ d0l hl
theorem a5a{K:Frag}{o e:Expr}{to:TE}{t:TA}{apos cpos:Pos}(ho:PE X o to)(ha:PA X [e] t)(hK:X.K=K:=by rfl)(hbase:attributeBase o "append" X.env (eval o X.env)=eval o X.env:=by rfl)(hfew:((backTo cpos (starEach [e] X.env)).all (λx=>!x.1) && (backToKw cpos (keywordEach [] X.env)).all (λx=>x.1.isSome) && decide ([e].length+([]:List Keyword).length+(if ([]:List Keyword).isEmpty then 0 else 1)<30))=true:=by rfl)(hline:(apos.endLine == cpos.line)=true:=by rfl)(hs:starEach [e] X.env=(false,eval e X.env)::starEach [] X.env:=by rfl)(hplain:(backTo cpos (starEach [] X.env)).any (·.1)=false:=by rfl):
  PE X (.Call (.Attribute o "append" apos) [e] [] cpos) (tBM K "list" b5s to t):=hK ▸ c4t ho ha hbase hfew hline hs hplain
theorem a0b{N:List Str}{scope:Scope}{nt:Nat}(clos:closureFor scope X.env=pure [])(kind:scope.kind=.function)(cell:∀y∈scope.names,y.2≠.cell)(names:∀y∈scope.names,y.2=.local->scope.names.lookup y.1=some .local)(has:((relabel scope X.env).names.all λy=>!(y.2 == .cell || y.2 == .free) || (([]:List (Str×Addr)).lookup y.1).isSome)=true)(len:N.length=nt):CompOk X N scope [] nt [] :=
 ⟨clos,kind,cell,names,λp hp=>(nomatch hp),has,len,λj i h=>by simp at h⟩
end
theorem huN{k:Nat}{A:Around}(hr:Room k A)(n:Nat)(h:n<=100:=by decide):A.units+n<cLine:=by
 have:=hr.un;lia
end L2
namespace L2
open PySem PySem.Spec PyProof.Rows
section
variable{X:Cx}{pins:List (Addr×Obj)}{σ:St}{H:Hp}{s:Shared}{N:List Str}{scope:Scope}{cl:List (Str×Addr)}{nt:Nat}{fr:List Nat}
theorem b9t{elt iter tg:Expr}{ifs:List Expr}{pos py spos:Pos}{y:Str}{ix:Nat}{wi:TI}{g:TG}{te:TE}{tt:TT}(hc:X.calm=true)(k:CompOk X N scope cl nt fr)(hi:PI X tg iter wi)(gk:b1n nt g)(hg:∀C s H ex pn',PG (a0x X N scope cl C s H ex pn') tg g)(ht:∀C s H ex pn',PTs (a0x X N scope cl C s H ex pn') ifs tt)(he:∀C s H ex pn',PE (a0x X N scope cl C s H ex pn') elt te)(hN:X.N.Nodup)(hi2:X.N[ix]?=some y)(hy:X.env.scope.names.lookup y=some .local)(hsw:swapsWith (.ListComp elt [⟨tg,iter,ifs,0⟩] scope pos) (some (.Name y py)) spos.line X.env=pure true)(hs:∀x,foldedSetIterable iter X.env x=pure x):
  PS X (.Assign [.Name y py] (.ListComp elt [⟨tg,iter,ifs,0⟩] scope pos) spos) (d2p (b2i wi nt fr g tt te) (a2r ix)):=by
 intro pins s σ H DD I h;rw[exec_Assign_Name_used _ _ _ _ hsw];refine wpAny_bind (wpAny_standAt (wpAny_bind ?_));show wpAny _ X.A (do let _ <- comprehension (.ListComp elt [⟨tg,iter,ifs,0⟩] scope pos) scope X.env _ (newList []) false (eval iter X.env) (some (assign (.Name y py) X.env))) _ _ s
 refine wpAny_bind (wpAny_mono (b9a (PQ:=λ_ s'=>SP X pins DD .next s') hc k hi gk hg ht he hs I h λ{H3 s3 C D fp H6 s7} I3 f3 hC3 I7 qn=>?_) (λ_ s' hq=>wpAny_pure (wpAny_pure hq)) λ_ _ e=>e);obtain⟨m7,hn7,_⟩:=id I7.loc;have I7x:Inv X pins σ H6 s7:=I3.blockEnd (h'':=s7.heap) f3 I7 hC3 (.refl ..);show wpAny _ X.A (assign (.Name y py) X.env (.ref D)) _ _ _;refine wpAny_assign_Name (b6z (v:=.ref D) I7x hN hi2 (Or.inl hy) rfl (λs8 I8 z0_=>?_) (Or.inr hy));obtain⟨a8,sb8,or8⟩:=z0_;have no:∀{a:Addr},a<s3.heap.objs.size->a≠C:=λh z=>absurd (Nat.lt_of_lt_of_le (z ▸ h) hC3) (Nat.lt_irrefl _);have ne8:C≠a8:=λz=>by
  rcases or8 with q|q
  ·exact no I3.lt (q.symm.trans z.symm)
  ·obtain⟨v8,q8⟩:=I3.cell _ _ q
   exact no q8.lt z.symm
 refine⟨m7,hn7.sameBut sb8 ne8,λh9 hs9=>⟨_,H6,?_,qn⟩⟩;refine I8.turned (it:=C) (t':=s8.toks) (λb o hb e=>(hs9.2 b hb).trans e) I7.free (Nat.ne_of_gt (Nat.lt_of_lt_of_le I3.lt hC3)) (.inr (Nat.le_trans I3.sz hC3)) (λx c e z=>?_) (λp hp z=>no (Heap.lt_size (I3.pin p hp).1) z);obtain⟨v8,q8⟩:=I3.cell x c e;exact no q8.lt z
theorem a4z{elt iter tg:Expr}{pos py spos:Pos}{y:Str}{ix:Nat}{wi:TI}{g:TG}{te:TE}(hc:X.calm=true)(k:CompOk X N scope cl nt fr)(hi:PI X tg iter wi)(gk:b1n nt g)(hg:∀C s H ex pn',PG (a0x X N scope cl C s H ex pn') tg g)(he:∀C s H ex pn',PE (a0x X N scope cl C s H ex pn') elt te)(hN:X.N.Nodup)(hi2:X.N[ix]?=some y)(hy:X.env.scope.names.lookup y=some .local)(hsw:swapsWith (.ListComp elt [⟨tg,iter,[],0⟩] scope pos) (some (.Name y py)) spos.line X.env=pure true:=by rfl)(hs:∀x,foldedSetIterable iter X.env x=pure x:=by intro _;rfl):
  PS X (.Assign [.Name y py] (.ListComp elt [⟨tg,iter,[],0⟩] scope pos) spos) (d2p (c7c wi nt fr g te) (a2r ix)):=b9t hc k hi gk hg (λ_ _ _ _ _=>c4j) he hN hi2 hy hsw hs
end
section
variable{X:Cx}
end
theorem a3j{n:Nat}{nt:Nat}{fr:List Nat}{g:TG}{te:TE}{σ:St}{H:Hp}{Q:Addr->Hp->Prop}(hz:n<sizeLine)(Pv:Addr->Nat->List V->Hp->Prop)(h0:∀D,H D=none->Pv D 0 [] (upd H D (.lst [])))(hk:∀D i acc H',Pv D i acc H'->H' D=some (.lst acc)/\acc.length=i)(hs:∀D i acc H',H D=none->i<n->Pv D i acc H'->g (.int (0+(i:Int))) (a0g nt fr σ) H' λσ2 H2=>te σ2 H2 λy H3=>H3 D=some (.lst acc)/\Pv D (i+1) (acc++[y]) (upd H3 D (.lst (acc++[y]))))(hd:∀D acc H',H D=none->Pv D n acc H'->Q D H'):
  ∀D,H D=none->∃(m:Nat)(W:Nat->List V->Hp->Prop),W 0 [] (upd H D (.lst []))/\∀i acc H',W i acc H'->H' D=some (.lst acc)/\acc.length<sizeLine /\
   (((Itr 0 n).stop i H'/\Q D H')\/(i<m/\(Itr 0 n).go i H'/\∀x H2,(Itr 0 n).yld i H' x H2->g x (a0g nt fr σ) H2 λσ2 H3=>te σ2 H3 λy H4=>H4 D=some (.lst acc)/\W (i+1) (acc++[y]) (upd H4 D (.lst (acc++[y]))))):=by
 intro D hD;refine⟨n,λi acc H'=>i<=n/\Pv D i acc H',⟨Nat.zero_le _,h0 D hD⟩,?_⟩;rintro i acc H' ⟨hi,p⟩;obtain⟨k1,k2⟩:=hk D i acc H' p;refine⟨k1,by lia,?_⟩
 by_cases h:i<n
 ·refine .inr ⟨h,h,?_⟩
  rintro x H2 ⟨rfl,rfl⟩;have key:=hs D i acc _ hD h p;have e:(λ(σ2:St) (H2:Hp)=>te σ2 H2 λy H3=>H3 D=some (.lst acc)/\Pv D (i+1) (acc++[y]) (upd H3 D (.lst (acc++[y]))))=(λ(σ2:St) (H3:Hp)=>te σ2 H3 λy H4=>H4 D=some (.lst acc)/\i+1<=n/\Pv D (i+1) (acc++[y]) (upd H4 D (.lst (acc++[y])))):=by
   funext σ2 H3;have:(λ(y:V) (H3:Hp)=>H3 D=some (.lst acc)/\Pv D (i+1) (acc++[y]) (upd H3 D (.lst (acc++[y]))))=(λ(y:V) (H4:Hp)=>H4 D=some (.lst acc)/\i+1<=n/\Pv D (i+1) (acc++[y]) (upd H4 D (.lst (acc++[y])))):=by
    funext y H4;have h1:i+1<=n:=h;simp[h1]
   rw[this]
  rw[e] at key;exact key
 ·have e:i=n:=by lia
  subst e;exact .inl ⟨Nat.le_refl _,hd D acc H' hD p⟩
theorem a5y{X:Cx}{N:List Str}{scope:Scope}{x:Str}{c:Addr}{nt i:Nat}(clos:closureFor scope X.env=pure [(x,c)])(kind:scope.kind=.function)(cell:∀y∈scope.names,y.2≠.cell)(names:∀y∈scope.names,y.2=.local->scope.names.lookup y.1=some .local)(sub:X.env.cells.lookup x=some c)(has:((relabel scope X.env).names.all λy=>!(y.2 == .cell || y.2 == .free) || ([(x,c)].lookup y.1).isSome)=true)(len:N.length=nt+1)(hN:N[nt]?=some x)(hX:X.N[i]?=some x)(hk:X.env.kindOf x=some .cell)(hr:(relabel scope X.env).names.lookup x=some .cell):CompOk X N scope [(x,c)] nt [i] :=
 ⟨clos,kind,cell,names,λp hp=>(by
  rw[List.mem_singleton] at hp;subst hp;exact sub),has,len,λj i' h=>(by
  cases j with
  | zero=>cases h;exact⟨x,hN,hX,.inl hk,.inl hr⟩
  | succ j=>cases h)⟩
end L2
namespace L2
open PySem PySem.Spec PyProof.Rows
section
variable{X:Cx}{pins:List (Addr×Obj)}{σ:St}{H:Hp}{s:Shared}{h':Heap}
end
section
variable{X:Cx}
theorem a3s{K:Frag}{es:List Expr}{k:Nat}{t:TGs}{n:Nat}{pos:Pos}(hc:X.calm=true)(h:PGs X es t)(hK:X.K=K:=by rfl)(hn:(assignEach es X.env).length=n:=by rfl)(hst:(assignEach es X.env).findIdx? (·.1)=none:=by rfl):PG X (.Tuple es k pos) (d4w K n t):=hK ▸ d3a hc h hn hst
theorem c2f{N:List Str}{scope:Scope}{x y:Str}{c d:Addr}{nt i j:Nat}(clos:closureFor scope X.env=pure [(x,c),(y,d)])(kind:scope.kind=.function)(cell:∀y∈scope.names,y.2≠.cell)(names:∀y∈scope.names,y.2=.local->scope.names.lookup y.1=some .local)(sub:X.env.cells.lookup x=some c)(sub2:X.env.cells.lookup y=some d)(has:((relabel scope X.env).names.all λz=>!(z.2 == .cell || z.2 == .free) || ([(x,c),(y,d)].lookup z.1).isSome)=true)(len:N.length=nt+2)(hN:N[nt]?=some x)(hN2:N[nt+1]?=some y)(hX:X.N[i]?=some x)(hX2:X.N[j]?=some y)(hk:X.env.kindOf x=some .cell)(hk2:X.env.kindOf y=some .cell)(hr:(relabel scope X.env).names.lookup x=some .cell)(hr2:(relabel scope X.env).names.lookup y=some .cell):CompOk X N scope [(x,c),(y,d)] nt [i,j] :=
 ⟨clos,kind,cell,names,λp hp=>(by
  simp only[List.mem_cons,List.not_mem_nil,or_false] at hp;rcases hp with rfl|rfl
  ·exact sub
  ·exact sub2),has,len,λm i' h=>(by
  match m,h with
  | 0,h=>cases h;exact⟨x,hN,hX,.inl hk,.inl hr⟩
  | 1,h=>cases h;exact⟨y,hN2,hX2,.inl hk2,.inl hr2⟩
  | m+2,h=>cases h)⟩
end
end L2
namespace L2
open PySem PySem.Spec PyProof.Rows
section
variable{X:Cx}{k j:Nat}{ps:List Str}{sp:Sp}{E:XK}{x:Str}{p pos:Pos}{e:Expr}{es:List Expr}{t:TA}
end
structure ExM(mg:Str->Option Value)(x:Str)(C:Addr):Prop where
 m:mg x=some (.ref C)
theorem a7j{X:Cx}{x:Str}{C:Addr}{pos:Pos}(T:ExM X.mg x C)(hg:Gl X x)(hd:(x == ("__debug__":Str))=false:=by decide):PE X (.Name x pos) (tC (.ref C)):=b3b hg T.m rfl hd
end L2
namespace L2
open PySem PySem.Spec PyProof.Rows
section
variable{X:Cx}{pins:List (Addr×Obj)}{σ:St}{H:Hp}{s:Shared}{N:List Str}{scope:Scope}{cl:List (Str×Addr)}{nt:Nat}{fr:List Nat}
end
end L2
namespace L2
open PySem PySem.Spec PyProof.Rows SeqAt
section
variable{X:Cx}{k j:Nat}{C:Addr}{ps:List Str}{sp:Sp}{E:XK}{J:St->XK}{x m:Str}{p pos apos:Pos}{e o:Expr}{es:List Expr}{ta:TE}{t:TA}{pl:Sem Bool}
end
section
variable{X:Cx}{o e value:Expr}{f:Str}{pos pos' tpos:Pos}{ta tv:TE}
end
def KTup(K:Frag)(p:Addr)(xs:List V):Prop:=∃(its:Array Value)(n:Nat)(sl:Array (Option Value)),K.lookup p=some ⟨.type "tuple",none,.seq its n,sl⟩/\its.size<=sizeLine/\Vals xs its.toList
theorem KTup.sq{K:Frag}{p:Addr}{xs:List V}{H:Hp}(h:KTup K p xs):SqT K H p xs:=by obtain⟨its,n,sl,a,b,c⟩:=h;exact .inr ⟨_,its,n,a,rfl,rfl,b,c⟩
theorem KTup.ty{K:Frag}{p:Addr}{xs:List V}{H:Hp}(h:KTup K p xs):tyV K "tuple" (.ref p) H:=by obtain⟨_,_,_,a,_,_⟩:=h;exact .inr (.inl ⟨rfl,_,a,rfl,rfl⟩)
theorem a3t{X:Cx}{x:Str}{a:Addr}{pos:Pos}(hm:X.mg x=some (.ref a))(hg:Gl X x)(hd:(x == ("__debug__":Str))=false:=by decide):PE X (.Name x pos) (tC (.ref a)):=b3b hg hm rfl hd
theorem b6y(l:Addr)(a b:Value)(n:Nat)(dd:Option Addr)(sl:Array (Option Value))(x:Value)(e:Value->Bool)(j:Nat)(hj:j=if e a then 0 else 1)(hit:e a=true\/e b=true):
  Meets (Builtin.«tuple.index» ⟨[.ref l,x],[]⟩)
   (λA R s=>s.heap.get? l=some { cls:=.type "tuple",dict:=dd,data:=.seq #[a,b] n,slots:=sl }/\(∀y,y ∈ #[a,b]->EqAt A.in1 s y x (e y))/\R (.ok (.ret (.int j s.toks))) { s with toks:=s.toks+1 }):=by
 intro prog w A R s h;obtain⟨hp,g,d,tk,os⟩:=s;obtain⟨hl,he,h⟩:=h;unfold Builtin.«tuple.index»;simp only[Std.Legacy.Range.forIn_eq_forIn_range']
 wp_walk using wpAny_loadPart' hl
 have e0:[:min #[a,b].size #[a,b].size].size=2:=by simp[Std.Legacy.Range.size]
 generalize hL:[:min #[a,b].size #[a,b].size].size=N at e0 ⊢;subst e0;change wpAny (model prog w) A.in1 (List.forIn'.loop [0,1] _ [0,1] (none,()) _) _ _ _;change wpAny (model prog w) A.in1 ((eqBool a x >>= _) >>= _) _ _ _;refine wpAny_bind ?_;refine wpAny_bind (he a (by simp) prog w _ _ ?_)
 cases ea:e a with
 | true=>
  rw[ea] at hj;subst hj
  wp_walk
  exact h
 | false=>
  rw[ea] at hj;subst hj;refine wpAny_pure ?_;change wpAny (model prog w) A.in1 ((eqBool b x >>= _) >>= _) _ _ _;refine wpAny_bind ?_;refine wpAny_bind (he b (by simp) prog w _ _ ?_)
  rw[hit.resolve_left (by rw[ea];exact Bool.false_ne_true)]
  wp_walk
  exact h
def c4i(K:Frag):V->List V->Hp->VK->Prop:=λx vs H Q=>∃p y z1 z2,x=.ref p/\vs=[y]/\KTup K p [z1,z2]/\a3g z1=true/\a3g z2=true/\a3g y=true/\(eqV z1 y=true\/eqV z2 y=true)/\Q (.int (if eqV z1 y then 0 else 1)) H
section
variable{X:Cx}
theorem c5f:MtM X "tuple.index" (c4i X.K):=by
 intro pins s σ H x vs v us Q I rx rv h;obtain⟨p,y,z1,z2,rfl,rfl,⟨its,n,sl,lk,hz,r⟩,f1,f2,fy,hit,q⟩:=h;cases rx;obtain⟨u,rfl,ru⟩:=rv.one;obtain⟨u1,u2,eu,r1,r2⟩:=r.two;have hi:its=#[u1,u2]:=by apply Array.toList_inj.mp;rw[eu]
 subst hi;have e:=I.kIn _ _ lk;have fx:([z1,z2]:List V).all a3g=true:=by simp[f1,f2]
 have h1:eqU y u1=eqV z1 y:=c2b r1 f1;have h2:eqU y u2=eqV z2 y:=c2b r2 f2;refine call_meets F.slot_tuple_index ⟨_,e,rfl⟩ F.entry_tuple_index (F.args_tuple_index_2 _ _) (b6y p u1 u2 n none sl u (eqU y) (if eqU y u1 then 0 else 1) rfl (by rw[h1,h2];exact hit)) ⟨e,λw hw=>a7v ru fy r fx w (by simpa using hw),?_⟩
 rw[h1];refine⟨.int (if eqV z1 y then 0 else 1),H,I.tok _,?_,q⟩;by_cases c:eqV z1 y=true
 ·rw[if_pos c,if_pos c];exact⟨_,rfl⟩
 ·rw[if_neg c,if_neg c];exact⟨_,rfl⟩
theorem c2y{K:Frag}{o e:Expr}{to:TE}{t:TA}{apos cpos:Pos}(ho:PE X o to)(ha:PA X [e] t)(hK:X.K=K:=by rfl)(hbase:attributeBase o "index" X.env (eval o X.env)=eval o X.env:=by rfl)(hfew:((backTo cpos (starEach [e] X.env)).all (λx=>!x.1) && (backToKw cpos (keywordEach [] X.env)).all (λx=>x.1.isSome) && decide ([e].length+([]:List Keyword).length+(if ([]:List Keyword).isEmpty then 0 else 1)<30))=true:=by rfl)(hline:(apos.endLine == cpos.line)=true:=by rfl)(hs:starEach [e] X.env=(false,eval e X.env)::starEach [] X.env:=by rfl)(hplain:(backTo cpos (starEach [] X.env)).any (·.1)=false:=by rfl):
  PE X (.Call (.Attribute o "index" apos) [e] [] cpos) (tBM K "tuple" (c4i K) to t) :=
 hK ▸ c4s PySem.F.plainAttrs_tuple PySem.F.slot_tuple_index PySem.F.type_tuple_index (λpins s σ H x xs v us Q I rx rs q=>c5f pins s σ H x xs v us Q I rx rs q) ho ha hbase hfew hline hs hplain
end
end L2
namespace L2
open PySem PySem.Spec PyProof.Rows
section
variable{K:Frag}{σ:St}{H:Hp}{Q:VK}{i:Nat}{v x y:V}{r:R2}{ta tb:TE}{nx bk ct:St->Hp->Prop}{rt:VK}{E:XK}{C:Addr}{m:Str}{sp:Sp}{t:TA}{J:St->XK}
theorem d1d(h:σ[i]?=some (some v))(q:Q v H):d4r i σ H Q:=⟨v,h,q⟩
theorem g_c(q:Q v H):tC v σ H Q:=q
theorem d8f(q:ta σ H λx H1=>tb σ H1 λy H2=>r x y H2 Q):tOp r ta tb σ H Q:=q
theorem d8b{r:V->Hp->VK->Prop}(q:ta σ H λx H1=>r x H1 Q):tUn r ta σ H Q:=q
theorem d8m{g:Int->Int->V}{a b:Int}(q:Q (g a b) H):rI0 g (.int a) (.int b) H Q:=⟨a,b,rfl,rfl,q⟩
theorem g_I{c:Int->Int->Prop}{g:Int->Int->V}{a b:Int}(h:c a b)(q:Q (g a b) H):rI c g (.int a) (.int b) H Q:=⟨a,b,rfl,rfl,h,q⟩
theorem g_U{g:Int->V}{a:Int}(q:Q (g a) H):rU g (.int a) H Q:=⟨a,rfl,q⟩
theorem d8j(h:d4t x y=true)(q:Q (.bl (decide (x=y))) H):rEq x y H Q:=⟨h,q⟩
theorem d8g(h:d4t x y=true)(q:Q (.bl (!decide (x=y))) H):rNe x y H Q:=⟨h,q⟩
theorem c0i{n:Nat}{p q:Addr}{b:Bool}(h:EqD K H (n+1) (.ref p) (.ref q) b)(z:Q (.bl b) H):d7e K n (.ref p) (.ref q) H Q:=⟨p,q,b,rfl,rfl,h,z⟩
theorem b6n{n:Nat}{p q:Addr}{b:Bool}(h:EqD K H (n+1) (.ref p) (.ref q) b)(z:Q (.bl (!b)) H):d7b K n (.ref p) (.ref q) H Q:=⟨p,q,b,rfl,rfl,h,z⟩
theorem a4d{p:Addr}{xs:List V}{j:Int}(h:H p=some (.lst xs))(e:atI xs j=some v)(q:Q v H):d5j K (.ref p) (.int j) H Q:=⟨p,xs,j,v,rfl,rfl,SqL.of h,e,q⟩
theorem b6o{p:Addr}{xs:List V}{j:Int}(h:H p=some (.tup xs))(e:atI xs j=some v)(q:Q v H):d5i K (.ref p) (.int j) H Q:=⟨p,xs,j,v,rfl,rfl,SqT.of h,e,q⟩
theorem d6e{p:Addr}{xs:List V}(h:H p=some (.lst xs))(q:Q (.int xs.length) H):d5h K [.ref p] H Q:=⟨p,xs,rfl,.inl (SqL.of h),q⟩
theorem d7i{r:List V->Hp->VK->Prop}(q:t σ H λvs H1=>r vs H1 Q):tCB r t σ H Q:=q
theorem c5u{Q:List V->Hp->Prop}(q:Q [] H):d1w σ H Q:=q
theorem c9i{Q:List V->Hp->Prop}(q:ta σ H λx H1=>t σ H1 λxs H2=>Q (x::xs) H2):c7b ta t σ H Q:=q
theorem d5w(q:t σ H λxs H1=>xs.length<=sizeLine/\∀p,H1 p=none->Q (.ref p) (upd H1 p (.tup xs))):d6r t σ H Q:=q
theorem d6d(q:t σ H λxs H1=>xs.length<=sizeLine/\∀p,H1 p=none->Q (.ref p) (upd H1 p (.lst xs))):d6w t σ H Q:=q
theorem d8i(q:t σ H λvs H1=>sp vs H1 Q E):tFn sp E t σ H Q:=q
theorem d6h(q:t σ H λvs H1=>sp vs H1 Q (J σ)):c3x sp J t σ H Q:=q
theorem d3u{Q:Bool->Hp->Prop}(q:ta σ H λx H'=>∃k,x=.bl k/\Q k H'):d0b ta σ H Q:=q
theorem d8c{Q:Bool->Hp->Prop}(q:ta σ H λx H'=>∃k,x=.bl k/\Q k H'):tB ta σ H Q:=q
theorem d8l{Q:Bool->Prop}{b:Bool}(q:Q b):∃k,V.bl b=.bl k/\Q k:=⟨b,rfl,q⟩
theorem d6i{u w:TT}{Q:Bool->Hp->Prop}(q:u σ H λc H1=>if c=true then w σ H1 Q else Q false H1):d6y u w σ H Q:=q
theorem d8e{u w:TT}{Q:Bool->Hp->Prop}(q:u σ H λc H1=>if c=true then Q true H1 else w σ H1 Q):tOr u w σ H Q:=q
theorem d6c{u:TT}{Q:Bool->Hp->Prop}(q:u σ H λc H1=>Q (!c) H1):d6v u σ H Q:=q
theorem d4i(q:ta σ H λx H1=>∃c,x=.bl c/\if c=true then tb σ H1 Q else Q (.bl false) H1):d2q ta tb σ H Q:=q
theorem d6b(q:ta σ H λx H1=>∃c,x=.bl c/\if c=true then Q (.bl true) H1 else tb σ H1 Q):d6u ta tb σ H Q:=q
theorem d6f{u:TT}(q:u σ H λc H1=>if c=true then ta σ H1 Q else tb σ H1 Q):tIf u ta tb σ H Q:=q
theorem d5z{s u:TS}(q:s ⟨u ⟨nx,rt,bk,ct⟩,rt,bk,ct⟩ σ H):d4s s u ⟨nx,rt,bk,ct⟩ σ H:=q
theorem d4a(q:nx σ H):d0c ⟨nx,rt,bk,ct⟩ σ H:=q
theorem d4f(q:ta σ H λ_ H1=>nx σ H1):d2n ta ⟨nx,rt,bk,ct⟩ σ H:=q
theorem d6a(q:ta σ H rt):d6t ta ⟨nx,rt,bk,ct⟩ σ H:=q
theorem d8h{c:TT}{s u:TS}{D:Ends}(q:c σ H λb H1=>if b=true then s D σ H1 else u D σ H1):d5d c s u D σ H:=q
theorem d4h{g:TG}(q:ta σ H λx H1=>g x σ H1 nx):d2p ta g ⟨nx,rt,bk,ct⟩ σ H:=q
theorem a3x{k:St->Hp->Prop}(q:k (σ.set i (some v)) H):a2r i v σ H k:=q
theorem d5x{ts:d4x}{k:St->Hp->Prop}(q:ta σ H λo H1=>tb σ H1 λj H2=>ts o j v H2 λH3=>k σ H3):d7j ta tb ts v σ H k:=q
theorem c5t{p:Addr}{xs:List V}{z:Int}{j:Nat}{k:Hp->Prop}(h:H p=some (.lst xs))(e:ixN xs.length z=some j)(q:k (upd H p (.lst (xs.set j v)))):d2v (.ref p) (.int z) v H k:=⟨p,xs,z,j,rfl,rfl,h,e,q⟩
theorem d1g{c:Addr}{tb:(St->XK)->TS}{th:TS}(q:tb (λσ1 C _ H'=>exmOne K C (.ref c)=some true/\∀a,H' a=none->th ⟨λσ H=>nx (σ.set i none) H,rt,λσ H=>bk (σ.set i none) H,λσ H=>ct (σ.set i none) H⟩ (σ1.set i (some (.ref a))) (upd H' a (c3h a C))) ⟨nx,rt,bk,ct⟩ σ H):
  c8t K c i tb th ⟨nx,rt,bk,ct⟩ σ H:=q
theorem c3f{t cv:Value}{c:V}{b:Bool}(ty:TyX K H x t)(hc:c6r c=some cv)(hk:kitOne K t cv=some b)(q:Q (.bl b) H):d7c K [x,c] H Q:=⟨x,c,t,cv,b,rfl,ty,hc,hk,q⟩
theorem c1v{a C tp:Addr}{cs:List V}{cvs:List Value}{b:Bool}(ha:H a=some (c3h a (.ref C)))(hk:ExK K C)(ht:H tp=some (.tup cs))(hc:cs.map c6r=cvs.map some)(he:PySem.W.kitAny K (.ref C) cvs=some b)(q:Q (.bl b) H):d2w K [.ref a,.ref tp] H Q:=⟨a,C,tp,cs,cvs,b,rfl,ha,hk,ht,hc,he,q⟩
theorem d1h(q:t σ H λvs H1=>vs.length<=sizeLine/\E (.ref C) none H1){D:Ends}:c0v C E t D σ H:=q
theorem d8k{T:String}{r:V->List V->Hp->VK->Prop}(q:ta σ H λx H1=>tyV K T x H1/\t σ H1 λxs H2=>r x xs H2 Q):tBM K T r ta t σ H Q:=q
theorem c8g{p:Addr}{xs:List V}(h:H p=some (.lst xs))(l:xs.length<sizeLine)(q:Q .non (upd H p (.lst (xs++[y])))):b5s (.ref p) [y] H Q:=⟨p,xs,y,rfl,rfl,h,l,q⟩
theorem d5v{p:Addr}{xs:List V}{R:Prop}(h:H p=some (.lst xs))(q:R):tyV K "list" (.ref p) H/\R:=⟨.inl ⟨rfl,xs,SqL.of h⟩,q⟩
theorem a7x{p q:Addr}{xs ys:List V}(h:H p=some (.lst xs))(h':H q=some (.lst ys))(l:xs.length+ys.length<=sizeLine)(k:∀z,H z=none->Q (.ref z) (upd H z (.lst (xs++ys)))):d5m (.ref p) (.ref q) H Q:=⟨p,q,xs,ys,rfl,rfl,h,h',l,k⟩
end
theorem x9{c:Prop}[Decidable c]{A B:Prop}(h1:c->A)(h2:¬ c->B):if decide c=true then A else B:=by
 by_cases h:c
 ·rw[decide_eq_true h];exact d5p (h1 h)
 ·rw[decide_eq_false h];exact d5s (h2 h)
theorem a0u{c:Prop}[Decidable c]{A B:Prop}(h1:¬ c->A)(h2:c->B):if (!decide c)=true then A else B:=by
 by_cases h:c
 ·rw[decide_eq_true h];exact d5s (h2 h)
 ·rw[decide_eq_false h];exact d5p (h1 h)
end L2
namespace L2
open PySem PySem.Spec PyProof.Rows
section
variable{K:Frag}{σ:St}{H:Hp}{ta:TE}{t:TA}
theorem d6g{wi:TI}{g:TG}{tb:TS}{D:Ends}(q:wi σ H λJ H1=>∃W:Nat->Nat->St->Hp->Prop,(∃m,W 0 m σ H1)/\∀i m σ H,W i m σ H ->
  (J.stop i H/\D.nx σ H)\/(J.go i H/\∃N:St->Hp->Prop,(∀σ' H',N σ' H'->∃m',m'<m/\W (i+1) m' σ' H')/\∀x H',J.yld i H x H'->g x σ H' λσ2 H2=>tb { D with nx:=N,ct:=N,bk:=D.nx } σ2 H2)):d6x wi g tb D σ H:=q
theorem d3y{R:It->Hp->Prop}(q:t σ H λvs H1=>∃j:Int,vs=[.int j]/\-(2 ^ 62)<=j/\j<2 ^ 62/\R (Itr 0 j.toNat) H1):d3o t σ H R:=q
theorem d3x{R:It->Hp->Prop}(q:t σ H λvs H1=>∃i j:Int,vs=[.int i,.int j]/\(-(2 ^ 62)<=i/\i<2 ^ 62/\-(2 ^ 62)<=j/\j<2 ^ 62)/\R (Itr i (j-i).toNat) H1):d3n t σ H R:=q
theorem c9g{N:Int}{R:Int->Prop}(h1:-(2 ^ 62)<=N)(h2:N<2 ^ 62)(q:R N):∃j,[V.int N]=[.int j]/\-(2 ^ 62)<=j/\j<2 ^ 62/\R j:=⟨N,rfl,h1,h2,q⟩
theorem d4b{R:It->Hp->Prop}(q:ta σ H λx H1=>∃a,x=.ref a/\(∃xs,SqL K H1 a xs)/\R (Itl K a) H1):d1a K ta σ H R:=q
theorem d4c{a:Addr}{xs:List V}{R:Addr->Prop}(h:SqL K H a xs)(q:R a):∃a',V.ref a=.ref a'/\(∃xs,SqL K H a' xs)/\R a':=⟨a,rfl,⟨xs,h⟩,q⟩
theorem d4g{wi:TI}{nt:Nat}{fr:List Nat}{g:TG}{te:TE}{Q:VK}(q:wi σ H λJ H1=>∀D,H1 D=none->∃(n:Nat) (W:Nat->List V->Hp->Prop),W 0 [] (upd H1 D (.lst [])) /\
 ∀i acc H,W i acc H->H D=some (.lst acc)/\acc.length<sizeLine /\
  ((J.stop i H/\Q (.ref D) H)\/(i<n/\J.go i H/\∀x H',J.yld i H x H'->g x (a0g nt fr σ) H' λσ2 H2=>te σ2 H2 λy H3=>H3 D=some (.lst acc)/\W (i+1) (acc++[y]) (upd H3 D (.lst (acc++[y])))))):c7c wi nt fr g te σ H Q:=q
theorem a5l{a b:TS}{nx bk ct:St->Hp->Prop}{rt:VK}(M:St->Hp->Prop)(hb:∀σ' H',M σ' H'->b ⟨nx,rt,bk,ct⟩ σ' H')(ha:∀R:St->Hp->Prop,(∀σ' H',M σ' H'->R σ' H')->a ⟨R,rt,bk,ct⟩ σ H):d4s a b ⟨nx,rt,bk,ct⟩ σ H:=ha _ hb
theorem d5q{A B:Prop}(h:B):if (!true)=true then A else B:=h
theorem d5r{A B:Prop}(h:A):if (!false)=true then A else B:=h
theorem c0k{n:Nat}{nt:Nat}{fr:List Nat}{g:TG}{te:TE}{f:Nat->V}{Q:Addr->Hp->Prop}(hz:n<sizeLine)(hs:∀(i:Nat) (H':Hp) (k:VK),i<n->Same H H'->k (f i) H'->g (.int (0+(i:Int))) (a0g nt fr σ) H' λσ2 H2=>te σ2 H2 k)(hd:∀D,H D=none->Q D (upd H D (.lst ((List.range n).map f)))):
  ∀D,H D=none->∃(m:Nat)(W:Nat->List V->Hp->Prop),W 0 [] (upd H D (.lst []))/\∀i acc H',W i acc H'->H' D=some (.lst acc)/\acc.length<sizeLine /\
   (((Itr 0 n).stop i H'/\Q D H')\/(i<m/\(Itr 0 n).go i H'/\∀x H2,(Itr 0 n).yld i H' x H2->g x (a0g nt fr σ) H2 λσ2 H3=>te σ2 H3 λy H4=>H4 D=some (.lst acc)/\W (i+1) (acc++[y]) (upd H4 D (.lst (acc++[y]))))):=by
 refine a3j hz (λD i acc H'=>acc=(List.range i).map f/\H'=upd H D (.lst acc)) (λD hD=>⟨rfl,rfl⟩) ?_ ?_ ?_
 ·rintro D i acc H' ⟨rfl,rfl⟩
  exact⟨d8,by rw[List.length_map,List.length_range]⟩
 ·rintro D i acc H' hD hi ⟨rfl,rfl⟩
  refine hs i _ _ hi (λb u e=>by rw[j4 (g9 e hD)];exact e) ⟨d8,?_,?_⟩
  ·rw[List.range_succ,List.map_append];rfl
  ·rw[b9l]
 ·rintro D acc H' hD ⟨rfl,rfl⟩
  exact hd D hD
theorem a1d{a:Addr}{xs:List V}{nt:Nat}{fr:List Nat}{g:TG}{te:TE}{Q:Addr->Hp->Prop}(hz:xs.length<sizeLine)(Pv:Addr->Nat->List V->Hp->Prop)(h0:∀D,H D=none->Pv D 0 [] (upd H D (.lst [])))(hk:∀D i acc H',Pv D i acc H'->H' D=some (.lst acc)/\acc.length=i/\SqL K H' a xs)(hs:∀D i x acc H',H D=none->xs[i]?=some x->Pv D i acc H'->g x (a0g nt fr σ) H' λσ2 H2=>te σ2 H2 λy H3=>H3 D=some (.lst acc)/\Pv D (i+1) (acc++[y]) (upd H3 D (.lst (acc++[y]))))(hd:∀D acc H',H D=none->Pv D xs.length acc H'->Q D H'):
  ∀D,H D=none->∃(m:Nat)(W:Nat->List V->Hp->Prop),W 0 [] (upd H D (.lst []))/\∀i acc H',W i acc H'->H' D=some (.lst acc)/\acc.length<sizeLine /\
   (((Itl K a).stop i H'/\Q D H')\/(i<m/\(Itl K a).go i H'/\∀x H2,(Itl K a).yld i H' x H2->g x (a0g nt fr σ) H2 λσ2 H3=>te σ2 H3 λy H4=>H4 D=some (.lst acc)/\W (i+1) (acc++[y]) (upd H4 D (.lst (acc++[y]))))):=by
 intro D hD;refine⟨xs.length,λi acc H'=>i<=xs.length/\(i<xs.length->Pv D i acc H')/\(i=xs.length->Pv D i acc H'),⟨Nat.zero_le _,λ_=>h0 D hD,λ_=>h0 D hD⟩,?_⟩;rintro i acc H' ⟨hi,p1,p2⟩;have p:Pv D i acc H':=by
  by_cases h:i<xs.length
  ·exact p1 h
  ·exact p2 (by lia)
 obtain⟨k1,k2,k3⟩:=hk D i acc H' p;refine⟨k1,by lia,?_⟩
 by_cases h:i<xs.length
 ·refine .inr ⟨h,⟨xs,xs[i],k3,List.getElem?_eq_getElem h⟩,?_⟩
  rintro x H2 ⟨rfl,hy⟩;have ex:xs[i]?=some x:=hy xs k3;have key:=hs D i x acc _ hD ex p;have e:(λ(σ2:St) (H2:Hp)=>te σ2 H2 λy H3=>H3 D=some (.lst acc)/\Pv D (i+1) (acc++[y]) (upd H3 D (.lst (acc++[y]))))=(λ(σ2:St) (H3:Hp)=>te σ2 H3 λy H4=>H4 D=some (.lst acc)/\i+1<=xs.length/\(i+1<xs.length->Pv D (i+1) (acc++[y]) (upd H4 D (.lst (acc++[y]))))/\(i+1=xs.length->Pv D (i+1) (acc++[y]) (upd H4 D (.lst (acc++[y]))))):=by
   funext σ2 H3;have:(λ(y:V) (H3:Hp)=>H3 D=some (.lst acc)/\Pv D (i+1) (acc++[y]) (upd H3 D (.lst (acc++[y]))))=(λ(y:V) (H4:Hp)=>H4 D=some (.lst acc)/\i+1<=xs.length/\(i+1<xs.length->Pv D (i+1) (acc++[y]) (upd H4 D (.lst (acc++[y]))))/\(i+1=xs.length->Pv D (i+1) (acc++[y]) (upd H4 D (.lst (acc++[y]))))):=by
    funext y H4;apply propext;constructor
    ·rintro⟨z1,z2⟩
     exact⟨z1,h,λ_=>z2,λ_=>z2⟩
    ·rintro⟨z1,z2,z3,z4⟩
     refine⟨z1,?_⟩;by_cases hh:i+1<xs.length
     ·exact z3 hh
     ·exact z4 (by lia)
   rw[this]
  rw[e] at key;exact key
 ·have hi':i=xs.length:=by lia
  subst hi';exact .inl ⟨⟨xs,k3,Nat.le_refl _⟩,hd D acc H' hD p⟩
end
end L2
namespace L2
open PySem PySem.Spec PyProof.Rows
section
variable{X:Cx}
variable{k j i:Nat}{E:XK}{x:Str}{p pos:Pos}{e:Expr}{es:List Expr}{t:TA}
variable{m:Str}{apos:Pos}{ps:List Str}{sp:Sp}{pl:Sem Bool}
end
end L2
namespace L2
open PySem PySem.Spec PyProof.Rows
section
variable{X:Cx}{k j:Nat}{E:XK}{m:Str}{pos apos:Pos}{e o:Expr}{es:List Expr}{ta:TE}{t:TA}{pl:Sem Bool}
end
end L2
namespace L2
open PySem PySem.Spec PyProof.Rows
theorem b4h(r:Addr)(a b c i:Int)(t u v ti:Tok):
  Meets (Builtin.«range.__contains__» ⟨[.ref r,.int i ti],[]⟩) (λ_ R s=>s.heap.get? r=some { cls:=.type "range",dict:=none,data:=.fields #[.int a t,.int b u,.int c v],slots:=#[] }/\R (.ok (.ret (.bool (Builtin.Range.rangePlace? a b c i).isSome))) s) :=
 .of_wp λprog w A R s h=>by obtain⟨hp,g,d,tk,os⟩:=s;obtain⟨hl,h⟩:=h;wp_walk;exact⟨_,rfl,h⟩
theorem a7z{prog:Program}{w:World}{A:Around}{E:Value->Shared->Prop}{s:Shared}{r:Addr}{a b c i:Int}{t u v ti:Tok}{Q:Value->Shared->Prop}(hr:IsRange s.heap r a b c t u v)(h:Q (.bool (Builtin.Range.rangePlace? a b c i).isSome) s):wpAny (model prog w) A (compareOp .In (.int i ti) (.ref r)) Q E s:=by
 have hT:s.TypeIs (.ref r) "range":=⟨_,hr,rfl⟩;show wpAny _ _ (do return .bool (<- contains (.ref r) (.int i ti))) Q E s
 refine wpAny_bind ?_;unfold contains
 try with_reducible refine wpAny_holding ?_
 refine wpAny_bind (wpAny_specialOf hT F.slot_range_contains.lookup ?_);show wpAny _ _ (if (some (Value.builtin "range.__contains__") == some Value.none)=true then _ else _) _ E s;rw[if_neg (by rw[beq_builtin_none];exact Bool.false_ne_true)]
 refine wpAny_bind (wpAny_callSpecialUnlessNone?_slot (name:=Str.ofString "__contains__") hT F.slot_range_contains
  (call_meets F.slot_range_contains hT F.entry_range_contains (F.args_range_contains_2 _ _) (b4h r a b c i t u v ti) ⟨hr,?_⟩))
 exact wpAny_truthy_bool (wpAny_pure h)
def c8u(ta:TE)(tn:TA):TE:=λσ H Q=>ta σ H λx H1=>tn σ H1 λvs H2=>∃i n:Int,x=.int i/\vs=[.int n]/\Q (.bl (decide (0<=i/\i<n))) H2
theorem c4n(i n:Int):(Builtin.Range.rangePlace? 0 n 1 i).isSome=decide (0<=i/\i<n):=by
 unfold Builtin.Range.rangePlace?;by_cases h:0<=i/\i<n
 ·simp[h]
 ·simp[h]
theorem b2a{X:Cx}{a e:Expr}{ta:TE}{tn:TA}{p cp pos:Pos}(hg:Gl X "range")(hm:X.mg "range" = none)(ha:PE X a ta)(he:PA X [e] tn)(hb:behindInMarks .In (.Call (.Name "range" p) [e] [] cp)=false:=by rfl)(hs:starEach [e] X.env=[(false,eval e X.env)]:=by rfl):
  PE X (.Compare a [.In] [.Call (.Name "range" p) [e] [] cp] pos) (c8u ta tn):=by
 intro pins s σ H Q I h;refine wpAny_Compare1 (thn (ha pins s σ H _ I h) λiv s1 z0_=>?_) hb;obtain⟨x,H1,I1,rx,q1⟩:=z0_;refine Call_ (b3r I1 hg hm boot_range (PyProof.Rows.callWith_type1 (thn (he cp pins s1 σ H1 _ I1 q1) λus s2 z0_=>?_) hs rfl));obtain⟨vs,H2,I2,r2,q2⟩:=z0_;obtain⟨i,n,ex,ev,q⟩:=q2;subst ex;subst ev;obtain⟨ti,rfl⟩:=rx;cases r2 with
 | cons r rr=>
  cases rr;obtain⟨t,rfl⟩:=r;refine call_range_1 (a7z (IsRange.new ..) ?_);rw[c4n];exact⟨.bl _,H2,I2.kept (λb o e=>Heap.get?_push_of_some _ e),rfl,q⟩
end L2
namespace L2
open PySem PySem.Spec PyProof.Rows
section
variable{X:Cx}
theorem a2n{K:Frag}{tg l:Expr}{tl:TE}(hl:PE X l tl)(h:X.K=K:=by rfl):PI X tg l (d5t K tl):=h ▸ d2z hl
end
section
variable{K:Frag}{σ:St}{H:Hp}{ta:TE}{t:TA}
theorem d3s{R:It->Hp->Prop}(q:ta σ H λx H1=>∃a,x=.ref a/\(∃xs,SqT K H1 a xs)/\R (Itt K a) H1):d5t K ta σ H R:=q
theorem a5d{a:Addr}{xs:List V}{R:Addr->Prop}(h:SqT K H a xs)(q:R a):∃a',V.ref a=.ref a'/\(∃xs,SqT K H a' xs)/\R a':=⟨a,rfl,⟨xs,h⟩,q⟩
theorem d1i{tn:TA}{Q:VK}(q:ta σ H λx H1=>tn σ H1 λvs H2=>∃i n:Int,x=.int i/\vs=[.int n]/\Q (.bl (decide (0<=i/\i<n))) H2):c8u ta tn σ H Q:=q
end
section
variable{X:Cx}{body suite:List Stmt}{b₀:Stmt}{x y n:Str}{np np2 hpos pos tpos:Pos}{kk:Nat}{c d:Addr}{i:Nat}{tb:(St->XK)->TS}{th:TS}
end
end L2
namespace L2
open PySem PySem.Spec PyProof.Rows
section
variable{X:Cx}
end
section
variable{K:Frag}{σ:St}{H:Hp}
theorem d8d{r:V->Option Int->Option Int->Hp->VK->Prop}{te:TE}{tl th:TO}{Q:VK}(q:te σ H λx H1=>tl σ H1 λl H2=>th σ H2 λu H3=>r x l u H3 Q):tSl r te tl th σ H Q:=q
theorem c8d{Q:Option Int->Hp->Prop}(q:Q none H):c3v σ H Q:=q
theorem d3z{te:TE}{Q:Option Int->Hp->Prop}(q:te σ H λx H1=>∃i,x=.int i/\Q (some i) H1):d2l te σ H Q:=q
end
end L2
namespace L2
open PySem PySem.Spec PyProof.Rows
theorem b2f{xs:List V}{us:List Value}(r:Vals xs us):∀L:List Nat,Vals (L.filterMap λx=>xs[x]?) (L.filterMap λx=>us[x]?)
 | []=>.nil
 | i::L=>by
  rw[List.filterMap_cons,List.filterMap_cons];cases e:xs[i]? with
  | none=>rw[r.none_of e];exact b2f r L
  | some x=>
   obtain⟨u,e2,rx⟩:=r.get e;rw[e2];exact .cons rx (b2f r L)
section
variable{X:Cx}{e:Expr}{te:TE}{lo hi:Option Expr}{se:Expr}{tl th ts:TO}{pos p2:Pos}
end
end L2
namespace L2
open PySem PySem.Spec PyProof.Rows
def Hid(n m:St->Hp->Prop):Prop:=n=m
def d7r(m:St->Hp->Prop)(F:(St->Hp->Prop)->Prop):Prop:=∀N,Hid N m->F N
section
variable{nx bk ct:St->Hp->Prop}{rt:VK}{σ:St}{H:Hp}
theorem d3w{s u:TS}(q:∀n',Hid n' (u ⟨nx,rt,bk,ct⟩)->s ⟨n',rt,bk,ct⟩ σ H):d4s s u ⟨nx,rt,bk,ct⟩ σ H:=q _ rfl
theorem d1e{n' m:St->Hp->Prop}(h:Hid n' m)(q:m σ H):n' σ H:=by
 unfold Hid at h;rw[h];exact q
theorem d4e{m:St->Hp->Prop}{F:(St->Hp->Prop)->Prop}(q:∀N,Hid N m->F N):d7r m F:=q
theorem c3g{lo:Int}{n:Nat}{g:TG}{tb:TS}(Pv:Nat->St->Hp->Prop)(h0:Pv 0 σ H)(hs:∀i σ H,i<n->Pv i σ H->d7r (Pv (i+1)) λN=>g (.int (lo+i)) σ H λσ2 H2=>tb ⟨N,rt,nx,N⟩ σ2 H2)(hd:∀σ H,Pv n σ H->nx σ H):
  ∃W:Nat->Nat->St->Hp->Prop,(∃m,W 0 m σ H)/\∀i m σ H,W i m σ H->((Itr lo n).stop i H/\nx σ H)\/((Itr lo n).go i H/\∃N:St->Hp->Prop,(∀σ' H',N σ' H'->∃m',m'<m/\W (i+1) m' σ' H')/\∀x H',(Itr lo n).yld i H x H'->g x σ H' λσ2 H2=>tb ⟨N,rt,nx,N⟩ σ2 H2) :=
 a7p (D:=⟨nx,rt,λ_ _=>False,λ_ _=>False⟩) Pv h0 (λi σ H hi p=>hs i σ H hi p _ rfl) hd
end
end L2
namespace L2
open PySem PySem.Spec PyProof.Rows
section
variable{prog:Program}{w:World}{A:Around}{E:Value->Shared->Prop}{s:Shared}
theorem c2e{it t:Addr}{items:Array Value}(hne:t≠it):∀(n i:Nat)(s:Shared)(Q:List Value->Shared->Prop),s.heap.IsListIter it t i->s.heap.IsList t items->i+n<=items.size ->
  (∀h',h'.IsListIter it t (i+n)->Heap.SameBut it s.heap h'->Q ((items.toList.drop i).take n) { s with heap:=h' })->wpAny (model prog w) A (draw (.ref it) n) Q E s
 | 0,i,s,Q,hit,_,_,hQ=>by
  show wpAny _ _ (pure []) Q E s;exact wpAny_pure (by simpa using hQ s.heap hit (Heap.SameBut.refl ..))
 | n+1,i,s,Q,hit,ht,hle,hQ=>by
  have hlt:i<items.size:=by lia
  show wpAny _ _ (pyNext (.ref it) >>= _) Q E s;refine wpAny_bind (wpAny_pyNext_list_item hit ht (x:=items[i]) (by simp[hlt]) λh₁ hit₁ hs₁=>?_)
  refine wpAny_bind (wpAny_holding (c2e hne n (i+1) _ _ hit₁ (ht.extBut hs₁.extBut hne) (by lia) λh₂ hit₂ hs₂=>wpAny_pure ?_))
  have hd:items.toList.drop i=items[i]::items.toList.drop (i+1):=by simp[List.drop_eq_getElem_cons,hlt]
  have:=hQ h₂ (by rw[show i+(n+1)=i+1+n by lia];exact hit₂) (hs₁.trans hs₂)
  rw[hd,List.take_succ_cons] at this;exact this
theorem c2o{t:Addr}{items:Array Value}{targets:List (Bool×(Value->Sem Unit))}{Q:Unit->Shared->Prop}(hh:A.handled=none)(ht:s.heap.IsList t items)(hn:targets.length=items.size)(hstar:targets.findIdx? (·.1)=none)(h:∀h',Heap.ExtBut s.heap.objs.size s.heap h'->wpAny (model prog w) A (assignInOrder (targets.map (·.2)) items.toList) Q E { s with heap:=h' }):
  wpAny (model prog w) A (unpack (.ref t) targets) Q E s:=by
 unfold unpack;rw[hn,hstar];refine wpAny_bind (wpAny_holding ?_);have hlt:t≠s.heap.objs.size:=by obtain⟨o,ho,_⟩:=ht;exact Nat.ne_of_lt (Heap.lt_size ho)
 unfold unpackItems;refine wpAny_bind ?_
 ·unfold notIterableAtAll
  refine wpAny_bind (wpAny_specialOf ht.typeIs slot_list_iter.lookup ?_);refine wpAny_pure ?_;simp only[Bool.false_eq_true,if_false];refine wpAny_bind (wpAny_holding (wpAny_pyIter_list ht ?_));refine wpAny_bind (wpAny_holding (c2e hlt items.size 0 _ _ ⟨_,Heap.get?_push_size _ rfl,rfl,rfl⟩ (ht.push _) (by lia) λh₁ hit₁ hs₁=>?_))
  have hall:List.take items.size (List.drop 0 items.toList)=items.toList:=by
   rw[List.drop_zero];exact List.take_of_length_le (by simp)
  rw[hall];rw[if_neg (by simp)]
  have ht₁:h₁.IsList t items:=(ht.push _).extBut hs₁.extBut hlt;refine wpAny_bind (wpAny_holding (wpAny_pyNext_list_end hh hit₁ ht₁ (by simp) λh₂ he₂=>?_))
  simp only[Option.isSome_none,Bool.false_eq_true,if_false];refine wpAny_pure (h h₂ λb o hb e=>he₂ b o hb (hs₁.extBut b o hb (Heap.get?_push_of_some _ e)))
end
section
variable{X:Cx}
def d6j(K:Frag)(n:Nat)(t:TGs):TG:=λv σ H Q=>∃a xs,v=.ref a/\SqL K H a xs/\xs.length=n/\t xs σ H Q
theorem c4p{K:Frag}{es:List Expr}{k:Nat}{t:TGs}{n:Nat}{pos:Pos}(hc:X.calm=true)(h:PGs X es t)(hK:X.K=K:=by rfl)(hn:(assignEach es X.env).length=n:=by rfl)(hst:(assignEach es X.env).findIdx? (·.1)=none:=by rfl):PG X (.Tuple es k pos) (d6j K n t):=by
 subst hK;intro pins s σ H v u Q I r hw;obtain⟨a,xs,e1,hq,hl,hw⟩:=hw;subst e1;cases r;obtain⟨its,rv,ht,hz⟩:=I.list hq;rw[assign_Tuple];refine wpAny_bind (wpAny_standAt (c2o (I.ok.hd hc) ht.isList (by simp[hn,<- hl,rv.length]) hst λh' hx=>?_))
 have I1:Inv X pins σ H { s with heap:=h' }:=I.kept (t':=s.toks) λb o e=>hx b o (Nat.ne_of_lt (Heap.lt_size e)) e
 exact h pins _ σ H xs _ Q I1 (by simpa using rv) hw
end
end L2
namespace L2
open PySem
section
variable{P:Program}{w:World}{K:Frag}{mg:Str->Option Value}{base:Heap}{H H1 H1':Hp}{h h':Heap}
open Classical in
end
end L2
namespace L2
open PySem PySem.Spec PyProof.Rows
section
variable{X:Cx}{pins:List (Addr×Obj)}{σ:St}{H:Hp}{s:Shared}{N:List Str}{scope:Scope}{cl:List (Str×Addr)}{nt:Nat}{fr:List Nat}
end
end L2
namespace L2
open PySem PySem.Spec PyProof.Rows
section
variable{κ:Type}[DecidableEq κ]
end
section
variable{P:Program}{w:World}{H:Hp}{h:Heap}{a:Addr}
end
section
variable{X:Cx}{pins:List (Addr×Obj)}{σ:St}{H:Hp}{s:Shared}{a:Addr}{y v:V}{u r:Value}{o:Option V}{A:Around}{E:Value->Shared->Prop}
end
section
variable{X:Cx}{pins:List (Addr×Obj)}{σ:St}{H:Hp}{s:Shared}{a:Addr}{kvs:List (Key×V)}{k:Key}{u:Value}{A:Around}{E:Value->Shared->Prop}
end
section
variable{X:Cx}{o i e value:Expr}{pos pos' tpos:Pos}{td ty tv:TE}
end
section
variable{X:Cx}{pos:Pos}
end
section
variable{X:Cx}{pins:List (Addr×Obj)}{σ:St}{H:Hp}{s:Shared}{a:Addr}{y d:V}{u r:Value}{o:Option V}{A:Around}{E:Value->Shared->Prop}
end
section
variable{X:Cx}{o e f:Expr}{apos cpos:Pos}{td ty tx:TE}
end
section
variable{X:Cx}{pins:List (Addr×Obj)}{σ:St}{H:Hp}{s:Shared}{a:Addr}{kvs:List (Key×V)}{A:Around}{E:Value->Shared->Prop}
end
section
variable{X:Cx}{pins:List (Addr×Obj)}{σ:St}{H:Hp}{s:Shared}{a:Addr}{y:V}{u:Value}{A:Around}{E:Value->Shared->Prop}
end
end L2
namespace L2
open PySem PySem.Spec PyProof.Rows
section
variable{X:Cx}{k j:Nat}{ps:List Str}{sp:Sp}{E:XK}{x:Str}{p pos:Pos}
end
section
variable{K:Frag}{σ:St}{H:Hp}{Q:VK}{td ty tv:TE}{nx bk ct:St->Hp->Prop}{rt:VK}
theorem c8f{wi:TI}{nt:Nat}{fr:List Nat}{g:TG}{tt:TT}{te:TE}(q:wi σ H λJ H1=>∀D,H1 D=none->∃(n:Nat) (W:Nat->List V->Hp->Prop),W 0 [] (upd H1 D (.lst [])) /\
 ∀i acc H,W i acc H->H D=some (.lst acc)/\acc.length<sizeLine /\
  ((J.stop i H/\Q (.ref D) H)\/(i<n/\J.go i H/\∀x H',J.yld i H x H'->g x (a0g nt fr σ) H' λσ2 H2=>tt σ2 H2 λc H3=>if c=true then (te σ2 H3 λy H4=>H4 D=some (.lst acc)/\W (i+1) (acc++[y]) (upd H4 D (.lst (acc++[y])))) else W (i+1) acc H3))):b2i wi nt fr g tt te σ H Q:=q
end
end L2
namespace L2
open PySem
def c8z(K:Frag):List V->Hp->VK->Prop:=λxs H Q=>∃p ys,xs=[.ref p]/\((SqL K H p ys/\∀l,H l=none->Q (.ref l) (upd H l (.tup ys)))\/(SqT K H p ys/\Q (.ref p) H))
theorem a1w{X:Cx}{K:Frag}(h:X.K=K:=by rfl):a4w X (.type "tuple") (c8z K):=h ▸ b6u
end L2
namespace L2
open PySem PySem.Spec PyProof.Rows
section
variable{K:Frag}{H:Hp}{Q:VK}{σ:St}{ta:TE}
theorem d4d{p:Addr}{xs:List V}(h:H p=some (.tup xs))(q:Q (.int xs.length) H):d5h K [.ref p] H Q:=⟨p,xs,rfl,.inr (SqT.of h),q⟩
theorem c5v{p:Addr}{xs:List V}(h:H p=some (.tup xs))(q:∀l,H l=none->Q (.ref l) (upd H l (.lst xs))):b9s K [.ref p] H Q:=⟨p,xs,rfl,.inr (SqT.of h),q⟩
theorem d3t{p:Addr}{xs:List V}(h:H p=some (.lst xs))(q:∀l,H l=none->Q (.ref l) (upd H l (.tup xs))):c8z K [.ref p] H Q:=⟨p,xs,rfl,.inl ⟨SqL.of h,q⟩⟩
end
theorem c4m(i n m:Int):(Builtin.Range.rangePlace? n m 1 i).isSome=decide (n<=i/\i<m):=by
 unfold Builtin.Range.rangePlace?;by_cases h:n<=i/\i<m
 ·simp[h]
 ·simp[h]
def c3w(ta:TE)(tn:TA):TE:=λσ H Q=>ta σ H λx H1=>tn σ H1 λvs H2=>∃i n m:Int,x=.int i/\vs=[.int n,.int m]/\Q (.bl (decide (n<=i/\i<m))) H2
theorem c8e{σ:St}{H:Hp}{ta:TE}{tn:TA}{Q:VK}(q:ta σ H λx H1=>tn σ H1 λvs H2=>∃i n m:Int,x=.int i/\vs=[.int n,.int m]/\Q (.bl (decide (n<=i/\i<m))) H2):c3w ta tn σ H Q:=q
theorem c4r{X:Cx}{a e e2:Expr}{ta:TE}{tn:TA}{p cp pos:Pos}(hg:Gl X "range")(hm:X.mg "range" = none)(ha:PE X a ta)(he:PA X [e,e2] tn)(hb:behindInMarks .In (.Call (.Name "range" p) [e,e2] [] cp)=false:=by rfl)(hs:starEach [e,e2] X.env=(false,eval e X.env)::starEach [e2] X.env:=by rfl)(hs2:starEach [e2] X.env=[(false,eval e2 X.env)]:=by rfl):
  PE X (.Compare a [.In] [.Call (.Name "range" p) [e,e2] [] cp] pos) (c3w ta tn):=by
 intro pins s σ H Q I h;refine wpAny_Compare1 (thn (ha pins s σ H _ I h) λiv s1 z0_=>?_) hb;obtain⟨x,H1,I1,rx,q1⟩:=z0_;refine Call_ (b3r I1 hg hm boot_range (PyProof.Rows.callWith_type1 (thn (he cp pins s1 σ H1 _ I1 q1) λus s2 ⟨vs,H2,I2,r2,q2⟩=>?_) hs (by rw[hs2];rfl)))
 obtain⟨i,n,m,ex,ev,q⟩:=q2;subst ex;subst ev;obtain⟨ti,rfl⟩:=rx;cases r2 with
 | cons r rr=>
  cases rr with
  | cons r' rr=>
   cases rr;obtain⟨t,rfl⟩:=r;obtain⟨t',rfl⟩:=r';refine call_range_2 (a7z (IsRange.new ..) ?_);rw[c4m];exact⟨.bl _,H2,I2.kept (λb o e=>Heap.get?_push_of_some _ e),rfl,q⟩
theorem c2g{J:It}{xs:List V}{nt:Nat}{fr:List Nat}{g:TG}{te:TE}{σ:St}{H:Hp}{Q:Addr->Hp->Prop}(hz:xs.length<sizeLine)(Sq:Hp->Prop)(jg:∀i x H',Sq H'->xs[i]?=some x->J.go i H')(jy:∀i H' x H2,Sq H'->J.yld i H' x H2->H2=H'/\xs[i]?=some x)(js:∀H',Sq H'->J.stop xs.length H')(Pv:Addr->Nat->List V->Hp->Prop)(h0:∀D,H D=none->Pv D 0 [] (upd H D (.lst [])))(hk:∀D i acc H',Pv D i acc H'->H' D=some (.lst acc)/\acc.length=i/\Sq H')(hs:∀D i x acc H',H D=none->xs[i]?=some x->Pv D i acc H'->g x (a0g nt fr σ) H' λσ2 H2=>te σ2 H2 λy H3=>H3 D=some (.lst acc)/\Pv D (i+1) (acc++[y]) (upd H3 D (.lst (acc++[y]))))(hd:∀D acc H',H D=none->Pv D xs.length acc H'->Q D H'):
  ∀D,H D=none->∃(m:Nat)(W:Nat->List V->Hp->Prop),W 0 [] (upd H D (.lst []))/\∀i acc H',W i acc H'->H' D=some (.lst acc)/\acc.length<sizeLine /\
   ((J.stop i H'/\Q D H')\/(i<m/\J.go i H'/\∀x H2,J.yld i H' x H2->g x (a0g nt fr σ) H2 λσ2 H3=>te σ2 H3 λy H4=>H4 D=some (.lst acc)/\W (i+1) (acc++[y]) (upd H4 D (.lst (acc++[y]))))):=by
 intro D hD;refine⟨xs.length,λi acc H'=>i<=xs.length/\Pv D i acc H',⟨Nat.zero_le _,h0 D hD⟩,?_⟩;rintro i acc H' ⟨hi,p⟩;obtain⟨k1,k2,k3⟩:=hk D i acc H' p;refine⟨k1,by lia,?_⟩
 by_cases h:i<xs.length
 ·refine .inr ⟨h,jg i _ H' k3 (List.getElem?_eq_getElem h),λx H2 y=>?_⟩
  obtain⟨rfl,ex⟩:=jy i H' x H2 k3 y;have key:=hs D i x acc _ hD ex p;have e:∀acc':V->List V,(λ(y:V) (H4:Hp)=>H4 D=some (.lst acc)/\i+1<=xs.length/\Pv D (i+1) (acc' y) (upd H4 D (.lst (acc' y))))=λ(y:V) (H3:Hp)=>H3 D=some (.lst acc)/\Pv D (i+1) (acc' y) (upd H3 D (.lst (acc' y))):=λacc'=>by
   funext y H4;exact propext ⟨λz=>⟨z.1,z.2.2⟩,λz=>⟨z.1,h,z.2⟩⟩
  rw[show(λ(σ2:St) (H3:Hp)=>te σ2 H3 λy H4=>H4 D=some (.lst acc)/\i+1<=xs.length/\Pv D (i+1) (acc++[y]) (upd H4 D (.lst (acc++[y]))))=λ(σ2:St) (H2:Hp)=>te σ2 H2 λy H3=>H3 D=some (.lst acc)/\Pv D (i+1) (acc++[y]) (upd H3 D (.lst (acc++[y]))) from by
   funext σ2 H3;rw[e λy=>acc++[y]]]
  exact key
 ·have:i=xs.length:=by lia
  subst this;exact .inl ⟨js H' k3,hd D acc H' hD p⟩
theorem a3y{K:Frag}{a:Addr}{xs:List V}{nt:Nat}{fr:List Nat}{g:TG}{te:TE}{σ:St}{H:Hp}{Q:Addr->Hp->Prop}(hz:xs.length<sizeLine)(Pv:Addr->Nat->List V->Hp->Prop)(h0:∀D,H D=none->Pv D 0 [] (upd H D (.lst [])))(hk:∀D i acc H',Pv D i acc H'->H' D=some (.lst acc)/\acc.length=i/\SqT K H' a xs)(hs:∀D i x acc H',H D=none->xs[i]?=some x->Pv D i acc H'->g x (a0g nt fr σ) H' λσ2 H2=>te σ2 H2 λy H3=>H3 D=some (.lst acc)/\Pv D (i+1) (acc++[y]) (upd H3 D (.lst (acc++[y]))))(hd:∀D acc H',H D=none->Pv D xs.length acc H'->Q D H'):
  ∀D,H D=none->∃(m:Nat)(W:Nat->List V->Hp->Prop),W 0 [] (upd H D (.lst []))/\∀i acc H',W i acc H'->H' D=some (.lst acc)/\acc.length<sizeLine /\
   (((Itt K a).stop i H'/\Q D H')\/(i<m/\(Itt K a).go i H'/\∀x H2,(Itt K a).yld i H' x H2->g x (a0g nt fr σ) H2 λσ2 H3=>te σ2 H3 λy H4=>H4 D=some (.lst acc)/\W (i+1) (acc++[y]) (upd H4 D (.lst (acc++[y]))))) :=
 c2g hz (λH'=>SqT K H' a xs) (λi x H' q e=>⟨xs,x,q,e⟩) (λi H' x H2 q y=>⟨y.1,y.2 xs q⟩) (λH' q=>⟨xs,q,Nat.le_refl _⟩) Pv h0 hk hs hd
theorem c4c{X:Cx}{K:Frag}(h:X.K=K:=by rfl):SlR X (d6z K):=h ▸ d2r
end L2
namespace L2
open PySem PySem.Spec PyProof.Rows
open Builtin Builtin.Str
theorem c3o{l:List (Str×Tok)}:Vals ((l.map (·.1)).map V.str) (strValues l):=by
 induction l with
 | nil=>exact .nil
 | cons p r ih=>exact .cons ⟨_,rfl⟩ ih
theorem c3y{ss:List Str}{us:List Value}(r:Vals (ss.map V.str) us):∃l:List (Str×Tok),us=strValues l/\l.map (·.1)=ss:=by
 induction ss generalizing us with
 | nil=>cases r;exact⟨[],rfl,rfl⟩
 | cons x t ih=>
  cases r with
  | cons h r=>
   obtain⟨tk,rfl⟩:=h;obtain⟨l,rfl,rfl⟩:=ih r;exact⟨(x,tk)::l,rfl,rfl⟩
section
variable{X:Cx}
def b7p:V->List V->Hp->VK->Prop:=λx vs H Q=>∃t y,x=.str t/\vs=[.str y]/\(y.length == 0)=false/\t.length<=sizeLine/\(partsBetween t (occurrences t y 0 t.length (t.length+1)) y.length).length<=sizeLine/\(Txt.split t y).length<=sizeLine/\∀p,H p=none->Q (.ref p) (upd H p (.lst ((Txt.split t y).map V.str)))
theorem c7s:MtR X "str.split" b7p:=by
 intro pins s σ H x vs v us Q I rx rv h;obtain⟨x,y,rfl,rfl,hy,hsz,hsz2,hz,q⟩:=h;obtain⟨t,rfl⟩:=rx;obtain⟨u',rfl,u,rfl⟩:=rv.one;have fin:∀(l:List (Str×Tok))(k:Nat),l.map (·.1)=Txt.split x y->EP X pins σ Q (.ref s.heap.objs.size) { s with heap:=s.heap.push { cls:=.type "list",data:=.seq (strValues l).toArray },toks:=k }:=λl k e=>
  ⟨.ref s.heap.objs.size,_,I.lnew (ys:=(Txt.split x y).map V.str) (e ▸ c3o) (by rw[List.length_map];exact hz),rfl,q _ I.fresh⟩
 cases h1:(decide (x.length<y.length) || decide (strKind x<strKind y))
 ·cases hf:(occurrences x y 0 x.length (x.length+1)).isEmpty
  ·refine call_meets F.slot_str_split (typeIs_str _ _ _) F.entry_str_split (F.args_str_split_2 _ _) (meets_str_split_sep x y t u h1 hy hf hsz hsz2) ?_
   show wants _ _ _ { s with toks:=_,heap:=s.heap.push { cls:=.type "list",data:=.seq (strsFrom s.toks (partsBetween x (occurrences x y 0 x.length (x.length+1)) y.length)).toArray } }
   rw[strsFrom_eq];exact fin (numbered s.toks _) _ ((numbered_texts _ _).trans ((if_neg (ne_true_of_eq_false h1)).trans (if_neg (ne_true_of_eq_false hf))).symm)
  ·exact call_meets F.slot_str_split (typeIs_str _ _ _) F.entry_str_split (F.args_str_split_2 _ _) (meets_str_split_not_found x y t u h1 hy hf)
    (fin [(x,t)] _ ((if_neg (ne_true_of_eq_false h1)).trans (if_pos hf)).symm)
 ·exact call_meets F.slot_str_split (typeIs_str _ _ _) F.entry_str_split (F.args_str_split_2 _ _) (meets_str_split_cannot_occur x y t u h1)
   (fin [(x,t)] _ (if_pos h1).symm)
def c4h(K:Frag):V->List V->Hp->VK->Prop:=λx vs H Q=>∃sep p ss,x=.str sep/\vs=[.ref p]/\SqL K H p (ss.map V.str)/\JoinOk sep ss=true/\Q (.str (Txt.join sep ss)) H
theorem d0u:MtR X "str.join" (c4h X.K):=by
 intro pins s σ H x vs v us Q I rx rv h;obtain⟨sep,p,ss,rfl,rfl,hp,hok,q⟩:=h;obtain⟨t,rfl⟩:=rx;obtain⟨u',rfl,ru⟩:=rv.one;cases ru;obtain⟨its,r,pl,hz⟩:=I.list hp;obtain⟨l,rfl,e⟩:=c3y r;exact SC.join pl.isList e hok λt' k=>⟨.str _,H,I.tok k,⟨_,rfl⟩,q⟩
def b9r:V->List V->Hp->VK->Prop:=λx vs H Q=>∃t y,x=.str t/\vs=[.str y]/\Q (.bl (Txt.startswith t y)) H
theorem c5e:MtR X "str.startswith" b9r:=by
 intro pins s σ H x vs v us Q I rx rv h;obtain⟨x,y,rfl,rfl,q⟩:=h;obtain⟨t,rfl⟩:=rx;obtain⟨u',rfl,u,rfl⟩:=rv.one;exact SC.startswith ⟨.bl _,H,I,rfl,q⟩
theorem b3a{x:Str}{n:Str}{pos:Pos}(hm:∃t,X.mg x=some (.str n t))(hg:Gl X x)(hd:(x == ("__debug__":Str))=false:=by decide):PE X (.Name x pos) (tC (.str n)):=by
 obtain⟨t,h⟩:=hm;exact b3b hg h ⟨t,rfl⟩ hd
def d5k:List V->Hp->VK->Prop:=λxs H Q=>∃(x:Str)(n:Int),xs=[.str x]/\PySem.intText? x=some n/\x.length<=640/\Q (.int n) H
theorem b9e:a4w X (.type "int") d5k:=by
 intro pins s σ H xs us Q I r h;obtain⟨x,n,rfl,hn,hz,q⟩:=h;obtain⟨u,rfl,t,rfl⟩:=b4b r;exact PySem.W.KIN.call_text hn hz ⟨.int _,H,I.tok _,⟨_,rfl⟩,q⟩
theorem c4w{v:Value}{lo:Option Int}(h:IsPart v lo):∃l:Option (Int×Tok),partValue l=v/\l.map (·.1)=lo:=by
 cases h with
 | none=>exact⟨none,rfl,rfl⟩
 | int i t=>exact⟨some (i,t),rfl,rfl⟩
def b0q(x:Str)(lo hi:Option Int):Str:=if ((strSliceIndices lo hi 1 x.length).length == x.length)=true then x else ⟨((strSliceIndices lo hi 1 x.length).filterMap (x.cps[·]?)).toArray⟩
def d7a:V->Option Int->Option Int->Hp->VK->Prop:=λx lo hi H Q=>∃z,x=.str z/\(b0q z lo hi).length<=sizeLine/\Q (.str (b0q z lo hi)) H
theorem b1f:SlR X d7a:=by
 intro pins s σ H x v vl vu lo hi sl Q I rx hs pl pu h;obtain⟨z,rfl,hz,q⟩:=h;obtain⟨t,rfl⟩:=rx;obtain⟨l,rfl,rfl⟩:=c4w pl;obtain⟨u,rfl,rfl⟩:=c4w pu;refine⟨"str",_,F.slot_str_getitem.lookup,typeIs_str s z t,?_⟩;refine wpAny_getItem_str_slice (l:=l) (u:=u) (st:=none) hs rfl ?_;unfold sliceMade;unfold b0q at hz q;show Made.post (if ((1:Int) == 1 && (strSliceIndices (l.map (·.1)) (u.map (·.1)) 1 z.length).length == z.length)=true then _ else _) _ _
 cases c:((strSliceIndices (l.map (·.1)) (u.map (·.1)) 1 z.length).length == z.length)
 ·rw[c] at hz q
  exact⟨hz,.str _,H,I.tok _,⟨_,rfl⟩,q⟩
 ·rw[c] at hz q
  exact⟨.str _,H,I,⟨_,rfl⟩,q⟩
def Its(x:Str):It:=⟨λi _=>i<x.cps.size,λi H v H'=>H'=H/\∃c,x.cps[i]?=some c/\v=.str ⟨#[c]⟩,λi _=>x.cps.size<=i⟩
theorem c6v{P:Program}{w:World}{K:Frag}{tg:Expr}(x:Str)(t:Tok)(it:Addr)(ty:String)(hty:ty="str_ascii_iterator"\/ty="str_iterator"):d4q P w K tg (Its x) [it] it (λi h=>h.IsStrIter it ty x t i) where
 mem:=by simp
 obj:=λi h st b hb=>by
  have e:b=it:=by simpa using hb
  subst e;obtain⟨o,e,c,d⟩:=st;exact⟨o,e,λv z=>by rw[d] at z;cases z⟩
 keep:=λi h h' st k=>by
  obtain⟨o,e,r⟩:=st;exact⟨o,k it (by simp) o e,r⟩
 item:=by
  intro X hP hw hK hc i pins s σ H E I hf st hg;subst hP hw hK;obtain⟨f0,f1,f2,f3,f4,f5⟩:=hf it (by simp)
  have hg:i<x.cps.size:=hg;have hx:x.cps[i]?=some x.cps[i]:=Array.getElem?_eq_getElem hg;have fin:∀h',h'.IsStrIter it ty x t (i+1)->Heap.SameBut it s.heap h'->∃u,some (Value.str ⟨#[x.cps[i]]⟩ s.toks)=some u/\wpAny (model X.prog X.w) X.A (letOwnedTupleGo tg (.ref it) u) (λ_ s2=>∃y H',Inv X pins σ H' s2/\RelV y u/\(Its x).yld i H y H'/\s2.heap.IsStrIter it ty x t (i+1)/\∀b∈[it],H' b=none) E { s with heap:=h',toks:=s.toks+1 }:=λh' st' sb=>by
   have I1:Inv X pins σ H { s with heap:=h',toks:=s.toks+1 }:=I.turned (t':=s.toks+1) (λb o hb e=>(sb.2 b hb).trans e) f0 f1 f3 f4 f5
   obtain⟨o,e,c,d⟩:=id st';exact⟨_,rfl,c7y (s:={ s with heap:=h',toks:=s.toks+1 }) e c d (by rcases hty with rfl|rfl <;> decide) ⟨.str _,H,I1,⟨_,rfl⟩,⟨rfl,_,hx,rfl⟩,st',λb hb=>(hf b hb).1⟩⟩
  rcases hty with rfl|rfl
  ·exact wpAny_pyNext_ascii_item st hx fin
  ·exact wpAny_pyNext_wide_item st hx fin
 done:=by
  intro X hP hw hK hc i pins s σ H E I hf st hg;subst hP hw hK;obtain⟨f0,f1,f2,f3,f4,f5⟩:=hf it (by simp)
  have hx:x.cps[i]?=none:=Array.getElem?_eq_none hg;rcases hty with rfl|rfl
  ·exact wpAny_pyNext_ascii_end (I.ok.hd hc) st hx λh' eb=>⟨rfl,I.turned (t':=s.toks) (λb o hb e=>eb b o hb e) f0 f1 f3 f4 f5⟩
  ·exact wpAny_pyNext_wide_end (I.ok.hd hc) st hx λh' eb=>⟨rfl,I.turned (t':=s.toks) (λb o hb e=>eb b o hb e) f0 f1 f3 f4 f5⟩
 self:=λ_ _ _ _ _ st h=>by
  rcases hty with rfl|rfl
  ·exact wpAny_pyIter_striter_ascii st h
  ·exact wpAny_pyIter_striter_wide st h
def d7h(ta:TE):TI:=λσ H R=>ta σ H λx H1=>∃z,x=.str z/\R (Its z) H1
theorem c9b{tg l:Expr}{tl:TE}(hl:PE X l tl):PI X tg l (d7h tl):=by
 intro pins s σ H R I h;refine thn (hl pins s σ H _ I h) λv s1 z0_=>?_;obtain⟨x,H1,I1,r1,q1⟩:=z0_;obtain⟨z,e,q⟩:=q1;subst e;obtain⟨t,rfl⟩:=r1;have hty:strIterType z="str_ascii_iterator"\/strIterType z="str_iterator":=by unfold strIterType;split <;> simp
 refine wpAny_pyIter_strU ?_;refine⟨s1.heap.objs.size,[s1.heap.objs.size],_,_,H1,rfl,I1.kept (t':=s1.toks) λb o e=>Heap.get?_push_of_some _ e,c6v z t _ _ hty,⟨_,Heap.get?_push_size _ rfl,rfl,rfl⟩,λb hb=>?_,q⟩;have e:b=s1.heap.objs.size:=by simpa using hb
 subst e;exact I1.fpOk (Nat.le_refl _) (I1.hok.fresh (Nat.le_refl _))
theorem a1v{K:Frag}{o e:Expr}{to:TE}{t:TA}{apos cpos:Pos}(ho:PE X o to)(ha:PA X [e] t)(hK:X.K=K:=by rfl)(hbase:attributeBase o "split" X.env (eval o X.env)=eval o X.env:=by rfl)(hfew:((backTo cpos (starEach [e] X.env)).all (λx=>!x.1) && (backToKw cpos (keywordEach [] X.env)).all (λx=>x.1.isSome) && decide ([e].length+([]:List Keyword).length+(if ([]:List Keyword).isEmpty then 0 else 1)<30))=true:=by rfl)(hline:(apos.endLine == cpos.line)=true:=by rfl)(hs:starEach [e] X.env=(false,eval e X.env)::starEach [] X.env:=by rfl)(hplain:(backTo cpos (starEach [] X.env)).any (·.1)=false:=by rfl):
  PE X (.Call (.Attribute o "split" apos) [e] [] cpos) (tBM K "str" b7p to t):=hK ▸ c4s PySem.F.plainAttrs_str PySem.F.slot_str_split PySem.F.type_str_split c7s ho ha hbase hfew hline hs hplain
theorem a1f{K:Frag}{o e:Expr}{to:TE}{t:TA}{apos cpos:Pos}(ho:PE X o to)(ha:PA X [e] t)(hK:X.K=K:=by rfl)(hbase:attributeBase o "join" X.env (eval o X.env)=eval o X.env:=by rfl)(hfew:((backTo cpos (starEach [e] X.env)).all (λx=>!x.1) && (backToKw cpos (keywordEach [] X.env)).all (λx=>x.1.isSome) && decide ([e].length+([]:List Keyword).length+(if ([]:List Keyword).isEmpty then 0 else 1)<30))=true:=by rfl)(hline:(apos.endLine == cpos.line)=true:=by rfl)(hs:starEach [e] X.env=(false,eval e X.env)::starEach [] X.env:=by rfl)(hplain:(backTo cpos (starEach [] X.env)).any (·.1)=false:=by rfl):
  PE X (.Call (.Attribute o "join" apos) [e] [] cpos) (tBM K "str" (c4h K) to t):=hK ▸ c4s PySem.F.plainAttrs_str PySem.F.slot_str_join PySem.F.type_str_join d0u ho ha hbase hfew hline hs hplain
theorem b4s{K:Frag}{o e:Expr}{to:TE}{t:TA}{apos cpos:Pos}(ho:PE X o to)(ha:PA X [e] t)(hK:X.K=K:=by rfl)(hbase:attributeBase o "startswith" X.env (eval o X.env)=eval o X.env:=by rfl)(hfew:((backTo cpos (starEach [e] X.env)).all (λx=>!x.1) && (backToKw cpos (keywordEach [] X.env)).all (λx=>x.1.isSome) && decide ([e].length+([]:List Keyword).length+(if ([]:List Keyword).isEmpty then 0 else 1)<30))=true:=by rfl)(hline:(apos.endLine == cpos.line)=true:=by rfl)(hs:starEach [e] X.env=(false,eval e X.env)::starEach [] X.env:=by rfl)(hplain:(backTo cpos (starEach [] X.env)).any (·.1)=false:=by rfl):
  PE X (.Call (.Attribute o "startswith" apos) [e] [] cpos) (tBM K "str" b9r to t):=hK ▸ c4s PySem.F.plainAttrs_str PySem.F.slot_str_startswith PySem.F.type_str_startswith c5e ho ha hbase hfew hline hs hplain
theorem b0o:OpR X (binaryOp .Add) (λx y H Q=>∃i j,x=.str i/\y=.str j/\i.length+j.length<=sizeLine/\Q (.str (i++j)) H):=c2z
variable{K:Frag}{H:Hp}{Q:VK}{σ:St}
theorem c5s{t y:Str}(hy:(y.length == 0)=false)(h1:t.length<=sizeLine)(h2:(partsBetween t (occurrences t y 0 t.length (t.length+1)) y.length).length<=sizeLine)(h3:(Txt.split t y).length<=sizeLine)(q:∀p,H p=none->Q (.ref p) (upd H p (.lst ((Txt.split t y).map V.str)))):b7p (.str t) [.str y] H Q:=⟨t,y,rfl,rfl,hy,h1,h2,h3,q⟩
theorem c9h{sep:Str}{p:Addr}{ss:List Str}(h:H p=some (.lst (ss.map V.str)))(ok:JoinOk sep ss=true)(q:Q (.str (Txt.join sep ss)) H):c4h K (.str sep) [.ref p] H Q:=⟨sep,p,ss,rfl,rfl,SqL.of h,ok,q⟩
theorem c8b{t y:Str}(q:Q (.bl (Txt.startswith t y)) H):b9r (.str t) [.str y] H Q:=⟨t,y,rfl,rfl,q⟩
theorem b1l{z:Str}{lo hi:Option Int}(h:(b0q z lo hi).length<=sizeLine)(q:Q (.str (b0q z lo hi)) H):d7a (.str z) lo hi H Q:=⟨z,rfl,h,q⟩
theorem d3r{x:Str}{R:Prop}(q:R):tyV K "str" (.str x) H/\R:=⟨rfl,q⟩
theorem d3v{ta:TE}{R:It->Hp->Prop}(q:ta σ H λx H1=>∃z,x=.str z/\R (Its z) H1):d7h ta σ H R:=q
end
def b1g(z:Str):List V:=z.cps.toList.map λc=>V.str ⟨#[c]⟩
theorem a3h(z:Str):(b1g z).length=z.cps.size:=by unfold b1g;rw[List.length_map,Array.length_toList]
theorem b8z{z:Str}{nt:Nat}{fr:List Nat}{g:TG}{te:TE}{σ:St}{H:Hp}{Q:Addr->Hp->Prop}(hz:(b1g z).length<sizeLine)(Pv:Addr->Nat->List V->Hp->Prop)(h0:∀D,H D=none->Pv D 0 [] (upd H D (.lst [])))(hk:∀D i acc H',Pv D i acc H'->H' D=some (.lst acc)/\acc.length=i)(hs:∀D i x acc H',H D=none->(b1g z)[i]?=some x->Pv D i acc H'->g x (a0g nt fr σ) H' λσ2 H2=>te σ2 H2 λy H3=>H3 D=some (.lst acc)/\Pv D (i+1) (acc++[y]) (upd H3 D (.lst (acc++[y]))))(hd:∀D acc H',H D=none->Pv D (b1g z).length acc H'->Q D H'):
  ∀D,H D=none->∃(m:Nat)(W:Nat->List V->Hp->Prop),W 0 [] (upd H D (.lst []))/\∀i acc H',W i acc H'->H' D=some (.lst acc)/\acc.length<sizeLine /\
   (((Its z).stop i H'/\Q D H')\/(i<m/\(Its z).go i H'/\∀x H2,(Its z).yld i H' x H2->g x (a0g nt fr σ) H2 λσ2 H3=>te σ2 H3 λy H4=>H4 D=some (.lst acc)/\W (i+1) (acc++[y]) (upd H4 D (.lst (acc++[y]))))) :=
 c2g hz (λ_=>True) (λi x H' _ e=>by
  have:=(List.getElem?_eq_some_iff.mp e).1;rw[a3h] at this;exact this) (λi H' x H2 _ y=>by
  obtain⟨e,c,hc,rfl⟩:=y;refine⟨e,?_⟩;unfold b1g;rw[List.getElem?_map,Array.getElem?_toList,hc]
  rfl) (λH' _=>by rw[a3h];exact Nat.le_refl _) Pv h0 (λD i acc H' p=>⟨(hk D i acc H' p).1,(hk D i acc H' p).2,trivial⟩) hs hd
end L2
namespace L2
open PySem PySem.Spec PyProof.Rows
end L2
namespace L2
open PySem PySem.W PySem.NumText PyProof.Rows
theorem b5c:∀c:Nat,48<=c->c<=57->(Nat.digitChar (c-48)).toNat=c:=by
 intro c h1 h2;have:c=48\/c=49\/c=50\/c=51\/c=52\/c=53\/c=54\/c=55\/c=56\/c=57:=by lia
 rcases this with rfl|rfl|rfl|rfl|rfl|rfl|rfl|rfl|rfl|rfl <;> rfl
theorem c3p{l:List Nat}(n:Nat)(hn:l.length=n)(hd:∀c∈l,48<=c/\c<=57)(h0:∃c r,l=c::r/\c≠48):1<=digitsVal l:=by
 induction n generalizing l with
 | zero=>
  obtain⟨c,r,rfl,_⟩:=h0;cases hn
 | succ n ih=>
  rcases List.eq_nil_or_concat l with rfl|⟨l',c,rfl⟩
  ·cases hn
  rw[List.concat_eq_append,digitsVal_snoc];rw[List.concat_eq_append] at hn hd h0;cases l' with
  | nil=>
   obtain⟨c',r,e,hc⟩:=h0;have:=hd c (by simp)
   cases e;lia
  | cons x t=>
   have:1<=digitsVal (x::t):=ih (by simpa using hn) (λc hc=>hd c (List.mem_append_left _ hc)) (by
    obtain⟨c',r,e,hc⟩:=h0;cases e;exact⟨_,_,rfl,hc⟩)
   lia
theorem c0s(n:Nat){l:List Nat}(hn:l.length=n)(hne:l≠[])(hd:∀c∈l,48<=c/\c<=57)(h0:l=[48] \/ ∃c r,l=c::r/\c≠48):(Nat.toDigits 10 (digitsVal l)).map Char.toNat=l:=by
 induction n generalizing l with
 | zero=>exact absurd (List.length_eq_zero_iff.mp hn) hne
 | succ n ih=>
  rcases List.eq_nil_or_concat l with rfl|⟨l',c,rfl⟩
  ·exact absurd rfl hne
  rw[List.concat_eq_append] at hn hd h0 ⊢;rw[digitsVal_snoc];have hc:=hd c (by simp)
  cases l' with
  | nil=>
   rw[show digitsVal []*10+(c-48)=c-48 from by show 0*10+(c-48)=_;lia,Nat.toDigits_of_lt_base (by lia)]
   show[(Nat.digitChar (c-48)).toNat]=[c];rw[b5c c hc.1 hc.2]
  | cons x t=>
   have hx:∃c r,x::t=c::r/\c≠48:=by
    rcases h0 with e|⟨c',r,e,hc'⟩
    ·simp at e
    ·cases e;exact⟨_,_,rfl,hc'⟩
   have hd':∀c∈x::t,48<=c/\c<=57:=λc hc=>hd c (List.mem_append_left _ hc);have v1:=c3p n (by simpa using hn) hd' hx
   have e:=ih (by simpa using hn) (by simp) hd' (.inr hx)
   have t':Nat.toDigits 10 (digitsVal (x::t))++Nat.toDigits 10 (c-48)=Nat.toDigits 10 (10*digitsVal (x::t)+(c-48)):=Nat.toDigits_append_toDigits ↑5 (by lia) (by lia)
   rw[Nat.mul_comm,<- t',List.map_append,e,Nat.toDigits_of_lt_base (by lia)]
   show _++[(Nat.digitChar (c-48)).toNat]=_;rw[b5c c hc.1 hc.2]
def a2h(w:PySem.Str):Prop:=∃ds:List Nat,ds≠[]/\(∀c∈ds,48<=c/\c<=57)/\ds.length<=60/\((w.cps.toList=ds/\(ds=[48] \/ ∃c r,ds=c::r/\c≠48))\/(w.cps.toList=45::ds/\∃c r,ds=c::r/\c≠48))
theorem a2i{a b:PySem.Str}(h:a.cps.toList=b.cps.toList):a=b:=by
 cases a;cases b
 congr 1
 exact Array.toList_inj.mp h
theorem d2e(n:Nat){l:List Nat}(hn:l.length=n)(hd:∀c∈l,48<=c/\c<=57):digitsVal l<10 ^ n:=by
 induction n generalizing l with
 | zero=>rw[List.length_eq_zero_iff.mp hn];decide
 | succ n ih=>
  rcases List.eq_nil_or_concat l with rfl|⟨l',c,rfl⟩
  ·cases hn
  rw[List.concat_eq_append] at hn hd ⊢;rw[digitsVal_snoc];have hc:=hd c (by simp)
  have:=ih (l:=l') (by simpa using hn) λc hc=>hd c (List.mem_append_left _ hc)
  rw[Nat.pow_succ];lia
theorem c7q{w:PySem.Str}(h:a2h w):∃n:Int,PySem.intText? w=some n/\PySem.Str.ofString (toString n)=w/\n.natAbs<10 ^ 60/\w.length<=61:=by
 obtain⟨ds,hne,hd,hl,h⟩:=h;have vl:digitsVal ds<10 ^ 60:=Nat.lt_of_lt_of_le (d2e _ rfl hd) (Nat.pow_le_pow_right ↑5 hl);rcases h with ⟨e,h0⟩|⟨e,h0⟩
 ·have wl:w.length=ds.length:=by rw[<- e];exact Array.length_toList.symm
  refine⟨(digitsVal ds:Nat),?_,?_,vl,by lia⟩
  ·have:=intText_digits (x:=w) (by rw[e];exact hd) (by rw[e];exact hne) (by lia)
   rwa [e] at this
  ·apply a2i
   rw[KIN.signs_num,e];exact c0s _ rfl hne hd h0
 ·have wl:w.length=ds.length+1:=by
   have:=congrArg List.length e;rw[List.length_cons] at this;rw[<- this];exact Array.length_toList.symm
  have v1:=c3p _ rfl hd h0;refine⟨-((digitsVal ds:Nat):Int),intText_neg e hd hne (by lia),?_,by lia,by lia⟩
  apply a2i;rw[signs_ofString,e];obtain⟨k,hk⟩:∃k,digitsVal ds=k+1:=⟨digitsVal ds-1,by lia⟩
  have e1:=c0s _ rfl hne hd (.inr h0);rw[hk] at e1 ⊢;show(String.toList ("-"++Nat.repr (k+1))).map Char.toNat=_;rw[String.toList_append,List.map_append,Nat.toList_repr,e1]
  rfl
open Builtin Builtin.Str in
theorem b8y(x:PySem.Str){lo hi:Option Int}{a b:Nat}(hi0:strSliceIndices lo hi 1 x.length=strSliceIndices (some (a:Int)) (some (b:Int)) 1 x.length)(hab:a<=b)(hb:b<=x.length):(b0q x lo hi).cps.toList=(x.cps.toList.drop a).take (b-a):=by
 unfold b0q;rw[hi0];split
 ·next h=>
  rw[StrLaws.strSliceIndices_plain hab hb,List.length_map,List.length_range] at h;have h:b-a=x.length:=by simpa using h
  have ha:a=0:=by lia
  subst ha;have e:x.cps.toList.length=x.length:=Array.length_toList;rw[List.drop_zero,List.take_of_length_le (by lia)]
 ·exact StrLaws.sliced_plain x hab hb
open Builtin Builtin.Str in
theorem b2d(x:PySem.Str)(a:Nat)(ha:a<=x.length):(b0q x (some (a:Int)) none).cps.toList=x.cps.toList.drop a:=by
 have e:x.cps.toList.length=x.length:=Array.length_toList;have h:strSliceIndices (some (a:Int)) none 1 x.length=strSliceIndices (some (a:Int)) (some (x.length:Int)) 1 x.length:=by
  unfold strSliceIndices;dsimp only;rw[if_neg (show ¬ ((x.length:Int)<0) by lia),if_pos (show(1:Int) > 0 by decide),if_pos (show(1:Int) > 0 by decide),show max 0 (min (x.length:Int) (x.length:Int))=x.length by lia]
  rfl
 rw[b8y x h ha (Nat.le_refl _),List.take_of_length_le (by rw[List.length_drop];lia)]
open Builtin Builtin.Str in
theorem d4n(x:PySem.Str)(b:Nat)(hb:b<=x.length):(b0q x none (some (b:Int))).cps.toList=x.cps.toList.take b:=by
 have h:strSliceIndices none (some (b:Int)) 1 x.length=strSliceIndices (some ((0:Nat):Int)) (some (b:Int)) 1 x.length:=by
  unfold strSliceIndices;dsimp only;rw[if_neg (show ¬ (((0:Nat):Int)<0) by decide),if_pos (show(1:Int) > 0 by decide),if_pos (show(1:Int) > 0 by decide),show max 0 (min ((0:Nat):Int) (x.length:Int))=0 by lia]
  rfl
 rw[b8y x h (Nat.zero_le _) hb,List.drop_zero,Nat.sub_zero]
theorem c2s(x:PySem.Str)(c:Nat):Txt.startswith x ⟨#[c]⟩=decide (x.cps.toList.head?=some c):=by
 unfold Txt.startswith;rw[StrLaws.subAt_eq];have e:x.cps.toList.length=x.length:=Array.length_toList;cases h:x.cps.toList with
 | nil=>
  have:x.length=0:=by rw[<- e,h];rfl
  rw[this];rfl
 | cons d t=>
  have:x.length=t.length+1:=by rw[<- e,h];rfl
  rw[this];show(decide (0+1<=t.length+1) && ((d::t).take 1 == [c]))=_;rw[decide_eq_true (by lia)]
  by_cases z:d=c
  ·subst z;simp
  ·simp[z]
def a6f(w:PySem.Str):List Nat:=if w.cps.toList.head?=some 45 then w.cps.toList.tail else w.cps.toList
theorem c1k(w:PySem.Str):a2h w ↔ (1<=(a6f w).length/\(a6f w).length<=60/\if (a6f w).head?=some 48 then w.cps.toList=[48] else ∀c∈a6f w,48<=c/\c<=57):=by
 constructor
 ·rintro⟨ds,hne,hd,hl,h⟩
  have l1:1<=ds.length:=by
   cases ds with
   | nil=>exact absurd rfl hne
   | cons c r=>rw[List.length_cons];lia
  rcases h with ⟨e,h0⟩|⟨e,h0⟩
  ·have ef:a6f w=ds:=by
    unfold a6f;rw[e,if_neg];intro z;cases ds with
    | nil=>cases z
    | cons c r=>
     have:=hd c (by simp)
     cases z;lia
   rw[ef];refine⟨l1,hl,?_⟩;split
   ·next z=>
    rcases h0 with rfl|⟨c,r,rfl,hc⟩
    ·exact e
    ·cases z;exact absurd rfl hc
   ·exact hd
  ·have ef:a6f w=ds:=by
    unfold a6f;rw[e,if_pos (show(45::ds).head?=some 45 from rfl)]
    rfl
   rw[ef];refine⟨l1,hl,?_⟩;split
   ·next z=>
    obtain⟨c,r,rfl,hc⟩:=h0;cases z;exact absurd rfl hc
   ·exact hd
 ·rintro⟨l1,hl,h⟩
  have hne:a6f w≠[]:=λz=>by rw[z] at l1;exact absurd l1 ↑5
  by_cases z:(a6f w).head?=some 48
  ·rw[if_pos z] at h
   exact⟨[48],by simp,by simp,by decide,.inl ⟨h,.inl rfl⟩⟩
  ·rw[if_neg z] at h
   have h0:∃c r,a6f w=c::r/\c≠48:=by
    cases e:a6f w with
    | nil=>exact absurd e hne
    | cons c r=>
     rw[e] at z;exact⟨c,r,rfl,λq=>z (by rw[q];rfl)⟩
   refine⟨a6f w,hne,h,hl,?_⟩;by_cases m:w.cps.toList.head?=some 45
   ·refine .inr ⟨?_,h0⟩
    unfold a6f;rw[if_pos m];cases e:w.cps.toList with
    | nil=>rw[e] at m;cases m
    | cons c r=>rw[e] at m;cases m;rfl
   ·refine .inl ⟨?_,.inr h0⟩
    unfold a6f;rw[if_neg m]
end L2
namespace L2
open PySem PySem.Spec PyProof.Rows
open Builtin Builtin.Str
def c8x(x:Str)(n:Int):Str:=if n<1 then Str.empty else if (n == 1 || x.length == 0)=true then x else ⟨(List.replicate n.toNat x.cps).foldl (· ++ ·) #[]⟩
def d5g:R2:=λx y H Q=>∃z n,x=.str z/\y=.int n/\-(2 ^ 20)<=n/\n<=2 ^ 20/\z.length<=2 ^ 20/\tooLong (z.length*n.toNat)=false/\(c8x z n).length<=sizeLine/\Q (.str (c8x z n)) H
theorem c4y{X:Cx}:OpR X (binaryOp .Mult) d5g:=by
 intro pins s σ H x y v u Q I rx ry h;obtain⟨z,n,rfl,rfl,n0,n1,zl,tl,hl,q⟩:=h;obtain⟨t,rfl⟩:=rx;obtain⟨t',rfl⟩:=ry;refine P.mul_str (by rw[decide_eq_false (by lia),decide_eq_false (by lia)];rfl) (λh1 _=>?_) (λ_ _=>tl) ?_
 ·have:1<=n:=by lia
  have h2:(z.length:Int)*n<=2 ^ 20*2 ^ 20:=Int.mul_le_mul (by lia) n1 (by lia) ↑5
  have h3:(z.length:Int)<=(2 ^ 63-1) / n:=Int.le_ediv_of_mul_le (show 0<n by lia) (Int.le_trans h2 ↑5)
  exact Int.not_lt.mpr h3
 ·unfold c8x at hl q
  by_cases a:n<1
  ·rw[if_pos a] at hl q ⊢
   exact⟨hl,.str _,H,I.tok _,⟨_,rfl⟩,q⟩
  ·rw[if_neg a] at hl q ⊢
   by_cases b:(n == 1 || z.length == 0)=true
   ·rw[if_pos b] at hl q ⊢
    exact⟨.str _,H,I,⟨_,rfl⟩,q⟩
   ·rw[if_neg b] at hl q ⊢
    exact⟨hl,.str _,H,I.tok _,⟨_,rfl⟩,q⟩
end L2
namespace L2
open PySem PySem.Spec PyProof.Rows
def c2h(X:Cx)(E:XK)(N:List Str)(scope:Scope)(cl:List (Str×Addr))(C:Addr)(s:Shared)(H:Hp)(ex:List Addr)(pn:List (Addr×Obj)):Cx :=
 { a0x X N scope cl C s H ex pn with xe:=λe s'=>∃pins' σ' H6 s6,Inv (a0x X N scope cl C s H ex pn) pins' σ' H6 s6/\CXK X.prog X.w X.stack H6 s6 E e s' }
section
variable{X:Cx}{E:XK}{N:List Str}{scope:Scope}{cl:List (Str×Addr)}{C:Addr}{s:Shared}{H:Hp}{ex:List Addr}{pn pins:List (Addr×Obj)}{σ:St}{H':Hp}{s':Shared}
theorem ofR(I:Inv (c2h X E N scope cl C s H ex pn) pins σ H' s'):Inv (a0x X N scope cl C s H ex pn) pins σ H' s':=by
 obtain⟨⟨o1,o2,o3,o4,o5,o6,o7,o8,o9,o10,o11,o12,o13,o14,o15,o16,o17,o18⟩,a,b,c,d,e,f,g,h,i,j⟩:=I;exact⟨⟨o1,o2,o3,o4,o5,o6,o7,o8,o9,o10,o11,o12,o13,o14,o15,o16,o17,o18⟩,a,b,c,d,e,f,g,h,i,j⟩
theorem toR(I:Inv (a0x X N scope cl C s H ex pn) pins σ H' s'):Inv (c2h X E N scope cl C s H ex pn) pins σ H' s':=by
 obtain⟨⟨o1,o2,o3,o4,o5,o6,o7,o8,o9,o10,o11,o12,o13,o14,o15,o16,o17,o18⟩,a,b,c,d,e,f,g,h,i,j⟩:=I;exact⟨⟨o1,o2,o3,o4,o5,o6,o7,o8,o9,o10,o11,o12,o13,o14,o15,o16,o17,o18⟩,a,b,c,d,e,f,g,h,i,j⟩
theorem d0p:b5e (CXK X.prog X.w) (c2h X E N scope cl C s H ex pn) E:=λpins σ H1 s1 _ _ I h=>⟨pins,σ,H1,s1,ofR I,h⟩
end
def c8o(B:Heap)(l:List Env)(e:Addr)(cls a0 fl:Value)(h:Heap):Prop:=B.StaysIn h/\B.get? e=none/\h.FunFrames B l/\h.TracedAtW B e cls a0 fl
section
variable{M:Model}{A:Around}{E:Value->Shared->Prop}{s:Shared}{B:Heap}{l:List Env}{e L:Addr}{cls a0 fl:Value}{Q:Unit->Shared->Prop}
theorem c0y{fr:Option Addr}(R:c8o B l e cls a0 fl s.heap)(h:∀h',c8o B l e cls a0 (fr.elim Value.none λf=>rawInt f) h'->s.heap.UpToSlots h'->K2 s.heap h' e->Q () { s with heap:=h' }):wpAny M A (setFlight (.ref e) fr) Q E s:=by
 obtain⟨hkb,hen,hl,oe,vs,T,oT,ts,he,hcls,hd,h1,hnT,hTe,hT,hdT,h3⟩:=R;have hsz3:3<ts.size:=(Array.getElem?_eq_some_iff.mp h3).1;have other:∀b,b≠T->(s.heap.update T (Obj.mapFields (·.setIfInBounds 3 (fr.elim Value.none λf=>rawInt f)))).get? b=s.heap.get? b:=λb hb=>Heap.get?_update_other _ _ (Ne.symm hb)
 have noRecord:∀b o,s.heap.get? b=some o->(∀vs,o.data≠.fields vs)->b≠T:=λb o hb hnf q=>by
  rw[q,hT] at hb;injection hb with hb;subst hb;exact hnf ts hdT
 unfold setFlight;refine wpAny_bind (wpAny_field he hd h1 ?_);rw[if_pos (show(Value.ref T != Value.none)=true from by simp)]
 refine wpAny_setField hT hdT hsz3 (h _ ⟨λb o hbo=>(other b λq=>by rw[q,hnT] at hbo;cases hbo).trans (hkb b o hbo),hen,
  hl.of_keeps λb o hb hnf=>⟨o,(other b (noRecord b o hb hnf)).trans hb,rfl⟩,?_⟩ (λb o hb hnf=>⟨o.slots,(other b (noRecord b o hb hnf)).trans hb⟩) (K2.same λo p=>(other e (Ne.symm hTe)).trans p))
 exact⟨oe,vs,T,_,_,(other e (Ne.symm hTe)).trans he,hcls,hd,h1,hnT,hTe,Heap.get?_update_self _ hT (Obj.isFreed_of_fields (Obj.data_mapFields hdT _)),Obj.data_mapFields hdT _,by simp[hsz3]⟩
theorem b3q{env:Env}{outer:List Env}(hfr:A.frames=some (env::outer))(hf:env.frame=some L)(R:c8o B (env::outer) e cls a0 fl s.heap)(hQ:∀h',Heap.FlyingW B outer e cls a0 h'->s.heap.UpToSlots h'->K2 s.heap h' e->Q () { s with heap:=h' }):wpAny M A (leaving env (.ref e)) Q E s:=by
 by_cases hm:fl=rawInt L
 ·subst hm
  unfold leaving;refine wpAny_bind (wpAny_noteFrame_againW hf R.2.2.2 ?_);refine c5i (L:=L) R λh' hfl up kk=>?_;obtain⟨k1,k2,⟨_,_,k3⟩,k4⟩:=hfl;exact hQ h' ⟨k1,k2,k3,k4⟩ up kk
 ·obtain⟨hkb,hen,hl,oe,vs,T,oT,ts,he,⟨hcls,h0⟩,hd,h1,hnT,hTe,hT,hdT,h3⟩:=R
  subst hcls;unfold leaving noteFrame;simp only[hf];refine wpAny_bind (wpAny_bind (wpAny_field he hd h1 ?_));rw[if_pos (show(Value.ref T != Value.none)=true from by simp)]
  refine wpAny_bind (wpAny_field hT hdT h3 ?_);rw[if_neg (show ¬ ((fl == rawInt L)=true) from by simpa using hm)]
  refine wpAny_bind (wpAny_setField hT hdT (Array.getElem?_eq_some_iff.mp h3).1 ?_);have other:∀b,b≠T->(s.heap.update T (Obj.mapFields (·.setIfInBounds 3 Value.none))).get? b=s.heap.get? b:=λb hb=>Heap.get?_update_other _ _ (Ne.symm hb)
  have noRecord:∀b o,s.heap.get? b=some o->(∀vs,o.data≠.fields vs)->b≠T:=λb o hb hnf q=>by
   rw[q,hT] at hb;injection hb with hb;subst hb;exact hnf ts hdT
  refine c2d hfr (hl.of_keeps λb o hb hnf=>⟨o,(other b (noRecord b o hb hnf)).trans hb,rfl⟩) hf ((other e (Ne.symm hTe)).trans he)
   (λb o hbo=>(other b λq=>by rw[q,hnT] at hbo;cases hbo).trans (hkb b o hbo)) hen hd (Array.getElem?_eq_some_iff.mp h1).1 h0 λh1 N kk=>?_
  obtain⟨x1,x2,x3,x4⟩:=N;refine b6p (s:={ s with heap:=h1 }) x1 x2 x3 λh2 y1 y2 y3 y4 k2=>?_
  obtain⟨_,_,y2⟩:=y2;exact hQ h2 ⟨y1,hen,y2,y3⟩ (Heap.UpToSlots.trans (λb o hb hnf=>x4 b o ((other b (noRecord b o hb hnf)).trans hb) hnf) y4) (((K2.same λo p=>(other e (Ne.symm hTe)).trans p).trans kk).trans k2)
end
theorem c2a{B B' h h':Heap}(hb:∀b,B.get? b=none->B'.get? b=none):∀{l:List Env},(∀b∈frs l,h'.get? b=h.get? b)->h.FunFrames B l->h'.FunFrames B' l
 | [],_,_=>trivial
 | env::r,k,⟨x1,⟨L,o,hf,hn,ho,hd⟩,x3⟩=>⟨x1,⟨L,o,hf,hb L hn,(k L (List.mem_filterMap.mpr ⟨env,List.mem_cons_self,hf⟩)).trans ho,hd⟩,c2a hb (λb hbr=>k b (by
   obtain⟨en,q1,q2⟩:=List.mem_filterMap.mp hbr;exact List.mem_filterMap.mpr ⟨en,List.mem_cons_of_mem _ q1,q2⟩)) x3⟩
section
variable{P:Program}{w:World}{K:Frag}{mg:Str->Option Value}{base:Heap}{N₀:List Str}{qual:Str}{sc:Scope}{f:Addr}{cd:Value}{A:Around}{outer:List Env}{s₀:Shared}{H₀:Hp}{E₀:XK}
theorem c0l{X:Cx}(hX:X=a8f (CXK P w) P w K mg base N₀ qual sc f cd A outer s₀ H₀ E₀){pins pn' pins':List (Addr×Obj)}{σ σ':St}{H H6:Hp}{s s6 s':Shared}{N:List Str}{scope:Scope}{cl:List (Str×Addr)}{C:Addr}{ex:List Addr}{x:Value}{what:String}(I:Inv X pins σ H s)(hex:∀b∈ex,c2n X pins H b)(hC:s.heap.objs.size<=C)(J:Inv (a0x X N scope cl C s H ex pn') pins' σ' H6 s6)(h:CXK X.prog X.w X.stack H6 s6 E₀ x s'):
  notedBy (model X.prog X.w) X.A (compEnvC scope cl C X.env) (λx s''=>∃m,s''.heap.Ns C m/\∀h',Heap.SameBut C s''.heap h'->∀cenv:Env,cenv.locals=C->wpAny (model X.prog X.w) X.A (PySem.passOn what x cenv:Sem Value) (λ_ _=>False) X.xe { s'' with heap:=h' }) x s':=by
 have J6:=I.blockEnd hex J hC (Heap.SameBut.refl C s6.heap);obtain⟨a,C1,H',rfl,F,oo,nc,q⟩:=h;obtain⟨B,a0,fl,k⟩:=F.fl;have hCs:C ∉ frs X.stack:=λz=>by
  obtain⟨_,o,e,_⟩:=I.stack.mem z;exact absurd (Nat.lt_of_lt_of_le (Heap.lt_size e) hC) (Nat.lt_irrefl _)
 have hC0:∀b o,X.s₀.heap.get? b=some o->b≠C:=λb o e=>Nat.ne_of_lt (Nat.lt_of_lt_of_le (Heap.lt_size e) (Nat.le_trans I.sz hC));obtain⟨m,hns,_⟩:=J.loc;have hns:s6.heap.Ns C m:=hns;have hfC:H6 C=none:=J.free;obtain⟨oC,esC,epC,hoC,hdC,hrC⟩:=hns;have hoC':=F.un.keep C oC hoC hfC hCs (by simp)
 have hns':s'.heap.Ns C m:=⟨oC,esC,epC,hoC',hdC,hrC⟩;have hC':H' C=none:=F.un.free C oC hoC hfC (by simp)
 have nx:∀b:Addr,b ∉ X.ex:=λb z=>by rw[hX] at z;cases z
 have hst:X.stack=X.env::X.outer:=by rw[hX];rfl
 have sub:∀b o,X.s₀.heap.get? b=some o->b ∉ X.fs->b ∉ frs X.stack:=λb o e hb z=>by
  rcases List.mem_cons.mp (I.stkSub b z) with y|y
  ·exact absurd (Nat.lt_of_lt_of_le (Heap.lt_size e) I.ok.above) (by rw[y];exact Nat.lt_irrefl _)
  ·exact hb y
 have infs:∀b,b∈X.fs->b∈frs X.stack:=λb hb=>by
  rw[hst];obtain⟨env,he,hf⟩:=List.mem_filterMap.mp hb;exact List.mem_filterMap.mpr ⟨env,List.mem_cons_of_mem _ he,hf⟩
 have hframe:∃L,X.env.frame=some L:=by rw[hX];exact⟨_,rfl⟩
 obtain⟨L,hL⟩:=hframe;have hfr:X.A.frames=some (X.env::X.outer):=by rw[<- hst];exact I.ok.frames
 show wpAny _ _ (noteFrame (.ref a) X.env) _ _ s';refine d0t hfr hL (hst ▸ fl) λh1 hld up1 kk1=>?_;refine⟨m,up1.ns hns',λh2 sb cenv _=>?_⟩;have hns1:=up1.ns hns';obtain⟨oC1,esC1,epC1,hoC1,hdC1,_⟩:=hns1;have nf:∀b o vs,h1.get? b=some o->o.data=.fields vs->b≠C:=λb o vs e d z=>by
  rw[z,hoC1] at e;cases e;rw[hdC1] at d;cases d
 have inB2:∀b o,B.get? b=some o->b≠C->(PySem.W.hideAll B [C]).get? b=some o:=λb o e n=>PySem.W.hideAll_get _ e (by simpa using n)
 have noB2:∀b,B.get? b=none->(PySem.W.hideAll B [C]).get? b=none:=λb e=>by
  cases z:(PySem.W.hideAll B [C]).get? b with
  | none=>rfl
  | some o=>rw[PySem.W.of_hideAll _ z] at e;cases e
 have R2:c8o (PySem.W.hideAll B [C]) (X.env::X.outer) a C1 a0 (rawInt L) h2:=by
  obtain⟨k1,k2,k3,oe,vs,T,oT,ts,he,hcls,hd,g1,hnT,hTe,hT,hdT,g3⟩:=hld;refine⟨λb o e=>?_,noB2 _ k2,c2a noB2 (λb hb=>sb.2 b λz=>hCs (by rw[hst,<- z];exact hb)) k3,oe,vs,T,oT,ts,(sb.2 a (nf a _ _ he hd)).trans he,hcls,hd,g1,noB2 _ hnT,hTe,(sb.2 T (nf T _ _ hT hdT)).trans hT,hdT,g3⟩
  have n:b≠C:=λz=>by rw[z,PySem.W.hideAll_none _ (List.mem_singleton.mpr rfl)] at e;cases e
  exact(sb.2 b n).trans (k1 b o (PySem.W.of_hideAll _ e))
 obtain⟨oe,vs,T,oT,ts,he,hcls,hd,g1,hnT,hTe,hT,hdT,g3⟩:=R2.2.2.2;unfold PySem.passOn;refine wpAny_bind (wpAny_field he hd g1 ?_);rw[if_neg (show ¬ ((Value.ref T == Value.none)=true) from by simp)]
 have kk2:K2 h1 h2 a:=K2.same λo e=>(sb.2 a (λz=>by
  obtain⟨_,_,_,oe',vs',_,_,_,he',_,hd',_⟩:=hld;exact nf a _ _ he' hd' z)).trans e
 refine wpAny_bind (c0y R2 λh3 R3 up3 kk3=>?_);refine wpAny_throw ?_;subst hX;refine b3q hfr hL R3 λh4 fl4 up4 kk4=>?_;have upc:∀b o,s'.heap.get? b=some o->(∀vs,o.data≠.fields vs)->b≠C->∃sl,h4.get? b=some { o with slots:=sl }:=λb o e d n=>by
  obtain⟨sl1,e1⟩:=up1 b o e d;obtain⟨sl3,e3⟩:=up3 b _ ((sb.2 b n).trans e1) d;obtain⟨sl4,e4⟩:=up4 b _ e3 d;exact⟨sl4,e4⟩
 have frC:∀b,b∈frs outer->b≠C:=λb hb z=>hCs (by rw[<- z];exact infs b hb)
 refine⟨a,C1,H',rfl,⟨F.os.trans J6.os,F.bare,⟨λb o z n hb _=>?_,λb o z n hb _=>?_,λb o z n _=>?_,λb o z _=>?_,λb xs z=>F.un.tups b xs (J6.base.tups b xs z),λb o u z=>F.un.frzs b o u (J6.base.frzs b o u z),λb ps z=>?_⟩,?_,⟨_,a0,fl4,⟨λb o z=>?_,λb o z n hb=>?_,λb o z hb=>?_⟩⟩⟩,oo,λz=>(nc z).on (((kk1.trans kk2).trans kk3).trans kk4),q⟩
 ·exact fl4.1 b o (inB2 b o (k.un b o (J6.base.keep b o z n hb (nx b)) (J6.base.free b o z n (nx b)) (sub b o z hb)) (hC0 b o z))
 ·obtain⟨sl,e1⟩:=J6.base.slot b o z n hb (nx b)
  obtain⟨sl2,e2⟩:=F.un.slot b _ e1 (J6.base.free b o z n (nx b)) (infs b hb) (by simp)
  obtain⟨_,o',ho',hd'⟩:=fl.2.2.1.mem (infs b hb);rw[e2] at ho';cases ho';obtain⟨sl3,e3⟩:=upc b _ e2 hd' (frC b hb);exact⟨sl3,e3⟩
 ·obtain⟨o',e1⟩:=J6.base.there b o z (nx b)
  exact F.un.free b o' e1 (J6.base.free b o z n (nx b)) (by simp)
 ·by_cases hb:b∈frs outer
  ·obtain⟨_,o',ho',hd'⟩:=fl.2.2.1.mem (infs b hb)
   obtain⟨sl3,e3⟩:=upc b _ ho' hd' (frC b hb);exact⟨_,e3⟩
  ·obtain⟨o',e1⟩:=J6.base.there b o z (nx b)
   obtain⟨ob,e2⟩:=k.th b o' e1 (sub b o z hb);exact⟨ob,fl4.1 b ob (inB2 b ob e2 (hC0 b o z))⟩
 ·obtain⟨m1,e1⟩:=J6.base.tbls b ps z
  obtain⟨m2,e2⟩:=F.un.tbls b _ e1;exact⟨m1++m2,by rw[e2,Array.append_assoc]⟩
 ·refine a3w F.hok λb o u z y=>?_
  obtain⟨ob,e1⟩:=k.tr b o z;have e2:=fl.1 b ob e1;rw[y] at e2;cases e2;exact fl4.1 b _ (inB2 b _ e1 (λy2=>by rw[y2,hC'] at z;cases z))
 ·obtain⟨ob,e1⟩:=k.tr b o z
  exact⟨ob,inB2 b ob e1 (λy2=>by rw[y2,hC'] at z;cases z)⟩
 ·exact inB2 b o (k.un b o (J6.base.keep b o z n hb (nx b)) (J6.base.free b o z n (nx b)) (sub b o z hb)) (hC0 b o z)
 ·obtain⟨o',e1⟩:=J6.base.there b o z (nx b)
  obtain⟨ob,e2⟩:=k.th b o' e1 (sub b o z hb);exact⟨ob,inB2 b ob e2 (hC0 b o z)⟩
theorem b5v{X:Cx}(hX:X=a8f (CXK P w) P w K mg base N₀ qual sc f cd A outer s₀ H₀ E₀){N:List Str}{scope:Scope}{cl:List (Str×Addr)}{nt:Nat}{fr:List Nat}{elt iter tg:Expr}{pos:Pos}{wi:TI}{g:TG}{te:TE}(hc:X.calm=true)(k:CompOk X N scope cl nt fr)(hi:PI X tg iter wi)(gk:b1n nt g)(hg:∀C s H ex pn',PG (a0x X N scope cl C s H ex pn') tg g)(he:∀C s H ex pn',PE (c2h X E₀ N scope cl C s H ex pn') elt te)(hs:∀x,foldedSetIterable iter X.env x=pure x:=by intro _;rfl):
  PE X (.ListComp elt [⟨tg,iter,[],0⟩] scope pos) (c7c wi nt fr g te):=by
 intro pins s σ H Q I h;rw[eval_ListComp];refine wpAny_comprehension_free (use:=none) rfl hs k.clos k.kind k.names (thn (hi pins s σ H _ I h) λxv s1 h1=>thn h1 λitv s2 h2=>?_);obtain⟨it,fp,tn,J,H2,rfl,I2,T,st2,f2,R2⟩:=h2;have hfD:H2 s2.heap.objs.size=none:=I2.fresh;obtain⟨n,W,w0,turn⟩:=R2 _ hfD;have I3:Inv X pins σ (upd H2 s2.heap.objs.size (.lst [])) { s2 with heap:=s2.heap.push { cls:=.type "list",data:=.seq ([]:List Value).toArray } }:=I2.lnew (its:=[]) (t':=s2.toks) .nil (Nat.zero_le _)
 have fp2:∀b∈fp,b<s2.heap.objs.size:=λb hb=>by
  obtain⟨o,e,_⟩:=T.obj _ _ st2 b hb;exact Heap.lt_size e
 have f3:∀b∈fp,c2n X pins (upd H2 s2.heap.objs.size (.lst [])) b:=λb hb=>⟨by rw[j4 (Nat.ne_of_lt (fp2 b hb))];exact(f2 b hb).1,(f2 b hb).2⟩
 refine wpAny_newObj_type (hd:=by show(0:Nat)<=_;exact Nat.zero_le _) ?_
 refine wpAny_newFunctionEnv k.cell (by intro y hy;cases hy) (λh4 hns hsb=>?_) k.kind
 have hsz:(s2.heap.push { cls:=.type "list",data:=.seq ([]:List Value).toArray }).objs.size=s2.heap.objs.size+1:=Heap.size_push _ _;have keep4:∀b o,(s2.heap.push { cls:=.type "list",data:=.seq ([]:List Value).toArray }).get? b=some o->h4.get? b=some o:=λb o e=>
  (hsb.2 b (Nat.ne_of_lt (Heap.lt_size e))).trans (Heap.get?_push_of_some _ e)
 have I4:=k.start I3 (C:=(s2.heap.push { cls:=.type "list",data:=.seq ([]:List Value).toArray }).objs.size) (h':=h4) (t':=s2.toks) (ex:=fp) (λb hb=>⟨f3 b hb,by rw[hsz];exact Nat.lt_succ_of_lt (fp2 b hb)⟩) (Nat.le_refl _) hns keep4
 have st4:tn 0 h4:=T.keep _ _ _ st2 λb hb o e=>keep4 b o (Heap.get?_push_of_some _ e);generalize hC:(s2.heap.push { cls:=.type "list",data:=.seq ([]:List Value).toArray }).objs.size=C at I4 hns;have hC3:({ s2 with heap:=s2.heap.push { cls:=.type "list",data:=.seq ([]:List Value).toArray } }:Shared).heap.objs.size<=C:=by rw[<- hC];exact Nat.le_refl _
 have stat:∀{H':Hp},(∀b∈fp,H' b=none)->∀b∈fp,c2n (a0x X N scope cl C { s2 with heap:=s2.heap.push { cls:=.type "list",data:=.seq ([]:List Value).toArray } } (upd H2 s2.heap.objs.size (.lst [])) fp (X.pn++pins)) [] H' b:=λ{H'} hn b hb=>by
  refine⟨hn b hb,?_,λz=>?_,.inl hb,λx c e=>(f2 b hb).2.2.2.2.1 x c (k.cl_at e),λp hp=>(f2 b hb).2.2.2.2.2 p (by have hp:p∈(X.pn++pins)++[]:=hp;rw[List.append_nil] at hp;exact hp)⟩
  ·rw[show(a0x X N scope cl C { s2 with heap:=s2.heap.push { cls:=.type "list",data:=.seq ([]:List Value).toArray } } (upd H2 s2.heap.objs.size (.lst [])) fp (X.pn++pins)).env.locals=C from rfl,<- hC,hsz]
   exact Nat.ne_of_lt (Nat.lt_succ_of_lt (fp2 b hb))
  ·rcases List.mem_cons.mp (I2.stkSub b z) with y|y
   ·exact(f2 b hb).2.1 y
   ·exact(f2 b hb).2.2.1 y
 have loop:∀s5:Shared,s5={ s2 with heap:=h4,toks:=s2.toks }->codeAny (model X.prog X.w) X.A (.compLoop (.ListComp elt [⟨tg,iter,[],0⟩] scope pos) 0 (.ref it) (.ref s2.heap.objs.size) (compEnvC scope cl C X.env))
   (compPost (model X.prog X.w) X.A X.xe none (EP X pins σ Q) (.ref s2.heap.objs.size) C) s5:=by
  rintro s5 rfl;refine codeAny_loop rfl (λm s'=>∃i acc H',m=n-i/\Inv (a0x X N scope cl C { s2 with heap:=s2.heap.push { cls:=.type "list",data:=.seq ([]:List Value).toArray } } (upd H2 s2.heap.objs.size (.lst [])) fp (X.pn++pins)) [] (a0g nt fr σ) H' s'/\tn i s'.heap/\(∀b∈fp,H' b=none)/\W i acc H') ?_ n ⟨0,[],_,rfl,I4,st4,λb hb=>(f3 b hb).1,w0⟩
  rintro m s6 ⟨i,acc,H6,rfl,I6,st6,fr6,w6⟩;show wpAny _ _ ((compTurn (.ListComp elt [⟨tg,iter,[],0⟩] scope pos) 0 (.ref it) (.ref s2.heap.objs.size) (compEnvC scope cl C X.env)).onRaise (λx=>do noteFrame x (compEnvC scope cl C X.env);theTreesLotGoes x)) _ _ s6
  refine wpAny_noted ?_;rw[compTurn_list1];refine wpAny_bind (wpAny_standAt (wpAny_bind ?_));obtain⟨hD6,hz6,alt⟩:=turn i acc H6 w6;rcases alt with ⟨stop,qn⟩|⟨hin,go,step⟩
  ·refine wpAny_mono (T.done (a0x X N scope cl C { s2 with heap:=s2.heap.push { cls:=.type "list",data:=.seq ([]:List Value).toArray } } (upd H2 s2.heap.objs.size (.lst [])) fp (X.pn++pins)) rfl rfl rfl hc i [] s6 (a0g nt fr σ) H6 (λ_ _=>False) I6 (stat fr6) st6 stop) (λr s7 z0_=>?_) (λ_ _ z=>z.elim)
   obtain⟨hr,I7⟩:=z0_;subst hr;refine wpAny_pure ?_;obtain⟨m7,hn7,_⟩:=id I7.loc;exact⟨m7,hn7,λh8 hs8=>⟨.ref s2.heap.objs.size,H6,I3.blockEnd f3 I7 hC3 hs8,rfl,qn⟩⟩
  ·refine wpAny_mono (T.item (a0x X N scope cl C { s2 with heap:=s2.heap.push { cls:=.type "list",data:=.seq ([]:List Value).toArray } } (upd H2 s2.heap.objs.size (.lst [])) fp (X.pn++pins)) rfl rfl rfl hc i [] s6 (a0g nt fr σ) H6 (λ_ _=>False) I6 (stat fr6) st6 go) (λr s7 z0_=>?_) (λ_ _ z=>z.elim)
   obtain⟨u,hr,h7⟩:=z0_;subst hr;refine wpAny_bind (wpAny_mono h7 (λ_ s8 z0_=>?_) (λ_ _ z=>z.elim));obtain⟨x,H8,I8,r8,y8,st8,fr8⟩:=z0_;have I8':=I8.pinned (stat fr8) (T.obj _ _ st8);refine wpAny_bind (wpAny_mono (hg _ _ _ _ _ _ s8 _ H8 x u _ I8' r8 (gk _ _ _ _ (step x H8 y8))) (λ_ s9 z0_=>?_) (λ_ _ z=>z.elim));obtain⟨σ9,H9,I9,k9,q9⟩:=z0_;refine wpAny_bind (wpAny_bind (wpAny_mono (he _ _ _ _ _ _ s9 σ9 H9 _ (toR I9) q9) (λv s10 z0_=>?_) (λe5 s5 z10_=>by obtain⟨p6,σ6,H7,s7',J7,z7⟩:=z10_;exact c0l hX I3 f3 hC3 J7 z7)))
   obtain⟨y,H10,I10',r10,hD10,q10⟩:=z0_;have I10:=ofR I10';refine wpAny_bind (wpAny_mono (b3n (X:=a0x X N scope cl C { s2 with heap:=s2.heap.push { cls:=.type "list",data:=.seq ([]:List Value).toArray } } (upd H2 s2.heap.objs.size (.lst [])) fp (X.pn++pins)) _ s10 σ9 H10 (.ref s2.heap.objs.size) [y] (.ref s2.heap.objs.size) [v] (λv' H'=>v'=.non/\H'=upd H10 s2.heap.objs.size (.lst (acc++[y]))) I10 rfl (.cons r10 .nil) ⟨_,acc,y,rfl,rfl,hD10,hz6,rfl,rfl⟩) (λv' s11 z0_=>?_) (λ_ _ z=>z.elim))
   obtain⟨_,H11,I11,_,_,e11⟩:=z0_;subst e11;refine wpAny_pure (wpAny_pure ⟨rfl,n-(i+1),by lia,i+1,acc++[y],_,rfl,?_,?_,λb hb=>?_,q10⟩)
   ·refine (I11.unpinned (pins:=[])).weak ?_ λj v' e=>?_
    ·rw[I11.len,<- I4.len]
    ·by_cases hj:nt<=j
     ·rw[k9 j hj];exact e
     ·unfold a0g at e
      rw[List.getElem?_append_left (by rw[List.length_replicate];lia),List.getElem?_replicate] at e
      split at e <;> cases e
   ·exact T.keep _ _ _ st8 λb hb o e=>(I11.pin (b,o) (List.mem_append_right _ (List.mem_append_right _ (a3i hb e)))).1
   ·obtain⟨o,e,d⟩:=T.obj _ _ st8 b hb
    exact(I11.pin (b,o) (List.mem_append_right _ (List.mem_append_right _ (a3i hb e)))).2.1
 refine codeAny_compStart_list (loop _ rfl) (T.self _ 0 _ _ _ st4 (loop _ rfl))
end
end L2
namespace L2
open PySem PySem.Spec PyProof.Rows
open PySem.Calls PySem.AutoSeq1 in
section
variable{X:Cx}
variable{K:Frag}{H:Hp}{Q:VK}{σ:St}{y:V}
end
end L2
namespace L2
open PySem PySem.Spec PyProof.Rows
open Builtin Builtin.Str
def wt(ss:List Str):Nat:=(ss.map (·.length)).sum+ss.length
theorem b0s:wt []=0:=rfl
theorem y0(x:Str)(ss:List Str):wt (x::ss)=x.length+1+wt ss:=by
 unfold wt;rw[List.map_cons,List.sum_cons,List.length_cons];lia
theorem a4x(a b:List Str):wt (a++b)=wt a+wt b:=by
 induction a with
 | nil=>rw[List.nil_append,b0s,Nat.zero_add]
 | cons x a ih=>rw[List.cons_append,y0,y0,ih];lia
theorem b0t(ss:List Str):ss.length<=wt ss:=Nat.le_add_left _ _
theorem wt_mem{x:Str}{ss:List Str}(h:x∈ss):x.length+1<=wt ss:=by
 induction ss with
 | nil=>cases h
 | cons y ss ih=>
  rw[y0];rcases List.mem_cons.mp h with rfl|h
  ·lia
  ·have:=ih h
   lia
theorem a9x{y:Str}(h:y.length=1):∀{ss:List Str},ss≠[]->(Str.join y ss).length+1=wt ss
 | [],z=>absurd rfl z
 | [x],_=>by rw[y0,b0s];rfl
 | x::z::r,_=>by
  have:=a9x h (ss:=z::r) (by simp)
  rw[y0];show(x++y++Str.join y (z::r)).length+1=_;rw[Str.length_append,Str.length_append];lia
theorem a3a{y:Str}(h:y.length=1)(ss:List Str):(Txt.join y ss).length<=wt ss:=by
 show(glued y ss).length<=_;rw[StrLaws.glued_eq_join];by_cases z:ss=[]
 ·subst z;exact Nat.zero_le _
 ·have:=a9x h z
  lia
theorem a4f(x y:Str):Txt.split x y≠[]:=by
 unfold Txt.split;split
 ·simp
 ·split
  ·simp
  ·intro z
   have:=congrArg List.length z;rw[length_partsBetween] at this;simp at this
theorem a1e{x y:Str}(h:y.length=1):wt (Txt.split x y)=x.length+1:=by
 rw[<- a9x h (a4f x y),StrLaws.join_split]
theorem c7m{x y:Str}(h:y.length=1):wt (partsBetween x (occurrences x y 0 x.length (x.length+1)) y.length)=x.length+1:=by
 have e:=StrLaws.glued_between_self x y (x.length+1);rw[StrLaws.glued_eq_join] at e;rw[<- a9x h,e];intro z;have:=congrArg List.length z;rw[length_partsBetween] at this;simp at this
theorem a7n(x y:Str):Txt.join y (Txt.split x y)=x:=by
 show glued _ _=_;rw[StrLaws.glued_eq_join,StrLaws.join_split]
theorem a0l:1000000<=sizeLine:=by decide
theorem d0x{y:Str}(h:y.length=1){ss:List Str}(l:wt ss<=1000000):JoinOk y ss=true:=by
 unfold JoinOk;rw[StrLaws.joinTotal,h,Nat.mul_one];have:=a0l;have l:(ss.map (·.length)).sum+ss.length<=1000000:=l
 rw[Bool.not_eq_true'];exact decide_eq_false (by lia)
section
variable{K:Frag}{H:Hp}{Q:VK}
theorem a4j{t y:Str}(hy:y.length=1)(h1:t.length<1000000)(q:∀p,H p=none->Q (.ref p) (upd H p (.lst ((Txt.split t y).map V.str)))):b7p (.str t) [.str y] H Q:=by
 have:=a0l;have a:=c7m (x:=t) hy;have b:=a1e (x:=t) hy;have c:=b0t (partsBetween t (occurrences t y 0 t.length (t.length+1)) y.length);have d:=b0t (Txt.split t y);exact c5s (by rw[hy];rfl) (by lia) (by lia) (by lia) q
theorem a3b{y:Str}{p:Addr}{ss:List Str}(hy:y.length=1)(h:H p=some (.lst (ss.map V.str)))(l:wt ss<=1000000)(q:Q (.str (Txt.join y ss)) H):c4h K (.str y) [.ref p] H Q:=c9h h (d0x hy l) q
end
end L2
namespace L2
open PySem PySem.W PySem.NumText PyProof.Rows
theorem a7w(k:Nat):∀n:Nat,n<10 ^ (k+1)->(Nat.toDigits 10 n).length<=k+1:=by
 induction k with
 | zero=>
  intro n h;rw[Nat.toDigits_of_lt_base (by lia)]
  exact Nat.le_refl _
 | succ k ih=>
  intro n h;by_cases c:n<10
  ·rw[Nat.toDigits_of_lt_base c]
   show 1<=_;lia
  ·have e:10*(n / 10)+n % 10=n:=by lia
   have:=ih (n / 10) (by rw[Nat.pow_succ] at h;lia)
   rw[<- e,<- Nat.toDigits_append_toDigits ↑5 (by lia) (by lia),List.length_append,Nat.toDigits_of_lt_base (show n % 10<10 by lia)]
   show _+1<=_;lia
def a2q(n:Int):Str:=Str.ofString (toString n)
theorem y7(w:Str):w.length=w.cps.toList.length:=Array.length_toList.symm
theorem a1a{n:Int}(h:n.natAbs<10 ^ 60):(a2q n).length<=61:=by
 unfold a2q;rw[y7];cases n with
 | ofNat m=>
  have e:(Str.ofString (toString (Int.ofNat m))).cps.toList=_:=KIN.signs_num m;rw[e,List.length_map];have:=a7w 59 m h;lia
 | negSucc m=>
  rw[signs_ofString,List.length_map];show(String.toList ("-"++Nat.repr (m+1))).length<=_;rw[String.toList_append,List.length_append,Nat.toList_repr];have:=a7w 59 (m+1) h;show 1+_<=_;lia
def b6v(ns:List Int):Str:=Txt.join " " (ns.map a2q)
theorem b0b{ns:List Int}(h:∀n∈ns,n.natAbs<10 ^ 60):wt (ns.map a2q)<=62*ns.length:=by
 induction ns with
 | nil=>exact Nat.le_refl _
 | cons x r ih=>
  rw[List.map_cons,y0,List.length_cons];have:=ih λn hn=>h n (List.mem_cons_of_mem _ hn);have:=a1a (h x List.mem_cons_self);lia
theorem t9:(" ":Str).length=1:=rfl
def rd(w:Str):Int:=(PySem.intText? w).getD 0
theorem b5r{w:Str}(h:a2h w):a2q (rd w)=w/\(rd w).natAbs<10 ^ 60/\PySem.intText? w=some (rd w)/\w.length<=61:=by
 obtain⟨n,e,b,s,l⟩:=c7q h;have:rd w=n:=by unfold rd;rw[e];rfl
 rw[this];exact⟨b,s,e,l⟩
def d0g(row:Str):List Int:=(Txt.split row " ").map rd
end L2
namespace L2
open PySem PySem.Spec PyProof.Rows
section
variable{H:Hp}{σ:St}{t:TA}
end
def MpP{α:Type}(H:Hp)(xs:List α)(f:α->V)(R:α->Prop)(D:Addr)(i:Nat)(acc:List V)(H':Hp):Prop:=H' D=some (.lst acc)/\(∀b u,H b=some u->H' b=some u)/\acc=(xs.take i).map f/\i<=xs.length/\∀x∈xs.take i,R x
section
variable{α:Type}{H H' H3:Hp}{xs:List α}{f:α->V}{R:α->Prop}{D:Addr}{i:Nat}{acc:List V}
theorem MpP.new(hD:H D=none):MpP H xs f R D 0 [] (upd H D (.lst [])):=⟨d8,λb u e=>by rw[j4 (λz=>by rw[z,hD] at e;cases e)];exact e,rfl,Nat.zero_le _,λx h=>by simp at h⟩
theorem MpP.len(h:MpP H xs f R D i acc H'):H' D=some (.lst acc)/\acc.length=i:=by
 obtain⟨e,_,rfl,l,_⟩:=h;exact⟨e,by rw[List.length_map,List.length_take];lia⟩
theorem MpP.step{x:α}{y:V}(h:MpP H xs f R D i acc H')(hD:H D=none)(hx:xs[i]?=some x)(r:R x)(hy:y=f x)(s:∀b u,H' b=some u->H3 b=some u):H3 D=some (.lst acc)/\MpP H xs f R D (i+1) (acc++[y]) (upd H3 D (.lst (acc++[y]))):=by
 obtain⟨e,s0,rfl,l,g⟩:=h;subst hy;have hi:i<xs.length:=(List.getElem?_eq_some_iff.mp hx).1;refine⟨s _ _ e,d8,λb u eb=>?_,?_,hi,?_⟩
 ·rw[j4 (λz=>by rw[z,hD] at eb;cases eb)]
  exact s _ _ (s0 _ _ eb)
 ·rw[List.take_add_one,hx,List.map_append]
  rfl
 ·intro z hz
  rw[List.take_add_one,hx] at hz;rcases List.mem_append.mp hz with hz|hz
  ·exact g z hz
  ·have:z=x:=by simpa using hz
   rw[this];exact r
theorem MpP.done(h:MpP H xs f R D i acc H')(hi:i=xs.length):H' D=some (.lst (xs.map f))/\(∀b u,H b=some u->H' b=some u)/\∀x∈xs,R x:=by
 obtain⟨e,s0,rfl,l,g⟩:=h;subst hi;rw[List.take_length] at e g;exact⟨e,s0,g⟩
theorem a4c{β:Type}{g:α->β}{v:β}(h:(xs.map g)[i]?=some v):∃x,xs[i]?=some x/\v=g x:=by
 rw[List.getElem?_map] at h;cases e:xs[i]? with
 | none=>rw[e] at h;cases h
 | some x=>rw[e] at h;cases h;exact⟨x,rfl,rfl⟩
end
end L2
namespace L2
open PySem PySem.Spec PyProof.Rows
end L2
namespace L2
open PySem PySem.Spec PySem.Calls PyProof.Rows
theorem b6r:entryFor table "proto.unchain" = some Builtin.«proto.unchain»:=entryFor_of_tree (by kernel_rfl)
section
variable{prog:Program}{w:World}{A:Around}{E:Value->Shared->Prop}{s:Shared}
theorem b6x{e a:Addr}{Q:Value->Shared->Prop}(n:NC s.heap a)(q:Q .none s):wpAny (model prog w) A (runValue (.builtin "proto.unchain" ⟨[.ref e,.ref a,.ref a,.bool false],[]⟩)) Q E s:=by
 obtain⟨o,vs,x,y,z⟩:=n;refine wpAny_runValue (codeAny_builtin b6r ?_);unfold Builtin.«proto.unchain»;refine wpAny_bind (wpAny_field x y z ?_);exact wpAny_pure q
variable{env:Env}{nm q:Str}{C N:Addr}{bs bm:List Value}{hdct:Bool}{sn:List Str}{sub:List Value}{ab:Bool}{col:Option Bool}{dd:Option Addr}{k0 k1 k2 k3 k5:Option Value}{newId:String}
theorem c2w{x c:Sem Value}{a:Addr}{Q:Flow->Shared->Prop}(hbase:bm.contains (.type "BaseException")=true)(hh:A.handled=some (.ref a))(hc:∀(R:Value->Shared->Prop) (s':Shared),R .none s'->wpAny (model prog w) A c R E s')(h:wpAny (model prog w) A x (λv s1=>∃e t,v=.ref e/\s1.heap.get? C=some (excClassObj nm q C N bs bm hdct sn sub ab col dd k0 k1 k2 k3 k5 newId) /\
   s1.heap.get? e=some { cls:=.ref C,data:=.fields #[.ref t,.none,.none,.none,.bool false,.none] }/\NC s1.heap a/\a≠e/\∀h',h'.get? e=some { cls:=.ref C,data:=.fields #[.ref t,.none,.ref a,.none,.bool true,.none] }->(∀b,b≠e->h'.get? b=s1.heap.get? b)->E (.ref e) { s1 with heap:=h' }) E s):
  wpAny (model prog w) A (raiseStmt env (some x) (some c)) Q E s:=by
 have hcB:(Value.ref C::bm).contains (.type "BaseException")=true:=by rw[List.contains_cons,hbase,Bool.or_true]
 unfold raiseStmt;refine wpAny_bind (wpAny_mono h (λv s1 h1=>?_) λ_ _ x=>x);obtain⟨e,t,rfl,hC,he,n,ne,hE⟩:=h1;refine wpAny_bind (wpAny_holding (hc _ _ (wpAny_bind (wpAny_pure ?_))));obtain⟨hp,g,d,tk,os⟩:=s1;have Ce:e≠C:=λz=>by
  rw[z] at he;have:=he.symm.trans hC;injection this with this
  injection this with _ _ this _
  cases this
 repeat (first|with_reducible refine wpAny_loadPart_at he ?_|with_reducible refine wpAny_loadPart_at hC ?_|(with_reducible refine wpAny_isSubtype_exc hC ?_;rw[hcB])|wp_step)
 have hC2:((hp.update e (Obj.mapFields λx=>x.setIfInBounds 3 Value.none)).update e (Obj.mapFields λx=>x.setIfInBounds 4 (Value.bool true))).get? C=some (excClassObj nm q C N bs bm hdct sn sub ab col dd k0 k1 k2 k3 k5 newId) :=
  (Heap.get?_update_other _ _ Ce).trans ((Heap.get?_update_other _ _ Ce).trans hC)
 have he1:=Heap.get?_update_self (Obj.mapFields λx=>x.setIfInBounds 3 Value.none) he (by rfl)
 have he2:=Heap.get?_update_self (Obj.mapFields λx=>x.setIfInBounds 4 (Value.bool true)) he1 (by rfl)
 have n2:NC ((hp.update e (Obj.mapFields λx=>x.setIfInBounds 3 Value.none)).update e (Obj.mapFields λx=>x.setIfInBounds 4 (Value.bool true))) a:=n.on (K2.same λo p=>(Heap.get?_update_other _ _ (Ne.symm ne)).trans ((Heap.get?_update_other _ _ (Ne.symm ne)).trans p));have oth2:∀b,b≠e->((hp.update e (Obj.mapFields λx=>x.setIfInBounds 3 Value.none)).update e (Obj.mapFields λx=>x.setIfInBounds 4 (Value.bool true))).get? b=hp.get? b:=λb nb=>(Heap.get?_update_other _ _ (Ne.symm nb)).trans (Heap.get?_update_other _ _ (Ne.symm nb));generalize (hp.update e (Obj.mapFields λx=>x.setIfInBounds 3 Value.none)).update e (Obj.mapFields λx=>x.setIfInBounds 4 (Value.bool true))=h2 at hC2 he2 n2 oth2 ⊢;unfold raiseNew;refine wpAny_bind (wpAny_handled ?_);rw[hh];dsimp only;rw[if_pos (show(Value.ref a != Value.ref e)=true by simpa using ne)]
 refine wpAny_bind (wpAny_holding (b6x n2 ?_));have he3:h2.get? e=some { cls:=.ref C,data:=.fields #[.ref t,.none,.none,.none,.bool true,.none] }:=he2;unfold updateField;refine wpAny_bind (wpAny_bind (wpAny_load he3 ?_));dsimp only;rw[if_pos (by show 2<6;decide)]
 refine wpAny_update he3 ?_;refine wpAny_throw (hE _ (Heap.get?_update_self _ he3 rfl) λb nb=>(Heap.get?_update_other _ _ (Ne.symm nb)).trans (oth2 b nb))
end
end L2
namespace L2
open PySem PySem.Spec PySem.Calls PyProof.Rows
def c8s(K:Frag)(c d C':Addr)(E:XK)(tb:(St->XK)->TS):TS:=λD σ H=>tb (λ_ C o H'=>o=none/\exmAny K C [.ref c,.ref d]=some true/\E (.ref C') (some 0) H') D σ H
theorem d1f{K:Frag}{c d C':Addr}{E:XK}{tb:(St->XK)->TS}{nx bk ct:St->Hp->Prop}{rt:VK}{σ:St}{H:Hp}(q:tb (λ_ C o H'=>o=none/\exmAny K C [.ref c,.ref d]=some true/\E (.ref C') (some 0) H') ⟨nx,rt,bk,ct⟩ σ H):c8s K c d C' E tb ⟨nx,rt,bk,ct⟩ σ H:=q
section
variable{P:Program}{w:World}{K:Frag}{mg:Str->Option Value}{base:Heap}{N₀:List Str}{qual:Str}{sc:Scope}{f:Addr}{cd:Value}{A:Around}{outer:List Env}{s₀:Shared}{H₀:Hp}{E₀:XK}
variable{body:List Stmt}{x y z:Str}{np np2 hpos pos tpos zp cpos rpos npos:Pos}{kk kn:Nat}{c d C':Addr}{tb:(St->XK)->TS}{m:Str}{km:Nat}{mp:Pos}
theorem c7g{X:Cx}(hX:X=a8f (CXK P w) P w K mg base N₀ qual sc f cd A outer s₀ H₀ E₀)(hcal:X.calm=true)(hg:Gl X x)(hg2:Gl X y)(hgz:Gl X z)(hm:X.mg x=some (.ref c))(hm2:X.mg y=some (.ref d))(hmz:X.mg z=some (.ref C'))(hC:d6p X.K C')(hb:∀pn' E J,b0r (X.tryX pn' E) J->PSs (X.tryX pn' E) body (tb J))(hd:(x == ("__debug__":Str))=false:=by decide)(hd2:(y == ("__debug__":Str))=false:=by decide)(hdz:(z == ("__debug__":Str))=false:=by decide)(he:starEach [.Constant (.str m) km mp] X.env=[(false,eval (.Constant (.str m) km mp) X.env)]:=by rfl):
  PS X (.Try body [.ExceptHandler (some (.Tuple [.Name x np,.Name y np2] kk tpos)) none [.Raise (some (.Call (.Name z zp) [.Constant (.str m) km mp] [] cpos)) (some (.Constant .none kn npos)) rpos] hpos] [] [] pos) (c8s X.K c d C' E₀ tb):=by
 have hst:X.stack=X.env::X.outer:=by rw[hX];rfl
 have hfr:X.env.frame=some X.env.locals:=by rw[hX];rfl
 intro pins s σ H D I h;have hcl:X.calm=true->X.A.handled=none:=I.ok.hd;have hp:b0r (X.tryX (X.pn++pins) (λe s'=>∃pins' σ1 H1 s1,Inv (X.tryX (X.pn++pins) X.xe) pins' σ1 H1 s1/\CXK X.prog X.w X.stack H1 s1 ((λ_ C o H'=>o=none/\exmAny X.K C [.ref c,.ref d]=some true/\E₀ (.ref C') (some 0) H':St->XK) σ1) e s'))
   (λ_ C o H'=>o=none/\exmAny X.K C [.ref c,.ref d]=some true/\E₀ (.ref C') (some 0) H') :=
  λpins' σ1 H1 s1 e s' I1 q=>⟨pins',σ1,H1,s1,I1.re rfl hcl (λp z=>z),q⟩
 have back:∀{A':Around}{c':Bool}{xe':Value->Shared->Prop}{pins':List (Addr×Obj)}{σ1:St}{H1:Hp}{s1:Shared},X.A.frames=A'.frames->Inv ({ X with A:=A',calm:=c',pn:=X.pn++pins,xe:=xe' }:Cx) pins' σ1 H1 s1->Inv X pins σ1 H1 s1 :=
  λhA I1=>I1.re (pn':=X.pn) (calm':=X.calm) (A':=X.A) (xe':=X.xe) hA hcl (λp z=>List.mem_append_left _ z)
 refine wpAny_Try_except (wpAny_mono (hb _ _ _ hp [] s σ H D (I.re rfl hcl (λp z=>by simpa using z)) h) (λf s1 q=>?_) λe s1 q=>?_)
 ·cases f with
  | next=>obtain⟨σ',H',I',q⟩:=q;exact wpAny_execs_nil ⟨σ',H',back rfl I',q⟩
  | brk=>obtain⟨σ',H',I',q⟩:=q;exact⟨σ',H',back rfl I',q⟩
  | cont=>obtain⟨σ',H',I',q⟩:=q;exact⟨σ',H',back rfl I',q⟩
  | ret u=>obtain⟨v,σ',H',I',r,q⟩:=q;exact⟨v,σ',H',back rfl I',r,q⟩
 ·obtain⟨pins',σ1,H1,s2,I1,a,C,H',rfl,F,o,nc,ho,hx,hq⟩:=q
  have I1:Inv X pins σ1 H1 s2:=back rfl I1;have nc:=nc ho;obtain⟨B,a0,fl,k⟩:=F.fl;have hs:X.A.frames=some (X.env::X.outer):=by rw[<- hst];exact I1.ok.frames
  refine d0t (base:=B) hs hfr (by rw[<- hst];exact fl) λh4 hh4 up4 k4=>?_
  refine c5i hh4 λh5 fl5 up5 k5=>?_;have fl5':Heap.FlyingW B X.stack a C a0 h5:=by rw[hst];exact fl5
  have up:s1.heap.UpToSlots h5:=up4.trans up5;have I5:=F.caught I1 fl k fl5'.1 up;refine wpAny_handleBy_cons (codeAny_handlers_test ?_) (by intro q;cases q)
  have I5h:Inv (X.inH (X.pn++pins) a) [] σ1 H' { s1 with heap:=h5 }:=I5.re rfl (λz=>nomatch z) (λp z=>by simpa using z)
  refine wpAny_Tuple ?_;refine wpAny_items_cons (a7m (X:=X.inH (X.pn++pins) a) I5h hg hm ?_ hd);refine wpAny_items_cons (a7m (X:=X.inH (X.pn++pins) a) I5h hg2 hm2 ?_ hd2);refine wpAny_items_nil ⟨by size_fits,?_⟩
  have kp:∀q o,h5.get? q=some o->(h5.push { cls:=.type "tuple",data:=.seq [Value.ref c,Value.ref d].toArray }).get? q=some o:=λ_ _ z=>Heap.get?_push_of_some _ z;have LT:PySem.W.Looks (model X.prog X.w) (h5.push { cls:=.type "tuple",data:=.seq [Value.ref c,Value.ref d].toArray }) (typeOf (.ref a)) C:=by
   obtain⟨ob,hob,hc⟩:=fl5'.there;subst hc;exact(PySem.W.Looks.ld (kp _ _ hob)).andThen .now
  refine (PySem.W.exm_tup2 (K:=X.K) (I5.kIn.keeps kp) LT (Heap.get?_push_size h5 rfl) hx).here ?_;refine codeAny_handlers_suite ?_;have fk:=PySem.W.flying_keeps fl5' kp;refine b6p (s:={ s1 with heap:=h5.push { cls:=.type "tuple",data:=.seq [Value.ref c,Value.ref d].toArray } }) fk.1 fk.2.2.1 fk.2.2.2.at λh6 y1 y2 y3 y4 k6=>?_
  have I6:=F.caught I1 fl k y1 (up.trans ((Heap.UpToSlots.of_keeps kp).trans y4));have n6:NC h6 a:=nc.on (((k4.trans k5).trans (K2.same λo p=>kp _ _ p)).trans k6);have I6h:Inv (X.inH (X.pn++pins) a) [] σ1 H' { s1 with heap:=h6 }:=I6.re rfl (λz=>nomatch z) (λp z=>by simpa using z)
  refine wpAny_execs_cons ?_;obtain⟨bm,N,nm,qn,bs,hdct,sn,sub,ab,col,dd,k0,k1,k2,k3,k5',mN,gC,gN,gi,gT⟩:=c6b I6.ok.mod.kin hC;show wpAny _ _ (do standAt rpos;raiseStmt X.env (some (do let v <- eval (.Call (.Name z zp) [.Constant (.str m) km mp] [] cpos) X.env;standAt rpos;pure v)) (some (do let v <- eval (.Constant .none kn npos) X.env;standAt rpos;pure v))) _ _ _
  refine wpAny_bind (wpAny_standAt (c2w (C:=C') (nm:=nm) (q:=qn) (N:=N) (bs:=bs) (bm:=bm) (hdct:=hdct) (sn:=sn) (sub:=sub) (ab:=ab) (col:=col) (dd:=dd) (k0:=k0) (k1:=k1) (k2:=k2) (k3:=k3) (k5:=k5') (newId:="ValueError.__new__") (gT.hasType ↑5) rfl (λR s' r=>wpAny_bind (Constant_none (wpAny_bind (wpAny_standAt (wpAny_pure r))))) ?_));refine wpAny_bind (wpAny_mono (wpAny_Call_ofName (a7m (X:=X.inH (X.pn++pins) a) I6h hgz hmz ?_ hdz)) (λv s3 h3=>wpAny_bind (wpAny_standAt (wpAny_pure h3))) λ_ _ x=>x);unfold callWith;rw[he];refine wpAny_bind (wpAny_holding (evalArgs_plain (spliced_cons (Constant_str (k:=km) (pos:=mp) (spliced_nil (wpAny_bind (wpAny_standAt ?_)))))));have hpl:((backTo cpos [(false,eval (.Constant (.str m) km mp) X.env)]).any λx=>x.1)=false:=rfl;simp only[hpl];have I7:Inv X pins σ1 H' { s1 with heap:=h6,toks:=s1.toks+1 }:=I6.tok (s1.toks+1)
  refine wpAny_bind (wpAny_keeperOf_exc (I7.bk _ _ gC) ?_);refine wpAny_bind (wpAny_call_exc_subT (hrest:=by show 1<=sizeLine;decide) PySem.F.excBase_ValueError (gT.keeps I7.bk) (I7.bk _ _ gC) (gN.keeps I7.bk) gi λh7 e hmk=>wpAny_bind (wpAny_holding (wpAny_point (wpAny_pure ?_))))
  obtain⟨t,ht,_,_⟩:=id hmk.there;have ne:a≠e:=λz=>by
   obtain⟨o,vs,p,_⟩:=n6;have:h6.get? e=none:=hmk.new;rw[<- z,p] at this;cases this
  refine⟨e,t,rfl,hmk.keeps _ _ (I7.bk _ _ gC),ht,n6.on (K2.same λo p=>hmk.keeps _ _ p),ne,λh8 e8 o8=>?_⟩;have hL:X.env.frame=some X.env.locals:=hfr;subst hX;have nB:(PySem.W.hideAll h6 (frs (a8f (CXK P w) P w K mg base N₀ qual sc f cd A outer s₀ H₀ E₀).stack)).get? e=none:=by
   cases z:(PySem.W.hideAll h6 (frs (a8f (CXK P w) P w K mg base N₀ qual sc f cd A outer s₀ H₀ E₀).stack)).get? e with
   | none=>rfl
   | some o=>have p:=PySem.W.of_hideAll _ z;rw[show h6.get? e=none from hmk.new] at p;cases p
  have k8:∀b o,h6.get? b=some o->h8.get? b=some o:=λb o p=>(o8 b (λz=>by rw[z,show h6.get? e=none from hmk.new] at p;cases p)).trans (hmk.keeps b o p)
  have FF:=c1z I7;show wpAny _ _ (noteFrame (.ref e) _) _ _ _;unfold noteFrame;simp only[hL];refine wpAny_bind (wpAny_field e8 rfl (x:=.none) rfl ?_);rw[if_neg ↑5];refine c2d (base:=PySem.W.hideAll h6 (frs (a8f (CXK P w) P w K mg base N₀ qual sc f cd A outer s₀ H₀ E₀).stack)) (a0:=.ref t) (outer:=outer) hs (FF.of_keeps λb o p _=>⟨o,k8 b o p,rfl⟩) hL e8 (λb o p=>k8 b o (PySem.W.of_hideAll _ p)) nB rfl (by show 1<6;decide) rfl λh9 N9 _=>?_
  obtain⟨x1,x2,x3,x4⟩:=N9;have x4:h8.UpToSlots h9:=x4;obtain⟨oe,vs,T,oT,ts,he9,hcls,hd9,g1,nT,Te,hT,dT,g3⟩:=id x3;unfold cameBackBy;refine wpAny_bind (wpAny_field he9 hd9 g1 ?_);rw[if_neg (show ¬ ((Value.ref T == Value.none)=true) by simp)]
  rw[hL];refine c0y (fr:=some _) ⟨x1,nB,x2,x3⟩ λh10 R10 up10 _=>?_;refine b3q hs hL R10 λh11 fl11 up11 _=>?_;exact⟨e,.ref C',H',rfl,c9k (s:={ s1 with heap:=h6,toks:=s1.toks+1 }) I7 fl11 ((Heap.UpToSlots.of_keeps k8).trans ((x4.trans up10).trans up11)),some 0,(λz=>(nomatch z)),hq⟩
end
end L2
namespace L2
open PySem PySem.Spec PyProof.Rows
section
variable{X:Cx}
def d2o(r1 r2:R2)(ta tb tc:TE):TE:=λσ H Q=>ta σ H λx H1=>tb σ H1 λy H2=>r1 x y H2 λv H3=>∃k,v=.bl k/\if k=true then (tc σ H3 λz H4=>r2 y z H4 Q) else Q (.bl false) H3
theorem b5w{o1 o2:CmpOp}{r1 r2:R2}{a b c:Expr}{ta tb tc:TE}{pos:Pos}(h1:OpR X (compareOp o1) r1)(h2:OpR X (compareOp o2) r2)(ha:PE X a ta)(hb:PE X b tb)(hc:PE X c tc)(hm:lastMarks [o1,o2] [b,c]=false:=by with_unfolding_all rfl):PE X (.Compare a [o1,o2] [b,c] pos) (d2o r1 r2 ta tb tc):=by
 intro pins s σ H Q I h;refine Compare_chain (rs:=[]) (thn (ha pins s σ H _ I h) λv s1 z0_=>?_) hm;obtain⟨x,H1,I1,rx,q1⟩:=z0_;refine chain_link (thn (hb pins s1 σ H1 _ I1 q1) λu s2 z0_=>?_);obtain⟨y,H2,I2,ry,q2⟩:=z0_;refine thn (h1 pins s2 σ H2 x y v u _ I2 rx ry q2) λd s3 z0_=>?_;obtain⟨k,H3,I3,rk,b',ek,q3⟩:=z0_;subst ek;cases rk;refine wpAny_truthy_bool ?_;cases b' with
 | false=>exact⟨.bl false,H3,I3,rfl,q3⟩
 | true=>exact chain_last (thn (hc pins s3 σ H3 _ I3 q3) λe s4 z0_=>by obtain⟨z,H4,I4,rz,q4⟩:=z0_;exact h2 pins s4 σ H4 y z u e _ I4 ry rz q4)
theorem c1x{r1 r2:R2}{ta tb tc:TE}{σ:St}{H:Hp}{Q:VK}(q:ta σ H λx H1=>tb σ H1 λy H2=>r1 x y H2 λv H3=>∃k,v=.bl k/\if k=true then (tc σ H3 λz H4=>r2 y z H4 Q) else Q (.bl false) H3):d2o r1 r2 ta tb tc σ H Q:=q
def d5f:List V->Hp->VK->Prop:=λxs H Q=>(∃i,xs=[.int i]/\i.natAbs.log2<1920/\Q (.str (toString i)) H) \/ ∃z,xs=[.str z]/\Q (.str z) H
theorem c6h:a4w X (.type "str") d5f:=by
 intro pins s σ H xs us Q I r h;rcases h with ⟨i,rfl,hz,q⟩|⟨z,rfl,q⟩
 ·obtain⟨u,rfl,t,rfl⟩:=b4b r
  exact PySem.P.str_of_int hz ⟨.str _,H,I.tok _,⟨_,rfl⟩,q⟩
 ·obtain⟨u,rfl,t,rfl⟩:=b4b r
  exact PySem.P.str_of_str ⟨.str _,H,I,⟨_,rfl⟩,q⟩
def ipL:TIp:=λx y H Q=>∃l b xs zs,x=.ref l/\y=.ref b/\H l=some (.lst xs)/\H b=some (.lst zs)/\xs.length+zs.length<=sizeLine/\Q (.ref l) (upd H l (.lst (xs++zs)))
theorem c7d:seqSlot? (.type "list") (dunderI "add")=pure (some (.builtin "list.__iadd__"))   := PySem.seqSlot_of F.slot_list_iadd.lookup (by decide +kernel)
theorem c9d:PIp X .Add ipL:=by
 intro pins s σ H x y v u Q I rx ry h;obtain⟨l,b,xs,zs,rfl,rfl,hH,hB,hz,q⟩:=h;cases rx;cases ry;obtain⟨z,its,n,r,hl,e⟩:=I.lstM hH;obtain⟨z2,its2,n2,r2,hl2,e2⟩:=I.lstM hB;have ha:s.TypeIs (.ref l) "list":=⟨_,e,rfl⟩;have hb:s.TypeIs (.ref b) "list":=⟨_,e2,rfl⟩;have hsz:its.toArray.size+its2.toArray.size<=sizeLine:=by rw[List.size_toArray,List.size_toArray];lia
 have hlong:¬ (!its.toArray.isEmpty && Builtin.List.listTooLong (its.toArray.size+its2.toArray.size))=true:=by
  rw[c1l hsz,Bool.and_false];exact Bool.false_ne_true
 have lk:typeLookup (.type "list") (dunderI "add")=pure (some (.builtin "list.__iadd__")):=F.slot_list_iadd.lookup;have fi:fillsInplaceSlot (.type "list") "add" (Operator.Add == .Add)=pure false:=by
  unfold fillsInplaceSlot;show(typeLookup (.type "list") (dunderI "add") >>= λz=>pure (z.isSome && !isSeqSlot z))=pure false;rw[lk];show pure (true && !isSeqSlot (some (.builtin "list.__iadd__")))=(pure false:Sem Bool);rw[show isSeqSlot (some (.builtin "list.__iadd__"))=true by decide +kernel]
  rfl
 unfold inplaceOp;refine wpAny_holding ?_;refine wpAny_bind (wpAny_typeOf ha (wpAny_bind (wpAny_of_eq fi ?_)));show wpAny _ _ (if false=true then _ else _) _ _ s;rw[if_neg Bool.false_ne_true];refine wpAny_bind (wpAny_binaryOp1_none (nm:="add") ha hb PySem.noFill_list_add ?_);refine wpAny_bind (wpAny_of_eq c7d ?_);refine wpAny_bind (wpAny_rule ?_);refine call_meets F.slot_list_iadd ha F.entry_list_iadd (F.args_list_iadd_2 _ _) (AutoSeq1.list___iadd___list_list_0 l its.toArray n b its2.toArray n2 hlong (by rw[List.size_toArray];lia) (by lia)) ⟨e,e2,?_⟩
 exact⟨.ref l,_,I.lset (its':=its++its2) hH e (by simp) (r.append r2) (by rw[List.length_append];lia),rfl,q⟩
abbrev TJ:=St->Hp->Str->(Str->Hp->Prop)->Prop
def PJ(X:Cx)(vs:List Expr)(t:TJ):Prop:=∀(pins:List (Addr×Obj))(s:Shared)(σ:St)(H:Hp)(out:Str)(R:Str->Hp->Prop),Inv X pins σ H s->t σ H out R->wpAny (model X.prog X.w) X.A (joinParts out (evalEach vs X.env)) (EP X pins σ λv H'=>∃z,v=.str z/\R z H') X.xe s
def d7s(x:V)(y:Str):Prop:=(x=.str y/\y.length<=sizeLine) \/ ∃i:Int,x=.int i/\i.natAbs.log2<1920/\y=toString i
def d7z:TJ:=λ_ H out R=>out.length<=sizeLine/\R out H
def d8a(c:Str)(t:TJ):TJ:=λσ H out R=>(out++c).length<=sizeLine/\t σ H (out++c) R
def d7g(te:TE)(t:TJ):TJ:=λσ H out R=>te σ H λx H1=>∃y,d7s x y/\(out++y).length<=sizeLine/\t σ H1 (out++y) R
theorem c1c:PJ X [] d7z:=by
 intro pins s σ H out R I h;exact joinParts_nil ⟨.str out,H,I.tok _,⟨_,rfl⟩,out,rfl,h.2⟩ h.1
theorem a7i{c:Str}{k:Nat}{p:Pos}{vs:List Expr}{t:TJ}(ht:PJ X vs t):PJ X (.Constant (.str c) k p::vs) (d8a c t):=by
 intro pins s σ H out R I h;refine joinParts_cons (Calls.Constant_str ⟨h.1,?_⟩);exact ht pins _ σ H _ R (I.tok _) h.2
theorem a7h{e:Expr}{p:Pos}{te:TE}{vs:List Expr}{t:TJ}(he:PE X e te)(ht:PJ X vs t):PJ X (.FormattedValue e (-1) none p::vs) (d7g te t):=by
 intro pins s σ H out R I h;refine joinParts_cons (FormattedValue_plain (thn (he pins s σ H _ I h) λv s1 z0_=>?_));obtain⟨x,H1,I1,rx,y,fy,l,q⟩:=z0_;rcases fy with ⟨rfl,ly⟩|⟨i,rfl,hi,rfl⟩
 ·obtain⟨tk,rfl⟩:=rx
  exact formatField_str (λt' tk'=>⟨l,ht pins _ σ H1 _ R (I1.tok tk') q⟩) ly
 ·obtain⟨tk,rfl⟩:=rx
  exact formatField_int_small hi ⟨l,ht pins _ σ H1 _ R (I1.tok _) q⟩
def d2m(t:TJ):TE:=λσ H Q=>t σ H Str.empty λz H'=>Q (.str z) H'
theorem b5u{v1 v2:Expr}{rest:List Expr}{t:TJ}{pos:Pos}(h:PJ X (v1::v2::rest) t):PE X (.JoinedStr (v1::v2::rest) pos) (d2m t):=by
 intro pins s σ H Q I q;refine JoinedStr_many (thn (h pins s σ H Str.empty _ I q) λv s1 z0_=>?_);obtain⟨x,H1,I1,rx,z,e,qz⟩:=z0_;subst e;exact⟨_,H1,I1,rx,qz⟩
section
variable{σ:St}{H:Hp}{out:Str}{R:Str->Hp->Prop}{t:TJ}{te:TE}{Q:VK}
theorem c1w(q:t σ H Str.empty λz H'=>Q (.str z) H'):d2m t σ H Q:=q
theorem a7o(q:te σ H λx H1=>∃y,d7s x y/\(out++y).length<=sizeLine/\t σ H1 (out++y) R):d7g te t σ H out R:=q
end
def d7d(K:Frag)(n:Nat):R2:=λx y H Q=>∃(p:Addr)(ps:List Addr)(e:Addr->Bool),y=.ref p/\SqL K H p (ps.map V.ref)/\(∀a∈ps,EqD K H n (.ref a) x (e a))/\Q (.bl (ps.any e)) H
theorem c4e{ps:List Addr}{us:List Value}(r:Vals (ps.map V.ref) us):us=ps.map Value.ref:=by
 induction ps generalizing us with
 | nil=>cases r;rfl
 | cons a t ih=>
  cases r with
  | cons h r=>cases h;rw[ih r];rfl
def d7m(e:Addr->Bool):Value->Bool|.ref a=>e a|_=>false
theorem d3e{K:Frag}{n:Nat}(hu:X.A.units+(n+1)<cLine)(h:X.K=K:=by rfl):OpR X (compareOp .In) (d7d K n):=by
 subst h;intro pins s σ H x y v u Q I rx ry h;obtain⟨p,ps,e,rfl,hq,he,q⟩:=h;cases ry;obtain⟨its,r,pl,hz⟩:=I.list hq;have ei:=c4e r;subst ei;refine SeqAt.in_listAt (d7m e) pl.isList (λw hw=>?_) ⟨.bl _,H,I,rfl,?_⟩
 ·obtain⟨a,ha,rfl⟩:=List.mem_map.mp (by simpa using hw:w∈ps.map Value.ref)
  exact b8u I (he a ha) rfl rx (by show X.A.units+1+n<cLine;lia)
 ·rw[show(ps.map Value.ref).toArray.any (d7m e)=ps.any e by simp[List.any_map];rfl]
  exact q
end
end L2
namespace L2
open PySem PySem.Spec PyProof.Rows
open Builtin Builtin.Str
def a3v(c:Nat)(sp:List Nat):List (List Nat)->List Nat
 | []=>[]
 | [x]=>x
 | x::y::r=>x++c::(sp++a3v c sp (y::r))
theorem c8n{c:Nat}{x y u v:List Nat}(hx:c ∉ x)(hy:c ∉ y)(h:x++c::u=y++c::v):x=y/\u=v:=by
 induction x generalizing y with
 | nil=>
  cases y with
  | nil=>exact⟨rfl,by simpa using h⟩
  | cons b y=>simp at h;exact absurd (by rw[h.1];exact List.mem_cons_self) hy
 | cons a x ih=>
  cases y with
  | nil=>simp at h;exact absurd (by rw[h.1];exact List.mem_cons_self) hx
  | cons b y=>
   simp only[List.cons_append,List.cons.injEq] at h;obtain⟨rfl,h⟩:=h;obtain⟨e,f⟩:=ih (λz=>hx (List.mem_cons_of_mem _ z)) (λz=>hy (List.mem_cons_of_mem _ z)) h;exact⟨by rw[e],f⟩
theorem b8o{c:Nat}{sp:List Nat}:∀{ss ts:List (List Nat)},ss≠[]->ts≠[]->(∀x∈ss,c ∉ x)->(∀x∈ts,c ∉ x)->a3v c sp ss=a3v c sp ts->ss=ts
 | [],_,h,_,_,_,_=>absurd rfl h
 | _,[],_,h,_,_,_=>absurd rfl h
 | [x],[y],_,_,_,_,h=>by rw[show x=y from h]
 | [x],y::y'::t,_,_,hs,_,h=>by
  have h:x=y++c::(sp++a3v c sp (y'::t)):=h;exact absurd (by rw[h];simp) (hs x (by simp))
 | x::x'::s,[y],_,_,_,ht,h=>by
  have h:x++c::(sp++a3v c sp (x'::s))=y:=h;exact absurd (by rw[<- h];simp) (ht y (by simp))
 | x::x'::s,y::y'::t,_,_,hs,ht,h=>by
  have h:x++c::(sp++a3v c sp (x'::s))=y++c::(sp++a3v c sp (y'::t)):=h;obtain⟨e,f⟩:=c8n (hs x (by simp)) (ht y (by simp)) h
  have g:=b8o (by simp) (by simp) (λz hz=>hs z (List.mem_cons_of_mem _ hz)) (λz hz=>ht z (List.mem_cons_of_mem _ hz)) (List.append_cancel_left f)
  rw[e,g]
theorem z9(a b:Str):(a++b).cps.toList=a.cps.toList++b.cps.toList:=by
 show(a.cps++b.cps).toList=_;rw[Array.toList_append]
theorem a2d{y:Str}{c:Nat}{sp:List Nat}(hy:y.cps.toList=c::sp):∀ss:List Str,(Txt.join y ss).cps.toList=a3v c sp (ss.map (·.cps.toList)):=by
 intro ss;show(glued y ss).cps.toList=_;rw[StrLaws.glued_eq_join]
 induction ss with
 | nil=>rfl
 | cons x r ih=>
  cases r with
  | nil=>rfl
  | cons z r=>
   show(x++y++Str.join y (z::r)).cps.toList=x.cps.toList++c::(sp++a3v c sp ((z::r).map (·.cps.toList)))
   rw[z9,z9,ih,hy,List.append_assoc]
   rfl
theorem c0e{ss ts:List Str}(h:ss.map (·.cps.toList)=ts.map (·.cps.toList)):ss=ts:=by
 induction ss generalizing ts with
 | nil=>cases ts with
  | nil=>rfl
  | cons y t=>cases h
 | cons x s ih=>
  cases ts with
  | nil=>cases h
  | cons y t=>
   simp only[List.map_cons,List.cons.injEq] at h;rw[a2i h.1,ih h.2]
theorem a9b{y:Str}{c:Nat}{sp:List Nat}(hy:y.cps.toList=c::sp){ss:List Str}(ne:ss≠[])(hs:∀s∈ss,c ∉ s.cps.toList)(ht:∀s∈Txt.split (Txt.join y ss) y,c ∉ s.cps.toList):Txt.split (Txt.join y ss) y=ss:=by
 apply c0e;have e:(Txt.join y (Txt.split (Txt.join y ss) y)).cps.toList=(Txt.join y ss).cps.toList:=by rw[a7n]
 rw[a2d hy,a2d hy] at e;refine b8o (λz=>a4f _ _ (List.map_eq_nil_iff.mp z)) (λz=>ne (List.map_eq_nil_iff.mp z)) ?_ ?_ e
 ·intro x hx
  obtain⟨s,m,rfl⟩:=List.mem_map.mp hx;exact ht s m
 ·intro x hx
  obtain⟨s,m,rfl⟩:=List.mem_map.mp hx;exact hs s m
theorem a5h{y:Str}{c:Nat}(hy:y=⟨#[c]⟩){ss:List Str}(ne:ss≠[])(hs:∀s∈ss,c ∉ s.cps.toList):Txt.split (Txt.join y ss) y=ss:=by
 subst hy;exact a9b (c:=c) (sp:=[]) rfl ne hs (StrLaws.split_free _ c)
def Fol(l:List Nat):Prop:=∀i,l[i]?=some 59->l[i+1]?=some 32
theorem Fol.drop{a l:List Nat}(h:Fol (a++l)):Fol l:=by
 intro i hi;have:=h (a.length+i) (by rw[List.getElem?_append_right (by lia),Nat.add_sub_cancel_left];exact hi)
 rw[List.getElem?_append_right (by lia),show a.length+i+1-a.length=i+1 by lia] at this
 exact this
theorem c1p:∀{ss:List (List Nat)},(∀x∈ss,59 ∉ x)->Fol (a3v 59 [32] ss)
 | [],_=>λi h=>by cases h
 | [x],hs=>λi h=>absurd (List.mem_of_getElem? h) (hs x (by simp))
 | x::z::r,hs=>by
  have ih:=c1p (ss:=z::r) λy hy=>hs y (List.mem_cons_of_mem _ hy);intro i hi;have e:a3v 59 [32] (x::z::r)=x++59::32::a3v 59 [32] (z::r):=rfl;rw[e] at hi ⊢;by_cases h1:i<x.length
  ·rw[List.getElem?_append_left h1] at hi
   exact absurd (List.mem_of_getElem? hi) (hs x (by simp))
  ·rw[List.getElem?_append_right (by lia)] at hi ⊢
   rw[show i+1-x.length=(i-x.length)+1 by lia]
   generalize i-x.length=k at hi ⊢
   match k with
   | 0=>rfl
   | 1=>simp at hi
   | k+2=>
    simp only[List.getElem?_cons_succ] at hi ⊢;exact ih k hi
theorem d1j{ts:List (List Nat)}(hf:Fol (a3v 59 [32] ts))(ht:∀t∈ts,∀j,¬ (t[j]?=some 59/\t[j+1]?=some 32)):∀t∈ts,59 ∉ t:=by
 induction ts with
 | nil=>intro t h;cases h
 | cons x r ih=>
  have first:∀rest,Fol (x++rest)->(rest=[] \/ ∃u,rest=59::u)->59 ∉ x:=by
   intro rest hF hr hm;obtain⟨j,hj⟩:=List.getElem?_of_mem hm;have jl:=(List.getElem?_eq_some_iff.mp hj).1;have h1:=hF j (by rw[List.getElem?_append_left jl];exact hj)
   by_cases h2:j+1<x.length
   ·rw[List.getElem?_append_left h2] at h1
    exact ht x (by simp) j ⟨hj,h1⟩
   ·rw[List.getElem?_append_right (by lia),show j+1-x.length=0 by lia] at h1
    rcases hr with rfl|⟨u,rfl⟩
    ·cases h1
    ·simp at h1
  cases r with
  | nil=>
   intro t h;rw[List.mem_singleton.mp h];exact first [] (by simpa[a3v] using hf) (.inl rfl)
  | cons z r=>
   have e:a3v 59 [32] (x::z::r)=x++(59::32::a3v 59 [32] (z::r)):=rfl;rw[e] at hf;intro t h;rcases List.mem_cons.mp h with rfl|h
   ·exact first _ hf (.inr ⟨_,rfl⟩)
   ·exact ih (by have:=(Fol.drop hf);exact Fol.drop (a:=[59,32]) this) (λt ht'=>ht t (List.mem_cons_of_mem _ ht')) t h
theorem c9r(x:Str)(k:Nat)(h:x.cps.toList[k]?=some 59/\x.cps.toList[k+1]?=some 32):StrLaws.At x "; " x.length k:=by
 have l:=(List.getElem?_eq_some_iff.mp h.2).1;have l':x.length=x.cps.toList.length:=y7 x;refine⟨by show k+2<=x.length;lia,?_⟩
 rw[StrLaws.subAt_eq];have e1:x.cps.toList.drop k=59::x.cps.toList.drop (k+1):=by
  rw[List.drop_eq_getElem_cons (by lia)]
  congr 1
  have:=h.1;rw[List.getElem?_eq_getElem (by lia)] at this
  exact Option.some.inj this
 have e2:x.cps.toList.drop (k+1)=32::x.cps.toList.drop (k+2):=by
  rw[List.drop_eq_getElem_cons l]
  congr 1
  have:=h.2;rw[List.getElem?_eq_getElem l] at this;exact Option.some.inj this
 rw[e1,e2]
 rfl
theorem c1f(x:Str)(a b:Nat)(hn:∀k,a<=k->k<b->¬ StrLaws.At x "; " x.length k):∀j,¬ ((strSub x a b).cps.toList[j]?=some 59/\(strSub x a b).cps.toList[j+1]?=some 32):=by
 rintro j ⟨h1,h2⟩;rw[StrLaws.strSub_toList] at h1 h2;have hlt:j+1<b-a:=by
  have:=(List.getElem?_eq_some_iff.mp h2).1;rw[List.length_take] at this;lia
 rw[List.getElem?_take_of_lt (by lia),List.getElem?_drop] at h1
 rw[List.getElem?_take_of_lt hlt,List.getElem?_drop] at h2;exact hn (a+j) (by lia) (by lia) (c9r x _ ⟨h1,by rw[Nat.add_assoc];exact h2⟩)
theorem b7s(x:Str):∀(cuts:List Nat)(a f:Nat),StrLaws.ChainG x "; " x.length a cuts f->(∀k,f<=k->¬ StrLaws.At x "; " x.length k)->∀p∈StrLaws.partsFrom x ("; ":Str).length a cuts,∀j,¬ (p.cps.toList[j]?=some 59/\p.cps.toList[j+1]?=some 32)
 | [],a,f,h,hn,p,hp=>by
  have e:f=a:=h;subst e;rw[List.mem_singleton.mp hp];exact c1f x f x.length λk h1 _=>hn k h1
 | d::r,a,f,h,hn,p,hp=>by
  rcases List.mem_cons.mp hp with rfl|hp'
  ·exact c1f x a d h.2.2.1
  ·exact b7s x r _ f h.2.2.2 hn p hp'
theorem c7u(x:Str):1<=strKind x:=by
 unfold Builtin.Str.strKind;split
 ·exact Nat.le_refl _
 ·split <;> decide
theorem c3z(x:Str):∀p∈Txt.split x "; ",∀j,¬ (p.cps.toList[j]?=some 59/\p.cps.toList[j+1]?=some 32):=by
 obtain⟨f,hG,hn⟩:=StrLaws.occ_tight x "; " ↑5;have whole:(∀k,¬ StrLaws.At x "; " x.length k)->∀p∈[x],∀j,¬ (p.cps.toList[j]?=some 59/\p.cps.toList[j+1]?=some 32):=by
  intro h p hp j z;rw[List.mem_singleton.mp hp] at z;exact h j (c9r x j z)
 unfold Txt.split;split
 ·next hc=>
  refine whole λk z=>?_;rw[Bool.or_eq_true,decide_eq_true_eq,decide_eq_true_eq] at hc;rcases hc with h|h
  ·have:=z.1
   lia
  ·have:=c7u x
   have:strKind ("; ":Str)=1:=by decide +kernel
   lia
 ·split
  ·next he=>
   have e0:occurrences x "; " 0 x.length (x.length+1)=[]:=List.isEmpty_iff.mp he;rw[e0] at hG;have ef:f=0:=hG;exact whole λk=>hn k (by lia)
  ·rw[StrLaws.partsBetween_eq]
   exact b7s x _ 0 f hG hn
theorem b2j{ss:List Str}(ne:ss≠[])(hs:∀s∈ss,59 ∉ s.cps.toList):Txt.split (Txt.join "; " ss) "; " = ss:=by
 have hy:("; ":Str).cps.toList=59::[32]:=rfl;refine a9b hy ne hs ?_;have hf:Fol (a3v 59 [32] ((Txt.split (Txt.join "; " ss) "; ").map (·.cps.toList))):=by
  rw[<- a2d hy,a7n,a2d hy];exact c1p λx hx=>by
   obtain⟨s,m,rfl⟩:=List.mem_map.mp hx;exact hs s m
 intro s m;exact d1j hf (λt ht=>by
  obtain⟨u,m',rfl⟩:=List.mem_map.mp ht;exact c3z _ u m') _ (List.mem_map_of_mem m)
end L2
namespace L2
open PySem PySem.Spec PyProof.Rows
open Builtin Builtin.Str
theorem a9w{y:Str}(h:y.length=2):∀{ss:List Str},ss≠[]->(Str.join y ss).length+2=wt ss+ss.length
 | [],z=>absurd rfl z
 | [x],_=>by rw[y0,b0s];rfl
 | x::z::r,_=>by
  have:=a9w h (ss:=z::r) (by simp)
  rw[y0];show(x++y++Str.join y (z::r)).length+2=_;rw[Str.length_append,Str.length_append,List.length_cons];lia
theorem a6h{x y:Str}(h:y.length=2):wt (Txt.split x y)+(Txt.split x y).length=x.length+2:=by
 rw[<- a9w h (a4f x y),StrLaws.join_split]
theorem c4v{x y:Str}(h:y.length=2):wt (partsBetween x (occurrences x y 0 x.length (x.length+1)) y.length)+(partsBetween x (occurrences x y 0 x.length (x.length+1)) y.length).length=x.length+2:=by
 have e:=StrLaws.glued_between_self x y (x.length+1);rw[StrLaws.glued_eq_join] at e;rw[<- a9w h,e];intro z;have:=congrArg List.length z;rw[length_partsBetween] at this;simp at this
theorem c1o{y:Str}(h:y.length=2)(ss:List Str):(Txt.join y ss).length<=2*wt ss:=by
 show(glued y ss).length<=_;rw[StrLaws.glued_eq_join];by_cases z:ss=[]
 ·subst z;exact Nat.zero_le _
 ·have:=a9w h z
  have:=b0t ss;lia
theorem d0w{y:Str}(h:y.length=2){ss:List Str}(l:wt ss<=400000):JoinOk y ss=true:=by
 unfold JoinOk;rw[StrLaws.joinTotal,h];have:=a0l;have l:(ss.map (·.length)).sum+ss.length<=400000:=l
 rw[Bool.not_eq_true'];exact decide_eq_false (by lia)
theorem a2t:("; ":Str).length=2:=rfl
section
variable{K:Frag}{H:Hp}{Q:VK}
theorem c1t{t y:Str}(hy:y.length=2)(h1:t.length<999990)(q:∀p,H p=none->Q (.ref p) (upd H p (.lst ((Txt.split t y).map V.str)))):b7p (.str t) [.str y] H Q:=by
 have:=a0l;have a:=c4v (x:=t) hy;have b:=a6h (x:=t) hy;exact c5s (by rw[hy];rfl) (by lia) (by lia) (by lia) q
theorem c5w{y:Str}{p:Addr}{ss:List Str}(hy:y.length=2)(h:H p=some (.lst (ss.map V.str)))(l:wt ss<=400000)(q:Q (.str (Txt.join y ss)) H):c4h K (.str y) [.ref p] H Q:=c9h h (d0w hy l) q
end
theorem d1n(x:Str)(a:Nat):(b0q x (some (a:Int)) none).cps.toList=x.cps.toList.drop a:=by
 by_cases h:a<=x.length
 ·exact b2d x a h
 ·have e:strSliceIndices (some (a:Int)) none 1 x.length=strSliceIndices (some (x.length:Int)) none 1 x.length:=by
   unfold strSliceIndices;dsimp only;rw[if_neg (show ¬ ((a:Int)<0) by lia),if_neg (show ¬ ((x.length:Int)<0) by lia),if_pos (show(1:Int) > 0 by decide),if_pos (show(1:Int) > 0 by decide),show max 0 (min (a:Int) (x.length:Int))=x.length by lia,if_pos (show(1:Int) > 0 by decide),show max 0 (min (x.length:Int) (x.length:Int))=x.length by lia]
  have e2:b0q x (some (a:Int)) none=b0q x (some (x.length:Int)) none:=by unfold b0q;rw[e]
  rw[e2,b2d x x.length (Nat.le_refl _),List.drop_of_length_le (by rw[<- y7];exact Nat.le_refl _),List.drop_of_length_le (by rw[<- y7];lia)]
theorem c3u{row w:Str}{t:List Str}(h:Txt.split row " " = w::t):b0q row (some ((w.length:Int)+1)) none=Txt.join " " t:=by
 have hy:(" ":Str).cps.toList=32::[]:=rfl;have e:row.cps.toList=a3v 32 [] ((w::t).map (·.cps.toList)):=by
  rw[<- h,<- a2d hy,a7n]
 apply a2i;have c:=d1n row (w.length+1);rw[show(((w.length+1:Nat):Int))=(w.length:Int)+1 by lia] at c
 rw[c,e,a2d hy];cases t with
 | nil=>
  show(w.cps.toList).drop (w.length+1)=[];exact List.drop_of_length_le (by rw[<- y7];lia)
 | cons z r=>
  show(w.cps.toList++32::([]++a3v 32 [] ((z::r).map (λs:Str=>s.cps.toList)))).drop (w.length+1)=_;rw[List.drop_append];rw[List.drop_of_length_le (by rw[<- y7];lia),List.nil_append,<- y7,show w.length+1-w.length=1 by lia]
  rfl
end L2
namespace L2
open PySem PySem.Spec PyProof.Rows
theorem a2z{K:Frag}{a:Addr}{xs:List V}{p:V->Bool}{nt:Nat}{fr:List Nat}{g:TG}{tt:TT}{te:TE}{σ:St}{H:Hp}{Q:Addr->Hp->Prop}(hs:H a=some (.tup xs))(hz:xs.length<sizeLine)(he:∀(i:Nat) (x:V) (H':Hp) (k1:VK) (k2:Hp->Prop),xs[i]?=some x->Same H H'->(p x=true->∀H2,Same H' H2->k1 x H2)->(p x=false->∀H2,Same H' H2->k2 H2)->g x (a0g nt fr σ) H' λσ2 H2=>tt σ2 H2 λc H3=>if c=true then te σ2 H3 k1 else k2 H3)(hq:∀D H',H D=none->Same H H'->H' D=some (.lst (xs.filter p))->Q D H'):
  ∀D,H D=none->∃(n:Nat)(W:Nat->List V->Hp->Prop),W 0 [] (upd H D (.lst []))/\∀i acc H',W i acc H'->H' D=some (.lst acc)/\acc.length<sizeLine /\
   (((Itt K a).stop i H'/\Q D H')\/(i<n/\(Itt K a).go i H'/\∀x H2,(Itt K a).yld i H' x H2->g x (a0g nt fr σ) H2 λσ2 H3=>tt σ2 H3 λc H4=>if c=true then (te σ2 H4 λy H5=>H5 D=some (.lst acc)/\W (i+1) (acc++[y]) (upd H5 D (.lst (acc++[y])))) else W (i+1) acc H4)):=by
 intro D hD;refine⟨xs.length,λi acc H'=>i<=xs.length/\acc=(xs.take i).filter p/\Same H H'/\H' D=some (.lst acc),⟨Nat.zero_le _,rfl,λb u eb=>by rw[j4 (g9 eb hD)];exact eb,d8⟩,?_⟩
 rintro i acc H' ⟨hi,rfl,s',e'⟩;have hl:((xs.take i).filter p).length<=i:=Nat.le_trans (List.length_filter_le _ _) (by rw[List.length_take];lia)
 refine⟨e',by lia,?_⟩
 have sq:SqT K H' a xs:=SqT.of (s' _ _ hs);by_cases h:i<xs.length
 ·refine .inr ⟨h,⟨xs,xs[i],sq,List.getElem?_eq_getElem h⟩,?_⟩
  rintro x H2 ⟨rfl,hy⟩;have hx:=hy xs sq;have e:xs.take (i+1)=xs.take i++[x]:=by
   rw[List.take_succ,hx];rfl
  refine he i x _ _ _ hx s' (λq H3 s3=>⟨s3 _ _ e',by lia,?_,?_,d8⟩) (λq H3 s3=>⟨by lia,?_,λb u eb=>s3 _ _ (s' _ _ eb),s3 _ _ e'⟩)
  ·rw[e,List.filter_append]
   simp[q]
  ·intro b u eb
   rw[j4 (g9 eb hD)];exact s3 _ _ (s' _ _ eb)
  ·rw[e,List.filter_append]
   simp[q]
 ·have e:i=xs.length:=by lia
  subst e;refine .inl ⟨⟨xs,sq,Nat.le_refl _⟩,?_⟩;rw[List.take_length] at e';exact hq D _ hD s' e'
end L2
namespace HT
open PySem PySem.Spec PyProof.Rows
section
variable{prog:Program}{w:World}{A:Around}{E:Value->Shared->Prop}{s:Shared}
theorem d0k(k:Nat):Builtin.Slice.slicePlaces 0 ((4*k:Nat):Int) 4=k:=by
 unfold Builtin.Slice.slicePlaces;rw[if_pos ↑5];split <;> lia
theorem d1t(k n:Nat)(h:4*k<=n):Builtin.Slice.sliceAdjust none (some ((4*k:Nat):Int)) 4 (n:Int)=(0,((4*k:Nat):Int)):=by
 unfold Builtin.Slice.sliceAdjust;have h1:¬ ((4:Int)<0):=by lia
 simp only[h1,if_false];refine Prod.ext rfl ?_;dsimp only;rw[if_neg (by lia)]
 lia
theorem b5j{sl:Addr}{vl vu vt:Value}{k n:Nat}{Q:Int×Int×Nat->Shared->Prop}(hs:s.heap.IsSliceOf sl vl vu vt)(pl:IsPart vl none)(pu:IsPart vu (some ((4*k:Nat):Int)))(pt:IsPart vt (some 4))(hk:4*k<=n)(h:Q (0,4,k) s):wpAny (model prog w) A (Builtin.Slice.sliceApplied (.ref sl) (pure (n:Int))) Q E s:=by
 obtain⟨os,hos,hcs,hds⟩:=id hs;unfold Builtin.Slice.sliceApplied Builtin.Slice.sliceFields;refine wpAny_bind (wpAny_bind (wpAny_field hos hds (x:=vl) rfl (wpAny_bind (wpAny_field hos hds (x:=vu) rfl (wpAny_bind (wpAny_field hos hds (x:=vt) rfl (wpAny_pure ?_)))))));refine wpAny_bind (a4y pt ?_);show wpAny _ _ (if ((4:Int) == 0)=true then _ else _) _ _ s;rw[if_neg ↑5];refine wpAny_bind (a4y pl (wpAny_bind (a4y pu (wpAny_bind (wpAny_pure ?_)))));show wpAny _ _ (match Builtin.Slice.sliceAdjust none (some ((4*k:Nat):Int)) 4 (n:Int) with|(lo,hi)=>pure (lo,(4:Int),Builtin.Slice.slicePlaces lo hi 4)) _ _ s
 rw[d1t k n hk];show wpAny _ _ (pure ((0:Int),(4:Int),Builtin.Slice.slicePlaces 0 ((4*k:Nat):Int) 4)) _ _ s;rw[d0k];exact wpAny_pure h
theorem getItem_tuple_4{t sl:Addr}{items:Array Value}{vl vu vt:Value}{k:Nat}{Q:Value->Shared->Prop}(ht:IsTup s.heap t items)(hs:s.heap.IsSliceOf sl vl vu vt)(pl:IsPart vl none)(pu:IsPart vu (some ((4*k:Nat):Int)))(pt:IsPart vt (some 4))(hk:4*k<=items.size)(h:Q (.ref s.heap.objs.size) { s with heap:=s.heap.push { cls:=.type "tuple",data:=.seq ((List.range k).filterMap λ(m:Nat)=>items[((0:Int)+(m:Int)*4).toNat]?).toArray } })(hsz:items.size<=sizeLine):wpAny (model prog w) A (getItem (.ref t) (.ref sl)) Q E s:=by
 have htake:sizeOk (.seq ((List.range k).filterMap λ(m:Nat)=>items[((0:Int)+(m:Int)*4).toNat]?).toArray):=by
  show((List.range k).filterMap λ(m:Nat)=>items[((0:Int)+(m:Int)*4).toNat]?).toArray.size<=sizeLine;rw[List.size_toArray];have:=List.length_filterMap_le (λ(m:Nat)=>items[((0:Int)+(m:Int)*4).toNat]?) (List.range k);rw[List.length_range] at this;lia
 obtain⟨os,hos,hcs,hds⟩:=id hs;have hTs:s.TypeIs (.ref sl) "slice":=⟨os,hos,hcs⟩;unfold getItem
 try with_reducible refine wpAny_holding ?_
 first|refine wpAny_bind (wpAny_pure ?_)|skip
 refine wpAny_bind (wpAny_sequenceKey ht.typeIs ↑5 ?_);refine wpAny_bind (wpAny_callSpecial?_slot (name:=Str.ofString "__getitem__") ht.typeIs PyProof.Rows.slot_tuple_getitem
  (wpAny_call_entry PyProof.Rows.slot_tuple_getitem ht.typeIs entry_tuple_getitem ?_ (args_tuple_getitem _ _)))
 show wpAny _ _ (Builtin.Tuple.tupleItemsOf (.ref t) >>= _) _ _ s;refine wpAny_bind (tupleItemsOf_ ht ?_);refine wpAny_bind (wpAny_typeOf hTs ?_);rw[if_pos ↑5];refine wpAny_bind (b5j hs pl pu pt hk ?_);show wpAny _ _ (if ((0:Int) == 0 && (4:Int) == 1 && k == items.size)=true then _ else _) _ _ s;rw[if_neg (by show ¬ ((true && false && _)=true);simp)]
 first
  | exact wpAny_bind (m:=Builtin.Tuple.tupleExact _) (wpAny_newObj_type (wpAny_pure ⟨_,rfl,wpAny_pure h⟩) htake)
  | exact wpAny_bind (m:=Builtin.Tuple.tupleExact _) (wpAny_newObj_type (wpAny_bind (wpAny_pure (wpAny_pure ⟨_,rfl,wpAny_pure h⟩))) htake)
  | exact wpAny_bind (wpAny_bind (m:=Builtin.Tuple.tupleExact _) (wpAny_newObj_type (wpAny_pure (wpAny_pure ⟨_,rfl,wpAny_pure h⟩)) htake))
  | exact wpAny_bind (wpAny_bind (m:=Builtin.Tuple.tupleExact _) (wpAny_newObj_type (wpAny_pure ⟨_,rfl,wpAny_pure h⟩) htake))
end
end HT
namespace L2
open PySem PySem.Spec PyProof.Rows
section
variable{X:Cx}{e:Expr}{te:TE}{lo hi:Option Expr}{se:Expr}{tl th ts:TO}{pos p2:Pos}
def b5t(xs:List V)(k:Nat):List V:=(List.range k).filterMap λm=>xs[4*m]?
def d6s(K:Frag)(te:TE)(tl th ts:TO):TE:=λσ H Q=>te σ H λx H1=>tl σ H1 λl H2=>th σ H2 λu H3=>ts σ H3 λt H4=>∃(a:Addr)(xs:List V)(k:Nat),x=.ref a/\SqT K H4 a xs/\l=none/\u=some ((4*k:Nat):Int)/\t=some 4/\4*k<=xs.length/\∀p,H4 p=none->Q (.ref p) (upd H4 p (.tup (b5t xs k)))
theorem c4q{K:Frag}(he:PE X e te)(hl:PO X lo tl)(hu:PO X hi th)(ht:PO X (some se) ts)(hK:X.K=K:=by rfl):PE X (.Subscript e (.Slice lo hi (some se) p2) pos) (d6s K te tl th ts):=by
 subst hK;intro pins s σ H Q I h;refine Subscript_ (thn (he pins s σ H _ I h) λv s1 z0_=>?_);obtain⟨x,H1,I1,r1,q1⟩:=z0_;refine wpAny_Slice (thn (hl pins s1 σ H1 _ I1 q1) λvl s2 z0_=>?_);obtain⟨l,H2,I2,pl,q2⟩:=z0_;refine thn (hu pins s2 σ H2 _ I2 q2) λvu s3 z1_=>?_;obtain⟨u,H3,I3,pu,q3⟩:=z1_;refine thn (ht pins s3 σ H3 _ I3 q3) λvt s4 z2_=>?_;obtain⟨t,H4,I4,pt,q4⟩:=z2_;obtain⟨a,xs,k,rfl,hx,rfl,rfl,rfl,hk,q⟩:=q4;cases r1;have I5:Inv X pins σ H4 { s4 with heap:=s4.heap.push { cls:=.type "slice",data:=.fields #[vl,vu,vt] } }:=I4.kept (t':=s4.toks) λb ob q=>Heap.get?_push_of_some _ q
 obtain⟨its,r,hT,hz'⟩:=I5.tuple hx;have hlen:=r.length;show wpAny (model X.prog X.w) X.A (subscriptTail e (.Slice lo hi (some se) p2) (.ref a) (.ref s4.heap.objs.size)) (EP X pins σ Q) X.xe { s4 with heap:=s4.heap.push { cls:=.type "slice",data:=.fields #[vl,vu,vt] } }
 refine tail_any (ops:=[.ref a,.ref s4.heap.objs.size]) hT.typeIs PyProof.Rows.slot_tuple_getitem.lookup ?_ (by with_unfolding_all rfl)
 refine HT.getItem_tuple_4 (k:=k) hT (Heap.IsSliceOf.new ..) pl pu pt (by rw[List.size_toArray];lia) ?_ (by rw[List.size_toArray];lia)
 have e1:((List.range k).filterMap λ(m:Nat)=>its.toArray[((0:Int)+(m:Int)*4).toNat]?)=((List.range k).map λm=>4*m).filterMap λx=>its[x]?:=by
  rw[List.filterMap_map]
  congr 1
  funext m;show its.toArray[((0:Int)+(m:Int)*4).toNat]?=its[4*m]?;rw[show((0:Int)+(m:Int)*4).toNat=4*m by lia]
  simp
 have e2:b5t xs k=((List.range k).map λm=>4*m).filterMap λx=>xs[x]?:=by
  unfold b5t;rw[List.filterMap_map]
  rfl
 rw[e1];have l4:(b5t xs k).length<=sizeLine:=by
  have:=List.length_filterMap_le (λm=>xs[4*m]?) (List.range k);rw[List.length_range] at this;unfold b5t;lia
 exact⟨.ref _,_,I5.laid (t':=s4.toks) (o:=.tup (b5t xs k)) (λb ob q=>Heap.get?_push_of_some _ q) (Nat.le_refl _) ⟨l4,_,e2 ▸ b2f r _,IsTup.new _ _⟩,rfl,q _ (I5.hok.fresh (Nat.le_refl _))⟩
theorem d5y{K:Frag}{σ:St}{H:Hp}{Q:VK}(q:te σ H λx H1=>tl σ H1 λl H2=>th σ H2 λu H3=>ts σ H3 λt H4=>∃(a:Addr) (xs:List V) (k:Nat),x=.ref a/\SqT K H4 a xs/\l=none/\u=some ((4*k:Nat):Int)/\t=some 4/\4*k<=xs.length/\∀p,H4 p=none->Q (.ref p) (upd H4 p (.tup (b5t xs k)))):d6s K te tl th ts σ H Q:=q
end
end L2
namespace L2
open PySem PySem.Spec PyProof.Rows
theorem d1p{prog:Program}{w:World}{A:Around}{E:Value->Shared->Prop}{s:Shared}{t b:Addr}{vs ws:List Value}{Q:Value->Shared->Prop}(ht:IsTup s.heap t vs.toArray)(hb:IsTup s.heap b ws.toArray)(hv:vs=[])(h1:Q (.ref b) s):wpAny (model prog w) A (binaryOp .Add (.ref t) (.ref b)) Q E s:=by
 obtain⟨⟨cls,dd,data,sl⟩,ho,hc,n,hd⟩:=id ht;obtain⟨⟨cls2,dd2,data2,sl2⟩,ho2,hc2,n2,hd2⟩:=id hb;simp only at hc hd hc2 hd2;subst hc hd hc2 hd2;exact concat_meets ⟨_,ho,rfl⟩ ⟨_,ho2,rfl⟩ noFill_tuple_add seq_tuple_add PySem.F.slot_tuple_add PySem.F.entry_tuple_add (PySem.F.args_tuple_add_2 _ _)
  (tuple_addW0 t b vs.toArray ws.toArray n n2 dd dd2 sl sl2 (by simp[hv])) ⟨ho,ho2,h1⟩
section
variable{X:Cx}
def d2x(K:Frag):R2:=λx y H Q=>∃a b xs ys,x=.ref a/\y=.ref b/\SqT K H a xs/\SqT K H b ys/\xs.length+ys.length<=sizeLine /\
 (xs=[]->Q (.ref b) H)/\(xs≠[]->ys=[]->Q (.ref a) H)/\(xs≠[]->ys≠[]->∀p,H p=none->Q (.ref p) (upd H p (.tup (xs++ys))))
theorem b5z{K:Frag}(h:X.K=K:=by rfl):OpR X (binaryOp .Add) (d2x K):=by
 subst h;intro pins s σ H x y v u Q I rx ry h;obtain⟨a,b,xs,ys,rfl,rfl,ha,hb,hz,q0,q1,q2⟩:=h;by_cases hx:xs=[]
 ·cases rx
  cases ry;obtain⟨its,r1,p1,_⟩:=I.tuple ha;obtain⟨its2,r2,p2,_⟩:=I.tuple hb;exact d1p p1 p2 (r1.nil_iff.mpr hx) ⟨.ref b,H,I,rfl,q0 hx⟩
 ·exact d0q pins s σ H _ _ v u Q I rx ry ⟨a,b,xs,ys,rfl,rfl,ha,hb,hx,hz,q1 hx,q2 hx⟩
theorem c1y{K:Frag}{H:Hp}{Q:VK}{a b:Addr}{xs ys:List V}(ha:H a=some (.tup xs))(hb:H b=some (.tup ys))(hz:xs.length+ys.length<=sizeLine)(q:∀p H',Same H H'->H' p=some (.tup (xs++ys))->Q (.ref p) H'):d2x K (.ref a) (.ref b) H Q:=by
 refine⟨a,b,xs,ys,rfl,rfl,SqT.of ha,SqT.of hb,hz,λz=>q b H (Same.refl H) ?_,λ_ z=>q a H (Same.refl H) ?_,λ_ _ p hp=>q p _ (λb u e=>by rw[j4 (g9 e hp)];exact e) d8⟩
 ·rw[z];exact hb
 ·rw[z,List.append_nil];exact ha
end
end L2
namespace L2
open PySem PySem.W PySem.NumText PyProof.Rows
def dsN(m:Nat):List Nat:=(Nat.toDigits 10 m).map Char.toNat
theorem b8x:∀m:Nat,m<10->48<=(Nat.digitChar m).toNat/\(Nat.digitChar m).toNat<=57/\((Nat.digitChar m).toNat=48->m=0):=by decide
theorem d4m{m:Nat}(h:m<10):dsN m=[(Nat.digitChar m).toNat]:=by
 unfold dsN;rw[Nat.toDigits_of_lt_base h]
 rfl
theorem c8k{m:Nat}(h:10<=m):dsN m=dsN (m / 10)++[(Nat.digitChar (m % 10)).toNat]:=by
 have hm:m % 10<10:=Nat.mod_lt m ↑5;have t:Nat.toDigits 10 (m / 10)++Nat.toDigits 10 (m % 10)=Nat.toDigits 10 (10*(m / 10)+m % 10):=Nat.toDigits_append_toDigits ↑5 (by lia) hm
 rw[Nat.div_add_mod] at t;unfold dsN;rw[<- t,List.map_append,Nat.toDigits_of_lt_base hm]
 rfl
theorem b5b(m:Nat):(∀c∈dsN m,48<=c/\c<=57)/\(m=0/\dsN m=[48] \/ ∃c r,dsN m=c::r/\c≠48):=by
 induction m using Nat.strongRecOn with
 | _ m ih=>
  by_cases h:m<10
  ·rw[d4m h]
   have:=b8x m h;refine⟨λc hc=>by rw[List.mem_singleton.mp hc];lia,?_⟩
   by_cases z:m=0
   ·subst z;exact .inl ⟨rfl,rfl⟩
   ·exact .inr ⟨_,_,rfl,λy=>z (this.2.2 y)⟩
  ·rw[c8k (by lia)]
   have h2:=b8x (m % 10) (Nat.mod_lt m ↑5);obtain⟨a,b⟩:=ih (m / 10) (by lia)
   refine⟨λc hc=>?_,.inr ?_⟩
   ·rcases List.mem_append.mp hc with hc|hc
    ·exact a c hc
    ·rw[List.mem_singleton.mp hc];lia
   ·rcases b with b|⟨c,r,e,n⟩
    ·lia
    ·rw[e];exact⟨c,_,rfl,n⟩
theorem c9p(m:Nat):dsN m≠[]:=by
 rcases (b5b m).2 with ⟨_,e⟩|⟨c,r,e,_⟩ <;> rw[e] <;> exact List.cons_ne_nil _ _
theorem a9u(m:Nat):(a2q (Int.ofNat m)).cps.toList=dsN m:=KIN.signs_num m
theorem a9t(m:Nat):(a2q (Int.negSucc m)).cps.toList=45::dsN (m+1):=by
 unfold a2q dsN;rw[signs_ofString];show(String.toList ("-"++Nat.repr (m+1))).map Char.toNat=_;rw[String.toList_append,List.map_append,Nat.toList_repr]
 rfl
theorem a0t{n:Int}(h:n.natAbs<10 ^ 60):a2h (a2q n):=by
 cases n with
 | ofNat m=>
  have l:=a7w 59 m h;refine⟨dsN m,c9p m,(b5b m).1,by unfold dsN;rw[List.length_map];lia,.inl ⟨a9u m,?_⟩⟩
  rcases (b5b m).2 with ⟨_,e⟩|e
  ·exact .inl e
  ·exact .inr e
 | negSucc m=>
  have l:=a7w 59 (m+1) h;refine⟨dsN (m+1),c9p _,(b5b _).1,by unfold dsN;rw[List.length_map];lia,.inr ⟨a9t m,?_⟩⟩
  rcases (b5b (m+1)).2 with ⟨e,_⟩|e
  ·lia
  ·exact e
theorem c6d{a b:Nat}(h:dsN a=dsN b):a=b:=by
 have x:=KIN.val_back a;have y:=KIN.val_back b;unfold dsN at h;rw[h] at x;rw[<- x,y]
theorem c7r{a b:Int}(h:a2q a=a2q b):a=b:=by
 have h:(a2q a).cps.toList=(a2q b).cps.toList:=by rw[h]
 have no:∀m r,dsN m≠45::r:=λm r e=>by
  have:=(b5b m).1 45 (by rw[e];exact List.mem_cons_self)
  lia
 cases a with
 | ofNat m=>
  cases b with
  | ofNat k=>rw[a9u,a9u] at h;rw[c6d h]
  | negSucc k=>rw[a9u,a9t] at h;exact absurd h (no _ _)
 | negSucc m=>
  cases b with
  | ofNat k=>rw[a9t,a9u] at h;exact absurd h.symm (no _ _)
  | negSucc k=>
   rw[a9t,a9t] at h;have:=c6d (List.cons.inj h).2;have:m=k:=by lia
   rw[this]
theorem b0m{n:Int}(h:n.natAbs<10 ^ 60):rd (a2q n)=n:=c7r (b5r (a0t h)).1
theorem b4w{w:Str}(h:a2h w):∀c∈w.cps.toList,c=45\/(48<=c/\c<=57):=by
 obtain⟨ds,_,hd,_,⟨e,_⟩|⟨e,_⟩⟩:=h
 ·rw[e];exact λc hc=>.inr (hd c hc)
 ·rw[e]
  intro c hc;cases hc with
  | head=>exact .inl rfl
  | tail _ hc=>exact .inr (hd c hc)
end L2
namespace S
open PySem L2
def top(i:Nat):Stmt:=PySem.Challenge.pw_slipring_k37_whole_stand_texts.main.body.getD i (.Pass ⟨0,0,0,0⟩)
theorem d1q:bootBuiltins "ValueError" = some (.type "ValueError"):=by decide +kernel
structure Cl where
 RingError:Addr
 BadSize:Addr
 NoTurn:Addr
 BadMark:Addr
 Crooked:Addr
 NoCell:Addr
 BadCells:Addr
 BadOrder:Addr
 NoHand:Addr
 NoWaiting:Addr
 NotSound:Addr
 BadStand:Addr
 TooMany:Addr
 NoName:Addr
 NoText:Addr
 NoRow:Addr
 t_HANDS:Addr
 t_COMING_UP:Addr
 t_WAITING:Addr
 t_FREEING:Addr
 t_GIVER_STAGES:Addr
 t_TAKER_STAGES:Addr
structure Txt(K:Frag)(mg:Str->Option Value)(cl:Cl):Prop where
 c_RingError:ExM mg "RingError" cl.RingError
 c_BadSize:ExT K mg "BadSize" cl.BadSize
 c_NoTurn:ExT K mg "NoTurn" cl.NoTurn
 c_BadMark:ExM mg "BadMark" cl.BadMark
 c_Crooked:ExM mg "Crooked" cl.Crooked
 c_NoCell:ExM mg "NoCell" cl.NoCell
 c_BadCells:ExT K mg "BadCells" cl.BadCells
 c_BadOrder:ExT K mg "BadOrder" cl.BadOrder
 c_NoHand:ExT K mg "NoHand" cl.NoHand
 c_NoWaiting:ExM mg "NoWaiting" cl.NoWaiting
 c_NotSound:ExM mg "NotSound" cl.NotSound
 c_BadStand:ExT K mg "BadStand" cl.BadStand
 c_TooMany:ExM mg "TooMany" cl.TooMany
 c_NoName:ExM mg "NoName" cl.NoName
 c_NoText:ExT K mg "NoText" cl.NoText
 c_NoRow:ExM mg "NoRow" cl.NoRow
 m_LEAST_SIZE:∃t,mg "LEAST_SIZE" = some (.int (2) t)
 m_MOST_SIZE:∃t,mg "MOST_SIZE" = some (.int (8) t)
 m_MOST_MARK:∃t,mg "MOST_MARK" = some (.int (3) t)
 m_CELLS_OF_A_PLACE:∃t,mg "CELLS_OF_A_PLACE" = some (.int (4) t)
 m_NEW_MARK:∃t,mg "NEW_MARK" = some (.int (2) t)
 m_NO_ORDER:∃t,mg "NO_ORDER" = some (.int (-1) t)
 m_NO_TURN:∃t,mg "NO_TURN" = some (.int (-1) t)
 m_STILL:∃t,mg "STILL" = some (.int (0) t)
 m_RUNG:∃t,mg "RUNG" = some (.int (1) t)
 m_MOST_FIGURES:∃t,mg "MOST_FIGURES" = some (.int (60) t)
 m_STAND_ROWS:∃t,mg "STAND_ROWS" = some (.int (8) t)
 m_FIGURES:∃t,mg "FIGURES" = some (.str "0123456789" t)
 m_NO_TURN_WORD:∃t,mg "NO_TURN_WORD" = some (.str "none" t)
 m_NO_ORDERS_WORD:∃t,mg "NO_ORDERS_WORD" = some (.str "-" t)
 r_HANDS:mg "HANDS" = some (.ref cl.t_HANDS)
 kt_HANDS:KTup K cl.t_HANDS [.str "giver",.str "taker"]
 r_COMING_UP:mg "COMING_UP" = some (.ref cl.t_COMING_UP)
 kt_COMING_UP:KTup K cl.t_COMING_UP [.str "rouse",.str "clear",.str "mute",.str "marks"]
 r_WAITING:mg "WAITING" = some (.ref cl.t_WAITING)
 kt_WAITING:KTup K cl.t_WAITING [.str "look",.str "wish",.str "again",.str "sleep",.str "hush",.str "unwish"]
 r_FREEING:mg "FREEING" = some (.ref cl.t_FREEING)
 kt_FREEING:KTup K cl.t_FREEING [.str "free",.str "card",.str "ring"]
 r_GIVER_STAGES:mg "GIVER_STAGES" = some (.ref cl.t_GIVER_STAGES)
 kt_GIVER_STAGES:KTup K cl.t_GIVER_STAGES [.str "rouse",.str "clear",.str "mute",.str "marks",.str "told",.str "lacks",.str "look",.str "wish",.str "again",.str "sleep",.str "hush",.str "unwish",.str "number",.str "left",.str "thing",.str "mark",.str "card",.str "ring"]
 r_TAKER_STAGES:mg "TAKER_STAGES" = some (.ref cl.t_TAKER_STAGES)
 kt_TAKER_STAGES:KTup K cl.t_TAKER_STAGES [.str "rouse",.str "clear",.str "mute",.str "marks",.str "look",.str "wish",.str "again",.str "sleep",.str "hush",.str "unwish",.str "number",.str "left",.str "thing",.str "free",.str "card",.str "ring"]
 z_len:mg "len" = none
 z_range:mg "range" = none
 z_max:mg "max" = none
 z_min:mg "min" = none
 z_isinstance:mg "isinstance" = none
 z_int:mg "int" = none
 z_bool:mg "bool" = none
 z_list:mg "list" = none
 z_all:mg "all" = none
 z_tuple:mg "tuple" = none
 z_str:mg "str" = none
 z_ValueError:mg "ValueError" = none
local macro_rules | `(tactic| walk_at "at")=>`(tactic| first|assumption|exact d8|(refine (j4 ?_).trans ?_;(walk_at "ne");(walk_at "at"))|(refine Same.at ?_ ?_;assumption;(walk_at "at")))
local macro_rules | `(tactic| walk_at "ne")=>`(tactic| first|assumption|exact Ne.symm (by assumption)|((refine' g9 ?h ?n);(case n=>assumption);(case h=>walk_at "at"))|((refine Ne.symm ?_);(refine' g9 ?h ?n);(case n=>assumption);(case h=>walk_at "at")))
local macro_rules | `(tactic| walk_at "cond")=>`(tactic| first|trivial|exact Or.inl ⟨by decide,by decide⟩|exact Or.inr ⟨by decide,by decide⟩|exact Or.inl ⟨by lia,by lia⟩|exact Or.inr ⟨by lia,by lia⟩|(show(0:Int)<_;lia)|(show(0:Int)<_;decide))
local macro_rules | `(tactic| walk_at "go1")=>`(tactic| first
 | ((with_reducible refine' d1d ?h ?_);(case h=>exact rfl))
 | with_reducible refine g_c ?_|with_reducible refine d8f ?_|with_reducible refine d8b ?_|with_reducible refine d8m ?_|with_reducible refine g_U ?_
 | ((with_reducible refine' g_I ?h ?_);(case h=>walk_at "cond"))
 | ((with_reducible refine' d8j ?h ?_);(case h=>exact rfl))|((with_reducible refine' d8g ?h ?_);(case h=>exact rfl))
 | with_reducible refine d7i ?_|with_reducible refine c5u ?_|with_reducible refine c9i ?_
 | (with_reducible refine d5w ?_)|(with_reducible refine d6d ?_)|with_reducible refine d8i ?_|with_reducible refine d6h ?_
 | with_reducible refine g_fld ?_|with_reducible refine g_mt ?_|with_reducible refine g_mtJ ?_|with_reducible refine g_mk ?_|with_reducible refine g_mkJ ?_
 | with_reducible refine d3u ?_|with_reducible refine d8c ?_|with_reducible refine d6i ?_|with_reducible refine d8e ?_|with_reducible refine d6c ?_|with_reducible refine d4i ?_|with_reducible refine d6b ?_|with_reducible refine g_notV ?_|with_reducible refine d6f ?_
 | with_reducible refine d8l ?_|with_reducible refine d5p ?_|with_reducible refine d5s ?_|with_reducible refine d5q ?_|with_reducible refine d5r ?_
 | ((with_reducible refine d3w ?_);intro _ _)|with_reducible refine d4a ?_|with_reducible refine d4f ?_|with_reducible refine d6a ?_|with_reducible refine g_retN ?_|with_reducible refine d8h ?_|with_reducible refine d4h ?_|with_reducible refine a3x ?_|with_reducible refine d5x ?_|with_reducible refine g_sfld ?_|with_reducible refine d1h ?_|with_reducible refine d1g ?_
 | ((with_reducible refine' g_fld1 ?h ?c ?n ?l ?_);(case h=>walk_at "at");(case c=>walk_at "cls");(case n=>walk_at "nat");(case l=>first|exact rfl|assumption))
 | ((with_reducible refine' g_sfld1 ?h ?c ?n ?l ?_);(case h=>walk_at "at");(case c=>walk_at "cls");(case n=>walk_at "nat");(case l=>exact Nat.le_of_ble_eq_true rfl))
 | with_reducible refine g_aug ?_|with_reducible refine g_rAdd ?_
 | ((with_reducible refine' g_aug1 ?h ?c ?n ?l ?_);(case h=>walk_at "at");(case c=>walk_at "cls");(case n=>walk_at "nat");(case l=>first|exact rfl|assumption))
 | ((with_reducible refine' g_aug2 ?h ?l ?_);(case h=>walk_at "at");(case l=>exact Nat.le_of_ble_eq_true rfl))
 | ((with_reducible refine' g_mt1 ?h ?l ?_);(case h=>walk_at "at");(case l=>exact rfl))
 | ((with_reducible refine' a4d ?h ?e ?_);(case h=>walk_at "at");(case e=>exact rfl))
 | ((with_reducible refine' b6o ?h ?e ?_);(case h=>walk_at "at");(case e=>exact rfl))
 | ((with_reducible refine' d6e ?h ?_);(case h=>walk_at "at"))|((with_reducible refine' g_list ?h ?_);(case h=>walk_at "at"))|((with_reducible refine' d4d ?h ?_);(case h=>walk_at "at"))|((with_reducible refine' c5v ?h ?_);(case h=>walk_at "at"))|((with_reducible refine' d3t ?h ?_);(case h=>walk_at "at"))|with_reducible refine d1i ?_|with_reducible refine c8e ?_|with_reducible refine d3s ?_|with_reducible refine g_seqi ?_
 | with_reducible refine d6g ?_|with_reducible refine d3y ?_|with_reducible refine d3x ?_|with_reducible refine d4b ?_|with_reducible refine d4g ?_
 | ((with_reducible refine' c9g ?h1 ?h2 ?_);(case h1=>lia);(case h2=>lia))|((with_reducible refine' c9g ?h1 ?h2 ?_);(case h1=>decide);(case h2=>decide))
 | ((with_reducible refine' d4c ?h ?_);(case h=>exact SqL.of (by walk_at "at")))
 | with_reducible refine g_bm0 ?_|((with_reducible refine' g_clear ?h ?_);(case h=>walk_at "at"))
 | with_reducible refine g_rng3 ?_|with_reducible refine c8f ?_|with_reducible refine g_slS ?_|with_reducible refine d5y ?_|with_reducible refine d3r ?_|with_reducible refine c8b ?_|with_reducible refine d3v ?_|with_reducible refine d8d ?_|with_reducible refine d3z ?_|with_reducible refine c8d ?_
 | with_reducible refine d8k ?_|((with_reducible refine' d5v ?h ?_);(case h=>walk_at "at"))|((with_reducible refine' c8g ?h ?l ?_);(case h=>walk_at "at");(case l=>first|exact Nat.le_of_ble_eq_true rfl|lia))
 | ((with_reducible refine' d1e ?h ?_);(case h=>assumption))|((with_reducible refine d4e ?_);intro _ _))
local macro_rules | `(tactic| walk_at "go")=>`(tactic| repeat (walk_at "go1"))
local macro_rules | `(tactic| fail "")=>`(tactic| walk_at "go")
set_option hygiene false in
local macro_rules | `(tactic| walk_at "cls")=>`(tactic| first|assumption)
set_option hygiene false in
local macro_rules | `(tactic| walk_at "nat")=>`(tactic| first|assumption)
section
variable{P:Program}{w:World}{K:Frag}{mg:Str->Option Value}{base:Heap}{cl:Cl}
theorem p9:1<=sizeLine:=by decide
def a5k(cl:Cl):Sp:=λvs H Q E=>∃n,vs=[.int n]/\(if 2<=n/\n<=8 then Q .non H else E (.ref cl.BadSize) none H)
def a9z(cl:Cl)(n t:Int)(H:Hp)(E:XK)(k:Prop):Prop:=if 2<=n/\n<=8 then (if 0<=t/\t<2*n then k else E (.ref cl.NoTurn) none H) else E (.ref cl.BadSize) none H
theorem b4z{cl:Cl}{n t:Int}{H:Hp}{E:XK}{k k':Prop}(h:a9z cl n t H E k)(i:2<=n->n<=8->0<=t->t<2*n->k->k'):a9z cl n t H E k':=by
 unfold a9z at h ⊢;by_cases a:2<=n/\n<=8
 ·rw[if_pos a] at h ⊢
  by_cases b:0<=t/\t<2*n
  ·rw[if_pos b] at h ⊢;exact i a.1 a.2 b.1 b.2 h
  ·rw[if_neg b] at h ⊢;exact h
 ·rw[if_neg a] at h ⊢;exact h
def a9j(cl:Cl):Sp:=λvs H Q E=>∃n t,vs=[.int n,.int t]/\a9z cl n t H E (Q .non H)
def b2p(cl:Cl):Sp:=λvs H Q E=>∃n a b,vs=[.int n,.int a,.int b]/\a9z cl n a H E (a9z cl n b H E (Q (.int ((b-a) % (2*n))) H))
abbrev a7d:Stmt:=top 20
theorem b5l:j3 ["size"] ["size"] (g7 a7d):=↑1
theorem b6j(D:DefT K mg "check_size" a7d ["size"])(T:Txt K mg cl):FnT P w K mg base "check_size" 1 ["size"] (a5k cl):=by
 refine D.fn b5l (λvs H Q E h=>?_) ↑2
 ·obtain⟨n,rfl,_⟩:=h
  rfl
 ·obtain⟨n,rfl,h⟩:=h
  refine⟨_,(f8 (v9 (PW.pt (a2f (g6 a2a (pv 0) (a0w T.m_LEAST_SIZE rfl) (i3 _)) (a1o (g6 b1q (pv 0) (a0w T.m_MOST_SIZE rfl) (i3 _)))))
    (f8 (a0o T.c_BadSize rfl rfl a3r (d4 f9 d5)))
    i9)),?_⟩
  refine⟨_,rfl,_,_,rfl,rfl,_,rfl,c3e (λc=>?_) (λc=>⟨_,rfl,_,_,rfl,rfl,_,rfl,c3e (λd=>?_) (λd=>?_)⟩)⟩
  ·rw[if_neg (by have:=of_decide_eq_true c;lia)] at h
   exact c3e (λ_=>⟨p9,h⟩) (λz=>absurd rfl z)
  ·rw[if_neg (by have:=of_decide_eq_true d;lia)] at h
   exact⟨p9,h⟩
  ·simp only[decide_eq_true_eq] at c d
   rw[if_pos (by lia)] at h
   exact h
abbrev a7c:Stmt:=top 21
theorem b5k:j3 ["size","turn"] ["size","turn"] (g7 a7c):=↑1
theorem b6i(D:DefT K mg "check_turn" a7c ["size","turn"])(T:Txt K mg cl)(G_check_size:FnT P w K mg base "check_size" 1 ["size"] (a5k cl)):FnT P w K mg base "check_turn" 2 ["size","turn"] (a9j cl):=by
 refine D.fn b5k (λvs H Q E h=>?_) ↑2
 ·obtain⟨n,t,rfl,_⟩:=h
  rfl
 ·obtain⟨n,t,rfl,h⟩:=h
  refine⟨_,(d6 (a1q (j5 G_check_size hr ↑5 rfl k7 (d4 (pv 0) d5)))
   (f8 (v9 (PW.pt (a2f (g6 a2a (pv 1) d7 (i3 _)) (a1o (g6 c7p (pv 1) (j8 a0q d7 (pv 0)) (i3 _)))))
    (f8 (a0o T.c_NoTurn rfl rfl a3r (d4 f9 d5)))
    i9))),?_⟩
  unfold a9z at h;refine⟨_,rfl,n,rfl,c3e (λa=>?_) (λa=>?_)⟩
  ·rw[if_pos a] at h
   simp[d5d,tOr,d0b,tOp,rI0,rI,d4r,tC,L2.start,c0v,c7b,d1w,d0c,CMul];refine c3e (λc=>?_) (λc=>c3e (λd=>?_) (λd=>?_))
   ·rw[if_neg (by lia)] at h;exact⟨p9,h⟩
   ·rw[if_neg (by lia)] at h;exact⟨p9,h⟩
   ·rw[if_pos (by lia)] at h;exact h
  ·rw[if_neg a] at h
   exact h
abbrev b0l:Stmt:=top 22
theorem b9p:j3 ["size","one","other"] ["size","one","other"] (g7 b0l):=↑1
theorem c0c(D:DefT K mg "distance" b0l ["size","one","other"])(T:Txt K mg cl)(G_check_turn:FnT P w K mg base "check_turn" 2 ["size","turn"] (a9j cl)):FnT P w K mg base "distance" 3 ["size","one","other"] (b2p cl):=by
 refine D.fn b9p (λvs H Q E h=>?_) ↑2
 ·obtain⟨n,a,b,rfl,_⟩:=h
  rfl
 ·obtain⟨n,a,b,rfl,h⟩:=h
  refine⟨_,(d6 (a1q (j5 G_check_turn hr ↑5 rfl k7 (d4 (pv 0) (d4 (pv 1) d5))))
   (d6 (a1q (j5 G_check_turn hr ↑5 rfl k7 (d4 (pv 0) (d4 (pv 2) d5))))
   (f8 (i5 (j8 a5c (j8 a4i (pv 2) (pv 1)) (j8 a0q d7 (pv 0))))))),?_⟩
  refine⟨_,rfl,_,rfl,n,a,rfl,b4z h λn2 n8 t0 t1 q=>?_⟩;refine⟨_,rfl,_,rfl,n,b,rfl,b4z q λn2 n8 t0 t1 q=>?_⟩;exact⟨_,rfl,_,rfl,_,_,rfl,rfl,_,rfl,_,_,rfl,rfl,.inl ⟨by decide,by decide⟩,_,_,rfl,rfl,(by lia),q⟩
def Well(H:Hp)(w:Addr):Prop:=∃a b p,H w=some (.lst [.int a,.int b,.int p])/\0<p/\p<2147483648
def But(w:Addr)(H H':Hp):Prop:=∀b o,H b=some o->b≠w->H' b=some o
theorem But.refl(w:Addr)(H:Hp):But w H H:=λ_ _ e _=>e
theorem But.trans{w:Addr}{H H1 H2:Hp}(a:But w H H1)(b:But w H1 H2):But w H H2:=λc o e n=>b c o (a c o e n) n
theorem But.of{w:Addr}{H H':Hp}(s:Same H H'):But w H H':=λb o e _=>s b o e
theorem But.upd{w:Addr}{H:Hp}{o:HO}:But w H (upd H w o):=λb u e n=>by rw[j4 n];exact e
theorem d9{H:Hp}{p:Addr}{o:HO}(n:H p=none):Same H (upd H p o):=λb u e=>by rw[j4 (g9 e n)];exact e
theorem Well.same{H H':Hp}{w:Addr}(h:Well H w)(s:Same H H'):Well H' w:=let ⟨a,b,p,e,q⟩:=h;⟨a,b,p,s _ _ e,q⟩
theorem Well.at{H:Hp}{w:Addr}(h:Well H w):∃o,H w=some o:=let ⟨_,_,_,e,_⟩:=h;⟨_,e⟩
def a1g:Sp:=λvs H Q _=>∃w m,vs=[.ref w,.int m]/\Well H w/\0<m/\m<2 ^ 200/\∀r H',0<=r->r<m->Well H' w->But w H H'->Q (.int r) H'
theorem d7x(n:Int)(h0:0<n)(h:n<2 ^ 200):n.natAbs.log2<9000:=by
 have h1:n.natAbs<2 ^ 200:=by lia
 have h2:=(Nat.log2_lt (n:=n.natAbs) (k:=200) (by lia)).mpr h1
 lia
abbrev b0j:Stmt:=top 85
theorem b2u:j3 ["well","many","got"] ["well","many"] (g7 b0j):=↑1
theorem c0a(D:DefT K mg "_law_take" b0j ["well","many"])(T:Txt K mg cl):FnT P w K mg base "_law_take" 1 ["well","many"] a1g:=by
 refine D.fn b2u (λvs H Q E h=>?_) ↑2
 ·obtain⟨w,m,rfl,_⟩:=h
  rfl
 ·obtain⟨w,m,rfl,⟨a,b,p,hw,p0,p1⟩,m0,m1,k⟩:=h
  refine⟨_,(d6 (v9 (g6 b1q (o0 (i8 (K:=K)) (pv 0) d7 (λ_ _=>rfl)) d7 (i3 _))
     (
     d6 (i7 (i:=2) b2u.nd rfl (by first|exact Or.inl rfl|exact Or.inr rfl) (j8 a5c (o0 (i8 (K:=K)) (pv 0) d7 (λ_ _=>rfl)) (pv 1)))
     (d6 (a3e (j8 a7t (o0 (i8 (K:=K)) (pv 0) d7 (λ_ _=>rfl)) (pv 1)) (b7r (pv 0) d7 a9l))
     (f8 (i5 (pv 2)))))
     i9)
   (d6 (a3e (j8 a0y (j8 a5c (j8 a0q (o0 (i8 (K:=K)) (pv 0) d7 (λ_ _=>rfl)) d7) (o0 (i8 (K:=K)) (pv 0) d7 (λ_ _=>rfl))) d7) (b7r (pv 0) d7 a9l))
   (f8 (i5 (j8 a5c (j8 a7t (j8 a5c (j8 a0q (o0 (i8 (K:=K)) (pv 0) d7 (λ_ _=>rfl)) (o0 (i8 (K:=K)) (pv 0) d7 (λ_ _=>rfl))) d7) d7) (pv 1)))))),?_⟩
  refine⟨_,rfl,w,_,0,_,rfl,rfl,SqL.of hw,rfl,_,_,rfl,rfl,_,rfl,c3e (λc=>?_) (λc=>?_)⟩
  ·refine⟨_,rfl,w,_,0,_,rfl,rfl,SqL.of hw,rfl,_,rfl,_,_,rfl,rfl,m0,?_⟩
   refine⟨_,rfl,w,_,0,_,rfl,rfl,SqL.of hw,rfl,_,rfl,_,_,rfl,rfl,⟨m0,d7x m m0 m1⟩,_,rfl,w,_,0,0,rfl,rfl,hw,rfl,?_⟩;exact⟨_,rfl,k _ _ (Int.emod_nonneg _ (by lia)) (Int.emod_lt_of_pos _ m0) ⟨_,_,_,d8,p0,p1⟩ But.upd⟩
  ·refine⟨_,rfl,w,_,1,_,rfl,rfl,SqL.of hw,rfl,_,_,rfl,rfl,.inr ⟨by decide,by decide⟩,_,rfl,w,_,2,_,rfl,rfl,SqL.of hw,rfl,_,_,rfl,rfl,p0,_,_,rfl,rfl,_,rfl,w,_,1,1,rfl,rfl,hw,rfl,?_⟩
   have h1:=Int.emod_nonneg (b*48271) (show p≠0 by lia)
   have h2:=Int.emod_lt_of_pos (b*48271) p0;refine⟨_,rfl,w,_,1,_,rfl,rfl,SqL.of d8,rfl,_,rfl,w,_,1,_,rfl,rfl,SqL.of d8,rfl,_,_,rfl,rfl,.inl ⟨by lia,by lia⟩,_,_,rfl,rfl,(by show(0:Int)<2147483423;decide),_,_,rfl,rfl,⟨by decide,by decide⟩,_,rfl,_,_,rfl,rfl,m0,?_⟩
   exact k _ _ (Int.emod_nonneg _ (by lia)) (Int.emod_lt_of_pos _ m0) ⟨_,_,_,d8,p0,p1⟩ But.upd
theorem c0n{ns:List Int}{n:Nat}(h:n<ns.length):atI (ns.map V.int) (n:Int)=some (.int ns[n]):=by
 have hl:(ns.map V.int).length=ns.length:=List.length_map _;unfold atI ixN;rw[if_pos (by lia),if_pos (by lia)]
 show(ns.map V.int)[(n:Int).toNat]?=_;rw[show(n:Int).toNat=n by lia,List.getElem?_map,List.getElem?_eq_getElem h]
 rfl
abbrev d0j:List V:=[.int 2147483647,.int 2147483629,.int 2147483587,.int 2147483579,.int 2147483563,.int 2147483549,.int 2147483543,.int 2147483497]
theorem c4k(j:Int)(h0:0<=j)(h1:j<8):∃v,atI d0j j=some (.int v)/\0<v/\v<2147483648:=by
 have:j=0\/j=1\/j=2\/j=3\/j=4\/j=5\/j=6\/j=7:=by lia
 rcases this with rfl|rfl|rfl|rfl|rfl|rfl|rfl|rfl <;> exact⟨_,rfl,by decide,by decide⟩
def b2m(K:Frag):Sp:=λvs H Q _=>∃(c:Addr)(ns:List Int)(k:Nat),vs=[.ref c,.int (k:Int)]/\SqL K H c (ns.map V.int)/\k<1000/\∀w H',H w=none->Same H H'->Well H' w->Q (.ref w) H'
abbrev b0h:Stmt:=top 84
theorem a2j:j3 ["script","k","cell","primes","seed"] ["script","k"] (g7 b0h):=↑1
theorem b9y(D:DefT K mg "_law_well" b0h ["script","k"])(T:Txt K mg cl):FnT P w K mg base "_law_well" 1 ["script","k"] (b2m K):=by
 refine D.fn a2j (λvs H Q E h=>?_) ↑2
 ·obtain⟨c,ns,k,rfl,_⟩:=h
  rfl
 ·obtain⟨c,ns,n,rfl,hc,hn,k⟩:=h
  refine⟨_,(d6 (i7 (i:=2) a2j.nd rfl (by first|exact Or.inl rfl|exact Or.inr rfl) d7)
   (d6 (v9 (g6 a2a (pv 1) (i6 (j2 (K:=K)) (by rfl) T.z_len PySem.boot_len (d4 (pv 0) d5)) (i3 _))
     (f8 (i7 (i:=2) a2j.nd rfl (by first|exact Or.inl rfl|exact Or.inr rfl) (o0 (i8 (K:=K)) (pv 0) (pv 1) (λ_ _=>rfl))))
     i9)
   (d6 (i7 (i:=3) a2j.nd rfl (by first|exact Or.inl rfl|exact Or.inr rfl) (m5 (d4 d7 (d4 d7 (d4 d7 (d4 d7 (d4 d7 (d4 d7 (d4 d7 (d4 d7 d5))))))))))
   (d6 (i7 (i:=4) a2j.nd rfl (by first|exact Or.inl rfl|exact Or.inr rfl) (j8 a5c (j8 a0q (j8 a0y (j8 a5c (pv 2) d7) d7) (j8 a0y d7 (j8 a0q d7 (pv 1)))) d7))
   (d6 (i7 (i:=4) a2j.nd rfl (by first|exact Or.inl rfl|exact Or.inr rfl) (j8 a0y (j8 a0y (j8 a5c (j8 a0q (pv 4) (pv 4)) d7) (pv 1)) d7))
   (d6 (v9 (g6 c7p (pv 2) (j8 c1j d7 d7) (i3 _))
     (f8 (i5 (m5 (d4 (pv 2) (d4 (pv 4) (d4 (o0 (i8 (K:=K)) (pv 3) (j8 a5c (pv 1) d7) (λ_ _=>rfl)) d5))))))
     i9)
   (f8 (i5 (m5 (d4 d7 (d4 (pv 4) (d4 (o0 (i8 (K:=K)) (pv 3) (j8 a5c (pv 1) d7) (λ_ _=>rfl)) d5)))))))))))),?_⟩
  refine⟨_,rfl,_,rfl,c,_,rfl,.inl hc,_,_,rfl,rfl,_,rfl,c3e (λa=>⟨_,rfl,_,rfl,c,_,(n:Int),_,rfl,rfl,hc,c0n (by have:=of_decide_eq_true a;rw[List.length_map] at this;lia),?_⟩) (λa=>?_)⟩
  all_goals
   refine⟨by show 8<=sizeLine;decide,λp hp=>?_⟩
   refine⟨_,rfl,_,_,rfl,rfl,(by show(0:Int)<2147483489;decide),_,_,rfl,rfl,_,rfl,_,_,rfl,rfl,.inl ⟨by decide,by decide⟩,_,_,rfl,rfl,_,_,rfl,rfl,.inl ⟨by lia,by lia⟩,_,_,rfl,rfl,(by show(0:Int)<2147483489;decide),?_⟩
   refine⟨_,rfl,_,rfl,_,_,rfl,rfl,.inl ⟨by lia,by lia⟩,_,_,rfl,rfl,(by show(0:Int)<2147483477;decide),_,rfl,_,_,rfl,rfl,_,_,rfl,rfl,?_⟩
   refine⟨_,rfl,_,_,rfl,rfl,⟨by decide,by decide,by decide⟩,_,_,rfl,rfl,_,rfl,c3e (λb=>?_) (λb=>?_)⟩
   all_goals
    obtain⟨v,hv,v0,v1⟩:=c4k ((n:Int) % 8) (by lia) (by lia)
    first
     | refine⟨_,rfl,_,rfl,_,rfl,_,rfl,_,_,rfl,rfl,(by show(0:Int)<8;decide),p,_,_,_,rfl,rfl,SqL.of d8,hv,(by show 3<=sizeLine;decide),λq hq=>?_⟩
     | refine⟨_,rfl,_,rfl,_,rfl,_,_,rfl,rfl,(by show(0:Int)<8;decide),p,_,_,_,rfl,rfl,SqL.of d8,hv,(by show 3<=sizeLine;decide),λq hq=>?_⟩
    exact k q _ ((d9 hp).free hq) ((d9 hp).trans (d9 hq)) ⟨_,_,_,d8,v0,v1⟩
theorem d2y{ns:List Int}{Pr:Int->Prop}(h:∀v∈ns,Pr v){r:Int}(h0:0<=r)(h1:r<ns.length):∃v,atI (ns.map V.int) r=some (.int v)/\Pr v:=by
 have hr:r.toNat<ns.length:=by lia
 refine⟨ns[r.toNat],?_,h _ (List.getElem_mem hr)⟩;have e:=c0n hr
 rwa [show((r.toNat:Nat):Int)=r by lia] at e
theorem Well.ne{H:Hp}{w p:Addr}(h:Well H w)(n:H p=none):p≠w:=by
 obtain⟨o,e⟩:=h.at;exact(g9 e n).symm
theorem But.nw{w:Addr}{H0 H:Hp}{p:Addr}{o:HO}(s:But w H0 H)(n:H p=none):But w H0 (L2.upd H p o):=s.trans (But.of (d9 n))
theorem But.free{w p:Addr}{H0 H:Hp}(s:But w H0 H)(hw:Well H w)(n:H p=none):H0 p=none:=by
 cases e:H0 p with
 | none=>rfl
 | some o=>
  have:=s p o e (hw.ne n);rw[n] at this;cases this
theorem _root_.L2.Same.set{H H':Hp}{p:Addr}{o:HO}(s:Same H H')(n:H p=none):Same H (upd H' p o):=λb u e=>by rw[j4 (g9 e n)];exact s b u e
theorem c6m{row:List Int}{c:Int}(h0:0<=c)(h1:c<row.length):atI (row.map V.int) c=some (.int (row.getD c.toNat 0)):=by
 have hn:c.toNat<row.length:=by lia
 have e:=c0n hn;rw[show((c.toNat:Nat):Int)=c by lia] at e
 rw[e,List.getD_eq_getElem?_getD,List.getElem?_eq_getElem hn]
 rfl
theorem c5k{l:Nat}{c:Int}(h0:0<=c)(h1:c<l):ixN l c=some c.toNat:=by
 unfold ixN;rw[if_pos h0,if_pos h1]
def c1m(n:Nat):List Int:=(List.replicate n [2,-1,0,0]).flatten++[-1,-1,0,0]
theorem c3b(n:Nat):(c1m n).length=4*n+4:=by
 unfold c1m;rw[List.length_append,c0f];show n*4+4=_;lia
theorem d0h(n:Nat)(ns:List Int):(List.replicate n (ns.map V.int)).flatten=((List.replicate n ns).flatten).map V.int:=by
 induction n with
 | zero=>rfl
 | succ n ih=>rw[List.replicate_succ,List.replicate_succ,List.flatten_cons,List.flatten_cons,List.map_append,ih]
def a9k(cl:Cl):Sp:=λvs H Q E=>∃h:Str,vs=[.str h]/\(if h="giver"\/h="taker" then Q .non H else E (.ref cl.NoHand) none H)
def b7b(d:Int):Sp:=λvs H Q _=>∃p,vs=[.int p]/\Q (.int (4*p+d)) H
def c0m(cl:Cl)(n:Int)(h:Str)(H:Hp)(E:XK)(k:Prop):Prop:=if 2<=n/\n<=8 then (if h="giver"\/h="taker" then k else E (.ref cl.NoHand) none H) else E (.ref cl.BadSize) none H
def c5p(h:Str):Int:=if h="giver" then 0 else 1
def a6q(cl:Cl):Sp:=λvs H Q E=>∃(n:Int)(h:Str),vs=[.int n,.str h]/\c0m cl n h H E (Q (.int (4*n+c5p h)) H)
def b1e(cl:Cl):Sp:=λvs H Q E=>∃(n:Int)(h:Str),vs=[.int n,.str h]/\c0m cl n h H E (Q (.int (4*n+c5p h+2)) H)
def b0y:Sp:=λvs H Q _=>∃n:Nat,vs=[.int n]/\n<=8/\∀l H',H l=none->Same H H'->H' l=some (.lst ((c1m n).map V.int))->Q (.ref l) H'
theorem b0p(x y:Str):eqV (.str x) (.str y)=decide (x=y):=by
 first
  | rfl
  | (unfold eqV;simp)
abbrev a7e:Stmt:=top 32
theorem b5m:j3 ["hand"] ["hand"] (g7 a7e):=↑1
theorem b6k(D:DefT K mg "check_hand" a7e ["hand"])(T:Txt K mg cl):FnT P w K mg base "check_hand" 1 ["hand"] (a9k cl):=by
 refine D.fn b5m (λvs H Q E h=>?_) ↑2
 ·obtain⟨n,rfl,_⟩:=h
  rfl
 ·obtain⟨n,rfl,h⟩:=h
  refine⟨_,(f8 (v9 (g6 (a9p (K:=K)) (pv 0) (a3t T.r_HANDS rfl) (by with_unfolding_all rfl))
    (f8 (a0o T.c_NoHand rfl rfl a3r (d4 f9 d5)))
    i9)),?_⟩
  fail "";refine⟨_,_,rfl,.inr T.kt_HANDS.sq,rfl,rfl,?_⟩;fail "";have e:inV (.str n) [.str "giver",.str "taker"]=decide (n="giver"\/n="taker"):=by
   unfold inV;simp only[List.any_cons,List.any_nil,b0p,Bool.or_false];rw[Bool.eq_iff_iff];simp only[Bool.or_eq_true,decide_eq_true_eq];exact or_congr eq_comm eq_comm
  simp only[if_true,e];refine a0u (λc=>?_) (λc=>?_)
  ·rw[if_neg c] at h
   fail "";exact⟨p9,h⟩
  ·rw[if_pos c] at h
   fail "";exact h
abbrev a8q:Stmt:=top 33
theorem b7k:j3 ["place"] ["place"] (g7 a8q):=↑1
theorem b8g(D:DefT K mg "mark_cell" a8q ["place"])(T:Txt K mg cl):FnT P w K mg base "mark_cell" 1 ["place"] (b7b 0):=by
 refine D.fn b7k (λvs H Q E h=>?_) ↑2
 ·obtain⟨n,rfl,_⟩:=h
  rfl
 ·obtain⟨n,rfl,h⟩:=h
  refine⟨_,(f8 (i5 (j8 a0q (a0w T.m_CELLS_OF_A_PLACE rfl) (pv 0)))),?_⟩;fail "";rw[Int.add_zero] at h;exact h
abbrev a8w:Stmt:=top 34
theorem b7l:j3 ["size","hand"] ["size","hand"] (g7 a8w):=↑1
theorem b8m(D:DefT K mg "card_cell" a8w ["size","hand"])(T:Txt K mg cl)(G_check_size:FnT P w K mg base "check_size" 1 ["size"] (a5k cl))(G_check_hand:FnT P w K mg base "check_hand" 1 ["hand"] (a9k cl)):FnT P w K mg base "card_cell" 2 ["size","hand"] (a6q cl):=by
 refine D.fn b7l (λvs H Q E h=>?_) ↑2
 ·obtain⟨n,x,rfl,_⟩:=h
  rfl
 ·obtain⟨n,x,rfl,h⟩:=h
  refine⟨_,(d6 (a1q (j5 G_check_size hr ↑5 rfl k7 (d4 (pv 0) d5)))
   (d6 (a1q (j5 G_check_hand hr ↑5 rfl k7 (d4 (pv 1) d5)))
   (f8 (i5 (j8 a0y (j8 a0q (a0w T.m_CELLS_OF_A_PLACE rfl) (pv 0)) (c2y (K:=K) (a3t T.r_HANDS rfl) (d4 (pv 1) d5))))))),?_⟩
  unfold c0m at h;fail "";refine⟨n,rfl,c3e (λa=>?_) (λa=>?_)⟩
  ·rw[if_pos a] at h
   fail "";refine⟨x,rfl,c3e (λb=>?_) (λb=>?_)⟩
   ·rw[if_pos b] at h
    fail "";refine⟨T.kt_HANDS.ty,?_⟩;fail "";refine⟨_,_,_,_,rfl,rfl,T.kt_HANDS,rfl,rfl,rfl,?_,?_⟩
    ·rw[b0p,b0p,decide_eq_true_eq,decide_eq_true_eq]
     exact b.imp Eq.symm Eq.symm
    ·fail ""
     have e:(if eqV (.str "giver") (.str x)=true then (0:Int) else 1)=c5p x:=by
      unfold c5p;rw[b0p];simp only[decide_eq_true_eq];by_cases c:x="giver"
      ·rw[if_pos c,if_pos c.symm]
      ·rw[if_neg c,if_neg λz=>c z.symm]
     rw[e];exact h
   ·rw[if_neg b] at h
    exact h
  ·rw[if_neg a] at h
   exact h
abbrev a8x:Stmt:=top 35
theorem b7m:j3 ["size","hand"] ["size","hand"] (g7 a8x):=↑1
theorem b8n(D:DefT K mg "bell_cell" a8x ["size","hand"])(T:Txt K mg cl)(G_card_cell:FnT P w K mg base "card_cell" 2 ["size","hand"] (a6q cl)):FnT P w K mg base "bell_cell" 3 ["size","hand"] (b1e cl):=by
 refine D.fn b7m (λvs H Q E h=>?_) ↑2
 ·obtain⟨n,x,rfl,_⟩:=h
  rfl
 ·obtain⟨n,x,rfl,h⟩:=h
  refine⟨_,(f8 (i5 (j8 a0y (j5 G_card_cell hr ↑5 rfl k7 (d4 (pv 0) (d4 (pv 1) d5))) (i6 (j2 (K:=K)) (by rfl) T.z_len PySem.boot_len (d4 (a3t T.r_HANDS rfl) d5))))),?_⟩
  unfold c0m at h;fail "";refine⟨n,x,rfl,?_⟩;unfold c0m;refine c3e (λa=>c3e (λb=>?_) (λb=>?_)) (λa=>?_)
  ·rw[if_pos a,if_pos b] at h
   fail "";refine⟨_,_,rfl,.inr T.kt_HANDS.sq,?_⟩;fail "";exact h
  ·rw[if_pos a,if_neg b] at h
   exact h
  ·rw[if_neg a] at h
   exact h
abbrev a8o:Stmt:=top 36
theorem b7i:j3 ["size"] ["size"] (g7 a8o):=↑1
theorem b8e(D:DefT K mg "new_cells" a8o ["size"])(T:Txt K mg cl):FnT P w K mg base "new_cells" 1 ["size"] b0y:=by
 refine D.fn b7i (λvs H Q E h=>?_) ↑2
 ·obtain⟨n,rfl,_⟩:=h
  rfl
 ·obtain⟨n,rfl,h8,k⟩:=h
  refine⟨_,(f8 (i5 (j8 a2b (j8 c4z (m5 (d4 (a0w T.m_NEW_MARK rfl) (d4 (a0w T.m_NO_ORDER rfl) (d4 d7 (d4 d7 d5))))) (pv 0)) (m5 (d4 (a0w T.m_NO_TURN rfl) (d4 (a0w T.m_NO_TURN rfl) (d4 (a0w T.m_STILL rfl) (d4 (a0w T.m_STILL rfl) d5)))))))),?_⟩;have h20:2000<=sizeLine:=by decide
  fail "";refine⟨by show 4<=sizeLine;lia,λp1 h1=>?_⟩
  fail "";refine⟨p1,n,_,rfl,rfl,d8,by lia,by lia,by show 4*(n:Int).toNat<=sizeLine;lia,λp2 h2=>?_⟩
  fail "";refine⟨by show 4<=sizeLine;lia,λp3 h3=>?_⟩
  refine a7x (d9 h3 _ _ d8) d8 ?_ (λp4 h4=>?_)
  ·rw[c0f]
   show(n:Int).toNat*4+4<=sizeLine;lia
  refine k p4 _ ((((d9 h1).trans (d9 h2)).trans (d9 h3)).free h4) ((((d9 h1).trans (d9 h2)).trans (d9 h3)).trans (d9 h4)) ?_;rw[d8];unfold c1m;rw[List.map_append,show((n:Int)).toNat=n by lia]
  rw[<- d0h n [2,-1,0,0]]
  rfl
def a7l(n:Nat)(row:List Int):List Int:=(List.range n).map λ(q:Nat)=>row.getD (4*q) 0
theorem b3p(n:Nat)(row:List Int):(a7l n row).length=n:=by unfold a7l;rw[List.length_map,List.length_range]
theorem c3c{n:Nat}{row:List Int}{q:Nat}(h:q<n):(a7l n row)[q]?=some (row.getD (4*q) 0):=by
 unfold a7l;rw[List.getElem?_map,List.getElem?_range h]
 rfl
structure c3m(n:Nat)(row:List Int):Prop where
 mks:∀q,q<n->0<=row.getD (4*q) 0/\row.getD (4*q) 0<=3
 cd:∀k,k<2->-1<=row.getD (4*n+k) 0/\row.getD (4*n+k) 0<2*(n:Int)
 bl:∀k,k<2->row.getD (4*n+2+k) 0=0\/row.getD (4*n+2+k) 0=1
structure GoodRow(n:Nat)(row:List Int):Prop where
 n2:2<=n
 n8:n<=8
 len:row.length=4*n+4
 ok:c3m n row
theorem GoodRow.one{n m:Nat}{row:List Int}(h:row.length=4*n+4)(g:GoodRow m row):m=n:=by
 have:=g.len;lia
def a8b:Sp:=λvs H Q _=>∃(a:Addr)(row:List Int)(n:Nat),vs=[.ref a]/\H a=some (.tup (row.map V.int))/\row.length=4*n+4/\n<=8/\∀l H',H l=none->Same H H'->H' l=some (.lst ((a7l n row).map V.int))->Q (.ref l) H'
def a6c(cl:Cl):Sp:=λvs H Q E=>∃(a:Addr)(row:List Int)(n:Nat),vs=[.int n,.ref a]/\H a=some (.tup (row.map V.int))/\row.length=4*n+4/\2<=n/\n<=8 /\
 ((c3m n row/\∀H',Same H H'->Q .non H')\/(¬ c3m n row/\∀H',Same H H'->E (.ref cl.BadCells) none H'))
def a6a(cl:Cl):Sp:=λvs H Q E=>∃(a:Addr)(row:List Int),vs=[.ref a]/\H a=some (.tup (row.map V.int)) /\
 ((∃n:Nat,GoodRow n row/\∀H',Same H H'->Q (.int n) H')\/((¬ ∃n,GoodRow n row)/\∀H',Same H H'->E (.ref cl.BadCells) none H'))
abbrev a5q:Stmt:=top 37
theorem a8d:j3 ["cells","places"] ["cells"] (g7 a5q):=↑1
theorem b4m(D:DefT K mg "marks_among" a5q ["cells"])(T:Txt K mg cl)(G_mark_cell:FnT P w K mg base "mark_cell" 1 ["place"] (b7b 0)):FnT P w K mg base "marks_among" 2 ["cells"] a8b:=by
 refine D.fn a8d (λvs H Q E h=>?_) ↑2
 ·obtain⟨a,row,n,rfl,_⟩:=h
  rfl
 ·obtain⟨a,row,n,rfl,ea,hl,n8,k⟩:=h
  refine⟨_,(d6 (i7 (i:=1) a8d.nd rfl (by first|exact Or.inl rfl|exact Or.inr rfl) (j8 a4i (j8 a7t (i6 (j2 (K:=K)) (by rfl) T.z_len PySem.boot_len (d4 (pv 0) d5)) (a0w T.m_CELLS_OF_A_PLACE rfl)) d7))
   (f8 (i5 (a1j (N:=["place","cells"]) (nt:=1) (fr:=[0]) rfl (a5y (i:=0) rfl rfl (by decide +kernel) (by decide +kernel) rfl rfl rfl rfl rfl rfl rfl) (a1u rfl T.z_range (d4 (pv 1) d5)) (y9 ↑5) (λ_ _ _ _ _=>g0 (i:=0) (show(["place","cells"]:List Str).Nodup by decide +kernel) rfl (Or.inl rfl) (Or.inr rfl)) (λ_ _ _ _ _=>(o0 (a0i (K:=K)) (pv 1) (j5 G_mark_cell hr ↑5 rfl b4i (d4 (pv 0) d5)) (λ_ _=>rfl))))))),?_⟩
  have h20:2000<=sizeLine:=by decide
  fail "";rw[List.length_map,hl];have en:(((4*n+4:Nat):Int) / 4-1)=(n:Int):=by lia
  rw[en];fail "";refine c0k (n:=(n:Int).toNat) (by lia) (f:=λq=>V.int (row.getD (4*q) 0)) (λj H' kk hj sm q=>?_) (λp hp=>?_)
  ·have hj:j<n:=by lia
   have e1:=sm _ _ ea;fail "";refine⟨_,rfl,?_⟩;refine b6o e1 (c6m (by lia) (by lia)) ?_
   rw[show(4*(0+(j:Int))+0).toNat=4*j by lia]
   exact q
  ·refine k p _ hp (d9 hp) ?_
   rw[d8];unfold a7l;rw[List.map_map,show((n:Int)).toNat=n by lia]
   rfl
abbrev a3q:Stmt:=top 39
theorem a1c:j3 ["size","cells","mark","hand","card","bell"] ["size","cells"] (g7 a3q):=↑1
theorem b1u(D:DefT K mg "check_numbers" a3q ["size","cells"])(T:Txt K mg cl)(G_marks_among:FnT P w K mg base "marks_among" 2 ["cells"] a8b)(G_card_cell:FnT P w K mg base "card_cell" 2 ["size","hand"] (a6q cl))(G_bell_cell:FnT P w K mg base "bell_cell" 3 ["size","hand"] (b1e cl)):FnT P w K mg base "check_numbers" 4 ["size","cells"] (a6c cl):=by
 refine D.fn a1c (λvs H Q E h=>?_) ↑2
 ·obtain⟨a,row,n,rfl,_⟩:=h
  rfl
 ·obtain⟨a,row,n,rfl,ea,hl,n2,n8,k⟩:=h
  refine⟨_,(d6 (b2z a5x rfl (a1y (K:=K) (j5 G_marks_among hr ↑5 rfl k7 (d4 (pv 1) d5))) (g0 (i:=2) a1c.nd rfl (by first|exact Or.inl rfl|exact Or.inr rfl))
     (f8 (v9 (PW.pt (a2f (g6 a2a (pv 2) d7 (i3 _)) (a1o (g6 b1q (pv 2) (a0w T.m_MOST_MARK rfl) (i3 _)))))
      (f8 (a0o T.c_BadCells rfl rfl a3r (d4 f9 d5)))
      i9)))
   (f8 (b2z a5x rfl (a2n (K:=K) (a3t T.r_HANDS rfl)) (g0 (i:=3) a1c.nd rfl (by first|exact Or.inl rfl|exact Or.inr rfl))
    (
     d6 (i7 (i:=4) a1c.nd rfl (by first|exact Or.inl rfl|exact Or.inr rfl) (o0 (a0i (K:=K)) (pv 1) (j5 G_card_cell hr (by decide) rfl k7 (d4 (pv 0) (d4 (pv 3) d5))) (λ_ _=>rfl)))
     (d6 (v9 (PW.pt (a2f (g6 a2a (pv 4) (a0w T.m_NO_TURN rfl) (i3 _)) (a1o (g6 c7p (pv 4) (j8 a0q d7 (pv 0)) (i3 _)))))
      (f8 (a0o T.c_BadCells rfl rfl a3r (d4 f9 d5)))
      i9)
     (d6 (i7 (i:=5) a1c.nd rfl (by first|exact Or.inl rfl|exact Or.inr rfl) (o0 (a0i (K:=K)) (pv 1) (j5 G_bell_cell hr (by decide) rfl k7 (d4 (pv 0) (d4 (pv 3) d5))) (λ_ _=>rfl)))
     (f8 (v9 (PW.pt (b2y (g6 a4b (pv 5) (a0w T.m_STILL rfl) (i3 _)) (b0n (g6 a4b (pv 5) (a0w T.m_RUNG rfl) (i3 _)))))
      (f8 (a0o T.c_BadCells rfl rfl a3r (d4 f9 d5)))
      i9)))))))),?_⟩
  have bad:∀H',Same H H'->¬ c3m n row->E (.ref cl.BadCells) none H':=λH' s' nn=>by
   rcases k with ⟨g,_⟩|⟨_,z⟩
   ·exact absurd g nn
   ·exact z H' s'
  fail "";refine⟨a,row,n,rfl,ea,hl,n8,λl H1 hl1 s1 e1=>?_⟩;fail "";refine c8h (xs:=(a7l n row).map V.int) (λi σ H'=>∃x2,σ=[some (.int n),some (.ref a),x2,none,none,none]/\Same H H'/\H' l=some (.lst ((a7l n row).map V.int))/\∀q,q<i->0<=row.getD (4*q) 0/\row.getD (4*q) 0<=3) ⟨_,rfl,s1,e1,λq hq=>absurd hq (by lia)⟩ ?_ ?_ ?_
  ·rintro i σ H2 hi ⟨x2,rfl,s2,e2,_⟩
   exact SqL.of e2
  ·rintro i x σ H2 hx ⟨x2,rfl,s2,e2,g⟩
   have hi:i<n:=by
    have:=(List.getElem?_eq_some_iff.mp hx).1;rw[List.length_map,b3p] at this;exact this
   rw[List.getElem?_map,c3c hi] at hx;cases hx;fail "";refine x9 (λc=>?_) (λc=>?_)
   ·fail ""
    exact⟨p9,bad _ s2 λz=>by have:=z.mks i hi;lia⟩
   ·fail ""
    refine x9 (λd=>?_) (λd=>?_)
    ·fail ""
     exact⟨p9,bad _ s2 λz=>by have:=z.mks i hi;lia⟩
    ·fail ""
     refine⟨_,rfl,s2,e2,λq hq=>?_⟩;by_cases hqi:q=i
     ·subst hqi;lia
     ·exact g q (by lia)
  ·rintro σ H2 ⟨x2,rfl,s2,e2,g1⟩
   rw[List.length_map,b3p] at g1;fail "";refine a5d T.kt_HANDS.sq ?_;refine d1k (xs:=[.str "giver",.str "taker"]) (λi σ H'=>∃x3 x4 x5,σ=[some (.int n),some (.ref a),x2,x3,x4,x5]/\Same H H'/\∀q,q<i->(-1<=row.getD (4*n+q) 0/\row.getD (4*n+q) 0<2*(n:Int))/\(row.getD (4*n+2+q) 0=0\/row.getD (4*n+2+q) 0=1)) ⟨_,_,_,rfl,s2,λq hq=>absurd hq (by lia)⟩ ?_ ?_ ?_
   ·intro i σ H3 _ _
    exact T.kt_HANDS.sq
   ·rintro i x σ H3 hx ⟨x3,x4,x5,rfl,s3,g⟩
    have hi:i<2:=(List.getElem?_eq_some_iff.mp hx).1;obtain⟨nm,rfl,hnm,enm⟩:∃nm:Str,x=.str nm/\(nm="giver"\/nm="taker")/\c5p nm=(i:Int):=by
     have:i=0\/i=1:=by lia
     rcases this with rfl|rfl <;> cases hx
     ·exact⟨_,rfl,.inl rfl,by decide⟩
     ·exact⟨_,rfl,.inr rfl,by decide⟩
    have e3:=s3 _ _ ea;have card:∀(H':Hp)(k:Prop),k->c0m cl n nm H' E k:=λH' k hk=>by
     unfold c0m;rw[if_pos (by lia),if_pos hnm]
     exact hk
    fail "";refine⟨n,nm,rfl,card _ _ ?_⟩;refine b6o e3 (c6m (by lia) (by lia)) ?_
    rw[enm,show(4*(n:Int)+(i:Int)).toNat=4*n+i by lia]
    fail "";refine x9 (λc=>?_) (λc=>?_)
    ·fail ""
     exact⟨p9,bad _ s3 λz=>by have:=z.cd i hi;lia⟩
    ·fail ""
     refine x9 (λd=>?_) (λd=>?_)
     ·fail ""
      exact⟨p9,bad _ s3 λz=>by have:=z.cd i hi;lia⟩
     ·fail ""
      refine⟨n,nm,rfl,card _ _ ?_⟩;refine b6o e3 (c6m (by lia) (by lia)) ?_
      rw[enm,show(4*(n:Int)+(i:Int)+2).toNat=4*n+2+i by lia]
      fail "";refine a0u (λp=>?_) (λp=>?_)
      ·fail ""
       refine a0u (λq=>?_) (λq=>?_)
       ·fail ""
        refine⟨p9,bad _ s3 λz=>?_⟩;rcases z.bl i hi with z|z
        ·exact p (by rw[z])
        ·exact q (by rw[z])
       ·fail ""
        refine⟨_,_,_,rfl,s3,λy hy=>?_⟩;by_cases hyi:y=i
        ·subst hyi
         exact⟨⟨by lia,by lia⟩,.inr (V.int.inj q)⟩
        ·exact g y (by lia)
      ·fail ""
       refine⟨_,_,_,rfl,s3,λy hy=>?_⟩;by_cases hyi:y=i
       ·subst hyi
        exact⟨⟨by lia,by lia⟩,.inl (V.int.inj p)⟩
       ·exact g y (by lia)
   ·rintro σ H3 ⟨x3,x4,x5,rfl,s3,g⟩
    have nk:c3m n row:=⟨g1,λk hk=>(g k hk).1,λk hk=>(g k hk).2⟩;fail "";rcases k with ⟨_,z⟩|⟨z,_⟩
    ·exact z H3 s3
    ·exact absurd nk z
abbrev a3o:Stmt:=top 38
theorem a6e:j3 ["cells","size"] ["cells"] (g7 a3o):=↑1
theorem b1s(D:DefT K mg "size_of_cells" a3o ["cells"])(T:Txt K mg cl)(G_new_cells:FnT P w K mg base "new_cells" 1 ["size"] b0y)(G_check_numbers:FnT P w K mg base "check_numbers" 4 ["size","cells"] (a6c cl)):FnT P w K mg base "size_of_cells" 5 ["cells"] (a6a cl):=by
 refine D.fn a6e (λvs H Q E h=>?_) ↑2
 ·obtain⟨a,row,rfl,_⟩:=h
  rfl
 ·obtain⟨a,row,rfl,ea,k⟩:=h
  refine⟨_,(d6 (b2z a5x rfl (c4o rfl T.z_range (d4 (a0w T.m_LEAST_SIZE rfl) (d4 (j8 a0y (a0w T.m_MOST_SIZE rfl) d7) d5))) (g0 (i:=1) a6e.nd rfl (by first|exact Or.inl rfl|exact Or.inr rfl))
     (f8 (v9 (g6 a1k (i6 (j2 (K:=K)) (by rfl) T.z_len PySem.boot_len (d4 (pv 0) d5)) (i6 (j2 (K:=K)) (by rfl) T.z_len PySem.boot_len (d4 (j5 G_new_cells hr ↑5 rfl k7 (d4 (pv 1) d5)) d5)) (i3 _))
      (
       d6 (a1q (j5 G_check_numbers hr ↑5 rfl k7 (d4 (pv 1) (d4 (pv 0) d5))))
       (f8 (i5 (pv 1))))
      i9)))
   (f8 (a0o T.c_BadCells rfl rfl a3r (d4 f9 d5)))),?_⟩
  have bad:∀H',Same H H'->(¬ ∃n,GoodRow n row)->E (.ref cl.BadCells) none H':=λH' s' nn=>by
   rcases k with ⟨m,g,_⟩|⟨_,z⟩
   ·exact absurd ⟨m,g⟩ nn
   ·exact z H' s'
  fail "";refine⟨2,9,rfl,⟨by decide,by decide,by decide,by decide⟩,?_⟩
  refine a7p (lo:=2) (n:=7) (λi σ H'=>∃x1,σ=[some (.ref a),x1]/\Same H H'/\∀q,q<i->row.length≠4*(2+q)+4) ⟨_,rfl,Same.refl H,λq hq=>absurd hq (by lia)⟩ ?_ ?_
  ·rintro i σ H1 hi ⟨x1,rfl,s1,g⟩
   have e1:=s1 _ _ ea;fail "";rw[List.length_map];refine⟨2+i,by rw[show((2+i:Nat):Int)=2+(i:Int) by lia],by lia,λl H2 hl2 s2 e2=>?_⟩
   have e3:=s2 _ _ e1;fail "";rw[List.length_map,c3b];refine x9 (λc=>?_) (λc=>?_)
   ·have c:row.length=4*(2+i)+4:=by have:=V.int.inj c;lia
    fail "";refine⟨a,row,2+i,by rw[show((2+i:Nat):Int)=2+(i:Int) by lia],e3,c,by lia,by lia,?_⟩
    by_cases nk:c3m (2+i) row
    ·refine .inl ⟨nk,λH' s'=>?_⟩
     fail "";rcases k with ⟨m,g,z⟩|⟨z,_⟩
     ·have:=g.one c
      subst this;have:=z H' ((s1.trans s2).trans s')
      rwa [show(((2+i:Nat):Int))=2+(i:Int) by lia] at this
     ·exact absurd ⟨_,(⟨by lia,by lia,c,nk⟩:GoodRow (2+i) row)⟩ z
    ·refine .inr ⟨nk,λH' s'=>bad _ ((s1.trans s2).trans s') ?_⟩
     rintro⟨m,g⟩;have:=g.one c;subst this;exact nk g.ok
   ·fail ""
    refine⟨_,rfl,s1.trans s2,λq hq=>?_⟩;by_cases hqi:q=i
    ·subst hqi
     intro z;exact c (by rw[z])
    ·exact g q (by lia)
  ·rintro σ H1 ⟨x1,rfl,s1,g⟩
   fail "";refine⟨p9,bad _ s1 ?_⟩;rintro⟨m,z⟩;have z1:=z.n2;have z2:=z.n8;exact g (m-2) (by lia) (by rw[z.len];lia)
theorem c6x:(0:Int)<10 ^ 59/\(10:Int) ^ 59<2 ^ 200-1/\(5:Int)*10 ^ 58+5*10 ^ 58=10 ^ 59/\(8:Int)<5*10 ^ 58:=by decide
def c0o(x:Int):Prop:=-(5*10 ^ 58)<=x/\x<=5*10 ^ 58
def b1a:Sp:=λvs H Q _=>∃(w:Addr)(n:Int),vs=[.ref w,.int n]/\Well H w/\1<=n/\n<=8/\∀(p:Addr)(H':Hp)(row:List Int),H p=none->H' p=some (.lst (row.map V.int))->1<=row.length->(row.length:Int)<=n->(∀x∈row,c0o x)->Well H' w->But w H H'->Q (.ref p) H'
abbrev a8s:Stmt:=top 86
theorem a2w:j3 ["well","size","way","order","k","far"] ["well","size"] (g7 a8s):=↑1
theorem b8i(D:DefT K mg "_law_order" a8s ["well","size"])(T:Txt K mg cl)(G_law_take:FnT P w K mg base "_law_take" 1 ["well","many"] a1g):FnT P w K mg base "_law_order" 2 ["well","size"] b1a:=by
 refine D.fn a2w (λvs H Q E h=>?_) ↑2
 ·obtain⟨w,n,rfl,_⟩:=h
  rfl
 ·obtain⟨w,n,rfl,hw,n1,n8,k⟩:=h
  refine⟨_,(d6 (i7 (i:=2) a2w.nd rfl (by first|exact Or.inl rfl|exact Or.inr rfl) ↑4)
   (d6 (i7 (i:=3) a2w.nd rfl (by first|exact Or.inl rfl|exact Or.inr rfl) (m5 d5))
   (d6 (b2z a5x rfl (a1u rfl T.z_range (d4 (o0 (i8 (K:=K)) (m5 (d4 d7 (d4 (pv 1) (d4 (j8 a0y d7 (j5 G_law_take hr ↑5 rfl k7 (d4 (pv 0) (d4 (pv 1) d5)))) d5)))) (pv 2) (λ_ _=>rfl)) d5)) (g0 (i:=4) a2w.nd rfl (by first|exact Or.inl rfl|exact Or.inr rfl))
     (
     d6 (i7 (i:=5) a2w.nd rfl (by first|exact Or.inl rfl|exact Or.inr rfl) (j8 a4i (j5 G_law_take hr ↑5 rfl k7 (d4 (pv 0) (d4 (j8 c1j d7 d7) d5))) (j8 a0q d7 (j8 c1j d7 d7))))
     (f8 (a1q (a5a (K:=K) (pv 3) (d4 (o0 (i8 (K:=K)) (m5 (d4 (j8 a4i ↑4 d7) (d4 (pv 5) d5))) (j8 a7t ↑4 d7) (λ_ _=>rfl)) d5))))))
   (f8 (i5 (pv 3)))))),?_⟩
  have h20:2000<=sizeLine:=by decide
  fail "";refine⟨w,3,rfl,hw,by decide,by decide,λway H1 a1 c1 w1 b1=>?_⟩
  fail "";refine⟨Nat.zero_le _,λp hp=>?_⟩;have hp0:H p=none:=b1.free w1 hp;have np:p≠w:=w1.ne hp;fail "";refine⟨w,n,rfl,w1.same (d9 hp),by lia,by lia,λr H2 a2 c2 w2 b2=>?_⟩
  have e2:H2 p=some (.lst (([]:List Int).map V.int)):=b2 p _ d8 np;have bb2:But w H H2:=b1.trans ((But.of (d9 hp)).trans b2);fail "";refine⟨by show 3<=sizeLine;lia,λq hq=>?_⟩
  obtain⟨N,hN,g1,g8⟩:=d2y (ns:=[1,n,1+r]) (Pr:=λv=>1<=v/\v<=n) (by intro v hv;simp only[List.mem_cons,List.not_mem_nil,or_false] at hv;lia) a1 c1
  fail "";refine a4d d8 hN ?_;fail "";refine a7p (n:=N.toNat) (λi σ H'=>∃x4 x5 row,σ=[some (.ref w),some (.int n),some (.int way),some (.ref p),x4,x5]/\H' p=some (.lst ((row:List Int).map V.int))/\row.length=i/\(∀x∈row,c0o x)/\Well H' w/\But w H H') ⟨_,_,[],rfl,d9 hq _ _ e2,rfl,by simp,w2.same (d9 hq),bb2.nw hq⟩ ?_ ?_
  ·rintro i σ H3 hi ⟨x4,x5,row,rfl,e3,hl,hs,w3,b3⟩
   fail "";refine⟨w,_,rfl,w3,c6x.1,Int.lt_trans c6x.2.1 ↑5,λr4 H4 a4 c4 w4 b4=>?_⟩;have c4:r4<10 ^ 59:=c4;have e4:H4 p=_:=b4 p _ e3 np;fail "";refine⟨w,9,rfl,w4,by decide,by decide,λr5 H5 a5 c5 w5 b5=>?_⟩
   have e5:H5 p=_:=b5 p _ e4 np;fail "";refine⟨by show 2<=sizeLine;lia,λq hq=>?_⟩
   have nq:q≠w:=w5.ne hq;have e5':upd H5 q (.lst [.int (r5-4),.int (r4-5*10 ^ 58)]) p=_:=d9 hq _ _ e5;fail "";refine⟨w,5,rfl,w5.same (d9 hq),by decide,by decide,λr6 H6 a6 c6 w6 b6=>?_⟩
   have e6:H6 p=_:=b6 p _ e5' np;have e6q:H6 q=_:=b6 q _ d8 nq;fail "";obtain⟨y,hy,sy⟩:=d2y (ns:=[r5-4,r4-5*10 ^ 58]) (Pr:=c0o) (by
    have z1:=c6x.2.2.1;have z2:=c6x.2.2.2;intro v hv;simp only[List.mem_cons,List.not_mem_nil,or_false] at hv;unfold c0o;rcases hv with rfl|rfl <;> constructor <;> lia) (r:=r6 / 4) (by lia) (by show r6 / 4<2;lia)
   refine a4d e6q hy ?_;fail "";refine c8g e6 (by rw[List.length_map];lia) ?_
   fail "";refine⟨_,_,row++[y],rfl,by rw[d8,List.map_append];rfl,by rw[List.length_append];show row.length+1=_;lia,?_,?_,?_⟩
   ·intro x hx
    rcases List.mem_append.mp hx with h|h
    ·exact hs x h
    ·rw[List.mem_singleton.mp h];exact sy
   ·obtain⟨a,b,pr,z,zz⟩:=w6
    exact⟨a,b,pr,(j4 np.symm).trans z,zz⟩
   ·have:But w H H6:=b3.trans (b4.trans (b5.trans ((But.of (d9 hq)).trans b6)))
    intro c o e ne;rw[j4 (g9 e hp0)];exact this c o e ne
  ·rintro σ H3 ⟨x4,x5,row,rfl,e3,hl,hs,w3,b3⟩
   fail "";exact k p H3 row hp0 e3 (by lia) (by lia) hs w3 b3
def Rws(H:Hp)(a:Addr)(os:List (List Int)):Prop:=∃ps:List Addr,H a=some (.lst (ps.map V.ref))/\ps.length=os.length/\∀(i:Nat)(p:Addr)(o:List Int),ps[i]?=some p->os[i]?=some o->H p=some (.lst (o.map V.int))
theorem Rws.same{H H':Hp}{a:Addr}{os:List (List Int)}(h:Rws H a os)(s:Same H H'):Rws H' a os:=by
 obtain⟨ps,e,l,r⟩:=h;exact⟨ps,s _ _ e,l,λi p o hp ho=>s _ _ (r i p o hp ho)⟩
inductive Hr where
 | non
 | int (i:Int)
@[reducible] def Hr.v:Hr->V
 | .non=>.non
 | .int i=>.int i
abbrev b1m:List Str:=["rouse","clear","mute","marks"]
abbrev b1o:List Str:=["look","wish","again","sleep","hush","unwish"]
abbrev a9a:List Str:=["free","card","ring"]
abbrev gvU:List Str:=["rouse","clear","mute","marks","told","lacks","look","wish","again","sleep","hush","unwish","number","left","thing","mark","card","ring"]
abbrev tkU:List Str:=["rouse","clear","mute","marks","look","wish","again","sleep","hush","unwish","number","left","thing","free","card","ring"]
theorem b2b(x:Str)(xs:List Str):inV (.str x) (xs.map V.str)=decide (x∈xs):=by
 unfold inV;rw[Bool.eq_iff_iff,List.any_eq_true,decide_eq_true_iff];constructor
 ·rintro⟨y,hy,e⟩
  obtain⟨z,hz,rfl⟩:=List.mem_map.mp hy;rw[b0p,decide_eq_true_iff] at e
  first|exact e ▸ hz|exact e.symm ▸ hz
 ·exact λh=>⟨.str x,List.mem_map.mpr ⟨x,h,rfl⟩,by rw[b0p];exact decide_eq_true rfl⟩
theorem a5e(xs:List Str):(xs.map V.str).all a3g=true:=by
 rw[List.all_eq_true];intro y hy;obtain⟨z,_,rfl⟩:=List.mem_map.mp hy
 rfl
theorem c5x{H:Hp}{Q:VK}{t:Addr}{x:Str}{xs:List Str}(h:SqT K H t (xs.map V.str))(q:Q (.bl (decide (x∈xs))) H):rIn K false (.str x) (.ref t) H Q :=
 ⟨t,_,rfl,.inr h,rfl,a5e xs,by rw[if_neg ↑5,b2b];exact q⟩
theorem c1u{H:Hp}{Q:VK}{t:Addr}{x:Str}{xs:List Str}(h:SqT K H t (xs.map V.str))(q:Q (.bl (!decide (x∈xs))) H):rIn K true (.str x) (.ref t) H Q :=
 ⟨t,_,rfl,.inr h,rfl,a5e xs,by rw[if_pos rfl,b2b];exact q⟩
def a3k(n:Nat)(st:Str)(he:Hr):Prop:=if st∈b1m then he=.non else ∃i,he=.int i/\0<=i/\i<2*(n:Int)
def a2y(n:Nat)(st:Str)(mk:List Int):Prop:=if st="marks" then mk.length<n/\∀m∈mk,0<=m/\m<=3 else mk=[]
structure GSd where
 st:Str
 he:Hr
 ms:List Int
 od:Int
 pt:Int
structure TSd where
 st:Str
 he:Hr
 ms:List Int
 nf:Hr
 nu:Int
 le:Int
 pa:List Int
def b5x(st:Str)(od pt:Int)(os:List (List Int)):Prop :=
 if st∈b1m\/st="told" then od=0/\pt=0 else if st="lacks" then (-1<=od/\od<os.length)/\pt=0 else if od=os.length then st∈b1o/\pt=0 else (0<=od/\od<os.length)/\0<=pt/\pt<(os.getD od.toNat []).length
def TTs(H:Hp)(a:Addr)(os:List (List Int)):Prop:=∃ps:List Addr,H a=some (.tup (ps.map V.ref))/\ps.length=os.length/\∀(i:Nat)(p:Addr)(o:List Int),ps[i]?=some p->os[i]?=some o->H p=some (.tup (o.map V.int))
theorem TTs.same{H H':Hp}{a:Addr}{os:List (List Int)}(h:TTs H a os)(s:Same H H'):TTs H' a os:=by
 obtain⟨ps,e,l,r⟩:=h;exact⟨ps,s _ _ e,l,λi p o hp ho=>s _ _ (r i p o hp ho)⟩
theorem a1r(x y:Str):decide (V.str x=V.str y)=decide (x=y):=by
 rw[decide_eq_decide];exact⟨V.str.inj,λz=>by rw[z]⟩
theorem y6(x y:Int):decide (V.int x=V.int y)=decide (x=y):=by
 rw[decide_eq_decide];exact⟨V.int.inj,λz=>by rw[z]⟩
theorem b3u{σ:St}{H:Hp}{k:St->Hp->Prop}{p:Addr}{x1 x2 x3 x4 x5:V}{a b c d e n:Nat}(h:H p=some (.tup [x1,x2,x3,x4,x5]))(hn:5=n)(q:k (((((σ.set a (some x1)).set b (some x2)).set c (some x3)).set d (some x4)).set e (some x5)) H):d4w K n (a4e (a2r a) (a4e (a2r b) (a4e (a2r c) (a4e (a2r d) (a4e (a2r e) d4j))))) (.ref p) σ H k:=⟨p,_,rfl,SqT.of h,hn,x1,_,rfl,x2,_,rfl,x3,_,rfl,x4,_,rfl,x5,[],rfl,rfl,q⟩
theorem c5r{σ:St}{H:Hp}{k:St->Hp->Prop}{p:Addr}{x1 x2 x3 x4 x5 x6 x7:V}{a b c d e f g n:Nat}(h:H p=some (.tup [x1,x2,x3,x4,x5,x6,x7]))(hn:7=n)(q:k (((((((σ.set a (some x1)).set b (some x2)).set c (some x3)).set d (some x4)).set e (some x5)).set f (some x6)).set g (some x7)) H):d4w K n (a4e (a2r a) (a4e (a2r b) (a4e (a2r c) (a4e (a2r d) (a4e (a2r e) (a4e (a2r f) (a4e (a2r g) d4j))))))) (.ref p) σ H k:=⟨p,_,rfl,SqT.of h,hn,x1,_,rfl,x2,_,rfl,x3,_,rfl,x4,_,rfl,x5,_,rfl,x6,_,rfl,x7,[],rfl,rfl,q⟩
theorem b8q{n t:Int}{H:Hp}{E:XK}{k:Prop}(n2:2<=n)(n8:n<=8)(t0:0<=t)(t1:t<2*n)(h:k):a9z cl n t H E k:=by
 unfold a9z;rw[if_pos ⟨n2,n8⟩,if_pos ⟨t0,t1⟩];exact h
structure c6p(n:Nat)(os:List (List Int))(g:GSd):Prop where
 st:g.st∈gvU
 tf:a3k n g.st g.he
 mf:a2y n g.st g.ms
 pf:b5x g.st g.od g.pt os
def GT(H:Hp)(a:Addr)(g:GSd):Prop:=∃m,H a=some (.tup [.str g.st,g.he.v,.ref m,.int g.od,.int g.pt])/\H m=some (.tup (g.ms.map V.int))
theorem GT.same{H H':Hp}{a:Addr}{g:GSd}(h:GT H a g)(s:Same H H'):GT H' a g:=by
 obtain⟨m,e,e'⟩:=h;exact⟨m,s _ _ e,s _ _ e'⟩
def Tells(p:Prop)(H:Hp)(Q:VK):Prop:=∀(b:Bool)(H':Hp),(b=true ↔ p)->Same H H'->Q (.bl b) H'
theorem Tells.t{p:Prop}{H:Hp}{Q:VK}(h:Tells p H Q)(z:p):Q (.bl true) H:=h true H ⟨λ_=>z,λ_=>rfl⟩ (Same.refl H)
theorem Tells.f{p:Prop}{H:Hp}{Q:VK}(h:Tells p H Q)(z:¬ p):Q (.bl false) H:=h false H ⟨λq=>(by cases q),λq=>absurd q z⟩ (Same.refl H)
theorem Tells.d{p q:Prop}[Decidable q]{H:Hp}{Q:VK}(h:Tells p H Q)(z:q ↔ p):Q (.bl (decide q)) H:=h _ H (by rw[decide_eq_true_iff];exact z) (Same.refl H)
theorem Tells.on{p:Prop}{H H1:Hp}{Q:VK}(h:Tells p H Q)(s:Same H H1):Tells p H1 Q:=λb H' z s'=>h b H' z (s.trans s')
def a6j:Sp:=λvs H Q _=>∃(n:Nat)(st:Str)(he:Hr),vs=[.int n,.str st,he.v]/\n<=8/\Tells (a3k n st he) H Q
abbrev a8j:Stmt:=top 53
theorem b7f:j3 ["size","stage","turn"] ["size","stage","turn"] (g7 a8j):=↑1
theorem b7z(D:DefT K mg "turn_fits" a8j ["size","stage","turn"])(T:Txt K mg cl):FnT P w K mg base "turn_fits" 1 ["size","stage","turn"] a6j:=by
 refine D.fn b7f (λvs H Q E h=>?_) ↑2
 ·obtain⟨n,st,he,rfl,_⟩:=h
  rfl
 ·obtain⟨n,st,he,rfl,n8,k⟩:=h
  refine⟨_,(d6 (v9 (g6 (a3u (K:=K)) (pv 1) (a3t T.r_COMING_UP rfl) (by with_unfolding_all rfl))
     (f8 (i5 (m9 b4v (pv 2) a1i (i3 _))))
     i9)
   (f8 (i5 (a1z (m9 c5a (pv 2) a1i (i3 _)) (a1p (b2a rfl T.z_range (pv 2) (d4 (j8 a0q d7 (pv 0)) d5))))))),?_⟩
  unfold a3k at k;fail "";refine c5x (xs:=b1m) T.kt_COMING_UP.sq ?_;by_cases hc:st∈b1m
  ·rw[if_pos hc] at k
   rw[decide_eq_true hc];fail "";refine⟨rfl,k.d ?_⟩;cases he with
   | non=>exact⟨λ_=>rfl,λ_=>rfl⟩
   | int i=>exact⟨λz=>(by cases z),λz=>(by cases z)⟩
  ·rw[if_neg hc] at k
   rw[decide_eq_false hc];fail "";cases he with
   | non=>
    refine⟨rfl,false,rfl,?_⟩;fail "";exact k.f (by rintro⟨i,z,_⟩;cases z)
   | int i=>
    refine⟨rfl,true,rfl,?_⟩;fail "";refine⟨i,_,rfl,rfl,k.d ⟨λz=>⟨i,rfl,z⟩,?_⟩⟩;rintro⟨j,z,q⟩;cases z;exact q
def a6m:Sp:=λvs H Q _=>∃(n:Nat)(st:Str)(a:Addr)(mk:List Int),vs=[.int n,.str st,.ref a]/\n<=8/\H a=some (.tup (mk.map V.int))/\mk.length<=100000/\Tells (a2y n st mk) H Q
abbrev a8p:Stmt:=top 54
theorem b7j:j3 ["size","stage","marks"] ["size","stage","marks"] (g7 a8p):=↑1
theorem b8f(D:DefT K mg "marks_fit" a8p ["size","stage","marks"])(T:Txt K mg cl):FnT P w K mg base "marks_fit" 1 ["size","stage","marks"] a6m:=by
 refine D.fn b7j (λvs H Q E h=>?_) ↑2
 ·obtain⟨n,st,a,mk,rfl,_⟩:=h
  rfl
 ·obtain⟨n,st,a,mk,rfl,n8,ea,lz,k⟩:=h
  refine⟨_,(d6 (v9 (g6 a4b (pv 1) f9 (i3 _))
     (f8 (i5 (m9 a1k (i6 (j2 (K:=K)) (by rfl) T.z_len PySem.boot_len (d4 (pv 2) d5)) d7 (i3 _))))
     i9)
   (f8 (i5 (a1z (m9 a2a (i6 (j2 (K:=K)) (by rfl) T.z_len PySem.boot_len (d4 (pv 2) d5)) (pv 0) (i3 _)) (a1p (i6 (b3y (K:=K) rfl) (by rfl) T.z_all PyProof.Rows.boot_all (d4 (a1j (N:=["mark"]) (nt:=1) (fr:=[]) rfl (a0b rfl rfl (by decide +kernel) (by decide +kernel) rfl rfl) (a2n (K:=K) (pv 2)) (y9 ↑5) (λ_ _ _ _ _=>g0 (i:=0) (show(["mark"]:List Str).Nodup by decide +kernel) rfl (Or.inl rfl) (Or.inr rfl)) (λ_ _ _ _ _=>(b2a rfl T.z_range (pv 0) (d4 (j8 a0y (a0w T.m_MOST_MARK rfl) d7) d5)))) d5))))))),?_⟩
  have lm:=a0l;unfold a2y at k;fail "";by_cases hm:st="marks"
  ·rw[if_pos hm] at k
   subst hm;refine a0u (λz=>absurd rfl z) λ_=>?_;fail "";rw[List.length_map];refine x9 (λz=>?_) (λz=>?_)
   ·fail ""
    refine a5d (SqT.of ea) ?_;refine a3y (xs:=mk.map V.int) (by rw[List.length_map];lia) (MpP H mk (λm=>V.bl (decide (0<=m/\m<3+1))) (λ_=>True)) (λD hD=>MpP.new hD) (λD i acc H' p=>⟨p.len.1,p.len.2,SqT.of (p.2.1 _ _ ea)⟩) ?_ ?_
    ·intro D i x acc H' hD hx hp
     obtain⟨y,hy,rfl⟩:=a4c hx;fail "";exact⟨_,_,rfl,rfl,hp.step hD hy trivial rfl (Same.refl _)⟩
    ·intro D acc H' hD hp
     obtain⟨e,s',_⟩:=hp.done (List.length_map _);fail "";refine⟨D,mk.map λm=>decide (0<=m/\m<3+1),rfl,SqL.of (e.trans (by rw[List.map_map];rfl)),k _ _ ?_ s'⟩
     rw[List.all_map,List.all_eq_true];constructor
     ·intro q
      refine⟨by lia,λm hm=>?_⟩
      have:=of_decide_eq_true (q m hm);lia
     ·intro q m hm
      have:=q.2 m hm;exact decide_eq_true (by lia)
   ·fail ""
    exact k.f (λq=>z (by have:=q.1;lia))
  ·rw[if_neg hm] at k
   refine a0u (λ_=>?_) λz=>absurd (V.str.inj z) hm;fail "";rw[List.length_map];refine k.d ⟨λz=>?_,λz=>by rw[z];rfl⟩
   exact List.length_eq_zero_iff.mp (by have:=V.int.inj z;lia)
def b0w:Sp:=λvs H Q _=>∃(st:Str)(od pt:Int)(a:Addr)(os:List (List Int)),vs=[.str st,.int od,.int pt,.ref a]/\TTs H a os/\Tells (b5x st od pt os) H Q
abbrev a8m:Stmt:=top 55
theorem b7g:j3 ["stage","order","part","orders"] ["stage","order","part","orders"] (g7 a8m):=↑1
theorem b8c(D:DefT K mg "part_fits" a8m ["stage","order","part","orders"])(T:Txt K mg cl):FnT P w K mg base "part_fits" 1 ["stage","order","part","orders"] b0w:=by
 refine D.fn b7g (λvs H Q E h=>?_) ↑2
 ·obtain⟨st,od,pt,a,os,rfl,_⟩:=h
  rfl
 ·obtain⟨st,od,pt,a,os,rfl,⟨ps,ea,hl,ep⟩,k⟩:=h
  refine⟨_,(d6 (v9 (PW.pt (a2f (g6 (a3u (K:=K)) (pv 0) (a3t T.r_COMING_UP rfl) (by with_unfolding_all rfl)) (a1o (g6 a1k (pv 0) f9 (i3 _)))))
     (f8 (i5 (a1z (m9 a1k (pv 1) d7 (i3 _)) (a1p (m9 a1k (pv 2) d7 (i3 _))))))
     i9)
   (d6 (v9 (g6 a1k (pv 0) f9 (i3 _))
     (f8 (i5 (a1z (c4r rfl T.z_range (pv 1) (d4 (a0w T.m_NO_ORDER rfl) (d4 (i6 (j2 (K:=K)) (by rfl) T.z_len PySem.boot_len (d4 (pv 3) d5)) d5))) (a1p (m9 a1k (pv 2) d7 (i3 _))))))
     i9)
   (d6 (v9 (g6 a1k (pv 1) (i6 (j2 (K:=K)) (by rfl) T.z_len PySem.boot_len (d4 (pv 3) d5)) (i3 _))
     (f8 (i5 (a1z (m9 (a3u (K:=K)) (pv 0) (a3t T.r_WAITING rfl) (by with_unfolding_all rfl)) (a1p (m9 a1k (pv 2) d7 (i3 _))))))
     i9)
   (f8 (i5 (a1z (b2a rfl T.z_range (pv 1) (d4 (i6 (j2 (K:=K)) (by rfl) T.z_len PySem.boot_len (d4 (pv 3) d5)) d5)) (a1p (b2a rfl T.z_range (pv 2) (d4 (i6 (j2 (K:=K)) (by rfl) T.z_len PySem.boot_len (d4 (o0 (a0i (K:=K)) (pv 3) (pv 1) (λ_ _=>rfl)) d5)) d5))))))))),?_⟩
  unfold b5x at k;fail "";refine c5x (xs:=b1m) T.kt_COMING_UP.sq ?_;by_cases h1:st∈b1m
  ·rw[if_pos (.inl h1)] at k
   rw[decide_eq_true h1];fail "";rw[y6];refine x9 (λz=>?_) (λz=>?_)
   ·fail ""
    exact k.d ⟨λy=>⟨z,V.int.inj y⟩,λy=>by rw[y.2]⟩
   ·fail ""
    exact k.f λq=>z q.1
  rw[decide_eq_false h1];fail "";rw[a1r];by_cases h2:st="told"
  ·rw[if_pos (.inr h2)] at k
   rw[decide_eq_true h2];fail "";rw[y6];refine x9 (λz=>?_) (λz=>?_)
   ·fail ""
    exact k.d ⟨λy=>⟨z,V.int.inj y⟩,λy=>by rw[y.2]⟩
   ·fail ""
    exact k.f λq=>z q.1
  rw[if_neg (λz=>z.elim h1 h2)] at k;rw[decide_eq_false h2];fail "";rw[a1r];by_cases h3:st="lacks"
  ·rw[if_pos h3] at k
   rw[decide_eq_true h3];fail "";rw[List.length_map,hl];refine⟨_,_,_,rfl,rfl,decide (-1<=od/\od<os.length),rfl,?_⟩;refine x9 (λz=>?_) (λz=>?_)
   ·fail ""
    exact k.d ⟨λy=>⟨z,V.int.inj y⟩,λy=>by rw[y.2]⟩
   ·fail ""
    exact k.f λq=>z q.1
  rw[if_neg h3] at k;rw[decide_eq_false h3];fail "";rw[List.length_map,hl,y6];by_cases h4:od=os.length
  ·rw[if_pos h4] at k
   rw[decide_eq_true h4];fail "";refine c5x (xs:=b1o) T.kt_WAITING.sq ?_;fail "";refine x9 (λz=>?_) (λz=>?_)
   ·fail ""
    exact k.d ⟨λy=>⟨z,V.int.inj y⟩,λy=>by rw[y.2]⟩
   ·fail ""
    exact k.f λq=>z q.1
  rw[if_neg h4] at k;rw[decide_eq_false h4];fail "";rw[List.length_map,hl];refine⟨_,_,rfl,rfl,decide (0<=od/\od<os.length),rfl,?_⟩;refine x9 (λz=>?_) (λz=>?_)
  ·have hi:od.toNat<os.length:=by lia
   have hip:od.toNat<ps.length:=by lia
   have eo:os.getD od.toNat []=os[od.toNat]:=by rw[List.getD_eq_getElem?_getD,List.getElem?_eq_getElem hi];rfl
   rw[eo] at k;have e1:=ep od.toNat ps[od.toNat] os[od.toNat] (List.getElem?_eq_getElem hip) (List.getElem?_eq_getElem hi);fail "";refine b6o (v:=.ref ps[od.toNat]) ea ?_ ?_
   ·unfold atI
    rw[List.length_map,c5k z.1 (by lia)]
    show(ps.map V.ref)[od.toNat]?=_;rw[List.getElem?_map,List.getElem?_eq_getElem hip]
    rfl
   fail "";rw[List.length_map];exact⟨_,_,rfl,rfl,k.d ⟨λy=>⟨z,y⟩,λy=>y.2⟩⟩
  ·fail ""
   exact k.f λq=>z q.1
def a9i:Sp:=λvs H Q _=>∃(n:Nat)(a b:Addr)(g:GSd)(os:List (List Int)),vs=[.int n,.ref a,.ref b]/\n<=8/\GT H a g/\TTs H b os/\g.ms.length<=100000/\Tells (c6p n os g) H Q
abbrev a7b:Stmt:=top 56
theorem a1n:j3 ["size","mind","orders","stage","turn","marks","order","part"] ["size","mind","orders"] (g7 a7b):=↑1
theorem b6h(D:DefT K mg "giver_fits" a7b ["size","mind","orders"])(T:Txt K mg cl)(G_turn_fits:FnT P w K mg base "turn_fits" 1 ["size","stage","turn"] a6j)(G_marks_fit:FnT P w K mg base "marks_fit" 1 ["size","stage","marks"] a6m)(G_part_fits:FnT P w K mg base "part_fits" 1 ["stage","order","part","orders"] b0w):FnT P w K mg base "giver_fits" 2 ["size","mind","orders"] a9i:=by
 refine D.fn a1n (λvs H Q E h=>?_) ↑2
 ·obtain⟨n,a,b,g,os,rfl,_⟩:=h
  rfl
 ·obtain⟨n,a,b,g,os,rfl,n8,⟨m,ea,em⟩,tb,lz,k⟩:=h
  refine⟨_,(d6 (a3e (pv 1) (a3s (K:=K) rfl (i4 (g0 (i:=3) a1n.nd rfl (by first|exact Or.inl rfl|exact Or.inr rfl)) (i4 (g0 (i:=4) a1n.nd rfl (by first|exact Or.inl rfl|exact Or.inr rfl)) (i4 (g0 (i:=5) a1n.nd rfl (by first|exact Or.inl rfl|exact Or.inr rfl)) (i4 (g0 (i:=6) a1n.nd rfl (by first|exact Or.inl rfl|exact Or.inr rfl)) (i4 (g0 (i:=7) a1n.nd rfl (by first|exact Or.inl rfl|exact Or.inr rfl)) a2o)))))))
   (d6 (v9 (g6 (a9p (K:=K)) (pv 3) (a3t T.r_GIVER_STAGES rfl) (by with_unfolding_all rfl))
     (f8 (i5 a2p))
     i9)
   (d6 (v9 (PW.pt (a2f (a3d (a2g (j5 G_turn_fits hr ↑5 rfl k7 (d4 (pv 0) (d4 (pv 3) (d4 (pv 4) d5)))))) (a1o (a3d (a2g (j5 G_marks_fit hr ↑5 rfl k7 (d4 (pv 0) (d4 (pv 3) (d4 (pv 5) d5)))))))))
     (f8 (i5 a2p))
     i9)
   (f8 (i5 (j5 G_part_fits hr ↑5 rfl k7 (d4 (pv 3) (d4 (pv 6) (d4 (pv 7) (d4 (pv 2) d5)))))))))),?_⟩
  fail "";refine b3u ea rfl ?_;fail "";refine c1u (xs:=gvU) T.kt_GIVER_STAGES.sq ?_;fail "";refine a0u (λz=>?_) (λz=>?_)
  ·fail ""
   exact k.f λq=>z q.st
  fail "";refine⟨n,g.st,g.he,rfl,n8,λb1 H1 e1 s1=>?_⟩;fail "";cases b1
  ·fail ""
   exact(k.on s1).f λq=>by cases e1.mpr q.tf
  fail "";refine⟨n,g.st,m,g.ms,rfl,n8,s1 _ _ em,lz,λb2 H2 e2 s2=>?_⟩;fail "";cases b2
  ·fail ""
   exact(k.on (s1.trans s2)).f λq=>by cases e2.mpr q.mf
  fail "";refine⟨g.st,g.od,g.pt,b,os,rfl,tb.same (s1.trans s2),λb3 H3 e3 s3=>k b3 H3 ?_ ((s1.trans s2).trans s3)⟩;exact⟨λq=>⟨z,e1.mp rfl,e2.mp rfl,e3.mp q⟩,λq=>e3.mpr q.pf⟩
def c4f(st:Str)(nu le:Int):Prop:=(nu=0\/st="left"\/st="thing")/\(le=0\/(0<le/\st="thing"))
def a6k:Sp:=λvs H Q _=>∃(st:Str)(nu le:Int),vs=[.str st,.int nu,.int le]/\Tells (c4f st nu le) H Q
abbrev a4o:Stmt:=top 57
theorem b2q:j3 ["stage","number","left"] ["stage","number","left"] (g7 a4o):=↑1
theorem b3f(D:DefT K mg "reading_fits" a4o ["stage","number","left"])(T:Txt K mg cl):FnT P w K mg base "reading_fits" 1 ["stage","number","left"] a6k:=by
 refine D.fn b2q (λvs H Q E h=>?_) ↑2
 ·obtain⟨st,nu,le,rfl,_⟩:=h
  rfl
 ·obtain⟨st,nu,le,rfl,k⟩:=h
  refine⟨_,(d6 (v9 (PW.pt (b2y (g6 a4b (pv 1) d7 (i3 _)) (b2y (g6 a4b (pv 0) f9 (i3 _)) (b0n (g6 a4b (pv 0) f9 (i3 _))))))
     (f8 (i5 a2p))
     i9)
   (f8 (i5 (c7k (m9 a1k (pv 2) d7 (i3 _)) (a1p (a1z (m9 b1q (pv 2) d7 (i3 _)) (a1p (m9 a1k (pv 0) f9 (i3 _))))))))),?_⟩
  unfold c4f at k;fail "";rw[y6];refine a0u (λz=>?_) (λz=>?_)
  ·fail ""
   rw[a1r];refine a0u (λy=>?_) (λy=>?_)
   ·fail ""
    rw[a1r];refine a0u (λx=>?_) (λx=>?_)
    ·fail ""
     exact k.f λu=>u.1.elim (λv=>z v) λv=>v.elim (λv=>y v) λv=>x v
    ·fail ""
     rw[y6];have h0:nu=0\/st="left"\/st="thing":=.inr (.inr x);refine x9 (λz1=>k.t ⟨h0,.inl z1⟩) (λz1=>?_);fail "";refine x9 (λy1=>?_) (λy1=>?_)
     ·fail ""
      exact k.d ⟨λu=>⟨h0,.inr ⟨y1,V.str.inj u⟩⟩,λu=>u.2.elim (λv=>absurd v z1) λv=>by rw[v.2]⟩
     ·fail ""
      exact k.f λu=>u.2.elim (λv=>z1 v) λv=>y1 v.1
   ·fail ""
    rw[y6];have h0:nu=0\/st="left"\/st="thing":=.inr (.inl y);refine x9 (λz1=>k.t ⟨h0,.inl z1⟩) (λz1=>?_);fail "";refine x9 (λy1=>?_) (λy1=>?_)
    ·fail ""
     exact k.d ⟨λu=>⟨h0,.inr ⟨y1,V.str.inj u⟩⟩,λu=>u.2.elim (λv=>absurd v z1) λv=>by rw[v.2]⟩
    ·fail ""
     exact k.f λu=>u.2.elim (λv=>z1 v) λv=>y1 v.1
  ·fail ""
   rw[y6];have h0:nu=0\/st="left"\/st="thing":=.inl z;refine x9 (λz1=>k.t ⟨h0,.inl z1⟩) (λz1=>?_);fail "";refine x9 (λy1=>?_) (λy1=>?_)
   ·fail ""
    exact k.d ⟨λu=>⟨h0,.inr ⟨y1,V.str.inj u⟩⟩,λu=>u.2.elim (λv=>absurd v z1) λv=>by rw[v.2]⟩
   ·fail ""
    exact k.f λu=>u.2.elim (λv=>z1 v) λv=>y1 v.1
def a5b(n:Nat)(t:TSd):Prop:=if t.st∈b1m then t.pa=[] else ∃i j,t.he=.int i/\t.nf=.int j/\(if t.st∈a9a then t.pa=[] else (t.pa.length:Int)=(i-j) % (2*(n:Int)))/\(i-j) % (2*(n:Int))<n
def TT(H:Hp)(a:Addr)(t:TSd):Prop:=∃m p,H a=some (.tup [.str t.st,t.he.v,.ref m,t.nf.v,.int t.nu,.int t.le,.ref p])/\H m=some (.tup (t.ms.map V.int))/\H p=some (.tup (t.pa.map V.int))
theorem TT.same{H H':Hp}{a:Addr}{t:TSd}(h:TT H a t)(s:Same H H'):TT H' a t:=by
 obtain⟨m,p,e,e',e''⟩:=h;exact⟨m,p,s _ _ e,s _ _ e',s _ _ e''⟩
def b0v:Sp:=λvs H Q _=>∃(n:Nat)(t:TSd)(p:Addr),vs=[.int n,.str t.st,t.he.v,t.nf.v,.ref p]/\2<=n/\n<=8/\H p=some (.tup (t.pa.map V.int))/\a3k n t.st t.he/\a3k n t.st t.nf/\Tells (a5b n t) H Q
abbrev a8l:Stmt:=top 58
theorem b1i:j3 ["size","stage","turn","first","parts","many"] ["size","stage","turn","first","parts"] (g7 a8l):=↑1
theorem b8b(D:DefT K mg "parts_fit" a8l ["size","stage","turn","first","parts"])(T:Txt K mg cl)(G_distance:FnT P w K mg base "distance" 3 ["size","one","other"] (b2p cl)):FnT P w K mg base "parts_fit" 4 ["size","stage","turn","first","parts"] b0v:=by
 refine D.fn b1i (λvs H Q E h=>?_) ↑2
 ·obtain⟨n,t,p,rfl,_⟩:=h
  rfl
 ·obtain⟨n,t,p,rfl,n2,n8,ep,tf,tg,k⟩:=h
  refine⟨_,(d6 (v9 (g6 (a3u (K:=K)) (pv 1) (a3t T.r_COMING_UP rfl) (by with_unfolding_all rfl))
     (f8 (i5 (m9 a1k (i6 (j2 (K:=K)) (by rfl) T.z_len PySem.boot_len (d4 (pv 4) d5)) d7 (i3 _))))
     i9)
   (d6 (i7 (i:=5) b1i.nd rfl (by first|exact Or.inl rfl|exact Or.inr rfl) (j5 G_distance hr ↑5 rfl k7 (d4 (pv 0) (d4 (pv 3) (d4 (pv 2) d5)))))
   (d6 (v9 (g6 (a3u (K:=K)) (pv 1) (a3t T.r_FREEING rfl) (by with_unfolding_all rfl))
     (f8 (i5 (a1z (m9 a1k (i6 (j2 (K:=K)) (by rfl) T.z_len PySem.boot_len (d4 (pv 4) d5)) d7 (i3 _)) (a1p (m9 a2a (pv 5) (pv 0) (i3 _))))))
     i9)
   (f8 (i5 (a1z (m9 a1k (i6 (j2 (K:=K)) (by rfl) T.z_len PySem.boot_len (d4 (pv 4) d5)) (pv 5) (i3 _)) (a1p (m9 a2a (pv 5) (pv 0) (i3 _))))))))),?_⟩
  unfold a5b at k;unfold a3k at tf tg;fail "";refine c5x (xs:=b1m) T.kt_COMING_UP.sq ?_;have nil:∀l:List Int,V.int ((l.length:Nat):Int)=V.int 0 ↔ l=[]:=λl=>⟨λz=>List.length_eq_zero_iff.mp (by have:=V.int.inj z;lia),λz=>by rw[z];rfl⟩
  by_cases hc:t.st∈b1m
  ·rw[if_pos hc] at k
   rw[decide_eq_true hc];fail "";rw[List.length_map];exact k.d (nil _)
  ·rw[if_neg hc] at k tf tg
   obtain⟨i,ei,i0,i1⟩:=tf;obtain⟨j,ej,j0,j1⟩:=tg;have k:Tells ((if t.st∈a9a then t.pa=[] else (t.pa.length:Int)=(i-j) % (2*(n:Int)))/\(i-j) % (2*(n:Int))<n) H Q:=λb H' z s'=>k b H' (z.trans ⟨λq=>⟨i,j,ei,ej,q⟩,by
    rintro⟨i',j',e1,e2,q⟩;rw[ei] at e1;rw[ej] at e2;cases e1;cases e2;exact q⟩) s'
   rw[decide_eq_false hc];fail "";rw[ei,ej];refine⟨n,j,i,rfl,b8q (by lia) (by lia) j0 j1 (b8q (by lia) (by lia) i0 i1 ?_)⟩
   fail "";refine c5x (xs:=a9a) T.kt_FREEING.sq ?_;by_cases hf:t.st∈a9a
   ·rw[if_pos hf] at k
    rw[decide_eq_true hf];fail "";rw[List.length_map];refine x9 (λz=>?_) (λz=>?_)
    ·fail ""
     exact k.d ⟨λy=>⟨(nil _).mp z,y⟩,λy=>y.2⟩
    ·fail ""
     exact k.f λq=>z ((nil _).mpr q.1)
   ·rw[if_neg hf] at k
    rw[decide_eq_false hf];fail "";rw[List.length_map];refine x9 (λz=>?_) (λz=>?_)
    ·fail ""
     exact k.d ⟨λy=>⟨V.int.inj z,y⟩,λy=>y.2⟩
    ·fail ""
     exact k.f λq=>z (by rw[q.1])
structure c6o(n:Nat)(t:TSd):Prop where
 st:t.st∈tkU
 tf:a3k n t.st t.he
 nf:a3k n t.st t.nf
 mf:a2y n t.st t.ms
 rf:c4f t.st t.nu t.le
 pf:a5b n t
def a9d:Sp:=λvs H Q _=>∃(n:Nat)(a:Addr)(t:TSd),vs=[.int n,.ref a]/\2<=n/\n<=8/\TT H a t/\t.ms.length<=100000/\Tells (c6o n t) H Q
abbrev a6v:Stmt:=top 59
theorem a0r:j3 ["size","mind","stage","turn","marks","first","number","left","parts"] ["size","mind"] (g7 a6v):=↑1
theorem b6b(D:DefT K mg "taker_fits" a6v ["size","mind"])(T:Txt K mg cl)(G_turn_fits:FnT P w K mg base "turn_fits" 1 ["size","stage","turn"] a6j)(G_marks_fit:FnT P w K mg base "marks_fit" 1 ["size","stage","marks"] a6m)(G_reading_fits:FnT P w K mg base "reading_fits" 1 ["stage","number","left"] a6k)(G_parts_fit:FnT P w K mg base "parts_fit" 4 ["size","stage","turn","first","parts"] b0v):FnT P w K mg base "taker_fits" 5 ["size","mind"] a9d:=by
 refine D.fn a0r (λvs H Q E h=>?_) ↑2
 ·obtain⟨n,a,t,rfl,_⟩:=h
  rfl
 ·obtain⟨n,a,t,rfl,n2,n8,⟨m,p,ea,em,ep⟩,lz,k⟩:=h
  refine⟨_,(d6 (a3e (pv 1) (a3s (K:=K) rfl (i4 (g0 (i:=2) a0r.nd rfl (by first|exact Or.inl rfl|exact Or.inr rfl)) (i4 (g0 (i:=3) a0r.nd rfl (by first|exact Or.inl rfl|exact Or.inr rfl)) (i4 (g0 (i:=4) a0r.nd rfl (by first|exact Or.inl rfl|exact Or.inr rfl)) (i4 (g0 (i:=5) a0r.nd rfl (by first|exact Or.inl rfl|exact Or.inr rfl)) (i4 (g0 (i:=6) a0r.nd rfl (by first|exact Or.inl rfl|exact Or.inr rfl)) (i4 (g0 (i:=7) a0r.nd rfl (by first|exact Or.inl rfl|exact Or.inr rfl)) (i4 (g0 (i:=8) a0r.nd rfl (by first|exact Or.inl rfl|exact Or.inr rfl)) a2o)))))))))
   (d6 (v9 (g6 (a9p (K:=K)) (pv 2) (a3t T.r_TAKER_STAGES rfl) (by with_unfolding_all rfl))
     (f8 (i5 a2p))
     i9)
   (d6 (v9 (PW.pt (a2f (a3d (a2g (j5 G_turn_fits hr ↑5 rfl k7 (d4 (pv 0) (d4 (pv 2) (d4 (pv 3) d5)))))) (a1o (a3d (a2g (j5 G_turn_fits hr ↑5 rfl k7 (d4 (pv 0) (d4 (pv 2) (d4 (pv 5) d5)))))))))
     (f8 (i5 a2p))
     i9)
   (d6 (v9 (PW.pt (a2f (a3d (a2g (j5 G_marks_fit hr ↑5 rfl k7 (d4 (pv 0) (d4 (pv 2) (d4 (pv 4) d5)))))) (a1o (a3d (a2g (j5 G_reading_fits hr ↑5 rfl k7 (d4 (pv 2) (d4 (pv 6) (d4 (pv 7) d5)))))))))
     (f8 (i5 a2p))
     i9)
   (f8 (i5 (j5 G_parts_fit hr ↑5 rfl k7 (d4 (pv 0) (d4 (pv 2) (d4 (pv 3) (d4 (pv 5) (d4 (pv 8) d5)))))))))))),?_⟩
  fail "";refine c5r ea rfl ?_;fail "";refine c1u (xs:=tkU) T.kt_TAKER_STAGES.sq ?_;fail "";refine a0u (λz=>?_) (λz=>?_)
  ·fail ""
   exact k.f λq=>z q.st
  fail "";refine⟨n,t.st,t.he,rfl,n8,λb1 H1 e1 s1=>?_⟩;fail "";cases b1
  ·fail ""
   exact(k.on s1).f λq=>by cases e1.mpr q.tf
  fail "";refine⟨n,t.st,t.nf,rfl,n8,λb2 H2 e2 s2=>?_⟩;have s02:=s1.trans s2;fail "";cases b2
  ·fail ""
   exact(k.on s02).f λq=>by cases e2.mpr q.nf
  fail "";refine⟨n,t.st,m,t.ms,rfl,n8,s02 _ _ em,lz,λb3 H3 e3 s3=>?_⟩;have s03:=s02.trans s3;fail "";cases b3
  ·fail ""
   exact(k.on s03).f λq=>by cases e3.mpr q.mf
  fail "";refine⟨t.st,t.nu,t.le,rfl,λb4 H4 e4 s4=>?_⟩;have s04:=s03.trans s4;fail "";cases b4
  ·fail ""
   exact(k.on s04).f λq=>by cases e4.mpr q.rf
  fail "";refine⟨n,t,p,rfl,n2,n8,s04 _ _ ep,e1.mp rfl,e2.mp rfl,λb5 H5 e5 s5=>k b5 H5 ?_ (s04.trans s5)⟩;exact⟨λq=>⟨z,e1.mp rfl,e2.mp rfl,e3.mp rfl,e4.mp rfl,e5.mp q⟩,λq=>e5.mpr q.pf⟩
def d1v(n:Nat)(o:List Int):Prop:=1<=o.length/\o.length<=n
def c0q(n:Nat)(os:List (List Int)):Prop:=∀o∈os,1<=o.length/\o.length<=n
def b2l(cl:Cl):Sp:=λvs H Q E=>∃(n:Nat)(a:Addr)(o:List Int),vs=[.int n,.ref a]/\H a=some (.tup (o.map V.int))/\(d1v n o->∀p,H p=none->Q (.ref p) (upd H p (.lst (o.map V.int))))/\(¬ d1v n o->E (.ref cl.BadOrder) none H)
abbrev b0g:Stmt:=top 41
theorem b9o:j3 ["size","order"] ["size","order"] (g7 b0g):=↑1
theorem b9x(D:DefT K mg "order_of" b0g ["size","order"])(T:Txt K mg cl):FnT P w K mg base "order_of" 1 ["size","order"] (b2l cl):=by
 refine D.fn b9o (λvs H Q E h=>?_) (λf cdv A' outer s H vs Q E hr h=>?_)
 ·obtain⟨n,a,o,rfl,_⟩:=h
  rfl
 ·obtain⟨n,a,o,rfl,ea,k,kb⟩:=h
  refine⟨_,(d6 (v9 (PW.pt (a2f (g6 a2a (i6 (j2 (K:=K)) (by rfl) T.z_len PySem.boot_len (d4 (pv 1) d5)) d7 (i3 _)) (a1o (g6 b1q (i6 (j2 (K:=K)) (by rfl) T.z_len PySem.boot_len (d4 (pv 1) d5)) (pv 0) (i3 _)))))
     (f8 (a0o T.c_BadOrder rfl rfl a3r (d4 f9 d5)))
     i9)
   (f8 (i5 (m6 (a2s (K:=K)) (by rfl) T.z_list PyProof.Rows.boot_list (d4 (pv 1) d5))))),?_⟩
  fail "";rw[List.length_map];refine x9 (λy=>?_) (λy1=>?_)
  ·fail ""
   exact⟨p9,kb (λz=>by have:=z.1;lia)⟩
  fail "";rw[List.length_map];refine x9 (λy=>?_) (λy2=>?_)
  ·fail ""
   exact⟨p9,kb (λz=>by have:=z.2;lia)⟩
  fail "";exact k ⟨by lia,by lia⟩
def b0x(cl:Cl):Sp:=λvs H Q E=>∃(n:Nat)(a:Addr)(os:List (List Int)),vs=[.int n,.ref a]/\TTs H a os/\os.length<=200000/\(c0q n os->∀p H',Same H H'->Q (.ref p) H')/\(¬ c0q n os->∀H',Same H H'->E (.ref cl.BadOrder) none H')
abbrev a8n:Stmt:=top 42
theorem b7h:j3 ["size","orders"] ["size","orders"] (g7 a8n):=↑1
theorem b8d(D:DefT K mg "orders_of" a8n ["size","orders"])(T:Txt K mg cl)(G_order_of:FnT P w K mg base "order_of" 1 ["size","order"] (b2l cl)):FnT P w K mg base "orders_of" 2 ["size","orders"] (b0x cl):=by
 refine D.fn b7h (λvs H Q E h=>?_) (λf cdv A' outer s H vs Q E hr h=>?_)
 ·obtain⟨n,a,os,rfl,_⟩:=h
  rfl
 ·obtain⟨n,a,os,rfl,⟨ps,ea,hl,hr'⟩,hz,k,kb⟩:=h
  refine⟨_,(f8 (i5 (b5v rfl (N:=["order","size"]) (nt:=1) (fr:=[0]) rfl (a5y (i:=0) rfl rfl (by decide +kernel) (by decide +kernel) rfl rfl rfl rfl rfl rfl rfl) (a2n (K:=K) (pv 1)) (y9 ↑5) (λ_ _ _ _ _=>g0 (i:=0) (show(["order","size"]:List Str).Nodup by decide +kernel) rfl (Or.inl rfl) (Or.inr rfl)) (λ_ _ _ _ _=>(j5 G_order_of hr ↑5 rfl d0p (d4 (pv 1) (d4 (pv 0) d5))))))),?_⟩
  have lm:=a0l;fail "";refine a5d (SqT.of ea) ?_;refine a3y (xs:=ps.map V.ref) (by rw[List.length_map];lia) (λD i acc H'=>H' D=some (.lst acc)/\Same H H'/\acc.length=i/\i<=os.length/\∀o∈os.take i,d1v n o) (λD hD=>⟨d8,d9 hD,rfl,Nat.zero_le _,by simp⟩) (λD i acc H' p=>⟨p.1,p.2.2.1,SqT.of (p.2.1 _ _ ea)⟩) ?_ ?_
  ·rintro D i x acc H' hD hx ⟨e,s',la,li,g⟩
   obtain⟨q,hq,rfl⟩:=a4c hx;have hi:i<os.length:=by rw[<- hl];exact(List.getElem?_eq_some_iff.mp hq).1
   have hoi:=List.getElem?_eq_getElem hi;have eq:=s' _ _ (hr' i q _ hq hoi);fail "";refine⟨n,q,_,rfl,eq,λhg p hp=>?_,λhb=>kb (λz=>hb (z _ (List.getElem_mem hi))) _ s'⟩;refine⟨d9 hp _ _ e,d8,((s'.trans (d9 hp)).set hD),by rw[List.length_append,la];rfl,hi,?_⟩
   intro o ho;rw[List.take_add_one,hoi] at ho;rcases List.mem_append.mp ho with ho|ho
   ·exact g o ho
   ·have:o=os[i]:=by simpa using ho
    rw[this];exact hg
  ·rintro D acc H' hD ⟨e,s',la,li,g⟩
   rw[List.length_map,hl,List.take_length] at g;exact k (λo ho=>g o ho) D H' s'
structure Sd where
 n:Nat
 c:List Int
 g:GSd
 t:TSd
 os:List (List Int)
 bk:List (List Int)
structure b0a(x:Sd):Prop where
 c:GoodRow x.n x.c
 g:c6p x.n x.os x.g
 t:c6o x.n x.t
 os:c0q x.n x.os
 bk:c0q x.n x.bk
def ST(H:Hp)(a:Addr)(x:Sd):Prop:=∃c g t o b,H a=some (.tup [.ref c,.ref g,.ref t,.ref o,.ref b])/\H c=some (.tup (x.c.map V.int))/\GT H g x.g/\TT H t x.t/\TTs H o x.os/\TTs H b x.bk
theorem ST.same{H H':Hp}{a:Addr}{x:Sd}(h:ST H a x)(s:Same H H'):ST H' a x:=by
 obtain⟨c,g,t,o,b,e,e1,e2,e3,e4,e5⟩:=h;exact⟨c,g,t,o,b,s _ _ e,s _ _ e1,e2.same s,e3.same s,e4.same s,e5.same s⟩
def d7o(row:List Int)(os bk:List (List Int))(n:Nat):Prop:=GoodRow n row/\c0q n os/\c0q n bk
def a5z(cl:Cl):Sp:=λvs H Q E=>∃(c o b:Addr)(row:List Int)(os bk:List (List Int)),vs=[.ref c,.ref o,.ref b]/\H c=some (.tup (row.map V.int))/\TTs H o os/\TTs H b bk/\os.length<=200000/\bk.length<=200000/\(∀n,d7o row os bk n->∀H',Same H H'->Q (.int n) H')/\((¬ ∃n,d7o row os bk n)->∀H',Same H H'->E (.ref cl.BadStand) (some 0) H')
abbrev a3n:Stmt:=top 52
theorem a6d:j3 ["cells","orders","book","size"] ["cells","orders","book"] (g7 a3n):=↑1
theorem b1r(D:DefT K mg "size_of_stand" a3n ["cells","orders","book"])(T:Txt K mg cl)(xc:exmAny K (.ref cl.BadCells) [.ref cl.BadCells,.ref cl.BadOrder]=some true)(xo:exmAny K (.ref cl.BadOrder) [.ref cl.BadCells,.ref cl.BadOrder]=some true)(G_size_of_cells:FnT P w K mg base "size_of_cells" 5 ["cells"] (a6a cl))(G_orders_of:FnT P w K mg base "orders_of" 2 ["size","orders"] (b0x cl)):FnT P w K mg base "size_of_stand" 6 ["cells","orders","book"] (a5z cl):=by
 refine D.fn a6d (λvs H Q E h=>?_) ↑2
 ·obtain⟨c,o,b,row,os,bk,rfl,_⟩:=h
  rfl
 ·obtain⟨c,o,b,row,os,bk,rfl,ec,to,tb,lo,lb,k,kb⟩:=h
  refine'⟨_,(d6 (c7g rfl rfl rfl rfl rfl T.c_BadCells.m T.c_BadOrder.m T.c_BadStand.m T.c_BadStand.k.ex ?tb)
   (f8 (i5 (pv 3)))),?rd⟩
  case tb=>exact λ_ _ _ hx=>(d6 (i7 (i:=3) a6d.nd rfl (by first|exact Or.inl rfl|exact Or.inr rfl) (c1d G_size_of_cells hr ↑5 rfl hx (d4 (pv 0) d5)))
     (d6 (a1q (c1d G_orders_of hr ↑5 rfl hx (d4 (pv 3) (d4 (pv 1) d5))))
     (f8 (a1q (c1d G_orders_of hr ↑5 rfl hx (d4 (pv 3) (d4 (pv 2) d5)))))))
  case rd=>
   fail "";refine d1f ?_;fail "";refine⟨c,row,rfl,ec,?_⟩;by_cases gr:∃n,GoodRow n row
   ·obtain⟨n,gr⟩:=gr
    refine .inl ⟨n,gr,λH1 s1=>?_⟩;fail "";refine⟨n,o,os,rfl,to.same s1,lo,λg1 p2 H2 s2=>?_,λg1 H2 s2=>⟨rfl,xo,kb (λz=>?_) _ (s1.trans s2)⟩⟩
    ·fail ""
     refine⟨n,b,bk,rfl,(tb.same s1).same s2,lb,λg2 p3 H3 s3=>?_,λg2 H3 s3=>⟨rfl,xo,kb (λz=>?_) _ ((s1.trans s2).trans s3)⟩⟩
     ·fail ""
      exact k n ⟨gr,g1,g2⟩ _ ((s1.trans s2).trans s3)
     ·obtain⟨m,z⟩:=z
      have:=z.1.one gr.len;subst this;exact g2 z.2.2
    ·obtain⟨m,z⟩:=z
     have:=z.1.one gr.len;subst this;exact g1 z.2.1
   ·exact .inr ⟨gr,λH1 s1=>⟨rfl,xc,kb (λz=>gr (z.imp λ_ q=>q.1)) _ s1⟩⟩
def a4n(cl:Cl):Sp:=λvs H Q E=>∃(a:Addr)(x:Sd),vs=[.ref a]/\ST H a x/\x.n=x.c.length / 4-1/\x.os.length<=200000/\x.bk.length<=200000/\x.g.ms.length<=100000/\x.t.ms.length<=100000/\(b0a x->∀H',Same H H'->Q .non H')/\(¬ b0a x->∀o H',Same H H'->E (.ref cl.BadStand) o H')
abbrev a5u:Stmt:=top 60
theorem a0v:j3 ["stand","cells","giver","taker","orders","book","size"] ["stand"] (g7 a5u):=↑1
theorem b4q(D:DefT K mg "check_stand" a5u ["stand"])(T:Txt K mg cl)(G_size_of_stand:FnT P w K mg base "size_of_stand" 6 ["cells","orders","book"] (a5z cl))(G_giver_fits:FnT P w K mg base "giver_fits" 2 ["size","mind","orders"] a9i)(G_taker_fits:FnT P w K mg base "taker_fits" 5 ["size","mind"] a9d):FnT P w K mg base "check_stand" 7 ["stand"] (a4n cl):=by
 refine D.fn a0v (λvs H Q E h=>?_) ↑2
 ·obtain⟨a,x,rfl,_⟩:=h
  rfl
 ·obtain⟨a,x,rfl,⟨c,g,t,o,b,ea,ec,eg,et,eo,eb⟩,en,lo,lb,lg,lt,k,kb⟩:=h
  refine⟨_,(d6 (a3e (pv 0) (a3s (K:=K) rfl (i4 (g0 (i:=1) a0v.nd rfl (by first|exact Or.inl rfl|exact Or.inr rfl)) (i4 (g0 (i:=2) a0v.nd rfl (by first|exact Or.inl rfl|exact Or.inr rfl)) (i4 (g0 (i:=3) a0v.nd rfl (by first|exact Or.inl rfl|exact Or.inr rfl)) (i4 (g0 (i:=4) a0v.nd rfl (by first|exact Or.inl rfl|exact Or.inr rfl)) (i4 (g0 (i:=5) a0v.nd rfl (by first|exact Or.inl rfl|exact Or.inr rfl)) a2o)))))))
   (d6 (i7 (i:=6) a0v.nd rfl (by first|exact Or.inl rfl|exact Or.inr rfl) (j5 G_size_of_stand hr ↑5 rfl k7 (d4 (pv 1) (d4 (pv 4) (d4 (pv 5) d5)))))
   (d6 (v9 (a3d (a2g (j5 G_giver_fits hr ↑5 rfl k7 (d4 (pv 6) (d4 (pv 2) (d4 (pv 4) d5))))))
     (f8 (a0o T.c_BadStand rfl rfl a3r (d4 f9 d5)))
     i9)
   (f8 (v9 (a3d (a2g (j5 G_taker_fits hr ↑5 rfl k7 (d4 (pv 6) (d4 (pv 3) d5)))))
    (f8 (a0o T.c_BadStand rfl rfl a3r (d4 f9 d5)))
    i9))))),?_⟩
  fail "";refine b3u ea rfl ?_;fail "";refine⟨c,o,b,x.c,x.os,x.bk,rfl,ec,eo,eb,lo,lb,λn st H1 s1=>?_,λns H1 s1=>kb (λz=>ns ⟨x.n,z.c,z.os,z.bk⟩) _ _ s1⟩;have e:n=x.n:=by
   have:=st.1.len;lia
  subst e;fail "";refine⟨x.n,g,o,x.g,x.os,rfl,st.1.n8,eg.same s1,eo.same s1,lg,λb1 H2 e1 s2=>?_⟩;fail "";cases b1
  ·fail ""
   exact⟨p9,kb (λz=>by cases e1.mpr z.g) _ _ (s1.trans s2)⟩
  fail "";refine⟨x.n,t,x.t,rfl,st.1.n2,st.1.n8,(et.same s1).same s2,lt,λb2 H3 e2 s3=>?_⟩;fail "";cases b2
  ·fail ""
   exact⟨p9,kb (λz=>by cases e2.mpr z.t) _ _ ((s1.trans s2).trans s3)⟩
  fail "";exact k ⟨st.1,e1.mp rfl,e2.mp rfl,st.2.1,st.2.2⟩ _ ((s1.trans s2).trans s3)
theorem c5z(c:Nat):(!(Builtin.Str.occurrences ("0123456789":Str) ⟨#[c]⟩ 0 ("0123456789":Str).length 1).isEmpty)=decide (48<=c/\c<=57):=by
 rw[StrLaws.found_one,show(("0123456789":Str).cps.toList)=[48,49,50,51,52,53,54,55,56,57] from rfl,Bool.eq_iff_iff,decide_eq_true_eq,decide_eq_true_eq];simp only[List.mem_cons,List.not_mem_nil,or_false];constructor
 ·intro h
  rcases h with rfl|rfl|rfl|rfl|rfl|rfl|rfl|rfl|rfl|rfl <;> decide
 ·rintro⟨a,b⟩
  lia
theorem c0w(x:Str)(y:Str)(c:Nat)(h:y=⟨#[c]⟩):Txt.startswith x y=decide (x.cps.toList.head?=some c):=by rw[h,c2s]
def SgP(H:Hp)(f:Str)(D:Addr)(i:Nat)(acc:List V)(H':Hp):Prop:=H'=upd H D (.lst acc)/\acc=(((f.cps.toList.take i).map λc=>decide (48<=c/\c<=57)).map V.bl)/\i<=f.cps.toList.length
theorem SgP.len{H H':Hp}{f:Str}{D:Addr}{i:Nat}{acc:List V}(h:SgP H f D i acc H'):H' D=some (.lst acc)/\acc.length=i:=by
 obtain⟨rfl,rfl,l⟩:=h;refine⟨d8,?_⟩;rw[List.length_map,List.length_map,List.length_take];lia
theorem SgP.step{H H':Hp}{f:Str}{D:Addr}{i:Nat}{x:V}{acc:List V}(h:SgP H f D i acc H')(hx:(b1g f)[i]?=some x):∃c,x=.str ⟨#[c]⟩/\H' D=some (.lst acc)/\SgP H f D (i+1) (acc++[.bl (decide (48<=c/\c<=57))]) (upd H' D (.lst (acc++[.bl (decide (48<=c/\c<=57))]))):=by
 obtain⟨rfl,rfl,l⟩:=h;unfold b1g at hx;rw[List.getElem?_map] at hx;have hi:i<f.cps.toList.length:=by
  by_cases z:i<f.cps.toList.length
  ·exact z
  ·rw[List.getElem?_eq_none (by lia)] at hx;cases hx
 rw[List.getElem?_eq_getElem hi] at hx;cases hx;refine⟨_,rfl,d8,b9l,?_,hi⟩;rw[List.take_add_one,List.getElem?_eq_getElem hi,List.map_append,List.map_append]
 rfl
theorem c2m(l:List Nat):((l.map λc=>decide (48<=c/\c<=57)).all id)=true ↔ ∀c∈l,48<=c/\c<=57:=by
 rw[List.all_map,List.all_eq_true];constructor
 ·intro h c hc
  have:=h c hc;exact of_decide_eq_true this
 ·intro h c hc
  exact decide_eq_true (h c hc)
def b1d:Sp:=λvs H Q _=>∃x:Str,vs=[.str x]/\x.length<1000000/\∀(b:Bool)(H':Hp),(b=true ↔ a2h x)->Same H H'->Q (.bl b) H'
abbrev a8v:Stmt:=top 67
theorem b1j:j3 ["word","figures"] ["word"] (g7 a8v):=↑1
theorem b8l(D:DefT K mg "is_number" a8v ["word"])(T:Txt K mg cl):FnT P w K mg base "is_number" 1 ["word"] b1d:=by
 refine D.fn b1j (λvs H Q E h=>?_) ↑2
 ·obtain⟨x,rfl,_⟩:=h
  rfl
 ·obtain⟨x,rfl,hl,k⟩:=h
  refine⟨_,(d6 (i7 (i:=1) b1j.nd rfl (by first|exact Or.inl rfl|exact Or.inr rfl) (a5w (a2g (b4s (K:=K) (pv 0) (d4 f9 d5))) (z8 b1f (pv 0) (a0e d7) a0p) (pv 0)))
   (d6 (v9 (PW.pt (a2f (g6 a2a (i6 a1l (by rfl) T.z_len PySem.boot_len (d4 (pv 1) d5)) d7 (i3 _)) (a1o (g6 b1q (i6 a1l (by rfl) T.z_len PySem.boot_len (d4 (pv 1) d5)) (a0w T.m_MOST_FIGURES rfl) (i3 _)))))
     (f8 (i5 a2p))
     i9)
   (d6 (v9 (a2g (b4s (K:=K) (pv 1) (d4 f9 d5)))
     (f8 (i5 (m9 a1k (pv 0) f9 (i3 _))))
     i9)
   (f8 (i5 (i6 (b3y (K:=K) rfl) (by rfl) T.z_all PyProof.Rows.boot_all (d4 (a1j (N:=["sign"]) (nt:=1) (fr:=[]) rfl (a0b rfl rfl (by decide +kernel) (by decide +kernel) rfl rfl) (c9b (pv 1)) (y9 ↑5) (λ_ _ _ _ _=>g0 (i:=0) (show(["sign"]:List Str).Nodup by decide +kernel) rfl (Or.inl rfl) (Or.inr rfl)) (λ_ _ _ _ _=>(m9 b7v (pv 0) (b3a T.m_FIGURES rfl) (by with_unfolding_all rfl)))) d5))))))),?_⟩
  have lm:=a0l;have k:=λb H' z=>k b H' (Iff.trans z (c1k x).symm);refine a5l (M:=λσ' H'=>∃f:Str,σ'=[some (.str x),some (.str f)]/\H'=H/\f.cps.toList=a6f x) ?_ ?_
  rotate_left
  ·intro R hR
   fail "";rw[c0w x ("-":Str) 45 rfl];refine x9 (λc=>?_) (λc=>?_)
   ·fail ""
    have l1:1<=x.length:=by
     rw[y7];cases e:x.cps.toList with
     | nil=>rw[e] at c;cases c
     | cons a r=>rw[List.length_cons];lia
    have e:=b2d x 1 l1;have l2:(b0q x (some 1) none).length<=sizeLine:=by
     rw[y7];refine Nat.le_trans (Nat.le_of_eq (congrArg List.length e)) ?_;rw[List.length_drop,<- y7];lia
    refine⟨_,rfl,?_⟩;fail "";refine b1l l2 ?_;fail "";refine hR _ _ ⟨_,rfl,rfl,?_⟩;refine e.trans ?_;unfold a6f;rw[if_pos c,List.drop_one]
   ·fail ""
    refine hR _ _ ⟨_,rfl,rfl,?_⟩;unfold a6f;rw[if_neg c]
  rintro σ' H' ⟨f,rfl,rfl,ef⟩;have fl:f.length=(a6f x).length:=by rw[y7,ef]
  have fx:(a6f x).length<=x.length:=by
   unfold a6f;rw[y7];split
   ·rw[List.length_tail];lia
   ·exact Nat.le_refl _
  fail "";refine⟨f,rfl,by lia,?_⟩
  fail "";refine x9 (λc=>?_) (λc1=>?_)
  ·fail ""
   refine k _ _ ?_ (Same.refl _);constructor
   ·intro z;cases z
   ·intro z;exact absurd z.1 (by lia)
  fail "";refine⟨f,rfl,by lia,?_⟩
  fail "";refine x9 (λc=>?_) (λc2=>?_)
  ·fail ""
   refine k _ _ ?_ (Same.refl _);constructor
   ·intro z;cases z
   ·intro z;exact absurd z.2.1 (by lia)
  fail "";rw[c0w f ("0":Str) 48 rfl,ef];refine x9 (λc=>?_) (λc=>?_)
  ·fail ""
   refine k _ _ ?_ (Same.refl _);rw[if_pos c,decide_eq_true_eq];constructor
   ·intro z
    cases z;exact⟨by lia,by lia,rfl⟩
   ·intro z
    exact congrArg V.str (a2i z.2.2)
  fail "";refine⟨f,rfl,?_⟩;refine b8z (by rw[a3h];have:f.cps.size=f.length:=rfl;lia) (SgP H' f) (λD hD=>⟨rfl,rfl,Nat.zero_le _⟩) (λD i acc H' p=>p.len) ?_ ?_
  ·intro D i v acc H' hD hx p
   obtain⟨c,rfl,e,p'⟩:=p.step hx;fail "";refine⟨_,_,rfl,rfl,?_⟩;rw[c5z];exact⟨e,p'⟩
  ·rintro D acc H' hD ⟨rfl,rfl,l⟩
   fail "";refine⟨D,_,rfl,SqL.of d8,?_⟩;refine k _ _ ?_ (d9 hD);rw[a3h,List.take_of_length_le (Nat.le_of_eq Array.length_toList),c2m,ef,if_neg c];exact⟨λz=>⟨by lia,by lia,z⟩,λz=>z.2.2⟩
def a1s(cl:Cl):Sp:=λvs H Q E=>∃x:Str,vs=[.str x]/\x.length<1000000/\(a2h x->∀H',Same H H'->Q (.int (rd x)) H')/\(¬ a2h x->∀H',Same H H'->E (.ref cl.NoText) none H')
abbrev a5p:Stmt:=top 68
theorem b4e:j3 ["word"] ["word"] (g7 a5p):=↑1
theorem b4l(D:DefT K mg "number_read" a5p ["word"])(T:Txt K mg cl)(G_is_number:FnT P w K mg base "is_number" 1 ["word"] b1d):FnT P w K mg base "number_read" 2 ["word"] (a1s cl):=by
 refine D.fn b4e (λvs H Q E h=>?_) ↑2
 ·obtain⟨x,rfl,_⟩:=h
  rfl
 ·obtain⟨x,rfl,hl,k,kb⟩:=h
  refine⟨_,(d6 (v9 (a3d (a2g (j5 G_is_number hr ↑5 rfl k7 (d4 (pv 0) d5))))
     (f8 (a0o T.c_NoText rfl rfl a3r (d4 f9 d5)))
     i9)
   (f8 (i5 (m6 b9e (by rfl) T.z_int PyProof.Rows.boot_int (d4 (pv 0) d5))))),?_⟩
  fail "";refine⟨x,rfl,hl,λb H' hb s'=>?_⟩;fail "";cases b
  ·fail ""
   exact⟨p9,kb (λz=>by cases hb.mpr z) _ s'⟩
  ·have nw:=hb.mp rfl
   obtain⟨_,_,e,l⟩:=b5r nw;fail "";exact⟨x,_,rfl,e,by lia,k nw _ s'⟩
def a3l(cl:Cl):Sp:=λvs H Q E=>∃(a:Addr)(ss:List Str),vs=[.ref a]/\H a=some (.lst (ss.map V.str))/\wt ss<=1000000/\((∀x∈ss,a2h x)->∀p H',H p=none->Same H H'->H' p=some (.tup ((ss.map rd).map V.int))->Q (.ref p) H')/\(¬ (∀x∈ss,a2h x)->∀H',Same H H'->E (.ref cl.NoText) none H')
abbrev a4q:Stmt:=top 69
theorem b2s:j3 ["words"] ["words"] (g7 a4q):=↑1
theorem b3h(D:DefT K mg "numbers_read" a4q ["words"])(T:Txt K mg cl)(G_number_read:FnT P w K mg base "number_read" 2 ["word"] (a1s cl)):FnT P w K mg base "numbers_read" 3 ["words"] (a3l cl):=by
 refine D.fn b2s (λvs H Q E h=>?_) ↑2
 ·obtain⟨a,ss,rfl,_⟩:=h
  rfl
 ·obtain⟨a,ss,rfl,ea,hw,k,kb⟩:=h
  refine⟨_,(f8 (i5 (m6 (a1w (K:=K)) (by rfl) T.z_tuple PyProof.Rows.boot_tuple (d4 (b5v rfl (N:=["word"]) (nt:=1) (fr:=[]) rfl (a0b rfl rfl (by decide +kernel) (by decide +kernel) rfl rfl) (a1y (K:=K) (pv 0)) (y9 ↑5) (λ_ _ _ _ _=>g0 (i:=0) (show(["word"]:List Str).Nodup by decide +kernel) rfl (Or.inl rfl) (Or.inr rfl)) (λ_ _ _ _ _=>(j5 G_number_read hr ↑5 rfl d0p (d4 (pv 0) d5)))) d5)))),?_⟩
  have lm:1000001<=sizeLine:=by decide
  have hl:=b0t ss;fail "";refine a1d (xs:=ss.map V.str) (by rw[List.length_map];lia) (MpP H ss (λx=>V.int (rd x)) a2h) (λD hD=>MpP.new hD) (λD i acc H' p=>⟨p.len.1,p.len.2,SqL.of (p.2.1 _ _ ea)⟩) ?_ ?_
  ·intro D i x acc H' hD hx hp
   obtain⟨y,hy,rfl⟩:=a4c hx;have my:y∈ss:=List.mem_of_getElem? hy;have:=wt_mem my;fail "";exact⟨y,rfl,by lia,λnw H3 s3=>hp.step hD hy nw rfl s3,λnb H3 s3=>kb (λz=>nb (z y my)) _ (Same.trans hp.2.1 s3)⟩
  ·intro D acc H' hD hp
   obtain⟨e,s',g⟩:=hp.done (List.length_map _);rw[hp.len.1] at e;have e:=HO.lst.inj (Option.some.inj e);subst e;have e1:=hp.len.1;fail "";intro p hpn;refine k g p _ (Same.free s' hpn) (Same.trans s' (d9 hpn)) ?_;rw[d8,List.map_map]
   rfl
theorem a2c{n:Int}(h:n.natAbs<10 ^ 60):n.natAbs.log2<1920:=by
 by_cases z:n.natAbs=0
 ·rw[z];decide
 ·exact(Nat.log2_lt z).mpr (Nat.lt_of_lt_of_le h (Nat.le_trans (show 10 ^ 60<=2 ^ 200 by decide) (Nat.pow_le_pow_right ↑5 ↑5)))
def b4r(ns:List Int):Prop:=∀n∈ns,n.natAbs<10 ^ 60
def a6l:Sp:=λvs H Q _=>∃(a:Addr)(ns:List Int),vs=[.ref a]/\H a=some (.tup (ns.map V.int))/\ns.length<=1000/\b4r ns/\∀H',Same H H'->Q (.str (b6v ns)) H'
abbrev a4p:Stmt:=top 70
theorem b2r:j3 ["numbers"] ["numbers"] (g7 a4p):=↑1
theorem b3g(D:DefT K mg "numbers_text" a4p ["numbers"])(T:Txt K mg cl):FnT P w K mg base "numbers_text" 1 ["numbers"] a6l:=by
 refine D.fn b2r (λvs H Q E h=>?_) ↑2
 ·obtain⟨a,ns,rfl,_⟩:=h
  rfl
 ·obtain⟨a,ns,rfl,ea,hl,hs,k⟩:=h
  refine⟨_,(f8 (i5 (a1f (K:=K) f9 (d4 (a1j (N:=["number"]) (nt:=1) (fr:=[]) rfl (a0b rfl rfl (by decide +kernel) (by decide +kernel) rfl rfl) (a2n (K:=K) (pv 0)) (y9 ↑5) (λ_ _ _ _ _=>g0 (i:=0) (show(["number"]:List Str).Nodup by decide +kernel) rfl (Or.inl rfl) (Or.inr rfl)) (λ_ _ _ _ _=>(m6 a4k (by rfl) T.z_str PyProof.Rows.boot_str (d4 (pv 0) d5)))) d5)))),?_⟩
  have lm:=a0l;fail "";refine a5d (SqT.of ea) ?_;refine a3y (xs:=ns.map V.int) (by rw[List.length_map];lia) (MpP H ns (λx=>V.str (a2q x)) (λ_=>True)) (λD hD=>MpP.new hD) (λD i acc H' p=>⟨p.len.1,p.len.2,SqT.of (p.2.1 _ _ ea)⟩) ?_ ?_
  ·intro D i x acc H' hD hx hp
   obtain⟨y,hy,rfl⟩:=a4c hx;fail "";exact⟨y,rfl,a2c (hs y (List.mem_of_getElem? hy)),hp.step hD hy trivial rfl (Same.refl _)⟩
  ·intro D acc H' hD hp
   obtain⟨e,s',_⟩:=hp.done (List.length_map _);fail "";have w1:=b0b hs;refine a3b t9 (ss:=ns.map a2q) (e.trans (by rw[List.map_map];rfl)) (by lia) ?_
   exact k _ s'
def a4l:Hr->Str|.non=>"none"|.int i=>a2q i
def c6n:Hr->Prop|.non=>True|.int i=>i.natAbs<10 ^ 60
def b0u:Sp:=λvs H Q _=>∃he:Hr,vs=[he.v]/\c6n he/\Q (.str (a4l he)) H
abbrev a8h:Stmt:=top 71
theorem b7d:j3 ["turn"] ["turn"] (g7 a8h):=↑1
theorem b7x(D:DefT K mg "turn_text" a8h ["turn"])(T:Txt K mg cl):FnT P w K mg base "turn_text" 1 ["turn"] b0u:=by
 refine D.fn b7d (λvs H Q E h=>?_) ↑2
 ·obtain⟨he,rfl,_⟩:=h
  rfl
 ·obtain⟨he,rfl,ht,k⟩:=h
  refine⟨_,(f8 (i5 (a5w (g6 b4v (pv 0) a1i (i3 _)) (b3a T.m_NO_TURN_WORD rfl) (m6 a4k (by rfl) T.z_str PyProof.Rows.boot_str (d4 (pv 0) d5))))),?_⟩
  fail "";cases he with
  | non=>
   refine⟨rfl,true,rfl,?_⟩;fail "";exact k
  | int i=>
   refine⟨rfl,false,rfl,?_⟩;fail "";exact⟨i,rfl,a2c ht,k⟩
def a4v(x:Str):Prop:=x="none"\/a2h x
open Classical in
noncomputable def turnR(x:Str):Hr:=if x="none" then .non else .int (rd x)
def a6i(cl:Cl):Sp:=λvs H Q E=>∃x:Str,vs=[.str x]/\x.length<1000000/\(a4v x->∀H',Same H H'->Q (turnR x).v H')/\(¬ a4v x->∀H',Same H H'->E (.ref cl.NoText) none H')
abbrev a8i:Stmt:=top 72
theorem b7e:j3 ["word"] ["word"] (g7 a8i):=↑1
theorem b7y(D:DefT K mg "turn_read" a8i ["word"])(T:Txt K mg cl)(G_number_read:FnT P w K mg base "number_read" 2 ["word"] (a1s cl)):FnT P w K mg base "turn_read" 3 ["word"] (a6i cl):=by
 refine D.fn b7e (λvs H Q E h=>?_) ↑2
 ·obtain⟨x,rfl,_⟩:=h
  rfl
 ·obtain⟨x,rfl,hl,k,kb⟩:=h
  refine⟨_,(f8 (i5 (a5w (g6 a1k (pv 0) (b3a T.m_NO_TURN_WORD rfl) (i3 _)) a1i (j5 G_number_read hr ↑5 rfl k7 (d4 (pv 0) d5))))),?_⟩;fail "";rw[a1r];refine x9 (λz=>?_) (λz=>?_)
  ·fail ""
   have:=k (.inl z) H (Same.refl H);rw[show turnR x=.non by unfold turnR;rw[if_pos z]] at this
   exact this
  ·fail ""
   have et:turnR x=.int (rd x):=by unfold turnR;rw[if_neg z]
   rw[et] at k;exact⟨x,rfl,hl,λnw H' s'=>k (.inr nw) H' s',λnw H' s'=>kb (λy=>y.elim z nw) H' s'⟩
end
section
variable{P:Program}{w:World}{K:Frag}{mg:Str->Option Value}{base:Heap}{cl:Cl}
open Classical in
noncomputable def ordT(os:List (List Int)):Str:=if os=[] then "-" else Txt.join "; " (os.map b6v)
def a7r(os:List (List Int)):Prop:=os.length<=300/\∀o∈os,o.length<=8/\b4r o
theorem d0f{o:List Int}(h:o.length<=8/\b4r o):(b6v o).length<=500:=by
 have:=a3a t9 (o.map a2q);have:=b0b h.2;show(Txt.join " " (o.map a2q)).length<=_;lia
theorem c1h{os:List (List Int)}(h:a7r os):wt (os.map b6v)<=501*os.length:=by
 have h2:=h.2;clear h
 induction os with
 | nil=>exact Nat.le_refl _
 | cons x r ih=>
  rw[List.map_cons,y0,List.length_cons];have:=ih λo ho=>h2 o (List.mem_cons_of_mem _ ho);have:=d0f (h2 x List.mem_cons_self);lia
def a2u:Sp:=λvs H Q _=>∃(a:Addr)(os:List (List Int)),vs=[.ref a]/\TTs H a os/\a7r os/\∀H',Same H H'->Q (.str (ordT os)) H'
abbrev a5n:Stmt:=top 73
theorem b4c:j3 ["orders"] ["orders"] (g7 a5n):=↑1
theorem b4j(D:DefT K mg "orders_text" a5n ["orders"])(T:Txt K mg cl)(G_numbers_text:FnT P w K mg base "numbers_text" 1 ["numbers"] a6l):FnT P w K mg base "orders_text" 2 ["orders"] a2u:=by
 refine D.fn b4c (λvs H Q E h=>?_) ↑2
 ·obtain⟨a,os,rfl,_⟩:=h
  rfl
 ·obtain⟨a,os,rfl,⟨ps,ea,hl,ep⟩,ht,k⟩:=h
  refine⟨_,(d6 (v9 (g6 a1k (i6 (j2 (K:=K)) (by rfl) T.z_len PySem.boot_len (d4 (pv 0) d5)) d7 (i3 _))
     (f8 (i5 (b3a T.m_NO_ORDERS_WORD rfl)))
     i9)
   (f8 (i5 (a1f (K:=K) f9 (d4 (a1j (N:=["order"]) (nt:=1) (fr:=[]) rfl (a0b rfl rfl (by decide +kernel) (by decide +kernel) rfl rfl) (a2n (K:=K) (pv 0)) (y9 ↑5) (λ_ _ _ _ _=>g0 (i:=0) (show(["order"]:List Str).Nodup by decide +kernel) rfl (Or.inl rfl) (Or.inr rfl)) (λ_ _ _ _ _=>(j5 G_numbers_text hr ↑5 rfl b4i (d4 (pv 0) d5)))) d5))))),?_⟩
  have lm:=a0l;have ht1:=ht.1;fail "";rw[List.length_map,hl];refine x9 (λz=>?_) (λz=>?_)
  ·fail ""
   have e:os=[]:=List.length_eq_zero_iff.mp (by have:=V.int.inj z;lia)
   have:=k H (Same.refl H);unfold ordT at this;rw[if_pos e] at this;exact this
  ·have ne:os≠[]:=λq=>z (by rw[q];rfl)
   fail "";refine a5d (SqT.of ea) ?_;refine a3y (xs:=ps.map V.ref) (by rw[List.length_map];lia) (MpP H os (λo=>V.str (b6v o)) (λ_=>True)) (λD hD=>MpP.new hD) (λD i acc H' p=>⟨p.len.1,p.len.2,SqT.of (p.2.1 _ _ ea)⟩) ?_ ?_
   ·intro D i x acc H' hD hx hp
    obtain⟨q,hq,rfl⟩:=a4c hx;have hi:i<os.length:=by rw[<- hl];exact(List.getElem?_eq_some_iff.mp hq).1
    have hoi:=List.getElem?_eq_getElem hi;have go:=ht.2 _ (List.getElem_mem hi);fail "";exact⟨q,_,rfl,hp.2.1 _ _ (ep i q _ hq hoi),by lia,go.2,λH3 s3=>hp.step hD hoi trivial rfl s3⟩
   ·intro D acc H' hD hp
    obtain⟨e,s',_⟩:=hp.done (by rw[List.length_map];exact hl)
    fail "";have w1:=c1h ht;refine c5w a2t (ss:=os.map b6v) (e.trans (by rw[List.map_map];rfl)) (by lia) ?_
    have:=k H' s';unfold ordT at this;rw[if_neg ne] at this;exact this
def b1v(x:Str):Prop:=x="-" \/ ∀p∈Txt.split x "; ",∀y∈Txt.split p " ",a2h y
open Classical in
noncomputable def ordR(x:Str):List (List Int):=if x="-" then [] else (Txt.split x "; ").map d0g
def PcP(H:Hp)(ss:List Str)(D:Addr)(i:Nat)(acc:List V)(H':Hp):Prop:=H' D=some (.lst acc)/\Same H H'/\i<=ss.length/\(∀p∈ss.take i,∀y∈Txt.split p " ",a2h y)/\∃ps:List Addr,acc=ps.map V.ref/\ps.length=i/\∀(j:Nat)(p:Addr)(x:Str),ps[j]?=some p->ss[j]?=some x->p≠D/\H' p=some (.tup ((d0g x).map V.int))
theorem PcP.new{H:Hp}{ss:List Str}{D:Addr}(hD:H D=none):PcP H ss D 0 [] (upd H D (.lst [])):=⟨d8,d9 hD,Nat.zero_le _,by simp,[],rfl,rfl,λj p x h=>by simp at h⟩
theorem PcP.len{H H':Hp}{ss:List Str}{D:Addr}{i:Nat}{acc:List V}(h:PcP H ss D i acc H'):H' D=some (.lst acc)/\acc.length=i:=by
 obtain⟨e,_,_,_,ps,rfl,l,_⟩:=h;exact⟨e,by rw[List.length_map];exact l⟩
theorem PcP.push{H H' H3:Hp}{ss:List Str}{x:Str}{D p:Addr}{i:Nat}{acc:List V}(h:PcP H ss D i acc H')(hD:H D=none)(hx:ss[i]?=some x)(nw:∀y∈Txt.split x " ",a2h y)(s3:Same H' H3)(hp:H' p=none)(e3:H3 p=some (.tup ((d0g x).map V.int))):
  H3 D=some (.lst acc)/\PcP H ss D (i+1) (acc++[.ref p]) (upd H3 D (.lst (acc++[.ref p]))):=by
 obtain⟨e,s,li,g,ps,rfl,hl,r⟩:=h;have nD:p≠D:=λz=>by rw[z,e] at hp;cases hp
 have hi:i<ss.length:=(List.getElem?_eq_some_iff.mp hx).1;refine⟨s3 _ _ e,d8,(s.trans s3).set hD,hi,?_,ps++[p],by rw[List.map_append];rfl,by rw[List.length_append,hl];rfl,?_⟩
 ·intro q hq
  rw[List.take_add_one,hx] at hq;rcases List.mem_append.mp hq with hq|hq
  ·exact g q hq
  ·have:q=x:=by simpa using hq
   rw[this];exact nw
 ·intro j q u hj hu
  by_cases y:j<ps.length
  ·rw[List.getElem?_append_left y] at hj
   obtain⟨b,c⟩:=r j q u hj hu;refine⟨b,?_⟩;rw[j4 b];exact s3 _ _ c
  ·rw[List.getElem?_append_right (by lia)] at hj
   have:j=i:=by
    by_cases z:j-ps.length=0
    ·lia
    ·rw[List.getElem?_eq_none (by simp;lia)] at hj;cases hj
   subst this;rw[hl,Nat.sub_self] at hj;cases hj;rw[hx] at hu;cases hu;exact⟨nD,by rw[j4 nD];exact e3⟩
theorem PcP.tts{H H':Hp}{ss:List Str}{D:Addr}{acc:List V}{p:Addr}(h:PcP H ss D ss.length acc H')(hp:H' p=none):TTs (upd H' p (.tup acc)) p (ss.map d0g):=by
 obtain⟨e,s,_,_,ps,rfl,hl,r⟩:=h;refine⟨ps,d8,by rw[hl,List.length_map],λj q o hq ho=>?_⟩
 obtain⟨x,hx,rfl⟩:=a4c ho;exact d9 hp _ _ (r j q x hq hx).2
def a8a(cl:Cl):Sp:=λvs H Q E=>∃x:Str,vs=[.str x]/\x.length<=100000/\(b1v x->∀p H',H p=none->Same H H'->TTs H' p (ordR x)->Q (.ref p) H')/\(¬ b1v x->∀H',Same H H'->E (.ref cl.NoText) none H')
abbrev a5o:Stmt:=top 74
theorem b4d:j3 ["text"] ["text"] (g7 a5o):=↑1
theorem b4k(D:DefT K mg "orders_read" a5o ["text"])(T:Txt K mg cl)(G_numbers_read:FnT P w K mg base "numbers_read" 3 ["words"] (a3l cl)):FnT P w K mg base "orders_read" 4 ["text"] (a8a cl):=by
 refine D.fn b4d (λvs H Q E h=>?_) ↑2
 ·obtain⟨x,rfl,_⟩:=h
  rfl
 ·obtain⟨x,rfl,hz,k,kb⟩:=h
  refine⟨_,(d6 (v9 (g6 a1k (pv 0) (b3a T.m_NO_ORDERS_WORD rfl) (i3 _))
     (f8 (i5 (a0k d5)))
     i9)
   (f8 (i5 (m6 (a1w (K:=K)) (by rfl) T.z_tuple PyProof.Rows.boot_tuple (d4 (b5v rfl (N:=["piece"]) (nt:=1) (fr:=[]) rfl (a0b rfl rfl (by decide +kernel) (by decide +kernel) rfl rfl) (a1y (K:=K) (a1v (K:=K) (pv 0) (d4 f9 d5))) (y9 ↑5) (λ_ _ _ _ _=>g0 (i:=0) (show(["piece"]:List Str).Nodup by decide +kernel) rfl (Or.inl rfl) (Or.inr rfl)) (λ_ _ _ _ _=>(j5 G_numbers_read hr ↑5 rfl d0p (d4 (a1v (K:=K) (pv 0) (d4 f9 d5)) d5)))) d5))))),?_⟩
  have lm:=a0l;fail "";rw[a1r];refine x9 (λz=>?_) (λz=>?_)
  ·fail ""
   refine⟨Nat.zero_le _,λp hp=>?_⟩;refine k (.inl z) p _ hp (d9 hp) ?_;unfold ordR;rw[if_pos z];exact⟨[],d8,rfl,λi q o h=>by simp at h⟩
  ·have w1:=a6h (x:=x) a2t
   fail "";refine c1t a2t (by lia) (λq hq=>?_)
   fail "";have eq:upd H q (.lst ((Txt.split x "; ").map V.str)) q=_:=d8;have s1:Same H (upd H q (.lst ((Txt.split x "; ").map V.str))):=d9 hq;generalize upd H q (.lst ((Txt.split x "; ").map V.str))=H1 at eq s1 ⊢;refine a1d (xs:=(Txt.split x "; ").map V.str) (by rw[List.length_map];lia) (PcP H1 (Txt.split x "; ")) (λD hD=>PcP.new hD) (λD i acc H' p=>⟨p.len.1,p.len.2,SqL.of (p.2.1 _ _ eq)⟩) ?_ ?_
   ·intro D i v acc H' hD hx hp
    obtain⟨pc,hpc,rfl⟩:=a4c hx;have w2:=wt_mem (List.mem_of_getElem? hpc);have w3:=a1e (x:=pc) t9;fail "";refine a4j t9 (by lia) (λu hu=>?_)
    fail "";refine⟨u,_,rfl,d8,by lia,λnw r H3 hr3 s3 e3=>?_,λnw H3 s3=>kb ?_ _ ((s1.trans hp.2.1).trans ((d9 hu).trans s3))⟩
    ·exact hp.push hD hpc nw ((d9 hu).trans s3) ((d9 hu).free hr3) e3
    ·rintro (y|y)
     ·exact z y
     ·exact nw λv hv=>y pc (List.mem_of_getElem? hpc) v hv
   ·intro D acc H' hD hp
    rw[List.length_map] at hp;have e1:=hp.len.1;fail "";intro p hpn;refine k (.inr ?_) p _ (s1.free (Same.free hp.2.1 hpn)) ((s1.trans hp.2.1).trans (d9 hpn)) ?_
    ·have:=hp.2.2.2.1
     rw[List.take_length] at this;exact this
    ·unfold ordR
     rw[if_neg z];exact hp.tts hpn
end
section
variable{P:Program}{w:World}{K:Frag}{mg:Str->Option Value}{base:Heap}{cl:Cl}
def a3f(v:Str)(ns:List Int):Str:=Txt.join " " (v::ns.map a2q)
def b2k:Sp:=λvs H Q _=>∃(v:Str)(a:Addr)(ns:List Int),vs=[.str v,.ref a]/\v.length<=100/\H a=some (.tup (ns.map V.int))/\ns.length<=1000/\b4r ns/\∀H',Same H H'->Q (.str (a3f v ns)) H'
abbrev b0e:Stmt:=top 75
theorem b9m:j3 ["word","numbers"] ["word","numbers"] (g7 b0e):=↑1
theorem b9v(D:DefT K mg "row_text" b0e ["word","numbers"])(T:Txt K mg cl):FnT P w K mg base "row_text" 1 ["word","numbers"] b2k:=by
 refine D.fn b9m (λvs H Q E h=>?_) ↑2
 ·obtain⟨v,a,ns,rfl,_⟩:=h
  rfl
 ·obtain⟨v,a,ns,rfl,lv,ea,hl,hs,k⟩:=h
  refine⟨_,(f8 (i5 (a1f (K:=K) f9 (d4 (j8 a2b (m5 (d4 (pv 0) d5)) (a1j (N:=["number"]) (nt:=1) (fr:=[]) rfl (a0b rfl rfl (by decide +kernel) (by decide +kernel) rfl rfl) (a2n (K:=K) (pv 1)) (y9 ↑5) (λ_ _ _ _ _=>g0 (i:=0) (show(["number"]:List Str).Nodup by decide +kernel) rfl (Or.inl rfl) (Or.inr rfl)) (λ_ _ _ _ _=>(m6 a4k (by rfl) T.z_str PyProof.Rows.boot_str (d4 (pv 0) d5))))) d5)))),?_⟩
  have lm:=a0l;fail "";refine⟨by show 1<=sizeLine;lia,λq hq=>?_⟩
  have ea1:upd H q (.lst [.str v]) a=_:=d9 hq _ _ ea;have eq1:upd H q (.lst [.str v]) q=_:=d8;have s1:Same H (upd H q (.lst [.str v])):=d9 hq;generalize upd H q (.lst [.str v])=H1 at ea1 eq1 s1 ⊢;fail "";refine a5d (SqT.of ea1) ?_;refine a3y (xs:=ns.map V.int) (by rw[List.length_map];lia) (MpP H1 ns (λx=>V.str (a2q x)) (λ_=>True)) (λD hD=>MpP.new hD) (λD i acc H' p=>⟨p.len.1,p.len.2,SqT.of (p.2.1 _ _ ea1)⟩) ?_ ?_
  ·intro D i x acc H' hD hx hp
   obtain⟨y,hy,rfl⟩:=a4c hx;fail "";exact⟨y,rfl,a2c (hs y (List.mem_of_getElem? hy)),hp.step hD hy trivial rfl (Same.refl _)⟩
  ·intro D acc H' hD hp
   obtain⟨e,s',_⟩:=hp.done (List.length_map _);have s':Same H1 H':=s';fail "";refine a7x (s' _ _ eq1) e (by rw[List.length_map];show 1+_<=_;lia) (λu hu=>?_)
   fail "";have w1:=b0b hs;refine a3b t9 (ss:=v::ns.map a2q) (d8.trans (by rw[List.map_cons,List.map_map];rfl)) (by rw[y0];lia) ?_
   exact k _ ((s1.trans s').trans (d9 hu))
def a2v(cl:Cl):Sp:=λvs H Q E=>∃(r v:Str),vs=[.str r,.str v]/\r.length<=100000/\(∀t,Txt.split r " " = v::t->∀p H',H p=none->Same H H'->H' p=some (.lst (t.map V.str))->Q (.ref p) H')/\((¬ ∃t,Txt.split r " " = v::t)->∀H',Same H H'->E (.ref cl.NoText) none H')
abbrev a8k:Stmt:=top 76
theorem b1h:j3 ["row","word","words"] ["row","word"] (g7 a8k):=↑1
theorem b8a(D:DefT K mg "row_words" a8k ["row","word"])(T:Txt K mg cl):FnT P w K mg base "row_words" 1 ["row","word"] (a2v cl):=by
 refine D.fn b1h (λvs H Q E h=>?_) ↑2
 ·obtain⟨r,v,rfl,_⟩:=h
  rfl
 ·obtain⟨r,v,rfl,lr,k,kb⟩:=h
  refine⟨_,(d6 (i7 (i:=2) b1h.nd rfl (by first|exact Or.inl rfl|exact Or.inr rfl) (a1v (K:=K) (pv 0) (d4 f9 d5)))
   (d6 (v9 (g6 a4b (o0 (i8 (K:=K)) (pv 2) d7 (λ_ _=>rfl)) (pv 1) (i3 _))
     (f8 (a0o T.c_NoText rfl rfl a3r (d4 f9 d5)))
     i9)
   (f8 (i5 (z8 (a1m (K:=K)) (pv 2) (a0e d7) a0p))))),?_⟩
  have lm:=a0l;fail "";refine a4j t9 (by lia) (λq hq=>?_)
  obtain⟨v0,t,e0⟩:∃v0 t,Txt.split r " " = v0::t:=by
   cases e:Txt.split r " " with
   | nil=>exact absurd e (a4f r " ")
   | cons a b=>exact⟨a,b,rfl⟩
  rw[e0] at k kb ⊢;fail "";refine a4d (v:=.str v0) d8 ?_ ?_
  ·unfold atI ixN
   rw[if_pos ↑5,if_pos (by rw[List.length_map,List.length_cons];lia)]
   rfl
  fail "";rw[a1r];refine a0u (λz=>?_) (λz=>?_)
  ·fail ""
   exact⟨p9,kb (λy=>by obtain⟨t',y⟩:=y;cases y;exact z rfl) _ (d9 hq)⟩
  ·subst z
   fail "";refine⟨_,rfl,?_⟩;fail "";refine⟨q,_,rfl,SqL.of d8,λp hp=>?_⟩;refine k t rfl p _ ((d9 hq).free hp) ((d9 hq).trans (d9 hp)) ?_;rw[d8,show b6s ((v0::t).map V.str) (some 1) none=t.map V.str by
    unfold b6s;show(((v0::t).map V.str).drop (min 1 ((v0::t).map V.str).length)).take (((v0::t).map V.str).length-min 1 ((v0::t).map V.str).length)=_;rw[List.map_cons,List.length_cons,Nat.min_eq_left (by lia)]
    show(t.map V.str).take _=_;exact List.take_of_length_le (by lia)]
def RowR(r v:Str)(ns:List Int):Prop:=∃t,Txt.split r " " = v::t/\(∀y∈t,a2h y)/\ns=t.map rd
def a5i(cl:Cl):Sp:=λvs H Q E=>∃(r v:Str),vs=[.str r,.str v]/\r.length<=100000/\(∀ns,RowR r v ns->∀p H',H p=none->Same H H'->H' p=some (.tup (ns.map V.int))->Q (.ref p) H')/\((¬ ∃ns,RowR r v ns)->∀H',Same H H'->E (.ref cl.NoText) none H')
abbrev b0f:Stmt:=top 77
theorem b9n:j3 ["row","word"] ["row","word"] (g7 b0f):=↑1
theorem b9w(D:DefT K mg "row_read" b0f ["row","word"])(T:Txt K mg cl)(G_row_words:FnT P w K mg base "row_words" 1 ["row","word"] (a2v cl))(G_numbers_read:FnT P w K mg base "numbers_read" 3 ["words"] (a3l cl)):FnT P w K mg base "row_read" 4 ["row","word"] (a5i cl):=by
 refine D.fn b9n (λvs H Q E h=>?_) ↑2
 ·obtain⟨r,v,rfl,_⟩:=h
  rfl
 ·obtain⟨r,v,rfl,lr,k,kb⟩:=h
  refine⟨_,(f8 (i5 (j5 G_numbers_read hr ↑5 rfl k7 (d4 (j5 G_row_words hr ↑5 rfl k7 (d4 (pv 0) (d4 (pv 1) d5))) d5)))),?_⟩;fail "";refine⟨r,v,rfl,lr,λt et p H1 hp s1 e1=>?_,λne H1 s1=>kb (λz=>ne (by obtain⟨_,t,e,_⟩:=z;exact⟨t,e⟩)) _ s1⟩
  have w1:=a1e (x:=r) t9;rw[et,y0] at w1;fail "";refine⟨p,t,rfl,e1,by lia,λnw q H2 hq s2 e2=>k _ ⟨t,et,nw,rfl⟩ q H2 (s1.free hq) (s1.trans s2) e2,λnw H2 s2=>kb (λz=>?_) _ (s1.trans s2)⟩
  obtain⟨_,t',e,n,_⟩:=z;rw[et] at e;cases e;exact nw n
def OrdRow(r v:Str)(os:List (List Int)):Prop:=∃t,Txt.split r " " = v::t/\b1v (Txt.join " " t)/\os=ordR (Txt.join " " t)
def a4g(cl:Cl):Sp:=λvs H Q E=>∃(r v:Str),vs=[.str r,.str v]/\r.length<=99000/\v.length<=100/\(∀os,OrdRow r v os->∀p H',H p=none->Same H H'->TTs H' p os->Q (.ref p) H')/\((¬ ∃os,OrdRow r v os)->∀H',Same H H'->E (.ref cl.NoText) none H')
abbrev a2k:Stmt:=top 78
theorem a9m:j3 ["row","word"] ["row","word"] (g7 a2k):=↑1
theorem a9q(D:DefT K mg "orders_row_read" a2k ["row","word"])(T:Txt K mg cl)(G_row_words:FnT P w K mg base "row_words" 1 ["row","word"] (a2v cl))(G_orders_read:FnT P w K mg base "orders_read" 4 ["text"] (a8a cl)):FnT P w K mg base "orders_row_read" 5 ["row","word"] (a4g cl):=by
 refine D.fn a9m (λvs H Q E h=>?_) ↑2
 ·obtain⟨r,v,rfl,_⟩:=h
  rfl
 ·obtain⟨r,v,rfl,lr,lv,k,kb⟩:=h
  refine⟨_,(d6 (a1q (j5 G_row_words hr ↑5 rfl k7 (d4 (pv 0) (d4 (pv 1) d5))))
   (f8 (i5 (j5 G_orders_read hr ↑5 rfl k7 (d4 (z8 b1f (pv 0) (a0e (j8 a0y (i6 a1l (by rfl) T.z_len PySem.boot_len (d4 (pv 1) d5)) d7)) a0p) d5))))),?_⟩
  have lm:=a0l;fail "";refine⟨r,v,rfl,by lia,λt et p H1 hp s1 e1=>?_,λne H1 s1=>kb (λz=>ne (by obtain⟨_,t,e,_⟩:=z;exact⟨t,e⟩)) _ s1⟩
  have tj:=c3u et;have l2:(b0q r (some ((v.length:Int)+1)) none).length<=r.length:=by
   rw[tj];have w1:=a1e (x:=r) t9;rw[et,y0] at w1;have:=a3a t9 t;lia
  fail "";refine⟨v,rfl,by lia,?_⟩
  fail "";refine⟨_,rfl,?_⟩;fail "";refine b1l (by lia) ?_
  rw[tj] at l2 ⊢;fail "";refine⟨_,rfl,by lia,λok p2 H2 hp2 s2 e2=>k _ ⟨t,et,ok,rfl⟩ p2 H2 (s1.free hp2) (s1.trans s2) e2,λnk H2 s2=>kb (λz=>?_) _ (s1.trans s2)⟩
  obtain⟨_,t',e,n,_⟩:=z;rw[et] at e;cases e;exact nk n
theorem d3q{σ:St}{H:Hp}{k:St->Hp->Prop}{p:Addr}{x1 x2 x3 x4:V}{a b c d n:Nat}(h:H p=some (.lst [x1,x2,x3,x4]))(hn:4=n)(q:k ((((σ.set a (some x1)).set b (some x2)).set c (some x3)).set d (some x4)) H):d6j K n (a4e (a2r a) (a4e (a2r b) (a4e (a2r c) (a4e (a2r d) d4j)))) (.ref p) σ H k:=⟨p,_,rfl,SqL.of h,hn,_,_,rfl,_,_,rfl,_,_,rfl,_,_,rfl,rfl,q⟩
theorem d3p{σ:St}{H:Hp}{k:St->Hp->Prop}{p:Addr}{x1 x2 x3 x4 x5:V}{a b c d e n:Nat}(h:H p=some (.lst [x1,x2,x3,x4,x5]))(hn:5=n)(q:k (((((σ.set a (some x1)).set b (some x2)).set c (some x3)).set d (some x4)).set e (some x5)) H):d6j K n (a4e (a2r a) (a4e (a2r b) (a4e (a2r c) (a4e (a2r d) (a4e (a2r e) d4j))))) (.ref p) σ H k:=⟨p,_,rfl,SqL.of h,hn,_,_,rfl,_,_,rfl,_,_,rfl,_,_,rfl,_,_,rfl,rfl,q⟩
theorem d7k{α:Type}:∀t:List α,t.length=4->∃a b c d,t=[a,b,c,d]
 | [a,b,c,d],_=>⟨a,b,c,d,rfl⟩
theorem d7l{α:Type}:∀t:List α,t.length=5->∃a b c d e,t=[a,b,c,d,e]
 | [a,b,c,d,e],_=>⟨a,b,c,d,e,rfl⟩
def d2a(r m:Str)(g:GSd):Prop:=∃st tn o p,Txt.split r " " = ("giver":Str)::[st,tn,o,p]/\RowR m "marks" g.ms/\a4v tn/\a2h o/\a2h p/\g.st=st/\g.he=turnR tn/\g.od=rd o/\g.pt=rd p
theorem wt_mem{x:Str}:∀{l:List Str},x∈l->x.length<=wt l
 | y::l,h=>by
  rw[y0];cases h with
  | head=>lia
  | tail _ h=>have:=wt_mem h;lia
theorem b7a{r y:Str}(h:y∈Txt.split r " "):y.length<=r.length+1:=by
 have w1:=a1e (x:=r) t9;have:=wt_mem h;lia
def a9h(cl:Cl):Sp:=λvs H Q E=>∃(r m:Str),vs=[.str r,.str m]/\r.length<=99000/\m.length<=99000/\(∀g,d2a r m g->∀p H',H p=none->Same H H'->GT H' p g->Q (.ref p) H')/\((¬ ∃g,d2a r m g)->∀H',Same H H'->E (.ref cl.NoText) none H')
abbrev a7a:Stmt:=top 80
theorem a0z:j3 ["row","marks_row","words","stage","turn","order","part","marks"] ["row","marks_row"] (g7 a7a):=↑1
theorem b6g(D:DefT K mg "giver_read" a7a ["row","marks_row"])(T:Txt K mg cl)(G_row_words:FnT P w K mg base "row_words" 1 ["row","word"] (a2v cl))(G_row_read:FnT P w K mg base "row_read" 4 ["row","word"] (a5i cl))(G_turn_read:FnT P w K mg base "turn_read" 3 ["word"] (a6i cl))(G_number_read:FnT P w K mg base "number_read" 2 ["word"] (a1s cl)):FnT P w K mg base "giver_read" 5 ["row","marks_row"] (a9h cl):=by
 refine D.fn a0z (λvs H Q E h=>?_) ↑2
 ·obtain⟨r,v,rfl,_⟩:=h
  rfl
 ·obtain⟨r,m,rfl,lr,lm1,k,kb⟩:=h
  refine⟨_,(d6 (i7 (i:=2) a0z.nd rfl (by first|exact Or.inl rfl|exact Or.inr rfl) (j5 G_row_words hr ↑5 rfl k7 (d4 (pv 0) (d4 f9 d5))))
   (d6 (v9 (g6 a4b (i6 (j2 (K:=K)) (by rfl) T.z_len PySem.boot_len (d4 (pv 2) d5)) d7 (i3 _))
     (f8 (a0o T.c_NoText rfl rfl a3r (d4 f9 d5)))
     i9)
   (d6 (a3e (pv 2) (c4p (K:=K) rfl (i4 (g0 (i:=3) a0z.nd rfl (by first|exact Or.inl rfl|exact Or.inr rfl)) (i4 (g0 (i:=4) a0z.nd rfl (by first|exact Or.inl rfl|exact Or.inr rfl)) (i4 (g0 (i:=5) a0z.nd rfl (by first|exact Or.inl rfl|exact Or.inr rfl)) (i4 (g0 (i:=6) a0z.nd rfl (by first|exact Or.inl rfl|exact Or.inr rfl)) a2o))))))
   (d6 (i7 (i:=7) a0z.nd rfl (by first|exact Or.inl rfl|exact Or.inr rfl) (j5 G_row_read hr ↑5 rfl k7 (d4 (pv 1) (d4 f9 d5))))
   (f8 (i5 (a0k (d4 (pv 3) (d4 (j5 G_turn_read hr ↑5 rfl k7 (d4 (pv 4) d5)) (d4 (pv 7) (d4 (j5 G_number_read hr ↑5 rfl k7 (d4 (pv 5) d5)) (d4 (j5 G_number_read hr ↑5 rfl k7 (d4 (pv 6) d5)) d5)))))))))))),?_⟩
  have lm:=a0l;fail "";refine⟨r,"giver",rfl,by lia,λt et p H1 hp s1 e1=>?_,λne H1 s1=>kb (λz=>ne (by obtain⟨_,st,tn,o,p,e,_⟩:=z;exact⟨_,e⟩)) _ s1⟩
  fail "";rw[y6,List.length_map];refine a0u (λz=>?_) (λz=>?_)
  ·fail ""
   refine⟨p9,kb (λy=>z ?_) _ s1⟩;obtain⟨_,st,tn,o,p,e,_⟩:=y;rw[et] at e;rw[(List.cons.inj e).2];rfl
  obtain⟨st,tn,o,pt,rfl⟩:=d7k t (by lia)
  have hw:=λy (hy:y∈Txt.split r " ")=>b7a hy;rw[et] at hw;have ltn:tn.length<=99001:=Nat.le_trans (hw tn (by simp)) (by lia)
  have lo:o.length<=99001:=Nat.le_trans (hw o (by simp)) (by lia)
  have lpt:pt.length<=99001:=Nat.le_trans (hw pt (by simp)) (by lia)
  clear hw;fail "";refine d3q e1 rfl ?_;fail "";refine⟨m,"marks",rfl,by lia,λns rr q H2 hq s2 e2=>?_,λne H2 s2=>kb (λz=>ne (by obtain⟨g,_,_,_,_,_,e,_⟩:=z;exact⟨_,e⟩)) _ (s1.trans s2)⟩
  fail "";refine⟨tn,rfl,by lia,λtw H3 s3=>?_,λne H3 s3=>kb (λz=>ne ?_) _ ((s1.trans s2).trans s3)⟩
  rotate_left
  ·obtain⟨_,_,_,_,_,e,_,h1,_⟩:=z
   rw[et] at e;cases e;exact h1
  fail "";refine⟨o,rfl,by lia,λow H4 s4=>?_,λne H4 s4=>kb (λz=>ne ?_) _ (((s1.trans s2).trans s3).trans s4)⟩
  rotate_left
  ·obtain⟨_,_,_,_,_,e,_,_,h1,_⟩:=z
   rw[et] at e;cases e;exact h1
  fail "";refine⟨pt,rfl,by lia,λpw H5 s5=>?_,λne H5 s5=>kb (λz=>ne ?_) _ ((((s1.trans s2).trans s3).trans s4).trans s5)⟩
  rotate_left
  ·obtain⟨_,_,_,_,_,e,_,_,_,h1,_⟩:=z
   rw[et] at e;cases e;exact h1
  fail "";have s35:=(s3.trans s4).trans s5;refine⟨by show 5<=sizeLine;lia,λu hu=>?_⟩
  have sa:Same H H5:=(s1.trans s2).trans s35;exact k ⟨st,turnR tn,ns,rd o,rd pt⟩ ⟨st,tn,o,pt,et,rr,tw,ow,pw,rfl,rfl,rfl,rfl⟩ u _ (sa.free hu) (sa.trans (d9 hu)) ⟨q,d8,d9 hu _ _ (s35 _ _ e2)⟩
def d1z(r m q:Str)(t:TSd):Prop:=∃st tn fi nu le,Txt.split r " " = ("taker":Str)::[st,tn,fi,nu,le]/\RowR m "marks" t.ms/\RowR q "parts" t.pa/\a4v tn/\a4v fi/\a2h nu/\a2h le/\t.st=st/\t.he=turnR tn/\t.nf=turnR fi/\t.nu=rd nu/\t.le=rd le
def a9c(cl:Cl):Sp:=λvs H Q E=>∃(r m q:Str),vs=[.str r,.str m,.str q]/\r.length<=99000/\m.length<=99000/\q.length<=99000/\(∀g,d1z r m q g->∀p H',H p=none->Same H H'->TT H' p g->Q (.ref p) H')/\((¬ ∃g,d1z r m q g)->∀H',Same H H'->E (.ref cl.NoText) none H')
abbrev a6u:Stmt:=top 81
theorem a0h:j3 ["row","marks_row","parts_row","words","stage","turn","first","number","left","marks","parts"] ["row","marks_row","parts_row"] (g7 a6u):=↑1
theorem b6a(D:DefT K mg "taker_read" a6u ["row","marks_row","parts_row"])(T:Txt K mg cl)(G_row_words:FnT P w K mg base "row_words" 1 ["row","word"] (a2v cl))(G_row_read:FnT P w K mg base "row_read" 4 ["row","word"] (a5i cl))(G_turn_read:FnT P w K mg base "turn_read" 3 ["word"] (a6i cl))(G_number_read:FnT P w K mg base "number_read" 2 ["word"] (a1s cl)):FnT P w K mg base "taker_read" 5 ["row","marks_row","parts_row"] (a9c cl):=by
 refine D.fn a0h (λvs H Q E h=>?_) ↑2
 ·obtain⟨r,m,q,rfl,_⟩:=h
  rfl
 ·obtain⟨r,m,q,rfl,lr,lm1,lq,k,kb⟩:=h
  refine⟨_,(d6 (i7 (i:=3) a0h.nd rfl (by first|exact Or.inl rfl|exact Or.inr rfl) (j5 G_row_words hr ↑5 rfl k7 (d4 (pv 0) (d4 f9 d5))))
   (d6 (v9 (g6 a4b (i6 (j2 (K:=K)) (by rfl) T.z_len PySem.boot_len (d4 (pv 3) d5)) d7 (i3 _))
     (f8 (a0o T.c_NoText rfl rfl a3r (d4 f9 d5)))
     i9)
   (d6 (a3e (pv 3) (c4p (K:=K) rfl (i4 (g0 (i:=4) a0h.nd rfl (by first|exact Or.inl rfl|exact Or.inr rfl)) (i4 (g0 (i:=5) a0h.nd rfl (by first|exact Or.inl rfl|exact Or.inr rfl)) (i4 (g0 (i:=6) a0h.nd rfl (by first|exact Or.inl rfl|exact Or.inr rfl)) (i4 (g0 (i:=7) a0h.nd rfl (by first|exact Or.inl rfl|exact Or.inr rfl)) (i4 (g0 (i:=8) a0h.nd rfl (by first|exact Or.inl rfl|exact Or.inr rfl)) a2o)))))))
   (d6 (i7 (i:=9) a0h.nd rfl (by first|exact Or.inl rfl|exact Or.inr rfl) (j5 G_row_read hr ↑5 rfl k7 (d4 (pv 1) (d4 f9 d5))))
   (d6 (i7 (i:=10) a0h.nd rfl (by first|exact Or.inl rfl|exact Or.inr rfl) (j5 G_row_read hr ↑5 rfl k7 (d4 (pv 2) (d4 f9 d5))))
   (f8 (i5 (a0k (d4 (pv 4) (d4 (j5 G_turn_read hr ↑5 rfl k7 (d4 (pv 5) d5)) (d4 (pv 9) (d4 (j5 G_turn_read hr ↑5 rfl k7 (d4 (pv 6) d5)) (d4 (j5 G_number_read hr ↑5 rfl k7 (d4 (pv 7) d5)) (d4 (j5 G_number_read hr ↑5 rfl k7 (d4 (pv 8) d5)) (d4 (pv 10) d5))))))))))))))),?_⟩
  have lm:=a0l;fail "";refine⟨r,"taker",rfl,by lia,λt et p H1 hp s1 e1=>?_,λne H1 s1=>kb (λz=>ne (by obtain⟨_,st,tn,fi,nu,le,e,_⟩:=z;exact⟨_,e⟩)) _ s1⟩
  fail "";rw[y6,List.length_map];refine a0u (λz=>?_) (λz=>?_)
  ·fail ""
   refine⟨p9,kb (λy=>z ?_) _ s1⟩;obtain⟨_,st,tn,fi,nu,le,e,_⟩:=y;rw[et] at e;rw[(List.cons.inj e).2];rfl
  obtain⟨st,tn,fi,nu,le,rfl⟩:=d7l t (by lia)
  have hw:=λy (hy:y∈Txt.split r " ")=>b7a hy;rw[et] at hw;have ltn:tn.length<=99001:=Nat.le_trans (hw tn (by simp)) (by lia)
  have lfi:fi.length<=99001:=Nat.le_trans (hw fi (by simp)) (by lia)
  have lnu:nu.length<=99001:=Nat.le_trans (hw nu (by simp)) (by lia)
  have lle:le.length<=99001:=Nat.le_trans (hw le (by simp)) (by lia)
  clear hw;fail "";refine d3p e1 rfl ?_;fail "";refine⟨m,"marks",rfl,by lia,λns rr a H2 ha s2 e2=>?_,λne H2 s2=>kb (λz=>ne (by obtain⟨g,_,_,_,_,_,_,e,_⟩:=z;exact⟨_,e⟩)) _ (s1.trans s2)⟩
  fail "";refine⟨q,"parts",rfl,by lia,λps rq b H3 hb s3 e3=>?_,λne H3 s3=>kb (λz=>ne (by obtain⟨g,_,_,_,_,_,_,_,e,_⟩:=z;exact⟨_,e⟩)) _ ((s1.trans s2).trans s3)⟩
  have s13:=(s1.trans s2).trans s3;replace e2:=s3 _ _ e2;fail "";refine⟨tn,rfl,by lia,λtw H4 s4=>?_,λne H4 s4=>kb (λz=>ne ?_) _ (s13.trans s4)⟩
  rotate_left
  ·obtain⟨_,_,_,_,_,_,e,_,_,h1,_⟩:=z
   rw[et] at e;cases e;exact h1
  fail "";refine⟨fi,rfl,by lia,λfw H5 s5=>?_,λne H5 s5=>kb (λz=>ne ?_) _ ((s13.trans s4).trans s5)⟩
  rotate_left
  ·obtain⟨_,_,_,_,_,_,e,_,_,_,h1,_⟩:=z
   rw[et] at e;cases e;exact h1
  fail "";refine⟨nu,rfl,by lia,λow H6 s6=>?_,λne H6 s6=>kb (λz=>ne ?_) _ (((s13.trans s4).trans s5).trans s6)⟩
  rotate_left
  ·obtain⟨_,_,_,_,_,_,e,_,_,_,_,h1,_⟩:=z
   rw[et] at e;cases e;exact h1
  fail "";refine⟨le,rfl,by lia,λpw H7 s7=>?_,λne H7 s7=>kb (λz=>ne ?_) _ ((((s13.trans s4).trans s5).trans s6).trans s7)⟩
  rotate_left
  ·obtain⟨_,_,_,_,_,_,e,_,_,_,_,_,h1,_⟩:=z
   rw[et] at e;cases e;exact h1
  fail "";have s37:=((s4.trans s5).trans s6).trans s7;refine⟨by show 7<=sizeLine;lia,λu hu=>?_⟩
  have sa:Same H H7:=s13.trans s37;exact k ⟨st,turnR tn,ns,turnR fi,rd nu,rd le,ps⟩ ⟨st,tn,fi,nu,le,et,rr,rq,tw,fw,ow,pw,rfl,rfl,rfl,rfl,rfl⟩ u _ (sa.free hu) (sa.trans (d9 hu)) ⟨a,b,d8,d9 hu _ _ (s37 _ _ e2),d9 hu _ _ (s37 _ _ e3)⟩
theorem b1k:("\n":Str).length=1:=rfl
theorem d1m{α:Type}:∀t:List α,t.length=8->∃a b c d e f g h,t=[a,b,c,d,e,f,g,h]
 | [a,b,c,d,e,f,g,h],_=>⟨a,b,c,d,e,f,g,h,rfl⟩
def a7y(s:Str)(x:Sd):Prop:=∃r0 r1 r2 r3 r4 r5 r6 r7,Txt.split s "\n" = [r0,r1,r2,r3,r4,r5,r6,r7]/\RowR r0 "cells" x.c/\d2a r1 r2 x.g/\d1z r3 r4 r5 x.t/\OrdRow r6 "orders" x.os/\OrdRow r7 "book" x.bk/\x.n=x.c.length / 4-1
theorem b5f:∀l:List Str,l.length<=wt l
 | []=>by decide
 | y::l=>by
  have:=b5f l;rw[y0,List.length_cons];lia
theorem RowR.long{r v:Str}{ns:List Int}(h:RowR r v ns):ns.length<=r.length:=by
 obtain⟨t,e,_,rfl⟩:=h;have w1:=a1e (x:=r) t9;have:=b5f t;rw[e,y0] at w1;rw[List.length_map];lia
theorem OrdRow.long{r v:Str}{os:List (List Int)}(h:OrdRow r v os):os.length<=r.length+1:=by
 obtain⟨t,e,_,rfl⟩:=h;have w1:=a1e (x:=r) t9;rw[e,y0] at w1;have w2:=a3a t9 t;unfold ordR;split
 ·exact Nat.zero_le _
 ·rw[List.length_map]
  have w3:=a6h (x:=Txt.join " " t) a2t;have:=b5f (Txt.split (Txt.join " " t) "; ");lia
def a9f(cl:Cl):Sp:=λvs H Q E=>∃s:Str,vs=[.str s]/\s.length<=90000/\(∀x,a7y s x->b0a x->∀p H',Same H H'->ST H' p x->Q (.ref p) H')/\(∀x,a7y s x->¬ b0a x->∀o H',Same H H'->E (.ref cl.BadStand) o H')/\((¬ ∃x,a7y s x)->∀H',Same H H'->E (.ref cl.NoText) none H')
abbrev a6x:Stmt:=top 82
theorem a0s:j3 ["text","rows","cells","giver","taker","orders","book","stand"] ["text"] (g7 a6x):=↑1
theorem b6d(D:DefT K mg "stand_read" a6x ["text"])(T:Txt K mg cl)(G_row_read:FnT P w K mg base "row_read" 4 ["row","word"] (a5i cl))(G_giver_read:FnT P w K mg base "giver_read" 5 ["row","marks_row"] (a9h cl))(G_taker_read:FnT P w K mg base "taker_read" 5 ["row","marks_row","parts_row"] (a9c cl))(G_orders_row_read:FnT P w K mg base "orders_row_read" 5 ["row","word"] (a4g cl))(G_check_stand:FnT P w K mg base "check_stand" 7 ["stand"] (a4n cl)):FnT P w K mg base "stand_read" 8 ["text"] (a9f cl):=by
 refine D.fn a0s (λvs H Q E h=>?_) ↑2
 ·obtain⟨x,rfl,_⟩:=h
  rfl
 ·obtain⟨x,rfl,lx,k,kb,kn⟩:=h
  refine⟨_,(d6 (i7 (i:=1) a0s.nd rfl (by first|exact Or.inl rfl|exact Or.inr rfl) (a1v (K:=K) (pv 0) (d4 f9 d5)))
   (d6 (v9 (g6 a4b (i6 (j2 (K:=K)) (by rfl) T.z_len PySem.boot_len (d4 (pv 1) d5)) (a0w T.m_STAND_ROWS rfl) (i3 _))
     (f8 (a0o T.c_NoText rfl rfl a3r (d4 f9 d5)))
     i9)
   (d6 (i7 (i:=2) a0s.nd rfl (by first|exact Or.inl rfl|exact Or.inr rfl) (j5 G_row_read hr (by decide) rfl k7 (d4 (o0 (i8 (K:=K)) (pv 1) d7 (λ_ _=>rfl)) (d4 f9 d5))))
   (d6 (i7 (i:=3) a0s.nd rfl (by first|exact Or.inl rfl|exact Or.inr rfl) (j5 G_giver_read hr (by decide) rfl k7 (d4 (o0 (i8 (K:=K)) (pv 1) d7 (λ_ _=>rfl)) (d4 (o0 (i8 (K:=K)) (pv 1) d7 (λ_ _=>rfl)) d5))))
   (d6 (i7 (i:=4) a0s.nd rfl (by first|exact Or.inl rfl|exact Or.inr rfl) (j5 G_taker_read hr (by decide) rfl k7 (d4 (o0 (i8 (K:=K)) (pv 1) d7 (λ_ _=>rfl)) (d4 (o0 (i8 (K:=K)) (pv 1) d7 (λ_ _=>rfl)) (d4 (o0 (i8 (K:=K)) (pv 1) d7 (λ_ _=>rfl)) d5)))))
   (d6 (i7 (i:=5) a0s.nd rfl (by first|exact Or.inl rfl|exact Or.inr rfl) (j5 G_orders_row_read hr (by decide) rfl k7 (d4 (o0 (i8 (K:=K)) (pv 1) d7 (λ_ _=>rfl)) (d4 f9 d5))))
   (d6 (i7 (i:=6) a0s.nd rfl (by first|exact Or.inl rfl|exact Or.inr rfl) (j5 G_orders_row_read hr (by decide) rfl k7 (d4 (o0 (i8 (K:=K)) (pv 1) d7 (λ_ _=>rfl)) (d4 f9 d5))))
   (d6 (i7 (i:=7) a0s.nd rfl (by first|exact Or.inl rfl|exact Or.inr rfl) (a0k (d4 (pv 2) (d4 (pv 3) (d4 (pv 4) (d4 (pv 5) (d4 (pv 6) d5)))))))
   (d6 (a1q (j5 G_check_stand hr ↑5 rfl k7 (d4 (pv 7) d5)))
   (f8 (i5 (pv 7)))))))))))),?_⟩
  have lm:=a0l;fail "";refine a4j b1k (by lia) (λq hq=>?_)
  fail "";rw[y6,List.length_map];refine a0u (λz=>?_) (λz=>?_)
  ·fail ""
   refine⟨p9,kn (λy=>z ?_) _ (d9 hq)⟩;obtain⟨_,_,_,_,_,_,_,_,_,e,_⟩:=y;rw[e];rfl
  obtain⟨r0,r1,r2,r3,r4,r5,r6,r7,et⟩:=d1m (Txt.split x "\n") (by lia)
  have hw:=λy (hy:y∈Txt.split x "\n")=>wt_mem hy;rw[a1e (x:=x) b1k,et] at hw;have l0:r0.length<=90001:=Nat.le_trans (hw r0 (by simp)) (by lia)
  have l1:r1.length<=90001:=Nat.le_trans (hw r1 (by simp)) (by lia)
  have l2:r2.length<=90001:=Nat.le_trans (hw r2 (by simp)) (by lia)
  have l3:r3.length<=90001:=Nat.le_trans (hw r3 (by simp)) (by lia)
  have l4:r4.length<=90001:=Nat.le_trans (hw r4 (by simp)) (by lia)
  have l5:r5.length<=90001:=Nat.le_trans (hw r5 (by simp)) (by lia)
  have l6:r6.length<=90001:=Nat.le_trans (hw r6 (by simp)) (by lia)
  have l7:r7.length<=90001:=Nat.le_trans (hw r7 (by simp)) (by lia)
  clear hw;rw[et];have s1:Same H (upd H q (.lst ([r0,r1,r2,r3,r4,r5,r6,r7].map V.str))):=d9 hq;have e1:upd H q (.lst ([r0,r1,r2,r3,r4,r5,r6,r7].map V.str)) q=some (.lst ([r0,r1,r2,r3,r4,r5,r6,r7].map V.str)):=d8;generalize upd H q (.lst ([r0,r1,r2,r3,r4,r5,r6,r7].map V.str))=H1 at s1 e1 ⊢;fail "";refine⟨r0,"cells",rfl,by lia,λcs rc a H2 ha s2 e2=>?_,λne H2 s2=>kn (λz=>ne ?_) _ (s1.trans s2)⟩
  rotate_left
  ·obtain⟨y,_,_,_,_,_,_,_,_,e,h,_⟩:=z
   rw[et] at e;cases e;exact⟨_,h⟩
  have e1:=s2 _ _ e1;have s2':=s1.trans s2;fail "";refine⟨r1,r2,rfl,by lia,by lia,λg rg b H3 hb s3 e3=>?_,λne H3 s3=>kn (λz=>ne ?_) _ (s2'.trans s3)⟩
  rotate_left
  ·obtain⟨y,_,_,_,_,_,_,_,_,e,_,h,_⟩:=z
   rw[et] at e;cases e;exact⟨_,h⟩
  have e1:=s3 _ _ e1;have e2:=s3 _ _ e2;have s3':=s2'.trans s3;fail "";refine⟨r3,r4,r5,rfl,by lia,by lia,by lia,λt rt c H4 hc s4 e4=>?_,λne H4 s4=>kn (λz=>ne ?_) _ (s3'.trans s4)⟩
  rotate_left
  ·obtain⟨y,_,_,_,_,_,_,_,_,e,_,_,h,_⟩:=z
   rw[et] at e;cases e;exact⟨_,h⟩
  have e1:=s4 _ _ e1;have e2:=s4 _ _ e2;have e3:=e3.same s4;have s4':=s3'.trans s4;fail "";refine⟨r6,"orders",rfl,by lia,by decide,λos ro d H5 hd s5 e5=>?_,λne H5 s5=>kn (λz=>ne ?_) _ (s4'.trans s5)⟩
  rotate_left
  ·obtain⟨y,_,_,_,_,_,_,_,_,e,_,_,_,h,_⟩:=z
   rw[et] at e;cases e;exact⟨_,h⟩
  have e1:=s5 _ _ e1;have e2:=s5 _ _ e2;have e3:=e3.same s5;have e4:=e4.same s5;have s5':=s4'.trans s5;fail "";refine⟨r7,"book",rfl,by lia,by decide,λbk rb v H6 hv s6 e6=>?_,λne H6 s6=>kn (λz=>ne ?_) _ (s5'.trans s6)⟩
  rotate_left
  ·obtain⟨y,_,_,_,_,_,_,_,_,e,_,_,_,_,h,_⟩:=z
   rw[et] at e;cases e;exact⟨_,h⟩
  have e2:=s6 _ _ e2;have e3:=e3.same s6;have e4:=e4.same s6;have e5:=e5.same s6;have s6':=s5'.trans s6;fail "";refine⟨by show 5<=sizeLine;lia,λu hu=>?_⟩
  have s7:=d9 (o:=.tup [.ref a,.ref b,.ref c,.ref d,.ref v]) hu;have e7:upd H6 u (.tup [.ref a,.ref b,.ref c,.ref d,.ref v]) u=_:=d8;have st:ST (upd H6 u (.tup [.ref a,.ref b,.ref c,.ref d,.ref v])) u ⟨cs.length / 4-1,cs,g,t,os,bk⟩:=⟨a,b,c,d,v,e7,s7 _ _ e2,e3.same s7,e4.same s7,e5.same s7,e6.same s7⟩;have s7':=s6'.trans s7;have rr:a7y x ⟨cs.length / 4-1,cs,g,t,os,bk⟩:=⟨r0,r1,r2,r3,r4,r5,r6,r7,et,rc,rg,rt,ro,rb,rfl⟩;generalize upd H6 u (.tup [.ref a,.ref b,.ref c,.ref d,.ref v])=H7 at st s7' ⊢;fail "";have m1:=ro.long;have m2:=rb.long;have m3:g.ms.length<=r2.length:=by
   obtain⟨_,_,_,_,_,h,_⟩:=rg;exact h.long
  have m4:t.ms.length<=r4.length:=by
   obtain⟨_,_,_,_,_,_,h,_⟩:=rt;exact h.long
  refine⟨u,⟨cs.length / 4-1,cs,g,t,os,bk⟩,rfl,st,rfl,?_,?_,?_,?_,λgs H8 s8=>?_,λng o H8 s8=>kb _ rr ng _ _ (s7'.trans s8)⟩
  ·show os.length<=_;lia
  ·show bk.length<=_;lia
  ·show g.ms.length<=_;lia
  ·show t.ms.length<=_;lia
  fail "";exact k _ rr gs u H8 (s7'.trans s8) (st.same s8)
def c1s(g:GSd):Str:=Txt.join " " [("giver":Str),g.st,a4l g.he,a2q g.od,a2q g.pt]
def c2r(t:TSd):Str:=Txt.join " " [("taker":Str),t.st,a4l t.he,a4l t.nf,a2q t.nu,a2q t.le]
noncomputable def rowsS(x:Sd):List Str:=[a3f "cells" x.c,c1s x.g,a3f "marks" x.g.ms,c2r x.t,a3f "marks" x.t.ms,a3f "parts" x.t.pa,("orders ":Str)++ordT x.os,("book ":Str)++ordT x.bk]
noncomputable def standT(x:Sd):Str:=Txt.join "\n" (rowsS x)
theorem a5f:(" ":Str).cps.toList=32::[]:=rfl
theorem c1r(g:GSd):Str.empty++("giver ":Str)++g.st++(" ":Str)++a4l g.he++(" ":Str)++a2q g.od++(" ":Str)++a2q g.pt=c1s g:=by
 refine a2i ?_;unfold c1s;rw[a2d a5f];simp only[z9,List.map_cons,List.map_nil,a3v,List.append_assoc,List.nil_append]
 rfl
theorem c0u(t:TSd):Str.empty++("taker ":Str)++t.st++(" ":Str)++a4l t.he++(" ":Str)++a4l t.nf++(" ":Str)++a2q t.nu++(" ":Str)++a2q t.le=c2r t:=by
 refine a2i ?_;unfold c2r;rw[a2d a5f];simp only[z9,List.map_cons,List.map_nil,a3v,List.append_assoc,List.nil_append]
 rfl
theorem b8w(x:Str):Str.empty++x=x:=by
 refine a2i ?_;rw[z9]
 rfl
theorem a7s{os:List (List Int)}(h:a7r os)(l:os.length<=10):(ordT os).length<=11000:=by
 unfold ordT;split
 ·decide
 ·have:=c1o a2t (os.map b6v)
  have:=c1h h;lia
theorem a1x{he:Hr}(h:c6n he):(a4l he).length<=61:=by
 cases he with
 | non=>decide
 | int i=>exact a1a h
theorem a2x{v:Str}{ns:List Int}(lv:v.length<=10)(l:ns.length<=100)(h:b4r ns):(a3f v ns).length<=7000:=by
 unfold a3f;have:=a3a t9 (v::ns.map a2q);rw[y0] at this;have:=b0b h;lia
structure c9s(x:Sd):Prop where
 c:b4r x.c
 gs:x.g.st.length<=10
 gh:c6n x.g.he
 gm:b4r x.g.ms
 gl:x.g.ms.length<=100
 go:x.g.od.natAbs<10 ^ 60
 gp:x.g.pt.natAbs<10 ^ 60
 ts:x.t.st.length<=10
 th:c6n x.t.he
 tm:b4r x.t.ms
 tl:x.t.ms.length<=100
 tf:c6n x.t.nf
 tn:x.t.nu.natAbs<10 ^ 60
 te:x.t.le.natAbs<10 ^ 60
 tp:b4r x.t.pa
 tq:x.t.pa.length<=100
 os:a7r x.os
 ol:x.os.length<=10
 bk:a7r x.bk
 bl:x.bk.length<=10
theorem nwS{H H':Hp}{p:Addr}{o:HO}(u:upd H p o=H')(h:H p=none):Same H H'/\H' p=some o:=by subst u;exact⟨d9 h,d8⟩
theorem b2v{H H7:Hp}{l:Addr}{o:HO}(s:Same H H7)(h:H l=none):Same H (upd H7 l o):=λa v e=>by
 have n:a≠l:=λz=>by rw[z,h] at e;cases e
 rw[j4 n];exact s _ _ e
theorem lit{k:St->Hp->Prop}{σ:St}(τ:St){H:Hp}(e:σ=τ)(q:k τ H):k σ H:=e ▸ q
def a9e(cl:Cl):Sp:=λvs H Q E=>∃(a:Addr)(x:Sd),vs=[.ref a]/\ST H a x/\x.n=x.c.length / 4-1/\b0a x/\c9s x/\∀H',Same H H'->Q (.str (standT x)) H'
abbrev a6w:Stmt:=top 79
theorem j9:j3 ["stand","cells","giver","taker","orders","book","stage","turn","marks","order","part","giver_row","taker_stage","taker_turn","taker_marks","first","number","left","parts","taker_row","rows"] ["stand"] (g7 a6w):=↑1
theorem b6c(D:DefT K mg "stand_text" a6w ["stand"])(T:Txt K mg cl)(G_check_stand:FnT P w K mg base "check_stand" 7 ["stand"] (a4n cl))(G_turn_text:FnT P w K mg base "turn_text" 1 ["turn"] b0u)(G_row_text:FnT P w K mg base "row_text" 1 ["word","numbers"] b2k)(G_orders_text:FnT P w K mg base "orders_text" 2 ["orders"] a2u):FnT P w K mg base "stand_text" 8 ["stand"] (a9e cl):=by
 refine D.fn j9 (λvs H Q E h=>?_) ↑2
 ·obtain⟨a,x,rfl,_⟩:=h
  rfl
 ·obtain⟨a,x,rfl,st,en,gs,tn,k⟩:=h
  refine⟨_,(d6 (a1q (j5 G_check_stand hr ↑5 rfl k7 (d4 (pv 0) d5)))
   (d6 (a3e (pv 0) (a3s (K:=K) rfl (i4 (g0 (i:=1) j9.nd rfl (by first|exact Or.inl rfl|exact Or.inr rfl)) (i4 (g0 (i:=2) j9.nd rfl (by first|exact Or.inl rfl|exact Or.inr rfl)) (i4 (g0 (i:=3) j9.nd rfl (by first|exact Or.inl rfl|exact Or.inr rfl)) (i4 (g0 (i:=4) j9.nd rfl (by first|exact Or.inl rfl|exact Or.inr rfl)) (i4 (g0 (i:=5) j9.nd rfl (by first|exact Or.inl rfl|exact Or.inr rfl)) a2o)))))))
   (d6 (a3e (pv 2) (a3s (K:=K) rfl (i4 (g0 (i:=6) j9.nd rfl (by first|exact Or.inl rfl|exact Or.inr rfl)) (i4 (g0 (i:=7) j9.nd rfl (by first|exact Or.inl rfl|exact Or.inr rfl)) (i4 (g0 (i:=8) j9.nd rfl (by first|exact Or.inl rfl|exact Or.inr rfl)) (i4 (g0 (i:=9) j9.nd rfl (by first|exact Or.inl rfl|exact Or.inr rfl)) (i4 (g0 (i:=10) j9.nd rfl (by first|exact Or.inl rfl|exact Or.inr rfl)) a2o)))))))
   (d6 (i7 (i:=11) j9.nd rfl (by first|exact Or.inl rfl|exact Or.inr rfl) (b5u (a7i (a7h (pv 6) (a7i (a7h (j5 G_turn_text hr ↑5 rfl k7 (d4 (pv 7) d5)) (a7i (a7h (pv 9) (a7i (a7h (pv 10) c1c))))))))))
   (d6 (a3e (pv 3) (a3s (K:=K) rfl (i4 (g0 (i:=12) j9.nd rfl (by first|exact Or.inl rfl|exact Or.inr rfl)) (i4 (g0 (i:=13) j9.nd rfl (by first|exact Or.inl rfl|exact Or.inr rfl)) (i4 (g0 (i:=14) j9.nd rfl (by first|exact Or.inl rfl|exact Or.inr rfl)) (i4 (g0 (i:=15) j9.nd rfl (by first|exact Or.inl rfl|exact Or.inr rfl)) (i4 (g0 (i:=16) j9.nd rfl (by first|exact Or.inl rfl|exact Or.inr rfl)) (i4 (g0 (i:=17) j9.nd rfl (by first|exact Or.inl rfl|exact Or.inr rfl)) (i4 (g0 (i:=18) j9.nd rfl (by first|exact Or.inl rfl|exact Or.inr rfl)) a2o)))))))))
   (d6 (i7 (i:=19) j9.nd rfl (by first|exact Or.inl rfl|exact Or.inr rfl) (b5u (a7i (a7h (pv 12) (a7i (a7h (j5 G_turn_text hr ↑5 rfl k7 (d4 (pv 13) d5)) (a7i (a7h (j5 G_turn_text hr ↑5 rfl k7 (d4 (pv 15) d5)) (a7i (a7h (pv 16) (a7i (a7h (pv 17) c1c))))))))))))
   (d6 (i7 (i:=20) j9.nd rfl (by first|exact Or.inl rfl|exact Or.inr rfl) (m5 (d4 (j5 G_row_text hr ↑5 rfl k7 (d4 f9 (d4 (pv 1) d5))) (d4 (pv 11) (d4 (j5 G_row_text hr ↑5 rfl k7 (d4 f9 (d4 (pv 8) d5))) (d4 (pv 19) d5))))))
   (d6 (c9a (i:=20) j9.nd rfl (by first|exact Or.inl rfl|exact Or.inr rfl) (m5 (d4 (j5 G_row_text hr ↑5 rfl k7 (d4 f9 (d4 (pv 14) d5))) (d4 (j5 G_row_text hr ↑5 rfl k7 (d4 f9 (d4 (pv 18) d5))) d5))) c9d)
   (d6 (c9a (i:=20) j9.nd rfl (by first|exact Or.inl rfl|exact Or.inr rfl) (m5 (d4 (b5u (a7i (a7h (j5 G_orders_text hr ↑5 rfl k7 (d4 (pv 4) d5)) c1c))) (d4 (b5u (a7i (a7h (j5 G_orders_text hr ↑5 rfl k7 (d4 (pv 5) d5)) c1c))) d5))) c9d)
   (f8 (i5 (a1f (K:=K) f9 (d4 (pv 20) d5))))))))))))),?_⟩
  have lm:=a0l;fail "";refine⟨a,x,rfl,st,en,Nat.le_trans tn.ol (by lia),Nat.le_trans tn.bl (by lia),Nat.le_trans tn.gl (by lia),Nat.le_trans tn.tl (by lia),λ_ H1 s1=>?_,λz=>absurd gs z⟩
  obtain⟨c,g,t,o,b,ea,ec,⟨gm,eg,egm⟩,⟨tm,tp,et,etm,etp⟩,eo,eb⟩:=st.same s1;clear st;fail "";refine b3u ea rfl (lit [some (.ref a),some (.ref c),some (.ref g),some (.ref t),some (.ref o),some (.ref b),none,none,none,none,none,none,none,none,none,none,none,none,none,none,none] (by rfl) ?_)
  fail "";refine b3u eg rfl (lit [some (.ref a),some (.ref c),some (.ref g),some (.ref t),some (.ref o),some (.ref b),some (.str x.g.st),some x.g.he.v,some (.ref gm),some (.int x.g.od),some (.int x.g.pt),none,none,none,none,none,none,none,none,none,none] (by rfl) ?_)
  fail "";have q1:=tn.gs;have q2:=a1x tn.gh;have q3:=a1a tn.go;have q4:=a1a tn.gp;have q5:=tn.ts;have q6:=a1x tn.th;have q7:=a1x tn.tf;have q8:=a1a tn.tn;have q9:=a1a tn.te;have c0:Str.empty.length=0:=rfl;have c1:("giver ":Str).length=6:=rfl;have c2:("taker ":Str).length=6:=rfl;have c3:(" ":Str).length=1:=rfl;have c4:("orders ":Str).length=7:=rfl;have c5:("book ":Str).length=5:=rfl;have o1:=a7s tn.os tn.ol;have o2:=a7s tn.bk tn.bl;refine c1w ⟨by simp only[Str.length_append];lia,a7o ?_⟩
  fail "";refine⟨x.g.st,.inl ⟨rfl,by lia⟩,by simp only[Str.length_append];lia,by simp only[Str.length_append];lia,a7o ?_⟩
  fail "";refine⟨x.g.he,rfl,tn.gh,a4l x.g.he,.inl ⟨rfl,by lia⟩,by simp only[Str.length_append];lia,by simp only[Str.length_append];lia,a7o ?_⟩
  fail "";refine⟨a2q x.g.od,.inr ⟨_,rfl,a2c tn.go,rfl⟩,by simp only[Str.length_append];lia,by simp only[Str.length_append];lia,a7o ?_⟩
  fail "";refine⟨a2q x.g.pt,.inr ⟨_,rfl,a2c tn.gp,rfl⟩,by simp only[Str.length_append];lia,by simp only[Str.length_append];lia,?_⟩
  rw[c1r];fail "";refine c5r et rfl (lit [some (.ref a),some (.ref c),some (.ref g),some (.ref t),some (.ref o),some (.ref b),some (.str x.g.st),some x.g.he.v,some (.ref gm),some (.int x.g.od),some (.int x.g.pt),some (.str (c1s x.g)),some (.str x.t.st),some x.t.he.v,some (.ref tm),some x.t.nf.v,some (.int x.t.nu),some (.int x.t.le),some (.ref tp),none,none] (by rfl) ?_)
  fail "";refine c1w ⟨by simp only[Str.length_append];lia,a7o ?_⟩
  fail "";refine⟨x.t.st,.inl ⟨rfl,by lia⟩,by simp only[Str.length_append];lia,by simp only[Str.length_append];lia,a7o ?_⟩
  fail "";refine⟨x.t.he,rfl,tn.th,a4l x.t.he,.inl ⟨rfl,by lia⟩,by simp only[Str.length_append];lia,by simp only[Str.length_append];lia,a7o ?_⟩
  fail "";refine⟨x.t.nf,rfl,tn.tf,a4l x.t.nf,.inl ⟨rfl,by lia⟩,by simp only[Str.length_append];lia,by simp only[Str.length_append];lia,a7o ?_⟩
  fail "";refine⟨a2q x.t.nu,.inr ⟨_,rfl,a2c tn.tn,rfl⟩,by simp only[Str.length_append];lia,by simp only[Str.length_append];lia,a7o ?_⟩
  fail "";refine⟨a2q x.t.le,.inr ⟨_,rfl,a2c tn.te,rfl⟩,by simp only[Str.length_append];lia,by simp only[Str.length_append];lia,?_⟩
  rw[c0u];fail "";have lc:x.c.length<=100:=by
   have:=gs.c.len;have:=gs.c.n8;lia
  refine⟨"cells",c,x.c,rfl,by decide,ec,by lia,tn.c,λH2 s2=>?_⟩
  have egm:=s2 _ _ egm;have etm:=s2 _ _ etm;have etp:=s2 _ _ etp;have eo:=eo.same s2;have eb:=eb.same s2;fail "";refine⟨"marks",gm,x.g.ms,rfl,by decide,egm,Nat.le_trans tn.gl ↑5,tn.gm,λH3 s3=>?_⟩
  have etm:=s3 _ _ etm;have etp:=s3 _ _ etp;have eo:=eo.same s3;have eb:=eb.same s3;fail "";have eo3:=eo;have eb3:=eb;refine⟨by show 4<=sizeLine;lia,λl hl=>?_⟩
  generalize u4:upd H3 l _=H4;obtain⟨s4,e4⟩:=nwS u4 hl;have etm:=s4 _ _ etm;have etp:=s4 _ _ etp;have eo:=eo.same s4;have eb:=eb.same s4;fail "";refine lit [some (.ref a),some (.ref c),some (.ref g),some (.ref t),some (.ref o),some (.ref b),some (.str x.g.st),some x.g.he.v,some (.ref gm),some (.int x.g.od),some (.int x.g.pt),some (.str (c1s x.g)),some (.str x.t.st),some x.t.he.v,some (.ref tm),some x.t.nf.v,some (.int x.t.nu),some (.int x.t.le),some (.ref tp),some (.str (c2r x.t)),some (.ref l)] (by rfl) ?_
  fail "";refine⟨.ref l,rfl,?_⟩;fail "";refine⟨"marks",tm,x.t.ms,rfl,by decide,etm,Nat.le_trans tn.tl ↑5,tn.tm,λH5 s5=>?_⟩
  have e4:=s5 _ _ e4;have etp:=s5 _ _ etp;have eo:=eo.same s5;have eb:=eb.same s5;fail "";refine⟨"parts",tp,x.t.pa,rfl,by decide,etp,Nat.le_trans tn.tq ↑5,tn.tp,λH6 s6=>?_⟩
  have e4:=s6 _ _ e4;have eo:=eo.same s6;have eb:=eb.same s6;fail "";refine⟨by show 2<=sizeLine;lia,λl2 hl2=>?_⟩
  generalize u7:upd H6 l2 _=H7;obtain⟨s7,e7⟩:=nwS u7 hl2;have e4:=s7 _ _ e4;have eo:=eo.same s7;have eb:=eb.same s7;refine⟨l,l2,_,_,rfl,rfl,e4,e7,by show 4+2<=sizeLine;lia,?_⟩
  have s38:=b2v (o:=.lst ([V.str (a3f "cells" x.c),.str (c1s x.g),.str (a3f "marks" x.g.ms),.str (c2r x.t)]++[.str (a3f "marks" x.t.ms),.str (a3f "parts" x.t.pa)])) (((s4.trans s5).trans s6).trans s7) hl;have e8:upd H7 l (.lst ([V.str (a3f "cells" x.c),.str (c1s x.g),.str (a3f "marks" x.g.ms),.str (c2r x.t)]++[.str (a3f "marks" x.t.ms),.str (a3f "parts" x.t.pa)])) l=_:=d8;generalize upd H7 l (.lst ([V.str (a3f "cells" x.c),.str (c1s x.g),.str (a3f "marks" x.g.ms),.str (c2r x.t)]++[.str (a3f "marks" x.t.ms),.str (a3f "parts" x.t.pa)]))=H8 at s38 e8 ⊢;clear eo eb e4 e7 u4 u7;have eo:=eo3.same s38;have eb:=eb3.same s38;fail "";refine⟨.ref l,rfl,?_⟩;fail "";refine c1w ⟨by simp only[Str.length_append];lia,a7o ?_⟩
  fail "";refine⟨o,x.os,rfl,eo,tn.os,λH9 s9=>⟨ordT x.os,.inl ⟨rfl,by lia⟩,by simp only[Str.length_append];lia,by simp only[Str.length_append];lia,?_⟩⟩
  rw[b8w];have e8:=s9 _ _ e8;have eb:=eb.same s9;fail "";refine c1w ⟨by simp only[Str.length_append];lia,a7o ?_⟩
  fail "";refine⟨b,x.bk,rfl,eb,tn.bk,λHA sA=>⟨ordT x.bk,.inl ⟨rfl,by lia⟩,by simp only[Str.length_append];lia,by simp only[Str.length_append];lia,?_⟩⟩
  rw[b8w];have e8:=sA _ _ e8;fail "";refine⟨by show 2<=sizeLine;lia,λl3 hl3=>?_⟩
  generalize uB:upd HA l3 _=HB;obtain⟨sB,eB⟩:=nwS uB hl3;have e8:=sB _ _ e8;refine⟨l,l3,_,_,rfl,rfl,e8,eB,by show 6+2<=sizeLine;lia,?_⟩
  fail "";have w1:=a2x (v:="cells") ↑5 lc tn.c;have w2:=a2x (v:="marks") ↑5 tn.gl tn.gm;have w3:=a2x (v:="marks") ↑5 tn.tl tn.tm;have w4:=a2x (v:="parts") ↑5 tn.tq tn.tp;have w5:(c1s x.g).length<=300:=by
   rw[<- c1r];simp only[Str.length_append];lia
  have w6:(c2r x.t).length<=300:=by
   rw[<- c0u];simp only[Str.length_append];lia
  refine a3b b1k (ss:=rowsS x) d8 ?_ ?_
  ·unfold rowsS
   simp only[y0,b0s,Str.length_append];lia
  exact k _ (s1.trans ((s2.trans s3).trans (b2v (((s38.trans s9).trans sA).trans sB) hl)))
end
section
open PySem PySem.Spec L2
section
variable{P:Program}{w:World}{K:Frag}{mg:Str->Option Value}{base:Heap}{cl:Cl}
theorem a6t{H H':Hp}{p:Addr}(s:Same H H')(h:H' p=none):H p=none:=by
 cases e:H p with
 | none=>rfl
 | some o=>rw[s _ _ e] at h;cases h
theorem d2t{H:Hp}{D:Addr}{os:List (List Int)}{i:Int}(r:Rws H D os)(h0:0<=i)(h1:i<os.length):∃xs q,H D=some (.lst xs)/\xs.length=os.length/\atI xs i=some (.ref q)/\H q=some (.lst ((os.getD i.toNat []).map V.int)):=by
 obtain⟨ps,e,l,r⟩:=r;have hj:i.toNat<os.length:=by lia
 obtain⟨q,hq⟩:∃q,ps[i.toNat]?=some q:=⟨_,List.getElem?_eq_getElem (by lia)⟩
 refine⟨_,q,e,by rw[List.length_map];exact l,?_,?_⟩
 ·unfold atI ixN
  rw[if_pos h0,if_pos (by rw[List.length_map];lia)]
  show(ps.map V.ref)[i.toNat]?=_;rw[List.getElem?_map,hq];rfl
 ·rw[List.getD_eq_getElem?_getD,List.getElem?_eq_getElem hj]
  exact r _ q _ hq (List.getElem?_eq_getElem hj)
def a8g:Sp:=λvs H Q _=>∃wl,vs=[.ref wl]/\Well H wl/\∀r H',0<=r->r<10 ^ 59->Well H' wl->But wl H H'->Q (.int r) H'
abbrev b2x:Stmt:=top 87
theorem c2u:j3 ["well"] ["well"] (g7 b2x):=↑1
theorem c3a(D:DefT K mg "_law_far" b2x ["well"])(T:Txt K mg cl)(G_law_take:FnT P w K mg base "_law_take" 1 ["well","many"] a1g):FnT P w K mg base "_law_far" 2 ["well"] a8g:=by
 refine D.fn c2u (λvs H Q E h=>?_) ↑2
 ·obtain⟨wl,rfl,_⟩:=h
  rfl
 ·obtain⟨wl,rfl,hw,k⟩:=h
  refine⟨_,(f8 (i5 (o0 (i8 (K:=K)) (m5 (d4 ↑4 (d4 (j5 G_law_take hr ↑5 rfl k7 (d4 (pv 0) (d4 (j8 c1j d7 d7) d5))) d5))) (j8 a7t ↑4 d7) (λ_ _=>rfl)))),?_⟩;fail "";refine⟨wl,9,rfl,hw,by decide,by decide,λr1 H1 a1 b1 w1 c1=>?_⟩
  fail "";refine⟨wl,10 ^ 59,rfl,w1,by decide,by decide,λr2 H2 a2 b2 w2 c2=>?_⟩
  fail "";refine⟨by show 2<=sizeLine;decide,λl hl=>?_⟩
  generalize u3:upd H2 l _=H3;obtain⟨s3,e3⟩:=nwS u3 hl;fail "";refine⟨wl,5,rfl,w2.same s3,by decide,by decide,λr4 H4 a4 b4 w4 c4=>?_⟩
  have e4:=c4 _ _ e3 (w2.ne hl);have bt:But wl H H4:=((c1.trans c2).trans (But.of s3)).trans c4;fail "";by_cases z:r4<4
  ·refine a4d (v:=.int r1) e4 ?_ ?_
   ·rw[show r4 / 4=0 by lia];rfl
   ·exact k r1 H4 a1 (by lia) w4 bt
  ·refine a4d (v:=.int r2) e4 ?_ ?_
   ·rw[show r4 / 4=1 by lia];rfl
   ·exact k r2 H4 a2 b2 w4 bt
def RW(H:Hp)(wl oa:Addr)(os:List (List Int)):Prop:=∃ps:List Addr,H oa=some (.lst (ps.map V.ref))/\oa≠wl/\ps.length=os.length/\∀(i:Nat)(p:Addr)(o:List Int),ps[i]?=some p->os[i]?=some o->p≠wl/\H p=some (.lst (o.map V.int))
theorem RW.but{H H':Hp}{wl oa:Addr}{os:List (List Int)}(h:RW H wl oa os)(b:But wl H H'):RW H' wl oa os:=by
 obtain⟨ps,e,n,l,r⟩:=h;exact⟨ps,b _ _ e n,n,l,λi p o hp ho=>⟨(r i p o hp ho).1,b _ _ (r i p o hp ho).2 (r i p o hp ho).1⟩⟩
theorem RW.rws{H:Hp}{wl oa:Addr}{os:List (List Int)}(h:RW H wl oa os):Rws H oa os:=by
 obtain⟨ps,e,n,l,r⟩:=h;exact⟨ps,e,l,λi p o hp ho=>(r i p o hp ho).2⟩
def MK(wl:Addr)(H0:Hp)(D:Addr)(i:Nat)(acc:List V)(H':Hp):Prop:=∃ms:List Int,acc=ms.map V.int/\ms.length=i/\(∀m∈ms,0<=m/\m<=3)/\H' D=some (.lst acc)/\Well H' wl/\But wl H0 H'/\D≠wl
theorem b3z{H H1:Hp}{wl D:Addr}{o:HO}(b:But wl H H1)(hD:H D=none):But wl H (upd H1 D o):=λx u e n=>by
 rw[j4 (g9 e hD)];exact b x u e n
theorem gst(a:Fin 18):(gvU.get a∈b1m ↔ a.val<4)/\(gvU.get a="marks" ↔ a.val=3)/\(gvU.get a="told" ↔ a.val=4)/\(gvU.get a="lacks" ↔ a.val=5)/\(6<=a.val->a.val<12->gvU.get a∈b1o):=by
 revert a
 decide +kernel
def b1b(cl:Cl):Sp:=λvs H Q _=>∃(wl oa:Addr)(n:Nat)(os:List (List Int)),vs=[.ref wl,.int n,.ref oa]/\Well H wl/\2<=n/\n<=8/\RW H wl oa os/\c0q n os/\os.length<=5/\∀p y H',H p=none->Well H' wl->But wl H H'->GT H' p y->c6p n os y->Q (.ref p) H'
abbrev a8t:Stmt:=top 88
theorem a0d:j3 ["well","size","orders","stages","at","turn","seen","number","part"] ["well","size","orders"] (g7 a8t):=↑1
theorem b8j(D:DefT K mg "_law_giver" a8t ["well","size","orders"])(T:Txt K mg cl)(G_law_take:FnT P w K mg base "_law_take" 1 ["well","many"] a1g):FnT P w K mg base "_law_giver" 2 ["well","size","orders"] (b1b cl):=by
 refine D.fn a0d (λvs H Q E h=>?_) ↑2
 ·obtain⟨wl,oa,n,os,rfl,_⟩:=h
  rfl
 ·obtain⟨wl,oa,n,os,rfl,hw,n2,n8,r,hg,lo,k⟩:=h
  refine⟨_,(@d6 _ _ _ _ _ (@i7 _ _ 3 _ _ _ _ a0d.nd rfl (by first|exact Or.inl rfl|exact Or.inr rfl) (@m5 _ _ _ _ (@d4 _ _ _ _ _ f9 (@d4 _ _ _ _ _ f9 (@d4 _ _ _ _ _ f9 (@d4 _ _ _ _ _ f9 (@d4 _ _ _ _ _ f9 (@d4 _ _ _ _ _ f9 ↑3 rfl) rfl) rfl) rfl) rfl) rfl)) (by rfl) (by first|exact .inl rfl|exact .inr rfl))
   (d6 (i7 (i:=3) a0d.nd rfl (by first|exact Or.inl rfl|exact Or.inr rfl) (j8 a2b (pv 3) (@m5 _ _ _ _ ↑3)))
   (d6 (i7 (i:=4) a0d.nd rfl (by first|exact Or.inl rfl|exact Or.inr rfl) (j5 G_law_take hr (by decide) rfl k7 (d4 (pv 0) (d4 (o0 (i8 (K:=K)) (m5 (d4 d7 (d4 d7 d5))) (m6 a3z (by rfl) T.z_int PyProof.Rows.boot_int (d4 (m9 (b3e (K:=K) (n:=0) (huN hr 1)) (pv 2) (m5 d5) (i3 _)) d5)) (λ_ _=>rfl)) d5))))
   (d6 (i7 (i:=5) a0d.nd rfl (by first|exact Or.inl rfl|exact Or.inr rfl) (a5w (g6 a2a (pv 4) d7 (i3 _)) a1i (j5 G_law_take hr ↑5 rfl k7 (d4 (pv 0) (d4 (j8 a0q d7 (pv 1)) d5)))))
   (d6 (i7 (i:=6) a0d.nd rfl (by first|exact Or.inl rfl|exact Or.inr rfl) (m6 (a1w (K:=K)) (by rfl) T.z_tuple PyProof.Rows.boot_tuple (d4 (a1j (N:=["k","well"]) (nt:=1) (fr:=[0]) rfl (a5y (i:=0) rfl rfl (by decide +kernel) (by decide +kernel) rfl rfl rfl rfl rfl rfl rfl) (a1u rfl T.z_range (d4 (j8 a0q (j5 G_law_take hr (by decide) rfl k7 (d4 (pv 0) (d4 (pv 1) d5))) (m6 a3z (by rfl) T.z_int PyProof.Rows.boot_int (d4 (m9 a1k (pv 4) d7 (i3 _)) d5))) d5)) (y9 (by decide)) (λ_ _ _ _ _=>g0 (i:=0) (show(["k","well"]:List Str).Nodup by decide +kernel) rfl (Or.inl rfl) (Or.inr rfl)) (λ_ _ _ _ _=>(j5 G_law_take hr ↑5 rfl b4i (d4 (pv 1) (d4 d7 d5))))) d5)))
   (d6 (i7 (i:=7) a0d.nd rfl (by first|exact Or.inl rfl|exact Or.inr rfl) d7)
   (d6 (i7 (i:=8) a0d.nd rfl (by first|exact Or.inl rfl|exact Or.inr rfl) d7)
   (d6 (v9 (g6 a1k (pv 4) d7 (i3 _))
     (f8 (i7 (i:=7) a0d.nd rfl (by first|exact Or.inl rfl|exact Or.inr rfl) (j8 a4i (j5 G_law_take hr ↑5 rfl k7 (d4 (pv 0) (d4 (j8 a0y (i6 (j2 (K:=K)) (by rfl) T.z_len PySem.boot_len (d4 (pv 2) d5)) d7) d5))) d7)))
     i9)
   (d6 (v9 (g6 b1q (pv 4) d7 (i3 _))
     (
     d6 (i7 (i:=7) a0d.nd rfl (by first|exact Or.inl rfl|exact Or.inr rfl) (j5 G_law_take hr ↑5 rfl k7 (d4 (pv 0) (d4 (j8 a0y (i6 (j2 (K:=K)) (by rfl) T.z_len PySem.boot_len (d4 (pv 2) d5)) (m6 a3z (by rfl) T.z_int PyProof.Rows.boot_int (d4 (m9 a2a (pv 4) d7 (i3 _)) d5))) d5))))
     (f8 (v9 (g6 a2a (pv 7) (i6 (j2 (K:=K)) (by rfl) T.z_len PySem.boot_len (d4 (pv 2) d5)) (i3 _))
      (f8 (i7 (i:=8) a0d.nd rfl (by first|exact Or.inl rfl|exact Or.inr rfl) (j5 G_law_take hr (by decide) rfl k7 (d4 (pv 0) (d4 (i6 (j2 (K:=K)) (by rfl) T.z_len PySem.boot_len (d4 (o0 (i8 (K:=K)) (pv 2) (pv 7) (λ_ _=>rfl)) d5)) d5)))))
      i9)))
     i9)
   (f8 (i5 (a0k (d4 (o0 (i8 (K:=K)) (pv 3) (pv 4) (λ_ _=>rfl)) (d4 (pv 5) (d4 (pv 6) (d4 (pv 7) (d4 (pv 8) d5))))))))))))))))),?_⟩
  have h60:6000<=sizeLine:=by decide
  fail "";refine⟨by show 12<=sizeLine;decide,λp1 hp1=>?_⟩
  generalize u1:upd H p1 _=H1;obtain⟨s1,e1⟩:=nwS u1 hp1;fail "";refine⟨by show 6<=sizeLine;decide,λp2 hp2=>?_⟩
  generalize u2:upd H1 p2 _=H2;obtain⟨s2,e2⟩:=nwS u2 hp2;fail "";refine a7x (s2 _ _ e1) e2 (by show 12+6<=sizeLine;decide) λsg hsg=>?_
  rw[show([.str "rouse",.str "clear",.str "mute",.str "marks",.str "told",.str "lacks",.str "look",.str "wish",.str "again",.str "sleep",.str "hush",.str "unwish"]:List V)++[.str "number",.str "left",.str "thing",.str "mark",.str "card",.str "ring"]=gvU.map V.str from rfl];generalize u3:upd H2 sg _=H3;obtain⟨s3,e3⟩:=nwS u3 hsg;have s03:=(s1.trans s2).trans s3;have nsg:=((hw.same s1).same s2).ne hsg;fail "";refine⟨by show 2<=sizeLine;decide,λp4 hp4=>?_⟩
  generalize u4:upd H3 p4 _=H4;obtain⟨s4,e4⟩:=nwS u4 hp4;fail "";refine⟨Nat.zero_le _,λp5 hp5=>?_⟩;generalize u5:upd H4 p5 _=H5;obtain⟨s5,e5⟩:=nwS u5 hp5;have s05:=(s03.trans s4).trans s5;obtain⟨ps,eo,no,lp,ro⟩:=id r;have eo5:=s05 _ _ eo;have ne5:oa≠p5:=g9 ((s03.trans s4) _ _ eo) hp5;have eqd:EqD K H5 1 (.ref oa) (.ref p5) (decide (os=[])):=by
   cases os with
   | nil=>
    rw[List.length_eq_zero_iff.mp lp] at eo5;exact EqD.lst (K:=K) (e:=λ_=>true) ne5 (SqL.of eo5) (SqL.of e5) rfl (λj x y hx=>by cases hx)
   | cons o os'=>
    refine EqD.lstN ne5 (SqL.of eo5) (SqL.of e5) ?_;rw[List.length_map,lp];simp
  refine c0i eqd ?_;fail "";refine .inr ⟨_,rfl,?_⟩;obtain⟨mx,hat,m0,m18,m12⟩:∃mx:Int,atI [V.int 18,V.int 12] (if decide (os=[])=true then 1 else 0)=some (.int mx)/\0<mx/\mx<=18/\(os=[]->mx=12):=by
   by_cases z:os=[]
   ·rw[decide_eq_true z,if_pos rfl];exact⟨12,rfl,by decide,by decide,λ_=>rfl⟩
   ·rw[decide_eq_false z,if_neg ↑5];exact⟨18,rfl,by decide,by decide,λq=>absurd q z⟩
  refine a4d (s5 _ _ e4) hat ?_;fail "";have ten:(18:Int)<2 ^ 200:=by decide
  refine⟨wl,mx,rfl,hw.same s05,m0,by lia,λat_ H6 a6 b6 w6 c6=>?_⟩
  have B6:But wl H H6:=(But.of s05).trans c6;have e6:=c6 _ _ ((s4.trans s5) _ _ e3) nsg;have hsg0:H sg=none:=a6t (s1.trans s2) hsg;clear u1 u2 u3 u4 u5 e1 e2 e3 e4 e5 s1 s2 s3 s4 s5 s03 s05 hp1 hp2 hp4 hp5 hsg c6 eqd hat eo5 ne5;refine a3x ?_;refine d1e (by assumption) ?_
  refine a5l (λσ' H'=>∃he:Hr,σ'=[some (.ref wl),some (.int n),some (.ref oa),some (.ref sg),some (.int at_),some he.v,none,none,none]/\Well H' wl/\But wl H H'/\H' sg=some (.lst (gvU.map V.str))/\(at_<4->he=.non)/\(4<=at_->∃i,he=.int i/\0<=i/\i<2*(n:Int))) ?_ ?_
  rotate_left
  ·intro R hR
   fail "";by_cases z:at_<4
   ·rw[decide_eq_true z]
    fail "";exact hR _ _ ⟨.non,rfl,w6,B6,e6,λ_=>rfl,λq=>absurd z (by lia)⟩
   ·rw[decide_eq_false z]
    fail "";refine⟨wl,2*(n:Int),rfl,w6,by lia,by lia,λi H7 a7 b7 w7 c7=>?_⟩
    fail "";exact hR _ _ ⟨.int i,rfl,w7,B6.trans c7,c7 _ _ e6 nsg,λq=>absurd q z,λ_=>⟨i,rfl,a7,b7⟩⟩
  rintro σ H7 ⟨he,rfl,w7,B7,e7,t1,t2⟩;clear w6 B6 e6;fail "";refine⟨wl,n,rfl,w7,by lia,by lia,λr8 H8 a8 b8 w8 c8=>?_⟩
  fail "";refine .inr ⟨_,rfl,?_⟩;rw[y6];have B8:=B7.trans c8;have e8:=c8 _ _ e7 nsg;obtain⟨m,em,hm0,hm1⟩:∃m:Nat,r8*(if decide (at_=3)=true then 1 else 0)=(m:Int)/\(at_=3->m<n)/\(at_≠3->m=0):=by
   by_cases z:at_=3
   ·rw[decide_eq_true z,if_pos rfl];exact⟨r8.toNat,by lia,λ_=>by lia,λq=>absurd z q⟩
   ·rw[decide_eq_false z,if_neg ↑5];exact⟨0,by lia,λq=>absurd q z,λ_=>rfl⟩
  have m8:m<=8:=by
   by_cases z:at_=3
   ·have:=hm0 z;lia
   ·have:=hm1 z;lia
  refine⟨r8,_,rfl,rfl,?_,?_⟩
  ·split
   ·exact .inr ⟨by decide,by decide⟩
   ·exact .inr ⟨by decide,by decide⟩
  dsimp only;rw[em];fail "";rw[show((m:Nat):Int).toNat=m from rfl];refine a3j (n:=m) (by lia) (MK wl H8) (λD hD=>⟨[],rfl,rfl,(λ_ z=>(by cases z)),d8,w8.same (d9 hD),But.of (d9 hD),w8.ne hD⟩) ?_ ?_ ?_
  ·rintro D i acc H' ⟨ms,rfl,hl,_,e,_⟩
   exact⟨e,by rw[List.length_map];exact hl⟩
  ·rintro D i acc H' hD hi ⟨ms,rfl,hl,hms,e,w',b',nd⟩
   fail "";refine⟨wl,4,rfl,w',by decide,by decide,λv H9 a9 b9 w9 c9=>?_⟩
   refine⟨c9 _ _ e nd,ms++[v],by rw[List.map_append];rfl,by rw[List.length_append,hl];rfl,λq hq=>?_,?_,?_,b3z (b'.trans c9) hD,nd⟩
   ·rcases List.mem_append.mp hq with hq|hq
    ·exact hms q hq
    ·rw[List.mem_singleton.mp hq];lia
   ·rw[d8]
   ·obtain⟨x1,x2,x3,ew,z⟩:=w9
    exact⟨x1,x2,x3,(j4 (Ne.symm nd)).trans ew,z⟩
  rintro D acc H9 hD ⟨ms,rfl,hl,hms,e9,w9,b9,nd⟩;fail "";intro sn hsn;generalize u10:upd H9 sn _=H10;obtain⟨s10,e10⟩:=nwS u10 hsn;have B10:=(B8.trans b9).trans (But.of s10);have e10s:=s10 _ _ (b9 _ _ e8 nsg);have w10:=w9.same s10;have nsn:=w9.ne hsn;have mf1:at_=3->ms.length<n:=λz=>by rw[hl];exact hm0 z
  have mf2:at_≠3->ms=[]:=λz=>List.length_eq_zero_iff.mp (by rw[hl];exact hm1 z)
  clear u10 e9 s10 hsn b9 w9 e8 B8 c8 w8 e7 B7 w7 hD nd hl;refine a3x ?_;refine d1e (by assumption) ?_
  refine a5l (λσ' H'=>σ'=[some (.ref wl),some (.int n),some (.ref oa),some (.ref sg),some (.int at_),some he.v,some (.ref sn),some (.int 0),none]/\H'=H10) ?_ ?_
  rotate_left
  ·intro R hR
   fail "";exact hR _ _ ⟨rfl,rfl⟩
  rintro σ H11 ⟨rfl,rfl⟩;refine a5l (λσ' H'=>σ'=[some (.ref wl),some (.int n),some (.ref oa),some (.ref sg),some (.int at_),some he.v,some (.ref sn),some (.int 0),some (.int 0)]/\H'=H11) ?_ ?_
  rotate_left
  ·intro R hR
   fail "";exact hR _ _ ⟨rfl,rfl⟩
  rintro σ H10 ⟨rfl,rfl⟩;have fact:∀{H':Hp},But wl H10 H'->Well H' wl->Well H' wl/\But wl H H'/\H' sg=some (.lst (gvU.map V.str))/\H' sn=some (.tup (ms.map V.int)):=λb w=>⟨w,B10.trans b,b _ _ e10s nsg,b _ _ e10 nsn⟩;refine a5l (λσ' H'=>∃od:Int,σ'=[some (.ref wl),some (.int n),some (.ref oa),some (.ref sg),some (.int at_),some he.v,some (.ref sn),some (.int od),some (.int 0)]/\Well H' wl/\But wl H10 H'/\(at_≠5->od=0)/\(at_=5->-1<=od/\od<os.length)) ?_ ?_
  rotate_left
  ·intro R hR
   fail "";rw[y6];have eo10:=B10 _ _ eo no;by_cases z:at_=5
   ·rw[decide_eq_true z]
    fail "";rw[List.length_map,lp];refine⟨wl,(os.length:Int)+1,rfl,w10,by lia,by lia,λv H12 a12 b12 w12 c12=>?_⟩
    fail "";exact hR _ _ ⟨v-1,rfl,w12,c12,λq=>absurd z q,λ_=>by lia⟩
   ·rw[decide_eq_false z]
    fail "";exact hR _ _ ⟨0,rfl,w10,But.refl _ _,λ_=>rfl,λq=>absurd q z⟩
  rintro σ H12 ⟨od,rfl,w12,c12,o1,o2⟩;refine a5l (λσ' H'=>∃od pt:Int,σ'=[some (.ref wl),some (.int n),some (.ref oa),some (.ref sg),some (.int at_),some he.v,some (.ref sn),some (.int od),some (.int pt)]/\Well H' wl/\But wl H10 H'/\(at_<5->od=0/\pt=0)/\(at_=5->(-1<=od/\od<os.length)/\pt=0)/\(5<at_->(od=os.length/\pt=0/\at_<12)\/((0<=od/\od<os.length)/\0<=pt/\pt<(os.getD od.toNat []).length))) ?_ ?_
  rotate_left
  ·intro R hR
   fail "";by_cases z:5<at_
   ·rw[decide_eq_true z]
    have r12:=r.but (B10.trans c12);obtain⟨ps2,eo12,no2,lp2,ro2⟩:=id r12;fail "";refine .inr ⟨_,rfl,?_⟩;rw[List.length_map,lp2];have pos:0<(os.length:Int)+(if decide (at_<12)=true then 1 else 0):=by
     by_cases y:at_<12
     ·rw[decide_eq_true y,if_pos rfl];lia
     ·rw[decide_eq_false y,if_neg ↑5]
      cases os with
      | nil=>have:=m12 rfl;lia
      | cons=>show(0:Int)<((_+1:Nat):Int)+0;lia
    dsimp only;fail "";refine⟨wl,_,rfl,w12,pos,by split <;> lia,λv H14 a14 b14 w14 c14=>?_⟩
    have r14:=r12.but c14;obtain⟨ps3,eo14,no3,lp3,ro3⟩:=id r14;fail "";rw[List.length_map,lp3];by_cases y:v<os.length
    ·rw[decide_eq_true y]
     obtain⟨xs,q,eD,_,hat,eq⟩:=d2t r14.rws a14 y;have hj:v.toNat<os.length:=by lia
     have h1:=(hg _ (List.getElem_mem hj));have el:(os.getD v.toNat [])=os[v.toNat]:=by rw[List.getD_eq_getElem?_getD,List.getElem?_eq_getElem hj];rfl
     fail "";refine a4d eD hat ?_;fail "";rw[List.length_map];refine⟨wl,_,rfl,w14,by rw[el];lia,by rw[el];lia,λu H15 a15 b15 w15 c15=>?_⟩
     fail "";exact hR _ _ ⟨v,u,rfl,w15,(c12.trans c14).trans c15,λq=>absurd z (by lia),λq=>absurd z (by lia),λ_=>.inr ⟨⟨a14,y⟩,a15,b15⟩⟩
    ·rw[decide_eq_false y]
     fail "";refine hR _ _ ⟨v,0,rfl,w14,c12.trans c14,λq=>absurd z (by lia),λq=>absurd z (by lia),λ_=>.inl ⟨?_,rfl,?_⟩⟩
     ·by_cases x:at_<12
      ·rw[decide_eq_true x,if_pos rfl] at b14;lia
      ·rw[decide_eq_false x,if_neg ↑5] at b14;lia
     ·by_cases x:at_<12
      ·exact x
      ·rw[decide_eq_false x,if_neg ↑5] at b14;lia
   ·rw[decide_eq_false z]
    fail "";exact hR _ _ ⟨od,0,rfl,w12,c12,λq=>⟨o1 (by lia),rfl⟩,λq=>⟨o2 q,rfl⟩,λq=>absurd q z⟩
  rintro σ H13 ⟨od,pt,rfl,w13,c13,p1,p2,p3⟩;obtain⟨w13,B13,e13,en13⟩:=fact c13 w13;have ha:at_.toNat<18:=by lia
  obtain⟨g1,g2,g3,g4,g5⟩:=gst ⟨at_.toNat,ha⟩;dsimp only at g1 g2 g3 g4 g5;fail "";refine a4d (v:=.str (gvU.get ⟨at_.toNat,ha⟩)) e13 ?_ ?_
  ·unfold atI ixN
   rw[if_pos a6,if_pos (by show at_<18;lia)]
   show(gvU.map V.str)[at_.toNat]?=_;rw[List.getElem?_map,List.getElem?_eq_getElem ha]
   rfl
  have hin:gvU.get ⟨at_.toNat,ha⟩∈gvU:=List.get_mem _ _;generalize gvU.get ⟨at_.toNat,ha⟩=st at *;fail "";refine⟨by show 5<=sizeLine;decide,λp hp=>?_⟩
  have hp0:H p=none:=by
   cases e:H p with
   | none=>rfl
   | some o=>
    have:p≠wl:=λz=>by
     obtain⟨_,_,_,ew,_⟩:=w13;rw[z,ew] at hp;cases hp
    rw[B13 _ _ e this] at hp;cases hp
  refine k p ⟨st,he,ms,od,pt⟩ _ hp0 (w13.same (d9 hp)) (B13.trans (But.of (d9 hp))) ⟨sn,d8,d9 hp _ _ en13⟩ ⟨hin,?_,?_,?_⟩
  ·show a3k n st he
   unfold a3k;by_cases c:st∈b1m
   ·rw[if_pos c];exact t1 (by have:=g1.mp c;lia)
   ·rw[if_neg c];exact t2 (by have:¬ at_.toNat<4:=λz=>c (g1.mpr z);lia)
  ·show a2y n st ms
   unfold a2y;by_cases c:st="marks"
   ·rw[if_pos c];exact⟨mf1 (by have:=g2.mp c;lia),hms⟩
   ·rw[if_neg c];exact mf2 λz=>c (g2.mpr (by lia))
  ·show b5x st od pt os
   unfold b5x;by_cases c:st∈b1m\/st="told"
   ·rw[if_pos c]
    exact p1 (by
           rcases c with c|c
           ·have:=g1.mp c;lia
           ·have:=g3.mp c;lia)
   ·rw[if_neg c]
    have n4:¬ at_.toNat<4:=λz=>c (.inl (g1.mpr z));have n5:at_.toNat≠4:=λz=>c (.inr (g3.mpr z));by_cases c2:st="lacks"
    ·rw[if_pos c2];exact p2 (by have:=g4.mp c2;lia)
    ·rw[if_neg c2]
     have n6:at_.toNat≠5:=λz=>c2 (g4.mpr z);rcases p3 (by lia) with ⟨q1,q2,q3⟩|⟨q1,q2⟩
     ·rw[if_pos q1];exact⟨g5 (by lia) (by lia),q2⟩
     ·rw[if_neg (by lia)];exact⟨q1,q2⟩
def NK(wl:Addr)(H0:Hp)(D:Addr)(i:Nat)(acc:List V)(H':Hp):Prop:=∃ms:List Int,acc=ms.map V.int/\ms.length=i/\b4r ms/\H' D=some (.lst acc)/\Well H' wl/\But wl H0 H'/\D≠wl
def d7n(y:TSd):Prop:=y.nu.natAbs<10 ^ 60/\y.le.natAbs<10 ^ 60/\b4r y.pa/\y.pa.length<=8
theorem c6a{v u:Int}(a:0<=v)(b:v<10 ^ 59)(c:0<=u)(d:u<10 ^ 59):(v-u).natAbs<10 ^ 60:=by lia
theorem tst(a:Fin 16):(tkU.get a∈b1m ↔ a.val<4)/\(tkU.get a="marks" ↔ a.val=3)/\(tkU.get a∈a9a ↔ 13<=a.val):=by
 revert a
 decide +kernel
theorem b8r{H:Hp}{Q:VK}{t:Addr}{x:Str}{xs:List Str}(h:SqL K H t (xs.map V.str))(q:Q (.bl (decide (x∈xs))) H):rIn K false (.str x) (.ref t) H Q :=
 ⟨t,_,rfl,.inl h,rfl,a5e xs,by rw[if_neg ↑5,b2b];exact q⟩
theorem b2e{H H':Hp}{wl p:Addr}(b:But wl H H')(hw:Well H' wl)(hp:H' p=none):H p=none:=by
 cases e:H p with
 | none=>rfl
 | some o=>
  have:p≠wl:=λz=>by
   obtain⟨_,_,_,ew,_⟩:=hw;rw[z,ew] at hp;cases hp
  rw[b _ _ e this] at hp;cases hp
def b0z(cl:Cl):Sp:=λvs H Q _=>∃(wl:Addr)(n:Nat),vs=[.ref wl,.int n]/\Well H wl/\2<=n/\n<=8/\∀p y H',H p=none->Well H' wl->But wl H H'->TT H' p y->c6o n y->d7n y->Q (.ref p) H'
abbrev a8r:Stmt:=top 89
theorem a0j:j3 ["well","size","stages","at","seen","first","far","parts","number","left"] ["well","size"] (g7 a8r):=↑1
theorem b8h(D:DefT K mg "_law_taker" a8r ["well","size"])(T:Txt K mg cl)(G_law_take:FnT P w K mg base "_law_take" 1 ["well","many"] a1g)(G_law_far:FnT P w K mg base "_law_far" 2 ["well"] a8g):FnT P w K mg base "_law_taker" 3 ["well","size"] (b0z cl):=by
 refine D.fn a0j (λvs H Q E h=>?_) ↑2
 ·obtain⟨wl,n,rfl,_⟩:=h
  rfl
 ·obtain⟨wl,n,rfl,hw,n2,n8,k⟩:=h
  refine⟨_,(@d6 _ _ _ _ _ (@i7 _ _ 2 _ _ _ _ a0j.nd rfl (by first|exact Or.inl rfl|exact Or.inr rfl) (@m5 _ _ _ _ (@d4 _ _ _ _ _ f9 (@d4 _ _ _ _ _ f9 (@d4 _ _ _ _ _ f9 (@d4 _ _ _ _ _ f9 ↑3 rfl) rfl) rfl) rfl)) (by rfl) (by first|exact .inl rfl|exact .inr rfl))
   (d6 (i7 (i:=2) a0j.nd rfl (by first|exact Or.inl rfl|exact Or.inr rfl) (j8 a2b (pv 2) (@m5 _ _ _ _ ↑3)))
   (d6 (i7 (i:=3) a0j.nd rfl (by first|exact Or.inl rfl|exact Or.inr rfl) ↑4)
   (d6 (v9 (g6 a2a (pv 3) d7 (i3 _))
     (
     d6 (i7 (i:=4) a0j.nd rfl (by first|exact Or.inl rfl|exact Or.inr rfl) (m6 (a1w (K:=K)) (by rfl) T.z_tuple PyProof.Rows.boot_tuple (d4 (a1j (N:=["k","well"]) (nt:=1) (fr:=[0]) rfl (a5y (i:=0) rfl rfl (by decide +kernel) (by decide +kernel) rfl rfl rfl rfl rfl rfl rfl) (a1u rfl T.z_range (d4 (j8 a0q (j5 G_law_take hr (by decide) rfl k7 (d4 (pv 0) (d4 (pv 1) d5))) (m6 a3z (by rfl) T.z_int PyProof.Rows.boot_int (d4 (m9 a1k (pv 3) d7 (i3 _)) d5))) d5)) (y9 (by decide)) (λ_ _ _ _ _=>g0 (i:=0) (show(["k","well"]:List Str).Nodup by decide +kernel) rfl (Or.inl rfl) (Or.inr rfl)) (λ_ _ _ _ _=>(j5 G_law_take hr ↑5 rfl b4i (d4 (pv 1) (d4 d7 d5))))) d5)))
     (f8 (i5 (a0k (d4 (o0 (i8 (K:=K)) (pv 2) (pv 3) (λ_ _=>rfl)) (d4 a1i (d4 (pv 4) (d4 a1i (d4 d7 (d4 d7 (d4 (a0k d5) d5)))))))))))
     i9)
   (d6 (i7 (i:=5) a0j.nd rfl (by first|exact Or.inl rfl|exact Or.inr rfl) (j5 G_law_take hr ↑5 rfl k7 (d4 (pv 0) (d4 (j8 a0q d7 (pv 1)) d5))))
   (d6 (i7 (i:=6) a0j.nd rfl (by first|exact Or.inl rfl|exact Or.inr rfl) (j5 G_law_take hr ↑5 rfl k7 (d4 (pv 0) (d4 (pv 1) d5))))
   (d6 (i7 (i:=7) a0j.nd rfl (by first|exact Or.inl rfl|exact Or.inr rfl) (m6 (a1w (K:=K)) (by rfl) T.z_tuple PyProof.Rows.boot_tuple (d4 (a1j (N:=["k","well"]) (nt:=1) (fr:=[0]) rfl (a5y (i:=0) rfl rfl (by decide +kernel) (by decide +kernel) rfl rfl rfl rfl rfl rfl rfl) (a1u rfl T.z_range (d4 (j8 a0q (pv 6) (m6 a3z (by rfl) T.z_int PyProof.Rows.boot_int (d4 (m9 a2a (pv 3) d7 (i3 _)) d5))) d5)) (y9 (by decide)) (λ_ _ _ _ _=>g0 (i:=0) (show(["k","well"]:List Str).Nodup by decide +kernel) rfl (Or.inl rfl) (Or.inr rfl)) (λ_ _ _ _ _=>(j8 a4i (j5 G_law_far hr ↑5 rfl b4i (d4 (pv 1) d5)) (j5 G_law_far hr ↑5 rfl b4i (d4 (pv 1) d5))))) d5)))
   (d6 (i7 (i:=8) a0j.nd rfl (by first|exact Or.inl rfl|exact Or.inr rfl) (j8 a0q (j8 a4i (j5 G_law_far hr (by decide) rfl k7 (d4 (pv 0) d5)) d7) (m6 a3z (by rfl) T.z_int PyProof.Rows.boot_int (d4 (m9 (a3u (K:=K)) (o0 (i8 (K:=K)) (pv 2) (pv 3) (λ_ _=>rfl)) (m5 (d4 f9 (d4 f9 d5))) (by with_unfolding_all rfl)) d5))))
   (d6 (i7 (i:=9) a0j.nd rfl (by first|exact Or.inl rfl|exact Or.inr rfl) (j8 a0q (j5 G_law_take hr (by decide) rfl k7 (d4 (pv 0) (d4 (pv 1) d5))) (m6 a3z (by rfl) T.z_int PyProof.Rows.boot_int (d4 (m9 a1k (o0 (i8 (K:=K)) (pv 2) (pv 3) (λ_ _=>rfl)) f9 (i3 _)) d5))))
   (f8 (i5 (a0k (d4 (o0 (i8 (K:=K)) (pv 2) (pv 3) (λ_ _=>rfl)) (d4 (j8 a5c (j8 a0y (pv 5) (pv 6)) (j8 a0q d7 (pv 1))) (d4 (a0k d5) (d4 (pv 5) (d4 (pv 8) (d4 (pv 9) (d4 (pv 7) d5))))))))))))))))))),?_⟩
  have h60:6000<=sizeLine:=by decide
  fail "";refine⟨by show 10<=sizeLine;decide,λp1 hp1=>?_⟩
  generalize u1:upd H p1 _=H1;obtain⟨s1,e1⟩:=nwS u1 hp1;fail "";refine⟨by show 6<=sizeLine;decide,λp2 hp2=>?_⟩
  generalize u2:upd H1 p2 _=H2;obtain⟨s2,e2⟩:=nwS u2 hp2;fail "";refine a7x (s2 _ _ e1) e2 (by show 10+6<=sizeLine;decide) λsg hsg=>?_
  rw[show([.str "rouse",.str "clear",.str "mute",.str "marks",.str "look",.str "wish",.str "again",.str "sleep",.str "hush",.str "unwish"]:List V)++[.str "number",.str "left",.str "thing",.str "free",.str "card",.str "ring"]=tkU.map V.str from rfl];generalize u3:upd H2 sg _=H3;obtain⟨s3,e3⟩:=nwS u3 hsg;have s03:=(s1.trans s2).trans s3;have nsg:=((hw.same s1).same s2).ne hsg;fail "";refine⟨wl,16,rfl,hw.same s03,by decide,by decide,λat_ H6 a6 b6 w6 c6=>?_⟩
  have B6:But wl H H6:=(But.of s03).trans c6;have e6:=c6 _ _ e3 nsg;clear u1 u2 u3 e1 e2 e3 s1 s2 s3 s03 hp1 hp2 hsg c6;have ha:at_.toNat<16:=by lia
  obtain⟨g1,g2,g3⟩:=tst ⟨at_.toNat,ha⟩;dsimp only at g1 g2 g3;have hat:atI (tkU.map V.str) at_=some (.str (tkU.get ⟨at_.toNat,ha⟩)):=by
   unfold atI ixN;rw[if_pos a6,if_pos (by show at_<16;lia)]
   show(tkU.map V.str)[at_.toNat]?=_;rw[List.getElem?_map,List.getElem?_eq_getElem ha]
   rfl
  have hin:tkU.get ⟨at_.toNat,ha⟩∈tkU:=List.get_mem _ _;generalize tkU.get ⟨at_.toNat,ha⟩=st at *;fail "";by_cases z:at_<4
  ·rw[decide_eq_true z]
   have cu:st∈b1m:=g1.mpr (by lia)
   fail "";refine⟨wl,n,rfl,w6,by lia,by lia,λr8 H8 a8 b8 w8 c8=>?_⟩
   fail "";refine .inr ⟨_,rfl,?_⟩;rw[y6];have B8:=B6.trans c8;have e8:=c8 _ _ e6 nsg;obtain⟨m,em,hm0,hm1⟩:∃m:Nat,r8*(if decide (at_=3)=true then 1 else 0)=(m:Int)/\(at_=3->m<n)/\(at_≠3->m=0):=by
    by_cases z:at_=3
    ·rw[decide_eq_true z,if_pos rfl];exact⟨r8.toNat,by lia,λ_=>by lia,λq=>absurd z q⟩
    ·rw[decide_eq_false z,if_neg ↑5];exact⟨0,by lia,λq=>absurd q z,λ_=>rfl⟩
   have m8:m<=8:=by
    by_cases z:at_=3
    ·have:=hm0 z;lia
    ·have:=hm1 z;lia
   refine⟨r8,_,rfl,rfl,?_,?_⟩
   ·split
    ·exact .inr ⟨by decide,by decide⟩
    ·exact .inr ⟨by decide,by decide⟩
   dsimp only;rw[em];fail "";rw[show((m:Nat):Int).toNat=m from rfl];refine a3j (n:=m) (by lia) (MK wl H8) (λD hD=>⟨[],rfl,rfl,(λ_ z=>(by cases z)),d8,w8.same (d9 hD),But.of (d9 hD),w8.ne hD⟩) ?_ ?_ ?_
   ·rintro D i acc H' ⟨ms,rfl,hl,_,e,_⟩
    exact⟨e,by rw[List.length_map];exact hl⟩
   ·rintro D i acc H' hD hi ⟨ms,rfl,hl,hms,e,w',b',nd⟩
    fail "";refine⟨wl,4,rfl,w',by decide,by decide,λv H9 a9 b9 w9 c9=>?_⟩
    refine⟨c9 _ _ e nd,ms++[v],by rw[List.map_append];rfl,by rw[List.length_append,hl];rfl,λq hq=>?_,?_,?_,b3z (b'.trans c9) hD,nd⟩
    ·rcases List.mem_append.mp hq with hq|hq
     ·exact hms q hq
     ·rw[List.mem_singleton.mp hq];lia
    ·rw[d8]
    ·obtain⟨x1,x2,x3,ew,z⟩:=w9
     exact⟨x1,x2,x3,(j4 (Ne.symm nd)).trans ew,z⟩
   rintro D acc H9 hD ⟨ms,rfl,hl,hms,e9,w9,b9,nd⟩;fail "";intro sn hsn;generalize u10:upd H9 sn _=H10;obtain⟨s10,e10⟩:=nwS u10 hsn;have B10:=(B8.trans b9).trans (But.of s10);have e10s:=s10 _ _ (b9 _ _ e8 nsg);have w10:=w9.same s10;fail "";refine a4d e10s hat ?_;fail "";refine⟨Nat.zero_le _,λq hq=>?_⟩;generalize u11:upd H10 q _=H11;obtain⟨s11,e11⟩:=nwS u11 hq;fail "";refine⟨by show 7<=sizeLine;decide,λp hp=>?_⟩
   have sq:=d9 (o:=.tup [.str st,.non,.ref sn,.non,.int 0,.int 0,.ref q]) hp;have B11:=B10.trans (But.of s11);refine k p ⟨st,.non,ms,.non,0,0,[]⟩ _ (b2e B11 (w10.same s11) hp) ((w10.same s11).same sq) (B11.trans (But.of sq)) ⟨sn,q,d8,sq _ _ (s11 _ _ e10),sq _ _ e11⟩ ⟨hin,?_,?_,?_,⟨.inl rfl,.inl rfl⟩,?_⟩ ⟨by show(0:Int).natAbs<_;decide,by show(0:Int).natAbs<_;decide,λ_ z=>(by cases z),Nat.zero_le _⟩
   ·show a3k n st .non
    unfold a3k;rw[if_pos cu]
   ·show a3k n st .non
    unfold a3k;rw[if_pos cu]
   ·show a2y n st ms
    unfold a2y;by_cases c:st="marks"
    ·rw[if_pos c];exact⟨by rw[hl];exact hm0 (by have:=g2.mp c;lia),hms⟩
    ·rw[if_neg c];exact List.length_eq_zero_iff.mp (by rw[hl];exact hm1 λy=>c (g2.mpr (by lia)))
   ·show a5b n ⟨st,.non,ms,.non,0,0,[]⟩
    unfold a5b;rw[if_pos cu]
  ·rw[decide_eq_false z]
   fail "";have nc:st ∉ b1m:=λc=>z (by have:=g1.mp c;lia)
   refine⟨wl,2*(n:Int),rfl,w6,by lia,by lia,λfi H7 a7 b7 w7 c7=>?_⟩
   fail "";refine⟨wl,n,rfl,w7,by lia,by lia,λfa H8 a8 b8 w8 c8=>?_⟩
   have B8:=(B6.trans c7).trans c8;have e8:=c8 _ _ (c7 _ _ e6 nsg) nsg;fail "";refine .inr ⟨_,rfl,?_⟩;obtain⟨m,em,hm⟩:∃m:Nat,fa*(if decide (at_<13)=true then 1 else 0)=(m:Int)/\(m:Int)=if at_<13 then fa else 0:=by
    by_cases y:at_<13
    ·rw[decide_eq_true y,if_pos rfl,if_pos y];exact⟨fa.toNat,by lia,by lia⟩
    ·rw[decide_eq_false y,if_neg ↑5,if_neg y];exact⟨0,by lia,by lia⟩
   have m8:m<=8:=by split at hm <;> lia
   refine⟨fa,_,rfl,rfl,?_,?_⟩
   ·split
    ·exact .inr ⟨by decide,by decide⟩
    ·exact .inr ⟨by decide,by decide⟩
   dsimp only;rw[em];fail "";rw[show((m:Nat):Int).toNat=m from rfl];refine a3j (n:=m) (by lia) (NK wl H8) (λD hD=>⟨[],rfl,rfl,(λ_ z=>(by cases z)),d8,w8.same (d9 hD),But.of (d9 hD),w8.ne hD⟩) ?_ ?_ ?_
   ·rintro D i acc H' ⟨ms,rfl,hl,_,e,_⟩
    exact⟨e,by rw[List.length_map];exact hl⟩
   ·rintro D i acc H' hD hi ⟨ms,rfl,hl,tms,e,w',b',nd⟩
    fail "";refine⟨wl,rfl,w',λv H9 a9 b9 w9 c9=>?_⟩;fail "";refine⟨wl,rfl,w9,λu H10 a10 b10 w10 c10=>?_⟩;fail "";have c90:=c9.trans c10;refine⟨c90 _ _ e nd,ms++[v-u],by rw[List.map_append];rfl,by rw[List.length_append,hl];rfl,λy hy=>?_,?_,?_,b3z (b'.trans c90) hD,nd⟩
    ·rcases List.mem_append.mp hy with hy|hy
     ·exact tms y hy
     ·rw[List.mem_singleton.mp hy];exact c6a a9 b9 a10 b10
    ·rw[d8]
    ·obtain⟨x1,x2,x3,ew,z⟩:=w10
     exact⟨x1,x2,x3,(j4 (Ne.symm nd)).trans ew,z⟩
   rintro D acc H9 hD ⟨ms,rfl,hl,tms,e9,w9,b9,nd⟩;fail "";intro pa hpa;generalize u10:upd H9 pa _=H10;obtain⟨s10,e10⟩:=nwS u10 hpa;have B10:=(B8.trans b9).trans (But.of s10);have e10s:=s10 _ _ (b9 _ _ e8 nsg);have w10:=w9.same s10;have npa:=w9.ne hpa;clear u10 e9 s10 hpa b9 w9 e8 B8 c8 w8 hD nd c7 w7 e6 B6 w6;fail "";refine⟨wl,rfl,w10,λr11 H11 a11 b11 w11 c11=>?_⟩;have e11s:=c11 _ _ e10s nsg;fail "";refine a4d e11s hat ?_;fail "";refine⟨by show 2<=sizeLine;decide,λl12 hl12=>?_⟩
   generalize u12:upd H11 l12 _=H12;obtain⟨s12,e12⟩:=nwS u12 hl12;refine b8r (xs:=["left","thing"]) (SqL.of e12) ?_;fail "";refine .inr ⟨_,rfl,?_⟩;refine⟨r11-2,_,rfl,rfl,?_,?_⟩
   ·split
    ·exact .inr ⟨by decide,by decide⟩
    ·exact .inr ⟨by decide,by decide⟩
   dsimp only;obtain⟨nu,enu,hnu,tnu⟩:∃nu:Int,(r11-2)*(if decide (st∈(["left","thing"]:List Str))=true then 1 else 0)=nu/\(nu=0\/st="left"\/st="thing")/\nu.natAbs<10 ^ 60:=by
    by_cases y:st∈(["left","thing"]:List Str)
    ·rw[decide_eq_true y,if_pos rfl];exact⟨_,rfl,.inr (by simpa using y),by lia⟩
    ·rw[decide_eq_false y,if_neg ↑5];exact⟨_,rfl,.inl (by lia),by lia⟩
   rw[enu];have e12s:=s12 _ _ e11s;have B12:=(B10.trans c11).trans (But.of s12);have w12:=w11.same s12;have e12p:=s12 _ _ (c11 _ _ e10 npa);fail "";refine⟨wl,n,rfl,w12,by lia,by lia,λr13 H13 a13 b13 w13 c13=>?_⟩
   have e13s:=c13 _ _ e12s nsg;have e13p:=c13 _ _ e12p npa;have B13:=B12.trans c13;fail "";refine a4d e13s hat ?_;fail "";refine .inr ⟨_,rfl,?_⟩;rw[a1r];refine⟨r13,_,rfl,rfl,?_,?_⟩
   ·split
    ·exact .inr ⟨by decide,by decide⟩
    ·exact .inr ⟨by decide,by decide⟩
   dsimp only;obtain⟨le,ele,hle,tle⟩:∃le:Int,r13*(if decide (st="thing")=true then 1 else 0)=le/\(le=0\/(0<le/\st="thing"))/\le.natAbs<10 ^ 60:=by
    by_cases y:st="thing"
    ·rw[decide_eq_true y,if_pos rfl]
     by_cases x:r13=0
     ·exact⟨_,rfl,.inl (by lia),by lia⟩
     ·exact⟨_,rfl,.inr ⟨by lia,y⟩,by lia⟩
    ·rw[decide_eq_false y,if_neg ↑5];exact⟨_,rfl,.inl (by lia),by lia⟩
   rw[ele];fail "";refine a4d e13s hat ?_;fail "";refine⟨Nat.zero_le _,λq hq=>?_⟩;generalize u14:upd H13 q _=H14;obtain⟨s14,e14⟩:=nwS u14 hq;fail "";refine⟨by show 7<=sizeLine;decide,λp hp=>?_⟩
   have sq:=d9 (o:=.tup [.str st,.int ((fi+fa) % (2*(n:Int))),.ref q,.int fi,.int nu,.int le,.ref pa]) hp;have B14:=B13.trans (But.of s14);have t0:=Int.emod_nonneg (fi+fa) (show 2*(n:Int)≠0 by lia)
   have t1:=Int.emod_lt_of_pos (fi+fa) (show 0<2*(n:Int) by lia)
   have dist:((fi+fa) % (2*(n:Int))-fi) % (2*(n:Int))=fa:=by
    rw[Int.sub_eq_add_neg,Int.emod_add_emod,show fi+fa + -fi=fa by lia]
    exact Int.emod_eq_of_lt a8 (by lia)
   refine k p ⟨st,.int ((fi+fa) % (2*(n:Int))),[],.int fi,nu,le,ms⟩ _ (b2e B14 (w13.same s14) hp) ((w13.same s14).same sq) (B14.trans (But.of sq)) ⟨q,pa,d8,sq _ _ e14,sq _ _ (s14 _ _ e13p)⟩ ⟨hin,?_,?_,?_,⟨hnu,hle⟩,?_⟩ ⟨tnu,tle,tms,by show ms.length<=8;lia⟩
   ·show a3k n st (.int _)
    unfold a3k;rw[if_neg nc];exact⟨_,rfl,t0,t1⟩
   ·show a3k n st (.int _)
    unfold a3k;rw[if_neg nc];exact⟨_,rfl,a7,b7⟩
   ·show a2y n st []
    unfold a2y;rw[if_neg λc=>z (by have:=g2.mp c;lia)]
   ·show a5b n ⟨st,.int ((fi+fa) % (2*(n:Int))),[],.int fi,nu,le,ms⟩
    unfold a5b;rw[if_neg nc];refine⟨_,_,rfl,rfl,?_,?_⟩
    ·dsimp only
     by_cases c:st∈a9a
     ·rw[if_pos c]
      have:=g3.mp c;rw[if_neg (by lia)] at hm
      exact List.length_eq_zero_iff.mp (by lia)
     ·rw[if_neg c]
      have:¬ 13<=at_.toNat:=λy=>c (g3.mpr y);rw[if_pos (by lia)] at hm
      rw[dist,hl,hm]
    ·rw[dist];exact b8
theorem c4a{H:Hp}{x y:Addr}{u v:HO}(e:H x=some u)(e':H y=some v)(n:u≠v):x≠y:=λz=>by
 rw[z,e'] at e;exact n (Option.some.inj e).symm
def RQ(H:Hp)(os:List (List Int))(D:Addr)(i:Nat)(acc:List V)(H':Hp):Prop:=H' D=some (.lst acc)/\Same H H'/\∃ps:List Addr,acc=ps.map V.ref/\ps.length=i/\∀(j:Nat)(p:Addr)(o:List Int),ps[j]?=some p->os[j]?=some o->p≠D/\H' p=some (.tup (o.map V.int))
theorem RQ.new{H:Hp}{os:List (List Int)}{D:Addr}(hD:H D=none):RQ H os D 0 [] (upd H D (.lst [])):=⟨d8,d9 hD,[],rfl,rfl,λj p o h=>by simp at h⟩
theorem RQ.push{H H':Hp}{os:List (List Int)}{o:List Int}{D p:Addr}{i:Nat}{acc:List V}(h:RQ H os D i acc H')(hD:H D=none)(ho:os[i]?=some o)(hp:H' p=none):
  (upd H' p (.tup (o.map V.int))) D=some (.lst acc)/\RQ H os D (i+1) (acc++[.ref p]) (upd (upd H' p (.tup (o.map V.int))) D (.lst (acc++[.ref p]))):=by
 obtain⟨e,s,ps,rfl,hl,r⟩:=h;have nD:D≠p:=λz=>by rw[<- z,e] at hp;cases hp
 have hp0:=a6t s hp;refine⟨by rw[j4 nD];exact e,d8,?_,ps++[p],by rw[List.map_append];rfl,by rw[List.length_append,hl];rfl,?_⟩
 ·intro b u eb
  rw[j4 (λz=>by rw[z,hD] at eb;cases eb),j4 (λz=>by rw[z,hp0] at eb;cases eb)]
  exact s _ _ eb
 ·intro j q u hj hu
  by_cases y:j<ps.length
  ·rw[List.getElem?_append_left y] at hj
   obtain⟨b,c⟩:=r j q u hj hu;refine⟨b,?_⟩;rw[j4 b,j4 (λz=>by rw[z,hp] at c;cases c)]
   exact c
  ·rw[List.getElem?_append_right (by lia)] at hj
   have:j=i:=by
    by_cases z:j-ps.length=0
    ·lia
    ·rw[List.getElem?_eq_none (by simp;lia)] at hj;cases hj
   subst this;rw[hl,Nat.sub_self] at hj;cases hj;rw[ho] at hu;cases hu;exact⟨Ne.symm nD,by rw[j4 (Ne.symm nD)];exact d8⟩
def GoodM(n:Nat)(os:List (List Int)):Prop:=∀o∈os,(1<=o.length/\o.length<=n)/\∀v∈o,c0o v
def RB(wl:Addr)(n:Nat)(H0:Hp)(D:Addr)(i:Nat)(acc:List V)(H':Hp):Prop:=∃(ps:List Addr)(os:List (List Int)),acc=ps.map V.ref/\ps.length=i/\os.length=i/\GoodM n os/\H' D=some (.lst acc)/\D≠wl/\Well H' wl/\But wl H0 H'/\∀(j:Nat)(p:Addr)(o:List Int),ps[j]?=some p->os[j]?=some o->p≠wl/\p≠D/\H' p=some (.lst (o.map V.int))
theorem b5g{H:Hp}{wl D:Addr}{o:HO}(h:Well H wl)(n:D≠wl):Well (upd H D o) wl:=by
 obtain⟨x1,x2,x3,ew,z⟩:=h;exact⟨x1,x2,x3,(j4 (Ne.symm n)).trans ew,z⟩
theorem c0g{α:Type}{xs:List α}{x y:α}{j i:Nat}(hl:xs.length=i)(h:¬ j<i)(e:(xs++[x])[j]?=some y):j=i/\y=x:=by
 rw[List.getElem?_append_right (by lia)] at e
 by_cases z:j-xs.length=0
 ·rw[z] at e
  cases e;exact⟨by lia,rfl⟩
 ·rw[List.getElem?_eq_none (by simp;lia)] at e;cases e
theorem RB.push{wl D p:Addr}{n i:Nat}{H0 H' H2:Hp}{acc:List V}{row:List Int}(h:RB wl n H0 D i acc H')(hD:H0 D=none)(hp:H' p=none)(e:H2 p=some (.lst (row.map V.int)))(l1:1<=row.length)(l2:row.length<=n)(sm:∀v∈row,c0o v)(w2:Well H2 wl)(b2:But wl H' H2):
  H2 D=some (.lst acc)/\RB wl n H0 D (i+1) (acc++[.ref p]) (upd H2 D (.lst (acc++[.ref p]))):=by
 obtain⟨ps,os,rfl,hl,hlo,g,eD,nD,w',b',r⟩:=h;have npw:p≠wl:=w'.ne hp;have npD:p≠D:=λz=>by rw[z,eD] at hp;cases hp
 refine⟨b2 _ _ eD nD,ps++[p],os++[row],by rw[List.map_append];rfl,by rw[List.length_append,hl];rfl,by rw[List.length_append,hlo];rfl,?_,d8,nD,b5g w2 nD,b3z (b'.trans b2) hD,?_⟩
 ·intro o ho
  rcases List.mem_append.mp ho with ho|ho
  ·exact g o ho
  ·rw[List.mem_singleton.mp ho];exact⟨⟨l1,l2⟩,sm⟩
 ·intro j q o hj ho
  by_cases y:j<i
  ·rw[List.getElem?_append_left (by lia)] at hj ho
   obtain⟨a,b,c⟩:=r j q o hj ho;exact⟨a,b,by rw[j4 b];exact b2 _ _ c a⟩
  ·obtain⟨_,rfl⟩:=c0g hl y hj
   obtain⟨_,rfl⟩:=c0g hlo y ho;exact⟨npw,npD,by rw[j4 npD];exact e⟩
theorem RB.rw{wl D:Addr}{n i:Nat}{H0 H':Hp}{acc:List V}(h:RB wl n H0 D i acc H'):∃os:List (List Int),RW H' wl D os/\GoodM n os/\os.length=i/\Well H' wl/\But wl H0 H':=by
 obtain⟨ps,os,rfl,hl,hlo,g,eD,nD,w',b',r⟩:=h;exact⟨os,⟨ps,eD,nD,by lia,λj p o hp ho=>⟨(r j p o hp ho).1,(r j p o hp ho).2.2⟩⟩,g,hlo,w',b'⟩
theorem c0t{H:Hp}{wl a:Addr}{xs:List V}(hw:Well H wl)(e:H a=some (.tup xs)):a≠wl:=by
 obtain⟨_,_,_,ew,_⟩:=hw;exact c4a e ew (λz=>(nomatch z))
theorem TTs.but{H H':Hp}{wl a:Addr}{os:List (List Int)}(h:TTs H a os)(hw:Well H wl)(b:But wl H H'):TTs H' a os:=by
 obtain⟨ps,e,l,r⟩:=h;exact⟨ps,b _ _ e (c0t hw e),l,λi p o hp ho=>b _ _ (r i p o hp ho) (c0t hw (r i p o hp ho))⟩
theorem GT.but{H H':Hp}{wl a:Addr}{g:GSd}(h:GT H a g)(hw:Well H wl)(b:But wl H H'):GT H' a g:=by
 obtain⟨m,e,e'⟩:=h;exact⟨m,b _ _ e (c0t hw e),b _ _ e' (c0t hw e')⟩
theorem TTs.upd{H:Hp}{D a:Addr}{xs ys:List V}{os:List (List Int)}(h:TTs H a os)(eD:H D=some (.lst xs)):TTs (upd H D (.lst ys)) a os:=by
 obtain⟨ps,e,l,r⟩:=h;have nx:∀{y:Addr}{zs:List V},H y=some (.tup zs)->y≠D:=λe=>c4a e eD (λz=>(nomatch z));exact⟨ps,by rw[j4 (nx e)];exact e,l,λi p o hp ho=>by rw[j4 (nx (r i p o hp ho))];exact r i p o hp ho⟩
def BB(H:Hp)(oss:List (List (List Int)))(D:Addr)(i:Nat)(acc:List V)(H':Hp):Prop:=H' D=some (.lst acc)/\Same H H'/\∃ps:List Addr,acc=ps.map V.ref/\ps.length=i/\∀(j:Nat)(p:Addr)(os:List (List Int)),ps[j]?=some p->oss[j]?=some os->TTs H' p os
theorem BB.push{H H' H2:Hp}{oss:List (List (List Int))}{os:List (List Int)}{D p:Addr}{i:Nat}{acc:List V}(h:BB H oss D i acc H')(hD:H D=none)(ho:oss[i]?=some os)(s:Same H' H2)(t:TTs H2 p os):
  H2 D=some (.lst acc)/\BB H oss D (i+1) (acc++[.ref p]) (L2.upd H2 D (.lst (acc++[.ref p]))):=by
 obtain⟨e,s',ps,rfl,hl,r⟩:=h;have e2:=s _ _ e;refine⟨e2,d8,?_,ps++[p],by rw[List.map_append];rfl,by rw[List.length_append,hl];rfl,?_⟩
 ·intro b u eb
  rw[j4 (λz=>by rw[z,hD] at eb;cases eb)]
  exact s _ _ (s' _ _ eb)
 ·intro j q u hj hu
  by_cases y:j<i
  ·rw[List.getElem?_append_left (by lia)] at hj
   exact TTs.upd ((r j q u hj hu).same s) e2
  ·obtain⟨rfl,rfl⟩:=c0g hl y hj
   rw[ho] at hu;cases hu;exact TTs.upd t e2
theorem c9f{xs ys:List Int}{k:Nat}(h:k<xs.length):(xs++ys).getD k 0=xs.getD k 0:=by
 rw[List.getD_eq_getElem?_getD,List.getD_eq_getElem?_getD,List.getElem?_append_left h]
theorem c5q{xs ys:List Int}{k l:Nat}(h:xs.length=l):(xs++ys).getD (l+k) 0=ys.getD k 0:=by
 rw[List.getD_eq_getElem?_getD,List.getD_eq_getElem?_getD,List.getElem?_append_right (by lia),show l+k-xs.length=k by lia]
theorem GoodM.good{n:Nat}{os:List (List Int)}(h:GoodM n os):c0q n os:=λo ho=>(h o ho).1
theorem c4b{v:Int}(h:c0o v):v.natAbs<10 ^ 60:=by
 obtain⟨a,b⟩:=h;lia
theorem GoodM.ten{n:Nat}{os:List (List Int)}(h:GoodM n os)(n8:n<=8)(l:os.length<=5):a7r os:=⟨by lia,λo ho=>⟨Nat.le_trans (h o ho).1.2 n8,λv hv=>c4b ((h o ho).2 v hv)⟩⟩
theorem b5h{n:Nat}{st:Str}{he:Hr}(n8:n<=8)(h:a3k n st he):c6n he:=by
 unfold a3k at h;split at h
 ·subst h;trivial
 ·obtain⟨i,rfl,h0,h1⟩:=h
  show i.natAbs<10 ^ 60;lia
theorem a9v{n:Nat}{st:Str}{mk:List Int}(n8:n<=8)(h:a2y n st mk):b4r mk/\mk.length<=100:=by
 unfold a2y at h;split at h
 ·exact⟨λv hv=>(by have:=h.2 v hv;lia),by lia⟩
 ·subst h;exact⟨λ_ z=>(by cases z),Nat.zero_le _⟩
theorem c8v{st:Str}:(st∈gvU\/st∈tkU)->st.length<=10:=by
 have h1:∀x∈gvU,x.length<=10:=by decide
 have h2:∀x∈tkU,x.length<=10:=by decide
 exact λh=>h.elim (h1 _) (h2 _)
theorem c1g{n:Nat}{st:Str}{od pt:Int}{os:List (List Int)}(n8:n<=8)(l:os.length<=5)(g:c0q n os)(h:b5x st od pt os):od.natAbs<10 ^ 60/\pt.natAbs<10 ^ 60:=by
 unfold b5x at h;split at h
 ·lia
 split at h
 ·lia
 split at h
 ·lia
 ·obtain⟨⟨a,b⟩,c,d⟩:=h
  have hj:od.toNat<os.length:=by lia
  rw[List.getD_eq_getElem?_getD,List.getElem?_eq_getElem hj] at d;have:=(g _ (List.getElem_mem hj)).2;have d:pt<(os[od.toNat]).length:=d;lia
theorem d2k{x:Sd}(g:b0a x)(n8:x.n<=8)(tc:b4r x.c)(tt:d7n x.t)(lo:x.os.length<=5)(lb:x.bk.length<=5)(to:a7r x.os)(tb:a7r x.bk):c9s x where
 c:=tc
 gs:=c8v (.inl g.g.st)
 gh:=b5h n8 g.g.tf
 gm:=(a9v n8 g.g.mf).1
 gl:=(a9v n8 g.g.mf).2
 go:=(c1g n8 lo g.os g.g.pf).1
 gp:=(c1g n8 lo g.os g.g.pf).2
 ts:=c8v (.inr g.t.st)
 th:=b5h n8 g.t.tf
 tm:=(a9v n8 g.t.mf).1
 tl:=(a9v n8 g.t.mf).2
 tf:=b5h n8 g.t.nf
 tn:=tt.1
 te:=tt.2.1
 tp:=tt.2.2.1
 tq:=Nat.le_trans tt.2.2.2 ↑5
 os:=to
 ol:=by lia
 bk:=tb
 bl:=by lia
def a6b(cl:Cl):Sp:=λvs H Q _=>∃wl:Addr,vs=[.ref wl]/\Well H wl/\∀p x H',H p=none->Well H' wl->But wl H H'->ST H' p x->b0a x->c9s x->x.os.length<=5->x.bk.length<=5->Q (.ref p) H'
abbrev a3p:Stmt:=top 90
theorem u0:j3 ["well","size","orders","book","cells","place","both"] ["well"] (g7 a3p):=↑1
theorem b1t(D:DefT K mg "_law_any_stand" a3p ["well"])(T:Txt K mg cl)(G_law_take:FnT P w K mg base "_law_take" 1 ["well","many"] a1g)(G_law_far:FnT P w K mg base "_law_far" 2 ["well"] a8g)(G_law_order:FnT P w K mg base "_law_order" 2 ["well","size"] b1a)(G_law_giver:FnT P w K mg base "_law_giver" 2 ["well","size","orders"] (b1b cl))(G_law_taker:FnT P w K mg base "_law_taker" 3 ["well","size"] (b0z cl)):FnT P w K mg base "_law_any_stand" 4 ["well"] (a6b cl):=by
 refine D.fn u0 (λvs H Q E h=>?_) ↑2
 ·obtain⟨wl,rfl,_⟩:=h
  rfl
 ·obtain⟨wl,rfl,hw,k⟩:=h
  refine⟨_,(d6 (i7 (i:=1) u0.nd rfl (by first|exact Or.inl rfl|exact Or.inr rfl) (j8 a0y d7 ↑4))
   (d6 (a4z (ix:=2) (N:=["k","well","size"]) (nt:=1) (fr:=[0,1]) rfl (c2f (i:=0) (j:=1) rfl rfl (by decide +kernel) (by decide +kernel) rfl rfl rfl rfl rfl rfl rfl rfl rfl rfl rfl rfl) (a1u rfl T.z_range (d4 ↑4 d5)) (y9 ↑5) (λ_ _ _ _ _=>g0 (i:=0) (show(["k","well","size"]:List Str).Nodup by decide +kernel) rfl (Or.inl rfl) (Or.inr rfl)) (λ_ _ _ _ _=>(j5 G_law_order hr ↑5 rfl b4i (d4 (pv 1) (d4 (pv 2) d5)))) u0.nd rfl rfl)
   (d6 (a4z (ix:=3) (N:=["k","well","size"]) (nt:=1) (fr:=[0,1]) rfl (c2f (i:=0) (j:=1) rfl rfl (by decide +kernel) (by decide +kernel) rfl rfl rfl rfl rfl rfl rfl rfl rfl rfl rfl rfl) (a1u rfl T.z_range (d4 ↑4 d5)) (y9 ↑5) (λ_ _ _ _ _=>g0 (i:=0) (show(["k","well","size"]:List Str).Nodup by decide +kernel) rfl (Or.inl rfl) (Or.inr rfl)) (λ_ _ _ _ _=>(j5 G_law_order hr ↑5 rfl b4i (d4 (pv 1) (d4 (pv 2) d5)))) u0.nd rfl rfl)
   (d6 (i7 (i:=4) u0.nd rfl (by first|exact Or.inl rfl|exact Or.inr rfl) (m5 d5))
   (d6 (b2z a5x rfl (a1u rfl T.z_range (d4 (pv 1) d5)) (g0 (i:=5) u0.nd rfl (by first|exact Or.inl rfl|exact Or.inr rfl))
     (
     d6 (i7 (i:=4) u0.nd rfl (by first|exact Or.inl rfl|exact Or.inr rfl) (j8 a2b (pv 4) (m5 (d4 ↑4 (d4 (j8 a4i ↑4 d7) (d4 ↑4 d5))))))
     (f8 (a1q (a5a (K:=K) (pv 4) (d4 (j8 a4i (j5 G_law_far hr ↑5 rfl k7 (d4 (pv 0) d5)) (j5 G_law_far hr ↑5 rfl k7 (d4 (pv 0) d5))) d5))))))
   (d6 (i7 (i:=4) u0.nd rfl (by first|exact Or.inl rfl|exact Or.inr rfl) (j8 a2b (pv 4) (m5 (d4 (j8 a4i (j5 G_law_take hr ↑5 rfl k7 (d4 (pv 0) (d4 (j8 a0y (j8 a0q d7 (pv 1)) d7) d5))) d7) (d4 (j8 a4i (j5 G_law_take hr ↑5 rfl k7 (d4 (pv 0) (d4 (j8 a0y (j8 a0q d7 (pv 1)) d7) d5))) d7) d5)))))
   (d6 (i7 (i:=4) u0.nd rfl (by first|exact Or.inl rfl|exact Or.inr rfl) (m6 (a1w (K:=K)) (by rfl) T.z_tuple PyProof.Rows.boot_tuple (d4 (j8 a2b (pv 4) (m5 (d4 ↑4 (d4 ↑4 d5)))) d5)))
   (d6 (a4z (ix:=6) (N:=["some"]) (nt:=1) (fr:=[]) rfl (a0b rfl rfl (by decide +kernel) (by decide +kernel) rfl rfl) (a1y (K:=K) (m5 (d4 (pv 2) (d4 (pv 3) d5)))) (y9 ↑5) (λ_ _ _ _ _=>g0 (i:=0) (show(["some"]:List Str).Nodup by decide +kernel) rfl (Or.inl rfl) (Or.inr rfl)) (λ_ _ _ _ _=>(m6 (a1w (K:=K)) (by rfl) T.z_tuple PyProof.Rows.boot_tuple (d4 (a1j (N:=["order"]) (nt:=1) (fr:=[]) rfl (a0b rfl rfl (by decide +kernel) (by decide +kernel) rfl rfl) (a1y (K:=K) (pv 0)) (y9 ↑5) (λ_ _ _ _ _=>g0 (i:=0) (show(["order"]:List Str).Nodup by decide +kernel) rfl (Or.inl rfl) (Or.inr rfl)) (λ_ _ _ _ _=>(m6 (a1w (K:=K)) (by rfl) T.z_tuple PyProof.Rows.boot_tuple (d4 (pv 0) d5)))) d5))) u0.nd rfl rfl)
   (f8 (i5 (a0k (d4 (pv 4) (d4 (j5 G_law_giver hr ↑5 rfl k7 (d4 (pv 0) (d4 (pv 1) (d4 (pv 2) d5)))) (d4 (j5 G_law_taker hr ↑5 rfl k7 (d4 (pv 0) (d4 (pv 1) d5))) (d4 (o0 (i8 (K:=K)) (pv 6) d7 (λ_ _=>rfl)) (d4 (o0 (i8 (K:=K)) (pv 6) d7 (λ_ _=>rfl)) d5)))))))))))))))),?_⟩
  have h60:6000<=sizeLine:=by decide
  fail "";refine⟨wl,7,rfl,hw,by decide,by decide,λr1 H1 a1 b1 w1 c1=>?_⟩
  obtain⟨n,en⟩:∃n:Nat,(2+r1:Int)=n:=⟨(2+r1).toNat,by lia⟩
  have n2:2<=n:=by lia
  have n8:n<=8:=by lia
  fail "";rw[en];fail "";refine⟨wl,6,rfl,w1,by decide,by decide,λr2 H2 a2 b2 w2 c2=>?_⟩
  have B2:=c1.trans c2;clear c1 c2 w1;fail "";have drawn:∀{Hq:Hp}{D:Addr},Well Hq wl->Hq D=none->RB wl n Hq D 0 [] (upd Hq D (.lst [])):=λhw hD=>⟨[],[],rfl,rfl,rfl,λ_ z=>(by cases z),d8,hw.ne hD,b5g hw (hw.ne hD),But.of (d9 hD),λj p o z=>(by simp at z)⟩
  refine a3j (n:=r2.toNat) (by lia) (RB wl n H2) (λD hD=>drawn w2 hD) ?_ ?_ ?_
  ·rintro D i acc H' ⟨ps,os,rfl,hl,_,_,e,_⟩
   exact⟨e,by rw[List.length_map];exact hl⟩
  ·intro D i acc H' hD hi hp
   have w':Well H' wl:=(by obtain⟨_,_,_,_,_,_,_,_,w',_⟩:=hp;exact w')
   fail "";refine⟨wl,n,rfl,w',by lia,by lia,λp H3 row hpn e3 l1 l2 sm w3 b3=>?_⟩
   exact hp.push hD hpn e3 l1 (by lia) sm w3 b3
  intro oa acc H3 hoa h3;obtain⟨os,rw3,gos,los,w3,b3⟩:=h3.rw;have B3:=B2.trans b3;clear h3 hoa b3 B2 w2;fail "";refine⟨wl,5,rfl,w3,by decide,by decide,λr4 H4 a4 b4 w4 c4=>?_⟩
  have B4:=B3.trans c4;have rw4:=rw3.but c4;clear B3 c4 rw3 w3;fail "";refine a3j (n:=r4.toNat) (by lia) (RB wl n H4) (λD hD=>drawn w4 hD) ?_ ?_ ?_
  ·rintro D i acc H' ⟨ps,os,rfl,hl,_,_,e,_⟩
   exact⟨e,by rw[List.length_map];exact hl⟩
  ·intro D i acc H' hD hi hp
   have w':Well H' wl:=(by obtain⟨_,_,_,_,_,_,_,_,w',_⟩:=hp;exact w')
   fail "";refine⟨wl,n,rfl,w',by lia,by lia,λp H3 row hpn e3 l1 l2 sm w3 b3=>?_⟩
   exact hp.push hD hpn e3 l1 (by lia) sm w3 b3
  intro ba acc H5 hba h5;obtain⟨bk,bw5,gbk,lbk,w5,b5⟩:=h5.rw;have B5:=B4.trans b5;have rw5:=rw4.but b5;clear h5 hba b5 B4 rw4 w4;fail "";refine⟨Nat.zero_le _,λca hca=>?_⟩;fail "";refine c3g (n:=n) (λi σ H'=>∃ca x5 row,σ=[some (.ref wl),some (.int n),some (.ref oa),some (.ref ba),some (.ref ca),x5,none]/\H5 ca=none/\H' ca=some (.lst ((row:List Int).map V.int))/\ca≠wl/\row.length=4*i/\(∀q,q<i->0<=row.getD (4*q) 0/\row.getD (4*q) 0<=3)/\b4r row/\Well H' wl/\But wl H5 H') ⟨ca,_,[],rfl,hca,d8,w5.ne hca,rfl,λq hq=>absurd hq (by lia),(λ_ z=>(by cases z)),w5.same (d9 hca),But.of (d9 hca)⟩ ?_ ?_
  ·rintro i σ H6 hi ⟨ca,x5,row,rfl,hca,e6,nca,hl,hm,tr,w6,B6⟩
   fail "";refine⟨wl,4,rfl,w6,by decide,by decide,λr7 H7 a7 b7 w7 c7=>?_⟩
   fail "";refine⟨wl,6,rfl,w7,by decide,by decide,λr8 H8 a8 b8 w8 c8=>?_⟩
   fail "";refine⟨wl,9,rfl,w8,by decide,by decide,λr9 H9 a9 b9 w9 c9=>?_⟩
   have c69:=(c7.trans c8).trans c9;fail "";refine⟨by show 3<=sizeLine;decide,λl hlN=>?_⟩
   have sl:=d9 (o:=.lst [.int r7,.int (r8-1),.int r9]) hlN;refine a7x (sl _ _ (c69 _ _ e6 nca)) d8 (by rw[List.length_map];show row.length+3<=sizeLine;lia) λz hz=>?_
   have sz:=d9 (o:=.lst (row.map V.int++[.int r7,.int (r8-1),.int r9])) hz;have wz:=(w9.same sl).same sz;have Bz:=((B6.trans c69).trans (But.of sl)).trans (But.of sz);have hz5:H5 z=none:=b2e (((B6.trans c69).trans (But.of sl))) (w9.same sl) hz;have nz:z≠wl:=(w9.same sl).ne hz;have ez:upd (upd H9 l (.lst [.int r7,.int (r8-1),.int r9])) z (.lst (row.map V.int++[.int r7,.int (r8-1),.int r9])) z=some (.lst (row.map V.int++[.int r7,.int (r8-1),.int r9])):=d8;generalize upd (upd H9 l (.lst [.int r7,.int (r8-1),.int r9])) z (.lst (row.map V.int++[.int r7,.int (r8-1),.int r9]))=Hz at *;fail "";refine⟨wl,rfl,wz,λv H10 a10 b10 w10 c10=>?_⟩;fail "";refine⟨wl,rfl,w10,λu H11 a11 b11 w11 c11=>?_⟩;have c:=c10.trans c11;have e11:=c _ _ ez nz;fail "";refine c8g e11 (by rw[List.length_append,List.length_map];show row.length+3<sizeLine;lia) ?_
   fail "";refine⟨z,_,row++[r7,r8-1,r9,v-u],rfl,hz5,?_,nz,by rw[List.length_append];show row.length+4=_;lia,λq hq=>?_,?_,b5g w11 nz,b3z (Bz.trans c) hz5⟩
   ·rw[d8,List.map_append,List.append_assoc];rfl
   ·by_cases y:q<i
    ·rw[c9f (by lia)];exact hm q y
    ·rw[show q=i by lia,show 4*i=4*i+0 from rfl,c5q hl]
     show 0<=r7/\r7<=3;lia
   ·intro y hy
    rcases List.mem_append.mp hy with hy|hy
    ·exact tr y hy
    ·have ft:=c6a a10 b10 a11 b11
     clear a10 b10 a11 b11;simp only[List.mem_cons,List.not_mem_nil,or_false] at hy;rcases hy with rfl|rfl|rfl|rfl
     ·lia
     ·lia
     ·lia
     ·exact ft
  rintro σ H6 ⟨ca,x5,row,rfl,hca,e6,nca,hl,hm,tr,w6,B6⟩;have rw6:=rw5.but B6;have bw6:=bw5.but B6;have B60:=B5.trans B6;clear rw5 bw5 B6 B5 hca w5;fail "";refine⟨wl,2*(n:Int)+1,rfl,w6,by lia,by lia,λr7 H7 a7 b7 w7 c7=>?_⟩
  fail "";refine⟨wl,2*(n:Int)+1,rfl,w7,by lia,by lia,λr8 H8 a8 b8 w8 c8=>?_⟩
  have c68:=c7.trans c8;fail "";refine⟨by show 2<=sizeLine;decide,λl hlN=>?_⟩
  have sl:=d9 (o:=.lst [.int (r7-1),.int (r8-1)]) hlN;refine a7x (sl _ _ (c68 _ _ e6 nca)) d8 (by rw[List.length_map];show row.length+2<=sizeLine;lia) λz hz=>?_
  have sz:=d9 (o:=.lst (row.map V.int++[.int (r7-1),.int (r8-1)])) hz;have wz:=(w8.same sl).same sz;have c6z:=(c68.trans (But.of sl)).trans (But.of sz);have nz:z≠wl:=(w8.same sl).ne hz;have ez:upd (upd H8 l (.lst [.int (r7-1),.int (r8-1)])) z (.lst (row.map V.int++[.int (r7-1),.int (r8-1)])) z=some (.lst (row.map V.int++[.int (r7-1),.int (r8-1)])):=d8;generalize upd (upd H8 l (.lst [.int (r7-1),.int (r8-1)])) z (.lst (row.map V.int++[.int (r7-1),.int (r8-1)]))=Hz at *;clear sl sz hlN hz c68 c7 c8;fail "";refine⟨wl,2,rfl,wz,by decide,by decide,λr9 H9 a9 b9 w9 c9=>?_⟩
  fail "";refine⟨wl,2,rfl,w9,by decide,by decide,λr10 H10 a10 b10 w10 c10=>?_⟩
  have c90:=c9.trans c10;fail "";refine⟨by show 2<=sizeLine;decide,λl hlN=>?_⟩
  have sl:=d9 (o:=.lst [.int r9,.int r10]) hlN;refine a7x (sl _ _ (c90 _ _ ez nz)) d8 (by rw[List.length_append,List.length_map];show row.length+2+2<=sizeLine;lia) λy hy=>?_
  have sy:=d9 (o:=.lst (row.map V.int++[.int (r7-1),.int (r8-1)]++[.int r9,.int r10])) hy;have wy:=(w10.same sl).same sy;have c6y:=((c6z.trans c90).trans (But.of sl)).trans (But.of sy);have ey:upd (upd H10 l (.lst [.int r9,.int r10])) y (.lst (row.map V.int++[.int (r7-1),.int (r8-1)]++[.int r9,.int r10])) y=some (.lst (row.map V.int++[.int (r7-1),.int (r8-1)]++[.int r9,.int r10])):=d8;generalize upd (upd H10 l (.lst [.int r9,.int r10])) y (.lst (row.map V.int++[.int (r7-1),.int (r8-1)]++[.int r9,.int r10]))=Hy at *;clear sl sy hlN hy c90 c9 c10 c6z ez nz;fail "";intro cp hcp;rw[show row.map V.int++[.int (r7-1),.int (r8-1)]++[.int r9,.int r10]=(row++[r7-1,r8-1,r9,r10]).map V.int by rw[List.map_append,List.append_assoc];rfl]
  have gr:GoodRow n (row++[r7-1,r8-1,r9,r10]):=by
   refine⟨n2,n8,by rw[List.length_append,hl];rfl,λq hq=>?_,λq hq=>?_,λq hq=>?_⟩
   ·rw[c9f (by lia)];exact hm q hq
   ·rw[c5q hl]
    have:q=0\/q=1:=by lia
    rcases this with rfl|rfl
    ·show -1<=r7-1/\r7-1<_;lia
    ·show -1<=r8-1/\r8-1<_;lia
   ·rw[Nat.add_assoc,c5q hl]
    have:q=0\/q=1:=by lia
    rcases this with rfl|rfl
    ·show r9=0\/r9=1;lia
    ·show r10=0\/r10=1;lia
  have tc:b4r (row++[r7-1,r8-1,r9,r10]):=by
   intro y hy;rcases List.mem_append.mp hy with hy|hy
   ·exact tr y hy
   ·simp only[List.mem_cons,List.not_mem_nil,or_false] at hy
    rcases hy with rfl|rfl|rfl|rfl <;> lia
  clear tr;generalize u11:upd Hy cp _=H11;obtain⟨s11,e11⟩:=nwS u11 hcp;generalize row++[r7-1,r8-1,r9,r10]=row' at *;have w11:=wy.same s11;have ncp:=wy.ne hcp;have B11:=(B60.trans c6y).trans (But.of s11);have rw11:=rw6.but (c6y.trans (But.of s11));have bw11:=bw6.but (c6y.trans (But.of s11));clear rw6 bw6 c6y B60 u11 hcp s11 ey wy e6 nca hm hl;fail "";refine⟨by show 2<=sizeLine;decide,λl hlN=>?_⟩
  generalize u12:upd H11 l _=H12;obtain⟨s12,e12⟩:=nwS u12 hlN;fail "";have rws:∀(i:Nat)(x:V)(os':List (List Int)),([.ref oa,.ref ba]:List V)[i]?=some x->([os,bk]:List (List (List Int)))[i]?=some os'->∃a,x=.ref a/\Rws H12 a os'/\os'.length<=1000:=by
   intro i x os' h1 h2
   match i,h1,h2 with
   | 0,h1,h2=>cases h1;cases h2;exact⟨_,rfl,(rw11.but (But.of s12)).rws,by lia⟩
   | 1,h1,h2=>cases h1;cases h2;exact⟨_,rfl,(bw11.but (But.of s12)).rws,by lia⟩
   | i+2,h1,_=>cases h1
  refine a1d (xs:=[.ref oa,.ref ba]) (by show 2<sizeLine;lia) (BB H12 [os,bk]) (λD hD=>⟨d8,d9 hD,[],rfl,rfl,λj p o h=>by simp at h⟩) ?_ ?_ ?_
  ·rintro D i acc H' ⟨e,s,qs,rfl,hq,_⟩
   exact⟨e,by rw[List.length_map];exact hq,SqL.of (s _ _ e12)⟩
  ·intro D i x acc H' hD hx hp
   have hi:i<2:=(List.getElem?_eq_some_iff.mp hx).1;have ho:([os,bk]:List (List (List Int)))[i]?=some (([os,bk]:List (List (List Int)))[i]'hi):=List.getElem?_eq_getElem hi;generalize ([os,bk]:List (List (List Int)))[i]'hi=os' at *;obtain⟨a,rfl,rr,hz⟩:=rws i x _ hx ho;obtain⟨ps,ea,hl,hr'⟩:=rr.same hp.2.1;fail "";refine a1d (xs:=ps.map V.ref) (by rw[List.length_map];lia) (RQ H' os') (λD hD=>RQ.new hD) ?_ ?_ ?_
   ·rintro D i acc H' ⟨e,s,qs,rfl,hq,_⟩
    exact⟨e,by rw[List.length_map];exact hq,SqL.of (s _ _ ea)⟩
   ·intro D i x acc H' hD hx hp
    rw[List.getElem?_map] at hx;cases hpi:ps[i]? with
    | none=>rw[hpi] at hx;cases hx
    | some q=>
     rw[hpi] at hx;cases hx;have hi:i<os'.length:=by rw[<- hl];exact(List.getElem?_eq_some_iff.mp hpi).1
     have hoi:=List.getElem?_eq_getElem hi;have eq:=hp.2.1 _ _ (hr' i q _ hpi hoi);fail "";exact λp hpn=>hp.push hD hoi hpn
   ·intro D' acc' H'' hD' hp'
    rw[List.length_map,hl] at hp';obtain⟨e,s,qs,rfl,hq,r⟩:=hp';fail "";intro p hpn;exact hp.push hD ho (s.trans (d9 hpn)) ⟨qs,d8,hq,λj q o h1 h2=>d9 hpn _ _ (r j q o h1 h2).2⟩
  intro both acc H13 hbo hp;obtain⟨e13,s13,ps,rfl,hq,r⟩:=hp;obtain⟨p0,p1,rfl⟩:∃p0 p1,ps=[p0,p1]:=by
   match ps,hq with
   | [a,b],_=>exact⟨a,b,rfl⟩
  have t0:=r 0 p0 os rfl rfl;have t1:=r 1 p1 bk rfl rfl;have s12':=s12.trans s13;have w13:=w11.same s12';have nbo:both≠wl:=(w11.same s12).ne hbo;have B13:=B11.trans (But.of s12');have c13:=s12' _ _ e11;have rw13:=rw11.but (But.of s12');clear r hq rws bw11 rw11 B11 w11 e11 s12 e12 u12 hlN hbo s13 s12';fail "";refine⟨wl,oa,n,os,rfl,w13,n2,n8,rw13,gos.good,by lia,λg yg H14 hg w14 b14 tg gg=>?_⟩
  fail "";refine⟨wl,n,rfl,w14,n2,n8,λt yt H15 ht w15 b15 tt gt tt2=>?_⟩;have b35:=b14.trans b15;have e15:=b35 _ _ e13 nbo;fail "";refine⟨by show 5<=sizeLine;decide,λp hp=>?_⟩
  have sp:=d9 (o:=.tup [.ref cp,.ref g,.ref t,.ref p0,.ref p1]) hp;have B15:=B13.trans b35;refine k p ⟨n,row',yg,yt,os,bk⟩ _ (b2e B15 w15 hp) (w15.same sp) (B15.trans (But.of sp)) ⟨cp,g,t,p0,p1,d8,sp _ _ (b35 _ _ c13 ncp),(tg.but w14 b15).same sp,tt.same sp,(t0.but w13 b35).same sp,(t1.but w13 b35).same sp⟩ ⟨gr,gg,gt,gos.good,gbk.good⟩ (d2k ⟨gr,gg,gt,gos.good,gbk.good⟩ n8 tc tt2 (by show os.length<=5;lia) (by show bk.length<=5;lia) (gos.ten n8 (by lia)) (gbk.ten n8 (by lia))) (by show os.length<=5;lia) (by show bk.length<=5;lia)
end
end
section
variable{P:Program}{w:World}{K:Frag}{mg:Str->Option Value}{base:Heap}{cl:Cl}
def a4m:Sp:=λvs H Q _=>∃(n:Nat)(st:Str)(he:Hr),vs=[.int n,he.v,.str st]/\n<=8/\Tells (a3k n st he) H Q
abbrev a5t:Stmt:=top 91
theorem b4f:j3 ["size","turn","stage"] ["size","turn","stage"] (g7 a5t):=↑1
theorem b4p(D:DefT K mg "_law_is_turn" a5t ["size","turn","stage"])(T:Txt K mg cl):FnT P w K mg base "_law_is_turn" 1 ["size","turn","stage"] a4m:=by
 refine D.fn b4f (λvs H Q E h=>?_) ↑2
 ·obtain⟨n,st,he,rfl,_⟩:=h
  rfl
 ·obtain⟨n,st,he,rfl,n8,k⟩:=h
  refine⟨_,(d6 (v9 (g6 (a3u (K:=K)) (pv 2) (m5 (d4 f9 (d4 f9 (d4 f9 (d4 f9 d5))))) (by with_unfolding_all rfl))
     (f8 (i5 (m9 b4v (pv 1) a1i (i3 _))))
     i9)
   (f8 (i5 (a1z (m9 c5a (pv 1) a1i (i3 _)) (a1p (b5w c7o a2a d7 (pv 1) (j8 a0q d7 (pv 0)))))))),?_⟩
  unfold a3k at k;have lm:=a0l;fail "";refine⟨by show 4<=sizeLine;lia,λl hl=>?_⟩
  generalize u1:upd H l _=H1;obtain⟨s1,e1⟩:=nwS u1 hl;replace k:=k.on s1;refine b8r (xs:=b1m) (SqL.of e1) ?_;by_cases hc:st∈b1m
  ·rw[if_pos hc] at k
   rw[decide_eq_true hc];fail "";refine⟨rfl,k.d ?_⟩;cases he with
   | non=>exact⟨λ_=>rfl,λ_=>rfl⟩
   | int i=>exact⟨λz=>(by cases z),λz=>(by cases z)⟩
  ·rw[if_neg hc] at k
   rw[decide_eq_false hc];fail "";cases he with
   | non=>
    refine⟨rfl,false,rfl,?_⟩;fail "";exact k.f (by rintro⟨i,z,_⟩;cases z)
   | int i=>
    refine⟨rfl,true,rfl,?_⟩;fail "";refine c1x ?_;fail "";refine x9 (λz=>?_) (λz=>?_)
    ·fail ""
     refine k.d ⟨λy=>⟨i,rfl,z,y⟩,?_⟩;rintro⟨j,q,_,q2⟩;cases q;exact q2
    ·exact k.f (by rintro⟨j,q,q1,_⟩;cases q;exact z q1)
theorem b3v{H:Hp}{p q:Addr}{xs:List V}(ne:p≠q)(hp:H p=some (.lst xs))(hq:H q=some (.lst [])):EqD K H 1 (.ref p) (.ref q) xs.isEmpty:=by
 cases xs with
 | nil=>exact EqD.lst (K:=K) (e:=λ_=>true) ne (SqL.of hp) (SqL.of hq) rfl (λj x y hx=>by cases hx)
 | cons x r=>exact EqD.lstN ne (SqL.of hp) (SqL.of hq) (by simp)
theorem b6q{n:Nat}{H:Hp}{p q:Addr}{xs:List V}(ne:p≠q)(hp:H p=some (.tup xs))(hq:H q=some (.tup [])):EqD K H (n+1) (.ref p) (.ref q) xs.isEmpty:=by
 have:=EqD.tup (n:=n) (K:=K) (e:=λ_=>true) ne (SqT.of hp) (SqT.of hq) (λj x y _ hy=>by cases hy)
 cases xs with
 | nil=>exact this
 | cons x r=>exact this
def iP(p:Int->Bool):V->Bool
 | .int i=>p i
 | _=>false
theorem a9y(p:Int->Bool):∀ns:List Int,((ns.map V.int).filter (iP p)).isEmpty=true ↔ ∀m∈ns,p m=false
 | []=>⟨λ_ _ z=>(by cases z),λ_=>rfl⟩
 | n::ns=>by
  rw[List.map_cons,List.filter_cons];show((if p n=true then _ else _:List V).isEmpty=true) ↔ _;cases e:p n with
  | true=>exact⟨λz=>(by cases z),λz=>(by have:=z n List.mem_cons_self;rw[e] at this;cases this)⟩
  | false=>
   refine (a9y p ns).trans ⟨λz m hm=>?_,λz m hm=>z m (List.mem_cons_of_mem _ hm)⟩;cases hm with
   | head=>exact e
   | tail _ hm=>exact z m hm
def a3m:Sp:=λvs H Q _=>∃(n:Nat)(st:Str)(a:Addr)(mk:List Int),vs=[.int n,.ref a,.str st]/\1<=n/\n<=8/\H a=some (.tup (mk.map V.int))/\mk.length<=100000/\Tells (a2y n st mk) H Q
abbrev a4u:Stmt:=top 92
theorem a6r:j3 ["size","seen","stage","good"] ["size","seen","stage"] (g7 a4u):=↑1
theorem b3l(D:DefT K mg "_law_are_seen" a4u ["size","seen","stage"])(T:Txt K mg cl):FnT P w K mg base "_law_are_seen" 1 ["size","seen","stage"] a3m:=by
 refine D.fn a6r (λvs H Q E h=>?_) ↑2
 ·obtain⟨n,st,a,mk,rfl,_⟩:=h
  rfl
 ·obtain⟨n,st,a,mk,rfl,n1,n8,ea,lz,k⟩:=h
  refine⟨_,(d6 (i7 (i:=3) a6r.nd rfl (by first|exact Or.inl rfl|exact Or.inr rfl) (a1z (m9 a2a (i6 (j2 (K:=K)) (by rfl) T.z_len PySem.boot_len (d4 (pv 1) d5)) (pv 0) (i3 _)) (a1p (m9 (b3e (K:=K) (n:=0) (huN hr 1)) (a7k (N:=["mark"]) (nt:=1) (fr:=[]) rfl (a0b rfl rfl (by decide +kernel) (by decide +kernel) rfl rfl) (a2n (K:=K) (pv 1)) (y9 (by decide)) (λ_ _ _ _ _=>g0 (i:=0) (show(["mark"]:List Str).Nodup by decide +kernel) rfl (Or.inl rfl) (Or.inr rfl)) (λ_ _ _ _ _=>(PW.pt (a2f (g6 a2a (pv 0) d7 (i3 _)) (a1o (g6 b1q (pv 0) d7 (i3 _)))))) (λ_ _ _ _ _=>(pv 0))) (m5 d5) (i3 _)))))
   (f8 (i5 (a1z (pv 3) (a1p (c7k (m9 a1k (pv 2) f9 (i3 _)) (a1p (m9 (b3e (K:=K) (n:=1) (huN hr 2)) (pv 1) (a0k d5) (i3 _))))))))),?_⟩
  have lm:=a0l;fail "";rw[List.length_map];refine x9 (λz=>?_) (λz=>?_)
  ·fail ""
   refine a5d (SqT.of ea) ?_;refine a2z (xs:=mk.map V.int) (p:=iP λi=>decide (i<0\/3<i)) ea (by rw[List.length_map];lia) ?_ ?_
   ·intro i x H' k1 k2 hx s' y1 y2
    obtain⟨y,hy,rfl⟩:=a4c hx;fail "";refine x9 (λz=>?_) (λz=>?_)
    ·fail ""
     exact y1 (decide_eq_true (.inl z)) _ (Same.refl _)
    ·fail ""
     refine x9 (λx=>?_) (λx=>?_)
     ·fail ""
      exact y1 (decide_eq_true (.inr x)) _ (Same.refl _)
     ·exact y2 (decide_eq_false (by lia)) _ (Same.refl _)
   intro D H1 hD s1 e1;fail "";refine⟨Nat.zero_le _,λq hq=>?_⟩;generalize u2:upd H1 q _=H2;obtain⟨s2,e2⟩:=nwS u2 hq;refine c0i (b3v (g9 e1 hq) (s2 _ _ e1) e2) ?_;have ie:=a9y (λi=>decide (i<0\/3<i)) mk;have ea:=s2 _ _ (s1 _ _ ea);replace k:=k.on (s1.trans s2);generalize ((mk.map V.int).filter (iP λi=>decide (i<0\/3<i))).isEmpty=b at ie ⊢;clear e1 e2 u2 hq hD s1 s2;unfold a2y at k;cases b with
   | false=>
    fail "";refine k.f λq=>?_;have:false=true:=ie.mpr λm hm=>?_
    ·cases this
    split at q
    ·have:=q.2 m hm
     exact decide_eq_false (by lia)
    ·subst q;cases hm
   | true=>
    have ie:=ie.mp rfl;fail "";rw[a1r];by_cases c:st="marks"
    ·rw[if_pos c] at k
     rw[decide_eq_true c];fail "";refine k.t ⟨by lia,λm hm=>?_⟩
     have:=of_decide_eq_false (ie m hm);lia
    ·rw[if_neg c] at k
     rw[decide_eq_false c];fail "";refine⟨Nat.zero_le _,λq hq=>?_⟩;generalize u2:upd H2 q _=H3;obtain⟨s2,e2⟩:=nwS u2 hq;refine c0i (b6q (g9 ea hq) (s2 _ _ ea) e2) ?_;refine k _ _ ?_ s2;rw[List.isEmpty_map,List.isEmpty_iff]
  ·fail ""
   refine k.f (λq=>z ?_);unfold a2y at q;split at q
   ·lia
   ·subst q;show(0:Int)<_;lia
theorem c9n{n:Nat}{H:Hp}{p q:Addr}{a b c d:Int}(ne:p≠q)(hp:H p=some (.tup [.int a,.int b]))(hq:H q=some (.tup [.int c,.int d])):EqD K H (n+1) (.ref p) (.ref q) (decide (a=c/\b=d)):=by
 have:=EqD.tup (n:=n) (K:=K) (e:=λj=>if j=0 then a == c else b == d) ne (SqT.of hp) (SqT.of hq) (λj x y hx hy=>by
  match j,hx,hy with
  | 0,hx,hy=>cases hx;cases hy;exact EqD.flat rfl rfl
  | 1,hx,hy=>cases hx;cases hy;exact EqD.flat rfl rfl
  | j+2,hx,_=>cases hx)
 have e:((List.range (min [V.int a,V.int b].length [V.int c,V.int d].length)).all (λj=>if j=0 then a == c else b == d) && ([V.int a,V.int b].length == [V.int c,V.int d].length))=decide (a=c/\b=d):=by
  show(((if (0:Nat)=0 then a == c else b == d) && ((if (1:Nat)=0 then a == c else b == d) && true)) && true)=_;rw[if_pos rfl,if_neg ↑5,Bool.and_true,Bool.and_true,Bool.decide_and]
  congr 1
 rw[e] at this;exact this
abbrev d1o:List Str:=["rouse","clear","mute","marks","told"]
abbrev c9e:List Str:=["number","left","thing","mark","card","ring"]
theorem c2i(st:Str):st∈d1o ↔ st∈b1m\/st="told":=by
 simp only[d1o,b1m,List.mem_cons,List.not_mem_nil,or_false,or_assoc]
theorem d5u(st:Str):st∈gvU ↔ st∈d1o\/st="lacks"\/st∈c9e\/st∈b1o:=by
 constructor
 ·have:∀x∈gvU,x∈d1o\/x="lacks"\/x∈c9e\/x∈b1o:=by decide
  exact this st
 ·have h1:∀x∈d1o,x∈gvU:=by decide
  have h2:("lacks":Str)∈gvU:=by decide
  have h3:∀x∈c9e,x∈gvU:=by decide
  have h4:∀x∈b1o,x∈gvU:=by decide
  rintro (h|h|h|h)
  ·exact h1 _ h
  ·rw[h];exact h2
  ·exact h3 _ h
  ·exact h4 _ h
theorem c8a{st:Str}(h:st∈c9e):st ∉ b1o:=by
 have:∀x∈c9e,x ∉ b1o:=by decide
 exact this st h
def c3t(od pt:Int)(os:List (List Int)):Prop:=(0<=od/\od<os.length)/\0<=pt/\pt<(os.getD od.toNat []).length
def a6p:Sp:=λvs H Q _=>∃(n:Nat)(a b:Addr)(g:GSd)(os:List (List Int)),vs=[.int n,.ref a,.ref b]/\1<=n/\n<=8/\GT H a g/\TTs H b os/\g.ms.length<=100000/\Tells (c6p n os g) H Q
abbrev a4t:Stmt:=top 93
theorem a0c:j3 ["size","mind","orders","stage","turn","seen","number","part","there","waits"] ["size","mind","orders"] (g7 a4t):=↑1
theorem b3k(D:DefT K mg "_law_is_giver" a4t ["size","mind","orders"])(T:Txt K mg cl)(G_law_is_turn:FnT P w K mg base "_law_is_turn" 1 ["size","turn","stage"] a4m)(G_law_are_seen:FnT P w K mg base "_law_are_seen" 1 ["size","seen","stage"] a3m):FnT P w K mg base "_law_is_giver" 2 ["size","mind","orders"] a6p:=by
 refine D.fn a0c (λvs H Q E h=>?_) ↑2
 ·obtain⟨n,a,b,g,os,rfl,_⟩:=h
  rfl
 ·obtain⟨n,a,b,g,os,rfl,n1,n8,⟨m,ea,em⟩,tb,lz,k⟩:=h
  refine⟨_,(d6 (a3e (pv 1) (a3s (K:=K) rfl (i4 (g0 (i:=3) a0c.nd rfl (by first|exact Or.inl rfl|exact Or.inr rfl)) (i4 (g0 (i:=4) a0c.nd rfl (by first|exact Or.inl rfl|exact Or.inr rfl)) (i4 (g0 (i:=5) a0c.nd rfl (by first|exact Or.inl rfl|exact Or.inr rfl)) (i4 (g0 (i:=6) a0c.nd rfl (by first|exact Or.inl rfl|exact Or.inr rfl)) (i4 (g0 (i:=7) a0c.nd rfl (by first|exact Or.inl rfl|exact Or.inr rfl)) a2o)))))))
   (d6 (v9 (PW.pt (a2f (a3d (a2g (j5 G_law_is_turn hr ↑5 rfl k7 (d4 (pv 0) (d4 (pv 4) (d4 (pv 3) d5)))))) (a1o (a3d (a2g (j5 G_law_are_seen hr ↑5 rfl k7 (d4 (pv 0) (d4 (pv 5) (d4 (pv 3) d5)))))))))
     (f8 (i5 a2p))
     i9)
   (d6 (v9 (g6 (a3u (K:=K)) (pv 3) (@m5 _ _ _ _ (@d4 _ _ _ _ _ f9 (@d4 _ _ _ _ _ f9 (@d4 _ _ _ _ _ f9 (@d4 _ _ _ _ _ f9 (@d4 _ _ _ _ _ f9 (@d5 _) rfl) rfl) rfl) rfl) rfl)) (by with_unfolding_all rfl))
     (f8 (i5 (m9 (b3e (K:=K) (n:=1) (huN hr 2)) (a0k (d4 (pv 6) (d4 (pv 7) d5))) (a0k (d4 d7 (d4 d7 d5))) (i3 _))))
     i9)
   (d6 (v9 (g6 a1k (pv 3) f9 (i3 _))
     (f8 (i5 (a1z (b5w c7o a2a (d0m c3q d7) (pv 6) (i6 (j2 (K:=K)) (by rfl) T.z_len PySem.boot_len (d4 (pv 2) d5))) (a1p (m9 a1k (pv 7) d7 (i3 _))))))
     i9)
   (d6 (i7 (i:=8) a0c.nd rfl (by first|exact Or.inl rfl|exact Or.inr rfl) (a1z (b5w c7o a2a d7 (pv 6) (i6 (j2 (K:=K)) (by rfl) T.z_len PySem.boot_len (d4 (pv 2) d5))) (a1p (b5w c7o a2a d7 (pv 7) (i6 (j2 (K:=K)) (by rfl) T.z_len PySem.boot_len (d4 (o0 (a0i (K:=K)) (pv 2) (pv 6) (λ_ _=>rfl)) d5))))))
   (d6 (v9 (g6 (a3u (K:=K)) (pv 3) (@m5 _ _ _ _ ↑3) (by with_unfolding_all rfl))
     (f8 (i5 (pv 8)))
     i9)
   (d6 (i7 (i:=9) a0c.nd rfl (by first|exact Or.inl rfl|exact Or.inr rfl) (m9 (a3u (K:=K)) (pv 3) (@m5 _ _ _ _ ↑3) (by with_unfolding_all rfl)))
   (f8 (i5 (a1z (pv 9) (a1p (c7k (pv 8) (a1p (m9 (b3e (K:=K) (n:=1) (huN hr 2)) (a0k (d4 (pv 6) (d4 (pv 7) d5))) (a0k (d4 (i6 (j2 (K:=K)) (by rfl) T.z_len PySem.boot_len (d4 (pv 2) d5)) (d4 d7 d5))) (i3 _))))))))))))))),?_⟩
  have lm:=a0l;fail "";refine b3u ea rfl (lit [some (.int n),some (.ref a),some (.ref b),some (.str g.st),some g.he.v,some (.ref m),some (.int g.od),some (.int g.pt),none,none] (by rfl) ?_)
  fail "";refine⟨n,g.st,g.he,rfl,n8,λb1 H1 e1 s1=>?_⟩;fail "";cases b1
  ·fail ""
   exact(k.on s1).f λq=>by cases e1.mpr q.tf
  fail "";refine⟨n,g.st,m,g.ms,rfl,n1,n8,s1 _ _ em,lz,λb2 H2 e2 s2=>?_⟩;fail "";cases b2
  ·fail ""
   exact(k.on (s1.trans s2)).f λq=>by cases e2.mpr q.mf
  have k:Tells (g.st∈gvU/\b5x g.st g.od g.pt os) H2 Q:=λb H' z s'=>k b H' (z.trans ⟨λq=>⟨q.1,e1.mp rfl,e2.mp rfl,q.2⟩,λq=>⟨q.st,q.pf⟩⟩) ((s1.trans s2).trans s');have tb:=tb.same (s1.trans s2);clear ea em s1 s2 e1 e2 lz;rw[d5u] at k;unfold b5x at k;fail "";refine⟨by show 5<=sizeLine;lia,λl hl=>?_⟩
  generalize u3:upd H2 l _=H3;obtain⟨s3,e3⟩:=nwS u3 hl;refine b8r (xs:=d1o) (SqL.of e3) ?_;replace k:=k.on s3;replace tb:=tb.same s3;clear e3 u3 s3 hl;by_cases h1:g.st∈d1o
  ·rw[if_pos ((c2i _).mp h1)] at k
   rw[decide_eq_true h1];fail "";refine⟨by show 2<=sizeLine;lia,λp hp=>?_⟩
   generalize u4:upd H3 p _=H4;obtain⟨s4,e4⟩:=nwS u4 hp;fail "";refine⟨by show 2<=sizeLine;lia,λq hq=>?_⟩
   generalize u5:upd H4 q _=H5;obtain⟨s5,e5⟩:=nwS u5 hq;refine c0i (c9n (g9 e4 hq) (s5 _ _ e4) e5) ?_;refine ((k.on s4).on s5).d ⟨λy=>⟨.inl h1,y⟩,λy=>y.2⟩
  rw[if_neg (λz=>h1 ((c2i _).mpr z))] at k;rw[decide_eq_false h1];fail "";rw[a1r];obtain⟨ps,eb,hl,ep⟩:=tb;by_cases h2:g.st="lacks"
  ·rw[if_pos h2] at k
   rw[decide_eq_true h2];fail "";refine c1x ?_;fail "";refine x9 (λz=>?_) (λz=>?_)
   ·fail ""
    rw[List.length_map,hl];refine x9 (λy=>?_) (λy=>?_)
    ·fail ""
     exact k.d ⟨λx=>⟨.inr (.inl h2),⟨z,y⟩,V.int.inj x⟩,λx=>by rw[x.2.2]⟩
    ·exact k.f λq=>y q.2.1.2
   ·refine⟨false,rfl,?_⟩
    fail "";exact k.f λq=>z q.2.1.1
  rw[if_neg h2] at k;rw[decide_eq_false h2];fail "";rename_i nX hX;have fin:∀t:Bool,(t=true ↔ c3t g.od g.pt os)->nX ([some (.int n),some (.ref a),some (.ref b),some (.str g.st),some g.he.v,some (.ref m),some (.int g.od),some (.int g.pt),some (.bl t),none]) H3:=by
   intro t ht;have k:Tells ((g.st∈c9e\/g.st∈b1o)/\if g.od = ↑os.length then g.st∈b1o/\g.pt=0 else c3t g.od g.pt os) H3 Q:=λb H' z s'=>k b H' (z.trans ⟨λq=>⟨.inr (.inr q.1),q.2⟩,λq=>⟨q.1.elim (λy=>absurd y h1) (λy=>y.elim (λy=>absurd y h2) id),q.2⟩⟩) s';fail "";refine⟨by show 6<=sizeLine;lia,λl hl2=>?_⟩
   generalize u4:upd H3 l _=H4;obtain⟨s4,e4⟩:=nwS u4 hl2;refine b8r (xs:=c9e) (SqL.of e4) ?_;replace k:=k.on s4;have eb:=s4 _ _ eb;clear e4 u4 s4 hl2;by_cases h3:g.st∈c9e
   ·rw[decide_eq_true h3]
    fail "";refine k _ _ (ht.trans ⟨λy=>⟨.inl h3,?_⟩,λy=>?_⟩) (Same.refl _)
    ·rw[if_neg (by have:=y.1;lia)];exact y
    ·have y:=y.2
     split at y
     ·exact absurd y.1 (c8a h3)
     ·exact y
   rw[decide_eq_false h3];fail "";refine⟨by show 6<=sizeLine;lia,λl hl2=>?_⟩
   generalize u4:upd H4 l _=H5;obtain⟨s4,e4⟩:=nwS u4 hl2;refine b8r (xs:=b1o) (SqL.of e4) ?_;replace k:=k.on s4;have eb:=s4 _ _ eb;clear e4 u4 s4 hl2;by_cases h4:g.st∈b1o
   ·rw[decide_eq_true h4]
    fail "";cases t with
    | true=>
     have ht:=ht.mp rfl;fail "";refine k.t ⟨.inr h4,?_⟩;rw[if_neg (by have:=ht.1;lia)];exact ht
    | false=>
     fail "";refine⟨by show 2<=sizeLine;lia,λp hp=>?_⟩
     generalize u5:upd H5 p _=H6;obtain⟨s5,e5⟩:=nwS u5 hp;have eb:=s5 _ _ eb;fail "";refine⟨by show 2<=sizeLine;lia,λq hq=>?_⟩
     generalize u6:upd H6 q _=H7;obtain⟨s6,e6⟩:=nwS u6 hq;refine c0i (c9n (g9 e5 hq) (s6 _ _ e5) e6) ?_;rw[List.length_map,hl];refine ((k.on s5).on s6).d ⟨λy=>⟨.inr h4,?_⟩,λy=>?_⟩
     ·rw[if_pos y.1];exact⟨h4,y.2⟩
     ·have y:=y.2
      split at y
      ·exact⟨by assumption,y.2⟩
      ·cases ht.mpr y
   ·rw[decide_eq_false h4]
    fail "";exact k.f λq=>q.1.elim h3 h4
  clear hX;refine c1x ?_;fail "";refine x9 (λz=>?_) (λz=>?_)
  ·fail ""
   rw[List.length_map,hl];refine x9 (λy=>?_) (λy=>?_)
   ·have hi:g.od.toNat<os.length:=by lia
    have hip:g.od.toNat<ps.length:=by lia
    have eo:os.getD g.od.toNat []=os[g.od.toNat]:=by rw[List.getD_eq_getElem?_getD,List.getElem?_eq_getElem hi];rfl
    have e1:=ep g.od.toNat ps[g.od.toNat] os[g.od.toNat] (List.getElem?_eq_getElem hip) (List.getElem?_eq_getElem hi);refine c1x ?_;fail "";refine x9 (λx=>?_) (λx=>?_)
    ·fail ""
     refine b6o (v:=.ref ps[g.od.toNat]) eb ?_ ?_
     ·unfold atI
      rw[List.length_map,c5k z (by lia)]
      show(ps.map V.ref)[g.od.toNat]?=_;rw[List.getElem?_map,List.getElem?_eq_getElem hip]
      rfl
     fail "";rw[List.length_map];refine fin _ ?_;rw[decide_eq_true_iff];unfold c3t;rw[eo];exact⟨λv=>⟨⟨z,y⟩,x,v⟩,λv=>v.2.2⟩
    ·fail ""
     exact fin false ⟨λv=>(by cases v),λv=>absurd v.2.1 x⟩
   ·fail ""
    exact fin false ⟨λv=>(by cases v),λv=>absurd v.1.2 y⟩
  ·refine⟨false,rfl,?_⟩
   fail "";exact fin false ⟨λv=>(by cases v),λv=>absurd v.1.1 z⟩
abbrev d0a:List Str:=["look","wish","again","sleep","hush","unwish","number","left","thing"]
theorem d5c(st:Str):st∈tkU ↔ st∈b1m\/st∈a9a\/st∈d0a:=by
 constructor
 ·have:∀x∈tkU,x∈b1m\/x∈a9a\/x∈d0a:=by decide
  exact this st
 ·have h1:∀x∈b1m,x∈tkU:=by decide
  have h2:∀x∈a9a,x∈tkU:=by decide
  have h3:∀x∈d0a,x∈tkU:=by decide
  rintro (h|h|h)
  ·exact h1 _ h
  ·exact h2 _ h
  ·exact h3 _ h
theorem c8c{H:Hp}{Q:VK}{t:Addr}{x:Str}{xs:List Str}(h:SqL K H t (xs.map V.str))(q:Q (.bl (!decide (x∈xs))) H):rIn K true (.str x) (.ref t) H Q :=
 ⟨t,_,rfl,.inl h,rfl,a5e xs,by rw[if_pos rfl,b2b];exact q⟩
def a6n:Sp:=λvs H Q _=>∃(n:Nat)(a:Addr)(t:TSd),vs=[.int n,.ref a]/\2<=n/\n<=8/\TT H a t/\t.ms.length<=100000/\Tells (c6o n t) H Q
abbrev a4r:Stmt:=top 94
theorem x0:j3 ["size","mind","stage","turn","seen","first","number","left","parts","far","stages"] ["size","mind"] (g7 a4r):=↑1
theorem b3i(D:DefT K mg "_law_is_taker" a4r ["size","mind"])(T:Txt K mg cl)(G_law_is_turn:FnT P w K mg base "_law_is_turn" 1 ["size","turn","stage"] a4m)(G_law_are_seen:FnT P w K mg base "_law_are_seen" 1 ["size","seen","stage"] a3m):FnT P w K mg base "_law_is_taker" 2 ["size","mind"] a6n:=by
 refine D.fn x0 (λvs H Q E h=>?_) ↑2
 ·obtain⟨n,a,t,rfl,_⟩:=h
  rfl
 ·obtain⟨n,a,t,rfl,n2,n8,⟨m,p,ea,em,ep⟩,lz,k⟩:=h
  refine⟨_,(d6 (a3e (pv 1) (a3s (K:=K) rfl (i4 (g0 (i:=2) x0.nd rfl (by first|exact Or.inl rfl|exact Or.inr rfl)) (i4 (g0 (i:=3) x0.nd rfl (by first|exact Or.inl rfl|exact Or.inr rfl)) (i4 (g0 (i:=4) x0.nd rfl (by first|exact Or.inl rfl|exact Or.inr rfl)) (i4 (g0 (i:=5) x0.nd rfl (by first|exact Or.inl rfl|exact Or.inr rfl)) (i4 (g0 (i:=6) x0.nd rfl (by first|exact Or.inl rfl|exact Or.inr rfl)) (i4 (g0 (i:=7) x0.nd rfl (by first|exact Or.inl rfl|exact Or.inr rfl)) (i4 (g0 (i:=8) x0.nd rfl (by first|exact Or.inl rfl|exact Or.inr rfl)) a2o)))))))))
   (d6 (v9 (PW.pt (a2f (a3d (a2g (j5 G_law_is_turn hr ↑5 rfl k7 (d4 (pv 0) (d4 (pv 3) (d4 (pv 2) d5)))))) (a1o (a3d (a2g (j5 G_law_is_turn hr ↑5 rfl k7 (d4 (pv 0) (d4 (pv 5) (d4 (pv 2) d5)))))))))
     (f8 (i5 a2p))
     i9)
   (d6 (v9 (PW.pt (a2f (a3d (a2g (j5 G_law_are_seen hr ↑5 rfl k7 (d4 (pv 0) (d4 (pv 4) (d4 (pv 2) d5)))))) (a2f (g6 a2a (pv 7) d7 (i3 _)) (a1o (PW.pt (b2y (g6 a4b (pv 7) d7 (i3 _)) (b0n (g6 a4b (pv 2) f9 (i3 _)))))))))
     (f8 (i5 a2p))
     i9)
   (d6 (v9 (PW.pt (b2y (g6 a4b (pv 6) d7 (i3 _)) (b0n (g6 (a9p (K:=K)) (pv 2) (m5 (d4 f9 (d4 f9 d5))) (by with_unfolding_all rfl)))))
     (f8 (i5 a2p))
     i9)
   (d6 (v9 (g6 (a3u (K:=K)) (pv 2) (m5 (d4 f9 (d4 f9 (d4 f9 (d4 f9 d5))))) (by with_unfolding_all rfl))
     (f8 (i5 (m9 (b3e (K:=K) (n:=1) (huN hr 2)) (pv 8) (a0k d5) (i3 _))))
     i9)
   (d6 (i7 (i:=9) x0.nd rfl (by first|exact Or.inl rfl|exact Or.inr rfl) (j8 a5c (j8 a4i (pv 3) (pv 5)) (j8 a0q d7 (pv 0))))
   (d6 (v9 (g6 (a3u (K:=K)) (pv 2) (m5 (d4 f9 (d4 f9 (d4 f9 d5)))) (by with_unfolding_all rfl))
     (f8 (i5 (a1z (m9 (b3e (K:=K) (n:=1) (huN hr 2)) (pv 8) (a0k d5) (i3 _)) (a1p (m9 a2a (pv 9) (pv 0) (i3 _))))))
     i9)
   (@d6 _ _ _ _ _ (@i7 _ _ 10 _ _ _ _ x0.nd rfl (by first|exact Or.inl rfl|exact Or.inr rfl) (@m5 _ _ _ _ (@d4 _ _ _ _ _ f9 (@d4 _ _ _ _ _ f9 (@d4 _ _ _ _ _ f9 ↑3 rfl) rfl) rfl)) (by rfl) (by first|exact .inl rfl|exact .inr rfl))
   (f8 (i5 (a1z (m9 (a3u (K:=K)) (pv 2) (pv 10) (by with_unfolding_all rfl)) (a1z (m9 a2a (i6 (j2 (K:=K)) (by rfl) T.z_len PySem.boot_len (d4 (pv 8) d5)) (pv 0) (i3 _)) (a1p (m9 a1k (pv 9) (i6 (j2 (K:=K)) (by rfl) T.z_len PySem.boot_len (d4 (pv 8) d5)) (i3 _))))))))))))))),?_⟩
  have lm:=a0l;fail "";refine c5r ea rfl (lit [some (.int n),some (.ref a),some (.str t.st),some t.he.v,some (.ref m),some t.nf.v,some (.int t.nu),some (.int t.le),some (.ref p),none,none] (by rfl) ?_)
  fail "";refine⟨n,t.st,t.he,rfl,n8,λb1 H1 e1 s1=>?_⟩;fail "";cases b1
  ·fail ""
   exact(k.on s1).f λq=>by cases e1.mpr q.tf
  fail "";refine⟨n,t.st,t.nf,rfl,n8,λb2 H2 e2 s2=>?_⟩;fail "";cases b2
  ·fail ""
   exact(k.on (s1.trans s2)).f λq=>by cases e2.mpr q.nf
  fail "";have em:=s2 _ _ (s1 _ _ em);have ep:=s2 _ _ (s1 _ _ ep);refine⟨n,t.st,m,t.ms,rfl,by lia,n8,em,lz,λb3 H3 e3 s3=>?_⟩
  fail "";cases b3
  ·fail ""
   exact(k.on ((s1.trans s2).trans s3)).f λq=>by cases e3.mpr q.mf
  have ep:=s3 _ _ ep;have tf:=e1.mp rfl;have nf:=e2.mp rfl;have k:Tells (t.st∈tkU/\c4f t.st t.nu t.le/\a5b n t) H3 Q:=λb H' z s'=>k b H' (z.trans ⟨λq=>⟨q.1,e1.mp rfl,e2.mp rfl,e3.mp rfl,q.2.1,q.2.2⟩,λq=>⟨q.st,q.rf,q.pf⟩⟩) (((s1.trans s2).trans s3).trans s');clear ea em s1 s2 s3 e1 e2 e3 lz;rw[d5c] at k;unfold c4f at k;rename_i nX hX _;have fin:(t.le=0\/(0<t.le/\t.st="thing"))->nX [some (.int n),some (.ref a),some (.str t.st),some t.he.v,some (.ref m),some t.nf.v,some (.int t.nu),some (.int t.le),some (.ref p),none,none] H3:=by
   intro c1;have k:Tells ((t.st∈b1m\/t.st∈a9a\/t.st∈d0a)/\(t.nu=0\/t.st="left"\/t.st="thing")/\a5b n t) H3 Q:=λb H' z s'=>k b H' (z.trans ⟨λq=>⟨q.1,⟨q.2.1,c1⟩,q.2.2⟩,λq=>⟨q.1,q.2.1.1,q.2.2⟩⟩) s';fail "";rename_i nY hY;have fin2:(t.nu=0\/t.st="left"\/t.st="thing")->∀H4,Same H3 H4->nY [some (.int n),some (.ref a),some (.str t.st),some t.he.v,some (.ref m),some t.nf.v,some (.int t.nu),some (.int t.le),some (.ref p),none,none] H4:=by
    intro c2 H4 s4;have k:Tells ((t.st∈b1m\/t.st∈a9a\/t.st∈d0a)/\a5b n t) H4 Q:=λb H' z s'=>k b H' (z.trans ⟨λq=>⟨q.1,c2,q.2⟩,λq=>⟨q.1,q.2.2⟩⟩) (s4.trans s');have ep:=s4 _ _ ep;clear s4;fail "";refine⟨by show 4<=sizeLine;lia,λl hl=>?_⟩
    generalize u5:upd H4 l _=H5;obtain⟨s5,e5⟩:=nwS u5 hl;refine b8r (xs:=b1m) (SqL.of e5) ?_;replace k:=k.on s5;have ep:=s5 _ _ ep;clear e5 u5 s5 hl;unfold a5b at k;unfold a3k at tf nf;by_cases h1:t.st∈b1m
    ·rw[if_pos h1] at k
     rw[decide_eq_true h1];fail "";refine⟨Nat.zero_le _,λq hq=>?_⟩;generalize u6:upd H5 q _=H6;obtain⟨s6,e6⟩:=nwS u6 hq;refine c0i (b6q (g9 ep hq) (s6 _ _ ep) e6) ?_;refine k _ _ ?_ s6;rw[List.isEmpty_map,List.isEmpty_iff];exact⟨λy=>⟨.inl h1,y⟩,λy=>y.2⟩
    rw[if_neg h1] at k tf nf;rw[decide_eq_false h1];obtain⟨i,ei,i0,i1⟩:=tf;obtain⟨j,ej,j0,j1⟩:=nf;have k:Tells ((t.st∈a9a\/t.st∈d0a)/\(if t.st∈a9a then t.pa=[] else (t.pa.length:Int)=(i-j) % (2*(n:Int)))/\(i-j) % (2*(n:Int))<n) H5 Q:=λb H' z s'=>k b H' (z.trans ⟨λq=>⟨.inr q.1,i,j,ei,ej,q.2⟩,λq=>⟨q.1.elim (λy=>absurd y h1) id,by
     obtain⟨_,i',j',e1,e2,q⟩:=q;rw[ei] at e1;rw[ej] at e2;cases e1;cases e2;exact q⟩⟩) s'
    rw[ei,ej];fail "";refine⟨by show 3<=sizeLine;lia,λl hl=>?_⟩
    generalize u6:upd H5 l _=H6;obtain⟨s6,e6⟩:=nwS u6 hl;refine b8r (xs:=a9a) (SqL.of e6) ?_;replace k:=k.on s6;have ep:=s6 _ _ ep;clear e6 u6 s6 hl;have d0:=Int.emod_nonneg (i-j) (show 2*(n:Int)≠0 by lia)
    generalize (i-j) % (2*(n:Int))=far at k d0 ⊢;by_cases h2:t.st∈a9a
    ·rw[if_pos h2] at k
     rw[decide_eq_true h2];fail "";refine⟨Nat.zero_le _,λq hq=>?_⟩;generalize u7:upd H6 q _=H7;obtain⟨s7,e7⟩:=nwS u7 hq;refine c0i (b6q (g9 ep hq) (s7 _ _ ep) e7) ?_;replace k:=k.on s7;rw[List.isEmpty_map];cases c:t.pa.isEmpty with
     | true=>
      fail "";exact k.d ⟨λy=>⟨.inl h2,List.isEmpty_iff.mp c,y⟩,λy=>y.2.2⟩
     | false=>
      fail "";exact k.f λy=>by rw[y.2.1] at c;cases c
    rw[if_neg h2] at k;rw[decide_eq_false h2];fail "";refine⟨by show 9<=sizeLine;lia,λl hl=>?_⟩
    generalize u7:upd H6 l _=H7;obtain⟨s7,e7⟩:=nwS u7 hl;replace k:=k.on s7;have ep:=s7 _ _ ep;fail "";refine b8r (xs:=d0a) (SqL.of e7) ?_;fail "";refine x9 (λz=>?_) (λz=>?_)
    ·fail ""
     rw[List.length_map];refine x9 (λy=>?_) (λy=>?_)
     ·fail ""
      rw[List.length_map];refine k.d ⟨λx=>?_,λx=>?_⟩
      ·have:=V.int.inj x
       exact⟨.inr z,by lia,by lia⟩
      ·rw[x.2.1]
     ·fail ""
      exact k.f λq=>y (by have:=q.2;lia)
    ·fail ""
     exact k.f λq=>q.1.elim h2 z
   clear hY;fail "";rw[y6];refine a0u (λz=>?_) (λz=>?_)
   ·fail ""
    refine⟨by show 2<=sizeLine;lia,λl hl=>?_⟩
    generalize u4:upd H3 l _=H4;obtain⟨s4,e4⟩:=nwS u4 hl;refine c8c (xs:=["left","thing"]) (SqL.of e4) ?_;have me:t.st∈(["left","thing"]:List Str) ↔ t.st="left"\/t.st="thing":=by simp only[List.mem_cons,List.not_mem_nil,or_false]
    fail "";refine a0u (λy=>?_) (λy=>?_)
    ·fail ""
     exact(k.on s4).f λq=>q.2.1.elim z (λv=>y (me.mpr v))
    ·fail ""
     exact fin2 (.inr (me.mp y)) _ s4
   ·fail ""
    exact fin2 (.inl z) _ (Same.refl _)
  clear hX;fail "";refine x9 (λz=>?_) (λz=>?_)
  ·fail ""
   exact k.f λq=>by have:=q.2.1.2;lia
  ·fail ""
   rw[y6];refine a0u (λy=>?_) (λy=>?_)
   ·fail ""
    rw[a1r];refine a0u (λx=>?_) (λx=>?_)
    ·fail ""
     exact k.f λq=>q.2.1.2.elim y (λv=>x v.2)
    ·fail ""
     exact fin (.inr ⟨by lia,x⟩)
   ·fail ""
    exact fin (.inl y)
theorem d8o{xs:List V}{k:Nat}(l:xs.length=4*k+4):b6s xs (some (4*(k:Int))) (some (4*(k:Int)+2))=(xs.drop (4*k)).take 2:=by
 unfold b6s;rw[show(4*(k:Int))=((4*k:Nat):Int) by lia,show(((4*k:Nat):Int)+2)=((4*k+2:Nat):Int) by lia,HT.sIx_nat,HT.sIx_nat,l,Nat.min_eq_left (by lia),Nat.min_eq_left (by lia),show 4*k+2-4*k=2 by lia]
theorem d8n{xs:List V}{k:Nat}(l:xs.length=4*k+4):b6s xs (some (4*(k:Int)+2)) none=xs.drop (4*k+2):=by
 unfold b6s;rw[show(4*(k:Int)+2)=((4*k+2:Nat):Int) by lia,HT.sIx_nat,HT.sIx_none,l,Nat.min_eq_left (by lia)]
 exact List.take_of_length_le (by rw[List.length_drop];lia)
theorem c5y{α β:Type}{f:α->Option β}{g:α->β}:∀{l:List α},(∀a∈l,f a=some (g a))->l.filterMap f=l.map g
 | [],_=>rfl
 | a::l,h=>by
  rw[List.filterMap_cons,h a List.mem_cons_self,List.map_cons,c5y λb hb=>h b (List.mem_cons_of_mem _ hb)]
theorem d5n{xs:List Int}{k:Nat}(l:xs.length=4*k+4):b5t (xs.map V.int) k=((List.range k).map λq=>xs.getD (4*q) 0).map V.int:=by
 unfold b5t;rw[List.map_map];refine c5y λm hm=>?_;have hm:=List.mem_range.mp hm;rw[List.getElem?_map,List.getElem?_eq_getElem (by lia)]
 show some (V.int _)=some (V.int (xs.getD (4*m) 0));rw[List.getD_eq_getElem?_getD,List.getElem?_eq_getElem (by lia)]
 rfl
theorem d2i{c:List Int}{a:Nat}(h:a+2<=c.length):(c.drop a).take 2=[c.getD a 0,c.getD (a+1) 0]:=by
 rw[List.drop_eq_getElem_cons (by lia),List.drop_eq_getElem_cons (by lia),List.getD_eq_getElem?_getD,List.getD_eq_getElem?_getD,List.getElem?_eq_getElem (by lia),List.getElem?_eq_getElem (by lia)]
 rfl
theorem c3r{c:List Int}{a:Nat}(h:a+2<=c.length){p:Int->Prop}:(∀m∈(c.drop a).take 2,p m) ↔ ∀k,k<2->p (c.getD (a+k) 0):=by
 rw[d2i h];constructor
 ·intro q k hk
  have:k=0\/k=1:=by lia
  rcases this with rfl|rfl
  ·exact q _ List.mem_cons_self
  ·exact q _ (List.mem_cons_of_mem _ List.mem_cons_self)
 ·intro q m hm
  simp only[List.mem_cons,List.not_mem_nil,or_false] at hm;rcases hm with rfl|rfl
  ·exact q 0 ↑5
  ·exact q 1 ↑5
def rP(H:Hp)(n:Nat):V->Bool:=λv=>match v with
 | .ref p=>match H p with
  | some (.tup xs)=>decide (xs.length<1\/n<xs.length)
  | _=>false
 | _=>false
theorem c1b{H:Hp}{n:Nat}:∀{ps:List Addr}{os:List (List Int)},ps.length=os.length->(∀(i:Nat)(p:Addr)(o:List Int),ps[i]?=some p->os[i]?=some o->H p=some (.tup (o.map V.int)))->(((ps.map V.ref).filter (rP H n)).isEmpty=true ↔ c0q n os)
 | [],[],_,_=>⟨λ_ _ z=>(by cases z),λ_=>rfl⟩
 | p::ps,o::os,l,h=>by
  have e:=h 0 p o rfl rfl;have r:=c1b (H:=H) (n:=n) (ps:=ps) (os:=os) (by simpa using l) (λi=>h (i+1))
  rw[List.map_cons,List.filter_cons];have e2:rP H n (.ref p)=decide (o.length<1\/n<o.length):=by
   unfold rP;dsimp only;rw[e];dsimp only;rw[List.length_map]
  rw[e2];by_cases c:o.length<1\/n<o.length
  ·rw[if_pos (decide_eq_true c)]
   exact⟨λz=>(by cases z),λz=>(by have:=z o List.mem_cons_self;lia)⟩
  ·rw[if_neg (by rw[decide_eq_false c];decide)]
   refine r.trans ⟨λz m hm=>?_,λz m hm=>z m (List.mem_cons_of_mem _ hm)⟩;cases hm with
   | head=>lia
   | tail _ hm=>exact z m hm
 | [],_::_,l,_=>by cases l
 | _::_,[],l,_=>by cases l
theorem d4p{H:Hp}{ps qs:List Addr}{os bk:List (List Int)}(l:ps.length=os.length)(h:∀(i:Nat) (p:Addr) (o:List Int),ps[i]?=some p->os[i]?=some o->H p=some (.tup (o.map V.int)))(h':∀(i:Nat) (p:Addr) (o:List Int),qs[i]?=some p->bk[i]?=some o->H p=some (.tup (o.map V.int))):
  ∀(i:Nat)(p:Addr)(o:List Int),(ps++qs)[i]?=some p->(os++bk)[i]?=some o->H p=some (.tup (o.map V.int)):=by
 intro i p o hp ho;by_cases z:i<ps.length
 ·rw[List.getElem?_append_left z] at hp
  rw[List.getElem?_append_left (by lia)] at ho
  exact h i p o hp ho
 ·rw[List.getElem?_append_right (by lia)] at hp
  rw[List.getElem?_append_right (by lia),<- l] at ho
  exact h' _ p o hp ho
theorem c7x{n:Nat}{os bk:List (List Int)}:c0q n (os++bk) ↔ c0q n os/\c0q n bk:=⟨λh=>⟨λo ho=>h o (List.mem_append_left _ ho),λo ho=>h o (List.mem_append_right _ ho)⟩,λh o ho=>(List.mem_append.mp ho).elim (h.1 o) (h.2 o)⟩
def a6o:Sp:=λvs H Q _=>∃(a:Addr)(x:Sd),vs=[.ref a]/\ST H a x/\x.n=x.c.length / 4-1/\x.c.length<=100000/\x.os.length<=200000/\x.bk.length<=200000/\x.g.ms.length<=100000/\x.t.ms.length<=100000/\Tells (b0a x) H Q
abbrev a4s:Stmt:=top 95
theorem a0n:j3 ["stand","cells","giver","taker","orders","book","size"] ["stand"] (g7 a4s):=↑1
theorem b3j(D:DefT K mg "_law_is_stand" a4s ["stand"])(T:Txt K mg cl)(G_law_is_giver:FnT P w K mg base "_law_is_giver" 2 ["size","mind","orders"] a6p)(G_law_is_taker:FnT P w K mg base "_law_is_taker" 2 ["size","mind"] a6n):FnT P w K mg base "_law_is_stand" 3 ["stand"] a6o:=by
 refine D.fn a0n (λvs H Q E h=>?_) ↑2
 ·obtain⟨a,x,rfl,_⟩:=h
  rfl
 ·obtain⟨a,x,rfl,⟨c,g,t,o,b,ea,ec,eg,et,eo,eb⟩,en,lc,lo,lb,lg,lt,k⟩:=h
  refine⟨_,(d6 (a3e (pv 0) (a3s (K:=K) rfl (i4 (g0 (i:=1) a0n.nd rfl (by first|exact Or.inl rfl|exact Or.inr rfl)) (i4 (g0 (i:=2) a0n.nd rfl (by first|exact Or.inl rfl|exact Or.inr rfl)) (i4 (g0 (i:=3) a0n.nd rfl (by first|exact Or.inl rfl|exact Or.inr rfl)) (i4 (g0 (i:=4) a0n.nd rfl (by first|exact Or.inl rfl|exact Or.inr rfl)) (i4 (g0 (i:=5) a0n.nd rfl (by first|exact Or.inl rfl|exact Or.inr rfl)) a2o)))))))
   (d6 (i7 (i:=6) a0n.nd rfl (by first|exact Or.inl rfl|exact Or.inr rfl) (j8 a4i (j8 a7t (i6 (j2 (K:=K)) (by rfl) T.z_len PySem.boot_len (d4 (pv 1) d5)) d7) d7))
   (d6 (v9 (PW.pt (a2f (g6 a4b (j8 a5c (i6 (j2 (K:=K)) (by rfl) T.z_len PySem.boot_len (d4 (pv 1) d5)) d7) d7 (i3 _)) (a2f (g6 a2a (pv 6) d7 (i3 _)) (a1o (g6 b1q (pv 6) d7 (i3 _))))))
     (f8 (i5 a2p))
     i9)
   (d6 (v9 (g6 (b3d (K:=K) (n:=0) (huN hr 1)) (a7k (N:=["mark"]) (nt:=1) (fr:=[]) rfl (a0b rfl rfl (by decide +kernel) (by decide +kernel) rfl rfl) (a2n (K:=K) (c4q (K:=K) (pv 1) a0p (a0e (j8 a0q d7 (pv 6))) (a0e d7))) (y9 ↑5) (λ_ _ _ _ _=>g0 (i:=0) (show(["mark"]:List Str).Nodup by decide +kernel) rfl (Or.inl rfl) (Or.inr rfl)) (λ_ _ _ _ _=>(PW.pt (a2f (g6 a2a (pv 0) d7 (i3 _)) (a1o (g6 b1q (pv 0) d7 (i3 _)))))) (λ_ _ _ _ _=>(pv 0))) (m5 d5) (i3 _))
     (f8 (i5 a2p))
     i9)
   (d6 (v9 (g6 (b3d (K:=K) (n:=0) (huN hr 1)) (a7k (N:=["card","size"]) (nt:=1) (fr:=[6]) rfl (a5y (i:=6) rfl rfl (by decide +kernel) (by decide +kernel) rfl rfl rfl rfl rfl rfl rfl) (a2n (K:=K) (z8 (c4c (K:=K)) (pv 1) (a0e (j8 a0q d7 (pv 6))) (a0e (j8 a0y (j8 a0q d7 (pv 6)) d7)))) (y9 ↑5) (λ_ _ _ _ _=>g0 (i:=0) (show(["card","size"]:List Str).Nodup by decide +kernel) rfl (Or.inl rfl) (Or.inr rfl)) (λ_ _ _ _ _=>(PW.pt (a2f (g6 a2a (pv 0) (d0m c3q d7) (i3 _)) (a1o (g6 c7p (pv 0) (j8 a0q d7 (pv 1)) (i3 _)))))) (λ_ _ _ _ _=>(pv 0))) (m5 d5) (i3 _))
     (f8 (i5 a2p))
     i9)
   (d6 (v9 (g6 (b3d (K:=K) (n:=0) (huN hr 1)) (a7k (N:=["bell"]) (nt:=1) (fr:=[]) rfl (a0b rfl rfl (by decide +kernel) (by decide +kernel) rfl rfl) (a2n (K:=K) (z8 (c4c (K:=K)) (pv 1) (a0e (j8 a0y (j8 a0q d7 (pv 6)) d7)) a0p)) (y9 ↑5) (λ_ _ _ _ _=>g0 (i:=0) (show(["bell"]:List Str).Nodup by decide +kernel) rfl (Or.inl rfl) (Or.inr rfl)) (λ_ _ _ _ _=>(PW.pt (b2y (g6 a4b (pv 0) d7 (i3 _)) (b0n (g6 a4b (pv 0) d7 (i3 _)))))) (λ_ _ _ _ _=>(pv 0))) (m5 d5) (i3 _))
     (f8 (i5 a2p))
     i9)
   (d6 (v9 (g6 (b3d (K:=K) (n:=0) (huN hr 1)) (a7k (N:=["order","size"]) (nt:=1) (fr:=[6]) rfl (a5y (i:=6) rfl rfl (by decide +kernel) (by decide +kernel) rfl rfl rfl rfl rfl rfl rfl) (a2n (K:=K) (j8 (b5z (K:=K)) (pv 4) (pv 5))) (y9 ↑5) (λ_ _ _ _ _=>g0 (i:=0) (show(["order","size"]:List Str).Nodup by decide +kernel) rfl (Or.inl rfl) (Or.inr rfl)) (λ_ _ _ _ _=>(PW.pt (a2f (g6 a2a (i6 (j2 (K:=K)) (by rfl) T.z_len PySem.boot_len (d4 (pv 0) d5)) d7 (i3 _)) (a1o (g6 b1q (i6 (j2 (K:=K)) (by rfl) T.z_len PySem.boot_len (d4 (pv 0) d5)) (pv 1) (i3 _)))))) (λ_ _ _ _ _=>(pv 0))) (m5 d5) (i3 _))
     (f8 (i5 a2p))
     i9)
   (f8 (i5 (a1z (j5 G_law_is_giver hr ↑5 rfl k7 (d4 (pv 6) (d4 (pv 2) (d4 (pv 4) d5)))) (a1p (j5 G_law_is_taker hr ↑5 rfl k7 (d4 (pv 6) (d4 (pv 3) d5)))))))))))))),?_⟩
  have lm:=a0l;fail "";refine b3u ea rfl (lit [some (.ref a),some (.ref c),some (.ref g),some (.ref t),some (.ref o),some (.ref b),none] (by rfl) ?_)
  fail "";rw[List.length_map];rw[y6];refine a0u (λz=>?_) (λz=>?_)
  ·fail ""
   exact k.f λq=>by have:=q.c.len;lia
  fail "";refine x9 (λy=>?_) (λy=>?_)
  ·fail ""
   exact k.f λq=>by have:=q.c.len;have:=q.c.n2;lia
  fail "";refine x9 (λv=>?_) (λv=>?_)
  ·fail ""
   exact k.f λq=>by have:=q.c.len;have:=q.c.n8;lia
  have en2:((x.c.length:Int) / 4-1)=(x.n:Int):=by lia
  have lx:x.c.length=4*x.n+4:=by lia
  have n2:2<=x.n:=by lia
  have n8:x.n<=8:=by lia
  rw[en2];clear en2 z y v en;have lx':(x.c.map V.int).length=4*x.n+4:=by rw[List.length_map];exact lx
  fail "";refine⟨_,rfl,?_⟩;fail "";refine⟨_,rfl,c,x.c.map V.int,x.n,rfl,SqT.of ec,rfl,by congr 1,rfl,by lia,λp1 hp1=>?_⟩
  rw[d5n lx];generalize u1:upd H p1 _=H1;obtain⟨s1,e1⟩:=nwS u1 hp1;refine a5d (SqT.of e1) ?_;refine a2z (p:=iP λi=>decide (i<0\/3<i)) e1 (by rw[List.length_map,List.length_map,List.length_range];lia) ?_ ?_
  ·intro i v H' k1 k2 hx s' y1 y2
   obtain⟨y,hy,rfl⟩:=a4c hx;fail "";refine x9 (λz=>?_) (λz=>?_)
   ·fail ""
    exact y1 (decide_eq_true (.inl z)) _ (Same.refl _)
   ·fail ""
    refine x9 (λx=>?_) (λx=>?_)
    ·fail ""
     exact y1 (decide_eq_true (.inr x)) _ (Same.refl _)
    ·exact y2 (decide_eq_false (by lia)) _ (Same.refl _)
  intro D1 H2 hD1 s2 e2;fail "";refine⟨Nat.zero_le _,λq hq=>?_⟩;generalize u3:upd H2 q _=H3;obtain⟨s3,e3⟩:=nwS u3 hq;refine b6n (b3v (g9 e2 hq) (s3 _ _ e2) e3) ?_;have ie:=a9y (λi=>decide (i<0\/3<i)) ((List.range x.n).map λq=>x.c.getD (4*q) 0);have s03:=(s1.trans s2).trans s3;generalize ((((List.range x.n).map λq=>x.c.getD (4*q) 0).map V.int).filter (iP λi=>decide (i<0\/3<i))).isEmpty=b1 at ie ⊢;replace k:=k.on s03;have ec:=s03 _ _ ec;have eg:=eg.same s03;have et:=et.same s03;have eo:=eo.same s03;have eb:=eb.same s03;clear e1 e2 e3 u1 u3 s1 s2 s3 s03 hp1 hD1 hq ea;cases b1 with
  | false=>
   fail "";refine k.f λq=>?_;have:false=true:=ie.mpr λm hm=>?_
   ·cases this
   ·obtain⟨j,hj,rfl⟩:=List.mem_map.mp hm
    have:=q.c.ok.mks j (List.mem_range.mp hj);exact decide_eq_false (by lia)
  | true=>
  have mks:∀j,j<x.n->0<=x.c.getD (4*j) 0/\x.c.getD (4*j) 0<=3:=λj hj=>by
   have:=of_decide_eq_false (ie.mp rfl _ (List.mem_map.mpr ⟨j,List.mem_range.mpr hj,rfl⟩));lia
  clear ie;fail "";refine⟨_,rfl,?_⟩;fail "";refine⟨_,rfl,c,x.c.map V.int,rfl,SqT.of ec,?_,λp1 hp1=>?_⟩
  ·rw[show(4*(x.n:Int))=((4*x.n:Nat):Int) by lia,HT.sIx_nat]
   intro q;have:=q.1;lia
  rw[d8o lx',<- List.map_drop,<- List.map_take];generalize u1:upd H3 p1 _=H4;obtain⟨s1,e1⟩:=nwS u1 hp1;refine a5d (SqT.of e1) ?_;refine a2z (p:=iP (λi=>decide (i < -1\/2*(x.n:Int)<=i))) e1 (by rw[List.length_map,List.length_take];lia) ?_ ?_
  ·intro i v H' k1 k2 hx s' y1 y2
   obtain⟨y,hy,rfl⟩:=a4c hx;fail "";refine x9 (λz=>?_) (λz=>?_)
   ·fail ""
    exact y1 (decide_eq_true (.inl z)) _ (Same.refl _)
   ·fail ""
    refine x9 (λx=>?_) (λx=>?_)
    ·fail ""
     exact y1 (decide_eq_true (.inr x)) _ (Same.refl _)
    ·exact y2 (decide_eq_false (by lia)) _ (Same.refl _)
  intro D1 H5 hD1 s2 e2;fail "";refine⟨Nat.zero_le _,λq hq=>?_⟩;generalize u3:upd H5 q _=H6;obtain⟨s3,e3⟩:=nwS u3 hq;refine b6n (b3v (g9 e2 hq) (s3 _ _ e2) e3) ?_;have ie:=a9y (λi=>decide (i < -1\/2*(x.n:Int)<=i)) ((x.c.drop (4*x.n)).take 2);have s03:=(s1.trans s2).trans s3;generalize ((((x.c.drop (4*x.n)).take 2).map V.int).filter (iP (λi=>decide (i < -1\/2*(x.n:Int)<=i)))).isEmpty=b1 at ie ⊢;replace k:=k.on s03;have ec:=s03 _ _ ec;have eg:=eg.same s03;have et:=et.same s03;have eo:=eo.same s03;have eb:=eb.same s03;clear e1 e2 e3 u1 u3 s1 s2 s3 s03 hp1 hD1 hq;rw[c3r (by lia)] at ie
  cases b1 with
  | false=>
   fail "";refine k.f λq=>?_;have:false=true:=ie.mpr λm hm=>?_
   ·cases this
   ·have:=q.c.ok.cd m hm
    exact decide_eq_false (by lia)
  | true=>
  have cds:∀k,k<2->-1<=x.c.getD (4*x.n+k) 0/\x.c.getD (4*x.n+k) 0<2*(x.n:Int):=λk hk=>by
   have:=of_decide_eq_false (ie.mp rfl k hk);lia
  clear ie;fail "";refine⟨_,rfl,?_⟩;fail "";refine⟨c,x.c.map V.int,rfl,SqT.of ec,?_,λp1 hp1=>?_⟩
  ·rw[show(4*(x.n:Int)+2)=((4*x.n+2:Nat):Int) by lia,HT.sIx_nat]
   intro q;have:=q.1;lia
  rw[d8n lx',<- List.map_drop,<- List.take_of_length_le (l:=x.c.drop (4*x.n+2)) (i:=2) (by rw[List.length_drop];lia)]
  generalize u1:upd H6 p1 _=H7;obtain⟨s1,e1⟩:=nwS u1 hp1;refine a5d (SqT.of e1) ?_;refine a2z (p:=iP (λi=>decide (i≠0/\i≠1))) e1 (by rw[List.length_map,List.length_take];lia) ?_ ?_
  ·intro i v H' k1 k2 hx s' y1 y2
   obtain⟨y,hy,rfl⟩:=a4c hx;fail "";rw[y6];refine a0u (λz=>?_) (λz=>?_)
   ·fail ""
    rw[y6];refine a0u (λx=>?_) (λx=>?_)
    ·fail ""
     exact y1 (decide_eq_true ⟨z,x⟩) _ (Same.refl _)
    ·fail ""
     exact y2 (decide_eq_false (by lia)) _ (Same.refl _)
   ·fail ""
    exact y2 (decide_eq_false (by lia)) _ (Same.refl _)
  intro D1 H8 hD1 s2 e2;fail "";refine⟨Nat.zero_le _,λq hq=>?_⟩;generalize u3:upd H8 q _=H9;obtain⟨s3,e3⟩:=nwS u3 hq;refine b6n (b3v (g9 e2 hq) (s3 _ _ e2) e3) ?_;have ie:=a9y (λi=>decide (i≠0/\i≠1)) ((x.c.drop (4*x.n+2)).take 2);have s03:=(s1.trans s2).trans s3;generalize ((((x.c.drop (4*x.n+2)).take 2).map V.int).filter (iP (λi=>decide (i≠0/\i≠1)))).isEmpty=b1 at ie ⊢;replace k:=k.on s03;have ec:=s03 _ _ ec;have eg:=eg.same s03;have et:=et.same s03;have eo:=eo.same s03;have eb:=eb.same s03;clear e1 e2 e3 u1 u3 s1 s2 s3 s03 hp1 hD1 hq;rw[c3r (by lia)] at ie
  cases b1 with
  | false=>
   fail "";refine k.f λq=>?_;have:false=true:=ie.mpr λm hm=>?_
   ·cases this
   ·have:=q.c.ok.bl m hm
    exact decide_eq_false (by lia)
  | true=>
  have bls:∀k,k<2->x.c.getD (4*x.n+2+k) 0=0\/x.c.getD (4*x.n+2+k) 0=1:=λk hk=>by
   have:=of_decide_eq_false (ie.mp rfl k hk);lia
  clear ie;fail "";obtain⟨ps,eps,lps,hps⟩:=id eo;obtain⟨qs,eqs,lqs,hqs⟩:=id eb;refine c1y eps eqs (by rw[List.length_map,List.length_map];lia) λp1 H10 s10 e10=>?_
  rw[<- List.map_append] at e10;have hh:∀(i:Nat)(p:Addr)(o:List Int),(ps++qs)[i]?=some p->(x.os++x.bk)[i]?=some o->H10 p=some (.tup (o.map V.int)):=d4p lps (λi p o a b=>s10 _ _ (hps i p o a b)) (λi p o a b=>s10 _ _ (hqs i p o a b));have ll:(ps++qs).length=(x.os++x.bk).length:=by rw[List.length_append,List.length_append];lia
  have ie:=c1b (n:=x.n) ll hh;have lz:(ps++qs).length<sizeLine:=by rw[List.length_append];lia
  refine a5d (SqT.of e10) ?_;refine a2z (p:=rP H10 x.n) e10 (by rw[List.length_map];exact lz) ?_ ?_
  ·intro i v H' k1 k2 hx s' y1 y2
   obtain⟨p,hp,rfl⟩:=a4c hx;have hi:i<(x.os++x.bk).length:=by rw[<- ll];exact(List.getElem?_eq_some_iff.mp hp).1
   have e11:=hh i p _ hp (List.getElem?_eq_getElem hi);have e2:rP H10 x.n (.ref p)=decide ((x.os++x.bk)[i].length<1\/x.n<(x.os++x.bk)[i].length):=by
    unfold rP;dsimp only;rw[e11];dsimp only;rw[List.length_map]
   rw[e2] at y1 y2;have e12:=s' _ _ e11;clear e11 e2 hx hp;generalize (x.os++x.bk)[i]=o' at *;fail "";rw[List.length_map];refine x9 (λz=>?_) (λz=>?_)
   ·fail ""
    exact y1 (decide_eq_true (.inl (by lia))) _ (Same.refl _)
   ·fail ""
    rw[List.length_map];refine x9 (λv=>?_) (λv=>?_)
    ·fail ""
     exact y1 (decide_eq_true (.inr (by lia))) _ (Same.refl _)
    ·exact y2 (decide_eq_false (by lia)) _ (Same.refl _)
  intro D1 H11 hD1 s2 e2;fail "";refine⟨Nat.zero_le _,λq hq=>?_⟩;generalize u3:upd H11 q _=H12;obtain⟨s3,e3⟩:=nwS u3 hq;refine b6n (b3v (g9 e2 hq) (s3 _ _ e2) e3) ?_;have s03:=(s10.trans s2).trans s3;generalize (((ps++qs).map V.ref).filter (rP H10 x.n)).isEmpty=b1 at ie ⊢;replace k:=k.on s03;have eg:=eg.same s03;have et:=et.same s03;have eo:=eo.same s03;clear e2 e3 u3 s2 s3 s03 hD1 hq hh ll lz e10 s10 eps eqs hps hqs lps lqs;rw[c7x] at ie;cases b1 with
  | false=>
   fail "";refine k.f λq=>?_;cases ie.mpr ⟨q.os,q.bk⟩
  | true=>
  have ie:=ie.mp rfl;fail "";refine⟨x.n,g,o,x.g,x.os,rfl,by lia,n8,eg,eo,lg,λb1 H13 e13 s13=>?_⟩
  fail "";cases b1 with
  | false=>
   fail "";exact(k.on s13).f λq=>by cases e13.mpr q.g
  | true=>
  fail "";refine⟨x.n,t,x.t,rfl,n2,n8,et.same s13,lt,λb2 H14 e14 s14=>k b2 H14 ⟨λq=>?_,λq=>e14.mpr q.t⟩ (s13.trans s14)⟩;exact⟨⟨n2,n8,lx,mks,cds,bls⟩,e13.mp rfl,e14.mp q,ie.1,ie.2⟩
abbrev a2l:Stmt:=top 96
theorem a9n:j3 ["orders"] ["orders"] (g7 a2l):=↑1
theorem a9r(D:DefT K mg "_law_told_orders" a2l ["orders"])(T:Txt K mg cl):FnT P w K mg base "_law_told_orders" 1 ["orders"] a2u:=by
 refine D.fn a9n (λvs H Q E h=>?_) ↑2
 ·obtain⟨a,os,rfl,_⟩:=h
  rfl
 ·obtain⟨a,os,rfl,⟨ps,ea,hl,ep⟩,ht,k⟩:=h
  refine⟨_,(d6 (v9 (g6 a1k (i6 (j2 (K:=K)) (by rfl) T.z_len PySem.boot_len (d4 (pv 0) d5)) d7 (i3 _))
     (f8 (i5 f9))
     i9)
   (f8 (i5 (a1f (K:=K) f9 (d4 (a1j (N:=["order"]) (nt:=1) (fr:=[]) rfl (a0b rfl rfl (by decide +kernel) (by decide +kernel) rfl rfl) (a2n (K:=K) (pv 0)) (y9 ↑5) (λ_ _ _ _ _=>g0 (i:=0) (show(["order"]:List Str).Nodup by decide +kernel) rfl (Or.inl rfl) (Or.inr rfl)) (λ_ _ _ _ _=>(a1f (K:=K) f9 (d4 (a1j (N:=["part"]) (nt:=1) (fr:=[]) rfl (a0b rfl rfl (by decide +kernel) (by decide +kernel) rfl rfl) (a2n (K:=K) (pv 0)) (y9 ↑5) (λ_ _ _ _ _=>g0 (i:=0) (show(["part"]:List Str).Nodup by decide +kernel) rfl (Or.inl rfl) (Or.inr rfl)) (λ_ _ _ _ _=>(m6 a4k (by rfl) T.z_str PyProof.Rows.boot_str (d4 (pv 0) d5)))) d5)))) d5))))),?_⟩
  have lm:=a0l;have ht1:=ht.1;fail "";rw[List.length_map,hl];refine x9 (λz=>?_) (λz=>?_)
  ·fail ""
   have e:os=[]:=List.length_eq_zero_iff.mp (by have:=V.int.inj z;lia)
   have:=k H (Same.refl H);unfold ordT at this;rw[if_pos e] at this;exact this
  ·have ne:os≠[]:=λq=>z (by rw[q];rfl)
   fail "";refine a5d (SqT.of ea) ?_;refine a3y (xs:=ps.map V.ref) (by rw[List.length_map];lia) (MpP H os (λo=>V.str (b6v o)) (λ_=>True)) (λD hD=>MpP.new hD) (λD i acc H' p=>⟨p.len.1,p.len.2,SqT.of (p.2.1 _ _ ea)⟩) ?_ ?_
   ·intro D i x acc H' hD hx hp
    obtain⟨q,hq,rfl⟩:=a4c hx;have hi:i<os.length:=by rw[<- hl];exact(List.getElem?_eq_some_iff.mp hq).1
    have hoi:=List.getElem?_eq_getElem hi;have go:=ht.2 _ (List.getElem_mem hi);have eq:=hp.2.1 _ _ (ep i q _ hq hoi);fail "";generalize os[i]=o at *;refine a5d (SqT.of eq) ?_;refine a3y (xs:=o.map V.int) (by rw[List.length_map];lia) (MpP H' o (λx=>V.str (a2q x)) (λ_=>True)) (λD hD=>MpP.new hD) (λD i acc H' p=>⟨p.len.1,p.len.2,SqT.of (p.2.1 _ _ eq)⟩) ?_ ?_
    ·intro D i x acc H' hD hx hp
     obtain⟨y,hy,rfl⟩:=a4c hx;fail "";exact⟨y,rfl,a2c (go.2 y (List.mem_of_getElem? hy)),hp.step hD hy trivial rfl (Same.refl _)⟩
    ·intro D2 acc2 H2 hD2 hp2
     obtain⟨e,s',_⟩:=hp2.done (List.length_map _);fail "";have w1:=b0b go.2;refine a3b t9 (ss:=o.map a2q) (e.trans (by rw[List.map_map];rfl)) (by lia) ?_
     exact hp.step hD hoi trivial rfl s'
   ·intro D acc H' hD hp
    obtain⟨e,s',_⟩:=hp.done (by rw[List.length_map];exact hl)
    fail "";have w1:=c1h ht;refine c5w a2t (ss:=os.map b6v) (e.trans (by rw[List.map_map];rfl)) (by lia) ?_
    have:=k H' s';unfold ordT at this;rw[if_neg ne] at this;exact this
def wdT:V->Str
 | .str s=>s
 | .int i=>a2q i
 | _=>"none"
def d1y(v:V):Prop:=(∃s,v=.str s/\s.length<=10)\/(∃i,v=.int i/\i.natAbs<10 ^ 60)\/v=.non
theorem b5p{σ:St}{H:Hp}{w:Str}{te:TE}{a:Addr}{ns:List Int}{Q:VK}(e:H a=some (.tup (ns.map V.int)))(l:ns.length<=1000)(ht:∀(H1:Hp) (R:VK),Same H H1->R (.ref a) H1->te σ H1 R)(q:∀p H',H p=none->Same H H'->H' p=some (.lst (.str w::ns.map V.int))->Q (.ref p) H'):
  [V.str w].length<=sizeLine/\∀p,H p=none->tCB (b9s K) (c7b te d1w) σ (upd H p (.lst [.str w])) λy H2=>d5m (.ref p) y H2 Q:=by
 have lm:=a0l;refine⟨by show 1<=sizeLine;lia,λp hp=>?_⟩
 refine d7i (c9i (ht _ _ (d9 hp) ?_));refine c5u (c5v (d9 hp _ _ e) λr hr=>?_);refine a7x (d9 hr _ _ d8) d8 (by rw[List.length_map];show 1+ns.length<=sizeLine;lia) λz hz=>?_
 exact q z _ (a6t ((d9 hp).trans (d9 hr)) hz) (((d9 hp).trans (d9 hr)).trans (d9 hz)) d8
def c8w(x:Sd):List (List V):=[.str "cells"::x.c.map V.int,[.str "giver",.str x.g.st,x.g.he.v,.int x.g.od,.int x.g.pt],.str "marks"::x.g.ms.map V.int,[.str "taker",.str x.t.st,x.t.he.v,x.t.nf.v,.int x.t.nu,.int x.t.le],.str "marks"::x.t.ms.map V.int,.str "parts"::x.t.pa.map V.int]
theorem c0r{w:Str}{ns:List Int}(lw:w.length<=10)(l:ns.length<=100)(h:b4r ns):(V.str w::ns.map V.int).length<=200/\∀v∈V.str w::ns.map V.int,d1y v:=by
 refine⟨by rw[List.length_cons,List.length_map];lia,λv hv=>?_⟩
 cases hv with
 | head=>exact .inl ⟨w,rfl,lw⟩
 | tail _ hv=>
  obtain⟨i,hi,rfl⟩:=List.mem_map.mp hv;exact .inr (.inl ⟨i,rfl,h i hi⟩)
theorem d5a{he:Hr}(h:c6n he):d1y he.v:=by
 cases he with
 | non=>exact .inr (.inr rfl)
 | int i=>exact .inr (.inl ⟨i,rfl,h⟩)
theorem d0e{x:Sd}(tn:c9s x)(lc:x.c.length<=100):∀row∈c8w x,row.length<=200/\∀v∈row,d1y v:=by
 intro row hr;unfold c8w at hr;simp only[List.mem_cons,List.not_mem_nil,or_false] at hr;rcases hr with rfl|rfl|rfl|rfl|rfl|rfl
 ·exact c0r ↑5 lc tn.c
 ·refine⟨by show 5<=200;decide,λv hv=>?_⟩
  simp only[List.mem_cons,List.not_mem_nil,or_false] at hv;rcases hv with rfl|rfl|rfl|rfl|rfl
  ·exact .inl ⟨_,rfl,by decide⟩
  ·exact .inl ⟨_,rfl,tn.gs⟩
  ·exact d5a tn.gh
  ·exact .inr (.inl ⟨_,rfl,tn.go⟩)
  ·exact .inr (.inl ⟨_,rfl,tn.gp⟩)
 ·exact c0r ↑5 tn.gl tn.gm
 ·refine⟨by show 6<=200;decide,λv hv=>?_⟩
  simp only[List.mem_cons,List.not_mem_nil,or_false] at hv;rcases hv with rfl|rfl|rfl|rfl|rfl|rfl
  ·exact .inl ⟨_,rfl,by decide⟩
  ·exact .inl ⟨_,rfl,tn.ts⟩
  ·exact d5a tn.th
  ·exact d5a tn.tf
  ·exact .inr (.inl ⟨_,rfl,tn.tn⟩)
  ·exact .inr (.inl ⟨_,rfl,tn.te⟩)
 ·exact c0r ↑5 tn.tl tn.tm
 ·exact c0r ↑5 tn.tq tn.tp
theorem c9w{v:V}(h:d1y v):(wdT v).length<=61:=by
 rcases h with ⟨s,rfl,l⟩|⟨i,rfl,l⟩|rfl
 ·show s.length<=61;lia
 ·exact a1a l
 ·decide
theorem c3n:∀{row:List V},(∀v∈row,d1y v)->wt (row.map wdT)<=62*row.length
 | [],_=>by decide
 | v::row,h=>by
  have:=c9w (h v List.mem_cons_self);have:=c3n λu hu=>h u (List.mem_cons_of_mem v hu);rw[List.map_cons,y0,List.length_cons];lia
theorem d2c{row:List V}(h:row.length<=200/\∀v∈row,d1y v):wt (row.map wdT)<=12400:=by
 have:=c3n h.2;have:=h.1;lia
theorem c7e{x:Sd}(tn:c9s x)(lc:x.c.length<=100):wt (rowsS x)<=60000:=by
 have q1:=tn.gs;have q2:=a1x tn.gh;have q3:=a1a tn.go;have q4:=a1a tn.gp;have q5:=tn.ts;have q6:=a1x tn.th;have q7:=a1x tn.tf;have q8:=a1a tn.tn;have q9:=a1a tn.te;have c0:Str.empty.length=0:=rfl;have c1:("giver ":Str).length=6:=rfl;have c2:("taker ":Str).length=6:=rfl;have c3:(" ":Str).length=1:=rfl;have c4:("orders ":Str).length=7:=rfl;have c5:("book ":Str).length=5:=rfl;have o1:=a7s tn.os tn.ol;have o2:=a7s tn.bk tn.bl;have w1:=a2x (v:="cells") ↑5 lc tn.c;have w2:=a2x (v:="marks") ↑5 tn.gl tn.gm;have w3:=a2x (v:="marks") ↑5 tn.tl tn.tm;have w4:=a2x (v:="parts") ↑5 tn.tq tn.tp;have w5:(c1s x.g).length<=300:=by
  rw[<- c1r];simp only[Str.length_append];lia
 have w6:(c2r x.t).length<=300:=by
  rw[<- c0u];simp only[Str.length_append];lia
 unfold rowsS;simp only[y0,b0s,Str.length_append];lia
theorem d5b(he:Hr):wdT he.v=a4l he:=by cases he <;> rfl
theorem c9y(x:Sd):(c8w x).map (λrow=>V.str (Txt.join " " (row.map wdT)))++[V.str (("orders ":Str)++ordT x.os),V.str (("book ":Str)++ordT x.bk)]=(rowsS x).map V.str:=by
 unfold c8w rowsS a3f c1s c2r;simp only[List.map_cons,List.map_nil,List.cons_append,List.nil_append,d5b];rw[List.map_map,List.map_map,List.map_map,List.map_map]
 rfl
def a8c:Sp:=λvs H Q E=>∃(a:Addr)(x:Sd),vs=[.ref a]/\ST H a x/\x.c.length<=100/\c9s x/\∀H',Same H H'->Q (.str (standT x)) H'
abbrev a5r:Stmt:=top 97
theorem a0a:j3 ["stand","cells","giver","taker","orders","book","rows","told"] ["stand"] (g7 a5r):=↑1
theorem b4n(D:DefT K mg "_law_written" a5r ["stand"])(T:Txt K mg cl)(G_law_told_orders:FnT P w K mg base "_law_told_orders" 1 ["orders"] a2u):FnT P w K mg base "_law_written" 2 ["stand"] a8c:=by
 refine D.fn a0a (λvs H Q E h=>?_) ↑2
 ·obtain⟨a,x,rfl,_⟩:=h
  rfl
 ·obtain⟨a,x,rfl,st,lc,tn,k⟩:=h
  refine⟨_,(d6 (a3e (pv 0) (a3s (K:=K) rfl (i4 (g0 (i:=1) a0a.nd rfl (by first|exact Or.inl rfl|exact Or.inr rfl)) (i4 (g0 (i:=2) a0a.nd rfl (by first|exact Or.inl rfl|exact Or.inr rfl)) (i4 (g0 (i:=3) a0a.nd rfl (by first|exact Or.inl rfl|exact Or.inr rfl)) (i4 (g0 (i:=4) a0a.nd rfl (by first|exact Or.inl rfl|exact Or.inr rfl)) (i4 (g0 (i:=5) a0a.nd rfl (by first|exact Or.inl rfl|exact Or.inr rfl)) a2o)))))))
   (d6 (i7 (i:=6) a0a.nd rfl (by first|exact Or.inl rfl|exact Or.inr rfl) (m5 (d4 (j8 a2b (m5 (d4 f9 d5)) (m6 (a2s (K:=K)) (by rfl) T.z_list PyProof.Rows.boot_list (d4 (pv 1) d5))) (d4 (m5 (d4 f9 (d4 (o0 (a0i (K:=K)) (pv 2) d7 (λ_ _=>rfl)) (d4 (o0 (a0i (K:=K)) (pv 2) d7 (λ_ _=>rfl)) (d4 (o0 (a0i (K:=K)) (pv 2) d7 (λ_ _=>rfl)) (d4 (o0 (a0i (K:=K)) (pv 2) d7 (λ_ _=>rfl)) d5)))))) (d4 (j8 a2b (m5 (d4 f9 d5)) (m6 (a2s (K:=K)) (by rfl) T.z_list PyProof.Rows.boot_list (d4 (o0 (a0i (K:=K)) (pv 2) d7 (λ_ _=>rfl)) d5))) d5)))))
   (d6 (a1q (a5a (K:=K) (pv 6) (d4 (m5 (d4 f9 (d4 (o0 (a0i (K:=K)) (pv 3) d7 (λ_ _=>rfl)) (d4 (o0 (a0i (K:=K)) (pv 3) d7 (λ_ _=>rfl)) (d4 (o0 (a0i (K:=K)) (pv 3) d7 (λ_ _=>rfl)) (d4 (o0 (a0i (K:=K)) (pv 3) d7 (λ_ _=>rfl)) (d4 (o0 (a0i (K:=K)) (pv 3) d7 (λ_ _=>rfl)) d5))))))) d5)))
   (d6 (i7 (i:=6) a0a.nd rfl (by first|exact Or.inl rfl|exact Or.inr rfl) (j8 a2b (pv 6) (m5 (d4 (j8 a2b (m5 (d4 f9 d5)) (m6 (a2s (K:=K)) (by rfl) T.z_list PyProof.Rows.boot_list (d4 (o0 (a0i (K:=K)) (pv 3) d7 (λ_ _=>rfl)) d5))) (d4 (j8 a2b (m5 (d4 f9 d5)) (m6 (a2s (K:=K)) (by rfl) T.z_list PyProof.Rows.boot_list (d4 (o0 (a0i (K:=K)) (pv 3) d7 (λ_ _=>rfl)) d5))) d5)))))
   (d6 (a4z (ix:=7) (N:=["row"]) (nt:=1) (fr:=[]) rfl (a0b rfl rfl (by decide +kernel) (by decide +kernel) rfl rfl) (a1y (K:=K) (pv 6)) (y9 ↑5) (λ_ _ _ _ _=>g0 (i:=0) (show(["row"]:List Str).Nodup by decide +kernel) rfl (Or.inl rfl) (Or.inr rfl)) (λ_ _ _ _ _=>(a1f (K:=K) f9 (d4 (a1j (N:=["word"]) (nt:=1) (fr:=[]) rfl (a0b rfl rfl (by decide +kernel) (by decide +kernel) rfl rfl) (a1y (K:=K) (pv 0)) (y9 ↑5) (λ_ _ _ _ _=>g0 (i:=0) (show(["word"]:List Str).Nodup by decide +kernel) rfl (Or.inl rfl) (Or.inr rfl)) (λ_ _ _ _ _=>(a5w (g6 b4v (pv 0) a1i (i3 _)) f9 (m6 c6h (by rfl) T.z_str PyProof.Rows.boot_str (d4 (pv 0) d5))))) d5))) a0a.nd rfl rfl)
   (f8 (i5 (a1f (K:=K) f9 (d4 (j8 a2b (pv 7) (m5 (d4 (j8 b0o f9 (j5 G_law_told_orders hr ↑5 rfl k7 (d4 (pv 4) d5))) (d4 (j8 b0o f9 (j5 G_law_told_orders hr ↑5 rfl k7 (d4 (pv 5) d5))) d5)))) d5))))))))),?_⟩
  have lm:=a0l;obtain⟨c,g,t,o,b,ea,ec,⟨gm,eg,egm⟩,⟨tm,tp,et,etm,etp⟩,eo,eb⟩:=st;fail "";refine b3u ea rfl (lit [some (.ref a),some (.ref c),some (.ref g),some (.ref t),some (.ref o),some (.ref b),none,none] (by rfl) ?_)
  fail "";refine b5p ec (by lia) (λH1 R s1 r=>d1d rfl r) λp1 H1 hp1 s1 e1=>?_
  have eg:=s1 _ _ eg;have egm:=s1 _ _ egm;fail "";refine⟨by show 5<=sizeLine;lia,λp2 hp2=>?_⟩
  generalize u2:upd H1 p2 _=H2;obtain⟨s2,e2⟩:=nwS u2 hp2;have eg:=s2 _ _ eg;have egm:=s2 _ _ egm;fail "";refine b5p egm (Nat.le_trans tn.gl ↑5) (λH3 R s3 r=>?_) λp3 H3 hp3 s3 e3=>?_
  ·have eg:=s3 _ _ eg
   fail "";exact r
  fail "";refine⟨by show 3<=sizeLine;lia,λl4 hl4=>?_⟩
  have e1:=s3 _ _ (s2 _ _ e1);have e2:=s3 _ _ e2;generalize u4:upd H3 l4 _=H4;obtain⟨s4,e4⟩:=nwS u4 hl4;have e13:=e1;have e23:=e2;have e33:=e3;have s03:=(s1.trans s2).trans s3;have etH:=et;have et:=s4 _ _ (s03 _ _ et);clear eg egm u2 u4 e1 e2 e3;refine lit [some (.ref a),some (.ref c),some (.ref g),some (.ref t),some (.ref o),some (.ref b),some (.ref l4),none] (by rfl) ?_
  fail "";refine⟨by show 6<=sizeLine;lia,λp5 hp5=>?_⟩
  have n5:p5≠l4:=(g9 e4 hp5).symm;generalize u5:upd H4 p5 _=H5;obtain⟨s5,e5⟩:=nwS u5 hp5;replace e4:=s5 _ _ e4;have ntl:∀{y:Addr}{o:HO},H3 y=some o->y≠l4:=λe=>g9 e hl4;refine c5u (c8g e4 (by show 3<sizeLine;lia) ?_)
  have e6:upd H5 l4 (.lst ([V.ref p1,.ref p2,.ref p3]++[.ref p5])) l4=_:=d8;have s36:Same H3 (upd H5 l4 (.lst ([V.ref p1,.ref p2,.ref p3]++[.ref p5]))):=b2v (s4.trans s5) hl4;have e56:upd H5 l4 (.lst ([V.ref p1,.ref p2,.ref p3]++[.ref p5])) p5=_:=(j4 n5).trans e5;generalize upd H5 l4 (.lst ([V.ref p1,.ref p2,.ref p3]++[.ref p5]))=H6 at e6 s36 e56 ⊢;clear et e4 e5 u5;have s06:=s03.trans s36;have et:=s06 _ _ etH;have etm:=s06 _ _ etm;have etp:=s06 _ _ etp;have e13:=s36 _ _ e13;have e23:=s36 _ _ e23;have e33:=s36 _ _ e33;clear s36 s4 s5 ntl hl4 hp5 n5;fail "";refine b5p etm (Nat.le_trans tn.tl ↑5) (λH7 R s7 r=>?_) λp7 H7 hp7 s7 e7=>?_
  ·have et:=s7 _ _ et
   fail "";exact r
  have et:=s7 _ _ et;have etp:=s7 _ _ etp;fail "";refine b5p etp (Nat.le_trans tn.tq ↑5) (λH8 R s8 r=>?_) λp8 H8 hp8 s8 e8=>?_
  ·have et:=s8 _ _ et
   fail "";exact r
  fail "";refine⟨by show 2<=sizeLine;lia,λl9 hl9=>?_⟩
  have s68:=s7.trans s8;have e7:=s8 _ _ e7;generalize u9:upd H8 l9 _=H9;obtain⟨s9,e9⟩:=nwS u9 hl9;have s69:=s68.trans s9;refine a7x (s69 _ _ e6) e9 (by show 4+2<=sizeLine;lia) λl10 hl10=>?_
  generalize u10:upd H9 l10 _=H10;obtain⟨s10,e10⟩:=nwS u10 hl10;have sA:=s69.trans s10;have hA:∀(i:Nat)(p:Addr)(row:List V),([p1,p2,p3,p5,p7,p8]:List Addr)[i]?=some p->(c8w x)[i]?=some row->H10 p=some (.lst row):=by
   intro i p row hp hr
   match i,hp,hr with
   | 0,hp,hr=>cases hp;cases hr;exact sA _ _ e13
   | 1,hp,hr=>cases hp;cases hr;exact sA _ _ e23
   | 2,hp,hr=>cases hp;cases hr;exact sA _ _ e33
   | 3,hp,hr=>cases hp;cases hr;exact sA _ _ e56
   | 4,hp,hr=>cases hp;cases hr;exact s10 _ _ (s9 _ _ e7)
   | 5,hp,hr=>cases hp;cases hr;exact s10 _ _ (s9 _ _ e8)
   | i+6,hp,_=>cases hp
  have e10:H10 l10=some (.lst (([p1,p2,p3,p5,p7,p8]:List Addr).map V.ref)):=e10;have s0A:=s06.trans sA;have eo:=eo.same s0A;have eb:=eb.same s0A;clear et etm etp e13 e23 e33 e56 e6 e7 e8 e9 u9 u10 sA s9 s10 s69 s68 s06 etH;fail "";refine a1d (xs:=([p1,p2,p3,p5,p7,p8]:List Addr).map V.ref) (by show 6<sizeLine;lia) (MpP H10 (c8w x) (λrow=>V.str (Txt.join " " (row.map wdT))) (λ_=>True)) (λD hD=>MpP.new hD) (λD i acc H' p=>⟨p.len.1,p.len.2,SqL.of (p.2.1 _ _ e10)⟩) ?_ ?_
  ·intro D i v acc H' hD hx hp
   obtain⟨q,hq,rfl⟩:=a4c hx;have hi:i<(c8w x).length:=(List.getElem?_eq_some_iff.mp hq).1;have hoi:=List.getElem?_eq_getElem hi;have eq:=hp.2.1 _ _ (hA i q _ hq hoi);have ok:=d0e tn lc _ (List.getElem_mem hi);generalize (c8w x)[i]=row at *;fail "";refine a1d (xs:=row) (by have:=ok.1;lia) (MpP H' row (λv=>V.str (wdT v)) (λ_=>True)) (λD hD=>MpP.new hD) (λD i acc H' p=>⟨p.len.1,p.len.2,SqL.of (p.2.1 _ _ eq)⟩) ?_ ?_
   ·intro D i v acc H' hD hx hp
    fail "";refine⟨rfl,?_⟩;rcases ok.2 v (List.mem_of_getElem? hx) with ⟨z,rfl,lz⟩|⟨z,rfl,lz⟩|rfl
    ·fail ""
     refine x9 (λy=>(by cases y)) (λ_=>?_)
     fail "";exact .inr ⟨z,rfl,hp.step hD hx trivial rfl (Same.refl _)⟩
    ·fail ""
     refine x9 (λy=>(by cases y)) (λ_=>?_)
     fail "";exact .inl ⟨z,rfl,a2c lz,hp.step hD hx trivial rfl (Same.refl _)⟩
    ·fail ""
     refine x9 (λ_=>?_) (λy=>absurd rfl y);fail "";exact hp.step hD hx trivial rfl (Same.refl _)
   ·intro D2 acc2 H2 hD2 hp2
    obtain⟨e,s',_⟩:=hp2.done rfl;fail "";have w1:=d2c ok;refine a3b t9 (ss:=row.map wdT) (e.trans (by rw[List.map_map];rfl)) (by lia) ?_
    exact hp.step hD hoi trivial rfl s'
  intro D acc H11 hD hp;obtain⟨e11,s11,_⟩:=hp.done rfl;have s11:Same H10 H11:=s11;have eo:=eo.same s11;have eb:=eb.same s11;have o1:=a7s tn.os tn.ol;have o2:=a7s tn.bk tn.bl;fail "";refine⟨o,x.os,rfl,eo,tn.os,λH12 s12=>?_⟩;refine⟨_,_,rfl,rfl,by show 7+_<=sizeLine;lia,?_⟩
  have eb:=eb.same s12;fail "";refine⟨b,x.bk,rfl,eb,tn.bk,λH13 s13=>?_⟩;refine⟨_,_,rfl,rfl,by show 5+_<=sizeLine;lia,?_⟩
  fail "";refine⟨by show 2<=sizeLine;lia,λl14 hl14=>?_⟩
  generalize u14:upd H13 l14 _=H14;obtain⟨s14,e14⟩:=nwS u14 hl14;have sB:=(s12.trans s13).trans s14;refine a7x (sB _ _ e11) e14 (by show 6+2<=sizeLine;lia) λl15 hl15=>?_
  fail "";refine a3b b1k (ss:=rowsS x) (d8.trans (by rw[<- c9y])) (Nat.le_trans (c7e tn lc) ↑5) ?_
  exact k _ ((s0A.trans s11).trans (sB.trans (d9 hl15)))
end
section
variable{P:Program}{w:World}{K:Frag}{mg:Str->Option Value}{base:Heap}{cl:Cl}
open Builtin Builtin.Str in
theorem c0j(x:Str):(b0q x none (some 1)).cps.toList=x.cps.toList.take 1:=by
 by_cases h:1<=x.length
 ·exact d4n x 1 h
 ·have h:x.length=0:=by lia
  have e:b0q x none (some 1)=x:=by
   unfold b0q;rw[h];exact if_pos ↑5
  have:x.cps.toList=[]:=List.length_eq_zero_iff.mp ((y7 x).symm.trans h);rw[e,this]
  rfl
theorem b7w(x:Str):(V.str (b0q x none (some 1))=V.str "-") ↔ x.cps.toList.head?=some 45:=by
 constructor
 ·intro h
  have:(b0q x none (some 1)).cps.toList=[45]:=by rw[V.str.inj h];rfl
  rw[c0j] at this;cases e:x.cps.toList with
  | nil=>rw[e] at this;cases this
  | cons a r=>rw[e] at this;cases this;rfl
 ·intro h
  refine congrArg V.str (a2i ?_);rw[c0j];cases e:x.cps.toList with
  | nil=>rw[e] at h;cases h
  | cons a r=>rw[e] at h;cases h;rfl
theorem a7u{x:Str}:a2h x ↔ (1<=(a6f x).length/\(a6f x).length<=60/\(∀c∈a6f x,48<=c/\c<=57)/\¬ ((a6f x).head?=some 48/\x.cps.toList≠[48])):=by
 rw[c1k];constructor
 ·rintro⟨a,b,c⟩
  refine⟨a,b,?_,?_⟩
  ·split at c
   ·have:a6f x=[48]:=by unfold a6f;rw[c];rfl
    rw[this];intro z hz;rw[List.mem_singleton.mp hz];decide
   ·exact c
  ·rintro⟨h1,h2⟩
   rw[if_pos h1] at c;exact h2 c
 ·rintro⟨a,b,c,d⟩
  refine⟨a,b,?_⟩;split
  ·next h=>
   by_cases z:x.cps.toList=[48]
   ·exact z
   ·exact absurd ⟨h,z⟩ d
  ·exact c
def a5j:Sp:=λvs H Q _=>∃x:Str,vs=[.str x]/\x.length<1000000/\(a2h x->∀H',Same H H'->Q (.int (rd x)) H')/\(¬ a2h x->∀H',Same H H'->Q .non H')
abbrev a6z:Stmt:=top 98
theorem a5m:j3 ["word","figures"] ["word"] (g7 a6z):=↑1
theorem b6f(D:DefT K mg "_law_number" a6z ["word"])(T:Txt K mg cl):FnT P w K mg base "_law_number" 1 ["word"] a5j:=by
 refine D.fn a5m (λvs H Q E h=>?_) ↑2
 ·obtain⟨x,rfl,_⟩:=h
  rfl
 ·obtain⟨x,rfl,hl,k,kn⟩:=h
  refine⟨_,(d6 (i7 (i:=1) a5m.nd rfl (by first|exact Or.inl rfl|exact Or.inr rfl) (pv 0))
   (d6 (v9 (g6 a1k (z8 b1f (pv 0) a0p (a0e d7)) f9 (i3 _))
     (f8 (i7 (i:=1) a5m.nd rfl (by first|exact Or.inl rfl|exact Or.inr rfl) (z8 b1f (pv 0) (a0e d7) a0p)))
     i9)
   (d6 (v9 (PW.pt (a2f (g6 a2a (i6 a1l (by rfl) T.z_len PySem.boot_len (d4 (pv 1) d5)) d7 (i3 _)) (a2f (g6 b1q (i6 a1l (by rfl) T.z_len PySem.boot_len (d4 (pv 1) d5)) d7 (i3 _)) (a1o (a3d (a2g (i6 (b3y (K:=K) rfl) (by rfl) T.z_all PyProof.Rows.boot_all (d4 (a1j (N:=["sign"]) (nt:=1) (fr:=[]) rfl (a0b rfl rfl (by decide +kernel) (by decide +kernel) rfl rfl) (c9b (pv 1)) (y9 ↑5) (λ_ _ _ _ _=>g0 (i:=0) (show(["sign"]:List Str).Nodup by decide +kernel) rfl (Or.inl rfl) (Or.inr rfl)) (λ_ _ _ _ _=>(m9 b7v (pv 0) f9 (by with_unfolding_all rfl)))) d5))))))))
     (f8 (i5 a1i))
     i9)
   (d6 (v9 (PW.pt (b2y (g6 a1k (o0 c9c (pv 1) d7 (λ_ _=>rfl)) f9 (i3 _)) (b0n (g6 a4b (pv 0) f9 (i3 _)))))
     (f8 (i5 a1i))
     i9)
   (f8 (i5 (m6 b9e (by rfl) T.z_int PyProof.Rows.boot_int (d4 (pv 0) d5)))))))),?_⟩
  have lm:=a0l;have lc:(b0q x none (some 1)).length<=sizeLine:=by
   rw[y7,c0j,List.length_take];lia
  refine d5z ?_;refine d4h ?_;refine' d1d ?h ?_
  case h=>exact rfl
  refine a3x ?_;refine a5l (M:=λσ' H'=>∃f:Str,σ'=[some (.str x),some (.str f)]/\H'=H/\f.cps.toList=a6f x) ?_ ?_
  rotate_left
  ·intro R hR
   fail "";refine⟨_,rfl,?_⟩;fail "";refine b1l lc ?_;fail "";refine x9 (λc=>?_) (λc=>?_)
   ·have c:=(b7w x).mp c
    fail "";have l1:1<=x.length:=by
     rw[y7];cases e:x.cps.toList with
     | nil=>rw[e] at c;cases c
     | cons a r=>rw[List.length_cons];lia
    have e:=b2d x 1 l1;have l2:(b0q x (some 1) none).length<=sizeLine:=by
     rw[y7];refine Nat.le_trans (Nat.le_of_eq (congrArg List.length e)) ?_;rw[List.length_drop,<- y7];lia
    refine⟨_,rfl,?_⟩;fail "";refine b1l l2 ?_;fail "";refine hR _ _ ⟨_,rfl,rfl,?_⟩;refine e.trans ?_;unfold a6f;rw[if_pos c,List.drop_one]
   ·have c:=λz=>c ((b7w x).mpr z)
    fail "";refine hR _ _ ⟨_,rfl,rfl,?_⟩;unfold a6f;rw[if_neg c]
  rintro σ' H' ⟨f,rfl,rfl,ef⟩;have fl:f.length=(a6f x).length:=by rw[y7,ef]
  have fx:(a6f x).length<=x.length:=by
   unfold a6f;rw[y7];split
   ·rw[List.length_tail];lia
   ·exact Nat.le_refl _
  fail "";refine⟨f,rfl,by lia,?_⟩
  fail "";refine x9 (λc=>?_) (λc1=>?_)
  ·fail ""
   exact kn (λz=>absurd (a7u.mp z).1 (by lia)) _ (Same.refl _)
  fail "";refine⟨f,rfl,by lia,?_⟩
  fail "";refine x9 (λc=>?_) (λc2=>?_)
  ·fail ""
   exact kn (λz=>absurd (a7u.mp z).2.1 (by lia)) _ (Same.refl _)
  fail "";refine⟨f,rfl,?_⟩;refine b8z (by rw[a3h];have:f.cps.size=f.length:=rfl;lia) (SgP H' f) (λD hD=>⟨rfl,rfl,Nat.zero_le _⟩) (λD i acc H' p=>p.len) ?_ ?_
  ·intro D i v acc H' hD hx p
   obtain⟨c,rfl,e,p'⟩:=p.step hx;fail "";refine⟨_,_,rfl,rfl,?_⟩;rw[c5z];exact⟨e,p'⟩
  ·rintro D acc H1 hD ⟨rfl,rfl,l⟩
   fail "";refine⟨D,_,rfl,SqL.of d8,?_⟩;rw[a3h,List.take_of_length_le (Nat.le_of_eq Array.length_toList)];have af:=c2m f.cps.toList;rw[ef] at af ⊢;generalize hb:(((a6f x).map λc=>decide (48<=c/\c<=57)).all id)=b at af ⊢;fail "";cases b
   ·fail ""
    exact kn (λz=>by cases af.mpr (a7u.mp z).2.2.1) _ (d9 hD)
   ·have af:=af.mp rfl
    fail "";obtain⟨c0,r0,e0⟩:∃c0 r0,a6f x=c0::r0:=by
     cases e:a6f x with
     | nil=>rw[e] at fl;exact absurd fl (by simp;lia)
     | cons a r=>exact⟨a,r,rfl⟩
    refine⟨f,0,c0,rfl,rfl,by lia,by rw[ef,e0];unfold atI;rw[c5k ↑5 (by rw[List.length_cons];lia)];rfl,?_⟩
    fail "";have h0:(V.str ⟨#[c0]⟩=V.str "0") ↔ c0=48:=by
     constructor
     ·intro z
      have:=congrArg (λz:Str=>z.cps.toList) (V.str.inj z);cases this
      rfl
     ·rintro rfl
      rfl
    have hx0:(V.str x=V.str "0") ↔ x.cps.toList=[48]:=by
     constructor
     ·intro z
      cases z
      rfl
     ·intro z
      exact congrArg V.str (a2i z)
    refine x9 (λc=>?_) (λc=>?_)
    ·fail ""
     refine a0u (λd=>?_) (λd=>?_)
     ·fail ""
      refine kn (λz=>(a7u.mp z).2.2.2 ⟨?_,λz=>d (hx0.mpr z)⟩) _ (d9 hD);rw[e0,h0.mp c]
      rfl
     ·fail ""
      have nw:a2h x:=a7u.mpr ⟨by lia,by lia,af,λz=>z.2 (hx0.mp d)⟩
      obtain⟨_,_,e,l⟩:=b5r nw;exact⟨x,_,rfl,e,by lia,k nw _ (d9 hD)⟩
    ·fail ""
     have nw:a2h x:=a7u.mpr ⟨by lia,by lia,af,λz=>c (h0.mpr (by have:=z.1;rw[e0] at this;cases this;rfl))⟩
     obtain⟨_,_,e,l⟩:=b5r nw;exact⟨x,_,rfl,e,by lia,k nw _ (d9 hD)⟩
open Classical in
noncomputable def numsV(ss:List Str):List V:=if ∀x∈ss,a2h x then (ss.map rd).map V.int else [.non]
open Classical in
noncomputable def numV(x:Str):V:=if a2h x then .int (rd x) else .non
theorem c5d(ss:List Str):(ss.map numV).all a3g=true:=by
 rw[List.all_map,List.all_eq_true];intro x _;show a3g (numV x)=true;unfold numV;split <;> rfl
theorem d0s(ss:List Str):inV .non (ss.map numV)=true ↔ ¬ ∀x∈ss,a2h x:=by
 unfold inV;rw[List.any_map,List.any_eq_true];constructor
 ·rintro⟨x,hx,e⟩ h
  have:numV x=.int (rd x):=by unfold numV;rw[if_pos (h x hx)]
  have e:eqV (numV x) .non=true:=e;rw[this] at e;cases e
 ·intro h
  apply Classical.byContradiction;intro c;refine h λx hx=>?_;apply Classical.byContradiction;intro d;refine c ⟨x,hx,?_⟩;show eqV (numV x) .non=true;unfold numV;rw[if_neg d]
  rfl
def a1t:Sp:=λvs H Q _=>∃(a:Addr)(ss:List Str),vs=[.ref a]/\H a=some (.lst (ss.map V.str))/\wt ss<=1000000/\∀p H',H p=none->Same H H'->H' p=some (.tup (numsV ss))->Q (.ref p) H'
abbrev a5s:Stmt:=top 99
theorem a8e:j3 ["words","found"] ["words"] (g7 a5s):=↑1
theorem b4o(D:DefT K mg "_law_numbers" a5s ["words"])(T:Txt K mg cl)(G_law_number:FnT P w K mg base "_law_number" 1 ["word"] a5j):FnT P w K mg base "_law_numbers" 2 ["words"] a1t:=by
 refine D.fn a8e (λvs H Q E h=>?_) ↑2
 ·obtain⟨a,ss,rfl,_⟩:=h
  rfl
 ·obtain⟨a,ss,rfl,ea,hw,k⟩:=h
  refine⟨_,(d6 (i7 (i:=1) a8e.nd rfl (by first|exact Or.inl rfl|exact Or.inr rfl) (m6 (a1w (K:=K)) (by rfl) T.z_tuple PyProof.Rows.boot_tuple (d4 (a1j (N:=["word"]) (nt:=1) (fr:=[]) rfl (a0b rfl rfl (by decide +kernel) (by decide +kernel) rfl rfl) (a1y (K:=K) (pv 0)) (y9 (by decide)) (λ_ _ _ _ _=>g0 (i:=0) (show(["word"]:List Str).Nodup by decide +kernel) rfl (Or.inl rfl) (Or.inr rfl)) (λ_ _ _ _ _=>(j5 G_law_number hr ↑5 rfl b4i (d4 (pv 0) d5)))) d5)))
   (f8 (i5 (a5w (g6 (a3u (K:=K)) a1i (pv 1) (by with_unfolding_all rfl)) (a0k (d4 a1i d5)) (pv 1))))),?_⟩
  have lm:1000001<=sizeLine:=by decide
  have hl:=b0t ss;fail "";refine a1d (xs:=ss.map V.str) (by rw[List.length_map];lia) (MpP H ss numV (λ_=>True)) (λD hD=>MpP.new hD) (λD i acc H' p=>⟨p.len.1,p.len.2,SqL.of (p.2.1 _ _ ea)⟩) ?_ ?_
  ·intro D i x acc H' hD hx hp
   obtain⟨y,hy,rfl⟩:=a4c hx;have my:y∈ss:=List.mem_of_getElem? hy;have:=L2.wt_mem my;fail "";refine⟨y,rfl,by lia,λnw H3 s3=>hp.step hD hy trivial ?_ s3,λnb H3 s3=>hp.step hD hy trivial ?_ s3⟩
   ·unfold numV;rw[if_pos nw]
   ·unfold numV;rw[if_neg nb]
  ·intro D acc H' hD hp
   obtain⟨e,s',g⟩:=hp.done (List.length_map _);have s':Same H H':=s';rw[hp.len.1] at e;have e:=HO.lst.inj (Option.some.inj e);subst e;have e1:=hp.len.1;fail "";intro p hpn;have sp:=d9 (o:=.tup (ss.map numV)) hpn;have e2:upd H' p (.tup (ss.map numV)) p=_:=d8;generalize upd H' p (.tup (ss.map numV))=H2 at sp e2 ⊢;fail "";refine⟨p,_,rfl,.inr (SqT.of e2),rfl,c5d ss,?_⟩;rw[if_neg ↑5];have ni:=d0s ss;unfold numsV at k;cases c:inV .non (ss.map numV) with
   | true=>
    rw[if_neg (ni.mp c)] at k;fail "";refine⟨by show 1<=sizeLine;lia,λq hq=>?_⟩
    exact k q _ (a6t (s'.trans sp) hq) ((s'.trans sp).trans (d9 hq)) d8
   | false=>
    have al:∀x∈ss,a2h x:=Classical.byContradiction λd=>by rw[ni.mpr d] at c;cases c
    rw[if_pos al] at k;fail "";refine k p _ (a6t s' hpn) (s'.trans sp) (e2.trans ?_);rw[List.map_map]
    congr 2
    refine List.map_congr_left λx hx=>?_;unfold numV;rw[if_pos (al x hx)]
    rfl
open Classical in
noncomputable def turnV(x:Str):V:=if a4v x then (turnR x).v else .str "bad"
def b2n:Sp:=λvs H Q _=>∃x:Str,vs=[.str x]/\x.length<1000000/\∀H',Same H H'->Q (turnV x) H'
abbrev b0i:Stmt:=top 100
theorem b2t:j3 ["word","number"] ["word"] (g7 b0i):=↑1
theorem b9z(D:DefT K mg "_law_turn" b0i ["word"])(T:Txt K mg cl)(G_law_number:FnT P w K mg base "_law_number" 1 ["word"] a5j):FnT P w K mg base "_law_turn" 2 ["word"] b2n:=by
 refine D.fn b2t (λvs H Q E h=>?_) ↑2
 ·obtain⟨x,rfl,_⟩:=h
  rfl
 ·obtain⟨x,rfl,hl,k⟩:=h
  refine⟨_,(d6 (v9 (g6 a1k (pv 0) f9 (i3 _))
     (f8 (i5 a1i))
     i9)
   (d6 (i7 (i:=1) b2t.nd rfl (by first|exact Or.inl rfl|exact Or.inr rfl) (j5 G_law_number hr ↑5 rfl k7 (d4 (pv 0) d5)))
   (f8 (i5 (a5w (g6 b4v (pv 1) a1i (i3 _)) f9 (pv 1)))))),?_⟩
  fail "";rw[a1r];unfold turnV turnR at k;refine x9 (λz=>?_) (λz=>?_)
  ·rw[if_pos (.inl z),if_pos z] at k
   fail "";exact k H (Same.refl H)
  ·fail ""
   refine⟨x,rfl,hl,λnw H' s'=>?_,λnw H' s'=>?_⟩
   ·rw[if_pos (.inr nw),if_neg z] at k
    fail "";refine⟨rfl,?_⟩;fail "";refine x9 (λy=>(by cases y)) (λ_=>?_)
    fail "";exact k H' s'
   ·rw[if_neg (λy=>y.elim z nw)] at k
    fail "";refine⟨rfl,?_⟩;fail "";refine x9 (λ_=>?_) (λy=>absurd rfl y);fail "";exact k H' s'
end
section
variable{P:Program}{w:World}{K:Frag}{mg:Str->Option Value}{base:Heap}{cl:Cl}
def PqP(H:Hp)(ss:List Str)(D:Addr)(i:Nat)(acc:List V)(H':Hp):Prop:=H' D=some (.lst acc)/\Same H H'/\i<=ss.length/\∃ps:List Addr,acc=ps.map V.ref/\ps.length=i/\∀(j:Nat)(p:Addr)(x:Str),ps[j]?=some p->ss[j]?=some x->p≠D/\H' p=some (.tup (numsV (Txt.split x " ")))
theorem PqP.new{H:Hp}{ss:List Str}{D:Addr}(hD:H D=none):PqP H ss D 0 [] (upd H D (.lst [])):=⟨d8,d9 hD,Nat.zero_le _,[],rfl,rfl,λj p x h=>by simp at h⟩
theorem PqP.len{H H':Hp}{ss:List Str}{D:Addr}{i:Nat}{acc:List V}(h:PqP H ss D i acc H'):H' D=some (.lst acc)/\acc.length=i:=by
 obtain⟨e,_,_,ps,rfl,l,_⟩:=h;exact⟨e,by rw[List.length_map];exact l⟩
theorem PqP.push{H H' H3:Hp}{ss:List Str}{x:Str}{D p:Addr}{i:Nat}{acc:List V}(h:PqP H ss D i acc H')(hD:H D=none)(hx:ss[i]?=some x)(s3:Same H' H3)(hp:H' p=none)(e3:H3 p=some (.tup (numsV (Txt.split x " ")))):
  H3 D=some (.lst acc)/\PqP H ss D (i+1) (acc++[.ref p]) (upd H3 D (.lst (acc++[.ref p]))):=by
 obtain⟨e,s,li,ps,rfl,hl,r⟩:=h;have nD:p≠D:=λz=>by rw[z,e] at hp;cases hp
 have hi:i<ss.length:=(List.getElem?_eq_some_iff.mp hx).1;refine⟨s3 _ _ e,d8,(s.trans s3).set hD,hi,ps++[p],by rw[List.map_append];rfl,by rw[List.length_append,hl];rfl,?_⟩
 ·intro j q u hj hu
  by_cases y:j<ps.length
  ·rw[List.getElem?_append_left y] at hj
   obtain⟨b,c⟩:=r j q u hj hu;refine⟨b,?_⟩;rw[j4 b];exact s3 _ _ c
  ·rw[List.getElem?_append_right (by lia)] at hj
   have:j=i:=by
    by_cases z:j-ps.length=0
    ·lia
    ·rw[List.getElem?_eq_none (by simp;lia)] at hj;cases hj
   subst this;rw[hl,Nat.sub_self] at hj;cases hj;rw[hx] at hu;cases hu;exact⟨nD,by rw[j4 nD];exact e3⟩
open Classical in
noncomputable def pcs(x:Str):List Str:=if x="-" then [] else Txt.split x "; "
def OrdV(H:Hp)(a:Addr)(x:Str):Prop:=∃ps:List Addr,H a=some (.tup (ps.map V.ref))/\ps.length=(pcs x).length/\∀(j:Nat)(p:Addr)(y:Str),ps[j]?=some p->(pcs x)[j]?=some y->H p=some (.tup (numsV (Txt.split y " ")))
theorem OrdV.same{H H':Hp}{a:Addr}{x:Str}(h:OrdV H a x)(s:Same H H'):OrdV H' a x:=by
 obtain⟨ps,e,l,r⟩:=h;exact⟨ps,s _ _ e,l,λj p y a b=>s _ _ (r j p y a b)⟩
theorem b7t(x:Str):b1v x ↔ ∀y∈pcs x,∀v∈Txt.split y " ",a2h v:=by
 unfold b1v pcs;by_cases z:x="-"
 ·rw[if_pos z];exact⟨λ_ _ h=>(by cases h),λ_=>.inl z⟩
 ·rw[if_neg z];exact⟨λh=>h.elim (λy=>absurd y z) id,.inr⟩
theorem c7n(x:Str):ordR x=(pcs x).map d0g:=by
 unfold ordR pcs;by_cases z:x="-"
 ·rw[if_pos z,if_pos z];rfl
 ·rw[if_neg z,if_neg z]
theorem OrdV.tts{H:Hp}{a:Addr}{x:Str}(h:OrdV H a x)(ok:b1v x):TTs H a (ordR x):=by
 obtain⟨ps,e,l,r⟩:=h;rw[b7t] at ok;rw[c7n];refine⟨ps,e,by rw[List.length_map];exact l,λj p o hp ho=>?_⟩
 obtain⟨y,hy,rfl⟩:=a4c ho;rw[r j p y hp hy];unfold numsV;rw[if_pos (ok y (List.mem_of_getElem? hy))]
 rfl
def a4h:Sp:=λvs H Q _=>∃x:Str,vs=[.str x]/\x.length<=100000/\∀p H',H p=none->Same H H'->OrdV H' p x->Q (.ref p) H'
abbrev a2m:Stmt:=top 101
theorem a9o:j3 ["text"] ["text"] (g7 a2m):=↑1
theorem a9s(D:DefT K mg "_law_read_orders" a2m ["text"])(T:Txt K mg cl)(G_law_numbers:FnT P w K mg base "_law_numbers" 2 ["words"] a1t):FnT P w K mg base "_law_read_orders" 3 ["text"] a4h:=by
 refine D.fn a9o (λvs H Q E h=>?_) ↑2
 ·obtain⟨x,rfl,_⟩:=h
  rfl
 ·obtain⟨x,rfl,hz,k⟩:=h
  refine⟨_,(d6 (v9 (g6 a1k (pv 0) f9 (i3 _))
     (f8 (i5 (a0k d5)))
     i9)
   (f8 (i5 (m6 (a1w (K:=K)) (by rfl) T.z_tuple PyProof.Rows.boot_tuple (d4 (a1j (N:=["order"]) (nt:=1) (fr:=[]) rfl (a0b rfl rfl (by decide +kernel) (by decide +kernel) rfl rfl) (a1y (K:=K) (a1v (K:=K) (pv 0) (d4 f9 d5))) (y9 ↑5) (λ_ _ _ _ _=>g0 (i:=0) (show(["order"]:List Str).Nodup by decide +kernel) rfl (Or.inl rfl) (Or.inr rfl)) (λ_ _ _ _ _=>(j5 G_law_numbers hr ↑5 rfl b4i (d4 (a1v (K:=K) (pv 0) (d4 f9 d5)) d5)))) d5))))),?_⟩
  have lm:=a0l;fail "";rw[a1r];unfold OrdV pcs at k;refine x9 (λz=>?_) (λz=>?_)
  ·rw[if_pos z] at k
   fail "";refine⟨Nat.zero_le _,λp hp=>?_⟩;exact k p _ hp (d9 hp) ⟨[],d8,rfl,λi q o h=>by simp at h⟩
  ·rw[if_neg z] at k
   have w1:=a6h (x:=x) a2t;fail "";refine c1t a2t (by lia) (λq hq=>?_)
   fail "";have eq:upd H q (.lst ((Txt.split x "; ").map V.str)) q=_:=d8;have s1:Same H (upd H q (.lst ((Txt.split x "; ").map V.str))):=d9 hq;generalize upd H q (.lst ((Txt.split x "; ").map V.str))=H1 at eq s1 ⊢;refine a1d (xs:=(Txt.split x "; ").map V.str) (by rw[List.length_map];lia) (PqP H1 (Txt.split x "; ")) (λD hD=>PqP.new hD) (λD i acc H' p=>⟨p.len.1,p.len.2,SqL.of (p.2.1 _ _ eq)⟩) ?_ ?_
   ·intro D i v acc H' hD hx hp
    obtain⟨pc,hpc,rfl⟩:=a4c hx;have w2:=L2.wt_mem (List.mem_of_getElem? hpc);have w3:=a1e (x:=pc) t9;fail "";refine a4j t9 (by lia) (λu hu=>?_)
    fail "";refine⟨u,_,rfl,d8,by lia,λr H3 hr3 s3 e3=>?_⟩
    exact hp.push hD hpc ((d9 hu).trans s3) ((d9 hu).free hr3) e3
   ·intro D acc H' hD hp
    rw[List.length_map] at hp;obtain⟨e1,s',_,ps,rfl,hl,r⟩:=hp;fail "";intro p hpn;exact k p _ (s1.free (Same.free s' hpn)) ((s1.trans s').trans (d9 hpn)) ⟨ps,d8,hl,λj q y a b=>d9 hpn _ _ (r j q y a b).2⟩
end
theorem b4y{c d:Nat}{sp:List Nat}(h1:c≠d)(h2:c ∉ sp):∀{ss:List (List Nat)},(∀s∈ss,c ∉ s)->c ∉ a3v d sp ss
 | [],_=>λh=>(by cases h)
 | [x],h=>h x List.mem_cons_self
 | x::y::r,h=>by
  show c ∉ x++d::(sp++a3v d sp (y::r));intro z;rcases List.mem_append.mp z with z|z
  ·exact h x List.mem_cons_self z
  ·cases z with
   | head=>exact h1 rfl
   | tail _ z=>
    rcases List.mem_append.mp z with z|z
    ·exact h2 z
    ·exact b4y h1 h2 (λs hs=>h s (List.mem_cons_of_mem _ hs)) z
theorem b3s{y:Str}{c d:Nat}{sp:List Nat}(hy:y.cps.toList=d::sp)(h1:c≠d)(h2:c ∉ sp){ss:List Str}(h:∀s∈ss,c ∉ s.cps.toList):c ∉ (Txt.join y ss).cps.toList:=by
 rw[a2d hy];refine b4y h1 h2 λs hs=>?_;obtain⟨t,ht,rfl⟩:=List.mem_map.mp hs;exact h t ht
structure Wrd(s:Str):Prop where
 nl:10 ∉ s.cps.toList
 bl:32 ∉ s.cps.toList
 sc:59 ∉ s.cps.toList
theorem b0c{s:Str}(h:a2h s):Wrd s:=by
 have:=b4w h;exact⟨λz=>(by have:=this _ z;lia),λz=>(by have:=this _ z;lia),λz=>(by have:=this _ z;lia)⟩
theorem c8q{s:Str}(h:s∈gvU\/s∈tkU):Wrd s:=by
 have h1:∀x∈gvU,10 ∉ x.cps.toList/\32 ∉ x.cps.toList/\59 ∉ x.cps.toList:=by decide
 have h2:∀x∈tkU,10 ∉ x.cps.toList/\32 ∉ x.cps.toList/\59 ∉ x.cps.toList:=by decide
 have:=h.elim (h1 s) (h2 s);exact⟨this.1,this.2.1,this.2.2⟩
theorem b2g{he:Hr}(h:c6n he):a4v (a4l he)/\turnR (a4l he)=he/\Wrd (a4l he):=by
 cases he with
 | non=>exact⟨.inl rfl,if_pos rfl,by decide,by decide,by decide⟩
 | int i=>
  have nw:=a0t h;have ne:a2q i≠("none":Str):=λe=>by
   have:=b4w nw 110 (by rw[e];decide)
   lia
  refine⟨.inr nw,?_,b0c nw⟩;show turnR (a2q i)=_;unfold turnR;rw[if_neg ne,b0m h]
theorem a5g{ss:List Str}(ne:ss≠[])(h:∀s∈ss,Wrd s):Txt.split (Txt.join " " ss) " " = ss:=a5h (c:=32) rfl ne λs hs=>(h s hs).bl
theorem b1x{ss:List Str}(h:∀s∈ss,Wrd s):10 ∉ (Txt.join " " ss).cps.toList:=b3s a5f ↑5 ↑5 λs hs=>(h s hs).nl
theorem c6u{ss:List Str}(h:∀s∈ss,Wrd s):59 ∉ (Txt.join " " ss).cps.toList:=b3s a5f ↑5 ↑5 λs hs=>(h s hs).sc
theorem b1w{ns:List Int}(h:b4r ns):∀s∈ns.map a2q,Wrd s:=λs hs=>by
 obtain⟨n,hn,rfl⟩:=List.mem_map.mp hs;exact b0c (a0t (h n hn))
theorem c4g{ns:List Int}(h:b4r ns):ns=(ns.map a2q).map rd:=by
 rw[List.map_map]
 conv=>lhs;rw[<- List.map_id ns]
 exact List.map_congr_left λn hn=>(b0m (h n hn)).symm
theorem b1z{v:Str}{ns:List Int}(hv:Wrd v)(h:b4r ns):RowR (a3f v ns) v ns/\10 ∉ (a3f v ns).cps.toList:=by
 have ok:∀s∈v::ns.map a2q,Wrd s:=λs hs=>by
  cases hs with
  | head=>exact hv
  | tail _ hs=>exact b1w h s hs
 refine⟨⟨ns.map a2q,a5g (List.cons_ne_nil _ _) ok,λy hy=>?_,c4g h⟩,b1x ok⟩;obtain⟨n,hn,rfl⟩:=List.mem_map.mp hy;exact a0t (h n hn)
theorem c2t{v T:Str}(hv:32 ∉ v.cps.toList):Txt.split (v++(" ":Str)++T) " " = v::Txt.split T " ":=by
 have e:v++(" ":Str)++T=Txt.join " " (v::Txt.split T " "):=by
  have jb:Txt.join " " (Txt.split T " ")=T:=a7n ..;obtain⟨a,b,e0⟩:∃a b,Txt.split T " " = a::b:=by
   cases e:Txt.split T " " with
   | nil=>exact absurd e (a4f T " ")
   | cons a b=>exact⟨a,b,rfl⟩
  refine a2i ?_;rw[a2d a5f,z9,z9];have jc:=congrArg (λs:Str=>s.cps.toList) jb;simp only[a2d a5f] at jc;rw[<- jc,e0];show v.cps.toList++[32]++_=v.cps.toList++32::([]++_);rw[List.append_assoc]
  rfl
 rw[e];refine a5h (c:=32) rfl (List.cons_ne_nil _ _) λs hs=>?_;cases hs with
 | head=>exact hv
 | tail _ hs=>exact StrLaws.split_free T 32 s hs
theorem a7f{o:List Int}(ne:o≠[])(h:b4r o):Txt.split (b6v o) " " = o.map a2q/\59 ∉ (b6v o).cps.toList/\10 ∉ (b6v o).cps.toList :=
 ⟨a5g (λz=>ne (List.map_eq_nil_iff.mp z)) (b1w h),c6u (b1w h),b1x (b1w h)⟩
theorem c4x{n:Nat}{os:List (List Int)}(g:c0q n os)(h:a7r os):b1v (ordT os)/\os=ordR (ordT os)/\10 ∉ (ordT os).cps.toList:=by
 have nz:∀o∈os,o≠[]:=λo ho e=>by
  have:=(g o ho).1;rw[e] at this;exact absurd this ↑5
 unfold ordT;by_cases z:os=[]
 ·rw[if_pos z]
  refine⟨.inl rfl,?_,by decide⟩
  unfold ordR;rw[if_pos rfl,z]
 ·rw[if_neg z]
  have sp:Txt.split (Txt.join "; " (os.map b6v)) "; " = os.map b6v:=b2j (λy=>z (List.map_eq_nil_iff.mp y)) λs hs=>by
   obtain⟨o,ho,rfl⟩:=List.mem_map.mp hs;exact(a7f (nz o ho) (h.2 o ho).2).2.1
  have nd:Txt.join "; " (os.map b6v)≠("-":Str):=λe=>by
   rw[e] at sp;obtain⟨o,r,eo⟩:∃o r,os=o::r:=by
    cases os with
    | nil=>exact absurd rfl z
    | cons o r=>exact⟨o,r,rfl⟩
   have d:Txt.split ("-":Str) "; " = [("-":Str)]:=by
    have:=b2j (ss:=[("-":Str)]) (List.cons_ne_nil _ _) (λs hs=>by rw[List.mem_singleton.mp hs];decide)
    exact this
   rw[d,eo,List.map_cons] at sp;have e1:("-":Str)=b6v o:=(List.cons.inj sp).1;have mo:o∈os:=by rw[eo];exact List.mem_cons_self
   have b:=(a7f (nz o mo) (h.2 o mo).2).1;have d2:Txt.split ("-":Str) " " = [("-":Str)]:=by
    have:=a5h (y:=" ") (c:=32) rfl (ss:=[("-":Str)]) (List.cons_ne_nil _ _) (λs hs=>by rw[List.mem_singleton.mp hs];decide)
    exact this
   rw[<- e1,d2] at b;cases o with
   | nil=>cases b
   | cons k r'=>
    rw[List.map_cons] at b;have e2:("-":Str)=a2q k:=(List.cons.inj b).1;obtain⟨ds,dne,hd,_,⟨e3,_⟩|⟨e3,_⟩⟩:=a0t ((h.2 _ mo).2 k List.mem_cons_self)
    ·rw[<- e2] at e3
     have:=hd 45 (by rw[<- e3];decide)
     lia
    ·rw[<- e2] at e3
     exact dne (List.cons.inj (show[45]=45::ds from e3)).2.symm
  refine⟨.inr λp hp y hy=>?_,?_,?_⟩
  ·rw[sp] at hp
   obtain⟨o,ho,rfl⟩:=List.mem_map.mp hp;rw[(a7f (nz o ho) (h.2 o ho).2).1] at hy;obtain⟨k,hk,rfl⟩:=List.mem_map.mp hy;exact a0t ((h.2 o ho).2 k hk)
  ·unfold ordR
   rw[if_neg nd,sp,List.map_map]
   conv=>lhs;rw[<- List.map_id os]
   refine List.map_congr_left λo ho=>?_;show o=d0g (b6v o);unfold d0g;rw[(a7f (nz o ho) (h.2 o ho).2).1];exact c4g (h.2 o ho).2
  ·refine b3s (d:=59) (sp:=[32]) rfl ↑5 ↑5 λs hs=>?_
   obtain⟨o,ho,rfl⟩:=List.mem_map.mp hs;exact(a7f (nz o ho) (h.2 o ho).2).2.2
theorem b3c{n:Nat}{os:List (List Int)}{r v:Str}(g:c0q n os)(h:a7r os)(hv:Wrd v)(er:r=v++(" ":Str)++ordT os):OrdRow r v os/\10 ∉ r.cps.toList:=by
 obtain⟨a,b,c⟩:=c4x g h;subst er;refine⟨⟨Txt.split (ordT os) " ",c2t hv.bl,?_⟩,?_⟩
 ·have jb:Txt.join " " (Txt.split (ordT os) " ")=ordT os:=a7n ..
  rw[jb];exact⟨a,b⟩
 ·rw[z9,z9]
  intro z;rcases List.mem_append.mp z with z|z
  ·rcases List.mem_append.mp z with z|z
   ·exact hv.nl z
   ·exact absurd z ↑5
  ·exact c z
theorem c7z{n:Nat}{os:List (List Int)}{g:GSd}{m:Str}(gg:c6p n os g)(hh:c6n g.he)(ho:g.od.natAbs<10 ^ 60)(hp:g.pt.natAbs<10 ^ 60)(rm:RowR m "marks" g.ms):d2a (c1s g) m g/\10 ∉ (c1s g).cps.toList:=by
 obtain⟨t1,t2,t3⟩:=b2g hh;have ok:∀s∈[("giver":Str),g.st,a4l g.he,a2q g.od,a2q g.pt],Wrd s:=by
  intro s hs;simp only[List.mem_cons,List.not_mem_nil,or_false] at hs;rcases hs with rfl|rfl|rfl|rfl|rfl
  ·exact⟨by decide,by decide,by decide⟩
  ·exact c8q (.inl gg.st)
  ·exact t3
  ·exact b0c (a0t ho)
  ·exact b0c (a0t hp)
 exact⟨⟨g.st,a4l g.he,a2q g.od,a2q g.pt,a5g (List.cons_ne_nil _ _) ok,rm,t1,a0t ho,a0t hp,rfl,t2.symm,(b0m ho).symm,(b0m hp).symm⟩,b1x ok⟩
theorem c7a{n:Nat}{t:TSd}{m q:Str}(gt:c6o n t)(hh:c6n t.he)(hf:c6n t.nf)(ho:t.nu.natAbs<10 ^ 60)(hp:t.le.natAbs<10 ^ 60)(rm:RowR m "marks" t.ms)(rq:RowR q "parts" t.pa):d1z (c2r t) m q t/\10 ∉ (c2r t).cps.toList:=by
 obtain⟨t1,t2,t3⟩:=b2g hh;obtain⟨f1,f2,f3⟩:=b2g hf;have ok:∀s∈[("taker":Str),t.st,a4l t.he,a4l t.nf,a2q t.nu,a2q t.le],Wrd s:=by
  intro s hs;simp only[List.mem_cons,List.not_mem_nil,or_false] at hs;rcases hs with rfl|rfl|rfl|rfl|rfl|rfl
  ·exact⟨by decide,by decide,by decide⟩
  ·exact c8q (.inr gt.st)
  ·exact t3
  ·exact f3
  ·exact b0c (a0t ho)
  ·exact b0c (a0t hp)
 exact⟨⟨t.st,a4l t.he,a4l t.nf,a2q t.nu,a2q t.le,a5g (List.cons_ne_nil _ _) ok,rm,rq,t1,f1,a0t ho,a0t hp,rfl,t2.symm,f2.symm,(b0m ho).symm,(b0m hp).symm⟩,b1x ok⟩
theorem c2v{x:Sd}(g:b0a x)(tn:c9s x)(en:x.n=x.c.length / 4-1):a7y (standT x) x:=by
 have r0:=b1z (v:="cells") ⟨by decide,by decide,by decide⟩ tn.c
 have r2:=b1z (v:="marks") ⟨by decide,by decide,by decide⟩ tn.gm
 have r4:=b1z (v:="marks") ⟨by decide,by decide,by decide⟩ tn.tm
 have r5:=b1z (v:="parts") ⟨by decide,by decide,by decide⟩ tn.tp
 have r1:=c7z g.g tn.gh tn.go tn.gp r2.1;have r3:=c7a g.t tn.th tn.tf tn.tn tn.te r4.1 r5.1;have r6:=b3c (v:="orders") (r:=("orders ":Str)++ordT x.os) g.os tn.os ⟨by decide,by decide,by decide⟩ (by refine a2i ?_;rw[z9,z9,z9];rfl)
 have r7:=b3c (v:="book") (r:=("book ":Str)++ordT x.bk) g.bk tn.bk ⟨by decide,by decide,by decide⟩ (by refine a2i ?_;rw[z9,z9,z9];rfl)
 refine⟨_,_,_,_,_,_,_,_,a5h (c:=10) rfl (List.cons_ne_nil _ _) λs hs=>?_,r0.1,r1.1,r3.1,r6.1,r7.1,en⟩;have hs:s∈rowsS x:=hs;unfold rowsS at hs;simp only[List.mem_cons,List.not_mem_nil,or_false] at hs;rcases hs with rfl|rfl|rfl|rfl|rfl|rfl|rfl|rfl
 ·exact r0.2
 ·exact r1.2
 ·exact r2.2
 ·exact r3.2
 ·exact r4.2
 ·exact r5.2
 ·exact r6.2
 ·exact r7.2
section
variable{P:Program}{w:World}{K:Frag}{mg:Str->Option Value}{base:Heap}{cl:Cl}
def WrP(H:Hp)(ss:List Str)(D:Addr)(i:Nat)(acc:List V)(H':Hp):Prop:=H' D=some (.lst acc)/\Same H H'/\i<=ss.length/\∃ps:List Addr,acc=ps.map V.ref/\ps.length=i/\∀(j:Nat)(p:Addr)(x:Str),ps[j]?=some p->ss[j]?=some x->p≠D/\H' p=some (.lst ((Txt.split x " ").map V.str))
theorem WrP.new{H:Hp}{ss:List Str}{D:Addr}(hD:H D=none):WrP H ss D 0 [] (upd H D (.lst [])):=⟨d8,d9 hD,Nat.zero_le _,[],rfl,rfl,λj p x h=>by simp at h⟩
theorem WrP.len{H H':Hp}{ss:List Str}{D:Addr}{i:Nat}{acc:List V}(h:WrP H ss D i acc H'):H' D=some (.lst acc)/\acc.length=i:=by
 obtain⟨e,_,_,ps,rfl,l,_⟩:=h;exact⟨e,by rw[List.length_map];exact l⟩
theorem WrP.push{H H' H3:Hp}{ss:List Str}{x:Str}{D p:Addr}{i:Nat}{acc:List V}(h:WrP H ss D i acc H')(hD:H D=none)(hx:ss[i]?=some x)(s3:Same H' H3)(hp:H' p=none)(e3:H3 p=some (.lst ((Txt.split x " ").map V.str))):
  H3 D=some (.lst acc)/\WrP H ss D (i+1) (acc++[.ref p]) (upd H3 D (.lst (acc++[.ref p]))):=by
 obtain⟨e,s,li,ps,rfl,hl,r⟩:=h;have nD:p≠D:=λz=>by rw[z,e] at hp;cases hp
 have hi:i<ss.length:=(List.getElem?_eq_some_iff.mp hx).1;refine⟨s3 _ _ e,d8,(s.trans s3).set hD,hi,ps++[p],by rw[List.map_append];rfl,by rw[List.length_append,hl];rfl,?_⟩
 ·intro j q u hj hu
  by_cases y:j<ps.length
  ·rw[List.getElem?_append_left y] at hj
   obtain⟨b,c⟩:=r j q u hj hu;refine⟨b,?_⟩;rw[j4 b];exact s3 _ _ c
  ·rw[List.getElem?_append_right (by lia)] at hj
   have:j=i:=by
    by_cases z:j-ps.length=0
    ·lia
    ·rw[List.getElem?_eq_none (by simp;lia)] at hj;cases hj
   subst this;rw[hl,Nat.sub_self] at hj;cases hj;rw[hx] at hu;cases hu;exact⟨nD,by rw[j4 nD];exact e3⟩
def hd(r:Str):Str:=(Txt.split r " ").headD ""
theorem b6m(r:Str):∃t,Txt.split r " " = hd r::t:=by
 unfold hd;cases e:Txt.split r " " with
 | nil=>exact absurd e (a4f r " ")
 | cons a b=>exact⟨b,rfl⟩
theorem c2c:∀(xs ys:List Str),eqL (xs.map V.str) (ys.map V.str)=decide (xs=ys)
 | [],[]=>rfl
 | [],_::_=>rfl
 | _::_,[]=>rfl
 | x::xs,y::ys=>by
  rw[List.map_cons,List.map_cons];show((x == y) && eqL (xs.map V.str) (ys.map V.str))=_;rw[c2c xs ys];by_cases e:x=y
  ·subst e
   simp
  ·simp[e]
abbrev c1q:List Str:=["cells","giver","marks","taker","marks","parts","orders","book"]
theorem b8p{r v:Str}{t:List Str}(h:Txt.split r " " = v::t):hd r=v:=by unfold hd;rw[h];rfl
theorem b9q{s:Str}{x:Sd}(h:a7y s x):(Txt.split s "\n").map hd=c1q:=by
 obtain⟨r0,r1,r2,r3,r4,r5,r6,r7,e,⟨_,a0,_⟩,⟨_,_,_,_,a1,⟨_,a2,_⟩,_⟩,⟨_,_,_,_,_,a3,⟨_,a4,_⟩,⟨_,a5,_⟩,_⟩,⟨_,a6,_⟩,⟨_,a7,_⟩,_⟩:=h;rw[e];simp only[List.map_cons,List.map_nil,b8p a0,b8p a1,b8p a2,b8p a3,b8p a4,b8p a5,b8p a6,b8p a7]
theorem a6g{r v:Str}{t:List Str}(h:Txt.split r " " = v::t):wt t<=r.length:=by
 have w1:=a1e (x:=r) t9;rw[h,y0] at w1;lia
theorem d6l(v:Str)(t:List Str):b6s ((v::t).map V.str) (some 1) none=t.map V.str:=by
 unfold b6s;show(((v::t).map V.str).drop (min 1 ((v::t).map V.str).length)).take (((v::t).map V.str).length-min 1 ((v::t).map V.str).length)=_;rw[List.map_cons,List.length_cons,Nat.min_eq_left (by lia)]
 show(t.map V.str).take _=_;exact List.take_of_length_le (by lia)
theorem c8y{σ:St}{H:Hp}{a:Addr}{i:Int}{xs t:List Str}{Q:VK}{E:XK}(e:H a=some (.lst (xs.map V.str)))(c:b6s (xs.map V.str) (some i) none=t.map V.str)(l:wt t<=1000000)(q:∀p H',H p=none->Same H H'->H' p=some (.tup (numsV t))->Q (.ref p) H'):
  d4u K (.ref a) (some i) none H λx H1=>d1w σ H1 λxs H2=>a1t (x::xs) H2 Q E:=by
 refine⟨a,_,rfl,SqL.of e,λu hu=>?_⟩;rw[c];exact⟨u,t,rfl,d8,l,λp H' hp s' e'=>q p H' ((d9 hu).free hp) ((d9 hu).trans s') e'⟩
theorem b5q{σ:St}{H:Hp}{a:Addr}{v:Str}{t:List Str}{Q:VK}{E:XK}(e:H a=some (.lst ((v::t).map V.str)))(l:wt t<=1000000)(q:∀p H',H p=none->Same H H'->H' p=some (.tup (numsV t))->Q (.ref p) H'):
  d4u K (.ref a) (some 1) none H λx H1=>d1w σ H1 λxs H2=>a1t (x::xs) H2 Q E:=by
 refine⟨a,_,rfl,SqL.of e,λu hu=>?_⟩;rw[d6l];exact⟨u,t,rfl,d8,l,λp H' hp s' e'=>q p H' ((d9 hu).free hp) ((d9 hu).trans s') e'⟩
theorem b3m(ss:List Str):(numsV ss).length<=ss.length+1:=by
 unfold numsV;split
 ·rw[List.length_map,List.length_map];lia
 ·show 1<=_;lia
theorem a8z{ts:List Str}(h:∀y∈ts,a2h y):numsV ts=(ts.map rd).map V.int:=by unfold numsV;rw[if_pos h]
theorem c0d{ts:List Str}(h:¬ ∀y∈ts,a2h y):numsV ts=[.non]:=by unfold numsV;rw[if_neg h]
theorem a4a{H:Hp}{a:Addr}{ts:List Str}(e:H a=some (.tup (numsV ts))):H a=some (.tup [.non]) ↔ ¬ ∀y∈ts,a2h y:=by
 rw[e];by_cases h:∀y∈ts,a2h y
 ·rw[a8z h]
  refine⟨λz=>?_,λz=>absurd h z⟩;have z:=HO.tup.inj (Option.some.inj z);cases ts with
  | nil=>cases z
  | cons y r=>cases z
 ·rw[c0d h]
  exact⟨λ_=>h,λ_=>rfl⟩
open Classical in
theorem c8i{n:Nat}{H:Hp}{a b:Addr}{ts:List Str}(ne:a≠b)(e:H a=some (.tup (numsV ts)))(e':H b=some (.tup [.non])):EqD K H (n+1) (.ref a) (.ref b) (decide (H a=some (.tup [.non]))):=by
 have bi:=a4a e;by_cases h:∀y∈ts,a2h y
 ·rw[decide_eq_false (λz=>bi.mp z h)]
  rw[a8z h] at e;have:=EqD.tup (n:=n) (K:=K) (e:=λ_=>false) ne (SqT.of e) (SqT.of e') (λj x y hx hy=>by
   match j,hx,hy with
   | 0,hx,hy=>
    obtain⟨i,_,rfl⟩:=a4c hx;cases hy;exact EqD.flat rfl rfl
   | j+1,_,hy=>cases hy)
  cases ts with
  | nil=>exact this
  | cons y r=>
   have z:((List.range (min (((y::r).map rd).map V.int).length [V.non].length)).all (λ_=>false) && (((y::r).map rd).map V.int).length == [V.non].length)=false:=by
    rw[List.length_map,List.length_map,List.length_cons];show((List.range (min (r.length+1) 1)).all (λ_=>false) && _)=false;rw[Nat.min_eq_right (by lia)]
    rfl
   rw[z] at this;exact this
 ·rw[decide_eq_true (bi.mpr h)]
  rw[c0d h] at e;exact EqD.tup (n:=n) (K:=K) (e:=λ_=>true) ne (SqT.of e) (SqT.of e') (λj x y hx hy=>by
   match j,hx,hy with
   | 0,hx,hy=>cases hx;cases hy;exact EqD.flat rfl rfl
   | j+1,_,hy=>cases hy)
theorem b5y{H:Hp}{x:Str}{ps:List Addr}(l:ps.length=(pcs x).length)(r:∀(j:Nat) (p:Addr) (y:Str),ps[j]?=some p->(pcs x)[j]?=some y->H p=some (.tup (numsV (Txt.split y " ")))):(∃p∈ps,H p=some (.tup [.non])) ↔ ¬ b1v x:=by
 rw[b7t];constructor
 ·rintro⟨p,hp,e⟩ h
  obtain⟨j,hj⟩:=List.getElem?_of_mem hp;have hi:j<(pcs x).length:=by rw[<- l];exact(List.getElem?_eq_some_iff.mp hj).1
  have hy:=List.getElem?_eq_getElem hi;exact(a4a (r j p _ hj hy)).mp e (h _ (List.getElem_mem hi))
 ·intro h
  apply Classical.byContradiction;intro c;refine h λy hy=>?_;apply Classical.byContradiction;intro d;obtain⟨j,hj⟩:=List.getElem?_of_mem hy;have hi:j<ps.length:=by rw[l];exact(List.getElem?_eq_some_iff.mp hj).1
  exact c ⟨_,List.getElem_mem hi,(a4a (r j _ y (List.getElem?_eq_getElem hi) hj)).mpr d⟩
theorem c1i{H:Hp}{x:Str}{ps:List Addr}(l:ps.length=(pcs x).length)(r:∀(j:Nat) (p:Addr) (y:Str),ps[j]?=some p->(pcs x)[j]?=some y->H p=some (.tup (numsV (Txt.split y " ")))):∀p∈ps,∃ts,H p=some (.tup (numsV ts)):=by
 intro p hp;obtain⟨j,hj⟩:=List.getElem?_of_mem hp;have hi:j<(pcs x).length:=by rw[<- l];exact(List.getElem?_eq_some_iff.mp hj).1
 exact⟨_,r j p _ hj (List.getElem?_eq_getElem hi)⟩
theorem c4u(x:Str):(pcs x).length<=x.length+2:=by
 unfold pcs;split
 ·exact Nat.zero_le _
 ·have:=a6h (x:=x) a2t
  have:=b5f (Txt.split x "; ");lia
open Classical in
noncomputable def badB(H:Hp)(a:Addr):Bool:=decide (H a=some (.tup [.non]))
open Classical in
theorem c8m{H:Hp}{ps:List Addr}:ps.any (badB H)=true ↔ ∃a∈ps,H a=some (.tup [.non]):=by
 rw[List.any_eq_true];exact⟨λ⟨a,ha,e⟩=>⟨a,ha,of_decide_eq_true e⟩,λ⟨a,ha,e⟩=>⟨a,ha,decide_eq_true e⟩⟩
theorem c7f{n:Nat}{H:Hp}{Q:VK}{x:V}{p:Addr}{ps:List Addr}(e:H p=some (.lst (ps.map V.ref)))(h:∀a∈ps,EqD K H n (.ref a) x (badB H a))(q:Q (.bl (ps.any (badB H))) H):d7d K n x (.ref p) H Q:=⟨p,ps,badB H,rfl,SqL.of e,h,q⟩
theorem d2h{a b:Str}(h:a2h a/\a2h b):numsV [a,b]=[.int (rd a),.int (rd b)]:=a8z (ts:=[a,b]) λy hy=>by
 simp only[List.mem_cons,List.not_mem_nil,or_false] at hy;rcases hy with rfl|rfl
 ·exact h.1
 ·exact h.2
theorem d2j{a b:Str}(h:¬ (a2h a/\a2h b)):numsV [a,b]=[.non]:=c0d λz=>h ⟨z a (by simp),z b (by simp)⟩
theorem b0d(x:Str):a3g (turnV x)=true:=by
 unfold turnV;split
 ·cases turnR x <;> rfl
 ·rfl
theorem b2h(x:Str):eqV (turnV x) (.str "bad")=true ↔ ¬ a4v x:=by
 unfold turnV;split
 ·next h=>
  refine⟨λz=>?_,λz=>absurd h z⟩;cases e:turnR x with
  | non=>rw[e] at z;cases z
  | int i=>rw[e] at z;cases z
 ·next h=>exact⟨λ_=>h,λ_=>by rfl⟩
theorem d8p(a b c:Str):inV (.str "bad") [turnV a,turnV b,turnV c]=true ↔ ¬ (a4v a/\a4v b/\a4v c):=by
 have ha:=b2h a;have hb:=b2h b;have hc:=b2h c;show(eqV (turnV a) (.str "bad") || (eqV (turnV b) (.str "bad") || (eqV (turnV c) (.str "bad") || false)))=true ↔ _;rw[Bool.or_false,Bool.or_eq_true,Bool.or_eq_true,ha,hb,hc];by_cases x:a4v a <;> by_cases y:a4v b <;> by_cases z:a4v c <;> simp[x,y,z]
def b2o:Sp:=λvs H Q _=>∃s:Str,vs=[.str s]/\s.length<=90000/\(∀x,a7y s x->∀p H',Same H H'->ST H' p x->Q (.ref p) H')/\((¬ ∃x,a7y s x)->∀H',Same H H'->Q .non H')
abbrev b0k:Stmt:=top 102
theorem a0m:j3 ["text","rows","words","heads","giver","taker","orders","book","stand","lists"] ["text"] (g7 b0k):=↑1
theorem c0b(D:DefT K mg "_law_read" b0k ["text"])(T:Txt K mg cl)(G_law_numbers:FnT P w K mg base "_law_numbers" 2 ["words"] a1t)(G_law_turn:FnT P w K mg base "_law_turn" 2 ["word"] b2n)(G_law_read_orders:FnT P w K mg base "_law_read_orders" 3 ["text"] a4h):FnT P w K mg base "_law_read" 4 ["text"] b2o:=by
 refine D.fn a0m (λvs H Q E h=>?_) ↑2
 ·obtain⟨x,rfl,_⟩:=h
  rfl
 ·obtain⟨x,rfl,lx,k,kn⟩:=h
  refine⟨_,(d6 (i7 (i:=1) a0m.nd rfl (by first|exact Or.inl rfl|exact Or.inr rfl) (a1v (K:=K) (pv 0) (d4 f9 d5)))
   (d6 (a4z (ix:=2) (N:=["row"]) (nt:=1) (fr:=[]) rfl (a0b rfl rfl (by decide +kernel) (by decide +kernel) rfl rfl) (a1y (K:=K) (pv 1)) (y9 ↑5) (λ_ _ _ _ _=>g0 (i:=0) (show(["row"]:List Str).Nodup by decide +kernel) rfl (Or.inl rfl) (Or.inr rfl)) (λ_ _ _ _ _=>(a1v (K:=K) (pv 0) (d4 f9 d5))) a0m.nd rfl rfl)
   (@d6 _ _ _ _ _ (@i7 _ _ 3 _ _ _ _ a0m.nd rfl (by first|exact Or.inl rfl|exact Or.inr rfl) (@m5 _ _ _ _ (@d4 _ _ _ _ _ f9 (@d4 _ _ _ _ _ f9 ↑3 rfl) rfl)) (by rfl) (by first|exact .inl rfl|exact .inr rfl))
   (d6 (v9 (PW.pt (a2f (g6 (b3d (K:=K) (n:=0) (huN hr 1)) (a1j (N:=["row"]) (nt:=1) (fr:=[]) rfl (a0b rfl rfl (by decide +kernel) (by decide +kernel) rfl rfl) (a1y (K:=K) (pv 2)) (y9 ↑5) (λ_ _ _ _ _=>g0 (i:=0) (show(["row"]:List Str).Nodup by decide +kernel) rfl (Or.inl rfl) (Or.inr rfl)) (λ_ _ _ _ _=>(o0 (i8 (K:=K)) (pv 0) d7 (λ_ _=>rfl)))) (pv 3) (i3 _)) (a2f (g6 a4b (i6 (j2 (K:=K)) (by rfl) T.z_len PySem.boot_len (d4 (o0 (i8 (K:=K)) (pv 2) d7 (λ_ _=>rfl)) d5)) d7 (i3 _)) (a1o (g6 a4b (i6 (j2 (K:=K)) (by rfl) T.z_len PySem.boot_len (d4 (o0 (i8 (K:=K)) (pv 2) d7 (λ_ _=>rfl)) d5)) d7 (i3 _))))))
     (f8 (i5 a1i))
     i9)
   (d6 (i7 (i:=4) a0m.nd rfl (by first|exact Or.inl rfl|exact Or.inr rfl) (j8 (b5z (K:=K)) (a0k (d4 (o0 (i8 (K:=K)) (o0 (i8 (K:=K)) (pv 2) d7 (λ_ _=>rfl)) d7 (λ_ _=>rfl)) (d4 (j5 G_law_turn hr ↑5 rfl k7 (d4 (o0 (i8 (K:=K)) (o0 (i8 (K:=K)) (pv 2) d7 (λ_ _=>rfl)) d7 (λ_ _=>rfl)) d5)) (d4 (j5 G_law_numbers hr ↑5 rfl k7 (d4 (z8 (a1m (K:=K)) (o0 (i8 (K:=K)) (pv 2) d7 (λ_ _=>rfl)) (a0e d7) a0p) d5)) d5)))) (j5 G_law_numbers hr ↑5 rfl k7 (d4 (z8 (a1m (K:=K)) (o0 (i8 (K:=K)) (pv 2) d7 (λ_ _=>rfl)) (a0e d7) a0p) d5))))
   (d6 (i7 (i:=5) a0m.nd rfl (by first|exact Or.inl rfl|exact Or.inr rfl) (a0k (d4 (o0 (i8 (K:=K)) (o0 (i8 (K:=K)) (pv 2) d7 (λ_ _=>rfl)) d7 (λ_ _=>rfl)) (d4 (j5 G_law_turn hr ↑5 rfl k7 (d4 (o0 (i8 (K:=K)) (o0 (i8 (K:=K)) (pv 2) d7 (λ_ _=>rfl)) d7 (λ_ _=>rfl)) d5)) (d4 (j5 G_law_numbers hr ↑5 rfl k7 (d4 (z8 (a1m (K:=K)) (o0 (i8 (K:=K)) (pv 2) d7 (λ_ _=>rfl)) (a0e d7) a0p) d5)) (d4 (j5 G_law_turn hr ↑5 rfl k7 (d4 (o0 (i8 (K:=K)) (o0 (i8 (K:=K)) (pv 2) d7 (λ_ _=>rfl)) d7 (λ_ _=>rfl)) d5)) d5))))))
   (d6 (i7 (i:=5) a0m.nd rfl (by first|exact Or.inl rfl|exact Or.inr rfl) (j8 (b5z (K:=K)) (j8 (b5z (K:=K)) (pv 5) (j5 G_law_numbers hr (by decide) rfl k7 (d4 (z8 (a1m (K:=K)) (o0 (i8 (K:=K)) (pv 2) d7 (λ_ _=>rfl)) (a0e d7) a0p) d5))) (a0k (d4 (j5 G_law_numbers hr ↑5 rfl k7 (d4 (z8 (a1m (K:=K)) (o0 (i8 (K:=K)) (pv 2) d7 (λ_ _=>rfl)) (a0e d7) a0p) d5)) d5))))
   (d6 (i7 (i:=6) a0m.nd rfl (by first|exact Or.inl rfl|exact Or.inr rfl) (j5 G_law_read_orders hr (by decide) rfl k7 (d4 (a1f (K:=K) f9 (d4 (z8 (a1m (K:=K)) (o0 (i8 (K:=K)) (pv 2) d7 (λ_ _=>rfl)) (a0e d7) a0p) d5)) d5)))
   (d6 (i7 (i:=7) a0m.nd rfl (by first|exact Or.inl rfl|exact Or.inr rfl) (j5 G_law_read_orders hr (by decide) rfl k7 (d4 (a1f (K:=K) f9 (d4 (z8 (a1m (K:=K)) (o0 (i8 (K:=K)) (pv 2) d7 (λ_ _=>rfl)) (a0e d7) a0p) d5)) d5)))
   (d6 (i7 (i:=8) a0m.nd rfl (by first|exact Or.inl rfl|exact Or.inr rfl) (a0k (d4 (j5 G_law_numbers hr (by decide) rfl k7 (d4 (z8 (a1m (K:=K)) (o0 (i8 (K:=K)) (pv 2) d7 (λ_ _=>rfl)) (a0e d7) a0p) d5)) (d4 (pv 4) (d4 (pv 5) (d4 (pv 6) (d4 (pv 7) d5)))))))
   (d6 (i7 (i:=9) a0m.nd rfl (by first|exact Or.inl rfl|exact Or.inr rfl) (j8 a2b (j8 a2b (m5 (d4 (o0 (a0i (K:=K)) (pv 8) d7 (λ_ _=>rfl)) (d4 (o0 (a0i (K:=K)) (pv 4) d7 (λ_ _=>rfl)) (d4 (o0 (a0i (K:=K)) (pv 5) d7 (λ_ _=>rfl)) (d4 (o0 (a0i (K:=K)) (pv 5) (d0m c3q d7) (λ_ _=>rfl)) d5))))) (m6 (a2s (K:=K)) (by rfl) T.z_list PyProof.Rows.boot_list (d4 (pv 6) d5))) (m6 (a2s (K:=K)) (by rfl) T.z_list PyProof.Rows.boot_list (d4 (pv 7) d5))))
   (d6 (v9 (PW.pt (a2f (g6 (d3e (K:=K) (n:=1) (huN hr 2)) (a0k (d4 a1i d5)) (pv 9) (by with_unfolding_all rfl)) (a2f (g6 a4b (i6 (j2 (K:=K)) (by rfl) T.z_len PySem.boot_len (d4 (pv 4) d5)) d7 (i3 _)) (a2f (g6 a4b (i6 (j2 (K:=K)) (by rfl) T.z_len PySem.boot_len (d4 (pv 5) d5)) d7 (i3 _)) (a1o (g6 (a3u (K:=K)) f9 (m5 (d4 (o0 (a0i (K:=K)) (pv 4) d7 (λ_ _=>rfl)) (d4 (o0 (a0i (K:=K)) (pv 5) d7 (λ_ _=>rfl)) (d4 (o0 (a0i (K:=K)) (pv 5) d7 (λ_ _=>rfl)) d5)))) (by with_unfolding_all rfl)))))))
     (f8 (i5 a1i))
     i9)
   (f8 (i5 (pv 8))))))))))))))),?_⟩
  have lm:=a0l;have w1:=a1e (x:=x) b1k;have w2:=b0t (Txt.split x "\n");fail "";refine a4j b1k (by lia) (λq hq=>?_)
  fail "";have eq:upd H q (.lst ((Txt.split x "\n").map V.str)) q=_:=d8;have s1:Same H (upd H q (.lst ((Txt.split x "\n").map V.str))):=d9 hq;generalize upd H q (.lst ((Txt.split x "\n").map V.str))=H1 at eq s1 ⊢;fail "";refine a1d (xs:=(Txt.split x "\n").map V.str) (by rw[List.length_map];lia) (WrP H1 (Txt.split x "\n")) (λD hD=>WrP.new hD) (λD i acc H' p=>⟨p.len.1,p.len.2,SqL.of (p.2.1 _ _ eq)⟩) ?_ ?_
  ·intro D i v acc H' hD hx hp
   obtain⟨pc,hpc,rfl⟩:=a4c hx;have w2:=L2.wt_mem (List.mem_of_getElem? hpc);fail "";refine a4j t9 (by lia) (λu hu=>?_)
   exact hp.push hD hpc (d9 hu) hu d8
  intro wd acc H2 hwd hp;rw[List.length_map] at hp;obtain⟨e2,s2,_,ps,rfl,hl,r⟩:=hp;have s02:=s1.trans s2;clear eq hq;fail "";refine⟨by show 8<=sizeLine;lia,λhs hhs=>?_⟩
  generalize u3:upd H2 hs _=H3;obtain⟨s3,e3⟩:=nwS u3 hhs;replace e2:=s3 _ _ e2;have r:=λj p y a b=>s3 _ _ (r j p y a b).2;fail "";refine a1d (xs:=ps.map V.ref) (by rw[List.length_map];lia) (MpP H3 (Txt.split x "\n") (λy=>V.str (hd y)) (λ_=>True)) (λD hD=>MpP.new hD) (λD i acc H' p=>⟨p.len.1,p.len.2,SqL.of (p.2.1 _ _ e2)⟩) ?_ ?_
  ·intro D i v acc H' hD hx hp
   obtain⟨p,hp1,rfl⟩:=a4c hx;have hi:i<(Txt.split x "\n").length:=by rw[<- hl];exact(List.getElem?_eq_some_iff.mp hp1).1
   have hoi:=List.getElem?_eq_getElem hi;have ep:=hp.2.1 _ _ (r i p _ hp1 hoi);obtain⟨t,et⟩:=b6m (Txt.split x "\n")[i];rw[et] at ep;fail "";refine a4d (v:=.str (hd (Txt.split x "\n")[i])) ep ?_ ?_
   ·unfold atI ixN
    rw[if_pos ↑5,if_pos (by rw[List.length_map,List.length_cons];lia)]
    rfl
   exact hp.step hD hoi trivial rfl (Same.refl _)
  intro D acc H4 hD hp;obtain⟨e4,s4,_⟩:=hp.done (by rw[List.length_map];exact hl)
  have s4:Same H3 H4:=s4;have n34:D≠hs:=(g9 e3 hD).symm;have e3:=s4 _ _ e3;fail "";have e4:H4 D=some (.lst (((Txt.split x "\n").map hd).map V.str)):=e4.trans (by rw[List.map_map];rfl)
  refine b6n (c8j (ys:=c1q.map V.str) n34 (SqL.of e4) (SqL.of e3) (a5e _) (a5e c1q)) ?_;rw[c2c];have s04:=(s02.trans s3).trans s4;have r:=λj p y a b=>s4 _ _ (r j p y a b);replace e2:=s4 _ _ e2;clear e4 e3 u3 hD hp hhs hwd w2 s1 s2 s3 s4 s02;fail "";refine a0u (λz=>?_) (λz=>?_)
  ·fail ""
   exact kn (λy=>z (by obtain⟨_,y⟩:=y;exact b9q y)) _ s04
  have l8:(Txt.split x "\n").length=8:=by have:=congrArg List.length z;rw[List.length_map] at this;exact this
  obtain⟨r0,r1,r2,r3,r4,r5,r6,r7,et⟩:=d1m (Txt.split x "\n") l8;rw[et] at z r hl;obtain⟨p0,p1,p2,p3,p4,p5,p6,p7,rfl⟩:=d1m ps hl;obtain⟨t0,h0⟩:=b6m r0;obtain⟨t1,h1⟩:=b6m r1;obtain⟨t2,h2⟩:=b6m r2;obtain⟨t3,h3⟩:=b6m r3;obtain⟨t4,h4⟩:=b6m r4;obtain⟨t5,h5⟩:=b6m r5;obtain⟨t6,h6⟩:=b6m r6;obtain⟨t7,h7⟩:=b6m r7;simp only[List.map_cons,List.map_nil,c1q,List.cons.injEq,and_true] at z;obtain⟨z0,z1,z2,z3,z4,z5,z6,z7⟩:=z;rw[z0] at h0;rw[z1] at h1;rw[z2] at h2;rw[z3] at h3;rw[z4] at h4;rw[z5] at h5;rw[z6] at h6;rw[z7] at h7;have q0:=r 0 p0 r0 rfl rfl;have q1:=r 1 p1 r1 rfl rfl;have q2:=r 2 p2 r2 rfl rfl;have q3:=r 3 p3 r3 rfl rfl;have q4:=r 4 p4 r4 rfl rfl;have q5:=r 5 p5 r5 rfl rfl;have q6:=r 6 p6 r6 rfl rfl;have q7:=r 7 p7 r7 rfl rfl;clear r hl z0 z1 z2 z3 z4 z5 z6 z7 l8;rw[h0] at q0;rw[h1] at q1;rw[h2] at q2;rw[h3] at q3;rw[h4] at q4;rw[h5] at q5;rw[h6] at q6;rw[h7] at q7;fail "";rw[y6,List.length_map,List.length_cons];refine a0u (λz=>?_) (λz=>?_)
  ·fail ""
   refine kn (λy=>z ?_) _ s04;obtain⟨_,_,_,_,_,_,_,_,_,e,_,⟨_,_,_,_,a1,_⟩,_⟩:=y;rw[et] at e;cases e;rw[h1] at a1;rw[(List.cons.inj a1).2];rfl
  fail "";rw[y6,List.length_map,List.length_cons];refine a0u (λy=>?_) (λy=>?_)
  ·fail ""
   refine kn (λv=>y ?_) _ s04;obtain⟨_,_,_,_,_,_,_,_,_,e,_,_,⟨_,_,_,_,_,a1,_⟩,_⟩:=v;rw[et] at e;cases e;rw[h3] at a1;rw[(List.cons.inj a1).2];rfl
  obtain⟨gst,gtn,god,gpt,rfl⟩:=d7k t1 (by lia)
  obtain⟨tst,ttn,tfi,tnu,tle,rfl⟩:=d7l t3 (by lia)
  clear z y;have hw:=λy (hy:y∈Txt.split x "\n")=>L2.wt_mem hy;rw[w1,et] at hw;have l0:r0.length<=90001:=Nat.le_trans (Nat.le_succ _) (Nat.le_trans (hw r0 (by simp)) (by lia))
  have l1:r1.length<=90001:=Nat.le_trans (Nat.le_succ _) (Nat.le_trans (hw r1 (by simp)) (by lia))
  have l2:r2.length<=90001:=Nat.le_trans (Nat.le_succ _) (Nat.le_trans (hw r2 (by simp)) (by lia))
  have l3:r3.length<=90001:=Nat.le_trans (Nat.le_succ _) (Nat.le_trans (hw r3 (by simp)) (by lia))
  have l4:r4.length<=90001:=Nat.le_trans (Nat.le_succ _) (Nat.le_trans (hw r4 (by simp)) (by lia))
  have l5:r5.length<=90001:=Nat.le_trans (Nat.le_succ _) (Nat.le_trans (hw r5 (by simp)) (by lia))
  have l6:r6.length<=90001:=Nat.le_trans (Nat.le_succ _) (Nat.le_trans (hw r6 (by simp)) (by lia))
  have l7:r7.length<=90001:=Nat.le_trans (Nat.le_succ _) (Nat.le_trans (hw r7 (by simp)) (by lia))
  clear hw w1;have v0:=a6g h0;have v1:=a6g h1;have v2:=a6g h2;have v3:=a6g h3;have v4:=a6g h4;have v5:=a6g h5;have v6:=a6g h6;have v7:=a6g h7;have gtl:gtn.length<1000000:=by have:=L2.wt_mem (ss:=[gst,gtn,god,gpt]) (x:=gtn) (by simp);lia
  have ttl:ttn.length<1000000:=by have:=L2.wt_mem (ss:=[tst,ttn,tfi,tnu,tle]) (x:=ttn) (by simp);lia
  have tfl:tfi.length<1000000:=by have:=L2.wt_mem (ss:=[tst,ttn,tfi,tnu,tle]) (x:=tfi) (by simp);lia
  fail "";refine⟨gtn,rfl,gtl,λH5 s5=>?_⟩;replace s04:=s04.trans s5;replace e2:=s5 _ _ e2;replace q0:=s5 _ _ q0;replace q1:=s5 _ _ q1;replace q2:=s5 _ _ q2;replace q3:=s5 _ _ q3;replace q4:=s5 _ _ q4;replace q5:=s5 _ _ q5;replace q6:=s5 _ _ q6;replace q7:=s5 _ _ q7;clear s5;fail "";refine⟨_,rfl,?_⟩;fail "";refine b5q q2 (by lia) λm1 H6 hm1 s6 em1=>?_
  replace s04:=s04.trans s6;replace e2:=s6 _ _ e2;replace q0:=s6 _ _ q0;replace q1:=s6 _ _ q1;replace q2:=s6 _ _ q2;replace q3:=s6 _ _ q3;replace q4:=s6 _ _ q4;replace q5:=s6 _ _ q5;replace q6:=s6 _ _ q6;replace q7:=s6 _ _ q7;clear s6;fail "";refine⟨by show 3<=sizeLine;lia,λg1 hg1=>?_⟩
  generalize u7:upd H6 g1 _=H7;obtain⟨s7,eg1⟩:=nwS u7 hg1;replace s04:=s04.trans s7;replace e2:=s7 _ _ e2;replace q0:=s7 _ _ q0;replace q1:=s7 _ _ q1;replace q2:=s7 _ _ q2;replace q3:=s7 _ _ q3;replace q4:=s7 _ _ q4;replace q5:=s7 _ _ q5;replace q6:=s7 _ _ q6;replace q7:=s7 _ _ q7;replace em1:=s7 _ _ em1;clear s7 u7;fail "";refine⟨_,rfl,?_⟩;fail "";have wg:wt [god,gpt]<=1000000:=by
   simp only[y0] at v1 ⊢;lia
  have wk:wt [tnu,tle]<=1000000:=by
   simp only[y0] at v3 ⊢;lia
  refine c8y (t:=[god,gpt]) q1 rfl wg λn1 H8 hn1 s8 en1=>?_;replace s04:=s04.trans s8;replace e2:=s8 _ _ e2;replace q0:=s8 _ _ q0;replace q1:=s8 _ _ q1;replace q2:=s8 _ _ q2;replace q3:=s8 _ _ q3;replace q4:=s8 _ _ q4;replace q5:=s8 _ _ q5;replace q6:=s8 _ _ q6;replace q7:=s8 _ _ q7;replace em1:=s8 _ _ em1;replace eg1:=s8 _ _ eg1;clear s8;refine c1y eg1 en1 ?_ λgv H9 s9 eg=>?_
  ·have:=b3m [god,gpt]
   show 3+_<=sizeLine;have:[god,gpt].length=2:=rfl;lia
  replace s04:=s04.trans s9;replace e2:=s9 _ _ e2;replace q0:=s9 _ _ q0;replace q1:=s9 _ _ q1;replace q2:=s9 _ _ q2;replace q3:=s9 _ _ q3;replace q4:=s9 _ _ q4;replace q5:=s9 _ _ q5;replace q6:=s9 _ _ q6;replace q7:=s9 _ _ q7;replace em1:=s9 _ _ em1;clear s9;refine a3x (lit [some (.str x),some (.ref q),some (.ref wd),some (.ref hs),some (.ref gv),none,none,none,none,none] (by rfl) ?_)
  clear eg1 en1 hn1 hg1 hm1;fail "";refine⟨ttn,rfl,ttl,λH10 s10=>?_⟩;replace s04:=s04.trans s10;replace e2:=s10 _ _ e2;replace q0:=s10 _ _ q0;replace q1:=s10 _ _ q1;replace q2:=s10 _ _ q2;replace q3:=s10 _ _ q3;replace q4:=s10 _ _ q4;replace q5:=s10 _ _ q5;replace q6:=s10 _ _ q6;replace q7:=s10 _ _ q7;replace em1:=s10 _ _ em1;replace eg:=s10 _ _ eg;clear s10;fail "";refine⟨_,rfl,?_⟩;fail "";refine b5q q4 (by lia) λm2 H11 hm2 s11 em2=>?_
  replace s04:=s04.trans s11;replace e2:=s11 _ _ e2;replace q0:=s11 _ _ q0;replace q1:=s11 _ _ q1;replace q2:=s11 _ _ q2;replace q3:=s11 _ _ q3;replace q4:=s11 _ _ q4;replace q5:=s11 _ _ q5;replace q6:=s11 _ _ q6;replace q7:=s11 _ _ q7;replace em1:=s11 _ _ em1;replace eg:=s11 _ _ eg;clear s11;fail "";refine⟨tfi,rfl,tfl,λH12 s12=>?_⟩;replace s04:=s04.trans s12;replace e2:=s12 _ _ e2;replace q0:=s12 _ _ q0;replace q1:=s12 _ _ q1;replace q2:=s12 _ _ q2;replace q3:=s12 _ _ q3;replace q4:=s12 _ _ q4;replace q5:=s12 _ _ q5;replace q6:=s12 _ _ q6;replace q7:=s12 _ _ q7;replace em1:=s12 _ _ em1;replace eg:=s12 _ _ eg;replace em2:=s12 _ _ em2;clear s12;fail "";refine⟨by show 4<=sizeLine;lia,λk1 hk1=>?_⟩
  generalize u13:upd H12 k1 _=H13;obtain⟨s13,ek1⟩:=nwS u13 hk1;replace s04:=s04.trans s13;replace e2:=s13 _ _ e2;replace q0:=s13 _ _ q0;replace q1:=s13 _ _ q1;replace q2:=s13 _ _ q2;replace q3:=s13 _ _ q3;replace q4:=s13 _ _ q4;replace q5:=s13 _ _ q5;replace q6:=s13 _ _ q6;replace q7:=s13 _ _ q7;replace em1:=s13 _ _ em1;replace eg:=s13 _ _ eg;replace em2:=s13 _ _ em2;clear s13;clear u13;refine a3x (lit [some (.str x),some (.ref q),some (.ref wd),some (.ref hs),some (.ref gv),some (.ref k1),none,none,none,none] (by rfl) ?_)
  fail "";refine⟨_,rfl,?_⟩;fail "";refine c8y (t:=[tnu,tle]) q3 rfl wk λn2 H14 hn2 s14 en2=>?_;replace s04:=s04.trans s14;replace e2:=s14 _ _ e2;replace q0:=s14 _ _ q0;replace q1:=s14 _ _ q1;replace q2:=s14 _ _ q2;replace q3:=s14 _ _ q3;replace q4:=s14 _ _ q4;replace q5:=s14 _ _ q5;replace q6:=s14 _ _ q6;replace q7:=s14 _ _ q7;replace em1:=s14 _ _ em1;replace eg:=s14 _ _ eg;replace em2:=s14 _ _ em2;replace ek1:=s14 _ _ ek1;clear s14;refine c1y ek1 en2 ?_ λkv H15 s15 ekv=>?_
  ·have:=b3m [tnu,tle]
   show 4+_<=sizeLine;have:[tnu,tle].length=2:=rfl;lia
  replace s04:=s04.trans s15;replace e2:=s15 _ _ e2;replace q0:=s15 _ _ q0;replace q1:=s15 _ _ q1;replace q2:=s15 _ _ q2;replace q3:=s15 _ _ q3;replace q4:=s15 _ _ q4;replace q5:=s15 _ _ q5;replace q6:=s15 _ _ q6;replace q7:=s15 _ _ q7;replace em1:=s15 _ _ em1;replace eg:=s15 _ _ eg;replace em2:=s15 _ _ em2;clear s15;clear ek1 en2 hn2 hk1;fail "";refine⟨_,rfl,?_⟩;fail "";refine b5q q5 (by lia) λm3 H16 hm3 s16 em3=>?_
  replace s04:=s04.trans s16;replace e2:=s16 _ _ e2;replace q0:=s16 _ _ q0;replace q1:=s16 _ _ q1;replace q2:=s16 _ _ q2;replace q3:=s16 _ _ q3;replace q4:=s16 _ _ q4;replace q5:=s16 _ _ q5;replace q6:=s16 _ _ q6;replace q7:=s16 _ _ q7;replace em1:=s16 _ _ em1;replace eg:=s16 _ _ eg;replace em2:=s16 _ _ em2;replace ekv:=s16 _ _ ekv;clear s16;fail "";refine⟨by show 1<=sizeLine;lia,λk2 hk2=>?_⟩
  generalize u17:upd H16 k2 _=H17;obtain⟨s17,ek2⟩:=nwS u17 hk2;replace s04:=s04.trans s17;replace e2:=s17 _ _ e2;replace q0:=s17 _ _ q0;replace q1:=s17 _ _ q1;replace q2:=s17 _ _ q2;replace q3:=s17 _ _ q3;replace q4:=s17 _ _ q4;replace q5:=s17 _ _ q5;replace q6:=s17 _ _ q6;replace q7:=s17 _ _ q7;replace em1:=s17 _ _ em1;replace eg:=s17 _ _ eg;replace em2:=s17 _ _ em2;replace em3:=s17 _ _ em3;replace ekv:=s17 _ _ ekv;clear s17;clear u17;refine c1y ekv ek2 ?_ λtv H18 s18 et2=>?_
  ·have:=b3m [tnu,tle]
   have:[tnu,tle].length=2:=rfl;rw[List.length_append];show(4+_)+1<=sizeLine;lia
  replace s04:=s04.trans s18;replace e2:=s18 _ _ e2;replace q0:=s18 _ _ q0;replace q1:=s18 _ _ q1;replace q2:=s18 _ _ q2;replace q3:=s18 _ _ q3;replace q4:=s18 _ _ q4;replace q5:=s18 _ _ q5;replace q6:=s18 _ _ q6;replace q7:=s18 _ _ q7;replace em1:=s18 _ _ em1;replace eg:=s18 _ _ eg;replace em2:=s18 _ _ em2;replace em3:=s18 _ _ em3;clear s18;clear ekv ek2 hk2;refine a3x (lit [some (.str x),some (.ref q),some (.ref wd),some (.ref hs),some (.ref gv),some (.ref tv),none,none,none,none] (by rfl) ?_)
  fail "";refine⟨_,rfl,?_⟩;fail "";refine⟨p6,_,rfl,SqL.of q6,λc6 hc6=>?_⟩;rw[d6l];generalize u19:upd H18 c6 _=H19;obtain⟨s19,ec6⟩:=nwS u19 hc6;replace s04:=s04.trans s19;replace e2:=s19 _ _ e2;replace q0:=s19 _ _ q0;replace q1:=s19 _ _ q1;replace q2:=s19 _ _ q2;replace q3:=s19 _ _ q3;replace q4:=s19 _ _ q4;replace q5:=s19 _ _ q5;replace q6:=s19 _ _ q6;replace q7:=s19 _ _ q7;replace em1:=s19 _ _ em1;replace eg:=s19 _ _ eg;replace em2:=s19 _ _ em2;replace em3:=s19 _ _ em3;replace et2:=s19 _ _ et2;clear s19;clear u19;refine c5u (a3b t9 ec6 (by lia) ?_)
  fail "";have j6:=a3a t9 t6;have j7:=a3a t9 t7;refine⟨_,rfl,by lia,λoa H20 ho s20 eo=>?_⟩
  replace s04:=s04.trans s20;replace e2:=s20 _ _ e2;replace q0:=s20 _ _ q0;replace q1:=s20 _ _ q1;replace q2:=s20 _ _ q2;replace q3:=s20 _ _ q3;replace q4:=s20 _ _ q4;replace q5:=s20 _ _ q5;replace q6:=s20 _ _ q6;replace q7:=s20 _ _ q7;replace em1:=s20 _ _ em1;replace eg:=s20 _ _ eg;replace em2:=s20 _ _ em2;replace em3:=s20 _ _ em3;replace et2:=s20 _ _ et2;clear s20;fail "";refine⟨_,rfl,?_⟩;fail "";refine⟨p7,_,rfl,SqL.of q7,λc7 hc7=>?_⟩;rw[d6l];generalize u21:upd H20 c7 _=H21;obtain⟨s21,ec7⟩:=nwS u21 hc7;replace s04:=s04.trans s21;replace e2:=s21 _ _ e2;replace q0:=s21 _ _ q0;replace q1:=s21 _ _ q1;replace q2:=s21 _ _ q2;replace q3:=s21 _ _ q3;replace q4:=s21 _ _ q4;replace q5:=s21 _ _ q5;replace q6:=s21 _ _ q6;replace q7:=s21 _ _ q7;replace em1:=s21 _ _ em1;replace eg:=s21 _ _ eg;replace em2:=s21 _ _ em2;replace em3:=s21 _ _ em3;replace et2:=s21 _ _ et2;replace eo:=eo.same s21;clear s21;clear u21;refine c5u (a3b t9 ec7 (by lia) ?_)
  fail "";refine⟨_,rfl,by lia,λba H22 hb s22 eb=>?_⟩
  replace s04:=s04.trans s22;replace e2:=s22 _ _ e2;replace q0:=s22 _ _ q0;replace q1:=s22 _ _ q1;replace q2:=s22 _ _ q2;replace q3:=s22 _ _ q3;replace q4:=s22 _ _ q4;replace q5:=s22 _ _ q5;replace q6:=s22 _ _ q6;replace q7:=s22 _ _ q7;replace em1:=s22 _ _ em1;replace eg:=s22 _ _ eg;replace em2:=s22 _ _ em2;replace em3:=s22 _ _ em3;replace et2:=s22 _ _ et2;replace eo:=eo.same s22;clear s22;refine a3x (lit [some (.str x),some (.ref q),some (.ref wd),some (.ref hs),some (.ref gv),some (.ref tv),some (.ref oa),some (.ref ba),none,none] (by rfl) ?_)
  fail "";refine⟨_,rfl,?_⟩;fail "";refine b5q q0 (by lia) λm0 H23 hm0 s23 em0=>?_
  replace s04:=s04.trans s23;replace em1:=s23 _ _ em1;replace eg:=s23 _ _ eg;replace em2:=s23 _ _ em2;replace em3:=s23 _ _ em3;replace et2:=s23 _ _ et2;replace eo:=eo.same s23;replace eb:=eb.same s23;clear s23;clear e2 q0 q1 q2 q3 q4 q5 q6 q7;fail "";refine⟨by show 5<=sizeLine;lia,λsa hsa=>?_⟩
  generalize u24:upd H23 sa _=H24;obtain⟨s24,esa⟩:=nwS u24 hsa;replace s04:=s04.trans s24;replace em0:=s24 _ _ em0;replace em1:=s24 _ _ em1;replace eg:=s24 _ _ eg;replace em2:=s24 _ _ em2;replace em3:=s24 _ _ em3;replace et2:=s24 _ _ et2;replace eo:=eo.same s24;replace eb:=eb.same s24;clear s24;clear u24;fail "";refine b6o (v:=.ref m1) eg ?_ ?_
  ·unfold atI ixN
   rw[if_pos ↑5,if_pos (by rw[List.length_append];show(2:Int)<((3+_:Nat):Int);lia)]
   rfl
  fail "";refine b6o (v:=.ref m2) et2 ?_ ?_
  ·unfold atI ixN
   rw[if_pos ↑5,if_pos (by rw[List.length_append,List.length_append];show(2:Int)<(((4+_)+1:Nat):Int);lia)]
   rfl
  fail "";refine b6o (v:=.ref m3) et2 ?_ ?_
  ·unfold atI ixN
   rw[if_neg ↑5,if_pos (by rw[List.length_append];show -(((_+1:Nat)):Int) <= -1;lia),List.length_append]
   show(_++[V.ref m3])[(-1+((_+1:Nat):Int)).toNat]?=_;rw[List.getElem?_append_right (by lia)]
   show[V.ref m3][_]?=_;rw[show ∀k:Nat,(-1+((k+1:Nat):Int)).toNat-k=0 from λk=>by lia]
   rfl
  fail "";refine⟨by show 4<=sizeLine;lia,λl25 hl25=>?_⟩
  generalize u25:upd H24 l25 _=H25;obtain⟨s25,e25⟩:=nwS u25 hl25;replace s04:=s04.trans s25;replace em0:=s25 _ _ em0;replace em1:=s25 _ _ em1;replace eg:=s25 _ _ eg;replace em2:=s25 _ _ em2;replace em3:=s25 _ _ em3;replace et2:=s25 _ _ et2;replace eo:=eo.same s25;replace eb:=eb.same s25;replace esa:=s25 _ _ esa;clear s25;clear u25;obtain⟨os,eo1,lo,ro⟩:=eo;obtain⟨bs,eb1,lb,rb⟩:=eb;fail "";have c6:=c4u (Txt.join " " t6);have c7:=c4u (Txt.join " " t7);intro l26 hl26;generalize u26:upd H25 l26 _=H26;obtain⟨s26,e26⟩:=nwS u26 hl26;replace e25:=s26 _ _ e25;replace s04:=s04.trans s26;replace em0:=s26 _ _ em0;replace em1:=s26 _ _ em1;replace eg:=s26 _ _ eg;replace em2:=s26 _ _ em2;replace em3:=s26 _ _ em3;replace et2:=s26 _ _ et2;replace esa:=s26 _ _ esa;replace eb1:=s26 _ _ eb1;replace eo1:=s26 _ _ eo1;replace ro:=λj p y a b=>s26 _ _ (ro j p y a b);replace rb:=λj p y a b=>s26 _ _ (rb j p y a b);clear s26;clear u26;refine a7x e25 e26 (by rw[List.length_map];show 4+_<=sizeLine;lia) λl27 hl27=>?_
  generalize u27:upd H26 l27 _=H27;obtain⟨s27,e27⟩:=nwS u27 hl27;replace s04:=s04.trans s27;replace em0:=s27 _ _ em0;replace em1:=s27 _ _ em1;replace eg:=s27 _ _ eg;replace em2:=s27 _ _ em2;replace em3:=s27 _ _ em3;replace et2:=s27 _ _ et2;replace esa:=s27 _ _ esa;replace eb1:=s27 _ _ eb1;replace eo1:=s27 _ _ eo1;replace ro:=λj p y a b=>s27 _ _ (ro j p y a b);replace rb:=λj p y a b=>s27 _ _ (rb j p y a b);clear s27;clear u27 e25 e26;fail "";intro l28 hl28;generalize u28:upd H27 l28 _=H28;obtain⟨s28,e28⟩:=nwS u28 hl28;replace e27:=s28 _ _ e27;replace s04:=s04.trans s28;replace em0:=s28 _ _ em0;replace em1:=s28 _ _ em1;replace eg:=s28 _ _ eg;replace em2:=s28 _ _ em2;replace em3:=s28 _ _ em3;replace et2:=s28 _ _ et2;replace esa:=s28 _ _ esa;replace eb1:=s28 _ _ eb1;replace eo1:=s28 _ _ eo1;replace ro:=λj p y a b=>s28 _ _ (ro j p y a b);replace rb:=λj p y a b=>s28 _ _ (rb j p y a b);clear s28;clear u28;refine a7x e27 e28 (by rw[List.length_append,List.length_map,List.length_map];show(4+_)+_<=sizeLine;lia) λl29 hl29=>?_
  generalize u29:upd H28 l29 _=H29;obtain⟨s29,e29⟩:=nwS u29 hl29;replace s04:=s04.trans s29;replace em0:=s29 _ _ em0;replace em1:=s29 _ _ em1;replace eg:=s29 _ _ eg;replace em2:=s29 _ _ em2;replace em3:=s29 _ _ em3;replace et2:=s29 _ _ et2;replace esa:=s29 _ _ esa;replace eb1:=s29 _ _ eb1;replace eo1:=s29 _ _ eo1;replace ro:=λj p y a b=>s29 _ _ (ro j p y a b);replace rb:=λj p y a b=>s29 _ _ (rb j p y a b);clear s29;clear u29 e27 e28;have e29:H29 l29=some (.lst (([m0,m1,m2,m3]++os++bs).map V.ref)):=e29.trans (by rw[List.map_append,List.map_append];rfl)
  refine a3x (lit [some (.str x),some (.ref q),some (.ref wd),some (.ref hs),some (.ref gv),some (.ref tv),some (.ref oa),some (.ref ba),some (.ref sa),some (.ref l29)] (by rfl) ?_)
  clear hl25 hl26 hl27 hl28 hl29 hsa;fail "";refine⟨by show 1<=sizeLine;lia,λnn hnn=>?_⟩
  generalize u30:upd H29 nn _=H30;obtain⟨s30,enn⟩:=nwS u30 hnn;have nen:∀{p:Addr}{o:HO},H29 p=some o->p≠nn:=λe=>g9 e hnn;have hne:∀p∈[m0,m1,m2,m3]++os++bs,p≠nn:=by
   intro p hp;rcases List.mem_append.mp hp with hp|hp
   ·rcases List.mem_append.mp hp with hp|hp
    ·simp only[List.mem_cons,List.not_mem_nil,or_false] at hp
     rcases hp with rfl|rfl|rfl|rfl
     ·exact nen em0
     ·exact nen em1
     ·exact nen em2
     ·exact nen em3
    ·obtain⟨_,e⟩:=c1i lo ro p hp
     exact nen e
   ·obtain⟨_,e⟩:=c1i lb rb p hp
    exact nen e
  replace e29:=s30 _ _ e29;replace s04:=s04.trans s30;replace em0:=s30 _ _ em0;replace em1:=s30 _ _ em1;replace eg:=s30 _ _ eg;replace em2:=s30 _ _ em2;replace em3:=s30 _ _ em3;replace et2:=s30 _ _ et2;replace esa:=s30 _ _ esa;replace eb1:=s30 _ _ eb1;replace eo1:=s30 _ _ eo1;replace ro:=λj p y a b=>s30 _ _ (ro j p y a b);replace rb:=λj p y a b=>s30 _ _ (rb j p y a b);clear s30;clear u30 nen hnn;have all:∀p∈[m0,m1,m2,m3]++os++bs,∃ts,H30 p=some (.tup (numsV ts)):=by
   intro p hp;rcases List.mem_append.mp hp with hp|hp
   ·rcases List.mem_append.mp hp with hp|hp
    ·simp only[List.mem_cons,List.not_mem_nil,or_false] at hp
     rcases hp with rfl|rfl|rfl|rfl
     ·exact⟨_,em0⟩
     ·exact⟨_,em1⟩
     ·exact⟨_,em2⟩
     ·exact⟨_,em3⟩
    ·exact c1i lo ro p hp
   ·exact c1i lb rb p hp
  fail "";have facts:(∃y,a7y x y)->((∀y∈t0,a2h y)/\(∀y∈t2,a2h y)/\(∀y∈t4,a2h y)/\(∀y∈t5,a2h y)/\b1v (Txt.join " " t6)/\b1v (Txt.join " " t7))/\(a4v gtn/\a2h god/\a2h gpt)/\a4v ttn/\a4v tfi/\a2h tnu/\a2h tle:=by
   rintro⟨y,_,_,_,_,_,_,_,_,e,⟨_,a0,b0,_⟩,⟨_,_,_,_,a1,⟨_,a2,b2,_⟩,w1,w2,w3,_⟩,⟨_,_,_,_,_,a3,⟨_,a4,b4,_⟩,⟨_,a5,b5,_⟩,x1,x2,x3,x4,_⟩,⟨_,a6,b6,_⟩,⟨_,a7,b7,_⟩,_⟩;rw[et] at e;cases e;rw[h0] at a0;cases a0;rw[h1] at a1;cases a1;rw[h2] at a2;cases a2;rw[h3] at a3;cases a3;rw[h4] at a4;cases a4;rw[h5] at a5;cases a5;rw[h6] at a6;cases a6;rw[h7] at a7;cases a7;exact⟨⟨b0,b2,b4,b5,b6,b7⟩,⟨w1,w2,w3⟩,x1,x2,x3,x4⟩
  refine c7f (ps:=[m0,m1,m2,m3]++os++bs) e29 (λa ha=>?_) ?_
  ·obtain⟨ts,ea⟩:=all a ha
   exact c8i (hne a ha) ea enn
  generalize c:([m0,m1,m2,m3]++os++bs).any (badB H30)=bb;have ci:bb=true ↔ ∃a∈[m0,m1,m2,m3]++os++bs,H30 a=some (.tup [.non]):=by
   rw[<- c];exact c8m
  have okI:bb=false->((∀y∈t0,a2h y)/\(∀y∈t2,a2h y)/\(∀y∈t4,a2h y)/\(∀y∈t5,a2h y)/\b1v (Txt.join " " t6)/\b1v (Txt.join " " t7)):=by
   intro eb;have no:∀a∈[m0,m1,m2,m3]++os++bs,H30 a≠some (.tup [.non]):=λa ha z=>by rw[ci.mpr ⟨a,ha,z⟩] at eb;cases eb
   have cl:∀{p:Prop},¬ ¬ p->p:=Classical.byContradiction;exact⟨cl λz=>no m0 (by simp) ((a4a em0).mpr z),cl λz=>no m1 (by simp) ((a4a em1).mpr z),cl λz=>no m2 (by simp) ((a4a em2).mpr z),cl λz=>no m3 (by simp) ((a4a em3).mpr z),cl λz=>by
     obtain⟨p,hp,e⟩:=(b5y lo ro).mpr z;exact no p (List.mem_append_left _ (List.mem_append_right _ hp)) e,cl λz=>by
     obtain⟨p,hp,e⟩:=(b5y lb rb).mpr z;exact no p (List.mem_append_right _ hp) e⟩
  have badI:bb=true->¬ ∃y,a7y x y:=by
   intro eb y;obtain⟨⟨f0,f2,f4,f5,f6,f7⟩,_⟩:=facts y;obtain⟨a,ha,e⟩:=ci.mp eb;rcases List.mem_append.mp ha with ha|ha
   ·rcases List.mem_append.mp ha with ha|ha
    ·simp only[List.mem_cons,List.not_mem_nil,or_false] at ha
     rcases ha with rfl|rfl|rfl|rfl
     ·exact(a4a em0).mp e f0
     ·exact(a4a em1).mp e f2
     ·exact(a4a em2).mp e f4
     ·exact(a4a em3).mp e f5
    ·exact(b5y lo ro).mp ⟨a,ha,e⟩ f6
   ·exact(b5y lb rb).mp ⟨a,ha,e⟩ f7
  clear c ci all hne;cases bb with
  | true=>
   fail "";exact kn (badI rfl) _ s04
  | false=>
  obtain⟨f0,f2,f4,f5,f6,f7⟩:=okI rfl;clear badI okI;fail "";by_cases hg:a2h god/\a2h gpt
  rotate_left
  ·rw[d2j hg,y6]
   refine a0u (λ_=>?_) (λz=>absurd (show(4:Int)=5 from z) ↑5);fail "";exact kn (λy=>hg ⟨(facts y).2.1.2.1,(facts y).2.1.2.2⟩) _ s04
  rw[d2h hg] at eg ⊢;rw[y6];refine a0u (λz=>absurd rfl z) (λ_=>?_);fail "";by_cases hk:a2h tnu/\a2h tle
  rotate_left
  ·rw[d2j hk,y6]
   refine a0u (λ_=>?_) (λz=>absurd (show(6:Int)=7 from z) ↑5);fail "";exact kn (λy=>hk ⟨(facts y).2.2.2.2.1,(facts y).2.2.2.2.2⟩) _ s04
  rw[d2h hk] at et2 ⊢;rw[y6];refine a0u (λz=>absurd rfl z) (λ_=>?_);fail "";refine⟨by show 3<=sizeLine;lia,λl31 hl31=>?_⟩
  generalize u31:upd H30 l31 _=H31;obtain⟨s31,e31⟩:=nwS u31 hl31;replace s04:=s04.trans s31;refine⟨l31,_,rfl,.inl (SqL.of e31),rfl,?_,?_⟩
  ·show(a3g (turnV gtn) && (a3g (turnV ttn) && (a3g (turnV tfi) && true)))=true
   rw[b0d,b0d,b0d]
   rfl
  rw[if_neg ↑5];have b3:=d8p gtn ttn tfi;generalize inV (.str "bad") [turnV gtn,turnV ttn,turnV tfi]=b at b3 ⊢;cases b with
  | true=>
   fail "";exact kn (λy=>b3.mp rfl ⟨(facts y).2.1.1,(facts y).2.2.1,(facts y).2.2.2.1⟩) _ s04
  | false=>
  obtain⟨w1,w2,w3⟩:a4v gtn/\a4v ttn/\a4v tfi:=Classical.byContradiction λz=>by cases b3.mpr z
  have tr:∀{y:Str},a4v y->turnV y=(turnR y).v:=λh=>by unfold turnV;rw[if_pos h]
  rw[tr w1] at eg;rw[tr w2,tr w3] at et2;rw[a8z f0] at em0;rw[a8z f2] at em1;rw[a8z f4] at em2;rw[a8z f5] at em3;fail "";refine k ⟨(t0.map rd).length / 4-1,t0.map rd,⟨gst,turnR gtn,t2.map rd,rd god,rd gpt⟩,⟨tst,turnR ttn,t4.map rd,turnR tfi,rd tnu,rd tle,t5.map rd⟩,ordR (Txt.join " " t6),ordR (Txt.join " " t7)⟩ ⟨r0,r1,r2,r3,r4,r5,r6,r7,et,⟨t0,h0,f0,rfl⟩,⟨gst,gtn,god,gpt,h1,⟨t2,h2,f2,rfl⟩,w1,hg.1,hg.2,rfl,rfl,rfl,rfl⟩,⟨tst,ttn,tfi,tnu,tle,h3,⟨t4,h4,f4,rfl⟩,⟨t5,h5,f5,rfl⟩,w2,w3,hk.1,hk.2,rfl,rfl,rfl,rfl,rfl⟩,⟨t6,h6,f6,rfl⟩,⟨t7,h7,f7,rfl⟩,rfl⟩ sa H31 s04 ?_;have oo:OrdV H30 oa (Txt.join " " t6):=⟨os,eo1,lo,ro⟩;have ob:OrdV H30 ba (Txt.join " " t7):=⟨bs,eb1,lb,rb⟩;exact⟨m0,gv,tv,oa,ba,s31 _ _ esa,s31 _ _ em0,⟨m1,s31 _ _ eg,s31 _ _ em1⟩,⟨m2,m3,s31 _ _ et2,s31 _ _ em2,s31 _ _ em3⟩,(oo.tts f6).same s31,(ob.tts f7).same s31⟩
theorem b5a{H:Hp}{n:Nat}{p q:Addr}{xs ys:List V}(hp:H p=some (.tup xs))(hq:H q=some (.tup ys))(hl:xs.length=ys.length)(h:∀(j:Nat) (x y:V),xs[j]?=some x->ys[j]?=some y->EqD K H n x y true):EqD K H (n+1) (.ref p) (.ref q) true:=by
 by_cases z:p=q
 ·subst z
  exact EqD.self (SqT.of hp)
 ·have:=EqD.tup (K:=K) (e:=λ_=>true) z (SqT.of hp) (SqT.of hq) h
  rw[hl,show((List.range (min ys.length ys.length)).all (λ_=>true) && ys.length == ys.length)=true by simp] at this
  exact this
theorem c3i{H:Hp}{n:Nat}{x:V}(f:a3g x=true)(e:eqV x x=true):EqD K H n x x true:=by
 have:=EqD.flat (K:=K) (H:=H) (n:=n) f f
 rwa [e] at this
theorem c3j{H:Hp}{n:Nat}(i:Int):EqD K H n (.int i) (.int i) true:=c3i rfl (by show(i == i)=true;simp)
theorem d4k{H:Hp}{n:Nat}(i:Str):EqD K H n (.str i) (.str i) true:=c3i rfl (by show(i == i)=true;simp)
theorem d1l{H:Hp}{n:Nat}(i:Hr):EqD K H n i.v i.v true:=by
 cases i
 ·exact c3i rfl rfl
 ·exact c3j _
theorem b8t{H:Hp}{n:Nat}{p q:Addr}{ns:List Int}(hp:H p=some (.tup (ns.map V.int)))(hq:H q=some (.tup (ns.map V.int))):EqD K H (n+1) (.ref p) (.ref q) true:=b5a hp hq rfl λj x y hx hy=>by
 rw[hx] at hy;cases hy;rw[List.getElem?_map] at hx;cases e:ns[j]? with
 | none=>rw[e] at hx;cases hx
 | some i=>rw[e] at hx;cases hx;exact c3j _
theorem c9l{H:Hp}{n:Nat}{p q:Addr}{os:List (List Int)}(hp:TTs H p os)(hq:TTs H q os):EqD K H (n+2) (.ref p) (.ref q) true:=by
 obtain⟨ps,e,l,r⟩:=hp;obtain⟨qs,e',l',r'⟩:=hq;refine b5a e e' (by rw[List.length_map,List.length_map,l,l']) λj x y hx hy=>?_
 rw[List.getElem?_map] at hx hy;cases ea:ps[j]? with
 | none=>rw[ea] at hx;cases hx
 | some a=>
  cases eb:qs[j]? with
  | none=>rw[eb] at hy;cases hy
  | some b=>
   rw[ea] at hx;rw[eb] at hy;cases hx;cases hy;have hj:j<os.length:=by rw[<- l];exact(List.getElem?_eq_some_iff.mp ea).1
   exact b8t (r j a _ ea (List.getElem?_eq_getElem hj)) (r' j b _ eb (List.getElem?_eq_getElem hj))
theorem c9m{H:Hp}{p q:Addr}{x:Sd}(hp:ST H p x)(hq:ST H q x):EqD K H 3 (.ref p) (.ref q) true:=by
 obtain⟨c,g,t,o,b,e,e1,⟨m,g1,g2⟩,⟨m1,pa,t1,t2,t3⟩,e4,e5⟩:=hp;obtain⟨c',g',t',o',b',e',e1',⟨m',g1',g2'⟩,⟨m1',pa',t1',t2',t3'⟩,e4',e5'⟩:=hq;refine b5a e e' rfl λj x y hx hy=>?_
 match j,hx,hy with
 | 0,hx,hy=>cases hx;cases hy;exact b8t e1 e1'
 | 1,hx,hy=>
  cases hx;cases hy;refine b5a g1 g1' rfl λj x y hx hy=>?_
  match j,hx,hy with
  | 0,hx,hy=>cases hx;cases hy;exact d4k _
  | 1,hx,hy=>cases hx;cases hy;exact d1l _
  | 2,hx,hy=>cases hx;cases hy;exact b8t g2 g2'
  | 3,hx,hy=>cases hx;cases hy;exact c3j _
  | 4,hx,hy=>cases hx;cases hy;exact c3j _
 | 2,hx,hy=>
  cases hx;cases hy;refine b5a t1 t1' rfl λj x y hx hy=>?_
  match j,hx,hy with
  | 0,hx,hy=>cases hx;cases hy;exact d4k _
  | 1,hx,hy=>cases hx;cases hy;exact d1l _
  | 2,hx,hy=>cases hx;cases hy;exact b8t t2 t2'
  | 3,hx,hy=>cases hx;cases hy;exact d1l _
  | 4,hx,hy=>cases hx;cases hy;exact c3j _
  | 5,hx,hy=>cases hx;cases hy;exact c3j _
  | 6,hx,hy=>cases hx;cases hy;exact b8t t3 t3'
 | 3,hx,hy=>cases hx;cases hy;exact c9l e4 e4'
 | 4,hx,hy=>cases hx;cases hy;exact c9l e5 e5'
theorem b5o{r v:Str}{a b:List Int}(x:RowR r v a)(y:RowR r v b):a=b:=by
 obtain⟨t,e,_,rfl⟩:=x;obtain⟨t',e',_,rfl⟩:=y;rw[e] at e';rw[(List.cons.inj e').2]
theorem b4u{r v:Str}{a b:List (List Int)}(x:OrdRow r v a)(y:OrdRow r v b):a=b:=by
 obtain⟨t,e,_,rfl⟩:=x;obtain⟨t',e',_,rfl⟩:=y;rw[e] at e';rw[(List.cons.inj e').2]
theorem d1c{r m:Str}{a b:GSd}(x:d2a r m a)(y:d2a r m b):a=b:=by
 obtain⟨st,tn,o,p,e,rm,_,_,_,a1,a2,a3,a4⟩:=x;obtain⟨st',tn',o',p',e',rm',_,_,_,b1,b2,b3,b4⟩:=y;rw[e] at e';cases e';have ms:=b5o rm rm';cases a;cases b;simp only at a1 a2 a3 a4 b1 b2 b3 b4 ms;subst a1 a2 a3 a4 b1 b2 b3 b4 ms
 rfl
theorem c9z{r m q:Str}{a b:TSd}(x:d1z r m q a)(y:d1z r m q b):a=b:=by
 obtain⟨st,tn,fi,nu,le,e,rm,rq,_,_,_,_,a1,a2,a3,a4,a5⟩:=x;obtain⟨st',tn',fi',nu',le',e',rm',rq',_,_,_,_,b1,b2,b3,b4,b5⟩:=y;rw[e] at e';cases e';have ms:=b5o rm rm';have ps:=b5o rq rq';cases a;cases b;simp only at a1 a2 a3 a4 a5 b1 b2 b3 b4 b5 ms ps;subst a1 a2 a3 a4 a5 b1 b2 b3 b4 b5 ms ps
 rfl
theorem a7g{s:Str}{x y:Sd}(a:a7y s x)(b:a7y s y):x=y:=by
 obtain⟨_,_,_,_,_,_,_,_,e,a0,a1,a2,a3,a4,a5⟩:=a;obtain⟨_,_,_,_,_,_,_,_,e',b0,b1,b2,b3,b4,b5⟩:=b;rw[e] at e';cases e';have c0:=b5o a0 b0;have c1:=d1c a1 b1;have c2:=c9z a2 b2;have c3:=b4u a3 b3;have c4:=b4u a4 b4;cases x;cases y;simp only at c0 c1 c2 c3 c4 a5 b5;subst c0 c1 c2 c3 c4 a5 b5
 rfl
theorem d1x{H H':Hp}{p:Addr}(h:H' p=none)(s:Same H H'):Same H H':=s
structure Kd(K:Frag)(cl:Cl)(C:Addr)(n b:Bool):Prop where
 k:ExK K C
 x:exmOne K (.ref C) (.ref cl.RingError)=some true
 N:kitOne K (.ref C) (.ref cl.NoText)=some n
 B:kitOne K (.ref C) (.ref cl.BadStand)=some b
 V:kitOne K (.ref C) (.type "ValueError")=some true
 s9:PySem.W.kitAny K (.ref C) [.ref cl.BadCells,.ref cl.BadMark,.ref cl.BadOrder,.ref cl.BadSize,.ref cl.Crooked,.ref cl.NoCell,.ref cl.NoHand,.ref cl.NoName,.ref cl.NoRow,.ref cl.NotSound]=some false
 t4:PySem.W.kitAny K (.ref C) [.ref cl.NoTurn,.ref cl.NoWaiting,.ref cl.TooMany]=some false
def b1c(cl:Cl):Sp:=λvs H Q _=>∃t:Str,vs=[.str t]/\t.length<=90000 /\
 (∀x,a7y t x->b0a x->∀tp kk p H',H tp=none->H kk=none->Same H H'->H' tp=some (.tup [.ref kk,.ref p])->H' kk=some (.lst [])->ST H' p x->Q (.ref tp) H') /\
 (∀x,a7y t x->¬ b0a x->∀tp kk H',H tp=none->H kk=none->Same H H'->H' tp=some (.tup [.ref kk,.non])->H' kk=some (.lst ([false,true,true,false].map V.bl))->Q (.ref tp) H') /\
 ((¬ ∃x,a7y t x)->∀tp kk H',H tp=none->H kk=none->Same H H'->H' tp=some (.tup [.ref kk,.non])->H' kk=some (.lst ([true,false,true,false].map V.bl))->Q (.ref tp) H')
abbrev a8u:Stmt:=top 104
theorem a1h:j3 ["text","kinds","told","e","some"] ["text"] (g7 a8u):=↑1
theorem b8k(D:DefT K mg "_law_asked" a8u ["text"])(T:Txt K mg cl)(kdB:Kd K cl cl.BadStand false true)(kdN:Kd K cl cl.NoText true false)(G_stand_read:FnT P w K mg base "stand_read" 8 ["text"] (a9f cl)):FnT P w K mg base "_law_asked" 9 ["text"] (b1c cl):=by
 refine D.fn a1h (λvs H Q E h=>?_) ↑2
 ·obtain⟨t,rfl,_⟩:=h
  rfl
 ·obtain⟨t,rfl,hl,k,kb,kn⟩:=h
  refine'⟨_,(d6 (i7 (i:=1) a1h.nd rfl (by first|exact Or.inl rfl|exact Or.inr rfl) (m5 d5))
   (d6 (i7 (i:=2) a1h.nd rfl (by first|exact Or.inl rfl|exact Or.inr rfl) a1i)
   (d6 (c7h (i:=3) rfl rfl rfl rfl T.c_RingError.m a1h.nd rfl rfl ?tb ?th)
   (f8 (i5 (a0k (d4 (pv 1) (d4 (pv 2) d5)))))))),?rd⟩
  case tb=>exact λ_ _ _ hx=>(f8 (i7 (i:=2) a1h.nd rfl (by first|exact Or.inl rfl|exact Or.inr rfl) (c1d G_stand_read hr ↑5 rfl hx (d4 (pv 0) d5))))
  case th=>exact λ_ _=>(d6 (i7 (i:=4) a1h.nd rfl (by first|exact Or.inl rfl|exact Or.inr rfl) (i6 (b5d (K:=K)) (by rfl) T.z_isinstance PyProof.Rows.boot_isinstance (d4 (pv 3) (d4 (a0k (d4 (a8y T.c_BadCells rfl) (d4 (a7j T.c_BadMark rfl) (d4 (a8y T.c_BadOrder rfl) (d4 (a8y T.c_BadSize rfl) (d4 (a7j T.c_Crooked rfl) (d4 (a7j T.c_NoCell rfl) (d4 (a8y T.c_NoHand rfl) (d4 (a7j T.c_NoName rfl) (d4 (a7j T.c_NoRow rfl) (d4 (a7j T.c_NotSound rfl) d5))))))))))) d5))))
     (d6 (i7 (i:=1) a1h.nd rfl (by first|exact Or.inl rfl|exact Or.inr rfl) (m5 (d4 (i6 (b3x (K:=K)) (by rfl) T.z_isinstance PyProof.Rows.boot_isinstance (d4 (pv 3) (d4 (a8y T.c_NoText rfl) d5))) (d4 (i6 (b3x (K:=K)) (by rfl) T.z_isinstance PyProof.Rows.boot_isinstance (d4 (pv 3) (d4 (a8y T.c_BadStand rfl) d5))) (d4 (i6 (b3x (K:=K)) (by rfl) T.z_isinstance PyProof.Rows.boot_isinstance (d4 (pv 3) (d4 (d3c T.z_ValueError d1q rfl) d5))) d5)))))
     (f8 (a1q (a5a (K:=K) (pv 1) (d4 (c7k (pv 4) (a1p (i6 (b5d (K:=K)) (by rfl) T.z_isinstance PyProof.Rows.boot_isinstance (d4 (pv 3) (d4 (a0k (d4 (a8y T.c_NoTurn rfl) (d4 (a7j T.c_NoWaiting rfl) (d4 (a7j T.c_TooMany rfl) d5)))) d5))))) d5))))))
  fail "";refine⟨Nat.zero_le _,λk0 hk0=>?_⟩;fail "";refine⟨t,rfl,hl,λx rx g p H2 s2 e2=>?_,λx rx ng o H2 s2=>?_,λnt H2 s2=>?_⟩
  ·fail ""
   refine⟨by show 2<=sizeLine;decide,λtp htp=>?_⟩
   have s0:Same H H2:=(d9 hk0).trans s2;exact k x rx g tp k0 p _ (s0.free htp) hk0 (s0.trans (d9 htp)) d8 (d9 htp _ _ (s2 _ _ d8)) (e2.same (d9 htp))
  ·have kd:=kdB
   have kk:=kb x rx ng;clear k kb kn kdB kdN rx ng;refine⟨kd.x,λe he=>?_⟩;fail "";refine⟨by show 10<=sizeLine;decide,λt8 ht8=>?_⟩
   have ne8:e≠t8:=g9 d8 ht8;fail "";refine c1v ((j4 ne8).trans d8) kd.k d8 rfl kd.s9 ?_;fail "";refine c3f (.exc ((j4 ne8).trans d8) kd.k) rfl kd.N ?_;fail "";refine c3f (.exc ((j4 ne8).trans d8) kd.k) rfl kd.B ?_;fail "";refine c3f (.exc ((j4 ne8).trans d8) kd.k) rfl kd.V ?_;fail "";refine⟨by show 3<=sizeLine;decide,λq hq=>?_⟩
   have ne:e≠q:=g9 ((j4 ne8).trans d8) hq;fail "";refine⟨by show 3<=sizeLine;decide,λt6 ht6=>?_⟩
   have ne6:e≠t6:=g9 ((j4 ne).trans ((j4 ne8).trans d8)) ht6;have nq6:q≠t6:=g9 d8 ht6;fail "";refine c1v ((j4 ne6).trans ((j4 ne).trans ((j4 ne8).trans d8))) kd.k d8 rfl kd.t4 ?_;fail "";refine⟨by show 2<=sizeLine;decide,λtp htp=>?_⟩
   have s0:Same H H2:=(d9 hk0).trans s2;have s1:=d1x hq ((s0.trans (d9 he)).trans (d9 ht8));have hq0:H q=none:=s1.free hq;have s3:=d1x ht6 (s1.trans (d9 hq));have s4:=d1x htp ((s3.trans (d9 ht6)).set hq0);refine kk tp q _ (s4.free htp) hq0 (s4.trans (d9 htp)) d8 ?_;rw[j4 (g9 d8 htp),d8]
   rfl
  ·have kd:=kdN
   have kk:=kn nt;clear k kb kn kdB kdN nt;refine⟨kd.x,λe he=>?_⟩;fail "";refine⟨by show 10<=sizeLine;decide,λt8 ht8=>?_⟩
   have ne8:e≠t8:=g9 d8 ht8;fail "";refine c1v ((j4 ne8).trans d8) kd.k d8 rfl kd.s9 ?_;fail "";refine c3f (.exc ((j4 ne8).trans d8) kd.k) rfl kd.N ?_;fail "";refine c3f (.exc ((j4 ne8).trans d8) kd.k) rfl kd.B ?_;fail "";refine c3f (.exc ((j4 ne8).trans d8) kd.k) rfl kd.V ?_;fail "";refine⟨by show 3<=sizeLine;decide,λq hq=>?_⟩
   have ne:e≠q:=g9 ((j4 ne8).trans d8) hq;fail "";refine⟨by show 3<=sizeLine;decide,λt6 ht6=>?_⟩
   have ne6:e≠t6:=g9 ((j4 ne).trans ((j4 ne8).trans d8)) ht6;have nq6:q≠t6:=g9 d8 ht6;fail "";refine c1v ((j4 ne6).trans ((j4 ne).trans ((j4 ne8).trans d8))) kd.k d8 rfl kd.t4 ?_;fail "";refine⟨by show 2<=sizeLine;decide,λtp htp=>?_⟩
   have s0:Same H H2:=(d9 hk0).trans s2;have s1:=d1x hq ((s0.trans (d9 he)).trans (d9 ht8));have hq0:H q=none:=s1.free hq;have s3:=d1x ht6 (s1.trans (d9 hq));have s4:=d1x htp ((s3.trans (d9 ht6)).set hq0);refine kk tp q _ (s4.free htp) hq0 (s4.trans (d9 htp)) d8 ?_;rw[j4 (g9 d8 htp),d8]
   rfl
end
theorem a5v{v:Str}{ns:List Int}{m:Nat}(lv:v.length<=10)(l:ns.length<=m)(h:b4r ns):(a3f v ns).length<=11+62*m:=by
 unfold a3f;have:=a3a t9 (v::ns.map a2q);rw[y0] at this;have:=b0b h;lia
theorem b4t{os:List (List Int)}(h:a7r os)(l:os.length<=5):(ordT os).length<=5010:=by
 unfold ordT;split
 ·decide
 ·have:=c1o a2t (os.map b6v)
  have:=c1h h;lia
theorem b3o{n:Nat}{st:Str}{mk:List Int}(n8:n<=8)(h:a2y n st mk):mk.length<=8:=by
 unfold a2y at h;split at h
 ·lia
 ·subst h;exact Nat.zero_le _
theorem b9u{n:Nat}{t:TSd}(n8:n<=8)(h:a5b n t):t.pa.length<=8:=by
 unfold a5b at h;split at h
 ·rw[h];exact Nat.zero_le _
 ·obtain⟨i,j,_,_,h1,h2⟩:=h
  split at h1
  ·rw[h1];exact Nat.zero_le _
  ·lia
theorem c6w{x:Sd}(g:b0a x)(tn:c9s x)(lo:x.os.length<=5)(lb:x.bk.length<=5):(standT x).length<=15000:=by
 have n8:=g.c.n8;have lc:x.c.length<=36:=by
  have:=g.c.len;lia
 have q1:=tn.gs;have q2:=a1x tn.gh;have q3:=a1a tn.go;have q4:=a1a tn.gp;have q5:=tn.ts;have q6:=a1x tn.th;have q7:=a1x tn.tf;have q8:=a1a tn.tn;have q9:=a1a tn.te;have c0:Str.empty.length=0:=rfl;have c1:("giver ":Str).length=6:=rfl;have c2:("taker ":Str).length=6:=rfl;have c3:(" ":Str).length=1:=rfl;have c4:("orders ":Str).length=7:=rfl;have c5:("book ":Str).length=5:=rfl;have o1:=b4t tn.os lo;have o2:=b4t tn.bk lb;have w1:=a5v (v:="cells") ↑5 lc tn.c;have w2:=a5v (v:="marks") ↑5 (b3o n8 g.g.mf) tn.gm;have w3:=a5v (v:="marks") ↑5 (b3o n8 g.t.mf) tn.tm;have w4:=a5v (v:="parts") ↑5 (b9u n8 g.t.pf) tn.tp;have w5:(c1s x.g).length<=300:=by
  rw[<- c1r];simp only[Str.length_append];lia
 have w6:(c2r x.t).length<=400:=by
  rw[<- c0u];simp only[Str.length_append];lia
 have j:=a3a b1k (rowsS x);unfold standT;refine Nat.le_trans j ?_;unfold rowsS;simp only[y0,b0s,Str.length_append];lia
section
variable{P:Program}{w:World}{K:Frag}{mg:Str->Option Value}{base:Heap}{cl:Cl}
theorem b6t(x:Str)(lo hi:Option Int):(b0q x lo hi).length<=x.length:=by
 unfold b0q;split
 ·exact Nat.le_refl _
 ·rw[y7]
  refine Nat.le_trans (List.length_filterMap_le _ _) ?_;exact sliceIndices_le _ _ _
theorem a7q{ss:List Str}{r:Int}(h0:0<=r)(h1:r<ss.length):∃(i:Nat)(hi:i<ss.length),r=i/\atI (ss.map V.str) r=some (.str ss[i]):=by
 refine⟨r.toNat,by lia,by lia,?_⟩
 unfold atI ixN;rw[if_pos h0,if_pos (by rw[List.length_map];exact h1)]
 show(ss.map V.str)[r.toNat]?=_;rw[List.getElem?_map,List.getElem?_eq_getElem (by lia)]
 rfl
theorem c9v{ss:List Str}{i:Nat}(h:i<ss.length):wt (ss.take i)+(ss[i].length+1)+wt (ss.drop (i+1))=wt ss:=by
 have e:wt ss=wt (ss.take i++ss.drop i):=by rw[List.take_append_drop]
 rw[e,a4x,List.drop_eq_getElem_cons h,y0];lia
theorem b9k{ss:List Str}{i:Nat}{x:Str}(h:i<ss.length):wt (ss.set i x)+ss[i].length=wt ss+x.length:=by
 rw[List.set_eq_take_append_cons_drop,if_pos h,a4x,y0,<- c9v h];lia
theorem d4o{ss:List Str}{i:Nat}(h:i<=ss.length):b6s (ss.map V.str) none (some (i:Int))=(ss.take i).map V.str:=by
 unfold b6s;rw[HT.sIx_nat,HT.sIx_none,List.length_map,Nat.min_eq_left h,List.drop_zero,Nat.sub_zero,List.map_take]
theorem c6f{ss:List Str}{i:Nat}(h:i<ss.length):b6s (ss.map V.str) (some ((i:Int)+1)) none=(ss.drop (i+1)).map V.str:=by
 unfold b6s;rw[show(i:Int)+1=((i+1:Nat):Int) by lia,HT.sIx_nat,HT.sIx_none,List.length_map,Nat.min_eq_left h,List.map_drop]
 exact List.take_of_length_le (by rw[List.length_drop,List.length_map];lia)
theorem c0z(n:Nat)(x:Str):(List.replicate n [V.str x]).flatten=(List.replicate n x).map V.str:=by
 induction n with
 | zero=>rfl
 | succ n ih=>rw[List.replicate_succ,List.replicate_succ,List.flatten_cons,List.map_cons,ih];rfl
theorem c8p(n:Nat)(x:Str):wt (List.replicate n x)=n*(x.length+1):=by
 induction n with
 | zero=>rw[Nat.zero_mul];rfl
 | succ n ih=>rw[List.replicate_succ,y0,ih,Nat.succ_mul];lia
theorem But.set{w p:Addr}{H0 H:Hp}{o:HO}(s:But w H0 H)(n:H0 p=none):But w H0 (L2.upd H p o):=λb u e ne=>by rw[j4 (g9 e n)];exact s b u e ne
theorem Well.set{w p:Addr}{H:Hp}{o:HO}(h:Well H w)(n:p≠w):Well (L2.upd H p o) w:=let ⟨a,b,c,e,q⟩:=h;⟨a,b,c,(j4 n.symm).trans e,q⟩
theorem d1s{α:Type}{xs:List α}{r:Int}(h0:0<=r)(h1:r<xs.length):∃c,atI xs r=some c:=by
 refine⟨xs[r.toNat],?_⟩;unfold atI ixN;rw[if_pos h0,if_pos h1];show xs[r.toNat]?=_;rw[List.getElem?_eq_getElem (by lia)]
theorem c0h{n i:Nat}(h:i<n):ixN n (i:Int)=some i:=by
 unfold ixN;rw[if_pos (by lia),if_pos (by lia)]
 rfl
theorem d1r{as:List Addr}{r:Int}(h0:0<=r)(h1:r<as.length):∃a∈as,atI (as.map V.ref) r=some (.ref a):=by
 have hl:r.toNat<as.length:=by lia
 refine⟨as[r.toNat],List.getElem_mem hl,?_⟩;unfold atI ixN;rw[if_pos h0,if_pos (by rw[List.length_map];exact h1)]
 show(as.map V.ref)[r.toNat]?=_;rw[List.getElem?_map,List.getElem?_eq_getElem hl]
 rfl
theorem Well.noStr{H:Hp}{w a:Addr}{ss:List Str}(h:Well H w)(e:H a=some (.lst (ss.map V.str))):a≠w:=by
 rintro rfl;obtain⟨_,_,_,e',_⟩:=h;rw[e] at e';cases ss with
 | nil=>cases e'
 | cons x r=>cases e'
def a9g:Sp:=λvs H Q _=>∃(wl:Addr)(t:Str),vs=[.ref wl,.str t]/\Well H wl/\t.length<=50000/\∀(t':Str) H',t'.length<=2*t.length+200->Well H' wl->But wl H H'->Q (.str t') H'
abbrev a6y:Stmt:=top 103
theorem x8:j3 ["well","text","signs","at","way","rows","k","other","words","some","word","new"] ["well","text"] (g7 a6y):=↑1
theorem b6e(D:DefT K mg "_law_spoilt" a6y ["well","text"])(T:Txt K mg cl)(G_law_take:FnT P w K mg base "_law_take" 1 ["well","many"] a1g):FnT P w K mg base "_law_spoilt" 2 ["well","text"] a9g:=by
 refine D.fn x8 (λvs H Q E h=>?_) ↑2
 ·obtain⟨wl,t,rfl,_⟩:=h
  rfl
 ·obtain⟨wl,t,rfl,hw,lt,k⟩:=h
  refine⟨_,(d6 (i7 (i:=2) x8.nd rfl (by first|exact Or.inl rfl|exact Or.inr rfl) f9)
   (d6 (i7 (i:=3) x8.nd rfl (by first|exact Or.inl rfl|exact Or.inr rfl) (j5 G_law_take hr ↑5 rfl k7 (d4 (pv 0) (d4 (j8 a0y (i6 a1l (by rfl) T.z_len PySem.boot_len (d4 (pv 1) d5)) d7) d5))))
   (d6 (i7 (i:=4) x8.nd rfl (by first|exact Or.inl rfl|exact Or.inr rfl) ↑4)
   (d6 (v9 (g6 a1k (pv 4) d7 (i3 _))
     (f8 (i5 (j8 b0o (j8 b0o (z8 b1f (pv 1) a0p (a0e (pv 3))) (o0 c9c (pv 2) (j5 G_law_take hr ↑5 rfl k7 (d4 (pv 0) (d4 (i6 a1l (by rfl) T.z_len PySem.boot_len (d4 (pv 2) d5)) d5))) (λ_ _=>rfl))) (z8 b1f (pv 1) (a0e (j8 a0y (pv 3) ↑4)) a0p))))
     i9)
   (d6 (v9 (g6 a1k (pv 4) d7 (i3 _))
     (f8 (i5 (j8 b0o (z8 b1f (pv 1) a0p (a0e (pv 3))) (z8 b1f (pv 1) (a0e (j8 a0y (pv 3) d7)) a0p))))
     i9)
   (d6 (i7 (i:=5) x8.nd rfl (by first|exact Or.inl rfl|exact Or.inr rfl) (a1v (K:=K) (pv 1) (d4 f9 d5)))
   (d6 (i7 (i:=6) x8.nd rfl (by first|exact Or.inl rfl|exact Or.inr rfl) (j5 G_law_take hr ↑5 rfl k7 (d4 (pv 0) (d4 (i6 (j2 (K:=K)) (by rfl) T.z_len PySem.boot_len (d4 (pv 5) d5)) d5))))
   (d6 (v9 (g6 a1k (pv 4) d7 (i3 _))
     (f8 (i5 (a1f (K:=K) f9 (d4 (j8 a2b (j8 a2b (z8 (a1m (K:=K)) (pv 5) a0p (a0e (pv 6))) (j8 c4z (m5 (d4 (o0 (i8 (K:=K)) (pv 5) (pv 6) (λ_ _=>rfl)) d5)) (j8 a0q d7 ↑4))) (z8 (a1m (K:=K)) (pv 5) (a0e (j8 a0y (pv 6) d7)) a0p)) d5))))
     i9)
   (d6 (v9 (g6 a1k (pv 4) d7 (i3 _))
     (
     d6 (i7 (i:=7) x8.nd rfl (by first|exact Or.inl rfl|exact Or.inr rfl) (j5 G_law_take hr ↑5 rfl k7 (d4 (pv 0) (d4 (i6 (j2 (K:=K)) (by rfl) T.z_len PySem.boot_len (d4 (pv 5) d5)) d5))))
     (d6 (a3e (a0k (d4 (o0 (i8 (K:=K)) (pv 5) (pv 7) (λ_ _=>rfl)) (d4 (o0 (i8 (K:=K)) (pv 5) (pv 6) (λ_ _=>rfl)) d5))) (a3s (K:=K) rfl (i4 (b7r (pv 5) (pv 6) a9l) (i4 (b7r (pv 5) (pv 7) a9l) a2o))))
     (f8 (i5 (a1f (K:=K) f9 (d4 (pv 5) d5))))))
     i9)
   (d6 (i7 (i:=8) x8.nd rfl (by first|exact Or.inl rfl|exact Or.inr rfl) (a1v (K:=K) (o0 (i8 (K:=K)) (pv 5) (pv 6) (λ_ _=>rfl)) (d4 f9 d5)))
   (d6 (i7 (i:=3) x8.nd rfl (by first|exact Or.inl rfl|exact Or.inr rfl) (j5 G_law_take hr ↑5 rfl k7 (d4 (pv 0) (d4 (i6 (j2 (K:=K)) (by rfl) T.z_len PySem.boot_len (d4 (pv 8) d5)) d5))))
   (@d6 _ _ _ _ _ (@i7 _ _ 9 _ _ _ _ x8.nd rfl (by first|exact Or.inl rfl|exact Or.inr rfl) (@m5 _ _ _ _ (@d4 _ _ _ _ _ f9 (@d4 _ _ _ _ _ f9 (@d4 _ _ _ _ _ f9 (@d4 _ _ _ _ _ f9 (@d4 _ _ _ _ _ f9 (@d4 _ _ _ _ _ f9 (@d4 _ _ _ _ _ f9 (@d4 _ _ _ _ _ f9 (@d4 _ _ _ _ _ f9 (@d4 _ _ _ _ _ (j8 c4y f9 d7) (@d4 _ _ _ _ _ (j8 b0o f9 (j8 c4y f9 d7)) (@d4 _ _ _ _ _ f9 (@d4 _ _ _ _ _ f9 (@d4 _ _ _ _ _ f9 (@d5 _) rfl) rfl) rfl) rfl) rfl) rfl) rfl) rfl) rfl) rfl) rfl) rfl) rfl) rfl)) (by rfl) (by first|exact .inl rfl|exact .inr rfl))
   (d6 (a1q (a5a (K:=K) (pv 9) (d4 f9 d5)))
   (d6 (i7 (i:=10) x8.nd rfl (by first|exact Or.inl rfl|exact Or.inr rfl) (o0 (i8 (K:=K)) (pv 9) (j5 G_law_take hr (by decide) rfl k7 (d4 (pv 0) (d4 d7 d5))) (λ_ _=>rfl)))
   (d6 (i7 (i:=11) x8.nd rfl (by first|exact Or.inl rfl|exact Or.inr rfl) (o0 (i8 (K:=K)) (m5 (d4 (m5 d5) (d4 (j8 c4z (m5 (d4 (o0 (i8 (K:=K)) (pv 8) (pv 3) (λ_ _=>rfl)) d5)) d7) (d4 (m5 (d4 (pv 10) d5)) (d4 (m5 (d4 (o0 (i8 (K:=K)) (pv 8) (pv 3) (λ_ _=>rfl)) (d4 (pv 10) d5))) d5))))) (j8 a0y (j8 a4i (pv 4) d7) ↑4) (λ_ _=>rfl)))
   (d6 (a3e (a1f (K:=K) f9 (d4 (j8 a2b (j8 a2b (z8 (a1m (K:=K)) (pv 8) a0p (a0e (pv 3))) (pv 11)) (z8 (a1m (K:=K)) (pv 8) (a0e (j8 a0y (pv 3) d7)) a0p)) d5)) (b7r (pv 5) (pv 6) a9l))
   (f8 (i5 (a1f (K:=K) f9 (d4 (pv 5) d5)))))))))))))))))))),?_⟩
  have lm:=a0l;fail "";refine⟨t,rfl,by lia,?_⟩
  fail "";refine⟨wl,_,rfl,hw,by lia,by lia,λat_ H1 a1 c1 w1 b1=>?_⟩
  fail "";refine⟨wl,7,rfl,w1,by decide,by decide,λway H2 a2 c2 w2 b2=>?_⟩
  have b02:=b1.trans b2;have l1:=b6t t none (some at_);fail "";rw[y6];refine x9 (λz=>?_) (λz=>?_)
  ·fail ""
   refine⟨_,rfl,?_⟩;refine b1l (by lia) ?_
   fail "";refine⟨_,rfl,by have:=a0l;exact Nat.le_trans ↑5 this,?_⟩
   fail "";refine⟨wl,_,rfl,w2,by decide,by decide,λr H3 a3 c3 w3 b3=>?_⟩
   obtain⟨c,hc⟩:=d1s (xs:=(Str.ofString " 0123456789-;\nabcdefghijklmnopqrstuvwxyz!\"#$&'()*+,./:<=>?@ABXYZ[\\]^_`{|}~").cps.toList) a3 c3;refine⟨_,_,c,rfl,rfl,by have:=a0l;exact Nat.le_trans ↑5 this,hc,?_⟩
   clear hc;refine⟨_,_,rfl,rfl,by show _+1<=_;lia,?_⟩
   fail "";refine⟨wl,2,rfl,w3,by decide,by decide,λr2 H4 a4 c4 w4 b4=>?_⟩
   fail "";refine⟨_,rfl,?_⟩;fail "";have l2:=b6t t (some (at_+r2)) none;refine b1l (by lia) ?_
   have l3:((b0q t none (some at_):Str)++(⟨#[c]⟩:Str)).length=(b0q t none (some at_)).length+1:=by rw[Str.length_append];rfl
   refine⟨_,_,rfl,rfl,by lia,?_⟩
   exact k _ _ (by rw[Str.length_append];lia) w4 ((b02.trans b3).trans b4)
  fail "";rw[y6];refine x9 (λz=>?_) (λz=>?_)
  ·fail ""
   refine⟨_,rfl,?_⟩;refine b1l (by lia) ?_
   fail "";refine⟨_,rfl,?_⟩;fail "";have l2:=b6t t (some (at_+1)) none;refine b1l (by lia) ?_
   refine⟨_,_,rfl,rfl,by lia,?_⟩
   exact k _ _ (by rw[Str.length_append];lia) w2 b02
  fail "";refine a4j rfl (by lia) (λq hq=>?_)
  have wr:=a1e (x:=t) (y:="\n") rfl;have ne0:=List.length_pos_iff.mpr (a4f t "\n");have wl0:=b0t (Txt.split t "\n");generalize Txt.split t "\n" = ss at wr ne0 wl0 ⊢;generalize u3:upd H2 q _=H3;obtain⟨s3,e3⟩:=nwS u3 hq;have w3:=w2.same s3;have b03:=b02.trans (But.of (w:=wl) s3);have nq:q≠wl:=w2.ne hq;clear u3 s3;fail "";rw[List.length_map];refine⟨wl,_,rfl,w3,by lia,by lia,λkk H4 a4 c4 w4 b4=>?_⟩
  have e4:=b4 _ _ e3 nq;have b04:=b03.trans b4;obtain⟨i,hi,rfl,g1⟩:=a7q a4 c4;have wi:=c9v hi;clear b4 b03 w3 e3;refine lit [some (.ref wl),some (.str t),some (.str _),some (.int at_),some (.int way),some (.ref q),some (.int i),none,none,none,none,none] (by rfl) ?_
  fail "";rw[y6];refine x9 (λz=>?_) (λz=>?_)
  ·fail ""
   refine⟨_,rfl,?_⟩;refine⟨q,_,rfl,SqL.of e4,λp1 hp1=>?_⟩;rw[d4o (by lia)]
   have n1:p1≠wl:=w4.ne hp1;generalize u5:upd H4 p1 _=H5;obtain⟨s5,e5⟩:=nwS u5 hp1;replace e4:=s5 _ _ e4;replace w4:=w4.same s5;replace b04:=b04.trans (But.of (w:=wl) s5);clear u5 s5 hp1;fail "";refine a4d e4 g1 ?_;fail "";refine⟨by show 1<=sizeLine;decide,λp2 hp2=>?_⟩
   have n2:p2≠wl:=w4.ne hp2;generalize u6:upd H5 p2 _=H6;obtain⟨s6,e6⟩:=nwS u6 hp2;replace e4:=s6 _ _ e4;replace e5:=s6 _ _ e5;replace w4:=w4.same s6;replace b04:=b04.trans (But.of (w:=wl) s6);clear u6 s6 hp2;fail "";refine⟨wl,2,rfl,w4,by decide,by decide,λb H7 a7 c7 w7 b7=>?_⟩
   replace e4:=b7 _ _ e4 nq;replace e5:=b7 _ _ e5 n1;replace e6:=b7 _ _ e6 n2;replace b04:=b04.trans b7;clear b7 w4;fail "";refine⟨p2,2*b,_,rfl,rfl,e6,by lia,by lia,by show 1*_<=_;lia,λp3 hp3=>?_⟩
   rw[c0z];generalize u8:upd H7 p3 _=H8;obtain⟨s8,e8⟩:=nwS u8 hp3;replace e4:=s8 _ _ e4;replace e5:=s8 _ _ e5;replace w7:=w7.same s8;replace b04:=b04.trans (But.of (w:=wl) s8);clear u8 s8 hp3 e6;have lk:((List.replicate (2*b).toNat ss[i]).map V.str).length=(2*b).toNat:=by rw[List.length_map,List.length_replicate]
   have lk1:((ss.take i).map V.str).length<=ss.length:=by rw[List.length_map,List.length_take];lia
   have lk2:((ss.drop (i+1)).map V.str).length<=ss.length:=by rw[List.length_map,List.length_drop];lia
   refine a7x e5 e8 (by lia) (λp4 hp4=>?_)
   generalize u9:upd H8 p4 _=H9;obtain⟨s9,e9⟩:=nwS u9 hp4;replace e4:=s9 _ _ e4;replace w7:=w7.same s9;replace b04:=b04.trans (But.of (w:=wl) s9);clear u9 s9 hp4 e5 e8;fail "";refine⟨_,rfl,?_⟩;refine⟨q,_,rfl,SqL.of e4,λp5 hp5=>?_⟩;rw[c6f hi];generalize u10:upd H9 p5 _=H10;obtain⟨s10,e10⟩:=nwS u10 hp5;replace e9:=s10 _ _ e9;replace w7:=w7.same s10;replace b04:=b04.trans (But.of (w:=wl) s10);clear u10 s10 hp5 e4;refine a7x e9 e10 (by rw[List.length_append];lia) (λp6 hp6=>?_)
   rw[<- List.map_append,<- List.map_append];have wa:wt (ss.take i++List.replicate (2*b).toNat ss[i]++ss.drop (i+1))<=2*t.length+2:=by
    rw[a4x,a4x,c8p];have:(2*b).toNat*(ss[i].length+1)<=2*(ss[i].length+1):=Nat.mul_le_mul_right _ (by lia)
    lia
   fail "";refine a3b rfl d8 (by lia) ?_
   refine k _ _ ?_ (w7.same (d9 hp6)) (b04.trans (But.of (d9 hp6)));have:=a3a (y:="\n") rfl (ss.take i++List.replicate (2*b).toNat ss[i]++ss.drop (i+1));lia
  fail "";rw[y6];refine x9 (λz=>?_) (λz=>?_)
  ·fail ""
   rw[List.length_map];refine⟨wl,_,rfl,w4,by lia,by lia,λo H5 a5 c5 w5 b5=>?_⟩
   replace e4:=b5 _ _ e4 nq;replace b04:=b04.trans b5;obtain⟨j,hj,rfl,g2⟩:=a7q a5 c5;clear b5 w4;refine a3x ?_;refine lit [some (.ref wl),some (.str t),some (.str _),some (.int at_),some (.int way),some (.ref q),some (.int i),some (.int j),none,none,none,none] (by rfl) ?_
   fail "";refine a4d e4 g2 ?_;fail "";refine a4d e4 g1 ?_;fail "";refine⟨by show 2<=sizeLine;decide,λtp htp=>?_⟩
   generalize u6:upd H5 tp _=H6;obtain⟨s6,e6⟩:=nwS u6 htp;replace e4:=s6 _ _ e4;replace w5:=w5.same s6;replace b04:=b04.trans (But.of (w:=wl) s6);clear u6 s6 htp;refine⟨tp,_,rfl,SqT.of e6,rfl,_,_,rfl,?_⟩;fail "";refine c5t e4 (by rw[List.length_map];exact c0h hi) ?_
   rw[<- List.map_set];refine⟨_,_,rfl,?_⟩;fail "";refine c5t d8 (by rw[List.length_map,List.length_set];exact c0h hj) ?_
   rw[<- List.map_set,b9l];refine⟨rfl,?_⟩;have hq0:H q=none:=b02.free w2 hq;have ws:wt ((ss.set i ss[j]).set j ss[i])=wt ss:=by
    have a1:=b9k (x:=ss[j]) hi;have a2:=b9k (ss:=ss.set i ss[j]) (x:=ss[i]) (by rw[List.length_set];exact hj)
    rw[List.getElem_set] at a2;split at a2
    ·lia
    ·lia
   fail "";refine a3b rfl d8 (by lia) ?_
   refine k _ _ ?_ (w5.set nq) (b04.set hq0);have:=a3a (y:="\n") rfl ((ss.set i ss[j]).set j ss[i]);lia
  fail "";refine a4d e4 g1 ?_;refine d3r ?_;fail "";refine a4j rfl (by lia) (λq2 hq2=>?_)
  have wr2:=a1e (x:=ss[i]) (y:=" ") rfl;have ne2:=List.length_pos_iff.mpr (a4f ss[i] " ");have wl2:=b0t (Txt.split ss[i] " ");generalize Txt.split ss[i] " " = vs at wr2 ne2 wl2 ⊢;have nq2:q2≠wl:=w4.ne hq2;have nqq:q≠q2:=g9 e4 hq2;generalize u5:upd H4 q2 _=H5;obtain⟨s5,e5⟩:=nwS u5 hq2;replace e4:=s5 _ _ e4;replace w4:=w4.same s5;replace b04:=b04.trans (But.of (w:=wl) s5);clear u5 s5 hq2;refine a3x ?_;refine lit [some (.ref wl),some (.str t),some (.str _),some (.int at_),some (.int way),some (.ref q),some (.int i),none,some (.ref q2),none,none,none] (by rfl) ?_
  fail "";rw[List.length_map];refine⟨wl,_,rfl,w4,by lia,by lia,λa' H6 a6 c6 w6 b6=>?_⟩
  replace e4:=b6 _ _ e4 nq;replace e5:=b6 _ _ e5 nq2;replace b04:=b04.trans b6;obtain⟨j,hj,rfl,g2⟩:=a7q a6 c6;have wj:=c9v hj;clear b6 w4;refine a3x ?_;refine lit [some (.ref wl),some (.str t),some (.str _),some (.int j),some (.int way),some (.ref q),some (.int i),none,some (.ref q2),none,none,none] (by rfl) ?_
  fail "";have l9:(c8x (Str.ofString "9") 60).length=60:=by decide +kernel
  have l0:(c8x (Str.ofString "0") 60).length=60:=by decide +kernel
  refine⟨_,_,rfl,rfl,by decide,by decide,by decide,by decide,by lia,?_⟩
  generalize c8x (Str.ofString "9") 60=n9 at l9 ⊢;fail "";refine⟨_,_,rfl,rfl,by decide,by decide,by decide,by decide,by lia,?_⟩
  refine⟨_,_,rfl,rfl,by show 1+_<=_;lia,?_⟩
  have l1:(Str.ofString "1"++c8x (Str.ofString "0") 60).length=61:=by rw[Str.length_append,l0];rfl
  generalize (Str.ofString "1"++c8x (Str.ofString "0") 60)=n1 at l1 ⊢;fail "";refine⟨by show 14<=sizeLine;decide,λp1 hp1=>?_⟩
  have np1:p1≠wl:=w6.ne hp1;have hp10:H p1=none:=b04.free w6 hp1;have n4:q≠p1:=g9 e4 hp1;have n5:q2≠p1:=g9 e5 hp1;generalize u7:upd H6 p1 _=H7;obtain⟨s7,e7⟩:=nwS u7 hp1;replace e4:=s7 _ _ e4;replace e5:=s7 _ _ e5;replace w6:=w6.same s7;replace b04:=b04.trans (But.of (w:=wl) s7);clear u7 s7;refine a3x ?_;refine lit [some (.ref wl),some (.str t),some (.str _),some (.int j),some (.int way),some (.ref q),some (.int i),none,some (.ref q2),some (.ref p1),none,none] (by rfl) ?_
  fail "";generalize u8:upd H7 p1 _=H8;have hsm:∃sm:List Str,sm.length=15/\(∀y∈sm,y.length<=61)/\H8 p1=some (.lst (sm.map V.str)):=by
   refine⟨[Str.ofString "",Str.ofString "none",Str.ofString "-",Str.ofString "0",Str.ofString "1",Str.ofString "-1",Str.ofString "7;",Str.ofString "look",Str.ofString "asleep",n9,n1,Str.ofString "cells",Str.ofString "marks",Str.ofString "00",Str.ofString "-0"],rfl,λy hy=>?_,by subst u8;exact d8⟩
   simp only[List.mem_cons,List.not_mem_nil,or_false] at hy;rcases hy with rfl|rfl|rfl|rfl|rfl|rfl|rfl|rfl|rfl|rfl|rfl|rfl|rfl|rfl|rfl <;> first|lia|decide
  obtain⟨sm,ls,hs,e7⟩:=hsm;replace e4:H8 q=some (.lst (ss.map V.str)):=by subst u8;exact(j4 n4).trans e4
  replace e5:H8 q2=some (.lst (vs.map V.str)):=by subst u8;exact(j4 n5).trans e5
  replace w6:Well H8 wl:=by subst u8;exact w6.set np1
  replace b04:But wl H H8:=by subst u8;exact b04.set hp10
  clear u8;refine⟨wl,15,rfl,w6,by decide,by decide,λr H9 a9 c9 w9 b9=>?_⟩
  replace e4:=b9 _ _ e4 nq;replace e5:=b9 _ _ e5 nq2;replace e7:=b9 _ _ e7 np1;replace b04:=b04.trans b9;obtain⟨m,hm,rfl,g3⟩:=a7q (ss:=sm) a9 (by lia)
  have lw:=hs sm[m] (List.getElem_mem hm);refine a4d e7 g3 ?_;generalize sm[m]=wd at lw ⊢;clear b9 w6 e7 g3 hs;refine a3x ?_;refine lit [some (.ref wl),some (.str t),some (.str _),some (.int j),some (.int way),some (.ref q),some (.int i),none,some (.ref q2),some (.ref p1),some (.str wd),none] (by rfl) ?_
  fail "";refine⟨Nat.zero_le _,λa0 ha0=>?_⟩;generalize u10:upd H9 a0 _=H10;obtain⟨s10,f0⟩:=nwS u10 ha0;replace e4:=s10 _ _ e4;replace e5:=s10 _ _ e5;replace w9:=w9.same s10;replace b04:=b04.trans (But.of (w:=wl) s10);have m0:a0≠wl:=λz=>by obtain⟨_,_,_,z',_⟩:=w9;rw[<- z,f0] at z';cases z'
  clear u10 s10;fail "";refine a4d e5 g2 ?_;fail "";refine⟨by show 1<=sizeLine;decide,λb0 hb0=>?_⟩
  generalize u11:upd H10 b0 _=H11;obtain⟨s11,fb⟩:=nwS u11 hb0;replace e4:=s11 _ _ e4;replace e5:=s11 _ _ e5;replace f0:=s11 _ _ f0;replace w9:=w9.same s11;replace b04:=b04.trans (But.of (w:=wl) s11);clear u11 s11;fail "";refine⟨b0,2,_,rfl,rfl,fb,by decide,by decide,by show 2<=_;lia,λa1 ha1=>?_⟩
  rw[c0z];generalize u12:upd H11 a1 _=H12;obtain⟨s12,f1⟩:=nwS u12 ha1;replace e4:=s12 _ _ e4;replace e5:=s12 _ _ e5;replace f0:=s12 _ _ f0;replace w9:=w9.same s12;replace b04:=b04.trans (But.of (w:=wl) s12);clear u12 s12 fb;fail "";refine⟨by show 1<=sizeLine;decide,λa2' ha2=>?_⟩
  generalize u13:upd H12 a2' _=H13;obtain⟨s13,f2⟩:=nwS u13 ha2;replace e4:=s13 _ _ e4;replace e5:=s13 _ _ e5;replace f0:=s13 _ _ f0;replace f1:=s13 _ _ f1;replace w9:=w9.same s13;replace b04:=b04.trans (But.of (w:=wl) s13);clear u13 s13;fail "";refine a4d e5 g2 ?_;fail "";refine⟨by show 2<=sizeLine;decide,λa3' ha3=>?_⟩
  generalize u14:upd H13 a3' _=H14;obtain⟨s14,f3⟩:=nwS u14 ha3;replace e4:=s14 _ _ e4;replace e5:=s14 _ _ e5;replace f0:=s14 _ _ f0;replace f1:=s14 _ _ f1;replace f2:=s14 _ _ f2;replace w9:=w9.same s14;replace b04:=b04.trans (But.of (w:=wl) s14);clear u14 s14;fail "";refine⟨by show 4<=sizeLine;decide,λa4' ha4=>?_⟩
  generalize u15:upd H14 a4' _=H15;obtain⟨s15,f4⟩:=nwS u15 ha4;have hall:∀a∈[a0,a1,a2',a3'],∃nw:List Str,H15 a=some (.lst (nw.map V.str))/\wt nw<=2*(vs[j].length+1)+62/\nw.length<=2:=by
   intro a ha;simp only[List.mem_cons,List.not_mem_nil,or_false] at ha;rcases ha with rfl|rfl|rfl|rfl
   ·exact⟨[],s15 _ _ f0,Nat.zero_le _,Nat.zero_le _⟩
   ·exact⟨List.replicate 2 vs[j],s15 _ _ f1,by rw[c8p];lia,by rw[List.length_replicate];exact Nat.le_refl _⟩
   ·exact⟨[wd],s15 _ _ f2,by rw[y0,b0s];lia,by show 1<=2;decide⟩
   ·exact⟨[vs[j],wd],s15 _ _ f3,by rw[y0,y0,b0s];lia,by show 2<=2;decide⟩
  replace e4:=s15 _ _ e4;replace e5:=s15 _ _ e5;replace w9:=w9.same s15;replace b04:=b04.trans (But.of (w:=wl) s15);have n44:a4'≠wl:=λz=>by obtain⟨_,_,_,z',_⟩:=w9;rw[<- z,f4] at z';cases z'
  clear u15 s15 f0 f1 f2 f3;fail "";refine⟨wl,2,rfl,w9,by decide,by decide,λr2 H16 a16 c16 w16 b16=>?_⟩
  replace e4:=b16 _ _ e4 nq;replace e5:=b16 _ _ e5 nq2;replace f4:=b16 _ _ f4 n44;fail "";obtain⟨pn,hpn,g4⟩:=d1r (as:=[a0,a1,a2',a3']) (r:=way-4+r2) (by lia) (by show _<(4:Int);lia)
  obtain⟨nw,e6,wn,ln⟩:=hall pn hpn;replace e6:=b16 _ _ e6 (w9.noStr e6);replace b04:=b04.trans b16;refine a4d f4 g4 ?_;clear b16 w9 hall hpn g4 f4;refine a3x ?_;refine lit [some (.ref wl),some (.str t),some (.str _),some (.int j),some (.int way),some (.ref q),some (.int i),none,some (.ref q2),some (.ref p1),some (.str wd),some (.ref pn)] (by rfl) ?_
  fail "";refine⟨_,rfl,?_⟩;refine⟨q2,_,rfl,SqL.of e5,λp5 hp5=>?_⟩;rw[d4o (by lia)]
  generalize u17:upd H16 p5 _=H17;obtain⟨s17,e8⟩:=nwS u17 hp5;replace e4:=s17 _ _ e4;replace e5:=s17 _ _ e5;replace e6:=s17 _ _ e6;replace w16:=w16.same s17;replace b04:=b04.trans (But.of (w:=wl) s17);clear u17 s17 hp5;have lk1:((vs.take j).map V.str).length<=vs.length:=by rw[List.length_map,List.length_take];lia
  have lk2:((vs.drop (j+1)).map V.str).length<=vs.length:=by rw[List.length_map,List.length_drop];lia
  have lk3:(nw.map V.str).length<=2:=by rw[List.length_map];exact ln
  fail "";refine a7x e8 e6 (by lia) (λp6 hp6=>?_)
  generalize u18:upd H17 p6 _=H18;obtain⟨s18,e9⟩:=nwS u18 hp6;replace e4:=s18 _ _ e4;replace e5:=s18 _ _ e5;replace w16:=w16.same s18;replace b04:=b04.trans (But.of (w:=wl) s18);clear u18 s18 hp6 e8 e6;fail "";refine⟨_,rfl,?_⟩;refine⟨q2,_,rfl,SqL.of e5,λp7 hp7=>?_⟩;rw[c6f hj];generalize u19:upd H18 p7 _=H19;obtain⟨s19,e10⟩:=nwS u19 hp7;replace e4:=s19 _ _ e4;replace e9:=s19 _ _ e9;replace w16:=w16.same s19;replace b04:=b04.trans (But.of (w:=wl) s19);clear u19 s19 hp7 e5;refine a7x e9 e10 (by rw[List.length_append];lia) (λp8 hp8=>?_)
  rw[<- List.map_append,<- List.map_append];have wa:wt (vs.take j++nw++vs.drop (j+1))<=2*ss[i].length+66:=by
   rw[a4x,a4x];lia
  have jw:=a3a (y:=" ") rfl (vs.take j++nw++vs.drop (j+1));generalize vs.take j++nw++vs.drop (j+1)=ws at wa jw ⊢;generalize u20:upd H19 p8 _=H20;obtain⟨s20,e11⟩:=nwS u20 hp8;replace e4:=s20 _ _ e4;replace w16:=w16.same s20;replace b04:=b04.trans (But.of (w:=wl) s20);clear u20 s20 hp8 e9 e10;fail "";refine a3b rfl e11 (by lia) ?_
  have hq0:H q=none:=b02.free w2 hq;have wf:=b9k (x:=Txt.join " " ws) hi;fail "";refine c5t e4 (by rw[List.length_map];exact c0h hi) ?_
  rw[<- List.map_set];fail "";refine a3b rfl d8 (by lia) ?_
  refine k _ _ ?_ (w16.set nq) (b04.set hq0);have:=a3a (y:="\n") rfl (ss.set i (Txt.join " " ws));lia
theorem b2w{H H1 H2:Hp}{w:Addr}(s:Same H H1)(n:H w=none)(b:But w H1 H2):Same H H2:=λx o e=>b x o (s x o e) (g9 e n)
theorem b7n{s:Str}{x:Sd}(h:a7y s x)(l:s.length<=90000):x.n=x.c.length / 4-1/\x.c.length<=100000/\x.os.length<=200000/\x.bk.length<=200000/\x.g.ms.length<=100000/\x.t.ms.length<=100000:=by
 obtain⟨r0,r1,r2,r3,r4,r5,r6,r7,et,h0,hg,ht,ho,hb,en⟩:=h;have hw:=λy (hy:y∈Txt.split s "\n")=>L2.wt_mem hy;rw[a1e (x:=s) b1k,et] at hw;have l0:=hw r0 (by simp)
 have l2:=hw r2 (by simp)
 have l4:=hw r4 (by simp)
 have l6:=hw r6 (by simp)
 have l7:=hw r7 (by simp)
 obtain⟨_,_,_,_,_,hg,_⟩:=hg;obtain⟨_,_,_,_,_,_,ht,_⟩:=ht;have a0:=h0.long;have a2:=hg.long;have a4:=ht.long;have a6:=ho.long;have a7:=hb.long;exact⟨en,by lia,by lia,by lia,by lia,by lia⟩
theorem d4l{H:Hp}{n:Nat}{p q:Addr}{bs:List Bool}(ne:p≠q)(hp:H p=some (.lst (bs.map V.bl)))(hq:H q=some (.lst (bs.map V.bl))):EqD K H (n+1) (.ref p) (.ref q) true:=by
 have:=EqD.lst (K:=K) (n:=n) (e:=λ_=>true) ne (SqL.of hp) (SqL.of hq) rfl λj x y hx hy=>by
  rw[hx] at hy;cases hy;rw[List.getElem?_map] at hx;cases e:bs[j]? with
  | none=>rw[e] at hx;cases hx
  | some i=>rw[e] at hx;cases hx;exact c3i rfl (by cases i <;> rfl)
 rw[show(List.range (bs.map V.bl).length).all (λ_=>true)=true by simp] at this
 exact this
theorem b2c{H:Hp}{p q k l:Addr}{u v:V}{bs:List Bool}(hp:H p=some (.tup [.ref k,u]))(hq:H q=some (.tup [.ref l,v]))(ne:k≠l)(hk:H k=some (.lst (bs.map V.bl)))(hl:H l=some (.lst (bs.map V.bl)))(e:EqD K H 3 u v true):EqD K H 4 (.ref p) (.ref q) true:=by
 refine b5a hp hq rfl λj x y hx hy=>?_
 match j with
 | 0=>cases hx;cases hy;exact d4l ne hk hl
 | 1=>cases hx;cases hy;exact e
 | j+2=>cases hx
def c0x(K:Frag):Sp:=λvs H Q _=>∃(a:Addr)(ns:List Int),vs=[.ref a]/\SqL K H a (ns.map V.int)/\ns.length<=63/\∀H',Q (.bl true) H'
abbrev b5n:Stmt:=top 105
theorem a6s:j3 ["script","k","well","stand","text","turn","due","answer"] ["script"] (g7 b5n):=↑1
set_option maxHeartbeats 16000000 in
theorem d3g{
        fa:Addr}{fd:FuncData}(D:Fun K "law" "law" b5n fa fd)(T:Txt K mg cl)(G_law_take:FnT P w K mg base "_law_take" 1 ["well","many"] a1g)(G_law_well:FnT P w K mg base "_law_well" 1 ["script","k"] (b2m K))(G_law_any_stand:FnT P w K mg base "_law_any_stand" 4 ["well"] (a6b cl))(G_stand_text:FnT P w K mg base "stand_text" 8 ["stand"] (a9e cl))(G_law_written:FnT P w K mg base "_law_written" 2 ["stand"] a8c)(G_law_asked:FnT P w K mg base "_law_asked" 9 ["text"] (b1c cl))(G_law_spoilt:FnT P w K mg base "_law_spoilt" 2 ["well","text"] a9g)(G_law_read:FnT P w K mg base "_law_read" 4 ["text"] b2o)(G_law_is_stand:FnT P w K mg base "_law_is_stand" 3 ["stand"] a6o):c6q P w K mg base (CXK P w) 10 fa fd ["script"] (c0x K):=by
 refine D.okX a6s (λvs H Q E h=>?_) (λcdv A outer s H vs Q E hr h=>?_)
 ·obtain⟨a,ns,rfl,_⟩:=h
  rfl
 ·obtain⟨a,ns,rfl,hS,hl,k⟩:=h
  refine⟨_,(
        d6 (b2z a5x rfl (a1u rfl T.z_range (d4 (i6 (c6j rfl) (by rfl) T.z_max PyProof.Rows.boot_max (d4 d7 (d4 (i6 (c6i rfl) (by rfl) T.z_min PyProof.Rows.boot_min (d4 d7 (d4 (i6 (j2 (K:=K)) (by rfl) T.z_len PySem.boot_len (d4 (pv 0) d5)) d5))) d5))) d5)) (g0 (i:=1) a6s.nd rfl (by first|exact Or.inl rfl|exact Or.inr rfl))
     (
     d6 (i7 (i:=2) a6s.nd rfl (by first|exact Or.inl rfl|exact Or.inr rfl) (j5 G_law_well hr ↑5 rfl k7 (d4 (pv 0) (d4 (pv 1) d5))))
     (d6 (i7 (i:=3) a6s.nd rfl (by first|exact Or.inl rfl|exact Or.inr rfl) (j5 G_law_any_stand hr ↑5 rfl k7 (d4 (pv 2) d5)))
     (d6 (i7 (i:=4) a6s.nd rfl (by first|exact Or.inl rfl|exact Or.inr rfl) (j5 G_law_written hr ↑5 rfl k7 (d4 (pv 3) d5)))
     (d6 (v9 (PW.pt (a2f (g6 a4b (j5 G_stand_text hr ↑5 rfl k7 (d4 (pv 3) d5)) (pv 4) (i3 _)) (a1o (g6 (b3d (K:=K) (n:=3) (huN hr 4)) (j5 G_law_asked hr ↑5 rfl k7 (d4 (pv 4) d5)) (a0k (d4 (m5 d5) (d4 (pv 3) d5))) (i3 _)))))
       (f8 (i5 a2p))
       i9)
     (d6 (b2z a5x rfl (a1u rfl T.z_range (d4 (j8 a0y d7 (j5 G_law_take hr ↑5 rfl k7 (d4 (pv 2) (d4 d7 d5)))) d5)) (g0 (i:=5) a6s.nd rfl (by first|exact Or.inl rfl|exact Or.inr rfl))
       (f8 (i7 (i:=4) a6s.nd rfl (by first|exact Or.inl rfl|exact Or.inr rfl) (j5 G_law_spoilt hr ↑5 rfl k7 (d4 (pv 2) (d4 (pv 4) d5))))))
     (d6 (i7 (i:=6) a6s.nd rfl (by first|exact Or.inl rfl|exact Or.inr rfl) (j5 G_law_read hr ↑5 rfl k7 (d4 (pv 4) d5)))
     (d6 (i7 (i:=7) a6s.nd rfl (by first|exact Or.inl rfl|exact Or.inr rfl) (a0k (d4 (m5 d5) (d4 (pv 6) d5))))
     (d6 (v9 (g6 b4v (pv 6) a1i (i3 _))
       (f8 (i7 (i:=7) a6s.nd rfl (by first|exact Or.inl rfl|exact Or.inr rfl) (a0k (d4 (m5 (d4 a2p (d4 a2p (d4 a2p (d4 a2p d5))))) (d4 a1i d5)))))
       (f8 (v9 (a3d (a2g (j5 G_law_is_stand hr ↑5 rfl k7 (d4 (pv 6) d5))))
        (f8 (i7 (i:=7) a6s.nd rfl (by first|exact Or.inl rfl|exact Or.inr rfl) (a0k (d4 (m5 (d4 a2p (d4 a2p (d4 a2p (d4 a2p d5))))) (d4 a1i d5)))))
        i9)))
     (f8 (v9 (g6 (b3d (K:=K) (n:=3) (huN hr 4)) (j5 G_law_asked hr ↑5 rfl k7 (d4 (pv 4) d5)) (pv 7) (i3 _))
      (f8 (i5 a2p))
      i9)))))))))))
   (f8 (i5 a2p))),?_⟩
  have lm:=a0l;have hlen:(ns.map V.int).length=ns.length:=List.length_map _;fail "";refine⟨a,_,rfl,.inl hS,?_⟩;fail "";rw[hlen];refine⟨_,_,rfl,?_⟩;fail "";refine⟨_,_,rfl,?_⟩;fail "";refine a7p (λi σ H'=>∃x1 x2 x3 x4 x5 x6 x7,σ=[some (.ref a),x1,x2,x3,x4,x5,x6,x7]/\Same H H') ⟨_,_,_,_,_,_,_,rfl,Same.refl _⟩ ?_ ?_
  ·rintro i σ H1 hi ⟨x1,x2,x3,x4,x5,x6,x7,rfl,s1⟩
   have hi:i<16:=by
    have:(if (if (ns.length:Int)<16 then (ns.length:Int) else 16) > 1 then (if (ns.length:Int)<16 then (ns.length:Int) else 16) else 1).toNat<=16:=by split <;> (try split) <;> lia
    lia
   fail "";refine⟨a,ns,i,by rw[show(0+(i:Int))=(i:Int) by lia],s1.seq hS,by lia,λw0 H2 n0 s2 hw2=>?_⟩
   have hw0:H w0=none:=s1.free n0;have s02:=s1.trans s2;fail "";refine⟨w0,rfl,hw2,λp x H3 hp w3 b3 st gs tn lo lb=>?_⟩;have s03:=b2w s02 hw0 b3;have np:p≠w0:=hw2.ne hp;have en:x.n=x.c.length / 4-1:=by have:=gs.c.len;lia
   have lc:x.c.length<=100:=by have:=gs.c.len;have:=gs.c.n8;lia
   have rd:=c2v gs tn en;have tl:=c6w gs tn lo lb;fail "";refine⟨p,x,rfl,st,lc,tn,λH4 s4=>?_⟩;generalize ht:standT x=t at rd tl ⊢;replace st:=st.same s4;replace w3:=w3.same s4;replace s03:=s03.trans s4;fail "";refine⟨p,x,rfl,st,en,gs,tn,λH5 s5=>?_⟩;rw[ht];replace st:=st.same s5;replace w3:=w3.same s5;replace s03:=s03.trans s5;clear s4 s5 ht lo lb tn lc s02 b3 s2;fail "";rw[show(!decide (V.str t=V.str t))=false by simp]
   fail "";refine⟨t,rfl,by lia,λy ry gy tp kk pp H6 htp hkk s6 etp ekk st6=>?_,λy ry ng=>absurd (a7g ry rd ▸ gs) ng,λno=>absurd ⟨x,rd⟩ no⟩
   obtain rfl:=a7g ry rd;replace st:=st.same s6;replace w3:=w3.same s6;replace s03:=s03.trans s6;clear hkk htp s6 ry;fail "";refine⟨Nat.zero_le _,λl1 hl1=>?_⟩;have nk1:kk≠l1:=g9 ekk hl1;generalize u7:upd H6 l1 _=H7;obtain⟨s7,f1⟩:=nwS u7 hl1;replace st:=st.same s7;replace st6:=st6.same s7;replace etp:=s7 _ _ etp;replace ekk:=s7 _ _ ekk;replace w3:=w3.same s7;replace s03:=s03.trans s7;clear u7 s7 hl1;fail "";refine⟨by show 2<=sizeLine;decide,λt1 ht1=>?_⟩
   generalize u8:upd H7 t1 _=H8;obtain⟨s8,f2⟩:=nwS u8 ht1;replace st:=st.same s8;replace st6:=st6.same s8;replace etp:=s8 _ _ etp;replace ekk:=s8 _ _ ekk;replace f1:=s8 _ _ f1;replace w3:=w3.same s8;replace s03:=s03.trans s8;clear u8 s8 ht1;refine b6n (b2c (bs:=[]) etp f2 nk1 ekk f1 (c9m st6 st)) ?_;clear etp ekk f1 f2 st6 nk1;fail "";refine⟨w0,2,rfl,w3,by decide,by decide,λr H9 a9 c9 w9 b9=>?_⟩
   replace s03:=b2w s03 hw0 b9;clear b9 w3 st;fail "";refine a7p (λj σ H'=>∃v x5,σ=[some (.ref a),some (.int (0+(i:Int))),some (.ref w0),some (.ref p),some (.str v),x5,x6,x7]/\v.length<=61000/\(j=0->v.length<=15000)/\(j=1->v.length<=30200)/\Well H' w0/\Same H H') ⟨t,_,rfl,by lia,λ_=>tl,λz=>absurd z ↑5,w9,s03⟩ ?_ ?_
   ·rintro j σ H12 hj ⟨v,x5,rfl,lx,l0,l1,w12,s12⟩
    have hj:j=0\/j=1:=by lia
    have lx2:v.length<=30200:=by
     rcases hj with rfl|rfl
     ·have:=l0 rfl;lia
     ·exact l1 rfl
    fail "";refine⟨w0,v,rfl,w12,by lia,λy H13 hy w13 b13=>?_⟩
    fail "";refine⟨y,_,rfl,by lia,λz=>by lia,λz=>?_,w13,b2w s12 hw0 b13⟩
    have:=l0 (by lia)
    lia
   ·rintro σ H12 ⟨v,x5,rfl,lv,l0,l1,w12,s12⟩
    clear l0 l1 rd tl gs en s03 w9;fail "";refine⟨v,rfl,by lia,λy ry pd H13 s13 sd=>?_,λno H13 s13=>?_⟩
    ·obtain⟨b1,b2,b3,b4,b5,b6⟩:=b7n ry (by lia)
     replace s12:=s12.trans s13;clear s13 w12;fail "";refine⟨Nat.zero_le _,λl1 hl1=>?_⟩;generalize u7:upd H13 l1 _=H14;obtain⟨s14,f1⟩:=nwS u7 hl1;replace sd:=sd.same s14;replace s12:=s12.trans s14;clear u7 s14 hl1;fail "";refine⟨by show 2<=sizeLine;decide,λt1 ht1=>?_⟩
     generalize u8:upd H14 t1 _=H15;obtain⟨s15,f2⟩:=nwS u8 ht1;replace sd:=sd.same s15;replace f1:=s15 _ _ f1;replace s12:=s12.trans s15;clear u8 s15 ht1;fail "";refine⟨rfl,_,rfl,?_⟩;rw[show decide (V.ref pd=V.non)=false from decide_eq_false (λz=>by cases z)]
     fail "";refine⟨pd,y,rfl,sd,b1,b2,b3,b4,b5,b6,λb H16 hb s16=>?_⟩;replace sd:=sd.same s16;replace f1:=s16 _ _ f1;replace f2:=s16 _ _ f2;replace s12:=s12.trans s16;clear s16 b1 b2 b3 b4 b5 b6;cases b with
     | true=>
      have gs:b0a y:=hb.mp rfl;clear hb;fail "";refine⟨v,rfl,by lia,λz rz gz tp kk pp H17 htp hkk s17 etp ekk stz=>?_,λz rz ng=>absurd (a7g rz ry ▸ gs) ng,λno=>absurd ⟨y,ry⟩ no⟩
      obtain rfl:=a7g rz ry;have nk:kk≠l1:=(g9 f1 hkk).symm;fail "";refine b6n (b2c (bs:=[]) etp (s17 _ _ f2) nk ekk (s17 _ _ f1) (c9m stz (sd.same s17))) ?_;fail "";exact⟨_,_,_,_,_,_,_,rfl,s12.trans s17⟩
     | false=>
      have gs:¬ b0a y:=λz=>by cases hb.mpr z
      clear hb f1 f2 sd;fail "";refine⟨by show 4<=sizeLine;decide,λl2 hl2=>?_⟩
      generalize u9:upd H16 l2 _=H20;obtain⟨s20,f1⟩:=nwS u9 hl2;replace s12:=s12.trans s20;clear u9 s20 hl2;fail "";refine⟨by show 2<=sizeLine;decide,λt2 ht2=>?_⟩
      generalize u10:upd H20 t2 _=H21;obtain⟨s21,f2⟩:=nwS u10 ht2;replace f1:=s21 _ _ f1;replace s12:=s12.trans s21;clear u10 s21 ht2;fail "";refine⟨v,rfl,by lia,λz rz gz=>absurd (a7g rz ry ▸ gz) gs,λz rz ng tp kk H17 htp hkk s17 etp ekk=>?_,λno=>absurd ⟨y,ry⟩ no⟩
      have nk:kk≠l2:=(g9 f1 hkk).symm;fail "";refine b6n (b2c (bs:=[false,true,true,false]) etp (s17 _ _ f2) nk ekk (s17 _ _ f1) (c3i rfl rfl)) ?_;fail "";exact⟨_,_,_,_,_,_,_,rfl,s12.trans s17⟩
    ·replace s12:=s12.trans s13
     clear s13 w12;fail "";refine⟨Nat.zero_le _,λl1 hl1=>?_⟩;generalize u7:upd H13 l1 _=H14;obtain⟨s14,f1⟩:=nwS u7 hl1;replace s12:=s12.trans s14;clear u7 s14 hl1 f1;fail "";refine⟨by show 2<=sizeLine;decide,λt1 ht1=>?_⟩
     generalize u8:upd H14 t1 _=H15;obtain⟨s15,f2⟩:=nwS u8 ht1;replace s12:=s12.trans s15;clear u8 s15 ht1 f2;fail "";refine⟨rfl,_,rfl,?_⟩;rw[show decide (V.non=V.non)=true from decide_eq_true rfl];fail "";refine⟨by show 4<=sizeLine;decide,λl2 hl2=>?_⟩
     generalize u9:upd H15 l2 _=H20;obtain⟨s20,f1⟩:=nwS u9 hl2;replace s12:=s12.trans s20;clear u9 s20 hl2;fail "";refine⟨by show 2<=sizeLine;decide,λt2 ht2=>?_⟩
     generalize u10:upd H20 t2 _=H21;obtain⟨s21,f2⟩:=nwS u10 ht2;replace f1:=s21 _ _ f1;replace s12:=s12.trans s21;clear u10 s21 ht2;fail "";refine⟨v,rfl,by lia,λz rz=>absurd ⟨z,rz⟩ no,λz rz=>absurd ⟨z,rz⟩ no,λ_ tp kk H17 htp hkk s17 etp ekk=>?_⟩
     have nk:kk≠l2:=(g9 f1 hkk).symm;fail "";refine b6n (b2c (bs:=[true,false,true,false]) etp (s17 _ _ f2) nk ekk (s17 _ _ f1) (c3i rfl rfl)) ?_;fail "";exact⟨_,_,_,_,_,_,_,rfl,s12.trans s17⟩
  ·rintro σ H1 ⟨x1,x2,x3,x4,x5,x6,x7,rfl,s1⟩
   fail "";exact k _
end
section
open PySem PySem.Spec L2
section
variable{P:Program}{w:World}{base:Heap}{K:Frag}{mg:Str->Option Value}
inductive AtF(K:Frag)(f:Addr)(x q:Str)(st:Stmt):Prop
 | of {oc:Value} {od:Option Addr} {kV dc pm cd ct:Value} {an:Option Addr} {sl:Array (Option Value)} (l:K.lookup f=some ⟨oc,od,.func (PySem.W.fnOf x q (a3c st) (a2e st) (g7 st) .none kV dc pm an cd ct),sl⟩) (c:codeIn K cd q=true) (k:keepIn K (.ref f)=true):AtF K f x q st
abbrev BA(x q:Str)(st:Stmt)(ps:List Str):Prop:=∀(kV doc pm:Value)(an:Option Addr)(cdv ct:Value)(us:List Value),us.length=ps.length->bindArgs (PySem.W.fnOf x q (a3c st) (a2e st) (g7 st) .none kV doc pm an cdv ct) ⟨us,[]⟩=pure (ps.zip us)
theorem ba0{β:Type}{F G:List Value->β}(h:F []=G [])(us:List Value)(e:us.length=0):F us=G us:=by
 cases us with
 | nil=>exact h
 | cons=>cases e
theorem ba1{β:Type}{F G:List Value->β}(h:∀a,F [a]=G [a])(us:List Value)(e:us.length=1):F us=G us:=by
 cases us with
 | nil=>cases e
 | cons a t=>exact ba0 (F:=λt=>F (a::t)) (G:=λt=>G (a::t)) (h a) t (Nat.succ.inj e)
theorem ba2{β:Type}{F G:List Value->β}(h:∀a b,F [a,b]=G [a,b])(us:List Value)(e:us.length=2):F us=G us:=by
 cases us with
 | nil=>cases e
 | cons a t=>exact ba1 (F:=λt=>F (a::t)) (G:=λt=>G (a::t)) (h a) t (Nat.succ.inj e)
theorem ba3{β:Type}{F G:List Value->β}(h:∀a b c,F [a,b,c]=G [a,b,c])(us:List Value)(e:us.length=3):F us=G us:=by
 cases us with
 | nil=>cases e
 | cons a t=>exact ba2 (F:=λt=>F (a::t)) (G:=λt=>G (a::t)) (h a) t (Nat.succ.inj e)
theorem ba4{β:Type}{F G:List Value->β}(h:∀a b c d,F [a,b,c,d]=G [a,b,c,d])(us:List Value)(e:us.length=4):F us=G us:=by
 cases us with
 | nil=>cases e
 | cons a t=>exact ba3 (F:=λt=>F (a::t)) (G:=λt=>G (a::t)) (h a) t (Nat.succ.inj e)
theorem ba5{β:Type}{F G:List Value->β}(h:∀a b c d e,F [a,b,c,d,e]=G [a,b,c,d,e])(us:List Value)(e:us.length=5):F us=G us:=by
 cases us with
 | nil=>cases e
 | cons a t=>exact ba4 (F:=λt=>F (a::t)) (G:=λt=>G (a::t)) (h a) t (Nat.succ.inj e)
theorem AtF.t{h:Heap}{x:Str}{st:Stmt}{ps:List Str}{f:Addr}(X:K.In h)(G:h.Ns mainGlobals mg)(a:nsIn K mainGlobals x=some (some (.ref f)))(l:AtF K f x x st)(hb:BA x x st ps):DefT K mg x st ps :=
 by cases l with|of l c k=>exact .mk' X G a l c k hb
inductive AtG(K:Frag)(x:Str)(st:Stmt):Prop
 | mk {f:Addr} (d:nsIn K mainGlobals x=some (some (.ref f))) (l:AtF K f x x st):AtG K x st
theorem AtG.of{x:Str}{st:Stmt}{f:Addr}{oc:Value}{od:Option Addr}{kV dc pm cd ct:Value}{an:Option Addr}{sl:Array (Option Value)}(d:nsIn K mainGlobals x=some (some (.ref f)))(l:K.lookup f=some ⟨oc,od,.func (PySem.W.fnOf x x (a3c st) (a2e st) (g7 st) .none kV dc pm an cd ct),sl⟩)(c:codeIn K cd x=true)(k:keepIn K (.ref f)=true):AtG K x st:=⟨d,.of l c k⟩
theorem AtG.t{h:Heap}{x:Str}{st:Stmt}{ps:List Str}(l:AtG K x st)(X:K.In h)(G:h.Ns mainGlobals mg)(hb:BA x x st ps):DefT K mg x st ps:=by cases l with|mk d l=>exact AtF.t X G d l hb
inductive AtM(K:Frag)(C:Addr)(m q:Str)(st:Stmt):Prop
 | mk {f:Addr} (d:findIn K (.ref C) m=some (some (.ref f))) (i:isFn K (.ref f)=true) (l:AtF K f m q st):AtM K C m q st
theorem AtM.of{C:Addr}{m q:Str}{st:Stmt}{f:Addr}{oc:Value}{od:Option Addr}{kV dc pm cd ct:Value}{an:Option Addr}{sl:Array (Option Value)}(d:findIn K (.ref C) m=some (some (.ref f)))(i:isFn K (.ref f)=true)(l:K.lookup f=some ⟨oc,od,.func (PySem.W.fnOf m q (a3c st) (a2e st) (g7 st) .none kV dc pm an cd ct),sl⟩)(c:codeIn K cd q=true)(k:keepIn K (.ref f)=true):AtM K C m q st:=⟨d,i,.of l c k⟩
end
end
open PySem L2
theorem all_mk{l:PySem.W.OpenLaw}{w:World}{K:Frag}{h:Heap}{mg:Str->Option Value}{fa:Addr}{am ae ag an ap ai ac ad af al aj aa ar ak ab au:Addr}{gx:Tok}{ed:Tok}{fM:Tok}{fq:Tok}{ef:Tok}{cP:Tok}{bw:Tok}{cz:Tok}{cT:Tok}{fO:Tok}{gu:Tok}{gp:Tok}{es:Tok}{gm:Tok}{aw:Addr}{fn:Nat}{bP:Array (Option Value)}{em dB:Tok}{az:Addr}{ei:Nat}{gH:Array (Option Value)}{gz db ez cL:Tok}{av:Addr}{dz:Nat}{dd:Array (Option Value)}{di ff da dX eC ek:Tok}{aB:Addr}{eD:Nat}{ey:Array (Option Value)}{bF eR fV:Tok}{aA:Addr}{dD:Nat}{gB:Array (Option Value)}{fm eM gN bN bV cd gM cf ca fw cW cq bY fD du gO eE bd:Tok}{aD:Addr}{bE:Nat}{fS:Array (Option Value)}{eX eV ck dA dq ew fE fF dJ gC eh gf dj fk aW fs:Tok}{ax:Addr}{bo aI aN aP ay aL:Value}{eK aF:Option Addr}{fT:Array (Option Value)}(dM:AtG K "check_size" a7d)(bT:AtG K "check_turn" a7c)(cn:AtG K "distance" b0l)(fZ:AtG K "check_hand" a7e)(aV:AtG K "mark_cell" a8q)(cA:AtG K "card_cell" a8w)(cM:AtG K "bell_cell" a8x)(dk:AtG K "new_cells" a8o)(cN:AtG K "marks_among" a5q)(bU:AtG K "size_of_cells" a3o)(cr:AtG K "check_numbers" a3q)(fv:AtG K "order_of" b0g)(dm:AtG K "orders_of" a8n)(ce:AtG K "size_of_stand" a3n)(gd:AtG K "turn_fits" a8j)(gG:AtG K "marks_fit" a8p)(bj:AtG K "part_fits" a8m)(cb:AtG K "giver_fits" a7b)(cR:AtG K "reading_fits" a4o)(bv:AtG K "parts_fit" a8l)(ee:AtG K "taker_fits" a6v)(bg:AtG K "check_stand" a5u)(ft:AtG K "is_number" a8v)(gw:AtG K "number_read" a5p)(gg:AtG K "numbers_read" a4q)(fK:AtG K "numbers_text" a4p)(eO:AtG K "turn_text" a8h)(bH:AtG K "turn_read" a8i)(gJ:AtG K "orders_text" a5n)(dF:AtG K "orders_read" a5o)(dw:AtG K "row_text" b0e)(gh:AtG K "row_words" a8k)(bX:AtG K "row_read" b0f)(fW:AtG K "orders_row_read" a2k)(dp:AtG K "stand_text" a6w)(fR:AtG K "giver_read" a7a)(cC:AtG K "taker_read" a6u)(eG:AtG K "stand_read" a6x)(dx:AtG K "_law_well" b0h)(cv:AtG K "_law_take" b0j)(bq:AtG K "_law_order" a8s)(eY:AtG K "_law_far" b2x)(gQ:AtG K "_law_giver" a8t)(bz:AtG K "_law_taker" a8r)(fX:AtG K "_law_any_stand" a3p)(cX:AtG K "_law_is_turn" a5t)(fJ:AtG K "_law_are_seen" a4u)(fl:AtG K "_law_is_giver" a4t)(dW:AtG K "_law_is_taker" a4r)(dK:AtG K "_law_is_stand" a4s)(bi:AtG K "_law_told_orders" a2l)(bk:AtG K "_law_written" a5r)(br:AtG K "_law_number" a6z)(cJ:AtG K "_law_numbers" a5s)(gF:AtG K "_law_turn" b0i)(fh:AtG K "_law_read_orders" a2m)(gL:AtG K "_law_read" b0k)(dZ:AtG K "_law_spoilt" a6y)(bB:AtG K "_law_asked" a8u)(X:K.In h)(G:h.Ns mainGlobals mg)(hfa:mg "law" = some (.ref fa))(fP:nsIn K mainGlobals "RingError" = some (some (.ref am)))(gI:nsIn K mainGlobals "BadSize" = some (some (.ref ae)))(cD:excIn K ae c8r "ValueError.__new__" = true)(ej:findIn K (.ref ae) "__getattribute__" = some (some (.builtin "BaseException.__getattribute__")))(bb:findIn K (.ref ae) "__getattr__" = some none)(dV:findIn K (.ref ae) "__class__" = some (some (.builtin "object.__class__")))(fQ:mroIn K ae (.type "BaseException")=some true)(eH:mroIn K ae (.type "object")=some true)(fY:(clsIn K ae).isSome=true)(ge:nsIn K mainGlobals "NoTurn" = some (some (.ref ag)))(et:excIn K ag c8r "ValueError.__new__" = true)(fr:findIn K (.ref ag) "__getattribute__" = some (some (.builtin "BaseException.__getattribute__")))(dv:findIn K (.ref ag) "__getattr__" = some none)(ec:findIn K (.ref ag) "__class__" = some (some (.builtin "object.__class__")))(cH:mroIn K ag (.type "BaseException")=some true)(cj:mroIn K ag (.type "object")=some true)(ci:(clsIn K ag).isSome=true)(fo:nsIn K mainGlobals "BadMark" = some (some (.ref an)))(dI:nsIn K mainGlobals "Crooked" = some (some (.ref ap)))(dT:nsIn K mainGlobals "NoCell" = some (some (.ref ai)))(eS:nsIn K mainGlobals "BadCells" = some (some (.ref ac)))(gj:excIn K ac c8r "ValueError.__new__" = true)(fA:findIn K (.ref ac) "__getattribute__" = some (some (.builtin "BaseException.__getattribute__")))(fc:findIn K (.ref ac) "__getattr__" = some none)(bn:findIn K (.ref ac) "__class__" = some (some (.builtin "object.__class__")))(en:mroIn K ac (.type "BaseException")=some true)(dr:mroIn K ac (.type "object")=some true)(er:(clsIn K ac).isSome=true)(aZ:nsIn K mainGlobals "BadOrder" = some (some (.ref ad)))(eF:excIn K ad c8r "ValueError.__new__" = true)(gb:findIn K (.ref ad) "__getattribute__" = some (some (.builtin "BaseException.__getattribute__")))(dl:findIn K (.ref ad) "__getattr__" = some none)(fe:findIn K (.ref ad) "__class__" = some (some (.builtin "object.__class__")))(ds:mroIn K ad (.type "BaseException")=some true)(fy:mroIn K ad (.type "object")=some true)(bf:(clsIn K ad).isSome=true)(eA:nsIn K mainGlobals "NoHand" = some (some (.ref af)))(cI:excIn K af c8r "ValueError.__new__" = true)(dY:findIn K (.ref af) "__getattribute__" = some (some (.builtin "BaseException.__getattribute__")))(fx:findIn K (.ref af) "__getattr__" = some none)(gy:findIn K (.ref af) "__class__" = some (some (.builtin "object.__class__")))(fI:mroIn K af (.type "BaseException")=some true)(be:mroIn K af (.type "object")=some true)(cx:(clsIn K af).isSome=true)(dh:nsIn K mainGlobals "NoWaiting" = some (some (.ref al)))(fU:nsIn K mainGlobals "NotSound" = some (some (.ref aj)))(aY:nsIn K mainGlobals "BadStand" = some (some (.ref aa)))(cu:excIn K aa c8r "ValueError.__new__" = true)(dC:findIn K (.ref aa) "__getattribute__" = some (some (.builtin "BaseException.__getattribute__")))(bO:findIn K (.ref aa) "__getattr__" = some none)(dg:findIn K (.ref aa) "__class__" = some (some (.builtin "object.__class__")))(ga:mroIn K aa (.type "BaseException")=some true)(cB:mroIn K aa (.type "object")=some true)(bc:(clsIn K aa).isSome=true)(fu:nsIn K mainGlobals "TooMany" = some (some (.ref ar)))(eI:nsIn K mainGlobals "NoName" = some (some (.ref ak)))(df:nsIn K mainGlobals "NoText" = some (some (.ref ab)))(gi:excIn K ab c8r "ValueError.__new__" = true)(dH:findIn K (.ref ab) "__getattribute__" = some (some (.builtin "BaseException.__getattribute__")))(dO:findIn K (.ref ab) "__getattr__" = some none)(ch:findIn K (.ref ab) "__class__" = some (some (.builtin "object.__class__")))(cc:mroIn K ab (.type "BaseException")=some true)(cG:mroIn K ab (.type "object")=some true)(dn:(clsIn K ab).isSome=true)(eJ:nsIn K mainGlobals "NoRow" = some (some (.ref au)))(sg:specialIn K (.builtin "object.__class__") "__get__" = some (some (.builtin "getset_descriptor.__get__")))(tk:PySem.W.takesIn K (.builtin "object.__class__")=some true)(eB:nsIn K mainGlobals "FIGURES" = some (some (.str "0123456789" gx)))(bL:nsIn K mainGlobals "NO_TURN_WORD" = some (some (.str "none" ed)))(dP:nsIn K mainGlobals "NO_ORDERS_WORD" = some (some (.str "-" fM)))(dy:nsIn K mainGlobals "LEAST_SIZE" = some (some (.int (2) fq)))(bI:nsIn K mainGlobals "MOST_SIZE" = some (some (.int (8) ef)))(bh:nsIn K mainGlobals "MOST_MARK" = some (some (.int (3) cP)))(gq:nsIn K mainGlobals "CELLS_OF_A_PLACE" = some (some (.int (4) bw)))(dc:nsIn K mainGlobals "NEW_MARK" = some (some (.int (2) cz)))(cO:nsIn K mainGlobals "NO_ORDER" = some (some (.int (-1) cT)))(eg:nsIn K mainGlobals "NO_TURN" = some (some (.int (-1) fO)))(eT:nsIn K mainGlobals "STILL" = some (some (.int (0) gu)))(fL:nsIn K mainGlobals "RUNG" = some (some (.int (1) gp)))(bQ:nsIn K mainGlobals "MOST_FIGURES" = some (some (.int (60) es)))(fz:nsIn K mainGlobals "STAND_ROWS" = some (some (.int (8) gm)))(ep:nsIn K mainGlobals "HANDS" = some (some (.ref aw)))(cp:K.lookup aw=some ⟨.type "tuple",none,.seq #[.str "giver" em,.str "taker" dB] fn,bP⟩)(fC:nsIn K mainGlobals "COMING_UP" = some (some (.ref az)))(fg:K.lookup az=some ⟨.type "tuple",none,.seq #[.str "rouse" gz,.str "clear" db,.str "mute" ez,.str "marks" cL] ei,gH⟩)(cU:nsIn K mainGlobals "WAITING" = some (some (.ref av)))(fN:K.lookup av=some ⟨.type "tuple",none,.seq #[.str "look" di,.str "wish" ff,.str "again" da,.str "sleep" dX,.str "hush" eC,.str "unwish" ek] dz,dd⟩)(cy:nsIn K mainGlobals "FREEING" = some (some (.ref aB)))(fB:K.lookup aB=some ⟨.type "tuple",none,.seq #[.str "free" bF,.str "card" eR,.str "ring" fV] eD,ey⟩)(bp:nsIn K mainGlobals "GIVER_STAGES" = some (some (.ref aA)))(cV:K.lookup aA=some ⟨.type "tuple",none,.seq #[.str "rouse" fm,.str "clear" eM,.str "mute" gN,.str "marks" bN,.str "told" bV,.str "lacks" cd,.str "look" gM,.str "wish" cf,.str "again" ca,.str "sleep" fw,.str "hush" cW,.str "unwish" cq,.str "number" bY,.str "left" fD,.str "thing" du,.str "mark" gO,.str "card" eE,.str "ring" bd] dD,gB⟩)(eN:nsIn K mainGlobals "TAKER_STAGES" = some (some (.ref aD)))(bs:K.lookup aD=some ⟨.type "tuple",none,.seq #[.str "rouse" eX,.str "clear" eV,.str "mute" ck,.str "marks" dA,.str "look" dq,.str "wish" ew,.str "again" fE,.str "sleep" fF,.str "hush" dJ,.str "unwish" gC,.str "number" eh,.str "left" gf,.str "thing" dj,.str "free" fk,.str "card" aW,.str "ring" fs] bE,fS⟩)(bt:nsIn K mainGlobals "len" = some none)(fG:nsIn K mainGlobals "range" = some none)(dN:nsIn K mainGlobals "max" = some none)(bR:nsIn K mainGlobals "min" = some none)(cm:nsIn K mainGlobals "isinstance" = some none)(dE:nsIn K mainGlobals "int" = some none)(ct:nsIn K mainGlobals "bool" = some none)(dG:nsIn K mainGlobals "list" = some none)(gl:nsIn K mainGlobals "all" = some none)(cE:nsIn K mainGlobals "tuple" = some none)(cY:nsIn K mainGlobals "str" = some none)(el:nsIn K mainGlobals "ValueError" = some none)(dQ:nsIn K mainGlobals "law" = some (some (.ref ax)))(gk:K.lookup ax=some ⟨bo,eK,.func (PySem.W.fnOf "law" "law" (a3c b5n) (a2e b5n) (g7 b5n) .none aI aN aP aF ay aL),fT⟩)(ev:codeIn K ay "law" = true)(go:keepIn K (.ref ax)=true)(gE:exmAny K (.ref ac) [.ref ac,.ref ad]=some true)(bJ:exmAny K (.ref ad) [.ref ac,.ref ad]=some true)(cg:exmOne K (.ref aa) (.ref am)=some true)(bG:kitOne K (.ref aa) (.ref ab)=some false)(bA:kitOne K (.ref aa) (.ref aa)=some true)(dR:kitOne K (.ref aa) (.type "ValueError")=some true)(bW:PySem.W.kitAny K (.ref aa) [.ref ac,.ref an,.ref ad,.ref ae,.ref ap,.ref ai,.ref af,.ref ak,.ref au,.ref aj]=some false)(gt:PySem.W.kitAny K (.ref aa) [.ref ag,.ref al,.ref ar]=some false)(eW:exmOne K (.ref ab) (.ref am)=some true)(fi:kitOne K (.ref ab) (.ref ab)=some true)(gR:kitOne K (.ref ab) (.ref aa)=some false)(co:kitOne K (.ref ab) (.type "ValueError")=some true)(gA:PySem.W.kitAny K (.ref ab) [.ref ac,.ref an,.ref ad,.ref ae,.ref ap,.ref ai,.ref af,.ref ak,.ref au,.ref aj]=some false)(gD:PySem.W.kitAny K (.ref ab) [.ref ag,.ref al,.ref ar]=some false):
  ∃fd:FuncData,(∀(s:Shared)(v:Value),BindsTo s fd ⟨[v],[]⟩ [("script",v)])/\∀base:Heap,K.In base->base.Ns mainGlobals mg->c6q l.prog w K mg base (CXK l.prog w) 10 fa fd ["script"] (c0x K):=by
 let cl:Cl:=⟨am,ae,ag,an,ap,ai,ac,ad,af,al,aj,aa,ar,ak,ab,au,aw,az,av,aB,aA,aD⟩
 have e:=hfa.symm.trans (mg_of X G dQ);cases e;have T:Txt K mg cl:=⟨⟨mg_of X G fP⟩,
  ⟨⟨cD,ej,bb,dV,fQ,eH,fY,sg,tk⟩,mg_of X G gI⟩,
  ⟨⟨et,fr,dv,ec,cH,cj,ci,sg,tk⟩,mg_of X G ge⟩,
  ⟨mg_of X G fo⟩,
  ⟨mg_of X G dI⟩,
  ⟨mg_of X G dT⟩,
  ⟨⟨gj,fA,fc,bn,en,dr,er,sg,tk⟩,mg_of X G eS⟩,
  ⟨⟨eF,gb,dl,fe,ds,fy,bf,sg,tk⟩,mg_of X G aZ⟩,
  ⟨⟨cI,dY,fx,gy,fI,be,cx,sg,tk⟩,mg_of X G eA⟩,
  ⟨mg_of X G dh⟩,
  ⟨mg_of X G fU⟩,
  ⟨⟨cu,dC,bO,dg,ga,cB,bc,sg,tk⟩,mg_of X G aY⟩,
  ⟨mg_of X G fu⟩,
  ⟨mg_of X G eI⟩,
  ⟨⟨gi,dH,dO,ch,cc,cG,dn,sg,tk⟩,mg_of X G df⟩,
  ⟨mg_of X G eJ⟩,
  ⟨_,mg_of X G dy⟩,
  ⟨_,mg_of X G bI⟩,
  ⟨_,mg_of X G bh⟩,
  ⟨_,mg_of X G gq⟩,
  ⟨_,mg_of X G dc⟩,
  ⟨_,mg_of X G cO⟩,
  ⟨_,mg_of X G eg⟩,
  ⟨_,mg_of X G eT⟩,
  ⟨_,mg_of X G fL⟩,
  ⟨_,mg_of X G bQ⟩,
  ⟨_,mg_of X G fz⟩,
  ⟨_,mg_of X G eB⟩,
  ⟨_,mg_of X G bL⟩,
  ⟨_,mg_of X G dP⟩,
  mg_of X G ep,
  ⟨_,_,_,cp,(show 2<=sizeLine by decide),.cons ⟨_,rfl⟩ (.cons ⟨_,rfl⟩ (.nil))⟩,
  mg_of X G fC,
  ⟨_,_,_,fg,(show 4<=sizeLine by decide),.cons ⟨_,rfl⟩ (.cons ⟨_,rfl⟩ (.cons ⟨_,rfl⟩ (.cons ⟨_,rfl⟩ (.nil))))⟩,
  mg_of X G cU,
  ⟨_,_,_,fN,(show 6<=sizeLine by decide),.cons ⟨_,rfl⟩ (.cons ⟨_,rfl⟩ (.cons ⟨_,rfl⟩ (.cons ⟨_,rfl⟩ (.cons ⟨_,rfl⟩ (.cons ⟨_,rfl⟩ (.nil))))))⟩,
  mg_of X G cy,
  ⟨_,_,_,fB,(show 3<=sizeLine by decide),.cons ⟨_,rfl⟩ (.cons ⟨_,rfl⟩ (.cons ⟨_,rfl⟩ (.nil)))⟩,
  mg_of X G bp,
  ⟨_,_,_,cV,(show 18<=sizeLine by decide),.cons ⟨_,rfl⟩ (.cons ⟨_,rfl⟩ (.cons ⟨_,rfl⟩ (.cons ⟨_,rfl⟩ (.cons ⟨_,rfl⟩ (.cons ⟨_,rfl⟩ (.cons ⟨_,rfl⟩ (.cons ⟨_,rfl⟩ (.cons ⟨_,rfl⟩ (.cons ⟨_,rfl⟩ (.cons ⟨_,rfl⟩ (.cons ⟨_,rfl⟩ (.cons ⟨_,rfl⟩ (.cons ⟨_,rfl⟩ (.cons ⟨_,rfl⟩ (.cons ⟨_,rfl⟩ (.cons ⟨_,rfl⟩ (.cons ⟨_,rfl⟩ (.nil))))))))))))))))))⟩,
  mg_of X G eN,
  ⟨_,_,_,bs,(show 16<=sizeLine by decide),.cons ⟨_,rfl⟩ (.cons ⟨_,rfl⟩ (.cons ⟨_,rfl⟩ (.cons ⟨_,rfl⟩ (.cons ⟨_,rfl⟩ (.cons ⟨_,rfl⟩ (.cons ⟨_,rfl⟩ (.cons ⟨_,rfl⟩ (.cons ⟨_,rfl⟩ (.cons ⟨_,rfl⟩ (.cons ⟨_,rfl⟩ (.cons ⟨_,rfl⟩ (.cons ⟨_,rfl⟩ (.cons ⟨_,rfl⟩ (.cons ⟨_,rfl⟩ (.cons ⟨_,rfl⟩ (.nil))))))))))))))))⟩,
  mg_none_of X G bt,
  mg_none_of X G fG,
  mg_none_of X G dN,
  mg_none_of X G bR,
  mg_none_of X G cm,
  mg_none_of X G dE,
  mg_none_of X G ct,
  mg_none_of X G dG,
  mg_none_of X G gl,
  mg_none_of X G cE,
  mg_none_of X G cY,
  mg_none_of X G el⟩
 have bx:=c9j (st:=b5n) gk ev go;refine⟨PySem.W.fnOf "law" "law" (a3c b5n) (a2e b5n) (g7 b5n) .none aI aN aP aF ay aL,λs v=>.of_eq rfl,λbase _ _=>?_⟩;have kdB:=(⟨T.c_BadStand.k,cg,bG,bA,dR,bW,gt⟩:Kd K cl cl.BadStand false true);have kdN:=(⟨T.c_NoText.k,eW,fi,gR,co,gA,gD⟩:Kd K cl cl.NoText true false);have aE:=(b6j (dM.t X G λ_ _ _ _ _ _=>ba1 λ_=>rfl) T:FnT l.prog w K mg base _ _ _ _);have cQ:=b6i (bT.t X G λ_ _ _ _ _ _=>ba2 λ_ _=>rfl) T aE;have gc:=c0c (cn.t X G λ_ _ _ _ _ _=>ba3 λ_ _ _=>rfl) T cQ;have ah:=(c0a (cv.t X G λ_ _ _ _ _ _=>ba2 λ_ _=>rfl) T:FnT l.prog w K mg base _ _ _ _);have gn:=(b9y (dx.t X G λ_ _ _ _ _ _=>ba2 λ_ _=>rfl) T:FnT l.prog w K mg base _ _ _ _);have fH:=(b6k (fZ.t X G λ_ _ _ _ _ _=>ba1 λ_=>rfl) T:FnT l.prog w K mg base _ _ _ _);have eq:=(b8g (aV.t X G λ_ _ _ _ _ _=>ba1 λ_=>rfl) T:FnT l.prog w K mg base _ _ _ _);have aT:=b8m (cA.t X G λ_ _ _ _ _ _=>ba2 λ_ _=>rfl) T aE fH;have gv:=b8n (cM.t X G λ_ _ _ _ _ _=>ba2 λ_ _=>rfl) T aT;have eZ:=(b8e (dk.t X G λ_ _ _ _ _ _=>ba1 λ_=>rfl) T:FnT l.prog w K mg base _ _ _ _);have cK:=b4m (cN.t X G λ_ _ _ _ _ _=>ba1 λ_=>rfl) T eq;have eu:=b1u (cr.t X G λ_ _ _ _ _ _=>ba2 λ_ _=>rfl) T cK aT gv;have dS:=b1s (bU.t X G λ_ _ _ _ _ _=>ba1 λ_=>rfl) T eZ eu;have cS:=b8i (bq.t X G λ_ _ _ _ _ _=>ba2 λ_ _=>rfl) T ah;have aS:=(b7z (gd.t X G λ_ _ _ _ _ _=>ba3 λ_ _ _=>rfl) T:FnT l.prog w K mg base _ _ _ _);have aR:=(b8f (gG.t X G λ_ _ _ _ _ _=>ba3 λ_ _ _=>rfl) T:FnT l.prog w K mg base _ _ _ _);have dL:=(b8c (bj.t X G λ_ _ _ _ _ _=>ba4 λ_ _ _ _=>rfl) T:FnT l.prog w K mg base _ _ _ _);have fb:=b6h (cb.t X G λ_ _ _ _ _ _=>ba3 λ_ _ _=>rfl) T aS aR dL;have ea:=(b3f (cR.t X G λ_ _ _ _ _ _=>ba3 λ_ _ _=>rfl) T:FnT l.prog w K mg base _ _ _ _);have bm:=b8b (bv.t X G λ_ _ _ _ _ _=>ba5 λ_ _ _ _ _=>rfl) T gc;have eP:=b6b (ee.t X G λ_ _ _ _ _ _=>ba2 λ_ _=>rfl) T aS aR ea bm;have de:=(b9x (fv.t X G λ_ _ _ _ _ _=>ba2 λ_ _=>rfl) T:FnT l.prog w K mg base _ _ _ _);have bl:=b8d (dm.t X G λ_ _ _ _ _ _=>ba2 λ_ _=>rfl) T de;have dU:=b1r (ce.t X G λ_ _ _ _ _ _=>ba3 λ_ _ _=>rfl) T gE bJ dS bl;have aO:=b4q (bg.t X G λ_ _ _ _ _ _=>ba1 λ_=>rfl) T dU fb eP;have eQ:=(b8l (ft.t X G λ_ _ _ _ _ _=>ba1 λ_=>rfl) T:FnT l.prog w K mg base _ _ _ _);have aq:=b4l (gw.t X G λ_ _ _ _ _ _=>ba1 λ_=>rfl) T eQ;have aM:=b3h (gg.t X G λ_ _ _ _ _ _=>ba1 λ_=>rfl) T aq;have eU:=(b3g (fK.t X G λ_ _ _ _ _ _=>ba1 λ_=>rfl) T:FnT l.prog w K mg base _ _ _ _);have bS:=(b7x (eO.t X G λ_ _ _ _ _ _=>ba1 λ_=>rfl) T:FnT l.prog w K mg base _ _ _ _);have aG:=b7y (bH.t X G λ_ _ _ _ _ _=>ba1 λ_=>rfl) T aq;have cF:=b4j (gJ.t X G λ_ _ _ _ _ _=>ba1 λ_=>rfl) T eU;have gr:=b4k (dF.t X G λ_ _ _ _ _ _=>ba1 λ_=>rfl) T aM;have cw:=(b9v (dw.t X G λ_ _ _ _ _ _=>ba2 λ_ _=>rfl) T:FnT l.prog w K mg base _ _ _ _);have ao:=(b8a (gh.t X G λ_ _ _ _ _ _=>ba2 λ_ _=>rfl) T:FnT l.prog w K mg base _ _ _ _);have aC:=b9w (bX.t X G λ_ _ _ _ _ _=>ba2 λ_ _=>rfl) T ao aM;have eL:=a9q (fW.t X G λ_ _ _ _ _ _=>ba2 λ_ _=>rfl) T ao gr;have bK:=b6g (fR.t X G λ_ _ _ _ _ _=>ba2 λ_ _=>rfl) T ao aC aG aq;have bM:=b6a (cC.t X G λ_ _ _ _ _ _=>ba3 λ_ _ _=>rfl) T ao aC aG aq;have bu:=b6d (eG.t X G λ_ _ _ _ _ _=>ba1 λ_=>rfl) T aC bK bM eL aO;have cs:=b6c (dp.t X G λ_ _ _ _ _ _=>ba1 λ_=>rfl) T aO bS cw cF;have aU:=c3a (eY.t X G λ_ _ _ _ _ _=>ba1 λ_=>rfl) T ah;have bC:=b8j (gQ.t X G λ_ _ _ _ _ _=>ba3 λ_ _ _=>rfl) T ah;have cZ:=b8h (bz.t X G λ_ _ _ _ _ _=>ba2 λ_ _=>rfl) T ah aU;have gs:=b1t (fX.t X G λ_ _ _ _ _ _=>ba1 λ_=>rfl) T ah aU cS bC cZ;have aQ:=(b4p (cX.t X G λ_ _ _ _ _ _=>ba3 λ_ _ _=>rfl) T:FnT l.prog w K mg base _ _ _ _);have aJ:=(b3l (fJ.t X G λ_ _ _ _ _ _=>ba3 λ_ _ _=>rfl) T:FnT l.prog w K mg base _ _ _ _);have ex:=b3k (fl.t X G λ_ _ _ _ _ _=>ba3 λ_ _ _=>rfl) T aQ aJ;have gK:=b3i (dW.t X G λ_ _ _ _ _ _=>ba2 λ_ _=>rfl) T aQ aJ;have eb:=b3j (dK.t X G λ_ _ _ _ _ _=>ba1 λ_=>rfl) T ex gK;have gP:=(a9r (bi.t X G λ_ _ _ _ _ _=>ba1 λ_=>rfl) T:FnT l.prog w K mg base _ _ _ _);have bZ:=b4n (bk.t X G λ_ _ _ _ _ _=>ba1 λ_=>rfl) T gP;have aH:=(b6f (br.t X G λ_ _ _ _ _ _=>ba1 λ_=>rfl) T:FnT l.prog w K mg base _ _ _ _);have aK:=b4o (cJ.t X G λ_ _ _ _ _ _=>ba1 λ_=>rfl) T aH;have aX:=b9z (gF.t X G λ_ _ _ _ _ _=>ba1 λ_=>rfl) T aH;have eo:=a9s (fh.t X G λ_ _ _ _ _ _=>ba1 λ_=>rfl) T aK;have dt:=c0b (gL.t X G λ_ _ _ _ _ _=>ba1 λ_=>rfl) T aK aX eo;have fp:=b8k (bB.t X G λ_ _ _ _ _ _=>ba1 λ_=>rfl) T kdB kdN bu;have bD:=b6e (dZ.t X G λ_ _ _ _ _ _=>ba2 λ_ _=>rfl) T ah;have fj:=d3g bx T ah gn gs cs bZ fp bD dt eb;exact fj
theorem walk{l:PySem.W.OpenLaw}{q:Program}{loose:List Str}{XP:(Str->Option Value)->Heap->Prop}{YP:World->Heap->Prop}{d:DefRec}{K:Params->Frag}(hn:l.most=some 63)(hdf:d.params.defaults=[])(hY:∀(w:World) (h:Heap),YP w h->(K w.params).In h)(F:∀(w:World) (mg:Str->Option Value) (fa:Addr) (h:Heap),(K w.params).In h->h.Ns mainGlobals mg->mg d.name=some (.ref fa) ->
   ∃fd:FuncData,(∀(s:Shared) (u:Value),BindsTo s fd ⟨[u],[]⟩ [("script",u)])/\∀base:Heap,(K w.params).In base->base.Ns mainGlobals mg->c6q l.prog w (K w.params) mg base (CXK l.prog w) 10 fa fd ["script"] (c0x (K w.params))):
  PySem.W.WalkO q loose XP YP l.row.toRowW d [] (λf vs=>PySem.call f vs) :=
 L2.walk_of (n:=63) (k:=10) (x:="script") (CX:=λw=>CXK l.prog w) (sp:=λw=>c0x (K w.params)) hn ↑5 hdf ⟨rfl,by decide,by decide⟩ hY F (λ_ _ a ns hl _ hS=>⟨a,ns,rfl,hS,hl,λ_=>rfl⟩)
  λ_ _ _ _ _ z=>by obtain⟨_,_,_,_,_,_,_,q⟩:=z;exact q
end S
open PySem PySem.W PyProof.Rows
set_option maxRecDepth 100000
set_option maxHeartbeats 0
theorem PySem.Challenge.cw_slipring_k37_whole_stand_texts_holds : PySem.Challenge.rw_slipring_k37_whole_stand_texts.Holds := by
 refine hd ?_
 k_fill
 refine S.walk (l := PySem.Challenge.rw_slipring_k37_whole_stand_texts) rfl rfl (fun w h Y => PySem.W.kIn_of Y) ?F
 case F =>
  intro w mg fa h KX G hmg
  apply S.all_mk (X := KX) (G := G) (hfa := hmg)
  all_goals try (first | k_is | kit_is | kts_exm | kernel_rfl)
  all_goals first | (refine' S.AtG.of ?d ?a ?b ?c; (case d => k_is); (case a => k_is); (case b => k_is); (case c => k_is)) | (refine' S.AtM.of ?d ?i ?a ?b ?c; (case d => k_is); (case i => k_is); (case a => k_is); (case b => k_is); (case c => k_is)) | (refine' S.AtF.of ?a ?b ?c; (case a => k_is); (case b => k_is); (case c => k_is)) | skip
