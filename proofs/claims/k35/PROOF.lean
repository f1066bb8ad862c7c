import PyProof.Rows.All
import OpenK.KLine
import Lean
import PyProof.EqAt
import PyProof.EqKinds
import PyProof.TupleCall
import PyProof.NsDelKeeps
import PyProof.NeKinds
import PyProof.CompFree
import PyProof.CompMap
import KE.LcSums
import PyProof.CompUse
import PyProof.Rows.RuleIs
import PyProof.Rows.RuleIs2
import PyProof.ZipIter
import PyProof.DictKinds
import PyProof.DictRoads
import PyProof.AutoRange
import PyProof.FactsAll.range_1
import KE.KTryMore
import KE.KDictOf
import KE.KDictList
import KE.KFromBytes
import KE.KIsAll
import KE.KItem
import KE.KxBytes
import KE.RegKIsAll
import KE.RegKTryMore
import PySem.Challenge.RW_slipring_k35_whole_any_stand
set_option Elab.async false
set_option linter.all false
set_option maxRecDepth 100000
set_option maxHeartbeats 4000000
section
open PySem PySem.W PyProof.Rows
set_option maxRecDepth 100000
set_option maxHeartbeats 0
theorem hk2{K:Params->Frag}{as:List Addr}(n:Nat)(e:∀P,as=(K P).map (·.1))(w:World)(s:Shared)(x:((as.take n).map s.heap.get?,(as.drop n).map s.heap.get?)=(((K w.params).take n).map (λp=>some p.2),((K w.params).drop n).map λp=>some p.2)):InK K w s.heap:=InK.of e w s (by simpa only[<-List.map_append,List.take_append_drop] using congr (congrArg (·++·) (Prod.mk.inj x).1) (Prod.mk.inj x).2)
set_option hygiene false in
local macro_rules|`(tactic| refine $hd ($n1 := $v1) ($n2 := $v2) ($n3 := $v3) ($n4 := $v4) ($n5 := $_ ($_ $k $a $e)) ($n6 := $_) ($n7 := $v7) ($n8 := $v8) $x1 $_ $x3 $x4 $x5 $x6 $x7 $x8 $x9 $x10 $x11 $x12 $x13 $x14 $x15)=>`(tactic| refine $hd ($n1 := $v1) ($n2 := $v2) ($n3 := $v3) ($n4 := $v4) ($n5 := fun s=>(List.map s.heap.get? (List.take 400 $a),List.map s.heap.get? (List.drop 400 $a))) ($n6 := fun w=>(List.map (fun p=>some p.2) (List.take 400 ($k w.params)),List.map (fun p=>some p.2) (List.drop 400 ($k w.params)))) ($n7 := $v7) ($n8 := $v8) $x1 (hk2 400 $e) $x3 $x4 $x5 $x6 $x7 $x8 $x9 $x10 $x11 $x12 $x13 $x14 $x15)
namespace PySem.W.Fast
def tw10215653194048460750:=()
def tw10368827614151553891:=()
def tw10374632558016547081:=()
def tw106238620676264406:=()
def tw10627929193734500438:=()
def tw11589282660436910429:=()
def tw12731152576971404446:=()
def tw12894966596032860446:=()
def tw13049043944605299518:=()
def tw13265978090383273239:=()
def tw13335705896399762533:=()
def tw13406242734642179557:=()
def tw13788375583471885543:=()
def tw14800370929953404514:=()
def tw15287458311979695817:=()
def tw15359611588545569252:=()
def tw1553070064772056885:=()
def tw15574524504482813658:=()
def tw16100691501515759841:=()
def tw16506471722634982818:=()
def tw17168980875799763487:=()
def tw17220015495783076721:=()
def tw17312523289201507379:=()
def tw1746218435276623534:=()
def tw17689344090056996911:=()
def tw2042216218616555271:=()
def tw2255770438638334868:=()
def tw243476719192100926:=()
def tw2856214414015684678:=()
def tw2867014007035675111:=()
def tw2875624504187281209:=()
def tw3136648224631416188:=()
def tw3149874078143834461:=()
def tw3237361815906912622:=()
def tw3303125067297235306:=()
def tw3507769193172341495:=()
def tw3940733116343649955:=()
def tw3945831679567021610:=()
def tw4051100617705072042:=()
def tw4529759306923343198:=()
def tw5300429955715640911:=()
def tw5320619654261168702:=()
def tw5496849259710009554:=()
def tw5755698098265639709:=()
def tw6360962186427211742:=()
def tw6594970650091316094:=()
def tw6621635546502472408:=()
def tw6872789842757496876:=()
def tw6902112737364599210:=()
def tw7478123994339007903:=()
def tw7547148692491927654:=()
def tw769673065995600656:=()
def tw7717739269364935801:=()
def tw7774113678449685934:=()
def tw7972597371183930068:=()
def tw8327717152232216106:=()
def tw8580278572312639014:=()
def tw861502493610598483:=()
def tw8854275682344465072:=()
def tw8997383693586321770:=()
def tw9363214764283991203:=()
def tw9385439782273163706:=()
def tw938635154573522699:=()
def tw16167708318613246984:=()
def tw9525436842865473142:=()
def tw14562155634004365027:=()
def tw12441744018607269044:=()
def tw6094820017090691545:=()
def tw5805800948307579973:=()
def tw506581581156960101:=()
def tw14607143338591219252:=()
def tw8122695690928665766:=()
def tw11824586356888161845:=()
def tw14647417624928369756:=()
def tw2576523973992343609:=()
def tw6044648929357246223:=()
def tw18293242582946804979:=()
def tw6420159726195949164:=()
def tw13855379610559885079:=()
def tw724461010609807574:=()
def tw8984893954669693527:=()
def tw3308634892276815127:=()
def tw16567430530900736849:=()
def tw3946093964270102607:=()
def tw5341865396476803018:=()
def tw446110843843071267:=()
def tw4835942615686071818:=()
def tw2765187732825374138:=()
def tw10988764466652934233:=()
def tw17518593693041627797:=()
def tw14903569129155370506:=()
def tw2931988195819169919:=()
def tw4724775325020269224:=()
def tw6128106870883400570:=()
def tw3512428149003415425:=()
def tw11499599281419925204:=()
def tw4408816720484365081:=()
def tw12369848792361866835:=()
def tw15117199230931547845:=()
def tw11548872703181320951:=()
def tw9969077435446430640:=()
def tw9767487789085045792:=()
def tw8413399678365625193:=()
def tw12353832898886458896:=()
def tw15125770126966510544:=()
def tw5286648830458609394:=()
def tw1813447740672882537:=()
def tw10146569101766770184:=()
def tw6856243202995728640:=()
def tw17877845533520812795:=()
def tw12936088452001202715:=()
def tw16872663757069071308:=()
def tw6325675986683464353:=()
def tw7091221385724896812:=()
def tw16212330677787901120:=()
def tw12125097214300078407:=()
def tw12284071716729939190:=()
def tw5171440476677080432:=()
def tw4772062507164038959:=()
def tw16998588944726240723:=()
def tw14284835775768690865:=()
def tw14569604634059749682:=()
def tw7164969610272591079:=()
def tw4776297677400877519:=()
def tw13575289164829896131:=()
def tw13313058339493701161:=()
def tw9900248900824953880:=()
def tw1205604411410820431:=()
def tw12330612334027959195:=()
def tw2595618661548880785:=()
def tw1378205811072252300:=()
def tw3726453103677007866:=()
def tw15057269961097804198:=()
def tw13629772047308552242:=()
def tw16260866306193365299:=()
def tw4334401890000744311:=()
def tw17696404316872724479:=()
def tw8565224436197482051:=()
def tw16140922888777852060:=()
def tw2474200967059427378:=()
def tw9404705873571188630:=()
def tw16103829930404553856:=()
def tw16765560720781731146:=()
def tw12236101354414956334:=()
def tw16489938334050473467:=()
def tw12099505692703838030:=()
def tw8297923619242306668:=()
def tw2345282404023599388:=()
def tw424408320835691240:=()
def tw6191700953566675008:=()
def tw3520257249291928256:=()
def tw14261769069557060686:=()
def tw4449297822257671152:=()
def tw3238445694619138142:=()
def tw5010956058597451964:=()
def tw16005714805435085966:=()
def tw7631737481131229992:=()
def tw12461081396071149458:=()
def tw12715800853834201459:=()
def tw6828597562223498359:=()
def tw4026147355466621588:=()
def tw6170744672141170255:=()
def tw10921404820163398068:=()
def tw4860023922305330110:=()
def tw4684226298888400098:=()
def tw7520747337044880989:=()
def tw12670982853097334264:=()
def tw15969335453137586327:=()
def tw4490611911172417597:=()
def tw3335794202401238526:=()
def tw6194202620331982285:=()
def tw1806552939246519952:=()
def tw10861573186032746274:=()
def tw10953238642706405951:=()
def tw11095110211248682772:=()
def tw7350462372000428638:=()
def tw5240077947681225987:=()
def tw4102176305081739490:=()
def tw5522115075389312692:=()
def tw1998347030407657756:=()
def tw17937168697417666835:=()
def tw11793702604926673555:=()
def tw17963105932079019327:=()
def tw3328118118096588273:=()
def tw1986786360949550309:=()
def tw5371794888043636658:=()
def tw17049750858520166293:=()
def tw12517015155858063196:=()
def tw9402243437249704421:=()
def tw10052031235695348791:=()
def tw16309811473084048462:=()
def tw1956260828630720203:=()
def tw2846267367221353805:=()
def tw15831126876759372255:=()
def tw4884199854448574:=()
def tw17613222154834848340:=()
def tw6128145076113358165:=()
def tw14546174082565282566:=()
def tw12550775161083096063:=()
def tw1142673529048489019:=()
def tw5239429619861171699:=()
def tw3208522521903949160:=()
def tw11757307120078846540:=()
def tw885948055608056263:=()
def tw18066248841608746250:=()
def tw10550934584343373414:=()
def tw18400553757987027518:=()
def tw13953587524928339648:=()
def tw6880980288501444468:=()
def tw10295913840692754127:=()
def tw4483904966330829159:=()
def tw9104974531708491489:=()
def tw13034982811429478159:=()
def tw10341888390210383824:=()
def tw4323258101793500111:=()
def tw4309217394794523951:=()
def tw11844019762684407370:=()
def tw1467881925912835984:=()
def tw6030501089693204938:=()
def tw2046362190076281809:=()
def tw977512076041815475:=()
def tw14441679199631801671:=()
def tw13385558918117058561:=()
def tw547895379624588593:=()
def tw17312402878845073609:=()
def tw10094733558918713432:=()
def tw13367274342830030513:=()
def tw8431482922422412695:=()
def tw15541240446876304647:=()
def tw6542358382571353910:=()
def tw15254633091992210921:=()
def tw10236332898609347644:=()
def tw15554417296805563061:=()
def tw9553971096990549364:=()
def tw4600438763894957952:=()
def tw5306753302271460952:=()
def tw17590876675597686902:=()
def tw15214748959534726111:=()
def tw8428246938381088814:=()
def tw11512705759438076691:=()
def tw1835071406663858368:=()
def tw12732229965196715158:=()
def tw14202271707224943307:=()
def tw11853640710764476214:=()
def tw14074196154385387334:=()
def tw14592624751514493413:=()
def tw16864618592142003386:=()
def tw11513857634932158529:=()
def tw16101134707931498060:=()
def tw9006961074152924250:=()
def tw3652199383789512132:=()
def tw10470340158578859262:=()
def tw699815216081779126:=()
def tw17986951261819808105:=()
def tw1545724803604235189:=()
def tw7287071566680170395:=()
def tw3436067635600285980:=()
def tw16766484511958638138:=()
def tw11205608169257636508:=()
def tw17508347553164502932:=()
def tw17691633702590694504:=()
def tw18026862514907990334:=()
def tw10312438410070409164:=()
def tw17823556299335049440:=()
def tw4683681711962371626:=()
def tw15593559885672580101:=()
def tw8981176238543900561:=()
def tw17946048357616127039:=()
def tw4493901809537577575:=()
def tw6900931685637148767:=()
def tw16116027297012810434:=()
def tw10698057553749749337:=()
def tw11408881796089955267:=()
def tw727553628536289456:=()
def tw11384182702204212275:=()
def tw18383651708701053236:=()
def tw7353485770183898095:=()
def tw4171853373547519906:=()
def tw896878414759379649:=()
def tw16120054744476736488:=()
def tw16636501806038632012:=()
def tw7484994123860896570:=()
def tw9584292182412213727:=()
def tw15063496595227678153:=()
def tw6548459193220583526:=()
def tw8950108695139179302:=()
def tw13348088958985639553:=()
def tw17397653436517662659:=()
def tw7943549864190904611:=()
def tw3300257896294614128:=()
def tw4290864757253303354:=()
def tw16902440903046159558:=()
def tw16583815154217966991:=()
def tw6557801498797044033:=()
def tw12269216009862288129:=()
def tw12132732476715806282:=()
def tw5948871876076421671:=()
def tw16728255500844073214:=()
def tw10539347186207431242:=()
def tw13439652990877377571:=()
def tw6864887910540207759:=()
def tw13601115934706021691:=()
def tw3236729772642805936:=()
def tw10624116801336726872:=()
def tw18127189064453720709:=()
def tw2810200551564342888:=()
def tw2629151800749243262:=()
def tw6568467687531709037:=()
def tw4480162626587320490:=()
def tw18418582437962087742:=()
def tw628631919661052299:=()
def tw2238811745713579835:=()
def tw11738243743197964597:=()
def tw5622701340561072331:=()
def tw5725222548895626118:=()
def tw7631320640757110747:=()
def tw8757050672659960515:=()
def tw5672623616920478581:=()
def tw18060790324241045014:=()
def tw5322009542560784348:=()
def tw6690350156832105676:=()
def tw8176730645128964420:=()
def tw206757683497733573:=()
def tw5362065267786361690:=()
def tw10958628066121416707:=()
def tw14170518179582410385:=()
def tw8996207646774452837:=()
def tw17583645235957782780:=()
def tw11401859456886640639:=()
def tw17525541185626968058:=()
def tw1045582712504079209:=()
def tw17163426234232328066:=()
def tw16773468814595293053:=()
def tw5205737364524765896:=()
def tw3992765435912101610:=()
def tw6084841979344569690:=()
def tw12297992134047619483:=()
def tw7921390202802761869:=()
def tw12652081859355081885:=()
def tw8546256303203405941:=()
def tw6984818610989830729:=()
def tw1607123104830579860:=()
def tw11481637867367846703:=()
def tw16132249320637822498:=()
def tw5078490731148736755:=()
def tw12528221419883600679:=()
def tw4548300405975405348:=()
def tw15138174406397646402:=()
def tw2741014181512449073:=()
def tw3395767286715763500:=()
def tw3075201292733833056:=()
def tw10510019762269167821:=()
def tw5226586810942512283:=()
def tw12048842499501423295:=()
def tw8047209995159408440:=()
def tw13716781843517864737:=()
def tw17348111734160510231:=()
def tw12528533614272120300:=()
def tw8191318114535113306:=()
def tw9630203353718772412:=()
def tw785946285636773999:=()
def tw13303234937177203706:=()
def tw542563422162235373:=()
def tw2759284407945088205:=()
def tw12325864989022198202:=()
def tw15481805183316651443:=()
def tw9496581404884138560:=()
def tw17871049288011112270:=()
def tw18402647697222807634:=()
def tw16145670418848962200:=()
def tw5920806927976990809:=()
def tw17360015989920007124:=()
def tw2990168724187919761:=()
def tw1692201390411429781:=()
def tw9252304221032618942:=()
def tw15052318979288761249:=()
def tw2868442198168577507:=()
def tw17890440400047909864:=()
def tw11280630913190679075:=()
def tw9676783613728631035:=()
def tw16531682779099013679:=()
def tw5610444585433571239:=()
def tw431221854992830470:=()
def tw11112856592854345388:=()
def tw1129948795310169627:=()
def tw13082796549270168242:=()
def tw5832146486336120021:=()
def tw11219443903484984970:=()
def tw8274446707539698164:=()
def tw1484650774730072618:=()
def tw14398111036562950334:=()
def tw8210202977690762169:=()
def tw1405720946626083897:=()
def tw9358312197846296583:=()
def tw12360917755211006479:=()
def tw9818998656811842119:=()
def tw4340673293219707767:=()
def tw4538635040379822027:=()
def tw16060203290454839817:=()
def tw10388488172074580225:=()
def tw5019544711922104826:=()
def tw134869140600922118:=()
def tw15418674001244492974:=()
def tw4517560463748656503:=()
def tw4773484457636388862:=()
def tw761803264340522177:=()
def tw10206286209542907786:=()
def tw14144024108822670751:=()
def tw5137589814051832496:=()
def tw7900394595670775223:=()
def tw14935156969734317764:=()
def tw7372170664606466022:=()
def tw1517009173149250642:=()
def tw11564986514327137767:=()
def tw11153475782318119604:=()
def tw13333588703604149420:=()
def tw13257414776242894994:=()
def tw14755158882433999464:=()
def tw18101783494082082527:=()
def tw8332346137001284160:=()
def tw12524954882073270795:=()
def tw15702583709834301711:=()
def tw17216001249096748393:=()
def tw12858089460409395330:=()
def tw140236481695663071:=()
def tw7574704160914276066:=()
def tw14479964200598819128:=()
def tw14556482736207283325:=()
def tw16080672043311297529:=()
def tw12960429369202013873:=()
def tw1979317910248211280:=()
def tw261171577418715137:=()
def tw13205091638197436094:=()
def tw7485256538410118956:=()
def tw17278973380088787663:=()
def tw4993863958327201973:=()
def tw13037224057902187189:=()
def tw7867829370405329436:=()
def tw9320515035125037321:=()
def tw8219003486749837733:=()
def tw3641951560692057861:=()
def tw3042748168174471775:=()
def tw17760279517084355780:=()
def tw5404398260228975080:=()
def tw9847850075989111346:=()
def tw7777280633956137809:=()
def tw17431205604353252913:=()
def tw14935467056822913822:=()
def tw5449563278759341024:=()
def tw9536688357841153863:=()
def tw4946147512530127568:=()
def tw3831019782443316194:=()
def tw8733291241859026926:=()
def tw7424060955962978353:=()
def tw14760874974797668852:=()
def tw1205274952441263945:=()
def tw3985964047577975286:=()
def tw2754379104384642236:=()
def tw18073898193381586223:=()
def tw13996866031312336078:=()
def tw11468729153070441980:=()
def tw8185545411690514434:=()
def tw16086907953836968628:=()
def tw12382822922155266910:=()
def tw12611869695672147664:=()
def tw9689729476882780088:=()
def tw15627779663793561183:=()
def tw2638924239945547994:=()
def tw9860861378791804195:=()
def tw87601786513091389:=()
def tw12435058653956393420:=()
def tw11962351593759143498:=()
def tw8840235324560252208:=()
def tw5960047855520388891:=()
def tw13053770412826190925:=()
def tw10551173667578312727:=()
def tw3543459598558145280:=()
def tw2941924889016668590:=()
def tw15402603294489630176:=()
def tw12250869413391326473:=()
def tw2358075552688931204:=()
def tw3239113980409921550:=()
def tw2773992215795510196:=()
def tw7007286002206832825:=()
def tw17260811203177919210:=()
def tw16860917588515726111:=()
def tw8414355815457870901:=()
def tw6125853113672642322:=()
def tw3235425350174046738:=()
def tw11707130962622978684:=()
def tw5667099127317398114:=()
def tw2466311954974566718:=()
def tw13215348057498601715:=()
def tw5344687154915797982:=()
def tw86012387029904805:=()
def tw11555995132304969306:=()
def tw896239598344801917:=()
def tw5055593616971399804:=()
def tw2754868194923854518:=()
def tw15792790952358468732:=()
def tw4635989785427082552:=()
def tw16409965706819354750:=()
def tw15150329256914348856:=()
def tw17410218998227585676:=()
def tw13936439389310444312:=()
def tw11566098044289413073:=()
def tw15240619367488684849:=()
def tw8912161614967838395:=()
def tw5037459499596335280:=()
def tw17351735930882485243:=()
def tw11308061921803828041:=()
def tw13757698761724263525:=()
def tw9456574344343218679:=()
def tw5438652380644606353:=()
def tw15779231459743154856:=()
def tw12772213712371865176:=()
def tw16232239604740543338:=()
def tw9977182230042388008:=()
def tw5702276774652866934:=()
def tw2455152089536381482:=()
def tw2353497105660221152:=()
def tw16670775579421159206:=()
def tw11429584451438056573:=()
def tw4757880891971583632:=()
def tw5661595848482461739:=()
def tw8422229294311615681:=()
def tw646091604453992162:=()
def tw28018229315631829:=()
def tw14689541978594310382:=()
def tw14022695629967993375:=()
def tw9381626543082597023:=()
def tw5458571740234265576:=()
def tw2399617604181995578:=()
def tw18004296560267143027:=()
def tw3344036261162260069:=()
def tw599730875272715187:=()
def tw6602950584830755452:=()
def tw8349214307167005616:=()
def tw14454166528178196959:=()
def tw2867421004237479119:=()
def tw7509565986652818475:=()
def tw11692469974320434101:=()
def tw4333590680753393835:=()
def tw9331231397406362311:=()
def tw9592300441314626372:=()
def tw16873086082458093902:=()
def tw1972164579936704799:=()
def tw12681666616541194006:=()
def tw7873748247521183178:=()
def tw5493063752884776336:=()
def tw12483548606279900826:=()
def tw8909772338491405060:=()
def tw15621415185263527259:=()
def tw296083027919845158:=()
def tw16053306600634468012:=()
def tw14940998509354871970:=()
def tw10842938092177581297:=()
def tw9592521066531166775:=()
def tw6968137755033780318:=()
def tw12887044766017154078:=()
def tw11837218909656210887:=()
def tw8002303944043701648:=()
def tw7002614004127435958:=()
def tw12549542988036985293:=()
def tw4565167180653195659:=()
def tw13349420017058727143:=()
def tw9162645422354645296:=()
def tw16247262843940693239:=()
def tw13710940844802916613:=()
def tw10095894221667365369:=()
def tw8232614014015475128:=()
def tw7422445781565681216:=()
def tw13539809779269347639:=()
def tw4964365479395341524:=()
def tw180266875558373844:=()
def tw8186657734068701312:=()
def tw18310463660012746435:=()
def tw8293125293789966914:=()
def tw5285915839522022235:=()
def tw8374155422468719031:=()
def tw2259672571474061568:=()
def tw14727194681476072466:=()
def tw13669536469129627823:=()
def tw18407495941553956032:=()
def tw14036186469904095446:=()
def tw8535803893964050539:=()
def tw1950803216711332702:=()
def tw11662115353561507501:=()
def tw17713387462200973399:=()
def tw15910123707662034135:=()
def tw12468840222048715292:=()
def tw375148617187948888:=()
def tw2135409205425526673:=()
def tw18095796173783872564:=()
def tw1000662321505670351:=()
def tw8159993647027272844:=()
def tw15415318616479256277:=()
def tw14651306747883248417:=()
def tw10713865542653931438:=()
def tw3214969091617688553:=()
def tw18094105663378112561:=()
def tw16721508838639397229:=()
def tw14226173905949225808:=()
def tw1342123614928995077:=()
def tw8272569733616993153:=()
def tw622995879521568732:=()
def tw6141218239328293737:=()
def tw17016834523296244275:=()
def tw12315944733273679750:=()
def tw12132596417379514657:=()
def tw5483103596317574428:=()
def tw3418139289079602111:=()
def tw1848955828906020544:=()
def tw14869962595670455896:=()
def tw5269183497594736927:=()
def tw3049343062529576306:=()
def tw2132029292895624192:=()
def tw12921946191010883867:=()
def tw15590096980072825465:=()
def tw14654036626916492617:=()
def tw8919978131948313185:=()
def tw5845002605336314091:=()
def tw3778530596728393105:=()
def tw16691165463884887630:=()
def tw14321067358777074657:=()
def tw13160504802963445071:=()
def tw10373885705245885314:=()
def tw15090471055790725799:=()
def tw2781137557867543911:=()
def tw16753820520455620202:=()
def tw9644411389650309789:=()
def tw8432719020341155521:=()
def tw8080008513338510535:=()
def tw17014754193936795334:=()
def tw14904681115217272601:=()
def tw13444670453868202053:=()
def tw12408111787983249662:=()
def tw7036616447074710427:=()
def tw2400638427578300857:=()
def tw1266446861824636:=()
def tw8157277791214410489:=()
def tw2692750590507578028:=()
def tw6306950242917791374:=()
def tw4699756791338806529:=()
def tw17577329170770402720:=()
def tw14196522196718054806:=()
def tw5872530126848033075:=()
def tw15142666989864626641:=()
def tw6702445572142316249:=()
def tw5890639436620234070:=()
def tw5809018184121017179:=()
def tw4212528035423903283:=()
def tw866717566613908145:=()
def tw17659185236578331656:=()
def tw15227483606004533461:=()
def tw11063759124802658401:=()
def tw10851082721055443051:=()
def tw7397212543588705075:=()
def tw7231845647793152400:=()
def tw5537553045615171315:=()
def tw2084650752826471497:=()
def tw16003985067176294414:=()
def tw8498532028676091811:=()
end PySem.W.Fast
open_top hd for PySem.Challenge.rw_slipring_k35_whole_any_stand
end
open PySem.W (Frag findIn nsIn mg_of mroIn keepIn kia_one excIn clsIn isFn mg_none_of plainGet hasDictIn makesIn codeIn exmAny plainOver callWith_K kitOne specialIn exmOne)
set_option hygiene false
local macro_rules
| `(↑1)=>`(⟨rfl,rfl,rfl,by decide +kernel,rfl,by decide +kernel,by decide +kernel⟩)
| `(↑2)=>`((λf cdv A' outer s H vs Q E hr h=>?_))
local macro_rules
| `(tactic|fail "a")=>`(tactic|(
  have nla:la≠x:=λz=>by rw[<- z,ela] at hx;cases hx
  have ela2:=kp _ _ (sm _ _ ela) (by simpa using nla)
  have nDx:D≠x:=λz=>by rw[z,d2] at hD;cases hD
  have nmx:m≠x:=λz=>by rw[z,d2] at hm;cases hm
  have hD0:=i7 sm hD;have hm0:=i7 sm hm;have nDl:D≠la:=λz=>by rw[z,ela] at hD0;cases hD0
  have nml:m≠la:=λz=>by rw[z,ela] at hm0;cases hm0))
set_option hygiene true
namespace L2
open PySem PySem.Spec PyProof.Rows
abbrev Key:=Sum Int Str
def c1v:Key->Value->Bool
 | .inl k,v=>Value.isInt k v
 | .inr x,v=>Value.isStrOf x v
def c5n(w:World):Key->Int
 | .inl k=>hashInt k
 | .inr x=>hashStr w x
theorem m9:∀{k:Key}{v:Value},c1v k v=true->(∃i t,k=Sum.inl i/\v=Value.int i t)\/(∃x t,k=Sum.inr x/\v=Value.str x t)
 | .inl i,v,h=>by
  obtain⟨t,e⟩:=Value.isInt_shape (k:=i) (v:=v) h;exact .inl ⟨i,t,rfl,e⟩
 | .inr x,v,h=>by
  obtain⟨t,e⟩:=Value.isStrOf_shape (x:=x) (v:=v) h;exact .inr ⟨x,t,rfl,e⟩
theorem c1u(a b:Int):decide ((Sum.inl a:Key)=Sum.inl b)=(a == b):=by
 by_cases e:a=b
 ·subst e;simp
 ·have h:¬ (Sum.inl a:Key)=Sum.inl b:=λq=>e (Sum.inl.inj q)
  rw[decide_eq_false h];exact(beq_eq_false_iff_ne.mpr e).symm
theorem c1r(a b:Str):decide ((Sum.inr a:Key)=Sum.inr b)=decide (a=b):=by
 by_cases e:a=b
 ·subst e;simp
 ·have h:¬ (Sum.inr a:Key)=Sum.inr b:=λq=>e (Sum.inr.inj q)
  rw[decide_eq_false h,decide_eq_false e]
theorem c1t(a:Int)(b:Str):decide ((Sum.inl a:Key)=Sum.inr b)=false:=decide_eq_false (λq=>nomatch q)
theorem c1s(a:Str)(b:Int):decide ((Sum.inr a:Key)=Sum.inl b)=false:=decide_eq_false (λq=>nomatch q)
def b6t(prog:Program)(w:World):PySem.KeyKind prog w Key where
 is:=c1v
 hash:=c5n w
 inj:=λv a b ha hb=>by
  rcases m9 ha with ⟨i,t,rfl,rfl⟩|⟨x,t,rfl,rfl⟩
  ·rcases m9 hb with ⟨j,u,rfl,e⟩|⟨y,u,rfl,e⟩
   ·injection e with e1 _;rw[e1]
   ·exact nomatch e
  ·rcases m9 hb with ⟨j,u,rfl,e⟩|⟨y,u,rfl,e⟩
   ·exact nomatch e
   ·injection e with e1 _;rw[e1]
 byValue:=λk v h=>by
  rcases m9 h with ⟨i,t,rfl,rfl⟩|⟨x,t,rfl,rfl⟩ <;> rfl
 pyHash:=λhv h=>by
  rcases m9 hv with ⟨i,t,rfl,rfl⟩|⟨x,t,rfl,rfl⟩
  ·exact wpAny_pyHash_int h
  ·exact wpAny_pyHash_str h
 eqBool:=λhu hv h=>by
  rcases m9 hu with ⟨i,t,rfl,rfl⟩|⟨x,t,rfl,rfl⟩
  ·rcases m9 hv with ⟨j,u,rfl,rfl⟩|⟨y,u,rfl,rfl⟩
   ·rw[c1u] at h;exact wpAny_eqBool_int h
   ·rw[c1t] at h;exact SeqAt.EqAt.int_str i t y u _ _ _ _ h
  ·rcases m9 hv with ⟨j,u,rfl,rfl⟩|⟨y,u,rfl,rfl⟩
   ·rw[c1s] at h;exact SeqAt.EqAt.str_int x t j u _ _ _ _ h
   ·rw[c1r] at h;exact wpAny_eqBool_str h
 «strs»:=λk x t v h=>by
  rcases m9 h with ⟨i,u,rfl,e⟩|⟨y,u,rfl,e⟩
  ·exact nomatch e
  ·injection e with e1 _
   subst e1;cases v <;> rfl
end L2
namespace L2
open PySem PySem.Spec PyProof.Rows
inductive V where
 | non|bl (b:Bool)|int (i:Int)|str (x:Str)|byt (b:Array UInt8)|flt (b:UInt64)|ref (a:Addr)|ty (n:String)
 deriving DecidableEq
def RelV:V->Value->Prop
 | .non,u=>u=Value.none
 | .bl b,u=>u=Value.bool b
 | .int i,u=>∃t,u=Value.int i t
 | .str x,u=>∃t,u=Value.str x t
 | .byt b,u=>∃t,u=Value.bytes b t
 | .flt b,u=>∃t,u=Value.float b t
 | .ref a,u=>u=Value.ref a
 | .ty n,u=>u=Value.type n
abbrev Vals:List V->List Value->Prop:=Paired RelV
theorem Vals.length{xs:List V}{us:List Value}(r:Vals xs us):xs.length=us.length:=Paired.length r
theorem Vals.get:∀{xs:List V}{us:List Value}{i:Nat}{x:V},Vals xs us->xs[i]?=some x->∃u,us[i]?=some u/\RelV x u
 | _,_,_,_,.nil,e=>by simp at e
 | _,_,0,_,.cons r _,e=>by simp at e;subst e;exact⟨_,rfl,r⟩
 | _,_,i+1,x,.cons _ t,e=>by
  obtain⟨u,h1,h2⟩:=Vals.get (i:=i) (x:=x) t (by simpa using e)
  exact⟨u,by simpa using h1,h2⟩
theorem Vals.set{x:V}{u:Value}(r:RelV x u):∀{xs:List V}{us:List Value}(i:Nat),Vals xs us->Vals (xs.set i x) (us.set i u)
 | _,_,_,.nil=>.nil
 | _,_,0,.cons _ t=>.cons r t
 | _,_,i+1,.cons q t=>.cons q (Vals.set r i t)
theorem Vals.append{xs ys:List V}{us ws:List Value}(h:Vals xs us)(s:Vals ys ws):Vals (xs++ys) (us++ws):=by
 induction h with
 | nil=>exact s
 | cons r t ih=>exact .cons r ih
theorem Vals.take:∀{xs:List V}{us:List Value}(n:Nat),Vals xs us->Vals (xs.take n) (us.take n)
 | _,_,0,_=>.nil
 | _,_,_+1,.nil=>.nil
 | _,_,n+1,.cons r t=>.cons r (Vals.take n t)
theorem Vals.drop:∀{xs:List V}{us:List Value}(n:Nat),Vals xs us->Vals (xs.drop n) (us.drop n)
 | _,_,0,r=>r
 | _,_,_+1,.nil=>.nil
 | _,_,n+1,.cons _ t=>Vals.drop n t
def RelO:Option V->Option Value->Prop
 | some v,some u=>RelV v u
 | none,none=>True
 | _,_=>False
def KV{κ:Type}:List (κ×V)->List (κ×Value)->Prop:=Paired λ(p:κ×V) (q:κ×Value)=>p.1=q.1/\RelV p.2 q.2
def kV:Key->V
 | .inl i=>.int i
 | .inr x=>.str x
inductive HO where
 | lst (xs:List V)
 | tup (xs:List V)
 | dK (kvs:List (Key×V))|dT (kvs:List (List Key×V))
 | set (S:Int->Bool) (n:Nat)
 | ins (C dx:Addr) (fs:List (Str×V))
 | own (x:Addr)
 | xd (fs:List (Str×V))
 | met (f x:Addr)
 | rng (lo hi:Int)
 | frz (o:Obj) (u:HO)
 | tbl (ps:Array Value)
 | ext (φ:Heap->Prop)
abbrev Hp:=Addr->Option HO
def upd(H:Hp)(a:Addr)(o:HO):Hp:=λb=>if b=a then some o else H b
theorem d2{H:Hp}{a:Addr}{o:HO}:upd H a o a=some o:=by unfold upd;rw[if_pos rfl]
theorem d3{H:Hp}{a b:Addr}{o:HO}(h:b≠a):upd H a o b=H b:=by unfold upd;rw[if_neg h]
theorem b5q{H:Hp}{a:Addr}{o u:HO}:upd (upd H a o) a u=upd H a u:=by
 funext b;unfold upd;split <;> rfl
theorem d9{H:Hp}{a b:Addr}{o:HO}(h:H a=some o)(h':H b=none):a≠b:=by
 intro e;subst e;rw[h] at h';cases h'
section
variable(P:Program)(w:World)
def ObjOk(H:Hp)(h:Heap)(a:Addr):HO->Prop
 | .lst xs=>xs.length<=sizeLine/\∃(its:List Value)(n:Nat),Vals xs its/\h.get? a=some { cls:=.type "list",data:=.seq its.toArray n }
 | .tup xs=>xs.length<=sizeLine/\∃its:List Value,Vals xs its/\IsTup h a its.toArray
 | .dK kvs=>kvs.length<=sizeLine/\(a == sysModules)=false/\∃vs,KV kvs vs/\h.DictOf (b6t P w) a vs
 | .dT kvs=>kvs.length<=sizeLine/\(a == sysModules)=false/\∃xs:List (List Key×Addr×Value),
   Paired (λ(p:List Key×V) (q:List Key×Addr×Value)=>p.1=q.1/\H q.2.1=some (.tup (p.1.map kV))/\RelV p.2 q.2.2) kvs xs /\
   ∃o es ep,h.get? a=some o/\o.ExactDict/\o.data=.dict es ep/\es.toList=xs.map (entryOfKey (tupleKind (b6t P w)))/\(xs.map (·.1)).Nodup
 | .set S n=>h.SetOf (intKind P w) a S n
 | .ins C dx fs=>H dx=some (.own a)/\fs.length<=1000/\dx≠a/\h.get? a=some (PySem.W.instObj C dx) /\
   ∃mA,h.Ns1 dx mA/\(∀f,RelO (fs.lookup f) (mA f))/\PySem.Within mA (fs.map (·.1))
 | .own _=>∃o,h.get? a=some o
 | .xd fs=>∃mA,h.Ns1 a mA/\∀f,RelO (fs.lookup f) (mA f)
 | .rng lo hi=>∃t u v,h.get? a=some { cls:=.type "range",data:=.fields #[.int lo t,.int hi u,.int 1 v] }
 | .frz o u=>h.get? a=some o/\ObjOk H h a u
 | .tbl ps=>h.get? a=some { cls:=.none,data:=.fields ps }
 | .met f x=>h.get? a=some (PySem.W.methodObj (.ref f) (.ref x))
 | .ext φ=>φ h/\(∃o,h.get? a=some o)/\∀h1 h2:Heap,φ h1->(∀o,h1.get? a=some o->h2.get? a=some o)->φ h2
def HOk(H:Hp)(h:Heap):Prop:=∀a o,H a=some o->ObjOk P w H h a o
end
section
variable{P:Program}{w:World}{H H':Hp}{h h':Heap}{a:Addr}{o:HO}
theorem ObjOk.lt(x:ObjOk P w H h a o):a<h.objs.size:=by
 cases o with
 | lst xs=>obtain⟨_,_,_,_,e⟩:=x;exact Heap.lt_size e
 | tup xs=>obtain⟨_,_,_,p⟩:=x;exact p.lt
 | dK kvs=>obtain⟨_,_,_,_,o,_,_,e,_⟩:=x;exact Heap.lt_size e
 | dT kvs=>obtain⟨_,_,_,_,o,_,_,e,_⟩:=x;exact Heap.lt_size e
 | set S n=>obtain⟨o,_,_,_,e,_⟩:=x;exact Heap.lt_size e
 | ins C dx fs=>obtain⟨_,_,_,e,_⟩:=x;exact Heap.lt_size e
 | own y=>obtain⟨_,e⟩:=x;exact Heap.lt_size e
 | xd fs=>obtain⟨_,⟨_,_,_,e,_⟩,_⟩:=x;exact Heap.lt_size e
 | rng lo hi=>obtain⟨_,_,_,e⟩:=x;exact Heap.lt_size e
 | frz ob u=>obtain⟨e,_⟩:=x;exact Heap.lt_size e
 | tbl ps=>exact Heap.lt_size (show h.get? a=some _ from x)
 | met f y=>exact Heap.lt_size (show h.get? a=some _ from x)
 | ext φ=>obtain⟨_,⟨_,e⟩,_⟩:=x;exact Heap.lt_size e
theorem Paired.mapP{α β:Type}{F G:α->β->Prop}{l₁:List α}{l₂:List β}(h:Paired F l₁ l₂)(f:∀a b,F a b->G a b):Paired G l₁ l₂:=by
 induction h with
 | nil=>exact .nil
 | cons r t ih=>exact .cons (f _ _ r) ih
theorem ObjOk.stay(x:ObjOk P w H h a o)(k:∀b u,(b=a\/H b=some (.own a))->h.get? b=some u->h'.get? b=some u)(ho:∀b,H b=some (.own a)->H' b=some (.own a))(ht:∀b xs,H b=some (.tup xs)->H' b=some (.tup xs)):ObjOk P w H' h' a o:=by
 induction o with
 | lst xs=>obtain⟨z,its,n,r,e⟩:=x;exact⟨z,its,n,r,k _ _ (.inl rfl) e⟩
 | tup xs=>obtain⟨z,its,r,ob,e,c⟩:=x;exact⟨z,its,r,ob,k _ _ (.inl rfl) e,c⟩
 | dK kvs=>obtain⟨z,y,vs,r,ob,es,ep,e,c⟩:=x;exact⟨z,y,vs,r,ob,es,ep,k _ _ (.inl rfl) e,c⟩
 | dT kvs=>
  obtain⟨z,y,xs,r,ob,es,ep,e,c⟩:=x;exact⟨z,y,xs,Paired.mapP r λp q z=>⟨z.1,ht _ _ z.2.1,z.2.2⟩,ob,es,ep,k _ _ (.inl rfl) e,c⟩
 | set S n=>obtain⟨ob,es,ep,t,e,c⟩:=x;exact⟨ob,es,ep,t,k _ _ (.inl rfl) e,c⟩
 | ins C dx fs=>
  obtain⟨d,z,ne,e,mA,⟨od,es,ep,e2,c⟩,r⟩:=x;exact⟨ho _ d,z,ne,k _ _ (.inl rfl) e,mA,⟨od,es,ep,k _ _ (.inr d) e2,c⟩,r⟩
 | own y=>obtain⟨ob,e⟩:=x;exact⟨ob,k _ _ (.inl rfl) e⟩
 | xd fs=>obtain⟨mA,⟨od,es,ep,e,c⟩,r⟩:=x;exact⟨mA,⟨od,es,ep,k _ _ (.inl rfl) e,c⟩,r⟩
 | rng lo hi=>obtain⟨t,u,v,e⟩:=x;exact⟨t,u,v,k _ _ (.inl rfl) e⟩
 | frz ob u ih=>obtain⟨e,q⟩:=x;exact⟨k _ _ (.inl rfl) e,ih q⟩
 | tbl ps=>
  have e:h.get? a=some { cls:=.none,data:=.fields ps }:=x;show h'.get? a=some { cls:=.none,data:=.fields ps };exact k a _ (.inl rfl) e
 | met f y=>
  have e:h.get? a=some (PySem.W.methodObj (.ref f) (.ref y)):=x;show h'.get? a=some (PySem.W.methodObj (.ref f) (.ref y));exact k a _ (.inl rfl) e
 | ext φ=>obtain⟨p,⟨o,e⟩,st⟩:=x;exact⟨st _ _ p λo q=>k _ _ (.inl rfl) q,⟨o,k _ _ (.inl rfl) e⟩,st⟩
theorem HOk.lt(x:HOk P w H h)(e:H a=some o):a<h.objs.size:=(x a o e).lt
theorem HOk.fresh(x:HOk P w H h)(e:h.objs.size<=a):H a=none:=by
 cases q:H a with
 | none=>rfl
 | some u=>exact absurd (Nat.lt_of_lt_of_le (x.lt q) e) (Nat.lt_irrefl _)
theorem HOk.kept(x:HOk P w H h)(k:∀b u,h.get? b=some u->h'.get? b=some u):HOk P w H h':=λa o e=>
 (x a o e).stay (λb u _ q=>k b u q) (λ_ q=>q) λ_ _ q=>q
theorem HOk.laid(x:HOk P w H h)(k:∀b u,h.get? b=some u->h'.get? b=some u)(hp:h.objs.size<=a)(new:ObjOk P w (upd H a o) h' a o):HOk P w (upd H a o) h':=λb u e=>by
 have hn:=x.fresh hp;by_cases hb:b=a
 ·subst hb;rw[d2] at e;cases e;exact new
 ·rw[d3 hb] at e
  exact(x b u e).stay (λc v _ q=>k c v q) (λc q=>by rw[d3 (d9 q hn)];exact q) λc xs q=>by rw[d3 (d9 q hn)];exact q
end
def Rd(H:Hp)(a:Addr)(u:HO):Prop:=H a=some u \/ ∃o,H a=some (.frz o u)
theorem Rd.ok{P:Program}{w:World}{H:Hp}{h:Heap}{a:Addr}{u:HO}(r:Rd H a u)(x:HOk P w H h):ObjOk P w H h a u:=by
 rcases r with r|⟨o,r⟩
 ·exact x a u r
 ·obtain⟨_,q⟩:=x a _ r
  exact q
def Mut:Option HO->Prop
 | some (.lst _)=>True
 | some (.dK _)=>True
 | some (.dT _)=>True
 | some (.set _ _)=>True
 | some (.ins _ _ _)=>True
 | some (.ext _)=>True
 | _=>False
section
variable{P:Program}{w:World}{H:Hp}{h h':Heap}{x e:Addr}{o':HO}
theorem HOk.write(ok:HOk P w H h)(mu:Mut (H x))(he:e=x\/H e=some (.own x))(k:∀b u,b≠e->h.get? b=some u->h'.get? b=some u)(heo:∃u,h'.get? e=some u)(new:ObjOk P w (upd H x o') h' x o'):HOk P w (upd H x o') h':=λb u q=>by
 have nown:∀c y,H c=some (.own y)->c≠x:=λc y r z=>by subst z;rw[r] at mu;exact mu
 have ntup:∀c xs,H c=some (.tup xs)->c≠x:=λc xs r z=>by subst z;rw[r] at mu;exact mu
 by_cases hb:b=x
 ·subst hb;rw[d2] at q;cases q;exact new
 ·rw[d3 hb] at q
  by_cases hbe:b=e
  ·have q':H b=some (.own x):=by
    rcases he with z|z
    ·exact absurd (hbe.trans z) hb
    ·rw[hbe];exact z
   rw[q] at q';cases q';obtain⟨v,hv⟩:=heo;exact⟨v,by rw[hbe];exact hv⟩
  ·refine (ok b u q).stay (λc v hc r=>k c v ?_ r) (λc r=>by rw[d3 (nown c b r)];exact r) λc xs r=>by rw[d3 (ntup c xs r)];exact r
   rcases hc with rfl|hc
   ·exact hbe
   ·rintro rfl
    rcases he with z|z
    ·exact nown c b hc z
    ·rw[hc] at z;cases z;exact hb rfl
end
structure Un(fs ex:List Addr)(H H':Hp)(h h':Heap):Prop where
 keep:∀b o,h.get? b=some o->H b=none->b ∉ fs->b ∉ ex->h'.get? b=some o
 slot:∀b o,h.get? b=some o->H b=none->b∈fs->b ∉ ex->∃sl,h'.get? b=some { o with slots:=sl }
 free:∀b o,h.get? b=some o->H b=none->b ∉ ex->H' b=none
 there:∀b o,h.get? b=some o->b ∉ ex->∃o',h'.get? b=some o'
 tups:∀b xs,H b=some (.tup xs)->H' b=some (.tup xs)
 frzs:∀b o u,H b=some (.frz o u)->H' b=some (.frz o u)
 tbls:∀b ps,H b=some (.tbl ps)->∃more,H' b=some (.tbl (ps++more))
section
variable{fs fs' ex ex':List Addr}{H H1 H2:Hp}{h h1 h2 h':Heap}{a x e:Addr}{o:HO}
theorem Un.any(u:Un fs ex H H1 h h1){b:Addr}{ob:Obj}(q:h.get? b=some ob)(n:H b=none)(hx:b ∉ ex):∃sl,h1.get? b=some { ob with slots:=sl }:=by
 by_cases hb:b∈fs
 ·exact u.slot b ob q n hb hx
 ·exact⟨ob.slots,u.keep b ob q n hb hx⟩
theorem Un.kept(k:∀b u,h.get? b=some u->h'.get? b=some u):Un fs ex H H h h' :=
 ⟨λb ob q _ _ _=>k b ob q,λb ob q _ _ _=>⟨ob.slots,k b ob q⟩,λ_ _ _ n _=>n,λb ob q _=>⟨ob,k b ob q⟩,λ_ _ q=>q,λ_ _ _ q=>q,λ_ ps q=>⟨#[],by rw[q];simp⟩⟩
theorem Un.refl:Un fs ex H H h h:=Un.kept λ_ _ q=>q
theorem Un.laid(k:∀b u,h.get? b=some u->h'.get? b=some u)(hp:h.objs.size<=a)(hn:H a=none):Un fs ex H (upd H a o) h h' where
 keep:=λb u q _ _ _=>k b u q
 slot:=λb u q _ _ _=>⟨u.slots,k b u q⟩
 free:=λb u q n _=>by rw[d3 (Nat.ne_of_lt (Nat.lt_of_lt_of_le (Heap.lt_size q) hp))];exact n
 there:=λb u q _=>⟨u,k b u q⟩
 tups:=λb xs q=>by rw[d3 (d9 q hn)];exact q
 frzs:=λb u xs q=>by rw[d3 (d9 q hn)];exact q
 tbls:=λb ps q=>⟨#[],by rw[d3 (d9 q hn),q];simp⟩
theorem Un.write(mu:Mut (H x))(he:e=x\/H e=some (.own x))(k:∀b u,b≠e->h.get? b=some u->h'.get? b=some u)(heo:∃u,h'.get? e=some u):Un fs ex H (upd H x o) h h':=by
 have hx:∀b,H b=none->b≠x:=λb n z=>by subst z;rw[n] at mu;exact mu
 have hb:∀b,H b=none->b≠e:=λb n z=>by
  subst z;rcases he with r|r
  ·exact hx b n r
  ·rw[n] at r;cases r
 have hm:∀b u,H b=some u->¬ Mut (some u)->b≠x:=λb u q nm z=>by subst z;rw[q] at mu;exact nm mu
 refine⟨λb u q n _ _=>k b u (hb b n) q,λb u q n _ _=>⟨u.slots,k b u (hb b n) q⟩,λb u q n _=>by rw[d3 (hx b n)];exact n,λb u q _=>?_,
  λb xs q=>by rw[d3 (hm b _ q λz=>z)];exact q,λb u xs q=>by rw[d3 (hm b _ q λz=>z)];exact q,λb ps q=>⟨#[],by rw[d3 (hm b _ q λz=>z),q];simp⟩⟩
 by_cases hbe:b=e
 ·subst hbe;exact heo
 ·exact⟨u,k b u hbe q⟩
end
def trk(h:Heap)(H:Hp):List Addr:=(List.range h.objs.size).filter λa=>(H a).isSome
def b8g(h:Heap)(H:Hp):Heap:=PySem.W.hideAll h (trk h H)
theorem b6x(h:Heap)(H:Hp):(b8g h H).objs.size=h.objs.size:=PySem.W.hideAll_size _ _
theorem b8f{h:Heap}{H:Hp}{b:Addr}{o:Obj}(e:h.get? b=some o)(n:H b=none):(b8g h H).get? b=some o :=
 PySem.W.hideAll_get _ e λhm=>by
  have q:(H b).isSome=true:=(List.mem_filter.mp hm).2;rw[n] at q;simp at q
theorem b9v{h:Heap}{H:Hp}{b:Addr}{o:Obj}(e:(b8g h H).get? b=some o):h.get? b=some o/\H b=none:=by
 have e':h.get? b=some o:=PySem.W.of_hideAll (trk h H) e;refine⟨e',?_⟩;cases q:H b with
 | none=>rfl
 | some x=>
  have hm:b∈trk h H:=List.mem_filter.mpr ⟨List.mem_range.mpr (Heap.lt_size e'),by simp[q]⟩
  have z:(b8g h H).get? b=none:=PySem.W.hideAll_none (trk h H) hm;rw[z] at e;cases e
end L2
namespace L2
open PySem PySem.Spec PyProof.Rows
structure Mod(K:Frag)(mg:Str->Option Value)(base:Heap):Prop where
 kin:K.In base
 glob:base.Ns mainGlobals mg
 blt:∃mb,base.Ns builtinsNs mb/\∀x:Str,x≠"__name__"->mb x=bootBuiltins x
 nolimit:base.NoLimit
structure Cx where
 prog:Program
 w:World
 K:Frag
 mg:Str->Option Value
 base:Heap
 A:Around
 N:List Str
 s₀:Shared
 H₀:Hp
 env:Env
 outer:List Env
 stack:List Env
 ex:List Addr
 fn:Str->Bool
 calm:Bool
 pn:List (Addr×Obj)
 xe:Value->Shared->Prop
def frs(l:List Env):List Addr:=l.filterMap (·.frame)
abbrev Cx.fs(X:Cx):List Addr:=frs X.outer
def Vis(sc:Scope)(x:Str):Prop:=sc.names.lookup x=some .local\/sc.names.lookup x=some .cell\/sc.names.lookup x=some .free
def Loc(sc:Scope)(x:Str):Prop:=sc.names.lookup x=some .local\/sc.names.lookup x=some .cell
def c6c(env:Env)(h:Heap)(m:Str->Option Value)(x:Str)(u:Value):Prop :=
 (env.kindOf x=some .local/\m x=some u)\/((env.kindOf x=some .cell\/env.kindOf x=some .free)/\∃c,env.cells.lookup x=some c/\h.IsCell c (some u))
structure Cx.Ok(X:Cx):Prop where
 mod:Mod X.K X.mg X.base
 kind:X.env.scope.kind=.function
 glob:X.env.globals=mainGlobals
 blt:X.env.builtins=builtinsNs
 above:X.s₀.heap.objs.size<=X.env.locals
 inj:∀x y c,X.env.cells.lookup x=some c->X.env.cells.lookup y=some c->x=y
 has:∀x,(X.env.kindOf x=some .cell\/X.env.kindOf x=some .free)->∃c,X.env.cells.lookup x=some c
 cab:∀x c,X.fn x=true->X.env.cells.lookup x=some c->X.s₀.heap.objs.size<=c
 hd:X.calm=true->X.A.handled=none
 frames:X.A.frames=some X.stack
 stk:X.stack=X.outer\/(X.stack=X.env::X.outer/\X.env.frame=some X.env.locals)
 exf:∀b∈X.ex,b≠X.env.locals/\∀x c,X.env.cells.lookup x=some c->c≠b
 bs:∀b o,X.base.get? b=some o->X.s₀.heap.get? b=some o/\X.H₀ b=none
 bsz:X.base.objs.size<=X.s₀.heap.objs.size
 noex:∀b o,X.base.get? b=some o->b ∉ X.ex
 exfs:∀b∈X.ex,b ∉ X.fs
 funs:X.s₀.heap.FunFrames X.base X.outer
 frf:∀b∈X.fs,X.H₀ b=none
structure Inv(X:Cx)(pins:List (Addr×Obj))(σ:List (Option V))(H:Hp)(s:Shared):Prop where
 ok:X.Ok
 os:s.os=X.s₀.os
 bare:AllBare s.gens
 base:Un X.fs X.ex X.H₀ H X.s₀.heap s.heap
 loc:∃m,s.heap.Ns X.env.locals m/\∀(i:Nat)(x:Str)(v:V),X.N[i]?=some x->σ[i]?=some (some v)->Vis X.env.scope x->∃u,RelV v u/\c6c X.env s.heap m x u
 cell:∀x c,X.env.cells.lookup x=some c->∃v,s.heap.IsCell c v
 free:H X.env.locals=none
 freeC:∀x c,X.env.cells.lookup x=some c->H c=none
 pin:∀p∈X.pn++pins,s.heap.get? p.1=some p.2/\H p.1=none/\p.1≠X.env.locals/\p.1 ∉ X.fs/\∀v,p.2.data≠.cell v
 hok:HOk X.prog X.w H s.heap
 len:σ.length=X.N.length
section
variable{X:Cx}{pins:List (Addr×Obj)}{σ:List (Option V)}{H H':Hp}{s:Shared}{h':Heap}
theorem Cx.Ok.nofr(ok:X.Ok){b:Addr}{o:Obj}(e:X.base.get? b=some o):b ∉ X.fs:=λhb=>by
 have:=(ok.funs.mem hb).1;rw[e] at this;cases this
theorem Inv.bs(I:Inv X pins σ H s):∀b o,X.base.get? b=some o->s.heap.get? b=some o/\H b=none:=λb o e=>
 ⟨I.base.keep b o (I.ok.bs b o e).1 (I.ok.bs b o e).2 (I.ok.nofr e) (I.ok.noex b o e),I.base.free b o (I.ok.bs b o e).1 (I.ok.bs b o e).2 (I.ok.noex b o e)⟩
theorem Inv.bk(I:Inv X pins σ H s):∀b o,X.base.get? b=some o->s.heap.get? b=some o:=λb o e=>(I.bs b o e).1
theorem Inv.mod(I:Inv X pins σ H s):Mod X.K X.mg X.base:=I.ok.mod
theorem Inv.kIn(I:Inv X pins σ H s):X.K.In s.heap:=I.ok.mod.kin.keeps I.bk
theorem Inv.lt(I:Inv X pins σ H s):X.env.locals<s.heap.objs.size:=by obtain⟨_,hn,_⟩:=I.loc;exact hn.lt
theorem Inv.sz(I:Inv X pins σ H s):X.s₀.heap.objs.size<=s.heap.objs.size:=Nat.le_trans I.ok.above (Nat.le_of_lt I.lt)
theorem Inv.nofs(I:Inv X pins σ H s){a:Addr}(h:s.heap.objs.size<=a):a ∉ X.fs:=λhb=>by
 obtain⟨_,o,ho,_⟩:=I.ok.funs.mem hb;exact absurd (Nat.lt_of_lt_of_le (Heap.lt_size ho) (Nat.le_trans I.sz h)) (Nat.lt_irrefl _)
theorem Inv.cne(I:Inv X pins σ H s):∀x c,X.env.cells.lookup x=some c->c≠X.env.locals:=λx c e z=>by
 obtain⟨v,o,ho,hd⟩:=I.cell x c e;obtain⟨m,⟨o',es,ep,ho',hd',_⟩,_⟩:=I.loc;rw[z,ho'] at ho;cases ho;rw[hd'] at hd;cases hd
theorem Inv.funs(I:Inv X pins σ H s):s.heap.FunFrames X.base X.outer:=by
 have all:∀(l:List Env),(∀b∈frs l,b∈X.fs)->X.s₀.heap.FunFrames X.base l->s.heap.FunFrames X.base l:=by
  intro l
  induction l with
  | nil=>intro _ _;trivial
  | cons env r ih=>
   intro hs hl;obtain⟨hk,⟨L,o,hf,hn,ho,hd⟩,hr⟩:=hl;have hL:L∈X.fs:=hs L (by unfold frs;rw[List.filterMap_cons,hf];exact List.mem_cons_self)
   obtain⟨sl,e⟩:=I.base.slot L o ho (I.ok.frf L hL) hL λz=>I.ok.exfs L z hL;exact⟨hk,⟨L,_,hf,hn,e,hd⟩,ih (λb hb=>hs b (by unfold frs;rw[List.filterMap_cons,hf];exact List.mem_cons_of_mem _ hb)) hr⟩
 exact all X.outer (λ_ hb=>hb) I.ok.funs
theorem Inv.stack(I:Inv X pins σ H s):s.heap.FunFrames X.base X.stack:=by
 rcases I.ok.stk with e|⟨e,hf⟩
 ·rw[e];exact I.funs
 ·rw[e]
  obtain⟨m,hn,_⟩:=I.loc;refine .cons (by rw[I.ok.kind];decide) hf hn ?_ I.funs
  exact Heap.get?_none_of_le (Nat.le_trans I.ok.bsz I.ok.above)
theorem Inv.stkSub(I:Inv X pins σ H s):∀b∈frs X.stack,b∈X.env.locals::X.fs:=λb hb=>by
 rcases I.ok.stk with e|⟨e,hf⟩
 ·rw[e] at hb;exact List.mem_cons_of_mem _ hb
 ·rw[e] at hb
  unfold frs at hb;rw[List.filterMap_cons,hf] at hb;exact hb
theorem Inv.stkFree(I:Inv X pins σ H s):∀b∈frs X.stack,H b=none:=λb hb=>by
 rcases List.mem_cons.mp (I.stkSub b hb) with e|hb
 ·rw[e];exact I.free
 ·obtain⟨_,o,ho,_⟩:=I.ok.funs.mem hb
  exact I.base.free b o ho (I.ok.frf b hb) λz=>I.ok.exfs b z hb
theorem Inv.step{g':Array GenState}{t':Nat}{d':Drawn}{ch:List Addr}(I:Inv X pins σ H s)(hch:∀b∈ch,(b∈X.ex\/X.s₀.heap.objs.size<=b)/\b≠X.env.locals/\(∀x c,X.env.cells.lookup x=some c->c≠b)/\∀p∈X.pn++pins,p.1≠b)(keep:∀b o,b≠X.env.locals->b ∉ X.fs->b ∉ ch->s.heap.get? b=some o->H b=none->h'.get? b=some o)(slot:∀b o,b≠X.env.locals->b∈X.fs->b ∉ ch->s.heap.get? b=some o->H b=none->∃sl,h'.get? b=some { o with slots:=sl })(free:∀b o,b ∉ ch->s.heap.get? b=some o->H b=none->H' b=none)(there:∀b o,b ∉ ch->s.heap.get? b=some o->∃o',h'.get? b=some o')(tups:∀b xs,H b=some (.tup xs)->H' b=some (.tup xs))(frzs:∀b o u,H b=some (.frz o u)->H' b=some (.frz o u))(tbls:∀b ps,H b=some (.tbl ps)->∃more,H' b=some (.tbl (ps++more)))(ns:∀m,s.heap.Ns X.env.locals m->h'.Ns X.env.locals m)(hok:HOk X.prog X.w H' h')(hg:AllBare g'):
  Inv X pins σ H' { s with heap:=h',gens:=g',drawn:=d',toks:=t' }:=by
 have neL:∀b o,X.s₀.heap.get? b=some o->b≠X.env.locals:=λb o e=>Nat.ne_of_lt (Nat.lt_of_lt_of_le (Heap.lt_size e) I.ok.above);have neC:∀b o,X.s₀.heap.get? b=some o->b ∉ X.ex->b ∉ ch:=λb o e hx hb=>by
  rcases (hch b hb).1 with z|z
  ·exact hx z
  ·exact absurd (Nat.lt_of_lt_of_le (Heap.lt_size e) z) (Nat.lt_irrefl _)
 have cellK:∀x c,X.env.cells.lookup x=some c->∀v,s.heap.IsCell c v->h'.IsCell c v:=λx c e v zb_=>by
  obtain⟨o,ho,hd⟩:=zb_;have nch:c ∉ ch:=λz=>(hch c z).2.2.1 x c e rfl;by_cases hc:c∈X.fs
  ·obtain⟨sl,q⟩:=slot c o (I.cne x c e) hc nch ho (I.freeC x c e)
   exact⟨_,q,hd⟩
  ·exact⟨o,keep c o (I.cne x c e) hc nch ho (I.freeC x c e),hd⟩
 refine⟨I.ok,I.os,hg,⟨λb o e n hb hx=>?_,λb o e n hb hx=>?_,λb o e n hx=>?_,λb o e hx=>?_,λb xs e=>tups b xs (I.base.tups b xs e),λb o xs e=>frzs b o xs (I.base.frzs b o xs e),λb ps e=>?_⟩,?_,λx c e=>?_,?_,λx c e=>?_,λp hp=>?_,hok,I.len⟩
 ·exact keep b o (neL b o e) hb (neC b o e hx) (I.base.keep b o e n hb hx) (I.base.free b o e n hx)
 ·obtain⟨sl,e1⟩:=I.base.slot b o e n hb hx
  obtain⟨sl',e2⟩:=slot b _ (neL b o e) hb (neC b o e hx) e1 (I.base.free b o e n hx);exact⟨sl',e2⟩
 ·obtain⟨o',e1⟩:=I.base.there b o e hx
  exact free b o' (neC b o e hx) e1 (I.base.free b o e n hx)
 ·obtain⟨o',e1⟩:=I.base.there b o e hx
  exact there b o' (neC b o e hx) e1
 ·obtain⟨m1,e1⟩:=I.base.tbls b ps e
  obtain⟨m2,e2⟩:=tbls b _ e1;exact⟨m1++m2,by rw[e2,Array.append_assoc]⟩
 ·obtain⟨m,hn,hl⟩:=I.loc
  refine⟨m,ns m hn,λi x v e1 e2 e3=>?_⟩;obtain⟨u,r,l⟩:=hl i x v e1 e2 e3;refine⟨u,r,?_⟩;rcases l with l|⟨k,c,e,z⟩
  ·exact .inl l
  ·exact .inr ⟨k,c,e,cellK x c e _ z⟩
 ·obtain⟨v,z⟩:=I.cell x c e
  exact⟨v,cellK x c e v z⟩
 ·obtain⟨m,⟨o,_,_,ho,_⟩,_⟩:=I.loc
  exact free _ o (λz=>(hch _ z).2.1 rfl) ho I.free
 ·obtain⟨v,o,ho,hd⟩:=I.cell x c e
  exact free c o (λz=>(hch c z).2.2.1 x c e rfl) ho (I.freeC x c e)
 ·obtain⟨e,n,ne,nf,d⟩:=I.pin p hp
  have nch:p.1 ∉ ch:=λz=>(hch p.1 z).2.2.2 p hp rfl;exact⟨keep p.1 p.2 ne nf nch e n,free p.1 p.2 nch e n,ne,nf,d⟩
theorem Inv.un{t':Nat}(I:Inv X pins σ H s)(u:Un X.fs [] H H' s.heap h')(hok:HOk X.prog X.w H' h'):Inv X pins σ H' { s with heap:=h',toks:=t' }:=by
 obtain⟨m,⟨o,es,ep,ho,r⟩,_⟩:=id I.loc;obtain⟨sl,hL⟩:=u.any ho I.free (by simp)
 exact I.step (g':=s.gens) (d':=s.drawn) (ch:=[]) (λ_ z=>nomatch z) (λb o _ hb _ e n=>u.keep b o e n hb (by simp)) (λb o _ hb _ e n=>u.slot b o e n hb (by simp)) (λb o _ e n=>u.free b o e n (by simp)) (λb o _ e=>u.there b o e (by simp)) u.tups u.frzs u.tbls (λm' hm=>by
  obtain⟨o',es',ep',ho',r'⟩:=hm;rw[ho] at ho';cases ho';exact⟨_,es',ep',hL,r'⟩) hok I.bare
theorem Inv.call{g':Array GenState}{t':Nat}{d':Drawn}{ch:List Addr}(I:Inv X pins σ H s)(u:Un (frs X.stack) ch H H' s.heap h')(hok:HOk X.prog X.w H' h')(hg:AllBare g')(hch:∀b∈ch,(b∈X.ex\/X.s₀.heap.objs.size<=b)/\b≠X.env.locals/\(∀x c,X.env.cells.lookup x=some c->c≠b)/\∀p∈X.pn++pins,p.1≠b):
  Inv X pins σ H' { s with heap:=h',gens:=g',drawn:=d',toks:=t' }:=by
 obtain⟨m,⟨o,es,ep,ho,r⟩,_⟩:=id I.loc;obtain⟨sl,hL⟩:=u.any ho I.free λz=>(hch _ z).2.1 rfl;exact I.step (ch:=ch) hch (λb o hL hb hc e n=>u.keep b o e n (λz=>(List.mem_cons.mp (I.stkSub b z)).elim hL hb) hc) (λb o _ _ hc e n=>u.any e n hc) (λb o hc e n=>u.free b o e n hc) (λb o hc e=>u.there b o e hc) u.tups u.frzs u.tbls (λm' hm=>by
  obtain⟨o',es',ep',ho',r'⟩:=hm;rw[ho] at ho';cases ho';exact⟨_,es',ep',hL,r'⟩) hok hg
theorem Inv.turned{t':Nat}{it:Addr}(I:Inv X pins σ H s)(k:∀b o,b≠it->s.heap.get? b=some o->h'.get? b=some o)(hn:H it=none)(hL:it≠X.env.locals)(h1:it∈X.ex\/X.s₀.heap.objs.size<=it)(h2:∀x c,X.env.cells.lookup x=some c->c≠it)(h3:∀p∈X.pn++pins,p.1≠it):Inv X pins σ H { s with heap:=h',toks:=t' }:=by
 have nit:∀b u,H b=some u->b≠it:=λb u e z=>by rw[z,hn] at e;cases e
 refine I.step (g':=s.gens) (d':=s.drawn) (ch:=[it]) (λb hb=>?_) (λb o _ _ hc e _=>k b o (λz=>hc (by simp[z])) e) (λb o _ _ hc e _=>⟨o.slots,k b o (λz=>hc (by simp[z])) e⟩) (λ_ _ _ _ n=>n)
  (λb o hc e=>⟨o,k b o (λz=>hc (by simp[z])) e⟩) (λ_ _ e=>e) (λ_ _ _ e=>e) (λb ps e=>⟨#[],by rw[e];simp⟩) (λm hm=>?_) (λb u e=>?_) I.bare
 ·have e:b=it:=by simpa using hb
  subst e;exact⟨h1,hL,h2,h3⟩
 ·obtain⟨o,es,ep,ho,r⟩:=hm
  exact⟨o,es,ep,k _ o (Ne.symm hL) ho,r⟩
 ·refine (I.hok b u e).stay (λc v hc q=>k c v ?_ q) (λ_ q=>q) λ_ _ q=>q
  rcases hc with z|z
  ·rw[z];exact nit b u e
  ·exact nit c _ z
theorem Inv.tok(I:Inv X pins σ H s)(t:Nat):Inv X pins σ H { s with toks:=t }:=I.un (h':=s.heap) (t':=t) Un.refl I.hok
theorem Inv.kept{t':Nat}(I:Inv X pins σ H s)(k:∀b u,s.heap.get? b=some u->h'.get? b=some u):Inv X pins σ H { s with heap:=h',toks:=t' }:=I.un (Un.kept k) (I.hok.kept k)
theorem Inv.laid{a:Addr}{o:HO}{t':Nat}(I:Inv X pins σ H s)(k:∀b u,s.heap.get? b=some u->h'.get? b=some u)(hp:s.heap.objs.size<=a)(new:ObjOk X.prog X.w (upd H a o) h' a o):
  Inv X pins σ (upd H a o) { s with heap:=h',toks:=t' }:=I.un (Un.laid k hp (I.hok.fresh hp)) (I.hok.laid k hp new)
theorem Inv.write{x e:Addr}{o:HO}{t':Nat}(I:Inv X pins σ H s)(mu:Mut (H x))(he:e=x\/H e=some (.own x))(k:∀b u,b≠e->s.heap.get? b=some u->h'.get? b=some u)(heo:∃u,h'.get? e=some u)(new:ObjOk X.prog X.w (upd H x o) h' x o):Inv X pins σ (upd H x o) { s with heap:=h',toks:=t' }:=I.un (Un.write mu he k heo) (I.hok.write mu he k heo new)
theorem Inv.weak{σ':List (Option V)}(I:Inv X pins σ H s)(hl:σ'.length=σ.length)(w:∀(i:Nat) v,σ'[i]?=some (some v)->σ[i]?=some (some v)):Inv X pins σ' H s :=
 ⟨I.ok,I.os,I.bare,I.base,let ⟨m,hn,hl'⟩:=I.loc;⟨m,hn,λi x v e1 e2 e3=>hl' i x v e1 (w i v e2) e3⟩,I.cell,I.free,I.freeC,I.pin,I.hok,hl.trans I.len⟩
theorem Inv.pins_of{pins':List (Addr×Obj)}(I:Inv X pins σ H s)(h:∀p∈pins',s.heap.get? p.1=some p.2/\H p.1=none/\p.1≠X.env.locals/\p.1 ∉ X.fs/\∀v,p.2.data≠.cell v):Inv X pins' σ H s :=
 ⟨I.ok,I.os,I.bare,I.base,I.loc,I.cell,I.free,I.freeC,λp hp=>(List.mem_append.mp hp).elim (λz=>I.pin p (List.mem_append_left _ z)) (h p),I.hok,I.len⟩
theorem b4i{N:List Str}(hN:N.Nodup){i j:Nat}{x:Str}(a:N[i]?=some x)(b:N[j]?=some x):i=j:=by
 obtain⟨h1,e1⟩:=List.getElem?_eq_some_iff.mp a;obtain⟨h2,e2⟩:=List.getElem?_eq_some_iff.mp b;exact(List.getElem_inj hN).mp (e1.trans e2.symm)
theorem b1i{M:Model}{A:Around}{E:Value->Shared->Prop}{i:Nat}{x:Str}{v:V}{u:Value}{Q:Unit->Shared->Prop}(I:Inv X pins σ H s)(hN:X.N.Nodup)(hi:X.N[i]?=some x)(hx:Loc X.env.scope x)(r:RelV v u)(h:∀s',Inv X pins (σ.set i (some v)) H s'->(∃a,Heap.SameBut a s.heap s'.heap/\(a=X.env.locals\/X.env.cells.lookup x=some a))->Q () s')(hf:X.fn x=true\/X.env.scope.names.lookup x=some .local:=by first|exact .inl rfl|exact .inr rfl|assumption):wpAny M A (storeName X.env x u) Q E s:=by
 obtain⟨m,hn,hl⟩:=id I.loc;have hcls:(X.env.scope.kind == .class || (X.env.scope.kind == .module && X.env.locals != X.env.globals))=false:=by rw[I.ok.kind];rfl
 have hiσ:i<σ.length:=by rw[I.len];exact(List.getElem?_eq_some_iff.mp hi).1
 have cne:=I.cne;have tracked:∀{a:Addr}{h':Heap},(∃o,s.heap.get? a=some o/\H a=none)->Heap.SameBut a s.heap h'->HOk X.prog X.w H h':=λ{a h'} ha hs b ob e=>by
  obtain⟨_,_,hfree⟩:=ha;refine (I.hok b ob e).stay (λc w' hc q=>(hs.2 c ?_).trans q) (λ_ q=>q) λ_ _ q=>q;rintro rfl;rcases hc with rfl|hc
  ·rw[hfree] at e;cases e
  ·rw[hfree] at hc;cases hc
 rcases hx with hk|hk
 ·refine wpAny_storeName_local hk hn (λh' hn' hs=>?_) hcls
  obtain⟨oL,_,_,hoL,_⟩:=id hn;refine h _ ⟨I.ok,I.os,I.bare,⟨λb o e n hb hx=>?_,λb o e n hb hx=>?_,I.base.free,λb o e hx=>?_,I.base.tups,I.base.frzs,I.base.tbls⟩,⟨_,hn',λj y v' e1 e2 e3=>?_⟩,λy c e=>?_,I.free,I.freeC,λp hp=>?_,tracked ⟨oL,hoL,I.free⟩ hs,by simpa using I.len⟩ ⟨_,hs,.inl rfl⟩
  ·exact(hs.2 b (Nat.ne_of_lt (Nat.lt_of_lt_of_le (Heap.lt_size e) I.ok.above))).trans (I.base.keep b o e n hb hx)
  ·obtain⟨sl,e1⟩:=I.base.slot b o e n hb hx
   exact⟨sl,(hs.2 b (Nat.ne_of_lt (Nat.lt_of_lt_of_le (Heap.lt_size e) I.ok.above))).trans e1⟩
  ·obtain⟨o',e1⟩:=I.base.there b o e hx
   exact⟨o',(hs.2 b (Nat.ne_of_lt (Nat.lt_of_lt_of_le (Heap.lt_size e) I.ok.above))).trans e1⟩
  ·by_cases hj:j=i
   ·subst hj
    rw[hi] at e1;cases e1;rw[List.getElem?_set_self hiσ] at e2;cases e2;exact⟨u,r,.inl ⟨hk,by simp⟩⟩
   ·rw[List.getElem?_set_ne (Ne.symm hj)] at e2
    obtain⟨u',r',q⟩:=hl j y v' e1 e2 e3;refine⟨u',r',?_⟩;rcases q with ⟨k,e⟩|⟨k,c,e,z⟩
    ·refine .inl ⟨k,?_⟩
     have:y≠x:=λe=>hj (b4i hN e1 (e ▸ hi));simp[this,e]
    ·exact .inr ⟨k,c,e,z.sameBut hs (cne y c e)⟩
  ·obtain⟨w',z⟩:=I.cell y c e
   exact⟨w',z.sameBut hs (cne y c e)⟩
  ·obtain⟨e,n,ne,nf,d⟩:=I.pin p hp
   exact⟨(hs.2 p.1 ne).trans e,n,ne,nf,d⟩
 ·have hfn:X.fn x=true:=by
   rcases hf with z|z
   ·exact z
   ·rw[z] at hk;cases hk
  obtain⟨c,hc⟩:=I.ok.has x (.inl hk);obtain⟨w',z⟩:=I.cell x c hc;refine wpAny_storeName_cell I.ok.kind hk hc z (λh' hc' hs=>?_);obtain⟨oc,hoc,hocd⟩:=id z;refine h { s with heap:=h' } ⟨I.ok,I.os,I.bare,⟨λb o e n hb hx=>?_,λb o e n hb hx=>?_,I.base.free,λb o e hx=>?_,I.base.tups,I.base.frzs,I.base.tbls⟩,⟨m,hn.sameBut hs (Ne.symm (cne x c hc)),λj y v' e1 e2 e3=>?_⟩,λy c' e=>?_,I.free,I.freeC,λp hp=>?_,tracked ⟨oc,hoc,I.freeC x c hc⟩ hs,by simpa using I.len⟩ ⟨c,hs,.inr hc⟩
  ·exact(hs.2 b (Nat.ne_of_lt (Nat.lt_of_lt_of_le (Heap.lt_size e) (I.ok.cab x c hfn hc)))).trans (I.base.keep b o e n hb hx)
  ·obtain⟨sl,e1⟩:=I.base.slot b o e n hb hx
   exact⟨sl,(hs.2 b (Nat.ne_of_lt (Nat.lt_of_lt_of_le (Heap.lt_size e) (I.ok.cab x c hfn hc)))).trans e1⟩
  ·obtain⟨o',e1⟩:=I.base.there b o e hx
   exact⟨o',(hs.2 b (Nat.ne_of_lt (Nat.lt_of_lt_of_le (Heap.lt_size e) (I.ok.cab x c hfn hc)))).trans e1⟩
  ·by_cases hj:j=i
   ·subst hj
    rw[hi] at e1;cases e1;rw[List.getElem?_set_self hiσ] at e2;cases e2;exact⟨u,r,.inr ⟨.inl hk,c,hc,hc'⟩⟩
   ·rw[List.getElem?_set_ne (Ne.symm hj)] at e2
    obtain⟨u',r',q⟩:=hl j y v' e1 e2 e3;refine⟨u',r',?_⟩;rcases q with q|⟨k,c',e,z'⟩
    ·exact .inl q
    ·refine .inr ⟨k,c',e,z'.sameBut hs ?_⟩
     rintro rfl;exact hj (b4i hN e1 (I.ok.inj _ _ _ e hc ▸ hi))
  ·by_cases hcc:c'=c
   ·subst hcc;exact⟨_,hc'⟩
   ·obtain⟨w2,z2⟩:=I.cell y c' e
    exact⟨w2,z2.sameBut hs hcc⟩
  ·obtain⟨e,n,ne,nf,d⟩:=I.pin p hp
   refine⟨(hs.2 p.1 ?_).trans e,n,ne,nf,d⟩;intro q;rw[q,hoc] at e;have q':oc=p.2:=Option.some.inj e;exact d w' (by rw[<- q'];exact hocd)
theorem b4c{M:Model}{A:Around}{E:Value->Shared->Prop}{i:Nat}{x:Str}{v:V}{u:Value}{Q:Unit->Shared->Prop}(I:Inv X pins σ H s)(hN:X.N.Nodup)(hi:X.N[i]?=some x)(hx:Loc X.env.scope x)(r:RelV v u)(h:∀s',Inv X pins (σ.set i (some v)) H s'->Q () s')(hf:X.fn x=true\/X.env.scope.names.lookup x=some .local:=by first|exact .inl rfl|exact .inr rfl|assumption):wpAny M A (storeName X.env x u) Q E s :=
 b1i I hN hi hx r (λs' I' _=>h s' I') hf
theorem Inv.call'{s':Shared}{ch:List Addr}(I:Inv X pins σ H s)(ho:s'.os=s.os)(u:Un (frs X.stack) ch H H' s.heap s'.heap)(hok:HOk X.prog X.w H' s'.heap)(hg:AllBare s'.gens)(hch:∀b∈ch,(b∈X.ex\/X.s₀.heap.objs.size<=b)/\b≠X.env.locals/\(∀x c,X.env.cells.lookup x=some c->c≠b)/\∀p∈X.pn++pins,p.1≠b):Inv X pins σ H' s':=by
 obtain⟨h',g',d',t',o'⟩:=s';have e:o'=s.os:=ho;subst e;exact I.call (g':=g') (t':=t') (d':=d') u hok hg hch
end
abbrev XK:=Value->Option Addr->Hp->Prop
abbrev St:=List (Option V)
abbrev VK:=V->Hp->Prop
abbrev TE:=St->Hp->VK->Prop
abbrev TT:=St->Hp->(Bool->Hp->Prop)->Prop
abbrev TA:=St->Hp->(List V->Hp->Prop)->Prop
structure b8p where
 nx:St->Hp->Prop
 rt:VK
 bk:St->Hp->Prop:=λ_ _=>False
 ct:St->Hp->Prop:=λ_ _=>False
abbrev TS:=b8p->St->Hp->Prop
def EP(X:Cx)(pins:List (Addr×Obj))(σ:St)(Q:VK)(u:Value)(s':Shared):Prop:=∃v H',Inv X pins σ H' s'/\RelV v u/\Q v H'
def TP(X:Cx)(pins:List (Addr×Obj))(σ:St)(Q:Bool->Hp->Prop)(b:Bool)(s':Shared):Prop:=∃H',Inv X pins σ H' s'/\Q b H'
def AP(X:Cx)(pins:List (Addr×Obj))(σ:St)(Q:List V->Hp->Prop)(us:List Value)(s':Shared):Prop:=∃vs H',Inv X pins σ H' s'/\Vals vs us/\Q vs H'
def SP(X:Cx)(pins:List (Addr×Obj))(D:b8p)(f:Flow)(s':Shared):Prop :=
 match f with
 | .next=>∃σ' H',Inv X pins σ' H' s'/\D.nx σ' H'
 | .brk=>∃σ' H',Inv X pins σ' H' s'/\D.bk σ' H'
 | .cont=>∃σ' H',Inv X pins σ' H' s'/\D.ct σ' H'
 | .ret u=>∃v σ' H',Inv X pins σ' H' s'/\RelV v u/\D.rt v H'
def PE(X:Cx)(e:Expr)(t:TE):Prop :=
 ∀(pins:List (Addr×Obj))(s:Shared)(σ:St)(H:Hp)(Q:VK),Inv X pins σ H s->t σ H Q->wpAny (model X.prog X.w) X.A (eval e X.env) (EP X pins σ Q) X.xe s
def PT(X:Cx)(e:Expr)(t:TT):Prop :=
 ∀(pins:List (Addr×Obj))(s:Shared)(σ:St)(H:Hp)(Q:Bool->Hp->Prop),Inv X pins σ H s->t σ H Q->wpAny (model X.prog X.w) X.A (isTrue e X.env (eval e X.env)) (TP X pins σ Q) X.xe s
def PW(X:Cx)(e:Expr)(t:TT):Prop :=
 ∀(whole:Sem Value)(pins:List (Addr×Obj))(s:Shared)(σ:St)(H:Hp)(Q:Bool->Hp->Prop),Inv X pins σ H s->t σ H Q->wpAny (model X.prog X.w) X.A (isTrue e X.env whole) (TP X pins σ Q) X.xe s
theorem PW.pt{X:Cx}{e:Expr}{t:TT}(h:PW X e t):PT X e t:=h _
def PA(X:Cx)(es:List Expr)(t:TA):Prop :=
 ∀(pos:Pos)(pins:List (Addr×Obj))(s:Shared)(σ:St)(H:Hp)(Q:List V->Hp->Prop),Inv X pins σ H s->t σ H Q->wpAny (model X.prog X.w) X.A (spliced (backTo pos (starEach es X.env))) (AP X pins σ Q) X.xe s
def PS(X:Cx)(st:Stmt)(t:TS):Prop :=
 ∀(pins:List (Addr×Obj))(s:Shared)(σ:St)(H:Hp)(D:b8p),Inv X pins σ H s->t D σ H->wpAny (model X.prog X.w) X.A (exec st X.env) (SP X pins D) X.xe s
def PSs(X:Cx)(st:List Stmt)(t:TS):Prop :=
 ∀(pins:List (Addr×Obj))(s:Shared)(σ:St)(H:Hp)(D:b8p),Inv X pins σ H s->t D σ H->wpAny (model X.prog X.w) X.A (execs st X.env) (SP X pins D) X.xe s
theorem thn{α:Type}{t:Sem α}{Q Q':α->Shared->Prop}{M:Model}{A:Around}{E:Value->Shared->Prop}{s:Shared}(h:wpAny M A t Q E s)(hQ:∀a s,Q a s->Q' a s):wpAny M A t Q' E s:=wpAny_mono h hQ λ_ _ x=>x
end L2
namespace L2
open PySem PySem.Spec PyProof.Rows
section
variable{X:Cx}
def c2v(i:Nat):TE:=λσ H Q=>∃v,σ[i]?=some (some v)/\Q v H
def tC(v:V):TE:=λ_ H Q=>Q v H
theorem c1g{i:Nat}{x:Str}{pos:Pos}(hN:X.N[i]?=some x)(hv:Vis X.env.scope x)(hd:(x == ("__debug__":Str))=false:=by decide)(hcd:(x == ("__classdict__":Str))=false:=by decide):PE X (.Name x pos) (c2v i):=by
 intro pins s σ H Q I h;obtain⟨v,e,h⟩:=h;obtain⟨m,hn,hl⟩:=I.loc;obtain⟨u,r,l⟩:=hl i x v hN e hv;have fin:EP X pins σ Q u s:=⟨v,H,I,r,h⟩;rcases l with ⟨hk,hm⟩|⟨hk,c,hc,hcell⟩
 ·exact wpAny_Name (wpAny_loadName_local I.ok.kind hk hn hm fin) hd
 ·rcases hk with hk|hk
  ·exact wpAny_Name (wpAny_loadName_cell I.ok.kind hk hc hcell fin) hd
  ·exact wpAny_Name (wpAny_loadName_free I.ok.kind hk hc hcell fin hcd) hd
theorem d6{i j pos}:PE X (.Constant (.int i) j pos) (tC (.int i)):=λ_ _ _ H _ I h=>wpAny_Constant_int ⟨.int i,H,I.tok _,⟨_,rfl⟩,h⟩
theorem a6h{b j pos}:PE X (.Constant (.bool b) j pos) (tC (.bl b)):=λ_ _ _ H _ I h=>Constant_bool ⟨.bl b,H,I,rfl,h⟩
theorem a6y{j pos}:PE X (.Constant .none j pos) (tC .non):=λ_ _ _ H _ I h=>Constant_none ⟨.non,H,I,rfl,h⟩
theorem i3{x j pos}:PE X (.Constant (.str x) j pos) (tC (.str x)):=λ_ _ _ H _ I h=>Calls.Constant_str ⟨.str x,H,I.tok _,⟨_,rfl⟩,h⟩
def Gl(X:Cx)(x:Str):Prop:=X.env.kindOf x=some .globalImplicit
theorem a6k{E:Value->Shared->Prop}{pins:List (Addr×Obj)}{s:Shared}{σ:St}{H:Hp}{x:Str}{u:Value}{pos:Pos}{Q:Value->Shared->Prop}(I:Inv X pins σ H s)(hg:Gl X x)(hm:X.mg x=some u)(h:Q u s)(hd:(x == ("__debug__":Str))=false:=by decide):wpAny (model X.prog X.w) X.A (eval (.Name x pos) X.env) Q E s :=
 Calls.Name_function_global I.ok.kind hg (Calls.loadGlobal_global (by rw[I.ok.glob];exact I.mod.glob.keeps I.bk) hm h) hd
theorem a9l{E:Value->Shared->Prop}{pins:List (Addr×Obj)}{s:Shared}{σ:St}{H:Hp}{x:Str}{u:Value}{pos:Pos}{Q:Value->Shared->Prop}(I:Inv X pins σ H s)(hg:Gl X x)(hm:X.mg x=none)(hv:bootBuiltins x=some u)(h:Q u s)(hn:x≠"__name__":=by decide)(hd:(x == ("__debug__":Str))=false:=by decide):wpAny (model X.prog X.w) X.A (eval (.Name x pos) X.env) Q E s:=by
 obtain⟨mb,h1,h2⟩:=I.mod.blt;exact Calls.Name_function_global I.ok.kind hg (Calls.loadGlobal_builtin (by rw[I.ok.glob];exact I.mod.glob.keeps I.bk) hm (by rw[I.ok.blt];exact h1.keeps I.bk) ((h2 x hn).trans hv) h) hd
theorem b3n{x:Str}{v:V}{u:Value}{pos:Pos}(hg:Gl X x)(hm:X.mg x=some u)(r:RelV v u)(hd:(x == ("__debug__":Str))=false:=by decide):PE X (.Name x pos) (tC v) :=
 λ_ _ _ H _ I h=>a6k I hg hm ⟨v,H,I,r,h⟩ hd
variable{a b:Expr}{ta tb:TE}{pos:Pos}
def tB(t:TE):TT:=λσ H Q=>t σ H λx H1=>∃c,x=.bl c/\Q c H1
theorem a3d{e:Expr}{t:TE}(h:PE X e t)(he:∀whole,isTrue e X.env whole=(do let v <- whole;standAt e.pos;holding [v] (truthy v)):=by intro _;rfl):PT X e (tB t):=by
 intro pins s σ H Q I hw;refine isTrue_plain (thn (h pins s σ H _ I hw) λv s1 z0_=>?_) (he _);obtain⟨x,H1,I1,r1,q1⟩:=z0_;obtain⟨d,rfl,q⟩:=q1;cases r1;exact wpAny_truthy_bool ⟨H1,I1,q⟩
variable{tA tB':TT}{rest:List Expr}
def c4x(t u:TT):TT:=λσ H Q=>t σ H λc H1=>if c=true then u σ H1 Q else Q false H1
def tOr(t u:TT):TT:=λσ H Q=>t σ H λc H1=>if c=true then Q true H1 else u σ H1 Q
def c4u(t:TT):TT:=λσ H Q=>t σ H λc H1=>Q (!c) H1
theorem b6b(ha:PT X a tA):PW X (.BoolOp .And [a] pos) tA:=by
 intro wh pins s σ H Q I h;refine isTrue_and (thn (ha pins s σ H Q I h) λc s1 e=>?_);cases c with
 | true=>exact isTrue_and_nil e
 | false=>exact e
theorem a1e(ha:PT X a tA):PW X (.BoolOp .Or [a] pos) tA:=by
 intro wh pins s σ H Q I h;refine isTrue_or (thn (ha pins s σ H Q I h) λc s1 e=>?_);cases c with
 | false=>exact isTrue_or_nil e
 | true=>exact e
theorem b6c(ha:PT X a tA)(hb:PW X (.BoolOp .And (b::rest) pos) tB'):PW X (.BoolOp .And (a::b::rest) pos) (c4x tA tB'):=by
 intro wh pins s σ H Q I h;refine isTrue_and (thn (ha pins s σ H _ I h) λc s1 z0_=>?_);obtain⟨H1,I1,q1⟩:=z0_;cases c with
 | true=>exact hb wh pins s1 σ H1 Q I1 q1
 | false=>exact⟨H1,I1,q1⟩
theorem a5n(ha:PT X a tA)(hb:PW X (.BoolOp .Or (b::rest) pos) tB'):PW X (.BoolOp .Or (a::b::rest) pos) (tOr tA tB'):=by
 intro wh pins s σ H Q I h;refine isTrue_or (thn (ha pins s σ H _ I h) λc s1 z0_=>?_);obtain⟨H1,I1,q1⟩:=z0_;cases c with
 | true=>exact⟨H1,I1,q1⟩
 | false=>exact hb wh pins s1 σ H1 Q I1 q1
theorem a5o(ha:PT X a tA):PT X (.UnaryOp .Not a pos) (c4u tA):=by
 intro pins s σ H Q I h;exact isTrue_not (ha pins s σ H (λc H1=>Q (!c) H1) I h)
def c0y(ta tb:TE):TE:=λσ H Q=>ta σ H λx H1=>∃c,x=.bl c/\if c=true then tb σ H1 Q else Q (.bl false) H1
def c4t(ta tb:TE):TE:=λσ H Q=>ta σ H λx H1=>∃c,x=.bl c/\if c=true then Q (.bl true) H1 else tb σ H1 Q
theorem a2a{op}{t:TE}(h:PE X a t):PE X (.BoolOp op [a] pos) t:=λpins s σ H Q I hw=>BoolOp_one (h pins s σ H Q I hw)
theorem a3y(ha:PE X a ta)(hb:PE X (.BoolOp .And (b::rest) pos) tb):PE X (.BoolOp .And (a::b::rest) pos) (c0y ta tb):=by
 intro pins s σ H Q I h;refine BoolOp_and (thn (ha pins s σ H _ I h) λv s1 z0_=>?_);obtain⟨x,H1,I1,r1,q1⟩:=z0_;obtain⟨c,rfl,q1⟩:=q1;cases r1;refine wpAny_truthy_bool ?_;cases c with
 | true=>exact hb pins s1 σ H1 Q I1 q1
 | false=>exact⟨.bl false,H1,I1,rfl,q1⟩
theorem c1h(ha:PE X a ta)(hb:PE X (.BoolOp .Or (b::rest) pos) tb):PE X (.BoolOp .Or (a::b::rest) pos) (c4t ta tb):=by
 intro pins s σ H Q I h;refine BoolOp_or (thn (ha pins s σ H _ I h) λv s1 z0_=>?_);obtain⟨x,H1,I1,r1,q1⟩:=z0_;obtain⟨c,rfl,q1⟩:=q1;cases r1;refine wpAny_truthy_bool ?_;cases c with
 | false=>exact hb pins s1 σ H1 Q I1 q1
 | true=>exact⟨.bl true,H1,I1,rfl,q1⟩
def tIf(t:TT)(ta tb:TE):TE:=λσ H Q=>t σ H λc H1=>if c=true then ta σ H1 Q else tb σ H1 Q
theorem a3k{c:Expr}(hc:PT X c tA)(ha:PE X a ta)(hb:PE X b tb):PE X (.IfExp c a b pos) (tIf tA ta tb):=by
 intro pins s σ H Q I h;refine wpAny_IfExp (thn (hc pins s σ H _ I h) λd s1 z0_=>?_);obtain⟨H1,I1,q1⟩:=z0_;cases d with
 | true=>exact ha pins s1 σ H1 Q I1 q1
 | false=>exact hb pins s1 σ H1 Q I1 q1
end
end L2
namespace L2
open PySem PySem.Spec PyProof.Rows
def SqL(K:Frag)(H:Hp)(a:Addr)(xs:List V):Prop :=
 Rd H a (.lst xs) \/
  ∃(o:Obj)(its:Array Value)(n:Nat),K.lookup a=some o/\o.cls=.type "list"/\o.dict=none/\o.data=.seq its n/\its.size<=sizeLine/\Vals xs its.toList
def SqT(K:Frag)(H:Hp)(a:Addr)(xs:List V):Prop :=
 Rd H a (.tup xs) \/
  ∃(o:Obj)(its:Array Value)(n:Nat),K.lookup a=some o/\o.cls=.type "tuple"/\o.data=.seq its n/\its.size<=sizeLine/\Vals xs its.toList
def c6b:Value->Option V
 | .none=>some .non
 | .bool b=>some (.bl b)
 | .int i _=>some (.int i)
 | .str x _=>some (.str x)
 | .bytes b _=>some (.byt b)
 | .float b _=>some (.flt b)
 | .ref a=>some (.ref a)
 | .type n=>some (.ty n)
 | _=>none
theorem RelV.abs{x:V}{u:Value}(r:RelV x u):c6b u=some x:=by
 cases x with
 | non=>cases r;rfl
 | bl _=>cases r;rfl
 | int _=>obtain⟨t,rfl⟩:=r;rfl
 | str _=>obtain⟨t,rfl⟩:=r;rfl
 | byt _=>obtain⟨t,rfl⟩:=r;rfl
 | flt _=>obtain⟨t,rfl⟩:=r;rfl
 | ref _=>cases r;rfl
 | ty _=>cases r;rfl
theorem RelV.inj{x y:V}{u:Value}(r:RelV x u)(q:RelV y u):x=y:=Option.some.inj (r.abs.symm.trans q.abs)
theorem Vals.inj{xs ys:List V}{us:List Value}(h:Vals xs us)(h':Vals ys us):xs=ys:=by
 induction h generalizing ys with
 | nil=>cases h';rfl
 | cons r t ih=>cases h' with|cons r' t'=>rw[r.inj r',ih t']
section
variable{X:Cx}{pins:List (Addr×Obj)}{σ:St}{H:Hp}{s:Shared}{a:Addr}{xs ys:List V}
theorem SqL.of{K:Frag}(h:H a=some (.lst xs)):SqL K H a xs:=.inl (.inl h)
theorem SqT.of{K:Frag}(h:H a=some (.tup xs)):SqT K H a xs:=.inl (.inl h)
theorem Inv.list(I:Inv X pins σ H s)(h:SqL X.K H a xs):∃its:List Value,Vals xs its/\PlainL s.heap a its.toArray/\xs.length<=sizeLine:=by
 rcases h with h|⟨o,its,n,hk,hc,hd,hs,hz,r⟩
 ·obtain⟨z,its,n,r,e⟩:=h.ok I.hok
  exact⟨its,r,⟨_,n,e,rfl,rfl,rfl⟩,z⟩
 ·refine⟨its.toList,r,⟨o,n,I.kIn a o hk,hc,hd,by simpa using hs⟩,?_⟩
  have e:=r.length;simp only[Array.length_toList] at e;lia
theorem Inv.tuple(I:Inv X pins σ H s)(h:SqT X.K H a xs):∃its:List Value,Vals xs its/\IsTup s.heap a its.toArray/\xs.length<=sizeLine:=by
 rcases h with h|⟨o,its,n,hk,hc,hs,hz,r⟩
 ·obtain⟨z,its,r,p⟩:=h.ok I.hok
  exact⟨its,r,p,z⟩
 ·refine⟨its.toList,r,⟨o,I.kIn a o hk,hc,n,by simpa using hs⟩,?_⟩
  have e:=r.length;simp only[Array.length_toList] at e;lia
theorem Inv.list_inj(I:Inv X pins σ H s)(h:SqL X.K H a xs)(h':SqL X.K H a ys):xs=ys:=by
 obtain⟨its,r,⟨o,n,e,_,_,d⟩,_⟩:=I.list h;obtain⟨its',r',⟨o',n',e',_,_,d'⟩,_⟩:=I.list h';rw[e] at e';cases e';rw[d] at d';injection d' with d1 _
 have:its=its':=by simpa using congrArg Array.toList d1
 subst this;exact r.inj r'
theorem Inv.tuple_inj(I:Inv X pins σ H s)(h:SqT X.K H a xs)(h':SqT X.K H a ys):xs=ys:=by
 obtain⟨its,r,⟨o,e,_,n,d⟩,_⟩:=I.tuple h;obtain⟨its',r',⟨o',e',_,n',d'⟩,_⟩:=I.tuple h';rw[e] at e';cases e';rw[d] at d';injection d' with d1 _
 have:its=its':=by simpa using congrArg Array.toList d1
 subst this;exact r.inj r'
end
section
variable{X:Cx}{pins:List (Addr×Obj)}{σ:St}{H:Hp}{s:Shared}{E:Value->Shared->Prop}
end
section
variable{X:Cx}{st:Stmt}{rest:List Stmt}{t u:TS}{e:Expr}{te:TE}{pos:Pos}
def b9f:TS:=λD σ H=>D.nx σ H
def c3a(t u:TS):TS:=λD σ H=>t { D with nx:=u D } σ H
theorem i8:PSs X [] b9f:=λ_ _ σ H _ I h=>wpAny_execs_nil ⟨σ,H,I,h⟩
theorem c3(h1:PS X st t)(h2:PSs X rest u):PSs X (st::rest) (c3a t u):=by
 intro pins s σ H D I h;refine wpAny_execs_cons (thn (h1 pins s σ H { D with nx:=u D } I h) λf s1 q=>?_)
 cases f with
 | next=>
  obtain⟨σ',H',I',q⟩:=q;exact h2 pins s1 σ' H' D I' q
 | ret v=>exact q
 | brk=>exact q
 | cont=>exact q
theorem d4(h1:PS X st t):PSs X [st] t:=by
 intro pins s σ H D I h;refine wpAny_execs_cons (thn (h1 pins s σ H D I h) λf s1 q=>?_);cases f with
 | next=>exact wpAny_execs_nil q
 | ret v=>exact q
 | brk=>exact q
 | cont=>exact q
theorem Inv.quiet{pins:List (Addr×Obj)}{σ:St}{H:Hp}{s:Shared}(I:Inv X pins σ H s):interactive X.env=false:=by simp[interactive,I.ok.kind]
def c0w(te:TE):TS:=λD σ H=>te σ H λ_ H1=>D.nx σ H1
theorem j8(he:PE X e te)(hs:swapsWith e none pos.line X.env=pure false:=by rfl):PS X (.Expr e pos) (c0w te):=by
 intro pins s σ H D I h;exact wpAny_Expr_any (thn (he pins s σ H _ I h) λv s1 z0_=>by obtain⟨x,H1,I1,r1,q1⟩:=z0_;exact⟨σ,H1,I1,q1⟩) I.quiet hs
def c4s(te:TE):TS:=λD σ H=>te σ H D.rt
theorem f8(he:PE X e te):PS X (.Return (some e) pos) (c4s te):=by
 intro pins s σ H D I h;exact wpAny_Return_some (thn (he pins s σ H _ I h) λv s1 z0_=>by obtain⟨x,H1,I1,r1,q1⟩:=z0_;exact⟨x,σ,H1,I1,r1,q1⟩)
def c3d(c:TT)(t u:TS):TS:=λD σ H=>c σ H λb H1=>if b=true then t D σ H1 else u D σ H1
theorem m5{c:Expr}{a b:List Stmt}{tc:TT}(hc:PT X c tc)(ha:PSs X a t)(hb:PSs X b u):PS X (.If c a b pos) (c3d tc t u):=by
 intro pins s σ H D I h;refine wpAny_If (thn (hc pins s σ H _ I h) λd s1 z0_=>?_);obtain⟨H1,I1,q1⟩:=z0_;cases d with
 | true=>exact ha pins s1 σ H1 D I1 q1
 | false=>exact hb pins s1 σ H1 D I1 q1
def c0u:TS:=λ_ _ _=>False
theorem t9:PS X st c0u:=λ_ _ _ _ _ _ h=>h.elim
end
abbrev TG:=V->St->Hp->(St->Hp->Prop)->Prop
abbrev TGs:=List V->St->Hp->(St->Hp->Prop)->Prop
def PG(X:Cx)(target:Expr)(t:TG):Prop :=
 ∀(pins:List (Addr×Obj))(s:Shared)(σ:St)(H:Hp)(v:V)(u:Value)(Q:St->Hp->Prop),Inv X pins σ H s->RelV v u->t v σ H Q ->
  wpAny (model X.prog X.w) X.A (assign target X.env u) (λ_ s'=>∃σ' H',Inv X pins σ' H' s'/\Q σ' H') X.xe s
def PGs(X:Cx)(ts:List Expr)(t:TGs):Prop :=
 ∀(pins:List (Addr×Obj))(s:Shared)(σ:St)(H:Hp)(vs:List V)(us:List Value)(Q:St->Hp->Prop),Inv X pins σ H s->Vals vs us->t vs σ H Q ->
  wpAny (model X.prog X.w) X.A (assignInOrder ((assignEach ts X.env).map (·.2)) us) (λ_ s'=>∃σ' H',Inv X pins σ' H' s'/\Q σ' H') X.xe s
abbrev c4o:=V->V->V->Hp->(Hp->Prop)->Prop
def c5h(X:Cx)(t:c4o):Prop :=
 ∀(pins:List (Addr×Obj))(s:Shared)(σ:St)(H:Hp)(o i v:V)(ov iv u:Value)(Q:Hp->Prop),Inv X pins σ H s->RelV o ov->RelV i iv->RelV v u->t o i v H Q ->
  wpAny (model X.prog X.w) X.A (setItem ov iv u) (λ_ s'=>∃H',Inv X pins σ H' s'/\Q H') X.xe s
section
variable{X:Cx}{pos:Pos}
def a2c(i:Nat):TG:=λv σ H Q=>Q (σ.set i (some v)) H
theorem f7{i:Nat}{x:Str}(hN:X.N.Nodup)(hi:X.N[i]?=some x)(hx:Loc X.env.scope x)(hf:X.fn x=true\/X.env.scope.names.lookup x=some .local:=by first|exact .inl rfl|exact .inr rfl|assumption):PG X (.Name x pos) (a2c i):=by
 intro pins s σ H v u Q I r h;exact wpAny_assign_Name (b4c I hN hi hx r (λs' I'=>⟨_,H,I',h⟩) hf)
def c4l:TGs:=λvs σ H Q=>vs=[]/\Q σ H
def a6l(t:TG)(u:TGs):TGs:=λvs σ H Q=>∃v r,vs=v::r/\t v σ H λσ' H'=>u r σ' H' Q
theorem a1a:PGs X [] c4l:=by
 intro pins s σ H vs us Q I r h;obtain⟨e,h⟩:=h;subst e;cases r;exact assignInOrder_nil ⟨σ,H,I,h⟩
theorem f9{e:Expr}{es:List Expr}{t:TG}{u:TGs}(h1:PG X e t)(h2:PGs X es u)(hs:(assignEach (e::es) X.env).map (·.2)=assign e X.env::(assignEach es X.env).map (·.2):=by rfl):PGs X (e::es) (a6l t u):=by
 intro pins s σ H vs us Q I r h;obtain⟨v,vr,e1,h⟩:=h;subst e1;cases r with
 | cons r rr=>
  rw[hs];refine assignInOrder_cons (thn (h1 pins s σ H _ _ _ I r h) λ_ s1 z0_=>?_);obtain⟨σ1,H1,I1,q1⟩:=z0_;exact h2 pins s1 σ1 H1 _ _ Q I1 rr q1
def c2y(K:Frag)(n:Nat)(t:TGs):TG:=λv σ H Q=>∃a xs,v=.ref a/\SqT K H a xs/\xs.length=n/\t xs σ H Q
theorem c1f{es:List Expr}{k:Nat}{t:TGs}{n:Nat}(hc:X.calm=true)(h:PGs X es t)(hn:(assignEach es X.env).length=n:=by rfl)(hst:(assignEach es X.env).findIdx? (·.1)=none:=by rfl):PG X (.Tuple es k pos) (c2y X.K n t):=by
 intro pins s σ H v u Q I r hw;obtain⟨a,xs,e1,hq,hl,hw⟩:=hw;subst e1;cases r;obtain⟨its,rv,ht,hz⟩:=I.tuple hq;refine assign_Tuple_tuple (I.ok.hd hc) ht (by simp[hn,<- hl,rv.length]) hst λh' hx=>?_
 have I1:Inv X pins σ H { s with heap:=h' }:=I.kept (t':=s.toks) λb o e=>hx b o (Nat.ne_of_lt (Heap.lt_size e)) e
 exact h pins _ σ H xs _ Q I1 (by simpa using rv) hw
def c6a(to ti:TE)(t:c4o):TG:=λv σ H Q=>to σ H λo H1=>ti σ H1 λi H2=>t o i v H2 λH3=>Q σ H3
theorem b8t{o i:Expr}{to ti:TE}{t:c4o}(ho:PE X o to)(hi:PE X i ti)(hs:c5h X t)(ha:∀v,assign (.Subscript o i pos) X.env v=(do
   let ov <- holding [v] (eval o X.env)
   let iv <- holding [v,ov] (eval i X.env)
   standAt pos
   holding [v,ov,iv] (setItem ov iv v)
   release [v,ov,iv] []):=by intro _;rfl):PG X (.Subscript o i pos) (c6a to ti t):=by
 intro pins s σ H v u Q I r h;rw[ha];refine wpAny_bind (wpAny_holding (thn (ho pins s σ H _ I h) λov s1 z0_=>?_));obtain⟨x,H1,I1,r1,q1⟩:=z0_;refine wpAny_bind (wpAny_holding (thn (hi pins s1 σ H1 _ I1 q1) λiv s2 z0_=>?_));obtain⟨y,H2,I2,r2,q2⟩:=z0_;refine wpAny_bind (wpAny_standAt (wpAny_bind (wpAny_holding (thn (hs pins s2 σ H2 x y v ov iv u _ I2 r1 r2 r q2) λ_ s3 z0_=>?_))));obtain⟨H3,I3,q3⟩:=z0_;exact wpAny_release ⟨σ,H3,I3,q3⟩
def c0x(te:TE)(g:TG):TS:=λD σ H=>te σ H λx H1=>g x σ H1 D.nx
theorem a1z{tg e:Expr}{te:TE}{g:TG}(he:PE X e te)(hg:PG X tg g)(hs:swapsWithSole [tg] e pos.line X.env=pure false:=by rfl)(hw:swappedStores [tg] e X.env=pure none:=by rfl)(h1:(assignEach [tg] X.env).map (·.2)=[assign tg X.env]:=by rfl):PS X (.Assign [tg] e pos) (c0x te g):=by
 intro pins s σ H D I h;refine wpAny_Assign_stores (thn (he pins s σ H _ I h) λv s1 z0_=>?_) hs hw;obtain⟨x,H1,I1,r1,q1⟩:=z0_;rw[h1];exact thn (hg pins s1 σ H1 x v _ I1 r1 q1) λ_ s2 q=>q
theorem i9{i:Nat}{x:Str}{e:Expr}{te:TE}{pos':Pos}(hN:X.N.Nodup)(hi:X.N[i]?=some x)(hx:Loc X.env.scope x)(he:PE X e te)(hs:swapsWith e (some (.Name x pos')) pos.line X.env=pure false:=by rfl)(hf:X.fn x=true\/X.env.scope.names.lookup x=some .local:=by first|exact .inl rfl|exact .inr rfl|assumption):
  PS X (.Assign [.Name x pos'] e pos) (c0x te (a2c i)):=by
 intro pins s σ H D I h;refine wpAny_Assign_Name (thn (he pins s σ H _ I h) λv s1 z0_=>?_) hs;obtain⟨y,H1,I1,r1,q1⟩:=z0_;exact b4c I1 hN hi hx r1 (λs2 I2=>⟨_,H1,I2,q1⟩) hf
end
structure It where
 go:Nat->Hp->Prop
 yld:Nat->Hp->V->Hp->Prop
 stop:Nat->Hp->Prop
def b7r(X:Cx)(pins:List (Addr×Obj))(H:Hp)(b:Addr):Prop :=
 H b=none/\b≠X.env.locals/\b ∉ X.fs/\(b∈X.ex\/X.s₀.heap.objs.size<=b)/\(∀x c,X.env.cells.lookup x=some c->c≠b)/\∀p∈X.pn++pins,p.1≠b
theorem Inv.fpOk{X:Cx}{pins:List (Addr×Obj)}{σ:St}{H H':Hp}{s:Shared}{b:Addr}(I:Inv X pins σ H s)(hb:s.heap.objs.size<=b)(hn:H' b=none):b7r X pins H' b:=by
 refine⟨hn,Nat.ne_of_gt (Nat.lt_of_lt_of_le I.lt hb),I.nofs hb,.inr (Nat.le_trans I.sz hb),λx c e z=>?_,λp hp z=>?_⟩
 ·obtain⟨v,q⟩:=I.cell x c e
  exact absurd (Nat.lt_of_lt_of_le q.lt (by rw[z];exact hb)) (Nat.lt_irrefl _)
 ·exact absurd (Nat.lt_of_lt_of_le (Heap.lt_size (I.pin p hp).1) (by rw[z];exact hb)) (Nat.lt_irrefl _)
structure c2z(P:Program)(w:World)(K:Frag)(tg:Expr)(J:It)(fp:List Addr)(it:Addr)(tn:Nat->Heap->Prop):Prop where
 mem:it∈fp
 obj:∀i h,tn i h->∀b∈fp,∃o,h.get? b=some o/\∀v,o.data≠.cell v
 keep:∀i h h',tn i h->(∀b∈fp,∀o,h.get? b=some o->h'.get? b=some o)->tn i h'
 item:∀(X:Cx),X.prog=P->X.w=w->X.K=K->X.calm=true->∀(i:Nat)(pins:List (Addr×Obj))(s:Shared)(σ:St)(H:Hp)(E:Value->Shared->Prop),Inv X pins σ H s->(∀b∈fp,b7r X pins H b)->tn i s.heap->J.go i H ->
  wpAny (model P w) X.A (pyNext (.ref it)) (λr s1=>∃u,r=some u /\
   wpAny (model P w) X.A (letOwnedTupleGo tg (.ref it) u) (λ_ s2=>∃x H',Inv X pins σ H' s2/\RelV x u/\J.yld i H x H'/\tn (i+1) s2.heap/\∀b∈fp,H' b=none) E s1) E s
 done:∀(X:Cx),X.prog=P->X.w=w->X.K=K->X.calm=true->∀(i:Nat)(pins:List (Addr×Obj))(s:Shared)(σ:St)(H:Hp)(E:Value->Shared->Prop),Inv X pins σ H s->(∀b∈fp,b7r X pins H b)->tn i s.heap->J.stop i H ->
  wpAny (model P w) X.A (pyNext (.ref it)) (λr s1=>r=none/\Inv X pins σ H s1) E s
 self:∀(A:Around)(i:Nat)(s:Shared)(Q:Value->Shared->Prop)(E:Value->Shared->Prop),tn i s.heap->Q (.ref it) s->wpAny (model P w) A (pyIter (.ref it)) Q E s
abbrev TI:=St->Hp->(It->Hp->Prop)->Prop
def PIE(X:Cx)(pins:List (Addr×Obj))(σ:St)(tg:Expr)(R:It->Hp->Prop)(itv:Value)(s2:Shared):Prop :=
 ∃(it:Addr)(fp:List Addr)(tn:Nat->Heap->Prop)(J:It)(H':Hp),itv=.ref it/\Inv X pins σ H' s2/\c2z X.prog X.w X.K tg J fp it tn/\tn 0 s2.heap/\(∀b∈fp,b7r X pins H' b)/\R J H'
def PI(X:Cx)(tg iter:Expr)(wi:TI):Prop :=
 ∀(pins:List (Addr×Obj))(s:Shared)(σ:St)(H:Hp)(R:It->Hp->Prop),Inv X pins σ H s->wi σ H R ->
  wpAny (model X.prog X.w) X.A (eval iter X.env) (λv s1=>wpAny (model X.prog X.w) X.A (pyIter v) (PIE X pins σ tg R) X.xe s1) X.xe s
theorem b9y{M:Model}{A:Around}{E:Value->Shared->Prop}{s:Shared}{tg:Expr}{it:Addr}{u:Value}{o:Obj}{n:String}{vs:Array Value}{Q:Unit->Shared->Prop}(ho:s.heap.get? it=some o)(hc:o.cls=.type n)(hd:o.data=.fields vs)(hn:["enumerate","zip","dict_itemiterator","dict_reverseitemiterator","odict_iterator","itertools.zip_longest","itertools.pairwise"].contains n=false)(hQ:Q () s):wpAny M A (letOwnedTupleGo tg (.ref it) u) Q E s:=by
 unfold letOwnedTupleGo;cases tg <;> first
  | exact wpAny_pure hQ
  | (cases u <;> first
    | exact wpAny_pure hQ
    | (
      refine wpAny_bind (wpAny_load ho ?_);rw[hc,hd];show wpAny M A (if (["enumerate","zip","dict_itemiterator","dict_reverseitemiterator","odict_iterator","itertools.zip_longest","itertools.pairwise"].contains n && vs[0]? == some (rawInt _))=true then _ else _) Q E s;rw[if_neg (by intro h;rw[hn,Bool.false_and] at h;cases h)]
      exact wpAny_pure hQ))
def Itl(K:Frag)(a:Addr):It :=
 ⟨λi H=>∃xs x,SqL K H a xs/\xs[i]?=some x,λi H x H'=>H'=H/\∀xs,SqL K H a xs->xs[i]?=some x,λi H=>∃xs,SqL K H a xs/\xs.length<=i⟩
def Itt(K:Frag)(a:Addr):It :=
 ⟨λi H=>∃xs x,SqT K H a xs/\xs[i]?=some x,λi H x H'=>H'=H/\∀xs,SqT K H a xs->xs[i]?=some x,λi H=>∃xs,SqT K H a xs/\xs.length<=i⟩
def Itr(lo:Int)(n:Nat):It:=⟨λi _=>i<n,λi H x H'=>H'=H/\x=.int (lo+i),λi _=>n<=i⟩
theorem b1g{P:Program}{w:World}{K:Frag}{tg:Expr}(a it:Addr):c2z P w K tg (Itl K a) [it] it (λi h=>h.IsListIter it a i) where
 mem:=by simp
 obj:=λi h st b hb=>by
  have e:b=it:=by simpa using hb
  subst e;obtain⟨o,e,c,d⟩:=st;exact⟨o,e,λv z=>by rw[d] at z;cases z⟩
 keep:=λi h h' st k=>st.at λo e=>k it (by simp) o e
 item:=by
  intro X hP hw hK hc i pins s σ H E I hf st hg;subst hP hw hK;obtain⟨xs,x,hq,hx⟩:=hg;obtain⟨its,rv,p,hz⟩:=I.list hq;obtain⟨u,hu,ru⟩:=rv.get hx;obtain⟨f0,f1,f2,f3,f4,f5⟩:=hf it (by simp)
  refine wpAny_pyNext_list_item st p.isList (x:=u) (by simpa using hu) λh' st' sb=>?_
  have I1:Inv X pins σ H { s with heap:=h' }:=I.turned (t':=s.toks) (λb o hb e=>(sb.2 b hb).trans e) f0 f1 f3 f4 f5
  obtain⟨o,e,c,d⟩:=id st';exact⟨u,rfl,b9y (s:={ s with heap:=h' }) e c d (by decide) ⟨x,H,I1,ru,⟨rfl,λys hy=>by rw[I.list_inj hy hq];exact hx⟩,st',λb hb=>(hf b hb).1⟩⟩
 done:=by
  intro X hP hw hK hc i pins s σ H E I hf st hg;subst hP hw hK;obtain⟨xs,hq,hx⟩:=hg;obtain⟨its,rv,p,hz⟩:=I.list hq;obtain⟨f0,f1,f2,f3,f4,f5⟩:=hf it (by simp)
  have hl:=rv.length;exact wpAny_pyNext_list_end (I.ok.hd hc) st p.isList (by simp;lia) λh' eb=>⟨rfl,I.turned (t':=s.toks) (λb o hb e=>eb b o hb e) f0 f1 f3 f4 f5⟩
 self:=λ_ _ _ _ _ st h=>wpAny_pyIter_listiter st h
theorem a9a{P:Program}{w:World}{K:Frag}{tg:Expr}(a it:Addr):c2z P w K tg (Itt K a) [it] it (λi h=>h.IsTupleIter it a i) where
 mem:=by simp
 obj:=λi h st b hb=>by
  have e:b=it:=by simpa using hb
  subst e;obtain⟨o,e,c,d⟩:=st;exact⟨o,e,λv z=>by rw[d] at z;cases z⟩
 keep:=λi h h' st k=>st.at λo e=>k it (by simp) o e
 item:=by
  intro X hP hw hK hc i pins s σ H E I hf st hg;subst hP hw hK;obtain⟨xs,x,hq,hx⟩:=hg;obtain⟨its,rv,p,hz⟩:=I.tuple hq;obtain⟨u,hu,ru⟩:=rv.get hx;obtain⟨f0,f1,f2,f3,f4,f5⟩:=hf it (by simp)
  refine wpAny_pyNext_tuple_item st (show s.heap.IsTuple a its.toArray from p) (x:=u) (by simpa using hu) λh' st' sb=>?_
  have I1:Inv X pins σ H { s with heap:=h' }:=I.turned (t':=s.toks) (λb o hb e=>(sb.2 b hb).trans e) f0 f1 f3 f4 f5
  obtain⟨o,e,c,d⟩:=id st';exact⟨u,rfl,b9y (s:={ s with heap:=h' }) e c d (by decide) ⟨x,H,I1,ru,⟨rfl,λys hy=>by rw[I.tuple_inj hy hq];exact hx⟩,st',λb hb=>(hf b hb).1⟩⟩
 done:=by
  intro X hP hw hK hc i pins s σ H E I hf st hg;subst hP hw hK;obtain⟨xs,hq,hx⟩:=hg;obtain⟨its,rv,p,hz⟩:=I.tuple hq;obtain⟨f0,f1,f2,f3,f4,f5⟩:=hf it (by simp)
  have hl:=rv.length;exact wpAny_pyNext_tuple_end (I.ok.hd hc) st (show s.heap.IsTuple a its.toArray from p) (by simp;lia) λh' eb=>⟨rfl,I.turned (t':=s.toks) (λb o hb e=>eb b o hb e) f0 f1 f3 f4 f5⟩
 self:=λ_ _ _ _ _ st h=>wpAny_pyIter_tupleiter st h
theorem b4w{P:Program}{w:World}{K:Frag}{tg:Expr}(it:Addr)(lo:Int)(n:Nat):c2z P w K tg (Itr lo n) [it] it (λi h=>IsRangeIter h it (lo+(i:Nat)*1) ((n:Int)-(i:Nat)) 1) where
 mem:=by simp
 obj:=λi h st b hb=>by
  have e:b=it:=by simpa using hb
  subst e;exact⟨_,st,λv z=>by
   have z':Data.fields _=Data.cell v:=z;cases z'⟩
 keep:=λi h h' st k=>k it (by simp) _ st
 item:=by
  intro X hP hw hK hc i pins s σ H E I hf st hg;subst hP hw hK;obtain⟨f0,f1,f2,f3,f4,f5⟩:=hf it (by simp)
  have W:=Walks.range (prog:=X.prog) (w:=X.w) (I.ok.hd hc) it lo 1 n;refine W.item i s _ _ hg st λv h' tk hv st' kk=>?_;obtain⟨t,rfl⟩:=hv;have I1:Inv X pins σ H { s with heap:=h',toks:=tk }:=I.turned (λb o hb e=>kk b o (by simpa using hb) e) f0 f1 f3 f4 f5
  refine⟨_,rfl,b9y (s:={ s with heap:=h',toks:=tk }) (n:="range_iterator") st' rfl rfl (by decide) ⟨.int (lo+i),H,I1,⟨t,?_⟩,⟨rfl,rfl⟩,st',λb hb=>(hf b hb).1⟩⟩
  rw[Int.mul_one]
 done:=by
  intro X hP hw hK hc i pins s σ H E I hf st hg;subst hP hw hK;obtain⟨f0,f1,f2,f3,f4,f5⟩:=hf it (by simp)
  exact wpAny_pyNext_range_end (I.ok.hd hc) st (by have:n<=i:=hg;lia) λh' eb=>⟨rfl,I.turned (t':=s.toks) (λb o hb e=>eb b o hb e) f0 f1 f3 f4 f5⟩
 self:=λ_ _ _ _ _ st h=>wpAny_pyIter_rangeiter st h
end L2
namespace L2
open PySem PySem.Spec PyProof.Rows
section
variable{X:Cx}{tg:Expr}
def b9x(K:Frag)(tl:TE):TI:=λσ H R=>tl σ H λx H1=>∃a,x=.ref a/\(∃xs,SqL K H1 a xs)/\R (Itl K a) H1
def c3r(K:Frag)(tl:TE):TI:=λσ H R=>tl σ H λx H1=>∃a,x=.ref a/\(∃xs,SqT K H1 a xs)/\R (Itt K a) H1
theorem b9o{l:Expr}{tl:TE}(hl:PE X l tl):PI X tg l (b9x X.K tl):=by
 intro pins s σ H R I h;refine thn (hl pins s σ H _ I h) λv s1 z0_=>?_;obtain⟨x,H1,I1,r1,q1⟩:=z0_;obtain⟨a,e,⟨xs,hq⟩,q⟩:=q1;subst e;cases r1;obtain⟨its,rv,p,hz⟩:=I1.list hq;refine wpAny_pyIter_list p.isList ?_;refine⟨s1.heap.objs.size,[s1.heap.objs.size],_,_,H1,rfl,I1.kept (t':=s1.toks) λb o e=>Heap.get?_push_of_some _ e,b1g a _,⟨_,Heap.get?_push_size _ rfl,rfl,rfl⟩,λb hb=>?_,q⟩;have e:b=s1.heap.objs.size:=by simpa using hb
 subst e;exact I1.fpOk (Nat.le_refl _) (I1.hok.fresh (Nat.le_refl _))
theorem c1e{l:Expr}{tl:TE}(hl:PE X l tl):PI X tg l (c3r X.K tl):=by
 intro pins s σ H R I h;refine thn (hl pins s σ H _ I h) λv s1 z0_=>?_;obtain⟨x,H1,I1,r1,q1⟩:=z0_;obtain⟨a,e,⟨xs,hq⟩,q⟩:=q1;subst e;cases r1;obtain⟨its,rv,p,hz⟩:=I1.tuple hq;refine wpAny_pyIter_tuple (show s1.heap.IsTuple a its.toArray from p) ?_;refine⟨s1.heap.objs.size,[s1.heap.objs.size],_,_,H1,rfl,I1.kept (t':=s1.toks) λb o e=>Heap.get?_push_of_some _ e,a9a a _,⟨_,Heap.get?_push_size _ rfl,rfl,rfl⟩,λb hb=>?_,q⟩;have e:b=s1.heap.objs.size:=by simpa using hb
 subst e;exact I1.fpOk (Nat.le_refl _) (I1.hok.fresh (Nat.le_refl _))
theorem b4f{pins:List (Addr×Obj)}{σ:St}{H:Hp}{s:Shared}{R:It->Hp->Prop}{E:Value->Shared->Prop}{lo hi:Int}{t u v:Tok}{tk:Nat}(I:Inv X pins σ H s)(h1:-(2 ^ 62)<=lo)(h2:lo<2 ^ 62)(h3:-(2 ^ 62)<=hi)(h4:hi<2 ^ 62)(q:R (Itr lo (hi-lo).toNat) H):wpAny (model X.prog X.w) X.A (pyIter (.ref s.heap.objs.size)) (PIE X pins σ tg R) E { s with heap:=s.heap.push { cls:=.type "range",data:=.fields #[.int lo t,.int hi u,.int 1 v] },toks:=tk }:=by
 refine wpAny_pyIter_range (IsRange.new ..) (small_one h1 h2 h3 h4) ?_;have I1:Inv X pins σ H { s with heap:=s.heap.push { cls:=.type "range",data:=.fields #[.int lo t,.int hi u,.int 1 v] },toks:=tk }:=I.kept λb o e=>Heap.get?_push_of_some _ e
 refine⟨(s.heap.push { cls:=.type "range",data:=.fields #[.int lo t,.int hi u,.int 1 v] }).objs.size,[(s.heap.push { cls:=.type "range",data:=.fields #[.int lo t,.int hi u,.int 1 v] }).objs.size],_,_,H,rfl,
  I1.kept (t':=tk) λb o e=>Heap.get?_push_of_some _ e,b4w _ lo (hi-lo).toNat,?_,λb hb=>?_,q⟩
 ·have e1:lo+((0:Nat):Int)*1=lo:=by simp
  have e2:(((hi-lo).toNat:Nat):Int)-((0:Nat):Int)=Builtin.Range.rangeSize lo hi 1:=by rw[rangeSize_one];split <;> lia
  show IsRangeIter _ _ (lo+((0:Nat):Int)*1) ((((hi-lo).toNat:Nat):Int)-((0:Nat):Int)) 1;rw[e1,e2];exact Heap.get?_push_size _ rfl
 ·have e:b=(s.heap.push { cls:=.type "range",data:=.fields #[.int lo t,.int hi u,.int 1 v] }).objs.size:=by simpa using hb
  subst e;exact I1.fpOk (Nat.le_refl _) (I1.hok.fresh (Nat.le_refl _))
def c1y(ta:TA):TI:=λσ H R=>ta σ H λvs H1=>∃j:Int,vs=[.int j]/\-(2 ^ 62)<=j/\j<2 ^ 62/\R (Itr 0 j.toNat) H1
def c1x(ta:TA):TI:=λσ H R=>ta σ H λvs H1=>∃i j:Int,vs=[.int i,.int j]/\(-(2 ^ 62)<=i/\i<2 ^ 62/\-(2 ^ 62)<=j/\j<2 ^ 62)/\R (Itr i (j-i).toNat) H1
theorem u0{a:Expr}{ta:TA}{p pos:Pos}(hg:Gl X "range")(hm:X.mg "range" = none)(ha:PA X [a] ta)(hs:starEach [a] X.env=[(false,eval a X.env)]:=by rfl):PI X tg (.Call (.Name "range" p) [a] [] pos) (c1y ta):=by
 intro pins s σ H R I h;refine Call_ (a9l I hg hm boot_range (PyProof.Rows.callWith_type1 (thn (ha pos pins s σ H _ I h) λus s1 z0_=>?_) hs rfl));obtain⟨vs,H1,I1,r1,q1⟩:=z0_;obtain⟨j,e,q1,q2,q⟩:=q1;subst e;cases r1 with
 | cons r rr=>
  cases rr;obtain⟨t,rfl⟩:=r;exact call_range_1 (b4f I1 (by lia) (by lia) q1 q2 (by simpa using q))
theorem b6k{a b:Expr}{ta:TA}{p pos:Pos}(hg:Gl X "range")(hm:X.mg "range" = none)(ha:PA X [a,b] ta)(hs:starEach [a,b] X.env=[(false,eval a X.env),(false,eval b X.env)]:=by rfl)(hs2:starEach [b] X.env=[(false,eval b X.env)]:=by rfl):
  PI X tg (.Call (.Name "range" p) [a,b] [] pos) (c1x ta):=by
 intro pins s σ H R I h;refine Call_ (a9l I hg hm boot_range (PyProof.Rows.callWith_type1 (thn (ha pos pins s σ H _ I h) λus s1 ⟨vs,H1,I1,r1,q1⟩=>?_) (by rw[hs,hs2]) (by rw[hs2];rfl)))
 obtain⟨i,j,e,⟨q1,q2,q3,q4⟩,q⟩:=q1;subst e;cases r1 with
 | cons r rr=>
  cases rr with
  | cons r' rr=>
   cases rr;obtain⟨t,rfl⟩:=r;obtain⟨t',rfl⟩:=r';exact call_range_2 (b4f I1 q1 q2 q3 q4 q)
def c4w(wi:TI)(g:TG)(tb:TS):TS:=λD σ H=>wi σ H λJ H1=>∃W:Nat->Nat->St->Hp->Prop,(∃m,W 0 m σ H1)/\∀i m σ H,W i m σ H ->
 (J.stop i H/\D.nx σ H)\/(J.go i H/\∃N:St->Hp->Prop,(∀σ' H',N σ' H'->∃m',m'<m/\W (i+1) m' σ' H')/\∀x H',J.yld i H x H'->g x σ H' λσ2 H2=>tb { D with nx:=N,ct:=N,bk:=D.nx } σ2 H2)
def b1x(fp:List Addr)(h:Heap):List (Addr×Obj):=fp.filterMap λb=>(h.get? b).map λo=>(b,o)
theorem a3m{fp:List Addr}{h:Heap}{b:Addr}{o:Obj}(hb:b∈fp)(e:h.get? b=some o):(b,o)∈b1x fp h:=List.mem_filterMap.mpr ⟨b,hb,by rw[e];rfl⟩
theorem b6r{fp:List Addr}{h:Heap}{p:Addr×Obj}(hp:p∈b1x fp h):p.1∈fp/\h.get? p.1=some p.2:=by
 obtain⟨b,hb,e⟩:=List.mem_filterMap.mp hp;cases q:h.get? b with
 | none=>rw[q] at e;cases e
 | some o=>
  rw[q] at e;have e':(b,o)=p:=Option.some.inj e;subst e';exact⟨hb,q⟩
theorem Inv.pinned{pins:List (Addr×Obj)}{σ:St}{H:Hp}{s:Shared}{fp:List Addr}(I:Inv X pins σ H s)(hf:∀b∈fp,b7r X pins H b)(ho:∀b∈fp,∃o,s.heap.get? b=some o/\∀v,o.data≠.cell v):Inv X (pins++b1x fp s.heap) σ H s :=
 I.pins_of λp hp=>(List.mem_append.mp hp).elim (λz=>I.pin p (List.mem_append_right _ z)) λz=>by
  obtain⟨hb,e⟩:=b6r z;obtain⟨f0,f1,f2,_⟩:=hf p.1 hb;obtain⟨o,e',d⟩:=ho p.1 hb;rw[e] at e';cases e';exact⟨e,f0,f1,f2,d⟩
theorem Inv.unpinned{pins pl:List (Addr×Obj)}{σ:St}{H:Hp}{s:Shared}(I:Inv X (pins++pl) σ H s):Inv X pins σ H s:=I.pins_of λp hp=>I.pin p (List.mem_append_right _ (List.mem_append_left _ hp))
theorem a9g{iter:Expr}{body:List Stmt}{wi:TI}{g:TG}{tb:TS}{pos:Pos}(hp:PassesOwn (model X.prog X.w) X.A X.env X.xe)(hc:X.calm=true)(hi:PI X tg iter wi)(hg:PG X tg g)(hb:PSs X body tb)(hs:∀x,foldedSetIterable iter X.env x=pure x:=by intro _;rfl):PS X (.For tg iter body [] pos) (c4w wi g tb):=by
 intro pins s σ H D I h;refine wpAny_For (thn (hi pins s σ H _ I h) λv s1 h1=>thn h1 λitv s2 h2=>?_) hs;obtain⟨it,fp,tn,J,H2,e,I2,T,st2,f2,W,⟨m0,w0⟩,turn⟩:=h2;subst e;have stat:∀{H':Hp},(∀b∈fp,H' b=none)->∀b∈fp,b7r X pins H' b:=λhn b hb=>⟨hn b hb,(f2 b hb).2⟩;refine codeAny_forLoop_any (λn s'=>∃i σ' H',Inv X pins σ' H' s'/\tn i s'.heap/\(∀b∈fp,H' b=none)/\W i n σ' H') ?_ m0 ⟨0,σ,H2,I2,st2,λb hb=>(f2 b hb).1,w0⟩;rintro n s3 ⟨i,σ3,H3,I3,st3,fr3,w3⟩;rcases turn i n σ3 H3 w3 with ⟨stop,qn⟩|⟨go,N,hN,step⟩
 ·refine wpAny_passesOwn hp (thn (T.done X rfl rfl rfl hc i pins s3 σ3 H3 X.xe I3 (stat fr3) st3 stop) λr s4 z0_=>?_)
  obtain⟨hr,I4⟩:=z0_;subst hr;exact wpAny_execs_nil ⟨σ3,H3,I4,qn⟩
 ·refine wpAny_passesOwn hp (thn (T.item X rfl rfl rfl hc i pins s3 σ3 H3 X.xe I3 (stat fr3) st3 go) λr s4 z0_=>?_)
  obtain⟨u,hr,h4⟩:=z0_;subst hr;refine wpAny_passesOwn hp (thn h4 λ_ s5 z0_=>?_);obtain⟨x,H5,I5,r5,y5,st5,fr5⟩:=z0_;have I5':=I5.pinned (stat fr5) (T.obj _ _ st5);refine wpAny_passesOwn hp (thn (hg _ s5 σ3 H5 x u _ I5' r5 (step x H5 y5)) λ_ s6 z0_=>?_);obtain⟨σ6,H6,I6,q6⟩:=z0_;refine wpAny_passesOwn hp (thn (hb _ s6 σ6 H6 _ I6 q6) λf s7 q7=>?_);have again:∀{σ7:St}{H7:Hp},Inv X (pins++b1x fp s5.heap) σ7 H7 s7->N σ7 H7->∃m,m<n/\∃i σ' H',Inv X pins σ' H' s7/\tn i s7.heap/\(∀b∈fp,H' b=none)/\W i m σ' H':=λ{σ7 H7} I7 n7=>by
   obtain⟨m',hm,w7⟩:=hN σ7 H7 n7;refine⟨m',hm,i+1,σ7,H7,I7.unpinned,T.keep _ _ _ st5 λb hb o e=>(I7.pin (b,o) (List.mem_append_right _ (List.mem_append_right _ (a3m hb e)))).1,λb hb=>?_,w7⟩;obtain⟨o,e,d⟩:=T.obj _ _ st5 b hb;exact(I7.pin (b,o) (List.mem_append_right _ (List.mem_append_right _ (a3m hb e)))).2.1
  cases f with
  | next=>obtain⟨σ7,H7,I7,n7⟩:=q7;exact again I7 n7
  | cont=>obtain⟨σ7,H7,I7,n7⟩:=q7;exact again I7 n7
  | brk=>obtain⟨σ7,H7,I7,q7⟩:=q7;exact⟨σ7,H7,I7.unpinned,q7⟩
  | ret v=>obtain⟨x7,σ7,H7,I7,r7,q7⟩:=q7;exact⟨x7,σ7,H7,I7.unpinned,r7,q7⟩
end
theorem b8j{K:Frag}{a:Addr}{xs:List V}{g:TG}{tb:TS}{D:b8p}{σ:St}{H:Hp}(Pv:Nat->St->Hp->Prop)(h0:Pv 0 σ H)(hl:∀i σ H,i<=xs.length->Pv i σ H->SqL K H a xs)(hs:∀i x σ H,xs[i]?=some x->Pv i σ H->g x σ H λσ2 H2=>tb { D with nx:=Pv (i+1),ct:=Pv (i+1),bk:=D.nx } σ2 H2)(hd:∀σ H,Pv xs.length σ H->D.nx σ H):
  ∃W:Nat->Nat->St->Hp->Prop,(∃m,W 0 m σ H)/\∀i m σ H,W i m σ H ->
   ((Itl K a).stop i H/\D.nx σ H)\/((Itl K a).go i H/\∃N:St->Hp->Prop,(∀σ' H',N σ' H'->∃m',m'<m/\W (i+1) m' σ' H')/\∀x H',(Itl K a).yld i H x H'->g x σ H' λσ2 H2=>tb { D with nx:=N,ct:=N,bk:=D.nx } σ2 H2):=by
 refine⟨λi m σ H=>m=xs.length-i/\i<=xs.length/\Pv i σ H,⟨xs.length,by simp,Nat.zero_le _,h0⟩,?_⟩
 rintro i m σ H ⟨rfl,hi,p⟩;have q:=hl i σ H hi p;by_cases hlt:i<xs.length
 ·refine .inr ⟨⟨xs,xs[i],q,by simp[hlt]⟩,Pv (i+1),λσ' H' p'=>⟨xs.length-(i+1),by lia,rfl,hlt,p'⟩,λx H' y=>?_⟩
  obtain⟨e,y⟩:=y;subst e;exact hs i x σ _ (y xs q) p
 ·have e:i=xs.length:=by lia
  subst e;exact .inl ⟨⟨xs,q,Nat.le_refl _⟩,hd σ H p⟩
theorem c0g{K:Frag}{a:Addr}{xs:List V}{g:TG}{tb:TS}{D:b8p}{σ:St}{H:Hp}(Pv:Nat->St->Hp->Prop)(h0:Pv 0 σ H)(hl:∀i σ H,i<=xs.length->Pv i σ H->SqT K H a xs)(hs:∀i x σ H,xs[i]?=some x->Pv i σ H->g x σ H λσ2 H2=>tb { D with nx:=Pv (i+1),ct:=Pv (i+1),bk:=D.nx } σ2 H2)(hd:∀σ H,Pv xs.length σ H->D.nx σ H):
  ∃W:Nat->Nat->St->Hp->Prop,(∃m,W 0 m σ H)/\∀i m σ H,W i m σ H ->
   ((Itt K a).stop i H/\D.nx σ H)\/((Itt K a).go i H/\∃N:St->Hp->Prop,(∀σ' H',N σ' H'->∃m',m'<m/\W (i+1) m' σ' H')/\∀x H',(Itt K a).yld i H x H'->g x σ H' λσ2 H2=>tb { D with nx:=N,ct:=N,bk:=D.nx } σ2 H2):=by
 refine⟨λi m σ H=>m=xs.length-i/\i<=xs.length/\Pv i σ H,⟨xs.length,by simp,Nat.zero_le _,h0⟩,?_⟩
 rintro i m σ H ⟨rfl,hi,p⟩;have q:=hl i σ H hi p;by_cases hlt:i<xs.length
 ·refine .inr ⟨⟨xs,xs[i],q,by simp[hlt]⟩,Pv (i+1),λσ' H' p'=>⟨xs.length-(i+1),by lia,rfl,hlt,p'⟩,λx H' y=>?_⟩
  obtain⟨e,y⟩:=y;subst e;exact hs i x σ _ (y xs q) p
 ·have e:i=xs.length:=by lia
  subst e;exact .inl ⟨⟨xs,q,Nat.le_refl _⟩,hd σ H p⟩
theorem b7f{lo:Int}{n:Nat}{g:TG}{tb:TS}{D:b8p}{σ:St}{H:Hp}(Pv:Nat->St->Hp->Prop)(h0:Pv 0 σ H)(hs:∀i σ H,i<n->Pv i σ H->g (.int (lo+i)) σ H λσ2 H2=>tb { D with nx:=Pv (i+1),ct:=Pv (i+1),bk:=D.nx } σ2 H2)(hd:∀σ H,Pv n σ H->D.nx σ H):
  ∃W:Nat->Nat->St->Hp->Prop,(∃m,W 0 m σ H)/\∀i m σ H,W i m σ H ->
   ((Itr lo n).stop i H/\D.nx σ H)\/((Itr lo n).go i H/\∃N:St->Hp->Prop,(∀σ' H',N σ' H'->∃m',m'<m/\W (i+1) m' σ' H')/\∀x H',(Itr lo n).yld i H x H'->g x σ H' λσ2 H2=>tb { D with nx:=N,ct:=N,bk:=D.nx } σ2 H2):=by
 refine⟨λi m σ H=>m=n-i/\i<=n/\Pv i σ H,⟨n,by simp,Nat.zero_le _,h0⟩,?_⟩
 rintro i m σ H ⟨rfl,hi,p⟩;by_cases hlt:i<n
 ·refine .inr ⟨hlt,Pv (i+1),λσ' H' p'=>⟨n-(i+1),by lia,rfl,hlt,p'⟩,λx H' y=>?_⟩
  obtain⟨e,y⟩:=y;subst e y;exact hs i σ _ hlt p
 ·have e:i=n:=by lia
  subst e;exact .inl ⟨Nat.le_refl _,hd σ H p⟩
end L2
namespace L2
open PySem PySem.Spec PyProof.Rows
abbrev R2:=V->V->Hp->VK->Prop
def OpR(X:Cx)(f:Value->Value->Sem Value)(r:R2):Prop :=
 ∀(pins:List (Addr×Obj))(s:Shared)(σ:St)(H:Hp)(x y:V)(v u:Value)(Q:VK),Inv X pins σ H s->RelV x v->RelV y u->r x y H Q ->
  wpAny (model X.prog X.w) X.A (f v u) (EP X pins σ Q) X.xe s
def a6n(X:Cx)(f:Value)(r:List V->Hp->VK->Prop):Prop :=
 ∀(pins:List (Addr×Obj))(s:Shared)(σ:St)(H:Hp)(xs:List V)(us:List Value)(Q:VK),Inv X pins σ H s->Vals xs us->r xs H Q ->
  wpAny (model X.prog X.w) X.A (call f us) (EP X pins σ Q) X.xe s
def tOp(r:R2)(ta tb:TE):TE:=λσ H Q=>ta σ H λx H1=>tb σ H1 λy H2=>r x y H2 Q
def rI(C:Int->Int->Prop)(g:Int->Int->V):R2:=λx y H Q=>∃i j,x=.int i/\y=.int j/\C i j/\Q (g i j) H
def rI0(g:Int->Int->V):R2:=λx y H Q=>∃i j,x=.int i/\y=.int j/\Q (g i j) H
section
variable{X:Cx}{a b c:Expr}{ta tb tc:TE}{pos:Pos}
theorem c4n(ha:PE X a ta)(hb:PE X b tb){pins:List (Addr×Obj)}{s:Shared}{σ:St}{H:Hp}{R:V->V->Hp->Prop}(I:Inv X pins σ H s)(h:ta σ H λx H1=>tb σ H1 λy H2=>R x y H2){Q:Value->Shared->Prop}{f:Value->Value->Sem Value}(hf:∀v u s2 x y H2,Inv X pins σ H2 s2->RelV x v->RelV y u->R x y H2->wpAny (model X.prog X.w) X.A (f v u) Q X.xe s2):
  wpAny (model X.prog X.w) X.A (eval a X.env) (λv s₁=>wpAny (model X.prog X.w) X.A (eval b X.env) (λu s₂=>wpAny (model X.prog X.w) X.A (f v u) Q X.xe s₂) X.xe s₁) X.xe s:=by
 refine thn (ha pins s σ H _ I h) λv s1 z0_=>?_;obtain⟨x,H1,I1,r1,q1⟩:=z0_;refine thn (hb pins s1 σ H1 _ I1 q1) λu s2 z0_=>?_;obtain⟨y,H2,I2,r2,q2⟩:=z0_;exact hf v u s2 x y H2 I2 r1 r2 q2
theorem i5{op:Operator}{r:R2}(ho:OpR X (binaryOp op) r)(ha:PE X a ta)(hb:PE X b tb):PE X (.BinOp a op b pos) (tOp r ta tb):=by
 intro pins s σ H Q I h;exact wpAny_BinOp (c4n ha hb I h λv u s2 x y H2 I2 rx ry q=>ho pins s2 σ H2 x y v u Q I2 rx ry q)
theorem opI{f:Value->Value->Sem Value}{C:Int->Int->Prop}{g:Int->Int->Int}(rule:∀(i j:Int) (t u:Tok) (s:Shared) (Q:Value->Shared->Prop) (E:Value->Shared->Prop),C i j->Q (.int (g i j) s.toks) { s with toks:=s.toks+1 }->wpAny (model X.prog X.w) X.A (f (.int i t) (.int j u)) Q E s):
  OpR X f (rI C λi j=>.int (g i j)):=by
 intro pins s σ H x y v u Q I rx ry h;obtain⟨i,j,rfl,rfl,hc,q⟩:=h;obtain⟨t,rfl⟩:=rx;obtain⟨t',rfl⟩:=ry;exact rule i j t t' s _ _ hc ⟨.int (g i j),H,I.tok _,⟨_,rfl⟩,q⟩
theorem c5c{f:Value->Value->Sem Value}{g:Int->Int->Int}(rule:∀(i j:Int) (t u:Tok) (s:Shared) (Q:Value->Shared->Prop) (E:Value->Shared->Prop),Q (.int (g i j) s.toks) { s with toks:=s.toks+1 }->wpAny (model X.prog X.w) X.A (f (.int i t) (.int j u)) Q E s):
  OpR X f (rI0 λi j=>.int (g i j)):=by
 intro pins s σ H x y v u Q I rx ry h;obtain⟨i,j,rfl,rfl,q⟩:=h;obtain⟨t,rfl⟩:=rx;obtain⟨t',rfl⟩:=ry;exact rule i j t t' s _ _ ⟨.int (g i j),H,I.tok _,⟨_,rfl⟩,q⟩
theorem c2x{f:Value->Value->Sem Value}{g:Int->Int->Bool}(rule:∀(i j:Int) (t u:Tok) (s:Shared) (Q:Value->Shared->Prop) (E:Value->Shared->Prop),Q (.bool (g i j)) s->wpAny (model X.prog X.w) X.A (f (.int i t) (.int j u)) Q E s):
  OpR X f (rI0 λi j=>.bl (g i j)):=by
 intro pins s σ H x y v u Q I rx ry h;obtain⟨i,j,rfl,rfl,q⟩:=h;obtain⟨t,rfl⟩:=rx;obtain⟨t',rfl⟩:=ry;exact rule i j t t' s _ _ ⟨.bl (g i j),H,I,rfl,q⟩
def c6d(i j:Int):Prop:=0<=j/\j<=1000000/\i.natAbs<2 ^ 64
def CMul(i j:Int):Prop:=(-(2 ^ 64)<i/\i<2 ^ 64)\/(-(2 ^ 64)<j/\j<2 ^ 64)
theorem CMul.ok{i j:Int}(h:CMul i j):IntMulOk i j:=by
 rcases h with ⟨h1,h2⟩|⟨h1,h2⟩
 ·exact .of_left (intBits_le_64 h1 h2)
 ·exact .of_right (intBits_le_64 h1 h2)
theorem y6:OpR X (binaryOp .Add) (rI0 λi j=>.int (i+j)):=c5c λ_ _ _ _ _ _ _ q=>add_int q
theorem a0t:OpR X (binaryOp .Sub) (rI0 λi j=>.int (i-j)):=c5c λ_ _ _ _ _ _ _ q=>sub_int q
theorem o6:OpR X (binaryOp .Mult) (rI CMul λi j=>.int (i*j)):=opI λ_ _ _ _ _ _ _ hc q=>mul_int q hc.ok
theorem a3e:OpR X (binaryOp .Mod) (rI (λ_ j=>0<j) λi j=>.int (i % j)):=opI λi j _ _ _ _ _ hc q=>by
 have h1:(0:Int)<j:=hc;exact mod_int' (by lia) (by rw[Int.fmod_eq_emod_of_nonneg i (by lia)];exact q)
theorem b4h:OpR X (binaryOp .Pow) (rI c6d λi j=>.int (i ^ j.toNat)):=opI λ_ _ _ _ _ _ _ hc q=>pow_int_small hc.1 hc.2.1 hc.2.2 q
end
def c2w:V->V->Bool
 | .non,.non=>true|.non,.int _=>true|.int _,.non=>true|.non,.bl _=>true|.bl _,.non=>true|.non,.str _=>true|.str _,.non=>true
 | .int _,.int _=>true|.bl _,.bl _=>true|.str _,.str _=>true|.byt _,.byt _=>true
 | .int _,.str _=>true|.str _,.int _=>true|.bl _,.str _=>true|.str _,.bl _=>true
 | _,_=>false
def rEq:R2:=λx y H Q=>c2w x y=true/\Q (.bl (decide (x=y))) H
def rNe:R2:=λx y H Q=>c2w x y=true/\Q (.bl (!decide (x=y))) H
theorem q0{i j:Int}:decide (V.int i=V.int j)=(i == j):=by
 rw[Bool.eq_iff_iff];simp
theorem b9c{i j:Bool}:decide (V.bl i=V.bl j)=(i == j):=by
 rw[Bool.eq_iff_iff];simp
theorem a0n{i j:Str}:decide (V.str i=V.str j)=(i == j):=by
 rw[Bool.eq_iff_iff];simp
theorem b7j{i j:Array UInt8}:decide (V.byt i=V.byt j)=(i.toList == j.toList):=by
 rw[Bool.eq_iff_iff];cases i;cases j;simp
section
variable{X:Cx}{a b c:Expr}{ta tb tc:TE}{pos:Pos}
theorem k5{pins:List (Addr×Obj)}{σ:St}{H:Hp}{s:Shared}{Q:VK}{k k':Bool}(I:Inv X pins σ H s)(q:Q (.bl k) H)(e:k=k'):EP X pins σ Q (.bool k') s:=by
 subst e;exact⟨.bl k,H,I,rfl,q⟩
theorem z9:OpR X (compareOp .Eq) rEq:=by
 intro pins s σ H x y v u Q I rx ry h;obtain⟨hs,q⟩:=h;cases x with
 | non=>
  cases rx;cases y with
  | non=>cases ry;exact PySem.EqNone.eq_none_none (k5 I q (by simp))
  | bl j=>cases ry;exact PySem.EqNone.eq_none_bool (k5 I q (by simp))
  | int j=>obtain⟨t',rfl⟩:=ry;exact PySem.EqNone.eq_none_int (k5 I q (by simp))
  | str j=>obtain⟨t',rfl⟩:=ry;exact PySem.EqNone.eq_none_str (k5 I q (by simp))
  | _=>exact absurd (show false=true from hs) Bool.false_ne_true
 | bl i=>
  cases rx;cases y with
  | non=>cases ry;exact PySem.EqNone.eq_bool_none (k5 I q (by simp))
  | bl j=>cases ry;exact eq_bool (k5 I q b9c)
  | str j=>obtain⟨t',rfl⟩:=ry;exact PySem.EqMixed.eq_bool_str (k5 I q (by simp))
  | _=>exact absurd (show false=true from hs) Bool.false_ne_true
 | int i=>
  obtain⟨t,rfl⟩:=rx;cases y with
  | non=>cases ry;exact PySem.EqNone.eq_int_none (k5 I q (by simp))
  | int j=>obtain⟨t',rfl⟩:=ry;exact eq_int (k5 I q q0)
  | str j=>obtain⟨t',rfl⟩:=ry;exact PySem.EqMixed.eq_int_str (k5 I q (by simp))
  | _=>exact absurd (show false=true from hs) Bool.false_ne_true
 | str i=>
  obtain⟨t,rfl⟩:=rx;cases y with
  | non=>cases ry;exact PySem.EqNone.eq_str_none (k5 I q (by simp))
  | bl j=>cases ry;exact PySem.EqMixed.eq_str_bool (k5 I q (by simp))
  | int j=>obtain⟨t',rfl⟩:=ry;exact PySem.EqMixed.eq_str_int (k5 I q (by simp))
  | str j=>obtain⟨t',rfl⟩:=ry;exact eq_str (k5 I q a0n)
  | _=>exact absurd (show false=true from hs) Bool.false_ne_true
 | byt i=>
  obtain⟨t,rfl⟩:=rx;cases y with
  | byt j=>obtain⟨t',rfl⟩:=ry;exact PySem.W.eq_bytes (k5 I q b7j)
  | _=>exact absurd (show false=true from hs) Bool.false_ne_true
 | _=>cases y <;> exact absurd (show false=true from hs) Bool.false_ne_true
theorem b2b:OpR X (compareOp .NotEq) rNe:=by
 intro pins s σ H x y v u Q I rx ry h;obtain⟨hs,q⟩:=h;cases x with
 | non=>
  cases rx;cases y with
  | non=>cases ry;exact PySem.EqNone.ne_none_none (k5 I q (by simp))
  | bl j=>cases ry;exact PySem.EqNone.ne_none_bool (k5 I q (by simp))
  | int j=>obtain⟨t',rfl⟩:=ry;exact PySem.EqNone.ne_none_int (k5 I q (by simp))
  | str j=>obtain⟨t',rfl⟩:=ry;exact PySem.EqNone.ne_none_str (k5 I q (by simp))
  | _=>exact absurd (show false=true from hs) Bool.false_ne_true
 | bl i=>
  cases rx;cases y with
  | non=>cases ry;exact PySem.EqNone.ne_bool_none (k5 I q (by simp))
  | bl j=>cases ry;exact ne_bool (k5 I q (congrArg not b9c))
  | str j=>obtain⟨t',rfl⟩:=ry;exact PySem.EqMixed.ne_bool_str (k5 I q (by simp))
  | _=>exact absurd (show false=true from hs) Bool.false_ne_true
 | int i=>
  obtain⟨t,rfl⟩:=rx;cases y with
  | non=>cases ry;exact PySem.EqNone.ne_int_none (k5 I q (by simp))
  | int j=>obtain⟨t',rfl⟩:=ry;exact ne_int (k5 I q (congrArg not q0))
  | str j=>obtain⟨t',rfl⟩:=ry;exact PySem.EqMixed.ne_int_str (k5 I q (by simp))
  | _=>exact absurd (show false=true from hs) Bool.false_ne_true
 | str i=>
  obtain⟨t,rfl⟩:=rx;cases y with
  | non=>cases ry;exact PySem.EqNone.ne_str_none (k5 I q (by simp))
  | bl j=>cases ry;exact PySem.EqMixed.ne_str_bool (k5 I q (by simp))
  | int j=>obtain⟨t',rfl⟩:=ry;exact PySem.EqMixed.ne_str_int (k5 I q (by simp))
  | str j=>obtain⟨t',rfl⟩:=ry;exact ne_str (k5 I q (congrArg not a0n))
  | _=>exact absurd (show false=true from hs) Bool.false_ne_true
 | byt i=>
  obtain⟨t,rfl⟩:=rx;cases y with
  | byt j=>obtain⟨t',rfl⟩:=ry;exact PySem.W.ne_bytes (k5 I q (congrArg not b7j))
  | _=>exact absurd (show false=true from hs) Bool.false_ne_true
 | _=>cases y <;> exact absurd (show false=true from hs) Bool.false_ne_true
theorem a5r:OpR X (compareOp .Lt) (rI0 λi j=>.bl (decide (i<j))):=c2x λ_ _ _ _ _ _ _ q=>lt_int q
theorem c3m:OpR X (compareOp .LtE) (rI0 λi j=>.bl (decide (i<=j))):=c2x λ_ _ _ _ _ _ _ q=>le_int q
theorem b5b:OpR X (compareOp .Gt) (rI0 λi j=>.bl (decide (j<i))):=c2x λ_ _ _ _ _ _ _ q=>gt_int q
theorem b9t:OpR X (compareOp .GtE) (rI0 λi j=>.bl (decide (j<=i))):=c2x λ_ _ _ _ _ _ _ q=>ge_int q
theorem c1n:OpR X (compareOp .Is) (λx y H Q=>y=.non/\Q (.bl (decide (x=.non))) H):=by
 intro pins s σ H x y v u Q I rx ry h;obtain⟨rfl,q⟩:=h;cases ry;refine is_none_gen (k5 I q ?_);cases x <;> first
  | (cases rx;rfl)
  | (obtain⟨t,rfl⟩:=rx;rfl)
theorem b9s:OpR X (compareOp .IsNot) (λx y H Q=>y=.non/\Q (.bl (!decide (x=.non))) H):=by
 intro pins s σ H x y v u Q I rx ry h;obtain⟨rfl,q⟩:=h;cases ry;refine isnot_none_gen (k5 I q ?_);cases x <;> first
  | (cases rx;rfl)
  | (obtain⟨t,rfl⟩:=rx;rfl)
theorem g7(b:Expr){op:CmpOp}(h:op≠.In:=by decide)(h2:op≠.NotIn:=by decide):behindInMarks op b=false:=by
 have e1:(op == CmpOp.In)=false:=by cases op <;> first|rfl|exact absurd rfl h
 have e2:(op == CmpOp.NotIn)=false:=by cases op <;> first|rfl|exact absurd rfl h2
 cases b <;> simp[behindInMarks,e1,e2]
theorem j9{op:CmpOp}{r:R2}(ho:OpR X (compareOp op) r)(ha:PE X a ta)(hb:PE X b tb)(hm:behindInMarks op b=false):PE X (.Compare a [op] [b] pos) (tOp r ta tb):=by
 intro pins s σ H Q I h;exact wpAny_Compare1 (c4n ha hb I h λv u s2 x y H2 I2 rx ry q=>ho pins s2 σ H2 x y v u Q I2 rx ry q) hm
def b9e(t:TE):TT:=λσ H Q=>t σ H λx H'=>∃k,x=.bl k/\Q k H'
theorem g6{op:CmpOp}{r:R2}(ho:OpR X (compareOp op) r)(ha:PE X a ta)(hb:PE X b tb)(hm:behindInMarks op b=false):PT X (.Compare a [op] [b] pos) (b9e (tOp r ta tb)):=by
 intro pins s σ H Q I h;refine wpAny_isTrue_Compare1 (thn (ha pins s σ H _ I h) λv s1 ⟨x,H1,I1,r1,q1⟩=>thn (hb pins s1 σ H1 _ I1 q1) λu s2 ⟨y,H2,I2,r2,q2⟩=>
  thn (ho pins s2 σ H2 x y v u _ I2 r1 r2 q2) λc s3 ⟨z,H3,I3,r3,k,e,q3⟩=>?_) hm
 subst e;cases r3;exact wpAny_truthy_bool ⟨H3,I3,q3⟩
theorem b4j:(sizeLine:Nat)<2 ^ 63:=by rw[sizeLine_eq];decide
theorem b5p{x:V}{us:List Value}(r:Vals [x] us):∃u,us=[u]/\RelV x u:=by
 cases r with
 | cons r1 r2=>cases r2;exact⟨_,rfl,r1⟩
theorem c0q{x y:V}{us:List Value}(r:Vals [x,y] us):∃u w',us=[u,w']/\RelV x u/\RelV y w':=by
 cases r with
 | cons r1 r2=>
  cases r2 with
  | cons r3 r4=>cases r4;exact⟨_,_,rfl,r1,r3⟩
theorem b7m(hc:X.calm=true):a6n X (.builtin "max") (λxs H Q=>∃i j,xs=[.int i,.int j]/\Q (.int (if j > i then j else i)) H):=by
 intro pins s σ H xs us Q I r h;obtain⟨i,j,rfl,q⟩:=h;obtain⟨u,w',rfl,⟨t,rfl⟩,⟨t',rfl⟩⟩:=c0q r;refine max_two_ints (I.ok.hd hc) λh' tk k=>⟨_,H,I.kept k,?_,q⟩;by_cases hj:j > i
 ·rw[if_pos hj,if_pos hj];exact⟨_,rfl⟩
 ·rw[if_neg hj,if_neg hj];exact⟨_,rfl⟩
theorem b7l(hc:X.calm=true):a6n X (.builtin "min") (λxs H Q=>∃i j,xs=[.int i,.int j]/\Q (.int (if j<i then j else i)) H):=by
 intro pins s σ H xs us Q I r h;obtain⟨i,j,rfl,q⟩:=h;obtain⟨u,w',rfl,⟨t,rfl⟩,⟨t',rfl⟩⟩:=c0q r;refine min_two_ints (I.ok.hd hc) λh' tk k=>⟨_,H,I.kept k,?_,q⟩;by_cases hj:j<i
 ·rw[if_pos hj,if_pos hj];exact⟨_,rfl⟩
 ·rw[if_neg hj,if_neg hj];exact⟨_,rfl⟩
theorem a0o:a6n X (.type "int") (λxs H Q=>(∃i,xs=[.int i]/\Q (.int i) H) \/ ∃k,xs=[.bl k]/\Q (.int (if k then 1 else 0)) H):=by
 intro pins s σ H xs us Q I r h;rcases h with ⟨i,rfl,q⟩|⟨k,rfl,q⟩
 ·obtain⟨u,rfl,t,rfl⟩:=b5p r
  exact call_int_int ⟨.int i,H,I,⟨_,rfl⟩,q⟩
 ·obtain⟨u,rfl,r1⟩:=b5p r
  cases r1;exact call_int_bool ⟨.int (if k then 1 else 0),H,I.tok _,⟨_,rfl⟩,q⟩
end
end L2
namespace L2
open PySem PySem.Spec PyProof.Rows
structure ObjM(h:Heap)(x dx C:Addr)(mA:Str->Option Value):Prop where
 obj:h.get? x=some (PySem.W.instObj C dx)
 ns:h.Ns1 dx mA
 ne:dx≠x
theorem b6u{h:Heap}{dx:Addr}{mA:Str->Option Value}(n:h.Ns1 dx mA):∃od,h.get? dx=some od/\∀name,PySem.W.lookIn name od=some (mA name):=by
 obtain⟨o,es,ep,ho,hd,hk,_,hm⟩:=n;refine⟨o,ho,λname=>?_⟩;have e:=hm name;unfold nsFind findBy at e;rw[<- Array.find?_toList] at e;unfold PySem.W.lookIn;rw[hd];dsimp only;split
 ·rename_i y q
  rw[q] at e;exact congrArg some e
 ·rename_i q
  rw[q] at e;have a:es.toList.any (·.refKey)=false:=by
   rw[List.any_eq_false];intro y hy;obtain⟨z,t,hkey⟩:=hk y (Array.mem_toList_iff.mp hy);simp[DictEntry.refKey,hkey]
  have a':¬ es.toList.any (·.refKey)=true:=by rw[a];exact Bool.false_ne_true
  rw[if_neg a'];exact congrArg some e
theorem ObjM.look{h:Heap}{x dx C:Addr}{mA:Str->Option Value}(I:ObjM h x dx C mA):∃od,PySem.W.InstAt h x (PySem.W.instObj C dx) C (some od)/\∀name,PySem.W.lookIn name od=some (mA name) :=
 let ⟨od,ho,hl⟩:=b6u I.ns
 ⟨od,⟨I.obj,rfl,rfl,ho⟩,hl⟩
section
variable{prog:Program}{w:World}{A:Around}{E:Value->Shared->Prop}{s:Shared}{K:Frag}{x dx C f:Addr}{mA:Str->Option Value}{name:Str}{v:Value}
theorem b9z{expr:Bool}{Q:Value->Shared->Prop}(X:K.In s.heap)(I:ObjM s.heap x dx C mA)(hg:plainGet K C name=true)(hh:hasDictIn K C=true)(ha:findIn K (.ref C) name=some none)(hv:mA name=some v)(hv':PySem.W.handedIn v=true)(h:Q v { s with toks:=s.toks+1 }):
  wpAny (model prog w) A (getAttr (.ref x) name expr) Q E s:=by
 obtain⟨od,J,hl⟩:=I.look;exact PySem.W.get_value X J (PySem.W.plainGet_of hg).1 (PySem.W.findObj_own hh ha rfl (by rw[hl,hv])) hv' h
theorem b8h{pl:Sem Bool}{Q:Value×List Value->Shared->Prop}(X:K.In s.heap)(I:ObjM s.heap x dx C mA)(hg:plainGet K C name=true)(hf:findIn K (.ref C) name=some (some (.ref f)))(ht:isFn K (.ref f)=true)(hv:mA name=none)(h:Q (.ref f,[.ref x]) s):
  wpAny (model prog w) A (getMethod (.ref x) name pl) Q E s:=by
 obtain⟨od,J,hl⟩:=I.look;exact PySem.W.method_fn X J (PySem.W.plainGet_of hg).1 (PySem.W.plainGet_of hg).2 hf (beq_iff_eq.mp ht) (by show(PySem.W.lookIn name od).map (·.isSome)=some false;rw[hl,hv];rfl) h
theorem b9i{ns:List Str}{Q:Unit->Shared->Prop}(X:K.In s.heap)(I:ObjM s.heap x dx C mA)(hs:findIn K (.ref C) "__setattr__" = some (some (.builtin "object.__setattr__")))(hp:plainOver K C=true)(ht:PySem.W.takerIn K C name=some none)(hh:hasDictIn K C=true)(hw:PySem.Within mA ns)(hsz:ns.length<=sizeLine)(h:∀h',ObjM h' x dx C (λy=>if y=name then some v else mA y)->Heap.SameBut dx s.heap h'->Q () { s with heap:=h',toks:=s.toks+2 }):
  wpAny (model prog w) A (setAttr (.ref x) name v) Q E s:=by
 obtain⟨od,J,hl⟩:=I.look;refine PySem.W.set_plain X J hs (PySem.W.osa_open (s:={ s with toks:=s.toks+1 }) (r:=none) X J hp ht λb=>?_)
 obtain⟨cd,hc,hd'⟩:=PySem.W.any_some hh;have hx:s.heap.get? x=some ⟨.ref C,some dx,.plain,#[]⟩:=I.obj;refine wpAny_bind (wpAny_pure (wpAny_bind (wpAny_bind (wpAny_loadPart hx (wpAny_bind (PySem.W.Looks.here (s:={ s with toks:=s.toks+1 }) (PySem.W.looks_clsIn X hc) ?_))))))
 rw[hd'];refine wpAny_pure (a:=some dx) (wpAny_bind (wpAny_pure (wpAny_bind ?_)));refine wpAny_nsSet1 (s:={ s with toks:=s.toks+1 }) I.ns λh' hn2 hs2=>?_
 obtain⟨oD,esD,epD,hoD,hdD,hcD⟩:=hn2.count (PySem.Within.cons name v hw);refine wpAny_bind (wpAny_lookBehind hoD (by rw[hdD];exact pastItsLine_dict (Nat.le_trans hcD (by rw[List.length_cons];lia))) ?_)
 exact wpAny_pure (h _ ⟨(hs2.2 _ (Ne.symm I.ne)).trans I.obj,hn2,I.ne⟩ hs2)
theorem b8d{R:Result->Shared->Prop}{vs:List Value}{kw:List (Str×Value)}(X:K.In s.heap)(hm:makesIn K C=true)(hi:findIn K (.ref C) "__init__" = some (some (.ref f)))(hf:PySem.W.typeIn K (.ref f)=some (.type "function"))(h:codeAny (model prog w) (A.under (.builtin "type.__call__" ⟨.ref C::vs,kw⟩)) (.call (.ref f) ⟨.ref (s.heap.objs.size+1)::vs,kw⟩) (PySem.W.InitBack (s.heap.objs.size+1) R)
   { s with heap:=(s.heap.push PySem.W.emptyDict).push (PySem.W.instObj C s.heap.objs.size) }):
  codeAny (model prog w) A (.call (.ref C) ⟨vs,kw⟩) R s:=by
 obtain⟨hh,g,d,t,os⟩:=s;exact PySem.W.make_core (PySem.W.makes_of X hm) (PySem.W.looks_findIn X hi) (λself=>PySem.W.bind_fn X self hf) (.inl rfl) h
end
def b0g(f:Str)(v:V):List (Str×V)->List (Str×V)
 | []=>[(f,v)]
 | (g,x)::r=>if g=f then (g,v)::r else (g,x)::b0g f v r
theorem a8d(f g:Str)(v:V):∀fs:List (Str×V),(b0g f v fs).lookup g=if g=f then some v else fs.lookup g
 | []=>by
  show List.lookup g [(f,v)]=_;by_cases h:g=f
  ·have hb:(g == f)=true:=beq_iff_eq.mpr h
   simp only[List.lookup,hb,if_pos h]
  ·have hb:(g == f)=false:=beq_eq_false_iff_ne.mpr h
   simp only[List.lookup,hb,if_neg h]
 | (k,x)::r=>by
  have ih:=a8d f g v r;rw[show b0g f v ((k,x)::r)=(if k=f then (k,v)::r else (k,x)::b0g f v r) from rfl];by_cases hk:k=f
  ·rw[if_pos hk]
   by_cases h:g=k
   ·have hb:(g == k)=true:=beq_iff_eq.mpr h
    simp only[List.lookup,hb,if_pos (h.trans hk)]
   ·have hb:(g == k)=false:=beq_eq_false_iff_ne.mpr h
    simp only[List.lookup,hb,if_neg (λe:g=f=>h (e.trans hk.symm))]
  ·rw[if_neg hk]
   by_cases h:g=k
   ·have hb:(g == k)=true:=beq_iff_eq.mpr h
    simp only[List.lookup,hb,if_neg (λe:g=f=>hk (h.symm.trans e))]
   ·have hb:(g == k)=false:=beq_eq_false_iff_ne.mpr h
    simp only[List.lookup,hb];exact ih
theorem a8f(f:Str)(v:V):∀fs:List (Str×V),f∈(b0g f v fs).map (·.1)/\∀g,g∈fs.map (·.1)->g∈(b0g f v fs).map (·.1)
 | []=>⟨by simp[b0g],λg h=>by simp at h⟩
 | (k,x)::r=>by
  obtain⟨i1,i2⟩:=a8f f v r;rw[show b0g f v ((k,x)::r)=(if k=f then (k,v)::r else (k,x)::b0g f v r) from rfl];by_cases hk:k=f
  ·rw[if_pos hk]
   subst hk;exact⟨by simp,λg h=>by simpa using h⟩
  ·rw[if_neg hk]
   refine⟨?_,λg h=>?_⟩
   ·rw[List.map_cons]
    exact List.mem_cons_of_mem _ i1
   ·rw[List.map_cons] at h ⊢
    rcases List.mem_cons.mp h with e|e
    ·exact List.mem_cons.mpr (.inl e)
    ·exact List.mem_cons_of_mem _ (i2 g e)
theorem a8e(f:Str)(v:V):∀fs:List (Str×V),(b0g f v fs).length<=fs.length+1
 | []=>by simp[b0g]
 | (k,x)::r=>by
  have ih:=a8e f v r;rw[show b0g f v ((k,x)::r)=(if k=f then (k,v)::r else (k,x)::b0g f v r) from rfl];by_cases hk:k=f
  ·rw[if_pos hk,List.length_cons,List.length_cons];lia
  ·rw[if_neg hk,List.length_cons,List.length_cons];lia
theorem RelO.some_of{v:V}{o:Option Value}(r:RelO (some v) o):∃u,o=some u/\RelV v u:=by
 cases o with
 | none=>exact(show False from r).elim
 | some u=>exact⟨u,rfl,r⟩
theorem RelO.none_of{o:Option Value}(r:RelO none o):o=none:=by
 cases o with
 | none=>rfl
 | some u=>exact(show False from r).elim
theorem b6y{v:V}{u:Value}(r:RelV v u):PySem.W.handedIn u=true:=by
 cases v with
 | non=>cases (show u=Value.none from r);rfl
 | bl b=>cases (show u=Value.bool b from r);rfl
 | int i=>obtain⟨t,e⟩:=(show ∃t,u=Value.int i t from r);cases e;rfl
 | str x=>obtain⟨t,e⟩:=(show ∃t,u=Value.str x t from r);cases e;rfl
 | byt b=>obtain⟨t,e⟩:=(show ∃t,u=Value.bytes b t from r);cases e;rfl
 | flt b=>obtain⟨t,e⟩:=(show ∃t,u=Value.float b t from r);cases e;rfl
 | ref a=>cases (show u=Value.ref a from r);rfl
 | ty n=>cases (show u=Value.type n from r);rfl
section
variable{P:Program}{w:World}{H H':Hp}{h h':Heap}{a C dx:Addr}{fs fs':List (Str×V)}
theorem b3v(hok:HOk P w H h)(e:H a=some (.ins C dx fs)):∃mA,ObjM h a dx C mA/\(∀f,RelO (fs.lookup f) (mA f))/\PySem.Within mA (fs.map (·.1))/\fs.length<=1000/\H dx=some (.own a):=by
 obtain⟨d,z,ne,ob,mA,n,r,q⟩:=(show ObjOk P w H h a (.ins C dx fs) from hok a _ e);exact⟨mA,⟨ob,n,ne⟩,r,q,z,d⟩
end
structure Cls(K:Frag)(C:Addr):Prop where
 pg:plainGet K C Str.empty=true
 hd:hasDictIn K C=true
 po:plainOver K C=true
 sa:findIn K (.ref C) "__setattr__" = some (some (.builtin "object.__setattr__"))
theorem Cls.get{K:Frag}{C:Addr}(c:Cls K C)(f:Str):plainGet K C f=true:=c.pg
def NoAttr(K:Frag)(C:Addr)(f:Str):Prop:=findIn K (.ref C) f=some none
theorem NoAttr.taker{K:Frag}{C:Addr}{f:Str}(n:NoAttr K C f):PySem.W.takerIn K C f=some none:=by
 unfold PySem.W.takerIn;rw[show findIn K (.ref C) f=some none from n]
 rfl
structure c2u(K:Frag)(C:Addr)(m:Str)(f:Addr):Prop where
 at_:findIn K (.ref C) m=some (some (.ref f))
 fn:isFn K (.ref f)=true
 kp:keepIn K (.ref f)=true
section
variable{X:Cx}{pins:List (Addr×Obj)}{σ:St}{H:Hp}{s:Shared}{a C dx:Addr}{fs:List (Str×V)}{f:Str}{v:V}{A:Around}{E:Value->Shared->Prop}
theorem b5i{b:Bool}{Q:Value->Shared->Prop}(I:Inv X pins σ H s)(e:H a=some (.ins C dx fs))(c:Cls X.K C)(n:NoAttr X.K C f)(l:fs.lookup f=some v)(h:∀u s',Inv X pins σ H s'->RelV v u->Q u s'):wpAny (model X.prog X.w) A (getAttr (.ref a) f b) Q E s:=by
 obtain⟨mA,O,r,_,_,_⟩:=b3v I.hok e;obtain⟨u,hu,ru⟩:=RelO.some_of (v:=v) (o:=mA f) (by rw[<- l];exact r f)
 exact b9z I.kIn O (c.get f) c.hd n hu (b6y ru) (h u _ (I.tok _) ru)
theorem a3o{m:Str}{g:Addr}{pl:Sem Bool}{Q:Value×List Value->Shared->Prop}(I:Inv X pins σ H s)(e:H a=some (.ins C dx fs))(c:Cls X.K C)(k:c2u X.K C m g)(l:fs.lookup m=none)(h:Q (.ref g,[.ref a]) s):wpAny (model X.prog X.w) A (getMethod (.ref a) m pl) Q E s:=by
 obtain⟨mA,O,r,_,_,_⟩:=b3v I.hok e;have hn:mA m=none:=RelO.none_of (by rw[<- l];exact r m)
 exact b8h I.kIn O (c.get m) k.at_ k.fn hn h
theorem a9d{y:V}{u:Value}{Q:Unit->Shared->Prop}(I:Inv X pins σ H s)(e:H a=some (.ins C dx fs))(c:Cls X.K C)(n:NoAttr X.K C f)(hl:fs.length<1000)(ry:RelV y u)(h:∀s',Inv X pins σ (upd H a (.ins C dx (b0g f y fs))) s'->Q () s'):wpAny (model X.prog X.w) A (setAttr (.ref a) f u) Q E s:=by
 obtain⟨mA,O,r,wi,_,ho⟩:=b3v I.hok e;have hz:(fs.map (·.1)).length<=sizeLine:=by rw[List.length_map,sizeLine_eq];lia
 refine b9i I.kIn O c.sa c.po n.taker c.hd wi hz λh' O' sb=>h _ ?_;have hd:∃o,h'.get? dx=some o:=let ⟨o,_,_,e',_⟩:=O'.ns;⟨o,e'⟩
 refine I.write (x:=a) (e:=dx) (by rw[e];exact True.intro) (.inr ho) (λb q hb z=>(sb.2 b hb).trans z) hd ?_
 refine⟨by rw[d3 O.ne];exact ho,?_,O.ne,O'.obj,_,O'.ns,λg=>?_,λg hg=>?_⟩
 ·have:=a8e f y fs;lia
 ·show RelO ((b0g f y fs).lookup g) (if g=f then some u else mA g)
  rw[a8d];by_cases q:g=f
  ·rw[if_pos q,if_pos q];exact ry
  ·rw[if_neg q,if_neg q];exact r g
 ·by_cases q:g=f
  ·rw[q];exact(a8f f y fs).1
  ·refine (a8f f y fs).2 g (wi g λz=>hg ?_)
   show(if g=f then some u else mA g)=none;rw[if_neg q];exact z
theorem Inv.made(I:Inv X pins σ H s):Inv X pins σ (upd (upd H s.heap.objs.size (.own (s.heap.objs.size+1))) (s.heap.objs.size+1) (.ins C s.heap.objs.size []))
  { s with heap:=(s.heap.push PySem.W.emptyDict).push (PySem.W.instObj C s.heap.objs.size) }:=by
 have e1:(s.heap.push PySem.W.emptyDict).get? s.heap.objs.size=some PySem.W.emptyDict:=Heap.get?_push_size s.heap rfl;have e2:((s.heap.push PySem.W.emptyDict).push (PySem.W.instObj C s.heap.objs.size)).get? (s.heap.objs.size+1)=some (PySem.W.instObj C s.heap.objs.size):=by
  have:=Heap.get?_push_size (s.heap.push PySem.W.emptyDict) (o:=PySem.W.instObj C s.heap.objs.size) rfl
  rwa [Heap.size_push] at this
 have e3:(s.heap.push PySem.W.emptyDict).Ns s.heap.objs.size (λ_=>none):=⟨PySem.W.emptyDict,#[],_,e1,rfl,(λe he=>absurd he (by simp)),λ_=>rfl⟩
 have I1:=I.laid (a:=s.heap.objs.size) (o:=.own (s.heap.objs.size+1)) (h':=s.heap.push PySem.W.emptyDict) (t':=s.toks) (λb u q=>Heap.get?_push_of_some _ q) (Nat.le_refl _) ⟨_,e1⟩;refine I1.laid (a:=s.heap.objs.size+1) (o:=.ins C s.heap.objs.size []) (t':=s.toks) (λb u q=>Heap.get?_push_of_some _ q) (Nat.le_of_eq (Heap.size_push _ _)) ?_;have ne:s.heap.objs.size≠s.heap.objs.size+1:=Nat.ne_of_lt (Nat.lt_succ_self _);refine⟨by rw[d3 ne,d2],Nat.zero_le _,ne,e2,λ_=>none,(Heap.Ns1.of_empty e3).at λo q=>Heap.get?_push_of_some _ q,λ_=>True.intro,λy hy=>absurd rfl hy⟩
theorem c0k{prog:Program}{w:World}{env:Env}{e:Expr}{f:Str}{pos:Pos}{s:Shared}{Q:Value->Shared->Prop}(hb:attributeBase e f env (eval e env)=eval e env)(h:wpAny (model prog w) A (eval e env) (λo s₁=>wpAny (model prog w) A (getAttr o f true) Q E s₁) E s):wpAny (model prog w) A (eval (.Attribute e f pos) env) Q E s :=
 Attribute_any_ h (by rw[arm_eval_Attribute,hb])
end
def c3e(K:Frag)(ta:TE)(f:Str):TE:=λσ H Q=>ta σ H λx H1=>∃a C dx fs v,x=.ref a/\H1 a=some (.ins C dx fs)/\Cls K C/\NoAttr K C f/\fs.lookup f=some v/\Q v H1
def c3h(K:Frag)(ta tv:TE)(f:Str):TS:=λD σ H=>tv σ H λy H1=>ta σ H1 λx H2=>∃a C dx fs,x=.ref a/\H2 a=some (.ins C dx fs)/\Cls K C/\NoAttr K C f/\fs.length<1000 /\
 D.nx σ (upd H2 a (.ins C dx (b0g f y fs)))
section
variable{X:Cx}{o e value:Expr}{f:Str}{pos pos' tpos:Pos}{ta tv:TE}
theorem c1i(he:PE X e ta)(hb:attributeBase e f X.env (eval e X.env)=eval e X.env):PE X (.Attribute e f pos) (c3e X.K ta f):=by
 intro pins s σ H Q I h;refine c0k hb (thn (he pins s σ H _ I h) λu s1 z0_=>?_);obtain⟨x,H1,I1,rx,a,C,dx,fs,v,ex,ea,c,n,l,q⟩:=z0_;subst ex;obtain rfl:u=Value.ref a:=rx;exact b5i I1 ea c n l λu' s2 I2 ru=>⟨v,H1,I2,ru,q⟩
theorem c1c(ha:PE X o ta)(hv:PE X value tv)(hs:swapsWith value (some (.Attribute o f pos')) pos.line X.env=pure false):PS X (.Assign [.Attribute o f pos'] value pos) (c3h X.K ta tv f):=by
 intro pins s σ H D I h;refine plainObj_wpAny_Assign_Attribute (thn (hv pins s σ H _ I h) λu s1 z0_=>?_) hs;obtain⟨y,H1,I1,ry,q⟩:=z0_;refine thn (ha pins s1 σ H1 _ I1 q) λov s2 z1_=>?_;obtain⟨x,H2,I2,rx,a,C,dx,fs,ex,ea,c,n,l,q2⟩:=z1_;subst ex;obtain rfl:ov=Value.ref a:=rx;exact a9d I2 ea c n l ry λs3 I3=>⟨σ,_,I3,q2⟩
end
section
variable{X:Cx}{pins:List (Addr×Obj)}{σ:St}{H:Hp}{s:Shared}{A:Around}{E:Value->Shared->Prop}{Q:Value->Shared->Prop}{c:Value}{b:Bool}
end
end L2
namespace L2
open PySem PySem.Spec PyProof.Rows
structure Room(k:Nat)(A:Around):Prop where
 hd:A.handled=none
 dp:A.depth+3*k+5<recursionLimit
 un:A.units+16*k+200<cLine
theorem Room.mono{j k:Nat}{A:Around}(r:Room k A)(h:j<=k):Room j A:=⟨r.hd,by have:=r.dp;lia,by have:=r.un;lia⟩
theorem Room.deeper{k:Nat}{A:Around}(r:Room (k+1) A)(env:Env):Room k (A.deeper env) :=
 ⟨r.hd,by have:=r.dp;show A.depth+1+3*k+5<_;lia,by have:=r.un;show A.units+3+16*k+200<_;lia⟩
theorem b5h{A:Around}{C:Addr}{us:List Value}{kw:List (Str×Value)}:(A.under (.builtin "type.__call__" ⟨.ref C::us,kw⟩)).depth=A.depth+1:=by
 first|rfl|simp[Around.under,Code.weight,Code.isCreation,Code.isGuard,Code.isCaller,Code.frames,Code.isFrame,guardIds]
theorem b5g{A:Around}{C:Addr}{us:List Value}{kw:List (Str×Value)}:(A.under (.builtin "type.__call__" ⟨.ref C::us,kw⟩)).units=A.units+1:=by
 first|rfl|simp[Around.under,Code.cUnits,Code.frames,Code.isFrame]
theorem Room.make{k:Nat}{A:Around}(r:Room (k+1) A)(C:Addr)(us:List Value)(kw:List (Str×Value)):Room k (A.under (.builtin "type.__call__" ⟨.ref C::us,kw⟩)) :=
 ⟨r.hd,by have:=r.dp;rw[b5h];lia,by have:=r.un;rw[b5g];lia⟩
theorem Room.depth{k:Nat}{A:Around}(r:Room k A):A.depth<recursionLimit:=by have:=r.dp;lia
def c0o:TA:=λ_ H Q=>Q [] H
def b9g(ta:TE)(tr:TA):TA:=λσ H Q=>ta σ H λx H1=>tr σ H1 λxs H2=>Q (x::xs) H2
section
variable{X:Cx}{e:Expr}{es:List Expr}{te:TE}{t:TA}{pos:Pos}
theorem d0:PA X [] c0o:=λ_ _ _ _ H Q I h=>Calls.spliced_nil ⟨[],H,I,.nil,h⟩
theorem c0(ha:PE X e te)(hr:PA X es t)(hs:starEach (e::es) X.env=(false,eval e X.env)::starEach es X.env:=by rfl):PA X (e::es) (b9g te t):=by
 intro pos pins s σ H Q I h;rw[hs];show wpAny _ _ (spliced ((false,eval e X.env)::backTo pos (starEach es X.env))) _ _ s;refine Calls.spliced_cons (thn (ha pins s σ H _ I h) λu s1 z0_=>?_);obtain⟨x,H1,I1,r1,q1⟩:=z0_;exact thn (hr pos pins s1 σ H1 _ I1 q1) λus s2 z0_=>by obtain⟨xs,H2,I2,r2,q2⟩:=z0_;exact⟨x::xs,H2,I2,.cons r1 r2,q2⟩
def c4r(t:TA):TE:=λσ H Q=>t σ H λxs H1=>xs.length<=sizeLine/\∀p,H1 p=none->Q (.ref p) (upd H1 p (.tup xs))
def c4v(t:TA):TE:=λσ H Q=>t σ H λxs H1=>xs.length<=sizeLine/\∀p,H1 p=none->Q (.ref p) (upd H1 p (.lst xs))
theorem v2{x1}(h:PA X es t):PE X (.Tuple es x1 pos) (c4r t):=by
 intro pins s σ H Q I hq;refine wpAny_Tuple_spliced (thn (h pos pins s σ H _ I hq) λus s1 ⟨xs,H1,I1,r,z,q⟩=>⟨by rw[<- r.length];exact z,?_⟩)
 have hf:H1 s1.heap.objs.size=none:=I1.hok.fresh (Nat.le_refl _);refine⟨.ref s1.heap.objs.size,upd H1 s1.heap.objs.size (.tup xs),I1.laid (t':=s1.toks) (λb u e=>Heap.get?_push_of_some _ e) (Nat.le_refl _) ?_,rfl,q _ hf⟩;exact⟨z,us,r,⟨_,Heap.get?_push_size _ rfl,rfl,_,rfl⟩⟩
theorem l8(h:PA X es t):PE X (.List es pos) (c4v t):=by
 intro pins s σ H Q I hq;refine wpAny_List_spliced (thn (h pos pins s σ H _ I hq) λus s1 ⟨xs,H1,I1,r,z,q⟩=>⟨by rw[<- r.length];exact z,?_⟩)
 have hf:H1 s1.heap.objs.size=none:=I1.hok.fresh (Nat.le_refl _);refine⟨.ref s1.heap.objs.size,upd H1 s1.heap.objs.size (.lst xs),I1.laid (t':=s1.toks) (λb u e=>Heap.get?_push_of_some _ e) (Nat.le_refl _) ?_,rfl,q _ hf⟩;exact⟨z,us,0,r,Heap.get?_push_size _ rfl⟩
end
abbrev Sp:=List V->Hp->VK->XK->Prop
abbrev CXT:=List Env->Hp->Shared->XK->Value->Shared->Prop
structure Env0(P:Program)(w:World)(K:Frag)(mg:Str->Option Value)(base:Heap)(A:Around)(outer:List Env)(s:Shared)(H:Hp):Prop where
 frames:A.frames=some outer
 mod:Mod K mg base
 bs:∀b o,base.get? b=some o->s.heap.get? b=some o/\H b=none
 bsz:base.objs.size<=s.heap.objs.size
 funs:s.heap.FunFrames base outer
 frf:∀b∈frs outer,H b=none
 hok:HOk P w H s.heap
 bare:AllBare s.gens
def CE(outer:List Env)(P:Program)(w:World)(H:Hp)(s:Shared)(Q:VK)(u:Value)(s':Shared):Prop :=
 ∃v H',s'.os=s.os/\AllBare s'.gens/\Un (frs outer) [] H H' s.heap s'.heap/\HOk P w H' s'.heap/\RelV v u/\Q v H'
def CR(CX:CXT)(outer:List Env)(P:Program)(w:World)(H:Hp)(s:Shared)(Q:VK)(E:XK)(r:Result)(s':Shared):Prop :=
 match r with
 | .ok (.ret u)=>CE outer P w H s Q u s'
 | .ok _=>False
 | .error e=>CX outer H s E e s'
structure FnOk(P:Program)(w:World)(K:Frag)(mg:Str->Option Value)(base:Heap)(CX:CXT)(k:Nat)(f:Addr)(fd:FuncData)(ps:List Str)(sp:Sp):Prop where
 len:∀vs H Q E,sp vs H Q E->vs.length=ps.length
 run:∀(A:Around)(outer:List Env)(s:Shared)(H:Hp)(args:Args)(us:List Value)(vs:List V)(Q:VK)(E:XK),Room k A->Env0 P w K mg base A outer s H->BindsTo s fd args (ps.zip us)->Vals vs us->sp vs H Q E ->
  codeAny (model P w) A (.call (.ref f) args) (CR CX outer P w H s Q E) s
theorem FnOk.mono{P:Program}{w:World}{K:Frag}{mg:Str->Option Value}{base:Heap}{CX:CXT}{j k:Nat}{f:Addr}{fd:FuncData}{ps:List Str}{sp:Sp}(F:FnOk P w K mg base CX j f fd ps sp)(h:j<=k):
  FnOk P w K mg base CX k f fd ps sp:=⟨F.len,λA outer s H args us vs Q E hr=>F.run A outer s H args us vs Q E (hr.mono h)⟩
theorem Env0.make{P:Program}{w:World}{K:Frag}{mg:Str->Option Value}{base:Heap}{A:Around}{outer:List Env}{s:Shared}{H:Hp}(e:Env0 P w K mg base A outer s H)(C:Addr)(us:List Value)(kw:List (Str×Value)):
  Env0 P w K mg base (A.under (.builtin "type.__call__" ⟨.ref C::us,kw⟩)) outer s H:=⟨by first|exact e.frames|(simpa[Around.under,Code.envs,Code.isFrame,pushEnvs] using e.frames),e.mod,e.bs,e.bsz,e.funs,e.frf,e.hok,e.bare⟩
section
variable{X:Cx}{pins:List (Addr×Obj)}{σ:St}{H:Hp}{s s':Shared}
theorem Inv.env0(I:Inv X pins σ H s):Env0 X.prog X.w X.K X.mg X.base X.A X.stack s H :=
 ⟨I.ok.frames,I.ok.mod,I.bs,Nat.le_trans I.ok.bsz I.sz,I.stack,I.stkFree,I.hok,I.bare⟩
theorem Inv.after{Q:VK}{u:Value}(I:Inv X pins σ H s)(h:CE X.stack X.prog X.w H s Q u s'):EP X pins σ Q u s':=by
 obtain⟨v,H',os,bare,un,hok,r,q⟩:=h;obtain⟨hh,g,d,t,os'⟩:=s';obtain rfl:os'=s.os:=os;exact⟨v,H',I.call (h':=hh) (g':=g) (d':=d) (t':=t) (ch:=[]) un hok bare (λb z=>absurd z (by simp)),r,q⟩
end
def c3f(sp:Sp)(dvs:List V)(E:XK)(t:TA):TE:=λσ H Q=>t σ H λvs H1=>sp (vs++dvs) H1 Q E
def c0v(C:Addr)(m:Str)(sp:Sp)(dvs:List V)(E:XK)(ta:TE)(t:TA):TE:=λσ H Q=>ta σ H λx H1=>∃a dx fs,x=.ref a/\H1 a=some (.ins C dx fs)/\fs.lookup m=none /\
 t σ H1 λvs H2=>sp (x::(vs++dvs)) H2 Q E
def c3c(C:Addr)(sp:Sp)(dvs:List V)(E:XK)(t:TA):TE:=λσ H Q=>t σ H λvs H1=>∀x dx,H1 x=none->H1 dx=none->dx≠x ->
 sp (.ref x::(vs++dvs)) (upd (upd H1 dx (.own x)) x (.ins C dx [])) (λv H2=>v=.non/\Q (.ref x) H2) E
def Binds(K:Frag)(fd:FuncData)(ps:List Str)(ds:List Value):Prop :=
 ∀(s:Shared)(us:List Value),K.In s.heap->(us++ds).length=ps.length->BindsTo s fd ⟨us,[]⟩ (ps.zip (us++ds))
theorem Binds.all{K:Frag}{fd:FuncData}{ps:List Str}(h:∀us:List Value,us.length=ps.length->bindArgs fd ⟨us,[]⟩=pure (ps.zip us)):Binds K fd ps []:=λs us _ hl=>by
 rw[List.append_nil] at hl ⊢;exact .of_eq (h us hl)
def a0p(CX:CXT)(X:Cx)(E:XK):Prop:=∀(pins:List (Addr×Obj))(σ:St)(H:Hp)(s:Shared)(e:Value)(s':Shared),Inv X pins σ H s->CX X.stack H s E e s'->X.xe e s'
section
variable{X:Cx}{CX:CXT}{k:Nat}{f C:Addr}{fd:FuncData}{ps:List Str}{sp:Sp}{dvs:List V}{ds:List Value}{E:XK}{x m:Str}{p pos apos:Pos}{e o:Expr}{es:List Expr}{ta:TE}{t:TA}
theorem a9f{pins:List (Addr×Obj)}{σ:St}{H:Hp}{s:Shared}{Q:VK}{us:List Value}{vs:List V}(F:FnOk X.prog X.w X.K X.mg X.base CX k f fd ps sp)(hr:Room k X.A)(hb:Binds X.K fd ps ds)(hd:Vals dvs ds)(hx:a0p CX X E)(I:Inv X pins σ H s)(r:Vals vs us)(h:sp (vs++dvs) H Q E):wpAny (model X.prog X.w) X.A (call (.ref f) us) (EP X pins σ Q) X.xe s:=by
 have r2:Vals (vs++dvs) (us++ds):=r.append hd;have hl:(us++ds).length=ps.length:=by rw[<- r2.length];exact F.len _ _ _ _ h
 refine wpAny_call (codeAny_mono (F.run X.A X.stack s H ⟨us,[]⟩ (us++ds) (vs++dvs) Q E hr I.env0 (hb s us I.kIn hl) r2 h) λr s' hq=>?_);cases r with
 | error e=>exact hx pins σ H s e s' I hq
 | ok fl=>
  cases fl with
  | ret u=>exact I.after hq
  | next=>exact False.elim hq
  | brk=>exact False.elim hq
  | cont=>exact False.elim hq
theorem b9r(F:FnOk X.prog X.w X.K X.mg X.base CX k f fd ps sp)(hr:Room k X.A)(hg:Gl X x)(hm:X.mg x=some (.ref f))(hk:keepIn X.K (.ref f)=true)(hb:Binds X.K fd ps ds)(hd:Vals dvs ds)(hx:a0p CX X E)(ha:PA X (e::es) t)(hdb:(x == ("__debug__":Str))=false:=by decide)(he:starEach (e::es) X.env=(false,eval e X.env)::starEach es X.env:=by rfl)(hpl:(backTo pos (starEach es X.env)).any (·.1)=false:=by rfl):
  PE X (.Call (.Name x p) (e::es) [] pos) (c3f sp dvs E t):=by
 intro pins s σ H Q I h;refine wpAny_Call_Name_kw (a6k I hg hm ?_ hdb);refine callWith_K (h₀:=X.base) I.ok.mod.kin hk (thn (ha pos pins s σ H _ I h) λus s1 z0_=>?_) he hpl;obtain⟨vs,H1,I1,r,q⟩:=z0_;refine⟨I1.kIn,?_⟩;exact a9f F hr hb hd hx I1 r q
theorem b9p{pl:Sem Bool}(he:PE X o ta)(c:Cls X.K C)(hm:c2u X.K C m f)(F:FnOk X.prog X.w X.K X.mg X.base CX k f fd ps sp)(hr:Room k X.A)(hb:Binds X.K fd ps ds)(hd:Vals dvs ds)(hx:a0p CX X E)(ha:PA X (e::es) t)(hst:starEach (e::es) X.env=(false,eval e X.env)::starEach es X.env:=by rfl)(hpl:(backTo pos (starEach es X.env)).any (·.1)=false:=by rfl)(ht:eval (.Call (.Attribute o m apos) (e::es) [] pos) X.env=(do
   let ov <- eval o X.env
   standAt apos.atName
   let (f,first) <- holding [ov] (getMethod ov m pl)
   callWith pos f first (backTo pos (starEach (e::es) X.env)) (backToKw pos (keywordEach [] X.env))):=by rfl):
  PE X (.Call (.Attribute o m apos) (e::es) [] pos) (c0v C m sp dvs E ta t):=by
 intro pins s σ H Q I h;refine PySem.W.methodCall_KW (pl:=pl) (thn (he pins s σ H _ I h) λu s1 z0_=>?_) ht;obtain⟨x,H1,I1,rx,a,dx,fs,ex,ea,l,q⟩:=z0_;subst ex;obtain rfl:u=Value.ref a:=rx;refine a3o I1 ea c hm l ?_;refine callWith_K (first:=[.ref a]) (h₀:=X.base) I.ok.mod.kin hm.kp (thn (ha pos pins s1 σ H1 _ I1 q) λus s2 z0_=>?_) hst hpl
 obtain⟨vs,H2,I2,r,q2⟩:=z0_;refine⟨I2.kIn,?_⟩;exact a9f (us:=.ref a::us) (vs:=.ref a::vs) F hr hb hd hx I2 (.cons rfl r) q2
theorem b7y{pl:Sem Bool}(he:PE X o ta)(c:Cls X.K C)(hm:c2u X.K C m f)(F:FnOk X.prog X.w X.K X.mg X.base CX k f fd ps sp)(hr:Room k X.A)(hb:Binds X.K fd ps ds)(hd:Vals dvs ds)(hx:a0p CX X E)(ht:eval (.Call (.Attribute o m apos) [] [] pos) X.env=(do
   let ov <- eval o X.env
   standAt apos.atName
   let (f,first) <- holding [ov] (getMethod ov m pl)
   callWith pos f first (backTo pos (starEach [] X.env)) (backToKw pos (keywordEach [] X.env))):=by rfl):
  PE X (.Call (.Attribute o m apos) [] [] pos) (c0v C m sp dvs E ta c0o):=by
 intro pins s σ H Q I h;refine PySem.W.methodCall_KW (pl:=pl) (thn (he pins s σ H _ I h) λu s1 z0_=>?_) ht;obtain⟨x,H1,I1,rx,a,dx,fs,ex,ea,l,q⟩:=z0_;subst ex;obtain rfl:u=Value.ref a:=rx;refine a3o I1 ea c hm l ?_;exact PySem.W.callWith_K0 (first:=[.ref a]) I1.kIn hm.kp (a9f (us:=[.ref a]) (vs:=[.ref a]) F hr hb hd hx I1 (.cons rfl .nil) q)
structure Mk(K:Frag)(C f:Addr):Prop where
 makes:makesIn K C=true
 init:findIn K (.ref C) "__init__" = some (some (.ref f))
 fn:isFn K (.ref f)=true
 kp:keepIn K (.ref C)=true
theorem b7u{pins:List (Addr×Obj)}{σ:St}{H:Hp}{s:Shared}{Q:VK}{us:List Value}{vs:List V}(M:Mk X.K C f)(F:FnOk X.prog X.w X.K X.mg X.base CX k f fd ps sp)(hr:Room (k+1) X.A)(hb:Binds X.K fd ps ds)(hd:Vals dvs ds)(hx:a0p CX X E)(I:Inv X pins σ H s)(r:Vals vs us)(h:∀x dx,H x=none->H dx=none->dx≠x->sp (.ref x::(vs++dvs)) (upd (upd H dx (.own x)) x (.ins C dx [])) (λv H2=>v=.non/\Q (.ref x) H2) E):
  wpAny (model X.prog X.w) X.A (call (.ref C) us) (EP X pins σ Q) X.xe s:=by
 have hq:=h (s.heap.objs.size+1) s.heap.objs.size (I.hok.fresh (Nat.le_succ _)) (I.hok.fresh (Nat.le_refl _)) (Nat.ne_of_lt (Nat.lt_succ_self _));have I2:=Inv.made (C:=C) I;have r2:Vals (V.ref (s.heap.objs.size+1)::(vs++dvs)) (Value.ref (s.heap.objs.size+1)::(us++ds)):=.cons rfl (r.append hd);have hl:(Value.ref (s.heap.objs.size+1)::us++ds).length=ps.length:=by
  have e:=r2.length;rw[F.len _ _ _ _ hq] at e;exact e.symm
 refine wpAny_call (b8d (f:=f) I.kIn M.makes M.init (beq_iff_eq.mp M.fn) (codeAny_mono (F.run _ X.stack _ _ ⟨Value.ref (s.heap.objs.size+1)::us,[]⟩ (Value.ref (s.heap.objs.size+1)::(us++ds)) _ _ E (hr.make C us [])
  (I2.env0.make C us []) (hb _ (Value.ref (s.heap.objs.size+1)::us) I2.kIn hl) r2 hq) λr s' hq'=>?_))
 cases r with
 | error e=>exact hx pins σ _ _ e s' I2 hq'
 | ok fl=>
  cases fl with
  | ret u=>
   obtain⟨v,H',I3,rv,ev,q3⟩:=I2.after hq';subst ev;exact⟨rv,⟨V.ref (s.heap.objs.size+1),H',I3,rfl,q3⟩⟩
  | next=>exact False.elim hq'
  | brk=>exact False.elim hq'
  | cont=>exact False.elim hq'
theorem b9q(M:Mk X.K C f)(F:FnOk X.prog X.w X.K X.mg X.base CX k f fd ps sp)(hr:Room (k+1) X.A)(hg:Gl X x)(hm:X.mg x=some (.ref C))(hb:Binds X.K fd ps ds)(hd:Vals dvs ds)(hx:a0p CX X E)(ha:PA X (e::es) t)(hdb:(x == ("__debug__":Str))=false:=by decide)(he:starEach (e::es) X.env=(false,eval e X.env)::starEach es X.env:=by rfl)(hpl:(backTo pos (starEach es X.env)).any (·.1)=false:=by rfl):
  PE X (.Call (.Name x p) (e::es) [] pos) (c3c C sp dvs E t):=by
 intro pins s σ H Q I h;refine wpAny_Call_Name_kw (a6k I hg hm ?_ hdb);refine callWith_K (h₀:=X.base) I.ok.mod.kin M.kp (thn (ha pos pins s σ H _ I h) λus s1 z0_=>?_) he hpl;obtain⟨vs,H1,I1,r,q⟩:=z0_;refine⟨I1.kIn,?_⟩;exact b7u M F hr hb hd hx I1 r q
end
section
variable{X:Cx}{CX:CXT}{k:Nat}{f C:Addr}{fd:FuncData}{ps ks:List Str}{sp:Sp}{E:XK}{x m:Str}{p pos apos kpos:Pos}{e o:Expr}{es:List Expr}{kws:List Keyword}{te ta:TE}{t tk:TA}{nm:Option Str}
variable{g:List Value->List Value->List Value}{gV:List V->List V->List V}
end
structure d8(N P:List Str)(sc:Scope):Prop where
 kind:sc.kind=.function
 co:sc.isCoroutine=false
 gen:sc.isGenerator=false
 nd:N.Nodup
 pre:N.take P.length=P
 par:∀x∈P,sc.names.lookup x=some .local\/sc.names.lookup x=some .cell
 nofree:∀y∈sc.names,y.2≠.free
theorem b3d{kindOf:Str->Option NameKind}{x:Str}:∀{binds:List (Str×Value)}{m:Str->Option Value},(∀v,(x,v) ∉ binds)->bindL kindOf binds m x=m x
 | [],_,_=>rfl
 | (n,v)::r,m,h=>by
  unfold bindL;rw[b3d λw hw=>h w (List.mem_cons_of_mem _ hw)];split
  ·have:x≠n:=by rintro rfl;exact h v List.mem_cons_self
   simp[this]
  ·rfl
theorem b3f{kindOf:Str->Option NameKind}{x:Str}:∀{binds:List (Str×Value)}{m:Str->Option Value},(∀v,(x,v) ∉ binds)->bindC kindOf binds m x=m x
 | [],_,_=>rfl
 | (n,v)::r,m,h=>by
  unfold bindC;rw[b3f λw hw=>h w (List.mem_cons_of_mem _ hw)];split
  ·rfl
  ·have:x≠n:=by rintro rfl;exact h v List.mem_cons_self
   simp[this]
theorem b3e{kindOf:Str->Option NameKind}{x:Str}{v:Value}:∀{P:List Str}{vs:List Value}{i:Nat}{m:Str->Option Value},P.Nodup->P[i]?=some x->vs[i]?=some v->kindOf x=some .local ->
  bindL kindOf (P.zip vs) m x=some v
 | [],_,_,_,_,h,_,_=>by simp at h
 | _::_,[],_,_,_,_,h,_=>by simp at h
 | p::P,w::vs,0,m,nd,h1,h2,hk=>by
  simp at h1 h2;subst h1;subst h2;show bindL kindOf ((p,w)::P.zip vs) m p=_;unfold bindL;rw[b3d λv hv=>(List.nodup_cons.mp nd).1 (List.of_mem_zip hv).1,if_pos hk];simp
 | p::P,w::vs,i+1,m,nd,h1,h2,hk=>by
  show bindL kindOf ((p,w)::P.zip vs) m x=_;unfold bindL;exact b3e (i:=i) (List.nodup_cons.mp nd).2 (by simpa using h1) (by simpa using h2) hk
theorem b3g{kindOf:Str->Option NameKind}{x:Str}{v:Value}:∀{P:List Str}{vs:List Value}{i:Nat}{m:Str->Option Value},P.Nodup->P[i]?=some x->vs[i]?=some v->kindOf x≠some .local ->
  bindC kindOf (P.zip vs) m x=some v
 | [],_,_,_,_,h,_,_=>by simp at h
 | _::_,[],_,_,_,_,h,_=>by simp at h
 | p::P,w::vs,0,m,nd,h1,h2,hk=>by
  simp at h1 h2;subst h1;subst h2;show bindC kindOf ((p,w)::P.zip vs) m p=_;unfold bindC;rw[b3f λv hv=>(List.nodup_cons.mp nd).1 (List.of_mem_zip hv).1,if_neg hk];simp
 | p::P,w::vs,i+1,m,nd,h1,h2,hk=>by
  show bindC kindOf ((p,w)::P.zip vs) m x=_;unfold bindC;exact b3g (i:=i) (List.nodup_cons.mp nd).2 (by simpa using h1) (by simpa using h2) hk
def start(N:List Str)(vs:List V):St:=vs.map some++List.replicate (N.length-vs.length) none
def b4r(CX:CXT)(P:Program)(w:World)(K:Frag)(mg:Str->Option Value)(base:Heap)(N:List Str)(qual:Str)(scope:Scope)(f:Addr)(cd:Value)(A:Around)(outer:List Env)(s:Shared)(H:Hp)(E:XK):Cx where
 prog:=P
 w:=w
 K:=K
 mg:=mg
 base:=base
 A:=A.deeper (envOfC qual scope s.heap.objs.size f cd)
 N:=N
 s₀:=s
 H₀:=H
 env:=envOfC qual scope s.heap.objs.size f cd
 outer:=outer
 stack:=envOfC qual scope s.heap.objs.size f cd::outer
 ex:=[]
 calm:=true
 fn:=λ_=>true
 pn:=[]
 xe:=λe s'=>wpAny (model P w) (A.deeper (envOfC qual scope s.heap.objs.size f cd)) (leaving (envOfC qual scope s.heap.objs.size f cd) e) (λ_ s''=>CX outer H s E e s'') (λe' s''=>CX outer H s E e' s'') s'
theorem b4t{sc:Scope}{n:Nat}{x:Str}(h:sc.names.lookup x=some .cell):∃c,(cellsFrom n sc.names []).lookup x=some c:=by
 have q:=PySem.W.cellsFrom_some sc.names n [] (.inl h);exact Option.isSome_iff_exists.mp q
theorem b6w{CX:CXT}{P:Program}{w:World}{K:Frag}{mg:Str->Option Value}{base:Heap}{N ps:List Str}{qual:Str}{scope:Scope}{f:Addr}{cd:Value}{A:Around}{outer:List Env}{s s1:Shared}{H:Hp}{E:XK}{us:List Value}{vs:List V}(S:d8 N ps scope)(hd:A.handled=none)(e0:Env0 P w K mg base A outer s H)(hl:vs.length=ps.length)(r:Vals vs us)(x:InCallC s s.heap.objs.size (bindL (envOfC qual scope s.heap.objs.size f cd).kindOf (ps.zip us) λ_=>none) (cellsFrom (s.heap.objs.size+1) scope.names []) (bindC (envOfC qual scope s.heap.objs.size f cd).kindOf (ps.zip us) λ_=>none) s1):
  Inv (b4r CX P w K mg base N qual scope f cd A outer s H E) [] (start N vs) H s1:=by
 have hpl:ps.length<=N.length:=by have:=congrArg List.length S.pre;rw[List.length_take] at this;lia
 obtain⟨h1,tk,rfl,hk⟩:=x.done;have noA:∀b:Addr,b ∉ (b4r CX P w K mg base N qual scope f cd A outer s H E).ex:=λb z=>absurd (show b∈([]:List Addr) from z) (by simp)
 refine⟨⟨e0.mod,S.kind,rfl,rfl,Nat.le_refl _,λy z c h1 h2=>?_,λy hy=>?_,λy c _ h=>?_,λ_=>hd,Around.frames_deeper e0.frames,.inr ⟨rfl,rfl⟩,λb z=>absurd z (noA b),e0.bs,e0.bsz,λb _ _=>noA b,λb z=>absurd z (noA b),e0.funs,e0.frf⟩,
  rfl,e0.bare,Un.kept hk,⟨_,x.toInCall.ns,λi y v h1 h2 h3=>?_⟩,λy c h=>⟨_,x.cell y c h⟩,e0.hok.fresh (Nat.le_refl _),λy c h=>?_,λp hp=>absurd (show p∈([]:List (Addr×Obj)) from hp) (by simp),e0.hok.kept hk,?_⟩
 ·exact name_of_addr x.apart (PySem.mem_of_lookup h1) (PySem.mem_of_lookup h2)
 ·have hy:scope.names.lookup y=some .cell\/scope.names.lookup y=some .free:=hy
  rcases hy with hy|hy
  ·exact b4t hy
  ·exact absurd rfl (S.nofree _ (PySem.mem_of_lookup hy))
 ·exact Nat.le_of_lt (x.above y c (PySem.mem_of_lookup h))
 ·have hi:i<vs.length:=by
   unfold start at h2;by_cases hi:i<vs.length
   ·exact hi
   ·rw[List.getElem?_append_right (by simpa using hi)] at h2
    rw[List.getElem?_replicate] at h2;split at h2 <;> cases h2
  have ha:vs[i]?=some v:=by
   unfold start at h2;rw[List.getElem?_append_left (by simpa using hi),List.getElem?_map] at h2
   cases e:vs[i]? with
   | none=>rw[e] at h2;cases h2
   | some a=>rw[e] at h2;cases h2;rfl
  obtain⟨u,hu,rv⟩:=r.get ha;have hp:ps[i]?=some y:=by
   rw[<- S.pre,List.getElem?_take_of_lt (by lia)];exact h1
  have ndP:ps.Nodup:=by rw[<- S.pre];exact S.nd.sublist (List.take_sublist _ _)
  refine⟨u,rv,?_⟩;rcases S.par y (List.mem_of_getElem? hp) with k|k
  ·exact .inl ⟨k,b3e ndP hp hu k⟩
  ·obtain⟨c,e⟩:=b4t (n:=s.heap.objs.size+1) k
   refine .inr ⟨.inl k,c,e,?_⟩;have q:=x.cell y c e;rw[b3g ndP hp hu (by show scope.names.lookup y≠_;rw[k];decide)] at q
   exact q
 ·exact e0.hok.fresh (Nat.le_of_lt (x.above y c (PySem.mem_of_lookup h)))
 ·unfold start
  show _=N.length;rw[List.length_append,List.length_map,List.length_replicate];lia
theorem c4m{CX:CXT}{P:Program}{w:World}{K:Frag}{mg:Str->Option Value}{base:Heap}{k:Nat}{f:Addr}{name qual:Str}{params:Arguments}{body:List Stmt}{scope:Scope}{dV kV doc pm cdv ct oc:Value}{an od:Option Addr}{osl:Array (Option Value)}{N ps:List Str}{sp:Sp}(lk:K.lookup f=some ⟨oc,od,.func (PySem.W.fnOf name qual params body scope dV kV doc pm an cdv ct),osl⟩)(hcd:codeIn K cdv qual=true)(S:d8 N ps scope)(len:∀vs H Q E,sp vs H Q E->vs.length=ps.length)(hbody:∀(A:Around) (outer:List Env) (s:Shared) (H:Hp) (vs:List V) (Q:VK) (E:XK),Room k (A.deeper (envOfC qual scope s.heap.objs.size f cdv))->sp vs H Q E ->
   ∃t,PSs (b4r CX P w K mg base N qual scope f cdv A outer s H E) body t/\t { nx:=λ_ H'=>Q .non H',rt:=Q } (start N vs) H):
  FnOk P w K mg base CX (k+1) f (PySem.W.fnOf name qual params body scope dV kV doc pm an cdv ct) ps sp:=by
 refine⟨len,λA outer s H args us vs Q E hr e0 hb r hsp=>?_⟩;have hl:=len _ _ _ _ hsp;have KX:K.In s.heap:=e0.mod.kin.keeps λb o e=>(e0.bs b o e).1;have lim:s.heap.NoLimit:=e0.mod.nolimit.keeps λb o e=>(e0.bs b o e).1;have hkind:∀y∈ps.zip us,scope.names.lookup y.1=some .local\/(scope.names.lookup y.1=some .cell/\((cellsFrom (s.heap.objs.size+1) scope.names []).lookup y.1).isSome=true):=λ⟨n,v⟩ hy=>by
  rcases S.par n (List.of_mem_zip hy).1 with q|q
  ·exact .inl q
  ·exact .inr ⟨q,PySem.W.cellsFrom_some _ _ _ (.inl q)⟩
 refine codeAny_call_function hr.depth (KX _ _ lk) rfl S.co S.gen rfl (PySem.W.codeRec_of KX hcd) (hb _ _ _ _ ?_);refine wpAny_newFunctionEnv_cells S.kind hkind λenv he s1 x=>?_;subst he;refine⟨lim.keeps x.toInCall.keep,codeAny_func ?_⟩;obtain⟨t,ht,hq⟩:=hbody A outer s H vs Q E (hr.deeper _) hsp;have I:Inv (b4r CX P w K mg base N qual scope f cdv A outer s H E) [] (start N vs) H s1:=b6w S hr.hd e0 hl r x;refine wpAny_mono (ht [] s1 (start N vs) H _ I hq) (λfl s' hs=>?_) λe s' hs=>hs;have fin:∀{σ':St}{H':Hp}{v:V}{u:Value},Inv (b4r CX P w K mg base N qual scope f cdv A outer s H E) [] σ' H' s'->RelV v u->Q v H'->CE outer P w H s Q u s' :=
  λ{σ' H' v u} J rv q=>⟨v,H',J.os,J.bare,J.base,J.hok,rv,q⟩
 cases fl with
 | ret u=>
  obtain⟨v,σ',H',J,rv,q⟩:=hs;exact fin J rv q
 | next=>
  obtain⟨σ',H',J,q⟩:=hs;exact fin (v:=V.non) (u:=Value.none) J rfl q
 | brk=>
  obtain⟨_,_,_,q⟩:=hs;exact False.elim q
 | cont=>
  obtain⟨_,_,_,q⟩:=hs;exact False.elim q
end L2
namespace L2
open PySem PySem.Spec PyProof.Rows
section
variable{X:Cx}{x:Str}{p pos:Pos}{e:Expr}{es:List Expr}{t:TA}{id T:String}{r:List V->Hp->VK->Prop}
def tCB(r:List V->Hp->VK->Prop)(t:TA):TE:=λσ H Q=>t σ H λvs H1=>r vs H1 Q
theorem j3(hc:a6n X (.builtin id) r)(hg:Gl X x)(hm:X.mg x=none)(hv:bootBuiltins x=some (.builtin id))(ha:PA X (e::es) t)(hn:x≠"__name__":=by decide)(hdb:(x == ("__debug__":Str))=false:=by decide)(he:starEach (e::es) X.env=(false,eval e X.env)::starEach es X.env:=by rfl)(hpl:(backTo pos (starEach es X.env)).any (·.1)=false:=by rfl):PE X (.Call (.Name x p) (e::es) [] pos) (tCB r t):=by
 intro pins s σ H Q I h;refine wpAny_Call_Name_kw (a9l I hg hm hv ?_ hn hdb);exact PyProof.Rows.callWith_builtin1 (thn (ha pos pins s σ H _ I h) λus s1 z0_=>by obtain⟨vs,H1,I1,r1,q1⟩:=z0_;exact hc pins s1 σ H1 vs us Q I1 r1 q1) he hpl
theorem g9(hc:a6n X (.type T) r)(hg:Gl X x)(hm:X.mg x=none)(hv:bootBuiltins x=some (.type T))(ha:PA X (e::es) t)(hn:x≠"__name__":=by decide)(hdb:(x == ("__debug__":Str))=false:=by decide)(he:starEach (e::es) X.env=(false,eval e X.env)::starEach es X.env:=by rfl)(hpl:(backTo pos (starEach es X.env)).any (·.1)=false:=by rfl):PE X (.Call (.Name x p) (e::es) [] pos) (tCB r t):=by
 intro pins s σ H Q I h;refine wpAny_Call_Name_kw (a9l I hg hm hv ?_ hn hdb);exact PyProof.Rows.callWith_type1 (thn (ha pos pins s σ H _ I h) λus s1 z0_=>by obtain⟨vs,H1,I1,r1,q1⟩:=z0_;exact hc pins s1 σ H1 vs us Q I1 r1 q1) he hpl
end
end L2
namespace HT
open PySem PyProof.Rows
section
open PySem.SeqAt
open PySem.AutoSeq1 (wpAny_loadPart')
open PySem.MeetsSeq PySem.MeetsSeq2 PySem.MeetsSeq3
end
section
variable{prog:Program}{w:World}{A:Around}{E:Value->Shared->Prop}{s:Shared}
theorem cat_tup{t b:Addr}{vs ws:List Value}{Q:Value->Shared->Prop}(ht:IsTup s.heap t vs.toArray)(hb:IsTup s.heap b ws.toArray)(hv:vs≠[])(h1:ws=[]->Q (.ref t) s)(h2:ws≠[]->Q (.ref s.heap.objs.size) { s with heap:=s.heap.push { cls:=.type "tuple",data:=.seq (vs++ws).toArray } })(hsz:vs.length+ws.length<=sizeLine):wpAny (model prog w) A (binaryOp .Add (.ref t) (.ref b)) Q E s:=by
 obtain⟨⟨cls,dd,data,sl⟩,ho,hc,n,hd⟩:=id ht;obtain⟨⟨cls2,dd2,data2,sl2⟩,ho2,hc2,n2,hd2⟩:=id hb;simp only at hc hd hc2 hd2;subst hc hd hc2 hd2;have e:vs.toArray++ws.toArray=(vs++ws).toArray:=by simp
 by_cases hw:ws=[]
 ·exact concat_meets ⟨_,ho,rfl⟩ ⟨_,ho2,rfl⟩ noFill_tuple_add seq_tuple_add PySem.F.slot_tuple_add PySem.F.entry_tuple_add (PySem.F.args_tuple_add_2 _ _)
   (tuple_addW1 t b vs.toArray ws.toArray n n2 dd dd2 sl sl2 (by simpa using hv) (by simp[hw])) ⟨ho,ho2,h1 hw⟩
 ·refine concat_meets ⟨_,ho,rfl⟩ ⟨_,ho2,rfl⟩ noFill_tuple_add seq_tuple_add PySem.F.slot_tuple_add PySem.F.entry_tuple_add (PySem.F.args_tuple_add_2 _ _)
   (tuple_addW2 t b vs.toArray ws.toArray n n2 dd dd2 sl sl2 (by simpa using hv) (by simpa using hw) (by rw[List.size_toArray,List.size_toArray];exact hsz)) ⟨ho,ho2,?_⟩
  rw[e];exact h2 hw
def sIx(n d:Nat):Option Int->Nat
 | none=>d
 | some v=>if v<0 then (v+(n:Int)).toNat else min v.toNat n
theorem c1a(n d:Nat)(hd:d<=n)(o:Option Int):sIx n d o<=n:=by
 cases o with
 | none=>exact hd
 | some v=>
  show(if v<0 then (v+(n:Int)).toNat else min v.toNat n)<=n;by_cases hv:v<0
  ·rw[if_pos hv];lia
  ·rw[if_neg hv];exact Nat.min_le_right _ _
theorem b7k(v:Int)(n d:Nat):(if v<0 then max (v+(n:Int)) 0 else min v (n:Int))=((sIx n d (some v):Nat):Int):=by
 show(if v<0 then max (v+(n:Int)) 0 else min v (n:Int))=(((if v<0 then (v+(n:Int)).toNat else min v.toNat n):Nat):Int);by_cases hv:v<0
 ·simp only[if_pos hv];lia
 ·simp only[if_neg hv];lia
theorem b5m(lo hi:Option Int)(n:Nat):Builtin.Slice.sliceAdjust lo hi 1 (n:Int)=(((sIx n 0 lo:Nat):Int),((sIx n n hi:Nat):Int)):=by
 have h1:¬ ((1:Int)<0):=by lia
 unfold Builtin.Slice.sliceAdjust;simp only[h1,if_false];refine Prod.ext ?_ ?_
 ·cases lo with
  | none=>rfl
  | some v=>exact b7k v n 0
 ·cases hi with
  | none=>rfl
  | some v=>exact b7k v n n
theorem b4z(i j:Nat):Builtin.Slice.slicePlaces (i:Int) (j:Int) 1=j-i:=by
 unfold Builtin.Slice.slicePlaces;have h1:(1:Int) > 0:=by lia
 simp only[h1,if_true,Int.ediv_one];split <;> lia
theorem a9c{v:Value}{o:Option Int}{Q:Option Int->Shared->Prop}(p:IsPart v o)(h:Q o s):wpAny (model prog w) A (Builtin.Slice.slicePartIndex v) Q E s:=by
 cases p with
 | none=>exact slicePart_none h
 | int i t=>exact slicePart_int h
theorem a7a{sl:Addr}{vl vu:Value}{lo hi:Option Int}{n:Nat}{Q:Int×Int×Nat->Shared->Prop}(hs:s.heap.IsSliceOf sl vl vu .none)(pl:IsPart vl lo)(pu:IsPart vu hi)(h:Q (((sIx n 0 lo:Nat):Int),1,sIx n n hi-sIx n 0 lo) s):wpAny (model prog w) A (Builtin.Slice.sliceApplied (.ref sl) (pure (n:Int))) Q E s:=by
 obtain⟨os,hos,hcs,hds⟩:=id hs;unfold Builtin.Slice.sliceApplied Builtin.Slice.sliceFields;refine wpAny_bind (wpAny_bind (wpAny_field hos hds (x:=vl) rfl (wpAny_bind (wpAny_field hos hds (x:=vu) rfl (wpAny_bind (wpAny_field hos hds (x:=.none) rfl (wpAny_pure ?_)))))));refine wpAny_bind (slicePart_none ?_);show wpAny _ _ (if ((1:Int) == 0)=true then _ else _) _ _ s;rw[if_neg (by decide)]
 refine wpAny_bind (a9c pl (wpAny_bind (a9c pu (wpAny_bind (wpAny_pure ?_)))));show wpAny _ _ (match Builtin.Slice.sliceAdjust lo hi 1 (n:Int) with|(lo,hi)=>pure (lo,(1:Int),Builtin.Slice.slicePlaces lo hi 1)) _ _ s
 rw[b5m lo hi n];show wpAny _ _ (pure (((sIx n 0 lo:Nat):Int),(1:Int),Builtin.Slice.slicePlaces ((sIx n 0 lo:Nat):Int) ((sIx n n hi:Nat):Int) 1)) _ _ s;rw[b4z];exact wpAny_pure h
theorem b7w(xs:Array Value)(i k:Nat):((List.range k).filterMap λ(m:Nat)=>xs[((i:Int)+(m:Int)*1).toNat]?).toArray=((xs.toList.drop i).take k).toArray:=by
 have e:(λ(m:Nat)=>xs[((i:Int)+(m:Int)*1).toNat]?)=λm=>xs[i+m]?:=by
  funext m;have:((i:Int)+(m:Int)*1).toNat=i+m:=by lia
  rw[this]
 rw[e];have:=pick_run xs i k;rw[List.filterMap_map] at this;have e2:((λx=>xs[x]?) ∘ λx=>i+x)=λm=>xs[i+m]?:=rfl;rw[e2] at this;rw[this]
theorem getItem_tuple_cut{t sl:Addr}{items:Array Value}{vl vu:Value}{lo hi:Option Int}{Q:Value->Shared->Prop}(ht:IsTup s.heap t items)(hs:s.heap.IsSliceOf sl vl vu .none)(pl:IsPart vl lo)(pu:IsPart vu hi)(hw:¬ (sIx items.size 0 lo=0/\sIx items.size items.size hi=items.size))(h:Q (.ref s.heap.objs.size) { s with heap:=s.heap.push { cls:=.type "tuple",data:=.seq ((items.toList.drop (sIx items.size 0 lo)).take (sIx items.size items.size hi-sIx items.size 0 lo)).toArray } })(hsz:items.size<=sizeLine):wpAny (model prog w) A (getItem (.ref t) (.ref sl)) Q E s:=by
 have htake:sizeOk (.seq ((items.toList.drop (sIx items.size 0 lo)).take (sIx items.size items.size hi-sIx items.size 0 lo)).toArray):=by
  show((items.toList.drop (sIx items.size 0 lo)).take (sIx items.size items.size hi-sIx items.size 0 lo)).toArray.size<=sizeLine;rw[List.size_toArray,List.length_take,List.length_drop,Array.length_toList];lia
 have hj:sIx items.size items.size hi<=items.size:=c1a _ _ (Nat.le_refl _) hi;obtain⟨os,hos,hcs,hds⟩:=id hs;have hTs:s.TypeIs (.ref sl) "slice":=⟨os,hos,hcs⟩;unfold getItem
 try with_reducible refine wpAny_holding ?_
 first|refine wpAny_bind (wpAny_pure ?_)|skip
 refine wpAny_bind (wpAny_sequenceKey ht.typeIs (by decide) ?_)
 refine wpAny_bind (wpAny_callSpecial?_slot (name:=Str.ofString "__getitem__") ht.typeIs PyProof.Rows.slot_tuple_getitem
  (wpAny_call_entry PyProof.Rows.slot_tuple_getitem ht.typeIs entry_tuple_getitem ?_ (args_tuple_getitem _ _)))
 show wpAny _ _ (Builtin.Tuple.tupleItemsOf (.ref t) >>= _) _ _ s;refine wpAny_bind (tupleItemsOf_ ht ?_);refine wpAny_bind (wpAny_typeOf hTs ?_);rw[if_pos (by decide)]
 refine wpAny_bind (a7a hs pl pu ?_);have hno:¬ ((((sIx items.size 0 lo:Nat):Int) == 0 && (1:Int) == 1 && (sIx items.size items.size hi-sIx items.size 0 lo) == items.size)=true):=by
  intro q;rw[Bool.and_eq_true,Bool.and_eq_true] at q;have q1:((sIx items.size 0 lo:Nat):Int)=0:=eq_of_beq q.1.1;have q2:sIx items.size items.size hi-sIx items.size 0 lo=items.size:=eq_of_beq q.2;exact hw ⟨by lia,by lia⟩
 show wpAny _ _ (if (((sIx items.size 0 lo:Nat):Int) == 0 && (1:Int) == 1 && (sIx items.size items.size hi-sIx items.size 0 lo) == items.size)=true then _ else _) _ _ s;rw[if_neg hno,b7w]
 first
  | exact wpAny_bind (m:=Builtin.Tuple.tupleExact _) (wpAny_newObj_type (wpAny_pure ⟨_,rfl,wpAny_pure h⟩) htake)
  | exact wpAny_bind (m:=Builtin.Tuple.tupleExact _) (wpAny_newObj_type (wpAny_bind (wpAny_pure (wpAny_pure ⟨_,rfl,wpAny_pure h⟩))) htake)
  | exact wpAny_bind (wpAny_bind (m:=Builtin.Tuple.tupleExact _) (wpAny_newObj_type (wpAny_pure (wpAny_pure ⟨_,rfl,wpAny_pure h⟩)) htake))
  | exact wpAny_bind (wpAny_bind (m:=Builtin.Tuple.tupleExact _) (wpAny_newObj_type (wpAny_pure ⟨_,rfl,wpAny_pure h⟩) htake))
end
end HT
namespace L2
open PySem PySem.Spec PyProof.Rows
abbrev TO:=St->Hp->(Option Int->Hp->Prop)->Prop
def PO(X:Cx)(e:Option Expr)(t:TO):Prop :=
 ∀(pins:List (Addr×Obj))(s:Shared)(σ:St)(H:Hp)(Q:Option Int->Hp->Prop),Inv X pins σ H s->t σ H Q ->
  wpAny (model X.prog X.w) X.A (evalPart e X.env) (λu s'=>∃o H',Inv X pins σ H' s'/\IsPart u o/\Q o H') X.xe s
def b5r:TO:=λ_ H Q=>Q none H
def c0t(t:TE):TO:=λσ H Q=>t σ H λx H1=>∃i,x=.int i/\Q (some i) H1
section
variable{X:Cx}{e:Expr}{te:TE}{lo hi:Option Expr}{tl th:TO}{pos p2:Pos}
theorem b6h:PO X none b5r:=by
 intro pins s σ H Q I h;rw[evalPart_none];exact wpAny_pure ⟨none,H,I,.none,h⟩
theorem b6g(h:PE X e te):PO X (some e) (c0t te):=by
 intro pins s σ H Q I hw;rw[evalPart_some];refine thn (h pins s σ H _ I hw) λu s1 z0_=>?_;obtain⟨x,H1,I1,r1,q1⟩:=z0_;obtain⟨i,rfl,q⟩:=q1;obtain⟨t,rfl⟩:=r1;exact⟨some i,H1,I1,.int i t,q⟩
def SlR(X:Cx)(r:V->Option Int->Option Int->Hp->VK->Prop):Prop :=
 ∀(pins:List (Addr×Obj))(s:Shared)(σ:St)(H:Hp)(x:V)(v vl vu:Value)(lo hi:Option Int)(sl:Addr)(Q:VK),Inv X pins σ H s->RelV x v->s.heap.IsSliceOf sl vl vu .none->IsPart vl lo->IsPart vu hi->r x lo hi H Q ->
  ∃T id,typeLookup (.type T) "__getitem__" = pure (some (.builtin id))/\s.TypeIs v T/\wpAny (model X.prog X.w) X.A (getItem v (.ref sl)) (EP X pins σ Q) X.xe s
def tSl(r:V->Option Int->Option Int->Hp->VK->Prop)(te:TE)(tl th:TO):TE:=λσ H Q=>te σ H λx H1=>tl σ H1 λl H2=>th σ H2 λu H3=>r x l u H3 Q
theorem b4g{r:V->Option Int->Option Int->Hp->VK->Prop}(hr:SlR X r)(he:PE X e te)(hl:PO X lo tl)(hu:PO X hi th):PE X (.Subscript e (.Slice lo hi none p2) pos) (tSl r te tl th):=by
 intro pins s σ H Q I h;refine Subscript_ (thn (he pins s σ H _ I h) λv s1 z0_=>?_);obtain⟨x,H1,I1,r1,q1⟩:=z0_;refine wpAny_Slice (thn (hl pins s1 σ H1 _ I1 q1) λvl s2 z0_=>?_);obtain⟨l,H2,I2,pl,q2⟩:=z0_;refine thn (hu pins s2 σ H2 _ I2 q2) λvu s3 z1_=>?_;obtain⟨u,H3,I3,pu,q3⟩:=z1_;rw[evalPart_none];refine wpAny_pure ?_;have I4:Inv X pins σ H3 { s3 with heap:=s3.heap.push { cls:=.type "slice",data:=.fields #[vl,vu,.none] } }:=I3.kept (t':=s3.toks) λb ob q=>Heap.get?_push_of_some _ q
 obtain⟨T,id,hT,ht,hg⟩:=hr pins { s3 with heap:=s3.heap.push { cls:=.type "slice",data:=.fields #[vl,vu,.none] } } σ H3 x v vl vu l u s3.heap.objs.size Q I4 r1 (Heap.IsSliceOf.new ..) pl pu q3
 show wpAny (model X.prog X.w) X.A (subscriptTail e (.Slice lo hi none p2) v (.ref s3.heap.objs.size)) (EP X pins σ Q) X.xe { s3 with heap:=s3.heap.push { cls:=.type "slice",data:=.fields #[vl,vu,.none] } }
 exact tail_any (ops:=[.ref s3.heap.objs.size,v]) ht hT hg (by with_unfolding_all rfl)
def c0p(xs:List V)(lo hi:Option Int):List V:=(xs.drop (HT.sIx xs.length 0 lo)).take (HT.sIx xs.length xs.length hi-HT.sIx xs.length 0 lo)
theorem b3x(xs:List V)(lo hi:Option Int):(c0p xs lo hi).length<=xs.length:=by
 unfold c0p;rw[List.length_take,List.length_drop];lia
def c4y(K:Frag):V->Option Int->Option Int->Hp->VK->Prop:=λx lo hi H Q=>∃a xs,x=.ref a/\SqT K H a xs /\
 ¬ (HT.sIx xs.length 0 lo=0/\HT.sIx xs.length xs.length hi=xs.length)/\∀p,H p=none->Q (.ref p) (upd H p (.tup (c0p xs lo hi)))
theorem c0z:SlR X (c4y X.K):=by
 intro pins s σ H x v vl vu lo hi sl Q I rx hs pl pu h;obtain⟨a,xs,rfl,hx,hw,q⟩:=h;cases rx;obtain⟨its,r,ht,hz⟩:=I.tuple hx;have hlen:its.toArray.size=xs.length:=by rw[List.size_toArray];exact r.length.symm
 refine⟨"tuple",_,PyProof.Rows.slot_tuple_getitem.lookup,ht.typeIs,?_⟩;refine HT.getItem_tuple_cut ht hs pl pu (by rw[hlen];exact hw) ?_ (by rw[hlen];exact hz)
 rw[hlen];refine⟨.ref s.heap.objs.size,_,I.laid (t':=s.toks) (o:=.tup (c0p xs lo hi)) (λb ob q=>Heap.get?_push_of_some _ q) (Nat.le_refl _) ?_,rfl,q _ (I.hok.fresh (Nat.le_refl _))⟩;exact⟨Nat.le_trans (b3x xs lo hi) hz,_,(r.drop (HT.sIx xs.length 0 lo)).take (HT.sIx xs.length xs.length hi-HT.sIx xs.length 0 lo),IsTup.new _ _⟩
def c1b(K:Frag):R2:=λx y H Q=>∃a b xs ys,x=.ref a/\y=.ref b/\SqT K H a xs/\SqT K H b ys/\xs≠[]/\xs.length+ys.length<=sizeLine /\
 (ys=[]->Q (.ref a) H)/\(ys≠[]->∀p,H p=none->Q (.ref p) (upd H p (.tup (xs++ys))))
theorem Vals.nil_iff{xs:List V}{us:List Value}(r:Vals xs us):us=[] ↔ xs=[]:=by
 cases r with
 | nil=>simp
 | cons _ _=>simp
theorem b9u:OpR X (binaryOp .Add) (c1b X.K):=by
 intro pins s σ H x y v u Q I rx ry h;obtain⟨a,b,xs,ys,rfl,rfl,ha,hb,hx,hz,q1,q2⟩:=h;cases rx;cases ry;obtain⟨its,r1,p1,_⟩:=I.tuple ha;obtain⟨its2,r2,p2,_⟩:=I.tuple hb;refine HT.cat_tup p1 p2 (λz=>hx (r1.nil_iff.mp z)) (λz=>⟨.ref a,H,I,rfl,q1 (r2.nil_iff.mp z)⟩) (λz=>?_) (by rw[<- r1.length,<- r2.length];exact hz)
 refine⟨.ref s.heap.objs.size,_,I.laid (t':=s.toks) (o:=.tup (xs++ys)) (λb ob q=>Heap.get?_push_of_some _ q) (Nat.le_refl _) ?_,rfl,q2 (λw=>z (r2.nil_iff.mpr w)) _ (I.hok.fresh (Nat.le_refl _))⟩;exact⟨by rw[List.length_append];exact hz,_,r1.append r2,IsTup.new _ _⟩
end
end L2
namespace L2
open PySem PySem.Spec PyProof.Rows
def ixN(n:Nat)(i:Int):Option Nat:=if 0<=i then (if i<n then some i.toNat else none) else if -(n:Int)<=i then some (i+n).toNat else none
def atI{α:Type}(xs:List α)(i:Int):Option α:=(ixN xs.length i).bind λj=>xs[j]?
theorem b6v{n:Nat}{i:Int}{j:Nat}(h:ixN n i=some j):seqIndex? i n=some j/\j<n/\-(n:Int)<=i/\i<n:=by
 unfold ixN at h;by_cases h0:0<=i
 ·rw[if_pos h0] at h
  by_cases h1:i<n
  ·rw[if_pos h1] at h
   have e:i.toNat=j:=Option.some.inj h;exact⟨by rw[seqIndex_of h0 h1,e],by lia,by lia,h1⟩
  ·rw[if_neg h1] at h;cases h
 ·rw[if_neg h0] at h
  by_cases h1:-(n:Int)<=i
  ·rw[if_pos h1] at h
   have e:(i+n).toNat=j:=Option.some.inj h;exact⟨by rw[seqIndex_neg (by lia) h1,e],by lia,h1,by lia⟩
  ·rw[if_neg h1] at h;cases h
theorem b7q{α:Type}{xs:List α}{i:Int}{v:α}(h:atI xs i=some v):∃j,seqIndex? i xs.length=some j/\xs[j]?=some v/\j<xs.length/\-(xs.length:Int)<=i/\i<xs.length:=by
 unfold atI at h;cases e:ixN xs.length i with
 | none=>rw[e] at h;cases h
 | some j=>
  rw[e] at h;obtain⟨h1,h2,h3,h4⟩:=b6v e;exact⟨j,h1,h,h2,h3,h4⟩
def c0l(b:Expr):Prop:=∀o i,subscripted b false o i=operate [o,i] (getItem o i)
def IxR(X:Cx)(r:R2):Prop :=
 ∀(value slice:Expr)(pins:List (Addr×Obj))(s:Shared)(σ:St)(H:Hp)(x y:V)(v u:Value)(Q:VK),Inv X pins σ H s->RelV x v->RelV y u->r x y H Q ->
  subscripted slice false v u=operate [v,u] (getItem v u)->wpAny (model X.prog X.w) X.A (subscriptTail value slice v u) (EP X pins σ Q) X.xe s
def MtR(X:Cx)(id:String)(r:V->List V->Hp->VK->Prop):Prop :=
 ∀(pins:List (Addr×Obj))(s:Shared)(σ:St)(H:Hp)(x:V)(xs:List V)(v:Value)(us:List Value)(Q:VK),Inv X pins σ H s->RelV x v->Vals xs us->r x xs H Q ->
  wpAny (model X.prog X.w) X.A (call (.builtin id) (v::us)) (EP X pins σ Q) X.xe s
section
variable{X:Cx}{a b:Expr}{ta tb:TE}{pos:Pos}
theorem q5{r:R2}(hr:IxR X r)(ha:PE X a ta)(hb:PE X b tb)(hs:c0l b):PE X (.Subscript a b pos) (tOp r ta tb):=by
 intro pins s σ H Q I h;exact Subscript_ (c4n ha hb I h λv u s2 x y H2 I2 rx ry q=>hr a b pins s2 σ H2 x y v u Q I2 rx ry q (hs _ _))
def c3l(K:Frag):R2:=λx y H Q=>∃p xs i v,x=.ref p/\y=.int i/\SqL K H p xs/\atI xs i=some v/\Q v H
def c3k(K:Frag):R2:=λx y H Q=>∃p xs i v,x=.ref p/\y=.int i/\SqT K H p xs/\atI xs i=some v/\Q v H
theorem b9w:IxR X (c3l X.K):=by
 intro value slice pins s σ H x y v u Q I rx ry h hs;obtain⟨p,xs,i,z,rfl,rfl,hq,he,q⟩:=h;cases rx;obtain⟨t,rfl⟩:=ry;obtain⟨its,r,pl,hz⟩:=I.list hq;obtain⟨j,h1,h2,h3,h4,h5⟩:=b7q he;obtain⟨w,ew,rw'⟩:=r.get h2;have hl:=r.length;have hn:=b4j;have fin:EP X pins σ Q w s:=⟨z,H,I,rw',q⟩;by_cases h0:0<=i
 ·have hj:i.toNat=j:=by
   rw[seqIndex_of h0 h5] at h1;exact Option.some.inj h1
  exact item_listR pl.isList h0 (by lia) (by rw[hj];simpa using ew) fin hs
 ·have hj:(i+(its.toArray.size:Int)).toNat=j:=by
   rw[seqIndex_neg (by lia) h4] at h1
   rw[List.size_toArray,<- hl];exact Option.some.inj h1
  exact subscriptTail_builtinR (x:=w) pl.isList.typeIs slot_list_getitem.lookup
   (wpAny_getItem_list_neg (Q:=λr s'=>r=w/\EP X pins σ Q r s') pl.isList (by lia) (by rw[List.size_toArray] <;> lia) (by lia) (by rw[hj];simpa using ew) ⟨rfl,fin⟩) hs
theorem c1w:IxR X (c3k X.K):=by
 intro value slice pins s σ H x y v u Q I rx ry h hs;obtain⟨p,xs,i,z,rfl,rfl,hq,he,q⟩:=h;cases rx;obtain⟨t,rfl⟩:=ry;obtain⟨its,r,pl,hz⟩:=I.tuple hq;obtain⟨j,h1,h2,h3,h4,h5⟩:=b7q he;obtain⟨w,ew,rw'⟩:=r.get h2;have hl:=r.length;have hn:=b4j;have fin:EP X pins σ Q w s:=⟨z,H,I,rw',q⟩;exact subscriptTail_builtinR (x:=w) pl.typeIs slot_tuple_getitem.lookup
  (getItem_tuple (j:=j) (Q:=λr s'=>r=w/\EP X pins σ Q r s') pl (by lia) (by lia) (by rw[List.size_toArray,<- hl];exact h1) (by simpa using ew) ⟨rfl,fin⟩) hs
theorem b5f(its:List Value)(n j:Nat)(u:Value):Obj.mapSeq (·.setIfInBounds j u) { cls:=.type "list",data:=.seq its.toArray n }={ cls:=.type "list",data:=.seq (its.set j u).toArray n }:=by
 simp[Obj.mapSeq]
theorem Inv.lst{pins:List (Addr×Obj)}{σ:St}{H:Hp}{s:Shared}{p:Addr}{xs:List V}(I:Inv X pins σ H s)(h:H p=some (.lst xs)):
  ∃(its:List Value)(n:Nat),Vals xs its/\s.heap.get? p=some { cls:=.type "list",data:=.seq its.toArray n }/\xs.length<=sizeLine:=by
 obtain⟨z,its,n,r,e⟩:=I.hok p _ h;exact⟨its,n,r,e,z⟩
theorem Inv.lstUpd{pins:List (Addr×Obj)}{σ:St}{H:Hp}{s:Shared}{p:Addr}{xs ys:List V}{its its':List Value}{n n':Nat}{f:Obj->Obj}(I:Inv X pins σ H s)(h:H p=some (.lst xs))(ho:s.heap.get? p=some { cls:=.type "list",data:=.seq its.toArray n })(hf:f { cls:=.type "list",data:=.seq its.toArray n }={ cls:=.type "list",data:=.seq its'.toArray n' })(r:Vals ys its')(hz:ys.length<=sizeLine)(t:Nat):
  Inv X pins σ (upd H p (.lst ys)) { s with heap:=s.heap.update p f,toks:=t }:=by
 have e:(s.heap.update p f).get? p=some { cls:=.type "list",data:=.seq its'.toArray n' }:=by
  rw[Heap.get?_update_self f ho (by rw[hf] <;> rfl),hf]
 refine I.write (x:=p) (e:=p) (by rw[h];trivial) (.inl rfl) (λb u hb q=>(Heap.get?_update_other _ _ (Ne.symm hb)).trans q) ⟨_,e⟩ ?_
 exact⟨hz,its',n',r,e⟩
def c3i:V->V->V->Hp->(Hp->Prop)->Prop:=λo i v H Q=>∃p xs k j,o=.ref p/\i=.int k/\H p=some (.lst xs)/\ixN xs.length k=some j/\Q (upd H p (.lst (xs.set j v)))
theorem b4e:c5h X c3i:=by
 intro pins s σ H o i v ov iv u Q I ro ri rv h;obtain⟨p,xs,k,j,rfl,rfl,hp,hj,q⟩:=h;cases ro;obtain⟨t,rfl⟩:=ri;obtain⟨its,n,r,ho,hz⟩:=I.lst hp;obtain⟨h1,h2,h3,h4⟩:=b6v hj;have hl:=r.length;have hn:=b4j;have I':Inv X pins σ (upd H p (.lst (xs.set j v))) { s with heap:=s.heap.update p (Obj.mapSeq (·.setIfInBounds j u)) } :=
  I.lstUpd hp ho (b5f its n j u) (r.set rv j) (by rw[List.length_set];exact hz) s.toks
 by_cases h0:0<=k
 ·have hk:k.toNat=j:=by
   rw[seqIndex_of h0 h4] at h1;exact Option.some.inj h1
  exact PySem.W.ki_setAt ho h0 (by lia) (by rw[List.size_toArray,<- hl];exact h4) (by rw[hk];exact⟨_,I',q⟩)
 ·have hk:(k+(its.toArray.size:Int)).toNat=j:=by
   rw[seqIndex_neg (by lia) h3] at h1
   rw[List.size_toArray,<- hl];exact Option.some.inj h1
  exact PySem.W.ki_setBack ho (by lia) (by rw[List.size_toArray,<- hl];exact h3) (by lia) (by rw[hk];exact⟨_,I',q⟩)
def a1f:V->Bool
 | .non=>true
 | .bl _=>true
 | .int _=>true
 | .str _=>true
 | _=>false
def eqV:V->V->Bool
 | .non,.non=>true
 | .bl a,.bl b=>a == b
 | .bl a,.int b=>(if a then 1 else 0) == b
 | .int a,.bl b=>a == (if b then 1 else 0)
 | .int a,.int b=>a == b
 | .str a,.str b=>a == b
 | _,_=>false
theorem b9b{A:Around}{s:Shared}{y x:V}{u v:Value}(ry:RelV y u)(rx:RelV x v)(fy:a1f y=true)(fx:a1f x=true):SeqAt.EqAt A s u v (eqV y x):=by
 cases y with
 | non=>
  cases ry;cases x with
  | non=>cases rx;exact SeqAt.EqAt.same _
  | bl b=>cases rx;exact SeqAt.EqAt.none_bool b
  | int b=>obtain⟨t,rfl⟩:=rx;exact SeqAt.EqAt.none_int b t
  | str b=>obtain⟨t,rfl⟩:=rx;exact SeqAt.EqAt.none_str b t
  | _=>exact absurd (show false=true from fx) Bool.false_ne_true
 | bl a=>
  cases ry;cases x with
  | non=>cases rx;exact SeqAt.EqAt.bool_none a
  | bl b=>cases rx;exact SeqAt.EqAt.bool_bool a b
  | int b=>obtain⟨t,rfl⟩:=rx;exact SeqAt.EqAt.bool_int a b t
  | str b=>obtain⟨t,rfl⟩:=rx;exact SeqAt.EqAt.bool_str a b t
  | _=>exact absurd (show false=true from fx) Bool.false_ne_true
 | int a=>
  obtain⟨t',rfl⟩:=ry;cases x with
  | non=>cases rx;exact SeqAt.EqAt.int_none a t'
  | bl b=>cases rx;exact SeqAt.EqAt.int_bool a t' b
  | int b=>obtain⟨t,rfl⟩:=rx;exact SeqAt.EqAt.int_int a t' b t
  | str b=>obtain⟨t,rfl⟩:=rx;exact SeqAt.EqAt.int_str a t' b t
  | _=>exact absurd (show false=true from fx) Bool.false_ne_true
 | str a=>
  obtain⟨t',rfl⟩:=ry;cases x with
  | non=>cases rx;exact SeqAt.EqAt.str_none a t'
  | bl b=>cases rx;exact SeqAt.EqAt.str_bool a t' b
  | int b=>obtain⟨t,rfl⟩:=rx;exact SeqAt.EqAt.str_int a t' b t
  | str b=>obtain⟨t,rfl⟩:=rx;exact SeqAt.EqAt.str_str a t' b t
  | _=>exact absurd (show false=true from fx) Bool.false_ne_true
 | _=>exact absurd (show false=true from fy) Bool.false_ne_true
def eqU(x:V)(u:Value):Bool:=match u with
 | .none=>eqV .non x
 | .bool b=>eqV (.bl b) x
 | .int i _=>eqV (.int i) x
 | .str z _=>eqV (.str z) x
 | _=>false
theorem b4p{x y:V}{u:Value}(r:RelV y u)(f:a1f y=true):eqU x u=eqV y x:=by
 cases y with
 | non=>cases r;rfl
 | bl b=>cases r;rfl
 | int i=>obtain⟨t,rfl⟩:=r;rfl
 | str z=>obtain⟨t,rfl⟩:=r;rfl
 | _=>exact absurd (show false=true from f) Bool.false_ne_true
theorem a8m{x:V}:∀{xs:List V}{us:List Value},Vals xs us->xs.all a1f=true->us.any (eqU x)=xs.any λy=>eqV y x
 | _,_,.nil,_=>rfl
 | y::xs,u::us,.cons r t,f=>by
  rw[List.all_cons,Bool.and_eq_true] at f;rw[List.any_cons,List.any_cons,b4p r f.1,a8m t f.2]
theorem a3n{A:Around}{s:Shared}{x:V}{v:Value}(rx:RelV x v)(fx:a1f x=true):∀{xs:List V}{us:List Value},Vals xs us->xs.all a1f=true->∀u∈us,SeqAt.EqAt A s u v (eqU x u)
 | _,_,.nil,_=>λu hu=>by cases hu
 | y::xs,u::us,.cons r t,f=>λu' hu=>by
  rw[List.all_cons,Bool.and_eq_true] at f;rcases List.mem_cons.mp hu with rfl|hu
  ·rw[b4p r f.1];exact b9b r rx f.1 fx
  ·exact a3n rx fx t f.2 u' hu
def inV(x:V)(xs:List V):Bool:=xs.any λy=>eqV y x
def rIn(K:Frag)(neg:Bool):R2:=λx y H Q=>∃p xs,y=.ref p/\(SqL K H p xs\/SqT K H p xs)/\a1f x=true/\xs.all a1f=true/\Q (.bl (if neg then !inV x xs else inV x xs)) H
theorem b6p:OpR X (compareOp .In) (rIn X.K false):=by
 intro pins s σ H x y v u Q I rx ry h;obtain⟨p,xs,rfl,hq,fx,fs,q⟩:=h;cases ry;rcases hq with hq|hq
 ·obtain⟨its,r,pl,hz⟩:=I.list hq
  refine SeqAt.in_listAt (eqU x) pl.isList (λw hw=>a3n rx fx r fs w (by simpa using hw)) ⟨.bl _,H,I,rfl,?_⟩
  rw[show its.toArray.any (eqU x)=its.any (eqU x) by simp,a8m r fs]
  exact q
 ·obtain⟨its,r,pl,hz⟩:=I.tuple hq
  refine SeqAt.in_tupleAt (eqU x) pl (λw hw=>a3n rx fx r fs w (by simpa using hw)) ⟨.bl _,H,I,rfl,?_⟩
  rw[show its.toArray.any (eqU x)=its.any (eqU x) by simp,a8m r fs]
  exact q
theorem b2a:OpR X (compareOp .NotIn) (rIn X.K true):=by
 intro pins s σ H x y v u Q I rx ry h;obtain⟨p,xs,rfl,hq,fx,fs,q⟩:=h;cases ry;rcases hq with hq|hq
 ·obtain⟨its,r,pl,hz⟩:=I.list hq
  refine SeqAt.notIn_listAt (eqU x) pl.isList (λw hw=>a3n rx fx r fs w (by simpa using hw)) ⟨.bl _,H,I,rfl,?_⟩
  rw[show its.toArray.any (eqU x)=its.any (eqU x) by simp,a8m r fs]
  exact q
 ·obtain⟨its,r,pl,hz⟩:=I.tuple hq
  refine SeqAt.notIn_tupleAt (eqU x) pl (λw hw=>a3n rx fx r fs w (by simpa using hw)) ⟨.bl _,H,I,rfl,?_⟩
  rw[show its.toArray.any (eqU x)=its.any (eqU x) by simp,a8m r fs]
  exact q
theorem b3c:a6n X (.builtin "len") (λxs H Q=>∃p ys,xs=[.ref p]/\(SqL X.K H p ys\/SqT X.K H p ys)/\Q (.int ys.length) H):=by
 intro pins s σ H xs us Q I r h;obtain⟨p,ys,rfl,hq,q⟩:=h;obtain⟨u,rfl,rx⟩:=b5p r;cases rx;have hn:=b4j;rcases hq with hq|hq
 ·obtain⟨its,r',pl,hz⟩:=I.list hq
  have hlen:=r'.length;exact Calls.call_len_list pl.isList (by simp only[List.size_toArray] <;> lia) ⟨.int ys.length,H,I.tok _,⟨s.toks+1,by rw[List.size_toArray,hlen]⟩,q⟩
 ·obtain⟨its,r',pl,hz⟩:=I.tuple hq
  have hlen:=r'.length;exact len_tuple pl (by simp only[List.size_toArray] <;> lia) ⟨.int ys.length,H,I.tok _,⟨s.toks+1,by rw[List.size_toArray,hlen]⟩,q⟩
theorem b3b:a6n X (.type "list") (λxs H Q=>∃p ys,xs=[.ref p]/\(SqL X.K H p ys\/SqT X.K H p ys)/\∀l,H l=none->Q (.ref l) (upd H l (.lst ys))):=by
 intro pins s σ H xs us Q I r h;obtain⟨p,ys,rfl,hq,q⟩:=h;obtain⟨u,rfl,rx⟩:=b5p r;cases rx;have fin:∀(its:List Value),Vals ys its->ys.length<=sizeLine->∀(h':Heap)(c':Nat),(∀b o',s.heap.get? b=some o'->h'.get? b=some o') ->
   h'.get? s.heap.objs.size=some { cls:=.type "list",dict:=none,data:=.seq its.toArray c',slots:=#[] }->EP X pins σ Q (.ref s.heap.objs.size) { s with heap:=h' }:=λits r' hz h' c' kp e=>
  ⟨.ref s.heap.objs.size,_,I.laid (t':=s.toks) kp (Nat.le_refl _) (show ObjOk X.prog X.w _ h' _ (.lst ys) from⟨hz,its,c',r',e⟩),rfl,q _ (I.hok.fresh (Nat.le_refl _))⟩
 rcases hq with hq|hq
 ·obtain⟨its,r',pl,hz⟩:=I.list hq
  have hlen:=r'.length;obtain⟨o,ho,hc,n,hd⟩:=pl.isList;exact call_list_seq p (.inl rfl) ho hc hd (λh' c' kp e=>fin its r' hz h' c' kp e) (by simp only[List.size_toArray] <;> lia)
 ·obtain⟨its,r',pl,hz⟩:=I.tuple hq
  have hlen:=r'.length;obtain⟨o,ho,hc,n,hd⟩:=pl;exact call_list_seq p (.inr rfl) ho hc hd (λh' c' kp e=>fin its r' hz h' c' kp e) (by simp only[List.size_toArray] <;> lia)
theorem b1c:a6n X (.type "tuple") (λxs H Q=>∃p ys,xs=[.ref p]/\((SqL X.K H p ys/\∀l,H l=none->Q (.ref l) (upd H l (.tup ys)))\/(SqT X.K H p ys/\Q (.ref p) H))):=by
 intro pins s σ H xs us Q I r h;obtain⟨p,ys,rfl,h⟩:=h;obtain⟨u,rfl,rx⟩:=b5p r;cases rx;rcases h with ⟨hq,q⟩|⟨hq,q⟩
 ·obtain⟨its,r',pl,hz⟩:=I.list hq
  have hlen:=r'.length;refine call_tuple_list pl.isList (λh' kp=>?_) (by simp only[List.size_toArray] <;> lia)
  have I1:Inv X pins σ H { s with heap:=h' }:=I.kept (t':=s.toks) kp
  have I2:Inv X pins σ (upd H h'.objs.size (.tup ys)) { s with heap:=h'.push { cls:=.type "tuple",data:=.seq its.toArray } } :=
   I1.laid (t':=s.toks) (λb o e=>Heap.get?_push_of_some _ e) (Nat.le_refl _) (show ObjOk X.prog X.w _ _ _ (.tup ys) from⟨hz,its,r',IsTup.new _ _⟩)
  exact⟨.ref h'.objs.size,_,I2,rfl,q _ (I1.hok.fresh (Nat.le_refl _))⟩
 ·obtain⟨its,r',pl,hz⟩:=I.tuple hq
  exact call_tuple_same pl ⟨.ref p,H,I,rfl,q⟩
def tyV(K:Frag)(T:String)(x:V)(H:Hp):Prop:=match x with
 | .str _=>T="str"
 | .int _=>T="int"
 | .ref p=>(T="list"/\∃xs,SqL K H p xs)\/(T="tuple"/\∃o,K.lookup p=some o/\o.cls=.type "tuple"/\o.dict=none) \/
   (T="dict"/\((∃kvs,H p=some (.dK kvs)) \/ ∃kvs,H p=some (.dT kvs)))\/(T="set"/\∃S n,H p=some (.set S n))
 | _=>False
theorem b8q{pins:List (Addr×Obj)}{σ:St}{H:Hp}{s:Shared}{T:String}{x:V}{v:Value}(I:Inv X pins σ H s)(r:RelV x v)(ty:tyV X.K T x H):
  s.TypeIs v T/\∀a,v=.ref a->∃ob,s.heap.get? a=some ob/\ob.dict=none:=by
 cases x with
 | str z=>
  obtain⟨t,rfl⟩:=r;cases (show T="str" from ty);exact⟨typeIs_str s z t,λ_ e=>nomatch e⟩
 | int i=>
  obtain⟨t,rfl⟩:=r;cases (show T="int" from ty);exact⟨typeIs_int s i t,λ_ e=>nomatch e⟩
 | ref p=>
  cases r;rcases ty with ⟨rfl,xs,hq⟩|⟨rfl,o,hk,hc,hd⟩|⟨rfl,hk⟩|⟨rfl,S,n,hk⟩
  ·obtain⟨its,_,pl,_⟩:=I.list hq
   refine⟨pl.isList.typeIs,λa e=>?_⟩;cases e;obtain⟨o,n,e,c,hd,_⟩:=pl;exact⟨o,e,hd⟩
  ·refine⟨⟨o,I.kIn p o hk,hc⟩,λa e=>?_⟩
   cases e;exact⟨o,I.kIn _ o hk,hd⟩
  ·have z:∃o,s.heap.get? p=some o/\o.ExactDict:=by
    rcases hk with ⟨kvs,hk⟩|⟨kvs,hk⟩
    ·obtain⟨_,_,_,_,o,_,_,e,ex,_⟩:=I.hok p _ hk
     exact⟨o,e,ex⟩
    ·obtain⟨_,_,_,_,o,_,_,e,ex,_⟩:=I.hok p _ hk
     exact⟨o,e,ex⟩
   obtain⟨o,e,ex⟩:=z;refine⟨⟨o,e,ex.1⟩,λa e2=>?_⟩;cases e2;exact⟨o,e,ex.2.1⟩
  ·obtain⟨o,_,_,_,e,ex,_⟩:=I.hok p _ hk
   refine⟨⟨o,e,ex.1⟩,λa e2=>?_⟩;cases e2;exact⟨o,e,ex.2.1⟩
 | _=>exact False.elim ty
def c3g(K:Frag)(T:String)(r:V->List V->Hp->VK->Prop)(to:TE):TE:=λσ H Q=>to σ H λx H1=>tyV K T x H1/\r x [] H1 Q
def tBM(K:Frag)(T:String)(r:V->List V->Hp->VK->Prop)(to:TE)(t:TA):TE:=λσ H Q=>to σ H λx H1=>tyV K T x H1/\t σ H1 λxs H2=>r x xs H2 Q
variable{o e:Expr}{es:List Expr}{to:TE}{t:TA}{name:Str}{apos cpos:Pos}{T id:String}{r:V->List V->Hp->VK->Prop}
theorem c1j(pa:PlainAttrs T)(slot:Slot T name id)(hty:typeOf (.builtin id)=pure (.type "method_descriptor"))(hm:MtR X id r)(ho:PE X o to)(hbase:attributeBase o name X.env (eval o X.env)=eval o X.env:=by rfl)(hline:(apos.endLine == cpos.line)=true:=by rfl):PE X (.Call (.Attribute o name apos) [] [] cpos) (c3g X.K T r to):=by
 intro pins s σ H Q I h;refine wpAny_Call_method0_late hbase hline (thn (ho pins s σ H _ I h) λv s1 z0_=>?_);obtain⟨x,H1,I1,r1,ty,q1⟩:=z0_;obtain⟨h1,h2⟩:=b8q I1 r1 ty;exact⟨T,id,pa,slot,hty,h1,h2,Calls.callWith_builtin rfl (PySem.evalArgs_none (hm pins s1 σ H1 x [] v [] Q I1 r1 .nil q1))⟩
theorem c1k(pa:PlainAttrs T)(slot:Slot T name id)(hty:typeOf (.builtin id)=pure (.type "method_descriptor"))(hm:MtR X id r)(ho:PE X o to)(ha:PA X (e::es) t)(hbase:attributeBase o name X.env (eval o X.env)=eval o X.env:=by rfl)(hfew:((backTo cpos (starEach (e::es) X.env)).all (λx=>!x.1) && (backToKw cpos (keywordEach [] X.env)).all (λx=>x.1.isSome)
   && decide ((e::es).length+([]:List Keyword).length+(if ([]:List Keyword).isEmpty then 0 else 1)<30))=true:=by rfl)(hline:(apos.endLine == cpos.line)=true:=by rfl)(hs:starEach (e::es) X.env=(false,eval e X.env)::starEach es X.env:=by rfl)(hplain:(backTo cpos (starEach es X.env)).any (·.1)=false:=by rfl):
  PE X (.Call (.Attribute o name apos) (e::es) [] cpos) (tBM X.K T r to t):=by
 intro pins s σ H Q I h;refine wpAny_Call_method_late hbase hfew hline rfl (thn (ho pins s σ H _ I h) λv s1 z0_=>?_);obtain⟨x,H1,I1,r1,ty,q1⟩:=z0_;obtain⟨h1,h2⟩:=b8q I1 r1 ty;refine⟨T,id,pa,slot,hty,h1,h2,?_⟩;have hA:=ha cpos pins s1 σ H1 _ I1 q1;rw[hs] at hA ⊢;refine Calls.callWith_builtin (by show(false || (backTo cpos (starEach es X.env)).any (·.1))=false;rw[hplain] <;> rfl) (Calls.evalArgs_plain ?_)
 exact thn hA λus s2 z0_=>by obtain⟨vs,H2,I2,r2,q2⟩:=z0_;exact hm pins s2 σ H2 x vs v us Q I2 r1 r2 q2
end
end L2
namespace L2
open PySem PySem.Spec PyProof.Rows
def MtM(X:Cx)(id:String)(r:V->List V->Hp->VK->Prop):Prop :=
 ∀(pins:List (Addr×Obj))(s:Shared)(σ:St)(H:Hp)(x:V)(xs:List V)(v:Value)(us:List Value)(Q:VK),Inv X pins σ H s->RelV x v->Vals xs us->r x xs H Q ->
  wpAny (model X.prog X.w) X.A (call (.builtin id) (v::us)) (EP X pins σ Q) X.xe s
theorem Vals.one{x:V}{us:List Value}(h:Vals [x] us):∃u,us=[u]/\RelV x u:=by
 cases h with|cons r t=>cases t;exact⟨_,rfl,r⟩
theorem Vals.two{x y:V}{us:List Value}(h:Vals [x,y] us):∃u v,us=[u,v]/\RelV x u/\RelV y v:=by
 cases h with|cons r t=>cases t with|cons q t=>cases t;exact⟨_,_,rfl,r,q⟩
theorem Vals.zero:∀{us:List Value},Vals [] us->us=[]
 | _,.nil=>rfl
theorem Vals.rep{xs:List V}{us:List Value}(h:Vals xs us):∀k:Nat,Vals (List.replicate k xs).flatten (List.replicate k us).flatten
 | 0=>.nil
 | k+1=>by
  rw[List.replicate_succ,List.replicate_succ,List.flatten_cons,List.flatten_cons];exact Vals.append h (Vals.rep h k)
theorem b2w(its:List Value):∀(k:Nat)(acc:List Value),
  List.foldl (λx1 x2=>x1++x2) acc.toArray (List.replicate k its.toArray)=(acc++(List.replicate k its).flatten).toArray
 | 0,acc=>by simp
 | k+1,acc=>by
  have e:acc.toArray++its.toArray=(acc++its).toArray:=by simp
  have e2:(acc++its)++(List.replicate k its).flatten=acc++(List.replicate (k+1) its).flatten:=by
   rw[List.replicate_succ,List.flatten_cons,List.append_assoc]
  rw[<- e2,<- b2w its k (acc++its),<- e,List.replicate_succ,List.foldl_cons]
section
variable{X:Cx}{pins:List (Addr×Obj)}{σ:St}{H:Hp}{s:Shared}{l b:Addr}{xs ys zs:List V}
theorem Inv.lset{its its':List Value}{n:Nat}{f:Array Value->Array Value}{t':Nat}(I:Inv X pins σ H s)(hH:H l=some (.lst xs))(e:s.heap.get? l=some { cls:=.type "list",data:=.seq its.toArray n })(hf:f its.toArray=its'.toArray)(hv:Vals ys its')(hz:ys.length<=sizeLine):
  Inv X pins σ (upd H l (.lst ys)) { s with heap:=s.heap.update l (Obj.mapSeq f),toks:=t' }:=by
 have q:=PySem.IsL.update e f;rw[hf] at q;refine I.write (x:=l) (e:=l) (by rw[hH];exact trivial) (.inl rfl) (λb' u hb hu=>(Heap.get?_update_other s.heap (Obj.mapSeq f) (Ne.symm hb)).trans hu) ⟨_,q⟩ ?_
 exact⟨hz,its',_,hv,q⟩
theorem Inv.lnew{its:List Value}{t':Nat}(I:Inv X pins σ H s)(hv:Vals ys its)(hz:ys.length<=sizeLine):
  Inv X pins σ (upd H s.heap.objs.size (.lst ys)) { s with heap:=s.heap.push { cls:=.type "list",data:=.seq its.toArray },toks:=t' } :=
 I.laid (λ_ _ q=>Heap.get?_push_of_some _ q) (Nat.le_refl _) ⟨hz,its,0,hv,Heap.get?_push_size _ rfl⟩
theorem Inv.fresh(I:Inv X pins σ H s):H s.heap.objs.size=none:=I.hok.fresh (Nat.le_refl _)
theorem Inv.lstM(I:Inv X pins σ H s)(hH:H l=some (.lst xs)):xs.length<=sizeLine/\∃(its:List Value)(n:Nat),Vals xs its/\xs.length=its.length/\s.heap.get? l=some { cls:=.type "list",data:=.seq its.toArray n }:=by
 obtain⟨z,its,n,r,e⟩:=I.hok l _ hH;exact⟨z,its,n,r,r.length,e⟩
theorem b8b{n:Nat}(h:n<=sizeLine):Builtin.List.listTooLong n=false:=by
 unfold Builtin.List.listTooLong;exact decide_eq_false (by lia)
end
section
variable{X:Cx}
def b0f:V->List V->Hp->VK->Prop:=λx vs H Q=>∃l xs y,x=.ref l/\vs=[y]/\H l=some (.lst xs)/\xs.length<sizeLine/\Q .non (upd H l (.lst (xs++[y])))
theorem b2s:MtM X "list.append" b0f:=by
 intro pins s σ H x vs v us Q I rx rv h;obtain⟨l,xs,y,rfl,rfl,hH,hz,q⟩:=h;cases rx;obtain⟨u,rfl,ru⟩:=rv.one;obtain⟨z,its,n,r,hl,e⟩:=I.lstM hH;refine call_meets F.slot_list_append ⟨_,e,rfl⟩ F.entry_list_append (F.args_list_append_2 _ _) (PySem.list_append l its.toArray n u (by rw[List.size_toArray];lia)) ⟨e,?_⟩
 refine⟨.non,_,I.lset (its':=its++[u]) hH e (by simp) (r.append (.cons ru .nil)) ?_,rfl,q⟩
 rw[List.length_append,List.length_singleton];lia
def b6a:V->List V->Hp->VK->Prop:=λx vs H Q=>∃l xs,x=.ref l/\vs=[]/\H l=some (.lst xs)/\Q .non (upd H l (.lst []))
theorem b8c:MtM X "list.clear" b6a:=by
 intro pins s σ H x vs v us Q I rx rv h;obtain⟨l,xs,rfl,rfl,hH,q⟩:=h;cases rx;have hus:=rv.zero;subst hus;obtain⟨z,its,n,r,hl,e⟩:=I.lstM hH;refine call_meets F.slot_list_clear ⟨_,e,rfl⟩ F.entry_list_clear (F.args_list_clear_1 _) (AutoSeq1.list_clear_list_0 l its.toArray n (by rw[List.size_toArray];lia)) ⟨e,?_⟩
 exact⟨.non,_,I.lset (its':=[]) (ys:=[]) hH e rfl .nil (Nat.zero_le _),rfl,q⟩
def c5b:R2:=λx y H Q=>∃l b xs zs,x=.ref l/\y=.ref b/\H l=some (.lst xs)/\H b=some (.lst zs)/\xs.length+zs.length<=sizeLine/\∀p,H p=none->Q (.ref p) (upd H p (.lst (xs++zs)))
theorem a9j:OpR X (binaryOp .Add) c5b:=by
 intro pins s σ H x y v u Q I rx ry h;obtain⟨l,b,xs,zs,rfl,rfl,hH,hB,hz,q⟩:=h;cases rx;cases ry;obtain⟨z,its,n,r,hl,e⟩:=I.lstM hH;obtain⟨z2,its2,n2,r2,hl2,e2⟩:=I.lstM hB;refine PySem.P.add_list e e2 ?_ (by rw[List.size_toArray,List.size_toArray];lia)
 have ea:its.toArray++its2.toArray=(its++its2).toArray:=by simp
 rw[ea];exact⟨.ref _,_,I.lnew (t':=s.toks) (r.append r2) (by rw[List.length_append];lia),rfl,q _ I.fresh⟩
def c5k:R2:=λx y H Q=>∃l k xs,x=.ref l/\y=.int k/\H l=some (.lst xs)/\-(2 ^ 63)<=k/\k<2 ^ 63/\xs.length*k.toNat<=sizeLine /\
 ∀p,H p=none->Q (.ref p) (upd H p (.lst (List.replicate k.toNat xs).flatten))
theorem b3t{α:Type}(xs:List α)(k:Nat):(List.replicate k xs).flatten.length=k*xs.length:=by
 induction k with
 | zero=>simp
 | succ k ih=>rw[List.replicate_succ,List.flatten_cons,List.length_append,ih,Nat.succ_mul,Nat.add_comm]
theorem c1l:OpR X (binaryOp .Mult) c5k:=by
 intro pins s σ H x y v u Q I rx ry h;obtain⟨l,k,xs,rfl,rfl,hH,h1,h2,hz,q⟩:=h;cases rx;obtain⟨t,rfl⟩:=ry;obtain⟨z,its,n,r,hl,e⟩:=I.lstM hH;have hlen:its.toArray.size*k.toNat<=sizeLine:=by rw[List.size_toArray,<- hl];exact hz
 have hcap:¬ its.toArray.size*k.toNat > (2 ^ 63-1) / 8:=by
  have:(sizeLine:Nat)<=(2 ^ 63-1) / 8:=by decide
  lia
 have hfit:¬ (!Builtin.List.listFitsIndex k)=true:=by
  rw[fitsIndex_both h1 h2];exact Bool.false_ne_true
 have hlong:¬ Builtin.List.listTooLong (its.toArray.size*k.toNat)=true:=by
  rw[b8b hlen];exact Bool.false_ne_true
 have hnew:List.foldl (λx1 x2=>x1++x2) #[] (List.replicate (if its.toArray.isEmpty=true then 0 else k.toNat) its.toArray)=(List.replicate k.toNat its).flatten.toArray:=by
  have f0:∀m:Nat,List.foldl (λx1 x2=>x1++x2) #[] (List.replicate m its.toArray)=(List.replicate m its).flatten.toArray:=λm=>by
   have:=b2w its m [];rw[List.nil_append] at this;exact this
  rw[f0];cases its with
  | nil=>simp
  | cons a r'=>rw[if_neg (by simp)]
 refine wpAny_binaryOp_repeat_ref (T:="list") (U:="int") (by decide) ⟨_,e,rfl⟩ (λs'=>typeIs_int s' k t) noFill_list_mul F.fills_int_mul F.slot_int_rmul repeat_list F.slot_int_index.lookup
  (call_meets F.slot_int_rmul (typeIs_int s k t) F.entry_int_rmul (F.args_int_rmul_2 _ _) (int___rmul___int_list k t l its.toArray n)
   ⟨e,rfl,⟨_,e,rfl⟩,call_meets F.slot_list_mul ⟨_,e,rfl⟩ F.entry_list_mul (F.args_list_mul_2 _ _) (AutoListH.list___mul___list_int_3 l its.toArray n k t hfit hcap hlong) ⟨e,?_⟩⟩)
 rw[hnew];exact⟨.ref _,_,I.lnew (t':=s.toks) (r.rep k.toNat) (by rw[b3t,Nat.mul_comm];exact hz),rfl,q _ I.fresh⟩
end
section
variable{prog:Program}{w:World}{A:Around}{E:Value->Shared->Prop}{s:Shared}
set_option maxRecDepth 100000 in
end
section
variable{X:Cx}
end
end L2
namespace Att
open PySem PySem.W PySem.Calls PyProof.Rows
theorem a8h{P:Params}{h:Heap}:∀(ns:List Int)(vs:List Value),WellAll P h vs (ns.map WData.int)->IntsAre vs ns:=by
 intro ns
 induction ns with
 | nil=>
  intro vs w;rw[List.map_nil] at w;cases w;exact .nil
 | cons n ns ih=>
  intro vs w;rw[List.map_cons] at w;cases w with
  | cons a b=>
   cases a;exact .cons _ _ (ih _ b)
theorem b5v{l:OpenLaw}{n:Nat}(hn:l.most=some n){P:Params}{h:Heap}{args:List WData}{vals:List Value}(hpre:l.row.toRowW.claim.pre args=true)(hwl:WellAll P h vals args):
  ∃a vs ns,vals=[Value.ref a]/\args=[WData.list (ns.map WData.int)]/\h.get? a=some { cls:=.type "list",data:=.seq vs.toArray }/\IntsAre vs ns/\ns.length<=n:=by
 have hsh:WShape.hasAll [] args [.list .int]=true:=(pre_splitW hpre).1;have hc:l.pre.holds [] { args:=args }=true:=(pre_splitW hpre).2;obtain⟨d,r,rfl,h1,h2⟩:=hasAllW_cons hsh;obtain rfl:=hasAllW_nil h2;obtain⟨xs,rfl,h3⟩:=hasW_list h1;obtain⟨ns,rfl⟩:=items_int h3;have hlen:ns.length<=n:=by
  unfold OpenLaw.pre at hc;have h4:(WTm.not (.lt (.lit (.int (n:Int))) (.len (.arg 0)))).holds [] { args:=[.list (ns.map .int)] }=true:=by
   have h4:=(holds_andW hc).1;rw[hn] at h4;exact h4
  have h5:=condW_of h4 (w_not (w_lt w_lit (w_len_list (w_arg rfl))));rw[List.length_map] at h5;refine Nat.le_of_not_lt λq=>?_;have q':(n:Int)<((ns.length:Nat):Int):=by lia
  first
   | (rw[decide_eq_true q'] at h5;exact absurd h5 (by decide))
   | (simp at h5;lia)
 cases hwl with
 | cons w1 w2=>
  cases w2;cases w1 with
  | list ho hall=>exact⟨_,_,ns,rfl,rfl,ho,a8h ns _ hall,hlen⟩
theorem b6f(l:OpenLaw)(args:List WData):l.row.toRowW.claim.post args (.bool true) args=true :=
 postW_of (r:=l.row.toRowW) (X:=(true == true))
  (show WShape.has [] (.bool true) .bool=true by first|rfl|decide|simp[WShape.has,WShape.arms,WShape.armsAll])
  (show(WTm.eq .res (.lit (.bool true))).value [] { args:=args,res:=some (.bool true),after:=args }=some (.bool (true == true)) from w_eq_bool (w_res rfl) w_lit) rfl
theorem attach_call{l:OpenLaw}{n:Nat}{q:Program}{loose:List Str}{XP:(Str->Option Value)->Heap->Prop}{YP:World->Heap->Prop}{d:DefRec}(hn:l.most=some n)(hdf:d.params.defaults=[])(call:∀(w:World) (s₀ s₁:Shared) (mg mb:Str->Option Value) (fa:Addr) (o:Obj) (pm cd doc:Value) (a:Addr) (vs:List Value) (ns:List Int),
   Ground q loose [] XP w s₀ mg mb s₁.heap->YP w s₁.heap ->
   s₁.heap.get? fa=some o->o.data=.func (docDef d.name d.params d.body d.scope pm cd doc)->s₁.heap.CodeRec cd d.name->mg d.name=some (.ref fa) ->
   s₁.heap.get? a=some { cls:=.type "list",data:=.seq vs.toArray }->IntsAre vs ns->ns.length<=n->s₁.gens=#[] ->
   codeAny (model l.prog w) callerA (.call (.ref fa) ⟨[.ref a],[]⟩) (λr s'=>r=.ok (.ret (.bool true))/\OldK s₁.heap s'.heap/\s'.os=s₁.os/\AllBare s'.gens) s₁):
  WalkO q loose XP YP l.row.toRowW d [] (λf vs=>PySem.call f vs):=by
 intro w s₀ s₁ mg mb G Y fa o pm cd doc dV kV ho hd hcd hD hmg hg args vals as hpre hlay hrd hwl hlo;obtain rfl:dV=.none:=Dflts.none hD hdf;obtain rfl:kV=.none:=Dflts.noKw hD;obtain⟨a,vs,ns,rfl,rfl,hobj,hints,hlen⟩:=b5v hn hpre hwl;refine enter_call (codeAny_mono (call w s₀ s₁ mg mb fa o pm cd doc a vs ns G Y ho (fd_plain hd) hcd hmg hobj hints hlen hg) λr s' hq=>?_);obtain⟨rfl,h2,h3,h4⟩:=hq;exact⟨.inl ⟨.bool true,.bool true,[],rfl,λ_=>rfl,.bool true,b6f l _,λ_=>⟨List.Pairwise.nil,λ_ hm=>(nomatch hm)⟩⟩,h2,h3,h4⟩
section
variable{prog:Program}{w:World}{A:Around}{E:Value->Shared->Prop}{s:Shared}{K:Frag}
end
end Att
namespace L2
open PySem PySem.Spec PyProof.Rows
theorem b1f:∀{vs:List Value}{ns:List Int},IntsAre vs ns->Vals (ns.map V.int) vs
 | _,_,.nil=>.nil
 | _,_,.cons n t h=>.cons ⟨t,rfl⟩ (b1f h)
def c4p(H:Hp):Prop:=∀b,H b=none \/ ∃o xs,H b=some (.frz o (.lst xs))
theorem b8e{P:Program}{w:World}{K:Frag}{mg mb:Str->Option Value}{CX:CXT}{k:Nat}{fa a:Addr}{fd:FuncData}{x:Str}{sp:Sp}{s₁:Shared}{vs:List Value}{ns:List Int}(KX:K.In s₁.heap)(hns:s₁.heap.Ns mainGlobals mg)(hb:s₁.heap.Ns builtinsNs mb)(hbb:∀x:Str,x≠"__name__"->mb x=bootBuiltins x)(hlim:s₁.heap.NoLimit)(hg:s₁.gens=#[])(ha:s₁.heap.get? a=some { cls:=.type "list",data:=.seq vs.toArray })(hi:IntsAre vs ns)(hl:ns.length<=sizeLine)(hr:Room k callerA)(F:∀base:Heap,K.In base->base.Ns mainGlobals mg->FnOk P w K mg base CX k fa fd [x] sp)(hbind:∀(s:Shared) (u:Value),BindsTo s fd ⟨[u],[]⟩ [(x,u)])(hsp:∀H:Hp,c4p H->SqL K H a (ns.map V.int)->sp [.ref a] H (λv _=>v=.bl true) λ_ _ _=>False)(hCX:∀H e s',CX [] H s₁ (λ_ _ _=>False) e s'->False):
  codeAny (model P w) callerA (.call (.ref fa) ⟨[.ref a],[]⟩) (λr s'=>r=.ok (.ret (.bool true))/\OldK s₁.heap s'.heap/\s'.os=s₁.os/\AllBare s'.gens) s₁:=by
 have rv:=b1f hi;have lenV:=hi.length;have core:∀H:Hp,c4p H->SqL K H a (ns.map V.int)->HOk P w H s₁.heap->(∀b,H b≠none->b=a)->(H a≠none->K.lookup a=none) ->
   codeAny (model P w) callerA (.call (.ref fa) ⟨[.ref a],[]⟩) (λr s'=>r=.ok (.ret (.bool true))/\OldK s₁.heap s'.heap/\s'.os=s₁.os/\AllBare s'.gens) s₁:=by
  intro H hO hS hok hA hK;have base_of:∀{b:Addr}{o:Obj},s₁.heap.get? b=some o->H b=none->(b8g s₁.heap H).get? b=some o:=λe n=>b8f e n;have noA:∀{b:Addr}{o:Obj}{es:Array DictEntry}{ep:Nat},s₁.heap.get? b=some o->o.data=.dict es ep->H b=none:=λ{b o es ep} e d=>by
   cases q:H b with
   | none=>rfl
   | some u=>
    have e':b=a:=hA b (by rw[q];simp)
    subst e';rw[ha] at e;cases e;have d':Data.seq vs.toArray _=Data.dict es ep:=d;cases d'
  have nsK:∀{b:Addr}{m:Str->Option Value},s₁.heap.Ns b m->(b8g s₁.heap H).Ns b m:=λ{b m} ⟨o,es,ep,e,d,r⟩=>⟨o,es,ep,base_of e (noA e d),d,r⟩;have hKb:K.In (b8g s₁.heap H):=λb o e=>base_of (KX b o e) (by
   cases q:H b with
   | none=>rfl
   | some u=>
    have e':b=a:=hA b (by rw[q];simp)
    subst e';rw[hK (by rw[q];simp)] at e;cases e)
  have hM:Mod K mg (b8g s₁.heap H):=⟨hKb,nsK hns,⟨mb,nsK hb,hbb⟩,let ⟨mc,h1,h2⟩:=hlim;⟨mc,nsK h1,h2⟩⟩
  have e0:Env0 P w K mg (b8g s₁.heap H) callerA [] s₁ H:=⟨rfl,hM,λb o e=>b9v e,Nat.le_of_eq (b6x _ _),trivial,λb hb=>absurd (show b∈([]:List Addr) from hb) (by simp),hok,.of_eq hg⟩
  refine codeAny_mono ((F _ hKb (nsK hns)).run callerA [] s₁ H ⟨[.ref a],[]⟩ [.ref a] [.ref a] _ _ hr e0 (hbind s₁ (.ref a)) (.cons rfl .nil) (hsp H hO hS)) λr s' h=>?_;cases r with
  | error e=>exact(hCX H e s' h).elim
  | ok fl=>
   cases fl with
   | next=>exact False.elim h
   | brk=>exact False.elim h
   | cont=>exact False.elim h
   | ret u=>
    obtain⟨v,H',os,bare,un,hok',r',q⟩:=h;have q':v=.bl true:=q;subst q';obtain rfl:u=Value.bool true:=r';refine⟨rfl,OldK.of_keep λb o e=>?_,os,bare⟩;cases q:H b with
    | none=>exact un.keep b o e q (by intro z;exact absurd (show b∈([]:List Addr) from z) (by simp)) (by simp)
    | some u=>
     rcases hO b with z|⟨ob,xs,z⟩
     ·rw[q] at z;cases z
     ·have z2:=un.frzs b ob _ z
      obtain⟨e1,_⟩:=hok b _ z;obtain⟨e2,_⟩:=hok' b _ z2;rw[e] at e1;cases e1;exact e2
 cases hk:K.lookup a with
 | some o=>
  have e:=KX a o hk;rw[ha] at e;cases e;refine core (λ_=>none) (λ_=>.inl rfl) (.inr ⟨_,vs.toArray,_,hk,rfl,rfl,rfl,by rw[List.size_toArray,lenV];exact hl,by simpa using rv⟩) (λb u z=>by have z':(none:Option HO)=some u:=z;cases z') (λb z=>absurd rfl z) λz=>absurd rfl z
 | none=>
  refine core (λb=>if b=a then some (.frz { cls:=.type "list",data:=.seq vs.toArray } (.lst (ns.map V.int))) else none) (λb=>?_) (.inl (.inr ⟨{ cls:=.type "list",data:=.seq vs.toArray },if_pos rfl⟩)) (λb u z=>?_) (λb z=>?_) λ_=>hk
  ·by_cases hb:b=a
   ·exact .inr ⟨_,_,if_pos hb⟩
   ·exact .inl (if_neg hb)
  ·by_cases hb:b=a
   ·have z':=(if_pos hb).symm.trans z
    cases z';subst hb;exact⟨ha,by rw[List.length_map];exact hl,vs,_,rv,ha⟩
   ·have z':=(if_neg hb).symm.trans z
    cases z'
  ·by_cases hb:b=a
   ·exact hb
   ·exact absurd (if_neg hb) z
end L2
namespace L2
open PySem PySem.Spec PyProof.Rows
theorem walk_of{l:PySem.W.OpenLaw}{n k:Nat}{q:Program}{loose:List Str}{XP:(Str->Option Value)->Heap->Prop}{YP:World->Heap->Prop}{d:DefRec}{K:Params->Frag}{CX:World->CXT}{sp:World->Sp}{x:Str}(hn:l.most=some n)(hn2:n<=sizeLine)(hdf:d.params.defaults=[])(hr:Room k callerA)(hY:∀(w:World) (h:Heap),YP w h->(K w.params).In h)(F:∀(w:World) (mg:Str->Option Value) (fa:Addr) (h:Heap),(K w.params).In h->h.Ns mainGlobals mg->mg d.name=some (.ref fa) ->
   ∃fd:FuncData,(∀(s:Shared) (u:Value),BindsTo s fd ⟨[u],[]⟩ [(x,u)]) /\
    ∀base:Heap,(K w.params).In base->base.Ns mainGlobals mg->FnOk l.prog w (K w.params) mg base (CX w) k fa fd [x] (sp w))(hsp:∀(w:World) (H:Hp) (a:Addr) (ns:List Int),ns.length<=n->c4p H->SqL (K w.params) H a (ns.map V.int)->sp w [.ref a] H (λv _=>v=.bl true) λ_ _ _=>False)(hCX:∀(w:World) (H:Hp) (s:Shared) (e:Value) (s':Shared),CX w [] H s (λ_ _ _=>False) e s'->False):
  PySem.W.WalkO q loose XP YP l.row.toRowW d [] (λf vs=>PySem.call f vs):=by
 refine Att.attach_call hn hdf λw s₀ s₁ mg mb fa o pm cd doc a vs ns G Y ho hd hcd hmg hobj hints hlen hg=>?_;have KX:=hY w _ Y;obtain⟨fd,hb,hF⟩:=F w mg fa _ KX G.T.g hmg;exact b8e KX G.T.g G.T.b G.T.builtins G.T.nolimit hg hobj hints (Nat.le_trans hlen hn2) hr hF hb (λH hO hS=>hsp w H a ns hlen hO hS) λH e s'=>hCX w H s₁ e s'
end L2
namespace L2
open PySem PySem.Spec PyProof.Rows
def v4(s:Stmt):Arguments:=match s with
 | .FunctionDef _ a _ _ _ _ _ _ _ _=>a
 | _=>{ posonlyargs:=[],args:=[],vararg:=none,kwonlyargs:=[],kw_defaults:=[],kwarg:=none,defaults:=[] }
def o4(s:Stmt):List Stmt:=match s with
 | .FunctionDef _ _ b _ _ _ _ _ _ _=>b
 | _=>[]
def d5(s:Stmt):Scope:=match s with
 | .FunctionDef _ _ _ _ _ _ sc _ _ _=>sc
 | _=>{ kind:=.function,names:=[],isGenerator:=false,isCoroutine:=false }
abbrev E0:XK:=λ_ _ _=>False
structure Fun(K:Frag)(x qual:Str)(st:Stmt)(f:Addr)(fd:FuncData):Prop where
 ex:∃(oc:Value)(od:Option Addr)(kV doc pm:Value)(an:Option Addr)(cdv ct:Value)(osl:Array (Option Value)),
  fd=PySem.W.fnOf x qual (v4 st) (o4 st) (d5 st) .none kV doc pm an cdv ct/\K.lookup f=some ⟨oc,od,.func fd,osl⟩/\codeIn K cdv qual=true
 kp:keepIn K (.ref f)=true
section
variable{P:Program}{w:World}{K:Frag}{mg:Str->Option Value}{base:Heap}
theorem Fun.binds{x qual:Str}{st:Stmt}{f:Addr}{fd:FuncData}{ps:List Str}(F:Fun K x qual st f fd)(h:∀(kV doc pm:Value) (an:Option Addr) (cdv ct:Value) (us:List Value),us.length=ps.length->bindArgs (PySem.W.fnOf x qual (v4 st) (o4 st) (d5 st) .none kV doc pm an cdv ct) ⟨us,[]⟩=pure (ps.zip us)):Binds K fd ps []:=by
 obtain⟨oc,od,kV,doc,pm,an,cdv,ct,osl,rfl,lk,hcd⟩:=F.ex;exact .all (h kV doc pm an cdv ct)
theorem b7d{x qual:Str}{st:Stmt}{f:Addr}{oc:Value}{od an:Option Addr}{osl:Array (Option Value)}{kV doc pm cdv ct:Value}(l:K.lookup f=some ⟨oc,od,.func (PySem.W.fnOf x qual (v4 st) (o4 st) (d5 st) .none kV doc pm an cdv ct),osl⟩)(c:codeIn K cdv qual=true)(k:keepIn K (.ref f)=true):Fun K x qual st f (PySem.W.fnOf x qual (v4 st) (o4 st) (d5 st) .none kV doc pm an cdv ct):=⟨⟨oc,od,kV,doc,pm,an,cdv,ct,osl,rfl,l,c⟩,k⟩
end
section
variable{X:Cx}
theorem pv(i:Nat){x:Str}{pos:Pos}(hN:X.N[i]?=some x:=by rfl)(hv:Vis X.env.scope x:=by first|exact Or.inl rfl|exact Or.inr (Or.inl rfl)|exact Or.inr (Or.inr rfl))(hd:(x == ("__debug__":Str))=false:=by decide)(hcd:(x == ("__classdict__":Str))=false:=by decide):PE X (.Name x pos) (c2v i):=c1g hN hv hd hcd
end
theorem c3q{A B:Prop}(h:B):if false=true then A else B:=by
 rw[if_neg Bool.false_ne_true];exact h
theorem c3n{A B:Prop}(h:A):if true=true then A else B:=by
 rw[if_pos rfl];exact h
theorem b4k{c A B:Prop}[Decidable c](h1:c->A)(h2:¬ c->B):if c then A else B:=by
 by_cases h:c
 ·rw[if_pos h]
  exact h1 h
 ·rw[if_neg h]
  exact h2 h
def Same(H H':Hp):Prop:=∀b o,H b=some o->H' b=some o
theorem Same.refl(H:Hp):Same H H:=λ_ _ h=>h
theorem Same.trans{H H1 H2:Hp}(a:Same H H1)(b:Same H1 H2):Same H H2:=λc o h=>b c o (a c o h)
theorem Same.free{H H':Hp}(e:Same H H'){l:Addr}(h:H' l=Option.none):H l=Option.none:=by
 cases q:H l with
 | none=>rfl
 | some o=>
  rw[e l o q] at h;cases h
theorem Same.seq{K:Frag}{H H':Hp}{a:Addr}{xs:List V}(e:Same H H')(h:SqL K H a xs):SqL K H' a xs:=by
 rcases h with (h|⟨o,h⟩)|h
 ·exact .inl (.inl (e _ _ h))
 ·exact .inl (.inr ⟨o,e _ _ h⟩)
 ·exact .inr h
end L2
namespace L2
open PySem PySem.Spec PyProof.Rows
theorem a8i{P:Program}{w:World}{H:Hp}{h h':Heap}(x:HOk P w H h)(k:∀b o u,H b=some o->h.get? b=some u->h'.get? b=some u):HOk P w H h' :=
 λb u e=>(x b u e).stay (λc v hc q=>by
  rcases hc with z|z
  ·subst z;exact k _ _ _ e q
  ·exact k _ _ _ z q) (λ_ q=>q) λ_ _ q=>q
structure b5o(B:Heap)(l:List Env)(H H':Hp)(h:Heap):Prop where
 tr:∀b o,H' b=some o->∃ob,B.get? b=some ob
 un:∀b o,h.get? b=some o->H b=none->b ∉ frs l->B.get? b=some o
 th:∀b o,h.get? b=some o->b ∉ frs l->∃ob,B.get? b=some ob
structure Fly(P:Program)(w:World)(l:List Env)(H H':Hp)(s s':Shared)(a:Addr)(C:Value):Prop where
 os:s'.os=s.os
 bare:AllBare s'.gens
 un:Un (frs l) [] H H' s.heap s'.heap
 hok:HOk P w H' s'.heap
 fl:∃(B:Heap)(a0:Value),Heap.FlyingW B l a C a0 s'.heap/\b5o B l H H' s.heap
def CXK(P:Program)(w:World):CXT:=λouter H s E e s'=>∃(a:Addr)(C:Value)(H':Hp),e=.ref a/\Fly P w outer H H' s s' a C/\E C none H'
theorem c0r{l:List Env}{H H':Hp}{h h' h'' B:Heap}{a:Addr}{C a0:Value}(u:Un (frs l) [] H H' h h')(fl:Heap.FlyingW B l a C a0 h')(k:b5o B l H H' h)(st:B.StaysIn h'')(up:h'.UpToSlots h''):Un (frs l) [] H H' h h'' where
 keep:=λb o q n hb _=>st b o (k.un b o q n hb)
 slot:=λb o q n hb hx=>by
  obtain⟨sl,e1⟩:=u.slot b o q n hb hx;obtain⟨_,o',ho',hd⟩:=fl.2.2.1.mem hb;rw[e1] at ho';cases ho';obtain⟨sl',e2⟩:=up b _ e1 hd;exact⟨sl',e2⟩
 free:=u.free
 there:=λb o q hx=>by
  by_cases hb:b∈frs l
  ·obtain⟨_,o',ho',hd⟩:=fl.2.2.1.mem hb
   obtain⟨sl',e2⟩:=up b _ ho' hd;exact⟨_,e2⟩
  ·obtain⟨ob,e⟩:=k.th b o q hb
   exact⟨ob,st b ob e⟩
 tups:=u.tups
 frzs:=u.frzs
 tbls:=u.tbls
theorem b8u{P:Program}{w:World}{l:List Env}{H H':Hp}{h h' h'' B:Heap}{a:Addr}{C a0:Value}(x:HOk P w H' h')(fl:Heap.FlyingW B l a C a0 h')(k:b5o B l H H' h)(st:B.StaysIn h''):HOk P w H' h'' :=
 a8i x λb o u e q=>by
  obtain⟨ob,e1⟩:=k.tr b o e;have e2:=fl.1 b ob e1;rw[q] at e2;cases e2;exact st b _ e1
section
variable{X:Cx}{pins:List (Addr×Obj)}{σ:St}{H H':Hp}{s:Shared}{h' h'' B:Heap}{a:Addr}{C a0:Value}
theorem Inv.left(I:Inv X pins σ H s)(hex:X.ex=[])(hst:X.stack=X.env::X.outer)(u:Un (frs X.stack) [] H H' s.heap h')(fl:Heap.FlyingW B X.stack a C a0 h')(k:b5o B X.stack H H' s.heap)(st:B.StaysIn h'')(up:h'.UpToSlots h''):Un X.fs [] X.H₀ H' X.s₀.heap h''/\b5o B X.outer X.H₀ H' X.s₀.heap:=by
 have u2:=c0r u fl k st up;have nx:∀b:Addr,b ∉ X.ex:=λb z=>by rw[hex] at z;cases z
 have sub:∀b o,X.s₀.heap.get? b=some o->b ∉ X.fs->b ∉ frs X.stack:=λb o e hb z=>by
  rcases List.mem_cons.mp (I.stkSub b z) with y|y
  ·exact absurd (Nat.lt_of_lt_of_le (Heap.lt_size e) I.ok.above) (by rw[y];exact Nat.lt_irrefl _)
  ·exact hb y
 have infs:∀b,b∈X.fs->b∈frs X.stack:=λb hb=>by
  rw[hst];obtain⟨env,he,hf⟩:=List.mem_filterMap.mp hb;exact List.mem_filterMap.mpr ⟨env,List.mem_cons_of_mem _ he,hf⟩
 refine⟨⟨λb o q n hb _=>?_,λb o q n hb _=>?_,λb o q n _=>?_,λb o q _=>?_,λb xs q=>u2.tups b xs (I.base.tups b xs q),λb o xs q=>u2.frzs b o xs (I.base.frzs b o xs q),λb ps q=>?_⟩,⟨k.tr,λb o q n hb=>?_,λb o q hb=>?_⟩⟩
 ·exact u2.keep b o (I.base.keep b o q n hb (nx b)) (I.base.free b o q n (nx b)) (sub b o q hb) (by simp)
 ·obtain⟨sl,e1⟩:=I.base.slot b o q n hb (nx b)
  obtain⟨sl',e2⟩:=u2.slot b _ e1 (I.base.free b o q n (nx b)) (infs b hb) (by simp)
  exact⟨sl',e2⟩
 ·obtain⟨o',e1⟩:=I.base.there b o q (nx b)
  exact u2.free b o' e1 (I.base.free b o q n (nx b)) (by simp)
 ·obtain⟨o',e1⟩:=I.base.there b o q (nx b)
  exact u2.there b o' e1 (by simp)
 ·obtain⟨m1,e1⟩:=I.base.tbls b ps q
  obtain⟨m2,e2⟩:=u2.tbls b _ e1;exact⟨m1++m2,by rw[e2,Array.append_assoc]⟩
 ·exact k.un b o (I.base.keep b o q n hb (nx b)) (I.base.free b o q n (nx b)) (sub b o q hb)
 ·obtain⟨o',e1⟩:=I.base.there b o q (nx b)
  exact k.th b o' e1 (sub b o q hb)
end
section
variable{P:Program}{w:World}{K:Frag}{mg:Str->Option Value}{base:Heap}{N:List Str}{qual:Str}{scope:Scope}{f:Addr}{cd:Value}{A:Around}{outer:List Env}{s₀:Shared}{H₀:Hp}{E₀:XK}
theorem f6:a0p (CXK P w) (b4r (CXK P w) P w K mg base N qual scope f cd A outer s₀ H₀ E₀) E₀:=by
 intro pins σ H s e s' I h;obtain⟨a,C,H',rfl,F,q⟩:=h;obtain⟨B,a0,fl,k⟩:=F.fl;refine wpAny_leaves_onW (base:=B) I.ok.frames rfl fl λh'' x1 x2=>?_;obtain⟨u,k'⟩:=I.left rfl rfl F.un fl k x1.1 x2;exact⟨a,C,H',rfl,⟨F.os.trans I.os,F.bare,u,b8u F.hok fl k x1.1,⟨B,a0,x1,k'⟩⟩,q⟩
theorem a3l:PassesOwn (model (b4r (CXK P w) P w K mg base N qual scope f cd A outer s₀ H₀ E₀).prog (b4r (CXK P w) P w K mg base N qual scope f cd A outer s₀ H₀ E₀).w) (b4r (CXK P w) P w K mg base N qual scope f cd A outer s₀ H₀ E₀).A (b4r (CXK P w) P w K mg base N qual scope f cd A outer s₀ H₀ E₀).env (b4r (CXK P w) P w K mg base N qual scope f cd A outer s₀ H₀ E₀).xe:=PassesOwn.leaving
end
end L2
namespace L2
open PySem PySem.Spec PyProof.Rows
theorem Cx.Ok.re{X:Cx}{A':Around}{calm':Bool}{pn':List (Addr×Obj)}{xe':Value->Shared->Prop}(ok:X.Ok)(hA:A'.frames=X.A.frames)(hc:calm'=true->A'.handled=none):({ X with A:=A',calm:=calm',pn:=pn',xe:=xe' }:Cx).Ok :=
 ⟨ok.mod,ok.kind,ok.glob,ok.blt,ok.above,ok.inj,ok.has,ok.cab,hc,hA.trans ok.frames,ok.stk,ok.exf,ok.bs,ok.bsz,ok.noex,ok.exfs,ok.funs,ok.frf⟩
theorem Inv.re{X:Cx}{pins pins':List (Addr×Obj)}{σ:St}{H:Hp}{s:Shared}{A':Around}{calm':Bool}{pn':List (Addr×Obj)}{xe':Value->Shared->Prop}(I:Inv X pins σ H s)(hA:A'.frames=X.A.frames)(hc:calm'=true->A'.handled=none)(hp:∀p∈pn'++pins',p∈X.pn++pins):Inv ({ X with A:=A',calm:=calm',pn:=pn',xe:=xe' }:Cx) pins' σ H s :=
 ⟨I.ok.re hA hc,I.os,I.bare,I.base,I.loc,I.cell,I.free,I.freeC,λp h=>I.pin p (hp p h),I.hok,I.len⟩
abbrev Cx.tryX(X:Cx)(pn':List (Addr×Obj))(E:Value->Shared->Prop):Cx:={ X with pn:=pn',xe:=E }
abbrev Cx.inH(X:Cx)(pn':List (Addr×Obj))(a:Addr):Cx:={ X with A:=X.A.mark (some (.ref a)),calm:=false,pn:=pn',xe:=λ_ _=>False }
section
variable{X:Cx}
end
def b1d(X:Cx)(J:St->XK):Prop:=∀(pins:List (Addr×Obj))(σ:St)(H:Hp)(s:Shared)(e:Value)(s':Shared),Inv X pins σ H s->CXK X.prog X.w X.stack H s (J σ) e s'->X.xe e s'
def b5t(sp:Sp)(J:St->XK)(t:TA):TE:=λσ H Q=>t σ H λvs H1=>sp vs H1 Q (J σ)
section
variable{X:Cx}{k:Nat}{f:Addr}{fd:FuncData}{ps:List Str}{sp:Sp}{J:St->XK}{x:Str}{p pos:Pos}{e:Expr}{es:List Expr}{t:TA}
theorem b8a(F:FnOk X.prog X.w X.K X.mg X.base (CXK X.prog X.w) k f fd ps sp)(hr:Room k X.A)(hg:Gl X x)(hm:X.mg x=some (.ref f))(hk:keepIn X.K (.ref f)=true)(hb:Binds X.K fd ps [])(hx:b1d X J)(ha:PA X (e::es) t)(hdb:(x == ("__debug__":Str))=false:=by decide)(he:starEach (e::es) X.env=(false,eval e X.env)::starEach es X.env:=by rfl)(hpl:(backTo pos (starEach es X.env)).any (·.1)=false:=by rfl):
  PE X (.Call (.Name x p) (e::es) [] pos) (b5t sp J t):=by
 intro pins s σ H Q I h;refine wpAny_Call_Name_kw (a6k I hg hm ?_ hdb);refine callWith_K (h₀:=X.base) I.ok.mod.kin hk (thn (ha pos pins s σ H _ I h) λus s1 z0_=>?_) he hpl;obtain⟨vs,H1,I1,r,q⟩:=z0_;refine⟨I1.kIn,?_⟩;have hl:us.length=ps.length:=by rw[<- r.length];exact F.len _ _ _ _ q
 have hbd:=hb s1 us I1.kIn (by rw[List.append_nil];exact hl)
 rw[List.append_nil] at hbd;refine wpAny_call (codeAny_mono (F.run X.A X.stack s1 H1 ⟨us,[]⟩ us vs Q (J σ) hr I1.env0 hbd r q) λr' s' hq=>?_);cases r' with
 | error e=>exact hx pins σ H1 s1 e s' I1 hq
 | ok fl=>
  cases fl with
  | ret u=>exact I1.after hq
  | next=>exact False.elim hq
  | brk=>exact False.elim hq
  | cont=>exact False.elim hq
end
section
variable{X:Cx}{body suite:List Stmt}{b₀:Stmt}{x n:Str}{np hpos pos:Pos}{c:Addr}{i:Nat}{tb:(St->XK)->TS}{th:TS}
theorem Fly.caught{pins:List (Addr×Obj)}{σ:St}{H H':Hp}{s s':Shared}{a:Addr}{C:Value}{B h'':Heap}{a0:Value}(I:Inv X pins σ H s)(F:Fly X.prog X.w X.stack H H' s s' a C)(fl:Heap.FlyingW B X.stack a C a0 s'.heap)(k:b5o B X.stack H H' s.heap)(st:B.StaysIn h'')(up:s'.heap.UpToSlots h''):Inv X pins σ H' { s' with heap:=h'' } :=
 I.call' (s':={ s' with heap:=h'' }) (ch:=[]) F.os (c0r F.un fl k st up) (b8u F.hok fl k st) F.bare (λ_ z=>nomatch z)
end
end L2
namespace L2
open PySem PySem.Spec PyProof.Rows Builtin Builtin.ObjectAttr Builtin.Getset_descriptor
section
variable{prog:Program}{w:World}{A:Around}{E:Value->Shared->Prop}{R:Result->Shared->Prop}{K:Frag}{C x:Addr}{s:Shared}
end
section
variable{X:Cx}
end
end L2
namespace L2
open PySem PySem.Spec PyProof.Rows
inductive EqD(K:Frag)(H:Hp):Nat->V->V->Bool->Prop where
 | flat {n:Nat} {x y:V} (fx:a1f x=true) (fy:a1f y=true):EqD K H n x y (eqV x y)
 | lst {n:Nat} {p q:Addr} {xs ys:List V} {e:Nat->Bool} (ne:p≠q) (hp:SqL K H p xs) (hq:SqL K H q ys) (hl:xs.length=ys.length)
   (h:∀(j:Nat)(x y:V),xs[j]?=some x->ys[j]?=some y->EqD K H n x y (e j)):EqD K H (n+1) (.ref p) (.ref q) ((List.range xs.length).all e)
 | lstN {n:Nat} {p q:Addr} {xs ys:List V} (ne:p≠q) (hp:SqL K H p xs) (hq:SqL K H q ys) (hl:xs.length≠ys.length):EqD K H (n+1) (.ref p) (.ref q) false
 | tup {n:Nat} {p q:Addr} {xs ys:List V} {e:Nat->Bool} (ne:p≠q) (hp:SqT K H p xs) (hq:SqT K H q ys)
   (h:∀(j:Nat)(x y:V),xs[j]?=some x->ys[j]?=some y->EqD K H n x y (e j)):EqD K H (n+1) (.ref p) (.ref q) ((List.range (min xs.length ys.length)).all e && xs.length == ys.length)
 | self {n:Nat} {p:Addr} {xs:List V} (hp:SqT K H p xs):EqD K H n (.ref p) (.ref p) true
theorem Vals.at{xs:List V}{us:List Value}(r:Vals xs us){j:Nat}(h:j<us.toArray.size):∃x,xs[j]?=some x/\RelV x us.toArray[j]:=by
 have hl:j<xs.length:=by rw[r.length];simpa using h
 obtain⟨u,e,q⟩:=r.get (List.getElem?_eq_getElem hl);refine⟨xs[j],List.getElem?_eq_getElem hl,?_⟩;have:us.toArray[j]=u:=by
  simp only[List.getElem_toArray];have:=List.getElem?_eq_some_iff.mp e;exact this.2
 rw[this];exact q
section
variable{X:Cx}{pins:List (Addr×Obj)}{σ:St}{H:Hp}{s:Shared}
theorem b4o(I:Inv X pins σ H s){n:Nat}{x y:V}{b:Bool}(d:EqD X.K H n x y b):∀{A:Around}{u v:Value},RelV x u->RelV y v->A.units+n<cLine->SeqAt.EqAt A s u v b:=by
 induction d with
 | flat fx fy=>intro A u v rx ry hu;exact b9b rx ry fx fy
 | @lst n p q xs ys e ne hp hq hl h ih=>
  intro A u v rx ry hu;cases rx;cases ry;obtain⟨i1,r1,p1,z1⟩:=I.list hp;obtain⟨i2,r2,p2,z2⟩:=I.list hq;have e1:=r1.length;have e2:=r2.length;rw[show xs.length=i1.toArray.size by simpa using e1]
  refine SeqAt.EqAt.of_refs ne (SeqAt.RcAt.lists p1.isList p2.isList (by simp only[List.size_toArray];lia) (by lia) λj h1 h2=>?_)
  obtain⟨a,ea,ra⟩:=r1.at h1;obtain⟨c,ec,rc⟩:=r2.at h2;exact ih j a c ea ec ra rc (by show A.units+1+n<cLine;lia)
 | @lstN n p q xs ys ne hp hq hl=>
  intro A u v rx ry hu;cases rx;cases ry;obtain⟨i1,r1,p1,z1⟩:=I.list hp;obtain⟨i2,r2,p2,z2⟩:=I.list hq;have e1:=r1.length;have e2:=r2.length;exact SeqAt.EqAt.of_refs ne (SeqAt.RcAt.lists_lengths p1.isList p2.isList (by simp only[List.size_toArray,bne_iff_ne];lia) (by lia))
 | @tup n p q xs ys e ne hp hq h ih=>
  intro A u v rx ry hu;cases rx;cases ry;obtain⟨i1,r1,p1,z1⟩:=I.tuple hp;obtain⟨i2,r2,p2,z2⟩:=I.tuple hq;have e1:=r1.length;have e2:=r2.length;rw[show xs.length=i1.toArray.size by simpa using e1,show ys.length=i2.toArray.size by simpa using e2]
  refine SeqAt.EqAt.of_refs ne (SeqAt.RcAt.tuples p1 p2 (by lia) λj h1 h2=>?_)
  obtain⟨a,ea,ra⟩:=r1.at h1;obtain⟨c,ec,rc⟩:=r2.at h2;exact ih j a c ea ec ra rc (by show A.units+1+n<cLine;lia)
 | self hp=>
  intro A u v rx ry hu;cases rx;cases ry;exact SeqAt.EqAt.same _
theorem b4u(k:Nat):((List.range (min k k)).all (λ_=>true) && k == k)=true:=by simp
theorem c1p{n:Nat}(hu:X.A.units+(n+1)<cLine):OpR X (compareOp .Eq) (λx y H Q=>∃p q b,x=.ref p/\y=.ref q/\EqD X.K H (n+1) x y b/\Q (.bl b) H):=by
 intro pins s σ H x y v u Q I rx ry h;obtain⟨p,q,b,rfl,rfl,d,hq⟩:=h;cases rx;cases ry;cases d with
 | flat fx fy=>cases fx
 | @lst _ _ _ xs ys e ne h1 h2 hl h=>
  obtain⟨i1,r1,p1,z1⟩:=I.list h1;obtain⟨i2,r2,p2,z2⟩:=I.list h2;have e1:=r1.length;have e2:=r2.length;rw[show xs.length=i1.toArray.size by simpa using e1] at hq
  refine SeqAt.RcAt.lists p1.isList p2.isList (by simp only[List.size_toArray];lia) (by lia) (λj h1 h2=>?_) _ _ _ _ ⟨.bl _,H,I,rfl,hq⟩
  obtain⟨a,ea,ra⟩:=r1.at h1;obtain⟨c,ec,rc⟩:=r2.at h2;exact b4o I (h j a c ea ec) ra rc (by show X.A.units+1+n<cLine;lia)
 | @lstN _ _ _ xs ys ne h1 h2 hl=>
  obtain⟨i1,r1,p1,z1⟩:=I.list h1;obtain⟨i2,r2,p2,z2⟩:=I.list h2;have e1:=r1.length;have e2:=r2.length;exact SeqAt.RcAt.lists_lengths p1.isList p2.isList (by simp only[List.size_toArray,bne_iff_ne];lia) (by lia) _ _ _ _ ⟨.bl _,H,I,rfl,hq⟩
 | @tup _ _ _ xs ys e ne h1 h2 h=>
  obtain⟨i1,r1,p1,z1⟩:=I.tuple h1;obtain⟨i2,r2,p2,z2⟩:=I.tuple h2;have e1:=r1.length;have e2:=r2.length;rw[show xs.length=i1.toArray.size by simpa using e1,show ys.length=i2.toArray.size by simpa using e2] at hq
  refine SeqAt.RcAt.tuples p1 p2 (by lia) (λj h1 h2=>?_) _ _ _ _ ⟨.bl _,H,I,rfl,hq⟩
  obtain⟨a,ea,ra⟩:=r1.at h1;obtain⟨c,ec,rc⟩:=r2.at h2;exact b4o I (h j a c ea ec) ra rc (by show X.A.units+1+n<cLine;lia)
 | @self _ _ xs hp=>
  obtain⟨i1,r1,p1,z1⟩:=I.tuple hp;rw[<- b4u i1.toArray.size] at hq;exact SeqAt.RcAt.tuples p1 p1 (by lia) (λj h1 h2=>SeqAt.EqAt.same _) _ _ _ _ ⟨.bl _,H,I,rfl,hq⟩
theorem c1m{n:Nat}(hu:X.A.units+(n+1)<cLine):OpR X (compareOp .NotEq) (λx y H Q=>∃p q b,x=.ref p/\y=.ref q/\EqD X.K H (n+1) x y b/\Q (.bl (!b)) H):=by
 intro pins s σ H x y v u Q I rx ry h;obtain⟨p,q,b,rfl,rfl,d,hq⟩:=h;cases rx;cases ry;cases d with
 | flat fx fy=>cases fx
 | @lst _ _ _ xs ys e ne h1 h2 hl h=>
  obtain⟨i1,r1,p1,z1⟩:=I.list h1;obtain⟨i2,r2,p2,z2⟩:=I.list h2;have e1:=r1.length;have e2:=r2.length;rw[show xs.length=i1.toArray.size by simpa using e1] at hq
  refine SeqAt.RcNeAt.lists p1.isList p2.isList (by simp only[List.size_toArray];lia) (by lia) (λj h1 h2=>?_) _ _ _ _ ⟨.bl _,H,I,rfl,hq⟩
  obtain⟨a,ea,ra⟩:=r1.at h1;obtain⟨c,ec,rc⟩:=r2.at h2;exact b4o I (h j a c ea ec) ra rc (by show X.A.units+1+n<cLine;lia)
 | @lstN _ _ _ xs ys ne h1 h2 hl=>
  obtain⟨i1,r1,p1,z1⟩:=I.list h1;obtain⟨i2,r2,p2,z2⟩:=I.list h2;have e1:=r1.length;have e2:=r2.length;exact SeqAt.RcNeAt.lists_lengths p1.isList p2.isList (by simp only[List.size_toArray,bne_iff_ne];lia) (by lia) _ _ _ _ ⟨.bl _,H,I,rfl,hq⟩
 | @tup _ _ _ xs ys e ne h1 h2 h=>
  obtain⟨i1,r1,p1,z1⟩:=I.tuple h1;obtain⟨i2,r2,p2,z2⟩:=I.tuple h2;have e1:=r1.length;have e2:=r2.length;rw[show xs.length=i1.toArray.size by simpa using e1,show ys.length=i2.toArray.size by simpa using e2] at hq
  refine SeqAt.RcNeAt.tuples p1 p2 (by lia) (λj h1 h2=>?_) _ _ _ _ ⟨.bl _,H,I,rfl,hq⟩
  obtain⟨a,ea,ra⟩:=r1.at h1;obtain⟨c,ec,rc⟩:=r2.at h2;exact b4o I (h j a c ea ec) ra rc (by show X.A.units+1+n<cLine;lia)
 | @self _ _ xs hp=>
  obtain⟨i1,r1,p1,z1⟩:=I.tuple hp;rw[<- b4u i1.toArray.size] at hq;exact SeqAt.RcNeAt.tuples p1 p1 (by lia) (λj h1 h2=>SeqAt.EqAt.same _) _ _ _ _ ⟨.bl _,H,I,rfl,hq⟩
end
def eqL:List V->List V->Bool
 | [],[]=>true
 | x::xs,y::ys=>eqV x y && eqL xs ys
 | _,_=>false
theorem b7i:∀{xs ys:List V},xs.length≠ys.length->eqL xs ys=false
 | [],[],h=>absurd rfl h
 | [],_::_,_=>rfl
 | _::_,[],_=>rfl
 | x::xs,y::ys,h=>by
  show(eqV x y && eqL xs ys)=false;rw[b7i (λe=>h (by simp[e])),Bool.and_false]
theorem a8q(e:Nat->Bool)(n:Nat):(List.range (n+1)).all e=(e 0 && (List.range n).all λj=>e (j+1)):=by
 rw[List.range_succ_eq_map,List.all_cons,List.all_map]
 rfl
theorem b2z:∀{xs ys:List V},xs.length=ys.length->(List.range xs.length).all (λj=>eqV (xs.getD j .non) (ys.getD j .non))=eqL xs ys
 | [],[],_=>rfl
 | [],_::_,h=>by cases h
 | _::_,[],h=>by cases h
 | x::xs,y::ys,h=>by
  have h':xs.length=ys.length:=by simpa using h
  rw[List.length_cons,a8q];have e:=b2z h';simp only[List.getD_cons_zero,List.getD_cons_succ];rw[e]
  rfl
theorem b8l{K:Frag}{H:Hp}{p q:Addr}{xs ys:List V}(ne:p≠q)(hp:SqL K H p xs)(hq:SqL K H q ys)(fx:xs.all a1f=true)(fy:ys.all a1f=true):EqD K H 1 (.ref p) (.ref q) (eqL xs ys):=by
 by_cases h:xs.length=ys.length
 ·rw[<- b2z h]
  refine EqD.lst ne hp hq h λj x y hx hy=>?_;have e1:xs.getD j .non=x:=by rw[List.getD_eq_getElem?_getD,hx];rfl
  have e2:ys.getD j .non=y:=by rw[List.getD_eq_getElem?_getD,hy];rfl
  show EqD K H 0 x y (eqV (xs.getD j .non) (ys.getD j .non));rw[e1,e2];exact EqD.flat (List.all_eq_true.mp fx x (List.mem_of_getElem? hx)) (List.all_eq_true.mp fy y (List.mem_of_getElem? hy))
 ·rw[b7i h]
  exact EqD.lstN ne hp hq h
theorem b4q:∀(ns ms:List Int),eqL (ns.map V.int) (ms.map V.int)=decide (ns=ms)
 | [],[]=>by simp[eqL]
 | [],_::_=>by simp[eqL]
 | _::_,[]=>by simp[eqL]
 | n::ns,m::ms=>by
  show(eqV (.int n) (.int m) && eqL (ns.map V.int) (ms.map V.int))=_;rw[b4q ns ms];show((n == m) && decide (ns=ms))=_;by_cases h:n=m
  ·subst h;simp
  ·simp[h]
theorem b2x(ns:List Int):(ns.map V.int).all a1f=true:=by simp[a1f]
end L2
namespace L2
open PySem PySem.Spec PyProof.Rows
def z5(X:Cx)(N:List Str)(scope:Scope)(cl:List (Str×Addr))(C:Addr)(s:Shared)(H:Hp)(ex:List Addr)(pn:List (Addr×Obj)):Cx :=
 { prog:=X.prog,w:=X.w,K:=X.K,mg:=X.mg,base:=X.base,A:=X.A,N:=N,s₀:=s,H₀:=H,env:=compEnvC scope cl C X.env,outer:=X.stack,stack:=X.stack,ex:=ex,fn:=λ_=>false,calm:=X.calm,pn:=pn,xe:=λ_ _=>False }
def m6(nt:Nat)(fr:List Nat)(σ:St):St:=List.replicate nt none++fr.map λj=>(σ[j]?).join
def b9h(wi:TI)(nt:Nat)(fr:List Nat)(g:TG)(te:TE):TE:=λσ H Q=>wi σ H λJ H1=>∀D,H1 D=none->∃(n:Nat)(W:Nat->List V->Hp->Prop),W 0 [] (upd H1 D (.lst [])) /\
 ∀i acc H,W i acc H->H D=some (.lst acc)/\acc.length<sizeLine /\
  ((J.stop i H/\Q (.ref D) H)\/(i<n/\J.go i H/\∀x H',J.yld i H x H'->g x (m6 nt fr σ) H' λσ2 H2=>te σ2 H2 λy H3=>H3 D=some (.lst acc)/\W (i+1) (acc++[y]) (upd H3 D (.lst (acc++[y])))))
def a9p(nt:Nat)(g:TG):Prop:=∀(x:V)(σ:St)(H:Hp)(Q:St->Hp->Prop),g x σ H Q->g x σ H λσ2 H2=>(∀j,nt<=j->σ2[j]?=σ[j]?)/\Q σ2 H2
theorem v3{i nt:Nat}(h:i<nt):a9p nt (a2c i):=λx σ H Q q=>⟨λj hj=>List.getElem?_set_ne (by lia),q⟩
structure CompOk(X:Cx)(N:List Str)(scope:Scope)(cl:List (Str×Addr))(nt:Nat)(fr:List Nat):Prop where
 clos:closureFor scope X.env=pure cl
 kind:scope.kind=.function
 cell:∀y∈scope.names,y.2≠.cell
 names:∀y∈scope.names,y.2=.local->scope.names.lookup y.1=some .local
 sub:∀p∈cl,X.env.cells.lookup p.1=some p.2
 has:((relabel scope X.env).names.all λy=>!(y.2 == .cell || y.2 == .free) || (cl.lookup y.1).isSome)=true
 len:N.length=nt+fr.length
 frn:∀(j i:Nat),fr[j]?=some i->∃x,N[nt+j]?=some x/\X.N[i]?=some x/\(X.env.kindOf x=some .cell\/X.env.kindOf x=some .free)/\((relabel scope X.env).names.lookup x=some .cell\/(relabel scope X.env).names.lookup x=some .free)
section
variable{X:Cx}{pins:List (Addr×Obj)}{σ:St}{H:Hp}{s:Shared}{N:List Str}{scope:Scope}{cl:List (Str×Addr)}{nt:Nat}{fr:List Nat}
theorem CompOk.cl_at(k:CompOk X N scope cl nt fr){x:Str}{c:Addr}(h:cl.lookup x=some c):X.env.cells.lookup x=some c:=k.sub (x,c) (PySem.mem_of_lookup h)
theorem CompOk.start(k:CompOk X N scope cl nt fr)(I:Inv X pins σ H s){C:Addr}{h':Heap}{t':Nat}{ex:List Addr}(hex:∀b∈ex,b7r X pins H b/\b<s.heap.objs.size)(hC:s.heap.objs.size<=C)(hn:h'.Ns C λ_=>none)(hk:∀b o,s.heap.get? b=some o->h'.get? b=some o):
  Inv (z5 X N scope cl C s H ex (X.pn++pins)) [] (m6 nt fr σ) H { s with heap:=h',toks:=t' }:=by
 have ncell:∀x c,cl.lookup x=some c->c<s.heap.objs.size:=λx c e=>by
  obtain⟨v,z⟩:=I.cell x c (k.cl_at e);exact z.lt
 refine⟨⟨I.ok.mod,?_,I.ok.glob,I.ok.blt,hC,λx y c h1 h2=>I.ok.inj x y c (k.cl_at h1) (k.cl_at h2),λx hx=>?_,λx c hf _=>(nomatch hf),I.ok.hd,I.ok.frames,.inl rfl,λb hb=>⟨?_,λx c e=>?_⟩,I.bs,?_,λb o e hb=>?_,λb hb z=>?_,I.stack,I.stkFree⟩,
  rfl,I.bare,Un.kept hk,⟨_,hn,λi x v e1 e2 e3=>?_⟩,λx c e=>?_,I.hok.fresh hC,λx c e=>I.freeC x c (k.cl_at e),λp hp=>?_,I.hok.kept hk,?_⟩
 ·show(relabel scope X.env).kind=.function
  exact k.kind
 ·have hx:(relabel scope X.env).names.lookup x=some .cell\/(relabel scope X.env).names.lookup x=some .free:=hx
  have hall:=List.all_eq_true.mp k.has;rcases hx with hx|hx
  ·have:=hall _ (PySem.mem_of_lookup hx)
   simp only[beq_self_eq_true,Bool.true_or,Bool.not_true,Bool.false_or] at this;exact Option.isSome_iff_exists.mp this
  ·have:=hall _ (PySem.mem_of_lookup hx)
   simp only[beq_self_eq_true,Bool.or_true,Bool.not_true,Bool.false_or] at this;exact Option.isSome_iff_exists.mp this
 ·exact Nat.ne_of_lt (Nat.lt_of_lt_of_le (hex b hb).2 hC)
 ·exact(hex b hb).1.2.2.2.2.1 x c (k.cl_at e)
 ·exact Nat.le_trans I.ok.bsz I.sz
 ·obtain⟨_,_,_,h4,_⟩:=(hex b hb).1
  have hs:=(I.ok.bs b o e).1;rcases h4 with z|z
  ·exact I.ok.noex b o e z
  ·exact absurd (Nat.lt_of_lt_of_le (Heap.lt_size hs) z) (Nat.lt_irrefl _)
 ·rcases List.mem_cons.mp (I.stkSub b z) with y|y
  ·exact(hex b hb).1.2.1 y
  ·exact(hex b hb).1.2.2.1 y
 ·have hi:¬ i<nt:=λhi=>by
   unfold m6 at e2;rw[List.getElem?_append_left (by simpa using hi),List.getElem?_replicate] at e2
   split at e2 <;> cases e2
  obtain⟨j,rfl⟩:∃j,i=nt+j:=⟨i-nt,by lia⟩
  unfold m6 at e2;rw[List.getElem?_append_right (by simp),List.length_replicate,Nat.add_sub_cancel_left,List.getElem?_map] at e2
  cases hj:fr[j]? with
  | none=>rw[hj] at e2;cases e2
  | some i'=>
   rw[hj] at e2;have e2:(σ[i']?).join=some v:=Option.some.inj e2;have e4:σ[i']?=some (some v):=by
    cases z:σ[i']? with
    | none=>rw[z] at e2;cases e2
    | some y=>rw[z] at e2;rw[show y=some v from e2]
   obtain⟨x',n1,n2,n3,n4⟩:=k.frn j i' hj;have e1:N[nt+j]?=some x:=e1;rw[n1] at e1;cases e1;obtain⟨m,hm,hl⟩:=I.loc;obtain⟨u,r,l⟩:=hl i' x v n2 e4 (n3.elim (λz=>.inr (.inl z)) λz=>.inr (.inr z));refine⟨u,r,.inr ⟨n4,?_⟩⟩;rcases l with ⟨z,_⟩|⟨_,c,hc,hcell⟩
   ·rcases n3 with y|y <;> (rw[z] at y;cases y)
   ·have hall:=List.all_eq_true.mp k.has
    have hs:(cl.lookup x).isSome=true:=by
     rcases n4 with y|y
     ·have:=hall _ (PySem.mem_of_lookup y)
      simpa using this
     ·have:=hall _ (PySem.mem_of_lookup y)
      simpa using this
    obtain⟨c',hc'⟩:=Option.isSome_iff_exists.mp hs;have z:=k.cl_at hc';rw[hc] at z;cases z;exact⟨c,hc',hcell.elim λo ho=>⟨o,hk _ _ ho.1,ho.2⟩⟩
 ·obtain⟨v,o,ho,hd⟩:=I.cell x c (k.cl_at e)
  exact⟨v,o,hk _ _ ho,hd⟩
 ·obtain⟨e,n,ne,nf,d⟩:=I.pin p (by have hp:p∈(X.pn++pins)++[]:=hp;rw[List.append_nil] at hp;exact hp)
  refine⟨hk _ _ e,n,Nat.ne_of_lt (Nat.lt_of_lt_of_le (Heap.lt_size e) hC),λz=>?_,d⟩;rcases List.mem_cons.mp (I.stkSub _ z) with y|y
  ·exact ne y
  ·exact nf y
 ·show(m6 nt fr σ).length=N.length
  unfold m6;rw[List.length_append,List.length_replicate,List.length_map,k.len]
theorem Inv.blockEnd{ex:List Addr}{C:Addr}{σ':St}{H H':Hp}{s':Shared}{h'':Heap}{pn' pins':List (Addr×Obj)}(I:Inv X pins σ H s)(hex:∀b∈ex,b7r X pins H b)(J:Inv (z5 X N scope cl C s H ex pn') pins' σ' H' s')(hC:s.heap.objs.size<=C)(hs:Heap.SameBut C s'.heap h''):Inv X pins σ H' { s' with heap:=h'' }:=by
 have ne:∀b o,s.heap.get? b=some o->b≠C:=λb o e=>Nat.ne_of_lt (Nat.lt_of_lt_of_le (Heap.lt_size e) hC);refine I.call' (s':={ s' with heap:=h'' }) (ch:=ex) J.os ⟨λb o e n hb hx=>?_,λb o e n hb hx=>?_,J.base.free,λb o e hx=>?_,J.base.tups,J.base.frzs,J.base.tbls⟩ ?_ J.bare λb hb=>⟨(hex b hb).2.2.2.1,(hex b hb).2.1,(hex b hb).2.2.2.2.1,(hex b hb).2.2.2.2.2⟩
 ·exact(hs.2 b (ne b o e)).trans (J.base.keep b o e n hb hx)
 ·obtain⟨sl,e1⟩:=J.base.slot b o e n hb hx
  exact⟨sl,(hs.2 b (ne b o e)).trans e1⟩
 ·obtain⟨o',e1⟩:=J.base.there b o e hx
  exact⟨o',(hs.2 b (ne b o e)).trans e1⟩
 ·exact a8i J.hok λb o u e q=>(hs.2 b (λz=>by
   have:=J.free;rw[show(z5 X N scope cl C s H ex pn').env.locals=C from rfl,<- z,e] at this;cases this)).trans q
def b3h(wi:TI)(nt:Nat)(fr:List Nat)(g:TG)(tt:TT)(te:TE):TE:=λσ H Q=>wi σ H λJ H1=>∀D,H1 D=none->∃(n:Nat)(W:Nat->List V->Hp->Prop),W 0 [] (upd H1 D (.lst [])) /\
 ∀i acc H,W i acc H->H D=some (.lst acc)/\acc.length<sizeLine /\
  ((J.stop i H/\Q (.ref D) H)\/(i<n/\J.go i H/\∀x H',J.yld i H x H'->g x (m6 nt fr σ) H' λσ2 H2=>tt σ2 H2 λc H3=>if c=true then (te σ2 H3 λy H4=>H4 D=some (.lst acc)/\W (i+1) (acc++[y]) (upd H4 D (.lst (acc++[y])))) else W (i+1) acc H3))
def PTs(X:Cx)(ifs:List Expr)(t:TT):Prop:=∀(pins:List (Addr×Obj))(s:Shared)(σ:St)(H:Hp)(Q:Bool->Hp->Prop),Inv X pins σ H s->t σ H Q->wpAny (model X.prog X.w) X.A (forIn ifs true λc r=>if r=true then do let ok <- isTrue c X.env (eval c X.env);pure (ForInStep.yield ok) else pure (ForInStep.yield r)) (TP X pins σ Q) X.xe s
theorem b6d:PTs X [] (λ_ H Q=>Q true H):=λ_ s σ H Q I q=>wpAny_tests_nil ⟨H,I,q⟩
theorem b3a{elt iter tg:Expr}{ifs:List Expr}{pos pos':Pos}{wi:TI}{g:TG}{te:TE}{tt:TT}{use:Option (Value->Sem Unit)}{PQ:Value->Shared->Prop}{Q:VK}(hc:X.calm=true)(k:CompOk X N scope cl nt fr)(hi:PI X tg iter wi)(gk:a9p nt g)(hg:∀C s H ex pn',PG (z5 X N scope cl C s H ex pn') tg g)(ht:∀C s H ex pn',PTs (z5 X N scope cl C s H ex pn') ifs tt)(he:∀C s H ex pn',PE (z5 X N scope cl C s H ex pn') elt te)(hs:∀x,foldedSetIterable iter X.env x=pure x)(I:Inv X pins σ H s)(h:b3h wi nt fr g tt te σ H Q)(fin:∀{H3:Hp} {s3:Shared} {C D:Addr} {fp:List Addr} {H6:Hp} {s7:Shared},Inv X pins σ H3 s3->(∀b∈fp,b7r X pins H3 b)->s3.heap.objs.size<=C->Inv (z5 X N scope cl C s3 H3 fp (X.pn++pins)) [] (m6 nt fr σ) H6 s7->Q (.ref D) H6->compPost (model X.prog X.w) X.A X.xe use PQ (.ref D) C (.ok .next) s7):
  wpAny (model X.prog X.w) X.A (comprehension (.ListComp elt [⟨tg,iter,ifs,0⟩] scope pos) scope X.env pos' (newList []) false (eval iter X.env) use) PQ X.xe s:=by
 refine wpAny_comprehension_free rfl hs k.clos k.kind k.names (thn (hi pins s σ H _ I h) λxv s1 h1=>thn h1 λitv s2 h2=>?_);obtain⟨it,fp,tn,J,H2,rfl,I2,T,st2,f2,R2⟩:=h2;obtain⟨n,W,w0,turn⟩:=R2 _ I2.fresh;have I3:Inv X pins σ (upd H2 s2.heap.objs.size (.lst [])) { s2 with heap:=s2.heap.push { cls:=.type "list",data:=.seq ([]:List Value).toArray } }:=I2.lnew (its:=[]) (t':=s2.toks) .nil (Nat.zero_le _)
 have fp2:∀b∈fp,b<s2.heap.objs.size:=λb hb=>by
  obtain⟨o,e,_⟩:=T.obj _ _ st2 b hb;exact Heap.lt_size e
 have f3:∀b∈fp,b7r X pins (upd H2 s2.heap.objs.size (.lst [])) b:=λb hb=>⟨by rw[d3 (Nat.ne_of_lt (fp2 b hb))];exact(f2 b hb).1,(f2 b hb).2⟩
 refine wpAny_newObj_type (hd:=by show(0:Nat)<=_;exact Nat.zero_le _) ?_
 have hsz:({ s2 with heap:=s2.heap.push { cls:=.type "list",data:=.seq ([]:List Value).toArray } }:Shared).heap.objs.size=s2.heap.objs.size+1:=Heap.size_push _ _
 have kp:∀b o,s2.heap.get? b=some o->({ s2 with heap:=s2.heap.push { cls:=.type "list",data:=.seq ([]:List Value).toArray } }:Shared).heap.get? b=some o:=λb o e=>Heap.get?_push_of_some _ e
 generalize ({ s2 with heap:=s2.heap.push { cls:=.type "list",data:=.seq ([]:List Value).toArray } }:Shared)=s3 at *
 have dn:∀b∈fp,b<s3.heap.objs.size:=λb hb=>by rw[hsz];exact Nat.lt_succ_of_lt (fp2 b hb)
 refine wpAny_newFunctionEnv k.cell (by intro y hy;cases hy) (λh4 hns hsb=>?_) k.kind
 have keep4:∀b o,s3.heap.get? b=some o->h4.get? b=some o:=λb o e=>(hsb.2 b (Nat.ne_of_lt (Heap.lt_size e))).trans (Heap.get?_push_of_some _ e);have I4:=k.start I3 (C:=s3.heap.objs.size) (h':=h4) (t':=s3.toks) (ex:=fp) (λb hb=>⟨f3 b hb,dn b hb⟩) (Nat.le_refl _) hns keep4;have st4:tn 0 h4:=T.keep _ _ _ st2 λb hb o e=>keep4 b o (kp b o e);generalize hC:s3.heap.objs.size=C at I4 hns;have hC3:s3.heap.objs.size<=C:=Nat.le_of_eq hC;generalize hH:upd H2 s2.heap.objs.size (.lst [])=H3 at *;generalize s2.heap.objs.size=D at *;have stat:∀{H':Hp},(∀b∈fp,H' b=none)->∀b∈fp,b7r (z5 X N scope cl C s3 H3 fp (X.pn++pins)) [] H' b:=λ{H'} hn b hb=>by
  refine⟨hn b hb,Nat.ne_of_lt (Nat.lt_of_lt_of_le (dn b hb) hC3),λz=>?_,.inl hb,λx c e=>(f2 b hb).2.2.2.2.1 x c (k.cl_at e),λp hp=>(f2 b hb).2.2.2.2.2 p (by have hp:p∈(X.pn++pins)++[]:=hp;rw[List.append_nil] at hp;exact hp)⟩
  rcases List.mem_cons.mp (I2.stkSub b z) with y|y
  ·exact(f2 b hb).2.1 y
  ·exact(f2 b hb).2.2.1 y
 have loop:∀s5:Shared,s5={ s3 with heap:=h4,toks:=s3.toks }->codeAny (model X.prog X.w) X.A (.compLoop (.ListComp elt [⟨tg,iter,ifs,0⟩] scope pos) 0 (.ref it) (.ref D) (compEnvC scope cl C X.env)) (compPost (model X.prog X.w) X.A X.xe use PQ (.ref D) C) s5:=by
  rintro s5 rfl;refine codeAny_loop rfl (λm s'=>∃i acc H',m=n-i/\Inv (z5 X N scope cl C s3 H3 fp (X.pn++pins)) [] (m6 nt fr σ) H' s'/\tn i s'.heap/\(∀b∈fp,H' b=none)/\W i acc H') ?_ n ⟨0,[],_,rfl,I4,st4,λb hb=>(f3 b hb).1,w0⟩;rintro m s6 ⟨i,acc,H6,rfl,I6,st6,fr6,w6⟩;show wpAny _ _ ((compTurn (.ListComp elt [⟨tg,iter,ifs,0⟩] scope pos) 0 (.ref it) (.ref D) (compEnvC scope cl C X.env)).onRaise (λx=>do noteFrame x (compEnvC scope cl C X.env);theTreesLotGoes x)) _ _ s6
  refine wpAny_noted ?_;rw[compTurn_list];refine wpAny_bind (wpAny_standAt (wpAny_bind ?_));obtain⟨hD6,hz6,alt⟩:=turn i acc H6 w6;rcases alt with ⟨stop,qn⟩|⟨hin,go,step⟩
  ·refine wpAny_mono (T.done (z5 X N scope cl C s3 H3 fp (X.pn++pins)) rfl rfl rfl hc i [] s6 (m6 nt fr σ) H6 (λ_ _=>False) I6 (stat fr6) st6 stop) (λr s7 z0_=>?_) (λ_ _ z=>z.elim)
   obtain⟨hr,I7⟩:=z0_;subst hr;exact wpAny_pure (fin I3 f3 hC3 I7 qn)
  ·refine wpAny_mono (T.item (z5 X N scope cl C s3 H3 fp (X.pn++pins)) rfl rfl rfl hc i [] s6 (m6 nt fr σ) H6 (λ_ _=>False) I6 (stat fr6) st6 go) (λr s7 z0_=>?_) (λ_ _ z=>z.elim)
   obtain⟨u,hr,h7⟩:=z0_;subst hr;refine wpAny_bind (wpAny_mono h7 (λ_ s8 z0_=>?_) (λ_ _ z=>z.elim));obtain⟨x,H8,I8,r8,y8,st8,fr8⟩:=z0_;refine wpAny_bind (wpAny_mono (hg _ _ _ _ _ _ s8 _ H8 x u _ (I8.pinned (stat fr8) (T.obj _ _ st8)) r8 (gk _ _ _ _ (step x H8 y8))) (λ_ s9 z0_=>?_) (λ_ _ z=>z.elim));obtain⟨σ9,H9,I9,k9,q9⟩:=z0_;refine wpAny_bind (wpAny_mono (ht _ _ _ _ _ _ s9 σ9 H9 _ I9 q9) (λok s12 z0_=>?_) (λ_ _ z=>z.elim));obtain⟨H12,I12,q12⟩:=z0_;have weak:∀{H11:Hp}{s11:Shared},Inv (z5 X N scope cl C s3 H3 fp (X.pn++pins)) ([]++b1x fp s8.heap) σ9 H11 s11->Inv (z5 X N scope cl C s3 H3 fp (X.pn++pins)) [] (m6 nt fr σ) H11 s11/\tn (i+1) s11.heap/\∀b∈fp,H11 b=none:=λ{H11 s11} I11=>by
    refine⟨(I11.unpinned (pins:=[])).weak ?_ λj v' e=>?_,?_,λb hb=>?_⟩
    ·rw[I11.len,<- I4.len]
    ·by_cases hj:nt<=j
     ·rw[k9 j hj];exact e
     ·unfold m6 at e
      rw[List.getElem?_append_left (by rw[List.length_replicate];lia),List.getElem?_replicate] at e
      split at e <;> cases e
    ·exact T.keep _ _ _ st8 λb hb o e=>(I11.pin (b,o) (List.mem_append_right _ (List.mem_append_right _ (a3m hb e)))).1
    ·obtain⟨o,e,d⟩:=T.obj _ _ st8 b hb
     exact(I11.pin (b,o) (List.mem_append_right _ (List.mem_append_right _ (a3m hb e)))).2.1
   cases ok with
   | false=>
    rw[if_neg Bool.false_ne_true] at q12;obtain⟨z1,z2,z3⟩:=weak I12;exact wpAny_pure ⟨rfl,n-(i+1),by lia,i+1,acc,_,rfl,z1,z2,z3,q12⟩
   | true=>
    rw[if_pos rfl] at q12;refine wpAny_bind (wpAny_bind (wpAny_mono (he _ _ _ _ _ _ s12 σ9 H12 _ I12 q12) (λv s10 z0_=>?_) (λ_ _ z=>z.elim)));obtain⟨y,H10,I10,r10,hD10,q10⟩:=z0_;refine wpAny_bind (wpAny_mono (b2s (X:=z5 X N scope cl C s3 H3 fp (X.pn++pins)) _ s10 σ9 H10 (.ref D) [y] (.ref D) [v] (λv' H'=>v'=.non/\H'=upd H10 D (.lst (acc++[y]))) I10 rfl (.cons r10 .nil) ⟨_,acc,y,rfl,rfl,hD10,hz6,rfl,rfl⟩) (λv' s11 z0_=>?_) (λ_ _ z=>z.elim));obtain⟨_,H11,I11,_,_,e11⟩:=z0_;subst e11;obtain⟨z1,z2,z3⟩:=weak I11;exact wpAny_pure (wpAny_pure ⟨rfl,n-(i+1),by lia,i+1,acc++[y],_,rfl,z1,z2,z3,q10⟩)
 exact codeAny_compStart_list (loop _ rfl) (T.self _ 0 _ _ _ st4 (loop _ rfl))
theorem b7z{elt iter tg:Expr}{ifs:List Expr}{pos:Pos}{wi:TI}{g:TG}{te:TE}{tt:TT}(hc:X.calm=true)(k:CompOk X N scope cl nt fr)(hi:PI X tg iter wi)(gk:a9p nt g)(hg:∀C s H ex pn',PG (z5 X N scope cl C s H ex pn') tg g)(ht:∀C s H ex pn',PTs (z5 X N scope cl C s H ex pn') ifs tt)(he:∀C s H ex pn',PE (z5 X N scope cl C s H ex pn') elt te)(hs:∀x,foldedSetIterable iter X.env x=pure x):
  PE X (.ListComp elt [⟨tg,iter,ifs,0⟩] scope pos) (b3h wi nt fr g tt te):=by
 intro pins s σ H Q I h;rw[eval_ListComp];refine b3a hc k hi gk hg ht he hs I h λI3 f3 hC3 I7 qn=>?_;obtain⟨m7,hn7,_⟩:=id I7.loc;exact⟨m7,hn7,λh8 hs8=>⟨.ref _,_,I3.blockEnd f3 I7 hC3 hs8,rfl,qn⟩⟩
theorem a0m{elt iter tg:Expr}{pos:Pos}{wi:TI}{g:TG}{te:TE}(hc:X.calm=true)(k:CompOk X N scope cl nt fr)(hi:PI X tg iter wi)(gk:a9p nt g)(hg:∀C s H ex pn',PG (z5 X N scope cl C s H ex pn') tg g)(he:∀C s H ex pn',PE (z5 X N scope cl C s H ex pn') elt te)(hs:∀x,foldedSetIterable iter X.env x=pure x:=by intro _;rfl):
  PE X (.ListComp elt [⟨tg,iter,[],0⟩] scope pos) (b9h wi nt fr g te):=b7z hc k hi gk hg (λ_ _ _ _ _=>b6d) he hs
end
end L2
namespace L2
open PySem PySem.Spec PyProof.Rows
structure FnT(P:Program)(w:World)(K:Frag)(mg:Str->Option Value)(base:Heap)(x:Str)(k:Nat)(ps:List Str)(sp:Sp):Prop where
 ex:∃(f:Addr)(fd:FuncData),FnOk P w K mg base (CXK P w) k f fd ps sp/\mg x=some (.ref f)/\keepIn K (.ref f)=true/\Binds K fd ps []
theorem Fun.okX{P:Program}{w:World}{K:Frag}{mg:Str->Option Value}{base:Heap}{x qual:Str}{st:Stmt}{f:Addr}{fd:FuncData}{N ps:List Str}{k:Nat}{sp:Sp}(F:Fun K x qual st f fd)(S:d8 N ps (d5 st))(len:∀vs H Q E,sp vs H Q E->vs.length=ps.length)(hbody:∀(cdv:Value) (A:Around) (outer:List Env) (s:Shared) (H:Hp) (vs:List V) (Q:VK) (E:XK),Room k (A.deeper (envOfC qual (d5 st) s.heap.objs.size f cdv))->sp vs H Q E ->
   ∃t,PSs (b4r (CXK P w) P w K mg base N qual (d5 st) f cdv A outer s H E) (o4 st) t/\t { nx:=λ_ H'=>Q .non H',rt:=Q } (start N vs) H):FnOk P w K mg base (CXK P w) (k+1) f fd ps sp:=by
 obtain⟨oc,od,kV,doc,pm,an,cdv,ct,osl,rfl,lk,hcd⟩:=F.ex;exact c4m lk hcd S len λA outer s H vs Q E hr hsp=>hbody cdv A outer s H vs Q E hr hsp
structure DefT(K:Frag)(mg:Str->Option Value)(x:Str)(st:Stmt)(ps:List Str):Prop where
 ex:∃(f:Addr)(fd:FuncData),Fun K x x st f fd/\mg x=some (.ref f)/\Binds K fd ps []
theorem DefT.fn{P:Program}{w:World}{K:Frag}{mg:Str->Option Value}{base:Heap}{x:Str}{st:Stmt}{N ps:List Str}{k:Nat}{sp:Sp}(D:DefT K mg x st ps)(S:d8 N ps (d5 st))(len:∀vs H Q E,sp vs H Q E->vs.length=ps.length)(hbody:∀(f:Addr) (cdv:Value) (A:Around) (outer:List Env) (s:Shared) (H:Hp) (vs:List V) (Q:VK) (E:XK),Room k (A.deeper (envOfC x (d5 st) s.heap.objs.size f cdv))->sp vs H Q E ->
   ∃t,PSs (b4r (CXK P w) P w K mg base N x (d5 st) f cdv A outer s H E) (o4 st) t/\t { nx:=λ_ H'=>Q .non H',rt:=Q } (start N vs) H):FnT P w K mg base x (k+1) ps sp:=by
 obtain⟨f,fd,F,hm,hb⟩:=D.ex;exact⟨f,fd,F.okX S len (hbody f),hm,F.kp,hb⟩
theorem DefT.mk'{K:Frag}{h:Heap}{mg:Str->Option Value}{x:Str}{st:Stmt}{ps:List Str}{f:Addr}{oc:Value}{od an:Option Addr}{osl:Array (Option Value)}{kV doc pm cdv ct:Value}(X:K.In h)(G:h.Ns mainGlobals mg)(a:nsIn K mainGlobals x=some (some (.ref f)))(l:K.lookup f=some ⟨oc,od,.func (PySem.W.fnOf x x (v4 st) (o4 st) (d5 st) .none kV doc pm an cdv ct),osl⟩)(c:codeIn K cdv x=true)(k:keepIn K (.ref f)=true)(hb:∀(kV doc pm:Value) (an:Option Addr) (cdv ct:Value) (us:List Value),us.length=ps.length->bindArgs (PySem.W.fnOf x x (v4 st) (o4 st) (d5 st) .none kV doc pm an cdv ct) ⟨us,[]⟩=pure (ps.zip us)):DefT K mg x st ps :=
 have F:=b7d (st:=st) (x:=x) (qual:=x) l c k
 ⟨_,_,F,mg_of X G a,F.binds hb⟩
def tFn(sp:Sp)(E:XK)(t:TA):TE:=λσ H Q=>t σ H λvs H1=>sp vs H1 Q E
section
variable{X:Cx}{k j:Nat}{ps:List Str}{sp:Sp}{E:XK}{J:St->XK}{x:Str}{p pos:Pos}{e:Expr}{es:List Expr}{t:TA}
theorem i4(G:FnT X.prog X.w X.K X.mg X.base x k ps sp)(hr:Room j X.A)(hj:k<=j)(hg:Gl X x)(hx:a0p (CXK X.prog X.w) X E)(ha:PA X (e::es) t)(hdb:(x == ("__debug__":Str))=false:=by decide)(he:starEach (e::es) X.env=(false,eval e X.env)::starEach es X.env:=by rfl)(hpl:(backTo pos (starEach es X.env)).any (·.1)=false:=by rfl):PE X (.Call (.Name x p) (e::es) [] pos) (tFn sp E t):=by
 obtain⟨f,fd,F,hm,hk,hb⟩:=G.ex;intro pins s σ H Q I h;refine b9r F (hr.mono hj) hg hm hk hb .nil hx ha hdb he hpl pins s σ H Q I ?_;show t σ H λvs H1=>sp (vs++[]) H1 Q E;simp only[List.append_nil];exact h
theorem b6m(G:FnT X.prog X.w X.K X.mg X.base x k ps sp)(hr:Room j X.A)(hj:k<=j)(hg:Gl X x)(hx:b1d X J)(ha:PA X (e::es) t)(hdb:(x == ("__debug__":Str))=false:=by decide)(he:starEach (e::es) X.env=(false,eval e X.env)::starEach es X.env:=by rfl)(hpl:(backTo pos (starEach es X.env)).any (·.1)=false:=by rfl):PE X (.Call (.Name x p) (e::es) [] pos) (b5t sp J t):=by
 obtain⟨f,fd,F,hm,hk,hb⟩:=G.ex;exact b8a F (hr.mono hj) hg hm hk hb hx ha hdb he hpl
theorem b1z{N:List Str}{scope:Scope}{cl:List (Str×Addr)}{C:Addr}{s:Shared}{H:Hp}{ex:List Addr}{pn':List (Addr×Obj)}:a0p (CXK X.prog X.w) (z5 X N scope cl C s H ex pn') E0:=by
 intro pins σ H' s' e s'' I h;obtain⟨_,_,_,_,_,q⟩:=h;exact q.elim
end
section
variable{X:Cx}
theorem l7{x:Str}{n:Int}{pos:Pos}(hm:∃t,X.mg x=some (.int n t))(hg:Gl X x)(hd:(x == ("__debug__":Str))=false:=by decide):PE X (.Name x pos) (tC (.int n)):=by
 obtain⟨t,h⟩:=hm;exact b3n hg h ⟨t,rfl⟩ hd
theorem b6o{o e:Expr}{to:TE}{t:TA}{apos cpos:Pos}(ho:PE X o to)(ha:PA X [e] t)(hbase:attributeBase o "append" X.env (eval o X.env)=eval o X.env:=by rfl)(hfew:((backTo cpos (starEach [e] X.env)).all (λx=>!x.1) && (backToKw cpos (keywordEach [] X.env)).all (λx=>x.1.isSome) && decide ([e].length+([]:List Keyword).length+(if ([]:List Keyword).isEmpty then 0 else 1)<30))=true:=by rfl)(hline:(apos.endLine == cpos.line)=true:=by rfl)(hs:starEach [e] X.env=(false,eval e X.env)::starEach [] X.env:=by rfl)(hplain:(backTo cpos (starEach [] X.env)).any (·.1)=false:=by rfl):
  PE X (.Call (.Attribute o "append" apos) [e] [] cpos) (tBM X.K "list" b0f to t) :=
 c1k PySem.F.plainAttrs_list PySem.F.slot_list_append PySem.F.type_list_append (λpins s σ H x xs v us Q I rx rs q=>b2s pins s σ H x xs v us Q I rx rs q) ho ha hbase hfew hline hs hplain
theorem b7o(hc:X.calm=true):a6n X (.builtin "all") (λxs H Q=>∃(p:Addr)(bs:List Bool),xs=[.ref p]/\SqL X.K H p (bs.map V.bl)/\Q (.bl (bs.all id)) H):=by
 intro pins s σ H xs us Q I r h;obtain⟨p,bs,rfl,hq,q⟩:=h;obtain⟨u,rfl,rx⟩:=r.one;cases rx;obtain⟨its,ri,pl,hz⟩:=I.list hq;have hl:=pl.isList;have hlt:p<s.heap.objs.size:=by obtain⟨_,e,_⟩:=hl;exact Heap.lt_size e
 have hn:its.toArray.size=bs.length:=by have:=ri.length;simpa using this.symm
 have wl:=Walks.list (prog:=X.prog) (w:=X.w) (A:=X.A.in1) (I.ok.hd hc) s.heap.objs.size p (Nat.ne_of_lt hlt) its.toArray;refine call_all_walk (wpAny_pyIter_list hl ⟨_,_,_,_,_,_,(λi=>(bs[i]?).getD true),rfl,wl,⟨⟨_,Heap.get?_push_size _ rfl,rfl,rfl⟩,hl.push _⟩,?_,?_⟩)
 ·intro i v s' Q' E' hP hQ
  have hP:its.toArray[i]?=some v:=hP;have hP:its[i]?=some v:=by simpa using hP
  have hi:i<(bs.map V.bl).length:=by
   have:=(List.getElem?_eq_some_iff.mp hP).1;rw[ri.length];exact this
  obtain⟨u,e,q'⟩:=ri.get (List.getElem?_eq_getElem hi);rw[hP] at e;cases e;have hi':i<bs.length:=by simpa using hi
  have e2:(bs.map V.bl)[i]=V.bl bs[i]:=List.getElem_map _;rw[e2] at q';cases (show v=Value.bool bs[i] from q');simp only[List.getElem?_eq_getElem hi',Option.getD_some] at hQ;exact wpAny_truthy_bool hQ
 ·intro h' tk hk
  have e:((List.range its.toArray.size).all λi=>(bs[i]?).getD true)=bs.all id:=by rw[hn];exact LSm.range_all bs
  rw[e];exact⟨.bl _,H,I.kept (t':=tk) (LSm.kept_iter hk),rfl,q⟩
def c4q(_ j:Int):Prop:=0<j/\j.natAbs.log2<9000
theorem a5s:OpR X (binaryOp .FloorDiv) (rI c4q λi j=>.int (i / j)):=opI λi j _ _ _ _ _ hc q=>by
 have e:i / j=i.fdiv j:=(Int.fdiv_eq_ediv_of_nonneg i (Int.le_of_lt hc.1)).symm;rw[e] at q;exact floordiv_int (by have:=hc.1;lia) q (.inl (PyProof.noPylong_of_log2 hc.2))
theorem j5{K:Frag}(h:X.K=K:=by rfl):IxR X (c3l K):=h ▸ b9w
theorem a8g{K:Frag}(h:X.K=K:=by rfl):IxR X (c3k K):=h ▸ c1w
theorem a7x{K:Frag}(h:X.K=K:=by rfl):OpR X (compareOp .In) (rIn K false):=h ▸ b6p
theorem a7w{K:Frag}(h:X.K=K:=by rfl):OpR X (compareOp .NotIn) (rIn K true):=h ▸ b2a
def c5a(K:Frag)(n:Nat):R2:=λx y H Q=>∃p q b,x=.ref p/\y=.ref q/\EqD K H (n+1) x y b/\Q (.bl b) H
def c4z(K:Frag)(n:Nat):R2:=λx y H Q=>∃p q b,x=.ref p/\y=.ref q/\EqD K H (n+1) x y b/\Q (.bl (!b)) H
theorem c1o{K:Frag}{n:Nat}(hu:X.A.units+(n+1)<cLine)(h:X.K=K:=by rfl):OpR X (compareOp .Eq) (c5a K n):=h ▸ c1p hu
theorem a5q{K:Frag}{n:Nat}(hu:X.A.units+(n+1)<cLine)(h:X.K=K:=by rfl):OpR X (compareOp .NotEq) (c4z K n):=h ▸ c1m hu
def c3j(K:Frag):List V->Hp->VK->Prop:=λxs H Q=>∃p ys,xs=[.ref p]/\(SqL K H p ys\/SqT K H p ys)/\Q (.int ys.length) H
def b3k(K:Frag):List V->Hp->VK->Prop:=λxs H Q=>∃p ys,xs=[.ref p]/\(SqL K H p ys\/SqT K H p ys)/\∀l,H l=none->Q (.ref l) (upd H l (.lst ys))
def c5l(K:Frag):List V->Hp->VK->Prop:=λxs H Q=>∃(p:Addr)(bs:List Bool),xs=[.ref p]/\SqL K H p (bs.map V.bl)/\Q (.bl (bs.all id)) H
theorem i6{K:Frag}(h:X.K=K:=by rfl):a6n X (.builtin "len") (c3j K):=h ▸ b3c
theorem m4{K:Frag}(h:X.K=K:=by rfl):a6n X (.type "list") (b3k K):=h ▸ b3b
theorem b7n{K:Frag}(hc:X.calm=true)(h:X.K=K:=by rfl):a6n X (.builtin "all") (c5l K):=h ▸ b7o hc
theorem a5p{K:Frag}{tg l:Expr}{tl:TE}(hl:PE X l tl)(h:X.K=K:=by rfl):PI X tg l (b9x K tl):=h ▸ b9o hl
theorem a9i{K:Frag}{o e:Expr}{to:TE}{t:TA}{apos cpos:Pos}(ho:PE X o to)(ha:PA X [e] t)(hK:X.K=K:=by rfl)(hbase:attributeBase o "append" X.env (eval o X.env)=eval o X.env:=by rfl)(hfew:((backTo cpos (starEach [e] X.env)).all (λx=>!x.1) && (backToKw cpos (keywordEach [] X.env)).all (λx=>x.1.isSome) && decide ([e].length+([]:List Keyword).length+(if ([]:List Keyword).isEmpty then 0 else 1)<30))=true:=by rfl)(hline:(apos.endLine == cpos.line)=true:=by rfl)(hs:starEach [e] X.env=(false,eval e X.env)::starEach [] X.env:=by rfl)(hplain:(backTo cpos (starEach [] X.env)).any (·.1)=false:=by rfl):
  PE X (.Call (.Attribute o "append" apos) [e] [] cpos) (tBM K "list" b0f to t):=hK ▸ b6o ho ha hbase hfew hline hs hplain
theorem a1s{N:List Str}{scope:Scope}{nt:Nat}(clos:closureFor scope X.env=pure [])(kind:scope.kind=.function)(cell:∀y∈scope.names,y.2≠.cell)(names:∀y∈scope.names,y.2=.local->scope.names.lookup y.1=some .local)(has:((relabel scope X.env).names.all λy=>!(y.2 == .cell || y.2 == .free) || (([]:List (Str×Addr)).lookup y.1).isSome)=true)(len:N.length=nt):CompOk X N scope [] nt [] :=
 ⟨clos,kind,cell,names,λp hp=>(nomatch hp),has,len,λj i h=>by simp at h⟩
end
theorem huN{k:Nat}{A:Around}(hr:Room k A)(n:Nat)(h:n<=100:=by decide):A.units+n<cLine:=by
 have:=hr.un;lia
end L2
namespace L2
open PySem PySem.Spec PyProof.Rows
section
variable{X:Cx}{pins:List (Addr×Obj)}{σ:St}{H:Hp}{s:Shared}{N:List Str}{scope:Scope}{cl:List (Str×Addr)}{nt:Nat}{fr:List Nat}
theorem b3l{elt iter tg:Expr}{ifs:List Expr}{pos py spos:Pos}{y:Str}{ix:Nat}{wi:TI}{g:TG}{te:TE}{tt:TT}(hc:X.calm=true)(k:CompOk X N scope cl nt fr)(hi:PI X tg iter wi)(gk:a9p nt g)(hg:∀C s H ex pn',PG (z5 X N scope cl C s H ex pn') tg g)(ht:∀C s H ex pn',PTs (z5 X N scope cl C s H ex pn') ifs tt)(he:∀C s H ex pn',PE (z5 X N scope cl C s H ex pn') elt te)(hN:X.N.Nodup)(hi2:X.N[ix]?=some y)(hy:X.env.scope.names.lookup y=some .local)(hsw:swapsWith (.ListComp elt [⟨tg,iter,ifs,0⟩] scope pos) (some (.Name y py)) spos.line X.env=pure true)(hs:∀x,foldedSetIterable iter X.env x=pure x):
  PS X (.Assign [.Name y py] (.ListComp elt [⟨tg,iter,ifs,0⟩] scope pos) spos) (c0x (b3h wi nt fr g tt te) (a2c ix)):=by
 intro pins s σ H DD I h;rw[exec_Assign_Name_used _ _ _ _ hsw];refine wpAny_bind (wpAny_standAt (wpAny_bind ?_));show wpAny _ X.A (do let _ <- comprehension (.ListComp elt [⟨tg,iter,ifs,0⟩] scope pos) scope X.env _ (newList []) false (eval iter X.env) (some (assign (.Name y py) X.env))) _ _ s
 refine wpAny_bind (wpAny_mono (b3a (PQ:=λ_ s'=>SP X pins DD .next s') hc k hi gk hg ht he hs I h λ{H3 s3 C D fp H6 s7} I3 f3 hC3 I7 qn=>?_) (λ_ s' hq=>wpAny_pure (wpAny_pure hq)) λ_ _ e=>e);obtain⟨m7,hn7,_⟩:=id I7.loc;have I7x:Inv X pins σ H6 s7:=I3.blockEnd (h'':=s7.heap) f3 I7 hC3 (.refl ..);show wpAny _ X.A (assign (.Name y py) X.env (.ref D)) _ _ _;refine wpAny_assign_Name (b1i (v:=.ref D) I7x hN hi2 (Or.inl hy) rfl (λs8 I8 z0_=>?_) (Or.inr hy));obtain⟨a8,sb8,or8⟩:=z0_;have no:∀{a:Addr},a<s3.heap.objs.size->a≠C:=λh z=>absurd (Nat.lt_of_lt_of_le (z ▸ h) hC3) (Nat.lt_irrefl _);have ne8:C≠a8:=λz=>by
  rcases or8 with q|q
  ·exact no I3.lt (q.symm.trans z.symm)
  ·obtain⟨v8,q8⟩:=I3.cell _ _ q
   exact no q8.lt z.symm
 refine⟨m7,hn7.sameBut sb8 ne8,λh9 hs9=>⟨_,H6,?_,qn⟩⟩;refine I8.turned (it:=C) (t':=s8.toks) (λb o hb e=>(hs9.2 b hb).trans e) I7.free (Nat.ne_of_gt (Nat.lt_of_lt_of_le I3.lt hC3)) (.inr (Nat.le_trans I3.sz hC3)) (λx c e z=>?_) (λp hp z=>no (Heap.lt_size (I3.pin p hp).1) z);obtain⟨v8,q8⟩:=I3.cell x c e;exact no q8.lt z
theorem a6f{elt iter tg:Expr}{pos py spos:Pos}{y:Str}{ix:Nat}{wi:TI}{g:TG}{te:TE}(hc:X.calm=true)(k:CompOk X N scope cl nt fr)(hi:PI X tg iter wi)(gk:a9p nt g)(hg:∀C s H ex pn',PG (z5 X N scope cl C s H ex pn') tg g)(he:∀C s H ex pn',PE (z5 X N scope cl C s H ex pn') elt te)(hN:X.N.Nodup)(hi2:X.N[ix]?=some y)(hy:X.env.scope.names.lookup y=some .local)(hsw:swapsWith (.ListComp elt [⟨tg,iter,[],0⟩] scope pos) (some (.Name y py)) spos.line X.env=pure true:=by rfl)(hs:∀x,foldedSetIterable iter X.env x=pure x:=by intro _;rfl):
  PS X (.Assign [.Name y py] (.ListComp elt [⟨tg,iter,[],0⟩] scope pos) spos) (c0x (b9h wi nt fr g te) (a2c ix)):=b3l hc k hi gk hg (λ_ _ _ _ _=>b6d) he hN hi2 hy hsw hs
end
section
variable{X:Cx}
end
theorem a0a{n:Nat}{nt:Nat}{fr:List Nat}{g:TG}{te:TE}{σ:St}{H:Hp}{Q:Addr->Hp->Prop}(hz:n<sizeLine)(Pv:Addr->Nat->List V->Hp->Prop)(h0:∀D,H D=none->Pv D 0 [] (upd H D (.lst [])))(hk:∀D i acc H',Pv D i acc H'->H' D=some (.lst acc)/\acc.length=i)(hs:∀D i acc H',H D=none->i<n->Pv D i acc H'->g (.int (0+(i:Int))) (m6 nt fr σ) H' λσ2 H2=>te σ2 H2 λy H3=>H3 D=some (.lst acc)/\Pv D (i+1) (acc++[y]) (upd H3 D (.lst (acc++[y]))))(hd:∀D acc H',H D=none->Pv D n acc H'->Q D H'):
  ∀D,H D=none->∃(m:Nat)(W:Nat->List V->Hp->Prop),W 0 [] (upd H D (.lst []))/\∀i acc H',W i acc H'->H' D=some (.lst acc)/\acc.length<sizeLine /\
   (((Itr 0 n).stop i H'/\Q D H')\/(i<m/\(Itr 0 n).go i H'/\∀x H2,(Itr 0 n).yld i H' x H2->g x (m6 nt fr σ) H2 λσ2 H3=>te σ2 H3 λy H4=>H4 D=some (.lst acc)/\W (i+1) (acc++[y]) (upd H4 D (.lst (acc++[y]))))):=by
 intro D hD;refine⟨n,λi acc H'=>i<=n/\Pv D i acc H',⟨Nat.zero_le _,h0 D hD⟩,?_⟩;rintro i acc H' ⟨hi,p⟩;obtain⟨k1,k2⟩:=hk D i acc H' p;refine⟨k1,by lia,?_⟩
 by_cases h:i<n
 ·refine .inr ⟨h,h,?_⟩
  rintro x H2 ⟨rfl,rfl⟩;have key:=hs D i acc _ hD h p;have e:(λ(σ2:St) (H2:Hp)=>te σ2 H2 λy H3=>H3 D=some (.lst acc)/\Pv D (i+1) (acc++[y]) (upd H3 D (.lst (acc++[y]))))=(λ(σ2:St) (H3:Hp)=>te σ2 H3 λy H4=>H4 D=some (.lst acc)/\i+1<=n/\Pv D (i+1) (acc++[y]) (upd H4 D (.lst (acc++[y])))):=by
   funext σ2 H3;have:(λ(y:V) (H3:Hp)=>H3 D=some (.lst acc)/\Pv D (i+1) (acc++[y]) (upd H3 D (.lst (acc++[y]))))=(λ(y:V) (H4:Hp)=>H4 D=some (.lst acc)/\i+1<=n/\Pv D (i+1) (acc++[y]) (upd H4 D (.lst (acc++[y])))):=by
    funext y H4;have h1:i+1<=n:=h;simp[h1]
   rw[this]
  rw[e] at key;exact key
 ·have e:i=n:=by lia
  subst e;exact .inl ⟨Nat.le_refl _,hd D acc H' hD p⟩
theorem a5y{X:Cx}{N:List Str}{scope:Scope}{x:Str}{c:Addr}{nt i:Nat}(clos:closureFor scope X.env=pure [(x,c)])(kind:scope.kind=.function)(cell:∀y∈scope.names,y.2≠.cell)(names:∀y∈scope.names,y.2=.local->scope.names.lookup y.1=some .local)(sub:X.env.cells.lookup x=some c)(has:((relabel scope X.env).names.all λy=>!(y.2 == .cell || y.2 == .free) || ([(x,c)].lookup y.1).isSome)=true)(len:N.length=nt+1)(hN:N[nt]?=some x)(hX:X.N[i]?=some x)(hk:X.env.kindOf x=some .cell)(hr:(relabel scope X.env).names.lookup x=some .cell):CompOk X N scope [(x,c)] nt [i] :=
 ⟨clos,kind,cell,names,λp hp=>(by
  rw[List.mem_singleton] at hp;subst hp;exact sub),has,len,λj i' h=>(by
  cases j with
  | zero=>cases h;exact⟨x,hN,hX,.inl hk,.inl hr⟩
  | succ j=>cases h)⟩
end L2
namespace L2
open PySem PySem.Spec PyProof.Rows
section
variable{X:Cx}{pins:List (Addr×Obj)}{σ:St}{H:Hp}{s:Shared}{h':Heap}
end
section
variable{X:Cx}
theorem a1b{K:Frag}{es:List Expr}{k:Nat}{t:TGs}{n:Nat}{pos:Pos}(hc:X.calm=true)(h:PGs X es t)(hK:X.K=K:=by rfl)(hn:(assignEach es X.env).length=n:=by rfl)(hst:(assignEach es X.env).findIdx? (·.1)=none:=by rfl):PG X (.Tuple es k pos) (c2y K n t):=hK ▸ c1f hc h hn hst
theorem b4s{N:List Str}{scope:Scope}{x y:Str}{c d:Addr}{nt i j:Nat}(clos:closureFor scope X.env=pure [(x,c),(y,d)])(kind:scope.kind=.function)(cell:∀y∈scope.names,y.2≠.cell)(names:∀y∈scope.names,y.2=.local->scope.names.lookup y.1=some .local)(sub:X.env.cells.lookup x=some c)(sub2:X.env.cells.lookup y=some d)(has:((relabel scope X.env).names.all λz=>!(z.2 == .cell || z.2 == .free) || ([(x,c),(y,d)].lookup z.1).isSome)=true)(len:N.length=nt+2)(hN:N[nt]?=some x)(hN2:N[nt+1]?=some y)(hX:X.N[i]?=some x)(hX2:X.N[j]?=some y)(hk:X.env.kindOf x=some .cell)(hk2:X.env.kindOf y=some .cell)(hr:(relabel scope X.env).names.lookup x=some .cell)(hr2:(relabel scope X.env).names.lookup y=some .cell):CompOk X N scope [(x,c),(y,d)] nt [i,j] :=
 ⟨clos,kind,cell,names,λp hp=>(by
  simp only[List.mem_cons,List.not_mem_nil,or_false] at hp;rcases hp with rfl|rfl
  ·exact sub
  ·exact sub2),has,len,λm i' h=>(by
  match m,h with
  | 0,h=>cases h;exact⟨x,hN,hX,.inl hk,.inl hr⟩
  | 1,h=>cases h;exact⟨y,hN2,hX2,.inl hk2,.inl hr2⟩
  | m+2,h=>cases h)⟩
end
end L2
namespace L2
open PySem PySem.Spec PyProof.Rows
section
variable{X:Cx}{k j:Nat}{ps:List Str}{sp:Sp}{E:XK}{x:Str}{p pos:Pos}{e:Expr}{es:List Expr}{t:TA}
end
structure ExM(mg:Str->Option Value)(x:Str)(C:Addr):Prop where
 m:mg x=some (.ref C)
end L2
namespace L2
open PySem PySem.Spec PyProof.Rows
section
variable{X:Cx}{pins:List (Addr×Obj)}{σ:St}{H:Hp}{s:Shared}{N:List Str}{scope:Scope}{cl:List (Str×Addr)}{nt:Nat}{fr:List Nat}
end
theorem b1y{X:Cx}{K:Frag}{o:Expr}{to:TE}{apos cpos:Pos}(ho:PE X o to)(hK:X.K=K:=by rfl)(hbase:attributeBase o "clear" X.env (eval o X.env)=eval o X.env:=by rfl)(hline:(apos.endLine == cpos.line)=true:=by rfl):
  PE X (.Call (.Attribute o "clear" apos) [] [] cpos) (c3g K "list" b6a to) :=
 hK ▸ c1j PySem.F.plainAttrs_list PySem.F.slot_list_clear PySem.F.type_list_clear (λpins s σ H x xs v us Q I rx rs q=>b8c pins s σ H x xs v us Q I rx rs q) ho hbase hline
end L2
namespace L2
open PySem PySem.Spec PyProof.Rows SeqAt
def c0j(s:Stmt):List Stmt:=match s with
 | .ClassDef _ _ _ b ..=>b
 | _=>[]
def k6(s:Stmt)(j:Nat):Stmt:=(c0j s).getD j (.Pass ⟨0,0,0,0⟩)
structure MethT(P:Program)(w:World)(K:Frag)(mg:Str->Option Value)(base:Heap)(C:Addr)(m:Str)(k:Nat)(ps:List Str)(sp:Sp):Prop where
 ex:∃(f:Addr)(fd:FuncData),FnOk P w K mg base (CXK P w) k f fd ps sp/\c2u K C m f/\Binds K fd ps []
structure DefM(K:Frag)(C:Addr)(m qual:Str)(st:Stmt)(ps:List Str):Prop where
 ex:∃(f:Addr)(fd:FuncData),Fun K m qual st f fd/\c2u K C m f/\Binds K fd ps []
theorem DefM.fn{P:Program}{w:World}{K:Frag}{mg:Str->Option Value}{base:Heap}{C:Addr}{m qual:Str}{st:Stmt}{N ps:List Str}{k:Nat}{sp:Sp}(D:DefM K C m qual st ps)(S:d8 N ps (d5 st))(len:∀vs H Q E,sp vs H Q E->vs.length=ps.length)(hbody:∀(f:Addr) (cdv:Value) (A:Around) (outer:List Env) (s:Shared) (H:Hp) (vs:List V) (Q:VK) (E:XK),Room k (A.deeper (envOfC qual (d5 st) s.heap.objs.size f cdv))->sp vs H Q E ->
   ∃t,PSs (b4r (CXK P w) P w K mg base N qual (d5 st) f cdv A outer s H E) (o4 st) t/\t { nx:=λ_ H'=>Q .non H',rt:=Q } (start N vs) H):MethT P w K mg base C m (k+1) ps sp:=by
 obtain⟨f,fd,F,hm,hb⟩:=D.ex;exact⟨f,fd,F.okX S len (hbody f),hm,hb⟩
theorem DefM.mk'{K:Frag}{C:Addr}{m qual:Str}{st:Stmt}{ps:List Str}{f:Addr}{oc:Value}{od an:Option Addr}{osl:Array (Option Value)}{kV doc pm cdv ct:Value}(a:findIn K (.ref C) m=some (some (.ref f)))(i:isFn K (.ref f)=true)(l:K.lookup f=some ⟨oc,od,.func (PySem.W.fnOf m qual (v4 st) (o4 st) (d5 st) .none kV doc pm an cdv ct),osl⟩)(c:codeIn K cdv qual=true)(k:keepIn K (.ref f)=true)(hb:∀(kV doc pm:Value) (an:Option Addr) (cdv ct:Value) (us:List Value),us.length=ps.length->bindArgs (PySem.W.fnOf m qual (v4 st) (o4 st) (d5 st) .none kV doc pm an cdv ct) ⟨us,[]⟩=pure (ps.zip us)):DefM K C m qual st ps :=
 have F:=b7d (st:=st) (x:=m) (qual:=qual) l c k
 ⟨_,_,F,⟨a,i,k⟩,F.binds hb⟩
structure b5n(P:Program)(w:World)(K:Frag)(mg:Str->Option Value)(base:Heap)(x:Str)(C:Addr)(k:Nat)(ps:List Str)(sp:Sp):Prop where
 ex:∃(f:Addr)(fd:FuncData),FnOk P w K mg base (CXK P w) k f fd ps sp/\Mk K C f/\mg x=some (.ref C)/\Binds K fd ps []
theorem MethT.make{P:Program}{w:World}{K:Frag}{mg:Str->Option Value}{base:Heap}{x:Str}{C:Addr}{k:Nat}{ps:List Str}{sp:Sp}(M:MethT P w K mg base C "__init__" k ps sp)(mk:makesIn K C=true)(kp:keepIn K (.ref C)=true)(hm:mg x=some (.ref C)):
  b5n P w K mg base x C k ps sp:=by
 obtain⟨f,fd,F,hM,hb⟩:=M.ex;exact⟨f,fd,F,⟨mk,hM.at_,hM.fn,kp⟩,hm,hb⟩
def tMt(C:Addr)(m:Str)(sp:Sp)(E:XK)(ta:TE)(t:TA):TE:=λσ H Q=>ta σ H λx H1=>∃a dx fs,x=.ref a/\H1 a=some (.ins C dx fs)/\fs.lookup m=none/\t σ H1 λvs H2=>sp (x::vs) H2 Q E
def tMk(C:Addr)(sp:Sp)(E:XK)(t:TA):TE:=λσ H Q=>t σ H λvs H1=>∀x dx,H1 x=none->H1 dx=none->dx≠x ->
 sp (.ref x::vs) (upd (upd H1 dx (.own x)) x (.ins C dx [])) (λv H2=>v=.non/\Q (.ref x) H2) E
section
variable{X:Cx}{k j:Nat}{C:Addr}{ps:List Str}{sp:Sp}{E:XK}{J:St->XK}{x m:Str}{p pos apos:Pos}{e o:Expr}{es:List Expr}{ta:TE}{t:TA}{pl:Sem Bool}
theorem b3m(he:PE X o ta)(c:Cls X.K C)(G:MethT X.prog X.w X.K X.mg X.base C m k ps sp)(hr:Room j X.A)(hj:k<=j)(hx:a0p (CXK X.prog X.w) X E)(ha:PA X (e::es) t)(hst:starEach (e::es) X.env=(false,eval e X.env)::starEach es X.env:=by rfl)(hpl:(backTo pos (starEach es X.env)).any (·.1)=false:=by rfl)(ht:eval (.Call (.Attribute o m apos) (e::es) [] pos) X.env=(do
   let ov <- eval o X.env
   standAt apos.atName
   let (f,first) <- holding [ov] (getMethod ov m pl)
   callWith pos f first (backTo pos (starEach (e::es) X.env)) (backToKw pos (keywordEach [] X.env))):=by rfl):
  PE X (.Call (.Attribute o m apos) (e::es) [] pos) (tMt C m sp E ta t):=by
 obtain⟨f,fd,F,hm,hb⟩:=G.ex;intro pins s σ H Q I h;refine b9p (ds:=[]) (dvs:=[]) he c hm F (hr.mono hj) hb .nil hx ha hst hpl ht pins s σ H Q I ?_;show ta σ H λx H1=>∃a dx fs,x=.ref a/\H1 a=some (.ins C dx fs)/\fs.lookup m=none/\t σ H1 λvs H2=>sp (x::(vs++[])) H2 Q E;simp only[List.append_nil];exact h
theorem a9h(he:PE X o ta)(c:Cls X.K C)(G:MethT X.prog X.w X.K X.mg X.base C m k ps sp)(hr:Room j X.A)(hj:k<=j)(hx:a0p (CXK X.prog X.w) X E)(ht:eval (.Call (.Attribute o m apos) [] [] pos) X.env=(do
   let ov <- eval o X.env
   standAt apos.atName
   let (f,first) <- holding [ov] (getMethod ov m pl)
   callWith pos f first (backTo pos (starEach [] X.env)) (backToKw pos (keywordEach [] X.env))):=by rfl):
  PE X (.Call (.Attribute o m apos) [] [] pos) (tMt C m sp E ta c0o):=by
 obtain⟨f,fd,F,hm,hb⟩:=G.ex;exact b7y (ds:=[]) (dvs:=[]) he c hm F (hr.mono hj) hb .nil hx ht
theorem b7x(G:b5n X.prog X.w X.K X.mg X.base x C k ps sp)(hr:Room j X.A)(hj:k+1<=j)(hg:Gl X x)(hx:a0p (CXK X.prog X.w) X E)(ha:PA X (e::es) t)(hdb:(x == ("__debug__":Str))=false:=by decide)(he:starEach (e::es) X.env=(false,eval e X.env)::starEach es X.env:=by rfl)(hpl:(backTo pos (starEach es X.env)).any (·.1)=false:=by rfl):PE X (.Call (.Name x p) (e::es) [] pos) (tMk C sp E t):=by
 obtain⟨f,fd,F,M,hm,hb⟩:=G.ex;intro pins s σ H Q I h;refine b9q (ds:=[]) (dvs:=[]) M F (hr.mono hj) hg hm hb .nil hx ha hdb he hpl pins s σ H Q I ?_;show t σ H λvs H1=>∀x dx,H1 x=none->H1 dx=none->dx≠x->sp (.ref x::(vs++[])) (upd (upd H1 dx (.own x)) x (.ins C dx [])) (λv H2=>v=.non/\Q (.ref x) H2) E;simp only[List.append_nil];exact h
end
section
variable{X:Cx}{o e value:Expr}{f:Str}{pos pos' tpos:Pos}{ta tv:TE}
theorem g0{K:Frag}(he:PE X e ta)(hK:X.K=K:=by rfl)(hb:attributeBase e f X.env (eval e X.env)=eval e X.env:=by rfl):PE X (.Attribute e f pos) (c3e K ta f):=hK ▸ c1i he hb
theorem j2{K:Frag}(ha:PE X o ta)(hv:PE X value tv)(hK:X.K=K:=by rfl)(hs:swapsWith value (some (.Attribute o f pos')) pos.line X.env=pure false:=by rfl):PS X (.Assign [.Attribute o f pos'] value pos) (c3h K ta tv f):=hK ▸ c1c ha hv hs
end
def KTup(K:Frag)(p:Addr)(xs:List V):Prop:=∃(its:Array Value)(n:Nat)(sl:Array (Option Value)),K.lookup p=some ⟨.type "tuple",none,.seq its n,sl⟩/\its.size<=sizeLine/\Vals xs its.toList
theorem KTup.sq{K:Frag}{p:Addr}{xs:List V}{H:Hp}(h:KTup K p xs):SqT K H p xs:=by obtain⟨its,n,sl,a,b,c⟩:=h;exact .inr ⟨_,its,n,a,rfl,rfl,b,c⟩
theorem KTup.ty{K:Frag}{p:Addr}{xs:List V}{H:Hp}(h:KTup K p xs):tyV K "tuple" (.ref p) H:=by obtain⟨_,_,_,a,_,_⟩:=h;exact .inr (.inl ⟨rfl,_,a,rfl,rfl⟩)
theorem a0l{X:Cx}{x:Str}{a:Addr}{pos:Pos}(hm:X.mg x=some (.ref a))(hg:Gl X x)(hd:(x == ("__debug__":Str))=false:=by decide):PE X (.Name x pos) (tC (.ref a)):=b3n hg hm rfl hd
theorem b1h(l:Addr)(a b:Value)(n:Nat)(dd:Option Addr)(sl:Array (Option Value))(x:Value)(e:Value->Bool)(j:Nat)(hj:j=if e a then 0 else 1)(hit:e a=true\/e b=true):
  Meets (Builtin.«tuple.index» ⟨[.ref l,x],[]⟩)
   (λA R s=>s.heap.get? l=some { cls:=.type "tuple",dict:=dd,data:=.seq #[a,b] n,slots:=sl }/\(∀y,y ∈ #[a,b]->EqAt A.in1 s y x (e y))/\R (.ok (.ret (.int j s.toks))) { s with toks:=s.toks+1 }):=by
 intro prog w A R s h;obtain⟨hp,g,d,tk,os⟩:=s;obtain⟨hl,he,h⟩:=h;unfold Builtin.«tuple.index»;simp only[Std.Legacy.Range.forIn_eq_forIn_range']
 wp_walk using wpAny_loadPart' hl
 have e0:[:min #[a,b].size #[a,b].size].size=2:=by simp[Std.Legacy.Range.size]
 generalize hL:[:min #[a,b].size #[a,b].size].size=N at e0 ⊢;subst e0;change wpAny (model prog w) A.in1 (List.forIn'.loop [0,1] _ [0,1] (none,()) _) _ _ _;change wpAny (model prog w) A.in1 ((eqBool a x >>= _) >>= _) _ _ _;refine wpAny_bind ?_;refine wpAny_bind (he a (by simp) prog w _ _ ?_)
 cases ea:e a with
 | true=>
  rw[ea] at hj;subst hj
  wp_walk
  exact h
 | false=>
  rw[ea] at hj;subst hj;refine wpAny_pure ?_;change wpAny (model prog w) A.in1 ((eqBool b x >>= _) >>= _) _ _ _;refine wpAny_bind ?_;refine wpAny_bind (he b (by simp) prog w _ _ ?_)
  rw[hit.resolve_left (by rw[ea];exact Bool.false_ne_true)]
  wp_walk
  exact h
def b5z(K:Frag):V->List V->Hp->VK->Prop:=λx vs H Q=>∃p y z1 z2,x=.ref p/\vs=[y]/\KTup K p [z1,z2]/\a1f z1=true/\a1f z2=true/\a1f y=true/\(eqV z1 y=true\/eqV z2 y=true)/\Q (.int (if eqV z1 y then 0 else 1)) H
section
variable{X:Cx}
theorem b6s:MtM X "tuple.index" (b5z X.K):=by
 intro pins s σ H x vs v us Q I rx rv h;obtain⟨p,y,z1,z2,rfl,rfl,⟨its,n,sl,lk,hz,r⟩,f1,f2,fy,hit,q⟩:=h;cases rx;obtain⟨u,rfl,ru⟩:=rv.one;obtain⟨u1,u2,eu,r1,r2⟩:=r.two;have hi:its=#[u1,u2]:=by apply Array.toList_inj.mp;rw[eu]
 subst hi;have e:=I.kIn _ _ lk;have fx:([z1,z2]:List V).all a1f=true:=by simp[f1,f2]
 have h1:eqU y u1=eqV z1 y:=b4p r1 f1;have h2:eqU y u2=eqV z2 y:=b4p r2 f2;refine call_meets F.slot_tuple_index ⟨_,e,rfl⟩ F.entry_tuple_index (F.args_tuple_index_2 _ _) (b1h p u1 u2 n none sl u (eqU y) (if eqU y u1 then 0 else 1) rfl (by rw[h1,h2];exact hit)) ⟨e,λw hw=>a3n ru fy r fx w (by simpa using hw),?_⟩
 rw[h1];refine⟨.int (if eqV z1 y then 0 else 1),H,I.tok _,?_,q⟩;by_cases c:eqV z1 y=true
 ·rw[if_pos c,if_pos c];exact⟨_,rfl⟩
 ·rw[if_neg c,if_neg c];exact⟨_,rfl⟩
theorem b5a{K:Frag}{o e:Expr}{to:TE}{t:TA}{apos cpos:Pos}(ho:PE X o to)(ha:PA X [e] t)(hK:X.K=K:=by rfl)(hbase:attributeBase o "index" X.env (eval o X.env)=eval o X.env:=by rfl)(hfew:((backTo cpos (starEach [e] X.env)).all (λx=>!x.1) && (backToKw cpos (keywordEach [] X.env)).all (λx=>x.1.isSome) && decide ([e].length+([]:List Keyword).length+(if ([]:List Keyword).isEmpty then 0 else 1)<30))=true:=by rfl)(hline:(apos.endLine == cpos.line)=true:=by rfl)(hs:starEach [e] X.env=(false,eval e X.env)::starEach [] X.env:=by rfl)(hplain:(backTo cpos (starEach [] X.env)).any (·.1)=false:=by rfl):
  PE X (.Call (.Attribute o "index" apos) [e] [] cpos) (tBM K "tuple" (b5z K) to t) :=
 hK ▸ c1k PySem.F.plainAttrs_tuple PySem.F.slot_tuple_index PySem.F.type_tuple_index (λpins s σ H x xs v us Q I rx rs q=>b6s pins s σ H x xs v us Q I rx rs q) ho ha hbase hfew hline hs hplain
end
end L2
namespace L2
open PySem PySem.Spec PyProof.Rows
section
variable{K:Frag}{σ:St}{H:Hp}{Q:VK}{i:Nat}{v x y:V}{r:R2}{ta tb:TE}{nx bk ct:St->Hp->Prop}{rt:VK}{E:XK}{C:Addr}{m:Str}{sp:Sp}{t:TA}{J:St->XK}
theorem c3s(h:σ[i]?=some (some v))(q:Q v H):c2v i σ H Q:=⟨v,h,q⟩
theorem g_c(q:Q v H):tC v σ H Q:=q
theorem c5q(q:ta σ H λx H1=>tb σ H1 λy H2=>r x y H2 Q):tOp r ta tb σ H Q:=q
theorem c5z{g:Int->Int->V}{a b:Int}(q:Q (g a b) H):rI0 g (.int a) (.int b) H Q:=⟨a,b,rfl,rfl,q⟩
theorem g_I{c:Int->Int->Prop}{g:Int->Int->V}{a b:Int}(h:c a b)(q:Q (g a b) H):rI c g (.int a) (.int b) H Q:=⟨a,b,rfl,rfl,h,q⟩
theorem c5v(h:c2w x y=true)(q:Q (.bl (decide (x=y))) H):rEq x y H Q:=⟨h,q⟩
theorem c5f(h:c2w x y=true)(q:Q (.bl (!decide (x=y))) H):rNe x y H Q:=⟨h,q⟩
theorem c4h{n:Nat}{p q:Addr}{b:Bool}(h:EqD K H (n+1) (.ref p) (.ref q) b)(z:Q (.bl b) H):c5a K n (.ref p) (.ref q) H Q:=⟨p,q,b,rfl,rfl,h,z⟩
theorem b1a{n:Nat}{p q:Addr}{b:Bool}(h:EqD K H (n+1) (.ref p) (.ref q) b)(z:Q (.bl (!b)) H):c4z K n (.ref p) (.ref q) H Q:=⟨p,q,b,rfl,rfl,h,z⟩
theorem a4u{p:Addr}{xs:List V}{j:Int}(h:H p=some (.lst xs))(e:atI xs j=some v)(q:Q v H):c3l K (.ref p) (.int j) H Q:=⟨p,xs,j,v,rfl,rfl,SqL.of h,e,q⟩
theorem b7c{p:Addr}{xs:List V}{j:Int}(h:H p=some (.tup xs))(e:atI xs j=some v)(q:Q v H):c3k K (.ref p) (.int j) H Q:=⟨p,xs,j,v,rfl,rfl,SqT.of h,e,q⟩
theorem c4b{p:Addr}{xs:List V}(h:H p=some (.lst xs))(q:Q (.int xs.length) H):c3j K [.ref p] H Q:=⟨p,xs,rfl,.inl (SqL.of h),q⟩
theorem c2l{p:Addr}{xs:List V}(h:H p=some (.lst xs))(q:∀l,H l=none->Q (.ref l) (upd H l (.lst xs))):b3k K [.ref p] H Q:=⟨p,xs,rfl,.inl (SqL.of h),q⟩
theorem c5w{r:List V->Hp->VK->Prop}(q:t σ H λvs H1=>r vs H1 Q):tCB r t σ H Q:=q
theorem c3y{Q:List V->Hp->Prop}(q:Q [] H):c0o σ H Q:=q
theorem c2q{Q:List V->Hp->Prop}(q:ta σ H λx H1=>t σ H1 λxs H2=>Q (x::xs) H2):b9g ta t σ H Q:=q
theorem c3u(q:t σ H λxs H1=>xs.length<=sizeLine/\∀p,H1 p=none->Q (.ref p) (upd H1 p (.tup xs))):c4r t σ H Q:=q
theorem c4a(q:t σ H λxs H1=>xs.length<=sizeLine/\∀p,H1 p=none->Q (.ref p) (upd H1 p (.lst xs))):c4v t σ H Q:=q
theorem c5u(q:t σ H λvs H1=>sp vs H1 Q E):tFn sp E t σ H Q:=q
theorem c4f(q:t σ H λvs H1=>sp vs H1 Q (J σ)):b5t sp J t σ H Q:=q
theorem c4g{f:Str}(q:ta σ H λx H1=>∃a C dx fs v,x=.ref a/\H1 a=some (.ins C dx fs)/\Cls K C/\NoAttr K C f/\fs.lookup f=some v/\Q v H1):c3e K ta f σ H Q:=q
theorem c2o{f:Str}{a dx:Addr}{fs:List (Str×V)}{R:V->Prop}(h:H a=some (.ins C dx fs))(c:Cls K C)(n:NoAttr K C f)(l:fs.lookup f=some v)(q:R v):
  ∃a' C dx fs v,V.ref a=.ref a'/\H a'=some (.ins C dx fs)/\Cls K C/\NoAttr K C f/\fs.lookup f=some v/\R v:=⟨a,C,dx,fs,v,rfl,h,c,n,l,q⟩
theorem c5r(q:ta σ H λx H1=>∃a dx fs,x=.ref a/\H1 a=some (.ins C dx fs)/\fs.lookup m=none/\t σ H1 λvs H2=>sp (x::vs) H2 Q E):tMt C m sp E ta t σ H Q:=q
theorem c3z{a dx:Addr}{fs:List (Str×V)}{R:Prop}(h:H a=some (.ins C dx fs))(l:fs.lookup m=none)(q:R):∃a' dx fs,V.ref a=.ref a'/\H a'=some (.ins C dx fs)/\fs.lookup m=none/\R:=⟨a,dx,fs,rfl,h,l,q⟩
theorem c5s(q:t σ H λvs H1=>∀x dx,H1 x=none->H1 dx=none->dx≠x->sp (.ref x::vs) (upd (upd H1 dx (.own x)) x (.ins C dx [])) (λv H2=>v=.non/\Q (.ref x) H2) E):tMk C sp E t σ H Q:=q
theorem c2c{Q:Bool->Hp->Prop}(q:ta σ H λx H'=>∃k,x=.bl k/\Q k H'):b9e ta σ H Q:=q
theorem c5o{Q:Bool->Hp->Prop}(q:ta σ H λx H'=>∃k,x=.bl k/\Q k H'):tB ta σ H Q:=q
theorem c5y{Q:Bool->Prop}{b:Bool}(q:Q b):∃k,V.bl b=.bl k/\Q k:=⟨b,rfl,q⟩
theorem c4k{u w:TT}{Q:Bool->Hp->Prop}(q:u σ H λc H1=>if c=true then w σ H1 Q else Q false H1):c4x u w σ H Q:=q
theorem c5p{u w:TT}{Q:Bool->Hp->Prop}(q:u σ H λc H1=>if c=true then Q true H1 else w σ H1 Q):tOr u w σ H Q:=q
theorem c3x{u:TT}{Q:Bool->Hp->Prop}(q:u σ H λc H1=>Q (!c) H1):c4u u σ H Q:=q
theorem c2s(q:ta σ H λx H1=>∃c,x=.bl c/\if c=true then tb σ H1 Q else Q (.bl false) H1):c0y ta tb σ H Q:=q
theorem c3w(q:ta σ H λx H1=>∃c,x=.bl c/\if c=true then Q (.bl true) H1 else tb σ H1 Q):c4t ta tb σ H Q:=q
theorem c4d{u:TT}(q:u σ H λc H1=>if c=true then ta σ H1 Q else tb σ H1 Q):tIf u ta tb σ H Q:=q
theorem c2i(q:nx σ H):b9f ⟨nx,rt,bk,ct⟩ σ H:=q
theorem c2p(q:ta σ H λ_ H1=>nx σ H1):c0w ta ⟨nx,rt,bk,ct⟩ σ H:=q
theorem c3v(q:ta σ H rt):c4s ta ⟨nx,rt,bk,ct⟩ σ H:=q
theorem c5t{c:TT}{s u:TS}{D:b8p}(q:c σ H λb H1=>if b=true then s D σ H1 else u D σ H1):c3d c s u D σ H:=q
theorem c4j{g:TG}(q:ta σ H λx H1=>g x σ H1 nx):c0x ta g ⟨nx,rt,bk,ct⟩ σ H:=q
theorem b7b{k:St->Hp->Prop}(q:k (σ.set i (some v)) H):a2c i v σ H k:=q
theorem c2d{f:Str}(q:tb σ H λy H1=>ta σ H1 λx H2=>∃a C dx fs,x=.ref a/\H2 a=some (.ins C dx fs)/\Cls K C/\NoAttr K C f/\fs.length<1000/\nx σ (upd H2 a (.ins C dx (b0g f y fs)))):c3h K ta tb f ⟨nx,rt,bk,ct⟩ σ H:=q
theorem c0b{f:Str}{a dx:Addr}{fs:List (Str×V)}{R:Addr->Addr->Addr->List (Str×V)->Prop}(h:H a=some (.ins C dx fs))(c:Cls K C)(n:NoAttr K C f)(l:fs.length<1000)(q:R a C dx fs):
  ∃a' C dx fs,V.ref a=.ref a'/\H a'=some (.ins C dx fs)/\Cls K C/\NoAttr K C f/\fs.length<1000/\R a' C dx fs:=⟨a,C,dx,fs,rfl,h,c,n,l,q⟩
theorem c5x{T:String}{r:V->List V->Hp->VK->Prop}(q:ta σ H λx H1=>tyV K T x H1/\t σ H1 λxs H2=>r x xs H2 Q):tBM K T r ta t σ H Q:=q
theorem c0f{p:Addr}{xs:List V}(h:H p=some (.lst xs))(l:xs.length<sizeLine)(q:Q .non (upd H p (.lst (xs++[y])))):b0f (.ref p) [y] H Q:=⟨p,xs,y,rfl,rfl,h,l,q⟩
theorem c3t{p:Addr}{xs:List V}{R:Prop}(h:H p=some (.lst xs))(q:R):tyV K "list" (.ref p) H/\R:=⟨.inl ⟨rfl,xs,SqL.of h⟩,q⟩
theorem b5k{p q:Addr}{xs ys:List V}(h:H p=some (.lst xs))(h':H q=some (.lst ys))(l:xs.length+ys.length<=sizeLine)(k:∀z,H z=none->Q (.ref z) (upd H z (.lst (xs++ys)))):c5b (.ref p) (.ref q) H Q:=⟨p,q,xs,ys,rfl,rfl,h,h',l,k⟩
end
theorem b3w{c:Prop}[Decidable c]{A B:Prop}(h1:c->A)(h2:¬ c->B):if decide c=true then A else B:=by
 by_cases h:c
 ·rw[decide_eq_true h];exact c3n (h1 h)
 ·rw[decide_eq_false h];exact c3q (h2 h)
theorem b2v{c:Prop}[Decidable c]{A B:Prop}(h1:¬ c->A)(h2:c->B):if (!decide c)=true then A else B:=by
 by_cases h:c
 ·rw[decide_eq_true h];exact c3q (h2 h)
 ·rw[decide_eq_false h];exact c3n (h1 h)
end L2
namespace L2
open PySem PySem.Spec PyProof.Rows
section
variable{K:Frag}{σ:St}{H:Hp}{ta:TE}{t:TA}
theorem c4e{wi:TI}{g:TG}{tb:TS}{D:b8p}(q:wi σ H λJ H1=>∃W:Nat->Nat->St->Hp->Prop,(∃m,W 0 m σ H1)/\∀i m σ H,W i m σ H ->
  (J.stop i H/\D.nx σ H)\/(J.go i H/\∃N:St->Hp->Prop,(∀σ' H',N σ' H'->∃m',m'<m/\W (i+1) m' σ' H')/\∀x H',J.yld i H x H'->g x σ H' λσ2 H2=>tb { D with nx:=N,ct:=N,bk:=D.nx } σ2 H2)):c4w wi g tb D σ H:=q
theorem c2h{R:It->Hp->Prop}(q:t σ H λvs H1=>∃j:Int,vs=[.int j]/\-(2 ^ 62)<=j/\j<2 ^ 62/\R (Itr 0 j.toNat) H1):c1y t σ H R:=q
theorem c2g{R:It->Hp->Prop}(q:t σ H λvs H1=>∃i j:Int,vs=[.int i,.int j]/\(-(2 ^ 62)<=i/\i<2 ^ 62/\-(2 ^ 62)<=j/\j<2 ^ 62)/\R (Itr i (j-i).toNat) H1):c1x t σ H R:=q
theorem b8x{N:Int}{R:Int->Prop}(h1:-(2 ^ 62)<=N)(h2:N<2 ^ 62)(q:R N):∃j,[V.int N]=[.int j]/\-(2 ^ 62)<=j/\j<2 ^ 62/\R j:=⟨N,rfl,h1,h2,q⟩
theorem c2j{R:It->Hp->Prop}(q:ta σ H λx H1=>∃a,x=.ref a/\(∃xs,SqL K H1 a xs)/\R (Itl K a) H1):b9x K ta σ H R:=q
theorem c2k{a:Addr}{xs:List V}{R:Addr->Prop}(h:SqL K H a xs)(q:R a):∃a',V.ref a=.ref a'/\(∃xs,SqL K H a' xs)/\R a':=⟨a,rfl,⟨xs,h⟩,q⟩
theorem c2r{wi:TI}{nt:Nat}{fr:List Nat}{g:TG}{te:TE}{Q:VK}(q:wi σ H λJ H1=>∀D,H1 D=none->∃(n:Nat) (W:Nat->List V->Hp->Prop),W 0 [] (upd H1 D (.lst [])) /\
 ∀i acc H,W i acc H->H D=some (.lst acc)/\acc.length<sizeLine /\
  ((J.stop i H/\Q (.ref D) H)\/(i<n/\J.go i H/\∀x H',J.yld i H x H'->g x (m6 nt fr σ) H' λσ2 H2=>te σ2 H2 λy H3=>H3 D=some (.lst acc)/\W (i+1) (acc++[y]) (upd H3 D (.lst (acc++[y])))))):b9h wi nt fr g te σ H Q:=q
theorem a1k{a b:TS}{nx bk ct:St->Hp->Prop}{rt:VK}(M:St->Hp->Prop)(hb:∀σ' H',M σ' H'->b ⟨nx,rt,bk,ct⟩ σ' H')(ha:∀R:St->Hp->Prop,(∀σ' H',M σ' H'->R σ' H')->a ⟨R,rt,bk,ct⟩ σ H):c3a a b ⟨nx,rt,bk,ct⟩ σ H:=ha _ hb
theorem c4i{T:String}{r:V->List V->Hp->VK->Prop}{Q:VK}(q:ta σ H λx H1=>tyV K T x H1/\r x [] H1 Q):c3g K T r ta σ H Q:=q
theorem c0e{p:Addr}{xs:List V}{Q:VK}(h:H p=some (.lst xs))(q:Q .non (upd H p (.lst []))):b6a (.ref p) [] H Q:=⟨p,xs,rfl,rfl,h,q⟩
theorem c3o{A B:Prop}(h:B):if (!true)=true then A else B:=h
theorem c3p{A B:Prop}(h:A):if (!false)=true then A else B:=h
theorem b3y{n:Nat}{nt:Nat}{fr:List Nat}{g:TG}{te:TE}{f:Nat->V}{Q:Addr->Hp->Prop}(hz:n<sizeLine)(hs:∀(i:Nat) (H':Hp) (k:VK),i<n->Same H H'->k (f i) H'->g (.int (0+(i:Int))) (m6 nt fr σ) H' λσ2 H2=>te σ2 H2 k)(hd:∀D,H D=none->Q D (upd H D (.lst ((List.range n).map f)))):
  ∀D,H D=none->∃(m:Nat)(W:Nat->List V->Hp->Prop),W 0 [] (upd H D (.lst []))/\∀i acc H',W i acc H'->H' D=some (.lst acc)/\acc.length<sizeLine /\
   (((Itr 0 n).stop i H'/\Q D H')\/(i<m/\(Itr 0 n).go i H'/\∀x H2,(Itr 0 n).yld i H' x H2->g x (m6 nt fr σ) H2 λσ2 H3=>te σ2 H3 λy H4=>H4 D=some (.lst acc)/\W (i+1) (acc++[y]) (upd H4 D (.lst (acc++[y]))))):=by
 refine a0a hz (λD i acc H'=>acc=(List.range i).map f/\H'=upd H D (.lst acc)) (λD hD=>⟨rfl,rfl⟩) ?_ ?_ ?_
 ·rintro D i acc H' ⟨rfl,rfl⟩
  exact⟨d2,by rw[List.length_map,List.length_range]⟩
 ·rintro D i acc H' hD hi ⟨rfl,rfl⟩
  refine hs i _ _ hi (λb u e=>by rw[d3 (d9 e hD)];exact e) ⟨d2,?_,?_⟩
  ·rw[List.range_succ,List.map_append];rfl
  ·rw[b5q]
 ·rintro D acc H' hD ⟨rfl,rfl⟩
  exact hd D hD
theorem a1g{a:Addr}{xs:List V}{nt:Nat}{fr:List Nat}{g:TG}{te:TE}{Q:Addr->Hp->Prop}(hz:xs.length<sizeLine)(Pv:Addr->Nat->List V->Hp->Prop)(h0:∀D,H D=none->Pv D 0 [] (upd H D (.lst [])))(hk:∀D i acc H',Pv D i acc H'->H' D=some (.lst acc)/\acc.length=i/\SqL K H' a xs)(hs:∀D i x acc H',H D=none->xs[i]?=some x->Pv D i acc H'->g x (m6 nt fr σ) H' λσ2 H2=>te σ2 H2 λy H3=>H3 D=some (.lst acc)/\Pv D (i+1) (acc++[y]) (upd H3 D (.lst (acc++[y]))))(hd:∀D acc H',H D=none->Pv D xs.length acc H'->Q D H'):
  ∀D,H D=none->∃(m:Nat)(W:Nat->List V->Hp->Prop),W 0 [] (upd H D (.lst []))/\∀i acc H',W i acc H'->H' D=some (.lst acc)/\acc.length<sizeLine /\
   (((Itl K a).stop i H'/\Q D H')\/(i<m/\(Itl K a).go i H'/\∀x H2,(Itl K a).yld i H' x H2->g x (m6 nt fr σ) H2 λσ2 H3=>te σ2 H3 λy H4=>H4 D=some (.lst acc)/\W (i+1) (acc++[y]) (upd H4 D (.lst (acc++[y]))))):=by
 intro D hD;refine⟨xs.length,λi acc H'=>i<=xs.length/\(i<xs.length->Pv D i acc H')/\(i=xs.length->Pv D i acc H'),⟨Nat.zero_le _,λ_=>h0 D hD,λ_=>h0 D hD⟩,?_⟩;rintro i acc H' ⟨hi,p1,p2⟩;have p:Pv D i acc H':=by
  by_cases h:i<xs.length
  ·exact p1 h
  ·exact p2 (by lia)
 obtain⟨k1,k2,k3⟩:=hk D i acc H' p;refine⟨k1,by lia,?_⟩
 by_cases h:i<xs.length
 ·refine .inr ⟨h,⟨xs,xs[i],k3,List.getElem?_eq_getElem h⟩,?_⟩
  rintro x H2 ⟨rfl,hy⟩;have ex:xs[i]?=some x:=hy xs k3;have key:=hs D i x acc _ hD ex p;have e:(λ(σ2:St) (H2:Hp)=>te σ2 H2 λy H3=>H3 D=some (.lst acc)/\Pv D (i+1) (acc++[y]) (upd H3 D (.lst (acc++[y]))))=(λ(σ2:St) (H3:Hp)=>te σ2 H3 λy H4=>H4 D=some (.lst acc)/\i+1<=xs.length/\(i+1<xs.length->Pv D (i+1) (acc++[y]) (upd H4 D (.lst (acc++[y]))))/\(i+1=xs.length->Pv D (i+1) (acc++[y]) (upd H4 D (.lst (acc++[y]))))):=by
   funext σ2 H3;have:(λ(y:V) (H3:Hp)=>H3 D=some (.lst acc)/\Pv D (i+1) (acc++[y]) (upd H3 D (.lst (acc++[y]))))=(λ(y:V) (H4:Hp)=>H4 D=some (.lst acc)/\i+1<=xs.length/\(i+1<xs.length->Pv D (i+1) (acc++[y]) (upd H4 D (.lst (acc++[y]))))/\(i+1=xs.length->Pv D (i+1) (acc++[y]) (upd H4 D (.lst (acc++[y]))))):=by
    funext y H4;apply propext;constructor
    ·rintro⟨z1,z2⟩
     exact⟨z1,h,λ_=>z2,λ_=>z2⟩
    ·rintro⟨z1,z2,z3,z4⟩
     refine⟨z1,?_⟩;by_cases hh:i+1<xs.length
     ·exact z3 hh
     ·exact z4 (by lia)
   rw[this]
  rw[e] at key;exact key
 ·have hi':i=xs.length:=by lia
  subst hi';exact .inl ⟨⟨xs,k3,Nat.le_refl _⟩,hd D acc H' hD p⟩
end
end L2
namespace L2
open PySem PySem.Spec PyProof.Rows
section
variable{X:Cx}
variable{k j i:Nat}{E:XK}{x:Str}{p pos:Pos}{e:Expr}{es:List Expr}{t:TA}
structure c5j(K:Frag)(C:Addr)(m:Str)(f:Addr):Prop where
 ga:specialIn K (.ref C) "__getattribute__" = some (some (.builtin "type.__getattribute__"))
 mc:∃mc,PySem.W.readsIn K C mc=true/\PySem.W.findCls K (.ref C) mc m=some (.val (.ref f))
 kp:keepIn K (.ref f)=true
structure b7s(P:Program)(w:World)(K:Frag)(mg:Str->Option Value)(base:Heap)(x:Str)(m:Str)(k:Nat)(ps:List Str)(sp:Sp):Prop where
 ex:∃(C f:Addr)(fd:FuncData),FnOk P w K mg base (CXK P w) k f fd ps sp/\c5j K C m f/\mg x=some (.ref C)/\Binds K fd ps []
variable{m:Str}{apos:Pos}{ps:List Str}{sp:Sp}{pl:Sem Bool}
theorem b6n(G:b7s X.prog X.w X.K X.mg X.base x m k ps sp)(hr:Room j X.A)(hj:k<=j)(hg:Gl X x)(hx:a0p (CXK X.prog X.w) X E)(ha:PA X (e::es) t)(hdb:(x == ("__debug__":Str))=false:=by decide)(hst:starEach (e::es) X.env=(false,eval e X.env)::starEach es X.env:=by rfl)(hpl:(backTo pos (starEach es X.env)).any (·.1)=false:=by rfl)(ht:eval (.Call (.Attribute (.Name x p) m apos) (e::es) [] pos) X.env=(do
   let ov <- eval (.Name x p) X.env
   standAt apos.atName
   let (f,first) <- holding [ov] (getMethod ov m pl)
   callWith pos f first (backTo pos (starEach (e::es) X.env)) (backToKw pos (keywordEach [] X.env))):=by rfl):
  PE X (.Call (.Attribute (.Name x p) m apos) (e::es) [] pos) (tFn sp E t):=by
 obtain⟨C,f,fd,F,M,hm,hb⟩:=G.ex;intro pins s σ H Q I h;have hp:=b3n (X:=X) (x:=x) (v:=.ref C) (pos:=p) hg hm rfl hdb pins s σ H (λv H'=>v=.ref C/\H'=H) I ⟨rfl,rfl⟩;refine PySem.W.methodCall_KW (pl:=pl) (thn hp λu s1 z0_=>?_) ht;obtain⟨v,H',I1,rv,ev,eH⟩:=z0_;subst ev;subst eH;cases rv;obtain⟨mc,hrd,hfc⟩:=M.mc;refine PySem.W.method_cls I1.kIn M.ga (PySem.W.cls_value I1.kIn hrd hfc rfl ?_);have I2:=I1.tok (s1.toks+1);refine callWith_K (h₀:=X.base) I.ok.mod.kin M.kp (thn (ha pos pins _ σ H' _ I2 h) λus s2 z0_=>?_) hst hpl;obtain⟨vs,H2,I3,r,q2⟩:=z0_;refine⟨I3.kIn,?_⟩;refine a9f (ds:=[]) (dvs:=[]) F (hr.mono hj) hb .nil hx I3 r ?_;simp only[List.append_nil];exact q2
end
end L2
namespace L2
open PySem PySem.Spec PyProof.Rows
def c3b(P:Program)(w:World)(K:Frag)(mg:Str->Option Value)(base:Heap)(k:Nat)(m:Str)(E:XK)(ta:TE)(t:TA):TE:=λσ H Q=>ta σ H λx H1=>∃a C dx fs ps sp,x=.ref a/\H1 a=some (.ins C dx fs)/\fs.lookup m=none/\Cls K C/\MethT P w K mg base C m k ps sp/\t σ H1 λvs H2=>sp (x::vs) H2 Q E
section
variable{X:Cx}{k j:Nat}{E:XK}{m:Str}{pos apos:Pos}{e o:Expr}{es:List Expr}{ta:TE}{t:TA}{pl:Sem Bool}
theorem a6z(he:PE X o ta)(hr:Room j X.A)(hj:k<=j)(hx:a0p (CXK X.prog X.w) X E)(ha:PA X (e::es) t)(hst:starEach (e::es) X.env=(false,eval e X.env)::starEach es X.env:=by rfl)(hpl:(backTo pos (starEach es X.env)).any (·.1)=false:=by rfl)(ht:eval (.Call (.Attribute o m apos) (e::es) [] pos) X.env=(do
   let ov <- eval o X.env
   standAt apos.atName
   let (f,first) <- holding [ov] (getMethod ov m pl)
   callWith pos f first (backTo pos (starEach (e::es) X.env)) (backToKw pos (keywordEach [] X.env))):=by rfl):
  PE X (.Call (.Attribute o m apos) (e::es) [] pos) (c3b X.prog X.w X.K X.mg X.base k m E ta t):=by
 intro pins s σ H Q I h;refine PySem.W.methodCall_KW (pl:=pl) (thn (he pins s σ H _ I h) λu s1 z0_=>?_) ht;obtain⟨x,H1,I1,rx,a,C,dx,fs,ps,sp,ex,ea,l,c,G,q⟩:=z0_;obtain⟨f,fd,F,hm,hb⟩:=G.ex;subst ex;obtain rfl:u=Value.ref a:=rx;refine a3o I1 ea c hm l ?_;refine callWith_K (first:=[.ref a]) (h₀:=X.base) I.ok.mod.kin hm.kp (thn (ha pos pins s1 σ H1 _ I1 q) λus s2 z0_=>?_) hst hpl
 obtain⟨vs,H2,I2,r,q2⟩:=z0_;refine⟨I2.kIn,?_⟩;refine a9f (us:=.ref a::us) (vs:=.ref a::vs) (ds:=[]) (dvs:=[]) F (hr.mono hj) hb .nil hx I2 (.cons rfl r) ?_;simp only[List.append_nil];exact q2
theorem m3(he:PE X o ta)(hr:Room j X.A)(hj:k<=j)(hx:a0p (CXK X.prog X.w) X E)(ht:eval (.Call (.Attribute o m apos) [] [] pos) X.env=(do
   let ov <- eval o X.env
   standAt apos.atName
   let (f,first) <- holding [ov] (getMethod ov m pl)
   callWith pos f first (backTo pos (starEach [] X.env)) (backToKw pos (keywordEach [] X.env))):=by rfl):
  PE X (.Call (.Attribute o m apos) [] [] pos) (c3b X.prog X.w X.K X.mg X.base k m E ta c0o):=by
 intro pins s σ H Q I h;refine PySem.W.methodCall_KW (pl:=pl) (thn (he pins s σ H _ I h) λu s1 z0_=>?_) ht;obtain⟨x,H1,I1,rx,a,C,dx,fs,ps,sp,ex,ea,l,c,G,q⟩:=z0_;obtain⟨f,fd,F,hm,hb⟩:=G.ex;subst ex;obtain rfl:u=Value.ref a:=rx;refine a3o I1 ea c hm l ?_;refine PySem.W.callWith_K0 (first:=[.ref a]) I1.kIn hm.kp (a9f (us:=[.ref a]) (vs:=[.ref a]) (ds:=[]) (dvs:=[]) F (hr.mono hj) hb .nil hx I1 (.cons rfl .nil) ?_)
 exact q
end
theorem v5{P:Program}{w:World}{K:Frag}{mg:Str->Option Value}{base:Heap}{k:Nat}{m:Str}{E:XK}{ta:TE}{t:TA}{σ:St}{H:Hp}{Q:VK}(q:ta σ H λx H1=>∃a C dx fs ps sp,x=.ref a/\H1 a=some (.ins C dx fs)/\fs.lookup m=none/\Cls K C/\MethT P w K mg base C m k ps sp/\t σ H1 λvs H2=>sp (x::vs) H2 Q E):c3b P w K mg base k m E ta t σ H Q:=q
def c5g(K:Frag)(ta:TE)(f:Str):TG:=λv σ H Q=>ta σ H λx H1=>∃a C dx fs,x=.ref a/\H1 a=some (.ins C dx fs)/\Cls K C/\NoAttr K C f/\fs.length<1000/\Q σ (upd H1 a (.ins C dx (b0g f v fs)))
theorem a6g{X:Cx}{K:Frag}{o:Expr}{f:Str}{pos:Pos}{ta:TE}(ha:PE X o ta)(hK:X.K=K:=by rfl):PG X (.Attribute o f pos) (c5g K ta f):=by
 subst hK;intro pins s σ H v u Q I r h;rw[assign_Attribute];refine wpAny_bind (wpAny_holding (thn (ha pins s σ H _ I h) λov s1 z0_=>?_));obtain⟨x,H1,I1,rx,a,C,dx,fs,ex,ea,c,n,l,q⟩:=z0_;subst ex;obtain rfl:ov=Value.ref a:=rx;refine wpAny_bind (wpAny_standAt (wpAny_bind (wpAny_holding (a9d I1 ea c n l r λs2 I2=>?_))));exact wpAny_release ⟨σ,_,I2,q⟩
end L2
namespace L2
open PySem PySem.Spec PyProof.Rows
theorem a8r(r:Addr)(a b c i:Int)(t u v ti:Tok):
  Meets (Builtin.«range.__contains__» ⟨[.ref r,.int i ti],[]⟩) (λ_ R s=>s.heap.get? r=some { cls:=.type "range",dict:=none,data:=.fields #[.int a t,.int b u,.int c v],slots:=#[] }/\R (.ok (.ret (.bool (Builtin.Range.rangePlace? a b c i).isSome))) s) :=
 .of_wp λprog w A R s h=>by obtain⟨hp,g,d,tk,os⟩:=s;obtain⟨hl,h⟩:=h;wp_walk;exact⟨_,rfl,h⟩
theorem a3q{prog:Program}{w:World}{A:Around}{E:Value->Shared->Prop}{s:Shared}{r:Addr}{a b c i:Int}{t u v ti:Tok}{Q:Value->Shared->Prop}(hr:IsRange s.heap r a b c t u v)(h:Q (.bool (Builtin.Range.rangePlace? a b c i).isSome) s):wpAny (model prog w) A (compareOp .In (.int i ti) (.ref r)) Q E s:=by
 have hT:s.TypeIs (.ref r) "range":=⟨_,hr,rfl⟩;show wpAny _ _ (do return .bool (<- contains (.ref r) (.int i ti))) Q E s
 refine wpAny_bind ?_;unfold contains
 try with_reducible refine wpAny_holding ?_
 refine wpAny_bind (wpAny_specialOf hT F.slot_range_contains.lookup ?_);show wpAny _ _ (if (some (Value.builtin "range.__contains__") == some Value.none)=true then _ else _) _ E s;rw[if_neg (by rw[beq_builtin_none];exact Bool.false_ne_true)]
 refine wpAny_bind (wpAny_callSpecialUnlessNone?_slot (name:=Str.ofString "__contains__") hT F.slot_range_contains
  (call_meets F.slot_range_contains hT F.entry_range_contains (F.args_range_contains_2 _ _) (a8r r a b c i t u v ti) ⟨hr,?_⟩))
 exact wpAny_truthy_bool (wpAny_pure h)
def b8r(ta:TE)(tn:TA):TE:=λσ H Q=>ta σ H λx H1=>tn σ H1 λvs H2=>∃i n:Int,x=.int i/\vs=[.int n]/\Q (.bl (decide (0<=i/\i<n))) H2
theorem b6j(i n:Int):(Builtin.Range.rangePlace? 0 n 1 i).isSome=decide (0<=i/\i<n):=by
 unfold Builtin.Range.rangePlace?;by_cases h:0<=i/\i<n
 ·simp[h]
 ·simp[h]
theorem a3j{X:Cx}{a e:Expr}{ta:TE}{tn:TA}{p cp pos:Pos}(hg:Gl X "range")(hm:X.mg "range" = none)(ha:PE X a ta)(he:PA X [e] tn)(hb:behindInMarks .In (.Call (.Name "range" p) [e] [] cp)=false:=by rfl)(hs:starEach [e] X.env=[(false,eval e X.env)]:=by rfl):
  PE X (.Compare a [.In] [.Call (.Name "range" p) [e] [] cp] pos) (b8r ta tn):=by
 intro pins s σ H Q I h;refine wpAny_Compare1 (thn (ha pins s σ H _ I h) λiv s1 z0_=>?_) hb;obtain⟨x,H1,I1,rx,q1⟩:=z0_;refine Call_ (a9l I1 hg hm boot_range (PyProof.Rows.callWith_type1 (thn (he cp pins s1 σ H1 _ I1 q1) λus s2 z0_=>?_) hs rfl));obtain⟨vs,H2,I2,r2,q2⟩:=z0_;obtain⟨i,n,ex,ev,q⟩:=q2;subst ex;subst ev;obtain⟨ti,rfl⟩:=rx;cases r2 with
 | cons r rr=>
  cases rr;obtain⟨t,rfl⟩:=r;refine call_range_1 (a3q (IsRange.new ..) ?_);rw[b6j];exact⟨.bl _,H2,I2.kept (λb o e=>Heap.get?_push_of_some _ e),rfl,q⟩
end L2
namespace L2
open PySem PySem.Spec PyProof.Rows
section
variable{X:Cx}{pins:List (Addr×Obj)}{σ:St}{H:Hp}{s:Shared}{N:List Str}{scope:Scope}{cl:List (Str×Addr)}{nt:Nat}{fr:List Nat}
end
end L2
namespace L2
open PySem PySem.Spec PyProof.Rows
section
variable{κ:Type}[DecidableEq κ]
end
section
variable{P:Program}{w:World}{H:Hp}{h:Heap}{a:Addr}
end
section
variable{X:Cx}{pins:List (Addr×Obj)}{σ:St}{H:Hp}{s:Shared}{a:Addr}{y v:V}{u r:Value}{o:Option V}{A:Around}{E:Value->Shared->Prop}
end
section
variable{X:Cx}{pins:List (Addr×Obj)}{σ:St}{H:Hp}{s:Shared}{a:Addr}{kvs:List (Key×V)}{k:Key}{u:Value}{A:Around}{E:Value->Shared->Prop}
end
section
variable{X:Cx}{o i e value:Expr}{pos pos' tpos:Pos}{td ty tv:TE}
end
section
variable{X:Cx}{pos:Pos}
end
section
variable{X:Cx}{pins:List (Addr×Obj)}{σ:St}{H:Hp}{s:Shared}{a:Addr}{y d:V}{u r:Value}{o:Option V}{A:Around}{E:Value->Shared->Prop}
end
section
variable{X:Cx}{o e f:Expr}{apos cpos:Pos}{td ty tx:TE}
end
section
variable{X:Cx}{pins:List (Addr×Obj)}{σ:St}{H:Hp}{s:Shared}{a:Addr}{kvs:List (Key×V)}{A:Around}{E:Value->Shared->Prop}
end
section
variable{X:Cx}{pins:List (Addr×Obj)}{σ:St}{H:Hp}{s:Shared}{a:Addr}{y:V}{u:Value}{A:Around}{E:Value->Shared->Prop}
end
end L2
namespace L2
open PySem PySem.Spec PyProof.Rows
section
variable{X:Cx}{k j:Nat}{ps:List Str}{sp:Sp}{E:XK}{x:Str}{p pos:Pos}
end
section
variable{K:Frag}{σ:St}{H:Hp}{Q:VK}{td ty tv:TE}{nx bk ct:St->Hp->Prop}{rt:VK}
end
end L2
namespace L2
open PySem PySem.Spec PyProof.Rows
section
variable{X:Cx}
theorem b0h{K:Frag}{tg l:Expr}{tl:TE}(hl:PE X l tl)(h:X.K=K:=by rfl):PI X tg l (c3r K tl):=h ▸ c1e hl
end
section
variable{K:Frag}{σ:St}{H:Hp}{ta:TE}{t:TA}
theorem c1z{R:It->Hp->Prop}(q:ta σ H λx H1=>∃a,x=.ref a/\(∃xs,SqT K H1 a xs)/\R (Itt K a) H1):c3r K ta σ H R:=q
theorem b4l{a:Addr}{xs:List V}{R:Addr->Prop}(h:SqT K H a xs)(q:R a):∃a',V.ref a=.ref a'/\(∃xs,SqT K H a' xs)/\R a':=⟨a,rfl,⟨xs,h⟩,q⟩
theorem c0d{tn:TA}{Q:VK}(q:ta σ H λx H1=>tn σ H1 λvs H2=>∃i n:Int,x=.int i/\vs=[.int n]/\Q (.bl (decide (0<=i/\i<n))) H2):b8r ta tn σ H Q:=q
end
def c0s(K:Frag)(c d:Addr)(tb:(St->XK)->TS)(th:TS):TS:=λD σ H=>tb (λσ1 C _ H'=>exmAny K C [.ref c,.ref d]=some true/\th D σ1 H') D σ H
theorem c2b{K:Frag}{c d:Addr}{tb:(St->XK)->TS}{th:TS}{nx bk ct:St->Hp->Prop}{rt:VK}{σ:St}{H:Hp}(q:tb (λσ1 C _ H'=>exmAny K C [.ref c,.ref d]=some true/\th ⟨nx,rt,bk,ct⟩ σ1 H') ⟨nx,rt,bk,ct⟩ σ H):c0s K c d tb th ⟨nx,rt,bk,ct⟩ σ H:=q
section
variable{X:Cx}{body suite:List Stmt}{b₀:Stmt}{x y n:Str}{np np2 hpos pos tpos:Pos}{kk:Nat}{c d:Addr}{i:Nat}{tb:(St->XK)->TS}{th:TS}
theorem b9l(hcal:X.calm=true)(hst:X.stack=X.env::X.outer)(hfr:X.env.frame=some X.env.locals)(hg:Gl X x)(hg2:Gl X y)(hm:X.mg x=some (.ref c))(hm2:X.mg y=some (.ref d))(hb:∀pn' E J,b1d (X.tryX pn' E) J->PSs (X.tryX pn' E) body (tb J))(hh:∀pn' a,PSs (X.inH pn' a) (b₀::suite) th)(hd:(x == ("__debug__":Str))=false:=by decide)(hd2:(y == ("__debug__":Str))=false:=by decide):
  PS X (.Try body [.ExceptHandler (some (.Tuple [.Name x np,.Name y np2] kk tpos)) none (b₀::suite) hpos] [] [] pos) (c0s X.K c d tb th):=by
 intro pins s σ H D I h;have hcl:X.calm=true->X.A.handled=none:=I.ok.hd;have hp:b1d (X.tryX (X.pn++pins) (λe s'=>∃pins' σ1 H1 s1,Inv (X.tryX (X.pn++pins) X.xe) pins' σ1 H1 s1/\CXK X.prog X.w X.stack H1 s1 ((λσ1 C _ H'=>exmAny X.K C [.ref c,.ref d]=some true/\th D σ1 H':St->XK) σ1) e s'))
   (λσ1 C _ H'=>exmAny X.K C [.ref c,.ref d]=some true/\th D σ1 H') :=
  λpins' σ1 H1 s1 e s' I1 q=>⟨pins',σ1,H1,s1,I1.re rfl hcl (λp z=>z),q⟩
 have back:∀{A':Around}{c':Bool}{xe':Value->Shared->Prop}{pins':List (Addr×Obj)}{σ1:St}{H1:Hp}{s1:Shared},X.A.frames=A'.frames->Inv ({ X with A:=A',calm:=c',pn:=X.pn++pins,xe:=xe' }:Cx) pins' σ1 H1 s1->Inv X pins σ1 H1 s1 :=
  λhA I1=>I1.re (pn':=X.pn) (calm':=X.calm) (A':=X.A) (xe':=X.xe) hA hcl (λp z=>List.mem_append_left _ z)
 refine wpAny_Try_except (wpAny_mono (hb _ _ _ hp [] s σ H D (I.re rfl hcl (λp z=>by simpa using z)) h) (λf s1 q=>?_) λe s1 q=>?_)
 ·cases f with
  | next=>obtain⟨σ',H',I',q⟩:=q;exact wpAny_execs_nil ⟨σ',H',back rfl I',q⟩
  | brk=>obtain⟨σ',H',I',q⟩:=q;exact⟨σ',H',back rfl I',q⟩
  | cont=>obtain⟨σ',H',I',q⟩:=q;exact⟨σ',H',back rfl I',q⟩
  | ret u=>obtain⟨v,σ',H',I',r,q⟩:=q;exact⟨v,σ',H',back rfl I',r,q⟩
 ·obtain⟨pins',σ1,H1,s2,I1,a,C,H',rfl,F,hx,hq⟩:=q
  have I1:Inv X pins σ1 H1 s2:=back rfl I1;obtain⟨B,a0,fl,k⟩:=F.fl;have hs:X.A.frames=some (X.env::X.outer):=by rw[<- hst];exact I1.ok.frames
  refine wpAny_looks_onW (base:=B) hs hfr (by rw[<- hst];exact fl) λh4 hh4 up4=>?_
  refine wpAny_landsW hh4 λh5 fl5 up5=>?_;have fl5':Heap.FlyingW B X.stack a C a0 h5:=by rw[hst];exact fl5
  have up:s1.heap.UpToSlots h5:=up4.trans up5;have I5:=F.caught I1 fl k fl5'.1 up;refine wpAny_handleBy_cons (codeAny_handlers_test ?_) (by intro q;cases q)
  have I5h:Inv (X.inH (X.pn++pins) a) [] σ1 H' { s1 with heap:=h5 }:=I5.re rfl (λz=>nomatch z) (λp z=>by simpa using z)
  refine wpAny_Tuple ?_;refine wpAny_items_cons (a6k (X:=X.inH (X.pn++pins) a) I5h hg hm ?_ hd);refine wpAny_items_cons (a6k (X:=X.inH (X.pn++pins) a) I5h hg2 hm2 ?_ hd2);refine wpAny_items_nil ⟨by size_fits,?_⟩
  have kp:∀q o,h5.get? q=some o->(h5.push { cls:=.type "tuple",data:=.seq [Value.ref c,Value.ref d].toArray }).get? q=some o:=λ_ _ z=>Heap.get?_push_of_some _ z;have LT:PySem.W.Looks (model X.prog X.w) (h5.push { cls:=.type "tuple",data:=.seq [Value.ref c,Value.ref d].toArray }) (typeOf (.ref a)) C:=by
   obtain⟨ob,hob,hc⟩:=fl5'.there;subst hc;exact(PySem.W.Looks.ld (kp _ _ hob)).andThen .now
  refine (PySem.W.exm_tup2 (K:=X.K) (I5.kIn.keeps kp) LT (Heap.get?_push_size h5 rfl) hx).here ?_;refine codeAny_handlers_suite ?_;refine lands_againW (PySem.W.flying_keeps fl5' kp) λh6 fl6 up6=>?_;have I6:=F.caught I1 fl k fl6.1 (up.trans ((Heap.UpToSlots.of_keeps kp).trans up6));have I6h:Inv (X.inH (X.pn++pins) a) [] σ1 H' { s1 with heap:=h6 }:=I6.re rfl (λz=>nomatch z) (λp z=>by simpa using z)
  refine wpAny_mono (hh (X.pn++pins) a [] _ _ _ _ I6h hq) (λf s8 q8=>?_) (λ_ _ z=>z.elim);cases f with
  | next=>obtain⟨σ',H2,I8,q8⟩:=q8;exact⟨_,H2,back (A':=X.A.mark (some (.ref a))) rfl I8,q8⟩
  | brk=>obtain⟨σ',H2,I8,q8⟩:=q8;exact⟨_,H2,back (A':=X.A.mark (some (.ref a))) rfl I8,q8⟩
  | cont=>obtain⟨σ',H2,I8,q8⟩:=q8;exact⟨_,H2,back (A':=X.A.mark (some (.ref a))) rfl I8,q8⟩
  | ret u=>obtain⟨v,σ',H2,I8,r,q8⟩:=q8;exact⟨v,_,H2,back (A':=X.A.mark (some (.ref a))) rfl I8,r,q8⟩
end
end L2
namespace L2
open PySem PySem.Spec PyProof.Rows
section
variable{X:Cx}
end
section
variable{K:Frag}{σ:St}{H:Hp}
theorem c5e{r:V->Option Int->Option Int->Hp->VK->Prop}{te:TE}{tl th:TO}{Q:VK}(q:te σ H λx H1=>tl σ H1 λl H2=>th σ H2 λu H3=>r x l u H3 Q):tSl r te tl th σ H Q:=q
theorem b4n{Q:Option Int->Hp->Prop}(q:Q none H):b5r σ H Q:=q
theorem b8y{te:TE}{Q:Option Int->Hp->Prop}(q:te σ H λx H1=>∃i,x=.int i/\Q (some i) H1):c0t te σ H Q:=q
end
end L2
namespace L2
open PySem PySem.Spec PyProof.Rows
section
variable{X:Cx}{e:Expr}{te:TE}{lo hi:Option Expr}{se:Expr}{tl th ts:TO}{pos p2:Pos}
end
end L2
namespace L2
open PySem PySem.Spec PyProof.Rows
def Hid(n m:St->Hp->Prop):Prop:=n=m
def c5i(m:St->Hp->Prop)(F:(St->Hp->Prop)->Prop):Prop:=∀N,Hid N m->F N
section
variable{nx bk ct:St->Hp->Prop}{rt:VK}{σ:St}{H:Hp}
theorem c2f{s u:TS}(q:∀n',Hid n' (u ⟨nx,rt,bk,ct⟩)->s ⟨n',rt,bk,ct⟩ σ H):c3a s u ⟨nx,rt,bk,ct⟩ σ H:=q _ rfl
theorem c0a{n' m:St->Hp->Prop}(h:Hid n' m)(q:m σ H):n' σ H:=by
 unfold Hid at h;rw[h];exact q
theorem c2n{m:St->Hp->Prop}{F:(St->Hp->Prop)->Prop}(q:∀N,Hid N m->F N):c5i m F:=q
theorem a3p{lo:Int}{n:Nat}{g:TG}{tb:TS}(Pv:Nat->St->Hp->Prop)(h0:Pv 0 σ H)(hs:∀i σ H,i<n->Pv i σ H->c5i (Pv (i+1)) λN=>g (.int (lo+i)) σ H λσ2 H2=>tb ⟨N,rt,nx,N⟩ σ2 H2)(hd:∀σ H,Pv n σ H->nx σ H):
  ∃W:Nat->Nat->St->Hp->Prop,(∃m,W 0 m σ H)/\∀i m σ H,W i m σ H->((Itr lo n).stop i H/\nx σ H)\/((Itr lo n).go i H/\∃N:St->Hp->Prop,(∀σ' H',N σ' H'->∃m',m'<m/\W (i+1) m' σ' H')/\∀x H',(Itr lo n).yld i H x H'->g x σ H' λσ2 H2=>tb ⟨N,rt,nx,N⟩ σ2 H2) :=
 b7f (D:=⟨nx,rt,λ_ _=>False,λ_ _=>False⟩) Pv h0 (λi σ H hi p=>hs i σ H hi p _ rfl) hd
end
end L2
namespace L2
open PySem PySem.Spec PyProof.Rows
section
variable{prog:Program}{w:World}{A:Around}{E:Value->Shared->Prop}{s:Shared}
end
section
variable{X:Cx}
end
end L2
namespace L2
open PySem
section
variable{P:Program}{w:World}{K:Frag}{mg:Str->Option Value}{base:Heap}{H H1 H1':Hp}{h h':Heap}
open Classical in
end
end L2
namespace L2
open PySem
def b8s(K:Frag):List V->Hp->VK->Prop:=λxs H Q=>∃p ys,xs=[.ref p]/\((SqL K H p ys/\∀l,H l=none->Q (.ref l) (upd H l (.tup ys)))\/(SqT K H p ys/\Q (.ref p) H))
theorem n9{X:Cx}{K:Frag}(h:X.K=K:=by rfl):a6n X (.type "tuple") (b8s K):=h ▸ b1c
end L2
namespace L2
open PySem PySem.Spec PyProof.Rows
section
variable{K:Frag}{H:Hp}{Q:VK}{σ:St}{ta:TE}
theorem c2m{p:Addr}{xs:List V}(h:H p=some (.tup xs))(q:Q (.int xs.length) H):c3j K [.ref p] H Q:=⟨p,xs,rfl,.inr (SqT.of h),q⟩
theorem c0c{p:Addr}{xs:List V}(h:H p=some (.tup xs))(q:∀l,H l=none->Q (.ref l) (upd H l (.lst xs))):b3k K [.ref p] H Q:=⟨p,xs,rfl,.inr (SqT.of h),q⟩
theorem c2a{p:Addr}{xs:List V}(h:H p=some (.lst xs))(q:∀l,H l=none->Q (.ref l) (upd H l (.tup xs))):b8s K [.ref p] H Q:=⟨p,xs,rfl,.inl ⟨SqL.of h,q⟩⟩
end
def c5d(K:Frag)(ta:TE):TI:=λσ H R=>ta σ H λx H1=>(∃a,x=.ref a/\(∃xs,SqL K H1 a xs)/\R (Itl K a) H1)\/(∃a,x=.ref a/\(∃xs,SqT K H1 a xs)/\R (Itt K a) H1)
theorem b9n{X:Cx}{K:Frag}{tg l:Expr}{tl:TE}(hl:PE X l tl)(h:X.K=K:=by rfl):PI X tg l (c5d K tl):=by
 subst h;intro pins s σ H R I h;refine thn (hl pins s σ H _ I h) λv s1 z0_=>?_;obtain⟨x,H1,I1,r1,q1⟩:=z0_;rcases q1 with ⟨a,e,⟨xs,hq⟩,q⟩|⟨a,e,⟨xs,hq⟩,q⟩
 ·subst e
  cases r1;obtain⟨its,rv,p,hz⟩:=I1.list hq;refine wpAny_pyIter_list p.isList ?_;refine⟨s1.heap.objs.size,[s1.heap.objs.size],_,_,H1,rfl,I1.kept (t':=s1.toks) λb o e=>Heap.get?_push_of_some _ e,b1g a _,⟨_,Heap.get?_push_size _ rfl,rfl,rfl⟩,λb hb=>?_,q⟩;have e:b=s1.heap.objs.size:=by simpa using hb
  subst e;exact I1.fpOk (Nat.le_refl _) (I1.hok.fresh (Nat.le_refl _))
 ·subst e
  cases r1;obtain⟨its,rv,p,hz⟩:=I1.tuple hq;refine wpAny_pyIter_tuple (show s1.heap.IsTuple a its.toArray from p) ?_;refine⟨s1.heap.objs.size,[s1.heap.objs.size],_,_,H1,rfl,I1.kept (t':=s1.toks) λb o e=>Heap.get?_push_of_some _ e,a9a a _,⟨_,Heap.get?_push_size _ rfl,rfl,rfl⟩,λb hb=>?_,q⟩;have e:b=s1.heap.objs.size:=by simpa using hb
  subst e;exact I1.fpOk (Nat.le_refl _) (I1.hok.fresh (Nat.le_refl _))
theorem c2e{K:Frag}{σ:St}{H:Hp}{ta:TE}{R:It->Hp->Prop}(q:ta σ H λx H1=>(∃a,x=.ref a/\(∃xs,SqL K H1 a xs)/\R (Itl K a) H1)\/(∃a,x=.ref a/\(∃xs,SqT K H1 a xs)/\R (Itt K a) H1)):c5d K ta σ H R:=q
theorem b6i(i n m:Int):(Builtin.Range.rangePlace? n m 1 i).isSome=decide (n<=i/\i<m):=by
 unfold Builtin.Range.rangePlace?;by_cases h:n<=i/\i<m
 ·simp[h]
 ·simp[h]
def b5s(ta:TE)(tn:TA):TE:=λσ H Q=>ta σ H λx H1=>tn σ H1 λvs H2=>∃i n m:Int,x=.int i/\vs=[.int n,.int m]/\Q (.bl (decide (n<=i/\i<m))) H2
theorem b8i{σ:St}{H:Hp}{ta:TE}{tn:TA}{Q:VK}(q:ta σ H λx H1=>tn σ H1 λvs H2=>∃i n m:Int,x=.int i/\vs=[.int n,.int m]/\Q (.bl (decide (n<=i/\i<m))) H2):b5s ta tn σ H Q:=q
theorem b6l{X:Cx}{a e e2:Expr}{ta:TE}{tn:TA}{p cp pos:Pos}(hg:Gl X "range")(hm:X.mg "range" = none)(ha:PE X a ta)(he:PA X [e,e2] tn)(hb:behindInMarks .In (.Call (.Name "range" p) [e,e2] [] cp)=false:=by rfl)(hs:starEach [e,e2] X.env=(false,eval e X.env)::starEach [e2] X.env:=by rfl)(hs2:starEach [e2] X.env=[(false,eval e2 X.env)]:=by rfl):
  PE X (.Compare a [.In] [.Call (.Name "range" p) [e,e2] [] cp] pos) (b5s ta tn):=by
 intro pins s σ H Q I h;refine wpAny_Compare1 (thn (ha pins s σ H _ I h) λiv s1 z0_=>?_) hb;obtain⟨x,H1,I1,rx,q1⟩:=z0_;refine Call_ (a9l I1 hg hm boot_range (PyProof.Rows.callWith_type1 (thn (he cp pins s1 σ H1 _ I1 q1) λus s2 ⟨vs,H2,I2,r2,q2⟩=>?_) hs (by rw[hs2];rfl)))
 obtain⟨i,n,m,ex,ev,q⟩:=q2;subst ex;subst ev;obtain⟨ti,rfl⟩:=rx;cases r2 with
 | cons r rr=>
  cases rr with
  | cons r' rr=>
   cases rr;obtain⟨t,rfl⟩:=r;obtain⟨t',rfl⟩:=r';refine call_range_2 (a3q (IsRange.new ..) ?_);rw[b6i];exact⟨.bl _,H2,I2.kept (λb o e=>Heap.get?_push_of_some _ e),rfl,q⟩
theorem b8m{J:It}{xs:List V}{nt:Nat}{fr:List Nat}{g:TG}{te:TE}{σ:St}{H:Hp}{Q:Addr->Hp->Prop}(hz:xs.length<sizeLine)(Sq:Hp->Prop)(jg:∀i x H',Sq H'->xs[i]?=some x->J.go i H')(jy:∀i H' x H2,Sq H'->J.yld i H' x H2->H2=H'/\xs[i]?=some x)(js:∀H',Sq H'->J.stop xs.length H')(Pv:Addr->Nat->List V->Hp->Prop)(h0:∀D,H D=none->Pv D 0 [] (upd H D (.lst [])))(hk:∀D i acc H',Pv D i acc H'->H' D=some (.lst acc)/\acc.length=i/\Sq H')(hs:∀D i x acc H',H D=none->xs[i]?=some x->Pv D i acc H'->g x (m6 nt fr σ) H' λσ2 H2=>te σ2 H2 λy H3=>H3 D=some (.lst acc)/\Pv D (i+1) (acc++[y]) (upd H3 D (.lst (acc++[y]))))(hd:∀D acc H',H D=none->Pv D xs.length acc H'->Q D H'):
  ∀D,H D=none->∃(m:Nat)(W:Nat->List V->Hp->Prop),W 0 [] (upd H D (.lst []))/\∀i acc H',W i acc H'->H' D=some (.lst acc)/\acc.length<sizeLine /\
   ((J.stop i H'/\Q D H')\/(i<m/\J.go i H'/\∀x H2,J.yld i H' x H2->g x (m6 nt fr σ) H2 λσ2 H3=>te σ2 H3 λy H4=>H4 D=some (.lst acc)/\W (i+1) (acc++[y]) (upd H4 D (.lst (acc++[y]))))):=by
 intro D hD;refine⟨xs.length,λi acc H'=>i<=xs.length/\Pv D i acc H',⟨Nat.zero_le _,h0 D hD⟩,?_⟩;rintro i acc H' ⟨hi,p⟩;obtain⟨k1,k2,k3⟩:=hk D i acc H' p;refine⟨k1,by lia,?_⟩
 by_cases h:i<xs.length
 ·refine .inr ⟨h,jg i _ H' k3 (List.getElem?_eq_getElem h),λx H2 y=>?_⟩
  obtain⟨rfl,ex⟩:=jy i H' x H2 k3 y;have key:=hs D i x acc _ hD ex p;have e:∀acc':V->List V,(λ(y:V) (H4:Hp)=>H4 D=some (.lst acc)/\i+1<=xs.length/\Pv D (i+1) (acc' y) (upd H4 D (.lst (acc' y))))=λ(y:V) (H3:Hp)=>H3 D=some (.lst acc)/\Pv D (i+1) (acc' y) (upd H3 D (.lst (acc' y))):=λacc'=>by
   funext y H4;exact propext ⟨λz=>⟨z.1,z.2.2⟩,λz=>⟨z.1,h,z.2⟩⟩
  rw[show(λ(σ2:St) (H3:Hp)=>te σ2 H3 λy H4=>H4 D=some (.lst acc)/\i+1<=xs.length/\Pv D (i+1) (acc++[y]) (upd H4 D (.lst (acc++[y]))))=λ(σ2:St) (H2:Hp)=>te σ2 H2 λy H3=>H3 D=some (.lst acc)/\Pv D (i+1) (acc++[y]) (upd H3 D (.lst (acc++[y]))) from by
   funext σ2 H3;rw[e λy=>acc++[y]]]
  exact key
 ·have:i=xs.length:=by lia
  subst this;exact .inl ⟨js H' k3,hd D acc H' hD p⟩
theorem a8k{K:Frag}{a:Addr}{xs:List V}{nt:Nat}{fr:List Nat}{g:TG}{te:TE}{σ:St}{H:Hp}{Q:Addr->Hp->Prop}(hz:xs.length<sizeLine)(Pv:Addr->Nat->List V->Hp->Prop)(h0:∀D,H D=none->Pv D 0 [] (upd H D (.lst [])))(hk:∀D i acc H',Pv D i acc H'->H' D=some (.lst acc)/\acc.length=i/\SqT K H' a xs)(hs:∀D i x acc H',H D=none->xs[i]?=some x->Pv D i acc H'->g x (m6 nt fr σ) H' λσ2 H2=>te σ2 H2 λy H3=>H3 D=some (.lst acc)/\Pv D (i+1) (acc++[y]) (upd H3 D (.lst (acc++[y]))))(hd:∀D acc H',H D=none->Pv D xs.length acc H'->Q D H'):
  ∀D,H D=none->∃(m:Nat)(W:Nat->List V->Hp->Prop),W 0 [] (upd H D (.lst []))/\∀i acc H',W i acc H'->H' D=some (.lst acc)/\acc.length<sizeLine /\
   (((Itt K a).stop i H'/\Q D H')\/(i<m/\(Itt K a).go i H'/\∀x H2,(Itt K a).yld i H' x H2->g x (m6 nt fr σ) H2 λσ2 H3=>te σ2 H3 λy H4=>H4 D=some (.lst acc)/\W (i+1) (acc++[y]) (upd H4 D (.lst (acc++[y]))))) :=
 b8m hz (λH'=>SqT K H' a xs) (λi x H' q e=>⟨xs,x,q,e⟩) (λi H' x H2 q y=>⟨y.1,y.2 xs q⟩) (λH' q=>⟨xs,q,Nat.le_refl _⟩) Pv h0 hk hs hd
theorem b5u{X:Cx}{K:Frag}(h:X.K=K:=by rfl):SlR X (c4y K):=h ▸ c0z
end L2
namespace S
open PySem L2
def top(i:Nat):Stmt:=PySem.Challenge.pw_slipring_k35_whole_any_stand.main.body.getD i (.Pass ⟨0,0,0,0⟩)
structure Cl where
 BadCells:Addr
 BadOrder:Addr
 Board:Addr
 Hand:Addr
 Giver:Addr
 Taker:Addr
 Lane:Addr
 t_HANDS:Addr
 t_COMING_UP:Addr
 t_WAITING:Addr
 t_FREEING:Addr
 t_GIVER_STAGES:Addr
 t_TAKER_STAGES:Addr
 d_DEEDS_hand:Addr
 d_DEEDS_giver:Addr
 d_DEEDS_taker:Addr
structure Txt(K:Frag)(mg:Str->Option Value)(cl:Cl):Prop where
 c_BadCells:ExM mg "BadCells" cl.BadCells
 c_BadOrder:ExM mg "BadOrder" cl.BadOrder
 c_Board:ExM mg "Board" cl.Board
 c_Hand:ExM mg "Hand" cl.Hand
 c_Giver:ExM mg "Giver" cl.Giver
 c_Taker:ExM mg "Taker" cl.Taker
 c_Lane:ExM mg "Lane" cl.Lane
 m_LEAST_SIZE:∃t,mg "LEAST_SIZE" = some (.int (2) t)
 m_MOST_SIZE:∃t,mg "MOST_SIZE" = some (.int (8) t)
 m_FREE:∃t,mg "FREE" = some (.int (0) t)
 m_FULL:∃t,mg "FULL" = some (.int (1) t)
 m_MOST_MARK:∃t,mg "MOST_MARK" = some (.int (3) t)
 m_CELLS_OF_A_PLACE:∃t,mg "CELLS_OF_A_PLACE" = some (.int (4) t)
 m_NEW_MARK:∃t,mg "NEW_MARK" = some (.int (2) t)
 m_NO_ORDER:∃t,mg "NO_ORDER" = some (.int (-1) t)
 m_NO_TURN:∃t,mg "NO_TURN" = some (.int (-1) t)
 m_STILL:∃t,mg "STILL" = some (.int (0) t)
 m_RUNG:∃t,mg "RUNG" = some (.int (1) t)
 r_HANDS:mg "HANDS" = some (.ref cl.t_HANDS)
 kt_HANDS:KTup K cl.t_HANDS [.str "giver",.str "taker"]
 r_COMING_UP:mg "COMING_UP" = some (.ref cl.t_COMING_UP)
 kt_COMING_UP:KTup K cl.t_COMING_UP [.str "rouse",.str "clear",.str "mute",.str "marks"]
 r_WAITING:mg "WAITING" = some (.ref cl.t_WAITING)
 kt_WAITING:KTup K cl.t_WAITING [.str "look",.str "wish",.str "again",.str "sleep",.str "hush",.str "unwish"]
 r_FREEING:mg "FREEING" = some (.ref cl.t_FREEING)
 kt_FREEING:KTup K cl.t_FREEING [.str "free",.str "card",.str "ring"]
 r_GIVER_STAGES:mg "GIVER_STAGES" = some (.ref cl.t_GIVER_STAGES)
 kt_GIVER_STAGES:KTup K cl.t_GIVER_STAGES [.str "rouse",.str "clear",.str "mute",.str "marks",.str "told",.str "lacks",.str "look",.str "wish",.str "again",.str "sleep",.str "hush",.str "unwish",.str "number",.str "left",.str "thing",.str "mark",.str "card",.str "ring"]
 r_TAKER_STAGES:mg "TAKER_STAGES" = some (.ref cl.t_TAKER_STAGES)
 kt_TAKER_STAGES:KTup K cl.t_TAKER_STAGES [.str "rouse",.str "clear",.str "mute",.str "marks",.str "look",.str "wish",.str "again",.str "sleep",.str "hush",.str "unwish",.str "number",.str "left",.str "thing",.str "free",.str "card",.str "ring"]
 k_Board:Cls K cl.Board
 n_Board_many_touches:NoAttr K cl.Board "many_touches"
 n_Board_newest_touch:NoAttr K cl.Board "newest_touch"
 n_Board_numbers:NoAttr K cl.Board "numbers"
 n_Board_size:NoAttr K cl.Board "size"
 k_Hand:Cls K cl.Hand
 n_Hand_board:NoAttr K cl.Hand "board"
 n_Hand_here:NoAttr K cl.Hand "here"
 n_Hand_marks_read:NoAttr K cl.Hand "marks_read"
 n_Hand_name:NoAttr K cl.Hand "name"
 n_Hand_other:NoAttr K cl.Hand "other"
 n_Hand_stage_behind_marks:NoAttr K cl.Hand "stage_behind_marks"
 n_Hand_stage_now:NoAttr K cl.Hand "stage_now"
 n_Hand_touched:NoAttr K cl.Hand "touched"
 k_Giver:Cls K cl.Giver
 n_Giver_board:NoAttr K cl.Giver "board"
 n_Giver_here:NoAttr K cl.Giver "here"
 n_Giver_kept:NoAttr K cl.Giver "kept"
 n_Giver_left:NoAttr K cl.Giver "left"
 n_Giver_marks_read:NoAttr K cl.Giver "marks_read"
 n_Giver_name:NoAttr K cl.Giver "name"
 n_Giver_number:NoAttr K cl.Giver "number"
 n_Giver_other:NoAttr K cl.Giver "other"
 n_Giver_stage_behind_marks:NoAttr K cl.Giver "stage_behind_marks"
 n_Giver_stage_now:NoAttr K cl.Giver "stage_now"
 n_Giver_touched:NoAttr K cl.Giver "touched"
 k_Taker:Cls K cl.Taker
 n_Taker_board:NoAttr K cl.Taker "board"
 n_Taker_here:NoAttr K cl.Taker "here"
 n_Taker_left:NoAttr K cl.Taker "left"
 n_Taker_marks_read:NoAttr K cl.Taker "marks_read"
 n_Taker_name:NoAttr K cl.Taker "name"
 n_Taker_not_freed:NoAttr K cl.Taker "not_freed"
 n_Taker_number:NoAttr K cl.Taker "number"
 n_Taker_other:NoAttr K cl.Taker "other"
 n_Taker_parts:NoAttr K cl.Taker "parts"
 n_Taker_stage_behind_marks:NoAttr K cl.Taker "stage_behind_marks"
 n_Taker_stage_now:NoAttr K cl.Taker "stage_now"
 n_Taker_taken:NoAttr K cl.Taker "taken"
 n_Taker_touched:NoAttr K cl.Taker "touched"
 k_Lane:Cls K cl.Lane
 n_Lane_board:NoAttr K cl.Lane "board"
 n_Lane_giver:NoAttr K cl.Lane "giver"
 n_Lane_kept_trail:NoAttr K cl.Lane "kept_trail"
 n_Lane_taker:NoAttr K cl.Lane "taker"
 n_Lane_touched:NoAttr K cl.Lane "touched"
 r_DEEDS_hand:mg "DEEDS_hand" = some (.ref cl.d_DEEDS_hand)
 r_DEEDS_giver:mg "DEEDS_giver" = some (.ref cl.d_DEEDS_giver)
 r_DEEDS_taker:mg "DEEDS_taker" = some (.ref cl.d_DEEDS_taker)
 z_len:mg "len" = none
 z_range:mg "range" = none
 z_max:mg "max" = none
 z_min:mg "min" = none
 z_isinstance:mg "isinstance" = none
 z_int:mg "int" = none
 z_bool:mg "bool" = none
 z_list:mg "list" = none
 z_all:mg "all" = none
 z_tuple:mg "tuple" = none
local macro_rules | `(tactic| walk_at "at")=>`(tactic| first|assumption|exact d2|(refine (d3 ?_).trans ?_;(walk_at "ne");(walk_at "at"))|(refine Same.at ?_ ?_;assumption;(walk_at "at")))
local macro_rules | `(tactic| walk_at "ne")=>`(tactic| first|assumption|exact Ne.symm (by assumption)|((refine' d9 ?h ?n);(case n=>assumption);(case h=>walk_at "at"))|((refine Ne.symm ?_);(refine' d9 ?h ?n);(case n=>assumption);(case h=>walk_at "at")))
local macro_rules | `(tactic| walk_at "cond")=>`(tactic| first|trivial|exact Or.inl ⟨by decide,by decide⟩|exact Or.inr ⟨by decide,by decide⟩|exact Or.inl ⟨by lia,by lia⟩|exact Or.inr ⟨by lia,by lia⟩|(show(0:Int)<_;lia)|(show(0:Int)<_;decide))
local macro_rules | `(tactic| walk_at "go1")=>`(tactic| first
 | ((with_reducible refine' c3s ?h ?_);(case h=>exact rfl))
 | with_reducible refine g_c ?_|with_reducible refine c5q ?_|with_reducible refine g_un ?_|with_reducible refine c5z ?_|with_reducible refine g_U ?_
 | ((with_reducible refine' g_I ?h ?_);(case h=>walk_at "cond"))
 | ((with_reducible refine' c5v ?h ?_);(case h=>exact rfl))|((with_reducible refine' c5f ?h ?_);(case h=>exact rfl))
 | with_reducible refine c5w ?_|with_reducible refine c3y ?_|with_reducible refine c2q ?_
 | (with_reducible refine c3u ?_)|(with_reducible refine c4a ?_)|with_reducible refine c5u ?_|with_reducible refine c4f ?_
 | with_reducible refine c4g ?_|with_reducible refine c5r ?_|with_reducible refine g_mtJ ?_|with_reducible refine c5s ?_|with_reducible refine g_mkJ ?_
 | with_reducible refine c2c ?_|with_reducible refine c5o ?_|with_reducible refine c4k ?_|with_reducible refine c5p ?_|with_reducible refine c3x ?_|with_reducible refine c2s ?_|with_reducible refine c3w ?_|with_reducible refine g_notV ?_|with_reducible refine c4d ?_
 | with_reducible refine c5y ?_|with_reducible refine c3n ?_|with_reducible refine c3q ?_|with_reducible refine c3o ?_|with_reducible refine c3p ?_
 | ((with_reducible refine c2f ?_);intro _ _)|with_reducible refine c2i ?_|with_reducible refine c2p ?_|with_reducible refine c3v ?_|with_reducible refine g_retN ?_|with_reducible refine c5t ?_|with_reducible refine c4j ?_|with_reducible refine b7b ?_|with_reducible refine g_sub ?_|with_reducible refine c2d ?_|with_reducible refine g_raise ?_|with_reducible refine g_tryAs ?_
 | ((with_reducible refine' c2o ?h ?c ?n ?l ?_);(case h=>walk_at "at");(case c=>walk_at "cls");(case n=>walk_at "nat");(case l=>first|exact rfl|assumption))
 | ((with_reducible refine' c0b ?h ?c ?n ?l ?_);(case h=>walk_at "at");(case c=>walk_at "cls");(case n=>walk_at "nat");(case l=>exact Nat.le_of_ble_eq_true rfl))
 | with_reducible refine g_aug ?_|with_reducible refine g_rAdd ?_
 | ((with_reducible refine' g_aug1 ?h ?c ?n ?l ?_);(case h=>walk_at "at");(case c=>walk_at "cls");(case n=>walk_at "nat");(case l=>first|exact rfl|assumption))
 | ((with_reducible refine' g_aug2 ?h ?l ?_);(case h=>walk_at "at");(case l=>exact Nat.le_of_ble_eq_true rfl))
 | ((with_reducible refine' c3z ?h ?l ?_);(case h=>walk_at "at");(case l=>exact rfl))
 | ((with_reducible refine' a4u ?h ?e ?_);(case h=>walk_at "at");(case e=>exact rfl))
 | ((with_reducible refine' b7c ?h ?e ?_);(case h=>walk_at "at");(case e=>exact rfl))
 | ((with_reducible refine' c4b ?h ?_);(case h=>walk_at "at"))|((with_reducible refine' c2l ?h ?_);(case h=>walk_at "at"))|((with_reducible refine' c2m ?h ?_);(case h=>walk_at "at"))|((with_reducible refine' c0c ?h ?_);(case h=>walk_at "at"))|((with_reducible refine' c2a ?h ?_);(case h=>walk_at "at"))|with_reducible refine c0d ?_|with_reducible refine b8i ?_|with_reducible refine c1z ?_|with_reducible refine c2e ?_
 | with_reducible refine c4e ?_|with_reducible refine c2h ?_|with_reducible refine c2g ?_|with_reducible refine c2j ?_|with_reducible refine c2r ?_
 | ((with_reducible refine' b8x ?h1 ?h2 ?_);(case h1=>lia);(case h2=>lia))|((with_reducible refine' b8x ?h1 ?h2 ?_);(case h1=>decide);(case h2=>decide))
 | ((with_reducible refine' c2k ?h ?_);(case h=>exact SqL.of (by walk_at "at")))
 | with_reducible refine c4i ?_|((with_reducible refine' c0e ?h ?_);(case h=>walk_at "at"))
 | with_reducible refine c5x ?_|((with_reducible refine' c3t ?h ?_);(case h=>walk_at "at"))|((with_reducible refine' c0f ?h ?l ?_);(case h=>walk_at "at");(case l=>first|exact Nat.le_of_ble_eq_true rfl|lia))
 | ((with_reducible refine' c0a ?h ?_);(case h=>assumption))|((with_reducible refine c2n ?_);intro _ _))
local macro_rules | `(tactic| walk_at "go")=>`(tactic| repeat (walk_at "go1"))
local macro_rules | `(tactic| fail "")=>`(tactic| walk_at "go")
set_option hygiene false in
local macro_rules | `(tactic| walk_at "cls")=>`(tactic| first|assumption|exact T.k_Board|exact T.k_Hand|exact T.k_Giver|exact T.k_Taker|exact T.k_Lane)
set_option hygiene false in
local macro_rules | `(tactic| walk_at "nat")=>`(tactic| first|assumption|exact T.n_Board_many_touches|exact T.n_Board_newest_touch|exact T.n_Board_numbers|exact T.n_Board_size|exact T.n_Hand_board|exact T.n_Hand_here|exact T.n_Hand_marks_read|exact T.n_Hand_name|exact T.n_Hand_other|exact T.n_Hand_stage_behind_marks|exact T.n_Hand_stage_now|exact T.n_Hand_touched|exact T.n_Giver_board|exact T.n_Giver_here|exact T.n_Giver_kept|exact T.n_Giver_left|exact T.n_Giver_marks_read|exact T.n_Giver_name|exact T.n_Giver_number|exact T.n_Giver_other|exact T.n_Giver_stage_behind_marks|exact T.n_Giver_stage_now|exact T.n_Giver_touched|exact T.n_Taker_board|exact T.n_Taker_here|exact T.n_Taker_left|exact T.n_Taker_marks_read|exact T.n_Taker_name|exact T.n_Taker_not_freed|exact T.n_Taker_number|exact T.n_Taker_other|exact T.n_Taker_parts|exact T.n_Taker_stage_behind_marks|exact T.n_Taker_stage_now|exact T.n_Taker_taken|exact T.n_Taker_touched|exact T.n_Lane_board|exact T.n_Lane_giver|exact T.n_Lane_kept_trail|exact T.n_Lane_taker|exact T.n_Lane_touched)
section
variable{P:Program}{w:World}{K:Frag}{mg:Str->Option Value}{base:Heap}{cl:Cl}
def z7(cl:Cl):Sp:=λvs H Q E=>∃n,vs=[.int n]/\(if 2<=n/\n<=8 then Q .non H else False)
def a5x(cl:Cl)(n t:Int)(H:Hp)(E:XK)(k:Prop):Prop:=if 2<=n/\n<=8 then (if 0<=t/\t<2*n then k else False) else False
theorem a9m{cl:Cl}{n t:Int}{H:Hp}{E:XK}{k k':Prop}(h:a5x cl n t H E k)(i:2<=n->n<=8->0<=t->t<2*n->k->k'):a5x cl n t H E k':=by
 unfold a5x at h ⊢;by_cases a:2<=n/\n<=8
 ·rw[if_pos a] at h ⊢
  by_cases b:0<=t/\t<2*n
  ·rw[if_pos b] at h ⊢;exact i a.1 a.2 b.1 b.2 h
  ·rw[if_neg b] at h ⊢;exact h
 ·rw[if_neg a] at h ⊢;exact h
def a4x(cl:Cl):Sp:=λvs H Q E=>∃n t,vs=[.int n,.int t]/\a5x cl n t H E (Q .non H)
def a7n(cl:Cl):Sp:=λvs H Q E=>∃n a b,vs=[.int n,.int a,.int b]/\a5x cl n a H E (a5x cl n b H E (Q (.int ((b-a) % (2*n))) H))
abbrev a2r:Stmt:=top 15
theorem a9s:d8 ["size"] ["size"] (d5 a2r):=↑1
theorem b0l(D:DefT K mg "check_size" a2r ["size"])(T:Txt K mg cl):FnT P w K mg base "check_size" 1 ["size"] (z7 cl):=by
 refine D.fn a9s (λvs H Q E h=>?_) (λf cdv A outer s H vs Q E hr h=>?_)
 ·obtain⟨n,rfl,_⟩:=h
  rfl
 ·obtain⟨n,rfl,h⟩:=h
  refine⟨_,(d4 (m5 (PW.pt (a5n (g6 a5r (pv 0) (l7 T.m_LEAST_SIZE rfl) (g7 _)) (a1e (g6 b5b (pv 0) (l7 T.m_MOST_SIZE rfl) (g7 _)))))
    (d4 t9)
    i8)),?_⟩
  refine⟨_,rfl,_,_,rfl,rfl,_,rfl,b4k (λc=>?_) (λc=>⟨_,rfl,_,_,rfl,rfl,_,rfl,b4k (λd=>?_) (λd=>?_)⟩)⟩
  ·rw[if_neg (by have:=of_decide_eq_true c;lia)] at h
   exact b4k (λ_=>h) (λz=>absurd rfl z)
  ·rw[if_neg (by have:=of_decide_eq_true d;lia)] at h
   exact h
  ·simp only[decide_eq_true_eq] at c d
   rw[if_pos (by lia)] at h
   exact h
abbrev a2q:Stmt:=top 16
theorem a9r:d8 ["size","turn"] ["size","turn"] (d5 a2q):=↑1
theorem b0k(D:DefT K mg "check_turn" a2q ["size","turn"])(T:Txt K mg cl)(G_check_size:FnT P w K mg base "check_size" 1 ["size"] (z7 cl)):FnT P w K mg base "check_turn" 2 ["size","turn"] (a4x cl):=by
 refine D.fn a9r (λvs H Q E h=>?_) (λf cdv A outer s H vs Q E hr h=>?_)
 ·obtain⟨n,t,rfl,_⟩:=h
  rfl
 ·obtain⟨n,t,rfl,h⟩:=h
  refine⟨_,(c3 (j8 (i4 G_check_size hr (by decide) rfl f6 (c0 (pv 0) d0)))
   (d4 (m5 (PW.pt (a5n (g6 a5r (pv 1) d6 (g7 _)) (a1e (g6 b9t (pv 1) (i5 o6 d6 (pv 0)) (g7 _)))))
    (d4 t9)
    i8))),?_⟩
  unfold a5x at h;refine⟨_,rfl,n,rfl,b4k (λa=>?_) (λa=>?_)⟩
  ·rw[if_pos a] at h
   simp[c3d,tOr,b9e,tOp,rI0,rI,c2v,tC,L2.start,b9g,c0o,b9f,CMul];refine b4k (λc=>?_) (λc=>b4k (λd=>?_) (λd=>?_))
   ·rw[if_neg (by lia)] at h;exact h
   ·rw[if_neg (by lia)] at h;exact h
   ·rw[if_pos (by lia)] at h;exact h
  ·rw[if_neg a] at h
   exact h
abbrev a6e:Stmt:=top 20
theorem b3j:d8 ["size","one","other"] ["size","one","other"] (d5 a6e):=↑1
theorem b3s(D:DefT K mg "distance" a6e ["size","one","other"])(T:Txt K mg cl)(G_check_turn:FnT P w K mg base "check_turn" 2 ["size","turn"] (a4x cl)):FnT P w K mg base "distance" 3 ["size","one","other"] (a7n cl):=by
 refine D.fn b3j (λvs H Q E h=>?_) (λf cdv A outer s H vs Q E hr h=>?_)
 ·obtain⟨n,a,b,rfl,_⟩:=h
  rfl
 ·obtain⟨n,a,b,rfl,h⟩:=h
  refine⟨_,(c3 (j8 (i4 G_check_turn hr (by decide) rfl f6 (c0 (pv 0) (c0 (pv 1) d0))))
   (c3 (j8 (i4 G_check_turn hr (by decide) rfl f6 (c0 (pv 0) (c0 (pv 2) d0))))
   (d4 (f8 (i5 a3e (i5 a0t (pv 2) (pv 1)) (i5 o6 d6 (pv 0))))))),?_⟩
  refine⟨_,rfl,_,rfl,n,a,rfl,a9m h λn2 n8 t0 t1 q=>?_⟩;refine⟨_,rfl,_,rfl,n,b,rfl,a9m q λn2 n8 t0 t1 q=>?_⟩;exact⟨_,rfl,_,rfl,_,_,rfl,rfl,_,rfl,_,_,rfl,rfl,.inl ⟨by decide,by decide⟩,_,_,rfl,rfl,(by lia),q⟩
def Well(H:Hp)(w:Addr):Prop:=∃a b p,H w=some (.lst [.int a,.int b,.int p])/\0<p/\p<2147483648
def But(w:Addr)(H H':Hp):Prop:=∀b o,H b=some o->b≠w->H' b=some o
theorem But.refl(w:Addr)(H:Hp):But w H H:=λ_ _ e _=>e
theorem But.trans{w:Addr}{H H1 H2:Hp}(a:But w H H1)(b:But w H1 H2):But w H H2:=λc o e n=>b c o (a c o e n) n
theorem But.of{w:Addr}{H H':Hp}(s:Same H H'):But w H H':=λb o e _=>s b o e
theorem But.upd{w:Addr}{H:Hp}{o:HO}:But w H (upd H w o):=λb u e n=>by rw[d3 n];exact e
theorem d7{H:Hp}{p:Addr}{o:HO}(n:H p=none):Same H (upd H p o):=λb u e=>by rw[d3 (d9 e n)];exact e
theorem Well.same{H H':Hp}{w:Addr}(h:Well H w)(s:Same H H'):Well H' w:=let ⟨a,b,p,e,q⟩:=h;⟨a,b,p,s _ _ e,q⟩
theorem Well.at{H:Hp}{w:Addr}(h:Well H w):∃o,H w=some o:=let ⟨_,_,_,e,_⟩:=h;⟨_,e⟩
def v6:Sp:=λvs H Q _=>∃w m,vs=[.ref w,.int m]/\Well H w/\0<m/\m<2 ^ 200/\∀r H',0<=r->r<m->Well H' w->But w H H'->Q (.int r) H'
theorem c5m(n:Int)(h0:0<n)(h:n<2 ^ 200):n.natAbs.log2<9000:=by
 have h1:n.natAbs<2 ^ 200:=by lia
 have h2:=(Nat.log2_lt (n:=n.natAbs) (k:=200) (by lia)).mpr h1
 lia
abbrev a6d:Stmt:=top 131
theorem a7r:d8 ["well","many","got"] ["well","many"] (d5 a6d):=↑1
theorem b3r(D:DefT K mg "_law_take" a6d ["well","many"])(T:Txt K mg cl):FnT P w K mg base "_law_take" 1 ["well","many"] v6:=by
 refine D.fn a7r (λvs H Q E h=>?_) (λf cdv A outer s H vs Q E hr h=>?_)
 ·obtain⟨w,m,rfl,_⟩:=h
  rfl
 ·obtain⟨w,m,rfl,⟨a,b,p,hw,p0,p1⟩,m0,m1,k⟩:=h
  refine⟨_,(c3 (m5 (g6 b5b (q5 (j5 (K:=K)) (pv 0) d6 (λ_ _=>rfl)) d6 (g7 _))
     (
     c3 (i9 (i:=2) a7r.nd rfl (by first|exact Or.inl rfl|exact Or.inr rfl) (i5 a3e (q5 (j5 (K:=K)) (pv 0) d6 (λ_ _=>rfl)) (pv 1)))
     (c3 (a1z (i5 a5s (q5 (j5 (K:=K)) (pv 0) d6 (λ_ _=>rfl)) (pv 1)) (b8t (pv 0) d6 b4e))
     (d4 (f8 (pv 2)))))
     i8)
   (c3 (a1z (i5 y6 (i5 a3e (i5 o6 (q5 (j5 (K:=K)) (pv 0) d6 (λ_ _=>rfl)) d6) (q5 (j5 (K:=K)) (pv 0) d6 (λ_ _=>rfl))) d6) (b8t (pv 0) d6 b4e))
   (d4 (f8 (i5 a3e (i5 a5s (i5 a3e (i5 o6 (q5 (j5 (K:=K)) (pv 0) d6 (λ_ _=>rfl)) (q5 (j5 (K:=K)) (pv 0) d6 (λ_ _=>rfl))) d6) d6) (pv 1)))))),?_⟩
  refine⟨_,rfl,w,_,0,_,rfl,rfl,SqL.of hw,rfl,_,_,rfl,rfl,_,rfl,b4k (λc=>?_) (λc=>?_)⟩
  ·refine⟨_,rfl,w,_,0,_,rfl,rfl,SqL.of hw,rfl,_,rfl,_,_,rfl,rfl,m0,?_⟩
   refine⟨_,rfl,w,_,0,_,rfl,rfl,SqL.of hw,rfl,_,rfl,_,_,rfl,rfl,⟨m0,c5m m m0 m1⟩,_,rfl,w,_,0,0,rfl,rfl,hw,rfl,?_⟩;exact⟨_,rfl,k _ _ (Int.emod_nonneg _ (by lia)) (Int.emod_lt_of_pos _ m0) ⟨_,_,_,d2,p0,p1⟩ But.upd⟩
  ·refine⟨_,rfl,w,_,1,_,rfl,rfl,SqL.of hw,rfl,_,_,rfl,rfl,.inr ⟨by decide,by decide⟩,_,rfl,w,_,2,_,rfl,rfl,SqL.of hw,rfl,_,_,rfl,rfl,p0,_,_,rfl,rfl,_,rfl,w,_,1,1,rfl,rfl,hw,rfl,?_⟩
   have h1:=Int.emod_nonneg (b*48271) (show p≠0 by lia)
   have h2:=Int.emod_lt_of_pos (b*48271) p0;refine⟨_,rfl,w,_,1,_,rfl,rfl,SqL.of d2,rfl,_,rfl,w,_,1,_,rfl,rfl,SqL.of d2,rfl,_,_,rfl,rfl,.inl ⟨by lia,by lia⟩,_,_,rfl,rfl,(by show(0:Int)<2147483423;decide),_,_,rfl,rfl,⟨by decide,by decide⟩,_,rfl,_,_,rfl,rfl,m0,?_⟩
   exact k _ _ (Int.emod_nonneg _ (by lia)) (Int.emod_lt_of_pos _ m0) ⟨_,_,_,d2,p0,p1⟩ But.upd
theorem b4a{ns:List Int}{n:Nat}(h:n<ns.length):atI (ns.map V.int) (n:Int)=some (.int ns[n]):=by
 have hl:(ns.map V.int).length=ns.length:=List.length_map _;unfold atI ixN;rw[if_pos (by lia),if_pos (by lia)]
 show(ns.map V.int)[(n:Int).toNat]?=_;rw[show(n:Int).toNat=n by lia,List.getElem?_map,List.getElem?_eq_getElem h]
 rfl
abbrev b9m:List V:=[.int 2147483647,.int 2147483629,.int 2147483587,.int 2147483579,.int 2147483563,.int 2147483549,.int 2147483543,.int 2147483497]
theorem b6e(j:Int)(h0:0<=j)(h1:j<8):∃v,atI b9m j=some (.int v)/\0<v/\v<2147483648:=by
 have:j=0\/j=1\/j=2\/j=3\/j=4\/j=5\/j=6\/j=7:=by lia
 rcases this with rfl|rfl|rfl|rfl|rfl|rfl|rfl|rfl <;> exact⟨_,rfl,by decide,by decide⟩
def a7l(K:Frag):Sp:=λvs H Q _=>∃(c:Addr)(ns:List Int)(k:Nat),vs=[.ref c,.int (k:Int)]/\SqL K H c (ns.map V.int)/\k<1000/\∀w H',H w=none->Same H H'->Well H' w->Q (.ref w) H'
abbrev a6c:Stmt:=top 130
theorem v7:d8 ["script","k","cell","primes","seed"] ["script","k"] (d5 a6c):=↑1
theorem b3q(D:DefT K mg "_law_well" a6c ["script","k"])(T:Txt K mg cl):FnT P w K mg base "_law_well" 1 ["script","k"] (a7l K):=by
 refine D.fn v7 (λvs H Q E h=>?_) (λf cdv A outer s H vs Q E hr h=>?_)
 ·obtain⟨c,ns,k,rfl,_⟩:=h
  rfl
 ·obtain⟨c,ns,n,rfl,hc,hn,k⟩:=h
  refine⟨_,(c3 (i9 (i:=2) v7.nd rfl (by first|exact Or.inl rfl|exact Or.inr rfl) d6)
   (c3 (m5 (g6 a5r (pv 1) (j3 (i6 (K:=K)) (by rfl) T.z_len PySem.boot_len (c0 (pv 0) d0)) (g7 _))
     (d4 (i9 (i:=2) v7.nd rfl (by first|exact Or.inl rfl|exact Or.inr rfl) (q5 (j5 (K:=K)) (pv 0) (pv 1) (λ_ _=>rfl))))
     i8)
   (c3 (i9 (i:=3) v7.nd rfl (by first|exact Or.inl rfl|exact Or.inr rfl) (l8 (c0 d6 (c0 d6 (c0 d6 (c0 d6 (c0 d6 (c0 d6 (c0 d6 (c0 d6 d0))))))))))
   (c3 (i9 (i:=4) v7.nd rfl (by first|exact Or.inl rfl|exact Or.inr rfl) (i5 a3e (i5 o6 (i5 y6 (i5 a3e (pv 2) d6) d6) (i5 y6 d6 (i5 o6 d6 (pv 1)))) d6))
   (c3 (i9 (i:=4) v7.nd rfl (by first|exact Or.inl rfl|exact Or.inr rfl) (i5 y6 (i5 y6 (i5 a3e (i5 o6 (pv 4) (pv 4)) d6) (pv 1)) d6))
   (c3 (m5 (g6 b9t (pv 2) (i5 b4h d6 d6) (g7 _))
     (d4 (f8 (l8 (c0 (pv 2) (c0 (pv 4) (c0 (q5 (j5 (K:=K)) (pv 3) (i5 a3e (pv 1) d6) (λ_ _=>rfl)) d0))))))
     i8)
   (d4 (f8 (l8 (c0 d6 (c0 (pv 4) (c0 (q5 (j5 (K:=K)) (pv 3) (i5 a3e (pv 1) d6) (λ_ _=>rfl)) d0)))))))))))),?_⟩
  refine⟨_,rfl,_,rfl,c,_,rfl,.inl hc,_,_,rfl,rfl,_,rfl,b4k (λa=>⟨_,rfl,_,rfl,c,_,(n:Int),_,rfl,rfl,hc,b4a (by have:=of_decide_eq_true a;rw[List.length_map] at this;lia),?_⟩) (λa=>?_)⟩
  all_goals
   refine⟨by show 8<=sizeLine;decide,λp hp=>?_⟩
   refine⟨_,rfl,_,_,rfl,rfl,(by show(0:Int)<2147483489;decide),_,_,rfl,rfl,_,rfl,_,_,rfl,rfl,.inl ⟨by decide,by decide⟩,_,_,rfl,rfl,_,_,rfl,rfl,.inl ⟨by lia,by lia⟩,_,_,rfl,rfl,(by show(0:Int)<2147483489;decide),?_⟩
   refine⟨_,rfl,_,rfl,_,_,rfl,rfl,.inl ⟨by lia,by lia⟩,_,_,rfl,rfl,(by show(0:Int)<2147483477;decide),_,rfl,_,_,rfl,rfl,_,_,rfl,rfl,?_⟩
   refine⟨_,rfl,_,_,rfl,rfl,⟨by decide,by decide,by decide⟩,_,_,rfl,rfl,_,rfl,b4k (λb=>?_) (λb=>?_)⟩
   all_goals
    obtain⟨v,hv,v0,v1⟩:=b6e ((n:Int) % 8) (by lia) (by lia)
    first
     | refine⟨_,rfl,_,rfl,_,rfl,_,rfl,_,_,rfl,rfl,(by show(0:Int)<8;decide),p,_,_,_,rfl,rfl,SqL.of d2,hv,(by show 3<=sizeLine;decide),λq hq=>?_⟩
     | refine⟨_,rfl,_,rfl,_,rfl,_,_,rfl,rfl,(by show(0:Int)<8;decide),p,_,_,_,rfl,rfl,SqL.of d2,hv,(by show 3<=sizeLine;decide),λq hq=>?_⟩
    exact k q _ ((d7 hp).free hq) ((d7 hp).trans (d7 hq)) ⟨_,_,_,d2,v0,v1⟩
theorem c1d{ns:List Int}{Pr:Int->Prop}(h:∀v∈ns,Pr v){r:Int}(h0:0<=r)(h1:r<ns.length):∃v,atI (ns.map V.int) r=some (.int v)/\Pr v:=by
 have hr:r.toNat<ns.length:=by lia
 refine⟨ns[r.toNat],?_,h _ (List.getElem_mem hr)⟩;have e:=b4a hr
 rwa [show((r.toNat:Nat):Int)=r by lia] at e
theorem Well.ne{H:Hp}{w p:Addr}(h:Well H w)(n:H p=none):p≠w:=by
 obtain⟨o,e⟩:=h.at;exact(d9 e n).symm
theorem But.nw{w:Addr}{H0 H:Hp}{p:Addr}{o:HO}(s:But w H0 H)(n:H p=none):But w H0 (L2.upd H p o):=s.trans (But.of (d7 n))
theorem But.free{w p:Addr}{H0 H:Hp}(s:But w H0 H)(hw:Well H w)(n:H p=none):H0 p=none:=by
 cases e:H0 p with
 | none=>rfl
 | some o=>
  have:=s p o e (hw.ne n);rw[n] at this;cases this
theorem b1b{H:Hp}{p q:Addr}{ns:List Int}(ne:p≠q)(hp:H p=some (.lst (ns.map V.int)))(hq:H q=some (.lst (ns.map V.int))):EqD K H 1 (.ref p) (.ref q) true:=by
 have h:=b8l (K:=K) ne (SqL.of hp) (SqL.of hq) (b2x _) (b2x _);rw[b4q] at h
 simpa using h
def Kp(ps:List Addr)(H H':Hp):Prop:=∀c o,H c=some o->c ∉ ps->H' c=some o
theorem Kp.of{ps:List Addr}{H H1:Hp}(a:Same H H1):Kp ps H H1:=λc o e _=>a c o e
def a5w(n:Nat):List Int:=(List.replicate n [2,-1,0,0]).flatten++[-1,-1,0,0]
theorem a9k(n:Nat):(a5w n).length=4*n+4:=by
 unfold a5w;rw[List.length_append,b3t];show n*4+4=_;lia
theorem b9j(n:Nat)(ns:List Int):(List.replicate n (ns.map V.int)).flatten=((List.replicate n ns).flatten).map V.int:=by
 induction n with
 | zero=>rfl
 | succ n ih=>rw[List.replicate_succ,List.replicate_succ,List.flatten_cons,List.flatten_cons,List.map_append,ih]
def Brd(cl:Cl)(H:Hp)(b l:Addr)(n:Nat)(row:List Int)(many:Int)(last:V):Prop :=
 (∃dx,H b=some (.ins cl.Board dx [("size",.int n),("numbers",.ref l),("many_touches",.int many),("newest_touch",last)]))/\H l=some (.lst (row.map V.int))/\row.length=4*n+4/\2<=n/\n<=8
theorem Brd.keep{cl:Cl}{H H':Hp}{b l:Addr}{n:Nat}{row:List Int}{many:Int}{last:V}{ps:List Addr}(h:Brd cl H b l n row many last)(k:Kp ps H H')(hb:b ∉ ps)(hl:l ∉ ps):Brd cl H' b l n row many last:=by
 obtain⟨⟨dx,e⟩,e',z⟩:=h;exact⟨⟨dx,k _ _ e hb⟩,k _ _ e' hl,z⟩
def a1i(cl:Cl):Sp:=λvs H Q E=>∃h:Str,vs=[.str h]/\(if h="giver"\/h="taker" then Q .non H else False)
def b1k(d:Int):Sp:=λvs H Q _=>∃p,vs=[.int p]/\Q (.int (4*p+d)) H
def b3z(cl:Cl)(n:Int)(h:Str)(H:Hp)(E:XK)(k:Prop):Prop:=if 2<=n/\n<=8 then (if h="giver"\/h="taker" then k else False) else False
def b6z(h:Str):Int:=if h="giver" then 0 else 1
def a2i(cl:Cl):Sp:=λvs H Q E=>∃(n:Int)(h:Str),vs=[.int n,.str h]/\b3z cl n h H E (Q (.int (4*n+b6z h)) H)
def a6t(cl:Cl):Sp:=λvs H Q E=>∃(n:Int)(h:Str),vs=[.int n,.str h]/\b3z cl n h H E (Q (.int (4*n+b6z h+2)) H)
def a2g:Sp:=λvs H Q _=>∃n:Nat,vs=[.int n]/\n<=8/\∀l H',H l=none->Same H H'->H' l=some (.lst ((a5w n).map V.int))->Q (.ref l) H'
theorem a6m(x y:Str):eqV (.str x) (.str y)=decide (x=y):=by
 first
  | rfl
  | (unfold eqV;simp)
abbrev a2s:Stmt:=top 40
theorem a9t:d8 ["hand"] ["hand"] (d5 a2s):=↑1
theorem b0m(D:DefT K mg "check_hand" a2s ["hand"])(T:Txt K mg cl):FnT P w K mg base "check_hand" 1 ["hand"] (a1i cl):=by
 refine D.fn a9t (λvs H Q E h=>?_) (λf cdv A outer s H vs Q E hr h=>?_)
 ·obtain⟨n,rfl,_⟩:=h
  rfl
 ·obtain⟨n,rfl,h⟩:=h
  refine⟨_,(d4 (m5 (g6 (a7w (K:=K)) (pv 0) (a0l T.r_HANDS rfl) (by with_unfolding_all rfl))
    (d4 t9)
    i8)),?_⟩
  fail "";refine⟨_,_,rfl,.inr T.kt_HANDS.sq,rfl,rfl,?_⟩;fail "";have e:inV (.str n) [.str "giver",.str "taker"]=decide (n="giver"\/n="taker"):=by
   unfold inV;simp only[List.any_cons,List.any_nil,a6m,Bool.or_false];rw[Bool.eq_iff_iff];simp only[Bool.or_eq_true,decide_eq_true_eq];exact or_congr eq_comm eq_comm
  simp only[if_true,e];refine b2v (λc=>?_) (λc=>?_)
  ·rw[if_neg c] at h
   fail "";exact h
  ·rw[if_pos c] at h
   fail "";exact h
abbrev a4h:Stmt:=top 41
theorem b1q:d8 ["place"] ["place"] (d5 a4h):=↑1
theorem b2i(D:DefT K mg "mark_cell" a4h ["place"])(T:Txt K mg cl):FnT P w K mg base "mark_cell" 1 ["place"] (b1k 0):=by
 refine D.fn b1q (λvs H Q E h=>?_) (λf cdv A outer s H vs Q E hr h=>?_)
 ·obtain⟨n,rfl,_⟩:=h
  rfl
 ·obtain⟨n,rfl,h⟩:=h
  refine⟨_,(d4 (f8 (i5 o6 (l7 T.m_CELLS_OF_A_PLACE rfl) (pv 0)))),?_⟩;fail "";rw[Int.add_zero] at h;exact h
abbrev a4l:Stmt:=top 45
theorem b1r:d8 ["size","hand"] ["size","hand"] (d5 a4l):=↑1
theorem b2m(D:DefT K mg "card_cell" a4l ["size","hand"])(T:Txt K mg cl)(G_check_size:FnT P w K mg base "check_size" 1 ["size"] (z7 cl))(G_check_hand:FnT P w K mg base "check_hand" 1 ["hand"] (a1i cl)):FnT P w K mg base "card_cell" 2 ["size","hand"] (a2i cl):=by
 refine D.fn b1r (λvs H Q E h=>?_) (λf cdv A outer s H vs Q E hr h=>?_)
 ·obtain⟨n,x,rfl,_⟩:=h
  rfl
 ·obtain⟨n,x,rfl,h⟩:=h
  refine⟨_,(c3 (j8 (i4 G_check_size hr (by decide) rfl f6 (c0 (pv 0) d0)))
   (c3 (j8 (i4 G_check_hand hr (by decide) rfl f6 (c0 (pv 1) d0)))
   (d4 (f8 (i5 y6 (i5 o6 (l7 T.m_CELLS_OF_A_PLACE rfl) (pv 0)) (b5a (K:=K) (a0l T.r_HANDS rfl) (c0 (pv 1) d0))))))),?_⟩
  unfold b3z at h;fail "";refine⟨n,rfl,b4k (λa=>?_) (λa=>?_)⟩
  ·rw[if_pos a] at h
   fail "";refine⟨x,rfl,b4k (λb=>?_) (λb=>?_)⟩
   ·rw[if_pos b] at h
    fail "";refine⟨T.kt_HANDS.ty,?_⟩;fail "";refine⟨_,_,_,_,rfl,rfl,T.kt_HANDS,rfl,rfl,rfl,?_,?_⟩
    ·rw[a6m,a6m,decide_eq_true_eq,decide_eq_true_eq]
     exact b.imp Eq.symm Eq.symm
    ·fail ""
     have e:(if eqV (.str "giver") (.str x)=true then (0:Int) else 1)=b6z x:=by
      unfold b6z;rw[a6m];simp only[decide_eq_true_eq];by_cases c:x="giver"
      ·rw[if_pos c,if_pos c.symm]
      ·rw[if_neg c,if_neg λz=>c z.symm]
     rw[e];exact h
   ·rw[if_neg b] at h
    exact h
  ·rw[if_neg a] at h
   exact h
abbrev a4m:Stmt:=top 46
theorem b1s:d8 ["size","hand"] ["size","hand"] (d5 a4m):=↑1
theorem b2n(D:DefT K mg "bell_cell" a4m ["size","hand"])(T:Txt K mg cl)(G_card_cell:FnT P w K mg base "card_cell" 2 ["size","hand"] (a2i cl)):FnT P w K mg base "bell_cell" 3 ["size","hand"] (a6t cl):=by
 refine D.fn b1s (λvs H Q E h=>?_) (λf cdv A outer s H vs Q E hr h=>?_)
 ·obtain⟨n,x,rfl,_⟩:=h
  rfl
 ·obtain⟨n,x,rfl,h⟩:=h
  refine⟨_,(d4 (f8 (i5 y6 (i4 G_card_cell hr (by decide) rfl f6 (c0 (pv 0) (c0 (pv 1) d0))) (j3 (i6 (K:=K)) (by rfl) T.z_len PySem.boot_len (c0 (a0l T.r_HANDS rfl) d0))))),?_⟩
  unfold b3z at h;fail "";refine⟨n,x,rfl,?_⟩;unfold b3z;refine b4k (λa=>b4k (λb=>?_) (λb=>?_)) (λa=>?_)
  ·rw[if_pos a,if_pos b] at h
   fail "";refine⟨_,_,rfl,.inr T.kt_HANDS.sq,?_⟩;fail "";exact h
  ·rw[if_pos a,if_neg b] at h
   exact h
  ·rw[if_neg a] at h
   exact h
abbrev a4f:Stmt:=top 47
theorem b1o:d8 ["size"] ["size"] (d5 a4f):=↑1
theorem b2g(D:DefT K mg "new_cells" a4f ["size"])(T:Txt K mg cl):FnT P w K mg base "new_cells" 1 ["size"] a2g:=by
 refine D.fn b1o (λvs H Q E h=>?_) (λf cdv A outer s H vs Q E hr h=>?_)
 ·obtain⟨n,rfl,_⟩:=h
  rfl
 ·obtain⟨n,rfl,h8,k⟩:=h
  refine⟨_,(d4 (f8 (i5 a9j (i5 c1l (l8 (c0 (l7 T.m_NEW_MARK rfl) (c0 (l7 T.m_NO_ORDER rfl) (c0 d6 (c0 d6 d0))))) (pv 0)) (l8 (c0 (l7 T.m_NO_TURN rfl) (c0 (l7 T.m_NO_TURN rfl) (c0 (l7 T.m_STILL rfl) (c0 (l7 T.m_STILL rfl) d0)))))))),?_⟩;have h20:2000<=sizeLine:=by decide
  fail "";refine⟨by show 4<=sizeLine;lia,λp1 h1=>?_⟩
  fail "";refine⟨p1,n,_,rfl,rfl,d2,by lia,by lia,by show 4*(n:Int).toNat<=sizeLine;lia,λp2 h2=>?_⟩
  fail "";refine⟨by show 4<=sizeLine;lia,λp3 h3=>?_⟩
  refine b5k (d7 h3 _ _ d2) d2 ?_ (λp4 h4=>?_)
  ·rw[b3t]
   show(n:Int).toNat*4+4<=sizeLine;lia
  refine k p4 _ ((((d7 h1).trans (d7 h2)).trans (d7 h3)).free h4) ((((d7 h1).trans (d7 h2)).trans (d7 h3)).trans (d7 h4)) ?_;rw[d2];unfold a5w;rw[List.map_append,show((n:Int)).toNat=n by lia]
  rw[<- b9j n [2,-1,0,0]]
  rfl
theorem b7t:(0:Int)<10 ^ 59/\(10:Int) ^ 59<2 ^ 200-1/\(5:Int)*10 ^ 58+5*10 ^ 58=10 ^ 59/\(8:Int)<5*10 ^ 58:=by decide
def b8n(x:Int):Prop:=-(5*10 ^ 58)<=x/\x<=5*10 ^ 58
def a6r:Sp:=λvs H Q _=>∃(w:Addr)(n:Int),vs=[.ref w,.int n]/\Well H w/\1<=n/\n<=8/\∀(p:Addr)(H':Hp)(row:List Int),H p=none->H' p=some (.lst (row.map V.int))->1<=row.length->(row.length:Int)<=n->(∀x∈row,b8n x)->Well H' w->But w H H'->Q (.ref p) H'
abbrev a4j:Stmt:=top 132
theorem y3:d8 ["well","size","way","order","k","far"] ["well","size"] (d5 a4j):=↑1
theorem b2k(D:DefT K mg "_law_order" a4j ["well","size"])(T:Txt K mg cl)(G_law_take:FnT P w K mg base "_law_take" 1 ["well","many"] v6):FnT P w K mg base "_law_order" 2 ["well","size"] a6r:=by
 refine D.fn y3 (λvs H Q E h=>?_) (λf cdv A outer s H vs Q E hr h=>?_)
 ·obtain⟨w,n,rfl,_⟩:=h
  rfl
 ·obtain⟨w,n,rfl,hw,n1,n8,k⟩:=h
  refine⟨_,(c3 (i9 (i:=2) y3.nd rfl (by first|exact Or.inl rfl|exact Or.inr rfl) (i4 G_law_take hr (by decide) rfl f6 (c0 (pv 0) (c0 d6 d0))))
   (c3 (i9 (i:=3) y3.nd rfl (by first|exact Or.inl rfl|exact Or.inr rfl) (l8 d0))
   (c3 (a9g a3l rfl (u0 rfl T.z_range (c0 (q5 (j5 (K:=K)) (l8 (c0 d6 (c0 (pv 1) (c0 (i5 y6 d6 (i4 G_law_take hr (by decide) rfl f6 (c0 (pv 0) (c0 (pv 1) d0)))) d0)))) (pv 2) (λ_ _=>rfl)) d0)) (f7 (i:=4) y3.nd rfl (by first|exact Or.inl rfl|exact Or.inr rfl))
     (
     c3 (i9 (i:=5) y3.nd rfl (by first|exact Or.inl rfl|exact Or.inr rfl) (i5 a0t (i4 G_law_take hr (by decide) rfl f6 (c0 (pv 0) (c0 (i5 b4h d6 d6) d0))) (i5 o6 d6 (i5 b4h d6 d6))))
     (d4 (j8 (a9i (K:=K) (pv 3) (c0 (q5 (j5 (K:=K)) (l8 (c0 (i5 a0t (i4 G_law_take hr (by decide) rfl f6 (c0 (pv 0) (c0 d6 d0))) d6) (c0 (pv 5) d0))) (i5 a5s (i4 G_law_take hr (by decide) rfl f6 (c0 (pv 0) (c0 d6 d0))) d6) (λ_ _=>rfl)) d0))))))
   (d4 (f8 (pv 3)))))),?_⟩
  have h20:2000<=sizeLine:=by decide
  fail "";refine⟨w,3,rfl,hw,by decide,by decide,λway H1 a1 c1 w1 b1=>?_⟩
  fail "";refine⟨Nat.zero_le _,λp hp=>?_⟩;have hp0:H p=none:=b1.free w1 hp;have np:p≠w:=w1.ne hp;fail "";refine⟨w,n,rfl,w1.same (d7 hp),by lia,by lia,λr H2 a2 c2 w2 b2=>?_⟩
  have e2:H2 p=some (.lst (([]:List Int).map V.int)):=b2 p _ d2 np;have bb2:But w H H2:=b1.trans ((But.of (d7 hp)).trans b2);fail "";refine⟨by show 3<=sizeLine;lia,λq hq=>?_⟩
  obtain⟨N,hN,g1,g8⟩:=c1d (ns:=[1,n,1+r]) (Pr:=λv=>1<=v/\v<=n) (by intro v hv;simp only[List.mem_cons,List.not_mem_nil,or_false] at hv;lia) a1 c1
  fail "";refine a4u d2 hN ?_;fail "";refine a3p (n:=N.toNat) (λi σ H'=>∃x4 x5 row,σ=[some (.ref w),some (.int n),some (.int way),some (.ref p),x4,x5]/\H' p=some (.lst ((row:List Int).map V.int))/\row.length=i/\(∀x∈row,b8n x)/\Well H' w/\But w H H') ⟨_,_,[],rfl,d7 hq _ _ e2,rfl,by simp,w2.same (d7 hq),bb2.nw hq⟩ ?_ ?_
  ·rintro i σ H3 hi ⟨x4,x5,row,rfl,e3,hl,hs,w3,b3⟩
   fail "";refine⟨w,_,rfl,w3,b7t.1,Int.lt_trans b7t.2.1 (by decide),λr4 H4 a4 c4 w4 b4=>?_⟩
   have c4:r4<10 ^ 59:=c4;have e4:H4 p=_:=b4 p _ e3 np;fail "";refine⟨w,9,rfl,w4,by decide,by decide,λr5 H5 a5 c5 w5 b5=>?_⟩
   have e5:H5 p=_:=b5 p _ e4 np;fail "";refine⟨by show 2<=sizeLine;lia,λq hq=>?_⟩
   have nq:q≠w:=w5.ne hq;have e5':upd H5 q (.lst [.int (r5-4),.int (r4-5*10 ^ 58)]) p=_:=d7 hq _ _ e5;fail "";refine⟨w,5,rfl,w5.same (d7 hq),by decide,by decide,λr6 H6 a6 c6 w6 b6=>?_⟩
   have e6:H6 p=_:=b6 p _ e5' np;have e6q:H6 q=_:=b6 q _ d2 nq;fail "";obtain⟨y,hy,sy⟩:=c1d (ns:=[r5-4,r4-5*10 ^ 58]) (Pr:=b8n) (by
    have z1:=b7t.2.2.1;have z2:=b7t.2.2.2;intro v hv;simp only[List.mem_cons,List.not_mem_nil,or_false] at hv;unfold b8n;rcases hv with rfl|rfl <;> constructor <;> lia) (r:=r6 / 4) (by lia) (by show r6 / 4<2;lia)
   refine a4u e6q hy ?_;fail "";refine c0f e6 (by rw[List.length_map];lia) ?_
   fail "";refine⟨_,_,row++[y],rfl,by rw[d2,List.map_append];rfl,by rw[List.length_append];show row.length+1=_;lia,?_,?_,?_⟩
   ·intro x hx
    rcases List.mem_append.mp hx with h|h
    ·exact hs x h
    ·rw[List.mem_singleton.mp h];exact sy
   ·obtain⟨a,b,pr,z,zz⟩:=w6
    exact⟨a,b,pr,(d3 np.symm).trans z,zz⟩
   ·have:But w H H6:=b3.trans (b4.trans (b5.trans ((But.of (d7 hq)).trans b6)))
    intro c o e ne;rw[d3 (d9 e hp0)];exact this c o e ne
  ·rintro σ H3 ⟨x4,x5,row,rfl,e3,hl,hs,w3,b3⟩
   fail "";exact k p H3 row hp0 e3 (by lia) (by lia) hs w3 b3
def Rws(H:Hp)(a:Addr)(os:List (List Int)):Prop:=∃ps:List Addr,H a=some (.lst (ps.map V.ref))/\ps.length=os.length/\∀(i:Nat)(p:Addr)(o:List Int),ps[i]?=some p->os[i]?=some o->H p=some (.lst (o.map V.int))
theorem Rws.same{H H':Hp}{a:Addr}{os:List (List Int)}(h:Rws H a os)(s:Same H H'):Rws H' a os:=by
 obtain⟨ps,e,l,r⟩:=h;exact⟨ps,s _ _ e,l,λi p o hp ho=>s _ _ (r i p o hp ho)⟩
def b4d(K:Frag):Sp:=λvs H Q _=>∃(a:Addr)(ns:List Int),vs=[.ref a]/\SqL K H a (ns.map V.int)/\ns.length<=63/\∀H',Q (.bl true) H'
inductive ExB(R:Addr->Addr->Nat->List Int->Int->V->Prop):Prop
 | mk (b l:Addr) (n:Nat) (row:List Int) (many:Int) (last:V) (h:R b l n row many last):ExB R
def a5h(cl:Cl):Sp:=λvs H Q E=>∃(x dx:Addr)(n:Int),vs=[.ref x,.int n]/\H x=some (.ins cl.Board dx []) /\
 (if 2<=n/\n<=8 then ∀l H',H l=none->Kp [x] H H'->Brd cl H' x l n.toNat (a5w n.toNat) 0 .non->Q .non H' else False)
def a0s(cl:Cl):Sp:=λvs H Q _=>ExB λb l n row many last=>vs=[.ref b]/\Brd cl H b l n row many last/\∀p,H p=none->Q (.ref p) (upd H p (.lst (row.map V.int)))
def a1w(cl:Cl):Sp:=λvs H Q _=>ExB λb l n row many last=>vs=[.ref b]/\Brd cl H b l n row many last/\Q (.int many) H
theorem b7p{row:List Int}{c:Int}(h0:0<=c)(h1:c<row.length):atI (row.map V.int) c=some (.int (row.getD c.toNat 0)):=by
 have hn:c.toNat<row.length:=by lia
 have e:=b4a hn;rw[show((c.toNat:Nat):Int)=c by lia] at e
 rw[e,List.getD_eq_getElem?_getD,List.getElem?_eq_getElem hn]
 rfl
abbrev a3b:Stmt:=k6 (top 51) 0
theorem b0b:d8 ["self","size"] ["self","size"] (d5 a3b):=↑1
theorem b0x(D:DefM K cl.Board "__init__" "Board.__init__" a3b ["self","size"])(T:Txt K mg cl)(G_check_size:FnT P w K mg base "check_size" 1 ["size"] (z7 cl))(G_new_cells:FnT P w K mg base "new_cells" 1 ["size"] a2g):MethT P w K mg base cl.Board "__init__" 2 ["self","size"] (a5h cl):=by
 refine D.fn b0b (λvs H Q E h=>?_) (λf cdv A outer s H vs Q E hr h=>?_)
 ·obtain⟨x,dx,n,rfl,_⟩:=h
  rfl
 ·obtain⟨x,dx,n,rfl,ex,h⟩:=h
  refine⟨_,(c3 (j8 (i4 G_check_size hr (by decide) rfl f6 (c0 (pv 1) d0)))
   (c3 (j2 (K:=K) (pv 0) (pv 1))
   (c3 (j2 (K:=K) (pv 0) (i4 G_new_cells hr (by decide) rfl f6 (c0 (pv 1) d0)))
   (c3 (j2 (K:=K) (pv 0) d6)
   (d4 (j2 (K:=K) (pv 0) a6y)))))),?_⟩
  fail "";refine⟨n,rfl,b4k (λa=>?_) (λa=>?_)⟩
  ·rw[if_pos a] at h
   fail "";refine⟨n.toNat,by rw[show((n.toNat:Nat):Int)=n by lia],by lia,λl H1 hl s1 e1=>?_⟩
   have nx:l≠x:=by
    rintro rfl;rw[d2] at hl;cases hl
   have ex1:=s1 _ _ d2;fail "";have el:H l=none:=by rw[d3 nx] at hl;exact hl
   refine h l _ el ?_ ⟨⟨dx,?_⟩,?_,a9k _,by lia,by lia⟩
   ·intro c o e n
    have nc:c≠x:=λz=>n (by simp[z])
    rw[d3 nc,d3 nc,d3 nc];exact s1 _ _ (by rw[d3 nc];exact e)
   ·rw[d2,show((n.toNat:Nat):Int)=n by lia]
    rfl
   ·rw[d3 nx,d3 nx,d3 nx]
    exact e1
  ·rw[if_neg a] at h
   exact h
abbrev y0:Stmt:=k6 (top 51) 6
theorem a5m:d8 ["self"] ["self"] (d5 y0):=↑1
theorem a5v(D:DefM K cl.Board "all_cells" "Board.all_cells" y0 ["self"])(T:Txt K mg cl):MethT P w K mg base cl.Board "all_cells" 1 ["self"] (a0s cl):=by
 refine D.fn a5m (λvs H Q E h=>?_) (λf cdv A outer s H vs Q E hr h=>?_)
 ·obtain⟨b,l,n,row,many,last,rfl,_⟩:=h
  rfl
 ·obtain⟨b,l,n,row,many,last,rfl,⟨⟨dx,eb⟩,el,hl,n2,n8⟩,h⟩:=h
  refine⟨_,(d4 (f8 (g9 (m4 (K:=K)) (by rfl) T.z_list PyProof.Rows.boot_list (c0 (g0 (K:=K) (pv 0)) d0)))),?_⟩
  fail "";exact h
abbrev a0k:Stmt:=k6 (top 51) 7
theorem a7b:d8 ["self"] ["self"] (d5 a0k):=↑1
theorem a7h(D:DefM K cl.Board "touches" "Board.touches" a0k ["self"])(T:Txt K mg cl):MethT P w K mg base cl.Board "touches" 1 ["self"] (a1w cl):=by
 refine D.fn a7b (λvs H Q E h=>?_) (λf cdv A outer s H vs Q E hr h=>?_)
 ·obtain⟨b,l,n,row,many,last,rfl,_⟩:=h
  rfl
 ·obtain⟨b,l,n,row,many,last,rfl,⟨⟨dx,eb⟩,el,hl,n2,n8⟩,h⟩:=h
  refine⟨_,(d4 (f8 (g0 (K:=K) (pv 0)))),?_⟩;fail "";exact h
def a3i(n:Nat)(row:List Int):List Int:=(List.range n).map λ(q:Nat)=>row.getD (4*q) 0
theorem a8c(n:Nat)(row:List Int):(a3i n row).length=n:=by unfold a3i;rw[List.length_map,List.length_range]
theorem b5e{n:Nat}{row:List Int}{q:Nat}(h:q<n):(a3i n row)[q]?=some (row.getD (4*q) 0):=by
 unfold a3i;rw[List.getElem?_map,List.getElem?_range h]
 rfl
structure c2t(n:Nat)(row:List Int):Prop where
 mks:∀q,q<n->0<=row.getD (4*q) 0/\row.getD (4*q) 0<=3
 cd:∀k,k<2->-1<=row.getD (4*n+k) 0/\row.getD (4*n+k) 0<2*(n:Int)
 bl:∀k,k<2->row.getD (4*n+2+k) 0=0\/row.getD (4*n+2+k) 0=1
structure GoodRow(n:Nat)(row:List Int):Prop where
 n2:2<=n
 n8:n<=8
 len:row.length=4*n+4
 ok:c2t n row
theorem GoodRow.one{n m:Nat}{row:List Int}(h:row.length=4*n+4)(g:GoodRow m row):m=n:=by
 have:=g.len;lia
def a3r:Sp:=λvs H Q _=>∃(a:Addr)(row:List Int)(n:Nat),vs=[.ref a]/\H a=some (.tup (row.map V.int))/\row.length=4*n+4/\n<=8/\∀l H',H l=none->Same H H'->H' l=some (.lst ((a3i n row).map V.int))->Q (.ref l) H'
def a1v(cl:Cl):Sp:=λvs H Q E=>∃(a:Addr)(row:List Int)(n:Nat),vs=[.int n,.ref a]/\H a=some (.tup (row.map V.int))/\row.length=4*n+4/\2<=n/\n<=8 /\
 c2t n row/\∀H',Same H H'->Q .non H'
def y7(cl:Cl):Sp:=λvs H Q E=>∃(a:Addr)(row:List Int)(n:Nat),vs=[.ref a]/\H a=some (.tup (row.map V.int))/\GoodRow n row/\∀H',Same H H'->Q (.int n) H'
abbrev a1n:Stmt:=top 48
theorem a3w:d8 ["cells","places"] ["cells"] (d5 a1n):=↑1
theorem a8u(D:DefT K mg "marks_among" a1n ["cells"])(T:Txt K mg cl)(G_mark_cell:FnT P w K mg base "mark_cell" 1 ["place"] (b1k 0)):FnT P w K mg base "marks_among" 2 ["cells"] a3r:=by
 refine D.fn a3w (λvs H Q E h=>?_) (λf cdv A outer s H vs Q E hr h=>?_)
 ·obtain⟨a,row,n,rfl,_⟩:=h
  rfl
 ·obtain⟨a,row,n,rfl,ea,hl,n8,k⟩:=h
  refine⟨_,(c3 (i9 (i:=1) a3w.nd rfl (by first|exact Or.inl rfl|exact Or.inr rfl) (i5 a0t (i5 a5s (j3 (i6 (K:=K)) (by rfl) T.z_len PySem.boot_len (c0 (pv 0) d0)) (l7 T.m_CELLS_OF_A_PLACE rfl)) d6))
   (d4 (f8 (a0m (N:=["place","cells"]) (nt:=1) (fr:=[0]) rfl (a5y (i:=0) rfl rfl (by decide +kernel) (by decide +kernel) rfl rfl rfl rfl rfl rfl rfl) (u0 rfl T.z_range (c0 (pv 1) d0)) (v3 (by decide)) (λ_ _ _ _ _=>f7 (i:=0) (show(["place","cells"]:List Str).Nodup by decide +kernel) rfl (Or.inl rfl) (Or.inr rfl)) (λ_ _ _ _ _=>(q5 (a8g (K:=K)) (pv 1) (i4 G_mark_cell hr (by decide) rfl b1z (c0 (pv 0) d0)) (λ_ _=>rfl))))))),?_⟩
  have h20:2000<=sizeLine:=by decide
  fail "";rw[List.length_map,hl];have en:(((4*n+4:Nat):Int) / 4-1)=(n:Int):=by lia
  rw[en];fail "";refine b3y (n:=(n:Int).toNat) (by lia) (f:=λq=>V.int (row.getD (4*q) 0)) (λj H' kk hj sm q=>?_) (λp hp=>?_)
  ·have hj:j<n:=by lia
   have e1:=sm _ _ ea;fail "";refine⟨_,rfl,?_⟩;refine b7c e1 (b7p (by lia) (by lia)) ?_
   rw[show(4*(0+(j:Int))+0).toNat=4*j by lia]
   exact q
  ·refine k p _ hp (d7 hp) ?_
   rw[d2];unfold a3i;rw[List.map_map,show((n:Int)).toNat=n by lia]
   rfl
abbrev a0i:Stmt:=top 50
theorem n0:d8 ["size","cells","mark","hand","card","bell"] ["size","cells"] (d5 a0i):=↑1
theorem a7g(D:DefT K mg "check_numbers" a0i ["size","cells"])(T:Txt K mg cl)(G_marks_among:FnT P w K mg base "marks_among" 2 ["cells"] a3r)(G_card_cell:FnT P w K mg base "card_cell" 2 ["size","hand"] (a2i cl))(G_bell_cell:FnT P w K mg base "bell_cell" 3 ["size","hand"] (a6t cl)):FnT P w K mg base "check_numbers" 4 ["size","cells"] (a1v cl):=by
 refine D.fn n0 (λvs H Q E h=>?_) (λf cdv A outer s H vs Q E hr h=>?_)
 ·obtain⟨a,row,n,rfl,_⟩:=h
  rfl
 ·obtain⟨a,row,n,rfl,ea,hl,n2,n8,nk,k⟩:=h
  refine⟨_,(c3 (a9g a3l rfl (a5p (K:=K) (i4 G_marks_among hr (by decide) rfl f6 (c0 (pv 1) d0))) (f7 (i:=2) n0.nd rfl (by first|exact Or.inl rfl|exact Or.inr rfl))
     (d4 (m5 (PW.pt (a5n (g6 a5r (pv 2) d6 (g7 _)) (a1e (g6 b5b (pv 2) (l7 T.m_MOST_MARK rfl) (g7 _)))))
      (d4 t9)
      i8)))
   (d4 (a9g a3l rfl (b0h (K:=K) (a0l T.r_HANDS rfl)) (f7 (i:=3) n0.nd rfl (by first|exact Or.inl rfl|exact Or.inr rfl))
    (
     c3 (i9 (i:=4) n0.nd rfl (by first|exact Or.inl rfl|exact Or.inr rfl) (q5 (a8g (K:=K)) (pv 1) (i4 G_card_cell hr (by decide) rfl f6 (c0 (pv 0) (c0 (pv 3) d0))) (λ_ _=>rfl)))
     (c3 (m5 (PW.pt (a5n (g6 a5r (pv 4) (l7 T.m_NO_TURN rfl) (g7 _)) (a1e (g6 b9t (pv 4) (i5 o6 d6 (pv 0)) (g7 _)))))
      (d4 t9)
      i8)
     (c3 (i9 (i:=5) n0.nd rfl (by first|exact Or.inl rfl|exact Or.inr rfl) (q5 (a8g (K:=K)) (pv 1) (i4 G_bell_cell hr (by decide) rfl f6 (c0 (pv 0) (c0 (pv 3) d0))) (λ_ _=>rfl)))
     (d4 (m5 (PW.pt (b6c (g6 b2b (pv 5) (l7 T.m_STILL rfl) (g7 _)) (b6b (g6 b2b (pv 5) (l7 T.m_RUNG rfl) (g7 _)))))
      (d4 t9)
      i8)))))))),?_⟩
  fail "";refine⟨a,row,n,rfl,ea,hl,n8,λl H1 hl1 s1 e1=>?_⟩;fail "";refine b8j (xs:=(a3i n row).map V.int) (λi σ H'=>∃x2,σ=[some (.int n),some (.ref a),x2,none,none,none]/\Same H H'/\H' l=some (.lst ((a3i n row).map V.int))/\∀q,q<i->0<=row.getD (4*q) 0/\row.getD (4*q) 0<=3) ⟨_,rfl,s1,e1,λq hq=>absurd hq (by lia)⟩ ?_ ?_ ?_
  ·rintro i σ H2 hi ⟨x2,rfl,s2,e2,_⟩
   exact SqL.of e2
  ·rintro i x σ H2 hx ⟨x2,rfl,s2,e2,g⟩
   have hi:i<n:=by
    have:=(List.getElem?_eq_some_iff.mp hx).1;rw[List.length_map,a8c] at this;exact this
   rw[List.getElem?_map,b5e hi] at hx;cases hx;fail "";refine b3w (λc=>?_) (λc=>?_)
   ·fail ""
    exact absurd (nk.mks i hi) (by lia)
   ·fail ""
    refine b3w (λd=>?_) (λd=>?_)
    ·fail ""
     exact absurd (nk.mks i hi) (by lia)
    ·fail ""
     refine⟨_,rfl,s2,e2,λq hq=>?_⟩;by_cases hqi:q=i
     ·subst hqi;lia
     ·exact g q (by lia)
  ·rintro σ H2 ⟨x2,rfl,s2,e2,g1⟩
   rw[List.length_map,a8c] at g1;fail "";refine b4l T.kt_HANDS.sq ?_;refine c0g (xs:=[.str "giver",.str "taker"]) (λi σ H'=>∃x3 x4 x5,σ=[some (.int n),some (.ref a),x2,x3,x4,x5]/\Same H H'/\∀q,q<i->(-1<=row.getD (4*n+q) 0/\row.getD (4*n+q) 0<2*(n:Int))/\(row.getD (4*n+2+q) 0=0\/row.getD (4*n+2+q) 0=1)) ⟨_,_,_,rfl,s2,λq hq=>absurd hq (by lia)⟩ ?_ ?_ ?_
   ·intro i σ H3 _ _
    exact T.kt_HANDS.sq
   ·rintro i x σ H3 hx ⟨x3,x4,x5,rfl,s3,g⟩
    have hi:i<2:=(List.getElem?_eq_some_iff.mp hx).1;obtain⟨nm,rfl,hnm,enm⟩:∃nm:Str,x=.str nm/\(nm="giver"\/nm="taker")/\b6z nm=(i:Int):=by
     have:i=0\/i=1:=by lia
     rcases this with rfl|rfl <;> cases hx
     ·exact⟨_,rfl,.inl rfl,by decide⟩
     ·exact⟨_,rfl,.inr rfl,by decide⟩
    have e3:=s3 _ _ ea;have card:∀(H':Hp)(k:Prop),k->b3z cl n nm H' E k:=λH' k hk=>by
     unfold b3z;rw[if_pos (by lia),if_pos hnm]
     exact hk
    fail "";refine⟨n,nm,rfl,card _ _ ?_⟩;refine b7c e3 (b7p (by lia) (by lia)) ?_
    rw[enm,show(4*(n:Int)+(i:Int)).toNat=4*n+i by lia]
    fail "";refine b3w (λc=>?_) (λc=>?_)
    ·fail ""
     exact absurd (nk.cd i hi) (by lia)
    ·fail ""
     refine b3w (λd=>?_) (λd=>?_)
     ·fail ""
      exact absurd (nk.cd i hi) (by lia)
     ·fail ""
      refine⟨n,nm,rfl,card _ _ ?_⟩;refine b7c e3 (b7p (by lia) (by lia)) ?_
      rw[enm,show(4*(n:Int)+(i:Int)+2).toNat=4*n+2+i by lia]
      fail "";refine b2v (λp=>?_) (λp=>?_)
      ·fail ""
       refine b2v (λq=>?_) (λq=>?_)
       ·fail ""
        rcases nk.bl i hi with z|z
        ·exact p (by rw[z])
        ·exact q (by rw[z])
       ·fail ""
        refine⟨_,_,_,rfl,s3,λy hy=>?_⟩;by_cases hyi:y=i
        ·subst hyi
         exact⟨⟨by lia,by lia⟩,.inr (V.int.inj q)⟩
        ·exact g y (by lia)
      ·fail ""
       refine⟨_,_,_,rfl,s3,λy hy=>?_⟩;by_cases hyi:y=i
       ·subst hyi
        exact⟨⟨by lia,by lia⟩,.inl (V.int.inj p)⟩
       ·exact g y (by lia)
   ·rintro σ H3 ⟨x3,x4,x5,rfl,s3,g⟩
    fail "";exact k H3 s3
abbrev a0f:Stmt:=top 49
theorem a1y:d8 ["cells","size"] ["cells"] (d5 a0f):=↑1
theorem a7d(D:DefT K mg "size_of_cells" a0f ["cells"])(T:Txt K mg cl)(G_new_cells:FnT P w K mg base "new_cells" 1 ["size"] a2g)(G_check_numbers:FnT P w K mg base "check_numbers" 4 ["size","cells"] (a1v cl)):FnT P w K mg base "size_of_cells" 5 ["cells"] (y7 cl):=by
 refine D.fn a1y (λvs H Q E h=>?_) (λf cdv A outer s H vs Q E hr h=>?_)
 ·obtain⟨a,row,n,rfl,_⟩:=h
  rfl
 ·obtain⟨a,row,n,rfl,ea,gr,k⟩:=h
  refine⟨_,(c3 (a9g a3l rfl (b6k rfl T.z_range (c0 (l7 T.m_LEAST_SIZE rfl) (c0 (i5 y6 (l7 T.m_MOST_SIZE rfl) d6) d0))) (f7 (i:=1) a1y.nd rfl (by first|exact Or.inl rfl|exact Or.inr rfl))
     (d4 (m5 (g6 z9 (j3 (i6 (K:=K)) (by rfl) T.z_len PySem.boot_len (c0 (pv 0) d0)) (j3 (i6 (K:=K)) (by rfl) T.z_len PySem.boot_len (c0 (i4 G_new_cells hr (by decide) rfl f6 (c0 (pv 1) d0)) d0)) (g7 _))
      (
       c3 (j8 (i4 G_check_numbers hr (by decide) rfl f6 (c0 (pv 1) (c0 (pv 0) d0))))
       (d4 (f8 (pv 1))))
      i8)))
   (d4 t9)),?_⟩
  fail "";refine⟨2,9,rfl,⟨by decide,by decide,by decide,by decide⟩,?_⟩
  refine a3p (lo:=2) (n:=7) (λi σ H'=>∃x1,σ=[some (.ref a),x1]/\Same H H'/\∀q,q<i->row.length≠4*(2+q)+4) ⟨_,rfl,Same.refl H,λq hq=>absurd hq (by lia)⟩ ?_ ?_
  ·rintro i σ H1 hi ⟨x1,rfl,s1,g⟩
   have e1:=s1 _ _ ea;fail "";rw[List.length_map];refine⟨2+i,by rw[show((2+i:Nat):Int)=2+(i:Int) by lia],by lia,λl H2 hl2 s2 e2=>?_⟩
   have e3:=s2 _ _ e1;fail "";rw[List.length_map,a9k];refine b3w (λc=>?_) (λc=>?_)
   ·have c:row.length=4*(2+i)+4:=by have:=V.int.inj c;lia
    fail "";have e2i:=gr.one c;refine⟨a,row,2+i,by rw[show((2+i:Nat):Int)=2+(i:Int) by lia],e3,c,by lia,by lia,e2i ▸ gr.ok,λH' s'=>?_⟩
    fail "";have:=k H' ((s1.trans s2).trans s')
    rwa [e2i,show(((2+i:Nat):Int))=2+(i:Int) by lia] at this
   ·fail ""
    refine⟨_,rfl,s1.trans s2,λq hq=>?_⟩;by_cases hqi:q=i
    ·subst hqi
     intro z;exact c (by rw[z])
    ·exact g q (by lia)
  ·rintro σ H1 ⟨x1,rfl,s1,g⟩
   fail "";have z1:=gr.n2;have z2:=gr.n8;exact absurd gr.len (by have:=g (n-2) (by lia);lia)
inductive Hr where
 | non
 | int (i:Int)
@[reducible] def Hr.v:Hr->V
 | .non=>.non
 | .int i=>.int i
abbrev b1e:List Str:=["rouse","clear","mute","marks"]
abbrev b9d:List Str:=["look","wish","again","sleep","hush","unwish"]
abbrev b7e:List Str:=["free","card","ring"]
abbrev gvU:List Str:=["rouse","clear","mute","marks","told","lacks","look","wish","again","sleep","hush","unwish","number","left","thing","mark","card","ring"]
abbrev tkU:List Str:=["rouse","clear","mute","marks","look","wish","again","sleep","hush","unwish","number","left","thing","free","card","ring"]
theorem b0z(x:Str)(xs:List Str):inV (.str x) (xs.map V.str)=decide (x∈xs):=by
 unfold inV;rw[Bool.eq_iff_iff,List.any_eq_true,decide_eq_true_iff];constructor
 ·rintro⟨y,hy,e⟩
  obtain⟨z,hz,rfl⟩:=List.mem_map.mp hy;rw[a6m,decide_eq_true_iff] at e
  first|exact e ▸ hz|exact e.symm ▸ hz
 ·exact λh=>⟨.str x,List.mem_map.mpr ⟨x,h,rfl⟩,by rw[a6m];exact decide_eq_true rfl⟩
theorem a8j(xs:List Str):(xs.map V.str).all a1f=true:=by
 rw[List.all_eq_true];intro y hy;obtain⟨z,_,rfl⟩:=List.mem_map.mp hy
 rfl
theorem b5j{H:Hp}{Q:VK}{t:Addr}{x:Str}{xs:List Str}(h:SqT K H t (xs.map V.str))(q:Q (.bl (decide (x∈xs))) H):rIn K false (.str x) (.ref t) H Q :=
 ⟨t,_,rfl,.inr h,rfl,a8j xs,by rw[if_neg (by decide),b0z];exact q⟩
theorem b4m{H:Hp}{Q:VK}{t:Addr}{x:Str}{xs:List Str}(h:SqT K H t (xs.map V.str))(q:Q (.bl (!decide (x∈xs))) H):rIn K true (.str x) (.ref t) H Q :=
 ⟨t,_,rfl,.inr h,rfl,a8j xs,by rw[if_pos rfl,b0z];exact q⟩
def a2b(n:Nat)(st:Str)(he:Hr):Prop:=if st∈b1e then he=.non else ∃i,he=.int i/\0<=i/\i<2*(n:Int)
def a3z(n:Nat)(st:Str)(mk:List Int):Prop:=if st="marks" then mk.length<n/\∀m∈mk,0<=m/\m<=3 else mk=[]
theorem bt{b:Bool}{H:Hp}{Q:VK}(k:Q (.bl true) H)(e:b=true):Q (.bl b) H:=by rw[e];exact k
def a2d:Sp:=λvs H Q _=>∃(n:Nat)(st:Str)(he:Hr),vs=[.int n,.str st,he.v]/\n<=8/\a2b n st he/\Q (.bl true) H
abbrev a4b:Stmt:=top 119
theorem b1l:d8 ["size","stage","turn"] ["size","stage","turn"] (d5 a4b):=↑1
theorem b2c(D:DefT K mg "turn_fits" a4b ["size","stage","turn"])(T:Txt K mg cl):FnT P w K mg base "turn_fits" 1 ["size","stage","turn"] a2d:=by
 refine D.fn b1l (λvs H Q E h=>?_) (λf cdv A outer s H vs Q E hr h=>?_)
 ·obtain⟨n,st,he,rfl,_⟩:=h
  rfl
 ·obtain⟨n,st,he,rfl,n8,tf,k⟩:=h
  refine⟨_,(c3 (m5 (g6 (a7x (K:=K)) (pv 1) (a0l T.r_COMING_UP rfl) (by with_unfolding_all rfl))
     (d4 (f8 (j9 c1n (pv 2) a6y (g7 _))))
     i8)
   (d4 (f8 (a3y (j9 b9s (pv 2) a6y (g7 _)) (a2a (a3j rfl T.z_range (pv 2) (c0 (i5 o6 d6 (pv 0)) d0))))))),?_⟩
  unfold a2b at tf;fail "";refine b5j (xs:=b1e) T.kt_COMING_UP.sq ?_;by_cases hc:st∈b1e
  ·rw[if_pos hc] at tf
   subst tf;rw[decide_eq_true hc];fail "";exact⟨rfl,bt k (decide_eq_true rfl)⟩
  ·rw[if_neg hc] at tf
   obtain⟨i,rfl,i0,i1⟩:=tf;rw[decide_eq_false hc];fail "";refine⟨rfl,true,rfl,?_⟩;fail "";exact⟨i,_,rfl,rfl,bt k (decide_eq_true ⟨i0,i1⟩)⟩
def a2h:Sp:=λvs H Q _=>∃(n:Nat)(st:Str)(a:Addr)(mk:List Int),vs=[.int n,.str st,.ref a]/\n<=8/\H a=some (.tup (mk.map V.int))/\a3z n st mk/\∀H',Same H H'->Q (.bl true) H'
abbrev a4g:Stmt:=top 120
theorem b1p:d8 ["size","stage","marks"] ["size","stage","marks"] (d5 a4g):=↑1
theorem b2h(D:DefT K mg "marks_fit" a4g ["size","stage","marks"])(T:Txt K mg cl):FnT P w K mg base "marks_fit" 1 ["size","stage","marks"] a2h:=by
 refine D.fn b1p (λvs H Q E h=>?_) (λf cdv A outer s H vs Q E hr h=>?_)
 ·obtain⟨n,st,a,mk,rfl,_⟩:=h
  rfl
 ·obtain⟨n,st,a,mk,rfl,n8,ea,mf,k⟩:=h
  refine⟨_,(c3 (m5 (g6 b2b (pv 1) i3 (g7 _))
     (d4 (f8 (j9 z9 (j3 (i6 (K:=K)) (by rfl) T.z_len PySem.boot_len (c0 (pv 2) d0)) d6 (g7 _))))
     i8)
   (d4 (f8 (a3y (j9 a5r (j3 (i6 (K:=K)) (by rfl) T.z_len PySem.boot_len (c0 (pv 2) d0)) (pv 0) (g7 _)) (a2a (j3 (b7n (K:=K) rfl) (by rfl) T.z_all PyProof.Rows.boot_all (c0 (a0m (N:=["mark"]) (nt:=1) (fr:=[]) rfl (a1s rfl rfl (by decide +kernel) (by decide +kernel) rfl rfl) (b0h (K:=K) (pv 2)) (v3 (by decide)) (λ_ _ _ _ _=>f7 (i:=0) (show(["mark"]:List Str).Nodup by decide +kernel) rfl (Or.inl rfl) (Or.inr rfl)) (λ_ _ _ _ _=>(a3j rfl T.z_range (pv 0) (c0 (i5 y6 (l7 T.m_MOST_MARK rfl) d6) d0)))) d0))))))),?_⟩
  unfold a3z at mf;fail "";by_cases hm:st="marks"
  ·rw[if_pos hm] at mf
   subst hm;refine b2v (λz=>absurd rfl z) λ_=>?_;fail "";rw[List.length_map,decide_eq_true (show(mk.length:Int)<n by lia)]
   fail "";refine b4l (SqT.of ea) ?_;refine a8k (xs:=mk.map V.int) (by
                        rw[List.length_map];have:100<=sizeLine:=by decide
                        lia) (λD i acc H'=>acc=List.replicate i (V.bl true)/\H'=upd H D (.lst acc)/\H D=none) (λD hD=>⟨rfl,rfl,hD⟩) ?_ ?_ ?_
   ·rintro D i acc H' ⟨rfl,rfl,hD⟩
    exact⟨d2,List.length_replicate,SqT.of ((d3 (d9 ea hD)).trans ea)⟩
   ·rintro D i x acc H' _ hx ⟨rfl,rfl,hD⟩
    have hi:=(List.getElem?_eq_some_iff.mp hx).1;rw[List.length_map] at hi;rw[List.getElem?_map,List.getElem?_eq_getElem hi] at hx;cases hx;have hm:=mf.2 _ (List.getElem_mem hi);fail "";refine⟨_,_,rfl,rfl,d2,?_,?_,hD⟩
    ·rw[decide_eq_true (show 0<=mk[i]/\mk[i]<3+1 by lia),List.replicate_succ']
    ·rw[b5q]
   ·rintro D acc H' _ ⟨rfl,rfl,hD⟩
    fail "";refine⟨D,List.replicate (mk.map V.int).length true,rfl,?_,?_⟩
    ·rw[List.map_replicate]
     exact SqL.of d2
    ·exact bt (k _ (d7 hD)) (by rw[List.all_replicate];simp)
  ·rw[if_neg hm] at mf
   subst mf;refine b2v (λ_=>?_) λz=>absurd (V.str.inj z) hm;fail "";exact bt (k H (Same.refl H)) rfl
structure GSd where
 st:Str
 he:Hr
 ms:List Int
 od:Int
 pt:Int
structure TSd where
 st:Str
 he:Hr
 ms:List Int
 nf:Hr
 nu:Int
 le:Int
 pa:List Int
def a8s(st:Str)(od pt:Int)(os:List (List Int)):Prop :=
 if st∈b1e\/st="told" then od=0/\pt=0 else if st="lacks" then (-1<=od/\od<os.length)/\pt=0 else if od=os.length then st∈b9d/\pt=0 else (0<=od/\od<os.length)/\0<=pt/\pt<(os.getD od.toNat []).length
def TTs(H:Hp)(a:Addr)(os:List (List Int)):Prop:=∃ps:List Addr,H a=some (.tup (ps.map V.ref))/\ps.length=os.length/\∀(i:Nat)(p:Addr)(o:List Int),ps[i]?=some p->os[i]?=some o->H p=some (.tup (o.map V.int))
theorem TTs.same{H H':Hp}{a:Addr}{os:List (List Int)}(h:TTs H a os)(s:Same H H'):TTs H' a os:=by
 obtain⟨ps,e,l,r⟩:=h;exact⟨ps,s _ _ e,l,λi p o hp ho=>s _ _ (r i p o hp ho)⟩
def a6p:Sp:=λvs H Q _=>∃(st:Str)(od pt:Int)(a:Addr)(os:List (List Int)),vs=[.str st,.int od,.int pt,.ref a]/\TTs H a os/\a8s st od pt os/\Q (.bl true) H
abbrev a4d:Stmt:=top 121
theorem b1m:d8 ["stage","order","part","orders"] ["stage","order","part","orders"] (d5 a4d):=↑1
theorem b2e(D:DefT K mg "part_fits" a4d ["stage","order","part","orders"])(T:Txt K mg cl):FnT P w K mg base "part_fits" 1 ["stage","order","part","orders"] a6p:=by
 refine D.fn b1m (λvs H Q E h=>?_) (λf cdv A outer s H vs Q E hr h=>?_)
 ·obtain⟨st,od,pt,a,os,rfl,_⟩:=h
  rfl
 ·obtain⟨st,od,pt,a,os,rfl,⟨ps,ea,hl,ep⟩,pf,k⟩:=h
  refine⟨_,(c3 (m5 (PW.pt (a5n (g6 (a7x (K:=K)) (pv 0) (a0l T.r_COMING_UP rfl) (by with_unfolding_all rfl)) (a1e (g6 z9 (pv 0) i3 (g7 _)))))
     (d4 (f8 (a3y (j9 z9 (pv 1) d6 (g7 _)) (a2a (j9 z9 (pv 2) d6 (g7 _))))))
     i8)
   (c3 (m5 (g6 z9 (pv 0) i3 (g7 _))
     (d4 (f8 (a3y (b6l rfl T.z_range (pv 1) (c0 (l7 T.m_NO_ORDER rfl) (c0 (j3 (i6 (K:=K)) (by rfl) T.z_len PySem.boot_len (c0 (pv 3) d0)) d0))) (a2a (j9 z9 (pv 2) d6 (g7 _))))))
     i8)
   (c3 (m5 (g6 z9 (pv 1) (j3 (i6 (K:=K)) (by rfl) T.z_len PySem.boot_len (c0 (pv 3) d0)) (g7 _))
     (d4 (f8 (a3y (j9 (a7x (K:=K)) (pv 0) (a0l T.r_WAITING rfl) (by with_unfolding_all rfl)) (a2a (j9 z9 (pv 2) d6 (g7 _))))))
     i8)
   (d4 (f8 (a3y (a3j rfl T.z_range (pv 1) (c0 (j3 (i6 (K:=K)) (by rfl) T.z_len PySem.boot_len (c0 (pv 3) d0)) d0)) (a2a (a3j rfl T.z_range (pv 2) (c0 (j3 (i6 (K:=K)) (by rfl) T.z_len PySem.boot_len (c0 (q5 (a8g (K:=K)) (pv 3) (pv 1) (λ_ _=>rfl)) d0)) d0))))))))),?_⟩
  unfold a8s at pf;have eqs:∀(x y:Str),decide (V.str x=V.str y)=decide (x=y):=λx y=>by
   rw[decide_eq_decide];exact⟨V.str.inj,λz=>by rw[z]⟩
  have eqi:∀(x y:Int),decide (V.int x=V.int y)=decide (x=y):=λx y=>by
   rw[decide_eq_decide];exact⟨V.int.inj,λz=>by rw[z]⟩
  fail "";refine b5j (xs:=b1e) T.kt_COMING_UP.sq ?_;by_cases h1:st∈b1e
  ·rw[if_pos (.inl h1)] at pf
   obtain⟨rfl,rfl⟩:=pf;rw[decide_eq_true h1];fail "";rw[eqi,decide_eq_true rfl];fail "";exact bt k (decide_eq_true rfl)
  rw[decide_eq_false h1];fail "";rw[eqs];by_cases h2:st="told"
  ·rw[if_pos (.inr h2)] at pf
   obtain⟨rfl,rfl⟩:=pf;rw[decide_eq_true h2];fail "";rw[eqi,decide_eq_true rfl];fail "";exact bt k (decide_eq_true rfl)
  rw[if_neg (λz=>z.elim h1 h2)] at pf;rw[decide_eq_false h2];fail "";rw[eqs];by_cases h3:st="lacks"
  ·rw[if_pos h3] at pf
   obtain⟨o1,rfl⟩:=pf;rw[decide_eq_true h3];fail "";rw[List.length_map,hl];refine⟨_,_,_,rfl,rfl,true,?_,?_⟩
   ·rw[decide_eq_true o1]
   fail "";exact bt k (decide_eq_true rfl)
  rw[if_neg h3] at pf;rw[decide_eq_false h3];fail "";rw[List.length_map,hl,eqi];by_cases h4:od=os.length
  ·rw[if_pos h4] at pf
   obtain⟨o1,rfl⟩:=pf;rw[decide_eq_true h4];fail "";refine b5j (xs:=b9d) T.kt_WAITING.sq ?_;rw[decide_eq_true o1];fail "";exact bt k (decide_eq_true rfl)
  rw[if_neg h4] at pf;obtain⟨o1,o2⟩:=pf;rw[decide_eq_false h4];fail "";rw[List.length_map,hl];refine⟨_,_,rfl,rfl,true,?_,?_⟩
  ·rw[decide_eq_true o1]
  fail "";have hj:od.toNat<os.length:=by lia
  obtain⟨p,hp⟩:∃p,ps[od.toNat]?=some p:=⟨_,List.getElem?_eq_getElem (by lia)⟩
  have e2:=ep _ p _ hp (List.getElem?_eq_getElem hj);refine b7c (v:=.ref p) ea ?_ ?_
  ·unfold atI ixN
   rw[if_pos o1.1,if_pos (by rw[List.length_map];lia)]
   show(ps.map V.ref)[od.toNat]?=_;rw[List.getElem?_map,hp];rfl
  fail "";rw[List.length_map];rw[List.getD_eq_getElem?_getD,List.getElem?_eq_getElem hj] at o2;exact⟨_,_,rfl,rfl,bt k (decide_eq_true o2)⟩
theorem a0n(x y:Str):decide (V.str x=V.str y)=decide (x=y):=by
 rw[decide_eq_decide];exact⟨V.str.inj,λz=>by rw[z]⟩
theorem q0(x y:Int):decide (V.int x=V.int y)=decide (x=y):=by
 rw[decide_eq_decide];exact⟨V.int.inj,λz=>by rw[z]⟩
theorem b2u{σ:St}{H:Hp}{k:St->Hp->Prop}{p:Addr}{x1 x2 x3 x4 x5:V}{a b c d e n:Nat}(h:H p=some (.tup [x1,x2,x3,x4,x5]))(hn:5=n)(q:k (((((σ.set a (some x1)).set b (some x2)).set c (some x3)).set d (some x4)).set e (some x5)) H):c2y K n (a6l (a2c a) (a6l (a2c b) (a6l (a2c c) (a6l (a2c d) (a6l (a2c e) c4l))))) (.ref p) σ H k:=⟨p,_,rfl,SqT.of h,hn,x1,_,rfl,x2,_,rfl,x3,_,rfl,x4,_,rfl,x5,[],rfl,rfl,q⟩
theorem b8w{σ:St}{H:Hp}{k:St->Hp->Prop}{p:Addr}{x1 x2 x3 x4 x5 x6 x7:V}{a b c d e f g n:Nat}(h:H p=some (.tup [x1,x2,x3,x4,x5,x6,x7]))(hn:7=n)(q:k (((((((σ.set a (some x1)).set b (some x2)).set c (some x3)).set d (some x4)).set e (some x5)).set f (some x6)).set g (some x7)) H):c2y K n (a6l (a2c a) (a6l (a2c b) (a6l (a2c c) (a6l (a2c d) (a6l (a2c e) (a6l (a2c f) (a6l (a2c g) c4l))))))) (.ref p) σ H k:=⟨p,_,rfl,SqT.of h,hn,x1,_,rfl,x2,_,rfl,x3,_,rfl,x4,_,rfl,x5,_,rfl,x6,_,rfl,x7,[],rfl,rfl,q⟩
theorem b2t{n t:Int}{H:Hp}{E:XK}{k:Prop}(n2:2<=n)(n8:n<=8)(t0:0<=t)(t1:t<2*n)(h:k):a5x cl n t H E k:=by
 unfold a5x;rw[if_pos ⟨n2,n8⟩,if_pos ⟨t0,t1⟩];exact h
structure c0n(n:Nat)(os:List (List Int))(g:GSd):Prop where
 st:g.st∈gvU
 tf:a2b n g.st g.he
 mf:a3z n g.st g.ms
 pf:a8s g.st g.od g.pt os
def GT(H:Hp)(a:Addr)(g:GSd):Prop:=∃m,H a=some (.tup [.str g.st,g.he.v,.ref m,.int g.od,.int g.pt])/\H m=some (.tup (g.ms.map V.int))
theorem GT.same{H H':Hp}{a:Addr}{g:GSd}(h:GT H a g)(s:Same H H'):GT H' a g:=by
 obtain⟨m,e,e'⟩:=h;exact⟨m,s _ _ e,s _ _ e'⟩
def a4w:Sp:=λvs H Q _=>∃(n:Nat)(a b:Addr)(g:GSd)(os:List (List Int)),vs=[.int n,.ref a,.ref b]/\n<=8/\GT H a g/\TTs H b os/\c0n n os g/\∀H',Same H H'->Q (.bl true) H'
abbrev a2p:Stmt:=top 122
theorem o5:d8 ["size","mind","orders","stage","turn","marks","order","part"] ["size","mind","orders"] (d5 a2p):=↑1
theorem b0j(D:DefT K mg "giver_fits" a2p ["size","mind","orders"])(T:Txt K mg cl)(G_turn_fits:FnT P w K mg base "turn_fits" 1 ["size","stage","turn"] a2d)(G_marks_fit:FnT P w K mg base "marks_fit" 1 ["size","stage","marks"] a2h)(G_part_fits:FnT P w K mg base "part_fits" 1 ["stage","order","part","orders"] a6p):FnT P w K mg base "giver_fits" 2 ["size","mind","orders"] a4w:=by
 refine D.fn o5 (λvs H Q E h=>?_) (λf cdv A outer s H vs Q E hr h=>?_)
 ·obtain⟨n,a,b,g,os,rfl,_⟩:=h
  rfl
 ·obtain⟨n,a,b,g,os,rfl,n8,⟨m,ea,em⟩,tb,gg,k⟩:=h
  refine⟨_,(c3 (a1z (pv 1) (a1b (K:=K) rfl (f9 (f7 (i:=3) o5.nd rfl (by first|exact Or.inl rfl|exact Or.inr rfl)) (f9 (f7 (i:=4) o5.nd rfl (by first|exact Or.inl rfl|exact Or.inr rfl)) (f9 (f7 (i:=5) o5.nd rfl (by first|exact Or.inl rfl|exact Or.inr rfl)) (f9 (f7 (i:=6) o5.nd rfl (by first|exact Or.inl rfl|exact Or.inr rfl)) (f9 (f7 (i:=7) o5.nd rfl (by first|exact Or.inl rfl|exact Or.inr rfl)) a1a)))))))
   (c3 (m5 (g6 (a7w (K:=K)) (pv 3) (a0l T.r_GIVER_STAGES rfl) (by with_unfolding_all rfl))
     (d4 (f8 a6h))
     i8)
   (c3 (m5 (PW.pt (a5n (a5o (a3d (i4 G_turn_fits hr (by decide) rfl f6 (c0 (pv 0) (c0 (pv 3) (c0 (pv 4) d0)))))) (a1e (a5o (a3d (i4 G_marks_fit hr (by decide) rfl f6 (c0 (pv 0) (c0 (pv 3) (c0 (pv 5) d0)))))))))
     (d4 (f8 a6h))
     i8)
   (d4 (f8 (i4 G_part_fits hr (by decide) rfl f6 (c0 (pv 3) (c0 (pv 6) (c0 (pv 7) (c0 (pv 2) d0)))))))))),?_⟩
  fail "";refine b2u ea rfl ?_;fail "";refine b4m (xs:=gvU) T.kt_GIVER_STAGES.sq ?_;rw[decide_eq_true gg.st];fail "";refine⟨n,g.st,g.he,rfl,n8,gg.tf,?_⟩;fail "";refine⟨n,g.st,m,g.ms,rfl,n8,em,gg.mf,λH1 s1=>?_⟩;fail "";exact⟨g.st,g.od,g.pt,b,os,rfl,tb.same s1,gg.pf,k H1 s1⟩
def b9k(st:Str)(nu le:Int):Prop:=(nu=0\/st="left"\/st="thing")/\(le=0\/(0<le/\st="thing"))
def a2e:Sp:=λvs H Q _=>∃(st:Str)(nu le:Int),vs=[.str st,.int nu,.int le]/\b9k st nu le/\Q (.bl true) H
abbrev a0w:Stmt:=top 123
theorem a7q:d8 ["stage","number","left"] ["stage","number","left"] (d5 a0w):=↑1
theorem a7y(D:DefT K mg "reading_fits" a0w ["stage","number","left"])(T:Txt K mg cl):FnT P w K mg base "reading_fits" 1 ["stage","number","left"] a2e:=by
 refine D.fn a7q (λvs H Q E h=>?_) (λf cdv A outer s H vs Q E hr h=>?_)
 ·obtain⟨st,nu,le,rfl,_⟩:=h
  rfl
 ·obtain⟨st,nu,le,rfl,⟨h1,h2⟩,k⟩:=h
  refine⟨_,(c3 (m5 (PW.pt (b6c (g6 b2b (pv 1) d6 (g7 _)) (b6c (g6 b2b (pv 0) i3 (g7 _)) (b6b (g6 b2b (pv 0) i3 (g7 _))))))
     (d4 (f8 a6h))
     i8)
   (d4 (f8 (c1h (j9 z9 (pv 2) d6 (g7 _)) (a2a (a3y (j9 b5b (pv 2) d6 (g7 _)) (a2a (j9 z9 (pv 0) i3 (g7 _))))))))),?_⟩
  fail "";rw[q0];by_cases z:nu=0
  ·rw[decide_eq_true z]
   fail "";rcases h2 with l0|⟨l0,l1⟩
   ·rw[q0,decide_eq_true l0]
    fail "";exact k
   ·rw[q0,decide_eq_false (show ¬ le=0 by lia)]
    fail "";rw[decide_eq_true l0];fail "";exact bt k (by rw[l1];exact decide_eq_true rfl)
  ·rw[decide_eq_false z]
   fail "";rw[a0n];by_cases y:st="left"
   ·rw[decide_eq_true y]
    fail "";rcases h2 with l0|⟨l0,l1⟩
    ·rw[q0,decide_eq_true l0]
     fail "";exact k
    ·rw[q0,decide_eq_false (show ¬ le=0 by lia)]
     fail "";rw[decide_eq_true l0];fail "";exact bt k (by rw[l1];exact decide_eq_true rfl)
   ·rw[decide_eq_false y]
    fail "";rw[a0n,decide_eq_true (h1.elim (λq=>absurd q z) λq=>q.elim (λq=>absurd q y) id)];fail "";rcases h2 with l0|⟨l0,l1⟩
    ·rw[q0,decide_eq_true l0]
     fail "";exact k
    ·rw[q0,decide_eq_false (show ¬ le=0 by lia)]
     fail "";rw[decide_eq_true l0];fail "";exact bt k (by rw[l1];exact decide_eq_true rfl)
def a7v(n:Nat)(t:TSd):Prop:=if t.st∈b1e then t.pa=[] else ∃i j,t.he=.int i/\t.nf=.int j/\(if t.st∈b7e then t.pa=[] else (t.pa.length:Int)=(i-j) % (2*(n:Int)))/\(i-j) % (2*(n:Int))<n
def TT(H:Hp)(a:Addr)(t:TSd):Prop:=∃m p,H a=some (.tup [.str t.st,t.he.v,.ref m,t.nf.v,.int t.nu,.int t.le,.ref p])/\H m=some (.tup (t.ms.map V.int))/\H p=some (.tup (t.pa.map V.int))
theorem TT.same{H H':Hp}{a:Addr}{t:TSd}(h:TT H a t)(s:Same H H'):TT H' a t:=by
 obtain⟨m,p,e,e',e''⟩:=h;exact⟨m,p,s _ _ e,s _ _ e',s _ _ e''⟩
def a6o:Sp:=λvs H Q _=>∃(n:Nat)(t:TSd)(p:Addr),vs=[.int n,.str t.st,t.he.v,t.nf.v,.ref p]/\2<=n/\n<=8/\H p=some (.tup (t.pa.map V.int))/\a2b n t.st t.he/\a2b n t.st t.nf/\a7v n t/\Q (.bl true) H
abbrev a4c:Stmt:=top 124
theorem a6w:d8 ["size","stage","turn","first","parts","many"] ["size","stage","turn","first","parts"] (d5 a4c):=↑1
theorem b2d(D:DefT K mg "parts_fit" a4c ["size","stage","turn","first","parts"])(T:Txt K mg cl)(G_distance:FnT P w K mg base "distance" 3 ["size","one","other"] (a7n cl)):FnT P w K mg base "parts_fit" 4 ["size","stage","turn","first","parts"] a6o:=by
 refine D.fn a6w (λvs H Q E h=>?_) (λf cdv A outer s H vs Q E hr h=>?_)
 ·obtain⟨n,t,p,rfl,_⟩:=h
  rfl
 ·obtain⟨n,t,p,rfl,n2,n8,ep,tf,tg,pf,k⟩:=h
  refine⟨_,(c3 (m5 (g6 (a7x (K:=K)) (pv 1) (a0l T.r_COMING_UP rfl) (by with_unfolding_all rfl))
     (d4 (f8 (j9 z9 (j3 (i6 (K:=K)) (by rfl) T.z_len PySem.boot_len (c0 (pv 4) d0)) d6 (g7 _))))
     i8)
   (c3 (i9 (i:=5) a6w.nd rfl (by first|exact Or.inl rfl|exact Or.inr rfl) (i4 G_distance hr (by decide) rfl f6 (c0 (pv 0) (c0 (pv 3) (c0 (pv 2) d0)))))
   (c3 (m5 (g6 (a7x (K:=K)) (pv 1) (a0l T.r_FREEING rfl) (by with_unfolding_all rfl))
     (d4 (f8 (a3y (j9 z9 (j3 (i6 (K:=K)) (by rfl) T.z_len PySem.boot_len (c0 (pv 4) d0)) d6 (g7 _)) (a2a (j9 a5r (pv 5) (pv 0) (g7 _))))))
     i8)
   (d4 (f8 (a3y (j9 z9 (j3 (i6 (K:=K)) (by rfl) T.z_len PySem.boot_len (c0 (pv 4) d0)) (pv 5) (g7 _)) (a2a (j9 a5r (pv 5) (pv 0) (g7 _))))))))),?_⟩
  unfold a7v at pf;unfold a2b at tf tg;fail "";refine b5j (xs:=b1e) T.kt_COMING_UP.sq ?_;by_cases hc:t.st∈b1e
  ·rw[if_pos hc] at pf
   rw[decide_eq_true hc];fail "";exact bt k (by rw[pf];rfl)
  ·rw[if_neg hc] at pf tf tg
   obtain⟨i,ei,i0,i1⟩:=tf;obtain⟨j,ej,j0,j1⟩:=tg;obtain⟨i',j',e1,e2,h1,h2⟩:=pf;rw[ei] at e1;rw[ej] at e2;cases e1;cases e2;rw[decide_eq_false hc];fail "";rw[ei,ej];refine⟨n,j,i,rfl,b2t (by lia) (by lia) j0 j1 (b2t (by lia) (by lia) i0 i1 ?_)⟩
   fail "";refine b5j (xs:=b7e) T.kt_FREEING.sq ?_;by_cases hf:t.st∈b7e
   ·rw[if_pos hf] at h1
    rw[decide_eq_true hf];fail "";rw[h1,decide_eq_true (show V.int ((([]:List Int).map V.int).length:Nat)=V.int 0 from rfl)];fail "";exact bt k (decide_eq_true h2)
   ·rw[if_neg hf] at h1
    rw[decide_eq_false hf];fail "";rw[List.length_map,h1,decide_eq_true rfl];fail "";exact bt k (decide_eq_true h2)
structure c0m(n:Nat)(t:TSd):Prop where
 st:t.st∈tkU
 tf:a2b n t.st t.he
 nf:a2b n t.st t.nf
 mf:a3z n t.st t.ms
 rf:b9k t.st t.nu t.le
 pf:a7v n t
def a4v:Sp:=λvs H Q _=>∃(n:Nat)(a:Addr)(t:TSd),vs=[.int n,.ref a]/\2<=n/\n<=8/\TT H a t/\c0m n t/\∀H',Same H H'->Q (.bl true) H'
abbrev a2o:Stmt:=top 125
theorem k8:d8 ["size","mind","stage","turn","marks","first","number","left","parts"] ["size","mind"] (d5 a2o):=↑1
theorem b0i(D:DefT K mg "taker_fits" a2o ["size","mind"])(T:Txt K mg cl)(G_turn_fits:FnT P w K mg base "turn_fits" 1 ["size","stage","turn"] a2d)(G_marks_fit:FnT P w K mg base "marks_fit" 1 ["size","stage","marks"] a2h)(G_reading_fits:FnT P w K mg base "reading_fits" 1 ["stage","number","left"] a2e)(G_parts_fit:FnT P w K mg base "parts_fit" 4 ["size","stage","turn","first","parts"] a6o):FnT P w K mg base "taker_fits" 5 ["size","mind"] a4v:=by
 refine D.fn k8 (λvs H Q E h=>?_) (λf cdv A outer s H vs Q E hr h=>?_)
 ·obtain⟨n,a,t,rfl,_⟩:=h
  rfl
 ·obtain⟨n,a,t,rfl,n2,n8,⟨m,p,ea,em,ep⟩,gg,k⟩:=h
  refine⟨_,(c3 (a1z (pv 1) (a1b (K:=K) rfl (f9 (f7 (i:=2) k8.nd rfl (by first|exact Or.inl rfl|exact Or.inr rfl)) (f9 (f7 (i:=3) k8.nd rfl (by first|exact Or.inl rfl|exact Or.inr rfl)) (f9 (f7 (i:=4) k8.nd rfl (by first|exact Or.inl rfl|exact Or.inr rfl)) (f9 (f7 (i:=5) k8.nd rfl (by first|exact Or.inl rfl|exact Or.inr rfl)) (f9 (f7 (i:=6) k8.nd rfl (by first|exact Or.inl rfl|exact Or.inr rfl)) (f9 (f7 (i:=7) k8.nd rfl (by first|exact Or.inl rfl|exact Or.inr rfl)) (f9 (f7 (i:=8) k8.nd rfl (by first|exact Or.inl rfl|exact Or.inr rfl)) a1a)))))))))
   (c3 (m5 (g6 (a7w (K:=K)) (pv 2) (a0l T.r_TAKER_STAGES rfl) (by with_unfolding_all rfl))
     (d4 (f8 a6h))
     i8)
   (c3 (m5 (PW.pt (a5n (a5o (a3d (i4 G_turn_fits hr (by decide) rfl f6 (c0 (pv 0) (c0 (pv 2) (c0 (pv 3) d0)))))) (a1e (a5o (a3d (i4 G_turn_fits hr (by decide) rfl f6 (c0 (pv 0) (c0 (pv 2) (c0 (pv 5) d0)))))))))
     (d4 (f8 a6h))
     i8)
   (c3 (m5 (PW.pt (a5n (a5o (a3d (i4 G_marks_fit hr (by decide) rfl f6 (c0 (pv 0) (c0 (pv 2) (c0 (pv 4) d0)))))) (a1e (a5o (a3d (i4 G_reading_fits hr (by decide) rfl f6 (c0 (pv 2) (c0 (pv 6) (c0 (pv 7) d0)))))))))
     (d4 (f8 a6h))
     i8)
   (d4 (f8 (i4 G_parts_fit hr (by decide) rfl f6 (c0 (pv 0) (c0 (pv 2) (c0 (pv 3) (c0 (pv 5) (c0 (pv 8) d0)))))))))))),?_⟩
  fail "";refine b8w ea rfl ?_;fail "";refine b4m (xs:=tkU) T.kt_TAKER_STAGES.sq ?_;rw[decide_eq_true gg.st];fail "";refine⟨n,t.st,t.he,rfl,n8,gg.tf,?_⟩;fail "";refine⟨n,t.st,t.nf,rfl,n8,gg.nf,?_⟩;fail "";refine⟨n,t.st,m,t.ms,rfl,n8,em,gg.mf,λH1 s1=>?_⟩;fail "";refine⟨t.st,t.nu,t.le,rfl,gg.rf,?_⟩;fail "";exact⟨n,t,p,rfl,n2,n8,s1 _ _ ep,gg.tf,gg.nf,gg.pf,k H1 s1⟩
def RP(H:Hp)(os:List (List Int))(D:Addr)(i:Nat)(acc:List V)(H':Hp):Prop:=H' D=some (.lst acc)/\Same H H'/\∃ps:List Addr,acc=ps.map V.ref/\ps.length=i/\∀(j:Nat)(p:Addr)(o:List Int),ps[j]?=some p->os[j]?=some o->H p=none/\p≠D/\H' p=some (.lst (o.map V.int))
theorem RP.new{H:Hp}{os:List (List Int)}{D:Addr}(hD:H D=none):RP H os D 0 [] (upd H D (.lst [])):=⟨d2,d7 hD,[],rfl,rfl,λj p o h=>by simp at h⟩
theorem i7{H H':Hp}{p:Addr}(s:Same H H')(h:H' p=none):H p=none:=by
 cases e:H p with
 | none=>rfl
 | some o=>rw[s _ _ e] at h;cases h
theorem RP.push{H H':Hp}{os:List (List Int)}{o:List Int}{D p:Addr}{i:Nat}{acc:List V}(h:RP H os D i acc H')(hD:H D=none)(ho:os[i]?=some o)(hp:H' p=none):
  (upd H' p (.lst (o.map V.int))) D=some (.lst acc)/\RP H os D (i+1) (acc++[.ref p]) (upd (upd H' p (.lst (o.map V.int))) D (.lst (acc++[.ref p]))):=by
 obtain⟨e,s,ps,rfl,hl,r⟩:=h;have nD:D≠p:=λz=>by rw[<- z,e] at hp;cases hp
 have hp0:=i7 s hp;refine⟨by rw[d3 nD];exact e,d2,?_,ps++[p],by rw[List.map_append];rfl,by rw[List.length_append,hl];rfl,?_⟩
 ·intro b u eb
  rw[d3 (λz=>by rw[z,hD] at eb;cases eb),d3 (λz=>by rw[z,hp0] at eb;cases eb)]
  exact s _ _ eb
 ·intro j q u hj hu
  by_cases y:j<ps.length
  ·rw[List.getElem?_append_left y] at hj
   obtain⟨a,b,c⟩:=r j q u hj hu;refine⟨a,b,?_⟩;rw[d3 b,d3 (λz=>by rw[z,hp] at c;cases c)]
   exact c
  ·rw[List.getElem?_append_right (by lia)] at hj
   have:j=i:=by
    by_cases z:j-ps.length=0
    ·lia
    ·rw[List.getElem?_eq_none (by simp;lia)] at hj;cases hj
   subst this;rw[hl,Nat.sub_self] at hj;cases hj;rw[ho] at hu;cases hu;exact⟨hp0,Ne.symm nD,by rw[d3 (Ne.symm nD)];exact d2⟩
def NewRows(H H':Hp)(D:Addr)(os:List (List Int)):Prop:=H D=none/\Same H H'/\∃ps:List Addr,H' D=some (.lst (ps.map V.ref))/\ps.length=os.length/\∀(j:Nat)(p:Addr)(o:List Int),ps[j]?=some p->os[j]?=some o->H p=none/\p≠D/\H' p=some (.lst (o.map V.int))
theorem RP.done{H H':Hp}{os:List (List Int)}{D:Addr}{acc:List V}(h:RP H os D os.length acc H')(hD:H D=none):NewRows H H' D os:=by
 obtain⟨e,s,ps,rfl,hl,r⟩:=h;exact⟨hD,s,ps,e,hl,r⟩
def a7k(cl:Cl):Sp:=λvs H Q _=>∃(n:Int)(a:Addr)(o:List Int),vs=[.int n,.ref a]/\H a=some (.tup (o.map V.int))/\1<=(o.length:Int)/\(o.length:Int)<=n/\∀p,H p=none->Q (.ref p) (upd H p (.lst (o.map V.int)))
abbrev a6b:Stmt:=top 80
theorem b3i:d8 ["size","order"] ["size","order"] (d5 a6b):=↑1
theorem b3p(D:DefT K mg "order_of" a6b ["size","order"])(T:Txt K mg cl):FnT P w K mg base "order_of" 1 ["size","order"] (a7k cl):=by
 refine D.fn b3i (λvs H Q E h=>?_) ↑2
 ·obtain⟨n,a,o,rfl,_⟩:=h
  rfl
 ·obtain⟨n,a,o,rfl,ea,h1,h2,k⟩:=h
  refine⟨_,(c3 (m5 (PW.pt (a5n (g6 a5r (j3 (i6 (K:=K)) (by rfl) T.z_len PySem.boot_len (c0 (pv 1) d0)) d6 (g7 _)) (a1e (g6 b5b (j3 (i6 (K:=K)) (by rfl) T.z_len PySem.boot_len (c0 (pv 1) d0)) (pv 0) (g7 _)))))
     (d4 t9)
     i8)
   (d4 (f8 (g9 (m4 (K:=K)) (by rfl) T.z_list PyProof.Rows.boot_list (c0 (pv 1) d0))))),?_⟩
  fail "";rw[List.length_map];refine b3w (λy=>absurd y (by lia)) (λ_=>?_)
  fail "";rw[List.length_map];refine b3w (λy=>absurd y (by lia)) (λ_=>?_)
  fail "";exact k
def RIn(H:Hp)(a:Addr)(os:List (List Int)):Prop:=(os=[]/\H a=some (.lst []))\/TTs H a os
def b4v(n:Nat)(os:List (List Int)):Prop:=∀o∈os,1<=o.length/\o.length<=n
def a0q(cl:Cl):Sp:=λvs H Q _=>∃(n:Nat)(a:Addr)(os:List (List Int)),vs=[.int n,.ref a]/\RIn H a os/\b4v n os/\os.length<=1000/\∀p H',NewRows H H' p os->Q (.ref p) H'
abbrev a4e:Stmt:=top 81
theorem b1n:d8 ["size","orders"] ["size","orders"] (d5 a4e):=↑1
theorem b2f(D:DefT K mg "orders_of" a4e ["size","orders"])(T:Txt K mg cl)(G_order_of:FnT P w K mg base "order_of" 1 ["size","order"] (a7k cl)):FnT P w K mg base "orders_of" 2 ["size","orders"] (a0q cl):=by
 refine D.fn b1n (λvs H Q E h=>?_) ↑2
 ·obtain⟨n,a,os,rfl,_⟩:=h
  rfl
 ·obtain⟨n,a,os,rfl,ri,ho,hz,k⟩:=h
  refine⟨_,(d4 (f8 (a0m (N:=["order","size"]) (nt:=1) (fr:=[0]) rfl (a5y (i:=0) rfl rfl (by decide +kernel) (by decide +kernel) rfl rfl rfl rfl rfl rfl rfl) (b9n (K:=K) (pv 1)) (v3 (by decide)) (λ_ _ _ _ _=>f7 (i:=0) (show(["order","size"]:List Str).Nodup by decide +kernel) rfl (Or.inl rfl) (Or.inr rfl)) (λ_ _ _ _ _=>(i4 G_order_of hr (by decide) rfl b1z (c0 (pv 1) (c0 (pv 0) d0))))))),?_⟩
  have h60:6000<=sizeLine:=by decide
  fail "";rcases ri with ⟨rfl,ea⟩|⟨ps,ea,hl,hr'⟩
  ·refine .inl ⟨a,rfl,⟨_,SqL.of ea⟩,a1g (xs:=[]) (show 0<sizeLine by decide) (RP H []) (λD hD=>RP.new hD) ?_ ?_ ?_⟩
   ·rintro D i acc H' ⟨e,s,qs,rfl,hq,_⟩
    exact⟨e,by rw[List.length_map];exact hq,SqL.of (s _ _ ea)⟩
   ·intro D i x acc H' hD hx
    cases hx
   ·intro D acc H' hD hp
    exact k _ _ (RP.done (os:=[]) hp hD)
  refine .inr ⟨a,rfl,⟨_,SqT.of ea⟩,a8k (xs:=ps.map V.ref) (by rw[List.length_map];lia) (RP H os) (λD hD=>RP.new hD) ?_ ?_ ?_⟩
  ·rintro D i acc H' ⟨e,s,qs,rfl,hq,_⟩
   exact⟨e,by rw[List.length_map];exact hq,SqT.of (s _ _ ea)⟩
  ·intro D i x acc H' hD hx hp
   rw[List.getElem?_map] at hx;cases hpi:ps[i]? with
   | none=>rw[hpi] at hx;cases hx
   | some q=>
    rw[hpi] at hx;cases hx;have hi:i<os.length:=by rw[<- hl];exact(List.getElem?_eq_some_iff.mp hpi).1
    have hoi:=List.getElem?_eq_getElem hi;have eq:=hp.2.1 _ _ (hr' i q _ hpi hoi);obtain⟨l1,l2⟩:=ho _ (List.getElem_mem hi);fail "";refine⟨n,q,_,rfl,eq,by lia,by lia,λp hpn=>?_⟩
    exact hp.push hD hoi hpn
  ·intro D acc H' hD hp
   rw[List.length_map,hl] at hp;exact k _ _ (hp.done hD)
def a0u:Sp:=λvs H Q _=>∃(a:Addr)(os:List (List Int)),vs=[.ref a]/\Rws H a os/\os.length<=1000/\∀p H',NewRows H H' p os->Q (.ref p) H'
abbrev a1m:Stmt:=top 82
theorem a8n:d8 ["orders"] ["orders"] (d5 a1m):=↑1
theorem a8t(D:DefT K mg "orders_told" a1m ["orders"])(T:Txt K mg cl):FnT P w K mg base "orders_told" 1 ["orders"] a0u:=by
 refine D.fn a8n (λvs H Q E h=>?_) ↑2
 ·obtain⟨a,os,rfl,_⟩:=h
  rfl
 ·obtain⟨a,os,rfl,⟨ps,ea,hl,hr'⟩,hz,k⟩:=h
  refine⟨_,(d4 (f8 (a0m (N:=["order"]) (nt:=1) (fr:=[]) rfl (a1s rfl rfl (by decide +kernel) (by decide +kernel) rfl rfl) (a5p (K:=K) (pv 0)) (v3 (by decide)) (λ_ _ _ _ _=>f7 (i:=0) (show(["order"]:List Str).Nodup by decide +kernel) rfl (Or.inl rfl) (Or.inr rfl)) (λ_ _ _ _ _=>(g9 (m4 (K:=K)) (by rfl) T.z_list PyProof.Rows.boot_list (c0 (pv 0) d0)))))),?_⟩
  have h60:6000<=sizeLine:=by decide
  refine⟨_,rfl,a,rfl,⟨_,SqL.of ea⟩,a1g (xs:=ps.map V.ref) (by rw[List.length_map];lia) (RP H os) (λD hD=>RP.new hD) ?_ ?_ ?_⟩
  ·rintro D i acc H' ⟨e,s,qs,rfl,hq,_⟩
   exact⟨e,by rw[List.length_map];exact hq,SqL.of (s _ _ ea)⟩
  ·intro D i x acc H' hD hx hp
   rw[List.getElem?_map] at hx;cases hpi:ps[i]? with
   | none=>rw[hpi] at hx;cases hx
   | some q=>
    rw[hpi] at hx;cases hx;have hi:i<os.length:=by rw[<- hl];exact(List.getElem?_eq_some_iff.mp hpi).1
    have hoi:=List.getElem?_eq_getElem hi;have eq:=hp.2.1 _ _ (hr' i q _ hpi hoi);fail "";exact λp hpn=>hp.push hD hoi hpn
  ·intro D acc H' hD hp
   rw[List.length_map,hl] at hp;exact k _ _ (hp.done hD)
def RQ(H:Hp)(os:List (List Int))(D:Addr)(i:Nat)(acc:List V)(H':Hp):Prop:=H' D=some (.lst acc)/\Same H H'/\∃ps:List Addr,acc=ps.map V.ref/\ps.length=i/\∀(j:Nat)(p:Addr)(o:List Int),ps[j]?=some p->os[j]?=some o->p≠D/\H' p=some (.tup (o.map V.int))
theorem RQ.new{H:Hp}{os:List (List Int)}{D:Addr}(hD:H D=none):RQ H os D 0 [] (upd H D (.lst [])):=⟨d2,d7 hD,[],rfl,rfl,λj p o h=>by simp at h⟩
theorem RQ.push{H H':Hp}{os:List (List Int)}{o:List Int}{D p:Addr}{i:Nat}{acc:List V}(h:RQ H os D i acc H')(hD:H D=none)(ho:os[i]?=some o)(hp:H' p=none):
  (upd H' p (.tup (o.map V.int))) D=some (.lst acc)/\RQ H os D (i+1) (acc++[.ref p]) (upd (upd H' p (.tup (o.map V.int))) D (.lst (acc++[.ref p]))):=by
 obtain⟨e,s,ps,rfl,hl,r⟩:=h;have nD:D≠p:=λz=>by rw[<- z,e] at hp;cases hp
 have hp0:=i7 s hp;refine⟨by rw[d3 nD];exact e,d2,?_,ps++[p],by rw[List.map_append];rfl,by rw[List.length_append,hl];rfl,?_⟩
 ·intro b u eb
  rw[d3 (λz=>by rw[z,hD] at eb;cases eb),d3 (λz=>by rw[z,hp0] at eb;cases eb)]
  exact s _ _ eb
 ·intro j q u hj hu
  by_cases y:j<ps.length
  ·rw[List.getElem?_append_left y] at hj
   obtain⟨b,c⟩:=r j q u hj hu;refine⟨b,?_⟩;rw[d3 b,d3 (λz=>by rw[z,hp] at c;cases c)]
   exact c
  ·rw[List.getElem?_append_right (by lia)] at hj
   have:j=i:=by
    by_cases z:j-ps.length=0
    ·lia
    ·rw[List.getElem?_eq_none (by simp;lia)] at hj;cases hj
   subst this;rw[hl,Nat.sub_self] at hj;cases hj;rw[ho] at hu;cases hu;exact⟨Ne.symm nD,by rw[d3 (Ne.symm nD)];exact d2⟩
def b1j:Sp:=λvs H Q _=>∃(a:Addr)(os:List (List Int)),vs=[.ref a]/\Rws H a os/\os.length<=1000/\∀p H',H p=none->Same H H'->TTs H' p os->Q (.ref p) H'
abbrev b0e:Stmt:=top 116
theorem b5w:d8 ["orders"] ["orders"] (d5 b0e):=↑1
theorem b6q(D:DefT K mg "frozen" b0e ["orders"])(T:Txt K mg cl):FnT P w K mg base "frozen" 1 ["orders"] b1j:=by
 refine D.fn b5w (λvs H Q E h=>?_) ↑2
 ·obtain⟨a,os,rfl,_⟩:=h
  rfl
 ·obtain⟨a,os,rfl,⟨ps,ea,hl,hr'⟩,hz,k⟩:=h
  refine⟨_,(d4 (f8 (g9 (n9 (K:=K)) (by rfl) T.z_tuple PyProof.Rows.boot_tuple (c0 (a0m (N:=["order"]) (nt:=1) (fr:=[]) rfl (a1s rfl rfl (by decide +kernel) (by decide +kernel) rfl rfl) (a5p (K:=K) (pv 0)) (v3 (by decide)) (λ_ _ _ _ _=>f7 (i:=0) (show(["order"]:List Str).Nodup by decide +kernel) rfl (Or.inl rfl) (Or.inr rfl)) (λ_ _ _ _ _=>(g9 (n9 (K:=K)) (by rfl) T.z_tuple PyProof.Rows.boot_tuple (c0 (pv 0) d0)))) d0)))),?_⟩
  have h60:6000<=sizeLine:=by decide
  fail "";refine a1g (xs:=ps.map V.ref) (by rw[List.length_map];lia) (RQ H os) (λD hD=>RQ.new hD) ?_ ?_ ?_
  ·rintro D i acc H' ⟨e,s,qs,rfl,hq,_⟩
   exact⟨e,by rw[List.length_map];exact hq,SqL.of (s _ _ ea)⟩
  ·intro D i x acc H' hD hx hp
   rw[List.getElem?_map] at hx;cases hpi:ps[i]? with
   | none=>rw[hpi] at hx;cases hx
   | some q=>
    rw[hpi] at hx;cases hx;have hi:i<os.length:=by rw[<- hl];exact(List.getElem?_eq_some_iff.mp hpi).1
    have hoi:=List.getElem?_eq_getElem hi;have eq:=hp.2.1 _ _ (hr' i q _ hpi hoi);fail "";exact λp hpn=>hp.push hD hoi hpn
  ·intro D acc H' hD hp
   rw[List.length_map,hl] at hp;obtain⟨e,s,qs,rfl,hq,r⟩:=hp;fail "";intro p hpn;refine k p _ (i7 s hpn) (s.trans (d7 hpn)) ⟨qs,d2,hq,λj q o h1 h2=>?_⟩;obtain⟨_,c⟩:=r j q o h1 h2;exact d7 hpn _ _ c
structure Sd where
 n:Nat
 c:List Int
 g:GSd
 t:TSd
 os:List (List Int)
 bk:List (List Int)
structure b8o(x:Sd):Prop where
 c:GoodRow x.n x.c
 g:c0n x.n x.os x.g
 t:c0m x.n x.t
 os:b4v x.n x.os
 bk:b4v x.n x.bk
 lo:x.os.length<=1000
 lb:x.bk.length<=1000
def ST(H:Hp)(a:Addr)(x:Sd):Prop:=∃c g t o b,H a=some (.tup [.ref c,.ref g,.ref t,.ref o,.ref b])/\H c=some (.tup (x.c.map V.int))/\GT H g x.g/\TT H t x.t/\TTs H o x.os/\TTs H b x.bk
theorem ST.same{H H':Hp}{a:Addr}{x:Sd}(h:ST H a x)(s:Same H H'):ST H' a x:=by
 obtain⟨c,g,t,o,b,e,e1,e2,e3,e4,e5⟩:=h;exact⟨c,g,t,o,b,s _ _ e,s _ _ e1,e2.same s,e3.same s,e4.same s,e5.same s⟩
def a1t:Sp:=λvs H Q _=>∃(c o b:Addr)(row:List Int)(n:Nat)(os bk:List (List Int)),vs=[.ref c,.ref o,.ref b]/\H c=some (.tup (row.map V.int))/\TTs H o os/\TTs H b bk/\GoodRow n row/\b4v n os/\b4v n bk/\os.length<=1000/\bk.length<=1000/\∀H',Same H H'->Q (.int n) H'
abbrev a0e:Stmt:=top 118
theorem a1x:d8 ["cells","orders","book","size"] ["cells","orders","book"] (d5 a0e):=↑1
theorem a7c(D:DefT K mg "size_of_stand" a0e ["cells","orders","book"])(T:Txt K mg cl)(G_size_of_cells:FnT P w K mg base "size_of_cells" 5 ["cells"] (y7 cl))(G_orders_of:FnT P w K mg base "orders_of" 2 ["size","orders"] (a0q cl)):FnT P w K mg base "size_of_stand" 6 ["cells","orders","book"] a1t:=by
 refine D.fn a1x (λvs H Q E h=>?_) (λf cdv A outer s H vs Q E hr h=>?_)
 ·obtain⟨c,o,b,row,n,os,bk,rfl,_⟩:=h
  rfl
 ·obtain⟨c,o,b,row,n,os,bk,rfl,ec,to,tb,gr,go,gb,lo,lb,k⟩:=h
  refine'⟨_,(c3 (b9l rfl rfl rfl rfl rfl T.c_BadCells.m T.c_BadOrder.m ?tb ?th)
   (d4 (f8 (pv 3)))),?rd⟩
  case tb=>exact λ_ _ _ hx=>(c3 (i9 (i:=3) a1x.nd rfl (by first|exact Or.inl rfl|exact Or.inr rfl) (b6m G_size_of_cells hr (by decide) rfl hx (c0 (pv 0) d0)))
     (c3 (j8 (b6m G_orders_of hr (by decide) rfl hx (c0 (pv 3) (c0 (pv 1) d0))))
     (d4 (j8 (b6m G_orders_of hr (by decide) rfl hx (c0 (pv 3) (c0 (pv 2) d0)))))))
  case th=>exact λ_ _=>(d4 t9)
  case rd=>
   fail "";refine c2b ?_;fail "";refine⟨c,row,n,rfl,ec,gr,λH1 s1=>?_⟩;fail "";refine⟨n,o,os,rfl,.inr (to.same s1),go,lo,λp2 H2 r2=>?_⟩;have s2:=s1.trans r2.2.1;fail "";refine⟨n,b,bk,rfl,.inr (tb.same s2),gb,lb,λp3 H3 r3=>?_⟩;fail "";exact k H3 (s2.trans r3.2.1)
def a3s:Sp:=λvs H Q _=>∃(a:Addr)(x:Sd),vs=[.ref a]/\ST H a x/\b8o x/\∀H',Same H H'->Q .non H'
abbrev a1o:Stmt:=top 126
theorem l5:d8 ["stand","cells","giver","taker","orders","book","size"] ["stand"] (d5 a1o):=↑1
theorem a8v(D:DefT K mg "check_stand" a1o ["stand"])(T:Txt K mg cl)(G_size_of_stand:FnT P w K mg base "size_of_stand" 6 ["cells","orders","book"] a1t)(G_giver_fits:FnT P w K mg base "giver_fits" 2 ["size","mind","orders"] a4w)(G_taker_fits:FnT P w K mg base "taker_fits" 5 ["size","mind"] a4v):FnT P w K mg base "check_stand" 7 ["stand"] a3s:=by
 refine D.fn l5 (λvs H Q E h=>?_) (λf cdv A outer s H vs Q E hr h=>?_)
 ·obtain⟨a,x,rfl,_⟩:=h
  rfl
 ·obtain⟨a,x,rfl,⟨c,g,t,o,b,ea,ec,eg,et,eo,eb⟩,gs,k⟩:=h
  refine⟨_,(c3 (a1z (pv 0) (a1b (K:=K) rfl (f9 (f7 (i:=1) l5.nd rfl (by first|exact Or.inl rfl|exact Or.inr rfl)) (f9 (f7 (i:=2) l5.nd rfl (by first|exact Or.inl rfl|exact Or.inr rfl)) (f9 (f7 (i:=3) l5.nd rfl (by first|exact Or.inl rfl|exact Or.inr rfl)) (f9 (f7 (i:=4) l5.nd rfl (by first|exact Or.inl rfl|exact Or.inr rfl)) (f9 (f7 (i:=5) l5.nd rfl (by first|exact Or.inl rfl|exact Or.inr rfl)) a1a)))))))
   (c3 (i9 (i:=6) l5.nd rfl (by first|exact Or.inl rfl|exact Or.inr rfl) (i4 G_size_of_stand hr (by decide) rfl f6 (c0 (pv 1) (c0 (pv 4) (c0 (pv 5) d0)))))
   (c3 (m5 (a5o (a3d (i4 G_giver_fits hr (by decide) rfl f6 (c0 (pv 6) (c0 (pv 2) (c0 (pv 4) d0))))))
     (d4 t9)
     i8)
   (d4 (m5 (a5o (a3d (i4 G_taker_fits hr (by decide) rfl f6 (c0 (pv 6) (c0 (pv 3) d0)))))
    (d4 t9)
    i8))))),?_⟩
  fail "";refine b2u ea rfl ?_;fail "";refine⟨c,o,b,x.c,x.n,x.os,x.bk,rfl,ec,eo,eb,gs.c,gs.os,gs.bk,gs.lo,gs.lb,λH1 s1=>?_⟩;fail "";refine⟨x.n,g,o,x.g,x.os,rfl,gs.c.n8,eg.same s1,eo.same s1,gs.g,λH2 s2=>?_⟩;fail "";refine⟨x.n,t,x.t,rfl,gs.c.n2,gs.c.n8,(et.same s1).same s2,gs.t,λH3 s3=>?_⟩;fail "";exact k H3 ((s1.trans s2).trans s3)
end
section
open PySem PySem.Spec L2
section
variable{P:Program}{w:World}{K:Frag}{mg:Str->Option Value}{base:Heap}{cl:Cl}
theorem _root_.L2.MethT.toBase{x m:Str}{C f:Addr}{k:Nat}{ps:List Str}{sp:Sp}(M:MethT P w K mg base C m k ps sp)(hf:findIn K (.ref C) m=some (some (.ref f)))(cm:c5j K C m f)(hm:mg x=some (.ref C)):b7s P w K mg base x m k ps sp:=by
 obtain⟨f',fd,F,hM,hb⟩:=M.ex;have:f'=f:=by have:=hM.at_;rw[hf] at this;cases this;rfl
 subst this;exact⟨C,f',fd,F,cm,hm,hb⟩
def a0r(cl:Cl):Sp:=λvs H Q _=>
 (∃(x dx bd:Addr)(v:V),vs=[.ref x,.ref bd,.str "giver",.str "taker",.str "told"]/\H x=some (.ins cl.Giver dx [("kept",v)])/\∀m r H',H m=none->H r=none->m≠r->Kp [x] H H'->H' m=some (.lst [])->H' r=some (.lst [])->H' x=some (.ins cl.Giver dx [("kept",v),("board",.ref bd),("name",.str "giver"),("other",.str "taker"),("stage_behind_marks",.str "told"),("stage_now",.str "rouse"),("marks_read",.ref m),("here",.non),("touched",.ref r)])->Q .non H')
 \/ (∃(x dx bd:Addr)(v:V),vs=[.ref x,.ref bd,.str "taker",.str "giver",.str "look"]/\H x=some (.ins cl.Taker dx [("taken",v)])/\∀m r H',H m=none->H r=none->m≠r->Kp [x] H H'->H' m=some (.lst [])->H' r=some (.lst [])->H' x=some (.ins cl.Taker dx [("taken",v),("board",.ref bd),("name",.str "taker"),("other",.str "giver"),("stage_behind_marks",.str "look"),("stage_now",.str "rouse"),("marks_read",.ref m),("here",.non),("touched",.ref r)])->Q .non H')
abbrev a4q:Stmt:=k6 (top 78) 0
theorem b1w:d8 ["self","board","name","other","stage_behind_marks"] ["self","board","name","other","stage_behind_marks"] (d5 a4q):=↑1
theorem b2r{C:Addr}(D:DefM K C "__init__" "Hand.__init__" a4q ["self","board","name","other","stage_behind_marks"])(T:Txt K mg cl):MethT P w K mg base C "__init__" 1 ["self","board","name","other","stage_behind_marks"] (a0r cl):=by
 refine D.fn b1w (λvs H Q E h=>?_) ↑2
 ·rcases h with ⟨x,dx,bd,v,rfl,_⟩|⟨x,dx,bd,v,rfl,_⟩ <;> rfl
 ·skip
  refine⟨_,(c3 (j2 (K:=K) (pv 0) (pv 1))
   (c3 (j2 (K:=K) (pv 0) (pv 2))
   (c3 (j2 (K:=K) (pv 0) (pv 3))
   (c3 (j2 (K:=K) (pv 0) (pv 4))
   (c3 (j2 (K:=K) (pv 0) i3)
   (c3 (j2 (K:=K) (pv 0) (l8 d0))
   (c3 (j2 (K:=K) (pv 0) a6y)
   (d4 (j2 (K:=K) (pv 0) (l8 d0)))))))))),?_⟩
  rcases h with h|h
  ·obtain⟨x,dx,bd,v,rfl,ex,k⟩:=h
   fail "";refine⟨Nat.zero_le _,λm hm=>?_⟩;have nm:m≠x:=λz=>by rw[z,d2] at hm;cases hm
   have hm0:H m=none:=by simpa only [d3 nm] using hm
   fail "";refine⟨Nat.zero_le _,λr hr0=>?_⟩;have nr:r≠x:=λz=>by rw[z,d2] at hr0;cases hr0
   have nmr:r≠m:=λz=>by rw[z,d3 nm,d3 nm,d2] at hr0;cases hr0
   have hr1:H r=none:=by simpa only [d3 nr,d3 nmr] using hr0
   fail "";refine k m r _ hm0 hr1 (Ne.symm nmr) (λc o e n=>?_) ?_ ?_ ?_
   ·have nc:c≠x:=λz=>n (by simp[z])
    have c1:c≠m:=λz=>by rw[z,hm0] at e;cases e
    have c2:c≠r:=λz=>by rw[z,hr1] at e;cases e
    simpa only [d3 nc,d3 c1,d3 c2] using e
   ·simp only[d3 nm,d3 (Ne.symm nmr),d2]
   ·simp only[d3 nr,d2]
   ·rw[d2]
    rfl
  ·obtain⟨x,dx,bd,v,rfl,ex,k⟩:=h
   fail "";refine⟨Nat.zero_le _,λm hm=>?_⟩;have nm:m≠x:=λz=>by rw[z,d2] at hm;cases hm
   have hm0:H m=none:=by simpa only [d3 nm] using hm
   fail "";refine⟨Nat.zero_le _,λr hr0=>?_⟩;have nr:r≠x:=λz=>by rw[z,d2] at hr0;cases hr0
   have nmr:r≠m:=λz=>by rw[z,d3 nm,d3 nm,d2] at hr0;cases hr0
   have hr1:H r=none:=by simpa only [d3 nr,d3 nmr] using hr0
   fail "";refine k m r _ hm0 hr1 (Ne.symm nmr) (λc o e n=>?_) ?_ ?_ ?_
   ·have nc:c≠x:=λz=>n (by simp[z])
    have c1:c≠m:=λz=>by rw[z,hm0] at e;cases e
    have c2:c≠r:=λz=>by rw[z,hr1] at e;cases e
    simpa only [d3 nc,d3 c1,d3 c2] using e
   ·simp only[d3 nm,d3 (Ne.symm nmr),d2]
   ·simp only[d3 nr,d2]
   ·rw[d2]
    rfl
def NRw(H H':Hp)(D:Addr)(S:List Addr)(os:List (List Int)):Prop:=∃ps:List Addr,H' D=some (.lst (ps.map V.ref))/\ps.length=os.length/\∀(j:Nat)(p:Addr)(o:List Int),ps[j]?=some p->os[j]?=some o->H p=none/\p≠D/\p ∉ S/\H' p=some (.lst (o.map V.int))
def a5g(cl:Cl):Sp:=λvs H Q _=>∃(x dx bd a l:Addr)(n:Nat)(row:List Int)(many:Int)(last:V)(os:List (List Int)),vs=[.ref x,.ref bd,.ref a]/\H x=some (.ins cl.Giver dx [])/\Brd cl H bd l n row many last/\RIn H a os/\b4v n os/\os.length<=1000 /\
 ∀D m r H',H D=none->H m=none->H r=none->D≠m->D≠r->m≠r->Kp [x] H H'->NRw H H' D [m,r] os->H' m=some (.lst [])->H' r=some (.lst [])->H' x=some (.ins cl.Giver dx [("kept",.ref D),("board",.ref bd),("name",.str "giver"),("other",.str "taker"),("stage_behind_marks",.str "told"),("stage_now",.str "rouse"),("marks_read",.ref m),("here",.non),("touched",.ref r),("number",.int (-1)),("left",.int 0)])->Q .non H'
abbrev a3a:Stmt:=k6 (top 94) 0
theorem b0a:d8 ["self","board","orders"] ["self","board","orders"] (d5 a3a):=↑1
theorem b0w(D:DefM K cl.Giver "__init__" "Giver.__init__" a3a ["self","board","orders"])(T:Txt K mg cl)(G_orders_of:FnT P w K mg base "orders_of" 2 ["size","orders"] (a0q cl))(G_Hand_init:b7s P w K mg base "Hand" "__init__" 1 ["self","board","name","other","stage_behind_marks"] (a0r cl)):MethT P w K mg base cl.Giver "__init__" 3 ["self","board","orders"] (a5g cl):=by
 refine D.fn b0a (λvs H Q E h=>?_) ↑2
 ·obtain⟨x,dx,bd,a,l,n,row,many,last,os,rfl,_⟩:=h
  rfl
 ·obtain⟨x,dx,bd,a,l,n,row,many,last,os,rfl,ex,hB,hR,hG,hz,k⟩:=h
  refine⟨_,(c3 (j2 (K:=K) (pv 0) (i4 G_orders_of hr (by decide) rfl f6 (c0 (g0 (K:=K) (pv 1)) (c0 (pv 2) d0))))
   (c3 (j8 (b6n G_Hand_init hr (by decide) rfl f6 (c0 (pv 0) (c0 (pv 1) (c0 i3 (c0 i3 (c0 i3 d0)))))))
   (c3 (j2 (K:=K) (pv 0) (l7 T.m_NO_ORDER rfl))
   (d4 (j2 (K:=K) (pv 0) d6))))),?_⟩
  obtain⟨⟨dxb,eb⟩,_⟩:=id hB;fail "";refine⟨n,a,os,rfl,hR,hG,hz,λD H1 nr=>?_⟩;obtain⟨hD,s1,qs,eD,lq,rq⟩:=nr;have ex1:=s1 _ _ ex;have nDx:D≠x:=λz=>by rw[z,ex] at hD;cases hD
  fail "";refine .inl ⟨x,dx,bd,.ref D,rfl,d2,λm r H2 hm hr0 hmr kp em er ex2=>?_⟩;have nmx:m≠x:=λz=>by rw[z,d2] at hm;cases hm
  have nrx:r≠x:=λz=>by rw[z,d2] at hr0;cases hr0
  rw[d3 nmx] at hm;rw[d3 nrx] at hr0;have hm0:=i7 s1 hm;have hr1:=i7 s1 hr0;have nDm:D≠m:=λz=>by rw[<- z,eD] at hm;cases hm
  have nDr:D≠r:=λz=>by rw[<- z,eD] at hr0;cases hr0
  have eD2:H2 D=some (.lst (qs.map V.ref)):=kp _ _ (by rw[d3 nDx];exact eD) (by simpa using nDx)
  have k1:Kp [x] H H2:=λc o e n=>kp _ _ (by rw[d3 (by simpa using n)];exact s1 _ _ e) n
  have rows2:∀(j:Nat)(p:Addr)(o:List Int),qs[j]?=some p->os[j]?=some o->H p=none/\p≠D/\p≠x/\p≠m/\p≠r/\H2 p=some (.lst (o.map V.int)):=λj p o hp ho=>by
   obtain⟨a1,a2,a3⟩:=rq j p o hp ho;have px:p≠x:=λz=>by rw[z,ex] at a1;cases a1
   exact⟨a1,a2,px,(λz=>by rw[z,hm] at a3;cases a3),(λz=>by rw[z,hr0] at a3;cases a3),kp _ _ (by rw[d3 px];exact a3) (by simpa using px)⟩
  fail "";refine k D m r _ hD hm0 hr1 nDm nDr hmr (λc o e n=>?_) ⟨qs,?_,lq,λj p o hp ho=>?_⟩ ?_ ?_ ?_
  ·have nc:c≠x:=by simpa using n
   simp only[d3 nc];exact k1 _ _ e n
  ·simp only[d3 nDx]
   exact eD2
  ·obtain⟨a1,a2,a3,a4,a5,a6⟩:=rows2 j p o hp ho
   refine⟨a1,a2,by simp[a4,a5],?_⟩
   simp only[d3 a3];exact a6
  ·simp only[d3 nmx]
   exact em
  ·simp only[d3 nrx]
   exact er
  ·rw[d2]
   rfl
def a5a(cl:Cl):Sp:=λvs H Q _=>∃(x dx bd a l:Addr)(n:Nat)(row:List Int)(many:Int)(last:V)(os:List (List Int)),vs=[.ref x,.ref bd,.ref a]/\H x=some (.ins cl.Taker dx [])/\Brd cl H bd l n row many last/\RIn H a os/\b4v n os/\os.length<=1000 /\
 ∀D m r q H',H D=none->H m=none->H r=none->D≠m->D≠r->m≠r->H q=none->q≠D->q≠m->q≠r->H' q=some (.lst [])->Kp [x] H H'->NRw H H' D [m,r,q] os->H' m=some (.lst [])->H' r=some (.lst [])->H' x=some (.ins cl.Taker dx [("taken",.ref D),("board",.ref bd),("name",.str "taker"),("other",.str "giver"),("stage_behind_marks",.str "look"),("stage_now",.str "rouse"),("marks_read",.ref m),("here",.non),("touched",.ref r),("not_freed",.non),("number",.int 0),("left",.int 0),("parts",.ref q)])->Q .non H'
abbrev a2u:Stmt:=k6 (top 104) 0
theorem a9u:d8 ["self","board","book"] ["self","board","book"] (d5 a2u):=↑1
theorem b0p(D:DefM K cl.Taker "__init__" "Taker.__init__" a2u ["self","board","book"])(T:Txt K mg cl)(G_orders_of:FnT P w K mg base "orders_of" 2 ["size","orders"] (a0q cl))(G_Hand_init:b7s P w K mg base "Hand" "__init__" 1 ["self","board","name","other","stage_behind_marks"] (a0r cl)):MethT P w K mg base cl.Taker "__init__" 3 ["self","board","book"] (a5a cl):=by
 refine D.fn a9u (λvs H Q E h=>?_) ↑2
 ·obtain⟨x,dx,bd,a,l,n,row,many,last,os,rfl,_⟩:=h
  rfl
 ·obtain⟨x,dx,bd,a,l,n,row,many,last,os,rfl,ex,hB,hR,hG,hz,k⟩:=h
  refine⟨_,(c3 (j2 (K:=K) (pv 0) (i4 G_orders_of hr (by decide) rfl f6 (c0 (g0 (K:=K) (pv 1)) (c0 (pv 2) d0))))
   (c3 (j8 (b6n G_Hand_init hr (by decide) rfl f6 (c0 (pv 0) (c0 (pv 1) (c0 i3 (c0 i3 (c0 i3 d0)))))))
   (c3 (j2 (K:=K) (pv 0) a6y)
   (c3 (j2 (K:=K) (pv 0) d6)
   (c3 (j2 (K:=K) (pv 0) d6)
   (d4 (j2 (K:=K) (pv 0) (l8 d0)))))))),?_⟩
  obtain⟨⟨dxb,eb⟩,_⟩:=id hB;fail "";refine⟨n,a,os,rfl,hR,hG,hz,λD H1 nr=>?_⟩;obtain⟨hD,s1,qs,eD,lq,rq⟩:=nr;have ex1:=s1 _ _ ex;have nDx:D≠x:=λz=>by rw[z,ex] at hD;cases hD
  fail "";refine .inr ⟨x,dx,bd,.ref D,rfl,d2,λm r H2 hm hr0 hmr kp em er ex2=>?_⟩;have nmx:m≠x:=λz=>by rw[z,d2] at hm;cases hm
  have nrx:r≠x:=λz=>by rw[z,d2] at hr0;cases hr0
  rw[d3 nmx] at hm;rw[d3 nrx] at hr0;have hm0:=i7 s1 hm;have hr1:=i7 s1 hr0;have nDm:D≠m:=λz=>by rw[<- z,eD] at hm;cases hm
  have nDr:D≠r:=λz=>by rw[<- z,eD] at hr0;cases hr0
  have eD2:H2 D=some (.lst (qs.map V.ref)):=kp _ _ (by rw[d3 nDx];exact eD) (by simpa using nDx)
  have k1:Kp [x] H H2:=λc o e n=>kp _ _ (by rw[d3 (by simpa using n)];exact s1 _ _ e) n
  have rows2:∀(j:Nat)(p:Addr)(o:List Int),qs[j]?=some p->os[j]?=some o->H p=none/\p≠D/\p≠x/\p≠m/\p≠r/\H2 p=some (.lst (o.map V.int)):=λj p o hp ho=>by
   obtain⟨a1,a2,a3⟩:=rq j p o hp ho;have px:p≠x:=λz=>by rw[z,ex] at a1;cases a1
   exact⟨a1,a2,px,(λz=>by rw[z,hm] at a3;cases a3),(λz=>by rw[z,hr0] at a3;cases a3),kp _ _ (by rw[d3 px];exact a3) (by simpa using px)⟩
  fail "";refine⟨Nat.zero_le _,λq hq=>?_⟩;have nqx:q≠x:=λz=>by rw[z,d2] at hq;cases hq
  simp only[d3 nqx] at hq;have hq0:H q=none:=by
   cases e:H q with
   | none=>rfl
   | some o=>rw[k1 _ _ e (by simpa using nqx)] at hq;cases hq
  have nqD:q≠D:=λz=>by rw[z,eD2] at hq;cases hq
  have nqm:q≠m:=λz=>by rw[z,em] at hq;cases hq
  have nqr:q≠r:=λz=>by rw[z,er] at hq;cases hq
  fail "";refine k D m r q _ hD hm0 hr1 nDm nDr hmr hq0 nqD nqm nqr ?_ (λc o e n=>?_) ⟨qs,?_,lq,λj p o hp ho=>?_⟩ ?_ ?_ ?_
  ·simp only[d3 nqx,d2]
  ·have nc:c≠x:=by simpa using n
   have ncq:c≠q:=λz=>by rw[z,hq0] at e;cases e
   simp only[d3 nc,d3 ncq];exact k1 _ _ e n
  ·simp only[d3 nDx,d3 (Ne.symm nqD)]
   exact eD2
  ·obtain⟨a1,a2,a3,a4,a5,a6⟩:=rows2 j p o hp ho
   have npq:p≠q:=λz=>by rw[z,hq] at a6;cases a6
   refine⟨a1,a2,by simp[a4,a5,npq],?_⟩
   simp only[d3 a3,d3 npq];exact a6
  ·simp only[d3 nmx,d3 (Ne.symm nqm)]
   exact em
  ·simp only[d3 nrx,d3 (Ne.symm nqr)]
   exact er
  ·rw[d2]
   rfl
theorem RIn.same{H H':Hp}{a:Addr}{os:List (List Int)}(h:RIn H a os)(s:Same H H'):RIn H' a os:=h.imp (λz=>⟨z.1,s _ _ z.2⟩) λz=>z.same s
theorem a6j{H:Hp}{x dx:Addr}{u o:HO}(hx:H x=none)(hd:H dx=none)(ne:dx≠x):Same H (upd (upd H dx u) x o) :=
 (d7 hd).trans (d7 (by rw[d3 (Ne.symm ne)];exact hx))
def o9(cl:Cl):Sp:=λvs H Q _=>∃(la dxl bd kt a l:Addr)(n:Nat)(row:List Int)(many:Int)(last:V)(os:List (List Int))(fs:List (Str×V))(fs':Addr->List (Str×V)),vs=[.ref la,.ref a]/\((fs=([("board",.ref bd),("kept_trail",.ref kt)]:List (Str×V))/\∀g,fs' g=([("board",.ref bd),("kept_trail",.ref kt),("giver",.ref g)]:List (Str×V)))\/(∃v u,fs=([("board",.ref bd),("kept_trail",.ref kt),("giver",v),("taker",u)]:List (Str×V))/\∀g,fs' g=([("board",.ref bd),("kept_trail",.ref kt),("giver",.ref g),("taker",u)]:List (Str×V))))/\H la=some (.ins cl.Lane dxl fs)/\Brd cl H bd l n row many last/\RIn H a os/\b4v n os/\os.length<=1000 /\
 ∀g dxg D m H',H g=none->H D=none->H m=none->g≠D->g≠m->D≠m->Kp [la] H H'->NRw H H' D [g,m] os->H' m=some (.lst [])->H' g=some (.ins cl.Giver dxg [("kept",.ref D),("board",.ref bd),("name",.str "giver"),("other",.str "taker"),("stage_behind_marks",.str "told"),("stage_now",.str "rouse"),("marks_read",.ref m),("here",.non),("touched",.ref kt),("number",.int (-1)),("left",.int 0)])->H' la=some (.ins cl.Lane dxl (fs' g))->Q .non H'
abbrev t5:Stmt:=k6 (top 106) 1
theorem a0d:d8 ["self","orders","giver"] ["self","orders"] (d5 t5):=↑1
theorem a4s(D:DefM K cl.Lane "place_giver" "Lane.place_giver" t5 ["self","orders"])(T:Txt K mg cl)(G_Giver:b5n P w K mg base "Giver" cl.Giver 3 ["self","board","orders"] (a5g cl)):MethT P w K mg base cl.Lane "place_giver" 5 ["self","orders"] (o9 cl):=by
 refine D.fn a0d (λvs H Q E h=>?_) ↑2
 ·obtain⟨la,dxl,bd,kt,a,l,n,row,many,last,os,fs,fs',rfl,_⟩:=h
  rfl
 ·obtain⟨la,dxl,bd,kt,a,l,n,row,many,last,os,fs,fs',rfl,hfs,ela,hB,hR,hG,hz,k⟩:=h
  refine⟨_,(c3 (i9 (i:=2) a0d.nd rfl (by first|exact Or.inl rfl|exact Or.inr rfl) (b7x G_Giver hr (by decide) rfl f6 (c0 (g0 (K:=K) (pv 0)) (c0 (pv 1) d0))))
   (c3 (j2 (K:=K) (pv 2) (g0 (K:=K) (pv 0)))
   (d4 (j2 (K:=K) (pv 0) (pv 2))))),?_⟩
  rcases hfs with hs1|hs2
  ·obtain⟨rfl,hfs⟩:=hs1
   fail "";intro x dx hx hdx ne;have sm:=a6j (u:=.own x) (o:=.ins cl.Giver dx []) hx hdx ne;refine⟨x,dx,bd,a,l,n,row,many,last,os,rfl,d2,hB.keep (ps:=[]) (Kp.of sm) (by simp) (by simp),hR.same sm,hG,hz,λD m r H2 hD hm hr0 nDm nDr nmr kp nr em er ex2=>⟨rfl,?_⟩⟩
   fail "a";obtain⟨qs,eD,lq,rq⟩:=nr;fail "";refine k x dx D m _ hx hD0 hm0 (Ne.symm nDx) (Ne.symm nmx) nDm (λc o e n=>?_) ⟨qs,?_,lq,λj p o hp ho=>?_⟩ ?_ ?_ ?_
   ·have nc:c≠la:=by simpa using n
    have ncx:c≠x:=λz=>by rw[z,hx] at e;cases e
    simp only[d3 nc,d3 ncx];exact kp _ _ (sm _ _ e) (by simpa using ncx)
   ·simp only[d3 nDx,d3 nDl]
    exact eD
   ·obtain⟨b0,b2,b3,b4⟩:=rq j p o hp ho
    have px:p≠x:=λz=>by rw[z,d2] at b0;cases b0
    have p0:=i7 sm b0;have pl:p≠la:=λz=>by rw[z,ela] at p0;cases p0
    have b1:=(by simpa using b3:p≠m/\p≠r)
    refine⟨p0,b2,by simpa using ⟨px,b1.1⟩,?_⟩
    simp only[d3 px,d3 pl];exact b4
   ·simp only[d3 nmx,d3 nml]
    exact em
   ·rw[d3 (Ne.symm nla),d2]
    rfl
   ·rw[d2,hfs]
    rfl
  ·obtain⟨v,u,rfl,hfs⟩:=hs2
   fail "";intro x dx hx hdx ne;have sm:=a6j (u:=.own x) (o:=.ins cl.Giver dx []) hx hdx ne;refine⟨x,dx,bd,a,l,n,row,many,last,os,rfl,d2,hB.keep (ps:=[]) (Kp.of sm) (by simp) (by simp),hR.same sm,hG,hz,λD m r H2 hD hm hr0 nDm nDr nmr kp nr em er ex2=>⟨rfl,?_⟩⟩
   fail "a";obtain⟨qs,eD,lq,rq⟩:=nr;fail "";refine k x dx D m _ hx hD0 hm0 (Ne.symm nDx) (Ne.symm nmx) nDm (λc o e n=>?_) ⟨qs,?_,lq,λj p o hp ho=>?_⟩ ?_ ?_ ?_
   ·have nc:c≠la:=by simpa using n
    have ncx:c≠x:=λz=>by rw[z,hx] at e;cases e
    simp only[d3 nc,d3 ncx];exact kp _ _ (sm _ _ e) (by simpa using ncx)
   ·simp only[d3 nDx,d3 nDl]
    exact eD
   ·obtain⟨b0,b2,b3,b4⟩:=rq j p o hp ho
    have px:p≠x:=λz=>by rw[z,d2] at b0;cases b0
    have p0:=i7 sm b0;have pl:p≠la:=λz=>by rw[z,ela] at p0;cases p0
    have b1:=(by simpa using b3:p≠m/\p≠r)
    refine⟨p0,b2,by simpa using ⟨px,b1.1⟩,?_⟩
    simp only[d3 px,d3 pl];exact b4
   ·simp only[d3 nmx,d3 nml]
    exact em
   ·rw[d3 (Ne.symm nla),d2]
    rfl
   ·rw[d2,hfs]
    rfl
def o8(cl:Cl):Sp:=λvs H Q _=>∃(la dxl bd kt a l:Addr)(n:Nat)(row:List Int)(many:Int)(last:V)(os:List (List Int))(fs:List (Str×V))(fs':Addr->List (Str×V)),vs=[.ref la,.ref a]/\((∃v,fs=([("board",.ref bd),("kept_trail",.ref kt),("giver",v)]:List (Str×V))/\∀g,fs' g=([("board",.ref bd),("kept_trail",.ref kt),("giver",v),("taker",.ref g)]:List (Str×V)))\/(∃v u,fs=([("board",.ref bd),("kept_trail",.ref kt),("giver",v),("taker",u)]:List (Str×V))/\∀g,fs' g=([("board",.ref bd),("kept_trail",.ref kt),("giver",v),("taker",.ref g)]:List (Str×V))))/\H la=some (.ins cl.Lane dxl fs)/\Brd cl H bd l n row many last/\RIn H a os/\b4v n os/\os.length<=1000 /\
 ∀g dxg D m q H',H g=none->H D=none->H m=none->g≠D->g≠m->D≠m->H q=none->q≠g->q≠D->q≠m->H' q=some (.lst [])->Kp [la] H H'->NRw H H' D [g,m,q] os->H' m=some (.lst [])->H' g=some (.ins cl.Taker dxg [("taken",.ref D),("board",.ref bd),("name",.str "taker"),("other",.str "giver"),("stage_behind_marks",.str "look"),("stage_now",.str "rouse"),("marks_read",.ref m),("here",.non),("touched",.ref kt),("not_freed",.non),("number",.int 0),("left",.int 0),("parts",.ref q)])->H' la=some (.ins cl.Lane dxl (fs' g))->Q .non H'
abbrev s0:Stmt:=k6 (top 106) 2
theorem a0c:d8 ["self","book","taker"] ["self","book"] (d5 s0):=↑1
theorem a4r(D:DefM K cl.Lane "place_taker" "Lane.place_taker" s0 ["self","book"])(T:Txt K mg cl)(G_Taker:b5n P w K mg base "Taker" cl.Taker 3 ["self","board","book"] (a5a cl)):MethT P w K mg base cl.Lane "place_taker" 5 ["self","book"] (o8 cl):=by
 refine D.fn a0c (λvs H Q E h=>?_) ↑2
 ·obtain⟨la,dxl,bd,kt,a,l,n,row,many,last,os,fs,fs',rfl,_⟩:=h
  rfl
 ·obtain⟨la,dxl,bd,kt,a,l,n,row,many,last,os,fs,fs',rfl,hfs,ela,hB,hR,hG,hz,k⟩:=h
  refine⟨_,(c3 (i9 (i:=2) a0c.nd rfl (by first|exact Or.inl rfl|exact Or.inr rfl) (b7x G_Taker hr (by decide) rfl f6 (c0 (g0 (K:=K) (pv 0)) (c0 (pv 1) d0))))
   (c3 (j2 (K:=K) (pv 2) (g0 (K:=K) (pv 0)))
   (d4 (j2 (K:=K) (pv 0) (pv 2))))),?_⟩
  rcases hfs with hs1|hs2
  ·obtain⟨v,rfl,hfs⟩:=hs1
   fail "";intro x dx hx hdx ne;have sm:=a6j (u:=.own x) (o:=.ins cl.Taker dx []) hx hdx ne;refine⟨x,dx,bd,a,l,n,row,many,last,os,rfl,d2,hB.keep (ps:=[]) (Kp.of sm) (by simp) (by simp),hR.same sm,hG,hz,λD m r q H2 hD hm hr0 nDm nDr nmr hq nqD nqm nqr eq kp nr em er ex2=>⟨rfl,?_⟩⟩
   fail "a";have nqg:q≠x:=λz=>by rw[z,d2] at hq;cases hq
   have hq0:=i7 sm hq;have nql:q≠la:=λz=>by rw[z,ela] at hq0;cases hq0
   obtain⟨qs,eD,lq,rq⟩:=nr;fail "";refine k x dx D m q _ hx hD0 hm0 (Ne.symm nDx) (Ne.symm nmx) nDm hq0 nqg nqD nqm ?_ (λc o e n=>?_) ⟨qs,?_,lq,λj p o hp ho=>?_⟩ ?_ ?_ ?_
   ·simp only[d3 nql,d3 nqg]
    exact eq
   ·have nc:c≠la:=by simpa using n
    have ncx:c≠x:=λz=>by rw[z,hx] at e;cases e
    simp only[d3 nc,d3 ncx];exact kp _ _ (sm _ _ e) (by simpa using ncx)
   ·simp only[d3 nDx,d3 nDl]
    exact eD
   ·obtain⟨b0,b2,b3,b4⟩:=rq j p o hp ho
    have px:p≠x:=λz=>by rw[z,d2] at b0;cases b0
    have p0:=i7 sm b0;have pl:p≠la:=λz=>by rw[z,ela] at p0;cases p0
    have b1:=(by simpa using b3:p≠m/\p≠r/\p≠q)
    refine⟨p0,b2,by simpa using ⟨px,b1.1,b1.2.2⟩,?_⟩
    simp only[d3 px,d3 pl];exact b4
   ·simp only[d3 nmx,d3 nml]
    exact em
   ·rw[d3 (Ne.symm nla),d2]
    rfl
   ·rw[d2,hfs]
    rfl
  ·obtain⟨v,u,rfl,hfs⟩:=hs2
   fail "";intro x dx hx hdx ne;have sm:=a6j (u:=.own x) (o:=.ins cl.Taker dx []) hx hdx ne;refine⟨x,dx,bd,a,l,n,row,many,last,os,rfl,d2,hB.keep (ps:=[]) (Kp.of sm) (by simp) (by simp),hR.same sm,hG,hz,λD m r q H2 hD hm hr0 nDm nDr nmr hq nqD nqm nqr eq kp nr em er ex2=>⟨rfl,?_⟩⟩
   fail "a";have nqg:q≠x:=λz=>by rw[z,d2] at hq;cases hq
   have hq0:=i7 sm hq;have nql:q≠la:=λz=>by rw[z,ela] at hq0;cases hq0
   obtain⟨qs,eD,lq,rq⟩:=nr;fail "";refine k x dx D m q _ hx hD0 hm0 (Ne.symm nDx) (Ne.symm nmx) nDm hq0 nqg nqD nqm ?_ (λc o e n=>?_) ⟨qs,?_,lq,λj p o hp ho=>?_⟩ ?_ ?_ ?_
   ·simp only[d3 nql,d3 nqg]
    exact eq
   ·have nc:c≠la:=by simpa using n
    have ncx:c≠x:=λz=>by rw[z,hx] at e;cases e
    simp only[d3 nc,d3 ncx];exact kp _ _ (sm _ _ e) (by simpa using ncx)
   ·simp only[d3 nDx,d3 nDl]
    exact eD
   ·obtain⟨b0,b2,b3,b4⟩:=rq j p o hp ho
    have px:p≠x:=λz=>by rw[z,d2] at b0;cases b0
    have p0:=i7 sm b0;have pl:p≠la:=λz=>by rw[z,ela] at p0;cases p0
    have b1:=(by simpa using b3:p≠m/\p≠r/\p≠q)
    refine⟨p0,b2,by simpa using ⟨px,b1.1,b1.2.2⟩,?_⟩
    simp only[d3 px,d3 pl];exact b4
   ·simp only[d3 nmx,d3 nml]
    exact em
   ·rw[d3 (Ne.symm nla),d2]
    rfl
   ·rw[d2,hfs]
    rfl
theorem a0b{H:Hp}{x y:Addr}{u v:HO}(e:H x=some u)(e':H y=some v)(n:u≠v):x≠y:=λz=>by
 rw[z,e'] at e;exact n (Option.some.inj e).symm
def a6v(cl:Cl):Sp:=λvs H Q _=>∃(la dx:Addr)(n:Nat),vs=[.ref la,.int n]/\H la=some (.ins cl.Lane dx [])/\2<=n/\n<=8/\∀bd l kt v u H',H bd=none->H l=none->H kt=none->bd≠l->bd≠kt->l≠kt->Kp [la] H H'->Brd cl H' bd l n (a5w n) 0 .non->H' kt=some (.lst [])->H' la=some (.ins cl.Lane dx [("board",.ref bd),("kept_trail",.ref kt),("giver",v),("taker",u)])->Q .non H'
abbrev a4o:Stmt:=k6 (top 106) 0
theorem b1u:d8 ["self","size"] ["self","size"] (d5 a4o):=↑1
theorem b2p(D:DefM K cl.Lane "__init__" "Lane.__init__" a4o ["self","size"])(T:Txt K mg cl)(G_Board:b5n P w K mg base "Board" cl.Board 2 ["self","size"] (a5h cl))(G_Lane_place_giver:MethT P w K mg base cl.Lane "place_giver" 5 ["self","orders"] (o9 cl))(G_Lane_place_taker:MethT P w K mg base cl.Lane "place_taker" 5 ["self","book"] (o8 cl)):MethT P w K mg base cl.Lane "__init__" 6 ["self","size"] (a6v cl):=by
 refine D.fn b1u (λvs H Q E h=>?_) ↑2
 ·obtain⟨la,dx,n,rfl,_⟩:=h
  rfl
 ·obtain⟨la,dx,n,rfl,ela,n2,n8,k⟩:=h
  refine⟨_,(c3 (j2 (K:=K) (pv 0) (b7x G_Board hr (by decide) rfl f6 (c0 (pv 1) d0)))
   (c3 (j2 (K:=K) (pv 0) (l8 d0))
   (c3 (j8 (b3m (pv 0) T.k_Lane G_Lane_place_giver hr (by decide) f6 (c0 (l8 d0) d0)))
   (d4 (j8 (b3m (pv 0) T.k_Lane G_Lane_place_taker hr (by decide) f6 (c0 (l8 d0) d0))))))),?_⟩
  fail "";intro bd dxb hbd hdxb ne;have sm:=a6j (u:=.own bd) (o:=.ins cl.Board dxb []) hbd hdxb ne;refine⟨bd,dxb,n,rfl,d2,?_⟩;rw[if_pos ⟨by lia,by lia⟩]
  intro l H1 hl kp1 hB1;refine⟨rfl,?_⟩;rw[show((n:Nat):Int).toNat=n from rfl] at hB1;have hl0:=i7 sm hl;have nlb:la≠bd:=λz=>by rw[<- z,ela] at hbd;cases hbd
  have nll:la≠l:=λz=>by rw[<- z,ela] at hl0;cases hl0
  have ela1:=kp1 _ _ (sm _ _ ela) (by simpa using nlb)
  have n01:bd≠l:=by
   obtain⟨⟨_,e1⟩,e2,_⟩:=hB1;exact a0b e1 e2 (λz=>(nomatch z))
  have kH1:∀x o,H x=some o->x≠la->H1 x=some o:=λx o e _=>kp1 _ _ (sm _ _ e) (by simpa using λz=>by rw[z,hbd] at e;cases e)
  fail "";refine⟨Nat.zero_le _,λkt hkt=>?_⟩;have nkl:kt≠la:=λz=>by rw[z,d2] at hkt;cases hkt
  rw[d3 nkl] at hkt;have n04:bd≠kt:=λz=>by obtain⟨⟨_,e1⟩,_⟩:=hB1;rw[z,hkt] at e1;cases e1
  have n14:l≠kt:=λz=>by obtain⟨_,e1,_⟩:=hB1;rw[z,hkt] at e1;cases e1
  have hkt0:H kt=none:=by
   cases e:H kt with
   | none=>rfl
   | some o=>rw[kH1 _ _ e nkl] at hkt;cases hkt
  fail "";refine⟨Nat.zero_le _,λa1 ha1=>?_⟩;have na1:a1≠la:=λz=>by rw[z,d2] at ha1;cases ha1
  have nak:a1≠kt:=λz=>by rw[z,d3 nkl,d2] at ha1;cases ha1
  simp only[d3 na1,d3 nak] at ha1;fail "";generalize e3:upd (upd (upd (upd H1 la _) kt _) la _) a1 _=H3;have l3:H3 la=some (.ins cl.Lane dx [("board",.ref bd),("kept_trail",.ref kt)]):=by rw[<- e3,d3 (Ne.symm na1),d2];rfl
  have k3:∀x o,H1 x=some o->x≠la->H3 x=some o:=λx o e nx=>by
   rw[<- e3,d3 (λz=>by rw[z,ha1] at e;cases e),d3 nx,d3 (λz=>by rw[z,hkt] at e;cases e),d3 nx]
   exact e
  have t3:H3 kt=some (.lst []):=by rw[<- e3,d3 (Ne.symm nak),d3 nkl,d2]
  have a3:H3 a1=some (.lst []):=by rw[<- e3,d2]
  have hB3:Brd cl H3 bd l n (a5w n) 0 .non:=hB1.keep (ps:=[la]) (λc o e nn=>k3 c o e (by simpa using nn)) (by simpa using Ne.symm nlb) (by simpa using Ne.symm nll)
  have kH3:∀x o,H x=some o->x≠la->H3 x=some o:=λx o e nx=>k3 x o (kH1 x o e nx) nx;clear e3;refine⟨la,dx,bd,kt,a1,l,n,a5w n,0,.non,[],_,_,rfl,.inl ⟨rfl,λ_=>rfl⟩,l3,hB3,.inl ⟨rfl,a3⟩,(λo ho=>by cases ho),by decide,λg dxg D m H4 hg hD hm gD gm Dm kp4 nr4 em4 eg4 l4=>?_⟩
  fail "";refine⟨Nat.zero_le _,λa2 ha2=>?_⟩;fail "";generalize e5:upd H4 a2 _=H5;have s5:Same H4 H5:=by rw[<- e5];exact d7 ha2
  have a5:H5 a2=some (.lst []):=by rw[<- e5,d2]
  clear e5;have k35:Kp [la] H3 H5:=λx o e nx=>s5 _ _ (kp4 x o e nx);have hB5:=hB3.keep k35 (by simpa using Ne.symm nlb) (by simpa using Ne.symm nll)
  refine⟨la,dx,bd,kt,a2,l,n,a5w n,0,.non,[],_,_,rfl,.inl ⟨.ref g,rfl,λ_=>rfl⟩,s5 _ _ l4,hB5,.inl ⟨rfl,a5⟩,(λo ho=>by cases ho),by decide,λt dxt D2 m2 q H6 ht hD2 hm2 tD2 tm2 Dm2 hq qt qD2 qm2 eq6 kp6 nr6 em6 et6 l6=>?_⟩
  have hB6:=hB5.keep kp6 (by simpa using Ne.symm nlb) (by simpa using Ne.symm nll)
  have t6:=kp6 _ _ (k35 _ _ t3 (by simpa using nkl)) (by simpa using nkl)
  exact k bd l kt _ _ H6 hbd hl0 hkt0 n01 n04 n14 (λx o e nx=>kp6 x o (k35 x o (kH3 x o e (by simpa using nx)) nx) nx) hB6 t6 l6
def a5i(cl:Cl):Sp:=λvs H Q _=>∃(b l c:Addr)(n:Nat)(row row':List Int)(many:Int)(last:V),vs=[.ref b,.ref c]/\Brd cl H b l n row many last/\H c=some (.tup (row'.map V.int))/\row'.length=4*n+4/\∀l' H',H l'=none->Kp [b] H H'->Brd cl H' b l' n row' many last->Q .non H'
abbrev a3c:Stmt:=k6 (top 51) 5
theorem b0c:d8 ["self","cells"] ["self","cells"] (d5 a3c):=↑1
theorem b0y(D:DefM K cl.Board "fill" "Board.fill" a3c ["self","cells"])(T:Txt K mg cl):MethT P w K mg base cl.Board "fill" 1 ["self","cells"] (a5i cl):=by
 refine D.fn b0c (λvs H Q E h=>?_) ↑2
 ·obtain⟨b,l,c,n,row,row',many,last,rfl,_⟩:=h
  rfl
 ·obtain⟨b,l,c,n,row,row',many,last,rfl,⟨⟨dx,eb⟩,el,hl,n2,n8⟩,ec,hl',k⟩:=h
  refine⟨_,(d4 (j2 (K:=K) (pv 0) (g9 (m4 (K:=K)) (by rfl) T.z_list PyProof.Rows.boot_list (c0 (pv 1) d0)))),?_⟩
  fail "";intro p hp;have nb:=d9 eb hp;fail "";refine k p _ hp (λx o e n=>?_) ⟨⟨dx,?_⟩,?_,hl',n2,n8⟩
  ·have nx:x≠b:=by simpa using n
   rw[d3 nx,d3 (d9 e hp)];exact e
  ·rw[d2];rfl
  ·rw[d3 (Ne.symm nb),d2]
abbrev gO(cl:Cl)(dx D bd kt mr:Addr)(st:Str)(he:Hr)(nu le:Int):HO:=.ins cl.Giver dx [("kept",.ref D),("board",.ref bd),("name",.str "giver"),("other",.str "taker"),("stage_behind_marks",.str "told"),("stage_now",.str st),("marks_read",.ref mr),("here",he.v),("touched",.ref kt),("number",.int nu),("left",.int le)]
abbrev tO(cl:Cl)(dx D bd kt mr pa:Addr)(st:Str)(he nf:Hr)(nu le:Int):HO:=.ins cl.Taker dx [("taken",.ref D),("board",.ref bd),("name",.str "taker"),("other",.str "giver"),("stage_behind_marks",.str "look"),("stage_now",.str st),("marks_read",.ref mr),("here",he.v),("touched",.ref kt),("not_freed",nf.v),("number",.int nu),("left",.int le),("parts",.ref pa)]
abbrev k7:Stmt:=k6 (top 78) 5
theorem z6:d8 ["self","stage","turn","marks"] ["self","stage","turn","marks"] (d5 k7):=↑1
def y2(cl:Cl):Sp:=λvs H Q _=>∃(x dx D bd kt mr:Addr)(st0:Str)(he0:Hr)(nu le:Int)(st:Str)(he:Hr)(ms:List Int)(a:Addr),vs=[.ref x,.str st,he.v,.ref a]/\H x=some (gO cl dx D bd kt mr st0 he0 nu le)/\H a=some (.tup (ms.map V.int))/\∀p H',H p=none->Kp [x] H H'->H' p=some (.lst (ms.map V.int))->H' x=some (gO cl dx D bd kt p st he nu le)->Q .non H'
theorem a3g(D:DefM K cl.Giver "recall_start" "Hand.recall_start" k7 ["self","stage","turn","marks"])(T:Txt K mg cl):MethT P w K mg base cl.Giver "recall_start" 1 ["self","stage","turn","marks"] (y2 cl):=by
 refine D.fn z6 (λvs H Q E h=>?_) ↑2
 ·obtain⟨x,dx,D,bd,kt,mr,st0,he0,nu,le,st,he,ms,a,rfl,_⟩:=h
  rfl
 ·obtain⟨x,dx,D,bd,kt,mr,st0,he0,nu,le,st,he,ms,a,rfl,ex,ea,k⟩:=h
  refine⟨_,(c3 (j2 (K:=K) (pv 0) (pv 1))
   (c3 (j2 (K:=K) (pv 0) (pv 2))
   (d4 (j2 (K:=K) (pv 0) (g9 (m4 (K:=K)) (by rfl) T.z_list PyProof.Rows.boot_list (c0 (pv 3) d0)))))),?_⟩
  have nxa:x≠a:=a0b ex ea λz=>nomatch z;fail "";intro p hp;have npx:p≠x:=λz=>by rw[z,d2] at hp;cases hp
  have hp0:H p=none:=by simpa only [d3 npx] using hp
  fail "";refine k p _ hp0 (λy o e n=>?_) ?_ ?_
  ·have ny:y≠x:=by simpa using n
   simp only[d3 ny,d3 (d9 e hp0)];exact e
  ·simp only[d3 npx,d2]
  ·rw[d2];rfl
def y1(cl:Cl):Sp:=λvs H Q _=>∃(x dx D bd kt mr pa:Addr)(st0:Str)(he0 nf:Hr)(nu le:Int)(st:Str)(he:Hr)(ms:List Int)(a:Addr),vs=[.ref x,.str st,he.v,.ref a]/\H x=some (tO cl dx D bd kt mr pa st0 he0 nf nu le)/\H a=some (.tup (ms.map V.int))/\∀p H',H p=none->Kp [x] H H'->H' p=some (.lst (ms.map V.int))->H' x=some (tO cl dx D bd kt p pa st he nf nu le)->Q .non H'
theorem a3f(D:DefM K cl.Taker "recall_start" "Hand.recall_start" k7 ["self","stage","turn","marks"])(T:Txt K mg cl):MethT P w K mg base cl.Taker "recall_start" 1 ["self","stage","turn","marks"] (y1 cl):=by
 refine D.fn z6 (λvs H Q E h=>?_) ↑2
 ·obtain⟨x,dx,D,bd,kt,mr,pa,st0,he0,nf,nu,le,st,he,ms,a,rfl,_⟩:=h
  rfl
 ·obtain⟨x,dx,D,bd,kt,mr,pa,st0,he0,nf,nu,le,st,he,ms,a,rfl,ex,ea,k⟩:=h
  refine⟨_,(c3 (j2 (K:=K) (pv 0) (pv 1))
   (c3 (j2 (K:=K) (pv 0) (pv 2))
   (d4 (j2 (K:=K) (pv 0) (g9 (m4 (K:=K)) (by rfl) T.z_list PyProof.Rows.boot_list (c0 (pv 3) d0)))))),?_⟩
  have nxa:x≠a:=a0b ex ea λz=>nomatch z;fail "";intro p hp;have npx:p≠x:=λz=>by rw[z,d2] at hp;cases hp
  have hp0:H p=none:=by simpa only [d3 npx] using hp
  fail "";refine k p _ hp0 (λy o e n=>?_) ?_ ?_
  ·have ny:y≠x:=by simpa using n
   simp only[d3 ny,d3 (d9 e hp0)];exact e
  ·simp only[d3 npx,d2]
  ·rw[d2];rfl
theorem nwS{H H':Hp}{p:Addr}{o:HO}(u:upd H p o=H')(h:H p=none):Same H H'/\H' p=some o:=by subst u;exact⟨d7 h,d2⟩
theorem a9n{f:Str}{ta:TE}{v:V}{σ:St}{H:Hp}{Q:St->Hp->Prop}(q:ta σ H λx H1=>∃a C dx fs,x=.ref a/\H1 a=some (.ins C dx fs)/\Cls K C/\NoAttr K C f/\fs.length<1000/\Q σ (upd H1 a (.ins C dx (b0g f v fs)))):c5g K ta f v σ H Q:=q
def gnu(g:GSd):Int:=if g.st="lacks" then g.od else if g.pt=0 then g.od-1 else g.od
def gle(g:GSd)(os:List (List Int)):Int:=if g.st="lacks" then 0 else if g.pt=0 then 0 else ((os.getD g.od.toNat []).length:Int)-g.pt
def a2l(cl:Cl):Sp:=λvs H Q _=>∃(x dx D bd kt mr:Addr)(st0:Str)(he0:Hr)(nu0 le0:Int)(a:Addr)(g:GSd)(os:List (List Int)),vs=[.ref x,.ref a]/\H x=some (gO cl dx D bd kt mr st0 he0 nu0 le0)/\GT H a g/\Rws H D os/\a8s g.st g.od g.pt os/\∀p H',H p=none->Kp [x] H H'->H' p=some (.lst (g.ms.map V.int))->H' x=some (gO cl dx D bd kt p g.st g.he (gnu g) (gle g os))->Q .non H'
abbrev a0y:Stmt:=k6 (top 94) 11
theorem l9:d8 ["self","mind","stage","turn","marks","order","part"] ["self","mind"] (d5 a0y):=↑1
theorem a8a(D:DefM K cl.Giver "recall" "Giver.recall" a0y ["self","mind"])(T:Txt K mg cl)(GR:MethT P w K mg base cl.Giver "recall_start" 1 ["self","stage","turn","marks"] (y2 cl)):MethT P w K mg base cl.Giver "recall" 2 ["self","mind"] (a2l cl):=by
 refine D.fn l9 (λvs H Q E h=>?_) ↑2
 ·obtain⟨x,dx,D,bd,kt,mr,st0,he0,nu0,le0,a,g,os,rfl,_⟩:=h
  rfl
 ·obtain⟨x,dx,D,bd,kt,mr,st0,he0,nu0,le0,a,g,os,rfl,ex,⟨m,ea,em⟩,⟨ps,eD,hl,ep⟩,pf,k⟩:=h
  refine⟨_,(c3 (a1z (pv 1) (a1b (K:=K) rfl (f9 (f7 (i:=2) l9.nd rfl (by first|exact Or.inl rfl|exact Or.inr rfl)) (f9 (f7 (i:=3) l9.nd rfl (by first|exact Or.inl rfl|exact Or.inr rfl)) (f9 (f7 (i:=4) l9.nd rfl (by first|exact Or.inl rfl|exact Or.inr rfl)) (f9 (f7 (i:=5) l9.nd rfl (by first|exact Or.inl rfl|exact Or.inr rfl)) (f9 (f7 (i:=6) l9.nd rfl (by first|exact Or.inl rfl|exact Or.inr rfl)) a1a)))))))
   (c3 (j8 (a6z (k:=1) (pv 0) hr (by decide) f6 (c0 (pv 2) (c0 (pv 3) (c0 (pv 4) d0)))))
   (d4 (m5 (g6 z9 (pv 2) i3 (g7 _))
    (d4 (a1z (v2 (c0 (pv 5) (c0 d6 d0))) (a1b (K:=K) rfl (f9 (a6g (K:=K) (pv 0)) (f9 (a6g (K:=K) (pv 0)) a1a)))))
    (d4 (m5 (g6 z9 (pv 6) d6 (g7 _))
      (d4 (a1z (v2 (c0 (i5 a0t (pv 5) d6) (c0 d6 d0))) (a1b (K:=K) rfl (f9 (a6g (K:=K) (pv 0)) (f9 (a6g (K:=K) (pv 0)) a1a)))))
      (d4 (a1z (v2 (c0 (pv 5) (c0 (i5 a0t (j3 (i6 (K:=K)) (by rfl) T.z_len PySem.boot_len (c0 (q5 (j5 (K:=K)) (g0 (K:=K) (pv 0)) (pv 5) (λ_ _=>rfl)) d0)) (pv 6)) d0))) (a1b (K:=K) rfl (f9 (a6g (K:=K) (pv 0)) (f9 (a6g (K:=K) (pv 0)) a1a))))))))))),?_⟩
  fail "";refine b2u ea rfl ?_;fail "";refine v5 ?_;fail "";refine⟨x,cl.Giver,dx,_,_,_,rfl,ex,rfl,T.k_Giver,GR,?_⟩;fail "";refine⟨x,dx,D,bd,kt,mr,st0,he0,nu0,le0,g.st,g.he,g.ms,m,rfl,ex,em,λp H1 hp kp1 ep1 ex1=>?_⟩;have fin:∀{t:Addr}{u v:Int}{H4:Hp},H1 t=none->(∀y o,H1 y=some o->y≠x->H4 y=some o)->H4 x=some (gO cl dx D bd kt p g.st g.he u v)->u=gnu g->v=gle g os->Q .non H4:=λ{t u v H4} ht ks e4 eu ev=>by
   have npx:p≠x:=d9 ex hp |>.symm;refine k p H4 hp (λy o e n=>ks y o (kp1 y o e n) (by simpa using n)) (ks p _ ep1 npx) (by rw[<- eu,<- ev];exact e4)
  fail "";rw[a0n];by_cases h1:g.st="lacks"
  ·rw[decide_eq_true h1]
   fail "";refine⟨by show 2<=sizeLine;decide,λt ht=>?_⟩
   generalize u2:upd H1 t _=H2;obtain⟨s2,e2⟩:=nwS u2 ht;have ex2:=s2 _ _ ex1;refine⟨t,_,rfl,SqT.of e2,rfl,_,_,rfl,a9n ?_⟩;fail "";refine⟨_,_,rfl,a9n ?_⟩;fail "";exact⟨rfl,fin ht (λy o e ny=>by rw[d3 ny,d3 ny];exact s2 _ _ e) (by rw[d2];rfl) (by unfold gnu;rw[if_pos h1]) (by unfold gle;rw[if_pos h1])⟩
  ·rw[decide_eq_false h1]
   fail "";rw[q0];by_cases h2:g.pt=0
   ·rw[decide_eq_true h2]
    fail "";refine⟨by show 2<=sizeLine;decide,λt ht=>?_⟩
    generalize u2:upd H1 t _=H2;obtain⟨s2,e2⟩:=nwS u2 ht;have ex2:=s2 _ _ ex1;refine⟨t,_,rfl,SqT.of e2,rfl,_,_,rfl,a9n ?_⟩;fail "";refine⟨_,_,rfl,a9n ?_⟩;fail "";exact⟨rfl,fin ht (λy o e ny=>by rw[d3 ny,d3 ny];exact s2 _ _ e) (by rw[d2];rfl) (by unfold gnu;rw[if_neg h1,if_pos h2]) (by unfold gle;rw[if_neg h1,if_pos h2])⟩
   ·rw[decide_eq_false h2]
    obtain⟨o0,o1⟩:0<=g.od/\g.od<os.length:=by
     unfold a8s at pf;by_cases c1:g.st∈b1e\/g.st="told"
     ·rw[if_pos c1] at pf;exact absurd pf.2 h2
     ·rw[if_neg c1,if_neg h1] at pf
      by_cases c2:g.od=os.length
      ·rw[if_pos c2] at pf;exact absurd pf.2 h2
      ·rw[if_neg c2] at pf;exact pf.1
    have hj:g.od.toNat<os.length:=by lia
    obtain⟨q,hq⟩:∃q,ps[g.od.toNat]?=some q:=⟨_,List.getElem?_eq_getElem (by lia)⟩
    have nDx:D≠x:=a0b eD ex λz=>nomatch z;have nqx:q≠x:=a0b (ep _ q _ hq (List.getElem?_eq_getElem hj)) ex λz=>nomatch z;have eD1:=kp1 _ _ eD (by simpa using nDx)
    have eq1:=kp1 _ _ (ep _ q _ hq (List.getElem?_eq_getElem hj)) (by simpa using nqx)
    fail "";refine a4u (v:=.ref q) eD1 ?_ ?_
    ·unfold atI ixN
     rw[if_pos o0,if_pos (by rw[List.length_map];lia)]
     show(ps.map V.ref)[g.od.toNat]?=_;rw[List.getElem?_map,hq];rfl
    fail "";rw[List.length_map];refine⟨by show 2<=sizeLine;decide,λt ht=>?_⟩
    generalize u2:upd H1 t _=H2;obtain⟨s2,e2⟩:=nwS u2 ht;have ex2:=s2 _ _ ex1;refine⟨t,_,rfl,SqT.of e2,rfl,_,_,rfl,a9n ?_⟩;fail "";refine⟨_,_,rfl,a9n ?_⟩;fail "";exact⟨rfl,fin ht (λy o e ny=>by rw[d3 ny,d3 ny];exact s2 _ _ e) (by rw[d2];rfl) (by unfold gnu;rw[if_neg h1,if_neg h2]) (by unfold gle;rw[if_neg h1,if_neg h2,List.getD_eq_getElem?_getD,List.getElem?_eq_getElem hj];rfl)⟩
def a2j(cl:Cl):Sp:=λvs H Q _=>∃(x dx D bd kt mr pa:Addr)(st0:Str)(he0 nf0:Hr)(nu0 le0:Int)(a:Addr)(t:TSd),vs=[.ref x,.ref a]/\H x=some (tO cl dx D bd kt mr pa st0 he0 nf0 nu0 le0)/\TT H a t/\∀p q H',H p=none->H q=none->Kp [x] H H'->H' p=some (.lst (t.ms.map V.int))->H' q=some (.lst (t.pa.map V.int))->H' x=some (tO cl dx D bd kt p q t.st t.he t.nf t.nu t.le)->Q .non H'
abbrev a0x:Stmt:=k6 (top 104) 5
theorem j7:d8 ["self","mind","stage","turn","marks","first","number","left","parts"] ["self","mind"] (d5 a0x):=↑1
theorem a7z(D:DefM K cl.Taker "recall" "Taker.recall" a0x ["self","mind"])(T:Txt K mg cl)(GR:MethT P w K mg base cl.Taker "recall_start" 1 ["self","stage","turn","marks"] (y1 cl)):MethT P w K mg base cl.Taker "recall" 2 ["self","mind"] (a2j cl):=by
 refine D.fn j7 (λvs H Q E h=>?_) ↑2
 ·obtain⟨x,dx,D,bd,kt,mr,pa,st0,he0,nf0,nu0,le0,a,t,rfl,_⟩:=h
  rfl
 ·obtain⟨x,dx,D,bd,kt,mr,pa,st0,he0,nf0,nu0,le0,a,t,rfl,ex,⟨m,pp,ea,em,epp⟩,k⟩:=h
  refine⟨_,(c3 (a1z (pv 1) (a1b (K:=K) rfl (f9 (f7 (i:=2) j7.nd rfl (by first|exact Or.inl rfl|exact Or.inr rfl)) (f9 (f7 (i:=3) j7.nd rfl (by first|exact Or.inl rfl|exact Or.inr rfl)) (f9 (f7 (i:=4) j7.nd rfl (by first|exact Or.inl rfl|exact Or.inr rfl)) (f9 (f7 (i:=5) j7.nd rfl (by first|exact Or.inl rfl|exact Or.inr rfl)) (f9 (f7 (i:=6) j7.nd rfl (by first|exact Or.inl rfl|exact Or.inr rfl)) (f9 (f7 (i:=7) j7.nd rfl (by first|exact Or.inl rfl|exact Or.inr rfl)) (f9 (f7 (i:=8) j7.nd rfl (by first|exact Or.inl rfl|exact Or.inr rfl)) a1a)))))))))
   (c3 (j8 (a6z (k:=1) (pv 0) hr (by decide) f6 (c0 (pv 2) (c0 (pv 3) (c0 (pv 4) d0)))))
   (c3 (j2 (K:=K) (pv 0) (pv 5))
   (c3 (j2 (K:=K) (pv 0) (pv 6))
   (c3 (j2 (K:=K) (pv 0) (pv 7))
   (d4 (j2 (K:=K) (pv 0) (g9 (m4 (K:=K)) (by rfl) T.z_list PyProof.Rows.boot_list (c0 (pv 8) d0))))))))),?_⟩
  have npx:pp≠x:=a0b epp ex λz=>nomatch z;fail "";refine b8w ea rfl ?_;fail "";refine v5 ?_;fail "";refine⟨x,cl.Taker,dx,_,_,_,rfl,ex,rfl,T.k_Taker,GR,?_⟩;fail "";refine⟨x,dx,D,bd,kt,mr,pa,st0,he0,nf0,nu0,le0,t.st,t.he,t.ms,m,rfl,ex,em,λp H1 hp kp1 ep1 ex1=>?_⟩;have epp1:=kp1 _ _ epp (by simpa using npx)
  have np:p≠x:=(d9 ex hp).symm;fail "";intro q hq;have nq:q≠x:=λz=>by rw[z,d2] at hq;cases hq
  have hq1:H1 q=none:=by simpa only [d3 nq] using hq
  have npq:=d9 ep1 hq1;fail "";refine k p q _ hp ?_ (λy o e n=>?_) ?_ ?_ ?_
  ·cases e:H q with
   | none=>rfl
   | some o=>rw[kp1 _ _ e (by simpa using nq)] at hq1;cases hq1
  ·have ny:y≠x:=by simpa using n
   have e1:=kp1 _ _ e n;simp only[d3 ny,d3 (d9 e1 hq1)];exact e1
  ·simp only[d3 np,d3 npq]
   exact ep1
  ·simp only[d3 nq,d2]
  ·rw[d2];rfl
def GQ(cl:Cl)(H:Hp)(g bd kt:Addr)(y:GSd)(os:List (List Int)):Prop:=∃dx D mr,H g=some (gO cl dx D bd kt mr y.st y.he (gnu y) (gle y os))/\Rws H D os/\H mr=some (.lst (y.ms.map V.int))
def TQ(cl:Cl)(H:Hp)(t bd kt:Addr)(y:TSd)(bk:List (List Int)):Prop:=∃dx D mr pa,H t=some (tO cl dx D bd kt mr pa y.st y.he y.nf y.nu y.le)/\Rws H D bk/\H mr=some (.lst (y.ms.map V.int))/\H pa=some (.lst (y.pa.map V.int))
def LQ(cl:Cl)(H:Hp)(la:Addr)(x:Sd):Prop:=∃dx bd l kt g t,H la=some (.ins cl.Lane dx [("board",.ref bd),("kept_trail",.ref kt),("giver",.ref g),("taker",.ref t)])/\Brd cl H bd l x.n x.c 0 .non/\H kt=some (.lst [])/\GQ cl H g bd kt x.g x.os/\TQ cl H t bd kt x.t x.bk
theorem Brd.same{H H':Hp}{b l:Addr}{n:Nat}{row:List Int}{many:Int}{last:V}(h:Brd cl H b l n row many last)(s:Same H H'):Brd cl H' b l n row many last:=by
 obtain⟨⟨dx,e⟩,e',z⟩:=h;exact⟨⟨dx,s _ _ e⟩,s _ _ e',z⟩
theorem GQ.same{H H':Hp}{g bd kt:Addr}{y:GSd}{os:List (List Int)}(h:GQ cl H g bd kt y os)(s:Same H H'):GQ cl H' g bd kt y os:=by
 obtain⟨dx,D,mr,e,r,e'⟩:=h;exact⟨dx,D,mr,s _ _ e,r.same s,s _ _ e'⟩
theorem TQ.same{H H':Hp}{t bd kt:Addr}{y:TSd}{bk:List (List Int)}(h:TQ cl H t bd kt y bk)(s:Same H H'):TQ cl H' t bd kt y bk:=by
 obtain⟨dx,D,mr,pa,e,r,e',e''⟩:=h;exact⟨dx,D,mr,pa,s _ _ e,r.same s,s _ _ e',s _ _ e''⟩
theorem LQ.same{H H':Hp}{la:Addr}{x:Sd}(h:LQ cl H la x)(s:Same H H'):LQ cl H' la x:=by
 obtain⟨dx,bd,l,kt,g,t,e,b,e',gq,tq⟩:=h;exact⟨dx,bd,l,kt,g,t,s _ _ e,b.same s,s _ _ e',gq.same s,tq.same s⟩
theorem Same.kp{H H1 H2:Hp}{S:List Addr}(s:Same H H1)(k:Kp S H1 H2)(hS:∀y∈S,H y=none):Same H H2:=λy o e=>k y o (s y o e) λz=>by rw[hS y z] at e;cases e
theorem Rws.kp{H H':Hp}{D x:Addr}{u:HO}{os:List (List Int)}(h:Rws H D os)(k:Kp [x] H H')(ex:H x=some u)(nl:∀xs,u≠.lst xs):Rws H' D os:=by
 obtain⟨ps,e,l,r⟩:=h;have nx:∀{y:Addr}{xs:List V},H y=some (.lst xs)->y ∉ [x]:=λe z=>by
  rw[List.mem_singleton.mp z,ex] at e;exact nl _ (Option.some.inj e)
 exact⟨ps,k _ _ e (nx e),l,λi p o hp ho=>k _ _ (r i p o hp ho) (nx (r i p o hp ho))⟩
theorem NRw.rws{H H':Hp}{D:Addr}{S:List Addr}{os:List (List Int)}(h:NRw H H' D S os):Rws H' D os:=by
 obtain⟨ps,e,l,r⟩:=h;exact⟨ps,e,l,λi p o hp ho=>(r i p o hp ho).2.2.2⟩
def y9(cl:Cl):Sp:=λvs H Q _=>∃(a:Addr)(x:Sd),vs=[.ref a]/\ST H a x/\b8o x/\∀la H',H la=none->Same H H'->LQ cl H' la x->Q (.ref la) H'
abbrev a0h:Stmt:=top 127
theorem k0:d8 ["stand","cells","giver","taker","orders","book","lane"] ["stand"] (d5 a0h):=↑1
theorem a7f(D:DefT K mg "lane_standing" a0h ["stand"])(T:Txt K mg cl)(G_size_of_cells:FnT P w K mg base "size_of_cells" 5 ["cells"] (y7 cl))(G_Lane:b5n P w K mg base "Lane" cl.Lane 6 ["self","size"] (a6v cl))(G_Board_fill:MethT P w K mg base cl.Board "fill" 1 ["self","cells"] (a5i cl))(G_Lane_place_giver:MethT P w K mg base cl.Lane "place_giver" 5 ["self","orders"] (o9 cl))(G_Lane_place_taker:MethT P w K mg base cl.Lane "place_taker" 5 ["self","book"] (o8 cl))(GG:MethT P w K mg base cl.Giver "recall" 2 ["self","mind"] (a2l cl))(GK:MethT P w K mg base cl.Taker "recall" 2 ["self","mind"] (a2j cl)):FnT P w K mg base "lane_standing" 8 ["stand"] (y9 cl):=by
 refine D.fn k0 (λvs H Q E h=>?_) ↑2
 ·obtain⟨a,x,rfl,_⟩:=h
  rfl
 ·obtain⟨a,x,rfl,⟨c,g,t,o,b,ea,ec,eg,et,eo,eb⟩,gs,k⟩:=h
  refine⟨_,(c3 (a1z (pv 0) (a1b (K:=K) rfl (f9 (f7 (i:=1) k0.nd rfl (by first|exact Or.inl rfl|exact Or.inr rfl)) (f9 (f7 (i:=2) k0.nd rfl (by first|exact Or.inl rfl|exact Or.inr rfl)) (f9 (f7 (i:=3) k0.nd rfl (by first|exact Or.inl rfl|exact Or.inr rfl)) (f9 (f7 (i:=4) k0.nd rfl (by first|exact Or.inl rfl|exact Or.inr rfl)) (f9 (f7 (i:=5) k0.nd rfl (by first|exact Or.inl rfl|exact Or.inr rfl)) a1a)))))))
   (c3 (i9 (i:=6) k0.nd rfl (by first|exact Or.inl rfl|exact Or.inr rfl) (b7x G_Lane hr (by decide) rfl f6 (c0 (i4 G_size_of_cells hr (by decide) rfl f6 (c0 (pv 1) d0)) d0)))
   (c3 (j8 (b3m (g0 (K:=K) (pv 6)) T.k_Board G_Board_fill hr (by decide) f6 (c0 (pv 1) d0)))
   (c3 (j8 (b3m (pv 6) T.k_Lane G_Lane_place_giver hr (by decide) f6 (c0 (pv 4) d0)))
   (c3 (j8 (b3m (pv 6) T.k_Lane G_Lane_place_taker hr (by decide) f6 (c0 (pv 5) d0)))
   (c3 (j8 (a6z (k:=2) (g0 (K:=K) (pv 6)) hr (by decide) f6 (c0 (pv 2) d0)))
   (c3 (j8 (a6z (k:=2) (g0 (K:=K) (pv 6)) hr (by decide) f6 (c0 (pv 3) d0)))
   (d4 (f8 (pv 6)))))))))),?_⟩
  fail "";refine b2u ea rfl ?_;fail "";refine⟨c,x.c,x.n,rfl,ec,gs.c,λH1 s1=>?_⟩;intro la dxl hla hdx ne;have sm:=a6j (u:=.own la) (o:=.ins cl.Lane dxl []) hla hdx ne;have ela:upd (upd H1 dxl (.own la)) la (.ins cl.Lane dxl []) la=some (.ins cl.Lane dxl []):=d2;generalize upd (upd H1 dxl _) la _=H2 at *;refine⟨la,dxl,x.n,rfl,ela,gs.c.n2,gs.c.n8,λbd l kt v u H3 hbd hl hkt n1 n2 n3 kp3 hB3 ekt3 ela3=>⟨rfl,?_⟩⟩;have hla0:=i7 s1 hla;have s2:=s1.trans sm;have s3:Same H H3:=Same.kp s2 kp3 (by simpa using hla0)
  have hbd0:=i7 s2 hbd;have nlb:la≠bd:=d9 ela hbd;have nlk:la≠kt:=d9 ela hkt;obtain⟨⟨dxb3,eb3⟩,_⟩:=id hB3;fail "";refine⟨bd,l,c,x.n,_,x.c,0,.non,rfl,hB3,s3 _ _ ec,gs.c.len,λl' H4 hl' kp4 hB4=>?_⟩;have ela4:=kp4 _ _ ela3 (by simpa using nlb)
  have ekt4:=kp4 _ _ ekt3 (by simpa using Ne.symm n2)
  have s4:Same H H4:=Same.kp s3 kp4 (by simpa using hbd0)
  fail "";refine⟨la,dxl,bd,kt,o,l',x.n,x.c,0,.non,x.os,_,_,rfl,.inr ⟨v,u,rfl,λ_=>rfl⟩,ela4,hB4,.inr (eo.same s4),gs.os,gs.lo,λgv dxg D m H5 hg hD hm gD gm Dm kp5 nr5 em5 eg5 ela5=>?_⟩;have s5:Same H H5:=Same.kp s4 kp5 (by simpa using hla0)
  have hB5:=hB4.keep kp5 (by simpa using Ne.symm nlb) (by simpa using λz:l'=la=>by rw[z,ela3] at hl';cases hl')
  have ekt5:=kp5 _ _ ekt4 (by simpa using Ne.symm nlk)
  have ngl:=d9 ela4 hg;have nml:=d9 ela4 hm;have nll:l'≠la:=λz=>by rw[z,ela3] at hl';cases hl'
  fail "";refine⟨la,dxl,bd,kt,b,l',x.n,x.c,0,.non,x.bk,_,_,rfl,.inr ⟨.ref gv,u,rfl,λ_=>rfl⟩,ela5,hB5,.inr (eb.same s5),gs.bk,gs.lb,λtk dxt D2 m2 q H6 ht hD2 hm2 tD2 tm2 Dm2 hq qt qD2 qm2 eq6 kp6 nr6 em6 et6 ela6=>?_⟩;have s6:Same H H6:=Same.kp s5 kp6 (by simpa using hla0)
  have hB6:=hB5.keep kp6 (by simpa using Ne.symm nlb) (by simpa using nll)
  have ekt6:=kp6 _ _ ekt5 (by simpa using Ne.symm nlk)
  have eg6:=kp6 _ _ eg5 (by simpa using Ne.symm ngl)
  have em56:=kp6 _ _ em5 (by simpa using Ne.symm nml)
  have r6:Rws H6 D x.os:=nr5.rws.kp kp6 ela5 λxs z=>nomatch z;have ngt:gv≠tk:=d9 eg5 ht;have ntl:la≠tk:=d9 ela5 ht;fail "";refine v5 ?_;fail "";refine⟨gv,cl.Giver,dxg,_,_,_,rfl,eg6,rfl,T.k_Giver,GG,?_⟩;fail "";refine⟨gv,dxg,D,bd,kt,m,"rouse",.non,-1,0,g,x.g,x.os,rfl,eg6,eg.same s6,r6,gs.g.pf,λp7 H7 hp7 kp7 ep7 eg7=>?_⟩;have hgv0:H gv=none:=i7 s4 hg;have htk0:H tk=none:=i7 s5 ht;have s7:Same H H7:=Same.kp s6 kp7 (by simpa using hgv0)
  have kL:∀{y:Addr}{o:HO},H6 y=some o->y≠gv->H7 y=some o:=λe n=>kp7 _ _ e (by simpa using n)
  have et7:=kL et6 (Ne.symm ngt);have ela7:=kL ela6 ngl;have ekt7:=kL ekt6 (a0b ekt6 eg6 λz=>nomatch z);obtain⟨⟨dxb4,eb4⟩,el4,_⟩:=id hB4;obtain⟨⟨dxb5,eb5⟩,el5,_⟩:=id hB5;have hB7:=hB6.keep kp7 (by simpa using d9 eb4 hg) (by simpa using d9 el4 hg)
  have r7:=r6.kp kp7 eg6 λxs z=>nomatch z;have q7:=(nr6.rws (os:=x.bk)).kp kp7 eg6 λxs z=>nomatch z;fail "";refine v5 ?_;fail "";refine⟨tk,cl.Taker,dxt,_,_,_,rfl,et7,rfl,T.k_Taker,GK,?_⟩;fail "";refine⟨tk,dxt,D2,bd,kt,m2,q,"rouse",.non,.non,0,0,t,x.t,rfl,et7,et.same s7,λp8 q8 H8 hp8 hq8 kp8 ep8 eq8 et8=>?_⟩;have s8:Same H H8:=Same.kp s7 kp8 (by simpa using htk0)
  have kM:∀{y:Addr}{o:HO},H7 y=some o->y≠tk->H8 y=some o:=λe n=>kp8 _ _ e (by simpa using n)
  fail "";refine k la H8 hla0 s8 ⟨dxl,bd,l',kt,gv,tk,kM ela7 ntl,hB7.keep kp8 (by simpa using d9 eb5 ht) (by simpa using d9 el5 ht),kM ekt7 (a0b ekt7 et7 λz=>nomatch z),⟨dxg,D,p7,kM eg7 ngt,(r7.kp kp8 et7 λxs z=>nomatch z),kM ep7 (a0b ep7 et7 λz=>nomatch z)⟩,⟨dxt,D2,p8,q8,et8,(q7.kp kp8 et7 λxs z=>nomatch z),ep8,eq8⟩⟩
def a9b(cl:Cl):Sp:=y9 cl
abbrev a7u:Stmt:=top 128
theorem b4y:d8 ["stand"] ["stand"] (d5 a7u):=↑1
theorem b5d(D:DefT K mg "lane_at" a7u ["stand"])(T:Txt K mg cl)(G_check_stand:FnT P w K mg base "check_stand" 7 ["stand"] a3s)(G_lane_standing:FnT P w K mg base "lane_standing" 8 ["stand"] (y9 cl)):FnT P w K mg base "lane_at" 9 ["stand"] (a9b cl):=by
 refine D.fn b4y (λvs H Q E h=>?_) ↑2
 ·obtain⟨a,x,rfl,_⟩:=h
  rfl
 ·obtain⟨a,x,rfl,st,gs,k⟩:=h
  refine⟨_,(c3 (j8 (i4 G_check_stand hr (by decide) rfl f6 (c0 (pv 0) d0)))
   (d4 (f8 (i4 G_lane_standing hr (by decide) rfl f6 (c0 (pv 0) d0))))),?_⟩
  fail "";refine⟨a,x,rfl,st,gs,λH1 s1=>?_⟩;fail "";exact⟨a,x,rfl,st.same s1,gs,λla H2 hla s2 lq=>k la H2 (i7 s1 hla) (s1.trans s2) lq⟩
def bg(nu le:Int):Bool:=decide (nu=-1) || decide (le<=0)
def nO(nu le:Int):Int:=if bg nu le=true then nu+1 else nu
def nP(os:List (List Int))(nu le:Int):Int:=if bg nu le=true then 0 else ((os.getD nu.toNat []).length:Int)-le
def hP(os:List (List Int))(nu le:Int):Bool:=decide (0<=nO nu le/\nO nu le<os.length) && decide (0<=nP os nu le/\nP os nu le<(os.getD (nO nu le).toNat []).length)
inductive ExG(R:Addr->Addr->Addr->Addr->Addr->Addr->Str->Hr->Int->Int->Prop):Prop
 | mk (x dx D bd kt mr:Addr) (st:Str) (he:Hr) (nu le:Int) (h:R x dx D bd kt mr st he nu le):ExG R
def a7o(cl:Cl):Sp:=λvs H Q _=>ExG λx dx D bd kt mr st he nu le=>vs=[.ref x]/\H x=some (gO cl dx D bd kt mr st he nu le)/\Q (.bl (bg nu le)) H
abbrev o7:Stmt:=k6 (top 94) 4
theorem a2n:d8 ["self"] ["self"] (d5 o7):=↑1
theorem a3h(D:DefM K cl.Giver "begins_order" "Giver.begins_order" o7 ["self"])(T:Txt K mg cl):MethT P w K mg base cl.Giver "begins_order" 1 ["self"] (a7o cl):=by
 refine D.fn a2n (λvs H Q E h=>?_) ↑2
 ·obtain⟨x,dx,D,bd,kt,mr,st,he,nu,le,rfl,_⟩:=h
  rfl
 ·obtain⟨x,dx,D,bd,kt,mr,st,he,nu,le,rfl,ex,k⟩:=h
  refine⟨_,(d4 (f8 (c1h (j9 z9 (g0 (K:=K) (pv 0)) (l7 T.m_NO_ORDER rfl) (g7 _)) (a2a (j9 c3m (g0 (K:=K) (pv 0)) d6 (g7 _)))))),?_⟩;unfold bg at k;fail "";rw[q0];by_cases h1:nu=-1
  ·rw[decide_eq_true h1] at k ⊢
   fail "";exact k
  ·rw[decide_eq_false h1] at k ⊢
   fail "";exact k
def a1h(cl:Cl):Sp:=λvs H Q _=>ExG λx dx D bd kt mr st he nu le=>vs=[.ref x]/\H x=some (gO cl dx D bd kt mr st he nu le)/\Q (.int (nO nu le)) H
abbrev t7:Stmt:=k6 (top 94) 5
theorem a4a:d8 ["self"] ["self"] (d5 t7):=↑1
theorem a4t(D:DefM K cl.Giver "next_order" "Giver.next_order" t7 ["self"])(T:Txt K mg cl)(GB:MethT P w K mg base cl.Giver "begins_order" 1 ["self"] (a7o cl)):MethT P w K mg base cl.Giver "next_order" 2 ["self"] (a1h cl):=by
 refine D.fn a4a (λvs H Q E h=>?_) ↑2
 ·obtain⟨x,dx,D,bd,kt,mr,st,he,nu,le,rfl,_⟩:=h
  rfl
 ·obtain⟨x,dx,D,bd,kt,mr,st,he,nu,le,rfl,ex,k⟩:=h
  refine⟨_,(d4 (f8 (a3k (a3d (m3 (k:=1) (pv 0) hr (by decide) f6)) (i5 y6 (g0 (K:=K) (pv 0)) d6) (g0 (K:=K) (pv 0))))),?_⟩
  unfold nO at k;fail "";refine v5 ?_;fail "";refine⟨x,cl.Giver,dx,_,_,_,rfl,ex,rfl,T.k_Giver,GB,?_⟩;fail "";refine⟨x,dx,D,bd,kt,mr,st,he,nu,le,rfl,ex,?_⟩;cases hb:bg nu le with
  | true=>
   rw[hb,if_pos rfl] at k;fail "";exact k
  | false=>
   rw[hb,if_neg (by decide)] at k
   fail "";exact k
def GKn(os:List (List Int))(nu le:Int):Prop:=bg nu le=true\/(0<=nu/\nu<os.length)
theorem b5x{H:Hp}{D:Addr}{os:List (List Int)}{i:Int}(r:Rws H D os)(h0:0<=i)(h1:i<os.length):∃xs q,H D=some (.lst xs)/\xs.length=os.length/\atI xs i=some (.ref q)/\H q=some (.lst ((os.getD i.toNat []).map V.int)):=by
 obtain⟨ps,e,l,r⟩:=r;have hj:i.toNat<os.length:=by lia
 obtain⟨q,hq⟩:∃q,ps[i.toNat]?=some q:=⟨_,List.getElem?_eq_getElem (by lia)⟩
 refine⟨_,q,e,by rw[List.length_map];exact l,?_,?_⟩
 ·unfold atI ixN
  rw[if_pos h0,if_pos (by rw[List.length_map];lia)]
  show(ps.map V.ref)[i.toNat]?=_;rw[List.getElem?_map,hq];rfl
 ·rw[List.getD_eq_getElem?_getD,List.getElem?_eq_getElem hj]
  exact r _ q _ hq (List.getElem?_eq_getElem hj)
def a2f(cl:Cl):Sp:=λvs H Q _=>ExG λx dx D bd kt mr st he nu le=>∃os,vs=[.ref x]/\H x=some (gO cl dx D bd kt mr st he nu le)/\Rws H D os/\GKn os nu le/\Q (.int (nP os nu le)) H
abbrev x0:Stmt:=k6 (top 94) 6
theorem a5l:d8 ["self"] ["self"] (d5 x0):=↑1
theorem a5u(D:DefM K cl.Giver "next_part" "Giver.next_part" x0 ["self"])(T:Txt K mg cl)(GB:MethT P w K mg base cl.Giver "begins_order" 1 ["self"] (a7o cl)):MethT P w K mg base cl.Giver "next_part" 2 ["self"] (a2f cl):=by
 refine D.fn a5l (λvs H Q E h=>?_) ↑2
 ·obtain⟨x,dx,D,bd,kt,mr,st,he,nu,le,os,rfl,_⟩:=h
  rfl
 ·obtain⟨x,dx,D,bd,kt,mr,st,he,nu,le,os,rfl,ex,r,gk,k⟩:=h
  refine⟨_,(d4 (f8 (a3k (a3d (m3 (k:=1) (pv 0) hr (by decide) f6)) d6 (i5 a0t (j3 (i6 (K:=K)) (by rfl) T.z_len PySem.boot_len (c0 (q5 (j5 (K:=K)) (g0 (K:=K) (pv 0)) (g0 (K:=K) (pv 0)) (λ_ _=>rfl)) d0)) (g0 (K:=K) (pv 0)))))),?_⟩
  unfold nP at k;fail "";refine v5 ?_;fail "";refine⟨x,cl.Giver,dx,_,_,_,rfl,ex,rfl,T.k_Giver,GB,?_⟩;fail "";refine⟨x,dx,D,bd,kt,mr,st,he,nu,le,rfl,ex,?_⟩;unfold GKn at gk;cases hb:bg nu le with
  | true=>
   rw[hb,if_pos rfl] at k;fail "";exact k
  | false=>
   rw[hb] at gk;obtain⟨h0,h1⟩:=gk.resolve_left (by decide)
   obtain⟨xs,q,eD,_,hat,eq⟩:=b5x r h0 h1;rw[hb,if_neg (by decide)] at k
   fail "";refine a4u eD hat ?_;fail "";rw[List.length_map];exact k
def a7m(cl:Cl):Sp:=λvs H Q _=>ExG λx dx D bd kt mr st he nu le=>∃os,vs=[.ref x]/\H x=some (gO cl dx D bd kt mr st he nu le)/\Rws H D os/\GKn os nu le/\Q (.bl (hP os nu le)) H
abbrev z0:Stmt:=k6 (top 94) 8
theorem a1d:d8 ["self","order"] ["self"] (d5 z0):=↑1
theorem a6i(D:DefM K cl.Giver "has_part" "Giver.has_part" z0 ["self"])(T:Txt K mg cl)(GO:MethT P w K mg base cl.Giver "next_order" 2 ["self"] (a1h cl))(GP:MethT P w K mg base cl.Giver "next_part" 2 ["self"] (a2f cl)):MethT P w K mg base cl.Giver "has_part" 3 ["self"] (a7m cl):=by
 refine D.fn a1d (λvs H Q E h=>?_) ↑2
 ·obtain⟨x,dx,D,bd,kt,mr,st,he,nu,le,os,rfl,_⟩:=h
  rfl
 ·obtain⟨x,dx,D,bd,kt,mr,st,he,nu,le,os,rfl,ex,r,gk,k⟩:=h
  refine⟨_,(c3 (i9 (i:=1) a1d.nd rfl (by first|exact Or.inl rfl|exact Or.inr rfl) (m3 (k:=2) (pv 0) hr (by decide) f6))
   (d4 (f8 (a3y (a3j rfl T.z_range (pv 1) (c0 (j3 (i6 (K:=K)) (by rfl) T.z_len PySem.boot_len (c0 (g0 (K:=K) (pv 0)) d0)) d0)) (a2a (a3j rfl T.z_range (m3 (k:=2) (pv 0) hr (by decide) f6) (c0 (j3 (i6 (K:=K)) (by rfl) T.z_len PySem.boot_len (c0 (q5 (j5 (K:=K)) (g0 (K:=K) (pv 0)) (pv 1) (λ_ _=>rfl)) d0)) d0))))))),?_⟩
  unfold hP at k;obtain⟨ps,eD,hl,_⟩:=id r;fail "";refine v5 ?_;fail "";refine⟨x,cl.Giver,dx,_,_,_,rfl,ex,rfl,T.k_Giver,GO,?_⟩;fail "";refine⟨x,dx,D,bd,kt,mr,st,he,nu,le,rfl,ex,?_⟩;fail "";rw[List.length_map,hl];refine⟨_,_,rfl,rfl,_,rfl,?_⟩;by_cases h1:0<=nO nu le/\nO nu le<os.length
  ·rw[decide_eq_true h1] at k ⊢
   obtain⟨xs,q,eD',_,hat,eq⟩:=b5x r h1.1 h1.2;fail "";refine v5 ?_;fail "";refine⟨x,cl.Giver,dx,_,_,_,rfl,ex,rfl,T.k_Giver,GP,?_⟩;fail "";refine⟨x,dx,D,bd,kt,mr,st,he,nu,le,os,rfl,ex,r,gk,?_⟩;fail "";refine a4u eD' hat ?_;fail "";rw[List.length_map];exact⟨_,_,rfl,rfl,k⟩
  ·rw[decide_eq_false h1] at k ⊢
   fail "";exact k
def oP(st:Str)(os:List (List Int))(nu le:Int):Int×Int:=if st="lacks" then (nu,0) else if hP os nu le=true then (nO nu le,nP os nu le) else (os.length,0)
def a1c(cl:Cl):Sp:=λvs H Q _=>ExG λx dx D bd kt mr st he nu le=>∃os,vs=[.ref x]/\H x=some (gO cl dx D bd kt mr st he nu le)/\Rws H D os/\GKn os nu le/\∀p,H p=none->Q (.ref p) (upd H p (.tup [.int (oP st os nu le).1,.int (oP st os nu le).2]))
abbrev o3:Stmt:=k6 (top 94) 9
theorem a1l:d8 ["self"] ["self"] (d5 o3):=↑1
theorem a1r(D:DefM K cl.Giver "order_and_part" "Giver.order_and_part" o3 ["self"])(T:Txt K mg cl)(GH:MethT P w K mg base cl.Giver "has_part" 3 ["self"] (a7m cl))(GO:MethT P w K mg base cl.Giver "next_order" 2 ["self"] (a1h cl))(GP:MethT P w K mg base cl.Giver "next_part" 2 ["self"] (a2f cl)):MethT P w K mg base cl.Giver "order_and_part" 4 ["self"] (a1c cl):=by
 refine D.fn a1l (λvs H Q E h=>?_) ↑2
 ·obtain⟨x,dx,D,bd,kt,mr,st,he,nu,le,os,rfl,_⟩:=h
  rfl
 ·obtain⟨x,dx,D,bd,kt,mr,st,he,nu,le,os,rfl,ex,r,gk,k⟩:=h
  refine⟨_,(c3 (m5 (g6 z9 (g0 (K:=K) (pv 0)) i3 (g7 _))
     (d4 (f8 (v2 (c0 (g0 (K:=K) (pv 0)) (c0 d6 d0)))))
     i8)
   (c3 (m5 (a5o (a3d (m3 (k:=3) (pv 0) hr (by decide) f6)))
     (d4 (f8 (v2 (c0 (j3 (i6 (K:=K)) (by rfl) T.z_len PySem.boot_len (c0 (g0 (K:=K) (pv 0)) d0)) (c0 d6 d0)))))
     i8)
   (d4 (f8 (v2 (c0 (m3 (k:=2) (pv 0) hr (by decide) f6) (c0 (m3 (k:=2) (pv 0) hr (by decide) f6) d0))))))),?_⟩
  unfold oP at k;obtain⟨ps,eD,hl,_⟩:=id r;fail "";rw[a0n];by_cases h1:st="lacks"
  ·rw[if_pos h1] at k
   rw[decide_eq_true h1];fail "";exact⟨by show 2<=sizeLine;decide,k⟩
  rw[if_neg h1] at k;rw[decide_eq_false h1];fail "";refine v5 ?_;fail "";refine⟨x,cl.Giver,dx,_,_,_,rfl,ex,rfl,T.k_Giver,GH,?_⟩;fail "";refine⟨x,dx,D,bd,kt,mr,st,he,nu,le,os,rfl,ex,r,gk,?_⟩;cases hb:hP os nu le with
  | false=>
   rw[hb,if_neg (by decide)] at k
   fail "";rw[List.length_map,hl];exact⟨by show 2<=sizeLine;decide,k⟩
  | true=>
   rw[hb,if_pos rfl] at k;fail "";refine v5 ?_;fail "";refine⟨x,cl.Giver,dx,_,_,_,rfl,ex,rfl,T.k_Giver,GO,?_⟩;fail "";refine⟨x,dx,D,bd,kt,mr,st,he,nu,le,rfl,ex,?_⟩;fail "";refine v5 ?_;fail "";refine⟨x,cl.Giver,dx,_,_,_,rfl,ex,rfl,T.k_Giver,GP,?_⟩;fail "";refine⟨x,dx,D,bd,kt,mr,st,he,nu,le,os,rfl,ex,r,gk,?_⟩;fail "";exact⟨by show 2<=sizeLine;decide,k⟩
theorem b7v{n:Nat}{os:List (List Int)}{y:GSd}(pf:a8s y.st y.od y.pt os)(hg:b4v n os):GKn os (gnu y) (gle y os)/\oP y.st os (gnu y) (gle y os)=(y.od,y.pt):=by
 unfold a8s at pf;unfold GKn oP;by_cases h1:y.st="lacks"
 ·have e:gnu y=y.od/\gle y os=0:=by unfold gnu gle;rw[if_pos h1,if_pos h1];exact⟨rfl,rfl⟩
  rw[if_neg (by rw[h1];decide),if_pos h1] at pf
  rw[if_pos h1,e.1,e.2,pf.2];exact⟨.inl (by unfold bg;simp),rfl⟩
 rw[if_neg h1];by_cases h2:y.pt=0
 ·have e:gnu y=y.od-1/\gle y os=0:=by unfold gnu gle;rw[if_neg h1,if_pos h2,if_neg h1,if_pos h2];exact⟨rfl,rfl⟩
  have hb:bg (gnu y) (gle y os)=true:=by unfold bg;rw[e.2];simp
  have ho:nO (gnu y) (gle y os)=y.od:=by unfold nO;rw[if_pos hb,e.1];lia
  have hp:nP os (gnu y) (gle y os)=0:=by unfold nP;rw[if_pos hb]
  refine⟨.inl hb,?_⟩;unfold hP;rw[ho,hp];by_cases h3:0<=y.od/\y.od<os.length
  ·have hj:y.od.toNat<os.length:=by lia
   have hl:=(hg _ (List.getElem_mem hj)).1;rw[decide_eq_true h3,decide_eq_true (show(0:Int)<=0/\(0:Int)<((os.getD y.od.toNat []).length:Int) by rw[List.getD_eq_getElem?_getD,List.getElem?_eq_getElem hj];exact⟨Int.le_refl _,by show(0:Int)<((os[y.od.toNat]).length:Int);lia⟩)]
   rw[h2]
   rfl
  ·rw[decide_eq_false h3]
   show((os.length:Int),(0:Int))=_;rw[h2];have:y.od=os.length:=by
    by_cases c1:y.st∈b1e\/y.st="told"
    ·rw[if_pos c1] at pf;lia
    ·rw[if_neg c1,if_neg h1] at pf
     by_cases c2:y.od=os.length
     ·exact c2
     ·rw[if_neg c2] at pf;exact absurd pf.1 h3
   rw[this]
 ·obtain⟨h3,h4⟩:(0<=y.od/\y.od<os.length)/\0<=y.pt/\y.pt<(os.getD y.od.toNat []).length:=by
   by_cases c1:y.st∈b1e\/y.st="told"
   ·rw[if_pos c1] at pf;exact absurd pf.2 h2
   ·rw[if_neg c1,if_neg h1] at pf
    by_cases c2:y.od=os.length
    ·rw[if_pos c2] at pf;exact absurd pf.2 h2
    ·rw[if_neg c2] at pf;exact pf
  have e:gnu y=y.od/\gle y os=((os.getD y.od.toNat []).length:Int)-y.pt:=by unfold gnu gle;rw[if_neg h1,if_neg h2,if_neg h1,if_neg h2];exact⟨rfl,rfl⟩
  have hb:bg (gnu y) (gle y os)=false:=by
   unfold bg;rw[e.1,e.2,decide_eq_false (show ¬ y.od=-1 by lia),decide_eq_false (show ¬ ((os.getD y.od.toNat []).length:Int)-y.pt<=0 by lia)]
   rfl
  have ho:nO (gnu y) (gle y os)=y.od:=by unfold nO;rw[hb,if_neg (by decide),e.1]
  have hp:nP os (gnu y) (gle y os)=y.pt:=by unfold nP;rw[hb,if_neg (by decide),e.1,e.2];lia
  refine⟨.inr (by rw[e.1];exact h3),?_⟩
  unfold hP;rw[ho,hp,decide_eq_true h3,decide_eq_true h4]
  rfl
theorem _root_.L2.op_catTK{X:Cx}{K:Frag}(h:X.K=K:=by rfl):OpR X (binaryOp .Add) (c1b K):=h ▸ b9u
def a5f(cl:Cl):Sp:=λvs H Q _=>∃(g bd kt:Addr)(n:Nat)(y:GSd)(os:List (List Int)),vs=[.ref g]/\GQ cl H g bd kt y os/\a8s y.st y.od y.pt os/\b4v n os/\∀p H',H p=none->Same H H'->GT H' p y->Q (.ref p) H'
abbrev a2z:Stmt:=k6 (top 94) 10
theorem a9z:d8 ["self"] ["self"] (d5 a2z):=↑1
theorem b0v(D:DefM K cl.Giver "mind" "Giver.mind" a2z ["self"])(T:Txt K mg cl)(GA:MethT P w K mg base cl.Giver "order_and_part" 4 ["self"] (a1c cl)):MethT P w K mg base cl.Giver "mind" 5 ["self"] (a5f cl):=by
 refine D.fn a9z (λvs H Q E h=>?_) ↑2
 ·obtain⟨g,bd,kt,n,y,os,rfl,_⟩:=h
  rfl
 ·obtain⟨g,bd,kt,n,y,os,rfl,⟨dx,D,mr,ex,r,em⟩,pf,hg,k⟩:=h
  refine⟨_,(d4 (f8 (i5 (op_catTK (K:=K)) (v2 (c0 (g0 (K:=K) (pv 0)) (c0 (g0 (K:=K) (pv 0)) (c0 (g9 (n9 (K:=K)) (by rfl) T.z_tuple PyProof.Rows.boot_tuple (c0 (g0 (K:=K) (pv 0)) d0)) d0)))) (m3 (k:=4) (pv 0) hr (by decide) f6)))),?_⟩
  obtain⟨gk,eo⟩:=b7v pf hg;fail "";intro m hm;generalize u1:upd H m _=H1;obtain⟨s1,e1⟩:=nwS u1 hm;have ex1:=s1 _ _ ex;fail "";refine⟨by show 3<=sizeLine;decide,λt ht=>?_⟩
  generalize u2:upd H1 t _=H2;obtain⟨s2,e2⟩:=nwS u2 ht;have s12:=s1.trans s2;have ex2:=s12 _ _ ex;fail "";refine v5 ?_;fail "";refine⟨g,cl.Giver,dx,_,_,_,rfl,ex2,rfl,T.k_Giver,GA,?_⟩;fail "";refine⟨g,dx,D,bd,kt,mr,y.st,y.he,gnu y,gle y os,os,rfl,ex2,r.same s12,gk,λp hp=>?_⟩;rw[eo];generalize u3:upd H2 p _=H3;obtain⟨s3,e3⟩:=nwS u3 hp;refine⟨t,p,_,_,rfl,rfl,SqT.of (s3 _ _ e2),SqT.of e3,(λz=>nomatch z),(show 3+2<=sizeLine by decide),(λz=>nomatch z),λ_ q hq=>?_⟩
  have s13:=s12.trans s3;refine k q _ (i7 s13 hq) (s13.trans (d7 hq)) ⟨m,d2,?_⟩;exact d7 hq _ _ (s3 _ _ (s2 _ _ e1))
def a4z(cl:Cl):Sp:=λvs H Q _=>∃(t bd kt:Addr)(n:Nat)(y:TSd)(bk:List (List Int)),vs=[.ref t]/\TQ cl H t bd kt y bk/\b9k y.st y.nu y.le/\∀p H',H p=none->Same H H'->TT H' p y->Q (.ref p) H'
abbrev a2t:Stmt:=k6 (top 104) 4
theorem z8:d8 ["self","number","left","seen"] ["self"] (d5 a2t):=↑1
theorem b0o(D:DefM K cl.Taker "mind" "Taker.mind" a2t ["self"])(T:Txt K mg cl):MethT P w K mg base cl.Taker "mind" 1 ["self"] (a4z cl):=by
 refine D.fn z8 (λvs H Q E h=>?_) ↑2
 ·obtain⟨t,bd,kt,n,y,bk,rfl,_⟩:=h
  rfl
 ·obtain⟨t,bd,kt,n,y,bk,rfl,⟨dx,D,mr,pa,ex,r,em,ep⟩,⟨r1,r2⟩,k⟩:=h
  refine⟨_,(c3 (i9 (i:=1) z8.nd rfl (by first|exact Or.inl rfl|exact Or.inr rfl) (a3k (g6 (a7x (K:=K)) (g0 (K:=K) (pv 0)) (v2 (c0 i3 (c0 i3 d0))) (by with_unfolding_all rfl)) (g0 (K:=K) (pv 0)) d6))
   (c3 (i9 (i:=2) z8.nd rfl (by first|exact Or.inl rfl|exact Or.inr rfl) (a3k (g6 z9 (g0 (K:=K) (pv 0)) i3 (g7 _)) (g0 (K:=K) (pv 0)) d6))
   (c3 (i9 (i:=3) z8.nd rfl (by first|exact Or.inl rfl|exact Or.inr rfl) (v2 (c0 (g0 (K:=K) (pv 0)) (c0 (pv 1) (c0 (pv 2) (c0 (g9 (n9 (K:=K)) (by rfl) T.z_tuple PyProof.Rows.boot_tuple (c0 (g0 (K:=K) (pv 0)) d0)) d0))))))
   (d4 (f8 (i5 (op_catTK (K:=K)) (v2 (c0 (g0 (K:=K) (pv 0)) (c0 (g0 (K:=K) (pv 0)) (c0 (g9 (n9 (K:=K)) (by rfl) T.z_tuple PyProof.Rows.boot_tuple (c0 (g0 (K:=K) (pv 0)) d0)) d0)))) (pv 3))))))),?_⟩
  refine a1k (λσ' H'=>σ'=[some (.ref t),some (.int y.nu),none,none]/\Same H H') ?_ ?_
  rotate_left
  ·intro R hR
   fail "";refine⟨by show 2<=sizeLine;decide,λt1 ht1=>?_⟩
   generalize u1:upd H t1 _=H1;obtain⟨s1,e1⟩:=nwS u1 ht1;have ex1:=s1 _ _ ex;refine b5j (xs:=["left","thing"]) (SqT.of e1) ?_;by_cases c:y.st∈(["left","thing"]:List Str)
   ·rw[decide_eq_true c]
    fail "";exact hR _ _ ⟨rfl,s1⟩
   ·rw[decide_eq_false c]
    fail "";have:y.nu=0:=r1.elim id λz=>absurd (by simpa using z) c
    exact hR _ _ ⟨by rw[this];rfl,s1⟩
  rintro σ H1 ⟨rfl,s1⟩;have ex1:=s1 _ _ ex;refine a1k (λσ' H'=>σ'=[some (.ref t),some (.int y.nu),some (.int y.le),none]/\Same H H') ?_ ?_
  rotate_left
  ·intro R hR
   fail "";rw[a0n];by_cases c:y.st="thing"
   ·rw[decide_eq_true c]
    fail "";exact hR _ _ ⟨rfl,s1⟩
   ·rw[decide_eq_false c]
    fail "";have:y.le=0:=r2.elim id λz=>absurd z.2 c;exact hR _ _ ⟨by rw[this];rfl,s1⟩
  rintro σ H2 ⟨rfl,s2⟩;have ex2:=s2 _ _ ex;have ep2:=s2 _ _ ep;fail "";intro p1 hp1;generalize u3:upd H2 p1 _=H3;obtain⟨s3,e3⟩:=nwS u3 hp1;have ex3:=s3 _ _ ex2;fail "";refine⟨by show 4<=sizeLine;decide,λt2 ht2=>?_⟩
  generalize u4:upd H3 t2 _=H4;obtain⟨s4,e4⟩:=nwS u4 ht2;have s04:=(s2.trans s3).trans s4;have ex4:=s04 _ _ ex;have em4:=s04 _ _ em;fail "";intro m1 hm1;generalize u5:upd H4 m1 _=H5;obtain⟨s5,e5⟩:=nwS u5 hm1;have ex5:=s5 _ _ ex4;fail "";refine⟨by show 3<=sizeLine;decide,λt3 ht3=>?_⟩
  generalize u6:upd H5 t3 _=H6;obtain⟨s6,e6⟩:=nwS u6 ht3;fail "";have s06:=(s04.trans s5).trans s6;refine⟨t3,t2,_,_,rfl,rfl,SqT.of e6,SqT.of (s6 _ _ (s5 _ _ e4)),(λz=>nomatch z),(show 3+4<=sizeLine by decide),(λz=>nomatch z),λ_ q hq=>?_⟩
  refine k q _ (i7 s06 hq) (s06.trans (d7 hq)) ⟨m1,p1,d2,d7 hq _ _ (s6 _ _ e5),d7 hq _ _ (s6 _ _ (s5 _ _ (s4 _ _ e3)))⟩
def a2m(cl:Cl):Sp:=λvs H Q _=>∃(g bd kt:Addr)(y:GSd)(os:List (List Int)),vs=[.ref g]/\GQ cl H g bd kt y os/\os.length<=1000/\∀p H',NewRows H H' p os->Q (.ref p) H'
abbrev a0z:Stmt:=k6 (top 94) 2
theorem a7s:d8 ["self"] ["self"] (d5 a0z):=↑1
theorem a8b(D:DefM K cl.Giver "orders" "Giver.orders" a0z ["self"])(T:Txt K mg cl)(G_orders_told:FnT P w K mg base "orders_told" 1 ["orders"] a0u):MethT P w K mg base cl.Giver "orders" 2 ["self"] (a2m cl):=by
 refine D.fn a7s (λvs H Q E h=>?_) ↑2
 ·obtain⟨g,bd,kt,y,os,rfl,_⟩:=h
  rfl
 ·obtain⟨g,bd,kt,y,os,rfl,⟨dx,D,mr,ex,r,em⟩,lo,k⟩:=h
  refine⟨_,(d4 (f8 (i4 G_orders_told hr (by decide) rfl f6 (c0 (g0 (K:=K) (pv 0)) d0)))),?_⟩
  fail "";exact⟨D,os,rfl,r,lo,k⟩
def a5b(cl:Cl):Sp:=λvs H Q _=>∃(t bd kt:Addr)(y:TSd)(bk:List (List Int)),vs=[.ref t]/\TQ cl H t bd kt y bk/\bk.length<=1000/\∀p H',NewRows H H' p bk->Q (.ref p) H'
abbrev a2v:Stmt:=k6 (top 104) 1
theorem a9v:d8 ["self"] ["self"] (d5 a2v):=↑1
theorem b0q(D:DefM K cl.Taker "book" "Taker.book" a2v ["self"])(T:Txt K mg cl)(G_orders_told:FnT P w K mg base "orders_told" 1 ["orders"] a0u):MethT P w K mg base cl.Taker "book" 2 ["self"] (a5b cl):=by
 refine D.fn a9v (λvs H Q E h=>?_) ↑2
 ·obtain⟨t,bd,kt,y,bk,rfl,_⟩:=h
  rfl
 ·obtain⟨t,bd,kt,y,bk,rfl,⟨dx,D,mr,pa,ex,r,em,ep⟩,lo,k⟩:=h
  refine⟨_,(d4 (f8 (i4 G_orders_told hr (by decide) rfl f6 (c0 (g0 (K:=K) (pv 0)) d0)))),?_⟩
  fail "";exact⟨D,bk,rfl,r,lo,k⟩
def a3u(cl:Cl):Sp:=λvs H Q _=>∃(t bd kt:Addr)(y:TSd)(bk:List (List Int)),vs=[.ref t]/\TQ cl H t bd kt y bk/\Q y.nf.v H
abbrev a1p:Stmt:=k6 (top 104) 2
theorem a8o:d8 ["self"] ["self"] (d5 a1p):=↑1
theorem a8x(D:DefM K cl.Taker "first" "Taker.first" a1p ["self"])(T:Txt K mg cl):MethT P w K mg base cl.Taker "first" 1 ["self"] (a3u cl):=by
 refine D.fn a8o (λvs H Q E h=>?_) ↑2
 ·obtain⟨t,bd,kt,y,bk,rfl,_⟩:=h
  rfl
 ·obtain⟨t,bd,kt,y,bk,rfl,⟨dx,D,mr,pa,ex,r,em,ep⟩,k⟩:=h
  refine⟨_,(d4 (f8 (g0 (K:=K) (pv 0)))),?_⟩;fail "";exact k
def a3v(cl:Cl):Sp:=λvs H Q _=>∃(g bd kt:Addr)(y:GSd)(os:List (List Int)),vs=[.ref g]/\GQ cl H g bd kt y os/\Q (.str y.st) H
abbrev y4:Stmt:=k6 (top 78) 1
theorem a5k:d8 ["self"] ["self"] (d5 y4):=↑1
theorem a8z(D:DefM K cl.Giver "stage" "Hand.stage" y4 ["self"])(T:Txt K mg cl):MethT P w K mg base cl.Giver "stage" 1 ["self"] (a3v cl):=by
 refine D.fn a5k (λvs H Q E h=>?_) ↑2
 ·obtain⟨g,bd,kt,y,os,rfl,_⟩:=h
  rfl
 ·obtain⟨g,bd,kt,y,os,rfl,⟨dx,D,mr,ex,r,em⟩,k⟩:=h
  refine⟨_,(d4 (f8 (g0 (K:=K) (pv 0)))),?_⟩;fail "";exact k
def a3t(cl:Cl):Sp:=λvs H Q _=>∃(t bd kt:Addr)(y:TSd)(bk:List (List Int)),vs=[.ref t]/\TQ cl H t bd kt y bk/\Q (.str y.st) H
theorem a8w(D:DefM K cl.Taker "stage" "Hand.stage" y4 ["self"])(T:Txt K mg cl):MethT P w K mg base cl.Taker "stage" 1 ["self"] (a3t cl):=by
 refine D.fn a5k (λvs H Q E h=>?_) ↑2
 ·obtain⟨t,bd,kt,y,bk,rfl,_⟩:=h
  rfl
 ·obtain⟨t,bd,kt,y,bk,rfl,⟨dx,D,mr,pa,ex,r,em,ep⟩,k⟩:=h
  refine⟨_,(d4 (f8 (g0 (K:=K) (pv 0)))),?_⟩;fail "";exact k
def a5e(cl:Cl):Sp:=λvs H Q _=>∃(g bd kt:Addr)(y:GSd)(os:List (List Int)),vs=[.ref g]/\GQ cl H g bd kt y os/\Q y.he.v H
abbrev a0j:Stmt:=k6 (top 78) 2
theorem a6x:d8 ["self"] ["self"] (d5 a0j):=↑1
theorem b0u(D:DefM K cl.Giver "turn" "Hand.turn" a0j ["self"])(T:Txt K mg cl):MethT P w K mg base cl.Giver "turn" 1 ["self"] (a5e cl):=by
 refine D.fn a6x (λvs H Q E h=>?_) ↑2
 ·obtain⟨g,bd,kt,y,os,rfl,_⟩:=h
  rfl
 ·obtain⟨g,bd,kt,y,os,rfl,⟨dx,D,mr,ex,r,em⟩,k⟩:=h
  refine⟨_,(d4 (f8 (g0 (K:=K) (pv 0)))),?_⟩;fail "";exact k
def a4y(cl:Cl):Sp:=λvs H Q _=>∃(t bd kt:Addr)(y:TSd)(bk:List (List Int)),vs=[.ref t]/\TQ cl H t bd kt y bk/\Q y.he.v H
theorem b0n(D:DefM K cl.Taker "turn" "Hand.turn" a0j ["self"])(T:Txt K mg cl):MethT P w K mg base cl.Taker "turn" 1 ["self"] (a4y cl):=by
 refine D.fn a6x (λvs H Q E h=>?_) ↑2
 ·obtain⟨t,bd,kt,y,bk,rfl,_⟩:=h
  rfl
 ·obtain⟨t,bd,kt,y,bk,rfl,⟨dx,D,mr,pa,ex,r,em,ep⟩,k⟩:=h
  refine⟨_,(d4 (f8 (g0 (K:=K) (pv 0)))),?_⟩;fail "";exact k
def a1j(cl:Cl):Sp:=λvs H Q _=>∃(la:Addr)(x:Sd),vs=[.ref la]/\LQ cl H la x/\∀p,H p=none->Q (.ref p) (upd H p (.lst (x.c.map V.int)))
abbrev a2y:Stmt:=k6 (top 106) 14
theorem a9y:d8 ["self"] ["self"] (d5 a2y):=↑1
theorem b0t(D:DefM K cl.Lane "cells" "Lane.cells" a2y ["self"])(T:Txt K mg cl)(G_Board_all_cells:MethT P w K mg base cl.Board "all_cells" 1 ["self"] (a0s cl)):MethT P w K mg base cl.Lane "cells" 2 ["self"] (a1j cl):=by
 refine D.fn a9y (λvs H Q E h=>?_) ↑2
 ·obtain⟨la,x,rfl,_⟩:=h
  rfl
 ·obtain⟨la,x,rfl,⟨dx,bd,l,kt,g,t,ela,hB,ekt,gq,tq⟩,k⟩:=h
  refine⟨_,(d4 (f8 (a9h (g0 (K:=K) (pv 0)) T.k_Board G_Board_all_cells hr (by decide) f6))),?_⟩
  obtain⟨⟨dxb,eb⟩,_⟩:=id hB;fail "";exact⟨bd,l,x.n,x.c,0,.non,rfl,hB,k⟩
def a0v(cl:Cl):Sp:=λvs H Q _=>∃(la:Addr)(x:Sd),vs=[.ref la]/\LQ cl H la x/\x.os.length<=1000/\∀p H',NewRows H H' p x.os->Q (.ref p) H'
abbrev a1q:Stmt:=k6 (top 106) 11
theorem a8p:d8 ["self"] ["self"] (d5 a1q):=↑1
theorem a8y(D:DefM K cl.Lane "orders" "Lane.orders" a1q ["self"])(T:Txt K mg cl)(GO:MethT P w K mg base cl.Giver "orders" 2 ["self"] (a2m cl)):MethT P w K mg base cl.Lane "orders" 3 ["self"] (a0v cl):=by
 refine D.fn a8p (λvs H Q E h=>?_) ↑2
 ·obtain⟨la,x,rfl,_⟩:=h
  rfl
 ·obtain⟨la,x,rfl,⟨dx,bd,l,kt,g,t,ela,hB,ekt,gq,tq⟩,lo,k⟩:=h
  refine⟨_,(d4 (f8 (m3 (k:=2) (g0 (K:=K) (pv 0)) hr (by decide) f6))),?_⟩
  obtain⟨dxg,D,mr,eg,_⟩:=id gq;fail "";refine v5 ?_;fail "";refine⟨g,cl.Giver,dxg,_,_,_,rfl,eg,rfl,T.k_Giver,GO,?_⟩;fail "";exact⟨g,bd,kt,x.g,x.os,rfl,gq,lo,k⟩
def a2k(cl:Cl):Sp:=λvs H Q _=>∃(la:Addr)(x:Sd),vs=[.ref la]/\LQ cl H la x/\x.bk.length<=1000/\∀p H',NewRows H H' p x.bk->Q (.ref p) H'
abbrev a4p:Stmt:=k6 (top 106) 10
theorem b1v:d8 ["self"] ["self"] (d5 a4p):=↑1
theorem b2q(D:DefM K cl.Lane "book" "Lane.book" a4p ["self"])(T:Txt K mg cl)(GO:MethT P w K mg base cl.Taker "book" 2 ["self"] (a5b cl)):MethT P w K mg base cl.Lane "book" 3 ["self"] (a2k cl):=by
 refine D.fn b1v (λvs H Q E h=>?_) ↑2
 ·obtain⟨la,x,rfl,_⟩:=h
  rfl
 ·obtain⟨la,x,rfl,⟨dx,bd,l,kt,g,t,ela,hB,ekt,gq,tq⟩,lo,k⟩:=h
  refine⟨_,(d4 (f8 (m3 (k:=2) (g0 (K:=K) (pv 0)) hr (by decide) f6))),?_⟩
  obtain⟨dxt,D,mr,pa,et,_⟩:=id tq;fail "";refine v5 ?_;fail "";refine⟨t,cl.Taker,dxt,_,_,_,rfl,et,rfl,T.k_Taker,GO,?_⟩;fail "";exact⟨t,bd,kt,x.t,x.bk,rfl,tq,lo,k⟩
def a5c(cl:Cl):Sp:=λvs H Q _=>∃(la:Addr)(x:Sd),vs=[.ref la]/\LQ cl H la x/\∀p,H p=none->Q (.ref p) (upd H p (.lst []))
abbrev a2w:Stmt:=k6 (top 106) 13
theorem a9w:d8 ["self"] ["self"] (d5 a2w):=↑1
theorem b0r(D:DefM K cl.Lane "trail" "Lane.trail" a2w ["self"])(T:Txt K mg cl):MethT P w K mg base cl.Lane "trail" 1 ["self"] (a5c cl):=by
 refine D.fn a9w (λvs H Q E h=>?_) ↑2
 ·obtain⟨la,x,rfl,_⟩:=h
  rfl
 ·obtain⟨la,x,rfl,⟨dx,bd,l,kt,g,t,ela,hB,ekt,gq,tq⟩,k⟩:=h
  refine⟨_,(d4 (f8 (g9 (m4 (K:=K)) (by rfl) T.z_list PyProof.Rows.boot_list (c0 (g0 (K:=K) (pv 0)) d0)))),?_⟩
  fail "";exact k
def r0(cl:Cl):Sp:=λvs H Q _=>∃(la dx bd kt g t:Addr)(h:Str),vs=[.ref la,.str h]/\H la=some (.ins cl.Lane dx [("board",.ref bd),("kept_trail",.ref kt),("giver",.ref g),("taker",.ref t)])/\((h="giver"/\Q (.ref g) H)\/(h="taker"/\Q (.ref t) H))
abbrev v9:Stmt:=k6 (top 106) 3
theorem a5j:d8 ["self","hand"] ["self","hand"] (d5 v9):=↑1
theorem a5t(D:DefM K cl.Lane "hand_named" "Lane.hand_named" v9 ["self","hand"])(T:Txt K mg cl)(G_check_hand:FnT P w K mg base "check_hand" 1 ["hand"] (a1i cl)):MethT P w K mg base cl.Lane "hand_named" 2 ["self","hand"] (r0 cl):=by
 refine D.fn a5j (λvs H Q E h=>?_) ↑2
 ·obtain⟨la,dx,bd,kt,g,t,h,rfl,_⟩:=h
  rfl
 ·obtain⟨la,dx,bd,kt,g,t,h,rfl,ela,k⟩:=h
  refine⟨_,(c3 (j8 (i4 G_check_hand hr (by decide) rfl f6 (c0 (pv 1) d0)))
   (d4 (f8 (a3k (g6 z9 (pv 1) i3 (g7 _)) (g0 (K:=K) (pv 0)) (g0 (K:=K) (pv 0)))))),?_⟩
  fail "";rcases k with ⟨rfl,k⟩|⟨rfl,k⟩
  ·refine⟨_,rfl,?_⟩
   rw[if_pos (.inl rfl)];fail "";rw[a0n,decide_eq_true rfl];fail "";exact k
  ·refine⟨_,rfl,?_⟩
   rw[if_pos (.inr rfl)];fail "";rw[a0n,decide_eq_false (by decide)]
   fail "";exact k
def a5d(cl:Cl):Sp:=λvs H Q _=>∃(la:Addr)(x:Sd)(h:Str),vs=[.ref la,.str h]/\LQ cl H la x/\((h="giver"/\Q (.str x.g.st) H)\/(h="taker"/\Q (.str x.t.st) H))
abbrev a2x:Stmt:=k6 (top 106) 7
theorem a9x:d8 ["self","hand"] ["self","hand"] (d5 a2x):=↑1
theorem b0s(D:DefM K cl.Lane "stage" "Lane.stage" a2x ["self","hand"])(T:Txt K mg cl)(G_Lane_hand_named:MethT P w K mg base cl.Lane "hand_named" 2 ["self","hand"] (r0 cl))(GG:MethT P w K mg base cl.Giver "stage" 1 ["self"] (a3v cl))(GK:MethT P w K mg base cl.Taker "stage" 1 ["self"] (a3t cl)):MethT P w K mg base cl.Lane "stage" 3 ["self","hand"] (a5d cl):=by
 refine D.fn a9x (λvs H Q E h=>?_) ↑2
 ·obtain⟨la,x,h,rfl,_⟩:=h
  rfl
 ·obtain⟨la,x,h,rfl,⟨dx,bd,l,kt,g,t,ela,hB,ekt,gq,tq⟩,k⟩:=h
  refine⟨_,(d4 (f8 (m3 (k:=1) (b3m (pv 0) T.k_Lane G_Lane_hand_named hr (by decide) f6 (c0 (pv 1) d0)) hr (by decide) f6))),?_⟩
  fail "";refine v5 ?_;fail "";rcases k with ⟨rfl,k⟩|⟨rfl,k⟩
  ·obtain⟨dxg,D,mr,eg,_⟩:=id gq
   refine⟨la,dx,bd,kt,g,t,_,rfl,ela,.inl ⟨rfl,?_⟩⟩;refine⟨g,cl.Giver,dxg,_,_,_,rfl,eg,rfl,T.k_Giver,GG,?_⟩;exact⟨g,bd,kt,x.g,x.os,rfl,gq,k⟩
  ·obtain⟨dxt,D,mr,pa,et,_⟩:=id tq
   refine⟨la,dx,bd,kt,g,t,_,rfl,ela,.inr ⟨rfl,?_⟩⟩;refine⟨t,cl.Taker,dxt,_,_,_,rfl,et,rfl,T.k_Taker,GK,?_⟩;exact⟨t,bd,kt,x.t,x.bk,rfl,tq,k⟩
def a6u(cl:Cl):Sp:=λvs H Q _=>∃(la:Addr)(x:Sd)(h:Str),vs=[.ref la,.str h]/\LQ cl H la x/\((h="giver"/\Q x.g.he.v H)\/(h="taker"/\Q x.t.he.v H))
abbrev a4n:Stmt:=k6 (top 106) 8
theorem b1t:d8 ["self","hand"] ["self","hand"] (d5 a4n):=↑1
theorem b2o(D:DefM K cl.Lane "turn" "Lane.turn" a4n ["self","hand"])(T:Txt K mg cl)(G_Lane_hand_named:MethT P w K mg base cl.Lane "hand_named" 2 ["self","hand"] (r0 cl))(GG:MethT P w K mg base cl.Giver "turn" 1 ["self"] (a5e cl))(GK:MethT P w K mg base cl.Taker "turn" 1 ["self"] (a4y cl)):MethT P w K mg base cl.Lane "turn" 3 ["self","hand"] (a6u cl):=by
 refine D.fn b1t (λvs H Q E h=>?_) ↑2
 ·obtain⟨la,x,h,rfl,_⟩:=h
  rfl
 ·obtain⟨la,x,h,rfl,⟨dx,bd,l,kt,g,t,ela,hB,ekt,gq,tq⟩,k⟩:=h
  refine⟨_,(d4 (f8 (m3 (k:=1) (b3m (pv 0) T.k_Lane G_Lane_hand_named hr (by decide) f6 (c0 (pv 1) d0)) hr (by decide) f6))),?_⟩
  fail "";refine v5 ?_;fail "";rcases k with ⟨rfl,k⟩|⟨rfl,k⟩
  ·obtain⟨dxg,D,mr,eg,_⟩:=id gq
   refine⟨la,dx,bd,kt,g,t,_,rfl,ela,.inl ⟨rfl,?_⟩⟩;refine⟨g,cl.Giver,dxg,_,_,_,rfl,eg,rfl,T.k_Giver,GG,?_⟩;exact⟨g,bd,kt,x.g,x.os,rfl,gq,k⟩
  ·obtain⟨dxt,D,mr,pa,et,_⟩:=id tq
   refine⟨la,dx,bd,kt,g,t,_,rfl,ela,.inr ⟨rfl,?_⟩⟩;refine⟨t,cl.Taker,dxt,_,_,_,rfl,et,rfl,T.k_Taker,GK,?_⟩;exact⟨t,bd,kt,x.t,x.bk,rfl,tq,k⟩
theorem NewRows.rws{H H':Hp}{p:Addr}{os:List (List Int)}(h:NewRows H H' p os):Rws H' p os:=by
 obtain⟨_,_,ps,e,l,r⟩:=h;exact⟨ps,e,l,λi q o hq ho=>(r i q o hq ho).2.2⟩
def a7j(cl:Cl):Sp:=λvs H Q _=>∃(la:Addr)(x:Sd),vs=[.ref la]/\LQ cl H la x/\b8o x/\∀p H',H p=none->Same H H'->ST H' p x->Q (.ref p) H'
abbrev a6a:Stmt:=top 117
theorem a7p:d8 ["lane","cells"] ["lane"] (d5 a6a):=↑1
theorem b3o(D:DefT K mg "stand_of" a6a ["lane"])(T:Txt K mg cl)(G_Lane_cells:MethT P w K mg base cl.Lane "cells" 2 ["self"] (a1j cl))(GG:MethT P w K mg base cl.Giver "mind" 5 ["self"] (a5f cl))(GK:MethT P w K mg base cl.Taker "mind" 5 ["self"] (a4z cl))(G_frozen:FnT P w K mg base "frozen" 1 ["orders"] b1j)(GO:MethT P w K mg base cl.Lane "orders" 3 ["self"] (a0v cl))(GB:MethT P w K mg base cl.Lane "book" 3 ["self"] (a2k cl)):FnT P w K mg base "stand_of" 6 ["lane"] (a7j cl):=by
 refine D.fn a7p (λvs H Q E h=>?_) ↑2
 ·obtain⟨la,x,rfl,_⟩:=h
  rfl
 ·obtain⟨la,x,rfl,lq,gs,k⟩:=h
  refine⟨_,(c3 (i9 (i:=1) a7p.nd rfl (by first|exact Or.inl rfl|exact Or.inr rfl) (g9 (n9 (K:=K)) (by rfl) T.z_tuple PyProof.Rows.boot_tuple (c0 (a9h (pv 0) T.k_Lane G_Lane_cells hr (by decide) f6) d0)))
   (d4 (f8 (v2 (c0 (pv 1) (c0 (m3 (k:=5) (g0 (K:=K) (pv 0)) hr (by decide) f6) (c0 (m3 (k:=5) (g0 (K:=K) (pv 0)) hr (by decide) f6) (c0 (i4 G_frozen hr (by decide) rfl f6 (c0 (m3 (k:=3) (pv 0) hr (by decide) f6) d0)) (c0 (i4 G_frozen hr (by decide) rfl f6 (c0 (m3 (k:=3) (pv 0) hr (by decide) f6) d0)) d0))))))))),?_⟩
  obtain⟨dx,bd,l,kt,g,t,ela,hB,ekt,gq,tq⟩:=id lq;obtain⟨dxg,Dg,mrg,eg,_⟩:=id gq;obtain⟨dxt,Dt,mrt,pat,et,_⟩:=id tq;fail "";refine⟨la,x,rfl,lq,λp1 hp1=>?_⟩;generalize u1:upd H p1 _=H1;obtain⟨s1,e1⟩:=nwS u1 hp1;fail "";intro c hc;generalize u2:upd H1 c _=H2;obtain⟨s2,e2⟩:=nwS u2 hc;have s02:=s1.trans s2;have ela2:=s02 _ _ ela;have eg2:=s02 _ _ eg;fail "";refine v5 ?_;fail "";refine⟨g,cl.Giver,dxg,_,_,_,rfl,eg2,rfl,T.k_Giver,GG,?_⟩;refine⟨g,bd,kt,x.n,x.g,x.os,rfl,gq.same s02,gs.g.pf,gs.os,λp3 H3 hp3 s3 t3=>?_⟩;have s03:=s02.trans s3;have ela3:=s03 _ _ ela;have et3:=s03 _ _ et;fail "";refine v5 ?_;fail "";refine⟨t,cl.Taker,dxt,_,_,_,rfl,et3,rfl,T.k_Taker,GK,?_⟩;refine⟨t,bd,kt,x.n,x.t,x.bk,rfl,tq.same s03,gs.t.rf,λp4 H4 hp4 s4 t4=>?_⟩;have s04:=s03.trans s4;have ela4:=s04 _ _ ela;fail "";refine v5 ?_;fail "";refine⟨la,cl.Lane,dx,_,_,_,rfl,ela4,rfl,T.k_Lane,GO,?_⟩;refine⟨la,x,rfl,lq.same s04,gs.lo,λp5 H5 r5=>?_⟩;have s05:=s04.trans r5.2.1;fail "";refine⟨p5,x.os,rfl,r5.rws,gs.lo,λp6 H6 hp6 s6 t6=>?_⟩;have s06:=s05.trans s6;have ela6:=s06 _ _ ela;fail "";refine v5 ?_;fail "";refine⟨la,cl.Lane,dx,_,_,_,rfl,ela6,rfl,T.k_Lane,GB,?_⟩;refine⟨la,x,rfl,lq.same s06,gs.lb,λp7 H7 r7=>?_⟩;have s67:=r7.2.1;fail "";refine⟨p7,x.bk,rfl,r7.rws,gs.lb,λp8 H8 hp8 s8 t8=>?_⟩;fail "";refine⟨by show 5<=sizeLine;decide,λq hq=>?_⟩
  have s78:=s67.trans s8;have s08:=s06.trans s78;have sq:=d7 (o:=.tup [.ref c,.ref p3,.ref p4,.ref p6,.ref p8]) hq;have s68:=s78.trans sq;have s48:=(r5.2.1.trans s6).trans s68;refine k q _ (i7 s08 hq) (s08.trans sq) ⟨c,p3,p4,p6,p8,d2,?_,t3.same (s4.trans s48),t4.same s48,t6.same s68,t8.same sq⟩;exact s48 _ _ (s4 _ _ (s3 _ _ e2))
def a5z:Sp:=λvs H Q _=>∃wl,vs=[.ref wl]/\Well H wl/\∀r H',0<=r->r<10 ^ 59->Well H' wl->But wl H H'->Q (.int r) H'
abbrev a7t:Stmt:=top 133
theorem b4x:d8 ["well"] ["well"] (d5 a7t):=↑1
theorem b5c(D:DefT K mg "_law_far" a7t ["well"])(T:Txt K mg cl)(G_law_take:FnT P w K mg base "_law_take" 1 ["well","many"] v6):FnT P w K mg base "_law_far" 2 ["well"] a5z:=by
 refine D.fn b4x (λvs H Q E h=>?_) (λf cdv A outer s H vs Q E hr h=>?_)
 ·obtain⟨wl,rfl,_⟩:=h
  rfl
 ·obtain⟨wl,rfl,hw,k⟩:=h
  refine⟨_,(d4 (f8 (q5 (j5 (K:=K)) (l8 (c0 (i4 G_law_take hr (by decide) rfl f6 (c0 (pv 0) (c0 d6 d0))) (c0 (i4 G_law_take hr (by decide) rfl f6 (c0 (pv 0) (c0 (i5 b4h d6 d6) d0))) d0))) (i5 a5s (i4 G_law_take hr (by decide) rfl f6 (c0 (pv 0) (c0 d6 d0))) d6) (λ_ _=>rfl)))),?_⟩
  fail "";refine⟨wl,9,rfl,hw,by decide,by decide,λr1 H1 a1 b1 w1 c1=>?_⟩
  fail "";refine⟨wl,10 ^ 59,rfl,w1,by decide,by decide,λr2 H2 a2 b2 w2 c2=>?_⟩
  fail "";refine⟨by show 2<=sizeLine;decide,λl hl=>?_⟩
  generalize u3:upd H2 l _=H3;obtain⟨s3,e3⟩:=nwS u3 hl;fail "";refine⟨wl,5,rfl,w2.same s3,by decide,by decide,λr4 H4 a4 b4 w4 c4=>?_⟩
  have e4:=c4 _ _ e3 (w2.ne hl);have bt:But wl H H4:=((c1.trans c2).trans (But.of s3)).trans c4;fail "";by_cases z:r4<4
  ·refine a4u (v:=.int r1) e4 ?_ ?_
   ·rw[show r4 / 4=0 by lia];rfl
   ·exact k r1 H4 a1 (by lia) w4 bt
  ·refine a4u (v:=.int r2) e4 ?_ ?_
   ·rw[show r4 / 4=1 by lia];rfl
   ·exact k r2 H4 a2 b2 w4 bt
def RW(H:Hp)(wl oa:Addr)(os:List (List Int)):Prop:=∃ps:List Addr,H oa=some (.lst (ps.map V.ref))/\oa≠wl/\ps.length=os.length/\∀(i:Nat)(p:Addr)(o:List Int),ps[i]?=some p->os[i]?=some o->p≠wl/\H p=some (.lst (o.map V.int))
theorem RW.but{H H':Hp}{wl oa:Addr}{os:List (List Int)}(h:RW H wl oa os)(b:But wl H H'):RW H' wl oa os:=by
 obtain⟨ps,e,n,l,r⟩:=h;exact⟨ps,b _ _ e n,n,l,λi p o hp ho=>⟨(r i p o hp ho).1,b _ _ (r i p o hp ho).2 (r i p o hp ho).1⟩⟩
theorem RW.rws{H:Hp}{wl oa:Addr}{os:List (List Int)}(h:RW H wl oa os):Rws H oa os:=by
 obtain⟨ps,e,n,l,r⟩:=h;exact⟨ps,e,l,λi p o hp ho=>(r i p o hp ho).2⟩
def MK(wl:Addr)(H0:Hp)(D:Addr)(i:Nat)(acc:List V)(H':Hp):Prop:=∃ms:List Int,acc=ms.map V.int/\ms.length=i/\(∀m∈ms,0<=m/\m<=3)/\H' D=some (.lst acc)/\Well H' wl/\But wl H0 H'/\D≠wl
theorem a8l{H H1:Hp}{wl D:Addr}{o:HO}(b:But wl H H1)(hD:H D=none):But wl H (upd H1 D o):=λx u e n=>by
 rw[d3 (d9 e hD)];exact b x u e n
theorem gst(a:Fin 18):(gvU.get a∈b1e ↔ a.val<4)/\(gvU.get a="marks" ↔ a.val=3)/\(gvU.get a="told" ↔ a.val=4)/\(gvU.get a="lacks" ↔ a.val=5)/\(6<=a.val->a.val<12->gvU.get a∈b9d):=by
 revert a
 decide +kernel
def a6s(cl:Cl):Sp:=λvs H Q _=>∃(wl oa:Addr)(n:Nat)(os:List (List Int)),vs=[.ref wl,.int n,.ref oa]/\Well H wl/\2<=n/\n<=8/\RW H wl oa os/\b4v n os/\os.length<=5/\∀p y H',H p=none->Well H' wl->But wl H H'->GT H' p y->c0n n os y->Q (.ref p) H'
abbrev a4k:Stmt:=top 134
theorem j6:d8 ["well","size","orders","stages","at","turn","seen","number","part"] ["well","size","orders"] (d5 a4k):=↑1
theorem b2l(D:DefT K mg "_law_giver" a4k ["well","size","orders"])(T:Txt K mg cl)(G_law_take:FnT P w K mg base "_law_take" 1 ["well","many"] v6):FnT P w K mg base "_law_giver" 2 ["well","size","orders"] (a6s cl):=by
 refine D.fn j6 (λvs H Q E h=>?_) (λf cdv A outer s H vs Q E hr h=>?_)
 ·obtain⟨wl,oa,n,os,rfl,_⟩:=h
  rfl
 ·obtain⟨wl,oa,n,os,rfl,hw,n2,n8,r,hg,lo,k⟩:=h
  refine⟨_,(@c3 _ _ _ _ _ (@i9 _ _ 3 _ _ _ _ j6.nd rfl (by first|exact Or.inl rfl|exact Or.inr rfl) (@l8 _ _ _ _ (@c0 _ _ _ _ _ i3 (@c0 _ _ _ _ _ i3 (@c0 _ _ _ _ _ i3 (@c0 _ _ _ _ _ i3 (@c0 _ _ _ _ _ i3 (@c0 _ _ _ _ _ i3 (@c0 _ _ _ _ _ i3 (@c0 _ _ _ _ _ i3 (@c0 _ _ _ _ _ i3 (@c0 _ _ _ _ _ i3 (@c0 _ _ _ _ _ i3 (@c0 _ _ _ _ _ i3 (@d0 _) rfl) rfl) rfl) rfl) rfl) rfl) rfl) rfl) rfl) rfl) rfl) rfl)) (by rfl) (by first|exact .inl rfl|exact .inr rfl))
   (c3 (i9 (i:=3) j6.nd rfl (by first|exact Or.inl rfl|exact Or.inr rfl) (i5 a9j (pv 3) (@l8 _ _ _ _ (@c0 _ _ _ _ _ i3 (@c0 _ _ _ _ _ i3 (@c0 _ _ _ _ _ i3 (@c0 _ _ _ _ _ i3 (@c0 _ _ _ _ _ i3 (@c0 _ _ _ _ _ i3 (@d0 _) rfl) rfl) rfl) rfl) rfl) rfl))))
   (c3 (i9 (i:=4) j6.nd rfl (by first|exact Or.inl rfl|exact Or.inr rfl) (i4 G_law_take hr (by decide) rfl f6 (c0 (pv 0) (c0 (q5 (j5 (K:=K)) (l8 (c0 d6 (c0 d6 d0))) (g9 a0o (by rfl) T.z_int PyProof.Rows.boot_int (c0 (j9 (c1o (K:=K) (n:=0) (huN hr 1)) (pv 2) (l8 d0) (g7 _)) d0)) (λ_ _=>rfl)) d0))))
   (c3 (i9 (i:=5) j6.nd rfl (by first|exact Or.inl rfl|exact Or.inr rfl) (a3k (g6 a5r (pv 4) d6 (g7 _)) a6y (i4 G_law_take hr (by decide) rfl f6 (c0 (pv 0) (c0 (i5 o6 d6 (pv 1)) d0)))))
   (c3 (i9 (i:=6) j6.nd rfl (by first|exact Or.inl rfl|exact Or.inr rfl) (g9 (n9 (K:=K)) (by rfl) T.z_tuple PyProof.Rows.boot_tuple (c0 (a0m (N:=["k","well"]) (nt:=1) (fr:=[0]) rfl (a5y (i:=0) rfl rfl (by decide +kernel) (by decide +kernel) rfl rfl rfl rfl rfl rfl rfl) (u0 rfl T.z_range (c0 (i5 o6 (i4 G_law_take hr (by decide) rfl f6 (c0 (pv 0) (c0 (pv 1) d0))) (g9 a0o (by rfl) T.z_int PyProof.Rows.boot_int (c0 (j9 z9 (pv 4) d6 (g7 _)) d0))) d0)) (v3 (by decide)) (λ_ _ _ _ _=>f7 (i:=0) (show(["k","well"]:List Str).Nodup by decide +kernel) rfl (Or.inl rfl) (Or.inr rfl)) (λ_ _ _ _ _=>(i4 G_law_take hr (by decide) rfl b1z (c0 (pv 1) (c0 d6 d0))))) d0)))
   (c3 (i9 (i:=7) j6.nd rfl (by first|exact Or.inl rfl|exact Or.inr rfl) d6)
   (c3 (i9 (i:=8) j6.nd rfl (by first|exact Or.inl rfl|exact Or.inr rfl) d6)
   (c3 (m5 (g6 z9 (pv 4) d6 (g7 _))
     (d4 (i9 (i:=7) j6.nd rfl (by first|exact Or.inl rfl|exact Or.inr rfl) (i5 a0t (i4 G_law_take hr (by decide) rfl f6 (c0 (pv 0) (c0 (i5 y6 (j3 (i6 (K:=K)) (by rfl) T.z_len PySem.boot_len (c0 (pv 2) d0)) d6) d0))) d6)))
     i8)
   (c3 (m5 (g6 b5b (pv 4) d6 (g7 _))
     (
     c3 (i9 (i:=7) j6.nd rfl (by first|exact Or.inl rfl|exact Or.inr rfl) (i4 G_law_take hr (by decide) rfl f6 (c0 (pv 0) (c0 (i5 y6 (j3 (i6 (K:=K)) (by rfl) T.z_len PySem.boot_len (c0 (pv 2) d0)) (g9 a0o (by rfl) T.z_int PyProof.Rows.boot_int (c0 (j9 a5r (pv 4) d6 (g7 _)) d0))) d0))))
     (d4 (m5 (g6 a5r (pv 7) (j3 (i6 (K:=K)) (by rfl) T.z_len PySem.boot_len (c0 (pv 2) d0)) (g7 _))
      (d4 (i9 (i:=8) j6.nd rfl (by first|exact Or.inl rfl|exact Or.inr rfl) (i4 G_law_take hr (by decide) rfl f6 (c0 (pv 0) (c0 (j3 (i6 (K:=K)) (by rfl) T.z_len PySem.boot_len (c0 (q5 (j5 (K:=K)) (pv 2) (pv 7) (λ_ _=>rfl)) d0)) d0)))))
      i8)))
     i8)
   (d4 (f8 (v2 (c0 (q5 (j5 (K:=K)) (pv 3) (pv 4) (λ_ _=>rfl)) (c0 (pv 5) (c0 (pv 6) (c0 (pv 7) (c0 (pv 8) d0))))))))))))))))),?_⟩
  have h60:6000<=sizeLine:=by decide
  fail "";refine⟨by show 12<=sizeLine;decide,λp1 hp1=>?_⟩
  generalize u1:upd H p1 _=H1;obtain⟨s1,e1⟩:=nwS u1 hp1;fail "";refine⟨by show 6<=sizeLine;decide,λp2 hp2=>?_⟩
  generalize u2:upd H1 p2 _=H2;obtain⟨s2,e2⟩:=nwS u2 hp2;fail "";refine b5k (s2 _ _ e1) e2 (by show 12+6<=sizeLine;decide) λsg hsg=>?_
  rw[show([.str "rouse",.str "clear",.str "mute",.str "marks",.str "told",.str "lacks",.str "look",.str "wish",.str "again",.str "sleep",.str "hush",.str "unwish"]:List V)++[.str "number",.str "left",.str "thing",.str "mark",.str "card",.str "ring"]=gvU.map V.str from rfl];generalize u3:upd H2 sg _=H3;obtain⟨s3,e3⟩:=nwS u3 hsg;have s03:=(s1.trans s2).trans s3;have nsg:=((hw.same s1).same s2).ne hsg;fail "";refine⟨by show 2<=sizeLine;decide,λp4 hp4=>?_⟩
  generalize u4:upd H3 p4 _=H4;obtain⟨s4,e4⟩:=nwS u4 hp4;fail "";refine⟨Nat.zero_le _,λp5 hp5=>?_⟩;generalize u5:upd H4 p5 _=H5;obtain⟨s5,e5⟩:=nwS u5 hp5;have s05:=(s03.trans s4).trans s5;obtain⟨ps,eo,no,lp,ro⟩:=id r;have eo5:=s05 _ _ eo;have ne5:oa≠p5:=d9 ((s03.trans s4) _ _ eo) hp5;have eqd:EqD K H5 1 (.ref oa) (.ref p5) (decide (os=[])):=by
   cases os with
   | nil=>
    rw[List.length_eq_zero_iff.mp lp] at eo5;exact EqD.lst (K:=K) (e:=λ_=>true) ne5 (SqL.of eo5) (SqL.of e5) rfl (λj x y hx=>by cases hx)
   | cons o os'=>
    refine EqD.lstN ne5 (SqL.of eo5) (SqL.of e5) ?_;rw[List.length_map,lp];simp
  refine c4h eqd ?_;fail "";refine .inr ⟨_,rfl,?_⟩;obtain⟨mx,hat,m0,m18,m12⟩:∃mx:Int,atI [V.int 18,V.int 12] (if decide (os=[])=true then 1 else 0)=some (.int mx)/\0<mx/\mx<=18/\(os=[]->mx=12):=by
   by_cases z:os=[]
   ·rw[decide_eq_true z,if_pos rfl];exact⟨12,rfl,by decide,by decide,λ_=>rfl⟩
   ·rw[decide_eq_false z,if_neg (by decide)];exact⟨18,rfl,by decide,by decide,λq=>absurd q z⟩
  refine a4u (s5 _ _ e4) hat ?_;fail "";have ten:(18:Int)<2 ^ 200:=by decide
  refine⟨wl,mx,rfl,hw.same s05,m0,by lia,λat_ H6 a6 b6 w6 c6=>?_⟩
  have B6:But wl H H6:=(But.of s05).trans c6;have e6:=c6 _ _ ((s4.trans s5) _ _ e3) nsg;have hsg0:H sg=none:=i7 (s1.trans s2) hsg;clear u1 u2 u3 u4 u5 e1 e2 e3 e4 e5 s1 s2 s3 s4 s5 s03 s05 hp1 hp2 hp4 hp5 hsg c6 eqd hat eo5 ne5;refine b7b ?_;refine c0a (by assumption) ?_
  refine a1k (λσ' H'=>∃he:Hr,σ'=[some (.ref wl),some (.int n),some (.ref oa),some (.ref sg),some (.int at_),some he.v,none,none,none]/\Well H' wl/\But wl H H'/\H' sg=some (.lst (gvU.map V.str))/\(at_<4->he=.non)/\(4<=at_->∃i,he=.int i/\0<=i/\i<2*(n:Int))) ?_ ?_
  rotate_left
  ·intro R hR
   fail "";by_cases z:at_<4
   ·rw[decide_eq_true z]
    fail "";exact hR _ _ ⟨.non,rfl,w6,B6,e6,λ_=>rfl,λq=>absurd z (by lia)⟩
   ·rw[decide_eq_false z]
    fail "";refine⟨wl,2*(n:Int),rfl,w6,by lia,by lia,λi H7 a7 b7 w7 c7=>?_⟩
    fail "";exact hR _ _ ⟨.int i,rfl,w7,B6.trans c7,c7 _ _ e6 nsg,λq=>absurd q z,λ_=>⟨i,rfl,a7,b7⟩⟩
  rintro σ H7 ⟨he,rfl,w7,B7,e7,t1,t2⟩;clear w6 B6 e6;fail "";refine⟨wl,n,rfl,w7,by lia,by lia,λr8 H8 a8 b8 w8 c8=>?_⟩
  fail "";refine .inr ⟨_,rfl,?_⟩;rw[q0];have B8:=B7.trans c8;have e8:=c8 _ _ e7 nsg;obtain⟨m,em,hm0,hm1⟩:∃m:Nat,r8*(if decide (at_=3)=true then 1 else 0)=(m:Int)/\(at_=3->m<n)/\(at_≠3->m=0):=by
   by_cases z:at_=3
   ·rw[decide_eq_true z,if_pos rfl];exact⟨r8.toNat,by lia,λ_=>by lia,λq=>absurd z q⟩
   ·rw[decide_eq_false z,if_neg (by decide)];exact⟨0,by lia,λq=>absurd q z,λ_=>rfl⟩
  have m8:m<=8:=by
   by_cases z:at_=3
   ·have:=hm0 z;lia
   ·have:=hm1 z;lia
  refine⟨r8,_,rfl,rfl,?_,?_⟩
  ·split
   ·exact .inr ⟨by decide,by decide⟩
   ·exact .inr ⟨by decide,by decide⟩
  dsimp only;rw[em];fail "";rw[show((m:Nat):Int).toNat=m from rfl];refine a0a (n:=m) (by lia) (MK wl H8) (λD hD=>⟨[],rfl,rfl,(λ_ z=>(by cases z)),d2,w8.same (d7 hD),But.of (d7 hD),w8.ne hD⟩) ?_ ?_ ?_
  ·rintro D i acc H' ⟨ms,rfl,hl,_,e,_⟩
   exact⟨e,by rw[List.length_map];exact hl⟩
  ·rintro D i acc H' hD hi ⟨ms,rfl,hl,hms,e,w',b',nd⟩
   fail "";refine⟨wl,4,rfl,w',by decide,by decide,λv H9 a9 b9 w9 c9=>?_⟩
   refine⟨c9 _ _ e nd,ms++[v],by rw[List.map_append];rfl,by rw[List.length_append,hl];rfl,λq hq=>?_,?_,?_,a8l (b'.trans c9) hD,nd⟩
   ·rcases List.mem_append.mp hq with hq|hq
    ·exact hms q hq
    ·rw[List.mem_singleton.mp hq];lia
   ·rw[d2]
   ·obtain⟨x1,x2,x3,ew,z⟩:=w9
    exact⟨x1,x2,x3,(d3 (Ne.symm nd)).trans ew,z⟩
  rintro D acc H9 hD ⟨ms,rfl,hl,hms,e9,w9,b9,nd⟩;fail "";intro sn hsn;generalize u10:upd H9 sn _=H10;obtain⟨s10,e10⟩:=nwS u10 hsn;have B10:=(B8.trans b9).trans (But.of s10);have e10s:=s10 _ _ (b9 _ _ e8 nsg);have w10:=w9.same s10;have nsn:=w9.ne hsn;have mf1:at_=3->ms.length<n:=λz=>by rw[hl];exact hm0 z
  have mf2:at_≠3->ms=[]:=λz=>List.length_eq_zero_iff.mp (by rw[hl];exact hm1 z)
  clear u10 e9 s10 hsn b9 w9 e8 B8 c8 w8 e7 B7 w7 hD nd hl;refine b7b ?_;refine c0a (by assumption) ?_
  refine a1k (λσ' H'=>σ'=[some (.ref wl),some (.int n),some (.ref oa),some (.ref sg),some (.int at_),some he.v,some (.ref sn),some (.int 0),none]/\H'=H10) ?_ ?_
  rotate_left
  ·intro R hR
   fail "";exact hR _ _ ⟨rfl,rfl⟩
  rintro σ H11 ⟨rfl,rfl⟩;refine a1k (λσ' H'=>σ'=[some (.ref wl),some (.int n),some (.ref oa),some (.ref sg),some (.int at_),some he.v,some (.ref sn),some (.int 0),some (.int 0)]/\H'=H11) ?_ ?_
  rotate_left
  ·intro R hR
   fail "";exact hR _ _ ⟨rfl,rfl⟩
  rintro σ H10 ⟨rfl,rfl⟩;have fact:∀{H':Hp},But wl H10 H'->Well H' wl->Well H' wl/\But wl H H'/\H' sg=some (.lst (gvU.map V.str))/\H' sn=some (.tup (ms.map V.int)):=λb w=>⟨w,B10.trans b,b _ _ e10s nsg,b _ _ e10 nsn⟩;refine a1k (λσ' H'=>∃od:Int,σ'=[some (.ref wl),some (.int n),some (.ref oa),some (.ref sg),some (.int at_),some he.v,some (.ref sn),some (.int od),some (.int 0)]/\Well H' wl/\But wl H10 H'/\(at_≠5->od=0)/\(at_=5->-1<=od/\od<os.length)) ?_ ?_
  rotate_left
  ·intro R hR
   fail "";rw[q0];have eo10:=B10 _ _ eo no;by_cases z:at_=5
   ·rw[decide_eq_true z]
    fail "";rw[List.length_map,lp];refine⟨wl,(os.length:Int)+1,rfl,w10,by lia,by lia,λv H12 a12 b12 w12 c12=>?_⟩
    fail "";exact hR _ _ ⟨v-1,rfl,w12,c12,λq=>absurd z q,λ_=>by lia⟩
   ·rw[decide_eq_false z]
    fail "";exact hR _ _ ⟨0,rfl,w10,But.refl _ _,λ_=>rfl,λq=>absurd q z⟩
  rintro σ H12 ⟨od,rfl,w12,c12,o1,o2⟩;refine a1k (λσ' H'=>∃od pt:Int,σ'=[some (.ref wl),some (.int n),some (.ref oa),some (.ref sg),some (.int at_),some he.v,some (.ref sn),some (.int od),some (.int pt)]/\Well H' wl/\But wl H10 H'/\(at_<5->od=0/\pt=0)/\(at_=5->(-1<=od/\od<os.length)/\pt=0)/\(5<at_->(od=os.length/\pt=0/\at_<12)\/((0<=od/\od<os.length)/\0<=pt/\pt<(os.getD od.toNat []).length))) ?_ ?_
  rotate_left
  ·intro R hR
   fail "";by_cases z:5<at_
   ·rw[decide_eq_true z]
    have r12:=r.but (B10.trans c12);obtain⟨ps2,eo12,no2,lp2,ro2⟩:=id r12;fail "";refine .inr ⟨_,rfl,?_⟩;rw[List.length_map,lp2];have pos:0<(os.length:Int)+(if decide (at_<12)=true then 1 else 0):=by
     by_cases y:at_<12
     ·rw[decide_eq_true y,if_pos rfl];lia
     ·rw[decide_eq_false y,if_neg (by decide)]
      cases os with
      | nil=>have:=m12 rfl;lia
      | cons=>show(0:Int)<((_+1:Nat):Int)+0;lia
    dsimp only;fail "";refine⟨wl,_,rfl,w12,pos,by split <;> lia,λv H14 a14 b14 w14 c14=>?_⟩
    have r14:=r12.but c14;obtain⟨ps3,eo14,no3,lp3,ro3⟩:=id r14;fail "";rw[List.length_map,lp3];by_cases y:v<os.length
    ·rw[decide_eq_true y]
     obtain⟨xs,q,eD,_,hat,eq⟩:=b5x r14.rws a14 y;have hj:v.toNat<os.length:=by lia
     have h1:=(hg _ (List.getElem_mem hj));have el:(os.getD v.toNat [])=os[v.toNat]:=by rw[List.getD_eq_getElem?_getD,List.getElem?_eq_getElem hj];rfl
     fail "";refine a4u eD hat ?_;fail "";rw[List.length_map];refine⟨wl,_,rfl,w14,by rw[el];lia,by rw[el];lia,λu H15 a15 b15 w15 c15=>?_⟩
     fail "";exact hR _ _ ⟨v,u,rfl,w15,(c12.trans c14).trans c15,λq=>absurd z (by lia),λq=>absurd z (by lia),λ_=>.inr ⟨⟨a14,y⟩,a15,b15⟩⟩
    ·rw[decide_eq_false y]
     fail "";refine hR _ _ ⟨v,0,rfl,w14,c12.trans c14,λq=>absurd z (by lia),λq=>absurd z (by lia),λ_=>.inl ⟨?_,rfl,?_⟩⟩
     ·by_cases x:at_<12
      ·rw[decide_eq_true x,if_pos rfl] at b14;lia
      ·rw[decide_eq_false x,if_neg (by decide)] at b14;lia
     ·by_cases x:at_<12
      ·exact x
      ·rw[decide_eq_false x,if_neg (by decide)] at b14;lia
   ·rw[decide_eq_false z]
    fail "";exact hR _ _ ⟨od,0,rfl,w12,c12,λq=>⟨o1 (by lia),rfl⟩,λq=>⟨o2 q,rfl⟩,λq=>absurd q z⟩
  rintro σ H13 ⟨od,pt,rfl,w13,c13,p1,p2,p3⟩;obtain⟨w13,B13,e13,en13⟩:=fact c13 w13;have ha:at_.toNat<18:=by lia
  obtain⟨g1,g2,g3,g4,g5⟩:=gst ⟨at_.toNat,ha⟩;dsimp only at g1 g2 g3 g4 g5;fail "";refine a4u (v:=.str (gvU.get ⟨at_.toNat,ha⟩)) e13 ?_ ?_
  ·unfold atI ixN
   rw[if_pos a6,if_pos (by show at_<18;lia)]
   show(gvU.map V.str)[at_.toNat]?=_;rw[List.getElem?_map,List.getElem?_eq_getElem ha]
   rfl
  have hin:gvU.get ⟨at_.toNat,ha⟩∈gvU:=List.get_mem _ _;generalize gvU.get ⟨at_.toNat,ha⟩=st at *;fail "";refine⟨by show 5<=sizeLine;decide,λp hp=>?_⟩
  have hp0:H p=none:=by
   cases e:H p with
   | none=>rfl
   | some o=>
    have:p≠wl:=λz=>by
     obtain⟨_,_,_,ew,_⟩:=w13;rw[z,ew] at hp;cases hp
    rw[B13 _ _ e this] at hp;cases hp
  refine k p ⟨st,he,ms,od,pt⟩ _ hp0 (w13.same (d7 hp)) (B13.trans (But.of (d7 hp))) ⟨sn,d2,d7 hp _ _ en13⟩ ⟨hin,?_,?_,?_⟩
  ·show a2b n st he
   unfold a2b;by_cases c:st∈b1e
   ·rw[if_pos c];exact t1 (by have:=g1.mp c;lia)
   ·rw[if_neg c];exact t2 (by have:¬ at_.toNat<4:=λz=>c (g1.mpr z);lia)
  ·show a3z n st ms
   unfold a3z;by_cases c:st="marks"
   ·rw[if_pos c];exact⟨mf1 (by have:=g2.mp c;lia),hms⟩
   ·rw[if_neg c];exact mf2 λz=>c (g2.mpr (by lia))
  ·show a8s st od pt os
   unfold a8s;by_cases c:st∈b1e\/st="told"
   ·rw[if_pos c]
    exact p1 (by
           rcases c with c|c
           ·have:=g1.mp c;lia
           ·have:=g3.mp c;lia)
   ·rw[if_neg c]
    have n4:¬ at_.toNat<4:=λz=>c (.inl (g1.mpr z));have n5:at_.toNat≠4:=λz=>c (.inr (g3.mpr z));by_cases c2:st="lacks"
    ·rw[if_pos c2];exact p2 (by have:=g4.mp c2;lia)
    ·rw[if_neg c2]
     have n6:at_.toNat≠5:=λz=>c2 (g4.mpr z);rcases p3 (by lia) with ⟨q1,q2,q3⟩|⟨q1,q2⟩
     ·rw[if_pos q1];exact⟨g5 (by lia) (by lia),q2⟩
     ·rw[if_neg (by lia)];exact⟨q1,q2⟩
def NK(wl:Addr)(H0:Hp)(D:Addr)(i:Nat)(acc:List V)(H':Hp):Prop:=∃ms:List Int,acc=ms.map V.int/\ms.length=i/\H' D=some (.lst acc)/\Well H' wl/\But wl H0 H'/\D≠wl
theorem tst(a:Fin 16):(tkU.get a∈b1e ↔ a.val<4)/\(tkU.get a="marks" ↔ a.val=3)/\(tkU.get a∈b7e ↔ 13<=a.val):=by
 revert a
 decide +kernel
theorem c4c{H:Hp}{Q:VK}{t:Addr}{x:Str}{xs:List Str}(h:SqL K H t (xs.map V.str))(q:Q (.bl (decide (x∈xs))) H):rIn K false (.str x) (.ref t) H Q :=
 ⟨t,_,rfl,.inl h,rfl,a8j xs,by rw[if_neg (by decide),b0z];exact q⟩
theorem a7i{H H':Hp}{wl p:Addr}(b:But wl H H')(hw:Well H' wl)(hp:H' p=none):H p=none:=by
 cases e:H p with
 | none=>rfl
 | some o=>
  have:p≠wl:=λz=>by
   obtain⟨_,_,_,ew,_⟩:=hw;rw[z,ew] at hp;cases hp
  rw[b _ _ e this] at hp;cases hp
def a6q(cl:Cl):Sp:=λvs H Q _=>∃(wl:Addr)(n:Nat),vs=[.ref wl,.int n]/\Well H wl/\2<=n/\n<=8/\∀p y H',H p=none->Well H' wl->But wl H H'->TT H' p y->c0m n y->Q (.ref p) H'
abbrev a4i:Stmt:=top 135
theorem k4:d8 ["well","size","stages","at","seen","first","far","parts","number","left"] ["well","size"] (d5 a4i):=↑1
theorem b2j(D:DefT K mg "_law_taker" a4i ["well","size"])(T:Txt K mg cl)(G_law_take:FnT P w K mg base "_law_take" 1 ["well","many"] v6)(G_law_far:FnT P w K mg base "_law_far" 2 ["well"] a5z):FnT P w K mg base "_law_taker" 3 ["well","size"] (a6q cl):=by
 refine D.fn k4 (λvs H Q E h=>?_) (λf cdv A outer s H vs Q E hr h=>?_)
 ·obtain⟨wl,n,rfl,_⟩:=h
  rfl
 ·obtain⟨wl,n,rfl,hw,n2,n8,k⟩:=h
  refine⟨_,(@c3 _ _ _ _ _ (@i9 _ _ 2 _ _ _ _ k4.nd rfl (by first|exact Or.inl rfl|exact Or.inr rfl) (@l8 _ _ _ _ (@c0 _ _ _ _ _ i3 (@c0 _ _ _ _ _ i3 (@c0 _ _ _ _ _ i3 (@c0 _ _ _ _ _ i3 (@c0 _ _ _ _ _ i3 (@c0 _ _ _ _ _ i3 (@c0 _ _ _ _ _ i3 (@c0 _ _ _ _ _ i3 (@c0 _ _ _ _ _ i3 (@c0 _ _ _ _ _ i3 (@d0 _) rfl) rfl) rfl) rfl) rfl) rfl) rfl) rfl) rfl) rfl)) (by rfl) (by first|exact .inl rfl|exact .inr rfl))
   (c3 (i9 (i:=2) k4.nd rfl (by first|exact Or.inl rfl|exact Or.inr rfl) (i5 a9j (pv 2) (@l8 _ _ _ _ (@c0 _ _ _ _ _ i3 (@c0 _ _ _ _ _ i3 (@c0 _ _ _ _ _ i3 (@c0 _ _ _ _ _ i3 (@c0 _ _ _ _ _ i3 (@c0 _ _ _ _ _ i3 (@d0 _) rfl) rfl) rfl) rfl) rfl) rfl))))
   (c3 (i9 (i:=3) k4.nd rfl (by first|exact Or.inl rfl|exact Or.inr rfl) (i4 G_law_take hr (by decide) rfl f6 (c0 (pv 0) (c0 d6 d0))))
   (c3 (m5 (g6 a5r (pv 3) d6 (g7 _))
     (
     c3 (i9 (i:=4) k4.nd rfl (by first|exact Or.inl rfl|exact Or.inr rfl) (g9 (n9 (K:=K)) (by rfl) T.z_tuple PyProof.Rows.boot_tuple (c0 (a0m (N:=["k","well"]) (nt:=1) (fr:=[0]) rfl (a5y (i:=0) rfl rfl (by decide +kernel) (by decide +kernel) rfl rfl rfl rfl rfl rfl rfl) (u0 rfl T.z_range (c0 (i5 o6 (i4 G_law_take hr (by decide) rfl f6 (c0 (pv 0) (c0 (pv 1) d0))) (g9 a0o (by rfl) T.z_int PyProof.Rows.boot_int (c0 (j9 z9 (pv 3) d6 (g7 _)) d0))) d0)) (v3 (by decide)) (λ_ _ _ _ _=>f7 (i:=0) (show(["k","well"]:List Str).Nodup by decide +kernel) rfl (Or.inl rfl) (Or.inr rfl)) (λ_ _ _ _ _=>(i4 G_law_take hr (by decide) rfl b1z (c0 (pv 1) (c0 d6 d0))))) d0)))
     (d4 (f8 (v2 (c0 (q5 (j5 (K:=K)) (pv 2) (pv 3) (λ_ _=>rfl)) (c0 a6y (c0 (pv 4) (c0 a6y (c0 d6 (c0 d6 (c0 (v2 d0) d0)))))))))))
     i8)
   (c3 (i9 (i:=5) k4.nd rfl (by first|exact Or.inl rfl|exact Or.inr rfl) (i4 G_law_take hr (by decide) rfl f6 (c0 (pv 0) (c0 (i5 o6 d6 (pv 1)) d0))))
   (c3 (i9 (i:=6) k4.nd rfl (by first|exact Or.inl rfl|exact Or.inr rfl) (i4 G_law_take hr (by decide) rfl f6 (c0 (pv 0) (c0 (pv 1) d0))))
   (c3 (i9 (i:=7) k4.nd rfl (by first|exact Or.inl rfl|exact Or.inr rfl) (g9 (n9 (K:=K)) (by rfl) T.z_tuple PyProof.Rows.boot_tuple (c0 (a0m (N:=["k","well"]) (nt:=1) (fr:=[0]) rfl (a5y (i:=0) rfl rfl (by decide +kernel) (by decide +kernel) rfl rfl rfl rfl rfl rfl rfl) (u0 rfl T.z_range (c0 (i5 o6 (pv 6) (g9 a0o (by rfl) T.z_int PyProof.Rows.boot_int (c0 (j9 a5r (pv 3) d6 (g7 _)) d0))) d0)) (v3 (by decide)) (λ_ _ _ _ _=>f7 (i:=0) (show(["k","well"]:List Str).Nodup by decide +kernel) rfl (Or.inl rfl) (Or.inr rfl)) (λ_ _ _ _ _=>(i5 a0t (i4 G_law_far hr (by decide) rfl b1z (c0 (pv 1) d0)) (i4 G_law_far hr (by decide) rfl b1z (c0 (pv 1) d0))))) d0)))
   (c3 (i9 (i:=8) k4.nd rfl (by first|exact Or.inl rfl|exact Or.inr rfl) (i5 o6 (i5 a0t (i4 G_law_far hr (by decide) rfl f6 (c0 (pv 0) d0)) d6) (g9 a0o (by rfl) T.z_int PyProof.Rows.boot_int (c0 (j9 (a7x (K:=K)) (q5 (j5 (K:=K)) (pv 2) (pv 3) (λ_ _=>rfl)) (l8 (c0 i3 (c0 i3 d0))) (by with_unfolding_all rfl)) d0))))
   (c3 (i9 (i:=9) k4.nd rfl (by first|exact Or.inl rfl|exact Or.inr rfl) (i5 o6 (i4 G_law_take hr (by decide) rfl f6 (c0 (pv 0) (c0 (pv 1) d0))) (g9 a0o (by rfl) T.z_int PyProof.Rows.boot_int (c0 (j9 z9 (q5 (j5 (K:=K)) (pv 2) (pv 3) (λ_ _=>rfl)) i3 (g7 _)) d0))))
   (d4 (f8 (v2 (c0 (q5 (j5 (K:=K)) (pv 2) (pv 3) (λ_ _=>rfl)) (c0 (i5 a3e (i5 y6 (pv 5) (pv 6)) (i5 o6 d6 (pv 1))) (c0 (v2 d0) (c0 (pv 5) (c0 (pv 8) (c0 (pv 9) (c0 (pv 7) d0))))))))))))))))))),?_⟩
  have h60:6000<=sizeLine:=by decide
  fail "";refine⟨by show 10<=sizeLine;decide,λp1 hp1=>?_⟩
  generalize u1:upd H p1 _=H1;obtain⟨s1,e1⟩:=nwS u1 hp1;fail "";refine⟨by show 6<=sizeLine;decide,λp2 hp2=>?_⟩
  generalize u2:upd H1 p2 _=H2;obtain⟨s2,e2⟩:=nwS u2 hp2;fail "";refine b5k (s2 _ _ e1) e2 (by show 10+6<=sizeLine;decide) λsg hsg=>?_
  rw[show([.str "rouse",.str "clear",.str "mute",.str "marks",.str "look",.str "wish",.str "again",.str "sleep",.str "hush",.str "unwish"]:List V)++[.str "number",.str "left",.str "thing",.str "free",.str "card",.str "ring"]=tkU.map V.str from rfl];generalize u3:upd H2 sg _=H3;obtain⟨s3,e3⟩:=nwS u3 hsg;have s03:=(s1.trans s2).trans s3;have nsg:=((hw.same s1).same s2).ne hsg;fail "";refine⟨wl,16,rfl,hw.same s03,by decide,by decide,λat_ H6 a6 b6 w6 c6=>?_⟩
  have B6:But wl H H6:=(But.of s03).trans c6;have e6:=c6 _ _ e3 nsg;clear u1 u2 u3 e1 e2 e3 s1 s2 s3 s03 hp1 hp2 hsg c6;have ha:at_.toNat<16:=by lia
  obtain⟨g1,g2,g3⟩:=tst ⟨at_.toNat,ha⟩;dsimp only at g1 g2 g3;have hat:atI (tkU.map V.str) at_=some (.str (tkU.get ⟨at_.toNat,ha⟩)):=by
   unfold atI ixN;rw[if_pos a6,if_pos (by show at_<16;lia)]
   show(tkU.map V.str)[at_.toNat]?=_;rw[List.getElem?_map,List.getElem?_eq_getElem ha]
   rfl
  have hin:tkU.get ⟨at_.toNat,ha⟩∈tkU:=List.get_mem _ _;generalize tkU.get ⟨at_.toNat,ha⟩=st at *;fail "";by_cases z:at_<4
  ·rw[decide_eq_true z]
   have cu:st∈b1e:=g1.mpr (by lia)
   fail "";refine⟨wl,n,rfl,w6,by lia,by lia,λr8 H8 a8 b8 w8 c8=>?_⟩
   fail "";refine .inr ⟨_,rfl,?_⟩;rw[q0];have B8:=B6.trans c8;have e8:=c8 _ _ e6 nsg;obtain⟨m,em,hm0,hm1⟩:∃m:Nat,r8*(if decide (at_=3)=true then 1 else 0)=(m:Int)/\(at_=3->m<n)/\(at_≠3->m=0):=by
    by_cases z:at_=3
    ·rw[decide_eq_true z,if_pos rfl];exact⟨r8.toNat,by lia,λ_=>by lia,λq=>absurd z q⟩
    ·rw[decide_eq_false z,if_neg (by decide)];exact⟨0,by lia,λq=>absurd q z,λ_=>rfl⟩
   have m8:m<=8:=by
    by_cases z:at_=3
    ·have:=hm0 z;lia
    ·have:=hm1 z;lia
   refine⟨r8,_,rfl,rfl,?_,?_⟩
   ·split
    ·exact .inr ⟨by decide,by decide⟩
    ·exact .inr ⟨by decide,by decide⟩
   dsimp only;rw[em];fail "";rw[show((m:Nat):Int).toNat=m from rfl];refine a0a (n:=m) (by lia) (MK wl H8) (λD hD=>⟨[],rfl,rfl,(λ_ z=>(by cases z)),d2,w8.same (d7 hD),But.of (d7 hD),w8.ne hD⟩) ?_ ?_ ?_
   ·rintro D i acc H' ⟨ms,rfl,hl,_,e,_⟩
    exact⟨e,by rw[List.length_map];exact hl⟩
   ·rintro D i acc H' hD hi ⟨ms,rfl,hl,hms,e,w',b',nd⟩
    fail "";refine⟨wl,4,rfl,w',by decide,by decide,λv H9 a9 b9 w9 c9=>?_⟩
    refine⟨c9 _ _ e nd,ms++[v],by rw[List.map_append];rfl,by rw[List.length_append,hl];rfl,λq hq=>?_,?_,?_,a8l (b'.trans c9) hD,nd⟩
    ·rcases List.mem_append.mp hq with hq|hq
     ·exact hms q hq
     ·rw[List.mem_singleton.mp hq];lia
    ·rw[d2]
    ·obtain⟨x1,x2,x3,ew,z⟩:=w9
     exact⟨x1,x2,x3,(d3 (Ne.symm nd)).trans ew,z⟩
   rintro D acc H9 hD ⟨ms,rfl,hl,hms,e9,w9,b9,nd⟩;fail "";intro sn hsn;generalize u10:upd H9 sn _=H10;obtain⟨s10,e10⟩:=nwS u10 hsn;have B10:=(B8.trans b9).trans (But.of s10);have e10s:=s10 _ _ (b9 _ _ e8 nsg);have w10:=w9.same s10;fail "";refine a4u e10s hat ?_;fail "";refine⟨Nat.zero_le _,λq hq=>?_⟩;generalize u11:upd H10 q _=H11;obtain⟨s11,e11⟩:=nwS u11 hq;fail "";refine⟨by show 7<=sizeLine;decide,λp hp=>?_⟩
   have sq:=d7 (o:=.tup [.str st,.non,.ref sn,.non,.int 0,.int 0,.ref q]) hp;have B11:=B10.trans (But.of s11);refine k p ⟨st,.non,ms,.non,0,0,[]⟩ _ (a7i B11 (w10.same s11) hp) ((w10.same s11).same sq) (B11.trans (But.of sq)) ⟨sn,q,d2,sq _ _ (s11 _ _ e10),sq _ _ e11⟩ ⟨hin,?_,?_,?_,⟨.inl rfl,.inl rfl⟩,?_⟩
   ·show a2b n st .non
    unfold a2b;rw[if_pos cu]
   ·show a2b n st .non
    unfold a2b;rw[if_pos cu]
   ·show a3z n st ms
    unfold a3z;by_cases c:st="marks"
    ·rw[if_pos c];exact⟨by rw[hl];exact hm0 (by have:=g2.mp c;lia),hms⟩
    ·rw[if_neg c];exact List.length_eq_zero_iff.mp (by rw[hl];exact hm1 λy=>c (g2.mpr (by lia)))
   ·show a7v n ⟨st,.non,ms,.non,0,0,[]⟩
    unfold a7v;rw[if_pos cu]
  ·rw[decide_eq_false z]
   fail "";have nc:st ∉ b1e:=λc=>z (by have:=g1.mp c;lia)
   refine⟨wl,2*(n:Int),rfl,w6,by lia,by lia,λfi H7 a7 b7 w7 c7=>?_⟩
   fail "";refine⟨wl,n,rfl,w7,by lia,by lia,λfa H8 a8 b8 w8 c8=>?_⟩
   have B8:=(B6.trans c7).trans c8;have e8:=c8 _ _ (c7 _ _ e6 nsg) nsg;fail "";refine .inr ⟨_,rfl,?_⟩;obtain⟨m,em,hm⟩:∃m:Nat,fa*(if decide (at_<13)=true then 1 else 0)=(m:Int)/\(m:Int)=if at_<13 then fa else 0:=by
    by_cases y:at_<13
    ·rw[decide_eq_true y,if_pos rfl,if_pos y];exact⟨fa.toNat,by lia,by lia⟩
    ·rw[decide_eq_false y,if_neg (by decide),if_neg y];exact⟨0,by lia,by lia⟩
   have m8:m<=8:=by split at hm <;> lia
   refine⟨fa,_,rfl,rfl,?_,?_⟩
   ·split
    ·exact .inr ⟨by decide,by decide⟩
    ·exact .inr ⟨by decide,by decide⟩
   dsimp only;rw[em];fail "";rw[show((m:Nat):Int).toNat=m from rfl];refine a0a (n:=m) (by lia) (NK wl H8) (λD hD=>⟨[],rfl,rfl,d2,w8.same (d7 hD),But.of (d7 hD),w8.ne hD⟩) ?_ ?_ ?_
   ·rintro D i acc H' ⟨ms,rfl,hl,e,_⟩
    exact⟨e,by rw[List.length_map];exact hl⟩
   ·rintro D i acc H' hD hi ⟨ms,rfl,hl,e,w',b',nd⟩
    fail "";refine⟨wl,rfl,w',λv H9 a9 b9 w9 c9=>?_⟩;fail "";refine⟨wl,rfl,w9,λu H10 a10 b10 w10 c10=>?_⟩;fail "";have c90:=c9.trans c10;refine⟨c90 _ _ e nd,ms++[v-u],by rw[List.map_append];rfl,by rw[List.length_append,hl];rfl,?_,?_,a8l (b'.trans c90) hD,nd⟩
    ·rw[d2]
    ·obtain⟨x1,x2,x3,ew,z⟩:=w10
     exact⟨x1,x2,x3,(d3 (Ne.symm nd)).trans ew,z⟩
   rintro D acc H9 hD ⟨ms,rfl,hl,e9,w9,b9,nd⟩;fail "";intro pa hpa;generalize u10:upd H9 pa _=H10;obtain⟨s10,e10⟩:=nwS u10 hpa;have B10:=(B8.trans b9).trans (But.of s10);have e10s:=s10 _ _ (b9 _ _ e8 nsg);have w10:=w9.same s10;have npa:=w9.ne hpa;clear u10 e9 s10 hpa b9 w9 e8 B8 c8 w8 hD nd c7 w7 e6 B6 w6;fail "";refine⟨wl,rfl,w10,λr11 H11 a11 b11 w11 c11=>?_⟩;have e11s:=c11 _ _ e10s nsg;fail "";refine a4u e11s hat ?_;fail "";refine⟨by show 2<=sizeLine;decide,λl12 hl12=>?_⟩
   generalize u12:upd H11 l12 _=H12;obtain⟨s12,e12⟩:=nwS u12 hl12;refine c4c (xs:=["left","thing"]) (SqL.of e12) ?_;fail "";refine .inr ⟨_,rfl,?_⟩;refine⟨r11-2,_,rfl,rfl,?_,?_⟩
   ·split
    ·exact .inr ⟨by decide,by decide⟩
    ·exact .inr ⟨by decide,by decide⟩
   dsimp only;obtain⟨nu,enu,hnu⟩:∃nu:Int,(r11-2)*(if decide (st∈(["left","thing"]:List Str))=true then 1 else 0)=nu/\(nu=0\/st="left"\/st="thing"):=by
    by_cases y:st∈(["left","thing"]:List Str)
    ·exact⟨_,rfl,.inr (by simpa using y)⟩
    ·rw[decide_eq_false y,if_neg (by decide)];exact⟨_,rfl,.inl (by lia)⟩
   rw[enu];have e12s:=s12 _ _ e11s;have B12:=(B10.trans c11).trans (But.of s12);have w12:=w11.same s12;have e12p:=s12 _ _ (c11 _ _ e10 npa);fail "";refine⟨wl,n,rfl,w12,by lia,by lia,λr13 H13 a13 b13 w13 c13=>?_⟩
   have e13s:=c13 _ _ e12s nsg;have e13p:=c13 _ _ e12p npa;have B13:=B12.trans c13;fail "";refine a4u e13s hat ?_;fail "";refine .inr ⟨_,rfl,?_⟩;rw[a0n];refine⟨r13,_,rfl,rfl,?_,?_⟩
   ·split
    ·exact .inr ⟨by decide,by decide⟩
    ·exact .inr ⟨by decide,by decide⟩
   dsimp only;obtain⟨le,ele,hle⟩:∃le:Int,r13*(if decide (st="thing")=true then 1 else 0)=le/\(le=0\/(0<le/\st="thing")):=by
    by_cases y:st="thing"
    ·rw[decide_eq_true y,if_pos rfl]
     by_cases x:r13=0
     ·exact⟨_,rfl,.inl (by lia)⟩
     ·exact⟨_,rfl,.inr ⟨by lia,y⟩⟩
    ·rw[decide_eq_false y,if_neg (by decide)];exact⟨_,rfl,.inl (by lia)⟩
   rw[ele];fail "";refine a4u e13s hat ?_;fail "";refine⟨Nat.zero_le _,λq hq=>?_⟩;generalize u14:upd H13 q _=H14;obtain⟨s14,e14⟩:=nwS u14 hq;fail "";refine⟨by show 7<=sizeLine;decide,λp hp=>?_⟩
   have sq:=d7 (o:=.tup [.str st,.int ((fi+fa) % (2*(n:Int))),.ref q,.int fi,.int nu,.int le,.ref pa]) hp;have B14:=B13.trans (But.of s14);have t0:=Int.emod_nonneg (fi+fa) (show 2*(n:Int)≠0 by lia)
   have t1:=Int.emod_lt_of_pos (fi+fa) (show 0<2*(n:Int) by lia)
   have dist:((fi+fa) % (2*(n:Int))-fi) % (2*(n:Int))=fa:=by
    rw[Int.sub_eq_add_neg,Int.emod_add_emod,show fi+fa + -fi=fa by lia]
    exact Int.emod_eq_of_lt a8 (by lia)
   refine k p ⟨st,.int ((fi+fa) % (2*(n:Int))),[],.int fi,nu,le,ms⟩ _ (a7i B14 (w13.same s14) hp) ((w13.same s14).same sq) (B14.trans (But.of sq)) ⟨q,pa,d2,sq _ _ e14,sq _ _ (s14 _ _ e13p)⟩ ⟨hin,?_,?_,?_,⟨hnu,hle⟩,?_⟩
   ·show a2b n st (.int _)
    unfold a2b;rw[if_neg nc];exact⟨_,rfl,t0,t1⟩
   ·show a2b n st (.int _)
    unfold a2b;rw[if_neg nc];exact⟨_,rfl,a7,b7⟩
   ·show a3z n st []
    unfold a3z;rw[if_neg λc=>z (by have:=g2.mp c;lia)]
   ·show a7v n ⟨st,.int ((fi+fa) % (2*(n:Int))),[],.int fi,nu,le,ms⟩
    unfold a7v;rw[if_neg nc];refine⟨_,_,rfl,rfl,?_,?_⟩
    ·dsimp only
     by_cases c:st∈b7e
     ·rw[if_pos c]
      have:=g3.mp c;rw[if_neg (by lia)] at hm
      exact List.length_eq_zero_iff.mp (by lia)
     ·rw[if_neg c]
      have:¬ 13<=at_.toNat:=λy=>c (g3.mpr y);rw[if_pos (by lia)] at hm
      rw[dist,hl,hm]
    ·rw[dist];exact b8
def RB(wl:Addr)(n:Nat)(H0:Hp)(D:Addr)(i:Nat)(acc:List V)(H':Hp):Prop:=∃(ps:List Addr)(os:List (List Int)),acc=ps.map V.ref/\ps.length=i/\os.length=i/\b4v n os/\H' D=some (.lst acc)/\D≠wl/\Well H' wl/\But wl H0 H'/\∀(j:Nat)(p:Addr)(o:List Int),ps[j]?=some p->os[j]?=some o->p≠wl/\p≠D/\H' p=some (.lst (o.map V.int))
theorem a9q{H:Hp}{wl D:Addr}{o:HO}(h:Well H wl)(n:D≠wl):Well (upd H D o) wl:=by
 obtain⟨x1,x2,x3,ew,z⟩:=h;exact⟨x1,x2,x3,(d3 (Ne.symm n)).trans ew,z⟩
theorem b3u{α:Type}{xs:List α}{x y:α}{j i:Nat}(hl:xs.length=i)(h:¬ j<i)(e:(xs++[x])[j]?=some y):j=i/\y=x:=by
 rw[List.getElem?_append_right (by lia)] at e
 by_cases z:j-xs.length=0
 ·rw[z] at e
  cases e;exact⟨by lia,rfl⟩
 ·rw[List.getElem?_eq_none (by simp;lia)] at e;cases e
theorem RB.push{wl D p:Addr}{n i:Nat}{H0 H' H2:Hp}{acc:List V}{row:List Int}(h:RB wl n H0 D i acc H')(hD:H0 D=none)(hp:H' p=none)(e:H2 p=some (.lst (row.map V.int)))(l1:1<=row.length)(l2:row.length<=n)(w2:Well H2 wl)(b2:But wl H' H2):
  H2 D=some (.lst acc)/\RB wl n H0 D (i+1) (acc++[.ref p]) (upd H2 D (.lst (acc++[.ref p]))):=by
 obtain⟨ps,os,rfl,hl,hlo,g,eD,nD,w',b',r⟩:=h;have npw:p≠wl:=w'.ne hp;have npD:p≠D:=λz=>by rw[z,eD] at hp;cases hp
 refine⟨b2 _ _ eD nD,ps++[p],os++[row],by rw[List.map_append];rfl,by rw[List.length_append,hl];rfl,by rw[List.length_append,hlo];rfl,?_,d2,nD,a9q w2 nD,a8l (b'.trans b2) hD,?_⟩
 ·intro o ho
  rcases List.mem_append.mp ho with ho|ho
  ·exact g o ho
  ·rw[List.mem_singleton.mp ho];exact⟨l1,l2⟩
 ·intro j q o hj ho
  by_cases y:j<i
  ·rw[List.getElem?_append_left (by lia)] at hj ho
   obtain⟨a,b,c⟩:=r j q o hj ho;exact⟨a,b,by rw[d3 b];exact b2 _ _ c a⟩
  ·obtain⟨_,rfl⟩:=b3u hl y hj
   obtain⟨_,rfl⟩:=b3u hlo y ho;exact⟨npw,npD,by rw[d3 npD];exact e⟩
theorem RB.rw{wl D:Addr}{n i:Nat}{H0 H':Hp}{acc:List V}(h:RB wl n H0 D i acc H'):∃os:List (List Int),RW H' wl D os/\b4v n os/\os.length=i/\Well H' wl/\But wl H0 H':=by
 obtain⟨ps,os,rfl,hl,hlo,g,eD,nD,w',b',r⟩:=h;exact⟨os,⟨ps,eD,nD,by lia,λj p o hp ho=>⟨(r j p o hp ho).1,(r j p o hp ho).2.2⟩⟩,g,hlo,w',b'⟩
theorem b4b{H:Hp}{wl a:Addr}{xs:List V}(hw:Well H wl)(e:H a=some (.tup xs)):a≠wl:=by
 obtain⟨_,_,_,ew,_⟩:=hw;exact a0b e ew (λz=>(nomatch z))
theorem TTs.but{H H':Hp}{wl a:Addr}{os:List (List Int)}(h:TTs H a os)(hw:Well H wl)(b:But wl H H'):TTs H' a os:=by
 obtain⟨ps,e,l,r⟩:=h;exact⟨ps,b _ _ e (b4b hw e),l,λi p o hp ho=>b _ _ (r i p o hp ho) (b4b hw (r i p o hp ho))⟩
theorem GT.but{H H':Hp}{wl a:Addr}{g:GSd}(h:GT H a g)(hw:Well H wl)(b:But wl H H'):GT H' a g:=by
 obtain⟨m,e,e'⟩:=h;exact⟨m,b _ _ e (b4b hw e),b _ _ e' (b4b hw e')⟩
theorem TTs.upd{H:Hp}{D a:Addr}{xs ys:List V}{os:List (List Int)}(h:TTs H a os)(eD:H D=some (.lst xs)):TTs (upd H D (.lst ys)) a os:=by
 obtain⟨ps,e,l,r⟩:=h;have nx:∀{y:Addr}{zs:List V},H y=some (.tup zs)->y≠D:=λe=>a0b e eD (λz=>(nomatch z));exact⟨ps,by rw[d3 (nx e)];exact e,l,λi p o hp ho=>by rw[d3 (nx (r i p o hp ho))];exact r i p o hp ho⟩
def BB(H:Hp)(oss:List (List (List Int)))(D:Addr)(i:Nat)(acc:List V)(H':Hp):Prop:=H' D=some (.lst acc)/\Same H H'/\∃ps:List Addr,acc=ps.map V.ref/\ps.length=i/\∀(j:Nat)(p:Addr)(os:List (List Int)),ps[j]?=some p->oss[j]?=some os->TTs H' p os
theorem BB.push{H H' H2:Hp}{oss:List (List (List Int))}{os:List (List Int)}{D p:Addr}{i:Nat}{acc:List V}(h:BB H oss D i acc H')(hD:H D=none)(ho:oss[i]?=some os)(s:Same H' H2)(t:TTs H2 p os):
  H2 D=some (.lst acc)/\BB H oss D (i+1) (acc++[.ref p]) (L2.upd H2 D (.lst (acc++[.ref p]))):=by
 obtain⟨e,s',ps,rfl,hl,r⟩:=h;have e2:=s _ _ e;refine⟨e2,d2,?_,ps++[p],by rw[List.map_append];rfl,by rw[List.length_append,hl];rfl,?_⟩
 ·intro b u eb
  rw[d3 (λz=>by rw[z,hD] at eb;cases eb)]
  exact s _ _ (s' _ _ eb)
 ·intro j q u hj hu
  by_cases y:j<i
  ·rw[List.getElem?_append_left (by lia)] at hj
   exact TTs.upd ((r j q u hj hu).same s) e2
  ·obtain⟨rfl,rfl⟩:=b3u hl y hj
   rw[ho] at hu;cases hu;exact TTs.upd t e2
theorem b8v{xs ys:List Int}{k:Nat}(h:k<xs.length):(xs++ys).getD k 0=xs.getD k 0:=by
 rw[List.getD_eq_getElem?_getD,List.getD_eq_getElem?_getD,List.getElem?_append_left h]
theorem b7a{xs ys:List Int}{k l:Nat}(h:xs.length=l):(xs++ys).getD (l+k) 0=ys.getD k 0:=by
 rw[List.getD_eq_getElem?_getD,List.getD_eq_getElem?_getD,List.getElem?_append_right (by lia),show l+k-xs.length=k by lia]
def a1u(cl:Cl):Sp:=λvs H Q _=>∃wl:Addr,vs=[.ref wl]/\Well H wl/\∀p x H',H p=none->Well H' wl->But wl H H'->ST H' p x->b8o x->x.os.length<=5->x.bk.length<=5->Q (.ref p) H'
abbrev a0g:Stmt:=top 136
theorem j4:d8 ["well","size","orders","book","cells","place","both"] ["well"] (d5 a0g):=↑1
theorem a7e(D:DefT K mg "_law_any_stand" a0g ["well"])(T:Txt K mg cl)(G_law_take:FnT P w K mg base "_law_take" 1 ["well","many"] v6)(G_law_far:FnT P w K mg base "_law_far" 2 ["well"] a5z)(G_law_order:FnT P w K mg base "_law_order" 2 ["well","size"] a6r)(G_law_giver:FnT P w K mg base "_law_giver" 2 ["well","size","orders"] (a6s cl))(G_law_taker:FnT P w K mg base "_law_taker" 3 ["well","size"] (a6q cl)):FnT P w K mg base "_law_any_stand" 4 ["well"] (a1u cl):=by
 refine D.fn j4 (λvs H Q E h=>?_) (λf cdv A outer s H vs Q E hr h=>?_)
 ·obtain⟨wl,rfl,_⟩:=h
  rfl
 ·obtain⟨wl,rfl,hw,k⟩:=h
  refine⟨_,(c3 (i9 (i:=1) j4.nd rfl (by first|exact Or.inl rfl|exact Or.inr rfl) (i5 y6 d6 (i4 G_law_take hr (by decide) rfl f6 (c0 (pv 0) (c0 d6 d0)))))
   (c3 (a6f (ix:=2) (N:=["k","well","size"]) (nt:=1) (fr:=[0,1]) rfl (b4s (i:=0) (j:=1) rfl rfl (by decide +kernel) (by decide +kernel) rfl rfl rfl rfl rfl rfl rfl rfl rfl rfl rfl rfl) (u0 rfl T.z_range (c0 (i4 G_law_take hr (by decide) rfl f6 (c0 (pv 0) (c0 d6 d0))) d0)) (v3 (by decide)) (λ_ _ _ _ _=>f7 (i:=0) (show(["k","well","size"]:List Str).Nodup by decide +kernel) rfl (Or.inl rfl) (Or.inr rfl)) (λ_ _ _ _ _=>(i4 G_law_order hr (by decide) rfl b1z (c0 (pv 1) (c0 (pv 2) d0)))) j4.nd rfl rfl)
   (c3 (a6f (ix:=3) (N:=["k","well","size"]) (nt:=1) (fr:=[0,1]) rfl (b4s (i:=0) (j:=1) rfl rfl (by decide +kernel) (by decide +kernel) rfl rfl rfl rfl rfl rfl rfl rfl rfl rfl rfl rfl) (u0 rfl T.z_range (c0 (i4 G_law_take hr (by decide) rfl f6 (c0 (pv 0) (c0 d6 d0))) d0)) (v3 (by decide)) (λ_ _ _ _ _=>f7 (i:=0) (show(["k","well","size"]:List Str).Nodup by decide +kernel) rfl (Or.inl rfl) (Or.inr rfl)) (λ_ _ _ _ _=>(i4 G_law_order hr (by decide) rfl b1z (c0 (pv 1) (c0 (pv 2) d0)))) j4.nd rfl rfl)
   (c3 (i9 (i:=4) j4.nd rfl (by first|exact Or.inl rfl|exact Or.inr rfl) (l8 d0))
   (c3 (a9g a3l rfl (u0 rfl T.z_range (c0 (pv 1) d0)) (f7 (i:=5) j4.nd rfl (by first|exact Or.inl rfl|exact Or.inr rfl))
     (
     c3 (i9 (i:=4) j4.nd rfl (by first|exact Or.inl rfl|exact Or.inr rfl) (i5 a9j (pv 4) (l8 (c0 (i4 G_law_take hr (by decide) rfl f6 (c0 (pv 0) (c0 d6 d0))) (c0 (i5 a0t (i4 G_law_take hr (by decide) rfl f6 (c0 (pv 0) (c0 d6 d0))) d6) (c0 (i4 G_law_take hr (by decide) rfl f6 (c0 (pv 0) (c0 d6 d0))) d0))))))
     (d4 (j8 (a9i (K:=K) (pv 4) (c0 (i5 a0t (i4 G_law_far hr (by decide) rfl f6 (c0 (pv 0) d0)) (i4 G_law_far hr (by decide) rfl f6 (c0 (pv 0) d0))) d0))))))
   (c3 (i9 (i:=4) j4.nd rfl (by first|exact Or.inl rfl|exact Or.inr rfl) (i5 a9j (pv 4) (l8 (c0 (i5 a0t (i4 G_law_take hr (by decide) rfl f6 (c0 (pv 0) (c0 (i5 y6 (i5 o6 d6 (pv 1)) d6) d0))) d6) (c0 (i5 a0t (i4 G_law_take hr (by decide) rfl f6 (c0 (pv 0) (c0 (i5 y6 (i5 o6 d6 (pv 1)) d6) d0))) d6) d0)))))
   (c3 (i9 (i:=4) j4.nd rfl (by first|exact Or.inl rfl|exact Or.inr rfl) (g9 (n9 (K:=K)) (by rfl) T.z_tuple PyProof.Rows.boot_tuple (c0 (i5 a9j (pv 4) (l8 (c0 (i4 G_law_take hr (by decide) rfl f6 (c0 (pv 0) (c0 d6 d0))) (c0 (i4 G_law_take hr (by decide) rfl f6 (c0 (pv 0) (c0 d6 d0))) d0)))) d0)))
   (c3 (a6f (ix:=6) (N:=["some"]) (nt:=1) (fr:=[]) rfl (a1s rfl rfl (by decide +kernel) (by decide +kernel) rfl rfl) (a5p (K:=K) (l8 (c0 (pv 2) (c0 (pv 3) d0)))) (v3 (by decide)) (λ_ _ _ _ _=>f7 (i:=0) (show(["some"]:List Str).Nodup by decide +kernel) rfl (Or.inl rfl) (Or.inr rfl)) (λ_ _ _ _ _=>(g9 (n9 (K:=K)) (by rfl) T.z_tuple PyProof.Rows.boot_tuple (c0 (a0m (N:=["order"]) (nt:=1) (fr:=[]) rfl (a1s rfl rfl (by decide +kernel) (by decide +kernel) rfl rfl) (a5p (K:=K) (pv 0)) (v3 (by decide)) (λ_ _ _ _ _=>f7 (i:=0) (show(["order"]:List Str).Nodup by decide +kernel) rfl (Or.inl rfl) (Or.inr rfl)) (λ_ _ _ _ _=>(g9 (n9 (K:=K)) (by rfl) T.z_tuple PyProof.Rows.boot_tuple (c0 (pv 0) d0)))) d0))) j4.nd rfl rfl)
   (d4 (f8 (v2 (c0 (pv 4) (c0 (i4 G_law_giver hr (by decide) rfl f6 (c0 (pv 0) (c0 (pv 1) (c0 (pv 2) d0)))) (c0 (i4 G_law_taker hr (by decide) rfl f6 (c0 (pv 0) (c0 (pv 1) d0))) (c0 (q5 (j5 (K:=K)) (pv 6) d6 (λ_ _=>rfl)) (c0 (q5 (j5 (K:=K)) (pv 6) d6 (λ_ _=>rfl)) d0)))))))))))))))),?_⟩
  have h60:6000<=sizeLine:=by decide
  fail "";refine⟨wl,7,rfl,hw,by decide,by decide,λr1 H1 a1 b1 w1 c1=>?_⟩
  obtain⟨n,en⟩:∃n:Nat,(2+r1:Int)=n:=⟨(2+r1).toNat,by lia⟩
  have n2:2<=n:=by lia
  have n8:n<=8:=by lia
  fail "";rw[en];fail "";refine⟨wl,6,rfl,w1,by decide,by decide,λr2 H2 a2 b2 w2 c2=>?_⟩
  have B2:=c1.trans c2;clear c1 c2 w1;fail "";have drawn:∀{Hq:Hp}{D:Addr},Well Hq wl->Hq D=none->RB wl n Hq D 0 [] (upd Hq D (.lst [])):=λhw hD=>⟨[],[],rfl,rfl,rfl,λ_ z=>(by cases z),d2,hw.ne hD,a9q hw (hw.ne hD),But.of (d7 hD),λj p o z=>(by simp at z)⟩
  refine a0a (n:=r2.toNat) (by lia) (RB wl n H2) (λD hD=>drawn w2 hD) ?_ ?_ ?_
  ·rintro D i acc H' ⟨ps,os,rfl,hl,_,_,e,_⟩
   exact⟨e,by rw[List.length_map];exact hl⟩
  ·intro D i acc H' hD hi hp
   have w':Well H' wl:=(by obtain⟨_,_,_,_,_,_,_,_,w',_⟩:=hp;exact w')
   fail "";refine⟨wl,n,rfl,w',by lia,by lia,λp H3 row hpn e3 l1 l2 _ w3 b3=>?_⟩
   exact hp.push hD hpn e3 l1 (by lia) w3 b3
  intro oa acc H3 hoa h3;obtain⟨os,rw3,gos,los,w3,b3⟩:=h3.rw;have B3:=B2.trans b3;clear h3 hoa b3 B2 w2;fail "";refine⟨wl,5,rfl,w3,by decide,by decide,λr4 H4 a4 b4 w4 c4=>?_⟩
  have B4:=B3.trans c4;have rw4:=rw3.but c4;clear B3 c4 rw3 w3;fail "";refine a0a (n:=r4.toNat) (by lia) (RB wl n H4) (λD hD=>drawn w4 hD) ?_ ?_ ?_
  ·rintro D i acc H' ⟨ps,os,rfl,hl,_,_,e,_⟩
   exact⟨e,by rw[List.length_map];exact hl⟩
  ·intro D i acc H' hD hi hp
   have w':Well H' wl:=(by obtain⟨_,_,_,_,_,_,_,_,w',_⟩:=hp;exact w')
   fail "";refine⟨wl,n,rfl,w',by lia,by lia,λp H3 row hpn e3 l1 l2 _ w3 b3=>?_⟩
   exact hp.push hD hpn e3 l1 (by lia) w3 b3
  intro ba acc H5 hba h5;obtain⟨bk,bw5,gbk,lbk,w5,b5⟩:=h5.rw;have B5:=B4.trans b5;have rw5:=rw4.but b5;clear h5 hba b5 B4 rw4 w4;fail "";refine⟨Nat.zero_le _,λca hca=>?_⟩;fail "";refine a3p (n:=n) (λi σ H'=>∃ca x5 row,σ=[some (.ref wl),some (.int n),some (.ref oa),some (.ref ba),some (.ref ca),x5,none]/\H5 ca=none/\H' ca=some (.lst ((row:List Int).map V.int))/\ca≠wl/\row.length=4*i/\(∀q,q<i->0<=row.getD (4*q) 0/\row.getD (4*q) 0<=3)/\Well H' wl/\But wl H5 H') ⟨ca,_,[],rfl,hca,d2,w5.ne hca,rfl,λq hq=>absurd hq (by lia),w5.same (d7 hca),But.of (d7 hca)⟩ ?_ ?_
  ·rintro i σ H6 hi ⟨ca,x5,row,rfl,hca,e6,nca,hl,hm,w6,B6⟩
   fail "";refine⟨wl,4,rfl,w6,by decide,by decide,λr7 H7 a7 b7 w7 c7=>?_⟩
   fail "";refine⟨wl,6,rfl,w7,by decide,by decide,λr8 H8 a8 b8 w8 c8=>?_⟩
   fail "";refine⟨wl,9,rfl,w8,by decide,by decide,λr9 H9 a9 b9 w9 c9=>?_⟩
   have c69:=(c7.trans c8).trans c9;fail "";refine⟨by show 3<=sizeLine;decide,λl hlN=>?_⟩
   have sl:=d7 (o:=.lst [.int r7,.int (r8-1),.int r9]) hlN;refine b5k (sl _ _ (c69 _ _ e6 nca)) d2 (by rw[List.length_map];show row.length+3<=sizeLine;lia) λz hz=>?_
   have sz:=d7 (o:=.lst (row.map V.int++[.int r7,.int (r8-1),.int r9])) hz;have wz:=(w9.same sl).same sz;have Bz:=((B6.trans c69).trans (But.of sl)).trans (But.of sz);have hz5:H5 z=none:=a7i (((B6.trans c69).trans (But.of sl))) (w9.same sl) hz;have nz:z≠wl:=(w9.same sl).ne hz;have ez:upd (upd H9 l (.lst [.int r7,.int (r8-1),.int r9])) z (.lst (row.map V.int++[.int r7,.int (r8-1),.int r9])) z=some (.lst (row.map V.int++[.int r7,.int (r8-1),.int r9])):=d2;generalize upd (upd H9 l (.lst [.int r7,.int (r8-1),.int r9])) z (.lst (row.map V.int++[.int r7,.int (r8-1),.int r9]))=Hz at *;fail "";refine⟨wl,rfl,wz,λv H10 _ _ w10 c10=>?_⟩;fail "";refine⟨wl,rfl,w10,λu H11 _ _ w11 c11=>?_⟩;have c:=c10.trans c11;have e11:=c _ _ ez nz;fail "";refine c0f e11 (by rw[List.length_append,List.length_map];show row.length+3<sizeLine;lia) ?_
   fail "";refine⟨z,_,row++[r7,r8-1,r9,v-u],rfl,hz5,?_,nz,by rw[List.length_append];show row.length+4=_;lia,λq hq=>?_,a9q w11 nz,a8l (Bz.trans c) hz5⟩
   ·rw[d2,List.map_append,List.append_assoc];rfl
   ·by_cases y:q<i
    ·rw[b8v (by lia)];exact hm q y
    ·rw[show q=i by lia,show 4*i=4*i+0 from rfl,b7a hl]
     show 0<=r7/\r7<=3;lia
  rintro σ H6 ⟨ca,x5,row,rfl,hca,e6,nca,hl,hm,w6,B6⟩;have rw6:=rw5.but B6;have bw6:=bw5.but B6;have B60:=B5.trans B6;clear rw5 bw5 B6 B5 hca w5;fail "";refine⟨wl,2*(n:Int)+1,rfl,w6,by lia,by lia,λr7 H7 a7 b7 w7 c7=>?_⟩
  fail "";refine⟨wl,2*(n:Int)+1,rfl,w7,by lia,by lia,λr8 H8 a8 b8 w8 c8=>?_⟩
  have c68:=c7.trans c8;fail "";refine⟨by show 2<=sizeLine;decide,λl hlN=>?_⟩
  have sl:=d7 (o:=.lst [.int (r7-1),.int (r8-1)]) hlN;refine b5k (sl _ _ (c68 _ _ e6 nca)) d2 (by rw[List.length_map];show row.length+2<=sizeLine;lia) λz hz=>?_
  have sz:=d7 (o:=.lst (row.map V.int++[.int (r7-1),.int (r8-1)])) hz;have wz:=(w8.same sl).same sz;have c6z:=(c68.trans (But.of sl)).trans (But.of sz);have nz:z≠wl:=(w8.same sl).ne hz;have ez:upd (upd H8 l (.lst [.int (r7-1),.int (r8-1)])) z (.lst (row.map V.int++[.int (r7-1),.int (r8-1)])) z=some (.lst (row.map V.int++[.int (r7-1),.int (r8-1)])):=d2;generalize upd (upd H8 l (.lst [.int (r7-1),.int (r8-1)])) z (.lst (row.map V.int++[.int (r7-1),.int (r8-1)]))=Hz at *;clear sl sz hlN hz c68 c7 c8;fail "";refine⟨wl,2,rfl,wz,by decide,by decide,λr9 H9 a9 b9 w9 c9=>?_⟩
  fail "";refine⟨wl,2,rfl,w9,by decide,by decide,λr10 H10 a10 b10 w10 c10=>?_⟩
  have c90:=c9.trans c10;fail "";refine⟨by show 2<=sizeLine;decide,λl hlN=>?_⟩
  have sl:=d7 (o:=.lst [.int r9,.int r10]) hlN;refine b5k (sl _ _ (c90 _ _ ez nz)) d2 (by rw[List.length_append,List.length_map];show row.length+2+2<=sizeLine;lia) λy hy=>?_
  have sy:=d7 (o:=.lst (row.map V.int++[.int (r7-1),.int (r8-1)]++[.int r9,.int r10])) hy;have wy:=(w10.same sl).same sy;have c6y:=((c6z.trans c90).trans (But.of sl)).trans (But.of sy);have ey:upd (upd H10 l (.lst [.int r9,.int r10])) y (.lst (row.map V.int++[.int (r7-1),.int (r8-1)]++[.int r9,.int r10])) y=some (.lst (row.map V.int++[.int (r7-1),.int (r8-1)]++[.int r9,.int r10])):=d2;generalize upd (upd H10 l (.lst [.int r9,.int r10])) y (.lst (row.map V.int++[.int (r7-1),.int (r8-1)]++[.int r9,.int r10]))=Hy at *;clear sl sy hlN hy c90 c9 c10 c6z ez nz;fail "";intro cp hcp;rw[show row.map V.int++[.int (r7-1),.int (r8-1)]++[.int r9,.int r10]=(row++[r7-1,r8-1,r9,r10]).map V.int by rw[List.map_append,List.append_assoc];rfl]
  have gr:GoodRow n (row++[r7-1,r8-1,r9,r10]):=by
   refine⟨n2,n8,by rw[List.length_append,hl];rfl,λq hq=>?_,λq hq=>?_,λq hq=>?_⟩
   ·rw[b8v (by lia)];exact hm q hq
   ·rw[b7a hl]
    have:q=0\/q=1:=by lia
    rcases this with rfl|rfl
    ·show -1<=r7-1/\r7-1<_;lia
    ·show -1<=r8-1/\r8-1<_;lia
   ·rw[Nat.add_assoc,b7a hl]
    have:q=0\/q=1:=by lia
    rcases this with rfl|rfl
    ·show r9=0\/r9=1;lia
    ·show r10=0\/r10=1;lia
  generalize u11:upd Hy cp _=H11;obtain⟨s11,e11⟩:=nwS u11 hcp;generalize row++[r7-1,r8-1,r9,r10]=row' at *;have w11:=wy.same s11;have ncp:=wy.ne hcp;have B11:=(B60.trans c6y).trans (But.of s11);have rw11:=rw6.but (c6y.trans (But.of s11));have bw11:=bw6.but (c6y.trans (But.of s11));clear rw6 bw6 c6y B60 u11 hcp s11 ey wy e6 nca hm hl;fail "";refine⟨by show 2<=sizeLine;decide,λl hlN=>?_⟩
  generalize u12:upd H11 l _=H12;obtain⟨s12,e12⟩:=nwS u12 hlN;fail "";have rws:∀(i:Nat)(x:V)(os':List (List Int)),([.ref oa,.ref ba]:List V)[i]?=some x->([os,bk]:List (List (List Int)))[i]?=some os'->∃a,x=.ref a/\Rws H12 a os'/\os'.length<=1000:=by
   intro i x os' h1 h2
   match i,h1,h2 with
   | 0,h1,h2=>cases h1;cases h2;exact⟨_,rfl,(rw11.but (But.of s12)).rws,by lia⟩
   | 1,h1,h2=>cases h1;cases h2;exact⟨_,rfl,(bw11.but (But.of s12)).rws,by lia⟩
   | i+2,h1,_=>cases h1
  refine a1g (xs:=[.ref oa,.ref ba]) (by show 2<sizeLine;lia) (BB H12 [os,bk]) (λD hD=>⟨d2,d7 hD,[],rfl,rfl,λj p o h=>by simp at h⟩) ?_ ?_ ?_
  ·rintro D i acc H' ⟨e,s,qs,rfl,hq,_⟩
   exact⟨e,by rw[List.length_map];exact hq,SqL.of (s _ _ e12)⟩
  ·intro D i x acc H' hD hx hp
   have hi:i<2:=(List.getElem?_eq_some_iff.mp hx).1;have ho:([os,bk]:List (List (List Int)))[i]?=some (([os,bk]:List (List (List Int)))[i]'hi):=List.getElem?_eq_getElem hi;generalize ([os,bk]:List (List (List Int)))[i]'hi=os' at *;obtain⟨a,rfl,rr,hz⟩:=rws i x _ hx ho;obtain⟨ps,ea,hl,hr'⟩:=rr.same hp.2.1;fail "";refine a1g (xs:=ps.map V.ref) (by rw[List.length_map];lia) (RQ H' os') (λD hD=>RQ.new hD) ?_ ?_ ?_
   ·rintro D i acc H' ⟨e,s,qs,rfl,hq,_⟩
    exact⟨e,by rw[List.length_map];exact hq,SqL.of (s _ _ ea)⟩
   ·intro D i x acc H' hD hx hp
    rw[List.getElem?_map] at hx;cases hpi:ps[i]? with
    | none=>rw[hpi] at hx;cases hx
    | some q=>
     rw[hpi] at hx;cases hx;have hi:i<os'.length:=by rw[<- hl];exact(List.getElem?_eq_some_iff.mp hpi).1
     have hoi:=List.getElem?_eq_getElem hi;have eq:=hp.2.1 _ _ (hr' i q _ hpi hoi);fail "";exact λp hpn=>hp.push hD hoi hpn
   ·intro D' acc' H'' hD' hp'
    rw[List.length_map,hl] at hp';obtain⟨e,s,qs,rfl,hq,r⟩:=hp';fail "";intro p hpn;exact hp.push hD ho (s.trans (d7 hpn)) ⟨qs,d2,hq,λj q o h1 h2=>d7 hpn _ _ (r j q o h1 h2).2⟩
  intro both acc H13 hbo hp;obtain⟨e13,s13,ps,rfl,hq,r⟩:=hp;obtain⟨p0,p1,rfl⟩:∃p0 p1,ps=[p0,p1]:=by
   match ps,hq with
   | [a,b],_=>exact⟨a,b,rfl⟩
  have t0:=r 0 p0 os rfl rfl;have t1:=r 1 p1 bk rfl rfl;have s12':=s12.trans s13;have w13:=w11.same s12';have nbo:both≠wl:=(w11.same s12).ne hbo;have B13:=B11.trans (But.of s12');have c13:=s12' _ _ e11;have rw13:=rw11.but (But.of s12');clear r hq rws bw11 rw11 B11 w11 e11 s12 e12 u12 hlN hbo s13 s12';fail "";refine⟨wl,oa,n,os,rfl,w13,n2,n8,rw13,gos,by lia,λg yg H14 hg w14 b14 tg gg=>?_⟩
  fail "";refine⟨wl,n,rfl,w14,n2,n8,λt yt H15 ht w15 b15 tt gt=>?_⟩;have b35:=b14.trans b15;have e15:=b35 _ _ e13 nbo;fail "";refine⟨by show 5<=sizeLine;decide,λp hp=>?_⟩
  have sp:=d7 (o:=.tup [.ref cp,.ref g,.ref t,.ref p0,.ref p1]) hp;have B15:=B13.trans b35;refine k p ⟨n,row',yg,yt,os,bk⟩ _ (a7i B15 w15 hp) (w15.same sp) (B15.trans (But.of sp)) ⟨cp,g,t,p0,p1,d2,sp _ _ (b35 _ _ c13 ncp),(tg.but w14 b15).same sp,tt.same sp,(t0.but w13 b35).same sp,(t1.but w13 b35).same sp⟩ ⟨gr,gg,gt,gos,gbk,by show os.length<=1000;lia,by show bk.length<=1000;lia⟩ (by show os.length<=5;lia) (by show bk.length<=5;lia)
theorem a9o{H:Hp}{n:Nat}{p q:Addr}{xs ys:List V}(hp:H p=some (.tup xs))(hq:H q=some (.tup ys))(hl:xs.length=ys.length)(h:∀(j:Nat) (x y:V),xs[j]?=some x->ys[j]?=some y->EqD K H n x y true):EqD K H (n+1) (.ref p) (.ref q) true:=by
 by_cases z:p=q
 ·subst z
  exact EqD.self (SqT.of hp)
 ·have:=EqD.tup (K:=K) (e:=λ_=>true) z (SqT.of hp) (SqT.of hq) h
  rw[hl,show((List.range (min ys.length ys.length)).all (λ_=>true) && ys.length == ys.length)=true by simp] at this
  exact this
theorem c0h{H:Hp}{n:Nat}{x:V}(f:a1f x=true)(e:eqV x x=true):EqD K H n x x true:=by
 have:=EqD.flat (K:=K) (H:=H) (n:=n) f f
 rwa [e] at this
theorem b5l{H:Hp}{n:Nat}(i:Int):EqD K H n (.int i) (.int i) true:=c0h rfl (by show(i == i)=true;simp)
theorem c0i{H:Hp}{n:Nat}(i:Str):EqD K H n (.str i) (.str i) true:=c0h rfl (by show(i == i)=true;simp)
theorem b8k{H:Hp}{n:Nat}(i:Hr):EqD K H n i.v i.v true:=by
 cases i
 ·exact c0h rfl rfl
 ·exact b5l _
theorem b2y{H:Hp}{n:Nat}{p q:Addr}{ns:List Int}(hp:H p=some (.tup (ns.map V.int)))(hq:H q=some (.tup (ns.map V.int))):EqD K H (n+1) (.ref p) (.ref q) true:=a9o hp hq rfl λj x y hx hy=>by
 rw[hx] at hy;cases hy;rw[List.getElem?_map] at hx;cases e:ns[j]? with
 | none=>rw[e] at hx;cases hx
 | some i=>rw[e] at hx;cases hx;exact b5l _
theorem b8z{H:Hp}{n:Nat}{p q:Addr}{os:List (List Int)}(hp:TTs H p os)(hq:TTs H q os):EqD K H (n+2) (.ref p) (.ref q) true:=by
 obtain⟨ps,e,l,r⟩:=hp;obtain⟨qs,e',l',r'⟩:=hq;refine a9o e e' (by rw[List.length_map,List.length_map,l,l']) λj x y hx hy=>?_
 rw[List.getElem?_map] at hx hy;cases ea:ps[j]? with
 | none=>rw[ea] at hx;cases hx
 | some a=>
  cases eb:qs[j]? with
  | none=>rw[eb] at hy;cases hy
  | some b=>
   rw[ea] at hx;rw[eb] at hy;cases hx;cases hy;have hj:j<os.length:=by rw[<- l];exact(List.getElem?_eq_some_iff.mp ea).1
   exact b2y (r j a _ ea (List.getElem?_eq_getElem hj)) (r' j b _ eb (List.getElem?_eq_getElem hj))
theorem b7h{H:Hp}{p q:Addr}{x:Sd}(hp:ST H p x)(hq:ST H q x):EqD K H 3 (.ref p) (.ref q) true:=by
 obtain⟨c,g,t,o,b,e,e1,⟨m,g1,g2⟩,⟨m1,pa,t1,t2,t3⟩,e4,e5⟩:=hp;obtain⟨c',g',t',o',b',e',e1',⟨m',g1',g2'⟩,⟨m1',pa',t1',t2',t3'⟩,e4',e5'⟩:=hq;refine a9o e e' rfl λj x y hx hy=>?_
 match j,hx,hy with
 | 0,hx,hy=>cases hx;cases hy;exact b2y e1 e1'
 | 1,hx,hy=>
  cases hx;cases hy;refine a9o g1 g1' rfl λj x y hx hy=>?_
  match j,hx,hy with
  | 0,hx,hy=>cases hx;cases hy;exact c0i _
  | 1,hx,hy=>cases hx;cases hy;exact b8k _
  | 2,hx,hy=>cases hx;cases hy;exact b2y g2 g2'
  | 3,hx,hy=>cases hx;cases hy;exact b5l _
  | 4,hx,hy=>cases hx;cases hy;exact b5l _
 | 2,hx,hy=>
  cases hx;cases hy;refine a9o t1 t1' rfl λj x y hx hy=>?_
  match j,hx,hy with
  | 0,hx,hy=>cases hx;cases hy;exact c0i _
  | 1,hx,hy=>cases hx;cases hy;exact b8k _
  | 2,hx,hy=>cases hx;cases hy;exact b2y t2 t2'
  | 3,hx,hy=>cases hx;cases hy;exact b8k _
  | 4,hx,hy=>cases hx;cases hy;exact b5l _
  | 5,hx,hy=>cases hx;cases hy;exact b5l _
  | 6,hx,hy=>cases hx;cases hy;exact b2y t3 t3'
 | 3,hx,hy=>cases hx;cases hy;exact b8z e4 e4'
 | 4,hx,hy=>cases hx;cases hy;exact b8z e5 e5'
theorem b9a{H0 H1 H2:Hp}{p q:Addr}{os:List (List Int)}(a:NewRows H0 H1 p os)(b:NewRows H1 H2 q os):EqD K H2 2 (.ref p) (.ref q) true:=by
 obtain⟨_,_,ps,e,l,r⟩:=a;obtain⟨hq,s,qs,e',l',r'⟩:=b;have h:=EqD.lst (K:=K) (n:=1) (e:=λ_=>true) (d9 e hq) (SqL.of (s _ _ e)) (SqL.of e') (by rw[List.length_map,List.length_map,l,l']) (λj x y hx hy=>?_)
 ·rw[show(List.range (ps.map V.ref).length).all (λ_=>true)=true by simp] at h
  exact h
 ·rw[List.getElem?_map] at hx hy
  cases ea:ps[j]? with
  | none=>rw[ea] at hx;cases hx
  | some a=>
   cases eb:qs[j]? with
   | none=>rw[eb] at hy;cases hy
   | some b=>
    rw[ea] at hx;rw[eb] at hy;cases hx;cases hy;have hj:j<os.length:=by rw[<- l];exact(List.getElem?_eq_some_iff.mp ea).1
    have r1:=(r j a _ ea (List.getElem?_eq_getElem hj)).2.2;obtain⟨n2,_,r2⟩:=r' j b _ eb (List.getElem?_eq_getElem hj);exact b1b (d9 r1 n2) (s _ _ r1) r2
theorem b7g{H:Hp}{p q:Addr}{a:Str}{h:Hr}(hp:H p=some (.tup [.str a,h.v]))(hq:H q=some (.tup [.str a,h.v])):EqD K H 2 (.ref p) (.ref q) true:=a9o hp hq rfl λj x y hx hy=>by
 match j,hx,hy with
 | 0,hx,hy=>cases hx;cases hy;exact c0i _
 | 1,hx,hy=>cases hx;cases hy;exact b8k _
theorem a9e{H H1:Hp}{p:Addr}{o:HO}(s:Same H H1)(hp:H p=none):Same H (upd H1 p o):=λx u e=>by
 rw[d3 (d9 e hp)];exact s _ _ e
theorem b5y{a:Addr}{os:List (List Int)}{nt:Nat}{fr:List Nat}{g:TG}{te:TE}{σ:St}{H:Hp}{Q:Addr->Hp->Prop}(t:TTs H a os)(hz:os.length<=1000)(hs:∀(q:Addr) (o:List Int) (H':Hp) (R:VK),H' q=some (.tup (o.map V.int))->(∀p,H' p=none->R (.ref p) (upd H' p (.lst (o.map V.int))))->g (.ref q) (m6 nt fr σ) H' λσ2 H2=>te σ2 H2 R)(k:∀p H',NewRows H H' p os->Q p H'):
  ∀D,H D=none->∃(m:Nat)(W:Nat->List V->Hp->Prop),W 0 [] (upd H D (.lst []))/\∀i acc H',W i acc H'->H' D=some (.lst acc)/\acc.length<sizeLine /\
   (((Itt K a).stop i H'/\Q D H')\/(i<m/\(Itt K a).go i H'/\∀x H2,(Itt K a).yld i H' x H2->g x (m6 nt fr σ) H2 λσ2 H3=>te σ2 H3 λy H4=>H4 D=some (.lst acc)/\W (i+1) (acc++[y]) (upd H4 D (.lst (acc++[y]))))):=by
 have h60:6000<=sizeLine:=by decide
 obtain⟨ps,ea,hl,hr'⟩:=t;refine a8k (xs:=ps.map V.ref) (by rw[List.length_map];lia) (RP H os) (λD hD=>RP.new hD) ?_ ?_ ?_
 ·rintro D i acc H' ⟨e,s,qs,rfl,hq,_⟩
  exact⟨e,by rw[List.length_map];exact hq,SqT.of (s _ _ ea)⟩
 ·intro D i x acc H' hD hx hp
  rw[List.getElem?_map] at hx;cases hpi:ps[i]? with
  | none=>rw[hpi] at hx;cases hx
  | some q=>
   rw[hpi] at hx;cases hx;have hi:i<os.length:=by rw[<- hl];exact(List.getElem?_eq_some_iff.mp hpi).1
   have hoi:=List.getElem?_eq_getElem hi;exact hs q _ H' _ (hp.2.1 _ _ (hr' i q _ hpi hoi)) λp hpn=>hp.push hD hoi hpn
 ·intro D acc H' hD hp
  rw[List.length_map,hl] at hp;exact k _ _ (hp.done hD)
abbrev b0d:Stmt:=top 137
theorem a3x:d8 ["script","k","stand","cells","giver","taker","orders","book","lane","again"] ["script"] (d5 b0d):=↑1
theorem c1q{fa:Addr}{fd:FuncData}(D:Fun K "law" "law" b0d fa fd)(T:Txt K mg cl)(G_law_well:FnT P w K mg base "_law_well" 1 ["script","k"] (a7l K))(G_law_any_stand:FnT P w K mg base "_law_any_stand" 4 ["well"] (a1u cl))(G_lane_at:FnT P w K mg base "lane_at" 9 ["stand"] (a9b cl))(G_stand_of:FnT P w K mg base "stand_of" 6 ["lane"] (a7j cl))(G_Lane_trail:MethT P w K mg base cl.Lane "trail" 1 ["self"] (a5c cl))(G_Board_touches:MethT P w K mg base cl.Board "touches" 1 ["self"] (a1w cl))(G_Lane_cells:MethT P w K mg base cl.Lane "cells" 2 ["self"] (a1j cl))(GO:MethT P w K mg base cl.Lane "orders" 3 ["self"] (a0v cl))(GB:MethT P w K mg base cl.Lane "book" 3 ["self"] (a2k cl))(GF:MethT P w K mg base cl.Taker "first" 1 ["self"] (a3u cl))(GS:MethT P w K mg base cl.Lane "stage" 3 ["self","hand"] (a5d cl))(GT':MethT P w K mg base cl.Lane "turn" 3 ["self","hand"] (a6u cl)):
  FnOk P w K mg base (CXK P w) 10 fa fd ["script"] (b4d K):=by
 refine D.okX a3x (λvs H Q E h=>?_) (λcdv A' outer s H vs Q E hr h=>?_)
 ·obtain⟨a,ns,rfl,_⟩:=h
  rfl
 ·obtain⟨a,ns,rfl,hS,hl,k⟩:=h
  refine⟨_,(c3 (a9g a3l rfl (u0 rfl T.z_range (c0 (j3 (b7m rfl) (by rfl) T.z_max PyProof.Rows.boot_max (c0 d6 (c0 (j3 (b7l rfl) (by rfl) T.z_min PyProof.Rows.boot_min (c0 d6 (c0 (j3 (i6 (K:=K)) (by rfl) T.z_len PySem.boot_len (c0 (pv 0) d0)) d0))) d0))) d0)) (f7 (i:=1) a3x.nd rfl (by first|exact Or.inl rfl|exact Or.inr rfl))
     (
     c3 (i9 (i:=2) a3x.nd rfl (by first|exact Or.inl rfl|exact Or.inr rfl) (i4 G_law_any_stand hr (by decide) rfl f6 (c0 (i4 G_law_well hr (by decide) rfl f6 (c0 (pv 0) (c0 (pv 1) d0))) d0)))
     (c3 (a1z (pv 2) (a1b (K:=K) rfl (f9 (f7 (i:=3) a3x.nd rfl (by first|exact Or.inl rfl|exact Or.inr rfl)) (f9 (f7 (i:=4) a3x.nd rfl (by first|exact Or.inl rfl|exact Or.inr rfl)) (f9 (f7 (i:=5) a3x.nd rfl (by first|exact Or.inl rfl|exact Or.inr rfl)) (f9 (f7 (i:=6) a3x.nd rfl (by first|exact Or.inl rfl|exact Or.inr rfl)) (f9 (f7 (i:=7) a3x.nd rfl (by first|exact Or.inl rfl|exact Or.inr rfl)) a1a)))))))
     (c3 (i9 (i:=8) a3x.nd rfl (by first|exact Or.inl rfl|exact Or.inr rfl) (i4 G_lane_at hr (by decide) rfl f6 (c0 (pv 2) d0)))
     (c3 (m5 (PW.pt (a5n (g6 (a5q (K:=K) (n:=2) (huN hr 3)) (i4 G_stand_of hr (by decide) rfl f6 (c0 (pv 8) d0)) (pv 2) (g7 _)) (a5n (g6 (a5q (K:=K) (n:=0) (huN hr 1)) (a9h (pv 8) T.k_Lane G_Lane_trail hr (by decide) f6) (@l8 _ _ _ _ d0) (g7 _)) (a1e (g6 b2b (a9h (g0 (K:=K) (pv 8)) T.k_Board G_Board_touches hr (by decide) f6) d6 (g7 _))))))
       (d4 (f8 a6h))
       i8)
     (c3 (m5 (PW.pt (a5n (g6 (a5q (K:=K) (n:=0) (huN hr 1)) (a9h (pv 8) T.k_Lane G_Lane_cells hr (by decide) f6) (g9 (m4 (K:=K)) (by rfl) T.z_list PyProof.Rows.boot_list (c0 (pv 3) d0)) (g7 _)) (a1e (g6 (a5q (K:=K) (n:=1) (huN hr 2)) (m3 (k:=3) (pv 8) hr (by decide) f6) (a0m (N:=["order"]) (nt:=1) (fr:=[]) rfl (a1s rfl rfl (by decide +kernel) (by decide +kernel) rfl rfl) (b0h (K:=K) (pv 6)) (v3 (by decide)) (λ_ _ _ _ _=>f7 (i:=0) (show(["order"]:List Str).Nodup by decide +kernel) rfl (Or.inl rfl) (Or.inr rfl)) (λ_ _ _ _ _=>(g9 (m4 (K:=K)) (by rfl) T.z_list PyProof.Rows.boot_list (c0 (pv 0) d0)))) (g7 _)))))
       (d4 (f8 a6h))
       i8)
     (c3 (m5 (PW.pt (a5n (g6 (a5q (K:=K) (n:=1) (huN hr 2)) (m3 (k:=3) (pv 8) hr (by decide) f6) (a0m (N:=["order"]) (nt:=1) (fr:=[]) rfl (a1s rfl rfl (by decide +kernel) (by decide +kernel) rfl rfl) (b0h (K:=K) (pv 7)) (v3 (by decide)) (λ_ _ _ _ _=>f7 (i:=0) (show(["order"]:List Str).Nodup by decide +kernel) rfl (Or.inl rfl) (Or.inr rfl)) (λ_ _ _ _ _=>(g9 (m4 (K:=K)) (by rfl) T.z_list PyProof.Rows.boot_list (c0 (pv 0) d0)))) (g7 _)) (a1e (g6 b2b (m3 (k:=1) (g0 (K:=K) (pv 8)) hr (by decide) f6) (q5 (a8g (K:=K)) (pv 5) d6 (λ_ _=>rfl)) (g7 _)))))
       (d4 (f8 a6h))
       i8)
     (c3 (m5 (g6 (a5q (K:=K) (n:=1) (huN hr 2)) (v2 (c0 (a6z (k:=3) (pv 8) hr (by decide) f6 (c0 i3 d0)) (c0 (a6z (k:=3) (pv 8) hr (by decide) f6 (c0 i3 d0)) d0))) (b4g (b5u (K:=K)) (pv 4) b6h (b6g d6)) (g7 _))
       (d4 (f8 a6h))
       i8)
     (c3 (m5 (g6 (a5q (K:=K) (n:=1) (huN hr 2)) (v2 (c0 (a6z (k:=3) (pv 8) hr (by decide) f6 (c0 i3 d0)) (c0 (a6z (k:=3) (pv 8) hr (by decide) f6 (c0 i3 d0)) d0))) (b4g (b5u (K:=K)) (pv 5) b6h (b6g d6)) (g7 _))
       (d4 (f8 a6h))
       i8)
     (c3 (i9 (i:=9) a3x.nd rfl (by first|exact Or.inl rfl|exact Or.inr rfl) (i4 G_lane_at hr (by decide) rfl f6 (c0 (i4 G_stand_of hr (by decide) rfl f6 (c0 (pv 8) d0)) d0)))
     (c3 (j8 (b1y (K:=K) (a9h (pv 8) T.k_Lane G_Lane_cells hr (by decide) f6)))
     (c3 (j8 (b1y (K:=K) (m3 (k:=3) (pv 8) hr (by decide) f6)))
     (d4 (m5 (PW.pt (a5n (g6 (a5q (K:=K) (n:=2) (huN hr 3)) (i4 G_stand_of hr (by decide) rfl f6 (c0 (pv 9) d0)) (pv 2) (g7 _)) (a1e (g6 (a5q (K:=K) (n:=2) (huN hr 3)) (i4 G_stand_of hr (by decide) rfl f6 (c0 (pv 8) d0)) (pv 2) (g7 _)))))
      (d4 (f8 a6h))
      i8))))))))))))))
   (d4 (f8 a6h))),?_⟩
  have h60:6000<=sizeLine:=by decide
  have hlen:(ns.map V.int).length=ns.length:=List.length_map _;fail "";refine⟨a,_,rfl,.inl hS,?_⟩;fail "";rw[hlen];refine⟨_,_,rfl,?_⟩;fail "";refine⟨_,_,rfl,?_⟩;fail "";refine a3p (λi σ H'=>∃x1 x2 x3 x4 x5 x6 x7 x8 x9,σ=[some (.ref a),x1,x2,x3,x4,x5,x6,x7,x8,x9]/\Same H H') ⟨_,_,_,_,_,_,_,_,_,rfl,Same.refl H⟩ ?_ ?_
  ·rintro i σ H1 hi ⟨x1,x2,x3,x4,x5,x6,x7,x8,x9,rfl,s1⟩
   have hi:i<16:=by
    have:(if (if (ns.length:Int)<16 then (ns.length:Int) else 16) > 1 then (if (ns.length:Int)<16 then (ns.length:Int) else 16) else 1).toNat<=16:=by split <;> (try split) <;> lia
    lia
   fail "";refine⟨a,ns,i,by rw[Int.zero_add],s1.seq hS,by lia,λwl H2 nw s2 w2=>?_⟩
   fail "";refine⟨wl,rfl,w2,λsd x H3 nsd w3 b3 st gs _ _=>?_⟩;have s3:Same H H3:=λy o e=>b3 _ _ (s2 _ _ (s1 _ _ e)) (d9 (s1 _ _ e) nw);clear b3 s2 s1 w2 nw nsd;obtain⟨c,g,t,o,b,ea,ec,eg,et,eo,eb⟩:=id st;fail "";refine b2u ea rfl ?_;fail "";refine⟨sd,x,rfl,st,gs,λla H4 hla s4 lq=>?_⟩;obtain⟨dx,bd,l,kt,gv,tk,ela,hB,ekt,gq,tq⟩:=id lq;fail "";refine⟨la,x,rfl,lq,gs,λp5 H5 hp5 s5 st5=>?_⟩;fail "";refine b1a (b:=true) (b7h st5 (st.same (s4.trans s5))) ?_;have ela5:=s5 _ _ ela;fail "";refine⟨la,x,rfl,lq.same s5,λp6 hp6=>?_⟩;generalize u6:upd H5 p6 _=H6;obtain⟨s6,e6⟩:=nwS u6 hp6;fail "";refine⟨Nat.zero_le _,λp7 hp7=>?_⟩;generalize u7:upd H6 p7 _=H7;obtain⟨s7,e7⟩:=nwS u7 hp7;refine b1a (b:=true) (b1b (ns:=[]) (d9 e6 hp7) (s7 _ _ e6) e7) ?_;have s47:=(s5.trans s6).trans s7;have ela7:=s47 _ _ ela;obtain⟨dxb,eb7⟩:=(hB.same s47).1;have hB7:=hB.same s47;clear u6 u7 e6 e7 hp6 hp7 s5 s6 s7 st5 hp5 ela5;fail "";refine ExB.mk bd l x.n x.c 0 .non ⟨rfl,hB7,?_⟩;fail "";rw[decide_eq_true rfl];fail "";refine⟨la,x,rfl,lq.same s47,λp8 hp8=>?_⟩;generalize u8:upd H7 p8 _=H8;obtain⟨s8,e8⟩:=nwS u8 hp8;have ec8:=s8 _ _ (s47 _ _ (s4 _ _ ec));fail "";intro p9 hp9;generalize u9:upd H8 p9 _=H9;obtain⟨s9,e9⟩:=nwS u9 hp9;refine b1a (b:=true) (b1b (d9 e8 hp9) (s9 _ _ e8) e9) ?_;have s49:=(s47.trans s8).trans s9;have ela9:=s49 _ _ ela;clear u8 u9 e8 e9 hp8 hp9 s8 s9 ec8 s47 ela7 eb7 hB7;fail "";refine v5 ?_;fail "";refine⟨la,cl.Lane,dx,_,_,_,rfl,ela9,rfl,T.k_Lane,GO,?_⟩;refine⟨la,x,rfl,lq.same s49,gs.lo,λp10 H10 r10=>?_⟩;have s410:=s49.trans r10.2.1;have eo10:=(eo.same s4).same s410;fail "";obtain⟨ps10,eps10,_⟩:=id eo10;refine b4l (SqT.of eps10) ?_;refine b5y eo10 gs.lo (λq o H' R e r=>by fail "";exact r) λp11 H11 r11=>?_
   refine b1a (b:=true) (b9a r10 r11) ?_;have s411:=s410.trans r11.2.1;have ela11:=s411 _ _ ela;clear eps10 eo10 r10 r11 s410 s49 ela9;fail "";refine v5 ?_;fail "";refine⟨la,cl.Lane,dx,_,_,_,rfl,ela11,rfl,T.k_Lane,GB,?_⟩;refine⟨la,x,rfl,lq.same s411,gs.lb,λp12 H12 r12=>?_⟩;have s412:=s411.trans r12.2.1;have eb12:=(eb.same s4).same s412;fail "";obtain⟨ps12,eps12,_⟩:=id eb12;refine b4l (SqT.of eps12) ?_;refine b5y eb12 gs.lb (λq o H' R e r=>by fail "";exact r) λp13 H13 r13=>?_
   refine b1a (b:=true) (b9a r12 r13) ?_;have s413:=s412.trans r13.2.1;have ela13:=s413 _ _ ela;have tq13:=tq.same s413;obtain⟨dxt,Dt,mrt,pat,et13,_⟩:=id tq13;have tt13:=(et.same s4).same s413;obtain⟨tm,tp,ett,_⟩:=id tt13;clear eps12 eb12 r12 r13 s412 s411 ela11;fail "";refine v5 ?_;fail "";refine⟨tk,cl.Taker,dxt,_,_,_,rfl,et13,rfl,T.k_Taker,GF,?_⟩;refine⟨tk,bd,kt,x.t,x.bk,rfl,tq13,?_⟩;fail "";refine c5f (by cases x.t.nf <;> rfl) ?_
   rw[decide_eq_true rfl];have lq13:=lq.same s413;have gt13:=(eg.same s4).same s413;obtain⟨gm,egt,_⟩:=id gt13;fail "";refine v5 ?_;fail "";refine⟨la,cl.Lane,dx,_,_,_,rfl,ela13,rfl,T.k_Lane,GS,?_⟩;refine⟨la,x,"giver",rfl,lq13,.inl ⟨rfl,?_⟩⟩;fail "";refine v5 ?_;fail "";refine⟨la,cl.Lane,dx,_,_,_,rfl,ela13,rfl,T.k_Lane,GT',?_⟩;refine⟨la,x,"giver",rfl,lq13,.inl ⟨rfl,?_⟩⟩;fail "";refine⟨by show 2<=sizeLine;decide,λp14 hp14=>?_⟩
   generalize u14:upd H13 p14 _=H14;obtain⟨s14,e14⟩:=nwS u14 hp14;fail "";refine c5e ?_;fail "";refine b4n ?_;refine b8y ?_;refine⟨2,rfl,g,_,rfl,SqT.of (s14 _ _ egt),λh=>absurd (show HT.sIx 5 5 (some 2)=5 from h.2) (by decide),λp15 hp15=>?_⟩
   rw[show c0p [.str x.g.st,x.g.he.v,.ref gm,.int x.g.od,.int x.g.pt] none (some 2)=[.str x.g.st,x.g.he.v] from rfl];generalize u15:upd H14 p15 _=H15;obtain⟨s15,e15⟩:=nwS u15 hp15;refine b1a (b:=true) (b7g (s15 _ _ e14) e15) ?_;have s415:=(s413.trans s14).trans s15;have lq15:=lq.same s415;have ela15:=s415 _ _ ela;have ett15:=s15 _ _ (s14 _ _ ett);clear u14 u15 s14 s15 e14 e15 hp14 hp15 lq13 ela13 gt13 egt tt13 ett et13 tq13;fail "";refine v5 ?_;fail "";refine⟨la,cl.Lane,dx,_,_,_,rfl,ela15,rfl,T.k_Lane,GS,?_⟩;refine⟨la,x,"taker",rfl,lq15,.inr ⟨rfl,?_⟩⟩;fail "";refine v5 ?_;fail "";refine⟨la,cl.Lane,dx,_,_,_,rfl,ela15,rfl,T.k_Lane,GT',?_⟩;refine⟨la,x,"taker",rfl,lq15,.inr ⟨rfl,?_⟩⟩;fail "";refine⟨by show 2<=sizeLine;decide,λp16 hp16=>?_⟩
   generalize u16:upd H15 p16 _=H16;obtain⟨s16,e16⟩:=nwS u16 hp16;fail "";refine c5e ?_;fail "";refine b4n ?_;refine b8y ?_;refine⟨2,rfl,t,_,rfl,SqT.of (s16 _ _ ett15),λh=>absurd (show HT.sIx 7 7 (some 2)=7 from h.2) (by decide),λp17 hp17=>?_⟩
   rw[show c0p [.str x.t.st,x.t.he.v,.ref tm,x.t.nf.v,.int x.t.nu,.int x.t.le,.ref tp] none (some 2)=[.str x.t.st,x.t.he.v] from rfl];generalize u17:upd H16 p17 _=H17;obtain⟨s17,e17⟩:=nwS u17 hp17;refine b1a (b:=true) (b7g (s17 _ _ e16) e17) ?_;have s417:=(s415.trans s16).trans s17;have lq17:=lq.same s417;clear u16 u17 s16 s17 e16 e17 hp16 hp17 lq15 ela15 ett15;fail "";refine⟨la,x,rfl,lq17,gs,λp18 H18 hp18 s18 st18=>?_⟩;fail "";refine⟨p18,x,rfl,st18,gs,λla2 H19 hla2 s19 lqA=>?_⟩;have s419:=(s417.trans s18).trans s19;have lq19:=lq.same s419;have ela19:=s419 _ _ ela;clear lq17 s18 s19 hp18 st18 hla2;fail "";refine⟨la,x,rfl,lq19,λp20 hp20=>?_⟩;generalize u20:upd H19 p20 _=H20;obtain⟨s20,e20⟩:=nwS u20 hp20;fail "";generalize u21:upd H20 p20 _=H21;have s21:Same H19 H21:=u21 ▸ a9e s20 hp20;have ela21:=s21 _ _ ela19;have lq21:=lq19.same s21;have lqB:=lqA.same s21;have s421:=s419.trans s21;clear u20 u21 s20 e20 hp20 s21 lq19 ela19 lqA;fail "";refine v5 ?_;fail "";refine⟨la,cl.Lane,dx,_,_,_,rfl,ela21,rfl,T.k_Lane,GO,?_⟩;refine⟨la,x,rfl,lq21,gs.lo,λp22 H22 r22=>?_⟩;obtain⟨hp22,s22,ps22,e22,_⟩:=r22;fail "";generalize u23:upd H22 p22 _=H23;have s23:Same H21 H23:=u23 ▸ a9e s22 hp22;have lq23:=lq21.same s23;have lqC:=lqB.same s23;have s423:=s421.trans s23;clear u23 s22 e22 hp22 s23 lq21 ela21 lqB;fail "";refine⟨la2,x,rfl,lqC,gs,λp24 H24 hp24 s24 st24=>?_⟩;have s424:=s423.trans s24;fail "";refine b1a (b:=true) (b7h st24 ((st.same s4).same s424)) ?_;fail "";refine⟨la,x,rfl,lq23.same s24,gs,λp25 H25 hp25 s25 st25=>?_⟩;have s425:=s424.trans s25;fail "";refine b1a (b:=true) (b7h st25 ((st.same s4).same s425)) ?_;fail "";exact⟨_,_,_,_,_,_,_,_,_,rfl,(s3.trans s4).trans s425⟩
  ·rintro σ H1 ⟨x1,x2,x3,x4,x5,x6,x7,x8,x9,rfl,s1⟩
   fail "";exact k _
end
section
variable{P:Program}{w:World}{base:Heap}{K:Frag}{mg:Str->Option Value}
theorem MethT.lift{C:Addr}{m:Str}{j k:Nat}{qs:List Str}{sp:Sp}(M:MethT P w K mg base C m j qs sp)(h:j<=k):MethT P w K mg base C m k qs sp:=by
 obtain⟨f,fd,F,hm,hb⟩:=M.ex;exact⟨f,fd,F.mono h,hm,hb⟩
inductive AtF(K:Frag)(f:Addr)(x q:Str)(st:Stmt):Prop
 | of {oc:Value} {od:Option Addr} {kV dc pm cd ct:Value} {an:Option Addr} {sl:Array (Option Value)} (l:K.lookup f=some ⟨oc,od,.func (PySem.W.fnOf x q (v4 st) (o4 st) (d5 st) .none kV dc pm an cd ct),sl⟩) (c:codeIn K cd q=true) (k:keepIn K (.ref f)=true):AtF K f x q st
abbrev BA(x q:Str)(st:Stmt)(ps:List Str):Prop:=∀(kV doc pm:Value)(an:Option Addr)(cdv ct:Value)(us:List Value),us.length=ps.length->bindArgs (PySem.W.fnOf x q (v4 st) (o4 st) (d5 st) .none kV doc pm an cdv ct) ⟨us,[]⟩=pure (ps.zip us)
theorem ba0{β:Type}{F G:List Value->β}(h:F []=G [])(us:List Value)(e:us.length=0):F us=G us:=by
 cases us with
 | nil=>exact h
 | cons=>cases e
theorem ba1{β:Type}{F G:List Value->β}(h:∀a,F [a]=G [a])(us:List Value)(e:us.length=1):F us=G us:=by
 cases us with
 | nil=>cases e
 | cons a t=>exact ba0 (F:=λt=>F (a::t)) (G:=λt=>G (a::t)) (h a) t (Nat.succ.inj e)
theorem ba2{β:Type}{F G:List Value->β}(h:∀a b,F [a,b]=G [a,b])(us:List Value)(e:us.length=2):F us=G us:=by
 cases us with
 | nil=>cases e
 | cons a t=>exact ba1 (F:=λt=>F (a::t)) (G:=λt=>G (a::t)) (h a) t (Nat.succ.inj e)
theorem ba3{β:Type}{F G:List Value->β}(h:∀a b c,F [a,b,c]=G [a,b,c])(us:List Value)(e:us.length=3):F us=G us:=by
 cases us with
 | nil=>cases e
 | cons a t=>exact ba2 (F:=λt=>F (a::t)) (G:=λt=>G (a::t)) (h a) t (Nat.succ.inj e)
theorem ba4{β:Type}{F G:List Value->β}(h:∀a b c d,F [a,b,c,d]=G [a,b,c,d])(us:List Value)(e:us.length=4):F us=G us:=by
 cases us with
 | nil=>cases e
 | cons a t=>exact ba3 (F:=λt=>F (a::t)) (G:=λt=>G (a::t)) (h a) t (Nat.succ.inj e)
theorem ba5{β:Type}{F G:List Value->β}(h:∀a b c d e,F [a,b,c,d,e]=G [a,b,c,d,e])(us:List Value)(e:us.length=5):F us=G us:=by
 cases us with
 | nil=>cases e
 | cons a t=>exact ba4 (F:=λt=>F (a::t)) (G:=λt=>G (a::t)) (h a) t (Nat.succ.inj e)
theorem AtF.t{h:Heap}{x:Str}{st:Stmt}{ps:List Str}{f:Addr}(X:K.In h)(G:h.Ns mainGlobals mg)(a:nsIn K mainGlobals x=some (some (.ref f)))(l:AtF K f x x st)(hb:BA x x st ps):DefT K mg x st ps :=
 by cases l with|of l c k=>exact .mk' X G a l c k hb
theorem AtF.m{C:Addr}{m q:Str}{st:Stmt}{ps:List Str}{f:Addr}(a:findIn K (.ref C) m=some (some (.ref f)))(i:isFn K (.ref f)=true)(l:AtF K f m q st)(hb:BA m q st ps):DefM K C m q st ps :=
 by cases l with|of l c k=>exact .mk' a i l c k hb
theorem AtF.k{f:Addr}{x q:Str}{st:Stmt}(l:AtF K f x q st):keepIn K (.ref f)=true:=by cases l with|of l c k=>exact k
inductive AtG(K:Frag)(x:Str)(st:Stmt):Prop
 | mk {f:Addr} (d:nsIn K mainGlobals x=some (some (.ref f))) (l:AtF K f x x st):AtG K x st
theorem AtG.of{x:Str}{st:Stmt}{f:Addr}{oc:Value}{od:Option Addr}{kV dc pm cd ct:Value}{an:Option Addr}{sl:Array (Option Value)}(d:nsIn K mainGlobals x=some (some (.ref f)))(l:K.lookup f=some ⟨oc,od,.func (PySem.W.fnOf x x (v4 st) (o4 st) (d5 st) .none kV dc pm an cd ct),sl⟩)(c:codeIn K cd x=true)(k:keepIn K (.ref f)=true):AtG K x st:=⟨d,.of l c k⟩
theorem AtG.t{h:Heap}{x:Str}{st:Stmt}{ps:List Str}(l:AtG K x st)(X:K.In h)(G:h.Ns mainGlobals mg)(hb:BA x x st ps):DefT K mg x st ps:=by cases l with|mk d l=>exact AtF.t X G d l hb
inductive AtM(K:Frag)(C:Addr)(m q:Str)(st:Stmt):Prop
 | mk {f:Addr} (d:findIn K (.ref C) m=some (some (.ref f))) (i:isFn K (.ref f)=true) (l:AtF K f m q st):AtM K C m q st
theorem AtM.of{C:Addr}{m q:Str}{st:Stmt}{f:Addr}{oc:Value}{od:Option Addr}{kV dc pm cd ct:Value}{an:Option Addr}{sl:Array (Option Value)}(d:findIn K (.ref C) m=some (some (.ref f)))(i:isFn K (.ref f)=true)(l:K.lookup f=some ⟨oc,od,.func (PySem.W.fnOf m q (v4 st) (o4 st) (d5 st) .none kV dc pm an cd ct),sl⟩)(c:codeIn K cd q=true)(k:keepIn K (.ref f)=true):AtM K C m q st:=⟨d,i,.of l c k⟩
theorem AtM.m{C:Addr}{m q:Str}{st:Stmt}{ps:List Str}(l:AtM K C m q st)(hb:BA m q st ps):DefM K C m q st ps:=by cases l with|mk d i l=>exact AtF.m d i l hb
end
end
open PySem L2
theorem all_mk{l:PySem.W.OpenLaw}{w:World}{K:Frag}{h:Heap}{mg:Str->Option Value}{fa:Addr}{aE aC ae ad aa ab ac:Addr}{dX:Tok}{cZ:Tok}{eh:Tok}{gE:Tok}{cx:Tok}{dA:Tok}{hg:Tok}{bq:Tok}{cs:Tok}{dK:Tok}{dY:Tok}{ay:Addr}{dQ:Nat}{fj:Array (Option Value)}{cz fk:Tok}{aq:Addr}{fI:Nat}{eS:Array (Option Value)}{bY gT bN gx:Tok}{aA:Addr}{fY:Nat}{bl:Array (Option Value)}{ht dj cG hn gL fv:Tok}{ak:Addr}{dp:Nat}{cy:Array (Option Value)}{ds fB bt:Tok}{am:Addr}{db:Nat}{eI:Array (Option Value)}{cY di gV gn gt bZ fC bF go ft ed dL cK et gz dR dC eL:Tok}{aB:Addr}{eQ:Nat}{eE:Array (Option Value)}{dP fn dG cF ex gg fZ gS gN dT bU eq gb fs hm br:Tok}{aS aI aF aj ah ag af au:Addr}{ga bb aP aL aw aU:Value}{em aG:Option Addr}{fH:Array (Option Value)}(hr:AtG K "check_size" a2r)(fW:AtG K "check_turn" a2q)(eU:AtG K "distance" a6e)(cr:AtG K "check_hand" a2s)(gF:AtG K "mark_cell" a4h)(hi:AtG K "card_cell" a4l)(cn:AtG K "bell_cell" a4m)(dd:AtG K "new_cells" a4f)(fi:AtG K "marks_among" a1n)(bJ:AtG K "size_of_cells" a0f)(gs:AtG K "check_numbers" a0i)(he:AtG K "order_of" a6b)(du:AtG K "orders_of" a4e)(cX:AtG K "orders_told" a1m)(eH:AtG K "frozen" b0e)(fR:AtG K "stand_of" a6a)(df:AtG K "size_of_stand" a0e)(fm:AtG K "turn_fits" a4b)(bz:AtG K "marks_fit" a4g)(eg:AtG K "part_fits" a4d)(dH:AtG K "giver_fits" a2p)(cC:AtG K "reading_fits" a0w)(fP:AtG K "parts_fit" a4c)(cJ:AtG K "taker_fits" a2o)(eb:AtG K "check_stand" a1o)(dZ:AtG K "lane_standing" a0h)(ea:AtG K "lane_at" a7u)(fU:AtG K "_law_well" a6c)(fF:AtG K "_law_take" a6d)(cw:AtG K "_law_order" a4j)(hf:AtG K "_law_far" a7t)(hb:AtG K "_law_giver" a4k)(gf:AtG K "_law_taker" a4i)(ek:AtG K "_law_any_stand" a0g)(gr:AtM K ae "__init__" "Board.__init__" a3b)(dI:AtM K ae "fill" "Board.fill" a3c)(cW:AtM K ae "all_cells" "Board.all_cells" y0)(eY:AtM K ae "touches" "Board.touches" a0k)(dJ:AtM K aa "__init__" "Giver.__init__" a3a)(cj:AtM K aa "orders" "Giver.orders" a0z)(dU:AtM K aa "begins_order" "Giver.begins_order" o7)(cM:AtM K aa "next_order" "Giver.next_order" t7)(gO:AtM K aa "next_part" "Giver.next_part" x0)(eV:AtM K aa "has_part" "Giver.has_part" z0)(cA:AtM K aa "order_and_part" "Giver.order_and_part" o3)(fS:AtM K aa "mind" "Giver.mind" a2z)(hd:AtM K aa "recall" "Giver.recall" a0y)(cu:AtM K ab "__init__" "Taker.__init__" a2u)(gK:AtM K ab "book" "Taker.book" a2v)(eF:AtM K ab "first" "Taker.first" a1p)(gZ:AtM K ab "mind" "Taker.mind" a2t)(fe:AtM K ab "recall" "Taker.recall" a0x)(fq:AtM K ac "__init__" "Lane.__init__" a4o)(bj:AtM K ac "place_giver" "Lane.place_giver" t5)(bp:AtM K ac "place_taker" "Lane.place_taker" s0)(fg:AtM K ac "hand_named" "Lane.hand_named" v9)(bA:AtM K ac "stage" "Lane.stage" a2x)(dD:AtM K ac "turn" "Lane.turn" a4n)(cE:AtM K ac "book" "Lane.book" a4p)(eX:AtM K ac "orders" "Lane.orders" a1q)(cP:AtM K ac "trail" "Lane.trail" a2w)(cq:AtM K ac "cells" "Lane.cells" a2y)(X:K.In h)(G:h.Ns mainGlobals mg)(hfa:mg "law" = some (.ref fa))(dN:nsIn K mainGlobals "BadCells" = some (some (.ref aE)))(ci:nsIn K mainGlobals "BadOrder" = some (some (.ref aC)))(ca:nsIn K mainGlobals "Board" = some (some (.ref ae)))(fc:nsIn K mainGlobals "Hand" = some (some (.ref ad)))(gB:nsIn K mainGlobals "Giver" = some (some (.ref aa)))(cS:nsIn K mainGlobals "Taker" = some (some (.ref ab)))(bO:nsIn K mainGlobals "Lane" = some (some (.ref ac)))(bK:nsIn K mainGlobals "LEAST_SIZE" = some (some (.int (2) dX)))(gW:nsIn K mainGlobals "MOST_SIZE" = some (some (.int (8) cZ)))(gv:nsIn K mainGlobals "FREE" = some (some (.int (0) eh)))(fT:nsIn K mainGlobals "FULL" = some (some (.int (1) gE)))(cQ:nsIn K mainGlobals "MOST_MARK" = some (some (.int (3) cx)))(eW:nsIn K mainGlobals "CELLS_OF_A_PLACE" = some (some (.int (4) dA)))(ho:nsIn K mainGlobals "NEW_MARK" = some (some (.int (2) hg)))(eP:nsIn K mainGlobals "NO_ORDER" = some (some (.int (-1) bq)))(dx:nsIn K mainGlobals "NO_TURN" = some (some (.int (-1) cs)))(eD:nsIn K mainGlobals "STILL" = some (some (.int (0) dK)))(fD:nsIn K mainGlobals "RUNG" = some (some (.int (1) dY)))(hh:nsIn K mainGlobals "HANDS" = some (some (.ref ay)))(bw:K.lookup ay=some ⟨.type "tuple",none,.seq #[.str "giver" cz,.str "taker" fk] dQ,fj⟩)(gY:nsIn K mainGlobals "COMING_UP" = some (some (.ref aq)))(ch:K.lookup aq=some ⟨.type "tuple",none,.seq #[.str "rouse" bY,.str "clear" gT,.str "mute" bN,.str "marks" gx] fI,eS⟩)(hj:nsIn K mainGlobals "WAITING" = some (some (.ref aA)))(gl:K.lookup aA=some ⟨.type "tuple",none,.seq #[.str "look" ht,.str "wish" dj,.str "again" cG,.str "sleep" hn,.str "hush" gL,.str "unwish" fv] fY,bl⟩)(bB:nsIn K mainGlobals "FREEING" = some (some (.ref ak)))(bR:K.lookup ak=some ⟨.type "tuple",none,.seq #[.str "free" ds,.str "card" fB,.str "ring" bt] dp,cy⟩)(cg:nsIn K mainGlobals "GIVER_STAGES" = some (some (.ref am)))(bn:K.lookup am=some ⟨.type "tuple",none,.seq #[.str "rouse" cY,.str "clear" di,.str "mute" gV,.str "marks" gn,.str "told" gt,.str "lacks" bZ,.str "look" fC,.str "wish" bF,.str "again" go,.str "sleep" ft,.str "hush" ed,.str "unwish" dL,.str "number" cK,.str "left" et,.str "thing" gz,.str "mark" dR,.str "card" dC,.str "ring" eL] db,eI⟩)(en:nsIn K mainGlobals "TAKER_STAGES" = some (some (.ref aB)))(hs:K.lookup aB=some ⟨.type "tuple",none,.seq #[.str "rouse" dP,.str "clear" fn,.str "mute" dG,.str "marks" cF,.str "look" ex,.str "wish" gg,.str "again" fZ,.str "sleep" gS,.str "hush" gN,.str "unwish" dT,.str "number" bU,.str "left" eq,.str "thing" gb,.str "free" fs,.str "card" hm,.str "ring" br] eQ,eE⟩)(eu:nsIn K mainGlobals "DEEDS_hand" = some (some (.ref aS)))(eK:nsIn K mainGlobals "DEEDS_giver" = some (some (.ref aI)))(bL:nsIn K mainGlobals "DEEDS_taker" = some (some (.ref aF)))(ep:plainGet K ae Str.empty=true)(eA:hasDictIn K ae=true)(hu:plainOver K ae=true)(fA:findIn K (.ref ae) "__setattr__" = some (some (.builtin "object.__setattr__")))(gG:makesIn K ae=true)(bh:keepIn K (.ref ae)=true)(cR:findIn K (.ref ae) "many_touches" = some none)(gP:findIn K (.ref ae) "newest_touch" = some none)(fz:findIn K (.ref ae) "numbers" = some none)(gq:findIn K (.ref ae) "size" = some none)(cv:plainGet K ad Str.empty=true)(cd:hasDictIn K ad=true)(gy:plainOver K ad=true)(fy:findIn K (.ref ad) "__setattr__" = some (some (.builtin "object.__setattr__")))(hy:makesIn K ad=true)(hv:keepIn K (.ref ad)=true)(el:findIn K (.ref ad) "board" = some none)(gH:findIn K (.ref ad) "here" = some none)(gU:findIn K (.ref ad) "marks_read" = some none)(fw:findIn K (.ref ad) "name" = some none)(er:findIn K (.ref ad) "other" = some none)(gd:findIn K (.ref ad) "stage_behind_marks" = some none)(dv:findIn K (.ref ad) "stage_now" = some none)(gp:findIn K (.ref ad) "touched" = some none)(fu:plainGet K aa Str.empty=true)(cL:hasDictIn K aa=true)(ei:plainOver K aa=true)(dO:findIn K (.ref aa) "__setattr__" = some (some (.builtin "object.__setattr__")))(gi:makesIn K aa=true)(co:keepIn K (.ref aa)=true)(cm:findIn K (.ref aa) "board" = some none)(eG:findIn K (.ref aa) "here" = some none)(dy:findIn K (.ref aa) "kept" = some none)(gM:findIn K (.ref aa) "left" = some none)(fX:findIn K (.ref aa) "marks_read" = some none)(bS:findIn K (.ref aa) "name" = some none)(gC:findIn K (.ref aa) "number" = some none)(gR:findIn K (.ref aa) "other" = some none)(cV:findIn K (.ref aa) "stage_behind_marks" = some none)(gu:findIn K (.ref aa) "stage_now" = some none)(ff:findIn K (.ref aa) "touched" = some none)(fr:plainGet K ab Str.empty=true)(fp:hasDictIn K ab=true)(eR:plainOver K ab=true)(dn:findIn K (.ref ab) "__setattr__" = some (some (.builtin "object.__setattr__")))(bC:makesIn K ab=true)(fN:keepIn K (.ref ab)=true)(cB:findIn K (.ref ab) "board" = some none)(cD:findIn K (.ref ab) "here" = some none)(cc:findIn K (.ref ab) "left" = some none)(dF:findIn K (.ref ab) "marks_read" = some none)(dq:findIn K (.ref ab) "name" = some none)(ce:findIn K (.ref ab) "not_freed" = some none)(dh:findIn K (.ref ab) "number" = some none)(eB:findIn K (.ref ab) "other" = some none)(bk:findIn K (.ref ab) "parts" = some none)(gw:findIn K (.ref ab) "stage_behind_marks" = some none)(bG:findIn K (.ref ab) "stage_now" = some none)(cU:findIn K (.ref ab) "taken" = some none)(gk:findIn K (.ref ab) "touched" = some none)(de:plainGet K ac Str.empty=true)(fO:hasDictIn K ac=true)(hq:plainOver K ac=true)(fo:findIn K (.ref ac) "__setattr__" = some (some (.builtin "object.__setattr__")))(eC:makesIn K ac=true)(gh:keepIn K (.ref ac)=true)(cf:findIn K (.ref ac) "board" = some none)(gX:findIn K (.ref ac) "giver" = some none)(eZ:findIn K (.ref ac) "kept_trail" = some none)(bi:findIn K (.ref ac) "taker" = some none)(gJ:findIn K (.ref ac) "touched" = some none)(aH:findIn K (.ref ad) "__init__" = some (some (.ref aj)))(ez:isFn K (.ref aj)=true)(aZ:AtF K aj "__init__" "Hand.__init__" a4q)(dm:findIn K (.ref ad) "stage" = some (some (.ref ah)))(al:isFn K (.ref ah)=true)(ax:AtF K ah "stage" "Hand.stage" y4)(gI:findIn K (.ref ad) "turn" = some (some (.ref ag)))(ao:isFn K (.ref ag)=true)(an:AtF K ag "turn" "Hand.turn" a0j)(dg:findIn K (.ref ad) "recall_start" = some (some (.ref af)))(ap:isFn K (.ref af)=true)(av:AtF K af "recall_start" "Hand.recall_start" k7)(ev:nsIn K mainGlobals "len" = some none)(bs:nsIn K mainGlobals "range" = some none)(fM:nsIn K mainGlobals "max" = some none)(gQ:nsIn K mainGlobals "min" = some none)(hc:nsIn K mainGlobals "isinstance" = some none)(gj:nsIn K mainGlobals "int" = some none)(dE:nsIn K mainGlobals "bool" = some none)(fV:nsIn K mainGlobals "list" = some none)(dz:nsIn K mainGlobals "all" = some none)(bT:nsIn K mainGlobals "tuple" = some none)(dW:nsIn K mainGlobals "law" = some (some (.ref au)))(bW:K.lookup au=some ⟨ga,em,.func (PySem.W.fnOf "law" "law" (v4 b0d) (o4 b0d) (d5 b0d) .none bb aP aL aG aw aU),fH⟩)(bD:codeIn K aw "law" = true)(fL:keepIn K (.ref au)=true)(da:findIn K (.ref aa) "stage" = some (some (.ref ah)))(dl:findIn K (.ref ab) "stage" = some (some (.ref ah)))(cH:findIn K (.ref aa) "turn" = some (some (.ref ag)))(ct:findIn K (.ref ab) "turn" = some (some (.ref ag)))(bP:findIn K (.ref aa) "recall_start" = some (some (.ref af)))(bH:findIn K (.ref ab) "recall_start" = some (some (.ref af)))(bu:specialIn K (.ref ad) "__getattribute__" = some (some (.builtin "type.__getattribute__")))(bV:PySem.W.readsIn K ad (.type "type")=true)(ha:PySem.W.findCls K (.ref ad) (.type "type") "__init__" = some (.val (.ref aj))):
  ∃fd:FuncData,(∀(s:Shared)(v:Value),BindsTo s fd ⟨[v],[]⟩ [("script",v)])/\∀base:Heap,K.In base->base.Ns mainGlobals mg->FnOk l.prog w K mg base (CXK l.prog w) 10 fa fd ["script"] (b4d K):=by
 let cl:Cl:=⟨aE,aC,ae,ad,aa,ab,ac,ay,aq,aA,ak,am,aB,aS,aI,aF⟩
 have e:=hfa.symm.trans (mg_of X G dW);cases e;have T:Txt K mg cl:=⟨⟨mg_of X G dN⟩,
  ⟨mg_of X G ci⟩,
  ⟨mg_of X G ca⟩,
  ⟨mg_of X G fc⟩,
  ⟨mg_of X G gB⟩,
  ⟨mg_of X G cS⟩,
  ⟨mg_of X G bO⟩,
  ⟨_,mg_of X G bK⟩,
  ⟨_,mg_of X G gW⟩,
  ⟨_,mg_of X G gv⟩,
  ⟨_,mg_of X G fT⟩,
  ⟨_,mg_of X G cQ⟩,
  ⟨_,mg_of X G eW⟩,
  ⟨_,mg_of X G ho⟩,
  ⟨_,mg_of X G eP⟩,
  ⟨_,mg_of X G dx⟩,
  ⟨_,mg_of X G eD⟩,
  ⟨_,mg_of X G fD⟩,
  mg_of X G hh,
  ⟨_,_,_,bw,(show 2<=sizeLine by decide),.cons ⟨_,rfl⟩ (.cons ⟨_,rfl⟩ (.nil))⟩,
  mg_of X G gY,
  ⟨_,_,_,ch,(show 4<=sizeLine by decide),.cons ⟨_,rfl⟩ (.cons ⟨_,rfl⟩ (.cons ⟨_,rfl⟩ (.cons ⟨_,rfl⟩ (.nil))))⟩,
  mg_of X G hj,
  ⟨_,_,_,gl,(show 6<=sizeLine by decide),.cons ⟨_,rfl⟩ (.cons ⟨_,rfl⟩ (.cons ⟨_,rfl⟩ (.cons ⟨_,rfl⟩ (.cons ⟨_,rfl⟩ (.cons ⟨_,rfl⟩ (.nil))))))⟩,
  mg_of X G bB,
  ⟨_,_,_,bR,(show 3<=sizeLine by decide),.cons ⟨_,rfl⟩ (.cons ⟨_,rfl⟩ (.cons ⟨_,rfl⟩ (.nil)))⟩,
  mg_of X G cg,
  ⟨_,_,_,bn,(show 18<=sizeLine by decide),.cons ⟨_,rfl⟩ (.cons ⟨_,rfl⟩ (.cons ⟨_,rfl⟩ (.cons ⟨_,rfl⟩ (.cons ⟨_,rfl⟩ (.cons ⟨_,rfl⟩ (.cons ⟨_,rfl⟩ (.cons ⟨_,rfl⟩ (.cons ⟨_,rfl⟩ (.cons ⟨_,rfl⟩ (.cons ⟨_,rfl⟩ (.cons ⟨_,rfl⟩ (.cons ⟨_,rfl⟩ (.cons ⟨_,rfl⟩ (.cons ⟨_,rfl⟩ (.cons ⟨_,rfl⟩ (.cons ⟨_,rfl⟩ (.cons ⟨_,rfl⟩ (.nil))))))))))))))))))⟩,
  mg_of X G en,
  ⟨_,_,_,hs,(show 16<=sizeLine by decide),.cons ⟨_,rfl⟩ (.cons ⟨_,rfl⟩ (.cons ⟨_,rfl⟩ (.cons ⟨_,rfl⟩ (.cons ⟨_,rfl⟩ (.cons ⟨_,rfl⟩ (.cons ⟨_,rfl⟩ (.cons ⟨_,rfl⟩ (.cons ⟨_,rfl⟩ (.cons ⟨_,rfl⟩ (.cons ⟨_,rfl⟩ (.cons ⟨_,rfl⟩ (.cons ⟨_,rfl⟩ (.cons ⟨_,rfl⟩ (.cons ⟨_,rfl⟩ (.cons ⟨_,rfl⟩ (.nil))))))))))))))))⟩,
  ⟨ep,eA,hu,fA⟩,
  cR,
  gP,
  fz,
  gq,
  ⟨cv,cd,gy,fy⟩,
  el,
  gH,
  gU,
  fw,
  er,
  gd,
  dv,
  gp,
  ⟨fu,cL,ei,dO⟩,
  cm,
  eG,
  dy,
  gM,
  fX,
  bS,
  gC,
  gR,
  cV,
  gu,
  ff,
  ⟨fr,fp,eR,dn⟩,
  cB,
  cD,
  cc,
  dF,
  dq,
  ce,
  dh,
  eB,
  bk,
  gw,
  bG,
  cU,
  gk,
  ⟨de,fO,hq,fo⟩,
  cf,
  gX,
  eZ,
  bi,
  gJ,
  mg_of X G eu,
  mg_of X G eK,
  mg_of X G bL,
  mg_none_of X G ev,
  mg_none_of X G bs,
  mg_none_of X G fM,
  mg_none_of X G gQ,
  mg_none_of X G hc,
  mg_none_of X G gj,
  mg_none_of X G dE,
  mg_none_of X G fV,
  mg_none_of X G dz,
  mg_none_of X G bT⟩
 have hz:DefM K cl.Hand "stage" "Hand.stage" y4 ["self"]:=AtF.m dm al ax λ_ _ _ _ _ _=>ba1 λ_=>rfl;have hw:DefM K cl.Hand "turn" "Hand.turn" a0j ["self"]:=AtF.m gI ao an λ_ _ _ _ _ _=>ba1 λ_=>rfl;have hx:DefM K cl.Hand "recall_start" "Hand.recall_start" k7 ["self","stage","turn","marks"]:=AtF.m dg ap av λ_ _ _ _ _ _=>ba4 λ_ _ _ _=>rfl;have bX:=b7d (st:=b0d) bW bD fL;refine⟨PySem.W.fnOf "law" "law" (v4 b0d) (o4 b0d) (d5 b0d) .none bb aP aL aG aw aU,λs v=>.of_eq rfl,λbase _ _=>?_⟩;have az:=(b0l (hr.t X G λ_ _ _ _ _ _=>ba1 λ_=>rfl) T:FnT l.prog w K mg base _ _ _ _);have dS:=b0k (fW.t X G λ_ _ _ _ _ _=>ba2 λ_ _=>rfl) T az;have fl:=b3s (eU.t X G λ_ _ _ _ _ _=>ba3 λ_ _ _=>rfl) T dS;have ai:=(b3r (fF.t X G λ_ _ _ _ _ _=>ba2 λ_ _=>rfl) T:FnT l.prog w K mg base _ _ _ _);have dB:=(b3q (fU.t X G λ_ _ _ _ _ _=>ba2 λ_ _=>rfl) T:FnT l.prog w K mg base _ _ _ _);have aO:=(b0m (cr.t X G λ_ _ _ _ _ _=>ba1 λ_=>rfl) T:FnT l.prog w K mg base _ _ _ _);have eO:=(b2i (gF.t X G λ_ _ _ _ _ _=>ba1 λ_=>rfl) T:FnT l.prog w K mg base _ _ _ _);have bf:=b2m (hi.t X G λ_ _ _ _ _ _=>ba2 λ_ _=>rfl) T az aO;have fh:=b2n (cn.t X G λ_ _ _ _ _ _=>ba2 λ_ _=>rfl) T bf;have aR:=(b2g (dd.t X G λ_ _ _ _ _ _=>ba1 λ_=>rfl) T:FnT l.prog w K mg base _ _ _ _);have gm:=b2k (cw.t X G λ_ _ _ _ _ _=>ba2 λ_ _=>rfl) T ai;have ej:=b0x (gr.m (ps:=["self","size"]) λ_ _ _ _ _ _=>ba2 λ_ _=>rfl) T az aR;have eT:=ej.make gG bh T.c_Board.m;have bx:=(a5v (cW.m (ps:=["self"]) λ_ _ _ _ _ _=>ba1 λ_=>rfl) T:MethT l.prog w K mg base _ _ _ _ _);have gD:=(a7h (eY.m (ps:=["self"]) λ_ _ _ _ _ _=>ba1 λ_=>rfl) T:MethT l.prog w K mg base _ _ _ _ _);have ec:=a8u (fi.t X G λ_ _ _ _ _ _=>ba1 λ_=>rfl) T eO;have eo:=a7g (gs.t X G λ_ _ _ _ _ _=>ba2 λ_ _=>rfl) T ec bf fh;have aJ:=a7d (bJ.t X G λ_ _ _ _ _ _=>ba1 λ_=>rfl) T aR eo;have aD:=(b2c (fm.t X G λ_ _ _ _ _ _=>ba3 λ_ _ _=>rfl) T:FnT l.prog w K mg base _ _ _ _);have be:=(b2h (bz.t X G λ_ _ _ _ _ _=>ba3 λ_ _ _=>rfl) T:FnT l.prog w K mg base _ _ _ _);have ee:=(b2e (eg.t X G λ_ _ _ _ _ _=>ba4 λ_ _ _ _=>rfl) T:FnT l.prog w K mg base _ _ _ _);have bI:=b0j (dH.t X G λ_ _ _ _ _ _=>ba3 λ_ _ _=>rfl) T aD be ee;have hl:=(a7y (cC.t X G λ_ _ _ _ _ _=>ba3 λ_ _ _=>rfl) T:FnT l.prog w K mg base _ _ _ _);have dr:=b2d (fP.t X G λ_ _ _ _ _ _=>ba5 λ_ _ _ _ _=>rfl) T fl;have fG:=b0i (cJ.t X G λ_ _ _ _ _ _=>ba2 λ_ _=>rfl) T aD be hl dr;have fb:=(b3p (he.t X G λ_ _ _ _ _ _=>ba2 λ_ _=>rfl) T:FnT l.prog w K mg base _ _ _ _);have ar:=b2f (du.t X G λ_ _ _ _ _ _=>ba2 λ_ _=>rfl) T fb;have aM:=(a8t (cX.t X G λ_ _ _ _ _ _=>ba1 λ_=>rfl) T:FnT l.prog w K mg base _ _ _ _);have cb:=(b6q (eH.t X G λ_ _ _ _ _ _=>ba1 λ_=>rfl) T:FnT l.prog w K mg base _ _ _ _);have hk:=a7c (df.t X G λ_ _ _ _ _ _=>ba3 λ_ _ _=>rfl) T aJ ar;have fE:=a8v (eb.t X G λ_ _ _ _ _ _=>ba1 λ_=>rfl) T hk bI fG;have bE:=(b2r (AtF.m aH ez aZ λ_ _ _ _ _ _=>ba5 λ_ _ _ _ _=>rfl) T:MethT l.prog w K mg base _ _ _ _ _);have aV:=(MethT.toBase bE aH ⟨bu,⟨.type "type",bV,ha⟩,aZ.k⟩ T.c_Hand.m:b7s l.prog w K mg base "Hand" "__init__" 1 ["self","board","name","other","stage_behind_marks"] (a0r cl));have dV:=b0w (dJ.m (ps:=["self","board","orders"]) λ_ _ _ _ _ _=>ba3 λ_ _ _=>rfl) T ar aV;have cN:=dV.make gi co T.c_Giver.m;have cI:=b0p (cu.m (ps:=["self","board","book"]) λ_ _ _ _ _ _=>ba3 λ_ _ _=>rfl) T ar aV;have bo:=cI.make bC fN T.c_Taker.m;have aQ:=a4s (bj.m (ps:=["self","orders"]) λ_ _ _ _ _ _=>ba2 λ_ _=>rfl) T cN;have aN:=a4r (bp.m (ps:=["self","book"]) λ_ _ _ _ _ _=>ba2 λ_ _=>rfl) T bo;have fJ:=b2p (fq.m (ps:=["self","size"]) λ_ _ _ _ _ _=>ba2 λ_ _=>rfl) T eT aQ aN;have bv:=fJ.make eC gh T.c_Lane.m;have bQ:=(b0y (dI.m (ps:=["self","cells"]) λ_ _ _ _ _ _=>ba2 λ_ _=>rfl) T:MethT l.prog w K mg base _ _ _ _ _);have dk:=(a3g (AtF.m bP ap av (λ_ _ _ _ _ _=>ba4 λ_ _ _ _=>rfl)) T:MethT l.prog w K mg base _ _ _ _ _);have fx:=(a3f (AtF.m bH ap av (λ_ _ _ _ _ _=>ba4 λ_ _ _ _=>rfl)) T:MethT l.prog w K mg base _ _ _ _ _);have bM:=a8a (hd.m (ps:=["self","mind"]) λ_ _ _ _ _ _=>ba2 λ_ _=>rfl) T dk;have cp:=a7z (fe.m (ps:=["self","mind"]) λ_ _ _ _ _ _=>ba2 λ_ _=>rfl) T fx;have ef:=a7f (dZ.t X G λ_ _ _ _ _ _=>ba1 λ_=>rfl) T aJ bv bQ aQ aN bM cp;have gc:=b5d (ea.t X G λ_ _ _ _ _ _=>ba1 λ_=>rfl) T fE ef;have bg:=(a3h (dU.m (ps:=["self"]) λ_ _ _ _ _ _=>ba1 λ_=>rfl) T:MethT l.prog w K mg base _ _ _ _ _);have bc:=a4t (cM.m (ps:=["self"]) λ_ _ _ _ _ _=>ba1 λ_=>rfl) T bg;have aY:=a5u (gO.m (ps:=["self"]) λ_ _ _ _ _ _=>ba1 λ_=>rfl) T bg;have es:=a6i (eV.m (ps:=["self"]) λ_ _ _ _ _ _=>ba1 λ_=>rfl) T bc aY;have cO:=a1r (cA.m (ps:=["self"]) λ_ _ _ _ _ _=>ba1 λ_=>rfl) T es bc aY;have eM:=b0v (fS.m (ps:=["self"]) λ_ _ _ _ _ _=>ba1 λ_=>rfl) T cO;have eJ:=(b0o (gZ.m (ps:=["self"]) λ_ _ _ _ _ _=>ba1 λ_=>rfl) T:MethT l.prog w K mg base _ _ _ _ _);have ey:=a8b (cj.m (ps:=["self"]) λ_ _ _ _ _ _=>ba1 λ_=>rfl) T aM;have ck:=b0q (gK.m (ps:=["self"]) λ_ _ _ _ _ _=>ba1 λ_=>rfl) T aM;have fQ:=(a8x (eF.m (ps:=["self"]) λ_ _ _ _ _ _=>ba1 λ_=>rfl) T:MethT l.prog w K mg base _ _ _ _ _);have cT:=(a8z (AtF.m da al ax (λ_ _ _ _ _ _=>ba1 λ_=>rfl)) T:MethT l.prog w K mg base _ _ _ _ _);have fK:=(a8w (AtF.m dl al ax (λ_ _ _ _ _ _=>ba1 λ_=>rfl)) T:MethT l.prog w K mg base _ _ _ _ _);have gA:=(b0u (AtF.m cH ao an (λ_ _ _ _ _ _=>ba1 λ_=>rfl)) T:MethT l.prog w K mg base _ _ _ _ _);have ew:=(b0n (AtF.m ct ao an (λ_ _ _ _ _ _=>ba1 λ_=>rfl)) T:MethT l.prog w K mg base _ _ _ _ _);have bd:=b0t (cq.m (ps:=["self"]) λ_ _ _ _ _ _=>ba1 λ_=>rfl) T bx;have aT:=a8y (eX.m (ps:=["self"]) λ_ _ _ _ _ _=>ba1 λ_=>rfl) T ey;have aK:=b2q (cE.m (ps:=["self"]) λ_ _ _ _ _ _=>ba1 λ_=>rfl) T ck;have ge:=(b0r (cP.m (ps:=["self"]) λ_ _ _ _ _ _=>ba1 λ_=>rfl) T:MethT l.prog w K mg base _ _ _ _ _);have aX:=a5t (fg.m (ps:=["self","hand"]) λ_ _ _ _ _ _=>ba2 λ_ _=>rfl) T aO;have dt:=b0s (bA.m (ps:=["self","hand"]) λ_ _ _ _ _ _=>ba2 λ_ _=>rfl) T aX cT fK;have dc:=b2o (dD.m (ps:=["self","hand"]) λ_ _ _ _ _ _=>ba2 λ_ _=>rfl) T aX gA ew;have eN:=b3o (fR.t X G λ_ _ _ _ _ _=>ba1 λ_=>rfl) T bd eM (MethT.lift eJ (by decide)) cb aT aK
 have aW:=b5c (hf.t X G λ_ _ _ _ _ _=>ba1 λ_=>rfl) T ai;have dM:=b2l (hb.t X G λ_ _ _ _ _ _=>ba3 λ_ _ _=>rfl) T ai;have hp:=b2j (gf.t X G λ_ _ _ _ _ _=>ba2 λ_ _=>rfl) T ai aW;have dw:=a7e (ek.t X G λ_ _ _ _ _ _=>ba1 λ_=>rfl) T ai aW gm dM hp;have bm:=c1q bX T dB dw gc eN ge gD bd aT aK fQ dt dc;exact bm
theorem walk{l:PySem.W.OpenLaw}{q:Program}{loose:List Str}{XP:(Str->Option Value)->Heap->Prop}{YP:World->Heap->Prop}{d:DefRec}{K:Params->Frag}(hn:l.most=some 63)(hdf:d.params.defaults=[])(hY:∀(w:World) (h:Heap),YP w h->(K w.params).In h)(F:∀(w:World) (mg:Str->Option Value) (fa:Addr) (h:Heap),(K w.params).In h->h.Ns mainGlobals mg->mg d.name=some (.ref fa) ->
   ∃fd:FuncData,(∀(s:Shared) (u:Value),BindsTo s fd ⟨[u],[]⟩ [("script",u)])/\∀base:Heap,(K w.params).In base->base.Ns mainGlobals mg->FnOk l.prog w (K w.params) mg base (CXK l.prog w) 10 fa fd ["script"] (b4d (K w.params))):
  PySem.W.WalkO q loose XP YP l.row.toRowW d [] (λf vs=>PySem.call f vs) :=
 L2.walk_of (n:=63) (k:=10) (x:="script") (CX:=λw=>CXK l.prog w) (sp:=λw=>b4d (K w.params)) hn (by decide) hdf ⟨rfl,by decide,by decide⟩ hY F (λ_ _ a ns hl _ hS=>⟨a,ns,rfl,hS,hl,λ_=>rfl⟩)
  λ_ _ _ _ _ z=>by obtain⟨_,_,_,_,_,q⟩:=z;exact q
end S
open PySem PySem.W PyProof.Rows
set_option maxRecDepth 100000
set_option maxHeartbeats 0
theorem PySem.Challenge.cw_slipring_k35_whole_any_stand_holds : PySem.Challenge.rw_slipring_k35_whole_any_stand.Holds := by
 refine hd ?_
 k_fill
 refine S.walk (l := PySem.Challenge.rw_slipring_k35_whole_any_stand) rfl rfl (fun w h Y => PySem.W.kIn_of Y) ?F
 case F =>
  intro w mg fa h KX G hmg
  apply S.all_mk (X := KX) (G := G) (hfa := hmg)
  all_goals try (first | k_is | kit_is | kts_exm | kernel_rfl)
  all_goals first | (refine' S.AtG.of ?d ?a ?b ?c; (case d => k_is); (case a => k_is); (case b => k_is); (case c => k_is)) | (refine' S.AtM.of ?d ?i ?a ?b ?c; (case d => k_is); (case i => k_is); (case a => k_is); (case b => k_is); (case c => k_is)) | (refine' S.AtF.of ?a ?b ?c; (case a => k_is); (case b => k_is); (case c => k_is)) | skip
