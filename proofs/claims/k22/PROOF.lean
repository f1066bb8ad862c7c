import PyProof.Rows.All
import OpenK.KLine
import Lean
import PyProof.EqAt
import PyProof.EqKinds
import PyProof.TupleCall
import PyProof.NsDelKeeps
import PyProof.NeKinds
import PyProof.CompFree
import KE.LcSums
import PyProof.CompUse
import PyProof.Rows.RuleIs
import PyProof.Rows.RuleIs2
import PyProof.ZipIter
import PyProof.CompMap
import PyProof.DictKinds
import PyProof.DictRoads
import PyProof.AutoRange
import PyProof.FactsAll.range_1
import KE.KTryMore
import KE.KDictOf
import KE.KDictList
import KE.KFromBytes
import KE.KIsAll
import KE.KItem
import KE.KxBytes
import KE.RegKIsAll
import KE.RegKTryMore
import PySem.Challenge.RW_slipring_k22_hall_refusals
set_option Elab.async false
set_option linter.all false
set_option maxRecDepth 100000
set_option maxHeartbeats 4000000
section
open PySem PySem.W PyProof.Rows
set_option maxRecDepth 100000
set_option maxHeartbeats 0
theorem hk2{K:Params->Frag}{as:List Addr}(n:Nat)(e:∀P,as=(K P).map (·.1))(w:World)(s:Shared)(x:((as.take n).map s.heap.get?,(as.drop n).map s.heap.get?)=(((K w.params).take n).map (λp=>some p.2),((K w.params).drop n).map λp=>some p.2)):InK K w s.heap:=InK.of e w s (by simpa only[<-List.map_append,List.take_append_drop] using congr (congrArg (·++·) (Prod.mk.inj x).1) (Prod.mk.inj x).2)
set_option hygiene false in
local macro_rules|`(tactic| refine $hd ($n1 := $v1) ($n2 := $v2) ($n3 := $v3) ($n4 := $v4) ($n5 := $_ ($_ $k $a $e)) ($n6 := $_) ($n7 := $v7) ($n8 := $v8) $x1 $_ $x3 $x4 $x5 $x6 $x7 $x8 $x9 $x10 $x11 $x12 $x13 $x14 $x15)=>`(tactic| refine $hd ($n1 := $v1) ($n2 := $v2) ($n3 := $v3) ($n4 := $v4) ($n5 := fun s=>(List.map s.heap.get? (List.take 400 $a),List.map s.heap.get? (List.drop 400 $a))) ($n6 := fun w=>(List.map (fun p=>some p.2) (List.take 400 ($k w.params)),List.map (fun p=>some p.2) (List.drop 400 ($k w.params)))) ($n7 := $v7) ($n8 := $v8) $x1 (hk2 400 $e) $x3 $x4 $x5 $x6 $x7 $x8 $x9 $x10 $x11 $x12 $x13 $x14 $x15)
namespace PySem.W.Fast
def tw1008583309902317529:=()
def tw10118262284458037933:=()
def tw10368827614151553891:=()
def tw10374632558016547081:=()
def tw10600413367226739535:=()
def tw10601011917281729628:=()
def tw10627929193734500438:=()
def tw11081916062258291835:=()
def tw11185208467959745375:=()
def tw11334784238850759136:=()
def tw11589282660436910429:=()
def tw12144705630303161386:=()
def tw12145756527313086355:=()
def tw12405761042648551022:=()
def tw12574203639920124107:=()
def tw1269250454335253504:=()
def tw12731152576971404446:=()
def tw13265978090383273239:=()
def tw14024141229114651172:=()
def tw14051263720797694866:=()
def tw14565471765716263578:=()
def tw14800370929953404514:=()
def tw14848642603632901190:=()
def tw14880458613382867492:=()
def tw15018716904364860632:=()
def tw15279809834360698895:=()
def tw15486796199529018258:=()
def tw15500368018277343480:=()
def tw16050583679354009896:=()
def tw16506471722634982818:=()
def tw16742421909675142032:=()
def tw17451581249640050385:=()
def tw17525747476496701481:=()
def tw17689344090056996911:=()
def tw18118143537671585889:=()
def tw2034817482908223496:=()
def tw2379446126060486062:=()
def tw243476719192100926:=()
def tw2575207979326191193:=()
def tw2875624504187281209:=()
def tw2895464141788373703:=()
def tw3013385521029609502:=()
def tw3501407184847187612:=()
def tw3507769193172341495:=()
def tw3666917790444637378:=()
def tw3945831679567021610:=()
def tw4038046598495731775:=()
def tw4479898949262515696:=()
def tw4580019852769339753:=()
def tw4831390119030491460:=()
def tw4843829748527759242:=()
def tw4984954101795155761:=()
def tw5018097792558739227:=()
def tw5416208439484045201:=()
def tw6408665033692976793:=()
def tw6430397310068524805:=()
def tw6594970650091316094:=()
def tw6605169337270321112:=()
def tw6621635546502472408:=()
def tw7478123994339007903:=()
def tw7762505559424497051:=()
def tw7774113678449685934:=()
def tw8129399028645417746:=()
def tw824714225494340748:=()
def tw8282588126930224528:=()
def tw861502493610598483:=()
def tw8854275682344465072:=()
def tw8997383693586321770:=()
def tw9023412946914863120:=()
def tw9052937418870083693:=()
def tw9363214764283991203:=()
def tw9385439782273163706:=()
def tw938635154573522699:=()
def tw9872438946963307937:=()
def tw9994473156164517541:=()
def tw10214499234810299942:=()
def tw8285600894249078527:=()
def tw13255938527306859382:=()
def tw13468011388731342839:=()
def tw1442379640649564109:=()
def tw2983494736656345032:=()
def tw7151132215420815488:=()
def tw15475723433398761304:=()
def tw14801369171006070438:=()
def tw10958628066121416707:=()
def tw6631347999910079877:=()
def tw5010956058597451964:=()
def tw256182404569192445:=()
def tw3110587219445414310:=()
def tw7485256538410118956:=()
def tw1467881925912835984:=()
def tw16248296213531012650:=()
def tw14201609532424774689:=()
def tw5004237944150599380:=()
def tw14370502638603547748:=()
def tw5228077777576800296:=()
def tw4896215545541015061:=()
def tw11353268068134783573:=()
def tw5459702643516471331:=()
def tw18224062797491409168:=()
def tw3512428149003415425:=()
def tw14958820412457663293:=()
def tw11775309618099378426:=()
def tw15685335758407661847:=()
def tw12598634822720690771:=()
def tw15227483606004533461:=()
def tw16822532161544500889:=()
def tw8200933086455070860:=()
def tw15978794797337165890:=()
def tw6128106870883400570:=()
def tw7766106395892283477:=()
def tw15401437161963490237:=()
def tw16902085369446701243:=()
def tw6915737295544688043:=()
def tw17518593693041627797:=()
def tw15138174406397646402:=()
def tw14260533273033392520:=()
def tw5342471268416680606:=()
def tw18335596039185421423:=()
def tw7422445781565681216:=()
def tw2759284407945088205:=()
def tw1630143524128594353:=()
def tw7164969610272591079:=()
def tw12360917755211006479:=()
def tw6058616519681280931:=()
def tw9619071485814978506:=()
def tw2527701527901579348:=()
def tw12884060626414724322:=()
def tw15373518955771109456:=()
def tw7873748247521183178:=()
def tw17658959251048325594:=()
def tw10481595219057158497:=()
def tw12901003280762261817:=()
def tw12330612334027959195:=()
def tw11215392098479208961:=()
def tw16859961878692490766:=()
def tw12773500944031208451:=()
def tw3394231194617021968:=()
def tw16140922888777852060:=()
def tw5086489192560080304:=()
def tw994754419278398160:=()
def tw5489724910278218894:=()
def tw3538781236444307513:=()
def tw5289818103960998278:=()
def tw15214748959534726111:=()
def tw11326833031881921752:=()
def tw1860734739432930892:=()
def tw9113380124883318265:=()
def tw16116027297012810434:=()
def tw8297923619242306668:=()
def tw17155049476370652306:=()
def tw11566098044289413073:=()
def tw10312438410070409164:=()
def tw14785633479632635281:=()
def tw8834805137890396735:=()
def tw3801850119919557013:=()
def tw16873086082458093902:=()
def tw13710940844802916613:=()
def tw7837367980739423823:=()
def tw1534296983418709675:=()
def tw6327569006664949090:=()
def tw5816495043963226922:=()
def tw10406584006884427733:=()
def tw5404398260228975080:=()
def tw4490611911172417597:=()
def tw16493865465440409018:=()
def tw14869962595670455896:=()
def tw16060203290454839817:=()
def tw15090471055790725799:=()
def tw3328118118096588273:=()
def tw14811890972901180937:=()
def tw14594842627406614536:=()
def tw2172276787581067923:=()
def tw12325864989022198202:=()
def tw12020253756985099128:=()
def tw7725179484283634976:=()
def tw13996866031312336078:=()
def tw14143020097148135716:=()
def tw17963105932079019327:=()
def tw14173793092197918974:=()
def tw12058884036946728934:=()
def tw13813618637161013713:=()
def tw2167315655227761912:=()
def tw2392593158011319353:=()
def tw12715800853834201459:=()
def tw8909772338491405060:=()
def tw724461010609807574:=()
def tw10741264400317747893:=()
def tw4884199854448574:=()
def tw8171798328758944481:=()
def tw18293242582946804979:=()
def tw4607425872040536859:=()
def tw6702445572142316249:=()
def tw8293125293789966914:=()
def tw11662115353561507501:=()
def tw12798174099139212305:=()
def tw10295913840692754127:=()
def tw7770478706760583155:=()
def tw1474264761786122189:=()
def tw12542895121996172375:=()
def tw13394580363473044415:=()
def tw16003985067176294414:=()
def tw17680797132471856694:=()
def tw18384110700954362821:=()
def tw13141587033338554882:=()
def tw9969077435446430640:=()
def tw3303267245142563540:=()
def tw8498532028676091811:=()
def tw8185220541750880888:=()
def tw14569604634059749682:=()
def tw13343918040275786880:=()
def tw3099597729799864441:=()
def tw16654469307462801742:=()
def tw8232614014015475128:=()
def tw1813447740672882537:=()
def tw1937721966566455358:=()
def tw2894314189432023629:=()
def tw3233987462203235646:=()
def tw17691633702590694504:=()
def tw14201004317487731011:=()
def tw866652123128751154:=()
def tw6651725471809605288:=()
def tw15117199230931547845:=()
def tw5263133172445716209:=()
def tw1293241653719404408:=()
def tw18407495941553956032:=()
def tw14560624547652848805:=()
def tw6942634455013318504:=()
def tw15142666989864626641:=()
def tw7828442866392281868:=()
def tw14782954611325821827:=()
def tw13818634655328599666:=()
def tw11180800956215176064:=()
def tw11793702604926673555:=()
def tw17577329170770402720:=()
def tw5274481202262711730:=()
def tw15792790952358468732:=()
def tw12236101354414956334:=()
def tw16864618592142003386:=()
def tw2765187732825374138:=()
def tw6060609690816243450:=()
def tw5205737364524765896:=()
def tw17339309145561079191:=()
def tw9045458381397004210:=()
def tw2041926188850086339:=()
def tw7942791058656714990:=()
def tw646091604453992162:=()
def tw2846267367221353805:=()
def tw7501186508268903616:=()
def tw6325675986683464353:=()
def tw8392358500681263680:=()
def tw514280064592716601:=()
def tw17613222154834848340:=()
def tw12188032599808994241:=()
def tw8915285831880473931:=()
def tw15438627641174518403:=()
def tw4341293187932698999:=()
def tw4096438862311573950:=()
def tw2931988195819169919:=()
def tw9461873434466728008:=()
def tw3049343062529576306:=()
def tw13855379610559885079:=()
def tw12930229547647579594:=()
def tw1891733041441978011:=()
def tw10888863842102328177:=()
def tw17260811203177919210:=()
def tw4724775325020269224:=()
def tw3778530596728393105:=()
def tw12528221419883600679:=()
def tw5341865396476803018:=()
def tw14556482736207283325:=()
def tw1045582712504079209:=()
def tw10151330197121100416:=()
def tw14651306747883248417:=()
def tw13082796549270168242:=()
def tw12524954882073270795:=()
def tw14404928986312190071:=()
def tw5240077947681225987:=()
def tw11824586356888161845:=()
def tw7050804516273991350:=()
def tw12099505692703838030:=()
def tw2856285388761567895:=()
def tw7900394595670775223:=()
def tw7104112695450043525:=()
def tw360634875079729221:=()
def tw12770481643036789091:=()
def tw12488014758255163090:=()
def tw12826555694032677247:=()
def tw12284071716729939190:=()
def tw5299906598163831158:=()
def tw8908233856664302321:=()
def tw6216382948874008006:=()
def tw1956775160557780875:=()
def tw5909976876416983842:=()
def tw5072417060200589145:=()
def tw2244103112122482387:=()
def tw13931877327420345601:=()
def tw12307553483252862823:=()
def tw7484994123860896570:=()
def tw11153475782318119604:=()
def tw2528511596961503537:=()
def tw10094733558918713432:=()
def tw9006961074152924250:=()
def tw786537726763496527:=()
def tw13205091638197436094:=()
def tw11078473246598507814:=()
def tw17431205604353252913:=()
def tw6145912378217320015:=()
def tw6046103115902281144:=()
def tw8022291803879963045:=()
def tw8995945545434573385:=()
def tw615563214671542189:=()
def tw10551173667578312727:=()
def tw5890639436620234070:=()
def tw11468729153070441980:=()
def tw2705429854395057126:=()
def tw8757050672659960515:=()
def tw296083027919845158:=()
def tw622995879521568732:=()
def tw11499599281419925204:=()
def tw15052318979288761249:=()
def tw12147665669636231765:=()
def tw2983127059725616120:=()
def tw3676754643040562684:=()
def tw17312402878845073609:=()
def tw12954591660760965231:=()
def tw4340673293219707767:=()
def tw211337195705725219:=()
def tw14689541978594310382:=()
def tw16670193898709178398:=()
def tw10851082721055443051:=()
def tw9387514328989991554:=()
def tw1125065396945160393:=()
def tw9767487789085045792:=()
def tw12048842499501423295:=()
def tw8212203176049278890:=()
def tw7249310025045793396:=()
def tw13459084325293418506:=()
def tw3438699932752214802:=()
def tw13791243171338348793:=()
def tw11717715558655726156:=()
def tw6472337539984862722:=()
def tw16522183678017940807:=()
def tw5872530126848033075:=()
def tw16626521671886133394:=()
def tw2358075552688931204:=()
def tw5874822333441161849:=()
def tw7181997581385953548:=()
def tw10146569101766770184:=()
def tw17278973380088787663:=()
def tw593343749668468936:=()
def tw4971374062829452455:=()
def tw13257414776242894994:=()
def tw11401859456886640639:=()
def tw13861969467909019144:=()
def tw9197174079833555027:=()
def tw4946147512530127568:=()
def tw10611411778653204182:=()
def tw8047209995159408440:=()
def tw6856243202995728640:=()
def tw3500664145855060485:=()
def tw2869065659524454656:=()
def tw7091221385724896812:=()
def tw3365755272349913518:=()
def tw12091130801917272685:=()
def tw16260866306193365299:=()
def tw15433366417846715934:=()
def tw8895513138972583135:=()
def tw18066248841608746250:=()
def tw15895094517606616290:=()
def tw18004296560267143027:=()
def tw16872663757069071308:=()
def tw16721508838639397229:=()
def tw12182174808115992843:=()
def tw3308634892276815127:=()
def tw11884987206582726547:=()
def tw2113382385176565475:=()
def tw429539710256275620:=()
def tw11524815483048965402:=()
def tw12517015155858063196:=()
def tw4776297677400877519:=()
def tw16457251377207888201:=()
def tw11308061921803828041:=()
def tw9142603964197575258:=()
def tw5019544711922104826:=()
def tw17049750858520166293:=()
def tw11657350159256941575:=()
def tw13995065583995915716:=()
def tw5672623616920478581:=()
def tw14671739901194505220:=()
def tw12132596417379514657:=()
def tw17184031218471190783:=()
def tw2134106378703910346:=()
def tw9744259246892133002:=()
def tw17261404542052806724:=()
def tw11220919329744738794:=()
def tw5371794888043636658:=()
def tw9768418358887946270:=()
def tw6657536258744368796:=()
def tw10479991185640055810:=()
def tw5783627655825047438:=()
def tw9768259533172459722:=()
def tw9679390387850249182:=()
def tw8179860101808600119:=()
def tw431221854992830470:=()
def tw17016834523296244275:=()
def tw10192404496044350798:=()
def tw16923636969032661973:=()
def tw14036186469904095446:=()
def tw5483103596317574428:=()
def tw13629772047308552242:=()
def tw6338894885288841830:=()
def tw4683681711962371626:=()
def tw3856712824231086281:=()
def tw1517009173149250642:=()
def tw15806707075529380192:=()
def tw7414940336731374808:=()
def tw8210202977690762169:=()
def tw1484650774730072618:=()
def tw5812350808301622050:=()
def tw15917658305576242666:=()
def tw4693966885379303072:=()
def tw13575289164829896131:=()
def tw16167708318613246984:=()
def tw8757255369765604158:=()
def tw8725675927981157988:=()
def tw4991487270385306882:=()
def tw9186807149237001177:=()
def tw5364010647548929812:=()
def tw18101783494082082527:=()
def tw5992840812097835891:=()
def tw18026862514907990334:=()
def tw12353832898886458896:=()
def tw12003660372656728261:=()
def tw16766484511958638138:=()
def tw7998583776865276027:=()
def tw182723221234572337:=()
def tw889511709632714148:=()
def tw3726453103677007866:=()
def tw14755158882433999464:=()
def tw8865387616306378214:=()
def tw11033627544408312984:=()
def tw10978663064860593548:=()
def tw384561282630992784:=()
def tw17817366049700826239:=()
def tw11317637306720784765:=()
def tw3233925636175528570:=()
def tw13127508451798649013:=()
def tw10310341975313369176:=()
def tw7926090574327391632:=()
def tw9937656116252222267:=()
def tw8219003486749837733:=()
def tw3641951560692057861:=()
def tw11151835277377553703:=()
def tw4548300405975405348:=()
def tw3042748168174471775:=()
def tw17760279517084355780:=()
def tw17318462890700432884:=()
def tw11564986514327137767:=()
def tw14859695947638507448:=()
def tw16145670418848962200:=()
def tw8733291241859026926:=()
def tw9331231397406362311:=()
def tw6526287140368922620:=()
def tw15627779663793561183:=()
def tw13484562703626004877:=()
def tw17338325484393633139:=()
def tw9536688357841153863:=()
def tw7424060955962978353:=()
def tw5008593111378822452:=()
def tw18095796173783872564:=()
def tw14827714588952709054:=()
def tw14760874974797668852:=()
def tw1205274952441263945:=()
def tw14935467056822913822:=()
def tw1062514266329012355:=()
def tw8318101203651539667:=()
def tw3985964047577975286:=()
def tw15953416312037357384:=()
def tw12064304430848566033:=()
def tw16531682779099013679:=()
def tw6329614223026926184:=()
def tw14135006944967825841:=()
def tw16247262843940693239:=()
def tw6843573449127227502:=()
def tw10826640976665885199:=()
def tw3300257896294614128:=()
def tw12382822922155266910:=()
def tw7322748291113730364:=()
def tw9860861378791804195:=()
def tw87601786513091389:=()
def tw6836311816226760740:=()
def tw5395340147747708899:=()
def tw14329579894275425762:=()
def tw11207431853666184334:=()
def tw15572387867429868682:=()
def tw1864683662541468164:=()
def tw2259672571474061568:=()
def tw5537553045615171315:=()
def tw4046790133079468173:=()
def tw3543459598558145280:=()
def tw2941924889016668590:=()
def tw15402603294489630176:=()
def tw12726496506802146423:=()
def tw258204147387103276:=()
def tw3239113980409921550:=()
def tw5462360663327728810:=()
def tw17946048357616127039:=()
def tw11962351593759143498:=()
def tw8002303944043701648:=()
def tw11120740854625124088:=()
def tw3235425350174046738:=()
def tw8157277791214410489:=()
def tw9972681490609642005:=()
def tw18060790324241045014:=()
def tw819570635367399668:=()
def tw11907897558876765624:=()
def tw10282777137419654623:=()
def tw1303901927050219478:=()
def tw11272164335830466941:=()
def tw896239598344801917:=()
def tw4635989785427082552:=()
def tw16409965706819354750:=()
def tw561727478393794602:=()
def tw4091352561680426876:=()
def tw5953359166732830163:=()
def tw1956260828630720203:=()
def tw17525541185626968058:=()
def tw12461081396071149458:=()
def tw12125097214300078407:=()
def tw13861322856664149509:=()
def tw6714880395473160397:=()
def tw6170744672141170255:=()
def tw8912161614967838395:=()
def tw18418582437962087742:=()
def tw17713387462200973399:=()
def tw17351735930882485243:=()
def tw1000662321505670351:=()
def tw16489938334050473467:=()
def tw757356599333046425:=()
def tw3721919958574915784:=()
def tw13757698761724263525:=()
def tw9456574344343218679:=()
def tw7480016910919988345:=()
def tw5438652380644606353:=()
def tw15779231459743154856:=()
def tw12772213712371865176:=()
def tw10186303709888756887:=()
def tw16232239604740543338:=()
def tw16080672043311297529:=()
def tw9977182230042388008:=()
def tw9879335643197240621:=()
def tw6968137755033780318:=()
def tw5702276774652866934:=()
def tw2455152089536381482:=()
def tw2353497105660221152:=()
def tw16670775579421159206:=()
def tw16120054744476736488:=()
def tw12269216009862288129:=()
def tw11429584451438056573:=()
def tw8006371003960147343:=()
def tw8278001386518606062:=()
def tw7046044490832178742:=()
def tw3520257249291928256:=()
def tw17678831435119133177:=()
def tw2629151800749243262:=()
def tw16746677531222629524:=()
def tw651700358538967526:=()
def tw4514232752302053791:=()
def tw13462424878891718212:=()
def tw727553628536289456:=()
def tw1039362940862242169:=()
def tw2595585439558603231:=()
def tw11267315532378154396:=()
def tw609457278022895560:=()
def tw8565224436197482051:=()
def tw7943549864190904611:=()
def tw6194202620331982285:=()
def tw2480015634913765671:=()
def tw18333273249017474000:=()
def tw1537541725227008683:=()
def tw8222940686941784037:=()
def tw15621415185263527259:=()
def tw12936088452001202715:=()
def tw6575520176995025181:=()
def tw13571862603940711859:=()
def tw15418378422589880096:=()
def tw1149798457248472902:=()
def tw7027914035851864982:=()
def tw10297410513487048360:=()
def tw4538635040379822027:=()
def tw18048741565030583774:=()
def tw11384182702204212275:=()
def tw5370981198051040953:=()
def tw16053306600634468012:=()
def tw17937168697417666835:=()
def tw8428246938381088814:=()
def tw7036616447074710427:=()
def tw6921103065077540406:=()
def tw2768188642542392010:=()
def tw16792556548410726896:=()
def tw1607123104830579860:=()
def tw1266446861824636:=()
def tw9103314591280073668:=()
def tw6128145076113358165:=()
def tw17170472223608059050:=()
def tw16035376269474964883:=()
def tw10161179621583223854:=()
def tw5694767641087392711:=()
def tw5467331546851215429:=()
def tw2275282789119773048:=()
def tw11480707628889460467:=()
def tw2576523973992343609:=()
def tw11998698701213228066:=()
def tw5341297951324810720:=()
def tw6044310133024360374:=()
def tw4483904966330829159:=()
def tw424408320835691240:=()
def tw3340072933214586257:=()
def tw9252304221032618942:=()
def tw866717566613908145:=()
def tw6188973233030003785:=()
def tw17082689572870858151:=()
def tw15171223727094530161:=()
def tw10228342955482612591:=()
def tw6701911527682315725:=()
def tw1783128247137549839:=()
def tw9784134513789038367:=()
def tw2135409205425526673:=()
def tw13384656265869573321:=()
def tw9869809959619462935:=()
def tw86012387029904805:=()
def tw8159993647027272844:=()
def tw18352723725473834589:=()
def tw14819390147424179368:=()
def tw13291605708682370213:=()
def tw11555995132304969306:=()
def tw8981176238543900561:=()
def tw17079817176256170043:=()
def tw8349214307167005616:=()
def tw4773484457636388862:=()
def tw9630203353718772412:=()
def tw8979854591385374766:=()
def tw9561720059484986898:=()
def tw13053394406489344094:=()
def tw12567650564001988402:=()
def tw12483548606279900826:=()
def tw2741014181512449073:=()
def tw14226173905949225808:=()
def tw785000645067135975:=()
def tw1979317910248211280:=()
def tw12314708539913122752:=()
def tw9786136246686688387:=()
def tw785946285636773999:=()
def tw6284410105664486691:=()
def tw5338801713223979382:=()
def tw511232430288663203:=()
def tw4449297822257671152:=()
def tw3236729772642805936:=()
def tw2810200551564342888:=()
def tw18220031379085947620:=()
def tw16681507383918705554:=()
def tw14938211915633500526:=()
def tw14715273107921467267:=()
def tw11844019762684407370:=()
def tw10576836333797772347:=()
def tw9510108024173832781:=()
def tw7001957589650049515:=()
def tw4545961482378311905:=()
def tw17163426234232328066:=()
def tw12669407529647801677:=()
def tw11066385474520676512:=()
def tw6557801498797044033:=()
def tw4524658085876675188:=()
def tw14061104562602776300:=()
end PySem.W.Fast
open_top hd for PySem.Challenge.rw_slipring_k22_hall_refusals
end
open PySem.W (Frag findIn nsIn mg_of mroIn keepIn kia_one excIn clsIn isFn mg_none_of plainGet hasDictIn makesIn codeIn exmAny plainOver callWith_K kitOne specialIn exmOne)
set_option hygiene false
local macro_rules
| `(↑1)=>`(⟨rfl,rfl,rfl,by decide +kernel,rfl,by decide +kernel,by decide +kernel⟩)
| `(↑2)=>`((λz=>absurd z (by decide)))
| `(↑3)=>`((by decide))
| `(↑4)=>`((λf cdv A' outer s H vs Q E hr h=>?_))
| `(↑5)=>`((by lia))
| `(↑6)=>`((v5 (K:=K) (pv 0)))
| `(↑7)=>`((λvs H Q E h=>?_))
| `(↑8)=>`(LH cl H A L.n L.c L.os L.bk L.gseen L.tseen ps Gq Tq tl lt)
| `(↑9)=>`((b0u X N scope cl C { s2 with heap:=s2.heap.push { cls:=.type "list",data:=.seq ([]:List Value).toArray } } (upd H2 s2.heap.objs.size (.lst [])) fp (X.pn++pins)))
| `(↑10)=>`((λf cdv A outer s H vs Q E hr h=>?_))
local macro_rules
| `(tactic|fail "a")=>`(tactic|(
  obtain⟨many,last,hB,hLast⟩:=hL.brd;obtain⟨⟨dxb,eb⟩,el,hlen,n2,n8⟩:=id hB;have p0:=Int.emod_nonneg t (show(n:Int)≠0 by lia)
  have p1:=Int.emod_lt_of_pos t (show(0:Int)<n by lia)
  have o0:=Int.emod_nonneg (t + -1) (show(2*(n:Int))≠0 by lia)
  have o1:=Int.emod_lt_of_pos (t + -1) (show 0<(2*(n:Int)) by lia)
  have q0:0<=ahd n t:=Int.emod_nonneg ((t + -1) % (2*(n:Int))) (show(n:Int)≠0 by lia)
  have q1:ahd n t<n:=Int.emod_lt_of_pos ((t + -1) % (2*(n:Int))) (show 0<(n:Int) by lia)))
| `(tactic|fail "b")=>`(tactic|(
  have hn:0<L.n:=ok.hn;have g0:gi L=L.g:=d7c e ↑3;have he0:Gq.he=.int ((L.g % (2*L.n):Nat):Int):=by rw[<- g0];exact hg.he (by rw[e];decide)
  have tn:=a3q (i:=L.g) hn;have nu0:Gq.nu=v3 L.os L.g:=by rw[<- g0];exact hg.nu (by rw[e];decide) (by rw[e];decide)
  have le0:Gq.le=v9 L.os L.g:=by rw[<- g0];exact hg.le (by rw[e];decide) (by rw[e];decide) (by rw[e];decide)))
| `(tactic|fail "c")=>`(tactic|(
  have I4:=k.start I3 (C:=(s2.heap.push { cls:=.type "list",data:=.seq ([]:List Value).toArray }).objs.size) (h':=h4) (t':=s2.toks) (ex:=fp) (λb hb=>⟨f3 b hb,by rw[hsz];exact Nat.lt_succ_of_lt (fp2 b hb)⟩) (Nat.le_refl _) hns keep4
  have st4:tn 0 h4:=T.keep _ _ _ st2 λb hb o e=>keep4 b o (Heap.get?_push_of_some _ e);generalize hC:(s2.heap.push { cls:=.type "list",data:=.seq ([]:List Value).toArray }).objs.size=C at I4 hns;have hC3:({ s2 with heap:=s2.heap.push { cls:=.type "list",data:=.seq ([]:List Value).toArray } }:Shared).heap.objs.size<=C:=by rw[<- hC];exact Nat.le_refl _
  have stat:∀{H':Hp},(∀b∈fp,H' b=none)->∀b∈fp,d5p ↑9 [] H' b:=λ{H'} hn b hb=>by
   refine⟨hn b hb,?_,λz=>?_,.inl hb,λx c e=>(f2 b hb).2.2.2.2.1 x c (k.cl_at e),λp hp=>(f2 b hb).2.2.2.2.2 p (by have hp:p∈(X.pn++pins)++[]:=hp;rw[List.append_nil] at hp;exact hp)⟩
   ·rw[show(b0u X N scope cl C { s2 with heap:=s2.heap.push { cls:=.type "list",data:=.seq ([]:List Value).toArray } } (upd H2 s2.heap.objs.size (.lst [])) fp (X.pn++pins)).env.locals=C from rfl,<- hC,hsz]
    exact Nat.ne_of_lt (Nat.lt_succ_of_lt (fp2 b hb))
   ·rcases List.mem_cons.mp (I2.stkSub b z) with y|y
    ·exact(f2 b hb).2.1 y
    ·exact(f2 b hb).2.2.1 y))
| `(tactic|fail "d")=>`(tactic|(
  obtain⟨many,last,hB,hLast⟩:=hL.brd;obtain⟨⟨dxb,eb⟩,el,hlen,n2,n8⟩:=id hB))
| `(tactic|fail "e")=>`(tactic|(
  have hn:0<L.n:=ok.hn;have he0:Tq.he=.int ((L.t % (2*L.n):Nat):Int):=ht.he (by rw[e];rfl)
  have tn:=a3q (i:=L.t) hn;have nf0:Tq.nf=.int ((L.f % (2*L.n):Nat):Int):=by have:=ht.nf (by rw[e];rfl);rw[e] at this;exact this
  have pa0:ps=a0m L.os L.f (L.t-L.f):=by rw[ht.pa];exact if_neg (by rw[e];decide)))
| `(tactic|fail "f")=>`(tactic|(
  walk_at "go";refine c8h ?_;walk_at "go"))
| `(tactic|fail "g")=>`(tactic|(
  obtain⟨n,W,w0,turn⟩:=R2 _ hfD;have I3:Inv X pins σ (upd H2 s2.heap.objs.size (.lst [])) { s2 with heap:=s2.heap.push { cls:=.type "list",data:=.seq ([]:List Value).toArray } }:=I2.lnew (its:=[]) (t':=s2.toks) .nil (Nat.zero_le _)
  have fp2:∀b∈fp,b<s2.heap.objs.size:=λb hb=>by
   obtain⟨o,e,_⟩:=T.obj _ _ st2 b hb;exact Heap.lt_size e
  have f3:∀b∈fp,d5p X pins (upd H2 s2.heap.objs.size (.lst [])) b:=λb hb=>⟨by rw[d6 (Nat.ne_of_lt (fp2 b hb))];exact(f2 b hb).1,(f2 b hb).2⟩
  refine wpAny_newObj_type (hd:=by show(0:Nat)<=_;exact Nat.zero_le _) ?_
  refine wpAny_newFunctionEnv k.cell (by intro y hy;cases hy) (λh4 hns hsb=>?_) k.kind
  have hsz:(s2.heap.push { cls:=.type "list",data:=.seq ([]:List Value).toArray }).objs.size=s2.heap.objs.size+1:=Heap.size_push _ _;have keep4:∀b o,(s2.heap.push { cls:=.type "list",data:=.seq ([]:List Value).toArray }).get? b=some o->h4.get? b=some o:=λb o e=>
   (hsb.2 b (Nat.ne_of_lt (Heap.lt_size e))).trans (Heap.get?_push_of_some _ e)))
| `(tactic|fail "h")=>`(tactic|(
  obtain⟨y,H10,I10,r10,hD10,q10⟩:=z0_;refine wpAny_bind (wpAny_mono (b8o (X:=b0u X N scope cl C { s2 with heap:=s2.heap.push { cls:=.type "list",data:=.seq ([]:List Value).toArray } } (upd H2 s2.heap.objs.size (.lst [])) fp (X.pn++pins)) _ s10 σ9 H10 (.ref s2.heap.objs.size) [y] (.ref s2.heap.objs.size) [v] (λv' H'=>v'=.non/\H'=upd H10 s2.heap.objs.size (.lst (acc++[y]))) I10 rfl (.cons r10 .nil) ⟨_,acc,y,rfl,rfl,hD10,hz6,rfl,rfl⟩) (λv' s11 z0_=>?_) (λ_ _ z=>z.elim))
  obtain⟨_,H11,I11,_,_,e11⟩:=z0_;subst e11;refine wpAny_pure (wpAny_pure ⟨rfl,n-(i+1),by lia,i+1,acc++[y],_,rfl,?_,?_,λb hb=>?_,q10⟩)
  ·refine (I11.unpinned (pins:=[])).weak ?_ λj v' e=>?_
   ·rw[I11.len,<- I4.len]
   ·by_cases hj:nt<=j
    ·rw[k9 j hj];exact e
    ·unfold v7 at e
     rw[List.getElem?_append_left (by rw[List.length_replicate];lia),List.getElem?_replicate] at e
     split at e <;> cases e
  ·exact T.keep _ _ _ st8 λb hb o e=>(I11.pin (b,o) (List.mem_append_right _ (List.mem_append_right _ (a4i hb e)))).1
  ·obtain⟨o,e,d⟩:=T.obj _ _ st8 b hb
   exact(I11.pin (b,o) (List.mem_append_right _ (List.mem_append_right _ (a4i hb e)))).2.1))
| `(tactic|fail "i")=>`(tactic|(
  have nla:la≠x:=λz=>by rw[<- z,ela] at hx;cases hx
  have ela2:=kp _ _ (sm _ _ ela) (by simpa using nla)
  have nDx:D≠x:=λz=>by rw[z,b8] at hD;cases hD
  have nmx:m≠x:=λz=>by rw[z,b8] at hm;cases hm
  have hD0:=o9 sm hD;have hm0:=o9 sm hm;have nDl:D≠la:=λz=>by rw[z,ela] at hD0;cases hD0
  have nml:m≠la:=λz=>by rw[z,ela] at hm0;cases hm0))
| `(tactic|fail "j")=>`(tactic|(
  refine⟨_,rfl,?_⟩;walk_at "go";refine⟨A.bd,A.l,n,_,many,last,_,rfl,hB,?_⟩;rw[if_pos ⟨by lia,by rw[hlen];lia⟩]
  intro tt H' ht kp ett hB'))
set_option hygiene true
namespace L2
open PySem PySem.Spec PyProof.Rows
abbrev Key:=Sum Int Str
def d1t:Key->Value->Bool
 | .inl k,v=>Value.isInt k v
 | .inr x,v=>Value.isStrOf x v
def e7r(w:World):Key->Int
 | .inl k=>hashInt k
 | .inr x=>hashStr w x
theorem a0c:∀{k:Key}{v:Value},d1t k v=true->(∃i t,k=Sum.inl i/\v=Value.int i t)\/(∃x t,k=Sum.inr x/\v=Value.str x t)
 | .inl i,v,h=>by
  obtain⟨t,e⟩:=Value.isInt_shape (k:=i) (v:=v) h;exact .inl ⟨i,t,rfl,e⟩
 | .inr x,v,h=>by
  obtain⟨t,e⟩:=Value.isStrOf_shape (x:=x) (v:=v) h;exact .inr ⟨x,t,rfl,e⟩
theorem d3u(i:Int)(t:Tok):d1t (.inl i) (.int i t)=true:=by simp[d1t,Value.isInt]
theorem d3t(x:Str)(t:Tok):d1t (.inr x) (.str x t)=true:=by simp[d1t,Value.isStrOf]
theorem e2u(a b:Int):decide ((Sum.inl a:Key)=Sum.inl b)=(a == b):=by
 by_cases e:a=b
 ·subst e;simp
 ·have h:¬ (Sum.inl a:Key)=Sum.inl b:=λq=>e (Sum.inl.inj q)
  rw[decide_eq_false h];exact(beq_eq_false_iff_ne.mpr e).symm
theorem e2r(a b:Str):decide ((Sum.inr a:Key)=Sum.inr b)=decide (a=b):=by
 by_cases e:a=b
 ·subst e;simp
 ·have h:¬ (Sum.inr a:Key)=Sum.inr b:=λq=>e (Sum.inr.inj q)
  rw[decide_eq_false h,decide_eq_false e]
theorem e2t(a:Int)(b:Str):decide ((Sum.inl a:Key)=Sum.inr b)=false:=decide_eq_false (λq=>nomatch q)
theorem e2s(a:Str)(b:Int):decide ((Sum.inr a:Key)=Sum.inl b)=false:=decide_eq_false (λq=>nomatch q)
def a1f(prog:Program)(w:World):PySem.KeyKind prog w Key where
 is:=d1t
 hash:=e7r w
 inj:=λv a b ha hb=>by
  rcases a0c ha with ⟨i,t,rfl,rfl⟩|⟨x,t,rfl,rfl⟩
  ·rcases a0c hb with ⟨j,u,rfl,e⟩|⟨y,u,rfl,e⟩
   ·injection e with e1 _;rw[e1]
   ·exact nomatch e
  ·rcases a0c hb with ⟨j,u,rfl,e⟩|⟨y,u,rfl,e⟩
   ·exact nomatch e
   ·injection e with e1 _;rw[e1]
 byValue:=λk v h=>by
  rcases a0c h with ⟨i,t,rfl,rfl⟩|⟨x,t,rfl,rfl⟩ <;> rfl
 pyHash:=λhv h=>by
  rcases a0c hv with ⟨i,t,rfl,rfl⟩|⟨x,t,rfl,rfl⟩
  ·exact wpAny_pyHash_int h
  ·exact wpAny_pyHash_str h
 eqBool:=λhu hv h=>by
  rcases a0c hu with ⟨i,t,rfl,rfl⟩|⟨x,t,rfl,rfl⟩
  ·rcases a0c hv with ⟨j,u,rfl,rfl⟩|⟨y,u,rfl,rfl⟩
   ·rw[e2u] at h;exact wpAny_eqBool_int h
   ·rw[e2t] at h;exact SeqAt.EqAt.int_str i t y u _ _ _ _ h
  ·rcases a0c hv with ⟨j,u,rfl,rfl⟩|⟨y,u,rfl,rfl⟩
   ·rw[e2s] at h;exact SeqAt.EqAt.str_int x t j u _ _ _ _ h
   ·rw[e2r] at h;exact wpAny_eqBool_str h
 «strs»:=λk x t v h=>by
  rcases a0c h with ⟨i,u,rfl,e⟩|⟨y,u,rfl,e⟩
  ·exact nomatch e
  ·injection e with e1 _
   subst e1;cases v <;> rfl
theorem c8c(prog:Program)(w:World)(i:Int)(t:Tok):(a1f prog w).is (.inl i) (.int i t)=true:=d3u i t
theorem c8b(prog:Program)(w:World)(x:Str)(t:Tok):(a1f prog w).is (.inr x) (.str x t)=true:=d3t x t
end L2
namespace L2
open PySem PySem.Spec PyProof.Rows
inductive V where
 | non|bl (b:Bool)|int (i:Int)|str (x:Str)|byt (b:Array UInt8)|flt (b:UInt64)|ref (a:Addr)|ty (n:String)
 deriving DecidableEq
def RelV:V->Value->Prop
 | .non,u=>u=Value.none
 | .bl b,u=>u=Value.bool b
 | .int i,u=>∃t,u=Value.int i t
 | .str x,u=>∃t,u=Value.str x t
 | .byt b,u=>∃t,u=Value.bytes b t
 | .flt b,u=>∃t,u=Value.float b t
 | .ref a,u=>u=Value.ref a
 | .ty n,u=>u=Value.type n
abbrev Vals:List V->List Value->Prop:=Paired RelV
theorem Vals.length{xs:List V}{us:List Value}(r:Vals xs us):xs.length=us.length:=Paired.length r
theorem Vals.get:∀{xs:List V}{us:List Value}{i:Nat}{x:V},Vals xs us->xs[i]?=some x->∃u,us[i]?=some u/\RelV x u
 | _,_,_,_,.nil,e=>by simp at e
 | _,_,0,_,.cons r _,e=>by simp at e;subst e;exact⟨_,rfl,r⟩
 | _,_,i+1,x,.cons _ t,e=>by
  obtain⟨u,h1,h2⟩:=Vals.get (i:=i) (x:=x) t (by simpa using e)
  exact⟨u,by simpa using h1,h2⟩
theorem Vals.set{x:V}{u:Value}(r:RelV x u):∀{xs:List V}{us:List Value}(i:Nat),Vals xs us->Vals (xs.set i x) (us.set i u)
 | _,_,_,.nil=>.nil
 | _,_,0,.cons _ t=>.cons r t
 | _,_,i+1,.cons q t=>.cons q (Vals.set r i t)
theorem Vals.append{xs ys:List V}{us ws:List Value}(h:Vals xs us)(s:Vals ys ws):Vals (xs++ys) (us++ws):=by
 induction h with
 | nil=>exact s
 | cons r t ih=>exact .cons r ih
theorem Vals.take:∀{xs:List V}{us:List Value}(n:Nat),Vals xs us->Vals (xs.take n) (us.take n)
 | _,_,0,_=>.nil
 | _,_,_+1,.nil=>.nil
 | _,_,n+1,.cons r t=>.cons r (Vals.take n t)
theorem Vals.drop:∀{xs:List V}{us:List Value}(n:Nat),Vals xs us->Vals (xs.drop n) (us.drop n)
 | _,_,0,r=>r
 | _,_,_+1,.nil=>.nil
 | _,_,n+1,.cons _ t=>Vals.drop n t
def RelO:Option V->Option Value->Prop
 | some v,some u=>RelV v u
 | none,none=>True
 | _,_=>False
def KV{κ:Type}:List (κ×V)->List (κ×Value)->Prop:=Paired λ(p:κ×V) (q:κ×Value)=>p.1=q.1/\RelV p.2 q.2
def kV:Key->V
 | .inl i=>.int i
 | .inr x=>.str x
inductive HO where
 | lst (xs:List V)
 | tup (xs:List V)
 | dK (kvs:List (Key×V))|dT (kvs:List (List Key×V))
 | set (S:Int->Bool) (n:Nat)
 | ins (C dx:Addr) (fs:List (Str×V))
 | own (x:Addr)
 | xd (fs:List (Str×V))
 | met (f x:Addr)
 | rng (lo hi:Int)
 | frz (o:Obj) (u:HO)
 | tbl (ps:Array Value)
 | ext (φ:Heap->Prop)
abbrev Hp:=Addr->Option HO
def upd(H:Hp)(a:Addr)(o:HO):Hp:=λb=>if b=a then some o else H b
theorem b8{H:Hp}{a:Addr}{o:HO}:upd H a o a=some o:=by unfold upd;rw[if_pos rfl]
theorem d6{H:Hp}{a b:Addr}{o:HO}(h:b≠a):upd H a o b=H b:=by unfold upd;rw[if_neg h]
theorem c6v{H:Hp}{a:Addr}{o u:HO}:upd (upd H a o) a u=upd H a u:=by
 funext b;unfold upd;split <;> rfl
theorem b9w{H:Hp}{a b:Addr}{o u:HO}(h:H a=some o)(h':H b=some u)(d:o≠u):a≠b:=by
 intro e;subst e;rw[h] at h';exact d (Option.some.inj h')
theorem g6{H:Hp}{a b:Addr}{o:HO}(h:H a=some o)(h':H b=none):a≠b:=by
 intro e;subst e;rw[h] at h';cases h'
section
variable(P:Program)(w:World)
def ObjOk(H:Hp)(h:Heap)(a:Addr):HO->Prop
 | .lst xs=>xs.length<=sizeLine/\∃(its:List Value)(n:Nat),Vals xs its/\h.get? a=some { cls:=.type "list",data:=.seq its.toArray n }
 | .tup xs=>xs.length<=sizeLine/\∃its:List Value,Vals xs its/\IsTup h a its.toArray
 | .dK kvs=>kvs.length<=sizeLine/\(a == sysModules)=false/\∃vs,KV kvs vs/\h.DictOf (a1f P w) a vs
 | .dT kvs=>kvs.length<=sizeLine/\(a == sysModules)=false/\∃xs:List (List Key×Addr×Value),
   Paired (λ(p:List Key×V) (q:List Key×Addr×Value)=>p.1=q.1/\H q.2.1=some (.tup (p.1.map kV))/\RelV p.2 q.2.2) kvs xs /\
   ∃o es ep,h.get? a=some o/\o.ExactDict/\o.data=.dict es ep/\es.toList=xs.map (entryOfKey (tupleKind (a1f P w)))/\(xs.map (·.1)).Nodup
 | .set S n=>h.SetOf (intKind P w) a S n
 | .ins C dx fs=>H dx=some (.own a)/\fs.length<=1000/\dx≠a/\h.get? a=some (PySem.W.instObj C dx) /\
   ∃mA,h.Ns1 dx mA/\(∀f,RelO (fs.lookup f) (mA f))/\PySem.Within mA (fs.map (·.1))
 | .own _=>∃o,h.get? a=some o
 | .xd fs=>∃mA,h.Ns1 a mA/\∀f,RelO (fs.lookup f) (mA f)
 | .rng lo hi=>∃t u v,h.get? a=some { cls:=.type "range",data:=.fields #[.int lo t,.int hi u,.int 1 v] }
 | .frz o u=>h.get? a=some o/\ObjOk H h a u
 | .tbl ps=>h.get? a=some { cls:=.none,data:=.fields ps }
 | .met f x=>h.get? a=some (PySem.W.methodObj (.ref f) (.ref x))
 | .ext φ=>φ h/\(∃o,h.get? a=some o)/\∀h1 h2:Heap,φ h1->(∀o,h1.get? a=some o->h2.get? a=some o)->φ h2
def HOk(H:Hp)(h:Heap):Prop:=∀a o,H a=some o->ObjOk P w H h a o
end
section
variable{P:Program}{w:World}{H H':Hp}{h h':Heap}{a:Addr}{o:HO}
theorem ObjOk.lt(x:ObjOk P w H h a o):a<h.objs.size:=by
 cases o with
 | lst xs=>obtain⟨_,_,_,_,e⟩:=x;exact Heap.lt_size e
 | tup xs=>obtain⟨_,_,_,p⟩:=x;exact p.lt
 | dK kvs=>obtain⟨_,_,_,_,o,_,_,e,_⟩:=x;exact Heap.lt_size e
 | dT kvs=>obtain⟨_,_,_,_,o,_,_,e,_⟩:=x;exact Heap.lt_size e
 | set S n=>obtain⟨o,_,_,_,e,_⟩:=x;exact Heap.lt_size e
 | ins C dx fs=>obtain⟨_,_,_,e,_⟩:=x;exact Heap.lt_size e
 | own y=>obtain⟨_,e⟩:=x;exact Heap.lt_size e
 | xd fs=>obtain⟨_,⟨_,_,_,e,_⟩,_⟩:=x;exact Heap.lt_size e
 | rng lo hi=>obtain⟨_,_,_,e⟩:=x;exact Heap.lt_size e
 | frz ob u=>obtain⟨e,_⟩:=x;exact Heap.lt_size e
 | tbl ps=>exact Heap.lt_size (show h.get? a=some _ from x)
 | met f y=>exact Heap.lt_size (show h.get? a=some _ from x)
 | ext φ=>obtain⟨_,⟨_,e⟩,_⟩:=x;exact Heap.lt_size e
theorem Paired.mapP{α β:Type}{F G:α->β->Prop}{l₁:List α}{l₂:List β}(h:Paired F l₁ l₂)(f:∀a b,F a b->G a b):Paired G l₁ l₂:=by
 induction h with
 | nil=>exact .nil
 | cons r t ih=>exact .cons (f _ _ r) ih
theorem ObjOk.stay(x:ObjOk P w H h a o)(k:∀b u,(b=a\/H b=some (.own a))->h.get? b=some u->h'.get? b=some u)(ho:∀b,H b=some (.own a)->H' b=some (.own a))(ht:∀b xs,H b=some (.tup xs)->H' b=some (.tup xs)):ObjOk P w H' h' a o:=by
 induction o with
 | lst xs=>obtain⟨z,its,n,r,e⟩:=x;exact⟨z,its,n,r,k _ _ (.inl rfl) e⟩
 | tup xs=>obtain⟨z,its,r,ob,e,c⟩:=x;exact⟨z,its,r,ob,k _ _ (.inl rfl) e,c⟩
 | dK kvs=>obtain⟨z,y,vs,r,ob,es,ep,e,c⟩:=x;exact⟨z,y,vs,r,ob,es,ep,k _ _ (.inl rfl) e,c⟩
 | dT kvs=>
  obtain⟨z,y,xs,r,ob,es,ep,e,c⟩:=x;exact⟨z,y,xs,Paired.mapP r λp q z=>⟨z.1,ht _ _ z.2.1,z.2.2⟩,ob,es,ep,k _ _ (.inl rfl) e,c⟩
 | set S n=>obtain⟨ob,es,ep,t,e,c⟩:=x;exact⟨ob,es,ep,t,k _ _ (.inl rfl) e,c⟩
 | ins C dx fs=>
  obtain⟨d,z,ne,e,mA,⟨od,es,ep,e2,c⟩,r⟩:=x;exact⟨ho _ d,z,ne,k _ _ (.inl rfl) e,mA,⟨od,es,ep,k _ _ (.inr d) e2,c⟩,r⟩
 | own y=>obtain⟨ob,e⟩:=x;exact⟨ob,k _ _ (.inl rfl) e⟩
 | xd fs=>obtain⟨mA,⟨od,es,ep,e,c⟩,r⟩:=x;exact⟨mA,⟨od,es,ep,k _ _ (.inl rfl) e,c⟩,r⟩
 | rng lo hi=>obtain⟨t,u,v,e⟩:=x;exact⟨t,u,v,k _ _ (.inl rfl) e⟩
 | frz ob u ih=>obtain⟨e,q⟩:=x;exact⟨k _ _ (.inl rfl) e,ih q⟩
 | tbl ps=>
  have e:h.get? a=some { cls:=.none,data:=.fields ps }:=x;show h'.get? a=some { cls:=.none,data:=.fields ps };exact k a _ (.inl rfl) e
 | met f y=>
  have e:h.get? a=some (PySem.W.methodObj (.ref f) (.ref y)):=x;show h'.get? a=some (PySem.W.methodObj (.ref f) (.ref y));exact k a _ (.inl rfl) e
 | ext φ=>obtain⟨p,⟨o,e⟩,st⟩:=x;exact⟨st _ _ p λo q=>k _ _ (.inl rfl) q,⟨o,k _ _ (.inl rfl) e⟩,st⟩
theorem HOk.lt(x:HOk P w H h)(e:H a=some o):a<h.objs.size:=(x a o e).lt
theorem HOk.fresh(x:HOk P w H h)(e:h.objs.size<=a):H a=none:=by
 cases q:H a with
 | none=>rfl
 | some u=>exact absurd (Nat.lt_of_lt_of_le (x.lt q) e) (Nat.lt_irrefl _)
theorem HOk.kept(x:HOk P w H h)(k:∀b u,h.get? b=some u->h'.get? b=some u):HOk P w H h':=λa o e=>
 (x a o e).stay (λb u _ q=>k b u q) (λ_ q=>q) λ_ _ q=>q
theorem HOk.laid(x:HOk P w H h)(k:∀b u,h.get? b=some u->h'.get? b=some u)(hp:h.objs.size<=a)(new:ObjOk P w (upd H a o) h' a o):HOk P w (upd H a o) h':=λb u e=>by
 have hn:=x.fresh hp;by_cases hb:b=a
 ·subst hb;rw[b8] at e;cases e;exact new
 ·rw[d6 hb] at e
  exact(x b u e).stay (λc v _ q=>k c v q) (λc q=>by rw[d6 (g6 q hn)];exact q) λc xs q=>by rw[d6 (g6 q hn)];exact q
end
def Rd(H:Hp)(a:Addr)(u:HO):Prop:=H a=some u \/ ∃o,H a=some (.frz o u)
theorem Rd.ok{P:Program}{w:World}{H:Hp}{h:Heap}{a:Addr}{u:HO}(r:Rd H a u)(x:HOk P w H h):ObjOk P w H h a u:=by
 rcases r with r|⟨o,r⟩
 ·exact x a u r
 ·obtain⟨_,q⟩:=x a _ r
  exact q
def Mut:Option HO->Prop
 | some (.lst _)=>True
 | some (.dK _)=>True
 | some (.dT _)=>True
 | some (.set _ _)=>True
 | some (.ins _ _ _)=>True
 | some (.ext _)=>True
 | _=>False
section
variable{P:Program}{w:World}{H:Hp}{h h':Heap}{x e:Addr}{o':HO}
theorem HOk.write(ok:HOk P w H h)(mu:Mut (H x))(he:e=x\/H e=some (.own x))(k:∀b u,b≠e->h.get? b=some u->h'.get? b=some u)(heo:∃u,h'.get? e=some u)(new:ObjOk P w (upd H x o') h' x o'):HOk P w (upd H x o') h':=λb u q=>by
 have nown:∀c y,H c=some (.own y)->c≠x:=λc y r z=>by subst z;rw[r] at mu;exact mu
 have ntup:∀c xs,H c=some (.tup xs)->c≠x:=λc xs r z=>by subst z;rw[r] at mu;exact mu
 by_cases hb:b=x
 ·subst hb;rw[b8] at q;cases q;exact new
 ·rw[d6 hb] at q
  by_cases hbe:b=e
  ·have q':H b=some (.own x):=by
    rcases he with z|z
    ·exact absurd (hbe.trans z) hb
    ·rw[hbe];exact z
   rw[q] at q';cases q';obtain⟨v,hv⟩:=heo;exact⟨v,by rw[hbe];exact hv⟩
  ·refine (ok b u q).stay (λc v hc r=>k c v ?_ r) (λc r=>by rw[d6 (nown c b r)];exact r) λc xs r=>by rw[d6 (ntup c xs r)];exact r
   rcases hc with rfl|hc
   ·exact hbe
   ·rintro rfl
    rcases he with z|z
    ·exact nown c b hc z
    ·rw[hc] at z;cases z;exact hb rfl
end
structure Un(fs ex:List Addr)(H H':Hp)(h h':Heap):Prop where
 keep:∀b o,h.get? b=some o->H b=none->b ∉ fs->b ∉ ex->h'.get? b=some o
 slot:∀b o,h.get? b=some o->H b=none->b∈fs->b ∉ ex->∃sl,h'.get? b=some { o with slots:=sl }
 free:∀b o,h.get? b=some o->H b=none->b ∉ ex->H' b=none
 there:∀b o,h.get? b=some o->b ∉ ex->∃o',h'.get? b=some o'
 tups:∀b xs,H b=some (.tup xs)->H' b=some (.tup xs)
 frzs:∀b o u,H b=some (.frz o u)->H' b=some (.frz o u)
 tbls:∀b ps,H b=some (.tbl ps)->∃more,H' b=some (.tbl (ps++more))
section
variable{fs fs' ex ex':List Addr}{H H1 H2:Hp}{h h1 h2 h':Heap}{a x e:Addr}{o:HO}
theorem Un.any(u:Un fs ex H H1 h h1){b:Addr}{ob:Obj}(q:h.get? b=some ob)(n:H b=none)(hx:b ∉ ex):∃sl,h1.get? b=some { ob with slots:=sl }:=by
 by_cases hb:b∈fs
 ·exact u.slot b ob q n hb hx
 ·exact⟨ob.slots,u.keep b ob q n hb hx⟩
theorem Un.kept(k:∀b u,h.get? b=some u->h'.get? b=some u):Un fs ex H H h h' :=
 ⟨λb ob q _ _ _=>k b ob q,λb ob q _ _ _=>⟨ob.slots,k b ob q⟩,λ_ _ _ n _=>n,λb ob q _=>⟨ob,k b ob q⟩,λ_ _ q=>q,λ_ _ _ q=>q,λ_ ps q=>⟨#[],by rw[q];simp⟩⟩
theorem Un.refl:Un fs ex H H h h:=Un.kept λ_ _ q=>q
theorem Un.laid(k:∀b u,h.get? b=some u->h'.get? b=some u)(hp:h.objs.size<=a)(hn:H a=none):Un fs ex H (upd H a o) h h' where
 keep:=λb u q _ _ _=>k b u q
 slot:=λb u q _ _ _=>⟨u.slots,k b u q⟩
 free:=λb u q n _=>by rw[d6 (Nat.ne_of_lt (Nat.lt_of_lt_of_le (Heap.lt_size q) hp))];exact n
 there:=λb u q _=>⟨u,k b u q⟩
 tups:=λb xs q=>by rw[d6 (g6 q hn)];exact q
 frzs:=λb u xs q=>by rw[d6 (g6 q hn)];exact q
 tbls:=λb ps q=>⟨#[],by rw[d6 (g6 q hn),q];simp⟩
theorem Un.write(mu:Mut (H x))(he:e=x\/H e=some (.own x))(k:∀b u,b≠e->h.get? b=some u->h'.get? b=some u)(heo:∃u,h'.get? e=some u):Un fs ex H (upd H x o) h h':=by
 have hx:∀b,H b=none->b≠x:=λb n z=>by subst z;rw[n] at mu;exact mu
 have hb:∀b,H b=none->b≠e:=λb n z=>by
  subst z;rcases he with r|r
  ·exact hx b n r
  ·rw[n] at r;cases r
 have hm:∀b u,H b=some u->¬ Mut (some u)->b≠x:=λb u q nm z=>by subst z;rw[q] at mu;exact nm mu
 refine⟨λb u q n _ _=>k b u (hb b n) q,λb u q n _ _=>⟨u.slots,k b u (hb b n) q⟩,λb u q n _=>by rw[d6 (hx b n)];exact n,λb u q _=>?_,
  λb xs q=>by rw[d6 (hm b _ q λz=>z)];exact q,λb u xs q=>by rw[d6 (hm b _ q λz=>z)];exact q,λb ps q=>⟨#[],by rw[d6 (hm b _ q λz=>z),q];simp⟩⟩
 by_cases hbe:b=e
 ·subst hbe;exact heo
 ·exact⟨u,k b u hbe q⟩
end
def trk(h:Heap)(H:Hp):List Addr:=(List.range h.objs.size).filter λa=>(H a).isSome
def d7b(h:Heap)(H:Hp):Heap:=PySem.W.hideAll h (trk h H)
theorem d4a(h:Heap)(H:Hp):(d7b h H).objs.size=h.objs.size:=PySem.W.hideAll_size _ _
theorem d7a{h:Heap}{H:Hp}{b:Addr}{o:Obj}(e:h.get? b=some o)(n:H b=none):(d7b h H).get? b=some o :=
 PySem.W.hideAll_get _ e λhm=>by
  have q:(H b).isSome=true:=(List.mem_filter.mp hm).2;rw[n] at q;simp at q
theorem d9w{h:Heap}{H:Hp}{b:Addr}{o:Obj}(e:(d7b h H).get? b=some o):h.get? b=some o/\H b=none:=by
 have e':h.get? b=some o:=PySem.W.of_hideAll (trk h H) e;refine⟨e',?_⟩;cases q:H b with
 | none=>rfl
 | some x=>
  have hm:b∈trk h H:=List.mem_filter.mpr ⟨List.mem_range.mpr (Heap.lt_size e'),by simp[q]⟩
  have z:(d7b h H).get? b=none:=PySem.W.hideAll_none (trk h H) hm;rw[z] at e;cases e
end L2
namespace L2
open PySem PySem.Spec PyProof.Rows
structure Mod(K:Frag)(mg:Str->Option Value)(base:Heap):Prop where
 kin:K.In base
 glob:base.Ns mainGlobals mg
 blt:∃mb,base.Ns builtinsNs mb/\∀x:Str,x≠"__name__"->mb x=bootBuiltins x
 nolimit:base.NoLimit
structure Cx where
 prog:Program
 w:World
 K:Frag
 mg:Str->Option Value
 base:Heap
 A:Around
 N:List Str
 s₀:Shared
 H₀:Hp
 env:Env
 outer:List Env
 stack:List Env
 ex:List Addr
 fn:Str->Bool
 calm:Bool
 pn:List (Addr×Obj)
 xe:Value->Shared->Prop
def frs(l:List Env):List Addr:=l.filterMap (·.frame)
abbrev Cx.fs(X:Cx):List Addr:=frs X.outer
def Vis(sc:Scope)(x:Str):Prop:=sc.names.lookup x=some .local\/sc.names.lookup x=some .cell\/sc.names.lookup x=some .free
def Loc(sc:Scope)(x:Str):Prop:=sc.names.lookup x=some .local\/sc.names.lookup x=some .cell
def e7j(env:Env)(h:Heap)(m:Str->Option Value)(x:Str)(u:Value):Prop :=
 (env.kindOf x=some .local/\m x=some u)\/((env.kindOf x=some .cell\/env.kindOf x=some .free)/\∃c,env.cells.lookup x=some c/\h.IsCell c (some u))
structure Cx.Ok(X:Cx):Prop where
 mod:Mod X.K X.mg X.base
 kind:X.env.scope.kind=.function
 glob:X.env.globals=mainGlobals
 blt:X.env.builtins=builtinsNs
 above:X.s₀.heap.objs.size<=X.env.locals
 inj:∀x y c,X.env.cells.lookup x=some c->X.env.cells.lookup y=some c->x=y
 has:∀x,(X.env.kindOf x=some .cell\/X.env.kindOf x=some .free)->∃c,X.env.cells.lookup x=some c
 cab:∀x c,X.fn x=true->X.env.cells.lookup x=some c->X.s₀.heap.objs.size<=c
 hd:X.calm=true->X.A.handled=none
 frames:X.A.frames=some X.stack
 stk:X.stack=X.outer\/(X.stack=X.env::X.outer/\X.env.frame=some X.env.locals)
 exf:∀b∈X.ex,b≠X.env.locals/\∀x c,X.env.cells.lookup x=some c->c≠b
 bs:∀b o,X.base.get? b=some o->X.s₀.heap.get? b=some o/\X.H₀ b=none
 bsz:X.base.objs.size<=X.s₀.heap.objs.size
 noex:∀b o,X.base.get? b=some o->b ∉ X.ex
 exfs:∀b∈X.ex,b ∉ X.fs
 funs:X.s₀.heap.FunFrames X.base X.outer
 frf:∀b∈X.fs,X.H₀ b=none
structure Inv(X:Cx)(pins:List (Addr×Obj))(σ:List (Option V))(H:Hp)(s:Shared):Prop where
 ok:X.Ok
 os:s.os=X.s₀.os
 bare:AllBare s.gens
 base:Un X.fs X.ex X.H₀ H X.s₀.heap s.heap
 loc:∃m,s.heap.Ns X.env.locals m/\∀(i:Nat)(x:Str)(v:V),X.N[i]?=some x->σ[i]?=some (some v)->Vis X.env.scope x->∃u,RelV v u/\e7j X.env s.heap m x u
 cell:∀x c,X.env.cells.lookup x=some c->∃v,s.heap.IsCell c v
 free:H X.env.locals=none
 freeC:∀x c,X.env.cells.lookup x=some c->H c=none
 pin:∀p∈X.pn++pins,s.heap.get? p.1=some p.2/\H p.1=none/\p.1≠X.env.locals/\p.1 ∉ X.fs/\∀v,p.2.data≠.cell v
 hok:HOk X.prog X.w H s.heap
 len:σ.length=X.N.length
section
variable{X:Cx}{pins:List (Addr×Obj)}{σ:List (Option V)}{H H':Hp}{s:Shared}{h':Heap}
theorem Cx.Ok.nofr(ok:X.Ok){b:Addr}{o:Obj}(e:X.base.get? b=some o):b ∉ X.fs:=λhb=>by
 have:=(ok.funs.mem hb).1;rw[e] at this;cases this
theorem Inv.bs(I:Inv X pins σ H s):∀b o,X.base.get? b=some o->s.heap.get? b=some o/\H b=none:=λb o e=>
 ⟨I.base.keep b o (I.ok.bs b o e).1 (I.ok.bs b o e).2 (I.ok.nofr e) (I.ok.noex b o e),I.base.free b o (I.ok.bs b o e).1 (I.ok.bs b o e).2 (I.ok.noex b o e)⟩
theorem Inv.bk(I:Inv X pins σ H s):∀b o,X.base.get? b=some o->s.heap.get? b=some o:=λb o e=>(I.bs b o e).1
theorem Inv.mod(I:Inv X pins σ H s):Mod X.K X.mg X.base:=I.ok.mod
theorem Inv.kIn(I:Inv X pins σ H s):X.K.In s.heap:=I.ok.mod.kin.keeps I.bk
theorem Inv.lt(I:Inv X pins σ H s):X.env.locals<s.heap.objs.size:=by obtain⟨_,hn,_⟩:=I.loc;exact hn.lt
theorem Inv.sz(I:Inv X pins σ H s):X.s₀.heap.objs.size<=s.heap.objs.size:=Nat.le_trans I.ok.above (Nat.le_of_lt I.lt)
theorem Inv.nofs(I:Inv X pins σ H s){a:Addr}(h:s.heap.objs.size<=a):a ∉ X.fs:=λhb=>by
 obtain⟨_,o,ho,_⟩:=I.ok.funs.mem hb;exact absurd (Nat.lt_of_lt_of_le (Heap.lt_size ho) (Nat.le_trans I.sz h)) (Nat.lt_irrefl _)
theorem Inv.cne(I:Inv X pins σ H s):∀x c,X.env.cells.lookup x=some c->c≠X.env.locals:=λx c e z=>by
 obtain⟨v,o,ho,hd⟩:=I.cell x c e;obtain⟨m,⟨o',es,ep,ho',hd',_⟩,_⟩:=I.loc;rw[z,ho'] at ho;cases ho;rw[hd'] at hd;cases hd
theorem Inv.funs(I:Inv X pins σ H s):s.heap.FunFrames X.base X.outer:=by
 have all:∀(l:List Env),(∀b∈frs l,b∈X.fs)->X.s₀.heap.FunFrames X.base l->s.heap.FunFrames X.base l:=by
  intro l
  induction l with
  | nil=>intro _ _;trivial
  | cons env r ih=>
   intro hs hl;obtain⟨hk,⟨L,o,hf,hn,ho,hd⟩,hr⟩:=hl;have hL:L∈X.fs:=hs L (by unfold frs;rw[List.filterMap_cons,hf];exact List.mem_cons_self)
   obtain⟨sl,e⟩:=I.base.slot L o ho (I.ok.frf L hL) hL λz=>I.ok.exfs L z hL;exact⟨hk,⟨L,_,hf,hn,e,hd⟩,ih (λb hb=>hs b (by unfold frs;rw[List.filterMap_cons,hf];exact List.mem_cons_of_mem _ hb)) hr⟩
 exact all X.outer (λ_ hb=>hb) I.ok.funs
theorem Inv.stack(I:Inv X pins σ H s):s.heap.FunFrames X.base X.stack:=by
 rcases I.ok.stk with e|⟨e,hf⟩
 ·rw[e];exact I.funs
 ·rw[e]
  obtain⟨m,hn,_⟩:=I.loc;refine .cons (by rw[I.ok.kind];decide) hf hn ?_ I.funs
  exact Heap.get?_none_of_le (Nat.le_trans I.ok.bsz I.ok.above)
theorem Inv.stkSub(I:Inv X pins σ H s):∀b∈frs X.stack,b∈X.env.locals::X.fs:=λb hb=>by
 rcases I.ok.stk with e|⟨e,hf⟩
 ·rw[e] at hb;exact List.mem_cons_of_mem _ hb
 ·rw[e] at hb
  unfold frs at hb;rw[List.filterMap_cons,hf] at hb;exact hb
theorem Inv.stkFree(I:Inv X pins σ H s):∀b∈frs X.stack,H b=none:=λb hb=>by
 rcases List.mem_cons.mp (I.stkSub b hb) with e|hb
 ·rw[e];exact I.free
 ·obtain⟨_,o,ho,_⟩:=I.ok.funs.mem hb
  exact I.base.free b o ho (I.ok.frf b hb) λz=>I.ok.exfs b z hb
theorem Inv.step{g':Array GenState}{t':Nat}{d':Drawn}{ch:List Addr}(I:Inv X pins σ H s)(hch:∀b∈ch,(b∈X.ex\/X.s₀.heap.objs.size<=b)/\b≠X.env.locals/\(∀x c,X.env.cells.lookup x=some c->c≠b)/\∀p∈X.pn++pins,p.1≠b)(keep:∀b o,b≠X.env.locals->b ∉ X.fs->b ∉ ch->s.heap.get? b=some o->H b=none->h'.get? b=some o)(slot:∀b o,b≠X.env.locals->b∈X.fs->b ∉ ch->s.heap.get? b=some o->H b=none->∃sl,h'.get? b=some { o with slots:=sl })(free:∀b o,b ∉ ch->s.heap.get? b=some o->H b=none->H' b=none)(there:∀b o,b ∉ ch->s.heap.get? b=some o->∃o',h'.get? b=some o')(tups:∀b xs,H b=some (.tup xs)->H' b=some (.tup xs))(frzs:∀b o u,H b=some (.frz o u)->H' b=some (.frz o u))(tbls:∀b ps,H b=some (.tbl ps)->∃more,H' b=some (.tbl (ps++more)))(ns:∀m,s.heap.Ns X.env.locals m->h'.Ns X.env.locals m)(hok:HOk X.prog X.w H' h')(hg:AllBare g'):
  Inv X pins σ H' { s with heap:=h',gens:=g',drawn:=d',toks:=t' }:=by
 have neL:∀b o,X.s₀.heap.get? b=some o->b≠X.env.locals:=λb o e=>Nat.ne_of_lt (Nat.lt_of_lt_of_le (Heap.lt_size e) I.ok.above);have neC:∀b o,X.s₀.heap.get? b=some o->b ∉ X.ex->b ∉ ch:=λb o e hx hb=>by
  rcases (hch b hb).1 with z|z
  ·exact hx z
  ·exact absurd (Nat.lt_of_lt_of_le (Heap.lt_size e) z) (Nat.lt_irrefl _)
 have cellK:∀x c,X.env.cells.lookup x=some c->∀v,s.heap.IsCell c v->h'.IsCell c v:=λx c e v zb_=>by
  obtain⟨o,ho,hd⟩:=zb_;have nch:c ∉ ch:=λz=>(hch c z).2.2.1 x c e rfl;by_cases hc:c∈X.fs
  ·obtain⟨sl,q⟩:=slot c o (I.cne x c e) hc nch ho (I.freeC x c e)
   exact⟨_,q,hd⟩
  ·exact⟨o,keep c o (I.cne x c e) hc nch ho (I.freeC x c e),hd⟩
 refine⟨I.ok,I.os,hg,⟨λb o e n hb hx=>?_,λb o e n hb hx=>?_,λb o e n hx=>?_,λb o e hx=>?_,λb xs e=>tups b xs (I.base.tups b xs e),λb o xs e=>frzs b o xs (I.base.frzs b o xs e),λb ps e=>?_⟩,?_,λx c e=>?_,?_,λx c e=>?_,λp hp=>?_,hok,I.len⟩
 ·exact keep b o (neL b o e) hb (neC b o e hx) (I.base.keep b o e n hb hx) (I.base.free b o e n hx)
 ·obtain⟨sl,e1⟩:=I.base.slot b o e n hb hx
  obtain⟨sl',e2⟩:=slot b _ (neL b o e) hb (neC b o e hx) e1 (I.base.free b o e n hx);exact⟨sl',e2⟩
 ·obtain⟨o',e1⟩:=I.base.there b o e hx
  exact free b o' (neC b o e hx) e1 (I.base.free b o e n hx)
 ·obtain⟨o',e1⟩:=I.base.there b o e hx
  exact there b o' (neC b o e hx) e1
 ·obtain⟨m1,e1⟩:=I.base.tbls b ps e
  obtain⟨m2,e2⟩:=tbls b _ e1;exact⟨m1++m2,by rw[e2,Array.append_assoc]⟩
 ·obtain⟨m,hn,hl⟩:=I.loc
  refine⟨m,ns m hn,λi x v e1 e2 e3=>?_⟩;obtain⟨u,r,l⟩:=hl i x v e1 e2 e3;refine⟨u,r,?_⟩;rcases l with l|⟨k,c,e,z⟩
  ·exact .inl l
  ·exact .inr ⟨k,c,e,cellK x c e _ z⟩
 ·obtain⟨v,z⟩:=I.cell x c e
  exact⟨v,cellK x c e v z⟩
 ·obtain⟨m,⟨o,_,_,ho,_⟩,_⟩:=I.loc
  exact free _ o (λz=>(hch _ z).2.1 rfl) ho I.free
 ·obtain⟨v,o,ho,hd⟩:=I.cell x c e
  exact free c o (λz=>(hch c z).2.2.1 x c e rfl) ho (I.freeC x c e)
 ·obtain⟨e,n,ne,nf,d⟩:=I.pin p hp
  have nch:p.1 ∉ ch:=λz=>(hch p.1 z).2.2.2 p hp rfl;exact⟨keep p.1 p.2 ne nf nch e n,free p.1 p.2 nch e n,ne,nf,d⟩
theorem Inv.un{t':Nat}(I:Inv X pins σ H s)(u:Un X.fs [] H H' s.heap h')(hok:HOk X.prog X.w H' h'):Inv X pins σ H' { s with heap:=h',toks:=t' }:=by
 obtain⟨m,⟨o,es,ep,ho,r⟩,_⟩:=id I.loc;obtain⟨sl,hL⟩:=u.any ho I.free (by simp)
 exact I.step (g':=s.gens) (d':=s.drawn) (ch:=[]) (λ_ z=>nomatch z) (λb o _ hb _ e n=>u.keep b o e n hb (by simp)) (λb o _ hb _ e n=>u.slot b o e n hb (by simp)) (λb o _ e n=>u.free b o e n (by simp)) (λb o _ e=>u.there b o e (by simp)) u.tups u.frzs u.tbls (λm' hm=>by
  obtain⟨o',es',ep',ho',r'⟩:=hm;rw[ho] at ho';cases ho';exact⟨_,es',ep',hL,r'⟩) hok I.bare
theorem Inv.call{g':Array GenState}{t':Nat}{d':Drawn}{ch:List Addr}(I:Inv X pins σ H s)(u:Un (frs X.stack) ch H H' s.heap h')(hok:HOk X.prog X.w H' h')(hg:AllBare g')(hch:∀b∈ch,(b∈X.ex\/X.s₀.heap.objs.size<=b)/\b≠X.env.locals/\(∀x c,X.env.cells.lookup x=some c->c≠b)/\∀p∈X.pn++pins,p.1≠b):
  Inv X pins σ H' { s with heap:=h',gens:=g',drawn:=d',toks:=t' }:=by
 obtain⟨m,⟨o,es,ep,ho,r⟩,_⟩:=id I.loc;obtain⟨sl,hL⟩:=u.any ho I.free λz=>(hch _ z).2.1 rfl;exact I.step (ch:=ch) hch (λb o hL hb hc e n=>u.keep b o e n (λz=>(List.mem_cons.mp (I.stkSub b z)).elim hL hb) hc) (λb o _ _ hc e n=>u.any e n hc) (λb o hc e n=>u.free b o e n hc) (λb o hc e=>u.there b o e hc) u.tups u.frzs u.tbls (λm' hm=>by
  obtain⟨o',es',ep',ho',r'⟩:=hm;rw[ho] at ho';cases ho';exact⟨_,es',ep',hL,r'⟩) hok hg
theorem Inv.turned{t':Nat}{it:Addr}(I:Inv X pins σ H s)(k:∀b o,b≠it->s.heap.get? b=some o->h'.get? b=some o)(hn:H it=none)(hL:it≠X.env.locals)(h1:it∈X.ex\/X.s₀.heap.objs.size<=it)(h2:∀x c,X.env.cells.lookup x=some c->c≠it)(h3:∀p∈X.pn++pins,p.1≠it):Inv X pins σ H { s with heap:=h',toks:=t' }:=by
 have nit:∀b u,H b=some u->b≠it:=λb u e z=>by rw[z,hn] at e;cases e
 refine I.step (g':=s.gens) (d':=s.drawn) (ch:=[it]) (λb hb=>?_) (λb o _ _ hc e _=>k b o (λz=>hc (by simp[z])) e) (λb o _ _ hc e _=>⟨o.slots,k b o (λz=>hc (by simp[z])) e⟩) (λ_ _ _ _ n=>n)
  (λb o hc e=>⟨o,k b o (λz=>hc (by simp[z])) e⟩) (λ_ _ e=>e) (λ_ _ _ e=>e) (λb ps e=>⟨#[],by rw[e];simp⟩) (λm hm=>?_) (λb u e=>?_) I.bare
 ·have e:b=it:=by simpa using hb
  subst e;exact⟨h1,hL,h2,h3⟩
 ·obtain⟨o,es,ep,ho,r⟩:=hm
  exact⟨o,es,ep,k _ o (Ne.symm hL) ho,r⟩
 ·refine (I.hok b u e).stay (λc v hc q=>k c v ?_ q) (λ_ q=>q) λ_ _ q=>q
  rcases hc with z|z
  ·rw[z];exact nit b u e
  ·exact nit c _ z
theorem Inv.tok(I:Inv X pins σ H s)(t:Nat):Inv X pins σ H { s with toks:=t }:=I.un (h':=s.heap) (t':=t) Un.refl I.hok
theorem Inv.kept{t':Nat}(I:Inv X pins σ H s)(k:∀b u,s.heap.get? b=some u->h'.get? b=some u):Inv X pins σ H { s with heap:=h',toks:=t' }:=I.un (Un.kept k) (I.hok.kept k)
theorem Inv.laid{a:Addr}{o:HO}{t':Nat}(I:Inv X pins σ H s)(k:∀b u,s.heap.get? b=some u->h'.get? b=some u)(hp:s.heap.objs.size<=a)(new:ObjOk X.prog X.w (upd H a o) h' a o):
  Inv X pins σ (upd H a o) { s with heap:=h',toks:=t' }:=I.un (Un.laid k hp (I.hok.fresh hp)) (I.hok.laid k hp new)
theorem Inv.write{x e:Addr}{o:HO}{t':Nat}(I:Inv X pins σ H s)(mu:Mut (H x))(he:e=x\/H e=some (.own x))(k:∀b u,b≠e->s.heap.get? b=some u->h'.get? b=some u)(heo:∃u,h'.get? e=some u)(new:ObjOk X.prog X.w (upd H x o) h' x o):Inv X pins σ (upd H x o) { s with heap:=h',toks:=t' }:=I.un (Un.write mu he k heo) (I.hok.write mu he k heo new)
theorem Inv.weak{σ':List (Option V)}(I:Inv X pins σ H s)(hl:σ'.length=σ.length)(w:∀(i:Nat) v,σ'[i]?=some (some v)->σ[i]?=some (some v)):Inv X pins σ' H s :=
 ⟨I.ok,I.os,I.bare,I.base,let ⟨m,hn,hl'⟩:=I.loc;⟨m,hn,λi x v e1 e2 e3=>hl' i x v e1 (w i v e2) e3⟩,I.cell,I.free,I.freeC,I.pin,I.hok,hl.trans I.len⟩
theorem Inv.pins_of{pins':List (Addr×Obj)}(I:Inv X pins σ H s)(h:∀p∈pins',s.heap.get? p.1=some p.2/\H p.1=none/\p.1≠X.env.locals/\p.1 ∉ X.fs/\∀v,p.2.data≠.cell v):Inv X pins' σ H s :=
 ⟨I.ok,I.os,I.bare,I.base,I.loc,I.cell,I.free,I.freeC,λp hp=>(List.mem_append.mp hp).elim (λz=>I.pin p (List.mem_append_left _ z)) (h p),I.hok,I.len⟩
theorem c2z{N:List Str}(hN:N.Nodup){i j:Nat}{x:Str}(a:N[i]?=some x)(b:N[j]?=some x):i=j:=by
 obtain⟨h1,e1⟩:=List.getElem?_eq_some_iff.mp a;obtain⟨h2,e2⟩:=List.getElem?_eq_some_iff.mp b;exact(List.getElem_inj hN).mp (e1.trans e2.symm)
theorem c3t{M:Model}{A:Around}{E:Value->Shared->Prop}{i:Nat}{x:Str}{v:V}{u:Value}{Q:Unit->Shared->Prop}(I:Inv X pins σ H s)(hN:X.N.Nodup)(hi:X.N[i]?=some x)(hx:Loc X.env.scope x)(r:RelV v u)(h:∀s',Inv X pins (σ.set i (some v)) H s'->(∃a,Heap.SameBut a s.heap s'.heap/\(a=X.env.locals\/X.env.cells.lookup x=some a))->Q () s')(hf:X.fn x=true\/X.env.scope.names.lookup x=some .local:=by first|exact .inl rfl|exact .inr rfl|assumption):wpAny M A (storeName X.env x u) Q E s:=by
 obtain⟨m,hn,hl⟩:=id I.loc;have hcls:(X.env.scope.kind == .class || (X.env.scope.kind == .module && X.env.locals != X.env.globals))=false:=by rw[I.ok.kind];rfl
 have hiσ:i<σ.length:=by rw[I.len];exact(List.getElem?_eq_some_iff.mp hi).1
 have cne:=I.cne;have tracked:∀{a:Addr}{h':Heap},(∃o,s.heap.get? a=some o/\H a=none)->Heap.SameBut a s.heap h'->HOk X.prog X.w H h':=λ{a h'} ha hs b ob e=>by
  obtain⟨_,_,hfree⟩:=ha;refine (I.hok b ob e).stay (λc w' hc q=>(hs.2 c ?_).trans q) (λ_ q=>q) λ_ _ q=>q;rintro rfl;rcases hc with rfl|hc
  ·rw[hfree] at e;cases e
  ·rw[hfree] at hc;cases hc
 rcases hx with hk|hk
 ·refine wpAny_storeName_local hk hn (λh' hn' hs=>?_) hcls
  obtain⟨oL,_,_,hoL,_⟩:=id hn;refine h _ ⟨I.ok,I.os,I.bare,⟨λb o e n hb hx=>?_,λb o e n hb hx=>?_,I.base.free,λb o e hx=>?_,I.base.tups,I.base.frzs,I.base.tbls⟩,⟨_,hn',λj y v' e1 e2 e3=>?_⟩,λy c e=>?_,I.free,I.freeC,λp hp=>?_,tracked ⟨oL,hoL,I.free⟩ hs,by simpa using I.len⟩ ⟨_,hs,.inl rfl⟩
  ·exact(hs.2 b (Nat.ne_of_lt (Nat.lt_of_lt_of_le (Heap.lt_size e) I.ok.above))).trans (I.base.keep b o e n hb hx)
  ·obtain⟨sl,e1⟩:=I.base.slot b o e n hb hx
   exact⟨sl,(hs.2 b (Nat.ne_of_lt (Nat.lt_of_lt_of_le (Heap.lt_size e) I.ok.above))).trans e1⟩
  ·obtain⟨o',e1⟩:=I.base.there b o e hx
   exact⟨o',(hs.2 b (Nat.ne_of_lt (Nat.lt_of_lt_of_le (Heap.lt_size e) I.ok.above))).trans e1⟩
  ·by_cases hj:j=i
   ·subst hj
    rw[hi] at e1;cases e1;rw[List.getElem?_set_self hiσ] at e2;cases e2;exact⟨u,r,.inl ⟨hk,by simp⟩⟩
   ·rw[List.getElem?_set_ne (Ne.symm hj)] at e2
    obtain⟨u',r',q⟩:=hl j y v' e1 e2 e3;refine⟨u',r',?_⟩;rcases q with ⟨k,e⟩|⟨k,c,e,z⟩
    ·refine .inl ⟨k,?_⟩
     have:y≠x:=λe=>hj (c2z hN e1 (e ▸ hi));simp[this,e]
    ·exact .inr ⟨k,c,e,z.sameBut hs (cne y c e)⟩
  ·obtain⟨w',z⟩:=I.cell y c e
   exact⟨w',z.sameBut hs (cne y c e)⟩
  ·obtain⟨e,n,ne,nf,d⟩:=I.pin p hp
   exact⟨(hs.2 p.1 ne).trans e,n,ne,nf,d⟩
 ·have hfn:X.fn x=true:=by
   rcases hf with z|z
   ·exact z
   ·rw[z] at hk;cases hk
  obtain⟨c,hc⟩:=I.ok.has x (.inl hk);obtain⟨w',z⟩:=I.cell x c hc;refine wpAny_storeName_cell I.ok.kind hk hc z (λh' hc' hs=>?_);obtain⟨oc,hoc,hocd⟩:=id z;refine h { s with heap:=h' } ⟨I.ok,I.os,I.bare,⟨λb o e n hb hx=>?_,λb o e n hb hx=>?_,I.base.free,λb o e hx=>?_,I.base.tups,I.base.frzs,I.base.tbls⟩,⟨m,hn.sameBut hs (Ne.symm (cne x c hc)),λj y v' e1 e2 e3=>?_⟩,λy c' e=>?_,I.free,I.freeC,λp hp=>?_,tracked ⟨oc,hoc,I.freeC x c hc⟩ hs,by simpa using I.len⟩ ⟨c,hs,.inr hc⟩
  ·exact(hs.2 b (Nat.ne_of_lt (Nat.lt_of_lt_of_le (Heap.lt_size e) (I.ok.cab x c hfn hc)))).trans (I.base.keep b o e n hb hx)
  ·obtain⟨sl,e1⟩:=I.base.slot b o e n hb hx
   exact⟨sl,(hs.2 b (Nat.ne_of_lt (Nat.lt_of_lt_of_le (Heap.lt_size e) (I.ok.cab x c hfn hc)))).trans e1⟩
  ·obtain⟨o',e1⟩:=I.base.there b o e hx
   exact⟨o',(hs.2 b (Nat.ne_of_lt (Nat.lt_of_lt_of_le (Heap.lt_size e) (I.ok.cab x c hfn hc)))).trans e1⟩
  ·by_cases hj:j=i
   ·subst hj
    rw[hi] at e1;cases e1;rw[List.getElem?_set_self hiσ] at e2;cases e2;exact⟨u,r,.inr ⟨.inl hk,c,hc,hc'⟩⟩
   ·rw[List.getElem?_set_ne (Ne.symm hj)] at e2
    obtain⟨u',r',q⟩:=hl j y v' e1 e2 e3;refine⟨u',r',?_⟩;rcases q with q|⟨k,c',e,z'⟩
    ·exact .inl q
    ·refine .inr ⟨k,c',e,z'.sameBut hs ?_⟩
     rintro rfl;exact hj (c2z hN e1 (I.ok.inj _ _ _ e hc ▸ hi))
  ·by_cases hcc:c'=c
   ·subst hcc;exact⟨_,hc'⟩
   ·obtain⟨w2,z2⟩:=I.cell y c' e
    exact⟨w2,z2.sameBut hs hcc⟩
  ·obtain⟨e,n,ne,nf,d⟩:=I.pin p hp
   refine⟨(hs.2 p.1 ?_).trans e,n,ne,nf,d⟩;intro q;rw[q,hoc] at e;have q':oc=p.2:=Option.some.inj e;exact d w' (by rw[<- q'];exact hocd)
theorem b6w{M:Model}{A:Around}{E:Value->Shared->Prop}{i:Nat}{x:Str}{v:V}{u:Value}{Q:Unit->Shared->Prop}(I:Inv X pins σ H s)(hN:X.N.Nodup)(hi:X.N[i]?=some x)(hx:Loc X.env.scope x)(r:RelV v u)(h:∀s',Inv X pins (σ.set i (some v)) H s'->Q () s')(hf:X.fn x=true\/X.env.scope.names.lookup x=some .local:=by first|exact .inl rfl|exact .inr rfl|assumption):wpAny M A (storeName X.env x u) Q E s :=
 c3t I hN hi hx r (λs' I' _=>h s' I') hf
theorem Inv.call'{s':Shared}{ch:List Addr}(I:Inv X pins σ H s)(ho:s'.os=s.os)(u:Un (frs X.stack) ch H H' s.heap s'.heap)(hok:HOk X.prog X.w H' s'.heap)(hg:AllBare s'.gens)(hch:∀b∈ch,(b∈X.ex\/X.s₀.heap.objs.size<=b)/\b≠X.env.locals/\(∀x c,X.env.cells.lookup x=some c->c≠b)/\∀p∈X.pn++pins,p.1≠b):Inv X pins σ H' s':=by
 obtain⟨h',g',d',t',o'⟩:=s';have e:o'=s.os:=ho;subst e;exact I.call (g':=g') (t':=t') (d':=d') u hok hg hch
end
abbrev XK:=Value->Option Addr->Hp->Prop
abbrev St:=List (Option V)
abbrev VK:=V->Hp->Prop
abbrev TE:=St->Hp->VK->Prop
abbrev TT:=St->Hp->(Bool->Hp->Prop)->Prop
abbrev TA:=St->Hp->(List V->Hp->Prop)->Prop
structure Ends where
 nx:St->Hp->Prop
 rt:VK
 bk:St->Hp->Prop:=λ_ _=>False
 ct:St->Hp->Prop:=λ_ _=>False
abbrev TS:=Ends->St->Hp->Prop
def EP(X:Cx)(pins:List (Addr×Obj))(σ:St)(Q:VK)(u:Value)(s':Shared):Prop:=∃v H',Inv X pins σ H' s'/\RelV v u/\Q v H'
def TP(X:Cx)(pins:List (Addr×Obj))(σ:St)(Q:Bool->Hp->Prop)(b:Bool)(s':Shared):Prop:=∃H',Inv X pins σ H' s'/\Q b H'
def AP(X:Cx)(pins:List (Addr×Obj))(σ:St)(Q:List V->Hp->Prop)(us:List Value)(s':Shared):Prop:=∃vs H',Inv X pins σ H' s'/\Vals vs us/\Q vs H'
def SP(X:Cx)(pins:List (Addr×Obj))(D:Ends)(f:Flow)(s':Shared):Prop :=
 match f with
 | .next=>∃σ' H',Inv X pins σ' H' s'/\D.nx σ' H'
 | .brk=>∃σ' H',Inv X pins σ' H' s'/\D.bk σ' H'
 | .cont=>∃σ' H',Inv X pins σ' H' s'/\D.ct σ' H'
 | .ret u=>∃v σ' H',Inv X pins σ' H' s'/\RelV v u/\D.rt v H'
def PE(X:Cx)(e:Expr)(t:TE):Prop :=
 ∀(pins:List (Addr×Obj))(s:Shared)(σ:St)(H:Hp)(Q:VK),Inv X pins σ H s->t σ H Q->wpAny (model X.prog X.w) X.A (eval e X.env) (EP X pins σ Q) X.xe s
def PT(X:Cx)(e:Expr)(t:TT):Prop :=
 ∀(pins:List (Addr×Obj))(s:Shared)(σ:St)(H:Hp)(Q:Bool->Hp->Prop),Inv X pins σ H s->t σ H Q->wpAny (model X.prog X.w) X.A (isTrue e X.env (eval e X.env)) (TP X pins σ Q) X.xe s
def PW(X:Cx)(e:Expr)(t:TT):Prop :=
 ∀(whole:Sem Value)(pins:List (Addr×Obj))(s:Shared)(σ:St)(H:Hp)(Q:Bool->Hp->Prop),Inv X pins σ H s->t σ H Q->wpAny (model X.prog X.w) X.A (isTrue e X.env whole) (TP X pins σ Q) X.xe s
theorem PW.pt{X:Cx}{e:Expr}{t:TT}(h:PW X e t):PT X e t:=h _
def PA(X:Cx)(es:List Expr)(t:TA):Prop :=
 ∀(pos:Pos)(pins:List (Addr×Obj))(s:Shared)(σ:St)(H:Hp)(Q:List V->Hp->Prop),Inv X pins σ H s->t σ H Q->wpAny (model X.prog X.w) X.A (spliced (backTo pos (starEach es X.env))) (AP X pins σ Q) X.xe s
def PS(X:Cx)(st:Stmt)(t:TS):Prop :=
 ∀(pins:List (Addr×Obj))(s:Shared)(σ:St)(H:Hp)(D:Ends),Inv X pins σ H s->t D σ H->wpAny (model X.prog X.w) X.A (exec st X.env) (SP X pins D) X.xe s
def PSs(X:Cx)(st:List Stmt)(t:TS):Prop :=
 ∀(pins:List (Addr×Obj))(s:Shared)(σ:St)(H:Hp)(D:Ends),Inv X pins σ H s->t D σ H->wpAny (model X.prog X.w) X.A (execs st X.env) (SP X pins D) X.xe s
theorem thn{α:Type}{t:Sem α}{Q Q':α->Shared->Prop}{M:Model}{A:Around}{E:Value->Shared->Prop}{s:Shared}(h:wpAny M A t Q E s)(hQ:∀a s,Q a s->Q' a s):wpAny M A t Q' E s:=wpAny_mono h hQ λ_ _ x=>x
end L2
namespace L2
open PySem PySem.Spec PyProof.Rows
section
variable{X:Cx}
def e1k(i:Nat):TE:=λσ H Q=>∃v,σ[i]?=some (some v)/\Q v H
def tC(v:V):TE:=λ_ H Q=>Q v H
theorem d8b{i:Nat}{x:Str}{pos:Pos}(hN:X.N[i]?=some x)(hv:Vis X.env.scope x)(hd:(x == ("__debug__":Str))=false:=by decide)(hcd:(x == ("__classdict__":Str))=false:=by decide):PE X (.Name x pos) (e1k i):=by
 intro pins s σ H Q I h;obtain⟨v,e,h⟩:=h;obtain⟨m,hn,hl⟩:=I.loc;obtain⟨u,r,l⟩:=hl i x v hN e hv;have fin:EP X pins σ Q u s:=⟨v,H,I,r,h⟩;rcases l with ⟨hk,hm⟩|⟨hk,c,hc,hcell⟩
 ·exact wpAny_Name (wpAny_loadName_local I.ok.kind hk hn hm fin) hd
 ·rcases hk with hk|hk
  ·exact wpAny_Name (wpAny_loadName_cell I.ok.kind hk hc hcell fin) hd
  ·exact wpAny_Name (wpAny_loadName_free I.ok.kind hk hc hcell fin hcd) hd
theorem g3{i j pos}:PE X (.Constant (.int i) j pos) (tC (.int i)):=λ_ _ _ H _ I h=>wpAny_Constant_int ⟨.int i,H,I.tok _,⟨_,rfl⟩,h⟩
theorem a6o{b j pos}:PE X (.Constant (.bool b) j pos) (tC (.bl b)):=λ_ _ _ H _ I h=>Constant_bool ⟨.bl b,H,I,rfl,h⟩
theorem c0e{j pos}:PE X (.Constant .none j pos) (tC .non):=λ_ _ _ H _ I h=>Constant_none ⟨.non,H,I,rfl,h⟩
theorem g7{x j pos}:PE X (.Constant (.str x) j pos) (tC (.str x)):=λ_ _ _ H _ I h=>Calls.Constant_str ⟨.str x,H,I.tok _,⟨_,rfl⟩,h⟩
def Gl(X:Cx)(x:Str):Prop:=X.env.kindOf x=some .globalImplicit
theorem b8t{E:Value->Shared->Prop}{pins:List (Addr×Obj)}{s:Shared}{σ:St}{H:Hp}{x:Str}{u:Value}{pos:Pos}{Q:Value->Shared->Prop}(I:Inv X pins σ H s)(hg:Gl X x)(hm:X.mg x=some u)(h:Q u s)(hd:(x == ("__debug__":Str))=false:=by decide):wpAny (model X.prog X.w) X.A (eval (.Name x pos) X.env) Q E s :=
 Calls.Name_function_global I.ok.kind hg (Calls.loadGlobal_global (by rw[I.ok.glob];exact I.mod.glob.keeps I.bk) hm h) hd
theorem c0h{E:Value->Shared->Prop}{pins:List (Addr×Obj)}{s:Shared}{σ:St}{H:Hp}{x:Str}{u:Value}{pos:Pos}{Q:Value->Shared->Prop}(I:Inv X pins σ H s)(hg:Gl X x)(hm:X.mg x=none)(hv:bootBuiltins x=some u)(h:Q u s)(hn:x≠"__name__":=by decide)(hd:(x == ("__debug__":Str))=false:=by decide):wpAny (model X.prog X.w) X.A (eval (.Name x pos) X.env) Q E s:=by
 obtain⟨mb,h1,h2⟩:=I.mod.blt;exact Calls.Name_function_global I.ok.kind hg (Calls.loadGlobal_builtin (by rw[I.ok.glob];exact I.mod.glob.keeps I.bk) hm (by rw[I.ok.blt];exact h1.keeps I.bk) ((h2 x hn).trans hv) h) hd
theorem b8g{x:Str}{v:V}{u:Value}{pos:Pos}(hg:Gl X x)(hm:X.mg x=some u)(r:RelV v u)(hd:(x == ("__debug__":Str))=false:=by decide):PE X (.Name x pos) (tC v) :=
 λ_ _ _ H _ I h=>b8t I hg hm ⟨v,H,I,r,h⟩ hd
theorem d9s{x:Str}{v:V}{u:Value}{pos:Pos}(hg:Gl X x)(hm:X.mg x=none)(hv:bootBuiltins x=some u)(r:RelV v u)(hn:x≠"__name__":=by decide)(hd:(x == ("__debug__":Str))=false:=by decide):PE X (.Name x pos) (tC v) :=
 λ_ _ _ H _ I h=>c0h I hg hm hv ⟨v,H,I,r,h⟩ hn hd
variable{a b:Expr}{ta tb:TE}{pos:Pos}
def PC(X:Cx)(op:CmpOp)(a b:Expr)(t:TE):Prop :=
 ∀(pins:List (Addr×Obj))(s:Shared)(σ:St)(H:Hp)(Q:VK),Inv X pins σ H s->t σ H Q ->
  wpAny (model X.prog X.w) X.A (eval a X.env) (λv s₁=>wpAny (model X.prog X.w) X.A (eval b X.env) (λu s₂=>wpAny (model X.prog X.w) X.A (compareOp op v u) (EP X pins σ Q) X.xe s₂) X.xe s₁) X.xe s
def tB(t:TE):TT:=λσ H Q=>t σ H λx H1=>∃c,x=.bl c/\Q c H1
theorem e2b{op:CmpOp}{t:TE}(h:PC X op a b t)(h1:behindInMarks op b=false:=by first|exact nobehind _ ↑3 ↑3|rfl):PT X (.Compare a [op] [b] pos) (tB t):=by
 intro pins s σ H Q I hw;refine wpAny_isTrue_Compare1 (thn (h pins s σ H _ I hw) λv s1 h1=>thn h1 λu s2 h2=>thn h2 λc s3 z0_=>?_) h1;obtain⟨x,H1,I1,r1,q1⟩:=z0_;obtain⟨d,rfl,q⟩:=q1;cases r1;exact wpAny_truthy_bool ⟨H1,I1,q⟩
theorem b3u{e:Expr}{t:TE}(h:PE X e t)(he:∀whole,isTrue e X.env whole=(do let v <- whole;standAt e.pos;holding [v] (truthy v)):=by intro _;rfl):PT X e (tB t):=by
 intro pins s σ H Q I hw;refine isTrue_plain (thn (h pins s σ H _ I hw) λv s1 z0_=>?_) (he _);obtain⟨x,H1,I1,r1,q1⟩:=z0_;obtain⟨d,rfl,q⟩:=q1;cases r1;exact wpAny_truthy_bool ⟨H1,I1,q⟩
variable{tA tB':TT}{rest:List Expr}
def e6v(t u:TT):TT:=λσ H Q=>t σ H λc H1=>if c=true then u σ H1 Q else Q false H1
def tOr(t u:TT):TT:=λσ H Q=>t σ H λc H1=>if c=true then Q true H1 else u σ H1 Q
def e6r(t:TT):TT:=λσ H Q=>t σ H λc H1=>Q (!c) H1
theorem c7m(ha:PT X a tA):PW X (.BoolOp .And [a] pos) tA:=by
 intro wh pins s σ H Q I h;refine isTrue_and (thn (ha pins s σ H Q I h) λc s1 e=>?_);cases c with
 | true=>exact isTrue_and_nil e
 | false=>exact e
theorem b6h(ha:PT X a tA):PW X (.BoolOp .Or [a] pos) tA:=by
 intro wh pins s σ H Q I h;refine isTrue_or (thn (ha pins s σ H Q I h) λc s1 e=>?_);cases c with
 | false=>exact isTrue_or_nil e
 | true=>exact e
theorem d2t(ha:PT X a tA)(hb:PW X (.BoolOp .And (b::rest) pos) tB'):PW X (.BoolOp .And (a::b::rest) pos) (e6v tA tB'):=by
 intro wh pins s σ H Q I h;refine isTrue_and (thn (ha pins s σ H _ I h) λc s1 z0_=>?_);obtain⟨H1,I1,q1⟩:=z0_;cases c with
 | true=>exact hb wh pins s1 σ H1 Q I1 q1
 | false=>exact⟨H1,I1,q1⟩
theorem c4r(ha:PT X a tA)(hb:PW X (.BoolOp .Or (b::rest) pos) tB'):PW X (.BoolOp .Or (a::b::rest) pos) (tOr tA tB'):=by
 intro wh pins s σ H Q I h;refine isTrue_or (thn (ha pins s σ H _ I h) λc s1 z0_=>?_);obtain⟨H1,I1,q1⟩:=z0_;cases c with
 | true=>exact⟨H1,I1,q1⟩
 | false=>exact hb wh pins s1 σ H1 Q I1 q1
theorem d2u(ha:PT X a tA):PT X (.UnaryOp .Not a pos) (e6r tA):=by
 intro pins s σ H Q I h;exact isTrue_not (ha pins s σ H (λc H1=>Q (!c) H1) I h)
def e1t(ta tb:TE):TE:=λσ H Q=>ta σ H λx H1=>∃c,x=.bl c/\if c=true then tb σ H1 Q else Q (.bl false) H1
def e6p(ta tb:TE):TE:=λσ H Q=>ta σ H λx H1=>∃c,x=.bl c/\if c=true then Q (.bl true) H1 else tb σ H1 Q
def e1n(ta:TE):TE:=λσ H Q=>ta σ H λx H1=>∃c,x=.bl c/\Q (.bl (!c)) H1
theorem a7t{op}{t:TE}(h:PE X a t):PE X (.BoolOp op [a] pos) t:=λpins s σ H Q I hw=>BoolOp_one (h pins s σ H Q I hw)
theorem b8h(ha:PE X a ta)(hb:PE X (.BoolOp .And (b::rest) pos) tb):PE X (.BoolOp .And (a::b::rest) pos) (e1t ta tb):=by
 intro pins s σ H Q I h;refine BoolOp_and (thn (ha pins s σ H _ I h) λv s1 z0_=>?_);obtain⟨x,H1,I1,r1,q1⟩:=z0_;obtain⟨c,rfl,q1⟩:=q1;cases r1;refine wpAny_truthy_bool ?_;cases c with
 | true=>exact hb pins s1 σ H1 Q I1 q1
 | false=>exact⟨.bl false,H1,I1,rfl,q1⟩
theorem d0w(ha:PE X a ta)(hb:PE X (.BoolOp .Or (b::rest) pos) tb):PE X (.BoolOp .Or (a::b::rest) pos) (e6p ta tb):=by
 intro pins s σ H Q I h;refine BoolOp_or (thn (ha pins s σ H _ I h) λv s1 z0_=>?_);obtain⟨x,H1,I1,r1,q1⟩:=z0_;obtain⟨c,rfl,q1⟩:=q1;cases r1;refine wpAny_truthy_bool ?_;cases c with
 | false=>exact hb pins s1 σ H1 Q I1 q1
 | true=>exact⟨.bl true,H1,I1,rfl,q1⟩
theorem e2h(ha:PE X a ta):PE X (.UnaryOp .Not a pos) (e1n ta):=by
 intro pins s σ H Q I h;refine UnaryOp_ (thn (ha pins s σ H _ I h) λv s1 z0_=>?_);obtain⟨x,H1,I1,r1,q1⟩:=z0_;obtain⟨c,rfl,q1⟩:=q1;cases r1;exact not_of (wpAny_truthy_bool ⟨.bl (!c),H1,I1,rfl,q1⟩)
def tIf(t:TT)(ta tb:TE):TE:=λσ H Q=>t σ H λc H1=>if c=true then ta σ H1 Q else tb σ H1 Q
theorem a5m{c:Expr}(hc:PT X c tA)(ha:PE X a ta)(hb:PE X b tb):PE X (.IfExp c a b pos) (tIf tA ta tb):=by
 intro pins s σ H Q I h;refine wpAny_IfExp (thn (hc pins s σ H _ I h) λd s1 z0_=>?_);obtain⟨H1,I1,q1⟩:=z0_;cases d with
 | true=>exact ha pins s1 σ H1 Q I1 q1
 | false=>exact hb pins s1 σ H1 Q I1 q1
end
end L2
namespace L2
open PySem PySem.Spec PyProof.Rows
def SqL(K:Frag)(H:Hp)(a:Addr)(xs:List V):Prop :=
 Rd H a (.lst xs) \/
  ∃(o:Obj)(its:Array Value)(n:Nat),K.lookup a=some o/\o.cls=.type "list"/\o.dict=none/\o.data=.seq its n/\its.size<=sizeLine/\Vals xs its.toList
def SqT(K:Frag)(H:Hp)(a:Addr)(xs:List V):Prop :=
 Rd H a (.tup xs) \/
  ∃(o:Obj)(its:Array Value)(n:Nat),K.lookup a=some o/\o.cls=.type "tuple"/\o.data=.seq its n/\its.size<=sizeLine/\Vals xs its.toList
def e8g:Value->Option V
 | .none=>some .non
 | .bool b=>some (.bl b)
 | .int i _=>some (.int i)
 | .str x _=>some (.str x)
 | .bytes b _=>some (.byt b)
 | .float b _=>some (.flt b)
 | .ref a=>some (.ref a)
 | .type n=>some (.ty n)
 | _=>none
theorem RelV.abs{x:V}{u:Value}(r:RelV x u):e8g u=some x:=by
 cases x with
 | non=>cases r;rfl
 | bl _=>cases r;rfl
 | int _=>obtain⟨t,rfl⟩:=r;rfl
 | str _=>obtain⟨t,rfl⟩:=r;rfl
 | byt _=>obtain⟨t,rfl⟩:=r;rfl
 | flt _=>obtain⟨t,rfl⟩:=r;rfl
 | ref _=>cases r;rfl
 | ty _=>cases r;rfl
theorem RelV.inj{x y:V}{u:Value}(r:RelV x u)(q:RelV y u):x=y:=Option.some.inj (r.abs.symm.trans q.abs)
theorem Vals.inj{xs ys:List V}{us:List Value}(h:Vals xs us)(h':Vals ys us):xs=ys:=by
 induction h generalizing ys with
 | nil=>cases h';rfl
 | cons r t ih=>cases h' with|cons r' t'=>rw[r.inj r',ih t']
section
variable{X:Cx}{pins:List (Addr×Obj)}{σ:St}{H:Hp}{s:Shared}{a:Addr}{xs ys:List V}
theorem SqL.of{K:Frag}(h:H a=some (.lst xs)):SqL K H a xs:=.inl (.inl h)
theorem SqT.of{K:Frag}(h:H a=some (.tup xs)):SqT K H a xs:=.inl (.inl h)
theorem Inv.list(I:Inv X pins σ H s)(h:SqL X.K H a xs):∃its:List Value,Vals xs its/\PlainL s.heap a its.toArray/\xs.length<=sizeLine:=by
 rcases h with h|⟨o,its,n,hk,hc,hd,hs,hz,r⟩
 ·obtain⟨z,its,n,r,e⟩:=h.ok I.hok
  exact⟨its,r,⟨_,n,e,rfl,rfl,rfl⟩,z⟩
 ·refine⟨its.toList,r,⟨o,n,I.kIn a o hk,hc,hd,by simpa using hs⟩,?_⟩
  have e:=r.length;simp only[Array.length_toList] at e;lia
theorem Inv.tuple(I:Inv X pins σ H s)(h:SqT X.K H a xs):∃its:List Value,Vals xs its/\IsTup s.heap a its.toArray/\xs.length<=sizeLine:=by
 rcases h with h|⟨o,its,n,hk,hc,hs,hz,r⟩
 ·obtain⟨z,its,r,p⟩:=h.ok I.hok
  exact⟨its,r,p,z⟩
 ·refine⟨its.toList,r,⟨o,I.kIn a o hk,hc,n,by simpa using hs⟩,?_⟩
  have e:=r.length;simp only[Array.length_toList] at e;lia
theorem Inv.list_inj(I:Inv X pins σ H s)(h:SqL X.K H a xs)(h':SqL X.K H a ys):xs=ys:=by
 obtain⟨its,r,⟨o,n,e,_,_,d⟩,_⟩:=I.list h;obtain⟨its',r',⟨o',n',e',_,_,d'⟩,_⟩:=I.list h';rw[e] at e';cases e';rw[d] at d';injection d' with d1 _
 have:its=its':=by simpa using congrArg Array.toList d1
 subst this;exact r.inj r'
theorem Inv.tuple_inj(I:Inv X pins σ H s)(h:SqT X.K H a xs)(h':SqT X.K H a ys):xs=ys:=by
 obtain⟨its,r,⟨o,e,_,n,d⟩,_⟩:=I.tuple h;obtain⟨its',r',⟨o',e',_,n',d'⟩,_⟩:=I.tuple h';rw[e] at e';cases e';rw[d] at d';injection d' with d1 _
 have:its=its':=by simpa using congrArg Array.toList d1
 subst this;exact r.inj r'
end
section
variable{X:Cx}{pins:List (Addr×Obj)}{σ:St}{H:Hp}{s:Shared}{E:Value->Shared->Prop}
end
section
variable{X:Cx}{st:Stmt}{rest:List Stmt}{t u:TS}{e:Expr}{te:TE}{pos:Pos}
def d9c:TS:=λD σ H=>D.nx σ H
def e1l(t u:TS):TS:=λD σ H=>t { D with nx:=u D } σ H
theorem r0:PSs X [] d9c:=λ_ _ σ H _ I h=>wpAny_execs_nil ⟨σ,H,I,h⟩
theorem d5(h1:PS X st t)(h2:PSs X rest u):PSs X (st::rest) (e1l t u):=by
 intro pins s σ H D I h;refine wpAny_execs_cons (thn (h1 pins s σ H { D with nx:=u D } I h) λf s1 q=>?_)
 cases f with
 | next=>
  obtain⟨σ',H',I',q⟩:=q;exact h2 pins s1 σ' H' D I' q
 | ret v=>exact q
 | brk=>exact q
 | cont=>exact q
theorem d8(h1:PS X st t):PSs X [st] t:=by
 intro pins s σ H D I h;refine wpAny_execs_cons (thn (h1 pins s σ H D I h) λf s1 q=>?_);cases f with
 | next=>exact wpAny_execs_nil q
 | ret v=>exact q
 | brk=>exact q
 | cont=>exact q
theorem Inv.quiet{pins:List (Addr×Obj)}{σ:St}{H:Hp}{s:Shared}(I:Inv X pins σ H s):interactive X.env=false:=by simp[interactive,I.ok.kind]
def e1p(te:TE):TS:=λD σ H=>te σ H λ_ H1=>D.nx σ H1
theorem i8(he:PE X e te)(hs:swapsWith e none pos.line X.env=pure false:=by rfl):PS X (.Expr e pos) (e1p te):=by
 intro pins s σ H D I h;exact wpAny_Expr_any (thn (he pins s σ H _ I h) λv s1 z0_=>by obtain⟨x,H1,I1,r1,q1⟩:=z0_;exact⟨σ,H1,I1,q1⟩) I.quiet hs
def e6o(te:TE):TS:=λD σ H=>te σ H D.rt
theorem g4(he:PE X e te):PS X (.Return (some e) pos) (e6o te):=by
 intro pins s σ H D I h;exact wpAny_Return_some (thn (he pins s σ H _ I h) λv s1 z0_=>by obtain⟨x,H1,I1,r1,q1⟩:=z0_;exact⟨x,σ,H1,I1,r1,q1⟩)
def e4u(c:TT)(t u:TS):TS:=λD σ H=>c σ H λb H1=>if b=true then t D σ H1 else u D σ H1
theorem a0q{c:Expr}{a b:List Stmt}{tc:TT}(hc:PT X c tc)(ha:PSs X a t)(hb:PSs X b u):PS X (.If c a b pos) (e4u tc t u):=by
 intro pins s σ H D I h;refine wpAny_If (thn (hc pins s σ H _ I h) λd s1 z0_=>?_);obtain⟨H1,I1,q1⟩:=z0_;cases d with
 | true=>exact ha pins s1 σ H1 D I1 q1
 | false=>exact hb pins s1 σ H1 D I1 q1
end
abbrev TG:=V->St->Hp->(St->Hp->Prop)->Prop
abbrev TGs:=List V->St->Hp->(St->Hp->Prop)->Prop
def PG(X:Cx)(target:Expr)(t:TG):Prop :=
 ∀(pins:List (Addr×Obj))(s:Shared)(σ:St)(H:Hp)(v:V)(u:Value)(Q:St->Hp->Prop),Inv X pins σ H s->RelV v u->t v σ H Q ->
  wpAny (model X.prog X.w) X.A (assign target X.env u) (λ_ s'=>∃σ' H',Inv X pins σ' H' s'/\Q σ' H') X.xe s
def PGs(X:Cx)(ts:List Expr)(t:TGs):Prop :=
 ∀(pins:List (Addr×Obj))(s:Shared)(σ:St)(H:Hp)(vs:List V)(us:List Value)(Q:St->Hp->Prop),Inv X pins σ H s->Vals vs us->t vs σ H Q ->
  wpAny (model X.prog X.w) X.A (assignInOrder ((assignEach ts X.env).map (·.2)) us) (λ_ s'=>∃σ' H',Inv X pins σ' H' s'/\Q σ' H') X.xe s
abbrev e0z:=V->V->V->Hp->(Hp->Prop)->Prop
def e6h(X:Cx)(t:e0z):Prop :=
 ∀(pins:List (Addr×Obj))(s:Shared)(σ:St)(H:Hp)(o i v:V)(ov iv u:Value)(Q:Hp->Prop),Inv X pins σ H s->RelV o ov->RelV i iv->RelV v u->t o i v H Q ->
  wpAny (model X.prog X.w) X.A (setItem ov iv u) (λ_ s'=>∃H',Inv X pins σ H' s'/\Q H') X.xe s
abbrev TIp:=V->V->Hp->VK->Prop
def PIp(X:Cx)(op:Operator)(t:TIp):Prop :=
 ∀(pins:List (Addr×Obj))(s:Shared)(σ:St)(H:Hp)(x y:V)(v u:Value)(Q:VK),Inv X pins σ H s->RelV x v->RelV y u->t x y H Q ->
  wpAny (model X.prog X.w) X.A (inplaceOp op v u) (EP X pins σ Q) X.xe s
section
variable{X:Cx}{pos:Pos}
def c8j(i:Nat):TG:=λv σ H Q=>Q (σ.set i (some v)) H
theorem v6{i:Nat}{x:Str}(hN:X.N.Nodup)(hi:X.N[i]?=some x)(hx:Loc X.env.scope x)(hf:X.fn x=true\/X.env.scope.names.lookup x=some .local:=by first|exact .inl rfl|exact .inr rfl|assumption):PG X (.Name x pos) (c8j i):=by
 intro pins s σ H v u Q I r h;exact wpAny_assign_Name (b6w I hN hi hx r (λs' I'=>⟨_,H,I',h⟩) hf)
def e7g:TGs:=λvs σ H Q=>vs=[]/\Q σ H
def e0t(t:TG)(u:TGs):TGs:=λvs σ H Q=>∃v r,vs=v::r/\t v σ H λσ' H'=>u r σ' H' Q
theorem b8e:PGs X [] e7g:=by
 intro pins s σ H vs us Q I r h;obtain⟨e,h⟩:=h;subst e;cases r;exact assignInOrder_nil ⟨σ,H,I,h⟩
theorem a3e{e:Expr}{es:List Expr}{t:TG}{u:TGs}(h1:PG X e t)(h2:PGs X es u)(hs:(assignEach (e::es) X.env).map (·.2)=assign e X.env::(assignEach es X.env).map (·.2):=by rfl):PGs X (e::es) (e0t t u):=by
 intro pins s σ H vs us Q I r h;obtain⟨v,vr,e1,h⟩:=h;subst e1;cases r with
 | cons r rr=>
  rw[hs];refine assignInOrder_cons (thn (h1 pins s σ H _ _ _ I r h) λ_ s1 z0_=>?_);obtain⟨σ1,H1,I1,q1⟩:=z0_;exact h2 pins s1 σ1 H1 _ _ Q I1 rr q1
def e6d(K:Frag)(n:Nat)(t:TGs):TG:=λv σ H Q=>∃a xs,v=.ref a/\SqT K H a xs/\xs.length=n/\t xs σ H Q
theorem e2g{es:List Expr}{k:Nat}{t:TGs}{n:Nat}(hc:X.calm=true)(h:PGs X es t)(hn:(assignEach es X.env).length=n:=by rfl)(hst:(assignEach es X.env).findIdx? (·.1)=none:=by rfl):PG X (.Tuple es k pos) (e6d X.K n t):=by
 intro pins s σ H v u Q I r hw;obtain⟨a,xs,e1,hq,hl,hw⟩:=hw;subst e1;cases r;obtain⟨its,rv,ht,hz⟩:=I.tuple hq;refine assign_Tuple_tuple (I.ok.hd hc) ht (by simp[hn,<- hl,rv.length]) hst λh' hx=>?_
 have I1:Inv X pins σ H { s with heap:=h' }:=I.kept (t':=s.toks) λb o e=>hx b o (Nat.ne_of_lt (Heap.lt_size e)) e
 exact h pins _ σ H xs _ Q I1 (by simpa using rv) hw
def e7f(to ti:TE)(t:e0z):TG:=λv σ H Q=>to σ H λo H1=>ti σ H1 λi H2=>t o i v H2 λH3=>Q σ H3
theorem d3a{o i:Expr}{to ti:TE}{t:e0z}(ho:PE X o to)(hi:PE X i ti)(hs:e6h X t)(ha:∀v,assign (.Subscript o i pos) X.env v=(do
   let ov <- holding [v] (eval o X.env)
   let iv <- holding [v,ov] (eval i X.env)
   standAt pos
   holding [v,ov,iv] (setItem ov iv v)
   release [v,ov,iv] []):=by intro _;rfl):PG X (.Subscript o i pos) (e7f to ti t):=by
 intro pins s σ H v u Q I r h;rw[ha];refine wpAny_bind (wpAny_holding (thn (ho pins s σ H _ I h) λov s1 z0_=>?_));obtain⟨x,H1,I1,r1,q1⟩:=z0_;refine wpAny_bind (wpAny_holding (thn (hi pins s1 σ H1 _ I1 q1) λiv s2 z0_=>?_));obtain⟨y,H2,I2,r2,q2⟩:=z0_;refine wpAny_bind (wpAny_standAt (wpAny_bind (wpAny_holding (thn (hs pins s2 σ H2 x y v ov iv u _ I2 r1 r2 r q2) λ_ s3 z0_=>?_))));obtain⟨H3,I3,q3⟩:=z0_;exact wpAny_release ⟨σ,H3,I3,q3⟩
def e4i(te:TE)(g:TG):TS:=λD σ H=>te σ H λx H1=>g x σ H1 D.nx
theorem b6i{tg e:Expr}{te:TE}{g:TG}(he:PE X e te)(hg:PG X tg g)(hs:swapsWithSole [tg] e pos.line X.env=pure false:=by rfl)(hw:swappedStores [tg] e X.env=pure none:=by rfl)(h1:(assignEach [tg] X.env).map (·.2)=[assign tg X.env]:=by rfl):PS X (.Assign [tg] e pos) (e4i te g):=by
 intro pins s σ H D I h;refine wpAny_Assign_stores (thn (he pins s σ H _ I h) λv s1 z0_=>?_) hs hw;obtain⟨x,H1,I1,r1,q1⟩:=z0_;rw[h1];exact thn (hg pins s1 σ H1 x v _ I1 r1 q1) λ_ s2 q=>q
theorem j9{i:Nat}{x:Str}{e:Expr}{te:TE}{pos':Pos}(hN:X.N.Nodup)(hi:X.N[i]?=some x)(hx:Loc X.env.scope x)(he:PE X e te)(hs:swapsWith e (some (.Name x pos')) pos.line X.env=pure false:=by rfl)(hf:X.fn x=true\/X.env.scope.names.lookup x=some .local:=by first|exact .inl rfl|exact .inr rfl|assumption):
  PS X (.Assign [.Name x pos'] e pos) (e4i te (c8j i)):=by
 intro pins s σ H D I h;refine wpAny_Assign_Name (thn (he pins s σ H _ I h) λv s1 z0_=>?_) hs;obtain⟨y,H1,I1,r1,q1⟩:=z0_;exact b6w I1 hN hi hx r1 (λs2 I2=>⟨_,H1,I2,q1⟩) hf
def e7n(i:Nat)(te:TE)(ti:TIp):TS:=λD σ H=>∃x,σ[i]?=some (some x)/\te σ H λy H1=>ti x y H1 λz H2=>D.nx (σ.set i (some z)) H2
theorem e2d{i:Nat}{x:Str}{e:Expr}{te:TE}{op:Operator}{ti:TIp}{pos':Pos}(hN:X.N.Nodup)(hi:X.N[i]?=some x)(hx:Loc X.env.scope x)(he:PE X e te)(ho:PIp X op ti)(hf:X.fn x=true\/X.env.scope.names.lookup x=some .local:=by first|exact .inl rfl|exact .inr rfl|assumption):
  PS X (.AugAssign (.Name x pos') op e pos) (e7n i te ti):=by
 intro pins s σ H D I h;obtain⟨v,e1,h⟩:=h;obtain⟨m,hn,hl⟩:=I.loc;have vis:Vis X.env.scope x:=by rcases hx with k|k;exact .inl k;exact .inr (.inl k)
 obtain⟨u,r,l⟩:=hl i x v hi e1 vis;refine wpAny_AugAssign_Name ?_;have go:wpAny (model X.prog X.w) X.A (eval e X.env) (λw s₂=>wpAny (model X.prog X.w) X.A (inplaceOp op u w) (λr s₃=>wpAny (model X.prog X.w) X.A (storeName X.env x r) (λ_=>SP X pins D .next) X.xe s₃) X.xe s₂) X.xe s:=by
  refine thn (he pins s σ H _ I h) λw s1 z0_=>?_;obtain⟨y,H1,I1,r1,q1⟩:=z0_;refine thn (ho pins s1 σ H1 v y u w _ I1 r r1 q1) λz s2 z0_=>?_;obtain⟨zv,H2,I2,r2,q2⟩:=z0_;exact b6w I2 hN hi hx r2 (λs3 I3=>⟨_,H2,I3,q2⟩) hf
 rcases l with ⟨hk,hm⟩|⟨hk,c,hc,hcell⟩
 ·exact wpAny_loadName_local I.ok.kind hk hn hm go
 ·rcases hk with hk|hk
  ·exact wpAny_loadName_cell I.ok.kind hk hc hcell go
  ·rcases hx with k|k
   ·have:X.env.scope.names.lookup x=some .free:=hk
    rw[k] at this;cases this
   ·have:X.env.scope.names.lookup x=some .free:=hk
    rw[k] at this;cases this
def e1s(to ti te:TE)(tget:V->V->Hp->VK->Prop)(tip:TIp)(tset:e0z):TS:=λD σ H=>to σ H λo H1=>ti σ H1 λi H2=>tget o i H2 λx H3=>te σ H3 λy H4=>tip x y H4 λz H5=>tset o i z H5 λH6=>D.nx σ H6
def e7i(X:Cx)(t:V->V->Hp->VK->Prop):Prop :=
 ∀(pins:List (Addr×Obj))(s:Shared)(σ:St)(H:Hp)(o i:V)(ov iv:Value)(Q:VK),Inv X pins σ H s->RelV o ov->RelV i iv->t o i H Q ->
  wpAny (model X.prog X.w) X.A (getItem ov iv) (EP X pins σ Q) X.xe s
theorem d9k{o i e:Expr}{to ti te:TE}{tget:V->V->Hp->VK->Prop}{tip:TIp}{tset:e0z}{op:Operator}{tpos:Pos}(ho:PE X o to)(hi:PE X i ti)(hg:e7i X tget)(he:PE X e te)(hp:PIp X op tip)(hs:e6h X tset)(ha:∀ov iv new,augStore i ov iv new=(do holding [new,ov,iv] (setItem ov iv new);release [new,ov,iv] [];pure .next):=by intros;rfl):PS X (.AugAssign (.Subscript o i tpos) op e pos) (e1s to ti te tget tip tset):=by
 intro pins s σ H D I h;refine wpAny_AugAssign_SubscriptAny (thn (ho pins s σ H _ I h) λov s1 z0_=>?_) ha;obtain⟨x1,H1,I1,r1,q1⟩:=z0_;refine thn (hi pins s1 σ H1 _ I1 q1) λiv s2 z0_=>?_;obtain⟨x2,H2,I2,r2,q2⟩:=z0_;refine thn (hg pins s2 σ H2 x1 x2 ov iv _ I2 r1 r2 q2) λold s3 z0_=>?_;obtain⟨x3,H3,I3,r3,q3⟩:=z0_;refine thn (he pins s3 σ H3 _ I3 q3) λv s4 z0_=>?_;obtain⟨x4,H4,I4,r4,q4⟩:=z0_;refine thn (hp pins s4 σ H4 x3 x4 old v _ I4 r3 r4 q4) λnew s5 z0_=>?_;obtain⟨x5,H5,I5,r5,q5⟩:=z0_;exact thn (hs pins s5 σ H5 x1 x2 x5 ov iv new _ I5 r1 r2 r5 q5) λ_ s6 z0_=>by obtain⟨H6,I6,q6⟩:=z0_;exact⟨σ,H6,I6,q6⟩
def ipI(f:Int->Int->Int):TIp:=λx y H Q=>∃i j,x=.int i/\y=.int j/\Q (.int (f i j)) H
theorem d8e:PIp X .Add (ipI λi j=>i+j):=by
 intro pins s σ H x y v u Q I r1 r2 h;obtain⟨i,j,e1,e2,q⟩:=h;subst e1;subst e2;obtain⟨t,rfl⟩:=r1;obtain⟨t',rfl⟩:=r2;exact iadd_int ⟨.int _,H,I.tok _,⟨_,rfl⟩,q⟩
def e1j(c:TT)(tb:TS):TS:=λD σ H=>∃W:Nat->St->Hp->Prop,(∃m,W m σ H)/\∀m σ H,W m σ H ->
 c σ H λb H1=>if b=true then ∃N:St->Hp->Prop,(∀σ' H',N σ' H'->∃m',m'<m/\W m' σ' H')/\tb { D with nx:=N,ct:=N,bk:=D.nx } σ H1 else D.nx σ H1
theorem d6k{c:Expr}{body:List Stmt}{tc:TT}{tb:TS}(hp:PassesOwn (model X.prog X.w) X.A X.env X.xe)(hc:PT X c tc)(hb:PSs X body tb):PS X (.While c body [] pos) (e1j tc tb):=by
 intro pins s σ H D I h;obtain⟨W,⟨m0,w0⟩,turn⟩:=h;refine wpAny_While (codeAny_whileLoop (λn s'=>∃σ' H',Inv X pins σ' H' s'/\W n σ' H') ?_ m0 ⟨σ,H,I,w0⟩);rintro n s1 ⟨σ1,H1,I1,w1⟩;refine wpAny_passesOwn hp (thn (hc pins s1 σ1 H1 _ I1 (turn n σ1 H1 w1)) λb s2 z0_=>?_);obtain⟨H2,I2,q2⟩:=z0_;cases b with
 | true=>
  obtain⟨N,hN,q2⟩:=q2;rw[if_pos rfl];refine wpAny_passesOwn hp (thn (hb pins s2 σ1 H2 _ I2 q2) λf s3 q3=>?_);cases f with
  | next=>
   obtain⟨σ3,H3,I3,n3⟩:=q3;obtain⟨m',hm,w3⟩:=hN σ3 H3 n3;exact⟨m',hm,σ3,H3,I3,w3⟩
  | cont=>
   obtain⟨σ3,H3,I3,n3⟩:=q3;obtain⟨m',hm,w3⟩:=hN σ3 H3 n3;exact⟨m',hm,σ3,H3,I3,w3⟩
  | brk=>exact q3
  | ret v=>exact q3
 | false=>
  rw[if_neg Bool.false_ne_true];exact wpAny_execs_nil ⟨σ1,H2,I2,q2⟩
end
structure It where
 go:Nat->Hp->Prop
 yld:Nat->Hp->V->Hp->Prop
 stop:Nat->Hp->Prop
def d5p(X:Cx)(pins:List (Addr×Obj))(H:Hp)(b:Addr):Prop :=
 H b=none/\b≠X.env.locals/\b ∉ X.fs/\(b∈X.ex\/X.s₀.heap.objs.size<=b)/\(∀x c,X.env.cells.lookup x=some c->c≠b)/\∀p∈X.pn++pins,p.1≠b
theorem Inv.fpOk{X:Cx}{pins:List (Addr×Obj)}{σ:St}{H H':Hp}{s:Shared}{b:Addr}(I:Inv X pins σ H s)(hb:s.heap.objs.size<=b)(hn:H' b=none):d5p X pins H' b:=by
 refine⟨hn,Nat.ne_of_gt (Nat.lt_of_lt_of_le I.lt hb),I.nofs hb,.inr (Nat.le_trans I.sz hb),λx c e z=>?_,λp hp z=>?_⟩
 ·obtain⟨v,q⟩:=I.cell x c e
  exact absurd (Nat.lt_of_lt_of_le q.lt (by rw[z];exact hb)) (Nat.lt_irrefl _)
 ·exact absurd (Nat.lt_of_lt_of_le (Heap.lt_size (I.pin p hp).1) (by rw[z];exact hb)) (Nat.lt_irrefl _)
structure e4q(P:Program)(w:World)(K:Frag)(tg:Expr)(J:It)(fp:List Addr)(it:Addr)(tn:Nat->Heap->Prop):Prop where
 mem:it∈fp
 obj:∀i h,tn i h->∀b∈fp,∃o,h.get? b=some o/\∀v,o.data≠.cell v
 keep:∀i h h',tn i h->(∀b∈fp,∀o,h.get? b=some o->h'.get? b=some o)->tn i h'
 item:∀(X:Cx),X.prog=P->X.w=w->X.K=K->X.calm=true->∀(i:Nat)(pins:List (Addr×Obj))(s:Shared)(σ:St)(H:Hp)(E:Value->Shared->Prop),Inv X pins σ H s->(∀b∈fp,d5p X pins H b)->tn i s.heap->J.go i H ->
  wpAny (model P w) X.A (pyNext (.ref it)) (λr s1=>∃u,r=some u /\
   wpAny (model P w) X.A (letOwnedTupleGo tg (.ref it) u) (λ_ s2=>∃x H',Inv X pins σ H' s2/\RelV x u/\J.yld i H x H'/\tn (i+1) s2.heap/\∀b∈fp,H' b=none) E s1) E s
 done:∀(X:Cx),X.prog=P->X.w=w->X.K=K->X.calm=true->∀(i:Nat)(pins:List (Addr×Obj))(s:Shared)(σ:St)(H:Hp)(E:Value->Shared->Prop),Inv X pins σ H s->(∀b∈fp,d5p X pins H b)->tn i s.heap->J.stop i H ->
  wpAny (model P w) X.A (pyNext (.ref it)) (λr s1=>r=none/\Inv X pins σ H s1) E s
 self:∀(A:Around)(i:Nat)(s:Shared)(Q:Value->Shared->Prop)(E:Value->Shared->Prop),tn i s.heap->Q (.ref it) s->wpAny (model P w) A (pyIter (.ref it)) Q E s
abbrev TI:=St->Hp->(It->Hp->Prop)->Prop
def PIE(X:Cx)(pins:List (Addr×Obj))(σ:St)(tg:Expr)(R:It->Hp->Prop)(itv:Value)(s2:Shared):Prop :=
 ∃(it:Addr)(fp:List Addr)(tn:Nat->Heap->Prop)(J:It)(H':Hp),itv=.ref it/\Inv X pins σ H' s2/\e4q X.prog X.w X.K tg J fp it tn/\tn 0 s2.heap/\(∀b∈fp,d5p X pins H' b)/\R J H'
def PI(X:Cx)(tg iter:Expr)(wi:TI):Prop :=
 ∀(pins:List (Addr×Obj))(s:Shared)(σ:St)(H:Hp)(R:It->Hp->Prop),Inv X pins σ H s->wi σ H R ->
  wpAny (model X.prog X.w) X.A (eval iter X.env) (λv s1=>wpAny (model X.prog X.w) X.A (pyIter v) (PIE X pins σ tg R) X.xe s1) X.xe s
theorem e0f{M:Model}{A:Around}{E:Value->Shared->Prop}{s:Shared}{tg:Expr}{it:Addr}{u:Value}{o:Obj}{n:String}{vs:Array Value}{Q:Unit->Shared->Prop}(ho:s.heap.get? it=some o)(hc:o.cls=.type n)(hd:o.data=.fields vs)(hn:["enumerate","zip","dict_itemiterator","dict_reverseitemiterator","odict_iterator","itertools.zip_longest","itertools.pairwise"].contains n=false)(hQ:Q () s):wpAny M A (letOwnedTupleGo tg (.ref it) u) Q E s:=by
 unfold letOwnedTupleGo;cases tg <;> first
  | exact wpAny_pure hQ
  | (cases u <;> first
    | exact wpAny_pure hQ
    | (
      refine wpAny_bind (wpAny_load ho ?_);rw[hc,hd];show wpAny M A (if (["enumerate","zip","dict_itemiterator","dict_reverseitemiterator","odict_iterator","itertools.zip_longest","itertools.pairwise"].contains n && vs[0]? == some (rawInt _))=true then _ else _) Q E s;rw[if_neg (by intro h;rw[hn,Bool.false_and] at h;cases h)]
      exact wpAny_pure hQ))
def Itl(K:Frag)(a:Addr):It :=
 ⟨λi H=>∃xs x,SqL K H a xs/\xs[i]?=some x,λi H x H'=>H'=H/\∀xs,SqL K H a xs->xs[i]?=some x,λi H=>∃xs,SqL K H a xs/\xs.length<=i⟩
def Itt(K:Frag)(a:Addr):It :=
 ⟨λi H=>∃xs x,SqT K H a xs/\xs[i]?=some x,λi H x H'=>H'=H/\∀xs,SqT K H a xs->xs[i]?=some x,λi H=>∃xs,SqT K H a xs/\xs.length<=i⟩
def Itr(lo:Int)(n:Nat):It:=⟨λi _=>i<n,λi H x H'=>H'=H/\x=.int (lo+i),λi _=>n<=i⟩
theorem d2c{P:Program}{w:World}{K:Frag}{tg:Expr}(a it:Addr):e4q P w K tg (Itl K a) [it] it (λi h=>h.IsListIter it a i) where
 mem:=by simp
 obj:=λi h st b hb=>by
  have e:b=it:=by simpa using hb
  subst e;obtain⟨o,e,c,d⟩:=st;exact⟨o,e,λv z=>by rw[d] at z;cases z⟩
 keep:=λi h h' st k=>st.at λo e=>k it (by simp) o e
 item:=by
  intro X hP hw hK hc i pins s σ H E I hf st hg;subst hP hw hK;obtain⟨xs,x,hq,hx⟩:=hg;obtain⟨its,rv,p,hz⟩:=I.list hq;obtain⟨u,hu,ru⟩:=rv.get hx;obtain⟨f0,f1,f2,f3,f4,f5⟩:=hf it (by simp)
  refine wpAny_pyNext_list_item st p.isList (x:=u) (by simpa using hu) λh' st' sb=>?_
  have I1:Inv X pins σ H { s with heap:=h' }:=I.turned (t':=s.toks) (λb o hb e=>(sb.2 b hb).trans e) f0 f1 f3 f4 f5
  obtain⟨o,e,c,d⟩:=id st';exact⟨u,rfl,e0f (s:={ s with heap:=h' }) e c d (by decide) ⟨x,H,I1,ru,⟨rfl,λys hy=>by rw[I.list_inj hy hq];exact hx⟩,st',λb hb=>(hf b hb).1⟩⟩
 done:=by
  intro X hP hw hK hc i pins s σ H E I hf st hg;subst hP hw hK;obtain⟨xs,hq,hx⟩:=hg;obtain⟨its,rv,p,hz⟩:=I.list hq;obtain⟨f0,f1,f2,f3,f4,f5⟩:=hf it (by simp)
  have hl:=rv.length;exact wpAny_pyNext_list_end (I.ok.hd hc) st p.isList (by simp;lia) λh' eb=>⟨rfl,I.turned (t':=s.toks) (λb o hb e=>eb b o hb e) f0 f1 f3 f4 f5⟩
 self:=λ_ _ _ _ _ st h=>wpAny_pyIter_listiter st h
theorem d0i{P:Program}{w:World}{K:Frag}{tg:Expr}(a it:Addr):e4q P w K tg (Itt K a) [it] it (λi h=>h.IsTupleIter it a i) where
 mem:=by simp
 obj:=λi h st b hb=>by
  have e:b=it:=by simpa using hb
  subst e;obtain⟨o,e,c,d⟩:=st;exact⟨o,e,λv z=>by rw[d] at z;cases z⟩
 keep:=λi h h' st k=>st.at λo e=>k it (by simp) o e
 item:=by
  intro X hP hw hK hc i pins s σ H E I hf st hg;subst hP hw hK;obtain⟨xs,x,hq,hx⟩:=hg;obtain⟨its,rv,p,hz⟩:=I.tuple hq;obtain⟨u,hu,ru⟩:=rv.get hx;obtain⟨f0,f1,f2,f3,f4,f5⟩:=hf it (by simp)
  refine wpAny_pyNext_tuple_item st (show s.heap.IsTuple a its.toArray from p) (x:=u) (by simpa using hu) λh' st' sb=>?_
  have I1:Inv X pins σ H { s with heap:=h' }:=I.turned (t':=s.toks) (λb o hb e=>(sb.2 b hb).trans e) f0 f1 f3 f4 f5
  obtain⟨o,e,c,d⟩:=id st';exact⟨u,rfl,e0f (s:={ s with heap:=h' }) e c d (by decide) ⟨x,H,I1,ru,⟨rfl,λys hy=>by rw[I.tuple_inj hy hq];exact hx⟩,st',λb hb=>(hf b hb).1⟩⟩
 done:=by
  intro X hP hw hK hc i pins s σ H E I hf st hg;subst hP hw hK;obtain⟨xs,hq,hx⟩:=hg;obtain⟨its,rv,p,hz⟩:=I.tuple hq;obtain⟨f0,f1,f2,f3,f4,f5⟩:=hf it (by simp)
  have hl:=rv.length;exact wpAny_pyNext_tuple_end (I.ok.hd hc) st (show s.heap.IsTuple a its.toArray from p) (by simp;lia) λh' eb=>⟨rfl,I.turned (t':=s.toks) (λb o hb e=>eb b o hb e) f0 f1 f3 f4 f5⟩
 self:=λ_ _ _ _ _ st h=>wpAny_pyIter_tupleiter st h
theorem a9t{P:Program}{w:World}{K:Frag}{tg:Expr}(it:Addr)(lo:Int)(n:Nat):e4q P w K tg (Itr lo n) [it] it (λi h=>IsRangeIter h it (lo+(i:Nat)*1) ((n:Int)-(i:Nat)) 1) where
 mem:=by simp
 obj:=λi h st b hb=>by
  have e:b=it:=by simpa using hb
  subst e;exact⟨_,st,λv z=>by
   have z':Data.fields _=Data.cell v:=z;cases z'⟩
 keep:=λi h h' st k=>k it (by simp) _ st
 item:=by
  intro X hP hw hK hc i pins s σ H E I hf st hg;subst hP hw hK;obtain⟨f0,f1,f2,f3,f4,f5⟩:=hf it (by simp)
  have W:=Walks.range (prog:=X.prog) (w:=X.w) (I.ok.hd hc) it lo 1 n;refine W.item i s _ _ hg st λv h' tk hv st' kk=>?_;obtain⟨t,rfl⟩:=hv;have I1:Inv X pins σ H { s with heap:=h',toks:=tk }:=I.turned (λb o hb e=>kk b o (by simpa using hb) e) f0 f1 f3 f4 f5
  refine⟨_,rfl,e0f (s:={ s with heap:=h',toks:=tk }) (n:="range_iterator") st' rfl rfl (by decide) ⟨.int (lo+i),H,I1,⟨t,?_⟩,⟨rfl,rfl⟩,st',λb hb=>(hf b hb).1⟩⟩
  rw[Int.mul_one]
 done:=by
  intro X hP hw hK hc i pins s σ H E I hf st hg;subst hP hw hK;obtain⟨f0,f1,f2,f3,f4,f5⟩:=hf it (by simp)
  exact wpAny_pyNext_range_end (I.ok.hd hc) st (by have:n<=i:=hg;lia) λh' eb=>⟨rfl,I.turned (t':=s.toks) (λb o hb e=>eb b o hb e) f0 f1 f3 f4 f5⟩
 self:=λ_ _ _ _ _ st h=>wpAny_pyIter_rangeiter st h
end L2
namespace L2
open PySem PySem.Spec PyProof.Rows
section
variable{X:Cx}{tg:Expr}
def e0d(K:Frag)(tl:TE):TI:=λσ H R=>tl σ H λx H1=>∃a,x=.ref a/\(∃xs,SqL K H1 a xs)/\R (Itl K a) H1
def e5i(K:Frag)(tl:TE):TI:=λσ H R=>tl σ H λx H1=>∃a,x=.ref a/\(∃xs,SqT K H1 a xs)/\R (Itt K a) H1
theorem d9n{l:Expr}{tl:TE}(hl:PE X l tl):PI X tg l (e0d X.K tl):=by
 intro pins s σ H R I h;refine thn (hl pins s σ H _ I h) λv s1 z0_=>?_;obtain⟨x,H1,I1,r1,q1⟩:=z0_;obtain⟨a,e,⟨xs,hq⟩,q⟩:=q1;subst e;cases r1;obtain⟨its,rv,p,hz⟩:=I1.list hq;refine wpAny_pyIter_list p.isList ?_;refine⟨s1.heap.objs.size,[s1.heap.objs.size],_,_,H1,rfl,I1.kept (t':=s1.toks) λb o e=>Heap.get?_push_of_some _ e,d2c a _,⟨_,Heap.get?_push_size _ rfl,rfl,rfl⟩,λb hb=>?_,q⟩;have e:b=s1.heap.objs.size:=by simpa using hb
 subst e;exact I1.fpOk (Nat.le_refl _) (I1.hok.fresh (Nat.le_refl _))
theorem e2f{l:Expr}{tl:TE}(hl:PE X l tl):PI X tg l (e5i X.K tl):=by
 intro pins s σ H R I h;refine thn (hl pins s σ H _ I h) λv s1 z0_=>?_;obtain⟨x,H1,I1,r1,q1⟩:=z0_;obtain⟨a,e,⟨xs,hq⟩,q⟩:=q1;subst e;cases r1;obtain⟨its,rv,p,hz⟩:=I1.tuple hq;refine wpAny_pyIter_tuple (show s1.heap.IsTuple a its.toArray from p) ?_;refine⟨s1.heap.objs.size,[s1.heap.objs.size],_,_,H1,rfl,I1.kept (t':=s1.toks) λb o e=>Heap.get?_push_of_some _ e,d0i a _,⟨_,Heap.get?_push_size _ rfl,rfl,rfl⟩,λb hb=>?_,q⟩;have e:b=s1.heap.objs.size:=by simpa using hb
 subst e;exact I1.fpOk (Nat.le_refl _) (I1.hok.fresh (Nat.le_refl _))
theorem d6i{pins:List (Addr×Obj)}{σ:St}{H:Hp}{s:Shared}{R:It->Hp->Prop}{E:Value->Shared->Prop}{lo hi:Int}{t u v:Tok}{tk:Nat}(I:Inv X pins σ H s)(h1:-(2 ^ 62)<=lo)(h2:lo<2 ^ 62)(h3:-(2 ^ 62)<=hi)(h4:hi<2 ^ 62)(q:R (Itr lo (hi-lo).toNat) H):wpAny (model X.prog X.w) X.A (pyIter (.ref s.heap.objs.size)) (PIE X pins σ tg R) E { s with heap:=s.heap.push { cls:=.type "range",data:=.fields #[.int lo t,.int hi u,.int 1 v] },toks:=tk }:=by
 refine wpAny_pyIter_range (IsRange.new ..) (small_one h1 h2 h3 h4) ?_;have I1:Inv X pins σ H { s with heap:=s.heap.push { cls:=.type "range",data:=.fields #[.int lo t,.int hi u,.int 1 v] },toks:=tk }:=I.kept λb o e=>Heap.get?_push_of_some _ e
 refine⟨(s.heap.push { cls:=.type "range",data:=.fields #[.int lo t,.int hi u,.int 1 v] }).objs.size,[(s.heap.push { cls:=.type "range",data:=.fields #[.int lo t,.int hi u,.int 1 v] }).objs.size],_,_,H,rfl,
  I1.kept (t':=tk) λb o e=>Heap.get?_push_of_some _ e,a9t _ lo (hi-lo).toNat,?_,λb hb=>?_,q⟩
 ·have e1:lo+((0:Nat):Int)*1=lo:=by simp
  have e2:(((hi-lo).toNat:Nat):Int)-((0:Nat):Int)=Builtin.Range.rangeSize lo hi 1:=by rw[rangeSize_one];split <;> lia
  show IsRangeIter _ _ (lo+((0:Nat):Int)*1) ((((hi-lo).toNat:Nat):Int)-((0:Nat):Int)) 1;rw[e1,e2];exact Heap.get?_push_size _ rfl
 ·have e:b=(s.heap.push { cls:=.type "range",data:=.fields #[.int lo t,.int hi u,.int 1 v] }).objs.size:=by simpa using hb
  subst e;exact I1.fpOk (Nat.le_refl _) (I1.hok.fresh (Nat.le_refl _))
def e2y(ta:TA):TI:=λσ H R=>ta σ H λvs H1=>∃j:Int,vs=[.int j]/\-(2 ^ 62)<=j/\j<2 ^ 62/\R (Itr 0 j.toNat) H1
theorem a6m{a:Expr}{ta:TA}{p pos:Pos}(hg:Gl X "range")(hm:X.mg "range" = none)(ha:PA X [a] ta)(hs:starEach [a] X.env=[(false,eval a X.env)]:=by rfl):PI X tg (.Call (.Name "range" p) [a] [] pos) (e2y ta):=by
 intro pins s σ H R I h;refine Call_ (c0h I hg hm boot_range (PyProof.Rows.callWith_type1 (thn (ha pos pins s σ H _ I h) λus s1 z0_=>?_) hs rfl));obtain⟨vs,H1,I1,r1,q1⟩:=z0_;obtain⟨j,e,q1,q2,q⟩:=q1;subst e;cases r1 with
 | cons r rr=>
  cases rr;obtain⟨t,rfl⟩:=r;exact call_range_1 (d6i I1 ↑5 ↑5 q1 q2 (by simpa using q))
def e6u(wi:TI)(g:TG)(tb:TS):TS:=λD σ H=>wi σ H λJ H1=>∃W:Nat->Nat->St->Hp->Prop,(∃m,W 0 m σ H1)/\∀i m σ H,W i m σ H ->
 (J.stop i H/\D.nx σ H)\/(J.go i H/\∃N:St->Hp->Prop,(∀σ' H',N σ' H'->∃m',m'<m/\W (i+1) m' σ' H')/\∀x H',J.yld i H x H'->g x σ H' λσ2 H2=>tb { D with nx:=N,ct:=N,bk:=D.nx } σ2 H2)
def c4t(fp:List Addr)(h:Heap):List (Addr×Obj):=fp.filterMap λb=>(h.get? b).map λo=>(b,o)
theorem a4i{fp:List Addr}{h:Heap}{b:Addr}{o:Obj}(hb:b∈fp)(e:h.get? b=some o):(b,o)∈c4t fp h:=List.mem_filterMap.mpr ⟨b,hb,by rw[e];rfl⟩
theorem d3l{fp:List Addr}{h:Heap}{p:Addr×Obj}(hp:p∈c4t fp h):p.1∈fp/\h.get? p.1=some p.2:=by
 obtain⟨b,hb,e⟩:=List.mem_filterMap.mp hp;cases q:h.get? b with
 | none=>rw[q] at e;cases e
 | some o=>
  rw[q] at e;have e':(b,o)=p:=Option.some.inj e;subst e';exact⟨hb,q⟩
theorem Inv.pinned{pins:List (Addr×Obj)}{σ:St}{H:Hp}{s:Shared}{fp:List Addr}(I:Inv X pins σ H s)(hf:∀b∈fp,d5p X pins H b)(ho:∀b∈fp,∃o,s.heap.get? b=some o/\∀v,o.data≠.cell v):Inv X (pins++c4t fp s.heap) σ H s :=
 I.pins_of λp hp=>(List.mem_append.mp hp).elim (λz=>I.pin p (List.mem_append_right _ z)) λz=>by
  obtain⟨hb,e⟩:=d3l z;obtain⟨f0,f1,f2,_⟩:=hf p.1 hb;obtain⟨o,e',d⟩:=ho p.1 hb;rw[e] at e';cases e';exact⟨e,f0,f1,f2,d⟩
theorem Inv.unpinned{pins pl:List (Addr×Obj)}{σ:St}{H:Hp}{s:Shared}(I:Inv X (pins++pl) σ H s):Inv X pins σ H s:=I.pins_of λp hp=>I.pin p (List.mem_append_right _ (List.mem_append_left _ hp))
theorem b8d{iter:Expr}{body:List Stmt}{wi:TI}{g:TG}{tb:TS}{pos:Pos}(hp:PassesOwn (model X.prog X.w) X.A X.env X.xe)(hc:X.calm=true)(hi:PI X tg iter wi)(hg:PG X tg g)(hb:PSs X body tb)(hs:∀x,foldedSetIterable iter X.env x=pure x:=by intro _;rfl):PS X (.For tg iter body [] pos) (e6u wi g tb):=by
 intro pins s σ H D I h;refine wpAny_For (thn (hi pins s σ H _ I h) λv s1 h1=>thn h1 λitv s2 h2=>?_) hs;obtain⟨it,fp,tn,J,H2,e,I2,T,st2,f2,W,⟨m0,w0⟩,turn⟩:=h2;subst e;have stat:∀{H':Hp},(∀b∈fp,H' b=none)->∀b∈fp,d5p X pins H' b:=λhn b hb=>⟨hn b hb,(f2 b hb).2⟩;refine codeAny_forLoop_any (λn s'=>∃i σ' H',Inv X pins σ' H' s'/\tn i s'.heap/\(∀b∈fp,H' b=none)/\W i n σ' H') ?_ m0 ⟨0,σ,H2,I2,st2,λb hb=>(f2 b hb).1,w0⟩;rintro n s3 ⟨i,σ3,H3,I3,st3,fr3,w3⟩;rcases turn i n σ3 H3 w3 with ⟨stop,qn⟩|⟨go,N,hN,step⟩
 ·refine wpAny_passesOwn hp (thn (T.done X rfl rfl rfl hc i pins s3 σ3 H3 X.xe I3 (stat fr3) st3 stop) λr s4 z0_=>?_)
  obtain⟨hr,I4⟩:=z0_;subst hr;exact wpAny_execs_nil ⟨σ3,H3,I4,qn⟩
 ·refine wpAny_passesOwn hp (thn (T.item X rfl rfl rfl hc i pins s3 σ3 H3 X.xe I3 (stat fr3) st3 go) λr s4 z0_=>?_)
  obtain⟨u,hr,h4⟩:=z0_;subst hr;refine wpAny_passesOwn hp (thn h4 λ_ s5 z0_=>?_);obtain⟨x,H5,I5,r5,y5,st5,fr5⟩:=z0_;have I5':=I5.pinned (stat fr5) (T.obj _ _ st5);refine wpAny_passesOwn hp (thn (hg _ s5 σ3 H5 x u _ I5' r5 (step x H5 y5)) λ_ s6 z0_=>?_);obtain⟨σ6,H6,I6,q6⟩:=z0_;refine wpAny_passesOwn hp (thn (hb _ s6 σ6 H6 _ I6 q6) λf s7 q7=>?_);have again:∀{σ7:St}{H7:Hp},Inv X (pins++c4t fp s5.heap) σ7 H7 s7->N σ7 H7->∃m,m<n/\∃i σ' H',Inv X pins σ' H' s7/\tn i s7.heap/\(∀b∈fp,H' b=none)/\W i m σ' H':=λ{σ7 H7} I7 n7=>by
   obtain⟨m',hm,w7⟩:=hN σ7 H7 n7;refine⟨m',hm,i+1,σ7,H7,I7.unpinned,T.keep _ _ _ st5 λb hb o e=>(I7.pin (b,o) (List.mem_append_right _ (List.mem_append_right _ (a4i hb e)))).1,λb hb=>?_,w7⟩;obtain⟨o,e,d⟩:=T.obj _ _ st5 b hb;exact(I7.pin (b,o) (List.mem_append_right _ (List.mem_append_right _ (a4i hb e)))).2.1
  cases f with
  | next=>obtain⟨σ7,H7,I7,n7⟩:=q7;exact again I7 n7
  | cont=>obtain⟨σ7,H7,I7,n7⟩:=q7;exact again I7 n7
  | brk=>obtain⟨σ7,H7,I7,q7⟩:=q7;exact⟨σ7,H7,I7.unpinned,q7⟩
  | ret v=>obtain⟨x7,σ7,H7,I7,r7,q7⟩:=q7;exact⟨x7,σ7,H7,I7.unpinned,r7,q7⟩
end
theorem c9v{K:Frag}{a:Addr}{xs:List V}{g:TG}{tb:TS}{D:Ends}{σ:St}{H:Hp}(Pv:Nat->St->Hp->Prop)(h0:Pv 0 σ H)(hl:∀i σ H,i<=xs.length->Pv i σ H->SqL K H a xs)(hs:∀i x σ H,xs[i]?=some x->Pv i σ H->g x σ H λσ2 H2=>tb { D with nx:=Pv (i+1),ct:=Pv (i+1),bk:=D.nx } σ2 H2)(hd:∀σ H,Pv xs.length σ H->D.nx σ H):
  ∃W:Nat->Nat->St->Hp->Prop,(∃m,W 0 m σ H)/\∀i m σ H,W i m σ H ->
   ((Itl K a).stop i H/\D.nx σ H)\/((Itl K a).go i H/\∃N:St->Hp->Prop,(∀σ' H',N σ' H'->∃m',m'<m/\W (i+1) m' σ' H')/\∀x H',(Itl K a).yld i H x H'->g x σ H' λσ2 H2=>tb { D with nx:=N,ct:=N,bk:=D.nx } σ2 H2):=by
 refine⟨λi m σ H=>m=xs.length-i/\i<=xs.length/\Pv i σ H,⟨xs.length,by simp,Nat.zero_le _,h0⟩,?_⟩
 rintro i m σ H ⟨rfl,hi,p⟩;have q:=hl i σ H hi p;by_cases hlt:i<xs.length
 ·refine .inr ⟨⟨xs,xs[i],q,by simp[hlt]⟩,Pv (i+1),λσ' H' p'=>⟨xs.length-(i+1),by lia,rfl,hlt,p'⟩,λx H' y=>?_⟩
  obtain⟨e,y⟩:=y;subst e;exact hs i x σ _ (y xs q) p
 ·have e:i=xs.length:=by lia
  subst e;exact .inl ⟨⟨xs,q,Nat.le_refl _⟩,hd σ H p⟩
theorem d4l{lo:Int}{n:Nat}{g:TG}{tb:TS}{D:Ends}{σ:St}{H:Hp}(Pv:Nat->St->Hp->Prop)(h0:Pv 0 σ H)(hs:∀i σ H,i<n->Pv i σ H->g (.int (lo+i)) σ H λσ2 H2=>tb { D with nx:=Pv (i+1),ct:=Pv (i+1),bk:=D.nx } σ2 H2)(hd:∀σ H,Pv n σ H->D.nx σ H):
  ∃W:Nat->Nat->St->Hp->Prop,(∃m,W 0 m σ H)/\∀i m σ H,W i m σ H ->
   ((Itr lo n).stop i H/\D.nx σ H)\/((Itr lo n).go i H/\∃N:St->Hp->Prop,(∀σ' H',N σ' H'->∃m',m'<m/\W (i+1) m' σ' H')/\∀x H',(Itr lo n).yld i H x H'->g x σ H' λσ2 H2=>tb { D with nx:=N,ct:=N,bk:=D.nx } σ2 H2):=by
 refine⟨λi m σ H=>m=n-i/\i<=n/\Pv i σ H,⟨n,by simp,Nat.zero_le _,h0⟩,?_⟩
 rintro i m σ H ⟨rfl,hi,p⟩;by_cases hlt:i<n
 ·refine .inr ⟨hlt,Pv (i+1),λσ' H' p'=>⟨n-(i+1),by lia,rfl,hlt,p'⟩,λx H' y=>?_⟩
  obtain⟨e,y⟩:=y;subst e y;exact hs i σ _ hlt p
 ·have e:i=n:=by lia
  subst e;exact .inl ⟨Nat.le_refl _,hd σ H p⟩
end L2
namespace L2
open PySem PySem.Spec PyProof.Rows
abbrev R2:=V->V->Hp->VK->Prop
def OpR(X:Cx)(f:Value->Value->Sem Value)(r:R2):Prop :=
 ∀(pins:List (Addr×Obj))(s:Shared)(σ:St)(H:Hp)(x y:V)(v u:Value)(Q:VK),Inv X pins σ H s->RelV x v->RelV y u->r x y H Q ->
  wpAny (model X.prog X.w) X.A (f v u) (EP X pins σ Q) X.xe s
def UnR(X:Cx)(f:Value->Sem Value)(r:V->Hp->VK->Prop):Prop :=
 ∀(pins:List (Addr×Obj))(s:Shared)(σ:St)(H:Hp)(x:V)(v:Value)(Q:VK),Inv X pins σ H s->RelV x v->r x H Q ->
  wpAny (model X.prog X.w) X.A (f v) (EP X pins σ Q) X.xe s
def a7z(X:Cx)(f:Value)(r:List V->Hp->VK->Prop):Prop :=
 ∀(pins:List (Addr×Obj))(s:Shared)(σ:St)(H:Hp)(xs:List V)(us:List Value)(Q:VK),Inv X pins σ H s->Vals xs us->r xs H Q ->
  wpAny (model X.prog X.w) X.A (call f us) (EP X pins σ Q) X.xe s
def tOp(r:R2)(ta tb:TE):TE:=λσ H Q=>ta σ H λx H1=>tb σ H1 λy H2=>r x y H2 Q
def tUn(r:V->Hp->VK->Prop)(ta:TE):TE:=λσ H Q=>ta σ H λx H1=>r x H1 Q
def rI(C:Int->Int->Prop)(g:Int->Int->V):R2:=λx y H Q=>∃i j,x=.int i/\y=.int j/\C i j/\Q (g i j) H
def rI0(g:Int->Int->V):R2:=λx y H Q=>∃i j,x=.int i/\y=.int j/\Q (g i j) H
def rU(g:Int->V):V->Hp->VK->Prop:=λx H Q=>∃i,x=.int i/\Q (g i) H
section
variable{X:Cx}{a b c:Expr}{ta tb tc:TE}{pos:Pos}
theorem e6g(ha:PE X a ta)(hb:PE X b tb){pins:List (Addr×Obj)}{s:Shared}{σ:St}{H:Hp}{R:V->V->Hp->Prop}(I:Inv X pins σ H s)(h:ta σ H λx H1=>tb σ H1 λy H2=>R x y H2){Q:Value->Shared->Prop}{f:Value->Value->Sem Value}(hf:∀v u s2 x y H2,Inv X pins σ H2 s2->RelV x v->RelV y u->R x y H2->wpAny (model X.prog X.w) X.A (f v u) Q X.xe s2):
  wpAny (model X.prog X.w) X.A (eval a X.env) (λv s₁=>wpAny (model X.prog X.w) X.A (eval b X.env) (λu s₂=>wpAny (model X.prog X.w) X.A (f v u) Q X.xe s₂) X.xe s₁) X.xe s:=by
 refine thn (ha pins s σ H _ I h) λv s1 z0_=>?_;obtain⟨x,H1,I1,r1,q1⟩:=z0_;refine thn (hb pins s1 σ H1 _ I1 q1) λu s2 z0_=>?_;obtain⟨y,H2,I2,r2,q2⟩:=z0_;exact hf v u s2 x y H2 I2 r1 r2 q2
theorem m6{op:Operator}{r:R2}(ho:OpR X (binaryOp op) r)(ha:PE X a ta)(hb:PE X b tb):PE X (.BinOp a op b pos) (tOp r ta tb):=by
 intro pins s σ H Q I h;exact wpAny_BinOp (e6g ha hb I h λv u s2 x y H2 I2 rx ry q=>ho pins s2 σ H2 x y v u Q I2 rx ry q)
theorem d9o{op:UnaryOp}{r:V->Hp->VK->Prop}(ho:UnR X (unaryOp op) r)(ha:PE X a ta):PE X (.UnaryOp op a pos) (tUn r ta):=by
 intro pins s σ H Q I h;exact UnaryOp_ (thn (ha pins s σ H _ I h) λv s1 z0_=>by obtain⟨x,H1,I1,r1,q1⟩:=z0_;exact ho pins s1 σ H1 x v Q I1 r1 q1)
theorem opI{f:Value->Value->Sem Value}{C:Int->Int->Prop}{g:Int->Int->Int}(rule:∀(i j:Int) (t u:Tok) (s:Shared) (Q:Value->Shared->Prop) (E:Value->Shared->Prop),C i j->Q (.int (g i j) s.toks) { s with toks:=s.toks+1 }->wpAny (model X.prog X.w) X.A (f (.int i t) (.int j u)) Q E s):
  OpR X f (rI C λi j=>.int (g i j)):=by
 intro pins s σ H x y v u Q I rx ry h;obtain⟨i,j,rfl,rfl,hc,q⟩:=h;obtain⟨t,rfl⟩:=rx;obtain⟨t',rfl⟩:=ry;exact rule i j t t' s _ _ hc ⟨.int (g i j),H,I.tok _,⟨_,rfl⟩,q⟩
theorem e7d{f:Value->Value->Sem Value}{g:Int->Int->Int}(rule:∀(i j:Int) (t u:Tok) (s:Shared) (Q:Value->Shared->Prop) (E:Value->Shared->Prop),Q (.int (g i j) s.toks) { s with toks:=s.toks+1 }->wpAny (model X.prog X.w) X.A (f (.int i t) (.int j u)) Q E s):
  OpR X f (rI0 λi j=>.int (g i j)):=by
 intro pins s σ H x y v u Q I rx ry h;obtain⟨i,j,rfl,rfl,q⟩:=h;obtain⟨t,rfl⟩:=rx;obtain⟨t',rfl⟩:=ry;exact rule i j t t' s _ _ ⟨.int (g i j),H,I.tok _,⟨_,rfl⟩,q⟩
theorem e4o{f:Value->Value->Sem Value}{g:Int->Int->Bool}(rule:∀(i j:Int) (t u:Tok) (s:Shared) (Q:Value->Shared->Prop) (E:Value->Shared->Prop),Q (.bool (g i j)) s->wpAny (model X.prog X.w) X.A (f (.int i t) (.int j u)) Q E s):
  OpR X f (rI0 λi j=>.bl (g i j)):=by
 intro pins s σ H x y v u Q I rx ry h;obtain⟨i,j,rfl,rfl,q⟩:=h;obtain⟨t,rfl⟩:=rx;obtain⟨t',rfl⟩:=ry;exact rule i j t t' s _ _ ⟨.bl (g i j),H,I,rfl,q⟩
def e8h(i j:Int):Prop:=0<=j/\j<=1000000/\i.natAbs<2 ^ 64
def CMul(i j:Int):Prop:=(-(2 ^ 64)<i/\i<2 ^ 64)\/(-(2 ^ 64)<j/\j<2 ^ 64)
theorem CMul.ok{i j:Int}(h:CMul i j):IntMulOk i j:=by
 rcases h with ⟨h1,h2⟩|⟨h1,h2⟩
 ·exact .of_left (intBits_le_64 h1 h2)
 ·exact .of_right (intBits_le_64 h1 h2)
theorem a0w:OpR X (binaryOp .Add) (rI0 λi j=>.int (i+j)):=e7d λ_ _ _ _ _ _ _ q=>add_int q
theorem b3v:OpR X (binaryOp .Sub) (rI0 λi j=>.int (i-j)):=e7d λ_ _ _ _ _ _ _ q=>sub_int q
theorem a4y:OpR X (binaryOp .Mult) (rI CMul λi j=>.int (i*j)):=opI λ_ _ _ _ _ _ _ hc q=>mul_int q hc.ok
theorem a6p:OpR X (binaryOp .Mod) (rI (λ_ j=>0<j) λi j=>.int (i % j)):=opI λi j _ _ _ _ _ hc q=>by
 have h1:(0:Int)<j:=hc;exact mod_int' ↑5 (by rw[Int.fmod_eq_emod_of_nonneg i ↑5];exact q)
theorem c9j:OpR X (binaryOp .Pow) (rI e8h λi j=>.int (i ^ j.toNat)):=opI λ_ _ _ _ _ _ _ hc q=>pow_int_small hc.1 hc.2.1 hc.2.2 q
theorem unI{f:Value->Sem Value}{g:Int->Int}(rule:∀(i:Int) (t:Tok) (s:Shared) (Q:Value->Shared->Prop) (E:Value->Shared->Prop),Q (.int (g i) s.toks) { s with toks:=s.toks+1 }->wpAny (model X.prog X.w) X.A (f (.int i t)) Q E s):
  UnR X f (rU λi=>.int (g i)):=by
 intro pins s σ H x v Q I rx h;obtain⟨i,rfl,q⟩:=h;obtain⟨t,rfl⟩:=rx;exact rule i t s _ _ ⟨.int (g i),H,I.tok _,⟨_,rfl⟩,q⟩
theorem d2a:UnR X (unaryOp .USub) (rU λi=>.int (-i)):=unI λ_ _ _ _ _ q=>neg_int q
end
def e4k:V->V->Bool
 | .non,.non=>true|.non,.int _=>true|.int _,.non=>true|.non,.bl _=>true|.bl _,.non=>true|.non,.str _=>true|.str _,.non=>true
 | .int _,.int _=>true|.bl _,.bl _=>true|.str _,.str _=>true|.byt _,.byt _=>true
 | .int _,.str _=>true|.str _,.int _=>true|.bl _,.str _=>true|.str _,.bl _=>true
 | _,_=>false
def rEq:R2:=λx y H Q=>e4k x y=true/\Q (.bl (decide (x=y))) H
def rNe:R2:=λx y H Q=>e4k x y=true/\Q (.bl (!decide (x=y))) H
theorem d4s{i j:Int}:decide (V.int i=V.int j)=(i == j):=by
 rw[Bool.eq_iff_iff];simp
theorem d8l{i j:Bool}:decide (V.bl i=V.bl j)=(i == j):=by
 rw[Bool.eq_iff_iff];simp
theorem d4r{i j:Str}:decide (V.str i=V.str j)=(i == j):=by
 rw[Bool.eq_iff_iff];simp
theorem d4t{i j:Array UInt8}:decide (V.byt i=V.byt j)=(i.toList == j.toList):=by
 rw[Bool.eq_iff_iff];cases i;cases j;simp
section
variable{X:Cx}{a b c:Expr}{ta tb tc:TE}{pos:Pos}
theorem x0{pins:List (Addr×Obj)}{σ:St}{H:Hp}{s:Shared}{Q:VK}{k k':Bool}(I:Inv X pins σ H s)(q:Q (.bl k) H)(e:k=k'):EP X pins σ Q (.bool k') s:=by
 subst e;exact⟨.bl k,H,I,rfl,q⟩
theorem a6a:OpR X (compareOp .Eq) rEq:=by
 intro pins s σ H x y v u Q I rx ry h;obtain⟨hs,q⟩:=h;cases x with
 | non=>
  cases rx;cases y with
  | non=>cases ry;exact PySem.EqNone.eq_none_none (x0 I q (by simp))
  | bl j=>cases ry;exact PySem.EqNone.eq_none_bool (x0 I q (by simp))
  | int j=>obtain⟨t',rfl⟩:=ry;exact PySem.EqNone.eq_none_int (x0 I q (by simp))
  | str j=>obtain⟨t',rfl⟩:=ry;exact PySem.EqNone.eq_none_str (x0 I q (by simp))
  | _=>exact absurd (show false=true from hs) Bool.false_ne_true
 | bl i=>
  cases rx;cases y with
  | non=>cases ry;exact PySem.EqNone.eq_bool_none (x0 I q (by simp))
  | bl j=>cases ry;exact eq_bool (x0 I q d8l)
  | str j=>obtain⟨t',rfl⟩:=ry;exact PySem.EqMixed.eq_bool_str (x0 I q (by simp))
  | _=>exact absurd (show false=true from hs) Bool.false_ne_true
 | int i=>
  obtain⟨t,rfl⟩:=rx;cases y with
  | non=>cases ry;exact PySem.EqNone.eq_int_none (x0 I q (by simp))
  | int j=>obtain⟨t',rfl⟩:=ry;exact eq_int (x0 I q d4s)
  | str j=>obtain⟨t',rfl⟩:=ry;exact PySem.EqMixed.eq_int_str (x0 I q (by simp))
  | _=>exact absurd (show false=true from hs) Bool.false_ne_true
 | str i=>
  obtain⟨t,rfl⟩:=rx;cases y with
  | non=>cases ry;exact PySem.EqNone.eq_str_none (x0 I q (by simp))
  | bl j=>cases ry;exact PySem.EqMixed.eq_str_bool (x0 I q (by simp))
  | int j=>obtain⟨t',rfl⟩:=ry;exact PySem.EqMixed.eq_str_int (x0 I q (by simp))
  | str j=>obtain⟨t',rfl⟩:=ry;exact eq_str (x0 I q d4r)
  | _=>exact absurd (show false=true from hs) Bool.false_ne_true
 | byt i=>
  obtain⟨t,rfl⟩:=rx;cases y with
  | byt j=>obtain⟨t',rfl⟩:=ry;exact PySem.W.eq_bytes (x0 I q d4t)
  | _=>exact absurd (show false=true from hs) Bool.false_ne_true
 | _=>cases y <;> exact absurd (show false=true from hs) Bool.false_ne_true
theorem e2l:OpR X (compareOp .NotEq) rNe:=by
 intro pins s σ H x y v u Q I rx ry h;obtain⟨hs,q⟩:=h;cases x with
 | non=>
  cases rx;cases y with
  | non=>cases ry;exact PySem.EqNone.ne_none_none (x0 I q (by simp))
  | bl j=>cases ry;exact PySem.EqNone.ne_none_bool (x0 I q (by simp))
  | int j=>obtain⟨t',rfl⟩:=ry;exact PySem.EqNone.ne_none_int (x0 I q (by simp))
  | str j=>obtain⟨t',rfl⟩:=ry;exact PySem.EqNone.ne_none_str (x0 I q (by simp))
  | _=>exact absurd (show false=true from hs) Bool.false_ne_true
 | bl i=>
  cases rx;cases y with
  | non=>cases ry;exact PySem.EqNone.ne_bool_none (x0 I q (by simp))
  | bl j=>cases ry;exact ne_bool (x0 I q (congrArg not d8l))
  | str j=>obtain⟨t',rfl⟩:=ry;exact PySem.EqMixed.ne_bool_str (x0 I q (by simp))
  | _=>exact absurd (show false=true from hs) Bool.false_ne_true
 | int i=>
  obtain⟨t,rfl⟩:=rx;cases y with
  | non=>cases ry;exact PySem.EqNone.ne_int_none (x0 I q (by simp))
  | int j=>obtain⟨t',rfl⟩:=ry;exact ne_int (x0 I q (congrArg not d4s))
  | str j=>obtain⟨t',rfl⟩:=ry;exact PySem.EqMixed.ne_int_str (x0 I q (by simp))
  | _=>exact absurd (show false=true from hs) Bool.false_ne_true
 | str i=>
  obtain⟨t,rfl⟩:=rx;cases y with
  | non=>cases ry;exact PySem.EqNone.ne_str_none (x0 I q (by simp))
  | bl j=>cases ry;exact PySem.EqMixed.ne_str_bool (x0 I q (by simp))
  | int j=>obtain⟨t',rfl⟩:=ry;exact PySem.EqMixed.ne_str_int (x0 I q (by simp))
  | str j=>obtain⟨t',rfl⟩:=ry;exact ne_str (x0 I q (congrArg not d4r))
  | _=>exact absurd (show false=true from hs) Bool.false_ne_true
 | byt i=>
  obtain⟨t,rfl⟩:=rx;cases y with
  | byt j=>obtain⟨t',rfl⟩:=ry;exact PySem.W.ne_bytes (x0 I q (congrArg not d4t))
  | _=>exact absurd (show false=true from hs) Bool.false_ne_true
 | _=>cases y <;> exact absurd (show false=true from hs) Bool.false_ne_true
theorem c1y:OpR X (compareOp .Lt) (rI0 λi j=>.bl (decide (i<j))):=e4o λ_ _ _ _ _ _ _ q=>lt_int q
theorem e5d:OpR X (compareOp .LtE) (rI0 λi j=>.bl (decide (i<=j))):=e4o λ_ _ _ _ _ _ _ q=>le_int q
theorem c7p:OpR X (compareOp .Gt) (rI0 λi j=>.bl (decide (j<i))):=e4o λ_ _ _ _ _ _ _ q=>gt_int q
theorem d9u:OpR X (compareOp .GtE) (rI0 λi j=>.bl (decide (j<=i))):=e4o λ_ _ _ _ _ _ _ q=>ge_int q
theorem m9(b:Expr){op:CmpOp}(h:op≠.In:=by decide)(h2:op≠.NotIn:=by decide):behindInMarks op b=false:=by
 have e1:(op == CmpOp.In)=false:=by cases op <;> first|rfl|exact absurd rfl h
 have e2:(op == CmpOp.NotIn)=false:=by cases op <;> first|rfl|exact absurd rfl h2
 cases b <;> simp[behindInMarks,e1,e2]
theorem a3a{op:CmpOp}{r:R2}(ho:OpR X (compareOp op) r)(ha:PE X a ta)(hb:PE X b tb)(hm:behindInMarks op b=false):PE X (.Compare a [op] [b] pos) (tOp r ta tb):=by
 intro pins s σ H Q I h;exact wpAny_Compare1 (e6g ha hb I h λv u s2 x y H2 I2 rx ry q=>ho pins s2 σ H2 x y v u Q I2 rx ry q) hm
def d6d(t:TE):TT:=λσ H Q=>t σ H λx H'=>∃k,x=.bl k/\Q k H'
theorem k7{op:CmpOp}{r:R2}(ho:OpR X (compareOp op) r)(ha:PE X a ta)(hb:PE X b tb)(hm:behindInMarks op b=false):PT X (.Compare a [op] [b] pos) (d6d (tOp r ta tb)):=by
 intro pins s σ H Q I h;refine wpAny_isTrue_Compare1 (thn (ha pins s σ H _ I h) λv s1 ⟨x,H1,I1,r1,q1⟩=>thn (hb pins s1 σ H1 _ I1 q1) λu s2 ⟨y,H2,I2,r2,q2⟩=>
  thn (ho pins s2 σ H2 x y v u _ I2 r1 r2 q2) λc s3 ⟨z,H3,I3,r3,k,e,q3⟩=>?_) hm
 subst e;cases r3;exact wpAny_truthy_bool ⟨H3,I3,q3⟩
theorem c6a:(sizeLine:Nat)<2 ^ 63:=by rw[sizeLine_eq];decide
theorem d8o{x:V}{us:List Value}(r:Vals [x] us):∃u,us=[u]/\RelV x u:=by
 cases r with
 | cons r1 r2=>cases r2;exact⟨_,rfl,r1⟩
theorem e1f{x y:V}{us:List Value}(r:Vals [x,y] us):∃u w',us=[u,w']/\RelV x u/\RelV y w':=by
 cases r with
 | cons r1 r2=>
  cases r2 with
  | cons r3 r4=>cases r4;exact⟨_,_,rfl,r1,r3⟩
theorem d5b(hc:X.calm=true):a7z X (.builtin "max") (λxs H Q=>∃i j,xs=[.int i,.int j]/\Q (.int (if j > i then j else i)) H):=by
 intro pins s σ H xs us Q I r h;obtain⟨i,j,rfl,q⟩:=h;obtain⟨u,w',rfl,⟨t,rfl⟩,⟨t',rfl⟩⟩:=e1f r;refine max_two_ints (I.ok.hd hc) λh' tk k=>⟨_,H,I.kept k,?_,q⟩;by_cases hj:j > i
 ·rw[if_pos hj,if_pos hj];exact⟨_,rfl⟩
 ·rw[if_neg hj,if_neg hj];exact⟨_,rfl⟩
theorem d5a(hc:X.calm=true):a7z X (.builtin "min") (λxs H Q=>∃i j,xs=[.int i,.int j]/\Q (.int (if j<i then j else i)) H):=by
 intro pins s σ H xs us Q I r h;obtain⟨i,j,rfl,q⟩:=h;obtain⟨u,w',rfl,⟨t,rfl⟩,⟨t',rfl⟩⟩:=e1f r;refine min_two_ints (I.ok.hd hc) λh' tk k=>⟨_,H,I.kept k,?_,q⟩;by_cases hj:j<i
 ·rw[if_pos hj,if_pos hj];exact⟨_,rfl⟩
 ·rw[if_neg hj,if_neg hj];exact⟨_,rfl⟩
end
end L2
namespace L2
open PySem PySem.Spec PyProof.Rows
structure ObjM(h:Heap)(x dx C:Addr)(mA:Str->Option Value):Prop where
 obj:h.get? x=some (PySem.W.instObj C dx)
 ns:h.Ns1 dx mA
 ne:dx≠x
theorem d3r{h:Heap}{dx:Addr}{mA:Str->Option Value}(n:h.Ns1 dx mA):∃od,h.get? dx=some od/\∀name,PySem.W.lookIn name od=some (mA name):=by
 obtain⟨o,es,ep,ho,hd,hk,_,hm⟩:=n;refine⟨o,ho,λname=>?_⟩;have e:=hm name;unfold nsFind findBy at e;rw[<- Array.find?_toList] at e;unfold PySem.W.lookIn;rw[hd];dsimp only;split
 ·rename_i y q
  rw[q] at e;exact congrArg some e
 ·rename_i q
  rw[q] at e;have a:es.toList.any (·.refKey)=false:=by
   rw[List.any_eq_false];intro y hy;obtain⟨z,t,hkey⟩:=hk y (Array.mem_toList_iff.mp hy);simp[DictEntry.refKey,hkey]
  have a':¬ es.toList.any (·.refKey)=true:=by rw[a];exact Bool.false_ne_true
  rw[if_neg a'];exact congrArg some e
theorem ObjM.look{h:Heap}{x dx C:Addr}{mA:Str->Option Value}(I:ObjM h x dx C mA):∃od,PySem.W.InstAt h x (PySem.W.instObj C dx) C (some od)/\∀name,PySem.W.lookIn name od=some (mA name) :=
 let ⟨od,ho,hl⟩:=d3r I.ns
 ⟨od,⟨I.obj,rfl,rfl,ho⟩,hl⟩
section
variable{prog:Program}{w:World}{A:Around}{E:Value->Shared->Prop}{s:Shared}{K:Frag}{x dx C f:Addr}{mA:Str->Option Value}{name:Str}{v:Value}
theorem e0g{expr:Bool}{Q:Value->Shared->Prop}(X:K.In s.heap)(I:ObjM s.heap x dx C mA)(hg:plainGet K C name=true)(hh:hasDictIn K C=true)(ha:findIn K (.ref C) name=some none)(hv:mA name=some v)(hv':PySem.W.handedIn v=true)(h:Q v { s with toks:=s.toks+1 }):
  wpAny (model prog w) A (getAttr (.ref x) name expr) Q E s:=by
 obtain⟨od,J,hl⟩:=I.look;exact PySem.W.get_value X J (PySem.W.plainGet_of hg).1 (PySem.W.findObj_own hh ha rfl (by rw[hl,hv])) hv' h
theorem d7e{pl:Sem Bool}{Q:Value×List Value->Shared->Prop}(X:K.In s.heap)(I:ObjM s.heap x dx C mA)(hg:plainGet K C name=true)(hf:findIn K (.ref C) name=some (some (.ref f)))(ht:isFn K (.ref f)=true)(hv:mA name=none)(h:Q (.ref f,[.ref x]) s):
  wpAny (model prog w) A (getMethod (.ref x) name pl) Q E s:=by
 obtain⟨od,J,hl⟩:=I.look;exact PySem.W.method_fn X J (PySem.W.plainGet_of hg).1 (PySem.W.plainGet_of hg).2 hf (beq_iff_eq.mp ht) (by show(PySem.W.lookIn name od).map (·.isSome)=some false;rw[hl,hv];rfl) h
theorem d9h{ns:List Str}{Q:Unit->Shared->Prop}(X:K.In s.heap)(I:ObjM s.heap x dx C mA)(hs:findIn K (.ref C) "__setattr__" = some (some (.builtin "object.__setattr__")))(hp:plainOver K C=true)(ht:PySem.W.takerIn K C name=some none)(hh:hasDictIn K C=true)(hw:PySem.Within mA ns)(hsz:ns.length<=sizeLine)(h:∀h',ObjM h' x dx C (λy=>if y=name then some v else mA y)->Heap.SameBut dx s.heap h'->Q () { s with heap:=h',toks:=s.toks+2 }):
  wpAny (model prog w) A (setAttr (.ref x) name v) Q E s:=by
 obtain⟨od,J,hl⟩:=I.look;refine PySem.W.set_plain X J hs (PySem.W.osa_open (s:={ s with toks:=s.toks+1 }) (r:=none) X J hp ht λb=>?_)
 obtain⟨cd,hc,hd'⟩:=PySem.W.any_some hh;have hx:s.heap.get? x=some ⟨.ref C,some dx,.plain,#[]⟩:=I.obj;refine wpAny_bind (wpAny_pure (wpAny_bind (wpAny_bind (wpAny_loadPart hx (wpAny_bind (PySem.W.Looks.here (s:={ s with toks:=s.toks+1 }) (PySem.W.looks_clsIn X hc) ?_))))))
 rw[hd'];refine wpAny_pure (a:=some dx) (wpAny_bind (wpAny_pure (wpAny_bind ?_)));refine wpAny_nsSet1 (s:={ s with toks:=s.toks+1 }) I.ns λh' hn2 hs2=>?_
 obtain⟨oD,esD,epD,hoD,hdD,hcD⟩:=hn2.count (PySem.Within.cons name v hw);refine wpAny_bind (wpAny_lookBehind hoD (by rw[hdD];exact pastItsLine_dict (Nat.le_trans hcD (by rw[List.length_cons];lia))) ?_)
 exact wpAny_pure (h _ ⟨(hs2.2 _ (Ne.symm I.ne)).trans I.obj,hn2,I.ne⟩ hs2)
theorem d6w{R:Result->Shared->Prop}{vs:List Value}{kw:List (Str×Value)}(X:K.In s.heap)(hm:makesIn K C=true)(hi:findIn K (.ref C) "__init__" = some (some (.ref f)))(hf:PySem.W.typeIn K (.ref f)=some (.type "function"))(h:codeAny (model prog w) (A.under (.builtin "type.__call__" ⟨.ref C::vs,kw⟩)) (.call (.ref f) ⟨.ref (s.heap.objs.size+1)::vs,kw⟩) (PySem.W.InitBack (s.heap.objs.size+1) R)
   { s with heap:=(s.heap.push PySem.W.emptyDict).push (PySem.W.instObj C s.heap.objs.size) }):
  codeAny (model prog w) A (.call (.ref C) ⟨vs,kw⟩) R s:=by
 obtain⟨hh,g,d,t,os⟩:=s;exact PySem.W.make_core (PySem.W.makes_of X hm) (PySem.W.looks_findIn X hi) (λself=>PySem.W.bind_fn X self hf) (.inl rfl) h
end
def a3n(f:Str)(v:V):List (Str×V)->List (Str×V)
 | []=>[(f,v)]
 | (g,x)::r=>if g=f then (g,v)::r else (g,x)::a3n f v r
theorem b8q(f g:Str)(v:V):∀fs:List (Str×V),(a3n f v fs).lookup g=if g=f then some v else fs.lookup g
 | []=>by
  show List.lookup g [(f,v)]=_;by_cases h:g=f
  ·have hb:(g == f)=true:=beq_iff_eq.mpr h
   simp only[List.lookup,hb,if_pos h]
  ·have hb:(g == f)=false:=beq_eq_false_iff_ne.mpr h
   simp only[List.lookup,hb,if_neg h]
 | (k,x)::r=>by
  have ih:=b8q f g v r;rw[show a3n f v ((k,x)::r)=(if k=f then (k,v)::r else (k,x)::a3n f v r) from rfl];by_cases hk:k=f
  ·rw[if_pos hk]
   by_cases h:g=k
   ·have hb:(g == k)=true:=beq_iff_eq.mpr h
    simp only[List.lookup,hb,if_pos (h.trans hk)]
   ·have hb:(g == k)=false:=beq_eq_false_iff_ne.mpr h
    simp only[List.lookup,hb,if_neg (λe:g=f=>h (e.trans hk.symm))]
  ·rw[if_neg hk]
   by_cases h:g=k
   ·have hb:(g == k)=true:=beq_iff_eq.mpr h
    simp only[List.lookup,hb,if_neg (λe:g=f=>hk (h.symm.trans e))]
   ·have hb:(g == k)=false:=beq_eq_false_iff_ne.mpr h
    simp only[List.lookup,hb];exact ih
theorem b8v(f:Str)(v:V):∀fs:List (Str×V),f∈(a3n f v fs).map (·.1)/\∀g,g∈fs.map (·.1)->g∈(a3n f v fs).map (·.1)
 | []=>⟨by simp[a3n],λg h=>by simp at h⟩
 | (k,x)::r=>by
  obtain⟨i1,i2⟩:=b8v f v r;rw[show a3n f v ((k,x)::r)=(if k=f then (k,v)::r else (k,x)::a3n f v r) from rfl];by_cases hk:k=f
  ·rw[if_pos hk]
   subst hk;exact⟨by simp,λg h=>by simpa using h⟩
  ·rw[if_neg hk]
   refine⟨?_,λg h=>?_⟩
   ·rw[List.map_cons]
    exact List.mem_cons_of_mem _ i1
   ·rw[List.map_cons] at h ⊢
    rcases List.mem_cons.mp h with e|e
    ·exact List.mem_cons.mpr (.inl e)
    ·exact List.mem_cons_of_mem _ (i2 g e)
theorem b8s(f:Str)(v:V):∀fs:List (Str×V),(a3n f v fs).length<=fs.length+1
 | []=>by simp[a3n]
 | (k,x)::r=>by
  have ih:=b8s f v r;rw[show a3n f v ((k,x)::r)=(if k=f then (k,v)::r else (k,x)::a3n f v r) from rfl];by_cases hk:k=f
  ·rw[if_pos hk,List.length_cons,List.length_cons];lia
  ·rw[if_neg hk,List.length_cons,List.length_cons];lia
theorem RelO.some_of{v:V}{o:Option Value}(r:RelO (some v) o):∃u,o=some u/\RelV v u:=by
 cases o with
 | none=>exact(show False from r).elim
 | some u=>exact⟨u,rfl,r⟩
theorem RelO.none_of{o:Option Value}(r:RelO none o):o=none:=by
 cases o with
 | none=>rfl
 | some u=>exact(show False from r).elim
theorem d4b{v:V}{u:Value}(r:RelV v u):PySem.W.handedIn u=true:=by
 cases v with
 | non=>cases (show u=Value.none from r);rfl
 | bl b=>cases (show u=Value.bool b from r);rfl
 | int i=>obtain⟨t,e⟩:=(show ∃t,u=Value.int i t from r);cases e;rfl
 | str x=>obtain⟨t,e⟩:=(show ∃t,u=Value.str x t from r);cases e;rfl
 | byt b=>obtain⟨t,e⟩:=(show ∃t,u=Value.bytes b t from r);cases e;rfl
 | flt b=>obtain⟨t,e⟩:=(show ∃t,u=Value.float b t from r);cases e;rfl
 | ref a=>cases (show u=Value.ref a from r);rfl
 | ty n=>cases (show u=Value.type n from r);rfl
section
variable{P:Program}{w:World}{H H':Hp}{h h':Heap}{a C dx:Addr}{fs fs':List (Str×V)}
theorem c3f(hok:HOk P w H h)(e:H a=some (.ins C dx fs)):∃mA,ObjM h a dx C mA/\(∀f,RelO (fs.lookup f) (mA f))/\PySem.Within mA (fs.map (·.1))/\fs.length<=1000/\H dx=some (.own a):=by
 obtain⟨d,z,ne,ob,mA,n,r,q⟩:=(show ObjOk P w H h a (.ins C dx fs) from hok a _ e);exact⟨mA,⟨ob,n,ne⟩,r,q,z,d⟩
end
structure Cls(K:Frag)(C:Addr):Prop where
 pg:plainGet K C Str.empty=true
 hd:hasDictIn K C=true
 po:plainOver K C=true
 sa:findIn K (.ref C) "__setattr__" = some (some (.builtin "object.__setattr__"))
theorem Cls.get{K:Frag}{C:Addr}(c:Cls K C)(f:Str):plainGet K C f=true:=c.pg
def NoAttr(K:Frag)(C:Addr)(f:Str):Prop:=findIn K (.ref C) f=some none
theorem NoAttr.taker{K:Frag}{C:Addr}{f:Str}(n:NoAttr K C f):PySem.W.takerIn K C f=some none:=by
 unfold PySem.W.takerIn;rw[show findIn K (.ref C) f=some none from n]
 rfl
structure e4f(K:Frag)(C:Addr)(m:Str)(f:Addr):Prop where
 at_:findIn K (.ref C) m=some (some (.ref f))
 fn:isFn K (.ref f)=true
 kp:keepIn K (.ref f)=true
section
variable{X:Cx}{pins:List (Addr×Obj)}{σ:St}{H:Hp}{s:Shared}{a C dx:Addr}{fs:List (Str×V)}{f:Str}{v:V}{A:Around}{E:Value->Shared->Prop}
theorem c0i{b:Bool}{Q:Value->Shared->Prop}(I:Inv X pins σ H s)(e:H a=some (.ins C dx fs))(c:Cls X.K C)(n:NoAttr X.K C f)(l:fs.lookup f=some v)(h:∀u s',Inv X pins σ H s'->RelV v u->Q u s'):wpAny (model X.prog X.w) A (getAttr (.ref a) f b) Q E s:=by
 obtain⟨mA,O,r,_,_,_⟩:=c3f I.hok e;obtain⟨u,hu,ru⟩:=RelO.some_of (v:=v) (o:=mA f) (by rw[<- l];exact r f)
 exact e0g I.kIn O (c.get f) c.hd n hu (d4b ru) (h u _ (I.tok _) ru)
theorem a6s{m:Str}{g:Addr}{pl:Sem Bool}{Q:Value×List Value->Shared->Prop}(I:Inv X pins σ H s)(e:H a=some (.ins C dx fs))(c:Cls X.K C)(k:e4f X.K C m g)(l:fs.lookup m=none)(h:Q (.ref g,[.ref a]) s):wpAny (model X.prog X.w) A (getMethod (.ref a) m pl) Q E s:=by
 obtain⟨mA,O,r,_,_,_⟩:=c3f I.hok e;have hn:mA m=none:=RelO.none_of (by rw[<- l];exact r m)
 exact d7e I.kIn O (c.get m) k.at_ k.fn hn h
theorem b4q{y:V}{u:Value}{Q:Unit->Shared->Prop}(I:Inv X pins σ H s)(e:H a=some (.ins C dx fs))(c:Cls X.K C)(n:NoAttr X.K C f)(hl:fs.length<1000)(ry:RelV y u)(h:∀s',Inv X pins σ (upd H a (.ins C dx (a3n f y fs))) s'->Q () s'):wpAny (model X.prog X.w) A (setAttr (.ref a) f u) Q E s:=by
 obtain⟨mA,O,r,wi,_,ho⟩:=c3f I.hok e;have hz:(fs.map (·.1)).length<=sizeLine:=by rw[List.length_map,sizeLine_eq];lia
 refine d9h I.kIn O c.sa c.po n.taker c.hd wi hz λh' O' sb=>h _ ?_;have hd:∃o,h'.get? dx=some o:=let ⟨o,_,_,e',_⟩:=O'.ns;⟨o,e'⟩
 refine I.write (x:=a) (e:=dx) (by rw[e];exact True.intro) (.inr ho) (λb q hb z=>(sb.2 b hb).trans z) hd ?_
 refine⟨by rw[d6 O.ne];exact ho,?_,O.ne,O'.obj,_,O'.ns,λg=>?_,λg hg=>?_⟩
 ·have:=b8s f y fs;lia
 ·show RelO ((a3n f y fs).lookup g) (if g=f then some u else mA g)
  rw[b8q];by_cases q:g=f
  ·rw[if_pos q,if_pos q];exact ry
  ·rw[if_neg q,if_neg q];exact r g
 ·by_cases q:g=f
  ·rw[q];exact(b8v f y fs).1
  ·refine (b8v f y fs).2 g (wi g λz=>hg ?_)
   show(if g=f then some u else mA g)=none;rw[if_neg q];exact z
theorem Inv.made(I:Inv X pins σ H s):Inv X pins σ (upd (upd H s.heap.objs.size (.own (s.heap.objs.size+1))) (s.heap.objs.size+1) (.ins C s.heap.objs.size []))
  { s with heap:=(s.heap.push PySem.W.emptyDict).push (PySem.W.instObj C s.heap.objs.size) }:=by
 have e1:(s.heap.push PySem.W.emptyDict).get? s.heap.objs.size=some PySem.W.emptyDict:=Heap.get?_push_size s.heap rfl;have e2:((s.heap.push PySem.W.emptyDict).push (PySem.W.instObj C s.heap.objs.size)).get? (s.heap.objs.size+1)=some (PySem.W.instObj C s.heap.objs.size):=by
  have:=Heap.get?_push_size (s.heap.push PySem.W.emptyDict) (o:=PySem.W.instObj C s.heap.objs.size) rfl
  rwa [Heap.size_push] at this
 have e3:(s.heap.push PySem.W.emptyDict).Ns s.heap.objs.size (λ_=>none):=⟨PySem.W.emptyDict,#[],_,e1,rfl,(λe he=>absurd he (by simp)),λ_=>rfl⟩
 have I1:=I.laid (a:=s.heap.objs.size) (o:=.own (s.heap.objs.size+1)) (h':=s.heap.push PySem.W.emptyDict) (t':=s.toks) (λb u q=>Heap.get?_push_of_some _ q) (Nat.le_refl _) ⟨_,e1⟩;refine I1.laid (a:=s.heap.objs.size+1) (o:=.ins C s.heap.objs.size []) (t':=s.toks) (λb u q=>Heap.get?_push_of_some _ q) (Nat.le_of_eq (Heap.size_push _ _)) ?_;have ne:s.heap.objs.size≠s.heap.objs.size+1:=Nat.ne_of_lt (Nat.lt_succ_self _);refine⟨by rw[d6 ne,b8],Nat.zero_le _,ne,e2,λ_=>none,(Heap.Ns1.of_empty e3).at λo q=>Heap.get?_push_of_some _ q,λ_=>True.intro,λy hy=>absurd rfl hy⟩
theorem e0y{prog:Program}{w:World}{env:Env}{e:Expr}{f:Str}{pos:Pos}{s:Shared}{Q:Value->Shared->Prop}(hb:attributeBase e f env (eval e env)=eval e env)(h:wpAny (model prog w) A (eval e env) (λo s₁=>wpAny (model prog w) A (getAttr o f true) Q E s₁) E s):wpAny (model prog w) A (eval (.Attribute e f pos) env) Q E s :=
 Attribute_any_ h (by rw[arm_eval_Attribute,hb])
end
def e4v(K:Frag)(ta:TE)(f:Str):TE:=λσ H Q=>ta σ H λx H1=>∃a C dx fs v,x=.ref a/\H1 a=some (.ins C dx fs)/\Cls K C/\NoAttr K C f/\fs.lookup f=some v/\Q v H1
def e4x(K:Frag)(ta tv:TE)(f:Str):TS:=λD σ H=>tv σ H λy H1=>ta σ H1 λx H2=>∃a C dx fs,x=.ref a/\H2 a=some (.ins C dx fs)/\Cls K C/\NoAttr K C f/\fs.length<1000 /\
 D.nx σ (upd H2 a (.ins C dx (a3n f y fs)))
def e6j(X:Cx)(op:Operator)(rd:V->V->Hp->VK->Prop):Prop :=
 ∀(pins:List (Addr×Obj))(s:Shared)(σ:St)(H:Hp)(x y:V)(u v:Value)(Q:VK),Inv X pins σ H s->RelV x u->RelV y v->rd x y H Q->wpAny (model X.prog X.w) X.A (inplaceOp op u v) (EP X pins σ Q) X.xe s
def c7i(K:Frag)(ta tv:TE)(rd:V->V->Hp->VK->Prop)(f:Str):TS:=λD σ H=>ta σ H λx H1=>∃a C dx fs v,x=.ref a/\H1 a=some (.ins C dx fs)/\Cls K C/\NoAttr K C f/\fs.lookup f=some v /\
 tv σ H1 λy H2=>rd v y H2 λz H3=>∃dx' fs',H3 a=some (.ins C dx' fs')/\fs'.length<1000/\D.nx σ (upd H3 a (.ins C dx' (a3n f z fs')))
section
variable{X:Cx}{o e value:Expr}{f:Str}{pos pos' tpos:Pos}{ta tv:TE}
theorem e2i(he:PE X e ta)(hb:attributeBase e f X.env (eval e X.env)=eval e X.env):PE X (.Attribute e f pos) (e4v X.K ta f):=by
 intro pins s σ H Q I h;refine e0y hb (thn (he pins s σ H _ I h) λu s1 z0_=>?_);obtain⟨x,H1,I1,rx,a,C,dx,fs,v,ex,ea,c,n,l,q⟩:=z0_;subst ex;obtain rfl:u=Value.ref a:=rx;exact c0i I1 ea c n l λu' s2 I2 ru=>⟨v,H1,I2,ru,q⟩
theorem e2c(ha:PE X o ta)(hv:PE X value tv)(hs:swapsWith value (some (.Attribute o f pos')) pos.line X.env=pure false):PS X (.Assign [.Attribute o f pos'] value pos) (e4x X.K ta tv f):=by
 intro pins s σ H D I h;refine plainObj_wpAny_Assign_Attribute (thn (hv pins s σ H _ I h) λu s1 z0_=>?_) hs;obtain⟨y,H1,I1,ry,q⟩:=z0_;refine thn (ha pins s1 σ H1 _ I1 q) λov s2 z1_=>?_;obtain⟨x,H2,I2,rx,a,C,dx,fs,ex,ea,c,n,l,q2⟩:=z1_;subst ex;obtain rfl:ov=Value.ref a:=rx;exact b4q I2 ea c n l ry λs3 I3=>⟨σ,_,I3,q2⟩
theorem d2v{op:Operator}{rd:V->V->Hp->VK->Prop}(ha:PE X o ta)(hv:PE X value tv)(hop:e6j X op rd):PS X (.AugAssign (.Attribute o f tpos) op value pos) (c7i X.K ta tv rd f):=by
 intro pins s σ H D I h;refine wpAny_AugAssign_AttributeAny (thn (ha pins s σ H _ I h) λov s1 z0_=>?_);obtain⟨x,H1,I1,rx,a,C,dx,fs,v,ex,ea,c,n,l,q⟩:=z0_;subst ex;obtain rfl:ov=Value.ref a:=rx;refine c0i I1 ea c n l λu s2 I2 ru=>thn (hv pins s2 σ H1 _ I2 q) λw3 s3 z0_=>?_;obtain⟨y,H2,I3,ry,q3⟩:=z0_;refine thn (hop pins s3 σ H2 v y u w3 _ I3 ru ry q3) λw4 s4 z1_=>?_;obtain⟨z,H3,I4,rz,dx',fs',ea',l',q4⟩:=z1_;exact b4q I4 ea' c n l' rz λs5 I5=>⟨σ,_,I5,q4⟩
def e7c:V->V->Hp->VK->Prop:=λx y H Q=>∃i j,x=.int i/\y=.int j/\Q (.int (i+j)) H
theorem e2x:e6j X .Add e7c:=by
 rintro pins s σ H x y u v Q I rx ry ⟨i,j,rfl,rfl,q⟩;obtain⟨t,rfl⟩:=(show ∃t,u=Value.int i t from rx);obtain⟨t',rfl⟩:=(show ∃t',v=Value.int j t' from ry);exact PyProof.Rows.iadd_int ⟨.int (i+j),H,I.tok _,⟨_,rfl⟩,q⟩
end
section
variable{X:Cx}{pins:List (Addr×Obj)}{σ:St}{H:Hp}{s:Shared}{A:Around}{E:Value->Shared->Prop}{Q:Value->Shared->Prop}{c:Value}{b:Bool}
inductive d1y(K:Frag)(H:Hp):V->Value->Prop where
 | non:d1y K H .non (.type "NoneType")
 | bl (x:Bool):d1y K H (.bl x) (.type "bool")
 | int (i:Int):d1y K H (.int i) (.type "int")
 | str (x:Str):d1y K H (.str x) (.type "str")
 | flt (x:UInt64):d1y K H (.flt x) (.type "float")
 | lst {a:Addr} {xs:List V} (e:H a=some (.lst xs)):d1y K H (.ref a) (.type "list")
 | frz {a:Addr} {o:Obj} {xs:List V} (e:H a=some (.frz o (.lst xs))):d1y K H (.ref a) (.type "list")
 | tup {a:Addr} {xs:List V} (e:H a=some (.tup xs)):d1y K H (.ref a) (.type "tuple")
 | dK {a:Addr} {kvs:List (Key×V)} (e:H a=some (.dK kvs)):d1y K H (.ref a) (.type "dict")
 | dT {a:Addr} {kvs:List (List Key×V)} (e:H a=some (.dT kvs)):d1y K H (.ref a) (.type "dict")
 | ins {a C dx:Addr} {fs:List (Str×V)} (e:H a=some (.ins C dx fs)) (cl:Cls K C) (ha:findIn K (.ref C) "__class__" = some (some (.builtin "object.__class__")))
   (hn:specialIn K (.builtin "object.__class__") "__get__" = some (some (.builtin "getset_descriptor.__get__"))) (htk:PySem.W.takesIn K (.builtin "object.__class__")=some true)
   (hm:mroIn K C (.type "object")=some true):d1y K H (.ref a) (.ref C)
theorem d3w{x:V}{u t:Value}(I:Inv X pins σ H s)(rx:RelV x u)(ty:d1y X.K H x t)(e:kitOne X.K t c=some b)(h:∀tk,Q (.bool b) { s with toks:=tk }):
  wpAny (model X.prog X.w) A (call (.builtin "isinstance") [u,c]) Q E s:=by
 cases ty with
 | non=>cases (show u=Value.none from rx);exact kia_one PySem.W.kitx_none I.kIn True.intro e (λz=>nomatch z) h
 | bl y=>cases (show u=Value.bool y from rx);exact kia_one PySem.W.kitx_bool I.kIn True.intro e (λz=>nomatch z) h
 | int i=>obtain⟨t,q⟩:=(show ∃t,u=Value.int i t from rx);cases q;exact kia_one PySem.W.kitx_int I.kIn True.intro e (λz=>nomatch z) h
 | str y=>obtain⟨t,q⟩:=(show ∃t,u=Value.str y t from rx);cases q;exact kia_one PySem.W.kitx_str I.kIn True.intro e (λz=>nomatch z) h
 | flt y=>obtain⟨t,q⟩:=(show ∃t,u=Value.float y t from rx);cases q;exact kia_one PySem.W.kitx_float I.kIn True.intro e (λz=>nomatch z) h
 | @lst a xs ea=>
  cases (show u=Value.ref a from rx);obtain⟨_,_,n,_,h1⟩:=(show ObjOk X.prog X.w H s.heap a (.lst xs) from I.hok a _ ea);exact kia_one PySem.W.kitx_list I.kIn ⟨_,h1,rfl⟩ e (λz=>nomatch z) h
 | @frz a ob xs ea=>
  cases (show u=Value.ref a from rx);obtain⟨_,_,_,n,_,h1⟩:=(show ObjOk X.prog X.w H s.heap a (.frz ob (.lst xs)) from I.hok a _ ea);exact kia_one PySem.W.kitx_list I.kIn ⟨_,h1,rfl⟩ e (λz=>nomatch z) h
 | @tup a xs ea=>
  cases (show u=Value.ref a from rx);obtain⟨_,_,_,p⟩:=(show ObjOk X.prog X.w H s.heap a (.tup xs) from I.hok a _ ea);obtain⟨o,h1,h2,_⟩:=p;exact kia_one PySem.W.kitx_tuple I.kIn ⟨o,h1,h2⟩ e (λz=>nomatch z) h
 | @dK a kvs ea=>
  cases (show u=Value.ref a from rx);obtain⟨_,_,vs,_,p⟩:=(show ObjOk X.prog X.w H s.heap a (.dK kvs) from I.hok a _ ea);obtain⟨o,es,ep,h1,h2,_⟩:=p;exact kia_one PySem.W.kitx_dict I.kIn ⟨o,h1,h2.1⟩ e (λz=>nomatch z) h
 | @dT a kvs ea=>
  cases (show u=Value.ref a from rx);obtain⟨_,_,xs,_,o,es,ep,h1,h2,_⟩:=(show ObjOk X.prog X.w H s.heap a (.dT kvs) from I.hok a _ ea);exact kia_one PySem.W.kitx_dict I.kIn ⟨o,h1,h2.1⟩ e (λz=>nomatch z) h
 | @ins a C dx fs ea cl ha hn htk hm=>
  cases (show u=Value.ref a from rx);obtain⟨mA,O,_⟩:=c3f I.hok ea;obtain⟨od,J,_⟩:=O.look;exact kia_one (PySem.W.kitx_own (cl.get _) cl.hd ha hn htk hm) I.kIn J e (λz=>nomatch z) h
end
end L2
namespace L2
open PySem PySem.Spec PyProof.Rows
structure Room(k:Nat)(A:Around):Prop where
 hd:A.handled=none
 dp:A.depth+3*k+5<recursionLimit
 un:A.units+16*k+200<cLine
theorem Room.mono{j k:Nat}{A:Around}(r:Room k A)(h:j<=k):Room j A:=⟨r.hd,by have:=r.dp;lia,by have:=r.un;lia⟩
theorem Room.deeper{k:Nat}{A:Around}(r:Room (k+1) A)(env:Env):Room k (A.deeper env) :=
 ⟨r.hd,by have:=r.dp;show A.depth+1+3*k+5<_;lia,by have:=r.un;show A.units+3+16*k+200<_;lia⟩
theorem d1s{A:Around}{C:Addr}{us:List Value}{kw:List (Str×Value)}:(A.under (.builtin "type.__call__" ⟨.ref C::us,kw⟩)).depth=A.depth+1:=by
 first|rfl|simp[Around.under,Code.weight,Code.isCreation,Code.isGuard,Code.isCaller,Code.frames,Code.isFrame,guardIds]
theorem d1r{A:Around}{C:Addr}{us:List Value}{kw:List (Str×Value)}:(A.under (.builtin "type.__call__" ⟨.ref C::us,kw⟩)).units=A.units+1:=by
 first|rfl|simp[Around.under,Code.cUnits,Code.frames,Code.isFrame]
theorem Room.make{k:Nat}{A:Around}(r:Room (k+1) A)(C:Addr)(us:List Value)(kw:List (Str×Value)):Room k (A.under (.builtin "type.__call__" ⟨.ref C::us,kw⟩)) :=
 ⟨r.hd,by have:=r.dp;rw[d1s];lia,by have:=r.un;rw[d1r];lia⟩
theorem Room.depth{k:Nat}{A:Around}(r:Room k A):A.depth<recursionLimit:=by have:=r.dp;lia
def e1c:TA:=λ_ H Q=>Q [] H
def d9e(ta:TE)(tr:TA):TA:=λσ H Q=>ta σ H λx H1=>tr σ H1 λxs H2=>Q (x::xs) H2
section
variable{X:Cx}{e:Expr}{es:List Expr}{te:TE}{t:TA}{pos:Pos}
theorem b7:PA X [] e1c:=λ_ _ _ _ H Q I h=>Calls.spliced_nil ⟨[],H,I,.nil,h⟩
theorem a7(ha:PE X e te)(hr:PA X es t)(hs:starEach (e::es) X.env=(false,eval e X.env)::starEach es X.env:=by rfl):PA X (e::es) (d9e te t):=by
 intro pos pins s σ H Q I h;rw[hs];show wpAny _ _ (spliced ((false,eval e X.env)::backTo pos (starEach es X.env))) _ _ s;refine Calls.spliced_cons (thn (ha pins s σ H _ I h) λu s1 z0_=>?_);obtain⟨x,H1,I1,r1,q1⟩:=z0_;exact thn (hr pos pins s1 σ H1 _ I1 q1) λus s2 z0_=>by obtain⟨xs,H2,I2,r2,q2⟩:=z0_;exact⟨x::xs,H2,I2,.cons r1 r2,q2⟩
def e6n(t:TA):TE:=λσ H Q=>t σ H λxs H1=>xs.length<=sizeLine/\∀p,H1 p=none->Q (.ref p) (upd H1 p (.tup xs))
def e6t(t:TA):TE:=λσ H Q=>t σ H λxs H1=>xs.length<=sizeLine/\∀p,H1 p=none->Q (.ref p) (upd H1 p (.lst xs))
theorem a4x{x1}(h:PA X es t):PE X (.Tuple es x1 pos) (e6n t):=by
 intro pins s σ H Q I hq;refine wpAny_Tuple_spliced (thn (h pos pins s σ H _ I hq) λus s1 ⟨xs,H1,I1,r,z,q⟩=>⟨by rw[<- r.length];exact z,?_⟩)
 have hf:H1 s1.heap.objs.size=none:=I1.hok.fresh (Nat.le_refl _);refine⟨.ref s1.heap.objs.size,upd H1 s1.heap.objs.size (.tup xs),I1.laid (t':=s1.toks) (λb u e=>Heap.get?_push_of_some _ e) (Nat.le_refl _) ?_,rfl,q _ hf⟩;exact⟨z,us,r,⟨_,Heap.get?_push_size _ rfl,rfl,_,rfl⟩⟩
theorem o8(h:PA X es t):PE X (.List es pos) (e6t t):=by
 intro pins s σ H Q I hq;refine wpAny_List_spliced (thn (h pos pins s σ H _ I hq) λus s1 ⟨xs,H1,I1,r,z,q⟩=>⟨by rw[<- r.length];exact z,?_⟩)
 have hf:H1 s1.heap.objs.size=none:=I1.hok.fresh (Nat.le_refl _);refine⟨.ref s1.heap.objs.size,upd H1 s1.heap.objs.size (.lst xs),I1.laid (t':=s1.toks) (λb u e=>Heap.get?_push_of_some _ e) (Nat.le_refl _) ?_,rfl,q _ hf⟩;exact⟨z,us,0,r,Heap.get?_push_size _ rfl⟩
end
abbrev Sp:=List V->Hp->VK->XK->Prop
abbrev CXT:=List Env->Hp->Shared->XK->Value->Shared->Prop
structure Env0(P:Program)(w:World)(K:Frag)(mg:Str->Option Value)(base:Heap)(A:Around)(outer:List Env)(s:Shared)(H:Hp):Prop where
 frames:A.frames=some outer
 mod:Mod K mg base
 bs:∀b o,base.get? b=some o->s.heap.get? b=some o/\H b=none
 bsz:base.objs.size<=s.heap.objs.size
 funs:s.heap.FunFrames base outer
 frf:∀b∈frs outer,H b=none
 hok:HOk P w H s.heap
 bare:AllBare s.gens
def CE(outer:List Env)(P:Program)(w:World)(H:Hp)(s:Shared)(Q:VK)(u:Value)(s':Shared):Prop :=
 ∃v H',s'.os=s.os/\AllBare s'.gens/\Un (frs outer) [] H H' s.heap s'.heap/\HOk P w H' s'.heap/\RelV v u/\Q v H'
def CR(CX:CXT)(outer:List Env)(P:Program)(w:World)(H:Hp)(s:Shared)(Q:VK)(E:XK)(r:Result)(s':Shared):Prop :=
 match r with
 | .ok (.ret u)=>CE outer P w H s Q u s'
 | .ok _=>False
 | .error e=>CX outer H s E e s'
structure FnOk(P:Program)(w:World)(K:Frag)(mg:Str->Option Value)(base:Heap)(CX:CXT)(k:Nat)(f:Addr)(fd:FuncData)(ps:List Str)(sp:Sp):Prop where
 len:∀vs H Q E,sp vs H Q E->vs.length=ps.length
 run:∀(A:Around)(outer:List Env)(s:Shared)(H:Hp)(args:Args)(us:List Value)(vs:List V)(Q:VK)(E:XK),Room k A->Env0 P w K mg base A outer s H->BindsTo s fd args (ps.zip us)->Vals vs us->sp vs H Q E ->
  codeAny (model P w) A (.call (.ref f) args) (CR CX outer P w H s Q E) s
theorem FnOk.mono{P:Program}{w:World}{K:Frag}{mg:Str->Option Value}{base:Heap}{CX:CXT}{j k:Nat}{f:Addr}{fd:FuncData}{ps:List Str}{sp:Sp}(F:FnOk P w K mg base CX j f fd ps sp)(h:j<=k):
  FnOk P w K mg base CX k f fd ps sp:=⟨F.len,λA outer s H args us vs Q E hr=>F.run A outer s H args us vs Q E (hr.mono h)⟩
theorem Env0.make{P:Program}{w:World}{K:Frag}{mg:Str->Option Value}{base:Heap}{A:Around}{outer:List Env}{s:Shared}{H:Hp}(e:Env0 P w K mg base A outer s H)(C:Addr)(us:List Value)(kw:List (Str×Value)):
  Env0 P w K mg base (A.under (.builtin "type.__call__" ⟨.ref C::us,kw⟩)) outer s H:=⟨by first|exact e.frames|(simpa[Around.under,Code.envs,Code.isFrame,pushEnvs] using e.frames),e.mod,e.bs,e.bsz,e.funs,e.frf,e.hok,e.bare⟩
section
variable{X:Cx}{pins:List (Addr×Obj)}{σ:St}{H:Hp}{s s':Shared}
theorem Inv.env0(I:Inv X pins σ H s):Env0 X.prog X.w X.K X.mg X.base X.A X.stack s H :=
 ⟨I.ok.frames,I.ok.mod,I.bs,Nat.le_trans I.ok.bsz I.sz,I.stack,I.stkFree,I.hok,I.bare⟩
theorem Inv.after{Q:VK}{u:Value}(I:Inv X pins σ H s)(h:CE X.stack X.prog X.w H s Q u s'):EP X pins σ Q u s':=by
 obtain⟨v,H',os,bare,un,hok,r,q⟩:=h;obtain⟨hh,g,d,t,os'⟩:=s';obtain rfl:os'=s.os:=os;exact⟨v,H',I.call (h':=hh) (g':=g) (d':=d) (t':=t) (ch:=[]) un hok bare (λb z=>absurd z (by simp)),r,q⟩
end
def e4w(sp:Sp)(dvs:List V)(E:XK)(t:TA):TE:=λσ H Q=>t σ H λvs H1=>sp (vs++dvs) H1 Q E
def e1o(C:Addr)(m:Str)(sp:Sp)(dvs:List V)(E:XK)(ta:TE)(t:TA):TE:=λσ H Q=>ta σ H λx H1=>∃a dx fs,x=.ref a/\H1 a=some (.ins C dx fs)/\fs.lookup m=none /\
 t σ H1 λvs H2=>sp (x::(vs++dvs)) H2 Q E
def e4t(C:Addr)(sp:Sp)(dvs:List V)(E:XK)(t:TA):TE:=λσ H Q=>t σ H λvs H1=>∀x dx,H1 x=none->H1 dx=none->dx≠x ->
 sp (.ref x::(vs++dvs)) (upd (upd H1 dx (.own x)) x (.ins C dx [])) (λv H2=>v=.non/\Q (.ref x) H2) E
def Binds(K:Frag)(fd:FuncData)(ps:List Str)(ds:List Value):Prop :=
 ∀(s:Shared)(us:List Value),K.In s.heap->(us++ds).length=ps.length->BindsTo s fd ⟨us,[]⟩ (ps.zip (us++ds))
theorem Binds.all{K:Frag}{fd:FuncData}{ps:List Str}(h:∀us:List Value,us.length=ps.length->bindArgs fd ⟨us,[]⟩=pure (ps.zip us)):Binds K fd ps []:=λs us _ hl=>by
 rw[List.append_nil] at hl ⊢;exact .of_eq (h us hl)
def a4a(CX:CXT)(X:Cx)(E:XK):Prop:=∀(pins:List (Addr×Obj))(σ:St)(H:Hp)(s:Shared)(e:Value)(s':Shared),Inv X pins σ H s->CX X.stack H s E e s'->X.xe e s'
section
variable{X:Cx}{CX:CXT}{k:Nat}{f C:Addr}{fd:FuncData}{ps:List Str}{sp:Sp}{dvs:List V}{ds:List Value}{E:XK}{x m:Str}{p pos apos:Pos}{e o:Expr}{es:List Expr}{ta:TE}{t:TA}
theorem b8a{pins:List (Addr×Obj)}{σ:St}{H:Hp}{s:Shared}{Q:VK}{us:List Value}{vs:List V}(F:FnOk X.prog X.w X.K X.mg X.base CX k f fd ps sp)(hr:Room k X.A)(hb:Binds X.K fd ps ds)(hd:Vals dvs ds)(hx:a4a CX X E)(I:Inv X pins σ H s)(r:Vals vs us)(h:sp (vs++dvs) H Q E):wpAny (model X.prog X.w) X.A (call (.ref f) us) (EP X pins σ Q) X.xe s:=by
 have r2:Vals (vs++dvs) (us++ds):=r.append hd;have hl:(us++ds).length=ps.length:=by rw[<- r2.length];exact F.len _ _ _ _ h
 refine wpAny_call (codeAny_mono (F.run X.A X.stack s H ⟨us,[]⟩ (us++ds) (vs++dvs) Q E hr I.env0 (hb s us I.kIn hl) r2 h) λr s' hq=>?_);cases r with
 | error e=>exact hx pins σ H s e s' I hq
 | ok fl=>
  cases fl with
  | ret u=>exact I.after hq
  | next=>exact False.elim hq
  | brk=>exact False.elim hq
  | cont=>exact False.elim hq
theorem d9r(F:FnOk X.prog X.w X.K X.mg X.base CX k f fd ps sp)(hr:Room k X.A)(hg:Gl X x)(hm:X.mg x=some (.ref f))(hk:keepIn X.K (.ref f)=true)(hb:Binds X.K fd ps ds)(hd:Vals dvs ds)(hx:a4a CX X E)(ha:PA X (e::es) t)(hdb:(x == ("__debug__":Str))=false:=by decide)(he:starEach (e::es) X.env=(false,eval e X.env)::starEach es X.env:=by rfl)(hpl:(backTo pos (starEach es X.env)).any (·.1)=false:=by rfl):
  PE X (.Call (.Name x p) (e::es) [] pos) (e4w sp dvs E t):=by
 intro pins s σ H Q I h;refine wpAny_Call_Name_kw (b8t I hg hm ?_ hdb);refine callWith_K (h₀:=X.base) I.ok.mod.kin hk (thn (ha pos pins s σ H _ I h) λus s1 z0_=>?_) he hpl;obtain⟨vs,H1,I1,r,q⟩:=z0_;refine⟨I1.kIn,?_⟩;exact b8a F hr hb hd hx I1 r q
theorem d9p{pl:Sem Bool}(he:PE X o ta)(c:Cls X.K C)(hm:e4f X.K C m f)(F:FnOk X.prog X.w X.K X.mg X.base CX k f fd ps sp)(hr:Room k X.A)(hb:Binds X.K fd ps ds)(hd:Vals dvs ds)(hx:a4a CX X E)(ha:PA X (e::es) t)(hst:starEach (e::es) X.env=(false,eval e X.env)::starEach es X.env:=by rfl)(hpl:(backTo pos (starEach es X.env)).any (·.1)=false:=by rfl)(ht:eval (.Call (.Attribute o m apos) (e::es) [] pos) X.env=(do
   let ov <- eval o X.env
   standAt apos.atName
   let (f,first) <- holding [ov] (getMethod ov m pl)
   callWith pos f first (backTo pos (starEach (e::es) X.env)) (backToKw pos (keywordEach [] X.env))):=by rfl):
  PE X (.Call (.Attribute o m apos) (e::es) [] pos) (e1o C m sp dvs E ta t):=by
 intro pins s σ H Q I h;refine PySem.W.methodCall_KW (pl:=pl) (thn (he pins s σ H _ I h) λu s1 z0_=>?_) ht;obtain⟨x,H1,I1,rx,a,dx,fs,ex,ea,l,q⟩:=z0_;subst ex;obtain rfl:u=Value.ref a:=rx;refine a6s I1 ea c hm l ?_;refine callWith_K (first:=[.ref a]) (h₀:=X.base) I.ok.mod.kin hm.kp (thn (ha pos pins s1 σ H1 _ I1 q) λus s2 z0_=>?_) hst hpl
 obtain⟨vs,H2,I2,r,q2⟩:=z0_;refine⟨I2.kIn,?_⟩;exact b8a (us:=.ref a::us) (vs:=.ref a::vs) F hr hb hd hx I2 (.cons rfl r) q2
theorem d6n{pl:Sem Bool}(he:PE X o ta)(c:Cls X.K C)(hm:e4f X.K C m f)(F:FnOk X.prog X.w X.K X.mg X.base CX k f fd ps sp)(hr:Room k X.A)(hb:Binds X.K fd ps ds)(hd:Vals dvs ds)(hx:a4a CX X E)(ht:eval (.Call (.Attribute o m apos) [] [] pos) X.env=(do
   let ov <- eval o X.env
   standAt apos.atName
   let (f,first) <- holding [ov] (getMethod ov m pl)
   callWith pos f first (backTo pos (starEach [] X.env)) (backToKw pos (keywordEach [] X.env))):=by rfl):
  PE X (.Call (.Attribute o m apos) [] [] pos) (e1o C m sp dvs E ta e1c):=by
 intro pins s σ H Q I h;refine PySem.W.methodCall_KW (pl:=pl) (thn (he pins s σ H _ I h) λu s1 z0_=>?_) ht;obtain⟨x,H1,I1,rx,a,dx,fs,ex,ea,l,q⟩:=z0_;subst ex;obtain rfl:u=Value.ref a:=rx;refine a6s I1 ea c hm l ?_;exact PySem.W.callWith_K0 (first:=[.ref a]) I1.kIn hm.kp (b8a (us:=[.ref a]) (vs:=[.ref a]) F hr hb hd hx I1 (.cons rfl .nil) q)
structure Mk(K:Frag)(C f:Addr):Prop where
 makes:makesIn K C=true
 init:findIn K (.ref C) "__init__" = some (some (.ref f))
 fn:isFn K (.ref f)=true
 kp:keepIn K (.ref C)=true
theorem d6f{pins:List (Addr×Obj)}{σ:St}{H:Hp}{s:Shared}{Q:VK}{us:List Value}{vs:List V}(M:Mk X.K C f)(F:FnOk X.prog X.w X.K X.mg X.base CX k f fd ps sp)(hr:Room (k+1) X.A)(hb:Binds X.K fd ps ds)(hd:Vals dvs ds)(hx:a4a CX X E)(I:Inv X pins σ H s)(r:Vals vs us)(h:∀x dx,H x=none->H dx=none->dx≠x->sp (.ref x::(vs++dvs)) (upd (upd H dx (.own x)) x (.ins C dx [])) (λv H2=>v=.non/\Q (.ref x) H2) E):
  wpAny (model X.prog X.w) X.A (call (.ref C) us) (EP X pins σ Q) X.xe s:=by
 have hq:=h (s.heap.objs.size+1) s.heap.objs.size (I.hok.fresh (Nat.le_succ _)) (I.hok.fresh (Nat.le_refl _)) (Nat.ne_of_lt (Nat.lt_succ_self _));have I2:=Inv.made (C:=C) I;have r2:Vals (V.ref (s.heap.objs.size+1)::(vs++dvs)) (Value.ref (s.heap.objs.size+1)::(us++ds)):=.cons rfl (r.append hd);have hl:(Value.ref (s.heap.objs.size+1)::us++ds).length=ps.length:=by
  have e:=r2.length;rw[F.len _ _ _ _ hq] at e;exact e.symm
 refine wpAny_call (d6w (f:=f) I.kIn M.makes M.init (beq_iff_eq.mp M.fn) (codeAny_mono (F.run _ X.stack _ _ ⟨Value.ref (s.heap.objs.size+1)::us,[]⟩ (Value.ref (s.heap.objs.size+1)::(us++ds)) _ _ E (hr.make C us [])
  (I2.env0.make C us []) (hb _ (Value.ref (s.heap.objs.size+1)::us) I2.kIn hl) r2 hq) λr s' hq'=>?_))
 cases r with
 | error e=>exact hx pins σ _ _ e s' I2 hq'
 | ok fl=>
  cases fl with
  | ret u=>
   obtain⟨v,H',I3,rv,ev,q3⟩:=I2.after hq';subst ev;exact⟨rv,⟨V.ref (s.heap.objs.size+1),H',I3,rfl,q3⟩⟩
  | next=>exact False.elim hq'
  | brk=>exact False.elim hq'
  | cont=>exact False.elim hq'
theorem d9q(M:Mk X.K C f)(F:FnOk X.prog X.w X.K X.mg X.base CX k f fd ps sp)(hr:Room (k+1) X.A)(hg:Gl X x)(hm:X.mg x=some (.ref C))(hb:Binds X.K fd ps ds)(hd:Vals dvs ds)(hx:a4a CX X E)(ha:PA X (e::es) t)(hdb:(x == ("__debug__":Str))=false:=by decide)(he:starEach (e::es) X.env=(false,eval e X.env)::starEach es X.env:=by rfl)(hpl:(backTo pos (starEach es X.env)).any (·.1)=false:=by rfl):
  PE X (.Call (.Name x p) (e::es) [] pos) (e4t C sp dvs E t):=by
 intro pins s σ H Q I h;refine wpAny_Call_Name_kw (b8t I hg hm ?_ hdb);refine callWith_K (h₀:=X.base) I.ok.mod.kin M.kp (thn (ha pos pins s σ H _ I h) λus s1 z0_=>?_) he hpl;obtain⟨vs,H1,I1,r,q⟩:=z0_;refine⟨I1.kIn,?_⟩;exact d6f M F hr hb hd hx I1 r q
end
section
variable{X:Cx}{CX:CXT}{k:Nat}{f C:Addr}{fd:FuncData}{ps ks:List Str}{sp:Sp}{E:XK}{x m:Str}{p pos apos kpos:Pos}{e o:Expr}{es:List Expr}{kws:List Keyword}{te ta:TE}{t tk:TA}{nm:Option Str}
variable{g:List Value->List Value->List Value}{gV:List V->List V->List V}
end
structure d9(N P:List Str)(sc:Scope):Prop where
 kind:sc.kind=.function
 co:sc.isCoroutine=false
 gen:sc.isGenerator=false
 nd:N.Nodup
 pre:N.take P.length=P
 par:∀x∈P,sc.names.lookup x=some .local\/sc.names.lookup x=some .cell
 nofree:∀y∈sc.names,y.2≠.free
theorem c6o{kindOf:Str->Option NameKind}{x:Str}:∀{binds:List (Str×Value)}{m:Str->Option Value},(∀v,(x,v) ∉ binds)->bindL kindOf binds m x=m x
 | [],_,_=>rfl
 | (n,v)::r,m,h=>by
  unfold bindL;rw[c6o λw hw=>h w (List.mem_cons_of_mem _ hw)];split
  ·have:x≠n:=by rintro rfl;exact h v List.mem_cons_self
   simp[this]
  ·rfl
theorem c6q{kindOf:Str->Option NameKind}{x:Str}:∀{binds:List (Str×Value)}{m:Str->Option Value},(∀v,(x,v) ∉ binds)->bindC kindOf binds m x=m x
 | [],_,_=>rfl
 | (n,v)::r,m,h=>by
  unfold bindC;rw[c6q λw hw=>h w (List.mem_cons_of_mem _ hw)];split
  ·rfl
  ·have:x≠n:=by rintro rfl;exact h v List.mem_cons_self
   simp[this]
theorem c6p{kindOf:Str->Option NameKind}{x:Str}{v:Value}:∀{P:List Str}{vs:List Value}{i:Nat}{m:Str->Option Value},P.Nodup->P[i]?=some x->vs[i]?=some v->kindOf x=some .local ->
  bindL kindOf (P.zip vs) m x=some v
 | [],_,_,_,_,h,_,_=>by simp at h
 | _::_,[],_,_,_,_,h,_=>by simp at h
 | p::P,w::vs,0,m,nd,h1,h2,hk=>by
  simp at h1 h2;subst h1;subst h2;show bindL kindOf ((p,w)::P.zip vs) m p=_;unfold bindL;rw[c6o λv hv=>(List.nodup_cons.mp nd).1 (List.of_mem_zip hv).1,if_pos hk];simp
 | p::P,w::vs,i+1,m,nd,h1,h2,hk=>by
  show bindL kindOf ((p,w)::P.zip vs) m x=_;unfold bindL;exact c6p (i:=i) (List.nodup_cons.mp nd).2 (by simpa using h1) (by simpa using h2) hk
theorem c6r{kindOf:Str->Option NameKind}{x:Str}{v:Value}:∀{P:List Str}{vs:List Value}{i:Nat}{m:Str->Option Value},P.Nodup->P[i]?=some x->vs[i]?=some v->kindOf x≠some .local ->
  bindC kindOf (P.zip vs) m x=some v
 | [],_,_,_,_,h,_,_=>by simp at h
 | _::_,[],_,_,_,_,h,_=>by simp at h
 | p::P,w::vs,0,m,nd,h1,h2,hk=>by
  simp at h1 h2;subst h1;subst h2;show bindC kindOf ((p,w)::P.zip vs) m p=_;unfold bindC;rw[c6q λv hv=>(List.nodup_cons.mp nd).1 (List.of_mem_zip hv).1,if_neg hk];simp
 | p::P,w::vs,i+1,m,nd,h1,h2,hk=>by
  show bindC kindOf ((p,w)::P.zip vs) m x=_;unfold bindC;exact c6r (i:=i) (List.nodup_cons.mp nd).2 (by simpa using h1) (by simpa using h2) hk
def start(N:List Str)(vs:List V):St:=vs.map some++List.replicate (N.length-vs.length) none
def b6u(CX:CXT)(P:Program)(w:World)(K:Frag)(mg:Str->Option Value)(base:Heap)(N:List Str)(qual:Str)(scope:Scope)(f:Addr)(cd:Value)(A:Around)(outer:List Env)(s:Shared)(H:Hp)(E:XK):Cx where
 prog:=P
 w:=w
 K:=K
 mg:=mg
 base:=base
 A:=A.deeper (envOfC qual scope s.heap.objs.size f cd)
 N:=N
 s₀:=s
 H₀:=H
 env:=envOfC qual scope s.heap.objs.size f cd
 outer:=outer
 stack:=envOfC qual scope s.heap.objs.size f cd::outer
 ex:=[]
 calm:=true
 fn:=λ_=>true
 pn:=[]
 xe:=λe s'=>wpAny (model P w) (A.deeper (envOfC qual scope s.heap.objs.size f cd)) (leaving (envOfC qual scope s.heap.objs.size f cd) e) (λ_ s''=>CX outer H s E e s'') (λe' s''=>CX outer H s E e' s'') s'
theorem d0c{sc:Scope}{n:Nat}{x:Str}(h:sc.names.lookup x=some .cell):∃c,(cellsFrom n sc.names []).lookup x=some c:=by
 have q:=PySem.W.cellsFrom_some sc.names n [] (.inl h);exact Option.isSome_iff_exists.mp q
theorem d3x{CX:CXT}{P:Program}{w:World}{K:Frag}{mg:Str->Option Value}{base:Heap}{N ps:List Str}{qual:Str}{scope:Scope}{f:Addr}{cd:Value}{A:Around}{outer:List Env}{s s1:Shared}{H:Hp}{E:XK}{us:List Value}{vs:List V}(S:d9 N ps scope)(hd:A.handled=none)(e0:Env0 P w K mg base A outer s H)(hl:vs.length=ps.length)(r:Vals vs us)(x:InCallC s s.heap.objs.size (bindL (envOfC qual scope s.heap.objs.size f cd).kindOf (ps.zip us) λ_=>none) (cellsFrom (s.heap.objs.size+1) scope.names []) (bindC (envOfC qual scope s.heap.objs.size f cd).kindOf (ps.zip us) λ_=>none) s1):
  Inv (b6u CX P w K mg base N qual scope f cd A outer s H E) [] (start N vs) H s1:=by
 have hpl:ps.length<=N.length:=by have:=congrArg List.length S.pre;rw[List.length_take] at this;lia
 obtain⟨h1,tk,rfl,hk⟩:=x.done;have noA:∀b:Addr,b ∉ (b6u CX P w K mg base N qual scope f cd A outer s H E).ex:=λb z=>absurd (show b∈([]:List Addr) from z) (by simp)
 refine⟨⟨e0.mod,S.kind,rfl,rfl,Nat.le_refl _,λy z c h1 h2=>?_,λy hy=>?_,λy c _ h=>?_,λ_=>hd,Around.frames_deeper e0.frames,.inr ⟨rfl,rfl⟩,λb z=>absurd z (noA b),e0.bs,e0.bsz,λb _ _=>noA b,λb z=>absurd z (noA b),e0.funs,e0.frf⟩,
  rfl,e0.bare,Un.kept hk,⟨_,x.toInCall.ns,λi y v h1 h2 h3=>?_⟩,λy c h=>⟨_,x.cell y c h⟩,e0.hok.fresh (Nat.le_refl _),λy c h=>?_,λp hp=>absurd (show p∈([]:List (Addr×Obj)) from hp) (by simp),e0.hok.kept hk,?_⟩
 ·exact name_of_addr x.apart (PySem.mem_of_lookup h1) (PySem.mem_of_lookup h2)
 ·have hy:scope.names.lookup y=some .cell\/scope.names.lookup y=some .free:=hy
  rcases hy with hy|hy
  ·exact d0c hy
  ·exact absurd rfl (S.nofree _ (PySem.mem_of_lookup hy))
 ·exact Nat.le_of_lt (x.above y c (PySem.mem_of_lookup h))
 ·have hi:i<vs.length:=by
   unfold start at h2;by_cases hi:i<vs.length
   ·exact hi
   ·rw[List.getElem?_append_right (by simpa using hi)] at h2
    rw[List.getElem?_replicate] at h2;split at h2 <;> cases h2
  have ha:vs[i]?=some v:=by
   unfold start at h2;rw[List.getElem?_append_left (by simpa using hi),List.getElem?_map] at h2
   cases e:vs[i]? with
   | none=>rw[e] at h2;cases h2
   | some a=>rw[e] at h2;cases h2;rfl
  obtain⟨u,hu,rv⟩:=r.get ha;have hp:ps[i]?=some y:=by
   rw[<- S.pre,List.getElem?_take_of_lt ↑5];exact h1
  have ndP:ps.Nodup:=by rw[<- S.pre];exact S.nd.sublist (List.take_sublist _ _)
  refine⟨u,rv,?_⟩;rcases S.par y (List.mem_of_getElem? hp) with k|k
  ·exact .inl ⟨k,c6p ndP hp hu k⟩
  ·obtain⟨c,e⟩:=d0c (n:=s.heap.objs.size+1) k
   refine .inr ⟨.inl k,c,e,?_⟩;have q:=x.cell y c e;rw[c6r ndP hp hu (by show scope.names.lookup y≠_;rw[k];decide)] at q
   exact q
 ·exact e0.hok.fresh (Nat.le_of_lt (x.above y c (PySem.mem_of_lookup h)))
 ·unfold start
  show _=N.length;rw[List.length_append,List.length_map,List.length_replicate];lia
theorem e6e{CX:CXT}{P:Program}{w:World}{K:Frag}{mg:Str->Option Value}{base:Heap}{k:Nat}{f:Addr}{name qual:Str}{params:Arguments}{body:List Stmt}{scope:Scope}{dV kV doc pm cdv ct oc:Value}{an od:Option Addr}{osl:Array (Option Value)}{N ps:List Str}{sp:Sp}(lk:K.lookup f=some ⟨oc,od,.func (PySem.W.fnOf name qual params body scope dV kV doc pm an cdv ct),osl⟩)(hcd:codeIn K cdv qual=true)(S:d9 N ps scope)(len:∀vs H Q E,sp vs H Q E->vs.length=ps.length)(hbody:∀(A:Around) (outer:List Env) (s:Shared) (H:Hp) (vs:List V) (Q:VK) (E:XK),Room k (A.deeper (envOfC qual scope s.heap.objs.size f cdv))->sp vs H Q E ->
   ∃t,PSs (b6u CX P w K mg base N qual scope f cdv A outer s H E) body t/\t { nx:=λ_ H'=>Q .non H',rt:=Q } (start N vs) H):
  FnOk P w K mg base CX (k+1) f (PySem.W.fnOf name qual params body scope dV kV doc pm an cdv ct) ps sp:=by
 refine⟨len,λA outer s H args us vs Q E hr e0 hb r hsp=>?_⟩;have hl:=len _ _ _ _ hsp;have KX:K.In s.heap:=e0.mod.kin.keeps λb o e=>(e0.bs b o e).1;have lim:s.heap.NoLimit:=e0.mod.nolimit.keeps λb o e=>(e0.bs b o e).1;have hkind:∀y∈ps.zip us,scope.names.lookup y.1=some .local\/(scope.names.lookup y.1=some .cell/\((cellsFrom (s.heap.objs.size+1) scope.names []).lookup y.1).isSome=true):=λ⟨n,v⟩ hy=>by
  rcases S.par n (List.of_mem_zip hy).1 with q|q
  ·exact .inl q
  ·exact .inr ⟨q,PySem.W.cellsFrom_some _ _ _ (.inl q)⟩
 refine codeAny_call_function hr.depth (KX _ _ lk) rfl S.co S.gen rfl (PySem.W.codeRec_of KX hcd) (hb _ _ _ _ ?_);refine wpAny_newFunctionEnv_cells S.kind hkind λenv he s1 x=>?_;subst he;refine⟨lim.keeps x.toInCall.keep,codeAny_func ?_⟩;obtain⟨t,ht,hq⟩:=hbody A outer s H vs Q E (hr.deeper _) hsp;have I:Inv (b6u CX P w K mg base N qual scope f cdv A outer s H E) [] (start N vs) H s1:=d3x S hr.hd e0 hl r x;refine wpAny_mono (ht [] s1 (start N vs) H _ I hq) (λfl s' hs=>?_) λe s' hs=>hs;have fin:∀{σ':St}{H':Hp}{v:V}{u:Value},Inv (b6u CX P w K mg base N qual scope f cdv A outer s H E) [] σ' H' s'->RelV v u->Q v H'->CE outer P w H s Q u s' :=
  λ{σ' H' v u} J rv q=>⟨v,H',J.os,J.bare,J.base,J.hok,rv,q⟩
 cases fl with
 | ret u=>
  obtain⟨v,σ',H',J,rv,q⟩:=hs;exact fin J rv q
 | next=>
  obtain⟨σ',H',J,q⟩:=hs;exact fin (v:=V.non) (u:=Value.none) J rfl q
 | brk=>
  obtain⟨_,_,_,q⟩:=hs;exact False.elim q
 | cont=>
  obtain⟨_,_,_,q⟩:=hs;exact False.elim q
end L2
namespace L2
open PySem PySem.Spec PyProof.Rows
section
variable{X:Cx}{x:Str}{p pos:Pos}{e:Expr}{es:List Expr}{t:TA}{id T:String}{r:List V->Hp->VK->Prop}
def tCB(r:List V->Hp->VK->Prop)(t:TA):TE:=λσ H Q=>t σ H λvs H1=>r vs H1 Q
theorem l7(hc:a7z X (.builtin id) r)(hg:Gl X x)(hm:X.mg x=none)(hv:bootBuiltins x=some (.builtin id))(ha:PA X (e::es) t)(hn:x≠"__name__":=by decide)(hdb:(x == ("__debug__":Str))=false:=by decide)(he:starEach (e::es) X.env=(false,eval e X.env)::starEach es X.env:=by rfl)(hpl:(backTo pos (starEach es X.env)).any (·.1)=false:=by rfl):PE X (.Call (.Name x p) (e::es) [] pos) (tCB r t):=by
 intro pins s σ H Q I h;refine wpAny_Call_Name_kw (c0h I hg hm hv ?_ hn hdb);exact PyProof.Rows.callWith_builtin1 (thn (ha pos pins s σ H _ I h) λus s1 z0_=>by obtain⟨vs,H1,I1,r1,q1⟩:=z0_;exact hc pins s1 σ H1 vs us Q I1 r1 q1) he hpl
theorem a6n(hc:a7z X (.type T) r)(hg:Gl X x)(hm:X.mg x=none)(hv:bootBuiltins x=some (.type T))(ha:PA X (e::es) t)(hn:x≠"__name__":=by decide)(hdb:(x == ("__debug__":Str))=false:=by decide)(he:starEach (e::es) X.env=(false,eval e X.env)::starEach es X.env:=by rfl)(hpl:(backTo pos (starEach es X.env)).any (·.1)=false:=by rfl):PE X (.Call (.Name x p) (e::es) [] pos) (tCB r t):=by
 intro pins s σ H Q I h;refine wpAny_Call_Name_kw (c0h I hg hm hv ?_ hn hdb);exact PyProof.Rows.callWith_type1 (thn (ha pos pins s σ H _ I h) λus s1 z0_=>by obtain⟨vs,H1,I1,r1,q1⟩:=z0_;exact hc pins s1 σ H1 vs us Q I1 r1 q1) he hpl
end
end L2
namespace HT
open PySem PyProof.Rows
section
open PySem.SeqAt
open PySem.AutoSeq1 (wpAny_loadPart')
open PySem.MeetsSeq PySem.MeetsSeq2 PySem.MeetsSeq3
end
section
variable{prog:Program}{w:World}{A:Around}{E:Value->Shared->Prop}{s:Shared}
theorem cat_tup{t b:Addr}{vs ws:List Value}{Q:Value->Shared->Prop}(ht:IsTup s.heap t vs.toArray)(hb:IsTup s.heap b ws.toArray)(hv:vs≠[])(h1:ws=[]->Q (.ref t) s)(h2:ws≠[]->Q (.ref s.heap.objs.size) { s with heap:=s.heap.push { cls:=.type "tuple",data:=.seq (vs++ws).toArray } })(hsz:vs.length+ws.length<=sizeLine):wpAny (model prog w) A (binaryOp .Add (.ref t) (.ref b)) Q E s:=by
 obtain⟨⟨cls,dd,data,sl⟩,ho,hc,n,hd⟩:=id ht;obtain⟨⟨cls2,dd2,data2,sl2⟩,ho2,hc2,n2,hd2⟩:=id hb;simp only at hc hd hc2 hd2;subst hc hd hc2 hd2;have e:vs.toArray++ws.toArray=(vs++ws).toArray:=by simp
 by_cases hw:ws=[]
 ·exact concat_meets ⟨_,ho,rfl⟩ ⟨_,ho2,rfl⟩ noFill_tuple_add seq_tuple_add PySem.F.slot_tuple_add PySem.F.entry_tuple_add (PySem.F.args_tuple_add_2 _ _)
   (tuple_addW1 t b vs.toArray ws.toArray n n2 dd dd2 sl sl2 (by simpa using hv) (by simp[hw])) ⟨ho,ho2,h1 hw⟩
 ·refine concat_meets ⟨_,ho,rfl⟩ ⟨_,ho2,rfl⟩ noFill_tuple_add seq_tuple_add PySem.F.slot_tuple_add PySem.F.entry_tuple_add (PySem.F.args_tuple_add_2 _ _)
   (tuple_addW2 t b vs.toArray ws.toArray n n2 dd dd2 sl sl2 (by simpa using hv) (by simpa using hw) (by rw[List.size_toArray,List.size_toArray];exact hsz)) ⟨ho,ho2,?_⟩
  rw[e];exact h2 hw
def sIx(n d:Nat):Option Int->Nat
 | none=>d
 | some v=>if v<0 then (v+(n:Int)).toNat else min v.toNat n
theorem sIx_none(n d:Nat):sIx n d none=d:=rfl
theorem sIx_nat(n d k:Nat):sIx n d (some (k:Int))=min k n:=by
 show(if (k:Int)<0 then ((k:Int)+(n:Int)).toNat else min (k:Int).toNat n)=min k n;rw[if_neg ↑5,Int.toNat_natCast]
end
end HT
namespace L2
open PySem PySem.Spec PyProof.Rows
abbrev TO:=St->Hp->(Option Int->Hp->Prop)->Prop
def PO(X:Cx)(e:Option Expr)(t:TO):Prop :=
 ∀(pins:List (Addr×Obj))(s:Shared)(σ:St)(H:Hp)(Q:Option Int->Hp->Prop),Inv X pins σ H s->t σ H Q ->
  wpAny (model X.prog X.w) X.A (evalPart e X.env) (λu s'=>∃o H',Inv X pins σ H' s'/\IsPart u o/\Q o H') X.xe s
def d2i:TO:=λ_ H Q=>Q none H
def e1m(t:TE):TO:=λσ H Q=>t σ H λx H1=>∃i,x=.int i/\Q (some i) H1
section
variable{X:Cx}{e:Expr}{te:TE}{lo hi:Option Expr}{tl th:TO}{pos p2:Pos}
theorem d2z:PO X none d2i:=by
 intro pins s σ H Q I h;rw[evalPart_none];exact wpAny_pure ⟨none,H,I,.none,h⟩
theorem d2y(h:PE X e te):PO X (some e) (e1m te):=by
 intro pins s σ H Q I hw;rw[evalPart_some];refine thn (h pins s σ H _ I hw) λu s1 z0_=>?_;obtain⟨x,H1,I1,r1,q1⟩:=z0_;obtain⟨i,rfl,q⟩:=q1;obtain⟨t,rfl⟩:=r1;exact⟨some i,H1,I1,.int i t,q⟩
def SlR(X:Cx)(r:V->Option Int->Option Int->Hp->VK->Prop):Prop :=
 ∀(pins:List (Addr×Obj))(s:Shared)(σ:St)(H:Hp)(x:V)(v vl vu:Value)(lo hi:Option Int)(sl:Addr)(Q:VK),Inv X pins σ H s->RelV x v->s.heap.IsSliceOf sl vl vu .none->IsPart vl lo->IsPart vu hi->r x lo hi H Q ->
  ∃T id,typeLookup (.type T) "__getitem__" = pure (some (.builtin id))/\s.TypeIs v T/\wpAny (model X.prog X.w) X.A (getItem v (.ref sl)) (EP X pins σ Q) X.xe s
def tSl(r:V->Option Int->Option Int->Hp->VK->Prop)(te:TE)(tl th:TO):TE:=λσ H Q=>te σ H λx H1=>tl σ H1 λl H2=>th σ H2 λu H3=>r x l u H3 Q
theorem c9h{r:V->Option Int->Option Int->Hp->VK->Prop}(hr:SlR X r)(he:PE X e te)(hl:PO X lo tl)(hu:PO X hi th):PE X (.Subscript e (.Slice lo hi none p2) pos) (tSl r te tl th):=by
 intro pins s σ H Q I h;refine Subscript_ (thn (he pins s σ H _ I h) λv s1 z0_=>?_);obtain⟨x,H1,I1,r1,q1⟩:=z0_;refine wpAny_Slice (thn (hl pins s1 σ H1 _ I1 q1) λvl s2 z0_=>?_);obtain⟨l,H2,I2,pl,q2⟩:=z0_;refine thn (hu pins s2 σ H2 _ I2 q2) λvu s3 z1_=>?_;obtain⟨u,H3,I3,pu,q3⟩:=z1_;rw[evalPart_none];refine wpAny_pure ?_;have I4:Inv X pins σ H3 { s3 with heap:=s3.heap.push { cls:=.type "slice",data:=.fields #[vl,vu,.none] } }:=I3.kept (t':=s3.toks) λb ob q=>Heap.get?_push_of_some _ q
 obtain⟨T,id,hT,ht,hg⟩:=hr pins { s3 with heap:=s3.heap.push { cls:=.type "slice",data:=.fields #[vl,vu,.none] } } σ H3 x v vl vu l u s3.heap.objs.size Q I4 r1 (Heap.IsSliceOf.new ..) pl pu q3
 show wpAny (model X.prog X.w) X.A (subscriptTail e (.Slice lo hi none p2) v (.ref s3.heap.objs.size)) (EP X pins σ Q) X.xe { s3 with heap:=s3.heap.push { cls:=.type "slice",data:=.fields #[vl,vu,.none] } }
 exact tail_any (ops:=[.ref s3.heap.objs.size,v]) ht hT hg (by with_unfolding_all rfl)
def d7v(xs:List V)(lo hi:Option Int):List V:=(xs.drop (HT.sIx xs.length 0 lo)).take (HT.sIx xs.length xs.length hi-HT.sIx xs.length 0 lo)
theorem c8l(xs:List V)(lo hi:Option Int):(d7v xs lo hi).length<=xs.length:=by
 unfold d7v;rw[List.length_take,List.length_drop];lia
def e2a(K:Frag):R2:=λx y H Q=>∃a b xs ys,x=.ref a/\y=.ref b/\SqT K H a xs/\SqT K H b ys/\xs≠[]/\xs.length+ys.length<=sizeLine /\
 (ys=[]->Q (.ref a) H)/\(ys≠[]->∀p,H p=none->Q (.ref p) (upd H p (.tup (xs++ys))))
theorem Vals.nil_iff{xs:List V}{us:List Value}(r:Vals xs us):us=[] ↔ xs=[]:=by
 cases r with
 | nil=>simp
 | cons _ _=>simp
theorem d9v:OpR X (binaryOp .Add) (e2a X.K):=by
 intro pins s σ H x y v u Q I rx ry h;obtain⟨a,b,xs,ys,rfl,rfl,ha,hb,hx,hz,q1,q2⟩:=h;cases rx;cases ry;obtain⟨its,r1,p1,_⟩:=I.tuple ha;obtain⟨its2,r2,p2,_⟩:=I.tuple hb;refine HT.cat_tup p1 p2 (λz=>hx (r1.nil_iff.mp z)) (λz=>⟨.ref a,H,I,rfl,q1 (r2.nil_iff.mp z)⟩) (λz=>?_) (by rw[<- r1.length,<- r2.length];exact hz)
 refine⟨.ref s.heap.objs.size,_,I.laid (t':=s.toks) (o:=.tup (xs++ys)) (λb ob q=>Heap.get?_push_of_some _ q) (Nat.le_refl _) ?_,rfl,q2 (λw=>z (r2.nil_iff.mpr w)) _ (I.hok.fresh (Nat.le_refl _))⟩;exact⟨by rw[List.length_append];exact hz,_,r1.append r2,IsTup.new _ _⟩
end
end L2
namespace L2
open PySem PySem.Spec PyProof.Rows
def ixN(n:Nat)(i:Int):Option Nat:=if 0<=i then (if i<n then some i.toNat else none) else if -(n:Int)<=i then some (i+n).toNat else none
def atI{α:Type}(xs:List α)(i:Int):Option α:=(ixN xs.length i).bind λj=>xs[j]?
theorem d3v{n:Nat}{i:Int}{j:Nat}(h:ixN n i=some j):seqIndex? i n=some j/\j<n/\-(n:Int)<=i/\i<n:=by
 unfold ixN at h;by_cases h0:0<=i
 ·rw[if_pos h0] at h
  by_cases h1:i<n
  ·rw[if_pos h1] at h
   have e:i.toNat=j:=Option.some.inj h;exact⟨by rw[seqIndex_of h0 h1,e],by lia,by lia,h1⟩
  ·rw[if_neg h1] at h;cases h
 ·rw[if_neg h0] at h
  by_cases h1:-(n:Int)<=i
  ·rw[if_pos h1] at h
   have e:(i+n).toNat=j:=Option.some.inj h;exact⟨by rw[seqIndex_neg ↑5 h1,e],by lia,h1,by lia⟩
  ·rw[if_neg h1] at h;cases h
theorem d5j{α:Type}{xs:List α}{i:Int}{v:α}(h:atI xs i=some v):∃j,seqIndex? i xs.length=some j/\xs[j]?=some v/\j<xs.length/\-(xs.length:Int)<=i/\i<xs.length:=by
 unfold atI at h;cases e:ixN xs.length i with
 | none=>rw[e] at h;cases h
 | some j=>
  rw[e] at h;obtain⟨h1,h2,h3,h4⟩:=d3v e;exact⟨j,h1,h,h2,h3,h4⟩
def e1a(b:Expr):Prop:=∀o i,subscripted b false o i=operate [o,i] (getItem o i)
def IxR(X:Cx)(r:R2):Prop :=
 ∀(value slice:Expr)(pins:List (Addr×Obj))(s:Shared)(σ:St)(H:Hp)(x y:V)(v u:Value)(Q:VK),Inv X pins σ H s->RelV x v->RelV y u->r x y H Q ->
  subscripted slice false v u=operate [v,u] (getItem v u)->wpAny (model X.prog X.w) X.A (subscriptTail value slice v u) (EP X pins σ Q) X.xe s
def MtR(X:Cx)(id:String)(r:V->List V->Hp->VK->Prop):Prop :=
 ∀(pins:List (Addr×Obj))(s:Shared)(σ:St)(H:Hp)(x:V)(xs:List V)(v:Value)(us:List Value)(Q:VK),Inv X pins σ H s->RelV x v->Vals xs us->r x xs H Q ->
  wpAny (model X.prog X.w) X.A (call (.builtin id) (v::us)) (EP X pins σ Q) X.xe s
section
variable{X:Cx}{a b:Expr}{ta tb:TE}{pos:Pos}
theorem u9{r:R2}(hr:IxR X r)(ha:PE X a ta)(hb:PE X b tb)(hs:e1a b):PE X (.Subscript a b pos) (tOp r ta tb):=by
 intro pins s σ H Q I h;exact Subscript_ (e6g ha hb I h λv u s2 x y H2 I2 rx ry q=>hr a b pins s2 σ H2 x y v u Q I2 rx ry q (hs _ _))
def e5c(K:Frag):R2:=λx y H Q=>∃p xs i v,x=.ref p/\y=.int i/\SqL K H p xs/\atI xs i=some v/\Q v H
def e5b(K:Frag):R2:=λx y H Q=>∃p xs i v,x=.ref p/\y=.int i/\SqT K H p xs/\atI xs i=some v/\Q v H
theorem e0c:IxR X (e5c X.K):=by
 intro value slice pins s σ H x y v u Q I rx ry h hs;obtain⟨p,xs,i,z,rfl,rfl,hq,he,q⟩:=h;cases rx;obtain⟨t,rfl⟩:=ry;obtain⟨its,r,pl,hz⟩:=I.list hq;obtain⟨j,h1,h2,h3,h4,h5⟩:=d5j he;obtain⟨w,ew,rw'⟩:=r.get h2;have hl:=r.length;have hn:=c6a;have fin:EP X pins σ Q w s:=⟨z,H,I,rw',q⟩;by_cases h0:0<=i
 ·have hj:i.toNat=j:=by
   rw[seqIndex_of h0 h5] at h1;exact Option.some.inj h1
  exact item_listR pl.isList h0 ↑5 (by rw[hj];simpa using ew) fin hs
 ·have hj:(i+(its.toArray.size:Int)).toNat=j:=by
   rw[seqIndex_neg ↑5 h4] at h1;rw[List.size_toArray,<- hl];exact Option.some.inj h1
  exact subscriptTail_builtinR (x:=w) pl.isList.typeIs slot_list_getitem.lookup
   (wpAny_getItem_list_neg (Q:=λr s'=>r=w/\EP X pins σ Q r s') pl.isList ↑5 (by rw[List.size_toArray] <;> lia) ↑5 (by rw[hj];simpa using ew) ⟨rfl,fin⟩) hs
theorem e2v:IxR X (e5b X.K):=by
 intro value slice pins s σ H x y v u Q I rx ry h hs;obtain⟨p,xs,i,z,rfl,rfl,hq,he,q⟩:=h;cases rx;obtain⟨t,rfl⟩:=ry;obtain⟨its,r,pl,hz⟩:=I.tuple hq;obtain⟨j,h1,h2,h3,h4,h5⟩:=d5j he;obtain⟨w,ew,rw'⟩:=r.get h2;have hl:=r.length;have hn:=c6a;have fin:EP X pins σ Q w s:=⟨z,H,I,rw',q⟩;exact subscriptTail_builtinR (x:=w) pl.typeIs slot_tuple_getitem.lookup
  (getItem_tuple (j:=j) (Q:=λr s'=>r=w/\EP X pins σ Q r s') pl ↑5 ↑5 (by rw[List.size_toArray,<- hl];exact h1) (by simpa using ew) ⟨rfl,fin⟩) hs
theorem d1q(its:List Value)(n j:Nat)(u:Value):Obj.mapSeq (·.setIfInBounds j u) { cls:=.type "list",data:=.seq its.toArray n }={ cls:=.type "list",data:=.seq (its.set j u).toArray n }:=by
 simp[Obj.mapSeq]
theorem Inv.lst{pins:List (Addr×Obj)}{σ:St}{H:Hp}{s:Shared}{p:Addr}{xs:List V}(I:Inv X pins σ H s)(h:H p=some (.lst xs)):
  ∃(its:List Value)(n:Nat),Vals xs its/\s.heap.get? p=some { cls:=.type "list",data:=.seq its.toArray n }/\xs.length<=sizeLine:=by
 obtain⟨z,its,n,r,e⟩:=I.hok p _ h;exact⟨its,n,r,e,z⟩
theorem Inv.lstUpd{pins:List (Addr×Obj)}{σ:St}{H:Hp}{s:Shared}{p:Addr}{xs ys:List V}{its its':List Value}{n n':Nat}{f:Obj->Obj}(I:Inv X pins σ H s)(h:H p=some (.lst xs))(ho:s.heap.get? p=some { cls:=.type "list",data:=.seq its.toArray n })(hf:f { cls:=.type "list",data:=.seq its.toArray n }={ cls:=.type "list",data:=.seq its'.toArray n' })(r:Vals ys its')(hz:ys.length<=sizeLine)(t:Nat):
  Inv X pins σ (upd H p (.lst ys)) { s with heap:=s.heap.update p f,toks:=t }:=by
 have e:(s.heap.update p f).get? p=some { cls:=.type "list",data:=.seq its'.toArray n' }:=by
  rw[Heap.get?_update_self f ho (by rw[hf] <;> rfl),hf]
 refine I.write (x:=p) (e:=p) (by rw[h];trivial) (.inl rfl) (λb u hb q=>(Heap.get?_update_other _ _ (Ne.symm hb)).trans q) ⟨_,e⟩ ?_
 exact⟨hz,its',n',r,e⟩
def e1y:V->V->V->Hp->(Hp->Prop)->Prop:=λo i v H Q=>∃p xs k j,o=.ref p/\i=.int k/\H p=some (.lst xs)/\ixN xs.length k=some j/\Q (upd H p (.lst (xs.set j v)))
theorem b6y:e6h X e1y:=by
 intro pins s σ H o i v ov iv u Q I ro ri rv h;obtain⟨p,xs,k,j,rfl,rfl,hp,hj,q⟩:=h;cases ro;obtain⟨t,rfl⟩:=ri;obtain⟨its,n,r,ho,hz⟩:=I.lst hp;obtain⟨h1,h2,h3,h4⟩:=d3v hj;have hl:=r.length;have hn:=c6a;have I':Inv X pins σ (upd H p (.lst (xs.set j v))) { s with heap:=s.heap.update p (Obj.mapSeq (·.setIfInBounds j u)) } :=
  I.lstUpd hp ho (d1q its n j u) (r.set rv j) (by rw[List.length_set];exact hz) s.toks
 by_cases h0:0<=k
 ·have hk:k.toNat=j:=by
   rw[seqIndex_of h0 h4] at h1;exact Option.some.inj h1
  exact PySem.W.ki_setAt ho h0 ↑5 (by rw[List.size_toArray,<- hl];exact h4) (by rw[hk];exact⟨_,I',q⟩)
 ·have hk:(k+(its.toArray.size:Int)).toNat=j:=by
   rw[seqIndex_neg ↑5 h3] at h1;rw[List.size_toArray,<- hl];exact Option.some.inj h1
  exact PySem.W.ki_setBack ho ↑5 (by rw[List.size_toArray,<- hl];exact h3) ↑5 (by rw[hk];exact⟨_,I',q⟩)
theorem c3u(lo hi:Option Int)(n:Nat):(sliceBounds lo hi none n).1=((HT.sIx n 0 lo:Nat):Int)/\(sliceBounds lo hi none n).2.1=((HT.sIx n n hi:Nat):Int)/\(sliceBounds lo hi none n).2.2=1:=by
 refine⟨?_,?_,rfl⟩
 ·cases lo with
  | none=>simp[sliceBounds,HT.sIx]
  | some i=>
   simp only[sliceBounds,HT.sIx,Option.getD_none,show(1:Int) > 0 by decide,if_true]
   by_cases h:i<0
   ·simp only[h,if_true] <;> lia
   ·simp only[h,if_false] <;> lia
 ·cases hi with
  | none=>simp[sliceBounds,HT.sIx]
  | some i=>
   simp only[sliceBounds,HT.sIx,Option.getD_none,show(1:Int) > 0 by decide,if_true]
   by_cases h:i<0
   ·simp only[h,if_true] <;> lia
   ·simp only[h,if_false] <;> lia
theorem c0t(its:List Value)(lo hi:Option Int):slicePick its.toArray lo hi none=((its.drop (HT.sIx its.length 0 lo)).take (HT.sIx its.length its.length hi-HT.sIx its.length 0 lo)).toArray:=by
 obtain⟨h1,h2,h3⟩:=c3u lo hi its.toArray.size;unfold slicePick;rw[h1,h2,h3];simp only[sliceRange_one,pick_run,List.size_toArray] <;> rfl
def e6w(K:Frag):V->Option Int->Option Int->Hp->VK->Prop:=λx lo hi H Q=>∃a xs,x=.ref a/\SqL K H a xs/\∀p,H p=none->Q (.ref p) (upd H p (.lst (d7v xs lo hi)))
theorem d9g:SlR X (e6w X.K):=by
 intro pins s σ H x v vl vu lo hi sl Q I rx hs pl pu h;obtain⟨a,xs,rfl,hx,q⟩:=h;cases rx;obtain⟨its,r,ht,hz⟩:=I.list hx;have hlen:=r.length;refine⟨"list",_,slot_list_getitem.lookup,ht.isList.typeIs,?_⟩;refine wpAny_getItem_list_slice ht.isList hs pl pu .none (by simp) ?_ (by rw[List.size_toArray] <;> lia)
 rw[c0t,<- hlen];refine⟨.ref s.heap.objs.size,_,I.laid (t':=s.toks) (o:=.lst (d7v xs lo hi)) (λb ob q=>Heap.get?_push_of_some _ q) (Nat.le_refl _) ?_,rfl,q _ (I.hok.fresh (Nat.le_refl _))⟩;exact⟨Nat.le_trans (c8l xs lo hi) hz,_,0,(r.drop (HT.sIx xs.length 0 lo)).take (HT.sIx xs.length xs.length hi-HT.sIx xs.length 0 lo),Heap.get?_push_size _ rfl⟩
def a4h:V->Bool
 | .non=>true
 | .bl _=>true
 | .int _=>true
 | .str _=>true
 | _=>false
def eqV:V->V->Bool
 | .non,.non=>true
 | .bl a,.bl b=>a == b
 | .bl a,.int b=>(if a then 1 else 0) == b
 | .int a,.bl b=>a == (if b then 1 else 0)
 | .int a,.int b=>a == b
 | .str a,.str b=>a == b
 | _,_=>false
theorem d8k{A:Around}{s:Shared}{y x:V}{u v:Value}(ry:RelV y u)(rx:RelV x v)(fy:a4h y=true)(fx:a4h x=true):SeqAt.EqAt A s u v (eqV y x):=by
 cases y with
 | non=>
  cases ry;cases x with
  | non=>cases rx;exact SeqAt.EqAt.same _
  | bl b=>cases rx;exact SeqAt.EqAt.none_bool b
  | int b=>obtain⟨t,rfl⟩:=rx;exact SeqAt.EqAt.none_int b t
  | str b=>obtain⟨t,rfl⟩:=rx;exact SeqAt.EqAt.none_str b t
  | _=>exact absurd (show false=true from fx) Bool.false_ne_true
 | bl a=>
  cases ry;cases x with
  | non=>cases rx;exact SeqAt.EqAt.bool_none a
  | bl b=>cases rx;exact SeqAt.EqAt.bool_bool a b
  | int b=>obtain⟨t,rfl⟩:=rx;exact SeqAt.EqAt.bool_int a b t
  | str b=>obtain⟨t,rfl⟩:=rx;exact SeqAt.EqAt.bool_str a b t
  | _=>exact absurd (show false=true from fx) Bool.false_ne_true
 | int a=>
  obtain⟨t',rfl⟩:=ry;cases x with
  | non=>cases rx;exact SeqAt.EqAt.int_none a t'
  | bl b=>cases rx;exact SeqAt.EqAt.int_bool a t' b
  | int b=>obtain⟨t,rfl⟩:=rx;exact SeqAt.EqAt.int_int a t' b t
  | str b=>obtain⟨t,rfl⟩:=rx;exact SeqAt.EqAt.int_str a t' b t
  | _=>exact absurd (show false=true from fx) Bool.false_ne_true
 | str a=>
  obtain⟨t',rfl⟩:=ry;cases x with
  | non=>cases rx;exact SeqAt.EqAt.str_none a t'
  | bl b=>cases rx;exact SeqAt.EqAt.str_bool a t' b
  | int b=>obtain⟨t,rfl⟩:=rx;exact SeqAt.EqAt.str_int a t' b t
  | str b=>obtain⟨t,rfl⟩:=rx;exact SeqAt.EqAt.str_str a t' b t
  | _=>exact absurd (show false=true from fx) Bool.false_ne_true
 | _=>exact absurd (show false=true from fy) Bool.false_ne_true
def eqU(x:V)(u:Value):Bool:=match u with
 | .none=>eqV .non x
 | .bool b=>eqV (.bl b) x
 | .int i _=>eqV (.int i) x
 | .str z _=>eqV (.str z) x
 | _=>false
theorem d0a{x y:V}{u:Value}(r:RelV y u)(f:a4h y=true):eqU x u=eqV y x:=by
 cases y with
 | non=>cases r;rfl
 | bl b=>cases r;rfl
 | int i=>obtain⟨t,rfl⟩:=r;rfl
 | str z=>obtain⟨t,rfl⟩:=r;rfl
 | _=>exact absurd (show false=true from f) Bool.false_ne_true
theorem b9b{x:V}:∀{xs:List V}{us:List Value},Vals xs us->xs.all a4h=true->us.any (eqU x)=xs.any λy=>eqV y x
 | _,_,.nil,_=>rfl
 | y::xs,u::us,.cons r t,f=>by
  rw[List.all_cons,Bool.and_eq_true] at f;rw[List.any_cons,List.any_cons,d0a r f.1,b9b t f.2]
theorem b0e{A:Around}{s:Shared}{x:V}{v:Value}(rx:RelV x v)(fx:a4h x=true):∀{xs:List V}{us:List Value},Vals xs us->xs.all a4h=true->∀u∈us,SeqAt.EqAt A s u v (eqU x u)
 | _,_,.nil,_=>λu hu=>by cases hu
 | y::xs,u::us,.cons r t,f=>λu' hu=>by
  rw[List.all_cons,Bool.and_eq_true] at f;rcases List.mem_cons.mp hu with rfl|hu
  ·rw[d0a r f.1];exact d8k r rx f.1 fx
  ·exact b0e rx fx t f.2 u' hu
def inV(x:V)(xs:List V):Bool:=xs.any λy=>eqV y x
def rIn(K:Frag)(neg:Bool):R2:=λx y H Q=>∃p xs,y=.ref p/\(SqL K H p xs\/SqT K H p xs)/\a4h x=true/\xs.all a4h=true/\Q (.bl (if neg then !inV x xs else inV x xs)) H
theorem d3i:OpR X (compareOp .In) (rIn X.K false):=by
 intro pins s σ H x y v u Q I rx ry h;obtain⟨p,xs,rfl,hq,fx,fs,q⟩:=h;cases ry;rcases hq with hq|hq
 ·obtain⟨its,r,pl,hz⟩:=I.list hq
  refine SeqAt.in_listAt (eqU x) pl.isList (λw hw=>b0e rx fx r fs w (by simpa using hw)) ⟨.bl _,H,I,rfl,?_⟩
  rw[show its.toArray.any (eqU x)=its.any (eqU x) by simp,b9b r fs]
  exact q
 ·obtain⟨its,r,pl,hz⟩:=I.tuple hq
  refine SeqAt.in_tupleAt (eqU x) pl (λw hw=>b0e rx fx r fs w (by simpa using hw)) ⟨.bl _,H,I,rfl,?_⟩
  rw[show its.toArray.any (eqU x)=its.any (eqU x) by simp,b9b r fs]
  exact q
theorem c4x:OpR X (compareOp .NotIn) (rIn X.K true):=by
 intro pins s σ H x y v u Q I rx ry h;obtain⟨p,xs,rfl,hq,fx,fs,q⟩:=h;cases ry;rcases hq with hq|hq
 ·obtain⟨its,r,pl,hz⟩:=I.list hq
  refine SeqAt.notIn_listAt (eqU x) pl.isList (λw hw=>b0e rx fx r fs w (by simpa using hw)) ⟨.bl _,H,I,rfl,?_⟩
  rw[show its.toArray.any (eqU x)=its.any (eqU x) by simp,b9b r fs]
  exact q
 ·obtain⟨its,r,pl,hz⟩:=I.tuple hq
  refine SeqAt.notIn_tupleAt (eqU x) pl (λw hw=>b0e rx fx r fs w (by simpa using hw)) ⟨.bl _,H,I,rfl,?_⟩
  rw[show its.toArray.any (eqU x)=its.any (eqU x) by simp,b9b r fs]
  exact q
theorem c6n:a7z X (.builtin "len") (λxs H Q=>∃p ys,xs=[.ref p]/\(SqL X.K H p ys\/SqT X.K H p ys)/\Q (.int ys.length) H):=by
 intro pins s σ H xs us Q I r h;obtain⟨p,ys,rfl,hq,q⟩:=h;obtain⟨u,rfl,rx⟩:=d8o r;cases rx;have hn:=c6a;rcases hq with hq|hq
 ·obtain⟨its,r',pl,hz⟩:=I.list hq
  have hlen:=r'.length;exact Calls.call_len_list pl.isList (by simp only[List.size_toArray] <;> lia) ⟨.int ys.length,H,I.tok _,⟨s.toks+1,by rw[List.size_toArray,hlen]⟩,q⟩
 ·obtain⟨its,r',pl,hz⟩:=I.tuple hq
  have hlen:=r'.length;exact len_tuple pl (by simp only[List.size_toArray] <;> lia) ⟨.int ys.length,H,I.tok _,⟨s.toks+1,by rw[List.size_toArray,hlen]⟩,q⟩
theorem c6m:a7z X (.type "list") (λxs H Q=>∃p ys,xs=[.ref p]/\(SqL X.K H p ys\/SqT X.K H p ys)/\∀l,H l=none->Q (.ref l) (upd H l (.lst ys))):=by
 intro pins s σ H xs us Q I r h;obtain⟨p,ys,rfl,hq,q⟩:=h;obtain⟨u,rfl,rx⟩:=d8o r;cases rx;have fin:∀(its:List Value),Vals ys its->ys.length<=sizeLine->∀(h':Heap)(c':Nat),(∀b o',s.heap.get? b=some o'->h'.get? b=some o') ->
   h'.get? s.heap.objs.size=some { cls:=.type "list",dict:=none,data:=.seq its.toArray c',slots:=#[] }->EP X pins σ Q (.ref s.heap.objs.size) { s with heap:=h' }:=λits r' hz h' c' kp e=>
  ⟨.ref s.heap.objs.size,_,I.laid (t':=s.toks) kp (Nat.le_refl _) (show ObjOk X.prog X.w _ h' _ (.lst ys) from⟨hz,its,c',r',e⟩),rfl,q _ (I.hok.fresh (Nat.le_refl _))⟩
 rcases hq with hq|hq
 ·obtain⟨its,r',pl,hz⟩:=I.list hq
  have hlen:=r'.length;obtain⟨o,ho,hc,n,hd⟩:=pl.isList;exact call_list_seq p (.inl rfl) ho hc hd (λh' c' kp e=>fin its r' hz h' c' kp e) (by simp only[List.size_toArray] <;> lia)
 ·obtain⟨its,r',pl,hz⟩:=I.tuple hq
  have hlen:=r'.length;obtain⟨o,ho,hc,n,hd⟩:=pl;exact call_list_seq p (.inr rfl) ho hc hd (λh' c' kp e=>fin its r' hz h' c' kp e) (by simp only[List.size_toArray] <;> lia)
theorem c3m:a7z X (.type "tuple") (λxs H Q=>∃p ys,xs=[.ref p]/\((SqL X.K H p ys/\∀l,H l=none->Q (.ref l) (upd H l (.tup ys)))\/(SqT X.K H p ys/\Q (.ref p) H))):=by
 intro pins s σ H xs us Q I r h;obtain⟨p,ys,rfl,h⟩:=h;obtain⟨u,rfl,rx⟩:=d8o r;cases rx;rcases h with ⟨hq,q⟩|⟨hq,q⟩
 ·obtain⟨its,r',pl,hz⟩:=I.list hq
  have hlen:=r'.length;refine call_tuple_list pl.isList (λh' kp=>?_) (by simp only[List.size_toArray] <;> lia)
  have I1:Inv X pins σ H { s with heap:=h' }:=I.kept (t':=s.toks) kp
  have I2:Inv X pins σ (upd H h'.objs.size (.tup ys)) { s with heap:=h'.push { cls:=.type "tuple",data:=.seq its.toArray } } :=
   I1.laid (t':=s.toks) (λb o e=>Heap.get?_push_of_some _ e) (Nat.le_refl _) (show ObjOk X.prog X.w _ _ _ (.tup ys) from⟨hz,its,r',IsTup.new _ _⟩)
  exact⟨.ref h'.objs.size,_,I2,rfl,q _ (I1.hok.fresh (Nat.le_refl _))⟩
 ·obtain⟨its,r',pl,hz⟩:=I.tuple hq
  exact call_tuple_same pl ⟨.ref p,H,I,rfl,q⟩
def tyV(K:Frag)(T:String)(x:V)(H:Hp):Prop:=match x with
 | .str _=>T="str"
 | .int _=>T="int"
 | .ref p=>(T="list"/\∃xs,SqL K H p xs)\/(T="tuple"/\∃o,K.lookup p=some o/\o.cls=.type "tuple"/\o.dict=none) \/
   (T="dict"/\((∃kvs,H p=some (.dK kvs)) \/ ∃kvs,H p=some (.dT kvs)))\/(T="set"/\∃S n,H p=some (.set S n))
 | _=>False
theorem e1h{pins:List (Addr×Obj)}{σ:St}{H:Hp}{s:Shared}{T:String}{x:V}{v:Value}(I:Inv X pins σ H s)(r:RelV x v)(ty:tyV X.K T x H):
  s.TypeIs v T/\∀a,v=.ref a->∃ob,s.heap.get? a=some ob/\ob.dict=none:=by
 cases x with
 | str z=>
  obtain⟨t,rfl⟩:=r;cases (show T="str" from ty);exact⟨typeIs_str s z t,λ_ e=>nomatch e⟩
 | int i=>
  obtain⟨t,rfl⟩:=r;cases (show T="int" from ty);exact⟨typeIs_int s i t,λ_ e=>nomatch e⟩
 | ref p=>
  cases r;rcases ty with ⟨rfl,xs,hq⟩|⟨rfl,o,hk,hc,hd⟩|⟨rfl,hk⟩|⟨rfl,S,n,hk⟩
  ·obtain⟨its,_,pl,_⟩:=I.list hq
   refine⟨pl.isList.typeIs,λa e=>?_⟩;cases e;obtain⟨o,n,e,c,hd,_⟩:=pl;exact⟨o,e,hd⟩
  ·refine⟨⟨o,I.kIn p o hk,hc⟩,λa e=>?_⟩
   cases e;exact⟨o,I.kIn _ o hk,hd⟩
  ·have z:∃o,s.heap.get? p=some o/\o.ExactDict:=by
    rcases hk with ⟨kvs,hk⟩|⟨kvs,hk⟩
    ·obtain⟨_,_,_,_,o,_,_,e,ex,_⟩:=I.hok p _ hk
     exact⟨o,e,ex⟩
    ·obtain⟨_,_,_,_,o,_,_,e,ex,_⟩:=I.hok p _ hk
     exact⟨o,e,ex⟩
   obtain⟨o,e,ex⟩:=z;refine⟨⟨o,e,ex.1⟩,λa e2=>?_⟩;cases e2;exact⟨o,e,ex.2.1⟩
  ·obtain⟨o,_,_,_,e,ex,_⟩:=I.hok p _ hk
   refine⟨⟨o,e,ex.1⟩,λa e2=>?_⟩;cases e2;exact⟨o,e,ex.2.1⟩
 | _=>exact False.elim ty
def tBM(K:Frag)(T:String)(r:V->List V->Hp->VK->Prop)(to:TE)(t:TA):TE:=λσ H Q=>to σ H λx H1=>tyV K T x H1/\t σ H1 λxs H2=>r x xs H2 Q
variable{o e:Expr}{es:List Expr}{to:TE}{t:TA}{name:Str}{apos cpos:Pos}{T id:String}{r:V->List V->Hp->VK->Prop}
theorem e2j(pa:PlainAttrs T)(slot:Slot T name id)(hty:typeOf (.builtin id)=pure (.type "method_descriptor"))(hm:MtR X id r)(ho:PE X o to)(ha:PA X (e::es) t)(hbase:attributeBase o name X.env (eval o X.env)=eval o X.env:=by rfl)(hfew:((backTo cpos (starEach (e::es) X.env)).all (λx=>!x.1) && (backToKw cpos (keywordEach [] X.env)).all (λx=>x.1.isSome)
   && decide ((e::es).length+([]:List Keyword).length+(if ([]:List Keyword).isEmpty then 0 else 1)<30))=true:=by rfl)(hline:(apos.endLine == cpos.line)=true:=by rfl)(hs:starEach (e::es) X.env=(false,eval e X.env)::starEach es X.env:=by rfl)(hplain:(backTo cpos (starEach es X.env)).any (·.1)=false:=by rfl):
  PE X (.Call (.Attribute o name apos) (e::es) [] cpos) (tBM X.K T r to t):=by
 intro pins s σ H Q I h;refine wpAny_Call_method_late hbase hfew hline rfl (thn (ho pins s σ H _ I h) λv s1 z0_=>?_);obtain⟨x,H1,I1,r1,ty,q1⟩:=z0_;obtain⟨h1,h2⟩:=e1h I1 r1 ty;refine⟨T,id,pa,slot,hty,h1,h2,?_⟩;have hA:=ha cpos pins s1 σ H1 _ I1 q1;rw[hs] at hA ⊢;refine Calls.callWith_builtin (by show(false || (backTo cpos (starEach es X.env)).any (·.1))=false;rw[hplain] <;> rfl) (Calls.evalArgs_plain ?_)
 exact thn hA λus s2 z0_=>by obtain⟨vs,H2,I2,r2,q2⟩:=z0_;exact hm pins s2 σ H2 x vs v us Q I2 r1 r2 q2
end
end L2
namespace L2
open PySem PySem.Spec PyProof.Rows
def MtM(X:Cx)(id:String)(r:V->List V->Hp->VK->Prop):Prop :=
 ∀(pins:List (Addr×Obj))(s:Shared)(σ:St)(H:Hp)(x:V)(xs:List V)(v:Value)(us:List Value)(Q:VK),Inv X pins σ H s->RelV x v->Vals xs us->r x xs H Q ->
  wpAny (model X.prog X.w) X.A (call (.builtin id) (v::us)) (EP X pins σ Q) X.xe s
theorem Vals.one{x:V}{us:List Value}(h:Vals [x] us):∃u,us=[u]/\RelV x u:=by
 cases h with|cons r t=>cases t;exact⟨_,rfl,r⟩
theorem Vals.two{x y:V}{us:List Value}(h:Vals [x,y] us):∃u v,us=[u,v]/\RelV x u/\RelV y v:=by
 cases h with|cons r t=>cases t with|cons q t=>cases t;exact⟨_,_,rfl,r,q⟩
theorem Vals.rep{xs:List V}{us:List Value}(h:Vals xs us):∀k:Nat,Vals (List.replicate k xs).flatten (List.replicate k us).flatten
 | 0=>.nil
 | k+1=>by
  rw[List.replicate_succ,List.replicate_succ,List.flatten_cons,List.flatten_cons];exact Vals.append h (Vals.rep h k)
theorem c6h(its:List Value):∀(k:Nat)(acc:List Value),
  List.foldl (λx1 x2=>x1++x2) acc.toArray (List.replicate k its.toArray)=(acc++(List.replicate k its).flatten).toArray
 | 0,acc=>by simp
 | k+1,acc=>by
  have e:acc.toArray++its.toArray=(acc++its).toArray:=by simp
  have e2:(acc++its)++(List.replicate k its).flatten=acc++(List.replicate (k+1) its).flatten:=by
   rw[List.replicate_succ,List.flatten_cons,List.append_assoc]
  rw[<- e2,<- c6h its k (acc++its),<- e,List.replicate_succ,List.foldl_cons]
section
variable{X:Cx}{pins:List (Addr×Obj)}{σ:St}{H:Hp}{s:Shared}{l b:Addr}{xs ys zs:List V}
theorem Inv.lset{its its':List Value}{n:Nat}{f:Array Value->Array Value}{t':Nat}(I:Inv X pins σ H s)(hH:H l=some (.lst xs))(e:s.heap.get? l=some { cls:=.type "list",data:=.seq its.toArray n })(hf:f its.toArray=its'.toArray)(hv:Vals ys its')(hz:ys.length<=sizeLine):
  Inv X pins σ (upd H l (.lst ys)) { s with heap:=s.heap.update l (Obj.mapSeq f),toks:=t' }:=by
 have q:=PySem.IsL.update e f;rw[hf] at q;refine I.write (x:=l) (e:=l) (by rw[hH];exact trivial) (.inl rfl) (λb' u hb hu=>(Heap.get?_update_other s.heap (Obj.mapSeq f) (Ne.symm hb)).trans hu) ⟨_,q⟩ ?_
 exact⟨hz,its',_,hv,q⟩
theorem Inv.lnew{its:List Value}{t':Nat}(I:Inv X pins σ H s)(hv:Vals ys its)(hz:ys.length<=sizeLine):
  Inv X pins σ (upd H s.heap.objs.size (.lst ys)) { s with heap:=s.heap.push { cls:=.type "list",data:=.seq its.toArray },toks:=t' } :=
 I.laid (λ_ _ q=>Heap.get?_push_of_some _ q) (Nat.le_refl _) ⟨hz,its,0,hv,Heap.get?_push_size _ rfl⟩
theorem Inv.fresh(I:Inv X pins σ H s):H s.heap.objs.size=none:=I.hok.fresh (Nat.le_refl _)
theorem Inv.lstM(I:Inv X pins σ H s)(hH:H l=some (.lst xs)):xs.length<=sizeLine/\∃(its:List Value)(n:Nat),Vals xs its/\xs.length=its.length/\s.heap.get? l=some { cls:=.type "list",data:=.seq its.toArray n }:=by
 obtain⟨z,its,n,r,e⟩:=I.hok l _ hH;exact⟨z,its,n,r,r.length,e⟩
theorem d6s{n:Nat}(h:n<=sizeLine):Builtin.List.listTooLong n=false:=by
 unfold Builtin.List.listTooLong;exact decide_eq_false ↑5
end
section
variable{X:Cx}
def c1v:V->List V->Hp->VK->Prop:=λx vs H Q=>∃l xs y,x=.ref l/\vs=[y]/\H l=some (.lst xs)/\xs.length<sizeLine/\Q .non (upd H l (.lst (xs++[y])))
theorem b8o:MtM X "list.append" c1v:=by
 intro pins s σ H x vs v us Q I rx rv h;obtain⟨l,xs,y,rfl,rfl,hH,hz,q⟩:=h;cases rx;obtain⟨u,rfl,ru⟩:=rv.one;obtain⟨z,its,n,r,hl,e⟩:=I.lstM hH;refine call_meets F.slot_list_append ⟨_,e,rfl⟩ F.entry_list_append (F.args_list_append_2 _ _) (PySem.list_append l its.toArray n u (by rw[List.size_toArray];lia)) ⟨e,?_⟩
 refine⟨.non,_,I.lset (its':=its++[u]) hH e (by simp) (r.append (.cons ru .nil)) ?_,rfl,q⟩
 rw[List.length_append,List.length_singleton];lia
def e7b:R2:=λx y H Q=>∃l b xs zs,x=.ref l/\y=.ref b/\H l=some (.lst xs)/\H b=some (.lst zs)/\xs.length+zs.length<=sizeLine/\∀p,H p=none->Q (.ref p) (upd H p (.lst (xs++zs)))
theorem c9k:OpR X (binaryOp .Add) e7b:=by
 intro pins s σ H x y v u Q I rx ry h;obtain⟨l,b,xs,zs,rfl,rfl,hH,hB,hz,q⟩:=h;cases rx;cases ry;obtain⟨z,its,n,r,hl,e⟩:=I.lstM hH;obtain⟨z2,its2,n2,r2,hl2,e2⟩:=I.lstM hB;refine PySem.P.add_list e e2 ?_ (by rw[List.size_toArray,List.size_toArray];lia)
 have ea:its.toArray++its2.toArray=(its++its2).toArray:=by simp
 rw[ea];exact⟨.ref _,_,I.lnew (t':=s.toks) (r.append r2) (by rw[List.length_append];lia),rfl,q _ I.fresh⟩
def e7p:R2:=λx y H Q=>∃l k xs,x=.ref l/\y=.int k/\H l=some (.lst xs)/\-(2 ^ 63)<=k/\k<2 ^ 63/\xs.length*k.toNat<=sizeLine /\
 ∀p,H p=none->Q (.ref p) (upd H p (.lst (List.replicate k.toNat xs).flatten))
theorem c8d{α:Type}(xs:List α)(k:Nat):(List.replicate k xs).flatten.length=k*xs.length:=by
 induction k with
 | zero=>simp
 | succ k ih=>rw[List.replicate_succ,List.flatten_cons,List.length_append,ih,Nat.succ_mul,Nat.add_comm]
theorem d3g:OpR X (binaryOp .Mult) e7p:=by
 intro pins s σ H x y v u Q I rx ry h;obtain⟨l,k,xs,rfl,rfl,hH,h1,h2,hz,q⟩:=h;cases rx;obtain⟨t,rfl⟩:=ry;obtain⟨z,its,n,r,hl,e⟩:=I.lstM hH;have hlen:its.toArray.size*k.toNat<=sizeLine:=by rw[List.size_toArray,<- hl];exact hz
 have hcap:¬ its.toArray.size*k.toNat > (2 ^ 63-1) / 8:=by
  have:(sizeLine:Nat)<=(2 ^ 63-1) / 8:=by decide
  lia
 have hfit:¬ (!Builtin.List.listFitsIndex k)=true:=by
  rw[fitsIndex_both h1 h2];exact Bool.false_ne_true
 have hlong:¬ Builtin.List.listTooLong (its.toArray.size*k.toNat)=true:=by
  rw[d6s hlen];exact Bool.false_ne_true
 have hnew:List.foldl (λx1 x2=>x1++x2) #[] (List.replicate (if its.toArray.isEmpty=true then 0 else k.toNat) its.toArray)=(List.replicate k.toNat its).flatten.toArray:=by
  have f0:∀m:Nat,List.foldl (λx1 x2=>x1++x2) #[] (List.replicate m its.toArray)=(List.replicate m its).flatten.toArray:=λm=>by
   have:=c6h its m [];rw[List.nil_append] at this;exact this
  rw[f0];cases its with
  | nil=>simp
  | cons a r'=>rw[if_neg (by simp)]
 refine wpAny_binaryOp_repeat_ref (T:="list") (U:="int") ↑3 ⟨_,e,rfl⟩ (λs'=>typeIs_int s' k t) noFill_list_mul F.fills_int_mul F.slot_int_rmul repeat_list F.slot_int_index.lookup
  (call_meets F.slot_int_rmul (typeIs_int s k t) F.entry_int_rmul (F.args_int_rmul_2 _ _) (int___rmul___int_list k t l its.toArray n)
   ⟨e,rfl,⟨_,e,rfl⟩,call_meets F.slot_list_mul ⟨_,e,rfl⟩ F.entry_list_mul (F.args_list_mul_2 _ _) (AutoListH.list___mul___list_int_3 l its.toArray n k t hfit hcap hlong) ⟨e,?_⟩⟩)
 rw[hnew];exact⟨.ref _,_,I.lnew (t':=s.toks) (r.rep k.toNat) (by rw[c8d,Nat.mul_comm];exact hz),rfl,q _ I.fresh⟩
end
section
variable{prog:Program}{w:World}{A:Around}{E:Value->Shared->Prop}{s:Shared}
set_option maxRecDepth 100000 in
end
section
variable{X:Cx}
end
end L2
namespace Att
open PySem PySem.W PySem.Calls PyProof.Rows
theorem b8w{P:Params}{h:Heap}:∀(ns:List Int)(vs:List Value),WellAll P h vs (ns.map WData.int)->IntsAre vs ns:=by
 intro ns
 induction ns with
 | nil=>
  intro vs w;rw[List.map_nil] at w;cases w;exact .nil
 | cons n ns ih=>
  intro vs w;rw[List.map_cons] at w;cases w with
  | cons a b=>
   cases a;exact .cons _ _ (ih _ b)
theorem d2l{l:OpenLaw}{n:Nat}(hn:l.most=some n){P:Params}{h:Heap}{args:List WData}{vals:List Value}(hpre:l.row.toRowW.claim.pre args=true)(hwl:WellAll P h vals args):
  ∃a vs ns,vals=[Value.ref a]/\args=[WData.list (ns.map WData.int)]/\h.get? a=some { cls:=.type "list",data:=.seq vs.toArray }/\IntsAre vs ns/\ns.length<=n:=by
 have hsh:WShape.hasAll [] args [.list .int]=true:=(pre_splitW hpre).1;have hc:l.pre.holds [] { args:=args }=true:=(pre_splitW hpre).2;obtain⟨d,r,rfl,h1,h2⟩:=hasAllW_cons hsh;obtain rfl:=hasAllW_nil h2;obtain⟨xs,rfl,h3⟩:=hasW_list h1;obtain⟨ns,rfl⟩:=items_int h3;have hlen:ns.length<=n:=by
  unfold OpenLaw.pre at hc;have h4:(WTm.not (.lt (.lit (.int (n:Int))) (.len (.arg 0)))).holds [] { args:=[.list (ns.map .int)] }=true:=by
   have h4:=(holds_andW hc).1;rw[hn] at h4;exact h4
  have h5:=condW_of h4 (w_not (w_lt w_lit (w_len_list (w_arg rfl))));rw[List.length_map] at h5;refine Nat.le_of_not_lt λq=>?_;have q':(n:Int)<((ns.length:Nat):Int):=by lia
  first
   | (rw[decide_eq_true q'] at h5;exact absurd h5 ↑3)
   | (simp at h5;lia)
 cases hwl with
 | cons w1 w2=>
  cases w2;cases w1 with
  | list ho hall=>exact⟨_,_,ns,rfl,rfl,ho,b8w ns _ hall,hlen⟩
theorem d2x(l:OpenLaw)(args:List WData):l.row.toRowW.claim.post args (.bool true) args=true :=
 postW_of (r:=l.row.toRowW) (X:=(true == true))
  (show WShape.has [] (.bool true) .bool=true by first|rfl|decide|simp[WShape.has,WShape.arms,WShape.armsAll])
  (show(WTm.eq .res (.lit (.bool true))).value [] { args:=args,res:=some (.bool true),after:=args }=some (.bool (true == true)) from w_eq_bool (w_res rfl) w_lit) rfl
theorem attach_call{l:OpenLaw}{n:Nat}{q:Program}{loose:List Str}{XP:(Str->Option Value)->Heap->Prop}{YP:World->Heap->Prop}{d:DefRec}(hn:l.most=some n)(hdf:d.params.defaults=[])(call:∀(w:World) (s₀ s₁:Shared) (mg mb:Str->Option Value) (fa:Addr) (o:Obj) (pm cd doc:Value) (a:Addr) (vs:List Value) (ns:List Int),
   Ground q loose [] XP w s₀ mg mb s₁.heap->YP w s₁.heap ->
   s₁.heap.get? fa=some o->o.data=.func (docDef d.name d.params d.body d.scope pm cd doc)->s₁.heap.CodeRec cd d.name->mg d.name=some (.ref fa) ->
   s₁.heap.get? a=some { cls:=.type "list",data:=.seq vs.toArray }->IntsAre vs ns->ns.length<=n->s₁.gens=#[] ->
   codeAny (model l.prog w) callerA (.call (.ref fa) ⟨[.ref a],[]⟩) (λr s'=>r=.ok (.ret (.bool true))/\OldK s₁.heap s'.heap/\s'.os=s₁.os/\AllBare s'.gens) s₁):
  WalkO q loose XP YP l.row.toRowW d [] (λf vs=>PySem.call f vs):=by
 intro w s₀ s₁ mg mb G Y fa o pm cd doc dV kV ho hd hcd hD hmg hg args vals as hpre hlay hrd hwl hlo;obtain rfl:dV=.none:=Dflts.none hD hdf;obtain rfl:kV=.none:=Dflts.noKw hD;obtain⟨a,vs,ns,rfl,rfl,hobj,hints,hlen⟩:=d2l hn hpre hwl;refine enter_call (codeAny_mono (call w s₀ s₁ mg mb fa o pm cd doc a vs ns G Y ho (fd_plain hd) hcd hmg hobj hints hlen hg) λr s' hq=>?_);obtain⟨rfl,h2,h3,h4⟩:=hq;exact⟨.inl ⟨.bool true,.bool true,[],rfl,λ_=>rfl,.bool true,d2x l _,λ_=>⟨List.Pairwise.nil,λ_ hm=>(nomatch hm)⟩⟩,h2,h3,h4⟩
section
variable{prog:Program}{w:World}{A:Around}{E:Value->Shared->Prop}{s:Shared}{K:Frag}
end
end Att
namespace L2
open PySem PySem.Spec PyProof.Rows
theorem c3p:∀{vs:List Value}{ns:List Int},IntsAre vs ns->Vals (ns.map V.int) vs
 | _,_,.nil=>.nil
 | _,_,.cons n t h=>.cons ⟨t,rfl⟩ (c3p h)
def e6i(H:Hp):Prop:=∀b,H b=none \/ ∃o xs,H b=some (.frz o (.lst xs))
theorem d6x{P:Program}{w:World}{K:Frag}{mg mb:Str->Option Value}{CX:CXT}{k:Nat}{fa a:Addr}{fd:FuncData}{x:Str}{sp:Sp}{s₁:Shared}{vs:List Value}{ns:List Int}(KX:K.In s₁.heap)(hns:s₁.heap.Ns mainGlobals mg)(hb:s₁.heap.Ns builtinsNs mb)(hbb:∀x:Str,x≠"__name__"->mb x=bootBuiltins x)(hlim:s₁.heap.NoLimit)(hg:s₁.gens=#[])(ha:s₁.heap.get? a=some { cls:=.type "list",data:=.seq vs.toArray })(hi:IntsAre vs ns)(hl:ns.length<=sizeLine)(hr:Room k callerA)(F:∀base:Heap,K.In base->base.Ns mainGlobals mg->FnOk P w K mg base CX k fa fd [x] sp)(hbind:∀(s:Shared) (u:Value),BindsTo s fd ⟨[u],[]⟩ [(x,u)])(hsp:∀H:Hp,e6i H->SqL K H a (ns.map V.int)->sp [.ref a] H (λv _=>v=.bl true) λ_ _ _=>False)(hCX:∀H e s',CX [] H s₁ (λ_ _ _=>False) e s'->False):
  codeAny (model P w) callerA (.call (.ref fa) ⟨[.ref a],[]⟩) (λr s'=>r=.ok (.ret (.bool true))/\OldK s₁.heap s'.heap/\s'.os=s₁.os/\AllBare s'.gens) s₁:=by
 have rv:=c3p hi;have lenV:=hi.length;have core:∀H:Hp,e6i H->SqL K H a (ns.map V.int)->HOk P w H s₁.heap->(∀b,H b≠none->b=a)->(H a≠none->K.lookup a=none) ->
   codeAny (model P w) callerA (.call (.ref fa) ⟨[.ref a],[]⟩) (λr s'=>r=.ok (.ret (.bool true))/\OldK s₁.heap s'.heap/\s'.os=s₁.os/\AllBare s'.gens) s₁:=by
  intro H hO hS hok hA hK;have base_of:∀{b:Addr}{o:Obj},s₁.heap.get? b=some o->H b=none->(d7b s₁.heap H).get? b=some o:=λe n=>d7a e n;have noA:∀{b:Addr}{o:Obj}{es:Array DictEntry}{ep:Nat},s₁.heap.get? b=some o->o.data=.dict es ep->H b=none:=λ{b o es ep} e d=>by
   cases q:H b with
   | none=>rfl
   | some u=>
    have e':b=a:=hA b (by rw[q];simp)
    subst e';rw[ha] at e;cases e;have d':Data.seq vs.toArray _=Data.dict es ep:=d;cases d'
  have nsK:∀{b:Addr}{m:Str->Option Value},s₁.heap.Ns b m->(d7b s₁.heap H).Ns b m:=λ{b m} ⟨o,es,ep,e,d,r⟩=>⟨o,es,ep,base_of e (noA e d),d,r⟩;have hKb:K.In (d7b s₁.heap H):=λb o e=>base_of (KX b o e) (by
   cases q:H b with
   | none=>rfl
   | some u=>
    have e':b=a:=hA b (by rw[q];simp)
    subst e';rw[hK (by rw[q];simp)] at e;cases e)
  have hM:Mod K mg (d7b s₁.heap H):=⟨hKb,nsK hns,⟨mb,nsK hb,hbb⟩,let ⟨mc,h1,h2⟩:=hlim;⟨mc,nsK h1,h2⟩⟩
  have e0:Env0 P w K mg (d7b s₁.heap H) callerA [] s₁ H:=⟨rfl,hM,λb o e=>d9w e,Nat.le_of_eq (d4a _ _),trivial,λb hb=>absurd (show b∈([]:List Addr) from hb) (by simp),hok,.of_eq hg⟩
  refine codeAny_mono ((F _ hKb (nsK hns)).run callerA [] s₁ H ⟨[.ref a],[]⟩ [.ref a] [.ref a] _ _ hr e0 (hbind s₁ (.ref a)) (.cons rfl .nil) (hsp H hO hS)) λr s' h=>?_;cases r with
  | error e=>exact(hCX H e s' h).elim
  | ok fl=>
   cases fl with
   | next=>exact False.elim h
   | brk=>exact False.elim h
   | cont=>exact False.elim h
   | ret u=>
    obtain⟨v,H',os,bare,un,hok',r',q⟩:=h;have q':v=.bl true:=q;subst q';obtain rfl:u=Value.bool true:=r';refine⟨rfl,OldK.of_keep λb o e=>?_,os,bare⟩;cases q:H b with
    | none=>exact un.keep b o e q (by intro z;exact absurd (show b∈([]:List Addr) from z) (by simp)) (by simp)
    | some u=>
     rcases hO b with z|⟨ob,xs,z⟩
     ·rw[q] at z;cases z
     ·have z2:=un.frzs b ob _ z
      obtain⟨e1,_⟩:=hok b _ z;obtain⟨e2,_⟩:=hok' b _ z2;rw[e] at e1;cases e1;exact e2
 cases hk:K.lookup a with
 | some o=>
  have e:=KX a o hk;rw[ha] at e;cases e;refine core (λ_=>none) (λ_=>.inl rfl) (.inr ⟨_,vs.toArray,_,hk,rfl,rfl,rfl,by rw[List.size_toArray,lenV];exact hl,by simpa using rv⟩) (λb u z=>by have z':(none:Option HO)=some u:=z;cases z') (λb z=>absurd rfl z) λz=>absurd rfl z
 | none=>
  refine core (λb=>if b=a then some (.frz { cls:=.type "list",data:=.seq vs.toArray } (.lst (ns.map V.int))) else none) (λb=>?_) (.inl (.inr ⟨{ cls:=.type "list",data:=.seq vs.toArray },if_pos rfl⟩)) (λb u z=>?_) (λb z=>?_) λ_=>hk
  ·by_cases hb:b=a
   ·exact .inr ⟨_,_,if_pos hb⟩
   ·exact .inl (if_neg hb)
  ·by_cases hb:b=a
   ·have z':=(if_pos hb).symm.trans z
    cases z';subst hb;exact⟨ha,by rw[List.length_map];exact hl,vs,_,rv,ha⟩
   ·have z':=(if_neg hb).symm.trans z
    cases z'
  ·by_cases hb:b=a
   ·exact hb
   ·exact absurd (if_neg hb) z
end L2
namespace L2
open PySem PySem.Spec PyProof.Rows
theorem walk_of{l:PySem.W.OpenLaw}{n k:Nat}{q:Program}{loose:List Str}{XP:(Str->Option Value)->Heap->Prop}{YP:World->Heap->Prop}{d:DefRec}{K:Params->Frag}{CX:World->CXT}{sp:World->Sp}{x:Str}(hn:l.most=some n)(hn2:n<=sizeLine)(hdf:d.params.defaults=[])(hr:Room k callerA)(hY:∀(w:World) (h:Heap),YP w h->(K w.params).In h)(F:∀(w:World) (mg:Str->Option Value) (fa:Addr) (h:Heap),(K w.params).In h->h.Ns mainGlobals mg->mg d.name=some (.ref fa) ->
   ∃fd:FuncData,(∀(s:Shared) (u:Value),BindsTo s fd ⟨[u],[]⟩ [(x,u)]) /\
    ∀base:Heap,(K w.params).In base->base.Ns mainGlobals mg->FnOk l.prog w (K w.params) mg base (CX w) k fa fd [x] (sp w))(hsp:∀(w:World) (H:Hp) (a:Addr) (ns:List Int),ns.length<=n->e6i H->SqL (K w.params) H a (ns.map V.int)->sp w [.ref a] H (λv _=>v=.bl true) λ_ _ _=>False)(hCX:∀(w:World) (H:Hp) (s:Shared) (e:Value) (s':Shared),CX w [] H s (λ_ _ _=>False) e s'->False):
  PySem.W.WalkO q loose XP YP l.row.toRowW d [] (λf vs=>PySem.call f vs):=by
 refine Att.attach_call hn hdf λw s₀ s₁ mg mb fa o pm cd doc a vs ns G Y ho hd hcd hmg hobj hints hlen hg=>?_;have KX:=hY w _ Y;obtain⟨fd,hb,hF⟩:=F w mg fa _ KX G.T.g hmg;exact d6x KX G.T.g G.T.b G.T.builtins G.T.nolimit hg hobj hints (Nat.le_trans hlen hn2) hr hF hb (λH hO hS=>hsp w H a ns hlen hO hS) λH e s'=>hCX w H s₁ e s'
end L2
namespace L2
open PySem PySem.Spec PyProof.Rows
def a1h(s:Stmt):Arguments:=match s with
 | .FunctionDef _ a _ _ _ _ _ _ _ _=>a
 | _=>{ posonlyargs:=[],args:=[],vararg:=none,kwonlyargs:=[],kw_defaults:=[],kwarg:=none,defaults:=[] }
def a0f(s:Stmt):List Stmt:=match s with
 | .FunctionDef _ _ b _ _ _ _ _ _ _=>b
 | _=>[]
def d7(s:Stmt):Scope:=match s with
 | .FunctionDef _ _ _ _ _ _ sc _ _ _=>sc
 | _=>{ kind:=.function,names:=[],isGenerator:=false,isCoroutine:=false }
abbrev E0:XK:=λ_ _ _=>False
structure Fun(K:Frag)(x qual:Str)(st:Stmt)(f:Addr)(fd:FuncData):Prop where
 ex:∃(oc:Value)(od:Option Addr)(kV doc pm:Value)(an:Option Addr)(cdv ct:Value)(osl:Array (Option Value)),
  fd=PySem.W.fnOf x qual (a1h st) (a0f st) (d7 st) .none kV doc pm an cdv ct/\K.lookup f=some ⟨oc,od,.func fd,osl⟩/\codeIn K cdv qual=true
 kp:keepIn K (.ref f)=true
section
variable{P:Program}{w:World}{K:Frag}{mg:Str->Option Value}{base:Heap}
theorem Fun.binds{x qual:Str}{st:Stmt}{f:Addr}{fd:FuncData}{ps:List Str}(F:Fun K x qual st f fd)(h:∀(kV doc pm:Value) (an:Option Addr) (cdv ct:Value) (us:List Value),us.length=ps.length->bindArgs (PySem.W.fnOf x qual (a1h st) (a0f st) (d7 st) .none kV doc pm an cdv ct) ⟨us,[]⟩=pure (ps.zip us)):Binds K fd ps []:=by
 obtain⟨oc,od,kV,doc,pm,an,cdv,ct,osl,rfl,lk,hcd⟩:=F.ex;exact .all (h kV doc pm an cdv ct)
theorem c9r{x qual:Str}{st:Stmt}{f:Addr}{oc:Value}{od an:Option Addr}{osl:Array (Option Value)}{kV doc pm cdv ct:Value}(l:K.lookup f=some ⟨oc,od,.func (PySem.W.fnOf x qual (a1h st) (a0f st) (d7 st) .none kV doc pm an cdv ct),osl⟩)(c:codeIn K cdv qual=true)(k:keepIn K (.ref f)=true):Fun K x qual st f (PySem.W.fnOf x qual (a1h st) (a0f st) (d7 st) .none kV doc pm an cdv ct):=⟨⟨oc,od,kV,doc,pm,an,cdv,ct,osl,rfl,l,c⟩,k⟩
end
section
variable{X:Cx}
theorem pv(i:Nat){x:Str}{pos:Pos}(hN:X.N[i]?=some x:=by rfl)(hv:Vis X.env.scope x:=by first|exact Or.inl rfl|exact Or.inr (Or.inl rfl)|exact Or.inr (Or.inr rfl))(hd:(x == ("__debug__":Str))=false:=by decide)(hcd:(x == ("__classdict__":Str))=false:=by decide):PE X (.Name x pos) (e1k i):=d8b hN hv hd hcd
end
theorem e2w{A B:Prop}(h:B):if false=true then A else B:=by
 rw[if_neg Bool.false_ne_true];exact h
theorem e4p{A B:Prop}(h:A):if true=true then A else B:=by
 rw[if_pos rfl];exact h
theorem b2t{c A B:Prop}[Decidable c](h1:c->A)(h2:¬ c->B):if c then A else B:=by
 by_cases h:c
 ·rw[if_pos h]
  exact h1 h
 ·rw[if_neg h]
  exact h2 h
def Same(H H':Hp):Prop:=∀b o,H b=some o->H' b=some o
theorem Same.refl(H:Hp):Same H H:=λ_ _ h=>h
theorem Same.trans{H H1 H2:Hp}(a:Same H H1)(b:Same H1 H2):Same H H2:=λc o h=>b c o (a c o h)
theorem Same.free{H H':Hp}(e:Same H H'){l:Addr}(h:H' l=Option.none):H l=Option.none:=by
 cases q:H l with
 | none=>rfl
 | some o=>
  rw[e l o q] at h;cases h
theorem Same.seq{K:Frag}{H H':Hp}{a:Addr}{xs:List V}(e:Same H H')(h:SqL K H a xs):SqL K H' a xs:=by
 rcases h with (h|⟨o,h⟩)|h
 ·exact .inl (.inl (e _ _ h))
 ·exact .inl (.inr ⟨o,e _ _ h⟩)
 ·exact .inr h
end L2
namespace L2
open PySem PySem.Spec PyProof.Rows
theorem a7p{P:Program}{w:World}{H:Hp}{h h':Heap}(x:HOk P w H h)(k:∀b o u,H b=some o->h.get? b=some u->h'.get? b=some u):HOk P w H h' :=
 λb u e=>(x b u e).stay (λc v hc q=>by
  rcases hc with z|z
  ·subst z;exact k _ _ _ e q
  ·exact k _ _ _ z q) (λ_ q=>q) λ_ _ q=>q
structure c6s(B:Heap)(l:List Env)(H H':Hp)(h:Heap):Prop where
 tr:∀b o,H' b=some o->∃ob,B.get? b=some ob
 un:∀b o,h.get? b=some o->H b=none->b ∉ frs l->B.get? b=some o
 th:∀b o,h.get? b=some o->b ∉ frs l->∃ob,B.get? b=some ob
structure Fly(P:Program)(w:World)(l:List Env)(H H':Hp)(s s':Shared)(a:Addr)(C:Value):Prop where
 os:s'.os=s.os
 bare:AllBare s'.gens
 un:Un (frs l) [] H H' s.heap s'.heap
 hok:HOk P w H' s'.heap
 fl:∃(B:Heap)(a0:Value),Heap.FlyingW B l a C a0 s'.heap/\c6s B l H H' s.heap
def CXK(P:Program)(w:World):CXT:=λouter H s E e s'=>∃(a:Addr)(C:Value)(H':Hp),e=.ref a/\Fly P w outer H H' s s' a C/\E C none H'
theorem d8q{l:List Env}{H H':Hp}{h h' h'' B:Heap}{a:Addr}{C a0:Value}(u:Un (frs l) [] H H' h h')(fl:Heap.FlyingW B l a C a0 h')(k:c6s B l H H' h)(st:B.StaysIn h'')(up:h'.UpToSlots h''):Un (frs l) [] H H' h h'' where
 keep:=λb o q n hb _=>st b o (k.un b o q n hb)
 slot:=λb o q n hb hx=>by
  obtain⟨sl,e1⟩:=u.slot b o q n hb hx;obtain⟨_,o',ho',hd⟩:=fl.2.2.1.mem hb;rw[e1] at ho';cases ho';obtain⟨sl',e2⟩:=up b _ e1 hd;exact⟨sl',e2⟩
 free:=u.free
 there:=λb o q hx=>by
  by_cases hb:b∈frs l
  ·obtain⟨_,o',ho',hd⟩:=fl.2.2.1.mem hb
   obtain⟨sl',e2⟩:=up b _ ho' hd;exact⟨_,e2⟩
  ·obtain⟨ob,e⟩:=k.th b o q hb
   exact⟨ob,st b ob e⟩
 tups:=u.tups
 frzs:=u.frzs
 tbls:=u.tbls
theorem d3z{P:Program}{w:World}{l:List Env}{H H':Hp}{h h' h'' B:Heap}{a:Addr}{C a0:Value}(x:HOk P w H' h')(fl:Heap.FlyingW B l a C a0 h')(k:c6s B l H H' h)(st:B.StaysIn h''):HOk P w H' h'' :=
 a7p x λb o u e q=>by
  obtain⟨ob,e1⟩:=k.tr b o e;have e2:=fl.1 b ob e1;rw[q] at e2;cases e2;exact st b _ e1
section
variable{X:Cx}{pins:List (Addr×Obj)}{σ:St}{H H':Hp}{s:Shared}{h' h'' B:Heap}{a:Addr}{C a0:Value}
theorem Inv.left(I:Inv X pins σ H s)(hex:X.ex=[])(hst:X.stack=X.env::X.outer)(u:Un (frs X.stack) [] H H' s.heap h')(fl:Heap.FlyingW B X.stack a C a0 h')(k:c6s B X.stack H H' s.heap)(st:B.StaysIn h'')(up:h'.UpToSlots h''):Un X.fs [] X.H₀ H' X.s₀.heap h''/\c6s B X.outer X.H₀ H' X.s₀.heap:=by
 have u2:=d8q u fl k st up;have nx:∀b:Addr,b ∉ X.ex:=λb z=>by rw[hex] at z;cases z
 have sub:∀b o,X.s₀.heap.get? b=some o->b ∉ X.fs->b ∉ frs X.stack:=λb o e hb z=>by
  rcases List.mem_cons.mp (I.stkSub b z) with y|y
  ·exact absurd (Nat.lt_of_lt_of_le (Heap.lt_size e) I.ok.above) (by rw[y];exact Nat.lt_irrefl _)
  ·exact hb y
 have infs:∀b,b∈X.fs->b∈frs X.stack:=λb hb=>by
  rw[hst];obtain⟨env,he,hf⟩:=List.mem_filterMap.mp hb;exact List.mem_filterMap.mpr ⟨env,List.mem_cons_of_mem _ he,hf⟩
 refine⟨⟨λb o q n hb _=>?_,λb o q n hb _=>?_,λb o q n _=>?_,λb o q _=>?_,λb xs q=>u2.tups b xs (I.base.tups b xs q),λb o xs q=>u2.frzs b o xs (I.base.frzs b o xs q),λb ps q=>?_⟩,⟨k.tr,λb o q n hb=>?_,λb o q hb=>?_⟩⟩
 ·exact u2.keep b o (I.base.keep b o q n hb (nx b)) (I.base.free b o q n (nx b)) (sub b o q hb) (by simp)
 ·obtain⟨sl,e1⟩:=I.base.slot b o q n hb (nx b)
  obtain⟨sl',e2⟩:=u2.slot b _ e1 (I.base.free b o q n (nx b)) (infs b hb) (by simp)
  exact⟨sl',e2⟩
 ·obtain⟨o',e1⟩:=I.base.there b o q (nx b)
  exact u2.free b o' e1 (I.base.free b o q n (nx b)) (by simp)
 ·obtain⟨o',e1⟩:=I.base.there b o q (nx b)
  exact u2.there b o' e1 (by simp)
 ·obtain⟨m1,e1⟩:=I.base.tbls b ps q
  obtain⟨m2,e2⟩:=u2.tbls b _ e1;exact⟨m1++m2,by rw[e2,Array.append_assoc]⟩
 ·exact k.un b o (I.base.keep b o q n hb (nx b)) (I.base.free b o q n (nx b)) (sub b o q hb)
 ·obtain⟨o',e1⟩:=I.base.there b o q (nx b)
  exact k.th b o' e1 (sub b o q hb)
theorem Inv.keeps0(I:Inv X pins σ H s):c6s (PySem.W.hideAll s.heap (frs X.stack)) X.stack H H s.heap where
 tr:=λb o e=>by
  obtain⟨ob,q⟩:=Option.isSome_iff_exists.mp (show(s.heap.get? b).isSome=true by
   have:=I.hok.lt e;cases z:s.heap.get? b with
   | some _=>rfl
   | none=>exact absurd z (by
     obtain⟨u,hu⟩:∃u,s.heap.get? b=some u:=by
      have x:=I.hok b o e;cases o with
      | lst xs=>obtain⟨_,_,_,_,q⟩:=(show _/\_ from x);exact⟨_,q⟩
      | tup xs=>obtain⟨_,_,_,o,q,_⟩:=(show _/\_ from x);exact⟨_,q⟩
      | dK kvs=>obtain⟨_,_,_,_,o,_,_,q,_⟩:=(show _/\_ from x);exact⟨_,q⟩
      | dT kvs=>obtain⟨_,_,_,_,o,_,_,q,_⟩:=(show _/\_ from x);exact⟨_,q⟩
      | set S n=>obtain⟨o,_,_,_,q,_⟩:=(show Heap.SetOf _ _ _ _ _ from x);exact⟨_,q⟩
      | ins C dx fs=>obtain⟨_,_,_,q,_⟩:=(show _/\_ from x);exact⟨_,q⟩
      | own y=>obtain⟨o,q⟩:=(show ∃o,_ from x);exact⟨_,q⟩
      | xd fs=>obtain⟨mA,n,_⟩:=(show ∃mA,_ from x);obtain⟨o,_,_,q,_⟩:=n;exact⟨_,q⟩
      | rng lo hi=>obtain⟨_,_,_,q⟩:=(show ∃_ _ _,_ from x);exact⟨_,q⟩
      | frz o u=>obtain⟨q,_⟩:=(show _/\_ from x);exact⟨_,q⟩
      | tbl ps=>exact⟨_,x⟩
      | met f y=>exact⟨_,x⟩
      | ext φ=>obtain⟨_,⟨o,q⟩,_⟩:=(show _/\_ from x);exact⟨_,q⟩
     rw[hu];simp))
  refine⟨ob,PySem.W.hideAll_get _ q λz=>?_⟩;rw[I.stkFree b z] at e;cases e
 un:=λb o q _ hb=>PySem.W.hideAll_get _ q hb
 th:=λb o q hb=>⟨o,PySem.W.hideAll_get _ q hb⟩
end
section
variable{P:Program}{w:World}{K:Frag}{mg:Str->Option Value}{base:Heap}{N:List Str}{qual:Str}{scope:Scope}{f:Addr}{cd:Value}{A:Around}{outer:List Env}{s₀:Shared}{H₀:Hp}{E₀:XK}
theorem c4q{pins:List (Addr×Obj)}{σ:St}{H:Hp}{s:Shared}{h':Heap}{e:Addr}{C:Value}{vs:List Value}(I:Inv (b6u (CXK P w) P w K mg base N qual scope f cd A outer s₀ H₀ E₀) pins σ H s)(hx:Heap.MadeExcOf s.heap h' e C vs)(q:E₀ C none H):(b6u (CXK P w) P w K mg base N qual scope f cd A outer s₀ H₀ E₀).xe (.ref e) { s with heap:=h' }:=by
 have hin:∀env∈(b6u (CXK P w) P w K mg base N qual scope f cd A outer s₀ H₀ E₀).stack,∀b,env.frame=some b->b∈frs (b6u (CXK P w) P w K mg base N qual scope f cd A outer s₀ H₀ E₀).stack:=λenv he b hb=>List.mem_filterMap.mpr ⟨env,he,hb⟩;have FF:=PySem.W.funFrames_hide I.stack hin;have k0:=I.keeps0;refine wpAny_leaves_madeW (base:=PySem.W.hideAll s.heap (frs (b6u (CXK P w) P w K mg base N qual scope f cd A outer s₀ H₀ E₀).stack)) (h:=s.heap) I.ok.frames rfl (λb o z=>PySem.W.of_hideAll _ z) FF hx λh'' t x1 x2 x3 x4=>?_;have up:s.heap.UpToSlots h'':=(Heap.UpToSlots.of_keeps hx.keeps).trans x4;have FW:∀b∈frs (b6u (CXK P w) P w K mg base N qual scope f cd A outer s₀ H₀ E₀).stack,∃o,s.heap.get? b=some o/\∀vs,o.data≠.fields vs:=λb hb=>(I.stack.mem hb).2;have nx:∀b:Addr,b ∉ (b6u (CXK P w) P w K mg base N qual scope f cd A outer s₀ H₀ E₀).ex:=λb z=>by cases z
 have sub:∀b o,s₀.heap.get? b=some o->b ∉ frs outer->b ∉ frs (b6u (CXK P w) P w K mg base N qual scope f cd A outer s₀ H₀ E₀).stack:=λb o e' hb z=>by
  rcases List.mem_cons.mp (I.stkSub b z) with y|y
  ·exact absurd (Nat.lt_of_lt_of_le (Heap.lt_size e') I.ok.above) (by rw[y];exact Nat.lt_irrefl _)
  ·exact hb y
 have infs:∀b,b∈frs outer->b∈frs (b6u (CXK P w) P w K mg base N qual scope f cd A outer s₀ H₀ E₀).stack:=λb hb=>by
  obtain⟨env,he,hf⟩:=List.mem_filterMap.mp hb;exact List.mem_filterMap.mpr ⟨env,List.mem_cons_of_mem _ he,hf⟩
 refine⟨e,C,H,rfl,⟨I.os,I.bare,⟨λb o z n hb _=>?_,λb o z n hb _=>?_,λb o z n _=>I.base.free b o z n (nx b),λb o z _=>?_,I.base.tups,I.base.frzs,I.base.tbls⟩,?_,⟨_,_,x1,⟨k0.tr,λb o z n hb=>?_,λb o z hb=>?_⟩⟩⟩,q⟩
 ·exact x1.1 b o (k0.un b o (I.base.keep b o z n hb (nx b)) (I.base.free b o z n (nx b)) (sub b o z hb))
 ·obtain⟨sl,e1⟩:=I.base.slot b o z n hb (nx b)
  obtain⟨o',e2,hd⟩:=FW b (infs b hb);rw[e1] at e2;cases e2;obtain⟨sl',e3⟩:=up b _ e1 hd;exact⟨sl',e3⟩
 ·obtain⟨o',e1⟩:=I.base.there b o z (nx b)
  by_cases hb:b∈frs outer
  ·obtain⟨o'',e2,hd⟩:=FW b (infs b hb)
   obtain⟨sl',e3⟩:=up b _ e2 hd;exact⟨_,e3⟩
  ·obtain⟨ob,e2⟩:=k0.th b o' e1 (sub b o z hb)
   exact⟨ob,x1.1 b ob e2⟩
 ·refine a7p I.hok λb o u z y=>?_
  obtain⟨ob,e1⟩:=k0.tr b o z;have e2:=PySem.W.of_hideAll _ e1;rw[y] at e2;cases e2;exact x1.1 b _ e1
 ·exact k0.un b o (I.base.keep b o z n hb (nx b)) (I.base.free b o z n (nx b)) (sub b o z hb)
 ·obtain⟨o',e1⟩:=I.base.there b o z (nx b)
  exact k0.th b o' e1 (sub b o z hb)
theorem f9:a4a (CXK P w) (b6u (CXK P w) P w K mg base N qual scope f cd A outer s₀ H₀ E₀) E₀:=by
 intro pins σ H s e s' I h;obtain⟨a,C,H',rfl,F,q⟩:=h;obtain⟨B,a0,fl,k⟩:=F.fl;refine wpAny_leaves_onW (base:=B) I.ok.frames rfl fl λh'' x1 x2=>?_;obtain⟨u,k'⟩:=I.left rfl rfl F.un fl k x1.1 x2;exact⟨a,C,H',rfl,⟨F.os.trans I.os,F.bare,u,d3z F.hok fl k x1.1,⟨B,a0,x1,k'⟩⟩,q⟩
theorem a5n:PassesOwn (model (b6u (CXK P w) P w K mg base N qual scope f cd A outer s₀ H₀ E₀).prog (b6u (CXK P w) P w K mg base N qual scope f cd A outer s₀ H₀ E₀).w) (b6u (CXK P w) P w K mg base N qual scope f cd A outer s₀ H₀ E₀).A (b6u (CXK P w) P w K mg base N qual scope f cd A outer s₀ H₀ E₀).env (b6u (CXK P w) P w K mg base N qual scope f cd A outer s₀ H₀ E₀).xe:=PassesOwn.leaving
end
end L2
namespace L2
open PySem PySem.Spec PyProof.Rows
theorem Cx.Ok.re{X:Cx}{A':Around}{calm':Bool}{pn':List (Addr×Obj)}{xe':Value->Shared->Prop}(ok:X.Ok)(hA:A'.frames=X.A.frames)(hc:calm'=true->A'.handled=none):({ X with A:=A',calm:=calm',pn:=pn',xe:=xe' }:Cx).Ok :=
 ⟨ok.mod,ok.kind,ok.glob,ok.blt,ok.above,ok.inj,ok.has,ok.cab,hc,hA.trans ok.frames,ok.stk,ok.exf,ok.bs,ok.bsz,ok.noex,ok.exfs,ok.funs,ok.frf⟩
theorem Inv.re{X:Cx}{pins pins':List (Addr×Obj)}{σ:St}{H:Hp}{s:Shared}{A':Around}{calm':Bool}{pn':List (Addr×Obj)}{xe':Value->Shared->Prop}(I:Inv X pins σ H s)(hA:A'.frames=X.A.frames)(hc:calm'=true->A'.handled=none)(hp:∀p∈pn'++pins',p∈X.pn++pins):Inv ({ X with A:=A',calm:=calm',pn:=pn',xe:=xe' }:Cx) pins' σ H s :=
 ⟨I.ok.re hA hc,I.os,I.bare,I.base,I.loc,I.cell,I.free,I.freeC,λp h=>I.pin p (hp p h),I.hok,I.len⟩
abbrev Cx.tryX(X:Cx)(pn':List (Addr×Obj))(E:Value->Shared->Prop):Cx:={ X with pn:=pn',xe:=E }
abbrev Cx.inH(X:Cx)(pn':List (Addr×Obj))(a:Addr):Cx:={ X with A:=X.A.mark (some (.ref a)),calm:=false,pn:=pn',xe:=λ_ _=>False }
theorem e0u{K:Frag}{h:Heap}{C:Addr}{bmB:List Value}{newId:String}(X:K.In h)(q:excIn K C bmB newId=true):
  ∃bm N nm qn bs hdct sn sub ab col dd k0 k1 k2 k3 k5 mN,h.get? C=some (excClassObj nm qn C N bs bm hdct sn sub ab col dd k0 k1 k2 k3 k5 newId)/\h.Ns N mN/\mN "__init__" = none/\OwnTail h bmB bm:=by
 unfold excIn at q;split at q
 case h_2=>cases q
 case h_1 dd cd sl ho=>
  split at q
  case h_2=>cases q
  case h_1 C' bm k0 k1 k2 k3 n k5 hm hs=>
   simp only[Bool.and_eq_true,beq_iff_eq,Bool.not_eq_true'] at q;obtain⟨⟨⟨⟨⟨q1,q2⟩,q3⟩,q4⟩,q5⟩,q6⟩:=q;obtain⟨nm,bs,mro,ns,qn,hd,sn,sub,ab,col,del⟩:=cd;dsimp only at hm q3 q5 q6;subst q1 q2 hm q3;obtain⟨l⟩:=sl;dsimp only at hs;subst hs;exact⟨bm,ns,nm,qn,bs,hd,sn,sub,ab,col,dd,k0,k1,k2,k3,k5,_,X _ _ ho,.of_isNs (PySem.W.isNs_of_in X q5),PySem.W.nsMap_none_of_in X q5 q6,PySem.W.tail_of_in X q4⟩
abbrev d5s:List Value:=[.type "ValueError",.type "Exception",.type "BaseException",.type "object"]
def e7l(K:Frag)(C:Addr):Prop:=excIn K C d5s "ValueError.__new__" = true
def c8q(X:Cx)(C:Addr)(E:XK):Prop:=∀(pins:List (Addr×Obj))(σ:St)(H:Hp)(s:Shared)(h':Heap)(e:Addr)(vs:List Value),Inv X pins σ H s->Heap.MadeExcOf s.heap h' e (.ref C) vs->E (.ref C) none H->X.xe (.ref e) { s with heap:=h' }
def c8x(C:Addr)(E:XK)(t:TA):TS:=λ_ σ H=>t σ H λvs H1=>vs.length<=sizeLine/\E (.ref C) none H1
section
variable{X:Cx}
theorem d6m{x:Str}{C:Addr}{E:XK}{np cpos pos:Pos}{e₀:Expr}{rest:List Expr}{t:TA}(hc:X.calm=true)(hg:Gl X x)(hm:X.mg x=some (.ref C))(hC:e7l X.K C)(hx:c8q X C E)(ha:PA X (e₀::rest) t)(hd:(x == ("__debug__":Str))=false:=by decide)(he:starEach (e₀::rest) X.env=(false,eval e₀ X.env)::starEach rest X.env:=by rfl)(hpl:(backTo cpos (starEach rest X.env)).any (·.1)=false:=by rfl):
  PS X (.Raise (some (.Call (.Name x np) (e₀::rest) [] cpos)) none pos) (c8x C E t):=by
 intro pins s σ H D I h;obtain⟨bm,N,nm,qn,bs,hdct,sn,sub,ab,col,dd,k0,k1,k2,k3,k5,mN,gC,gN,gi,gT⟩:=e0u I.ok.mod.kin hC;refine wpAny_Raise_call_subT (C:=C) (nm:=nm) (q:=qn) (N:=N) (bs:=bs) (bm:=bm) (hdct:=hdct) (sn:=sn) (sub:=sub) (ab:=ab) (col:=col) (dd:=dd) (k0:=k0) (k1:=k1) (k2:=k2) (k3:=k3) (k5:=k5)
  PySem.F.excBase_ValueError (mN:=mN) (gT.hasType ↑3) (I.ok.hd hc) (by rw[he];show(false || (backTo cpos (starEach rest X.env)).any (·.1))=false;rw[hpl];rfl) gi (b8t I hg hm ⟨rfl,?_⟩ hd)
 have hp:=ha cpos pins s σ H _ I h;rw[he] at hp ⊢;refine Calls.evalArgs_plain (thn hp λus s1 z0_=>?_);obtain⟨vs,H1,I1,r,z,q⟩:=z0_;exact⟨rfl,by rw[<- r.length];exact z,I1.bk _ _ gC,gN.keeps I1.bk,gT.keeps I1.bk,λh' e hm'=>hx pins σ H1 s1 h' e us I1 hm' q⟩
end
def c3n(X:Cx)(J:St->XK):Prop:=∀(pins:List (Addr×Obj))(σ:St)(H:Hp)(s:Shared)(e:Value)(s':Shared),Inv X pins σ H s->CXK X.prog X.w X.stack H s (J σ) e s'->X.xe e s'
section
variable{X:Cx}{k:Nat}{f:Addr}{fd:FuncData}{ps:List Str}{sp:Sp}{J:St->XK}{x:Str}{p pos:Pos}{e:Expr}{es:List Expr}{t:TA}
end
def c9x(a:Addr)(C:Value):HO:=.ext λh=>∃o,h.get? a=some o/\o.cls=C
theorem e1g{fs:List Addr}{H H':Hp}{h h':Heap}{a:Addr}{o:HO}(u:Un fs [] H H' h h')(hn:h.get? a=none)(hf:H' a=none):Un fs [] H (upd H' a o) h h' where
 keep:=u.keep
 slot:=u.slot
 free:=λb ob q n hx=>by
  have:b≠a:=λz=>by rw[z,hn] at q;cases q
  rw[d6 this];exact u.free b ob q n hx
 there:=u.there
 tups:=λb xs q=>by
  have z:=u.tups b xs q;rw[d6 (g6 z hf)];exact z
 frzs:=λb ob xs q=>by
  have z:=u.frzs b ob xs q;rw[d6 (g6 z hf)];exact z
 tbls:=λb ps q=>by
  obtain⟨m,z⟩:=u.tbls b ps q;refine⟨m,?_⟩;rw[d6 (g6 z hf)];exact z
theorem e0e{P:Program}{w:World}{H:Hp}{h:Heap}{a:Addr}{C:Value}(x:HOk P w H h)(hf:H a=none)(he:∃o,h.get? a=some o/\o.cls=C):HOk P w (upd H a (c9x a C)) h:=λb u e=>by
 by_cases hb:b=a
 ·subst hb
  rw[b8] at e;cases e;obtain⟨o,h1,h2⟩:=he;exact⟨⟨o,h1,h2⟩,⟨o,h1⟩,λ_ _ ⟨o,q1,q2⟩ k=>⟨o,k o q1,q2⟩⟩
 ·rw[d6 hb] at e
  exact(x b u e).stay (λc v _ q=>q) (λc q=>by rw[d6 (g6 q hf)];exact q) λc xs q=>by rw[d6 (g6 q hf)];exact q
theorem Inv.unname{X:Cx}{pins:List (Addr×Obj)}{σ:St}{H:Hp}{s:Shared}{i t:Nat}{x:Str}{m:Str->Option Value}{v:Option Value}{h':Heap}(I:Inv X pins σ H s)(hN:X.N.Nodup)(hi:X.N[i]?=some x)(hl:∀(j:Nat) (y:Str) (v:V),X.N[j]?=some y->σ[j]?=some (some v)->Vis X.env.scope y->∃u,RelV v u/\e7j X.env s.heap m y u)(hn':h'.Ns X.env.locals (λy=>if y=x then v else m y))(hs:Heap.SameBut X.env.locals s.heap h'):Inv X pins (σ.set i none) H { s with heap:=h',toks:=t }:=by
 have ne:∀b o,X.s₀.heap.get? b=some o->b≠X.env.locals:=λb o e=>Nat.ne_of_lt (Nat.lt_of_lt_of_le (Heap.lt_size e) I.ok.above);refine⟨I.ok,I.os,I.bare,⟨λb o e n hb hx=>?_,λb o e n hb hx=>?_,I.base.free,λb o e hx=>?_,I.base.tups,I.base.frzs,I.base.tbls⟩,⟨_,hn',λj y v' e1 e2 e3=>?_⟩,λy c e=>?_,I.free,I.freeC,λp hp=>?_,?_,by simpa using I.len⟩
 ·exact(hs.2 b (ne b o e)).trans (I.base.keep b o e n hb hx)
 ·obtain⟨sl,e1⟩:=I.base.slot b o e n hb hx
  exact⟨sl,(hs.2 b (ne b o e)).trans e1⟩
 ·obtain⟨o',e1⟩:=I.base.there b o e hx
  exact⟨o',(hs.2 b (ne b o e)).trans e1⟩
 ·have hj:j≠i:=λz=>by
   subst z;by_cases hlt:j<σ.length
   ·rw[List.getElem?_set_self hlt] at e2;cases e2
   ·rw[List.getElem?_eq_none_iff.mpr (by rw[List.length_set];lia)] at e2;cases e2
  rw[List.getElem?_set_ne (Ne.symm hj)] at e2;obtain⟨u',r',q⟩:=hl j y v' e1 e2 e3;refine⟨u',r',?_⟩;rcases q with ⟨k,e⟩|⟨k,c,e,z⟩
  ·refine .inl ⟨k,?_⟩
   have:y≠x:=λe=>hj (c2z hN e1 (e ▸ hi));simp[this,e]
  ·exact .inr ⟨k,c,e,z.sameBut hs (I.cne y c e)⟩
 ·obtain⟨w',z⟩:=I.cell y c e
  exact⟨w',z.sameBut hs (I.cne y c e)⟩
 ·obtain⟨e,n,ne,nf,d⟩:=I.pin p hp
  exact⟨(hs.2 p.1 ne).trans e,n,ne,nf,d⟩
 ·exact a7p I.hok λb o u e q=>(hs.2 b (λz=>by rw[z,I.free] at e;cases e)).trans q
def Ends.unset(D:Ends)(i:Nat):Ends:=⟨λσ H=>D.nx (σ.set i none) H,D.rt,λσ H=>D.bk (σ.set i none) H,λσ H=>D.ct (σ.set i none) H⟩
def d2h(K:Frag)(c:Addr)(i:Nat)(tb:(St->XK)->TS)(th:TS):TS:=λD σ H=>
 tb (λσ1 C _ H'=>exmOne K C (.ref c)=some true/\∀a,H' a=none->th (D.unset i) (σ1.set i (some (.ref a))) (upd H' a (c9x a C))) D σ H
section
variable{X:Cx}{body suite:List Stmt}{b₀:Stmt}{x n:Str}{np hpos pos:Pos}{c:Addr}{i:Nat}{tb:(St->XK)->TS}{th:TS}
theorem Fly.caught{pins:List (Addr×Obj)}{σ:St}{H H':Hp}{s s':Shared}{a:Addr}{C:Value}{B h'':Heap}{a0:Value}(I:Inv X pins σ H s)(F:Fly X.prog X.w X.stack H H' s s' a C)(fl:Heap.FlyingW B X.stack a C a0 s'.heap)(k:c6s B X.stack H H' s.heap)(st:B.StaysIn h'')(up:s'.heap.UpToSlots h''):Inv X pins σ H' { s' with heap:=h'' } :=
 I.call' (s':={ s' with heap:=h'' }) (ch:=[]) F.os (d8q F.un fl k st up) (d3z F.hok fl k st) F.bare (λ_ z=>nomatch z)
theorem Fly.caughtAs{pins:List (Addr×Obj)}{σ:St}{H H':Hp}{s s':Shared}{a:Addr}{C:Value}{B h'':Heap}{a0:Value}(I:Inv X pins σ H s)(F:Fly X.prog X.w X.stack H H' s s' a C)(fl:Heap.FlyingW B X.stack a C a0 s'.heap)(k:c6s B X.stack H H' s.heap)(fl2:Heap.FlyingW B X.stack a C a0 h'')(up:s'.heap.UpToSlots h''):H' a=none/\Inv X pins σ (upd H' a (c9x a C)) { s' with heap:=h'' }:=by
 have hn:H' a=none:=by
  cases q:H' a with
  | none=>rfl
  | some o=>
   obtain⟨ob,e⟩:=k.tr a o q;rw[fl.2.1] at e;cases e
 have ha:s.heap.get? a=none:=by
  cases q:s.heap.get? a with
  | none=>rfl
  | some o=>
   by_cases hb:a∈frs X.stack
   ·obtain⟨_,o',h1,h2⟩:=fl.2.2.1.mem hb
    obtain⟨oe,vs,h3,_,h4,_⟩:=fl.first;rw[h1] at h3;cases h3;exact absurd h4 (h2 vs)
   ·obtain⟨ob,e⟩:=k.th a o q hb
    rw[fl.2.1] at e;cases e
 refine⟨hn,I.call' (s':={ s' with heap:=h'' }) (ch:=[]) F.os (e1g (d8q F.un fl k fl2.1 up) ha hn) (e0e (d3z F.hok fl k fl2.1) hn fl2.there) F.bare (λ_ z=>nomatch z)⟩
theorem d6l(hcal:X.calm=true)(hst:X.stack=X.env::X.outer)(hfr:X.env.frame=some X.env.locals)(hg:Gl X x)(hm:X.mg x=some (.ref c))(hN:X.N.Nodup)(hi:X.N[i]?=some n)(hk:X.env.scope.names.lookup n=some .local)(hb:∀pn' E J,c3n (X.tryX pn' E) J->PSs (X.tryX pn' E) body (tb J))(hh:∀pn' a,PSs (X.inH pn' a) (b₀::suite) th)(hd:(x == ("__debug__":Str))=false:=by decide):
  PS X (.Try body [.ExceptHandler (some (.Name x np)) (some n) (b₀::suite) hpos] [] [] pos) (d2h X.K c i tb th):=by
 intro pins s σ H D I h;have hcl:X.calm=true->X.A.handled=none:=I.ok.hd;have hp:c3n (X.tryX (X.pn++pins) (λe s'=>∃pins' σ1 H1 s1,Inv (X.tryX (X.pn++pins) X.xe) pins' σ1 H1 s1/\CXK X.prog X.w X.stack H1 s1 ((λσ1 C _ H'=>exmOne X.K C (.ref c)=some true/\∀a,H' a=none->th (D.unset i) (σ1.set i (some (.ref a))) (upd H' a (c9x a C)):St->XK) σ1) e s'))
   (λσ1 C _ H'=>exmOne X.K C (.ref c)=some true/\∀a,H' a=none->th (D.unset i) (σ1.set i (some (.ref a))) (upd H' a (c9x a C))) :=
  λpins' σ1 H1 s1 e s' I1 q=>⟨pins',σ1,H1,s1,I1.re rfl hcl (λp z=>z),q⟩
 have back:∀{A':Around}{c':Bool}{xe':Value->Shared->Prop}{pins':List (Addr×Obj)}{σ1:St}{H1:Hp}{s1:Shared},X.A.frames=A'.frames->Inv ({ X with A:=A',calm:=c',pn:=X.pn++pins,xe:=xe' }:Cx) pins' σ1 H1 s1->Inv X pins σ1 H1 s1 :=
  λhA I1=>I1.re (pn':=X.pn) (calm':=X.calm) (A':=X.A) (xe':=X.xe) hA hcl (λp z=>List.mem_append_left _ z)
 refine wpAny_Try_except (wpAny_mono (hb _ _ _ hp [] s σ H D (I.re rfl hcl (λp z=>by simpa using z)) h) (λf s1 q=>?_) λe s1 q=>?_)
 ·cases f with
  | next=>obtain⟨σ',H',I',q⟩:=q;exact wpAny_execs_nil ⟨σ',H',back rfl I',q⟩
  | brk=>obtain⟨σ',H',I',q⟩:=q;exact⟨σ',H',back rfl I',q⟩
  | cont=>obtain⟨σ',H',I',q⟩:=q;exact⟨σ',H',back rfl I',q⟩
  | ret u=>obtain⟨v,σ',H',I',r,q⟩:=q;exact⟨v,σ',H',back rfl I',r,q⟩
 ·obtain⟨pins',σ1,H1,s2,I1,a,C,H',rfl,F,hx,hq⟩:=q
  have I1:Inv X pins σ1 H1 s2:=back rfl I1;obtain⟨B,a0,fl,k⟩:=F.fl;have hs:X.A.frames=some (X.env::X.outer):=by rw[<- hst];exact I1.ok.frames
  refine wpAny_looks_onW (base:=B) hs hfr (by rw[<- hst];exact fl) λh4 hh4 up4=>?_
  refine wpAny_landsW hh4 λh5 fl5 up5=>?_;have fl5':Heap.FlyingW B X.stack a C a0 h5:=by rw[hst];exact fl5
  have up:s1.heap.UpToSlots h5:=up4.trans up5;have I5:=F.caught I1 fl k fl5'.1 up;refine wpAny_handleBy_cons (codeAny_handlers_test ?_) (by intro q;cases q)
  have I5h:Inv (X.inH (X.pn++pins) a) [] σ1 H' { s1 with heap:=h5 }:=I5.re rfl (λz=>nomatch z) (λp z=>by simpa using z)
  refine b8t (X:=X.inH (X.pn++pins) a) I5h hg hm ?_ hd;have LT:PySem.W.Looks (model X.prog X.w) h5 (typeOf (.ref a)) C:=by
   obtain⟨ob,hob,hc⟩:=fl5'.there;subst hc;exact(PySem.W.Looks.ld hob).andThen .now
  refine (PySem.W.exm_one (K:=X.K) (h:=h5) I5.kIn LT hx).here ?_;refine codeAny_handlers_suite_as ?_;refine lands_againW fl5' λh6 fl6 up6=>?_;obtain⟨hn,I6⟩:=F.caughtAs I1 fl k fl6 (up.trans up6);have I6h:Inv (X.inH (X.pn++pins) a) [] σ1 (upd H' a (c9x a C)) { s1 with heap:=h6 }:=I6.re rfl (λz=>nomatch z) (λp z=>by simpa using z)
  refine b6w (X:=X.inH (X.pn++pins) a) (v:=.ref a) I6h hN hi (Or.inl hk) rfl (λs7 I7=>?_) (Or.inr hk);refine wpAny_mono (hh (X.pn++pins) a [] s7 _ _ _ I7 (hq a hn)) (λf s8 q8=>?_) (λ_ _ z=>z.elim);have goes:∀{σ':St}{H2:Hp}{R:Unit->Shared->Prop},Inv (X.inH (X.pn++pins) a) [] σ' H2 s8->(∀s9,Inv X pins (σ'.set i none) H2 s9->R () s9)->wpAny (model X.prog X.w) X.A (do bindName X.env n .none;unbindBehindTheSuite X.env n hpos) R X.xe s8:=λ{σ' H2 R} I8 k8=>by
   have I8:Inv X pins σ' H2 s8:=back (A':=X.A.mark (some (.ref a))) rfl I8;obtain⟨m,hn8,hl8⟩:=id I8.loc;refine wpAny_nameGoes_keeps hk hn8 (by rw[I8.ok.kind];rfl) λh9 v hn9 hs9=>k8 _ (I8.unname hN hi hl8 hn9 hs9)
  cases f with
  | next=>obtain⟨σ',H2,I8,q8⟩:=q8;exact goes I8 λs9 I9=>⟨_,H2,I9,q8⟩
  | brk=>obtain⟨σ',H2,I8,q8⟩:=q8;exact goes I8 λs9 I9=>⟨_,H2,I9,q8⟩
  | cont=>obtain⟨σ',H2,I8,q8⟩:=q8;exact goes I8 λs9 I9=>⟨_,H2,I9,q8⟩
  | ret u=>obtain⟨v,σ',H2,I8,r,q8⟩:=q8;exact goes I8 λs9 I9=>⟨v,_,H2,I9,r,q8⟩
end
end L2
namespace L2
open PySem PySem.Spec PyProof.Rows Builtin Builtin.ObjectAttr Builtin.Getset_descriptor
structure ExK(K:Frag)(C:Addr):Prop where
 ex:e7l K C
 ga:findIn K (.ref C) "__getattribute__" = some (some (.builtin "BaseException.__getattribute__"))
 gn:findIn K (.ref C) "__getattr__" = some none
 cl:findIn K (.ref C) "__class__" = some (some (.builtin "object.__class__"))
 mb:mroIn K C (.type "BaseException")=some true
 mo:mroIn K C (.type "object")=some true
 ic:(clsIn K C).isSome=true
 sg:specialIn K (.builtin "object.__class__") "__get__" = some (some (.builtin "getset_descriptor.__get__"))
 tk:PySem.W.takesIn K (.builtin "object.__class__")=some true
section
variable{prog:Program}{w:World}{A:Around}{E:Value->Shared->Prop}{R:Result->Shared->Prop}{K:Frag}{C x:Addr}{s:Shared}
theorem e1e(X:K.In s.heap)(L0:PySem.W.Looks (model prog w) s.heap (typeOf (.ref x)) (.ref C))(hm:mroIn K C (.type "object")=some true)(h:R (.ok (.ret (.ref C))) s):
  codeAny (model prog w) A (.call (.builtin "getset_descriptor.__get__") ⟨[.builtin "object.__class__",.ref x,.ref C],[]⟩) R s:=by
 obtain⟨hh,g,dr,t,os⟩:=s;have L1:=PySem.W.looks_mroIn (M:=model prog w) X hm;have pl:=PySem.W.KF.slot_gs.plain;refine codeAny_call_builtin pl PySem.W.KF.entry_gs (PySem.W.KF.slot_gs.check _ _ _ _ _ _ _ _ PySem.W.KF.type_class (PySem.W.KF.args_gs _ _ _) ?_);unfold Builtin.«getset_descriptor.__get__» descrGet;rw[PySem.W.dga_obj];refine wpAny_bind (wpAny_pure ?_);unfold descrGetter descrCheckInstance descrNameAndClass isInstance;simp only[PySem.W.KF.owner_class]
 repeat lk
 refine⟨Code.quiet_builtin _ (by decide +kernel),codeAny_builtin PySem.W.KF.entry_class ?_⟩
 unfold Builtin.«object.__class__» shownTypeOf
 repeat lk
 exact h
theorem d8m(X:K.In s.heap)(k:ExK K C):PySem.W.Looks (model prog w) s.heap (find (.ref x) (.ref C) "__class__") (.bind (.builtin "getset_descriptor.__get__") (.builtin "object.__class__")):=by
 have L1:=PySem.W.looks_findIn (M:=model prog w) X k.cl;have L2:PySem.W.Looks (model prog w) s.heap (getOf (some (.builtin "object.__class__"))) (some (.builtin "getset_descriptor.__get__")):=PySem.W.looks_specialIn X k.sg;have L3:=PySem.W.looks_takesIn (M:=model prog w) X k.tk;refine L1.andThen (L2.andThen ?_);have L4:PySem.W.Looks (model prog w) s.heap (dataDescriptor? (some (.builtin "object.__class__")) (some (.builtin "getset_descriptor.__get__"))) (some (.builtin "getset_descriptor.__get__",.builtin "object.__class__")):=L3.andThen .now;exact L4.andThen (PySem.W.Looks.tag .now)
theorem d5q{tk:Tok}{Q:Fin->Shared->Prop}(X:K.In s.heap)(k:ExK K C)(L0:PySem.W.Looks (model prog w) s.heap (typeOf (.ref x)) (.ref C))(h:Q (.done (.ret (.ref C))) s):
  wpAny (model prog w) A (Builtin.«object.__getattribute__» ⟨[.ref x,.str "__class__" tk],[]⟩) Q E s:=by
 obtain⟨hh,g,dr,t,os⟩:=s;have L1:=d8m (prog:=prog) (w:=w) (x:=x) X k;unfold Builtin.«object.__getattribute__» slotArgs attrName
 repeat lk
 show wpAny _ _ (run (.call (.builtin "getset_descriptor.__get__") ⟨[.builtin "object.__class__",.ref x,.ref C],[]⟩) none) _ _ _;refine wpAny_run (A:=A) (e1e X L0 k.mo ?_);show wpAny _ _ (pure (Value.ref C)) _ _ _;exact wpAny_pure (wpAny_pure h)
theorem d5r{nameV:Value}{Q:Unit->Shared->Prop}(X:K.In s.heap)(k:ExK K C)(L0:PySem.W.Looks (model prog w) s.heap (typeOf (.ref x)) (.ref C))(h:Q () s):
  wpAny (model prog w) A (checkBuiltinCall "BaseException.__getattribute__" ⟨[.ref x,nameV],[]⟩) Q E s:=by
 obtain⟨hh,g,dr,t,os⟩:=s;have e1:builtinKind "BaseException.__getattribute__" = some .slot:=by decide +kernel
 have e2:splitId "BaseException.__getattribute__" = some ("BaseException","__getattribute__"):=by decide +kernel
 have L1:=PySem.W.looks_mroIn (M:=model prog w) X k.mb;have hz:=F.args_bexc_ga (.ref x) nameV;have L2:PySem.W.Looks (model prog w) hh (isInstance (.ref x) (.type "BaseException")) true:=L0.andThen L1;simp only[checkBuiltinCall,e1,e2];refine wpAny_bind (L2.at ?_)
 repeat (first|assumption|wp_step)
 all_goals exact h
theorem e4r{tk:Tok}{fill:Bool}{Q:Value->Shared->Prop}(X:K.In s.heap)(k:ExK K C)(L0:PySem.W.Looks (model prog w) s.heap (typeOf (.ref x)) (.ref C))(h:Q (.ref C) s):
  wpAny (model prog w) A (getAttrBy (.ref x) (.str "__class__" tk) fill) Q E s:=by
 obtain⟨hh,g,dr,t,os⟩:=s;have L1:=PySem.W.looks_findIn (M:=model prog w) X k.ga;have L2:=PySem.W.looks_findIn (M:=model prog w) X k.gn;have hb:=F.attr_ValueError.ga.bind (.ref x);unfold getAttrBy;refine wpAny_holding (wpAny_bind (L0.at (wpAny_bind (L1.at ?_))));dsimp only;have ne:(Value.builtin "BaseException.__getattribute__" == Value.builtin "object.__getattribute__")=false:=by decide +kernel
 have oh:onTheHeap (Value.ref C)=true:=rfl;rw[ne,Bool.and_false,if_neg Bool.false_ne_true];unfold getAttrByItsOwn hookBefore;rw[if_pos oh];refine wpAny_bind (L2.at (wpAny_bind (wpAny_attempt (wpAny_holding ?_))));unfold callGetattribute;rw[Bool.false_and,if_neg Bool.false_ne_true];unfold boundAndCalled;rw[hb];refine wpAny_bind (wpAny_pure ?_);refine wpAny_call (codeAny_call_builtin F.attr_ValueError.ga.plain F.entry_bexc_ga (d5r X k L0 (d5q X k L0 ?_)));exact wpAny_pure h
theorem d8n{Q:Option Value->Shared->Prop}(X:K.In s.heap)(k:ExK K C)(L0:PySem.W.Looks (model prog w) s.heap (typeOf (.ref x)) (.ref C))(h:Q (some (.ref C)) { s with toks:=s.toks+1 }):
  wpAny (model prog w) A (getAttr? (.ref x) "__class__") Q E s:=by
 obtain⟨hh,g,dr,t,os⟩:=s;unfold getAttr? getAttrBy?;exact wpAny_bind (wpAny_mkText (wpAny_bind (wpAny_attempt (e4r X k L0 (wpAny_pure h)))))
end
def ExAt(a C:Addr)(h:Heap):Prop:=∃o,h.get? a=some o/\o.cls=.ref C
theorem ExAt.ty{a C:Addr}{h:Heap}(M:Model)(p:ExAt a C h):PySem.W.Looks M h (typeOf (.ref a)) (.ref C):=by
 obtain⟨o,h1,h2⟩:=p;exact h2 ▸ (PySem.W.Looks.ld h1).andThen .now
theorem c9o{K:Frag}{a C:Addr}(k:ExK K C):PySem.W.KitX K (.ref a) (.ref C) (ExAt a C) where
 ty:=λM h _ p=>p.ty M
 it:=λM h X _=>by
  obtain⟨cd,hc⟩:=Option.isSome_iff_exists.mp k.ic;unfold clsIn at hc;split at hc
  case h_2=>cases hc
  case h_1 c' d' cd' sl' ho=>
   intro A' Q' E' s' kk q;unfold isType loadHead;exact wpAny_bind (wpAny_loadPart (kk _ _ (X _ _ ho)) (wpAny_pure q))
 ne:=λh tp dd its n sl X htp=>by
  obtain⟨cd,hc⟩:=Option.isSome_iff_exists.mp k.ic;cases hb:(Value.ref C == Value.ref tp) with
  | false=>rfl
  | true=>
   have e:C=tp:=Value.ref.inj (beq_iff_eq.mp hb);subst e;unfold clsIn at hc;split at hc
   case h_2=>cases hc
   case h_1 c' d' cd' sl' ho=>
    have z:=(X _ _ ho).symm.trans htp;cases z
 ca:=λX p h=>d8n X k (p.ty _) h
inductive TyX(K:Frag)(H:Hp):V->Value->Prop where
 | ty {x:V} {t:Value} (h:d1y K H x t):TyX K H x t
 | exc {a C:Addr} (e:H a=some (c9x a (.ref C))) (k:ExK K C):TyX K H (.ref a) (.ref C)
def d5n:V->Option Value
 | .ref a=>some (.ref a)
 | .ty n=>some (.type n)
 | _=>none
theorem d0b{c:V}{cv u:Value}(h:d5n c=some cv)(r:RelV c u):u=cv:=by
 cases c with
 | ref a=>cases h;exact r
 | ty n=>cases h;exact r
 | _=>cases h
theorem c6l:∀{cs:List V}{cvs us:List Value},cs.map d5n=cvs.map some->Vals cs us->us=cvs
 | [],[],_,_,.nil=>rfl
 | [],_::_,_,h,_=>by cases h
 | _::_,[],_,h,_=>by cases h
 | c::cs,cv::cvs,_,h,.cons r t=>by
  have h1:d5n c=some cv:=List.head_eq_of_cons_eq h;have h2:cs.map d5n=cvs.map some:=List.tail_eq_of_cons_eq h;rw[d0b h1 r,c6l h2 t]
section
variable{X:Cx}
theorem d7x:a7z X (.builtin "isinstance") (λxs H Q=>∃x c t cv b,xs=[x,c]/\TyX X.K H x t/\d5n c=some cv/\kitOne X.K t cv=some b/\Q (.bl b) H):=by
 intro pins s σ H xs us Q I r h;obtain⟨x,c,t,cv,b,rfl,ty,hc,hk,q⟩:=h;obtain⟨u,us',rfl,rx,r2⟩:∃u us',us=u::us'/\RelV x u/\Vals [c] us':=by cases r with|cons a b=>exact⟨_,_,rfl,a,b⟩
 obtain⟨v,rfl,rc⟩:∃v,us'=[v]/\RelV c v:=by cases r2 with|cons a b=>cases b;exact⟨_,rfl,a⟩
 have e:=d0b hc rc;subst e;cases ty with
 | ty ty=>exact d3w I rx ty hk λtk=>⟨.bl b,H,I.tok tk,rfl,q⟩
 | @exc a C ea k=>
  cases (show u=Value.ref a from rx);obtain⟨p,_⟩:=(show ObjOk X.prog X.w H s.heap a (c9x a (.ref C)) from I.hok a _ ea);exact kia_one (c9o k) I.kIn p hk (λz=>nomatch z) λtk=>⟨.bl b,H,I.tok tk,rfl,q⟩
theorem d5c:a7z X (.builtin "isinstance") (λxs H Q=>∃a C tp cs cvs b,xs=[.ref a,.ref tp]/\H a=some (c9x a (.ref C))/\ExK X.K C/\H tp=some (.tup cs)/\cs.map d5n=cvs.map some/\PySem.W.kitAny X.K (.ref C) cvs=some b/\Q (.bl b) H):=by
 intro pins s σ H xs us Q I r h;obtain⟨a,C,tp,cs,cvs,b,rfl,ea,k,et,hc,hk,q⟩:=h;obtain⟨u,us',rfl,rx,r2⟩:∃u us',us=u::us'/\RelV (.ref a) u/\Vals [.ref tp] us':=by cases r with|cons a b=>exact⟨_,_,rfl,a,b⟩
 obtain⟨v,rfl,rc⟩:∃v,us'=[v]/\RelV (.ref tp) v:=by cases r2 with|cons a b=>cases b;exact⟨_,rfl,a⟩
 cases (show u=Value.ref a from rx);cases (show v=Value.ref tp from rc);obtain⟨p,_⟩:=(show ObjOk X.prog X.w H s.heap a (c9x a (.ref C)) from I.hok a _ ea);obtain⟨_,its,rt,o,h1,h2,n,h3⟩:=(show ObjOk X.prog X.w H s.heap tp (.tup cs) from I.hok tp _ et);have e:=c6l hc rt;subst e;obtain⟨oc,od,oda,osl⟩:=o;dsimp only at h2 h3;subst h2 h3;exact PySem.W.kia_tup (c9o k) I.kIn p h1 hk (λz=>nomatch z) λtk=>⟨.bl b,H,I.tok tk,rfl,q⟩
end
end L2
namespace L2
open PySem PySem.Spec PyProof.Rows
inductive EqD(K:Frag)(H:Hp):Nat->V->V->Bool->Prop where
 | flat {n:Nat} {x y:V} (fx:a4h x=true) (fy:a4h y=true):EqD K H n x y (eqV x y)
 | lst {n:Nat} {p q:Addr} {xs ys:List V} {e:Nat->Bool} (ne:p≠q) (hp:SqL K H p xs) (hq:SqL K H q ys) (hl:xs.length=ys.length)
   (h:∀(j:Nat)(x y:V),xs[j]?=some x->ys[j]?=some y->EqD K H n x y (e j)):EqD K H (n+1) (.ref p) (.ref q) ((List.range xs.length).all e)
 | lstN {n:Nat} {p q:Addr} {xs ys:List V} (ne:p≠q) (hp:SqL K H p xs) (hq:SqL K H q ys) (hl:xs.length≠ys.length):EqD K H (n+1) (.ref p) (.ref q) false
 | tup {n:Nat} {p q:Addr} {xs ys:List V} {e:Nat->Bool} (ne:p≠q) (hp:SqT K H p xs) (hq:SqT K H q ys)
   (h:∀(j:Nat)(x y:V),xs[j]?=some x->ys[j]?=some y->EqD K H n x y (e j)):EqD K H (n+1) (.ref p) (.ref q) ((List.range (min xs.length ys.length)).all e && xs.length == ys.length)
 | self {n:Nat} {p:Addr} {xs:List V} (hp:SqT K H p xs):EqD K H n (.ref p) (.ref p) true
theorem Vals.at{xs:List V}{us:List Value}(r:Vals xs us){j:Nat}(h:j<us.toArray.size):∃x,xs[j]?=some x/\RelV x us.toArray[j]:=by
 have hl:j<xs.length:=by rw[r.length];simpa using h
 obtain⟨u,e,q⟩:=r.get (List.getElem?_eq_getElem hl);refine⟨xs[j],List.getElem?_eq_getElem hl,?_⟩;have:us.toArray[j]=u:=by
  simp only[List.getElem_toArray];have:=List.getElem?_eq_some_iff.mp e;exact this.2
 rw[this];exact q
section
variable{X:Cx}{pins:List (Addr×Obj)}{σ:St}{H:Hp}{s:Shared}
theorem c9z(I:Inv X pins σ H s){n:Nat}{x y:V}{b:Bool}(d:EqD X.K H n x y b):∀{A:Around}{u v:Value},RelV x u->RelV y v->A.units+n<cLine->SeqAt.EqAt A s u v b:=by
 induction d with
 | flat fx fy=>intro A u v rx ry hu;exact d8k rx ry fx fy
 | @lst n p q xs ys e ne hp hq hl h ih=>
  intro A u v rx ry hu;cases rx;cases ry;obtain⟨i1,r1,p1,z1⟩:=I.list hp;obtain⟨i2,r2,p2,z2⟩:=I.list hq;have e1:=r1.length;have e2:=r2.length;rw[show xs.length=i1.toArray.size by simpa using e1]
  refine SeqAt.EqAt.of_refs ne (SeqAt.RcAt.lists p1.isList p2.isList (by simp only[List.size_toArray];lia) ↑5 λj h1 h2=>?_)
  obtain⟨a,ea,ra⟩:=r1.at h1;obtain⟨c,ec,rc⟩:=r2.at h2;exact ih j a c ea ec ra rc (by show A.units+1+n<cLine;lia)
 | @lstN n p q xs ys ne hp hq hl=>
  intro A u v rx ry hu;cases rx;cases ry;obtain⟨i1,r1,p1,z1⟩:=I.list hp;obtain⟨i2,r2,p2,z2⟩:=I.list hq;have e1:=r1.length;have e2:=r2.length;exact SeqAt.EqAt.of_refs ne (SeqAt.RcAt.lists_lengths p1.isList p2.isList (by simp only[List.size_toArray,bne_iff_ne];lia) ↑5)
 | @tup n p q xs ys e ne hp hq h ih=>
  intro A u v rx ry hu;cases rx;cases ry;obtain⟨i1,r1,p1,z1⟩:=I.tuple hp;obtain⟨i2,r2,p2,z2⟩:=I.tuple hq;have e1:=r1.length;have e2:=r2.length;rw[show xs.length=i1.toArray.size by simpa using e1,show ys.length=i2.toArray.size by simpa using e2]
  refine SeqAt.EqAt.of_refs ne (SeqAt.RcAt.tuples p1 p2 ↑5 λj h1 h2=>?_);obtain⟨a,ea,ra⟩:=r1.at h1;obtain⟨c,ec,rc⟩:=r2.at h2;exact ih j a c ea ec ra rc (by show A.units+1+n<cLine;lia)
 | self hp=>
  intro A u v rx ry hu;cases rx;cases ry;exact SeqAt.EqAt.same _
theorem d0g(k:Nat):((List.range (min k k)).all (λ_=>true) && k == k)=true:=by simp
theorem e2o{n:Nat}(hu:X.A.units+(n+1)<cLine):OpR X (compareOp .Eq) (λx y H Q=>∃p q b,x=.ref p/\y=.ref q/\EqD X.K H (n+1) x y b/\Q (.bl b) H):=by
 intro pins s σ H x y v u Q I rx ry h;obtain⟨p,q,b,rfl,rfl,d,hq⟩:=h;cases rx;cases ry;cases d with
 | flat fx fy=>cases fx
 | @lst _ _ _ xs ys e ne h1 h2 hl h=>
  obtain⟨i1,r1,p1,z1⟩:=I.list h1;obtain⟨i2,r2,p2,z2⟩:=I.list h2;have e1:=r1.length;have e2:=r2.length;rw[show xs.length=i1.toArray.size by simpa using e1] at hq
  refine SeqAt.RcAt.lists p1.isList p2.isList (by simp only[List.size_toArray];lia) ↑5 (λj h1 h2=>?_) _ _ _ _ ⟨.bl _,H,I,rfl,hq⟩
  obtain⟨a,ea,ra⟩:=r1.at h1;obtain⟨c,ec,rc⟩:=r2.at h2;exact c9z I (h j a c ea ec) ra rc (by show X.A.units+1+n<cLine;lia)
 | @lstN _ _ _ xs ys ne h1 h2 hl=>
  obtain⟨i1,r1,p1,z1⟩:=I.list h1;obtain⟨i2,r2,p2,z2⟩:=I.list h2;have e1:=r1.length;have e2:=r2.length;exact SeqAt.RcAt.lists_lengths p1.isList p2.isList (by simp only[List.size_toArray,bne_iff_ne];lia) ↑5 _ _ _ _ ⟨.bl _,H,I,rfl,hq⟩
 | @tup _ _ _ xs ys e ne h1 h2 h=>
  obtain⟨i1,r1,p1,z1⟩:=I.tuple h1;obtain⟨i2,r2,p2,z2⟩:=I.tuple h2;have e1:=r1.length;have e2:=r2.length;rw[show xs.length=i1.toArray.size by simpa using e1,show ys.length=i2.toArray.size by simpa using e2] at hq
  refine SeqAt.RcAt.tuples p1 p2 ↑5 (λj h1 h2=>?_) _ _ _ _ ⟨.bl _,H,I,rfl,hq⟩;obtain⟨a,ea,ra⟩:=r1.at h1;obtain⟨c,ec,rc⟩:=r2.at h2;exact c9z I (h j a c ea ec) ra rc (by show X.A.units+1+n<cLine;lia)
 | @self _ _ xs hp=>
  obtain⟨i1,r1,p1,z1⟩:=I.tuple hp;rw[<- d0g i1.toArray.size] at hq;exact SeqAt.RcAt.tuples p1 p1 ↑5 (λj h1 h2=>SeqAt.EqAt.same _) _ _ _ _ ⟨.bl _,H,I,rfl,hq⟩
theorem e2k{n:Nat}(hu:X.A.units+(n+1)<cLine):OpR X (compareOp .NotEq) (λx y H Q=>∃p q b,x=.ref p/\y=.ref q/\EqD X.K H (n+1) x y b/\Q (.bl (!b)) H):=by
 intro pins s σ H x y v u Q I rx ry h;obtain⟨p,q,b,rfl,rfl,d,hq⟩:=h;cases rx;cases ry;cases d with
 | flat fx fy=>cases fx
 | @lst _ _ _ xs ys e ne h1 h2 hl h=>
  obtain⟨i1,r1,p1,z1⟩:=I.list h1;obtain⟨i2,r2,p2,z2⟩:=I.list h2;have e1:=r1.length;have e2:=r2.length;rw[show xs.length=i1.toArray.size by simpa using e1] at hq
  refine SeqAt.RcNeAt.lists p1.isList p2.isList (by simp only[List.size_toArray];lia) ↑5 (λj h1 h2=>?_) _ _ _ _ ⟨.bl _,H,I,rfl,hq⟩
  obtain⟨a,ea,ra⟩:=r1.at h1;obtain⟨c,ec,rc⟩:=r2.at h2;exact c9z I (h j a c ea ec) ra rc (by show X.A.units+1+n<cLine;lia)
 | @lstN _ _ _ xs ys ne h1 h2 hl=>
  obtain⟨i1,r1,p1,z1⟩:=I.list h1;obtain⟨i2,r2,p2,z2⟩:=I.list h2;have e1:=r1.length;have e2:=r2.length;exact SeqAt.RcNeAt.lists_lengths p1.isList p2.isList (by simp only[List.size_toArray,bne_iff_ne];lia) ↑5 _ _ _ _ ⟨.bl _,H,I,rfl,hq⟩
 | @tup _ _ _ xs ys e ne h1 h2 h=>
  obtain⟨i1,r1,p1,z1⟩:=I.tuple h1;obtain⟨i2,r2,p2,z2⟩:=I.tuple h2;have e1:=r1.length;have e2:=r2.length;rw[show xs.length=i1.toArray.size by simpa using e1,show ys.length=i2.toArray.size by simpa using e2] at hq
  refine SeqAt.RcNeAt.tuples p1 p2 ↑5 (λj h1 h2=>?_) _ _ _ _ ⟨.bl _,H,I,rfl,hq⟩;obtain⟨a,ea,ra⟩:=r1.at h1;obtain⟨c,ec,rc⟩:=r2.at h2;exact c9z I (h j a c ea ec) ra rc (by show X.A.units+1+n<cLine;lia)
 | @self _ _ xs hp=>
  obtain⟨i1,r1,p1,z1⟩:=I.tuple hp;rw[<- d0g i1.toArray.size] at hq;exact SeqAt.RcNeAt.tuples p1 p1 ↑5 (λj h1 h2=>SeqAt.EqAt.same _) _ _ _ _ ⟨.bl _,H,I,rfl,hq⟩
end
def eqL:List V->List V->Bool
 | [],[]=>true
 | x::xs,y::ys=>eqV x y && eqL xs ys
 | _,_=>false
theorem d4p:∀{xs ys:List V},xs.length≠ys.length->eqL xs ys=false
 | [],[],h=>absurd rfl h
 | [],_::_,_=>rfl
 | _::_,[],_=>rfl
 | x::xs,y::ys,h=>by
  show(eqV x y && eqL xs ys)=false;rw[d4p (λe=>h (by simp[e])),Bool.and_false]
theorem b9i(e:Nat->Bool)(n:Nat):(List.range (n+1)).all e=(e 0 && (List.range n).all λj=>e (j+1)):=by
 rw[List.range_succ_eq_map,List.all_cons,List.all_map]
 rfl
theorem c6j:∀{xs ys:List V},xs.length=ys.length->(List.range xs.length).all (λj=>eqV (xs.getD j .non) (ys.getD j .non))=eqL xs ys
 | [],[],_=>rfl
 | [],_::_,h=>by cases h
 | _::_,[],h=>by cases h
 | x::xs,y::ys,h=>by
  have h':xs.length=ys.length:=by simpa using h
  rw[List.length_cons,b9i];have e:=c6j h';simp only[List.getD_cons_zero,List.getD_cons_succ];rw[e]
  rfl
theorem d7r{K:Frag}{H:Hp}{p q:Addr}{xs ys:List V}(ne:p≠q)(hp:SqL K H p xs)(hq:SqL K H q ys)(fx:xs.all a4h=true)(fy:ys.all a4h=true):EqD K H 1 (.ref p) (.ref q) (eqL xs ys):=by
 by_cases h:xs.length=ys.length
 ·rw[<- c6j h]
  refine EqD.lst ne hp hq h λj x y hx hy=>?_;have e1:xs.getD j .non=x:=by rw[List.getD_eq_getElem?_getD,hx];rfl
  have e2:ys.getD j .non=y:=by rw[List.getD_eq_getElem?_getD,hy];rfl
  show EqD K H 0 x y (eqV (xs.getD j .non) (ys.getD j .non));rw[e1,e2];exact EqD.flat (List.all_eq_true.mp fx x (List.mem_of_getElem? hx)) (List.all_eq_true.mp fy y (List.mem_of_getElem? hy))
 ·rw[d4p h]
  exact EqD.lstN ne hp hq h
theorem d4q:∀(ns ms:List Bool),eqL (ns.map V.bl) (ms.map V.bl)=decide (ns=ms)
 | [],[]=>by simp[eqL]
 | [],_::_=>by simp[eqL]
 | _::_,[]=>by simp[eqL]
 | n::ns,m::ms=>by
  show(eqV (.bl n) (.bl m) && eqL (ns.map V.bl) (ms.map V.bl))=_;rw[d4q ns ms];show((n == m) && decide (ns=ms))=_;by_cases h:n=m
  ·subst h;simp
  ·simp[h]
theorem c9w(ns:List Bool):(ns.map V.bl).all a4h=true:=by simp[a4h]
end L2
namespace L2
open PySem PySem.Spec PyProof.Rows
def b0u(X:Cx)(N:List Str)(scope:Scope)(cl:List (Str×Addr))(C:Addr)(s:Shared)(H:Hp)(ex:List Addr)(pn:List (Addr×Obj)):Cx :=
 { prog:=X.prog,w:=X.w,K:=X.K,mg:=X.mg,base:=X.base,A:=X.A,N:=N,s₀:=s,H₀:=H,env:=compEnvC scope cl C X.env,outer:=X.stack,stack:=X.stack,ex:=ex,fn:=λ_=>false,calm:=X.calm,pn:=pn,xe:=λ_ _=>False }
def v7(nt:Nat)(fr:List Nat)(σ:St):St:=List.replicate nt none++fr.map λj=>(σ[j]?).join
def d9f(wi:TI)(nt:Nat)(fr:List Nat)(g:TG)(te:TE):TE:=λσ H Q=>wi σ H λJ H1=>∀D,H1 D=none->∃(n:Nat)(W:Nat->List V->Hp->Prop),W 0 [] (upd H1 D (.lst [])) /\
 ∀i acc H,W i acc H->H D=some (.lst acc)/\acc.length<sizeLine /\
  ((J.stop i H/\Q (.ref D) H)\/(i<n/\J.go i H/\∀x H',J.yld i H x H'->g x (v7 nt fr σ) H' λσ2 H2=>te σ2 H2 λy H3=>H3 D=some (.lst acc)/\W (i+1) (acc++[y]) (upd H3 D (.lst (acc++[y])))))
def d0h(nt:Nat)(g:TG):Prop:=∀(x:V)(σ:St)(H:Hp)(Q:St->Hp->Prop),g x σ H Q->g x σ H λσ2 H2=>(∀j,nt<=j->σ2[j]?=σ[j]?)/\Q σ2 H2
theorem a9p{i nt:Nat}(h:i<nt):d0h nt (c8j i):=λx σ H Q q=>⟨λj hj=>List.getElem?_set_ne ↑5,q⟩
structure CompOk(X:Cx)(N:List Str)(scope:Scope)(cl:List (Str×Addr))(nt:Nat)(fr:List Nat):Prop where
 clos:closureFor scope X.env=pure cl
 kind:scope.kind=.function
 cell:∀y∈scope.names,y.2≠.cell
 names:∀y∈scope.names,y.2=.local->scope.names.lookup y.1=some .local
 sub:∀p∈cl,X.env.cells.lookup p.1=some p.2
 has:((relabel scope X.env).names.all λy=>!(y.2 == .cell || y.2 == .free) || (cl.lookup y.1).isSome)=true
 len:N.length=nt+fr.length
 frn:∀(j i:Nat),fr[j]?=some i->∃x,N[nt+j]?=some x/\X.N[i]?=some x/\(X.env.kindOf x=some .cell\/X.env.kindOf x=some .free)/\((relabel scope X.env).names.lookup x=some .cell\/(relabel scope X.env).names.lookup x=some .free)
section
variable{X:Cx}{pins:List (Addr×Obj)}{σ:St}{H:Hp}{s:Shared}{N:List Str}{scope:Scope}{cl:List (Str×Addr)}{nt:Nat}{fr:List Nat}
theorem CompOk.cl_at(k:CompOk X N scope cl nt fr){x:Str}{c:Addr}(h:cl.lookup x=some c):X.env.cells.lookup x=some c:=k.sub (x,c) (PySem.mem_of_lookup h)
theorem CompOk.start(k:CompOk X N scope cl nt fr)(I:Inv X pins σ H s){C:Addr}{h':Heap}{t':Nat}{ex:List Addr}(hex:∀b∈ex,d5p X pins H b/\b<s.heap.objs.size)(hC:s.heap.objs.size<=C)(hn:h'.Ns C λ_=>none)(hk:∀b o,s.heap.get? b=some o->h'.get? b=some o):
  Inv (b0u X N scope cl C s H ex (X.pn++pins)) [] (v7 nt fr σ) H { s with heap:=h',toks:=t' }:=by
 have ncell:∀x c,cl.lookup x=some c->c<s.heap.objs.size:=λx c e=>by
  obtain⟨v,z⟩:=I.cell x c (k.cl_at e);exact z.lt
 refine⟨⟨I.ok.mod,?_,I.ok.glob,I.ok.blt,hC,λx y c h1 h2=>I.ok.inj x y c (k.cl_at h1) (k.cl_at h2),λx hx=>?_,λx c hf _=>(nomatch hf),I.ok.hd,I.ok.frames,.inl rfl,λb hb=>⟨?_,λx c e=>?_⟩,I.bs,?_,λb o e hb=>?_,λb hb z=>?_,I.stack,I.stkFree⟩,
  rfl,I.bare,Un.kept hk,⟨_,hn,λi x v e1 e2 e3=>?_⟩,λx c e=>?_,I.hok.fresh hC,λx c e=>I.freeC x c (k.cl_at e),λp hp=>?_,I.hok.kept hk,?_⟩
 ·show(relabel scope X.env).kind=.function
  exact k.kind
 ·have hx:(relabel scope X.env).names.lookup x=some .cell\/(relabel scope X.env).names.lookup x=some .free:=hx
  have hall:=List.all_eq_true.mp k.has;rcases hx with hx|hx
  ·have:=hall _ (PySem.mem_of_lookup hx)
   simp only[beq_self_eq_true,Bool.true_or,Bool.not_true,Bool.false_or] at this;exact Option.isSome_iff_exists.mp this
  ·have:=hall _ (PySem.mem_of_lookup hx)
   simp only[beq_self_eq_true,Bool.or_true,Bool.not_true,Bool.false_or] at this;exact Option.isSome_iff_exists.mp this
 ·exact Nat.ne_of_lt (Nat.lt_of_lt_of_le (hex b hb).2 hC)
 ·exact(hex b hb).1.2.2.2.2.1 x c (k.cl_at e)
 ·exact Nat.le_trans I.ok.bsz I.sz
 ·obtain⟨_,_,_,h4,_⟩:=(hex b hb).1
  have hs:=(I.ok.bs b o e).1;rcases h4 with z|z
  ·exact I.ok.noex b o e z
  ·exact absurd (Nat.lt_of_lt_of_le (Heap.lt_size hs) z) (Nat.lt_irrefl _)
 ·rcases List.mem_cons.mp (I.stkSub b z) with y|y
  ·exact(hex b hb).1.2.1 y
  ·exact(hex b hb).1.2.2.1 y
 ·have hi:¬ i<nt:=λhi=>by
   unfold v7 at e2;rw[List.getElem?_append_left (by simpa using hi),List.getElem?_replicate] at e2
   split at e2 <;> cases e2
  obtain⟨j,rfl⟩:∃j,i=nt+j:=⟨i-nt,by lia⟩
  unfold v7 at e2;rw[List.getElem?_append_right (by simp),List.length_replicate,Nat.add_sub_cancel_left,List.getElem?_map] at e2
  cases hj:fr[j]? with
  | none=>rw[hj] at e2;cases e2
  | some i'=>
   rw[hj] at e2;have e2:(σ[i']?).join=some v:=Option.some.inj e2;have e4:σ[i']?=some (some v):=by
    cases z:σ[i']? with
    | none=>rw[z] at e2;cases e2
    | some y=>rw[z] at e2;rw[show y=some v from e2]
   obtain⟨x',n1,n2,n3,n4⟩:=k.frn j i' hj;have e1:N[nt+j]?=some x:=e1;rw[n1] at e1;cases e1;obtain⟨m,hm,hl⟩:=I.loc;obtain⟨u,r,l⟩:=hl i' x v n2 e4 (n3.elim (λz=>.inr (.inl z)) λz=>.inr (.inr z));refine⟨u,r,.inr ⟨n4,?_⟩⟩;rcases l with ⟨z,_⟩|⟨_,c,hc,hcell⟩
   ·rcases n3 with y|y <;> (rw[z] at y;cases y)
   ·have hall:=List.all_eq_true.mp k.has
    have hs:(cl.lookup x).isSome=true:=by
     rcases n4 with y|y
     ·have:=hall _ (PySem.mem_of_lookup y)
      simpa using this
     ·have:=hall _ (PySem.mem_of_lookup y)
      simpa using this
    obtain⟨c',hc'⟩:=Option.isSome_iff_exists.mp hs;have z:=k.cl_at hc';rw[hc] at z;cases z;exact⟨c,hc',hcell.elim λo ho=>⟨o,hk _ _ ho.1,ho.2⟩⟩
 ·obtain⟨v,o,ho,hd⟩:=I.cell x c (k.cl_at e)
  exact⟨v,o,hk _ _ ho,hd⟩
 ·obtain⟨e,n,ne,nf,d⟩:=I.pin p (by have hp:p∈(X.pn++pins)++[]:=hp;rw[List.append_nil] at hp;exact hp)
  refine⟨hk _ _ e,n,Nat.ne_of_lt (Nat.lt_of_lt_of_le (Heap.lt_size e) hC),λz=>?_,d⟩;rcases List.mem_cons.mp (I.stkSub _ z) with y|y
  ·exact ne y
  ·exact nf y
 ·show(v7 nt fr σ).length=N.length
  unfold v7;rw[List.length_append,List.length_replicate,List.length_map,k.len]
theorem Inv.blockEnd{ex:List Addr}{C:Addr}{σ':St}{H H':Hp}{s':Shared}{h'':Heap}{pn' pins':List (Addr×Obj)}(I:Inv X pins σ H s)(hex:∀b∈ex,d5p X pins H b)(J:Inv (b0u X N scope cl C s H ex pn') pins' σ' H' s')(hC:s.heap.objs.size<=C)(hs:Heap.SameBut C s'.heap h''):Inv X pins σ H' { s' with heap:=h'' }:=by
 have ne:∀b o,s.heap.get? b=some o->b≠C:=λb o e=>Nat.ne_of_lt (Nat.lt_of_lt_of_le (Heap.lt_size e) hC);refine I.call' (s':={ s' with heap:=h'' }) (ch:=ex) J.os ⟨λb o e n hb hx=>?_,λb o e n hb hx=>?_,J.base.free,λb o e hx=>?_,J.base.tups,J.base.frzs,J.base.tbls⟩ ?_ J.bare λb hb=>⟨(hex b hb).2.2.2.1,(hex b hb).2.1,(hex b hb).2.2.2.2.1,(hex b hb).2.2.2.2.2⟩
 ·exact(hs.2 b (ne b o e)).trans (J.base.keep b o e n hb hx)
 ·obtain⟨sl,e1⟩:=J.base.slot b o e n hb hx
  exact⟨sl,(hs.2 b (ne b o e)).trans e1⟩
 ·obtain⟨o',e1⟩:=J.base.there b o e hx
  exact⟨o',(hs.2 b (ne b o e)).trans e1⟩
 ·exact a7p J.hok λb o u e q=>(hs.2 b (λz=>by
   have:=J.free;rw[show(b0u X N scope cl C s H ex pn').env.locals=C from rfl,<- z,e] at this;cases this)).trans q
theorem b5h{elt iter tg:Expr}{pos:Pos}{wi:TI}{g:TG}{te:TE}(hc:X.calm=true)(k:CompOk X N scope cl nt fr)(hi:PI X tg iter wi)(gk:d0h nt g)(hg:∀C s H ex pn',PG (b0u X N scope cl C s H ex pn') tg g)(he:∀C s H ex pn',PE (b0u X N scope cl C s H ex pn') elt te)(hs:∀x,foldedSetIterable iter X.env x=pure x:=by intro _;rfl):
  PE X (.ListComp elt [⟨tg,iter,[],0⟩] scope pos) (d9f wi nt fr g te):=by
 intro pins s σ H Q I h;rw[eval_ListComp];refine wpAny_comprehension_free (use:=none) rfl hs k.clos k.kind k.names (thn (hi pins s σ H _ I h) λxv s1 h1=>thn h1 λitv s2 h2=>?_);obtain⟨it,fp,tn,J,H2,rfl,I2,T,st2,f2,R2⟩:=h2;have hfD:H2 s2.heap.objs.size=none:=I2.fresh;fail "g";fail "c";have loop:∀s5:Shared,s5={ s2 with heap:=h4,toks:=s2.toks }->codeAny (model X.prog X.w) X.A (.compLoop (.ListComp elt [⟨tg,iter,[],0⟩] scope pos) 0 (.ref it) (.ref s2.heap.objs.size) (compEnvC scope cl C X.env))
   (compPost (model X.prog X.w) X.A X.xe none (EP X pins σ Q) (.ref s2.heap.objs.size) C) s5:=by
  rintro s5 rfl;refine codeAny_loop rfl (λm s'=>∃i acc H',m=n-i/\Inv ↑9 [] (v7 nt fr σ) H' s'/\tn i s'.heap/\(∀b∈fp,H' b=none)/\W i acc H') ?_ n ⟨0,[],_,rfl,I4,st4,λb hb=>(f3 b hb).1,w0⟩;rintro m s6 ⟨i,acc,H6,rfl,I6,st6,fr6,w6⟩;show wpAny _ _ ((compTurn (.ListComp elt [⟨tg,iter,[],0⟩] scope pos) 0 (.ref it) (.ref s2.heap.objs.size) (compEnvC scope cl C X.env)).onRaise (λx=>do noteFrame x (compEnvC scope cl C X.env);theTreesLotGoes x)) _ _ s6
  refine wpAny_noted ?_;rw[compTurn_list1];refine wpAny_bind (wpAny_standAt (wpAny_bind ?_));obtain⟨hD6,hz6,alt⟩:=turn i acc H6 w6;rcases alt with ⟨stop,qn⟩|⟨hin,go,step⟩
  ·refine wpAny_mono (T.done ↑9 rfl rfl rfl hc i [] s6 (v7 nt fr σ) H6 (λ_ _=>False) I6 (stat fr6) st6 stop) (λr s7 z0_=>?_) (λ_ _ z=>z.elim)
   obtain⟨hr,I7⟩:=z0_;subst hr;refine wpAny_pure ?_;obtain⟨m7,hn7,_⟩:=id I7.loc;exact⟨m7,hn7,λh8 hs8=>⟨.ref s2.heap.objs.size,H6,I3.blockEnd f3 I7 hC3 hs8,rfl,qn⟩⟩
  ·refine wpAny_mono (T.item ↑9 rfl rfl rfl hc i [] s6 (v7 nt fr σ) H6 (λ_ _=>False) I6 (stat fr6) st6 go) (λr s7 z0_=>?_) (λ_ _ z=>z.elim)
   obtain⟨u,hr,h7⟩:=z0_;subst hr;refine wpAny_bind (wpAny_mono h7 (λ_ s8 z0_=>?_) (λ_ _ z=>z.elim));obtain⟨x,H8,I8,r8,y8,st8,fr8⟩:=z0_;have I8':=I8.pinned (stat fr8) (T.obj _ _ st8);refine wpAny_bind (wpAny_mono (hg _ _ _ _ _ _ s8 _ H8 x u _ I8' r8 (gk _ _ _ _ (step x H8 y8))) (λ_ s9 z0_=>?_) (λ_ _ z=>z.elim));obtain⟨σ9,H9,I9,k9,q9⟩:=z0_;refine wpAny_bind (wpAny_bind (wpAny_mono (he _ _ _ _ _ _ s9 σ9 H9 _ I9 q9) (λv s10 z0_=>?_) (λ_ _ z=>z.elim)));fail "h"
 refine codeAny_compStart_list (loop _ rfl) (T.self _ 0 _ _ _ st4 (loop _ rfl))
end
end L2
namespace L2
open PySem PySem.Spec PyProof.Rows
structure FnT(P:Program)(w:World)(K:Frag)(mg:Str->Option Value)(base:Heap)(x:Str)(k:Nat)(ps:List Str)(sp:Sp):Prop where
 ex:∃(f:Addr)(fd:FuncData),FnOk P w K mg base (CXK P w) k f fd ps sp/\mg x=some (.ref f)/\keepIn K (.ref f)=true/\Binds K fd ps []
theorem Fun.okX{P:Program}{w:World}{K:Frag}{mg:Str->Option Value}{base:Heap}{x qual:Str}{st:Stmt}{f:Addr}{fd:FuncData}{N ps:List Str}{k:Nat}{sp:Sp}(F:Fun K x qual st f fd)(S:d9 N ps (d7 st))(len:∀vs H Q E,sp vs H Q E->vs.length=ps.length)(hbody:∀(cdv:Value) (A:Around) (outer:List Env) (s:Shared) (H:Hp) (vs:List V) (Q:VK) (E:XK),Room k (A.deeper (envOfC qual (d7 st) s.heap.objs.size f cdv))->sp vs H Q E ->
   ∃t,PSs (b6u (CXK P w) P w K mg base N qual (d7 st) f cdv A outer s H E) (a0f st) t/\t { nx:=λ_ H'=>Q .non H',rt:=Q } (start N vs) H):FnOk P w K mg base (CXK P w) (k+1) f fd ps sp:=by
 obtain⟨oc,od,kV,doc,pm,an,cdv,ct,osl,rfl,lk,hcd⟩:=F.ex;exact e6e lk hcd S len λA outer s H vs Q E hr hsp=>hbody cdv A outer s H vs Q E hr hsp
structure DefT(K:Frag)(mg:Str->Option Value)(x:Str)(st:Stmt)(ps:List Str):Prop where
 ex:∃(f:Addr)(fd:FuncData),Fun K x x st f fd/\mg x=some (.ref f)/\Binds K fd ps []
theorem DefT.fn{P:Program}{w:World}{K:Frag}{mg:Str->Option Value}{base:Heap}{x:Str}{st:Stmt}{N ps:List Str}{k:Nat}{sp:Sp}(D:DefT K mg x st ps)(S:d9 N ps (d7 st))(len:∀vs H Q E,sp vs H Q E->vs.length=ps.length)(hbody:∀(f:Addr) (cdv:Value) (A:Around) (outer:List Env) (s:Shared) (H:Hp) (vs:List V) (Q:VK) (E:XK),Room k (A.deeper (envOfC x (d7 st) s.heap.objs.size f cdv))->sp vs H Q E ->
   ∃t,PSs (b6u (CXK P w) P w K mg base N x (d7 st) f cdv A outer s H E) (a0f st) t/\t { nx:=λ_ H'=>Q .non H',rt:=Q } (start N vs) H):FnT P w K mg base x (k+1) ps sp:=by
 obtain⟨f,fd,F,hm,hb⟩:=D.ex;exact⟨f,fd,F.okX S len (hbody f),hm,F.kp,hb⟩
theorem DefT.mk'{K:Frag}{h:Heap}{mg:Str->Option Value}{x:Str}{st:Stmt}{ps:List Str}{f:Addr}{oc:Value}{od an:Option Addr}{osl:Array (Option Value)}{kV doc pm cdv ct:Value}(X:K.In h)(G:h.Ns mainGlobals mg)(a:nsIn K mainGlobals x=some (some (.ref f)))(l:K.lookup f=some ⟨oc,od,.func (PySem.W.fnOf x x (a1h st) (a0f st) (d7 st) .none kV doc pm an cdv ct),osl⟩)(c:codeIn K cdv x=true)(k:keepIn K (.ref f)=true)(hb:∀(kV doc pm:Value) (an:Option Addr) (cdv ct:Value) (us:List Value),us.length=ps.length->bindArgs (PySem.W.fnOf x x (a1h st) (a0f st) (d7 st) .none kV doc pm an cdv ct) ⟨us,[]⟩=pure (ps.zip us)):DefT K mg x st ps :=
 have F:=c9r (st:=st) (x:=x) (qual:=x) l c k
 ⟨_,_,F,mg_of X G a,F.binds hb⟩
def tFn(sp:Sp)(E:XK)(t:TA):TE:=λσ H Q=>t σ H λvs H1=>sp vs H1 Q E
section
variable{X:Cx}{k j:Nat}{ps:List Str}{sp:Sp}{E:XK}{J:St->XK}{x:Str}{p pos:Pos}{e:Expr}{es:List Expr}{t:TA}
theorem g9(G:FnT X.prog X.w X.K X.mg X.base x k ps sp)(hr:Room j X.A)(hj:k<=j)(hg:Gl X x)(hx:a4a (CXK X.prog X.w) X E)(ha:PA X (e::es) t)(hdb:(x == ("__debug__":Str))=false:=by decide)(he:starEach (e::es) X.env=(false,eval e X.env)::starEach es X.env:=by rfl)(hpl:(backTo pos (starEach es X.env)).any (·.1)=false:=by rfl):PE X (.Call (.Name x p) (e::es) [] pos) (tFn sp E t):=by
 obtain⟨f,fd,F,hm,hk,hb⟩:=G.ex;intro pins s σ H Q I h;refine d9r F (hr.mono hj) hg hm hk hb .nil hx ha hdb he hpl pins s σ H Q I ?_;show t σ H λvs H1=>sp (vs++[]) H1 Q E;simp only[List.append_nil];exact h
theorem d6p{N:List Str}{scope:Scope}{cl:List (Str×Addr)}{C:Addr}{s:Shared}{H:Hp}{ex:List Addr}{pn':List (Addr×Obj)}:a4a (CXK X.prog X.w) (b0u X N scope cl C s H ex pn') E0:=by
 intro pins σ H' s' e s'' I h;obtain⟨_,_,_,_,_,q⟩:=h;exact q.elim
end
structure ExT(K:Frag)(mg:Str->Option Value)(x:Str)(C:Addr):Prop where
 k:ExK K C
 m:mg x=some (.ref C)
section
variable{X:Cx}
theorem a9i{P:Program}{w:World}{K:Frag}{mg:Str->Option Value}{base:Heap}{N:List Str}{qual:Str}{scope:Scope}{f:Addr}{cd:Value}{A:Around}{outer:List Env}{s₀:Shared}{H₀:Hp}{E₀:XK}{C:Addr}:
  c8q (b6u (CXK P w) P w K mg base N qual scope f cd A outer s₀ H₀ E₀) C E₀:=λpins σ H s h' e vs I hx q=>c4q I hx q
theorem t4{x:Str}{n:Int}{pos:Pos}(hm:∃t,X.mg x=some (.int n t))(hg:Gl X x)(hd:(x == ("__debug__":Str))=false:=by decide):PE X (.Name x pos) (tC (.int n)):=by
 obtain⟨t,h⟩:=hm;exact b8g hg h ⟨t,rfl⟩ hd
theorem a9k{x:Str}{C:Addr}{pos:Pos}(T:ExT X.K X.mg x C)(hg:Gl X x)(hd:(x == ("__debug__":Str))=false:=by decide):PE X (.Name x pos) (tC (.ref C)):=b8g hg T.m rfl hd
theorem d8c{x:Str}{n:String}{pos:Pos}(hm:X.mg x=none)(hv:bootBuiltins x=some (.type n))(hg:Gl X x)(hn:x≠"__name__":=by decide)(hd:(x == ("__debug__":Str))=false:=by decide):PE X (.Name x pos) (tC (.ty n)):=d9s hg hm hv rfl hn hd
theorem a0p{x:Str}{C:Addr}{E:XK}{np cpos pos:Pos}{e₀:Expr}{rest:List Expr}{t:TA}(T:ExT X.K X.mg x C)(hc:X.calm=true)(hg:Gl X x)(hx:c8q X C E)(ha:PA X (e₀::rest) t)(hd:(x == ("__debug__":Str))=false:=by decide)(he:starEach (e₀::rest) X.env=(false,eval e₀ X.env)::starEach rest X.env:=by rfl)(hpl:(backTo cpos (starEach rest X.env)).any (·.1)=false:=by rfl):
  PS X (.Raise (some (.Call (.Name x np) (e₀::rest) [] cpos)) none pos) (c8x C E t):=d6m hc hg T.m T.k.ex hx ha hd he hpl
theorem d3e{o e:Expr}{to:TE}{t:TA}{apos cpos:Pos}(ho:PE X o to)(ha:PA X [e] t)(hbase:attributeBase o "append" X.env (eval o X.env)=eval o X.env:=by rfl)(hfew:((backTo cpos (starEach [e] X.env)).all (λx=>!x.1) && (backToKw cpos (keywordEach [] X.env)).all (λx=>x.1.isSome) && decide ([e].length+([]:List Keyword).length+(if ([]:List Keyword).isEmpty then 0 else 1)<30))=true:=by rfl)(hline:(apos.endLine == cpos.line)=true:=by rfl)(hs:starEach [e] X.env=(false,eval e X.env)::starEach [] X.env:=by rfl)(hplain:(backTo cpos (starEach [] X.env)).any (·.1)=false:=by rfl):
  PE X (.Call (.Attribute o "append" apos) [e] [] cpos) (tBM X.K "list" c1v to t) :=
 e2j PySem.F.plainAttrs_list PySem.F.slot_list_append PySem.F.type_list_append (λpins s σ H x xs v us Q I rx rs q=>b8o pins s σ H x xs v us Q I rx rs q) ho ha hbase hfew hline hs hplain
def e6k(_ j:Int):Prop:=0<j/\j.natAbs.log2<9000
theorem b3w:OpR X (binaryOp .FloorDiv) (rI e6k λi j=>.int (i / j)):=opI λi j _ _ _ _ _ hc q=>by
 have e:i / j=i.fdiv j:=(Int.fdiv_eq_ediv_of_nonneg i (Int.le_of_lt hc.1)).symm;rw[e] at q;exact floordiv_int (by have:=hc.1;lia) q (.inl (PyProof.noPylong_of_log2 hc.2))
theorem i4{K:Frag}(h:X.K=K:=by rfl):IxR X (e5c K):=h ▸ e0c
theorem e0b{K:Frag}(h:X.K=K:=by rfl):IxR X (e5b K):=h ▸ e2v
theorem c9d{K:Frag}(h:X.K=K:=by rfl):SlR X (e6w K):=h ▸ d9g
theorem e2m{K:Frag}(h:X.K=K:=by rfl):OpR X (compareOp .In) (rIn K false):=h ▸ d3i
theorem d3h{K:Frag}(h:X.K=K:=by rfl):OpR X (compareOp .NotIn) (rIn K true):=h ▸ c4x
def e7a(K:Frag)(n:Nat):R2:=λx y H Q=>∃p q b,x=.ref p/\y=.ref q/\EqD K H (n+1) x y b/\Q (.bl b) H
def e6x(K:Frag)(n:Nat):R2:=λx y H Q=>∃p q b,x=.ref p/\y=.ref q/\EqD K H (n+1) x y b/\Q (.bl (!b)) H
theorem e2n{K:Frag}{n:Nat}(hu:X.A.units+(n+1)<cLine)(h:X.K=K:=by rfl):OpR X (compareOp .Eq) (e7a K n):=h ▸ e2o hu
theorem b8i{K:Frag}{n:Nat}(hu:X.A.units+(n+1)<cLine)(h:X.K=K:=by rfl):OpR X (compareOp .NotEq) (e6x K n):=h ▸ e2k hu
def e6z(K:Frag):List V->Hp->VK->Prop:=λxs H Q=>∃x c t cv b,xs=[x,c]/\TyX K H x t/\d5n c=some cv/\kitOne K t cv=some b/\Q (.bl b) H
def e1z(K:Frag):List V->Hp->VK->Prop:=λxs H Q=>∃a C tp cs cvs b,xs=[.ref a,.ref tp]/\H a=some (c9x a (.ref C))/\ExK K C/\H tp=some (.tup cs)/\cs.map d5n=cvs.map some/\PySem.W.kitAny K (.ref C) cvs=some b/\Q (.bl b) H
def e6y(K:Frag):List V->Hp->VK->Prop:=λxs H Q=>∃p ys,xs=[.ref p]/\(SqL K H p ys\/SqT K H p ys)/\Q (.int ys.length) H
def d2r(K:Frag):List V->Hp->VK->Prop:=λxs H Q=>∃p ys,xs=[.ref p]/\(SqL K H p ys\/SqT K H p ys)/\∀l,H l=none->Q (.ref l) (upd H l (.lst ys))
theorem a9s{K:Frag}(h:X.K=K:=by rfl):a7z X (.builtin "isinstance") (e6z K):=h ▸ d7x
theorem b5t{K:Frag}(h:X.K=K:=by rfl):a7z X (.builtin "isinstance") (e1z K):=h ▸ d5c
theorem n5{K:Frag}(h:X.K=K:=by rfl):a7z X (.builtin "len") (e6y K):=h ▸ c6n
theorem b0j{K:Frag}(h:X.K=K:=by rfl):a7z X (.type "list") (d2r K):=h ▸ c6m
theorem a5l{K:Frag}{tg l:Expr}{tl:TE}(hl:PE X l tl)(h:X.K=K:=by rfl):PI X tg l (e0d K tl):=h ▸ d9n hl
theorem a3b{K:Frag}{o e:Expr}{to:TE}{t:TA}{apos cpos:Pos}(ho:PE X o to)(ha:PA X [e] t)(hK:X.K=K:=by rfl)(hbase:attributeBase o "append" X.env (eval o X.env)=eval o X.env:=by rfl)(hfew:((backTo cpos (starEach [e] X.env)).all (λx=>!x.1) && (backToKw cpos (keywordEach [] X.env)).all (λx=>x.1.isSome) && decide ([e].length+([]:List Keyword).length+(if ([]:List Keyword).isEmpty then 0 else 1)<30))=true:=by rfl)(hline:(apos.endLine == cpos.line)=true:=by rfl)(hs:starEach [e] X.env=(false,eval e X.env)::starEach [] X.env:=by rfl)(hplain:(backTo cpos (starEach [] X.env)).any (·.1)=false:=by rfl):
  PE X (.Call (.Attribute o "append" apos) [e] [] cpos) (tBM K "list" c1v to t):=hK ▸ d3e ho ha hbase hfew hline hs hplain
theorem b7b{N:List Str}{scope:Scope}{nt:Nat}(clos:closureFor scope X.env=pure [])(kind:scope.kind=.function)(cell:∀y∈scope.names,y.2≠.cell)(names:∀y∈scope.names,y.2=.local->scope.names.lookup y.1=some .local)(has:((relabel scope X.env).names.all λy=>!(y.2 == .cell || y.2 == .free) || (([]:List (Str×Addr)).lookup y.1).isSome)=true)(len:N.length=nt):CompOk X N scope [] nt [] :=
 ⟨clos,kind,cell,names,λp hp=>(nomatch hp),has,len,λj i h=>by simp at h⟩
end
theorem huN{k:Nat}{A:Around}(hr:Room k A)(n:Nat)(h:n<=100:=by decide):A.units+n<cLine:=by
 have:=hr.un;lia
theorem c6k{K:Frag}{a:Addr}{xs:List V}{f:V->V}{nt:Nat}{fr:List Nat}{g:TG}{te:TE}{σ:St}{H:Hp}{Q:Addr->Hp->Prop}(hs:SqL K H a xs)(hz:xs.length<sizeLine)(ha:∃o,H a=some o)(he:∀(i:Nat) (x:V) (H':Hp) (k:VK),xs[i]?=some x->Same H H'->k (f x) H'->g x (v7 nt fr σ) H' λσ2 H2=>te σ2 H2 k)(hq:∀D,H D=none->Q D (upd H D (.lst (xs.map f)))):
  ∀D,H D=none->∃(n:Nat)(W:Nat->List V->Hp->Prop),W 0 [] (upd H D (.lst []))/\∀i acc H',W i acc H'->H' D=some (.lst acc)/\acc.length<sizeLine /\
   (((Itl K a).stop i H'/\Q D H')\/(i<n/\(Itl K a).go i H'/\∀x H2,(Itl K a).yld i H' x H2->g x (v7 nt fr σ) H2 λσ2 H3=>te σ2 H3 λy H4=>H4 D=some (.lst acc)/\W (i+1) (acc++[y]) (upd H4 D (.lst (acc++[y]))))):=by
 intro D hD;have sm:∀o,Same H (upd H D o):=λo b u e=>by rw[d6 (g6 e hD)];exact e
 refine⟨xs.length,λi acc H'=>i<=xs.length/\acc=(xs.take i).map f/\H'=upd H D (.lst acc),⟨Nat.zero_le _,rfl,rfl⟩,?_⟩;rintro i acc H' ⟨hi,rfl,rfl⟩;have hl:((xs.take i).map f).length=i:=by rw[List.length_map,List.length_take];lia
 refine⟨b8,by lia,?_⟩
 by_cases h:i<xs.length
 ·refine .inr ⟨h,⟨xs,xs[i],(sm _).seq hs,List.getElem?_eq_getElem h⟩,?_⟩
  rintro x H2 ⟨rfl,hy⟩;have hx:=hy xs ((sm _).seq hs);refine he i x _ _ hx (sm _) ⟨b8,by lia,?_,by rw[c6v]⟩
  have e:xs.take (i+1)=xs.take i++[x]:=by
   rw[List.take_succ,hx];rfl
  rw[e,List.map_append]
  rfl
 ·have e:i=xs.length:=by lia
  subst e;refine .inl ⟨⟨xs,(sm _).seq hs,Nat.le_refl _⟩,?_⟩;rw[List.take_length];exact hq D hD
end L2
namespace L2
open PySem PySem.Spec PyProof.Rows
section
variable{X:Cx}{pins:List (Addr×Obj)}{σ:St}{H:Hp}{s:Shared}{N:List Str}{scope:Scope}{cl:List (Str×Addr)}{nt:Nat}{fr:List Nat}
theorem d0u{elt iter tg:Expr}{pos py spos:Pos}{y:Str}{ix:Nat}{wi:TI}{g:TG}{te:TE}(hc:X.calm=true)(k:CompOk X N scope cl nt fr)(hi:PI X tg iter wi)(gk:d0h nt g)(hg:∀C s H ex pn',PG (b0u X N scope cl C s H ex pn') tg g)(he:∀C s H ex pn',PE (b0u X N scope cl C s H ex pn') elt te)(hN:X.N.Nodup)(hi2:X.N[ix]?=some y)(hy:X.env.scope.names.lookup y=some .local)(hsw:swapsWith (.ListComp elt [⟨tg,iter,[],0⟩] scope pos) (some (.Name y py)) spos.line X.env=pure true:=by rfl)(hs:∀x,foldedSetIterable iter X.env x=pure x:=by intro _;rfl):
  PS X (.Assign [.Name y py] (.ListComp elt [⟨tg,iter,[],0⟩] scope pos) spos) (e4i (d9f wi nt fr g te) (c8j ix)):=by
 intro pins s σ H DD I h;rw[exec_Assign_Name_used _ _ _ _ hsw];refine wpAny_bind (wpAny_standAt (wpAny_bind ?_));show wpAny _ X.A (do let _ <- comprehension (.ListComp elt [⟨tg,iter,[],0⟩] scope pos) scope X.env _ (newList []) false (eval iter X.env) (some (assign (.Name y py) X.env))) _ _ s
 refine wpAny_bind (wpAny_mono (wpAny_comprehension_free (use:=some (assign (.Name y py) X.env)) (Q:=λ_ s'=>SP X pins DD .next s') rfl hs k.clos k.kind k.names (thn (hi pins s σ H _ I h) λxv s1 h1=>thn h1 λitv s2 h2=>?_)) (λ_ s' hq=>wpAny_pure (wpAny_pure hq)) λ_ _ e=>e);obtain⟨it,fp,tn,J,H2,rfl,I2,T,st2,f2,R2⟩:=h2;have hfD:H2 s2.heap.objs.size=none:=I2.fresh;fail "g";fail "c";have loop:∀s5:Shared,s5={ s2 with heap:=h4,toks:=s2.toks }->codeAny (model X.prog X.w) X.A (.compLoop (.ListComp elt [⟨tg,iter,[],0⟩] scope pos) 0 (.ref it) (.ref s2.heap.objs.size) (compEnvC scope cl C X.env))
   (compPost (model X.prog X.w) X.A X.xe (some (assign (.Name y py) X.env)) (λ_ s'=>SP X pins DD .next s') (.ref s2.heap.objs.size) C) s5:=by
  rintro s5 rfl;refine codeAny_loop rfl (λm s'=>∃i acc H',m=n-i/\Inv ↑9 [] (v7 nt fr σ) H' s'/\tn i s'.heap/\(∀b∈fp,H' b=none)/\W i acc H') ?_ n ⟨0,[],_,rfl,I4,st4,λb hb=>(f3 b hb).1,w0⟩;rintro m s6 ⟨i,acc,H6,rfl,I6,st6,fr6,w6⟩;show wpAny _ _ ((compTurn (.ListComp elt [⟨tg,iter,[],0⟩] scope pos) 0 (.ref it) (.ref s2.heap.objs.size) (compEnvC scope cl C X.env)).onRaise (λx=>do noteFrame x (compEnvC scope cl C X.env);theTreesLotGoes x)) _ _ s6
  refine wpAny_noted ?_;rw[compTurn_list1];refine wpAny_bind (wpAny_standAt (wpAny_bind ?_));obtain⟨hD6,hz6,alt⟩:=turn i acc H6 w6;rcases alt with ⟨stop,qn⟩|⟨hin,go,step⟩
  ·refine wpAny_mono (T.done ↑9 rfl rfl rfl hc i [] s6 (v7 nt fr σ) H6 (λ_ _=>False) I6 (stat fr6) st6 stop) (λr s7 z0_=>?_) (λ_ _ z=>z.elim)
   obtain⟨hr,I7⟩:=z0_;subst hr;refine wpAny_pure ?_;obtain⟨m7,hn7,_⟩:=id I7.loc;have I7x:Inv X pins σ H6 s7:=I3.blockEnd (h'':=s7.heap) f3 I7 hC3 (.refl ..);show wpAny _ X.A (assign (.Name y py) X.env (.ref s2.heap.objs.size)) _ _ _;refine wpAny_assign_Name (c3t (v:=.ref s2.heap.objs.size) I7x hN hi2 (Or.inl hy) rfl (λs8 I8 z0_=>?_) (Or.inr hy));obtain⟨a8,sb8,or8⟩:=z0_;have ne8:C≠a8:=λz=>by
    rcases or8 with q|q
    ·have hL:=I3.lt
     rw[<- q,<- z] at hL;exact absurd (Nat.lt_of_lt_of_le hL hC3) (Nat.lt_irrefl _)
    ·obtain⟨v8,q8⟩:=I3.cell _ _ q
     have hL:=q8.lt;rw[<- z] at hL;exact absurd (Nat.lt_of_lt_of_le hL hC3) (Nat.lt_irrefl _)
   refine⟨m7,hn7.sameBut sb8 ne8,λh9 hs9=>⟨_,H6,?_,qn⟩⟩;refine I8.turned (it:=C) (t':=s8.toks) (λb o hb e=>(hs9.2 b hb).trans e) I7.free (Nat.ne_of_gt (Nat.lt_of_lt_of_le I3.lt hC3)) (.inr (Nat.le_trans I3.sz hC3)) (λx c e z=>?_) (λp hp z=>?_)
   ·obtain⟨v8,q8⟩:=I3.cell x c e
    have hL:=q8.lt;rw[z] at hL;exact absurd (Nat.lt_of_lt_of_le hL hC3) (Nat.lt_irrefl _)
   ·have hL:=Heap.lt_size (I3.pin p hp).1
    rw[z] at hL;exact absurd (Nat.lt_of_lt_of_le hL hC3) (Nat.lt_irrefl _)
  ·refine wpAny_mono (T.item ↑9 rfl rfl rfl hc i [] s6 (v7 nt fr σ) H6 (λ_ _=>False) I6 (stat fr6) st6 go) (λr s7 z0_=>?_) (λ_ _ z=>z.elim)
   obtain⟨u,hr,h7⟩:=z0_;subst hr;refine wpAny_bind (wpAny_mono h7 (λ_ s8 z0_=>?_) (λ_ _ z=>z.elim));obtain⟨x,H8,I8,r8,y8,st8,fr8⟩:=z0_;have I8':=I8.pinned (stat fr8) (T.obj _ _ st8);refine wpAny_bind (wpAny_mono (hg _ _ _ _ _ _ s8 _ H8 x u _ I8' r8 (gk _ _ _ _ (step x H8 y8))) (λ_ s9 z0_=>?_) (λ_ _ z=>z.elim));obtain⟨σ9,H9,I9,k9,q9⟩:=z0_;refine wpAny_bind (wpAny_bind (wpAny_mono (he _ _ _ _ _ _ s9 σ9 H9 _ I9 q9) (λv s10 z0_=>?_) (λ_ _ z=>z.elim)));fail "h"
 refine codeAny_compStart_list (loop _ rfl) (T.self _ 0 _ _ _ st4 (loop _ rfl))
end
section
variable{X:Cx}
end
theorem d1w{n:Nat}{nt:Nat}{fr:List Nat}{g:TG}{te:TE}{σ:St}{H:Hp}{Q:Addr->Hp->Prop}(hz:n<sizeLine)(Pv:Addr->Nat->List V->Hp->Prop)(h0:∀D,H D=none->Pv D 0 [] (upd H D (.lst [])))(hk:∀D i acc H',Pv D i acc H'->H' D=some (.lst acc)/\acc.length=i)(hs:∀D i acc H',H D=none->i<n->Pv D i acc H'->g (.int (0+(i:Int))) (v7 nt fr σ) H' λσ2 H2=>te σ2 H2 λy H3=>H3 D=some (.lst acc)/\Pv D (i+1) (acc++[y]) (upd H3 D (.lst (acc++[y]))))(hd:∀D acc H',H D=none->Pv D n acc H'->Q D H'):
  ∀D,H D=none->∃(m:Nat)(W:Nat->List V->Hp->Prop),W 0 [] (upd H D (.lst []))/\∀i acc H',W i acc H'->H' D=some (.lst acc)/\acc.length<sizeLine /\
   (((Itr 0 n).stop i H'/\Q D H')\/(i<m/\(Itr 0 n).go i H'/\∀x H2,(Itr 0 n).yld i H' x H2->g x (v7 nt fr σ) H2 λσ2 H3=>te σ2 H3 λy H4=>H4 D=some (.lst acc)/\W (i+1) (acc++[y]) (upd H4 D (.lst (acc++[y]))))):=by
 intro D hD;refine⟨n,λi acc H'=>i<=n/\Pv D i acc H',⟨Nat.zero_le _,h0 D hD⟩,?_⟩;rintro i acc H' ⟨hi,p⟩;obtain⟨k1,k2⟩:=hk D i acc H' p;refine⟨k1,by lia,?_⟩
 by_cases h:i<n
 ·refine .inr ⟨h,h,?_⟩
  rintro x H2 ⟨rfl,rfl⟩;have key:=hs D i acc _ hD h p;have e:(λ(σ2:St) (H2:Hp)=>te σ2 H2 λy H3=>H3 D=some (.lst acc)/\Pv D (i+1) (acc++[y]) (upd H3 D (.lst (acc++[y]))))=(λ(σ2:St) (H3:Hp)=>te σ2 H3 λy H4=>H4 D=some (.lst acc)/\i+1<=n/\Pv D (i+1) (acc++[y]) (upd H4 D (.lst (acc++[y])))):=by
   funext σ2 H3;have:(λ(y:V) (H3:Hp)=>H3 D=some (.lst acc)/\Pv D (i+1) (acc++[y]) (upd H3 D (.lst (acc++[y]))))=(λ(y:V) (H4:Hp)=>H4 D=some (.lst acc)/\i+1<=n/\Pv D (i+1) (acc++[y]) (upd H4 D (.lst (acc++[y])))):=by
    funext y H4;have h1:i+1<=n:=h;simp[h1]
   rw[this]
  rw[e] at key;exact key
 ·have e:i=n:=by lia
  subst e;exact .inl ⟨Nat.le_refl _,hd D acc H' hD p⟩
theorem c3k{X:Cx}{N:List Str}{scope:Scope}{x:Str}{c:Addr}{nt i:Nat}(clos:closureFor scope X.env=pure [(x,c)])(kind:scope.kind=.function)(cell:∀y∈scope.names,y.2≠.cell)(names:∀y∈scope.names,y.2=.local->scope.names.lookup y.1=some .local)(sub:X.env.cells.lookup x=some c)(has:((relabel scope X.env).names.all λy=>!(y.2 == .cell || y.2 == .free) || ([(x,c)].lookup y.1).isSome)=true)(len:N.length=nt+1)(hN:N[nt]?=some x)(hX:X.N[i]?=some x)(hk:X.env.kindOf x=some .cell)(hr:(relabel scope X.env).names.lookup x=some .cell):CompOk X N scope [(x,c)] nt [i] :=
 ⟨clos,kind,cell,names,λp hp=>(by
  rw[List.mem_singleton] at hp;subst hp;exact sub),has,len,λj i' h=>(by
  cases j with
  | zero=>cases h;exact⟨x,hN,hX,.inl hk,.inl hr⟩
  | succ j=>cases h)⟩
end L2
namespace L2
open PySem PySem.Spec PyProof.Rows
section
variable{X:Cx}{pins:List (Addr×Obj)}{σ:St}{H:Hp}{s:Shared}{h':Heap}
end
section
variable{X:Cx}
theorem b8f{K:Frag}{es:List Expr}{k:Nat}{t:TGs}{n:Nat}{pos:Pos}(hc:X.calm=true)(h:PGs X es t)(hK:X.K=K:=by rfl)(hn:(assignEach es X.env).length=n:=by rfl)(hst:(assignEach es X.env).findIdx? (·.1)=none:=by rfl):PG X (.Tuple es k pos) (e6d K n t):=hK ▸ e2g hc h hn hst
theorem d7w{N:List Str}{scope:Scope}{x y:Str}{c d:Addr}{nt i j:Nat}(clos:closureFor scope X.env=pure [(x,c),(y,d)])(kind:scope.kind=.function)(cell:∀y∈scope.names,y.2≠.cell)(names:∀y∈scope.names,y.2=.local->scope.names.lookup y.1=some .local)(sub:X.env.cells.lookup x=some c)(sub2:X.env.cells.lookup y=some d)(has:((relabel scope X.env).names.all λz=>!(z.2 == .cell || z.2 == .free) || ([(x,c),(y,d)].lookup z.1).isSome)=true)(len:N.length=nt+2)(hN:N[nt]?=some x)(hN2:N[nt+1]?=some y)(hX:X.N[i]?=some x)(hX2:X.N[j]?=some y)(hk:X.env.kindOf x=some .cell)(hk2:X.env.kindOf y=some .cell)(hr:(relabel scope X.env).names.lookup x=some .cell)(hr2:(relabel scope X.env).names.lookup y=some .cell):CompOk X N scope [(x,c),(y,d)] nt [i,j] :=
 ⟨clos,kind,cell,names,λp hp=>(by
  simp only[List.mem_cons,List.not_mem_nil,or_false] at hp;rcases hp with rfl|rfl
  ·exact sub
  ·exact sub2),has,len,λm i' h=>(by
  match m,h with
  | 0,h=>cases h;exact⟨x,hN,hX,.inl hk,.inl hr⟩
  | 1,h=>cases h;exact⟨y,hN2,hX2,.inl hk2,.inl hr2⟩
  | m+2,h=>cases h)⟩
end
end L2
namespace L2
open PySem PySem.Spec PyProof.Rows
section
variable{X:Cx}{k j:Nat}{ps:List Str}{sp:Sp}{E:XK}{x:Str}{p pos:Pos}{e:Expr}{es:List Expr}{t:TA}
end
structure ExM(mg:Str->Option Value)(x:Str)(C:Addr):Prop where
 m:mg x=some (.ref C)
theorem b2l{X:Cx}{x:Str}{C:Addr}{pos:Pos}(T:ExM X.mg x C)(hg:Gl X x)(hd:(x == ("__debug__":Str))=false:=by decide):PE X (.Name x pos) (tC (.ref C)):=b8g hg T.m rfl hd
end L2
namespace L2
open PySem PySem.Spec PyProof.Rows
def d2j(wi:TI)(nt:Nat)(fr:List Nat)(g:TG)(tt:TT)(te:TE):TE:=λσ H Q=>wi σ H λJ H1=>∀D,H1 D=none->∃(n:Nat)(W:Nat->List V->Hp->Prop),W 0 [] (upd H1 D (.lst [])) /\
 ∀i acc H,W i acc H->H D=some (.lst acc)/\acc.length<sizeLine /\
  ((J.stop i H/\Q (.ref D) H)\/(i<n/\J.go i H/\∀x H',J.yld i H x H'->g x (v7 nt fr σ) H' λσ2 H2=>tt σ2 H2 λc H3=>if c=true then (te σ2 H3 λy H4=>H4 D=some (.lst acc)/\W (i+1) (acc++[y]) (upd H4 D (.lst (acc++[y])))) else W (i+1) acc H3))
section
variable{X:Cx}{pins:List (Addr×Obj)}{σ:St}{H:Hp}{s:Shared}{N:List Str}{scope:Scope}{cl:List (Str×Addr)}{nt:Nat}{fr:List Nat}
theorem d3c{elt iter tg ce:Expr}{pos:Pos}{wi:TI}{g:TG}{te:TE}{tt:TT}(hc:X.calm=true)(k:CompOk X N scope cl nt fr)(hi:PI X tg iter wi)(gk:d0h nt g)(hg:∀C s H ex pn',PG (b0u X N scope cl C s H ex pn') tg g)(ht:∀C s H ex pn',PT (b0u X N scope cl C s H ex pn') ce tt)(he:∀C s H ex pn',PE (b0u X N scope cl C s H ex pn') elt te)(hs:∀x,foldedSetIterable iter X.env x=pure x:=by intro _;rfl):
  PE X (.ListComp elt [⟨tg,iter,[ce],0⟩] scope pos) (d2j wi nt fr g tt te):=by
 intro pins s σ H Q I h;rw[eval_ListComp];refine wpAny_comprehension_free (use:=none) rfl hs k.clos k.kind k.names (thn (hi pins s σ H _ I h) λxv s1 h1=>thn h1 λitv s2 h2=>?_);obtain⟨it,fp,tn,J,H2,rfl,I2,T,st2,f2,R2⟩:=h2;have hfD:H2 s2.heap.objs.size=none:=I2.fresh;fail "g";fail "c";have loop:∀s5:Shared,s5={ s2 with heap:=h4,toks:=s2.toks }->codeAny (model X.prog X.w) X.A (.compLoop (.ListComp elt [⟨tg,iter,[ce],0⟩] scope pos) 0 (.ref it) (.ref s2.heap.objs.size) (compEnvC scope cl C X.env))
   (compPost (model X.prog X.w) X.A X.xe none (EP X pins σ Q) (.ref s2.heap.objs.size) C) s5:=by
  rintro s5 rfl;refine codeAny_loop rfl (λm s'=>∃i acc H',m=n-i/\Inv ↑9 [] (v7 nt fr σ) H' s'/\tn i s'.heap/\(∀b∈fp,H' b=none)/\W i acc H') ?_ n ⟨0,[],_,rfl,I4,st4,λb hb=>(f3 b hb).1,w0⟩;rintro m s6 ⟨i,acc,H6,rfl,I6,st6,fr6,w6⟩;show wpAny _ _ ((compTurn (.ListComp elt [⟨tg,iter,[ce],0⟩] scope pos) 0 (.ref it) (.ref s2.heap.objs.size) (compEnvC scope cl C X.env)).onRaise (λx=>do noteFrame x (compEnvC scope cl C X.env);theTreesLotGoes x)) _ _ s6
  refine wpAny_noted ?_;rw[compTurn_list];refine wpAny_bind (wpAny_standAt (wpAny_bind ?_));obtain⟨hD6,hz6,alt⟩:=turn i acc H6 w6;rcases alt with ⟨stop,qn⟩|⟨hin,go,step⟩
  ·refine wpAny_mono (T.done ↑9 rfl rfl rfl hc i [] s6 (v7 nt fr σ) H6 (λ_ _=>False) I6 (stat fr6) st6 stop) (λr s7 z0_=>?_) (λ_ _ z=>z.elim)
   obtain⟨hr,I7⟩:=z0_;subst hr;refine wpAny_pure ?_;obtain⟨m7,hn7,_⟩:=id I7.loc;exact⟨m7,hn7,λh8 hs8=>⟨.ref s2.heap.objs.size,H6,I3.blockEnd f3 I7 hC3 hs8,rfl,qn⟩⟩
  ·refine wpAny_mono (T.item ↑9 rfl rfl rfl hc i [] s6 (v7 nt fr σ) H6 (λ_ _=>False) I6 (stat fr6) st6 go) (λr s7 z0_=>?_) (λ_ _ z=>z.elim)
   obtain⟨u,hr,h7⟩:=z0_;subst hr;refine wpAny_bind (wpAny_mono h7 (λ_ s8 z0_=>?_) (λ_ _ z=>z.elim));obtain⟨x,H8,I8,r8,y8,st8,fr8⟩:=z0_;have I8':=I8.pinned (stat fr8) (T.obj _ _ st8);refine wpAny_bind (wpAny_mono (hg _ _ _ _ _ _ s8 _ H8 x u _ I8' r8 (gk _ _ _ _ (step x H8 y8))) (λ_ s9 z0_=>?_) (λ_ _ z=>z.elim));obtain⟨σ9,H9,I9,k9,q9⟩:=z0_;refine wpAny_bind (wpAny_mono (wpAny_tests_one (ht _ _ _ _ _ _ s9 σ9 H9 _ I9 q9)) (λok s12 z0_=>?_) (λ_ _ z=>z.elim));obtain⟨H12,I12,q12⟩:=z0_;have weak:∀{H11:Hp}{s11:Shared},Inv ↑9 ([]++c4t fp s8.heap) σ9 H11 s11->Inv (b0u X N scope cl C { s2 with heap:=s2.heap.push { cls:=.type "list",data:=.seq ([]:List Value).toArray } } (upd H2 s2.heap.objs.size (.lst [])) fp (X.pn++pins)) [] (v7 nt fr σ) H11 s11/\tn (i+1) s11.heap/\∀b∈fp,H11 b=none:=λ{H11 s11} I11=>by
    refine⟨(I11.unpinned (pins:=[])).weak ?_ λj v' e=>?_,?_,λb hb=>?_⟩
    ·rw[I11.len,<- I4.len]
    ·by_cases hj:nt<=j
     ·rw[k9 j hj];exact e
     ·unfold v7 at e
      rw[List.getElem?_append_left (by rw[List.length_replicate];lia),List.getElem?_replicate] at e
      split at e <;> cases e
    ·exact T.keep _ _ _ st8 λb hb o e=>(I11.pin (b,o) (List.mem_append_right _ (List.mem_append_right _ (a4i hb e)))).1
    ·obtain⟨o,e,d⟩:=T.obj _ _ st8 b hb
     exact(I11.pin (b,o) (List.mem_append_right _ (List.mem_append_right _ (a4i hb e)))).2.1
   cases ok with
   | false=>
    rw[if_neg Bool.false_ne_true] at q12;obtain⟨z1,z2,z3⟩:=weak I12;exact wpAny_pure ⟨rfl,n-(i+1),by lia,i+1,acc,_,rfl,z1,z2,z3,q12⟩
   | true=>
    rw[if_pos rfl] at q12;refine wpAny_bind (wpAny_bind (wpAny_mono (he _ _ _ _ _ _ s12 σ9 H12 _ I12 q12) (λv s10 z0_=>?_) (λ_ _ z=>z.elim)));obtain⟨y,H10,I10,r10,hD10,q10⟩:=z0_;refine wpAny_bind (wpAny_mono (b8o (X:=b0u X N scope cl C { s2 with heap:=s2.heap.push { cls:=.type "list",data:=.seq ([]:List Value).toArray } } (upd H2 s2.heap.objs.size (.lst [])) fp (X.pn++pins)) _ s10 σ9 H10 (.ref s2.heap.objs.size) [y] (.ref s2.heap.objs.size) [v] (λv' H'=>v'=.non/\H'=upd H10 s2.heap.objs.size (.lst (acc++[y]))) I10 rfl (.cons r10 .nil) ⟨_,acc,y,rfl,rfl,hD10,hz6,rfl,rfl⟩) (λv' s11 z0_=>?_) (λ_ _ z=>z.elim))
    obtain⟨_,H11,I11,_,_,e11⟩:=z0_;subst e11;obtain⟨z1,z2,z3⟩:=weak I11;exact wpAny_pure (wpAny_pure ⟨rfl,n-(i+1),by lia,i+1,acc++[y],_,rfl,z1,z2,z3,q10⟩)
 refine codeAny_compStart_list (loop _ rfl) (T.self _ 0 _ _ _ st4 (loop _ rfl))
end
end L2
namespace L2
open PySem PySem.Spec PyProof.Rows SeqAt
def e0w(s:Stmt):List Stmt:=match s with
 | .ClassDef _ _ _ b ..=>b
 | _=>[]
def j4(s:Stmt)(j:Nat):Stmt:=(e0w s).getD j (.Pass ⟨0,0,0,0⟩)
structure MethT(P:Program)(w:World)(K:Frag)(mg:Str->Option Value)(base:Heap)(C:Addr)(m:Str)(k:Nat)(ps:List Str)(sp:Sp):Prop where
 ex:∃(f:Addr)(fd:FuncData),FnOk P w K mg base (CXK P w) k f fd ps sp/\e4f K C m f/\Binds K fd ps []
structure DefM(K:Frag)(C:Addr)(m qual:Str)(st:Stmt)(ps:List Str):Prop where
 ex:∃(f:Addr)(fd:FuncData),Fun K m qual st f fd/\e4f K C m f/\Binds K fd ps []
theorem DefM.fn{P:Program}{w:World}{K:Frag}{mg:Str->Option Value}{base:Heap}{C:Addr}{m qual:Str}{st:Stmt}{N ps:List Str}{k:Nat}{sp:Sp}(D:DefM K C m qual st ps)(S:d9 N ps (d7 st))(len:∀vs H Q E,sp vs H Q E->vs.length=ps.length)(hbody:∀(f:Addr) (cdv:Value) (A:Around) (outer:List Env) (s:Shared) (H:Hp) (vs:List V) (Q:VK) (E:XK),Room k (A.deeper (envOfC qual (d7 st) s.heap.objs.size f cdv))->sp vs H Q E ->
   ∃t,PSs (b6u (CXK P w) P w K mg base N qual (d7 st) f cdv A outer s H E) (a0f st) t/\t { nx:=λ_ H'=>Q .non H',rt:=Q } (start N vs) H):MethT P w K mg base C m (k+1) ps sp:=by
 obtain⟨f,fd,F,hm,hb⟩:=D.ex;exact⟨f,fd,F.okX S len (hbody f),hm,hb⟩
theorem DefM.mk'{K:Frag}{C:Addr}{m qual:Str}{st:Stmt}{ps:List Str}{f:Addr}{oc:Value}{od an:Option Addr}{osl:Array (Option Value)}{kV doc pm cdv ct:Value}(a:findIn K (.ref C) m=some (some (.ref f)))(i:isFn K (.ref f)=true)(l:K.lookup f=some ⟨oc,od,.func (PySem.W.fnOf m qual (a1h st) (a0f st) (d7 st) .none kV doc pm an cdv ct),osl⟩)(c:codeIn K cdv qual=true)(k:keepIn K (.ref f)=true)(hb:∀(kV doc pm:Value) (an:Option Addr) (cdv ct:Value) (us:List Value),us.length=ps.length->bindArgs (PySem.W.fnOf m qual (a1h st) (a0f st) (d7 st) .none kV doc pm an cdv ct) ⟨us,[]⟩=pure (ps.zip us)):DefM K C m qual st ps :=
 have F:=c9r (st:=st) (x:=m) (qual:=qual) l c k
 ⟨_,_,F,⟨a,i,k⟩,F.binds hb⟩
structure MakeT(P:Program)(w:World)(K:Frag)(mg:Str->Option Value)(base:Heap)(x:Str)(C:Addr)(k:Nat)(ps:List Str)(sp:Sp):Prop where
 ex:∃(f:Addr)(fd:FuncData),FnOk P w K mg base (CXK P w) k f fd ps sp/\Mk K C f/\mg x=some (.ref C)/\Binds K fd ps []
theorem MethT.make{P:Program}{w:World}{K:Frag}{mg:Str->Option Value}{base:Heap}{x:Str}{C:Addr}{k:Nat}{ps:List Str}{sp:Sp}(M:MethT P w K mg base C "__init__" k ps sp)(mk:makesIn K C=true)(kp:keepIn K (.ref C)=true)(hm:mg x=some (.ref C)):
  MakeT P w K mg base x C k ps sp:=by
 obtain⟨f,fd,F,hM,hb⟩:=M.ex;exact⟨f,fd,F,⟨mk,hM.at_,hM.fn,kp⟩,hm,hb⟩
def tMt(C:Addr)(m:Str)(sp:Sp)(E:XK)(ta:TE)(t:TA):TE:=λσ H Q=>ta σ H λx H1=>∃a dx fs,x=.ref a/\H1 a=some (.ins C dx fs)/\fs.lookup m=none/\t σ H1 λvs H2=>sp (x::vs) H2 Q E
def e6s(C:Addr)(m:Str)(sp:Sp)(J:St->XK)(ta:TE)(t:TA):TE:=λσ H Q=>ta σ H λx H1=>∃a dx fs,x=.ref a/\H1 a=some (.ins C dx fs)/\fs.lookup m=none/\t σ H1 λvs H2=>sp (x::vs) H2 Q (J σ)
def tMk(C:Addr)(sp:Sp)(E:XK)(t:TA):TE:=λσ H Q=>t σ H λvs H1=>∀x dx,H1 x=none->H1 dx=none->dx≠x ->
 sp (.ref x::vs) (upd (upd H1 dx (.own x)) x (.ins C dx [])) (λv H2=>v=.non/\Q (.ref x) H2) E
section
variable{X:Cx}{k j:Nat}{C:Addr}{ps:List Str}{sp:Sp}{E:XK}{J:St->XK}{x m:Str}{p pos apos:Pos}{e o:Expr}{es:List Expr}{ta:TE}{t:TA}{pl:Sem Bool}
theorem a1e(he:PE X o ta)(c:Cls X.K C)(G:MethT X.prog X.w X.K X.mg X.base C m k ps sp)(hr:Room j X.A)(hj:k<=j)(hx:a4a (CXK X.prog X.w) X E)(ha:PA X (e::es) t)(hst:starEach (e::es) X.env=(false,eval e X.env)::starEach es X.env:=by rfl)(hpl:(backTo pos (starEach es X.env)).any (·.1)=false:=by rfl)(ht:eval (.Call (.Attribute o m apos) (e::es) [] pos) X.env=(do
   let ov <- eval o X.env
   standAt apos.atName
   let (f,first) <- holding [ov] (getMethod ov m pl)
   callWith pos f first (backTo pos (starEach (e::es) X.env)) (backToKw pos (keywordEach [] X.env))):=by rfl):
  PE X (.Call (.Attribute o m apos) (e::es) [] pos) (tMt C m sp E ta t):=by
 obtain⟨f,fd,F,hm,hb⟩:=G.ex;intro pins s σ H Q I h;refine d9p (ds:=[]) (dvs:=[]) he c hm F (hr.mono hj) hb .nil hx ha hst hpl ht pins s σ H Q I ?_;show ta σ H λx H1=>∃a dx fs,x=.ref a/\H1 a=some (.ins C dx fs)/\fs.lookup m=none/\t σ H1 λvs H2=>sp (x::(vs++[])) H2 Q E;simp only[List.append_nil];exact h
theorem a2k(he:PE X o ta)(c:Cls X.K C)(G:MethT X.prog X.w X.K X.mg X.base C m k ps sp)(hr:Room j X.A)(hj:k<=j)(hx:a4a (CXK X.prog X.w) X E)(ht:eval (.Call (.Attribute o m apos) [] [] pos) X.env=(do
   let ov <- eval o X.env
   standAt apos.atName
   let (f,first) <- holding [ov] (getMethod ov m pl)
   callWith pos f first (backTo pos (starEach [] X.env)) (backToKw pos (keywordEach [] X.env))):=by rfl):
  PE X (.Call (.Attribute o m apos) [] [] pos) (tMt C m sp E ta e1c):=by
 obtain⟨f,fd,F,hm,hb⟩:=G.ex;exact d6n (ds:=[]) (dvs:=[]) he c hm F (hr.mono hj) hb .nil hx ht
theorem e4y{f:Addr}{fd:FuncData}{pins:List (Addr×Obj)}{σ:St}{H:Hp}{s:Shared}{Q:VK}{us:List Value}{vs:List V}(F:FnOk X.prog X.w X.K X.mg X.base (CXK X.prog X.w) k f fd ps sp)(hr:Room k X.A)(hb:Binds X.K fd ps [])(hx:c3n X J)(I:Inv X pins σ H s)(r:Vals vs us)(h:sp vs H Q (J σ)):wpAny (model X.prog X.w) X.A (call (.ref f) us) (EP X pins σ Q) X.xe s:=by
 have hl:us.length=ps.length:=by rw[<- r.length];exact F.len _ _ _ _ h
 have hbd:=hb s us I.kIn (by rw[List.append_nil];exact hl)
 rw[List.append_nil] at hbd;refine wpAny_call (codeAny_mono (F.run X.A X.stack s H ⟨us,[]⟩ us vs Q (J σ) hr I.env0 hbd r h) λr' s' hq=>?_);cases r' with
 | error e=>exact hx pins σ H s e s' I hq
 | ok fl=>
  cases fl with
  | ret u=>exact I.after hq
  | next=>exact False.elim hq
  | brk=>exact False.elim hq
  | cont=>exact False.elim hq
theorem c4v(he:PE X o ta)(c:Cls X.K C)(G:MethT X.prog X.w X.K X.mg X.base C m k ps sp)(hr:Room j X.A)(hj:k<=j)(hx:c3n X J)(ha:PA X (e::es) t)(hst:starEach (e::es) X.env=(false,eval e X.env)::starEach es X.env:=by rfl)(hpl:(backTo pos (starEach es X.env)).any (·.1)=false:=by rfl)(ht:eval (.Call (.Attribute o m apos) (e::es) [] pos) X.env=(do
   let ov <- eval o X.env
   standAt apos.atName
   let (f,first) <- holding [ov] (getMethod ov m pl)
   callWith pos f first (backTo pos (starEach (e::es) X.env)) (backToKw pos (keywordEach [] X.env))):=by rfl):
  PE X (.Call (.Attribute o m apos) (e::es) [] pos) (e6s C m sp J ta t):=by
 obtain⟨f,fd,F,hm,hb⟩:=G.ex;intro pins s σ H Q I h;refine PySem.W.methodCall_KW (pl:=pl) (thn (he pins s σ H _ I h) λu s1 z0_=>?_) ht;obtain⟨x,H1,I1,rx,a,dx,fs,ex,ea,l,q⟩:=z0_;subst ex;obtain rfl:u=Value.ref a:=rx;refine a6s I1 ea c hm l ?_;refine callWith_K (first:=[.ref a]) (h₀:=X.base) I.ok.mod.kin hm.kp (thn (ha pos pins s1 σ H1 _ I1 q) λus s2 z0_=>?_) hst hpl
 obtain⟨vs,H2,I2,r,q2⟩:=z0_;refine⟨I2.kIn,?_⟩;exact e4y (us:=.ref a::us) (vs:=.ref a::vs) F (hr.mono hj) hb hx I2 (.cons rfl r) q2
theorem d0x(G:MakeT X.prog X.w X.K X.mg X.base x C k ps sp)(hr:Room j X.A)(hj:k+1<=j)(hg:Gl X x)(hx:a4a (CXK X.prog X.w) X E)(ha:PA X (e::es) t)(hdb:(x == ("__debug__":Str))=false:=by decide)(he:starEach (e::es) X.env=(false,eval e X.env)::starEach es X.env:=by rfl)(hpl:(backTo pos (starEach es X.env)).any (·.1)=false:=by rfl):PE X (.Call (.Name x p) (e::es) [] pos) (tMk C sp E t):=by
 obtain⟨f,fd,F,M,hm,hb⟩:=G.ex;intro pins s σ H Q I h;refine d9q (ds:=[]) (dvs:=[]) M F (hr.mono hj) hg hm hb .nil hx ha hdb he hpl pins s σ H Q I ?_;show t σ H λvs H1=>∀x dx,H1 x=none->H1 dx=none->dx≠x->sp (.ref x::(vs++[])) (upd (upd H1 dx (.own x)) x (.ins C dx [])) (λv H2=>v=.non/\Q (.ref x) H2) E;simp only[List.append_nil];exact h
end
section
variable{X:Cx}{o e value:Expr}{f:Str}{pos pos' tpos:Pos}{ta tv:TE}
theorem v5{K:Frag}(he:PE X e ta)(hK:X.K=K:=by rfl)(hb:attributeBase e f X.env (eval e X.env)=eval e X.env:=by rfl):PE X (.Attribute e f pos) (e4v K ta f):=hK ▸ e2i he hb
theorem j1{K:Frag}(ha:PE X o ta)(hv:PE X value tv)(hK:X.K=K:=by rfl)(hs:swapsWith value (some (.Attribute o f pos')) pos.line X.env=pure false:=by rfl):PS X (.Assign [.Attribute o f pos'] value pos) (e4x K ta tv f):=hK ▸ e2c ha hv hs
theorem d0v{K:Frag}{op:Operator}{rd:V->V->Hp->VK->Prop}(ha:PE X o ta)(hv:PE X value tv)(hop:e6j X op rd)(hK:X.K=K:=by rfl):PS X (.AugAssign (.Attribute o f tpos) op value pos) (c7i K ta tv rd f):=hK ▸ d2v ha hv hop
end
def KTup(K:Frag)(p:Addr)(xs:List V):Prop:=∃(its:Array Value)(n:Nat)(sl:Array (Option Value)),K.lookup p=some ⟨.type "tuple",none,.seq its n,sl⟩/\its.size<=sizeLine/\Vals xs its.toList
theorem KTup.sq{K:Frag}{p:Addr}{xs:List V}{H:Hp}(h:KTup K p xs):SqT K H p xs:=by obtain⟨its,n,sl,a,b,c⟩:=h;exact .inr ⟨_,its,n,a,rfl,rfl,b,c⟩
theorem KTup.ty{K:Frag}{p:Addr}{xs:List V}{H:Hp}(h:KTup K p xs):tyV K "tuple" (.ref p) H:=by obtain⟨_,_,_,a,_,_⟩:=h;exact .inr (.inl ⟨rfl,_,a,rfl,rfl⟩)
theorem a1w{X:Cx}{x:Str}{a:Addr}{pos:Pos}(hm:X.mg x=some (.ref a))(hg:Gl X x)(hd:(x == ("__debug__":Str))=false:=by decide):PE X (.Name x pos) (tC (.ref a)):=b8g hg hm rfl hd
theorem c3q(l:Addr)(a b:Value)(n:Nat)(dd:Option Addr)(sl:Array (Option Value))(x:Value)(e:Value->Bool)(j:Nat)(hj:j=if e a then 0 else 1)(hit:e a=true\/e b=true):
  Meets (Builtin.«tuple.index» ⟨[.ref l,x],[]⟩)
   (λA R s=>s.heap.get? l=some { cls:=.type "tuple",dict:=dd,data:=.seq #[a,b] n,slots:=sl }/\(∀y,y ∈ #[a,b]->EqAt A.in1 s y x (e y))/\R (.ok (.ret (.int j s.toks))) { s with toks:=s.toks+1 }):=by
 intro prog w A R s h;obtain⟨hp,g,d,tk,os⟩:=s;obtain⟨hl,he,h⟩:=h;unfold Builtin.«tuple.index»;simp only[Std.Legacy.Range.forIn_eq_forIn_range']
 wp_walk using wpAny_loadPart' hl
 have e0:[:min #[a,b].size #[a,b].size].size=2:=by simp[Std.Legacy.Range.size]
 generalize hL:[:min #[a,b].size #[a,b].size].size=N at e0 ⊢;subst e0;change wpAny (model prog w) A.in1 (List.forIn'.loop [0,1] _ [0,1] (none,()) _) _ _ _;change wpAny (model prog w) A.in1 ((eqBool a x >>= _) >>= _) _ _ _;refine wpAny_bind ?_;refine wpAny_bind (he a (by simp) prog w _ _ ?_)
 cases ea:e a with
 | true=>
  rw[ea] at hj;subst hj
  wp_walk
  exact h
 | false=>
  rw[ea] at hj;subst hj;refine wpAny_pure ?_;change wpAny (model prog w) A.in1 ((eqBool b x >>= _) >>= _) _ _ _;refine wpAny_bind ?_;refine wpAny_bind (he b (by simp) prog w _ _ ?_)
  rw[hit.resolve_left (by rw[ea];exact Bool.false_ne_true)]
  wp_walk
  exact h
def d2s(K:Frag):V->List V->Hp->VK->Prop:=λx vs H Q=>∃p y z1 z2,x=.ref p/\vs=[y]/\KTup K p [z1,z2]/\a4h z1=true/\a4h z2=true/\a4h y=true/\(eqV z1 y=true\/eqV z2 y=true)/\Q (.int (if eqV z1 y then 0 else 1)) H
section
variable{X:Cx}
theorem d3o:MtM X "tuple.index" (d2s X.K):=by
 intro pins s σ H x vs v us Q I rx rv h;obtain⟨p,y,z1,z2,rfl,rfl,⟨its,n,sl,lk,hz,r⟩,f1,f2,fy,hit,q⟩:=h;cases rx;obtain⟨u,rfl,ru⟩:=rv.one;obtain⟨u1,u2,eu,r1,r2⟩:=r.two;have hi:its=#[u1,u2]:=by apply Array.toList_inj.mp;rw[eu]
 subst hi;have e:=I.kIn _ _ lk;have fx:([z1,z2]:List V).all a4h=true:=by simp[f1,f2]
 have h1:eqU y u1=eqV z1 y:=d0a r1 f1;have h2:eqU y u2=eqV z2 y:=d0a r2 f2;refine call_meets F.slot_tuple_index ⟨_,e,rfl⟩ F.entry_tuple_index (F.args_tuple_index_2 _ _) (c3q p u1 u2 n none sl u (eqU y) (if eqU y u1 then 0 else 1) rfl (by rw[h1,h2];exact hit)) ⟨e,λw hw=>b0e ru fy r fx w (by simpa using hw),?_⟩
 rw[h1];refine⟨.int (if eqV z1 y then 0 else 1),H,I.tok _,?_,q⟩;by_cases c:eqV z1 y=true
 ·rw[if_pos c,if_pos c];exact⟨_,rfl⟩
 ·rw[if_neg c,if_neg c];exact⟨_,rfl⟩
theorem d0y{K:Frag}{o e:Expr}{to:TE}{t:TA}{apos cpos:Pos}(ho:PE X o to)(ha:PA X [e] t)(hK:X.K=K:=by rfl)(hbase:attributeBase o "index" X.env (eval o X.env)=eval o X.env:=by rfl)(hfew:((backTo cpos (starEach [e] X.env)).all (λx=>!x.1) && (backToKw cpos (keywordEach [] X.env)).all (λx=>x.1.isSome) && decide ([e].length+([]:List Keyword).length+(if ([]:List Keyword).isEmpty then 0 else 1)<30))=true:=by rfl)(hline:(apos.endLine == cpos.line)=true:=by rfl)(hs:starEach [e] X.env=(false,eval e X.env)::starEach [] X.env:=by rfl)(hplain:(backTo cpos (starEach [] X.env)).any (·.1)=false:=by rfl):
  PE X (.Call (.Attribute o "index" apos) [e] [] cpos) (tBM K "tuple" (d2s K) to t) :=
 hK ▸ e2j PySem.F.plainAttrs_tuple PySem.F.slot_tuple_index PySem.F.type_tuple_index (λpins s σ H x xs v us Q I rx rs q=>d3o pins s σ H x xs v us Q I rx rs q) ho ha hbase hfew hline hs hplain
end
end L2
namespace L2
open PySem PySem.Spec PyProof.Rows
section
variable{K:Frag}{σ:St}{H:Hp}{Q:VK}{i:Nat}{v x y:V}{r:R2}{ta tb:TE}{nx bk ct:St->Hp->Prop}{rt:VK}{E:XK}{C:Addr}{m:Str}{sp:Sp}{t:TA}{J:St->XK}
theorem e5j(h:σ[i]?=some (some v))(q:Q v H):e1k i σ H Q:=⟨v,h,q⟩
theorem g_c(q:Q v H):tC v σ H Q:=q
theorem e7w(q:ta σ H λx H1=>tb σ H1 λy H2=>r x y H2 Q):tOp r ta tb σ H Q:=q
theorem e7s{r:V->Hp->VK->Prop}(q:ta σ H λx H1=>r x H1 Q):tUn r ta σ H Q:=q
theorem e8f{g:Int->Int->V}{a b:Int}(q:Q (g a b) H):rI0 g (.int a) (.int b) H Q:=⟨a,b,rfl,rfl,q⟩
theorem g_I{c:Int->Int->Prop}{g:Int->Int->V}{a b:Int}(h:c a b)(q:Q (g a b) H):rI c g (.int a) (.int b) H Q:=⟨a,b,rfl,rfl,h,q⟩
theorem g_U{g:Int->V}{a:Int}(q:Q (g a) H):rU g (.int a) H Q:=⟨a,rfl,q⟩
theorem e7e(h:e4k x y=true)(q:Q (.bl (decide (x=y))) H):rEq x y H Q:=⟨h,q⟩
theorem e7x(h:e4k x y=true)(q:Q (.bl (!decide (x=y))) H):rNe x y H Q:=⟨h,q⟩
theorem e5z{n:Nat}{p q:Addr}{b:Bool}(h:EqD K H (n+1) (.ref p) (.ref q) b)(z:Q (.bl b) H):e7a K n (.ref p) (.ref q) H Q:=⟨p,q,b,rfl,rfl,h,z⟩
theorem c6e{n:Nat}{p q:Addr}{b:Bool}(h:EqD K H (n+1) (.ref p) (.ref q) b)(z:Q (.bl (!b)) H):e6x K n (.ref p) (.ref q) H Q:=⟨p,q,b,rfl,rfl,h,z⟩
theorem a3d{p:Addr}{xs:List V}{j:Int}(h:H p=some (.lst xs))(e:atI xs j=some v)(q:Q v H):e5c K (.ref p) (.int j) H Q:=⟨p,xs,j,v,rfl,rfl,SqL.of h,e,q⟩
theorem e5v{p:Addr}{xs:List V}{j:Int}(h:H p=some (.tup xs))(e:atI xs j=some v)(q:Q v H):e5b K (.ref p) (.int j) H Q:=⟨p,xs,j,v,rfl,rfl,SqT.of h,e,q⟩
theorem e5u{p:Addr}{xs:List V}(h:H p=some (.lst xs))(q:Q (.int xs.length) H):e6y K [.ref p] H Q:=⟨p,xs,rfl,.inl (SqL.of h),q⟩
theorem e3n{p:Addr}{xs:List V}(h:H p=some (.lst xs))(q:∀l,H l=none->Q (.ref l) (upd H l (.lst xs))):d2r K [.ref p] H Q:=⟨p,xs,rfl,.inl (SqL.of h),q⟩
theorem e8c{r:List V->Hp->VK->Prop}(q:t σ H λvs H1=>r vs H1 Q):tCB r t σ H Q:=q
theorem e5q{Q:List V->Hp->Prop}(q:Q [] H):e1c σ H Q:=q
theorem e3t{Q:List V->Hp->Prop}(q:ta σ H λx H1=>t σ H1 λxs H2=>Q (x::xs) H2):d9e ta t σ H Q:=q
theorem e5l(q:t σ H λxs H1=>xs.length<=sizeLine/\∀p,H1 p=none->Q (.ref p) (upd H1 p (.tup xs))):e6n t σ H Q:=q
theorem e5t(q:t σ H λxs H1=>xs.length<=sizeLine/\∀p,H1 p=none->Q (.ref p) (upd H1 p (.lst xs))):e6t t σ H Q:=q
theorem e8b(q:t σ H λvs H1=>sp vs H1 Q E):tFn sp E t σ H Q:=q
theorem e5y{f:Str}(q:ta σ H λx H1=>∃a C dx fs v,x=.ref a/\H1 a=some (.ins C dx fs)/\Cls K C/\NoAttr K C f/\fs.lookup f=some v/\Q v H1):e4v K ta f σ H Q:=q
theorem e3p{f:Str}{a dx:Addr}{fs:List (Str×V)}{R:V->Prop}(h:H a=some (.ins C dx fs))(c:Cls K C)(n:NoAttr K C f)(l:fs.lookup f=some v)(q:R v):
  ∃a' C dx fs v,V.ref a=.ref a'/\H a'=some (.ins C dx fs)/\Cls K C/\NoAttr K C f/\fs.lookup f=some v/\R v:=⟨a,C,dx,fs,v,rfl,h,c,n,l,q⟩
theorem e7y(q:ta σ H λx H1=>∃a dx fs,x=.ref a/\H1 a=some (.ins C dx fs)/\fs.lookup m=none/\t σ H1 λvs H2=>sp (x::vs) H2 Q E):tMt C m sp E ta t σ H Q:=q
theorem e5r(q:ta σ H λx H1=>∃a dx fs,x=.ref a/\H1 a=some (.ins C dx fs)/\fs.lookup m=none/\t σ H1 λvs H2=>sp (x::vs) H2 Q (J σ)):e6s C m sp J ta t σ H Q:=q
theorem e5s{a dx:Addr}{fs:List (Str×V)}{R:Prop}(h:H a=some (.ins C dx fs))(l:fs.lookup m=none)(q:R):∃a' dx fs,V.ref a=.ref a'/\H a'=some (.ins C dx fs)/\fs.lookup m=none/\R:=⟨a,dx,fs,rfl,h,l,q⟩
theorem e7z(q:t σ H λvs H1=>∀x dx,H1 x=none->H1 dx=none->dx≠x->sp (.ref x::vs) (upd (upd H1 dx (.own x)) x (.ins C dx [])) (λv H2=>v=.non/\Q (.ref x) H2) E):tMk C sp E t σ H Q:=q
theorem e3c{Q:Bool->Hp->Prop}(q:ta σ H λx H'=>∃k,x=.bl k/\Q k H'):d6d ta σ H Q:=q
theorem e7t{Q:Bool->Hp->Prop}(q:ta σ H λx H'=>∃k,x=.bl k/\Q k H'):tB ta σ H Q:=q
theorem e8e{Q:Bool->Prop}{b:Bool}(q:Q b):∃k,V.bl b=.bl k/\Q k:=⟨b,rfl,q⟩
theorem e6c{u w:TT}{Q:Bool->Hp->Prop}(q:u σ H λc H1=>if c=true then w σ H1 Q else Q false H1):e6v u w σ H Q:=q
theorem e7v{u w:TT}{Q:Bool->Hp->Prop}(q:u σ H λc H1=>if c=true then Q true H1 else w σ H1 Q):tOr u w σ H Q:=q
theorem e5p{u:TT}{Q:Bool->Hp->Prop}(q:u σ H λc H1=>Q (!c) H1):e6r u σ H Q:=q
theorem e3y(q:ta σ H λx H1=>∃c,x=.bl c/\if c=true then tb σ H1 Q else Q (.bl false) H1):e1t ta tb σ H Q:=q
theorem e5o(q:ta σ H λx H1=>∃c,x=.bl c/\if c=true then Q (.bl true) H1 else tb σ H1 Q):e6p ta tb σ H Q:=q
theorem e3j(q:ta σ H λx H1=>∃c,x=.bl c/\Q (.bl (!c)) H1):e1n ta σ H Q:=q
theorem e5w{u:TT}(q:u σ H λc H1=>if c=true then ta σ H1 Q else tb σ H1 Q):tIf u ta tb σ H Q:=q
theorem e3k(q:nx σ H):d9c ⟨nx,rt,bk,ct⟩ σ H:=q
theorem e3q(q:ta σ H λ_ H1=>nx σ H1):e1p ta ⟨nx,rt,bk,ct⟩ σ H:=q
theorem e5n(q:ta σ H rt):e6o ta ⟨nx,rt,bk,ct⟩ σ H:=q
theorem e8a{c:TT}{s u:TS}{D:Ends}(q:c σ H λb H1=>if b=true then s D σ H1 else u D σ H1):e4u c s u D σ H:=q
theorem e6b{g:TG}(q:ta σ H λx H1=>g x σ H1 nx):e4i ta g ⟨nx,rt,bk,ct⟩ σ H:=q
theorem e3l{k:St->Hp->Prop}(q:k (σ.set i (some v)) H):c8j i v σ H k:=q
theorem e5m{ts:e0z}{k:St->Hp->Prop}(q:ta σ H λo H1=>tb σ H1 λj H2=>ts o j v H2 λH3=>k σ H3):e7f ta tb ts v σ H k:=q
theorem e3e{p:Addr}{xs:List V}{z:Int}{j:Nat}{k:Hp->Prop}(h:H p=some (.lst xs))(e:ixN xs.length z=some j)(q:k (upd H p (.lst (xs.set j v)))):e1y (.ref p) (.int z) v H k:=⟨p,xs,z,j,rfl,rfl,h,e,q⟩
theorem e3d{f:Str}(q:tb σ H λy H1=>ta σ H1 λx H2=>∃a C dx fs,x=.ref a/\H2 a=some (.ins C dx fs)/\Cls K C/\NoAttr K C f/\fs.length<1000/\nx σ (upd H2 a (.ins C dx (a3n f y fs)))):e4x K ta tb f ⟨nx,rt,bk,ct⟩ σ H:=q
theorem e0r{f:Str}{a dx:Addr}{fs:List (Str×V)}{R:Addr->Addr->Addr->List (Str×V)->Prop}(h:H a=some (.ins C dx fs))(c:Cls K C)(n:NoAttr K C f)(l:fs.length<1000)(q:R a C dx fs):
  ∃a' C dx fs,V.ref a=.ref a'/\H a'=some (.ins C dx fs)/\Cls K C/\NoAttr K C f/\fs.length<1000/\R a' C dx fs:=⟨a,C,dx,fs,rfl,h,c,n,l,q⟩
theorem e6a{f:Str}{rd:V->V->Hp->VK->Prop}(q:ta σ H λx H1=>∃a C dx fs v,x=.ref a/\H1 a=some (.ins C dx fs)/\Cls K C/\NoAttr K C f/\fs.lookup f=some v /\
  tb σ H1 λy H2=>rd v y H2 λz H3=>∃dx' fs',H3 a=some (.ins C dx' fs')/\fs'.length<1000/\nx σ (upd H3 a (.ins C dx' (a3n f z fs')))):c7i K ta tb rd f ⟨nx,rt,bk,ct⟩ σ H:=q
theorem e3x{f:Str}{a dx:Addr}{fs:List (Str×V)}{R:Addr->Addr->V->Prop}(h:H a=some (.ins C dx fs))(c:Cls K C)(n:NoAttr K C f)(l:fs.lookup f=some v)(q:R a C v):
  ∃a' C dx fs v,V.ref a=.ref a'/\H a'=some (.ins C dx fs)/\Cls K C/\NoAttr K C f/\fs.lookup f=some v/\R a' C v:=⟨a,C,dx,fs,v,rfl,h,c,n,l,q⟩
theorem e3w{a dx:Addr}{fs:List (Str×V)}{R:Addr->List (Str×V)->Prop}(h:H a=some (.ins C dx fs))(l:fs.length<1000)(q:R dx fs):
  ∃dx' fs',H a=some (.ins C dx' fs')/\fs'.length<1000/\R dx' fs':=⟨dx,fs,h,l,q⟩
theorem e3h{a b:Int}(q:Q (.int (a+b)) H):e7c (.int a) (.int b) H Q:=⟨a,b,rfl,rfl,q⟩
theorem d4g{c:Addr}{tb:(St->XK)->TS}{th:TS}(q:tb (λσ1 C _ H'=>exmOne K C (.ref c)=some true/\∀a,H' a=none->th ⟨λσ H=>nx (σ.set i none) H,rt,λσ H=>bk (σ.set i none) H,λσ H=>ct (σ.set i none) H⟩ (σ1.set i (some (.ref a))) (upd H' a (c9x a C))) ⟨nx,rt,bk,ct⟩ σ H):
  d2h K c i tb th ⟨nx,rt,bk,ct⟩ σ H:=q
theorem d4i{t cv:Value}{c:V}{b:Bool}(ty:TyX K H x t)(hc:d5n c=some cv)(hk:kitOne K t cv=some b)(q:Q (.bl b) H):e6z K [x,c] H Q:=⟨x,c,t,cv,b,rfl,ty,hc,hk,q⟩
theorem d4h{a C tp:Addr}{cs:List V}{cvs:List Value}{b:Bool}(ha:H a=some (c9x a (.ref C)))(hk:ExK K C)(ht:H tp=some (.tup cs))(hc:cs.map d5n=cvs.map some)(he:PySem.W.kitAny K (.ref C) cvs=some b)(q:Q (.bl b) H):e1z K [.ref a,.ref tp] H Q:=⟨a,C,tp,cs,cvs,b,rfl,ha,hk,ht,hc,he,q⟩
theorem e0s(q:t σ H λvs H1=>vs.length<=sizeLine/\E (.ref C) none H1){D:Ends}:c8x C E t D σ H:=q
theorem e8d{T:String}{r:V->List V->Hp->VK->Prop}(q:ta σ H λx H1=>tyV K T x H1/\t σ H1 λxs H2=>r x xs H2 Q):tBM K T r ta t σ H Q:=q
theorem d7o{p:Addr}{xs:List V}(h:H p=some (.lst xs))(l:xs.length<sizeLine)(q:Q .non (upd H p (.lst (xs++[y])))):c1v (.ref p) [y] H Q:=⟨p,xs,y,rfl,rfl,h,l,q⟩
theorem e5k{p:Addr}{xs:List V}{R:Prop}(h:H p=some (.lst xs))(q:R):tyV K "list" (.ref p) H/\R:=⟨.inl ⟨rfl,xs,SqL.of h⟩,q⟩
theorem d4k{p q:Addr}{xs ys:List V}(h:H p=some (.lst xs))(h':H q=some (.lst ys))(l:xs.length+ys.length<=sizeLine)(k:∀z,H z=none->Q (.ref z) (upd H z (.lst (xs++ys)))):e7b (.ref p) (.ref q) H Q:=⟨p,q,xs,ys,rfl,rfl,h,h',l,k⟩
end
theorem a6b{c:Prop}[Decidable c]{A B:Prop}(h1:c->A)(h2:¬ c->B):if decide c=true then A else B:=by
 by_cases h:c
 ·rw[decide_eq_true h];exact e4p (h1 h)
 ·rw[decide_eq_false h];exact e2w (h2 h)
theorem d8i{c:Prop}[Decidable c]{A B:Prop}(h1:¬ c->A)(h2:c->B):if (!decide c)=true then A else B:=by
 by_cases h:c
 ·rw[decide_eq_true h];exact e2w (h2 h)
 ·rw[decide_eq_false h];exact e4p (h1 h)
theorem c6f{b:Bool}{A B:Prop}(h1:b=true->A)(h2:b=false->B):if b=true then A else B:=by
 cases b
 ·exact e2w (h2 rfl)
 ·exact e4p (h1 rfl)
end L2
namespace L2
open PySem PySem.Spec PyProof.Rows
section
variable{K:Frag}{σ:St}{H:Hp}{ta:TE}{t:TA}
theorem e5x{wi:TI}{g:TG}{tb:TS}{D:Ends}(q:wi σ H λJ H1=>∃W:Nat->Nat->St->Hp->Prop,(∃m,W 0 m σ H1)/\∀i m σ H,W i m σ H ->
  (J.stop i H/\D.nx σ H)\/(J.go i H/\∃N:St->Hp->Prop,(∀σ' H',N σ' H'->∃m',m'<m/\W (i+1) m' σ' H')/\∀x H',J.yld i H x H'->g x σ H' λσ2 H2=>tb { D with nx:=N,ct:=N,bk:=D.nx } σ2 H2)):e6u wi g tb D σ H:=q
theorem e3g{R:It->Hp->Prop}(q:t σ H λvs H1=>∃j:Int,vs=[.int j]/\-(2 ^ 62)<=j/\j<2 ^ 62/\R (Itr 0 j.toNat) H1):e2y t σ H R:=q
theorem d8h{N:Int}{R:Int->Prop}(h1:-(2 ^ 62)<=N)(h2:N<2 ^ 62)(q:R N):∃j,[V.int N]=[.int j]/\-(2 ^ 62)<=j/\j<2 ^ 62/\R j:=⟨N,rfl,h1,h2,q⟩
theorem e3m{R:It->Hp->Prop}(q:ta σ H λx H1=>∃a,x=.ref a/\(∃xs,SqL K H1 a xs)/\R (Itl K a) H1):e0d K ta σ H R:=q
theorem e3u{wi:TI}{nt:Nat}{fr:List Nat}{g:TG}{te:TE}{Q:VK}(q:wi σ H λJ H1=>∀D,H1 D=none->∃(n:Nat) (W:Nat->List V->Hp->Prop),W 0 [] (upd H1 D (.lst [])) /\
 ∀i acc H,W i acc H->H D=some (.lst acc)/\acc.length<sizeLine /\
  ((J.stop i H/\Q (.ref D) H)\/(i<n/\J.go i H/\∀x H',J.yld i H x H'->g x (v7 nt fr σ) H' λσ2 H2=>te σ2 H2 λy H3=>H3 D=some (.lst acc)/\W (i+1) (acc++[y]) (upd H3 D (.lst (acc++[y])))))):d9f wi nt fr g te σ H Q:=q
theorem c9e{a b:TS}{nx bk ct:St->Hp->Prop}{rt:VK}(M:St->Hp->Prop)(hb:∀σ' H',M σ' H'->b ⟨nx,rt,bk,ct⟩ σ' H')(ha:∀R:St->Hp->Prop,(∀σ' H',M σ' H'->R σ' H')->a ⟨R,rt,bk,ct⟩ σ H):e1l a b ⟨nx,rt,bk,ct⟩ σ H:=ha _ hb
theorem e5f{A B:Prop}(h:B):if (!true)=true then A else B:=h
theorem e5g{A B:Prop}(h:A):if (!false)=true then A else B:=h
theorem c8m{n:Nat}{nt:Nat}{fr:List Nat}{g:TG}{te:TE}{f:Nat->V}{Q:Addr->Hp->Prop}(hz:n<sizeLine)(hs:∀(i:Nat) (H':Hp) (k:VK),i<n->Same H H'->k (f i) H'->g (.int (0+(i:Int))) (v7 nt fr σ) H' λσ2 H2=>te σ2 H2 k)(hd:∀D,H D=none->Q D (upd H D (.lst ((List.range n).map f)))):
  ∀D,H D=none->∃(m:Nat)(W:Nat->List V->Hp->Prop),W 0 [] (upd H D (.lst []))/\∀i acc H',W i acc H'->H' D=some (.lst acc)/\acc.length<sizeLine /\
   (((Itr 0 n).stop i H'/\Q D H')\/(i<m/\(Itr 0 n).go i H'/\∀x H2,(Itr 0 n).yld i H' x H2->g x (v7 nt fr σ) H2 λσ2 H3=>te σ2 H3 λy H4=>H4 D=some (.lst acc)/\W (i+1) (acc++[y]) (upd H4 D (.lst (acc++[y]))))):=by
 refine d1w hz (λD i acc H'=>acc=(List.range i).map f/\H'=upd H D (.lst acc)) (λD hD=>⟨rfl,rfl⟩) ?_ ?_ ?_
 ·rintro D i acc H' ⟨rfl,rfl⟩
  exact⟨b8,by rw[List.length_map,List.length_range]⟩
 ·rintro D i acc H' hD hi ⟨rfl,rfl⟩
  refine hs i _ _ hi (λb u e=>by rw[d6 (g6 e hD)];exact e) ⟨b8,?_,?_⟩
  ·rw[List.range_succ,List.map_append];rfl
  ·rw[c6v]
 ·rintro D acc H' hD ⟨rfl,rfl⟩
  exact hd D hD
theorem b0i{a:Addr}{xs:List V}{nt:Nat}{fr:List Nat}{g:TG}{te:TE}{Q:Addr->Hp->Prop}(hz:xs.length<sizeLine)(Pv:Addr->Nat->List V->Hp->Prop)(h0:∀D,H D=none->Pv D 0 [] (upd H D (.lst [])))(hk:∀D i acc H',Pv D i acc H'->H' D=some (.lst acc)/\acc.length=i/\SqL K H' a xs)(hs:∀D i x acc H',H D=none->xs[i]?=some x->Pv D i acc H'->g x (v7 nt fr σ) H' λσ2 H2=>te σ2 H2 λy H3=>H3 D=some (.lst acc)/\Pv D (i+1) (acc++[y]) (upd H3 D (.lst (acc++[y]))))(hd:∀D acc H',H D=none->Pv D xs.length acc H'->Q D H'):
  ∀D,H D=none->∃(m:Nat)(W:Nat->List V->Hp->Prop),W 0 [] (upd H D (.lst []))/\∀i acc H',W i acc H'->H' D=some (.lst acc)/\acc.length<sizeLine /\
   (((Itl K a).stop i H'/\Q D H')\/(i<m/\(Itl K a).go i H'/\∀x H2,(Itl K a).yld i H' x H2->g x (v7 nt fr σ) H2 λσ2 H3=>te σ2 H3 λy H4=>H4 D=some (.lst acc)/\W (i+1) (acc++[y]) (upd H4 D (.lst (acc++[y]))))):=by
 intro D hD;refine⟨xs.length,λi acc H'=>i<=xs.length/\(i<xs.length->Pv D i acc H')/\(i=xs.length->Pv D i acc H'),⟨Nat.zero_le _,λ_=>h0 D hD,λ_=>h0 D hD⟩,?_⟩;rintro i acc H' ⟨hi,p1,p2⟩;have p:Pv D i acc H':=by
  by_cases h:i<xs.length
  ·exact p1 h
  ·exact p2 ↑5
 obtain⟨k1,k2,k3⟩:=hk D i acc H' p;refine⟨k1,by lia,?_⟩
 by_cases h:i<xs.length
 ·refine .inr ⟨h,⟨xs,xs[i],k3,List.getElem?_eq_getElem h⟩,?_⟩
  rintro x H2 ⟨rfl,hy⟩;have ex:xs[i]?=some x:=hy xs k3;have key:=hs D i x acc _ hD ex p;have e:(λ(σ2:St) (H2:Hp)=>te σ2 H2 λy H3=>H3 D=some (.lst acc)/\Pv D (i+1) (acc++[y]) (upd H3 D (.lst (acc++[y]))))=(λ(σ2:St) (H3:Hp)=>te σ2 H3 λy H4=>H4 D=some (.lst acc)/\i+1<=xs.length/\(i+1<xs.length->Pv D (i+1) (acc++[y]) (upd H4 D (.lst (acc++[y]))))/\(i+1=xs.length->Pv D (i+1) (acc++[y]) (upd H4 D (.lst (acc++[y]))))):=by
   funext σ2 H3;have:(λ(y:V) (H3:Hp)=>H3 D=some (.lst acc)/\Pv D (i+1) (acc++[y]) (upd H3 D (.lst (acc++[y]))))=(λ(y:V) (H4:Hp)=>H4 D=some (.lst acc)/\i+1<=xs.length/\(i+1<xs.length->Pv D (i+1) (acc++[y]) (upd H4 D (.lst (acc++[y]))))/\(i+1=xs.length->Pv D (i+1) (acc++[y]) (upd H4 D (.lst (acc++[y]))))):=by
    funext y H4;apply propext;constructor
    ·rintro⟨z1,z2⟩
     exact⟨z1,h,λ_=>z2,λ_=>z2⟩
    ·rintro⟨z1,z2,z3,z4⟩
     refine⟨z1,?_⟩;by_cases hh:i+1<xs.length
     ·exact z3 hh
     ·exact z4 ↑5
   rw[this]
  rw[e] at key;exact key
 ·have hi':i=xs.length:=by lia
  subst hi';exact .inl ⟨⟨xs,k3,Nat.le_refl _⟩,hd D acc H' hD p⟩
end
end L2
namespace L2
open PySem PySem.Spec PyProof.Rows
def KDict(P:Program)(w:World)(K:Frag)(d:Addr)(kvs:List (Str×Value)):Prop :=
 (d == sysModules)=false/\∃(es:Array DictEntry)(ep:Nat),K.lookup d=some ⟨.type "dict",none,.dict es ep,#[]⟩/\KeysOf (strKind P w) es/\Pairs (strKind P w) es.toList kvs/\(kvs.map (·.1)).Nodup
theorem KDict.at{P:Program}{w:World}{K:Frag}{d:Addr}{kvs:List (Str×Value)}{h:Heap}(x:KDict P w K d kvs)(k:K.In h):h.DictOf (strKind P w) d kvs:=by
 obtain⟨_,es,ep,lk,a,b,c⟩:=x;exact⟨_,es,ep,k _ _ lk,⟨rfl,rfl,rfl⟩,rfl,a,b,c⟩
def d7s(w:World)(ps:List (Str×Tok×Value)):List DictEntry:=ps.map λp=>⟨hashStr w p.1,.str p.1 p.2.1,p.2.2⟩
theorem KDict.mk'{P:Program}{w:World}{K:Frag}{d:Addr}{ps:List (Str×Tok×Value)}{ep:Nat}(hd:(d == sysModules)=false)(l:K.lookup d=some ⟨.type "dict",none,.dict (d7s w ps).toArray ep,#[]⟩)(n:(ps.map (·.1)).Nodup):
  KDict P w K d (ps.map λp=>(p.1,p.2.2)):=by
 refine⟨hd,_,ep,l,?_,?_,?_⟩
 ·intro e he
  simp only[List.mem_toArray] at he;obtain⟨p,_,rfl⟩:=List.mem_map.mp he;exact⟨p.1,strKind_is P w p.1 p.2.1,rfl⟩
 ·show Pairs _ (d7s w ps) _
  clear l n
  induction ps with
  | nil=>exact .nil
  | cons p ps ih=>exact .cons (strKind_is P w p.1 p.2.1) rfl ih
 ·rw[List.map_map]
  exact n
section
variable{X:Cx}
def e7q(P:Program)(w:World)(K:Frag):R2:=λx y H Q=>∃(d:Addr)(z:Str)(kvs:List (Str×Value)),x=.str z/\y=.ref d/\KDict P w K d kvs/\Q (.bl (valueAt kvs z).isSome) H
theorem c1z{K:Frag}(h:X.K=K:=by rfl):OpR X (compareOp .In) (e7q X.prog X.w K):=by
 subst h;intro pins s σ H x y v u Q I rx ry hq;obtain⟨d,z,kvs,rfl,rfl,kd,q⟩:=hq;obtain⟨t,rfl⟩:=rx;cases ry;exact wpAny_in_of (strKind_is X.prog X.w z t) kd.1 (kd.at I.kIn).mapOf ⟨.bl _,H,I.tok _,rfl,q⟩
def e5a(P:Program)(w:World)(K:Frag):R2:=λx y H Q=>∃(d:Addr)(z:Str)(kvs:List (Str×Value))(u:Value)(v:V),x=.ref d/\y=.str z/\KDict P w K d kvs/\valueAt kvs z=some u/\RelV v u/\Q v H
theorem c8g{K:Frag}(h:X.K=K:=by rfl):IxR X (e5a X.prog X.w K):=by
 subst h;intro value slice pins s σ H x y v u Q I rx ry hq hs;obtain⟨d,z,kvs,u',v',rfl,rfl,kd,hv,rv,q⟩:=hq;cases rx;obtain⟨t,rfl⟩:=ry;have dd:=kd.at (P:=X.prog) (w:=X.w) I.kIn;exact subscriptTail_builtinR (x:=u') dd.typeIs PySem.F.slot_dict_getitem.lookup (wpAny_getItem_of (strKind_is X.prog X.w z t) dd.mapOf hv ⟨rfl,v',H,I.tok _,rv,q⟩) hs
structure FnV(P:Program)(w:World)(K:Frag)(mg:Str->Option Value)(base:Heap)(f:Addr)(k:Nat)(ps:List Str)(sp:Sp):Prop where
 ex:∃fd:FuncData,FnOk P w K mg base (CXK P w) k f fd ps sp/\keepIn K (.ref f)=true/\Binds K fd ps []
theorem FnV.mono{P:Program}{w:World}{K:Frag}{mg:Str->Option Value}{base:Heap}{f:Addr}{j k:Nat}{ps:List Str}{sp:Sp}(F:FnV P w K mg base f j ps sp)(h:j<=k):FnV P w K mg base f k ps sp:=by
 obtain⟨fd,F,a,b⟩:=F.ex;exact⟨fd,F.mono h,a,b⟩
def e1r(P:Program)(w:World)(K:Frag)(mg:Str->Option Value)(base:Heap)(k i:Nat)(E:XK)(t:TA):TE:=λσ H Q=>∃f ps sp,σ[i]?=some (some (.ref f))/\FnV P w K mg base f k ps sp/\t σ H λvs H1=>sp vs H1 Q E
variable{k j i:Nat}{E:XK}{x:Str}{p pos:Pos}{e:Expr}{es:List Expr}{t:TA}
theorem b6z(hi:X.N[i]?=some x)(hv:Vis X.env.scope x)(hr:Room j X.A)(hj:k<=j)(hx:a4a (CXK X.prog X.w) X E)(ha:PA X (e::es) t)(hd:(x == ("__debug__":Str))=false:=by decide)(hcd:(x == ("__classdict__":Str))=false:=by decide)(he:starEach (e::es) X.env=(false,eval e X.env)::starEach es X.env:=by rfl)(hpl:(backTo pos (starEach es X.env)).any (·.1)=false:=by rfl):
  PE X (.Call (.Name x p) (e::es) [] pos) (e1r X.prog X.w X.K X.mg X.base k i E t):=by
 intro pins s σ H Q I h;obtain⟨f,ps,sp,ef,F,q⟩:=h;obtain⟨fd,F,hk,hb⟩:=F.ex;have hp:=d8b hi hv hd hcd (pos:=p) pins s σ H (λv H'=>v=.ref f/\H'=H) I ⟨.ref f,ef,rfl,rfl⟩;refine wpAny_Call_Name_kw (thn hp λu s1 z0_=>?_);obtain⟨v,H',I1,rv,ev,eH⟩:=z0_;subst ev;subst eH;cases rv;refine callWith_K (h₀:=X.base) I.ok.mod.kin hk (thn (ha pos pins s1 σ H' _ I1 q) λus s2 z0_=>?_) he hpl;obtain⟨vs,H1,I2,r,q2⟩:=z0_;refine⟨I2.kIn,?_⟩;refine b8a (ds:=[]) (dvs:=[]) F (hr.mono hj) hb .nil hx I2 r ?_;simp only[List.append_nil];exact q2
structure e7m(K:Frag)(C:Addr)(m:Str)(f:Addr):Prop where
 ga:specialIn K (.ref C) "__getattribute__" = some (some (.builtin "type.__getattribute__"))
 mc:∃mc,PySem.W.readsIn K C mc=true/\PySem.W.findCls K (.ref C) mc m=some (.val (.ref f))
 kp:keepIn K (.ref f)=true
structure d5m(P:Program)(w:World)(K:Frag)(mg:Str->Option Value)(base:Heap)(x:Str)(m:Str)(k:Nat)(ps:List Str)(sp:Sp):Prop where
 ex:∃(C f:Addr)(fd:FuncData),FnOk P w K mg base (CXK P w) k f fd ps sp/\e7m K C m f/\mg x=some (.ref C)/\Binds K fd ps []
variable{m:Str}{apos:Pos}{ps:List Str}{sp:Sp}{pl:Sem Bool}
theorem d3d(G:d5m X.prog X.w X.K X.mg X.base x m k ps sp)(hr:Room j X.A)(hj:k<=j)(hg:Gl X x)(hx:a4a (CXK X.prog X.w) X E)(ha:PA X (e::es) t)(hdb:(x == ("__debug__":Str))=false:=by decide)(hst:starEach (e::es) X.env=(false,eval e X.env)::starEach es X.env:=by rfl)(hpl:(backTo pos (starEach es X.env)).any (·.1)=false:=by rfl)(ht:eval (.Call (.Attribute (.Name x p) m apos) (e::es) [] pos) X.env=(do
   let ov <- eval (.Name x p) X.env
   standAt apos.atName
   let (f,first) <- holding [ov] (getMethod ov m pl)
   callWith pos f first (backTo pos (starEach (e::es) X.env)) (backToKw pos (keywordEach [] X.env))):=by rfl):
  PE X (.Call (.Attribute (.Name x p) m apos) (e::es) [] pos) (tFn sp E t):=by
 obtain⟨C,f,fd,F,M,hm,hb⟩:=G.ex;intro pins s σ H Q I h;have hp:=b8g (X:=X) (x:=x) (v:=.ref C) (pos:=p) hg hm rfl hdb pins s σ H (λv H'=>v=.ref C/\H'=H) I ⟨rfl,rfl⟩;refine PySem.W.methodCall_KW (pl:=pl) (thn hp λu s1 z0_=>?_) ht;obtain⟨v,H',I1,rv,ev,eH⟩:=z0_;subst ev;subst eH;cases rv;obtain⟨mc,hrd,hfc⟩:=M.mc;refine PySem.W.method_cls I1.kIn M.ga (PySem.W.cls_value I1.kIn hrd hfc rfl ?_);have I2:=I1.tok (s1.toks+1);refine callWith_K (h₀:=X.base) I.ok.mod.kin M.kp (thn (ha pos pins _ σ H' _ I2 h) λus s2 z0_=>?_) hst hpl;obtain⟨vs,H2,I3,r,q2⟩:=z0_;refine⟨I3.kIn,?_⟩;refine b8a (ds:=[]) (dvs:=[]) F (hr.mono hj) hb .nil hx I3 r ?_;simp only[List.append_nil];exact q2
end
end L2
namespace L2
open PySem PySem.Spec PyProof.Rows
def e4s(P:Program)(w:World)(K:Frag)(mg:Str->Option Value)(base:Heap)(k:Nat)(m:Str)(E:XK)(ta:TE)(t:TA):TE:=λσ H Q=>ta σ H λx H1=>∃a C dx fs ps sp,x=.ref a/\H1 a=some (.ins C dx fs)/\fs.lookup m=none/\Cls K C/\MethT P w K mg base C m k ps sp/\t σ H1 λvs H2=>sp (x::vs) H2 Q E
section
variable{X:Cx}{k j:Nat}{E:XK}{m:Str}{pos apos:Pos}{e o:Expr}{es:List Expr}{ta:TE}{t:TA}{pl:Sem Bool}
theorem c4u(he:PE X o ta)(hr:Room j X.A)(hj:k<=j)(hx:a4a (CXK X.prog X.w) X E)(ha:PA X (e::es) t)(hst:starEach (e::es) X.env=(false,eval e X.env)::starEach es X.env:=by rfl)(hpl:(backTo pos (starEach es X.env)).any (·.1)=false:=by rfl)(ht:eval (.Call (.Attribute o m apos) (e::es) [] pos) X.env=(do
   let ov <- eval o X.env
   standAt apos.atName
   let (f,first) <- holding [ov] (getMethod ov m pl)
   callWith pos f first (backTo pos (starEach (e::es) X.env)) (backToKw pos (keywordEach [] X.env))):=by rfl):
  PE X (.Call (.Attribute o m apos) (e::es) [] pos) (e4s X.prog X.w X.K X.mg X.base k m E ta t):=by
 intro pins s σ H Q I h;refine PySem.W.methodCall_KW (pl:=pl) (thn (he pins s σ H _ I h) λu s1 z0_=>?_) ht;obtain⟨x,H1,I1,rx,a,C,dx,fs,ps,sp,ex,ea,l,c,G,q⟩:=z0_;obtain⟨f,fd,F,hm,hb⟩:=G.ex;subst ex;obtain rfl:u=Value.ref a:=rx;refine a6s I1 ea c hm l ?_;refine callWith_K (first:=[.ref a]) (h₀:=X.base) I.ok.mod.kin hm.kp (thn (ha pos pins s1 σ H1 _ I1 q) λus s2 z0_=>?_) hst hpl
 obtain⟨vs,H2,I2,r,q2⟩:=z0_;refine⟨I2.kIn,?_⟩;refine b8a (us:=.ref a::us) (vs:=.ref a::vs) (ds:=[]) (dvs:=[]) F (hr.mono hj) hb .nil hx I2 (.cons rfl r) ?_;simp only[List.append_nil];exact q2
theorem i9(he:PE X o ta)(hr:Room j X.A)(hj:k<=j)(hx:a4a (CXK X.prog X.w) X E)(ht:eval (.Call (.Attribute o m apos) [] [] pos) X.env=(do
   let ov <- eval o X.env
   standAt apos.atName
   let (f,first) <- holding [ov] (getMethod ov m pl)
   callWith pos f first (backTo pos (starEach [] X.env)) (backToKw pos (keywordEach [] X.env))):=by rfl):
  PE X (.Call (.Attribute o m apos) [] [] pos) (e4s X.prog X.w X.K X.mg X.base k m E ta e1c):=by
 intro pins s σ H Q I h;refine PySem.W.methodCall_KW (pl:=pl) (thn (he pins s σ H _ I h) λu s1 z0_=>?_) ht;obtain⟨x,H1,I1,rx,a,C,dx,fs,ps,sp,ex,ea,l,c,G,q⟩:=z0_;obtain⟨f,fd,F,hm,hb⟩:=G.ex;subst ex;obtain rfl:u=Value.ref a:=rx;refine a6s I1 ea c hm l ?_;refine PySem.W.callWith_K0 (first:=[.ref a]) I1.kIn hm.kp (b8a (us:=[.ref a]) (vs:=[.ref a]) (ds:=[]) (dvs:=[]) F (hr.mono hj) hb .nil hx I1 (.cons rfl .nil) ?_)
 exact q
end
theorem c8h{P:Program}{w:World}{K:Frag}{mg:Str->Option Value}{base:Heap}{k:Nat}{m:Str}{E:XK}{ta:TE}{t:TA}{σ:St}{H:Hp}{Q:VK}(q:ta σ H λx H1=>∃a C dx fs ps sp,x=.ref a/\H1 a=some (.ins C dx fs)/\fs.lookup m=none/\Cls K C/\MethT P w K mg base C m k ps sp/\t σ H1 λvs H2=>sp (x::vs) H2 Q E):e4s P w K mg base k m E ta t σ H Q:=q
def e7h(K:Frag)(ta:TE)(f:Str):TG:=λv σ H Q=>ta σ H λx H1=>∃a C dx fs,x=.ref a/\H1 a=some (.ins C dx fs)/\Cls K C/\NoAttr K C f/\fs.length<1000/\Q σ (upd H1 a (.ins C dx (a3n f v fs)))
theorem d3b{X:Cx}{K:Frag}{o:Expr}{f:Str}{pos:Pos}{ta:TE}(ha:PE X o ta)(hK:X.K=K:=by rfl):PG X (.Attribute o f pos) (e7h K ta f):=by
 subst hK;intro pins s σ H v u Q I r h;rw[assign_Attribute];refine wpAny_bind (wpAny_holding (thn (ha pins s σ H _ I h) λov s1 z0_=>?_));obtain⟨x,H1,I1,rx,a,C,dx,fs,ex,ea,c,n,l,q⟩:=z0_;subst ex;obtain rfl:ov=Value.ref a:=rx;refine wpAny_bind (wpAny_standAt (wpAny_bind (wpAny_holding (b4q I1 ea c n l r λs2 I2=>?_))));exact wpAny_release ⟨σ,_,I2,q⟩
end L2
namespace L2
open PySem PySem.Spec PyProof.Rows
theorem b1b(r:Addr)(a b c i:Int)(t u v ti:Tok):
  Meets (Builtin.«range.__contains__» ⟨[.ref r,.int i ti],[]⟩) (λ_ R s=>s.heap.get? r=some { cls:=.type "range",dict:=none,data:=.fields #[.int a t,.int b u,.int c v],slots:=#[] }/\R (.ok (.ret (.bool (Builtin.Range.rangePlace? a b c i).isSome))) s) :=
 .of_wp λprog w A R s h=>by obtain⟨hp,g,d,tk,os⟩:=s;obtain⟨hl,h⟩:=h;wp_walk;exact⟨_,rfl,h⟩
theorem b9c{prog:Program}{w:World}{A:Around}{E:Value->Shared->Prop}{s:Shared}{r:Addr}{a b c i:Int}{t u v ti:Tok}{Q:Value->Shared->Prop}(hr:IsRange s.heap r a b c t u v)(h:Q (.bool (Builtin.Range.rangePlace? a b c i).isSome) s):wpAny (model prog w) A (compareOp .In (.int i ti) (.ref r)) Q E s:=by
 have hT:s.TypeIs (.ref r) "range":=⟨_,hr,rfl⟩;show wpAny _ _ (do return .bool (<- contains (.ref r) (.int i ti))) Q E s
 refine wpAny_bind ?_;unfold contains
 try with_reducible refine wpAny_holding ?_
 refine wpAny_bind (wpAny_specialOf hT F.slot_range_contains.lookup ?_);show wpAny _ _ (if (some (Value.builtin "range.__contains__") == some Value.none)=true then _ else _) _ E s;rw[if_neg (by rw[beq_builtin_none];exact Bool.false_ne_true)]
 refine wpAny_bind (wpAny_callSpecialUnlessNone?_slot (name:=Str.ofString "__contains__") hT F.slot_range_contains
  (call_meets F.slot_range_contains hT F.entry_range_contains (F.args_range_contains_2 _ _) (b1b r a b c i t u v ti) ⟨hr,?_⟩))
 exact wpAny_truthy_bool (wpAny_pure h)
def d8a(ta:TE)(tn:TA):TE:=λσ H Q=>ta σ H λx H1=>tn σ H1 λvs H2=>∃i n:Int,x=.int i/\vs=[.int n]/\Q (.bl (decide (0<=i/\i<n))) H2
theorem c4s(i n:Int):(Builtin.Range.rangePlace? 0 n 1 i).isSome=decide (0<=i/\i<n):=by
 unfold Builtin.Range.rangePlace?;by_cases h:0<=i/\i<n
 ·simp[h]
 ·simp[h]
theorem c9i{X:Cx}{a e:Expr}{ta:TE}{tn:TA}{p cp pos:Pos}(hg:Gl X "range")(hm:X.mg "range" = none)(ha:PE X a ta)(he:PA X [e] tn)(hb:behindInMarks .In (.Call (.Name "range" p) [e] [] cp)=false:=by rfl)(hs:starEach [e] X.env=[(false,eval e X.env)]:=by rfl):
  PE X (.Compare a [.In] [.Call (.Name "range" p) [e] [] cp] pos) (d8a ta tn):=by
 intro pins s σ H Q I h;refine wpAny_Compare1 (thn (ha pins s σ H _ I h) λiv s1 z0_=>?_) hb;obtain⟨x,H1,I1,rx,q1⟩:=z0_;refine Call_ (c0h I1 hg hm boot_range (PyProof.Rows.callWith_type1 (thn (he cp pins s1 σ H1 _ I1 q1) λus s2 z0_=>?_) hs rfl));obtain⟨vs,H2,I2,r2,q2⟩:=z0_;obtain⟨i,n,ex,ev,q⟩:=q2;subst ex;subst ev;obtain⟨ti,rfl⟩:=rx;cases r2 with
 | cons r rr=>
  cases rr;obtain⟨t,rfl⟩:=r;refine call_range_1 (b9c (IsRange.new ..) ?_);rw[c4s];exact⟨.bl _,H2,I2.kept (λb o e=>Heap.get?_push_of_some _ e),rfl,q⟩
end L2
namespace L2
open PySem PySem.Spec PyProof.Rows
section
variable{X:Cx}{pins:List (Addr×Obj)}{σ:St}{H:Hp}{s:Shared}{N:List Str}{scope:Scope}{cl:List (Str×Addr)}{nt:Nat}{fr:List Nat}
end
end L2
namespace L2
open PySem PySem.Spec PyProof.Rows
section
variable{κ:Type}[DecidableEq κ]
def c6u(kvs:List (κ×V))(k:κ):Option V:=(kvs.find? λkv=>decide (kv.1=k)).map (·.2)
def c7n(kvs:List (κ×V))(k:κ)(v:V):List (κ×V) :=
 if (kvs.any λkv=>decide (kv.1=k))=true then kvs.map (λkv=>if kv.1=k then (kv.1,v) else kv) else kvs++[(k,v)]
theorem c0n{p:κ×V}{r:List (κ×V)}{k:κ}(e:p.1=k):c6u (p::r) k=some p.2:=by simp[c6u,List.find?_cons,e]
theorem c0o{p:κ×V}{r:List (κ×V)}{k:κ}(e:¬ p.1=k):c6u (p::r) k=c6u r k:=by simp[c6u,List.find?_cons,e]
theorem b6v(k:κ):∀kvs:List (κ×V),(kvs.any λkv=>decide (kv.1=k))=(c6u kvs k).isSome
 | []=>rfl
 | p::r=>by
  rw[List.any_cons];by_cases e:p.1=k
  ·simp only[c0n e,decide_eq_true e,Bool.true_or,Option.isSome_some]
  ·rw[c0o e,decide_eq_false e,Bool.false_or];exact b6v k r
theorem b8r(kvs:List (κ×V))(k:κ)(v:V):(c7n kvs k v).length<=kvs.length+1:=by
 unfold c7n;split
 ·rw[List.length_map];lia
 ·rw[List.length_append,List.length_cons,List.length_nil];lia
theorem d6j{kvs:List (κ×V)}{k:κ}(v:V)(h:c6u kvs k=none):c7n kvs k v=kvs++[(k,v)]:=by
 unfold c7n;rw[b6v,h];exact if_neg ↑3
theorem RelO.isSome_eq{o:Option V}{u:Option Value}(r:RelO o u):o.isSome=u.isSome:=by
 cases o with
 | none=>cases u with
  | none=>rfl
  | some _=>exact(show False from r).elim
 | some _=>cases u with
  | none=>exact(show False from r).elim
  | some _=>rfl
theorem KV.val{kvs:List (κ×V)}{vs:List (κ×Value)}(r:KV kvs vs)(k:κ):RelO (c6u kvs k) (valueAt vs k):=by
 unfold KV at r
 induction r with
 | nil=>exact True.intro
 | @cons p q ps qs h t ih=>
  obtain⟨h1,h2⟩:=h;by_cases e:p.1=k
  ·have e':q.1=k:=h1.symm.trans e
   have b:valueAt (q::qs) k=some q.2:=by simp[valueAt,List.find?_cons,e']
   rw[c0n e,b];exact h2
  ·have e':¬ q.1=k:=λz=>e (h1.trans z)
   have b:valueAt (q::qs) k=valueAt qs k:=by simp[valueAt,List.find?_cons,e']
   rw[c0o e,b];exact ih
theorem KV.any{kvs:List (κ×V)}{vs:List (κ×Value)}(r:KV kvs vs)(k:κ):(kvs.any λkv=>decide (kv.1=k))=vs.any λkv=>decide (kv.1=k):=by
 unfold KV at r
 induction r with
 | nil=>rfl
 | cons h t ih=>rw[List.any_cons,List.any_cons,ih,h.1]
theorem KV.repl{kvs:List (κ×V)}{vs:List (κ×Value)}(r:KV kvs vs)(k:κ){y:V}{u:Value}(ry:RelV y u):
  KV (kvs.map λkv=>if kv.1=k then (kv.1,y) else kv) (vs.map λkv=>if kv.1=k then (kv.1,u) else kv):=by
 unfold KV at r ⊢
 induction r with
 | nil=>exact .nil
 | @cons p q ps qs h t ih=>
  rw[List.map_cons,List.map_cons];refine .cons ?_ ih;obtain⟨h1,h2⟩:=h;by_cases e:p.1=k
  ·rw[if_pos e,if_pos (h1.symm.trans e)];exact⟨h1,ry⟩
  ·rw[if_neg e,if_neg (λz=>e (h1.trans z))];exact⟨h1,h2⟩
theorem KV.put{kvs:List (κ×V)}{vs:List (κ×Value)}(r:KV kvs vs)(k:κ){y:V}{u:Value}(ry:RelV y u):KV (c7n kvs k y) (stored vs k u):=by
 unfold c7n stored;rw[r.any k];by_cases e:(vs.any λkv=>decide (kv.1=k))=true
 ·rw[if_pos e,if_pos e];exact r.repl k ry
 ·rw[if_neg e,if_neg e];exact Paired.snoc r ⟨rfl,ry⟩
theorem KV.keys{kvs:List (κ×V)}{vs:List (κ×Value)}(r:KV kvs vs):kvs.map (·.1)=vs.map (·.1):=by
 unfold KV at r
 induction r with
 | nil=>rfl
 | cons h t ih=>rw[List.map_cons,List.map_cons,ih,h.1]
theorem KV.length{kvs:List (κ×V)}{vs:List (κ×Value)}(r:KV kvs vs):kvs.length=vs.length:=Paired.length r
end
theorem d9z{P:Program}{w:World}{k:Key}{u:Value}(r:RelV (kV k) u):(a1f P w).is k u=true:=by
 cases k with
 | inl i=>obtain⟨t,e⟩:=(show ∃t,u=Value.int i t from r);subst e;exact c8c P w i t
 | inr x=>obtain⟨t,e⟩:=(show ∃t,u=Value.str x t from r);subst e;exact c8b P w x t
theorem c6b{P:Program}{w:World}:∀{ks:List Key}{us:List Value},Vals (ks.map kV) us->ItemsAre (a1f P w) ks us
 | [],_,r=>by rw[List.map_nil] at r;cases r;exact .nil
 | k::ks,_,r=>by
  rw[List.map_cons] at r;cases r with
  | cons h t=>exact .cons (d9z h) (c6b t)
abbrev KT(H:Hp):List (List Key×V)->List (List Key×Addr×Value)->Prop:=Paired λp q=>p.1=q.1/\H q.2.1=some (.tup (p.1.map kV))/\RelV p.2 q.2.2
theorem KT.val{H:Hp}{kvs:List (List Key×V)}{xs:List (List Key×Addr×Value)}(r:KT H kvs xs)(k:List Key):RelO (c6u kvs k) ((atKey xs k).map (·.2)):=by
 induction r with
 | nil=>exact True.intro
 | @cons p q ps qs h t ih=>
  obtain⟨h1,_,h2⟩:=h;by_cases e:p.1=k
  ·have e':q.1=k:=h1.symm.trans e
   have b:atKey (q::qs) k=some q.2:=by simp[atKey,List.find?_cons,e']
   rw[c0n e,b];exact h2
  ·have e':¬ q.1=k:=λz=>e (h1.trans z)
   have b:atKey (q::qs) k=atKey qs k:=by simp[atKey,List.find?_cons,e']
   rw[c0o e,b];exact ih
theorem KT.repl{H:Hp}{kvs:List (List Key×V)}{xs:List (List Key×Addr×Value)}(r:KT H kvs xs)(k:List Key){y:V}{u:Value}(ry:RelV y u):
  KT H (kvs.map λkv=>if kv.1=k then (kv.1,y) else kv) (xs.map (putAt k u)):=by
 induction r with
 | nil=>exact .nil
 | @cons p q ps qs h t ih=>
  rw[List.map_cons,List.map_cons];refine .cons ?_ ih;obtain⟨h1,h2,h3⟩:=h;unfold putAt;by_cases e:p.1=k
  ·rw[if_pos e,if_pos (h1.symm.trans e)];exact⟨h1,h2,ry⟩
  ·rw[if_neg e,if_neg (λz=>e (h1.trans z))];exact⟨h1,h2,h3⟩
theorem KT.put{H:Hp}{kvs:List (List Key×V)}{xs:List (List Key×Addr×Value)}(r:KT H kvs xs)(k:List Key){b:Addr}{y:V}{u:Value}(hb:H b=some (.tup (k.map kV)))(ry:RelV y u):
  KT H (c7n kvs k y) (storedH xs k b u):=by
 have e:(kvs.any λkv=>decide (kv.1=k))=(atKey xs k).isSome:=by
  rw[b6v,(r.val k).isSome_eq,Option.isSome_map]
 unfold c7n storedH;rw[e];by_cases q:(atKey xs k).isSome=true
 ·rw[if_pos q,if_pos q];exact r.repl k ry
 ·rw[if_neg q,if_neg q];exact Paired.snoc r ⟨rfl,hb,ry⟩
theorem KT.keeps{H H':Hp}{kvs:List (List Key×V)}{xs:List (List Key×Addr×Value)}(r:KT H kvs xs)(ht:∀b ys,H b=some (.tup ys)->H' b=some (.tup ys)):KT H' kvs xs :=
 Paired.mapP r λ_ _ z=>⟨z.1,ht _ _ z.2.1,z.2.2⟩
section
variable{P:Program}{w:World}{H:Hp}{h:Heap}{a:Addr}
theorem e1w{u:HO}(ok:HOk P w H h)(e:Rd H a u):ObjOk P w H h a u:=e.ok ok
theorem e4a{kvs:List (Key×V)}(ok:HOk P w H h)(e:Rd H a (.dK kvs)):kvs.length<=sizeLine/\(a == sysModules)=false/\∃vs,KV kvs vs/\h.DictOf (a1f P w) a vs :=
 show ObjOk P w H h a (.dK kvs) from e1w ok e
theorem e4b{kvs:List (Key×V)}(ok:HOk P w H h)(e:H a=some (.dK kvs)):kvs.length<=sizeLine/\(a == sysModules)=false/\∃vs,KV kvs vs/\h.DictOf (a1f P w) a vs:=e4a ok (.inl e)
theorem d3s{ks:List Key}(ok:HOk P w H h)(e:H a=some (.tup (ks.map kV))):(tupleKind (a1f P w)).is h ks a:=by
 obtain⟨_,its,r,o,h1,h2,n,h3⟩:=(show ObjOk P w H h a (.tup (ks.map kV)) from ok a _ e);exact⟨o,its.toArray,n,h1,h2,h3,by simpa using c6b r⟩
theorem e3z{kvs:List (List Key×V)}(ok:HOk P w H h)(e:Rd H a (.dT kvs)):kvs.length<=sizeLine/\(a == sysModules)=false /\
  ∃xs,KT H kvs xs/\h.DictOfH (tupleKind (a1f P w)) a xs:=by
 obtain⟨z,y,xs,r,o,es,ep,h1,h2,h3,h4,h5⟩:=(show ObjOk P w H h a (.dT kvs) from e1w ok e);refine⟨z,y,xs,r,o,es,ep,h1,h2,h3,h4,λx hx=>?_,h5⟩;have all:∀{l:List (List Key×V)}{m:List (List Key×Addr×Value)},KT H l m->∀x∈m,(tupleKind (a1f P w)).is h x.1 x.2.1:=by
  intro l m q
  induction q with
  | nil=>intro x hx;exact nomatch hx
  | @cons p q ps qs hq t ih=>
   intro x hx;rcases List.mem_cons.mp hx with e|hx
   ·subst e
    exact d3s ok (by rw[<- hq.1];exact hq.2.1)
   ·exact ih x hx
 exact all r x hx
theorem e6f{kvs:List (List Key×V)}(ok:HOk P w H h)(e:H a=some (.dT kvs)):kvs.length<=sizeLine/\(a == sysModules)=false /\
  ∃xs,KT H kvs xs/\h.DictOfH (tupleKind (a1f P w)) a xs:=e3z ok (.inl e)
end
def DGet(H:Hp)(a:Addr)(y:V)(r:Option V):Prop :=
 (∃kvs k,Rd H a (.dK kvs)/\y=kV k/\r=c6u kvs k) \/ ∃kvs k b,Rd H a (.dT kvs)/\y=.ref b/\H b=some (.tup (k.map kV))/\r=c6u kvs k
def DPut(H:Hp)(a:Addr)(y v:V)(H':Hp):Prop :=
 (∃kvs k,H a=some (.dK kvs)/\y=kV k/\kvs.length<sizeLine/\H'=upd H a (.dK (c7n kvs k v))) \/
 ∃kvs k b,H a=some (.dT kvs)/\y=.ref b/\H b=some (.tup (k.map kV))/\kvs.length<sizeLine/\H'=upd H a (.dT (c7n kvs k v))
theorem DGet.k{H:Hp}{a:Addr}{kvs:List (Key×V)}{k:Key}(e:H a=some (.dK kvs)):DGet H a (kV k) (c6u kvs k):=.inl ⟨kvs,k,.inl e,rfl,rfl⟩
theorem DPut.k{H:Hp}{a:Addr}{kvs:List (Key×V)}{k:Key}{v:V}(e:H a=some (.dK kvs))(hl:kvs.length<sizeLine):DPut H a (kV k) v (upd H a (.dK (c7n kvs k v))):=.inl ⟨kvs,k,e,rfl,hl,rfl⟩
section
variable{X:Cx}{pins:List (Addr×Obj)}{σ:St}{H:Hp}{s:Shared}{a:Addr}{y v:V}{u r:Value}{o:Option V}{A:Around}{E:Value->Shared->Prop}
theorem Inv.big(I:Inv X pins σ H s):sysModules<s.heap.objs.size:=by
 have h:mainGlobals<s.heap.objs.size:=(I.mod.glob.keeps I.bk).lt;exact Nat.lt_trans ↑3 h
theorem e0v{Q:Value->Shared->Prop}(hu:A.units+1<cLine)(I:Inv X pins σ H s)(g:DGet H a y o)(ry:RelV y u)(h:∀s',Inv X pins σ H s'->Q (.bool (!o.isSome)) s'):
  wpAny (model X.prog X.w) A (compareOp .NotIn u (.ref a)) Q E s:=by
 rcases g with ⟨kvs,k,e,ey,l⟩|⟨kvs,k,b,e,ey,eb,l⟩
 ·subst ey
  obtain⟨z,hd,vs,rel,dd⟩:=e4a I.hok e;refine wpAny_notIn_of (d9z ry) hd dd.mapOf ?_;rw[<- (rel.val k).isSome_eq,<- l];exact h _ (I.tok _)
 ·subst ey
  cases (show u=Value.ref b from ry);obtain⟨z,hd,xs,rel,dd⟩:=e3z I.hok e;refine wpAny_notIn_heap (tupleKind_room_in1 hu) (d3s I.hok eb) hd dd ?_;have q:=(rel.val k).isSome_eq;rw[Option.isSome_map] at q;rw[<- q,<- l];exact h _ (I.tok _)
theorem d4u{h':Heap}{t':Nat}{ob:HO}(I:Inv X pins σ H s)(mu:Mut (H a))(hs:Heap.SameBut a s.heap h')(he:∃q,h'.get? a=some q)(new:ObjOk X.prog X.w (upd H a ob) h' a ob):
  Inv X pins σ (upd H a ob) { s with heap:=h',toks:=t' } :=
 I.write (x:=a) (e:=a) mu (.inl rfl) (λb q hb z=>(hs.2 b hb).trans z) he new
theorem e4c{P:Program}{w:World}{H':Hp}{h':Heap}{kvs:List (Key×V)}{vs:List (Key×Value)}(z:kvs.length<=sizeLine)(hd:(a == sysModules)=false)(rel:KV kvs vs)(dd:h'.DictOf (a1f P w) a vs):
  ObjOk P w H' h' a (.dK kvs):=⟨z,hd,vs,rel,dd⟩
theorem d4v{H':Hp}{Q:Unit->Shared->Prop}(hu:A.units+1<cLine)(I:Inv X pins σ H s)(g:DPut H a y v H')(ry:RelV y u)(rv:RelV v r)(h:∀s',Inv X pins σ H' s'->Q () s'):
  wpAny (model X.prog X.w) A (setItem (.ref a) u r) Q E s:=by
 rcases g with ⟨kvs,k,e,ey,l,eH⟩|⟨kvs,k,b,e,ey,eb,l,eH⟩
 ·subst ey eH
  obtain⟨z,hd,vs,rel,dd⟩:=e4b I.hok e;have hz:vs.length<=sizeLine:=by rw[<- rel.length];exact z
  have hl:(c7n kvs k v).length<=sizeLine:=by have:=b8r kvs k v;lia
  refine wpAny_setItem_pairs (hsz:=hz) (d9z ry) dd λh' dd' hs=>h _ ?_;have he:∃q,h'.get? a=some q:=let ⟨q,_,_,hq,_⟩:=dd';⟨q,hq⟩
  exact d4u I (by rw[e];exact True.intro) hs he (e4c hl hd (rel.put k rv) dd')
 ·subst ey eH
  cases (show u=Value.ref b from ry);obtain⟨z,hd,xs,rel,dd⟩:=e6f I.hok e;have hz:xs.length<=sizeLine:=by rw[<- Paired.length rel];exact z
  have hl:(c7n kvs k v).length<=sizeLine:=by have:=b8r kvs k v;lia
  refine wpAny_setItem_heap (hsz:=hz) (tupleKind_room_in1 hu) (d3s I.hok eb) dd λh' dd' hs=>h _ ?_;obtain⟨q,es,ep,hq,h2,h3,h4,_,h5⟩:=dd';refine d4u I (by rw[e];exact True.intro) hs ⟨q,hq⟩ ⟨hl,hd,_,(rel.put k eb rv).keeps λc ys ec=>?_,q,es,ep,hq,h2,h3,h4,h5⟩
  rw[d6 (b9w ec e (λz=>nomatch z))];exact ec
end
section
variable{X:Cx}{pins:List (Addr×Obj)}{σ:St}{H:Hp}{s:Shared}{a:Addr}{kvs:List (Key×V)}{k:Key}{u:Value}{A:Around}{E:Value->Shared->Prop}
end
def d9d(ty td:TE):TE:=λσ H Q=>ty σ H λy H1=>td σ H1 λx H2=>∃a o,x=.ref a/\DGet H2 a y o/\Q (.bl (!o.isSome)) H2
def e1v(td ty tv:TE):TS:=λD σ H=>tv σ H λv H1=>td σ H1 λx H2=>ty σ H2 λy H3=>∃a H4,x=.ref a/\DPut H3 a y v H4/\D.nx σ H4
section
variable{X:Cx}{o i e value:Expr}{pos pos' tpos:Pos}{td ty tv:TE}
theorem d3f(hu:X.A.units+1<cLine)(hi:PE X i ty)(ho:PE X o td):PC X .NotIn i o (d9d ty td):=by
 intro pins s σ H Q I h;refine thn (hi pins s σ H _ I h) λiv s1 z0_=>?_;obtain⟨y,H1,I1,ry,q1⟩:=z0_;refine thn (ho pins s1 σ H1 _ I1 q1) λu s2 z1_=>?_;obtain⟨x,H2,I2,rx,a,ov,ex,g,q2⟩:=z1_;subst ex;obtain rfl:u=Value.ref a:=rx;exact e0v hu I2 g ry λs3 I3=>⟨.bl (!ov.isSome),H2,I3,rfl,q2⟩
theorem d9j(hu:X.A.units+1<cLine)(ho:PE X o td)(hi:PE X i ty)(hv:PE X value tv)(hs:swapsWith value (some (.Subscript o i pos')) pos.line X.env=pure false):
  PS X (.Assign [.Subscript o i pos'] value pos) (e1v td ty tv):=by
 intro pins s σ H D I h;refine wpAny_Assign_Subscript (thn (hv pins s σ H _ I h) λr s1 z0_=>?_) hs;obtain⟨v,H1,I1,rv,q1⟩:=z0_;refine thn (ho pins s1 σ H1 _ I1 q1) λu s2 z1_=>?_;obtain⟨x,H2,I2,rx,q2⟩:=z1_;refine thn (hi pins s2 σ H2 _ I2 q2) λiv s3 z2_=>?_;obtain⟨y,H3,I3,ry,a,H4,ex,g,q3⟩:=z2_;subst ex;obtain rfl:u=Value.ref a:=rx;exact d4v hu I3 g ry rv λs4 I4=>⟨σ,H4,I4,q3⟩
end
theorem d7t{P:Program}{w:World}{H:Hp}(h:Heap)(hb:sysModules<h.objs.size):ObjOk P w H (h.push { cls:=.type "dict",data:=.dict #[] }) h.objs.size (.dK []) :=
 ⟨Nat.zero_le _,beq_eq_false_iff_ne.mpr (Ne.symm (Nat.ne_of_lt hb)),[],.nil,Heap.DictOf.new h⟩
def e1q:TE:=λ_ H Q=>∀p,H p=none->Q (.ref p) (upd H p (.dK []))
section
variable{X:Cx}{pos:Pos}
theorem d6o:PE X (.Dict [] [] pos) e1q:=λpins s σ H Q I h=>
 wpAny_Dict_empty ⟨.ref s.heap.objs.size,_,I.laid (a:=s.heap.objs.size) (o:=.dK []) (t':=s.toks) (λ_ _ q=>Heap.get?_push_of_some _ q) (Nat.le_refl _) (d7t s.heap I.big),rfl,h _ (I.hok.fresh (Nat.le_refl _))⟩
end
section
variable{X:Cx}{pins:List (Addr×Obj)}{σ:St}{H:Hp}{s:Shared}{a:Addr}{y d:V}{u r:Value}{o:Option V}{A:Around}{E:Value->Shared->Prop}
end
section
variable{X:Cx}{o e f:Expr}{apos cpos:Pos}{td ty tx:TE}
end
section
variable{X:Cx}{pins:List (Addr×Obj)}{σ:St}{H:Hp}{s:Shared}{a:Addr}{kvs:List (Key×V)}{A:Around}{E:Value->Shared->Prop}
end
section
variable{X:Cx}{pins:List (Addr×Obj)}{σ:St}{H:Hp}{s:Shared}{a:Addr}{y:V}{u:Value}{A:Around}{E:Value->Shared->Prop}
end
end L2
namespace L2
open PySem PySem.Spec PyProof.Rows
section
variable{X:Cx}{k j:Nat}{ps:List Str}{sp:Sp}{E:XK}{x:Str}{p pos:Pos}
end
section
variable{K:Frag}{σ:St}{H:Hp}{Q:VK}{td ty tv:TE}{nx bk ct:St->Hp->Prop}{rt:VK}
theorem e3r(q:tv σ H λv H1=>td σ H1 λx H2=>ty σ H2 λy H3=>∃a H4,x=.ref a/\DPut H3 a y v H4/\nx σ H4):e1v td ty tv ⟨nx,rt,bk,ct⟩ σ H:=q
theorem d7n{wi:TI}{nt:Nat}{fr:List Nat}{g:TG}{tt:TT}{te:TE}(q:wi σ H λJ H1=>∀D,H1 D=none->∃(n:Nat) (W:Nat->List V->Hp->Prop),W 0 [] (upd H1 D (.lst [])) /\
 ∀i acc H,W i acc H->H D=some (.lst acc)/\acc.length<sizeLine /\
  ((J.stop i H/\Q (.ref D) H)\/(i<n/\J.go i H/\∀x H',J.yld i H x H'->g x (v7 nt fr σ) H' λσ2 H2=>tt σ2 H2 λc H3=>if c=true then (te σ2 H3 λy H4=>H4 D=some (.lst acc)/\W (i+1) (acc++[y]) (upd H4 D (.lst (acc++[y])))) else W (i+1) acc H3))):d2j wi nt fr g tt te σ H Q:=q
end
end L2
namespace L2
open PySem PySem.Spec PyProof.Rows
section
variable{X:Cx}
theorem d9m{K:Frag}{tg l:Expr}{tl:TE}(hl:PE X l tl)(h:X.K=K:=by rfl):PI X tg l (e5i K tl):=h ▸ e2f hl
end
section
variable{K:Frag}{σ:St}{H:Hp}{ta:TE}{t:TA}
theorem d8g{R:It->Hp->Prop}(q:ta σ H λx H1=>∃a,x=.ref a/\(∃xs,SqT K H1 a xs)/\R (Itt K a) H1):e5i K ta σ H R:=q
theorem d4j{tn:TA}{Q:VK}(q:ta σ H λx H1=>tn σ H1 λvs H2=>∃i n:Int,x=.int i/\vs=[.int n]/\Q (.bl (decide (0<=i/\i<n))) H2):d8a ta tn σ H Q:=q
end
theorem b4m{prog:Program}{w:World}{A:Around}{E:Value->Shared->Prop}{s:Shared}{r:Addr}{a b c i:Int}{t u v ti:Tok}{Q:Value->Shared->Prop}(hr:IsRange s.heap r a b c t u v)(h:Q (.bool (!(Builtin.Range.rangePlace? a b c i).isSome)) s):wpAny (model prog w) A (compareOp .NotIn (.int i ti) (.ref r)) Q E s:=by
 have hT:s.TypeIs (.ref r) "range":=⟨_,hr,rfl⟩;show wpAny _ _ (do return .bool (!(<- contains (.ref r) (.int i ti)))) Q E s
 refine wpAny_bind ?_;unfold contains
 try with_reducible refine wpAny_holding ?_
 refine wpAny_bind (wpAny_specialOf hT F.slot_range_contains.lookup ?_);show wpAny _ _ (if (some (Value.builtin "range.__contains__") == some Value.none)=true then _ else _) _ E s;rw[if_neg (by rw[beq_builtin_none];exact Bool.false_ne_true)]
 refine wpAny_bind (wpAny_callSpecialUnlessNone?_slot (name:=Str.ofString "__contains__") hT F.slot_range_contains
  (call_meets F.slot_range_contains hT F.entry_range_contains (F.args_range_contains_2 _ _) (b1b r a b c i t u v ti) ⟨hr,?_⟩))
 exact wpAny_truthy_bool (wpAny_pure h)
def c3s(ta:TE)(tn:TA):TE:=λσ H Q=>ta σ H λx H1=>tn σ H1 λvs H2=>∃i n:Int,x=.int i/\vs=[.int n]/\Q (.bl (!decide (0<=i/\i<n))) H2
theorem d1v{σ:St}{H:Hp}{ta:TE}{tn:TA}{Q:VK}(q:ta σ H λx H1=>tn σ H1 λvs H2=>∃i n:Int,x=.int i/\vs=[.int n]/\Q (.bl (!decide (0<=i/\i<n))) H2):c3s ta tn σ H Q:=q
theorem c9q{i n:Int}{R:Int->Int->Prop}(q:R i n):∃i' n':Int,V.int i=.int i'/\[V.int n]=[.int n']/\R i' n':=⟨i,n,rfl,rfl,q⟩
theorem c7o{X:Cx}{a e:Expr}{ta:TE}{tn:TA}{p cp pos:Pos}(hg:Gl X "range")(hm:X.mg "range" = none)(ha:PE X a ta)(he:PA X [e] tn)(hb:behindInMarks .NotIn (.Call (.Name "range" p) [e] [] cp)=false:=by rfl)(hs:starEach [e] X.env=[(false,eval e X.env)]:=by rfl):
  PT X (.Compare a [.NotIn] [.Call (.Name "range" p) [e] [] cp] pos) (d6d (c3s ta tn)):=by
 intro pins s σ H Q I h;refine wpAny_isTrue_Compare1 (thn (ha pins s σ H _ I h) λiv s1 z0_=>?_) hb;obtain⟨x,H1,I1,rx,q1⟩:=z0_;refine Call_ (c0h I1 hg hm boot_range (PyProof.Rows.callWith_type1 (thn (he cp pins s1 σ H1 _ I1 q1) λus s2 z0_=>?_) hs rfl));obtain⟨vs,H2,I2,r2,q2⟩:=z0_;obtain⟨i,n,ex,ev,k,ek,q⟩:=q2;subst ex;subst ev;obtain⟨ti,rfl⟩:=rx;cases r2 with
 | cons r rr=>
  cases rr;obtain⟨t,rfl⟩:=r;refine call_range_1 (b4m (IsRange.new ..) ?_);rw[c4s];cases ek;exact wpAny_truthy_bool ⟨H2,I2.kept (λb o e=>Heap.get?_push_of_some _ e),q⟩
section
variable{X:Cx}{body suite:List Stmt}{b₀:Stmt}{x y n:Str}{np np2 hpos pos tpos:Pos}{kk:Nat}{c d:Addr}{i:Nat}{tb:(St->XK)->TS}{th:TS}
end
end L2
namespace L2
open PySem PySem.Spec PyProof.Rows
section
variable{X:Cx}
end
section
variable{K:Frag}{σ:St}{H:Hp}
theorem e7u{r:V->Option Int->Option Int->Hp->VK->Prop}{te:TE}{tl th:TO}{Q:VK}(q:te σ H λx H1=>tl σ H1 λl H2=>th σ H2 λu H3=>r x l u H3 Q):tSl r te tl th σ H Q:=q
theorem d7m{Q:Option Int->Hp->Prop}(q:Q none H):d2i σ H Q:=q
theorem e3i{te:TE}{Q:Option Int->Hp->Prop}(q:te σ H λx H1=>∃i,x=.int i/\Q (some i) H1):e1m te σ H Q:=q
end
end L2
namespace L2
open PySem PySem.Spec PyProof.Rows
section
variable{X:Cx}{e:Expr}{te:TE}{lo hi:Option Expr}{se:Expr}{tl th ts:TO}{pos p2:Pos}
end
end L2
namespace L2
open PySem PySem.Spec PyProof.Rows
def Hid(n m:St->Hp->Prop):Prop:=n=m
def e7k(m:St->Hp->Prop)(F:(St->Hp->Prop)->Prop):Prop:=∀N,Hid N m->F N
section
variable{nx bk ct:St->Hp->Prop}{rt:VK}{σ:St}{H:Hp}
theorem e3f{s u:TS}(q:∀n',Hid n' (u ⟨nx,rt,bk,ct⟩)->s ⟨n',rt,bk,ct⟩ σ H):e1l s u ⟨nx,rt,bk,ct⟩ σ H:=q _ rfl
theorem e0q{n' m:St->Hp->Prop}(h:Hid n' m)(q:m σ H):n' σ H:=by
 unfold Hid at h;rw[h];exact q
theorem e3o{m:St->Hp->Prop}{F:(St->Hp->Prop)->Prop}(q:∀N,Hid N m->F N):e7k m F:=q
theorem b0g{lo:Int}{n:Nat}{g:TG}{tb:TS}(Pv:Nat->St->Hp->Prop)(h0:Pv 0 σ H)(hs:∀i σ H,i<n->Pv i σ H->e7k (Pv (i+1)) λN=>g (.int (lo+i)) σ H λσ2 H2=>tb ⟨N,rt,nx,N⟩ σ2 H2)(hd:∀σ H,Pv n σ H->nx σ H):
  ∃W:Nat->Nat->St->Hp->Prop,(∃m,W 0 m σ H)/\∀i m σ H,W i m σ H->((Itr lo n).stop i H/\nx σ H)\/((Itr lo n).go i H/\∃N:St->Hp->Prop,(∀σ' H',N σ' H'->∃m',m'<m/\W (i+1) m' σ' H')/\∀x H',(Itr lo n).yld i H x H'->g x σ H' λσ2 H2=>tb ⟨N,rt,nx,N⟩ σ2 H2) :=
 d4l (D:=⟨nx,rt,λ_ _=>False,λ_ _=>False⟩) Pv h0 (λi σ H hi p=>hs i σ H hi p _ rfl) hd
end
end L2
namespace L2
open PySem PySem.Spec PyProof.Rows
section
variable{prog:Program}{w:World}{A:Around}{E:Value->Shared->Prop}{s:Shared}
end
section
variable{X:Cx}
end
end L2
namespace L2
open PySem
def e1d:HO->Option Addr
 | .ins _ dx _=>some dx
 | .frz _ u=>e1d u
 | _=>none
structure Sub(H1 H:Hp):Prop where
 le:∀a o,H1 a=some o->H a=some o
 own:∀a o b,H a=some o->e1d o=some b->H b=some (.own a)->(H1 a=none ↔ H1 b=none)
 tup:∀b xs,H b=some (.tup xs)->H1 b=some (.tup xs)
 frz:∀b o u,H b=some (.frz o u)->H1 b=some (.frz o u)
 tbl:∀b ps,H b=some (.tbl ps)->H1 b=some (.tbl ps)
def jn(H1' H1 H:Hp):Hp:=λa=>match H1 a,H1' a with
 | none,none=>H a
 | _,o=>o
structure Out(H1' H1 H:Hp):Prop where
 fr:∀b o,H b=some o->H1 b=none->H1' b=none
 tup:∀b xs,H b=some (.tup xs)->H1' b=some (.tup xs)
 frz:∀b o u,H b=some (.frz o u)->H1' b=some (.frz o u)
def frS(sp:Sp):Sp:=λvs H Q _=>∃H1,Sub H1 H/\sp vs H1 (λv H1'=>Out H1' H1 H->Q v (jn H1' H1 H)) (λ_ _ _=>False)
section
variable{P:Program}{w:World}{K:Frag}{mg:Str->Option Value}{base:Heap}{H H1 H1':Hp}{h h':Heap}
theorem a3c{a:Addr}{o:HO}(e:H1' a=some o):jn H1' H1 H a=some o:=by
 unfold jn;rw[e];cases H1 a <;> rfl
theorem c3d{a:Addr}(e:H1 a=none)(e':H1' a=none):jn H1' H1 H a=H a:=by
 unfold jn;rw[e,e']
theorem e0a{a:Addr}{o:HO}(e:H1 a=some o)(e':H1' a=none):jn H1' H1 H a=none:=by
 unfold jn;rw[e,e']
theorem ObjOk.at_{a:Addr}{o:HO}(x:ObjOk P w H h a o):∃ob,h.get? a=some ob:=by
 cases o with
 | lst xs=>obtain⟨_,_,_,_,e⟩:=x;exact⟨_,e⟩
 | tup xs=>obtain⟨_,_,_,_,e,_⟩:=x;exact⟨_,e⟩
 | dK kvs=>obtain⟨_,_,_,_,o,_,_,e,_⟩:=x;exact⟨_,e⟩
 | dT kvs=>obtain⟨_,_,_,_,o,_,_,e,_⟩:=x;exact⟨_,e⟩
 | set S n=>obtain⟨o,_,_,_,e,_⟩:=x;exact⟨_,e⟩
 | ins C dx fs=>obtain⟨_,_,_,e,_⟩:=x;exact⟨_,e⟩
 | own y=>obtain⟨_,e⟩:=x;exact⟨_,e⟩
 | xd fs=>obtain⟨_,⟨_,_,_,e,_⟩,_⟩:=x;exact⟨_,e⟩
 | rng lo hi=>obtain⟨_,_,_,e⟩:=x;exact⟨_,e⟩
 | frz ob u=>obtain⟨e,_⟩:=x;exact⟨_,e⟩
 | tbl ps=>exact⟨_,(show h.get? a=some _ from x)⟩
 | met f y=>exact⟨_,(show h.get? a=some _ from x)⟩
 | ext φ=>obtain⟨_,⟨_,e⟩,_⟩:=x;exact⟨_,e⟩
theorem ObjOk.stay2{H':Hp}{a:Addr}{o:HO}(x:ObjOk P w H h a o)(k:∀b u,(b=a\/(e1d o=some b/\H b=some (.own a)))->h.get? b=some u->h'.get? b=some u)(ho:∀b,e1d o=some b->H b=some (.own a)->H' b=some (.own a))(ht:∀b xs,H b=some (.tup xs)->H' b=some (.tup xs)):ObjOk P w H' h' a o:=by
 have kk:(e1d o=none)->ObjOk P w H' h' a o:=λdn=>by
  let G:Hp:=λb=>match H b with
   | some (.own _)=>none
   | z=>z
  have gt:∀b xs,H b=some (.tup xs)->G b=some (.tup xs):=λb xs e=>by show(match H b with|some (.own _)=>none|z=>z)=_;rw[e]
  have gn:∀b,G b≠some (.own a):=λb e=>by
   have e:(match H b with|some (.own _)=>none|z=>z)=some (HO.own a):=e
   split at e
   ·cases e
   ·rename_i n;exact n a e
  have xg:ObjOk P w G h a o:=by
   clear k ho ht
   induction o with
   | ins C dx fs=>cases dn
   | dT kvs=>
    obtain⟨z,y,xs,r,c⟩:=x;exact⟨z,y,xs,Paired.mapP r λp q z=>⟨z.1,gt _ _ z.2.1,z.2.2⟩,c⟩
   | frz ob u ih=>exact⟨x.1,ih x.2 dn⟩
   | _=>exact x
  refine (xg.stay (H':=G) (h':=h') (λb u hb e=>k b u (hb.elim .inl λz=>absurd z (gn b)) e) (λb z=>absurd z (gn b)) λb xs e=>e).stay (λ_ _ _ e=>e) (λb z=>absurd z (gn b)) λb xs e=>ht b xs ?_;have e:(match H b with|some (.own _)=>none|z=>z)=some (HO.tup xs):=e
  split at e
  ·cases e
  ·exact e
 induction o with
 | ins C dx fs=>
  obtain⟨d,z,ne,e,mA,⟨od,es,ep,e2,c⟩,r⟩:=x;exact⟨ho dx rfl d,z,ne,k _ _ (.inl rfl) e,mA,⟨od,es,ep,k dx _ (.inr ⟨rfl,d⟩) e2,c⟩,r⟩
 | frz ob u ih=>
  cases q:e1d u with
  | none=>exact kk q
  | some b=>exact⟨k _ _ (.inl rfl) x.1,ih x.2 k ho λdn=>by rw[q] at dn;cases dn⟩
 | _=>exact kk rfl
theorem Sub.no(S:Sub H1 H){b:Addr}(e:H b=none):H1 b=none:=by
 cases q:H1 b with
 | none=>rfl
 | some o=>rw[S.le b o q] at e;cases e
theorem Sub.hok(S:Sub H1 H)(k:HOk P w H h):HOk P w H1 h:=λa o e=>(k a o (S.le a o e)).stay2 (λ_ _ _ q=>q)
 (λb d q=>by
  cases r:H1 b with
  | none=>have:=(S.own a o b (S.le a o e) d q).2 r;rw[this] at e;cases e
  | some u=>have:=S.le b u r;rw[q] at this;cases this;rfl) S.tup
theorem Sub.un{fs:List Addr}(S:Sub H1 H)(k:HOk P w H h)(u:Un fs [] H1 H1' h h'):Out H1' H1 H/\Un fs [] H (jn H1' H1 H) h h':=by
 have nx:∀b:Addr,b ∉ ([]:List Addr):=λ_ z=>by cases z
 have fr:∀b o,H b=some o->H1 b=none->H1' b=none:=λb o e n=>by
  obtain⟨ob,eo⟩:=(k b o e).at_;exact u.free b ob eo n (nx b)
 have ot:Out H1' H1 H:=⟨fr,λb xs e=>u.tups b xs (S.tup b xs e),λb o v e=>u.frzs b o v (S.frz b o v e)⟩;refine⟨ot,⟨λb o q n hb hx=>u.keep b o q (S.no n) hb hx,λb o q n hb hx=>u.slot b o q (S.no n) hb hx,λb o q n hx=>?_,u.there,λb xs e=>a3c (u.tups b xs (S.tup b xs e)),λb o v e=>a3c (u.frzs b o v (S.frz b o v e)),λb ps e=>?_⟩⟩
 ·rw[c3d (S.no n) (u.free b o q (S.no n) hx)];exact n
 ·obtain⟨more,z⟩:=u.tbls b ps (S.tbl b ps e)
  exact⟨more,a3c z⟩
theorem Sub.back{fs:List Addr}(S:Sub H1 H)(k:HOk P w H h)(hf:∀b∈fs,H b=none)(u:Un fs [] H1 H1' h h')(k':HOk P w H1' h'):HOk P w (jn H1' H1 H) h':=by
 have nx:∀b:Addr,b ∉ ([]:List Addr):=λ_ z=>by cases z
 obtain⟨ot,_⟩:=S.un k u;have tp:∀b xs,H b=some (.tup xs)->jn H1' H1 H b=some (.tup xs):=λb xs e=>a3c (ot.tup b xs e);intro a o e;cases q:H1' a with
 | some v=>
  rw[a3c q] at e;cases e;exact(k' a _ q).stay (λ_ _ _ z=>z) (λb z=>a3c z) λb xs z=>a3c z
 | none=>
  cases r:H1 a with
  | some v=>rw[e0a r q] at e;cases e
  | none=>
   rw[c3d r q] at e;refine (k a o e).stay2 (λb v hb z=>?_) (λb d z=>?_) tp
   ·have hn:H1 b=none:=by
     rcases hb with rfl|hb
     ·exact r
     ·exact(S.own a o b e hb.1 hb.2).1 r
    refine u.keep b v z hn (λhm=>?_) (nx b);rcases hb with rfl|hb
    ·rw[hf b hm] at e;cases e
    ·rw[hf b hm] at hb;cases hb.2
   ·have hn:=(S.own a o b e d z).1 r
    rw[c3d hn (ot.fr b _ z hn)];exact z
theorem FnOk.frame{k:Nat}{f:Addr}{fd:FuncData}{ps:List Str}{sp:Sp}(F:FnOk P w K mg base (CXK P w) k f fd ps sp):FnOk P w K mg base (CXK P w) k f fd ps (frS sp):=by
 refine⟨λvs H Q E h=>?_,λA outer s H args us vs Q E hr he hb hv hs=>?_⟩
 ·obtain⟨H1,_,z⟩:=h
  exact F.len _ _ _ _ z
 ·obtain⟨H1,S,z⟩:=hs
  have e1:Env0 P w K mg base A outer s H1:=⟨he.frames,he.mod,λb o q=>⟨(he.bs b o q).1,S.no (he.bs b o q).2⟩,he.bsz,he.funs,λb hb=>S.no (he.frf b hb),S.hok he.hok,he.bare⟩;refine codeAny_mono (F.run A outer s H1 args us vs _ _ hr e1 hb hv z) λr s' q=>?_
  match r,q with
  | .ok (.ret u),q=>
   obtain⟨v,H1',a1,a2,a3,a4,a5,a6⟩:=q;obtain⟨ot,un⟩:=S.un he.hok a3;exact⟨v,_,a1,a2,un,S.back he.hok he.frf a3 a4,a5,a6 ot⟩
  | .ok .next,q=>exact q
  | .error e,q=>
   obtain⟨_,_,_,_,_,z⟩:=q;exact z.elim
theorem MethT.frame{C:Addr}{m:Str}{k:Nat}{ps:List Str}{sp:Sp}(M:MethT P w K mg base C m k ps sp):MethT P w K mg base C m k ps (frS sp):=by
 obtain⟨f,fd,F,a,b⟩:=M.ex;exact⟨f,fd,F.frame,a,b⟩
def b6t:Option HO->Bool
 | some (.tup _)=>true
 | some (.frz _ _)=>true
 | some (.tbl _)=>true
 | _=>false
open Classical in
noncomputable def rs(F:Addr->Prop)(H:Hp):Hp:=λb=>match H b with
 | some (.own a)=>if F a\/b6t (H a)=true then some (.own a) else none
 | z=>if F b\/b6t (H b)=true then z else none
theorem a4f{F:Addr->Prop}{b:Addr}{o:HO}(e:H b=some o)(n:∀a,o≠.own a)(hb:F b\/b6t (H b)=true):rs F H b=some o:=by
 unfold rs;rw[e];cases o with
 | own a=>exact absurd rfl (n a)
 | _=>exact if_pos (e ▸ hb)
theorem b0p{F:Addr->Prop}{b:Addr}{o:HO}(e:rs F H b=some o):H b=some o:=by
 unfold rs at e;split at e
 ·rename_i a q
  split at e
  ·rw[q];exact e
  ·cases e
 ·split at e
  ·exact e
  ·cases e
theorem a7r{F:Addr->Prop}{b:Addr}{o:HO}(e:H b=some o)(n:∀a,o≠.own a)(hb:¬ (F b\/b6t (H b)=true)):rs F H b=none:=by
 unfold rs;rw[e];cases o with
 | own a=>exact absurd rfl (n a)
 | _=>exact if_neg (e ▸ hb)
theorem d2q{F:Addr->Prop}{b a:Addr}(e:H b=some (.own a))(hb:¬ (F a\/b6t (H a)=true)):rs F H b=none:=by
 unfold rs;rw[e];exact if_neg hb
theorem c7k{F:Addr->Prop}{b a:Addr}(e:H b=some (.own a))(hb:F a\/b6t (H a)=true):rs F H b=some (.own a):=by
 unfold rs;rw[e];exact if_pos hb
theorem a5k(F:Addr->Prop)(H:Hp):Sub (rs F H) H where
 le:=λa o e=>b0p e
 own:=λa o b e d q=>by
  have n:∀c,o≠.own c:=λc z=>by rw[z] at d;cases d
  by_cases hc:F a\/b6t (H a)=true
  ·rw[a4f e n hc,c7k q hc];exact⟨λz=>(by cases z),λz=>(by cases z)⟩
  ·rw[a7r e n hc,d2q q hc]
 tup:=λb xs e=>a4f e (λ_ z=>by cases z) (.inr (by rw[e];rfl))
 frz:=λb o u e=>a4f e (λ_ z=>by cases z) (.inr (by rw[e];rfl))
 tbl:=λb ps e=>a4f e (λ_ z=>by cases z) (.inr (by rw[e];rfl))
end
end L2
namespace L2
open PySem
theorem c3l{σ:St}{H:Hp}{n:Nat}{nt:Nat}{fr:List Nat}{g:TG}{tt:TT}{te:TE}{c:Nat->Bool}{f:Nat->V}{Q:Addr->Hp->Prop}(hz:n<sizeLine)(hs:∀(i:Nat) (H':Hp) (k1:VK) (k2:Hp->Prop),i<n->Same H H'->(c i=true->k1 (f i) H')->(c i=false->k2 H')->g (.int (0+(i:Int))) (v7 nt fr σ) H' λσ2 H2=>tt σ2 H2 λb H3=>if b=true then te σ2 H3 k1 else k2 H3)(hd:∀D,H D=none->Q D (upd H D (.lst (((List.range n).filter c).map f)))):
  ∀D,H D=none->∃(m:Nat)(W:Nat->List V->Hp->Prop),W 0 [] (upd H D (.lst []))/\∀i acc H',W i acc H'->H' D=some (.lst acc)/\acc.length<sizeLine /\
   (((Itr 0 n).stop i H'/\Q D H')\/(i<m/\(Itr 0 n).go i H'/\∀x H2,(Itr 0 n).yld i H' x H2->g x (v7 nt fr σ) H2 λσ2 H3=>tt σ2 H3 λb H4=>if b=true then (te σ2 H4 λy H5=>H5 D=some (.lst acc)/\W (i+1) (acc++[y]) (upd H5 D (.lst (acc++[y])))) else W (i+1) acc H4)):=by
 intro D hD;refine⟨n,λi acc H'=>i<=n/\acc=((List.range i).filter c).map f/\H'=upd H D (.lst acc),⟨Nat.zero_le _,rfl,rfl⟩,?_⟩;rintro i acc H' ⟨hi,rfl,rfl⟩;have hlen:(((List.range i).filter c).map f).length<=i:=by
  rw[List.length_map];exact Nat.le_trans (List.length_filter_le _ _) (by rw[List.length_range];exact Nat.le_refl _)
 refine⟨b8,by lia,?_⟩
 by_cases h:i<n
 ·refine .inr ⟨h,h,?_⟩
  rintro x H2 ⟨rfl,rfl⟩;refine hs i _ _ _ h (λb u e=>by rw[d6 (g6 e hD)];exact e) (λhc=>⟨b8,by lia,?_,?_⟩) (λhc=>⟨by lia,?_,?_⟩)
  ·rw[List.range_succ,List.filter_append,List.map_append]
   simp[hc]
  ·rw[c6v]
  ·rw[List.range_succ,List.filter_append]
   simp[hc]
  ·rfl
 ·have:i=n:=by lia
  subst this;exact .inl ⟨Nat.le_refl _,hd D hD⟩
def e4z(P:Program)(w:World)(K:Frag):R2:=λx y H Q=>∃(d:Addr)(z:Str)(kvs:List (Str×Value)),x=.str z/\y=.ref d/\KDict P w K d kvs/\Q (.bl (!(valueAt kvs z).isSome)) H
theorem d0z{X:Cx}{K:Frag}(h:X.K=K:=by rfl):OpR X (compareOp .NotIn) (e4z X.prog X.w K):=by
 subst h;intro pins s σ H x y v u Q I rx ry hq;obtain⟨d,z,kvs,rfl,rfl,kd,q⟩:=hq;obtain⟨t,rfl⟩:=rx;cases ry;exact wpAny_notIn_of (strKind_is X.prog X.w z t) kd.1 (kd.at I.kIn).mapOf ⟨.bl _,H,I.tok _,rfl,q⟩
theorem c9u{K:Frag}{a:Addr}{x y:V}{g:TG}{tb:TS}{D:Ends}{σ:St}{H:Hp}(kt:∀H,SqT K H a [x,y])(q:g x σ H λσ2 H2=>tb { D with nx:=λσ' H'=>g y σ' H' λσ3 H3=>tb { D with nx:=D.nx,ct:=D.nx,bk:=D.nx } σ3 H3,ct:=λσ' H'=>g y σ' H' λσ3 H3=>tb { D with nx:=D.nx,ct:=D.nx,bk:=D.nx } σ3 H3,bk:=D.nx } σ2 H2):
  ∃W:Nat->Nat->St->Hp->Prop,(∃m,W 0 m σ H)/\∀i m σ H,W i m σ H ->
  ((Itt K a).stop i H/\D.nx σ H)\/((Itt K a).go i H/\∃N:St->Hp->Prop,(∀σ' H',N σ' H'->∃m',m'<m/\W (i+1) m' σ' H')/\∀x H',(Itt K a).yld i H x H'->g x σ H' λσ2 H2=>tb { D with nx:=N,ct:=N,bk:=D.nx } σ2 H2):=by
 refine⟨λi m σ' H'=>(i=0/\m=2/\σ'=σ/\H'=H)\/(i=1/\m=1/\g y σ' H' λσ3 H3=>tb { D with nx:=D.nx,ct:=D.nx,bk:=D.nx } σ3 H3)\/(i=2/\m=0/\D.nx σ' H'),⟨2,.inl ⟨rfl,rfl,rfl,rfl⟩⟩,?_⟩
 rintro i m σ' H' (⟨rfl,rfl,rfl,rfl⟩|⟨rfl,rfl,z⟩|⟨rfl,rfl,z⟩)
 ·refine .inr ⟨⟨_,x,kt _,rfl⟩,_,λσ2 H2 z=>⟨1,by decide,.inr (.inl ⟨rfl,rfl,z⟩)⟩,?_⟩
  rintro x' H2 ⟨rfl,hx⟩;cases hx _ (kt _);exact q
 ·refine .inr ⟨⟨_,y,kt _,rfl⟩,D.nx,λσ2 H2 z=>⟨0,by decide,.inr (.inr ⟨rfl,rfl,z⟩)⟩,?_⟩
  rintro x' H2 ⟨rfl,hx⟩;cases hx _ (kt _);exact z
 ·exact .inl ⟨⟨_,kt _,Nat.le_refl 2⟩,z⟩
def e1x(K:Frag):List V->Hp->VK->Prop:=λxs H Q=>∃p ys,xs=[.ref p]/\((SqL K H p ys/\∀l,H l=none->Q (.ref l) (upd H l (.tup ys)))\/(SqT K H p ys/\Q (.ref p) H))
theorem d4x{X:Cx}{K:Frag}(h:X.K=K:=by rfl):a7z X (.type "tuple") (e1x K):=h ▸ c3m
end L2
namespace L2
open PySem PyProof.Rows
theorem d4z{X:Cx}(hc:X.calm=true):a7z X (.builtin "sum") (λxs H Q=>∃(p:Addr)(ns:List Int),xs=[.ref p]/\SqL X.K H p (ns.map V.int)/\Q (.int ns.sum) H):=by
 intro pins s σ H xs us Q I r h;obtain⟨p,ns,rfl,hq,q⟩:=h;obtain⟨u,rfl,rx⟩:=r.one;cases rx;obtain⟨its,ri,pl,hz⟩:=I.list hq;have hl:=pl.isList;have hlt:p<s.heap.objs.size:=by obtain⟨_,e,_⟩:=hl;exact Heap.lt_size e
 have hn:its.toArray.size=ns.length:=by have:=ri.length;simpa using this.symm
 have wl:=(Walks.list (prog:=X.prog) (w:=X.w) (A:=X.A.in1) (I.ok.hd hc) s.heap.objs.size p (Nat.ne_of_lt hlt) its.toArray).toS;refine call_sum_walkAnyS (wpAny_pyIter_list hl ⟨_,_,_,_,_,_,_,(λi=>ns.getD i 0),rfl,wl,⟨⟨_,Heap.get?_push_size _ rfl,rfl,rfl⟩,hl.push _⟩,?_,?_,?_⟩)
 ·intro b hb
  show b<(s.heap.objs.push _).size;rw[Array.size_push];rcases List.mem_cons.mp hb with rfl|hb
  ·exact Nat.lt_succ_self _
  ·rw[List.mem_singleton.mp hb];exact Nat.lt_succ_of_lt hlt
 ·intro i v hP
  have hP:its.toArray[i]?=some v:=hP;have hP:its[i]?=some v:=by simpa using hP
  have hi:i<(ns.map V.int).length:=by
   have:=(List.getElem?_eq_some_iff.mp hP).1;rw[ri.length];exact this
  obtain⟨u,e,q'⟩:=ri.get (List.getElem?_eq_getElem hi);rw[hP] at e;cases e;have hi':i<ns.length:=by simpa using hi
  have e2:(ns.map V.int)[i]=V.int ns[i]:=List.getElem_map _;rw[e2] at q';obtain⟨t,e3⟩:=q';exact⟨t,by rw[e3];show _=Value.int (ns.getD i 0) t;rw[List.getD_eq_getElem?_getD,List.getElem?_eq_getElem hi'];rfl⟩
 ·intro s' t' mv
  rw[preSum_getD,hn,List.take_length];obtain⟨h',g',d',t2,o'⟩:=s';obtain⟨m1,m2,m3,m4,m5⟩:=mv;cases (show g'=s.gens from m2);cases (show d'=s.drawn from m3);cases (show o'=s.os from m4);exact⟨.int _,H,I.kept (t':=t2) (LSm.kept_iter m1),⟨_,rfl⟩,q⟩
theorem d4y{X:Cx}{K:Frag}(hc:X.calm=true)(h:X.K=K:=by rfl):a7z X (.builtin "sum") (λxs H Q=>∃(p:Addr)(ns:List Int),xs=[.ref p]/\SqL K H p (ns.map V.int)/\Q (.int ns.sum) H):=h ▸ d4z hc
end L2
namespace L2
open PySem PyProof.Rows
theorem e5h{P:Program}{w:World}{k:Key}{u:Value}(r:(a1f P w).is k u=true):RelV (kV k) u:=by
 rcases a0c r with ⟨i,t,rfl,rfl⟩|⟨x,t,rfl,rfl⟩
 ·exact⟨t,rfl⟩
 ·exact⟨t,rfl⟩
theorem c4w{F:V->Value->Prop}:∀{xs:List V}{us:List Value},xs.length=us.length->(∀(i:Nat)(x:V)(u:Value),xs[i]?=some x->us[i]?=some u->F x u)->Paired F xs us
 | [],[],_,_=>.nil
 | x::xs,u::us,hl,h=>.cons (h 0 x u rfl rfl) (c4w (Nat.succ.inj hl) λi y v a b=>h (i+1) y v a b)
 | [],_::_,hl,_=>nomatch hl
 | _::_,[],hl,_=>nomatch hl
theorem d1x{X:Cx}(hc:X.calm=true):a7z X (.type "list") (λxs H Q=>∃(a:Addr)(kvs:List (Key×V)),xs=[.ref a]/\H a=some (.dK kvs)/\∀l,H l=none->Q (.ref l) (upd H l (.lst (kvs.map λkv=>kV kv.1)))):=by
 intro pins s σ H xs us Q I r h;obtain⟨a,kvs,rfl,e,q⟩:=h;obtain⟨u,rfl,rx⟩:=r.one;cases rx;obtain⟨z,hd,vs,rel,dd⟩:=e4b I.hok e;obtain⟨o,es,ep,d1,d2,d3,d4⟩:=dd;have da:Heap.DictAt (a1f X.prog X.w) s.heap a vs ep:=⟨o,es,d1,d2,d3,d4⟩;have hlen:=rel.length;refine PySem.W.kdl_call (PySem.W.kdl_dict (knd:=a1f X.prog X.w) (kvs:=vs) (ep:=ep) hd) (I.ok.hd hc) da ↑5 (λh' tk acc c kp ea it=>?_);have ks:=rel.keys;have vl:Vals (kvs.map λkv=>kV kv.1) acc.toList:=by
  refine c4w (by rw[List.length_map,hlen,Array.length_toList];exact it.1.symm) λi x u hx hu=>?_
  have hu:acc[i]?=some u:=by simpa using hu
  obtain⟨k,y,e1,e2⟩:=it.2 i u hu;have e3:(kvs.map (·.1))[i]?=some k:=by rw[ks,List.getElem?_map,e1];rfl
  rw[List.getElem?_map] at e3 hx;cases q1:kvs[i]? with
  | none=>rw[q1] at hx;cases hx
  | some kv=>
   rw[q1] at hx e3;cases hx;cases e3;exact e5h e2
 exact⟨.ref s.heap.objs.size,_,I.laid (t':=tk) kp (Nat.le_refl _) (show ObjOk X.prog X.w _ h' _ (.lst (kvs.map λkv=>kV kv.1)) from⟨by rw[List.length_map];exact z,acc.toList,c,vl,by simpa using ea⟩),rfl,q _ (I.hok.fresh (Nat.le_refl _))⟩
theorem c8o{X:Cx}(hc:X.calm=true):a7z X (.type "list") (λxs H Q=>∃(a:Addr)(kvs:List (Key×V)),xs=[.ref a]/\H a=some (.dK kvs)/\∀l,H l=none->Q (.ref l) (upd H l (.lst (kvs.map λkv=>kV kv.1)))):=d1x hc
end L2
namespace L2
open PySem PyProof.Rows
theorem d4d{X:Cx}{K:Frag}(hK:X.K=K:=by rfl):e7i X (λo i H Q=>∃p xs k v,o=.ref p/\i=.int k/\SqL K H p xs/\0<=k/\xs[k.toNat]?=some v/\Q v H):=by
 subst hK;intro pins s σ H o i ov iv Q I ro ri h;obtain⟨p,xs,k,v,rfl,rfl,hq,h0,he,q⟩:=h;cases ro;obtain⟨t,rfl⟩:=ri;obtain⟨its,r,pl,hz⟩:=I.list hq;obtain⟨w,ew,rw'⟩:=r.get he;have hl:=r.length;have hn:=c6a;have hlt:k.toNat<xs.length:=(List.getElem?_eq_some_iff.mp he).1;have fin:EP X pins σ Q w s:=⟨v,H,I,rw',q⟩;refine wpAny_getItem_list pl.isList h0 ↑5 (by simpa using ew) fin
end L2
namespace Pr
theorem c3b{n i j:Nat}(e:i % n=j % n)(h1:i<j+n)(h2:j<i+n):i=j:=by
 have a:=Nat.sub_mod_eq_zero_of_mod_eq e;have b:=Nat.sub_mod_eq_zero_of_mod_eq e.symm;have c:i-j=0:=by
  have:i-j<n:=by lia
  rwa [Nat.mod_eq_of_lt this] at a
 have d:j-i=0:=by
  have:j-i<n:=by lia
  rwa [Nat.mod_eq_of_lt this] at b
 lia
def lap(n i:Nat):Nat:=(i / n) % 2
theorem b8u(n i:Nat):lap n i<2:=Nat.mod_lt _ ↑5
theorem c8f{n i:Nat}(h:0<n):lap n (i+n)=1-lap n i:=by
 unfold lap;rw[Nat.add_div_right _ h];lia
theorem b9y(n i:Nat):(i % (2*n)) % n=i % n:=Nat.mod_mod_of_dvd _ ⟨2,by lia⟩
theorem c8s(n i:Nat):(i % (2*n)) / n=lap n i:=by
 unfold lap;rw[Nat.mul_comm 2 n,Nat.mod_mul_right_div_self]
theorem c0p{n i:Nat}(h:0<n):i % (2*n)<2*n:=Nat.mod_lt _ ↑5
theorem c8t{n i j:Nat}(e:i % (2*n)=j % (2*n))(h1:i<=j+n)(h2:j<=i+n)(h:0<n):i=j:=c3b e ↑5 ↑5
def b9a(n i q:Nat):Nat:=if q<i % n then lap n i else 1-lap n i
abbrev Cells:=Nat->Int
def put(c:Cells)(i:Nat)(v:Int):Cells:=λj=>if j=i then v else c j
theorem put_same(c:Cells)(i:Nat)(v:Int):put c i v i=v:=if_pos rfl
theorem put_ne(c:Cells){i j:Nat}(v:Int)(h:j≠i):put c i v j=c j:=if_neg h
def mkv(n f i:Nat):Int:=2*(lap n i:Int)+(if f<=i then 1 else 0)
structure Marks(n f g:Nat)(c:Cells):Prop where
 old:∀i,i<g->g<=i+n->c (4*(i % n))=mkv n f i
 new:∀q,q<n->g<=q->c (4*q)=2
section
variable{n f g t:Nat}{c:Cells}
theorem Marks.give(h:Marks n f g c)(hn:0<n)(fg:f<=g)(gf:g<f+n):Marks n f (g+1) (put c (4*(g % n)) (2*(lap n g:Int)+1)) where
 old:=λi h1 h2=>by
  by_cases e:i=g
  ·subst e
   rw[put_same];unfold mkv;rw[if_pos fg]
  ·have ne:i % n≠g % n:=λz=>e (c3b z ↑5 ↑5)
   rw[put_ne _ _ ↑5];exact h.old i ↑5 ↑5
 new:=λq h1 h2=>by
  have ne:q≠g % n:=by
   rw[Nat.mod_eq_of_lt ↑5];lia
  rw[put_ne _ _ ↑5];exact h.new q h1 ↑5
theorem Marks.free(h:Marks n f g c)(hn:0<n)(fg:f<g)(gf:g<=f+n):Marks n (f+1) g (put c (4*(f % n)) (2*(lap n f:Int))) where
 old:=λi h1 h2=>by
  by_cases e:i=f
  ·subst e
   rw[put_same];unfold mkv;rw[if_neg ↑5];lia
  ·have ne:i % n≠f % n:=λz=>e (c3b z ↑5 ↑5)
   rw[put_ne _ _ ↑5,h.old i h1 h2];unfold mkv;by_cases z:f<=i
   ·rw[if_pos z,if_pos ↑5]
   ·rw[if_neg z,if_neg ↑5]
 new:=λq h1 h2=>by
  have ne:q≠f % n:=by
   rw[Nat.mod_eq_of_lt ↑5];lia
  rw[put_ne _ _ ↑5];exact h.new q h1 h2
theorem Marks.other(h:Marks n f g c){i:Nat}{v:Int}(hn:0<n)(ne:∀q,q<n->i≠4*q):Marks n f g (put c i v) where
 old:=λj h1 h2=>by rw[put_ne _ _ (Ne.symm (ne _ (Nat.mod_lt _ hn)))];exact h.old j h1 h2
 new:=λq h1 h2=>by rw[put_ne _ _ (Ne.symm (ne _ h1))];exact h.new q h1 h2
theorem Marks.mayGive(h:Marks n f g c)(hn:0<n)(fg:f<=g)(gf:g<=f+n):c (4*(g % n))=2*(1-(lap n g:Int)) ↔ g<f+n:=by
 by_cases z:g<n
 ·have e:g % n=g:=Nat.mod_eq_of_lt z
  have l0:lap n g=0:=by unfold lap;rw[Nat.div_eq_of_lt z]
  rw[e,h.new g z (Nat.le_refl _),l0];lia
 ·obtain⟨i,rfl⟩:∃i,g=i+n:=⟨g-n,by lia⟩
  have l:=c8f (i:=i) hn;have l2:=b8u n i;rw[Nat.add_mod_right,h.old i ↑5 ↑5,l];unfold mkv;by_cases y:f<=i
  ·rw[if_pos y];lia
  ·rw[if_neg y];lia
theorem Marks.mayTake(h:Marks n f g c)(hn:0<n)(ft:f<=t)(tg:t<=g)(gf:g<=f+n):c (4*(t % n))=2*(lap n t:Int)+1 ↔ t<g:=by
 by_cases z:t<g
 ·rw[h.old t z ↑5]
  unfold mkv;rw[if_pos ft];lia
 ·have e:t=g:=by lia
  subst e;by_cases y:t<n
  ·have e:t % n=t:=Nat.mod_eq_of_lt y
   have l0:lap n t=0:=by unfold lap;rw[Nat.div_eq_of_lt y]
   rw[e,h.new t y (Nat.le_refl _),l0];lia
  ·obtain⟨i,rfl⟩:∃i,t=i+n:=⟨t-n,by lia⟩
   have l:=c8f (i:=i) hn;have l2:=b8u n i;rw[Nat.add_mod_right,h.old i ↑5 ↑5,l];unfold mkv;by_cases y:f<=i
   ·rw[if_pos y];lia
   ·rw[if_neg y];lia
theorem a5o{n i q:Nat}(hq:q<n)(k:Nat)(e:i=n*k+q):i % n=q/\i / n=k:=by
 subst e;constructor
 ·rw[Nat.mul_add_mod,Nat.mod_eq_of_lt hq]
 ·rw[Nat.mul_add_div ↑5,Nat.div_eq_of_lt hq];lia
theorem c8e{n g q:Nat}(hn:0<n)(hq:q<n):(g<=q/\¬ q<g % n/\lap n g=0) \/ ∃i,i<g/\g<=i+n/\i % n=q/\(lap n i=if q<g % n then lap n g else 1-lap n g):=by
 have hg:=Nat.div_add_mod g n;have hr:=Nat.mod_lt g hn;by_cases z:q<g % n
 ·refine .inr ⟨n*(g / n)+q,by lia,by lia,(a5o hq _ rfl).1,?_⟩
  rw[if_pos z];unfold lap;rw[(a5o hq _ rfl).2]
 ·by_cases y:g<n
  ·refine .inl ⟨?_,z,?_⟩
   ·rw[Nat.mod_eq_of_lt y] at z;lia
   ·unfold lap;rw[Nat.div_eq_of_lt y]
  ·have h1:1<=g / n:=(Nat.one_le_div_iff hn).mpr ↑5
   obtain⟨k,hk⟩:∃k,g / n=k+1:=⟨g / n-1,by lia⟩
   have e2:n*(g / n)=n*k+n:=by rw[hk,Nat.mul_succ]
   refine .inr ⟨n*k+q,by lia,by lia,(a5o hq _ rfl).1,?_⟩
   rw[if_neg z];unfold lap;rw[(a5o hq _ rfl).2,hk];lia
theorem Marks.laps(h:Marks n f g c)(hn:0<n){q:Nat}(hq:q<n):c (4*q) / 2=(b9a n g q:Int):=by
 unfold b9a;rcases c8e (g:=g) hn hq with ⟨a,b,l⟩|⟨i,h1,h2,e,l⟩
 ·rw[h.new q hq a,if_neg b,l];rfl
 ·have:=h.old i h1 h2
  rw[e] at this;rw[this,<- l];unfold mkv;have:=b8u n i;split <;> lia
theorem Marks.sides(h:Marks n f g c)(hn:0<n)(fg:f<=g)(gf:g<=f+n){q:Nat}(hq:q<n):(if c (4*q) / 2≠c (4*q) % 2 then (1:Int) else 0)=(b9a n f q:Int):=by
 unfold b9a;have lf:=b8u n f;rcases c8e (g:=f) hn hq with ⟨a,b,l⟩|⟨i,h1,h2,e,l⟩
 ·rw[if_neg b,l]
  by_cases z:g<=q
  ·rw[h.new q hq z];rfl
  ·have e:q % n=q:=Nat.mod_eq_of_lt hq
   have:=h.old q ↑5 ↑5;rw[e] at this;have l0:lap n q=0:=by unfold lap;rw[Nat.div_eq_of_lt hq]
   have e1:mkv n f q=1:=by unfold mkv;rw[l0,if_pos a];rfl
   rw[this,e1]
   rfl
 ·rw[<- l]
  have li:=b8u n i;by_cases z:g<=i+n
  ·have:=h.old i ↑5 z
   rw[e] at this;have e1:mkv n f i=2*(lap n i:Int):=by unfold mkv;rw[if_neg ↑5];lia
   rw[this,e1];split <;> lia
  ·have:=h.old (i+n) ↑5 ↑5
   rw[Nat.add_mod_right,e] at this;have e1:mkv n f (i+n)=2*((1-lap n i:Nat):Int)+1:=by unfold mkv;rw[c8f hn,if_pos ↑5]
   rw[this,e1];split <;> lia
theorem Marks.range(h:Marks n f g c)(hn:0<n){q:Nat}(hq:q<n):0<=c (4*q)/\c (4*q)<=3:=by
 rcases c8e (g:=g) hn hq with ⟨a,b,l⟩|⟨i,h1,h2,e,l⟩
 ·rw[h.new q hq a];lia
 ·have:=h.old i h1 h2
  rw[e] at this;rw[this];unfold mkv;have:=b8u n i;split <;> lia
end
end Pr
namespace Pr
def tot(os:List (List Int)):Nat:=os.flatten.length
def l9:List (List Int)->Nat->Nat
 | [],_=>0
 | o::os,i=>if i<o.length then 0 else l9 os (i-o.length)+1
def n9:List (List Int)->Nat->Nat
 | [],_=>0
 | o::os,i=>if i<o.length then o.length-1-i else n9 os (i-o.length)
def a0a(os:List (List Int))(i:Nat):Int:=os.flatten.getD i 0
def beg(os:List (List Int))(j:Nat):Nat:=tot (os.take j)
theorem a9v(o:List Int)(os:List (List Int)):tot (o::os)=o.length+tot os:=by simp[tot]
theorem d0j(os ps:List (List Int)):tot (os++ps)=tot os+tot ps:=by simp[tot]
theorem a0g(o:List Int)(os:List (List Int))(j:Nat):beg (o::os) (j+1)=o.length+beg os j:=by simp[beg,a9v]
theorem a2o(os:List (List Int)):beg os 0=0:=by simp[beg,tot]
def Good(n:Nat)(os:List (List Int)):Prop:=∀o∈os,1<=o.length/\o.length<=n
theorem Good.tail{n:Nat}{o:List Int}{os:List (List Int)}(h:Good n (o::os)):Good n os:=λp hp=>h p (List.mem_cons_of_mem _ hp)
theorem Good.head{n:Nat}{o:List Int}{os:List (List Int)}(h:Good n (o::os)):1<=o.length/\o.length<=n:=h o List.mem_cons_self
theorem a7u:∀{os:List (List Int)}{i:Nat},i<tot os->l9 os i<os.length
 | [],i,h=>by simp[tot] at h
 | o::os,i,h=>by
  rw[a9v] at h;unfold l9;split
  ·simp
  ·have:=a7u (os:=os) (i:=i-o.length) ↑5
   simp;lia
theorem a2m{n:Nat}:∀{os:List (List Int)}{i:Nat},i<tot os->beg os (l9 os i)<=i/\i+n9 os i+1=beg os (l9 os i+1)
 | [],i,h=>by simp[tot] at h
 | o::os,i,h=>by
  rw[a9v] at h;unfold l9 n9;split
  ·rename_i hi
   rw[a2o,a0g,a2o];lia
  ·have:=a2m (n:=n) (os:=os) (i:=i-o.length) ↑5
   rw[a0g,a0g];lia
theorem d0e:∀(os:List (List Int)){j k:Nat},j<=k->beg os j<=beg os k
 | [],j,k,h=>by simp[beg,tot]
 | o::os,0,k,h=>by rw[a2o];lia
 | o::os,j+1,0,h=>by lia
 | o::os,j+1,k+1,h=>by
  rw[a0g,a0g];have:=d0e os (j:=j) (k:=k) ↑5;lia
theorem b0k:∀(os:List (List Int))(j:Nat),beg os j<=tot os
 | [],j=>by simp[beg,tot]
 | o::os,0=>by rw[a2o];lia
 | o::os,j+1=>by rw[a0g,a9v];have:=b0k os j;lia
theorem d5h(os:List (List Int)){j:Nat}(h:os.length<=j):beg os j=tot os:=by unfold beg;rw[List.take_of_length_le h]
theorem a3o:∀{os:List (List Int)}{i j:Nat},beg os j<=i->i<beg os (j+1)->l9 os i=j
 | [],i,j,h1,h2=>by simp[beg,tot] at h2
 | o::os,i,0,h1,h2=>by
  rw[a0g,a2o] at h2;unfold l9;rw[if_pos ↑5]
 | o::os,i,j+1,h1,h2=>by
  rw[a0g] at h1 h2;unfold l9;rw[if_neg ↑5,a3o (os:=os) (i:=i-o.length) (j:=j) ↑5 ↑5]
theorem next_part{os:List (List Int)}{i:Nat}(hi:i<tot os)(hl:0<n9 os i):i+1<tot os/\l9 os (i+1)=l9 os i/\n9 os (i+1)+1=n9 os i:=by
 obtain⟨a,b⟩:=a2m (n:=0) hi;have c:=b0k os (l9 os i+1);have d:l9 os (i+1)=l9 os i:=a3o ↑5 ↑5;obtain⟨e,e2⟩:=a2m (n:=0) (os:=os) (i:=i+1) ↑5;rw[d] at e2;exact⟨by lia,d,by lia⟩
theorem d0f{n:Nat}:∀{os:List (List Int)}{j:Nat},Good n os->j<os.length->beg os j<beg os (j+1)/\beg os (j+1)<=beg os j+n
 | [],j,h,hj=>by simp at hj
 | o::os,0,h,hj=>by
  rw[a0g,a2o,a2o];have:=h.head;lia
 | o::os,j+1,h,hj=>by
  rw[a0g,a0g];have:=d0f (os:=os) (j:=j) h.tail (by simp at hj;lia)
  lia
theorem next_order{n:Nat}{os:List (List Int)}{i:Nat}(g:Good n os)(hi:i+1<tot os)(hl:n9 os i=0):l9 os (i+1)=l9 os i+1/\beg os (l9 os i+1)=i+1:=by
 obtain⟨a,b⟩:=a2m (n:=0) (os:=os) (i:=i) ↑5;rw[hl] at b;have nl:=a7u (os:=os) (i:=i) ↑5;have c:l9 os i+1<os.length:=by
  by_cases z:l9 os i+1<os.length
  ·exact z
  ·have:=d5h os (j:=l9 os i+1) ↑5
   lia
 have d:=d0f g c;exact⟨a3o ↑5 ↑5,by lia⟩
theorem d3m{n:Nat}{os:List (List Int)}(g:Good n os)(h:0<tot os):l9 os 0=0:=by
 cases os with
 | nil=>simp[tot] at h
 | cons o os=>
  unfold l9;rw[if_pos (by have:=g.head;lia)]
theorem c3r{os:List (List Int)}{j:Nat}{o:List Int}(h:os[j]?=some o):∀m,m<o.length->a0a os (beg os j+m)=o.getD m 0:=by
 induction os generalizing j with
 | nil=>simp at h
 | cons p os ih=>
  intro m hm;cases j with
  | zero=>
   simp at h;subst h;rw[a2o,Nat.zero_add];unfold a0a;rw[List.flatten_cons,List.getD_eq_getElem?_getD,List.getElem?_append_left hm,List.getD_eq_getElem?_getD]
  | succ j=>
   have h':os[j]?=some o:=by simpa using h
   rw[a0g,<- ih h' m hm];unfold a0a;rw[List.flatten_cons,List.getD_eq_getElem?_getD,List.getD_eq_getElem?_getD,List.getElem?_append_right ↑5]
   congr 2
   lia
theorem d0d{os:List (List Int)}{j:Nat}{o:List Int}(h:os[j]?=some o):beg os (j+1)=beg os j+o.length:=by
 induction os generalizing j with
 | nil=>simp at h
 | cons p os ih=>
  cases j with
  | zero=>
   simp at h;subst h;rw[a0g,a2o,a2o];lia
  | succ j=>
   have h':os[j]?=some o:=by simpa using h
   rw[a0g,a0g,ih h'];lia
theorem a4g:∀{os ps:List (List Int)}{i:Nat},i<tot os->l9 (os++ps) i=l9 os i/\n9 (os++ps) i=n9 os i
 | [],ps,i,h=>by simp[tot] at h
 | o::os,ps,i,h=>by
  rw[a9v] at h;rw[List.cons_append];unfold l9 n9;by_cases z:i<o.length
  ·simp only[if_pos z];exact⟨trivial,trivial⟩
  ·simp only[if_neg z]
   have:=a4g (os:=os) (ps:=ps) (i:=i-o.length) ↑5;rw[this.1,this.2];exact⟨rfl,rfl⟩
theorem b5r{os ps:List (List Int)}{i:Nat}(h:i<tot os):a0a (os++ps) i=a0a os i:=by
 unfold a0a;rw[List.flatten_append,List.getD_eq_getElem?_getD,List.getElem?_append_left h,List.getD_eq_getElem?_getD]
theorem d6u{os ps:List (List Int)}{j:Nat}(h:j<=os.length):beg (os++ps) j=beg os j:=by
 unfold beg;rw[List.take_append_of_le_length h]
end Pr
namespace Pr
inductive Stg where
 | rouse|clear|mute|marks|told|lacks|look|wish|again|sleep|hush|unwish|number|left|thing|mark|card|ring|free
 deriving DecidableEq
structure Ln where
 n:Nat
 c:Cells
 os:List (List Int)
 bk:List (List Int)
 gs:Stg
 gseen:List Int
 ts:Stg
 tseen:List Int
 f:Nat
 g:Nat
 t:Nat
abbrev Ln.put(s:Ln)(i:Nat)(v:Int):Ln:={ s with c:=Pr.put s.c i v }
def a0m(os:List (List Int))(a k:Nat):List Int:=(List.range k).map λm=>a0a os (a+m)
def gstep(s:Ln):Ln :=
 match s.gs with
 | .rouse=>{ s.put (4*s.n+3) 1 with gs:=.clear }
 | .clear=>{ s.put (4*s.n) (-1) with gs:=.mute }
 | .mute=>{ s.put (4*s.n+2) 0 with gs:=.marks }
 | .marks=>if s.gseen.length+1<s.n then { s with gseen:=s.gseen++[s.c (4*s.gseen.length)] } else { s with gseen:=[],gs:=.told }
 | .told=>{ s with gs:=.lacks }
 | .lacks=>{ s with gs:=.look }
 | .look=>if s.g<tot s.os then (if s.c (4*(s.g % s.n))=2*(1-(lap s.n s.g:Int)) then { s with gs:=.number } else { s with gs:=.wish }) else s
 | .wish=>{ s.put (4*s.n) ((s.g % (2*s.n):Nat):Int) with gs:=.again }
 | .again=>if s.c (4*(s.g % s.n))=2*(1-(lap s.n s.g:Int)) then { s with gs:=.unwish } else { s with gs:=.sleep }
 | .sleep=>if s.c (4*s.n+2)=0 then s else { s with gs:=.hush }
 | .hush=>{ s.put (4*s.n+2) 0 with gs:=.unwish }
 | .unwish=>{ s.put (4*s.n) (-1) with gs:=.look }
 | .number=>{ s.put (4*(s.g % s.n)+1) (l9 s.os s.g) with gs:=.left }
 | .left=>{ s.put (4*(s.g % s.n)+2) (n9 s.os s.g) with gs:=.thing }
 | .thing=>{ s.put (4*(s.g % s.n)+3) (a0a s.os s.g) with gs:=.mark }
 | .mark=>{ s.put (4*(s.g % s.n)) (2*(lap s.n s.g:Int)+1) with gs:=.card,g:=s.g+1 }
 | .card=>if s.c (4*s.n+1)=(((s.g-1) % (2*s.n):Nat):Int) then { s with gs:=.ring } else { s with gs:=.look }
 | .ring=>{ s.put (4*s.n+3) 1 with gs:=.look }
 | .free=>s
def b2u(s:Ln):Ln:=if s.f=s.t+1 then { s with ts:=.look,t:=s.f } else { s with ts:=.free }
def tstep(s:Ln):Ln :=
 match s.ts with
 | .rouse=>{ s.put (4*s.n+2) 1 with ts:=.clear }
 | .clear=>{ s.put (4*s.n+1) (-1) with ts:=.mute }
 | .mute=>{ s.put (4*s.n+3) 0 with ts:=.marks }
 | .marks=>if s.tseen.length+1<s.n then { s with tseen:=s.tseen++[s.c (4*s.tseen.length)] } else { s with tseen:=[],ts:=.look }
 | .look=>if s.c (4*(s.t % s.n))=2*(lap s.n s.t:Int)+1 then { s with ts:=.number } else { s with ts:=.wish }
 | .wish=>{ s.put (4*s.n+1) ((s.t % (2*s.n):Nat):Int) with ts:=.again }
 | .again=>if s.c (4*(s.t % s.n))=2*(lap s.n s.t:Int)+1 then { s with ts:=.unwish } else { s with ts:=.sleep }
 | .sleep=>if s.c (4*s.n+3)=0 then s else { s with ts:=.hush }
 | .hush=>{ s.put (4*s.n+3) 0 with ts:=.unwish }
 | .unwish=>{ s.put (4*s.n+1) (-1) with ts:=.look }
 | .number=>{ s with ts:=.left }
 | .left=>{ s with ts:=.thing }
 | .thing=>if 0<n9 s.os s.t then { s with ts:=.look,t:=s.t+1 } else { s with ts:=.free,bk:=if l9 s.os s.t=s.bk.length then s.bk++[a0m s.os s.f (s.t+1-s.f)] else s.bk }
 | .free=>{ s.put (4*(s.f % s.n)) (2*(lap s.n s.f:Int)) with ts:=.card,f:=s.f+1 }
 | .card=>if s.c (4*s.n)=(((s.f-1+s.n) % (2*s.n):Nat):Int) then { s with ts:=.ring } else b2u s
 | .ring=>b2u (s.put (4*s.n+2) 1)
 | .told|.lacks|.mark=>s
def gfall(s:Ln):Ln:={ s with gs:=.rouse,gseen:=[] }
def tfall(s:Ln):Ln:={ s with ts:=.rouse,tseen:=[],t:=s.f }
def a1m(s:Ln)(o:List Int):Ln:={ s with os:=s.os++[o] }
def Stg.wait:Stg->Bool
 | .wish|.again|.sleep|.hush|.unwish=>true
 | _=>false
def Stg.gives:Stg->Bool
 | .number|.left|.thing|.mark=>true
 | _=>false
def Stg.takes:Stg->Bool
 | .number|.left|.thing=>true
 | _=>false
def Stg.frees:Stg->Bool
 | .card|.ring=>true
 | _=>false
structure Core(s:Ln):Prop where
 n2:2<=s.n
 n8:s.n<=8
 good:Good s.n s.os
 fg:s.f<=s.g
 gf:s.g<=s.f+s.n
 gt:s.g<=tot s.os
 mks:Marks s.n s.f s.g s.c
 slip:∀i,i<s.g->(s.g<i+s.n\/s.f<=i)->s.c (4*(i % s.n)+1)=l9 s.os i/\s.c (4*(i % s.n)+2)=n9 s.os i/\s.c (4*(i % s.n)+3)=a0a s.os i
 slip0:s.g=0->s.c (4*(s.n-1)+1)=-1/\s.c (4*(s.n-1)+2)=0
structure GOk(s:Ln):Prop where
 st:s.gs≠.free
 seen0:s.gs≠.marks->s.gseen=[]
 seen:s.gseen.length<s.n/\∀q m,s.gseen[q]?=some m->m / 2=(b9a s.n s.g q:Int)/\0<=m/\m<=3
 want:s.gs.wait=true->s.g<tot s.os
 room:s.gs.gives=true->s.g<tot s.os/\s.g<s.f+s.n
 c1:s.gs=.left\/s.gs=.thing\/s.gs=.mark->s.c (4*(s.g % s.n)+1)=l9 s.os s.g
 c2:s.gs=.thing\/s.gs=.mark->s.c (4*(s.g % s.n)+2)=n9 s.os s.g
 c3:s.gs=.mark->s.c (4*(s.g % s.n)+3)=a0a s.os s.g
 pos:s.gs.frees=true->0<s.g
structure TOk(s:Ln):Prop where
 st:s.ts≠.told/\s.ts≠.lacks/\s.ts≠.mark
 seen0:s.ts≠.marks->s.tseen=[]
 seen:s.tseen.length<s.n/\∀q m,s.tseen[q]?=some m->(if m / 2≠m % 2 then (1:Int) else 0)=(b9a s.n s.f q:Int)/\0<=m/\m<=3
 bk:s.bk=s.os.take s.bk.length
 bl:s.bk.length<=s.os.length
 bf:s.f<=beg s.os s.bk.length
 bf0:∀b,s.bk.length=b+1->beg s.os b<=s.f
 ft:s.f<=s.t+(if s.ts.frees then 1 else 0)
 tg:s.t<=s.g
 run:∀i,s.f<=i+(if s.ts.frees then 1 else 0)->i<s.t->0<n9 s.os i
 come:s.ts=.rouse\/s.ts=.clear\/s.ts=.mute\/s.ts=.marks->s.t=s.f
 lies:s.ts.takes=true->s.t<s.g
 last:s.ts=.free\/s.ts.frees=true->s.t<s.g/\n9 s.os s.t=0/\l9 s.os s.t+1=s.bk.length
 pos:s.ts.frees=true->0<s.f
structure e6l(s:Ln):Prop where
 gcard:s.gs=.again\/s.gs=.sleep->s.c (4*s.n)=((s.g % (2*s.n):Nat):Int)
 tcard:s.ts=.again\/s.ts=.sleep->s.c (4*s.n+1)=((s.t % (2*s.n):Nat):Int)
 gbell:s.gs=.sleep->s.g<s.f+s.n->s.c (4*s.n+2)=0->(s.ts=.card/\s.f+s.n=s.g+1)\/s.ts=.ring\/s.ts=.rouse
 tbell:s.ts=.sleep->s.t<s.g->s.c (4*s.n+3)=0->(s.gs=.card/\s.g=s.t+1)\/s.gs=.ring\/s.gs=.rouse
 cards:∀k,k<2->-1<=s.c (4*s.n+k)/\s.c (4*s.n+k)<2*s.n
 bells:∀k,k<2->s.c (4*s.n+2+k)=0\/s.c (4*s.n+2+k)=1
structure Ok(s:Ln):Prop where
 core:Core s
 gv:GOk s
 tk:TOk s
 bl:e6l s
section
variable{s:Ln}
theorem Core.pl(h:Core s)(i:Nat):i % s.n<s.n:=Nat.mod_lt _ (by have:=h.n2;lia)
theorem Core.high(h:Core s){k:Nat}{v:Int}(hk:4*s.n<=k):Core (s.put k v):=by
 have hn:0<s.n:=by have:=h.n2;lia
 exact {
  n2:=h.n2,n8:=h.n8,good:=h.good,fg:=h.fg,gf:=h.gf,gt:=h.gt
  mks:=h.mks.other hn λq hq=>by lia
  slip:=λi h1 h2=>by
   have:=h.pl i;obtain⟨a,b,c⟩:=h.slip i h1 h2;refine⟨?_,?_,?_⟩
   ·exact(put_ne _ _ (by show 4*(i % s.n)+1≠k;lia)).trans a
   ·exact(put_ne _ _ (by show 4*(i % s.n)+2≠k;lia)).trans b
   ·exact(put_ne _ _ (by show 4*(i % s.n)+3≠k;lia)).trans c
  slip0:=λe=>by
   have:=h.n2;obtain⟨a,b⟩:=h.slip0 e;exact⟨(put_ne _ _ (by show 4*(s.n-1)+1≠k;lia)).trans a,(put_ne _ _ (by show 4*(s.n-1)+2≠k;lia)).trans b⟩ }
theorem Core.ahead(h:Core s)(room:s.g<s.f+s.n){k:Nat}{v:Int}(k1:1<=k)(k3:k<=3):Core (s.put (4*(s.g % s.n)+k) v):=by
 have hn:0<s.n:=by have:=h.n2;lia
 have hp:=h.pl s.g;exact {
  n2:=h.n2,n8:=h.n8,good:=h.good,fg:=h.fg,gf:=h.gf,gt:=h.gt
  mks:=h.mks.other hn λq hq=>by lia
  slip:=λi h1 h2=>by
   have h1':i<s.g:=h1;have h2':s.g<i+s.n\/s.f<=i:=h2;have ne:i % s.n≠s.g % s.n:=λz=>by have:=c3b z ↑5 ↑5;lia
   obtain⟨a,b,c⟩:=h.slip i h1 h2;refine⟨?_,?_,?_⟩
   ·exact(put_ne _ _ (by show 4*(i % s.n)+1≠_;lia)).trans a
   ·exact(put_ne _ _ (by show 4*(i % s.n)+2≠_;lia)).trans b
   ·exact(put_ne _ _ (by show 4*(i % s.n)+3≠_;lia)).trans c
  slip0:=λe=>by
   have:=h.n2;have e':s.g=0:=e;have hz:s.g % s.n=0:=by rw[e',Nat.zero_mod]
   obtain⟨a,b⟩:=h.slip0 e;exact⟨(put_ne _ _ (by show 4*(s.n-1)+1≠_;lia)).trans a,(put_ne _ _ (by show 4*(s.n-1)+2≠_;lia)).trans b⟩ }
end
end Pr
namespace Pr
section
variable{s:Ln}
theorem Core.cong{s':Ln}(h:Core s)(e1:s'.n=s.n)(e2:s'.c=s.c)(e3:s'.os=s.os)(e4:s'.f=s.f)(e5:s'.g=s.g):Core s':=by
 obtain⟨n,c,os,bk,gs,gseen,ts,tseen,f,g,t⟩:=s;obtain⟨n',c',os',bk',gs',gseen',ts',tseen',f',g',t'⟩:=s';dsimp only at e1 e2 e3 e4 e5;subst e1 e2 e3 e4 e5;exact⟨h.n2,h.n8,h.good,h.fg,h.gf,h.gt,h.mks,h.slip,h.slip0⟩
theorem TOk.giver{s':Ln}(h:TOk s)(e1:s'.n=s.n)(e2:s'.os=s.os)(e3:s'.bk=s.bk)(e4:s'.ts=s.ts)(e5:s'.tseen=s.tseen)(e6:s'.f=s.f)(e7:s'.t=s.t)(le:s.g<=s'.g):TOk s':=by
 obtain⟨n,c,os,bk,gs,gseen,ts,tseen,f,g,t⟩:=s;obtain⟨n',c',os',bk',gs',gseen',ts',tseen',f',g',t'⟩:=s';dsimp only at e1 e2 e3 e4 e5 e6 e7 le;subst e1 e2 e3 e4 e5 e6 e7;exact⟨h.st,h.seen0,h.seen,h.bk,h.bl,h.bf,h.bf0,h.ft,Nat.le_trans h.tg le,h.run,h.come,λz=>Nat.lt_of_lt_of_le (h.lies z) le,λz=>⟨Nat.lt_of_lt_of_le (h.last z).1 le,(h.last z).2⟩,h.pos⟩
theorem GOk.taker{s':Ln}(h:GOk s)(e1:s'.n=s.n)(e2:s'.os=s.os)(e3:s'.gs=s.gs)(e4:s'.gseen=s.gseen)(e5:s'.g=s.g)(le:s.f<=s'.f)(hc:∀k,1<=k->k<=3->s'.c (4*(s.g % s.n)+k)=s.c (4*(s.g % s.n)+k)):GOk s':=by
 obtain⟨n,c,os,bk,gs,gseen,ts,tseen,f,g,t⟩:=s;obtain⟨n',c',os',bk',gs',gseen',ts',tseen',f',g',t'⟩:=s';dsimp only at e1 e2 e3 e4 e5 le hc;subst e1 e2 e3 e4 e5;refine⟨h.st,h.seen0,h.seen,h.want,λz=>⟨(h.room z).1,by have:=(h.room z).2;show g'<f'+n';dsimp only at this;lia⟩,λz=>?_,λz=>?_,λz=>?_,h.pos⟩
 ·exact(hc 1 ↑5 ↑5).trans (h.c1 z)
 ·exact(hc 2 ↑5 ↑5).trans (h.c2 z)
 ·exact(hc 3 ↑5 ↑5).trans (h.c3 z)
theorem Ok.hn(h:Ok s):0<s.n:=by have:=h.core.n2;lia
theorem a0u{n:Nat}(hn:0<n)(P:Nat->Int->Prop):([]:List Int).length<n/\∀q m,([]:List Int)[q]?=some m->P q m:=⟨hn,λq m e=>by simp at e⟩
theorem Ok.gmove(h:Ok s){x:Stg}{c':Cells}(core':Core { s with c:=c',gs:=x,gseen:=[] })(hx:x≠.free)(hw:x.wait=true->s.g<tot s.os)(hr:x.gives=true->s.g<tot s.os/\s.g<s.f+s.n)(h1:x=.left\/x=.thing\/x=.mark->c' (4*(s.g % s.n)+1)=l9 s.os s.g)(h2:x=.thing\/x=.mark->c' (4*(s.g % s.n)+2)=n9 s.os s.g)(h3:x=.mark->c' (4*(s.g % s.n)+3)=a0a s.os s.g)(hp:x.frees=true->0<s.g)(e1:c' (4*s.n+1)=s.c (4*s.n+1))(gc:x=.again\/x=.sleep->c' (4*s.n)=((s.g % (2*s.n):Nat):Int))(gb:x=.sleep->s.g<s.f+s.n->c' (4*s.n+2)=0->(s.ts=.card/\s.f+s.n=s.g+1)\/s.ts=.ring\/s.ts=.rouse)(tb:s.ts=.sleep->s.t<s.g->c' (4*s.n+3)=0->(x=.card/\s.g=s.t+1)\/x=.ring\/x=.rouse)(c0:-1<=c' (4*s.n)/\c' (4*s.n)<2*s.n)(b2:c' (4*s.n+2)=0\/c' (4*s.n+2)=1)(b3:c' (4*s.n+3)=0\/c' (4*s.n+3)=1):
  Ok { s with c:=c',gs:=x,gseen:=[] } where
 core:=core'
 gv:=⟨hx,λ_=>rfl,a0u h.hn _,hw,hr,h1,h2,h3,hp⟩
 tk:=h.tk.giver rfl rfl rfl rfl rfl rfl rfl (Nat.le_refl _)
 bl:=⟨gc,λz=>e1.trans (h.bl.tcard z),gb,tb,λk hk=>by
   have:k=0\/k=1:=by lia
   rcases this with rfl|rfl
   ·exact c0
   ·show -1<=c' (4*s.n+1)/\c' (4*s.n+1)<2*s.n
    rw[e1];exact h.bl.cards 1 ↑5,λk hk=>by
   have:k=0\/k=1:=by lia
   rcases this with rfl|rfl
   ·exact b2
   ·exact b3⟩
theorem g0(h:Ok s){x:Stg}(e:s.gs=x)(n:x≠.marks):s.gseen=[]:=h.gv.seen0 (by rw[e];exact n)
theorem a1x(h:Ok s){x:Stg}(e:s.gs=x)(n1:x≠.card)(n2:x≠.ring)(n3:x≠.rouse):¬ (s.ts=.sleep/\s.t<s.g/\s.c (4*s.n+3)=0):=by
 rintro⟨a,b,c⟩;rcases h.bl.tbell a b c with ⟨z,_⟩|z|z <;> rw[e] at z
 ·exact n1 z
 ·exact n2 z
 ·exact n3 z
end
end Pr
namespace Pr
section
variable{s:Ln}
theorem Ok.gmv(h:Ok s){x:Stg}{c':Cells}(hg:s.gseen=[] )(core':Core { s with c:=c' })(hx:x≠.free)(hw:x.wait=true->s.g<tot s.os)(hr:x.gives=true->s.g<tot s.os/\s.g<s.f+s.n)(h1:x=.left\/x=.thing\/x=.mark->c' (4*(s.g % s.n)+1)=l9 s.os s.g)(h2:x=.thing\/x=.mark->c' (4*(s.g % s.n)+2)=n9 s.os s.g)(h3:x=.mark->c' (4*(s.g % s.n)+3)=a0a s.os s.g)(hp:x.frees=true->0<s.g)(e1:c' (4*s.n+1)=s.c (4*s.n+1))(gc:x=.again\/x=.sleep->c' (4*s.n)=((s.g % (2*s.n):Nat):Int))(gb:x=.sleep->s.g<s.f+s.n->c' (4*s.n+2)=0->(s.ts=.card/\s.f+s.n=s.g+1)\/s.ts=.ring\/s.ts=.rouse)(tb:s.ts=.sleep->s.t<s.g->c' (4*s.n+3)=0->(x=.card/\s.g=s.t+1)\/x=.ring\/x=.rouse)(c0:-1<=c' (4*s.n)/\c' (4*s.n)<2*s.n)(b2:c' (4*s.n+2)=0\/c' (4*s.n+2)=1)(b3:c' (4*s.n+3)=0\/c' (4*s.n+3)=1):
  Ok { s with c:=c',gs:=x }:=by
 have e:({ s with c:=c',gs:=x }:Ln)={ s with c:=c',gs:=x,gseen:=[] }:=by rw[<- hg]
 rw[e];exact h.gmove (core'.cong rfl rfl rfl rfl rfl) hx hw hr h1 h2 h3 hp e1 gc gb tb c0 b2 b3
theorem a9j{c:Cells}{n i:Nat}{v:Int}(h:i≠0):put c (4*n+i) v (4*n)=c (4*n):=put_ne _ _ ↑5
theorem a7s{c:Cells}{n j:Nat}{v:Int}(h:j≠0):put c (4*n) v (4*n+j)=c (4*n+j):=put_ne _ _ ↑5
theorem n0{c:Cells}{n i j:Nat}{v:Int}(h:i≠j):put c (4*n+i) v (4*n+j)=c (4*n+j):=put_ne _ _ ↑5
theorem a9t{n i:Nat}(hn:0<n):-1<=((i % (2*n):Nat):Int)/\((i % (2*n):Nat):Int)<2*n:=by
 have:=c0p (n:=n) (i:=i) hn;lia
theorem c9p(h:Ok s):Ok (gstep s):=by
 have hn:=h.hn;have n2:=h.core.n2;have hp:=h.core.pl s.g;have c0:-1<=s.c (4*s.n)/\s.c (4*s.n)<2*s.n:=h.bl.cards 0 ↑5;have c1:=h.bl.cards 1 ↑5;have b2:s.c (4*s.n+2)=0\/s.c (4*s.n+2)=1:=h.bl.bells 0 ↑5;have b3:s.c (4*s.n+3)=0\/s.c (4*s.n+3)=1:=h.bl.bells 1 ↑5;have tr:=a9t (i:=s.g) hn;have mg:=h.core.mks.mayGive hn h.core.fg h.core.gf;unfold gstep;split
 ·
  rename_i e;refine h.gmv (c':=put s.c (4*s.n+3) 1) (g0 h e ↑3) (h.core.high ↑5) ↑3 ↑2 ↑2 ↑2 ↑2 ↑2 ↑2 (n0 ↑3) ↑2 ↑2 (λ_ _ z=>?_) ?_ ?_ ?_
  ·rw[put_same] at z;lia
  ·rw[a9j ↑3];exact c0
  ·rw[n0 ↑3];exact b2
  ·rw[put_same];exact .inr rfl
 ·
  rename_i e;have nr:=a1x h e ↑3 ↑3 ↑3;refine h.gmv (c':=put s.c (4*s.n) (-1)) (g0 h e ↑3) (h.core.high ↑5) ↑3 ↑2 ↑2 ↑2 ↑2 ↑2 ↑2 (a7s ↑3) ↑2 ↑2 (λa b z=>?_) ?_ ?_ ?_
  ·rw[a7s ↑3] at z;exact absurd ⟨a,b,z⟩ nr
  ·rw[put_same];lia
  ·rw[a7s ↑3];exact b2
  ·rw[a7s ↑3];exact b3
 ·
  rename_i e;have nr:=a1x h e ↑3 ↑3 ↑3;refine h.gmv (c':=put s.c (4*s.n+2) 0) (g0 h e ↑3) (h.core.high ↑5) ↑3 ↑2 ↑2 ↑2 ↑2 ↑2 ↑2 (n0 ↑3) ↑2 ↑2 (λa b z=>?_) ?_ ?_ ?_
  ·rw[n0 ↑3] at z;exact absurd ⟨a,b,z⟩ nr
  ·rw[a9j ↑3];exact c0
  ·rw[put_same];exact .inl rfl
  ·rw[n0 ↑3];exact b3
 ·
  rename_i e;have nr:=a1x h e ↑3 ↑3 ↑3;split
  ·rename_i hl
   refine⟨h.core.cong rfl rfl rfl rfl rfl,⟨h.gv.st,λz=>absurd e z,⟨?_,λq m hq=>?_⟩,h.gv.want,h.gv.room,h.gv.c1,h.gv.c2,h.gv.c3,h.gv.pos⟩,h.tk.giver rfl rfl rfl rfl rfl rfl rfl (Nat.le_refl _),⟨h.bl.gcard,h.bl.tcard,h.bl.gbell,h.bl.tbell,h.bl.cards,h.bl.bells⟩⟩
   ·show(s.gseen++[_]).length<s.n
    rw[List.length_append];exact hl
   ·have hq':(s.gseen++[s.c (4*s.gseen.length)])[q]?=some m:=hq
    by_cases z:q<s.gseen.length
    ·rw[List.getElem?_append_left z] at hq'
     exact h.gv.seen.2 q m hq'
    ·rw[List.getElem?_append_right ↑5] at hq'
     have hz:q=s.gseen.length:=by
      have:=(List.getElem?_eq_some_iff.mp hq').1;simp at this;lia
     subst hz;simp at hq';subst hq';exact⟨h.core.mks.laps hn h.gv.seen.1,h.core.mks.range hn h.gv.seen.1⟩
  ·exact h.gmove (c':=s.c) (x:=.told) (h.core.cong rfl rfl rfl rfl rfl) ↑3 ↑2 ↑2 ↑2 ↑2 ↑2 ↑2 rfl ↑2 ↑2 (λa b z=>absurd ⟨a,b,z⟩ nr) c0 b2 b3
 ·
  rename_i e;have nr:=a1x h e ↑3 ↑3 ↑3;exact h.gmv (c':=s.c) (g0 h e ↑3) h.core ↑3 ↑2 ↑2 ↑2 ↑2 ↑2 ↑2 rfl ↑2 ↑2 (λa b z=>absurd ⟨a,b,z⟩ nr) c0 b2 b3
 ·
  rename_i e;have nr:=a1x h e ↑3 ↑3 ↑3;exact h.gmv (c':=s.c) (g0 h e ↑3) h.core ↑3 ↑2 ↑2 ↑2 ↑2 ↑2 ↑2 rfl ↑2 ↑2 (λa b z=>absurd ⟨a,b,z⟩ nr) c0 b2 b3
 ·
  rename_i e;have nr:=a1x h e ↑3 ↑3 ↑3;split
  ·rename_i ht
   split
   ·rename_i hm
    exact h.gmv (c':=s.c) (g0 h e ↑3) h.core ↑3 ↑2 (λ_=>⟨ht,mg.mp hm⟩) ↑2 ↑2 ↑2 ↑2 rfl ↑2 ↑2 (λa b z=>absurd ⟨a,b,z⟩ nr) c0 b2 b3
   ·exact h.gmv (c':=s.c) (g0 h e ↑3) h.core ↑3 (λ_=>ht) ↑2 ↑2 ↑2 ↑2 ↑2 rfl ↑2 ↑2 (λa b z=>absurd ⟨a,b,z⟩ nr) c0 b2 b3
  ·exact h
 ·
  rename_i e;have nr:=a1x h e ↑3 ↑3 ↑3;have hw:=h.gv.want (by rw[e];rfl)
  refine h.gmv (c':=put s.c (4*s.n) ((s.g % (2*s.n):Nat):Int)) (g0 h e ↑3) (h.core.high ↑5) ↑3 (λ_=>hw) ↑2 ↑2 ↑2 ↑2 ↑2 (a7s ↑3) (λ_=>put_same _ _ _) ↑2 (λa b z=>?_) ?_ ?_ ?_
  ·rw[a7s ↑3] at z;exact absurd ⟨a,b,z⟩ nr
  ·rw[put_same];exact tr
  ·rw[a7s ↑3];exact b2
  ·rw[a7s ↑3];exact b3
 ·
  rename_i e;have nr:=a1x h e ↑3 ↑3 ↑3;have hw:=h.gv.want (by rw[e];rfl)
  have gc:=h.bl.gcard (.inl e);split
  ·exact h.gmv (c':=s.c) (g0 h e ↑3) h.core ↑3 (λ_=>hw) ↑2 ↑2 ↑2 ↑2 ↑2 rfl ↑2 ↑2 (λa b z=>absurd ⟨a,b,z⟩ nr) c0 b2 b3
  ·rename_i hm
   exact h.gmv (c':=s.c) (g0 h e ↑3) h.core ↑3 (λ_=>hw) ↑2 ↑2 ↑2 ↑2 ↑2 rfl (λ_=>gc) (λ_ z _=>absurd (mg.mpr z) hm) (λa b z=>absurd ⟨a,b,z⟩ nr) c0 b2 b3
 ·
  rename_i e;have nr:=a1x h e ↑3 ↑3 ↑3;have hw:=h.gv.want (by rw[e];rfl)
  split
  ·exact h
  ·exact h.gmv (c':=s.c) (g0 h e ↑3) h.core ↑3 (λ_=>hw) ↑2 ↑2 ↑2 ↑2 ↑2 rfl ↑2 ↑2 (λa b z=>absurd ⟨a,b,z⟩ nr) c0 b2 b3
 ·
  rename_i e;have nr:=a1x h e ↑3 ↑3 ↑3;have hw:=h.gv.want (by rw[e];rfl)
  refine h.gmv (c':=put s.c (4*s.n+2) 0) (g0 h e ↑3) (h.core.high ↑5) ↑3 (λ_=>hw) ↑2 ↑2 ↑2 ↑2 ↑2 (n0 ↑3) ↑2 ↑2 (λa b z=>?_) ?_ ?_ ?_
  ·rw[n0 ↑3] at z;exact absurd ⟨a,b,z⟩ nr
  ·rw[a9j ↑3];exact c0
  ·rw[put_same];exact .inl rfl
  ·rw[n0 ↑3];exact b3
 ·
  rename_i e;have nr:=a1x h e ↑3 ↑3 ↑3;refine h.gmv (c':=put s.c (4*s.n) (-1)) (g0 h e ↑3) (h.core.high ↑5) ↑3 ↑2 ↑2 ↑2 ↑2 ↑2 ↑2 (a7s ↑3) ↑2 ↑2 (λa b z=>?_) ?_ ?_ ?_
  ·rw[a7s ↑3] at z;exact absurd ⟨a,b,z⟩ nr
  ·rw[put_same];lia
  ·rw[a7s ↑3];exact b2
  ·rw[a7s ↑3];exact b3
 ·
  rename_i e;have nr:=a1x h e ↑3 ↑3 ↑3;obtain⟨r1,r2⟩:=h.gv.room (by rw[e];rfl)
  have low:∀{k:Nat}{v:Int},put s.c (4*(s.g % s.n)+1) v (4*s.n+k)=s.c (4*s.n+k):=λ{k v}=>put_ne _ _ ↑5;have low0:∀{v:Int},put s.c (4*(s.g % s.n)+1) v (4*s.n)=s.c (4*s.n):=λ{v}=>put_ne _ _ ↑5;refine h.gmv (c':=put s.c (4*(s.g % s.n)+1) (l9 s.os s.g)) (g0 h e ↑3) (h.core.ahead r2 ↑5 ↑5) ↑3 ↑2 (λ_=>⟨r1,r2⟩) (λ_=>put_same _ _ _) ↑2 ↑2 ↑2 low ↑2 ↑2 (λa b z=>?_) ?_ ?_ ?_
  ·rw[low] at z;exact absurd ⟨a,b,z⟩ nr
  ·rw[low0];exact c0
  ·rw[low];exact b2
  ·rw[low];exact b3
 ·
  rename_i e;have nr:=a1x h e ↑3 ↑3 ↑3;obtain⟨r1,r2⟩:=h.gv.room (by rw[e];rfl)
  have hc1:=h.gv.c1 (.inl e);have low:∀{k:Nat}{v:Int},put s.c (4*(s.g % s.n)+2) v (4*s.n+k)=s.c (4*s.n+k):=λ{k v}=>put_ne _ _ ↑5;have low0:∀{v:Int},put s.c (4*(s.g % s.n)+2) v (4*s.n)=s.c (4*s.n):=λ{v}=>put_ne _ _ ↑5;refine h.gmv (c':=put s.c (4*(s.g % s.n)+2) (n9 s.os s.g)) (g0 h e ↑3) (h.core.ahead r2 ↑5 ↑5) ↑3 ↑2 (λ_=>⟨r1,r2⟩) (λ_=>(put_ne _ _ ↑5).trans hc1) (λ_=>put_same _ _ _) ↑2 ↑2 low ↑2 ↑2 (λa b z=>?_) ?_ ?_ ?_
  ·rw[low] at z;exact absurd ⟨a,b,z⟩ nr
  ·rw[low0];exact c0
  ·rw[low];exact b2
  ·rw[low];exact b3
 ·
  rename_i e;have nr:=a1x h e ↑3 ↑3 ↑3;obtain⟨r1,r2⟩:=h.gv.room (by rw[e];rfl)
  have hc1:=h.gv.c1 (.inr (.inl e));have hc2:=h.gv.c2 (.inl e);have low:∀{k:Nat}{v:Int},put s.c (4*(s.g % s.n)+3) v (4*s.n+k)=s.c (4*s.n+k):=λ{k v}=>put_ne _ _ ↑5;have low0:∀{v:Int},put s.c (4*(s.g % s.n)+3) v (4*s.n)=s.c (4*s.n):=λ{v}=>put_ne _ _ ↑5;refine h.gmv (c':=put s.c (4*(s.g % s.n)+3) (a0a s.os s.g)) (g0 h e ↑3) (h.core.ahead r2 ↑5 ↑5) ↑3 ↑2 (λ_=>⟨r1,r2⟩) (λ_=>(put_ne _ _ ↑5).trans hc1) (λ_=>(put_ne _ _ ↑5).trans hc2) (λ_=>put_same _ _ _) ↑2 low ↑2 ↑2 (λa b z=>?_) ?_ ?_ ?_
  ·rw[low] at z;exact absurd ⟨a,b,z⟩ nr
  ·rw[low0];exact c0
  ·rw[low];exact b2
  ·rw[low];exact b3
 ·
  rename_i e;have nr:=a1x h e ↑3 ↑3 ↑3;obtain⟨r1,r2⟩:=h.gv.room (by rw[e];rfl)
  have hc1:=h.gv.c1 (.inr (.inr e));have hc2:=h.gv.c2 (.inr e);have hc3:=h.gv.c3 e;have low:∀{k:Nat}{v:Int},put s.c (4*(s.g % s.n)) v (4*s.n+k)=s.c (4*s.n+k):=λ{k v}=>put_ne _ _ ↑5;have low0:∀{v:Int},put s.c (4*(s.g % s.n)) v (4*s.n)=s.c (4*s.n):=λ{v}=>put_ne _ _ ↑5;have par:∀{i k:Nat}{v:Int},1<=k->k<=3->put s.c (4*(s.g % s.n)) v (4*(i % s.n)+k)=s.c (4*(i % s.n)+k):=λ{i k v} _ _=>put_ne _ _ ↑5;have hgs:s.gseen=[]:=g0 h e ↑3;refine⟨⟨n2,h.core.n8,h.core.good,Nat.le_succ_of_le h.core.fg,r2,r1,h.core.mks.give hn h.core.fg r2,λi h1 h2=>?_,λz=>absurd z (by show s.g+1≠0;lia)⟩,⟨by dsimp only;decide,λ_=>hgs,?_,λz=>absurd z (by dsimp only;decide),λz=>absurd z (by dsimp only;decide),λz=>absurd z (by dsimp only;decide),λz=>absurd z (by dsimp only;decide),λz=>absurd z (by dsimp only;decide),λ_=>by show 0<s.g+1;lia⟩,h.tk.giver rfl rfl rfl rfl rfl rfl rfl (Nat.le_succ _),⟨λz=>absurd z (by dsimp only;decide),λz=>low.trans (h.bl.tcard z),λz=>absurd z (by dsimp only;decide),λa b z=>.inl ⟨rfl,?_⟩,λk hk=>?_,λk hk=>?_⟩⟩
  ·show put s.c _ _ _=_/\put s.c _ _ _=_/\put s.c _ _ _=_
   have h1':i<s.g+1:=h1;have h2':s.g+1<i+s.n\/s.f<=i:=h2;show put s.c (4*(s.g % s.n)) _ (4*(i % s.n)+1)=_/\put s.c (4*(s.g % s.n)) _ (4*(i % s.n)+2)=_/\put s.c (4*(s.g % s.n)) _ (4*(i % s.n)+3)=_;rw[par ↑5 ↑5,par ↑5 ↑5,par ↑5 ↑5];by_cases z:i=s.g
   ·subst z;exact⟨hc1,hc2,hc3⟩
   ·exact h.core.slip i ↑5 ↑5
  ·show s.gseen.length<s.n/\∀q m,s.gseen[q]?=some m->m / 2=(b9a s.n (s.g+1) q:Int)/\0<=m/\m<=3
   rw[g0 h e ↑3];exact a0u hn _
  ·have a':s.ts=.sleep:=a
   have b':s.t<s.g+1:=b;have z':s.c (4*s.n+3)=0:=low.symm.trans z;show s.g+1=s.t+1;by_cases y:s.t<s.g
   ·exact absurd ⟨a',y,z'⟩ nr
   ·lia
  ·show -1<=put s.c (4*(s.g % s.n)) _ (4*s.n+k)/\put s.c (4*(s.g % s.n)) _ (4*s.n+k)<2*s.n
   rw[low];exact h.bl.cards k hk
  ·show put s.c (4*(s.g % s.n)) _ (4*s.n+2+k)=0\/put s.c (4*(s.g % s.n)) _ (4*s.n+2+k)=1
   rw[Nat.add_assoc,low];have:=h.bl.bells k hk;rwa [Nat.add_assoc] at this
 ·
  rename_i e;have hpos:=h.gv.pos (by rw[e];rfl)
  split
  ·exact h.gmv (c':=s.c) (g0 h e ↑3) h.core ↑3 ↑2 ↑2 ↑2 ↑2 ↑2 (λ_=>hpos) rfl ↑2 ↑2 (λ_ _ _=>.inr (.inl rfl)) c0 b2 b3
  ·rename_i hm
   refine h.gmv (c':=s.c) (g0 h e ↑3) h.core ↑3 ↑2 ↑2 ↑2 ↑2 ↑2 ↑2 rfl ↑2 ↑2 (λa b z=>?_) c0 b2 b3;rcases h.bl.tbell a b z with ⟨_,y⟩|y|y
   ·refine absurd ?_ hm
    rw[h.bl.tcard (.inr a),y]
    rfl
   ·rw[e] at y;cases y
   ·rw[e] at y;cases y
 ·
  rename_i e;refine h.gmv (c':=put s.c (4*s.n+3) 1) (g0 h e ↑3) (h.core.high ↑5) ↑3 ↑2 ↑2 ↑2 ↑2 ↑2 ↑2 (n0 ↑3) ↑2 ↑2 (λ_ _ z=>?_) ?_ ?_ ?_
  ·rw[put_same] at z;lia
  ·rw[a9j ↑3];exact c0
  ·rw[n0 ↑3];exact b2
  ·rw[put_same];exact .inr rfl
 ·rename_i e
  exact absurd e h.gv.st
end
end Pr
namespace Pr
section
variable{s:Ln}
theorem c7j{os:List (List Int)}{a t:Nat}(ht:t<tot os)(run:∀i,a<=i->i<t->0<n9 os i):∀k,a<=t-k->l9 os (t-k)=l9 os t
 | 0,_=>rfl
 | k+1,h=>by
  by_cases z:t<=k
  ·have e1:t-(k+1)=t-k:=by lia
   rw[e1];exact c7j ht run k ↑5
  ·have ih:=c7j ht run k ↑5
   have:=(next_part (os:=os) (i:=t-(k+1)) ↑5 (run _ h ↑5)).2.1;rw[<- this,show t-(k+1)+1=t-k by lia]
   exact ih
theorem d9x{os:List (List Int)}{a t:Nat}(ht:t<tot os)(at_:a<=t)(run:∀i,a<=i->i<t->0<n9 os i):l9 os a=l9 os t:=by
 have:=c7j ht run (t-a) ↑5
 rwa [show t-(t-a)=a by lia] at this
theorem Ok.tmv(h:Ok s){x:Stg}{c':Cells}(hs:s.tseen=[])(core':Core { s with c:=c' })(kc:∀k,1<=k->k<=3->c' (4*(s.g % s.n)+k)=s.c (4*(s.g % s.n)+k))(hx:x≠.told/\x≠.lacks/\x≠.mark)(hf:x.frees=s.ts.frees)(hc:x=.rouse\/x=.clear\/x=.mute\/x=.marks->s.t=s.f)(hl:x.takes=true->s.t<s.g)(hx2:x=.free\/x.frees=true->s.t<s.g/\n9 s.os s.t=0/\l9 s.os s.t+1=s.bk.length)(e0:c' (4*s.n)=s.c (4*s.n))(tc:x=.again\/x=.sleep->c' (4*s.n+1)=((s.t % (2*s.n):Nat):Int))(gb:s.gs=.sleep->s.g<s.f+s.n->c' (4*s.n+2)=0->(x=.card/\s.f+s.n=s.g+1)\/x=.ring\/x=.rouse)(tb:x=.sleep->s.t<s.g->c' (4*s.n+3)=0->(s.gs=.card/\s.g=s.t+1)\/s.gs=.ring\/s.gs=.rouse)(c1:-1<=c' (4*s.n+1)/\c' (4*s.n+1)<2*s.n)(b2:c' (4*s.n+2)=0\/c' (4*s.n+2)=1)(b3:c' (4*s.n+3)=0\/c' (4*s.n+3)=1):
  Ok { s with c:=c',ts:=x } where
 core:=core'.cong rfl rfl rfl rfl rfl
 gv:=h.gv.taker rfl rfl rfl rfl rfl (Nat.le_refl _) kc
 tk:=⟨hx,λ_=>hs,by show s.tseen.length<s.n/\_;rw[hs];exact a0u h.hn _,h.tk.bk,h.tk.bl,h.tk.bf,h.tk.bf0,by show s.f<=s.t+(if x.frees then 1 else 0);rw[hf];exact h.tk.ft,h.tk.tg,by
   show ∀i,s.f<=i+(if x.frees then 1 else 0)->_;rw[hf];exact h.tk.run,hc,hl,hx2,λz=>h.tk.pos (by rw[<- hf];exact z)⟩
 bl:=⟨λz=>e0.trans (h.bl.gcard z),tc,gb,tb,λk hk=>by
   have:k=0\/k=1:=by lia
   rcases this with rfl|rfl
   ·show -1<=c' (4*s.n)/\c' (4*s.n)<2*s.n
    rw[e0];exact h.bl.cards 0 ↑5
   ·exact c1,λk hk=>by
   have:k=0\/k=1:=by lia
   rcases this with rfl|rfl
   ·exact b2
   ·exact b3⟩
theorem t0(h:Ok s){x:Stg}(e:s.ts=x)(n:x≠.marks):s.tseen=[]:=h.tk.seen0 (by rw[e];exact n)
theorem a0v(h:Ok s){x:Stg}(e:s.ts=x)(n1:x≠.card)(n2:x≠.ring)(n3:x≠.rouse):¬ (s.gs=.sleep/\s.g<s.f+s.n/\s.c (4*s.n+2)=0):=by
 rintro⟨a,b,c⟩;rcases h.bl.gbell a b c with ⟨z,_⟩|z|z <;> rw[e] at z
 ·exact n1 z
 ·exact n2 z
 ·exact n3 z
theorem c9t(core:Core s)(gv:GOk s)(tk:TOk s)(hf:s.ts.frees=true)(hs:s.tseen=[])(gc:s.gs=.again\/s.gs=.sleep->s.c (4*s.n)=((s.g % (2*s.n):Nat):Int))(nr:¬ (s.gs=.sleep/\s.g<s.f+s.n/\s.c (4*s.n+2)=0))(cards:∀k,k<2->-1<=s.c (4*s.n+k)/\s.c (4*s.n+k)<2*s.n)(bells:∀k,k<2->s.c (4*s.n+2+k)=0\/s.c (4*s.n+2+k)=1):Ok (b2u s):=by
 have ft:=tk.ft;have run:=tk.run;have lst:=tk.last (.inr hf);rw[hf] at ft run;simp only[if_true] at ft run;unfold b2u;split
 ·rename_i e
  refine⟨core.cong rfl rfl rfl rfl rfl,gv.taker rfl rfl rfl rfl rfl (Nat.le_refl _) (λ_ _ _=>rfl),⟨by dsimp only;decide,λ_=>hs,?_,tk.bk,tk.bl,tk.bf,tk.bf0,?_,core.fg,λi h1 h2=>?_,λz=>absurd z (by dsimp only;decide),λz=>absurd z (by dsimp only;decide),λz=>absurd z (by dsimp only;decide),λz=>absurd z (by dsimp only;decide)⟩,⟨gc,λz=>absurd z (by dsimp only;decide),λa b z=>absurd ⟨a,b,z⟩ nr,λz=>absurd z (by dsimp only;decide),cards,bells⟩⟩
  ·show s.tseen.length<s.n/\_
   rw[hs];exact a0u (by have:=core.n2;lia) _
  ·show s.f<=s.f+_;lia
  ·have h1':s.f<=i+0:=h1
   have h2':i<s.f:=h2;lia
 ·rename_i e
  refine⟨core.cong rfl rfl rfl rfl rfl,gv.taker rfl rfl rfl rfl rfl (Nat.le_refl _) (λ_ _ _=>rfl),⟨by dsimp only;decide,λ_=>hs,?_,tk.bk,tk.bl,tk.bf,tk.bf0,?_,tk.tg,λi h1 h2=>?_,λz=>absurd z (by dsimp only;decide),λz=>absurd z (by dsimp only;decide),λ_=>lst,λz=>absurd z (by dsimp only;decide)⟩,⟨gc,λz=>absurd z (by dsimp only;decide),λa b z=>absurd ⟨a,b,z⟩ nr,λz=>absurd z (by dsimp only;decide),cards,bells⟩⟩
  ·show s.tseen.length<s.n/\_
   rw[hs];exact a0u (by have:=core.n2;lia) _
  ·show s.f<=s.t+0;lia
  ·have h1':s.f<=i+0:=h1
   exact run i ↑5 h2
theorem d2e{os:List (List Int)}{B:Nat}{o:List Int}(h:os[B]?=some o):a0m os (beg os B) o.length=o:=by
 apply List.ext_getElem?;intro i;unfold a0m;rw[List.getElem?_map];by_cases z:i<o.length
 ·rw[List.getElem?_range z,Option.map_some,c3r h i z,List.getD_eq_getElem?_getD,List.getElem?_eq_getElem z]
  rfl
 ·rw[List.getElem?_eq_none (by rw[List.length_range];lia),List.getElem?_eq_none ↑5]
  rfl
theorem booked(core:Core s)(tk:TOk s)(hf:s.ts.frees=false)(tg:s.t<s.g)(h0:n9 s.os s.t=0):
  let bk':=if l9 s.os s.t=s.bk.length then s.bk++[a0m s.os s.f (s.t+1-s.f)] else s.bk
  bk'=s.os.take bk'.length/\bk'.length<=s.os.length/\s.f<=beg s.os bk'.length/\(∀b,bk'.length=b+1->beg s.os b<=s.f)/\l9 s.os s.t+1=bk'.length:=by
 intro bk';have ft:=tk.ft;have run:=tk.run;rw[hf] at ft run;simp only[Bool.false_eq_true,if_false,Nat.add_zero] at ft run;have tt:s.t<tot s.os:=Nat.lt_of_lt_of_le tg core.gt;have nf:l9 s.os s.f=l9 s.os s.t:=d9x tt ft run;obtain⟨a1,a2⟩:=a2m (n:=0) tt;obtain⟨d1,d2⟩:=a2m (n:=0) (os:=s.os) (i:=s.f) ↑5;have nl:=a7u tt;rw[h0] at a2;by_cases e:l9 s.os s.t=s.bk.length
 ·have hbk':bk'=s.bk++[a0m s.os s.f (s.t+1-s.f)]:=if_pos e
  have hl:bk'.length=s.bk.length+1:=by rw[hbk',List.length_append];rfl
  rw[nf,e] at d1;rw[e] at a2 nl;have ef:s.f=beg s.os s.bk.length:=by have:=tk.bf;lia
  have ho:s.os[s.bk.length]?=some s.os[s.bk.length]:=List.getElem?_eq_getElem nl;have hs:=d0d ho;have hth:a0m s.os s.f (s.t+1-s.f)=s.os[s.bk.length]:=by
   have:=d2e ho;rw[<- ef] at this;rw[show s.t+1-s.f=s.os[s.bk.length].length by lia]
   exact this
  refine⟨?_,?_,?_,λb hb=>?_,?_⟩
  ·rw[hl,hbk',hth,List.take_succ,ho]
   show s.bk++_=s.os.take s.bk.length++_;rw[<- tk.bk]
   rfl
  ·rw[hl];lia
  ·rw[hl];have:=d0e s.os (j:=s.bk.length) (k:=s.bk.length+1) ↑5;lia
  ·rw[hl] at hb
   have:b=s.bk.length:=by lia
   rw[this];lia
  ·rw[hl,e]
 ·have hbk':bk'=s.bk:=if_neg e
  rw[hbk'];refine⟨tk.bk,tk.bl,tk.bf,tk.bf0,?_⟩;have bf:=tk.bf;have lt:s.f<beg s.os s.bk.length:=by
   by_cases z:s.f<beg s.os s.bk.length
   ·exact z
   ·exfalso
    by_cases y:s.bk.length<s.os.length
    ·have:=d0f core.good y
     exact e (nf ▸ a3o (os:=s.os) (i:=s.f) (j:=s.bk.length) ↑5 ↑5)
    ·have:=d5h s.os (j:=s.bk.length) ↑5
     lia
  cases hb:s.bk.length with
  | zero=>rw[hb,a2o] at lt;lia
  | succ b=>
   rw[hb] at lt;have:=tk.bf0 b hb;rw[<- nf,a3o this lt]
theorem c8v(h:Ok s):Ok (tstep s):=by
 have hn:=h.hn;have n2:=h.core.n2;have c0:-1<=s.c (4*s.n)/\s.c (4*s.n)<2*s.n:=h.bl.cards 0 ↑5;have c1:=h.bl.cards 1 ↑5;have b2:s.c (4*s.n+2)=0\/s.c (4*s.n+2)=1:=h.bl.bells 0 ↑5;have b3:s.c (4*s.n+3)=0\/s.c (4*s.n+3)=1:=h.bl.bells 1 ↑5;have tr:=a9t (i:=s.t) hn;have hp:=h.core.pl s.g;have high:∀{j:Nat}{v:Int}(k:Nat),1<=k->k<=3->put s.c (4*s.n+j) v (4*(s.g % s.n)+k)=s.c (4*(s.g % s.n)+k):=λ{j v} k _ _=>put_ne _ _ ↑5;unfold tstep;split
 ·
  rename_i e;have hc:=h.tk.come (.inl e);refine h.tmv (c':=put s.c (4*s.n+2) 1) (t0 h e ↑3) (h.core.high ↑5) high ↑3 (by rw[e];rfl) (λ_=>hc) ↑2 ↑2 (a9j ↑3) ↑2 (λ_ _ z=>?_) ↑2 ?_ ?_ ?_
  ·rw[put_same] at z;lia
  ·rw[n0 ↑3];exact c1
  ·rw[put_same];exact .inr rfl
  ·rw[n0 ↑3];exact b3
 ·
  rename_i e;have hc:=h.tk.come (.inr (.inl e));have nr:=a0v h e ↑3 ↑3 ↑3;refine h.tmv (c':=put s.c (4*s.n+1) (-1)) (t0 h e ↑3) (h.core.high ↑5) high ↑3 (by rw[e];rfl) (λ_=>hc) ↑2 ↑2 (a9j ↑3) ↑2 (λa b z=>?_) ↑2 ?_ ?_ ?_
  ·rw[n0 ↑3] at z;exact absurd ⟨a,b,z⟩ nr
  ·rw[put_same];lia
  ·rw[n0 ↑3];exact b2
  ·rw[n0 ↑3];exact b3
 ·
  rename_i e;have hc:=h.tk.come (.inr (.inr (.inl e)));have nr:=a0v h e ↑3 ↑3 ↑3;refine h.tmv (c':=put s.c (4*s.n+3) 0) (t0 h e ↑3) (h.core.high ↑5) high ↑3 (by rw[e];rfl) (λ_=>hc) ↑2 ↑2 (a9j ↑3) ↑2 (λa b z=>?_) ↑2 ?_ ?_ ?_
  ·rw[n0 ↑3] at z;exact absurd ⟨a,b,z⟩ nr
  ·rw[n0 ↑3];exact c1
  ·rw[n0 ↑3];exact b2
  ·rw[put_same];exact .inl rfl
 ·
  rename_i e;have hc:=h.tk.come (.inr (.inr (.inr e)));have nr:=a0v h e ↑3 ↑3 ↑3;have ft:=h.tk.ft;have run:=h.tk.run;rw[e] at ft run;split
  ·rename_i hl
   refine⟨h.core.cong rfl rfl rfl rfl rfl,h.gv.taker rfl rfl rfl rfl rfl (Nat.le_refl _) (λ_ _ _=>rfl),⟨h.tk.st,λz=>absurd e z,⟨?_,λq m hq=>?_⟩,h.tk.bk,h.tk.bl,h.tk.bf,h.tk.bf0,h.tk.ft,h.tk.tg,h.tk.run,h.tk.come,h.tk.lies,h.tk.last,h.tk.pos⟩,⟨h.bl.gcard,h.bl.tcard,h.bl.gbell,h.bl.tbell,h.bl.cards,h.bl.bells⟩⟩
   ·show(s.tseen++[_]).length<s.n
    rw[List.length_append];exact hl
   ·have hq':(s.tseen++[s.c (4*s.tseen.length)])[q]?=some m:=hq
    by_cases z:q<s.tseen.length
    ·rw[List.getElem?_append_left z] at hq'
     exact h.tk.seen.2 q m hq'
    ·rw[List.getElem?_append_right ↑5] at hq'
     have hz:q=s.tseen.length:=by
      have:=(List.getElem?_eq_some_iff.mp hq').1;simp at this;lia
     subst hz;simp at hq';subst hq';exact⟨h.core.mks.sides hn h.core.fg h.core.gf h.tk.seen.1,h.core.mks.range hn h.tk.seen.1⟩
  ·refine⟨h.core.cong rfl rfl rfl rfl rfl,h.gv.taker rfl rfl rfl rfl rfl (Nat.le_refl _) (λ_ _ _=>rfl),⟨by dsimp only;decide,λ_=>rfl,a0u hn _,h.tk.bk,h.tk.bl,h.tk.bf,h.tk.bf0,ft,h.tk.tg,run,λz=>absurd z (by dsimp only;decide),λz=>absurd z (by dsimp only;decide),λz=>absurd z (by dsimp only;decide),λz=>absurd z (by dsimp only;decide)⟩,⟨h.bl.gcard,λz=>absurd z (by dsimp only;decide),λa b z=>absurd ⟨a,b,z⟩ nr,λz=>absurd z (by dsimp only;decide),h.bl.cards,h.bl.bells⟩⟩
 ·
  rename_i e;have nr:=a0v h e ↑3 ↑3 ↑3;have ft:=h.tk.ft;rw[e] at ft;have mt:=h.core.mks.mayTake hn ft h.tk.tg h.core.gf;split
  ·rename_i hm
   exact h.tmv (c':=s.c) (t0 h e ↑3) h.core (λ_ _ _=>rfl) ↑3 (by rw[e];rfl) ↑2 (λ_=>mt.mp hm) ↑2 rfl ↑2 (λa b z=>absurd ⟨a,b,z⟩ nr) ↑2 c1 b2 b3
  ·exact h.tmv (c':=s.c) (t0 h e ↑3) h.core (λ_ _ _=>rfl) ↑3 (by rw[e];rfl) ↑2 ↑2 ↑2 rfl ↑2 (λa b z=>absurd ⟨a,b,z⟩ nr) ↑2 c1 b2 b3
 ·
  rename_i e;have nr:=a0v h e ↑3 ↑3 ↑3;refine h.tmv (c':=put s.c (4*s.n+1) ((s.t % (2*s.n):Nat):Int)) (t0 h e ↑3) (h.core.high ↑5) high ↑3 (by rw[e];rfl) ↑2 ↑2 ↑2 (a9j ↑3) (λ_=>put_same _ _ _) (λa b z=>?_) ↑2 ?_ ?_ ?_
  ·rw[n0 ↑3] at z;exact absurd ⟨a,b,z⟩ nr
  ·rw[put_same];exact tr
  ·rw[n0 ↑3];exact b2
  ·rw[n0 ↑3];exact b3
 ·
  rename_i e;have nr:=a0v h e ↑3 ↑3 ↑3;have ft:=h.tk.ft;rw[e] at ft;have mt:=h.core.mks.mayTake hn ft h.tk.tg h.core.gf;have tc:=h.bl.tcard (.inl e);split
  ·exact h.tmv (c':=s.c) (t0 h e ↑3) h.core (λ_ _ _=>rfl) ↑3 (by rw[e];rfl) ↑2 ↑2 ↑2 rfl ↑2 (λa b z=>absurd ⟨a,b,z⟩ nr) ↑2 c1 b2 b3
  ·rename_i hm
   exact h.tmv (c':=s.c) (t0 h e ↑3) h.core (λ_ _ _=>rfl) ↑3 (by rw[e];rfl) ↑2 ↑2 ↑2 rfl (λ_=>tc) (λa b z=>absurd ⟨a,b,z⟩ nr) (λ_ z _=>absurd (mt.mpr z) hm) c1 b2 b3
 ·
  rename_i e;have nr:=a0v h e ↑3 ↑3 ↑3;split
  ·exact h
  ·exact h.tmv (c':=s.c) (t0 h e ↑3) h.core (λ_ _ _=>rfl) ↑3 (by rw[e];rfl) ↑2 ↑2 ↑2 rfl ↑2 (λa b z=>absurd ⟨a,b,z⟩ nr) ↑2 c1 b2 b3
 ·
  rename_i e;have nr:=a0v h e ↑3 ↑3 ↑3;refine h.tmv (c':=put s.c (4*s.n+3) 0) (t0 h e ↑3) (h.core.high ↑5) high ↑3 (by rw[e];rfl) ↑2 ↑2 ↑2 (a9j ↑3) ↑2 (λa b z=>?_) ↑2 ?_ ?_ ?_
  ·rw[n0 ↑3] at z;exact absurd ⟨a,b,z⟩ nr
  ·rw[n0 ↑3];exact c1
  ·rw[n0 ↑3];exact b2
  ·rw[put_same];exact .inl rfl
 ·
  rename_i e;have nr:=a0v h e ↑3 ↑3 ↑3;refine h.tmv (c':=put s.c (4*s.n+1) (-1)) (t0 h e ↑3) (h.core.high ↑5) high ↑3 (by rw[e];rfl) ↑2 ↑2 ↑2 (a9j ↑3) ↑2 (λa b z=>?_) ↑2 ?_ ?_ ?_
  ·rw[n0 ↑3] at z;exact absurd ⟨a,b,z⟩ nr
  ·rw[put_same];lia
  ·rw[n0 ↑3];exact b2
  ·rw[n0 ↑3];exact b3
 ·
  rename_i e;have nr:=a0v h e ↑3 ↑3 ↑3;have hl:=h.tk.lies (by rw[e];rfl)
  exact h.tmv (c':=s.c) (t0 h e ↑3) h.core (λ_ _ _=>rfl) ↑3 (by rw[e];rfl) ↑2 (λ_=>hl) ↑2 rfl ↑2 (λa b z=>absurd ⟨a,b,z⟩ nr) ↑2 c1 b2 b3
 ·
  rename_i e;have nr:=a0v h e ↑3 ↑3 ↑3;have hl:=h.tk.lies (by rw[e];rfl)
  exact h.tmv (c':=s.c) (t0 h e ↑3) h.core (λ_ _ _=>rfl) ↑3 (by rw[e];rfl) ↑2 (λ_=>hl) ↑2 rfl ↑2 (λa b z=>absurd ⟨a,b,z⟩ nr) ↑2 c1 b2 b3
 ·
  rename_i e;have nr:=a0v h e ↑3 ↑3 ↑3;have hl:=h.tk.lies (by rw[e];rfl)
  have hs:=t0 h e ↑3;have ft:=h.tk.ft;have run:=h.tk.run;have hfr:s.ts.frees=false:=by rw[e];rfl
  rw[hfr] at ft run;simp only[Bool.false_eq_true,if_false,Nat.add_zero] at ft run;split
  ·rename_i hlf
   refine⟨h.core.cong rfl rfl rfl rfl rfl,h.gv.taker rfl rfl rfl rfl rfl (Nat.le_refl _) (λ_ _ _=>rfl),⟨by dsimp only;decide,λ_=>hs,?_,h.tk.bk,h.tk.bl,h.tk.bf,h.tk.bf0,?_,hl,λi h1 h2=>?_,λz=>absurd z (by dsimp only;decide),λz=>absurd z (by dsimp only;decide),λz=>absurd z (by dsimp only;decide),λz=>absurd z (by dsimp only;decide)⟩,⟨h.bl.gcard,λz=>absurd z (by dsimp only;decide),λa b z=>absurd ⟨a,b,z⟩ nr,λz=>absurd z (by dsimp only;decide),h.bl.cards,h.bl.bells⟩⟩
   ·show s.tseen.length<s.n/\_
    rw[hs];exact a0u hn _
   ·show s.f<=s.t+1+_;lia
   ·have h1':s.f<=i+0:=h1
    have h2':i<s.t+1:=h2;by_cases z:i=s.t
    ·rw[z];exact hlf
    ·exact run i ↑5 ↑5
  ·rename_i hlf
   obtain⟨k1,k2,k3,k4,k5⟩:=booked h.core h.tk hfr hl ↑5;refine⟨h.core.cong rfl rfl rfl rfl rfl,h.gv.taker rfl rfl rfl rfl rfl (Nat.le_refl _) (λ_ _ _=>rfl),⟨by dsimp only;decide,λ_=>hs,?_,k1,k2,k3,k4,?_,h.tk.tg,λi h1 h2=>?_,λz=>absurd z (by dsimp only;decide),λz=>absurd z (by dsimp only;decide),λ_=>⟨hl,Nat.eq_zero_of_not_pos hlf,k5⟩,λz=>absurd z (by dsimp only;decide)⟩,⟨h.bl.gcard,λz=>absurd z (by dsimp only;decide),λa b z=>absurd ⟨a,b,z⟩ nr,λz=>absurd z (by dsimp only;decide),h.bl.cards,h.bl.bells⟩⟩
   ·show s.tseen.length<s.n/\_
    rw[hs];exact a0u hn _
   ·exact ft
   ·exact run i h1 h2
 ·
  rename_i e;have nr:=a0v h e ↑3 ↑3 ↑3;have hs:=t0 h e ↑3;obtain⟨l1,l2,l3⟩:=h.tk.last (.inl e);have ft:=h.tk.ft;have run:=h.tk.run;have hfr:s.ts.frees=false:=by rw[e];rfl
  rw[hfr] at ft run;simp only[Bool.false_eq_true,if_false,Nat.add_zero] at ft run;have hpf:=h.core.pl s.f;have fg:s.f<s.g:=by lia
  have low:∀{k:Nat}{v:Int},put s.c (4*(s.f % s.n)) v (4*s.n+k)=s.c (4*s.n+k):=λ{k v}=>put_ne _ _ ↑5;have low0:∀{v:Int},put s.c (4*(s.f % s.n)) v (4*s.n)=s.c (4*s.n):=λ{v}=>put_ne _ _ ↑5;have par:∀{i k:Nat}{v:Int},1<=k->k<=3->put s.c (4*(s.f % s.n)) v (4*(i % s.n)+k)=s.c (4*(i % s.n)+k):=λ{i k v} _ _=>put_ne _ _ ↑5;obtain⟨_,io⟩:=a2m (n:=0) (os:=s.os) (i:=s.t) (by have:=h.core.gt;lia)
  rw[l2,l3] at io;refine⟨⟨n2,h.core.n8,h.core.good,fg,by have:=h.core.gf;show s.g<=s.f+1+s.n;lia,h.core.gt,h.core.mks.free hn fg h.core.gf,λi h1 h2=>?_,λz=>absurd z (by show s.g≠0;lia)⟩,h.gv.taker rfl rfl rfl rfl rfl (Nat.le_succ _) (λk k1 k3=>par k1 k3),⟨by dsimp only;decide,λ_=>hs,?_,h.tk.bk,h.tk.bl,?_,λb hb=>Nat.le_succ_of_le (h.tk.bf0 b hb),?_,h.tk.tg,λi h1 h2=>?_,λz=>absurd z (by dsimp only;decide),λz=>absurd z (by dsimp only;decide),λ_=>⟨l1,l2,l3⟩,λ_=>Nat.succ_pos _⟩,⟨λz=>low0.trans (h.bl.gcard z),λz=>absurd z (by dsimp only;decide),λa b z=>.inl ⟨rfl,?_⟩,λz=>absurd z (by dsimp only;decide),λk hk=>?_,λk hk=>?_⟩⟩
  ·show put s.c (4*(s.f % s.n)) _ (4*(i % s.n)+1)=_/\put s.c (4*(s.f % s.n)) _ (4*(i % s.n)+2)=_/\put s.c (4*(s.f % s.n)) _ (4*(i % s.n)+3)=_
   rw[par ↑5 ↑5,par ↑5 ↑5,par ↑5 ↑5];have h2':s.g<i+s.n\/s.f+1<=i:=h2;exact h.core.slip i h1 ↑5
  ·show s.tseen.length<s.n/\_
   rw[hs];exact a0u hn _
  ·show s.f+1<=beg s.os s.bk.length;lia
  ·show s.f+1<=s.t+1;lia
  ·have h1':s.f+1<=i+1:=h1
   exact run i ↑5 h2
  ·have b':s.g<s.f+1+s.n:=b
   have z':s.c (4*s.n+2)=0:=low.symm.trans z;show s.f+1+s.n=s.g+1;by_cases y:s.g<s.f+s.n
   ·exact absurd ⟨a,y,z'⟩ nr
   ·lia
  ·show -1<=put s.c (4*(s.f % s.n)) _ (4*s.n+k)/\put s.c (4*(s.f % s.n)) _ (4*s.n+k)<2*s.n
   rw[low];exact h.bl.cards k hk
  ·show put s.c (4*(s.f % s.n)) _ (4*s.n+2+k)=0\/put s.c (4*(s.f % s.n)) _ (4*s.n+2+k)=1
   rw[Nat.add_assoc,low];have:=h.bl.bells k hk;rwa [Nat.add_assoc] at this
 ·
  rename_i e;have hs:=t0 h e ↑3;have lst:=h.tk.last (.inr (by rw[e];rfl))
  have hpos:=h.tk.pos (by rw[e];rfl)
  split
  ·exact h.tmv (c':=s.c) hs h.core (λ_ _ _=>rfl) ↑3 (by rw[e];rfl) ↑2 ↑2 (λ_=>lst) rfl ↑2 (λ_ _ _=>.inr (.inl rfl)) ↑2 c1 b2 b3
  ·rename_i hm
   refine c9t h.core h.gv h.tk (by rw[e];rfl) hs h.bl.gcard ?_ h.bl.cards h.bl.bells
   rintro⟨a,b,z⟩;rcases h.bl.gbell a b z with ⟨_,y⟩|y|y
   ·refine absurd ?_ hm
    rw[h.bl.gcard (.inr a),show s.f-1+s.n=s.g by lia]
   ·rw[e] at y;cases y
   ·rw[e] at y;cases y
 ·
  rename_i e;have hs:=t0 h e ↑3;refine c9t (s:=s.put (4*s.n+2) 1) (h.core.high ↑5) (h.gv.taker rfl rfl rfl rfl rfl (Nat.le_refl _) high) (h.tk.giver rfl rfl rfl rfl rfl rfl rfl (Nat.le_refl _)) (by show s.ts.frees=true;rw[e];rfl) hs (λz=>(a9j ↑3).trans (h.bl.gcard z)) ?_ (λk hk=>?_) (λk hk=>?_)
  ·rintro⟨a,b,z⟩
   have z':put s.c (4*s.n+2) 1 (4*s.n+2)=0:=z;rw[put_same] at z';lia
  ·show -1<=put s.c (4*s.n+2) 1 (4*s.n+k)/\put s.c (4*s.n+2) 1 (4*s.n+k)<2*s.n
   rw[n0 ↑5];exact h.bl.cards k hk
  ·show put s.c (4*s.n+2) 1 (4*s.n+2+k)=0\/put s.c (4*s.n+2) 1 (4*s.n+2+k)=1
   have:k=0\/k=1:=by lia
   rcases this with rfl|rfl
   ·rw[Nat.add_zero,put_same];exact .inr rfl
   ·rw[Nat.add_assoc,n0 ↑3];exact b3
 ·rename_i e;exact absurd e h.tk.st.1
 ·rename_i e;exact absurd e h.tk.st.2.1
 ·rename_i e;exact absurd e h.tk.st.2.2
theorem d7d(h:Ok s):Ok (gfall s):=⟨h.core.cong rfl rfl rfl rfl rfl,⟨by unfold gfall;dsimp only;decide,λ_=>rfl,a0u h.hn _,λz=>absurd z (by unfold gfall;dsimp only;decide),λz=>absurd z (by unfold gfall;dsimp only;decide),λz=>absurd z (by unfold gfall;dsimp only;decide),λz=>absurd z (by unfold gfall;dsimp only;decide),λz=>absurd z (by unfold gfall;dsimp only;decide),λz=>absurd z (by unfold gfall;dsimp only;decide)⟩,h.tk.giver rfl rfl rfl rfl rfl rfl rfl (Nat.le_refl _),
 ⟨λz=>absurd z (by unfold gfall;dsimp only;decide),h.bl.tcard,λz=>absurd z (by unfold gfall;dsimp only;decide),λ_ _ _=>.inr (.inr rfl),h.bl.cards,h.bl.bells⟩⟩
theorem d5u(h:Ok s):Ok (tfall s):=by
 refine⟨h.core.cong rfl rfl rfl rfl rfl,h.gv.taker rfl rfl rfl rfl rfl (Nat.le_refl _) (λ_ _ _=>rfl),⟨by unfold tfall;dsimp only;decide,λ_=>rfl,a0u h.hn _,h.tk.bk,h.tk.bl,h.tk.bf,h.tk.bf0,?_,h.core.fg,λi h1 h2=>?_,λ_=>rfl,λz=>absurd z (by unfold tfall;dsimp only;decide),λz=>absurd z (by unfold tfall;dsimp only;decide),λz=>absurd z (by unfold tfall;dsimp only;decide)⟩,
  ⟨h.bl.gcard,λz=>absurd z (by unfold tfall;dsimp only;decide),λ_ _ _=>.inr (.inr rfl),λz=>absurd z (by unfold tfall;dsimp only;decide),h.bl.cards,h.bl.bells⟩⟩
 ·show s.f<=s.f+0;lia
 ·have h1':s.f<=i+0:=h1
  have h2':i<s.f:=h2;lia
end
end Pr
namespace Pr
section
variable{s:Ln}
theorem c8p(h:Ok s){o:List Int}(ho:1<=o.length/\o.length<=s.n):Ok (a1m s o):=by
 have le:tot s.os<=tot (s.os++[o]):=by rw[d0j];lia
 have gt:=h.core.gt;have tg:=h.tk.tg;have mn:∀{i:Nat},i<s.g->l9 (s.os++[o]) i=l9 s.os i:=λhi=>(a4g ↑5).1;have ml:∀{i:Nat},i<s.g->n9 (s.os++[o]) i=n9 s.os i:=λhi=>(a4g ↑5).2;have mt:∀{i:Nat},i<s.g->a0a (s.os++[o]) i=a0a s.os i:=λhi=>b5r ↑5;have mb:∀{b:Nat},b<=s.os.length->beg (s.os++[o]) b=beg s.os b:=λhb=>d6u hb;refine⟨⟨h.core.n2,h.core.n8,?_,h.core.fg,h.core.gf,Nat.le_trans gt le,h.core.mks,λi h1 h2=>?_,h.core.slip0⟩,⟨h.gv.st,h.gv.seen0,h.gv.seen,λz=>Nat.lt_of_lt_of_le (h.gv.want z) le,λz=>⟨Nat.lt_of_lt_of_le (h.gv.room z).1 le,(h.gv.room z).2⟩,λz=>?_,λz=>?_,λz=>?_,h.gv.pos⟩,
  ⟨h.tk.st,h.tk.seen0,h.tk.seen,?_,?_,?_,λb hb=>?_,h.tk.ft,h.tk.tg,λi h1 h2=>?_,h.tk.come,h.tk.lies,λz=>?_,h.tk.pos⟩,⟨h.bl.gcard,h.bl.tcard,h.bl.gbell,h.bl.tbell,h.bl.cards,h.bl.bells⟩⟩
 ·intro p hp
  rcases List.mem_append.mp hp with hp|hp
  ·exact h.core.good p hp
  ·rw[List.mem_singleton.mp hp];exact ho
 ·have h1':i<s.g:=h1
  show s.c _=((l9 (s.os++[o]) i:Nat):Int)/\s.c _=((n9 (s.os++[o]) i:Nat):Int)/\s.c _=a0a (s.os++[o]) i;rw[mn h1',ml h1',mt h1'];exact h.core.slip i h1 h2
 ·have hg:s.g<tot s.os:=by
   refine (h.gv.room ?_).1;rcases z with z|z|z <;> (have z':s.gs=_:=z;rw[z'];rfl)
  show s.c _=((l9 (s.os++[o]) s.g:Nat):Int);rw[(a4g hg).1];exact h.gv.c1 z
 ·have hg:s.g<tot s.os:=by
   refine (h.gv.room ?_).1;rcases z with z|z <;> (have z':s.gs=_:=z;rw[z'];rfl)
  show s.c _=((n9 (s.os++[o]) s.g:Nat):Int);rw[(a4g hg).2];exact h.gv.c2 z
 ·have hg:s.g<tot s.os:=by
   refine (h.gv.room ?_).1;have z':s.gs=_:=z;rw[z'];rfl
  show s.c _=a0a (s.os++[o]) s.g;rw[b5r hg];exact h.gv.c3 z
 ·show s.bk=(s.os++[o]).take s.bk.length
  rw[List.take_append_of_le_length h.tk.bl];exact h.tk.bk
 ·show s.bk.length<=(s.os++[o]).length
  rw[List.length_append];have:=h.tk.bl;lia
 ·show s.f<=beg (s.os++[o]) s.bk.length
  rw[mb h.tk.bl];exact h.tk.bf
 ·have hb':s.bk.length=b+1:=hb
  show beg (s.os++[o]) b<=s.f;rw[mb (by have:=h.tk.bl;lia)]
  exact h.tk.bf0 b hb
 ·have h2':i<s.t:=h2
  show 0<n9 (s.os++[o]) i;rw[ml ↑5];exact h.tk.run i h1 h2
 ·obtain⟨a,b,c⟩:=h.tk.last z
  refine⟨a,?_,?_⟩
  ·show n9 (s.os++[o]) s.t=0
   rw[ml a];exact b
  ·show l9 (s.os++[o]) s.t+1=s.bk.length
   rw[mn a];exact c
def a0l(n:Nat):Cells:=λi=>if i<4*n then (if i % 4=0 then 2 else if i % 4=1 then -1 else 0) else if i<4*n+2 then -1 else 0
def a0b(n:Nat):Ln:={ n:=n,c:=a0l n,os:=[],bk:=[],gs:=.rouse,gseen:=[],ts:=.rouse,tseen:=[],f:=0,g:=0,t:=0 }
theorem d1o{n:Nat}(h2:2<=n)(h8:n<=8):Ok (a0b n):=by
 have hn:0<n:=by lia
 refine⟨⟨h2,h8,λ_ h=>by simp[a0b] at h,Nat.le_refl _,Nat.zero_le _,Nat.zero_le _,⟨λi h=>absurd h (Nat.not_lt_zero _),λq h1 h2=>?_⟩,λi h=>absurd h (Nat.not_lt_zero _),λ_=>⟨?_,?_⟩⟩,
  ⟨by unfold a0b;dsimp only;decide,λ_=>rfl,a0u hn _,λz=>absurd z (by unfold a0b;dsimp only;decide),λz=>absurd z (by unfold a0b;dsimp only;decide),λz=>absurd z (by unfold a0b;dsimp only;decide),λz=>absurd z (by unfold a0b;dsimp only;decide),λz=>absurd z (by unfold a0b;dsimp only;decide),λz=>absurd z (by unfold a0b;dsimp only;decide)⟩,
  ⟨by unfold a0b;dsimp only;decide,λ_=>rfl,a0u hn _,rfl,Nat.le_refl _,Nat.zero_le _,λb hb=>by simp[a0b] at hb,Nat.zero_le _,Nat.le_refl _,λi _ h=>absurd h (Nat.not_lt_zero _),λ_=>rfl,λz=>absurd z (by unfold a0b;dsimp only;decide),λz=>absurd z (by unfold a0b;dsimp only;decide),λz=>absurd z (by unfold a0b;dsimp only;decide)⟩,
  ⟨λz=>absurd z (by unfold a0b;dsimp only;decide),λz=>absurd z (by unfold a0b;dsimp only;decide),λz=>absurd z (by unfold a0b;dsimp only;decide),λz=>absurd z (by unfold a0b;dsimp only;decide),λk hk=>?_,λk hk=>?_⟩⟩
 ·have h1':q<n:=h1
  show a0l n (4*q)=2;unfold a0l;rw[if_pos ↑5,if_pos ↑5]
 ·show a0l n (4*(n-1)+1)=-1
  unfold a0l;rw[if_pos ↑5,if_neg ↑5,if_pos ↑5]
 ·show a0l n (4*(n-1)+2)=0
  unfold a0l;rw[if_pos ↑5,if_neg ↑5,if_neg ↑5]
 ·show -1<=a0l n (4*n+k)/\a0l n (4*n+k)<2*n
  unfold a0l;rw[if_neg ↑5,if_pos ↑5];lia
 ·show a0l n (4*n+2+k)=0\/a0l n (4*n+2+k)=1
  unfold a0l;rw[if_neg ↑5,if_neg ↑5];exact .inl rfl
end
end Pr
namespace S
open PySem L2
def top(i:Nat):Stmt:=PySem.Challenge.pw_slipring_k22_hall_refusals.main.body.getD i (.Pass ⟨0,0,0,0⟩)
theorem e0x:bootBuiltins "ValueError" = some (.type "ValueError"):=by decide +kernel
structure Cl where
 RingError:Addr
 BadSize:Addr
 NoTurn:Addr
 BadMark:Addr
 Crooked:Addr
 NoCell:Addr
 BadCells:Addr
 BadOrder:Addr
 NoHand:Addr
 NoWaiting:Addr
 NotSound:Addr
 BadStand:Addr
 TooMany:Addr
 NoName:Addr
 NoText:Addr
 NoRow:Addr
 Board:Addr
 Hand:Addr
 Giver:Addr
 Taker:Addr
 Lane:Addr
 Hall:Addr
 t_HANDS:Addr
 d_DEEDS_hand:Addr
 d_DEEDS_giver:Addr
 d_DEEDS_taker:Addr
 d_OUT_HANDS:Addr
 d_BACK_HANDS:Addr
 d_SIDES:Addr
structure Txt(K:Frag)(mg:Str->Option Value)(cl:Cl):Prop where
 c_RingError:ExM mg "RingError" cl.RingError
 c_BadSize:ExT K mg "BadSize" cl.BadSize
 c_NoTurn:ExT K mg "NoTurn" cl.NoTurn
 c_BadMark:ExT K mg "BadMark" cl.BadMark
 c_Crooked:ExT K mg "Crooked" cl.Crooked
 c_NoCell:ExT K mg "NoCell" cl.NoCell
 c_BadCells:ExM mg "BadCells" cl.BadCells
 c_BadOrder:ExT K mg "BadOrder" cl.BadOrder
 c_NoHand:ExT K mg "NoHand" cl.NoHand
 c_NoWaiting:ExT K mg "NoWaiting" cl.NoWaiting
 c_NotSound:ExM mg "NotSound" cl.NotSound
 c_BadStand:ExM mg "BadStand" cl.BadStand
 c_TooMany:ExM mg "TooMany" cl.TooMany
 c_NoName:ExM mg "NoName" cl.NoName
 c_NoText:ExM mg "NoText" cl.NoText
 c_NoRow:ExM mg "NoRow" cl.NoRow
 c_Board:ExM mg "Board" cl.Board
 c_Hand:ExM mg "Hand" cl.Hand
 c_Giver:ExM mg "Giver" cl.Giver
 c_Taker:ExM mg "Taker" cl.Taker
 c_Lane:ExM mg "Lane" cl.Lane
 c_Hall:ExM mg "Hall" cl.Hall
 m_LEAST_SIZE:∃t,mg "LEAST_SIZE" = some (.int (2) t)
 m_MOST_SIZE:∃t,mg "MOST_SIZE" = some (.int (8) t)
 m_FREE:∃t,mg "FREE" = some (.int (0) t)
 m_FULL:∃t,mg "FULL" = some (.int (1) t)
 m_MOST_MARK:∃t,mg "MOST_MARK" = some (.int (3) t)
 m_CELLS_OF_A_PLACE:∃t,mg "CELLS_OF_A_PLACE" = some (.int (4) t)
 m_NEW_MARK:∃t,mg "NEW_MARK" = some (.int (2) t)
 m_NO_ORDER:∃t,mg "NO_ORDER" = some (.int (-1) t)
 m_NO_TURN:∃t,mg "NO_TURN" = some (.int (-1) t)
 m_STILL:∃t,mg "STILL" = some (.int (0) t)
 m_RUNG:∃t,mg "RUNG" = some (.int (1) t)
 m_SHELVES:∃t,mg "SHELVES" = some (.int (4) t)
 r_HANDS:mg "HANDS" = some (.ref cl.t_HANDS)
 kt_HANDS:KTup K cl.t_HANDS [.str "giver",.str "taker"]
 k_Board:Cls K cl.Board
 n_Board_many_touches:NoAttr K cl.Board "many_touches"
 n_Board_newest_touch:NoAttr K cl.Board "newest_touch"
 n_Board_numbers:NoAttr K cl.Board "numbers"
 n_Board_size:NoAttr K cl.Board "size"
 k_Hand:Cls K cl.Hand
 n_Hand_board:NoAttr K cl.Hand "board"
 n_Hand_here:NoAttr K cl.Hand "here"
 n_Hand_marks_read:NoAttr K cl.Hand "marks_read"
 n_Hand_name:NoAttr K cl.Hand "name"
 n_Hand_other:NoAttr K cl.Hand "other"
 n_Hand_stage_behind_marks:NoAttr K cl.Hand "stage_behind_marks"
 n_Hand_stage_now:NoAttr K cl.Hand "stage_now"
 n_Hand_touched:NoAttr K cl.Hand "touched"
 k_Giver:Cls K cl.Giver
 n_Giver_board:NoAttr K cl.Giver "board"
 n_Giver_here:NoAttr K cl.Giver "here"
 n_Giver_kept:NoAttr K cl.Giver "kept"
 n_Giver_left:NoAttr K cl.Giver "left"
 n_Giver_marks_read:NoAttr K cl.Giver "marks_read"
 n_Giver_name:NoAttr K cl.Giver "name"
 n_Giver_number:NoAttr K cl.Giver "number"
 n_Giver_other:NoAttr K cl.Giver "other"
 n_Giver_stage_behind_marks:NoAttr K cl.Giver "stage_behind_marks"
 n_Giver_stage_now:NoAttr K cl.Giver "stage_now"
 n_Giver_touched:NoAttr K cl.Giver "touched"
 k_Taker:Cls K cl.Taker
 n_Taker_board:NoAttr K cl.Taker "board"
 n_Taker_here:NoAttr K cl.Taker "here"
 n_Taker_left:NoAttr K cl.Taker "left"
 n_Taker_marks_read:NoAttr K cl.Taker "marks_read"
 n_Taker_name:NoAttr K cl.Taker "name"
 n_Taker_not_freed:NoAttr K cl.Taker "not_freed"
 n_Taker_number:NoAttr K cl.Taker "number"
 n_Taker_other:NoAttr K cl.Taker "other"
 n_Taker_parts:NoAttr K cl.Taker "parts"
 n_Taker_stage_behind_marks:NoAttr K cl.Taker "stage_behind_marks"
 n_Taker_stage_now:NoAttr K cl.Taker "stage_now"
 n_Taker_taken:NoAttr K cl.Taker "taken"
 n_Taker_touched:NoAttr K cl.Taker "touched"
 k_Lane:Cls K cl.Lane
 n_Lane_board:NoAttr K cl.Lane "board"
 n_Lane_giver:NoAttr K cl.Lane "giver"
 n_Lane_kept_trail:NoAttr K cl.Lane "kept_trail"
 n_Lane_taker:NoAttr K cl.Lane "taker"
 n_Lane_touched:NoAttr K cl.Lane "touched"
 k_Hall:Cls K cl.Hall
 n_Hall_back:NoAttr K cl.Hall "back"
 n_Hall_finished:NoAttr K cl.Hall "finished"
 n_Hall_out:NoAttr K cl.Hall "out"
 n_Hall_sums:NoAttr K cl.Hall "sums"
 r_DEEDS_hand:mg "DEEDS_hand" = some (.ref cl.d_DEEDS_hand)
 r_DEEDS_giver:mg "DEEDS_giver" = some (.ref cl.d_DEEDS_giver)
 r_DEEDS_taker:mg "DEEDS_taker" = some (.ref cl.d_DEEDS_taker)
 r_OUT_HANDS:mg "OUT_HANDS" = some (.ref cl.d_OUT_HANDS)
 r_BACK_HANDS:mg "BACK_HANDS" = some (.ref cl.d_BACK_HANDS)
 r_SIDES:mg "SIDES" = some (.ref cl.d_SIDES)
 z_len:mg "len" = none
 z_range:mg "range" = none
 z_max:mg "max" = none
 z_min:mg "min" = none
 z_isinstance:mg "isinstance" = none
 z_int:mg "int" = none
 z_bool:mg "bool" = none
 z_list:mg "list" = none
 z_all:mg "all" = none
 z_ValueError:mg "ValueError" = none
 z_tuple:mg "tuple" = none
 z_sum:mg "sum" = none
set_option hygiene false in
local macro_rules | `(tactic| walk_at "len")=>`(tactic| first|(rw[h.1];rfl)|(obtain⟨_,h⟩:=h;walk_at "len")|(obtain⟨_,_,_,_,h⟩:=h;walk_at "len")|(obtain⟨_,_,_,_,_,_,h⟩:=h;walk_at "len")|(obtain⟨_,_,_,_,_,_,_,_,_,_,_,_,h⟩:=h;walk_at "len"))
local macro_rules | `(tactic| walk_at "at")=>`(tactic| first|assumption|exact b8|(refine (d6 ?_).trans ?_;(walk_at "ne");(walk_at "at"))|(refine Same.at ?_ ?_;assumption;(walk_at "at")))
local macro_rules | `(tactic| walk_at "ne")=>`(tactic| first|assumption|exact Ne.symm (by assumption)|((refine' g6 ?h ?n);(case n=>assumption);(case h=>walk_at "at"))|((refine Ne.symm ?_);(refine' g6 ?h ?n);(case n=>assumption);(case h=>walk_at "at")))
local macro_rules | `(tactic| walk_at "cond")=>`(tactic| first|trivial|exact Or.inl ⟨by decide,by decide⟩|exact Or.inr ⟨by decide,by decide⟩|exact Or.inl ⟨by lia,by lia⟩|exact Or.inr ⟨by lia,by lia⟩|(show(0:Int)<_;lia)|(show(0:Int)<_;decide))
local macro_rules | `(tactic| walk_at "go1")=>`(tactic| first
 | ((with_reducible refine' e5j ?h ?_);(case h=>exact rfl))
 | with_reducible refine g_c ?_|with_reducible refine e7w ?_|with_reducible refine e7s ?_|with_reducible refine e8f ?_|with_reducible refine g_U ?_
 | ((with_reducible refine' g_I ?h ?_);(case h=>walk_at "cond"))
 | ((with_reducible refine' e7e ?h ?_);(case h=>exact rfl))|((with_reducible refine' e7x ?h ?_);(case h=>exact rfl))
 | with_reducible refine e8c ?_|with_reducible refine e5q ?_|with_reducible refine e3t ?_
 | (with_reducible refine e5l ?_)|(with_reducible refine e5t ?_)|with_reducible refine e8b ?_|with_reducible refine g_fnJ ?_
 | with_reducible refine e5y ?_|with_reducible refine e7y ?_|with_reducible refine e5r ?_|with_reducible refine e7z ?_|with_reducible refine g_mkJ ?_
 | with_reducible refine e3c ?_|with_reducible refine e7t ?_|with_reducible refine e6c ?_|with_reducible refine e7v ?_|with_reducible refine e5p ?_|with_reducible refine e3y ?_|with_reducible refine e5o ?_|with_reducible refine e3j ?_|with_reducible refine e5w ?_
 | with_reducible refine e8e ?_|with_reducible refine e4p ?_|with_reducible refine e2w ?_|with_reducible refine e5f ?_|with_reducible refine e5g ?_
 | ((with_reducible refine e3f ?_);intro _ _)|with_reducible refine e3k ?_|with_reducible refine e3q ?_|with_reducible refine e5n ?_|with_reducible refine g_retN ?_|with_reducible refine e8a ?_|with_reducible refine e6b ?_|with_reducible refine e3l ?_|with_reducible refine e5m ?_|with_reducible refine e3d ?_|with_reducible refine e0s ?_|with_reducible refine d4g ?_
 | ((with_reducible refine' e3p ?h ?c ?n ?l ?_);(case h=>walk_at "at");(case c=>walk_at "cls");(case n=>walk_at "nat");(case l=>first|exact rfl|assumption))
 | ((with_reducible refine' e0r ?h ?c ?n ?l ?_);(case h=>walk_at "at");(case c=>walk_at "cls");(case n=>walk_at "nat");(case l=>exact Nat.le_of_ble_eq_true rfl))
 | with_reducible refine e6a ?_|with_reducible refine e3h ?_
 | ((with_reducible refine' e3x ?h ?c ?n ?l ?_);(case h=>walk_at "at");(case c=>walk_at "cls");(case n=>walk_at "nat");(case l=>first|exact rfl|assumption))
 | ((with_reducible refine' e3w ?h ?l ?_);(case h=>walk_at "at");(case l=>exact Nat.le_of_ble_eq_true rfl))
 | ((with_reducible refine' e5s ?h ?l ?_);(case h=>walk_at "at");(case l=>exact rfl))
 | ((with_reducible refine' a3d ?h ?e ?_);(case h=>walk_at "at");(case e=>exact rfl))
 | ((with_reducible refine' e5v ?h ?e ?_);(case h=>walk_at "at");(case e=>exact rfl))
 | ((with_reducible refine' e5u ?h ?_);(case h=>walk_at "at"))|((with_reducible refine' e3n ?h ?_);(case h=>walk_at "at"))
 | with_reducible refine e5x ?_|with_reducible refine e3g ?_|with_reducible refine g_rng2 ?_|with_reducible refine e3m ?_|with_reducible refine e3u ?_
 | ((with_reducible refine' d8h ?h1 ?h2 ?_);(case h1=>lia);(case h2=>lia))|((with_reducible refine' d8h ?h1 ?h2 ?_);(case h1=>decide);(case h2=>decide))
 | ((with_reducible refine' g_lstW ?h ?_);(case h=>exact SqL.of (by walk_at "at")))
 | with_reducible refine g_bm0 ?_|((with_reducible refine' g_clear ?h ?_);(case h=>walk_at "at"))
 | with_reducible refine e8d ?_|((with_reducible refine' e5k ?h ?_);(case h=>walk_at "at"))|((with_reducible refine' d7o ?h ?l ?_);(case h=>walk_at "at");(case l=>first|exact Nat.le_of_ble_eq_true rfl|lia))
 | ((with_reducible refine' e0q ?h ?_);(case h=>assumption))|((with_reducible refine e3o ?_);intro _ _))
local macro_rules | `(tactic| walk_at "go")=>`(tactic| repeat (walk_at "go1"))
local macro_rules | `(tactic| fail "")=>`(tactic| walk_at "go")
set_option hygiene false in
local macro_rules | `(tactic| walk_at "cls")=>`(tactic| first|assumption|exact T.k_Board|exact T.k_Hand|exact T.k_Giver|exact T.k_Taker|exact T.k_Lane|exact T.k_Hall)
set_option hygiene false in
local macro_rules | `(tactic| walk_at "nat")=>`(tactic| first|assumption|exact T.n_Board_many_touches|exact T.n_Board_newest_touch|exact T.n_Board_numbers|exact T.n_Board_size|exact T.n_Hand_board|exact T.n_Hand_here|exact T.n_Hand_marks_read|exact T.n_Hand_name|exact T.n_Hand_other|exact T.n_Hand_stage_behind_marks|exact T.n_Hand_stage_now|exact T.n_Hand_touched|exact T.n_Giver_board|exact T.n_Giver_here|exact T.n_Giver_kept|exact T.n_Giver_left|exact T.n_Giver_marks_read|exact T.n_Giver_name|exact T.n_Giver_number|exact T.n_Giver_other|exact T.n_Giver_stage_behind_marks|exact T.n_Giver_stage_now|exact T.n_Giver_touched|exact T.n_Taker_board|exact T.n_Taker_here|exact T.n_Taker_left|exact T.n_Taker_marks_read|exact T.n_Taker_name|exact T.n_Taker_not_freed|exact T.n_Taker_number|exact T.n_Taker_other|exact T.n_Taker_parts|exact T.n_Taker_stage_behind_marks|exact T.n_Taker_stage_now|exact T.n_Taker_taken|exact T.n_Taker_touched|exact T.n_Lane_board|exact T.n_Lane_giver|exact T.n_Lane_kept_trail|exact T.n_Lane_taker|exact T.n_Lane_touched|exact T.n_Hall_back|exact T.n_Hall_finished|exact T.n_Hall_out|exact T.n_Hall_sums)
section
variable{P:Program}{w:World}{K:Frag}{mg:Str->Option Value}{base:Heap}{cl:Cl}
theorem l8:1<=sizeLine:=by decide
def a0r(cl:Cl):Sp:=λvs H Q E=>∃n,vs=[.int n]/\(if 2<=n/\n<=8 then Q .non H else E (.ref cl.BadSize) none H)
def a6q(cl:Cl)(n t:Int)(H:Hp)(E:XK)(k:Prop):Prop:=if 2<=n/\n<=8 then (if 0<=t/\t<2*n then k else E (.ref cl.NoTurn) none H) else E (.ref cl.BadSize) none H
theorem a4j{cl:Cl}{n t:Int}{H:Hp}{E:XK}{k k':Prop}(h:a6q cl n t H E k)(i:2<=n->n<=8->0<=t->t<2*n->k->k'):a6q cl n t H E k':=by
 unfold a6q at h ⊢;by_cases a:2<=n/\n<=8
 ·rw[if_pos a] at h ⊢
  by_cases b:0<=t/\t<2*n
  ·rw[if_pos b] at h ⊢;exact i a.1 a.2 b.1 b.2 h
  ·rw[if_neg b] at h ⊢;exact h
 ·rw[if_neg a] at h ⊢;exact h
def a4c(cl:Cl):Sp:=λvs H Q E=>∃n t,vs=[.int n,.int t]/\a6q cl n t H E (Q .non H)
def a6w(cl:Cl):Sp:=λvs H Q E=>∃n t,vs=[.int n,.int t]/\a6q cl n t H E (Q (.int (t % n)) H)
def b2w(cl:Cl):Sp:=λvs H Q E=>∃n t,vs=[.int n,.int t]/\a6q cl n t H E (Q (.int (t / n)) H)
def a4l(cl:Cl):Sp:=λvs H Q E=>∃n t m,vs=[.int n,.int t,.int m]/\a6q cl n t H E (Q (.int ((t+m) % (2*n))) H)
abbrev a8s:Stmt:=top 21
theorem c1c:d9 ["size"] ["size"] (d7 a8s):=↑1
theorem c2h(D:DefT K mg "check_size" a8s ["size"])(T:Txt K mg cl):FnT P w K mg base "check_size" 1 ["size"] (a0r cl):=by
 refine D.fn c1c ↑7 ↑10
 ·walk_at "len"
 ·obtain⟨n,rfl,h⟩:=h
  refine⟨_,(d8 (a0q (PW.pt (c4r (k7 c1y (pv 0) (t4 T.m_LEAST_SIZE rfl) (m9 _)) (b6h (k7 c7p (pv 0) (t4 T.m_MOST_SIZE rfl) (m9 _)))))
    (d8 (a0p T.c_BadSize rfl rfl a9i (a7 g7 b7)))
    r0)),?_⟩
  refine⟨_,rfl,_,_,rfl,rfl,_,rfl,b2t (λc=>?_) (λc=>⟨_,rfl,_,_,rfl,rfl,_,rfl,b2t (λd=>?_) (λd=>?_)⟩)⟩
  ·rw[if_neg (by have:=of_decide_eq_true c;lia)] at h
   exact b2t (λ_=>⟨l8,h⟩) (λz=>absurd rfl z)
  ·rw[if_neg (by have:=of_decide_eq_true d;lia)] at h
   exact⟨l8,h⟩
  ·simp only[decide_eq_true_eq] at c d
   rw[if_pos ↑5] at h;exact h
abbrev a8r:Stmt:=top 22
theorem c1b:d9 ["size","turn"] ["size","turn"] (d7 a8r):=↑1
theorem c2g(D:DefT K mg "check_turn" a8r ["size","turn"])(T:Txt K mg cl)(G_check_size:FnT P w K mg base "check_size" 1 ["size"] (a0r cl)):FnT P w K mg base "check_turn" 2 ["size","turn"] (a4c cl):=by
 refine D.fn c1b ↑7 ↑10
 ·walk_at "len"
 ·obtain⟨n,t,rfl,h⟩:=h
  refine⟨_,(d5 (i8 (g9 G_check_size hr ↑3 rfl f9 (a7 (pv 0) b7)))
   (d8 (a0q (PW.pt (c4r (k7 c1y (pv 1) g3 (m9 _)) (b6h (k7 d9u (pv 1) (m6 a4y g3 (pv 0)) (m9 _)))))
    (d8 (a0p T.c_NoTurn rfl rfl a9i (a7 g7 b7)))
    r0))),?_⟩
  unfold a6q at h;refine⟨_,rfl,n,rfl,b2t (λa=>?_) (λa=>?_)⟩
  ·rw[if_pos a] at h
   simp[e4u,tOr,d6d,tOp,rI0,rI,e1k,tC,L2.start,c8x,d9e,e1c,d9c,CMul];refine b2t (λc=>?_) (λc=>b2t (λd=>?_) (λd=>?_))
   ·rw[if_neg ↑5] at h;exact⟨l8,h⟩
   ·rw[if_neg ↑5] at h;exact⟨l8,h⟩
   ·rw[if_pos ↑5] at h;exact h
  ·rw[if_neg a] at h
   exact h
abbrev b4v:Stmt:=top 23
theorem c6y:d9 ["size","turn"] ["size","turn"] (d7 b4v):=↑1
theorem c7q(D:DefT K mg "place_of" b4v ["size","turn"])(T:Txt K mg cl)(G_check_turn:FnT P w K mg base "check_turn" 2 ["size","turn"] (a4c cl)):FnT P w K mg base "place_of" 3 ["size","turn"] (a6w cl):=by
 refine D.fn c6y ↑7 ↑10
 ·walk_at "len"
 ·obtain⟨n,t,rfl,h⟩:=h
  refine⟨_,(d5 (i8 (g9 G_check_turn hr ↑3 rfl f9 (a7 (pv 0) (a7 (pv 1) b7))))
   (d8 (g4 (m6 a6p (pv 1) (pv 0))))),?_⟩
  refine⟨_,rfl,_,rfl,n,t,rfl,a4j h λn2 n8 t0 t1 q=>?_⟩;exact⟨_,rfl,_,rfl,_,_,rfl,rfl,↑5,q⟩
abbrev c1s:Stmt:=top 24
theorem d2n:d9 ["size","turn"] ["size","turn"] (d7 c1s):=↑1
theorem e5e(n:Int)(h0:0<n)(h:n<2 ^ 200):n.natAbs.log2<9000:=by
 have h1:n.natAbs<2 ^ 200:=by lia
 have h2:=(Nat.log2_lt (n:=n.natAbs) (k:=200) ↑5).mpr h1;lia
theorem d3k(D:DefT K mg "lap_of" c1s ["size","turn"])(T:Txt K mg cl)(G_check_turn:FnT P w K mg base "check_turn" 2 ["size","turn"] (a4c cl)):FnT P w K mg base "lap_of" 3 ["size","turn"] (b2w cl):=by
 refine D.fn d2n ↑7 ↑10
 ·walk_at "len"
 ·obtain⟨n,t,rfl,h⟩:=h
  refine⟨_,(d5 (i8 (g9 G_check_turn hr ↑3 rfl f9 (a7 (pv 0) (a7 (pv 1) b7))))
   (d8 (g4 (m6 b3w (pv 1) (pv 0))))),?_⟩
  refine⟨_,rfl,_,rfl,n,t,rfl,a4j h λn2 n8 t0 t1 q=>?_⟩;exact⟨_,rfl,_,rfl,_,_,rfl,rfl,⟨by lia,e5e n ↑5 ↑5⟩,q⟩
abbrev c1q:Stmt:=top 25
theorem d2m:d9 ["size","turn","many"] ["size","turn","many"] (d7 c1q):=↑1
theorem d3j(D:DefT K mg "onward" c1q ["size","turn","many"])(T:Txt K mg cl)(G_check_turn:FnT P w K mg base "check_turn" 2 ["size","turn"] (a4c cl)):FnT P w K mg base "onward" 3 ["size","turn","many"] (a4l cl):=by
 refine D.fn d2m ↑7 ↑10
 ·walk_at "len"
 ·obtain⟨n,t,m,rfl,h⟩:=h
  refine⟨_,(d5 (i8 (g9 G_check_turn hr ↑3 rfl f9 (a7 (pv 0) (a7 (pv 1) b7))))
   (d8 (g4 (m6 a6p (m6 a0w (pv 1) (pv 2)) (m6 a4y g3 (pv 0)))))),?_⟩
  refine⟨_,rfl,_,rfl,n,t,rfl,a4j h λn2 n8 t0 t1 q=>?_⟩;exact⟨_,rfl,_,rfl,_,_,rfl,rfl,_,rfl,_,_,rfl,rfl,.inl ⟨by decide,by decide⟩,_,_,rfl,rfl,↑5,q⟩
def d8f(cl:Cl)(m:Int)(H:Hp)(E:XK)(k:Prop):Prop:=if 0<=m/\m<=3 then k else E (.ref cl.BadMark) none H
def b2y(cl:Cl):Sp:=λvs H Q E=>∃m,vs=[.int m]/\d8f cl m H E (Q .non H)
def a9x:Sp:=λvs H Q E=>∃a b,vs=[.int a,.int b]/\Q (.int (2*a+b)) H
def a8f(cl:Cl):Sp:=λvs H Q E=>∃n t,vs=[.int n,.int t]/\a6q cl n t H E (Q (.int (2*(t / n)+1)) H)
def b5z(cl:Cl):Sp:=λvs H Q E=>∃n t,vs=[.int n,.int t]/\a6q cl n t H E (Q (.int (2*(t / n)+0)) H)
def a8d(cl:Cl):Sp:=λvs H Q E=>∃n t,vs=[.int n,.int t]/\a6q cl n t H E (Q (.int (2*(1-t / n)+0)) H)
abbrev a8t:Stmt:=top 30
theorem c1d:d9 ["mark"] ["mark"] (d7 a8t):=↑1
theorem c2i(D:DefT K mg "check_mark" a8t ["mark"])(T:Txt K mg cl):FnT P w K mg base "check_mark" 1 ["mark"] (b2y cl):=by
 refine D.fn c1d ↑7 ↑10
 ·walk_at "len"
 ·obtain⟨n,rfl,h⟩:=h
  refine⟨_,(d8 (a0q (PW.pt (c4r (k7 c1y (pv 0) g3 (m9 _)) (b6h (k7 c7p (pv 0) (t4 T.m_MOST_MARK rfl) (m9 _)))))
    (d8 (a0p T.c_BadMark rfl rfl a9i (a7 g7 b7)))
    r0)),?_⟩
  unfold d8f at h;refine⟨_,rfl,_,_,rfl,rfl,_,rfl,b2t (λc=>?_) (λc=>⟨_,rfl,_,_,rfl,rfl,_,rfl,b2t (λd=>?_) (λd=>?_)⟩)⟩
  ·rw[if_neg (by have:=of_decide_eq_true c;lia)] at h
   exact b2t (λ_=>⟨l8,h⟩) (λz=>absurd rfl z)
  ·rw[if_neg (by have:=of_decide_eq_true d;lia)] at h
   exact⟨l8,h⟩
  ·simp only[decide_eq_true_eq] at c d
   rw[if_pos ↑5] at h;exact h
abbrev b7n:Stmt:=top 31
theorem d0k:d9 ["lap","side"] ["lap","side"] (d7 b7n):=↑1
theorem d1a(D:DefT K mg "mark_of" b7n ["lap","side"])(T:Txt K mg cl):FnT P w K mg base "mark_of" 1 ["lap","side"] a9x:=by
 refine D.fn d0k ↑7 ↑10
 ·walk_at "len"
 ·obtain⟨a,b,rfl,h⟩:=h
  refine⟨_,(d8 (g4 (m6 a0w (m6 a4y g3 (pv 0)) (pv 1)))),?_⟩;exact⟨_,rfl,_,_,rfl,rfl,.inl ⟨by decide,by decide⟩,_,rfl,_,_,rfl,rfl,h⟩
abbrev b1u:Stmt:=top 34
theorem c4c:d9 ["size","turn"] ["size","turn"] (d7 b1u):=↑1
theorem c5i(D:DefT K mg "full_mark" b1u ["size","turn"])(T:Txt K mg cl)(G_lap_of:FnT P w K mg base "lap_of" 3 ["size","turn"] (b2w cl))(G_mark_of:FnT P w K mg base "mark_of" 1 ["lap","side"] a9x):FnT P w K mg base "full_mark" 4 ["size","turn"] (a8f cl):=by
 refine D.fn c4c ↑7 ↑10
 ·walk_at "len"
 ·obtain⟨n,t,rfl,h⟩:=h
  refine⟨_,(d8 (g4 (g9 G_mark_of hr ↑3 rfl f9 (a7 (g9 G_lap_of hr ↑3 rfl f9 (a7 (pv 0) (a7 (pv 1) b7))) (a7 (t4 T.m_FULL rfl) b7))))),?_⟩;exact⟨_,rfl,_,rfl,n,t,rfl,a4j h λn2 n8 t0 t1 q=>⟨_,_,rfl,q⟩⟩
abbrev b1v:Stmt:=top 35
theorem c4d:d9 ["size","turn"] ["size","turn"] (d7 b1v):=↑1
theorem c5j(D:DefT K mg "free_mark" b1v ["size","turn"])(T:Txt K mg cl)(G_lap_of:FnT P w K mg base "lap_of" 3 ["size","turn"] (b2w cl))(G_mark_of:FnT P w K mg base "mark_of" 1 ["lap","side"] a9x):FnT P w K mg base "free_mark" 4 ["size","turn"] (b5z cl):=by
 refine D.fn c4d ↑7 ↑10
 ·walk_at "len"
 ·obtain⟨n,t,rfl,h⟩:=h
  refine⟨_,(d8 (g4 (g9 G_mark_of hr ↑3 rfl f9 (a7 (g9 G_lap_of hr ↑3 rfl f9 (a7 (pv 0) (a7 (pv 1) b7))) (a7 (t4 T.m_FREE rfl) b7))))),?_⟩;exact⟨_,rfl,_,rfl,n,t,rfl,a4j h λn2 n8 t0 t1 q=>⟨_,_,rfl,q⟩⟩
theorem z9{cl:Cl}{n t:Int}{H:Hp}{E:XK}{k:Prop}(n2:2<=n)(n8:n<=8)(t0:0<=t)(t1:t<2*n)(h:k):a6q cl n t H E k:=by
 unfold a6q;rw[if_pos ⟨n2,n8⟩,if_pos ⟨t0,t1⟩];exact h
abbrev a5v:Stmt:=top 36
theorem b7f:d9 ["size","turn"] ["size","turn"] (d7 a5v):=↑1
theorem b8j(D:DefT K mg "mark_to_give" a5v ["size","turn"])(T:Txt K mg cl)(G_lap_of:FnT P w K mg base "lap_of" 3 ["size","turn"] (b2w cl))(G_mark_of:FnT P w K mg base "mark_of" 1 ["lap","side"] a9x):FnT P w K mg base "mark_to_give" 4 ["size","turn"] (a8d cl):=by
 refine D.fn b7f ↑7 ↑10
 ·walk_at "len"
 ·obtain⟨n,t,rfl,h⟩:=h
  refine⟨_,(d8 (g4 (g9 G_mark_of hr ↑3 rfl f9 (a7 (m6 b3v g3 (g9 G_lap_of hr ↑3 rfl f9 (a7 (pv 0) (a7 (pv 1) b7)))) (a7 (t4 T.m_FREE rfl) b7))))),?_⟩;exact⟨_,rfl,_,rfl,n,t,rfl,a4j h λn2 n8 t0 t1 q=>⟨_,_,rfl,rfl,_,_,rfl,q⟩⟩
def Well(H:Hp)(w:Addr):Prop:=∃a b p,H w=some (.lst [.int a,.int b,.int p])/\0<p/\p<2147483648
def But(w:Addr)(H H':Hp):Prop:=∀b o,H b=some o->b≠w->H' b=some o
theorem But.refl(w:Addr)(H:Hp):But w H H:=λ_ _ e _=>e
theorem But.trans{w:Addr}{H H1 H2:Hp}(a:But w H H1)(b:But w H1 H2):But w H H2:=λc o e n=>b c o (a c o e n) n
theorem But.of{w:Addr}{H H':Hp}(s:Same H H'):But w H H':=λb o e _=>s b o e
theorem But.upd{w:Addr}{H:Hp}{o:HO}:But w H (upd H w o):=λb u e n=>by rw[d6 n];exact e
theorem f8{H:Hp}{p:Addr}{o:HO}(n:H p=none):Same H (upd H p o):=λb u e=>by rw[d6 (g6 e n)];exact e
theorem Well.same{H H':Hp}{w:Addr}(h:Well H w)(s:Same H H'):Well H' w:=let ⟨a,b,p,e,q⟩:=h;⟨a,b,p,s _ _ e,q⟩
theorem Well.at{H:Hp}{w:Addr}(h:Well H w):∃o,H w=some o:=let ⟨_,_,_,e,_⟩:=h;⟨_,e⟩
def a4m:Sp:=λvs H Q _=>∃w m,vs=[.ref w,.int m]/\Well H w/\0<m/\m<2 ^ 200/\∀r H',0<=r->r<m->Well H' w->But w H H'->Q (.int r) H'
abbrev b4z:Stmt:=top 118
theorem b7g:d9 ["well","many","got"] ["well","many"] (d7 b4z):=↑1
theorem c7t(D:DefT K mg "_law_take" b4z ["well","many"])(T:Txt K mg cl):FnT P w K mg base "_law_take" 1 ["well","many"] a4m:=by
 refine D.fn b7g ↑7 ↑10
 ·walk_at "len"
 ·obtain⟨w,m,rfl,⟨a,b,p,hw,p0,p1⟩,m0,m1,k⟩:=h
  refine⟨_,(d5 (a0q (k7 c7p (u9 (i4 (K:=K)) (pv 0) g3 (λ_ _=>rfl)) g3 (m9 _))
     (
     d5 (j9 (i:=2) b7g.nd rfl (.inl rfl) (m6 a6p (u9 (i4 (K:=K)) (pv 0) g3 (λ_ _=>rfl)) (pv 1)))
     (d5 (b6i (m6 b3w (u9 (i4 (K:=K)) (pv 0) g3 (λ_ _=>rfl)) (pv 1)) (d3a (pv 0) g3 b6y))
     (d8 (g4 (pv 2)))))
     r0)
   (d5 (b6i (m6 a0w (m6 a6p (m6 a4y (u9 (i4 (K:=K)) (pv 0) g3 (λ_ _=>rfl)) g3) (u9 (i4 (K:=K)) (pv 0) g3 (λ_ _=>rfl))) g3) (d3a (pv 0) g3 b6y))
   (d8 (g4 (m6 a6p (m6 b3w (m6 a6p (m6 a4y (u9 (i4 (K:=K)) (pv 0) g3 (λ_ _=>rfl)) (u9 (i4 (K:=K)) (pv 0) g3 (λ_ _=>rfl))) g3) g3) (pv 1)))))),?_⟩
  refine⟨_,rfl,w,_,0,_,rfl,rfl,SqL.of hw,rfl,_,_,rfl,rfl,_,rfl,b2t (λc=>?_) (λc=>?_)⟩
  ·refine⟨_,rfl,w,_,0,_,rfl,rfl,SqL.of hw,rfl,_,rfl,_,_,rfl,rfl,m0,?_⟩
   refine⟨_,rfl,w,_,0,_,rfl,rfl,SqL.of hw,rfl,_,rfl,_,_,rfl,rfl,⟨m0,e5e m m0 m1⟩,_,rfl,w,_,0,0,rfl,rfl,hw,rfl,?_⟩;exact⟨_,rfl,k _ _ (Int.emod_nonneg _ ↑5) (Int.emod_lt_of_pos _ m0) ⟨_,_,_,b8,p0,p1⟩ But.upd⟩
  ·refine⟨_,rfl,w,_,1,_,rfl,rfl,SqL.of hw,rfl,_,_,rfl,rfl,.inr ⟨by decide,by decide⟩,_,rfl,w,_,2,_,rfl,rfl,SqL.of hw,rfl,_,_,rfl,rfl,p0,_,_,rfl,rfl,_,rfl,w,_,1,1,rfl,rfl,hw,rfl,?_⟩
   have h1:=Int.emod_nonneg (b*48271) (show p≠0 by lia)
   have h2:=Int.emod_lt_of_pos (b*48271) p0;refine⟨_,rfl,w,_,1,_,rfl,rfl,SqL.of b8,rfl,_,rfl,w,_,1,_,rfl,rfl,SqL.of b8,rfl,_,_,rfl,rfl,.inl ⟨by lia,by lia⟩,_,_,rfl,rfl,(by show(0:Int)<2147483423;decide),_,_,rfl,rfl,⟨by decide,by decide⟩,_,rfl,_,_,rfl,rfl,m0,?_⟩
   exact k _ _ (Int.emod_nonneg _ ↑5) (Int.emod_lt_of_pos _ m0) ⟨_,_,_,b8,p0,p1⟩ But.upd
theorem b5u{ns:List Int}{n:Nat}(h:n<ns.length):atI (ns.map V.int) (n:Int)=some (.int ns[n]):=by
 have hl:(ns.map V.int).length=ns.length:=List.length_map _;unfold atI ixN;rw[if_pos ↑5,if_pos ↑5];show(ns.map V.int)[(n:Int).toNat]?=_;rw[show(n:Int).toNat=n by lia,List.getElem?_map,List.getElem?_eq_getElem h]
 rfl
abbrev d9l:List V:=[.int 2147483647,.int 2147483629,.int 2147483587,.int 2147483579,.int 2147483563,.int 2147483549,.int 2147483543,.int 2147483497]
theorem d2w(j:Int)(h0:0<=j)(h1:j<8):∃v,atI d9l j=some (.int v)/\0<v/\v<2147483648:=by
 have:j=0\/j=1\/j=2\/j=3\/j=4\/j=5\/j=6\/j=7:=by lia
 rcases this with rfl|rfl|rfl|rfl|rfl|rfl|rfl|rfl <;> exact⟨_,rfl,by decide,by decide⟩
def b7e(K:Frag):Sp:=λvs H Q _=>∃(c:Addr)(ns:List Int)(k:Nat),vs=[.ref c,.int (k:Int)]/\SqL K H c (ns.map V.int)/\k<1000/\∀w H',H w=none->Same H H'->Well H' w->Q (.ref w) H'
abbrev b4y:Stmt:=top 117
theorem a2q:d9 ["script","k","cell","primes","seed"] ["script","k"] (d7 b4y):=↑1
theorem c7s(D:DefT K mg "_law_well" b4y ["script","k"])(T:Txt K mg cl):FnT P w K mg base "_law_well" 1 ["script","k"] (b7e K):=by
 refine D.fn a2q ↑7 ↑10
 ·walk_at "len"
 ·obtain⟨c,ns,n,rfl,hc,hn,k⟩:=h
  refine⟨_,(d5 (j9 (i:=2) a2q.nd rfl (.inl rfl) g3)
   (d5 (a0q (k7 c1y (pv 1) (l7 (n5 (K:=K)) (by rfl) T.z_len PySem.boot_len (a7 (pv 0) b7)) (m9 _))
     (d8 (j9 (i:=2) a2q.nd rfl (.inl rfl) (u9 (i4 (K:=K)) (pv 0) (pv 1) (λ_ _=>rfl))))
     r0)
   (d5 (j9 (i:=3) a2q.nd rfl (.inl rfl) (o8 (a7 g3 (a7 g3 (a7 g3 (a7 g3 (a7 g3 (a7 g3 (a7 g3 (a7 g3 b7))))))))))
   (d5 (j9 (i:=4) a2q.nd rfl (.inl rfl) (m6 a6p (m6 a4y (m6 a0w (m6 a6p (pv 2) g3) g3) (m6 a0w g3 (m6 a4y g3 (pv 1)))) g3))
   (d5 (j9 (i:=4) a2q.nd rfl (.inl rfl) (m6 a0w (m6 a0w (m6 a6p (m6 a4y (pv 4) (pv 4)) g3) (pv 1)) g3))
   (d5 (a0q (k7 d9u (pv 2) (m6 c9j g3 g3) (m9 _))
     (d8 (g4 (o8 (a7 (pv 2) (a7 (pv 4) (a7 (u9 (i4 (K:=K)) (pv 3) (m6 a6p (pv 1) g3) (λ_ _=>rfl)) b7))))))
     r0)
   (d8 (g4 (o8 (a7 g3 (a7 (pv 4) (a7 (u9 (i4 (K:=K)) (pv 3) (m6 a6p (pv 1) g3) (λ_ _=>rfl)) b7)))))))))))),?_⟩
  refine⟨_,rfl,_,rfl,c,_,rfl,.inl hc,_,_,rfl,rfl,_,rfl,b2t (λa=>⟨_,rfl,_,rfl,c,_,(n:Int),_,rfl,rfl,hc,b5u (by have:=of_decide_eq_true a;rw[List.length_map] at this;lia),?_⟩) (λa=>?_)⟩
  all_goals
   refine⟨by show 8<=sizeLine;decide,λp hp=>?_⟩
   refine⟨_,rfl,_,_,rfl,rfl,(by show(0:Int)<2147483489;decide),_,_,rfl,rfl,_,rfl,_,_,rfl,rfl,.inl ⟨by decide,by decide⟩,_,_,rfl,rfl,_,_,rfl,rfl,.inl ⟨by lia,by lia⟩,_,_,rfl,rfl,(by show(0:Int)<2147483489;decide),?_⟩
   refine⟨_,rfl,_,rfl,_,_,rfl,rfl,.inl ⟨by lia,by lia⟩,_,_,rfl,rfl,(by show(0:Int)<2147483477;decide),_,rfl,_,_,rfl,rfl,_,_,rfl,rfl,?_⟩
   refine⟨_,rfl,_,_,rfl,rfl,⟨by decide,by decide,by decide⟩,_,_,rfl,rfl,_,rfl,b2t (λb=>?_) (λb=>?_)⟩
   all_goals
    obtain⟨v,hv,v0,v1⟩:=d2w ((n:Int) % 8) ↑5 ↑5
    first
     | refine⟨_,rfl,_,rfl,_,rfl,_,rfl,_,_,rfl,rfl,(by show(0:Int)<8;decide),p,_,_,_,rfl,rfl,SqL.of b8,hv,(by show 3<=sizeLine;decide),λq hq=>?_⟩
     | refine⟨_,rfl,_,rfl,_,rfl,_,_,rfl,rfl,(by show(0:Int)<8;decide),p,_,_,_,rfl,rfl,SqL.of b8,hv,(by show 3<=sizeLine;decide),λq hq=>?_⟩
    exact k q _ ((f8 hp).free hq) ((f8 hp).trans (f8 hq)) ⟨_,_,_,b8,v0,v1⟩
theorem e2e{ns:List Int}{Pr:Int->Prop}(h:∀v∈ns,Pr v){r:Int}(h0:0<=r)(h1:r<ns.length):∃v,atI (ns.map V.int) r=some (.int v)/\Pr v:=by
 have hr:r.toNat<ns.length:=by lia
 refine⟨ns[r.toNat],?_,h _ (List.getElem_mem hr)⟩;have e:=b5u hr
 rwa [show((r.toNat:Nat):Int)=r by lia] at e
theorem Well.ne{H:Hp}{w p:Addr}(h:Well H w)(n:H p=none):p≠w:=by
 obtain⟨o,e⟩:=h.at;exact(g6 e n).symm
def b2i(b:Bool):Int:=if b then 1 else 0
def toB(ns:List Int):List Bool:=ns.map λx=>x == 1
def b1c(ns:List Int):Bool:=ns.all λx=>x == 0 || x == 1
theorem d8s(ns:List Int):(toB ns).length=ns.length:=List.length_map _
theorem d5f{ns:List Int}(h:b1c ns=true):(toB ns).map b2i=ns:=by
 induction ns with
 | nil=>rfl
 | cons x xs ih=>
  unfold b1c at h ih;rw[List.all_cons,Bool.and_eq_true] at h;have e:b2i (x == 1)=x:=by
   have h1:=h.1;unfold b2i;by_cases hx:x=1
   ·subst hx;rfl
   ·have:x=0:=by simpa[hx] using h1
    subst this;rfl
  show b2i (x == 1)::(toB xs).map b2i=x::xs;rw[e,ih h.2]
def a2p:List Bool->Nat
 | []=>0
 | b::bs=>1+(bs.takeWhile λx=>x == b).length
def a5p(bs:List Bool):Option Nat:=if (bs.drop (a2p bs)).any (λx=>x == bs.headD false) then none else some (((if bs.headD false then bs.length else 0)+a2p bs) % (2*bs.length))
def e4l(n t:Nat):List Bool:=List.replicate (t % n) (t / n == 1)++List.replicate (n-t % n) (!(t / n == 1))
def d5o:Nat->List (List Bool)
 | 0=>[[]]
 | n+1=>(d5o n).flatMap λbs=>[false::bs,true::bs]
theorem c9m:∀bs:List Bool,bs∈d5o bs.length
 | []=>List.mem_singleton.mpr rfl
 | b::bs=>by
  show b::bs∈(d5o bs.length).flatMap λbs=>[false::bs,true::bs];refine List.mem_flatMap.mpr ⟨bs,c9m bs,?_⟩;cases b <;> simp
def d8p:List (List Bool):=d5o 2++d5o 3++d5o 4++d5o 5++d5o 6++d5o 7++d5o 8
theorem d3p{bs:List Bool}(h2:2<=bs.length)(h8:bs.length<=8):bs∈d8p:=by
 have h:=c9m bs;unfold d8p;have:bs.length=2\/bs.length=3\/bs.length=4\/bs.length=5\/bs.length=6\/bs.length=7\/bs.length=8:=by lia
 simp only[List.mem_append];rcases this with e|e|e|e|e|e|e <;> rw[e] at h <;> simp[h]
theorem d5l:d8p.all (λbs=>decide (1<=a2p bs) && decide (a2p bs<=bs.length) && (List.range bs.length).all λj=>!decide (j<=a2p bs) || (if bs[j]?=bs[0]? then decide (j+1<=a2p bs) else decide (j=a2p bs)))=true:=by decide +kernel
theorem d5k{bs:List Bool}(h2:2<=bs.length)(h8:bs.length<=8):1<=a2p bs/\a2p bs<=bs.length/\∀j,j<bs.length->j<=a2p bs->(bs[j]?=bs[0]?->j+1<=a2p bs)/\(bs[j]? ≠ bs[0]?->j=a2p bs):=by
 have h:=List.all_eq_true.mp d5l bs (d3p h2 h8);simp only[Bool.and_eq_true,decide_eq_true_eq,List.all_eq_true,List.mem_range,Bool.or_eq_true,Bool.not_eq_true',decide_eq_false_iff_not] at h;refine⟨h.1.1,h.1.2,λj hj hl=>?_⟩;rcases h.2 j hj with z|z
 ·exact absurd hl z
 ·constructor
  ·intro e
   rw[if_pos e] at z;exact of_decide_eq_true z
  ·intro e
   rw[if_neg e] at z;exact of_decide_eq_true z
theorem d7u{xs:List V}{j:Nat}(h:j<=xs.length):d7v xs (some (j:Int)) none=xs.drop j:=by
 unfold d7v;rw[HT.sIx_nat,HT.sIx_none,Nat.min_eq_left h];exact List.take_of_length_le (by rw[List.length_drop];lia)
theorem d6z(b:Bool)(bs:List Bool):inV (.int (b2i b)) ((bs.map b2i).map V.int)=bs.any λx=>x == b:=by
 unfold inV
 induction bs with
 | nil=>rfl
 | cons c cs ih=>
  simp only[List.map_cons,List.any_cons];rw[ih];cases b <;> cases c <;> rfl
theorem d4m(ns:List Int):(ns.map V.int).all a4h=true:=by simp[a4h]
def b2z(K:Frag)(cl:Cl):Sp:=λvs H Q E=>∃a ns,vs=[.ref a]/\SqL K H a (ns.map V.int)/\(if 2<=(ns.length:Int)/\(ns.length:Int)<=8 then (if b1c ns=true then Q .non H else E (.ref cl.BadMark) none H) else E (.ref cl.BadSize) none H)
abbrev a8v:Stmt:=top 55
theorem b3h:d9 ["bits","bit"] ["bits"] (d7 a8v):=↑1
theorem d5g{ns:List Int}{i:Nat}{x:Int}(h:(ns.map V.int)[i]?=some (.int x))(hx:¬ (0<=x/\x<=1)):b1c ns=false:=by
 rw[List.getElem?_map] at h;cases e:ns[i]? with
 | none=>rw[e] at h;cases h
 | some y=>
  rw[e] at h;cases h;cases hb:b1c ns with
  | false=>rfl
  | true=>
   have hb:=List.all_eq_true.mp hb x (List.mem_of_getElem? e);simp only[Bool.or_eq_true,beq_iff_eq] at hb;lia
theorem d5e{ns:List Int}(h:∀(i:Nat) (x:Int),(ns.map V.int)[i]?=some (.int x)->0<=x/\x<=1):b1c ns=true:=by
 refine List.all_eq_true.mpr λx hx=>?_;obtain⟨i,hi⟩:=List.getElem?_of_mem hx;have:=h i x (by rw[List.getElem?_map,hi];rfl)
 simp only[Bool.or_eq_true,beq_iff_eq];lia
theorem c3e{ns:List Int}{i:Nat}{x:V}(h:(ns.map V.int)[i]?=some x):∃v,x=.int v:=by
 rw[List.getElem?_map] at h;cases e:ns[i]? with
 | none=>rw[e] at h;cases h
 | some y=>rw[e] at h;cases h;exact⟨_,rfl⟩
theorem c2k(D:DefT K mg "check_bits" a8v ["bits"])(T:Txt K mg cl)(G_check_size:FnT P w K mg base "check_size" 1 ["size"] (a0r cl)):FnT P w K mg base "check_bits" 2 ["bits"] (b2z K cl):=by
 refine D.fn b3h ↑7 ↑10
 ·walk_at "len"
 ·obtain⟨a,ns,rfl,hS,h⟩:=h
  refine⟨_,(d5 (i8 (g9 G_check_size hr ↑3 rfl f9 (a7 (l7 (n5 (K:=K)) (by rfl) T.z_len PySem.boot_len (a7 (pv 0) b7)) b7)))
   (d8 (b8d a5n rfl (a5l (K:=K) (pv 0)) (v6 (i:=1) b3h.nd rfl (.inl rfl))
    (d8 (a0q (PW.pt (c4r (k7 c1y (pv 1) g3 (m9 _)) (b6h (k7 c7p (pv 1) g3 (m9 _)))))
      (d8 (a0p T.c_BadMark rfl rfl a9i (a7 g7 b7)))
      r0))))),?_⟩
  refine⟨_,rfl,a,_,rfl,.inl hS,_,rfl,?_⟩;rw[List.length_map];refine b2t (λc=>?_) (λc=>?_)
  ·rw[if_pos c] at h
   refine⟨_,rfl,a,rfl,⟨_,hS⟩,c9v (xs:=ns.map V.int) (λi σ H'=>∃x,σ=[some (.ref a),x]/\H'=H/\∀(j:Nat)(y:Int),j<i->(ns.map V.int)[j]?=some (.int y)->0<=y/\y<=1) ⟨_,rfl,rfl,λj y hj=>absurd hj (Nat.not_lt_zero _)⟩ ?_ ?_ ?_⟩
   ·rintro i σ H' _ ⟨x,rfl,rfl,_⟩
    exact hS
   ·rintro i x σ H' hx ⟨y,rfl,rfl,hb⟩
    obtain⟨v,rfl⟩:=c3e hx;refine⟨_,rfl,_,_,rfl,rfl,_,rfl,b2t (λd=>?_) (λd=>⟨_,rfl,_,_,rfl,rfl,_,rfl,b2t (λd2=>?_) (λd2=>?_)⟩)⟩
    ·rw[if_neg (by rw[d5g hx (by have:=of_decide_eq_true d;lia)];decide)] at h
     exact b2t (λ_=>⟨l8,h⟩) (λz=>absurd rfl z)
    ·rw[if_neg (by rw[d5g hx (by have:=of_decide_eq_true d2;lia)];decide)] at h
     exact⟨l8,h⟩
    ·simp only[decide_eq_true_eq] at d d2
     refine⟨_,rfl,rfl,λj y hj e=>?_⟩;by_cases hji:j<i
     ·exact hb j y hji e
     ·have:j=i:=by lia
      subst this;rw[hx] at e;cases e;lia
   ·rintro σ H' ⟨x,rfl,rfl,hb⟩
    rw[if_pos (d5e λi x e=>hb i x (List.getElem?_eq_some_iff.mp e).1 e)] at h;exact h
  ·rw[if_neg c] at h
   exact h
def b0x(K:Frag):Sp:=λvs H Q _=>∃(a:Addr)(bs:List Bool),vs=[.ref a]/\SqL K H a ((bs.map b2i).map V.int)/\2<=bs.length/\bs.length<=8/\Q (.int (a2p bs:Nat)) H
abbrev a7k:Stmt:=top 57
theorem a5u:d9 ["bits","many"] ["bits"] (d7 a7k):=↑1
theorem e4e{b c:Bool}:(V.int (b2i b)=V.int (b2i c)) ↔ b=c:=by cases b <;> cases c <;> simp[b2i]
theorem b9n(D:DefT K mg "alike_ahead" a7k ["bits"])(T:Txt K mg cl):FnT P w K mg base "alike_ahead" 1 ["bits"] (b0x K):=by
 refine D.fn a5u ↑7 ↑10
 ·walk_at "len"
 ·obtain⟨a,bs,rfl,hS,h2,h8,h⟩:=h
  refine⟨_,(d5 (j9 (i:=1) a5u.nd rfl (.inl rfl) g3)
   (d5 (d6k a5n (PW.pt (d2t (k7 c1y (pv 1) (l7 (n5 (K:=K)) (by rfl) T.z_len PySem.boot_len (a7 (pv 0) b7)) (m9 _)) (c7m (k7 a6a (u9 (i4 (K:=K)) (pv 0) (pv 1) (λ_ _=>rfl)) (u9 (i4 (K:=K)) (pv 0) g3 (λ_ _=>rfl)) (m9 _)))))
     (d8 (e2d (i:=1) a5u.nd rfl (.inl rfl) g3 d8e)))
   (d8 (g4 (pv 1))))),?_⟩
  obtain⟨l1,l2,l3⟩:=d5k h2 h8;have hl:((bs.map b2i).map V.int).length=bs.length:=by rw[List.length_map,List.length_map]
  refine⟨λz σ H'=>∃g:Nat,z=bs.length-g/\1<=g/\g<=a2p bs/\σ=[some (.ref a),some (.int (g:Int))]/\H'=H,⟨_,1,rfl,Nat.le_refl 1,l1,rfl,rfl⟩,?_⟩;rintro z σ H' ⟨g,rfl,g1,ga,rfl,rfl⟩;refine⟨_,rfl,_,rfl,a,_,rfl,.inl hS,_,_,rfl,rfl,_,rfl,b2t (λc=>?_) (λc=>e2w ?_)⟩
  ·have hg:g<bs.length:=by have:=of_decide_eq_true c;rw[hl] at this;lia
   have e1:=b5u (ns:=bs.map b2i) (n:=g) (by rw[List.length_map];exact hg)
   have e0:=b5u (ns:=bs.map b2i) (n:=0) (by rw[List.length_map];lia)
   refine⟨_,rfl,_,rfl,a,_,(g:Int),_,rfl,rfl,hS,e1,_,rfl,a,_,0,_,rfl,rfl,hS,e0,rfl,_,rfl,?_⟩;rw[List.getElem_map,List.getElem_map];refine b2t (λb=>?_) (λb=>?_)
   ·have heq:bs[g]=bs[0]:=e4e.mp (by simpa using b)
    have lt:=(l3 g hg ga).1 (by rw[List.getElem?_eq_getElem hg,List.getElem?_eq_getElem ↑5,heq])
    refine⟨λσ' H'=>σ'=[some (.ref a),some (.int ((g+1:Nat):Int))]/\H'=_,λσ' H' ⟨h1,h2⟩=>⟨bs.length-(g+1),by lia,g+1,rfl,by lia,lt,h1,h2⟩,?_⟩
    exact⟨_,rfl,_,_,rfl,rfl,rfl,rfl⟩
   ·have hne:bs[g]≠bs[0]:=λe=>b (by rw[e];simp)
    have eq:=(l3 g hg ga).2 (by rw[List.getElem?_eq_getElem hg,List.getElem?_eq_getElem ↑5];intro e;exact hne (Option.some.inj e))
    subst eq;exact⟨_,rfl,h⟩
  ·have hg:¬ g<bs.length:=λz=>c (decide_eq_true (by rw[hl];lia))
   have:g=a2p bs:=by lia
   subst this;exact⟨_,rfl,h⟩
def c9s(cl:Cl)(ns:List Int)(H:Hp)(E:XK)(k:Nat->Hp->Prop):Prop :=
 if 2<=(ns.length:Int)/\(ns.length:Int)<=8 then (if b1c ns=true then (∀H',Same H H'->(match a5p (toB ns) with|none=>E (.ref cl.Crooked) none H'|some f=>k f H')) else E (.ref cl.BadMark) none H) else E (.ref cl.BadSize) none H
def c0s(K:Frag)(cl:Cl):Sp:=λvs H Q E=>∃a ns,vs=[.ref a]/\SqL K H a (ns.map V.int)/\c9s cl ns H E λf H'=>Q (.int (f:Nat)) H'
abbrev c7h:Stmt:=top 58
theorem c1a:d9 ["bits","many","size"] ["bits"] (d7 c7h):=↑1
theorem d6r(D:DefT K mg "front" c7h ["bits"])(T:Txt K mg cl)(G_check_bits:FnT P w K mg base "check_bits" 2 ["bits"] (b2z K cl))(G_alike_ahead:FnT P w K mg base "alike_ahead" 1 ["bits"] (b0x K))(G_onward:FnT P w K mg base "onward" 3 ["size","turn","many"] (a4l cl)):FnT P w K mg base "front" 4 ["bits"] (c0s K cl):=by
 refine D.fn c1a ↑7 ↑10
 ·walk_at "len"
 ·obtain⟨a,ns,rfl,hS,h⟩:=h
  refine⟨_,(d5 (i8 (g9 G_check_bits hr ↑3 rfl f9 (a7 (pv 0) b7)))
   (d5 (j9 (i:=1) c1a.nd rfl (.inl rfl) (g9 G_alike_ahead hr ↑3 rfl f9 (a7 (pv 0) b7)))
   (d5 (a0q (k7 (e2m (K:=K)) (u9 (i4 (K:=K)) (pv 0) g3 (λ_ _=>rfl)) (c9h (c9d (K:=K)) (pv 0) (d2y (pv 1)) d2z) (by with_unfolding_all rfl))
     (d8 (a0p T.c_Crooked rfl rfl a9i (a7 g7 b7)))
     r0)
   (d5 (j9 (i:=2) c1a.nd rfl (.inl rfl) (l7 (n5 (K:=K)) (by rfl) T.z_len PySem.boot_len (a7 (pv 0) b7)))
   (d8 (g4 (g9 G_onward hr ↑3 rfl f9 (a7 (pv 2) (a7 (m6 a4y (u9 (i4 (K:=K)) (pv 0) g3 (λ_ _=>rfl)) (pv 2)) (a7 (pv 1) b7)))))))))),?_⟩
  unfold c9s at h;refine⟨_,rfl,a,ns,rfl,hS,b2t (λc=>b2t (λd=>?_) (λd=>?_)) (λc=>?_)⟩
  ·rw[if_pos c,if_pos d] at h
   have e:=d5f d;have hl:(toB ns).length=ns.length:=d8s ns;generalize hb:toB ns=bs at e hl h;subst e;have h2:2<=bs.length:=by rw[hl];lia
   have h8:bs.length<=8:=by rw[hl];lia
   obtain⟨l1,l2,l3⟩:=d5k h2 h8;have e0:=b5u (ns:=bs.map b2i) (n:=0) (by rw[List.length_map];lia)
   rw[List.getElem_map] at e0;have hh:bs.headD false=bs[0]:=by
    cases bs with
    | nil=>simp at h2
    | cons b bs=>rfl
   refine⟨_,rfl,a,bs,rfl,hS,h2,h8,?_⟩;refine⟨_,rfl,a,_,0,_,rfl,rfl,hS,e0,_,rfl,_,rfl,_,rfl,a,_,rfl,hS,λp hp=>?_⟩;rw[d7u (by rw[List.length_map,List.length_map];exact l2),<- List.map_drop,<- List.map_drop]
   have s1:Same H (upd H p (.lst (((bs.drop (a2p bs)).map b2i).map V.int))):=f8 hp;have hq:=h _ s1;refine⟨p,_,rfl,.inl (SqL.of b8),rfl,d4m _,_,rfl,?_⟩;rw[if_neg Bool.false_ne_true,d6z];unfold a5p at hq;rw[hh] at hq;refine b2t (λz=>?_) (λz=>?_)
   ·rw[if_pos z] at hq
    exact⟨l8,hq⟩
   ·rw[if_neg z] at hq
    refine⟨_,rfl,a,_,rfl,.inl (s1.seq hS),?_⟩;rw[List.length_map,List.length_map];refine⟨_,rfl,_,rfl,a,_,0,_,rfl,rfl,s1.seq hS,e0,_,rfl,_,_,rfl,rfl,.inr ⟨by lia,by lia⟩,_,rfl,(bs.length:Int),_,_,rfl,z9 ↑5 ↑5 ?_ ?_ ?_⟩
    ·unfold b2i;split <;> lia
    ·unfold b2i;split <;> lia
    ·have e:(b2i bs[0]*(bs.length:Int)+(a2p bs:Int)) % (2*(bs.length:Int))=((((if bs[0]=true then bs.length else 0)+a2p bs) % (2*bs.length):Nat):Int):=by
      unfold b2i;split
      ·rw[Int.one_mul];push_cast;rfl
      ·rw[Int.zero_mul];push_cast;rfl
     rw[e];exact hq
  ·rw[if_pos c,if_neg d] at h
   exact h
  ·rw[if_neg c] at h
   exact h
theorem c0l:2000<=sizeLine:=by decide
def a2l(ns:List Int):Bool:=ns.all λx=>decide (0<=x) && decide (x<=3)
def d6y(m:Int):Int:=m / 2
def tbI(m:Int):Int:=if m / 2=m % 2 then 0 else 1
theorem c5y{ns:List Int}(h:a2l ns=true){x:Int}(hx:x∈ns):0<=x/\x<=3:=by
 have h:=List.all_eq_true.mp h x hx
 simpa using h
theorem d6v{ns:List Int}{i:Nat}{x:Int}(h:(ns.map V.int)[i]?=some (.int x))(hx:¬ (0<=x/\x<=3)):a2l ns=false:=by
 rw[List.getElem?_map] at h;cases e:ns[i]? with
 | none=>rw[e] at h;cases h
 | some y=>
  rw[e] at h;cases h;cases hb:a2l ns with
  | false=>rfl
  | true=>exact absurd (c5y hb (List.mem_of_getElem? e)) hx
theorem d1p{ns:List Int}(h:∀(i:Nat) (x:Int),(ns.map V.int)[i]?=some (.int x)->0<=x/\x<=3):a2l ns=true:=by
 refine List.all_eq_true.mpr λx hx=>?_;obtain⟨i,hi⟩:=List.getElem?_of_mem hx;have:=h i x (by rw[List.getElem?_map,hi];rfl)
 simpa using this
theorem d9y{ns:List Int}(h:a2l ns=true):b1c (ns.map d6y)=true:=by
 refine List.all_eq_true.mpr λx hx=>?_;obtain⟨m,hm,rfl⟩:=List.mem_map.mp hx;have:=c5y h hm;have e:d6y m=0\/d6y m=1:=by unfold d6y;lia
 simpa using e
theorem d6c(ns:List Int):b1c (ns.map tbI)=true:=by
 refine List.all_eq_true.mpr λx hx=>?_;obtain⟨m,hm,rfl⟩:=List.mem_map.mp hx;have e:tbI m=0\/tbI m=1:=by unfold tbI;split <;> simp
 simpa using e
def b1d:Sp:=λvs H Q E=>∃m,vs=[.int m]/\Q (.int (m / 2)) H
def b5x:Sp:=λvs H Q E=>∃m,vs=[.int m]/\Q (.int (m % 2)) H
def b5v:Sp:=λvs H Q E=>∃m,vs=[.int m]/\Q (.int (tbI m)) H
abbrev b4x:Stmt:=top 32
theorem c7a:d9 ["mark"] ["mark"] (d7 b4x):=↑1
theorem c7r(D:DefT K mg "mark_lap" b4x ["mark"])(T:Txt K mg cl):FnT P w K mg base "mark_lap" 1 ["mark"] b1d:=by
 refine D.fn c7a ↑7 ↑10
 ·walk_at "len"
 ·obtain⟨a,rfl,h⟩:=h
  refine⟨_,(d8 (g4 (m6 b3w (pv 0) g3))),?_⟩;exact⟨_,rfl,_,_,rfl,rfl,⟨by decide,e5e 2 ↑3 ↑3⟩,h⟩
abbrev b1p:Stmt:=top 33
theorem c3z:d9 ["mark"] ["mark"] (d7 b1p):=↑1
theorem c5d(D:DefT K mg "mark_side" b1p ["mark"])(T:Txt K mg cl):FnT P w K mg base "mark_side" 1 ["mark"] b5x:=by
 refine D.fn c3z ↑7 ↑10
 ·walk_at "len"
 ·obtain⟨a,rfl,h⟩:=h
  refine⟨_,(d8 (g4 (m6 a6p (pv 0) g3))),?_⟩;exact⟨_,rfl,_,_,rfl,rfl,(by show(0:Int)<2;decide),h⟩
abbrev b1l:Stmt:=top 59
theorem c3v:d9 ["mark"] ["mark"] (d7 b1l):=↑1
theorem c4y(D:DefT K mg "taker_bit" b1l ["mark"])(T:Txt K mg cl)(G_mark_lap:FnT P w K mg base "mark_lap" 1 ["mark"] b1d)(G_mark_side:FnT P w K mg base "mark_side" 1 ["mark"] b5x):FnT P w K mg base "taker_bit" 2 ["mark"] b5v:=by
 refine D.fn c3v ↑7 ↑10
 ·walk_at "len"
 ·obtain⟨m,rfl,h⟩:=h
  refine⟨_,(d8 (g4 (a5m (k7 e2l (g9 G_mark_lap hr ↑3 rfl f9 (a7 (pv 0) b7)) (g9 G_mark_side hr ↑3 rfl f9 (a7 (pv 0) b7)) (m9 _)) g3 g3))),?_⟩;refine⟨_,rfl,m,rfl,_,rfl,m,rfl,rfl,_,rfl,b2t (λc=>?_) (λc=>?_)⟩
  ·have e:tbI m=1:=by
    unfold tbI;rw[if_neg];intro e;rw[e] at c;simp at c
   rw[e] at h;exact h
  ·have e:tbI m=0:=by
    unfold tbI;rw[if_pos]
    simpa using c
   rw[e] at h;exact h
def b4k(cl:Cl)(ns:List Int)(H:Hp)(E:XK)(k:Prop):Prop:=if 2<=(ns.length:Int)/\(ns.length:Int)<=8 then (if a2l ns=true then k else E (.ref cl.BadMark) none H) else E (.ref cl.BadSize) none H
theorem c0g{cl:Cl}{ns:List Int}{H:Hp}{E:XK}{k k':Prop}(h:b4k cl ns H E k)(i:2<=ns.length->ns.length<=8->a2l ns=true->k->k'):b4k cl ns H E k':=by
 unfold b4k at h ⊢;by_cases a:2<=(ns.length:Int)/\(ns.length:Int)<=8
 ·rw[if_pos a] at h ⊢
  by_cases b:a2l ns=true
  ·rw[if_pos b] at h ⊢;exact i ↑5 ↑5 b h
  ·rw[if_neg b] at h ⊢;exact h
 ·rw[if_neg a] at h ⊢;exact h
theorem c5z{cl:Cl}{ns:List Int}{H:Hp}{E:XK}{k:Prop}(h2:2<=ns.length)(h8:ns.length<=8)(hm:a2l ns=true)(h:k):b4k cl ns H E k:=by
 unfold b4k;rw[if_pos ⟨by lia,by lia⟩,if_pos hm]
 exact h
def a5r(K:Frag)(cl:Cl):Sp:=λvs H Q E=>∃a ns,vs=[.ref a]/\SqL K H a (ns.map V.int)/\b4k cl ns H E (Q .non H)
abbrev a7j:Stmt:=top 56
theorem b0z:d9 ["marks","mark"] ["marks"] (d7 a7j):=↑1
theorem b9m(D:DefT K mg "check_marks" a7j ["marks"])(T:Txt K mg cl)(G_check_size:FnT P w K mg base "check_size" 1 ["size"] (a0r cl))(G_check_mark:FnT P w K mg base "check_mark" 1 ["mark"] (b2y cl)):FnT P w K mg base "check_marks" 2 ["marks"] (a5r K cl):=by
 refine D.fn b0z ↑7 ↑10
 ·walk_at "len"
 ·obtain⟨a,ns,rfl,hS,h⟩:=h
  refine⟨_,(d5 (i8 (g9 G_check_size hr ↑3 rfl f9 (a7 (l7 (n5 (K:=K)) (by rfl) T.z_len PySem.boot_len (a7 (pv 0) b7)) b7)))
   (d8 (b8d a5n rfl (a5l (K:=K) (pv 0)) (v6 (i:=1) b0z.nd rfl (.inl rfl))
    (d8 (i8 (g9 G_check_mark hr ↑3 rfl f9 (a7 (pv 1) b7))))))),?_⟩
  unfold b4k at h;refine⟨_,rfl,a,_,rfl,.inl hS,_,rfl,?_⟩;rw[List.length_map];refine b2t (λc=>?_) (λc=>?_)
  ·rw[if_pos c] at h
   refine⟨_,rfl,a,rfl,⟨_,hS⟩,c9v (xs:=ns.map V.int) (λi σ H'=>∃x,σ=[some (.ref a),x]/\H'=H/\∀(j:Nat)(y:Int),j<i->(ns.map V.int)[j]?=some (.int y)->0<=y/\y<=3) ⟨_,rfl,rfl,λj y hj=>absurd hj (Nat.not_lt_zero _)⟩ ?_ ?_ ?_⟩
   ·rintro i σ H' _ ⟨x,rfl,rfl,_⟩
    exact hS
   ·rintro i x σ H' hx ⟨y,rfl,rfl,hb⟩
    obtain⟨v,rfl⟩:=c3e hx;refine⟨_,rfl,v,rfl,b2t (λd=>?_) (λd=>?_)⟩
    ·refine⟨_,rfl,rfl,λj y hj e=>?_⟩
     by_cases hji:j<i
     ·exact hb j y hji e
     ·have:j=i:=by lia
      subst this;rw[hx] at e;cases e;exact d
    ·rw[if_neg (by rw[d6v hx d];decide)] at h
     exact h
   ·rintro σ H' ⟨x,rfl,rfl,hb⟩
    rw[if_pos (d1p λi x e=>hb i x (List.getElem?_eq_some_iff.mp e).1 e)] at h;exact h
  ·rw[if_neg c] at h
   exact h
theorem c6g{ns row:List Int}{H1:Hp}{E:XK}{k:Nat->Hp->Prop}(hl:row.length=ns.length)(h2:2<=ns.length)(h8:ns.length<=8)(hb:b1c row=true)(hs:∀f H',Same H1 H'->a5p (toB row)=some f->k f H')(hn:∀H',Same H1 H'->a5p (toB row)=none->E (.ref cl.Crooked) none H'):c9s cl row H1 E k:=by
 unfold c9s;rw[if_pos ⟨by lia,by lia⟩,if_pos hb]
 intro H' s;cases e:a5p (toB row) with
 | none=>exact hn H' s e
 | some f=>exact hs f H' s e
def d8r(cl:Cl)(row:List Int)(H:Hp)(E:XK)(k:Nat->Hp->Prop):Prop:=(∀f H',Same H H'->a5p (toB row)=some f->k f H')/\∀H',Same H H'->a5p (toB row)=none->E (.ref cl.Crooked) none H'
def b2x(K:Frag)(cl:Cl):Sp:=λvs H Q E=>∃a ns,vs=[.ref a]/\SqL K H a (ns.map V.int)/\(∃o,H a=some o)/\b4k cl ns H E (d8r cl (ns.map d6y) H E λf H'=>Q (.int (f:Nat)) H')
def b2v(K:Frag)(cl:Cl):Sp:=λvs H Q E=>∃a ns,vs=[.ref a]/\SqL K H a (ns.map V.int)/\(∃o,H a=some o)/\b4k cl ns H E (d8r cl (ns.map tbI) H E λf H'=>Q (.int (f:Nat)) H')
def onI(f:Int->Int):V->V
 | .int m=>.int (f m)
 | v=>v
theorem d3q(f:Int->Int)(ns:List Int):(ns.map V.int).map (onI f)=(ns.map f).map V.int:=by rw[List.map_map,List.map_map];rfl
abbrev a8q:Stmt:=top 60
theorem c0z:d9 ["marks"] ["marks"] (d7 a8q):=↑1
theorem c2f(D:DefT K mg "giver_turn" a8q ["marks"])(T:Txt K mg cl)(G_check_marks:FnT P w K mg base "check_marks" 2 ["marks"] (a5r K cl))(G_mark_lap:FnT P w K mg base "mark_lap" 1 ["mark"] b1d)(G_front:FnT P w K mg base "front" 4 ["bits"] (c0s K cl)):FnT P w K mg base "giver_turn" 5 ["marks"] (b2x K cl):=by
 refine D.fn c0z ↑7 ↑10
 ·walk_at "len"
 ·obtain⟨a,ns,rfl,hS,ha,h⟩:=h
  refine⟨_,(d5 (i8 (g9 G_check_marks hr ↑3 rfl f9 (a7 (pv 0) b7)))
   (d8 (g4 (g9 G_front hr ↑3 rfl f9 (a7 (b5h (N:=["mark"]) (nt:=1) (fr:=[]) rfl (b7b rfl rfl (by decide +kernel) (by decide +kernel) rfl rfl) (a5l (K:=K) (pv 0)) (a9p ↑3) (λ_ _ _ _ _=>v6 (i:=0) (show(["mark"]:List Str).Nodup by decide +kernel) rfl (Or.inl rfl) (Or.inr rfl)) (λ_ _ _ _ _=>(g9 G_mark_lap hr ↑3 rfl d6p (a7 (pv 0) b7)))) b7))))),?_⟩
  refine⟨_,rfl,a,ns,rfl,hS,c0g h λh2 h8 hm q=>?_⟩;refine⟨_,rfl,a,rfl,⟨_,hS⟩,c6k (xs:=ns.map V.int) (f:=onI d6y) hS (by rw[List.length_map];have:=c0l;lia) ha ?_ ?_⟩
  ·intro i x H' kk hx _ q
   obtain⟨v,rfl⟩:=c3e hx;exact⟨_,rfl,v,rfl,q⟩
  ·intro c hc
   rw[d3q];exact⟨c,ns.map d6y,rfl,SqL.of b8,c6g (ns:=ns) (List.length_map _) h2 h8 (d9y hm) (λf H' s e=>q.1 f H' ((f8 hc).trans s) e) (λH' s e=>q.2 H' ((f8 hc).trans s) e)⟩
abbrev a8n:Stmt:=top 61
theorem c0w:d9 ["marks"] ["marks"] (d7 a8n):=↑1
theorem c2c(D:DefT K mg "taker_turn" a8n ["marks"])(T:Txt K mg cl)(G_check_marks:FnT P w K mg base "check_marks" 2 ["marks"] (a5r K cl))(G_taker_bit:FnT P w K mg base "taker_bit" 2 ["mark"] b5v)(G_front:FnT P w K mg base "front" 4 ["bits"] (c0s K cl)):FnT P w K mg base "taker_turn" 5 ["marks"] (b2v K cl):=by
 refine D.fn c0w ↑7 ↑10
 ·walk_at "len"
 ·obtain⟨a,ns,rfl,hS,ha,h⟩:=h
  refine⟨_,(d5 (i8 (g9 G_check_marks hr ↑3 rfl f9 (a7 (pv 0) b7)))
   (d8 (g4 (g9 G_front hr ↑3 rfl f9 (a7 (b5h (N:=["mark"]) (nt:=1) (fr:=[]) rfl (b7b rfl rfl (by decide +kernel) (by decide +kernel) rfl rfl) (a5l (K:=K) (pv 0)) (a9p ↑3) (λ_ _ _ _ _=>v6 (i:=0) (show(["mark"]:List Str).Nodup by decide +kernel) rfl (Or.inl rfl) (Or.inr rfl)) (λ_ _ _ _ _=>(g9 G_taker_bit hr ↑3 rfl d6p (a7 (pv 0) b7)))) b7))))),?_⟩
  refine⟨_,rfl,a,ns,rfl,hS,c0g h λh2 h8 hm q=>?_⟩;refine⟨_,rfl,a,rfl,⟨_,hS⟩,c6k (xs:=ns.map V.int) (f:=onI tbI) hS (by rw[List.length_map];have:=c0l;lia) ha ?_ ?_⟩
  ·intro i x H' kk hx _ q
   obtain⟨v,rfl⟩:=c3e hx;exact⟨_,rfl,v,rfl,q⟩
  ·intro c hc
   rw[d3q];exact⟨c,ns.map tbI,rfl,SqL.of b8,c6g (ns:=ns) (List.length_map _) h2 h8 (d6c ns) (λf H' s e=>q.1 f H' ((f8 hc).trans s) e) (λH' s e=>q.2 H' ((f8 hc).trans s) e)⟩
theorem But.nw{w:Addr}{H0 H:Hp}{p:Addr}{o:HO}(s:But w H0 H)(n:H p=none):But w H0 (L2.upd H p o):=s.trans (But.of (f8 n))
theorem But.free{w p:Addr}{H0 H:Hp}(s:But w H0 H)(hw:Well H w)(n:H p=none):H0 p=none:=by
 cases e:H0 p with
 | none=>rfl
 | some o=>
  have:=s p o e (hw.ne n);rw[n] at this;cases this
theorem _root_.L2.Same.set{H H':Hp}{p:Addr}{o:HO}(s:Same H H')(n:H p=none):Same H (upd H' p o):=λb u e=>by rw[d6 (g6 e n)];exact s b u e
theorem a9q{H:Hp}{p q:Addr}{ns:List Bool}(ne:p≠q)(hp:H p=some (.lst (ns.map V.bl)))(hq:H q=some (.lst (ns.map V.bl))):EqD K H 1 (.ref p) (.ref q) true:=by
 have h:=d7r (K:=K) ne (SqL.of hp) (SqL.of hq) (c9w _) (c9w _);rw[d4q] at h
 simpa using h
def Kp(ps:List Addr)(H H':Hp):Prop:=∀c o,H c=some o->c ∉ ps->H' c=some o
theorem Kp.trans{ps:List Addr}{H H1 H2:Hp}(a:Kp ps H H1)(b:Kp ps H1 H2):Kp ps H H2:=λc o e n=>b c o (a c o e n) n
theorem Kp.mono{ps qs:List Addr}{H H1:Hp}(a:Kp ps H H1)(h:∀c∈ps,c∈qs):Kp qs H H1:=λc o e n=>a c o e λz=>n (h c z)
theorem Kp.of{ps:List Addr}{H H1:Hp}(a:Same H H1):Kp ps H H1:=λc o e _=>a c o e
theorem Kp.upd{ps:List Addr}{H:Hp}{p:Addr}{o:HO}(h:p∈ps):Kp ps H (L2.upd H p o):=λc u e n=>by rw[d6 λz:c=p=>n (by rw[z];exact h)];exact e
def b4i(n:Nat):List Int:=(List.replicate n [2,-1,0,0]).flatten++[-1,-1,0,0]
theorem d1n(n:Nat):(b4i n).length=4*n+4:=by
 unfold b4i;rw[List.length_append,c8d];show n*4+4=_;lia
theorem d9i(n:Nat)(ns:List Int):(List.replicate n (ns.map V.int)).flatten=((List.replicate n ns).flatten).map V.int:=by
 induction n with
 | zero=>rfl
 | succ n ih=>rw[List.replicate_succ,List.replicate_succ,List.flatten_cons,List.flatten_cons,List.map_append,ih]
def Brd(cl:Cl)(H:Hp)(b l:Addr)(n:Nat)(row:List Int)(many:Int)(last:V):Prop :=
 (∃dx,H b=some (.ins cl.Board dx [("size",.int n),("numbers",.ref l),("many_touches",.int many),("newest_touch",last)]))/\H l=some (.lst (row.map V.int))/\row.length=4*n+4/\2<=n/\n<=8
theorem Brd.keep{cl:Cl}{H H':Hp}{b l:Addr}{n:Nat}{row:List Int}{many:Int}{last:V}{ps:List Addr}(h:Brd cl H b l n row many last)(k:Kp ps H H')(hb:b ∉ ps)(hl:l ∉ ps):Brd cl H' b l n row many last:=by
 obtain⟨⟨dx,e⟩,e',z⟩:=h;exact⟨⟨dx,k _ _ e hb⟩,k _ _ e' hl,z⟩
def a4d(cl:Cl):Sp:=λvs H Q E=>∃h:Str,vs=[.str h]/\(if h="giver"\/h="taker" then Q .non H else E (.ref cl.NoHand) none H)
def v2(d:Int):Sp:=λvs H Q _=>∃p,vs=[.int p]/\Q (.int (4*p+d)) H
def c8n(cl:Cl)(n:Int)(h:Str)(H:Hp)(E:XK)(k:Prop):Prop:=if 2<=n/\n<=8 then (if h="giver"\/h="taker" then k else E (.ref cl.NoHand) none H) else E (.ref cl.BadSize) none H
def c6c(h:Str):Int:=if h="giver" then 0 else 1
def a5a(cl:Cl):Sp:=λvs H Q E=>∃(n:Int)(h:Str),vs=[.int n,.str h]/\c8n cl n h H E (Q (.int (4*n+c6c h)) H)
def a1y(cl:Cl):Sp:=λvs H Q E=>∃(n:Int)(h:Str),vs=[.int n,.str h]/\c8n cl n h H E (Q (.int (4*n+c6c h+2)) H)
def b5w:Sp:=λvs H Q _=>∃n:Nat,vs=[.int n]/\n<=8/\∀l H',H l=none->Same H H'->H' l=some (.lst ((b4i n).map V.int))->Q (.ref l) H'
theorem c3j(x y:Str):eqV (.str x) (.str y)=decide (x=y):=by
 first
  | rfl
  | (unfold eqV;simp)
abbrev a8u:Stmt:=top 45
theorem c1e:d9 ["hand"] ["hand"] (d7 a8u):=↑1
theorem c2j(D:DefT K mg "check_hand" a8u ["hand"])(T:Txt K mg cl):FnT P w K mg base "check_hand" 1 ["hand"] (a4d cl):=by
 refine D.fn c1e ↑7 ↑10
 ·walk_at "len"
 ·obtain⟨n,rfl,h⟩:=h
  refine⟨_,(d8 (a0q (k7 (d3h (K:=K)) (pv 0) (a1w T.r_HANDS rfl) (by with_unfolding_all rfl))
    (d8 (a0p T.c_NoHand rfl rfl a9i (a7 g7 b7)))
    r0)),?_⟩
  fail "";refine⟨_,_,rfl,.inr T.kt_HANDS.sq,rfl,rfl,?_⟩;fail "";have e:inV (.str n) [.str "giver",.str "taker"]=decide (n="giver"\/n="taker"):=by
   unfold inV;simp only[List.any_cons,List.any_nil,c3j,Bool.or_false];rw[Bool.eq_iff_iff];simp only[Bool.or_eq_true,decide_eq_true_eq];exact or_congr eq_comm eq_comm
  simp only[if_true,e];refine d8i (λc=>?_) (λc=>?_)
  ·rw[if_neg c] at h
   fail "";exact⟨l8,h⟩
  ·rw[if_pos c] at h
   fail "";exact h
abbrev b1q:Stmt:=top 46
theorem c4a:d9 ["place"] ["place"] (d7 b1q):=↑1
theorem c5e(D:DefT K mg "mark_cell" b1q ["place"])(T:Txt K mg cl):FnT P w K mg base "mark_cell" 1 ["place"] (v2 0):=by
 refine D.fn c4a ↑7 ↑10
 ·walk_at "len"
 ·obtain⟨n,rfl,h⟩:=h
  refine⟨_,(d8 (g4 (m6 a4y (t4 T.m_CELLS_OF_A_PLACE rfl) (pv 0)))),?_⟩;fail "";rw[Int.add_zero] at h;exact h
abbrev a7h:Stmt:=top 47
theorem b9e:d9 ["place"] ["place"] (d7 a7h):=↑1
theorem b9k(D:DefT K mg "number_cell" a7h ["place"])(T:Txt K mg cl):FnT P w K mg base "number_cell" 1 ["place"] (v2 1):=by
 refine D.fn b9e ↑7 ↑10
 ·walk_at "len"
 ·obtain⟨n,rfl,h⟩:=h
  refine⟨_,(d8 (g4 (m6 a0w (m6 a4y (t4 T.m_CELLS_OF_A_PLACE rfl) (pv 0)) g3))),?_⟩;fail "";exact h
abbrev b1r:Stmt:=top 48
theorem c4b:d9 ["place"] ["place"] (d7 b1r):=↑1
theorem c5f(D:DefT K mg "left_cell" b1r ["place"])(T:Txt K mg cl):FnT P w K mg base "left_cell" 1 ["place"] (v2 2):=by
 refine D.fn c4b ↑7 ↑10
 ·walk_at "len"
 ·obtain⟨n,rfl,h⟩:=h
  refine⟨_,(d8 (g4 (m6 a0w (m6 a4y (t4 T.m_CELLS_OF_A_PLACE rfl) (pv 0)) g3))),?_⟩;fail "";exact h
abbrev a8m:Stmt:=top 49
theorem c0v:d9 ["place"] ["place"] (d7 a8m):=↑1
theorem c2b(D:DefT K mg "thing_cell" a8m ["place"])(T:Txt K mg cl):FnT P w K mg base "thing_cell" 1 ["place"] (v2 3):=by
 refine D.fn c0v ↑7 ↑10
 ·walk_at "len"
 ·obtain⟨n,rfl,h⟩:=h
  refine⟨_,(d8 (g4 (m6 a0w (m6 a4y (t4 T.m_CELLS_OF_A_PLACE rfl) (pv 0)) g3))),?_⟩;fail "";exact h
abbrev b1w:Stmt:=top 50
theorem c4e:d9 ["size","hand"] ["size","hand"] (d7 b1w):=↑1
theorem c5k(D:DefT K mg "card_cell" b1w ["size","hand"])(T:Txt K mg cl)(G_check_size:FnT P w K mg base "check_size" 1 ["size"] (a0r cl))(G_check_hand:FnT P w K mg base "check_hand" 1 ["hand"] (a4d cl)):FnT P w K mg base "card_cell" 2 ["size","hand"] (a5a cl):=by
 refine D.fn c4e ↑7 ↑10
 ·walk_at "len"
 ·obtain⟨n,x,rfl,h⟩:=h
  refine⟨_,(d5 (i8 (g9 G_check_size hr ↑3 rfl f9 (a7 (pv 0) b7)))
   (d5 (i8 (g9 G_check_hand hr ↑3 rfl f9 (a7 (pv 1) b7)))
   (d8 (g4 (m6 a0w (m6 a4y (t4 T.m_CELLS_OF_A_PLACE rfl) (pv 0)) (d0y (K:=K) (a1w T.r_HANDS rfl) (a7 (pv 1) b7))))))),?_⟩
  unfold c8n at h;fail "";refine⟨n,rfl,b2t (λa=>?_) (λa=>?_)⟩
  ·rw[if_pos a] at h
   fail "";refine⟨x,rfl,b2t (λb=>?_) (λb=>?_)⟩
   ·rw[if_pos b] at h
    fail "";refine⟨T.kt_HANDS.ty,?_⟩;fail "";refine⟨_,_,_,_,rfl,rfl,T.kt_HANDS,rfl,rfl,rfl,?_,?_⟩
    ·rw[c3j,c3j,decide_eq_true_eq,decide_eq_true_eq]
     exact b.imp Eq.symm Eq.symm
    ·fail ""
     have e:(if eqV (.str "giver") (.str x)=true then (0:Int) else 1)=c6c x:=by
      unfold c6c;rw[c3j];simp only[decide_eq_true_eq];by_cases c:x="giver"
      ·rw[if_pos c,if_pos c.symm]
      ·rw[if_neg c,if_neg λz=>c z.symm]
     rw[e];exact h
   ·rw[if_neg b] at h
    exact h
  ·rw[if_neg a] at h
   exact h
abbrev b1x:Stmt:=top 51
theorem c4f:d9 ["size","hand"] ["size","hand"] (d7 b1x):=↑1
theorem c5l(D:DefT K mg "bell_cell" b1x ["size","hand"])(T:Txt K mg cl)(G_card_cell:FnT P w K mg base "card_cell" 2 ["size","hand"] (a5a cl)):FnT P w K mg base "bell_cell" 3 ["size","hand"] (a1y cl):=by
 refine D.fn c4f ↑7 ↑10
 ·walk_at "len"
 ·obtain⟨n,x,rfl,h⟩:=h
  refine⟨_,(d8 (g4 (m6 a0w (g9 G_card_cell hr ↑3 rfl f9 (a7 (pv 0) (a7 (pv 1) b7))) (l7 (n5 (K:=K)) (by rfl) T.z_len PySem.boot_len (a7 (a1w T.r_HANDS rfl) b7))))),?_⟩
  unfold c8n at h;fail "";refine⟨n,x,rfl,?_⟩;unfold c8n;refine b2t (λa=>b2t (λb=>?_) (λb=>?_)) (λa=>?_)
  ·rw[if_pos a,if_pos b] at h
   fail "";refine⟨_,_,rfl,.inr T.kt_HANDS.sq,?_⟩;fail "";exact h
  ·rw[if_pos a,if_neg b] at h
   exact h
  ·rw[if_neg a] at h
   exact h
abbrev b1n:Stmt:=top 52
theorem c3x:d9 ["size"] ["size"] (d7 b1n):=↑1
theorem c5b(D:DefT K mg "new_cells" b1n ["size"])(T:Txt K mg cl):FnT P w K mg base "new_cells" 1 ["size"] b5w:=by
 refine D.fn c3x ↑7 ↑10
 ·walk_at "len"
 ·obtain⟨n,rfl,h8,k⟩:=h
  refine⟨_,(d8 (g4 (m6 c9k (m6 d3g (o8 (a7 (t4 T.m_NEW_MARK rfl) (a7 (t4 T.m_NO_ORDER rfl) (a7 g3 (a7 g3 b7))))) (pv 0)) (o8 (a7 (t4 T.m_NO_TURN rfl) (a7 (t4 T.m_NO_TURN rfl) (a7 (t4 T.m_STILL rfl) (a7 (t4 T.m_STILL rfl) b7)))))))),?_⟩;have h20:2000<=sizeLine:=by decide
  fail "";refine⟨by show 4<=sizeLine;lia,λp1 h1=>?_⟩
  fail "";refine⟨p1,n,_,rfl,rfl,b8,by lia,by lia,by show 4*(n:Int).toNat<=sizeLine;lia,λp2 h2=>?_⟩
  fail "";refine⟨by show 4<=sizeLine;lia,λp3 h3=>?_⟩
  refine d4k (f8 h3 _ _ b8) b8 ?_ (λp4 h4=>?_)
  ·rw[c8d]
   show(n:Int).toNat*4+4<=sizeLine;lia
  refine k p4 _ ((((f8 h1).trans (f8 h2)).trans (f8 h3)).free h4) ((((f8 h1).trans (f8 h2)).trans (f8 h3)).trans (f8 h4)) ?_;rw[b8];unfold b4i;rw[List.map_append,show((n:Int)).toNat=n by lia]
  rw[<- d9i n [2,-1,0,0]]
  rfl
inductive ExB(R:Addr->Addr->Nat->List Int->Int->V->Prop):Prop
 | mk (b l:Addr) (n:Nat) (row:List Int) (many:Int) (last:V) (h:R b l n row many last):ExB R
def b3g(cl:Cl):Sp:=λvs H Q E=>∃(x dx:Addr)(n:Int),vs=[.ref x,.int n]/\H x=some (.ins cl.Board dx []) /\
 (if 2<=n/\n<=8 then ∀l H',H l=none->Kp [x] H H'->Brd cl H' x l n.toNat (b4i n.toNat) 0 .non->Q .non H' else E (.ref cl.BadSize) none H)
def a1r(cl:Cl):Sp:=λvs H Q E=>ExB λb l n row many last=>∃(c:Int),vs=[.ref b,.int c]/\Brd cl H b l n row many last/\(if 0<=c/\c<row.length then Q .non H else E (.ref cl.NoCell) none H)
def a1p(cl:Cl):Sp:=λvs H Q _=>ExB λb l n row many last=>∃(d:Str)(c x:Int),vs=[.ref b,.str d,.int c,.int x]/\Brd cl H b l n row many last /\
 ∀t H',H t=none->Kp [b] H H'->H' t=some (.tup [.str d,.int c,.int x])->Brd cl H' b l n row (many+1) (.ref t)->Q .non H'
def u0(cl:Cl):Sp:=λvs H Q E=>ExB λb l n row many last=>∃(c:Int),vs=[.ref b,.int c]/\Brd cl H b l n row many last /\
 (if 0<=c/\c<row.length then ∀t H',H t=none->Kp [b] H H'->H' t=some (.tup [.str "read",.int c,.int (row.getD c.toNat 0)])->Brd cl H' b l n row (many+1) (.ref t)->Q (.int (row.getD c.toNat 0)) H' else E (.ref cl.NoCell) none H)
def t9(cl:Cl):Sp:=λvs H Q E=>ExB λb l n row many last=>∃(c x:Int),vs=[.ref b,.int c,.int x]/\Brd cl H b l n row many last /\
 (if 0<=c/\c<row.length then ∀t H',H t=none->Kp [b,l] H H'->H' t=some (.tup [.str "write",.int c,.int x])->Brd cl H' b l n (row.set c.toNat x) (many+1) (.ref t)->Q .non H' else E (.ref cl.NoCell) none H)
def a0k(cl:Cl):Sp:=λvs H Q _=>ExB λb l n row many last=>vs=[.ref b]/\Brd cl H b l n row many last/\∀p,H p=none->Q (.ref p) (upd H p (.lst (row.map V.int)))
def a1q(cl:Cl):Sp:=λvs H Q _=>ExB λb l n row many last=>vs=[.ref b]/\Brd cl H b l n row many last/\Q last H
theorem c0m{row:List Int}{c:Int}(h0:0<=c)(h1:c<row.length):atI (row.map V.int) c=some (.int (row.getD c.toNat 0)):=by
 have hn:c.toNat<row.length:=by lia
 have e:=b5u hn;rw[show((c.toNat:Nat):Int)=c by lia] at e
 rw[e,List.getD_eq_getElem?_getD,List.getElem?_eq_getElem hn]
 rfl
theorem d8d{l:Nat}{c:Int}(h0:0<=c)(h1:c<l):ixN l c=some c.toNat:=by
 unfold ixN;rw[if_pos h0,if_pos h1]
abbrev a9h:Stmt:=j4 (top 53) 0
theorem c1p:d9 ["self","size"] ["self","size"] (d7 a9h):=↑1
theorem c2y(D:DefM K cl.Board "__init__" "Board.__init__" a9h ["self","size"])(T:Txt K mg cl)(G_check_size:FnT P w K mg base "check_size" 1 ["size"] (a0r cl))(G_new_cells:FnT P w K mg base "new_cells" 1 ["size"] b5w):MethT P w K mg base cl.Board "__init__" 2 ["self","size"] (b3g cl):=by
 refine D.fn c1p ↑7 ↑10
 ·walk_at "len"
 ·obtain⟨x,dx,n,rfl,ex,h⟩:=h
  refine⟨_,(d5 (i8 (g9 G_check_size hr ↑3 rfl f9 (a7 (pv 1) b7)))
   (d5 (j1 (K:=K) (pv 0) (pv 1))
   (d5 (j1 (K:=K) (pv 0) (g9 G_new_cells hr ↑3 rfl f9 (a7 (pv 1) b7)))
   (d5 (j1 (K:=K) (pv 0) g3)
   (d8 (j1 (K:=K) (pv 0) c0e)))))),?_⟩
  fail "";refine⟨n,rfl,b2t (λa=>?_) (λa=>?_)⟩
  ·rw[if_pos a] at h
   fail "";refine⟨n.toNat,by rw[show((n.toNat:Nat):Int)=n by lia],by lia,λl H1 hl s1 e1=>?_⟩
   have nx:l≠x:=by
    rintro rfl;rw[b8] at hl;cases hl
   have ex1:=s1 _ _ b8;fail "";have el:H l=none:=by rw[d6 nx] at hl;exact hl
   refine h l _ el ?_ ⟨⟨dx,?_⟩,?_,d1n _,by lia,by lia⟩
   ·intro c o e n
    have nc:c≠x:=λz=>n (by simp[z])
    rw[d6 nc,d6 nc,d6 nc];exact s1 _ _ (by rw[d6 nc];exact e)
   ·rw[b8,show((n.toNat:Nat):Int)=n by lia]
    rfl
   ·rw[d6 nx,d6 nx,d6 nx]
    exact e1
  ·rw[if_neg a] at h
   exact h
abbrev a2j:Stmt:=j4 (top 53) 1
theorem b1k:d9 ["self","cell"] ["self","cell"] (d7 a2j):=↑1
theorem b2s(D:DefM K cl.Board "check_cell" "Board.check_cell" a2j ["self","cell"])(T:Txt K mg cl):MethT P w K mg base cl.Board "check_cell" 1 ["self","cell"] (a1r cl):=by
 refine D.fn b1k ↑7 ↑10
 ·walk_at "len"
 ·obtain⟨b,l,n,row,many,last,c,rfl,⟨⟨dx,eb⟩,el,hl,n2,n8⟩,h⟩:=h
  refine⟨_,(d8 (a0q (PW.pt (c4r (k7 c1y (pv 1) g3 (m9 _)) (b6h (k7 d9u (pv 1) (l7 (n5 (K:=K)) (by rfl) T.z_len PySem.boot_len (a7 ↑6 b7)) (m9 _)))))
    (d8 (a0p T.c_NoCell rfl rfl a9i (a7 g7 b7)))
    r0)),?_⟩
  fail "";refine a6b (λa=>?_) (λa=>?_)
  ·rw[if_neg ↑5] at h
   fail "";exact⟨l8,h⟩
  ·fail ""
   rw[List.length_map];refine a6b (λd=>?_) (λd=>?_)
   ·rw[if_neg ↑5] at h
    fail "";exact⟨l8,h⟩
   ·rw[if_pos ↑5] at h
    fail "";exact h
abbrev a2h:Stmt:=j4 (top 53) 2
theorem b1i:d9 ["self","deed","cell","value"] ["self","deed","cell","value"] (d7 a2h):=↑1
theorem b2q(D:DefM K cl.Board "note_touch" "Board.note_touch" a2h ["self","deed","cell","value"])(T:Txt K mg cl):MethT P w K mg base cl.Board "note_touch" 1 ["self","deed","cell","value"] (a1p cl):=by
 refine D.fn b1i ↑7 ↑10
 ·walk_at "len"
 ·obtain⟨b,l,n,row,many,last,d,c,x,rfl,⟨⟨dx,eb⟩,el,hl,n2,n8⟩,h⟩:=h
  refine⟨_,(d5 (d0v (K:=K) (pv 0) g3 e2x)
   (d8 (j1 (K:=K) (pv 0) (a4x (a7 (pv 1) (a7 (pv 2) (a7 (pv 3) b7))))))),?_⟩
  have nbl:l≠b:=(b9w eb el (by intro z;cases z)).symm
  fail "";refine⟨by show 3<=sizeLine;decide,λt ht=>?_⟩
  have nt:t≠b:=by
   rintro rfl;rw[b8] at ht;cases ht
  have et:H t=none:=by rw[d6 nt] at ht;exact ht
  fail "";refine h t _ et ?_ ?_ ⟨⟨dx,b8⟩,?_,hl,n2,n8⟩
  ·intro c o e n
   have nc:c≠b:=λz=>n (by simp[z])
   rw[d6 nc,d6 (g6 e et),d6 nc];exact e
  ·rw[d6 nt,b8]
  ·rw[d6 nbl,d6 (g6 el et),d6 nbl]
   exact el
abbrev a9g:Stmt:=j4 (top 53) 3
theorem c1o:d9 ["self","cell"] ["self","cell"] (d7 a9g):=↑1
theorem c2x(D:DefM K cl.Board "read" "Board.read" a9g ["self","cell"])(T:Txt K mg cl)(G_Board_check_cell:MethT P w K mg base cl.Board "check_cell" 1 ["self","cell"] (a1r cl))(G_Board_note_touch:MethT P w K mg base cl.Board "note_touch" 1 ["self","deed","cell","value"] (a1p cl)):MethT P w K mg base cl.Board "read" 2 ["self","cell"] (u0 cl):=by
 refine D.fn c1o ↑7 ↑10
 ·walk_at "len"
 ·obtain⟨b,l,n,row,many,last,c,rfl,hB,h⟩:=h
  refine⟨_,(d5 (i8 (a1e (pv 0) T.k_Board G_Board_check_cell hr ↑3 f9 (a7 (pv 1) b7)))
   (d5 (i8 (a1e (pv 0) T.k_Board G_Board_note_touch hr ↑3 f9 (a7 g7 (a7 (pv 1) (a7 (u9 (i4 (K:=K)) ↑6 (pv 1) (λ_ _=>rfl)) b7)))))
   (d8 (g4 (u9 (i4 (K:=K)) ↑6 (pv 1) (λ_ _=>rfl)))))),?_⟩
  have hB':=hB;obtain⟨⟨dx,eb⟩,el,hl,n2,n8⟩:=hB';fail "";refine⟨b,l,n,row,many,last,c,rfl,hB,b2t (λa=>?_) (λa=>?_)⟩
  ·rw[if_pos a] at h
   fail "";refine a3d el (c0m a.1 a.2) ?_;fail "";refine⟨b,l,n,row,many,last,_,c,_,rfl,hB,λt H' ht k et hB1=>?_⟩;obtain⟨⟨dx1,eb1⟩,el1,_⟩:=id hB1;fail "";exact a3d el1 (c0m a.1 a.2) (h t H' ht k et hB1)
  ·rw[if_neg a] at h
   exact h
abbrev a7o:Stmt:=j4 (top 53) 4
theorem b9h:d9 ["self","cell","number"] ["self","cell","number"] (d7 a7o):=↑1
theorem b9v(D:DefM K cl.Board "write" "Board.write" a7o ["self","cell","number"])(T:Txt K mg cl)(G_Board_check_cell:MethT P w K mg base cl.Board "check_cell" 1 ["self","cell"] (a1r cl))(G_Board_note_touch:MethT P w K mg base cl.Board "note_touch" 1 ["self","deed","cell","value"] (a1p cl)):MethT P w K mg base cl.Board "write" 2 ["self","cell","number"] (t9 cl):=by
 refine D.fn b9h ↑7 ↑10
 ·walk_at "len"
 ·obtain⟨b,l,n,row,many,last,c,x,rfl,hB,h⟩:=h
  refine⟨_,(d5 (i8 (a1e (pv 0) T.k_Board G_Board_check_cell hr ↑3 f9 (a7 (pv 1) b7)))
   (d5 (b6i (pv 2) (d3a ↑6 (pv 1) b6y))
   (d8 (i8 (a1e (pv 0) T.k_Board G_Board_note_touch hr ↑3 f9 (a7 g7 (a7 (pv 1) (a7 (pv 2) b7)))))))),?_⟩
  have hB':=hB;obtain⟨⟨dx,eb⟩,el,hl,n2,n8⟩:=hB';have nbl:b≠l:=b9w eb el (by intro z;cases z)
  fail "";refine⟨b,l,n,row,many,last,c,rfl,hB,b2t (λa=>?_) (λa=>?_)⟩
  ·rw[if_pos a] at h
   fail "";refine e3e el (by rw[List.length_map];exact d8d a.1 a.2) ?_
   fail "";refine⟨b,l,n,row.set c.toNat x,many,last,_,c,x,rfl,⟨⟨dx,?_⟩,?_,?_,n2,n8⟩,λt H' ht k et hB1=>?_⟩
   ·rw[d6 nbl];exact eb
   ·rw[b8,List.map_set]
   ·rw[List.length_set];exact hl
   ·fail ""
    refine h t H' ?_ ?_ et hB1
    ·rw[d6] at ht
     ·exact ht
     ·rintro rfl
      rw[b8] at ht;cases ht
    ·exact(Kp.upd (by simp)).trans (k.mono (by simp))
  ·rw[if_neg a] at h
   exact h
abbrev a2z:Stmt:=j4 (top 53) 6
theorem b3s:d9 ["self"] ["self"] (d7 a2z):=↑1
theorem b4g(D:DefM K cl.Board "all_cells" "Board.all_cells" a2z ["self"])(T:Txt K mg cl):MethT P w K mg base cl.Board "all_cells" 1 ["self"] (a0k cl):=by
 refine D.fn b3s ↑7 ↑10
 ·walk_at "len"
 ·obtain⟨b,l,n,row,many,last,rfl,⟨⟨dx,eb⟩,el,hl,n2,n8⟩,h⟩:=h
  refine⟨_,(d8 (g4 (a6n (b0j (K:=K)) (by rfl) T.z_list PyProof.Rows.boot_list (a7 ↑6 b7)))),?_⟩
  fail "";exact h
abbrev a9f:Stmt:=j4 (top 53) 7
abbrev a2i:Stmt:=j4 (top 53) 8
theorem b1j:d9 ["self"] ["self"] (d7 a2i):=↑1
theorem b2r(D:DefM K cl.Board "last_touch" "Board.last_touch" a2i ["self"])(T:Txt K mg cl):MethT P w K mg base cl.Board "last_touch" 1 ["self"] (a1q cl):=by
 refine D.fn b1j ↑7 ↑10
 ·walk_at "len"
 ·obtain⟨b,l,n,row,many,last,rfl,⟨⟨dx,eb⟩,el,hl,n2,n8⟩,h⟩:=h
  refine⟨_,(d8 (g4 ↑6)),?_⟩;fail "";exact h
theorem d5v:(0:Int)<10 ^ 59/\(10:Int) ^ 59<2 ^ 200-1/\(5:Int)*10 ^ 58+5*10 ^ 58=10 ^ 59/\(8:Int)<5*10 ^ 58:=by decide
def d7z(x:Int):Prop:=-(5*10 ^ 58)<=x/\x<=5*10 ^ 58
def b5y:Sp:=λvs H Q _=>∃(w:Addr)(n:Int),vs=[.ref w,.int n]/\Well H w/\1<=n/\n<=8/\∀(p:Addr)(H':Hp)(row:List Int),H p=none->H' p=some (.lst (row.map V.int))->1<=row.length->(row.length:Int)<=n->(∀x∈row,d7z x)->Well H' w->But w H H'->Q (.ref p) H'
abbrev b1s:Stmt:=top 120
theorem a3k:d9 ["well","size","way","order","k","far"] ["well","size"] (d7 b1s):=↑1
theorem c5g(D:DefT K mg "_law_order" b1s ["well","size"])(T:Txt K mg cl)(G_law_take:FnT P w K mg base "_law_take" 1 ["well","many"] a4m):FnT P w K mg base "_law_order" 2 ["well","size"] b5y:=by
 refine D.fn a3k ↑7 ↑10
 ·walk_at "len"
 ·obtain⟨w,n,rfl,hw,n1,n8,k⟩:=h
  refine⟨_,(d5 (j9 (i:=2) a3k.nd rfl (.inl rfl) (g9 G_law_take hr ↑3 rfl f9 (a7 (pv 0) (a7 g3 b7))))
   (d5 (j9 (i:=3) a3k.nd rfl (.inl rfl) (o8 b7))
   (d5 (b8d a5n rfl (a6m rfl T.z_range (a7 (u9 (i4 (K:=K)) (o8 (a7 g3 (a7 (pv 1) (a7 (m6 a0w g3 (g9 G_law_take hr ↑3 rfl f9 (a7 (pv 0) (a7 (pv 1) b7)))) b7)))) (pv 2) (λ_ _=>rfl)) b7)) (v6 (i:=4) a3k.nd rfl (.inl rfl))
     (
     d5 (j9 (i:=5) a3k.nd rfl (.inl rfl) (m6 b3v (g9 G_law_take hr ↑3 rfl f9 (a7 (pv 0) (a7 (m6 c9j g3 g3) b7))) (m6 a4y g3 (m6 c9j g3 g3))))
     (d8 (i8 (a3b (K:=K) (pv 3) (a7 (u9 (i4 (K:=K)) (o8 (a7 (m6 b3v (g9 G_law_take hr ↑3 rfl f9 (a7 (pv 0) (a7 g3 b7))) g3) (a7 (pv 5) b7))) (m6 b3w (g9 G_law_take hr ↑3 rfl f9 (a7 (pv 0) (a7 g3 b7))) g3) (λ_ _=>rfl)) b7))))))
   (d8 (g4 (pv 3)))))),?_⟩
  have h20:2000<=sizeLine:=by decide
  fail "";refine⟨w,3,rfl,hw,by decide,by decide,λway H1 a1 c1 w1 b1=>?_⟩
  fail "";refine⟨Nat.zero_le _,λp hp=>?_⟩;have hp0:H p=none:=b1.free w1 hp;have np:p≠w:=w1.ne hp;fail "";refine⟨w,n,rfl,w1.same (f8 hp),by lia,by lia,λr H2 a2 c2 w2 b2=>?_⟩
  have e2:H2 p=some (.lst (([]:List Int).map V.int)):=b2 p _ b8 np;have bb2:But w H H2:=b1.trans ((But.of (f8 hp)).trans b2);fail "";refine⟨by show 3<=sizeLine;lia,λq hq=>?_⟩
  obtain⟨N,hN,g1,g8⟩:=e2e (ns:=[1,n,1+r]) (Pr:=λv=>1<=v/\v<=n) (by intro v hv;simp only[List.mem_cons,List.not_mem_nil,or_false] at hv;lia) a1 c1
  fail "";refine a3d b8 hN ?_;fail "";refine b0g (n:=N.toNat) (λi σ H'=>∃x4 x5 row,σ=[some (.ref w),some (.int n),some (.int way),some (.ref p),x4,x5]/\H' p=some (.lst ((row:List Int).map V.int))/\row.length=i/\(∀x∈row,d7z x)/\Well H' w/\But w H H') ⟨_,_,[],rfl,f8 hq _ _ e2,rfl,by simp,w2.same (f8 hq),bb2.nw hq⟩ ?_ ?_
  ·rintro i σ H3 hi ⟨x4,x5,row,rfl,e3,hl,hs,w3,b3⟩
   fail "";refine⟨w,_,rfl,w3,d5v.1,Int.lt_trans d5v.2.1 ↑3,λr4 H4 a4 c4 w4 b4=>?_⟩;have c4:r4<10 ^ 59:=c4;have e4:H4 p=_:=b4 p _ e3 np;fail "";refine⟨w,9,rfl,w4,by decide,by decide,λr5 H5 a5 c5 w5 b5=>?_⟩
   have e5:H5 p=_:=b5 p _ e4 np;fail "";refine⟨by show 2<=sizeLine;lia,λq hq=>?_⟩
   have nq:q≠w:=w5.ne hq;have e5':upd H5 q (.lst [.int (r5-4),.int (r4-5*10 ^ 58)]) p=_:=f8 hq _ _ e5;fail "";refine⟨w,5,rfl,w5.same (f8 hq),by decide,by decide,λr6 H6 a6 c6 w6 b6=>?_⟩
   have e6:H6 p=_:=b6 p _ e5' np;have e6q:H6 q=_:=b6 q _ b8 nq;fail "";obtain⟨y,hy,sy⟩:=e2e (ns:=[r5-4,r4-5*10 ^ 58]) (Pr:=d7z) (by
    have z1:=d5v.2.2.1;have z2:=d5v.2.2.2;intro v hv;simp only[List.mem_cons,List.not_mem_nil,or_false] at hv;unfold d7z;rcases hv with rfl|rfl <;> constructor <;> lia) (r:=r6 / 4) ↑5 (by show r6 / 4<2;lia)
   refine a3d e6q hy ?_;fail "";refine d7o e6 (by rw[List.length_map];lia) ?_
   fail "";refine⟨_,_,row++[y],rfl,by rw[b8,List.map_append];rfl,by rw[List.length_append];show row.length+1=_;lia,?_,?_,?_⟩
   ·intro x hx
    rcases List.mem_append.mp hx with h|h
    ·exact hs x h
    ·rw[List.mem_singleton.mp h];exact sy
   ·obtain⟨a,b,pr,z,zz⟩:=w6
    exact⟨a,b,pr,(d6 np.symm).trans z,zz⟩
   ·have:But w H H6:=b3.trans (b4.trans (b5.trans ((But.of (f8 hq)).trans b6)))
    intro c o e ne;rw[d6 (g6 e hp0)];exact this c o e ne
  ·rintro σ H3 ⟨x4,x5,row,rfl,e3,hl,hs,w3,b3⟩
   fail "";exact k p H3 row hp0 e3 ↑5 ↑5 hs w3 b3
def Rws(H:Hp)(a:Addr)(os:List (List Int)):Prop:=∃ps:List Addr,H a=some (.lst (ps.map V.ref))/\ps.length=os.length/\∀(i:Nat)(p:Addr)(o:List Int),ps[i]?=some p->os[i]?=some o->H p=some (.lst (o.map V.int))
theorem Rws.same{H H':Hp}{a:Addr}{os:List (List Int)}(h:Rws H a os)(s:Same H H'):Rws H' a os:=by
 obtain⟨ps,e,l,r⟩:=h;exact⟨ps,s _ _ e,l,λi p o hp ho=>s _ _ (r i p o hp ho)⟩
theorem b8z{σ:St}{H:Hp}{k:St->Hp->Prop}{p:Addr}{x y:V}{i j n:Nat}(h:H p=some (.tup [x,y]))(hn:2=n)(q:k ((σ.set i (some x)).set j (some y)) H):e6d K n (e0t (c8j i) (e0t (c8j j) e7g)) (.ref p) σ H k :=
 ⟨p,[x,y],rfl,SqT.of h,hn,x,[y],rfl,y,[],rfl,rfl,q⟩
def c9b(K:Frag):Sp:=λvs H Q _=>∃(a:Addr)(ns:List Int),vs=[.ref a]/\SqL K H a (ns.map V.int)/\ns.length<=63/\∀H',Q (.bl true) H'
theorem c9y{H:Hp}{p q k k':Addr}{x:V}(ne:p≠q)(hp:H p=some (.tup [.ref k,x]))(hq:H q=some (.tup [.ref k',x]))(hk:EqD K H 1 (.ref k) (.ref k') true)(fx:a4h x=true)(ex:eqV x x=true):EqD K H 2 (.ref p) (.ref q) true:=by
 have h:=EqD.tup (K:=K) (n:=1) (e:=λ_=>true) ne (SqT.of hp) (SqT.of hq) (λj y z hy hz=>?_)
 ·exact h
 ·match j,hy,hz with
  | 0,hy,hz=>cases hy;cases hz;exact hk
  | 1,hy,hz=>
   cases hy;cases hz;have:=EqD.flat (K:=K) (H:=H) (n:=1) fx fx;rw[ex] at this;exact this
theorem _root_.L2.op_catTK{X:Cx}{K:Frag}(h:X.K=K:=by rfl):OpR X (binaryOp .Add) (e2a K):=h ▸ d9v
structure Ad where
 o:Nat->Addr
 mg:Addr
 mt:Addr
 fo:Addr->Prop
abbrev Ad.bd(A:Ad):Addr:=A.o 0
abbrev Ad.l(A:Ad):Addr:=A.o 1
abbrev Ad.gv(A:Ad):Addr:=A.o 2
abbrev Ad.tk(A:Ad):Addr:=A.o 3
abbrev Ad.kt(A:Ad):Addr:=A.o 4
abbrev Ad.kg(A:Ad):Addr:=A.o 5
abbrev Ad.kk(A:Ad):Addr:=A.o 6
abbrev Ad.pa(A:Ad):Addr:=A.o 7
inductive Hr where
 | non
 | int (i:Int)
@[reducible] def Hr.v:Hr->V
 | .non=>.non
 | .int i=>.int i
structure Gm where
 st:Str
 he:Hr
 nu:Int
 le:Int
structure Tm where
 st:Str
 he:Hr
 nf:Hr
 nu:Int
 le:Int
abbrev gvO(cl:Cl)(dx:Addr)(A:Ad)(G:Gm):HO:=.ins cl.Giver dx [("kept",.ref A.kg),("board",.ref A.bd),("name",.str "giver"),("other",.str "taker"),("stage_behind_marks",.str "told"),("stage_now",.str G.st),("marks_read",.ref A.mg),("here",G.he.v),("touched",.ref A.kt),("number",.int G.nu),("left",.int G.le)]
abbrev tkO(cl:Cl)(dx:Addr)(A:Ad)(T:Tm):HO:=.ins cl.Taker dx [("taken",.ref A.kk),("board",.ref A.bd),("name",.str "taker"),("other",.str "giver"),("stage_behind_marks",.str "look"),("stage_now",.str T.st),("marks_read",.ref A.mt),("here",T.he.v),("touched",.ref A.kt),("not_freed",T.nf.v),("number",.int T.nu),("left",.int T.le),("parts",.ref A.pa)]
def RwsX(A:Ad)(H:Hp)(a:Addr)(os:List (List Int)):Prop:=∃ps:List Addr,H a=some (.lst (ps.map V.ref))/\ps.length=os.length/\∀(i:Nat)(p:Addr)(o:List Int),ps[i]?=some p->os[i]?=some o->(∀j,j<8->p≠A.o j)/\H p=some (.lst (o.map V.int))
def c1t(n:Nat)(c:Pr.Cells):List Int:=(List.range (4*n+4)).map c
theorem c9g(n:Nat)(c:Pr.Cells):(c1t n c).length=4*n+4:=by unfold c1t;rw[List.length_map,List.length_range]
theorem a0d{n k:Nat}(c:Pr.Cells)(h:k<4*n+4):(c1t n c).getD k 0=c k:=by
 unfold c1t;rw[List.getD_eq_getElem?_getD,List.getElem?_map,List.getElem?_range h]
 rfl
theorem d6g{n k:Nat}(c:Pr.Cells)(x:Int)(h:k<4*n+4):(c1t n c).set k x=c1t n (Pr.put c k x):=by
 apply List.ext_getElem?;intro j;unfold c1t;by_cases e:j=k
 ·subst e
  rw[List.getElem?_set_self (by rw[List.length_map,List.length_range];exact h),List.getElem?_map,List.getElem?_range h]
  show some x=some (Pr.put c j x j);rw[Pr.put_same]
 ·rw[List.getElem?_set_ne (Ne.symm e),List.getElem?_map,List.getElem?_map]
  by_cases hj:j<4*n+4
  ·rw[List.getElem?_range hj]
   show some (c j)=some (Pr.put c k x j);rw[Pr.put_ne _ _ e]
  ·rw[List.getElem?_eq_none (by rw[List.length_range];lia)]
   rfl
structure Tc where
 w:Bool
 k:Nat
 x:Int
def Tc.d(t:Tc):Str:=if t.w then "write" else "read"
structure Lt where
 m:Int
 o:Option Tc
def Lt.rd(lt:Lt)(k:Nat)(x:Int):Lt:=⟨lt.m+1,some ⟨false,k,x⟩⟩
def Lt.wr(lt:Lt)(k:Nat)(x:Int):Lt:=⟨lt.m+1,some ⟨true,k,x⟩⟩
def Lt.tch(lt:Lt)(t:Tc):Lt:=⟨lt.m+1,some t⟩
abbrev Tr:Type:=Bool×Tc
def e4h(t:Tr):HO:=.tup [.str (if t.1 then "giver" else "taker"),.str t.2.d,.int t.2.k,.int t.2.x]
def LastOk(A:Ad)(H:Hp)(lt:Lt)(many:Int)(last:V):Prop:=many=lt.m/\(lt.o=none->last=.non)/\∀q,lt.o=some q->∃t,last=.ref t/\(∀j,j<8->t≠A.o j)/\H t=some (.tup [.str q.d,.int q.k,.int q.x])
def TrX(A:Ad)(H:Hp)(a:Addr)(tl:List Tr):Prop:=∃ps:List Addr,H a=some (.lst (ps.map V.ref))/\ps.length=tl.length/\∀(i:Nat)(p:Addr)(t:Tr),ps[i]?=some p->tl[i]?=some t->(∀j,j<8->p≠A.o j)/\¬ A.fo p/\H p=some (e4h t)
theorem TrX.gen{A A':Ad}{H H':Hp}{a a':Addr}{tl:List Tr}(h:TrX A H a tl)(ea:∀o,H a=some o->H' a'=some o)(k:∀p t,H p=some (e4h t)->(∀j,j<8->p≠A.o j)->¬ A.fo p->(∀j,j<8->p≠A'.o j)/\¬ A'.fo p/\H' p=some (e4h t)):TrX A' H' a' tl:=by
 obtain⟨ps,e,l,r⟩:=h;refine⟨ps,ea _ e,l,λi p t hp ht=>?_⟩;obtain⟨r1,r2,r3⟩:=r i p t hp ht;exact k p _ r3 r1 r2
def Unr(H:Hp)(a x:Addr):Prop:=∀xs,H a=some (.lst xs)->V.ref x ∉ xs
def Unl(H:Hp)(b x:Addr):Prop:=∀C dx fs,H b=some (.ins C dx fs)->fs.lookup ("newest_touch":Str)≠some (V.ref x)
def Fo(H:Hp)(A:Ad):Prop:=∀x,A.fo x->(∃o,H x=some o)/\(∀j,j<8->x≠A.o j)/\x≠A.mg/\x≠A.mt/\Unr H A.kg x/\Unr H A.kk x/\Unl H A.bd x
theorem Fo.keep{H H':Hp}{A:Ad}(h:Fo H A)(ks:∀x o,H x=some o->(∀j,j<8->x≠A.o j)->∃o,H' x=some o)(e5:H' A.kg=H A.kg)(e6:H' A.kk=H A.kk)(e0:H' A.bd=H A.bd):Fo H' A:=λx hx=>by
 obtain⟨⟨o,a⟩,b,c,d,e,f,g⟩:=h x hx;exact⟨ks x o a b,b,c,d,(λxs z=>e xs (e5 ▸ z)),(λxs z=>f xs (e6 ▸ z)),(λC dx fs z=>g C dx fs (e0 ▸ z))⟩
theorem Fo.updO{H:Hp}{A:Ad}{u:HO}(h:Fo H A)(nd:∀i j,i<8->j<8->i≠j->A.o i≠A.o j)(j:Nat)(hj:j<8)(j0:j≠0)(j5:j≠5)(j6:j≠6):Fo (upd H (A.o j) u) A :=
 h.keep (λx o e n=>⟨o,by rw[d6 (n j hj)];exact e⟩) (d6 (nd 5 j ↑5 hj (Ne.symm j5))) (d6 (nd 6 j ↑5 hj (Ne.symm j6))) (d6 (nd 0 j ↑5 hj (Ne.symm j0)))
inductive ExL(R:Ad->Nat->Pr.Cells->List (List Int)->List (List Int)->List Int->List Int->List Int->Gm->Tm->List Tr->Lt->Prop):Prop
 | mk (A:Ad) (n:Nat) (c:Pr.Cells) (os bk:List (List Int)) (gs ts ps:List Int) (G:Gm) (T:Tm) (tl:List Tr) (lt:Lt) (h:R A n c os bk gs ts ps G T tl lt):ExL R
inductive ExN(R:Addr->Ad->Pr.Ln->List Tr->Prop):Prop
 | mk (la:Addr) (A:Ad) (L:Pr.Ln) (tl:List Tr) (h:R la A L tl):ExN R
structure LH(cl:Cl)(H:Hp)(A:Ad)(n:Nat)(c:Pr.Cells)(os bk:List (List Int))(gs ts ps:List Int)(G:Gm)(T:Tm)(tl:List Tr)(lt:Lt):Prop where
 brd:∃many last,Brd cl H A.bd A.l n (c1t n c) many last/\LastOk A H lt many last
 gv:∃dx,H A.gv=some (gvO cl dx A G)
 tk:∃dx,H A.tk=some (tkO cl dx A T)
 mg:H A.mg=some (.lst (gs.map V.int))
 mt:H A.mt=some (.lst (ts.map V.int))
 kept:RwsX A H A.kg os
 book:RwsX A H A.kk bk
 pa:H A.pa=some (.lst (ps.map V.int))
 tr:TrX A H A.kt tl
 nd:∀i j,i<8->j<8->i≠j->A.o i≠A.o j
 om:∀i,i<8->A.mg≠A.o i/\A.mt≠A.o i
 fo:Fo H A
section
variable{H H':Hp}{A:Ad}{n:Nat}{c:Pr.Cells}{os bk:List (List Int)}{gs ts ps:List Int}{G:Gm}{T:Tm}{tl:List Tr}{lt:Lt}
theorem RwsX.kp{a:Addr}{S:List Addr}(h:RwsX A H a os)(k:Kp S H H')(ha:a ∉ S)(hS:∀x∈S,(∃j,j<8/\x=A.o j)):RwsX A H' a os:=by
 obtain⟨ps,e,l,r⟩:=h;refine⟨ps,k _ _ e ha,l,λi p o hp ho=>⟨(r i p o hp ho).1,k _ _ (r i p o hp ho).2 λz=>?_⟩⟩;obtain⟨j,hj,e⟩:=hS p z;exact(r i p o hp ho).1 j hj e
def KpA(A:Ad)(H H':Hp):Prop:=∀x o,H x=some o->(∀j,j<8->x≠A.o j)->H' x=some o
theorem KpA.trans{H1 H2:Hp}(a:KpA A H H1)(b:KpA A H1 H2):KpA A H H2:=λx o e n=>b x o (a x o e n) n
theorem KpA.of(s:Same H H'):KpA A H H':=λx o e _=>s x o e
theorem KpA.kp{S:List Addr}(k:Kp S H H')(hS:∀x∈S,(∃j,j<8/\x=A.o j)):KpA A H H':=λx o e n=>k x o e λz=>by
 obtain⟨j,hj,q⟩:=hS x z;exact n j hj q
theorem KpA.upd{j:Nat}{o:HO}(hj:j<8):KpA A H (L2.upd H (A.o j) o):=λx u e n=>by rw[d6 (n j hj)];exact e
theorem LastOk.kpa{many:Int}{last:V}{lt:Lt}(h:LastOk A H lt many last)(k:KpA A H H'):LastOk A H' lt many last:=⟨h.1,h.2.1,λq z=>by
 obtain⟨t,e,n,u⟩:=h.2.2 q z;exact⟨t,e,n,k _ _ u n⟩⟩
theorem TrX.kpa{a:Addr}{tl:List Tr}(h:TrX A H a tl)(k:KpA A H H')(ea:∀o,H a=some o->H' a=some o):TrX A H' a tl:=h.gen ea λp o e n f=>⟨n,f,k _ _ e n⟩
theorem LH.has(h:LH cl H A n c os bk gs ts ps G T tl lt):∀j,j<8->∃o,H (A.o j)=some o:=by
 intro j hj;obtain⟨_,_,⟨⟨_,e0⟩,e1,_⟩,_⟩:=h.brd;obtain⟨_,e2⟩:=h.gv;obtain⟨_,e3⟩:=h.tk;obtain⟨_,e4,_⟩:=h.tr;obtain⟨_,e5,_⟩:=h.kept;obtain⟨_,e6,_⟩:=h.book;have:j=0\/j=1\/j=2\/j=3\/j=4\/j=5\/j=6\/j=7:=by lia
 rcases this with rfl|rfl|rfl|rfl|rfl|rfl|rfl|rfl
 ·exact⟨_,e0⟩
 ·exact⟨_,e1⟩
 ·exact⟨_,e2⟩
 ·exact⟨_,e3⟩
 ·exact⟨_,e4⟩
 ·exact⟨_,e5⟩
 ·exact⟨_,e6⟩
 ·exact⟨_,h.pa⟩
theorem LH.same(h:LH cl H A n c os bk gs ts ps G T tl lt)(s:Same H H'):LH cl H' A n c os bk gs ts ps G T tl lt where
 brd:=let ⟨m,l,z,y⟩:=h.brd;⟨m,l,z.keep (Kp.of (ps:=[]) s) (by simp) (by simp),y.kpa (KpA.of s)⟩
 gv:=let ⟨d,z⟩:=h.gv;⟨d,s _ _ z⟩
 tk:=let ⟨d,z⟩:=h.tk;⟨d,s _ _ z⟩
 mg:=s _ _ h.mg
 mt:=s _ _ h.mt
 kept:=h.kept.kp (Kp.of (ps:=[]) s) (by simp) (by simp)
 book:=h.book.kp (Kp.of (ps:=[]) s) (by simp) (by simp)
 pa:=s _ _ h.pa
 tr:=h.tr.kpa (KpA.of s) λo z=>s _ _ z
 nd:=h.nd
 om:=h.om
 fo:=by
  have e:∀j,j<8->H' (A.o j)=H (A.o j):=λj hj=>by
   obtain⟨o,z⟩:=h.has j hj;rw[z];exact s _ _ z
  exact h.fo.keep (λx o z _=>⟨o,s _ _ z⟩) (e 5 ↑5) (e 6 ↑5) (e 0 ↑5)
theorem LH.nfo(h:LH cl H A n c os bk gs ts ps G T tl lt){t:Addr}(ht:H t=none):¬ A.fo t:=λz=>by
 obtain⟨⟨o,e⟩,_⟩:=h.fo t z;rw[ht] at e;cases e
theorem LH.off(h:LH cl H A n c os bk gs ts ps G T tl lt){t:Addr}(ht:H t=none):∀j,j<8->t≠A.o j:=λj hj z=>by
 obtain⟨o,e⟩:=h.has j hj;rw[<- z,ht] at e;cases e
theorem d9t:∀x∈[A.bd,A.l],(∃j,j<8/\x=A.o j):=λx hx=>by
 simp only[List.mem_cons,List.not_mem_nil,or_false] at hx;rcases hx with rfl|rfl
 ·exact⟨0,by lia,rfl⟩
 ·exact⟨1,by lia,rfl⟩
theorem LH.board{c':Pr.Cells}{many:Int}{last:V}{lt':Lt}(h:LH cl H A n c os bk gs ts ps G T tl lt)(k:Kp [A.bd,A.l] H H')(hB:Brd cl H' A.bd A.l n (c1t n c') many last)(hL:LastOk A H' lt' many last)(hf:∀x,A.fo x->last≠.ref x):LH cl H' A n c' os bk gs ts ps G T tl lt':=by
 have ne:∀i,2<=i->i<8->A.o i ∉ [A.bd,A.l]:=λi h2 h8=>by
  simp only[List.mem_cons,List.not_mem_nil,or_false,not_or];exact⟨h.nd i 0 h8 ↑5 ↑5,h.nd i 1 h8 ↑5 ↑5⟩
 have hS:∀x∈[A.bd,A.l],(∃j,j<8/\x=A.o j):=λx hx=>by
  simp only[List.mem_cons,List.not_mem_nil,or_false] at hx;rcases hx with rfl|rfl
  ·exact⟨0,by lia,rfl⟩
  ·exact⟨1,by lia,rfl⟩
 have nm:A.mg ∉ [A.bd,A.l]/\A.mt ∉ [A.bd,A.l]:=by
  simp only[List.mem_cons,List.not_mem_nil,or_false,not_or];exact⟨⟨(h.om 0 ↑5).1,(h.om 1 ↑5).1⟩,⟨(h.om 0 ↑5).2,(h.om 1 ↑5).2⟩⟩
 refine⟨⟨_,_,hB,hL⟩,(let ⟨d,z⟩:=h.gv;⟨d,k _ _ z (ne 2 ↑5 ↑5)⟩),(let ⟨d,z⟩:=h.tk;⟨d,k _ _ z (ne 3 ↑5 ↑5)⟩),k _ _ h.mg nm.1,k _ _ h.mt nm.2,h.kept.kp k (ne 5 ↑5 ↑5) hS,h.book.kp k (ne 6 ↑5 ↑5) hS,k _ _ h.pa (ne 7 ↑5 ↑5),(h.tr.kpa (KpA.kp k hS) λo z=>k _ _ z (ne 4 ↑5 ↑5)),h.nd,h.om,λx hx=>?_⟩
 obtain⟨⟨o,a⟩,b,c1,d,e,f,g⟩:=h.fo x hx;obtain⟨o5,z5⟩:=h.has 5 ↑5;obtain⟨o6,z6⟩:=h.has 6 ↑5;have y5:H' A.kg=H A.kg:=(k _ _ z5 (ne 5 ↑5 ↑5)).trans z5.symm;have y6:H' A.kk=H A.kk:=(k _ _ z6 (ne 6 ↑5 ↑5)).trans z6.symm;refine⟨⟨o,k _ _ a ?_⟩,b,c1,d,(λxs z=>e xs (y5 ▸ z)),(λxs z=>f xs (y6 ▸ z)),λC dx fs z=>?_⟩
 ·simp only[List.mem_cons,List.not_mem_nil,or_false,not_or];exact⟨b 0 ↑5,b 1 ↑5⟩
 ·obtain⟨⟨dxb,eb⟩,_⟩:=hB
  rw[eb] at z;cases z;exact λz2=>hf x hx (Option.some.inj z2)
theorem LH.wrote{k:Nat}{x:Int}{many:Int}{t:Addr}(h:LH cl H A n c os bk gs ts ps G T tl lt)(hk:k<4*n+4)(ht:H t=none)(kp:Kp [A.bd,A.l] H H')(et:H' t=some (.tup [.str "write",.int (k:Int),.int x]))(hB:Brd cl H' A.bd A.l n ((c1t n c).set k x) (many+1) (.ref t))(hm:many=lt.m):
  LH cl H' A n (Pr.put c k x) os bk gs ts ps G T tl (lt.wr k x)/\KpA A H H':=by
 rw[d6g c x hk] at hB;exact⟨h.board kp hB ⟨by rw[hm];rfl,(λz=>(nomatch z)),(λq z=>by cases z;exact⟨t,rfl,h.off ht,et⟩)⟩ (λx hx z=>h.nfo ht (V.ref.inj z ▸ hx)),KpA.kp kp d9t⟩
theorem LH.wasRead{ki:Int}{many:Int}{t:Addr}(h:LH cl H A n c os bk gs ts ps G T tl lt)(ht:H t=none)(kp:Kp [A.bd] H H')(et:H' t=some (.tup [.str "read",.int ki,.int ((c1t n c).getD ki.toNat 0)]))(hB:Brd cl H' A.bd A.l n (c1t n c) (many+1) (.ref t))(hm:many=lt.m)(k:Nat)(hk:k<4*n+4)(ek:ki=(k:Int)):
  LH cl H' A n c os bk gs ts ps G T tl (lt.rd k (c k))/\KpA A H H':=by
 subst ek;rw[Int.toNat_natCast,a0d c hk] at et;have kp':Kp [A.bd,A.l] H H':=kp.mono (by simp)
 exact⟨h.board kp' hB ⟨by rw[hm];rfl,(λz=>(nomatch z)),(λq z=>by cases z;exact⟨t,rfl,h.off ht,et⟩)⟩ (λx hx z=>h.nfo ht (V.ref.inj z ▸ hx)),KpA.kp kp' d9t⟩
theorem RwsX.set{a x:Addr}{o:HO}{j:Nat}(h:RwsX A H a os)(hj:j<8)(hx:x=A.o j)(ne:a≠x):RwsX A (upd H x o) a os :=
 h.kp (S:=[x]) (Kp.upd (by simp)) (by simpa using ne) λy hy=>⟨j,hj,by rw[List.mem_singleton.mp hy];exact hx⟩
theorem LH.setG{G':Gm}{dx:Addr}(h:LH cl H A n c os bk gs ts ps G T tl lt):LH cl (upd H A.gv (gvO cl dx A G')) A n c os bk gs ts ps G' T tl lt:=by
 have ne:∀i,i<8->i≠2->A.o i≠A.gv:=λi h8 h2=>h.nd i 2 h8 ↑5 h2;obtain⟨m,l,hB,hL⟩:=h.brd;refine⟨⟨m,l,hB.keep (ps:=[A.gv]) (Kp.upd (by simp)) (by simpa using ne 0 ↑5 ↑5) (by simpa using ne 1 ↑5 ↑5),hL.kpa (KpA.upd (j:=2) ↑5)⟩,⟨dx,b8⟩,?_,?_,?_,h.kept.set (j:=2) ↑5 rfl (ne 5 ↑5 ↑5),h.book.set (j:=2) ↑5 rfl (ne 6 ↑5 ↑5),?_,?_,h.nd,h.om,h.fo.updO h.nd 2 ↑5 ↑5 ↑5 ↑5⟩
 ·obtain⟨d,z⟩:=h.tk;exact⟨d,by rw[d6 (ne 3 ↑5 ↑5)];exact z⟩
 ·rw[d6 (h.om 2 ↑5).1];exact h.mg
 ·rw[d6 (h.om 2 ↑5).2];exact h.mt
 ·rw[d6 (ne 7 ↑5 ↑5)];exact h.pa
 ·exact h.tr.kpa (KpA.upd (j:=2) ↑5) λo z=>by rw[d6 (ne 4 ↑5 ↑5)];exact z
theorem LH.setT{T':Tm}{dx:Addr}(h:LH cl H A n c os bk gs ts ps G T tl lt):LH cl (upd H A.tk (tkO cl dx A T')) A n c os bk gs ts ps G T' tl lt:=by
 have ne:∀i,i<8->i≠3->A.o i≠A.tk:=λi h8 h2=>h.nd i 3 h8 ↑5 h2;obtain⟨m,l,hB,hL⟩:=h.brd;refine⟨⟨m,l,hB.keep (ps:=[A.tk]) (Kp.upd (by simp)) (by simpa using ne 0 ↑5 ↑5) (by simpa using ne 1 ↑5 ↑5),hL.kpa (KpA.upd (j:=3) ↑5)⟩,?_,⟨dx,b8⟩,?_,?_,h.kept.set (j:=3) ↑5 rfl (ne 5 ↑5 ↑5),h.book.set (j:=3) ↑5 rfl (ne 6 ↑5 ↑5),?_,?_,h.nd,h.om,h.fo.updO h.nd 3 ↑5 ↑5 ↑5 ↑5⟩
 ·obtain⟨d,z⟩:=h.gv;exact⟨d,by rw[d6 (ne 2 ↑5 ↑5)];exact z⟩
 ·rw[d6 (h.om 3 ↑5).1];exact h.mg
 ·rw[d6 (h.om 3 ↑5).2];exact h.mt
 ·rw[d6 (ne 7 ↑5 ↑5)];exact h.pa
 ·exact h.tr.kpa (KpA.upd (j:=3) ↑5) λo z=>by rw[d6 (ne 4 ↑5 ↑5)];exact z
end
def HOf(A:Ad)(b:Bool)(h:Addr):Prop:=(b=true/\h=A.gv)\/(b=false/\h=A.tk)
def b6s(b:Bool):Nat:=if b then 0 else 1
def a2a(b:Bool):Nat:=if b then 2 else 3
def b4h(b:Bool):Nat:=if b then 3 else 2
theorem a9r{n:Nat}{x:Str}{H:Hp}{E:XK}{k:Prop}(n2:2<=n)(n8:n<=8)(hx:x="giver"\/x="taker")(h:k):c8n cl n x H E k:=by
 unfold c8n;rw[if_pos ↑5,if_pos hx];exact h
theorem hI0:c6c "giver" = 0:=by decide
theorem hI1:c6c "taker" = 1:=by decide
def a4b(cl:Cl):Sp:=λvs H Q _=>ExL λA n c os bk gs ts ps Gq Tq tl lt=>∃(b:Bool)(h:Addr)(x:Int),vs=[.ref h,.int x]/\HOf A b h/\LH cl H A n c os bk gs ts ps Gq Tq tl lt/\∀H',LH cl H' A n (Pr.put c (4*n+b6s b) x) os bk gs ts ps Gq Tq tl (lt.wr (4*n+b6s b) x)->KpA A H H'->Q .non H'
abbrev a8l:Stmt:=top 63
theorem c0u:d9 ["hand","number"] ["hand","number"] (d7 a8l):=↑1
theorem c2a(D:DefT K mg "write_card" a8l ["hand","number"])(T:Txt K mg cl)(G_Board_write:MethT P w K mg base cl.Board "write" 2 ["self","cell","number"] (t9 cl))(G_card_cell:FnT P w K mg base "card_cell" 2 ["size","hand"] (a5a cl)):FnT P w K mg base "write_card" 3 ["hand","number"] (a4b cl):=by
 refine D.fn c0u ↑7 ↑4
 ·walk_at "len"
 ·obtain⟨A,n,c,os,bk,gs,ts,ps,Gq,Tq,tl,lt,b,h,x,rfl,ho,hL,k⟩:=h
  refine⟨_,(d8 (i8 (a1e ↑6 T.k_Board G_Board_write hr ↑3 f9 (a7 (g9 G_card_cell hr ↑3 rfl f9 (a7 (v5 (K:=K) ↑6) (a7 ↑6 b7))) (a7 (pv 1) b7))))),?_⟩;obtain⟨dxg,eg⟩:=hL.gv;obtain⟨dxt,et⟩:=hL.tk;fail "d";rcases ho with ⟨rfl,rfl⟩|⟨rfl,rfl⟩
  all_goals
   fail "";refine⟨n,_,rfl,a9r n2 n8 (by first|exact .inl rfl|exact .inr rfl) ?_⟩
   fail ""
   first|rw[hI0] | rw[hI1]
   refine⟨A.bd,A.l,n,_,many,last,_,_,rfl,hB,?_⟩;rw[if_pos ⟨by lia,by rw[hlen];lia⟩]
   intro t H' ht kp ett hB'
  ·rw[show(4*(n:Int)+0).toNat=4*n+b6s true by show _=4*n+0;lia] at hB'
   obtain⟨z1,z2⟩:=hL.wrote (k:=4*n+b6s true) (by show 4*n+0<_;lia) ht kp (by rw[ett];show _=some (HO.tup [_,.int ((4*n+0:Nat):Int),_]);congr) hB' hLast.1
   exact k H' z1 z2
  ·rw[show(4*(n:Int)+1).toNat=4*n+b6s false by show _=4*n+1;lia] at hB'
   obtain⟨z1,z2⟩:=hL.wrote (k:=4*n+b6s false) (by show 4*n+1<_;lia) ht kp (by rw[ett];show _=some (HO.tup [_,.int ((4*n+1:Nat):Int),_]);congr) hB' hLast.1
   exact k H' z1 z2
def a6v(cl:Cl):Sp:=λvs H Q _=>ExL λA n c os bk gs ts ps Gq Tq tl lt=>∃(b:Bool)(h:Addr),vs=[.ref h]/\HOf A b h/\LH cl H A n c os bk gs ts ps Gq Tq tl lt/\∀H',LH cl H' A n (Pr.put c (4*n+b4h b) 1) os bk gs ts ps Gq Tq tl (lt.wr (4*n+b4h b) 1)->KpA A H H'->Q .non H'
abbrev a8p:Stmt:=top 64
theorem c0y:d9 ["hand"] ["hand"] (d7 a8p):=↑1
theorem c2e(D:DefT K mg "ring_other" a8p ["hand"])(T:Txt K mg cl)(G_Board_write:MethT P w K mg base cl.Board "write" 2 ["self","cell","number"] (t9 cl))(G_bell_cell:FnT P w K mg base "bell_cell" 3 ["size","hand"] (a1y cl)):FnT P w K mg base "ring_other" 4 ["hand"] (a6v cl):=by
 refine D.fn c0y ↑7 ↑4
 ·walk_at "len"
 ·obtain⟨A,n,c,os,bk,gs,ts,ps,Gq,Tq,tl,lt,b,h,rfl,ho,hL,k⟩:=h
  refine⟨_,(d8 (i8 (a1e ↑6 T.k_Board G_Board_write hr ↑3 f9 (a7 (g9 G_bell_cell hr ↑3 rfl f9 (a7 (v5 (K:=K) ↑6) (a7 ↑6 b7))) (a7 (t4 T.m_RUNG rfl) b7))))),?_⟩;obtain⟨dxg,eg⟩:=hL.gv;obtain⟨dxt,et⟩:=hL.tk;fail "d";rcases ho with ⟨rfl,rfl⟩|⟨rfl,rfl⟩
  all_goals
   fail "";refine⟨n,_,rfl,a9r n2 n8 (by first|exact .inl rfl|exact .inr rfl) ?_⟩
   fail ""
   first|rw[hI0] | rw[hI1]
   refine⟨A.bd,A.l,n,_,many,last,_,_,rfl,hB,?_⟩;rw[if_pos ⟨by lia,by rw[hlen];lia⟩]
   intro t H' ht kp ett hB'
  ·rw[show(4*(n:Int)+1+2).toNat=4*n+b4h true by show _=4*n+3;lia] at hB'
   obtain⟨z1,z2⟩:=hL.wrote (k:=4*n+b4h true) (by show 4*n+3<_;lia) ht kp (by rw[ett];show _=some (HO.tup [_,.int ((4*n+3:Nat):Int),_]);congr) hB' hLast.1
   exact k H' z1 z2
  ·rw[show(4*(n:Int)+0+2).toNat=4*n+b4h false by show _=4*n+2;lia] at hB'
   obtain⟨z1,z2⟩:=hL.wrote (k:=4*n+b4h false) (by show 4*n+2<_;lia) ht kp (by rw[ett];show _=some (HO.tup [_,.int ((4*n+2:Nat):Int),_]);congr) hB' hLast.1
   exact k H' z1 z2
def a6u(cl:Cl):Sp:=λvs H Q _=>ExL λA n c os bk gs ts ps Gq Tq tl lt=>∃(b:Bool)(h:Addr),vs=[.ref h]/\HOf A b h/\LH cl H A n c os bk gs ts ps Gq Tq tl lt/\∀H',LH cl H' A n (Pr.put c (4*n+a2a b) 0) os bk gs ts ps Gq Tq tl (lt.wr (4*n+a2a b) 0)->KpA A H H'->Q .non H'
abbrev a8o:Stmt:=top 65
theorem c0x:d9 ["hand"] ["hand"] (d7 a8o):=↑1
theorem c2d(D:DefT K mg "still_bell" a8o ["hand"])(T:Txt K mg cl)(G_Board_write:MethT P w K mg base cl.Board "write" 2 ["self","cell","number"] (t9 cl))(G_bell_cell:FnT P w K mg base "bell_cell" 3 ["size","hand"] (a1y cl)):FnT P w K mg base "still_bell" 4 ["hand"] (a6u cl):=by
 refine D.fn c0x ↑7 ↑4
 ·walk_at "len"
 ·obtain⟨A,n,c,os,bk,gs,ts,ps,Gq,Tq,tl,lt,b,h,rfl,ho,hL,k⟩:=h
  refine⟨_,(d8 (i8 (a1e ↑6 T.k_Board G_Board_write hr ↑3 f9 (a7 (g9 G_bell_cell hr ↑3 rfl f9 (a7 (v5 (K:=K) ↑6) (a7 ↑6 b7))) (a7 (t4 T.m_STILL rfl) b7))))),?_⟩;obtain⟨dxg,eg⟩:=hL.gv;obtain⟨dxt,et⟩:=hL.tk;fail "d";rcases ho with ⟨rfl,rfl⟩|⟨rfl,rfl⟩
  all_goals
   fail "";refine⟨n,_,rfl,a9r n2 n8 (by first|exact .inl rfl|exact .inr rfl) ?_⟩
   fail ""
   first|rw[hI0] | rw[hI1]
   refine⟨A.bd,A.l,n,_,many,last,_,_,rfl,hB,?_⟩;rw[if_pos ⟨by lia,by rw[hlen];lia⟩]
   intro t H' ht kp ett hB'
  ·rw[show(4*(n:Int)+0+2).toNat=4*n+a2a true by show _=4*n+2;lia] at hB'
   obtain⟨z1,z2⟩:=hL.wrote (k:=4*n+a2a true) (by show 4*n+2<_;lia) ht kp (by rw[ett];show _=some (HO.tup [_,.int ((4*n+2:Nat):Int),_]);congr) hB' hLast.1
   exact k H' z1 z2
  ·rw[show(4*(n:Int)+1+2).toNat=4*n+a2a false by show _=4*n+3;lia] at hB'
   obtain⟨z1,z2⟩:=hL.wrote (k:=4*n+a2a false) (by show 4*n+3<_;lia) ht kp (by rw[ett];show _=some (HO.tup [_,.int ((4*n+3:Nat):Int),_]);congr) hB' hLast.1
   exact k H' z1 z2
def a6y(cl:Cl):Sp:=λvs H Q _=>ExL λA n c os bk gs ts ps Gq Tq tl lt=>∃(b:Bool)(h:Addr),vs=[.ref h]/\HOf A b h/\LH cl H A n c os bk gs ts ps Gq Tq tl lt/\∀H',LH cl H' A n (Pr.put c (4*n+b4h b) 1) os bk gs ts ps Gq Tq tl (lt.wr (4*n+b4h b) 1)->KpA A H H'->Q (.str "clear") H'
abbrev b5b:Stmt:=top 67
theorem c7b:d9 ["hand"] ["hand"] (d7 b5b):=↑1
theorem c7v(D:DefT K mg "at_rouse" b5b ["hand"])(T:Txt K mg cl)(G_ring_other:FnT P w K mg base "ring_other" 4 ["hand"] (a6v cl)):FnT P w K mg base "at_rouse" 5 ["hand"] (a6y cl):=by
 refine D.fn c7b ↑7 ↑4
 ·walk_at "len"
 ·obtain⟨A,n,c,os,bk,gs,ts,ps,Gq,Tq,tl,lt,b,h,rfl,ho,hL,k⟩:=h
  refine⟨_,(d5 (i8 (g9 G_ring_other hr ↑3 rfl f9 (a7 (pv 0) b7)))
   (d8 (g4 g7))),?_⟩
  fail "";refine⟨A,n,c,os,bk,gs,ts,ps,Gq,Tq,tl,lt,b,h,rfl,ho,hL,λH1 z1 z2=>?_⟩;fail "";exact k H1 z1 z2
def a7a(cl:Cl):Sp:=λvs H Q _=>ExL λA n c os bk gs ts ps Gq Tq tl lt=>∃(b:Bool)(h:Addr),vs=[.ref h]/\HOf A b h/\LH cl H A n c os bk gs ts ps Gq Tq tl lt/\∀H',LH cl H' A n (Pr.put c (4*n+b6s b) (-1)) os bk gs ts ps Gq Tq tl (lt.wr (4*n+b6s b) (-1))->KpA A H H'->Q (.str "mute") H'
abbrev b5e:Stmt:=top 68
theorem c7d:d9 ["hand"] ["hand"] (d7 b5e):=↑1
theorem c7y(D:DefT K mg "at_clear" b5e ["hand"])(T:Txt K mg cl)(G_write_card:FnT P w K mg base "write_card" 3 ["hand","number"] (a4b cl)):FnT P w K mg base "at_clear" 4 ["hand"] (a7a cl):=by
 refine D.fn c7d ↑7 ↑4
 ·walk_at "len"
 ·obtain⟨A,n,c,os,bk,gs,ts,ps,Gq,Tq,tl,lt,b,h,rfl,ho,hL,k⟩:=h
  refine⟨_,(d5 (i8 (g9 G_write_card hr ↑3 rfl f9 (a7 (pv 0) (a7 (t4 T.m_NO_TURN rfl) b7))))
   (d8 (g4 g7))),?_⟩
  fail "";refine⟨A,n,c,os,bk,gs,ts,ps,Gq,Tq,tl,lt,b,h,_,rfl,ho,hL,λH1 z1 z2=>?_⟩;fail "";exact k H1 z1 z2
def b0a(cl:Cl):Sp:=λvs H Q _=>ExL λA n c os bk gs ts ps Gq Tq tl lt=>∃(b:Bool)(h:Addr),vs=[.ref h]/\HOf A b h/\LH cl H A n c os bk gs ts ps Gq Tq tl lt/\∀H',LH cl H' A n (Pr.put c (4*n+a2a b) 0) os bk gs ts ps Gq Tq tl (lt.wr (4*n+a2a b) 0)->KpA A H H'->Q (.str "marks") H'
abbrev b7t:Stmt:=top 69
theorem d0p:d9 ["hand"] ["hand"] (d7 b7t):=↑1
theorem d1g(D:DefT K mg "at_mute" b7t ["hand"])(T:Txt K mg cl)(G_still_bell:FnT P w K mg base "still_bell" 4 ["hand"] (a6u cl)):FnT P w K mg base "at_mute" 5 ["hand"] (b0a cl):=by
 refine D.fn d0p ↑7 ↑4
 ·walk_at "len"
 ·obtain⟨A,n,c,os,bk,gs,ts,ps,Gq,Tq,tl,lt,b,h,rfl,ho,hL,k⟩:=h
  refine⟨_,(d5 (i8 (g9 G_still_bell hr ↑3 rfl f9 (a7 (pv 0) b7)))
   (d8 (g4 g7))),?_⟩
  fail "";refine⟨A,n,c,os,bk,gs,ts,ps,Gq,Tq,tl,lt,b,h,rfl,ho,hL,λH1 z1 z2=>?_⟩;fail "";exact k H1 z1 z2
def b0c(cl:Cl):Sp:=λvs H Q _=>ExL λA n c os bk gs ts ps Gq Tq tl lt=>∃(b:Bool)(h:Addr),vs=[.ref h]/\HOf A b h/\LH cl H A n c os bk gs ts ps Gq Tq tl lt/\∀H',LH cl H' A n (Pr.put c (4*n+a2a b) 0) os bk gs ts ps Gq Tq tl (lt.wr (4*n+a2a b) 0)->KpA A H H'->Q (.str "unwish") H'
abbrev b7w:Stmt:=top 75
theorem d0s:d9 ["hand"] ["hand"] (d7 b7w):=↑1
theorem d1j(D:DefT K mg "at_hush" b7w ["hand"])(T:Txt K mg cl)(G_still_bell:FnT P w K mg base "still_bell" 4 ["hand"] (a6u cl)):FnT P w K mg base "at_hush" 5 ["hand"] (b0c cl):=by
 refine D.fn d0s ↑7 ↑4
 ·walk_at "len"
 ·obtain⟨A,n,c,os,bk,gs,ts,ps,Gq,Tq,tl,lt,b,h,rfl,ho,hL,k⟩:=h
  refine⟨_,(d5 (i8 (g9 G_still_bell hr ↑3 rfl f9 (a7 (pv 0) b7)))
   (d8 (g4 g7))),?_⟩
  fail "";refine⟨A,n,c,os,bk,gs,ts,ps,Gq,Tq,tl,lt,b,h,rfl,ho,hL,λH1 z1 z2=>?_⟩;fail "";exact k H1 z1 z2
def a5b(cl:Cl):Sp:=λvs H Q _=>ExL λA n c os bk gs ts ps Gq Tq tl lt=>∃(b:Bool)(h:Addr),vs=[.ref h]/\HOf A b h/\LH cl H A n c os bk gs ts ps Gq Tq tl lt/\∀H',LH cl H' A n (Pr.put c (4*n+b6s b) (-1)) os bk gs ts ps Gq Tq tl (lt.wr (4*n+b6s b) (-1))->KpA A H H'->Q (.str "look") H'
abbrev b1y:Stmt:=top 76
theorem c4g:d9 ["hand"] ["hand"] (d7 b1y):=↑1
theorem c5m(D:DefT K mg "at_unwish" b1y ["hand"])(T:Txt K mg cl)(G_write_card:FnT P w K mg base "write_card" 3 ["hand","number"] (a4b cl)):FnT P w K mg base "at_unwish" 4 ["hand"] (a5b cl):=by
 refine D.fn c4g ↑7 ↑4
 ·walk_at "len"
 ·obtain⟨A,n,c,os,bk,gs,ts,ps,Gq,Tq,tl,lt,b,h,rfl,ho,hL,k⟩:=h
  refine⟨_,(d5 (i8 (g9 G_write_card hr ↑3 rfl f9 (a7 (pv 0) (a7 (t4 T.m_NO_TURN rfl) b7))))
   (d8 (g4 g7))),?_⟩
  fail "";refine⟨A,n,c,os,bk,gs,ts,ps,Gq,Tq,tl,lt,b,h,_,rfl,ho,hL,λH1 z1 z2=>?_⟩;fail "";exact k H1 z1 z2
def a6x(cl:Cl):Sp:=λvs H Q _=>ExL λA n c os bk gs ts ps Gq Tq tl lt=>∃(b:Bool)(h:Addr),vs=[.ref h]/\HOf A b h/\LH cl H A n c os bk gs ts ps Gq Tq tl lt/\∀H',LH cl H' A n c os bk gs ts ps Gq Tq tl (lt.rd (4*n+a2a b) (c (4*n+a2a b)))->KpA A H H'->Q (.str (if c (4*n+a2a b)=0 then "sleep" else "hush")) H'
abbrev b5a:Stmt:=top 74
theorem b7h:d9 ["hand","bell"] ["hand"] (d7 b5a):=↑1
theorem c7u(D:DefT K mg "at_sleep" b5a ["hand"])(T:Txt K mg cl)(G_Board_read:MethT P w K mg base cl.Board "read" 2 ["self","cell"] (u0 cl))(G_bell_cell:FnT P w K mg base "bell_cell" 3 ["size","hand"] (a1y cl)):FnT P w K mg base "at_sleep" 4 ["hand"] (a6x cl):=by
 refine D.fn b7h ↑7 ↑4
 ·walk_at "len"
 ·obtain⟨A,n,c,os,bk,gs,ts,ps,Gq,Tq,tl,lt,b,h,rfl,ho,hL,k⟩:=h
  refine⟨_,(d5 (j9 (i:=1) b7h.nd rfl (.inl rfl) (a1e ↑6 T.k_Board G_Board_read hr ↑3 f9 (a7 (g9 G_bell_cell hr ↑3 rfl f9 (a7 (v5 (K:=K) ↑6) (a7 ↑6 b7))) b7)))
   (d8 (g4 (a5m (k7 a6a (pv 1) (t4 T.m_STILL rfl) (m9 _)) g7 g7)))),?_⟩
  obtain⟨dxg,eg⟩:=hL.gv;obtain⟨dxt,et⟩:=hL.tk;fail "d";rcases ho with ⟨rfl,rfl⟩|⟨rfl,rfl⟩
  all_goals
   fail "";refine⟨n,_,rfl,a9r n2 n8 (by first|exact .inl rfl|exact .inr rfl) ?_⟩
   fail ""
   first|rw[hI0] | rw[hI1]
   refine⟨A.bd,A.l,n,_,many,last,_,rfl,hB,?_⟩;rw[if_pos ⟨by lia,by rw[hlen];lia⟩]
   intro t H' ht kp ett hB';have q:=k H' (by first|exact(hL.wasRead ht kp ett hB' hLast.1 (4*n+a2a true) (by show 4*n+2<_;lia) (by show _=((4*n+2:Nat):Int);lia)).1|exact(hL.wasRead ht kp ett hB' hLast.1 (4*n+a2a false) (by show 4*n+3<_;lia) (by show _=((4*n+3:Nat):Int);lia)).1) (KpA.kp (kp.mono (by simp)) d9t)
   fail ""
  ·rw[show(4*(n:Int)+0+2).toNat=4*n+a2a true by show _=4*n+2;lia,a0d c (by show 4*n+2<_;lia)]
   refine a6b (λa=>?_) (λa=>?_)
   ·rw[if_pos (V.int.inj a)] at q;fail "";exact q
   ·rw[if_neg λy=>a (by rw[y])] at q;fail "";exact q
  ·rw[show(4*(n:Int)+1+2).toNat=4*n+a2a false by show _=4*n+3;lia,a0d c (by show 4*n+3<_;lia)]
   refine a6b (λa=>?_) (λa=>?_)
   ·rw[if_pos (V.int.inj a)] at q;fail "";exact q
   ·rw[if_neg λy=>a (by rw[y])] at q;fail "";exact q
def b8x(b:Bool)(Gq:Gm)(Tq:Tm):Hr:=if b then Gq.he else Tq.he
def a3g(b:Bool)(n t:Int):Int:=if b then 2*(1-t / n)+0 else 2*(t / n)+1
def t8(cl:Cl):Sp:=λvs H Q _=>ExL λA n c os bk gs ts ps Gq Tq tl lt=>∃(b:Bool)(h:Addr)(t:Int),vs=[.ref h]/\HOf A b h/\LH cl H A n c os bk gs ts ps Gq Tq tl lt/\b8x b Gq Tq=.int t/\0<=t/\t<2*(n:Int)/\Q (.int (t % (n:Int))) H
abbrev a5j:Stmt:=j4 (top 80) 3
theorem c1k:d9 ["self"] ["self"] (d7 a5j):=↑1
theorem b4b{C:Addr}(D:DefM K C "place" "Hand.place" a5j ["self"])(T:Txt K mg cl)(G_place_of:FnT P w K mg base "place_of" 3 ["size","turn"] (a6w cl)):MethT P w K mg base C "place" 4 ["self"] (t8 cl):=by
 refine D.fn c1k ↑7 ↑4
 ·walk_at "len"
 ·obtain⟨A,n,c,os,bk,gs,ts,ps,Gq,Tq,tl,lt,b,h,t,rfl,ho,hL,he,t0,t1,k⟩:=h
  refine⟨_,(d8 (g4 (g9 G_place_of hr ↑3 rfl f9 (a7 (v5 (K:=K) ↑6) (a7 ↑6 b7))))),?_⟩;obtain⟨dxg,eg⟩:=hL.gv;obtain⟨dxt,et⟩:=hL.tk;fail "d";rcases ho with ⟨rfl,rfl⟩|⟨rfl,rfl⟩
  ·have he:Gq.he=.int t:=he
   fail "";rw[he];exact⟨n,t,rfl,z9 ↑5 ↑5 t0 t1 k⟩
  ·have he:Tq.he=.int t:=he
   fail "";rw[he];exact⟨n,t,rfl,z9 ↑5 ↑5 t0 t1 k⟩
def a3j(cl:Cl):Sp:=λvs H Q _=>ExL λA n c os bk gs ts ps Gq Tq tl lt=>∃(b:Bool)(h:Addr)(t:Int),vs=[.ref h]/\HOf A b h/\LH cl H A n c os bk gs ts ps Gq Tq tl lt/\b8x b Gq Tq=.int t/\0<=t/\t<2*(n:Int)/\b=true/\Q (.int (a3g true n t)) H
abbrev a1d:Stmt:=j4 (top 96) 13
theorem a8k:d9 ["self"] ["self"] (d7 a1d):=↑1
theorem a9o(D:DefM K cl.Giver "awaited_mark" "Giver.awaited_mark" a1d ["self"])(T:Txt K mg cl)(G_mark_to_give:FnT P w K mg base "mark_to_give" 4 ["size","turn"] (a8d cl)):MethT P w K mg base cl.Giver "awaited_mark" 5 ["self"] (a3j cl):=by
 refine D.fn a8k ↑7 ↑4
 ·walk_at "len"
 ·obtain⟨A,n,c,os,bk,gs,ts,ps,Gq,Tq,tl,lt,b,h,t,rfl,ho,hL,he,t0,t1,rfl,k⟩:=h
  refine⟨_,(d8 (g4 (g9 G_mark_to_give hr ↑3 rfl f9 (a7 (v5 (K:=K) ↑6) (a7 ↑6 b7))))),?_⟩;obtain⟨dxg,eg⟩:=hL.gv;obtain⟨dxt,et⟩:=hL.tk;fail "d";rcases ho with ⟨hb,rfl⟩|⟨hb,rfl⟩
  all_goals cases hb
  have he:Gq.he=.int t:=he;fail "";rw[he];exact⟨n,t,rfl,z9 ↑5 ↑5 t0 t1 k⟩
def a3i(cl:Cl):Sp:=λvs H Q _=>ExL λA n c os bk gs ts ps Gq Tq tl lt=>∃(b:Bool)(h:Addr)(t:Int),vs=[.ref h]/\HOf A b h/\LH cl H A n c os bk gs ts ps Gq Tq tl lt/\b8x b Gq Tq=.int t/\0<=t/\t<2*(n:Int)/\b=false/\Q (.int (a3g false n t)) H
abbrev a1a:Stmt:=j4 (top 106) 7
theorem a8g:d9 ["self"] ["self"] (d7 a1a):=↑1
theorem a9l(D:DefM K cl.Taker "awaited_mark" "Taker.awaited_mark" a1a ["self"])(T:Txt K mg cl)(G_full_mark:FnT P w K mg base "full_mark" 4 ["size","turn"] (a8f cl)):MethT P w K mg base cl.Taker "awaited_mark" 5 ["self"] (a3i cl):=by
 refine D.fn a8g ↑7 ↑4
 ·walk_at "len"
 ·obtain⟨A,n,c,os,bk,gs,ts,ps,Gq,Tq,tl,lt,b,h,t,rfl,ho,hL,he,t0,t1,rfl,k⟩:=h
  refine⟨_,(d8 (g4 (g9 G_full_mark hr ↑3 rfl f9 (a7 (v5 (K:=K) ↑6) (a7 ↑6 b7))))),?_⟩;obtain⟨dxg,eg⟩:=hL.gv;obtain⟨dxt,et⟩:=hL.tk;fail "d";rcases ho with ⟨hb,rfl⟩|⟨hb,rfl⟩
  all_goals cases hb
  have he:Tq.he=.int t:=he;fail "";rw[he];exact⟨n,t,rfl,z9 ↑5 ↑5 t0 t1 k⟩
def a8c(cl:Cl):Sp:=λvs H Q _=>ExL λA n c os bk gs ts ps Gq Tq tl lt=>∃(b:Bool)(h:Addr)(t:Int),vs=[.ref h]/\HOf A b h/\LH cl H A n c os bk gs ts ps Gq Tq tl lt/\b8x b Gq Tq=.int t/\0<=t/\t<2*(n:Int)/\∀H',LH cl H' A n c os bk gs ts ps Gq Tq tl (lt.rd (4*(t % (n:Int)).toNat) (c (4*(t % (n:Int)).toNat)))->KpA A H H'->Q (.bl (decide (c (4*(t % (n:Int)).toNat)=a3g b n t))) H'
abbrev b1o:Stmt:=top 66
theorem c3y:d9 ["hand"] ["hand"] (d7 b1o):=↑1
theorem c5c(D:DefT K mg "may_go_on" b1o ["hand"])(T:Txt K mg cl)(G_Board_read:MethT P w K mg base cl.Board "read" 2 ["self","cell"] (u0 cl))(G_mark_cell:FnT P w K mg base "mark_cell" 1 ["place"] (v2 0))(GP:MethT P w K mg base cl.Giver "place" 4 ["self"] (t8 cl))(TP:MethT P w K mg base cl.Taker "place" 4 ["self"] (t8 cl))(GA:MethT P w K mg base cl.Giver "awaited_mark" 5 ["self"] (a3j cl))(TA:MethT P w K mg base cl.Taker "awaited_mark" 5 ["self"] (a3i cl)):FnT P w K mg base "may_go_on" 6 ["hand"] (a8c cl):=by
 refine D.fn c3y ↑7 ↑4
 ·walk_at "len"
 ·obtain⟨A,n,c,os,bk,gs,ts,ps,Gq,Tq,tl,lt,b,h,t,rfl,ho,hL,he,t0,t1,k⟩:=h
  refine⟨_,(d8 (g4 (a3a a6a (a1e ↑6 T.k_Board G_Board_read hr ↑3 f9 (a7 (g9 G_mark_cell hr ↑3 rfl f9 (a7 (i9 (k:=4) (pv 0) hr ↑3 f9) b7)) b7)) (i9 (k:=5) (pv 0) hr ↑3 f9) (m9 _)))),?_⟩;obtain⟨dxg,eg⟩:=hL.gv;obtain⟨dxt,et⟩:=hL.tk;fail "d";have p0:=Int.emod_nonneg t (show(n:Int)≠0 by lia)
  have p1:=Int.emod_lt_of_pos t (show(0:Int)<n by lia)
  have ho':=ho;rcases ho' with ⟨rfl,rfl⟩|⟨rfl,rfl⟩
  ·fail ""
   refine c8h ?_;fail "";refine⟨A.gv,cl.Giver,dxg,_,_,_,rfl,eg,rfl,T.k_Giver,GP,?_⟩;fail "";refine⟨A,n,c,os,bk,gs,ts,ps,Gq,Tq,tl,lt,true,A.gv,t,rfl,ho,hL,he,t0,t1,?_⟩;fail "";fail "j";obtain⟨z1,z2⟩:=hL.wasRead ht kp ett hB' hLast.1 (4*(t % (n:Int)).toNat) ↑5 ↑5;obtain⟨dxg2,eg2⟩:=z1.gv;rw[show(4*(t % (n:Int))+0).toNat=4*(t % (n:Int)).toNat by lia,a0d c ↑5]
   fail "f";refine⟨A.gv,cl.Giver,dxg2,_,_,_,rfl,eg2,rfl,T.k_Giver,GA,?_⟩;fail "";refine⟨A,n,c,os,bk,gs,ts,ps,Gq,Tq,tl,_,true,A.gv,t,rfl,ho,z1,he,t0,t1,rfl,?_⟩;fail "";rw[show decide (V.int (c (4*(t % (n:Int)).toNat))=V.int (a3g true n t))=decide (c (4*(t % (n:Int)).toNat)=a3g true n t) by simp]
   exact k H' z1 z2
  ·fail ""
   refine c8h ?_;fail "";refine⟨A.tk,cl.Taker,dxt,_,_,_,rfl,et,rfl,T.k_Taker,TP,?_⟩;fail "";refine⟨A,n,c,os,bk,gs,ts,ps,Gq,Tq,tl,lt,false,A.tk,t,rfl,ho,hL,he,t0,t1,?_⟩;fail "";fail "j";obtain⟨z1,z2⟩:=hL.wasRead ht kp ett hB' hLast.1 (4*(t % (n:Int)).toNat) ↑5 ↑5;obtain⟨dxt2,et2⟩:=z1.tk;rw[show(4*(t % (n:Int))+0).toNat=4*(t % (n:Int)).toNat by lia,a0d c ↑5]
   fail "f";refine⟨A.tk,cl.Taker,dxt2,_,_,_,rfl,et2,rfl,T.k_Taker,TA,?_⟩;fail "";refine⟨A,n,c,os,bk,gs,ts,ps,Gq,Tq,tl,_,false,A.tk,t,rfl,ho,z1,he,t0,t1,rfl,?_⟩;fail "";rw[show decide (V.int (c (4*(t % (n:Int)).toNat))=V.int (a3g false n t))=decide (c (4*(t % (n:Int)).toNat)=a3g false n t) by simp]
   exact k H' z1 z2
def b0b(cl:Cl):Sp:=λvs H Q _=>ExL λA n c os bk gs ts ps Gq Tq tl lt=>∃(b:Bool)(h:Addr)(t:Int),vs=[.ref h]/\HOf A b h/\LH cl H A n c os bk gs ts ps Gq Tq tl lt/\b8x b Gq Tq=.int t/\0<=t/\t<2*(n:Int)/\∀H',LH cl H' A n c os bk gs ts ps Gq Tq tl (lt.rd (4*(t % (n:Int)).toNat) (c (4*(t % (n:Int)).toNat)))->KpA A H H'->Q (.str (if c (4*(t % (n:Int)).toNat)=a3g b n t then "number" else "wish")) H'
abbrev b7v:Stmt:=top 71
theorem d0r:d9 ["hand"] ["hand"] (d7 b7v):=↑1
theorem d1i(D:DefT K mg "at_look" b7v ["hand"])(T:Txt K mg cl)(G_may_go_on:FnT P w K mg base "may_go_on" 6 ["hand"] (a8c cl)):FnT P w K mg base "at_look" 7 ["hand"] (b0b cl):=by
 refine D.fn d0r ↑7 ↑4
 ·walk_at "len"
 ·obtain⟨A,n,c,os,bk,gs,ts,ps,Gq,Tq,tl,lt,b,h,t,rfl,ho,hL,he,t0,t1,k⟩:=h
  refine⟨_,(d8 (g4 (a5m (b3u (g9 G_may_go_on hr ↑3 rfl f9 (a7 (pv 0) b7))) g7 g7))),?_⟩;fail "";refine⟨A,n,c,os,bk,gs,ts,ps,Gq,Tq,tl,lt,b,h,t,rfl,ho,hL,he,t0,t1,λH' z1 z2=>?_⟩;have q:=k H' z1 z2;fail "";refine a6b (λy=>?_) (λy=>?_)
  ·rw[if_pos y] at q;fail "";exact q
  ·rw[if_neg y] at q;fail "";exact q
def a7b(cl:Cl):Sp:=λvs H Q _=>ExL λA n c os bk gs ts ps Gq Tq tl lt=>∃(b:Bool)(h:Addr)(t:Int),vs=[.ref h]/\HOf A b h/\LH cl H A n c os bk gs ts ps Gq Tq tl lt/\b8x b Gq Tq=.int t/\0<=t/\t<2*(n:Int)/\∀H',LH cl H' A n c os bk gs ts ps Gq Tq tl (lt.rd (4*(t % (n:Int)).toNat) (c (4*(t % (n:Int)).toNat)))->KpA A H H'->Q (.str (if c (4*(t % (n:Int)).toNat)=a3g b n t then "unwish" else "sleep")) H'
abbrev b5f:Stmt:=top 73
theorem c7e:d9 ["hand"] ["hand"] (d7 b5f):=↑1
theorem c7z(D:DefT K mg "at_again" b5f ["hand"])(T:Txt K mg cl)(G_may_go_on:FnT P w K mg base "may_go_on" 6 ["hand"] (a8c cl)):FnT P w K mg base "at_again" 7 ["hand"] (a7b cl):=by
 refine D.fn c7e ↑7 ↑4
 ·walk_at "len"
 ·obtain⟨A,n,c,os,bk,gs,ts,ps,Gq,Tq,tl,lt,b,h,t,rfl,ho,hL,he,t0,t1,k⟩:=h
  refine⟨_,(d8 (g4 (a5m (b3u (g9 G_may_go_on hr ↑3 rfl f9 (a7 (pv 0) b7))) g7 g7))),?_⟩;fail "";refine⟨A,n,c,os,bk,gs,ts,ps,Gq,Tq,tl,lt,b,h,t,rfl,ho,hL,he,t0,t1,λH' z1 z2=>?_⟩;have q:=k H' z1 z2;fail "";refine a6b (λy=>?_) (λy=>?_)
  ·rw[if_pos y] at q;fail "";exact q
  ·rw[if_neg y] at q;fail "";exact q
def a9y(cl:Cl):Sp:=λvs H Q _=>ExL λA n c os bk gs ts ps Gq Tq tl lt=>∃(b:Bool)(h:Addr)(t:Int),vs=[.ref h]/\HOf A b h/\LH cl H A n c os bk gs ts ps Gq Tq tl lt/\b8x b Gq Tq=.int t/\0<=t/\t<2*(n:Int)/\∀H',LH cl H' A n (Pr.put c (4*n+b6s b) t) os bk gs ts ps Gq Tq tl (lt.wr (4*n+b6s b) t)->KpA A H H'->Q (.str "again") H'
abbrev b7q:Stmt:=top 72
theorem d0m:d9 ["hand"] ["hand"] (d7 b7q):=↑1
theorem d1d(D:DefT K mg "at_wish" b7q ["hand"])(T:Txt K mg cl)(G_write_card:FnT P w K mg base "write_card" 3 ["hand","number"] (a4b cl)):FnT P w K mg base "at_wish" 4 ["hand"] (a9y cl):=by
 refine D.fn d0m ↑7 ↑4
 ·walk_at "len"
 ·obtain⟨A,n,c,os,bk,gs,ts,ps,Gq,Tq,tl,lt,b,h,t,rfl,ho,hL,he,t0,t1,k⟩:=h
  refine⟨_,(d5 (i8 (g9 G_write_card hr ↑3 rfl f9 (a7 (pv 0) (a7 ↑6 b7))))
   (d8 (g4 g7))),?_⟩
  obtain⟨dxg,eg⟩:=hL.gv;obtain⟨dxt,et⟩:=hL.tk;fail "d";have ho':=ho;rcases ho' with ⟨rfl,rfl⟩|⟨rfl,rfl⟩
  ·have he:Gq.he=.int t:=he
   fail "";rw[he];refine⟨A,n,c,os,bk,gs,ts,ps,Gq,Tq,tl,lt,true,A.gv,t,rfl,ho,hL,λH' z1 z2=>?_⟩;fail "";exact k H' z1 z2
  ·have he:Tq.he=.int t:=he
   fail "";rw[he];refine⟨A,n,c,os,bk,gs,ts,ps,Gq,Tq,tl,lt,false,A.tk,t,rfl,ho,hL,λH' z1 z2=>?_⟩;fail "";exact k H' z1 z2
theorem MethT.lift{C:Addr}{m:Str}{j k:Nat}{qs:List Str}{sp:Sp}(M:MethT P w K mg base C m j qs sp)(h:j<=k):MethT P w K mg base C m k qs sp:=by
 obtain⟨f,fd,F,hm,hb⟩:=M.ex;exact⟨f,fd,F.mono h,hm,hb⟩
theorem RwsX.pick{A:Ad}{H:Hp}{a:Addr}{os:List (List Int)}(h:RwsX A H a os){i:Int}(h0:0<=i)(hi:i<os.length):∃xs p,H a=some (.lst xs)/\atI xs i=some (.ref p)/\H p=some (.lst ((os.getD i.toNat []).map V.int)):=by
 obtain⟨ps,e,l,r⟩:=h;have hp:i.toNat<ps.length:=by lia
 have ho:i.toNat<os.length:=by lia
 refine⟨_,ps[i.toNat],e,?_,?_⟩
 ·unfold atI
  rw[List.length_map,d8d h0 ↑5];show(ps.map V.ref)[i.toNat]?=_;rw[List.getElem?_map,List.getElem?_eq_getElem hp]
  rfl
 ·have z:=(r _ _ _ (List.getElem?_eq_getElem hp) (List.getElem?_eq_getElem ho)).2
  rw[z,List.getD_eq_getElem?_getD,List.getElem?_eq_getElem ho]
  rfl
theorem RwsX.len{A:Ad}{H:Hp}{a:Addr}{os:List (List Int)}(h:RwsX A H a os):∃xs,H a=some (.lst xs)/\xs.length=os.length:=by
 obtain⟨ps,e,l,_⟩:=h;exact⟨_,e,by rw[List.length_map];exact l⟩
def a7v(nu le:Int):Bool:=decide (nu=-1) || decide (le<=0)
def a1z(nu le:Int):Int:=if a7v nu le then nu+1 else nu
def b0t(os:List (List Int))(nu le:Int):Int:=if a7v nu le then 0 else ((os.getD nu.toNat []).length:Int)-le
def a7x(os:List (List Int))(nu le:Int):Int:=((os.getD (a1z nu le).toNat []).length:Int)-b0t os nu le-1
def b5s(os:List (List Int))(nu le:Int):Bool:=decide (0<=a1z nu le/\a1z nu le<os.length) && decide (0<=b0t os nu le/\b0t os nu le<((os.getD (a1z nu le).toNat []).length:Int))
def b0v(os:List (List Int))(nu le:Int):Prop:=a7v nu le=true\/(0<=nu/\nu<os.length)
def a0n(cl:Cl):Sp:=λvs H Q _=>ExL λA n c os bk gs ts ps Gq Tq tl lt=>vs=[.ref A.gv]/\LH cl H A n c os bk gs ts ps Gq Tq tl lt/\Q (.bl (a7v Gq.nu Gq.le)) H
abbrev a1c:Stmt:=j4 (top 96) 4
theorem a8j:d9 ["self"] ["self"] (d7 a1c):=↑1
theorem a9n(D:DefM K cl.Giver "begins_order" "Giver.begins_order" a1c ["self"])(T:Txt K mg cl):MethT P w K mg base cl.Giver "begins_order" 1 ["self"] (a0n cl):=by
 refine D.fn a8j ↑7 ↑4
 ·walk_at "len"
 ·obtain⟨A,n,c,os,bk,gs,ts,ps,Gq,Tq,tl,lt,rfl,hL,k⟩:=h
  refine⟨_,(d8 (g4 (d0w (a3a a6a ↑6 (t4 T.m_NO_ORDER rfl) (m9 _)) (a7t (a3a e5d ↑6 g3 (m9 _)))))),?_⟩;obtain⟨dxg,eg⟩:=hL.gv;fail "d";unfold a7v at k;fail "";rw[show decide (V.int Gq.nu=V.int (-1))=decide (Gq.nu=-1) by simp]
  refine a6b (λy=>?_) (λy=>?_)
  ·rw[decide_eq_true y,Bool.true_or] at k;exact k
  ·rw[decide_eq_false y,Bool.false_or] at k
   fail "";exact k
def t6(cl:Cl):Sp:=λvs H Q _=>ExL λA n c os bk gs ts ps Gq Tq tl lt=>vs=[.ref A.gv]/\LH cl H A n c os bk gs ts ps Gq Tq tl lt/\Q (.int (a1z Gq.nu Gq.le)) H
abbrev a2g:Stmt:=j4 (top 96) 5
theorem b1h:d9 ["self"] ["self"] (d7 a2g):=↑1
theorem b2p(D:DefM K cl.Giver "next_order" "Giver.next_order" a2g ["self"])(T:Txt K mg cl)(G_begins_order:MethT P w K mg base cl.Giver "begins_order" 1 ["self"] (a0n cl)):MethT P w K mg base cl.Giver "next_order" 2 ["self"] (t6 cl):=by
 refine D.fn b1h ↑7 ↑4
 ·walk_at "len"
 ·obtain⟨A,n,c,os,bk,gs,ts,ps,Gq,Tq,tl,lt,rfl,hL,k⟩:=h
  refine⟨_,(d8 (g4 (a5m (b3u (i9 (k:=1) (pv 0) hr ↑3 f9)) (m6 a0w ↑6 g3) ↑6))),?_⟩;obtain⟨dxg,eg⟩:=hL.gv;fail "d";unfold a1z at k;fail "f";refine⟨A.gv,cl.Giver,dxg,_,_,_,rfl,eg,rfl,T.k_Giver,G_begins_order,?_⟩;fail "";refine⟨A,n,c,os,bk,gs,ts,ps,Gq,Tq,tl,lt,rfl,hL,?_⟩;fail "";refine c6f (λy=>?_) (λy=>?_)
  ·rw[y] at k;fail "";exact k
  ·rw[y] at k;fail "";exact k
def a0j(cl:Cl):Sp:=λvs H Q _=>ExL λA n c os bk gs ts ps Gq Tq tl lt=>vs=[.ref A.gv]/\LH cl H A n c os bk gs ts ps Gq Tq tl lt/\b0v os Gq.nu Gq.le/\Q (.int (b0t os Gq.nu Gq.le)) H
abbrev a2w:Stmt:=j4 (top 96) 6
theorem b3p:d9 ["self"] ["self"] (d7 a2w):=↑1
theorem b4d(D:DefM K cl.Giver "next_part" "Giver.next_part" a2w ["self"])(T:Txt K mg cl)(G_begins_order:MethT P w K mg base cl.Giver "begins_order" 1 ["self"] (a0n cl)):MethT P w K mg base cl.Giver "next_part" 2 ["self"] (a0j cl):=by
 refine D.fn b3p ↑7 ↑4
 ·walk_at "len"
 ·obtain⟨A,n,c,os,bk,gs,ts,ps,Gq,Tq,tl,lt,rfl,hL,kn,k⟩:=h
  refine⟨_,(d8 (g4 (a5m (b3u (i9 (k:=1) (pv 0) hr ↑3 f9)) g3 (m6 b3v (l7 (n5 (K:=K)) (by rfl) T.z_len PySem.boot_len (a7 (u9 (i4 (K:=K)) ↑6 ↑6 (λ_ _=>rfl)) b7)) ↑6)))),?_⟩
  obtain⟨dxg,eg⟩:=hL.gv;fail "d";unfold b0t at k;fail "f";refine⟨A.gv,cl.Giver,dxg,_,_,_,rfl,eg,rfl,T.k_Giver,G_begins_order,?_⟩;fail "";refine⟨A,n,c,os,bk,gs,ts,ps,Gq,Tq,tl,lt,rfl,hL,?_⟩;fail "";refine c6f (λy=>?_) (λy=>?_)
  ·rw[y] at k;fail "";exact k
  ·rw[y] at k
   rcases kn with kn|kn
   ·rw[y] at kn;cases kn
   obtain⟨xs,p,ex,hp,ep⟩:=hL.kept.pick kn.1 kn.2;fail "";refine a3d ex hp ?_;fail "";rw[List.length_map];exact k
def a2c(cl:Cl):Sp:=λvs H Q _=>ExL λA n c os bk gs ts ps Gq Tq tl lt=>vs=[.ref A.gv]/\LH cl H A n c os bk gs ts ps Gq Tq tl lt/\(b0v os Gq.nu Gq.le/\0<=a1z Gq.nu Gq.le/\a1z Gq.nu Gq.le<os.length)/\Q (.int (a7x os Gq.nu Gq.le)) H
abbrev a2x:Stmt:=j4 (top 96) 7
theorem b3q:d9 ["self"] ["self"] (d7 a2x):=↑1
theorem b4e(D:DefM K cl.Giver "next_left" "Giver.next_left" a2x ["self"])(T:Txt K mg cl)(G_next_order:MethT P w K mg base cl.Giver "next_order" 2 ["self"] (t6 cl))(G_next_part:MethT P w K mg base cl.Giver "next_part" 2 ["self"] (a0j cl)):MethT P w K mg base cl.Giver "next_left" 3 ["self"] (a2c cl):=by
 refine D.fn b3q ↑7 ↑4
 ·walk_at "len"
 ·obtain⟨A,n,c,os,bk,gs,ts,ps,Gq,Tq,tl,lt,rfl,hL,kn,k⟩:=h
  refine⟨_,(d8 (g4 (m6 b3v (m6 b3v (l7 (n5 (K:=K)) (by rfl) T.z_len PySem.boot_len (a7 (u9 (i4 (K:=K)) ↑6 (i9 (k:=2) (pv 0) hr ↑3 f9) (λ_ _=>rfl)) b7)) (i9 (k:=2) (pv 0) hr ↑3 f9)) g3))),?_⟩
  obtain⟨dxg,eg⟩:=hL.gv;fail "d";unfold a7x at k;obtain⟨xs,p,ex,hp,ep⟩:=hL.kept.pick kn.2.1 kn.2.2;fail "f";refine⟨A.gv,cl.Giver,dxg,_,_,_,rfl,eg,rfl,T.k_Giver,G_next_order,?_⟩;fail "";refine⟨A,n,c,os,bk,gs,ts,ps,Gq,Tq,tl,lt,rfl,hL,?_⟩;refine a3d ex hp ?_;fail "";rw[List.length_map];refine c8h ?_;fail "";refine⟨A.gv,cl.Giver,dxg,_,_,_,rfl,eg,rfl,T.k_Giver,G_next_part,?_⟩;fail "";refine⟨A,n,c,os,bk,gs,ts,ps,Gq,Tq,tl,lt,rfl,hL,kn.1,?_⟩;fail "";exact k
def a6f(cl:Cl):Sp:=λvs H Q _=>ExL λA n c os bk gs ts ps Gq Tq tl lt=>vs=[.ref A.gv]/\LH cl H A n c os bk gs ts ps Gq Tq tl lt/\b0v os Gq.nu Gq.le/\Q (.bl (b5s os Gq.nu Gq.le)) H
abbrev a3y:Stmt:=j4 (top 96) 8
theorem a6l:d9 ["self","order"] ["self"] (d7 a3y):=↑1
theorem b5q(D:DefM K cl.Giver "has_part" "Giver.has_part" a3y ["self"])(T:Txt K mg cl)(G_next_order:MethT P w K mg base cl.Giver "next_order" 2 ["self"] (t6 cl))(G_next_part:MethT P w K mg base cl.Giver "next_part" 2 ["self"] (a0j cl)):MethT P w K mg base cl.Giver "has_part" 3 ["self"] (a6f cl):=by
 refine D.fn a6l ↑7 ↑4
 ·walk_at "len"
 ·obtain⟨A,n,c,os,bk,gs,ts,ps,Gq,Tq,tl,lt,rfl,hL,kn,k⟩:=h
  refine⟨_,(d5 (j9 (i:=1) a6l.nd rfl (.inl rfl) (i9 (k:=2) (pv 0) hr ↑3 f9))
   (d8 (g4 (b8h (c9i rfl T.z_range (pv 1) (a7 (l7 (n5 (K:=K)) (by rfl) T.z_len PySem.boot_len (a7 ↑6 b7)) b7)) (a7t (c9i rfl T.z_range (i9 (k:=2) (pv 0) hr ↑3 f9) (a7 (l7 (n5 (K:=K)) (by rfl) T.z_len PySem.boot_len (a7 (u9 (i4 (K:=K)) ↑6 (pv 1) (λ_ _=>rfl)) b7)) b7))))))),?_⟩
  obtain⟨dxg,eg⟩:=hL.gv;fail "d";unfold b5s at k;obtain⟨xs,ex,lx⟩:=hL.kept.len;fail "f";refine⟨A.gv,cl.Giver,dxg,_,_,_,rfl,eg,rfl,T.k_Giver,G_next_order,?_⟩;fail "";refine⟨A,n,c,os,bk,gs,ts,ps,Gq,Tq,tl,lt,rfl,hL,?_⟩;fail "";refine d4j ?_;fail "";rw[lx];refine c9q ?_;fail "";refine a6b (λy=>?_) (λy=>?_)
  ·rw[show decide (0<=a1z Gq.nu Gq.le/\a1z Gq.nu Gq.le<os.length)=true from decide_eq_true y,Bool.true_and] at k
   fail "";refine d4j ?_;fail "f";refine⟨A.gv,cl.Giver,dxg,_,_,_,rfl,eg,rfl,T.k_Giver,G_next_part,?_⟩;fail "";refine⟨A,n,c,os,bk,gs,ts,ps,Gq,Tq,tl,lt,rfl,hL,kn,?_⟩;obtain⟨xs',p,ex',hp,ep⟩:=hL.kept.pick y.1 y.2;fail "";refine a3d ex' hp ?_;fail "";rw[List.length_map];refine c9q ?_;exact k
  ·rw[show decide (0<=a1z Gq.nu Gq.le/\a1z Gq.nu Gq.le<os.length)=false from decide_eq_false y,Bool.false_and] at k
   exact k
def a3s(cl:Cl):Sp:=λvs H Q _=>ExL λA n c os bk gs ts ps Gq Tq tl lt=>vs=[.ref A.gv]/\LH cl H A n c os bk gs ts ps Gq Tq tl lt/\(Gq.st="look"->b0v os Gq.nu Gq.le)/\Q (.bl (decide (Gq.st="look") && !b5s os Gq.nu Gq.le)) H
abbrev a4w:Stmt:=j4 (top 96) 16
theorem b6m:d9 ["self"] ["self"] (d7 a4w):=↑1
theorem b6r(D:DefM K cl.Giver "resting" "Giver.resting" a4w ["self"])(T:Txt K mg cl)(G_has_part:MethT P w K mg base cl.Giver "has_part" 3 ["self"] (a6f cl)):MethT P w K mg base cl.Giver "resting" 4 ["self"] (a3s cl):=by
 refine D.fn b6m ↑7 ↑4
 ·walk_at "len"
 ·obtain⟨A,n,c,os,bk,gs,ts,ps,Gq,Tq,tl,lt,rfl,hL,kn,k⟩:=h
  refine⟨_,(d8 (g4 (b8h (a3a a6a ↑6 g7 (m9 _)) (a7t (e2h (i9 (k:=3) (pv 0) hr ↑3 f9)))))),?_⟩;obtain⟨dxg,eg⟩:=hL.gv;fail "d";fail "";rw[show decide (V.str Gq.st=V.str "look")=decide (Gq.st="look") by simp]
  refine a6b (λy=>?_) (λy=>?_)
  ·rw[decide_eq_true y,Bool.true_and] at k
   fail "f";refine⟨A.gv,cl.Giver,dxg,_,_,_,rfl,eg,rfl,T.k_Giver,G_has_part,?_⟩;fail "";refine⟨A,n,c,os,bk,gs,ts,ps,Gq,Tq,tl,lt,rfl,hL,kn y,?_⟩;fail "";exact k
  ·rw[decide_eq_false y,Bool.false_and] at k
   exact k
structure DefV(K:Frag)(f:Addr)(x:Str)(st:Stmt)(ps:List Str):Prop where
 ex:∃fd:FuncData,Fun K x x st f fd/\Binds K fd ps []
theorem DefV.fn{f:Addr}{x:Str}{st:Stmt}{N ps:List Str}{k:Nat}{sp:Sp}(D:DefV K f x st ps)(S:d9 N ps (d7 st))(len:∀vs H Q E,sp vs H Q E->vs.length=ps.length)(hbody:∀(f:Addr) (cdv:Value) (A:Around) (outer:List Env) (s:Shared) (H:Hp) (vs:List V) (Q:VK) (E:XK),Room k (A.deeper (PyProof.Rows.envOfC x (d7 st) s.heap.objs.size f cdv))->sp vs H Q E ->
   ∃t,PSs (b6u (CXK P w) P w K mg base N x (d7 st) f cdv A outer s H E) (a0f st) t/\t { nx:=λ_ H'=>Q .non H',rt:=Q } (L2.start N vs) H):FnV P w K mg base f (k+1) ps sp:=by
 obtain⟨fd,F,hb⟩:=D.ex;exact⟨fd,F.okX S len (hbody f),F.kp,hb⟩
theorem FnT.toV{x:Str}{k:Nat}{ps:List Str}{sp:Sp}{f:Addr}(F:FnT P w K mg base x k ps sp)(hm:mg x=some (.ref f)):FnV P w K mg base f k ps sp:=by
 obtain⟨f',fd,F,hm',hk,hb⟩:=F.ex;rw[hm] at hm';cases hm';exact⟨fd,F,hk,hb⟩
theorem d8j{f:Str}{ta:TE}{v:V}{σ:St}{H:Hp}{Q:St->Hp->Prop}(q:ta σ H λx H1=>∃a C dx fs,x=.ref a/\H1 a=some (.ins C dx fs)/\Cls K C/\NoAttr K C f/\fs.length<1000/\Q σ (upd H1 a (.ins C dx (a3n f v fs)))):e7h K ta f v σ H Q:=q
abbrev ahd(n t:Int):Int:=((t + -1) % (2*n)) % n
def a0z(cl:Cl):Sp:=λvs H Q _=>ExL λA n c os bk gs ts ps Gq Tq tl lt=>∃(t:Int),vs=[.ref A.gv]/\LH cl H A n c os bk gs ts ps Gq Tq tl lt/\Gq.he=.int t/\0<=t/\t<2*(n:Int)/\Q (.int (ahd n t)) H
abbrev a1v:Stmt:=j4 (top 96) 3
theorem a3z:d9 ["self","size"] ["self"] (d7 a1v):=↑1
theorem b0s(D:DefM K cl.Giver "place_ahead" "Giver.place_ahead" a1v ["self"])(T:Txt K mg cl)(G_place_of:FnT P w K mg base "place_of" 3 ["size","turn"] (a6w cl))(G_onward:FnT P w K mg base "onward" 3 ["size","turn","many"] (a4l cl)):MethT P w K mg base cl.Giver "place_ahead" 4 ["self"] (a0z cl):=by
 refine D.fn a3z ↑7 ↑4
 ·walk_at "len"
 ·obtain⟨A,n,c,os,bk,gs,ts,ps,Gq,Tq,tl,lt,t,rfl,hL,he,t0,t1,k⟩:=h
  refine⟨_,(d5 (j9 (i:=1) a3z.nd rfl (.inl rfl) (v5 (K:=K) ↑6))
   (d8 (g4 (g9 G_place_of hr ↑3 rfl f9 (a7 (pv 1) (a7 (g9 G_onward hr ↑3 rfl f9 (a7 (pv 1) (a7 ↑6 (a7 (d9o d2a g3) b7)))) b7)))))),?_⟩
  obtain⟨dxg,eg⟩:=hL.gv;fail "a";fail "";rw[he];refine⟨n,t,_,rfl,z9 ↑5 ↑5 t0 t1 ?_⟩;fail "";exact⟨n,_,rfl,z9 ↑5 ↑5 o0 o1 k⟩
def b4n(cl:Cl):Sp:=λvs H Q _=>ExL λA n c os bk gs ts ps Gq Tq tl lt=>∃(t:Int),vs=[.ref A.gv]/\LH cl H A n c os bk gs ts ps Gq Tq tl lt/\Gq.he=.int t/\0<=t/\t<2*(n:Int)/\∀H',LH cl H' A n c os bk gs ts ps { Gq with nu:=c (4*(ahd n t).toNat+1) } Tq tl (lt.rd (4*(ahd n t).toNat+1) (c (4*(ahd n t).toNat+1)))->KpA A H H'->Q (.str "lacks") H'
abbrev b7r:Stmt:=top 86
theorem d0n:d9 ["giver"] ["giver"] (d7 b7r):=↑1
theorem d1e(D:DefT K mg "at_told" b7r ["giver"])(T:Txt K mg cl)(G_Board_read:MethT P w K mg base cl.Board "read" 2 ["self","cell"] (u0 cl))(G_number_cell:FnT P w K mg base "number_cell" 1 ["place"] (v2 1))(G_Giver_place_ahead:MethT P w K mg base cl.Giver "place_ahead" 4 ["self"] (a0z cl)):FnT P w K mg base "at_told" 5 ["giver"] (b4n cl):=by
 refine D.fn d0n ↑7 ↑4
 ·walk_at "len"
 ·obtain⟨A,n,c,os,bk,gs,ts,ps,Gq,Tq,tl,lt,t,rfl,hL,he,t0,t1,k⟩:=h
  refine⟨_,(d5 (j1 (K:=K) (pv 0) (a1e ↑6 T.k_Board G_Board_read hr ↑3 f9 (a7 (g9 G_number_cell hr ↑3 rfl f9 (a7 (i9 (k:=4) (pv 0) hr ↑3 f9) b7)) b7)))
   (d8 (g4 g7))),?_⟩
  obtain⟨dxg,eg⟩:=hL.gv;fail "a";fail "f";refine⟨A.gv,cl.Giver,dxg,_,_,_,rfl,eg,rfl,T.k_Giver,G_Giver_place_ahead,?_⟩;fail "";refine⟨A,n,c,os,bk,gs,ts,ps,Gq,Tq,tl,lt,t,rfl,hL,he,t0,t1,?_⟩;fail "";fail "j";obtain⟨z1,z2⟩:=hL.wasRead ht kp ett hB' hLast.1 (4*(ahd n t).toNat+1) ↑5 ↑5;obtain⟨dxg2,eg2⟩:=z1.gv;rw[show(4*ahd n t+1).toNat=4*(ahd n t).toNat+1 by lia,a0d c ↑5]
  fail "";exact k _ (z1.setG (dx:=dxg2) (G':={ Gq with nu:=c (4*(ahd n t).toNat+1) })) (z2.trans (KpA.upd (j:=2) (by lia)))
def b1e(cl:Cl):Sp:=λvs H Q _=>ExL λA n c os bk gs ts ps Gq Tq tl lt=>∃(t:Int),vs=[.ref A.gv]/\LH cl H A n c os bk gs ts ps Gq Tq tl lt/\Gq.he=.int t/\0<=t/\t<2*(n:Int)/\∀H',LH cl H' A n c os bk gs ts ps { Gq with le:=c (4*(ahd n t).toNat+2) } Tq tl (lt.rd (4*(ahd n t).toNat+2) (c (4*(ahd n t).toNat+2)))->KpA A H H'->Q (.str "look") H'
abbrev b5d:Stmt:=top 87
theorem c7c:d9 ["giver"] ["giver"] (d7 b5d):=↑1
theorem c7x(D:DefT K mg "at_lacks" b5d ["giver"])(T:Txt K mg cl)(G_Board_read:MethT P w K mg base cl.Board "read" 2 ["self","cell"] (u0 cl))(G_left_cell:FnT P w K mg base "left_cell" 1 ["place"] (v2 2))(G_Giver_place_ahead:MethT P w K mg base cl.Giver "place_ahead" 4 ["self"] (a0z cl)):FnT P w K mg base "at_lacks" 5 ["giver"] (b1e cl):=by
 refine D.fn c7c ↑7 ↑4
 ·walk_at "len"
 ·obtain⟨A,n,c,os,bk,gs,ts,ps,Gq,Tq,tl,lt,t,rfl,hL,he,t0,t1,k⟩:=h
  refine⟨_,(d5 (j1 (K:=K) (pv 0) (a1e ↑6 T.k_Board G_Board_read hr ↑3 f9 (a7 (g9 G_left_cell hr ↑3 rfl f9 (a7 (i9 (k:=4) (pv 0) hr ↑3 f9) b7)) b7)))
   (d8 (g4 g7))),?_⟩
  obtain⟨dxg,eg⟩:=hL.gv;fail "a";fail "f";refine⟨A.gv,cl.Giver,dxg,_,_,_,rfl,eg,rfl,T.k_Giver,G_Giver_place_ahead,?_⟩;fail "";refine⟨A,n,c,os,bk,gs,ts,ps,Gq,Tq,tl,lt,t,rfl,hL,he,t0,t1,?_⟩;fail "";fail "j";obtain⟨z1,z2⟩:=hL.wasRead ht kp ett hB' hLast.1 (4*(ahd n t).toNat+2) ↑5 ↑5;obtain⟨dxg2,eg2⟩:=z1.gv;rw[show(4*ahd n t+2).toNat=4*(ahd n t).toNat+2 by lia,a0d c ↑5]
  fail "";exact k _ (z1.setG (dx:=dxg2) (G':={ Gq with le:=c (4*(ahd n t).toNat+2) })) (z2.trans (KpA.upd (j:=2) (by lia)))
def a0i(cl:Cl):Sp:=λvs H Q _=>ExL λA n c os bk gs ts ps Gq Tq tl lt=>∃(t:Int),vs=[.ref A.gv]/\LH cl H A n c os bk gs ts ps Gq Tq tl lt/\Gq.he=.int t/\0<=t/\t<2*(n:Int)/\∀H',LH cl H' A n (Pr.put c (4*(t % (n:Int)).toNat+1) (a1z Gq.nu Gq.le)) os bk gs ts ps Gq Tq tl (lt.wr (4*(t % (n:Int)).toNat+1) (a1z Gq.nu Gq.le))->KpA A H H'->Q (.str "left") H'
abbrev a2s:Stmt:=top 88
theorem b3j:d9 ["giver"] ["giver"] (d7 a2s):=↑1
theorem b3y{fa:Addr}(D:DefV K fa "at_number" a2s ["giver"])(T:Txt K mg cl)(G_Board_write:MethT P w K mg base cl.Board "write" 2 ["self","cell","number"] (t9 cl))(G_number_cell:FnT P w K mg base "number_cell" 1 ["place"] (v2 1))(GP:MethT P w K mg base cl.Giver "place" 4 ["self"] (t8 cl))(G_next_order:MethT P w K mg base cl.Giver "next_order" 2 ["self"] (t6 cl)):FnV P w K mg base fa 5 ["giver"] (a0i cl):=by
 refine D.fn b3j ↑7 ↑4
 ·walk_at "len"
 ·obtain⟨A,n,c,os,bk,gs,ts,ps,Gq,Tq,tl,lt,t,rfl,hL,he,t0,t1,k⟩:=h
  refine⟨_,(d5 (i8 (a1e ↑6 T.k_Board G_Board_write hr ↑3 f9 (a7 (g9 G_number_cell hr ↑3 rfl f9 (a7 (i9 (k:=4) (pv 0) hr ↑3 f9) b7)) (a7 (i9 (k:=2) (pv 0) hr ↑3 f9) b7))))
   (d8 (g4 g7))),?_⟩
  obtain⟨dxg,eg⟩:=hL.gv;fail "a";fail "f";refine⟨A.gv,cl.Giver,dxg,_,_,_,rfl,eg,rfl,T.k_Giver,GP,?_⟩;fail "";refine⟨A,n,c,os,bk,gs,ts,ps,Gq,Tq,tl,lt,true,A.gv,t,rfl,.inl ⟨rfl,rfl⟩,hL,he,t0,t1,?_⟩;fail "";refine⟨_,rfl,?_⟩;fail "f";refine⟨A.gv,cl.Giver,dxg,_,_,_,rfl,eg,rfl,T.k_Giver,G_next_order,?_⟩;fail "";refine⟨A,n,c,os,bk,gs,ts,ps,Gq,Tq,tl,lt,rfl,hL,?_⟩;fail "";refine⟨A.bd,A.l,n,_,many,last,_,_,rfl,hB,?_⟩;rw[if_pos ⟨by lia,by rw[hlen];lia⟩]
  intro tt H' ht kp ett hB';rw[show(4*(t % (n:Int))+1).toNat=4*(t % (n:Int)).toNat+1 by lia] at hB'
  obtain⟨z1,z2⟩:=hL.wrote (k:=4*(t % (n:Int)).toNat+1) ↑5 ht kp (by rw[ett];rw[show(4*(t % (n:Int))+1)=((4*(t % (n:Int)).toNat+1:Nat):Int) by lia]) hB' hLast.1
  fail "";exact k H' z1 z2
def a1j(cl:Cl):Sp:=λvs H Q _=>ExL λA n c os bk gs ts ps Gq Tq tl lt=>∃(t:Int),vs=[.ref A.gv]/\LH cl H A n c os bk gs ts ps Gq Tq tl lt/\Gq.he=.int t/\0<=t/\t<2*(n:Int)/\(b0v os Gq.nu Gq.le/\0<=a1z Gq.nu Gq.le/\a1z Gq.nu Gq.le<os.length)/\∀H',LH cl H' A n (Pr.put c (4*(t % (n:Int)).toNat+2) (a7x os Gq.nu Gq.le)) os bk gs ts ps Gq Tq tl (lt.wr (4*(t % (n:Int)).toNat+2) (a7x os Gq.nu Gq.le))->KpA A H H'->Q (.str "thing") H'
abbrev a4t:Stmt:=top 90
theorem b6k:d9 ["giver"] ["giver"] (d7 a4t):=↑1
theorem b6o{fa:Addr}(D:DefV K fa "at_left" a4t ["giver"])(T:Txt K mg cl)(G_Board_write:MethT P w K mg base cl.Board "write" 2 ["self","cell","number"] (t9 cl))(G_left_cell:FnT P w K mg base "left_cell" 1 ["place"] (v2 2))(GP:MethT P w K mg base cl.Giver "place" 4 ["self"] (t8 cl))(G_next_left:MethT P w K mg base cl.Giver "next_left" 3 ["self"] (a2c cl)):FnV P w K mg base fa 5 ["giver"] (a1j cl):=by
 refine D.fn b6k ↑7 ↑4
 ·walk_at "len"
 ·obtain⟨A,n,c,os,bk,gs,ts,ps,Gq,Tq,tl,lt,t,rfl,hL,he,t0,t1,kn,k⟩:=h
  refine⟨_,(d5 (i8 (a1e ↑6 T.k_Board G_Board_write hr ↑3 f9 (a7 (g9 G_left_cell hr ↑3 rfl f9 (a7 (i9 (k:=4) (pv 0) hr ↑3 f9) b7)) (a7 (i9 (k:=3) (pv 0) hr ↑3 f9) b7))))
   (d8 (g4 g7))),?_⟩
  obtain⟨dxg,eg⟩:=hL.gv;fail "a";fail "f";refine⟨A.gv,cl.Giver,dxg,_,_,_,rfl,eg,rfl,T.k_Giver,GP,?_⟩;fail "";refine⟨A,n,c,os,bk,gs,ts,ps,Gq,Tq,tl,lt,true,A.gv,t,rfl,.inl ⟨rfl,rfl⟩,hL,he,t0,t1,?_⟩;fail "";refine⟨_,rfl,?_⟩;fail "f";refine⟨A.gv,cl.Giver,dxg,_,_,_,rfl,eg,rfl,T.k_Giver,G_next_left,?_⟩;fail "";refine⟨A,n,c,os,bk,gs,ts,ps,Gq,Tq,tl,lt,rfl,hL,kn,?_⟩;fail "";refine⟨A.bd,A.l,n,_,many,last,_,_,rfl,hB,?_⟩;rw[if_pos ⟨by lia,by rw[hlen];lia⟩]
  intro tt H' ht kp ett hB';rw[show(4*(t % (n:Int))+2).toNat=4*(t % (n:Int)).toNat+2 by lia] at hB'
  obtain⟨z1,z2⟩:=hL.wrote (k:=4*(t % (n:Int)).toNat+2) ↑5 ht kp (by rw[ett];rw[show(4*(t % (n:Int))+2)=((4*(t % (n:Int)).toNat+2:Nat):Int) by lia]) hB' hLast.1
  fail "";exact k H' z1 z2
def a0t(cl:Cl):Sp:=λvs H Q _=>ExL λA n c os bk gs ts ps Gq Tq tl lt=>∃(t:Int),vs=[.ref A.gv]/\LH cl H A n c os bk gs ts ps Gq Tq tl lt/\Gq.he=.int t/\0<=t/\t<2*(n:Int)/\(b0v os Gq.nu Gq.le/\(0<=a1z Gq.nu Gq.le/\a1z Gq.nu Gq.le<os.length)/\0<=b0t os Gq.nu Gq.le/\b0t os Gq.nu Gq.le<((os.getD (a1z Gq.nu Gq.le).toNat []).length:Int))/\∀H',LH cl H' A n (Pr.put c (4*(t % (n:Int)).toNat+3) ((os.getD (a1z Gq.nu Gq.le).toNat []).getD (b0t os Gq.nu Gq.le).toNat 0)) os bk gs ts ps Gq Tq tl (lt.wr (4*(t % (n:Int)).toNat+3) ((os.getD (a1z Gq.nu Gq.le).toNat []).getD (b0t os Gq.nu Gq.le).toNat 0))->KpA A H H'->Q (.str "mark") H'
abbrev a3u:Stmt:=top 92
theorem a6h:d9 ["giver","order"] ["giver"] (d7 a3u):=↑1
theorem b5k{fa:Addr}(D:DefV K fa "at_thing" a3u ["giver"])(T:Txt K mg cl)(G_Board_write:MethT P w K mg base cl.Board "write" 2 ["self","cell","number"] (t9 cl))(G_thing_cell:FnT P w K mg base "thing_cell" 1 ["place"] (v2 3))(GP:MethT P w K mg base cl.Giver "place" 4 ["self"] (t8 cl))(G_next_order:MethT P w K mg base cl.Giver "next_order" 2 ["self"] (t6 cl))(G_next_part:MethT P w K mg base cl.Giver "next_part" 2 ["self"] (a0j cl)):FnV P w K mg base fa 5 ["giver"] (a0t cl):=by
 refine D.fn a6h ↑7 ↑4
 ·walk_at "len"
 ·obtain⟨A,n,c,os,bk,gs,ts,ps,Gq,Tq,tl,lt,t,rfl,hL,he,t0,t1,kn,k⟩:=h
  refine⟨_,(d5 (j9 (i:=1) a6h.nd rfl (.inl rfl) (u9 (i4 (K:=K)) ↑6 (i9 (k:=2) (pv 0) hr ↑3 f9) (λ_ _=>rfl)))
   (d5 (i8 (a1e ↑6 T.k_Board G_Board_write hr ↑3 f9 (a7 (g9 G_thing_cell hr ↑3 rfl f9 (a7 (i9 (k:=4) (pv 0) hr ↑3 f9) b7)) (a7 (u9 (i4 (K:=K)) (pv 1) (i9 (k:=2) (pv 0) hr ↑3 f9) (λ_ _=>rfl)) b7))))
   (d8 (g4 g7)))),?_⟩
  obtain⟨dxg,eg⟩:=hL.gv;fail "a";obtain⟨xs,p,ex,hp,ep⟩:=hL.kept.pick kn.2.1.1 kn.2.1.2;fail "f";refine⟨A.gv,cl.Giver,dxg,_,_,_,rfl,eg,rfl,T.k_Giver,G_next_order,?_⟩;fail "";refine⟨A,n,c,os,bk,gs,ts,ps,Gq,Tq,tl,lt,rfl,hL,?_⟩;refine a3d ex hp ?_;fail "f";refine⟨A.gv,cl.Giver,dxg,_,_,_,rfl,eg,rfl,T.k_Giver,GP,?_⟩;fail "";refine⟨A,n,c,os,bk,gs,ts,ps,Gq,Tq,tl,lt,true,A.gv,t,rfl,.inl ⟨rfl,rfl⟩,hL,he,t0,t1,?_⟩;fail "";refine⟨_,rfl,?_⟩;fail "f";refine⟨A.gv,cl.Giver,dxg,_,_,_,rfl,eg,rfl,T.k_Giver,G_next_part,?_⟩;fail "";refine⟨A,n,c,os,bk,gs,ts,ps,Gq,Tq,tl,lt,rfl,hL,kn.1,?_⟩;refine a3d ep (c0m kn.2.2.1 kn.2.2.2) ?_;fail "";refine⟨A.bd,A.l,n,_,many,last,_,_,rfl,hB,?_⟩;rw[if_pos ⟨by lia,by rw[hlen];lia⟩]
  intro tt H' ht kp ett hB';rw[show(4*(t % (n:Int))+3).toNat=4*(t % (n:Int)).toNat+3 by lia] at hB'
  obtain⟨z1,z2⟩:=hL.wrote (k:=4*(t % (n:Int)).toNat+3) ↑5 ht kp (by rw[ett];rw[show(4*(t % (n:Int))+3)=((4*(t % (n:Int)).toNat+3:Nat):Int) by lia]) hB' hLast.1
  fail "";exact k H' z1 z2
def b4o(cl:Cl):Sp:=λvs H Q _=>ExL λA n c os bk gs ts ps Gq Tq tl lt=>∃(t:Int),vs=[.ref A.gv]/\LH cl H A n c os bk gs ts ps Gq Tq tl lt/\Gq.he=.int t/\0<=t/\t<2*(n:Int)/\∀H',LH cl H' A n (Pr.put c (4*(t % (n:Int)).toNat+0) (2*(t / (n:Int))+1)) os bk gs ts ps Gq Tq tl (lt.wr (4*(t % (n:Int)).toNat+0) (2*(t / (n:Int))+1))->KpA A H H'->Q (.str "card") H'
abbrev b7u:Stmt:=top 94
theorem d0q:d9 ["giver"] ["giver"] (d7 b7u):=↑1
theorem d1h(D:DefT K mg "at_mark" b7u ["giver"])(T:Txt K mg cl)(G_Board_write:MethT P w K mg base cl.Board "write" 2 ["self","cell","number"] (t9 cl))(G_mark_cell:FnT P w K mg base "mark_cell" 1 ["place"] (v2 0))(GP:MethT P w K mg base cl.Giver "place" 4 ["self"] (t8 cl))(G_full_mark:FnT P w K mg base "full_mark" 4 ["size","turn"] (a8f cl)):FnT P w K mg base "at_mark" 5 ["giver"] (b4o cl):=by
 refine D.fn d0q ↑7 ↑4
 ·walk_at "len"
 ·obtain⟨A,n,c,os,bk,gs,ts,ps,Gq,Tq,tl,lt,t,rfl,hL,he,t0,t1,k⟩:=h
  refine⟨_,(d5 (i8 (a1e ↑6 T.k_Board G_Board_write hr ↑3 f9 (a7 (g9 G_mark_cell hr ↑3 rfl f9 (a7 (i9 (k:=4) (pv 0) hr ↑3 f9) b7)) (a7 (g9 G_full_mark hr ↑3 rfl f9 (a7 (v5 (K:=K) ↑6) (a7 ↑6 b7))) b7))))
   (d8 (g4 g7))),?_⟩
  obtain⟨dxg,eg⟩:=hL.gv;fail "a";fail "f";refine⟨A.gv,cl.Giver,dxg,_,_,_,rfl,eg,rfl,T.k_Giver,GP,?_⟩;fail "";refine⟨A,n,c,os,bk,gs,ts,ps,Gq,Tq,tl,lt,true,A.gv,t,rfl,.inl ⟨rfl,rfl⟩,hL,he,t0,t1,?_⟩;fail "";refine⟨_,rfl,?_⟩;fail "";rw[he];refine⟨n,t,rfl,z9 ↑5 ↑5 t0 t1 ?_⟩;fail "";refine⟨A.bd,A.l,n,_,many,last,_,_,rfl,hB,?_⟩;rw[if_pos ⟨by lia,by rw[hlen];lia⟩]
  intro tt H' ht kp ett hB';rw[show(4*(t % (n:Int))+0).toNat=4*(t % (n:Int)).toNat+0 by lia] at hB'
  obtain⟨z1,z2⟩:=hL.wrote (k:=4*(t % (n:Int)).toNat+0) ↑5 ht kp (by rw[ett];rw[show(4*(t % (n:Int))+0)=((4*(t % (n:Int)).toNat+0:Nat):Int) by lia]) hB' hLast.1
  fail "";exact k H' z1 z2
def a0y(cl:Cl):Sp:=λvs H Q _=>ExL λA n c os bk gs ts ps Gq Tq tl lt=>∃(t:Int),vs=[.ref A.gv]/\LH cl H A n c os bk gs ts ps Gq Tq tl lt/\Gq.he=.int t/\0<=t/\t<2*(n:Int)/\Q (.int t) H
abbrev a1u:Stmt:=j4 (top 96) 14
theorem b0o:d9 ["self"] ["self"] (d7 a1u):=↑1
theorem b0r(D:DefM K cl.Giver "turn_served" "Giver.turn_served" a1u ["self"])(T:Txt K mg cl):MethT P w K mg base cl.Giver "turn_served" 1 ["self"] (a0y cl):=by
 refine D.fn b0o ↑7 ↑4
 ·walk_at "len"
 ·obtain⟨A,n,c,os,bk,gs,ts,ps,Gq,Tq,tl,lt,t,rfl,hL,he,t0,t1,k⟩:=h
  refine⟨_,(d8 (g4 ↑6)),?_⟩;obtain⟨dxg,eg⟩:=hL.gv;fail "a";fail "";rw[he];exact k
theorem c8u{row:List Int}{H:Hp}{E:XK}{k:Nat->Hp->Prop}{f:Nat}(h:a5p (toB row)=some f)(q:∀H',Same H H'->k f H'):d8r cl row H E k:=by
 refine⟨λf' H' s e=>?_,λH' s e=>?_⟩
 ·rw[h] at e;cases e;exact q H' s
 ·rw[h] at e;cases e
def a5g(K:Frag)(cl:Cl):Sp:=λvs H Q _=>ExL λA n c os bk gs ts ps Gq Tq tl lt=>∃(t:Int)(m:Addr)(ms:List Int)(f:Nat),vs=[.ref A.gv,.ref m]/\LH cl H A n c os bk gs ts ps Gq Tq tl lt/\H m=some (.lst (ms.map V.int))/\ms.length=n/\a2l ms=true/\a5p (toB (ms.map d6y))=some f/\∀H',LH cl H' A n c os bk gs ts ps { Gq with he:=.int (f:Nat) } Tq tl lt->KpA A H H'->Q .non H'
abbrev a2y:Stmt:=j4 (top 96) 12
theorem b3r:d9 ["self","marks"] ["self","marks"] (d7 a2y):=↑1
theorem b4f(D:DefM K cl.Giver "know_turn" "Giver.know_turn" a2y ["self","marks"])(T:Txt K mg cl)(G_giver_turn:FnT P w K mg base "giver_turn" 5 ["marks"] (b2x K cl)):MethT P w K mg base cl.Giver "know_turn" 6 ["self","marks"] (a5g K cl):=by
 refine D.fn b3r ↑7 ↑4
 ·walk_at "len"
 ·obtain⟨A,n,c,os,bk,gs,ts,ps,Gq,Tq,tl,lt,t,m,ms,f,rfl,hL,em,lm,mo,fr,k⟩:=h
  refine⟨_,(d8 (j1 (K:=K) (pv 0) (g9 G_giver_turn hr ↑3 rfl f9 (a7 (pv 1) b7)))),?_⟩;obtain⟨dxg,eg⟩:=hL.gv;fail "d";fail "";refine⟨m,ms,rfl,SqL.of em,⟨_,em⟩,c5z ↑5 ↑5 mo (c8u fr λH1 s1=>?_)⟩;have z1:=hL.same s1;obtain⟨dxg2,eg2⟩:=z1.gv;fail "";exact k _ (z1.setG (dx:=dxg2) (G':={ Gq with he:=.int (f:Nat) })) ((KpA.of s1).trans (KpA.upd (j:=2) (by lia)))
def a5t(cl:Cl):Sp:=λvs H Q _=>ExL λA n c os bk gs ts ps Gq Tq tl lt=>∃(t:Int),vs=[.ref A.gv]/\LH cl H A n c os bk gs ts ps Gq Tq tl lt/\Gq.he=.int t/\0<=t/\t<2*(n:Int)/\(b0v os Gq.nu Gq.le/\0<=a1z Gq.nu Gq.le/\a1z Gq.nu Gq.le<os.length)/\∀H',LH cl H' A n c os bk gs ts ps { Gq with he:=.int ((t+1) % (2*(n:Int))),nu:=a1z Gq.nu Gq.le,le:=a7x os Gq.nu Gq.le } Tq tl lt->KpA A H H'->Q (.str "look") H'
abbrev a7n:Stmt:=j4 (top 96) 15
theorem b9g:d9 ["self"] ["self"] (d7 a7n):=↑1
theorem b9u(D:DefM K cl.Giver "go_on" "Giver.go_on" a7n ["self"])(T:Txt K mg cl)(G_next_order:MethT P w K mg base cl.Giver "next_order" 2 ["self"] (t6 cl))(G_next_left:MethT P w K mg base cl.Giver "next_left" 3 ["self"] (a2c cl))(G_onward:FnT P w K mg base "onward" 3 ["size","turn","many"] (a4l cl)):MethT P w K mg base cl.Giver "go_on" 4 ["self"] (a5t cl):=by
 refine D.fn b9g ↑7 ↑4
 ·walk_at "len"
 ·obtain⟨A,n,c,os,bk,gs,ts,ps,Gq,Tq,tl,lt,t,rfl,hL,he,t0,t1,kn,k⟩:=h
  refine⟨_,(d5 (b6i (a4x (a7 (i9 (k:=2) (pv 0) hr ↑3 f9) (a7 (i9 (k:=3) (pv 0) hr ↑3 f9) b7))) (b8f (K:=K) rfl (a3e (d3b (K:=K) (pv 0)) (a3e (d3b (K:=K) (pv 0)) b8e))))
   (d5 (j1 (K:=K) (pv 0) (g9 G_onward hr ↑3 rfl f9 (a7 (v5 (K:=K) ↑6) (a7 ↑6 (a7 g3 b7)))))
   (d8 (g4 g7)))),?_⟩
  obtain⟨dxg,eg⟩:=hL.gv;fail "a";fail "f";refine⟨A.gv,cl.Giver,dxg,_,_,_,rfl,eg,rfl,T.k_Giver,G_next_order,?_⟩;fail "";refine⟨A,n,c,os,bk,gs,ts,ps,Gq,Tq,tl,lt,rfl,hL,?_⟩;fail "f";refine⟨A.gv,cl.Giver,dxg,_,_,_,rfl,eg,rfl,T.k_Giver,G_next_left,?_⟩;fail "";refine⟨A,n,c,os,bk,gs,ts,ps,Gq,Tq,tl,lt,rfl,hL,kn,?_⟩;fail "";refine⟨by show 2<=sizeLine;decide,λp hp=>?_⟩
  have z1:=hL.same (f8 (o:=.tup [.int (a1z Gq.nu Gq.le),.int (a7x os Gq.nu Gq.le)]) hp);obtain⟨dxg2,eg2⟩:=z1.gv;refine⟨p,_,rfl,SqT.of b8,rfl,_,_,rfl,d8j ?_⟩;fail "";refine⟨_,_,rfl,d8j ?_⟩;fail "";refine⟨rfl,?_⟩;have z2:=z1.setG (dx:=dxg2) (G':={ Gq with nu:=a1z Gq.nu Gq.le })
  have z3:=z2.setG (dx:=dxg2) (G':={ Gq with nu:=a1z Gq.nu Gq.le,le:=a7x os Gq.nu Gq.le })
  have ka:KpA A H _:=((KpA.of (f8 (o:=.tup [.int (a1z Gq.nu Gq.le),.int (a7x os Gq.nu Gq.le)]) hp)).trans (KpA.upd (A:=A) (j:=2) (o:=gvO cl dxg2 A { Gq with nu:=a1z Gq.nu Gq.le }) (by lia))).trans (KpA.upd (A:=A) (j:=2) (o:=gvO cl dxg2 A { Gq with nu:=a1z Gq.nu Gq.le,le:=a7x os Gq.nu Gq.le }) (by lia))
  refine e0q (by assumption) ?_
  revert z3 ka
  change _->_->e1l _ _ _ _ (upd (upd (upd H p (.tup [.int (a1z Gq.nu Gq.le),.int (a7x os Gq.nu Gq.le)])) A.gv (gvO cl dxg2 A { Gq with nu:=a1z Gq.nu Gq.le })) A.gv (gvO cl dxg2 A { Gq with nu:=a1z Gq.nu Gq.le,le:=a7x os Gq.nu Gq.le }))
  generalize upd (upd (upd H p (.tup [.int (a1z Gq.nu Gq.le),.int (a7x os Gq.nu Gq.le)])) A.gv (gvO cl dxg2 A { Gq with nu:=a1z Gq.nu Gq.le })) A.gv (gvO cl dxg2 A { Gq with nu:=a1z Gq.nu Gq.le,le:=a7x os Gq.nu Gq.le })=H3
  intro z3 ka;obtain⟨dxg3,eg3⟩:=z3.gv;obtain⟨many3,last3,hB3,hLast3⟩:=z3.brd;obtain⟨⟨dxb3,eb3⟩,el3,hlen3,_,_⟩:=id hB3;fail "";rw[he];refine⟨n,t,_,rfl,z9 ↑5 ↑5 t0 t1 ?_⟩;fail "";exact k _ (z3.setG (dx:=dxg3) (G':={ Gq with he:=.int ((t+1) % (2*(n:Int))),nu:=a1z Gq.nu Gq.le,le:=a7x os Gq.nu Gq.le })) (ka.trans (KpA.upd (j:=2) (by lia)))
section
variable{H H':Hp}{A:Ad}{n:Nat}{c:Pr.Cells}{os bk:List (List Int)}{gs ts ps:List Int}{Gq:Gm}{Tq:Tm}{tl:List Tr}{lt:Lt}
theorem LH.setPa{qs:List Int}(h:LH cl H A n c os bk gs ts ps Gq Tq tl lt):LH cl (upd H A.pa (.lst (qs.map V.int))) A n c os bk gs ts qs Gq Tq tl lt:=by
 have ne:∀i,i<8->i≠7->A.o i≠A.pa:=λi h8 h2=>h.nd i 7 h8 ↑5 h2;obtain⟨m,l,hB,hL⟩:=h.brd;refine⟨⟨m,l,hB.keep (ps:=[A.pa]) (Kp.upd (by simp)) (by simpa using ne 0 ↑5 ↑5) (by simpa using ne 1 ↑5 ↑5),hL.kpa (KpA.upd (j:=7) ↑5)⟩,?_,?_,?_,?_,h.kept.set (j:=7) ↑5 rfl (ne 5 ↑5 ↑5),h.book.set (j:=7) ↑5 rfl (ne 6 ↑5 ↑5),b8,?_,h.nd,h.om,h.fo.updO h.nd 7 ↑5 ↑5 ↑5 ↑5⟩
 ·obtain⟨d,z⟩:=h.gv;exact⟨d,by rw[d6 (ne 2 ↑5 ↑5)];exact z⟩
 ·obtain⟨d,z⟩:=h.tk;exact⟨d,by rw[d6 (ne 3 ↑5 ↑5)];exact z⟩
 ·rw[d6 (h.om 7 ↑5).1];exact h.mg
 ·rw[d6 (h.om 7 ↑5).2];exact h.mt
 ·exact h.tr.kpa (KpA.upd (j:=7) ↑5) λo z=>by rw[d6 (ne 4 ↑5 ↑5)];exact z
theorem LH.setTr{xs:List V}{p:Addr}{t:Tr}(h:LH cl H A n c os bk gs ts ps Gq Tq tl lt)(ex:H A.kt=some (.lst xs))(op:∀j,j<8->p≠A.o j)(fp:¬ A.fo p)(ep:H p=some (e4h t)):LH cl (upd H A.kt (.lst (xs++[.ref p]))) A n c os bk gs ts ps Gq Tq (tl++[t]) lt:=by
 have ne:∀i,i<8->i≠4->A.o i≠A.kt:=λi h8 h2=>h.nd i 4 h8 ↑5 h2;obtain⟨m,l,hB,hL⟩:=h.brd;refine⟨⟨m,l,hB.keep (ps:=[A.kt]) (Kp.upd (by simp)) (by simpa using ne 0 ↑5 ↑5) (by simpa using ne 1 ↑5 ↑5),hL.kpa (KpA.upd (j:=4) ↑5)⟩,?_,?_,?_,?_,h.kept.set (j:=4) ↑5 rfl (ne 5 ↑5 ↑5),h.book.set (j:=4) ↑5 rfl (ne 6 ↑5 ↑5),?_,?_,h.nd,h.om,h.fo.updO h.nd 4 ↑5 ↑5 ↑5 ↑5⟩
 ·obtain⟨d,z⟩:=h.gv;exact⟨d,by rw[d6 (ne 2 ↑5 ↑5)];exact z⟩
 ·obtain⟨d,z⟩:=h.tk;exact⟨d,by rw[d6 (ne 3 ↑5 ↑5)];exact z⟩
 ·rw[d6 (h.om 4 ↑5).1];exact h.mg
 ·rw[d6 (h.om 4 ↑5).2];exact h.mt
 ·rw[d6 (ne 7 ↑5 ↑5)];exact h.pa
 ·obtain⟨qs,e,l,r⟩:=h.tr
  rw[e] at ex;cases ex;refine⟨qs++[p],by rw[b8,List.map_append];rfl,by rw[List.length_append,List.length_append,l];rfl,λi q u hq hu=>?_⟩
  by_cases y:i<qs.length
  ·rw[List.getElem?_append_left y] at hq
   rw[List.getElem?_append_left ↑5] at hu;obtain⟨r1,r2,r3⟩:=r i q u hq hu;exact⟨r1,r2,by rw[d6 (r1 4 ↑5)];exact r3⟩
  ·rw[List.getElem?_append_right ↑5] at hq hu
   have i0:i-qs.length=0:=by
    by_cases z:i-qs.length=0
    ·exact z
    ·rw[List.getElem?_eq_none (by simp;lia)] at hq;cases hq
   rw[i0] at hq;rw[<- l,i0] at hu;cases hq;cases hu;exact⟨op,fp,by rw[d6 (op 4 ↑5)];exact ep⟩
def Ad.setPa(A:Ad)(p:Addr):Ad:={ A with o:=λj=>if j=7 then p else A.o j }
theorem Ad.setPa_o{A:Ad}{p:Addr}{j:Nat}(h:j≠7):(A.setPa p).o j=A.o j:=if_neg h
theorem Ad.setPa_7{A:Ad}{p:Addr}:(A.setPa p).o 7=p:=by
 show(if 7=7 then p else A.o 7)=p;exact if_pos rfl
theorem LH.move{p dx:Addr}{bk':List (List Int)}(h:LH cl H A n c os bk gs ts ps Gq Tq tl lt)(k:Kp [A.kk,A.tk] H H')(hp:H p=none)(ep:H' p=some (.lst []))(et:H' A.tk=some (tkO cl dx (A.setPa p) Tq))(hk:RwsX (A.setPa p) H' A.kk bk')(hf:∀x,A.fo x->Unr H' A.kk x):LH cl H' (A.setPa p) n c os bk' gs ts [] Gq Tq tl lt:=by
 have ne:∀i,i<8->i≠6->i≠3->A.o i ∉ [A.kk,A.tk]:=λi h8 h6 h3=>by
  simp only[List.mem_cons,List.not_mem_nil,or_false,not_or];exact⟨h.nd i 6 h8 ↑5 h6,h.nd i 3 h8 ↑5 h3⟩
 have offp:=h.off hp;obtain⟨m,l,hB,hL⟩:=h.brd;have kz:KpA A H H':=KpA.kp k λx hx=>by
  simp only[List.mem_cons,List.not_mem_nil,or_false] at hx;rcases hx with rfl|rfl
  ·exact⟨6,by lia,rfl⟩
  ·exact⟨3,by lia,rfl⟩
 refine⟨⟨m,l,hB.keep k (ne 0 ↑5 ↑5 ↑5) (ne 1 ↑5 ↑5 ↑5),hL.1,hL.2.1,λq0 z=>?_⟩,?_,⟨dx,et⟩,k _ _ h.mg ?_,k _ _ h.mt ?_,?_,hk,ep,?_,?_,?_,?_⟩
 ·obtain⟨t,e,n1,q⟩:=hL.2.2 q0 z
  refine⟨t,e,λj hj=>?_,kz _ _ q n1⟩;by_cases e7:j=7
  ·subst e7;rw[Ad.setPa_7];exact g6 q hp
  ·rw[Ad.setPa_o e7];exact n1 j hj
 ·obtain⟨d,z⟩:=h.gv
  exact⟨d,k _ _ z (ne 2 ↑5 ↑5 ↑5)⟩
 ·simp only[List.mem_cons,List.not_mem_nil,or_false,not_or];exact⟨(h.om 6 ↑5).1,(h.om 3 ↑5).1⟩
 ·simp only[List.mem_cons,List.not_mem_nil,or_false,not_or];exact⟨(h.om 6 ↑5).2,(h.om 3 ↑5).2⟩
 ·obtain⟨qs,e,l,r⟩:=h.kept
  refine⟨qs,k _ _ e (ne 5 ↑5 ↑5 ↑5),l,λi q o hq ho=>?_⟩;obtain⟨a,b⟩:=r i q o hq ho;refine⟨λj hj=>?_,kz _ _ b a⟩;by_cases e7:j=7
  ·subst e7;rw[Ad.setPa_7];exact g6 b hp
  ·rw[Ad.setPa_o e7];exact a j hj
 ·refine h.tr.gen (λo z=>k _ _ z (ne 4 ↑5 ↑5 ↑5)) λq o e n1 f=>⟨λj hj=>?_,f,kz _ _ e n1⟩
  by_cases e7:j=7
  ·subst e7;rw[Ad.setPa_7];exact g6 e hp
  ·rw[Ad.setPa_o e7];exact n1 j hj
 ·intro i j hi hj hij
  by_cases i7:i=7
  ·subst i7
   rw[Ad.setPa_7,Ad.setPa_o (Ne.symm hij)];exact offp j hj
  ·rw[Ad.setPa_o i7]
   by_cases j7:j=7
   ·subst j7
    rw[Ad.setPa_7];exact(offp i hi).symm
   ·rw[Ad.setPa_o j7]
    exact h.nd i j hi hj hij
 ·intro i hi
  by_cases i7:i=7
  ·subst i7
   rw[Ad.setPa_7];exact⟨g6 h.mg hp,g6 h.mt hp⟩
  ·rw[Ad.setPa_o i7]
   exact h.om i hi
 ·intro x hx
  obtain⟨⟨o,a⟩,b,c1,d,e,f,g⟩:=h.fo x hx;obtain⟨o5,z5⟩:=h.has 5 ↑5;obtain⟨o0,z0⟩:=h.has 0 ↑5;have y5:H' A.kg=H A.kg:=(k _ _ z5 (ne 5 ↑5 ↑5 ↑5)).trans z5.symm;have y0:H' A.bd=H A.bd:=(k _ _ z0 (ne 0 ↑5 ↑5 ↑5)).trans z0.symm;refine⟨⟨o,kz _ _ a b⟩,λj hj=>?_,c1,d,(λxs z=>e xs (y5 ▸ z)),hf x hx,(λC dx fs z=>g C dx fs (y0 ▸ z))⟩;by_cases e7:j=7
  ·subst e7;rw[Ad.setPa_7];exact g6 a hp
  ·rw[Ad.setPa_o e7];exact b j hj
def Nx(A A':Ad)(H:Hp):Prop:=(∀j,j<7->A'.o j=A.o j)/\(A'.o 7=A.o 7\/H (A'.o 7)=none)/\A'.fo=A.fo
theorem Nx.refl(A:Ad)(H:Hp):Nx A A H:=⟨λ_ _=>rfl,.inl rfl,rfl⟩
theorem Nx.pa{p:Addr}(hp:H p=none):Nx A (A.setPa p) H:=⟨λj hj=>Ad.setPa_o ↑5,.inr (by rw[Ad.setPa_7];exact hp),rfl⟩
end
def a0h(cl:Cl):Sp:=λvs H Q _=>ExL λA n c os bk gs ts ps Gq Tq tl lt=>∃(t:Int),vs=[.ref A.tk]/\LH cl H A n c os bk gs ts ps Gq Tq tl lt/\Tq.he=.int t/\0<=t/\t<2*(n:Int)/\∀H',LH cl H' A n c os bk gs ts ps Gq { Tq with nu:=c (4*(t % (n:Int)).toNat+1) } tl (lt.rd (4*(t % (n:Int)).toNat+1) (c (4*(t % (n:Int)).toNat+1)))->KpA A H H'->Q (.str "left") H'
abbrev a2r:Stmt:=top 98
theorem b3i:d9 ["taker"] ["taker"] (d7 a2r):=↑1
theorem b3x{fa:Addr}(D:DefV K fa "at_number" a2r ["taker"])(T:Txt K mg cl)(G_Board_read:MethT P w K mg base cl.Board "read" 2 ["self","cell"] (u0 cl))(G_number_cell:FnT P w K mg base "number_cell" 1 ["place"] (v2 1))(TP:MethT P w K mg base cl.Taker "place" 4 ["self"] (t8 cl)):FnV P w K mg base fa 5 ["taker"] (a0h cl):=by
 refine D.fn b3i ↑7 ↑4
 ·walk_at "len"
 ·obtain⟨A,n,c,os,bk,gs,ts,ps,Gq,Tq,tl,lt,t,rfl,hL,he,t0,t1,k⟩:=h
  refine⟨_,(d5 (j1 (K:=K) (pv 0) (a1e ↑6 T.k_Board G_Board_read hr ↑3 f9 (a7 (g9 G_number_cell hr ↑3 rfl f9 (a7 (i9 (k:=4) (pv 0) hr ↑3 f9) b7)) b7)))
   (d8 (g4 g7))),?_⟩
  obtain⟨dxt,et⟩:=hL.tk;fail "d";have p0:=Int.emod_nonneg t (show(n:Int)≠0 by lia)
  have p1:=Int.emod_lt_of_pos t (show(0:Int)<n by lia)
  fail "f";refine⟨A.tk,cl.Taker,dxt,_,_,_,rfl,et,rfl,T.k_Taker,TP,?_⟩;fail "";refine⟨A,n,c,os,bk,gs,ts,ps,Gq,Tq,tl,lt,false,A.tk,t,rfl,.inr ⟨rfl,rfl⟩,hL,he,t0,t1,?_⟩;fail "";fail "j";obtain⟨z1,z2⟩:=hL.wasRead ht kp ett hB' hLast.1 (4*(t % (n:Int)).toNat+1) ↑5 ↑5;obtain⟨dxt2,et2⟩:=z1.tk;rw[show(4*(t % (n:Int))+1).toNat=4*(t % (n:Int)).toNat+1 by lia,a0d c ↑5]
  fail "";exact k _ (z1.setT (dx:=dxt2) (T':={ Tq with nu:=c (4*(t % (n:Int)).toNat+1) })) (z2.trans (KpA.upd (j:=3) (by lia)))
def a1i(cl:Cl):Sp:=λvs H Q _=>ExL λA n c os bk gs ts ps Gq Tq tl lt=>∃(t:Int),vs=[.ref A.tk]/\LH cl H A n c os bk gs ts ps Gq Tq tl lt/\Tq.he=.int t/\0<=t/\t<2*(n:Int)/\∀H',LH cl H' A n c os bk gs ts ps Gq { Tq with le:=c (4*(t % (n:Int)).toNat+2) } tl (lt.rd (4*(t % (n:Int)).toNat+2) (c (4*(t % (n:Int)).toNat+2)))->KpA A H H'->Q (.str "thing") H'
abbrev a4s:Stmt:=top 100
theorem b6j:d9 ["taker"] ["taker"] (d7 a4s):=↑1
theorem b6n{fa:Addr}(D:DefV K fa "at_left" a4s ["taker"])(T:Txt K mg cl)(G_Board_read:MethT P w K mg base cl.Board "read" 2 ["self","cell"] (u0 cl))(G_left_cell:FnT P w K mg base "left_cell" 1 ["place"] (v2 2))(TP:MethT P w K mg base cl.Taker "place" 4 ["self"] (t8 cl)):FnV P w K mg base fa 5 ["taker"] (a1i cl):=by
 refine D.fn b6j ↑7 ↑4
 ·walk_at "len"
 ·obtain⟨A,n,c,os,bk,gs,ts,ps,Gq,Tq,tl,lt,t,rfl,hL,he,t0,t1,k⟩:=h
  refine⟨_,(d5 (j1 (K:=K) (pv 0) (a1e ↑6 T.k_Board G_Board_read hr ↑3 f9 (a7 (g9 G_left_cell hr ↑3 rfl f9 (a7 (i9 (k:=4) (pv 0) hr ↑3 f9) b7)) b7)))
   (d8 (g4 g7))),?_⟩
  obtain⟨dxt,et⟩:=hL.tk;fail "d";have p0:=Int.emod_nonneg t (show(n:Int)≠0 by lia)
  have p1:=Int.emod_lt_of_pos t (show(0:Int)<n by lia)
  fail "f";refine⟨A.tk,cl.Taker,dxt,_,_,_,rfl,et,rfl,T.k_Taker,TP,?_⟩;fail "";refine⟨A,n,c,os,bk,gs,ts,ps,Gq,Tq,tl,lt,false,A.tk,t,rfl,.inr ⟨rfl,rfl⟩,hL,he,t0,t1,?_⟩;fail "";fail "j";obtain⟨z1,z2⟩:=hL.wasRead ht kp ett hB' hLast.1 (4*(t % (n:Int)).toNat+2) ↑5 ↑5;obtain⟨dxt2,et2⟩:=z1.tk;rw[show(4*(t % (n:Int))+2).toNat=4*(t % (n:Int)).toNat+2 by lia,a0d c ↑5]
  fail "";exact k _ (z1.setT (dx:=dxt2) (T':={ Tq with le:=c (4*(t % (n:Int)).toNat+2) })) (z2.trans (KpA.upd (j:=3) (by lia)))
def b4p(cl:Cl):Sp:=λvs H Q _=>ExL λA n c os bk gs ts ps Gq Tq tl lt=>∃(t:Int),vs=[.ref A.tk]/\LH cl H A n c os bk gs ts ps Gq Tq tl lt/\Tq.nf=.int t/\0<=t/\t<2*(n:Int)/\∀H',LH cl H' A n (Pr.put c (4*(t % (n:Int)).toNat+0) (2*(t / (n:Int))+0)) os bk gs ts ps Gq Tq tl (lt.wr (4*(t % (n:Int)).toNat+0) (2*(t / (n:Int))+0))->KpA A H H'->Q (.str "card") H'
abbrev b7x:Stmt:=top 104
theorem b4t:d9 ["taker","size","place"] ["taker"] (d7 b7x):=↑1
theorem d1k(D:DefT K mg "at_free" b7x ["taker"])(T:Txt K mg cl)(G_Board_write:MethT P w K mg base cl.Board "write" 2 ["self","cell","number"] (t9 cl))(G_mark_cell:FnT P w K mg base "mark_cell" 1 ["place"] (v2 0))(G_place_of:FnT P w K mg base "place_of" 3 ["size","turn"] (a6w cl))(G_free_mark:FnT P w K mg base "free_mark" 4 ["size","turn"] (b5z cl)):FnT P w K mg base "at_free" 5 ["taker"] (b4p cl):=by
 refine D.fn b4t ↑7 ↑4
 ·walk_at "len"
 ·obtain⟨A,n,c,os,bk,gs,ts,ps,Gq,Tq,tl,lt,t,rfl,hL,he,t0,t1,k⟩:=h
  refine⟨_,(d5 (j9 (i:=1) b4t.nd rfl (.inl rfl) (v5 (K:=K) ↑6))
   (d5 (j9 (i:=2) b4t.nd rfl (.inl rfl) (g9 G_place_of hr ↑3 rfl f9 (a7 (pv 1) (a7 ↑6 b7))))
   (d5 (i8 (a1e ↑6 T.k_Board G_Board_write hr ↑3 f9 (a7 (g9 G_mark_cell hr ↑3 rfl f9 (a7 (pv 2) b7)) (a7 (g9 G_free_mark hr ↑3 rfl f9 (a7 (pv 1) (a7 ↑6 b7))) b7))))
   (d8 (g4 g7))))),?_⟩
  obtain⟨dxt,et⟩:=hL.tk;fail "d";have p0:=Int.emod_nonneg t (show(n:Int)≠0 by lia)
  have p1:=Int.emod_lt_of_pos t (show(0:Int)<n by lia)
  fail "";rw[he];refine⟨n,t,rfl,z9 ↑5 ↑5 t0 t1 ?_⟩;fail "";refine⟨_,rfl,?_⟩;fail "";rw[he];refine⟨n,t,rfl,z9 ↑5 ↑5 t0 t1 ?_⟩;fail "";refine⟨A.bd,A.l,n,_,many,last,_,_,rfl,hB,?_⟩;rw[if_pos ⟨by lia,by rw[hlen];lia⟩]
  intro tt H' ht kp ett hB';rw[show(4*(t % (n:Int))+0).toNat=4*(t % (n:Int)).toNat+0 by lia] at hB'
  obtain⟨z1,z2⟩:=hL.wrote (k:=4*(t % (n:Int)).toNat+0) ↑5 ht kp (by rw[ett];rw[show(4*(t % (n:Int))+0)=((4*(t % (n:Int)).toNat+0:Nat):Int) by lia]) hB' hLast.1
  fail "";exact k H' z1 z2
def a3r(cl:Cl):Sp:=λvs H Q _=>ExL λA n c os bk gs ts ps Gq Tq tl lt=>∃(t:Int),vs=[.ref A.tk]/\LH cl H A n c os bk gs ts ps Gq Tq tl lt/\Q (.bl false) H
abbrev a4u:Stmt:=j4 (top 106) 10
theorem b6l:d9 ["self"] ["self"] (d7 a4u):=↑1
theorem b6p(D:DefM K cl.Taker "resting" "Taker.resting" a4u ["self"])(T:Txt K mg cl):MethT P w K mg base cl.Taker "resting" 1 ["self"] (a3r cl):=by
 refine D.fn b6l ↑7 ↑4
 ·walk_at "len"
 ·obtain⟨A,n,c,os,bk,gs,ts,ps,Gq,Tq,tl,lt,t,rfl,hL,k⟩:=h
  refine⟨_,(d8 (g4 a6o)),?_⟩;obtain⟨dxt,et⟩:=hL.tk;fail "d";fail "";exact k
def a0x(cl:Cl):Sp:=λvs H Q _=>ExL λA n c os bk gs ts ps Gq Tq tl lt=>∃(t:Int),vs=[.ref A.tk]/\LH cl H A n c os bk gs ts ps Gq Tq tl lt/\Tq.nf=.int t/\0<=t/\t<2*(n:Int)/\Q (.int ((t+(n:Int)) % (2*(n:Int)))) H
abbrev a1t:Stmt:=j4 (top 106) 8
theorem b0n:d9 ["self"] ["self"] (d7 a1t):=↑1
theorem b0q(D:DefM K cl.Taker "turn_served" "Taker.turn_served" a1t ["self"])(T:Txt K mg cl)(G_onward:FnT P w K mg base "onward" 3 ["size","turn","many"] (a4l cl)):MethT P w K mg base cl.Taker "turn_served" 4 ["self"] (a0x cl):=by
 refine D.fn b0n ↑7 ↑4
 ·walk_at "len"
 ·obtain⟨A,n,c,os,bk,gs,ts,ps,Gq,Tq,tl,lt,t,rfl,hL,he,t0,t1,k⟩:=h
  refine⟨_,(d8 (g4 (g9 G_onward hr ↑3 rfl f9 (a7 (v5 (K:=K) ↑6) (a7 ↑6 (a7 (v5 (K:=K) ↑6) b7)))))),?_⟩;obtain⟨dxt,et⟩:=hL.tk;fail "d";fail "";rw[he];exact⟨n,t,_,rfl,z9 ↑5 ↑5 t0 t1 k⟩
def a5c(K:Frag)(cl:Cl):Sp:=λvs H Q _=>ExL λA n c os bk gs ts ps Gq Tq tl lt=>∃(t:Int)(m:Addr)(ms:List Int)(f:Nat),vs=[.ref A.tk,.ref m]/\LH cl H A n c os bk gs ts ps Gq Tq tl lt/\H m=some (.lst (ms.map V.int))/\ms.length=n/\a2l ms=true/\a5p (toB (ms.map tbI))=some f/\∀H',LH cl H' A n c os bk gs ts ps Gq { Tq with he:=.int (f:Nat),nf:=.int (f:Nat) } tl lt->KpA A H H'->Q .non H'
abbrev a2t:Stmt:=j4 (top 106) 6
theorem b3k:d9 ["self","marks"] ["self","marks"] (d7 a2t):=↑1
theorem b3z(D:DefM K cl.Taker "know_turn" "Taker.know_turn" a2t ["self","marks"])(T:Txt K mg cl)(G_taker_turn:FnT P w K mg base "taker_turn" 5 ["marks"] (b2v K cl)):MethT P w K mg base cl.Taker "know_turn" 6 ["self","marks"] (a5c K cl):=by
 refine D.fn b3k ↑7 ↑4
 ·walk_at "len"
 ·obtain⟨A,n,c,os,bk,gs,ts,ps,Gq,Tq,tl,lt,t,m,ms,f,rfl,hL,em,lm,mo,fr,k⟩:=h
  refine⟨_,(d5 (j1 (K:=K) (pv 0) (g9 G_taker_turn hr ↑3 rfl f9 (a7 (pv 1) b7)))
   (d8 (j1 (K:=K) (pv 0) ↑6))),?_⟩
  obtain⟨dxt,et⟩:=hL.tk;fail "d";fail "";refine⟨m,ms,rfl,SqL.of em,⟨_,em⟩,c5z ↑5 ↑5 mo (c8u fr λH1 s1=>?_)⟩;have z1:=hL.same s1;obtain⟨dxt2,et2⟩:=z1.tk;have z2:=z1.setT (dx:=dxt2) (T':={ Tq with he:=.int (f:Nat) })
  fail "";exact k _ (z2.setT (dx:=dxt2) (T':={ Tq with he:=.int (f:Nat),nf:=.int (f:Nat) })) (((KpA.of s1).trans (KpA.upd (j:=3) (by lia))).trans (KpA.upd (j:=3) (by lia)))
def a5s(cl:Cl):Sp:=λvs H Q _=>ExL λA n c os bk gs ts ps Gq Tq tl lt=>∃(t:Int)(f:Int),vs=[.ref A.tk]/\LH cl H A n c os bk gs ts ps Gq Tq tl lt/\Tq.he=.int t/\Tq.nf=.int f/\0<=f/\f<2*(n:Int)/\∀H',(if f=t then LH cl H' A n c os bk gs ts ps Gq { Tq with he:=.int ((f+1) % (2*(n:Int))),nf:=.int ((f+1) % (2*(n:Int))) } tl lt else LH cl H' A n c os bk gs ts ps Gq { Tq with nf:=.int ((f+1) % (2*(n:Int))) } tl lt)->KpA A H H'->Q (.str (if f=t then "look" else "free")) H'
abbrev a7l:Stmt:=j4 (top 106) 9
theorem b1a:d9 ["self","all_freed"] ["self"] (d7 a7l):=↑1
theorem b9q(D:DefM K cl.Taker "go_on" "Taker.go_on" a7l ["self"])(T:Txt K mg cl)(G_onward:FnT P w K mg base "onward" 3 ["size","turn","many"] (a4l cl)):MethT P w K mg base cl.Taker "go_on" 4 ["self"] (a5s cl):=by
 refine D.fn b1a ↑7 ↑4
 ·walk_at "len"
 ·obtain⟨A,n,c,os,bk,gs,ts,ps,Gq,Tq,tl,lt,t,f,rfl,hL,he,hf,t0,t1,k⟩:=h
  refine⟨_,(d5 (j9 (i:=1) b1a.nd rfl (.inl rfl) (a3a a6a ↑6 ↑6 (m9 _)))
   (d5 (j1 (K:=K) (pv 0) (g9 G_onward hr ↑3 rfl f9 (a7 (v5 (K:=K) ↑6) (a7 ↑6 (a7 g3 b7)))))
   (d5 (a0q (d2u (b3u (pv 1)))
     (d8 (g4 g7))
     r0)
   (d5 (j1 (K:=K) (pv 0) ↑6)
   (d8 (g4 g7)))))),?_⟩
  obtain⟨dxt,et⟩:=hL.tk;fail "d";fail "";rw[hf,he];refine e7e rfl ?_;fail "";rw[hf];refine⟨n,f,_,rfl,z9 ↑5 ↑5 t0 t1 ?_⟩;have z2:=hL.setT (dx:=dxt) (T':={ Tq with nf:=.int ((f+1) % (2*(n:Int))) })
  fail "";rw[show decide (V.int f=V.int t)=decide (f=t) by simp]
  refine d8i (λy=>?_) (λy=>?_)
  ·fail ""
   have q:=k _ (by rw[if_neg y];exact z2) (KpA.upd (j:=3) ↑5)
   rw[if_neg y] at q;exact q
  ·fail ""
   have q:=k _ (by rw[if_pos y];exact z2.setT (dx:=dxt) (T':={ Tq with he:=.int ((f+1) % (2*(n:Int))),nf:=.int ((f+1) % (2*(n:Int))) })) ((KpA.upd (j:=3) (by lia)).trans (KpA.upd (j:=3) (by lia)))
   rw[if_pos y] at q;exact q
theorem LH.booked{cl:Cl}{H:Hp}{A:Ad}{n:Nat}{c:Pr.Cells}{os bk:List (List Int)}{gs ts ps:List Int}{Gq:Gm}{Tq:Tm}{tl:List Tr}{lt:Lt}{p dx:Addr}{bps:List Addr}(h:LH cl H A n c os bk gs ts ps Gq Tq tl lt)(hp:H p=none)(eb:H A.kk=some (.lst (bps.map V.ref))):
  LH cl (upd (upd (upd H A.kk (.lst (bps.map V.ref++[.ref A.pa]))) p (.lst [])) A.tk (tkO cl dx (A.setPa p) Tq)) (A.setPa p) n c os (bk++[ps]) gs ts [] Gq Tq tl lt:=by
 have offp:=h.off hp;have n63:A.kk≠A.tk:=h.nd 6 3 ↑5 ↑5 ↑5;have nkp:A.kk≠p:=(offp 6 ↑5).symm;have npt:p≠A.tk:=offp 3 ↑5;refine h.move (p:=p) (dx:=dx) (λx o e nx=>?_) hp ?_ b8 ?_ ?_
 ·have x1:x≠A.kk:=λz=>nx (by simp[z])
  have x2:x≠A.tk:=λz=>nx (by simp[z])
  rw[d6 x2,d6 (g6 e hp),d6 x1];exact e
 ·rw[d6 npt,b8]
 ·obtain⟨qs,e,l,r⟩:=h.book
  rw[eb] at e;have e:bps=qs:=by
   have:=HO.lst.inj (Option.some.inj e);exact List.map_inj_right (λ_ _ z=>V.ref.inj z) |>.mp this
  subst e;refine⟨bps++[A.pa],by rw[d6 n63,d6 nkp,b8,List.map_append];rfl,by rw[List.length_append,List.length_append,l];rfl,λi q o hq ho=>?_⟩
  have look:∀x o,H x=some o->x≠A.tk->x≠A.kk->upd (upd (upd H A.kk (.lst (bps.map V.ref++[.ref A.pa]))) p (.lst [])) A.tk (tkO cl dx (A.setPa p) Tq) x=some o:=λx o e x2 x1=>by
   rw[d6 x2,d6 (g6 e hp),d6 x1];exact e
  by_cases hi:i<bps.length
  ·rw[List.getElem?_append_left hi] at hq
   rw[List.getElem?_append_left ↑5] at ho;obtain⟨a,b⟩:=r i q o hq ho;refine⟨λj hj=>?_,look _ _ b (a 3 ↑5) (a 6 ↑5)⟩;by_cases e7:j=7
   ·subst e7;rw[Ad.setPa_7];exact g6 b hp
   ·rw[Ad.setPa_o e7];exact a j hj
  ·have hi':i=bps.length:=by
    have:=(List.getElem?_eq_some_iff.mp hq).1;rw[List.length_append] at this;have:i<bps.length+1:=this;lia
   subst hi';rw[List.getElem?_append_right (Nat.le_refl _),Nat.sub_self] at hq;rw[List.getElem?_append_right ↑5,l,Nat.sub_self] at ho;cases hq;cases ho;refine⟨λj hj=>?_,look _ _ h.pa (h.nd 7 3 ↑5 ↑5 ↑5) (h.nd 7 6 ↑5 ↑5 ↑5)⟩;by_cases e7:j=7
   ·subst e7;rw[Ad.setPa_7];exact g6 h.pa hp
   ·rw[Ad.setPa_o e7];exact h.nd 7 j ↑5 hj (Ne.symm e7)
 ·intro x hx xs z
  rw[d6 n63,d6 nkp,b8] at z;cases z;obtain⟨_,b,_,_,_,f,_⟩:=h.fo x hx;intro q;rcases List.mem_append.mp q with q|q
  ·exact f _ eb q
  ·exact b 7 ↑5 (V.ref.inj (List.mem_singleton.mp q))
theorem LH.dropped{cl:Cl}{H:Hp}{A:Ad}{n:Nat}{c:Pr.Cells}{os bk:List (List Int)}{gs ts ps:List Int}{Gq:Gm}{Tq:Tm}{tl:List Tr}{lt:Lt}{p dx:Addr}(h:LH cl H A n c os bk gs ts ps Gq Tq tl lt)(hp:H p=none):
  LH cl (upd (upd H p (.lst [])) A.tk (tkO cl dx (A.setPa p) Tq)) (A.setPa p) n c os bk gs ts [] Gq Tq tl lt:=by
 have offp:=h.off hp;have npt:p≠A.tk:=offp 3 ↑5;have look:∀x o,H x=some o->x≠A.tk->upd (upd H p (.lst [])) A.tk (tkO cl dx (A.setPa p) Tq) x=some o:=λx o e x2=>by
  rw[d6 x2,d6 (g6 e hp)];exact e
 refine h.move (p:=p) (dx:=dx) (λx o e nx=>look x o e λz=>nx (by simp[z])) hp ?_ b8 ?_ ?_
 ·rw[d6 npt,b8]
 ·obtain⟨qs,e,l,r⟩:=h.book
  refine⟨qs,look _ _ e (h.nd 6 3 ↑5 ↑5 ↑5),l,λi q o hq ho=>?_⟩;obtain⟨a,b⟩:=r i q o hq ho;refine⟨λj hj=>?_,look _ _ b (a 3 ↑5)⟩;by_cases e7:j=7
  ·subst e7;rw[Ad.setPa_7];exact g6 b hp
  ·rw[Ad.setPa_o e7];exact a j hj
 ·intro x hx xs z
  rw[d6 (h.nd 6 3 ↑5 ↑5 ↑5),d6 (Ne.symm (offp 6 ↑5))] at z;obtain⟨_,_,_,_,_,f,_⟩:=h.fo x hx;exact f xs z
def d5d(bk:List (List Int))(nu:Int)(o:List Int):List (List Int):=if nu=bk.length then bk++[o] else bk
def a4n(cl:Cl):Sp:=λvs H Q _=>ExL λA n c os bk gs ts ps Gq Tq tl lt=>vs=[.ref A.tk]/\LH cl H A n c os bk gs ts ps Gq Tq tl lt/\bk.length<=400/\∀p H',H p=none->LH cl H' (A.setPa p) n c os (d5d bk Tq.nu ps) gs ts [] Gq Tq tl lt->KpA A H H'->Q .non H'
abbrev a2d:Stmt:=j4 (top 106) 3
theorem b1g:d9 ["self"] ["self"] (d7 a2d):=↑1
theorem b2m(D:DefM K cl.Taker "book_order" "Taker.book_order" a2d ["self"])(T:Txt K mg cl):MethT P w K mg base cl.Taker "book_order" 1 ["self"] (a4n cl):=by
 refine D.fn b1g ↑7 ↑4
 ·walk_at "len"
 ·obtain⟨A,n,c,os,bk,gs,ts,ps,Gq,Tq,tl,lt,rfl,hL,hb,k⟩:=h
  refine⟨_,(d5 (a0q (k7 a6a ↑6 (l7 (n5 (K:=K)) (by rfl) T.z_len PySem.boot_len (a7 ↑6 b7)) (m9 _))
     (d8 (i8 (a3b (K:=K) ↑6 (a7 ↑6 b7))))
     r0)
   (d8 (j1 (K:=K) (pv 0) (o8 b7)))),?_⟩
  have h20:2000<=sizeLine:=by decide
  obtain⟨dxt,et⟩:=hL.tk;obtain⟨bps,eb,lb,rb⟩:=id hL.book;have n63:A.tk≠A.kk:=hL.nd 3 6 ↑5 ↑5 ↑5;have npa:=hL.pa;fail "";rw[List.length_map,lb];rw[show decide (V.int Tq.nu=V.int (bk.length:Int))=decide (Tq.nu=(bk.length:Int)) by simp]
  unfold d5d at k;refine a6b (λy=>?_) (λy=>?_)
  ·rw[if_pos y] at k
   fail "";refine d7o eb (by rw[List.length_map,lb];lia) ?_
   have et2:upd H A.kk (.lst (bps.map V.ref++[.ref A.pa])) A.tk=some (tkO cl dxt A Tq):=(d6 n63).trans et;fail "";refine⟨Nat.zero_le _,λp hp=>?_⟩;have hp0:H p=none:=by
    by_cases z:p=A.kk
    ·rw[z,b8] at hp;cases hp
    ·rw[d6 z] at hp;exact hp
   fail "";exact k p _ hp0 (hL.booked (dx:=dxt) hp0 eb) (((KpA.upd (j:=6) ↑5).trans (KpA.of (f8 hp))).trans (KpA.upd (j:=3) ↑5))
  ·rw[if_neg y] at k
   fail "";refine⟨Nat.zero_le _,λp hp=>?_⟩;fail "";exact k p _ hp (hL.dropped (dx:=dxt) hp) ((KpA.of (f8 hp)).trans (KpA.upd (j:=3) ↑5))
def a0s(cl:Cl):Sp:=λvs H Q _=>ExL λA n c os bk gs ts ps Gq Tq tl lt=>∃(t:Int),vs=[.ref A.tk]/\LH cl H A n c os bk gs ts ps Gq Tq tl lt/\Tq.he=.int t/\0<=t/\t<2*(n:Int)/\bk.length<=400/\ps.length<=100 /\
 (
  if 0<Tq.le then ∀H',LH cl H' A n c os bk gs ts (ps++[c (4*(t % (n:Int)).toNat+3)]) Gq { Tq with he:=.int ((t+1) % (2*(n:Int))) } tl (lt.rd (4*(t % (n:Int)).toNat+3) (c (4*(t % (n:Int)).toNat+3)))->KpA A H H'->Q (.str "look") H'
  else ∀p H',H p=none->LH cl H' (A.setPa p) n c os (d5d bk Tq.nu (ps++[c (4*(t % (n:Int)).toNat+3)])) gs ts [] Gq Tq tl (lt.rd (4*(t % (n:Int)).toNat+3) (c (4*(t % (n:Int)).toNat+3)))->KpA A H H'->Q (.str "free") H')
abbrev a3t:Stmt:=top 102
theorem b4s:d9 ["taker"] ["taker"] (d7 a3t):=↑1
theorem b5j{fa:Addr}(D:DefV K fa "at_thing" a3t ["taker"])(T:Txt K mg cl)(G_Board_read:MethT P w K mg base cl.Board "read" 2 ["self","cell"] (u0 cl))(G_thing_cell:FnT P w K mg base "thing_cell" 1 ["place"] (v2 3))(TP:MethT P w K mg base cl.Taker "place" 4 ["self"] (t8 cl))(G_onward:FnT P w K mg base "onward" 3 ["size","turn","many"] (a4l cl))(G_book_order:MethT P w K mg base cl.Taker "book_order" 1 ["self"] (a4n cl)):FnV P w K mg base fa 5 ["taker"] (a0s cl):=by
 refine D.fn b4s ↑7 ↑4
 ·walk_at "len"
 ·obtain⟨A,n,c,os,bk,gs,ts,ps,Gq,Tq,tl,lt,t,rfl,hL,he,t0,t1,hb,hps,k⟩:=h
  refine⟨_,(d5 (i8 (a3b (K:=K) ↑6 (a7 (a1e ↑6 T.k_Board G_Board_read hr ↑3 f9 (a7 (g9 G_thing_cell hr ↑3 rfl f9 (a7 (i9 (k:=4) (pv 0) hr ↑3 f9) b7)) b7)) b7)))
   (d5 (a0q (k7 c7p ↑6 g3 (m9 _))
     (
     d5 (j1 (K:=K) (pv 0) (g9 G_onward hr ↑3 rfl f9 (a7 (v5 (K:=K) ↑6) (a7 ↑6 (a7 g3 b7)))))
     (d8 (g4 g7)))
     r0)
   (d5 (i8 (i9 (k:=1) (pv 0) hr ↑3 f9))
   (d8 (g4 g7))))),?_⟩
  have h20:2000<=sizeLine:=by decide
  obtain⟨dxt,et⟩:=hL.tk;fail "d";have p0:=Int.emod_nonneg t (show(n:Int)≠0 by lia)
  have p1:=Int.emod_lt_of_pos t (show(0:Int)<n by lia)
  have epa:=hL.pa;fail "f";refine⟨A.tk,cl.Taker,dxt,_,_,_,rfl,et,rfl,T.k_Taker,TP,?_⟩;fail "";refine⟨A,n,c,os,bk,gs,ts,ps,Gq,Tq,tl,lt,false,A.tk,t,rfl,.inr ⟨rfl,rfl⟩,hL,he,t0,t1,?_⟩;fail "";fail "j";obtain⟨z1,z2⟩:=hL.wasRead ht kp ett hB' hLast.1 (4*(t % (n:Int)).toNat+3) ↑5 ↑5;rw[show(4*(t % (n:Int))+3).toNat=4*(t % (n:Int)).toNat+3 by lia,a0d c ↑5]
  fail "";refine d7o z1.pa (by rw[List.length_map];lia) ?_
  rw[show(ps.map V.int++[V.int (c (4*(t % (n:Int)).toNat+3))])=(ps++[c (4*(t % (n:Int)).toNat+3)]).map V.int by rw[List.map_append];rfl]
  have z3:=z1.setPa (qs:=ps++[c (4*(t % (n:Int)).toNat+3)]);have k3:KpA A H _:=z2.trans (KpA.upd (A:=A) (j:=7) (o:=.lst ((ps++[c (4*(t % (n:Int)).toNat+3)]).map V.int)) ↑5);have pf:∀p,upd H' A.pa (.lst ((ps++[c (4*(t % (n:Int)).toNat+3)]).map V.int)) p=none->H p=none:=λp hp=>by
   cases e:H p with
   | none=>rfl
   | some o=>
    exfalso
    by_cases off:∀j,j<8->p≠A.o j
    ·have:=k3 p o e off
     rw[hp] at this;cases this
    ·apply off
     intro j hj q;obtain⟨u,hu⟩:=z3.has j hj;rw[<- q,hp] at hu;cases hu
  revert z3 k3 pf
  generalize upd H' A.pa (.lst ((ps++[c (4*(t % (n:Int)).toNat+3)]).map V.int))=H3;intro z3 k3 pf;obtain⟨dxt3,et3⟩:=z3.tk;obtain⟨many3,last3,hB3,hLast3⟩:=z3.brd;obtain⟨⟨dxb3,eb3⟩,el3,hlen3,_,_⟩:=id hB3;fail "";refine a6b (λy=>?_) (λy=>?_)
  ·rw[if_pos y] at k
   fail "";rw[he];refine⟨n,t,_,rfl,z9 ↑5 ↑5 t0 t1 ?_⟩;fail "";exact k _ (z3.setT (dx:=dxt3) (T':={ Tq with he:=.int ((t+1) % (2*(n:Int))) })) (k3.trans (KpA.upd (j:=3) (by lia)))
  ·rw[if_neg y] at k
   fail "f";refine⟨A.tk,cl.Taker,dxt3,_,_,_,rfl,et3,rfl,T.k_Taker,G_book_order,?_⟩;fail "";refine⟨A,n,c,os,bk,gs,ts,_,Gq,Tq,tl,_,rfl,z3,hb,λp H4 hp z4 k4=>?_⟩;fail "";exact k p H4 (pf p hp) z4 (k3.trans k4)
abbrev Ad.setMg(A:Ad)(p:Addr):Ad:={ A with mg:=p }
abbrev Ad.setMt(A:Ad)(p:Addr):Ad:={ A with mt:=p }
theorem LH.setMg{cl:Cl}{H:Hp}{A:Ad}{n:Nat}{c:Pr.Cells}{os bk:List (List Int)}{gs ts ps:List Int}{Gq:Gm}{Tq:Tm}{tl:List Tr}{lt:Lt}{p dx:Addr}{xs:List Int}{G':Gm}(h:LH cl H A n c os bk gs ts ps Gq Tq tl lt)(ep:H p=some (.lst (xs.map V.int)))(off:∀j,j<8->p≠A.o j)(pf:¬ A.fo p):LH cl (upd H A.gv (gvO cl dx (A.setMg p) G')) (A.setMg p) n c os bk xs ts ps G' Tq tl lt:=by
 have ne:∀i,i<8->i≠2->A.o i≠A.gv:=λi h8 h2=>h.nd i 2 h8 ↑5 h2;obtain⟨m,l,hB,hL⟩:=h.brd;refine⟨⟨m,l,hB.keep (ps:=[A.gv]) (Kp.upd (by simp)) (by simpa using ne 0 ↑5 ↑5) (by simpa using ne 1 ↑5 ↑5),hL.kpa (KpA.upd (j:=2) ↑5)⟩,⟨dx,b8⟩,?_,?_,?_,h.kept.set (j:=2) ↑5 rfl (ne 5 ↑5 ↑5),h.book.set (j:=2) ↑5 rfl (ne 6 ↑5 ↑5),?_,?_,h.nd,λi hi=>⟨off i hi,(h.om i hi).2⟩,λx hx=>?_⟩
 ·obtain⟨d,z⟩:=h.tk;exact⟨d,by rw[d6 (ne 3 ↑5 ↑5)];exact z⟩
 ·rw[d6 (off 2 ↑5)];exact ep
 ·rw[d6 (h.om 2 ↑5).2];exact h.mt
 ·rw[d6 (ne 7 ↑5 ↑5)];exact h.pa
 ·exact h.tr.gen (A':=A.setMg p) (λo z=>by rw[d6 (ne 4 ↑5 ↑5)];exact z) λq o e n1 f=>⟨n1,f,by rw[d6 (n1 2 ↑5)];exact e⟩
 ·obtain⟨a,b,c1,d,e⟩:=h.fo.updO (u:=gvO cl dx (A.setMg p) G') h.nd 2 ↑5 ↑5 ↑5 ↑5 x hx
  exact⟨a,b,(λz=>pf (by have z2:x=p:=z;rw[<- z2];exact hx)),d,e⟩
theorem LH.setMt{cl:Cl}{H:Hp}{A:Ad}{n:Nat}{c:Pr.Cells}{os bk:List (List Int)}{gs ts ps:List Int}{Gq:Gm}{Tq:Tm}{tl:List Tr}{lt:Lt}{p dx:Addr}{xs:List Int}{T':Tm}(h:LH cl H A n c os bk gs ts ps Gq Tq tl lt)(ep:H p=some (.lst (xs.map V.int)))(off:∀j,j<8->p≠A.o j)(pf:¬ A.fo p):LH cl (upd H A.tk (tkO cl dx (A.setMt p) T')) (A.setMt p) n c os bk gs xs ps Gq T' tl lt:=by
 have ne:∀i,i<8->i≠3->A.o i≠A.tk:=λi h8 h2=>h.nd i 3 h8 ↑5 h2;obtain⟨m,l,hB,hL⟩:=h.brd;refine⟨⟨m,l,hB.keep (ps:=[A.tk]) (Kp.upd (by simp)) (by simpa using ne 0 ↑5 ↑5) (by simpa using ne 1 ↑5 ↑5),hL.kpa (KpA.upd (j:=3) ↑5)⟩,?_,⟨dx,b8⟩,?_,?_,h.kept.set (j:=3) ↑5 rfl (ne 5 ↑5 ↑5),h.book.set (j:=3) ↑5 rfl (ne 6 ↑5 ↑5),?_,?_,h.nd,λi hi=>⟨(h.om i hi).1,off i hi⟩,λx hx=>?_⟩
 ·obtain⟨d,z⟩:=h.gv;exact⟨d,by rw[d6 (ne 2 ↑5 ↑5)];exact z⟩
 ·rw[d6 (h.om 3 ↑5).1];exact h.mg
 ·rw[d6 (off 3 ↑5)];exact ep
 ·rw[d6 (ne 7 ↑5 ↑5)];exact h.pa
 ·exact h.tr.gen (A':=A.setMt p) (λo z=>by rw[d6 (ne 4 ↑5 ↑5)];exact z) λq o e n1 f=>⟨n1,f,by rw[d6 (n1 3 ↑5)];exact e⟩
 ·obtain⟨a,b,c1,d,e⟩:=h.fo.updO (u:=tkO cl dx (A.setMt p) T') h.nd 3 ↑5 ↑5 ↑5 ↑5 x hx
  exact⟨a,b,c1,(λz=>pf (by have z2:x=p:=z;rw[<- z2];exact hx)),e⟩
theorem LH.fresh{cl:Cl}{H:Hp}{A:Ad}{n:Nat}{c:Pr.Cells}{os bk:List (List Int)}{gs ts ps:List Int}{Gq:Gm}{Tq:Tm}{tl:List Tr}{lt:Lt}{H':Hp}(h:LH cl H' A n c os bk gs ts ps Gq Tq tl lt)(k:KpA A H H'){p:Addr}(hp:H' p=none):H p=none:=by
 cases e:H p with
 | none=>rfl
 | some o=>
  exfalso
  by_cases off:∀j,j<8->p≠A.o j
  ·have:=k p o e off
   rw[hp] at this;cases this
  ·apply off
   intro j hj q;obtain⟨u,hu⟩:=h.has j hj;rw[<- q,hp] at hu;cases hu
def a6z(cl:Cl):Sp:=λvs H Q _=>(ExL λA n c os bk gs ts ps Gq Tq tl lt=>vs=[.ref A.gv]/\LH cl H A n c os bk gs ts ps Gq Tq tl lt/\gs.length<n/\(if gs.length+1<n then ∀p H',H p=none->LH cl H' (A.setMg p) n c os bk (gs++[c (4*gs.length)]) ts ps Gq Tq tl (lt.rd (4*gs.length) (c (4*gs.length)))->KpA A H H'->Q (.str "marks") H' else ∃f:Nat,a2l (gs++[c (4*gs.length)])=true/\a5p (toB ((gs++[c (4*gs.length)]).map d6y))=some f/\∀p H',H p=none->LH cl H' (A.setMg p) n c os bk [] ts ps { Gq with he:=.int (f:Nat) } Tq tl (lt.rd (4*gs.length) (c (4*gs.length)))->KpA A H H'->Q (.str "told") H')) \/
 (ExL λA n c os bk gs ts ps Gq Tq tl lt=>vs=[.ref A.tk]/\LH cl H A n c os bk gs ts ps Gq Tq tl lt/\ts.length<n/\(if ts.length+1<n then ∀p H',H p=none->LH cl H' (A.setMt p) n c os bk gs (ts++[c (4*ts.length)]) ps Gq Tq tl (lt.rd (4*ts.length) (c (4*ts.length)))->KpA A H H'->Q (.str "marks") H' else ∃f:Nat,a2l (ts++[c (4*ts.length)])=true/\a5p (toB ((ts++[c (4*ts.length)]).map tbI))=some f/\∀p H',H p=none->LH cl H' (A.setMt p) n c os bk gs [] ps Gq { Tq with he:=.int (f:Nat),nf:=.int (f:Nat) } tl (lt.rd (4*ts.length) (c (4*ts.length)))->KpA A H H'->Q (.str "look") H'))
abbrev b5c:Stmt:=top 70
theorem b7i:d9 ["hand","marks"] ["hand"] (d7 b5c):=↑1
theorem c7w(D:DefT K mg "at_marks" b5c ["hand"])(T:Txt K mg cl)(G_Board_read:MethT P w K mg base cl.Board "read" 2 ["self","cell"] (u0 cl))(G_mark_cell:FnT P w K mg base "mark_cell" 1 ["place"] (v2 0))(GK:MethT P w K mg base cl.Giver "know_turn" 6 ["self","marks"] (a5g K cl))(TK:MethT P w K mg base cl.Taker "know_turn" 6 ["self","marks"] (a5c K cl)):FnT P w K mg base "at_marks" 7 ["hand"] (a6z cl):=by
 refine D.fn b7i ↑7 ↑4
 ·rcases h with ⟨A,n,c,os,bk,gs,ts,ps,Gq,Tq,tl,lt,rfl,_⟩|⟨A,n,c,os,bk,gs,ts,ps,Gq,Tq,tl,lt,rfl,_⟩ <;> rfl
 ·have h20:2000<=sizeLine:=by decide
  refine⟨_,(d5 (j9 (i:=1) b7i.nd rfl (.inl rfl) (m6 c9k ↑6 (o8 (a7 (a1e ↑6 T.k_Board G_Board_read hr ↑3 f9 (a7 (g9 G_mark_cell hr ↑3 rfl f9 (a7 (l7 (n5 (K:=K)) (by rfl) T.z_len PySem.boot_len (a7 ↑6 b7)) b7)) b7)) b7))))
   (d5 (a0q (k7 c1y (l7 (n5 (K:=K)) (by rfl) T.z_len PySem.boot_len (a7 (pv 1) b7)) (v5 (K:=K) ↑6) (m9 _))
     (
     d5 (j1 (K:=K) (pv 0) (pv 1))
     (d8 (g4 g7)))
     r0)
   (d5 (i8 (c4u (k:=6) (pv 0) hr ↑3 f9 (a7 (pv 1) b7)))
   (d5 (j1 (K:=K) (pv 0) (o8 b7))
   (d8 (g4 ↑6)))))),?_⟩
  rcases h with h|h
  ·obtain⟨A,n,c,os,bk,gs,ts,ps,Gq,Tq,tl,lt,rfl,hL,hs,k⟩:=h
   obtain⟨dxg,eg⟩:=hL.gv;obtain⟨dxt,et⟩:=hL.tk;fail "d";have em:=hL.mg;fail "";rw[List.length_map];fail "j";obtain⟨z1,z2⟩:=hL.wasRead ht kp ett hB' hLast.1 (4*gs.length) ↑5 ↑5;rw[show(4*(gs.length:Int)+0).toNat=4*gs.length by lia,a0d c ↑5]
   fail "";refine⟨l8,λq1 hq1=>?_⟩;refine d4k (f8 hq1 _ _ z1.mg) b8 (by rw[List.length_map];show gs.length+1<=sizeLine;lia) (λp hp=>?_)
   rw[show(gs.map V.int++[V.int (c (4*gs.length))])=(gs++[c (4*gs.length)]).map V.int by rw[List.map_append];rfl]
   have z3:=(z1.same (f8 (o:=.lst [.int (c (4*gs.length))]) hq1)).same (f8 (o:=.lst ((gs++[c (4*gs.length)]).map V.int)) hp);have k3:KpA A H _:=(z2.trans (KpA.of (f8 (o:=.lst [.int (c (4*gs.length))]) hq1))).trans (KpA.of (f8 (o:=.lst ((gs++[c (4*gs.length)]).map V.int)) hp));have hp0:H p=none:=z1.fresh z2 ((f8 hq1).free hp);have ep:upd (upd H' q1 (.lst [.int (c (4*gs.length))])) p (.lst ((gs++[c (4*gs.length)]).map V.int)) p=_:=b8;have offp:=hL.off hp0
   revert z3 k3 ep
   generalize upd (upd H' q1 (.lst [.int (c (4*gs.length))])) p (.lst ((gs++[c (4*gs.length)]).map V.int))=H3;intro z3 k3 ep;obtain⟨dxg3,eg3⟩:=z3.gv;obtain⟨dxt3,et3⟩:=z3.tk;obtain⟨many3,last3,hB3,hLast3⟩:=z3.brd;obtain⟨⟨dxb3,eb3⟩,el3,hlen3,_,_⟩:=id hB3;fail "";rw[List.length_map,List.length_append,show([c (4*gs.length)]:List Int).length=1 from rfl];refine a6b (λy=>?_) (λy=>?_)
   ·rw[if_pos ↑5] at k
    fail "";exact k p _ hp0 (z3.setMg (dx:=dxg3) (G':=Gq) ep offp (hL.nfo hp0)) (k3.trans (KpA.upd (j:=2) ↑5))
   ·rw[if_neg ↑5] at k
    obtain⟨f,mo,fr,k⟩:=k;fail "f";refine⟨A.gv,cl.Giver,dxg3,_,_,_,rfl,eg3,rfl,T.k_Giver,GK,?_⟩;fail "";refine⟨A,n,c,os,bk,gs,ts,ps,Gq,Tq,tl,_,0,p,_,f,rfl,z3,ep,by rw[List.length_append];show gs.length+1=n;lia,mo,fr,λH4 z4 k4=>?_⟩
    obtain⟨dxg4,eg4⟩:=z4.gv;obtain⟨dxt4,et4⟩:=z4.tk;fail "";refine⟨Nat.zero_le _,λp5 hp5=>?_⟩;have z5:=z4.same (f8 (o:=.lst []) hp5);have k5:KpA A H _:=(k3.trans k4).trans (KpA.of (f8 (o:=.lst []) hp5));have hp50:H p5=none:=z4.fresh (k3.trans k4) hp5;have z6:=z5.setMg (dx:=dxg4) (xs:=[]) (G':={ Gq with he:=.int (f:Nat) }) b8 (hL.off hp50) (hL.nfo hp50)
    fail "";exact k p5 _ hp50 z6 (k5.trans (KpA.upd (j:=2) ↑5))
  ·obtain⟨A,n,c,os,bk,gs,ts,ps,Gq,Tq,tl,lt,rfl,hL,hs,k⟩:=h
   obtain⟨dxg,eg⟩:=hL.gv;obtain⟨dxt,et⟩:=hL.tk;fail "d";have em:=hL.mt;fail "";rw[List.length_map];fail "j";obtain⟨z1,z2⟩:=hL.wasRead ht kp ett hB' hLast.1 (4*ts.length) ↑5 ↑5;rw[show(4*(ts.length:Int)+0).toNat=4*ts.length by lia,a0d c ↑5]
   fail "";refine⟨l8,λq1 hq1=>?_⟩;refine d4k (f8 hq1 _ _ z1.mt) b8 (by rw[List.length_map];show ts.length+1<=sizeLine;lia) (λp hp=>?_)
   rw[show(ts.map V.int++[V.int (c (4*ts.length))])=(ts++[c (4*ts.length)]).map V.int by rw[List.map_append];rfl]
   have z3:=(z1.same (f8 (o:=.lst [.int (c (4*ts.length))]) hq1)).same (f8 (o:=.lst ((ts++[c (4*ts.length)]).map V.int)) hp);have k3:KpA A H _:=(z2.trans (KpA.of (f8 (o:=.lst [.int (c (4*ts.length))]) hq1))).trans (KpA.of (f8 (o:=.lst ((ts++[c (4*ts.length)]).map V.int)) hp));have hp0:H p=none:=z1.fresh z2 ((f8 hq1).free hp);have ep:upd (upd H' q1 (.lst [.int (c (4*ts.length))])) p (.lst ((ts++[c (4*ts.length)]).map V.int)) p=_:=b8;have offp:=hL.off hp0
   revert z3 k3 ep
   generalize upd (upd H' q1 (.lst [.int (c (4*ts.length))])) p (.lst ((ts++[c (4*ts.length)]).map V.int))=H3;intro z3 k3 ep;obtain⟨dxg3,eg3⟩:=z3.gv;obtain⟨dxt3,et3⟩:=z3.tk;obtain⟨many3,last3,hB3,hLast3⟩:=z3.brd;obtain⟨⟨dxb3,eb3⟩,el3,hlen3,_,_⟩:=id hB3;fail "";rw[List.length_map,List.length_append,show([c (4*ts.length)]:List Int).length=1 from rfl];refine a6b (λy=>?_) (λy=>?_)
   ·rw[if_pos ↑5] at k
    fail "";exact k p _ hp0 (z3.setMt (dx:=dxt3) (T':=Tq) ep offp (hL.nfo hp0)) (k3.trans (KpA.upd (j:=3) ↑5))
   ·rw[if_neg ↑5] at k
    obtain⟨f,mo,fr,k⟩:=k;fail "f";refine⟨A.tk,cl.Taker,dxt3,_,_,_,rfl,et3,rfl,T.k_Taker,TK,?_⟩;fail "";refine⟨A,n,c,os,bk,gs,ts,ps,Gq,Tq,tl,_,0,p,_,f,rfl,z3,ep,by rw[List.length_append];show ts.length+1=n;lia,mo,fr,λH4 z4 k4=>?_⟩
    obtain⟨dxg4,eg4⟩:=z4.gv;obtain⟨dxt4,et4⟩:=z4.tk;fail "";refine⟨Nat.zero_le _,λp5 hp5=>?_⟩;have z5:=z4.same (f8 (o:=.lst []) hp5);have k5:KpA A H _:=(k3.trans k4).trans (KpA.of (f8 (o:=.lst []) hp5));have hp50:H p5=none:=z4.fresh (k3.trans k4) hp5;have z6:=z5.setMt (dx:=dxt4) (xs:=[]) (T':={ Tq with he:=.int (f:Nat),nf:=.int (f:Nat) }) b8 (hL.off hp50) (hL.nfo hp50)
    fail "";exact k p5 _ hp50 z6 (k5.trans (KpA.upd (j:=3) ↑5))
def b0d(cl:Cl):Sp:=λvs H Q _=>(ExL λA n c os bk gs ts ps Gq Tq tl lt=>∃(t:Int),vs=[.ref A.gv]/\LH cl H A n c os bk gs ts ps Gq Tq tl lt/\Gq.he=.int t/\0<=t/\t<2*(n:Int)/\(b0v os Gq.nu Gq.le/\0<=a1z Gq.nu Gq.le/\a1z Gq.nu Gq.le<os.length)/\(if c (4*n+1)=t then ∀H',LH cl H' A n c os bk gs ts ps Gq Tq tl (lt.rd (4*n+1) (c (4*n+1)))->KpA A H H'->Q (.str "ring") H' else ∀H',LH cl H' A n c os bk gs ts ps { Gq with he:=.int ((t+1) % (2*(n:Int))),nu:=a1z Gq.nu Gq.le,le:=a7x os Gq.nu Gq.le } Tq tl (lt.rd (4*n+1) (c (4*n+1)))->KpA A H H'->Q (.str "look") H')) \/
 (ExL λA n c os bk gs ts ps Gq Tq tl lt=>∃(t f:Int),vs=[.ref A.tk]/\LH cl H A n c os bk gs ts ps Gq Tq tl lt/\Tq.he=.int t/\Tq.nf=.int f/\0<=f/\f<2*(n:Int)/\(if c (4*n+0)=(f+(n:Int)) % (2*(n:Int)) then ∀H',LH cl H' A n c os bk gs ts ps Gq Tq tl (lt.rd (4*n+0) (c (4*n+0)))->KpA A H H'->Q (.str "ring") H' else ∀H',(if f=t then LH cl H' A n c os bk gs ts ps Gq { Tq with he:=.int ((f+1) % (2*(n:Int))),nf:=.int ((f+1) % (2*(n:Int))) } tl (lt.rd (4*n+0) (c (4*n+0))) else LH cl H' A n c os bk gs ts ps Gq { Tq with nf:=.int ((f+1) % (2*(n:Int))) } tl (lt.rd (4*n+0) (c (4*n+0))))->KpA A H H'->Q (.str (if f=t then "look" else "free")) H'))
abbrev b7y:Stmt:=top 77
theorem c0d:d9 ["hand","card"] ["hand"] (d7 b7y):=↑1
theorem d1l(D:DefT K mg "at_card" b7y ["hand"])(T:Txt K mg cl)(G_Board_read:MethT P w K mg base cl.Board "read" 2 ["self","cell"] (u0 cl))(G_card_cell:FnT P w K mg base "card_cell" 2 ["size","hand"] (a5a cl))(GS:MethT P w K mg base cl.Giver "turn_served" 4 ["self"] (a0y cl))(TS:MethT P w K mg base cl.Taker "turn_served" 4 ["self"] (a0x cl))(GG:MethT P w K mg base cl.Giver "go_on" 4 ["self"] (a5t cl))(TG:MethT P w K mg base cl.Taker "go_on" 4 ["self"] (a5s cl)):FnT P w K mg base "at_card" 5 ["hand"] (b0d cl):=by
 refine D.fn c0d ↑7 ↑4
 ·rcases h with ⟨A,n,c,os,bk,gs,ts,ps,Gq,Tq,tl,lt,t,rfl,_⟩|⟨A,n,c,os,bk,gs,ts,ps,Gq,Tq,tl,lt,t,f,rfl,_⟩ <;> rfl
 ·skip
  refine⟨_,(d5 (j9 (i:=1) c0d.nd rfl (.inl rfl) (a1e ↑6 T.k_Board G_Board_read hr ↑3 f9 (a7 (g9 G_card_cell hr ↑3 rfl f9 (a7 (v5 (K:=K) ↑6) (a7 ↑6 b7))) b7)))
   (d8 (g4 (a5m (k7 a6a (pv 1) (i9 (k:=4) (pv 0) hr ↑3 f9) (m9 _)) g7 (i9 (k:=4) (pv 0) hr ↑3 f9))))),?_⟩
  rcases h with h|h
  ·obtain⟨A,n,c,os,bk,gs,ts,ps,Gq,Tq,tl,lt,t,rfl,hL,he,t0,t1,kn,k⟩:=h
   obtain⟨dxg,eg⟩:=hL.gv;obtain⟨dxt,et⟩:=hL.tk;fail "d";fail "";refine⟨n,_,rfl,a9r n2 n8 (by first|exact .inl rfl|exact .inr rfl) ?_⟩
   fail "";rw[hI1];refine⟨A.bd,A.l,n,_,many,last,_,rfl,hB,?_⟩;rw[if_pos ⟨by lia,by rw[hlen];lia⟩]
   intro tt H' ht kp ett hB';obtain⟨z1,z2⟩:=hL.wasRead ht kp ett hB' hLast.1 (4*n+1) ↑5 ↑5;obtain⟨dxg1,eg1⟩:=z1.gv;obtain⟨dxt1,et1⟩:=z1.tk;rw[show(4*(n:Int)+1).toNat=4*n+1 by lia,a0d c ↑5]
   fail "f";refine⟨A.gv,cl.Giver,dxg1,_,_,_,rfl,eg1,rfl,T.k_Giver,GS,?_⟩;fail "";refine⟨A,n,c,os,bk,gs,ts,ps,Gq,Tq,tl,_,t,rfl,z1,he,t0,t1,?_⟩;fail "";rw[show decide (V.int (c (4*n+1))=V.int t)=decide (c (4*n+1)=t) by simp]
   refine a6b (λy=>?_) (λy=>?_)
   ·rw[if_pos y] at k;fail "";exact k H' z1 z2
   ·rw[if_neg y] at k
    fail "f";refine⟨A.gv,cl.Giver,dxg1,_,_,_,rfl,eg1,rfl,T.k_Giver,GG,?_⟩;fail "";exact⟨A,n,c,os,bk,gs,ts,ps,Gq,Tq,tl,_,t,rfl,z1,he,t0,t1,kn,λH2 z3 k3=>k H2 z3 (z2.trans k3)⟩
  ·obtain⟨A,n,c,os,bk,gs,ts,ps,Gq,Tq,tl,lt,t,f,rfl,hL,he,hf,t0,t1,k⟩:=h
   obtain⟨dxg,eg⟩:=hL.gv;obtain⟨dxt,et⟩:=hL.tk;fail "d";fail "";refine⟨n,_,rfl,a9r n2 n8 (by first|exact .inl rfl|exact .inr rfl) ?_⟩
   fail "";rw[hI0];refine⟨A.bd,A.l,n,_,many,last,_,rfl,hB,?_⟩;rw[if_pos ⟨by lia,by rw[hlen];lia⟩]
   intro tt H' ht kp ett hB';obtain⟨z1,z2⟩:=hL.wasRead ht kp ett hB' hLast.1 (4*n+0) ↑5 ↑5;obtain⟨dxg1,eg1⟩:=z1.gv;obtain⟨dxt1,et1⟩:=z1.tk;rw[show(4*(n:Int)+0).toNat=4*n+0 by lia,a0d c ↑5]
   fail "f";refine⟨A.tk,cl.Taker,dxt1,_,_,_,rfl,et1,rfl,T.k_Taker,TS,?_⟩;fail "";refine⟨A,n,c,os,bk,gs,ts,ps,Gq,Tq,tl,_,f,rfl,z1,hf,t0,t1,?_⟩;fail "";rw[show decide (V.int (c (4*n+0))=V.int ((f+(n:Int)) % (2*(n:Int))))=decide (c (4*n+0)=(f+(n:Int)) % (2*(n:Int))) by simp]
   refine a6b (λy=>?_) (λy=>?_)
   ·rw[if_pos y] at k;fail "";exact k H' z1 z2
   ·rw[if_neg y] at k
    fail "f";refine⟨A.tk,cl.Taker,dxt1,_,_,_,rfl,et1,rfl,T.k_Taker,TG,?_⟩;fail "";exact⟨A,n,c,os,bk,gs,ts,ps,Gq,Tq,tl,_,t,f,rfl,z1,he,hf,t0,t1,λH2 z3 k3=>k H2 z3 (z2.trans k3)⟩
def a9z(cl:Cl):Sp:=λvs H Q _=>(ExL λA n c os bk gs ts ps Gq Tq tl lt=>∃(t:Int),vs=[.ref A.gv]/\LH cl H A n c os bk gs ts ps Gq Tq tl lt/\Gq.he=.int t/\0<=t/\t<2*(n:Int)/\(b0v os Gq.nu Gq.le/\0<=a1z Gq.nu Gq.le/\a1z Gq.nu Gq.le<os.length)/\∀H',LH cl H' A n (Pr.put c (4*n+b4h true) 1) os bk gs ts ps { Gq with he:=.int ((t+1) % (2*(n:Int))),nu:=a1z Gq.nu Gq.le,le:=a7x os Gq.nu Gq.le } Tq tl (lt.wr (4*n+b4h true) 1)->KpA A H H'->Q (.str "look") H') \/
 (ExL λA n c os bk gs ts ps Gq Tq tl lt=>∃(t f:Int),vs=[.ref A.tk]/\LH cl H A n c os bk gs ts ps Gq Tq tl lt/\Tq.he=.int t/\Tq.nf=.int f/\0<=f/\f<2*(n:Int)/\∀H',(if f=t then LH cl H' A n (Pr.put c (4*n+b4h false) 1) os bk gs ts ps Gq { Tq with he:=.int ((f+1) % (2*(n:Int))),nf:=.int ((f+1) % (2*(n:Int))) } tl (lt.wr (4*n+b4h false) 1) else LH cl H' A n (Pr.put c (4*n+b4h false) 1) os bk gs ts ps Gq { Tq with nf:=.int ((f+1) % (2*(n:Int))) } tl (lt.wr (4*n+b4h false) 1))->KpA A H H'->Q (.str (if f=t then "look" else "free")) H')
abbrev b7s:Stmt:=top 78
theorem d0o:d9 ["hand"] ["hand"] (d7 b7s):=↑1
theorem d1f(D:DefT K mg "at_ring" b7s ["hand"])(T:Txt K mg cl)(G_ring_other:FnT P w K mg base "ring_other" 4 ["hand"] (a6v cl))(GS:MethT P w K mg base cl.Giver "turn_served" 4 ["self"] (a0y cl))(TS:MethT P w K mg base cl.Taker "turn_served" 4 ["self"] (a0x cl))(GG:MethT P w K mg base cl.Giver "go_on" 4 ["self"] (a5t cl))(TG:MethT P w K mg base cl.Taker "go_on" 4 ["self"] (a5s cl)):FnT P w K mg base "at_ring" 5 ["hand"] (a9z cl):=by
 refine D.fn d0o ↑7 ↑4
 ·rcases h with ⟨A,n,c,os,bk,gs,ts,ps,Gq,Tq,tl,lt,t,rfl,_⟩|⟨A,n,c,os,bk,gs,ts,ps,Gq,Tq,tl,lt,t,f,rfl,_⟩ <;> rfl
 ·skip
  refine⟨_,(d5 (i8 (g9 G_ring_other hr ↑3 rfl f9 (a7 (pv 0) b7)))
   (d8 (g4 (i9 (k:=4) (pv 0) hr ↑3 f9)))),?_⟩
  rcases h with h|h
  ·obtain⟨A,n,c,os,bk,gs,ts,ps,Gq,Tq,tl,lt,t,rfl,hL,he,t0,t1,kn,k⟩:=h
   fail "";refine⟨A,n,c,os,bk,gs,ts,ps,Gq,Tq,tl,lt,true,A.gv,rfl,.inl ⟨rfl,rfl⟩,hL,λH' z1 z2=>?_⟩;obtain⟨dxg1,eg1⟩:=z1.gv;fail "f";refine⟨A.gv,cl.Giver,dxg1,_,_,_,rfl,eg1,rfl,T.k_Giver,GG,?_⟩;fail "";exact⟨A,n,_,os,bk,gs,ts,ps,Gq,Tq,tl,_,t,rfl,z1,he,t0,t1,kn,λH2 z3 k3=>k H2 z3 (z2.trans k3)⟩
  ·obtain⟨A,n,c,os,bk,gs,ts,ps,Gq,Tq,tl,lt,t,f,rfl,hL,he,hf,t0,t1,k⟩:=h
   fail "";refine⟨A,n,c,os,bk,gs,ts,ps,Gq,Tq,tl,lt,false,A.tk,rfl,.inr ⟨rfl,rfl⟩,hL,λH' z1 z2=>?_⟩;obtain⟨dxt1,et1⟩:=z1.tk;fail "f";refine⟨A.tk,cl.Taker,dxt1,_,_,_,rfl,et1,rfl,T.k_Taker,TG,?_⟩;fail "";exact⟨A,n,_,os,bk,gs,ts,ps,Gq,Tq,tl,_,t,f,rfl,z1,he,hf,t0,t1,λH2 z3 k3=>k H2 z3 (z2.trans k3)⟩
end
section
open PySem L2 Pr
section
variable{P:Program}{w:World}{K:Frag}{mg:Str->Option Value}{base:Heap}{cl:Cl}
def b0l:Stg->Str
 | .rouse=>"rouse"|.clear=>"clear"|.mute=>"mute"|.marks=>"marks"|.told=>"told"|.lacks=>"lacks"|.look=>"look"|.wish=>"wish"|.again=>"again"|.sleep=>"sleep"|.hush=>"hush"|.unwish=>"unwish"
 | .number=>"number"|.left=>"left"|.thing=>"thing"|.mark=>"mark"|.card=>"card"|.ring=>"ring"|.free=>"free"
def gTx(x:Stg)(L:Ln):Tc :=
 match x with
 | .rouse=>⟨true,4*L.n+3,1⟩
 | .clear=>⟨true,4*L.n,-1⟩
 | .mute=>⟨true,4*L.n+2,0⟩
 | .marks=>⟨false,4*L.gseen.length,L.c (4*L.gseen.length)⟩
 | .told=>⟨false,4*((L.g+2*L.n-1) % L.n)+1,L.c (4*((L.g+2*L.n-1) % L.n)+1)⟩
 | .lacks=>⟨false,4*((L.g+2*L.n-1) % L.n)+2,L.c (4*((L.g+2*L.n-1) % L.n)+2)⟩
 | .look=>⟨false,4*(L.g % L.n),L.c (4*(L.g % L.n))⟩
 | .wish=>⟨true,4*L.n,((L.g % (2*L.n):Nat):Int)⟩
 | .again=>⟨false,4*(L.g % L.n),L.c (4*(L.g % L.n))⟩
 | .sleep=>⟨false,4*L.n+2,L.c (4*L.n+2)⟩
 | .hush=>⟨true,4*L.n+2,0⟩
 | .unwish=>⟨true,4*L.n,-1⟩
 | .number=>⟨true,4*(L.g % L.n)+1,(l9 L.os L.g:Int)⟩
 | .left=>⟨true,4*(L.g % L.n)+2,(n9 L.os L.g:Int)⟩
 | .thing=>⟨true,4*(L.g % L.n)+3,a0a L.os L.g⟩
 | .mark=>⟨true,4*(L.g % L.n),2*(lap L.n L.g:Int)+1⟩
 | .card=>⟨false,4*L.n+1,L.c (4*L.n+1)⟩
 | .ring=>⟨true,4*L.n+3,1⟩
 | .free=>⟨false,0,0⟩
def gT(L:Ln):Tc:=gTx L.gs L
def tTx(x:Stg)(L:Ln):Tc :=
 match x with
 | .rouse=>⟨true,4*L.n+2,1⟩
 | .clear=>⟨true,4*L.n+1,-1⟩
 | .mute=>⟨true,4*L.n+3,0⟩
 | .marks=>⟨false,4*L.tseen.length,L.c (4*L.tseen.length)⟩
 | .look=>⟨false,4*(L.t % L.n),L.c (4*(L.t % L.n))⟩
 | .wish=>⟨true,4*L.n+1,((L.t % (2*L.n):Nat):Int)⟩
 | .again=>⟨false,4*(L.t % L.n),L.c (4*(L.t % L.n))⟩
 | .sleep=>⟨false,4*L.n+3,L.c (4*L.n+3)⟩
 | .hush=>⟨true,4*L.n+3,0⟩
 | .unwish=>⟨true,4*L.n+1,-1⟩
 | .number=>⟨false,4*(L.t % L.n)+1,L.c (4*(L.t % L.n)+1)⟩
 | .left=>⟨false,4*(L.t % L.n)+2,L.c (4*(L.t % L.n)+2)⟩
 | .thing=>⟨false,4*(L.t % L.n)+3,L.c (4*(L.t % L.n)+3)⟩
 | .free=>⟨true,4*(L.f % L.n),2*(lap L.n L.f:Int)⟩
 | .card=>⟨false,4*L.n,L.c (4*L.n)⟩
 | .ring=>⟨true,4*L.n+2,1⟩
 | .told|.lacks|.mark=>⟨false,0,0⟩
def tT(L:Ln):Tc:=tTx L.ts L
def Stg.come:Stg->Bool
 | .rouse|.clear|.mute|.marks=>true
 | _=>false
def v3(os:List (List Int)):Nat->Int
 | 0=>-1
 | i+1=>(l9 os i:Int)
def v9(os:List (List Int)):Nat->Int
 | 0=>0
 | i+1=>(n9 os i:Int)
def gi(L:Ln):Nat:=if L.gs.frees then L.g-1 else L.g
structure GRel(L:Ln)(G:Gm):Prop where
 st:G.st=b0l L.gs
 he:Stg.come L.gs=false->G.he=.int ((gi L % (2*L.n):Nat):Int)
 nu:Stg.come L.gs=false->L.gs≠.told->G.nu=v3 L.os (gi L)
 le:Stg.come L.gs=false->L.gs≠.told->L.gs≠.lacks->G.le=v9 L.os (gi L)
structure TRel(L:Ln)(T:Tm)(ps:List Int):Prop where
 st:T.st=b0l L.ts
 he:Stg.come L.ts=false->T.he=.int ((L.t % (2*L.n):Nat):Int)
 nf:Stg.come L.ts=false->T.nf=.int (((if L.ts.frees then L.f-1 else L.f) % (2*L.n):Nat):Int)
 nu:L.ts=.left\/L.ts=.thing->T.nu=(l9 L.os L.t:Int)
 le:L.ts=.thing->T.le=(n9 L.os L.t:Int)
 pa:ps=if Stg.come L.ts=true\/L.ts=.free\/L.ts.frees=true then [] else a0m L.os L.f (L.t-L.f)
theorem a3p{os:List (List Int)}{i:Nat}:a7v (v3 os i) (v9 os i)=true ↔ i=0 \/ ∃j,i=j+1/\n9 os j=0:=by
 unfold a7v;cases i with
 | zero=>simp[v3]
 | succ j=>
  have e1:v3 os (j+1)=(l9 os j:Int):=rfl;have e2:v9 os (j+1)=(n9 os j:Int):=rfl;rw[e1,e2,Bool.or_eq_true,decide_eq_true_eq,decide_eq_true_eq];constructor
  ·intro h
   rcases h with h|h
   ·exact absurd h ↑5
   ·exact .inr ⟨j,rfl,by lia⟩
  ·intro h
   rcases h with h|⟨j',h,z⟩
   ·exact absurd h ↑5
   ·have:j'=j:=by lia
    subst this;exact .inr ↑5
theorem b0f{n:Nat}{os:List (List Int)}{i:Nat}(hi:i<=tot os):b0v os (v3 os i) (v9 os i):=by
 by_cases z:a7v (v3 os i) (v9 os i)=true
 ·exact .inl z
 ·right
  cases i with
  | zero=>exact absurd (a3p.mpr (.inl rfl)) z
  | succ j=>
   have:=a7u (os:=os) (i:=j) ↑5;show 0<=(l9 os j:Int)/\(l9 os j:Int)<_;lia
theorem a4z{n:Nat}{os:List (List Int)}{i:Nat}(gd:Good n os)(hi:i<tot os):a1z (v3 os i) (v9 os i)=(l9 os i:Int):=by
 unfold a1z;cases i with
 | zero=>
  rw[a3p.mpr (.inl rfl),d3m gd hi]
  rfl
 | succ j=>
  by_cases z:n9 os j=0
  ·rw[a3p.mpr (.inr ⟨j,rfl,z⟩)]
   rw[(next_order gd hi z).1];show(l9 os j:Int)+1=_;lia
  ·have b:a7v (v3 os (j+1)) (v9 os (j+1))=false:=by
    cases e:a7v (v3 os (j+1)) (v9 os (j+1)) with
    | false=>rfl
    | true=>
     rcases a3p.mp e with y|⟨j',y,q⟩
     ·lia
     ·have:j'=j:=by lia
      subst this;exact absurd q z
   rw[b];rw[(next_part (os:=os) (i:=j) ↑5 ↑5).2.1]
   rfl
theorem d6t{n:Nat}{os:List (List Int)}(gd:Good n os):a1z (v3 os (tot os)) (v9 os (tot os))=(os.length:Int):=by
 unfold a1z;cases e:tot os with
 | zero=>
  have:os=[]:=by
   cases os with
   | nil=>rfl
   | cons o os=>rw[a9v] at e;have:=gd.head;lia
  subst this
  rfl
 | succ j=>
  have nl:=a7u (os:=os) (i:=j) ↑5;obtain⟨a,b⟩:=a2m (n:=0) (os:=os) (i:=j) ↑5;have c:=b0k os (l9 os j+1);have l0:n9 os j=0:=by lia
  rw[a3p.mpr (.inr ⟨j,rfl,l0⟩)];show(l9 os j:Int)+1=_;have:¬ l9 os j+1<os.length:=λz=>by
   have:=d0f gd z;have:=b0k os (l9 os j+1+1);lia
  lia
theorem c1x{os:List (List Int)}{i:Nat}(hi:i<tot os):∃o,os[l9 os i]?=some o/\os.getD (l9 os i) []=o/\beg os (l9 os i+1)=beg os (l9 os i)+o.length:=by
 have h:=a7u hi;refine⟨os[l9 os i],List.getElem?_eq_getElem h,by rw[List.getD_eq_getElem?_getD,List.getElem?_eq_getElem h];rfl,d0d (List.getElem?_eq_getElem h)⟩
theorem c9l{n:Nat}{os:List (List Int)}{i:Nat}(gd:Good n os)(hi:i<tot os):b0t os (v3 os i) (v9 os i)=((i-beg os (l9 os i):Nat):Int):=by
 unfold b0t;cases i with
 | zero=>
  rw[a3p.mpr (.inl rfl)];rw[if_pos rfl,Nat.zero_sub]
  rfl
 | succ j=>
  by_cases z:n9 os j=0
  ·rw[a3p.mpr (.inr ⟨j,rfl,z⟩),if_pos rfl,(next_order gd hi z).1,(next_order gd hi z).2,Nat.sub_self]
   rfl
  ·have b:a7v (v3 os (j+1)) (v9 os (j+1))=false:=by
    cases e:a7v (v3 os (j+1)) (v9 os (j+1)) with
    | false=>rfl
    | true=>
     rcases a3p.mp e with y|⟨j',y,q⟩
     ·lia
     ·have:j'=j:=by lia
      subst this;exact absurd q z
   rw[b];obtain⟨o,eo,eg,es⟩:=c1x (os:=os) (i:=j) ↑5;obtain⟨h1,h2⟩:=a2m (n:=0) (os:=os) (i:=j) ↑5;rw[(next_part (os:=os) (i:=j) ↑5 ↑5).2.1];show(if false=true then 0 else ((os.getD (l9 os j:Int).toNat []).length:Int)-(n9 os j:Int))=_;rw[if_neg ↑3,Int.toNat_natCast,eg];lia
theorem c3a{n:Nat}{os:List (List Int)}{i:Nat}(gd:Good n os)(hi:i<tot os):a7x os (v3 os i) (v9 os i)=(n9 os i:Int):=by
 unfold a7x;rw[a4z gd hi,c9l gd hi,Int.toNat_natCast];obtain⟨o,eo,eg,es⟩:=c1x hi;obtain⟨h1,h2⟩:=a2m (n:=0) hi;rw[eg];lia
theorem b8n{n:Nat}{os:List (List Int)}{i:Nat}(gd:Good n os)(hi:i<tot os):(os.getD (a1z (v3 os i) (v9 os i)).toNat []).getD (b0t os (v3 os i) (v9 os i)).toNat 0=a0a os i/\0<=b0t os (v3 os i) (v9 os i)/\b0t os (v3 os i) (v9 os i)<((os.getD (a1z (v3 os i) (v9 os i)).toNat []).length:Int):=by
 rw[a4z gd hi,c9l gd hi,Int.toNat_natCast,Int.toNat_natCast];obtain⟨o,eo,eg,es⟩:=c1x hi;obtain⟨h1,h2⟩:=a2m (n:=0) hi;rw[eg];refine⟨?_,by lia,by lia⟩
 rw[<- c3r eo (i-beg os (l9 os i)) ↑5,show beg os (l9 os i)+(i-beg os (l9 os i))=i by lia]
theorem d1u{n:Nat}{os:List (List Int)}{i:Nat}(gd:Good n os)(hi:i<=tot os):b5s os (v3 os i) (v9 os i)=decide (i<tot os):=by
 unfold b5s;by_cases z:i<tot os
 ·obtain⟨_,p0,p1⟩:=b8n gd z
  have o:=a4z gd z;have:=a7u z;rw[decide_eq_true z,decide_eq_true (show 0<=a1z (v3 os i) (v9 os i)/\a1z (v3 os i) (v9 os i)<(os.length:Int) by lia),decide_eq_true ⟨p0,p1⟩]
  rfl
 ·have e:i=tot os:=by lia
  subst e;rw[decide_eq_false z,d6t gd,decide_eq_false ↑5,Bool.false_and]
theorem a9u{n i:Nat}:(((i % (2*n):Nat):Int) / (n:Int))=(lap n i:Int):=by
 rw[<- c8s n i]
 push_cast
 rfl
theorem v4{n i:Nat}:((((i % (2*n):Nat):Int) % (n:Int))).toNat=i % n:=by
 rw[<- Int.natCast_emod,Int.toNat_natCast,b9y]
theorem a3q{n i:Nat}(hn:0<n):(0:Int)<=((i % (2*n):Nat):Int)/\((i % (2*n):Nat):Int)<2*(n:Int):=by
 have:=c0p (i:=i) hn;lia
theorem a4k{n i:Nat}:((((i % (2*n):Nat):Int)+1) % (2*(n:Int)))=(((i+1) % (2*n):Nat):Int):=by
 push_cast
 rw[Int.emod_add_emod]
theorem d2b{n i:Nat}:((((i % (2*n):Nat):Int)+(n:Int)) % (2*(n:Int)))=(((i+n) % (2*n):Nat):Int):=by
 push_cast
 rw[Int.emod_add_emod]
theorem b9z{n i:Nat}(hn:0<n):(ahd n ((i % (2*n):Nat):Int)).toNat=(i+2*n-1) % n:=by
 unfold ahd;have e1:(((i % (2*n):Nat):Int) + -1) % (2*(n:Int))=(((i+2*n-1) % (2*n):Nat):Int):=by
  have:((i+2*n-1:Nat):Int)=(i:Int) + -1+2*(n:Int):=by lia
  push_cast
  rw[Int.emod_add_emod,this,Int.add_emod_right]
 rw[e1,v4]
section
variable{H:Hp}{A:Ad}{L:Ln}{ps:List Int}{Gq:Gm}{Tq:Tm}{tl:List Tr}{lt:Lt}{Q:VK}{E:XK}
def a6t(cl:Cl)(H:Hp)(A:Ad)(L L':Ln)(ps:List Int)(Tq:Tm)(tl:List Tr)(lt:Lt)(Q:VK):Prop:=∀H' A' Gq',LH cl H' A' L.n L'.c L.os L.bk L'.gseen L.tseen ps Gq' Tq tl lt->GRel L' { Gq' with st:=b0l L'.gs }->KpA A H H'->Nx A A' H->Q (.str (b0l L'.gs)) H'
theorem d7c{x:Stg}(e:L.gs=x)(h:x.frees=false):gi L=L.g:=by unfold gi;rw[e,h];rfl
theorem e3a{x:Stg}(e:L.gs=x)(h:x.frees=true):gi L=L.g-1:=by unfold gi;rw[e,h];rfl
theorem d7h(hL:↑8)(ok:Ok L)(hg:GRel L Gq)(e:L.gs=.rouse)(k:a6t cl H A L (gstep L) ps Tq tl (lt.tch (gT L)) Q):a6y cl [.ref A.gv] H Q E:=by
 rw[show gT L=gTx .rouse L from congrArg (gTx · L) e] at k
 have es:gstep L={ L.put (4*L.n+3) (1) with gs:=.clear }:=by unfold gstep;rw[e]
 rw[es] at k;refine⟨A,L.n,L.c,L.os,L.bk,L.gseen,L.tseen,ps,Gq,Tq,tl,lt,true,A.gv,rfl,.inl ⟨rfl,rfl⟩,hL,λH' z kz=>?_⟩;exact k H' A Gq z ⟨rfl,λy=>(nomatch (show true=false from y)),λy=>(nomatch (show true=false from y)),λy=>(nomatch (show true=false from y))⟩ kz (Nx.refl A H)
theorem d7k(hL:↑8)(ok:Ok L)(hg:GRel L Gq)(e:L.gs=.clear)(k:a6t cl H A L (gstep L) ps Tq tl (lt.tch (gT L)) Q):a7a cl [.ref A.gv] H Q E:=by
 rw[show gT L=gTx .clear L from congrArg (gTx · L) e] at k
 have es:gstep L={ L.put (4*L.n) (-1) with gs:=.mute }:=by unfold gstep;rw[e]
 rw[es] at k;refine⟨A,L.n,L.c,L.os,L.bk,L.gseen,L.tseen,ps,Gq,Tq,tl,lt,true,A.gv,rfl,.inl ⟨rfl,rfl⟩,hL,λH' z kz=>?_⟩;exact k H' A Gq z ⟨rfl,λy=>(nomatch (show true=false from y)),λy=>(nomatch (show true=false from y)),λy=>(nomatch (show true=false from y))⟩ kz (Nx.refl A H)
theorem e0k(hL:↑8)(ok:Ok L)(hg:GRel L Gq)(e:L.gs=.mute)(k:a6t cl H A L (gstep L) ps Tq tl (lt.tch (gT L)) Q):b0a cl [.ref A.gv] H Q E:=by
 rw[show gT L=gTx .mute L from congrArg (gTx · L) e] at k
 have es:gstep L={ L.put (4*L.n+2) (0) with gs:=.marks }:=by unfold gstep;rw[e]
 rw[es] at k;refine⟨A,L.n,L.c,L.os,L.bk,L.gseen,L.tseen,ps,Gq,Tq,tl,lt,true,A.gv,rfl,.inl ⟨rfl,rfl⟩,hL,λH' z kz=>?_⟩;exact k H' A Gq z ⟨rfl,λy=>(nomatch (show true=false from y)),λy=>(nomatch (show true=false from y)),λy=>(nomatch (show true=false from y))⟩ kz (Nx.refl A H)
theorem e0o(hL:↑8)(ok:Ok L)(hg:GRel L Gq)(e:L.gs=.hush)(k:a6t cl H A L (gstep L) ps Tq tl (lt.tch (gT L)) Q):b0c cl [.ref A.gv] H Q E:=by
 rw[show gT L=gTx .hush L from congrArg (gTx · L) e] at k
 fail "b";have es:gstep L={ L.put (4*L.n+2) (0) with gs:=.unwish }:=by unfold gstep;rw[e]
 rw[es] at k;refine⟨A,L.n,L.c,L.os,L.bk,L.gseen,L.tseen,ps,Gq,Tq,tl,lt,true,A.gv,rfl,.inl ⟨rfl,rfl⟩,hL,λH' z kz=>?_⟩;exact k H' A Gq z ⟨rfl,λ_=>he0,λ_ _=>nu0,λ_ _ _=>le0⟩ kz (Nx.refl A H)
theorem d4e(hL:↑8)(ok:Ok L)(hg:GRel L Gq)(e:L.gs=.unwish)(k:a6t cl H A L (gstep L) ps Tq tl (lt.tch (gT L)) Q):a5b cl [.ref A.gv] H Q E:=by
 rw[show gT L=gTx .unwish L from congrArg (gTx · L) e] at k
 fail "b";have es:gstep L={ L.put (4*L.n) (-1) with gs:=.look }:=by unfold gstep;rw[e]
 rw[es] at k;refine⟨A,L.n,L.c,L.os,L.bk,L.gseen,L.tseen,ps,Gq,Tq,tl,lt,true,A.gv,rfl,.inl ⟨rfl,rfl⟩,hL,λH' z kz=>?_⟩;exact k H' A Gq z ⟨rfl,λ_=>he0,λ_ _=>nu0,λ_ _ _=>le0⟩ kz (Nx.refl A H)
theorem d7g(hL:↑8)(ok:Ok L)(hg:GRel L Gq)(e:L.gs=.sleep)(k:a6t cl H A L (gstep L) ps Tq tl (lt.tch (gT L)) Q):a6x cl [.ref A.gv] H Q E:=by
 rw[show gT L=gTx .sleep L from congrArg (gTx · L) e] at k
 fail "b";refine⟨A,L.n,L.c,L.os,L.bk,L.gseen,L.tseen,ps,Gq,Tq,tl,lt,true,A.gv,rfl,.inl ⟨rfl,rfl⟩,hL,λH' z kz=>?_⟩;by_cases y:L.c (4*L.n+2)=0
 ·have es:gstep L=L:=by unfold gstep;rw[e];exact if_pos y
  rw[es] at k;have q:=k H' A Gq z (by rw[e];exact⟨by rw[e],λ_=>by rw[g0];exact he0,λ_ _=>by rw[g0];exact nu0,λ_ _ _=>by rw[g0];exact le0⟩) kz (Nx.refl A H)
  rw[e] at q;rw[show(if L.c (4*L.n+a2a true)=0 then ("sleep":Str) else "hush")="sleep" from if_pos y];exact q
 ·have es:gstep L={ L with gs:=.hush }:=by unfold gstep;rw[e];exact if_neg y
  rw[es] at k;rw[show(if L.c (4*L.n+a2a true)=0 then ("sleep":Str) else "hush")="hush" from if_neg y];exact k H' A Gq z ⟨rfl,λ_=>he0,λ_ _=>nu0,λ_ _ _=>le0⟩ kz (Nx.refl A H)
theorem e0m(hL:↑8)(ok:Ok L)(hg:GRel L Gq)(e:L.gs=.look)(hp:L.g<tot L.os)(k:a6t cl H A L (gstep L) ps Tq tl (lt.tch (gT L)) Q):b0b cl [.ref A.gv] H Q E:=by
 rw[show gT L=gTx .look L from congrArg (gTx · L) e] at k
 fail "b";have w0:L.c (4*((((L.g % (2*L.n):Nat):Int) % (L.n:Int))).toNat)=a3g true L.n ((L.g % (2*L.n):Nat):Int) ↔ L.c (4*(L.g % L.n))=2*(1-(lap L.n L.g:Int)):=by
  rw[v4];unfold a3g;rw[if_pos rfl,a9u,Int.add_zero]
 refine⟨A,L.n,L.c,L.os,L.bk,L.gseen,L.tseen,ps,Gq,Tq,tl,lt,true,A.gv,_,rfl,.inl ⟨rfl,rfl⟩,hL,he0,tn.1,tn.2,λH' z kz=>?_⟩;rw[v4] at z;by_cases y:L.c (4*(L.g % L.n))=2*(1-(lap L.n L.g:Int))
 ·have es:gstep L={ L with gs:=.number }:=by unfold gstep;rw[e];show(if L.g<tot L.os then _ else _)=_;rw[if_pos hp];exact if_pos y
  rw[es] at k;rw[if_pos (w0.mpr y)];exact k H' A Gq z ⟨rfl,λ_=>he0,λ_ _=>nu0,λ_ _ _=>le0⟩ kz (Nx.refl A H)
 ·have es:gstep L={ L with gs:=.wish }:=by unfold gstep;rw[e];show(if L.g<tot L.os then _ else _)=_;rw[if_pos hp];exact if_neg y
  rw[es] at k;rw[if_neg λz=>y (w0.mp z)];exact k H' A Gq z ⟨rfl,λ_=>he0,λ_ _=>nu0,λ_ _ _=>le0⟩ kz (Nx.refl A H)
theorem d7l(hL:↑8)(ok:Ok L)(hg:GRel L Gq)(e:L.gs=.again)(k:a6t cl H A L (gstep L) ps Tq tl (lt.tch (gT L)) Q):a7b cl [.ref A.gv] H Q E:=by
 rw[show gT L=gTx .again L from congrArg (gTx · L) e] at k
 fail "b";have w0:L.c (4*((((L.g % (2*L.n):Nat):Int) % (L.n:Int))).toNat)=a3g true L.n ((L.g % (2*L.n):Nat):Int) ↔ L.c (4*(L.g % L.n))=2*(1-(lap L.n L.g:Int)):=by
  rw[v4];unfold a3g;rw[if_pos rfl,a9u,Int.add_zero]
 refine⟨A,L.n,L.c,L.os,L.bk,L.gseen,L.tseen,ps,Gq,Tq,tl,lt,true,A.gv,_,rfl,.inl ⟨rfl,rfl⟩,hL,he0,tn.1,tn.2,λH' z kz=>?_⟩;rw[v4] at z;by_cases y:L.c (4*(L.g % L.n))=2*(1-(lap L.n L.g:Int))
 ·have es:gstep L={ L with gs:=.unwish }:=by unfold gstep;rw[e];exact if_pos y
  rw[es] at k;rw[if_pos (w0.mpr y)];exact k H' A Gq z ⟨rfl,λ_=>he0,λ_ _=>nu0,λ_ _ _=>le0⟩ kz (Nx.refl A H)
 ·have es:gstep L={ L with gs:=.sleep }:=by unfold gstep;rw[e];exact if_neg y
  rw[es] at k;rw[if_neg λz=>y (w0.mp z)];exact k H' A Gq z ⟨rfl,λ_=>he0,λ_ _=>nu0,λ_ _ _=>le0⟩ kz (Nx.refl A H)
theorem e0h(hL:↑8)(ok:Ok L)(hg:GRel L Gq)(e:L.gs=.wish)(k:a6t cl H A L (gstep L) ps Tq tl (lt.tch (gT L)) Q):a9y cl [.ref A.gv] H Q E:=by
 rw[show gT L=gTx .wish L from congrArg (gTx · L) e] at k
 fail "b";have es:gstep L={ L.put (4*L.n) ((L.g % (2*L.n):Nat):Int) with gs:=.again }:=by unfold gstep;rw[e]
 rw[es] at k;refine⟨A,L.n,L.c,L.os,L.bk,L.gseen,L.tseen,ps,Gq,Tq,tl,lt,true,A.gv,_,rfl,.inl ⟨rfl,rfl⟩,hL,he0,tn.1,tn.2,λH' z kz=>?_⟩;exact k H' A Gq z ⟨rfl,λ_=>he0,λ_ _=>nu0,λ_ _ _=>le0⟩ kz (Nx.refl A H)
theorem e0i(hL:↑8)(ok:Ok L)(hg:GRel L Gq)(e:L.gs=.told)(k:a6t cl H A L (gstep L) ps Tq tl (lt.tch (gT L)) Q):b4n cl [.ref A.gv] H Q E:=by
 rw[show gT L=gTx .told L from congrArg (gTx · L) e] at k
 have hn:0<L.n:=ok.hn;have g0:gi L=L.g:=d7c e ↑3;have he0:Gq.he=.int ((L.g % (2*L.n):Nat):Int):=by rw[<- g0];exact hg.he (by rw[e];decide)
 have tn:=a3q (i:=L.g) hn;have c0:=ok.core;have ea:=b9z (i:=L.g) hn;have sa:L.c (4*((L.g+2*L.n-1) % L.n)+1)=v3 L.os L.g/\L.c (4*((L.g+2*L.n-1) % L.n)+2)=v9 L.os L.g:=by
  have n2:=c0.n2;cases hG:L.g with
  | zero=>
   have z:=c0.slip0 hG;have e1:(0+2*L.n-1) % L.n=L.n-1:=by
    rw[show 0+2*L.n-1=(L.n-1)+L.n by lia,Nat.add_mod_right,Nat.mod_eq_of_lt ↑5]
   rw[e1];exact z
  | succ j=>
   have z:=c0.slip j ↑5 (.inl ↑5);have e1:(j+1+2*L.n-1) % L.n=j % L.n:=by
    rw[show j+1+2*L.n-1=j+L.n+L.n by lia,Nat.add_mod_right,Nat.add_mod_right]
   rw[e1];exact⟨z.1,z.2.1⟩
 have es:gstep L={ L with gs:=.lacks }:=by unfold gstep;rw[e]
 rw[es] at k;refine⟨A,L.n,L.c,L.os,L.bk,L.gseen,L.tseen,ps,Gq,Tq,tl,lt,_,rfl,hL,he0,tn.1,tn.2,λH' z kz=>?_⟩;rw[ea] at z;exact k H' A _ z ⟨rfl,λ_=>he0,λ_ _=>sa.1,λ_ _ y=>absurd rfl y⟩ kz (Nx.refl A H)
theorem d7j(hL:↑8)(ok:Ok L)(hg:GRel L Gq)(e:L.gs=.lacks)(k:a6t cl H A L (gstep L) ps Tq tl (lt.tch (gT L)) Q):b1e cl [.ref A.gv] H Q E:=by
 rw[show gT L=gTx .lacks L from congrArg (gTx · L) e] at k
 have hn:0<L.n:=ok.hn;have g0:gi L=L.g:=d7c e ↑3;have he0:Gq.he=.int ((L.g % (2*L.n):Nat):Int):=by rw[<- g0];exact hg.he (by rw[e];decide)
 have tn:=a3q (i:=L.g) hn;have c0:=ok.core;have ea:=b9z (i:=L.g) hn;have sa:L.c (4*((L.g+2*L.n-1) % L.n)+1)=v3 L.os L.g/\L.c (4*((L.g+2*L.n-1) % L.n)+2)=v9 L.os L.g:=by
  have n2:=c0.n2;cases hG:L.g with
  | zero=>
   have z:=c0.slip0 hG;have e1:(0+2*L.n-1) % L.n=L.n-1:=by
    rw[show 0+2*L.n-1=(L.n-1)+L.n by lia,Nat.add_mod_right,Nat.mod_eq_of_lt ↑5]
   rw[e1];exact z
  | succ j=>
   have z:=c0.slip j ↑5 (.inl ↑5);have e1:(j+1+2*L.n-1) % L.n=j % L.n:=by
    rw[show j+1+2*L.n-1=j+L.n+L.n by lia,Nat.add_mod_right,Nat.add_mod_right]
   rw[e1];exact⟨z.1,z.2.1⟩
 have nu0:Gq.nu=v3 L.os L.g:=by rw[<- g0];exact hg.nu (by rw[e];decide) (by rw[e];decide)
 have es:gstep L={ L with gs:=.look }:=by unfold gstep;rw[e]
 rw[es] at k;refine⟨A,L.n,L.c,L.os,L.bk,L.gseen,L.tseen,ps,Gq,Tq,tl,lt,_,rfl,hL,he0,tn.1,tn.2,λH' z kz=>?_⟩;rw[ea] at z;exact k H' A _ z ⟨rfl,λ_=>he0,λ_ _=>nu0,λ_ _ _=>sa.2⟩ kz (Nx.refl A H)
theorem d4f(hL:↑8)(ok:Ok L)(hg:GRel L Gq)(e:L.gs=.number)(k:a6t cl H A L (gstep L) ps Tq tl (lt.tch (gT L)) Q):a0i cl [.ref A.gv] H Q E:=by
 rw[show gT L=gTx .number L from congrArg (gTx · L) e] at k
 fail "b";have gd:=ok.core.good;have rm:=ok.gv.room (by rw[e];rfl)
 have kn:b0v L.os Gq.nu Gq.le/\0<=a1z Gq.nu Gq.le/\a1z Gq.nu Gq.le<L.os.length:=by
  rw[nu0,le0];have:=a4z gd rm.1;have:=a7u rm.1;exact⟨b0f (n:=L.n) ↑5,by lia,by lia⟩
 have es:gstep L={ L.put (4*(L.g % L.n)+1) ((l9 L.os L.g:Int)) with gs:=.left }:=by unfold gstep;rw[e]
 rw[es] at k;refine⟨A,L.n,L.c,L.os,L.bk,L.gseen,L.tseen,ps,Gq,Tq,tl,lt,_,rfl,hL,he0,tn.1,tn.2,λH' z kz=>?_⟩;rw[v4,nu0,le0,a4z gd rm.1] at z;exact k H' A Gq z ⟨rfl,λ_=>he0,λ_ _=>nu0,λ_ _ _=>le0⟩ kz (Nx.refl A H)
theorem e0n(hL:↑8)(ok:Ok L)(hg:GRel L Gq)(e:L.gs=.left)(k:a6t cl H A L (gstep L) ps Tq tl (lt.tch (gT L)) Q):a1j cl [.ref A.gv] H Q E:=by
 rw[show gT L=gTx .left L from congrArg (gTx · L) e] at k
 fail "b";have gd:=ok.core.good;have rm:=ok.gv.room (by rw[e];rfl)
 have kn:b0v L.os Gq.nu Gq.le/\0<=a1z Gq.nu Gq.le/\a1z Gq.nu Gq.le<L.os.length:=by
  rw[nu0,le0];have:=a4z gd rm.1;have:=a7u rm.1;exact⟨b0f (n:=L.n) ↑5,by lia,by lia⟩
 have es:gstep L={ L.put (4*(L.g % L.n)+2) ((n9 L.os L.g:Int)) with gs:=.thing }:=by unfold gstep;rw[e]
 rw[es] at k;refine⟨A,L.n,L.c,L.os,L.bk,L.gseen,L.tseen,ps,Gq,Tq,tl,lt,_,rfl,hL,he0,tn.1,tn.2,kn,λH' z kz=>?_⟩;rw[v4,nu0,le0,c3a gd rm.1] at z;exact k H' A Gq z ⟨rfl,λ_=>he0,λ_ _=>nu0,λ_ _ _=>le0⟩ kz (Nx.refl A H)
theorem d7f(hL:↑8)(ok:Ok L)(hg:GRel L Gq)(e:L.gs=.thing)(k:a6t cl H A L (gstep L) ps Tq tl (lt.tch (gT L)) Q):a0t cl [.ref A.gv] H Q E:=by
 rw[show gT L=gTx .thing L from congrArg (gTx · L) e] at k
 fail "b";have gd:=ok.core.good;have rm:=ok.gv.room (by rw[e];rfl)
 have kn:b0v L.os Gq.nu Gq.le/\0<=a1z Gq.nu Gq.le/\a1z Gq.nu Gq.le<L.os.length:=by
  rw[nu0,le0];have:=a4z gd rm.1;have:=a7u rm.1;exact⟨b0f (n:=L.n) ↑5,by lia,by lia⟩
 have th:0<=b0t L.os Gq.nu Gq.le/\b0t L.os Gq.nu Gq.le<((L.os.getD (a1z Gq.nu Gq.le).toNat []).length:Int):=by rw[nu0,le0];exact(b8n gd rm.1).2
 have es:gstep L={ L.put (4*(L.g % L.n)+3) (a0a L.os L.g) with gs:=.mark }:=by unfold gstep;rw[e]
 rw[es] at k;refine⟨A,L.n,L.c,L.os,L.bk,L.gseen,L.tseen,ps,Gq,Tq,tl,lt,_,rfl,hL,he0,tn.1,tn.2,⟨kn.1,kn.2,th⟩,λH' z kz=>?_⟩;rw[v4,nu0,le0,(b8n gd rm.1).1] at z;exact k H' A Gq z ⟨rfl,λ_=>he0,λ_ _=>nu0,λ_ _ _=>le0⟩ kz (Nx.refl A H)
theorem e0l(hL:↑8)(ok:Ok L)(hg:GRel L Gq)(e:L.gs=.mark)(k:a6t cl H A L (gstep L) ps Tq tl (lt.tch (gT L)) Q):b4o cl [.ref A.gv] H Q E:=by
 rw[show gT L=gTx .mark L from congrArg (gTx · L) e] at k
 fail "b";have es:gstep L={ L.put (4*(L.g % L.n)) (2*(lap L.n L.g:Int)+1) with gs:=.card,g:=L.g+1 }:=by unfold gstep;rw[e]
 rw[es] at k;refine⟨A,L.n,L.c,L.os,L.bk,L.gseen,L.tseen,ps,Gq,Tq,tl,lt,_,rfl,hL,he0,tn.1,tn.2,λH' z kz=>?_⟩;rw[v4,a9u,Nat.add_zero] at z;have gi1:gi { L.put (4*(L.g % L.n)) (2*(lap L.n L.g:Int)+1) with gs:=.card,g:=L.g+1 }=L.g:=by
  unfold gi;show(if Stg.frees .card=true then L.g+1-1 else L.g+1)=L.g;rw[if_pos (show Stg.frees .card=true from rfl)];lia
 exact k H' A Gq z ⟨rfl,λ_=>by rw[gi1];exact he0,λ_ _=>by rw[gi1];exact nu0,λ_ _ _=>by rw[gi1];exact le0⟩ kz (Nx.refl A H)
theorem e0p(hL:↑8)(ok:Ok L)(hg:GRel L Gq)(e:L.gs=.card)(k:a6t cl H A L (gstep L) ps Tq tl (lt.tch (gT L)) Q):b0d cl [.ref A.gv] H Q E:=by
 rw[show gT L=gTx .card L from congrArg (gTx · L) e] at k
 have hn:0<L.n:=ok.hn;have gp:0<L.g:=ok.gv.pos (by rw[e];rfl)
 have g0:gi L=L.g-1:=e3a e ↑3;have he0:Gq.he=.int (((L.g-1) % (2*L.n):Nat):Int):=by rw[<- g0];exact hg.he (by rw[e];decide)
 have tn:=a3q (i:=L.g-1) hn;have nu0:Gq.nu=v3 L.os (L.g-1):=by rw[<- g0];exact hg.nu (by rw[e];decide) (by rw[e];decide)
 have le0:Gq.le=v9 L.os (L.g-1):=by rw[<- g0];exact hg.le (by rw[e];decide) (by rw[e];decide) (by rw[e];decide)
 have gd:=ok.core.good;have gt:=ok.core.gt;have lt':L.g-1<tot L.os:=by lia
 have kn:b0v L.os Gq.nu Gq.le/\0<=a1z Gq.nu Gq.le/\a1z Gq.nu Gq.le<L.os.length:=by
  rw[nu0,le0];have:=a4z gd lt';have:=a7u lt';exact⟨b0f (n:=L.n) ↑5,by lia,by lia⟩
 have en:v3 L.os L.g=(l9 L.os (L.g-1):Int):=by rw[show L.g=(L.g-1)+1 by lia];rfl
 have el:v9 L.os L.g=(n9 L.os (L.g-1):Int):=by rw[show L.g=(L.g-1)+1 by lia];rfl
 have et:(((L.g-1+1) % (2*L.n):Nat):Int)=((L.g % (2*L.n):Nat):Int):=by rw[show L.g-1+1=L.g by lia]
 refine .inl ⟨A,L.n,L.c,L.os,L.bk,L.gseen,L.tseen,ps,Gq,Tq,tl,lt,_,rfl,hL,he0,tn.1,tn.2,kn,?_⟩;by_cases y:L.c (4*L.n+1)=(((L.g-1) % (2*L.n):Nat):Int)
 ·have es:gstep L={ L with gs:=.ring }:=by unfold gstep;rw[e];exact if_pos y
  rw[es] at k;rw[if_pos y];intro H' z kz;exact k H' A Gq z ⟨rfl,λ_=>he0,λ_ _=>nu0,λ_ _ _=>le0⟩ kz (Nx.refl A H)
 ·have es:gstep L={ L with gs:=.look }:=by unfold gstep;rw[e];exact if_neg y
  rw[es] at k;rw[if_neg y];intro H' z kz;rw[a4k,nu0,le0,a4z gd lt',c3a gd lt',et] at z;exact k H' A _ z ⟨rfl,λ_=>rfl,λ_ _=>en.symm,λ_ _ _=>el.symm⟩ kz (Nx.refl A H)
theorem e0j(hL:↑8)(ok:Ok L)(hg:GRel L Gq)(e:L.gs=.ring)(k:a6t cl H A L (gstep L) ps Tq tl (lt.tch (gT L)) Q):a9z cl [.ref A.gv] H Q E:=by
 rw[show gT L=gTx .ring L from congrArg (gTx · L) e] at k
 have hn:0<L.n:=ok.hn;have gp:0<L.g:=ok.gv.pos (by rw[e];rfl)
 have g0:gi L=L.g-1:=e3a e ↑3;have he0:Gq.he=.int (((L.g-1) % (2*L.n):Nat):Int):=by rw[<- g0];exact hg.he (by rw[e];decide)
 have tn:=a3q (i:=L.g-1) hn;have nu0:Gq.nu=v3 L.os (L.g-1):=by rw[<- g0];exact hg.nu (by rw[e];decide) (by rw[e];decide)
 have le0:Gq.le=v9 L.os (L.g-1):=by rw[<- g0];exact hg.le (by rw[e];decide) (by rw[e];decide) (by rw[e];decide)
 have gd:=ok.core.good;have gt:=ok.core.gt;have lt':L.g-1<tot L.os:=by lia
 have kn:b0v L.os Gq.nu Gq.le/\0<=a1z Gq.nu Gq.le/\a1z Gq.nu Gq.le<L.os.length:=by
  rw[nu0,le0];have:=a4z gd lt';have:=a7u lt';exact⟨b0f (n:=L.n) ↑5,by lia,by lia⟩
 have en:v3 L.os L.g=(l9 L.os (L.g-1):Int):=by rw[show L.g=(L.g-1)+1 by lia];rfl
 have el:v9 L.os L.g=(n9 L.os (L.g-1):Int):=by rw[show L.g=(L.g-1)+1 by lia];rfl
 have et:(((L.g-1+1) % (2*L.n):Nat):Int)=((L.g % (2*L.n):Nat):Int):=by rw[show L.g-1+1=L.g by lia]
 have es:gstep L={ L.put (4*L.n+3) 1 with gs:=.look }:=by unfold gstep;rw[e]
 rw[es] at k;refine .inl ⟨A,L.n,L.c,L.os,L.bk,L.gseen,L.tseen,ps,Gq,Tq,tl,lt,_,rfl,hL,he0,tn.1,tn.2,kn,λH' z kz=>?_⟩;rw[a4k,nu0,le0,a4z gd lt',c3a gd lt',et] at z;exact k H' A _ z ⟨rfl,λ_=>rfl,λ_ _=>en.symm,λ_ _ _=>el.symm⟩ kz (Nx.refl A H)
end
theorem b8b{n g:Nat}(hn:0<n){xs:List Int}(l:xs.length=n)(h:∀(q:Nat) (m:Int),xs[q]?=some m->m=(b9a n g q:Int)):toB xs=e4l n (g % (2*n)):=by
 have hp:=Nat.mod_lt g hn;have hl:=b8u n g;apply List.ext_getElem?;intro q;unfold toB e4l;rw[b9y,c8s,List.getElem?_map];by_cases hq:q<n
 ·have e:=List.getElem?_eq_getElem (l:=xs) (show q<xs.length by lia)
  have z:=h q _ e;rw[e,z];unfold b9a;show some ((((if q<g % n then lap n g else 1-lap n g:Nat):Int)) == 1)=_;by_cases y:q<g % n
  ·rw[if_pos y,List.getElem?_append_left (by rw[List.length_replicate];exact y),List.getElem?_replicate,if_pos y]
   congr 1
   rw[Bool.eq_iff_iff];simp only[beq_iff_eq];lia
  ·rw[if_neg y,List.getElem?_append_right (by rw[List.length_replicate];lia),List.length_replicate,List.getElem?_replicate,if_pos ↑5]
   congr 1
   rw[Bool.eq_iff_iff];simp only[beq_iff_eq,Bool.not_eq_true',beq_eq_false_iff_ne];lia
 ·rw[List.getElem?_eq_none ↑5,List.getElem?_eq_none (by rw[List.length_append,List.length_replicate,List.length_replicate];lia)]
  rfl
theorem b9x:(List.range 7).all (λk=>(List.range (2*(k+2))).all λt=>a5p (e4l (k+2) t) == some t)=true:=by decide +kernel
theorem c0j{n t:Nat}(n2:2<=n)(n8:n<=8)(ht:t<2*n):a5p (e4l n t)=some t:=by
 have h:=List.all_eq_true.mp b9x (n-2) (List.mem_range.mpr ↑5);rw[show n-2+2=n by lia] at h
 have h:=List.all_eq_true.mp h t (List.mem_range.mpr ht)
 simpa using h
theorem c9f{xs:List Int}{x:Int}{q:Nat}{m:Int}(h:(xs++[x])[q]?=some m):(q<xs.length/\xs[q]?=some m)\/(q=xs.length/\m=x):=by
 by_cases z:q<xs.length
 ·rw[List.getElem?_append_left z] at h
  exact .inl ⟨z,h⟩
 ·have hq:q=xs.length:=by
   have:=(List.getElem?_eq_some_iff.mp h).1;rw[List.length_append] at this;have:q<xs.length+1:=this;lia
  subst hq;rw[List.getElem?_append_right (Nat.le_refl _),Nat.sub_self] at h;cases h;exact .inr ⟨rfl,rfl⟩
theorem d2k{xs:List Int}(h:∀(q:Nat) (m:Int),xs[q]?=some m->0<=m/\m<=3):a2l xs=true:=by
 refine List.all_eq_true.mpr λx hx=>?_;obtain⟨i,hi⟩:=List.getElem?_of_mem hx;have:=h i x hi
 simpa using this
section
variable{H:Hp}{A:Ad}{L:Ln}{ps:List Int}{Gq:Gm}{Tq:Tm}{tl:List Tr}{lt:Lt}{Q:VK}{E:XK}
theorem Nx.ofMg{p:Addr}:Nx A (A.setMg p) H:=⟨λ_ _=>rfl,.inl rfl,rfl⟩
theorem Nx.ofMt{p:Addr}:Nx A (A.setMt p) H:=⟨λ_ _=>rfl,.inl rfl,rfl⟩
theorem d7i(hL:↑8)(ok:Ok L)(hg:GRel L Gq)(e:L.gs=.marks)(k:a6t cl H A L (gstep L) ps Tq tl (lt.tch (gT L)) Q):a6z cl [.ref A.gv] H Q E:=by
 rw[show gT L=gTx .marks L from congrArg (gTx · L) e] at k
 have hn:0<L.n:=ok.hn;have n2:=ok.core.n2;have n8:=ok.core.n8;have sl:=ok.gv.seen.1;have sg:=ok.gv.seen.2;refine .inl ⟨A,L.n,L.c,L.os,L.bk,L.gseen,L.tseen,ps,Gq,Tq,tl,lt,rfl,hL,sl,?_⟩;by_cases y:L.gseen.length+1<L.n
 ·have es:gstep L={ L with gseen:=L.gseen++[L.c (4*L.gseen.length)] }:=by unfold gstep;rw[e];exact if_pos y
  rw[es] at k;rw[if_pos y];intro p H' hp z kz;have q:=k H' (A.setMg p) Gq z ⟨(by rw[e]),(λy=>by rw[e] at y;cases y),(λy=>by rw[e] at y;cases y),(λy=>by rw[e] at y;cases y)⟩ kz Nx.ofMg
  have e3:b0l L.gs="marks":=by rw[e];rfl
  change Q (.str (b0l L.gs)) H' at q;rw[e3] at q;exact q
 ·have es:gstep L={ L with gseen:=[],gs:=.told }:=by unfold gstep;rw[e];exact if_neg y
  rw[es] at k;rw[if_neg y];have all:∀(q:Nat)(m:Int),(L.gseen++[L.c (4*L.gseen.length)])[q]?=some m->m / 2=(b9a L.n L.g q:Int)/\0<=m/\m<=3:=λq m h=>by
   rcases c9f h with ⟨_,z⟩|⟨rfl,rfl⟩
   ·exact sg q m z
   ·exact⟨ok.core.mks.laps hn sl,ok.core.mks.range hn sl⟩
  refine⟨L.g % (2*L.n),d2k λq m h=>(all q m h).2,?_,λp H' hp z kz=>?_⟩
  ·rw[b8b hn (by rw[List.length_map,List.length_append];show L.gseen.length+1=L.n;lia) (λq m h=>?_),c0j n2 n8 (c0p hn)]
   rw[List.getElem?_map] at h;cases e2:(L.gseen++[L.c (4*L.gseen.length)])[q]? with
   | none=>rw[e2] at h;cases h
   | some m'=>
    rw[e2] at h;cases h;exact(all q m' e2).1
  ·exact k H' (A.setMg p) _ z ⟨rfl,λ_=>rfl,λ_ y=>absurd rfl y,λ_ y=>absurd rfl y⟩ kz Nx.ofMg
def a7y(cl:Cl)(H:Hp)(A:Ad)(L L':Ln)(Gq:Gm)(tl:List Tr)(lt:Lt)(Q:VK):Prop:=∀H' A' Tq' ps',LH cl H' A' L.n L'.c L.os L'.bk L.gseen L'.tseen ps' Gq Tq' tl lt->TRel L' { Tq' with st:=b0l L'.ts } ps'->KpA A H H'->Nx A A' H->Q (.str (b0l L'.ts)) H'
theorem c0f{x:Stg}(h1:x≠.left)(h2:x≠.thing){a:Int}{b:Int}:x=.left\/x=.thing->a=b:=λy=>by rcases y with y|y;exact absurd y h1;exact absurd y h2
theorem d5y(hL:↑8)(ok:Ok L)(ht:TRel L Tq ps)(e:L.ts=.rouse)(k:a7y cl H A L (tstep L) Gq tl (lt.tch (tT L)) Q):a6y cl [.ref A.tk] H Q E:=by
 rw[show tT L=tTx .rouse L from congrArg (tTx · L) e] at k
 have es:tstep L={ L.put (4*L.n+2) (1) with ts:=.clear }:=by unfold tstep;rw[e]
 rw[es] at k;refine⟨A,L.n,L.c,L.os,L.bk,L.gseen,L.tseen,ps,Gq,Tq,tl,lt,false,A.tk,rfl,.inr ⟨rfl,rfl⟩,hL,λH' z kz=>?_⟩;have p0:ps=[]:=by rw[ht.pa];exact if_pos (.inl (by rw[e];rfl))
 exact k H' A Tq ps z ⟨rfl,(λy=>(nomatch (show true=false from y))),(λy=>(nomatch (show true=false from y))),c0f (x:=.clear) ↑3 ↑3,(λy=>(nomatch (show Stg.clear=Stg.thing from y))),(by rw[p0];rfl)⟩ kz (Nx.refl A H)
theorem d6a(hL:↑8)(ok:Ok L)(ht:TRel L Tq ps)(e:L.ts=.clear)(k:a7y cl H A L (tstep L) Gq tl (lt.tch (tT L)) Q):a7a cl [.ref A.tk] H Q E:=by
 rw[show tT L=tTx .clear L from congrArg (tTx · L) e] at k
 have es:tstep L={ L.put (4*L.n+1) (-1) with ts:=.mute }:=by unfold tstep;rw[e]
 rw[es] at k;refine⟨A,L.n,L.c,L.os,L.bk,L.gseen,L.tseen,ps,Gq,Tq,tl,lt,false,A.tk,rfl,.inr ⟨rfl,rfl⟩,hL,λH' z kz=>?_⟩;have p0:ps=[]:=by rw[ht.pa];exact if_pos (.inl (by rw[e];rfl))
 exact k H' A Tq ps z ⟨rfl,(λy=>(nomatch (show true=false from y))),(λy=>(nomatch (show true=false from y))),c0f (x:=.mute) ↑3 ↑3,(λy=>(nomatch (show Stg.mute=Stg.thing from y))),(by rw[p0];rfl)⟩ kz (Nx.refl A H)
theorem d8w(hL:↑8)(ok:Ok L)(ht:TRel L Tq ps)(e:L.ts=.mute)(k:a7y cl H A L (tstep L) Gq tl (lt.tch (tT L)) Q):b0a cl [.ref A.tk] H Q E:=by
 rw[show tT L=tTx .mute L from congrArg (tTx · L) e] at k
 have es:tstep L={ L.put (4*L.n+3) (0) with ts:=.marks }:=by unfold tstep;rw[e]
 rw[es] at k;refine⟨A,L.n,L.c,L.os,L.bk,L.gseen,L.tseen,ps,Gq,Tq,tl,lt,false,A.tk,rfl,.inr ⟨rfl,rfl⟩,hL,λH' z kz=>?_⟩;have p0:ps=[]:=by rw[ht.pa];exact if_pos (.inl (by rw[e];rfl))
 exact k H' A Tq ps z ⟨rfl,(λy=>(nomatch (show true=false from y))),(λy=>(nomatch (show true=false from y))),c0f (x:=.marks) ↑3 ↑3,(λy=>(nomatch (show Stg.marks=Stg.thing from y))),(by rw[p0];rfl)⟩ kz (Nx.refl A H)
theorem d8z(hL:↑8)(ok:Ok L)(ht:TRel L Tq ps)(e:L.ts=.hush)(k:a7y cl H A L (tstep L) Gq tl (lt.tch (tT L)) Q):b0c cl [.ref A.tk] H Q E:=by
 rw[show tT L=tTx .hush L from congrArg (tTx · L) e] at k
 fail "e";have es:tstep L={ L.put (4*L.n+3) (0) with ts:=.unwish }:=by unfold tstep;rw[e]
 rw[es] at k;refine⟨A,L.n,L.c,L.os,L.bk,L.gseen,L.tseen,ps,Gq,Tq,tl,lt,false,A.tk,rfl,.inr ⟨rfl,rfl⟩,hL,λH' z kz=>?_⟩;exact k H' A Tq ps z ⟨rfl,λ_=>he0,λ_=>nf0,c0f (x:=.unwish) ↑3 ↑3,(λy=>(nomatch (show Stg.unwish=Stg.thing from y))),pa0⟩ kz (Nx.refl A H)
theorem d2f(hL:↑8)(ok:Ok L)(ht:TRel L Tq ps)(e:L.ts=.unwish)(k:a7y cl H A L (tstep L) Gq tl (lt.tch (tT L)) Q):a5b cl [.ref A.tk] H Q E:=by
 rw[show tT L=tTx .unwish L from congrArg (tTx · L) e] at k
 fail "e";have es:tstep L={ L.put (4*L.n+1) (-1) with ts:=.look }:=by unfold tstep;rw[e]
 rw[es] at k;refine⟨A,L.n,L.c,L.os,L.bk,L.gseen,L.tseen,ps,Gq,Tq,tl,lt,false,A.tk,rfl,.inr ⟨rfl,rfl⟩,hL,λH' z kz=>?_⟩;exact k H' A Tq ps z ⟨rfl,λ_=>he0,λ_=>nf0,c0f (x:=.look) ↑3 ↑3,(λy=>(nomatch (show Stg.look=Stg.thing from y))),pa0⟩ kz (Nx.refl A H)
theorem d5x(hL:↑8)(ok:Ok L)(ht:TRel L Tq ps)(e:L.ts=.sleep)(k:a7y cl H A L (tstep L) Gq tl (lt.tch (tT L)) Q):a6x cl [.ref A.tk] H Q E:=by
 rw[show tT L=tTx .sleep L from congrArg (tTx · L) e] at k
 fail "e";refine⟨A,L.n,L.c,L.os,L.bk,L.gseen,L.tseen,ps,Gq,Tq,tl,lt,false,A.tk,rfl,.inr ⟨rfl,rfl⟩,hL,λH' z kz=>?_⟩;by_cases y:L.c (4*L.n+3)=0
 ·have es:tstep L=L:=by unfold tstep;rw[e];exact if_pos y
  rw[es] at k;have st0:{ Tq with st:=b0l L.ts }=Tq:=by have:=ht.st;cases Tq;cases this;rfl
  have q:=k H' A Tq ps z (by rw[st0];exact ht) kz (Nx.refl A H)
  rw[e] at q;rw[show(if L.c (4*L.n+a2a false)=0 then ("sleep":Str) else "hush")="sleep" from if_pos y];exact q
 ·have es:tstep L={ L with ts:=.hush }:=by unfold tstep;rw[e];exact if_neg y
  rw[es] at k;rw[show(if L.c (4*L.n+a2a false)=0 then ("sleep":Str) else "hush")="hush" from if_neg y];exact k H' A Tq ps z ⟨rfl,λ_=>he0,λ_=>nf0,c0f (x:=.hush) ↑3 ↑3,(λy=>(nomatch (show Stg.hush=Stg.thing from y))),pa0⟩ kz (Nx.refl A H)
theorem d8x(hL:↑8)(ok:Ok L)(ht:TRel L Tq ps)(e:L.ts=.look)(k:a7y cl H A L (tstep L) Gq tl (lt.tch (tT L)) Q):b0b cl [.ref A.tk] H Q E:=by
 rw[show tT L=tTx .look L from congrArg (tTx · L) e] at k
 fail "e";have w0:L.c (4*((((L.t % (2*L.n):Nat):Int) % (L.n:Int))).toNat)=a3g false L.n ((L.t % (2*L.n):Nat):Int) ↔ L.c (4*(L.t % L.n))=2*(lap L.n L.t:Int)+1:=by
  rw[v4];unfold a3g;rw[if_neg ↑3,a9u]
 refine⟨A,L.n,L.c,L.os,L.bk,L.gseen,L.tseen,ps,Gq,Tq,tl,lt,false,A.tk,_,rfl,.inr ⟨rfl,rfl⟩,hL,he0,tn.1,tn.2,λH' z kz=>?_⟩;rw[v4] at z;by_cases y:L.c (4*(L.t % L.n))=2*(lap L.n L.t:Int)+1
 ·have es:tstep L={ L with ts:=.number }:=by unfold tstep;rw[e];exact if_pos y
  rw[es] at k;rw[if_pos (w0.mpr y)];exact k H' A Tq ps z ⟨rfl,λ_=>he0,λ_=>nf0,c0f (x:=.number) ↑3 ↑3,(λy=>(nomatch (show Stg.number=Stg.thing from y))),pa0⟩ kz (Nx.refl A H)
 ·have es:tstep L={ L with ts:=.wish }:=by unfold tstep;rw[e];exact if_neg y
  rw[es] at k;rw[if_neg λz=>y (w0.mp z)];exact k H' A Tq ps z ⟨rfl,λ_=>he0,λ_=>nf0,c0f (x:=.wish) ↑3 ↑3,(λy=>(nomatch (show Stg.wish=Stg.thing from y))),pa0⟩ kz (Nx.refl A H)
theorem d6b(hL:↑8)(ok:Ok L)(ht:TRel L Tq ps)(e:L.ts=.again)(k:a7y cl H A L (tstep L) Gq tl (lt.tch (tT L)) Q):a7b cl [.ref A.tk] H Q E:=by
 rw[show tT L=tTx .again L from congrArg (tTx · L) e] at k
 fail "e";have w0:L.c (4*((((L.t % (2*L.n):Nat):Int) % (L.n:Int))).toNat)=a3g false L.n ((L.t % (2*L.n):Nat):Int) ↔ L.c (4*(L.t % L.n))=2*(lap L.n L.t:Int)+1:=by
  rw[v4];unfold a3g;rw[if_neg ↑3,a9u]
 refine⟨A,L.n,L.c,L.os,L.bk,L.gseen,L.tseen,ps,Gq,Tq,tl,lt,false,A.tk,_,rfl,.inr ⟨rfl,rfl⟩,hL,he0,tn.1,tn.2,λH' z kz=>?_⟩;rw[v4] at z;by_cases y:L.c (4*(L.t % L.n))=2*(lap L.n L.t:Int)+1
 ·have es:tstep L={ L with ts:=.unwish }:=by unfold tstep;rw[e];exact if_pos y
  rw[es] at k;rw[if_pos (w0.mpr y)];exact k H' A Tq ps z ⟨rfl,λ_=>he0,λ_=>nf0,c0f (x:=.unwish) ↑3 ↑3,(λy=>(nomatch (show Stg.unwish=Stg.thing from y))),pa0⟩ kz (Nx.refl A H)
 ·have es:tstep L={ L with ts:=.sleep }:=by unfold tstep;rw[e];exact if_neg y
  rw[es] at k;rw[if_neg λz=>y (w0.mp z)];exact k H' A Tq ps z ⟨rfl,λ_=>he0,λ_=>nf0,c0f (x:=.sleep) ↑3 ↑3,(λy=>(nomatch (show Stg.sleep=Stg.thing from y))),pa0⟩ kz (Nx.refl A H)
theorem d8u(hL:↑8)(ok:Ok L)(ht:TRel L Tq ps)(e:L.ts=.wish)(k:a7y cl H A L (tstep L) Gq tl (lt.tch (tT L)) Q):a9y cl [.ref A.tk] H Q E:=by
 rw[show tT L=tTx .wish L from congrArg (tTx · L) e] at k
 fail "e";have es:tstep L={ L.put (4*L.n+1) ((L.t % (2*L.n):Nat):Int) with ts:=.again }:=by unfold tstep;rw[e]
 rw[es] at k;refine⟨A,L.n,L.c,L.os,L.bk,L.gseen,L.tseen,ps,Gq,Tq,tl,lt,false,A.tk,_,rfl,.inr ⟨rfl,rfl⟩,hL,he0,tn.1,tn.2,λH' z kz=>?_⟩;exact k H' A Tq ps z ⟨rfl,λ_=>he0,λ_=>nf0,c0f (x:=.again) ↑3 ↑3,(λy=>(nomatch (show Stg.again=Stg.thing from y))),pa0⟩ kz (Nx.refl A H)
theorem d2g(hL:↑8)(ok:Ok L)(ht:TRel L Tq ps)(e:L.ts=.number)(k:a7y cl H A L (tstep L) Gq tl (lt.tch (tT L)) Q):a0h cl [.ref A.tk] H Q E:=by
 rw[show tT L=tTx .number L from congrArg (tTx · L) e] at k
 fail "e";have tk:=ok.tk;have lies:=tk.lies (by rw[e];rfl)
 have ft:L.f<=L.t:=by have:=tk.ft;rw[e] at this;exact this
 have sp:=ok.core.slip L.t lies (.inr ft);have es:tstep L={ L with ts:=.left }:=by unfold tstep;rw[e]
 rw[es] at k;refine⟨A,L.n,L.c,L.os,L.bk,L.gseen,L.tseen,ps,Gq,Tq,tl,lt,_,rfl,hL,he0,tn.1,tn.2,λH' z kz=>?_⟩;rw[v4] at z;exact k H' A _ ps z ⟨rfl,λ_=>he0,λ_=>nf0,λ_=>sp.1,(λy=>(nomatch (show Stg.left=Stg.thing from y))),pa0⟩ kz (Nx.refl A H)
theorem d8y(hL:↑8)(ok:Ok L)(ht:TRel L Tq ps)(e:L.ts=.left)(k:a7y cl H A L (tstep L) Gq tl (lt.tch (tT L)) Q):a1i cl [.ref A.tk] H Q E:=by
 rw[show tT L=tTx .left L from congrArg (tTx · L) e] at k
 fail "e";have tk:=ok.tk;have lies:=tk.lies (by rw[e];rfl)
 have ft:L.f<=L.t:=by have:=tk.ft;rw[e] at this;exact this
 have sp:=ok.core.slip L.t lies (.inr ft);have es:tstep L={ L with ts:=.thing }:=by unfold tstep;rw[e]
 rw[es] at k;refine⟨A,L.n,L.c,L.os,L.bk,L.gseen,L.tseen,ps,Gq,Tq,tl,lt,_,rfl,hL,he0,tn.1,tn.2,λH' z kz=>?_⟩;rw[v4] at z;exact k H' A _ ps z ⟨rfl,λ_=>he0,λ_=>nf0,λ_=>ht.nu (.inl e),λ_=>sp.2.1,pa0⟩ kz (Nx.refl A H)
theorem c6w{os:List (List Int)}{a k:Nat}:a0m os a (k+1)=a0m os a k++[a0a os (a+k)]:=by
 unfold a0m;rw[List.range_succ,List.map_append]
 rfl
theorem d5w(hL:↑8)(ok:Ok L)(ht:TRel L Tq ps)(e:L.ts=.thing)(hb:L.bk.length<=400)(k:a7y cl H A L (tstep L) Gq tl (lt.tch (tT L)) Q):a0s cl [.ref A.tk] H Q E:=by
 rw[show tT L=tTx .thing L from congrArg (tTx · L) e] at k
 fail "e";have tk:=ok.tk;have lies:=tk.lies (by rw[e];rfl)
 have ft:L.f<=L.t:=by have:=tk.ft;rw[e] at this;exact this
 have sp:=ok.core.slip L.t lies (.inr ft);have gf:=ok.core.gf;have n8:=ok.core.n8;have nu0:=ht.nu (.inr e);have le0:=ht.le e;have pl:ps.length<=100:=by rw[pa0];unfold a0m;rw[List.length_map,List.length_range];lia
 have th:ps++[L.c (4*((((L.t % (2*L.n):Nat):Int) % (L.n:Int))).toNat+3)]=a0m L.os L.f (L.t+1-L.f):=by
  rw[v4,sp.2.2,pa0,show L.t+1-L.f=(L.t-L.f)+1 by lia,c6w,show L.f+(L.t-L.f)=L.t by lia]
 refine⟨A,L.n,L.c,L.os,L.bk,L.gseen,L.tseen,ps,Gq,Tq,tl,lt,_,rfl,hL,he0,tn.1,tn.2,hb,pl,?_⟩;rw[th];by_cases y:0<n9 L.os L.t
 ·have es:tstep L={ L with ts:=.look,t:=L.t+1 }:=by unfold tstep;rw[e];exact if_pos y
  rw[es] at k;rw[if_pos (by rw[le0];lia)]
  intro H' z kz;rw[a4k,v4] at z;exact k H' A _ _ z ⟨rfl,λ_=>rfl,λ_=>nf0,c0f (x:=.look) ↑3 ↑3,(λy=>(nomatch (show Stg.look=Stg.thing from y))),rfl⟩ kz (Nx.refl A H)
 ·have es:tstep L={ L with ts:=.free,bk:=if l9 L.os L.t=L.bk.length then L.bk++[a0m L.os L.f (L.t+1-L.f)] else L.bk }:=by unfold tstep;rw[e];exact if_neg y
  rw[es] at k;rw[if_neg (by rw[le0];lia)]
  intro p H' hp z kz;have eb:d5d L.bk Tq.nu (a0m L.os L.f (L.t+1-L.f))=if l9 L.os L.t=L.bk.length then L.bk++[a0m L.os L.f (L.t+1-L.f)] else L.bk:=by
   unfold d5d;rw[nu0];by_cases q:l9 L.os L.t=L.bk.length
   ·rw[if_pos q,if_pos ↑5]
   ·rw[if_neg q,if_neg ↑5]
  rw[eb,v4] at z;exact k H' _ Tq [] z ⟨rfl,λ_=>he0,λ_=>nf0,c0f (x:=.free) ↑3 ↑3,(λy=>(nomatch (show Stg.free=Stg.thing from y))),rfl⟩ kz (Nx.pa hp)
theorem d9a(hL:↑8)(ok:Ok L)(ht:TRel L Tq ps)(e:L.ts=.free)(k:a7y cl H A L (tstep L) Gq tl (lt.tch (tT L)) Q):b4p cl [.ref A.tk] H Q E:=by
 rw[show tT L=tTx .free L from congrArg (tTx · L) e] at k
 have hn:0<L.n:=ok.hn;have he0:Tq.he=.int ((L.t % (2*L.n):Nat):Int):=ht.he (by rw[e];rfl)
 have tn:=a3q (i:=L.t) hn;have nf0:Tq.nf=.int ((L.f % (2*L.n):Nat):Int):=by have:=ht.nf (by rw[e];rfl);rw[e] at this;exact this
 have fn:=a3q (i:=L.f) hn;have p0:ps=[]:=by rw[ht.pa];exact if_pos (.inr (.inl e))
 have es:tstep L={ L.put (4*(L.f % L.n)) (2*(lap L.n L.f:Int)) with ts:=.card,f:=L.f+1 }:=by unfold tstep;rw[e]
 rw[es] at k;refine⟨A,L.n,L.c,L.os,L.bk,L.gseen,L.tseen,ps,Gq,Tq,tl,lt,_,rfl,hL,nf0,fn.1,fn.2,λH' z kz=>?_⟩;rw[v4,a9u,Nat.add_zero,Int.add_zero] at z;exact k H' A Tq ps z ⟨rfl,λ_=>he0,λ_=>nf0,c0f (x:=.card) ↑3 ↑3,(λy=>(nomatch (show Stg.card=Stg.thing from y))),p0⟩ kz (Nx.refl A H)
theorem d9b(hL:↑8)(ok:Ok L)(ht:TRel L Tq ps)(e:L.ts=.card)(k:a7y cl H A L (tstep L) Gq tl (lt.tch (tT L)) Q):b0d cl [.ref A.tk] H Q E:=by
 rw[show tT L=tTx .card L from congrArg (tTx · L) e] at k
 have hn:0<L.n:=ok.hn;have he0:Tq.he=.int ((L.t % (2*L.n):Nat):Int):=ht.he (by rw[e];rfl)
 have tn:=a3q (i:=L.t) hn;have fp:0<L.f:=ok.tk.pos (by rw[e];rfl)
 have nf0:Tq.nf=.int (((L.f-1) % (2*L.n):Nat):Int):=by have:=ht.nf (by rw[e];rfl);rw[e] at this;exact this
 have fn:=a3q (i:=L.f-1) hn;have p0:ps=[]:=by rw[ht.pa];exact if_pos (.inr (.inr (by rw[e];rfl)))
 have lst:=ok.tk.last (.inr (by rw[e];rfl))
 have ft:L.f<=L.t+1:=by have:=ok.tk.ft;rw[e] at this;exact this
 have gf:=ok.core.gf;have eqt:(((L.f-1) % (2*L.n):Nat):Int)=((L.t % (2*L.n):Nat):Int) ↔ L.f=L.t+1:=by
  constructor
  ·intro z
   have:=c8t (n:=L.n) (i:=L.f-1) (j:=L.t) ↑5 ↑5 ↑5 hn;lia
  ·intro z
   rw[z]
   rfl
 have eqn:(((L.f-1+1) % (2*L.n):Nat):Int)=((L.f % (2*L.n):Nat):Int):=by rw[show L.f-1+1=L.f by lia]
 refine .inr ⟨A,L.n,L.c,L.os,L.bk,L.gseen,L.tseen,ps,Gq,Tq,tl,lt,_,_,rfl,hL,he0,nf0,fn.1,fn.2,?_⟩;rw[d2b,Nat.add_zero];by_cases y:L.c (4*L.n)=(((L.f-1+L.n) % (2*L.n):Nat):Int)
 ·have es:tstep L={ L with ts:=.ring }:=by unfold tstep;rw[e];exact if_pos y
  rw[es] at k;rw[if_pos y];intro H' z kz;exact k H' A Tq ps z ⟨rfl,λ_=>he0,λ_=>nf0,c0f (x:=.ring) ↑3 ↑3,(λy=>(nomatch (show Stg.ring=Stg.thing from y))),p0⟩ kz (Nx.refl A H)
 ·have e0:tstep L=b2u L:=by unfold tstep;rw[e];exact if_neg y
  rw[e0] at k;rw[if_neg y];intro H' z kz;by_cases y2:L.f=L.t+1
  ·have es:b2u L={ L with ts:=.look,t:=L.f }:=by unfold b2u;exact if_pos y2
   rw[es] at k;rw[if_pos (eqt.mpr y2)] at z ⊢;rw[a4k,eqn] at z;exact k H' A _ ps z ⟨rfl,λ_=>rfl,λ_=>rfl,c0f (x:=.look) ↑3 ↑3,(λy=>(nomatch (show Stg.look=Stg.thing from y))),by rw[p0];show[]=a0m L.os L.f (L.f-L.f);rw[Nat.sub_self];rfl⟩ kz (Nx.refl A H)
  ·have es:b2u L={ L with ts:=.free }:=by unfold b2u;exact if_neg y2
   rw[es] at k;rw[if_neg λq=>y2 (eqt.mp q)] at z ⊢;rw[a4k,eqn] at z;exact k H' A _ ps z ⟨rfl,λ_=>he0,λ_=>rfl,c0f (x:=.free) ↑3 ↑3,(λy=>(nomatch (show Stg.free=Stg.thing from y))),p0⟩ kz (Nx.refl A H)
theorem d8v(hL:↑8)(ok:Ok L)(ht:TRel L Tq ps)(e:L.ts=.ring)(k:a7y cl H A L (tstep L) Gq tl (lt.tch (tT L)) Q):a9z cl [.ref A.tk] H Q E:=by
 rw[show tT L=tTx .ring L from congrArg (tTx · L) e] at k
 have hn:0<L.n:=ok.hn;have he0:Tq.he=.int ((L.t % (2*L.n):Nat):Int):=ht.he (by rw[e];rfl)
 have tn:=a3q (i:=L.t) hn;have fp:0<L.f:=ok.tk.pos (by rw[e];rfl)
 have nf0:Tq.nf=.int (((L.f-1) % (2*L.n):Nat):Int):=by have:=ht.nf (by rw[e];rfl);rw[e] at this;exact this
 have fn:=a3q (i:=L.f-1) hn;have p0:ps=[]:=by rw[ht.pa];exact if_pos (.inr (.inr (by rw[e];rfl)))
 have lst:=ok.tk.last (.inr (by rw[e];rfl))
 have ft:L.f<=L.t+1:=by have:=ok.tk.ft;rw[e] at this;exact this
 have gf:=ok.core.gf;have eqt:(((L.f-1) % (2*L.n):Nat):Int)=((L.t % (2*L.n):Nat):Int) ↔ L.f=L.t+1:=by
  constructor
  ·intro z
   have:=c8t (n:=L.n) (i:=L.f-1) (j:=L.t) ↑5 ↑5 ↑5 hn;lia
  ·intro z
   rw[z]
   rfl
 have eqn:(((L.f-1+1) % (2*L.n):Nat):Int)=((L.f % (2*L.n):Nat):Int):=by rw[show L.f-1+1=L.f by lia]
 refine .inr ⟨A,L.n,L.c,L.os,L.bk,L.gseen,L.tseen,ps,Gq,Tq,tl,lt,_,_,rfl,hL,he0,nf0,fn.1,fn.2,λH' z kz=>?_⟩;have e0:tstep L=b2u (L.put (4*L.n+2) 1):=by unfold tstep;rw[e]
 rw[e0] at k
 ·skip
  by_cases y2:L.f=L.t+1
  ·have es:b2u (L.put (4*L.n+2) 1)={ (L.put (4*L.n+2) 1) with ts:=.look,t:=L.f }:=by unfold b2u;exact if_pos y2
   rw[es] at k;rw[if_pos (eqt.mpr y2)] at z ⊢;rw[a4k,eqn] at z;exact k H' A _ ps z ⟨rfl,λ_=>rfl,λ_=>rfl,c0f (x:=.look) ↑3 ↑3,(λy=>(nomatch (show Stg.look=Stg.thing from y))),by rw[p0];show[]=a0m L.os L.f (L.f-L.f);rw[Nat.sub_self];rfl⟩ kz (Nx.refl A H)
  ·have es:b2u (L.put (4*L.n+2) 1)={ (L.put (4*L.n+2) 1) with ts:=.free }:=by unfold b2u;exact if_neg y2
   rw[es] at k;rw[if_neg λq=>y2 (eqt.mp q)] at z ⊢;rw[a4k,eqn] at z;exact k H' A _ ps z ⟨rfl,λ_=>he0,λ_=>rfl,c0f (x:=.free) ↑3 ↑3,(λy=>(nomatch (show Stg.free=Stg.thing from y))),p0⟩ kz (Nx.refl A H)
theorem d5z(hL:↑8)(ok:Ok L)(ht:TRel L Tq ps)(e:L.ts=.marks)(k:a7y cl H A L (tstep L) Gq tl (lt.tch (tT L)) Q):a6z cl [.ref A.tk] H Q E:=by
 rw[show tT L=tTx .marks L from congrArg (tTx · L) e] at k
 have hn:0<L.n:=ok.hn;have n2:=ok.core.n2;have n8:=ok.core.n8;have sl:=ok.tk.seen.1;have sg:=ok.tk.seen.2;have p0:ps=[]:=by rw[ht.pa];exact if_pos (.inl (by rw[e];rfl))
 refine .inr ⟨A,L.n,L.c,L.os,L.bk,L.gseen,L.tseen,ps,Gq,Tq,tl,lt,rfl,hL,sl,?_⟩;by_cases y:L.tseen.length+1<L.n
 ·have es:tstep L={ L with tseen:=L.tseen++[L.c (4*L.tseen.length)] }:=by unfold tstep;rw[e];exact if_pos y
  rw[es] at k;rw[if_pos y];intro p H' hp z kz;have q:=k H' (A.setMt p) Tq ps z ⟨(by rw[e]),(λy=>by rw[e] at y;cases y),(λy=>by rw[e] at y;cases y),(λy=>by rw[e] at y;rcases y with y|y <;> cases y),(λy=>by rw[e] at y;cases y),(by rw[p0,e];rfl)⟩ kz Nx.ofMt
  have e3:b0l L.ts="marks":=by rw[e];rfl
  change Q (.str (b0l L.ts)) H' at q;rw[e3] at q;exact q
 ·have es:tstep L={ L with tseen:=[],ts:=.look }:=by unfold tstep;rw[e];exact if_neg y
  rw[es] at k;rw[if_neg y];have tf:=ok.tk.come (.inr (.inr (.inr e)));have all:∀(q:Nat)(m:Int),(L.tseen++[L.c (4*L.tseen.length)])[q]?=some m->(if m / 2≠m % 2 then (1:Int) else 0)=(b9a L.n L.f q:Int)/\0<=m/\m<=3:=λq m h=>by
   rcases c9f h with ⟨_,z⟩|⟨rfl,rfl⟩
   ·exact sg q m z
   ·exact⟨ok.core.mks.sides hn ok.core.fg ok.core.gf sl,ok.core.mks.range hn sl⟩
  refine⟨L.f % (2*L.n),d2k λq m h=>(all q m h).2,?_,λp H' hp z kz=>?_⟩
  ·rw[b8b hn (by rw[List.length_map,List.length_append];show L.tseen.length+1=L.n;lia) (λq m h=>?_),c0j n2 n8 (c0p hn)]
   rw[List.getElem?_map] at h;cases e2:(L.tseen++[L.c (4*L.tseen.length)])[q]? with
   | none=>rw[e2] at h;cases h
   | some m'=>
    rw[e2] at h;cases h;rw[<- (all q m' e2).1];unfold tbI;by_cases z:m' / 2=m' % 2
    ·rw[if_pos z,if_neg ↑5]
    ·rw[if_neg z,if_pos z]
  ·refine k H' (A.setMt p) _ ps z ⟨rfl,λ_=>by rw[tf],λ_=>rfl,c0f (x:=.look) ↑3 ↑3,(λy=>(nomatch (show Stg.look=Stg.thing from y))),?_⟩ kz Nx.ofMt
   rw[p0];show[]=a0m L.os L.f (L.t-L.f);rw[tf,Nat.sub_self]
   rfl
end
end
end
section
open PySem PySem.Spec L2 Pr
section
variable{P:Program}{w:World}{K:Frag}{mg:Str->Option Value}{base:Heap}{cl:Cl}
structure DT(P:Program)(w:World)(K:Frag)(mg:Str->Option Value)(base:Heap)(d:Addr)(k:Nat)(l:List (Str×Sp)):Prop where
 ex:∃kvs,KDict P w K d kvs/\(∀x sp,(x,sp)∈l->∃f ps,valueAt kvs x=some (.ref f)/\FnV P w K mg base f k ps sp)/\∀x,x ∉ l.map (·.1)->valueAt kvs x=none
def c6d(cl:Cl):List (Str×Sp):=[("rouse",a6y cl),("clear",a7a cl),("mute",b0a cl),("marks",a6z cl),("look",b0b cl),("wish",a9y cl),("again",a7b cl),("sleep",a6x cl),("hush",b0c cl),("unwish",a5b cl),("card",b0d cl),("ring",a9z cl)]
def b8y:List Str:=["rouse","clear","mute","marks","look","wish","again","sleep","hush","unwish","card","ring"]
theorem a3f{x:Str}(h:x ∉ b8y):x ∉ (c6d cl).map (·.1):=h
def e4n(cl:Cl):List (Str×Sp):=[("told",b4n cl),("lacks",b1e cl),("number",a0i cl),("left",a1j cl),("thing",a0t cl),("mark",b4o cl)]
def e4m(cl:Cl):List (Str×Sp):=[("number",a0h cl),("left",a1i cl),("thing",a0s cl),("free",b4p cl)]
def a6e(cl:Cl):Sp:=λvs H Q E=>ExL λA n c os bk gs ts ps Gq Tq tl lt=>∃(sp:Sp),vs=[.ref A.gv]/\LH cl H A n c os bk gs ts ps Gq Tq tl lt/\(Gq.st,sp)∈e4n cl/\sp [.ref A.gv] H Q E
abbrev a3x:Stmt:=j4 (top 96) 17
theorem a6k:d9 ["self","deed"] ["self"] (d7 a3x):=↑1
theorem b5p(D:DefM K cl.Giver "own_deed" "Giver.own_deed" a3x ["self"])(T:Txt K mg cl)(O:DT P w K mg base cl.d_DEEDS_giver 5 (e4n cl)):MethT P w K mg base cl.Giver "own_deed" 6 ["self"] (a6e cl):=by
 refine D.fn a6k ↑7 ↑4
 ·walk_at "len"
 ·obtain⟨A,n,c,os,bk,gs,ts,ps,Gq,Tq,tl,lt,sp,rfl,hL,hm,k⟩:=h
  refine⟨_,(d5 (j9 (i:=1) a6k.nd rfl (.inl rfl) (u9 (c8g (K:=K)) (a1w T.r_DEEDS_giver rfl) ↑6 (λ_ _=>rfl)))
   (d8 (g4 (b6z (k:=5) (i:=1) rfl (Or.inl rfl) hr ↑3 f9 (a7 (pv 0) b7))))),?_⟩
  obtain⟨dx,ex⟩:=hL.gv;obtain⟨kvs,kd,hv,_⟩:=O.ex;obtain⟨fa,pn,e1,F⟩:=hv _ _ hm;fail "";refine⟨cl.d_DEEDS_giver,_,kvs,_,.ref fa,rfl,rfl,kd,e1,rfl,?_⟩;fail "";refine⟨fa,pn,sp,rfl,F,?_⟩;fail "";exact k
def a6d(cl:Cl):Sp:=λvs H Q E=>ExL λA n c os bk gs ts ps Gq Tq tl lt=>∃(sp:Sp),vs=[.ref A.tk]/\LH cl H A n c os bk gs ts ps Gq Tq tl lt/\(Tq.st,sp)∈e4m cl/\sp [.ref A.tk] H Q E
abbrev a3v:Stmt:=j4 (top 106) 11
theorem a6i:d9 ["self","deed"] ["self"] (d7 a3v):=↑1
theorem b5m(D:DefM K cl.Taker "own_deed" "Taker.own_deed" a3v ["self"])(T:Txt K mg cl)(O:DT P w K mg base cl.d_DEEDS_taker 5 (e4m cl)):MethT P w K mg base cl.Taker "own_deed" 6 ["self"] (a6d cl):=by
 refine D.fn a6i ↑7 ↑4
 ·walk_at "len"
 ·obtain⟨A,n,c,os,bk,gs,ts,ps,Gq,Tq,tl,lt,sp,rfl,hL,hm,k⟩:=h
  refine⟨_,(d5 (j9 (i:=1) a6i.nd rfl (.inl rfl) (u9 (c8g (K:=K)) (a1w T.r_DEEDS_taker rfl) ↑6 (λ_ _=>rfl)))
   (d8 (g4 (b6z (k:=5) (i:=1) rfl (Or.inl rfl) hr ↑3 f9 (a7 (pv 0) b7))))),?_⟩
  obtain⟨dx,ex⟩:=hL.tk;obtain⟨kvs,kd,hv,_⟩:=O.ex;obtain⟨fa,pn,e1,F⟩:=hv _ _ hm;fail "";refine⟨cl.d_DEEDS_taker,_,kvs,_,.ref fa,rfl,rfl,kd,e1,rfl,?_⟩;fail "";refine⟨fa,pn,sp,rfl,F,?_⟩;fail "";exact k
section
variable{H:Hp}{A:Ad}{L:Ln}{ps:List Int}{Gq:Gm}{Tq:Tm}{tl:List Tr}{lt:Lt}
theorem e3s(hL:↑8)(ok:Ok L)(hg:GRel L Gq)(hp:L.gs=.look->L.g<tot L.os):
  (∃sp,(Gq.st,sp)∈c6d cl/\∀Q E,a6t cl H A L (gstep L) ps Tq tl (lt.tch (gT L)) Q->sp [.ref A.gv] H Q E)\/(Gq.st ∉ (c6d cl).map (·.1)/\∃sp,(Gq.st,sp)∈e4n cl/\∀Q E,a6t cl H A L (gstep L) ps Tq tl (lt.tch (gT L)) Q->sp [.ref A.gv] H Q E):=by
 rw[hg.st];cases e:L.gs with
 | rouse=>exact .inl ⟨_,.head _,λQ E k=>d7h hL ok hg e k⟩
 | clear=>exact .inl ⟨_,.tail _ (.head _),λQ E k=>d7k hL ok hg e k⟩
 | mute=>exact .inl ⟨_,.tail _ (.tail _ (.head _)),λQ E k=>e0k hL ok hg e k⟩
 | marks=>exact .inl ⟨_,.tail _ (.tail _ (.tail _ (.head _))),λQ E k=>d7i hL ok hg e k⟩
 | look=>exact .inl ⟨_,.tail _ (.tail _ (.tail _ (.tail _ (.head _)))),λQ E k=>e0m hL ok hg e (hp e) k⟩
 | wish=>exact .inl ⟨_,.tail _ (.tail _ (.tail _ (.tail _ (.tail _ (.head _))))),λQ E k=>e0h hL ok hg e k⟩
 | again=>exact .inl ⟨_,.tail _ (.tail _ (.tail _ (.tail _ (.tail _ (.tail _ (.head _)))))),λQ E k=>d7l hL ok hg e k⟩
 | sleep=>exact .inl ⟨_,.tail _ (.tail _ (.tail _ (.tail _ (.tail _ (.tail _ (.tail _ (.head _))))))),λQ E k=>d7g hL ok hg e k⟩
 | hush=>exact .inl ⟨_,.tail _ (.tail _ (.tail _ (.tail _ (.tail _ (.tail _ (.tail _ (.tail _ (.head _)))))))),λQ E k=>e0o hL ok hg e k⟩
 | unwish=>exact .inl ⟨_,.tail _ (.tail _ (.tail _ (.tail _ (.tail _ (.tail _ (.tail _ (.tail _ (.tail _ (.head _))))))))),λQ E k=>d4e hL ok hg e k⟩
 | card=>exact .inl ⟨_,.tail _ (.tail _ (.tail _ (.tail _ (.tail _ (.tail _ (.tail _ (.tail _ (.tail _ (.tail _ (.head _)))))))))),λQ E k=>e0p hL ok hg e k⟩
 | ring=>exact .inl ⟨_,.tail _ (.tail _ (.tail _ (.tail _ (.tail _ (.tail _ (.tail _ (.tail _ (.tail _ (.tail _ (.tail _ (.head _))))))))))),λQ E k=>e0j hL ok hg e k⟩
 | told=>exact .inr ⟨a3f (show("told":Str) ∉ b8y by decide),_,.head _,λQ E k=>e0i hL ok hg e k⟩
 | lacks=>exact .inr ⟨a3f (show("lacks":Str) ∉ b8y by decide),_,.tail _ (.head _),λQ E k=>d7j hL ok hg e k⟩
 | number=>exact .inr ⟨a3f (show("number":Str) ∉ b8y by decide),_,.tail _ (.tail _ (.head _)),λQ E k=>d4f hL ok hg e k⟩
 | left=>exact .inr ⟨a3f (show("left":Str) ∉ b8y by decide),_,.tail _ (.tail _ (.tail _ (.head _))),λQ E k=>e0n hL ok hg e k⟩
 | thing=>exact .inr ⟨a3f (show("thing":Str) ∉ b8y by decide),_,.tail _ (.tail _ (.tail _ (.tail _ (.head _)))),λQ E k=>d7f hL ok hg e k⟩
 | mark=>exact .inr ⟨a3f (show("mark":Str) ∉ b8y by decide),_,.tail _ (.tail _ (.tail _ (.tail _ (.tail _ (.head _))))),λQ E k=>e0l hL ok hg e k⟩
 | free=>exact absurd e ok.gv.st
theorem e1i(hL:↑8)(ok:Ok L)(ht:TRel L Tq ps)(hb:L.bk.length<=400):
  (∃sp,(Tq.st,sp)∈c6d cl/\∀Q E,a7y cl H A L (tstep L) Gq tl (lt.tch (tT L)) Q->sp [.ref A.tk] H Q E)\/(Tq.st ∉ (c6d cl).map (·.1)/\∃sp,(Tq.st,sp)∈e4m cl/\∀Q E,a7y cl H A L (tstep L) Gq tl (lt.tch (tT L)) Q->sp [.ref A.tk] H Q E):=by
 rw[ht.st];cases e:L.ts with
 | rouse=>exact .inl ⟨_,.head _,λQ E k=>d5y hL ok ht e k⟩
 | clear=>exact .inl ⟨_,.tail _ (.head _),λQ E k=>d6a hL ok ht e k⟩
 | mute=>exact .inl ⟨_,.tail _ (.tail _ (.head _)),λQ E k=>d8w hL ok ht e k⟩
 | marks=>exact .inl ⟨_,.tail _ (.tail _ (.tail _ (.head _))),λQ E k=>d5z hL ok ht e k⟩
 | look=>exact .inl ⟨_,.tail _ (.tail _ (.tail _ (.tail _ (.head _)))),λQ E k=>d8x hL ok ht e k⟩
 | wish=>exact .inl ⟨_,.tail _ (.tail _ (.tail _ (.tail _ (.tail _ (.head _))))),λQ E k=>d8u hL ok ht e k⟩
 | again=>exact .inl ⟨_,.tail _ (.tail _ (.tail _ (.tail _ (.tail _ (.tail _ (.head _)))))),λQ E k=>d6b hL ok ht e k⟩
 | sleep=>exact .inl ⟨_,.tail _ (.tail _ (.tail _ (.tail _ (.tail _ (.tail _ (.tail _ (.head _))))))),λQ E k=>d5x hL ok ht e k⟩
 | hush=>exact .inl ⟨_,.tail _ (.tail _ (.tail _ (.tail _ (.tail _ (.tail _ (.tail _ (.tail _ (.head _)))))))),λQ E k=>d8z hL ok ht e k⟩
 | unwish=>exact .inl ⟨_,.tail _ (.tail _ (.tail _ (.tail _ (.tail _ (.tail _ (.tail _ (.tail _ (.tail _ (.head _))))))))),λQ E k=>d2f hL ok ht e k⟩
 | card=>exact .inl ⟨_,.tail _ (.tail _ (.tail _ (.tail _ (.tail _ (.tail _ (.tail _ (.tail _ (.tail _ (.tail _ (.head _)))))))))),λQ E k=>d9b hL ok ht e k⟩
 | ring=>exact .inl ⟨_,.tail _ (.tail _ (.tail _ (.tail _ (.tail _ (.tail _ (.tail _ (.tail _ (.tail _ (.tail _ (.tail _ (.head _))))))))))),λQ E k=>d8v hL ok ht e k⟩
 | number=>exact .inr ⟨a3f (show("number":Str) ∉ b8y by decide),_,.head _,λQ E k=>d2g hL ok ht e k⟩
 | left=>exact .inr ⟨a3f (show("left":Str) ∉ b8y by decide),_,.tail _ (.head _),λQ E k=>d8y hL ok ht e k⟩
 | thing=>exact .inr ⟨a3f (show("thing":Str) ∉ b8y by decide),_,.tail _ (.tail _ (.head _)),λQ E k=>d5w hL ok ht e hb k⟩
 | free=>exact .inr ⟨a3f (show("free":Str) ∉ b8y by decide),_,.tail _ (.tail _ (.tail _ (.head _))),λQ E k=>d9a hL ok ht e k⟩
 | told=>exact absurd e ok.tk.st.1
 | lacks=>exact absurd e ok.tk.st.2.1
 | mark=>exact absurd e ok.tk.st.2.2
end
def c9n(tl:List Tr):Lt:=⟨(tl.length:Int),tl.getLast?.map (·.2)⟩
theorem b7a(tl:List Tr)(b:Bool)(t:Tc):c9n (tl++[(b,t)])=(c9n tl).tch t:=by
 unfold c9n Lt.tch;rw[List.length_append,List.getLast?_append];simp
def LR(cl:Cl)(H:Hp)(A:Ad)(L:Ln)(tl:List Tr):Prop:=∃ps Gq Tq,∃_u:Unit,LH cl H A L.n L.c L.os L.bk L.gseen L.tseen ps Gq Tq tl (c9n tl)/\GRel L Gq/\TRel L Tq ps/\Ok L
theorem KpA.updE{A:Ad}{H:Hp}{j:Nat}{x:Addr}{o:HO}(h:x=A.o j)(hj:j<8):KpA A H (L2.upd H x o):=h ▸ KpA.upd hj
def b0m(b:Bool)(L:Ln):Ln:=if b then gstep L else tstep L
def a7w(b:Bool)(L:Ln):Bool:=b && (decide (L.gs=.look) && decide (tot L.os<=L.g))
def e6m(b:Bool)(L:Ln):Tc:=if b then gT L else tT L
def trB(b:Bool)(L:Ln)(tl:List Tr):List Tr:=if a7w b L then tl else tl++[(b,e6m b L)]
theorem d5t{b:Bool}{L:Ln}{tl:List Tr}(h:a7w b L=true):trB b L tl=tl:=if_pos h
theorem c8w{b:Bool}{L:Ln}{tl:List Tr}(h:a7w b L=false):trB b L tl=tl++[(b,e6m b L)]:=if_neg (by rw[h];decide)
theorem a6r(L:Ln):(gstep L).n=L.n/\(gstep L).os=L.os/\(gstep L).bk=L.bk/\(gstep L).tseen=L.tseen/\(gstep L).ts=L.ts/\(gstep L).f=L.f/\(gstep L).t=L.t:=by
 unfold gstep;cases L.gs <;> dsimp only <;> (repeat' split) <;> exact⟨rfl,rfl,rfl,rfl,rfl,rfl,rfl⟩
theorem a6c(L:Ln):(tstep L).n=L.n/\(tstep L).os=L.os/\(tstep L).gseen=L.gseen/\(tstep L).gs=L.gs/\(tstep L).g=L.g:=by
 unfold tstep b2u;cases L.ts <;> dsimp only <;> (repeat' split) <;> exact⟨rfl,rfl,rfl,rfl,rfl⟩
theorem TRel.gstep{L:Ln}{Tq:Tm}{ps:List Int}(h:TRel L Tq ps):TRel (gstep L) Tq ps:=by
 obtain⟨n,os,_,_,ts,f,t⟩:=a6r L;exact⟨by rw[ts];exact h.st,by rw[ts,t,n];exact h.he,by rw[ts,f,n];exact h.nf,by rw[ts,os,t];exact h.nu,by rw[ts,os,t];exact h.le,by rw[ts,os,f,t];exact h.pa⟩
theorem GRel.tstep{L:Ln}{Gq:Gm}(h:GRel L Gq):GRel (tstep L) Gq:=by
 obtain⟨n,os,_,gs,g⟩:=a6c L;have gi':gi (Pr.tstep L)=gi L:=by unfold gi;rw[gs,g]
 exact⟨by rw[gs];exact h.st,by rw[gs,gi',n];exact h.he,by rw[gs,gi',os];exact h.nu,by rw[gs,gi',os];exact h.le⟩
theorem c1u{L:Ln}{Gq:Gm}(ok:Ok L)(hg:GRel L Gq):(Gq.st="look"->b0v L.os Gq.nu Gq.le)/\(decide (Gq.st="look") && !b5s L.os Gq.nu Gq.le)=a7w true L:=by
 by_cases e:L.gs=.look
 ·have g0:gi L=L.g:=d7c e ↑3
  have nu0:Gq.nu=v3 L.os L.g:=by rw[<- g0];exact hg.nu (by rw[e];decide) (by rw[e];decide)
  have le0:Gq.le=v9 L.os L.g:=by rw[<- g0];exact hg.le (by rw[e];decide) (by rw[e];decide) (by rw[e];decide)
  have s0:Gq.st="look":=by rw[hg.st,e];rfl
  rw[nu0,le0];refine⟨λ_=>b0f (n:=L.n) ok.core.gt,?_⟩;unfold a7w;rw[s0,e,d1u ok.core.good ok.core.gt];by_cases y:L.g<tot L.os
  ·rw[decide_eq_true y,decide_eq_false (p:=tot L.os<=L.g) ↑5];rfl
  ·rw[decide_eq_false y,decide_eq_true (p:=tot L.os<=L.g) ↑5];rfl
 ·have s0:Gq.st≠"look":=by
   rw[hg.st];intro z;apply e;cases q:L.gs <;> rw[q] at z <;> first|rfl|exact absurd z ↑3
  refine⟨λz=>absurd z s0,?_⟩;unfold a7w;rw[decide_eq_false s0,decide_eq_false e]
  rfl
theorem d0t{L:Ln}(h:a7w true L=true):gstep L=L:=by
 unfold a7w at h;rw[Bool.true_and,Bool.and_eq_true,decide_eq_true_eq,decide_eq_true_eq] at h;unfold gstep;rw[h.1];exact if_neg ↑5
abbrev a4v:Stmt:=j4 (top 80) 4
theorem a5h:d9 ["self","deed"] ["self"] (d7 a4v):=↑1
theorem c2u(D:DefM K cl.Giver "step" "Hand.step" a4v ["self"])(T:Txt K mg cl)(GR:MethT P w K mg base cl.Giver "resting" 4 ["self"] (a3s cl))(O:DT P w K mg base cl.d_DEEDS_hand 7 (c6d cl))(GO:MethT P w K mg base cl.Giver "own_deed" 6 ["self"] (a6e cl))(G_Board_last_touch:MethT P w K mg base cl.Board "last_touch" 1 ["self"] (a1q cl)):MethT P w K mg base cl.Giver "step" 8 ["self"] (λvs H Q E=>∃(A:Ad)(L:Ln)(tl:List Tr),vs=[.ref A.gv]/\LR cl H A L tl/\L.os.length<=400/\tl.length<=4000000/\∀H' A',LR cl H' A' (b0m true L) (trB true L tl)->KpA A H H'->Nx A A' H->Q (.bl (!a7w true L)) H'):=by
 refine D.fn a5h ↑7 ↑4
 ·walk_at "len"
 ·obtain⟨A,L,tl,rfl,⟨ps,Gq,Tq,lt,hL,hg,ht,ok⟩,os4,tl5,k⟩:=h
  refine⟨_,(d5 (a0q (b3u (i9 (k:=4) (pv 0) hr ↑3 f9))
     (d8 (g4 a6o))
     r0)
   (d5 (a0q (k7 (c1z (K:=K)) ↑6 (a1w T.r_DEEDS_hand rfl) (by with_unfolding_all rfl))
     (
     d5 (j9 (i:=1) a5h.nd rfl (.inl rfl) (u9 (c8g (K:=K)) (a1w T.r_DEEDS_hand rfl) ↑6 (λ_ _=>rfl)))
     (d8 (j1 (K:=K) (pv 0) (b6z (k:=7) (i:=1) rfl (Or.inl rfl) hr ↑3 f9 (a7 (pv 0) b7)))))
     (d8 (j1 (K:=K) (pv 0) (i9 (k:=6) (pv 0) hr ↑3 f9))))
   (d5 (i8 (a3b (K:=K) ↑6 (a7 (m6 (op_catTK (K:=K)) (a4x (a7 ↑6 b7)) (a2k ↑6 T.k_Board G_Board_last_touch hr ↑3 f9)) b7)))
   (d8 (g4 a6o))))),?_⟩
  obtain⟨dx,ex⟩:=hL.gv;obtain⟨kvs,kd,hv,hno⟩:=O.ex;fail "f";refine⟨A.gv,cl.Giver,dx,_,_,_,rfl,ex,rfl,T.k_Giver,GR,?_⟩;fail "";refine⟨A,_,_,_,_,_,_,ps,Gq,Tq,tl,_,rfl,hL,(c1u ok hg).1,?_⟩;rw[(c1u ok hg).2];fail "";refine c6f (λy=>?_) (λy=>?_)
  ·fail ""
   have q:=k H A (by rw[d5t y,show b0m true L=L from d0t y];exact⟨ps,Gq,Tq,lt,hL,hg,ht,ok⟩) (λ_ _ e _=>e) (Nx.refl A H)
   rw[y] at q;exact q
  have nr:L.gs=.look->L.g<tot L.os:=λz=>by
   unfold a7w at y;rw[z,Bool.true_and] at y;have:¬ tot L.os<=L.g:=λz2=>by rw[decide_eq_true z2] at y;cases y
   lia
  rcases e3s hL ok hg nr with ⟨sp,hm,hd⟩|⟨hn,sp,hm,hd⟩
  ·obtain⟨fa,pn,e1,F⟩:=hv _ _ hm
   fail "";refine⟨cl.d_DEEDS_hand,_,kvs,rfl,rfl,kd,?_⟩;rw[e1];refine⟨true,rfl,?_⟩;rw[if_pos rfl];fail "";refine⟨cl.d_DEEDS_hand,_,kvs,_,.ref fa,rfl,rfl,kd,e1,rfl,?_⟩;fail "";refine⟨fa,pn,sp,rfl,F,?_⟩;fail "";refine hd _ _ λH1 A1 Gq1 z1 z2 z3 z4=>?_;have ea:A.gv=A1.gv:=(z4.1 2 ↑5).symm;have e4:A1.kt=A.kt:=z4.1 4 ↑5;obtain⟨dx1,ex1⟩:=z1.gv;obtain⟨xs,ext,lxs,_⟩:=z1.tr;have lxm:(xs.map V.ref).length=tl.length:=by rw[List.length_map];exact lxs
   have n24:A1.kt≠A.gv:=by rw[ea];exact z1.nd 4 2 ↑5 ↑5 ↑5
   have z5:LH cl (upd H1 A.gv (gvO cl dx1 A1 { Gq1 with st:=b0l (gstep L).gs })) A1 L.n (gstep L).c L.os L.bk (gstep L).gseen L.tseen ps { Gq1 with st:=b0l (gstep L).gs } Tq tl ((c9n tl).tch (gT L)):=by rw[ea];exact z1.setG
   rw[<- ea] at ex1;fail "";refine⟨by decide,λp hp=>?_⟩
   have z6:=z5.same (f8 (o:=.tup [.str "giver"]) hp);obtain⟨many,last,hB,hLt⟩:=z6.brd;obtain⟨tt,rfl,nt,ett⟩:=hLt.2.2 _ rfl;obtain⟨⟨dxb,eb⟩,_⟩:=id hB;fail "";refine⟨A1.bd,A1.l,L.n,_,many,.ref tt,rfl,hB,?_⟩;fail "";refine⟨p,tt,_,_,rfl,rfl,SqT.of b8,SqT.of ett,(λz=>(nomatch z)),(show 1+3<=sizeLine by decide),(λz=>(nomatch z)),λ_ p2 hp2=>?_⟩
   have z7:=(z6.same (f8 (o:=.tup ([.str "giver"]++[.str (gT L).d,.int (gT L).k,.int (gT L).x])) hp2));have h60:5000000<=sizeLine:=by decide
   have np:A1.kt≠p:=λz=>by rw[<- z,d6 n24,ext] at hp;cases hp
   have np2:A1.kt≠p2:=λz=>by rw[<- z,d6 np,d6 n24,ext] at hp2;cases hp2
   fail "";have z8:=z7.setTr (t:=(true,gT L)) (by rw[d6 np2,d6 np,d6 n24];exact ext) (z6.off hp2) (z6.nfo hp2) b8
   have q:=k _ A1 (by rw[c8w y];exact⟨ps,_,Tq,lt,(by obtain⟨sn,so,sb,st,_⟩:=a6r L;show LH cl _ A1 (gstep L).n (gstep L).c (gstep L).os (gstep L).bk (gstep L).gseen (gstep L).tseen _ _ _ (tl++[(true,gT L)]) (c9n (tl++[(true,gT L)]));rw[sn,so,sb,st,b7a];exact z8),z2,ht.gstep,c9p ok⟩) ((((z3.trans (KpA.upd (j:=2) ↑5)).trans (KpA.of (f8 hp))).trans (KpA.of (f8 hp2))).trans (KpA.updE (j:=4) e4 ↑5)) z4
   rw[y] at q;exact q
  ·fail ""
   refine⟨cl.d_DEEDS_hand,_,kvs,rfl,rfl,kd,?_⟩;rw[hno _ hn];refine⟨false,rfl,?_⟩;rw[if_neg ↑3];fail "f";refine⟨A.gv,cl.Giver,dx,_,_,_,rfl,ex,rfl,T.k_Giver,GO,?_⟩;fail "";refine⟨A,_,_,_,_,_,_,ps,Gq,Tq,tl,_,sp,rfl,hL,hm,?_⟩;refine hd _ _ λH1 A1 Gq1 z1 z2 z3 z4=>?_;have ea:A.gv=A1.gv:=(z4.1 2 ↑5).symm;have e4:A1.kt=A.kt:=z4.1 4 ↑5;obtain⟨dx1,ex1⟩:=z1.gv;obtain⟨xs,ext,lxs,_⟩:=z1.tr;have lxm:(xs.map V.ref).length=tl.length:=by rw[List.length_map];exact lxs
   have n24:A1.kt≠A.gv:=by rw[ea];exact z1.nd 4 2 ↑5 ↑5 ↑5
   have z5:LH cl (upd H1 A.gv (gvO cl dx1 A1 { Gq1 with st:=b0l (gstep L).gs })) A1 L.n (gstep L).c L.os L.bk (gstep L).gseen L.tseen ps { Gq1 with st:=b0l (gstep L).gs } Tq tl ((c9n tl).tch (gT L)):=by rw[ea];exact z1.setG
   rw[<- ea] at ex1;fail "";refine⟨by decide,λp hp=>?_⟩
   have z6:=z5.same (f8 (o:=.tup [.str "giver"]) hp);obtain⟨many,last,hB,hLt⟩:=z6.brd;obtain⟨tt,rfl,nt,ett⟩:=hLt.2.2 _ rfl;obtain⟨⟨dxb,eb⟩,_⟩:=id hB;fail "";refine⟨A1.bd,A1.l,L.n,_,many,.ref tt,rfl,hB,?_⟩;fail "";refine⟨p,tt,_,_,rfl,rfl,SqT.of b8,SqT.of ett,(λz=>(nomatch z)),(show 1+3<=sizeLine by decide),(λz=>(nomatch z)),λ_ p2 hp2=>?_⟩
   have z7:=(z6.same (f8 (o:=.tup ([.str "giver"]++[.str (gT L).d,.int (gT L).k,.int (gT L).x])) hp2));have h60:5000000<=sizeLine:=by decide
   have np:A1.kt≠p:=λz=>by rw[<- z,d6 n24,ext] at hp;cases hp
   have np2:A1.kt≠p2:=λz=>by rw[<- z,d6 np,d6 n24,ext] at hp2;cases hp2
   fail "";have z8:=z7.setTr (t:=(true,gT L)) (by rw[d6 np2,d6 np,d6 n24];exact ext) (z6.off hp2) (z6.nfo hp2) b8
   have q:=k _ A1 (by rw[c8w y];exact⟨ps,_,Tq,lt,(by obtain⟨sn,so,sb,st,_⟩:=a6r L;show LH cl _ A1 (gstep L).n (gstep L).c (gstep L).os (gstep L).bk (gstep L).gseen (gstep L).tseen _ _ _ (tl++[(true,gT L)]) (c9n (tl++[(true,gT L)]));rw[sn,so,sb,st,b7a];exact z8),z2,ht.gstep,c9p ok⟩) ((((z3.trans (KpA.upd (j:=2) ↑5)).trans (KpA.of (f8 hp))).trans (KpA.of (f8 hp2))).trans (KpA.updE (j:=4) e4 ↑5)) z4
   rw[y] at q;exact q
theorem c2l(D:DefM K cl.Taker "step" "Hand.step" a4v ["self"])(T:Txt K mg cl)(GR:MethT P w K mg base cl.Taker "resting" 4 ["self"] (a3r cl))(O:DT P w K mg base cl.d_DEEDS_hand 7 (c6d cl))(GO:MethT P w K mg base cl.Taker "own_deed" 6 ["self"] (a6d cl))(G_Board_last_touch:MethT P w K mg base cl.Board "last_touch" 1 ["self"] (a1q cl)):MethT P w K mg base cl.Taker "step" 8 ["self"] (λvs H Q E=>∃(A:Ad)(L:Ln)(tl:List Tr),vs=[.ref A.tk]/\LR cl H A L tl/\L.os.length<=400/\tl.length<=4000000/\∀H' A',LR cl H' A' (b0m false L) (trB false L tl)->KpA A H H'->Nx A A' H->Q (.bl (!a7w false L)) H'):=by
 refine D.fn a5h ↑7 ↑4
 ·walk_at "len"
 ·obtain⟨A,L,tl,rfl,⟨ps,Gq,Tq,lt,hL,hg,ht,ok⟩,os4,tl5,k⟩:=h
  refine⟨_,(d5 (a0q (b3u (i9 (k:=4) (pv 0) hr ↑3 f9))
     (d8 (g4 a6o))
     r0)
   (d5 (a0q (k7 (c1z (K:=K)) ↑6 (a1w T.r_DEEDS_hand rfl) (by with_unfolding_all rfl))
     (
     d5 (j9 (i:=1) a5h.nd rfl (.inl rfl) (u9 (c8g (K:=K)) (a1w T.r_DEEDS_hand rfl) ↑6 (λ_ _=>rfl)))
     (d8 (j1 (K:=K) (pv 0) (b6z (k:=7) (i:=1) rfl (Or.inl rfl) hr ↑3 f9 (a7 (pv 0) b7)))))
     (d8 (j1 (K:=K) (pv 0) (i9 (k:=6) (pv 0) hr ↑3 f9))))
   (d5 (i8 (a3b (K:=K) ↑6 (a7 (m6 (op_catTK (K:=K)) (a4x (a7 ↑6 b7)) (a2k ↑6 T.k_Board G_Board_last_touch hr ↑3 f9)) b7)))
   (d8 (g4 a6o))))),?_⟩
  obtain⟨dx,ex⟩:=hL.tk;obtain⟨kvs,kd,hv,hno⟩:=O.ex;fail "f";refine⟨A.tk,cl.Taker,dx,_,_,_,rfl,ex,rfl,T.k_Taker,GR,?_⟩;fail "";refine⟨A,_,_,_,_,_,_,ps,Gq,Tq,tl,_,0,rfl,hL,?_⟩;fail "";rcases e1i hL ok ht (Nat.le_trans ok.tk.bl os4) with ⟨sp,hm,hd⟩|⟨hn,sp,hm,hd⟩
  ·obtain⟨fa,pn,e1,F⟩:=hv _ _ hm
   fail "";refine⟨cl.d_DEEDS_hand,_,kvs,rfl,rfl,kd,?_⟩;rw[e1];refine⟨true,rfl,?_⟩;rw[if_pos rfl];fail "";refine⟨cl.d_DEEDS_hand,_,kvs,_,.ref fa,rfl,rfl,kd,e1,rfl,?_⟩;fail "";refine⟨fa,pn,sp,rfl,F,?_⟩;fail "";refine hd _ _ λH1 A1 Tq1 ps1 z1 z2 z3 z4=>?_;have ea:A.tk=A1.tk:=(z4.1 3 ↑5).symm;have e4:A1.kt=A.kt:=z4.1 4 ↑5;obtain⟨dx1,ex1⟩:=z1.tk;obtain⟨xs,ext,lxs,_⟩:=z1.tr;have lxm:(xs.map V.ref).length=tl.length:=by rw[List.length_map];exact lxs
   have n24:A1.kt≠A.tk:=by rw[ea];exact z1.nd 4 3 ↑5 ↑5 ↑5
   have z5:LH cl (upd H1 A.tk (tkO cl dx1 A1 { Tq1 with st:=b0l (tstep L).ts })) A1 L.n (tstep L).c L.os (tstep L).bk L.gseen (tstep L).tseen ps1 Gq { Tq1 with st:=b0l (tstep L).ts } tl ((c9n tl).tch (tT L)):=by rw[ea];exact z1.setT
   rw[<- ea] at ex1;fail "";refine⟨by decide,λp hp=>?_⟩
   have z6:=z5.same (f8 (o:=.tup [.str "taker"]) hp);obtain⟨many,last,hB,hLt⟩:=z6.brd;obtain⟨tt,rfl,nt,ett⟩:=hLt.2.2 _ rfl;obtain⟨⟨dxb,eb⟩,_⟩:=id hB;fail "";refine⟨A1.bd,A1.l,L.n,_,many,.ref tt,rfl,hB,?_⟩;fail "";refine⟨p,tt,_,_,rfl,rfl,SqT.of b8,SqT.of ett,(λz=>(nomatch z)),(show 1+3<=sizeLine by decide),(λz=>(nomatch z)),λ_ p2 hp2=>?_⟩
   have z7:=(z6.same (f8 (o:=.tup ([.str "taker"]++[.str (tT L).d,.int (tT L).k,.int (tT L).x])) hp2));have h60:5000000<=sizeLine:=by decide
   have np:A1.kt≠p:=λz=>by rw[<- z,d6 n24,ext] at hp;cases hp
   have np2:A1.kt≠p2:=λz=>by rw[<- z,d6 np,d6 n24,ext] at hp2;cases hp2
   fail "";have z8:=z7.setTr (t:=(false,tT L)) (by rw[d6 np2,d6 np,d6 n24];exact ext) (z6.off hp2) (z6.nfo hp2) b8
   have q:=k _ A1 (by rw[c8w (b:=false) rfl];exact⟨ps1,Gq,_,lt,(by obtain⟨sn,so,sb,st,_⟩:=a6c L;show LH cl _ A1 (tstep L).n (tstep L).c (tstep L).os (tstep L).bk (tstep L).gseen (tstep L).tseen _ _ _ (tl++[(false,tT L)]) (c9n (tl++[(false,tT L)]));rw[sn,so,sb,b7a];exact z8),hg.tstep,z2,c8v ok⟩) ((((z3.trans (KpA.upd (j:=3) ↑5)).trans (KpA.of (f8 hp))).trans (KpA.of (f8 hp2))).trans (KpA.updE (j:=4) e4 ↑5)) z4
   exact q
  ·fail ""
   refine⟨cl.d_DEEDS_hand,_,kvs,rfl,rfl,kd,?_⟩;rw[hno _ hn];refine⟨false,rfl,?_⟩;rw[if_neg ↑3];fail "f";refine⟨A.tk,cl.Taker,dx,_,_,_,rfl,ex,rfl,T.k_Taker,GO,?_⟩;fail "";refine⟨A,_,_,_,_,_,_,ps,Gq,Tq,tl,_,sp,rfl,hL,hm,?_⟩;refine hd _ _ λH1 A1 Tq1 ps1 z1 z2 z3 z4=>?_;have ea:A.tk=A1.tk:=(z4.1 3 ↑5).symm;have e4:A1.kt=A.kt:=z4.1 4 ↑5;obtain⟨dx1,ex1⟩:=z1.tk;obtain⟨xs,ext,lxs,_⟩:=z1.tr;have lxm:(xs.map V.ref).length=tl.length:=by rw[List.length_map];exact lxs
   have n24:A1.kt≠A.tk:=by rw[ea];exact z1.nd 4 3 ↑5 ↑5 ↑5
   have z5:LH cl (upd H1 A.tk (tkO cl dx1 A1 { Tq1 with st:=b0l (tstep L).ts })) A1 L.n (tstep L).c L.os (tstep L).bk L.gseen (tstep L).tseen ps1 Gq { Tq1 with st:=b0l (tstep L).ts } tl ((c9n tl).tch (tT L)):=by rw[ea];exact z1.setT
   rw[<- ea] at ex1;fail "";refine⟨by decide,λp hp=>?_⟩
   have z6:=z5.same (f8 (o:=.tup [.str "taker"]) hp);obtain⟨many,last,hB,hLt⟩:=z6.brd;obtain⟨tt,rfl,nt,ett⟩:=hLt.2.2 _ rfl;obtain⟨⟨dxb,eb⟩,_⟩:=id hB;fail "";refine⟨A1.bd,A1.l,L.n,_,many,.ref tt,rfl,hB,?_⟩;fail "";refine⟨p,tt,_,_,rfl,rfl,SqT.of b8,SqT.of ett,(λz=>(nomatch z)),(show 1+3<=sizeLine by decide),(λz=>(nomatch z)),λ_ p2 hp2=>?_⟩
   have z7:=(z6.same (f8 (o:=.tup ([.str "taker"]++[.str (tT L).d,.int (tT L).k,.int (tT L).x])) hp2));have h60:5000000<=sizeLine:=by decide
   have np:A1.kt≠p:=λz=>by rw[<- z,d6 n24,ext] at hp;cases hp
   have np2:A1.kt≠p2:=λz=>by rw[<- z,d6 np,d6 n24,ext] at hp2;cases hp2
   fail "";have z8:=z7.setTr (t:=(false,tT L)) (by rw[d6 np2,d6 np,d6 n24];exact ext) (z6.off hp2) (z6.nfo hp2) b8
   have q:=k _ A1 (by rw[c8w (b:=false) rfl];exact⟨ps1,Gq,_,lt,(by obtain⟨sn,so,sb,st,_⟩:=a6c L;show LH cl _ A1 (tstep L).n (tstep L).c (tstep L).os (tstep L).bk (tstep L).gseen (tstep L).tseen _ _ _ (tl++[(false,tT L)]) (c9n (tl++[(false,tT L)]));rw[sn,so,sb,b7a];exact z8),hg.tstep,z2,c8v ok⟩) ((((z3.trans (KpA.upd (j:=3) ↑5)).trans (KpA.of (f8 hp))).trans (KpA.of (f8 hp2))).trans (KpA.updE (j:=4) e4 ↑5)) z4
   exact q
def RP(H:Hp)(os:List (List Int))(D:Addr)(i:Nat)(acc:List V)(H':Hp):Prop:=H' D=some (.lst acc)/\Same H H'/\∃ps:List Addr,acc=ps.map V.ref/\ps.length=i/\∀(j:Nat)(p:Addr)(o:List Int),ps[j]?=some p->os[j]?=some o->H p=none/\p≠D/\H' p=some (.lst (o.map V.int))
theorem RP.new{H:Hp}{os:List (List Int)}{D:Addr}(hD:H D=none):RP H os D 0 [] (upd H D (.lst [])):=⟨b8,f8 hD,[],rfl,rfl,λj p o h=>by simp at h⟩
theorem o9{H H':Hp}{p:Addr}(s:Same H H')(h:H' p=none):H p=none:=by
 cases e:H p with
 | none=>rfl
 | some o=>rw[s _ _ e] at h;cases h
theorem RP.push{H H':Hp}{os:List (List Int)}{o:List Int}{D p:Addr}{i:Nat}{acc:List V}(h:RP H os D i acc H')(hD:H D=none)(ho:os[i]?=some o)(hp:H' p=none):
  (upd H' p (.lst (o.map V.int))) D=some (.lst acc)/\RP H os D (i+1) (acc++[.ref p]) (upd (upd H' p (.lst (o.map V.int))) D (.lst (acc++[.ref p]))):=by
 obtain⟨e,s,ps,rfl,hl,r⟩:=h;have nD:D≠p:=λz=>by rw[<- z,e] at hp;cases hp
 have hp0:=o9 s hp;refine⟨by rw[d6 nD];exact e,b8,?_,ps++[p],by rw[List.map_append];rfl,by rw[List.length_append,hl];rfl,?_⟩
 ·intro b u eb
  rw[d6 (λz=>by rw[z,hD] at eb;cases eb),d6 (λz=>by rw[z,hp0] at eb;cases eb)]
  exact s _ _ eb
 ·intro j q u hj hu
  by_cases y:j<ps.length
  ·rw[List.getElem?_append_left y] at hj
   obtain⟨a,b,c⟩:=r j q u hj hu;refine⟨a,b,?_⟩;rw[d6 b,d6 (λz=>by rw[z,hp] at c;cases c)]
   exact c
  ·rw[List.getElem?_append_right ↑5] at hj
   have:j=i:=by
    by_cases z:j-ps.length=0
    ·lia
    ·rw[List.getElem?_eq_none (by simp;lia)] at hj;cases hj
   subst this;rw[hl,Nat.sub_self] at hj;cases hj;rw[ho] at hu;cases hu;exact⟨hp0,Ne.symm nD,by rw[d6 (Ne.symm nD)];exact b8⟩
def NewRows(H H':Hp)(D:Addr)(os:List (List Int)):Prop:=H D=none/\Same H H'/\∃ps:List Addr,H' D=some (.lst (ps.map V.ref))/\ps.length=os.length/\∀(j:Nat)(p:Addr)(o:List Int),ps[j]?=some p->os[j]?=some o->H p=none/\p≠D/\H' p=some (.lst (o.map V.int))
theorem RP.done{H H':Hp}{os:List (List Int)}{D:Addr}{acc:List V}(h:RP H os D os.length acc H')(hD:H D=none):NewRows H H' D os:=by
 obtain⟨e,s,ps,rfl,hl,r⟩:=h;exact⟨hD,s,ps,e,hl,r⟩
def b7d(cl:Cl):Sp:=λvs H Q _=>∃(n:Int)(a:Addr)(o:List Int),vs=[.int n,.ref a]/\H a=some (.lst (o.map V.int))/\1<=(o.length:Int)/\(o.length:Int)<=n/\∀p,H p=none->Q (.ref p) (upd H p (.lst (o.map V.int)))
abbrev b4w:Stmt:=top 82
theorem c6z:d9 ["size","order"] ["size","order"] (d7 b4w):=↑1
def a8a(cl:Cl):Sp:=λvs H Q _=>∃(n:Int)(a:Addr)(os:List (List Int)),vs=[.int n,.ref a]/\Rws H a os/\(∀o∈os,1<=(o.length:Int)/\(o.length:Int)<=n)/\os.length<=1000/\∀p H',NewRows H H' p os->Q (.ref p) H'
abbrev b1m:Stmt:=top 83
theorem c3w:d9 ["size","orders"] ["size","orders"] (d7 b1m):=↑1
theorem c4z(D:DefT K mg "orders_of" b1m ["size","orders"])(T:Txt K mg cl)(G_order_of:FnT P w K mg base "order_of" 1 ["size","order"] (b7d cl)):FnT P w K mg base "orders_of" 2 ["size","orders"] (a8a cl):=by
 refine D.fn c3w ↑7 ↑4
 ·walk_at "len"
 ·obtain⟨n,a,os,rfl,⟨ps,ea,hl,hr'⟩,ho,hz,k⟩:=h
  refine⟨_,(d8 (g4 (b5h (N:=["order","size"]) (nt:=1) (fr:=[0]) rfl (c3k (i:=0) rfl rfl (by decide +kernel) (by decide +kernel) rfl rfl rfl rfl rfl rfl rfl) (a5l (K:=K) (pv 1)) (a9p ↑3) (λ_ _ _ _ _=>v6 (i:=0) (show(["order","size"]:List Str).Nodup by decide +kernel) rfl (Or.inl rfl) (Or.inr rfl)) (λ_ _ _ _ _=>(g9 G_order_of hr ↑3 rfl d6p (a7 (pv 1) (a7 (pv 0) b7))))))),?_⟩
  have h60:6000<=sizeLine:=by decide
  refine⟨_,rfl,a,rfl,⟨_,SqL.of ea⟩,b0i (xs:=ps.map V.ref) (by rw[List.length_map];lia) (RP H os) (λD hD=>RP.new hD) ?_ ?_ ?_⟩
  ·rintro D i acc H' ⟨e,s,qs,rfl,hq,_⟩
   exact⟨e,by rw[List.length_map];exact hq,SqL.of (s _ _ ea)⟩
  ·intro D i x acc H' hD hx hp
   rw[List.getElem?_map] at hx;cases hpi:ps[i]? with
   | none=>rw[hpi] at hx;cases hx
   | some q=>
    rw[hpi] at hx;cases hx;have hi:i<os.length:=by rw[<- hl];exact(List.getElem?_eq_some_iff.mp hpi).1
    have hoi:=List.getElem?_eq_getElem hi;have eq:=hp.2.1 _ _ (hr' i q _ hpi hoi);obtain⟨l1,l2⟩:=ho _ (List.getElem_mem hi);fail "";refine⟨n,q,_,rfl,eq,l1,l2,λp hpn=>?_⟩;exact hp.push hD hoi hpn
  ·intro D acc H' hD hp
   rw[List.length_map,hl] at hp;exact k _ _ (hp.done hD)
def a5q:Sp:=λvs H Q _=>∃(a:Addr)(os:List (List Int)),vs=[.ref a]/\Rws H a os/\os.length<=1000/\∀p H',NewRows H H' p os->Q (.ref p) H'
abbrev a7g:Stmt:=top 84
theorem b9d:d9 ["orders"] ["orders"] (d7 a7g):=↑1
theorem b9j(D:DefT K mg "orders_told" a7g ["orders"])(T:Txt K mg cl):FnT P w K mg base "orders_told" 1 ["orders"] a5q:=by
 refine D.fn b9d ↑7 ↑4
 ·walk_at "len"
 ·obtain⟨a,os,rfl,⟨ps,ea,hl,hr'⟩,hz,k⟩:=h
  refine⟨_,(d8 (g4 (b5h (N:=["order"]) (nt:=1) (fr:=[]) rfl (b7b rfl rfl (by decide +kernel) (by decide +kernel) rfl rfl) (a5l (K:=K) (pv 0)) (a9p ↑3) (λ_ _ _ _ _=>v6 (i:=0) (show(["order"]:List Str).Nodup by decide +kernel) rfl (Or.inl rfl) (Or.inr rfl)) (λ_ _ _ _ _=>(a6n (b0j (K:=K)) (by rfl) T.z_list PyProof.Rows.boot_list (a7 (pv 0) b7)))))),?_⟩
  have h60:6000<=sizeLine:=by decide
  refine⟨_,rfl,a,rfl,⟨_,SqL.of ea⟩,b0i (xs:=ps.map V.ref) (by rw[List.length_map];lia) (RP H os) (λD hD=>RP.new hD) ?_ ?_ ?_⟩
  ·rintro D i acc H' ⟨e,s,qs,rfl,hq,_⟩
   exact⟨e,by rw[List.length_map];exact hq,SqL.of (s _ _ ea)⟩
  ·intro D i x acc H' hD hx hp
   rw[List.getElem?_map] at hx;cases hpi:ps[i]? with
   | none=>rw[hpi] at hx;cases hx
   | some q=>
    rw[hpi] at hx;cases hx;have hi:i<os.length:=by rw[<- hl];exact(List.getElem?_eq_some_iff.mp hpi).1
    have hoi:=List.getElem?_eq_getElem hi;have eq:=hp.2.1 _ _ (hr' i q _ hpi hoi);fail "";exact λp hpn=>hp.push hD hoi hpn
  ·intro D acc H' hD hp
   rw[List.length_map,hl] at hp;exact k _ _ (hp.done hD)
section
variable{H H':Hp}{A:Ad}{n:Nat}{c:Pr.Cells}{os bk:List (List Int)}{gs ts ps:List Int}{Gq:Gm}{Tq:Tm}{tl:List Tr}{lt:Lt}
theorem LH.setKg{os':List (List Int)}{u:HO}(h:LH cl H A n c os bk gs ts ps Gq Tq tl lt)(hk:RwsX A (upd H A.kg u) A.kg os')(hf:∀x,A.fo x->Unr (upd H A.kg u) A.kg x):LH cl (upd H A.kg u) A n c os' bk gs ts ps Gq Tq tl lt:=by
 have ne:∀i,i<8->i≠5->A.o i≠A.kg:=λi h8 h2=>h.nd i 5 h8 ↑5 h2;obtain⟨m,l,hB,hL⟩:=h.brd;refine⟨⟨m,l,hB.keep (ps:=[A.kg]) (Kp.upd (by simp)) (by simpa using ne 0 ↑5 ↑5) (by simpa using ne 1 ↑5 ↑5),hL.kpa (KpA.upd (j:=5) ↑5)⟩,?_,?_,?_,?_,hk,h.book.set (j:=5) ↑5 rfl (ne 6 ↑5 ↑5),?_,?_,h.nd,h.om,λx hx=>?_⟩
 ·obtain⟨d,z⟩:=h.gv;exact⟨d,by rw[d6 (ne 2 ↑5 ↑5)];exact z⟩
 ·obtain⟨d,z⟩:=h.tk;exact⟨d,by rw[d6 (ne 3 ↑5 ↑5)];exact z⟩
 ·rw[d6 (h.om 5 ↑5).1];exact h.mg
 ·rw[d6 (h.om 5 ↑5).2];exact h.mt
 ·rw[d6 (ne 7 ↑5 ↑5)];exact h.pa
 ·exact h.tr.kpa (KpA.upd (j:=5) ↑5) λo z=>by rw[d6 (ne 4 ↑5 ↑5)];exact z
 ·obtain⟨⟨o,a⟩,b,c1,d,e,f,g⟩:=h.fo x hx
  exact⟨⟨o,by rw[d6 (b 5 ↑5)];exact a⟩,b,c1,d,hf x hx,(λxs z=>f xs (by rw[d6 (ne 6 ↑5 ↑5)] at z;exact z)),(λC dx fs z=>g C dx fs (by rw[d6 (ne 0 ↑5 ↑5)] at z;exact z))⟩
theorem RwsX.push{a p:Addr}{qs:List Addr}{o:List Int}(h:RwsX A H a os)(e:H a=some (.lst (qs.map V.ref)))(ha:∃j,j<8/\a=A.o j)(hp:H p=none)(off:∀j,j<8->p≠A.o j):
  RwsX A (upd (upd H p (.lst (o.map V.int))) a (.lst (qs.map V.ref++[.ref p]))) a (os++[o]):=by
 obtain⟨ps,e',hl,r⟩:=h;have eq:ps.map V.ref=qs.map V.ref:=by rw[e] at e';exact(HO.lst.inj (Option.some.inj e')).symm
 obtain⟨ja,hja,rfl⟩:=ha;refine⟨ps++[p],by rw[b8,List.map_append,eq];rfl,by rw[List.length_append,List.length_append,hl];rfl,?_⟩
 intro i q u hq hu;by_cases y:i<ps.length
 ·rw[List.getElem?_append_left y] at hq
  rw[List.getElem?_append_left ↑5] at hu;obtain⟨a1,a2⟩:=r i q u hq hu;refine⟨a1,?_⟩;rw[d6 (a1 ja hja),d6 (λz=>by rw[z,hp] at a2;cases a2)]
  exact a2
 ·rw[List.getElem?_append_right ↑5] at hq hu
  have i0:i-ps.length=0:=by
   by_cases z:i-ps.length=0
   ·exact z
   ·rw[List.getElem?_eq_none (by simp;lia)] at hq;cases hq
  rw[i0] at hq;rw[<- hl,i0] at hu;cases hq;cases hu;exact⟨off,by rw[d6 (off ja hja)];exact b8⟩
end
theorem GRel.add{L:Ln}{Gq:Gm}{o:List Int}(h:GRel L Gq)(ok:Ok L):GRel (a1m L o) Gq:=by
 have gl:gi L<=tot L.os:=by unfold gi;have:=ok.core.gt;split <;> lia
 have e1:v3 (L.os++[o]) (gi L)=v3 L.os (gi L):=by
  cases e:gi L with
  | zero=>rfl
  | succ i=>show((l9 (L.os++[o]) i:Nat):Int)=l9 L.os i;rw[(a4g ↑5).1]
 have e2:v9 (L.os++[o]) (gi L)=v9 L.os (gi L):=by
  cases e:gi L with
  | zero=>rfl
  | succ i=>show((n9 (L.os++[o]) i:Nat):Int)=n9 L.os i;rw[(a4g ↑5).2]
 exact⟨h.st,h.he,λa b=>(h.nu a b).trans e1.symm,λa b c=>(h.le a b c).trans e2.symm⟩
theorem TRel.add{L:Ln}{Tq:Tm}{ps:List Int}{o:List Int}(h:TRel L Tq ps)(ok:Ok L):TRel (a1m L o) Tq ps:=by
 have gt:=ok.core.gt;have tg:=ok.tk.tg;have e3:a0m (L.os++[o]) L.f (L.t-L.f)=a0m L.os L.f (L.t-L.f):=by
  unfold a0m;apply List.map_congr_left;intro m hm;have:=List.mem_range.mp hm;exact b5r ↑5
 refine⟨h.st,h.he,h.nf,λz=>?_,λz=>?_,?_⟩
 ·have lt:L.t<L.g:=ok.tk.lies (by rcases z with z|z <;> (have z':L.ts=_:=z;rw[z'];rfl))
  show Tq.nu=((l9 (L.os++[o]) L.t:Nat):Int);rw[(a4g ↑5).1];exact h.nu z
 ·have lt:L.t<L.g:=ok.tk.lies (by have z':L.ts=_:=z;rw[z'];rfl)
  show Tq.le=((n9 (L.os++[o]) L.t:Nat):Int);rw[(a4g ↑5).2];exact h.le z
 ·show ps=if Stg.come L.ts=true\/L.ts=.free\/L.ts.frees=true then [] else a0m (L.os++[o]) L.f (L.t-L.f)
  rw[e3];exact h.pa
abbrev b2k:Stmt:=j4 (top 96) 1
theorem c4p:d9 ["self","order"] ["self","order"] (d7 b2k):=↑1
theorem RwsX.rws{A:Ad}{H:Hp}{a:Addr}{os:List (List Int)}(h:RwsX A H a os):Rws H a os:=by
 obtain⟨ps,e,l,r⟩:=h;exact⟨ps,e,l,λi p o a b=>(r i p o a b).2⟩
def a4p(cl:Cl):Sp:=λvs H Q _=>∃(A:Ad)(L:Ln)(tl:List Tr),vs=[.ref A.gv]/\LR cl H A L tl/\L.os.length<=1000/\∀p H',NewRows H H' p L.os->Q (.ref p) H'
abbrev a5z:Stmt:=j4 (top 96) 2
theorem b7m:d9 ["self"] ["self"] (d7 a5z):=↑1
theorem b8m(D:DefM K cl.Giver "orders" "Giver.orders" a5z ["self"])(T:Txt K mg cl)(G_orders_told:FnT P w K mg base "orders_told" 1 ["orders"] a5q):MethT P w K mg base cl.Giver "orders" 2 ["self"] (a4p cl):=by
 refine D.fn b7m ↑7 ↑4
 ·walk_at "len"
 ·obtain⟨A,L,tl,rfl,⟨ps,Gq,Tq,lt,hL,hg,ht,ok⟩,os4,k⟩:=h
  refine⟨_,(d8 (g4 (g9 G_orders_told hr ↑3 rfl f9 (a7 ↑6 b7)))),?_⟩;obtain⟨dx,ex⟩:=hL.gv;fail "";exact⟨A.kg,L.os,rfl,hL.kept.rws,os4,k⟩
def a7c(cl:Cl):Sp:=λvs H Q _=>∃(A:Ad)(L:Ln)(tl:List Tr),vs=[.ref A.tk]/\LR cl H A L tl/\L.os.length<=1000/\∀p H',NewRows H H' p L.bk->Q (.ref p) H'
abbrev a8x:Stmt:=j4 (top 106) 1
theorem c1g:d9 ["self"] ["self"] (d7 a8x):=↑1
theorem c2n(D:DefM K cl.Taker "book" "Taker.book" a8x ["self"])(T:Txt K mg cl)(G_orders_told:FnT P w K mg base "orders_told" 1 ["orders"] a5q):MethT P w K mg base cl.Taker "book" 2 ["self"] (a7c cl):=by
 refine D.fn c1g ↑7 ↑4
 ·walk_at "len"
 ·obtain⟨A,L,tl,rfl,⟨ps,Gq,Tq,lt,hL,hg,ht,ok⟩,os4,k⟩:=h
  refine⟨_,(d8 (g4 (g9 G_orders_told hr ↑3 rfl f9 (a7 ↑6 b7)))),?_⟩;obtain⟨dx,ex⟩:=hL.tk;fail "";exact⟨A.kk,L.bk,rfl,hL.book.rws,(have:=ok.tk.bl;by lia),k⟩
theorem _root_.L2.MethT.toBase{x m:Str}{C f:Addr}{k:Nat}{ps:List Str}{sp:Sp}(M:MethT P w K mg base C m k ps sp)(hf:findIn K (.ref C) m=some (some (.ref f)))(cm:e7m K C m f)(hm:mg x=some (.ref C)):d5m P w K mg base x m k ps sp:=by
 obtain⟨f',fd,F,hM,hb⟩:=M.ex;have:f'=f:=by have:=hM.at_;rw[hf] at this;cases this;rfl
 subst this;exact⟨C,f',fd,F,cm,hm,hb⟩
def a5e(cl:Cl):Sp:=λvs H Q _=>
 (∃(x dx bd:Addr)(v:V),vs=[.ref x,.ref bd,.str "giver",.str "taker",.str "told"]/\H x=some (.ins cl.Giver dx [("kept",v)])/\∀m r H',H m=none->H r=none->m≠r->Kp [x] H H'->H' m=some (.lst [])->H' r=some (.lst [])->H' x=some (.ins cl.Giver dx [("kept",v),("board",.ref bd),("name",.str "giver"),("other",.str "taker"),("stage_behind_marks",.str "told"),("stage_now",.str "rouse"),("marks_read",.ref m),("here",.non),("touched",.ref r)])->Q .non H')
 \/ (∃(x dx bd:Addr)(v:V),vs=[.ref x,.ref bd,.str "taker",.str "giver",.str "look"]/\H x=some (.ins cl.Taker dx [("taken",v)])/\∀m r H',H m=none->H r=none->m≠r->Kp [x] H H'->H' m=some (.lst [])->H' r=some (.lst [])->H' x=some (.ins cl.Taker dx [("taken",v),("board",.ref bd),("name",.str "taker"),("other",.str "giver"),("stage_behind_marks",.str "look"),("stage_now",.str "rouse"),("marks_read",.ref m),("here",.non),("touched",.ref r)])->Q .non H')
abbrev b2d:Stmt:=j4 (top 80) 0
theorem c4l:d9 ["self","board","name","other","stage_behind_marks"] ["self","board","name","other","stage_behind_marks"] (d7 b2d):=↑1
theorem c5r{C:Addr}(D:DefM K C "__init__" "Hand.__init__" b2d ["self","board","name","other","stage_behind_marks"])(T:Txt K mg cl):MethT P w K mg base C "__init__" 1 ["self","board","name","other","stage_behind_marks"] (a5e cl):=by
 refine D.fn c4l ↑7 ↑4
 ·rcases h with ⟨x,dx,bd,v,rfl,_⟩|⟨x,dx,bd,v,rfl,_⟩ <;> rfl
 ·skip
  refine⟨_,(d5 (j1 (K:=K) (pv 0) (pv 1))
   (d5 (j1 (K:=K) (pv 0) (pv 2))
   (d5 (j1 (K:=K) (pv 0) (pv 3))
   (d5 (j1 (K:=K) (pv 0) (pv 4))
   (d5 (j1 (K:=K) (pv 0) g7)
   (d5 (j1 (K:=K) (pv 0) (o8 b7))
   (d5 (j1 (K:=K) (pv 0) c0e)
   (d8 (j1 (K:=K) (pv 0) (o8 b7)))))))))),?_⟩
  rcases h with h|h
  ·obtain⟨x,dx,bd,v,rfl,ex,k⟩:=h
   fail "";refine⟨Nat.zero_le _,λm hm=>?_⟩;have nm:m≠x:=λz=>by rw[z,b8] at hm;cases hm
   have hm0:H m=none:=by simpa only [d6 nm] using hm
   fail "";refine⟨Nat.zero_le _,λr hr0=>?_⟩;have nr:r≠x:=λz=>by rw[z,b8] at hr0;cases hr0
   have nmr:r≠m:=λz=>by rw[z,d6 nm,d6 nm,b8] at hr0;cases hr0
   have hr1:H r=none:=by simpa only [d6 nr,d6 nmr] using hr0
   fail "";refine k m r _ hm0 hr1 (Ne.symm nmr) (λc o e n=>?_) ?_ ?_ ?_
   ·have nc:c≠x:=λz=>n (by simp[z])
    have c1:c≠m:=λz=>by rw[z,hm0] at e;cases e
    have c2:c≠r:=λz=>by rw[z,hr1] at e;cases e
    simpa only [d6 nc,d6 c1,d6 c2] using e
   ·simp only[d6 nm,d6 (Ne.symm nmr),b8]
   ·simp only[d6 nr,b8]
   ·rw[b8]
    rfl
  ·obtain⟨x,dx,bd,v,rfl,ex,k⟩:=h
   fail "";refine⟨Nat.zero_le _,λm hm=>?_⟩;have nm:m≠x:=λz=>by rw[z,b8] at hm;cases hm
   have hm0:H m=none:=by simpa only [d6 nm] using hm
   fail "";refine⟨Nat.zero_le _,λr hr0=>?_⟩;have nr:r≠x:=λz=>by rw[z,b8] at hr0;cases hr0
   have nmr:r≠m:=λz=>by rw[z,d6 nm,d6 nm,b8] at hr0;cases hr0
   have hr1:H r=none:=by simpa only [d6 nr,d6 nmr] using hr0
   fail "";refine k m r _ hm0 hr1 (Ne.symm nmr) (λc o e n=>?_) ?_ ?_ ?_
   ·have nc:c≠x:=λz=>n (by simp[z])
    have c1:c≠m:=λz=>by rw[z,hm0] at e;cases e
    have c2:c≠r:=λz=>by rw[z,hr1] at e;cases e
    simpa only [d6 nc,d6 c1,d6 c2] using e
   ·simp only[d6 nm,d6 (Ne.symm nmr),b8]
   ·simp only[d6 nr,b8]
   ·rw[b8]
    rfl
def NRw(H H':Hp)(D:Addr)(S:List Addr)(os:List (List Int)):Prop:=∃ps:List Addr,H' D=some (.lst (ps.map V.ref))/\ps.length=os.length/\∀(j:Nat)(p:Addr)(o:List Int),ps[j]?=some p->os[j]?=some o->H p=none/\p≠D/\p ∉ S/\H' p=some (.lst (o.map V.int))
def b3e(cl:Cl):Sp:=λvs H Q _=>∃(x dx bd a l:Addr)(n:Nat)(row:List Int)(many:Int)(last:V)(os:List (List Int)),vs=[.ref x,.ref bd,.ref a]/\H x=some (.ins cl.Giver dx [])/\Brd cl H bd l n row many last/\Rws H a os/\Good n os/\os.length<=1000 /\
 ∀D m r H',H D=none->H m=none->H r=none->D≠m->D≠r->m≠r->Kp [x] H H'->NRw H H' D [m,r] os->H' m=some (.lst [])->H' r=some (.lst [])->H' x=some (.ins cl.Giver dx [("kept",.ref D),("board",.ref bd),("name",.str "giver"),("other",.str "taker"),("stage_behind_marks",.str "told"),("stage_now",.str "rouse"),("marks_read",.ref m),("here",.non),("touched",.ref r),("number",.int (-1)),("left",.int 0)])->Q .non H'
abbrev a9e:Stmt:=j4 (top 96) 0
theorem c1n:d9 ["self","board","orders"] ["self","board","orders"] (d7 a9e):=↑1
theorem c2v(D:DefM K cl.Giver "__init__" "Giver.__init__" a9e ["self","board","orders"])(T:Txt K mg cl)(G_orders_of:FnT P w K mg base "orders_of" 2 ["size","orders"] (a8a cl))(G_Hand_init:d5m P w K mg base "Hand" "__init__" 1 ["self","board","name","other","stage_behind_marks"] (a5e cl)):MethT P w K mg base cl.Giver "__init__" 3 ["self","board","orders"] (b3e cl):=by
 refine D.fn c1n ↑7 ↑4
 ·walk_at "len"
 ·obtain⟨x,dx,bd,a,l,n,row,many,last,os,rfl,ex,hB,hR,hG,hz,k⟩:=h
  refine⟨_,(d5 (j1 (K:=K) (pv 0) (g9 G_orders_of hr ↑3 rfl f9 (a7 (v5 (K:=K) (pv 1)) (a7 (pv 2) b7))))
   (d5 (i8 (d3d G_Hand_init hr ↑3 rfl f9 (a7 (pv 0) (a7 (pv 1) (a7 g7 (a7 g7 (a7 g7 b7)))))))
   (d5 (j1 (K:=K) (pv 0) (t4 T.m_NO_ORDER rfl))
   (d8 (j1 (K:=K) (pv 0) g3))))),?_⟩
  obtain⟨⟨dxb,eb⟩,_⟩:=id hB;fail "";refine⟨n,a,os,rfl,hR,(λo ho=>by have:=hG o ho;lia),hz,λD H1 nr=>?_⟩
  obtain⟨hD,s1,qs,eD,lq,rq⟩:=nr;have ex1:=s1 _ _ ex;have nDx:D≠x:=λz=>by rw[z,ex] at hD;cases hD
  fail "";refine .inl ⟨x,dx,bd,.ref D,rfl,b8,λm r H2 hm hr0 hmr kp em er ex2=>?_⟩;have nmx:m≠x:=λz=>by rw[z,b8] at hm;cases hm
  have nrx:r≠x:=λz=>by rw[z,b8] at hr0;cases hr0
  rw[d6 nmx] at hm;rw[d6 nrx] at hr0;have hm0:=o9 s1 hm;have hr1:=o9 s1 hr0;have nDm:D≠m:=λz=>by rw[<- z,eD] at hm;cases hm
  have nDr:D≠r:=λz=>by rw[<- z,eD] at hr0;cases hr0
  have eD2:H2 D=some (.lst (qs.map V.ref)):=kp _ _ (by rw[d6 nDx];exact eD) (by simpa using nDx)
  have k1:Kp [x] H H2:=λc o e n=>kp _ _ (by rw[d6 (by simpa using n)];exact s1 _ _ e) n
  have rows2:∀(j:Nat)(p:Addr)(o:List Int),qs[j]?=some p->os[j]?=some o->H p=none/\p≠D/\p≠x/\p≠m/\p≠r/\H2 p=some (.lst (o.map V.int)):=λj p o hp ho=>by
   obtain⟨a1,a2,a3⟩:=rq j p o hp ho;have px:p≠x:=λz=>by rw[z,ex] at a1;cases a1
   exact⟨a1,a2,px,(λz=>by rw[z,hm] at a3;cases a3),(λz=>by rw[z,hr0] at a3;cases a3),kp _ _ (by rw[d6 px];exact a3) (by simpa using px)⟩
  fail "";refine k D m r _ hD hm0 hr1 nDm nDr hmr (λc o e n=>?_) ⟨qs,?_,lq,λj p o hp ho=>?_⟩ ?_ ?_ ?_
  ·have nc:c≠x:=by simpa using n
   simp only[d6 nc];exact k1 _ _ e n
  ·simp only[d6 nDx]
   exact eD2
  ·obtain⟨a1,a2,a3,a4,a5,a6⟩:=rows2 j p o hp ho
   refine⟨a1,a2,by simp[a4,a5],?_⟩
   simp only[d6 a3];exact a6
  ·simp only[d6 nmx]
   exact em
  ·simp only[d6 nrx]
   exact er
  ·rw[b8]
   rfl
def b3a(cl:Cl):Sp:=λvs H Q _=>∃(x dx bd a l:Addr)(n:Nat)(row:List Int)(many:Int)(last:V)(os:List (List Int)),vs=[.ref x,.ref bd,.ref a]/\H x=some (.ins cl.Taker dx [])/\Brd cl H bd l n row many last/\Rws H a os/\Good n os/\os.length<=1000 /\
 ∀D m r q H',H D=none->H m=none->H r=none->D≠m->D≠r->m≠r->H q=none->q≠D->q≠m->q≠r->H' q=some (.lst [])->Kp [x] H H'->NRw H H' D [m,r,q] os->H' m=some (.lst [])->H' r=some (.lst [])->H' x=some (.ins cl.Taker dx [("taken",.ref D),("board",.ref bd),("name",.str "taker"),("other",.str "giver"),("stage_behind_marks",.str "look"),("stage_now",.str "rouse"),("marks_read",.ref m),("here",.non),("touched",.ref r),("not_freed",.non),("number",.int 0),("left",.int 0),("parts",.ref q)])->Q .non H'
abbrev a8w:Stmt:=j4 (top 106) 0
theorem c1f:d9 ["self","board","book"] ["self","board","book"] (d7 a8w):=↑1
theorem c2m(D:DefM K cl.Taker "__init__" "Taker.__init__" a8w ["self","board","book"])(T:Txt K mg cl)(G_orders_of:FnT P w K mg base "orders_of" 2 ["size","orders"] (a8a cl))(G_Hand_init:d5m P w K mg base "Hand" "__init__" 1 ["self","board","name","other","stage_behind_marks"] (a5e cl)):MethT P w K mg base cl.Taker "__init__" 3 ["self","board","book"] (b3a cl):=by
 refine D.fn c1f ↑7 ↑4
 ·walk_at "len"
 ·obtain⟨x,dx,bd,a,l,n,row,many,last,os,rfl,ex,hB,hR,hG,hz,k⟩:=h
  refine⟨_,(d5 (j1 (K:=K) (pv 0) (g9 G_orders_of hr ↑3 rfl f9 (a7 (v5 (K:=K) (pv 1)) (a7 (pv 2) b7))))
   (d5 (i8 (d3d G_Hand_init hr ↑3 rfl f9 (a7 (pv 0) (a7 (pv 1) (a7 g7 (a7 g7 (a7 g7 b7)))))))
   (d5 (j1 (K:=K) (pv 0) c0e)
   (d5 (j1 (K:=K) (pv 0) g3)
   (d5 (j1 (K:=K) (pv 0) g3)
   (d8 (j1 (K:=K) (pv 0) (o8 b7)))))))),?_⟩
  obtain⟨⟨dxb,eb⟩,_⟩:=id hB;fail "";refine⟨n,a,os,rfl,hR,(λo ho=>by have:=hG o ho;lia),hz,λD H1 nr=>?_⟩
  obtain⟨hD,s1,qs,eD,lq,rq⟩:=nr;have ex1:=s1 _ _ ex;have nDx:D≠x:=λz=>by rw[z,ex] at hD;cases hD
  fail "";refine .inr ⟨x,dx,bd,.ref D,rfl,b8,λm r H2 hm hr0 hmr kp em er ex2=>?_⟩;have nmx:m≠x:=λz=>by rw[z,b8] at hm;cases hm
  have nrx:r≠x:=λz=>by rw[z,b8] at hr0;cases hr0
  rw[d6 nmx] at hm;rw[d6 nrx] at hr0;have hm0:=o9 s1 hm;have hr1:=o9 s1 hr0;have nDm:D≠m:=λz=>by rw[<- z,eD] at hm;cases hm
  have nDr:D≠r:=λz=>by rw[<- z,eD] at hr0;cases hr0
  have eD2:H2 D=some (.lst (qs.map V.ref)):=kp _ _ (by rw[d6 nDx];exact eD) (by simpa using nDx)
  have k1:Kp [x] H H2:=λc o e n=>kp _ _ (by rw[d6 (by simpa using n)];exact s1 _ _ e) n
  have rows2:∀(j:Nat)(p:Addr)(o:List Int),qs[j]?=some p->os[j]?=some o->H p=none/\p≠D/\p≠x/\p≠m/\p≠r/\H2 p=some (.lst (o.map V.int)):=λj p o hp ho=>by
   obtain⟨a1,a2,a3⟩:=rq j p o hp ho;have px:p≠x:=λz=>by rw[z,ex] at a1;cases a1
   exact⟨a1,a2,px,(λz=>by rw[z,hm] at a3;cases a3),(λz=>by rw[z,hr0] at a3;cases a3),kp _ _ (by rw[d6 px];exact a3) (by simpa using px)⟩
  fail "";refine⟨Nat.zero_le _,λq hq=>?_⟩;have nqx:q≠x:=λz=>by rw[z,b8] at hq;cases hq
  simp only[d6 nqx] at hq;have hq0:H q=none:=by
   cases e:H q with
   | none=>rfl
   | some o=>rw[k1 _ _ e (by simpa using nqx)] at hq;cases hq
  have nqD:q≠D:=λz=>by rw[z,eD2] at hq;cases hq
  have nqm:q≠m:=λz=>by rw[z,em] at hq;cases hq
  have nqr:q≠r:=λz=>by rw[z,er] at hq;cases hq
  fail "";refine k D m r q _ hD hm0 hr1 nDm nDr hmr hq0 nqD nqm nqr ?_ (λc o e n=>?_) ⟨qs,?_,lq,λj p o hp ho=>?_⟩ ?_ ?_ ?_
  ·simp only[d6 nqx,b8]
  ·have nc:c≠x:=by simpa using n
   have ncq:c≠q:=λz=>by rw[z,hq0] at e;cases e
   simp only[d6 nc,d6 ncq];exact k1 _ _ e n
  ·simp only[d6 nDx,d6 (Ne.symm nqD)]
   exact eD2
  ·obtain⟨a1,a2,a3,a4,a5,a6⟩:=rows2 j p o hp ho
   have npq:p≠q:=λz=>by rw[z,hq] at a6;cases a6
   refine⟨a1,a2,by simp[a4,a5,npq],?_⟩
   simp only[d6 a3,d6 npq];exact a6
  ·simp only[d6 nmx,d6 (Ne.symm nqm)]
   exact em
  ·simp only[d6 nrx,d6 (Ne.symm nqr)]
   exact er
  ·rw[b8]
   rfl
theorem b8p{H:Hp}{x dx:Addr}{u o:HO}(hx:H x=none)(hd:H dx=none)(ne:dx≠x):Same H (upd (upd H dx u) x o) :=
 (f8 hd).trans (f8 (by rw[d6 (Ne.symm ne)];exact hx))
def a1o(cl:Cl):Sp:=λvs H Q _=>∃(la dxl bd kt a l:Addr)(n:Nat)(row:List Int)(many:Int)(last:V)(os:List (List Int))(fs:List (Str×V))(fs':Addr->List (Str×V)),vs=[.ref la,.ref a]/\((fs=([("board",.ref bd),("kept_trail",.ref kt)]:List (Str×V))/\∀g,fs' g=([("board",.ref bd),("kept_trail",.ref kt),("giver",.ref g)]:List (Str×V)))\/(∃v u,fs=([("board",.ref bd),("kept_trail",.ref kt),("giver",v),("taker",u)]:List (Str×V))/\∀g,fs' g=([("board",.ref bd),("kept_trail",.ref kt),("giver",.ref g),("taker",u)]:List (Str×V))))/\H la=some (.ins cl.Lane dxl fs)/\Brd cl H bd l n row many last/\Rws H a os/\Good n os/\os.length<=1000 /\
 ∀g dxg D m H',H g=none->H D=none->H m=none->g≠D->g≠m->D≠m->Kp [la] H H'->NRw H H' D [g,m] os->H' m=some (.lst [])->H' g=some (.ins cl.Giver dxg [("kept",.ref D),("board",.ref bd),("name",.str "giver"),("other",.str "taker"),("stage_behind_marks",.str "told"),("stage_now",.str "rouse"),("marks_read",.ref m),("here",.non),("touched",.ref kt),("number",.int (-1)),("left",.int 0)])->H' la=some (.ins cl.Lane dxl (fs' g))->Q .non H'
abbrev a2f:Stmt:=j4 (top 108) 1
theorem a4r:d9 ["self","orders","giver"] ["self","orders"] (d7 a2f):=↑1
theorem b2o(D:DefM K cl.Lane "place_giver" "Lane.place_giver" a2f ["self","orders"])(T:Txt K mg cl)(G_Giver:MakeT P w K mg base "Giver" cl.Giver 3 ["self","board","orders"] (b3e cl)):MethT P w K mg base cl.Lane "place_giver" 5 ["self","orders"] (a1o cl):=by
 refine D.fn a4r ↑7 ↑4
 ·walk_at "len"
 ·obtain⟨la,dxl,bd,kt,a,l,n,row,many,last,os,fs,fs',rfl,hfs,ela,hB,hR,hG,hz,k⟩:=h
  refine⟨_,(d5 (j9 (i:=2) a4r.nd rfl (.inl rfl) (d0x G_Giver hr ↑3 rfl f9 (a7 ↑6 (a7 (pv 1) b7))))
   (d5 (j1 (K:=K) (pv 2) ↑6)
   (d8 (j1 (K:=K) (pv 0) (pv 2))))),?_⟩
  rcases hfs with hs1|hs2
  ·obtain⟨rfl,hfs⟩:=hs1
   fail "";intro x dx hx hdx ne;have sm:=b8p (u:=.own x) (o:=.ins cl.Giver dx []) hx hdx ne;refine⟨x,dx,bd,a,l,n,row,many,last,os,rfl,b8,hB.keep (ps:=[]) (Kp.of sm) (by simp) (by simp),hR.same sm,hG,hz,λD m r H2 hD hm hr0 nDm nDr nmr kp nr em er ex2=>⟨rfl,?_⟩⟩
   fail "i";obtain⟨qs,eD,lq,rq⟩:=nr;fail "";refine k x dx D m _ hx hD0 hm0 (Ne.symm nDx) (Ne.symm nmx) nDm (λc o e n=>?_) ⟨qs,?_,lq,λj p o hp ho=>?_⟩ ?_ ?_ ?_
   ·have nc:c≠la:=by simpa using n
    have ncx:c≠x:=λz=>by rw[z,hx] at e;cases e
    simp only[d6 nc,d6 ncx];exact kp _ _ (sm _ _ e) (by simpa using ncx)
   ·simp only[d6 nDx,d6 nDl]
    exact eD
   ·obtain⟨b0,b2,b3,b4⟩:=rq j p o hp ho
    have px:p≠x:=λz=>by rw[z,b8] at b0;cases b0
    have p0:=o9 sm b0;have pl:p≠la:=λz=>by rw[z,ela] at p0;cases p0
    have b1:=(by simpa using b3:p≠m/\p≠r)
    refine⟨p0,b2,by simpa using ⟨px,b1.1⟩,?_⟩
    simp only[d6 px,d6 pl];exact b4
   ·simp only[d6 nmx,d6 nml]
    exact em
   ·rw[d6 (Ne.symm nla),b8]
    rfl
   ·rw[b8,hfs]
    rfl
  ·obtain⟨v,u,rfl,hfs⟩:=hs2
   fail "";intro x dx hx hdx ne;have sm:=b8p (u:=.own x) (o:=.ins cl.Giver dx []) hx hdx ne;refine⟨x,dx,bd,a,l,n,row,many,last,os,rfl,b8,hB.keep (ps:=[]) (Kp.of sm) (by simp) (by simp),hR.same sm,hG,hz,λD m r H2 hD hm hr0 nDm nDr nmr kp nr em er ex2=>⟨rfl,?_⟩⟩
   fail "i";obtain⟨qs,eD,lq,rq⟩:=nr;fail "";refine k x dx D m _ hx hD0 hm0 (Ne.symm nDx) (Ne.symm nmx) nDm (λc o e n=>?_) ⟨qs,?_,lq,λj p o hp ho=>?_⟩ ?_ ?_ ?_
   ·have nc:c≠la:=by simpa using n
    have ncx:c≠x:=λz=>by rw[z,hx] at e;cases e
    simp only[d6 nc,d6 ncx];exact kp _ _ (sm _ _ e) (by simpa using ncx)
   ·simp only[d6 nDx,d6 nDl]
    exact eD
   ·obtain⟨b0,b2,b3,b4⟩:=rq j p o hp ho
    have px:p≠x:=λz=>by rw[z,b8] at b0;cases b0
    have p0:=o9 sm b0;have pl:p≠la:=λz=>by rw[z,ela] at p0;cases p0
    have b1:=(by simpa using b3:p≠m/\p≠r)
    refine⟨p0,b2,by simpa using ⟨px,b1.1⟩,?_⟩
    simp only[d6 px,d6 pl];exact b4
   ·simp only[d6 nmx,d6 nml]
    exact em
   ·rw[d6 (Ne.symm nla),b8]
    rfl
   ·rw[b8,hfs]
    rfl
def a1n(cl:Cl):Sp:=λvs H Q _=>∃(la dxl bd kt a l:Addr)(n:Nat)(row:List Int)(many:Int)(last:V)(os:List (List Int))(fs:List (Str×V))(fs':Addr->List (Str×V)),vs=[.ref la,.ref a]/\((∃v,fs=([("board",.ref bd),("kept_trail",.ref kt),("giver",v)]:List (Str×V))/\∀g,fs' g=([("board",.ref bd),("kept_trail",.ref kt),("giver",v),("taker",.ref g)]:List (Str×V)))\/(∃v u,fs=([("board",.ref bd),("kept_trail",.ref kt),("giver",v),("taker",u)]:List (Str×V))/\∀g,fs' g=([("board",.ref bd),("kept_trail",.ref kt),("giver",v),("taker",.ref g)]:List (Str×V))))/\H la=some (.ins cl.Lane dxl fs)/\Brd cl H bd l n row many last/\Rws H a os/\Good n os/\os.length<=1000 /\
 ∀g dxg D m q H',H g=none->H D=none->H m=none->g≠D->g≠m->D≠m->H q=none->q≠g->q≠D->q≠m->H' q=some (.lst [])->Kp [la] H H'->NRw H H' D [g,m,q] os->H' m=some (.lst [])->H' g=some (.ins cl.Taker dxg [("taken",.ref D),("board",.ref bd),("name",.str "taker"),("other",.str "giver"),("stage_behind_marks",.str "look"),("stage_now",.str "rouse"),("marks_read",.ref m),("here",.non),("touched",.ref kt),("not_freed",.non),("number",.int 0),("left",.int 0),("parts",.ref q)])->H' la=some (.ins cl.Lane dxl (fs' g))->Q .non H'
abbrev a2e:Stmt:=j4 (top 108) 2
theorem a4q:d9 ["self","book","taker"] ["self","book"] (d7 a2e):=↑1
theorem b2n(D:DefM K cl.Lane "place_taker" "Lane.place_taker" a2e ["self","book"])(T:Txt K mg cl)(G_Taker:MakeT P w K mg base "Taker" cl.Taker 3 ["self","board","book"] (b3a cl)):MethT P w K mg base cl.Lane "place_taker" 5 ["self","book"] (a1n cl):=by
 refine D.fn a4q ↑7 ↑4
 ·walk_at "len"
 ·obtain⟨la,dxl,bd,kt,a,l,n,row,many,last,os,fs,fs',rfl,hfs,ela,hB,hR,hG,hz,k⟩:=h
  refine⟨_,(d5 (j9 (i:=2) a4q.nd rfl (.inl rfl) (d0x G_Taker hr ↑3 rfl f9 (a7 ↑6 (a7 (pv 1) b7))))
   (d5 (j1 (K:=K) (pv 2) ↑6)
   (d8 (j1 (K:=K) (pv 0) (pv 2))))),?_⟩
  rcases hfs with hs1|hs2
  ·obtain⟨v,rfl,hfs⟩:=hs1
   fail "";intro x dx hx hdx ne;have sm:=b8p (u:=.own x) (o:=.ins cl.Taker dx []) hx hdx ne;refine⟨x,dx,bd,a,l,n,row,many,last,os,rfl,b8,hB.keep (ps:=[]) (Kp.of sm) (by simp) (by simp),hR.same sm,hG,hz,λD m r q H2 hD hm hr0 nDm nDr nmr hq nqD nqm nqr eq kp nr em er ex2=>⟨rfl,?_⟩⟩
   fail "i";have nqg:q≠x:=λz=>by rw[z,b8] at hq;cases hq
   have hq0:=o9 sm hq;have nql:q≠la:=λz=>by rw[z,ela] at hq0;cases hq0
   obtain⟨qs,eD,lq,rq⟩:=nr;fail "";refine k x dx D m q _ hx hD0 hm0 (Ne.symm nDx) (Ne.symm nmx) nDm hq0 nqg nqD nqm ?_ (λc o e n=>?_) ⟨qs,?_,lq,λj p o hp ho=>?_⟩ ?_ ?_ ?_
   ·simp only[d6 nql,d6 nqg]
    exact eq
   ·have nc:c≠la:=by simpa using n
    have ncx:c≠x:=λz=>by rw[z,hx] at e;cases e
    simp only[d6 nc,d6 ncx];exact kp _ _ (sm _ _ e) (by simpa using ncx)
   ·simp only[d6 nDx,d6 nDl]
    exact eD
   ·obtain⟨b0,b2,b3,b4⟩:=rq j p o hp ho
    have px:p≠x:=λz=>by rw[z,b8] at b0;cases b0
    have p0:=o9 sm b0;have pl:p≠la:=λz=>by rw[z,ela] at p0;cases p0
    have b1:=(by simpa using b3:p≠m/\p≠r/\p≠q)
    refine⟨p0,b2,by simpa using ⟨px,b1.1,b1.2.2⟩,?_⟩
    simp only[d6 px,d6 pl];exact b4
   ·simp only[d6 nmx,d6 nml]
    exact em
   ·rw[d6 (Ne.symm nla),b8]
    rfl
   ·rw[b8,hfs]
    rfl
  ·obtain⟨v,u,rfl,hfs⟩:=hs2
   fail "";intro x dx hx hdx ne;have sm:=b8p (u:=.own x) (o:=.ins cl.Taker dx []) hx hdx ne;refine⟨x,dx,bd,a,l,n,row,many,last,os,rfl,b8,hB.keep (ps:=[]) (Kp.of sm) (by simp) (by simp),hR.same sm,hG,hz,λD m r q H2 hD hm hr0 nDm nDr nmr hq nqD nqm nqr eq kp nr em er ex2=>⟨rfl,?_⟩⟩
   fail "i";have nqg:q≠x:=λz=>by rw[z,b8] at hq;cases hq
   have hq0:=o9 sm hq;have nql:q≠la:=λz=>by rw[z,ela] at hq0;cases hq0
   obtain⟨qs,eD,lq,rq⟩:=nr;fail "";refine k x dx D m q _ hx hD0 hm0 (Ne.symm nDx) (Ne.symm nmx) nDm hq0 nqg nqD nqm ?_ (λc o e n=>?_) ⟨qs,?_,lq,λj p o hp ho=>?_⟩ ?_ ?_ ?_
   ·simp only[d6 nql,d6 nqg]
    exact eq
   ·have nc:c≠la:=by simpa using n
    have ncx:c≠x:=λz=>by rw[z,hx] at e;cases e
    simp only[d6 nc,d6 ncx];exact kp _ _ (sm _ _ e) (by simpa using ncx)
   ·simp only[d6 nDx,d6 nDl]
    exact eD
   ·obtain⟨b0,b2,b3,b4⟩:=rq j p o hp ho
    have px:p≠x:=λz=>by rw[z,b8] at b0;cases b0
    have p0:=o9 sm b0;have pl:p≠la:=λz=>by rw[z,ela] at p0;cases p0
    have b1:=(by simpa using b3:p≠m/\p≠r/\p≠q)
    refine⟨p0,b2,by simpa using ⟨px,b1.1,b1.2.2⟩,?_⟩
    simp only[d6 px,d6 pl];exact b4
   ·simp only[d6 nmx,d6 nml]
    exact em
   ·rw[d6 (Ne.symm nla),b8]
    rfl
   ·rw[b8,hfs]
    rfl
theorem b1f{H:Hp}{x y:Addr}{o u:HO}(hx:H x=some o)(hy:H y=some u)(h:o≠u):x≠y:=λz=>h (by rw[z,hy] at hx;exact(Option.some.inj hx).symm)
abbrev e2q(cl:Cl)(dx:Addr)(A:Ad):HO:=.ins cl.Lane dx [("board",.ref A.bd),("kept_trail",.ref A.kt),("giver",.ref A.gv),("taker",.ref A.tk)]
section
variable{H H':Hp}{A:Ad}{n:Nat}{c:Pr.Cells}{os bk:List (List Int)}{gs ts ps:List Int}{Gq:Gm}{Tq:Tm}{tl:List Tr}{lt:Lt}{la g dxg D m q dxl:Addr}{fs:List (Str×V)}
def Ad.newG(A:Ad)(g D m:Addr):Ad:={ o:=λj=>if j=2 then g else if j=5 then D else A.o j,mg:=m,mt:=A.mt,fo:=A.fo }
theorem Ad.newG_o{j:Nat}(h2:j≠2)(h5:j≠5):(A.newG g D m).o j=A.o j:=by unfold Ad.newG;dsimp only;rw[if_neg h2,if_neg h5]
theorem Ad.newG_off{x:Addr}(h:∀j,j<8->x≠A.o j)(x2:x≠g)(x5:x≠D):∀j,j<8->x≠(A.newG g D m).o j:=λj hj=>by
 by_cases e2:j=2
 ·rw[e2];exact x2
 by_cases e5:j=5
 ·rw[e5];exact x5
 rw[Ad.newG_o e2 e5];exact h j hj
theorem LH.newG(h:LH cl H A n c os bk gs ts ps Gq Tq tl lt)(ela:H la=some (.ins cl.Lane dxl fs))(hla:∀j,j<8->la≠A.o j)(nla:¬ A.fo la)(hg:H g=none)(hD:H D=none)(hm:H m=none)(gD:g≠D)(gm:g≠m)(Dm:D≠m)(kp:Kp [la] H H')(nr:NRw H H' D [g,m] os)(em:H' m=some (.lst []))(eg:H' g=some (.ins cl.Giver dxg [("kept",.ref D),("board",.ref A.bd),("name",.str "giver"),("other",.str "taker"),("stage_behind_marks",.str "told"),("stage_now",.str "rouse"),("marks_read",.ref m),("here",.non),("touched",.ref A.kt),("number",.int (-1)),("left",.int 0)])):
  LH cl H' (A.newG g D m) n c os bk [] ts ps ⟨"rouse",.non,-1,0⟩ Tq tl lt:=by
 have kn:∀x o,H x=some o->x≠la->H' x=some o:=λx o e z=>kp x o e (by simpa using z)
 have kl:∀x xs,H x=some (.lst xs)->H' x=some (.lst xs):=λx xs e=>kn x _ e (b1f e ela (λz=>(nomatch z)));have sN:∀{x y:Addr}{o:HO},H x=some o->H y=none->x≠y:=λe1 e2 z=>by rw[z,e2] at e1;cases e1
 have ho:=h.has;have off:∀{x:Addr}{o:HO},H x=some o->(∀j,j<8->x≠A.o j)->∀j,j<8->x≠(A.newG g D m).o j:=λe z=>Ad.newG_off z (sN e hg) (sN e hD);obtain⟨many,last,hB,hLt⟩:=h.brd;obtain⟨dg,eg0⟩:=h.gv;obtain⟨dt,et0⟩:=h.tk;refine⟨⟨many,last,hB.keep (ps:=[la]) kp (λz=>Ne.symm (hla 0 ↑5) (List.mem_singleton.mp z)) (λz=>Ne.symm (hla 1 ↑5) (List.mem_singleton.mp z)),hLt.1,hLt.2.1,λq0 z=>?_⟩,?_,?_,?_,?_,?_,?_,?_,(h.tr.gen (A':=A.newG g D m) (λo z=>kn _ _ z (Ne.symm (hla 4 ↑5))) λp t e n1 f=>⟨off e n1,f,kn _ _ e (b1f e ela (λz=>(nomatch z)))⟩),?_,?_,?_⟩
 ·obtain⟨t,e,nt,et⟩:=hLt.2.2 q0 z
  exact⟨t,e,off et nt,kn _ _ et (b1f et ela (λz=>(nomatch z)))⟩
 ·exact⟨dxg,eg⟩
 ·exact⟨dt,kn _ _ et0 (Ne.symm (hla 3 ↑5))⟩
 ·exact em
 ·exact kl _ _ h.mt
 ·obtain⟨qs,e,l,r⟩:=nr
  refine⟨qs,e,l,λi p o hp ho2=>?_⟩;obtain⟨p0,pD,pS,pe⟩:=r i p o hp ho2;have pS2:p≠g/\p≠m:=by simpa using pS
  exact⟨Ad.newG_off (λj hj=>λz=>by obtain⟨u,eu⟩:=ho j hj;rw[<- z,p0] at eu;cases eu) pS2.1 pD,pe⟩
 ·obtain⟨qs,e,l,r⟩:=h.book
  refine⟨qs,kl _ _ e,l,λi p o hp ho2=>?_⟩;obtain⟨p1,p2⟩:=r i p o hp ho2;exact⟨off p2 p1,kl _ _ p2⟩
 ·exact kl _ _ h.pa
 ·intro i j hi hj ij
  by_cases i2:i=2
  ·subst i2
   by_cases j5:j=5
   ·subst j5;exact gD
   rw[Ad.newG_o (Ne.symm ij) j5];obtain⟨u,eu⟩:=ho j hj;exact Ne.symm (sN eu hg)
  by_cases i5:i=5
  ·subst i5
   by_cases j2:j=2
   ·subst j2;exact Ne.symm gD
   rw[Ad.newG_o j2 (Ne.symm ij)];obtain⟨u,eu⟩:=ho j hj;exact Ne.symm (sN eu hD)
  rw[Ad.newG_o i2 i5];by_cases j2:j=2
  ·subst j2
   obtain⟨u,eu⟩:=ho i hi;exact sN eu hg
  by_cases j5:j=5
  ·subst j5
   obtain⟨u,eu⟩:=ho i hi;exact sN eu hD
  rw[Ad.newG_o j2 j5];exact h.nd i j hi hj ij
 ·intro i hi
  exact⟨Ad.newG_off (λj hj=>λz=>by obtain⟨u,eu⟩:=ho j hj;rw[<- z,hm] at eu;cases eu) (Ne.symm gm) (Ne.symm Dm) i hi,off h.mt (λj hj=>(h.om j hj).2) i hi⟩
 ·intro x hx
  obtain⟨⟨o,a⟩,b,c1,d,e,f,g⟩:=h.fo x hx;have xla:x≠la:=λz=>nla (z ▸ hx);obtain⟨o0,z0⟩:=ho 0 ↑5;have y0:H' A.bd=H A.bd:=(kn _ _ z0 (Ne.symm (hla 0 ↑5))).trans z0.symm;obtain⟨qs,eq0,lq,rq⟩:=nr;have new:Unr H' D x:=λxs z q0=>by
   rw[eq0] at z;cases z;obtain⟨p,hp,e2⟩:=List.mem_map.mp q0;obtain⟨i,hi,ei⟩:=List.mem_iff_getElem.mp hp;obtain⟨p0,_⟩:=rq i p (os[i]' ↑5) (by rw[<- ei];exact List.getElem?_eq_getElem hi) (List.getElem?_eq_getElem _)
   rw[V.ref.inj e2,a] at p0;cases p0
  obtain⟨xo,ekk,_⟩:=h.book;have y:H' A.kk=H A.kk:=(kl _ _ ekk).trans ekk.symm;exact⟨⟨o,kn _ _ a xla⟩,Ad.newG_off b (sN a hg) (sN a hD),sN a hm,d,new,(λxs z=>f xs (y ▸ z)),(λC dx fs z=>g C dx fs (y0 ▸ z))⟩
def Ad.newT(A:Ad)(g D m q:Addr):Ad:={ o:=λj=>if j=3 then g else if j=6 then D else if j=7 then q else A.o j,mg:=A.mg,mt:=m,fo:=A.fo }
theorem Ad.newT_o{j:Nat}(h3:j≠3)(h6:j≠6)(h7:j≠7):(A.newT g D m q).o j=A.o j:=by unfold Ad.newT;dsimp only;rw[if_neg h3,if_neg h6,if_neg h7]
theorem Ad.newT_off{x:Addr}(h:∀j,j<8->x≠A.o j)(x3:x≠g)(x6:x≠D)(x7:x≠q):∀j,j<8->x≠(A.newT g D m q).o j:=λj hj=>by
 by_cases e3:j=3
 ·rw[e3];exact x3
 by_cases e6:j=6
 ·rw[e6];exact x6
 by_cases e7:j=7
 ·rw[e7];exact x7
 rw[Ad.newT_o e3 e6 e7];exact h j hj
theorem LH.newT(h:LH cl H A n c os bk gs ts ps Gq Tq tl lt)(ela:H la=some (.ins cl.Lane dxl fs))(hla:∀j,j<8->la≠A.o j)(nla:¬ A.fo la)(hg:H g=none)(hD:H D=none)(hm:H m=none)(gD:g≠D)(gm:g≠m)(Dm:D≠m)(hq:H q=none)(qg:q≠g)(qD:q≠D)(qm:q≠m)(eq:H' q=some (.lst []))(kp:Kp [la] H H')(nr:NRw H H' D [g,m,q] bk)(em:H' m=some (.lst []))(eg:H' g=some (.ins cl.Taker dxg [("taken",.ref D),("board",.ref A.bd),("name",.str "taker"),("other",.str "giver"),("stage_behind_marks",.str "look"),("stage_now",.str "rouse"),("marks_read",.ref m),("here",.non),("touched",.ref A.kt),("not_freed",.non),("number",.int 0),("left",.int 0),("parts",.ref q)])):
  LH cl H' (A.newT g D m q) n c os bk gs [] [] Gq ⟨"rouse",.non,.non,0,0⟩ tl lt:=by
 have kn:∀x o,H x=some o->x≠la->H' x=some o:=λx o e z=>kp x o e (by simpa using z)
 have kl:∀x xs,H x=some (.lst xs)->H' x=some (.lst xs):=λx xs e=>kn x _ e (b1f e ela (λz=>(nomatch z)));have sN:∀{x y:Addr}{o:HO},H x=some o->H y=none->x≠y:=λe1 e2 z=>by rw[z,e2] at e1;cases e1
 have ho:=h.has;have off:∀{x:Addr}{o:HO},H x=some o->(∀j,j<8->x≠A.o j)->∀j,j<8->x≠(A.newT g D m q).o j:=λe z=>Ad.newT_off z (sN e hg) (sN e hD) (sN e hq);obtain⟨many,last,hB,hLt⟩:=h.brd;obtain⟨dg,eg0⟩:=h.gv;obtain⟨dt,et0⟩:=h.tk;refine⟨⟨many,last,hB.keep (ps:=[la]) kp (λz=>Ne.symm (hla 0 ↑5) (List.mem_singleton.mp z)) (λz=>Ne.symm (hla 1 ↑5) (List.mem_singleton.mp z)),hLt.1,hLt.2.1,λq0 z=>?_⟩,?_,?_,?_,?_,?_,?_,?_,(h.tr.gen (A':=A.newT g D m q) (λo z=>kn _ _ z (Ne.symm (hla 4 ↑5))) λp t e n1 f=>⟨off e n1,f,kn _ _ e (b1f e ela (λz=>(nomatch z)))⟩),?_,?_,?_⟩
 ·obtain⟨t,e,nt,et⟩:=hLt.2.2 q0 z
  exact⟨t,e,off et nt,kn _ _ et (b1f et ela (λz=>(nomatch z)))⟩
 ·exact⟨dg,kn _ _ eg0 (Ne.symm (hla 2 ↑5))⟩
 ·exact⟨dxg,eg⟩
 ·exact kl _ _ h.mg
 ·exact em
 ·obtain⟨qs,e,l,r⟩:=h.kept
  refine⟨qs,kl _ _ e,l,λi p o hp ho2=>?_⟩;obtain⟨p1,p2⟩:=r i p o hp ho2;exact⟨off p2 p1,kl _ _ p2⟩
 ·obtain⟨qs,e,l,r⟩:=nr
  refine⟨qs,e,l,λi p o hp ho2=>?_⟩;obtain⟨p0,pD,pS,pe⟩:=r i p o hp ho2;have pS2:p≠g/\p≠m/\p≠q:=by simpa using pS
  exact⟨Ad.newT_off (λj hj=>λz=>by obtain⟨u,eu⟩:=ho j hj;rw[<- z,p0] at eu;cases eu) pS2.1 pD pS2.2.2,pe⟩
 ·exact eq
 ·intro i j hi hj ij
  by_cases i3:i=3
  ·subst i3
   by_cases j6:j=6
   ·subst j6;exact gD
   by_cases j7:j=7
   ·subst j7;exact Ne.symm qg
   rw[Ad.newT_o (Ne.symm ij) j6 j7];obtain⟨u,eu⟩:=ho j hj;exact Ne.symm (sN eu hg)
  by_cases i6:i=6
  ·subst i6
   by_cases j3:j=3
   ·subst j3;exact Ne.symm gD
   by_cases j7:j=7
   ·subst j7;exact Ne.symm qD
   rw[Ad.newT_o j3 (Ne.symm ij) j7];obtain⟨u,eu⟩:=ho j hj;exact Ne.symm (sN eu hD)
  by_cases i7:i=7
  ·subst i7
   by_cases j3:j=3
   ·subst j3;exact qg
   by_cases j6:j=6
   ·subst j6;exact qD
   rw[Ad.newT_o j3 j6 (Ne.symm ij)];obtain⟨u,eu⟩:=ho j hj;exact Ne.symm (sN eu hq)
  rw[Ad.newT_o i3 i6 i7];by_cases j3:j=3
  ·subst j3
   obtain⟨u,eu⟩:=ho i hi;exact sN eu hg
  by_cases j6:j=6
  ·subst j6
   obtain⟨u,eu⟩:=ho i hi;exact sN eu hD
  by_cases j7:j=7
  ·subst j7
   obtain⟨u,eu⟩:=ho i hi;exact sN eu hq
  rw[Ad.newT_o j3 j6 j7];exact h.nd i j hi hj ij
 ·intro i hi
  exact⟨off h.mg (λj hj=>(h.om j hj).1) i hi,Ad.newT_off (λj hj=>λz=>by obtain⟨u,eu⟩:=ho j hj;rw[<- z,hm] at eu;cases eu) (Ne.symm gm) (Ne.symm Dm) (Ne.symm qm) i hi⟩
 ·intro x hx
  obtain⟨⟨o,a⟩,b,c1,d,e,f,g⟩:=h.fo x hx;have xla:x≠la:=λz=>nla (z ▸ hx);obtain⟨o0,z0⟩:=ho 0 ↑5;have y0:H' A.bd=H A.bd:=(kn _ _ z0 (Ne.symm (hla 0 ↑5))).trans z0.symm;obtain⟨qs,eq0,lq,rq⟩:=nr;have new:Unr H' D x:=λxs z q0=>by
   rw[eq0] at z;cases z;obtain⟨p,hp,e2⟩:=List.mem_map.mp q0;obtain⟨i,hi,ei⟩:=List.mem_iff_getElem.mp hp;obtain⟨p0,_⟩:=rq i p (bk[i]' ↑5) (by rw[<- ei];exact List.getElem?_eq_getElem hi) (List.getElem?_eq_getElem _)
   rw[V.ref.inj e2,a] at p0;cases p0
  obtain⟨xo,ekk,_⟩:=h.kept;have y:H' A.kg=H A.kg:=(kl _ _ ekk).trans ekk.symm;exact⟨⟨o,kn _ _ a xla⟩,Ad.newT_off b (sN a hg) (sN a hD) (sN a hq),c1,sN a hm,(λxs z=>e xs (y ▸ z)),new,(λC dx fs z=>g C dx fs (y0 ▸ z))⟩
end
structure LN(cl:Cl)(H:Hp)(la:Addr)(A:Ad)(L:Ln)(tl:List Tr):Prop where
 lr:LR cl H A L tl
 ob:∃dx,H la=some (e2q cl dx A)
 off:∀j,j<8->la≠A.o j
 nfo:¬ A.fo la
def KpL(la:Addr)(A:Ad)(H H':Hp):Prop:=∀x o,H x=some o->x≠la->(∀j,j<8->x≠A.o j)->H' x=some o
def NxA(A A':Ad)(H:Hp):Prop:=(∀j,j<8->A'.o j=A.o j\/H (A'.o j)=none)/\A'.fo=A.fo
theorem Nx.all{A A':Ad}{H:Hp}(h:Nx A A' H):NxA A A' H:=⟨λj hj=>by
 by_cases e:j=7
 ·subst e;exact h.2.1
 ·exact .inl (h.1 j ↑5),h.2.2⟩
theorem NxA.off{A A':Ad}{H:Hp}{x:Addr}{o:HO}(h:NxA A A' H)(e:H x=some o)(n:∀j,j<8->x≠A.o j):∀j,j<8->x≠A'.o j:=λj hj=>by
 rcases h.1 j hj with z|z
 ·rw[z];exact n j hj
 ·exact λy=>by rw[y,z] at e;cases e
theorem LN.same{H H':Hp}{la:Addr}{A:Ad}{L:Ln}{tl:List Tr}(h:LN cl H la A L tl)(s:Same H H'):LN cl H' la A L tl:=by
 obtain⟨⟨ps,Gq,Tq,lt,a,b⟩,⟨dx,e⟩,o,f⟩:=h;exact⟨⟨ps,Gq,Tq,lt,a.same s,b⟩,⟨dx,s _ _ e⟩,o,f⟩
theorem d6h{n:Nat}(h2:2<=n)(h8:n<=8):b4i n=c1t n (a0l n):=by
 have:n=2\/n=3\/n=4\/n=5\/n=6\/n=7\/n=8:=by lia
 rcases this with rfl|rfl|rfl|rfl|rfl|rfl|rfl <;> decide
def HN(b:Bool)(h:Str):Prop:=(b=true/\h="giver")\/(b=false/\h="taker")
def a2b(cl:Cl):Sp:=λvs H Q _=>ExN λla A L tl=>∃(b:Bool)(h:Str),vs=[.ref la,.str h]/\HN b h/\LN cl H la A L tl/\∀x,HOf A b x->Q (.ref x) H
abbrev a2u:Stmt:=j4 (top 108) 3
theorem b3l:d9 ["self","hand"] ["self","hand"] (d7 a2u):=↑1
theorem b4a(D:DefM K cl.Lane "hand_named" "Lane.hand_named" a2u ["self","hand"])(T:Txt K mg cl)(G_check_hand:FnT P w K mg base "check_hand" 1 ["hand"] (a4d cl)):MethT P w K mg base cl.Lane "hand_named" 2 ["self","hand"] (a2b cl):=by
 refine D.fn b3l ↑7 ↑4
 ·walk_at "len"
 ·obtain⟨la,A,L,tl,b,h,rfl,hh,hN,k⟩:=h
  refine⟨_,(d5 (i8 (g9 G_check_hand hr ↑3 rfl f9 (a7 (pv 1) b7)))
   (d8 (g4 (a5m (k7 a6a (pv 1) g7 (m9 _)) ↑6 ↑6)))),?_⟩
  obtain⟨dx,ex⟩:=hN.ob;rcases hh with ⟨rfl,rfl⟩|⟨rfl,rfl⟩
  ·fail ""
   refine⟨_,rfl,?_⟩;rw[if_pos (.inl rfl)];fail "";rw[if_pos ↑3];fail "";exact k _ (.inl ⟨rfl,rfl⟩)
  ·fail ""
   refine⟨_,rfl,?_⟩;rw[if_pos (.inr rfl)];fail "";rw[if_neg ↑3];fail "";exact k _ (.inr ⟨rfl,rfl⟩)
def a4o(cl:Cl):Sp:=λvs H Q _=>ExN λla A L tl=>∃(a:Addr)(o:List Int),vs=[.ref la,.ref a]/\LN cl H la A L tl/\H a=some (.lst (o.map V.int))/\1<=o.length/\o.length<=L.n/\L.os.length<=400/\∀H',LN cl H' la A (a1m L o) tl->KpL la A H H'->Q (.int L.os.length) H'
abbrev a5w:Stmt:=j4 (top 108) 4
theorem b7j:d9 ["self","order"] ["self","order"] (d7 a5w):=↑1
def b6a(cl:Cl):Sp:=λvs H Q _=>ExN λla A L tl=>∃(b:Bool)(h:Str),vs=[.ref la,.str h]/\HN b h/\LN cl H la A L tl/\L.os.length<=400/\tl.length<=4000000/\∀H' A',LN cl H' la A' (b0m b L) (trB b L tl)->KpL la A H H'->NxA A A' H->Q (.bl (!a7w b L)) H'
def c0q(cl:Cl)(b:Bool):Sp:=λvs H Q E=>∃(A:Ad)(L:Ln)(tl:List Tr),vs=[.ref (if b then A.gv else A.tk)]/\LR cl H A L tl/\L.os.length<=400/\tl.length<=4000000/\∀H' A',LR cl H' A' (b0m b L) (trB b L tl)->KpA A H H'->Nx A A' H->Q (.bl (!a7w b L)) H'
abbrev b1z:Stmt:=j4 (top 108) 5
theorem c4h:d9 ["self","hand"] ["self","hand"] (d7 b1z):=↑1
theorem c5n(D:DefM K cl.Lane "step" "Lane.step" b1z ["self","hand"])(T:Txt K mg cl)(G_Lane_hand_named:MethT P w K mg base cl.Lane "hand_named" 2 ["self","hand"] (a2b cl))(GS:MethT P w K mg base cl.Giver "step" 8 ["self"] (c0q cl true))(TS:MethT P w K mg base cl.Taker "step" 8 ["self"] (c0q cl false)):MethT P w K mg base cl.Lane "step" 9 ["self","hand"] (b6a cl):=by
 refine D.fn c4h ↑7 ↑4
 ·walk_at "len"
 ·obtain⟨la,A,L,tl,b,h,rfl,hh,hN,os4,tl5,k⟩:=h
  refine⟨_,(d8 (g4 (i9 (k:=8) (a1e (pv 0) T.k_Lane G_Lane_hand_named hr ↑3 f9 (a7 (pv 1) b7)) hr ↑3 f9))),?_⟩;obtain⟨dx,ex⟩:=hN.ob;obtain⟨_,_,_,_,hL,_⟩:=id hN.lr;obtain⟨dxg,eg⟩:=hL.gv;obtain⟨dxt,et⟩:=hL.tk;fail "f";refine⟨la,A,L,tl,b,h,rfl,hh,hN,λx hx=>?_⟩;have fin:∀H' A',LR cl H' A' (b0m b L) (trB b L tl)->KpA A H H'->Nx A A' H->Q (.bl (!a7w b L)) H':=λH' A' z1 z2 z3=>by
   refine k H' A' ⟨z1,⟨dx,?_⟩,z3.all.off ex hN.off,(by rw[z3.2.2];exact hN.nfo)⟩ (λx o e _ n=>z2 x o e n) z3.all
   have:=z2 _ _ ex hN.off;rw[this];unfold e2q Ad.bd Ad.kt Ad.gv Ad.tk;rw[z3.1 0 ↑5,z3.1 4 ↑5,z3.1 2 ↑5,z3.1 3 ↑5]
  rcases hx with ⟨rfl,rfl⟩|⟨rfl,rfl⟩
  ·refine⟨A.gv,cl.Giver,dxg,_,_,_,rfl,eg,rfl,T.k_Giver,GS,?_⟩
   fail "";exact⟨A,L,tl,rfl,hN.lr,os4,tl5,fin⟩
  ·refine⟨A.tk,cl.Taker,dxt,_,_,_,rfl,et,rfl,T.k_Taker,TS,?_⟩
   fail "";exact⟨A,L,tl,rfl,hN.lr,os4,tl5,fin⟩
theorem NewRows.rws{H H':Hp}{p:Addr}{os:List (List Int)}(h:NewRows H H' p os):Rws H' p os:=by
 obtain⟨_,_,ps,e,l,r⟩:=h;exact⟨ps,e,l,λi q o a b=>(r i q o a b).2.2⟩
def a5d(cl:Cl):Sp:=λvs H Q _=>ExN λla A L tl=>vs=[.ref la]/\LN cl H la A L tl/\L.os.length<=1000/\∀p H',NewRows H H' p L.bk->Q (.ref p) H'
abbrev b2c:Stmt:=j4 (top 108) 10
theorem c4k:d9 ["self"] ["self"] (d7 b2c):=↑1
theorem c5q(D:DefM K cl.Lane "book" "Lane.book" b2c ["self"])(T:Txt K mg cl)(GM:MethT P w K mg base cl.Taker "book" 2 ["self"] (a7c cl)):MethT P w K mg base cl.Lane "book" 3 ["self"] (a5d cl):=by
 refine D.fn c4k ↑7 ↑4
 ·walk_at "len"
 ·obtain⟨la,A,L,tl,rfl,hN,os4,k⟩:=h
  refine⟨_,(d8 (g4 (i9 (k:=2) ↑6 hr ↑3 f9))),?_⟩;obtain⟨dx,ex⟩:=hN.ob;obtain⟨_,_,_,_,hL,_⟩:=id hN.lr;obtain⟨dxg,eg⟩:=hL.tk;fail "f";refine⟨A.tk,cl.Taker,dxg,_,_,_,rfl,eg,rfl,T.k_Taker,GM,?_⟩;fail "";exact⟨A,L,tl,rfl,hN.lr,os4,k⟩
def b0y(cl:Cl):Sp:=λvs H Q _=>ExN λla A L tl=>vs=[.ref la]/\LN cl H la A L tl/\L.os.length<=1000/\∀p H',NewRows H H' p L.os->Q (.ref p) H'
abbrev a7m:Stmt:=j4 (top 108) 11
theorem b9f:d9 ["self"] ["self"] (d7 a7m):=↑1
theorem b9r(D:DefM K cl.Lane "orders" "Lane.orders" a7m ["self"])(T:Txt K mg cl)(GM:MethT P w K mg base cl.Giver "orders" 2 ["self"] (a4p cl)):MethT P w K mg base cl.Lane "orders" 3 ["self"] (b0y cl):=by
 refine D.fn b9f ↑7 ↑4
 ·walk_at "len"
 ·obtain⟨la,A,L,tl,rfl,hN,os4,k⟩:=h
  refine⟨_,(d8 (g4 (i9 (k:=2) ↑6 hr ↑3 f9))),?_⟩;obtain⟨dx,ex⟩:=hN.ob;obtain⟨_,_,_,_,hL,_⟩:=id hN.lr;obtain⟨dxg,eg⟩:=hL.gv;fail "f";refine⟨A.gv,cl.Giver,dxg,_,_,_,rfl,eg,rfl,T.k_Giver,GM,?_⟩;fail "";exact⟨A,L,tl,rfl,hN.lr,os4,k⟩
theorem LR.gfall{H':Hp}{A':Ad}{L:Ln}{tl:List Tr}{ps:List Int}{Tq:Tm}(h:LH cl H' A' L.n L.c L.os L.bk [] L.tseen ps ⟨"rouse",.non,-1,0⟩ Tq tl (c9n tl))(ht:TRel L Tq ps)(ok:Ok L):LR cl H' A' (gfall L) tl :=
 ⟨ps,_,Tq,(),h,⟨rfl,(λz=>(nomatch (show true=false from z))),(λz=>(nomatch (show true=false from z))),(λz=>(nomatch (show true=false from z)))⟩,⟨ht.st,ht.he,ht.nf,ht.nu,ht.le,ht.pa⟩,d7d ok⟩
theorem LR.tfall{H':Hp}{A':Ad}{L:Ln}{tl:List Tr}{Gq:Gm}(h:LH cl H' A' L.n L.c L.os L.bk L.gseen [] [] Gq ⟨"rouse",.non,.non,0,0⟩ tl (c9n tl))(hg:GRel L Gq)(ok:Ok L):LR cl H' A' (tfall L) tl :=
 ⟨[],Gq,_,(),h,⟨hg.st,hg.he,hg.nu,hg.le⟩,⟨rfl,(λz=>(nomatch (show true=false from z))),(λz=>(nomatch (show true=false from z))),(λz=>by rcases z with z|z <;> exact(nomatch (show Stg.rouse=_ from z))),(λz=>(nomatch (show Stg.rouse=Stg.thing from z))),(if_pos (.inl rfl)).symm⟩,d5u ok⟩
def c3g(b:Bool)(L:Ln):Ln:=if b then gfall L else tfall L
def b6c(cl:Cl):Sp:=λvs H Q _=>ExN λla A L tl=>∃(b:Bool)(h:Str),vs=[.ref la,.str h]/\HN b h/\LN cl H la A L tl/\L.os.length<=1000/\∀H' A',LN cl H' la A' (c3g b L) tl->KpL la A H H'->NxA A A' H->Q .non H'
abbrev b2b:Stmt:=j4 (top 108) 6
theorem c4j:d9 ["self","hand"] ["self","hand"] (d7 b2b):=↑1
theorem c5p(D:DefM K cl.Lane "fall" "Lane.fall" b2b ["self","hand"])(T:Txt K mg cl)(G_check_hand:FnT P w K mg base "check_hand" 1 ["hand"] (a4d cl))(G_Lane_place_giver:MethT P w K mg base cl.Lane "place_giver" 5 ["self","orders"] (a1o cl))(G_Lane_place_taker:MethT P w K mg base cl.Lane "place_taker" 5 ["self","book"] (a1n cl))(GO:MethT P w K mg base cl.Giver "orders" 2 ["self"] (a4p cl))(TB:MethT P w K mg base cl.Taker "book" 2 ["self"] (a7c cl)):MethT P w K mg base cl.Lane "fall" 6 ["self","hand"] (b6c cl):=by
 refine D.fn c4j ↑7 ↑4
 ·walk_at "len"
 ·obtain⟨la,A,L,tl,b,h,rfl,hh,hN,os4,k⟩:=h
  refine⟨_,(d5 (i8 (g9 G_check_hand hr ↑3 rfl f9 (a7 (pv 1) b7)))
   (d8 (a0q (k7 a6a (pv 1) g7 (m9 _))
    (d8 (i8 (a1e (pv 0) T.k_Lane G_Lane_place_giver hr ↑3 f9 (a7 (i9 (k:=2) ↑6 hr ↑3 f9) b7))))
    (d8 (i8 (a1e (pv 0) T.k_Lane G_Lane_place_taker hr ↑3 f9 (a7 (i9 (k:=2) ↑6 hr ↑3 f9) b7))))))),?_⟩
  obtain⟨dx,ex⟩:=hN.ob;obtain⟨ps,Gq,Tq,lt,hL,hg,ht,ok⟩:=id hN.lr;obtain⟨dxg,eg⟩:=hL.gv;obtain⟨dxt,et⟩:=hL.tk;rcases hh with ⟨rfl,rfl⟩|⟨rfl,rfl⟩
  ·fail ""
   refine⟨_,rfl,?_⟩;rw[if_pos (.inl rfl)];fail "";rw[if_pos ↑3];fail "f";refine⟨A.gv,cl.Giver,dxg,_,_,_,rfl,eg,rfl,T.k_Giver,GO,?_⟩;fail "";refine⟨A,L,tl,rfl,hN.lr,os4,λa H1 nr0=>?_⟩;have s1:=nr0.2.1;have z1:=hL.same s1;have e1:=s1 _ _ ex;obtain⟨many,last,hB,_⟩:=z1.brd;fail "";refine⟨la,dx,A.bd,A.kt,a,A.l,L.n,_,many,last,L.os,_,_,rfl,.inr ⟨.ref A.gv,.ref A.tk,rfl,λ_=>rfl⟩,e1,hB,nr0.rws,ok.core.good,os4,λg dxg D m H2 hg0 hD hm gD gm Dm kp nr em eg2 el=>?_⟩;refine k H2 (A.newG g D m) ⟨LR.gfall (z1.newG e1 hN.off hN.nfo hg0 hD hm gD gm Dm kp nr em eg2) ht ok,⟨dx,el⟩,Ad.newG_off hN.off (λz=>by rw[<- z,e1] at hg0;cases hg0) (λz=>by rw[<- z,e1] at hD;cases hD),hN.nfo⟩ (λx o e n _=>kp _ _ (s1 _ _ e) (by simpa using n)) ⟨λj hj=>?_,rfl⟩
   by_cases e2:j=2
   ·subst e2;exact .inr (o9 s1 hg0)
   by_cases e5:j=5
   ·subst e5;exact .inr (o9 s1 hD)
   exact .inl (Ad.newG_o e2 e5)
  ·fail ""
   refine⟨_,rfl,?_⟩;rw[if_pos (.inr rfl)];fail "";rw[if_neg ↑3];fail "f";refine⟨A.tk,cl.Taker,dxt,_,_,_,rfl,et,rfl,T.k_Taker,TB,?_⟩;fail "";refine⟨A,L,tl,rfl,hN.lr,os4,λa H1 nr0=>?_⟩;have s1:=nr0.2.1;have z1:=hL.same s1;have e1:=s1 _ _ ex;obtain⟨many,last,hB,_⟩:=z1.brd;fail "";refine⟨la,dx,A.bd,A.kt,a,A.l,L.n,_,many,last,L.bk,_,_,rfl,.inr ⟨.ref A.gv,.ref A.tk,rfl,λ_=>rfl⟩,e1,hB,nr0.rws,(λo ho=>ok.core.good o (by have e:=ok.tk.bk;rw[e] at ho;exact List.mem_of_mem_take ho)),(have:=ok.tk.bl;by lia),λg dxg D m q H2 hg0 hD hm gD gm Dm hq qg qD qm eq kp nr em eg2 el=>?_⟩
   refine k H2 (A.newT g D m q) ⟨LR.tfall (z1.newT e1 hN.off hN.nfo hg0 hD hm gD gm Dm hq qg qD qm eq kp nr em eg2) hg ok,⟨dx,el⟩,Ad.newT_off hN.off (λz=>by rw[<- z,e1] at hg0;cases hg0) (λz=>by rw[<- z,e1] at hD;cases hD) (λz=>by rw[<- z,e1] at hq;cases hq),hN.nfo⟩ (λx o e n _=>kp _ _ (s1 _ _ e) (by simpa using n)) ⟨λj hj=>?_,rfl⟩
   by_cases e3:j=3
   ·subst e3;exact .inr (o9 s1 hg0)
   by_cases e6:j=6
   ·subst e6;exact .inr (o9 s1 hD)
   by_cases e7:j=7
   ·subst e7;exact .inr (o9 s1 hq)
   exact .inl (Ad.newT_o e3 e6 e7)
theorem d2o{H:Hp}{a:Addr}(h:H a=some (.lst [])):Rws H a []:=⟨[],h,rfl,λi p o hp=>by simp at hp⟩
theorem c8a{H H':Hp}{D:Addr}{S:List Addr}(h:NRw H H' D S []):H' D=some (.lst []):=by
 obtain⟨ps,e,l,_⟩:=h;have:ps=[]:=List.length_eq_zero_iff.mp l;subst this;exact e
def b6b(cl:Cl):Sp:=λvs H Q _=>∃(la dx:Addr)(n:Nat),vs=[.ref la,.int n]/\H la=some (.ins cl.Lane dx [])/\2<=n/\n<=8/\∃F:Addr->Prop,(∀x,F x->x≠la/\∃o,H x=some o)/\∀A H',A.fo=F->LN cl H' la A (a0b n) []->Kp [la] H H'->(∀j,j<8->H (A.o j)=none)->(∀x,Unl H' A.bd x)->Q .non H'
abbrev b2a:Stmt:=j4 (top 108) 0
theorem c4i:d9 ["self","size"] ["self","size"] (d7 b2a):=↑1
theorem c5o(D:DefM K cl.Lane "__init__" "Lane.__init__" b2a ["self","size"])(T:Txt K mg cl)(G_Board:MakeT P w K mg base "Board" cl.Board 2 ["self","size"] (b3g cl))(G_Lane_place_giver:MethT P w K mg base cl.Lane "place_giver" 5 ["self","orders"] (a1o cl))(G_Lane_place_taker:MethT P w K mg base cl.Lane "place_taker" 5 ["self","book"] (a1n cl)):MethT P w K mg base cl.Lane "__init__" 6 ["self","size"] (b6b cl):=by
 refine D.fn c4i ↑7 ↑4
 ·walk_at "len"
 ·obtain⟨la,dx,n,rfl,ela,n2,n8,F,hF,k⟩:=h
  refine⟨_,(d5 (j1 (K:=K) (pv 0) (d0x G_Board hr ↑3 rfl f9 (a7 (pv 1) b7)))
   (d5 (j1 (K:=K) (pv 0) (o8 b7))
   (d5 (i8 (a1e (pv 0) T.k_Lane G_Lane_place_giver hr ↑3 f9 (a7 (o8 b7) b7)))
   (d8 (i8 (a1e (pv 0) T.k_Lane G_Lane_place_taker hr ↑3 f9 (a7 (o8 b7) b7))))))),?_⟩
  fail "";intro bd dxb hbd hdxb ne;have sm:=b8p (u:=.own bd) (o:=.ins cl.Board dxb []) hbd hdxb ne;refine⟨bd,dxb,n,rfl,b8,?_⟩;rw[if_pos ⟨by lia,by lia⟩]
  intro l H1 hl kp1 hB1;refine⟨rfl,?_⟩;rw[show((n:Nat):Int).toNat=n from rfl] at hB1;have hl0:=o9 sm hl;have nlb:la≠bd:=λz=>by rw[<- z,ela] at hbd;cases hbd
  have nll:la≠l:=λz=>by rw[<- z,ela] at hl0;cases hl0
  have ela1:=kp1 _ _ (sm _ _ ela) (by simpa using nlb)
  have n01:bd≠l:=by
   obtain⟨⟨_,e1⟩,e2,_⟩:=hB1;exact b1f e1 e2 (λz=>(nomatch z))
  have kH1:∀x o,H x=some o->x≠la->H1 x=some o:=λx o e _=>kp1 _ _ (sm _ _ e) (by simpa using λz=>by rw[z,hbd] at e;cases e)
  fail "";refine⟨Nat.zero_le _,λkt hkt=>?_⟩;have nkl:kt≠la:=λz=>by rw[z,b8] at hkt;cases hkt
  rw[d6 nkl] at hkt;have n04:bd≠kt:=λz=>by obtain⟨⟨_,e1⟩,_⟩:=hB1;rw[z,hkt] at e1;cases e1
  have n14:l≠kt:=λz=>by obtain⟨_,e1,_⟩:=hB1;rw[z,hkt] at e1;cases e1
  have hkt0:H kt=none:=by
   cases e:H kt with
   | none=>rfl
   | some o=>rw[kH1 _ _ e nkl] at hkt;cases hkt
  fail "";refine⟨Nat.zero_le _,λa1 ha1=>?_⟩;have na1:a1≠la:=λz=>by rw[z,b8] at ha1;cases ha1
  have nak:a1≠kt:=λz=>by rw[z,d6 nkl,b8] at ha1;cases ha1
  simp only[d6 na1,d6 nak] at ha1;fail "";generalize e3:upd (upd (upd (upd H1 la _) kt _) la _) a1 _=H3;have l3:H3 la=some (.ins cl.Lane dx [("board",.ref bd),("kept_trail",.ref kt)]):=by rw[<- e3,d6 (Ne.symm na1),b8];rfl
  have k3:∀x o,H1 x=some o->x≠la->H3 x=some o:=λx o e nx=>by
   rw[<- e3,d6 (λz=>by rw[z,ha1] at e;cases e),d6 nx,d6 (λz=>by rw[z,hkt] at e;cases e),d6 nx]
   exact e
  have t3:H3 kt=some (.lst []):=by rw[<- e3,d6 (Ne.symm nak),d6 nkl,b8]
  have a3:H3 a1=some (.lst []):=by rw[<- e3,b8]
  have hB3:Brd cl H3 bd l n (b4i n) 0 .non:=hB1.keep (ps:=[la]) (λc o e nn=>k3 c o e (by simpa using nn)) (by simpa using Ne.symm nlb) (by simpa using Ne.symm nll)
  have kH3:∀x o,H x=some o->x≠la->H3 x=some o:=λx o e nx=>k3 x o (kH1 x o e nx) nx;clear e3;refine⟨la,dx,bd,kt,a1,l,n,b4i n,0,.non,[],_,_,rfl,.inl ⟨rfl,λ_=>rfl⟩,l3,hB3,d2o a3,(λo ho=>by cases ho),by decide,λg dxg D m H4 hg hD hm gD gm Dm kp4 nr4 em4 eg4 l4=>?_⟩
  fail "";refine⟨Nat.zero_le _,λa2 ha2=>?_⟩;fail "";generalize e5:upd H4 a2 _=H5;have s5:Same H4 H5:=by rw[<- e5];exact f8 ha2
  have a5:H5 a2=some (.lst []):=by rw[<- e5,b8]
  clear e5;have k35:Kp [la] H3 H5:=λx o e nx=>s5 _ _ (kp4 x o e nx);have hB5:=hB3.keep k35 (by simpa using Ne.symm nlb) (by simpa using Ne.symm nll)
  refine⟨la,dx,bd,kt,a2,l,n,b4i n,0,.non,[],_,_,rfl,.inl ⟨.ref g,rfl,λ_=>rfl⟩,s5 _ _ l4,hB5,d2o a5,(λo ho=>by cases ho),by decide,λt dxt D2 m2 q H6 ht hD2 hm2 tD2 tm2 Dm2 hq qt qD2 qm2 eq6 kp6 nr6 em6 et6 l6=>?_⟩
  obtain⟨⟨dxb3,eb3⟩,el3,_⟩:=id hB3;have g5:=s5 _ _ eg4;have D5:=s5 _ _ (c8a nr4);have m5:=s5 _ _ em4;have t5:=k35 _ _ t3 (by simpa using nkl)
  have eb5:=k35 _ _ eb3 (by simpa using Ne.symm nlb)
  have el5:=k35 _ _ el3 (by simpa using Ne.symm nll)
  have sN:∀{H:Hp}{x y:Addr}{o:HO},H x=some o->H y=none->x≠y:=λe1 e2 z=>by rw[z,e2] at e1;cases e1
  have lg:=sN l3 hg;have lD:=sN l3 hD;have lm:=sN l3 hm;have l5:=s5 _ _ l4;have lt:=sN l5 ht;have lD2:=sN l5 hD2;have lm2:=sN l5 hm2;have lq:=sN l5 hq;have hB6:=hB5.keep kp6 (by simpa using Ne.symm nlb) (by simpa using Ne.symm nll)
  rw[d6h n2 n8] at hB6;have k6:∀x o,H5 x=some o->la≠x->H6 x=some o:=λx o e nx=>kp6 x o e (by simpa using Ne.symm nx)
  have d01:bd≠l:=n01;have d02:bd≠g:=sN eb3 hg;have d03:bd≠t:=sN eb5 ht;have d04:bd≠kt:=n04;have d05:bd≠D:=sN eb3 hD;have d06:bd≠D2:=sN eb5 hD2;have d07:bd≠q:=sN eb5 hq;have d12:l≠g:=sN el3 hg;have d13:l≠t:=sN el5 ht;have d14:l≠kt:=n14;have d15:l≠D:=sN el3 hD;have d16:l≠D2:=sN el5 hD2;have d17:l≠q:=sN el5 hq;have d23:g≠t:=sN g5 ht;have d24:g≠kt:=Ne.symm (sN t3 hg);have d25:g≠D:=gD;have d26:g≠D2:=sN g5 hD2;have d27:g≠q:=sN g5 hq;have d34:t≠kt:=Ne.symm (sN t5 ht);have d35:t≠D:=Ne.symm (sN D5 ht);have d36:t≠D2:=tD2;have d37:t≠q:=Ne.symm qt;have d45:kt≠D:=sN t3 hD;have d46:kt≠D2:=sN t5 hD2;have d47:kt≠q:=sN t5 hq;have d56:D≠D2:=sN D5 hD2;have d57:D≠q:=sN D5 hq;have d67:D2≠q:=Ne.symm qD2;have e0:m≠bd:=Ne.symm (sN eb3 hm);have f0:m2≠bd:=Ne.symm (sN eb5 hm2);have o0:la≠bd:=nlb;have e1:m≠l:=Ne.symm (sN el3 hm);have f1:m2≠l:=Ne.symm (sN el5 hm2);have o1:la≠l:=nll;have e2:m≠g:=Ne.symm gm;have f2:m2≠g:=Ne.symm (sN g5 hm2);have o2:la≠g:=lg;have e3:m≠t:=sN m5 ht;have f3:m2≠t:=Ne.symm tm2;have o3:la≠t:=lt;have e4:m≠kt:=Ne.symm (sN t3 hm);have f4:m2≠kt:=Ne.symm (sN t5 hm2);have o4:la≠kt:=Ne.symm nkl;have e5:m≠D:=Ne.symm Dm;have f5:m2≠D:=Ne.symm (sN D5 hm2);have o5:la≠D:=lD;have e6:m≠D2:=sN m5 hD2;have f6:m2≠D2:=Ne.symm Dm2;have o6:la≠D2:=lD2;have e7:m≠q:=sN m5 hq;have f7:m2≠q:=Ne.symm qm2;have o7:la≠q:=lq;have back3:∀x,la≠x->H3 x=none->H x=none:=λx nx e=>by
   cases z:H x with
   | none=>rfl
   | some o=>rw[kH3 _ _ z (Ne.symm nx)] at e;cases e
  have back5:∀x,la≠x->H5 x=none->H x=none:=λx nx e=>back3 x nx (by
   cases z:H3 x with
   | none=>rfl
   | some o=>rw[k35 _ _ z (by simpa using Ne.symm nx)] at e;cases e)
  have h0:H bd=none:=hbd;have h1:H l=none:=hl0;have h2:H g=none:=back3 _ lg hg;have h3:H t=none:=back5 _ lt ht;have h4:H kt=none:=hkt0;have h5:H D=none:=back3 _ lD hD;have h6:H D2=none:=back5 _ lD2 hD2;have h7:H q=none:=back5 _ lq hq;have j8:∀j,j<8->j=0\/j=1\/j=2\/j=3\/j=4\/j=5\/j=6\/j=7:=λj hj=>by lia
  refine k ⟨λj=>[bd,l,g,t,kt,D,D2,q].getD j bd,m,m2,F⟩ H6 rfl ⟨⟨[],⟨"rouse",.non,-1,0⟩,⟨"rouse",.non,.non,0,0⟩,(),⟨⟨0,.non,hB6,rfl,(λ_=>rfl),(λq z=>(nomatch z))⟩,⟨dxg,k6 _ _ g5 lg⟩,⟨dxt,et6⟩,k6 _ _ m5 lm,em6,⟨[],k6 _ _ D5 lD,rfl,λi p o hp=>by simp at hp⟩,⟨[],c8a nr6,rfl,λi p o hp=>by simp at hp⟩,eq6,⟨[],k6 _ _ t5 (Ne.symm nkl),rfl,λi p o hp=>by simp at hp⟩,?_,?_,?_⟩,⟨rfl,(λz=>(nomatch (show true=false from z))),(λz=>(nomatch (show true=false from z))),(λz=>(nomatch (show true=false from z)))⟩,⟨rfl,(λz=>(nomatch (show true=false from z))),(λz=>(nomatch (show true=false from z))),(λz=>by rcases z with z|z <;> exact(nomatch (show Stg.rouse=_ from z))),(λz=>(nomatch (show Stg.rouse=Stg.thing from z))),(if_pos (.inl rfl)).symm⟩,d1o n2 n8⟩,⟨dx,l6⟩,?_,(λz=>(hF la z).1 rfl)⟩ ?_ ?_ ?_
  ·intro i j hi hj ij
   rcases j8 i hi with rfl|rfl|rfl|rfl|rfl|rfl|rfl|rfl <;> rcases j8 j hj with rfl|rfl|rfl|rfl|rfl|rfl|rfl|rfl <;> first|exact absurd rfl ij|assumption|(apply Ne.symm;assumption)
  ·intro i hi
   rcases j8 i hi with rfl|rfl|rfl|rfl|rfl|rfl|rfl|rfl <;> exact⟨by assumption,by assumption⟩
  ·intro x hx
   obtain⟨xl,o,ex⟩:=hF x hx;have x6:∀y,H y=none->x≠y:=λy hy z=>by rw[z,hy] at ex;cases ex
   have ex6:H6 x=some o:=k6 _ _ (k35 _ _ (kH3 _ _ ex xl) (by simpa using xl)) (Ne.symm xl)
   refine⟨⟨o,ex6⟩,?_,x6 _ (back3 _ lm hm),x6 _ (back5 _ lm2 hm2),?_,?_,?_⟩
   ·intro i hi
    rcases j8 i hi with rfl|rfl|rfl|rfl|rfl|rfl|rfl|rfl <;> (apply x6;assumption)
   ·intro xs z
    have:=k6 _ _ D5 lD;rw[show H6 D=some (.lst xs) from z] at this;cases this;exact λq=>by cases q
   ·intro xs z
    have:=c8a nr6;rw[show H6 D2=some (.lst xs) from z] at this;cases this;exact λq=>by cases q
   ·intro C dx2 fs z
    obtain⟨⟨dxb6,eb6⟩,_⟩:=hB6;rw[show H6 bd=some (.ins C dx2 fs) from z] at eb6;cases eb6;exact λq=>by cases q
  ·intro i hi
   rcases j8 i hi with rfl|rfl|rfl|rfl|rfl|rfl|rfl|rfl <;> assumption
  ·intro c o e nc
   exact k6 _ _ (k35 _ _ (kH3 _ _ e (by simpa using nc)) nc) (λz=>by simp[z] at nc)
  ·intro i hi
   rcases j8 i hi with rfl|rfl|rfl|rfl|rfl|rfl|rfl|rfl <;> assumption
  ·intro x C dx2 fs z
   obtain⟨⟨dxb6,eb6⟩,_⟩:=hB6;rw[show H6 bd=some (.ins C dx2 fs) from z] at eb6;cases eb6;exact λq=>by cases q
def c6x(b:Bool)(L:Ln):Stg:=if b then L.gs else L.ts
def e4j(b:Bool)(L:Ln):Bool:=decide (c6x b L=.sleep) && decide (L.c (4*L.n+a2a b)=0)
def d1z(b:Bool)(L:Ln):Bool:=a7w b L || e4j b L
theorem c8y{a b:Stg}(h:b0l a=b0l b):a=b:=by cases a <;> cases b <;> first|rfl|exact absurd h ↑3
def b6x(cl:Cl)(b:Bool):Sp:=λvs H Q _=>∃(A:Ad)(L:Ln)(tl:List Tr),vs=[.ref (if b then A.gv else A.tk)]/\LR cl H A L tl/\Q (.str (b0l (c6x b L))) H
def c9a(cl:Cl)(b:Bool):Sp:=λvs H Q _=>∃(A:Ad)(L:Ln)(tl:List Tr),vs=[.ref (if b then A.gv else A.tk)]/\LR cl H A L tl/\∀H',Same H H'->Q (.bl (e4j b L)) H'
def c8z(cl:Cl)(b:Bool):Sp:=λvs H Q _=>∃(A:Ad)(L:Ln)(tl:List Tr),vs=[.ref (if b then A.gv else A.tk)]/\LR cl H A L tl/\∀H',Same H H'->Q (.bl (d1z b L)) H'
abbrev a3m:Stmt:=j4 (top 80) 1
theorem b3n:d9 ["self"] ["self"] (d7 a3m):=↑1
abbrev a0o:Stmt:=j4 (top 80) 6
theorem a1l:d9 ["self","bell"] ["self"] (d7 a0o):=↑1
abbrev a3l:Stmt:=j4 (top 80) 7
theorem b3m:d9 ["self"] ["self"] (d7 a3l):=↑1
theorem LR.same{H H':Hp}{A:Ad}{L:Ln}{tl:List Tr}(h:LR cl H A L tl)(s:Same H H'):LR cl H' A L tl:=by
 obtain⟨ps,Gq,Tq,lt,a,b⟩:=h;exact⟨ps,Gq,Tq,lt,a.same s,b⟩
theorem b9t(D:DefM K cl.Giver "stage" "Hand.stage" a3m ["self"])(T:Txt K mg cl):MethT P w K mg base cl.Giver "stage" 2 ["self"] (b6x cl true):=by
 refine D.fn b3n ↑7 ↑4
 ·walk_at "len"
 ·obtain⟨A,L,tl,e0,⟨ps,Gq,Tq,lt,hL,hg,ht,ok⟩,k⟩:=h
  have e0:vs=[.ref A.gv]:=e0;subst e0;refine⟨_,(d8 (g4 ↑6)),?_⟩;obtain⟨dx,ex⟩:=hL.gv;fail "";have q:Q (.str (b0l L.gs)) H:=k;rw[<- hg.st] at q;exact q
theorem b5o(D:DefM K cl.Giver "sleeping" "Hand.sleeping" a0o ["self"])(T:Txt K mg cl)(G_Board_all_cells:MethT P w K mg base cl.Board "all_cells" 1 ["self"] (a0k cl))(G_bell_cell:FnT P w K mg base "bell_cell" 3 ["size","hand"] (a1y cl)):MethT P w K mg base cl.Giver "sleeping" 4 ["self"] (c9a cl true):=by
 refine D.fn a1l ↑7 ↑4
 ·walk_at "len"
 ·obtain⟨A,L,tl,e0,⟨ps,Gq,Tq,lt,hL,hg,ht,ok⟩,k⟩:=h
  have e0:vs=[.ref A.gv]:=e0;subst e0;refine⟨_,(d5 (j9 (i:=1) a1l.nd rfl (.inl rfl) (u9 (i4 (K:=K)) (a2k ↑6 T.k_Board G_Board_all_cells hr ↑3 f9) (g9 G_bell_cell hr ↑3 rfl f9 (a7 (v5 (K:=K) ↑6) (a7 ↑6 b7))) (λ_ _=>rfl)))
   (d8 (g4 (b8h (a3a a6a ↑6 g7 (m9 _)) (a7t (a3a a6a (pv 1) (t4 T.m_STILL rfl) (m9 _))))))),?_⟩
  obtain⟨dx,ex⟩:=hL.gv;obtain⟨many,last,hB,hLt⟩:=hL.brd;obtain⟨⟨dxb,eb⟩,el,hlen,n2,n8⟩:=id hB;fail "";refine⟨A.bd,A.l,L.n,_,many,last,rfl,hB,λp hp=>?_⟩;have s1:=f8 (o:=.lst ((c1t L.n L.c).map V.int)) hp;fail "";refine⟨L.n,"giver",rfl,a9r (n2:=n2) (n8:=n8) (.inl rfl) ?_⟩;rw[show(4*(L.n:Int)+c6c "giver"+2)=((4*L.n+a2a true:Nat):Int) by rw[hI0];show _=((4*L.n+2:Nat):Int);lia]
  have hm:a2a true<4:=by decide
  refine a3d b8 (c0m ↑5 (by rw[c9g];lia)) ?_
  rw[Int.toNat_natCast,a0d _ ↑5];have q:=k _ s1;unfold e4j at q;have e1:decide (V.str Gq.st=V.str "sleep")=decide (c6x true L=.sleep):=by
   rw[hg.st,decide_eq_decide];constructor
   ·intro z
    exact c8y (V.str.inj z)
   ·intro z
    show V.str (b0l (c6x true L))=_;rw[z]
    rfl
  have e2:decide (V.int (L.c (4*L.n+a2a true))=V.int 0)=decide (L.c (4*L.n+a2a true)=0):=by
   rw[decide_eq_decide];exact⟨V.int.inj,λz=>by rw[z]⟩
  fail "";rw[e1];cases e3:decide (c6x true L=.sleep) with
  | false=>
   rw[e3] at q;exact q
  | true=>
   rw[e3] at q;fail "";rw[e2];exact q
theorem b9s(D:DefM K cl.Giver "still" "Hand.still" a3l ["self"])(T:Txt K mg cl)(GR:MethT P w K mg base cl.Giver "resting" 4 ["self"] (a3s cl))(GS:MethT P w K mg base cl.Giver "sleeping" 4 ["self"] (c9a cl true)):MethT P w K mg base cl.Giver "still" 5 ["self"] (c8z cl true):=by
 refine D.fn b3m ↑7 ↑4
 ·walk_at "len"
 ·obtain⟨A,L,tl,e0,⟨ps,Gq,Tq,lt,hL,hg,ht,ok⟩,k⟩:=h
  have e0:vs=[.ref A.gv]:=e0;subst e0;refine⟨_,(d8 (g4 (d0w (i9 (k:=4) (pv 0) hr ↑3 f9) (a7t (i9 (k:=4) (pv 0) hr ↑3 f9))))),?_⟩;obtain⟨dx,ex⟩:=hL.gv;fail "f";refine⟨A.gv,cl.Giver,dx,_,_,_,rfl,ex,rfl,T.k_Giver,GR,?_⟩;fail "";refine⟨A,_,_,_,_,_,_,ps,Gq,Tq,tl,_,rfl,hL,(c1u ok hg).1,?_⟩;rw[(c1u ok hg).2];fail "";refine c6f (λy=>?_) (λy=>?_)
  ·fail ""
   have q:=k H (Same.refl H);unfold d1z at q;rw[y,Bool.true_or] at q;exact q
  ·fail ""
   refine c8h ?_;fail "";refine⟨A.gv,cl.Giver,dx,_,_,_,rfl,ex,rfl,T.k_Giver,GS,?_⟩;fail "";refine⟨A,L,tl,rfl,⟨ps,Gq,Tq,lt,hL,hg,ht,ok⟩,λH' s'=>?_⟩;have q:=k H' s';unfold d1z at q;rw[y,Bool.false_or] at q;exact q
theorem b9p(D:DefM K cl.Taker "stage" "Hand.stage" a3m ["self"])(T:Txt K mg cl):MethT P w K mg base cl.Taker "stage" 2 ["self"] (b6x cl false):=by
 refine D.fn b3n ↑7 ↑4
 ·walk_at "len"
 ·obtain⟨A,L,tl,e0,⟨ps,Gq,Tq,lt,hL,hg,ht,ok⟩,k⟩:=h
  have e0:vs=[.ref A.tk]:=e0;subst e0;refine⟨_,(d8 (g4 ↑6)),?_⟩;obtain⟨dx,ex⟩:=hL.tk;fail "";have q:Q (.str (b0l L.ts)) H:=k;rw[<- ht.st] at q;exact q
theorem b5l(D:DefM K cl.Taker "sleeping" "Hand.sleeping" a0o ["self"])(T:Txt K mg cl)(G_Board_all_cells:MethT P w K mg base cl.Board "all_cells" 1 ["self"] (a0k cl))(G_bell_cell:FnT P w K mg base "bell_cell" 3 ["size","hand"] (a1y cl)):MethT P w K mg base cl.Taker "sleeping" 4 ["self"] (c9a cl false):=by
 refine D.fn a1l ↑7 ↑4
 ·walk_at "len"
 ·obtain⟨A,L,tl,e0,⟨ps,Gq,Tq,lt,hL,hg,ht,ok⟩,k⟩:=h
  have e0:vs=[.ref A.tk]:=e0;subst e0;refine⟨_,(d5 (j9 (i:=1) a1l.nd rfl (.inl rfl) (u9 (i4 (K:=K)) (a2k ↑6 T.k_Board G_Board_all_cells hr ↑3 f9) (g9 G_bell_cell hr ↑3 rfl f9 (a7 (v5 (K:=K) ↑6) (a7 ↑6 b7))) (λ_ _=>rfl)))
   (d8 (g4 (b8h (a3a a6a ↑6 g7 (m9 _)) (a7t (a3a a6a (pv 1) (t4 T.m_STILL rfl) (m9 _))))))),?_⟩
  obtain⟨dx,ex⟩:=hL.tk;obtain⟨many,last,hB,hLt⟩:=hL.brd;obtain⟨⟨dxb,eb⟩,el,hlen,n2,n8⟩:=id hB;fail "";refine⟨A.bd,A.l,L.n,_,many,last,rfl,hB,λp hp=>?_⟩;have s1:=f8 (o:=.lst ((c1t L.n L.c).map V.int)) hp;fail "";refine⟨L.n,"taker",rfl,a9r (n2:=n2) (n8:=n8) (.inr rfl) ?_⟩;rw[show(4*(L.n:Int)+c6c "taker"+2)=((4*L.n+a2a false:Nat):Int) by rw[hI1];show _=((4*L.n+3:Nat):Int);lia]
  have hm:a2a false<4:=by decide
  refine a3d b8 (c0m ↑5 (by rw[c9g];lia)) ?_
  rw[Int.toNat_natCast,a0d _ ↑5];have q:=k _ s1;unfold e4j at q;have e1:decide (V.str Tq.st=V.str "sleep")=decide (c6x false L=.sleep):=by
   rw[ht.st,decide_eq_decide];constructor
   ·intro z
    exact c8y (V.str.inj z)
   ·intro z
    show V.str (b0l (c6x false L))=_;rw[z]
    rfl
  have e2:decide (V.int (L.c (4*L.n+a2a false))=V.int 0)=decide (L.c (4*L.n+a2a false)=0):=by
   rw[decide_eq_decide];exact⟨V.int.inj,λz=>by rw[z]⟩
  fail "";rw[e1];cases e3:decide (c6x false L=.sleep) with
  | false=>
   rw[e3] at q;exact q
  | true=>
   rw[e3] at q;fail "";rw[e2];exact q
theorem b9o(D:DefM K cl.Taker "still" "Hand.still" a3l ["self"])(T:Txt K mg cl)(GR:MethT P w K mg base cl.Taker "resting" 4 ["self"] (a3r cl))(GS:MethT P w K mg base cl.Taker "sleeping" 4 ["self"] (c9a cl false)):MethT P w K mg base cl.Taker "still" 5 ["self"] (c8z cl false):=by
 refine D.fn b3m ↑7 ↑4
 ·walk_at "len"
 ·obtain⟨A,L,tl,e0,⟨ps,Gq,Tq,lt,hL,hg,ht,ok⟩,k⟩:=h
  have e0:vs=[.ref A.tk]:=e0;subst e0;refine⟨_,(d8 (g4 (d0w (i9 (k:=4) (pv 0) hr ↑3 f9) (a7t (i9 (k:=4) (pv 0) hr ↑3 f9))))),?_⟩;obtain⟨dx,ex⟩:=hL.tk;fail "f";refine⟨A.tk,cl.Taker,dx,_,_,_,rfl,ex,rfl,T.k_Taker,GR,?_⟩;fail "";refine⟨A,_,_,_,_,_,_,ps,Gq,Tq,tl,_,0,rfl,hL,?_⟩;fail "";have y:a7w false L=false:=rfl;rcases (show True from trivial) with _
  ·fail ""
   refine c8h ?_;fail "";refine⟨A.tk,cl.Taker,dx,_,_,_,rfl,ex,rfl,T.k_Taker,GS,?_⟩;fail "";refine⟨A,L,tl,rfl,⟨ps,Gq,Tq,lt,hL,hg,ht,ok⟩,λH' s'=>?_⟩;have q:=k H' s';unfold d1z at q;rw[y,Bool.false_or] at q;exact q
def b3b(cl:Cl):Sp:=λvs H Q _=>ExN λla A L tl=>∃(b:Bool)(h:Str),vs=[.ref la,.str h]/\HN b h/\LN cl H la A L tl/\Q (.str (b0l (c6x b L))) H
abbrev a8y:Stmt:=j4 (top 108) 7
theorem c1h:d9 ["self","hand"] ["self","hand"] (d7 a8y):=↑1
theorem c2o(D:DefM K cl.Lane "stage" "Lane.stage" a8y ["self","hand"])(T:Txt K mg cl)(G_Lane_hand_named:MethT P w K mg base cl.Lane "hand_named" 2 ["self","hand"] (a2b cl))(GS:MethT P w K mg base cl.Giver "stage" 2 ["self"] (b6x cl true))(TS:MethT P w K mg base cl.Taker "stage" 2 ["self"] (b6x cl false)):MethT P w K mg base cl.Lane "stage" 3 ["self","hand"] (b3b cl):=by
 refine D.fn c1h ↑7 ↑4
 ·walk_at "len"
 ·obtain⟨la,A,L,tl,b,h,rfl,hh,hN,k⟩:=h
  refine⟨_,(d8 (g4 (i9 (k:=2) (a1e (pv 0) T.k_Lane G_Lane_hand_named hr ↑3 f9 (a7 (pv 1) b7)) hr ↑3 f9))),?_⟩;obtain⟨dx,ex⟩:=hN.ob;obtain⟨_,_,_,_,hL,_⟩:=id hN.lr;obtain⟨dxg,eg⟩:=hL.gv;obtain⟨dxt,et⟩:=hL.tk;fail "f";refine⟨la,A,L,tl,b,h,rfl,hh,hN,λx hx=>?_⟩;rcases hx with ⟨rfl,rfl⟩|⟨rfl,rfl⟩
  ·refine⟨A.gv,cl.Giver,dxg,_,_,_,rfl,eg,rfl,T.k_Giver,GS,?_⟩
   fail "";exact⟨A,L,tl,rfl,hN.lr,k⟩
  ·refine⟨A.tk,cl.Taker,dxt,_,_,_,rfl,et,rfl,T.k_Taker,TS,?_⟩
   fail "";exact⟨A,L,tl,rfl,hN.lr,k⟩
def b3c(cl:Cl):Sp:=λvs H Q _=>ExN λla A L tl=>vs=[.ref la]/\LN cl H la A L tl/\∀H',Same H H'->Q (.bl (d1z true L && d1z false L)) H'
abbrev a8z:Stmt:=j4 (top 108) 12
theorem c1i:d9 ["self"] ["self"] (d7 a8z):=↑1
theorem c2p(D:DefM K cl.Lane "quiet" "Lane.quiet" a8z ["self"])(T:Txt K mg cl)(GS:MethT P w K mg base cl.Giver "still" 5 ["self"] (c8z cl true))(TS:MethT P w K mg base cl.Taker "still" 5 ["self"] (c8z cl false)):MethT P w K mg base cl.Lane "quiet" 7 ["self"] (b3c cl):=by
 refine D.fn c1i ↑7 ↑4
 ·walk_at "len"
 ·obtain⟨la,A,L,tl,rfl,hN,k⟩:=h
  refine⟨_,(d8 (g4 (b8h (i9 (k:=5) ↑6 hr ↑3 f9) (a7t (i9 (k:=5) ↑6 hr ↑3 f9))))),?_⟩;obtain⟨dx,ex⟩:=hN.ob;obtain⟨_,_,_,_,hL,_⟩:=id hN.lr;obtain⟨dxg,eg⟩:=hL.gv;obtain⟨dxt,et⟩:=hL.tk;fail "f";refine⟨A.gv,cl.Giver,dxg,_,_,_,rfl,eg,rfl,T.k_Giver,GS,?_⟩;fail "";refine⟨A,L,tl,rfl,hN.lr,λH1 s1=>?_⟩;have ex1:=s1 _ _ ex;have et1:=s1 _ _ et;fail "";refine c6f (λy=>?_) (λy=>?_)
  ·fail ""
   refine c8h ?_;fail "";refine⟨A.tk,cl.Taker,dxt,_,_,_,rfl,et1,rfl,T.k_Taker,TS,?_⟩;fail "";refine⟨A,L,tl,rfl,hN.lr.same s1,λH2 s2=>?_⟩;have q:=k H2 (s1.trans s2);rw[y,Bool.true_and] at q;exact q
  ·fail ""
   have q:=k H1 s1;rw[y,Bool.false_and] at q;exact q
def a7d(cl:Cl):Sp:=λvs H Q _=>ExN λla A L tl=>vs=[.ref la]/\LN cl H la A L tl/\∀p,H p=none->Q (.ref p) (upd H p (.lst ((c1t L.n L.c).map V.int)))
abbrev a9a:Stmt:=j4 (top 108) 14
theorem c1j:d9 ["self"] ["self"] (d7 a9a):=↑1
theorem c2q(D:DefM K cl.Lane "cells" "Lane.cells" a9a ["self"])(T:Txt K mg cl)(G_Board_all_cells:MethT P w K mg base cl.Board "all_cells" 1 ["self"] (a0k cl)):MethT P w K mg base cl.Lane "cells" 2 ["self"] (a7d cl):=by
 refine D.fn c1j ↑7 ↑4
 ·walk_at "len"
 ·obtain⟨la,A,L,tl,rfl,hN,k⟩:=h
  refine⟨_,(d8 (g4 (a2k ↑6 T.k_Board G_Board_all_cells hr ↑3 f9))),?_⟩;obtain⟨dx,ex⟩:=hN.ob;obtain⟨_,_,_,_,hL,_⟩:=id hN.lr;obtain⟨many,last,hB,hLt⟩:=hL.brd;obtain⟨⟨dxb,eb⟩,_⟩:=id hB;fail "";exact⟨A.bd,A.l,L.n,_,many,last,rfl,hB,k⟩
end
def nc:HO->Bool
 | .own _=>false
 | .tbl _=>false
 | .frz _ _=>false
 | _=>true
def ow(H:Hp):Hp:=λx=>match H x with
 | some o=>if nc o=true then some o else none
 | none=>none
section
variable{cl:Cl}{H H1':Hp}{F F2:Addr->Prop}{la la2:Addr}{A A' A2:Ad}{L L' L2':Ln}{tl tl' tl2:List Tr}
theorem b5i{x:Addr}{o:HO}(e:H x=some o)(n:nc o=true):ow H x=some o:=by
 unfold ow;rw[e];exact if_pos n
theorem c1w{x:Addr}{o:HO}(e:ow H x=some o):H x=some o/\nc o=true:=by
 unfold ow at e;split at e
 ·rename_i u q
  split at e
  ·rename_i n;cases e;exact⟨q,n⟩
  ·cases e
 ·cases e
theorem b4j{o:HO}(n:nc o=true):∀a,o≠.own a:=λa z=>by rw[z] at n;cases n
theorem LN.ow(h:LN cl H la A L tl)(nf:∀x,¬ A.fo x):LN cl (ow H) la A L tl:=by
 obtain⟨⟨ps,Gq,Tq,lt,a,b⟩,⟨dx,e⟩,o,f⟩:=h;refine⟨⟨ps,Gq,Tq,lt,?_,b⟩,⟨dx,b5i e rfl⟩,o,f⟩;obtain⟨⟨m,l,⟨⟨d0,e0⟩,e1,z⟩,y⟩,⟨d2,e2⟩,⟨d3,e3⟩,e4,e5,e6,e7,e8,e9,nd,om,fo⟩:=a;have ro:∀{a os},RwsX A H a os->RwsX A (S.ow H) a os:=λh=>by
  obtain⟨ps,e,l,r⟩:=h;exact⟨ps,b5i e rfl,l,λi p o hp ho=>⟨(r i p o hp ho).1,b5i (r i p o hp ho).2 rfl⟩⟩
 refine⟨⟨m,l,⟨⟨d0,b5i e0 rfl⟩,b5i e1 rfl,z⟩,?_⟩,⟨d2,b5i e2 rfl⟩,⟨d3,b5i e3 rfl⟩,b5i e4 rfl,b5i e5 rfl,ro e6,ro e7,b5i e8 rfl,?_,nd,om,λx hx=>absurd hx (nf x)⟩
 ·obtain⟨y1,y2,y3⟩:=y
  refine⟨y1,y2,λq hq=>?_⟩;obtain⟨t,u1,u2,u3⟩:=y3 q hq;exact⟨t,u1,u2,b5i u3 rfl⟩
 ·obtain⟨ps,e,l,r⟩:=e9
  refine⟨ps,b5i e rfl,l,λi p t hp ht=>?_⟩;obtain⟨r1,r2,r3⟩:=r i p t hp ht;exact⟨r1,r2,b5i r3 rfl⟩
def c0k(H:Hp)(x:Addr):Prop:=∃o,H x=some o/\b6t (some o)=false/\∀a,o≠.own a
structure LP(cl:Cl)(H:Hp)(F:Addr->Prop)(la:Addr)(A:Ad)(L:Ln)(tl:List Tr):Prop where
 ln:LN cl (rs F H) la A L tl
 dom:∀x,F x->c0k H x
 nf:∀x,¬ A.fo x
theorem a1g{x:Addr}{o:HO}(ot:Out H1' (rs F H) H)(e:H x=some o)(n:∀a,o≠.own a)(nx:b6t (some o)=false)(hF:¬ F x):jn H1' (rs F H) H x=some o/\¬ c0k H1' x:=by
 have h1:rs F H x=none:=a7r e n (by rw[e,nx];exact λz=>z.elim hF (λq=>by cases q))
 have h2:=ot.fr x o e h1;refine⟨(c3d h1 h2).trans e,λz=>?_⟩;obtain⟨_,q,_⟩:=z;rw[h2] at q;cases q
theorem LP.behind(ot:Out H1' (rs F H) H)(n:LN cl H1' la A' L' tl')(nf:∀x,¬ A'.fo x):LP cl (jn H1' (rs F H) H) (c0k H1') la A' L' tl':=by
 refine⟨(n.ow nf).same λx o e=>?_,λx hx=>?_,nf⟩
 ·have e':H1' x=some o/\∀a,o≠.own a:=⟨(c1w e).1,b4j (c1w e).2⟩
  have ej:=a3c (H1:=rs F H) (H:=H) e'.1;refine a4f ej e'.2 ?_;cases q:b6t (some o) with
  | true=>right;rw[ej];exact q
  | false=>left;exact⟨o,e'.1,q,e'.2⟩
 ·obtain⟨o,e,z⟩:=hx
  exact⟨o,a3c e,z⟩
theorem LP.rest(h:LP cl H F2 la2 A2 L2' tl2)(dj:∀x,F x->F2 x->False)(ot:Out H1' (rs F H) H):LP cl (jn H1' (rs F H) H) F2 la2 A2 L2' tl2/\∀x,c0k H1' x->F2 x->False:=by
 have st:∀x,F2 x->∃o,H x=some o/\b6t (some o)=false/\(∀a,o≠.own a)/\jn H1' (rs F H) H x=some o/\¬ c0k H1' x:=λx hx=>by
  obtain⟨o,e,z1,z2⟩:=h.dom x hx;exact⟨o,e,z1,z2,a1g ot e z2 z1 λq=>dj x q hx⟩
 refine⟨⟨(h.ln.ow h.nf).same λx o e=>?_,λx hx=>?_,h.nf⟩,λx hx h2=>?_⟩
 ·have e':rs F2 H x=some o/\∀a,o≠.own a:=⟨(c1w e).1,b4j (c1w e).2⟩
  have en:=(c1w e).2;have eH:=b0p e'.1;by_cases hx:F2 x
  ·obtain⟨o',q1,q2,q3,q4,_⟩:=st x hx
   rw[eH] at q1;cases q1;exact a4f q4 q3 (.inl hx)
  ·cases q:b6t (some o) with
   | false=>
    have:=a7r (F:=F2) eH e'.2 (by rw[eH,q];exact λz=>z.elim hx (λq=>by cases q))
    rw[this] at e';cases e'.1
   | true=>
    have ej:jn H1' (rs F H) H x=some o:=by
     cases o with
     | tup xs=>exact a3c (ot.tup x xs eH)
     | frz a b=>cases en
     | tbl ps=>cases en
     | _=>cases q
    exact a4f ej e'.2 (.inr (by rw[ej];exact q))
 ·obtain⟨o,q1,q2,q3,q4,_⟩:=st x hx
  exact⟨o,q4,q2,q3⟩
 ·obtain⟨_,_,_,_,_,q⟩:=st x h2
  exact q hx
end
section
variable{P:Program}{w:World}{K:Frag}{mg:Str->Option Value}{base:Heap}{cl:Cl}
theorem nwS{H H':Hp}{p:Addr}{o:HO}(h:upd H p o=H')(n:H p=none):Same H H'/\H' p=some o:=by
 rw[<- h];exact⟨f8 n,b8⟩
def HHn(o b:Bool)(h:Str):Prop:=(o=true/\b=true/\h="asker")\/(o=true/\b=false/\h="doer")\/(o=false/\b=true/\h="teller")\/(o=false/\b=false/\h="hearer")
def nmB(b:Bool):Str:=if b then "giver" else "taker"
abbrev d4c(cl:Cl)(dx la lb su fi:Addr):HO:=.ins cl.Hall dx [("out",.ref la),("back",.ref lb),("sums",.ref su),("finished",.ref fi)]
structure HD(P:Program)(w:World)(K:Frag)(cl:Cl):Prop where
 out:∃t u,KDict P w K cl.d_OUT_HANDS [("asker",.str "giver" t),("doer",.str "taker" u)]
 back:∃t u,KDict P w K cl.d_BACK_HANDS [("teller",.str "giver" t),("hearer",.str "taker" u)]
theorem va2{a b x:Str}{u v:Value}:valueAt [(a,u),(b,v)] x=if a=x then some u else if b=x then some v else none:=by
 unfold valueAt;by_cases h1:a=x
 ·simp[h1]
 ·by_cases h2:b=x
  ·simp[h1,h2]
  ·simp[h1,h2]
def c9c(cl:Cl):Sp:=λvs H Q E=>∃(hl dx la lb su fi:Addr)(h:Str),vs=[.ref hl,.str h]/\H hl=some (d4c cl dx la lb su fi) /\
 (∀o b,HHn o b h->∀p,H p=none->Q (.ref p) (upd H p (.tup [.ref (if o then la else lb),.str (nmB b)])))/\((∀o b,¬ HHn o b h)->E (.ref cl.NoHand) none H)
abbrev a1b:Stmt:=j4 (top 115) 1
theorem a8i:d9 ["self","hand"] ["self","hand"] (d7 a1b):=↑1
theorem a9m(D:DefM K cl.Hall "lane_and_name" "Hall.lane_and_name" a1b ["self","hand"])(T:Txt K mg cl)(kd:HD P w K cl):MethT P w K mg base cl.Hall "lane_and_name" 1 ["self","hand"] (c9c cl):=by
 refine D.fn a8i ↑7 ↑4
 ·walk_at "len"
 ·obtain⟨hl,dx,la,lb,su,fi,h,rfl,ex,k,kb⟩:=h
  obtain⟨⟨t,u,ko⟩,⟨t',u',kc⟩⟩:=kd;refine⟨_,(d5 (a0q (k7 (c1z (K:=K)) (pv 1) (a1w T.r_OUT_HANDS rfl) (by with_unfolding_all rfl))
     (d8 (g4 (a4x (a7 ↑6 (a7 (u9 (c8g (K:=K)) (a1w T.r_OUT_HANDS rfl) (pv 1) (λ_ _=>rfl)) b7)))))
     r0)
   (d5 (a0q (k7 (c1z (K:=K)) (pv 1) (a1w T.r_BACK_HANDS rfl) (by with_unfolding_all rfl))
     (d8 (g4 (a4x (a7 ↑6 (a7 (u9 (c8g (K:=K)) (a1w T.r_BACK_HANDS rfl) (pv 1) (λ_ _=>rfl)) b7)))))
     r0)
   (d8 (a0p T.c_NoHand rfl rfl a9i (a7 g7 b7))))),?_⟩
  fail "";by_cases h1:h="asker"
  ·subst h1
   refine⟨_,_,_,rfl,rfl,ko,_,rfl,?_⟩;rw[if_pos (by rfl)]
   fail "";refine⟨_,_,_,_,.str "giver",rfl,rfl,ko,rfl,⟨_,rfl⟩,?_⟩;fail "";exact⟨(show 2<=sizeLine by decide),λp hp=>k true true (.inl ⟨rfl,rfl,rfl⟩) p hp⟩
  by_cases h2:h="doer"
  ·subst h2
   refine⟨_,_,_,rfl,rfl,ko,_,rfl,?_⟩;rw[if_pos (by rfl)]
   fail "";refine⟨_,_,_,_,.str "taker",rfl,rfl,ko,rfl,⟨_,rfl⟩,?_⟩;fail "";exact⟨(show 2<=sizeLine by decide),λp hp=>k true false (.inr (.inl ⟨rfl,rfl,rfl⟩)) p hp⟩
  refine⟨_,_,_,rfl,rfl,ko,_,rfl,?_⟩;rw[if_neg (by rw[va2,if_neg (Ne.symm h1),if_neg (Ne.symm h2)];decide)]
  fail "";by_cases h3:h="teller"
  ·subst h3
   refine⟨_,_,_,rfl,rfl,kc,_,rfl,?_⟩;rw[if_pos (by rfl)]
   fail "";refine⟨_,_,_,_,.str "giver",rfl,rfl,kc,rfl,⟨_,rfl⟩,?_⟩;fail "";exact⟨(show 2<=sizeLine by decide),λp hp=>k false true (.inr (.inr (.inl ⟨rfl,rfl,rfl⟩))) p hp⟩
  by_cases h4:h="hearer"
  ·subst h4
   refine⟨_,_,_,rfl,rfl,kc,_,rfl,?_⟩;rw[if_pos (by rfl)]
   fail "";refine⟨_,_,_,_,.str "taker",rfl,rfl,kc,rfl,⟨_,rfl⟩,?_⟩;fail "";exact⟨(show 2<=sizeLine by decide),λp hp=>k false false (.inr (.inr (.inr ⟨rfl,rfl,rfl⟩))) p hp⟩
  refine⟨_,_,_,rfl,rfl,kc,_,rfl,?_⟩;rw[if_neg (by rw[va2,if_neg (Ne.symm h3),if_neg (Ne.symm h4)];decide)]
  fail "";exact⟨l8,kb λo b z=>by
   rcases z with ⟨_,_,z⟩|⟨_,_,z⟩|⟨_,_,z⟩|⟨_,_,z⟩
   ·exact h1 z
   ·exact h2 z
   ·exact h3 z
   ·exact h4 z⟩
structure HSt where
 L:Ln
 tl:List Tr
 M:Ln
 tm:List Tr
 sm:List Int
 fin:List Int
structure HRel(cl:Cl)(H:Hp)(hl la lb su fi:Addr)(F G:Addr->Prop)(A B:Ad)(S:HSt):Prop where
 ob:∃dx,H hl=some (d4c cl dx la lb su fi)
 sum:H su=some (.lst (S.sm.map V.int))
 four:S.sm.length=4
 done:H fi=some (.dK (S.fin.map λn=>(.inl n,V.bl true)))
 lo:LP cl H F la A S.L S.tl
 lk:LP cl H G lb B S.M S.tm
 dj:∀x,F x->G x->False
 nF:¬ F hl/\¬ F su/\¬ F fi
 nG:¬ G hl/\¬ G su/\¬ G fi
def HR(cl:Cl)(H:Hp)(hl:Addr)(S:HSt):Prop:=∃la lb su fi F G A B,HRel cl H hl la lb su fi F G A B S
theorem HRel.out{H H1':Hp}{hl la lb su fi:Addr}{F G:Addr->Prop}{A B A':Ad}{S:HSt}{L':Ln}{tl':List Tr}(h:HRel cl H hl la lb su fi F G A B S)(ot:Out H1' (rs F H) H)(n:LN cl H1' la A' L' tl')(nf:∀x,¬ A'.fo x):
  HRel cl (jn H1' (rs F H) H) hl la lb su fi (c0k H1') G A' B { S with L:=L',tl:=tl' }:=by
 obtain⟨⟨dx,e⟩,e2,e3,e4,lo,lk,dj,⟨n1,n2,n3⟩,nG⟩:=h;obtain⟨r1,m1⟩:=a1g ot e (λ_ z=>nomatch z) rfl n1;obtain⟨r2,m2⟩:=a1g ot e2 (λ_ z=>nomatch z) rfl n2;obtain⟨r3,m3⟩:=a1g ot e4 (λ_ z=>nomatch z) rfl n3;obtain⟨l2,d2⟩:=lk.rest dj ot;exact⟨⟨dx,r1⟩,r2,e3,r3,LP.behind ot n nf,l2,d2,⟨m1,m2,m3⟩,nG⟩
theorem HRel.back{H H1':Hp}{hl la lb su fi:Addr}{F G:Addr->Prop}{A B B':Ad}{S:HSt}{M':Ln}{tm':List Tr}(h:HRel cl H hl la lb su fi F G A B S)(ot:Out H1' (rs G H) H)(n:LN cl H1' lb B' M' tm')(nf:∀x,¬ B'.fo x):
  HRel cl (jn H1' (rs G H) H) hl la lb su fi F (c0k H1') A B' { S with M:=M',tm:=tm' }:=by
 obtain⟨⟨dx,e⟩,e2,e3,e4,lo,lk,dj,nF,⟨n1,n2,n3⟩⟩:=h;obtain⟨r1,m1⟩:=a1g ot e (λ_ z=>nomatch z) rfl n1;obtain⟨r2,m2⟩:=a1g ot e2 (λ_ z=>nomatch z) rfl n2;obtain⟨r3,m3⟩:=a1g ot e4 (λ_ z=>nomatch z) rfl n3;obtain⟨l2,d2⟩:=lo.rest (λx a b=>dj x b a) ot;exact⟨⟨dx,r1⟩,r2,e3,r3,l2,LP.behind ot n nf,λx a b=>d2 x b a,nF,⟨m1,m2,m3⟩⟩
theorem LP.more{H:Hp}{F:Addr->Prop}{la p:Addr}{A:Ad}{L:Ln}{tl:List Tr}{o:HO}(h:LP cl H F la A L tl)(hp:H p=none):LP cl (upd H p o) F la A L tl:=by
 have np:∀x u,H x=some u->upd H p o x=some u:=λx u e=>by rw[d6 (g6 e hp)];exact e
 refine⟨(h.ln.ow h.nf).same λx u e=>?_,λx hx=>?_,h.nf⟩
 ·have e1:=c1w e
  have e2:=b0p e1.1;refine a4f (np x u e2) (b4j e1.2) ?_;by_cases hx:F x
  ·exact .inl hx
  ·right
   cases q:b6t (some u) with
   | true=>rw[np x u e2];exact q
   | false=>
    have:=a7r (F:=F) e2 (b4j e1.2) (by rw[e2,q];exact λz=>z.elim hx (λq=>by cases q))
    rw[this] at e1;cases e1.1
 ·obtain⟨u,e,z⟩:=h.dom x hx
  exact⟨u,np x u e,z⟩
theorem HRel.more{H:Hp}{hl la lb su fi p:Addr}{F G:Addr->Prop}{A B:Ad}{S:HSt}{o:HO}(h:HRel cl H hl la lb su fi F G A B S)(hp:H p=none):HRel cl (upd H p o) hl la lb su fi F G A B S:=by
 have np:∀x u,H x=some u->upd H p o x=some u:=λx u e=>by rw[d6 (g6 e hp)];exact e
 obtain⟨⟨dx,e⟩,e2,e3,e4,lo,lk,dj,nF,nG⟩:=h;exact⟨⟨dx,np _ _ e⟩,np _ _ e2,e3,np _ _ e4,lo.more hp,lk.more hp,dj,nF,nG⟩
def HSt.lane(S:HSt)(o:Bool):Ln:=if o then S.L else S.M
def HSt.trl(S:HSt)(o:Bool):List Tr:=if o then S.tl else S.tm
def HSt.put(S:HSt)(o:Bool)(L:Ln)(tl:List Tr):HSt:=if o then { S with L:=L,tl:=tl } else { S with M:=L,tm:=tl }
theorem HRel.at{H:Hp}{hl la lb su fi:Addr}{F G:Addr->Prop}{A B:Ad}{S:HSt}(h:HRel cl H hl la lb su fi F G A B S)(o:Bool):
  ∃F0 A0,LN cl (rs F0 H) (if o then la else lb) A0 (S.lane o) (S.trl o)/\(∀x,¬ A0.fo x)/\∀H1' A' L' tl',Out H1' (rs F0 H) H->LN cl H1' (if o then la else lb) A' L' tl'->A'.fo=A0.fo->HR cl (jn H1' (rs F0 H) H) hl (S.put o L' tl'):=by
 cases o with
 | true=>exact⟨F,A,h.lo.ln,h.lo.nf,λH1' A' L' tl' ot n e=>⟨la,lb,su,fi,_,G,A',B,h.out ot n (e ▸ h.lo.nf)⟩⟩
 | false=>exact⟨G,B,h.lk.ln,h.lk.nf,λH1' A' L' tl' ot n e=>⟨la,lb,su,fi,F,_,A,A',h.back ot n (e ▸ h.lk.nf)⟩⟩
theorem HHn.nm{o b:Bool}{h:Str}(z:HHn o b h):HN b (nmB b):=by
 cases b
 ·exact .inr ⟨rfl,rfl⟩
 ·exact .inl ⟨rfl,rfl⟩
theorem HHn.uq{o b o' b':Bool}{h:Str}(z:HHn o b h)(z':HHn o' b' h):o'=o/\b'=b:=by
 rcases z with ⟨rfl,rfl,rfl⟩|⟨rfl,rfl,rfl⟩|⟨rfl,rfl,rfl⟩|⟨rfl,rfl,rfl⟩ <;> rcases z' with ⟨rfl,rfl,e⟩|⟨rfl,rfl,e⟩|⟨rfl,rfl,e⟩|⟨rfl,rfl,e⟩ <;> first|exact⟨rfl,rfl⟩|exact absurd e ↑3
def b6d(cl:Cl):Sp:=λvs H Q E=>∃(hl:Addr)(S:HSt)(h:Str),vs=[.ref hl,.str h]/\HR cl H hl S/\(∀o,(S.lane o).os.length<=400/\(S.trl o).length<=4000000) /\
 (∀o b,HHn o b h->∀H',HR cl H' hl (S.put o (b0m b (S.lane o)) (trB b (S.lane o) (S.trl o)))->Q (.bl (!a7w b (S.lane o))) H')/\((∀o b,¬ HHn o b h)->E (.ref cl.NoHand) none H)
abbrev b2f:Stmt:=j4 (top 115) 3
theorem a8h:d9 ["self","hand","lane","name"] ["self","hand"] (d7 b2f):=↑1
theorem c5t(D:DefM K cl.Hall "step" "Hall.step" b2f ["self","hand"])(T:Txt K mg cl)(G_Hall_lane_and_name:MethT P w K mg base cl.Hall "lane_and_name" 1 ["self","hand"] (c9c cl))(GS:MethT P w K mg base cl.Lane "step" 10 ["self","hand"] (frS (b6a cl))):MethT P w K mg base cl.Hall "step" 11 ["self","hand"] (b6d cl):=by
 refine D.fn a8h ↑7 ↑4
 ·walk_at "len"
 ·obtain⟨hl,S,h,rfl,⟨la,lb,su,fi,F,G,A,B,hR⟩,h45,k,kb⟩:=h
  obtain⟨dx,ex⟩:=hR.ob;refine⟨_,(d5 (b6i (a1e (pv 0) T.k_Hall G_Hall_lane_and_name hr ↑3 f9 (a7 (pv 1) b7)) (b8f (K:=K) rfl (a3e (v6 (i:=2) a8h.nd rfl (.inl rfl)) (a3e (v6 (i:=3) a8h.nd rfl (.inl rfl)) b8e))))
   (d8 (g4 (c4u (k:=10) (pv 2) hr ↑3 f9 (a7 (pv 3) b7))))),?_⟩
  fail "";refine⟨hl,dx,la,lb,su,fi,h,rfl,ex,λo' b' hz p hp=>?_,kb⟩;obtain⟨h4,h5⟩:=h45 o';have hR2:=hR.more (o:=.tup [.ref (if o' then la else lb),.str (nmB b')]) hp;obtain⟨F0,A0,ln,nf,nx⟩:=hR2.at o';have e2:upd H p (.tup [.ref (if o' then la else lb),.str (nmB b')]) p=some (.tup [.ref (if o' then la else lb),.str (nmB b')]):=b8;obtain⟨dxl,el⟩:=ln.ob;have el:=b0p el;generalize upd H p (.tup [.ref (if o' then la else lb),.str (nmB b')])=H2 at *;refine b8z (by assumption) rfl ?_
  fail "f";refine⟨if o' then la else lb,cl.Lane,dxl,_,_,_,rfl,el,rfl,T.k_Lane,GS,?_⟩;fail "";exact⟨rs F0 H2,a5k F0 H2,_,A0,S.lane o',S.trl o',b',nmB b',rfl,hz.nm,ln,h4,h5,λH' A' z1 z2 z3 ot=>k o' b' hz _ (nx H' A' _ _ ot z1 z3.2)⟩
theorem LP.sm{H H':Hp}{F:Addr->Prop}{la:Addr}{A:Ad}{L:Ln}{tl:List Tr}(h:LP cl H F la A L tl)(s:Same H H'):LP cl H' F la A L tl:=by
 refine⟨(h.ln.ow h.nf).same λx u e=>?_,λx hx=>?_,h.nf⟩
 ·have e1:=c1w e
  have e2:=b0p e1.1;refine a4f (s x u e2) (b4j e1.2) ?_;by_cases hx:F x
  ·exact .inl hx
  ·right
   cases q:b6t (some u) with
   | true=>rw[s x u e2];exact q
   | false=>
    have:=a7r (F:=F) e2 (b4j e1.2) (by rw[e2,q];exact λz=>z.elim hx (λq=>by cases q))
    rw[this] at e1;cases e1.1
 ·obtain⟨u,e,z⟩:=h.dom x hx
  exact⟨u,s x u e,z⟩
theorem HRel.sm{H H':Hp}{hl la lb su fi:Addr}{F G:Addr->Prop}{A B:Ad}{S:HSt}(h:HRel cl H hl la lb su fi F G A B S)(s:Same H H'):HRel cl H' hl la lb su fi F G A B S:=by
 obtain⟨⟨dx,e⟩,e2,e3,e4,lo,lk,dj,nF,nG⟩:=h;exact⟨⟨dx,s _ _ e⟩,s _ _ e2,e3,s _ _ e4,lo.sm s,lk.sm s,dj,nF,nG⟩
theorem HR.sm{H H':Hp}{hl:Addr}{S:HSt}(h:HR cl H hl S)(s:Same H H'):HR cl H' hl S:=by
 obtain⟨la,lb,su,fi,F,G,A,B,h⟩:=h;exact⟨la,lb,su,fi,F,G,A,B,h.sm s⟩
theorem LP.all{H:Hp}{F:Addr->Prop}{la:Addr}{A:Ad}{L:Ln}{tl:List Tr}(h:LP cl H F la A L tl):LN cl H la A L tl:=h.ln.same λ_ _ e=>b0p e
theorem HRel.lane{H:Hp}{hl la lb su fi:Addr}{F G:Addr->Prop}{A B:Ad}{S:HSt}(h:HRel cl H hl la lb su fi F G A B S)(o:Bool):∃A0,LN cl H (if o then la else lb) A0 (S.lane o) (S.trl o):=by
 cases o with
 | true=>exact⟨A,h.lo.all⟩
 | false=>exact⟨B,h.lk.all⟩
theorem b3t{H:Hp}{p:Addr}{o:HO}(hp:H p=none):Same H (upd H p o):=λx u e=>by rw[d6 (g6 e hp)];exact e
def a7e(cl:Cl):Sp:=λvs H Q E=>∃(hl:Addr)(S:HSt)(h:Str),vs=[.ref hl,.str h]/\HR cl H hl S/\(∀o b,HHn o b h->∀H',Same H H'->Q (.str (b0l (c6x b (S.lane o)))) H')/\((∀o b,¬ HHn o b h)->E (.ref cl.NoHand) none H)
abbrev a9b:Stmt:=j4 (top 115) 4
theorem a7f:d9 ["self","hand","lane","name"] ["self","hand"] (d7 a9b):=↑1
theorem c2r(D:DefM K cl.Hall "stage" "Hall.stage" a9b ["self","hand"])(T:Txt K mg cl)(G_Hall_lane_and_name:MethT P w K mg base cl.Hall "lane_and_name" 1 ["self","hand"] (c9c cl))(GS:MethT P w K mg base cl.Lane "stage" 3 ["self","hand"] (b3b cl)):MethT P w K mg base cl.Hall "stage" 4 ["self","hand"] (a7e cl):=by
 refine D.fn a7f ↑7 ↑4
 ·walk_at "len"
 ·obtain⟨hl,S,h,rfl,⟨la,lb,su,fi,F,G,A,B,hR⟩,k,kb⟩:=h
  obtain⟨dx,ex⟩:=hR.ob;refine⟨_,(d5 (b6i (a1e (pv 0) T.k_Hall G_Hall_lane_and_name hr ↑3 f9 (a7 (pv 1) b7)) (b8f (K:=K) rfl (a3e (v6 (i:=2) a7f.nd rfl (.inl rfl)) (a3e (v6 (i:=3) a7f.nd rfl (.inl rfl)) b8e))))
   (d8 (g4 (c4u (k:=3) (pv 2) hr ↑3 f9 (a7 (pv 3) b7))))),?_⟩
  fail "";refine⟨hl,dx,la,lb,su,fi,h,rfl,ex,λo' b' hz p hp=>?_,kb⟩;have sm:Same H (upd H p (.tup [.ref (if o' then la else lb),.str (nmB b')])):=b3t hp;obtain⟨A0,ln⟩:=(hR.sm sm).lane o';have e2:upd H p (.tup [.ref (if o' then la else lb),.str (nmB b')]) p=some (.tup [.ref (if o' then la else lb),.str (nmB b')]):=b8;obtain⟨dxl,el⟩:=ln.ob;generalize upd H p (.tup [.ref (if o' then la else lb),.str (nmB b')])=H2 at *;refine b8z (by assumption) rfl ?_
  fail "f";refine⟨if o' then la else lb,cl.Lane,dxl,_,_,_,rfl,el,rfl,T.k_Lane,GS,?_⟩;fail "";exact⟨_,A0,S.lane o',S.trl o',b',nmB b',rfl,hz.nm,ln,k o' b' hz _ sm⟩
def a4e(cl:Cl)(o:Bool):Sp:=λvs H Q _=>∃(hl:Addr)(S:HSt),vs=[.ref hl]/\HR cl H hl S/\∀p,H p=none->Q (.ref p) (upd H p (.lst ((c1t (S.lane o).n (S.lane o).c).map V.int)))
abbrev a3w:Stmt:=j4 (top 115) 13
theorem b4u:d9 ["self"] ["self"] (d7 a3w):=↑1
theorem b5n(D:DefM K cl.Hall "out_cells" "Hall.out_cells" a3w ["self"])(T:Txt K mg cl)(G_Lane_cells:MethT P w K mg base cl.Lane "cells" 2 ["self"] (a7d cl)):MethT P w K mg base cl.Hall "out_cells" 3 ["self"] (a4e cl true):=by
 refine D.fn b4u ↑7 ↑4
 ·walk_at "len"
 ·obtain⟨hl,S,rfl,⟨la,lb,su,fi,F,G,A,B,hR⟩,k⟩:=h
  obtain⟨dx,ex⟩:=hR.ob;obtain⟨dxl,el⟩:=hR.lo.all.ob;refine⟨_,(d8 (g4 (a2k ↑6 T.k_Lane G_Lane_cells hr ↑3 f9))),?_⟩;fail "";exact⟨la,A,S.L,S.tl,rfl,hR.lo.all,k⟩
abbrev a2v:Stmt:=j4 (top 115) 14
theorem b3o:d9 ["self"] ["self"] (d7 a2v):=↑1
theorem b4c(D:DefM K cl.Hall "back_cells" "Hall.back_cells" a2v ["self"])(T:Txt K mg cl)(G_Lane_cells:MethT P w K mg base cl.Lane "cells" 2 ["self"] (a7d cl)):MethT P w K mg base cl.Hall "back_cells" 3 ["self"] (a4e cl false):=by
 refine D.fn b3o ↑7 ↑4
 ·walk_at "len"
 ·obtain⟨hl,S,rfl,⟨la,lb,su,fi,F,G,A,B,hR⟩,k⟩:=h
  obtain⟨dx,ex⟩:=hR.ob;obtain⟨dxl,el⟩:=hR.lk.all.ob;refine⟨_,(d8 (g4 (a2k ↑6 T.k_Lane G_Lane_cells hr ↑3 f9))),?_⟩;fail "";exact⟨lb,B,S.M,S.tm,rfl,hR.lk.all,k⟩
abbrev a5y:Stmt:=j4 (top 115) 8
theorem b7l:d9 ["self"] ["self"] (d7 a5y):=↑1
theorem b8l(D:DefM K cl.Hall "shelves" "Hall.shelves" a5y ["self"])(T:Txt K mg cl):MethT P w K mg base cl.Hall "shelves" 1 ["self"] (λvs H Q _=>∃(hl:Addr)(S:HSt),vs=[.ref hl]/\HR cl H hl S/\∀p,H p=none->Q (.ref p) (upd H p (.lst (S.sm.map V.int)))):=by
 refine D.fn b7l ↑7 ↑4
 ·walk_at "len"
 ·obtain⟨hl,S,rfl,⟨la,lb,su,fi,F,G,A,B,hR⟩,k⟩:=h
  obtain⟨dx,ex⟩:=hR.ob;have es:=hR.sum;refine⟨_,(d8 (g4 (a6n (b0j (K:=K)) (by rfl) T.z_list PyProof.Rows.boot_list (a7 ↑6 b7)))),?_⟩
  fail "";exact k
def a3h(S:HSt):List Int:=((List.range S.L.bk.length).filter λ(n:Nat)=>!decide ((n:Int)∈S.fin)).map λ(n:Nat)=>(n:Int)
theorem d4n(l:List Int)(j:Int):(c6u (l.map λn=>((.inl n:Key),V.bl true)) (.inl j)).isSome=decide (j∈l):=by
 rw[<- b6v]
 induction l with
 | nil=>rfl
 | cons a l ih=>
  rw[List.map_cons,List.any_cons,ih];by_cases h:j=a
  ·subst h;simp
  ·have:¬ a=j:=λz=>h z.symm
   simp[h,this]
def a0e(cl:Cl):Sp:=λvs H Q _=>∃(hl:Addr)(S:HSt),vs=[.ref hl]/\HR cl H hl S/\S.L.os.length<=1000/\∀p H',H p=none->Same H H'->H' p=some (.lst ((a3h S).map V.int))->Q (.ref p) H'
abbrev a5x:Stmt:=j4 (top 115) 6
theorem b7k:d9 ["self"] ["self"] (d7 a5x):=↑1
theorem b8k(D:DefM K cl.Hall "waiting" "Hall.waiting" a5x ["self"])(T:Txt K mg cl)(G_Lane_book:MethT P w K mg base cl.Lane "book" 3 ["self"] (a5d cl)):MethT P w K mg base cl.Hall "waiting" 4 ["self"] (a0e cl):=by
 refine D.fn b7k ↑7 ↑4
 ·walk_at "len"
 ·obtain⟨hl,S,rfl,⟨la,lb,su,fi,F,G,A,B,hR⟩,h1,k⟩:=h
  obtain⟨dx,ex⟩:=hR.ob;obtain⟨dxl,el⟩:=hR.lo.all.ob;refine⟨_,(d8 (g4 (d3c (N:=["number","self"]) (nt:=1) (fr:=[0]) rfl (c3k (i:=0) rfl rfl (by decide +kernel) (by decide +kernel) rfl rfl rfl rfl rfl rfl rfl) (a6m rfl T.z_range (a7 (l7 (n5 (K:=K)) (by rfl) T.z_len PySem.boot_len (a7 (i9 (k:=3) ↑6 hr ↑3 f9) b7)) b7)) (a9p ↑3) (λ_ _ _ _ _=>v6 (i:=0) (show(["number","self"]:List Str).Nodup by decide +kernel) rfl (Or.inl rfl) (Or.inr rfl)) (λ_ _ _ _ _=>(e2b (d3f (huN hr 1) (pv 0) (v5 (K:=K) (pv 1))) (by with_unfolding_all rfl))) (λ_ _ _ _ _=>(pv 0))))),?_⟩
  have ef:=hR.done;have h20:2000<=sizeLine:=by decide
  refine d7n ?_;fail "f";refine⟨la,cl.Lane,dxl,_,_,_,rfl,el,rfl,T.k_Lane,G_Lane_book,?_⟩;fail "";refine⟨la,A,S.L,S.tl,rfl,hR.lo.all,h1,λp H1 nr=>?_⟩;obtain⟨hp,sm,ps,ep,lp,_⟩:=nr;fail "";obtain⟨_,_,_,_,_,_,_,okL⟩:=hR.lo.all.lr;have hb:S.L.bk.length<=1000:=Nat.le_trans okL.tk.bl h1;refine⟨_,rfl,by rw[List.length_map,lp];lia,by rw[List.length_map,lp];lia,?_⟩
  rw[List.length_map,lp,Int.toNat_natCast];refine c3l (n:=S.L.bk.length) (c:=λn=>!decide ((n:Int)∈S.fin)) (f:=λn=>V.int (n:Int)) ↑5 (λi H' k1 k2 hi s' q1 q2=>?_) (λD hD=>?_)
  ·have ex':=s' _ _ (sm _ _ ex)
   have ef':=s' _ _ (sm _ _ ef);fail "";show e1k 0 _ H' _;fail "";refine⟨fi,_,rfl,DGet.k (k:=.inl (0+(i:Int))) ef',_,rfl,?_⟩;rw[d4n,Int.zero_add];cases q:decide ((i:Int)∈S.fin) with
   | true=>
    rw[q] at q2;exact(if_neg ↑3).mpr (q2 rfl)
   | false=>
    rw[q] at q1;refine (if_pos rfl).mpr ?_;fail "";exact q1 rfl
  ·have nD:D≠p:=λz=>by rw[z,ep] at hD;cases hD
   refine k D _ ?_ (λx o e=>by rw[d6 (g6 (sm _ _ e) hD)];exact sm _ _ e) (by rw[b8];unfold a3h;rw[List.map_map];rfl)
   cases q:H D with
   | none=>rfl
   | some u=>rw[sm _ _ q] at hD;cases hD
def b8c(S:HSt):Bool:=decide ((a3h S).length=0) && ((d1z true S.L && d1z false S.L) && (d1z true S.M && d1z false S.M))
def b3d(cl:Cl):Sp:=λvs H Q _=>∃(hl:Addr)(S:HSt),vs=[.ref hl]/\HR cl H hl S/\S.L.os.length<=1000/\∀H',Same H H'->Q (.bl (b8c S)) H'
abbrev a9c:Stmt:=j4 (top 115) 12
theorem c1l:d9 ["self"] ["self"] (d7 a9c):=↑1
theorem c2s(D:DefM K cl.Hall "quiet" "Hall.quiet" a9c ["self"])(T:Txt K mg cl)(G_Hall_waiting:MethT P w K mg base cl.Hall "waiting" 4 ["self"] (a0e cl))(GQ:MethT P w K mg base cl.Lane "quiet" 8 ["self"] (b3c cl)):MethT P w K mg base cl.Hall "quiet" 9 ["self"] (b3d cl):=by
 refine D.fn c1l ↑7 ↑4
 ·walk_at "len"
 ·obtain⟨hl,S,rfl,⟨la,lb,su,fi,F,G,A,B,hR⟩,h1,k⟩:=h
  obtain⟨dx,ex⟩:=hR.ob;refine⟨_,(d8 (g4 (b8h (a3a a6a (l7 (n5 (K:=K)) (by rfl) T.z_len PySem.boot_len (a7 (a2k (pv 0) T.k_Hall G_Hall_waiting hr ↑3 f9) b7)) g3 (m9 _)) (b8h (i9 (k:=8) ↑6 hr ↑3 f9) (a7t (i9 (k:=8) ↑6 hr ↑3 f9)))))),?_⟩
  fail "";refine⟨hl,S,rfl,⟨la,lb,su,fi,F,G,A,B,hR⟩,h1,λp H1 hp sm ep=>?_⟩;have hR1:=hR.sm sm;have ex1:=sm _ _ ex;obtain⟨dxa,ea⟩:=hR1.lo.all.ob;fail "";by_cases hw:(a3h S).length=0
  ·refine (if_pos (by rw[List.length_map,hw];rfl)).mpr ?_
   fail "f";refine⟨la,cl.Lane,dxa,_,_,_,rfl,ea,rfl,T.k_Lane,GQ,?_⟩;fail "";refine⟨la,A,S.L,S.tl,rfl,hR1.lo.all,λH2 s2=>?_⟩;have sm2:Same H H2:=λx o e=>s2 _ _ (sm _ _ e);have hR2:=hR.sm sm2;have ex2:=sm2 _ _ ex;obtain⟨dxb,eb⟩:=hR2.lk.all.ob;cases hq:(d1z true S.L && d1z false S.L) with
   | false=>
    fail "";have:=k H2 sm2;unfold b8c at this;rw[hq,Bool.false_and,Bool.and_false] at this;exact this
   | true=>
    fail "f";refine⟨lb,cl.Lane,dxb,_,_,_,rfl,eb,rfl,T.k_Lane,GQ,?_⟩;fail "";refine⟨lb,B,S.M,S.tm,rfl,hR2.lk.all,λH3 s3=>?_⟩;have:=k H3 (λx o e=>s3 _ _ (sm2 _ _ e));unfold b8c at this;rw[hq,hw,Bool.true_and] at this;exact this
  ·refine (if_neg (by rw[List.length_map];exact λz=>hw (by have:=of_decide_eq_true z;cases h:(a3h S).length with|zero=>rfl|succ n=>rw[h] at this;cases this))).mpr ?_
   have:=k H1 sm;unfold b8c at this;rw[decide_eq_false hw,Bool.false_and] at this;exact this
theorem c7l{F F1:Addr->Prop}{H:Hp}(h:∀x,F x->F1 x):Same (rs F H) (rs F1 H):=λx o e=>by
 have eH:=b0p e;by_cases n:∃a,o=.own a
 ·obtain⟨a,rfl⟩:=n
  by_cases hc:F a\/b6t (H a)=true
  ·exact c7k eH (hc.imp (h a) id)
  ·rw[d2q eH hc] at e;cases e
 ·have n:∀a,o≠.own a:=λa z=>n ⟨a,z⟩
  by_cases hc:F x\/b6t (H x)=true
  ·exact a4f eH n (hc.imp (h x) id)
  ·rw[a7r eH n hc] at e;cases e
theorem HRel.outG{H H1':Hp}{hl la lb su fi:Addr}{F G F1:Addr->Prop}{A B A':Ad}{S:HSt}{L':Ln}{tl':List Tr}(h:HRel cl H hl la lb su fi F G A B S)(dj:∀x,F1 x->G x->False)(nF:¬ F1 hl/\¬ F1 su/\¬ F1 fi)(ot:Out H1' (rs F1 H) H)(n:LN cl H1' la A' L' tl')(nf:∀x,¬ A'.fo x):
  HRel cl (jn H1' (rs F1 H) H) hl la lb su fi (c0k H1') G A' B { S with L:=L',tl:=tl' }:=by
 obtain⟨⟨dx,e⟩,e2,e3,e4,lo,lk,_,_,nG⟩:=h;obtain⟨n1,n2,n3⟩:=nF;obtain⟨r1,m1⟩:=a1g ot e (λ_ z=>nomatch z) rfl n1;obtain⟨r2,m2⟩:=a1g ot e2 (λ_ z=>nomatch z) rfl n2;obtain⟨r3,m3⟩:=a1g ot e4 (λ_ z=>nomatch z) rfl n3;obtain⟨l2,d2⟩:=lk.rest dj ot;exact⟨⟨dx,r1⟩,r2,e3,r3,LP.behind ot n nf,l2,d2,⟨m1,m2,m3⟩,nG⟩
abbrev b5g:Stmt:=j4 (top 115) 2
theorem c7f:d9 ["self","order"] ["self","order"] (d7 b5g):=↑1
def HSd(P:Program)(w:World)(K:Frag)(cl:Cl):Prop:=∃a b,KDict P w K cl.d_SIDES [("house",.ref a),("shop",.ref b)]/\KTup K a [.str "asker",.str "hearer"]/\KTup K b [.str "doer",.str "teller"]
def d7p(b:Bool)(S:HSt):HSt:=(S.put true (c3g b S.L) S.tl).put false (c3g (!b) S.M) S.tm
def SdN(b:Bool)(h:Str):Prop:=(b=true/\h="house")\/(b=false/\h="shop")
def b6f(cl:Cl):Sp:=λvs H Q E=>∃(hl:Addr)(S:HSt)(h:Str),vs=[.ref hl,.str h]/\HR cl H hl S/\S.L.os.length<=1000/\S.M.os.length<=1000 /\
 (∀b,SdN b h->∀H',HR cl H' hl (d7p b S)->Q .non H')/\((∀b,¬ SdN b h)->E (.ref cl.NoHand) none H)
abbrev b2h:Stmt:=j4 (top 115) 5
theorem a5i:d9 ["self","side","hand","lane","name"] ["self","side"] (d7 b2h):=↑1
theorem c5v(D:DefM K cl.Hall "fall" "Hall.fall" b2h ["self","side"])(T:Txt K mg cl)(kd:HSd P w K cl)(G_Hall_lane_and_name:MethT P w K mg base cl.Hall "lane_and_name" 1 ["self","hand"] (c9c cl))(GF:MethT P w K mg base cl.Lane "fall" 6 ["self","hand"] (frS (b6c cl))):MethT P w K mg base cl.Hall "fall" 7 ["self","side"] (b6f cl):=by
 refine D.fn a5i ↑7 ↑4
 ·walk_at "len"
 ·obtain⟨hl,S,h,rfl,hR,h1,h2,k,kb⟩:=h
  obtain⟨ta,tb,ks,ka,kc⟩:=kd;refine⟨_,(d5 (a0q (k7 (d0z (K:=K)) (pv 1) (a1w T.r_SIDES rfl) (by with_unfolding_all rfl))
     (d8 (a0p T.c_NoHand rfl rfl a9i (a7 g7 b7)))
     r0)
   (d8 (b8d a5n rfl (d9m (K:=K) (u9 (c8g (K:=K)) (a1w T.r_SIDES rfl) (pv 1) (λ_ _=>rfl))) (v6 (i:=2) a5i.nd rfl (.inl rfl))
    (
     d5 (b6i (a1e (pv 0) T.k_Hall G_Hall_lane_and_name hr ↑3 f9 (a7 (pv 2) b7)) (b8f (K:=K) rfl (a3e (v6 (i:=3) a5i.nd rfl (.inl rfl)) (a3e (v6 (i:=4) a5i.nd rfl (.inl rfl)) b8e))))
     (d8 (i8 (c4u (k:=6) (pv 3) hr ↑3 f9 (a7 (pv 4) b7)))))))),?_⟩
  fail "";by_cases g1:h="house"
  ·subst g1
   refine⟨_,_,_,rfl,rfl,ks,_,rfl,?_⟩;rw[if_neg (by rw[va2];split <;> simp_all)]
   fail "";refine d8g ?_;fail "";refine⟨_,_,_,_,.ref ta,rfl,rfl,ks,rfl,rfl,?_⟩;refine⟨ta,rfl,⟨_,ka.sq⟩,?_⟩;refine c9u (λH=>ka.sq) ?_;obtain⟨la1,lb1,su1,fi1,F1,G1,A1,B1,r1⟩:=hR;obtain⟨dx1,ex1⟩:=r1.ob;fail "";refine⟨hl,dx1,la1,lb1,su1,fi1,"asker",rfl,ex1,λo' b' hz p hp=>?_,λz=>absurd (show HHn true true "asker" from .inl ⟨rfl,rfl,rfl⟩) (z true true)⟩;obtain⟨rfl,rfl⟩:=HHn.uq (show HHn true true "asker" from .inl ⟨rfl,rfl,rfl⟩) hz;have q1:=r1.more (o:=.tup [.ref (if true then la1 else lb1),.str (nmB true)]) hp;obtain⟨F0,A0,ln,nf,nx⟩:=q1.at true;have e2:upd H p (.tup [.ref (if true then la1 else lb1),.str (nmB true)]) p=some (.tup [.ref (if true then la1 else lb1),.str (nmB true)]):=b8;obtain⟨dxl,el⟩:=ln.ob;have el:=b0p el;generalize upd H p (.tup [.ref (if true then la1 else lb1),.str (nmB true)])=H1 at *;refine b8z (by assumption) rfl ?_
   fail "f";refine⟨if true then la1 else lb1,cl.Lane,dxl,_,_,_,rfl,el,rfl,T.k_Lane,GF,?_⟩;fail "";refine⟨rs F0 H1,a5k F0 H1,_,A0,_,_,true,nmB true,rfl,HHn.nm (show HHn true true "asker" from .inl ⟨rfl,rfl,rfl⟩),ln,h1,λJ1 A' z1 z2 z3 ot=>?_⟩;have w1:=nx J1 A' _ _ ot z1 z3.2;generalize jn J1 (rs F0 H1) H1=M1 at *;obtain⟨la2,lb2,su2,fi2,F2,G2,A2,B2,r2⟩:=w1;obtain⟨dx2,ex2⟩:=r2.ob;fail "";refine⟨hl,dx2,la2,lb2,su2,fi2,"hearer",rfl,ex2,λo' b' hz p hp=>?_,λz=>absurd (show HHn false false "hearer" from .inr (.inr (.inr ⟨rfl,rfl,rfl⟩))) (z false false)⟩;obtain⟨rfl,rfl⟩:=HHn.uq (show HHn false false "hearer" from .inr (.inr (.inr ⟨rfl,rfl,rfl⟩))) hz;have q2:=r2.more (o:=.tup [.ref (if false then la2 else lb2),.str (nmB false)]) hp;obtain⟨F0,A0,ln,nf,nx⟩:=q2.at false;have e2:upd M1 p (.tup [.ref (if false then la2 else lb2),.str (nmB false)]) p=some (.tup [.ref (if false then la2 else lb2),.str (nmB false)]):=b8;obtain⟨dxl,el⟩:=ln.ob;have el:=b0p el;generalize upd M1 p (.tup [.ref (if false then la2 else lb2),.str (nmB false)])=H2 at *;refine b8z (by assumption) rfl ?_
   fail "f";refine⟨if false then la2 else lb2,cl.Lane,dxl,_,_,_,rfl,el,rfl,T.k_Lane,GF,?_⟩;fail "";refine⟨rs F0 H2,a5k F0 H2,_,A0,_,_,false,nmB false,rfl,HHn.nm (show HHn false false "hearer" from .inr (.inr (.inr ⟨rfl,rfl,rfl⟩))),ln,h2,λJ2 A' z1 z2 z3 ot=>?_⟩;have w2:=nx J2 A' _ _ ot z1 z3.2;generalize jn J2 (rs F0 H2) H2=M2 at *;fail "";exact k true (.inl ⟨rfl,rfl⟩) _ w2
  by_cases g2:h="shop"
  ·subst g2
   refine⟨_,_,_,rfl,rfl,ks,_,rfl,?_⟩;rw[if_neg (by rw[va2];split <;> simp_all)]
   fail "";refine d8g ?_;fail "";refine⟨_,_,_,_,.ref tb,rfl,rfl,ks,rfl,rfl,?_⟩;refine⟨tb,rfl,⟨_,kc.sq⟩,?_⟩;refine c9u (λH=>kc.sq) ?_;obtain⟨la1,lb1,su1,fi1,F1,G1,A1,B1,r1⟩:=hR;obtain⟨dx1,ex1⟩:=r1.ob;fail "";refine⟨hl,dx1,la1,lb1,su1,fi1,"doer",rfl,ex1,λo' b' hz p hp=>?_,λz=>absurd (show HHn true false "doer" from .inr (.inl ⟨rfl,rfl,rfl⟩)) (z true false)⟩;obtain⟨rfl,rfl⟩:=HHn.uq (show HHn true false "doer" from .inr (.inl ⟨rfl,rfl,rfl⟩)) hz;have q1:=r1.more (o:=.tup [.ref (if true then la1 else lb1),.str (nmB false)]) hp;obtain⟨F0,A0,ln,nf,nx⟩:=q1.at true;have e2:upd H p (.tup [.ref (if true then la1 else lb1),.str (nmB false)]) p=some (.tup [.ref (if true then la1 else lb1),.str (nmB false)]):=b8;obtain⟨dxl,el⟩:=ln.ob;have el:=b0p el;generalize upd H p (.tup [.ref (if true then la1 else lb1),.str (nmB false)])=H1 at *;refine b8z (by assumption) rfl ?_
   fail "f";refine⟨if true then la1 else lb1,cl.Lane,dxl,_,_,_,rfl,el,rfl,T.k_Lane,GF,?_⟩;fail "";refine⟨rs F0 H1,a5k F0 H1,_,A0,_,_,false,nmB false,rfl,HHn.nm (show HHn true false "doer" from .inr (.inl ⟨rfl,rfl,rfl⟩)),ln,h1,λJ1 A' z1 z2 z3 ot=>?_⟩;have w1:=nx J1 A' _ _ ot z1 z3.2;generalize jn J1 (rs F0 H1) H1=M1 at *;obtain⟨la2,lb2,su2,fi2,F2,G2,A2,B2,r2⟩:=w1;obtain⟨dx2,ex2⟩:=r2.ob;fail "";refine⟨hl,dx2,la2,lb2,su2,fi2,"teller",rfl,ex2,λo' b' hz p hp=>?_,λz=>absurd (show HHn false true "teller" from .inr (.inr (.inl ⟨rfl,rfl,rfl⟩))) (z false true)⟩;obtain⟨rfl,rfl⟩:=HHn.uq (show HHn false true "teller" from .inr (.inr (.inl ⟨rfl,rfl,rfl⟩))) hz;have q2:=r2.more (o:=.tup [.ref (if false then la2 else lb2),.str (nmB true)]) hp;obtain⟨F0,A0,ln,nf,nx⟩:=q2.at false;have e2:upd M1 p (.tup [.ref (if false then la2 else lb2),.str (nmB true)]) p=some (.tup [.ref (if false then la2 else lb2),.str (nmB true)]):=b8;obtain⟨dxl,el⟩:=ln.ob;have el:=b0p el;generalize upd M1 p (.tup [.ref (if false then la2 else lb2),.str (nmB true)])=H2 at *;refine b8z (by assumption) rfl ?_
   fail "f";refine⟨if false then la2 else lb2,cl.Lane,dxl,_,_,_,rfl,el,rfl,T.k_Lane,GF,?_⟩;fail "";refine⟨rs F0 H2,a5k F0 H2,_,A0,_,_,true,nmB true,rfl,HHn.nm (show HHn false true "teller" from .inr (.inr (.inl ⟨rfl,rfl,rfl⟩))),ln,h2,λJ2 A' z1 z2 z3 ot=>?_⟩;have w2:=nx J2 A' _ _ ot z1 z3.2;generalize jn J2 (rs F0 H2) H2=M2 at *;fail "";exact k false (.inr ⟨rfl,rfl⟩) _ w2
  refine⟨_,_,_,rfl,rfl,ks,_,rfl,?_⟩;rw[if_pos (by rw[va2,if_neg (Ne.symm g1),if_neg (Ne.symm g2)];rfl)]
  fail "";exact⟨l8,kb λb z=>by
   rcases z with ⟨_,z⟩|⟨_,z⟩
   ·exact g1 z
   ·exact g2 z⟩
def TP(H:Hp)(os:List (List Int))(D:Addr)(i:Nat)(acc:List V)(H':Hp):Prop:=H' D=some (.lst acc)/\Same H H'/\∃ps:List Addr,acc=ps.map V.ref/\ps.length=i/\∀(j:Nat)(p:Addr)(o:List Int),ps[j]?=some p->os[j]?=some o->H p=none/\p≠D/\H' p=some (.tup (o.map V.int))
theorem TP.new{H:Hp}{os:List (List Int)}{D:Addr}(hD:H D=none):TP H os D 0 [] (upd H D (.lst [])):=⟨b8,f8 hD,[],rfl,rfl,λj p o h=>by simp at h⟩
theorem TP.push{H H':Hp}{os:List (List Int)}{o:List Int}{D p:Addr}{i:Nat}{acc:List V}(h:TP H os D i acc H')(hD:H D=none)(ho:os[i]?=some o)(hp:H' p=none):
  (upd H' p (.tup (o.map V.int))) D=some (.lst acc)/\TP H os D (i+1) (acc++[.ref p]) (upd (upd H' p (.tup (o.map V.int))) D (.lst (acc++[.ref p]))):=by
 obtain⟨e,s,ps,rfl,hl,r⟩:=h;have nD:D≠p:=λz=>by rw[<- z,e] at hp;cases hp
 have hp0:=o9 s hp;refine⟨by rw[d6 nD];exact e,b8,?_,ps++[p],by rw[List.map_append];rfl,by rw[List.length_append,hl];rfl,?_⟩
 ·intro b u eb
  rw[d6 (λz=>by rw[z,hD] at eb;cases eb),d6 (λz=>by rw[z,hp0] at eb;cases eb)]
  exact s _ _ eb
 ·intro j q u hj hu
  by_cases y:j<ps.length
  ·rw[List.getElem?_append_left y] at hj
   obtain⟨a,b,c⟩:=r j q u hj hu;refine⟨a,b,?_⟩;rw[d6 b,d6 (λz=>by rw[z,hp] at c;cases c)]
   exact c
  ·rw[List.getElem?_append_right ↑5] at hj
   have:j=i:=by
    by_cases z:j-ps.length=0
    ·lia
    ·rw[List.getElem?_eq_none (by simp;lia)] at hj;cases hj
   subst this;rw[hl,Nat.sub_self] at hj;cases hj;rw[ho] at hu;cases hu;exact⟨hp0,Ne.symm nD,by rw[d6 (Ne.symm nD)];exact b8⟩
def c0r:Sp:=λvs H Q _=>∃(a:Addr)(os:List (List Int)),vs=[.ref a]/\Rws H a os/\os.length<=1000/\∀p acc H',H p=none->TP H os p os.length acc H'->Q (.ref p) H'
abbrev c7g:Stmt:=top 114
theorem d6e:d9 ["answers"] ["answers"] (d7 c7g):=↑1
theorem d6q(D:DefT K mg "pairs" c7g ["answers"])(T:Txt K mg cl):FnT P w K mg base "pairs" 1 ["answers"] c0r:=by
 refine D.fn d6e ↑7 ↑4
 ·walk_at "len"
 ·obtain⟨a,os,rfl,⟨ps,ea,hl,hr'⟩,hz,k⟩:=h
  refine⟨_,(d8 (g4 (b5h (N:=["answer"]) (nt:=1) (fr:=[]) rfl (b7b rfl rfl (by decide +kernel) (by decide +kernel) rfl rfl) (a5l (K:=K) (pv 0)) (a9p ↑3) (λ_ _ _ _ _=>v6 (i:=0) (show(["answer"]:List Str).Nodup by decide +kernel) rfl (Or.inl rfl) (Or.inr rfl)) (λ_ _ _ _ _=>(a6n (d4x (K:=K)) (by rfl) T.z_tuple PyProof.Rows.boot_tuple (a7 (pv 0) b7)))))),?_⟩
  have h60:6000<=sizeLine:=by decide
  refine⟨_,rfl,a,rfl,⟨_,SqL.of ea⟩,b0i (xs:=ps.map V.ref) (by rw[List.length_map];lia) (TP H os) (λD hD=>TP.new hD) ?_ ?_ ?_⟩
  ·rintro D i acc H' ⟨e,s,qs,rfl,hq,_⟩
   exact⟨e,by rw[List.length_map];exact hq,SqL.of (s _ _ ea)⟩
  ·intro D i x acc H' hD hx hp
   rw[List.getElem?_map] at hx;cases hpi:ps[i]? with
   | none=>rw[hpi] at hx;cases hx
   | some q=>
    rw[hpi] at hx;cases hx;have hi:i<os.length:=by rw[<- hl];exact(List.getElem?_eq_some_iff.mp hpi).1
    have hoi:=List.getElem?_eq_getElem hi;have eq:=hp.2.1 _ _ (hr' i q _ hpi hoi);fail "";exact⟨q,_,rfl,.inl ⟨SqL.of eq,λp hpn=>hp.push hD hoi hpn⟩⟩
  ·intro D acc H' hD hp
   rw[List.length_map,hl] at hp;exact k _ _ _ hD hp
def a5f(cl:Cl)(b:Bool):Sp:=λvs H Q _=>∃(hl:Addr)(S:HSt),vs=[.ref hl]/\HR cl H hl S/\S.M.os.length<=1000/\∀p acc H1 H',Same H H1->H1 p=none->TP H1 (if b then S.M.os else S.M.bk) p (if b then S.M.os else S.M.bk).length acc H'->Q (.ref p) H'
abbrev b2e:Stmt:=j4 (top 115) 10
theorem c4m:d9 ["self"] ["self"] (d7 b2e):=↑1
theorem c5s(D:DefM K cl.Hall "told" "Hall.told" b2e ["self"])(T:Txt K mg cl)(G_pairs:FnT P w K mg base "pairs" 1 ["answers"] c0r)(GO:MethT P w K mg base cl.Lane "orders" 3 ["self"] (b0y cl)):MethT P w K mg base cl.Hall "told" 4 ["self"] (a5f cl true):=by
 refine D.fn c4m ↑7 ↑4
 ·walk_at "len"
 ·obtain⟨hl,S,rfl,⟨la,lb,su,fi,F,G,A,B,hR⟩,h1,k⟩:=h
  obtain⟨dx,ex⟩:=hR.ob;obtain⟨dxl,el⟩:=hR.lk.all.ob;refine⟨_,(d8 (g4 (g9 G_pairs hr ↑3 rfl f9 (a7 (i9 (k:=3) ↑6 hr ↑3 f9) b7)))),?_⟩;fail "f";refine⟨lb,cl.Lane,dxl,_,_,_,rfl,el,rfl,T.k_Lane,GO,?_⟩;fail "";refine⟨lb,B,S.M,S.tm,rfl,hR.lk.all,h1,λp H1 nr=>?_⟩;fail "";exact⟨p,S.M.os,rfl,nr.rws,h1,λq acc H' hq tp=>k q acc H1 H' nr.2.1 hq tp⟩
abbrev a9d:Stmt:=j4 (top 115) 11
theorem c1m:d9 ["self"] ["self"] (d7 a9d):=↑1
theorem c2t(D:DefM K cl.Hall "heard" "Hall.heard" a9d ["self"])(T:Txt K mg cl)(G_pairs:FnT P w K mg base "pairs" 1 ["answers"] c0r)(GO:MethT P w K mg base cl.Lane "book" 3 ["self"] (a5d cl)):MethT P w K mg base cl.Hall "heard" 4 ["self"] (a5f cl false):=by
 refine D.fn c1m ↑7 ↑4
 ·walk_at "len"
 ·obtain⟨hl,S,rfl,⟨la,lb,su,fi,F,G,A,B,hR⟩,h1,k⟩:=h
  obtain⟨dx,ex⟩:=hR.ob;obtain⟨dxl,el⟩:=hR.lk.all.ob;obtain⟨_,_,_,_,_,_,_,okM⟩:=hR.lk.all.lr;refine⟨_,(d8 (g4 (g9 G_pairs hr ↑3 rfl f9 (a7 (i9 (k:=3) ↑6 hr ↑3 f9) b7)))),?_⟩;fail "f";refine⟨lb,cl.Lane,dxl,_,_,_,rfl,el,rfl,T.k_Lane,GO,?_⟩;fail "";refine⟨lb,B,S.M,S.tm,rfl,hR.lk.all,h1,λp H1 nr=>?_⟩;fail "";exact⟨p,S.M.bk,rfl,nr.rws,Nat.le_trans okM.tk.bl h1,λq acc H' hq tp=>k q acc H1 H' nr.2.1 hq tp⟩
abbrev b2j:Stmt:=j4 (top 115) 9
theorem c4o:d9 ["self"] ["self"] (d7 b2j):=↑1
theorem c5w(D:DefM K cl.Hall "done" "Hall.done" b2j ["self"])(T:Txt K mg cl):MethT P w K mg base cl.Hall "done" 1 ["self"] (λvs H Q _=>∃(hl:Addr)(S:HSt),vs=[.ref hl]/\HR cl H hl S/\∀p,H p=none->Q (.ref p) (upd H p (.lst (S.fin.map V.int)))):=by
 refine D.fn c4o ↑7 ↑4
 ·walk_at "len"
 ·obtain⟨hl,S,rfl,⟨la,lb,su,fi,F,G,A,B,hR⟩,k⟩:=h
  obtain⟨dx,ex⟩:=hR.ob;have ef:=hR.done;refine⟨_,(d8 (g4 (a6n (c8o rfl) (by rfl) T.z_list PyProof.Rows.boot_list (a7 ↑6 b7)))),?_⟩
  fail "";refine⟨fi,_,rfl,ef,λp hp=>?_⟩;rw[List.map_map];exact k p hp
def a1s(o:List Int):Nat:=((o.getD 0 0) % 4).toNat
def a2n(S:HSt)(o:List Int):Int:=S.sm.getD (a1s o) 0+(o.drop 1).sum
def doH(S:HSt)(n:Nat):HSt :=
 let o:=S.L.bk.getD n []
 { S with sm:=S.sm.set (a1s o) (a2n S o),fin:=S.fin++[(n:Int)],M:=a1m S.M [(n:Int),a2n S o] }
theorem c8r{S:HSt}{j:Nat}{x:Int}(h:(a3h S)[j]?=some x):∃n:Nat,x=n/\n<S.L.bk.length/\(n:Int) ∉ S.fin:=by
 have h:=List.mem_of_getElem? h;unfold a3h at h;obtain⟨n,hn,rfl⟩:=List.mem_map.mp h;obtain⟨a,b⟩:=List.mem_filter.mp hn;exact⟨n,rfl,List.mem_range.mp a,by simpa using b⟩
theorem d5i{xs:List V}{i:Int}(h:0<=i):atI xs i=xs[i.toNat]?:=by
 unfold atI ixN;rw[if_pos h];by_cases h1:i<(xs.length:Int)
 ·rw[if_pos h1];rfl
 ·rw[if_neg h1]
  exact(List.getElem?_eq_none ↑5).symm
theorem LP.updX{H:Hp}{F:Addr->Prop}{la x:Addr}{A:Ad}{L:Ln}{tl:List Tr}{o u:HO}(h:LP cl H F la A L tl)(hx:H x=some o)(no:b6t (some o)=false)(nw:∀a,o≠.own a)(nF:¬ F x):LP cl (upd H x u) F la A L tl:=by
 refine⟨(h.ln.ow h.nf).same λy v e=>?_,λy hy=>?_,h.nf⟩
 ·have e1:=c1w e
  have e2:=b0p e1.1;have ny:y≠x:=λz=>by
   rw[z] at e1;rw[a7r hx nw (by rw[hx,no];exact λz=>z.elim nF (λq=>by cases q))] at e1
   cases e1.1
  have e3:upd H x u y=some v:=(d6 ny).trans e2;refine a4f e3 (b4j e1.2) ?_;by_cases hy:F y
  ·exact .inl hy
  ·right
   cases q:b6t (some v) with
   | true=>rw[e3];exact q
   | false=>
    have:=a7r (F:=F) e2 (b4j e1.2) (by rw[e2,q];exact λz=>z.elim hy (λq=>by cases q))
    rw[this] at e1;cases e1.1
 ·obtain⟨v,e,z⟩:=h.dom y hy
  exact⟨v,(d6 (show y≠x from λq=>nF (by rw[<- q];exact hy))).trans e,z⟩
theorem HRel.setS{H:Hp}{hl la lb su fi:Addr}{F G:Addr->Prop}{A B:Ad}{S:HSt}{sm:List Int}(h:HRel cl H hl la lb su fi F G A B S)(l4:sm.length=4):HRel cl (upd H su (.lst (sm.map V.int))) hl la lb su fi F G A B { S with sm:=sm }:=by
 obtain⟨⟨dx,e⟩,e2,e3,e4,lo,lk,dj,nF,nG⟩:=h;exact⟨⟨dx,(d6 (b9w e e2 λz=>nomatch z)).trans e⟩,b8,l4,(d6 (b9w e4 e2 λz=>nomatch z)).trans e4,lo.updX e2 rfl (λ_ z=>nomatch z) nF.2.1,lk.updX e2 rfl (λ_ z=>nomatch z) nG.2.1,dj,nF,nG⟩
theorem HRel.setF{H:Hp}{hl la lb su fi:Addr}{F G:Addr->Prop}{A B:Ad}{S:HSt}{l:List Int}(h:HRel cl H hl la lb su fi F G A B S):HRel cl (upd H fi (.dK (l.map λn=>(.inl n,V.bl true)))) hl la lb su fi F G A B { S with fin:=l }:=by
 obtain⟨⟨dx,e⟩,e2,e3,e4,lo,lk,dj,nF,nG⟩:=h;exact⟨⟨dx,(d6 (b9w e e4 λz=>nomatch z)).trans e⟩,(d6 (b9w e2 e4 λz=>nomatch z)).trans e2,e3,b8,lo.updX e4 rfl (λ_ z=>nomatch z) nF.2.2,lk.updX e4 rfl (λ_ z=>nomatch z) nG.2.2,dj,nF,nG⟩
theorem HRel.backG{H H1':Hp}{hl la lb su fi:Addr}{F G F1:Addr->Prop}{A B B':Ad}{S:HSt}{M':Ln}{tm':List Tr}(h:HRel cl H hl la lb su fi F G A B S)(dj:∀x,F1 x->F x->False)(nG:¬ F1 hl/\¬ F1 su/\¬ F1 fi)(ot:Out H1' (rs F1 H) H)(n:LN cl H1' lb B' M' tm')(nf:∀x,¬ B'.fo x):
  HRel cl (jn H1' (rs F1 H) H) hl la lb su fi F (c0k H1') A B' { S with M:=M',tm:=tm' }:=by
 obtain⟨⟨dx,e⟩,e2,e3,e4,lo,lk,_,nF,_⟩:=h;obtain⟨n1,n2,n3⟩:=nG;obtain⟨r1,m1⟩:=a1g ot e (λ_ z=>nomatch z) rfl n1;obtain⟨r2,m2⟩:=a1g ot e2 (λ_ z=>nomatch z) rfl n2;obtain⟨r3,m3⟩:=a1g ot e4 (λ_ z=>nomatch z) rfl n3;obtain⟨l2,d2⟩:=lo.rest dj ot;exact⟨⟨dx,r1⟩,r2,e3,r3,l2,LP.behind ot n nf,λx a b=>d2 x b a,nF,⟨m1,m2,m3⟩⟩
theorem d4w{xs:List V}{j:Nat}(h:j<=xs.length):d7v xs (some (j:Int)) none=xs.drop j:=by
 unfold d7v;rw[HT.sIx_nat,HT.sIx_none,Nat.min_eq_left h];exact List.take_of_length_le (by rw[List.length_drop];lia)
theorem e4d{L:Ln}(ok:Ok L){n:Nat}(hn:n<L.bk.length):1<=(L.bk[n]'hn).length:=by
 have m:∀x,x∈L.bk->x∈L.os:=λx hx=>by rw[ok.tk.bk] at hx;exact List.mem_of_mem_take hx
 exact(ok.core.good _ (m _ (List.getElem_mem hn))).1
theorem e3v{σ:St}{H:Hp}{to ti te:TE}{tget:V->V->Hp->VK->Prop}{tip:TIp}{tset:e0z}{D:Ends}(q:to σ H λo H1=>ti σ H1 λi H2=>tget o i H2 λx H3=>te σ H3 λy H4=>tip x y H4 λz H5=>tset o i z H5 λH6=>D.nx σ H6):e1s to ti te tget tip tset D σ H:=q
def c0c(cl:Cl):Sp:=λvs H Q E=>∃(hl:Addr)(S:HSt)(i:Int),vs=[.ref hl,.int i]/\HR cl H hl S/\S.L.os.length<=400/\S.M.os.length<=400/\S.fin.length<=1000 /\
 (∀n:Nat,0<=i->(a3h S)[i.toNat]?=some (n:Int)->∀H',HR cl H' hl (doH S n)->Q (.int n) H')/\((i<0\/((a3h S).length:Int)<=i)->∀H',Same H H'->E (.ref cl.NoWaiting) none H')
abbrev b7z:Stmt:=j4 (top 115) 7
theorem a6j:d9 ["self","place","numbers","number","order","shelf"] ["self","place"] (d7 b7z):=↑1
theorem d1m(D:DefM K cl.Hall "do" "Hall.do" b7z ["self","place"])(T:Txt K mg cl)(G_Hall_waiting:MethT P w K mg base cl.Hall "waiting" 4 ["self"] (a0e cl))(GB:MethT P w K mg base cl.Lane "book" 3 ["self"] (a5d cl))(G_Lane_hand_in:MethT P w K mg base cl.Lane "hand_in" 3 ["self","order"] (frS (a4o cl))):MethT P w K mg base cl.Hall "do" 5 ["self","place"] (c0c cl):=by
 refine D.fn a6j ↑7 ↑4
 ·walk_at "len"
 ·obtain⟨hl,S,i,rfl,⟨la,lb,su,fi,F,G,A,B,hR⟩,h1,h2,h3,k,kb⟩:=h
  obtain⟨dx,ex⟩:=hR.ob;refine⟨_,(d5 (j9 (i:=2) a6j.nd rfl (.inl rfl) (a2k (pv 0) T.k_Hall G_Hall_waiting hr ↑3 f9))
   (d5 (a0q (c7o rfl T.z_range (pv 1) (a7 (l7 (n5 (K:=K)) (by rfl) T.z_len PySem.boot_len (a7 (pv 2) b7)) b7))
     (d8 (a0p T.c_NoWaiting rfl rfl a9i (a7 g7 b7)))
     r0)
   (d5 (j9 (i:=3) a6j.nd rfl (.inl rfl) (u9 (i4 (K:=K)) (pv 2) (pv 1) (λ_ _=>rfl)))
   (d5 (j9 (i:=4) a6j.nd rfl (.inl rfl) (u9 (i4 (K:=K)) (i9 (k:=3) ↑6 hr ↑3 f9) (pv 3) (λ_ _=>rfl)))
   (d5 (j9 (i:=5) a6j.nd rfl (.inl rfl) (m6 a6p (u9 (i4 (K:=K)) (pv 4) g3 (λ_ _=>rfl)) (t4 T.m_SHELVES rfl)))
   (d5 (d9k ↑6 (pv 5) (d4d (K:=K)) (l7 (d4y (K:=K) rfl) (by rfl) T.z_sum PyProof.Rows.boot_sum (a7 (c9h (c9d (K:=K)) (pv 4) (d2y g3) d2z) b7)) d8e b6y)
   (d5 (d9j (huN hr 1) ↑6 (pv 3) a6o rfl)
   (d5 (i8 (a1e ↑6 T.k_Lane G_Lane_hand_in hr ↑3 f9 (a7 (o8 (a7 (pv 3) (a7 (u9 (i4 (K:=K)) ↑6 (pv 5) (λ_ _=>rfl)) b7))) b7)))
   (d8 (g4 (pv 3))))))))))),?_⟩
  fail "";refine⟨hl,S,rfl,⟨la,lb,su,fi,F,G,A,B,hR⟩,by lia,λp H1 hp s1 ep=>?_⟩
  fail "";refine d1v ?_;fail "";refine⟨i,_,rfl,rfl,_,rfl,?_⟩;rw[List.length_map];by_cases hi:0<=i/\i<((a3h S).length:Int)
  ·rw[decide_eq_true hi]
   refine (if_neg ↑3).mpr ?_;have hj:i.toNat<(a3h S).length:=by lia
   obtain⟨n,en,hn,nf⟩:=c8r (List.getElem?_eq_getElem hj);have hR1:=hR.sm s1;have ex1:=s1 _ _ ex;obtain⟨dxl,el⟩:=hR1.lo.all.ob;fail "";refine a3d ep (v:=.int n) (by rw[d5i hi.1,List.getElem?_map,List.getElem?_eq_getElem hj,en];rfl) ?_
   fail "f";refine⟨la,cl.Lane,dxl,_,_,_,rfl,el,rfl,T.k_Lane,GB,?_⟩;fail "";refine⟨la,A,S.L,S.tl,rfl,hR1.lo.all,by lia,λq H2 nr=>?_⟩
   obtain⟨hq,s2,ps,eq,lq,rows⟩:=nr;have hn':n<ps.length:=by lia
   obtain⟨hpn,nq,eo⟩:=rows n ps[n] (S.L.bk[n]'hn) (List.getElem?_eq_getElem hn') (List.getElem?_eq_getElem hn);fail "";have s12:Same H H2:=λx u e=>s2 _ _ (s1 _ _ e);have hR2:=hR.sm s12;have ex2:=s12 _ _ ex;have es2:=hR2.sum;have ef2:=hR2.done;obtain⟨_,_,_,_,_,_,_,okL⟩:=hR.lo.all.lr;have o1:1<=(S.L.bk[n]'hn).length:=e4d okL hn;generalize ho:S.L.bk[n]'hn=o at *;have h04:(0:Int)<=o.getD 0 0 % 4/\o.getD 0 0 % 4<4:=⟨Int.emod_nonneg _ ↑3,Int.emod_lt_of_pos _ ↑3⟩;refine a3d eq (v:=.ref ps[n]) (by rw[d5i ↑5,List.getElem?_map,Int.toNat_natCast,List.getElem?_eq_getElem hn'];rfl) ?_
   fail "";refine a3d eo (c0m ↑5 ↑5) ?_;fail "";have l4:a1s o<S.sm.length:=by unfold a1s;have:=hR.four;lia
   refine e3v ?_;fail "";refine⟨su,_,_,.int (S.sm.getD (a1s o) 0),rfl,rfl,SqL.of es2,h04.1,?_,?_⟩
   ·show(S.sm.map V.int)[a1s o]?=_
    rw[List.getElem?_map,List.getD_eq_getElem?_getD,List.getElem?_eq_getElem l4];rfl
   fail "";refine e7u ?_;fail "";refine e3i ?_;fail "";refine⟨1,rfl,?_⟩;refine d7m ?_;refine⟨ps[n],_,rfl,SqL.of eo,λc hc=>?_⟩;have ecut:d7v (o.map V.int) (some 1) none=(o.drop 1).map V.int:=by
    rw[show(some 1:Option Int)=some ((1:Nat):Int) from rfl,d4w (by rw[List.length_map];exact o1),List.map_drop]
   rw[ecut];fail "";have hR3:=hR2.more (o:=.lst ((o.drop 1).map V.int)) hc;have e3:upd H2 c (.lst ((o.drop 1).map V.int)) c=some (.lst ((o.drop 1).map V.int)):=b8;generalize upd H2 c (.lst ((o.drop 1).map V.int))=H3 at *;refine⟨c,o.drop 1,rfl,SqL.of e3,_,_,rfl,rfl,?_⟩;refine⟨su,_,_,a1s o,rfl,rfl,hR3.sum,?_,?_⟩
   ·unfold ixN
    rw[show o.getD (Int.toNat 0) 0=o.getD 0 0 from rfl,if_pos h04.1,if_pos (by rw[List.length_map];have:=hR.four;lia)]
    rfl
   have em:(S.sm.map V.int).set (a1s o) (.int (S.sm.getD (a1s o) 0+(o.drop 1).sum))=(S.sm.set (a1s o) (a2n S o)).map V.int:=by
    rw[List.map_set];rfl
   rw[em];have hR4:=hR3.setS (sm:=S.sm.set (a1s o) (a2n S o)) (by rw[List.length_set];exact hR.four)
   generalize upd H3 su (.lst ((S.sm.set (a1s o) (a2n S o)).map V.int))=H4 at *;obtain⟨dx4,ex4⟩:=hR4.ob;fail "";refine e3r ?_;fail "";have vn:c6u (S.fin.map λn=>((.inl n:Key),V.bl true)) (.inl (n:Int))=none:=by
    cases q:c6u (S.fin.map λn=>((.inl n:Key),V.bl true)) (.inl (n:Int)) with
    | none=>rfl
    | some y=>
     have:=d4n S.fin n;rw[q] at this;exact absurd (of_decide_eq_true this.symm) nf
   have pk:c7n (S.fin.map λn=>((.inl n:Key),V.bl true)) (.inl (n:Int)) (.bl true)=(S.fin++[(n:Int)]).map λn=>((.inl n:Key),V.bl true):=by
    rw[d6j _ vn,List.map_append];rfl
   have h60:6000<=sizeLine:=by decide
   refine⟨fi,_,rfl,DPut.k (k:=.inl (n:Int)) hR4.done (by rw[List.length_map];show S.fin.length<_;lia),?_⟩
   refine e0q (by assumption) ?_
   show e1l _ _ _ _ (upd H4 fi (.dK (c7n (S.fin.map λn=>((.inl n:Key),V.bl true)) (.inl (n:Int)) (.bl true))));rw[pk];have hR5:=hR4.setF (l:=S.fin++[(n:Int)]);generalize upd H4 fi (.dK ((S.fin++[(n:Int)]).map λn=>(.inl n,V.bl true)))=H5 at *;obtain⟨dx5,ex5⟩:=hR5.ob;obtain⟨dxk,ek⟩:=hR5.lk.all.ob;have es5:=hR5.sum;fail "";refine a3d es5 (v:=.int (a2n S o)) ?_ ?_
   ·show atI ((S.sm.set (a1s o) (a2n S o)).map V.int) (o.getD 0 0 % 4)=_
    rw[d5i h04.1,List.getElem?_map];show((S.sm.set (a1s o) (a2n S o))[a1s o]?).map V.int=_;rw[List.getElem?_set_self l4];rfl
   fail "";refine⟨(show 2<=sizeLine by decide),λd hd=>?_⟩
   fail "";have hR6:=hR5.more (o:=.lst [.int n,.int (a2n S o)]) hd;have ed:upd H5 d (.lst [.int n,.int (a2n S o)]) d=some (.lst ([(n:Int),a2n S o].map V.int)):=b8;have nd5:∀{x:Addr}{u:HO},H5 x=some u->x≠d:=λe z=>by rw[z,hd] at e;cases e
   have nFd:¬ F d:=λz=>by obtain⟨u,e,_⟩:=hR5.lo.dom d z;exact nd5 e rfl
   have nb:hl≠d/\su≠d/\fi≠d:=⟨nd5 ex5,nd5 es5,nd5 hR5.done⟩;obtain⟨_,_,_,_,_,_,_,okM⟩:=hR.lk.all.lr;have n2:=okM.core.n2;show frS (a4o cl) [V.ref lb,V.ref d] (upd H5 d (.lst [.int n,.int (a2n S o)])) _ _;generalize upd H5 d (.lst [.int n,.int (a2n S o)])=H6 at *;refine⟨rs (λx=>G x\/x=d) H6,a5k _ H6,lb,B,S.M,S.tm,d,[(n:Int),a2n S o],rfl,hR6.lk.ln.same (c7l λ_ z=>.inl z),a4f ed (λ_ z=>nomatch z) (.inl (.inr rfl)),Nat.succ_le_succ (Nat.zero_le _),n2,h2,λH' ln kp ot=>?_⟩;fail "";refine k n hi.1 (by rw[List.getElem?_eq_getElem hj,en]) _ ⟨la,lb,su,fi,F,c0k H',A,B,?_⟩
   have hR7:=hR6.backG (F1:=λx=>G x\/x=d) (λx z g=>z.elim (λz=>hR6.dj x g z) λz=>nFd (z ▸ g)) ⟨λz=>z.elim hR6.nG.1 nb.1,λz=>z.elim hR6.nG.2.1 nb.2.1,λz=>z.elim hR6.nG.2.2 nb.2.2⟩ ot ln hR6.lk.nf;have eo':S.L.bk.getD n []=o:=by rw[List.getD_eq_getElem?_getD,List.getElem?_eq_getElem hn,ho];rfl
   unfold doH;rw[eo'];exact hR7
  ·rw[decide_eq_false hi]
   refine (if_pos rfl).mpr ?_;fail "";exact⟨l8,kb ↑5 _ s1⟩
theorem MakeT.frame{x:Str}{C:Addr}{k:Nat}{ps:List Str}{sp:Sp}(M:MakeT P w K mg base x C k ps sp):MakeT P w K mg base x C k ps (frS sp):=by
 obtain⟨f,fd,F,a,b,c⟩:=M.ex;exact⟨f,fd,F.frame,a,b,c⟩
theorem c3c{H:Hp}{x dx:Addr}{u o:HO}(hx:H x=none)(hd:H dx=none)(ne:dx≠x):Same H (upd (upd H dx u) x o):=λb v e=>by
 rw[d6 (g6 e hx),d6 (g6 e hd)];exact e
def d3n(n m:Nat):HSt:=⟨a0b n,[],a0b m,[],[0,0,0,0],[]⟩
def b6e(cl:Cl):Sp:=λvs H Q _=>∃(x dx:Addr)(n m:Nat),vs=[.ref x,.int n,.int m]/\H x=some (.ins cl.Hall dx [])/\2<=n/\n<=8/\2<=m/\m<=8/\∀H',HR cl H' x (d3n n m)->Q .non H'
abbrev b2g:Stmt:=j4 (top 115) 0
theorem c4n:d9 ["self","out_size","back_size"] ["self","out_size","back_size"] (d7 b2g):=↑1
theorem c5u(D:DefM K cl.Hall "__init__" "Hall.__init__" b2g ["self","out_size","back_size"])(T:Txt K mg cl)(G_Lane:MakeT P w K mg base "Lane" cl.Lane 6 ["self","size"] (frS (b6b cl))):MethT P w K mg base cl.Hall "__init__" 8 ["self","out_size","back_size"] (b6e cl):=by
 refine D.fn c4n ↑7 ↑4
 ·walk_at "len"
 ·obtain⟨x,dx,n,m,rfl,ex,n2,n8,m2,m8,k⟩:=h
  refine⟨_,(d5 (j1 (K:=K) (pv 0) (d0x G_Lane hr ↑3 rfl f9 (a7 (pv 1) b7)))
   (d5 (j1 (K:=K) (pv 0) (d0x G_Lane hr ↑3 rfl f9 (a7 (pv 2) b7)))
   (d5 (j1 (K:=K) (pv 0) (m6 d3g (o8 (a7 g3 b7)) (t4 T.m_SHELVES rfl)))
   (d8 (j1 (K:=K) (pv 0) d6o))))),?_⟩
  fail "";intro la dxl hla hdxl ne;have sm:=c3c (u:=.own la) (o:=.ins cl.Lane dxl []) hla hdxl ne;have nxl:x≠la:=λz=>by rw[<- z,ex] at hla;cases hla
  have ex1:=sm _ _ ex;have el1:upd (upd H dxl (.own la)) la (.ins cl.Lane dxl []) la=some (.ins cl.Lane dxl []):=b8;generalize upd (upd H dxl (.own la)) la (.ins cl.Lane dxl [])=H1 at *;refine⟨rs (λy=>y=la) H1,a5k _ H1,la,dxl,n,rfl,a4f el1 (λ_ z=>nomatch z) (.inl rfl),n2,n8,λ_=>False,λ_ z=>z.elim,λA J fo ln kp _ _ ot=>⟨rfl,?_⟩⟩;have lo:=LP.behind ot ln (by rw[fo];exact λ_ z=>z)
  obtain⟨ex2,nf2⟩:=a1g ot ex1 (λ_ z=>nomatch z) rfl nxl;generalize jn J (rs (λy=>y=la) H1) H1=H2 at *;fail "";have lo3:=lo.updX (u:=.ins cl.Hall dx (a3n "out" (.ref la) [])) ex2 rfl (λ_ z=>nomatch z) nf2;have ex3:upd H2 x (.ins cl.Hall dx (a3n "out" (.ref la) [])) x=some (.ins cl.Hall dx (a3n "out" (.ref la) [])):=b8;generalize upd H2 x (.ins cl.Hall dx (a3n "out" (.ref la) []))=H3 at *;intro lb dxb hlb hdxb neb;have smb:=c3c (u:=.own lb) (o:=.ins cl.Lane dxb []) hlb hdxb neb;have nxb:x≠lb:=λz=>by rw[<- z,ex3] at hlb;cases hlb
  have nFb:∀y,y=lb->c0k J y->False:=λy z q=>by
   obtain⟨u,e,_⟩:=lo3.dom y q;rw[z,hlb] at e;cases e
  have lo4:=lo3.sm smb;have ex4:=smb _ _ ex3;have el4:upd (upd H3 dxb (.own lb)) lb (.ins cl.Lane dxb []) lb=some (.ins cl.Lane dxb []):=b8;generalize upd (upd H3 dxb (.own lb)) lb (.ins cl.Lane dxb [])=H4 at *;refine⟨rs (λy=>y=lb) H4,a5k _ H4,lb,dxb,m,rfl,a4f el4 (λ_ z=>nomatch z) (.inl rfl),m2,m8,λ_=>False,λ_ z=>z.elim,λB N fob lnb kpb _ _ otb=>⟨rfl,?_⟩⟩;have lk:=LP.behind otb lnb (by rw[fob];exact λ_ z=>z)
  obtain⟨ex5,nf5⟩:=a1g otb ex4 (λ_ z=>nomatch z) rfl nxb;obtain⟨lo5,dj5⟩:=lo4.rest nFb otb;generalize jn N (rs (λy=>y=lb) H4) H4=H5 at *;fail "";have lo6:=lo5.updX (u:=.ins cl.Hall dx (a3n "back" (.ref lb) (a3n "out" (.ref la) []))) ex5 rfl (λ_ z=>nomatch z) nf2;have lk6:=lk.updX (u:=.ins cl.Hall dx (a3n "back" (.ref lb) (a3n "out" (.ref la) []))) ex5 rfl (λ_ z=>nomatch z) nf5;have ex6:upd H5 x (.ins cl.Hall dx (a3n "back" (.ref lb) (a3n "out" (.ref la) []))) x=some (.ins cl.Hall dx (a3n "back" (.ref lb) (a3n "out" (.ref la) []))):=b8;generalize upd H5 x (.ins cl.Hall dx (a3n "back" (.ref lb) (a3n "out" (.ref la) [])))=H6 at *;refine⟨l8,λz1 hz1=>?_⟩;have s1:Same H6 (upd H6 z1 (.lst [.int 0])):=b3t hz1;have lo7:=lo6.sm s1;have lk7:=lk6.sm s1;have ex7:=s1 _ _ ex6;have e7:upd H6 z1 (.lst [.int 0]) z1=some (.lst [.int 0]):=b8;generalize upd H6 z1 (.lst [.int 0])=H7 at *;fail "";refine⟨z1,4,_,rfl,rfl,e7,by decide,by decide,by decide,λz2 hz2=>?_⟩
  have s2:Same H7 (upd H7 z2 (.lst (List.replicate (Int.toNat 4) [V.int 0]).flatten)):=b3t hz2;have lo8:=lo7.sm s2;have lk8:=lk7.sm s2;have ex8:=s2 _ _ ex7;have e8:upd H7 z2 (.lst (List.replicate (Int.toNat 4) [V.int 0]).flatten) z2=some (.lst ([0,0,0,0].map V.int)):=b8;have n82:∀y,(c0k J y\/c0k N y)->y≠z2:=λy q z=>by
   rcases q with q|q
   ·obtain⟨u,e,_⟩:=lo7.dom y q
    rw[z,hz2] at e;cases e
   ·obtain⟨u,e,_⟩:=lk7.dom y q
    rw[z,hz2] at e;cases e
  generalize upd H7 z2 (.lst (List.replicate (Int.toNat 4) [V.int 0]).flatten)=H8 at *;fail "";have n2x:z2≠x:=b9w e8 ex8 λz=>nomatch z;have lo9:=lo8.updX (u:=.ins cl.Hall dx (a3n "sums" (.ref z2) (a3n "back" (.ref lb) (a3n "out" (.ref la) [])))) ex8 rfl (λ_ z=>nomatch z) nf2;have lk9:=lk8.updX (u:=.ins cl.Hall dx (a3n "sums" (.ref z2) (a3n "back" (.ref lb) (a3n "out" (.ref la) [])))) ex8 rfl (λ_ z=>nomatch z) nf5;have ex9:upd H8 x (.ins cl.Hall dx (a3n "sums" (.ref z2) (a3n "back" (.ref lb) (a3n "out" (.ref la) [])))) x=some (.ins cl.Hall dx (a3n "sums" (.ref z2) (a3n "back" (.ref lb) (a3n "out" (.ref la) [])))):=b8;have e9:upd H8 x (.ins cl.Hall dx (a3n "sums" (.ref z2) (a3n "back" (.ref lb) (a3n "out" (.ref la) [])))) z2=some (.lst ([0,0,0,0].map V.int)):=(d6 n2x).trans e8;generalize upd H8 x (.ins cl.Hall dx (a3n "sums" (.ref z2) (a3n "back" (.ref lb) (a3n "out" (.ref la) []))))=H9 at *;intro z3 hz3;have s3:Same H9 (upd H9 z3 (.dK [])):=b3t hz3;have lo10:=lo9.sm s3;have lk10:=lk9.sm s3;have ex10:=s3 _ _ ex9;have e10:=s3 _ _ e9;have d10:upd H9 z3 (.dK []) z3=some (.dK []):=b8;have n103:∀y,(c0k J y\/c0k N y)->y≠z3:=λy q z=>by
   rcases q with q|q
   ·obtain⟨u,e,_⟩:=lo9.dom y q
    rw[z,hz3] at e;cases e
   ·obtain⟨u,e,_⟩:=lk9.dom y q
    rw[z,hz3] at e;cases e
  generalize upd H9 z3 (.dK [])=H10 at *;fail "";have n3x:z3≠x:=b9w d10 ex10 λz=>nomatch z;refine k _ ⟨la,lb,z2,z3,c0k J,c0k N,A,B,⟨dx,b8⟩,(d6 n2x).trans e10,rfl,(d6 n3x).trans d10,lo10.updX ex10 rfl (λ_ z=>nomatch z) nf2,lk10.updX ex10 rfl (λ_ z=>nomatch z) nf5,λy a b=>dj5 y b a,⟨nf2,λz=>n82 z2 (.inl z) rfl,λz=>n103 z3 (.inl z) rfl⟩,⟨nf5,λz=>n82 z2 (.inr z) rfl,λz=>n103 z3 (.inr z) rfl⟩⟩
theorem FnOk.frameOr{k:Nat}{f:Addr}{fd:FuncData}{ps:List Str}{sp:Sp}(F:FnOk P w K mg base (CXK P w) k f fd ps sp):FnOk P w K mg base (CXK P w) k f fd ps (λvs H Q E=>frS sp vs H Q E\/sp vs H Q E) :=
 ⟨λvs H Q E h=>h.elim (F.frame.len vs H Q E) (F.len vs H Q E),λA outer s H args us vs Q E hr he hb hv hs=>hs.elim (F.frame.run A outer s H args us vs Q E hr he hb hv) (F.run A outer s H args us vs Q E hr he hb hv)⟩
theorem MethT.frameOr{C:Addr}{m:Str}{k:Nat}{ps:List Str}{sp:Sp}(M:MethT P w K mg base C m k ps sp):MethT P w K mg base C m k ps (λvs H Q E=>frS sp vs H Q E\/sp vs H Q E):=by
 obtain⟨f,fd,F,a,b⟩:=M.ex;exact⟨f,fd,FnOk.frameOr F,a,b⟩
def a8b(cl:Cl):Sp:=λvs H Q E=>∃(n:Int)(a:Addr)(o:List Int),vs=[.int n,.ref a]/\H a=some (.lst (o.map V.int))/\(1<=(o.length:Int)/\(o.length:Int)<=n->∀p,H p=none->Q (.ref p) (upd H p (.lst (o.map V.int))))/\(¬ (1<=(o.length:Int)/\(o.length:Int)<=n)->E (.ref cl.BadOrder) none H)
theorem c5a(D:DefT K mg "order_of" b4w ["size","order"])(T:Txt K mg cl):FnT P w K mg base "order_of" 1 ["size","order"] (a8b cl):=by
 refine D.fn c6z ↑7 ↑4
 ·walk_at "len"
 ·obtain⟨n,a,o,rfl,ea,k,kb⟩:=h
  refine⟨_,(d5 (a0q (PW.pt (c4r (k7 c1y (l7 (n5 (K:=K)) (by rfl) T.z_len PySem.boot_len (a7 (pv 1) b7)) g3 (m9 _)) (b6h (k7 c7p (l7 (n5 (K:=K)) (by rfl) T.z_len PySem.boot_len (a7 (pv 1) b7)) (pv 0) (m9 _)))))
     (d8 (a0p T.c_BadOrder rfl rfl a9i (a7 g7 b7)))
     r0)
   (d8 (g4 (a6n (b0j (K:=K)) (by rfl) T.z_list PyProof.Rows.boot_list (a7 (pv 1) b7))))),?_⟩
  fail "";rw[List.length_map];refine a6b (λy=>?_) (λy1=>?_)
  ·fail ""
   exact⟨l8,kb ↑5⟩
  fail "";rw[List.length_map];refine a6b (λy=>?_) (λy2=>?_)
  ·fail ""
   exact⟨l8,kb ↑5⟩
  fail "";exact k ↑5
def b3f(cl:Cl):Sp:=λvs H Q E=>∃(A:Ad)(L:Ln)(tl:List Tr)(a:Addr)(o:List Int),vs=[.ref A.gv,.ref a]/\LR cl H A L tl/\H a=some (.lst (o.map V.int))/\L.os.length<=400/\(1<=o.length/\o.length<=L.n->∀H',LR cl H' A (a1m L o) tl->KpA A H H'->Q (.int L.os.length) H')/\(¬ (1<=o.length/\o.length<=L.n)->E (.ref cl.BadOrder) none H)
theorem c2w(D:DefM K cl.Giver "add" "Giver.add" b2k ["self","order"])(T:Txt K mg cl)(G_order_of:FnT P w K mg base "order_of" 1 ["size","order"] (a8b cl)):MethT P w K mg base cl.Giver "add" 2 ["self","order"] (b3f cl):=by
 refine D.fn c4p ↑7 ↑4
 ·walk_at "len"
 ·obtain⟨A,L,tl,a,o,rfl,⟨ps,Gq,Tq,lt,hL,hg,ht,ok⟩,ea,os4,k,kb⟩:=h
  refine⟨_,(d5 (i8 (a3b (K:=K) ↑6 (a7 (g9 G_order_of hr ↑3 rfl f9 (a7 (v5 (K:=K) ↑6) (a7 (pv 1) b7))) b7)))
   (d8 (g4 (m6 b3v (l7 (n5 (K:=K)) (by rfl) T.z_len PySem.boot_len (a7 ↑6 b7)) g3)))),?_⟩
  have h60:6000<=sizeLine:=by decide
  obtain⟨dx,ex⟩:=hL.gv;obtain⟨qs,ek,hl,_⟩:=id hL.kept;obtain⟨many,last,hB,hLast⟩:=hL.brd;obtain⟨⟨dxb,eb⟩,_⟩:=id hB;fail "";refine⟨_,a,o,rfl,ea,λhz p hp=>?_,λhz=>kb ↑5⟩;have o1:1<=o.length:=by lia
  have o2:o.length<=L.n:=by lia
  have nk:A.kg≠p:=λz=>by rw[<- z,ek] at hp;cases hp
  have ng:A.gv≠p:=λz=>by rw[<- z,ex] at hp;cases hp
  have ngk:A.gv≠A.kg:=hL.nd 2 5 ↑5 ↑5 ↑5;have hlm:(qs.map V.ref).length=L.os.length:=by rw[List.length_map,hl]
  fail "";rw[List.length_append,hlm];have z1:=(hL.same (f8 (o:=.lst (o.map V.int)) hp)).setKg (u:=.lst (qs.map V.ref++[.ref p])) (hL.kept.push ek ⟨5,by lia,rfl⟩ hp (hL.off hp)) (λx hx xs z=>by
   rw[b8] at z;cases z;obtain⟨⟨_,a⟩,_,_,_,e,_⟩:=hL.fo x hx;intro q;rcases List.mem_append.mp q with q|q
   ·exact e _ ek q
   ·exact g6 a hp (V.ref.inj (List.mem_singleton.mp q)))
  have q:=k ⟨o1,o2⟩ _ ⟨ps,Gq,Tq,lt,z1,hg.add ok,ht.add ok,c8p ok ⟨o1,o2⟩⟩ ((KpA.of (f8 hp)).trans (KpA.upd (j:=5) ↑5));rw[show((L.os.length+[V.ref p].length:Nat):Int)-1=(L.os.length:Int) by show((L.os.length+1:Nat):Int)-1=_;lia]
  exact q
def a1k(cl:Cl):Sp:=λvs H Q E=>ExN λla A L tl=>∃(a:Addr)(o:List Int),vs=[.ref la,.ref a]/\LN cl H la A L tl/\H a=some (.lst (o.map V.int))/\L.os.length<=400/\(1<=o.length/\o.length<=L.n->∀H',LN cl H' la A (a1m L o) tl->KpL la A H H'->Q (.int L.os.length) H')/\(¬ (1<=o.length/\o.length<=L.n)->E (.ref cl.BadOrder) none H)
theorem b6q(D:DefM K cl.Lane "hand_in" "Lane.hand_in" a5w ["self","order"])(T:Txt K mg cl)(GA:MethT P w K mg base cl.Giver "add" 2 ["self","order"] (b3f cl)):MethT P w K mg base cl.Lane "hand_in" 3 ["self","order"] (a1k cl):=by
 refine D.fn b7j ↑7 ↑4
 ·walk_at "len"
 ·obtain⟨la,A,L,tl,a,o,rfl,hN,ea,os4,k,kb⟩:=h
  refine⟨_,(d8 (g4 (c4u (k:=2) ↑6 hr ↑3 f9 (a7 (pv 1) b7)))),?_⟩;obtain⟨dx,ex⟩:=hN.ob;obtain⟨_,_,_,_,hL,_⟩:=id hN.lr;obtain⟨dxg,eg⟩:=hL.gv;fail "f";refine⟨A.gv,cl.Giver,dxg,_,_,_,rfl,eg,rfl,T.k_Giver,GA,?_⟩;fail "";refine⟨A,L,tl,a,o,rfl,hN.lr,ea,os4,λhz H' z1 z2=>?_,kb⟩;exact k hz H' ⟨z1,⟨dx,z2 _ _ ex hN.off⟩,hN.off,hN.nfo⟩ (λx o e _ n=>z2 x o e n)
theorem FnOk.weak{k:Nat}{f:Addr}{fd:FuncData}{ps:List Str}{sp sp':Sp}(F:FnOk P w K mg base (CXK P w) k f fd ps sp)(h:∀vs H Q E,sp' vs H Q E->sp vs H Q E):FnOk P w K mg base (CXK P w) k f fd ps sp' :=
 ⟨λvs H Q E z=>F.len vs H Q E (h _ _ _ _ z),λA outer s H args us vs Q E hr he hb hv hs=>F.run A outer s H args us vs Q E hr he hb hv (h _ _ _ _ hs)⟩
theorem c6t{k:Nat}(M:FnT P w K mg base "order_of" k ["size","order"] (a8b cl)):FnT P w K mg base "order_of" k ["size","order"] (b7d cl):=by
 obtain⟨f,fd,F,a,b⟩:=M.ex;refine⟨f,fd,FnOk.weak F ?_,a,b⟩;rintro vs H Q E ⟨n,a,o,e,h,h1,h2,k⟩;exact⟨n,a,o,e,h,λ_=>k,λz=>absurd ⟨h1,h2⟩ z⟩
theorem b7c{k:Nat}(M:MethT P w K mg base cl.Lane "hand_in" k ["self","order"] (a1k cl)):MethT P w K mg base cl.Lane "hand_in" k ["self","order"] (a4o cl):=by
 obtain⟨f,fd,F,a,b⟩:=M.ex;refine⟨f,fd,FnOk.weak F ?_,a,b⟩;rintro vs H Q E ⟨la,A,L,tl,a,o,e,n,h,h1,h2,h4,k⟩;exact⟨la,A,L,tl,a,o,e,n,h,h4,λ_=>k,λz=>absurd ⟨h1,h2⟩ z⟩
def b6g(cl:Cl):Sp:=λvs H Q E=>∃(hl a:Addr)(S:HSt)(o:List Int)(H0:Hp),vs=[.ref hl,.ref a]/\HR cl H0 hl S/\Same H0 H/\H0 a=none/\H a=some (.lst (o.map V.int))/\S.L.os.length<=400 /\
 (1<=o.length/\o.length<=S.L.n->∀H',HR cl H' hl (S.put true (a1m S.L o) S.tl)->Q (.int S.L.os.length) H')/\(¬ (1<=o.length/\o.length<=S.L.n)->E (.ref cl.BadOrder) none H)
theorem c5x(D:DefM K cl.Hall "ask" "Hall.ask" b5g ["self","order"])(T:Txt K mg cl)(G_Lane_hand_in:MethT P w K mg base cl.Lane "hand_in" 3 ["self","order"] (λvs H Q E=>frS (a1k cl) vs H Q E\/a1k cl vs H Q E)):MethT P w K mg base cl.Hall "ask" 4 ["self","order"] (b6g cl):=by
 refine D.fn c7f ↑7 ↑4
 ·walk_at "len"
 ·obtain⟨hl,a,S,o,H0,rfl,⟨la,lb,su,fi,F,G,A,B,hR0⟩,s0,a0,ea,h4,k,kb⟩:=h
  have hR:=hR0.sm s0;obtain⟨dx,ex⟩:=hR.ob;obtain⟨dxl,el⟩:=hR.lo.all.ob;have nfa:∀{x:Addr}{u:HO},H0 x=some u->x≠a:=λe z=>by rw[z,a0] at e;cases e
  have nG:¬ G a:=λz=>by obtain⟨u,e,_⟩:=hR0.lk.dom a z;exact nfa e rfl
  obtain⟨dx0,ex0⟩:=hR0.ob;have nla:hl≠a/\su≠a/\fi≠a:=⟨nfa ex0,nfa hR0.sum,nfa hR0.done⟩;refine⟨_,(d8 (g4 (a1e ↑6 T.k_Lane G_Lane_hand_in hr ↑3 f9 (a7 (pv 1) b7)))),?_⟩;fail "";by_cases hz:1<=o.length/\o.length<=S.L.n
  ·refine .inl ⟨rs (λx=>F x\/x=a) H,a5k _ H,la,A,S.L,S.tl,a,o,rfl,hR.lo.ln.same (c7l λ_ z=>.inl z),a4f ea (λ_ z=>nomatch z) (.inl (.inr rfl)),h4,λ_ H' ln kp ot=>?_,λz=>absurd hz z⟩
   refine k hz _ ⟨la,lb,su,fi,_,G,A,B,hR.outG (F1:=λx=>F x\/x=a) (λx z g=>z.elim (λz=>hR.dj x z g) λz=>nG (z ▸ g)) ⟨?_,?_,?_⟩ ot ln hR.lo.nf⟩
   ·exact λz=>z.elim hR.nF.1 nla.1
   ·exact λz=>z.elim hR.nF.2.1 nla.2.1
   ·exact λz=>z.elim hR.nF.2.2 nla.2.2
  ·exact .inr ⟨la,A,S.L,S.tl,a,o,rfl,hR.lo.all,ea,h4,λz=>absurd z hz,λ_=>kb hz⟩
def TRw(H:Hp)(p:Addr)(os:List (List Int)):Prop:=∃ps:List Addr,H p=some (.lst (ps.map V.ref))/\ps.length=os.length/\∀(i:Nat)(q:Addr)(o:List Int),ps[i]?=some q->os[i]?=some o->H q=some (.tup (o.map V.int))
theorem TP.rw{H H':Hp}{os:List (List Int)}{p:Addr}{acc:List V}(h:TP H os p os.length acc H'):TRw H' p os:=by
 obtain⟨e,_,ps,rfl,l,r⟩:=h;exact⟨ps,e,l,λi q o a b=>(r i q o a b).2.2⟩
theorem TRw.sm{H H':Hp}{os:List (List Int)}{p:Addr}(h:TRw H p os)(s:Same H H'):TRw H' p os:=by
 obtain⟨ps,e,l,r⟩:=h;exact⟨ps,s _ _ e,l,λi q o a b=>s _ _ (r i q o a b)⟩
def e1u(S:HSt):List V:=[.str (b0l (c6x true S.L)),.str (b0l (c6x false S.L)),.str (b0l (c6x true S.M)),.str (b0l (c6x false S.M))]
structure HSn(H':Hp)(S:HSt)(t st so wa d to he sh oc bc:Addr):Prop where
 t:H' t=some (.tup [.ref st,.ref so,.ref oc,.ref bc,.bl (b8c S)])
 st:H' st=some (.lst (e1u S))
 so:H' so=some (.lst [.ref wa,.ref d,.ref to,.ref he,.ref sh])
 wa:H' wa=some (.lst ((a3h S).map V.int))
 d:H' d=some (.lst (S.fin.map V.int))
 to:TRw H' to S.M.os
 he:TRw H' he S.M.bk
 sh:H' sh=some (.lst (S.sm.map V.int))
 oc:H' oc=some (.lst ((c1t S.L.n S.L.c).map V.int))
 bc:H' bc=some (.lst ((c1t S.M.n S.M.c).map V.int))
structure HFr(H:Hp)(t st so wa d to he sh oc bc:Addr):Prop where
 t:H t=none
 st:H st=none
 so:H so=none
 wa:H wa=none
 d:H d=none
 to:H to=none
 he:H he=none
 sh:H sh=none
 oc:H oc=none
 bc:H bc=none
def c0b(cl:Cl):Sp:=λvs H Q _=>∃(hl:Addr)(S:HSt),vs=[.ref hl]/\HR cl H hl S/\S.L.os.length<=1000/\S.M.os.length<=1000/\∀t st so wa d to he sh oc bc H',Same H H'->HFr H t st so wa d to he sh oc bc->HSn H' S t st so wa d to he sh oc bc->Q (.ref t) H'
abbrev b7p:Stmt:=top 122
theorem b4r:d9 ["hall","stages","some"] ["hall"] (d7 b7p):=↑1
theorem d1c(D:DefT K mg "_law_all" b7p ["hall"])(T:Txt K mg cl)(GS:MethT P w K mg base cl.Hall "stage" 4 ["self","hand"] (a7e cl))(G_Hall_waiting:MethT P w K mg base cl.Hall "waiting" 4 ["self"] (a0e cl))(G_Hall_done:MethT P w K mg base cl.Hall "done" 1 ["self"] (λvs H Q _=>∃(hl:Addr) (S:HSt),vs=[.ref hl]/\HR cl H hl S/\∀p,H p=none->Q (.ref p) (upd H p (.lst (S.fin.map V.int)))))(G_Hall_told:MethT P w K mg base cl.Hall "told" 4 ["self"] (a5f cl true))(G_Hall_heard:MethT P w K mg base cl.Hall "heard" 4 ["self"] (a5f cl false))(G_Hall_shelves:MethT P w K mg base cl.Hall "shelves" 1 ["self"] (λvs H Q _=>∃(hl:Addr) (S:HSt),vs=[.ref hl]/\HR cl H hl S/\∀p,H p=none->Q (.ref p) (upd H p (.lst (S.sm.map V.int)))))(G_Hall_out_cells:MethT P w K mg base cl.Hall "out_cells" 3 ["self"] (a4e cl true))(G_Hall_back_cells:MethT P w K mg base cl.Hall "back_cells" 3 ["self"] (a4e cl false))(GQ:MethT P w K mg base cl.Hall "quiet" 9 ["self"] (b3d cl)):FnT P w K mg base "_law_all" 10 ["hall"] (c0b cl):=by
 refine D.fn b4r ↑7 ↑4
 ·walk_at "len"
 ·obtain⟨hl,S,rfl,hR,h1,h2,k⟩:=h
  refine⟨_,(d5 (d0u (ix:=1) (N:=["name","hall"]) (nt:=1) (fr:=[0]) rfl (c3k (i:=0) rfl rfl (by decide +kernel) (by decide +kernel) rfl rfl rfl rfl rfl rfl rfl) (a5l (K:=K) (o8 (a7 g7 (a7 g7 (a7 g7 (a7 g7 b7)))))) (a9p ↑3) (λ_ _ _ _ _=>v6 (i:=0) (show(["name","hall"]:List Str).Nodup by decide +kernel) rfl (Or.inl rfl) (Or.inr rfl)) (λ_ _ _ _ _=>(a1e (pv 1) T.k_Hall GS hr ↑3 d6p (a7 (pv 0) b7))) b4r.nd rfl rfl)
   (d5 (j9 (i:=2) b4r.nd rfl (.inl rfl) (o8 (a7 (a2k (pv 0) T.k_Hall G_Hall_waiting hr ↑3 f9) (a7 (a2k (pv 0) T.k_Hall G_Hall_done hr ↑3 f9) (a7 (a2k (pv 0) T.k_Hall G_Hall_told hr ↑3 f9) (a7 (a2k (pv 0) T.k_Hall G_Hall_heard hr ↑3 f9) (a7 (a2k (pv 0) T.k_Hall G_Hall_shelves hr ↑3 f9) b7)))))))
   (d8 (g4 (a4x (a7 (pv 1) (a7 (pv 2) (a7 (a2k (pv 0) T.k_Hall G_Hall_out_cells hr ↑3 f9) (a7 (a2k (pv 0) T.k_Hall G_Hall_back_cells hr ↑3 f9) (a7 (a2k (pv 0) T.k_Hall GQ hr ↑3 f9) b7)))))))))),?_⟩
  fail "";have h60:6000<=sizeLine:=by decide
  obtain⟨la,lb,su,fi,F,G,A,B,hr0⟩:=id hR;obtain⟨dx,ex⟩:=hr0.ob;refine⟨(show 4<=sizeLine by decide),λp hp=>⟨p,rfl,⟨_,SqL.of b8⟩,?_⟩⟩
  generalize zH1:upd H p _=H1;obtain⟨sm1,ep⟩:=nwS zH1 hp;refine b0i (xs:=[.str "asker",.str "doer",.str "teller",.str "hearer"]) (show 4<sizeLine by decide) (λD i acc H'=>H' D=some (.lst acc)/\Same H1 H'/\acc=(e1u S).take i/\acc.length=i) (λD hD=>⟨b8,f8 hD,rfl,rfl⟩) ?_ ?_ ?_
  ·rintro D i acc H' ⟨e,s',rfl,hl'⟩
   exact⟨e,hl',SqL.of (s' _ _ ep)⟩
  ·rintro D i x acc H' hD hx ⟨e',s',rfl,hl'⟩
   have ex':=s' _ _ (sm1 _ _ ex);have hi:i<4:=(List.getElem?_eq_some_iff.mp hx).1;obtain⟨o,b,nm,rfl,hz,hs⟩:∃(o b:Bool)(nm:Str),x=.str nm/\HHn o b nm/\(e1u S).take i++[.str (b0l (c6x b (S.lane o)))]=(e1u S).take (i+1):=by
    rcases (show i=0\/i=1\/i=2\/i=3 by lia) with rfl|rfl|rfl|rfl
    ·cases hx;exact⟨true,true,_,rfl,.inl ⟨rfl,rfl,rfl⟩,rfl⟩
    ·cases hx;exact⟨true,false,_,rfl,.inr (.inl ⟨rfl,rfl,rfl⟩),rfl⟩
    ·cases hx;exact⟨false,true,_,rfl,.inr (.inr (.inl ⟨rfl,rfl,rfl⟩)),rfl⟩
    ·cases hx;exact⟨false,false,_,rfl,.inr (.inr (.inr ⟨rfl,rfl,rfl⟩)),rfl⟩
   fail "";refine⟨hl,S,nm,rfl,hR.sm (λx u e=>s' _ _ (sm1 _ _ e)),λo' b' hz' H2 s2=>?_,λz=>absurd hz (z _ _)⟩;obtain⟨rfl,rfl⟩:=hz.uq hz';refine⟨s2 _ _ e',b8,λx u eu=>?_,hs,by rw[List.length_append,hl'];rfl⟩
   rw[d6 (g6 eu hD)];exact s2 _ _ (s' _ _ eu)
  ·rintro D acc H' hD ⟨e',s',rfl,hl'⟩
   have sm2:Same H H':=λx u e=>s' _ _ (sm1 _ _ e);have ex2:=sm2 _ _ ex;fail "";refine⟨hl,S,rfl,hR.sm sm2,h1,λwa H3 hwa s3 ewa=>?_⟩;have sm3:Same H H3:=λx u e=>s3 _ _ (sm2 _ _ e);have ex3:=sm3 _ _ ex;fail "";refine⟨hl,S,rfl,hR.sm sm3,λd hd=>?_⟩;generalize zH4:upd H3 d _=H4;obtain⟨s4,ed⟩:=nwS zH4 hd;have sm4:Same H H4:=λx u e=>s4 _ _ (sm3 _ _ e);have ex4:=sm4 _ _ ex;fail "";refine⟨hl,S,rfl,hR.sm sm4,h2,λto acc5 G5 H5 s5a hto tp5=>?_⟩;have s5:Same H4 H5:=λx u e=>tp5.2.1 _ _ (s5a _ _ e);have tw:=tp5.rw;have sm5:Same H H5:=λx u e=>s5 _ _ (sm4 _ _ e);have ex5:=sm5 _ _ ex;fail "";refine⟨hl,S,rfl,hR.sm sm5,h2,λhe acc6 G6 H6 s6a hhe tp6=>?_⟩;have s6:Same H5 H6:=λx u e=>tp6.2.1 _ _ (s6a _ _ e);have hw:=tp6.rw;have sm6:Same H H6:=λx u e=>s6 _ _ (sm5 _ _ e);have ex6:=sm6 _ _ ex;fail "";refine⟨hl,S,rfl,hR.sm sm6,λsh hsh=>?_⟩;generalize zH7:upd H6 sh _=H7;obtain⟨s7,esh⟩:=nwS zH7 hsh;have sm7:Same H H7:=λx u e=>s7 _ _ (sm6 _ _ e);have ex7:=sm7 _ _ ex;fail "";refine⟨(show 5<=sizeLine by decide),λso hso=>?_⟩
   generalize zH8:upd H7 so _=H8;obtain⟨s8,eso⟩:=nwS zH8 hso;have sm8:Same H H8:=λx u e=>s8 _ _ (sm7 _ _ e);have ex8:=sm8 _ _ ex;fail "";refine⟨hl,S,rfl,hR.sm sm8,λoc hoc=>?_⟩;generalize zH9:upd H8 oc _=H9;obtain⟨s9,eoc⟩:=nwS zH9 hoc;have sm9:Same H H9:=λx u e=>s9 _ _ (sm8 _ _ e);have ex9:=sm9 _ _ ex;fail "";refine⟨hl,S,rfl,hR.sm sm9,λbc hbc=>?_⟩;generalize zH10:upd H9 bc _=H10;obtain⟨s10,ebc⟩:=nwS zH10 hbc;have sm10:Same H H10:=λx u e=>s10 _ _ (sm9 _ _ e);have ex10:=sm10 _ _ ex;fail "";refine⟨hl,S,rfl,hR.sm sm10,h1,λH11 s11=>?_⟩;have sm11:Same H H11:=λx u e=>s11 _ _ (sm10 _ _ e);fail "";refine⟨(show 5<=sizeLine by decide),λtt htt=>?_⟩
   have s12:Same H11 (upd H11 tt (.tup [.ref D,.ref so,.ref oc,.ref bc,.bl (b8c S)])):=b3t htt;have c10:Same H10 (upd H11 tt (.tup [.ref D,.ref so,.ref oc,.ref bc,.bl (b8c S)])):=λx u e=>s12 _ _ (s11 _ _ e);have c9:Same H9 _:=λx u e=>c10 _ _ (s10 _ _ e);have c8:Same H8 _:=λx u e=>c9 _ _ (s9 _ _ e);have c7:Same H7 _:=λx u e=>c8 _ _ (s8 _ _ e);have c6:Same H6 _:=λx u e=>c7 _ _ (s7 _ _ e);have c5:Same H5 _:=λx u e=>c6 _ _ (s6 _ _ e);have c4:Same H4 _:=λx u e=>c5 _ _ (s5 _ _ e);have c3:Same H3 _:=λx u e=>c4 _ _ (s4 _ _ e);have c2:Same H' _:=λx u e=>c3 _ _ (s3 _ _ e);have nn:∀{Hn:Hp}{y:Addr},Same H Hn->Hn y=none->H y=none:=λs z=>o9 s z;exact k tt D so wa d to he sh oc bc _ (λx u e=>s12 _ _ (sm11 _ _ e)) ⟨nn sm11 htt,nn sm1 hD,nn sm7 hso,nn sm2 hwa,nn sm3 hd,nn (λx u e=>s5a _ _ (sm4 _ _ e)) hto,nn (λx u e=>s6a _ _ (sm5 _ _ e)) hhe,nn sm6 hsh,nn sm8 hoc,nn sm9 hbc⟩ ⟨b8,c2 _ _ e',c8 _ _ eso,c3 _ _ ewa,c4 _ _ ed,tw.sm c5,hw.sm c6,c7 _ _ esh,c9 _ _ eoc,c10 _ _ ebc⟩
end
section
variable{K:Frag}
theorem c3i{H:Hp}{n:Nat}{p q:Addr}{xs ys:List V}(ne:p≠q)(hp:H p=some (.lst xs))(hq:H q=some (.lst ys))(hl:xs.length=ys.length)(h:∀(j:Nat) (x y:V),xs[j]?=some x->ys[j]?=some y->EqD K H n x y true):EqD K H (n+1) (.ref p) (.ref q) true:=by
 have z:=EqD.lst (K:=K) (e:=λ_=>true) ne (SqL.of hp) (SqL.of hq) hl h;rw[show(List.range xs.length).all (λ_=>true)=true by simp] at z
 exact z
theorem c3h{H:Hp}{n:Nat}{x:V}(f:a4h x=true)(e:eqV x x=true):EqD K H n x x true:=by
 have z:=EqD.flat (K:=K) (H:=H) (n:=n) f f;rw[e] at z;exact z
theorem c6i{H:Hp}{n:Nat}{p q:Addr}{xs:List V}(ne:p≠q)(hp:H p=some (.lst xs))(hq:H q=some (.lst xs))(h:∀x∈xs,a4h x=true/\eqV x x=true):EqD K H (n+1) (.ref p) (.ref q) true :=
 c3i ne hp hq rfl λj x y hx hy=>by
  rw[hx] at hy;cases hy;have:=h x (List.mem_of_getElem? hx);exact c3h this.1 this.2
theorem b4l{H:Hp}{n:Nat}{p q:Addr}{ns:List Int}(ne:p≠q)(hp:H p=some (.lst (ns.map V.int)))(hq:H q=some (.lst (ns.map V.int))):EqD K H (n+1) (.ref p) (.ref q) true :=
 c6i ne hp hq λx hx=>by
  obtain⟨i,_,rfl⟩:=List.mem_map.mp hx;exact⟨rfl,by simp[eqV]⟩
theorem d7q{H:Hp}{n:Nat}{p q:Addr}{ns:List Int}(hp:H p=some (.tup (ns.map V.int)))(hq:H q=some (.tup (ns.map V.int))):EqD K H (n+1) (.ref p) (.ref q) true:=by
 by_cases ne:p=q
 ·rw[ne];exact EqD.self (SqT.of hq)
 ·have h:=EqD.tup (K:=K) (n:=n) (e:=λ_=>true) ne (SqT.of hp) (SqT.of hq) (λj x y hx hy=>?_)
  ·rw[Nat.min_self] at h
   rw[show((List.range (ns.map V.int).length).all (λ_=>true) && (ns.map V.int).length == (ns.map V.int).length)=true by simp] at h
   exact h
  ·rw[hx] at hy
   cases hy;obtain⟨i,_,rfl⟩:=List.mem_map.mp (List.mem_of_getElem? hx);exact c3h rfl (by simp[eqV])
theorem d4o{H:Hp}{n:Nat}{p q:Addr}{os:List (List Int)}(ne:p≠q)(x:TRw H p os)(y:TRw H q os):EqD K H (n+2) (.ref p) (.ref q) true:=by
 obtain⟨ps,e,l,r⟩:=x;obtain⟨qs,e',l',r'⟩:=y;refine c3i ne e e' (by rw[List.length_map,List.length_map,l,l']) λj u v hu hv=>?_
 rw[List.getElem?_map] at hu hv;cases eu:ps[j]? with
 | none=>rw[eu] at hu;cases hu
 | some a=>
  cases ev:qs[j]? with
  | none=>rw[ev] at hv;cases hv
  | some b=>
   rw[eu] at hu;rw[ev] at hv;cases hu;cases hv;have hj:j<os.length:=by rw[<- l];exact(List.getElem?_eq_some_iff.mp eu).1
   exact d7q (r j a _ eu (List.getElem?_eq_getElem hj)) (r' j b _ ev (List.getElem?_eq_getElem hj))
theorem HSn.sm{H H':Hp}{S:HSt}{t st so wa d to he sh oc bc:Addr}(x:HSn H S t st so wa d to he sh oc bc)(s:Same H H'):HSn H' S t st so wa d to he sh oc bc :=
 ⟨s _ _ x.t,s _ _ x.st,s _ _ x.so,s _ _ x.wa,s _ _ x.d,x.to.sm s,x.he.sm s,s _ _ x.sh,s _ _ x.oc,s _ _ x.bc⟩
theorem e2z{H1 H2 H:Hp}{S:HSt}{t st so wa d to he sh oc bc t' st' so' wa' d' to' he' sh' oc' bc':Addr}(x:HSn H1 S t st so wa d to he sh oc bc)(m:Same H1 H2)(f:HFr H2 t' st' so' wa' d' to' he' sh' oc' bc')(s:Same H2 H)(y:HSn H S t' st' so' wa' d' to' he' sh' oc' bc'):EqD K H 4 (.ref t') (.ref t) true:=by
 have x2:=x.sm m;have x3:=x2.sm s;have nn:∀{p q:Addr}{o:HO},H2 p=none->H2 q=some o->p≠q:=λhp hq z=>by rw[z,hq] at hp;cases hp
 obtain⟨pt,et,_⟩:=x2.to;obtain⟨ph,eh,_⟩:=x2.he;have h:=EqD.tup (K:=K) (n:=3) (e:=λ_=>true) (nn f.t x2.t) (SqT.of y.t) (SqT.of x3.t) (λj a b ha hb=>?_)
 ·exact h
 ·match j,ha,hb with
  | 0,ha,hb=>
   cases ha;cases hb;refine c6i (nn f.st x2.st) y.st x3.st λz hz=>?_;unfold e1u at hz;simp only[List.mem_cons,List.not_mem_nil,or_false] at hz;rcases hz with rfl|rfl|rfl|rfl <;> exact⟨rfl,by simp[eqV]⟩
  | 1,ha,hb=>
   cases ha;cases hb;refine c3i (nn f.so x2.so) y.so x3.so rfl λj a b ha hb=>?_
   match j,ha,hb with
   | 0,ha,hb=>cases ha;cases hb;exact b4l (nn f.wa x2.wa) y.wa x3.wa
   | 1,ha,hb=>cases ha;cases hb;exact b4l (nn f.d x2.d) y.d x3.d
   | 2,ha,hb=>cases ha;cases hb;exact d4o (nn f.to et) y.to x3.to
   | 3,ha,hb=>cases ha;cases hb;exact d4o (nn f.he eh) y.he x3.he
   | 4,ha,hb=>cases ha;cases hb;exact b4l (nn f.sh x2.sh) y.sh x3.sh
  | 2,ha,hb=>cases ha;cases hb;exact b4l (nn f.oc x2.oc) y.oc x3.oc
  | 3,ha,hb=>cases ha;cases hb;exact b4l (nn f.bc x2.bc) y.bc x3.bc
  | 4,ha,hb=>cases ha;cases hb;exact c3h rfl (by simp[eqV])
end
end
section
open PySem PySem.Spec L2
section
variable{P:Program}{w:World}{K:Frag}{mg:Str->Option Value}{base:Heap}{cl:Cl}
def c0a:Sp:=λvs H Q _=>∃w,vs=[.ref w]/\Well H w/\∀r H',1<=r->r<2 ^ 200->Well H' w->But w H H'->Q (.int r) H'
abbrev b7o:Stmt:=top 119
theorem d0l:d9 ["well"] ["well"] (d7 b7o):=↑1
theorem d8t:(0:Int)<10 ^ 58/\(10:Int) ^ 58<2 ^ 200-1:=by decide
theorem d1b(D:DefT K mg "_law_far" b7o ["well"])(T:Txt K mg cl)(G_law_take:FnT P w K mg base "_law_take" 1 ["well","many"] a4m):FnT P w K mg base "_law_far" 2 ["well"] c0a:=by
 refine D.fn d0l ↑7 ↑10
 ·walk_at "len"
 ·obtain⟨w,rfl,hw,k⟩:=h
  refine⟨_,(d8 (g4 (u9 (i4 (K:=K)) (o8 (a7 (m6 a0w g3 (g9 G_law_take hr ↑3 rfl f9 (a7 (pv 0) (a7 g3 b7)))) (a7 (m6 a0w g3 (g9 G_law_take hr ↑3 rfl f9 (a7 (pv 0) (a7 (m6 c9j g3 g3) b7)))) b7))) (g9 G_law_take hr ↑3 rfl f9 (a7 (pv 0) (a7 g3 b7))) (λ_ _=>rfl)))),?_⟩;refine⟨_,rfl,w,3,rfl,hw,by decide,by decide,λr1 H1 a1 b1 w1 s1=>?_⟩
  refine⟨_,_,rfl,rfl,_,rfl,_,_,rfl,rfl,⟨by decide,by decide,by decide⟩,w,_,rfl,w1,d8t.1,Int.lt_trans d8t.2 ↑3,λr2 H2 a2 b2 w2 s2=>?_⟩
  refine⟨_,_,rfl,rfl,(by show 2<=sizeLine;decide),λp hp=>?_⟩
  have np:w≠p:=by obtain⟨o,e⟩:=w2.at;exact g6 e hp
  refine⟨_,rfl,w,2,rfl,w2.same (f8 hp),by decide,by decide,λr3 H3 a3 b3 w3 s3=>?_⟩
  have e3:H3 p=_:=s3 p _ b8 np.symm;have b58:=d8t.2;have b2:r2<10 ^ 58:=b2;have bt:But w H H3:=(s1.trans s2).trans ((But.of (f8 hp)).trans s3);have:r3=0\/r3=1:=by lia
  rcases this with rfl|rfl
  ·exact⟨p,_,0,_,rfl,rfl,SqL.of e3,rfl,k _ _ ↑5 ↑5 w3 bt⟩
  ·exact⟨p,_,1,_,rfl,rfl,SqL.of e3,rfl,k _ _ ↑5 ↑5 w3 bt⟩
end
end
section
open PySem PySem.Spec L2 Pr
section
variable{cl:Cl}
structure HP(cl:Cl)(H:Hp)(X:Addr->Prop)(hl:Addr)(S:HSt):Prop where
 hr:HR cl (rs X H) hl S
 dom:∀x,X x->c0k H x
theorem d2p{X:Addr->Prop}{H H':Hp}(h:∀x o,H x=some o->(X x\/b6t (some o)=true \/ ∃a,o=.own a)->H' x=some o):Same (rs X H) (rs X H'):=λx o e=>by
 have eH:=b0p e;by_cases n:∃a,o=.own a
 ·obtain⟨a,rfl⟩:=n
  by_cases hc:X a\/b6t (H a)=true
  ·refine c7k (h _ _ eH (.inr (.inr ⟨a,rfl⟩))) (hc.imp id λz=>?_)
   cases q:H a with
   | none=>rw[q] at z;cases z
   | some u=>rw[h a u q (.inr (.inl (q ▸ z)))];exact q ▸ z
  ·rw[d2q eH hc] at e;cases e
 ·have n:∀a,o≠.own a:=λa z=>n ⟨a,z⟩
  by_cases hc:X x\/b6t (H x)=true
  ·have e':=h x o eH (hc.imp id λz=>.inl (by rw[eH] at z;exact z))
   exact a4f e' n (hc.imp id λz=>by rw[e',<- eH];exact z)
  ·rw[a7r eH n hc] at e;cases e
theorem LP.cut{H1 H:Hp}{F X:Addr->Prop}{la:Addr}{A:Ad}{L:Ln}{tl:List Tr}(h:LP cl H1 F la A L tl)(s:Same H1 H)(hX:∀x,F x->X x):LP cl (rs X H) F la A L tl:=by
 refine⟨(h.ln.ow h.nf).same λx o e=>?_,λx hx=>?_,h.nf⟩
 ·have e1:=c1w e
  have e2:=b0p e1.1;have n:=b4j e1.2;have hc:F x\/b6t (some o)=true:=by
   by_cases hx:F x
   ·exact .inl hx
   ·right
    cases q:b6t (some o) with
    | true=>rfl
    | false=>
     have:=a7r (F:=F) e2 n (by rw[e2,q];exact λz=>z.elim hx (λq=>by cases q))
     rw[this] at e1;cases e1.1
  have e3:=a4f (F:=X) (s _ _ e2) n (hc.imp (hX x) λz=>by rw[s _ _ e2];exact z)
  exact a4f e3 n (hc.imp id λz=>by rw[e3];exact z)
 ·obtain⟨o,e,z1,z2⟩:=h.dom x hx
  exact⟨o,a4f (s _ _ e) z2 (.inl (hX x hx)),z1,z2⟩
theorem HP.of{H1 H:Hp}{hl:Addr}{S:HSt}(h:HR cl H1 hl S)(s:Same H1 H):∃X,(∀x,X x->c0k H1 x)/\HP cl H X hl S:=by
 obtain⟨la,lb,su,fi,F,G,A,B,⟨dx,e⟩,e2,e3,e4,lo,lk,dj,nF,nG⟩:=h;have ft:∀x,(F x\/G x\/x=hl\/x=su\/x=fi)->c0k H1 x:=λx hx=>by
  rcases hx with z|z|rfl|rfl|rfl
  ·exact lo.dom x z
  ·exact lk.dom x z
  ·exact⟨_,e,rfl,λ_ z=>nomatch z⟩
  ·exact⟨_,e2,rfl,λ_ z=>nomatch z⟩
  ·exact⟨_,e4,rfl,λ_ z=>nomatch z⟩
 refine⟨λx=>F x\/G x\/x=hl\/x=su\/x=fi,ft,⟨la,lb,su,fi,F,G,A,B,⟨dx,a4f (s _ _ e) (λ_ z=>nomatch z) (.inl (by simp))⟩,a4f (s _ _ e2) (λ_ z=>nomatch z) (.inl (by simp)),e3,a4f (s _ _ e4) (λ_ z=>nomatch z) (.inl (by simp)),lo.cut s λ_ z=>.inl z,lk.cut s λ_ z=>.inr (.inl z),dj,nF,nG⟩,λx hx=>?_⟩
 obtain⟨o,q,z⟩:=ft x hx;exact⟨o,s _ _ q,z⟩
theorem HP.all{H:Hp}{X:Addr->Prop}{hl:Addr}{S:HSt}(h:HP cl H X hl S):HR cl H hl S:=h.hr.sm λ_ _ e=>b0p e
theorem HP.same{H H':Hp}{X:Addr->Prop}{hl:Addr}{S:HSt}(h:HP cl H X hl S)(s:Same H H'):HP cl H' X hl S :=
 ⟨h.hr.sm (d2p λx o e _=>s _ _ e),λx hx=>by obtain⟨o,q,z⟩:=h.dom x hx;exact⟨o,s _ _ q,z⟩⟩
theorem HP.but{H H':Hp}{X:Addr->Prop}{hl wl:Addr}{S:HSt}{xs:List V}(h:HP cl H X hl S)(e:H wl=some (.lst xs))(n:¬ X wl)(b:But wl H H'):HP cl H' X hl S:=by
 refine⟨h.hr.sm (d2p λx o q hc=>b _ _ q λz=>?_),λx hx=>?_⟩
 ·rw[z,e] at q
  cases q;rcases hc with hc|hc|⟨_,hc⟩
  ·exact n (z ▸ hc)
  ·cases hc
  ·cases hc
 ·obtain⟨o,q,z⟩:=h.dom x hx
  exact⟨o,b _ _ q (λy=>n (y ▸ hx)),z⟩
theorem HP.no{H:Hp}{X:Addr->Prop}{hl x:Addr}{S:HSt}(h:HP cl H X hl S)(e:H x=none):¬ X x:=λz=>by
 obtain⟨o,q,_⟩:=h.dom x z;rw[e] at q;cases q
def nt:HO->Bool
 | .own _=>false
 | .tbl _=>false
 | _=>true
def KX(X:Addr->Prop)(H:Hp)(X':Addr->Prop)(H':Hp):Prop:=∀x o,H x=some o->nt o=true->¬ X x->H' x=some o/\¬ X' x
theorem HP.call{H H1':Hp}{X:Addr->Prop}{hl:Addr}{S':HSt}(ot:Out H1' (rs X H) H)(r:HR cl H1' hl S'):∃X',HP cl (jn H1' (rs X H) H) X' hl S'/\KX X H X' (jn H1' (rs X H) H):=by
 obtain⟨X',d,h⟩:=HP.of r (H:=jn H1' (rs X H) H) λx o e=>a3c e;refine⟨X',h,λx o e n nx=>?_⟩;have fx:∀q,H1' x=some q->b6t (some q)=true->¬ X' x:=λq e1 z hx=>by
  obtain⟨u,e2,z2,_⟩:=d x hx;rw[e1] at e2;cases e2;rw[z] at z2;cases z2
 have ft:b6t (some o)=false->(∀a,o≠.own a)->jn H1' (rs X H) H x=some o/\¬ X' x:=λz1 z2=>by
  obtain⟨a,b⟩:=a1g ot e z2 z1 nx;exact⟨a,λz=>b (d x z)⟩
 cases o with
 | tup xs=>exact⟨a3c (ot.tup _ _ e),fx _ (ot.tup _ _ e) rfl⟩
 | frz a b=>exact⟨a3c (ot.frz _ _ _ e),fx _ (ot.frz _ _ _ e) rfl⟩
 | own a=>cases n
 | tbl ps=>cases n
 | _=>exact ft rfl (λ_ z=>nomatch z)
theorem KX.same{X X1:Addr->Prop}{H H0 H1:Hp}(s:Same H0 H)(a:KX X H X1 H1):KX X H0 X1 H1:=λx o e=>a x o (s _ _ e)
theorem KX.then{X X1:Addr->Prop}{H H2 H1:Hp}(a:KX X H X1 H1)(s:Same H1 H2):KX X H X1 H2:=λx o e n z=>⟨s _ _ (a x o e n z).1,(a x o e n z).2⟩
theorem KX.less{X Y X1:Addr->Prop}{H H1:Hp}(h:∀x,X x->Y x)(a:KX X H X1 H1):KX Y H X1 H1:=λx o e n z=>a x o e n λq=>z (h x q)
end
section
variable{P:Program}{w:World}{K:Frag}{mg:Str->Option Value}{base:Heap}{cl:Cl}
theorem d3y(x y:Int):decide (V.int x=V.int y)=decide (x=y):=by
 rw[decide_eq_decide];exact⟨V.int.inj,λz=>by rw[z]⟩
theorem c8i{c:Prop}[Decidable c]{A B:Prop}(h:c)(q:A):if decide c=true then A else B:=a6b (λ_=>q) λz=>absurd h z
theorem a7q{c:Prop}[Decidable c]{A B:Prop}(h:¬ c)(q:B):if decide c=true then A else B:=a6b (λz=>absurd z h) λ_=>q
theorem e3b{c:Addr}{i:Nat}{tb:(St->XK)->TS}{th:TS}{nx bk ct:St->Hp->Prop}{rt:V->Hp->Prop}{σ:St}{H:Hp}(Pre:St->Addr->Hp->Prop)(hh:∀σ1 C H',Pre σ1 C H'->exmOne K (.ref C) (.ref c)=some true/\∀a,H' a=none->th ⟨λσ H=>nx (σ.set i none) H,rt,λσ H=>bk (σ.set i none) H,λσ H=>ct (σ.set i none) H⟩ (σ1.set i (some (.ref a))) (upd H' a (c9x a (.ref C))))(hb:∀J:St->XK,(∀σ1 C m H',Pre σ1 C H'->J σ1 (.ref C) m H')->tb J ⟨nx,rt,bk,ct⟩ σ H):d2h K c i tb th ⟨nx,rt,bk,ct⟩ σ H :=
 d4g ((λz=>hb _ z) λσ1 C m H' q=>hh σ1 C H' q)
abbrev frO(sp:Sp):Sp:=λvs H Q E=>frS sp vs H Q E\/sp vs H Q E
structure Kd(K:Frag)(cl:Cl)(C:Addr)(b1 b2 b3:Bool):Prop where
 k:ExK K C
 x:exmOne K (.ref C) (.ref cl.RingError)=some true
 n:kitOne K (.ref C) (.ref cl.NoHand)=some b1
 w:kitOne K (.ref C) (.ref cl.NoWaiting)=some b2
 o:kitOne K (.ref C) (.ref cl.BadOrder)=some b3
 v:kitOne K (.ref C) (.type "ValueError")=some true
 s3:PySem.W.kitAny K (.ref C) [.ref cl.BadStand,.ref cl.NoName,.ref cl.TooMany]=some false
 s7:PySem.W.kitAny K (.ref C) [.ref cl.BadCells,.ref cl.BadMark,.ref cl.BadSize,.ref cl.Crooked,.ref cl.NoCell,.ref cl.NoRow,.ref cl.NoText]=some false
 s2:PySem.W.kitAny K (.ref C) [.ref cl.NotSound,.ref cl.NoTurn]=some false
structure HBd(S:HSt):Prop where
 l:S.L.os.length<=400
 m:S.M.os.length<=400
 f:S.fin.length<=1000
 tl:S.tl.length<=4000000
 tm:S.tm.length<=4000000
theorem SdN.uq{b b':Bool}{h:Str}(z:SdN b h)(z':SdN b' h):b=b':=by
 rcases z with ⟨rfl,rfl⟩|⟨rfl,rfl⟩ <;> rcases z' with ⟨rfl,e⟩|⟨rfl,e⟩ <;> first|rfl|exact absurd e ↑3
inductive e1b(H:Hp)(X:Addr->Prop)(S:HSt):Int->V->Bool->Bool->Bool->Prop
 | step {h:Str}:(∀o b,¬ HHn o b h)->e1b H X S 0 (.str h) true false false
 | stage {h:Str}:(∀o b,¬ HHn o b h)->e1b H X S 1 (.str h) true false false
 | fall {h:Str}:(∀b,¬ SdN b h)->e1b H X S 2 (.str h) true false false
 | dos {i:Int}:(i<0\/((a3h S).length:Int)<=i)->e1b H X S 3 (.int i) false true false
 | ask {a:Addr} {o:List Int}:H a=some (.lst (o.map V.int))->¬ X a->¬ (1<=o.length/\o.length<=S.L.n)->e1b H X S 4 (.ref a) false false true
inductive e4g(H:Hp)(X:Addr->Prop)(S:HSt):Int->V->V->HSt->Prop
 | step {h:Str} {o b:Bool}:HHn o b h->e4g H X S 0 (.str h) (.bl (!a7w b (S.lane o))) (S.put o (b0m b (S.lane o)) (trB b (S.lane o) (S.trl o)))
 | fall {h:Str} {b:Bool}:SdN b h->e4g H X S 2 (.str h) .non (d7p b S)
 | dos {i:Int} {n:Nat}:0<=i->(a3h S)[i.toNat]?=some (n:Int)->e4g H X S 3 (.int i) (.int n) (doH S n)
 | ask {a:Addr} {o:List Int}:H a=some (.lst (o.map V.int))->¬ X a->(1<=o.length/\o.length<=S.L.n)->e4g H X S 4 (.ref a) (.int S.L.os.length) (S.put true (a1m S.L o) S.tl)
def a8e(cl:Cl):Sp:=λvs H Q _=>∃(hl:Addr)(y:Int)(v:V)(X:Addr->Prop)(S:HSt),vs=[.ref hl,.int y,v]/\HP cl H X hl S/\HBd S /\
 ((∃b1 b2 b3,e1b H X S y v b1 b2 b3/\∀t k H',H t=none->H k=none->Same H H'->H' t=some (.tup [.ref k,.non])->H' k=some (.lst ([b1,b2,b3,true,false].map V.bl))->Q (.ref t) H') \/
 (∃x S',e4g H X S y v x S'/\∀t k H' X',HP cl H' X' hl S'->KX (λz=>X z\/v=.ref z) H X' H'->H k=none->H' t=some (.tup [.ref k,x])->H' k=some (.lst [])->Q (.ref t) H'))
abbrev b1t:Stmt:=top 121
theorem p9:d9 ["hall","way","thing","kinds","told","e","some"] ["hall","way","thing"] (d7 b1t):=↑1
theorem c5h(D:DefT K mg "_law_asked" b1t ["hall","way","thing"])(T:Txt K mg cl)(d1:Kd K cl cl.NoHand true false false)(d2:Kd K cl cl.NoWaiting false true false)(d3:Kd K cl cl.BadOrder false false true)(G_Hall_step:MethT P w K mg base cl.Hall "step" 11 ["self","hand"] (frO (b6d cl)))(G_Hall_stage:MethT P w K mg base cl.Hall "stage" 4 ["self","hand"] (a7e cl))(G_Hall_fall:MethT P w K mg base cl.Hall "fall" 7 ["self","side"] (frO (b6f cl)))(G_Hall_do:MethT P w K mg base cl.Hall "do" 5 ["self","place"] (frO (c0c cl)))(G_Hall_ask:MethT P w K mg base cl.Hall "ask" 4 ["self","order"] (frO (b6g cl))):FnT P w K mg base "_law_asked" 12 ["hall","way","thing"] (a8e cl):=by
 refine D.fn p9 ↑7 ↑4
 ·walk_at "len"
 ·obtain⟨hl,y,v,X,S,rfl,hP,hB,h⟩:=h
  refine'⟨_,(d5 (j9 (i:=3) p9.nd rfl (.inl rfl) (o8 b7))
   (d5 (j9 (i:=4) p9.nd rfl (.inl rfl) c0e)
   (d5 (d6l (i:=5) rfl rfl rfl rfl T.c_RingError.m p9.nd rfl rfl ?tb ?th)
   (d8 (g4 (a4x (a7 (pv 3) (a7 (pv 4) b7)))))))),?rd⟩
  case tb=>
        exact λ_ _ _ hx=>(d8 (a0q (k7 a6a (pv 1) g3 (m9 _))
      (d8 (j9 (i:=4) p9.nd rfl (.inl rfl) (c4v (pv 0) T.k_Hall G_Hall_step hr ↑3 hx (a7 (pv 2) b7))))
      (d8 (a0q (k7 a6a (pv 1) g3 (m9 _))
        (d8 (j9 (i:=4) p9.nd rfl (.inl rfl) (c4v (pv 0) T.k_Hall G_Hall_stage hr ↑3 hx (a7 (pv 2) b7))))
        (d8 (a0q (k7 a6a (pv 1) g3 (m9 _))
         (d8 (j9 (i:=4) p9.nd rfl (.inl rfl) (c4v (pv 0) T.k_Hall G_Hall_fall hr ↑3 hx (a7 (pv 2) b7))))
         (d8 (a0q (k7 a6a (pv 1) g3 (m9 _))
           (d8 (j9 (i:=4) p9.nd rfl (.inl rfl) (c4v (pv 0) T.k_Hall G_Hall_do hr ↑3 hx (a7 (pv 2) b7))))
           (d8 (j9 (i:=4) p9.nd rfl (.inl rfl) (c4v (pv 0) T.k_Hall G_Hall_ask hr ↑3 hx (a7 (pv 2) b7))))))))))))
  case th=>exact λ_ _=>(d5 (j9 (i:=3) p9.nd rfl (.inl rfl) (o8 (a7 (l7 (a9s (K:=K)) (by rfl) T.z_isinstance PyProof.Rows.boot_isinstance (a7 (pv 5) (a7 (a9k T.c_NoHand rfl) b7))) (a7 (l7 (a9s (K:=K)) (by rfl) T.z_isinstance PyProof.Rows.boot_isinstance (a7 (pv 5) (a7 (a9k T.c_NoWaiting rfl) b7))) (a7 (l7 (a9s (K:=K)) (by rfl) T.z_isinstance PyProof.Rows.boot_isinstance (a7 (pv 5) (a7 (a9k T.c_BadOrder rfl) b7))) (a7 (l7 (a9s (K:=K)) (by rfl) T.z_isinstance PyProof.Rows.boot_isinstance (a7 (pv 5) (a7 (d8c T.z_ValueError e0x rfl) b7))) b7))))))
     (d5 (j9 (i:=6) p9.nd rfl (.inl rfl) (l7 (b5t (K:=K)) (by rfl) T.z_isinstance PyProof.Rows.boot_isinstance (a7 (pv 5) (a7 (a4x (a7 (b2l T.c_BadStand rfl) (a7 (b2l T.c_NoName rfl) (a7 (b2l T.c_TooMany rfl) b7)))) b7))))
     (d5 (j9 (i:=6) p9.nd rfl (.inl rfl) (d0w (pv 6) (a7t (l7 (b5t (K:=K)) (by rfl) T.z_isinstance PyProof.Rows.boot_isinstance (a7 (pv 5) (a7 (a4x (a7 (b2l T.c_BadCells rfl) (a7 (a9k T.c_BadMark rfl) (a7 (a9k T.c_BadSize rfl) (a7 (a9k T.c_Crooked rfl) (a7 (a9k T.c_NoCell rfl) (a7 (b2l T.c_NoRow rfl) (a7 (b2l T.c_NoText rfl) b7)))))))) b7))))))
     (d8 (i8 (a3b (K:=K) (pv 3) (a7 (d0w (pv 6) (a7t (l7 (b5t (K:=K)) (by rfl) T.z_isinstance PyProof.Rows.boot_isinstance (a7 (pv 5) (a7 (a4x (a7 (b2l T.c_NotSound rfl) (a7 (a9k T.c_NoTurn rfl) b7))) b7))))) b7)))))))
  fail "";refine⟨Nat.zero_le _,λk0 hk0=>?_⟩;have s0:=f8 (o:=.lst []) hk0;have P0:=hP.same s0;have e0:upd H k0 (.lst []) k0=some (.lst []):=b8;have nk:=hP.no hk0;generalize upd H k0 (.lst [])=H0 at *;obtain⟨dx,la,lb,su,fi,ex⟩:∃dx la lb su fi,H0 hl=some (d4c cl dx la lb su fi):=by
   obtain⟨la,lb,su,fi,F,G,A,B,h⟩:=P0.all;obtain⟨dx,ex⟩:=h.ob;exact⟨dx,la,lb,su,fi,ex⟩
  have h45:∀o,(S.lane o).os.length<=400/\(S.trl o).length<=4000000:=λo=>by
   cases o
   ·exact⟨hB.m,hB.tm⟩
   ·exact⟨hB.l,hB.tl⟩
  iterate 8 (walk_at "go1")
  rcases h with ⟨b1,b2,b3,hb,k⟩|⟨x,S',hg,k⟩
  ·refine e3b (λσ1 C H'=>σ1=[some (.ref hl),some (.int y),some v,some (.ref k0),some .non,none,none]/\Kd K cl C b1 b2 b3/\Same H0 H') (λσ1 C H'=>?_) (λJ hJ=>?_)
   ·rintro⟨rfl,kd,s1⟩
    refine⟨kd.x,λe he=>?_⟩;fail "";refine d4i (.exc b8 kd.k) rfl kd.n ?_;fail "";refine d4i (.exc b8 kd.k) rfl kd.w ?_;fail "";refine d4i (.exc b8 kd.k) rfl kd.o ?_;fail "";refine d4i (.exc b8 kd.k) rfl kd.v ?_;fail "";generalize u2:upd H' e _=H2;obtain⟨s2,ee⟩:=nwS u2 he;have s2:=(s0.trans s1).trans s2;refine⟨by show 4<=sizeLine;decide,λq hq=>?_⟩
    have hq0:=s2.free hq;generalize u3:upd H2 q _=H3;obtain⟨s3,eq3⟩:=nwS u3 hq;have e3:=s3 _ _ ee;fail "";refine⟨by show 3<=sizeLine;decide,λt3 ht3=>?_⟩
    generalize u4:upd H3 t3 _=H4;obtain⟨s4,et4⟩:=nwS u4 ht3;have e4:=s4 _ _ e3;have eq4:=s4 _ _ eq3;fail "";refine d4h e4 kd.k et4 rfl kd.s3 ?_;fail "";refine⟨by show 7<=sizeLine;decide,λt7 ht7=>?_⟩
    generalize u5:upd H4 t7 _=H5;obtain⟨s5,et5⟩:=nwS u5 ht7;have e5:=s5 _ _ e4;have eq5:=s5 _ _ eq4;fail "";refine d4h e5 kd.k et5 rfl kd.s7 ?_;fail "";refine⟨by show 2<=sizeLine;decide,λt2 ht2=>?_⟩
    generalize u6:upd H5 t2 _=H6;obtain⟨s6,et6⟩:=nwS u6 ht2;have e6:=s6 _ _ e5;have eq6:=s6 _ _ eq5;fail "";refine d4h e6 kd.k et6 rfl kd.s2 ?_;fail "";refine⟨by show 2<=sizeLine;decide,λt ht=>?_⟩
    have s7:=((((s2.trans s3).trans s4).trans s5).trans s6).set (o:=.lst ([b1,b2,b3,true,false].map V.bl)) hq0;exact k t q _ (s7.free ht) hq0 (s7.trans (f8 ht)) b8 (f8 ht _ _ b8)
   ·cases hb with
    | step nb=>
     fail "";refine c8i (by simp) ?_
     fail "";exact .inr ⟨hl,S,_,rfl,P0.all,h45,λo b z=>absurd z (nb o b),λ_=>hJ _ _ _ _ ⟨rfl,d1,Same.refl _⟩⟩
    | stage nb=>
     fail "";refine a7q (by simp) ?_
     fail "";refine c8i (by simp) ?_
     fail "";exact⟨hl,S,_,rfl,P0.all,λo b z=>absurd z (nb o b),λ_=>hJ _ _ _ _ ⟨rfl,d1,Same.refl _⟩⟩
    | fall nb=>
     fail "";refine a7q (by simp) ?_
     fail "";refine a7q (by simp) ?_
     fail "";refine c8i (by simp) ?_
     fail "";exact .inr ⟨hl,S,_,rfl,P0.all,Nat.le_trans hB.l ↑3,Nat.le_trans hB.m ↑3,λb z=>absurd z (nb b),λ_=>hJ _ _ _ _ ⟨rfl,d1,Same.refl _⟩⟩
    | dos nb=>
     fail "";refine a7q (by simp) ?_
     fail "";refine a7q (by simp) ?_
     fail "";refine a7q (by simp) ?_
     fail "";refine c8i (by simp) ?_
     fail "";refine .inr ⟨hl,S,_,rfl,P0.all,hB.l,hB.m,hB.f,λn i0 z=>?_,λ_ H' s'=>hJ _ _ _ _ ⟨rfl,d2,s'⟩⟩;have:=(List.getElem?_eq_some_iff.mp z).1;lia
    | ask ea nx nb=>
     fail "";refine a7q (by simp) ?_
     fail "";refine a7q (by simp) ?_
     fail "";refine a7q (by simp) ?_
     fail "";refine a7q (by simp) ?_
     fail "";exact .inr ⟨hl,_,S,_,rs X H0,rfl,P0.hr,λ_ _ e=>b0p e,a7r (s0 _ _ ea) (λ_ z=>nomatch z) (by rw[s0 _ _ ea];exact λz=>z.elim nx λq=>nomatch q),s0 _ _ ea,hB.l,λz=>absurd z nb,λ_=>hJ _ _ _ _ ⟨rfl,d3,Same.refl _⟩⟩
  ·have fin:∀(X1:Addr->Prop)(H1':Hp),(∀z,X1 z->X z\/v=.ref z)->¬ X1 k0->Out H1' (rs X1 H0) H0->HR cl H1' hl S'->2<=sizeLine/\∀t,jn H1' (rs X1 H0) H0 t=none->Q (.ref t) (upd (jn H1' (rs X1 H0) H0) t (.tup [.ref k0,x])):=λX1 H1' hX n1 ot r=>by
    obtain⟨X',P1,kx⟩:=HP.call ot r;refine⟨by show 2<=sizeLine;decide,λt ht=>?_⟩
    exact k t k0 _ X' (P1.same (f8 ht)) (((KX.same s0 kx).then (f8 ht)).less hX) hk0 b8 (f8 ht _ _ (kx _ _ e0 rfl n1).1)
   cases hg with
   | step hz=>
    fail "";refine c8i (by simp) ?_
    fail "";refine .inl ⟨rs X H0,a5k X H0,hl,S,_,rfl,P0.hr,h45,λo' b' hz' H1' r ot=>?_,λz=>absurd hz (z _ _)⟩;obtain⟨rfl,rfl⟩:=hz.uq hz';fail "";exact fin X H1' (λ_=>.inl) nk ot r
   | fall hz=>
    fail "";refine a7q (by simp) ?_
    fail "";refine a7q (by simp) ?_
    fail "";refine c8i (by simp) ?_
    fail "";refine .inl ⟨rs X H0,a5k X H0,hl,S,_,rfl,P0.hr,Nat.le_trans hB.l ↑3,Nat.le_trans hB.m ↑3,λb' hz' H1' r ot=>?_,λz=>absurd hz (z _)⟩;have eb:b'=_:=hz'.uq hz;subst eb;fail "";exact fin X H1' (λ_=>.inl) nk ot r
   | dos i0 hz=>
    fail "";refine a7q (by simp) ?_
    fail "";refine a7q (by simp) ?_
    fail "";refine a7q (by simp) ?_
    fail "";refine c8i (by simp) ?_
    fail "";refine .inl ⟨rs X H0,a5k X H0,hl,S,_,rfl,P0.hr,hB.l,hB.m,hB.f,λn' _ hz' H1' r ot=>?_,λz=>?_⟩
    ·rw[hz] at hz'
     have en:=Int.ofNat.inj (Option.some.inj hz');subst en;fail "";exact fin X H1' (λ_=>.inl) nk ot r
    ·have:=(List.getElem?_eq_some_iff.mp hz).1
     lia
   | @ask a o ea nx hz=>
    fail "";refine a7q (by simp) ?_
    fail "";refine a7q (by simp) ?_
    fail "";refine a7q (by simp) ?_
    fail "";refine a7q (by simp) ?_
    fail "";refine .inl ⟨rs (λz=>X z\/z=a) H0,a5k _ H0,hl,a,S,o,rs X H0,rfl,P0.hr,c7l λ_ z=>.inl z,a7r (s0 _ _ ea) (λ_ z=>nomatch z) (by rw[s0 _ _ ea];exact λz=>z.elim nx λq=>nomatch q),a4f (s0 _ _ ea) (λ_ z=>nomatch z) (.inl (.inr rfl)),hB.l,λ_ H1' r ot=>?_,λz=>absurd hz z⟩
    fail "";exact fin _ H1' (λz q=>q.imp id λq=>by rw[q]) (λz=>z.elim nk λz=>by rw[z,ea] at hk0;cases hk0) ot r
theorem nhn{h:Str}(n:h≠"asker"/\h≠"doer"/\h≠"teller"/\h≠"hearer"):∀o b,¬ HHn o b h:=λo b z=>by
 rcases z with ⟨_,_,z⟩|⟨_,_,z⟩|⟨_,_,z⟩|⟨_,_,z⟩
 ·exact n.1 z
 ·exact n.2.1 z
 ·exact n.2.2.1 z
 ·exact n.2.2.2 z
theorem nsd{h:Str}(n:h≠"house"/\h≠"shop"):∀b,¬ SdN b h:=λb z=>z.elim (λz=>n.1 z.2) λz=>n.2 z.2
theorem e7o(k:Nat):(List.replicate k [V.int 1]).flatten=(List.replicate k (1:Int)).map V.int:=by
 induction k with
 | zero=>rfl
 | succ k ih=>rw[List.replicate_succ,List.replicate_succ,List.flatten_cons,ih];rfl
def b0w(cl:Cl):Sp:=λvs H Q _=>∃(hl wl:Addr)(X:Addr->Prop)(S:HSt),vs=[.ref hl,.ref wl,.int S.L.n]/\HP cl H X hl S/\HBd S/\Well H wl/\¬ X wl/\S.L.n<=8/\∀H',Well H' wl->But wl H H'->Q (.bl true) H'
abbrev a7i:Stmt:=top 123
theorem n6:d9 ["hall","well","size","name","side","many","place","order","things","flags","before","way","due"] ["hall","well","size"] (d7 a7i):=↑1
theorem b9l(D:DefT K mg "_law_refused" a7i ["hall","well","size"])(T:Txt K mg cl)(G_law_take:FnT P w K mg base "_law_take" 1 ["well","many"] a4m)(G_law_far:FnT P w K mg base "_law_far" 2 ["well"] c0a)(G_Hall_waiting:MethT P w K mg base cl.Hall "waiting" 4 ["self"] (a0e cl))(G_law_all:FnT P w K mg base "_law_all" 10 ["hall"] (c0b cl))(G_law_asked:FnT P w K mg base "_law_asked" 12 ["hall","way","thing"] (a8e cl)):FnT P w K mg base "_law_refused" 13 ["hall","well","size"] (b0w cl):=by
 refine D.fn n6 ↑7 ↑4
 ·walk_at "len"
 ·obtain⟨hl,wl,X,S,rfl,hP,hB,hw,nX,n8,k⟩:=h
  refine⟨_,(d5 (j9 (i:=3) n6.nd rfl (.inl rfl) (u9 (i4 (K:=K)) (o8 (a7 g7 (a7 g7 (a7 g7 (a7 g7 (a7 g7 (a7 g7 (a7 g7 b7)))))))) (g9 G_law_take hr ↑3 rfl f9 (a7 (pv 1) (a7 g3 b7))) (λ_ _=>rfl)))
   (d5 (j9 (i:=4) n6.nd rfl (.inl rfl) (u9 (i4 (K:=K)) (o8 (a7 g7 (a7 g7 (a7 g7 b7)))) (g9 G_law_take hr ↑3 rfl f9 (a7 (pv 1) (a7 g3 b7))) (λ_ _=>rfl)))
   (d5 (j9 (i:=5) n6.nd rfl (.inl rfl) (l7 (n5 (K:=K)) (by rfl) T.z_len PySem.boot_len (a7 (a2k (pv 0) T.k_Hall G_Hall_waiting hr ↑3 f9) b7)))
   (d5 (j9 (i:=6) n6.nd rfl (.inl rfl) (u9 (i4 (K:=K)) (o8 (a7 (pv 5) (a7 (d9o d2a g3) (a7 (m6 a0w (pv 5) (g9 G_law_far hr ↑3 rfl f9 (a7 (pv 1) b7))) (a7 (m6 b3v g3 (g9 G_law_far hr ↑3 rfl f9 (a7 (pv 1) b7))) b7))))) (g9 G_law_take hr ↑3 rfl f9 (a7 (pv 1) (a7 g3 b7))) (λ_ _=>rfl)))
   (d5 (j9 (i:=7) n6.nd rfl (.inl rfl) (u9 (i4 (K:=K)) (o8 (a7 (o8 b7) (a7 (m6 d3g (o8 (a7 g3 b7)) (m6 a0w (m6 a0w (pv 2) g3) (g9 G_law_take hr ↑3 rfl f9 (a7 (pv 1) (a7 g3 b7))))) b7))) (g9 G_law_take hr ↑3 rfl f9 (a7 (pv 1) (a7 g3 b7))) (λ_ _=>rfl)))
   (d5 (j9 (i:=8) n6.nd rfl (.inl rfl) (o8 (a7 (u9 (i4 (K:=K)) (o8 (a7 (pv 3) (a7 g7 (a7 g7 b7)))) (g9 G_law_take hr ↑3 rfl f9 (a7 (pv 1) (a7 g3 b7))) (λ_ _=>rfl)) (a7 (pv 3) (a7 (u9 (i4 (K:=K)) (o8 (a7 (pv 3) (a7 g7 (a7 g7 b7)))) (g9 G_law_take hr ↑3 rfl f9 (a7 (pv 1) (a7 g3 b7))) (λ_ _=>rfl)) b7)))))
   (d5 (j9 (i:=8) n6.nd rfl (.inl rfl) (m6 c9k (pv 8) (o8 (a7 (pv 6) (a7 (pv 7) b7)))))
   (d5 (j9 (i:=9) n6.nd rfl (by first|exact Or.inl rfl|exact Or.inr rfl) (o8 (a7 g3 (a7 g3 (a7 g3 (a7 g3 (a7 g3 b7)))))))
   (d5 (j9 (i:=10) n6.nd rfl (.inl rfl) (g9 G_law_all hr ↑3 rfl f9 (a7 (pv 0) b7)))
   (d5 (b8d a5n rfl (a6m rfl T.z_range (a7 g3 b7)) (v6 (i:=11) n6.nd rfl (by first|exact Or.inl rfl|exact Or.inr rfl))
     (
     d5 (j9 (i:=12) n6.nd rfl (.inl rfl) (m6 c9k (b5h (N:=["k","way","flags"]) (nt:=1) (fr:=[11,9]) rfl (d7w (i:=11) (j:=9) rfl rfl (by decide +kernel) (by decide +kernel) rfl rfl rfl rfl rfl rfl rfl rfl rfl rfl rfl rfl) (a6m rfl T.z_range (a7 g3 b7)) (a9p ↑3) (λ_ _ _ _ _=>v6 (i:=0) (show(["k","way","flags"]:List Str).Nodup by decide +kernel) rfl (Or.inl rfl) (Or.inr rfl)) (λ_ _ _ _ _=>(a3a a6a (pv 0) (u9 (i4 (K:=K)) (pv 2) (pv 1) (λ_ _=>rfl)) (m9 _)))) (o8 (a7 a6o (a7 a6o b7)))))
     (d8 (a0q (PW.pt (c4r (k7 (b8i (K:=K) (n:=1) (huN hr 2)) (g9 G_law_asked hr ↑3 rfl f9 (a7 (pv 0) (a7 (pv 11) (a7 (u9 (i4 (K:=K)) (pv 8) (pv 11) (λ_ _=>rfl)) b7)))) (a4x (a7 (pv 12) (a7 c0e b7))) (m9 _)) (b6h (k7 (b8i (K:=K) (n:=3) (huN hr 4)) (g9 G_law_all hr ↑3 rfl f9 (a7 (pv 0) b7)) (pv 10) (m9 _)))))
      (d8 (g4 a6o))
      r0))))
   (d8 (g4 (d0w (a3a e2l (pv 4) g7 (m9 _)) (a7t (a3a (e2n (K:=K) (n:=0) (huN hr 1)) (u9 (e0b (K:=K)) (g9 G_law_asked hr ↑3 rfl f9 (a7 (pv 0) (a7 g3 (a7 (pv 4) b7)))) g3 (λ_ _=>rfl)) (o8 (a7 a6o (a7 a6o (a7 a6o (a7 a6o (a7 a6o b7)))))) (m9 _)))))))))))))))),?_⟩
  have h60:6000<=sizeLine:=by decide
  obtain⟨dx,la,lb,su,fi,ob⟩:∃dx la lb su fi,H hl=some (d4c cl dx la lb su fi):=by
   obtain⟨la,lb,su,fi,F,G,A,B,h⟩:=hP.all;obtain⟨dx,ex⟩:=h.ob;exact⟨dx,la,lb,su,fi,ex⟩
  obtain⟨wa,wb,wc,ew,_⟩:=id hw;have nh:hl≠wl:=b9w ob ew λz=>nomatch z;have pc:∀{Hc:Hp},But wl H Hc->HP cl Hc X hl S:=λb=>hP.but ew nX b;have m1:S.L.os.length<=1000:=Nat.le_trans hB.l ↑3;have m2:S.M.os.length<=1000:=Nat.le_trans hB.m ↑3;fail "";refine⟨by show 7<=sizeLine;decide,λp1 hp1=>?_⟩
  fail "";refine⟨wl,7,rfl,hw.same (f8 hp1),by decide,by decide,λr1 H1 a1 c1 w1 b1=>?_⟩
  have B1:=((But.refl wl H).nw hp1).trans b1;obtain⟨nm,hat,hn,hs⟩:∃nm:Str,atI [V.str "",V.str "giver",V.str "taker",V.str "house ",V.str "Asker",V.str "shops",V.str "hand"] r1=some (V.str nm)/\(∀o b,¬ HHn o b nm)/\(∀b,¬ SdN b nm):=by
   have cr:r1=0\/r1=1\/r1=2\/r1=3\/r1=4\/r1=5\/r1=6:=by lia
   rcases cr with rfl|rfl|rfl|rfl|rfl|rfl|rfl <;> exact⟨_,rfl,nhn ↑3,nsd ↑3⟩
  refine a3d (b1 _ _ b8 (hw.ne hp1)) hat ?_;clear b1 hp1 hat a1 c1;fail "";refine⟨by show 3<=sizeLine;decide,λp2 hp2=>?_⟩
  fail "";refine⟨wl,3,rfl,w1.same (f8 hp2),by decide,by decide,λr2 H2 a2 c2 w2 b2=>?_⟩
  have B2:=(B1.nw hp2).trans b2;obtain⟨sd,hat⟩:∃sd:Str,atI [V.str "asker",V.str "house",V.str "teller"] r2=some (V.str sd):=by
   have cr:r2=0\/r2=1\/r2=2:=by lia
   rcases cr with rfl|rfl|rfl <;> exact⟨_,rfl⟩
  refine a3d (b2 _ _ b8 (w1.ne hp2)) hat ?_;clear b2 hp2 hat a2 c2 w1 B1;have ob2:=B2 _ _ ob nh;fail "";refine⟨hl,S,rfl,(pc B2).all,m1,λp3 H3 hp3 s3 e3=>?_⟩;have B3:=B2.trans (But.of s3);have w3:=w2.same s3;fail "";rw[List.length_map];clear s3 e3 hp3 w2 B2 ob2;refine⟨wl,rfl,w3,λr4 H4 a4 _ w4 b4=>?_⟩;fail "";refine⟨wl,rfl,w4,λr5 H5 a5 _ w5 b5=>?_⟩;fail "";have B5:=(B3.trans b4).trans b5;clear b4 b5 w3 w4 B3;refine⟨by show 4<=sizeLine;decide,λp6 hp6=>?_⟩
  fail "";refine⟨wl,4,rfl,w5.same (f8 hp6),by decide,by decide,λr6 H6 a6 c6 w6 b6=>?_⟩
  have B6:=(B5.nw hp6).trans b6;obtain⟨pl,hat,hpl⟩:∃pl:Int,atI [V.int ((a3h S).length:Int),V.int (-1),V.int (((a3h S).length:Int)+r4),V.int (0-r5)] r6=some (V.int pl)/\(pl<0\/((a3h S).length:Int)<=pl):=by
   have cr:r6=0\/r6=1\/r6=2\/r6=3:=by lia
   rcases cr with rfl|rfl|rfl|rfl <;> exact⟨_,rfl,by lia⟩
  refine a3d (b6 _ _ b8 (w5.ne hp6)) hat ?_;clear b6 hp6 hat a6 c6 a4 a5 w5 B5;fail "";refine⟨Nat.zero_le _,λp7 hp7=>?_⟩;have n7:=w6.ne hp7;have z7:=B6.free w6 hp7;generalize u7:upd H6 p7 _=H7;obtain⟨s7,e7⟩:=nwS u7 hp7;have B7:=B6.trans (But.of s7);have w7:=w6.same s7;fail "";refine⟨by show 1<=sizeLine;decide,λp8 hp8=>?_⟩
  have n8':=w7.ne hp8;generalize u8:upd H7 p8 _=H8;obtain⟨s8,e8⟩:=nwS u8 hp8;have B8:=B7.trans (But.of s8);have e78:=s8 _ _ e7;have w8:=w7.same s8;fail "";refine⟨wl,20,rfl,w8,by decide,by decide,λr9 H9 a9 c9 w9 b9=>?_⟩
  have e8:=b9 _ _ e8 n8';have e7:=b9 _ _ e78 n7;have B9:=B8.trans b9;fail "";refine⟨p8,(S.L.n:Int)+1+r9,[.int 1],rfl,rfl,e8,by lia,by lia,by show 1*_<=_;lia,λp10 hp10=>?_⟩
  rw[e7o];have n10:=w9.ne hp10;have z10:=B9.free w9 hp10;generalize u10:upd H9 p10 _=H10;obtain⟨s10,e10⟩:=nwS u10 hp10;have B10:=B9.trans (But.of s10);have e7:=s10 _ _ e7;have w10:=w9.same s10;clear u10 s10 hp10 e8 b9 w9 B9 w8 B8 e78 u8 s8 hp8 u7 s7 hp7 w7 B7 w6 B6 n8';fail "";refine⟨by show 2<=sizeLine;decide,λp11 hp11=>?_⟩
  fail "";refine⟨wl,2,rfl,w10.same (f8 hp11),by decide,by decide,λr11 H11 a11 c11 w11 b11=>?_⟩
  have B11:=(B10.nw hp11).trans b11;obtain⟨oa,o,hat,eo,no,zo,hno⟩:∃(oa:Addr)(o:List Int),atI [V.ref p7,V.ref p10] r11=some (V.ref oa)/\H11 oa=some (.lst (o.map V.int))/\oa≠wl/\H oa=none/\¬ (1<=o.length/\o.length<=S.L.n):=by
   have cr:r11=0\/r11=1:=by lia
   rcases cr with rfl|rfl
   ·exact⟨_,[],rfl,b11 _ _ (f8 hp11 _ _ e7) n7,n7,z7,λz=>absurd z.1 ↑3⟩
   ·exact⟨_,_,rfl,b11 _ _ (f8 hp11 _ _ e10) n10,n10,z10,λz=>by rw[List.length_replicate] at z;lia⟩
  refine a3d (b11 _ _ b8 (w10.ne hp11)) hat ?_;clear b11 hp11 hat a11 c11 w10 B10 e7 e10 n7 n10 a9 c9;fail "";refine⟨by show 3<=sizeLine;decide,λp12 hp12=>?_⟩
  fail "";refine⟨wl,3,rfl,w11.same (f8 hp12),by decide,by decide,λr12 H12 a12 c12 w12 b12=>?_⟩
  have B12:=(B11.nw hp12).trans b12;have eo:=b12 _ _ (f8 hp12 _ _ eo) no;obtain⟨t0,hat,h0⟩:∃t0:Str,atI [V.str nm,V.str "house",V.str "shop"] r12=some (V.str t0)/\(∀o b,¬ HHn o b t0):=by
   have cr:r12=0\/r12=1\/r12=2:=by lia
   rcases cr with rfl|rfl|rfl
   ·exact⟨_,rfl,hn⟩
   ·exact⟨_,rfl,nhn ↑3⟩
   ·exact⟨_,rfl,nhn ↑3⟩
  refine a3d (b12 _ _ b8 (w11.ne hp12)) hat ?_;clear b12 hp12 hat a12 c12 w11 B11;fail "";refine⟨by show 3<=sizeLine;decide,λp13 hp13=>?_⟩
  fail "";refine⟨wl,3,rfl,w12.same (f8 hp13),by decide,by decide,λr13 H13 a13 c13 w13 b13=>?_⟩
  have B13:=(B12.nw hp13).trans b13;have eo:=b13 _ _ (f8 hp13 _ _ eo) no;obtain⟨t2,hat,h2⟩:∃t2:Str,atI [V.str nm,V.str "asker",V.str "doer"] r13=some (V.str t2)/\(∀b,¬ SdN b t2):=by
   have cr:r13=0\/r13=1\/r13=2:=by lia
   rcases cr with rfl|rfl|rfl
   ·exact⟨_,rfl,hs⟩
   ·exact⟨_,rfl,nsd ↑3⟩
   ·exact⟨_,rfl,nsd ↑3⟩
  refine a3d (b13 _ _ b8 (w12.ne hp13)) hat ?_;clear b13 hp13 hat a13 c13 w12 B12;fail "";refine⟨by show 3<=sizeLine;decide,λp14 hp14=>?_⟩
  generalize u14:upd H13 p14 _=H14;obtain⟨s14,e14⟩:=nwS u14 hp14;fail "";refine⟨by show 2<=sizeLine;decide,λp15 hp15=>?_⟩
  generalize u15:upd H14 p15 _=H15;obtain⟨s15,e15⟩:=nwS u15 hp15;have e14:=s15 _ _ e14;fail "";refine d4k e14 e15 (by show 5<=sizeLine;decide) λp16 hp16=>?_
  generalize u16:upd H15 p16 _=H16;obtain⟨s16,e16⟩:=nwS u16 hp16;fail "";refine⟨by show 5<=sizeLine;decide,λp17 hp17=>?_⟩
  generalize u17:upd H16 p17 _=H17;obtain⟨s17,e17⟩:=nwS u17 hp17;have e16:=s17 _ _ e16;have s17:=((s14.trans s15).trans s16).trans s17;clear u14 u15 u16 u17 hp17 hp16 s16 s15 hp15 e15 hp14 e14 s14;have B17:=B13.trans (But.of s17);have w17:=w13.same s17;have eo:=s17 _ _ eo;clear B13 w13 s17;fail "";refine⟨hl,S,rfl,(pc B17).all,m1,m2,λt st so wa d to he sh oc bc H18 s18 f18 x18=>?_⟩;have B18:=B17.trans (But.of s18);have e16:=s18 _ _ e16;have e17:=s18 _ _ e17;have eo:=s18 _ _ eo;have P18:=pc B18;have w18:=w17.same s18;clear B17 w17 s18 f18 pc;fail "";refine b0g (n:=5) (λjj σ H'=>∃(x11 x12:Option V),σ=[some (.ref hl),some (.ref wl),some (.int S.L.n),some (.str nm),some (.str sd),some (.int ((a3h S).length:Int)),some (.int pl),some (.ref oa),some (.ref p16),some (.ref p17),some (.ref t),x11,x12]/\Same H18 H') ⟨_,_,rfl,Same.refl _⟩ ?_ ?_
  ·rintro jj σ Hc hjj ⟨x11,x12,rfl,sc⟩
   have Pc:=P18.same sc;have ec16:=sc _ _ e16;have ec17:=sc _ _ e17;have eco:=sc _ _ eo;have nXo:¬ X oa:=hP.no zo;obtain⟨v,fl,b1,b2,b3,hv,hf,hd,hb⟩:∃(v:V)(fl:Int)(b1 b2 b3:Bool),atI [V.str t0,.str nm,.str t2,.int pl,.ref oa] (0+(jj:Int))=some v/\atI [V.int 0,.int 0,.int 0,.int 1,.int 2] (0+(jj:Int))=some (.int fl)/\(List.range 3).map (λ(k:Nat)=>V.bl (decide ((0:Int)+k=fl)))=[V.bl b1,.bl b2,.bl b3]/\∀Hd,Same Hc Hd->e1b Hd X S (0+(jj:Int)) v b1 b2 b3:=by
    rcases (show jj=0\/jj=1\/jj=2\/jj=3\/jj=4 by lia) with rfl|rfl|rfl|rfl|rfl
    ·exact⟨_,_,_,_,_,rfl,rfl,rfl,λ_ _=>.step h0⟩
    ·exact⟨_,_,_,_,_,rfl,rfl,rfl,λ_ _=>.stage hn⟩
    ·exact⟨_,_,_,_,_,rfl,rfl,rfl,λ_ _=>.fall h2⟩
    ·exact⟨_,_,_,_,_,rfl,rfl,rfl,λ_ _=>.dos hpl⟩
    ·exact⟨_,_,_,_,_,rfl,rfl,rfl,λ_ z=>.ask (z _ _ eco) nXo hno⟩
   fail "";refine c8m (n:=3) ↑5 (f:=λk=>V.bl (decide ((0:Int)+k=fl))) (λj H' kk hj sm q=>?_) (λq hq=>?_)
   ·fail ""
    refine a3d (sm _ _ ec17) hf ?_;fail "";rw[d3y];exact q
   rw[hd];generalize u1:upd Hc q _=Hd;obtain⟨y1,eq1⟩:=nwS u1 hq;fail "";refine⟨by show 2<=sizeLine;decide,λq2 hq2=>?_⟩
   generalize u2:upd Hd q2 _=Hx;obtain⟨y2,eq2⟩:=nwS u2 hq2;refine d4k (y2 _ _ eq1) eq2 (by show 5<=sizeLine;decide) λq3 hq3=>?_
   generalize u3:upd Hx q3 _=He;obtain⟨y3,eq3⟩:=nwS u3 hq3;have y3:=(y1.trans y2).trans y3;fail "";refine a3d (y3 _ _ ec16) hv ?_;fail "";refine⟨hl,_,v,X,S,rfl,Pc.same y3,hB,.inl ⟨b1,b2,b3,hb _ y3,λt2 k2 Hf ht2 hk2 y4 et2 ek2=>?_⟩⟩;fail "";refine⟨by show 2<=sizeLine;decide,λt3 ht3=>?_⟩
   have y5:=f8 (o:=.tup [.ref q3,.non]) ht3;refine c6e (c9y (g6 et2 ht3) (y5 _ _ et2) b8 (a9q (ns:=[b1,b2,b3,true,false]) (Ne.symm (g6 eq3 hk2)) (y5 _ _ ek2) (y5 _ _ (y4 _ _ eq3))) rfl rfl) ?_;have y6:=(y3.trans y4).trans y5;generalize upd Hf t3 (.tup [.ref q3,.non])=Hg at *;clear u1 u2 u3 eq2 hq2 y2 hq3 eq3 eq1 hq y1 y5 ht3 et2 ek2 ht2 hk2 y3 y4;fail "";refine⟨hl,S,rfl,(Pc.same y6).all,m1,m2,λt' st' so' wa' d' to' he' sh' oc' bc' Hh y7 f7 x7=>?_⟩;fail "";refine c6e (e2z x18 (sc.trans y6) f7 y7 x7) ?_;fail "";exact⟨_,_,rfl,(sc.trans y6).trans y7⟩
  ·rintro σ H19 ⟨x11,x12,rfl,s19⟩
   have B19:=B18.trans (But.of s19);have w19:=w18.same s19;fail "";by_cases hsd:sd="house"
   ·subst hsd
    rw[show decide (V.str "house" = V.str "house")=true by simp]
    fail "";refine⟨hl,_,_,X,S,rfl,P18.same s19,hB,.inl ⟨_,_,_,.step (nhn ↑3),λt2 k2 Hf ht2 hk2 y4 et2 ek2=>?_⟩⟩;fail "";refine⟨by show 5<=sizeLine;decide,λq hq=>?_⟩
    refine e5z (a9q (ns:=[true,false,false,true,false]) (g6 ek2 hq) (f8 hq _ _ ek2) b8) ?_;exact k _ ((w19.same y4).same (f8 hq)) ((B19.trans (But.of y4)).nw hq)
   ·rw[show decide (V.str sd=V.str "house")=false by simp[hsd]]
    exact k _ w19 B19
def AX(K:Frag)(Y:Addr->Prop)(H:Hp)(a:Addr)(xs:List V):Prop:=(∃o,H a=some o/\nt o=true/\¬ Y a/\∀H',H' a=some o->SqL K H' a xs) \/ ∀H',SqL K H' a xs
theorem AX.sq{Y:Addr->Prop}{H:Hp}{a:Addr}{xs:List V}(h:AX K Y H a xs):SqL K H a xs:=by
 rcases h with ⟨o,e,_,_,f⟩|f
 ·exact f H e
 ·exact f H
theorem AX.of{Y:Addr->Prop}{H H':Hp}{a:Addr}{xs:List V}(h:SqL K H a xs)(k:∀o,H a=some o->nt o=true->H' a=some o/\¬ Y a):AX K Y H' a xs:=by
 rcases h with (h|⟨o,h⟩)|h
 ·exact .inl ⟨_,(k _ h rfl).1,rfl,(k _ h rfl).2,λH' e=>SqL.of e⟩
 ·exact .inl ⟨_,(k _ h rfl).1,rfl,(k _ h rfl).2,λH' e=>.inl (.inr ⟨o,e⟩)⟩
 ·exact .inr λH'=>.inr h
theorem AX.to{Y Y':Addr->Prop}{H H':Hp}{a:Addr}{xs:List V}(h:AX K Y H a xs)(k:∀o,H a=some o->nt o=true->¬ Y a->H' a=some o/\¬ Y' a):AX K Y' H' a xs:=by
 rcases h with ⟨o,e,n,y,f⟩|f
 ·exact .inl ⟨o,(k o e n y).1,n,(k o e n y).2,f⟩
 ·exact .inr f
structure LI(K:Frag)(cl:Cl)(hl a sz wl:Addr)(ns:List Int)(zs:List V)(H:Hp)(X:Addr->Prop)(S:HSt):Prop where
 hp:HP cl H X hl S
 we:Well H wl
 nw:¬ X wl
 ax:AX K (λz=>X z\/z=wl) H a (ns.map V.int)
 sz:AX K (λz=>X z\/z=wl) H sz zs
section
variable{hl a sz wl:Addr}{ns:List Int}{zs:List V}{H H1 H2:Hp}{X X':Addr->Prop}{S S':HSt}
theorem LI.same(i:LI K cl hl a sz wl ns zs H X S)(s:Same H H1):LI K cl hl a sz wl ns zs H1 X S :=
 ⟨i.hp.same s,i.we.same s,i.nw,i.ax.to λo e _ y=>⟨s _ _ e,y⟩,i.sz.to λo e _ y=>⟨s _ _ e,y⟩⟩
theorem LI.but(i:LI K cl hl a sz wl ns zs H X S)(b:But wl H H1)(w1:Well H1 wl):LI K cl hl a sz wl ns zs H1 X S:=by
 obtain⟨_,_,_,ew,_⟩:=i.we;exact⟨i.hp.but ew i.nw b,w1,i.nw,i.ax.to λo e _ y=>⟨b _ _ e λz=>y (.inr z),y⟩,i.sz.to λo e _ y=>⟨b _ _ e λz=>y (.inr z),y⟩⟩
theorem LI.call(i:LI K cl hl a sz wl ns zs H X S)(b:But wl H H1)(w1:Well H1 wl){v:V}(kx:KX (λz=>X z\/v=.ref z) H1 X' H2)(hv:∀z,v=.ref z->H z=none)(hp:HP cl H2 X' hl S'):LI K cl hl a sz wl ns zs H2 X' S':=by
 have ax:∀{c:Addr}{xs:List V},AX K (λz=>X z\/z=wl) H c xs->AX K (λz=>X' z\/z=wl) H2 c xs:=λh=>h.to λo e n y=>by
  obtain⟨p,q⟩:=kx _ o (b _ _ e λz=>y (.inr z)) n λz=>z.elim (λz=>y (.inl z)) λz=>by rw[hv _ z] at e;cases e
  exact⟨p,λz=>z.elim q λz=>y (.inr z)⟩
 obtain⟨_,_,_,e0,_⟩:=i.we;obtain⟨x,y,p,ew,h1,h2⟩:=w1;obtain⟨q1,q2⟩:=kx _ _ ew rfl λz=>z.elim i.nw λz=>by rw[hv _ z] at e0;cases e0
 exact⟨hp,⟨x,y,p,q1,h1,h2⟩,q2,ax i.ax,ax i.sz⟩
end
structure Bi(S:HSt)(n i c j:Nat):Prop where
 n:S.L.n=n
 l:S.L.os.length<=i
 m:S.M.os.length<=c
 f:S.fin.length<=c
 tl:S.tl.length<=j
 tm:S.tm.length<=j
theorem Bi.bd{S:HSt}{n i c j:Nat}(h:Bi S n i c j)(hi:i<=40)(hc:c<=40)(hj:j<=4000):HBd S:=⟨by have:=h.l;lia,by have:=h.m;lia,by have:=h.f;lia,by have:=h.tl;lia,by have:=h.tm;lia⟩
theorem Bi.le{S:HSt}{n i c j i' c' j':Nat}(h:Bi S n i c j)(hi:i<=i')(hc:c<=c')(hj:j<=j'):Bi S n i' c' j':=⟨h.n,Nat.le_trans h.l hi,Nat.le_trans h.m hc,Nat.le_trans h.f hc,Nat.le_trans h.tl hj,Nat.le_trans h.tm hj⟩
theorem d2d(b:Bool)(L:Ln)(tl:List Tr):(trB b L tl).length<=tl.length+1:=by
 unfold trB;split
 ·lia
 ·rw[List.length_append];exact Nat.le_refl _
theorem a9w(b:Bool)(L:Ln):(b0m b L).n=L.n/\(b0m b L).os=L.os:=by
 cases b
 ·exact⟨(a6c L).1,(a6c L).2.1⟩
 ·exact⟨(a6r L).1,(a6r L).2.1⟩
theorem Bi.step{S:HSt}{n i c j:Nat}(h:Bi S n i c j)(o b:Bool):Bi (S.put o (b0m b (S.lane o)) (trB b (S.lane o) (S.trl o))) n i c (j+1)/\(S.put o (b0m b (S.lane o)) (trB b (S.lane o) (S.trl o))).L.os.length=S.L.os.length:=by
 obtain⟨h1,h2,h3,h4,h5,h6⟩:=h;cases o
 ·have:=d2d b S.M S.tm
  exact⟨⟨h1,h2,by show(b0m b S.M).os.length<=c;rw[(a9w b S.M).2];exact h3,h4,by show S.tl.length<=_;lia,by show(trB b S.M S.tm).length<=_;lia⟩,rfl⟩
 ·have:=d2d b S.L S.tl
  exact⟨⟨by show(b0m b S.L).n=n;rw[(a9w b S.L).1];exact h1,by show(b0m b S.L).os.length<=i;rw[(a9w b S.L).2];exact h2,h3,h4,by show(trB b S.L S.tl).length<=_;lia,by show S.tm.length<=_;lia⟩,by show(b0m b S.L).os.length=_;rw[(a9w b S.L).2]⟩
theorem b0h(b:Bool)(L:Ln):(c3g b L).n=L.n/\(c3g b L).os=L.os:=by
 cases b <;> exact⟨rfl,rfl⟩
theorem Bi.fall{S:HSt}{n i c j:Nat}(h:Bi S n i c j)(b:Bool):Bi (d7p b S) n i c j/\(d7p b S).L.os.length=S.L.os.length:=by
 obtain⟨h1,h2,h3,h4,h5,h6⟩:=h;exact⟨⟨by show(c3g b S.L).n=n;rw[(b0h b S.L).1];exact h1,by show(c3g b S.L).os.length<=i;rw[(b0h b S.L).2];exact h2,by show(c3g (!b) S.M).os.length<=c;rw[(b0h (!b) S.M).2];exact h3,h4,h5,h6⟩,by show(c3g b S.L).os.length=_;rw[(b0h b S.L).2]⟩
theorem Bi.dos{S:HSt}{n i c j m:Nat}(h:Bi S n i c j):Bi (doH S m) n i (c+1) j:=by
 obtain⟨h1,h2,h3,h4,h5,h6⟩:=h;exact⟨h1,h2,by show(S.M.os++[_]).length<=_;rw[List.length_append];exact Nat.succ_le_succ h3,by show(S.fin++[_]).length<=_;rw[List.length_append];exact Nat.succ_le_succ h4,h5,h6⟩
theorem Bi.ask{S:HSt}{n i c j:Nat}{o:List Int}(h:Bi S n i c j):Bi (S.put true (a1m S.L o) S.tl) n (i+1) c j/\(S.put true (a1m S.L o) S.tl).L.os.length=S.L.os.length+1:=by
 obtain⟨h1,h2,h3,h4,h5,h6⟩:=h;have e:(S.put true (a1m S.L o) S.tl).L.os.length=S.L.os.length+1:=by
  show(S.L.os++[o]).length=_;rw[List.length_append];rfl
 exact⟨⟨h1,by rw[e];lia,h3,h4,h5,h6⟩,e⟩
theorem HP.ob{H:Hp}{X:Addr->Prop}{hl:Addr}{S:HSt}(h:HP cl H X hl S):∃dx la lb su fi,H hl=some (d4c cl dx la lb su fi):=by
 obtain⟨la,lb,su,fi,F,G,A,B,h⟩:=h.all;obtain⟨dx,ex⟩:=h.ob;exact⟨dx,la,lb,su,fi,ex⟩
theorem d7y{xs:List V}(h:1<=xs.length):atI xs (-1)=xs[xs.length-1]?:=by
 unfold atI ixN;rw[if_neg ↑3,if_pos ↑5];show xs[((-1:Int)+xs.length).toNat]?=_
 congr 1
 lia
theorem c8k{H:Hp}{t k l u:Addr}{x:V}(et:H t=some (.tup [.ref k,x]))(ek:H k=some (.lst []))(hl:H l=none)(hu:(upd H l (.lst [])) u=none)(fx:a4h x=true)(ex:eqV x x=true):EqD K (upd (upd H l (.lst [])) u (.tup [.ref l,x])) 2 (.ref t) (.ref u) true:=by
 have s1:=f8 (o:=.lst []) hl;have s2:=f8 (o:=.tup [.ref l,x]) hu;exact c9y (g6 (s1 _ _ et) hu) (s2 _ _ (s1 _ _ et)) b8 (a9q (ns:=[]) (g6 ek hl) (s2 _ _ (s1 _ _ ek)) (s2 _ _ b8)) fx ex
abbrev c1r:Stmt:=top 124
theorem a6g:d9 ["script","first","sizes","hall","asked_for","k","well","turn","name","kinds","told","numbers"] ["script"] (d7 c1r):=↑1
theorem e2p{
        fa:Addr}{fd:FuncData}(D:Fun K "law" "law" c1r fa fd)(T:Txt K mg cl)(kb:kitOne K (.type "bool") (.type "bool")=some true)(G_law_take:FnT P w K mg base "_law_take" 1 ["well","many"] a4m)(G_law_well:FnT P w K mg base "_law_well" 1 ["script","k"] (b7e K))(G_law_order:FnT P w K mg base "_law_order" 2 ["well","size"] b5y)(G_Hall:MakeT P w K mg base "Hall" cl.Hall 8 ["self","out_size","back_size"] (frS (b6e cl)))(G_Hall_waiting:MethT P w K mg base cl.Hall "waiting" 4 ["self"] (a0e cl))(G_law_refused:FnT P w K mg base "_law_refused" 13 ["hall","well","size"] (b0w cl))(G_law_asked:FnT P w K mg base "_law_asked" 12 ["hall","way","thing"] (a8e cl)):
  FnOk P w K mg base (CXK P w) 14 fa fd ["script"] (c9b K):=by
 refine D.okX a6g ↑7 (λcdv A' outer s H vs Q E hr h=>?_)
 ·walk_at "len"
 ·obtain⟨a,ns,rfl,hS,hl,k⟩:=h
  refine⟨_,(
        d5 (j9 (i:=1) a6g.nd rfl (.inl rfl) (g9 G_law_well hr ↑3 rfl f9 (a7 (pv 0) (a7 g3 b7))))
   (d5 (j9 (i:=2) a6g.nd rfl (.inl rfl) (o8 (a7 (m6 a0w g3 (g9 G_law_take hr ↑3 rfl f9 (a7 (pv 1) (a7 g3 b7)))) (a7 (m6 a0w g3 (g9 G_law_take hr ↑3 rfl f9 (a7 (pv 1) (a7 g3 b7)))) b7))))
   (d5 (j9 (i:=3) a6g.nd rfl (.inl rfl) (d0x G_Hall hr ↑3 rfl f9 (a7 (u9 (i4 (K:=K)) (pv 2) g3 (λ_ _=>rfl)) (a7 (u9 (i4 (K:=K)) (pv 2) g3 (λ_ _=>rfl)) b7))))
   (d5 (j9 (i:=4) a6g.nd rfl (.inl rfl) g3)
   (d5 (
         b8d a5n rfl (a6m rfl T.z_range (a7 (l7 (d5b rfl) (by rfl) T.z_max PyProof.Rows.boot_max (a7 g3 (a7 (l7 (d5a rfl) (by rfl) T.z_min PyProof.Rows.boot_min (a7 g3 (a7 (l7 (n5 (K:=K)) (by rfl) T.z_len PySem.boot_len (a7 (pv 0) b7)) b7))) b7))) b7)) (v6 (i:=5) a6g.nd rfl (.inl rfl))
     (
     d5 (j9 (i:=6) a6g.nd rfl (.inl rfl) (g9 G_law_well hr ↑3 rfl f9 (a7 (pv 0) (a7 (pv 5) b7))))
     (d5 (a0q (d2u (b3u (g9 G_law_refused hr ↑3 rfl f9 (a7 (pv 3) (a7 (pv 6) (a7 (u9 (i4 (K:=K)) (pv 2) g3 (λ_ _=>rfl)) b7))))))
       (d8 (g4 a6o))
       r0)
     (d5 (a0q (k7 c7p (g9 G_law_take hr ↑3 rfl f9 (a7 (pv 6) (a7 g3 b7))) g3 (m9 _))
       (
       d5 (a0q (k7 (b8i (K:=K) (n:=1) (huN hr 2)) (g9 G_law_asked hr ↑3 rfl f9 (a7 (pv 3) (a7 g3 (a7 (g9 G_law_order hr ↑3 rfl f9 (a7 (pv 6) (a7 (u9 (i4 (K:=K)) (pv 2) g3 (λ_ _=>rfl)) b7))) b7)))) (a4x (a7 (o8 b7) (a7 (pv 4) b7))) (m9 _))
         (d8 (g4 a6o))
         r0)
       (d8 (j9 (i:=4) a6g.nd rfl (.inl rfl) (m6 a0w (pv 4) g3))))
       r0)
     (d5 (b8d a5n rfl (a6m rfl T.z_range (a7 (g9 G_law_take hr ↑3 rfl f9 (a7 (pv 6) (a7 g3 b7))) b7)) (v6 (i:=7) a6g.nd rfl (.inl rfl))
       (
       d5 (j9 (i:=8) a6g.nd rfl (.inl rfl) (u9 (i4 (K:=K)) (o8 (a7 g7 (a7 g7 (a7 g7 (a7 g7 b7))))) (g9 G_law_take hr ↑3 rfl f9 (a7 (pv 6) (a7 g3 b7))) (λ_ _=>rfl)))
       (d5 (b6i (g9 G_law_asked hr ↑3 rfl f9 (a7 (pv 3) (a7 g3 (a7 (pv 8) b7)))) (b8f (K:=K) rfl (a3e (v6 (i:=9) a6g.nd rfl (.inl rfl)) (a3e (v6 (i:=10) a6g.nd rfl (.inl rfl)) b8e))))
       (d8 (a0q (PW.pt (c4r (k7 (b8i (K:=K) (n:=0) (huN hr 1)) (pv 9) (o8 b7) (m9 _)) (b6h (d2u (b3u (l7 (a9s (K:=K)) (by rfl) T.z_isinstance PyProof.Rows.boot_isinstance (a7 (pv 10) (a7 (d8c T.z_bool PyProof.Rows.boot_bool rfl) b7))))))))
        (d8 (g4 a6o))
        r0)))))
     (d5 (j9 (i:=11) a6g.nd rfl (.inl rfl) (a2k (pv 3) T.k_Hall G_Hall_waiting hr ↑3 f9))
     (d5 (a0q (PW.pt (d2t (k7 (b8i (K:=K) (n:=0) (huN hr 1)) (pv 11) (o8 b7) (m9 _)) (c7m (k7 (b8i (K:=K) (n:=1) (huN hr 2)) (g9 G_law_asked hr ↑3 rfl f9 (a7 (pv 3) (a7 g3 (a7 (m6 b3v (l7 (n5 (K:=K)) (by rfl) T.z_len PySem.boot_len (a7 (pv 11) b7)) g3) b7)))) (a4x (a7 (o8 b7) (a7 (u9 (i4 (K:=K)) (pv 11) (d9o d2a g3) (λ_ _=>rfl)) b7))) (m9 _)))))
       (d8 (g4 a6o))
       r0)
     (d8 (a0q (PW.pt (d2t (k7 a6a (g9 G_law_take hr ↑3 rfl f9 (a7 (pv 6) (a7 g3 b7))) g3 (m9 _)) (c7m (k7 (b8i (K:=K) (n:=1) (huN hr 2)) (g9 G_law_asked hr ↑3 rfl f9 (a7 (pv 3) (a7 g3 (a7 (u9 (i4 (K:=K)) (o8 (a7 g7 (a7 g7 b7))) (g9 G_law_take hr ↑3 rfl f9 (a7 (pv 6) (a7 g3 b7))) (λ_ _=>rfl)) b7)))) (a4x (a7 (o8 b7) (a7 c0e b7))) (m9 _)))))
      (d8 (g4 a6o))
      r0)))))))))
   (d8 (g4 a6o))))))),?_⟩
  have h60:6000<=sizeLine:=by decide
  have hlen:(ns.map V.int).length=ns.length:=List.length_map _;fail "";refine⟨a,ns,0,rfl,hS,by lia,λfw H1 nw s1 w1=>?_⟩
  fail "";refine⟨fw,7,rfl,w1,by decide,by decide,λr2 H2 a2 c2 w2 b2=>?_⟩
  fail "";refine⟨fw,7,rfl,w2,by decide,by decide,λr3 H3 a3 c3 w3 b3=>?_⟩
  have s3:Same H H3:=λx o e=>b3 _ _ (b2 _ _ (s1 _ _ e) (λz=>by rw[z,nw] at e;cases e)) (λz=>by rw[z,nw] at e;cases e)
  obtain⟨n,en⟩:∃n:Nat,(n:Int)=2+r2:=⟨(2+r2).toNat,by lia⟩
  obtain⟨m,em⟩:∃m:Nat,(m:Int)=2+r3:=⟨(2+r3).toNat,by lia⟩
  fail "";rw[<- en,<- em];refine⟨by show 2<=sizeLine;decide,λsz hsz=>?_⟩
  generalize u4:upd H3 sz _=H4;obtain⟨s4,e4⟩:=nwS u4 hsz;have s4:=s3.trans s4;clear u4 hsz w1 w2 w3 b2 b3 s1 s3;fail "";intro hl0 dx hla hdx ne;have sm:=c3c (u:=.own hl0) (o:=.ins cl.Hall dx []) hla hdx ne;have eh:upd (upd H4 dx (.own hl0)) hl0 (.ins cl.Hall dx []) hl0=some (.ins cl.Hall dx []):=b8;generalize upd (upd H4 dx _) hl0 _=H5 at *;refine⟨rs (λy=>y=hl0) H5,a5k _ H5,hl0,dx,n,m,rfl,a4f eh (λ_ z=>nomatch z) (.inl rfl),by lia,by lia,by lia,by lia,λJ hJ ot=>⟨rfl,?_⟩⟩
  obtain⟨X0,P0,kx⟩:=HP.call ot hJ;have nha:∀{x:Addr}{o:HO},H4 x=some o->¬ x=hl0:=λe z=>by rw[z,hla] at e;cases e
  have ax0:AX K X0 (jn J (rs (λy=>y=hl0) H5) H5) a (ns.map V.int):=AX.of hS λo e n=>kx _ _ (sm _ _ (s4 _ _ e)) n (nha (s4 _ _ e));have sz0:AX K X0 (jn J (rs (λy=>y=hl0) H5) H5) sz [.int n,.int m]:=AX.of (SqL.of e4) λo e n=>kx _ _ (sm _ _ e) n (nha e);generalize jn J _ H5=H6 at *;clear kx nha ot hJ eh sm e4 s4 hla hdx ne nw;fail "";refine⟨a,_,rfl,.inl ax0.sq,?_⟩;fail "";rw[hlen];refine⟨_,_,rfl,?_⟩;fail "";refine⟨_,_,rfl,?_⟩;fail "";refine b0g (λi σ H'=>∃(X:Addr->Prop)(S:HSt)(x5 x6 x7 x8 x9 x10 x11:Option V),σ=[some (.ref a),some (.ref fw),some (.ref sz),some (.ref hl0),some (.int S.L.os.length),x5,x6,x7,x8,x9,x10,x11]/\HP cl H' X hl0 S/\AX K X H' a (ns.map V.int)/\AX K X H' sz [.int n,.int m]/\Bi S n i i (60*i)) ⟨X0,d3n n m,_,_,_,_,_,_,_,rfl,P0,ax0,sz0,⟨rfl,Nat.zero_le _,Nat.zero_le _,Nat.zero_le _,Nat.zero_le _,Nat.zero_le _⟩⟩ ?_ ?_
  ·rintro i σ H7 hi ⟨X,S,x5,x6,x7,x8,x9,x10,x11,rfl,P7,ax7,sz7,bi⟩
   have hi:i<30:=by
    have:(if (if (ns.length:Int)<30 then (ns.length:Int) else 30) > 1 then (if (ns.length:Int)<30 then (ns.length:Int) else 30) else 1).toNat<=30:=by split <;> (try split) <;> lia
    lia
   fail "";refine⟨a,ns,i,by rw[Int.zero_add],ax7.sq,by lia,λwl H8 nwl s8 w8=>?_⟩
   have I8:LI K cl hl0 a sz wl ns [.int n,.int m] H8 X S:=⟨P7.same s8,w8,P7.no nwl,ax7.to λo e _ y=>⟨s8 _ _ e,λz=>z.elim y λz=>by rw[z,nwl] at e;cases e⟩,sz7.to λo e _ y=>⟨s8 _ _ e,λz=>z.elim y λz=>by rw[z,nwl] at e;cases e⟩⟩
   clear P7 ax7 sz7 s8 w8 nwl;fail "";refine⟨sz,_,0,.int n,rfl,rfl,I8.sz.sq,rfl,?_⟩;fail "";refine⟨hl0,wl,X,S,by rw[bi.n],I8.hp,bi.bd ↑5 ↑5 ↑5,I8.we,I8.nw,by rw[bi.n];lia,λH9 w9 b9=>?_⟩
   have I9:=I8.but b9 w9;clear I8 b9 w9
   iterate 4 (walk_at "go1")
   refine c9e (λσ' H'=>∃(X:Addr->Prop)(S:HSt),σ'=[some (.ref a),some (.ref fw),some (.ref sz),some (.ref hl0),some (.int S.L.os.length),some (.int (0+(i:Int))),some (.ref wl),x7,x8,x9,x10,x11]/\LI K cl hl0 a sz wl ns [.int n,.int m] H' X S/\Bi S n (i+1) i (60*i)) ?_ ?_
   rotate_left
   ·intro R hR
    fail "";refine⟨wl,3,rfl,I9.we,by decide,by decide,λr10 H10 a10 c10 w10 b10=>?_⟩
    have I10:=I9.but b10 w10;clear I9 b10 w10;fail "";refine a6b (λy=>?_) (λy=>?_)
    ·fail ""
     refine⟨sz,_,0,.int n,rfl,rfl,I10.sz.sq,rfl,?_⟩;fail "";refine⟨wl,n,rfl,I10.we,by lia,by lia,λp H11 row hp ep l1 ln _ w11 b11=>?_⟩
     fail "";refine⟨hl0,4,.ref p,X,S,rfl,(I10.but b11 w11).hp,bi.bd ↑5 ↑5 ↑5,.inr ⟨_,_,.ask ep (I10.hp.no hp) ⟨l1,by rw[bi.n];lia⟩,λt k2 H12 X12 P12 kx hk2 et ek=>?_⟩⟩
     have I12:=I10.call b11 w11 kx (λz q=>by cases q;exact hp) P12
     fail "";refine⟨Nat.zero_le _,λl hl=>?_⟩;fail "";refine⟨by show 2<=sizeLine;decide,λu hu=>?_⟩
     refine c6e (c8k et ek hl hu rfl (by simp[eqV])) ?_
     fail "";refine hR _ _ ⟨X12,_,?_,I12.same ((f8 hl).trans (f8 hu)),(bi.ask (o:=row)).1⟩;rw[(bi.ask (o:=row)).2]
     rfl
    ·fail ""
     exact hR _ _ ⟨X,S,rfl,I10,bi.le ↑5 ↑5 ↑5⟩
   rintro σ H11 ⟨X1,S1,rfl,I11,bi1⟩;clear I9 bi;generalize eq:S1.L.os.length=q;fail "";refine⟨wl,60,rfl,I11.we,by decide,by decide,λr12 H12 a12 c12 w12 b12=>?_⟩
   fail "";refine b0g (λjj σ H'=>∃(X:Addr->Prop)(S:HSt)(x7 x8 x9 x10:Option V),σ=[some (.ref a),some (.ref fw),some (.ref sz),some (.ref hl0),some (.int q),some (.int (0+(i:Int))),some (.ref wl),x7,x8,x9,x10,x11]/\LI K cl hl0 a sz wl ns [.int n,.int m] H' X S/\Bi S n (i+1) i (60*i+jj)/\S.L.os.length=q) ⟨X1,S1,_,_,_,_,rfl,I11.but b12 w12,bi1,eq⟩ ?_ ?_
   ·rintro jj σ Hc hjj ⟨X,S,y7,y8,y9,y10,rfl,Ic,bi,eq⟩
    have hjj:jj<60:=by lia
    fail "";refine⟨by show 4<=sizeLine;decide,λp hp=>?_⟩
    have I1:=Ic.same (f8 (o:=.lst [.str "asker",.str "doer",.str "teller",.str "hearer"]) hp);fail "";refine⟨wl,4,rfl,I1.we,by decide,by decide,λr H13 ra rc w13 b13=>?_⟩
    have I2:=I1.but b13 w13;obtain⟨nm,o,b,hat,hz⟩:∃(nm:Str)(o b:Bool),atI [V.str "asker",V.str "doer",V.str "teller",V.str "hearer"] r=some (V.str nm)/\HHn o b nm:=by
     have cr:r=0\/r=1\/r=2\/r=3:=by lia
     rcases cr with rfl|rfl|rfl|rfl
     ·exact⟨_,true,true,rfl,.inl ⟨rfl,rfl,rfl⟩⟩
     ·exact⟨_,true,false,rfl,.inr (.inl ⟨rfl,rfl,rfl⟩)⟩
     ·exact⟨_,false,true,rfl,.inr (.inr (.inl ⟨rfl,rfl,rfl⟩))⟩
     ·exact⟨_,false,false,rfl,.inr (.inr (.inr ⟨rfl,rfl,rfl⟩))⟩
    refine a3d (b13 _ _ b8 (Ic.we.ne hp)) hat ?_;clear I1 b13 w13 Ic hat hp;fail "";refine⟨hl0,0,.str nm,X,S,rfl,I2.hp,bi.bd ↑5 ↑5 ↑5,.inr ⟨_,_,.step hz,λt k2 H14 X14 P14 kx hk2 et ek=>?_⟩⟩;have I3:=I2.call (But.refl _ _) I2.we kx (λz q=>nomatch q) P14;fail "";refine b8z et rfl ?_;fail "";refine⟨Nat.zero_le _,λl hl=>?_⟩;refine c6e (a9q (ns:=[]) (g6 ek hl) (f8 hl _ _ ek) b8) ?_;fail "";refine d4i (.ty (.bl _)) rfl kb ?_;fail "";exact⟨X14,_,_,_,_,_,rfl,I3.same (f8 hl),(bi.step o b).1,(bi.step o b).2.trans eq⟩
   rintro σ H13 ⟨X,S,y7,y8,y9,y10,rfl,I13,bi,eq⟩;clear I11 bi1 w12 b12;have bi:=bi.le (Nat.le_refl _) (Nat.le_refl _) (show 60*i+r12.toNat<=60*(i+1) by lia)
   obtain⟨dx,la,lb,su,fi,ob⟩:=I13.hp.ob;fail "";refine⟨hl0,S,rfl,I13.hp.all,by have:=bi.l;lia,λp H14 hp s14 e14=>?_⟩
   have I14:=I13.same s14;have np:=I13.hp.no hp;clear s14 hp I13 ob
   iterate 2 (walk_at "go1")
   refine c9e (λσ' H'=>∃(X:Addr->Prop)(S:HSt),σ'=[some (.ref a),some (.ref fw),some (.ref sz),some (.ref hl0),some (.int q),some (.int (0+(i:Int))),some (.ref wl),y7,y8,y9,y10,some (.ref p)]/\LI K cl hl0 a sz wl ns [.int n,.int m] H' X S/\Bi S n (i+1) (i+1) (60*(i+1))/\S.L.os.length=q) ?_ ?_
   rotate_left
   ·intro R hR
    fail "";refine⟨Nat.zero_le _,λl hl=>?_⟩;have ne:=g6 e14 hl;generalize u15:upd H14 l _=H15;obtain⟨s15,el⟩:=nwS u15 hl;have e15:=s15 _ _ e14;have I15:=I14.same s15;cases hwl:a3h S with
    | nil=>
     rw[hwl] at e15;refine c6e (a9q (ns:=[]) ne e15 el) ?_;fail "";exact hR _ _ ⟨X,S,rfl,I15,bi.le ↑5 ↑5 ↑5,eq⟩
    | cons x xs=>
     have hq:EqD K H15 1 (.ref p) (.ref l) false:=by
      rw[hwl] at e15;exact EqD.lstN ne (SqL.of e15) (SqL.of el) (by simp)
     refine c6e hq ?_;have hlen1:1<=(a3h S).length:=by rw[hwl];exact Nat.le_add_left 1 _
     obtain⟨nn,enn⟩:∃nn:Nat,(a3h S)[(a3h S).length-1]?=some (nn:Int):=by
      have z:(a3h S)[(a3h S).length-1]?=some _:=List.getElem?_eq_getElem ↑5;obtain⟨nn,e,_⟩:=c8r z;exact⟨nn,by rw[z,e]⟩
     fail "";rw[List.length_map];refine⟨hl0,3,_,X,S,rfl,I15.hp,bi.bd ↑5 ↑5 ↑5,.inr ⟨_,_,.dos (n:=nn) ↑5 (by rw[show(((a3h S).length:Int)-1).toNat=(a3h S).length-1 by lia];exact enn),λt k2 H16 X16 P16 kx hk2 et ek=>?_⟩⟩
     have I16:=I15.call (But.refl _ _) I15.we kx (λz q=>nomatch q) P16;have e16:=(kx _ _ e15 rfl λz=>z.elim np λz=>nomatch z).1;fail "";refine⟨Nat.zero_le _,λl2 hl2=>?_⟩;fail "";refine a3d (v:=.int nn) (f8 hl2 _ _ e16) ?_ ?_
     ·rw[d7y (by rw[List.length_map];exact hlen1),List.length_map,List.getElem?_map,enn];rfl
     fail "";refine⟨by show 2<=sizeLine;decide,λu hu=>?_⟩
     refine c6e (c8k et ek hl2 hu rfl (by simp[eqV])) ?_
     fail "";exact hR _ _ ⟨X16,_,rfl,I16.same ((f8 hl2).trans (f8 hu)),bi.dos,eq⟩
   rintro σ H15 ⟨X2,S2,rfl,I15,bi2,eq2⟩;clear I14 bi e14;have fin:∀{H':Hp}{X':Addr->Prop}{S':HSt},LI K cl hl0 a sz wl ns [.int n,.int m] H' X' S'->Bi S' n (i+1) (i+1) (60*(i+1))->S'.L.os.length=q->∃(X:Addr->Prop)(S:HSt)(x5 x6 x7 x8 x9 x10 x11:Option V),[some (.ref a),some (.ref fw),some (.ref sz),some (.ref hl0),some (.int q),some (.int (0+(i:Int))),some (.ref wl),y7,y8,y9,y10,some (.ref p)]=[some (.ref a),some (.ref fw),some (.ref sz),some (.ref hl0),some (.int S.L.os.length),x5,x6,x7,x8,x9,x10,x11]/\HP cl H' X hl0 S/\AX K X H' a (ns.map V.int)/\AX K X H' sz [.int n,.int m]/\Bi S n (i+1) (i+1) (60*(i+1)):=λ{H' X' S'} I b e=>
    ⟨X',S',_,_,_,_,_,_,_,by rw[e],I.hp,I.ax.to λo e _ y=>⟨e,λz=>y (.inl z)⟩,I.sz.to λo e _ y=>⟨e,λz=>y (.inl z)⟩,b⟩
   fail "";refine⟨wl,6,rfl,I15.we,by decide,by decide,λr16 H16 a16 c16 w16 b16=>?_⟩
   have I16:=I15.but b16 w16;clear I15 w16 b16;fail "";rw[d3y];refine a6b (λy=>?_) (λy=>?_)
   ·fail ""
    refine⟨by show 2<=sizeLine;decide,λp2 hp2=>?_⟩
    have I1:=I16.same (f8 (o:=.lst [.str "house",.str "shop"]) hp2);fail "";refine⟨wl,2,rfl,I1.we,by decide,by decide,λr H17 ra rc w17 b17=>?_⟩
    have I2:=I1.but b17 w17;obtain⟨nm,b,hat,hz⟩:∃(nm:Str)(b:Bool),atI [V.str "house",V.str "shop"] r=some (V.str nm)/\SdN b nm:=by
     have cr:r=0\/r=1:=by lia
     rcases cr with rfl|rfl
     ·exact⟨_,true,rfl,.inl ⟨rfl,rfl⟩⟩
     ·exact⟨_,false,rfl,.inr ⟨rfl,rfl⟩⟩
    refine a3d (b17 _ _ b8 (I16.we.ne hp2)) hat ?_;clear I1 b17 w17 I16 hat hp2;fail "";refine⟨hl0,2,.str nm,X2,S2,rfl,I2.hp,bi2.bd ↑5 ↑5 ↑5,.inr ⟨_,_,.fall hz,λt k2 H18 X18 P18 kx hk2 et ek=>?_⟩⟩;have I3:=I2.call (But.refl _ _) I2.we kx (λz q=>nomatch q) P18;fail "";refine⟨Nat.zero_le _,λl hl=>?_⟩;fail "";refine⟨by show 2<=sizeLine;decide,λu hu=>?_⟩
    refine c6e (c8k et ek hl hu rfl rfl) ?_;fail "";exact fin (I3.same ((f8 hl).trans (f8 hu))) (bi2.fall b).1 ((bi2.fall b).2.trans eq2)
   ·fail ""
    exact fin I16 bi2 eq2
  ·rintro σ H7 _
   fail "";exact k _
end
end
section
open PySem PySem.Spec L2
section
variable{P:Program}{w:World}{K:Frag}{mg:Str->Option Value}{base:Heap}{cl:Cl}
theorem DefV.mk'{x:Str}{st:Stmt}{ps:List Str}{f:Addr}{oc:Value}{od an:Option Addr}{osl:Array (Option Value)}{kV doc pm cdv ct:Value}(l:K.lookup f=some ⟨oc,od,.func (PySem.W.fnOf x x (a1h st) (a0f st) (d7 st) .none kV doc pm an cdv ct),osl⟩)(c:codeIn K cdv x=true)(k:keepIn K (.ref f)=true)(hb:∀(kV doc pm:Value) (an:Option Addr) (cdv ct:Value) (us:List Value),us.length=ps.length->bindArgs (PySem.W.fnOf x x (a1h st) (a0f st) (d7 st) .none kV doc pm an cdv ct) ⟨us,[]⟩=pure (ps.zip us)):DefV K f x st ps :=
 have F:=c9r (st:=st) (x:=x) (qual:=x) l c k
 ⟨_,F,F.binds hb⟩
inductive DTs(P:Program)(w:World)(K:Frag)(mg:Str->Option Value)(base:Heap)(k:Nat):List (Str×Tok×Value)->List (Str×Sp)->Prop where
 | nil:DTs P w K mg base k [] []
 | cons {x:Str} {tk:Tok} {f:Addr} {pn:List Str} {sp:Sp} {ps:List (Str×Tok×Value)} {sl:List (Str×Sp)} (F:FnV P w K mg base f k pn sp) (r:DTs P w K mg base k ps sl):DTs P w K mg base k ((x,tk,.ref f)::ps) ((x,sp)::sl)
theorem DTs.keys{k:Nat}{ps:List (Str×Tok×Value)}{sl:List (Str×Sp)}(h:DTs P w K mg base k ps sl):ps.map (·.1)=sl.map (·.1):=by
 induction h with
 | nil=>rfl
 | cons F r ih=>simp only[List.map_cons,ih]
theorem DTs.at{k:Nat}{ps:List (Str×Tok×Value)}{sl:List (Str×Sp)}(h:DTs P w K mg base k ps sl){x:Str}{sp:Sp}(hx:(x,sp)∈sl):∃(i:Nat)(tk:Tok)(f:Addr)(pn:List Str),ps[i]?=some (x,tk,.ref f)/\FnV P w K mg base f k pn sp:=by
 induction h with
 | nil=>cases hx
 | cons F r ih=>
  rcases List.mem_cons.mp hx with e|e
  ·cases e
   exact⟨0,_,_,_,rfl,F⟩
  ·obtain⟨i,tk,f,pn,a,b⟩:=ih e
   exact⟨i+1,tk,f,pn,a,b⟩
theorem c3o{kvs:List (Str×Value)}{x:Str}(h:x ∉ kvs.map (·.1)):valueAt kvs x=none:=by
 unfold valueAt;rw[List.find?_eq_none.mpr]
 ·rfl
 ·intro kv hkv z
  exact h (List.mem_map.mpr ⟨kv,hkv,of_decide_eq_true z⟩)
theorem DT.mk'{d:Addr}{k:Nat}{ps:List (Str×Tok×Value)}{sl:List (Str×Sp)}{ep:Nat}(hd:(d == sysModules)=false)(l:K.lookup d=some ⟨.type "dict",none,.dict (d7s w ps).toArray ep,#[]⟩)(h:DTs P w K mg base k ps sl)(nd:(sl.map (·.1)).Nodup):DT P w K mg base d k sl:=by
 have kd:=KDict.mk' (P:=P) hd l (by rw[h.keys];exact nd)
 have ke:(ps.map λp=>(p.1,p.2.2)).map (·.1)=sl.map (·.1):=by rw[List.map_map,<- h.keys];rfl
 refine⟨_,kd,λx sp hx=>?_,λx hx=>c3o (by rw[ke];exact hx)⟩
 obtain⟨i,tk,f,pn,a,b⟩:=h.at hx;exact⟨f,pn,valueAt_of_get (by rw[ke];exact nd) (i:=i) (by rw[List.getElem?_map,a];rfl),b⟩
end
section
variable{K:Frag}{mg:Str->Option Value}
inductive AtF(K:Frag)(f:Addr)(x q:Str)(st:Stmt):Prop
 | of {oc:Value} {od:Option Addr} {kV dc pm cd ct:Value} {an:Option Addr} {sl:Array (Option Value)} (l:K.lookup f=some ⟨oc,od,.func (PySem.W.fnOf x q (a1h st) (a0f st) (d7 st) .none kV dc pm an cd ct),sl⟩) (c:codeIn K cd q=true) (k:keepIn K (.ref f)=true):AtF K f x q st
abbrev BA(x q:Str)(st:Stmt)(ps:List Str):Prop:=∀(kV doc pm:Value)(an:Option Addr)(cdv ct:Value)(us:List Value),us.length=ps.length->bindArgs (PySem.W.fnOf x q (a1h st) (a0f st) (d7 st) .none kV doc pm an cdv ct) ⟨us,[]⟩=pure (ps.zip us)
theorem ba0{β:Type}{F G:List Value->β}(h:F []=G [])(us:List Value)(e:us.length=0):F us=G us:=by
 cases us with
 | nil=>exact h
 | cons=>cases e
theorem ba1{β:Type}{F G:List Value->β}(h:∀a,F [a]=G [a])(us:List Value)(e:us.length=1):F us=G us:=by
 cases us with
 | nil=>cases e
 | cons a t=>exact ba0 (F:=λt=>F (a::t)) (G:=λt=>G (a::t)) (h a) t (Nat.succ.inj e)
theorem ba2{β:Type}{F G:List Value->β}(h:∀a b,F [a,b]=G [a,b])(us:List Value)(e:us.length=2):F us=G us:=by
 cases us with
 | nil=>cases e
 | cons a t=>exact ba1 (F:=λt=>F (a::t)) (G:=λt=>G (a::t)) (h a) t (Nat.succ.inj e)
theorem ba3{β:Type}{F G:List Value->β}(h:∀a b c,F [a,b,c]=G [a,b,c])(us:List Value)(e:us.length=3):F us=G us:=by
 cases us with
 | nil=>cases e
 | cons a t=>exact ba2 (F:=λt=>F (a::t)) (G:=λt=>G (a::t)) (h a) t (Nat.succ.inj e)
theorem ba4{β:Type}{F G:List Value->β}(h:∀a b c d,F [a,b,c,d]=G [a,b,c,d])(us:List Value)(e:us.length=4):F us=G us:=by
 cases us with
 | nil=>cases e
 | cons a t=>exact ba3 (F:=λt=>F (a::t)) (G:=λt=>G (a::t)) (h a) t (Nat.succ.inj e)
theorem ba5{β:Type}{F G:List Value->β}(h:∀a b c d e,F [a,b,c,d,e]=G [a,b,c,d,e])(us:List Value)(e:us.length=5):F us=G us:=by
 cases us with
 | nil=>cases e
 | cons a t=>exact ba4 (F:=λt=>F (a::t)) (G:=λt=>G (a::t)) (h a) t (Nat.succ.inj e)
theorem AtF.t{h:Heap}{x:Str}{st:Stmt}{ps:List Str}{f:Addr}(X:K.In h)(G:h.Ns mainGlobals mg)(a:nsIn K mainGlobals x=some (some (.ref f)))(l:AtF K f x x st)(hb:BA x x st ps):DefT K mg x st ps :=
 by cases l with|of l c k=>exact .mk' X G a l c k hb
theorem AtF.v{x:Str}{st:Stmt}{ps:List Str}{f:Addr}(l:AtF K f x x st)(hb:BA x x st ps):DefV K f x st ps :=
 by cases l with|of l c k=>exact .mk' l c k hb
theorem AtF.m{C:Addr}{m q:Str}{st:Stmt}{ps:List Str}{f:Addr}(a:findIn K (.ref C) m=some (some (.ref f)))(i:isFn K (.ref f)=true)(l:AtF K f m q st)(hb:BA m q st ps):DefM K C m q st ps :=
 by cases l with|of l c k=>exact .mk' a i l c k hb
theorem AtF.k{f:Addr}{x q:Str}{st:Stmt}(l:AtF K f x q st):keepIn K (.ref f)=true:=by cases l with|of l c k=>exact k
inductive AtG(K:Frag)(x:Str)(st:Stmt):Prop
 | mk {f:Addr} (d:nsIn K mainGlobals x=some (some (.ref f))) (l:AtF K f x x st):AtG K x st
theorem AtG.of{x:Str}{st:Stmt}{f:Addr}{oc:Value}{od:Option Addr}{kV dc pm cd ct:Value}{an:Option Addr}{sl:Array (Option Value)}(d:nsIn K mainGlobals x=some (some (.ref f)))(l:K.lookup f=some ⟨oc,od,.func (PySem.W.fnOf x x (a1h st) (a0f st) (d7 st) .none kV dc pm an cd ct),sl⟩)(c:codeIn K cd x=true)(k:keepIn K (.ref f)=true):AtG K x st:=⟨d,.of l c k⟩
theorem AtG.t{h:Heap}{x:Str}{st:Stmt}{ps:List Str}(l:AtG K x st)(X:K.In h)(G:h.Ns mainGlobals mg)(hb:BA x x st ps):DefT K mg x st ps:=by cases l with|mk d l=>exact AtF.t X G d l hb
inductive AtM(K:Frag)(C:Addr)(m q:Str)(st:Stmt):Prop
 | mk {f:Addr} (d:findIn K (.ref C) m=some (some (.ref f))) (i:isFn K (.ref f)=true) (l:AtF K f m q st):AtM K C m q st
theorem AtM.of{C:Addr}{m q:Str}{st:Stmt}{f:Addr}{oc:Value}{od:Option Addr}{kV dc pm cd ct:Value}{an:Option Addr}{sl:Array (Option Value)}(d:findIn K (.ref C) m=some (some (.ref f)))(i:isFn K (.ref f)=true)(l:K.lookup f=some ⟨oc,od,.func (PySem.W.fnOf m q (a1h st) (a0f st) (d7 st) .none kV dc pm an cd ct),sl⟩)(c:codeIn K cd q=true)(k:keepIn K (.ref f)=true):AtM K C m q st:=⟨d,i,.of l c k⟩
theorem AtM.m{C:Addr}{m q:Str}{st:Stmt}{ps:List Str}(l:AtM K C m q st)(hb:BA m q st ps):DefM K C m q st ps:=by cases l with|mk d i l=>exact AtF.m d i l hb
end
end
open PySem L2
theorem all_mk{l:PySem.W.OpenLaw}{w:World}{K:Frag}{h:Heap}{mg:Str->Option Value}{fa:Addr}{aE aj ak am al an ax ag af ah aK az ay aF au ar ai ae aa ab ad ac:Addr}{gF:Tok}{ie:Tok}{id:Tok}{lD:Tok}{eU:Tok}{gO:Tok}{lN:Tok}{mD:Tok}{mi:Tok}{kW:Tok}{dR:Tok}{gb:Tok}{bK:Addr}{gE:Nat}{dz:Array (Option Value)}{fH ln:Tok}{aT bb aP aV aO aR aN aD aG aA av aw bl bx bh bA bP be bu bn bm bJ bB bC bD bE bS bp bR:Addr}{hS cX cn cj bf cT:Value}{gU bY:Option Addr}{lo:Array (Option Value)}{aZ aL aQ aU aW bc:Addr}{gh:Nat}{ey eA iY iS:Tok}{iT:Nat}{jS js jc gv:Tok}{jP ij ii:Nat}{hR mo lF lf dS en:Tok}{cq cJ:Addr}{ev gi:Array (Option Value)}{jT:Nat}{mE fX em ez fS eL hG nk gJ jA lw km:Tok}{mP:Nat}{gT ff jb eC jl lc:Tok}{mF:Nat}{mc iG ji fY:Tok}(fk:AtG K "check_size" a8s)(kx:AtG K "check_turn" a8r)(hl:AtG K "place_of" b4v)(iV:AtG K "lap_of" c1s)(gZ:AtG K "onward" c1q)(ls:AtG K "check_mark" a8t)(dt:AtG K "mark_of" b7n)(mZ:AtG K "mark_lap" b4x)(ef:AtG K "mark_side" b1p)(ke:AtG K "full_mark" b1u)(ky:AtG K "free_mark" b1v)(mz:AtG K "mark_to_give" a5v)(dm:AtG K "check_hand" a8u)(iv:AtG K "mark_cell" b1q)(hs:AtG K "number_cell" a7h)(iO:AtG K "left_cell" b1r)(dr:AtG K "thing_cell" a8m)(fn:AtG K "card_cell" b1w)(kf:AtG K "bell_cell" b1x)(ks:AtG K "new_cells" b1n)(iM:AtG K "check_bits" a8v)(lU:AtG K "check_marks" a7j)(kc:AtG K "alike_ahead" a7k)(gx:AtG K "front" c7h)(gp:AtG K "taker_bit" b1l)(hn:AtG K "giver_turn" a8q)(gd:AtG K "taker_turn" a8n)(mr:AtG K "write_card" a8l)(el:AtG K "ring_other" a8p)(iw:AtG K "still_bell" a8o)(nj:AtG K "may_go_on" b1o)(eh:AtG K "order_of" b4w)(gS:AtG K "orders_of" b1m)(jX:AtG K "orders_told" a7g)(lh:AtG K "pairs" c7g)(mX:AtG K "_law_well" b4y)(kN:AtG K "_law_take" b4z)(iu:AtG K "_law_far" b7o)(kO:AtG K "_law_order" b1s)(iR:AtG K "_law_asked" b1t)(la:AtG K "_law_all" b7p)(gt:AtG K "_law_refused" a7i)(dk:AtM K ai "__init__" "Board.__init__" a9h)(lP:AtM K ai "check_cell" "Board.check_cell" a2j)(ic:AtM K ai "note_touch" "Board.note_touch" a2h)(jv:AtM K ai "read" "Board.read" a9g)(fL:AtM K ai "write" "Board.write" a7o)(dh:AtM K ai "all_cells" "Board.all_cells" a2z)(hY:AtM K ai "touches" "Board.touches" a9f)(jO:AtM K ai "last_touch" "Board.last_touch" a2i)(jw:AtM K aa "__init__" "Giver.__init__" a9e)(fU:AtM K aa "add" "Giver.add" b2k)(hv:AtM K aa "orders" "Giver.orders" a5z)(hq:AtM K aa "place_ahead" "Giver.place_ahead" a1v)(hh:AtM K aa "begins_order" "Giver.begins_order" a1c)(nn:AtM K aa "next_order" "Giver.next_order" a2g)(ej:AtM K aa "next_part" "Giver.next_part" a2w)(jf:AtM K aa "next_left" "Giver.next_left" a2x)(lp:AtM K aa "has_part" "Giver.has_part" a3y)(ix:AtM K aa "know_turn" "Giver.know_turn" a2y)(ki:AtM K aa "awaited_mark" "Giver.awaited_mark" a1d)(kE:AtM K aa "turn_served" "Giver.turn_served" a1u)(kp:AtM K aa "go_on" "Giver.go_on" a7n)(dX:AtM K aa "resting" "Giver.resting" a4w)(mJ:AtM K aa "own_deed" "Giver.own_deed" a3x)(iD:AtM K ab "__init__" "Taker.__init__" a8w)(gn:AtM K ab "book" "Taker.book" a8x)(np:AtM K ab "book_order" "Taker.book_order" a2d)(dA:AtM K ab "know_turn" "Taker.know_turn" a2t)(fB:AtM K ab "awaited_mark" "Taker.awaited_mark" a1a)(lT:AtM K ab "turn_served" "Taker.turn_served" a1t)(fK:AtM K ab "go_on" "Taker.go_on" a7l)(kT:AtM K ab "resting" "Taker.resting" a4u)(fl:AtM K ab "own_deed" "Taker.own_deed" a3v)(mU:AtM K ad "__init__" "Lane.__init__" b2a)(ka:AtM K ad "place_giver" "Lane.place_giver" a2f)(mp:AtM K ad "place_taker" "Lane.place_taker" a2e)(iJ:AtM K ad "hand_named" "Lane.hand_named" a2u)(gP:AtM K ad "hand_in" "Lane.hand_in" a5w)(go:AtM K ad "step" "Lane.step" b1z)(eJ:AtM K ad "fall" "Lane.fall" b2b)(ng:AtM K ad "stage" "Lane.stage" a8y)(ib:AtM K ad "book" "Lane.book" b2c)(lB:AtM K ad "orders" "Lane.orders" a7m)(lR:AtM K ad "quiet" "Lane.quiet" a8z)(iW:AtM K ad "cells" "Lane.cells" a9a)(ml:AtM K ac "__init__" "Hall.__init__" b2g)(ec:AtM K ac "lane_and_name" "Hall.lane_and_name" a1b)(fi:AtM K ac "ask" "Hall.ask" b5g)(hx:AtM K ac "step" "Hall.step" b2f)(gy:AtM K ac "stage" "Hall.stage" a9b)(gR:AtM K ac "fall" "Hall.fall" b2h)(hN:AtM K ac "waiting" "Hall.waiting" a5x)(eK:AtM K ac "do" "Hall.do" b7z)(lW:AtM K ac "shelves" "Hall.shelves" a5y)(lV:AtM K ac "done" "Hall.done" b2j)(ms:AtM K ac "told" "Hall.told" b2e)(lt:AtM K ac "heard" "Hall.heard" a9d)(gg:AtM K ac "quiet" "Hall.quiet" a9c)(lx:AtM K ac "out_cells" "Hall.out_cells" a3w)(kQ:AtM K ac "back_cells" "Hall.back_cells" a2v)(X:K.In h)(G:h.Ns mainGlobals mg)(hfa:mg "law" = some (.ref fa))(ne:nsIn K mainGlobals "RingError" = some (some (.ref aE)))(hQ:nsIn K mainGlobals "BadSize" = some (some (.ref aj)))(kD:excIn K aj d5s "ValueError.__new__" = true)(kJ:findIn K (.ref aj) "__getattribute__" = some (some (.builtin "BaseException.__getattribute__")))(eQ:findIn K (.ref aj) "__getattr__" = some none)(hB:findIn K (.ref aj) "__class__" = some (some (.builtin "object.__class__")))(jQ:mroIn K aj (.type "BaseException")=some true)(dI:mroIn K aj (.type "object")=some true)(fR:(clsIn K aj).isSome=true)(hP:nsIn K mainGlobals "NoTurn" = some (some (.ref ak)))(hm:excIn K ak d5s "ValueError.__new__" = true)(dy:findIn K (.ref ak) "__getattribute__" = some (some (.builtin "BaseException.__getattribute__")))(kd:findIn K (.ref ak) "__getattr__" = some none)(eo:findIn K (.ref ak) "__class__" = some (some (.builtin "object.__class__")))(hi:mroIn K ak (.type "BaseException")=some true)(fb:mroIn K ak (.type "object")=some true)(hV:(clsIn K ak).isSome=true)(iy:nsIn K mainGlobals "BadMark" = some (some (.ref am)))(kk:excIn K am d5s "ValueError.__new__" = true)(fj:findIn K (.ref am) "__getattribute__" = some (some (.builtin "BaseException.__getattribute__")))(mf:findIn K (.ref am) "__getattr__" = some none)(ir:findIn K (.ref am) "__class__" = some (some (.builtin "object.__class__")))(le:mroIn K am (.type "BaseException")=some true)(kP:mroIn K am (.type "object")=some true)(dc:(clsIn K am).isSome=true)(es:nsIn K mainGlobals "Crooked" = some (some (.ref al)))(mH:excIn K al d5s "ValueError.__new__" = true)(mq:findIn K (.ref al) "__getattribute__" = some (some (.builtin "BaseException.__getattribute__")))(mN:findIn K (.ref al) "__getattr__" = some none)(hZ:findIn K (.ref al) "__class__" = some (some (.builtin "object.__class__")))(mL:mroIn K al (.type "BaseException")=some true)(it:mroIn K al (.type "object")=some true)(mV:(clsIn K al).isSome=true)(lS:nsIn K mainGlobals "NoCell" = some (some (.ref an)))(lG:excIn K an d5s "ValueError.__new__" = true)(mY:findIn K (.ref an) "__getattribute__" = some (some (.builtin "BaseException.__getattribute__")))(jN:findIn K (.ref an) "__getattr__" = some none)(hw:findIn K (.ref an) "__class__" = some (some (.builtin "object.__class__")))(fz:mroIn K an (.type "BaseException")=some true)(iI:mroIn K an (.type "object")=some true)(fq:(clsIn K an).isSome=true)(et:nsIn K mainGlobals "BadCells" = some (some (.ref ax)))(hj:nsIn K mainGlobals "BadOrder" = some (some (.ref ag)))(hy:excIn K ag d5s "ValueError.__new__" = true)(fP:findIn K (.ref ag) "__getattribute__" = some (some (.builtin "BaseException.__getattribute__")))(eu:findIn K (.ref ag) "__getattr__" = some none)(eq:findIn K (.ref ag) "__class__" = some (some (.builtin "object.__class__")))(iF:mroIn K ag (.type "BaseException")=some true)(eR:mroIn K ag (.type "object")=some true)(ja:(clsIn K ag).isSome=true)(jC:nsIn K mainGlobals "NoHand" = some (some (.ref af)))(md:excIn K af d5s "ValueError.__new__" = true)(lq:findIn K (.ref af) "__getattribute__" = some (some (.builtin "BaseException.__getattribute__")))(ip:findIn K (.ref af) "__getattr__" = some none)(eO:findIn K (.ref af) "__class__" = some (some (.builtin "object.__class__")))(dB:mroIn K af (.type "BaseException")=some true)(iU:mroIn K af (.type "object")=some true)(fv:(clsIn K af).isSome=true)(gj:nsIn K mainGlobals "NoWaiting" = some (some (.ref ah)))(df:excIn K ah d5s "ValueError.__new__" = true)(fM:findIn K (.ref ah) "__getattribute__" = some (some (.builtin "BaseException.__getattribute__")))(mA:findIn K (.ref ah) "__getattr__" = some none)(ho:findIn K (.ref ah) "__class__" = some (some (.builtin "object.__class__")))(fw:mroIn K ah (.type "BaseException")=some true)(kF:mroIn K ah (.type "object")=some true)(il:(clsIn K ah).isSome=true)(lX:nsIn K mainGlobals "NotSound" = some (some (.ref aK)))(dV:nsIn K mainGlobals "BadStand" = some (some (.ref az)))(jy:nsIn K mainGlobals "TooMany" = some (some (.ref ay)))(iP:nsIn K mainGlobals "NoName" = some (some (.ref aF)))(jW:nsIn K mainGlobals "NoText" = some (some (.ref au)))(fh:nsIn K mainGlobals "NoRow" = some (some (.ref ar)))(fc:nsIn K mainGlobals "Board" = some (some (.ref ai)))(fO:nsIn K mainGlobals "Hand" = some (some (.ref ae)))(im:nsIn K mainGlobals "Giver" = some (some (.ref aa)))(lZ:nsIn K mainGlobals "Taker" = some (some (.ref ab)))(my:nsIn K mainGlobals "Lane" = some (some (.ref ad)))(dW:nsIn K mainGlobals "Hall" = some (some (.ref ac)))(sg:specialIn K (.builtin "object.__class__") "__get__" = some (some (.builtin "getset_descriptor.__get__")))(tk:PySem.W.takesIn K (.builtin "object.__class__")=some true)(jI:nsIn K mainGlobals "LEAST_SIZE" = some (some (.int (2) gF)))(mC:nsIn K mainGlobals "MOST_SIZE" = some (some (.int (8) ie)))(lK:nsIn K mainGlobals "FREE" = some (some (.int (0) id)))(jd:nsIn K mainGlobals "FULL" = some (some (.int (1) lD)))(ia:nsIn K mainGlobals "MOST_MARK" = some (some (.int (3) eU)))(je:nsIn K mainGlobals "CELLS_OF_A_PLACE" = some (some (.int (4) gO)))(jr:nsIn K mainGlobals "NEW_MARK" = some (some (.int (2) lN)))(ge:nsIn K mainGlobals "NO_ORDER" = some (some (.int (-1) mD)))(jK:nsIn K mainGlobals "NO_TURN" = some (some (.int (-1) mi)))(ig:nsIn K mainGlobals "STILL" = some (some (.int (0) kW)))(iC:nsIn K mainGlobals "RUNG" = some (some (.int (1) dR)))(hJ:nsIn K mainGlobals "SHELVES" = some (some (.int (4) gb)))(dq:nsIn K mainGlobals "HANDS" = some (some (.ref bK)))(du:K.lookup bK=some ⟨.type "tuple",none,.seq #[.str "giver" fH,.str "taker" ln] gE,dz⟩)(no:nsIn K mainGlobals "DEEDS_hand" = some (some (.ref aT)))(lH:nsIn K mainGlobals "DEEDS_giver" = some (some (.ref bb)))(dZ:nsIn K mainGlobals "DEEDS_taker" = some (some (.ref aP)))(eG:nsIn K mainGlobals "OUT_HANDS" = some (some (.ref aV)))(eS:nsIn K mainGlobals "BACK_HANDS" = some (some (.ref aO)))(jD:nsIn K mainGlobals "SIDES" = some (some (.ref aR)))(eE:plainGet K ai Str.empty=true)(jR:hasDictIn K ai=true)(jH:plainOver K ai=true)(lk:findIn K (.ref ai) "__setattr__" = some (some (.builtin "object.__setattr__")))(lJ:makesIn K ai=true)(ld:keepIn K (.ref ai)=true)(ll:findIn K (.ref ai) "many_touches" = some none)(dg:findIn K (.ref ai) "newest_touch" = some none)(iX:findIn K (.ref ai) "numbers" = some none)(gK:findIn K (.ref ai) "size" = some none)(fr:plainGet K ae Str.empty=true)(jh:hasDictIn K ae=true)(fV:plainOver K ae=true)(kH:findIn K (.ref ae) "__setattr__" = some (some (.builtin "object.__setattr__")))(nt:makesIn K ae=true)(nx:keepIn K (.ref ae)=true)(mv:findIn K (.ref ae) "board" = some none)(kX:findIn K (.ref ae) "here" = some none)(fD:findIn K (.ref ae) "marks_read" = some none)(gk:findIn K (.ref ae) "name" = some none)(lQ:findIn K (.ref ae) "other" = some none)(ep:findIn K (.ref ae) "stage_behind_marks" = some none)(hz:findIn K (.ref ae) "stage_now" = some none)(iL:findIn K (.ref ae) "touched" = some none)(gf:plainGet K aa Str.empty=true)(eF:hasDictIn K aa=true)(iE:plainOver K aa=true)(dE:findIn K (.ref aa) "__setattr__" = some (some (.builtin "object.__setattr__")))(dQ:makesIn K aa=true)(iA:keepIn K (.ref aa)=true)(gw:findIn K (.ref aa) "board" = some none)(jE:findIn K (.ref aa) "here" = some none)(fs:findIn K (.ref aa) "kept" = some none)(dK:findIn K (.ref aa) "left" = some none)(ha:findIn K (.ref aa) "marks_read" = some none)(nc:findIn K (.ref aa) "name" = some none)(mT:findIn K (.ref aa) "number" = some none)(hM:findIn K (.ref aa) "other" = some none)(fg:findIn K (.ref aa) "stage_behind_marks" = some none)(ik:findIn K (.ref aa) "stage_now" = some none)(dw:findIn K (.ref aa) "touched" = some none)(jx:plainGet K ab Str.empty=true)(nb:hasDictIn K ab=true)(gN:plainOver K ab=true)(kz:findIn K (.ref ab) "__setattr__" = some (some (.builtin "object.__setattr__")))(ei:makesIn K ab=true)(ed:keepIn K (.ref ab)=true)(dT:findIn K (.ref ab) "board" = some none)(fu:findIn K (.ref ab) "here" = some none)(hL:findIn K (.ref ab) "left" = some none)(mO:findIn K (.ref ab) "marks_read" = some none)(ko:findIn K (.ref ab) "name" = some none)(jZ:findIn K (.ref ab) "not_freed" = some none)(gz:findIn K (.ref ab) "number" = some none)(lz:findIn K (.ref ab) "other" = some none)(kG:findIn K (.ref ab) "parts" = some none)(hk:findIn K (.ref ab) "stage_behind_marks" = some none)(ek:findIn K (.ref ab) "stage_now" = some none)(dM:findIn K (.ref ab) "taken" = some none)(kY:findIn K (.ref ab) "touched" = some none)(hf:plainGet K ad Str.empty=true)(hT:hasDictIn K ad=true)(lY:plainOver K ad=true)(dL:findIn K (.ref ad) "__setattr__" = some (some (.builtin "object.__setattr__")))(lv:makesIn K ad=true)(kq:keepIn K (.ref ad)=true)(hc:findIn K (.ref ad) "board" = some none)(lC:findIn K (.ref ad) "giver" = some none)(eV:findIn K (.ref ad) "kept_trail" = some none)(ku:findIn K (.ref ad) "taker" = some none)(lr:findIn K (.ref ad) "touched" = some none)(jM:plainGet K ac Str.empty=true)(jU:hasDictIn K ac=true)(dY:plainOver K ac=true)(dN:findIn K (.ref ac) "__setattr__" = some (some (.builtin "object.__setattr__")))(li:makesIn K ac=true)(dd:keepIn K (.ref ac)=true)(jL:findIn K (.ref ac) "back" = some none)(kI:findIn K (.ref ac) "finished" = some none)(iQ:findIn K (.ref ac) "out" = some none)(kC:findIn K (.ref ac) "sums" = some none)(bW:findIn K (.ref ae) "__init__" = some (some (.ref aN)))(kj:isFn K (.ref aN)=true)(cZ:AtF K aN "__init__" "Hand.__init__" b2d)(eg:findIn K (.ref ae) "stage" = some (some (.ref aD)))(bG:isFn K (.ref aD)=true)(bO:AtF K aD "stage" "Hand.stage" a3m)(hI:findIn K (.ref ae) "place" = some (some (.ref aG)))(bQ:isFn K (.ref aG)=true)(br:AtF K aG "place" "Hand.place" a5j)(kZ:findIn K (.ref ae) "step" = some (some (.ref aA)))(bN:isFn K (.ref aA)=true)(bz:AtF K aA "step" "Hand.step" a4v)(me:findIn K (.ref ae) "sleeping" = some (some (.ref av)))(bw:isFn K (.ref av)=true)(bI:AtF K av "sleeping" "Hand.sleeping" a0o)(dP:findIn K (.ref ae) "still" = some (some (.ref aw)))(bt:isFn K (.ref aw)=true)(bj:AtF K aw "still" "Hand.still" a3l)(fA:nsIn K mainGlobals "len" = some none)(ex:nsIn K mainGlobals "range" = some none)(mW:nsIn K mainGlobals "max" = some none)(iK:nsIn K mainGlobals "min" = some none)(mQ:nsIn K mainGlobals "isinstance" = some none)(iz:nsIn K mainGlobals "int" = some none)(ea:nsIn K mainGlobals "bool" = some none)(dG:nsIn K mainGlobals "list" = some none)(eB:nsIn K mainGlobals "all" = some none)(kK:nsIn K mainGlobals "ValueError" = some none)(dp:nsIn K mainGlobals "tuple" = some none)(gL:nsIn K mainGlobals "sum" = some none)(ch:nsIn K mainGlobals "at_rouse" = some (some (.ref bl)))(mn:AtF K bl "at_rouse" "at_rouse" b5b)(cE:nsIn K mainGlobals "at_clear" = some (some (.ref bx)))(ee:AtF K bx "at_clear" "at_clear" b5e)(cv:nsIn K mainGlobals "at_mute" = some (some (.ref bh)))(eP:AtF K bh "at_mute" "at_mute" b7t)(cP:nsIn K mainGlobals "at_marks" = some (some (.ref bA)))(mB:AtF K bA "at_marks" "at_marks" b5c)(cH:nsIn K mainGlobals "at_look" = some (some (.ref bP)))(fy:AtF K bP "at_look" "at_look" b7v)(bV:nsIn K mainGlobals "at_wish" = some (some (.ref be)))(hE:AtF K be "at_wish" "at_wish" b7q)(ci:nsIn K mainGlobals "at_again" = some (some (.ref bu)))(kb:AtF K bu "at_again" "at_again" b5f)(cI:nsIn K mainGlobals "at_sleep" = some (some (.ref bn)))(iZ:AtF K bn "at_sleep" "at_sleep" b5a)(cs:nsIn K mainGlobals "at_hush" = some (some (.ref bm)))(mh:AtF K bm "at_hush" "at_hush" b7w)(cW:nsIn K mainGlobals "at_unwish" = some (some (.ref bJ)))(gI:AtF K bJ "at_unwish" "at_unwish" b1y)(cr:nsIn K mainGlobals "at_card" = some (some (.ref bB)))(lm:AtF K bB "at_card" "at_card" b7y)(cz:nsIn K mainGlobals "at_ring" = some (some (.ref bC)))(fI:AtF K bC "at_ring" "at_ring" b7s)(cw:nsIn K mainGlobals "at_told" = some (some (.ref bD)))(nq:AtF K bD "at_told" "at_told" b7r)(cO:nsIn K mainGlobals "at_lacks" = some (some (.ref bE)))(mS:AtF K bE "at_lacks" "at_lacks" b5d)(cY:nsIn K mainGlobals "at_mark" = some (some (.ref bS)))(jk:AtF K bS "at_mark" "at_mark" b7u)(cV:nsIn K mainGlobals "at_free" = some (some (.ref bp)))(hD:AtF K bp "at_free" "at_free" b7x)(eX:nsIn K mainGlobals "law" = some (some (.ref bR)))(eM:K.lookup bR=some ⟨hS,gU,.func (PySem.W.fnOf "law" "law" (a1h c1r) (a0f c1r) (d7 c1r) .none cX cn cj bY bf cT),lo⟩)(gC:codeIn K bf "law" = true)(fx:keepIn K (.ref bR)=true)(nr:nsIn K mainGlobals "at_number_giver" = some (some (.ref aZ)))(ds:AtF K aZ "at_number" "at_number" a2s)(nw:nsIn K mainGlobals "at_left_giver" = some (some (.ref aL)))(hp:AtF K aL "at_left" "at_left" a4t)(nA:nsIn K mainGlobals "at_thing_giver" = some (some (.ref aQ)))(fT:AtF K aQ "at_thing" "at_thing" a3u)(nz:nsIn K mainGlobals "at_number_taker" = some (some (.ref aU)))(eH:AtF K aU "at_number" "at_number" a2r)(ny:nsIn K mainGlobals "at_left_taker" = some (some (.ref aW)))(fW:AtF K aW "at_left" "at_left" a4s)(nD:nsIn K mainGlobals "at_thing_taker" = some (some (.ref bc)))(lO:AtF K bc "at_thing" "at_thing" a3t)(nh:kitOne K (.type "bool") (.type "bool")=some true)(na:exmOne K (.ref af) (.ref aE)=some true)(ht:kitOne K (.ref af) (.ref af)=some true)(mb:kitOne K (.ref af) (.ref ah)=some false)(eD:kitOne K (.ref af) (.ref ag)=some false)(dn:kitOne K (.ref af) (.type "ValueError")=some true)(kh:PySem.W.kitAny K (.ref af) [.ref az,.ref aF,.ref ay]=some false)(gQ:PySem.W.kitAny K (.ref af) [.ref ax,.ref am,.ref aj,.ref al,.ref an,.ref ar,.ref au]=some false)(kg:PySem.W.kitAny K (.ref af) [.ref aK,.ref ak]=some false)(mj:exmOne K (.ref ah) (.ref aE)=some true)(io:kitOne K (.ref ah) (.ref af)=some false)(lj:kitOne K (.ref ah) (.ref ah)=some true)(gX:kitOne K (.ref ah) (.ref ag)=some false)(fE:kitOne K (.ref ah) (.type "ValueError")=some true)(iN:PySem.W.kitAny K (.ref ah) [.ref az,.ref aF,.ref ay]=some false)(kn:PySem.W.kitAny K (.ref ah) [.ref ax,.ref am,.ref aj,.ref al,.ref an,.ref ar,.ref au]=some false)(jG:PySem.W.kitAny K (.ref ah) [.ref aK,.ref ak]=some false)(eT:exmOne K (.ref ag) (.ref aE)=some true)(he:kitOne K (.ref ag) (.ref af)=some false)(ma:kitOne K (.ref ag) (.ref ah)=some false)(ih:kitOne K (.ref ag) (.ref ag)=some true)(kw:kitOne K (.ref ag) (.type "ValueError")=some true)(gG:PySem.W.kitAny K (.ref ag) [.ref az,.ref aF,.ref ay]=some false)(gB:PySem.W.kitAny K (.ref ag) [.ref ax,.ref am,.ref aj,.ref al,.ref an,.ref ar,.ref au]=some false)(jY:PySem.W.kitAny K (.ref ag) [.ref aK,.ref ak]=some false)(jg:(aV == sysModules)=false)(jF:K.lookup aV=some ⟨.type "dict",none,.dict (d7s w [("asker",ey,.str "giver" eA),("doer",iY,.str "taker" iS)]).toArray gh,#[]⟩)(kA:(aO == sysModules)=false)(dC:K.lookup aO=some ⟨.type "dict",none,.dict (d7s w [("teller",jS,.str "giver" js),("hearer",jc,.str "taker" gv)]).toArray iT,#[]⟩)(dD:(aR == sysModules)=false)(fJ:K.lookup aR=some ⟨.type "dict",none,.dict (d7s w [("house",hR,.ref cq),("shop",mo,.ref cJ)]).toArray jP,#[]⟩)(hU:K.lookup cq=some ⟨.type "tuple",none,.seq #[.str "asker" lF,.str "hearer" lf] ij,ev⟩)(kL:K.lookup cJ=some ⟨.type "tuple",none,.seq #[.str "doer" dS,.str "teller" en] ii,gi⟩)(de:findIn K (.ref aa) "place" = some (some (.ref aG)))(mK:findIn K (.ref ab) "place" = some (some (.ref aG)))(ew:findIn K (.ref aa) "step" = some (some (.ref aA)))(lb:findIn K (.ref ab) "step" = some (some (.ref aA)))(mI:findIn K (.ref aa) "stage" = some (some (.ref aD)))(hr:findIn K (.ref ab) "stage" = some (some (.ref aD)))(iH:findIn K (.ref aa) "sleeping" = some (some (.ref av)))(eI:findIn K (.ref ab) "sleeping" = some (some (.ref av)))(lL:findIn K (.ref aa) "still" = some (some (.ref aw)))(jq:findIn K (.ref ab) "still" = some (some (.ref aw)))(eW:specialIn K (.ref ae) "__getattribute__" = some (some (.builtin "type.__getattribute__")))(gY:PySem.W.readsIn K ae (.type "type")=true)(hA:PySem.W.findCls K (.ref ae) (.type "type") "__init__" = some (.val (.ref aN)))(fC:(aT == sysModules)=false)(lA:K.lookup aT=some ⟨.type "dict",none,.dict (d7s w [("rouse",mE,.ref bl),("clear",fX,.ref bx),("mute",em,.ref bh),("marks",ez,.ref bA),("look",fS,.ref bP),("wish",eL,.ref be),("again",hG,.ref bu),("sleep",nk,.ref bn),("hush",gJ,.ref bm),("unwish",jA,.ref bJ),("card",lw,.ref bB),("ring",km,.ref bC)]).toArray jT,#[]⟩)(kS:(bb == sysModules)=false)(dF:K.lookup bb=some ⟨.type "dict",none,.dict (d7s w [("told",gT,.ref bD),("lacks",ff,.ref bE),("number",jb,.ref aZ),("left",eC,.ref aL),("thing",jl,.ref aQ),("mark",lc,.ref bS)]).toArray mP,#[]⟩)(gm:(aP == sysModules)=false)(jz:K.lookup aP=some ⟨.type "dict",none,.dict (d7s w [("number",mc,.ref aU),("left",iG,.ref aW),("thing",ji,.ref bc),("free",fY,.ref bp)]).toArray mF,#[]⟩):
  ∃fd:FuncData,(∀(s:Shared)(v:Value),BindsTo s fd ⟨[v],[]⟩ [("script",v)])/\∀base:Heap,K.In base->base.Ns mainGlobals mg->FnOk l.prog w K mg base (CXK l.prog w) 14 fa fd ["script"] (c9b K):=by
 let cl:Cl:=⟨aE,aj,ak,am,al,an,ax,ag,af,ah,aK,az,ay,aF,au,ar,ai,ae,aa,ab,ad,ac,bK,aT,bb,aP,aV,aO,aR⟩
 have e:=hfa.symm.trans (mg_of X G eX);cases e;have T:Txt K mg cl:=⟨⟨mg_of X G ne⟩,
  ⟨⟨kD,kJ,eQ,hB,jQ,dI,fR,sg,tk⟩,mg_of X G hQ⟩,
  ⟨⟨hm,dy,kd,eo,hi,fb,hV,sg,tk⟩,mg_of X G hP⟩,
  ⟨⟨kk,fj,mf,ir,le,kP,dc,sg,tk⟩,mg_of X G iy⟩,
  ⟨⟨mH,mq,mN,hZ,mL,it,mV,sg,tk⟩,mg_of X G es⟩,
  ⟨⟨lG,mY,jN,hw,fz,iI,fq,sg,tk⟩,mg_of X G lS⟩,
  ⟨mg_of X G et⟩,
  ⟨⟨hy,fP,eu,eq,iF,eR,ja,sg,tk⟩,mg_of X G hj⟩,
  ⟨⟨md,lq,ip,eO,dB,iU,fv,sg,tk⟩,mg_of X G jC⟩,
  ⟨⟨df,fM,mA,ho,fw,kF,il,sg,tk⟩,mg_of X G gj⟩,
  ⟨mg_of X G lX⟩,
  ⟨mg_of X G dV⟩,
  ⟨mg_of X G jy⟩,
  ⟨mg_of X G iP⟩,
  ⟨mg_of X G jW⟩,
  ⟨mg_of X G fh⟩,
  ⟨mg_of X G fc⟩,
  ⟨mg_of X G fO⟩,
  ⟨mg_of X G im⟩,
  ⟨mg_of X G lZ⟩,
  ⟨mg_of X G my⟩,
  ⟨mg_of X G dW⟩,
  ⟨_,mg_of X G jI⟩,
  ⟨_,mg_of X G mC⟩,
  ⟨_,mg_of X G lK⟩,
  ⟨_,mg_of X G jd⟩,
  ⟨_,mg_of X G ia⟩,
  ⟨_,mg_of X G je⟩,
  ⟨_,mg_of X G jr⟩,
  ⟨_,mg_of X G ge⟩,
  ⟨_,mg_of X G jK⟩,
  ⟨_,mg_of X G ig⟩,
  ⟨_,mg_of X G iC⟩,
  ⟨_,mg_of X G hJ⟩,
  mg_of X G dq,
  ⟨_,_,_,du,(show 2<=sizeLine by decide),.cons ⟨_,rfl⟩ (.cons ⟨_,rfl⟩ (.nil))⟩,
  ⟨eE,jR,jH,lk⟩,
  ll,
  dg,
  iX,
  gK,
  ⟨fr,jh,fV,kH⟩,
  mv,
  kX,
  fD,
  gk,
  lQ,
  ep,
  hz,
  iL,
  ⟨gf,eF,iE,dE⟩,
  gw,
  jE,
  fs,
  dK,
  ha,
  nc,
  mT,
  hM,
  fg,
  ik,
  dw,
  ⟨jx,nb,gN,kz⟩,
  dT,
  fu,
  hL,
  mO,
  ko,
  jZ,
  gz,
  lz,
  kG,
  hk,
  ek,
  dM,
  kY,
  ⟨hf,hT,lY,dL⟩,
  hc,
  lC,
  eV,
  ku,
  lr,
  ⟨jM,jU,dY,dN⟩,
  jL,
  kI,
  iQ,
  kC,
  mg_of X G no,
  mg_of X G lH,
  mg_of X G dZ,
  mg_of X G eG,
  mg_of X G eS,
  mg_of X G jD,
  mg_none_of X G fA,
  mg_none_of X G ex,
  mg_none_of X G mW,
  mg_none_of X G iK,
  mg_none_of X G mQ,
  mg_none_of X G iz,
  mg_none_of X G ea,
  mg_none_of X G dG,
  mg_none_of X G eB,
  mg_none_of X G kK,
  mg_none_of X G dp,
  mg_none_of X G gL⟩
 have ns:DefM K cl.Board "touches" "Board.touches" a9f ["self"]:=hY.m λ_ _ _ _ _ _=>ba1 λ_=>rfl;have nE:DefM K cl.Hand "stage" "Hand.stage" a3m ["self"]:=AtF.m eg bG bO λ_ _ _ _ _ _=>ba1 λ_=>rfl;have nB:DefM K cl.Hand "place" "Hand.place" a5j ["self"]:=AtF.m hI bQ br λ_ _ _ _ _ _=>ba1 λ_=>rfl;have nC:DefM K cl.Hand "step" "Hand.step" a4v ["self"]:=AtF.m kZ bN bz λ_ _ _ _ _ _=>ba1 λ_=>rfl;have nu:DefM K cl.Hand "sleeping" "Hand.sleeping" a0o ["self"]:=AtF.m me bw bI λ_ _ _ _ _ _=>ba1 λ_=>rfl;have nv:DefM K cl.Hand "still" "Hand.still" a3l ["self"]:=AtF.m dP bt bj λ_ _ _ _ _ _=>ba1 λ_=>rfl;have mt:=c9r (st:=c1r) eM gC fx;refine⟨PySem.W.fnOf "law" "law" (a1h c1r) (a0f c1r) (d7 c1r) .none cX cn cj bY bf cT,λs v=>.of_eq rfl,λbase _ _=>?_⟩;have jt:=(⟨T.c_NoHand.k,na,ht,mb,eD,dn,kh,gQ,kg⟩:Kd K cl cl.NoHand true false false);have iq:=(⟨T.c_NoWaiting.k,mj,io,lj,gX,fE,iN,kn,jG⟩:Kd K cl cl.NoWaiting false true false);have lg:=(⟨T.c_BadOrder.k,eT,he,ma,ih,kw,gG,gB,jY⟩:Kd K cl cl.BadOrder false false true);have hd:=(⟨⟨_,_,KDict.mk' jg jF (show(["asker","doer"]:List Str).Nodup by decide)⟩,⟨_,_,KDict.mk' kA dC (show(["teller","hearer"]:List Str).Nodup by decide)⟩⟩:HD l.prog w K cl)
 have hsd:=(⟨_,_,KDict.mk' dD fJ (show(["house","shop"]:List Str).Nodup by decide),⟨_,_,_,hU,(show 2<=sizeLine by decide),.cons ⟨_,rfl⟩ (.cons ⟨_,rfl⟩ .nil)⟩,⟨_,_,_,kL,(show 2<=sizeLine by decide),.cons ⟨_,rfl⟩ (.cons ⟨_,rfl⟩ .nil)⟩⟩:HSd l.prog w K cl)
 have aB:=(c2h (fk.t X G λ_ _ _ _ _ _=>ba1 λ_=>rfl) T:FnT l.prog w K mg base _ _ _ _);have bd:=c2g (kx.t X G λ_ _ _ _ _ _=>ba2 λ_ _=>rfl) T aB;have aS:=c7q (hl.t X G λ_ _ _ _ _ _=>ba2 λ_ _=>rfl) T bd;have bs:=d3k (iV.t X G λ_ _ _ _ _ _=>ba2 λ_ _=>rfl) T bd;have aq:=d3j (gZ.t X G λ_ _ _ _ _ _=>ba3 λ_ _ _=>rfl) T bd;have gM:=(c2i (ls.t X G λ_ _ _ _ _ _=>ba1 λ_=>rfl) T:FnT l.prog w K mg base _ _ _ _);have bM:=(d1a (dt.t X G λ_ _ _ _ _ _=>ba2 λ_ _=>rfl) T:FnT l.prog w K mg base _ _ _ _);have cK:=c5i (ke.t X G λ_ _ _ _ _ _=>ba2 λ_ _=>rfl) T bs bM;have kU:=c5j (ky.t X G λ_ _ _ _ _ _=>ba2 λ_ _=>rfl) T bs bM;have hu:=b8j (mz.t X G λ_ _ _ _ _ _=>ba2 λ_ _=>rfl) T bs bM;have aM:=(c7t (kN.t X G λ_ _ _ _ _ _=>ba2 λ_ _=>rfl) T:FnT l.prog w K mg base _ _ _ _);have gc:=(c7s (mX.t X G λ_ _ _ _ _ _=>ba2 λ_ _=>rfl) T:FnT l.prog w K mg base _ _ _ _);have hb:=c2k (iM.t X G λ_ _ _ _ _ _=>ba1 λ_=>rfl) T aB;have jJ:=(b9n (kc.t X G λ_ _ _ _ _ _=>ba1 λ_=>rfl) T:FnT l.prog w K mg base _ _ _ _);have cR:=d6r (gx.t X G λ_ _ _ _ _ _=>ba1 λ_=>rfl) T hb jJ aq;have cG:=(c7r (mZ.t X G λ_ _ _ _ _ _=>ba1 λ_=>rfl) T:FnT l.prog w K mg base _ _ _ _);have lM:=(c5d (ef.t X G λ_ _ _ _ _ _=>ba1 λ_=>rfl) T:FnT l.prog w K mg base _ _ _ _);have dj:=c4y (gp.t X G λ_ _ _ _ _ _=>ba1 λ_=>rfl) T cG lM;have bT:=b9m (lU.t X G λ_ _ _ _ _ _=>ba1 λ_=>rfl) T aB gM;have kM:=c2f (hn.t X G λ_ _ _ _ _ _=>ba1 λ_=>rfl) T bT cG cR;have gq:=c2c (gd.t X G λ_ _ _ _ _ _=>ba1 λ_=>rfl) T bT dj cR;have bq:=(c2j (dm.t X G λ_ _ _ _ _ _=>ba1 λ_=>rfl) T:FnT l.prog w K mg base _ _ _ _);have aY:=(c5e (iv.t X G λ_ _ _ _ _ _=>ba1 λ_=>rfl) T:FnT l.prog w K mg base _ _ _ _);have bL:=(b9k (hs.t X G λ_ _ _ _ _ _=>ba1 λ_=>rfl) T:FnT l.prog w K mg base _ _ _ _);have bk:=(c5f (iO.t X G λ_ _ _ _ _ _=>ba1 λ_=>rfl) T:FnT l.prog w K mg base _ _ _ _);have cc:=(c2b (dr.t X G λ_ _ _ _ _ _=>ba1 λ_=>rfl) T:FnT l.prog w K mg base _ _ _ _);have bv:=c5k (fn.t X G λ_ _ _ _ _ _=>ba2 λ_ _=>rfl) T aB bq;have aI:=c5l (kf.t X G λ_ _ _ _ _ _=>ba2 λ_ _=>rfl) T bv;have dH:=(c5b (ks.t X G λ_ _ _ _ _ _=>ba1 λ_=>rfl) T:FnT l.prog w K mg base _ _ _ _);have jo:=c2y (dk.m (ps:=["self","size"]) λ_ _ _ _ _ _=>ba2 λ_ _=>rfl) T aB dH;have jV:=jo.make lJ ld T.c_Board.m;have cd:=(b2s (lP.m (ps:=["self","cell"]) λ_ _ _ _ _ _=>ba2 λ_ _=>rfl) T:MethT l.prog w K mg base _ _ _ _ _);have cA:=(b2q (ic.m (ps:=["self","deed","cell","value"]) λ_ _ _ _ _ _=>ba4 λ_ _ _ _=>rfl) T:MethT l.prog w K mg base _ _ _ _ _);have ao:=c2x (jv.m (ps:=["self","cell"]) λ_ _ _ _ _ _=>ba2 λ_ _=>rfl) T cd cA;have ap:=b9v (fL.m (ps:=["self","cell","number"]) λ_ _ _ _ _ _=>ba3 λ_ _ _=>rfl) T cd cA;have bg:=(b4g (dh.m (ps:=["self"]) λ_ _ _ _ _ _=>ba1 λ_=>rfl) T:MethT l.prog w K mg base _ _ _ _ _);have ca:=(b2r (jO.m (ps:=["self"]) λ_ _ _ _ _ _=>ba1 λ_=>rfl) T:MethT l.prog w K mg base _ _ _ _ _);have kt:=c5g (kO.t X G λ_ _ _ _ _ _=>ba2 λ_ _=>rfl) T aM;have bH:=c2a (mr.t X G λ_ _ _ _ _ _=>ba2 λ_ _=>rfl) T ap bv;have ce:=c2e (el.t X G λ_ _ _ _ _ _=>ba1 λ_=>rfl) T ap aI;have ck:=c2d (iw.t X G λ_ _ _ _ _ _=>ba1 λ_=>rfl) T ap aI;have fF:=c7v (AtF.t X G ch mn λ_ _ _ _ _ _=>ba1 λ_=>rfl) T ce;have gl:=c7y (AtF.t X G cE ee λ_ _ _ _ _ _=>ba1 λ_=>rfl) T bH;have jj:=d1g (AtF.t X G cv eP λ_ _ _ _ _ _=>ba1 λ_=>rfl) T ck;have mw:=d1j (AtF.t X G cs mh λ_ _ _ _ _ _=>ba1 λ_=>rfl) T ck;have gu:=c5m (AtF.t X G cW gI λ_ _ _ _ _ _=>ba1 λ_=>rfl) T bH;have ga:=c7u (AtF.t X G cI iZ λ_ _ _ _ _ _=>ba1 λ_=>rfl) T ao aI;have aJ:=b4b (AtF.m de bQ br (λ_ _ _ _ _ _=>ba1 λ_=>rfl)) T aS;have aX:=b4b (AtF.m mK bQ br (λ_ _ _ _ _ _=>ba1 λ_=>rfl)) T aS;have jm:=a9o (ki.m (ps:=["self"]) λ_ _ _ _ _ _=>ba1 λ_=>rfl) T hu;have eN:=a9l (fB.m (ps:=["self"]) λ_ _ _ _ _ _=>ba1 λ_=>rfl) T cK;have cC:=c5c (nj.t X G λ_ _ _ _ _ _=>ba1 λ_=>rfl) T ao aY aJ aX jm eN;have hW:=d1i (AtF.t X G cH fy λ_ _ _ _ _ _=>ba1 λ_=>rfl) T cC;have fe:=c7z (AtF.t X G ci kb λ_ _ _ _ _ _=>ba1 λ_=>rfl) T cC;have fm:=d1d (AtF.t X G bV hE λ_ _ _ _ _ _=>ba1 λ_=>rfl) T bH;have cB:=(a9n (hh.m (ps:=["self"]) λ_ _ _ _ _ _=>ba1 λ_=>rfl) T:MethT l.prog w K mg base _ _ _ _ _);have aH:=b2p (nn.m (ps:=["self"]) λ_ _ _ _ _ _=>ba1 λ_=>rfl) T cB;have bi:=b4d (ej.m (ps:=["self"]) λ_ _ _ _ _ _=>ba1 λ_=>rfl) T cB;have da:=b4e (jf.m (ps:=["self"]) λ_ _ _ _ _ _=>ba1 λ_=>rfl) T aH bi;have kr:=b5q (lp.m (ps:=["self"]) λ_ _ _ _ _ _=>ba1 λ_=>rfl) T aH bi;have bZ:=b6r (dX.m (ps:=["self"]) λ_ _ _ _ _ _=>ba1 λ_=>rfl) T kr;have cb:=b0s (hq.m (ps:=["self"]) λ_ _ _ _ _ _=>ba1 λ_=>rfl) T aS aq;have ly:=d1e (AtF.t X G cw nq λ_ _ _ _ _ _=>ba1 λ_=>rfl) T ao bL cb;have hK:=c7x (AtF.t X G cO mS λ_ _ _ _ _ _=>ba1 λ_=>rfl) T ao bk cb;have hH:=(b3y (AtF.v ds λ_ _ _ _ _ _=>ba1 λ_=>rfl) T ap bL aJ aH:FnV l.prog w K mg base aZ 5 ["giver"] (a0i cl));have iB:=(b6o (AtF.v hp λ_ _ _ _ _ _=>ba1 λ_=>rfl) T ap bk aJ da:FnV l.prog w K mg base aL 5 ["giver"] (a1j cl));have mG:=(b5k (AtF.v fT λ_ _ _ _ _ _=>ba1 λ_=>rfl) T ap cc aJ aH bi:FnV l.prog w K mg base aQ 5 ["giver"] (a0t cl));have ni:=d1h (AtF.t X G cY jk λ_ _ _ _ _ _=>ba1 λ_=>rfl) T ap aY aJ cK;have co:=(b0r (kE.m (ps:=["self"]) λ_ _ _ _ _ _=>ba1 λ_=>rfl) T:MethT l.prog w K mg base _ _ _ _ _);have hO:=b4f (ix.m (ps:=["self","marks"]) λ_ _ _ _ _ _=>ba2 λ_ _=>rfl) T kM;have cf:=b9u (kp.m (ps:=["self"]) λ_ _ _ _ _ _=>ba1 λ_=>rfl) T aH da aq;have hC:=(b3x (AtF.v eH λ_ _ _ _ _ _=>ba1 λ_=>rfl) T ao bL aX:FnV l.prog w K mg base aU 5 ["taker"] (a0h cl));have gA:=(b6n (AtF.v fW λ_ _ _ _ _ _=>ba1 λ_=>rfl) T ao bk aX:FnV l.prog w K mg base aW 5 ["taker"] (a1i cl));have dU:=d1k (AtF.t X G cV hD λ_ _ _ _ _ _=>ba1 λ_=>rfl) T ap aY aS kU;have cx:=(b6p (kT.m (ps:=["self"]) λ_ _ _ _ _ _=>ba1 λ_=>rfl) T:MethT l.prog w K mg base _ _ _ _ _);have cN:=b0q (lT.m (ps:=["self"]) λ_ _ _ _ _ _=>ba1 λ_=>rfl) T aq;have fN:=b3z (dA.m (ps:=["self","marks"]) λ_ _ _ _ _ _=>ba2 λ_ _=>rfl) T gq;have cy:=b9q (fK.m (ps:=["self"]) λ_ _ _ _ _ _=>ba1 λ_=>rfl) T aq;have di:=(b2m (np.m (ps:=["self"]) λ_ _ _ _ _ _=>ba1 λ_=>rfl) T:MethT l.prog w K mg base _ _ _ _ _);have hg:=(b5j (AtF.v lO λ_ _ _ _ _ _=>ba1 λ_=>rfl) T ao cc aX aq di:FnV l.prog w K mg base bc 5 ["taker"] (a0s cl));have eb:=c7w (AtF.t X G cP mB λ_ _ _ _ _ _=>ba1 λ_=>rfl) T ao aY hO fN;have kl:=d1l (AtF.t X G cr lm λ_ _ _ _ _ _=>ba1 λ_=>rfl) T ao bv (MethT.lift co ↑3) cN cf cy;have fG:=d1f (AtF.t X G cz fI λ_ _ _ _ _ _=>ba1 λ_=>rfl) T ce (MethT.lift co ↑3) cN cf cy;have cm:=(DT.mk' fC lA (.cons ((FnT.toV fF (mg_of X G ch)).mono ↑3) (.cons ((FnT.toV gl (mg_of X G cE)).mono ↑3) (.cons ((FnT.toV jj (mg_of X G cv)).mono ↑3) (.cons ((FnT.toV eb (mg_of X G cP)).mono ↑3) (.cons ((FnT.toV hW (mg_of X G cH)).mono ↑3) (.cons ((FnT.toV fm (mg_of X G bV)).mono ↑3) (.cons ((FnT.toV fe (mg_of X G ci)).mono ↑3) (.cons ((FnT.toV ga (mg_of X G cI)).mono ↑3) (.cons ((FnT.toV mw (mg_of X G cs)).mono ↑3) (.cons ((FnT.toV gu (mg_of X G cW)).mono ↑3) (.cons ((FnT.toV kl (mg_of X G cr)).mono ↑3) (.cons ((FnT.toV fG (mg_of X G cz)).mono ↑3) .nil)))))))))))) (show(["rouse","clear","mute","marks","look","wish","again","sleep","hush","unwish","card","ring"]:List Str).Nodup by decide):DT l.prog w K mg base cl.d_DEEDS_hand 7 (c6d cl))
 have kR:=(DT.mk' kS dF (.cons ((FnT.toV ly (mg_of X G cw)).mono ↑3) (.cons ((FnT.toV hK (mg_of X G cO)).mono ↑3) (.cons (hH.mono ↑3) (.cons (iB.mono ↑3) (.cons (mG.mono ↑3) (.cons ((FnT.toV ni (mg_of X G cY)).mono ↑3) .nil)))))) (show(["told","lacks","number","left","thing","mark"]:List Str).Nodup by decide):DT l.prog w K mg base cl.d_DEEDS_giver 5 (e4n cl))
 have lu:=(DT.mk' gm jz (.cons (hC.mono ↑3) (.cons (gA.mono ↑3) (.cons (hg.mono ↑3) (.cons ((FnT.toV dU (mg_of X G cV)).mono ↑3) .nil)))) (show(["number","left","thing","free"]:List Str).Nodup by decide):DT l.prog w K mg base cl.d_DEEDS_taker 5 (e4m cl))
 have kv:=b5p (mJ.m (ps:=["self"]) λ_ _ _ _ _ _=>ba1 λ_=>rfl) T kR;have hX:=b5m (fl.m (ps:=["self"]) λ_ _ _ _ _ _=>ba1 λ_=>rfl) T lu;have nf:=(c2u (AtF.m ew bN bz (λ_ _ _ _ _ _=>ba1 λ_=>rfl)) T bZ cm kv ca:MethT l.prog w K mg base cl.Giver "step" 8 ["self"] (c0q cl true));have gD:=(c2l (AtF.m lb bN bz (λ_ _ _ _ _ _=>ba1 λ_=>rfl)) T (MethT.lift cx ↑3) cm hX ca:MethT l.prog w K mg base cl.Taker "step" 8 ["self"] (c0q cl false));have cS:=(c5a (eh.t X G λ_ _ _ _ _ _=>ba2 λ_ _=>rfl) T:FnT l.prog w K mg base _ _ _ _);have mR:=c2w (fU.m (ps:=["self","order"]) λ_ _ _ _ _ _=>ba2 λ_ _=>rfl) T cS;have cD:=b6q (gP.m (ps:=["self","order"]) λ_ _ _ _ _ _=>ba2 λ_ _=>rfl) T mR;have db:=c4z (gS.t X G λ_ _ _ _ _ _=>ba2 λ_ _=>rfl) T (c6t cS);have cp:=(b9j (jX.t X G λ_ _ _ _ _ _=>ba1 λ_=>rfl) T:FnT l.prog w K mg base _ _ _ _);have cM:=b8m (hv.m (ps:=["self"]) λ_ _ _ _ _ _=>ba1 λ_=>rfl) T cp;have cL:=c2n (gn.m (ps:=["self"]) λ_ _ _ _ _ _=>ba1 λ_=>rfl) T cp;have gV:=(c5r (AtF.m bW kj cZ λ_ _ _ _ _ _=>ba5 λ_ _ _ _ _=>rfl) T:MethT l.prog w K mg base _ _ _ _ _);have bU:=(MethT.toBase gV bW ⟨eW,⟨.type "type",gY,hA⟩,cZ.k⟩ T.c_Hand.m:d5m l.prog w K mg base "Hand" "__init__" 1 ["self","board","name","other","stage_behind_marks"] (a5e cl));have mM:=c2v (jw.m (ps:=["self","board","orders"]) λ_ _ _ _ _ _=>ba3 λ_ _ _=>rfl) T db bU;have fZ:=mM.make dQ iA T.c_Giver.m;have er:=c2m (iD.m (ps:=["self","board","book"]) λ_ _ _ _ _ _=>ba3 λ_ _ _=>rfl) T db bU;have gr:=er.make ei ed T.c_Taker.m;have cU:=b2o (ka.m (ps:=["self","orders"]) λ_ _ _ _ _ _=>ba2 λ_ _=>rfl) T fZ;have cQ:=b2n (mp.m (ps:=["self","book"]) λ_ _ _ _ _ _=>ba2 λ_ _=>rfl) T gr;have cg:=b4a (iJ.m (ps:=["self","hand"]) λ_ _ _ _ _ _=>ba2 λ_ _=>rfl) T bq;have mu:=c5n (go.m (ps:=["self","hand"]) λ_ _ _ _ _ _=>ba2 λ_ _=>rfl) T cg nf gD;have bF:=c5q (ib.m (ps:=["self"]) λ_ _ _ _ _ _=>ba1 λ_=>rfl) T cL;have ju:=b9r (lB.m (ps:=["self"]) λ_ _ _ _ _ _=>ba1 λ_=>rfl) T cM;have dl:=c5p (eJ.m (ps:=["self","hand"]) λ_ _ _ _ _ _=>ba2 λ_ _=>rfl) T bq cU cQ cM cL;have kV:=c5o (mU.m (ps:=["self","size"]) λ_ _ _ _ _ _=>ba2 λ_ _=>rfl) T jV cU cQ;have mm:=kV.make lv kq T.c_Lane.m;have lI:=(b9t (AtF.m mI bG bO (λ_ _ _ _ _ _=>ba1 λ_=>rfl)) T:MethT l.prog w K mg base _ _ _ _ _);have fo:=b5o (AtF.m iH bw bI (λ_ _ _ _ _ _=>ba1 λ_=>rfl)) T bg aI;have nd:=b9s (AtF.m lL bt bj (λ_ _ _ _ _ _=>ba1 λ_=>rfl)) T bZ fo;have dJ:=(b9p (AtF.m hr bG bO (λ_ _ _ _ _ _=>ba1 λ_=>rfl)) T:MethT l.prog w K mg base _ _ _ _ _);have gH:=b5l (AtF.m eI bw bI (λ_ _ _ _ _ _=>ba1 λ_=>rfl)) T bg aI;have lE:=b9o (AtF.m jq bt bj (λ_ _ _ _ _ _=>ba1 λ_=>rfl)) T (MethT.lift cx ↑3) gH;have hF:=c2o (ng.m (ps:=["self","hand"]) λ_ _ _ _ _ _=>ba2 λ_ _=>rfl) T cg lI dJ;have jn:=c2p (lR.m (ps:=["self"]) λ_ _ _ _ _ _=>ba1 λ_=>rfl) T nd lE;have cu:=c2q (iW.m (ps:=["self"]) λ_ _ _ _ _ _=>ba1 λ_=>rfl) T bg;have bo:=(a9m (ec.m (ps:=["self","hand"]) λ_ _ _ _ _ _=>ba2 λ_ _=>rfl) T hd:MethT l.prog w K mg base _ _ _ _ _);have dv:=c5t (hx.m (ps:=["self","hand"]) λ_ _ _ _ _ _=>ba2 λ_ _=>rfl) T bo (MethT.frame (MethT.lift mu ↑3));have bX:=c2r (gy.m (ps:=["self","hand"]) λ_ _ _ _ _ _=>ba2 λ_ _=>rfl) T bo hF;have eZ:=b5n (lx.m (ps:=["self"]) λ_ _ _ _ _ _=>ba1 λ_=>rfl) T cu;have mk:=b4c (kQ.m (ps:=["self"]) λ_ _ _ _ _ _=>ba1 λ_=>rfl) T cu;have mx:=(b8l (lW.m (ps:=["self"]) λ_ _ _ _ _ _=>ba1 λ_=>rfl) T:MethT l.prog w K mg base _ _ _ _ _);have aC:=b8k (hN.m (ps:=["self"]) λ_ _ _ _ _ _=>ba1 λ_=>rfl) T bF;have nm:=c2s (gg.m (ps:=["self"]) λ_ _ _ _ _ _=>ba1 λ_=>rfl) T aC (MethT.lift jn ↑3);have ft:=c5v (gR.m (ps:=["self","side"]) λ_ _ _ _ _ _=>ba2 λ_ _=>rfl) T hsd bo (MethT.frame dl);have cF:=(d6q (lh.t X G λ_ _ _ _ _ _=>ba1 λ_=>rfl) T:FnT l.prog w K mg base _ _ _ _);have fp:=c5s (ms.m (ps:=["self"]) λ_ _ _ _ _ _=>ba1 λ_=>rfl) T cF ju;have dx:=c2t (lt.m (ps:=["self"]) λ_ _ _ _ _ _=>ba1 λ_=>rfl) T cF bF;have jB:=(c5w (lV.m (ps:=["self"]) λ_ _ _ _ _ _=>ba1 λ_=>rfl) T:MethT l.prog w K mg base _ _ _ _ _);have jp:=d1m (eK.m (ps:=["self","place"]) λ_ _ _ _ _ _=>ba2 λ_ _=>rfl) T aC bF (MethT.frame (b7c cD));have nl:=c5u (ml.m (ps:=["self","out_size","back_size"]) λ_ _ _ _ _ _=>ba3 λ_ _ _=>rfl) T (MakeT.frame mm);have eY:=nl.make li dd T.c_Hall.m;have gW:=c5x (fi.m (ps:=["self","order"]) λ_ _ _ _ _ _=>ba2 λ_ _=>rfl) T (MethT.frameOr cD);have gs:=d1c (la.t X G λ_ _ _ _ _ _=>ba1 λ_=>rfl) T bX aC jB fp dx mx eZ mk nm;have kB:=d1b (iu.t X G λ_ _ _ _ _ _=>ba1 λ_=>rfl) T aM;have ct:=c5h (iR.t X G λ_ _ _ _ _ _=>ba3 λ_ _ _=>rfl) T jt iq lg (MethT.frameOr dv) bX (MethT.frameOr ft) (MethT.frameOr jp) (MethT.frameOr gW);have dO:=b9l (gt.t X G λ_ _ _ _ _ _=>ba3 λ_ _ _=>rfl) T aM kB aC gs ct;have fQ:=e2p mt T nh aM gc kt (MakeT.frame eY) aC dO ct;exact fQ
theorem walk{l:PySem.W.OpenLaw}{q:Program}{loose:List Str}{XP:(Str->Option Value)->Heap->Prop}{YP:World->Heap->Prop}{d:DefRec}{K:Params->Frag}(hn:l.most=some 63)(hdf:d.params.defaults=[])(hY:∀(w:World) (h:Heap),YP w h->(K w.params).In h)(F:∀(w:World) (mg:Str->Option Value) (fa:Addr) (h:Heap),(K w.params).In h->h.Ns mainGlobals mg->mg d.name=some (.ref fa) ->
   ∃fd:FuncData,(∀(s:Shared) (u:Value),BindsTo s fd ⟨[u],[]⟩ [("script",u)])/\∀base:Heap,(K w.params).In base->base.Ns mainGlobals mg->FnOk l.prog w (K w.params) mg base (CXK l.prog w) 14 fa fd ["script"] (c9b (K w.params))):
  PySem.W.WalkO q loose XP YP l.row.toRowW d [] (λf vs=>PySem.call f vs) :=
 L2.walk_of (n:=63) (k:=14) (x:="script") (CX:=λw=>CXK l.prog w) (sp:=λw=>c9b (K w.params)) hn ↑3 hdf ⟨rfl,by decide,by decide⟩ hY F (λ_ _ a ns hl _ hS=>⟨a,ns,rfl,hS,hl,λ_=>rfl⟩)
  λ_ _ _ _ _ z=>by obtain⟨_,_,_,_,_,q⟩:=z;exact q
end S
open PySem PySem.W PyProof.Rows
set_option maxRecDepth 100000
set_option maxHeartbeats 0
theorem PySem.Challenge.cw_slipring_k22_hall_refusals_holds : PySem.Challenge.rw_slipring_k22_hall_refusals.Holds := by
 refine hd ?_
 k_fill
 refine S.walk (l := PySem.Challenge.rw_slipring_k22_hall_refusals) rfl rfl (fun w h Y => PySem.W.kIn_of Y) ?F
 case F =>
  intro w mg fa h KX G hmg
  apply S.all_mk (X := KX) (G := G) (hfa := hmg)
  all_goals try (first | k_is | kit_is | kts_exm | kernel_rfl)
  all_goals first | (refine' S.AtG.of ?d ?a ?b ?c; (case d => k_is); (case a => k_is); (case b => k_is); (case c => k_is)) | (refine' S.AtM.of ?d ?i ?a ?b ?c; (case d => k_is); (case i => k_is); (case a => k_is); (case b => k_is); (case c => k_is)) | (refine' S.AtF.of ?a ?b ?c; (case a => k_is); (case b => k_is); (case c => k_is)) | skip
