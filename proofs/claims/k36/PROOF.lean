import PyProof.Rows.All
import OpenK.KLine
import Lean
import PyProof.EqAt
import PyProof.EqKinds
import PyProof.TupleCall
import PyProof.NsDelKeeps
import PyProof.NeKinds
import PyProof.CompFree
import PyProof.CompMap
import KE.LcSums
import PyProof.CompUse
import PyProof.Rows.RuleIs
import PyProof.Rows.RuleIs2
import PyProof.ZipIter
import PyProof.DictKinds
import PyProof.DictRoads
import PyProof.AutoRange
import PyProof.FactsAll.range_1
import KE.KTryMore
import PyProof.StrCalls2
import PyProof.CallStr
import PyProof.SliceStr2
import PyProof.StrOps2
import PyProof.StrLawsChain
import PyProof.StrLawsTight
import PyProof.StrWalks
import PyProof.EnumMake
import KE.KIntText
import PyProof.Rows.Range3
import PyProof.AutoSeq1
import PyProof.AutoListH
import PyProof.FitsReplace
import PyProof.Rows.FStr
import PyProof.Rows.Chain
import PyProof.SeqRoads
import PyProof.ListOps
import PyProof.ListMulAny
import PyProof.FactsAll.tuple_2
import KE.KDictOf
import KE.KDictList
import KE.KFromBytes
import KE.KIsAll
import KE.KItem
import KE.KxBytes
import KE.RegKIsAll
import KE.RegKTryMore
import PySem.Challenge.RW_slipring_k36_stands_refused
set_option Elab.async false
set_option linter.all false
set_option maxRecDepth 100000
set_option maxHeartbeats 4000000
section
open PySem PySem.W PyProof.Rows
set_option maxRecDepth 100000
set_option maxHeartbeats 0
theorem hk2{K:Params->Frag}{as:List Addr}(n m:Nat)(e:∀P,as=(K P).map (·.1))(w:World)(s:Shared)(x:((as.take n).map s.heap.get?,((as.drop n).take m).map s.heap.get?,((as.drop n).drop m).map s.heap.get?)=(((K w.params).take n).map (λp=>some p.2),(((K w.params).drop n).take m).map (λp=>some p.2),(((K w.params).drop n).drop m).map λp=>some p.2)):InK K w s.heap:=InK.of e w s (by simpa only[<-List.map_append,List.take_append_drop] using congr (congrArg (·++·) (Prod.mk.inj x).1) (congr (congrArg (·++·) (Prod.mk.inj (Prod.mk.inj x).2).1) (Prod.mk.inj (Prod.mk.inj x).2).2))
set_option hygiene false in
local macro_rules|`(tactic| refine $hd ($n1 := $v1) ($n2 := $v2) ($n3 := $v3) ($n4 := $v4) ($n5 := $_ ($_ $k $a $e)) ($n6 := $_) ($n7 := $v7) ($n8 := $v8) $x1 $_ $x3 $x4 $x5 $x6 $x7 $x8 $x9 $x10 $x11 $x12 $x13 $x14 $x15)=>`(tactic| refine $hd ($n1 := $v1) ($n2 := $v2) ($n3 := $v3) ($n4 := $v4) ($n5 := fun s=>(List.map s.heap.get? (List.take 300 $a),List.map s.heap.get? (List.take 300 (List.drop 300 $a)),List.map s.heap.get? (List.drop 300 (List.drop 300 $a)))) ($n6 := fun w=>(List.map (fun p=>some p.2) (List.take 300 ($k w.params)),List.map (fun p=>some p.2) (List.take 300 (List.drop 300 ($k w.params))),List.map (fun p=>some p.2) (List.drop 300 (List.drop 300 ($k w.params))))) ($n7 := $v7) ($n8 := $v8) $x1 (hk2 300 300 $e) $x3 $x4 $x5 $x6 $x7 $x8 $x9 $x10 $x11 $x12 $x13 $x14 $x15)
namespace PySem.W.Fast
def tw10118262284458037933:=()
def tw10368827614151553891:=()
def tw10374632558016547081:=()
def tw10627929193734500438:=()
def tw11185208467959745375:=()
def tw11297082531147528311:=()
def tw11589282660436910429:=()
def tw1199778389340961280:=()
def tw12086165298297349353:=()
def tw12145756527313086355:=()
def tw12266775087360158831:=()
def tw12311460544303994412:=()
def tw12405761042648551022:=()
def tw12570975699059507551:=()
def tw12594988378385778876:=()
def tw12620873455715996183:=()
def tw12731152576971404446:=()
def tw13265978090383273239:=()
def tw13487321009054303282:=()
def tw14024141229114651172:=()
def tw14565471765716263578:=()
def tw14719407761968382529:=()
def tw14783254181412418846:=()
def tw14800370929953404514:=()
def tw15018716904364860632:=()
def tw15279809834360698895:=()
def tw15491626551210286737:=()
def tw16309421147987452847:=()
def tw16506471722634982818:=()
def tw16585781011713774839:=()
def tw16763866822274819948:=()
def tw16770087069513940195:=()
def tw17092438276332644688:=()
def tw1723517241395956516:=()
def tw17482639533403790598:=()
def tw17642196800702610994:=()
def tw17689344090056996911:=()
def tw2034817482908223496:=()
def tw243476719192100926:=()
def tw2575207979326191193:=()
def tw2704721811340150792:=()
def tw2875624504187281209:=()
def tw2954614243515740140:=()
def tw3507769193172341495:=()
def tw3842124299848058855:=()
def tw3945831679567021610:=()
def tw4208662517403834488:=()
def tw4580019852769339753:=()
def tw4843829748527759242:=()
def tw5605212467757751356:=()
def tw6142308504856091916:=()
def tw6541414838301892039:=()
def tw6594970650091316094:=()
def tw6605169337270321112:=()
def tw6621635546502472408:=()
def tw6965160127038755240:=()
def tw7307193912827966761:=()
def tw7478123994339007903:=()
def tw7481667108035081975:=()
def tw7542435708000544768:=()
def tw7774113678449685934:=()
def tw8129399028645417746:=()
def tw8156932348028877967:=()
def tw8282588126930224528:=()
def tw861502493610598483:=()
def tw8854275682344465072:=()
def tw8997383693586321770:=()
def tw9008850468323821753:=()
def tw9023412946914863120:=()
def tw9110073282318264632:=()
def tw9259029739297239135:=()
def tw9363214764283991203:=()
def tw936819479794009207:=()
def tw9385439782273163706:=()
def tw938635154573522699:=()
def tw9748963638045825119:=()
def tw986278823301348609:=()
def tw9021512583242451115:=()
def tw6069091910746083574:=()
def tw16567430530900736849:=()
def tw17709682647362318638:=()
def tw12528221419883600679:=()
def tw13872120688422071045:=()
def tw13349420017058727143:=()
def tw15870398105094248349:=()
def tw8274446707539698164:=()
def tw13032259773685033708:=()
def tw13348088958985639553:=()
def tw11151835277377553703:=()
def tw14454166528178196959:=()
def tw3500664145855060485:=()
def tw247591363613054380:=()
def tw14847308668706973960:=()
def tw1467881925912835984:=()
def tw16248296213531012650:=()
def tw8200933086455070860:=()
def tw11528934572451240923:=()
def tw9655281029701231213:=()
def tw1120146192862113682:=()
def tw14268830182029614214:=()
def tw7023308130246883398:=()
def tw13276436781325740190:=()
def tw15953416312037357384:=()
def tw6208234166052928443:=()
def tw2522873777367772731:=()
def tw16910682758080094250:=()
def tw10812264484755990959:=()
def tw11309729885235320649:=()
def tw14395229220575146634:=()
def tw7869599669555149457:=()
def tw426146867159116480:=()
def tw14084115638905955733:=()
def tw8124373631093271590:=()
def tw5459702643516471331:=()
def tw17821608616734188562:=()
def tw6028100715908834776:=()
def tw16272875310710641041:=()
def tw13689073554212954350:=()
def tw6575520176995025181:=()
def tw18224062797491409168:=()
def tw15554417296805563061:=()
def tw7104112695450043525:=()
def tw16060203290454839817:=()
def tw14958820412457663293:=()
def tw16300069114588366833:=()
def tw15685335758407661847:=()
def tw6128106870883400570:=()
def tw2113382385176565475:=()
def tw15227483606004533461:=()
def tw5137589814051832496:=()
def tw994754419278398160:=()
def tw16822532161544500889:=()
def tw17014754193936795334:=()
def tw13815879993143645011:=()
def tw16422413458241162112:=()
def tw17880270911999261196:=()
def tw4704452742865826424:=()
def tw15401437161963490237:=()
def tw5322009542560784348:=()
def tw4073927430937135101:=()
def tw13791243171338348793:=()
def tw5341865396476803018:=()
def tw4134935700529181348:=()
def tw889511709632714148:=()
def tw17518593693041627797:=()
def tw12674610127229643151:=()
def tw12325864989022198202:=()
def tw431221854992830470:=()
def tw11757307120078846540:=()
def tw9103314591280073668:=()
def tw9252304221032618942:=()
def tw13716781843517864737:=()
def tw3233925636175528570:=()
def tw1045582712504079209:=()
def tw4600438763894957952:=()
def tw296083027919845158:=()
def tw11326833031881921752:=()
def tw11280630913190679075:=()
def tw17951090304560329564:=()
def tw3208522521903949160:=()
def tw12461081396071149458:=()
def tw3394231194617021968:=()
def tw7164969610272591079:=()
def tw14607143338591219252:=()
def tw1768086284304361515:=()
def tw1835201335921387983:=()
def tw759444976309323886:=()
def tw5404398260228975080:=()
def tw12330612334027959195:=()
def tw3262129087571756144:=()
def tw12468840222048715292:=()
def tw11468729153070441980:=()
def tw2386784164831690217:=()
def tw14571933256774908962:=()
def tw14681211605479760352:=()
def tw11180800956215176064:=()
def tw3726453103677007866:=()
def tw2134106378703910346:=()
def tw14201609532424774689:=()
def tw13215348057498601715:=()
def tw12901003280762261817:=()
def tw4189273013823423559:=()
def tw8140498317509980888:=()
def tw16140922888777852060:=()
def tw9007994994280594889:=()
def tw17815607195125022230:=()
def tw16080672043311297529:=()
def tw86012387029904805:=()
def tw5809018184121017179:=()
def tw17278973380088787663:=()
def tw3538781236444307513:=()
def tw2990168724187919761:=()
def tw7350462372000428638:=()
def tw8297923619242306668:=()
def tw4102176305081739490:=()
def tw10988312798546598065:=()
def tw15969335453137586327:=()
def tw354308444213283272:=()
def tw1663524305781585820:=()
def tw7900394595670775223:=()
def tw2759820280622596849:=()
def tw6331431999304432861:=()
def tw15052318979288761249:=()
def tw1342123614928995077:=()
def tw11524815483048965402:=()
def tw2894314189432023629:=()
def tw12798174099139212305:=()
def tw10888863842102328177:=()
def tw11353268068134783573:=()
def tw4490611911172417597:=()
def tw2711285566114655019:=()
def tw14617222483516278133:=()
def tw6325675986683464353:=()
def tw14569604634059749682:=()
def tw172746767574481773:=()
def tw4470585836733325578:=()
def tw17137270108147033825:=()
def tw9744259246892133002:=()
def tw8915285831880473931:=()
def tw18361725300881549022:=()
def tw11512705759438076691:=()
def tw13394580363473044415:=()
def tw599730875272715187:=()
def tw6828597562223498359:=()
def tw1039362940862242169:=()
def tw14261769069557060686:=()
def tw8022291803879963045:=()
def tw10978663064860593548:=()
def tw17963105932079019327:=()
def tw13996866031312336078:=()
def tw12396662096508845406:=()
def tw8092133141245296854:=()
def tw1860734739432930892:=()
def tw12154713052878595195:=()
def tw7509565986652818475:=()
def tw14334995849660946996:=()
def tw2956708394376553000:=()
def tw4051853165826885262:=()
def tw5285915839522022235:=()
def tw3592811809046731828:=()
def tw7374399212775623666:=()
def tw4884199854448574:=()
def tw6849458675059513701:=()
def tw6208910965292489261:=()
def tw11408881796089955267:=()
def tw3099597729799864441:=()
def tw11033627544408312984:=()
def tw4046790133079468173:=()
def tw16489938334050473467:=()
def tw13669536469129627823:=()
def tw657363778140553363:=()
def tw9113380124883318265:=()
def tw6959760065888838309:=()
def tw11837218909656210887:=()
def tw3778530596728393105:=()
def tw6526287140368922620:=()
def tw5549462626962044060:=()
def tw16531682779099013679:=()
def tw8865387616306378214:=()
def tw5909976876416983842:=()
def tw10295913840692754127:=()
def tw3652199383789512132:=()
def tw8909772338491405060:=()
def tw13710940844802916613:=()
def tw12717557048674177747:=()
def tw17382457898008728272:=()
def tw16721508838639397229:=()
def tw7002614004127435958:=()
def tw12003660372656728261:=()
def tw16116027297012810434:=()
def tw15090471055790725799:=()
def tw1956775160557780875:=()
def tw15475723433398761304:=()
def tw15978794797337165890:=()
def tw819570635367399668:=()
def tw123454888095987114:=()
def tw5369961537445033690:=()
def tw12921946191010883867:=()
def tw1922157984580058403:=()
def tw16003985067176294414:=()
def tw694261584828832409:=()
def tw8331849164307833061:=()
def tw9197174079833555027:=()
def tw6900931685637148767:=()
def tw8115137120850386438:=()
def tw12048842499501423295:=()
def tw14995258362815363992:=()
def tw17883462748017686043:=()
def tw9358312197846296583:=()
def tw6651725471809605288:=()
def tw14934011241717051027:=()
def tw12542895121996172375:=()
def tw6984818610989830729:=()
def tw9290941167410434389:=()
def tw9869809959619462935:=()
def tw5274481202262711730:=()
def tw8950108695139179302:=()
def tw15675013803050531044:=()
def tw3581434408401558974:=()
def tw17216001249096748393:=()
def tw10158677189637292467:=()
def tw761803264340522177:=()
def tw1198783387198779033:=()
def tw17946048357616127039:=()
def tw4517560463748656503:=()
def tw13367274342830030513:=()
def tw17621402118570541597:=()
def tw10550934584343373414:=()
def tw5449563278759341024:=()
def tw2931988195819169919:=()
def tw16864618592142003386:=()
def tw15438627641174518403:=()
def tw7353485770183898095:=()
def tw17613222154834848340:=()
def tw4096438862311573950:=()
def tw7484994123860896570:=()
def tw13205091638197436094:=()
def tw7181997581385953548:=()
def tw2244103112122482387:=()
def tw13855379610559885079:=()
def tw9159244108252522374:=()
def tw13160504802963445071:=()
def tw17312402878845073609:=()
def tw11024694936033576346:=()
def tw3049343062529576306:=()
def tw13437419889732721216:=()
def tw9461873434466728008:=()
def tw646091604453992162:=()
def tw5239429619861171699:=()
def tw8171798328758944481:=()
def tw11322711164460184488:=()
def tw5240077947681225987:=()
def tw384561282630992784:=()
def tw7348359970506387005:=()
def tw3418139289079602111:=()
def tw13257414776242894994:=()
def tw13861969467909019144:=()
def tw13601115934706021691:=()
def tw7933485763601977624:=()
def tw10953238642706405951:=()
def tw11775309618099378426:=()
def tw1692201390411429781:=()
def tw14811890972901180937:=()
def tw9045458381397004210:=()
def tw5870289073803223750:=()
def tw13366278800048369731:=()
def tw6060609690816243450:=()
def tw18066248841608746250:=()
def tw12770481643036789091:=()
def tw12488014758255163090:=()
def tw5072417060200589145:=()
def tw8757050672659960515:=()
def tw1642651162322924780:=()
def tw9937656116252222267:=()
def tw6472337539984862722:=()
def tw1517009173149250642:=()
def tw4341293187932698999:=()
def tw14284835775768690865:=()
def tw6607644564249050058:=()
def tw6714880395473160397:=()
def tw16766484511958638138:=()
def tw10539347186207431242:=()
def tw5662061979359257339:=()
def tw11844019762684407370:=()
def tw13575289164829896131:=()
def tw14404928986312190071:=()
def tw12598634822720690771:=()
def tw10551173667578312727:=()
def tw10826640976665885199:=()
def tw10481595219057158497:=()
def tw5890639436620234070:=()
def tw11793702604926673555:=()
def tw9399754086935153974:=()
def tw7091221385724896812:=()
def tw4186743451310774866:=()
def tw3395767286715763500:=()
def tw14940998509354871970:=()
def tw18127189064453720709:=()
def tw5953359166732830163:=()
def tw13082796549270168242:=()
def tw16998588944726240723:=()
def tw10085292869130188298:=()
def tw5812350808301622050:=()
def tw8757255369765604158:=()
def tw10095894221667365369:=()
def tw5205737364524765896:=()
def tw5263133172445716209:=()
def tw7828442866392281868:=()
def tw12360917755211006479:=()
def tw2846267367221353805:=()
def tw4993863958327201973:=()
def tw7998583776865276027:=()
def tw8293125293789966914:=()
def tw8833860146974802555:=()
def tw9931937742245647033:=()
def tw9818998656811842119:=()
def tw17696404316872724479:=()
def tw5948871876076421671:=()
def tw11107512795663914464:=()
def tw14260533273033392520:=()
def tw14036186469904095446:=()
def tw9768259533172459722:=()
def tw14201004317487731011:=()
def tw4470468392277007246:=()
def tw12315944733273679750:=()
def tw2759284407945088205:=()
def tw16145670418848962200:=()
def tw2997480634906808460:=()
def tw12936088452001202715:=()
def tw11220919329744738794:=()
def tw10388488172074580225:=()
def tw13313058339493701161:=()
def tw4340673293219707767:=()
def tw5371794888043636658:=()
def tw4773484457636388862:=()
def tw4683681711962371626:=()
def tw17871049288011112270:=()
def tw3512428149003415425:=()
def tw2358075552688931204:=()
def tw15418674001244492974:=()
def tw12132596417379514657:=()
def tw12954591660760965231:=()
def tw17431205604353252913:=()
def tw11449968299874610285:=()
def tw10297410513487048360:=()
def tw5019544711922104826:=()
def tw11499599281419925204:=()
def tw10146569101766770184:=()
def tw6141218239328293737:=()
def tw5299906598163831158:=()
def tw3344036261162260069:=()
def tw14689541978594310382:=()
def tw3328118118096588273:=()
def tw16670193898709178398:=()
def tw15606232699630949786:=()
def tw3340072933214586257:=()
def tw4290864757253303354:=()
def tw4776297677400877519:=()
def tw14294133066467233204:=()
def tw17721149768220346479:=()
def tw15792790952358468732:=()
def tw13307065042914920193:=()
def tw6125853113672642322:=()
def tw15499940227032437249:=()
def tw11548872703181320951:=()
def tw5364010647548929812:=()
def tw9186807149237001177:=()
def tw2595585439558603231:=()
def tw9294201344175945319:=()
def tw3856712824231086281:=()
def tw5286648830458609394:=()
def tw8428246938381088814:=()
def tw13333588703604149420:=()
def tw10094733558918713432:=()
def tw14654036626916492617:=()
def tw866652123128751154:=()
def tw2595618661548880785:=()
def tw1864683662541468164:=()
def tw16482945937283002268:=()
def tw11401859456886640639:=()
def tw15481805183316651443:=()
def tw11023239771855094739:=()
def tw622995879521568732:=()
def tw18248855084332350957:=()
def tw4971374062829452455:=()
def tw17397653436517662659:=()
def tw13343301709244559618:=()
def tw8047209995159408440:=()
def tw182723221234572337:=()
def tw15117199230931547845:=()
def tw14755158882433999464:=()
def tw12550775161083096063:=()
def tw3308634892276815127:=()
def tw13343918040275786880:=()
def tw18101783494082082527:=()
def tw15433366417846715934:=()
def tw11219443903484984970:=()
def tw3997487885647526937:=()
def tw2084650752826471497:=()
def tw9496581404884138560:=()
def tw7725179484283634976:=()
def tw4046687200572763549:=()
def tw13631397514672939371:=()
def tw6277071023269222880:=()
def tw7574704160914276066:=()
def tw17525541185626968058:=()
def tw8219003486749837733:=()
def tw3641951560692057861:=()
def tw4548300405975405348:=()
def tw3042748168174471775:=()
def tw17760279517084355780:=()
def tw17318462890700432884:=()
def tw12681666616541194006:=()
def tw17817366049700826239:=()
def tw11564986514327137767:=()
def tw6945566481307383155:=()
def tw5078490731148736755:=()
def tw4946147512530127568:=()
def tw17510684818845775701:=()
def tw10958628066121416707:=()
def tw9676783613728631035:=()
def tw9536688357841153863:=()
def tw17338325484393633139:=()
def tw2924541821543861793:=()
def tw6248682570935725439:=()
def tw3801850119919557013:=()
def tw17267597263503486738:=()
def tw8908233856664302321:=()
def tw7424060955962978353:=()
def tw14827714588952709054:=()
def tw14760874974797668852:=()
def tw1205274952441263945:=()
def tw14935467056822913822:=()
def tw8432719020341155521:=()
def tw5960047855520388891:=()
def tw8733291241859026926:=()
def tw1956260828630720203:=()
def tw14370502638603547748:=()
def tw15593559885672580101:=()
def tw3985964047577975286:=()
def tw5004237944150599380:=()
def tw9331231397406362311:=()
def tw2626352410262643278:=()
def tw14594842627406614536:=()
def tw3300257896294614128:=()
def tw12382822922155266910:=()
def tw8191318114535113306:=()
def tw7322748291113730364:=()
def tw6856243202995728640:=()
def tw9860861378791804195:=()
def tw87601786513091389:=()
def tw4569624873401867573:=()
def tw3520257249291928256:=()
def tw9767487789085045792:=()
def tw908424960236905474:=()
def tw8916268530333523031:=()
def tw13650137169024231138:=()
def tw11662115353561507501:=()
def tw5537553045615171315:=()
def tw3543459598558145280:=()
def tw2941924889016668590:=()
def tw15402603294489630176:=()
def tw14196522196718054806:=()
def tw3239113980409921550:=()
def tw9104974531708491489:=()
def tw11962351593759143498:=()
def tw4026147355466621588:=()
def tw1177135801721737414:=()
def tw8002303944043701648:=()
def tw11907897558876765624:=()
def tw8397711864191134371:=()
def tw8157277791214410489:=()
def tw2259672571474061568:=()
def tw9972681490609642005:=()
def tw699815216081779126:=()
def tw4538635040379822027:=()
def tw3235425350174046738:=()
def tw2773992215795510196:=()
def tw10161179621583223854:=()
def tw15504105790966721872:=()
def tw9003107776662980439:=()
def tw17234092154637527361:=()
def tw896239598344801917:=()
def tw8590580007683888701:=()
def tw4635989785427082552:=()
def tw16409965706819354750:=()
def tw11566098044289413073:=()
def tw6836311816226760740:=()
def tw539538531456391632:=()
def tw6170744672141170255:=()
def tw11707130962622978684:=()
def tw4333590680753393835:=()
def tw7520747337044880989:=()
def tw8912161614967838395:=()
def tw18418582437962087742:=()
def tw7307589515853891572:=()
def tw17351735930882485243:=()
def tw14556482736207283325:=()
def tw1000662321505670351:=()
def tw3721919958574915784:=()
def tw13757698761724263525:=()
def tw11402884983299125971:=()
def tw9456574344343218679:=()
def tw7480016910919988345:=()
def tw5438652380644606353:=()
def tw15779231459743154856:=()
def tw12772213712371865176:=()
def tw8984893954669693527:=()
def tw258204147387103276:=()
def tw9977182230042388008:=()
def tw9879335643197240621:=()
def tw6968137755033780318:=()
def tw5702276774652866934:=()
def tw2455152089536381482:=()
def tw2353497105660221152:=()
def tw17894200724404610344:=()
def tw16670775579421159206:=()
def tw16120054744476736488:=()
def tw12269216009862288129:=()
def tw11429584451438056573:=()
def tw2333105410213810865:=()
def tw3404582446824842373:=()
def tw16967752826634114842:=()
def tw10236332898609347644:=()
def tw9081141117686163416:=()
def tw6690350156832105676:=()
def tw11095110211248682772:=()
def tw6371681595782443002:=()
def tw17410218998227585676:=()
def tw7046044490832178742:=()
def tw17678831435119133177:=()
def tw16654469307462801742:=()
def tw17583645235957782780:=()
def tw15572387867429868682:=()
def tw6880980288501444468:=()
def tw13462424878891718212:=()
def tw11480707628889460467:=()
def tw15240619367488684849:=()
def tw7873748247521183178:=()
def tw29767737687375428:=()
def tw12314708539913122752:=()
def tw12250869413391326473:=()
def tw3438699932752214802:=()
def tw15541240446876304647:=()
def tw11481637867367846703:=()
def tw866717566613908145:=()
def tw3297117884562324255:=()
def tw12099505692703838030:=()
def tw5055593616971399804:=()
def tw1125065396945160393:=()
def tw577049184839899653:=()
def tw7231845647793152400:=()
def tw6044648929357246223:=()
def tw3971525946579005399:=()
def tw15831126876759372255:=()
def tw15577281813014381367:=()
def tw12607631887931218998:=()
def tw2983494736656345032:=()
def tw2132029292895624192:=()
def tw5610444585433571239:=()
def tw15910123707662034135:=()
def tw6058616519681280931:=()
def tw18383651708701053236:=()
def tw18275455617680221203:=()
def tw18031968618487185184:=()
def tw14801369171006070438:=()
def tw14671739901194505220:=()
def tw1303901927050219478:=()
def tw10844150739181073093:=()
def tw4860023922305330110:=()
def tw16053306600634468012:=()
def tw15166322114958858414:=()
def tw16378183091871739711:=()
def tw16247262843940693239:=()
def tw12738610918357793766:=()
def tw12132732476715806282:=()
def tw11513857634932158529:=()
def tw4607425872040536859:=()
def tw17937168697417666835:=()
def tw15621415185263527259:=()
def tw5832146486336120021:=()
def tw4772062507164038959:=()
def tw13248138572728291248:=()
def tw8398943975594018772:=()
def tw5037459499596335280:=()
def tw18400553757987027518:=()
def tw13567515925198824819:=()
def tw5226586810942512283:=()
def tw7873786274422454737:=()
def tw5649666937502919571:=()
def tw306047672372848657:=()
def tw10244483600429949813:=()
def tw13385558918117058561:=()
def tw2135409205425526673:=()
def tw17170472223608059050:=()
def tw16109456028575089023:=()
def tw9387514328989991554:=()
end PySem.W.Fast
open_top hd for PySem.Challenge.rw_slipring_k36_stands_refused
end
open PySem.W (Frag findIn nsIn mg_of mroIn keepIn kia_one excIn clsIn isFn mg_none_of plainGet hasDictIn makesIn codeIn exmAny plainOver callWith_K kitOne specialIn exmOne)
set_option hygiene false
local macro_rules
| `(↑1)=>`(⟨rfl,rfl,rfl,by decide +kernel,rfl,by decide +kernel,by decide +kernel⟩)
| `(↑2)=>`((l8 G_law_take hr (by decide) rfl j8 (d5 (pv 0) (d5 d9 d6))))
| `(↑3)=>`((@d5 _ _ _ _ _ i9 (@d5 _ _ _ _ _ i9 (@d5 _ _ _ _ _ i9 (@d5 _ _ _ _ _ i9 (@d5 _ _ _ _ _ i9 (@d5 _ _ _ _ _ i9 (@d6 _) rfl) rfl) rfl) rfl) rfl) rfl))
| `(↑4)=>`((λf cdv A outer s H vs Q E hr h=>?_))
local macro_rules
| `(tactic|fail "a")=>`(tactic|(
  ·have kd:=kdB
   have kk:=kb ng;clear k kb kdB st ng;refine⟨kd.x,λe he=>?_⟩;walk_at "go";refine⟨by show 10<=sizeLine;decide,λt8 ht8=>?_⟩
   have ne8:e≠t8:=g9 d8 ht8;walk_at "go";refine c8j ((f9 ne8).trans d8) kd.k d8 rfl kd.s9 ?_;walk_at "go";refine c7h (.exc ((f9 ne8).trans d8) kd.k) rfl kd.B ?_;walk_at "go";refine c7h (.exc ((f9 ne8).trans d8) kd.k) rfl kd.V ?_;walk_at "go";refine⟨by show 2<=sizeLine;decide,λq hq=>?_⟩
   have ne:e≠q:=g9 ((f9 ne8).trans d8) hq;walk_at "go";refine⟨by show 4<=sizeLine;decide,λt6 ht6=>?_⟩
   have ne6:e≠t6:=g9 ((f9 ne).trans ((f9 ne8).trans d8)) ht6;have nq6:q≠t6:=g9 d8 ht6;walk_at "go";refine c8j ((f9 ne6).trans ((f9 ne).trans ((f9 ne8).trans d8))) kd.k d8 rfl kd.t4 ?_;walk_at "go";refine⟨by show 2<=sizeLine;decide,λtp htp=>?_⟩
   have s0:Same H H2:=(i3 hk0).trans s2;have s1:=d5p hq ((s0.trans (i3 he)).trans (i3 ht8));have hq0:H q=none:=s1.free hq;have s3:=d5p ht6 (s1.trans (i3 hq));have s4:=d5p htp ((s3.trans (i3 ht6)).set hq0);refine kk tp q _ (s4.free htp) hq0 (s4.trans (i3 htp)) d8 ?_;rw[f9 (g9 d8 htp),d8]
   rfl))
| `(tactic|fail "b")=>`(tactic|(
  have nla:la≠x:=λz=>by rw[<- z,ela] at hx;cases hx
  have ela2:=kp _ _ (sm _ _ ela) (by simpa using nla)
  have nDx:D≠x:=λz=>by rw[z,d8] at hD;cases hD
  have nmx:m≠x:=λz=>by rw[z,d8] at hm;cases hm
  have hD0:=m6 sm hD;have hm0:=m6 sm hm;have nDl:D≠la:=λz=>by rw[z,ela] at hD0;cases hD0
  have nml:m≠la:=λz=>by rw[z,ela] at hm0;cases hm0))
set_option hygiene true
namespace L2
open PySem PySem.Spec PyProof.Rows
abbrev Key:=Sum Int Str
def d2m:Key->Value->Bool
 | .inl k,v=>Value.isInt k v
 | .inr x,v=>Value.isStrOf x v
def d6z(w:World):Key->Int
 | .inl k=>hashInt k
 | .inr x=>hashStr w x
theorem a0u:∀{k:Key}{v:Value},d2m k v=true->(∃i t,k=Sum.inl i/\v=Value.int i t)\/(∃x t,k=Sum.inr x/\v=Value.str x t)
 | .inl i,v,h=>by
  obtain⟨t,e⟩:=Value.isInt_shape (k:=i) (v:=v) h;exact .inl ⟨i,t,rfl,e⟩
 | .inr x,v,h=>by
  obtain⟨t,e⟩:=Value.isStrOf_shape (x:=x) (v:=v) h;exact .inr ⟨x,t,rfl,e⟩
theorem d2l(a b:Int):decide ((Sum.inl a:Key)=Sum.inl b)=(a == b):=by
 by_cases e:a=b
 ·subst e;simp
 ·have h:¬ (Sum.inl a:Key)=Sum.inl b:=λq=>e (Sum.inl.inj q)
  rw[decide_eq_false h];exact(beq_eq_false_iff_ne.mpr e).symm
theorem d2i(a b:Str):decide ((Sum.inr a:Key)=Sum.inr b)=decide (a=b):=by
 by_cases e:a=b
 ·subst e;simp
 ·have h:¬ (Sum.inr a:Key)=Sum.inr b:=λq=>e (Sum.inr.inj q)
  rw[decide_eq_false h,decide_eq_false e]
theorem d2k(a:Int)(b:Str):decide ((Sum.inl a:Key)=Sum.inr b)=false:=decide_eq_false (λq=>nomatch q)
theorem d2j(a:Str)(b:Int):decide ((Sum.inr a:Key)=Sum.inl b)=false:=decide_eq_false (λq=>nomatch q)
def c4l(prog:Program)(w:World):PySem.KeyKind prog w Key where
 is:=d2m
 hash:=d6z w
 inj:=λv a b ha hb=>by
  rcases a0u ha with ⟨i,t,rfl,rfl⟩|⟨x,t,rfl,rfl⟩
  ·rcases a0u hb with ⟨j,u,rfl,e⟩|⟨y,u,rfl,e⟩
   ·injection e with e1 _;rw[e1]
   ·exact nomatch e
  ·rcases a0u hb with ⟨j,u,rfl,e⟩|⟨y,u,rfl,e⟩
   ·exact nomatch e
   ·injection e with e1 _;rw[e1]
 byValue:=λk v h=>by
  rcases a0u h with ⟨i,t,rfl,rfl⟩|⟨x,t,rfl,rfl⟩ <;> rfl
 pyHash:=λhv h=>by
  rcases a0u hv with ⟨i,t,rfl,rfl⟩|⟨x,t,rfl,rfl⟩
  ·exact wpAny_pyHash_int h
  ·exact wpAny_pyHash_str h
 eqBool:=λhu hv h=>by
  rcases a0u hu with ⟨i,t,rfl,rfl⟩|⟨x,t,rfl,rfl⟩
  ·rcases a0u hv with ⟨j,u,rfl,rfl⟩|⟨y,u,rfl,rfl⟩
   ·rw[d2l] at h;exact wpAny_eqBool_int h
   ·rw[d2k] at h;exact SeqAt.EqAt.int_str i t y u _ _ _ _ h
  ·rcases a0u hv with ⟨j,u,rfl,rfl⟩|⟨y,u,rfl,rfl⟩
   ·rw[d2j] at h;exact SeqAt.EqAt.str_int x t j u _ _ _ _ h
   ·rw[d2i] at h;exact wpAny_eqBool_str h
 «strs»:=λk x t v h=>by
  rcases a0u h with ⟨i,u,rfl,e⟩|⟨y,u,rfl,e⟩
  ·exact nomatch e
  ·injection e with e1 _
   subst e1;cases v <;> rfl
end L2
namespace L2
open PySem PySem.Spec PyProof.Rows
inductive V where
 | non|bl (b:Bool)|int (i:Int)|str (x:Str)|byt (b:Array UInt8)|flt (b:UInt64)|ref (a:Addr)|ty (n:String)
 deriving DecidableEq
def RelV:V->Value->Prop
 | .non,u=>u=Value.none
 | .bl b,u=>u=Value.bool b
 | .int i,u=>∃t,u=Value.int i t
 | .str x,u=>∃t,u=Value.str x t
 | .byt b,u=>∃t,u=Value.bytes b t
 | .flt b,u=>∃t,u=Value.float b t
 | .ref a,u=>u=Value.ref a
 | .ty n,u=>u=Value.type n
abbrev Vals:List V->List Value->Prop:=Paired RelV
theorem Vals.length{xs:List V}{us:List Value}(r:Vals xs us):xs.length=us.length:=Paired.length r
theorem Vals.get:∀{xs:List V}{us:List Value}{i:Nat}{x:V},Vals xs us->xs[i]?=some x->∃u,us[i]?=some u/\RelV x u
 | _,_,_,_,.nil,e=>by simp at e
 | _,_,0,_,.cons r _,e=>by simp at e;subst e;exact⟨_,rfl,r⟩
 | _,_,i+1,x,.cons _ t,e=>by
  obtain⟨u,h1,h2⟩:=Vals.get (i:=i) (x:=x) t (by simpa using e)
  exact⟨u,by simpa using h1,h2⟩
theorem Vals.set{x:V}{u:Value}(r:RelV x u):∀{xs:List V}{us:List Value}(i:Nat),Vals xs us->Vals (xs.set i x) (us.set i u)
 | _,_,_,.nil=>.nil
 | _,_,0,.cons _ t=>.cons r t
 | _,_,i+1,.cons q t=>.cons q (Vals.set r i t)
theorem Vals.append{xs ys:List V}{us ws:List Value}(h:Vals xs us)(s:Vals ys ws):Vals (xs++ys) (us++ws):=by
 induction h with
 | nil=>exact s
 | cons r t ih=>exact .cons r ih
theorem Vals.take:∀{xs:List V}{us:List Value}(n:Nat),Vals xs us->Vals (xs.take n) (us.take n)
 | _,_,0,_=>.nil
 | _,_,_+1,.nil=>.nil
 | _,_,n+1,.cons r t=>.cons r (Vals.take n t)
theorem Vals.drop:∀{xs:List V}{us:List Value}(n:Nat),Vals xs us->Vals (xs.drop n) (us.drop n)
 | _,_,0,r=>r
 | _,_,_+1,.nil=>.nil
 | _,_,n+1,.cons _ t=>Vals.drop n t
theorem Vals.none_of:∀{xs:List V}{us:List Value}{i:Nat},Vals xs us->xs[i]?=none->us[i]?=none:=λ{xs us i} r e=>by
 have h1:=r.length;have h2:xs.length<=i:=List.getElem?_eq_none_iff.mp e;exact List.getElem?_eq_none_iff.mpr (by lia)
def RelO:Option V->Option Value->Prop
 | some v,some u=>RelV v u
 | none,none=>True
 | _,_=>False
def KV{κ:Type}:List (κ×V)->List (κ×Value)->Prop:=Paired λ(p:κ×V) (q:κ×Value)=>p.1=q.1/\RelV p.2 q.2
def kV:Key->V
 | .inl i=>.int i
 | .inr x=>.str x
inductive HO where
 | lst (xs:List V)
 | tup (xs:List V)
 | dK (kvs:List (Key×V))|dT (kvs:List (List Key×V))
 | set (S:Int->Bool) (n:Nat)
 | ins (C dx:Addr) (fs:List (Str×V))
 | own (x:Addr)
 | xd (fs:List (Str×V))
 | met (f x:Addr)
 | rng (lo hi:Int)
 | frz (o:Obj) (u:HO)
 | tbl (ps:Array Value)
 | ext (φ:Heap->Prop)
abbrev Hp:=Addr->Option HO
def upd(H:Hp)(a:Addr)(o:HO):Hp:=λb=>if b=a then some o else H b
theorem d8{H:Hp}{a:Addr}{o:HO}:upd H a o a=some o:=by unfold upd;rw[if_pos rfl]
theorem f9{H:Hp}{a b:Addr}{o:HO}(h:b≠a):upd H a o b=H b:=by unfold upd;rw[if_neg h]
theorem c8t{H:Hp}{a:Addr}{o u:HO}:upd (upd H a o) a u=upd H a u:=by
 funext b;unfold upd;split <;> rfl
theorem g9{H:Hp}{a b:Addr}{o:HO}(h:H a=some o)(h':H b=none):a≠b:=by
 intro e;subst e;rw[h] at h';cases h'
section
variable(P:Program)(w:World)
def ObjOk(H:Hp)(h:Heap)(a:Addr):HO->Prop
 | .lst xs=>xs.length<=sizeLine/\∃(its:List Value)(n:Nat),Vals xs its/\h.get? a=some { cls:=.type "list",data:=.seq its.toArray n }
 | .tup xs=>xs.length<=sizeLine/\∃its:List Value,Vals xs its/\IsTup h a its.toArray
 | .dK kvs=>kvs.length<=sizeLine/\(a == sysModules)=false/\∃vs,KV kvs vs/\h.DictOf (c4l P w) a vs
 | .dT kvs=>kvs.length<=sizeLine/\(a == sysModules)=false/\∃xs:List (List Key×Addr×Value),
   Paired (λ(p:List Key×V) (q:List Key×Addr×Value)=>p.1=q.1/\H q.2.1=some (.tup (p.1.map kV))/\RelV p.2 q.2.2) kvs xs /\
   ∃o es ep,h.get? a=some o/\o.ExactDict/\o.data=.dict es ep/\es.toList=xs.map (entryOfKey (tupleKind (c4l P w)))/\(xs.map (·.1)).Nodup
 | .set S n=>h.SetOf (intKind P w) a S n
 | .ins C dx fs=>H dx=some (.own a)/\fs.length<=1000/\dx≠a/\h.get? a=some (PySem.W.instObj C dx) /\
   ∃mA,h.Ns1 dx mA/\(∀f,RelO (fs.lookup f) (mA f))/\PySem.Within mA (fs.map (·.1))
 | .own _=>∃o,h.get? a=some o
 | .xd fs=>∃mA,h.Ns1 a mA/\∀f,RelO (fs.lookup f) (mA f)
 | .rng lo hi=>∃t u v,h.get? a=some { cls:=.type "range",data:=.fields #[.int lo t,.int hi u,.int 1 v] }
 | .frz o u=>h.get? a=some o/\ObjOk H h a u
 | .tbl ps=>h.get? a=some { cls:=.none,data:=.fields ps }
 | .met f x=>h.get? a=some (PySem.W.methodObj (.ref f) (.ref x))
 | .ext φ=>φ h/\(∃o,h.get? a=some o)/\∀h1 h2:Heap,φ h1->(∀o,h1.get? a=some o->h2.get? a=some o)->φ h2
def HOk(H:Hp)(h:Heap):Prop:=∀a o,H a=some o->ObjOk P w H h a o
end
section
variable{P:Program}{w:World}{H H':Hp}{h h':Heap}{a:Addr}{o:HO}
theorem ObjOk.lt(x:ObjOk P w H h a o):a<h.objs.size:=by
 cases o with
 | lst xs=>obtain⟨_,_,_,_,e⟩:=x;exact Heap.lt_size e
 | tup xs=>obtain⟨_,_,_,p⟩:=x;exact p.lt
 | dK kvs=>obtain⟨_,_,_,_,o,_,_,e,_⟩:=x;exact Heap.lt_size e
 | dT kvs=>obtain⟨_,_,_,_,o,_,_,e,_⟩:=x;exact Heap.lt_size e
 | set S n=>obtain⟨o,_,_,_,e,_⟩:=x;exact Heap.lt_size e
 | ins C dx fs=>obtain⟨_,_,_,e,_⟩:=x;exact Heap.lt_size e
 | own y=>obtain⟨_,e⟩:=x;exact Heap.lt_size e
 | xd fs=>obtain⟨_,⟨_,_,_,e,_⟩,_⟩:=x;exact Heap.lt_size e
 | rng lo hi=>obtain⟨_,_,_,e⟩:=x;exact Heap.lt_size e
 | frz ob u=>obtain⟨e,_⟩:=x;exact Heap.lt_size e
 | tbl ps=>exact Heap.lt_size (show h.get? a=some _ from x)
 | met f y=>exact Heap.lt_size (show h.get? a=some _ from x)
 | ext φ=>obtain⟨_,⟨_,e⟩,_⟩:=x;exact Heap.lt_size e
theorem Paired.mapP{α β:Type}{F G:α->β->Prop}{l₁:List α}{l₂:List β}(h:Paired F l₁ l₂)(f:∀a b,F a b->G a b):Paired G l₁ l₂:=by
 induction h with
 | nil=>exact .nil
 | cons r t ih=>exact .cons (f _ _ r) ih
theorem ObjOk.stay(x:ObjOk P w H h a o)(k:∀b u,(b=a\/H b=some (.own a))->h.get? b=some u->h'.get? b=some u)(ho:∀b,H b=some (.own a)->H' b=some (.own a))(ht:∀b xs,H b=some (.tup xs)->H' b=some (.tup xs)):ObjOk P w H' h' a o:=by
 induction o with
 | lst xs=>obtain⟨z,its,n,r,e⟩:=x;exact⟨z,its,n,r,k _ _ (.inl rfl) e⟩
 | tup xs=>obtain⟨z,its,r,ob,e,c⟩:=x;exact⟨z,its,r,ob,k _ _ (.inl rfl) e,c⟩
 | dK kvs=>obtain⟨z,y,vs,r,ob,es,ep,e,c⟩:=x;exact⟨z,y,vs,r,ob,es,ep,k _ _ (.inl rfl) e,c⟩
 | dT kvs=>
  obtain⟨z,y,xs,r,ob,es,ep,e,c⟩:=x;exact⟨z,y,xs,Paired.mapP r λp q z=>⟨z.1,ht _ _ z.2.1,z.2.2⟩,ob,es,ep,k _ _ (.inl rfl) e,c⟩
 | set S n=>obtain⟨ob,es,ep,t,e,c⟩:=x;exact⟨ob,es,ep,t,k _ _ (.inl rfl) e,c⟩
 | ins C dx fs=>
  obtain⟨d,z,ne,e,mA,⟨od,es,ep,e2,c⟩,r⟩:=x;exact⟨ho _ d,z,ne,k _ _ (.inl rfl) e,mA,⟨od,es,ep,k _ _ (.inr d) e2,c⟩,r⟩
 | own y=>obtain⟨ob,e⟩:=x;exact⟨ob,k _ _ (.inl rfl) e⟩
 | xd fs=>obtain⟨mA,⟨od,es,ep,e,c⟩,r⟩:=x;exact⟨mA,⟨od,es,ep,k _ _ (.inl rfl) e,c⟩,r⟩
 | rng lo hi=>obtain⟨t,u,v,e⟩:=x;exact⟨t,u,v,k _ _ (.inl rfl) e⟩
 | frz ob u ih=>obtain⟨e,q⟩:=x;exact⟨k _ _ (.inl rfl) e,ih q⟩
 | tbl ps=>
  have e:h.get? a=some { cls:=.none,data:=.fields ps }:=x;show h'.get? a=some { cls:=.none,data:=.fields ps };exact k a _ (.inl rfl) e
 | met f y=>
  have e:h.get? a=some (PySem.W.methodObj (.ref f) (.ref y)):=x;show h'.get? a=some (PySem.W.methodObj (.ref f) (.ref y));exact k a _ (.inl rfl) e
 | ext φ=>obtain⟨p,⟨o,e⟩,st⟩:=x;exact⟨st _ _ p λo q=>k _ _ (.inl rfl) q,⟨o,k _ _ (.inl rfl) e⟩,st⟩
theorem HOk.lt(x:HOk P w H h)(e:H a=some o):a<h.objs.size:=(x a o e).lt
theorem HOk.fresh(x:HOk P w H h)(e:h.objs.size<=a):H a=none:=by
 cases q:H a with
 | none=>rfl
 | some u=>exact absurd (Nat.lt_of_lt_of_le (x.lt q) e) (Nat.lt_irrefl _)
theorem HOk.kept(x:HOk P w H h)(k:∀b u,h.get? b=some u->h'.get? b=some u):HOk P w H h':=λa o e=>
 (x a o e).stay (λb u _ q=>k b u q) (λ_ q=>q) λ_ _ q=>q
theorem HOk.laid(x:HOk P w H h)(k:∀b u,h.get? b=some u->h'.get? b=some u)(hp:h.objs.size<=a)(new:ObjOk P w (upd H a o) h' a o):HOk P w (upd H a o) h':=λb u e=>by
 have hn:=x.fresh hp;by_cases hb:b=a
 ·subst hb;rw[d8] at e;cases e;exact new
 ·rw[f9 hb] at e
  exact(x b u e).stay (λc v _ q=>k c v q) (λc q=>by rw[f9 (g9 q hn)];exact q) λc xs q=>by rw[f9 (g9 q hn)];exact q
end
def Rd(H:Hp)(a:Addr)(u:HO):Prop:=H a=some u \/ ∃o,H a=some (.frz o u)
theorem Rd.ok{P:Program}{w:World}{H:Hp}{h:Heap}{a:Addr}{u:HO}(r:Rd H a u)(x:HOk P w H h):ObjOk P w H h a u:=by
 rcases r with r|⟨o,r⟩
 ·exact x a u r
 ·obtain⟨_,q⟩:=x a _ r
  exact q
def Mut:Option HO->Prop
 | some (.lst _)=>True
 | some (.dK _)=>True
 | some (.dT _)=>True
 | some (.set _ _)=>True
 | some (.ins _ _ _)=>True
 | some (.ext _)=>True
 | _=>False
section
variable{P:Program}{w:World}{H:Hp}{h h':Heap}{x e:Addr}{o':HO}
theorem HOk.write(ok:HOk P w H h)(mu:Mut (H x))(he:e=x\/H e=some (.own x))(k:∀b u,b≠e->h.get? b=some u->h'.get? b=some u)(heo:∃u,h'.get? e=some u)(new:ObjOk P w (upd H x o') h' x o'):HOk P w (upd H x o') h':=λb u q=>by
 have nown:∀c y,H c=some (.own y)->c≠x:=λc y r z=>by subst z;rw[r] at mu;exact mu
 have ntup:∀c xs,H c=some (.tup xs)->c≠x:=λc xs r z=>by subst z;rw[r] at mu;exact mu
 by_cases hb:b=x
 ·subst hb;rw[d8] at q;cases q;exact new
 ·rw[f9 hb] at q
  by_cases hbe:b=e
  ·have q':H b=some (.own x):=by
    rcases he with z|z
    ·exact absurd (hbe.trans z) hb
    ·rw[hbe];exact z
   rw[q] at q';cases q';obtain⟨v,hv⟩:=heo;exact⟨v,by rw[hbe];exact hv⟩
  ·refine (ok b u q).stay (λc v hc r=>k c v ?_ r) (λc r=>by rw[f9 (nown c b r)];exact r) λc xs r=>by rw[f9 (ntup c xs r)];exact r
   rcases hc with rfl|hc
   ·exact hbe
   ·rintro rfl
    rcases he with z|z
    ·exact nown c b hc z
    ·rw[hc] at z;cases z;exact hb rfl
end
structure Un(fs ex:List Addr)(H H':Hp)(h h':Heap):Prop where
 keep:∀b o,h.get? b=some o->H b=none->b ∉ fs->b ∉ ex->h'.get? b=some o
 slot:∀b o,h.get? b=some o->H b=none->b∈fs->b ∉ ex->∃sl,h'.get? b=some { o with slots:=sl }
 free:∀b o,h.get? b=some o->H b=none->b ∉ ex->H' b=none
 there:∀b o,h.get? b=some o->b ∉ ex->∃o',h'.get? b=some o'
 tups:∀b xs,H b=some (.tup xs)->H' b=some (.tup xs)
 frzs:∀b o u,H b=some (.frz o u)->H' b=some (.frz o u)
 tbls:∀b ps,H b=some (.tbl ps)->∃more,H' b=some (.tbl (ps++more))
section
variable{fs fs' ex ex':List Addr}{H H1 H2:Hp}{h h1 h2 h':Heap}{a x e:Addr}{o:HO}
theorem Un.any(u:Un fs ex H H1 h h1){b:Addr}{ob:Obj}(q:h.get? b=some ob)(n:H b=none)(hx:b ∉ ex):∃sl,h1.get? b=some { ob with slots:=sl }:=by
 by_cases hb:b∈fs
 ·exact u.slot b ob q n hb hx
 ·exact⟨ob.slots,u.keep b ob q n hb hx⟩
theorem Un.kept(k:∀b u,h.get? b=some u->h'.get? b=some u):Un fs ex H H h h' :=
 ⟨λb ob q _ _ _=>k b ob q,λb ob q _ _ _=>⟨ob.slots,k b ob q⟩,λ_ _ _ n _=>n,λb ob q _=>⟨ob,k b ob q⟩,λ_ _ q=>q,λ_ _ _ q=>q,λ_ ps q=>⟨#[],by rw[q];simp⟩⟩
theorem Un.refl:Un fs ex H H h h:=Un.kept λ_ _ q=>q
theorem Un.laid(k:∀b u,h.get? b=some u->h'.get? b=some u)(hp:h.objs.size<=a)(hn:H a=none):Un fs ex H (upd H a o) h h' where
 keep:=λb u q _ _ _=>k b u q
 slot:=λb u q _ _ _=>⟨u.slots,k b u q⟩
 free:=λb u q n _=>by rw[f9 (Nat.ne_of_lt (Nat.lt_of_lt_of_le (Heap.lt_size q) hp))];exact n
 there:=λb u q _=>⟨u,k b u q⟩
 tups:=λb xs q=>by rw[f9 (g9 q hn)];exact q
 frzs:=λb u xs q=>by rw[f9 (g9 q hn)];exact q
 tbls:=λb ps q=>⟨#[],by rw[f9 (g9 q hn),q];simp⟩
theorem Un.write(mu:Mut (H x))(he:e=x\/H e=some (.own x))(k:∀b u,b≠e->h.get? b=some u->h'.get? b=some u)(heo:∃u,h'.get? e=some u):Un fs ex H (upd H x o) h h':=by
 have hx:∀b,H b=none->b≠x:=λb n z=>by subst z;rw[n] at mu;exact mu
 have hb:∀b,H b=none->b≠e:=λb n z=>by
  subst z;rcases he with r|r
  ·exact hx b n r
  ·rw[n] at r;cases r
 have hm:∀b u,H b=some u->¬ Mut (some u)->b≠x:=λb u q nm z=>by subst z;rw[q] at mu;exact nm mu
 refine⟨λb u q n _ _=>k b u (hb b n) q,λb u q n _ _=>⟨u.slots,k b u (hb b n) q⟩,λb u q n _=>by rw[f9 (hx b n)];exact n,λb u q _=>?_,
  λb xs q=>by rw[f9 (hm b _ q λz=>z)];exact q,λb u xs q=>by rw[f9 (hm b _ q λz=>z)];exact q,λb ps q=>⟨#[],by rw[f9 (hm b _ q λz=>z),q];simp⟩⟩
 by_cases hbe:b=e
 ·subst hbe;exact heo
 ·exact⟨u,k b u hbe q⟩
end
def trk(h:Heap)(H:Hp):List Addr:=(List.range h.objs.size).filter λa=>(H a).isSome
def c7b(h:Heap)(H:Hp):Heap:=PySem.W.hideAll h (trk h H)
theorem c4v(h:Heap)(H:Hp):(c7b h H).objs.size=h.objs.size:=PySem.W.hideAll_size _ _
theorem c7a{h:Heap}{H:Hp}{b:Addr}{o:Obj}(e:h.get? b=some o)(n:H b=none):(c7b h H).get? b=some o :=
 PySem.W.hideAll_get _ e λhm=>by
  have q:(H b).isSome=true:=(List.mem_filter.mp hm).2;rw[n] at q;simp at q
theorem c9r{h:Heap}{H:Hp}{b:Addr}{o:Obj}(e:(c7b h H).get? b=some o):h.get? b=some o/\H b=none:=by
 have e':h.get? b=some o:=PySem.W.of_hideAll (trk h H) e;refine⟨e',?_⟩;cases q:H b with
 | none=>rfl
 | some x=>
  have hm:b∈trk h H:=List.mem_filter.mpr ⟨List.mem_range.mpr (Heap.lt_size e'),by simp[q]⟩
  have z:(c7b h H).get? b=none:=PySem.W.hideAll_none (trk h H) hm;rw[z] at e;cases e
end L2
namespace L2
open PySem PySem.Spec PyProof.Rows
structure Mod(K:Frag)(mg:Str->Option Value)(base:Heap):Prop where
 kin:K.In base
 glob:base.Ns mainGlobals mg
 blt:∃mb,base.Ns builtinsNs mb/\∀x:Str,x≠"__name__"->mb x=bootBuiltins x
 nolimit:base.NoLimit
structure Cx where
 prog:Program
 w:World
 K:Frag
 mg:Str->Option Value
 base:Heap
 A:Around
 N:List Str
 s₀:Shared
 H₀:Hp
 env:Env
 outer:List Env
 stack:List Env
 ex:List Addr
 fn:Str->Bool
 calm:Bool
 pn:List (Addr×Obj)
 xe:Value->Shared->Prop
def frs(l:List Env):List Addr:=l.filterMap (·.frame)
abbrev Cx.fs(X:Cx):List Addr:=frs X.outer
def Vis(sc:Scope)(x:Str):Prop:=sc.names.lookup x=some .local\/sc.names.lookup x=some .cell\/sc.names.lookup x=some .free
def Loc(sc:Scope)(x:Str):Prop:=sc.names.lookup x=some .local\/sc.names.lookup x=some .cell
def d6r(env:Env)(h:Heap)(m:Str->Option Value)(x:Str)(u:Value):Prop :=
 (env.kindOf x=some .local/\m x=some u)\/((env.kindOf x=some .cell\/env.kindOf x=some .free)/\∃c,env.cells.lookup x=some c/\h.IsCell c (some u))
structure Cx.Ok(X:Cx):Prop where
 mod:Mod X.K X.mg X.base
 kind:X.env.scope.kind=.function
 glob:X.env.globals=mainGlobals
 blt:X.env.builtins=builtinsNs
 above:X.s₀.heap.objs.size<=X.env.locals
 inj:∀x y c,X.env.cells.lookup x=some c->X.env.cells.lookup y=some c->x=y
 has:∀x,(X.env.kindOf x=some .cell\/X.env.kindOf x=some .free)->∃c,X.env.cells.lookup x=some c
 cab:∀x c,X.fn x=true->X.env.cells.lookup x=some c->X.s₀.heap.objs.size<=c
 hd:X.calm=true->X.A.handled=none
 frames:X.A.frames=some X.stack
 stk:X.stack=X.outer\/(X.stack=X.env::X.outer/\X.env.frame=some X.env.locals)
 exf:∀b∈X.ex,b≠X.env.locals/\∀x c,X.env.cells.lookup x=some c->c≠b
 bs:∀b o,X.base.get? b=some o->X.s₀.heap.get? b=some o/\X.H₀ b=none
 bsz:X.base.objs.size<=X.s₀.heap.objs.size
 noex:∀b o,X.base.get? b=some o->b ∉ X.ex
 exfs:∀b∈X.ex,b ∉ X.fs
 funs:X.s₀.heap.FunFrames X.base X.outer
 frf:∀b∈X.fs,X.H₀ b=none
structure Inv(X:Cx)(pins:List (Addr×Obj))(σ:List (Option V))(H:Hp)(s:Shared):Prop where
 ok:X.Ok
 os:s.os=X.s₀.os
 bare:AllBare s.gens
 base:Un X.fs X.ex X.H₀ H X.s₀.heap s.heap
 loc:∃m,s.heap.Ns X.env.locals m/\∀(i:Nat)(x:Str)(v:V),X.N[i]?=some x->σ[i]?=some (some v)->Vis X.env.scope x->∃u,RelV v u/\d6r X.env s.heap m x u
 cell:∀x c,X.env.cells.lookup x=some c->∃v,s.heap.IsCell c v
 free:H X.env.locals=none
 freeC:∀x c,X.env.cells.lookup x=some c->H c=none
 pin:∀p∈X.pn++pins,s.heap.get? p.1=some p.2/\H p.1=none/\p.1≠X.env.locals/\p.1 ∉ X.fs/\∀v,p.2.data≠.cell v
 hok:HOk X.prog X.w H s.heap
 len:σ.length=X.N.length
section
variable{X:Cx}{pins:List (Addr×Obj)}{σ:List (Option V)}{H H':Hp}{s:Shared}{h':Heap}
theorem Cx.Ok.nofr(ok:X.Ok){b:Addr}{o:Obj}(e:X.base.get? b=some o):b ∉ X.fs:=λhb=>by
 have:=(ok.funs.mem hb).1;rw[e] at this;cases this
theorem Inv.bs(I:Inv X pins σ H s):∀b o,X.base.get? b=some o->s.heap.get? b=some o/\H b=none:=λb o e=>
 ⟨I.base.keep b o (I.ok.bs b o e).1 (I.ok.bs b o e).2 (I.ok.nofr e) (I.ok.noex b o e),I.base.free b o (I.ok.bs b o e).1 (I.ok.bs b o e).2 (I.ok.noex b o e)⟩
theorem Inv.bk(I:Inv X pins σ H s):∀b o,X.base.get? b=some o->s.heap.get? b=some o:=λb o e=>(I.bs b o e).1
theorem Inv.mod(I:Inv X pins σ H s):Mod X.K X.mg X.base:=I.ok.mod
theorem Inv.kIn(I:Inv X pins σ H s):X.K.In s.heap:=I.ok.mod.kin.keeps I.bk
theorem Inv.lt(I:Inv X pins σ H s):X.env.locals<s.heap.objs.size:=by obtain⟨_,hn,_⟩:=I.loc;exact hn.lt
theorem Inv.sz(I:Inv X pins σ H s):X.s₀.heap.objs.size<=s.heap.objs.size:=Nat.le_trans I.ok.above (Nat.le_of_lt I.lt)
theorem Inv.nofs(I:Inv X pins σ H s){a:Addr}(h:s.heap.objs.size<=a):a ∉ X.fs:=λhb=>by
 obtain⟨_,o,ho,_⟩:=I.ok.funs.mem hb;exact absurd (Nat.lt_of_lt_of_le (Heap.lt_size ho) (Nat.le_trans I.sz h)) (Nat.lt_irrefl _)
theorem Inv.cne(I:Inv X pins σ H s):∀x c,X.env.cells.lookup x=some c->c≠X.env.locals:=λx c e z=>by
 obtain⟨v,o,ho,hd⟩:=I.cell x c e;obtain⟨m,⟨o',es,ep,ho',hd',_⟩,_⟩:=I.loc;rw[z,ho'] at ho;cases ho;rw[hd'] at hd;cases hd
theorem Inv.funs(I:Inv X pins σ H s):s.heap.FunFrames X.base X.outer:=by
 have all:∀(l:List Env),(∀b∈frs l,b∈X.fs)->X.s₀.heap.FunFrames X.base l->s.heap.FunFrames X.base l:=by
  intro l
  induction l with
  | nil=>intro _ _;trivial
  | cons env r ih=>
   intro hs hl;obtain⟨hk,⟨L,o,hf,hn,ho,hd⟩,hr⟩:=hl;have hL:L∈X.fs:=hs L (by unfold frs;rw[List.filterMap_cons,hf];exact List.mem_cons_self)
   obtain⟨sl,e⟩:=I.base.slot L o ho (I.ok.frf L hL) hL λz=>I.ok.exfs L z hL;exact⟨hk,⟨L,_,hf,hn,e,hd⟩,ih (λb hb=>hs b (by unfold frs;rw[List.filterMap_cons,hf];exact List.mem_cons_of_mem _ hb)) hr⟩
 exact all X.outer (λ_ hb=>hb) I.ok.funs
theorem Inv.stack(I:Inv X pins σ H s):s.heap.FunFrames X.base X.stack:=by
 rcases I.ok.stk with e|⟨e,hf⟩
 ·rw[e];exact I.funs
 ·rw[e]
  obtain⟨m,hn,_⟩:=I.loc;refine .cons (by rw[I.ok.kind];decide) hf hn ?_ I.funs
  exact Heap.get?_none_of_le (Nat.le_trans I.ok.bsz I.ok.above)
theorem Inv.stkSub(I:Inv X pins σ H s):∀b∈frs X.stack,b∈X.env.locals::X.fs:=λb hb=>by
 rcases I.ok.stk with e|⟨e,hf⟩
 ·rw[e] at hb;exact List.mem_cons_of_mem _ hb
 ·rw[e] at hb
  unfold frs at hb;rw[List.filterMap_cons,hf] at hb;exact hb
theorem Inv.stkFree(I:Inv X pins σ H s):∀b∈frs X.stack,H b=none:=λb hb=>by
 rcases List.mem_cons.mp (I.stkSub b hb) with e|hb
 ·rw[e];exact I.free
 ·obtain⟨_,o,ho,_⟩:=I.ok.funs.mem hb
  exact I.base.free b o ho (I.ok.frf b hb) λz=>I.ok.exfs b z hb
theorem Inv.step{g':Array GenState}{t':Nat}{d':Drawn}{ch:List Addr}(I:Inv X pins σ H s)(hch:∀b∈ch,(b∈X.ex\/X.s₀.heap.objs.size<=b)/\b≠X.env.locals/\(∀x c,X.env.cells.lookup x=some c->c≠b)/\∀p∈X.pn++pins,p.1≠b)(keep:∀b o,b≠X.env.locals->b ∉ X.fs->b ∉ ch->s.heap.get? b=some o->H b=none->h'.get? b=some o)(slot:∀b o,b≠X.env.locals->b∈X.fs->b ∉ ch->s.heap.get? b=some o->H b=none->∃sl,h'.get? b=some { o with slots:=sl })(free:∀b o,b ∉ ch->s.heap.get? b=some o->H b=none->H' b=none)(there:∀b o,b ∉ ch->s.heap.get? b=some o->∃o',h'.get? b=some o')(tups:∀b xs,H b=some (.tup xs)->H' b=some (.tup xs))(frzs:∀b o u,H b=some (.frz o u)->H' b=some (.frz o u))(tbls:∀b ps,H b=some (.tbl ps)->∃more,H' b=some (.tbl (ps++more)))(ns:∀m,s.heap.Ns X.env.locals m->h'.Ns X.env.locals m)(hok:HOk X.prog X.w H' h')(hg:AllBare g'):
  Inv X pins σ H' { s with heap:=h',gens:=g',drawn:=d',toks:=t' }:=by
 have neL:∀b o,X.s₀.heap.get? b=some o->b≠X.env.locals:=λb o e=>Nat.ne_of_lt (Nat.lt_of_lt_of_le (Heap.lt_size e) I.ok.above);have neC:∀b o,X.s₀.heap.get? b=some o->b ∉ X.ex->b ∉ ch:=λb o e hx hb=>by
  rcases (hch b hb).1 with z|z
  ·exact hx z
  ·exact absurd (Nat.lt_of_lt_of_le (Heap.lt_size e) z) (Nat.lt_irrefl _)
 have cellK:∀x c,X.env.cells.lookup x=some c->∀v,s.heap.IsCell c v->h'.IsCell c v:=λx c e v zb_=>by
  obtain⟨o,ho,hd⟩:=zb_;have nch:c ∉ ch:=λz=>(hch c z).2.2.1 x c e rfl;by_cases hc:c∈X.fs
  ·obtain⟨sl,q⟩:=slot c o (I.cne x c e) hc nch ho (I.freeC x c e)
   exact⟨_,q,hd⟩
  ·exact⟨o,keep c o (I.cne x c e) hc nch ho (I.freeC x c e),hd⟩
 refine⟨I.ok,I.os,hg,⟨λb o e n hb hx=>?_,λb o e n hb hx=>?_,λb o e n hx=>?_,λb o e hx=>?_,λb xs e=>tups b xs (I.base.tups b xs e),λb o xs e=>frzs b o xs (I.base.frzs b o xs e),λb ps e=>?_⟩,?_,λx c e=>?_,?_,λx c e=>?_,λp hp=>?_,hok,I.len⟩
 ·exact keep b o (neL b o e) hb (neC b o e hx) (I.base.keep b o e n hb hx) (I.base.free b o e n hx)
 ·obtain⟨sl,e1⟩:=I.base.slot b o e n hb hx
  obtain⟨sl',e2⟩:=slot b _ (neL b o e) hb (neC b o e hx) e1 (I.base.free b o e n hx);exact⟨sl',e2⟩
 ·obtain⟨o',e1⟩:=I.base.there b o e hx
  exact free b o' (neC b o e hx) e1 (I.base.free b o e n hx)
 ·obtain⟨o',e1⟩:=I.base.there b o e hx
  exact there b o' (neC b o e hx) e1
 ·obtain⟨m1,e1⟩:=I.base.tbls b ps e
  obtain⟨m2,e2⟩:=tbls b _ e1;exact⟨m1++m2,by rw[e2,Array.append_assoc]⟩
 ·obtain⟨m,hn,hl⟩:=I.loc
  refine⟨m,ns m hn,λi x v e1 e2 e3=>?_⟩;obtain⟨u,r,l⟩:=hl i x v e1 e2 e3;refine⟨u,r,?_⟩;rcases l with l|⟨k,c,e,z⟩
  ·exact .inl l
  ·exact .inr ⟨k,c,e,cellK x c e _ z⟩
 ·obtain⟨v,z⟩:=I.cell x c e
  exact⟨v,cellK x c e v z⟩
 ·obtain⟨m,⟨o,_,_,ho,_⟩,_⟩:=I.loc
  exact free _ o (λz=>(hch _ z).2.1 rfl) ho I.free
 ·obtain⟨v,o,ho,hd⟩:=I.cell x c e
  exact free c o (λz=>(hch c z).2.2.1 x c e rfl) ho (I.freeC x c e)
 ·obtain⟨e,n,ne,nf,d⟩:=I.pin p hp
  have nch:p.1 ∉ ch:=λz=>(hch p.1 z).2.2.2 p hp rfl;exact⟨keep p.1 p.2 ne nf nch e n,free p.1 p.2 nch e n,ne,nf,d⟩
theorem Inv.un{t':Nat}(I:Inv X pins σ H s)(u:Un X.fs [] H H' s.heap h')(hok:HOk X.prog X.w H' h'):Inv X pins σ H' { s with heap:=h',toks:=t' }:=by
 obtain⟨m,⟨o,es,ep,ho,r⟩,_⟩:=id I.loc;obtain⟨sl,hL⟩:=u.any ho I.free (by simp)
 exact I.step (g':=s.gens) (d':=s.drawn) (ch:=[]) (λ_ z=>nomatch z) (λb o _ hb _ e n=>u.keep b o e n hb (by simp)) (λb o _ hb _ e n=>u.slot b o e n hb (by simp)) (λb o _ e n=>u.free b o e n (by simp)) (λb o _ e=>u.there b o e (by simp)) u.tups u.frzs u.tbls (λm' hm=>by
  obtain⟨o',es',ep',ho',r'⟩:=hm;rw[ho] at ho';cases ho';exact⟨_,es',ep',hL,r'⟩) hok I.bare
theorem Inv.call{g':Array GenState}{t':Nat}{d':Drawn}{ch:List Addr}(I:Inv X pins σ H s)(u:Un (frs X.stack) ch H H' s.heap h')(hok:HOk X.prog X.w H' h')(hg:AllBare g')(hch:∀b∈ch,(b∈X.ex\/X.s₀.heap.objs.size<=b)/\b≠X.env.locals/\(∀x c,X.env.cells.lookup x=some c->c≠b)/\∀p∈X.pn++pins,p.1≠b):
  Inv X pins σ H' { s with heap:=h',gens:=g',drawn:=d',toks:=t' }:=by
 obtain⟨m,⟨o,es,ep,ho,r⟩,_⟩:=id I.loc;obtain⟨sl,hL⟩:=u.any ho I.free λz=>(hch _ z).2.1 rfl;exact I.step (ch:=ch) hch (λb o hL hb hc e n=>u.keep b o e n (λz=>(List.mem_cons.mp (I.stkSub b z)).elim hL hb) hc) (λb o _ _ hc e n=>u.any e n hc) (λb o hc e n=>u.free b o e n hc) (λb o hc e=>u.there b o e hc) u.tups u.frzs u.tbls (λm' hm=>by
  obtain⟨o',es',ep',ho',r'⟩:=hm;rw[ho] at ho';cases ho';exact⟨_,es',ep',hL,r'⟩) hok hg
theorem Inv.turned{t':Nat}{it:Addr}(I:Inv X pins σ H s)(k:∀b o,b≠it->s.heap.get? b=some o->h'.get? b=some o)(hn:H it=none)(hL:it≠X.env.locals)(h1:it∈X.ex\/X.s₀.heap.objs.size<=it)(h2:∀x c,X.env.cells.lookup x=some c->c≠it)(h3:∀p∈X.pn++pins,p.1≠it):Inv X pins σ H { s with heap:=h',toks:=t' }:=by
 have nit:∀b u,H b=some u->b≠it:=λb u e z=>by rw[z,hn] at e;cases e
 refine I.step (g':=s.gens) (d':=s.drawn) (ch:=[it]) (λb hb=>?_) (λb o _ _ hc e _=>k b o (λz=>hc (by simp[z])) e) (λb o _ _ hc e _=>⟨o.slots,k b o (λz=>hc (by simp[z])) e⟩) (λ_ _ _ _ n=>n)
  (λb o hc e=>⟨o,k b o (λz=>hc (by simp[z])) e⟩) (λ_ _ e=>e) (λ_ _ _ e=>e) (λb ps e=>⟨#[],by rw[e];simp⟩) (λm hm=>?_) (λb u e=>?_) I.bare
 ·have e:b=it:=by simpa using hb
  subst e;exact⟨h1,hL,h2,h3⟩
 ·obtain⟨o,es,ep,ho,r⟩:=hm
  exact⟨o,es,ep,k _ o (Ne.symm hL) ho,r⟩
 ·refine (I.hok b u e).stay (λc v hc q=>k c v ?_ q) (λ_ q=>q) λ_ _ q=>q
  rcases hc with z|z
  ·rw[z];exact nit b u e
  ·exact nit c _ z
theorem Inv.tok(I:Inv X pins σ H s)(t:Nat):Inv X pins σ H { s with toks:=t }:=I.un (h':=s.heap) (t':=t) Un.refl I.hok
theorem Inv.kept{t':Nat}(I:Inv X pins σ H s)(k:∀b u,s.heap.get? b=some u->h'.get? b=some u):Inv X pins σ H { s with heap:=h',toks:=t' }:=I.un (Un.kept k) (I.hok.kept k)
theorem Inv.laid{a:Addr}{o:HO}{t':Nat}(I:Inv X pins σ H s)(k:∀b u,s.heap.get? b=some u->h'.get? b=some u)(hp:s.heap.objs.size<=a)(new:ObjOk X.prog X.w (upd H a o) h' a o):
  Inv X pins σ (upd H a o) { s with heap:=h',toks:=t' }:=I.un (Un.laid k hp (I.hok.fresh hp)) (I.hok.laid k hp new)
theorem Inv.write{x e:Addr}{o:HO}{t':Nat}(I:Inv X pins σ H s)(mu:Mut (H x))(he:e=x\/H e=some (.own x))(k:∀b u,b≠e->s.heap.get? b=some u->h'.get? b=some u)(heo:∃u,h'.get? e=some u)(new:ObjOk X.prog X.w (upd H x o) h' x o):Inv X pins σ (upd H x o) { s with heap:=h',toks:=t' }:=I.un (Un.write mu he k heo) (I.hok.write mu he k heo new)
theorem Inv.weak{σ':List (Option V)}(I:Inv X pins σ H s)(hl:σ'.length=σ.length)(w:∀(i:Nat) v,σ'[i]?=some (some v)->σ[i]?=some (some v)):Inv X pins σ' H s :=
 ⟨I.ok,I.os,I.bare,I.base,let ⟨m,hn,hl'⟩:=I.loc;⟨m,hn,λi x v e1 e2 e3=>hl' i x v e1 (w i v e2) e3⟩,I.cell,I.free,I.freeC,I.pin,I.hok,hl.trans I.len⟩
theorem Inv.pins_of{pins':List (Addr×Obj)}(I:Inv X pins σ H s)(h:∀p∈pins',s.heap.get? p.1=some p.2/\H p.1=none/\p.1≠X.env.locals/\p.1 ∉ X.fs/\∀v,p.2.data≠.cell v):Inv X pins' σ H s :=
 ⟨I.ok,I.os,I.bare,I.base,I.loc,I.cell,I.free,I.freeC,λp hp=>(List.mem_append.mp hp).elim (λz=>I.pin p (List.mem_append_left _ z)) (h p),I.hok,I.len⟩
theorem b6w{N:List Str}(hN:N.Nodup){i j:Nat}{x:Str}(a:N[i]?=some x)(b:N[j]?=some x):i=j:=by
 obtain⟨h1,e1⟩:=List.getElem?_eq_some_iff.mp a;obtain⟨h2,e2⟩:=List.getElem?_eq_some_iff.mp b;exact(List.getElem_inj hN).mp (e1.trans e2.symm)
theorem b7j{M:Model}{A:Around}{E:Value->Shared->Prop}{i:Nat}{x:Str}{v:V}{u:Value}{Q:Unit->Shared->Prop}(I:Inv X pins σ H s)(hN:X.N.Nodup)(hi:X.N[i]?=some x)(hx:Loc X.env.scope x)(r:RelV v u)(h:∀s',Inv X pins (σ.set i (some v)) H s'->(∃a,Heap.SameBut a s.heap s'.heap/\(a=X.env.locals\/X.env.cells.lookup x=some a))->Q () s')(hf:X.fn x=true\/X.env.scope.names.lookup x=some .local:=by first|exact .inl rfl|exact .inr rfl|assumption):wpAny M A (storeName X.env x u) Q E s:=by
 obtain⟨m,hn,hl⟩:=id I.loc;have hcls:(X.env.scope.kind == .class || (X.env.scope.kind == .module && X.env.locals != X.env.globals))=false:=by rw[I.ok.kind];rfl
 have hiσ:i<σ.length:=by rw[I.len];exact(List.getElem?_eq_some_iff.mp hi).1
 have cne:=I.cne;have tracked:∀{a:Addr}{h':Heap},(∃o,s.heap.get? a=some o/\H a=none)->Heap.SameBut a s.heap h'->HOk X.prog X.w H h':=λ{a h'} ha hs b ob e=>by
  obtain⟨_,_,hfree⟩:=ha;refine (I.hok b ob e).stay (λc w' hc q=>(hs.2 c ?_).trans q) (λ_ q=>q) λ_ _ q=>q;rintro rfl;rcases hc with rfl|hc
  ·rw[hfree] at e;cases e
  ·rw[hfree] at hc;cases hc
 rcases hx with hk|hk
 ·refine wpAny_storeName_local hk hn (λh' hn' hs=>?_) hcls
  obtain⟨oL,_,_,hoL,_⟩:=id hn;refine h _ ⟨I.ok,I.os,I.bare,⟨λb o e n hb hx=>?_,λb o e n hb hx=>?_,I.base.free,λb o e hx=>?_,I.base.tups,I.base.frzs,I.base.tbls⟩,⟨_,hn',λj y v' e1 e2 e3=>?_⟩,λy c e=>?_,I.free,I.freeC,λp hp=>?_,tracked ⟨oL,hoL,I.free⟩ hs,by simpa using I.len⟩ ⟨_,hs,.inl rfl⟩
  ·exact(hs.2 b (Nat.ne_of_lt (Nat.lt_of_lt_of_le (Heap.lt_size e) I.ok.above))).trans (I.base.keep b o e n hb hx)
  ·obtain⟨sl,e1⟩:=I.base.slot b o e n hb hx
   exact⟨sl,(hs.2 b (Nat.ne_of_lt (Nat.lt_of_lt_of_le (Heap.lt_size e) I.ok.above))).trans e1⟩
  ·obtain⟨o',e1⟩:=I.base.there b o e hx
   exact⟨o',(hs.2 b (Nat.ne_of_lt (Nat.lt_of_lt_of_le (Heap.lt_size e) I.ok.above))).trans e1⟩
  ·by_cases hj:j=i
   ·subst hj
    rw[hi] at e1;cases e1;rw[List.getElem?_set_self hiσ] at e2;cases e2;exact⟨u,r,.inl ⟨hk,by simp⟩⟩
   ·rw[List.getElem?_set_ne (Ne.symm hj)] at e2
    obtain⟨u',r',q⟩:=hl j y v' e1 e2 e3;refine⟨u',r',?_⟩;rcases q with ⟨k,e⟩|⟨k,c,e,z⟩
    ·refine .inl ⟨k,?_⟩
     have:y≠x:=λe=>hj (b6w hN e1 (e ▸ hi));simp[this,e]
    ·exact .inr ⟨k,c,e,z.sameBut hs (cne y c e)⟩
  ·obtain⟨w',z⟩:=I.cell y c e
   exact⟨w',z.sameBut hs (cne y c e)⟩
  ·obtain⟨e,n,ne,nf,d⟩:=I.pin p hp
   exact⟨(hs.2 p.1 ne).trans e,n,ne,nf,d⟩
 ·have hfn:X.fn x=true:=by
   rcases hf with z|z
   ·exact z
   ·rw[z] at hk;cases hk
  obtain⟨c,hc⟩:=I.ok.has x (.inl hk);obtain⟨w',z⟩:=I.cell x c hc;refine wpAny_storeName_cell I.ok.kind hk hc z (λh' hc' hs=>?_);obtain⟨oc,hoc,hocd⟩:=id z;refine h { s with heap:=h' } ⟨I.ok,I.os,I.bare,⟨λb o e n hb hx=>?_,λb o e n hb hx=>?_,I.base.free,λb o e hx=>?_,I.base.tups,I.base.frzs,I.base.tbls⟩,⟨m,hn.sameBut hs (Ne.symm (cne x c hc)),λj y v' e1 e2 e3=>?_⟩,λy c' e=>?_,I.free,I.freeC,λp hp=>?_,tracked ⟨oc,hoc,I.freeC x c hc⟩ hs,by simpa using I.len⟩ ⟨c,hs,.inr hc⟩
  ·exact(hs.2 b (Nat.ne_of_lt (Nat.lt_of_lt_of_le (Heap.lt_size e) (I.ok.cab x c hfn hc)))).trans (I.base.keep b o e n hb hx)
  ·obtain⟨sl,e1⟩:=I.base.slot b o e n hb hx
   exact⟨sl,(hs.2 b (Nat.ne_of_lt (Nat.lt_of_lt_of_le (Heap.lt_size e) (I.ok.cab x c hfn hc)))).trans e1⟩
  ·obtain⟨o',e1⟩:=I.base.there b o e hx
   exact⟨o',(hs.2 b (Nat.ne_of_lt (Nat.lt_of_lt_of_le (Heap.lt_size e) (I.ok.cab x c hfn hc)))).trans e1⟩
  ·by_cases hj:j=i
   ·subst hj
    rw[hi] at e1;cases e1;rw[List.getElem?_set_self hiσ] at e2;cases e2;exact⟨u,r,.inr ⟨.inl hk,c,hc,hc'⟩⟩
   ·rw[List.getElem?_set_ne (Ne.symm hj)] at e2
    obtain⟨u',r',q⟩:=hl j y v' e1 e2 e3;refine⟨u',r',?_⟩;rcases q with q|⟨k,c',e,z'⟩
    ·exact .inl q
    ·refine .inr ⟨k,c',e,z'.sameBut hs ?_⟩
     rintro rfl;exact hj (b6w hN e1 (I.ok.inj _ _ _ e hc ▸ hi))
  ·by_cases hcc:c'=c
   ·subst hcc;exact⟨_,hc'⟩
   ·obtain⟨w2,z2⟩:=I.cell y c' e
    exact⟨w2,z2.sameBut hs hcc⟩
  ·obtain⟨e,n,ne,nf,d⟩:=I.pin p hp
   refine⟨(hs.2 p.1 ?_).trans e,n,ne,nf,d⟩;intro q;rw[q,hoc] at e;have q':oc=p.2:=Option.some.inj e;exact d w' (by rw[<- q'];exact hocd)
theorem b2i{M:Model}{A:Around}{E:Value->Shared->Prop}{i:Nat}{x:Str}{v:V}{u:Value}{Q:Unit->Shared->Prop}(I:Inv X pins σ H s)(hN:X.N.Nodup)(hi:X.N[i]?=some x)(hx:Loc X.env.scope x)(r:RelV v u)(h:∀s',Inv X pins (σ.set i (some v)) H s'->Q () s')(hf:X.fn x=true\/X.env.scope.names.lookup x=some .local:=by first|exact .inl rfl|exact .inr rfl|assumption):wpAny M A (storeName X.env x u) Q E s :=
 b7j I hN hi hx r (λs' I' _=>h s' I') hf
theorem Inv.call'{s':Shared}{ch:List Addr}(I:Inv X pins σ H s)(ho:s'.os=s.os)(u:Un (frs X.stack) ch H H' s.heap s'.heap)(hok:HOk X.prog X.w H' s'.heap)(hg:AllBare s'.gens)(hch:∀b∈ch,(b∈X.ex\/X.s₀.heap.objs.size<=b)/\b≠X.env.locals/\(∀x c,X.env.cells.lookup x=some c->c≠b)/\∀p∈X.pn++pins,p.1≠b):Inv X pins σ H' s':=by
 obtain⟨h',g',d',t',o'⟩:=s';have e:o'=s.os:=ho;subst e;exact I.call (g':=g') (t':=t') (d':=d') u hok hg hch
end
abbrev XK:=Value->Option Addr->Hp->Prop
abbrev St:=List (Option V)
abbrev VK:=V->Hp->Prop
abbrev TE:=St->Hp->VK->Prop
abbrev TT:=St->Hp->(Bool->Hp->Prop)->Prop
abbrev TA:=St->Hp->(List V->Hp->Prop)->Prop
structure Ends where
 nx:St->Hp->Prop
 rt:VK
 bk:St->Hp->Prop:=λ_ _=>False
 ct:St->Hp->Prop:=λ_ _=>False
abbrev TS:=Ends->St->Hp->Prop
def EP(X:Cx)(pins:List (Addr×Obj))(σ:St)(Q:VK)(u:Value)(s':Shared):Prop:=∃v H',Inv X pins σ H' s'/\RelV v u/\Q v H'
def TP(X:Cx)(pins:List (Addr×Obj))(σ:St)(Q:Bool->Hp->Prop)(b:Bool)(s':Shared):Prop:=∃H',Inv X pins σ H' s'/\Q b H'
def AP(X:Cx)(pins:List (Addr×Obj))(σ:St)(Q:List V->Hp->Prop)(us:List Value)(s':Shared):Prop:=∃vs H',Inv X pins σ H' s'/\Vals vs us/\Q vs H'
def SP(X:Cx)(pins:List (Addr×Obj))(D:Ends)(f:Flow)(s':Shared):Prop :=
 match f with
 | .next=>∃σ' H',Inv X pins σ' H' s'/\D.nx σ' H'
 | .brk=>∃σ' H',Inv X pins σ' H' s'/\D.bk σ' H'
 | .cont=>∃σ' H',Inv X pins σ' H' s'/\D.ct σ' H'
 | .ret u=>∃v σ' H',Inv X pins σ' H' s'/\RelV v u/\D.rt v H'
def PE(X:Cx)(e:Expr)(t:TE):Prop :=
 ∀(pins:List (Addr×Obj))(s:Shared)(σ:St)(H:Hp)(Q:VK),Inv X pins σ H s->t σ H Q->wpAny (model X.prog X.w) X.A (eval e X.env) (EP X pins σ Q) X.xe s
def PT(X:Cx)(e:Expr)(t:TT):Prop :=
 ∀(pins:List (Addr×Obj))(s:Shared)(σ:St)(H:Hp)(Q:Bool->Hp->Prop),Inv X pins σ H s->t σ H Q->wpAny (model X.prog X.w) X.A (isTrue e X.env (eval e X.env)) (TP X pins σ Q) X.xe s
def PW(X:Cx)(e:Expr)(t:TT):Prop :=
 ∀(whole:Sem Value)(pins:List (Addr×Obj))(s:Shared)(σ:St)(H:Hp)(Q:Bool->Hp->Prop),Inv X pins σ H s->t σ H Q->wpAny (model X.prog X.w) X.A (isTrue e X.env whole) (TP X pins σ Q) X.xe s
theorem PW.pt{X:Cx}{e:Expr}{t:TT}(h:PW X e t):PT X e t:=h _
def PA(X:Cx)(es:List Expr)(t:TA):Prop :=
 ∀(pos:Pos)(pins:List (Addr×Obj))(s:Shared)(σ:St)(H:Hp)(Q:List V->Hp->Prop),Inv X pins σ H s->t σ H Q->wpAny (model X.prog X.w) X.A (spliced (backTo pos (starEach es X.env))) (AP X pins σ Q) X.xe s
def PS(X:Cx)(st:Stmt)(t:TS):Prop :=
 ∀(pins:List (Addr×Obj))(s:Shared)(σ:St)(H:Hp)(D:Ends),Inv X pins σ H s->t D σ H->wpAny (model X.prog X.w) X.A (exec st X.env) (SP X pins D) X.xe s
def PSs(X:Cx)(st:List Stmt)(t:TS):Prop :=
 ∀(pins:List (Addr×Obj))(s:Shared)(σ:St)(H:Hp)(D:Ends),Inv X pins σ H s->t D σ H->wpAny (model X.prog X.w) X.A (execs st X.env) (SP X pins D) X.xe s
theorem thn{α:Type}{t:Sem α}{Q Q':α->Shared->Prop}{M:Model}{A:Around}{E:Value->Shared->Prop}{s:Shared}(h:wpAny M A t Q E s)(hQ:∀a s,Q a s->Q' a s):wpAny M A t Q' E s:=wpAny_mono h hQ λ_ _ x=>x
end L2
namespace L2
open PySem PySem.Spec PyProof.Rows
section
variable{X:Cx}
def d3o(i:Nat):TE:=λσ H Q=>∃v,σ[i]?=some (some v)/\Q v H
def tC(v:V):TE:=λ_ H Q=>Q v H
theorem d2c{i:Nat}{x:Str}{pos:Pos}(hN:X.N[i]?=some x)(hv:Vis X.env.scope x)(hd:(x == ("__debug__":Str))=false:=by decide)(hcd:(x == ("__classdict__":Str))=false:=by decide):PE X (.Name x pos) (d3o i):=by
 intro pins s σ H Q I h;obtain⟨v,e,h⟩:=h;obtain⟨m,hn,hl⟩:=I.loc;obtain⟨u,r,l⟩:=hl i x v hN e hv;have fin:EP X pins σ Q u s:=⟨v,H,I,r,h⟩;rcases l with ⟨hk,hm⟩|⟨hk,c,hc,hcell⟩
 ·exact wpAny_Name (wpAny_loadName_local I.ok.kind hk hn hm fin) hd
 ·rcases hk with hk|hk
  ·exact wpAny_Name (wpAny_loadName_cell I.ok.kind hk hc hcell fin) hd
  ·exact wpAny_Name (wpAny_loadName_free I.ok.kind hk hc hcell fin hcd) hd
theorem d9{i j pos}:PE X (.Constant (.int i) j pos) (tC (.int i)):=λ_ _ _ H _ I h=>wpAny_Constant_int ⟨.int i,H,I.tok _,⟨_,rfl⟩,h⟩
theorem a5b{b j pos}:PE X (.Constant (.bool b) j pos) (tC (.bl b)):=λ_ _ _ H _ I h=>Constant_bool ⟨.bl b,H,I,rfl,h⟩
theorem a2z{j pos}:PE X (.Constant .none j pos) (tC .non):=λ_ _ _ H _ I h=>Constant_none ⟨.non,H,I,rfl,h⟩
theorem i9{x j pos}:PE X (.Constant (.str x) j pos) (tC (.str x)):=λ_ _ _ H _ I h=>Calls.Constant_str ⟨.str x,H,I.tok _,⟨_,rfl⟩,h⟩
def Gl(X:Cx)(x:Str):Prop:=X.env.kindOf x=some .globalImplicit
theorem a5y{E:Value->Shared->Prop}{pins:List (Addr×Obj)}{s:Shared}{σ:St}{H:Hp}{x:Str}{u:Value}{pos:Pos}{Q:Value->Shared->Prop}(I:Inv X pins σ H s)(hg:Gl X x)(hm:X.mg x=some u)(h:Q u s)(hd:(x == ("__debug__":Str))=false:=by decide):wpAny (model X.prog X.w) X.A (eval (.Name x pos) X.env) Q E s :=
 Calls.Name_function_global I.ok.kind hg (Calls.loadGlobal_global (by rw[I.ok.glob];exact I.mod.glob.keeps I.bk) hm h) hd
theorem b4a{E:Value->Shared->Prop}{pins:List (Addr×Obj)}{s:Shared}{σ:St}{H:Hp}{x:Str}{u:Value}{pos:Pos}{Q:Value->Shared->Prop}(I:Inv X pins σ H s)(hg:Gl X x)(hm:X.mg x=none)(hv:bootBuiltins x=some u)(h:Q u s)(hn:x≠"__name__":=by decide)(hd:(x == ("__debug__":Str))=false:=by decide):wpAny (model X.prog X.w) X.A (eval (.Name x pos) X.env) Q E s:=by
 obtain⟨mb,h1,h2⟩:=I.mod.blt;exact Calls.Name_function_global I.ok.kind hg (Calls.loadGlobal_builtin (by rw[I.ok.glob];exact I.mod.glob.keeps I.bk) hm (by rw[I.ok.blt];exact h1.keeps I.bk) ((h2 x hn).trans hv) h) hd
theorem b0x{x:Str}{v:V}{u:Value}{pos:Pos}(hg:Gl X x)(hm:X.mg x=some u)(r:RelV v u)(hd:(x == ("__debug__":Str))=false:=by decide):PE X (.Name x pos) (tC v) :=
 λ_ _ _ H _ I h=>a5y I hg hm ⟨v,H,I,r,h⟩ hd
theorem c9q{x:Str}{v:V}{u:Value}{pos:Pos}(hg:Gl X x)(hm:X.mg x=none)(hv:bootBuiltins x=some u)(r:RelV v u)(hn:x≠"__name__":=by decide)(hd:(x == ("__debug__":Str))=false:=by decide):PE X (.Name x pos) (tC v) :=
 λ_ _ _ H _ I h=>b4a I hg hm hv ⟨v,H,I,r,h⟩ hn hd
variable{a b:Expr}{ta tb:TE}{pos:Pos}
def tB(t:TE):TT:=λσ H Q=>t σ H λx H1=>∃c,x=.bl c/\Q c H1
theorem a2d{e:Expr}{t:TE}(h:PE X e t)(he:∀whole,isTrue e X.env whole=(do let v <- whole;standAt e.pos;holding [v] (truthy v)):=by intro _;rfl):PT X e (tB t):=by
 intro pins s σ H Q I hw;refine isTrue_plain (thn (h pins s σ H _ I hw) λv s1 z0_=>?_) (he _);obtain⟨x,H1,I1,r1,q1⟩:=z0_;obtain⟨d,rfl,q⟩:=q1;cases r1;exact wpAny_truthy_bool ⟨H1,I1,q⟩
variable{tA tB':TT}{rest:List Expr}
def d6d(t u:TT):TT:=λσ H Q=>t σ H λc H1=>if c=true then u σ H1 Q else Q false H1
def tOr(t u:TT):TT:=λσ H Q=>t σ H λc H1=>if c=true then Q true H1 else u σ H1 Q
def d6a(t:TT):TT:=λσ H Q=>t σ H λc H1=>Q (!c) H1
theorem a7p(ha:PT X a tA):PW X (.BoolOp .And [a] pos) tA:=by
 intro wh pins s σ H Q I h;refine isTrue_and (thn (ha pins s σ H Q I h) λc s1 e=>?_);cases c with
 | true=>exact isTrue_and_nil e
 | false=>exact e
theorem a1u(ha:PT X a tA):PW X (.BoolOp .Or [a] pos) tA:=by
 intro wh pins s σ H Q I h;refine isTrue_or (thn (ha pins s σ H Q I h) λc s1 e=>?_);cases c with
 | false=>exact isTrue_or_nil e
 | true=>exact e
theorem b0b(ha:PT X a tA)(hb:PW X (.BoolOp .And (b::rest) pos) tB'):PW X (.BoolOp .And (a::b::rest) pos) (d6d tA tB'):=by
 intro wh pins s σ H Q I h;refine isTrue_and (thn (ha pins s σ H _ I h) λc s1 z0_=>?_);obtain⟨H1,I1,q1⟩:=z0_;cases c with
 | true=>exact hb wh pins s1 σ H1 Q I1 q1
 | false=>exact⟨H1,I1,q1⟩
theorem a4t(ha:PT X a tA)(hb:PW X (.BoolOp .Or (b::rest) pos) tB'):PW X (.BoolOp .Or (a::b::rest) pos) (tOr tA tB'):=by
 intro wh pins s σ H Q I h;refine isTrue_or (thn (ha pins s σ H _ I h) λc s1 z0_=>?_);obtain⟨H1,I1,q1⟩:=z0_;cases c with
 | true=>exact⟨H1,I1,q1⟩
 | false=>exact hb wh pins s1 σ H1 Q I1 q1
theorem a4b(ha:PT X a tA):PT X (.UnaryOp .Not a pos) (d6a tA):=by
 intro pins s σ H Q I h;exact isTrue_not (ha pins s σ H (λc H1=>Q (!c) H1) I h)
def d1s(ta tb:TE):TE:=λσ H Q=>ta σ H λx H1=>∃c,x=.bl c/\if c=true then tb σ H1 Q else Q (.bl false) H1
def d5z(ta tb:TE):TE:=λσ H Q=>ta σ H λx H1=>∃c,x=.bl c/\if c=true then Q (.bl true) H1 else tb σ H1 Q
theorem a1b{op}{t:TE}(h:PE X a t):PE X (.BoolOp op [a] pos) t:=λpins s σ H Q I hw=>BoolOp_one (h pins s σ H Q I hw)
theorem a1p(ha:PE X a ta)(hb:PE X (.BoolOp .And (b::rest) pos) tb):PE X (.BoolOp .And (a::b::rest) pos) (d1s ta tb):=by
 intro pins s σ H Q I h;refine BoolOp_and (thn (ha pins s σ H _ I h) λv s1 z0_=>?_);obtain⟨x,H1,I1,r1,q1⟩:=z0_;obtain⟨c,rfl,q1⟩:=q1;cases r1;refine wpAny_truthy_bool ?_;cases c with
 | true=>exact hb pins s1 σ H1 Q I1 q1
 | false=>exact⟨.bl false,H1,I1,rfl,q1⟩
theorem c3x(ha:PE X a ta)(hb:PE X (.BoolOp .Or (b::rest) pos) tb):PE X (.BoolOp .Or (a::b::rest) pos) (d5z ta tb):=by
 intro pins s σ H Q I h;refine BoolOp_or (thn (ha pins s σ H _ I h) λv s1 z0_=>?_);obtain⟨x,H1,I1,r1,q1⟩:=z0_;obtain⟨c,rfl,q1⟩:=q1;cases r1;refine wpAny_truthy_bool ?_;cases c with
 | false=>exact hb pins s1 σ H1 Q I1 q1
 | true=>exact⟨.bl true,H1,I1,rfl,q1⟩
def tIf(t:TT)(ta tb:TE):TE:=λσ H Q=>t σ H λc H1=>if c=true then ta σ H1 Q else tb σ H1 Q
theorem a5u{c:Expr}(hc:PT X c tA)(ha:PE X a ta)(hb:PE X b tb):PE X (.IfExp c a b pos) (tIf tA ta tb):=by
 intro pins s σ H Q I h;refine wpAny_IfExp (thn (hc pins s σ H _ I h) λd s1 z0_=>?_);obtain⟨H1,I1,q1⟩:=z0_;cases d with
 | true=>exact ha pins s1 σ H1 Q I1 q1
 | false=>exact hb pins s1 σ H1 Q I1 q1
end
end L2
namespace L2
open PySem PySem.Spec PyProof.Rows
def SqL(K:Frag)(H:Hp)(a:Addr)(xs:List V):Prop :=
 Rd H a (.lst xs) \/
  ∃(o:Obj)(its:Array Value)(n:Nat),K.lookup a=some o/\o.cls=.type "list"/\o.dict=none/\o.data=.seq its n/\its.size<=sizeLine/\Vals xs its.toList
def SqT(K:Frag)(H:Hp)(a:Addr)(xs:List V):Prop :=
 Rd H a (.tup xs) \/
  ∃(o:Obj)(its:Array Value)(n:Nat),K.lookup a=some o/\o.cls=.type "tuple"/\o.data=.seq its n/\its.size<=sizeLine/\Vals xs its.toList
def d7t:Value->Option V
 | .none=>some .non
 | .bool b=>some (.bl b)
 | .int i _=>some (.int i)
 | .str x _=>some (.str x)
 | .bytes b _=>some (.byt b)
 | .float b _=>some (.flt b)
 | .ref a=>some (.ref a)
 | .type n=>some (.ty n)
 | _=>none
theorem RelV.abs{x:V}{u:Value}(r:RelV x u):d7t u=some x:=by
 cases x with
 | non=>cases r;rfl
 | bl _=>cases r;rfl
 | int _=>obtain⟨t,rfl⟩:=r;rfl
 | str _=>obtain⟨t,rfl⟩:=r;rfl
 | byt _=>obtain⟨t,rfl⟩:=r;rfl
 | flt _=>obtain⟨t,rfl⟩:=r;rfl
 | ref _=>cases r;rfl
 | ty _=>cases r;rfl
theorem RelV.inj{x y:V}{u:Value}(r:RelV x u)(q:RelV y u):x=y:=Option.some.inj (r.abs.symm.trans q.abs)
theorem Vals.inj{xs ys:List V}{us:List Value}(h:Vals xs us)(h':Vals ys us):xs=ys:=by
 induction h generalizing ys with
 | nil=>cases h';rfl
 | cons r t ih=>cases h' with|cons r' t'=>rw[r.inj r',ih t']
section
variable{X:Cx}{pins:List (Addr×Obj)}{σ:St}{H:Hp}{s:Shared}{a:Addr}{xs ys:List V}
theorem SqL.of{K:Frag}(h:H a=some (.lst xs)):SqL K H a xs:=.inl (.inl h)
theorem SqT.of{K:Frag}(h:H a=some (.tup xs)):SqT K H a xs:=.inl (.inl h)
theorem Inv.list(I:Inv X pins σ H s)(h:SqL X.K H a xs):∃its:List Value,Vals xs its/\PlainL s.heap a its.toArray/\xs.length<=sizeLine:=by
 rcases h with h|⟨o,its,n,hk,hc,hd,hs,hz,r⟩
 ·obtain⟨z,its,n,r,e⟩:=h.ok I.hok
  exact⟨its,r,⟨_,n,e,rfl,rfl,rfl⟩,z⟩
 ·refine⟨its.toList,r,⟨o,n,I.kIn a o hk,hc,hd,by simpa using hs⟩,?_⟩
  have e:=r.length;simp only[Array.length_toList] at e;lia
theorem Inv.tuple(I:Inv X pins σ H s)(h:SqT X.K H a xs):∃its:List Value,Vals xs its/\IsTup s.heap a its.toArray/\xs.length<=sizeLine:=by
 rcases h with h|⟨o,its,n,hk,hc,hs,hz,r⟩
 ·obtain⟨z,its,r,p⟩:=h.ok I.hok
  exact⟨its,r,p,z⟩
 ·refine⟨its.toList,r,⟨o,I.kIn a o hk,hc,n,by simpa using hs⟩,?_⟩
  have e:=r.length;simp only[Array.length_toList] at e;lia
theorem Inv.list_inj(I:Inv X pins σ H s)(h:SqL X.K H a xs)(h':SqL X.K H a ys):xs=ys:=by
 obtain⟨its,r,⟨o,n,e,_,_,d⟩,_⟩:=I.list h;obtain⟨its',r',⟨o',n',e',_,_,d'⟩,_⟩:=I.list h';rw[e] at e';cases e';rw[d] at d';injection d' with d1 _
 have:its=its':=by simpa using congrArg Array.toList d1
 subst this;exact r.inj r'
theorem Inv.tuple_inj(I:Inv X pins σ H s)(h:SqT X.K H a xs)(h':SqT X.K H a ys):xs=ys:=by
 obtain⟨its,r,⟨o,e,_,n,d⟩,_⟩:=I.tuple h;obtain⟨its',r',⟨o',e',_,n',d'⟩,_⟩:=I.tuple h';rw[e] at e';cases e';rw[d] at d';injection d' with d1 _
 have:its=its':=by simpa using congrArg Array.toList d1
 subst this;exact r.inj r'
end
section
variable{X:Cx}{pins:List (Addr×Obj)}{σ:St}{H:Hp}{s:Shared}{E:Value->Shared->Prop}
end
section
variable{X:Cx}{st:Stmt}{rest:List Stmt}{t u:TS}{e:Expr}{te:TE}{pos:Pos}
def c9b:TS:=λD σ H=>D.nx σ H
def d3z(t u:TS):TS:=λD σ H=>t { D with nx:=u D } σ H
theorem k7:PSs X [] c9b:=λ_ _ σ H _ I h=>wpAny_execs_nil ⟨σ,H,I,h⟩
theorem d7(h1:PS X st t)(h2:PSs X rest u):PSs X (st::rest) (d3z t u):=by
 intro pins s σ H D I h;refine wpAny_execs_cons (thn (h1 pins s σ H { D with nx:=u D } I h) λf s1 q=>?_)
 cases f with
 | next=>
  obtain⟨σ',H',I',q⟩:=q;exact h2 pins s1 σ' H' D I' q
 | ret v=>exact q
 | brk=>exact q
 | cont=>exact q
theorem g0(h1:PS X st t):PSs X [st] t:=by
 intro pins s σ H D I h;refine wpAny_execs_cons (thn (h1 pins s σ H D I h) λf s1 q=>?_);cases f with
 | next=>exact wpAny_execs_nil q
 | ret v=>exact q
 | brk=>exact q
 | cont=>exact q
theorem Inv.quiet{pins:List (Addr×Obj)}{σ:St}{H:Hp}{s:Shared}(I:Inv X pins σ H s):interactive X.env=false:=by simp[interactive,I.ok.kind]
def d1p(te:TE):TS:=λD σ H=>te σ H λ_ H1=>D.nx σ H1
theorem z8(he:PE X e te)(hs:swapsWith e none pos.line X.env=pure false:=by rfl):PS X (.Expr e pos) (d1p te):=by
 intro pins s σ H D I h;exact wpAny_Expr_any (thn (he pins s σ H _ I h) λv s1 z0_=>by obtain⟨x,H1,I1,r1,q1⟩:=z0_;exact⟨σ,H1,I1,q1⟩) I.quiet hs
def d5y(te:TE):TS:=λD σ H=>te σ H D.rt
theorem j4(he:PE X e te):PS X (.Return (some e) pos) (d5y te):=by
 intro pins s σ H D I h;exact wpAny_Return_some (thn (he pins s σ H _ I h) λv s1 z0_=>by obtain⟨x,H1,I1,r1,q1⟩:=z0_;exact⟨x,σ,H1,I1,r1,q1⟩)
def d4c(c:TT)(t u:TS):TS:=λD σ H=>c σ H λb H1=>if b=true then t D σ H1 else u D σ H1
theorem v9{c:Expr}{a b:List Stmt}{tc:TT}(hc:PT X c tc)(ha:PSs X a t)(hb:PSs X b u):PS X (.If c a b pos) (d4c tc t u):=by
 intro pins s σ H D I h;refine wpAny_If (thn (hc pins s σ H _ I h) λd s1 z0_=>?_);obtain⟨H1,I1,q1⟩:=z0_;cases d with
 | true=>exact ha pins s1 σ H1 D I1 q1
 | false=>exact hb pins s1 σ H1 D I1 q1
end
abbrev TG:=V->St->Hp->(St->Hp->Prop)->Prop
abbrev TGs:=List V->St->Hp->(St->Hp->Prop)->Prop
def PG(X:Cx)(target:Expr)(t:TG):Prop :=
 ∀(pins:List (Addr×Obj))(s:Shared)(σ:St)(H:Hp)(v:V)(u:Value)(Q:St->Hp->Prop),Inv X pins σ H s->RelV v u->t v σ H Q ->
  wpAny (model X.prog X.w) X.A (assign target X.env u) (λ_ s'=>∃σ' H',Inv X pins σ' H' s'/\Q σ' H') X.xe s
def PGs(X:Cx)(ts:List Expr)(t:TGs):Prop :=
 ∀(pins:List (Addr×Obj))(s:Shared)(σ:St)(H:Hp)(vs:List V)(us:List Value)(Q:St->Hp->Prop),Inv X pins σ H s->Vals vs us->t vs σ H Q ->
  wpAny (model X.prog X.w) X.A (assignInOrder ((assignEach ts X.env).map (·.2)) us) (λ_ s'=>∃σ' H',Inv X pins σ' H' s'/\Q σ' H') X.xe s
abbrev d3t:=V->V->V->Hp->(Hp->Prop)->Prop
def d6q(X:Cx)(t:d3t):Prop :=
 ∀(pins:List (Addr×Obj))(s:Shared)(σ:St)(H:Hp)(o i v:V)(ov iv u:Value)(Q:Hp->Prop),Inv X pins σ H s->RelV o ov->RelV i iv->RelV v u->t o i v H Q ->
  wpAny (model X.prog X.w) X.A (setItem ov iv u) (λ_ s'=>∃H',Inv X pins σ H' s'/\Q H') X.xe s
abbrev TIp:=V->V->Hp->VK->Prop
def PIp(X:Cx)(op:Operator)(t:TIp):Prop :=
 ∀(pins:List (Addr×Obj))(s:Shared)(σ:St)(H:Hp)(x y:V)(v u:Value)(Q:VK),Inv X pins σ H s->RelV x v->RelV y u->t x y H Q ->
  wpAny (model X.prog X.w) X.A (inplaceOp op v u) (EP X pins σ Q) X.xe s
section
variable{X:Cx}{pos:Pos}
def a6j(i:Nat):TG:=λv σ H Q=>Q (σ.set i (some v)) H
theorem i4{i:Nat}{x:Str}(hN:X.N.Nodup)(hi:X.N[i]?=some x)(hx:Loc X.env.scope x)(hf:X.fn x=true\/X.env.scope.names.lookup x=some .local:=by first|exact .inl rfl|exact .inr rfl|assumption):PG X (.Name x pos) (a6j i):=by
 intro pins s σ H v u Q I r h;exact wpAny_assign_Name (b2i I hN hi hx r (λs' I'=>⟨_,H,I',h⟩) hf)
def d5n:TGs:=λvs σ H Q=>vs=[]/\Q σ H
def b1e(t:TG)(u:TGs):TGs:=λvs σ H Q=>∃v r,vs=v::r/\t v σ H λσ' H'=>u r σ' H' Q
theorem a1i:PGs X [] d5n:=by
 intro pins s σ H vs us Q I r h;obtain⟨e,h⟩:=h;subst e;cases r;exact assignInOrder_nil ⟨σ,H,I,h⟩
theorem i5{e:Expr}{es:List Expr}{t:TG}{u:TGs}(h1:PG X e t)(h2:PGs X es u)(hs:(assignEach (e::es) X.env).map (·.2)=assign e X.env::(assignEach es X.env).map (·.2):=by rfl):PGs X (e::es) (b1e t u):=by
 intro pins s σ H vs us Q I r h;obtain⟨v,vr,e1,h⟩:=h;subst e1;cases r with
 | cons r rr=>
  rw[hs];refine assignInOrder_cons (thn (h1 pins s σ H _ _ _ I r h) λ_ s1 z0_=>?_);obtain⟨σ1,H1,I1,q1⟩:=z0_;exact h2 pins s1 σ1 H1 _ _ Q I1 rr q1
def d3r(K:Frag)(n:Nat)(t:TGs):TG:=λv σ H Q=>∃a xs,v=.ref a/\SqT K H a xs/\xs.length=n/\t xs σ H Q
theorem d2b{es:List Expr}{k:Nat}{t:TGs}{n:Nat}(hc:X.calm=true)(h:PGs X es t)(hn:(assignEach es X.env).length=n:=by rfl)(hst:(assignEach es X.env).findIdx? (·.1)=none:=by rfl):PG X (.Tuple es k pos) (d3r X.K n t):=by
 intro pins s σ H v u Q I r hw;obtain⟨a,xs,e1,hq,hl,hw⟩:=hw;subst e1;cases r;obtain⟨its,rv,ht,hz⟩:=I.tuple hq;refine assign_Tuple_tuple (I.ok.hd hc) ht (by simp[hn,<- hl,rv.length]) hst λh' hx=>?_
 have I1:Inv X pins σ H { s with heap:=h' }:=I.kept (t':=s.toks) λb o e=>hx b o (Nat.ne_of_lt (Heap.lt_size e)) e
 exact h pins _ σ H xs _ Q I1 (by simpa using rv) hw
def d6m(to ti:TE)(t:d3t):TG:=λv σ H Q=>to σ H λo H1=>ti σ H1 λi H2=>t o i v H2 λH3=>Q σ H3
theorem b8a{o i:Expr}{to ti:TE}{t:d3t}(ho:PE X o to)(hi:PE X i ti)(hs:d6q X t)(ha:∀v,assign (.Subscript o i pos) X.env v=(do
   let ov <- holding [v] (eval o X.env)
   let iv <- holding [v,ov] (eval i X.env)
   standAt pos
   holding [v,ov,iv] (setItem ov iv v)
   release [v,ov,iv] []):=by intro _;rfl):PG X (.Subscript o i pos) (d6m to ti t):=by
 intro pins s σ H v u Q I r h;rw[ha];refine wpAny_bind (wpAny_holding (thn (ho pins s σ H _ I h) λov s1 z0_=>?_));obtain⟨x,H1,I1,r1,q1⟩:=z0_;refine wpAny_bind (wpAny_holding (thn (hi pins s1 σ H1 _ I1 q1) λiv s2 z0_=>?_));obtain⟨y,H2,I2,r2,q2⟩:=z0_;refine wpAny_bind (wpAny_standAt (wpAny_bind (wpAny_holding (thn (hs pins s2 σ H2 x y v ov iv u _ I2 r1 r2 r q2) λ_ s3 z0_=>?_))));obtain⟨H3,I3,q3⟩:=z0_;exact wpAny_release ⟨σ,H3,I3,q3⟩
def d1r(te:TE)(g:TG):TS:=λD σ H=>te σ H λx H1=>g x σ H1 D.nx
theorem a1l{tg e:Expr}{te:TE}{g:TG}(he:PE X e te)(hg:PG X tg g)(hs:swapsWithSole [tg] e pos.line X.env=pure false:=by rfl)(hw:swappedStores [tg] e X.env=pure none:=by rfl)(h1:(assignEach [tg] X.env).map (·.2)=[assign tg X.env]:=by rfl):PS X (.Assign [tg] e pos) (d1r te g):=by
 intro pins s σ H D I h;refine wpAny_Assign_stores (thn (he pins s σ H _ I h) λv s1 z0_=>?_) hs hw;obtain⟨x,H1,I1,r1,q1⟩:=z0_;rw[h1];exact thn (hg pins s1 σ H1 x v _ I1 r1 q1) λ_ s2 q=>q
theorem j7{i:Nat}{x:Str}{e:Expr}{te:TE}{pos':Pos}(hN:X.N.Nodup)(hi:X.N[i]?=some x)(hx:Loc X.env.scope x)(he:PE X e te)(hs:swapsWith e (some (.Name x pos')) pos.line X.env=pure false:=by rfl)(hf:X.fn x=true\/X.env.scope.names.lookup x=some .local:=by first|exact .inl rfl|exact .inr rfl|assumption):
  PS X (.Assign [.Name x pos'] e pos) (d1r te (a6j i)):=by
 intro pins s σ H D I h;refine wpAny_Assign_Name (thn (he pins s σ H _ I h) λv s1 z0_=>?_) hs;obtain⟨y,H1,I1,r1,q1⟩:=z0_;exact b2i I1 hN hi hx r1 (λs2 I2=>⟨_,H1,I2,q1⟩) hf
def d6v(i:Nat)(te:TE)(ti:TIp):TS:=λD σ H=>∃x,σ[i]?=some (some x)/\te σ H λy H1=>ti x y H1 λz H2=>D.nx (σ.set i (some z)) H2
theorem c7y{i:Nat}{x:Str}{e:Expr}{te:TE}{op:Operator}{ti:TIp}{pos':Pos}(hN:X.N.Nodup)(hi:X.N[i]?=some x)(hx:Loc X.env.scope x)(he:PE X e te)(ho:PIp X op ti)(hf:X.fn x=true\/X.env.scope.names.lookup x=some .local:=by first|exact .inl rfl|exact .inr rfl|assumption):
  PS X (.AugAssign (.Name x pos') op e pos) (d6v i te ti):=by
 intro pins s σ H D I h;obtain⟨v,e1,h⟩:=h;obtain⟨m,hn,hl⟩:=I.loc;have vis:Vis X.env.scope x:=by rcases hx with k|k;exact .inl k;exact .inr (.inl k)
 obtain⟨u,r,l⟩:=hl i x v hi e1 vis;refine wpAny_AugAssign_Name ?_;have go:wpAny (model X.prog X.w) X.A (eval e X.env) (λw s₂=>wpAny (model X.prog X.w) X.A (inplaceOp op u w) (λr s₃=>wpAny (model X.prog X.w) X.A (storeName X.env x r) (λ_=>SP X pins D .next) X.xe s₃) X.xe s₂) X.xe s:=by
  refine thn (he pins s σ H _ I h) λw s1 z0_=>?_;obtain⟨y,H1,I1,r1,q1⟩:=z0_;refine thn (ho pins s1 σ H1 v y u w _ I1 r r1 q1) λz s2 z0_=>?_;obtain⟨zv,H2,I2,r2,q2⟩:=z0_;exact b2i I2 hN hi hx r2 (λs3 I3=>⟨_,H2,I3,q2⟩) hf
 rcases l with ⟨hk,hm⟩|⟨hk,c,hc,hcell⟩
 ·exact wpAny_loadName_local I.ok.kind hk hn hm go
 ·rcases hk with hk|hk
  ·exact wpAny_loadName_cell I.ok.kind hk hc hcell go
  ·rcases hx with k|k
   ·have:X.env.scope.names.lookup x=some .free:=hk
    rw[k] at this;cases this
   ·have:X.env.scope.names.lookup x=some .free:=hk
    rw[k] at this;cases this
end
structure It where
 go:Nat->Hp->Prop
 yld:Nat->Hp->V->Hp->Prop
 stop:Nat->Hp->Prop
def c2c(X:Cx)(pins:List (Addr×Obj))(H:Hp)(b:Addr):Prop :=
 H b=none/\b≠X.env.locals/\b ∉ X.fs/\(b∈X.ex\/X.s₀.heap.objs.size<=b)/\(∀x c,X.env.cells.lookup x=some c->c≠b)/\∀p∈X.pn++pins,p.1≠b
theorem Inv.fpOk{X:Cx}{pins:List (Addr×Obj)}{σ:St}{H H':Hp}{s:Shared}{b:Addr}(I:Inv X pins σ H s)(hb:s.heap.objs.size<=b)(hn:H' b=none):c2c X pins H' b:=by
 refine⟨hn,Nat.ne_of_gt (Nat.lt_of_lt_of_le I.lt hb),I.nofs hb,.inr (Nat.le_trans I.sz hb),λx c e z=>?_,λp hp z=>?_⟩
 ·obtain⟨v,q⟩:=I.cell x c e
  exact absurd (Nat.lt_of_lt_of_le q.lt (by rw[z];exact hb)) (Nat.lt_irrefl _)
 ·exact absurd (Nat.lt_of_lt_of_le (Heap.lt_size (I.pin p hp).1) (by rw[z];exact hb)) (Nat.lt_irrefl _)
structure d3s(P:Program)(w:World)(K:Frag)(tg:Expr)(J:It)(fp:List Addr)(it:Addr)(tn:Nat->Heap->Prop):Prop where
 mem:it∈fp
 obj:∀i h,tn i h->∀b∈fp,∃o,h.get? b=some o/\∀v,o.data≠.cell v
 keep:∀i h h',tn i h->(∀b∈fp,∀o,h.get? b=some o->h'.get? b=some o)->tn i h'
 item:∀(X:Cx),X.prog=P->X.w=w->X.K=K->X.calm=true->∀(i:Nat)(pins:List (Addr×Obj))(s:Shared)(σ:St)(H:Hp)(E:Value->Shared->Prop),Inv X pins σ H s->(∀b∈fp,c2c X pins H b)->tn i s.heap->J.go i H ->
  wpAny (model P w) X.A (pyNext (.ref it)) (λr s1=>∃u,r=some u /\
   wpAny (model P w) X.A (letOwnedTupleGo tg (.ref it) u) (λ_ s2=>∃x H',Inv X pins σ H' s2/\RelV x u/\J.yld i H x H'/\tn (i+1) s2.heap/\∀b∈fp,H' b=none) E s1) E s
 done:∀(X:Cx),X.prog=P->X.w=w->X.K=K->X.calm=true->∀(i:Nat)(pins:List (Addr×Obj))(s:Shared)(σ:St)(H:Hp)(E:Value->Shared->Prop),Inv X pins σ H s->(∀b∈fp,c2c X pins H b)->tn i s.heap->J.stop i H ->
  wpAny (model P w) X.A (pyNext (.ref it)) (λr s1=>r=none/\Inv X pins σ H s1) E s
 self:∀(A:Around)(i:Nat)(s:Shared)(Q:Value->Shared->Prop)(E:Value->Shared->Prop),tn i s.heap->Q (.ref it) s->wpAny (model P w) A (pyIter (.ref it)) Q E s
abbrev TI:=St->Hp->(It->Hp->Prop)->Prop
def PIE(X:Cx)(pins:List (Addr×Obj))(σ:St)(tg:Expr)(R:It->Hp->Prop)(itv:Value)(s2:Shared):Prop :=
 ∃(it:Addr)(fp:List Addr)(tn:Nat->Heap->Prop)(J:It)(H':Hp),itv=.ref it/\Inv X pins σ H' s2/\d3s X.prog X.w X.K tg J fp it tn/\tn 0 s2.heap/\(∀b∈fp,c2c X pins H' b)/\R J H'
def PI(X:Cx)(tg iter:Expr)(wi:TI):Prop :=
 ∀(pins:List (Addr×Obj))(s:Shared)(σ:St)(H:Hp)(R:It->Hp->Prop),Inv X pins σ H s->wi σ H R ->
  wpAny (model X.prog X.w) X.A (eval iter X.env) (λv s1=>wpAny (model X.prog X.w) X.A (pyIter v) (PIE X pins σ tg R) X.xe s1) X.xe s
theorem d0b{M:Model}{A:Around}{E:Value->Shared->Prop}{s:Shared}{tg:Expr}{it:Addr}{u:Value}{o:Obj}{n:String}{vs:Array Value}{Q:Unit->Shared->Prop}(ho:s.heap.get? it=some o)(hc:o.cls=.type n)(hd:o.data=.fields vs)(hn:["enumerate","zip","dict_itemiterator","dict_reverseitemiterator","odict_iterator","itertools.zip_longest","itertools.pairwise"].contains n=false)(hQ:Q () s):wpAny M A (letOwnedTupleGo tg (.ref it) u) Q E s:=by
 unfold letOwnedTupleGo;cases tg <;> first
  | exact wpAny_pure hQ
  | (cases u <;> first
    | exact wpAny_pure hQ
    | (
      refine wpAny_bind (wpAny_load ho ?_);rw[hc,hd];show wpAny M A (if (["enumerate","zip","dict_itemiterator","dict_reverseitemiterator","odict_iterator","itertools.zip_longest","itertools.pairwise"].contains n && vs[0]? == some (rawInt _))=true then _ else _) Q E s;rw[if_neg (by intro h;rw[hn,Bool.false_and] at h;cases h)]
      exact wpAny_pure hQ))
def Itl(K:Frag)(a:Addr):It :=
 ⟨λi H=>∃xs x,SqL K H a xs/\xs[i]?=some x,λi H x H'=>H'=H/\∀xs,SqL K H a xs->xs[i]?=some x,λi H=>∃xs,SqL K H a xs/\xs.length<=i⟩
def Itt(K:Frag)(a:Addr):It :=
 ⟨λi H=>∃xs x,SqT K H a xs/\xs[i]?=some x,λi H x H'=>H'=H/\∀xs,SqT K H a xs->xs[i]?=some x,λi H=>∃xs,SqT K H a xs/\xs.length<=i⟩
def Itr(lo:Int)(n:Nat):It:=⟨λi _=>i<n,λi H x H'=>H'=H/\x=.int (lo+i),λi _=>n<=i⟩
theorem b7h{P:Program}{w:World}{K:Frag}{tg:Expr}(a it:Addr):d3s P w K tg (Itl K a) [it] it (λi h=>h.IsListIter it a i) where
 mem:=by simp
 obj:=λi h st b hb=>by
  have e:b=it:=by simpa using hb
  subst e;obtain⟨o,e,c,d⟩:=st;exact⟨o,e,λv z=>by rw[d] at z;cases z⟩
 keep:=λi h h' st k=>st.at λo e=>k it (by simp) o e
 item:=by
  intro X hP hw hK hc i pins s σ H E I hf st hg;subst hP hw hK;obtain⟨xs,x,hq,hx⟩:=hg;obtain⟨its,rv,p,hz⟩:=I.list hq;obtain⟨u,hu,ru⟩:=rv.get hx;obtain⟨f0,f1,f2,f3,f4,f5⟩:=hf it (by simp)
  refine wpAny_pyNext_list_item st p.isList (x:=u) (by simpa using hu) λh' st' sb=>?_
  have I1:Inv X pins σ H { s with heap:=h' }:=I.turned (t':=s.toks) (λb o hb e=>(sb.2 b hb).trans e) f0 f1 f3 f4 f5
  obtain⟨o,e,c,d⟩:=id st';exact⟨u,rfl,d0b (s:={ s with heap:=h' }) e c d (by decide) ⟨x,H,I1,ru,⟨rfl,λys hy=>by rw[I.list_inj hy hq];exact hx⟩,st',λb hb=>(hf b hb).1⟩⟩
 done:=by
  intro X hP hw hK hc i pins s σ H E I hf st hg;subst hP hw hK;obtain⟨xs,hq,hx⟩:=hg;obtain⟨its,rv,p,hz⟩:=I.list hq;obtain⟨f0,f1,f2,f3,f4,f5⟩:=hf it (by simp)
  have hl:=rv.length;exact wpAny_pyNext_list_end (I.ok.hd hc) st p.isList (by simp;lia) λh' eb=>⟨rfl,I.turned (t':=s.toks) (λb o hb e=>eb b o hb e) f0 f1 f3 f4 f5⟩
 self:=λ_ _ _ _ _ st h=>wpAny_pyIter_listiter st h
theorem b4x{P:Program}{w:World}{K:Frag}{tg:Expr}(a it:Addr):d3s P w K tg (Itt K a) [it] it (λi h=>h.IsTupleIter it a i) where
 mem:=by simp
 obj:=λi h st b hb=>by
  have e:b=it:=by simpa using hb
  subst e;obtain⟨o,e,c,d⟩:=st;exact⟨o,e,λv z=>by rw[d] at z;cases z⟩
 keep:=λi h h' st k=>st.at λo e=>k it (by simp) o e
 item:=by
  intro X hP hw hK hc i pins s σ H E I hf st hg;subst hP hw hK;obtain⟨xs,x,hq,hx⟩:=hg;obtain⟨its,rv,p,hz⟩:=I.tuple hq;obtain⟨u,hu,ru⟩:=rv.get hx;obtain⟨f0,f1,f2,f3,f4,f5⟩:=hf it (by simp)
  refine wpAny_pyNext_tuple_item st (show s.heap.IsTuple a its.toArray from p) (x:=u) (by simpa using hu) λh' st' sb=>?_
  have I1:Inv X pins σ H { s with heap:=h' }:=I.turned (t':=s.toks) (λb o hb e=>(sb.2 b hb).trans e) f0 f1 f3 f4 f5
  obtain⟨o,e,c,d⟩:=id st';exact⟨u,rfl,d0b (s:={ s with heap:=h' }) e c d (by decide) ⟨x,H,I1,ru,⟨rfl,λys hy=>by rw[I.tuple_inj hy hq];exact hx⟩,st',λb hb=>(hf b hb).1⟩⟩
 done:=by
  intro X hP hw hK hc i pins s σ H E I hf st hg;subst hP hw hK;obtain⟨xs,hq,hx⟩:=hg;obtain⟨its,rv,p,hz⟩:=I.tuple hq;obtain⟨f0,f1,f2,f3,f4,f5⟩:=hf it (by simp)
  have hl:=rv.length;exact wpAny_pyNext_tuple_end (I.ok.hd hc) st (show s.heap.IsTuple a its.toArray from p) (by simp;lia) λh' eb=>⟨rfl,I.turned (t':=s.toks) (λb o hb e=>eb b o hb e) f0 f1 f3 f4 f5⟩
 self:=λ_ _ _ _ _ st h=>wpAny_pyIter_tupleiter st h
theorem c2d{P:Program}{w:World}{K:Frag}{tg:Expr}(it:Addr)(lo:Int)(n:Nat):d3s P w K tg (Itr lo n) [it] it (λi h=>IsRangeIter h it (lo+(i:Nat)*1) ((n:Int)-(i:Nat)) 1) where
 mem:=by simp
 obj:=λi h st b hb=>by
  have e:b=it:=by simpa using hb
  subst e;exact⟨_,st,λv z=>by
   have z':Data.fields _=Data.cell v:=z;cases z'⟩
 keep:=λi h h' st k=>k it (by simp) _ st
 item:=by
  intro X hP hw hK hc i pins s σ H E I hf st hg;subst hP hw hK;obtain⟨f0,f1,f2,f3,f4,f5⟩:=hf it (by simp)
  have W:=Walks.range (prog:=X.prog) (w:=X.w) (I.ok.hd hc) it lo 1 n;refine W.item i s _ _ hg st λv h' tk hv st' kk=>?_;obtain⟨t,rfl⟩:=hv;have I1:Inv X pins σ H { s with heap:=h',toks:=tk }:=I.turned (λb o hb e=>kk b o (by simpa using hb) e) f0 f1 f3 f4 f5
  refine⟨_,rfl,d0b (s:={ s with heap:=h',toks:=tk }) (n:="range_iterator") st' rfl rfl (by decide) ⟨.int (lo+i),H,I1,⟨t,?_⟩,⟨rfl,rfl⟩,st',λb hb=>(hf b hb).1⟩⟩
  rw[Int.mul_one]
 done:=by
  intro X hP hw hK hc i pins s σ H E I hf st hg;subst hP hw hK;obtain⟨f0,f1,f2,f3,f4,f5⟩:=hf it (by simp)
  exact wpAny_pyNext_range_end (I.ok.hd hc) st (by have:n<=i:=hg;lia) λh' eb=>⟨rfl,I.turned (t':=s.toks) (λb o hb e=>eb b o hb e) f0 f1 f3 f4 f5⟩
 self:=λ_ _ _ _ _ st h=>wpAny_pyIter_rangeiter st h
end L2
namespace L2
open PySem PySem.Spec PyProof.Rows
section
variable{X:Cx}{tg:Expr}
def c9z(K:Frag)(tl:TE):TI:=λσ H R=>tl σ H λx H1=>∃a,x=.ref a/\(∃xs,SqL K H1 a xs)/\R (Itl K a) H1
def d4t(K:Frag)(tl:TE):TI:=λσ H R=>tl σ H λx H1=>∃a,x=.ref a/\(∃xs,SqT K H1 a xs)/\R (Itt K a) H1
theorem c9l{l:Expr}{tl:TE}(hl:PE X l tl):PI X tg l (c9z X.K tl):=by
 intro pins s σ H R I h;refine thn (hl pins s σ H _ I h) λv s1 z0_=>?_;obtain⟨x,H1,I1,r1,q1⟩:=z0_;obtain⟨a,e,⟨xs,hq⟩,q⟩:=q1;subst e;cases r1;obtain⟨its,rv,p,hz⟩:=I1.list hq;refine wpAny_pyIter_list p.isList ?_;refine⟨s1.heap.objs.size,[s1.heap.objs.size],_,_,H1,rfl,I1.kept (t':=s1.toks) λb o e=>Heap.get?_push_of_some _ e,b7h a _,⟨_,Heap.get?_push_size _ rfl,rfl,rfl⟩,λb hb=>?_,q⟩;have e:b=s1.heap.objs.size:=by simpa using hb
 subst e;exact I1.fpOk (Nat.le_refl _) (I1.hok.fresh (Nat.le_refl _))
theorem d2a{l:Expr}{tl:TE}(hl:PE X l tl):PI X tg l (d4t X.K tl):=by
 intro pins s σ H R I h;refine thn (hl pins s σ H _ I h) λv s1 z0_=>?_;obtain⟨x,H1,I1,r1,q1⟩:=z0_;obtain⟨a,e,⟨xs,hq⟩,q⟩:=q1;subst e;cases r1;obtain⟨its,rv,p,hz⟩:=I1.tuple hq;refine wpAny_pyIter_tuple (show s1.heap.IsTuple a its.toArray from p) ?_;refine⟨s1.heap.objs.size,[s1.heap.objs.size],_,_,H1,rfl,I1.kept (t':=s1.toks) λb o e=>Heap.get?_push_of_some _ e,b4x a _,⟨_,Heap.get?_push_size _ rfl,rfl,rfl⟩,λb hb=>?_,q⟩;have e:b=s1.heap.objs.size:=by simpa using hb
 subst e;exact I1.fpOk (Nat.le_refl _) (I1.hok.fresh (Nat.le_refl _))
theorem c0x{pins:List (Addr×Obj)}{σ:St}{H:Hp}{s:Shared}{R:It->Hp->Prop}{E:Value->Shared->Prop}{lo hi:Int}{t u v:Tok}{tk:Nat}(I:Inv X pins σ H s)(h1:-(2 ^ 62)<=lo)(h2:lo<2 ^ 62)(h3:-(2 ^ 62)<=hi)(h4:hi<2 ^ 62)(q:R (Itr lo (hi-lo).toNat) H):wpAny (model X.prog X.w) X.A (pyIter (.ref s.heap.objs.size)) (PIE X pins σ tg R) E { s with heap:=s.heap.push { cls:=.type "range",data:=.fields #[.int lo t,.int hi u,.int 1 v] },toks:=tk }:=by
 refine wpAny_pyIter_range (IsRange.new ..) (small_one h1 h2 h3 h4) ?_;have I1:Inv X pins σ H { s with heap:=s.heap.push { cls:=.type "range",data:=.fields #[.int lo t,.int hi u,.int 1 v] },toks:=tk }:=I.kept λb o e=>Heap.get?_push_of_some _ e
 refine⟨(s.heap.push { cls:=.type "range",data:=.fields #[.int lo t,.int hi u,.int 1 v] }).objs.size,[(s.heap.push { cls:=.type "range",data:=.fields #[.int lo t,.int hi u,.int 1 v] }).objs.size],_,_,H,rfl,
  I1.kept (t':=tk) λb o e=>Heap.get?_push_of_some _ e,c2d _ lo (hi-lo).toNat,?_,λb hb=>?_,q⟩
 ·have e1:lo+((0:Nat):Int)*1=lo:=by simp
  have e2:(((hi-lo).toNat:Nat):Int)-((0:Nat):Int)=Builtin.Range.rangeSize lo hi 1:=by rw[rangeSize_one];split <;> lia
  show IsRangeIter _ _ (lo+((0:Nat):Int)*1) ((((hi-lo).toNat:Nat):Int)-((0:Nat):Int)) 1;rw[e1,e2];exact Heap.get?_push_size _ rfl
 ·have e:b=(s.heap.push { cls:=.type "range",data:=.fields #[.int lo t,.int hi u,.int 1 v] }).objs.size:=by simpa using hb
  subst e;exact I1.fpOk (Nat.le_refl _) (I1.hok.fresh (Nat.le_refl _))
def d2p(ta:TA):TI:=λσ H R=>ta σ H λvs H1=>∃j:Int,vs=[.int j]/\-(2 ^ 62)<=j/\j<2 ^ 62/\R (Itr 0 j.toNat) H1
def d2o(ta:TA):TI:=λσ H R=>ta σ H λvs H1=>∃i j:Int,vs=[.int i,.int j]/\(-(2 ^ 62)<=i/\i<2 ^ 62/\-(2 ^ 62)<=j/\j<2 ^ 62)/\R (Itr i (j-i).toNat) H1
theorem a1e{a:Expr}{ta:TA}{p pos:Pos}(hg:Gl X "range")(hm:X.mg "range" = none)(ha:PA X [a] ta)(hs:starEach [a] X.env=[(false,eval a X.env)]:=by rfl):PI X tg (.Call (.Name "range" p) [a] [] pos) (d2p ta):=by
 intro pins s σ H R I h;refine Call_ (b4a I hg hm boot_range (PyProof.Rows.callWith_type1 (thn (ha pos pins s σ H _ I h) λus s1 z0_=>?_) hs rfl));obtain⟨vs,H1,I1,r1,q1⟩:=z0_;obtain⟨j,e,q1,q2,q⟩:=q1;subst e;cases r1 with
 | cons r rr=>
  cases rr;obtain⟨t,rfl⟩:=r;exact call_range_1 (c0x I1 (by lia) (by lia) q1 q2 (by simpa using q))
theorem c3v{a b:Expr}{ta:TA}{p pos:Pos}(hg:Gl X "range")(hm:X.mg "range" = none)(ha:PA X [a,b] ta)(hs:starEach [a,b] X.env=[(false,eval a X.env),(false,eval b X.env)]:=by rfl)(hs2:starEach [b] X.env=[(false,eval b X.env)]:=by rfl):
  PI X tg (.Call (.Name "range" p) [a,b] [] pos) (d2o ta):=by
 intro pins s σ H R I h;refine Call_ (b4a I hg hm boot_range (PyProof.Rows.callWith_type1 (thn (ha pos pins s σ H _ I h) λus s1 ⟨vs,H1,I1,r1,q1⟩=>?_) (by rw[hs,hs2]) (by rw[hs2];rfl)))
 obtain⟨i,j,e,⟨q1,q2,q3,q4⟩,q⟩:=q1;subst e;cases r1 with
 | cons r rr=>
  cases rr with
  | cons r' rr=>
   cases rr;obtain⟨t,rfl⟩:=r;obtain⟨t',rfl⟩:=r';exact call_range_2 (c0x I1 q1 q2 q3 q4 q)
def d6c(wi:TI)(g:TG)(tb:TS):TS:=λD σ H=>wi σ H λJ H1=>∃W:Nat->Nat->St->Hp->Prop,(∃m,W 0 m σ H1)/\∀i m σ H,W i m σ H ->
 (J.stop i H/\D.nx σ H)\/(J.go i H/\∃N:St->Hp->Prop,(∀σ' H',N σ' H'->∃m',m'<m/\W (i+1) m' σ' H')/\∀x H',J.yld i H x H'->g x σ H' λσ2 H2=>tb { D with nx:=N,ct:=N,bk:=D.nx } σ2 H2)
def b7z(fp:List Addr)(h:Heap):List (Addr×Obj):=fp.filterMap λb=>(h.get? b).map λo=>(b,o)
theorem a3g{fp:List Addr}{h:Heap}{b:Addr}{o:Obj}(hb:b∈fp)(e:h.get? b=some o):(b,o)∈b7z fp h:=List.mem_filterMap.mpr ⟨b,hb,by rw[e];rfl⟩
theorem c4j{fp:List Addr}{h:Heap}{p:Addr×Obj}(hp:p∈b7z fp h):p.1∈fp/\h.get? p.1=some p.2:=by
 obtain⟨b,hb,e⟩:=List.mem_filterMap.mp hp;cases q:h.get? b with
 | none=>rw[q] at e;cases e
 | some o=>
  rw[q] at e;have e':(b,o)=p:=Option.some.inj e;subst e';exact⟨hb,q⟩
theorem Inv.pinned{pins:List (Addr×Obj)}{σ:St}{H:Hp}{s:Shared}{fp:List Addr}(I:Inv X pins σ H s)(hf:∀b∈fp,c2c X pins H b)(ho:∀b∈fp,∃o,s.heap.get? b=some o/\∀v,o.data≠.cell v):Inv X (pins++b7z fp s.heap) σ H s :=
 I.pins_of λp hp=>(List.mem_append.mp hp).elim (λz=>I.pin p (List.mem_append_right _ z)) λz=>by
  obtain⟨hb,e⟩:=c4j z;obtain⟨f0,f1,f2,_⟩:=hf p.1 hb;obtain⟨o,e',d⟩:=ho p.1 hb;rw[e] at e';cases e';exact⟨e,f0,f1,f2,d⟩
theorem Inv.unpinned{pins pl:List (Addr×Obj)}{σ:St}{H:Hp}{s:Shared}(I:Inv X (pins++pl) σ H s):Inv X pins σ H s:=I.pins_of λp hp=>I.pin p (List.mem_append_right _ (List.mem_append_left _ hp))
theorem b3h{iter:Expr}{body:List Stmt}{wi:TI}{g:TG}{tb:TS}{pos:Pos}(hp:PassesOwn (model X.prog X.w) X.A X.env X.xe)(hc:X.calm=true)(hi:PI X tg iter wi)(hg:PG X tg g)(hb:PSs X body tb)(hs:∀x,foldedSetIterable iter X.env x=pure x:=by intro _;rfl):PS X (.For tg iter body [] pos) (d6c wi g tb):=by
 intro pins s σ H D I h;refine wpAny_For (thn (hi pins s σ H _ I h) λv s1 h1=>thn h1 λitv s2 h2=>?_) hs;obtain⟨it,fp,tn,J,H2,e,I2,T,st2,f2,W,⟨m0,w0⟩,turn⟩:=h2;subst e;have stat:∀{H':Hp},(∀b∈fp,H' b=none)->∀b∈fp,c2c X pins H' b:=λhn b hb=>⟨hn b hb,(f2 b hb).2⟩;refine codeAny_forLoop_any (λn s'=>∃i σ' H',Inv X pins σ' H' s'/\tn i s'.heap/\(∀b∈fp,H' b=none)/\W i n σ' H') ?_ m0 ⟨0,σ,H2,I2,st2,λb hb=>(f2 b hb).1,w0⟩;rintro n s3 ⟨i,σ3,H3,I3,st3,fr3,w3⟩;rcases turn i n σ3 H3 w3 with ⟨stop,qn⟩|⟨go,N,hN,step⟩
 ·refine wpAny_passesOwn hp (thn (T.done X rfl rfl rfl hc i pins s3 σ3 H3 X.xe I3 (stat fr3) st3 stop) λr s4 z0_=>?_)
  obtain⟨hr,I4⟩:=z0_;subst hr;exact wpAny_execs_nil ⟨σ3,H3,I4,qn⟩
 ·refine wpAny_passesOwn hp (thn (T.item X rfl rfl rfl hc i pins s3 σ3 H3 X.xe I3 (stat fr3) st3 go) λr s4 z0_=>?_)
  obtain⟨u,hr,h4⟩:=z0_;subst hr;refine wpAny_passesOwn hp (thn h4 λ_ s5 z0_=>?_);obtain⟨x,H5,I5,r5,y5,st5,fr5⟩:=z0_;have I5':=I5.pinned (stat fr5) (T.obj _ _ st5);refine wpAny_passesOwn hp (thn (hg _ s5 σ3 H5 x u _ I5' r5 (step x H5 y5)) λ_ s6 z0_=>?_);obtain⟨σ6,H6,I6,q6⟩:=z0_;refine wpAny_passesOwn hp (thn (hb _ s6 σ6 H6 _ I6 q6) λf s7 q7=>?_);have again:∀{σ7:St}{H7:Hp},Inv X (pins++b7z fp s5.heap) σ7 H7 s7->N σ7 H7->∃m,m<n/\∃i σ' H',Inv X pins σ' H' s7/\tn i s7.heap/\(∀b∈fp,H' b=none)/\W i m σ' H':=λ{σ7 H7} I7 n7=>by
   obtain⟨m',hm,w7⟩:=hN σ7 H7 n7;refine⟨m',hm,i+1,σ7,H7,I7.unpinned,T.keep _ _ _ st5 λb hb o e=>(I7.pin (b,o) (List.mem_append_right _ (List.mem_append_right _ (a3g hb e)))).1,λb hb=>?_,w7⟩;obtain⟨o,e,d⟩:=T.obj _ _ st5 b hb;exact(I7.pin (b,o) (List.mem_append_right _ (List.mem_append_right _ (a3g hb e)))).2.1
  cases f with
  | next=>obtain⟨σ7,H7,I7,n7⟩:=q7;exact again I7 n7
  | cont=>obtain⟨σ7,H7,I7,n7⟩:=q7;exact again I7 n7
  | brk=>obtain⟨σ7,H7,I7,q7⟩:=q7;exact⟨σ7,H7,I7.unpinned,q7⟩
  | ret v=>obtain⟨x7,σ7,H7,I7,r7,q7⟩:=q7;exact⟨x7,σ7,H7,I7.unpinned,r7,q7⟩
end
theorem c7l{K:Frag}{a:Addr}{xs:List V}{g:TG}{tb:TS}{D:Ends}{σ:St}{H:Hp}(Pv:Nat->St->Hp->Prop)(h0:Pv 0 σ H)(hl:∀i σ H,i<=xs.length->Pv i σ H->SqL K H a xs)(hs:∀i x σ H,xs[i]?=some x->Pv i σ H->g x σ H λσ2 H2=>tb { D with nx:=Pv (i+1),ct:=Pv (i+1),bk:=D.nx } σ2 H2)(hd:∀σ H,Pv xs.length σ H->D.nx σ H):
  ∃W:Nat->Nat->St->Hp->Prop,(∃m,W 0 m σ H)/\∀i m σ H,W i m σ H ->
   ((Itl K a).stop i H/\D.nx σ H)\/((Itl K a).go i H/\∃N:St->Hp->Prop,(∀σ' H',N σ' H'->∃m',m'<m/\W (i+1) m' σ' H')/\∀x H',(Itl K a).yld i H x H'->g x σ H' λσ2 H2=>tb { D with nx:=N,ct:=N,bk:=D.nx } σ2 H2):=by
 refine⟨λi m σ H=>m=xs.length-i/\i<=xs.length/\Pv i σ H,⟨xs.length,by simp,Nat.zero_le _,h0⟩,?_⟩
 rintro i m σ H ⟨rfl,hi,p⟩;have q:=hl i σ H hi p;by_cases hlt:i<xs.length
 ·refine .inr ⟨⟨xs,xs[i],q,by simp[hlt]⟩,Pv (i+1),λσ' H' p'=>⟨xs.length-(i+1),by lia,rfl,hlt,p'⟩,λx H' y=>?_⟩
  obtain⟨e,y⟩:=y;subst e;exact hs i x σ _ (y xs q) p
 ·have e:i=xs.length:=by lia
  subst e;exact .inl ⟨⟨xs,q,Nat.le_refl _⟩,hd σ H p⟩
theorem d0j{K:Frag}{a:Addr}{xs:List V}{g:TG}{tb:TS}{D:Ends}{σ:St}{H:Hp}(Pv:Nat->St->Hp->Prop)(h0:Pv 0 σ H)(hl:∀i σ H,i<=xs.length->Pv i σ H->SqT K H a xs)(hs:∀i x σ H,xs[i]?=some x->Pv i σ H->g x σ H λσ2 H2=>tb { D with nx:=Pv (i+1),ct:=Pv (i+1),bk:=D.nx } σ2 H2)(hd:∀σ H,Pv xs.length σ H->D.nx σ H):
  ∃W:Nat->Nat->St->Hp->Prop,(∃m,W 0 m σ H)/\∀i m σ H,W i m σ H ->
   ((Itt K a).stop i H/\D.nx σ H)\/((Itt K a).go i H/\∃N:St->Hp->Prop,(∀σ' H',N σ' H'->∃m',m'<m/\W (i+1) m' σ' H')/\∀x H',(Itt K a).yld i H x H'->g x σ H' λσ2 H2=>tb { D with nx:=N,ct:=N,bk:=D.nx } σ2 H2):=by
 refine⟨λi m σ H=>m=xs.length-i/\i<=xs.length/\Pv i σ H,⟨xs.length,by simp,Nat.zero_le _,h0⟩,?_⟩
 rintro i m σ H ⟨rfl,hi,p⟩;have q:=hl i σ H hi p;by_cases hlt:i<xs.length
 ·refine .inr ⟨⟨xs,xs[i],q,by simp[hlt]⟩,Pv (i+1),λσ' H' p'=>⟨xs.length-(i+1),by lia,rfl,hlt,p'⟩,λx H' y=>?_⟩
  obtain⟨e,y⟩:=y;subst e;exact hs i x σ _ (y xs q) p
 ·have e:i=xs.length:=by lia
  subst e;exact .inl ⟨⟨xs,q,Nat.le_refl _⟩,hd σ H p⟩
theorem a7z{lo:Int}{n:Nat}{g:TG}{tb:TS}{D:Ends}{σ:St}{H:Hp}(Pv:Nat->St->Hp->Prop)(h0:Pv 0 σ H)(hs:∀i σ H,i<n->Pv i σ H->g (.int (lo+i)) σ H λσ2 H2=>tb { D with nx:=Pv (i+1),ct:=Pv (i+1),bk:=D.nx } σ2 H2)(hd:∀σ H,Pv n σ H->D.nx σ H):
  ∃W:Nat->Nat->St->Hp->Prop,(∃m,W 0 m σ H)/\∀i m σ H,W i m σ H ->
   ((Itr lo n).stop i H/\D.nx σ H)\/((Itr lo n).go i H/\∃N:St->Hp->Prop,(∀σ' H',N σ' H'->∃m',m'<m/\W (i+1) m' σ' H')/\∀x H',(Itr lo n).yld i H x H'->g x σ H' λσ2 H2=>tb { D with nx:=N,ct:=N,bk:=D.nx } σ2 H2):=by
 refine⟨λi m σ H=>m=n-i/\i<=n/\Pv i σ H,⟨n,by simp,Nat.zero_le _,h0⟩,?_⟩
 rintro i m σ H ⟨rfl,hi,p⟩;by_cases hlt:i<n
 ·refine .inr ⟨hlt,Pv (i+1),λσ' H' p'=>⟨n-(i+1),by lia,rfl,hlt,p'⟩,λx H' y=>?_⟩
  obtain⟨e,y⟩:=y;subst e y;exact hs i σ _ hlt p
 ·have e:i=n:=by lia
  subst e;exact .inl ⟨Nat.le_refl _,hd σ H p⟩
end L2
namespace L2
open PySem PySem.Spec PyProof.Rows
abbrev R2:=V->V->Hp->VK->Prop
def OpR(X:Cx)(f:Value->Value->Sem Value)(r:R2):Prop :=
 ∀(pins:List (Addr×Obj))(s:Shared)(σ:St)(H:Hp)(x y:V)(v u:Value)(Q:VK),Inv X pins σ H s->RelV x v->RelV y u->r x y H Q ->
  wpAny (model X.prog X.w) X.A (f v u) (EP X pins σ Q) X.xe s
def UnR(X:Cx)(f:Value->Sem Value)(r:V->Hp->VK->Prop):Prop :=
 ∀(pins:List (Addr×Obj))(s:Shared)(σ:St)(H:Hp)(x:V)(v:Value)(Q:VK),Inv X pins σ H s->RelV x v->r x H Q ->
  wpAny (model X.prog X.w) X.A (f v) (EP X pins σ Q) X.xe s
def a5z(X:Cx)(f:Value)(r:List V->Hp->VK->Prop):Prop :=
 ∀(pins:List (Addr×Obj))(s:Shared)(σ:St)(H:Hp)(xs:List V)(us:List Value)(Q:VK),Inv X pins σ H s->Vals xs us->r xs H Q ->
  wpAny (model X.prog X.w) X.A (call f us) (EP X pins σ Q) X.xe s
def tOp(r:R2)(ta tb:TE):TE:=λσ H Q=>ta σ H λx H1=>tb σ H1 λy H2=>r x y H2 Q
def tUn(r:V->Hp->VK->Prop)(ta:TE):TE:=λσ H Q=>ta σ H λx H1=>r x H1 Q
def rI(C:Int->Int->Prop)(g:Int->Int->V):R2:=λx y H Q=>∃i j,x=.int i/\y=.int j/\C i j/\Q (g i j) H
def rI0(g:Int->Int->V):R2:=λx y H Q=>∃i j,x=.int i/\y=.int j/\Q (g i j) H
def rU(g:Int->V):V->Hp->VK->Prop:=λx H Q=>∃i,x=.int i/\Q (g i) H
section
variable{X:Cx}{a b c:Expr}{ta tb tc:TE}{pos:Pos}
theorem d5s(ha:PE X a ta)(hb:PE X b tb){pins:List (Addr×Obj)}{s:Shared}{σ:St}{H:Hp}{R:V->V->Hp->Prop}(I:Inv X pins σ H s)(h:ta σ H λx H1=>tb σ H1 λy H2=>R x y H2){Q:Value->Shared->Prop}{f:Value->Value->Sem Value}(hf:∀v u s2 x y H2,Inv X pins σ H2 s2->RelV x v->RelV y u->R x y H2->wpAny (model X.prog X.w) X.A (f v u) Q X.xe s2):
  wpAny (model X.prog X.w) X.A (eval a X.env) (λv s₁=>wpAny (model X.prog X.w) X.A (eval b X.env) (λu s₂=>wpAny (model X.prog X.w) X.A (f v u) Q X.xe s₂) X.xe s₁) X.xe s:=by
 refine thn (ha pins s σ H _ I h) λv s1 z0_=>?_;obtain⟨x,H1,I1,r1,q1⟩:=z0_;refine thn (hb pins s1 σ H1 _ I1 q1) λu s2 z0_=>?_;obtain⟨y,H2,I2,r2,q2⟩:=z0_;exact hf v u s2 x y H2 I2 r1 r2 q2
theorem j3{op:Operator}{r:R2}(ho:OpR X (binaryOp op) r)(ha:PE X a ta)(hb:PE X b tb):PE X (.BinOp a op b pos) (tOp r ta tb):=by
 intro pins s σ H Q I h;exact wpAny_BinOp (d5s ha hb I h λv u s2 x y H2 I2 rx ry q=>ho pins s2 σ H2 x y v u Q I2 rx ry q)
theorem b9v{op:UnaryOp}{r:V->Hp->VK->Prop}(ho:UnR X (unaryOp op) r)(ha:PE X a ta):PE X (.UnaryOp op a pos) (tUn r ta):=by
 intro pins s σ H Q I h;exact UnaryOp_ (thn (ha pins s σ H _ I h) λv s1 z0_=>by obtain⟨x,H1,I1,r1,q1⟩:=z0_;exact ho pins s1 σ H1 x v Q I1 r1 q1)
theorem opI{f:Value->Value->Sem Value}{C:Int->Int->Prop}{g:Int->Int->Int}(rule:∀(i j:Int) (t u:Tok) (s:Shared) (Q:Value->Shared->Prop) (E:Value->Shared->Prop),C i j->Q (.int (g i j) s.toks) { s with toks:=s.toks+1 }->wpAny (model X.prog X.w) X.A (f (.int i t) (.int j u)) Q E s):
  OpR X f (rI C λi j=>.int (g i j)):=by
 intro pins s σ H x y v u Q I rx ry h;obtain⟨i,j,rfl,rfl,hc,q⟩:=h;obtain⟨t,rfl⟩:=rx;obtain⟨t',rfl⟩:=ry;exact rule i j t t' s _ _ hc ⟨.int (g i j),H,I.tok _,⟨_,rfl⟩,q⟩
theorem d6i{f:Value->Value->Sem Value}{g:Int->Int->Int}(rule:∀(i j:Int) (t u:Tok) (s:Shared) (Q:Value->Shared->Prop) (E:Value->Shared->Prop),Q (.int (g i j) s.toks) { s with toks:=s.toks+1 }->wpAny (model X.prog X.w) X.A (f (.int i t) (.int j u)) Q E s):
  OpR X f (rI0 λi j=>.int (g i j)):=by
 intro pins s σ H x y v u Q I rx ry h;obtain⟨i,j,rfl,rfl,q⟩:=h;obtain⟨t,rfl⟩:=rx;obtain⟨t',rfl⟩:=ry;exact rule i j t t' s _ _ ⟨.int (g i j),H,I.tok _,⟨_,rfl⟩,q⟩
theorem d3q{f:Value->Value->Sem Value}{g:Int->Int->Bool}(rule:∀(i j:Int) (t u:Tok) (s:Shared) (Q:Value->Shared->Prop) (E:Value->Shared->Prop),Q (.bool (g i j)) s->wpAny (model X.prog X.w) X.A (f (.int i t) (.int j u)) Q E s):
  OpR X f (rI0 λi j=>.bl (g i j)):=by
 intro pins s σ H x y v u Q I rx ry h;obtain⟨i,j,rfl,rfl,q⟩:=h;obtain⟨t,rfl⟩:=rx;obtain⟨t',rfl⟩:=ry;exact rule i j t t' s _ _ ⟨.bl (g i j),H,I,rfl,q⟩
def d7u(i j:Int):Prop:=0<=j/\j<=1000000/\i.natAbs<2 ^ 64
def CMul(i j:Int):Prop:=(-(2 ^ 64)<i/\i<2 ^ 64)\/(-(2 ^ 64)<j/\j<2 ^ 64)
theorem CMul.ok{i j:Int}(h:CMul i j):IntMulOk i j:=by
 rcases h with ⟨h1,h2⟩|⟨h1,h2⟩
 ·exact .of_left (intBits_le_64 h1 h2)
 ·exact .of_right (intBits_le_64 h1 h2)
theorem a0k:OpR X (binaryOp .Add) (rI0 λi j=>.int (i+j)):=d6i λ_ _ _ _ _ _ _ q=>add_int q
theorem a0y:OpR X (binaryOp .Sub) (rI0 λi j=>.int (i-j)):=d6i λ_ _ _ _ _ _ _ q=>sub_int q
theorem y0:OpR X (binaryOp .Mult) (rI CMul λi j=>.int (i*j)):=opI λ_ _ _ _ _ _ _ hc q=>mul_int q hc.ok
theorem a5c:OpR X (binaryOp .Mod) (rI (λ_ j=>0<j) λi j=>.int (i % j)):=opI λi j _ _ _ _ _ hc q=>by
 have h1:(0:Int)<j:=hc;exact mod_int' (by lia) (by rw[Int.fmod_eq_emod_of_nonneg i (by lia)];exact q)
theorem b8b:OpR X (binaryOp .Pow) (rI d7u λi j=>.int (i ^ j.toNat)):=opI λ_ _ _ _ _ _ _ hc q=>pow_int_small hc.1 hc.2.1 hc.2.2 q
theorem unI{f:Value->Sem Value}{g:Int->Int}(rule:∀(i:Int) (t:Tok) (s:Shared) (Q:Value->Shared->Prop) (E:Value->Shared->Prop),Q (.int (g i) s.toks) { s with toks:=s.toks+1 }->wpAny (model X.prog X.w) X.A (f (.int i t)) Q E s):
  UnR X f (rU λi=>.int (g i)):=by
 intro pins s σ H x v Q I rx h;obtain⟨i,rfl,q⟩:=h;obtain⟨t,rfl⟩:=rx;exact rule i t s _ _ ⟨.int (g i),H,I.tok _,⟨_,rfl⟩,q⟩
theorem b2n:UnR X (unaryOp .USub) (rU λi=>.int (-i)):=unI λ_ _ _ _ _ q=>neg_int q
end
def d3p:V->V->Bool
 | .non,.non=>true|.non,.int _=>true|.int _,.non=>true|.non,.bl _=>true|.bl _,.non=>true|.non,.str _=>true|.str _,.non=>true
 | .int _,.int _=>true|.bl _,.bl _=>true|.str _,.str _=>true|.byt _,.byt _=>true
 | .int _,.str _=>true|.str _,.int _=>true|.bl _,.str _=>true|.str _,.bl _=>true
 | _,_=>false
def rEq:R2:=λx y H Q=>d3p x y=true/\Q (.bl (decide (x=y))) H
def rNe:R2:=λx y H Q=>d3p x y=true/\Q (.bl (!decide (x=y))) H
theorem t5{i j:Int}:decide (V.int i=V.int j)=(i == j):=by
 rw[Bool.eq_iff_iff];simp
theorem c8p{i j:Bool}:decide (V.bl i=V.bl j)=(i == j):=by
 rw[Bool.eq_iff_iff];simp
theorem a2c{i j:Str}:decide (V.str i=V.str j)=(i == j):=by
 rw[Bool.eq_iff_iff];simp
theorem c5m{i j:Array UInt8}:decide (V.byt i=V.byt j)=(i.toList == j.toList):=by
 rw[Bool.eq_iff_iff];cases i;cases j;simp
section
variable{X:Cx}{a b c:Expr}{ta tb tc:TE}{pos:Pos}
theorem a0c{pins:List (Addr×Obj)}{σ:St}{H:Hp}{s:Shared}{Q:VK}{k k':Bool}(I:Inv X pins σ H s)(q:Q (.bl k) H)(e:k=k'):EP X pins σ Q (.bool k') s:=by
 subst e;exact⟨.bl k,H,I,rfl,q⟩
theorem a0q:OpR X (compareOp .Eq) rEq:=by
 intro pins s σ H x y v u Q I rx ry h;obtain⟨hs,q⟩:=h;cases x with
 | non=>
  cases rx;cases y with
  | non=>cases ry;exact PySem.EqNone.eq_none_none (a0c I q (by simp))
  | bl j=>cases ry;exact PySem.EqNone.eq_none_bool (a0c I q (by simp))
  | int j=>obtain⟨t',rfl⟩:=ry;exact PySem.EqNone.eq_none_int (a0c I q (by simp))
  | str j=>obtain⟨t',rfl⟩:=ry;exact PySem.EqNone.eq_none_str (a0c I q (by simp))
  | _=>exact absurd (show false=true from hs) Bool.false_ne_true
 | bl i=>
  cases rx;cases y with
  | non=>cases ry;exact PySem.EqNone.eq_bool_none (a0c I q (by simp))
  | bl j=>cases ry;exact eq_bool (a0c I q c8p)
  | str j=>obtain⟨t',rfl⟩:=ry;exact PySem.EqMixed.eq_bool_str (a0c I q (by simp))
  | _=>exact absurd (show false=true from hs) Bool.false_ne_true
 | int i=>
  obtain⟨t,rfl⟩:=rx;cases y with
  | non=>cases ry;exact PySem.EqNone.eq_int_none (a0c I q (by simp))
  | int j=>obtain⟨t',rfl⟩:=ry;exact eq_int (a0c I q t5)
  | str j=>obtain⟨t',rfl⟩:=ry;exact PySem.EqMixed.eq_int_str (a0c I q (by simp))
  | _=>exact absurd (show false=true from hs) Bool.false_ne_true
 | str i=>
  obtain⟨t,rfl⟩:=rx;cases y with
  | non=>cases ry;exact PySem.EqNone.eq_str_none (a0c I q (by simp))
  | bl j=>cases ry;exact PySem.EqMixed.eq_str_bool (a0c I q (by simp))
  | int j=>obtain⟨t',rfl⟩:=ry;exact PySem.EqMixed.eq_str_int (a0c I q (by simp))
  | str j=>obtain⟨t',rfl⟩:=ry;exact eq_str (a0c I q a2c)
  | _=>exact absurd (show false=true from hs) Bool.false_ne_true
 | byt i=>
  obtain⟨t,rfl⟩:=rx;cases y with
  | byt j=>obtain⟨t',rfl⟩:=ry;exact PySem.W.eq_bytes (a0c I q c5m)
  | _=>exact absurd (show false=true from hs) Bool.false_ne_true
 | _=>cases y <;> exact absurd (show false=true from hs) Bool.false_ne_true
theorem b2a:OpR X (compareOp .NotEq) rNe:=by
 intro pins s σ H x y v u Q I rx ry h;obtain⟨hs,q⟩:=h;cases x with
 | non=>
  cases rx;cases y with
  | non=>cases ry;exact PySem.EqNone.ne_none_none (a0c I q (by simp))
  | bl j=>cases ry;exact PySem.EqNone.ne_none_bool (a0c I q (by simp))
  | int j=>obtain⟨t',rfl⟩:=ry;exact PySem.EqNone.ne_none_int (a0c I q (by simp))
  | str j=>obtain⟨t',rfl⟩:=ry;exact PySem.EqNone.ne_none_str (a0c I q (by simp))
  | _=>exact absurd (show false=true from hs) Bool.false_ne_true
 | bl i=>
  cases rx;cases y with
  | non=>cases ry;exact PySem.EqNone.ne_bool_none (a0c I q (by simp))
  | bl j=>cases ry;exact ne_bool (a0c I q (congrArg not c8p))
  | str j=>obtain⟨t',rfl⟩:=ry;exact PySem.EqMixed.ne_bool_str (a0c I q (by simp))
  | _=>exact absurd (show false=true from hs) Bool.false_ne_true
 | int i=>
  obtain⟨t,rfl⟩:=rx;cases y with
  | non=>cases ry;exact PySem.EqNone.ne_int_none (a0c I q (by simp))
  | int j=>obtain⟨t',rfl⟩:=ry;exact ne_int (a0c I q (congrArg not t5))
  | str j=>obtain⟨t',rfl⟩:=ry;exact PySem.EqMixed.ne_int_str (a0c I q (by simp))
  | _=>exact absurd (show false=true from hs) Bool.false_ne_true
 | str i=>
  obtain⟨t,rfl⟩:=rx;cases y with
  | non=>cases ry;exact PySem.EqNone.ne_str_none (a0c I q (by simp))
  | bl j=>cases ry;exact PySem.EqMixed.ne_str_bool (a0c I q (by simp))
  | int j=>obtain⟨t',rfl⟩:=ry;exact PySem.EqMixed.ne_str_int (a0c I q (by simp))
  | str j=>obtain⟨t',rfl⟩:=ry;exact ne_str (a0c I q (congrArg not a2c))
  | _=>exact absurd (show false=true from hs) Bool.false_ne_true
 | byt i=>
  obtain⟨t,rfl⟩:=rx;cases y with
  | byt j=>obtain⟨t',rfl⟩:=ry;exact PySem.W.ne_bytes (a0c I q (congrArg not c5m))
  | _=>exact absurd (show false=true from hs) Bool.false_ne_true
 | _=>cases y <;> exact absurd (show false=true from hs) Bool.false_ne_true
theorem a1w:OpR X (compareOp .Lt) (rI0 λi j=>.bl (decide (i<j))):=d3q λ_ _ _ _ _ _ _ q=>lt_int q
theorem c4e:OpR X (compareOp .LtE) (rI0 λi j=>.bl (decide (i<=j))):=d3q λ_ _ _ _ _ _ _ q=>le_int q
theorem b3j:OpR X (compareOp .Gt) (rI0 λi j=>.bl (decide (j<i))):=d3q λ_ _ _ _ _ _ _ q=>gt_int q
theorem c6u:OpR X (compareOp .GtE) (rI0 λi j=>.bl (decide (j<=i))):=d3q λ_ _ _ _ _ _ _ q=>ge_int q
theorem c1e:OpR X (compareOp .Is) (λx y H Q=>y=.non/\Q (.bl (decide (x=.non))) H):=by
 intro pins s σ H x y v u Q I rx ry h;obtain⟨rfl,q⟩:=h;cases ry;refine is_none_gen (a0c I q ?_);cases x <;> first
  | (cases rx;rfl)
  | (obtain⟨t,rfl⟩:=rx;rfl)
theorem b9w:OpR X (compareOp .IsNot) (λx y H Q=>y=.non/\Q (.bl (!decide (x=.non))) H):=by
 intro pins s σ H x y v u Q I rx ry h;obtain⟨rfl,q⟩:=h;cases ry;refine isnot_none_gen (a0c I q ?_);cases x <;> first
  | (cases rx;rfl)
  | (obtain⟨t,rfl⟩:=rx;rfl)
theorem i7(b:Expr){op:CmpOp}(h:op≠.In:=by decide)(h2:op≠.NotIn:=by decide):behindInMarks op b=false:=by
 have e1:(op == CmpOp.In)=false:=by cases op <;> first|rfl|exact absurd rfl h
 have e2:(op == CmpOp.NotIn)=false:=by cases op <;> first|rfl|exact absurd rfl h2
 cases b <;> simp[behindInMarks,e1,e2]
theorem m5{op:CmpOp}{r:R2}(ho:OpR X (compareOp op) r)(ha:PE X a ta)(hb:PE X b tb)(hm:behindInMarks op b=false):PE X (.Compare a [op] [b] pos) (tOp r ta tb):=by
 intro pins s σ H Q I h;exact wpAny_Compare1 (d5s ha hb I h λv u s2 x y H2 I2 rx ry q=>ho pins s2 σ H2 x y v u Q I2 rx ry q) hm
def c8z(t:TE):TT:=λσ H Q=>t σ H λx H'=>∃k,x=.bl k/\Q k H'
theorem i6{op:CmpOp}{r:R2}(ho:OpR X (compareOp op) r)(ha:PE X a ta)(hb:PE X b tb)(hm:behindInMarks op b=false):PT X (.Compare a [op] [b] pos) (c8z (tOp r ta tb)):=by
 intro pins s σ H Q I h;refine wpAny_isTrue_Compare1 (thn (ha pins s σ H _ I h) λv s1 ⟨x,H1,I1,r1,q1⟩=>thn (hb pins s1 σ H1 _ I1 q1) λu s2 ⟨y,H2,I2,r2,q2⟩=>
  thn (ho pins s2 σ H2 x y v u _ I2 r1 r2 q2) λc s3 ⟨z,H3,I3,r3,k,e,q3⟩=>?_) hm
 subst e;cases r3;exact wpAny_truthy_bool ⟨H3,I3,q3⟩
theorem c1h:(sizeLine:Nat)<2 ^ 63:=by rw[sizeLine_eq];decide
theorem c2k:OpR X (binaryOp .Add) (λx y H Q=>∃i j,x=.str i/\y=.str j/\i.length+j.length<=sizeLine/\Q (.str (i++j)) H):=by
 intro pins s σ H x y v u Q I rx ry h;obtain⟨i,j,rfl,rfl,hz,q⟩:=h;obtain⟨t,rfl⟩:=rx;obtain⟨t',rfl⟩:=ry;exact add_str (λt' tk=>⟨.str (i++j),H,I.tok _,⟨_,rfl⟩,q⟩) hz
theorem b7f{x:V}{us:List Value}(r:Vals [x] us):∃u,us=[u]/\RelV x u:=by
 cases r with
 | cons r1 r2=>cases r2;exact⟨_,rfl,r1⟩
theorem d1g{x y:V}{us:List Value}(r:Vals [x,y] us):∃u w',us=[u,w']/\RelV x u/\RelV y w':=by
 cases r with
 | cons r1 r2=>
  cases r2 with
  | cons r3 r4=>cases r4;exact⟨_,_,rfl,r1,r3⟩
theorem b9i(hc:X.calm=true):a5z X (.builtin "max") (λxs H Q=>∃i j,xs=[.int i,.int j]/\Q (.int (if j > i then j else i)) H):=by
 intro pins s σ H xs us Q I r h;obtain⟨i,j,rfl,q⟩:=h;obtain⟨u,w',rfl,⟨t,rfl⟩,⟨t',rfl⟩⟩:=d1g r;refine max_two_ints (I.ok.hd hc) λh' tk k=>⟨_,H,I.kept k,?_,q⟩;by_cases hj:j > i
 ·rw[if_pos hj,if_pos hj];exact⟨_,rfl⟩
 ·rw[if_neg hj,if_neg hj];exact⟨_,rfl⟩
theorem c5p(hc:X.calm=true):a5z X (.builtin "min") (λxs H Q=>∃i j,xs=[.int i,.int j]/\Q (.int (if j<i then j else i)) H):=by
 intro pins s σ H xs us Q I r h;obtain⟨i,j,rfl,q⟩:=h;obtain⟨u,w',rfl,⟨t,rfl⟩,⟨t',rfl⟩⟩:=d1g r;refine min_two_ints (I.ok.hd hc) λh' tk k=>⟨_,H,I.kept k,?_,q⟩;by_cases hj:j<i
 ·rw[if_pos hj,if_pos hj];exact⟨_,rfl⟩
 ·rw[if_neg hj,if_neg hj];exact⟨_,rfl⟩
theorem a3x:a5z X (.type "int") (λxs H Q=>(∃i,xs=[.int i]/\Q (.int i) H) \/ ∃k,xs=[.bl k]/\Q (.int (if k then 1 else 0)) H):=by
 intro pins s σ H xs us Q I r h;rcases h with ⟨i,rfl,q⟩|⟨k,rfl,q⟩
 ·obtain⟨u,rfl,t,rfl⟩:=b7f r
  exact call_int_int ⟨.int i,H,I,⟨_,rfl⟩,q⟩
 ·obtain⟨u,rfl,r1⟩:=b7f r
  cases r1;exact call_int_bool ⟨.int (if k then 1 else 0),H,I.tok _,⟨_,rfl⟩,q⟩
theorem a4g:a5z X (.type "str") (λxs H Q=>∃i,xs=[.int i]/\i.natAbs.log2<1920/\Q (.str (toString i)) H):=by
 intro pins s σ H xs us Q I r h;obtain⟨i,rfl,hz,q⟩:=h;obtain⟨u,rfl,t,rfl⟩:=b7f r;exact PySem.P.str_of_int hz ⟨.str _,H,I.tok _,⟨_,rfl⟩,q⟩
end
end L2
namespace L2
open PySem PySem.Spec PyProof.Rows
structure ObjM(h:Heap)(x dx C:Addr)(mA:Str->Option Value):Prop where
 obj:h.get? x=some (PySem.W.instObj C dx)
 ns:h.Ns1 dx mA
 ne:dx≠x
theorem c4m{h:Heap}{dx:Addr}{mA:Str->Option Value}(n:h.Ns1 dx mA):∃od,h.get? dx=some od/\∀name,PySem.W.lookIn name od=some (mA name):=by
 obtain⟨o,es,ep,ho,hd,hk,_,hm⟩:=n;refine⟨o,ho,λname=>?_⟩;have e:=hm name;unfold nsFind findBy at e;rw[<- Array.find?_toList] at e;unfold PySem.W.lookIn;rw[hd];dsimp only;split
 ·rename_i y q
  rw[q] at e;exact congrArg some e
 ·rename_i q
  rw[q] at e;have a:es.toList.any (·.refKey)=false:=by
   rw[List.any_eq_false];intro y hy;obtain⟨z,t,hkey⟩:=hk y (Array.mem_toList_iff.mp hy);simp[DictEntry.refKey,hkey]
  have a':¬ es.toList.any (·.refKey)=true:=by rw[a];exact Bool.false_ne_true
  rw[if_neg a'];exact congrArg some e
theorem ObjM.look{h:Heap}{x dx C:Addr}{mA:Str->Option Value}(I:ObjM h x dx C mA):∃od,PySem.W.InstAt h x (PySem.W.instObj C dx) C (some od)/\∀name,PySem.W.lookIn name od=some (mA name) :=
 let ⟨od,ho,hl⟩:=c4m I.ns
 ⟨od,⟨I.obj,rfl,rfl,ho⟩,hl⟩
section
variable{prog:Program}{w:World}{A:Around}{E:Value->Shared->Prop}{s:Shared}{K:Frag}{x dx C f:Addr}{mA:Str->Option Value}{name:Str}{v:Value}
theorem d0c{expr:Bool}{Q:Value->Shared->Prop}(X:K.In s.heap)(I:ObjM s.heap x dx C mA)(hg:plainGet K C name=true)(hh:hasDictIn K C=true)(ha:findIn K (.ref C) name=some none)(hv:mA name=some v)(hv':PySem.W.handedIn v=true)(h:Q v { s with toks:=s.toks+1 }):
  wpAny (model prog w) A (getAttr (.ref x) name expr) Q E s:=by
 obtain⟨od,J,hl⟩:=I.look;exact PySem.W.get_value X J (PySem.W.plainGet_of hg).1 (PySem.W.findObj_own hh ha rfl (by rw[hl,hv])) hv' h
theorem c7e{pl:Sem Bool}{Q:Value×List Value->Shared->Prop}(X:K.In s.heap)(I:ObjM s.heap x dx C mA)(hg:plainGet K C name=true)(hf:findIn K (.ref C) name=some (some (.ref f)))(ht:isFn K (.ref f)=true)(hv:mA name=none)(h:Q (.ref f,[.ref x]) s):
  wpAny (model prog w) A (getMethod (.ref x) name pl) Q E s:=by
 obtain⟨od,J,hl⟩:=I.look;exact PySem.W.method_fn X J (PySem.W.plainGet_of hg).1 (PySem.W.plainGet_of hg).2 hf (beq_iff_eq.mp ht) (by show(PySem.W.lookIn name od).map (·.isSome)=some false;rw[hl,hv];rfl) h
theorem c9d{ns:List Str}{Q:Unit->Shared->Prop}(X:K.In s.heap)(I:ObjM s.heap x dx C mA)(hs:findIn K (.ref C) "__setattr__" = some (some (.builtin "object.__setattr__")))(hp:plainOver K C=true)(ht:PySem.W.takerIn K C name=some none)(hh:hasDictIn K C=true)(hw:PySem.Within mA ns)(hsz:ns.length<=sizeLine)(h:∀h',ObjM h' x dx C (λy=>if y=name then some v else mA y)->Heap.SameBut dx s.heap h'->Q () { s with heap:=h',toks:=s.toks+2 }):
  wpAny (model prog w) A (setAttr (.ref x) name v) Q E s:=by
 obtain⟨od,J,hl⟩:=I.look;refine PySem.W.set_plain X J hs (PySem.W.osa_open (s:={ s with toks:=s.toks+1 }) (r:=none) X J hp ht λb=>?_)
 obtain⟨cd,hc,hd'⟩:=PySem.W.any_some hh;have hx:s.heap.get? x=some ⟨.ref C,some dx,.plain,#[]⟩:=I.obj;refine wpAny_bind (wpAny_pure (wpAny_bind (wpAny_bind (wpAny_loadPart hx (wpAny_bind (PySem.W.Looks.here (s:={ s with toks:=s.toks+1 }) (PySem.W.looks_clsIn X hc) ?_))))))
 rw[hd'];refine wpAny_pure (a:=some dx) (wpAny_bind (wpAny_pure (wpAny_bind ?_)));refine wpAny_nsSet1 (s:={ s with toks:=s.toks+1 }) I.ns λh' hn2 hs2=>?_
 obtain⟨oD,esD,epD,hoD,hdD,hcD⟩:=hn2.count (PySem.Within.cons name v hw);refine wpAny_bind (wpAny_lookBehind hoD (by rw[hdD];exact pastItsLine_dict (Nat.le_trans hcD (by rw[List.length_cons];lia))) ?_)
 exact wpAny_pure (h _ ⟨(hs2.2 _ (Ne.symm I.ne)).trans I.obj,hn2,I.ne⟩ hs2)
theorem c6v{R:Result->Shared->Prop}{vs:List Value}{kw:List (Str×Value)}(X:K.In s.heap)(hm:makesIn K C=true)(hi:findIn K (.ref C) "__init__" = some (some (.ref f)))(hf:PySem.W.typeIn K (.ref f)=some (.type "function"))(h:codeAny (model prog w) (A.under (.builtin "type.__call__" ⟨.ref C::vs,kw⟩)) (.call (.ref f) ⟨.ref (s.heap.objs.size+1)::vs,kw⟩) (PySem.W.InitBack (s.heap.objs.size+1) R)
   { s with heap:=(s.heap.push PySem.W.emptyDict).push (PySem.W.instObj C s.heap.objs.size) }):
  codeAny (model prog w) A (.call (.ref C) ⟨vs,kw⟩) R s:=by
 obtain⟨hh,g,d,t,os⟩:=s;exact PySem.W.make_core (PySem.W.makes_of X hm) (PySem.W.looks_findIn X hi) (λself=>PySem.W.bind_fn X self hf) (.inl rfl) h
end
def b6d(f:Str)(v:V):List (Str×V)->List (Str×V)
 | []=>[(f,v)]
 | (g,x)::r=>if g=f then (g,v)::r else (g,x)::b6d f v r
theorem b3w(f g:Str)(v:V):∀fs:List (Str×V),(b6d f v fs).lookup g=if g=f then some v else fs.lookup g
 | []=>by
  show List.lookup g [(f,v)]=_;by_cases h:g=f
  ·have hb:(g == f)=true:=beq_iff_eq.mpr h
   simp only[List.lookup,hb,if_pos h]
  ·have hb:(g == f)=false:=beq_eq_false_iff_ne.mpr h
   simp only[List.lookup,hb,if_neg h]
 | (k,x)::r=>by
  have ih:=b3w f g v r;rw[show b6d f v ((k,x)::r)=(if k=f then (k,v)::r else (k,x)::b6d f v r) from rfl];by_cases hk:k=f
  ·rw[if_pos hk]
   by_cases h:g=k
   ·have hb:(g == k)=true:=beq_iff_eq.mpr h
    simp only[List.lookup,hb,if_pos (h.trans hk)]
   ·have hb:(g == k)=false:=beq_eq_false_iff_ne.mpr h
    simp only[List.lookup,hb,if_neg (λe:g=f=>h (e.trans hk.symm))]
  ·rw[if_neg hk]
   by_cases h:g=k
   ·have hb:(g == k)=true:=beq_iff_eq.mpr h
    simp only[List.lookup,hb,if_neg (λe:g=f=>hk (h.symm.trans e))]
   ·have hb:(g == k)=false:=beq_eq_false_iff_ne.mpr h
    simp only[List.lookup,hb];exact ih
theorem b4b(f:Str)(v:V):∀fs:List (Str×V),f∈(b6d f v fs).map (·.1)/\∀g,g∈fs.map (·.1)->g∈(b6d f v fs).map (·.1)
 | []=>⟨by simp[b6d],λg h=>by simp at h⟩
 | (k,x)::r=>by
  obtain⟨i1,i2⟩:=b4b f v r;rw[show b6d f v ((k,x)::r)=(if k=f then (k,v)::r else (k,x)::b6d f v r) from rfl];by_cases hk:k=f
  ·rw[if_pos hk]
   subst hk;exact⟨by simp,λg h=>by simpa using h⟩
  ·rw[if_neg hk]
   refine⟨?_,λg h=>?_⟩
   ·rw[List.map_cons]
    exact List.mem_cons_of_mem _ i1
   ·rw[List.map_cons] at h ⊢
    rcases List.mem_cons.mp h with e|e
    ·exact List.mem_cons.mpr (.inl e)
    ·exact List.mem_cons_of_mem _ (i2 g e)
theorem b3x(f:Str)(v:V):∀fs:List (Str×V),(b6d f v fs).length<=fs.length+1
 | []=>by simp[b6d]
 | (k,x)::r=>by
  have ih:=b3x f v r;rw[show b6d f v ((k,x)::r)=(if k=f then (k,v)::r else (k,x)::b6d f v r) from rfl];by_cases hk:k=f
  ·rw[if_pos hk,List.length_cons,List.length_cons];lia
  ·rw[if_neg hk,List.length_cons,List.length_cons];lia
theorem RelO.some_of{v:V}{o:Option Value}(r:RelO (some v) o):∃u,o=some u/\RelV v u:=by
 cases o with
 | none=>exact(show False from r).elim
 | some u=>exact⟨u,rfl,r⟩
theorem RelO.none_of{o:Option Value}(r:RelO none o):o=none:=by
 cases o with
 | none=>rfl
 | some u=>exact(show False from r).elim
theorem c4w{v:V}{u:Value}(r:RelV v u):PySem.W.handedIn u=true:=by
 cases v with
 | non=>cases (show u=Value.none from r);rfl
 | bl b=>cases (show u=Value.bool b from r);rfl
 | int i=>obtain⟨t,e⟩:=(show ∃t,u=Value.int i t from r);cases e;rfl
 | str x=>obtain⟨t,e⟩:=(show ∃t,u=Value.str x t from r);cases e;rfl
 | byt b=>obtain⟨t,e⟩:=(show ∃t,u=Value.bytes b t from r);cases e;rfl
 | flt b=>obtain⟨t,e⟩:=(show ∃t,u=Value.float b t from r);cases e;rfl
 | ref a=>cases (show u=Value.ref a from r);rfl
 | ty n=>cases (show u=Value.type n from r);rfl
section
variable{P:Program}{w:World}{H H':Hp}{h h':Heap}{a C dx:Addr}{fs fs':List (Str×V)}
theorem b6x(hok:HOk P w H h)(e:H a=some (.ins C dx fs)):∃mA,ObjM h a dx C mA/\(∀f,RelO (fs.lookup f) (mA f))/\PySem.Within mA (fs.map (·.1))/\fs.length<=1000/\H dx=some (.own a):=by
 obtain⟨d,z,ne,ob,mA,n,r,q⟩:=(show ObjOk P w H h a (.ins C dx fs) from hok a _ e);exact⟨mA,⟨ob,n,ne⟩,r,q,z,d⟩
end
structure Cls(K:Frag)(C:Addr):Prop where
 pg:plainGet K C Str.empty=true
 hd:hasDictIn K C=true
 po:plainOver K C=true
 sa:findIn K (.ref C) "__setattr__" = some (some (.builtin "object.__setattr__"))
theorem Cls.get{K:Frag}{C:Addr}(c:Cls K C)(f:Str):plainGet K C f=true:=c.pg
def NoAttr(K:Frag)(C:Addr)(f:Str):Prop:=findIn K (.ref C) f=some none
theorem NoAttr.taker{K:Frag}{C:Addr}{f:Str}(n:NoAttr K C f):PySem.W.takerIn K C f=some none:=by
 unfold PySem.W.takerIn;rw[show findIn K (.ref C) f=some none from n]
 rfl
structure d3n(K:Frag)(C:Addr)(m:Str)(f:Addr):Prop where
 at_:findIn K (.ref C) m=some (some (.ref f))
 fn:isFn K (.ref f)=true
 kp:keepIn K (.ref f)=true
section
variable{X:Cx}{pins:List (Addr×Obj)}{σ:St}{H:Hp}{s:Shared}{a C dx:Addr}{fs:List (Str×V)}{f:Str}{v:V}{A:Around}{E:Value->Shared->Prop}
theorem c2r{b:Bool}{Q:Value->Shared->Prop}(I:Inv X pins σ H s)(e:H a=some (.ins C dx fs))(c:Cls X.K C)(n:NoAttr X.K C f)(l:fs.lookup f=some v)(h:∀u s',Inv X pins σ H s'->RelV v u->Q u s'):wpAny (model X.prog X.w) A (getAttr (.ref a) f b) Q E s:=by
 obtain⟨mA,O,r,_,_,_⟩:=b6x I.hok e;obtain⟨u,hu,ru⟩:=RelO.some_of (v:=v) (o:=mA f) (by rw[<- l];exact r f)
 exact d0c I.kIn O (c.get f) c.hd n hu (c4w ru) (h u _ (I.tok _) ru)
theorem a8f{m:Str}{g:Addr}{pl:Sem Bool}{Q:Value×List Value->Shared->Prop}(I:Inv X pins σ H s)(e:H a=some (.ins C dx fs))(c:Cls X.K C)(k:d3n X.K C m g)(l:fs.lookup m=none)(h:Q (.ref g,[.ref a]) s):wpAny (model X.prog X.w) A (getMethod (.ref a) m pl) Q E s:=by
 obtain⟨mA,O,r,_,_,_⟩:=b6x I.hok e;have hn:mA m=none:=RelO.none_of (by rw[<- l];exact r m)
 exact c7e I.kIn O (c.get m) k.at_ k.fn hn h
theorem b4z{y:V}{u:Value}{Q:Unit->Shared->Prop}(I:Inv X pins σ H s)(e:H a=some (.ins C dx fs))(c:Cls X.K C)(n:NoAttr X.K C f)(hl:fs.length<1000)(ry:RelV y u)(h:∀s',Inv X pins σ (upd H a (.ins C dx (b6d f y fs))) s'->Q () s'):wpAny (model X.prog X.w) A (setAttr (.ref a) f u) Q E s:=by
 obtain⟨mA,O,r,wi,_,ho⟩:=b6x I.hok e;have hz:(fs.map (·.1)).length<=sizeLine:=by rw[List.length_map,sizeLine_eq];lia
 refine c9d I.kIn O c.sa c.po n.taker c.hd wi hz λh' O' sb=>h _ ?_;have hd:∃o,h'.get? dx=some o:=let ⟨o,_,_,e',_⟩:=O'.ns;⟨o,e'⟩
 refine I.write (x:=a) (e:=dx) (by rw[e];exact True.intro) (.inr ho) (λb q hb z=>(sb.2 b hb).trans z) hd ?_
 refine⟨by rw[f9 O.ne];exact ho,?_,O.ne,O'.obj,_,O'.ns,λg=>?_,λg hg=>?_⟩
 ·have:=b3x f y fs;lia
 ·show RelO ((b6d f y fs).lookup g) (if g=f then some u else mA g)
  rw[b3w];by_cases q:g=f
  ·rw[if_pos q,if_pos q];exact ry
  ·rw[if_neg q,if_neg q];exact r g
 ·by_cases q:g=f
  ·rw[q];exact(b4b f y fs).1
  ·refine (b4b f y fs).2 g (wi g λz=>hg ?_)
   show(if g=f then some u else mA g)=none;rw[if_neg q];exact z
theorem Inv.made(I:Inv X pins σ H s):Inv X pins σ (upd (upd H s.heap.objs.size (.own (s.heap.objs.size+1))) (s.heap.objs.size+1) (.ins C s.heap.objs.size []))
  { s with heap:=(s.heap.push PySem.W.emptyDict).push (PySem.W.instObj C s.heap.objs.size) }:=by
 have e1:(s.heap.push PySem.W.emptyDict).get? s.heap.objs.size=some PySem.W.emptyDict:=Heap.get?_push_size s.heap rfl;have e2:((s.heap.push PySem.W.emptyDict).push (PySem.W.instObj C s.heap.objs.size)).get? (s.heap.objs.size+1)=some (PySem.W.instObj C s.heap.objs.size):=by
  have:=Heap.get?_push_size (s.heap.push PySem.W.emptyDict) (o:=PySem.W.instObj C s.heap.objs.size) rfl
  rwa [Heap.size_push] at this
 have e3:(s.heap.push PySem.W.emptyDict).Ns s.heap.objs.size (λ_=>none):=⟨PySem.W.emptyDict,#[],_,e1,rfl,(λe he=>absurd he (by simp)),λ_=>rfl⟩
 have I1:=I.laid (a:=s.heap.objs.size) (o:=.own (s.heap.objs.size+1)) (h':=s.heap.push PySem.W.emptyDict) (t':=s.toks) (λb u q=>Heap.get?_push_of_some _ q) (Nat.le_refl _) ⟨_,e1⟩;refine I1.laid (a:=s.heap.objs.size+1) (o:=.ins C s.heap.objs.size []) (t':=s.toks) (λb u q=>Heap.get?_push_of_some _ q) (Nat.le_of_eq (Heap.size_push _ _)) ?_;have ne:s.heap.objs.size≠s.heap.objs.size+1:=Nat.ne_of_lt (Nat.lt_succ_self _);refine⟨by rw[f9 ne,d8],Nat.zero_le _,ne,e2,λ_=>none,(Heap.Ns1.of_empty e3).at λo q=>Heap.get?_push_of_some _ q,λ_=>True.intro,λy hy=>absurd rfl hy⟩
theorem d0u{prog:Program}{w:World}{env:Env}{e:Expr}{f:Str}{pos:Pos}{s:Shared}{Q:Value->Shared->Prop}(hb:attributeBase e f env (eval e env)=eval e env)(h:wpAny (model prog w) A (eval e env) (λo s₁=>wpAny (model prog w) A (getAttr o f true) Q E s₁) E s):wpAny (model prog w) A (eval (.Attribute e f pos) env) Q E s :=
 Attribute_any_ h (by rw[arm_eval_Attribute,hb])
end
def d4d(K:Frag)(ta:TE)(f:Str):TE:=λσ H Q=>ta σ H λx H1=>∃a C dx fs v,x=.ref a/\H1 a=some (.ins C dx fs)/\Cls K C/\NoAttr K C f/\fs.lookup f=some v/\Q v H1
def d4g(K:Frag)(ta tv:TE)(f:Str):TS:=λD σ H=>tv σ H λy H1=>ta σ H1 λx H2=>∃a C dx fs,x=.ref a/\H2 a=some (.ins C dx fs)/\Cls K C/\NoAttr K C f/\fs.length<1000 /\
 D.nx σ (upd H2 a (.ins C dx (b6d f y fs)))
section
variable{X:Cx}{o e value:Expr}{f:Str}{pos pos' tpos:Pos}{ta tv:TE}
theorem d2d(he:PE X e ta)(hb:attributeBase e f X.env (eval e X.env)=eval e X.env):PE X (.Attribute e f pos) (d4d X.K ta f):=by
 intro pins s σ H Q I h;refine d0u hb (thn (he pins s σ H _ I h) λu s1 z0_=>?_);obtain⟨x,H1,I1,rx,a,C,dx,fs,v,ex,ea,c,n,l,q⟩:=z0_;subst ex;obtain rfl:u=Value.ref a:=rx;exact c2r I1 ea c n l λu' s2 I2 ru=>⟨v,H1,I2,ru,q⟩
theorem d1y(ha:PE X o ta)(hv:PE X value tv)(hs:swapsWith value (some (.Attribute o f pos')) pos.line X.env=pure false):PS X (.Assign [.Attribute o f pos'] value pos) (d4g X.K ta tv f):=by
 intro pins s σ H D I h;refine plainObj_wpAny_Assign_Attribute (thn (hv pins s σ H _ I h) λu s1 z0_=>?_) hs;obtain⟨y,H1,I1,ry,q⟩:=z0_;refine thn (ha pins s1 σ H1 _ I1 q) λov s2 z1_=>?_;obtain⟨x,H2,I2,rx,a,C,dx,fs,ex,ea,c,n,l,q2⟩:=z1_;subst ex;obtain rfl:ov=Value.ref a:=rx;exact b4z I2 ea c n l ry λs3 I3=>⟨σ,_,I3,q2⟩
end
section
variable{X:Cx}{pins:List (Addr×Obj)}{σ:St}{H:Hp}{s:Shared}{A:Around}{E:Value->Shared->Prop}{Q:Value->Shared->Prop}{c:Value}{b:Bool}
inductive c2x(K:Frag)(H:Hp):V->Value->Prop where
 | non:c2x K H .non (.type "NoneType")
 | bl (x:Bool):c2x K H (.bl x) (.type "bool")
 | int (i:Int):c2x K H (.int i) (.type "int")
 | str (x:Str):c2x K H (.str x) (.type "str")
 | flt (x:UInt64):c2x K H (.flt x) (.type "float")
 | lst {a:Addr} {xs:List V} (e:H a=some (.lst xs)):c2x K H (.ref a) (.type "list")
 | frz {a:Addr} {o:Obj} {xs:List V} (e:H a=some (.frz o (.lst xs))):c2x K H (.ref a) (.type "list")
 | tup {a:Addr} {xs:List V} (e:H a=some (.tup xs)):c2x K H (.ref a) (.type "tuple")
 | dK {a:Addr} {kvs:List (Key×V)} (e:H a=some (.dK kvs)):c2x K H (.ref a) (.type "dict")
 | dT {a:Addr} {kvs:List (List Key×V)} (e:H a=some (.dT kvs)):c2x K H (.ref a) (.type "dict")
 | ins {a C dx:Addr} {fs:List (Str×V)} (e:H a=some (.ins C dx fs)) (cl:Cls K C) (ha:findIn K (.ref C) "__class__" = some (some (.builtin "object.__class__")))
   (hn:specialIn K (.builtin "object.__class__") "__get__" = some (some (.builtin "getset_descriptor.__get__"))) (htk:PySem.W.takesIn K (.builtin "object.__class__")=some true)
   (hm:mroIn K C (.type "object")=some true):c2x K H (.ref a) (.ref C)
theorem c4s{x:V}{u t:Value}(I:Inv X pins σ H s)(rx:RelV x u)(ty:c2x X.K H x t)(e:kitOne X.K t c=some b)(h:∀tk,Q (.bool b) { s with toks:=tk }):
  wpAny (model X.prog X.w) A (call (.builtin "isinstance") [u,c]) Q E s:=by
 cases ty with
 | non=>cases (show u=Value.none from rx);exact kia_one PySem.W.kitx_none I.kIn True.intro e (λz=>nomatch z) h
 | bl y=>cases (show u=Value.bool y from rx);exact kia_one PySem.W.kitx_bool I.kIn True.intro e (λz=>nomatch z) h
 | int i=>obtain⟨t,q⟩:=(show ∃t,u=Value.int i t from rx);cases q;exact kia_one PySem.W.kitx_int I.kIn True.intro e (λz=>nomatch z) h
 | str y=>obtain⟨t,q⟩:=(show ∃t,u=Value.str y t from rx);cases q;exact kia_one PySem.W.kitx_str I.kIn True.intro e (λz=>nomatch z) h
 | flt y=>obtain⟨t,q⟩:=(show ∃t,u=Value.float y t from rx);cases q;exact kia_one PySem.W.kitx_float I.kIn True.intro e (λz=>nomatch z) h
 | @lst a xs ea=>
  cases (show u=Value.ref a from rx);obtain⟨_,_,n,_,h1⟩:=(show ObjOk X.prog X.w H s.heap a (.lst xs) from I.hok a _ ea);exact kia_one PySem.W.kitx_list I.kIn ⟨_,h1,rfl⟩ e (λz=>nomatch z) h
 | @frz a ob xs ea=>
  cases (show u=Value.ref a from rx);obtain⟨_,_,_,n,_,h1⟩:=(show ObjOk X.prog X.w H s.heap a (.frz ob (.lst xs)) from I.hok a _ ea);exact kia_one PySem.W.kitx_list I.kIn ⟨_,h1,rfl⟩ e (λz=>nomatch z) h
 | @tup a xs ea=>
  cases (show u=Value.ref a from rx);obtain⟨_,_,_,p⟩:=(show ObjOk X.prog X.w H s.heap a (.tup xs) from I.hok a _ ea);obtain⟨o,h1,h2,_⟩:=p;exact kia_one PySem.W.kitx_tuple I.kIn ⟨o,h1,h2⟩ e (λz=>nomatch z) h
 | @dK a kvs ea=>
  cases (show u=Value.ref a from rx);obtain⟨_,_,vs,_,p⟩:=(show ObjOk X.prog X.w H s.heap a (.dK kvs) from I.hok a _ ea);obtain⟨o,es,ep,h1,h2,_⟩:=p;exact kia_one PySem.W.kitx_dict I.kIn ⟨o,h1,h2.1⟩ e (λz=>nomatch z) h
 | @dT a kvs ea=>
  cases (show u=Value.ref a from rx);obtain⟨_,_,xs,_,o,es,ep,h1,h2,_⟩:=(show ObjOk X.prog X.w H s.heap a (.dT kvs) from I.hok a _ ea);exact kia_one PySem.W.kitx_dict I.kIn ⟨o,h1,h2.1⟩ e (λz=>nomatch z) h
 | @ins a C dx fs ea cl ha hn htk hm=>
  cases (show u=Value.ref a from rx);obtain⟨mA,O,_⟩:=b6x I.hok ea;obtain⟨od,J,_⟩:=O.look;exact kia_one (PySem.W.kitx_own (cl.get _) cl.hd ha hn htk hm) I.kIn J e (λz=>nomatch z) h
end
end L2
namespace L2
open PySem PySem.Spec PyProof.Rows
structure Room(k:Nat)(A:Around):Prop where
 hd:A.handled=none
 dp:A.depth+3*k+5<recursionLimit
 un:A.units+16*k+200<cLine
theorem Room.mono{j k:Nat}{A:Around}(r:Room k A)(h:j<=k):Room j A:=⟨r.hd,by have:=r.dp;lia,by have:=r.un;lia⟩
theorem Room.deeper{k:Nat}{A:Around}(r:Room (k+1) A)(env:Env):Room k (A.deeper env) :=
 ⟨r.hd,by have:=r.dp;show A.depth+1+3*k+5<_;lia,by have:=r.un;show A.units+3+16*k+200<_;lia⟩
theorem c2q{A:Around}{C:Addr}{us:List Value}{kw:List (Str×Value)}:(A.under (.builtin "type.__call__" ⟨.ref C::us,kw⟩)).depth=A.depth+1:=by
 first|rfl|simp[Around.under,Code.weight,Code.isCreation,Code.isGuard,Code.isCaller,Code.frames,Code.isFrame,guardIds]
theorem c2p{A:Around}{C:Addr}{us:List Value}{kw:List (Str×Value)}:(A.under (.builtin "type.__call__" ⟨.ref C::us,kw⟩)).units=A.units+1:=by
 first|rfl|simp[Around.under,Code.cUnits,Code.frames,Code.isFrame]
theorem Room.make{k:Nat}{A:Around}(r:Room (k+1) A)(C:Addr)(us:List Value)(kw:List (Str×Value)):Room k (A.under (.builtin "type.__call__" ⟨.ref C::us,kw⟩)) :=
 ⟨r.hd,by have:=r.dp;rw[c2q];lia,by have:=r.un;rw[c2p];lia⟩
theorem Room.depth{k:Nat}{A:Around}(r:Room k A):A.depth<recursionLimit:=by have:=r.dp;lia
def c9a:TA:=λ_ H Q=>Q [] H
def c6e(ta:TE)(tr:TA):TA:=λσ H Q=>ta σ H λx H1=>tr σ H1 λxs H2=>Q (x::xs) H2
section
variable{X:Cx}{e:Expr}{es:List Expr}{te:TE}{t:TA}{pos:Pos}
theorem d6:PA X [] c9a:=λ_ _ _ _ H Q I h=>Calls.spliced_nil ⟨[],H,I,.nil,h⟩
theorem d5(ha:PE X e te)(hr:PA X es t)(hs:starEach (e::es) X.env=(false,eval e X.env)::starEach es X.env:=by rfl):PA X (e::es) (c6e te t):=by
 intro pos pins s σ H Q I h;rw[hs];show wpAny _ _ (spliced ((false,eval e X.env)::backTo pos (starEach es X.env))) _ _ s;refine Calls.spliced_cons (thn (ha pins s σ H _ I h) λu s1 z0_=>?_);obtain⟨x,H1,I1,r1,q1⟩:=z0_;exact thn (hr pos pins s1 σ H1 _ I1 q1) λus s2 z0_=>by obtain⟨xs,H2,I2,r2,q2⟩:=z0_;exact⟨x::xs,H2,I2,.cons r1 r2,q2⟩
def d5w(t:TA):TE:=λσ H Q=>t σ H λxs H1=>xs.length<=sizeLine/\∀p,H1 p=none->Q (.ref p) (upd H1 p (.tup xs))
def d6b(t:TA):TE:=λσ H Q=>t σ H λxs H1=>xs.length<=sizeLine/\∀p,H1 p=none->Q (.ref p) (upd H1 p (.lst xs))
theorem t7{x1}(h:PA X es t):PE X (.Tuple es x1 pos) (d5w t):=by
 intro pins s σ H Q I hq;refine wpAny_Tuple_spliced (thn (h pos pins s σ H _ I hq) λus s1 ⟨xs,H1,I1,r,z,q⟩=>⟨by rw[<- r.length];exact z,?_⟩)
 have hf:H1 s1.heap.objs.size=none:=I1.hok.fresh (Nat.le_refl _);refine⟨.ref s1.heap.objs.size,upd H1 s1.heap.objs.size (.tup xs),I1.laid (t':=s1.toks) (λb u e=>Heap.get?_push_of_some _ e) (Nat.le_refl _) ?_,rfl,q _ hf⟩;exact⟨z,us,r,⟨_,Heap.get?_push_size _ rfl,rfl,_,rfl⟩⟩
theorem l7(h:PA X es t):PE X (.List es pos) (d6b t):=by
 intro pins s σ H Q I hq;refine wpAny_List_spliced (thn (h pos pins s σ H _ I hq) λus s1 ⟨xs,H1,I1,r,z,q⟩=>⟨by rw[<- r.length];exact z,?_⟩)
 have hf:H1 s1.heap.objs.size=none:=I1.hok.fresh (Nat.le_refl _);refine⟨.ref s1.heap.objs.size,upd H1 s1.heap.objs.size (.lst xs),I1.laid (t':=s1.toks) (λb u e=>Heap.get?_push_of_some _ e) (Nat.le_refl _) ?_,rfl,q _ hf⟩;exact⟨z,us,0,r,Heap.get?_push_size _ rfl⟩
end
abbrev Sp:=List V->Hp->VK->XK->Prop
abbrev CXT:=List Env->Hp->Shared->XK->Value->Shared->Prop
structure Env0(P:Program)(w:World)(K:Frag)(mg:Str->Option Value)(base:Heap)(A:Around)(outer:List Env)(s:Shared)(H:Hp):Prop where
 frames:A.frames=some outer
 mod:Mod K mg base
 bs:∀b o,base.get? b=some o->s.heap.get? b=some o/\H b=none
 bsz:base.objs.size<=s.heap.objs.size
 funs:s.heap.FunFrames base outer
 frf:∀b∈frs outer,H b=none
 hok:HOk P w H s.heap
 bare:AllBare s.gens
def CE(outer:List Env)(P:Program)(w:World)(H:Hp)(s:Shared)(Q:VK)(u:Value)(s':Shared):Prop :=
 ∃v H',s'.os=s.os/\AllBare s'.gens/\Un (frs outer) [] H H' s.heap s'.heap/\HOk P w H' s'.heap/\RelV v u/\Q v H'
def CR(CX:CXT)(outer:List Env)(P:Program)(w:World)(H:Hp)(s:Shared)(Q:VK)(E:XK)(r:Result)(s':Shared):Prop :=
 match r with
 | .ok (.ret u)=>CE outer P w H s Q u s'
 | .ok _=>False
 | .error e=>CX outer H s E e s'
structure FnOk(P:Program)(w:World)(K:Frag)(mg:Str->Option Value)(base:Heap)(CX:CXT)(k:Nat)(f:Addr)(fd:FuncData)(ps:List Str)(sp:Sp):Prop where
 len:∀vs H Q E,sp vs H Q E->vs.length=ps.length
 run:∀(A:Around)(outer:List Env)(s:Shared)(H:Hp)(args:Args)(us:List Value)(vs:List V)(Q:VK)(E:XK),Room k A->Env0 P w K mg base A outer s H->BindsTo s fd args (ps.zip us)->Vals vs us->sp vs H Q E ->
  codeAny (model P w) A (.call (.ref f) args) (CR CX outer P w H s Q E) s
theorem FnOk.mono{P:Program}{w:World}{K:Frag}{mg:Str->Option Value}{base:Heap}{CX:CXT}{j k:Nat}{f:Addr}{fd:FuncData}{ps:List Str}{sp:Sp}(F:FnOk P w K mg base CX j f fd ps sp)(h:j<=k):
  FnOk P w K mg base CX k f fd ps sp:=⟨F.len,λA outer s H args us vs Q E hr=>F.run A outer s H args us vs Q E (hr.mono h)⟩
theorem Env0.make{P:Program}{w:World}{K:Frag}{mg:Str->Option Value}{base:Heap}{A:Around}{outer:List Env}{s:Shared}{H:Hp}(e:Env0 P w K mg base A outer s H)(C:Addr)(us:List Value)(kw:List (Str×Value)):
  Env0 P w K mg base (A.under (.builtin "type.__call__" ⟨.ref C::us,kw⟩)) outer s H:=⟨by first|exact e.frames|(simpa[Around.under,Code.envs,Code.isFrame,pushEnvs] using e.frames),e.mod,e.bs,e.bsz,e.funs,e.frf,e.hok,e.bare⟩
section
variable{X:Cx}{pins:List (Addr×Obj)}{σ:St}{H:Hp}{s s':Shared}
theorem Inv.env0(I:Inv X pins σ H s):Env0 X.prog X.w X.K X.mg X.base X.A X.stack s H :=
 ⟨I.ok.frames,I.ok.mod,I.bs,Nat.le_trans I.ok.bsz I.sz,I.stack,I.stkFree,I.hok,I.bare⟩
theorem Inv.after{Q:VK}{u:Value}(I:Inv X pins σ H s)(h:CE X.stack X.prog X.w H s Q u s'):EP X pins σ Q u s':=by
 obtain⟨v,H',os,bare,un,hok,r,q⟩:=h;obtain⟨hh,g,d,t,os'⟩:=s';obtain rfl:os'=s.os:=os;exact⟨v,H',I.call (h':=hh) (g':=g) (d':=d) (t':=t) (ch:=[]) un hok bare (λb z=>absurd z (by simp)),r,q⟩
end
def d4e(sp:Sp)(dvs:List V)(E:XK)(t:TA):TE:=λσ H Q=>t σ H λvs H1=>sp (vs++dvs) H1 Q E
def d1n(C:Addr)(m:Str)(sp:Sp)(dvs:List V)(E:XK)(ta:TE)(t:TA):TE:=λσ H Q=>ta σ H λx H1=>∃a dx fs,x=.ref a/\H1 a=some (.ins C dx fs)/\fs.lookup m=none /\
 t σ H1 λvs H2=>sp (x::(vs++dvs)) H2 Q E
def d4b(C:Addr)(sp:Sp)(dvs:List V)(E:XK)(t:TA):TE:=λσ H Q=>t σ H λvs H1=>∀x dx,H1 x=none->H1 dx=none->dx≠x ->
 sp (.ref x::(vs++dvs)) (upd (upd H1 dx (.own x)) x (.ins C dx [])) (λv H2=>v=.non/\Q (.ref x) H2) E
def Binds(K:Frag)(fd:FuncData)(ps:List Str)(ds:List Value):Prop :=
 ∀(s:Shared)(us:List Value),K.In s.heap->(us++ds).length=ps.length->BindsTo s fd ⟨us,[]⟩ (ps.zip (us++ds))
theorem Binds.all{K:Frag}{fd:FuncData}{ps:List Str}(h:∀us:List Value,us.length=ps.length->bindArgs fd ⟨us,[]⟩=pure (ps.zip us)):Binds K fd ps []:=λs us _ hl=>by
 rw[List.append_nil] at hl ⊢;exact .of_eq (h us hl)
def a3b(CX:CXT)(X:Cx)(E:XK):Prop:=∀(pins:List (Addr×Obj))(σ:St)(H:Hp)(s:Shared)(e:Value)(s':Shared),Inv X pins σ H s->CX X.stack H s E e s'->X.xe e s'
section
variable{X:Cx}{CX:CXT}{k:Nat}{f C:Addr}{fd:FuncData}{ps:List Str}{sp:Sp}{dvs:List V}{ds:List Value}{E:XK}{x m:Str}{p pos apos:Pos}{e o:Expr}{es:List Expr}{ta:TE}{t:TA}
theorem b5a{pins:List (Addr×Obj)}{σ:St}{H:Hp}{s:Shared}{Q:VK}{us:List Value}{vs:List V}(F:FnOk X.prog X.w X.K X.mg X.base CX k f fd ps sp)(hr:Room k X.A)(hb:Binds X.K fd ps ds)(hd:Vals dvs ds)(hx:a3b CX X E)(I:Inv X pins σ H s)(r:Vals vs us)(h:sp (vs++dvs) H Q E):wpAny (model X.prog X.w) X.A (call (.ref f) us) (EP X pins σ Q) X.xe s:=by
 have r2:Vals (vs++dvs) (us++ds):=r.append hd;have hl:(us++ds).length=ps.length:=by rw[<- r2.length];exact F.len _ _ _ _ h
 refine wpAny_call (codeAny_mono (F.run X.A X.stack s H ⟨us,[]⟩ (us++ds) (vs++dvs) Q E hr I.env0 (hb s us I.kIn hl) r2 h) λr s' hq=>?_);cases r with
 | error e=>exact hx pins σ H s e s' I hq
 | ok fl=>
  cases fl with
  | ret u=>exact I.after hq
  | next=>exact False.elim hq
  | brk=>exact False.elim hq
  | cont=>exact False.elim hq
theorem c9o(F:FnOk X.prog X.w X.K X.mg X.base CX k f fd ps sp)(hr:Room k X.A)(hg:Gl X x)(hm:X.mg x=some (.ref f))(hk:keepIn X.K (.ref f)=true)(hb:Binds X.K fd ps ds)(hd:Vals dvs ds)(hx:a3b CX X E)(ha:PA X (e::es) t)(hdb:(x == ("__debug__":Str))=false:=by decide)(he:starEach (e::es) X.env=(false,eval e X.env)::starEach es X.env:=by rfl)(hpl:(backTo pos (starEach es X.env)).any (·.1)=false:=by rfl):
  PE X (.Call (.Name x p) (e::es) [] pos) (d4e sp dvs E t):=by
 intro pins s σ H Q I h;refine wpAny_Call_Name_kw (a5y I hg hm ?_ hdb);refine callWith_K (h₀:=X.base) I.ok.mod.kin hk (thn (ha pos pins s σ H _ I h) λus s1 z0_=>?_) he hpl;obtain⟨vs,H1,I1,r,q⟩:=z0_;refine⟨I1.kIn,?_⟩;exact b5a F hr hb hd hx I1 r q
theorem c9m{pl:Sem Bool}(he:PE X o ta)(c:Cls X.K C)(hm:d3n X.K C m f)(F:FnOk X.prog X.w X.K X.mg X.base CX k f fd ps sp)(hr:Room k X.A)(hb:Binds X.K fd ps ds)(hd:Vals dvs ds)(hx:a3b CX X E)(ha:PA X (e::es) t)(hst:starEach (e::es) X.env=(false,eval e X.env)::starEach es X.env:=by rfl)(hpl:(backTo pos (starEach es X.env)).any (·.1)=false:=by rfl)(ht:eval (.Call (.Attribute o m apos) (e::es) [] pos) X.env=(do
   let ov <- eval o X.env
   standAt apos.atName
   let (f,first) <- holding [ov] (getMethod ov m pl)
   callWith pos f first (backTo pos (starEach (e::es) X.env)) (backToKw pos (keywordEach [] X.env))):=by rfl):
  PE X (.Call (.Attribute o m apos) (e::es) [] pos) (d1n C m sp dvs E ta t):=by
 intro pins s σ H Q I h;refine PySem.W.methodCall_KW (pl:=pl) (thn (he pins s σ H _ I h) λu s1 z0_=>?_) ht;obtain⟨x,H1,I1,rx,a,dx,fs,ex,ea,l,q⟩:=z0_;subst ex;obtain rfl:u=Value.ref a:=rx;refine a8f I1 ea c hm l ?_;refine callWith_K (first:=[.ref a]) (h₀:=X.base) I.ok.mod.kin hm.kp (thn (ha pos pins s1 σ H1 _ I1 q) λus s2 z0_=>?_) hst hpl
 obtain⟨vs,H2,I2,r,q2⟩:=z0_;refine⟨I2.kIn,?_⟩;exact b5a (us:=.ref a::us) (vs:=.ref a::vs) F hr hb hd hx I2 (.cons rfl r) q2
theorem c6r{pl:Sem Bool}(he:PE X o ta)(c:Cls X.K C)(hm:d3n X.K C m f)(F:FnOk X.prog X.w X.K X.mg X.base CX k f fd ps sp)(hr:Room k X.A)(hb:Binds X.K fd ps ds)(hd:Vals dvs ds)(hx:a3b CX X E)(ht:eval (.Call (.Attribute o m apos) [] [] pos) X.env=(do
   let ov <- eval o X.env
   standAt apos.atName
   let (f,first) <- holding [ov] (getMethod ov m pl)
   callWith pos f first (backTo pos (starEach [] X.env)) (backToKw pos (keywordEach [] X.env))):=by rfl):
  PE X (.Call (.Attribute o m apos) [] [] pos) (d1n C m sp dvs E ta c9a):=by
 intro pins s σ H Q I h;refine PySem.W.methodCall_KW (pl:=pl) (thn (he pins s σ H _ I h) λu s1 z0_=>?_) ht;obtain⟨x,H1,I1,rx,a,dx,fs,ex,ea,l,q⟩:=z0_;subst ex;obtain rfl:u=Value.ref a:=rx;refine a8f I1 ea c hm l ?_;exact PySem.W.callWith_K0 (first:=[.ref a]) I1.kIn hm.kp (b5a (us:=[.ref a]) (vs:=[.ref a]) F hr hb hd hx I1 (.cons rfl .nil) q)
structure Mk(K:Frag)(C f:Addr):Prop where
 makes:makesIn K C=true
 init:findIn K (.ref C) "__init__" = some (some (.ref f))
 fn:isFn K (.ref f)=true
 kp:keepIn K (.ref C)=true
theorem c6h{pins:List (Addr×Obj)}{σ:St}{H:Hp}{s:Shared}{Q:VK}{us:List Value}{vs:List V}(M:Mk X.K C f)(F:FnOk X.prog X.w X.K X.mg X.base CX k f fd ps sp)(hr:Room (k+1) X.A)(hb:Binds X.K fd ps ds)(hd:Vals dvs ds)(hx:a3b CX X E)(I:Inv X pins σ H s)(r:Vals vs us)(h:∀x dx,H x=none->H dx=none->dx≠x->sp (.ref x::(vs++dvs)) (upd (upd H dx (.own x)) x (.ins C dx [])) (λv H2=>v=.non/\Q (.ref x) H2) E):
  wpAny (model X.prog X.w) X.A (call (.ref C) us) (EP X pins σ Q) X.xe s:=by
 have hq:=h (s.heap.objs.size+1) s.heap.objs.size (I.hok.fresh (Nat.le_succ _)) (I.hok.fresh (Nat.le_refl _)) (Nat.ne_of_lt (Nat.lt_succ_self _));have I2:=Inv.made (C:=C) I;have r2:Vals (V.ref (s.heap.objs.size+1)::(vs++dvs)) (Value.ref (s.heap.objs.size+1)::(us++ds)):=.cons rfl (r.append hd);have hl:(Value.ref (s.heap.objs.size+1)::us++ds).length=ps.length:=by
  have e:=r2.length;rw[F.len _ _ _ _ hq] at e;exact e.symm
 refine wpAny_call (c6v (f:=f) I.kIn M.makes M.init (beq_iff_eq.mp M.fn) (codeAny_mono (F.run _ X.stack _ _ ⟨Value.ref (s.heap.objs.size+1)::us,[]⟩ (Value.ref (s.heap.objs.size+1)::(us++ds)) _ _ E (hr.make C us [])
  (I2.env0.make C us []) (hb _ (Value.ref (s.heap.objs.size+1)::us) I2.kIn hl) r2 hq) λr s' hq'=>?_))
 cases r with
 | error e=>exact hx pins σ _ _ e s' I2 hq'
 | ok fl=>
  cases fl with
  | ret u=>
   obtain⟨v,H',I3,rv,ev,q3⟩:=I2.after hq';subst ev;exact⟨rv,⟨V.ref (s.heap.objs.size+1),H',I3,rfl,q3⟩⟩
  | next=>exact False.elim hq'
  | brk=>exact False.elim hq'
  | cont=>exact False.elim hq'
theorem c9n(M:Mk X.K C f)(F:FnOk X.prog X.w X.K X.mg X.base CX k f fd ps sp)(hr:Room (k+1) X.A)(hg:Gl X x)(hm:X.mg x=some (.ref C))(hb:Binds X.K fd ps ds)(hd:Vals dvs ds)(hx:a3b CX X E)(ha:PA X (e::es) t)(hdb:(x == ("__debug__":Str))=false:=by decide)(he:starEach (e::es) X.env=(false,eval e X.env)::starEach es X.env:=by rfl)(hpl:(backTo pos (starEach es X.env)).any (·.1)=false:=by rfl):
  PE X (.Call (.Name x p) (e::es) [] pos) (d4b C sp dvs E t):=by
 intro pins s σ H Q I h;refine wpAny_Call_Name_kw (a5y I hg hm ?_ hdb);refine callWith_K (h₀:=X.base) I.ok.mod.kin M.kp (thn (ha pos pins s σ H _ I h) λus s1 z0_=>?_) he hpl;obtain⟨vs,H1,I1,r,q⟩:=z0_;refine⟨I1.kIn,?_⟩;exact c6h M F hr hb hd hx I1 r q
end
section
variable{X:Cx}{CX:CXT}{k:Nat}{f C:Addr}{fd:FuncData}{ps ks:List Str}{sp:Sp}{E:XK}{x m:Str}{p pos apos kpos:Pos}{e o:Expr}{es:List Expr}{kws:List Keyword}{te ta:TE}{t tk:TA}{nm:Option Str}
variable{g:List Value->List Value->List Value}{gV:List V->List V->List V}
end
structure i8(N P:List Str)(sc:Scope):Prop where
 kind:sc.kind=.function
 co:sc.isCoroutine=false
 gen:sc.isGenerator=false
 nd:N.Nodup
 pre:N.take P.length=P
 par:∀x∈P,sc.names.lookup x=some .local\/sc.names.lookup x=some .cell
 nofree:∀y∈sc.names,y.2≠.free
theorem b9l{kindOf:Str->Option NameKind}{x:Str}:∀{binds:List (Str×Value)}{m:Str->Option Value},(∀v,(x,v) ∉ binds)->bindL kindOf binds m x=m x
 | [],_,_=>rfl
 | (n,v)::r,m,h=>by
  unfold bindL;rw[b9l λw hw=>h w (List.mem_cons_of_mem _ hw)];split
  ·have:x≠n:=by rintro rfl;exact h v List.mem_cons_self
   simp[this]
  ·rfl
theorem b9n{kindOf:Str->Option NameKind}{x:Str}:∀{binds:List (Str×Value)}{m:Str->Option Value},(∀v,(x,v) ∉ binds)->bindC kindOf binds m x=m x
 | [],_,_=>rfl
 | (n,v)::r,m,h=>by
  unfold bindC;rw[b9n λw hw=>h w (List.mem_cons_of_mem _ hw)];split
  ·rfl
  ·have:x≠n:=by rintro rfl;exact h v List.mem_cons_self
   simp[this]
theorem b9m{kindOf:Str->Option NameKind}{x:Str}{v:Value}:∀{P:List Str}{vs:List Value}{i:Nat}{m:Str->Option Value},P.Nodup->P[i]?=some x->vs[i]?=some v->kindOf x=some .local ->
  bindL kindOf (P.zip vs) m x=some v
 | [],_,_,_,_,h,_,_=>by simp at h
 | _::_,[],_,_,_,_,h,_=>by simp at h
 | p::P,w::vs,0,m,nd,h1,h2,hk=>by
  simp at h1 h2;subst h1;subst h2;show bindL kindOf ((p,w)::P.zip vs) m p=_;unfold bindL;rw[b9l λv hv=>(List.nodup_cons.mp nd).1 (List.of_mem_zip hv).1,if_pos hk];simp
 | p::P,w::vs,i+1,m,nd,h1,h2,hk=>by
  show bindL kindOf ((p,w)::P.zip vs) m x=_;unfold bindL;exact b9m (i:=i) (List.nodup_cons.mp nd).2 (by simpa using h1) (by simpa using h2) hk
theorem b9o{kindOf:Str->Option NameKind}{x:Str}{v:Value}:∀{P:List Str}{vs:List Value}{i:Nat}{m:Str->Option Value},P.Nodup->P[i]?=some x->vs[i]?=some v->kindOf x≠some .local ->
  bindC kindOf (P.zip vs) m x=some v
 | [],_,_,_,_,h,_,_=>by simp at h
 | _::_,[],_,_,_,_,h,_=>by simp at h
 | p::P,w::vs,0,m,nd,h1,h2,hk=>by
  simp at h1 h2;subst h1;subst h2;show bindC kindOf ((p,w)::P.zip vs) m p=_;unfold bindC;rw[b9n λv hv=>(List.nodup_cons.mp nd).1 (List.of_mem_zip hv).1,if_neg hk];simp
 | p::P,w::vs,i+1,m,nd,h1,h2,hk=>by
  show bindC kindOf ((p,w)::P.zip vs) m x=_;unfold bindC;exact b9o (i:=i) (List.nodup_cons.mp nd).2 (by simpa using h1) (by simpa using h2) hk
def start(N:List Str)(vs:List V):St:=vs.map some++List.replicate (N.length-vs.length) none
def a8h(CX:CXT)(P:Program)(w:World)(K:Frag)(mg:Str->Option Value)(base:Heap)(N:List Str)(qual:Str)(scope:Scope)(f:Addr)(cd:Value)(A:Around)(outer:List Env)(s:Shared)(H:Hp)(E:XK):Cx where
 prog:=P
 w:=w
 K:=K
 mg:=mg
 base:=base
 A:=A.deeper (envOfC qual scope s.heap.objs.size f cd)
 N:=N
 s₀:=s
 H₀:=H
 env:=envOfC qual scope s.heap.objs.size f cd
 outer:=outer
 stack:=envOfC qual scope s.heap.objs.size f cd::outer
 ex:=[]
 calm:=true
 fn:=λ_=>true
 pn:=[]
 xe:=λe s'=>wpAny (model P w) (A.deeper (envOfC qual scope s.heap.objs.size f cd)) (leaving (envOfC qual scope s.heap.objs.size f cd) e) (λ_ s''=>CX outer H s E e s'') (λe' s''=>CX outer H s E e' s'') s'
theorem c2a{sc:Scope}{n:Nat}{x:Str}(h:sc.names.lookup x=some .cell):∃c,(cellsFrom n sc.names []).lookup x=some c:=by
 have q:=PySem.W.cellsFrom_some sc.names n [] (.inl h);exact Option.isSome_iff_exists.mp q
theorem c4t{CX:CXT}{P:Program}{w:World}{K:Frag}{mg:Str->Option Value}{base:Heap}{N ps:List Str}{qual:Str}{scope:Scope}{f:Addr}{cd:Value}{A:Around}{outer:List Env}{s s1:Shared}{H:Hp}{E:XK}{us:List Value}{vs:List V}(S:i8 N ps scope)(hd:A.handled=none)(e0:Env0 P w K mg base A outer s H)(hl:vs.length=ps.length)(r:Vals vs us)(x:InCallC s s.heap.objs.size (bindL (envOfC qual scope s.heap.objs.size f cd).kindOf (ps.zip us) λ_=>none) (cellsFrom (s.heap.objs.size+1) scope.names []) (bindC (envOfC qual scope s.heap.objs.size f cd).kindOf (ps.zip us) λ_=>none) s1):
  Inv (a8h CX P w K mg base N qual scope f cd A outer s H E) [] (start N vs) H s1:=by
 have hpl:ps.length<=N.length:=by have:=congrArg List.length S.pre;rw[List.length_take] at this;lia
 obtain⟨h1,tk,rfl,hk⟩:=x.done;have noA:∀b:Addr,b ∉ (a8h CX P w K mg base N qual scope f cd A outer s H E).ex:=λb z=>absurd (show b∈([]:List Addr) from z) (by simp)
 refine⟨⟨e0.mod,S.kind,rfl,rfl,Nat.le_refl _,λy z c h1 h2=>?_,λy hy=>?_,λy c _ h=>?_,λ_=>hd,Around.frames_deeper e0.frames,.inr ⟨rfl,rfl⟩,λb z=>absurd z (noA b),e0.bs,e0.bsz,λb _ _=>noA b,λb z=>absurd z (noA b),e0.funs,e0.frf⟩,
  rfl,e0.bare,Un.kept hk,⟨_,x.toInCall.ns,λi y v h1 h2 h3=>?_⟩,λy c h=>⟨_,x.cell y c h⟩,e0.hok.fresh (Nat.le_refl _),λy c h=>?_,λp hp=>absurd (show p∈([]:List (Addr×Obj)) from hp) (by simp),e0.hok.kept hk,?_⟩
 ·exact name_of_addr x.apart (PySem.mem_of_lookup h1) (PySem.mem_of_lookup h2)
 ·have hy:scope.names.lookup y=some .cell\/scope.names.lookup y=some .free:=hy
  rcases hy with hy|hy
  ·exact c2a hy
  ·exact absurd rfl (S.nofree _ (PySem.mem_of_lookup hy))
 ·exact Nat.le_of_lt (x.above y c (PySem.mem_of_lookup h))
 ·have hi:i<vs.length:=by
   unfold start at h2;by_cases hi:i<vs.length
   ·exact hi
   ·rw[List.getElem?_append_right (by simpa using hi)] at h2
    rw[List.getElem?_replicate] at h2;split at h2 <;> cases h2
  have ha:vs[i]?=some v:=by
   unfold start at h2;rw[List.getElem?_append_left (by simpa using hi),List.getElem?_map] at h2
   cases e:vs[i]? with
   | none=>rw[e] at h2;cases h2
   | some a=>rw[e] at h2;cases h2;rfl
  obtain⟨u,hu,rv⟩:=r.get ha;have hp:ps[i]?=some y:=by
   rw[<- S.pre,List.getElem?_take_of_lt (by lia)];exact h1
  have ndP:ps.Nodup:=by rw[<- S.pre];exact S.nd.sublist (List.take_sublist _ _)
  refine⟨u,rv,?_⟩;rcases S.par y (List.mem_of_getElem? hp) with k|k
  ·exact .inl ⟨k,b9m ndP hp hu k⟩
  ·obtain⟨c,e⟩:=c2a (n:=s.heap.objs.size+1) k
   refine .inr ⟨.inl k,c,e,?_⟩;have q:=x.cell y c e;rw[b9o ndP hp hu (by show scope.names.lookup y≠_;rw[k];decide)] at q
   exact q
 ·exact e0.hok.fresh (Nat.le_of_lt (x.above y c (PySem.mem_of_lookup h)))
 ·unfold start
  show _=N.length;rw[List.length_append,List.length_map,List.length_replicate];lia
theorem d5o{CX:CXT}{P:Program}{w:World}{K:Frag}{mg:Str->Option Value}{base:Heap}{k:Nat}{f:Addr}{name qual:Str}{params:Arguments}{body:List Stmt}{scope:Scope}{dV kV doc pm cdv ct oc:Value}{an od:Option Addr}{osl:Array (Option Value)}{N ps:List Str}{sp:Sp}(lk:K.lookup f=some ⟨oc,od,.func (PySem.W.fnOf name qual params body scope dV kV doc pm an cdv ct),osl⟩)(hcd:codeIn K cdv qual=true)(S:i8 N ps scope)(len:∀vs H Q E,sp vs H Q E->vs.length=ps.length)(hbody:∀(A:Around) (outer:List Env) (s:Shared) (H:Hp) (vs:List V) (Q:VK) (E:XK),Room k (A.deeper (envOfC qual scope s.heap.objs.size f cdv))->sp vs H Q E ->
   ∃t,PSs (a8h CX P w K mg base N qual scope f cdv A outer s H E) body t/\t { nx:=λ_ H'=>Q .non H',rt:=Q } (start N vs) H):
  FnOk P w K mg base CX (k+1) f (PySem.W.fnOf name qual params body scope dV kV doc pm an cdv ct) ps sp:=by
 refine⟨len,λA outer s H args us vs Q E hr e0 hb r hsp=>?_⟩;have hl:=len _ _ _ _ hsp;have KX:K.In s.heap:=e0.mod.kin.keeps λb o e=>(e0.bs b o e).1;have lim:s.heap.NoLimit:=e0.mod.nolimit.keeps λb o e=>(e0.bs b o e).1;have hkind:∀y∈ps.zip us,scope.names.lookup y.1=some .local\/(scope.names.lookup y.1=some .cell/\((cellsFrom (s.heap.objs.size+1) scope.names []).lookup y.1).isSome=true):=λ⟨n,v⟩ hy=>by
  rcases S.par n (List.of_mem_zip hy).1 with q|q
  ·exact .inl q
  ·exact .inr ⟨q,PySem.W.cellsFrom_some _ _ _ (.inl q)⟩
 refine codeAny_call_function hr.depth (KX _ _ lk) rfl S.co S.gen rfl (PySem.W.codeRec_of KX hcd) (hb _ _ _ _ ?_);refine wpAny_newFunctionEnv_cells S.kind hkind λenv he s1 x=>?_;subst he;refine⟨lim.keeps x.toInCall.keep,codeAny_func ?_⟩;obtain⟨t,ht,hq⟩:=hbody A outer s H vs Q E (hr.deeper _) hsp;have I:Inv (a8h CX P w K mg base N qual scope f cdv A outer s H E) [] (start N vs) H s1:=c4t S hr.hd e0 hl r x;refine wpAny_mono (ht [] s1 (start N vs) H _ I hq) (λfl s' hs=>?_) λe s' hs=>hs;have fin:∀{σ':St}{H':Hp}{v:V}{u:Value},Inv (a8h CX P w K mg base N qual scope f cdv A outer s H E) [] σ' H' s'->RelV v u->Q v H'->CE outer P w H s Q u s' :=
  λ{σ' H' v u} J rv q=>⟨v,H',J.os,J.bare,J.base,J.hok,rv,q⟩
 cases fl with
 | ret u=>
  obtain⟨v,σ',H',J,rv,q⟩:=hs;exact fin J rv q
 | next=>
  obtain⟨σ',H',J,q⟩:=hs;exact fin (v:=V.non) (u:=Value.none) J rfl q
 | brk=>
  obtain⟨_,_,_,q⟩:=hs;exact False.elim q
 | cont=>
  obtain⟨_,_,_,q⟩:=hs;exact False.elim q
end L2
namespace L2
open PySem PySem.Spec PyProof.Rows
section
variable{X:Cx}{x:Str}{p pos:Pos}{e:Expr}{es:List Expr}{t:TA}{id T:String}{r:List V->Hp->VK->Prop}
def tCB(r:List V->Hp->VK->Prop)(t:TA):TE:=λσ H Q=>t σ H λvs H1=>r vs H1 Q
theorem j6(hc:a5z X (.builtin id) r)(hg:Gl X x)(hm:X.mg x=none)(hv:bootBuiltins x=some (.builtin id))(ha:PA X (e::es) t)(hn:x≠"__name__":=by decide)(hdb:(x == ("__debug__":Str))=false:=by decide)(he:starEach (e::es) X.env=(false,eval e X.env)::starEach es X.env:=by rfl)(hpl:(backTo pos (starEach es X.env)).any (·.1)=false:=by rfl):PE X (.Call (.Name x p) (e::es) [] pos) (tCB r t):=by
 intro pins s σ H Q I h;refine wpAny_Call_Name_kw (b4a I hg hm hv ?_ hn hdb);exact PyProof.Rows.callWith_builtin1 (thn (ha pos pins s σ H _ I h) λus s1 z0_=>by obtain⟨vs,H1,I1,r1,q1⟩:=z0_;exact hc pins s1 σ H1 vs us Q I1 r1 q1) he hpl
theorem l0(hc:a5z X (.type T) r)(hg:Gl X x)(hm:X.mg x=none)(hv:bootBuiltins x=some (.type T))(ha:PA X (e::es) t)(hn:x≠"__name__":=by decide)(hdb:(x == ("__debug__":Str))=false:=by decide)(he:starEach (e::es) X.env=(false,eval e X.env)::starEach es X.env:=by rfl)(hpl:(backTo pos (starEach es X.env)).any (·.1)=false:=by rfl):PE X (.Call (.Name x p) (e::es) [] pos) (tCB r t):=by
 intro pins s σ H Q I h;refine wpAny_Call_Name_kw (b4a I hg hm hv ?_ hn hdb);exact PyProof.Rows.callWith_type1 (thn (ha pos pins s σ H _ I h) λus s1 z0_=>by obtain⟨vs,H1,I1,r1,q1⟩:=z0_;exact hc pins s1 σ H1 vs us Q I1 r1 q1) he hpl
end
end L2
namespace HT
open PySem PyProof.Rows
section
open PySem.SeqAt
open PySem.AutoSeq1 (wpAny_loadPart')
open PySem.MeetsSeq PySem.MeetsSeq2 PySem.MeetsSeq3
end
section
variable{prog:Program}{w:World}{A:Around}{E:Value->Shared->Prop}{s:Shared}
theorem cat_tup{t b:Addr}{vs ws:List Value}{Q:Value->Shared->Prop}(ht:IsTup s.heap t vs.toArray)(hb:IsTup s.heap b ws.toArray)(hv:vs≠[])(h1:ws=[]->Q (.ref t) s)(h2:ws≠[]->Q (.ref s.heap.objs.size) { s with heap:=s.heap.push { cls:=.type "tuple",data:=.seq (vs++ws).toArray } })(hsz:vs.length+ws.length<=sizeLine):wpAny (model prog w) A (binaryOp .Add (.ref t) (.ref b)) Q E s:=by
 obtain⟨⟨cls,dd,data,sl⟩,ho,hc,n,hd⟩:=id ht;obtain⟨⟨cls2,dd2,data2,sl2⟩,ho2,hc2,n2,hd2⟩:=id hb;simp only at hc hd hc2 hd2;subst hc hd hc2 hd2;have e:vs.toArray++ws.toArray=(vs++ws).toArray:=by simp
 by_cases hw:ws=[]
 ·exact concat_meets ⟨_,ho,rfl⟩ ⟨_,ho2,rfl⟩ noFill_tuple_add seq_tuple_add PySem.F.slot_tuple_add PySem.F.entry_tuple_add (PySem.F.args_tuple_add_2 _ _)
   (tuple_addW1 t b vs.toArray ws.toArray n n2 dd dd2 sl sl2 (by simpa using hv) (by simp[hw])) ⟨ho,ho2,h1 hw⟩
 ·refine concat_meets ⟨_,ho,rfl⟩ ⟨_,ho2,rfl⟩ noFill_tuple_add seq_tuple_add PySem.F.slot_tuple_add PySem.F.entry_tuple_add (PySem.F.args_tuple_add_2 _ _)
   (tuple_addW2 t b vs.toArray ws.toArray n n2 dd dd2 sl sl2 (by simpa using hv) (by simpa using hw) (by rw[List.size_toArray,List.size_toArray];exact hsz)) ⟨ho,ho2,?_⟩
  rw[e];exact h2 hw
def sIx(n d:Nat):Option Int->Nat
 | none=>d
 | some v=>if v<0 then (v+(n:Int)).toNat else min v.toNat n
theorem sIx_none(n d:Nat):sIx n d none=d:=rfl
theorem sIx_nat(n d k:Nat):sIx n d (some (k:Int))=min k n:=by
 show(if (k:Int)<0 then ((k:Int)+(n:Int)).toNat else min (k:Int).toNat n)=min k n;rw[if_neg (by lia),Int.toNat_natCast]
theorem d1t(n d:Nat)(hd:d<=n)(o:Option Int):sIx n d o<=n:=by
 cases o with
 | none=>exact hd
 | some v=>
  show(if v<0 then (v+(n:Int)).toNat else min v.toNat n)<=n;by_cases hv:v<0
  ·rw[if_pos hv];lia
  ·rw[if_neg hv];exact Nat.min_le_right _ _
theorem c5n(v:Int)(n d:Nat):(if v<0 then max (v+(n:Int)) 0 else min v (n:Int))=((sIx n d (some v):Nat):Int):=by
 show(if v<0 then max (v+(n:Int)) 0 else min v (n:Int))=(((if v<0 then (v+(n:Int)).toNat else min v.toNat n):Nat):Int);by_cases hv:v<0
 ·simp only[if_pos hv];lia
 ·simp only[if_neg hv];lia
theorem c2w(lo hi:Option Int)(n:Nat):Builtin.Slice.sliceAdjust lo hi 1 (n:Int)=(((sIx n 0 lo:Nat):Int),((sIx n n hi:Nat):Int)):=by
 have h1:¬ ((1:Int)<0):=by lia
 unfold Builtin.Slice.sliceAdjust;simp only[h1,if_false];refine Prod.ext ?_ ?_
 ·cases lo with
  | none=>rfl
  | some v=>exact c5n v n 0
 ·cases hi with
  | none=>rfl
  | some v=>exact c5n v n n
theorem c2i(i j:Nat):Builtin.Slice.slicePlaces (i:Int) (j:Int) 1=j-i:=by
 unfold Builtin.Slice.slicePlaces;have h1:(1:Int) > 0:=by lia
 simp only[h1,if_true,Int.ediv_one];split <;> lia
theorem a4x{v:Value}{o:Option Int}{Q:Option Int->Shared->Prop}(p:IsPart v o)(h:Q o s):wpAny (model prog w) A (Builtin.Slice.slicePartIndex v) Q E s:=by
 cases p with
 | none=>exact slicePart_none h
 | int i t=>exact slicePart_int h
theorem a6f{sl:Addr}{vl vu:Value}{lo hi:Option Int}{n:Nat}{Q:Int×Int×Nat->Shared->Prop}(hs:s.heap.IsSliceOf sl vl vu .none)(pl:IsPart vl lo)(pu:IsPart vu hi)(h:Q (((sIx n 0 lo:Nat):Int),1,sIx n n hi-sIx n 0 lo) s):wpAny (model prog w) A (Builtin.Slice.sliceApplied (.ref sl) (pure (n:Int))) Q E s:=by
 obtain⟨os,hos,hcs,hds⟩:=id hs;unfold Builtin.Slice.sliceApplied Builtin.Slice.sliceFields;refine wpAny_bind (wpAny_bind (wpAny_field hos hds (x:=vl) rfl (wpAny_bind (wpAny_field hos hds (x:=vu) rfl (wpAny_bind (wpAny_field hos hds (x:=.none) rfl (wpAny_pure ?_)))))));refine wpAny_bind (slicePart_none ?_);show wpAny _ _ (if ((1:Int) == 0)=true then _ else _) _ _ s;rw[if_neg (by decide)]
 refine wpAny_bind (a4x pl (wpAny_bind (a4x pu (wpAny_bind (wpAny_pure ?_)))));show wpAny _ _ (match Builtin.Slice.sliceAdjust lo hi 1 (n:Int) with|(lo,hi)=>pure (lo,(1:Int),Builtin.Slice.slicePlaces lo hi 1)) _ _ s
 rw[c2w lo hi n];show wpAny _ _ (pure (((sIx n 0 lo:Nat):Int),(1:Int),Builtin.Slice.slicePlaces ((sIx n 0 lo:Nat):Int) ((sIx n n hi:Nat):Int) 1)) _ _ s;rw[c2i];exact wpAny_pure h
theorem c6p(xs:Array Value)(i k:Nat):((List.range k).filterMap λ(m:Nat)=>xs[((i:Int)+(m:Int)*1).toNat]?).toArray=((xs.toList.drop i).take k).toArray:=by
 have e:(λ(m:Nat)=>xs[((i:Int)+(m:Int)*1).toNat]?)=λm=>xs[i+m]?:=by
  funext m;have:((i:Int)+(m:Int)*1).toNat=i+m:=by lia
  rw[this]
 rw[e];have:=pick_run xs i k;rw[List.filterMap_map] at this;have e2:((λx=>xs[x]?) ∘ λx=>i+x)=λm=>xs[i+m]?:=rfl;rw[e2] at this;rw[this]
theorem getItem_tuple_cut{t sl:Addr}{items:Array Value}{vl vu:Value}{lo hi:Option Int}{Q:Value->Shared->Prop}(ht:IsTup s.heap t items)(hs:s.heap.IsSliceOf sl vl vu .none)(pl:IsPart vl lo)(pu:IsPart vu hi)(hw:¬ (sIx items.size 0 lo=0/\sIx items.size items.size hi=items.size))(h:Q (.ref s.heap.objs.size) { s with heap:=s.heap.push { cls:=.type "tuple",data:=.seq ((items.toList.drop (sIx items.size 0 lo)).take (sIx items.size items.size hi-sIx items.size 0 lo)).toArray } })(hsz:items.size<=sizeLine):wpAny (model prog w) A (getItem (.ref t) (.ref sl)) Q E s:=by
 have htake:sizeOk (.seq ((items.toList.drop (sIx items.size 0 lo)).take (sIx items.size items.size hi-sIx items.size 0 lo)).toArray):=by
  show((items.toList.drop (sIx items.size 0 lo)).take (sIx items.size items.size hi-sIx items.size 0 lo)).toArray.size<=sizeLine;rw[List.size_toArray,List.length_take,List.length_drop,Array.length_toList];lia
 have hj:sIx items.size items.size hi<=items.size:=d1t _ _ (Nat.le_refl _) hi;obtain⟨os,hos,hcs,hds⟩:=id hs;have hTs:s.TypeIs (.ref sl) "slice":=⟨os,hos,hcs⟩;unfold getItem
 try with_reducible refine wpAny_holding ?_
 first|refine wpAny_bind (wpAny_pure ?_)|skip
 refine wpAny_bind (wpAny_sequenceKey ht.typeIs (by decide) ?_)
 refine wpAny_bind (wpAny_callSpecial?_slot (name:=Str.ofString "__getitem__") ht.typeIs PyProof.Rows.slot_tuple_getitem
  (wpAny_call_entry PyProof.Rows.slot_tuple_getitem ht.typeIs entry_tuple_getitem ?_ (args_tuple_getitem _ _)))
 show wpAny _ _ (Builtin.Tuple.tupleItemsOf (.ref t) >>= _) _ _ s;refine wpAny_bind (tupleItemsOf_ ht ?_);refine wpAny_bind (wpAny_typeOf hTs ?_);rw[if_pos (by decide)]
 refine wpAny_bind (a6f hs pl pu ?_);have hno:¬ ((((sIx items.size 0 lo:Nat):Int) == 0 && (1:Int) == 1 && (sIx items.size items.size hi-sIx items.size 0 lo) == items.size)=true):=by
  intro q;rw[Bool.and_eq_true,Bool.and_eq_true] at q;have q1:((sIx items.size 0 lo:Nat):Int)=0:=eq_of_beq q.1.1;have q2:sIx items.size items.size hi-sIx items.size 0 lo=items.size:=eq_of_beq q.2;exact hw ⟨by lia,by lia⟩
 show wpAny _ _ (if (((sIx items.size 0 lo:Nat):Int) == 0 && (1:Int) == 1 && (sIx items.size items.size hi-sIx items.size 0 lo) == items.size)=true then _ else _) _ _ s;rw[if_neg hno,c6p]
 first
  | exact wpAny_bind (m:=Builtin.Tuple.tupleExact _) (wpAny_newObj_type (wpAny_pure ⟨_,rfl,wpAny_pure h⟩) htake)
  | exact wpAny_bind (m:=Builtin.Tuple.tupleExact _) (wpAny_newObj_type (wpAny_bind (wpAny_pure (wpAny_pure ⟨_,rfl,wpAny_pure h⟩))) htake)
  | exact wpAny_bind (wpAny_bind (m:=Builtin.Tuple.tupleExact _) (wpAny_newObj_type (wpAny_pure (wpAny_pure ⟨_,rfl,wpAny_pure h⟩)) htake))
  | exact wpAny_bind (wpAny_bind (m:=Builtin.Tuple.tupleExact _) (wpAny_newObj_type (wpAny_pure ⟨_,rfl,wpAny_pure h⟩) htake))
end
end HT
namespace L2
open PySem PySem.Spec PyProof.Rows
abbrev TO:=St->Hp->(Option Int->Hp->Prop)->Prop
def PO(X:Cx)(e:Option Expr)(t:TO):Prop :=
 ∀(pins:List (Addr×Obj))(s:Shared)(σ:St)(H:Hp)(Q:Option Int->Hp->Prop),Inv X pins σ H s->t σ H Q ->
  wpAny (model X.prog X.w) X.A (evalPart e X.env) (λu s'=>∃o H',Inv X pins σ H' s'/\IsPart u o/\Q o H') X.xe s
def c3e:TO:=λ_ H Q=>Q none H
def d1m(t:TE):TO:=λσ H Q=>t σ H λx H1=>∃i,x=.int i/\Q (some i) H1
section
variable{X:Cx}{e:Expr}{te:TE}{lo hi:Option Expr}{tl th:TO}{pos p2:Pos}
theorem a1d:PO X none c3e:=by
 intro pins s σ H Q I h;rw[evalPart_none];exact wpAny_pure ⟨none,H,I,.none,h⟩
theorem a0p(h:PE X e te):PO X (some e) (d1m te):=by
 intro pins s σ H Q I hw;rw[evalPart_some];refine thn (h pins s σ H _ I hw) λu s1 z0_=>?_;obtain⟨x,H1,I1,r1,q1⟩:=z0_;obtain⟨i,rfl,q⟩:=q1;obtain⟨t,rfl⟩:=r1;exact⟨some i,H1,I1,.int i t,q⟩
def SlR(X:Cx)(r:V->Option Int->Option Int->Hp->VK->Prop):Prop :=
 ∀(pins:List (Addr×Obj))(s:Shared)(σ:St)(H:Hp)(x:V)(v vl vu:Value)(lo hi:Option Int)(sl:Addr)(Q:VK),Inv X pins σ H s->RelV x v->s.heap.IsSliceOf sl vl vu .none->IsPart vl lo->IsPart vu hi->r x lo hi H Q ->
  ∃T id,typeLookup (.type T) "__getitem__" = pure (some (.builtin id))/\s.TypeIs v T/\wpAny (model X.prog X.w) X.A (getItem v (.ref sl)) (EP X pins σ Q) X.xe s
def tSl(r:V->Option Int->Option Int->Hp->VK->Prop)(te:TE)(tl th:TO):TE:=λσ H Q=>te σ H λx H1=>tl σ H1 λl H2=>th σ H2 λu H3=>r x l u H3 Q
theorem a0j{r:V->Option Int->Option Int->Hp->VK->Prop}(hr:SlR X r)(he:PE X e te)(hl:PO X lo tl)(hu:PO X hi th):PE X (.Subscript e (.Slice lo hi none p2) pos) (tSl r te tl th):=by
 intro pins s σ H Q I h;refine Subscript_ (thn (he pins s σ H _ I h) λv s1 z0_=>?_);obtain⟨x,H1,I1,r1,q1⟩:=z0_;refine wpAny_Slice (thn (hl pins s1 σ H1 _ I1 q1) λvl s2 z0_=>?_);obtain⟨l,H2,I2,pl,q2⟩:=z0_;refine thn (hu pins s2 σ H2 _ I2 q2) λvu s3 z1_=>?_;obtain⟨u,H3,I3,pu,q3⟩:=z1_;rw[evalPart_none];refine wpAny_pure ?_;have I4:Inv X pins σ H3 { s3 with heap:=s3.heap.push { cls:=.type "slice",data:=.fields #[vl,vu,.none] } }:=I3.kept (t':=s3.toks) λb ob q=>Heap.get?_push_of_some _ q
 obtain⟨T,id,hT,ht,hg⟩:=hr pins { s3 with heap:=s3.heap.push { cls:=.type "slice",data:=.fields #[vl,vu,.none] } } σ H3 x v vl vu l u s3.heap.objs.size Q I4 r1 (Heap.IsSliceOf.new ..) pl pu q3
 show wpAny (model X.prog X.w) X.A (subscriptTail e (.Slice lo hi none p2) v (.ref s3.heap.objs.size)) (EP X pins σ Q) X.xe { s3 with heap:=s3.heap.push { cls:=.type "slice",data:=.fields #[vl,vu,.none] } }
 exact tail_any (ops:=[.ref s3.heap.objs.size,v]) ht hT hg (by with_unfolding_all rfl)
def b5h(xs:List V)(lo hi:Option Int):List V:=(xs.drop (HT.sIx xs.length 0 lo)).take (HT.sIx xs.length xs.length hi-HT.sIx xs.length 0 lo)
theorem c0j(xs:List V)(lo hi:Option Int):(b5h xs lo hi).length<=xs.length:=by
 unfold b5h;rw[List.length_take,List.length_drop];lia
def d6e(K:Frag):V->Option Int->Option Int->Hp->VK->Prop:=λx lo hi H Q=>∃a xs,x=.ref a/\SqT K H a xs /\
 ¬ (HT.sIx xs.length 0 lo=0/\HT.sIx xs.length xs.length hi=xs.length)/\∀p,H p=none->Q (.ref p) (upd H p (.tup (b5h xs lo hi)))
theorem c7v:SlR X (d6e X.K):=by
 intro pins s σ H x v vl vu lo hi sl Q I rx hs pl pu h;obtain⟨a,xs,rfl,hx,hw,q⟩:=h;cases rx;obtain⟨its,r,ht,hz⟩:=I.tuple hx;have hlen:its.toArray.size=xs.length:=by rw[List.size_toArray];exact r.length.symm
 refine⟨"tuple",_,PyProof.Rows.slot_tuple_getitem.lookup,ht.typeIs,?_⟩;refine HT.getItem_tuple_cut ht hs pl pu (by rw[hlen];exact hw) ?_ (by rw[hlen];exact hz)
 rw[hlen];refine⟨.ref s.heap.objs.size,_,I.laid (t':=s.toks) (o:=.tup (b5h xs lo hi)) (λb ob q=>Heap.get?_push_of_some _ q) (Nat.le_refl _) ?_,rfl,q _ (I.hok.fresh (Nat.le_refl _))⟩;exact⟨Nat.le_trans (c0j xs lo hi) hz,_,(r.drop (HT.sIx xs.length 0 lo)).take (HT.sIx xs.length xs.length hi-HT.sIx xs.length 0 lo),IsTup.new _ _⟩
def d1x(K:Frag):R2:=λx y H Q=>∃a b xs ys,x=.ref a/\y=.ref b/\SqT K H a xs/\SqT K H b ys/\xs≠[]/\xs.length+ys.length<=sizeLine /\
 (ys=[]->Q (.ref a) H)/\(ys≠[]->∀p,H p=none->Q (.ref p) (upd H p (.tup (xs++ys))))
theorem Vals.nil_iff{xs:List V}{us:List Value}(r:Vals xs us):us=[] ↔ xs=[]:=by
 cases r with
 | nil=>simp
 | cons _ _=>simp
theorem c4g:OpR X (binaryOp .Add) (d1x X.K):=by
 intro pins s σ H x y v u Q I rx ry h;obtain⟨a,b,xs,ys,rfl,rfl,ha,hb,hx,hz,q1,q2⟩:=h;cases rx;cases ry;obtain⟨its,r1,p1,_⟩:=I.tuple ha;obtain⟨its2,r2,p2,_⟩:=I.tuple hb;refine HT.cat_tup p1 p2 (λz=>hx (r1.nil_iff.mp z)) (λz=>⟨.ref a,H,I,rfl,q1 (r2.nil_iff.mp z)⟩) (λz=>?_) (by rw[<- r1.length,<- r2.length];exact hz)
 refine⟨.ref s.heap.objs.size,_,I.laid (t':=s.toks) (o:=.tup (xs++ys)) (λb ob q=>Heap.get?_push_of_some _ q) (Nat.le_refl _) ?_,rfl,q2 (λw=>z (r2.nil_iff.mpr w)) _ (I.hok.fresh (Nat.le_refl _))⟩;exact⟨by rw[List.length_append];exact hz,_,r1.append r2,IsTup.new _ _⟩
end
end L2
namespace L2
open PySem PySem.Spec PyProof.Rows
def ixN(n:Nat)(i:Int):Option Nat:=if 0<=i then (if i<n then some i.toNat else none) else if -(n:Int)<=i then some (i+n).toNat else none
def atI{α:Type}(xs:List α)(i:Int):Option α:=(ixN xs.length i).bind λj=>xs[j]?
theorem c4r{n:Nat}{i:Int}{j:Nat}(h:ixN n i=some j):seqIndex? i n=some j/\j<n/\-(n:Int)<=i/\i<n:=by
 unfold ixN at h;by_cases h0:0<=i
 ·rw[if_pos h0] at h
  by_cases h1:i<n
  ·rw[if_pos h1] at h
   have e:i.toNat=j:=Option.some.inj h;exact⟨by rw[seqIndex_of h0 h1,e],by lia,by lia,h1⟩
  ·rw[if_neg h1] at h;cases h
 ·rw[if_neg h0] at h
  by_cases h1:-(n:Int)<=i
  ·rw[if_pos h1] at h
   have e:(i+n).toNat=j:=Option.some.inj h;exact⟨by rw[seqIndex_neg (by lia) h1,e],by lia,h1,by lia⟩
  ·rw[if_neg h1] at h;cases h
theorem c5u{α:Type}{xs:List α}{i:Int}{v:α}(h:atI xs i=some v):∃j,seqIndex? i xs.length=some j/\xs[j]?=some v/\j<xs.length/\-(xs.length:Int)<=i/\i<xs.length:=by
 unfold atI at h;cases e:ixN xs.length i with
 | none=>rw[e] at h;cases h
 | some j=>
  rw[e] at h;obtain⟨h1,h2,h3,h4⟩:=c4r e;exact⟨j,h1,h,h2,h3,h4⟩
def d0x(b:Expr):Prop:=∀o i,subscripted b false o i=operate [o,i] (getItem o i)
def IxR(X:Cx)(r:R2):Prop :=
 ∀(value slice:Expr)(pins:List (Addr×Obj))(s:Shared)(σ:St)(H:Hp)(x y:V)(v u:Value)(Q:VK),Inv X pins σ H s->RelV x v->RelV y u->r x y H Q ->
  subscripted slice false v u=operate [v,u] (getItem v u)->wpAny (model X.prog X.w) X.A (subscriptTail value slice v u) (EP X pins σ Q) X.xe s
def MtR(X:Cx)(id:String)(r:V->List V->Hp->VK->Prop):Prop :=
 ∀(pins:List (Addr×Obj))(s:Shared)(σ:St)(H:Hp)(x:V)(xs:List V)(v:Value)(us:List Value)(Q:VK),Inv X pins σ H s->RelV x v->Vals xs us->r x xs H Q ->
  wpAny (model X.prog X.w) X.A (call (.builtin id) (v::us)) (EP X pins σ Q) X.xe s
section
variable{X:Cx}{a b:Expr}{ta tb:TE}{pos:Pos}
theorem x9{r:R2}(hr:IxR X r)(ha:PE X a ta)(hb:PE X b tb)(hs:d0x b):PE X (.Subscript a b pos) (tOp r ta tb):=by
 intro pins s σ H Q I h;exact Subscript_ (d5s ha hb I h λv u s2 x y H2 I2 rx ry q=>hr a b pins s2 σ H2 x y v u Q I2 rx ry q (hs _ _))
def d4k(K:Frag):R2:=λx y H Q=>∃p xs i v,x=.ref p/\y=.int i/\SqL K H p xs/\atI xs i=some v/\Q v H
def d4j(K:Frag):R2:=λx y H Q=>∃p xs i v,x=.ref p/\y=.int i/\SqT K H p xs/\atI xs i=some v/\Q v H
theorem c9y:IxR X (d4k X.K):=by
 intro value slice pins s σ H x y v u Q I rx ry h hs;obtain⟨p,xs,i,z,rfl,rfl,hq,he,q⟩:=h;cases rx;obtain⟨t,rfl⟩:=ry;obtain⟨its,r,pl,hz⟩:=I.list hq;obtain⟨j,h1,h2,h3,h4,h5⟩:=c5u he;obtain⟨w,ew,rw'⟩:=r.get h2;have hl:=r.length;have hn:=c1h;have fin:EP X pins σ Q w s:=⟨z,H,I,rw',q⟩;by_cases h0:0<=i
 ·have hj:i.toNat=j:=by
   rw[seqIndex_of h0 h5] at h1;exact Option.some.inj h1
  exact item_listR pl.isList h0 (by lia) (by rw[hj];simpa using ew) fin hs
 ·have hj:(i+(its.toArray.size:Int)).toNat=j:=by
   rw[seqIndex_neg (by lia) h4] at h1
   rw[List.size_toArray,<- hl];exact Option.some.inj h1
  exact subscriptTail_builtinR (x:=w) pl.isList.typeIs slot_list_getitem.lookup
   (wpAny_getItem_list_neg (Q:=λr s'=>r=w/\EP X pins σ Q r s') pl.isList (by lia) (by rw[List.size_toArray] <;> lia) (by lia) (by rw[hj];simpa using ew) ⟨rfl,fin⟩) hs
theorem d2n:IxR X (d4j X.K):=by
 intro value slice pins s σ H x y v u Q I rx ry h hs;obtain⟨p,xs,i,z,rfl,rfl,hq,he,q⟩:=h;cases rx;obtain⟨t,rfl⟩:=ry;obtain⟨its,r,pl,hz⟩:=I.tuple hq;obtain⟨j,h1,h2,h3,h4,h5⟩:=c5u he;obtain⟨w,ew,rw'⟩:=r.get h2;have hl:=r.length;have hn:=c1h;have fin:EP X pins σ Q w s:=⟨z,H,I,rw',q⟩;exact subscriptTail_builtinR (x:=w) pl.typeIs slot_tuple_getitem.lookup
  (getItem_tuple (j:=j) (Q:=λr s'=>r=w/\EP X pins σ Q r s') pl (by lia) (by lia) (by rw[List.size_toArray,<- hl];exact h1) (by simpa using ew) ⟨rfl,fin⟩) hs
theorem c2o(its:List Value)(n j:Nat)(u:Value):Obj.mapSeq (·.setIfInBounds j u) { cls:=.type "list",data:=.seq its.toArray n }={ cls:=.type "list",data:=.seq (its.set j u).toArray n }:=by
 simp[Obj.mapSeq]
theorem Inv.lst{pins:List (Addr×Obj)}{σ:St}{H:Hp}{s:Shared}{p:Addr}{xs:List V}(I:Inv X pins σ H s)(h:H p=some (.lst xs)):
  ∃(its:List Value)(n:Nat),Vals xs its/\s.heap.get? p=some { cls:=.type "list",data:=.seq its.toArray n }/\xs.length<=sizeLine:=by
 obtain⟨z,its,n,r,e⟩:=I.hok p _ h;exact⟨its,n,r,e,z⟩
theorem Inv.lstUpd{pins:List (Addr×Obj)}{σ:St}{H:Hp}{s:Shared}{p:Addr}{xs ys:List V}{its its':List Value}{n n':Nat}{f:Obj->Obj}(I:Inv X pins σ H s)(h:H p=some (.lst xs))(ho:s.heap.get? p=some { cls:=.type "list",data:=.seq its.toArray n })(hf:f { cls:=.type "list",data:=.seq its.toArray n }={ cls:=.type "list",data:=.seq its'.toArray n' })(r:Vals ys its')(hz:ys.length<=sizeLine)(t:Nat):
  Inv X pins σ (upd H p (.lst ys)) { s with heap:=s.heap.update p f,toks:=t }:=by
 have e:(s.heap.update p f).get? p=some { cls:=.type "list",data:=.seq its'.toArray n' }:=by
  rw[Heap.get?_update_self f ho (by rw[hf] <;> rfl),hf]
 refine I.write (x:=p) (e:=p) (by rw[h];trivial) (.inl rfl) (λb u hb q=>(Heap.get?_update_other _ _ (Ne.symm hb)).trans q) ⟨_,e⟩ ?_
 exact⟨hz,its',n',r,e⟩
def d1u:V->V->V->Hp->(Hp->Prop)->Prop:=λo i v H Q=>∃p xs k j,o=.ref p/\i=.int k/\H p=some (.lst xs)/\ixN xs.length k=some j/\Q (upd H p (.lst (xs.set j v)))
theorem a9w:d6q X d1u:=by
 intro pins s σ H o i v ov iv u Q I ro ri rv h;obtain⟨p,xs,k,j,rfl,rfl,hp,hj,q⟩:=h;cases ro;obtain⟨t,rfl⟩:=ri;obtain⟨its,n,r,ho,hz⟩:=I.lst hp;obtain⟨h1,h2,h3,h4⟩:=c4r hj;have hl:=r.length;have hn:=c1h;have I':Inv X pins σ (upd H p (.lst (xs.set j v))) { s with heap:=s.heap.update p (Obj.mapSeq (·.setIfInBounds j u)) } :=
  I.lstUpd hp ho (c2o its n j u) (r.set rv j) (by rw[List.length_set];exact hz) s.toks
 by_cases h0:0<=k
 ·have hk:k.toNat=j:=by
   rw[seqIndex_of h0 h4] at h1;exact Option.some.inj h1
  exact PySem.W.ki_setAt ho h0 (by lia) (by rw[List.size_toArray,<- hl];exact h4) (by rw[hk];exact⟨_,I',q⟩)
 ·have hk:(k+(its.toArray.size:Int)).toNat=j:=by
   rw[seqIndex_neg (by lia) h3] at h1
   rw[List.size_toArray,<- hl];exact Option.some.inj h1
  exact PySem.W.ki_setBack ho (by lia) (by rw[List.size_toArray,<- hl];exact h3) (by lia) (by rw[hk];exact⟨_,I',q⟩)
def a8g:V->Bool
 | .non=>true
 | .bl _=>true
 | .int _=>true
 | .str _=>true
 | _=>false
def eqV:V->V->Bool
 | .non,.non=>true
 | .bl a,.bl b=>a == b
 | .bl a,.int b=>(if a then 1 else 0) == b
 | .int a,.bl b=>a == (if b then 1 else 0)
 | .int a,.int b=>a == b
 | .str a,.str b=>a == b
 | _,_=>false
theorem c8o{A:Around}{s:Shared}{y x:V}{u v:Value}(ry:RelV y u)(rx:RelV x v)(fy:a8g y=true)(fx:a8g x=true):SeqAt.EqAt A s u v (eqV y x):=by
 cases y with
 | non=>
  cases ry;cases x with
  | non=>cases rx;exact SeqAt.EqAt.same _
  | bl b=>cases rx;exact SeqAt.EqAt.none_bool b
  | int b=>obtain⟨t,rfl⟩:=rx;exact SeqAt.EqAt.none_int b t
  | str b=>obtain⟨t,rfl⟩:=rx;exact SeqAt.EqAt.none_str b t
  | _=>exact absurd (show false=true from fx) Bool.false_ne_true
 | bl a=>
  cases ry;cases x with
  | non=>cases rx;exact SeqAt.EqAt.bool_none a
  | bl b=>cases rx;exact SeqAt.EqAt.bool_bool a b
  | int b=>obtain⟨t,rfl⟩:=rx;exact SeqAt.EqAt.bool_int a b t
  | str b=>obtain⟨t,rfl⟩:=rx;exact SeqAt.EqAt.bool_str a b t
  | _=>exact absurd (show false=true from fx) Bool.false_ne_true
 | int a=>
  obtain⟨t',rfl⟩:=ry;cases x with
  | non=>cases rx;exact SeqAt.EqAt.int_none a t'
  | bl b=>cases rx;exact SeqAt.EqAt.int_bool a t' b
  | int b=>obtain⟨t,rfl⟩:=rx;exact SeqAt.EqAt.int_int a t' b t
  | str b=>obtain⟨t,rfl⟩:=rx;exact SeqAt.EqAt.int_str a t' b t
  | _=>exact absurd (show false=true from fx) Bool.false_ne_true
 | str a=>
  obtain⟨t',rfl⟩:=ry;cases x with
  | non=>cases rx;exact SeqAt.EqAt.str_none a t'
  | bl b=>cases rx;exact SeqAt.EqAt.str_bool a t' b
  | int b=>obtain⟨t,rfl⟩:=rx;exact SeqAt.EqAt.str_int a t' b t
  | str b=>obtain⟨t,rfl⟩:=rx;exact SeqAt.EqAt.str_str a t' b t
  | _=>exact absurd (show false=true from fx) Bool.false_ne_true
 | _=>exact absurd (show false=true from fy) Bool.false_ne_true
def eqU(x:V)(u:Value):Bool:=match u with
 | .none=>eqV .non x
 | .bool b=>eqV (.bl b) x
 | .int i _=>eqV (.int i) x
 | .str z _=>eqV (.str z) x
 | _=>false
theorem c1u{x y:V}{u:Value}(r:RelV y u)(f:a8g y=true):eqU x u=eqV y x:=by
 cases y with
 | non=>cases r;rfl
 | bl b=>cases r;rfl
 | int i=>obtain⟨t,rfl⟩:=r;rfl
 | str z=>obtain⟨t,rfl⟩:=r;rfl
 | _=>exact absurd (show false=true from f) Bool.false_ne_true
theorem b4i{x:V}:∀{xs:List V}{us:List Value},Vals xs us->xs.all a8g=true->us.any (eqU x)=xs.any λy=>eqV y x
 | _,_,.nil,_=>rfl
 | y::xs,u::us,.cons r t,f=>by
  rw[List.all_cons,Bool.and_eq_true] at f;rw[List.any_cons,List.any_cons,c1u r f.1,b4i t f.2]
theorem a8e{A:Around}{s:Shared}{x:V}{v:Value}(rx:RelV x v)(fx:a8g x=true):∀{xs:List V}{us:List Value},Vals xs us->xs.all a8g=true->∀u∈us,SeqAt.EqAt A s u v (eqU x u)
 | _,_,.nil,_=>λu hu=>by cases hu
 | y::xs,u::us,.cons r t,f=>λu' hu=>by
  rw[List.all_cons,Bool.and_eq_true] at f;rcases List.mem_cons.mp hu with rfl|hu
  ·rw[c1u r f.1];exact c8o r rx f.1 fx
  ·exact a8e rx fx t f.2 u' hu
def inV(x:V)(xs:List V):Bool:=xs.any λy=>eqV y x
def rIn(K:Frag)(neg:Bool):R2:=λx y H Q=>∃p xs,y=.ref p/\(SqL K H p xs\/SqT K H p xs)/\a8g x=true/\xs.all a8g=true/\Q (.bl (if neg then !inV x xs else inV x xs)) H
theorem c4f:OpR X (compareOp .In) (rIn X.K false):=by
 intro pins s σ H x y v u Q I rx ry h;obtain⟨p,xs,rfl,hq,fx,fs,q⟩:=h;cases ry;rcases hq with hq|hq
 ·obtain⟨its,r,pl,hz⟩:=I.list hq
  refine SeqAt.in_listAt (eqU x) pl.isList (λw hw=>a8e rx fx r fs w (by simpa using hw)) ⟨.bl _,H,I,rfl,?_⟩
  rw[show its.toArray.any (eqU x)=its.any (eqU x) by simp,b4i r fs]
  exact q
 ·obtain⟨its,r,pl,hz⟩:=I.tuple hq
  refine SeqAt.in_tupleAt (eqU x) pl (λw hw=>a8e rx fx r fs w (by simpa using hw)) ⟨.bl _,H,I,rfl,?_⟩
  rw[show its.toArray.any (eqU x)=its.any (eqU x) by simp,b4i r fs]
  exact q
theorem b8c:OpR X (compareOp .NotIn) (rIn X.K true):=by
 intro pins s σ H x y v u Q I rx ry h;obtain⟨p,xs,rfl,hq,fx,fs,q⟩:=h;cases ry;rcases hq with hq|hq
 ·obtain⟨its,r,pl,hz⟩:=I.list hq
  refine SeqAt.notIn_listAt (eqU x) pl.isList (λw hw=>a8e rx fx r fs w (by simpa using hw)) ⟨.bl _,H,I,rfl,?_⟩
  rw[show its.toArray.any (eqU x)=its.any (eqU x) by simp,b4i r fs]
  exact q
 ·obtain⟨its,r,pl,hz⟩:=I.tuple hq
  refine SeqAt.notIn_tupleAt (eqU x) pl (λw hw=>a8e rx fx r fs w (by simpa using hw)) ⟨.bl _,H,I,rfl,?_⟩
  rw[show its.toArray.any (eqU x)=its.any (eqU x) by simp,b4i r fs]
  exact q
theorem b9k:a5z X (.builtin "len") (λxs H Q=>∃p ys,xs=[.ref p]/\(SqL X.K H p ys\/SqT X.K H p ys)/\Q (.int ys.length) H):=by
 intro pins s σ H xs us Q I r h;obtain⟨p,ys,rfl,hq,q⟩:=h;obtain⟨u,rfl,rx⟩:=b7f r;cases rx;have hn:=c1h;rcases hq with hq|hq
 ·obtain⟨its,r',pl,hz⟩:=I.list hq
  have hlen:=r'.length;exact Calls.call_len_list pl.isList (by simp only[List.size_toArray] <;> lia) ⟨.int ys.length,H,I.tok _,⟨s.toks+1,by rw[List.size_toArray,hlen]⟩,q⟩
 ·obtain⟨its,r',pl,hz⟩:=I.tuple hq
  have hlen:=r'.length;exact len_tuple pl (by simp only[List.size_toArray] <;> lia) ⟨.int ys.length,H,I.tok _,⟨s.toks+1,by rw[List.size_toArray,hlen]⟩,q⟩
theorem b9j:a5z X (.type "list") (λxs H Q=>∃p ys,xs=[.ref p]/\(SqL X.K H p ys\/SqT X.K H p ys)/\∀l,H l=none->Q (.ref l) (upd H l (.lst ys))):=by
 intro pins s σ H xs us Q I r h;obtain⟨p,ys,rfl,hq,q⟩:=h;obtain⟨u,rfl,rx⟩:=b7f r;cases rx;have fin:∀(its:List Value),Vals ys its->ys.length<=sizeLine->∀(h':Heap)(c':Nat),(∀b o',s.heap.get? b=some o'->h'.get? b=some o') ->
   h'.get? s.heap.objs.size=some { cls:=.type "list",dict:=none,data:=.seq its.toArray c',slots:=#[] }->EP X pins σ Q (.ref s.heap.objs.size) { s with heap:=h' }:=λits r' hz h' c' kp e=>
  ⟨.ref s.heap.objs.size,_,I.laid (t':=s.toks) kp (Nat.le_refl _) (show ObjOk X.prog X.w _ h' _ (.lst ys) from⟨hz,its,c',r',e⟩),rfl,q _ (I.hok.fresh (Nat.le_refl _))⟩
 rcases hq with hq|hq
 ·obtain⟨its,r',pl,hz⟩:=I.list hq
  have hlen:=r'.length;obtain⟨o,ho,hc,n,hd⟩:=pl.isList;exact call_list_seq p (.inl rfl) ho hc hd (λh' c' kp e=>fin its r' hz h' c' kp e) (by simp only[List.size_toArray] <;> lia)
 ·obtain⟨its,r',pl,hz⟩:=I.tuple hq
  have hlen:=r'.length;obtain⟨o,ho,hc,n,hd⟩:=pl;exact call_list_seq p (.inr rfl) ho hc hd (λh' c' kp e=>fin its r' hz h' c' kp e) (by simp only[List.size_toArray] <;> lia)
theorem b7c:a5z X (.type "tuple") (λxs H Q=>∃p ys,xs=[.ref p]/\((SqL X.K H p ys/\∀l,H l=none->Q (.ref l) (upd H l (.tup ys)))\/(SqT X.K H p ys/\Q (.ref p) H))):=by
 intro pins s σ H xs us Q I r h;obtain⟨p,ys,rfl,h⟩:=h;obtain⟨u,rfl,rx⟩:=b7f r;cases rx;rcases h with ⟨hq,q⟩|⟨hq,q⟩
 ·obtain⟨its,r',pl,hz⟩:=I.list hq
  have hlen:=r'.length;refine call_tuple_list pl.isList (λh' kp=>?_) (by simp only[List.size_toArray] <;> lia)
  have I1:Inv X pins σ H { s with heap:=h' }:=I.kept (t':=s.toks) kp
  have I2:Inv X pins σ (upd H h'.objs.size (.tup ys)) { s with heap:=h'.push { cls:=.type "tuple",data:=.seq its.toArray } } :=
   I1.laid (t':=s.toks) (λb o e=>Heap.get?_push_of_some _ e) (Nat.le_refl _) (show ObjOk X.prog X.w _ _ _ (.tup ys) from⟨hz,its,r',IsTup.new _ _⟩)
  exact⟨.ref h'.objs.size,_,I2,rfl,q _ (I1.hok.fresh (Nat.le_refl _))⟩
 ·obtain⟨its,r',pl,hz⟩:=I.tuple hq
  exact call_tuple_same pl ⟨.ref p,H,I,rfl,q⟩
def tyV(K:Frag)(T:String)(x:V)(H:Hp):Prop:=match x with
 | .str _=>T="str"
 | .int _=>T="int"
 | .ref p=>(T="list"/\∃xs,SqL K H p xs)\/(T="tuple"/\∃o,K.lookup p=some o/\o.cls=.type "tuple"/\o.dict=none) \/
   (T="dict"/\((∃kvs,H p=some (.dK kvs)) \/ ∃kvs,H p=some (.dT kvs)))\/(T="set"/\∃S n,H p=some (.set S n))
 | _=>False
theorem d1i{pins:List (Addr×Obj)}{σ:St}{H:Hp}{s:Shared}{T:String}{x:V}{v:Value}(I:Inv X pins σ H s)(r:RelV x v)(ty:tyV X.K T x H):
  s.TypeIs v T/\∀a,v=.ref a->∃ob,s.heap.get? a=some ob/\ob.dict=none:=by
 cases x with
 | str z=>
  obtain⟨t,rfl⟩:=r;cases (show T="str" from ty);exact⟨typeIs_str s z t,λ_ e=>nomatch e⟩
 | int i=>
  obtain⟨t,rfl⟩:=r;cases (show T="int" from ty);exact⟨typeIs_int s i t,λ_ e=>nomatch e⟩
 | ref p=>
  cases r;rcases ty with ⟨rfl,xs,hq⟩|⟨rfl,o,hk,hc,hd⟩|⟨rfl,hk⟩|⟨rfl,S,n,hk⟩
  ·obtain⟨its,_,pl,_⟩:=I.list hq
   refine⟨pl.isList.typeIs,λa e=>?_⟩;cases e;obtain⟨o,n,e,c,hd,_⟩:=pl;exact⟨o,e,hd⟩
  ·refine⟨⟨o,I.kIn p o hk,hc⟩,λa e=>?_⟩
   cases e;exact⟨o,I.kIn _ o hk,hd⟩
  ·have z:∃o,s.heap.get? p=some o/\o.ExactDict:=by
    rcases hk with ⟨kvs,hk⟩|⟨kvs,hk⟩
    ·obtain⟨_,_,_,_,o,_,_,e,ex,_⟩:=I.hok p _ hk
     exact⟨o,e,ex⟩
    ·obtain⟨_,_,_,_,o,_,_,e,ex,_⟩:=I.hok p _ hk
     exact⟨o,e,ex⟩
   obtain⟨o,e,ex⟩:=z;refine⟨⟨o,e,ex.1⟩,λa e2=>?_⟩;cases e2;exact⟨o,e,ex.2.1⟩
  ·obtain⟨o,_,_,_,e,ex,_⟩:=I.hok p _ hk
   refine⟨⟨o,e,ex.1⟩,λa e2=>?_⟩;cases e2;exact⟨o,e,ex.2.1⟩
 | _=>exact False.elim ty
def tBM(K:Frag)(T:String)(r:V->List V->Hp->VK->Prop)(to:TE)(t:TA):TE:=λσ H Q=>to σ H λx H1=>tyV K T x H1/\t σ H1 λxs H2=>r x xs H2 Q
variable{o e:Expr}{es:List Expr}{to:TE}{t:TA}{name:Str}{apos cpos:Pos}{T id:String}{r:V->List V->Hp->VK->Prop}
theorem c9p(pa:PlainAttrs T)(slot:Slot T name id)(hty:typeOf (.builtin id)=pure (.type "method_descriptor"))(hm:MtR X id r)(ho:PE X o to)(ha:PA X (e::es) t)(hbase:attributeBase o name X.env (eval o X.env)=eval o X.env:=by rfl)(hfew:((backTo cpos (starEach (e::es) X.env)).all (λx=>!x.1) && (backToKw cpos (keywordEach [] X.env)).all (λx=>x.1.isSome)
   && decide ((e::es).length+([]:List Keyword).length+(if ([]:List Keyword).isEmpty then 0 else 1)<30))=true:=by rfl)(hline:(apos.endLine == cpos.line)=true:=by rfl)(hs:starEach (e::es) X.env=(false,eval e X.env)::starEach es X.env:=by rfl)(hplain:(backTo cpos (starEach es X.env)).any (·.1)=false:=by rfl):
  PE X (.Call (.Attribute o name apos) (e::es) [] cpos) (tBM X.K T r to t):=by
 intro pins s σ H Q I h;refine wpAny_Call_method_late hbase hfew hline rfl (thn (ho pins s σ H _ I h) λv s1 z0_=>?_);obtain⟨x,H1,I1,r1,ty,q1⟩:=z0_;obtain⟨h1,h2⟩:=d1i I1 r1 ty;refine⟨T,id,pa,slot,hty,h1,h2,?_⟩;have hA:=ha cpos pins s1 σ H1 _ I1 q1;rw[hs] at hA ⊢;refine Calls.callWith_builtin (by show(false || (backTo cpos (starEach es X.env)).any (·.1))=false;rw[hplain] <;> rfl) (Calls.evalArgs_plain ?_)
 exact thn hA λus s2 z0_=>by obtain⟨vs,H2,I2,r2,q2⟩:=z0_;exact hm pins s2 σ H2 x vs v us Q I2 r1 r2 q2
end
end L2
namespace L2
open PySem PySem.Spec PyProof.Rows
def MtM(X:Cx)(id:String)(r:V->List V->Hp->VK->Prop):Prop :=
 ∀(pins:List (Addr×Obj))(s:Shared)(σ:St)(H:Hp)(x:V)(xs:List V)(v:Value)(us:List Value)(Q:VK),Inv X pins σ H s->RelV x v->Vals xs us->r x xs H Q ->
  wpAny (model X.prog X.w) X.A (call (.builtin id) (v::us)) (EP X pins σ Q) X.xe s
theorem Vals.one{x:V}{us:List Value}(h:Vals [x] us):∃u,us=[u]/\RelV x u:=by
 cases h with|cons r t=>cases t;exact⟨_,rfl,r⟩
theorem Vals.two{x y:V}{us:List Value}(h:Vals [x,y] us):∃u v,us=[u,v]/\RelV x u/\RelV y v:=by
 cases h with|cons r t=>cases t with|cons q t=>cases t;exact⟨_,_,rfl,r,q⟩
theorem Vals.rep{xs:List V}{us:List Value}(h:Vals xs us):∀k:Nat,Vals (List.replicate k xs).flatten (List.replicate k us).flatten
 | 0=>.nil
 | k+1=>by
  rw[List.replicate_succ,List.replicate_succ,List.flatten_cons,List.flatten_cons];exact Vals.append h (Vals.rep h k)
theorem b4e(its:List Value):∀(k:Nat)(acc:List Value),
  List.foldl (λx1 x2=>x1++x2) acc.toArray (List.replicate k its.toArray)=(acc++(List.replicate k its).flatten).toArray
 | 0,acc=>by simp
 | k+1,acc=>by
  have e:acc.toArray++its.toArray=(acc++its).toArray:=by simp
  have e2:(acc++its)++(List.replicate k its).flatten=acc++(List.replicate (k+1) its).flatten:=by
   rw[List.replicate_succ,List.flatten_cons,List.append_assoc]
  rw[<- e2,<- b4e its k (acc++its),<- e,List.replicate_succ,List.foldl_cons]
section
variable{X:Cx}{pins:List (Addr×Obj)}{σ:St}{H:Hp}{s:Shared}{l b:Addr}{xs ys zs:List V}
theorem Inv.lset{its its':List Value}{n:Nat}{f:Array Value->Array Value}{t':Nat}(I:Inv X pins σ H s)(hH:H l=some (.lst xs))(e:s.heap.get? l=some { cls:=.type "list",data:=.seq its.toArray n })(hf:f its.toArray=its'.toArray)(hv:Vals ys its')(hz:ys.length<=sizeLine):
  Inv X pins σ (upd H l (.lst ys)) { s with heap:=s.heap.update l (Obj.mapSeq f),toks:=t' }:=by
 have q:=PySem.IsL.update e f;rw[hf] at q;refine I.write (x:=l) (e:=l) (by rw[hH];exact trivial) (.inl rfl) (λb' u hb hu=>(Heap.get?_update_other s.heap (Obj.mapSeq f) (Ne.symm hb)).trans hu) ⟨_,q⟩ ?_
 exact⟨hz,its',_,hv,q⟩
theorem Inv.lnew{its:List Value}{t':Nat}(I:Inv X pins σ H s)(hv:Vals ys its)(hz:ys.length<=sizeLine):
  Inv X pins σ (upd H s.heap.objs.size (.lst ys)) { s with heap:=s.heap.push { cls:=.type "list",data:=.seq its.toArray },toks:=t' } :=
 I.laid (λ_ _ q=>Heap.get?_push_of_some _ q) (Nat.le_refl _) ⟨hz,its,0,hv,Heap.get?_push_size _ rfl⟩
theorem Inv.fresh(I:Inv X pins σ H s):H s.heap.objs.size=none:=I.hok.fresh (Nat.le_refl _)
theorem Inv.lstM(I:Inv X pins σ H s)(hH:H l=some (.lst xs)):xs.length<=sizeLine/\∃(its:List Value)(n:Nat),Vals xs its/\xs.length=its.length/\s.heap.get? l=some { cls:=.type "list",data:=.seq its.toArray n }:=by
 obtain⟨z,its,n,r,e⟩:=I.hok l _ hH;exact⟨z,its,n,r,r.length,e⟩
theorem c1g{n:Nat}(h:n<=sizeLine):Builtin.List.listTooLong n=false:=by
 unfold Builtin.List.listTooLong;exact decide_eq_false (by lia)
end
section
variable{X:Cx}
def b6c:V->List V->Hp->VK->Prop:=λx vs H Q=>∃l xs y,x=.ref l/\vs=[y]/\H l=some (.lst xs)/\xs.length<sizeLine/\Q .non (upd H l (.lst (xs++[y])))
theorem b3u:MtM X "list.append" b6c:=by
 intro pins s σ H x vs v us Q I rx rv h;obtain⟨l,xs,y,rfl,rfl,hH,hz,q⟩:=h;cases rx;obtain⟨u,rfl,ru⟩:=rv.one;obtain⟨z,its,n,r,hl,e⟩:=I.lstM hH;refine call_meets F.slot_list_append ⟨_,e,rfl⟩ F.entry_list_append (F.args_list_append_2 _ _) (PySem.list_append l its.toArray n u (by rw[List.size_toArray];lia)) ⟨e,?_⟩
 refine⟨.non,_,I.lset (its':=its++[u]) hH e (by simp) (r.append (.cons ru .nil)) ?_,rfl,q⟩
 rw[List.length_append,List.length_singleton];lia
def d4l:R2:=λx y H Q=>∃l b xs zs,x=.ref l/\y=.ref b/\H l=some (.lst xs)/\H b=some (.lst zs)/\xs.length+zs.length<=sizeLine/\∀p,H p=none->Q (.ref p) (upd H p (.lst (xs++zs)))
theorem a4f:OpR X (binaryOp .Add) d4l:=by
 intro pins s σ H x y v u Q I rx ry h;obtain⟨l,b,xs,zs,rfl,rfl,hH,hB,hz,q⟩:=h;cases rx;cases ry;obtain⟨z,its,n,r,hl,e⟩:=I.lstM hH;obtain⟨z2,its2,n2,r2,hl2,e2⟩:=I.lstM hB;refine PySem.P.add_list e e2 ?_ (by rw[List.size_toArray,List.size_toArray];lia)
 have ea:its.toArray++its2.toArray=(its++its2).toArray:=by simp
 rw[ea];exact⟨.ref _,_,I.lnew (t':=s.toks) (r.append r2) (by rw[List.length_append];lia),rfl,q _ I.fresh⟩
def d6w:R2:=λx y H Q=>∃l k xs,x=.ref l/\y=.int k/\H l=some (.lst xs)/\-(2 ^ 63)<=k/\k<2 ^ 63/\xs.length*k.toNat<=sizeLine /\
 ∀p,H p=none->Q (.ref p) (upd H p (.lst (List.replicate k.toNat xs).flatten))
theorem b3y{α:Type}(xs:List α)(k:Nat):(List.replicate k xs).flatten.length=k*xs.length:=by
 induction k with
 | zero=>simp
 | succ k ih=>rw[List.replicate_succ,List.flatten_cons,List.length_append,ih,Nat.succ_mul,Nat.add_comm]
theorem c8b:OpR X (binaryOp .Mult) d6w:=by
 intro pins s σ H x y v u Q I rx ry h;obtain⟨l,k,xs,rfl,rfl,hH,h1,h2,hz,q⟩:=h;cases rx;obtain⟨t,rfl⟩:=ry;obtain⟨z,its,n,r,hl,e⟩:=I.lstM hH;have hlen:its.toArray.size*k.toNat<=sizeLine:=by rw[List.size_toArray,<- hl];exact hz
 have hcap:¬ its.toArray.size*k.toNat > (2 ^ 63-1) / 8:=by
  have:(sizeLine:Nat)<=(2 ^ 63-1) / 8:=by decide
  lia
 have hfit:¬ (!Builtin.List.listFitsIndex k)=true:=by
  rw[fitsIndex_both h1 h2];exact Bool.false_ne_true
 have hlong:¬ Builtin.List.listTooLong (its.toArray.size*k.toNat)=true:=by
  rw[c1g hlen];exact Bool.false_ne_true
 have hnew:List.foldl (λx1 x2=>x1++x2) #[] (List.replicate (if its.toArray.isEmpty=true then 0 else k.toNat) its.toArray)=(List.replicate k.toNat its).flatten.toArray:=by
  have f0:∀m:Nat,List.foldl (λx1 x2=>x1++x2) #[] (List.replicate m its.toArray)=(List.replicate m its).flatten.toArray:=λm=>by
   have:=b4e its m [];rw[List.nil_append] at this;exact this
  rw[f0];cases its with
  | nil=>simp
  | cons a r'=>rw[if_neg (by simp)]
 refine wpAny_binaryOp_repeat_ref (T:="list") (U:="int") (by decide) ⟨_,e,rfl⟩ (λs'=>typeIs_int s' k t) noFill_list_mul F.fills_int_mul F.slot_int_rmul repeat_list F.slot_int_index.lookup
  (call_meets F.slot_int_rmul (typeIs_int s k t) F.entry_int_rmul (F.args_int_rmul_2 _ _) (int___rmul___int_list k t l its.toArray n)
   ⟨e,rfl,⟨_,e,rfl⟩,call_meets F.slot_list_mul ⟨_,e,rfl⟩ F.entry_list_mul (F.args_list_mul_2 _ _) (AutoListH.list___mul___list_int_3 l its.toArray n k t hfit hcap hlong) ⟨e,?_⟩⟩)
 rw[hnew];exact⟨.ref _,_,I.lnew (t':=s.toks) (r.rep k.toNat) (by rw[b3y,Nat.mul_comm];exact hz),rfl,q _ I.fresh⟩
end
section
variable{prog:Program}{w:World}{A:Around}{E:Value->Shared->Prop}{s:Shared}
set_option maxRecDepth 100000 in
end
section
variable{X:Cx}
end
end L2
namespace Att
open PySem PySem.W PySem.Calls PyProof.Rows
theorem b4c{P:Params}{h:Heap}:∀(ns:List Int)(vs:List Value),WellAll P h vs (ns.map WData.int)->IntsAre vs ns:=by
 intro ns
 induction ns with
 | nil=>
  intro vs w;rw[List.map_nil] at w;cases w;exact .nil
 | cons n ns ih=>
  intro vs w;rw[List.map_cons] at w;cases w with
  | cons a b=>
   cases a;exact .cons _ _ (ih _ b)
theorem c3l{l:OpenLaw}{n:Nat}(hn:l.most=some n){P:Params}{h:Heap}{args:List WData}{vals:List Value}(hpre:l.row.toRowW.claim.pre args=true)(hwl:WellAll P h vals args):
  ∃a vs ns,vals=[Value.ref a]/\args=[WData.list (ns.map WData.int)]/\h.get? a=some { cls:=.type "list",data:=.seq vs.toArray }/\IntsAre vs ns/\ns.length<=n:=by
 have hsh:WShape.hasAll [] args [.list .int]=true:=(pre_splitW hpre).1;have hc:l.pre.holds [] { args:=args }=true:=(pre_splitW hpre).2;obtain⟨d,r,rfl,h1,h2⟩:=hasAllW_cons hsh;obtain rfl:=hasAllW_nil h2;obtain⟨xs,rfl,h3⟩:=hasW_list h1;obtain⟨ns,rfl⟩:=items_int h3;have hlen:ns.length<=n:=by
  unfold OpenLaw.pre at hc;have h4:(WTm.not (.lt (.lit (.int (n:Int))) (.len (.arg 0)))).holds [] { args:=[.list (ns.map .int)] }=true:=by
   have h4:=(holds_andW hc).1;rw[hn] at h4;exact h4
  have h5:=condW_of h4 (w_not (w_lt w_lit (w_len_list (w_arg rfl))));rw[List.length_map] at h5;refine Nat.le_of_not_lt λq=>?_;have q':(n:Int)<((ns.length:Nat):Int):=by lia
  first
   | (rw[decide_eq_true q'] at h5;exact absurd h5 (by decide))
   | (simp at h5;lia)
 cases hwl with
 | cons w1 w2=>
  cases w2;cases w1 with
  | list ho hall=>exact⟨_,_,ns,rfl,rfl,ho,b4c ns _ hall,hlen⟩
theorem c3s(l:OpenLaw)(args:List WData):l.row.toRowW.claim.post args (.bool true) args=true :=
 postW_of (r:=l.row.toRowW) (X:=(true == true))
  (show WShape.has [] (.bool true) .bool=true by first|rfl|decide|simp[WShape.has,WShape.arms,WShape.armsAll])
  (show(WTm.eq .res (.lit (.bool true))).value [] { args:=args,res:=some (.bool true),after:=args }=some (.bool (true == true)) from w_eq_bool (w_res rfl) w_lit) rfl
theorem attach_call{l:OpenLaw}{n:Nat}{q:Program}{loose:List Str}{XP:(Str->Option Value)->Heap->Prop}{YP:World->Heap->Prop}{d:DefRec}(hn:l.most=some n)(hdf:d.params.defaults=[])(call:∀(w:World) (s₀ s₁:Shared) (mg mb:Str->Option Value) (fa:Addr) (o:Obj) (pm cd doc:Value) (a:Addr) (vs:List Value) (ns:List Int),
   Ground q loose [] XP w s₀ mg mb s₁.heap->YP w s₁.heap ->
   s₁.heap.get? fa=some o->o.data=.func (docDef d.name d.params d.body d.scope pm cd doc)->s₁.heap.CodeRec cd d.name->mg d.name=some (.ref fa) ->
   s₁.heap.get? a=some { cls:=.type "list",data:=.seq vs.toArray }->IntsAre vs ns->ns.length<=n->s₁.gens=#[] ->
   codeAny (model l.prog w) callerA (.call (.ref fa) ⟨[.ref a],[]⟩) (λr s'=>r=.ok (.ret (.bool true))/\OldK s₁.heap s'.heap/\s'.os=s₁.os/\AllBare s'.gens) s₁):
  WalkO q loose XP YP l.row.toRowW d [] (λf vs=>PySem.call f vs):=by
 intro w s₀ s₁ mg mb G Y fa o pm cd doc dV kV ho hd hcd hD hmg hg args vals as hpre hlay hrd hwl hlo;obtain rfl:dV=.none:=Dflts.none hD hdf;obtain rfl:kV=.none:=Dflts.noKw hD;obtain⟨a,vs,ns,rfl,rfl,hobj,hints,hlen⟩:=c3l hn hpre hwl;refine enter_call (codeAny_mono (call w s₀ s₁ mg mb fa o pm cd doc a vs ns G Y ho (fd_plain hd) hcd hmg hobj hints hlen hg) λr s' hq=>?_);obtain⟨rfl,h2,h3,h4⟩:=hq;exact⟨.inl ⟨.bool true,.bool true,[],rfl,λ_=>rfl,.bool true,c3s l _,λ_=>⟨List.Pairwise.nil,λ_ hm=>(nomatch hm)⟩⟩,h2,h3,h4⟩
section
variable{prog:Program}{w:World}{A:Around}{E:Value->Shared->Prop}{s:Shared}{K:Frag}
end
end Att
namespace L2
open PySem PySem.Spec PyProof.Rows
theorem b7e:∀{vs:List Value}{ns:List Int},IntsAre vs ns->Vals (ns.map V.int) vs
 | _,_,.nil=>.nil
 | _,_,.cons n t h=>.cons ⟨t,rfl⟩ (b7e h)
def d5t(H:Hp):Prop:=∀b,H b=none \/ ∃o xs,H b=some (.frz o (.lst xs))
theorem c6w{P:Program}{w:World}{K:Frag}{mg mb:Str->Option Value}{CX:CXT}{k:Nat}{fa a:Addr}{fd:FuncData}{x:Str}{sp:Sp}{s₁:Shared}{vs:List Value}{ns:List Int}(KX:K.In s₁.heap)(hns:s₁.heap.Ns mainGlobals mg)(hb:s₁.heap.Ns builtinsNs mb)(hbb:∀x:Str,x≠"__name__"->mb x=bootBuiltins x)(hlim:s₁.heap.NoLimit)(hg:s₁.gens=#[])(ha:s₁.heap.get? a=some { cls:=.type "list",data:=.seq vs.toArray })(hi:IntsAre vs ns)(hl:ns.length<=sizeLine)(hr:Room k callerA)(F:∀base:Heap,K.In base->base.Ns mainGlobals mg->FnOk P w K mg base CX k fa fd [x] sp)(hbind:∀(s:Shared) (u:Value),BindsTo s fd ⟨[u],[]⟩ [(x,u)])(hsp:∀H:Hp,d5t H->SqL K H a (ns.map V.int)->sp [.ref a] H (λv _=>v=.bl true) λ_ _ _=>False)(hCX:∀H e s',CX [] H s₁ (λ_ _ _=>False) e s'->False):
  codeAny (model P w) callerA (.call (.ref fa) ⟨[.ref a],[]⟩) (λr s'=>r=.ok (.ret (.bool true))/\OldK s₁.heap s'.heap/\s'.os=s₁.os/\AllBare s'.gens) s₁:=by
 have rv:=b7e hi;have lenV:=hi.length;have core:∀H:Hp,d5t H->SqL K H a (ns.map V.int)->HOk P w H s₁.heap->(∀b,H b≠none->b=a)->(H a≠none->K.lookup a=none) ->
   codeAny (model P w) callerA (.call (.ref fa) ⟨[.ref a],[]⟩) (λr s'=>r=.ok (.ret (.bool true))/\OldK s₁.heap s'.heap/\s'.os=s₁.os/\AllBare s'.gens) s₁:=by
  intro H hO hS hok hA hK;have base_of:∀{b:Addr}{o:Obj},s₁.heap.get? b=some o->H b=none->(c7b s₁.heap H).get? b=some o:=λe n=>c7a e n;have noA:∀{b:Addr}{o:Obj}{es:Array DictEntry}{ep:Nat},s₁.heap.get? b=some o->o.data=.dict es ep->H b=none:=λ{b o es ep} e d=>by
   cases q:H b with
   | none=>rfl
   | some u=>
    have e':b=a:=hA b (by rw[q];simp)
    subst e';rw[ha] at e;cases e;have d':Data.seq vs.toArray _=Data.dict es ep:=d;cases d'
  have nsK:∀{b:Addr}{m:Str->Option Value},s₁.heap.Ns b m->(c7b s₁.heap H).Ns b m:=λ{b m} ⟨o,es,ep,e,d,r⟩=>⟨o,es,ep,base_of e (noA e d),d,r⟩;have hKb:K.In (c7b s₁.heap H):=λb o e=>base_of (KX b o e) (by
   cases q:H b with
   | none=>rfl
   | some u=>
    have e':b=a:=hA b (by rw[q];simp)
    subst e';rw[hK (by rw[q];simp)] at e;cases e)
  have hM:Mod K mg (c7b s₁.heap H):=⟨hKb,nsK hns,⟨mb,nsK hb,hbb⟩,let ⟨mc,h1,h2⟩:=hlim;⟨mc,nsK h1,h2⟩⟩
  have e0:Env0 P w K mg (c7b s₁.heap H) callerA [] s₁ H:=⟨rfl,hM,λb o e=>c9r e,Nat.le_of_eq (c4v _ _),trivial,λb hb=>absurd (show b∈([]:List Addr) from hb) (by simp),hok,.of_eq hg⟩
  refine codeAny_mono ((F _ hKb (nsK hns)).run callerA [] s₁ H ⟨[.ref a],[]⟩ [.ref a] [.ref a] _ _ hr e0 (hbind s₁ (.ref a)) (.cons rfl .nil) (hsp H hO hS)) λr s' h=>?_;cases r with
  | error e=>exact(hCX H e s' h).elim
  | ok fl=>
   cases fl with
   | next=>exact False.elim h
   | brk=>exact False.elim h
   | cont=>exact False.elim h
   | ret u=>
    obtain⟨v,H',os,bare,un,hok',r',q⟩:=h;have q':v=.bl true:=q;subst q';obtain rfl:u=Value.bool true:=r';refine⟨rfl,OldK.of_keep λb o e=>?_,os,bare⟩;cases q:H b with
    | none=>exact un.keep b o e q (by intro z;exact absurd (show b∈([]:List Addr) from z) (by simp)) (by simp)
    | some u=>
     rcases hO b with z|⟨ob,xs,z⟩
     ·rw[q] at z;cases z
     ·have z2:=un.frzs b ob _ z
      obtain⟨e1,_⟩:=hok b _ z;obtain⟨e2,_⟩:=hok' b _ z2;rw[e] at e1;cases e1;exact e2
 cases hk:K.lookup a with
 | some o=>
  have e:=KX a o hk;rw[ha] at e;cases e;refine core (λ_=>none) (λ_=>.inl rfl) (.inr ⟨_,vs.toArray,_,hk,rfl,rfl,rfl,by rw[List.size_toArray,lenV];exact hl,by simpa using rv⟩) (λb u z=>by have z':(none:Option HO)=some u:=z;cases z') (λb z=>absurd rfl z) λz=>absurd rfl z
 | none=>
  refine core (λb=>if b=a then some (.frz { cls:=.type "list",data:=.seq vs.toArray } (.lst (ns.map V.int))) else none) (λb=>?_) (.inl (.inr ⟨{ cls:=.type "list",data:=.seq vs.toArray },if_pos rfl⟩)) (λb u z=>?_) (λb z=>?_) λ_=>hk
  ·by_cases hb:b=a
   ·exact .inr ⟨_,_,if_pos hb⟩
   ·exact .inl (if_neg hb)
  ·by_cases hb:b=a
   ·have z':=(if_pos hb).symm.trans z
    cases z';subst hb;exact⟨ha,by rw[List.length_map];exact hl,vs,_,rv,ha⟩
   ·have z':=(if_neg hb).symm.trans z
    cases z'
  ·by_cases hb:b=a
   ·exact hb
   ·exact absurd (if_neg hb) z
end L2
namespace L2
open PySem PySem.Spec PyProof.Rows
theorem walk_of{l:PySem.W.OpenLaw}{n k:Nat}{q:Program}{loose:List Str}{XP:(Str->Option Value)->Heap->Prop}{YP:World->Heap->Prop}{d:DefRec}{K:Params->Frag}{CX:World->CXT}{sp:World->Sp}{x:Str}(hn:l.most=some n)(hn2:n<=sizeLine)(hdf:d.params.defaults=[])(hr:Room k callerA)(hY:∀(w:World) (h:Heap),YP w h->(K w.params).In h)(F:∀(w:World) (mg:Str->Option Value) (fa:Addr) (h:Heap),(K w.params).In h->h.Ns mainGlobals mg->mg d.name=some (.ref fa) ->
   ∃fd:FuncData,(∀(s:Shared) (u:Value),BindsTo s fd ⟨[u],[]⟩ [(x,u)]) /\
    ∀base:Heap,(K w.params).In base->base.Ns mainGlobals mg->FnOk l.prog w (K w.params) mg base (CX w) k fa fd [x] (sp w))(hsp:∀(w:World) (H:Hp) (a:Addr) (ns:List Int),ns.length<=n->d5t H->SqL (K w.params) H a (ns.map V.int)->sp w [.ref a] H (λv _=>v=.bl true) λ_ _ _=>False)(hCX:∀(w:World) (H:Hp) (s:Shared) (e:Value) (s':Shared),CX w [] H s (λ_ _ _=>False) e s'->False):
  PySem.W.WalkO q loose XP YP l.row.toRowW d [] (λf vs=>PySem.call f vs):=by
 refine Att.attach_call hn hdf λw s₀ s₁ mg mb fa o pm cd doc a vs ns G Y ho hd hcd hmg hobj hints hlen hg=>?_;have KX:=hY w _ Y;obtain⟨fd,hb,hF⟩:=F w mg fa _ KX G.T.g hmg;exact c6w KX G.T.g G.T.b G.T.builtins G.T.nolimit hg hobj hints (Nat.le_trans hlen hn2) hr hF hb (λH hO hS=>hsp w H a ns hlen hO hS) λH e s'=>hCX w H s₁ e s'
end L2
namespace L2
open PySem PySem.Spec PyProof.Rows
def a2b(s:Stmt):Arguments:=match s with
 | .FunctionDef _ a _ _ _ _ _ _ _ _=>a
 | _=>{ posonlyargs:=[],args:=[],vararg:=none,kwonlyargs:=[],kw_defaults:=[],kwarg:=none,defaults:=[] }
def a1f(s:Stmt):List Stmt:=match s with
 | .FunctionDef _ _ b _ _ _ _ _ _ _=>b
 | _=>[]
def g6(s:Stmt):Scope:=match s with
 | .FunctionDef _ _ _ _ _ _ sc _ _ _=>sc
 | _=>{ kind:=.function,names:=[],isGenerator:=false,isCoroutine:=false }
abbrev E0:XK:=λ_ _ _=>False
structure Fun(K:Frag)(x qual:Str)(st:Stmt)(f:Addr)(fd:FuncData):Prop where
 ex:∃(oc:Value)(od:Option Addr)(kV doc pm:Value)(an:Option Addr)(cdv ct:Value)(osl:Array (Option Value)),
  fd=PySem.W.fnOf x qual (a2b st) (a1f st) (g6 st) .none kV doc pm an cdv ct/\K.lookup f=some ⟨oc,od,.func fd,osl⟩/\codeIn K cdv qual=true
 kp:keepIn K (.ref f)=true
section
variable{P:Program}{w:World}{K:Frag}{mg:Str->Option Value}{base:Heap}
theorem Fun.binds{x qual:Str}{st:Stmt}{f:Addr}{fd:FuncData}{ps:List Str}(F:Fun K x qual st f fd)(h:∀(kV doc pm:Value) (an:Option Addr) (cdv ct:Value) (us:List Value),us.length=ps.length->bindArgs (PySem.W.fnOf x qual (a2b st) (a1f st) (g6 st) .none kV doc pm an cdv ct) ⟨us,[]⟩=pure (ps.zip us)):Binds K fd ps []:=by
 obtain⟨oc,od,kV,doc,pm,an,cdv,ct,osl,rfl,lk,hcd⟩:=F.ex;exact .all (h kV doc pm an cdv ct)
theorem c5h{x qual:Str}{st:Stmt}{f:Addr}{oc:Value}{od an:Option Addr}{osl:Array (Option Value)}{kV doc pm cdv ct:Value}(l:K.lookup f=some ⟨oc,od,.func (PySem.W.fnOf x qual (a2b st) (a1f st) (g6 st) .none kV doc pm an cdv ct),osl⟩)(c:codeIn K cdv qual=true)(k:keepIn K (.ref f)=true):Fun K x qual st f (PySem.W.fnOf x qual (a2b st) (a1f st) (g6 st) .none kV doc pm an cdv ct):=⟨⟨oc,od,kV,doc,pm,an,cdv,ct,osl,rfl,l,c⟩,k⟩
end
section
variable{X:Cx}
theorem pv(i:Nat){x:Str}{pos:Pos}(hN:X.N[i]?=some x:=by rfl)(hv:Vis X.env.scope x:=by first|exact Or.inl rfl|exact Or.inr (Or.inl rfl)|exact Or.inr (Or.inr rfl))(hd:(x == ("__debug__":Str))=false:=by decide)(hcd:(x == ("__classdict__":Str))=false:=by decide):PE X (.Name x pos) (d3o i):=d2c hN hv hd hcd
end
theorem d4s{A B:Prop}(h:B):if false=true then A else B:=by
 rw[if_neg Bool.false_ne_true];exact h
theorem d4p{A B:Prop}(h:A):if true=true then A else B:=by
 rw[if_pos rfl];exact h
theorem c1k{c A B:Prop}[Decidable c](h1:c->A)(h2:¬ c->B):if c then A else B:=by
 by_cases h:c
 ·rw[if_pos h]
  exact h1 h
 ·rw[if_neg h]
  exact h2 h
def Same(H H':Hp):Prop:=∀b o,H b=some o->H' b=some o
theorem Same.refl(H:Hp):Same H H:=λ_ _ h=>h
theorem Same.trans{H H1 H2:Hp}(a:Same H H1)(b:Same H1 H2):Same H H2:=λc o h=>b c o (a c o h)
theorem Same.free{H H':Hp}(e:Same H H'){l:Addr}(h:H' l=Option.none):H l=Option.none:=by
 cases q:H l with
 | none=>rfl
 | some o=>
  rw[e l o q] at h;cases h
theorem Same.seq{K:Frag}{H H':Hp}{a:Addr}{xs:List V}(e:Same H H')(h:SqL K H a xs):SqL K H' a xs:=by
 rcases h with (h|⟨o,h⟩)|h
 ·exact .inl (.inl (e _ _ h))
 ·exact .inl (.inr ⟨o,e _ _ h⟩)
 ·exact .inr h
end L2
namespace L2
open PySem PySem.Spec PyProof.Rows
def K2(h h':Heap)(e:Addr):Prop:=∀o vs,h.get? e=some o->o.data=.fields vs->∃o' ws,h'.get? e=some o'/\o'.data=.fields ws/\ws[2]?=vs[2]?
def NC(h:Heap)(e:Addr):Prop:=∃o vs,h.get? e=some o/\o.data=.fields vs/\vs[2]?=some .none
theorem NC.on{h h':Heap}{e:Addr}(n:NC h e)(k:K2 h h' e):NC h' e:=by
 obtain⟨o,vs,a,b,c⟩:=n;obtain⟨o',ws,x,y,z⟩:=k o vs a b;exact⟨o',ws,x,y,z.trans c⟩
theorem K2.trans{h h1 h2:Heap}{e:Addr}(a:K2 h h1 e)(b:K2 h1 h2 e):K2 h h2 e:=by
 intro o vs p q;obtain⟨o1,v1,x,y,z⟩:=a o vs p q;obtain⟨o2,v2,x2,y2,z2⟩:=b o1 v1 x y;exact⟨o2,v2,x2,y2,z2.trans z⟩
theorem K2.same{h h':Heap}{e:Addr}(k:∀o,h.get? e=some o->h'.get? e=some o):K2 h h' e:=λo vs p q=>⟨o,vs,k o p,q,rfl⟩
section
variable{M:Model}{A:Around}{E:Value->Shared->Prop}{s:Shared}
theorem c1v{base:Heap}{env:Env}{outer:List Env}{L e:Addr}{oe:Obj}{vs:Array Value}{head a0:Value}{hn:Bool}{Q:Unit->Shared->Prop}(hfr:A.frames=some (env::outer))(hl:s.heap.FunFrames base (env::outer))(hf:env.frame=some L)(he:s.heap.get? e=some oe)(hkb:base.StaysIn s.heap)(hen:base.get? e=none)(hd:oe.data=.fields vs)(hsz:1<vs.size)(h0:vs[0]?=some a0)(q:∀h',Heap.NotedW base (env::outer) e oe.cls a0 (rawInt L) s.heap h'->K2 s.heap h' e->Q () { s with heap:=h' }):
  wpAny M A (do let a <- frameOf env;let pl <- entryPlaceOf L hn;let b <- EntryCells.newEntry head a .none (rawInt L) .none pl;setField (.ref e) 1 b) Q E s:=by
 have out:e ∉ (env::outer).filterMap (·.frame):=λhm=>by
  obtain⟨_,o,ho,nf⟩:=hl.mem hm;cases he.symm.trans ho;exact nf vs hd
 refine wpAny_bind (wpAny_frameOf_fun hfr hl hf λh1 hs=>?_);refine wpAny_bind (wpAny_entryPlaceOf λpl hpl=>?_);unfold EntryCells.newEntry newFields;refine wpAny_bind (wpAny_newObj_type ?_ (hpl.sizeOk5 _ _ _ _ _));generalize hnw:({ cls:=.type "traceback",dict:=none,data:=.fields ([head,.ref L,.none,rawInt L,.none]++(if pl.isEmpty then List.replicate 6 Value.none else pl)).toArray }:Obj)=nw;have dnw:nw.data=.fields ([head,.ref L,.none,rawInt L,.none]++(if pl.isEmpty then List.replicate 6 Value.none else pl)).toArray:=by rw[<- hnw]
 have e1:h1.get? e=some oe:=(hs.2.1 e out).trans he;have k1:base.StaysIn h1:=λb o hb=>(hs.2.1 b λhm=>by rw[(hl.mem hm).1] at hb;cases hb).trans (hkb b o hb)
 have e2:=Heap.get?_push_of_some (h:=h1) nw e1;have tne:h1.objs.size≠e:=Nat.ne_of_gt (Heap.lt_size e1);have d3:=Obj.data_mapFields hd (·.setIfInBounds 1 (Value.ref h1.objs.size))
 have e3:=Heap.get?_update_self (Obj.mapFields (·.setIfInBounds 1 (Value.ref h1.objs.size))) e2 (Obj.isFreed_of_fields d3)
 have t3:=(Heap.get?_update_other (h1.push nw) (Obj.mapFields (·.setIfInBounds 1 (Value.ref h1.objs.size))) (Ne.symm tne)).trans (Heap.get?_push_size h1 (by rw[<- hnw];rfl))
 have stay:∀b o,b≠e->h1.get? b=some o->((h1.push nw).update e (Obj.mapFields (·.setIfInBounds 1 (Value.ref h1.objs.size)))).get? b=some o:=λb o nb hb=>
  (Heap.get?_update_other _ _ (Ne.symm nb)).trans (Heap.get?_push_of_some _ hb)
 have rec_:∀b o,s.heap.get? b=some o->(∀ws,o.data≠.fields ws)->b≠e:=λb o hb nf z=>by
  rw[z] at hb;cases he.symm.trans hb;exact nf vs hd
 refine wpAny_setField e2 hd hsz (q _ ⟨λb o hb=>stay b o (λz=>by rw[z,hen] at hb;cases hb) (k1 b o hb),hl.of_keeps λb o hb nf=>?_,?_,λb o hb nf=>?_⟩ ?_)
 ·obtain⟨sl,z⟩:=hs.2.2 b o hb
  exact⟨_,stay b _ (rec_ b o hb nf) z,rfl⟩
 ·exact⟨_,_,h1.objs.size,_,_,e3,⟨Obj.cls_mapFields _ _,by rw[Array.getElem?_setIfInBounds_ne (by decide)];exact h0⟩,d3,by simp[hsz],k1.fresh,tne,t3,dnw,by first|(simp;done)|(rcases hpl with rfl|⟨_,_,_,_,_,_,_,rfl⟩ <;> simp)⟩
 ·obtain⟨sl,z⟩:=hs.2.2 b o hb
  exact⟨sl,stay b _ (rec_ b o hb nf) z⟩
 ·intro o ws p r
  cases he.symm.trans p;cases hd.symm.trans r;exact⟨_,_,e3,d3,by rw[Array.getElem?_setIfInBounds_ne (by decide)]⟩
theorem b6y{base:Heap}{l:List Env}{e:Addr}{cls a0 fl:Value}{Q:Unit->Shared->Prop}(hkb:base.StaysIn s.heap)(hl:s.heap.FunFrames base l)(ht:s.heap.TracedAtW base e cls a0 fl)(q:∀h',base.StaysIn h'->h'.FunFrames base l->h'.TracedW base e cls a0->s.heap.UpToSlots h'->K2 s.heap h' e->Q () { s with heap:=h' }):wpAny M A (setFlight (.ref e) none) Q E s:=by
 obtain⟨oe,vs,T,oT,ts,he,hc,hd,h1,nT,Te,hT,dT,h3⟩:=ht;have z3:3<ts.size:=(Array.getElem?_eq_some_iff.mp h3).1;have oth:∀b,b≠T->(s.heap.update T (Obj.mapFields (·.setIfInBounds 3 ((none:Option Addr).elim Value.none λf=>rawInt f)))).get? b=s.heap.get? b:=λb hb=>Heap.get?_update_other _ _ (Ne.symm hb)
 have rec_:∀b o,s.heap.get? b=some o->(∀ws,o.data≠.fields ws)->b≠T:=λb o hb nf z=>by
  rw[z] at hb;cases hT.symm.trans hb;exact nf ts dT
 unfold setFlight;refine wpAny_bind (wpAny_field he hd h1 ?_);rw[if_pos (show(Value.ref T != Value.none)=true by simp)]
 refine wpAny_setField hT dT z3 (q _ (λb o hb=>(oth b λz=>by rw[z,nT] at hb;cases hb).trans (hkb b o hb)) (hl.of_keeps λb o hb nf=>⟨o,(oth b (rec_ b o hb nf)).trans hb,rfl⟩) ?_ (λb o hb nf=>⟨o.slots,(oth b (rec_ b o hb nf)).trans hb⟩) (K2.same λo p=>(oth e (Ne.symm Te)).trans p))
 exact⟨oe,vs,T,_,_,(oth e (Ne.symm Te)).trans he,hc,hd,h1,nT,Te,Heap.get?_update_self _ hT (Obj.isFreed_of_fields (Obj.data_mapFields dT _)),Obj.data_mapFields dT _,by simp[z3]⟩
theorem c9s{base:Heap}{env:Env}{outer:List Env}{L e:Addr}{cls a0:Value}{Q:Unit->Shared->Prop}(hfr:A.frames=some (env::outer))(hf:env.frame=some L)(R:Heap.FlyingW base (env::outer) e cls a0 s.heap)(q:∀h',Heap.HeldW base (env::outer) e cls a0 L h'->s.heap.UpToSlots h'->K2 s.heap h' e->Q () { s with heap:=h' }):wpAny M A (noteFrame (.ref e) env) Q E s:=by
 obtain⟨hkb,hen,hl,oe,vs,T,oT,ts,he,⟨hc,h0⟩,hd,h1,nT,Te,hT,dT,h3⟩:=R;subst hc;unfold noteFrame;simp only[hf];refine wpAny_bind (wpAny_field he hd h1 ?_);rw[if_pos (show(Value.ref T != Value.none)=true by simp)]
 refine wpAny_bind (wpAny_field hT dT h3 ?_);rw[if_neg (show ¬ ((Value.none == rawInt L)=true) by simp[rawInt])]
 refine wpAny_bind (wpAny_setField hT dT (Array.getElem?_eq_some_iff.mp h3).1 ?_);have oth:∀b,b≠T->(s.heap.update T (Obj.mapFields (·.setIfInBounds 3 Value.none))).get? b=s.heap.get? b:=λb hb=>Heap.get?_update_other _ _ (Ne.symm hb)
 have rec_:∀b o,s.heap.get? b=some o->(∀ws,o.data≠.fields ws)->b≠T:=λb o hb nf z=>by
  rw[z] at hb;cases hT.symm.trans hb;exact nf ts dT
 refine c1v hfr (hl.of_keeps λb o hb nf=>⟨o,(oth b (rec_ b o hb nf)).trans hb,rfl⟩) hf ((oth e (Ne.symm Te)).trans he) (λb o hb=>(oth b λz=>by rw[z,nT] at hb;cases hb).trans (hkb b o hb)) hen hd (Array.getElem?_eq_some_iff.mp h1).1 h0 λh' N k=>?_
 obtain⟨x1,x2,x3,x4⟩:=N;exact q h' ⟨x1,hen,x2,x3⟩ (λb o hb nf=>x4 b o ((oth b (rec_ b o hb nf)).trans hb) nf) ((K2.same λo p=>(oth e (Ne.symm Te)).trans p).trans k)
theorem c4o{base:Heap}{l:List Env}{e L:Addr}{cls a0:Value}{Q:Unit->Shared->Prop}(R:Heap.HeldW base l e cls a0 L s.heap)(q:∀h',Heap.FlyingW base l e cls a0 h'->s.heap.UpToSlots h'->K2 s.heap h' e->Q () { s with heap:=h' }):wpAny M A (setFlight (.ref e) none) Q E s:=by
 obtain⟨a,b,c,d⟩:=R;exact b6y a c d λh' x1 x2 x3 x4 x5=>q h' ⟨x1,b,x2,x3⟩ x4 x5
theorem c9u{base:Heap}{env:Env}{outer:List Env}{L e:Addr}{cls a0:Value}{Q:Unit->Shared->Prop}(hfr:A.frames=some (env::outer))(hf:env.frame=some L)(R:Heap.FlyingW base (env::outer) e cls a0 s.heap)(q:∀h',Heap.FlyingW base outer e cls a0 h'->s.heap.UpToSlots h'->K2 s.heap h' e->Q () { s with heap:=h' }):wpAny M A (leaving env (.ref e)) Q E s:=by
 unfold leaving;refine wpAny_bind (c9s hfr hf R λh1 R1 u1 k1=>?_);refine c4o (s:={ s with heap:=h1 }) R1 λh2 R2 u2 k2=>?_
 obtain⟨a,b,⟨_,_,c⟩,d⟩:=R2;exact q h2 ⟨a,b,c,d⟩ (u1.trans u2) (k1.trans k2)
theorem d4o{base h:Heap}{env:Env}{outer:List Env}{L e:Addr}{cls:Value}{args:List Value}{Q:Unit->Shared->Prop}(hfr:A.frames=some (env::outer))(hf:env.frame=some L)(hkb:base.StaysIn h)(hl:h.FunFrames base (env::outer))(hx:Heap.MadeExcOf h s.heap e cls args)(q:∀h' t,Heap.FlyingW base outer e cls (.ref t) h'->s.heap.UpToSlots h'->NC h' e->Q () { s with heap:=h' }):wpAny M A (leaving env (.ref e)) Q E s:=by
 obtain⟨t,he,_,_⟩:=hx.there;have ne:base.get? e=none:=by
  cases z:base.get? e with
  | none=>rfl
  | some o=>have:=hkb e o z;rw[hx.new] at this;cases this
 unfold leaving noteFrame;simp only[hf];refine wpAny_bind (wpAny_bind (wpAny_field he rfl (x:=.none) rfl ?_));rw[if_neg (by decide)]
 refine c1v (a0:=.ref t) hfr (hl.of_keeps λb o hb _=>⟨o,hx.keeps b o hb,rfl⟩) hf he (λb o hb=>hx.keeps b o (hkb b o hb)) ne rfl (by show 1<6;decide) rfl λh1 N k1=>?_
 obtain⟨x1,x2,x3,x4⟩:=N;refine b6y (s:={ s with heap:=h1 }) x1 x2 x3 λh2 y1 y2 y3 y4 k2=>?_
 obtain⟨_,_,y2⟩:=y2;exact q h2 t ⟨y1,ne,y2,y3⟩ (Heap.UpToSlots.trans x4 y4) (NC.on ⟨_,_,he,rfl,rfl⟩ (k1.trans k2))
end
end L2
namespace L2
open PySem PySem.Spec PyProof.Rows
theorem a3v{P:Program}{w:World}{H:Hp}{h h':Heap}(x:HOk P w H h)(k:∀b o u,H b=some o->h.get? b=some u->h'.get? b=some u):HOk P w H h' :=
 λb u e=>(x b u e).stay (λc v hc q=>by
  rcases hc with z|z
  ·subst z;exact k _ _ _ e q
  ·exact k _ _ _ z q) (λ_ q=>q) λ_ _ q=>q
structure b9p(B:Heap)(l:List Env)(H H':Hp)(h:Heap):Prop where
 tr:∀b o,H' b=some o->∃ob,B.get? b=some ob
 un:∀b o,h.get? b=some o->H b=none->b ∉ frs l->B.get? b=some o
 th:∀b o,h.get? b=some o->b ∉ frs l->∃ob,B.get? b=some ob
structure Fly(P:Program)(w:World)(l:List Env)(H H':Hp)(s s':Shared)(a:Addr)(C:Value):Prop where
 os:s'.os=s.os
 bare:AllBare s'.gens
 un:Un (frs l) [] H H' s.heap s'.heap
 hok:HOk P w H' s'.heap
 fl:∃(B:Heap)(a0:Value),Heap.FlyingW B l a C a0 s'.heap/\b9p B l H H' s.heap
def CXK(P:Program)(w:World):CXT:=λouter H s E e s'=>∃(a:Addr)(C:Value)(H':Hp),e=.ref a/\Fly P w outer H H' s s' a C/\∃o,(o=none->NC s'.heap a)/\E C o H'
theorem c8u{l:List Env}{H H':Hp}{h h' h'' B:Heap}{a:Addr}{C a0:Value}(u:Un (frs l) [] H H' h h')(fl:Heap.FlyingW B l a C a0 h')(k:b9p B l H H' h)(st:B.StaysIn h'')(up:h'.UpToSlots h''):Un (frs l) [] H H' h h'' where
 keep:=λb o q n hb _=>st b o (k.un b o q n hb)
 slot:=λb o q n hb hx=>by
  obtain⟨sl,e1⟩:=u.slot b o q n hb hx;obtain⟨_,o',ho',hd⟩:=fl.2.2.1.mem hb;rw[e1] at ho';cases ho';obtain⟨sl',e2⟩:=up b _ e1 hd;exact⟨sl',e2⟩
 free:=u.free
 there:=λb o q hx=>by
  by_cases hb:b∈frs l
  ·obtain⟨_,o',ho',hd⟩:=fl.2.2.1.mem hb
   obtain⟨sl',e2⟩:=up b _ ho' hd;exact⟨_,e2⟩
  ·obtain⟨ob,e⟩:=k.th b o q hb
   exact⟨ob,st b ob e⟩
 tups:=u.tups
 frzs:=u.frzs
 tbls:=u.tbls
theorem c4u{P:Program}{w:World}{l:List Env}{H H':Hp}{h h' h'' B:Heap}{a:Addr}{C a0:Value}(x:HOk P w H' h')(fl:Heap.FlyingW B l a C a0 h')(k:b9p B l H H' h)(st:B.StaysIn h''):HOk P w H' h'' :=
 a3v x λb o u e q=>by
  obtain⟨ob,e1⟩:=k.tr b o e;have e2:=fl.1 b ob e1;rw[q] at e2;cases e2;exact st b _ e1
section
variable{X:Cx}{pins:List (Addr×Obj)}{σ:St}{H H':Hp}{s:Shared}{h' h'' B:Heap}{a:Addr}{C a0:Value}
theorem Inv.left(I:Inv X pins σ H s)(hex:X.ex=[])(hst:X.stack=X.env::X.outer)(u:Un (frs X.stack) [] H H' s.heap h')(fl:Heap.FlyingW B X.stack a C a0 h')(k:b9p B X.stack H H' s.heap)(st:B.StaysIn h'')(up:h'.UpToSlots h''):Un X.fs [] X.H₀ H' X.s₀.heap h''/\b9p B X.outer X.H₀ H' X.s₀.heap:=by
 have u2:=c8u u fl k st up;have nx:∀b:Addr,b ∉ X.ex:=λb z=>by rw[hex] at z;cases z
 have sub:∀b o,X.s₀.heap.get? b=some o->b ∉ X.fs->b ∉ frs X.stack:=λb o e hb z=>by
  rcases List.mem_cons.mp (I.stkSub b z) with y|y
  ·exact absurd (Nat.lt_of_lt_of_le (Heap.lt_size e) I.ok.above) (by rw[y];exact Nat.lt_irrefl _)
  ·exact hb y
 have infs:∀b,b∈X.fs->b∈frs X.stack:=λb hb=>by
  rw[hst];obtain⟨env,he,hf⟩:=List.mem_filterMap.mp hb;exact List.mem_filterMap.mpr ⟨env,List.mem_cons_of_mem _ he,hf⟩
 refine⟨⟨λb o q n hb _=>?_,λb o q n hb _=>?_,λb o q n _=>?_,λb o q _=>?_,λb xs q=>u2.tups b xs (I.base.tups b xs q),λb o xs q=>u2.frzs b o xs (I.base.frzs b o xs q),λb ps q=>?_⟩,⟨k.tr,λb o q n hb=>?_,λb o q hb=>?_⟩⟩
 ·exact u2.keep b o (I.base.keep b o q n hb (nx b)) (I.base.free b o q n (nx b)) (sub b o q hb) (by simp)
 ·obtain⟨sl,e1⟩:=I.base.slot b o q n hb (nx b)
  obtain⟨sl',e2⟩:=u2.slot b _ e1 (I.base.free b o q n (nx b)) (infs b hb) (by simp)
  exact⟨sl',e2⟩
 ·obtain⟨o',e1⟩:=I.base.there b o q (nx b)
  exact u2.free b o' e1 (I.base.free b o q n (nx b)) (by simp)
 ·obtain⟨o',e1⟩:=I.base.there b o q (nx b)
  exact u2.there b o' e1 (by simp)
 ·obtain⟨m1,e1⟩:=I.base.tbls b ps q
  obtain⟨m2,e2⟩:=u2.tbls b _ e1;exact⟨m1++m2,by rw[e2,Array.append_assoc]⟩
 ·exact k.un b o (I.base.keep b o q n hb (nx b)) (I.base.free b o q n (nx b)) (sub b o q hb)
 ·obtain⟨o',e1⟩:=I.base.there b o q (nx b)
  exact k.th b o' e1 (sub b o q hb)
theorem Inv.keeps0(I:Inv X pins σ H s):b9p (PySem.W.hideAll s.heap (frs X.stack)) X.stack H H s.heap where
 tr:=λb o e=>by
  obtain⟨ob,q⟩:=Option.isSome_iff_exists.mp (show(s.heap.get? b).isSome=true by
   have:=I.hok.lt e;cases z:s.heap.get? b with
   | some _=>rfl
   | none=>exact absurd z (by
     obtain⟨u,hu⟩:∃u,s.heap.get? b=some u:=by
      have x:=I.hok b o e;cases o with
      | lst xs=>obtain⟨_,_,_,_,q⟩:=(show _/\_ from x);exact⟨_,q⟩
      | tup xs=>obtain⟨_,_,_,o,q,_⟩:=(show _/\_ from x);exact⟨_,q⟩
      | dK kvs=>obtain⟨_,_,_,_,o,_,_,q,_⟩:=(show _/\_ from x);exact⟨_,q⟩
      | dT kvs=>obtain⟨_,_,_,_,o,_,_,q,_⟩:=(show _/\_ from x);exact⟨_,q⟩
      | set S n=>obtain⟨o,_,_,_,q,_⟩:=(show Heap.SetOf _ _ _ _ _ from x);exact⟨_,q⟩
      | ins C dx fs=>obtain⟨_,_,_,q,_⟩:=(show _/\_ from x);exact⟨_,q⟩
      | own y=>obtain⟨o,q⟩:=(show ∃o,_ from x);exact⟨_,q⟩
      | xd fs=>obtain⟨mA,n,_⟩:=(show ∃mA,_ from x);obtain⟨o,_,_,q,_⟩:=n;exact⟨_,q⟩
      | rng lo hi=>obtain⟨_,_,_,q⟩:=(show ∃_ _ _,_ from x);exact⟨_,q⟩
      | frz o u=>obtain⟨q,_⟩:=(show _/\_ from x);exact⟨_,q⟩
      | tbl ps=>exact⟨_,x⟩
      | met f y=>exact⟨_,x⟩
      | ext φ=>obtain⟨_,⟨o,q⟩,_⟩:=(show _/\_ from x);exact⟨_,q⟩
     rw[hu];simp))
  refine⟨ob,PySem.W.hideAll_get _ q λz=>?_⟩;rw[I.stkFree b z] at e;cases e
 un:=λb o q _ hb=>PySem.W.hideAll_get _ q hb
 th:=λb o q hb=>⟨o,PySem.W.hideAll_get _ q hb⟩
end
section
variable{P:Program}{w:World}{K:Frag}{mg:Str->Option Value}{base:Heap}{N:List Str}{qual:Str}{scope:Scope}{f:Addr}{cd:Value}{A:Around}{outer:List Env}{s₀:Shared}{H₀:Hp}{E₀:XK}
theorem c8l{pins:List (Addr×Obj)}{σ:St}{H:Hp}{s:Shared}{h'':Heap}{e:Addr}{C a0:Value}(I:Inv (a8h (CXK P w) P w K mg base N qual scope f cd A outer s₀ H₀ E₀) pins σ H s)(x1:Heap.FlyingW (PySem.W.hideAll s.heap (frs (a8h (CXK P w) P w K mg base N qual scope f cd A outer s₀ H₀ E₀).stack)) outer e C a0 h'')(up:s.heap.UpToSlots h''):Fly P w outer H₀ H s₀ { s with heap:=h'' } e C:=by
 have k0:=I.keeps0;have FW:∀b∈frs (a8h (CXK P w) P w K mg base N qual scope f cd A outer s₀ H₀ E₀).stack,∃o,s.heap.get? b=some o/\∀vs,o.data≠.fields vs:=λb hb=>(I.stack.mem hb).2;have nx:∀b:Addr,b ∉ (a8h (CXK P w) P w K mg base N qual scope f cd A outer s₀ H₀ E₀).ex:=λb z=>by cases z
 have sub:∀b o,s₀.heap.get? b=some o->b ∉ frs outer->b ∉ frs (a8h (CXK P w) P w K mg base N qual scope f cd A outer s₀ H₀ E₀).stack:=λb o e' hb z=>by
  rcases List.mem_cons.mp (I.stkSub b z) with y|y
  ·exact absurd (Nat.lt_of_lt_of_le (Heap.lt_size e') I.ok.above) (by rw[y];exact Nat.lt_irrefl _)
  ·exact hb y
 have infs:∀b,b∈frs outer->b∈frs (a8h (CXK P w) P w K mg base N qual scope f cd A outer s₀ H₀ E₀).stack:=λb hb=>by
  obtain⟨env,he,hf⟩:=List.mem_filterMap.mp hb;exact List.mem_filterMap.mpr ⟨env,List.mem_cons_of_mem _ he,hf⟩
 refine⟨I.os,I.bare,⟨λb o z n hb _=>?_,λb o z n hb _=>?_,λb o z n _=>I.base.free b o z n (nx b),λb o z _=>?_,I.base.tups,I.base.frzs,I.base.tbls⟩,?_,⟨_,_,x1,⟨k0.tr,λb o z n hb=>?_,λb o z hb=>?_⟩⟩⟩
 ·exact x1.1 b o (k0.un b o (I.base.keep b o z n hb (nx b)) (I.base.free b o z n (nx b)) (sub b o z hb))
 ·obtain⟨sl,e1⟩:=I.base.slot b o z n hb (nx b)
  obtain⟨o',e2,hd⟩:=FW b (infs b hb);rw[e1] at e2;cases e2;obtain⟨sl',e3⟩:=up b _ e1 hd;exact⟨sl',e3⟩
 ·obtain⟨o',e1⟩:=I.base.there b o z (nx b)
  by_cases hb:b∈frs outer
  ·obtain⟨o'',e2,hd⟩:=FW b (infs b hb)
   obtain⟨sl',e3⟩:=up b _ e2 hd;exact⟨_,e3⟩
  ·obtain⟨ob,e2⟩:=k0.th b o' e1 (sub b o z hb)
   exact⟨ob,x1.1 b ob e2⟩
 ·refine a3v I.hok λb o u z y=>?_
  obtain⟨ob,e1⟩:=k0.tr b o z;have e2:=PySem.W.of_hideAll _ e1;rw[y] at e2;cases e2;exact x1.1 b _ e1
 ·exact k0.un b o (I.base.keep b o z n hb (nx b)) (I.base.free b o z n (nx b)) (sub b o z hb)
 ·obtain⟨o',e1⟩:=I.base.there b o z (nx b)
  exact k0.th b o' e1 (sub b o z hb)
theorem c1r{pins:List (Addr×Obj)}{σ:St}{H:Hp}{s:Shared}(I:Inv (a8h (CXK P w) P w K mg base N qual scope f cd A outer s₀ H₀ E₀) pins σ H s):s.heap.FunFrames (PySem.W.hideAll s.heap (frs (a8h (CXK P w) P w K mg base N qual scope f cd A outer s₀ H₀ E₀).stack)) (a8h (CXK P w) P w K mg base N qual scope f cd A outer s₀ H₀ E₀).stack :=
 PySem.W.funFrames_hide I.stack λenv he b hb=>List.mem_filterMap.mpr ⟨env,he,hb⟩
theorem b7y{pins:List (Addr×Obj)}{σ:St}{H:Hp}{s:Shared}{h':Heap}{e:Addr}{C:Value}{vs:List Value}(I:Inv (a8h (CXK P w) P w K mg base N qual scope f cd A outer s₀ H₀ E₀) pins σ H s)(hx:Heap.MadeExcOf s.heap h' e C vs)(q:E₀ C none H):(a8h (CXK P w) P w K mg base N qual scope f cd A outer s₀ H₀ E₀).xe (.ref e) { s with heap:=h' }:=by
 refine d4o (base:=PySem.W.hideAll s.heap (frs (a8h (CXK P w) P w K mg base N qual scope f cd A outer s₀ H₀ E₀).stack)) (h:=s.heap) I.ok.frames rfl (λb o z=>PySem.W.of_hideAll _ z) (c1r I) hx λh'' t x1 x4 nc=>?_;exact⟨e,C,H,rfl,c8l (s:=s) I x1 ((Heap.UpToSlots.of_keeps hx.keeps).trans x4),none,λ_=>nc,q⟩
theorem j8:a3b (CXK P w) (a8h (CXK P w) P w K mg base N qual scope f cd A outer s₀ H₀ E₀) E₀:=by
 intro pins σ H s e s' I h;obtain⟨a,C,H',rfl,F,o,nc,q⟩:=h;obtain⟨B,a0,fl,k⟩:=F.fl;refine c9u (base:=B) I.ok.frames rfl fl λh'' x1 x2 x3=>?_;obtain⟨u,k'⟩:=I.left rfl rfl F.un fl k x1.1 x2;exact⟨a,C,H',rfl,⟨F.os.trans I.os,F.bare,u,c4u F.hok fl k x1.1,⟨B,a0,x1,k'⟩⟩,o,λz=>(nc z).on x3,q⟩
theorem a5w:PassesOwn (model (a8h (CXK P w) P w K mg base N qual scope f cd A outer s₀ H₀ E₀).prog (a8h (CXK P w) P w K mg base N qual scope f cd A outer s₀ H₀ E₀).w) (a8h (CXK P w) P w K mg base N qual scope f cd A outer s₀ H₀ E₀).A (a8h (CXK P w) P w K mg base N qual scope f cd A outer s₀ H₀ E₀).env (a8h (CXK P w) P w K mg base N qual scope f cd A outer s₀ H₀ E₀).xe:=PassesOwn.leaving
end
end L2
namespace L2
open PySem PySem.Spec PyProof.Rows
theorem Cx.Ok.re{X:Cx}{A':Around}{calm':Bool}{pn':List (Addr×Obj)}{xe':Value->Shared->Prop}(ok:X.Ok)(hA:A'.frames=X.A.frames)(hc:calm'=true->A'.handled=none):({ X with A:=A',calm:=calm',pn:=pn',xe:=xe' }:Cx).Ok :=
 ⟨ok.mod,ok.kind,ok.glob,ok.blt,ok.above,ok.inj,ok.has,ok.cab,hc,hA.trans ok.frames,ok.stk,ok.exf,ok.bs,ok.bsz,ok.noex,ok.exfs,ok.funs,ok.frf⟩
theorem Inv.re{X:Cx}{pins pins':List (Addr×Obj)}{σ:St}{H:Hp}{s:Shared}{A':Around}{calm':Bool}{pn':List (Addr×Obj)}{xe':Value->Shared->Prop}(I:Inv X pins σ H s)(hA:A'.frames=X.A.frames)(hc:calm'=true->A'.handled=none)(hp:∀p∈pn'++pins',p∈X.pn++pins):Inv ({ X with A:=A',calm:=calm',pn:=pn',xe:=xe' }:Cx) pins' σ H s :=
 ⟨I.ok.re hA hc,I.os,I.bare,I.base,I.loc,I.cell,I.free,I.freeC,λp h=>I.pin p (hp p h),I.hok,I.len⟩
abbrev Cx.tryX(X:Cx)(pn':List (Addr×Obj))(E:Value->Shared->Prop):Cx:={ X with pn:=pn',xe:=E }
abbrev Cx.inH(X:Cx)(pn':List (Addr×Obj))(a:Addr):Cx:={ X with A:=X.A.mark (some (.ref a)),calm:=false,pn:=pn',xe:=λ_ _=>False }
theorem c5k{K:Frag}{h:Heap}{C:Addr}{bmB:List Value}{newId:String}(X:K.In h)(q:excIn K C bmB newId=true):
  ∃bm N nm qn bs hdct sn sub ab col dd k0 k1 k2 k3 k5 mN,h.get? C=some (excClassObj nm qn C N bs bm hdct sn sub ab col dd k0 k1 k2 k3 k5 newId)/\h.Ns N mN/\mN "__init__" = none/\OwnTail h bmB bm:=by
 unfold excIn at q;split at q
 case h_2=>cases q
 case h_1 dd cd sl ho=>
  split at q
  case h_2=>cases q
  case h_1 C' bm k0 k1 k2 k3 n k5 hm hs=>
   simp only[Bool.and_eq_true,beq_iff_eq,Bool.not_eq_true'] at q;obtain⟨⟨⟨⟨⟨q1,q2⟩,q3⟩,q4⟩,q5⟩,q6⟩:=q;obtain⟨nm,bs,mro,ns,qn,hd,sn,sub,ab,col,del⟩:=cd;dsimp only at hm q3 q5 q6;subst q1 q2 hm q3;obtain⟨l⟩:=sl;dsimp only at hs;subst hs;exact⟨bm,ns,nm,qn,bs,hd,sn,sub,ab,col,dd,k0,k1,k2,k3,k5,_,X _ _ ho,.of_isNs (PySem.W.isNs_of_in X q5),PySem.W.nsMap_none_of_in X q5 q6,PySem.W.tail_of_in X q4⟩
abbrev c5x:List Value:=[.type "ValueError",.type "Exception",.type "BaseException",.type "object"]
def d5u(K:Frag)(C:Addr):Prop:=excIn K C c5x "ValueError.__new__" = true
def c0q(X:Cx)(C:Addr)(E:XK):Prop:=∀(pins:List (Addr×Obj))(σ:St)(H:Hp)(s:Shared)(h':Heap)(e:Addr)(vs:List Value),Inv X pins σ H s->Heap.MadeExcOf s.heap h' e (.ref C) vs->E (.ref C) none H->X.xe (.ref e) { s with heap:=h' }
def c0u(C:Addr)(E:XK)(t:TA):TS:=λ_ σ H=>t σ H λvs H1=>vs.length<=sizeLine/\E (.ref C) none H1
section
variable{X:Cx}
theorem c6o{x:Str}{C:Addr}{E:XK}{np cpos pos:Pos}{e₀:Expr}{rest:List Expr}{t:TA}(hc:X.calm=true)(hg:Gl X x)(hm:X.mg x=some (.ref C))(hC:d5u X.K C)(hx:c0q X C E)(ha:PA X (e₀::rest) t)(hd:(x == ("__debug__":Str))=false:=by decide)(he:starEach (e₀::rest) X.env=(false,eval e₀ X.env)::starEach rest X.env:=by rfl)(hpl:(backTo cpos (starEach rest X.env)).any (·.1)=false:=by rfl):
  PS X (.Raise (some (.Call (.Name x np) (e₀::rest) [] cpos)) none pos) (c0u C E t):=by
 intro pins s σ H D I h;obtain⟨bm,N,nm,qn,bs,hdct,sn,sub,ab,col,dd,k0,k1,k2,k3,k5,mN,gC,gN,gi,gT⟩:=c5k I.ok.mod.kin hC;refine wpAny_Raise_call_subT (C:=C) (nm:=nm) (q:=qn) (N:=N) (bs:=bs) (bm:=bm) (hdct:=hdct) (sn:=sn) (sub:=sub) (ab:=ab) (col:=col) (dd:=dd) (k0:=k0) (k1:=k1) (k2:=k2) (k3:=k3) (k5:=k5)
  PySem.F.excBase_ValueError (mN:=mN) (gT.hasType (by decide)) (I.ok.hd hc) (by rw[he];show(false || (backTo cpos (starEach rest X.env)).any (·.1))=false;rw[hpl];rfl) gi (a5y I hg hm ⟨rfl,?_⟩ hd)
 have hp:=ha cpos pins s σ H _ I h;rw[he] at hp ⊢;refine Calls.evalArgs_plain (thn hp λus s1 z0_=>?_);obtain⟨vs,H1,I1,r,z,q⟩:=z0_;exact⟨rfl,by rw[<- r.length];exact z,I1.bk _ _ gC,gN.keeps I1.bk,gT.keeps I1.bk,λh' e hm'=>hx pins σ H1 s1 h' e us I1 hm' q⟩
end
def b1g(X:Cx)(J:St->XK):Prop:=∀(pins:List (Addr×Obj))(σ:St)(H:Hp)(s:Shared)(e:Value)(s':Shared),Inv X pins σ H s->CXK X.prog X.w X.stack H s (J σ) e s'->X.xe e s'
def c3g(sp:Sp)(J:St->XK)(t:TA):TE:=λσ H Q=>t σ H λvs H1=>sp vs H1 Q (J σ)
section
variable{X:Cx}{k:Nat}{f:Addr}{fd:FuncData}{ps:List Str}{sp:Sp}{J:St->XK}{x:Str}{p pos:Pos}{e:Expr}{es:List Expr}{t:TA}
theorem c6t(F:FnOk X.prog X.w X.K X.mg X.base (CXK X.prog X.w) k f fd ps sp)(hr:Room k X.A)(hg:Gl X x)(hm:X.mg x=some (.ref f))(hk:keepIn X.K (.ref f)=true)(hb:Binds X.K fd ps [])(hx:b1g X J)(ha:PA X (e::es) t)(hdb:(x == ("__debug__":Str))=false:=by decide)(he:starEach (e::es) X.env=(false,eval e X.env)::starEach es X.env:=by rfl)(hpl:(backTo pos (starEach es X.env)).any (·.1)=false:=by rfl):
  PE X (.Call (.Name x p) (e::es) [] pos) (c3g sp J t):=by
 intro pins s σ H Q I h;refine wpAny_Call_Name_kw (a5y I hg hm ?_ hdb);refine callWith_K (h₀:=X.base) I.ok.mod.kin hk (thn (ha pos pins s σ H _ I h) λus s1 z0_=>?_) he hpl;obtain⟨vs,H1,I1,r,q⟩:=z0_;refine⟨I1.kIn,?_⟩;have hl:us.length=ps.length:=by rw[<- r.length];exact F.len _ _ _ _ q
 have hbd:=hb s1 us I1.kIn (by rw[List.append_nil];exact hl)
 rw[List.append_nil] at hbd;refine wpAny_call (codeAny_mono (F.run X.A X.stack s1 H1 ⟨us,[]⟩ us vs Q (J σ) hr I1.env0 hbd r q) λr' s' hq=>?_);cases r' with
 | error e=>exact hx pins σ H1 s1 e s' I1 hq
 | ok fl=>
  cases fl with
  | ret u=>exact I1.after hq
  | next=>exact False.elim hq
  | brk=>exact False.elim hq
  | cont=>exact False.elim hq
end
def c2u(a:Addr)(C:Value):HO:=.ext λh=>∃o,h.get? a=some o/\o.cls=C
theorem d1h{fs:List Addr}{H H':Hp}{h h':Heap}{a:Addr}{o:HO}(u:Un fs [] H H' h h')(hn:h.get? a=none)(hf:H' a=none):Un fs [] H (upd H' a o) h h' where
 keep:=u.keep
 slot:=u.slot
 free:=λb ob q n hx=>by
  have:b≠a:=λz=>by rw[z,hn] at q;cases q
  rw[f9 this];exact u.free b ob q n hx
 there:=u.there
 tups:=λb xs q=>by
  have z:=u.tups b xs q;rw[f9 (g9 z hf)];exact z
 frzs:=λb ob xs q=>by
  have z:=u.frzs b ob xs q;rw[f9 (g9 z hf)];exact z
 tbls:=λb ps q=>by
  obtain⟨m,z⟩:=u.tbls b ps q;refine⟨m,?_⟩;rw[f9 (g9 z hf)];exact z
theorem d0a{P:Program}{w:World}{H:Hp}{h:Heap}{a:Addr}{C:Value}(x:HOk P w H h)(hf:H a=none)(he:∃o,h.get? a=some o/\o.cls=C):HOk P w (upd H a (c2u a C)) h:=λb u e=>by
 by_cases hb:b=a
 ·subst hb
  rw[d8] at e;cases e;obtain⟨o,h1,h2⟩:=he;exact⟨⟨o,h1,h2⟩,⟨o,h1⟩,λ_ _ ⟨o,q1,q2⟩ k=>⟨o,k o q1,q2⟩⟩
 ·rw[f9 hb] at e
  exact(x b u e).stay (λc v _ q=>q) (λc q=>by rw[f9 (g9 q hf)];exact q) λc xs q=>by rw[f9 (g9 q hf)];exact q
theorem Inv.unname{X:Cx}{pins:List (Addr×Obj)}{σ:St}{H:Hp}{s:Shared}{i t:Nat}{x:Str}{m:Str->Option Value}{v:Option Value}{h':Heap}(I:Inv X pins σ H s)(hN:X.N.Nodup)(hi:X.N[i]?=some x)(hl:∀(j:Nat) (y:Str) (v:V),X.N[j]?=some y->σ[j]?=some (some v)->Vis X.env.scope y->∃u,RelV v u/\d6r X.env s.heap m y u)(hn':h'.Ns X.env.locals (λy=>if y=x then v else m y))(hs:Heap.SameBut X.env.locals s.heap h'):Inv X pins (σ.set i none) H { s with heap:=h',toks:=t }:=by
 have ne:∀b o,X.s₀.heap.get? b=some o->b≠X.env.locals:=λb o e=>Nat.ne_of_lt (Nat.lt_of_lt_of_le (Heap.lt_size e) I.ok.above);refine⟨I.ok,I.os,I.bare,⟨λb o e n hb hx=>?_,λb o e n hb hx=>?_,I.base.free,λb o e hx=>?_,I.base.tups,I.base.frzs,I.base.tbls⟩,⟨_,hn',λj y v' e1 e2 e3=>?_⟩,λy c e=>?_,I.free,I.freeC,λp hp=>?_,?_,by simpa using I.len⟩
 ·exact(hs.2 b (ne b o e)).trans (I.base.keep b o e n hb hx)
 ·obtain⟨sl,e1⟩:=I.base.slot b o e n hb hx
  exact⟨sl,(hs.2 b (ne b o e)).trans e1⟩
 ·obtain⟨o',e1⟩:=I.base.there b o e hx
  exact⟨o',(hs.2 b (ne b o e)).trans e1⟩
 ·have hj:j≠i:=λz=>by
   subst z;by_cases hlt:j<σ.length
   ·rw[List.getElem?_set_self hlt] at e2;cases e2
   ·rw[List.getElem?_eq_none_iff.mpr (by rw[List.length_set];lia)] at e2;cases e2
  rw[List.getElem?_set_ne (Ne.symm hj)] at e2;obtain⟨u',r',q⟩:=hl j y v' e1 e2 e3;refine⟨u',r',?_⟩;rcases q with ⟨k,e⟩|⟨k,c,e,z⟩
  ·refine .inl ⟨k,?_⟩
   have:y≠x:=λe=>hj (b6w hN e1 (e ▸ hi));simp[this,e]
  ·exact .inr ⟨k,c,e,z.sameBut hs (I.cne y c e)⟩
 ·obtain⟨w',z⟩:=I.cell y c e
  exact⟨w',z.sameBut hs (I.cne y c e)⟩
 ·obtain⟨e,n,ne,nf,d⟩:=I.pin p hp
  exact⟨(hs.2 p.1 ne).trans e,n,ne,nf,d⟩
 ·exact a3v I.hok λb o u e q=>(hs.2 b (λz=>by rw[z,I.free] at e;cases e)).trans q
def Ends.unset(D:Ends)(i:Nat):Ends:=⟨λσ H=>D.nx (σ.set i none) H,D.rt,λσ H=>D.bk (σ.set i none) H,λσ H=>D.ct (σ.set i none) H⟩
def c7s(K:Frag)(c:Addr)(i:Nat)(tb:(St->XK)->TS)(th:TS):TS:=λD σ H=>
 tb (λσ1 C _ H'=>exmOne K C (.ref c)=some true/\∀a,H' a=none->th (D.unset i) (σ1.set i (some (.ref a))) (upd H' a (c2u a C))) D σ H
section
variable{X:Cx}{body suite:List Stmt}{b₀:Stmt}{x n:Str}{np hpos pos:Pos}{c:Addr}{i:Nat}{tb:(St->XK)->TS}{th:TS}
theorem Fly.caught{pins:List (Addr×Obj)}{σ:St}{H H':Hp}{s s':Shared}{a:Addr}{C:Value}{B h'':Heap}{a0:Value}(I:Inv X pins σ H s)(F:Fly X.prog X.w X.stack H H' s s' a C)(fl:Heap.FlyingW B X.stack a C a0 s'.heap)(k:b9p B X.stack H H' s.heap)(st:B.StaysIn h'')(up:s'.heap.UpToSlots h''):Inv X pins σ H' { s' with heap:=h'' } :=
 I.call' (s':={ s' with heap:=h'' }) (ch:=[]) F.os (c8u F.un fl k st up) (c4u F.hok fl k st) F.bare (λ_ z=>nomatch z)
theorem Fly.caughtAs{pins:List (Addr×Obj)}{σ:St}{H H':Hp}{s s':Shared}{a:Addr}{C:Value}{B h'':Heap}{a0:Value}(I:Inv X pins σ H s)(F:Fly X.prog X.w X.stack H H' s s' a C)(fl:Heap.FlyingW B X.stack a C a0 s'.heap)(k:b9p B X.stack H H' s.heap)(fl2:Heap.FlyingW B X.stack a C a0 h'')(up:s'.heap.UpToSlots h''):H' a=none/\Inv X pins σ (upd H' a (c2u a C)) { s' with heap:=h'' }:=by
 have hn:H' a=none:=by
  cases q:H' a with
  | none=>rfl
  | some o=>
   obtain⟨ob,e⟩:=k.tr a o q;rw[fl.2.1] at e;cases e
 have ha:s.heap.get? a=none:=by
  cases q:s.heap.get? a with
  | none=>rfl
  | some o=>
   by_cases hb:a∈frs X.stack
   ·obtain⟨_,o',h1,h2⟩:=fl.2.2.1.mem hb
    obtain⟨oe,vs,h3,_,h4,_⟩:=fl.first;rw[h1] at h3;cases h3;exact absurd h4 (h2 vs)
   ·obtain⟨ob,e⟩:=k.th a o q hb
    rw[fl.2.1] at e;cases e
 refine⟨hn,I.call' (s':={ s' with heap:=h'' }) (ch:=[]) F.os (d1h (c8u F.un fl k fl2.1 up) ha hn) (d0a (c4u F.hok fl k fl2.1) hn fl2.there) F.bare (λ_ z=>nomatch z)⟩
theorem c6n(hcal:X.calm=true)(hst:X.stack=X.env::X.outer)(hfr:X.env.frame=some X.env.locals)(hg:Gl X x)(hm:X.mg x=some (.ref c))(hN:X.N.Nodup)(hi:X.N[i]?=some n)(hk:X.env.scope.names.lookup n=some .local)(hb:∀pn' E J,b1g (X.tryX pn' E) J->PSs (X.tryX pn' E) body (tb J))(hh:∀pn' a,PSs (X.inH pn' a) (b₀::suite) th)(hd:(x == ("__debug__":Str))=false:=by decide):
  PS X (.Try body [.ExceptHandler (some (.Name x np)) (some n) (b₀::suite) hpos] [] [] pos) (c7s X.K c i tb th):=by
 intro pins s σ H D I h;have hcl:X.calm=true->X.A.handled=none:=I.ok.hd;have hp:b1g (X.tryX (X.pn++pins) (λe s'=>∃pins' σ1 H1 s1,Inv (X.tryX (X.pn++pins) X.xe) pins' σ1 H1 s1/\CXK X.prog X.w X.stack H1 s1 ((λσ1 C _ H'=>exmOne X.K C (.ref c)=some true/\∀a,H' a=none->th (D.unset i) (σ1.set i (some (.ref a))) (upd H' a (c2u a C)):St->XK) σ1) e s'))
   (λσ1 C _ H'=>exmOne X.K C (.ref c)=some true/\∀a,H' a=none->th (D.unset i) (σ1.set i (some (.ref a))) (upd H' a (c2u a C))) :=
  λpins' σ1 H1 s1 e s' I1 q=>⟨pins',σ1,H1,s1,I1.re rfl hcl (λp z=>z),q⟩
 have back:∀{A':Around}{c':Bool}{xe':Value->Shared->Prop}{pins':List (Addr×Obj)}{σ1:St}{H1:Hp}{s1:Shared},X.A.frames=A'.frames->Inv ({ X with A:=A',calm:=c',pn:=X.pn++pins,xe:=xe' }:Cx) pins' σ1 H1 s1->Inv X pins σ1 H1 s1 :=
  λhA I1=>I1.re (pn':=X.pn) (calm':=X.calm) (A':=X.A) (xe':=X.xe) hA hcl (λp z=>List.mem_append_left _ z)
 refine wpAny_Try_except (wpAny_mono (hb _ _ _ hp [] s σ H D (I.re rfl hcl (λp z=>by simpa using z)) h) (λf s1 q=>?_) λe s1 q=>?_)
 ·cases f with
  | next=>obtain⟨σ',H',I',q⟩:=q;exact wpAny_execs_nil ⟨σ',H',back rfl I',q⟩
  | brk=>obtain⟨σ',H',I',q⟩:=q;exact⟨σ',H',back rfl I',q⟩
  | cont=>obtain⟨σ',H',I',q⟩:=q;exact⟨σ',H',back rfl I',q⟩
  | ret u=>obtain⟨v,σ',H',I',r,q⟩:=q;exact⟨v,σ',H',back rfl I',r,q⟩
 ·obtain⟨pins',σ1,H1,s2,I1,a,C,H',rfl,F,_,_,hx,hq⟩:=q
  have I1:Inv X pins σ1 H1 s2:=back rfl I1;obtain⟨B,a0,fl,k⟩:=F.fl;have hs:X.A.frames=some (X.env::X.outer):=by rw[<- hst];exact I1.ok.frames
  refine wpAny_looks_onW (base:=B) hs hfr (by rw[<- hst];exact fl) λh4 hh4 up4=>?_
  refine wpAny_landsW hh4 λh5 fl5 up5=>?_;have fl5':Heap.FlyingW B X.stack a C a0 h5:=by rw[hst];exact fl5
  have up:s1.heap.UpToSlots h5:=up4.trans up5;have I5:=F.caught I1 fl k fl5'.1 up;refine wpAny_handleBy_cons (codeAny_handlers_test ?_) (by intro q;cases q)
  have I5h:Inv (X.inH (X.pn++pins) a) [] σ1 H' { s1 with heap:=h5 }:=I5.re rfl (λz=>nomatch z) (λp z=>by simpa using z)
  refine a5y (X:=X.inH (X.pn++pins) a) I5h hg hm ?_ hd;have LT:PySem.W.Looks (model X.prog X.w) h5 (typeOf (.ref a)) C:=by
   obtain⟨ob,hob,hc⟩:=fl5'.there;subst hc;exact(PySem.W.Looks.ld hob).andThen .now
  refine (PySem.W.exm_one (K:=X.K) (h:=h5) I5.kIn LT hx).here ?_;refine codeAny_handlers_suite_as ?_;refine lands_againW fl5' λh6 fl6 up6=>?_;obtain⟨hn,I6⟩:=F.caughtAs I1 fl k fl6 (up.trans up6);have I6h:Inv (X.inH (X.pn++pins) a) [] σ1 (upd H' a (c2u a C)) { s1 with heap:=h6 }:=I6.re rfl (λz=>nomatch z) (λp z=>by simpa using z)
  refine b2i (X:=X.inH (X.pn++pins) a) (v:=.ref a) I6h hN hi (Or.inl hk) rfl (λs7 I7=>?_) (Or.inr hk);refine wpAny_mono (hh (X.pn++pins) a [] s7 _ _ _ I7 (hq a hn)) (λf s8 q8=>?_) (λ_ _ z=>z.elim);have goes:∀{σ':St}{H2:Hp}{R:Unit->Shared->Prop},Inv (X.inH (X.pn++pins) a) [] σ' H2 s8->(∀s9,Inv X pins (σ'.set i none) H2 s9->R () s9)->wpAny (model X.prog X.w) X.A (do bindName X.env n .none;unbindBehindTheSuite X.env n hpos) R X.xe s8:=λ{σ' H2 R} I8 k8=>by
   have I8:Inv X pins σ' H2 s8:=back (A':=X.A.mark (some (.ref a))) rfl I8;obtain⟨m,hn8,hl8⟩:=id I8.loc;refine wpAny_nameGoes_keeps hk hn8 (by rw[I8.ok.kind];rfl) λh9 v hn9 hs9=>k8 _ (I8.unname hN hi hl8 hn9 hs9)
  cases f with
  | next=>obtain⟨σ',H2,I8,q8⟩:=q8;exact goes I8 λs9 I9=>⟨_,H2,I9,q8⟩
  | brk=>obtain⟨σ',H2,I8,q8⟩:=q8;exact goes I8 λs9 I9=>⟨_,H2,I9,q8⟩
  | cont=>obtain⟨σ',H2,I8,q8⟩:=q8;exact goes I8 λs9 I9=>⟨_,H2,I9,q8⟩
  | ret u=>obtain⟨v,σ',H2,I8,r,q8⟩:=q8;exact goes I8 λs9 I9=>⟨v,_,H2,I9,r,q8⟩
end
end L2
namespace L2
open PySem PySem.Spec PyProof.Rows Builtin Builtin.ObjectAttr Builtin.Getset_descriptor
structure ExK(K:Frag)(C:Addr):Prop where
 ex:d5u K C
 ga:findIn K (.ref C) "__getattribute__" = some (some (.builtin "BaseException.__getattribute__"))
 gn:findIn K (.ref C) "__getattr__" = some none
 cl:findIn K (.ref C) "__class__" = some (some (.builtin "object.__class__"))
 mb:mroIn K C (.type "BaseException")=some true
 mo:mroIn K C (.type "object")=some true
 ic:(clsIn K C).isSome=true
 sg:specialIn K (.builtin "object.__class__") "__get__" = some (some (.builtin "getset_descriptor.__get__"))
 tk:PySem.W.takesIn K (.builtin "object.__class__")=some true
section
variable{prog:Program}{w:World}{A:Around}{E:Value->Shared->Prop}{R:Result->Shared->Prop}{K:Frag}{C x:Addr}{s:Shared}
theorem d1d(X:K.In s.heap)(L0:PySem.W.Looks (model prog w) s.heap (typeOf (.ref x)) (.ref C))(hm:mroIn K C (.type "object")=some true)(h:R (.ok (.ret (.ref C))) s):
  codeAny (model prog w) A (.call (.builtin "getset_descriptor.__get__") ⟨[.builtin "object.__class__",.ref x,.ref C],[]⟩) R s:=by
 obtain⟨hh,g,dr,t,os⟩:=s;have L1:=PySem.W.looks_mroIn (M:=model prog w) X hm;have pl:=PySem.W.KF.slot_gs.plain;refine codeAny_call_builtin pl PySem.W.KF.entry_gs (PySem.W.KF.slot_gs.check _ _ _ _ _ _ _ _ PySem.W.KF.type_class (PySem.W.KF.args_gs _ _ _) ?_);unfold Builtin.«getset_descriptor.__get__» descrGet;rw[PySem.W.dga_obj];refine wpAny_bind (wpAny_pure ?_);unfold descrGetter descrCheckInstance descrNameAndClass isInstance;simp only[PySem.W.KF.owner_class]
 repeat lk
 refine⟨Code.quiet_builtin _ (by decide +kernel),codeAny_builtin PySem.W.KF.entry_class ?_⟩
 unfold Builtin.«object.__class__» shownTypeOf
 repeat lk
 exact h
theorem c8q(X:K.In s.heap)(k:ExK K C):PySem.W.Looks (model prog w) s.heap (find (.ref x) (.ref C) "__class__") (.bind (.builtin "getset_descriptor.__get__") (.builtin "object.__class__")):=by
 have L1:=PySem.W.looks_findIn (M:=model prog w) X k.cl;have L2:PySem.W.Looks (model prog w) s.heap (getOf (some (.builtin "object.__class__"))) (some (.builtin "getset_descriptor.__get__")):=PySem.W.looks_specialIn X k.sg;have L3:=PySem.W.looks_takesIn (M:=model prog w) X k.tk;refine L1.andThen (L2.andThen ?_);have L4:PySem.W.Looks (model prog w) s.heap (dataDescriptor? (some (.builtin "object.__class__")) (some (.builtin "getset_descriptor.__get__"))) (some (.builtin "getset_descriptor.__get__",.builtin "object.__class__")):=L3.andThen .now;exact L4.andThen (PySem.W.Looks.tag .now)
theorem c6a{tk:Tok}{Q:Fin->Shared->Prop}(X:K.In s.heap)(k:ExK K C)(L0:PySem.W.Looks (model prog w) s.heap (typeOf (.ref x)) (.ref C))(h:Q (.done (.ret (.ref C))) s):
  wpAny (model prog w) A (Builtin.«object.__getattribute__» ⟨[.ref x,.str "__class__" tk],[]⟩) Q E s:=by
 obtain⟨hh,g,dr,t,os⟩:=s;have L1:=c8q (prog:=prog) (w:=w) (x:=x) X k;unfold Builtin.«object.__getattribute__» slotArgs attrName
 repeat lk
 show wpAny _ _ (run (.call (.builtin "getset_descriptor.__get__") ⟨[.builtin "object.__class__",.ref x,.ref C],[]⟩) none) _ _ _;refine wpAny_run (A:=A) (d1d X L0 k.mo ?_);show wpAny _ _ (pure (Value.ref C)) _ _ _;exact wpAny_pure (wpAny_pure h)
theorem c6b{nameV:Value}{Q:Unit->Shared->Prop}(X:K.In s.heap)(k:ExK K C)(L0:PySem.W.Looks (model prog w) s.heap (typeOf (.ref x)) (.ref C))(h:Q () s):
  wpAny (model prog w) A (checkBuiltinCall "BaseException.__getattribute__" ⟨[.ref x,nameV],[]⟩) Q E s:=by
 obtain⟨hh,g,dr,t,os⟩:=s;have e1:builtinKind "BaseException.__getattribute__" = some .slot:=by decide +kernel
 have e2:splitId "BaseException.__getattribute__" = some ("BaseException","__getattribute__"):=by decide +kernel
 have L1:=PySem.W.looks_mroIn (M:=model prog w) X k.mb;have hz:=F.args_bexc_ga (.ref x) nameV;have L2:PySem.W.Looks (model prog w) hh (isInstance (.ref x) (.type "BaseException")) true:=L0.andThen L1;simp only[checkBuiltinCall,e1,e2];refine wpAny_bind (L2.at ?_)
 repeat (first|assumption|wp_step)
 all_goals exact h
theorem d3u{tk:Tok}{fill:Bool}{Q:Value->Shared->Prop}(X:K.In s.heap)(k:ExK K C)(L0:PySem.W.Looks (model prog w) s.heap (typeOf (.ref x)) (.ref C))(h:Q (.ref C) s):
  wpAny (model prog w) A (getAttrBy (.ref x) (.str "__class__" tk) fill) Q E s:=by
 obtain⟨hh,g,dr,t,os⟩:=s;have L1:=PySem.W.looks_findIn (M:=model prog w) X k.ga;have L2:=PySem.W.looks_findIn (M:=model prog w) X k.gn;have hb:=F.attr_ValueError.ga.bind (.ref x);unfold getAttrBy;refine wpAny_holding (wpAny_bind (L0.at (wpAny_bind (L1.at ?_))));dsimp only;have ne:(Value.builtin "BaseException.__getattribute__" == Value.builtin "object.__getattribute__")=false:=by decide +kernel
 have oh:onTheHeap (Value.ref C)=true:=rfl;rw[ne,Bool.and_false,if_neg Bool.false_ne_true];unfold getAttrByItsOwn hookBefore;rw[if_pos oh];refine wpAny_bind (L2.at (wpAny_bind (wpAny_attempt (wpAny_holding ?_))));unfold callGetattribute;rw[Bool.false_and,if_neg Bool.false_ne_true];unfold boundAndCalled;rw[hb];refine wpAny_bind (wpAny_pure ?_);refine wpAny_call (codeAny_call_builtin F.attr_ValueError.ga.plain F.entry_bexc_ga (c6b X k L0 (c6a X k L0 ?_)));exact wpAny_pure h
theorem c8r{Q:Option Value->Shared->Prop}(X:K.In s.heap)(k:ExK K C)(L0:PySem.W.Looks (model prog w) s.heap (typeOf (.ref x)) (.ref C))(h:Q (some (.ref C)) { s with toks:=s.toks+1 }):
  wpAny (model prog w) A (getAttr? (.ref x) "__class__") Q E s:=by
 obtain⟨hh,g,dr,t,os⟩:=s;unfold getAttr? getAttrBy?;exact wpAny_bind (wpAny_mkText (wpAny_bind (wpAny_attempt (d3u X k L0 (wpAny_pure h)))))
end
def ExAt(a C:Addr)(h:Heap):Prop:=∃o,h.get? a=some o/\o.cls=.ref C
theorem ExAt.ty{a C:Addr}{h:Heap}(M:Model)(p:ExAt a C h):PySem.W.Looks M h (typeOf (.ref a)) (.ref C):=by
 obtain⟨o,h1,h2⟩:=p;exact h2 ▸ (PySem.W.Looks.ld h1).andThen .now
theorem c1i{K:Frag}{a C:Addr}(k:ExK K C):PySem.W.KitX K (.ref a) (.ref C) (ExAt a C) where
 ty:=λM h _ p=>p.ty M
 it:=λM h X _=>by
  obtain⟨cd,hc⟩:=Option.isSome_iff_exists.mp k.ic;unfold clsIn at hc;split at hc
  case h_2=>cases hc
  case h_1 c' d' cd' sl' ho=>
   intro A' Q' E' s' kk q;unfold isType loadHead;exact wpAny_bind (wpAny_loadPart (kk _ _ (X _ _ ho)) (wpAny_pure q))
 ne:=λh tp dd its n sl X htp=>by
  obtain⟨cd,hc⟩:=Option.isSome_iff_exists.mp k.ic;cases hb:(Value.ref C == Value.ref tp) with
  | false=>rfl
  | true=>
   have e:C=tp:=Value.ref.inj (beq_iff_eq.mp hb);subst e;unfold clsIn at hc;split at hc
   case h_2=>cases hc
   case h_1 c' d' cd' sl' ho=>
    have z:=(X _ _ ho).symm.trans htp;cases z
 ca:=λX p h=>c8r X k (p.ty _) h
inductive TyX(K:Frag)(H:Hp):V->Value->Prop where
 | ty {x:V} {t:Value} (h:c2x K H x t):TyX K H x t
 | exc {a C:Addr} (e:H a=some (c2u a (.ref C))) (k:ExK K C):TyX K H (.ref a) (.ref C)
def c5z:V->Option Value
 | .ref a=>some (.ref a)
 | .ty n=>some (.type n)
 | _=>none
theorem c1z{c:V}{cv u:Value}(h:c5z c=some cv)(r:RelV c u):u=cv:=by
 cases c with
 | ref a=>cases h;exact r
 | ty n=>cases h;exact r
 | _=>cases h
theorem b9h:∀{cs:List V}{cvs us:List Value},cs.map c5z=cvs.map some->Vals cs us->us=cvs
 | [],[],_,_,.nil=>rfl
 | [],_::_,_,h,_=>by cases h
 | _::_,[],_,h,_=>by cases h
 | c::cs,cv::cvs,_,h,.cons r t=>by
  have h1:c5z c=some cv:=List.head_eq_of_cons_eq h;have h2:cs.map c5z=cvs.map some:=List.tail_eq_of_cons_eq h;rw[c1z h1 r,b9h h2 t]
section
variable{X:Cx}
theorem c7n:a5z X (.builtin "isinstance") (λxs H Q=>∃x c t cv b,xs=[x,c]/\TyX X.K H x t/\c5z c=some cv/\kitOne X.K t cv=some b/\Q (.bl b) H):=by
 intro pins s σ H xs us Q I r h;obtain⟨x,c,t,cv,b,rfl,ty,hc,hk,q⟩:=h;obtain⟨u,us',rfl,rx,r2⟩:∃u us',us=u::us'/\RelV x u/\Vals [c] us':=by cases r with|cons a b=>exact⟨_,_,rfl,a,b⟩
 obtain⟨v,rfl,rc⟩:∃v,us'=[v]/\RelV c v:=by cases r2 with|cons a b=>cases b;exact⟨_,rfl,a⟩
 have e:=c1z hc rc;subst e;cases ty with
 | ty ty=>exact c4s I rx ty hk λtk=>⟨.bl b,H,I.tok tk,rfl,q⟩
 | @exc a C ea k=>
  cases (show u=Value.ref a from rx);obtain⟨p,_⟩:=(show ObjOk X.prog X.w H s.heap a (c2u a (.ref C)) from I.hok a _ ea);exact kia_one (c1i k) I.kIn p hk (λz=>nomatch z) λtk=>⟨.bl b,H,I.tok tk,rfl,q⟩
theorem c5q:a5z X (.builtin "isinstance") (λxs H Q=>∃a C tp cs cvs b,xs=[.ref a,.ref tp]/\H a=some (c2u a (.ref C))/\ExK X.K C/\H tp=some (.tup cs)/\cs.map c5z=cvs.map some/\PySem.W.kitAny X.K (.ref C) cvs=some b/\Q (.bl b) H):=by
 intro pins s σ H xs us Q I r h;obtain⟨a,C,tp,cs,cvs,b,rfl,ea,k,et,hc,hk,q⟩:=h;obtain⟨u,us',rfl,rx,r2⟩:∃u us',us=u::us'/\RelV (.ref a) u/\Vals [.ref tp] us':=by cases r with|cons a b=>exact⟨_,_,rfl,a,b⟩
 obtain⟨v,rfl,rc⟩:∃v,us'=[v]/\RelV (.ref tp) v:=by cases r2 with|cons a b=>cases b;exact⟨_,rfl,a⟩
 cases (show u=Value.ref a from rx);cases (show v=Value.ref tp from rc);obtain⟨p,_⟩:=(show ObjOk X.prog X.w H s.heap a (c2u a (.ref C)) from I.hok a _ ea);obtain⟨_,its,rt,o,h1,h2,n,h3⟩:=(show ObjOk X.prog X.w H s.heap tp (.tup cs) from I.hok tp _ et);have e:=b9h hc rt;subst e;obtain⟨oc,od,oda,osl⟩:=o;dsimp only at h2 h3;subst h2 h3;exact PySem.W.kia_tup (c1i k) I.kIn p h1 hk (λz=>nomatch z) λtk=>⟨.bl b,H,I.tok tk,rfl,q⟩
end
end L2
namespace L2
open PySem PySem.Spec PyProof.Rows
inductive EqD(K:Frag)(H:Hp):Nat->V->V->Bool->Prop where
 | flat {n:Nat} {x y:V} (fx:a8g x=true) (fy:a8g y=true):EqD K H n x y (eqV x y)
 | lst {n:Nat} {p q:Addr} {xs ys:List V} {e:Nat->Bool} (ne:p≠q) (hp:SqL K H p xs) (hq:SqL K H q ys) (hl:xs.length=ys.length)
   (h:∀(j:Nat)(x y:V),xs[j]?=some x->ys[j]?=some y->EqD K H n x y (e j)):EqD K H (n+1) (.ref p) (.ref q) ((List.range xs.length).all e)
 | lstN {n:Nat} {p q:Addr} {xs ys:List V} (ne:p≠q) (hp:SqL K H p xs) (hq:SqL K H q ys) (hl:xs.length≠ys.length):EqD K H (n+1) (.ref p) (.ref q) false
 | tup {n:Nat} {p q:Addr} {xs ys:List V} {e:Nat->Bool} (ne:p≠q) (hp:SqT K H p xs) (hq:SqT K H q ys)
   (h:∀(j:Nat)(x y:V),xs[j]?=some x->ys[j]?=some y->EqD K H n x y (e j)):EqD K H (n+1) (.ref p) (.ref q) ((List.range (min xs.length ys.length)).all e && xs.length == ys.length)
 | self {n:Nat} {p:Addr} {xs:List V} (hp:SqT K H p xs):EqD K H n (.ref p) (.ref p) true
theorem Vals.at{xs:List V}{us:List Value}(r:Vals xs us){j:Nat}(h:j<us.toArray.size):∃x,xs[j]?=some x/\RelV x us.toArray[j]:=by
 have hl:j<xs.length:=by rw[r.length];simpa using h
 obtain⟨u,e,q⟩:=r.get (List.getElem?_eq_getElem hl);refine⟨xs[j],List.getElem?_eq_getElem hl,?_⟩;have:us.toArray[j]=u:=by
  simp only[List.getElem_toArray];have:=List.getElem?_eq_some_iff.mp e;exact this.2
 rw[this];exact q
section
variable{X:Cx}{pins:List (Addr×Obj)}{σ:St}{H:Hp}{s:Shared}
theorem c1t(I:Inv X pins σ H s){n:Nat}{x y:V}{b:Bool}(d:EqD X.K H n x y b):∀{A:Around}{u v:Value},RelV x u->RelV y v->A.units+n<cLine->SeqAt.EqAt A s u v b:=by
 induction d with
 | flat fx fy=>intro A u v rx ry hu;exact c8o rx ry fx fy
 | @lst n p q xs ys e ne hp hq hl h ih=>
  intro A u v rx ry hu;cases rx;cases ry;obtain⟨i1,r1,p1,z1⟩:=I.list hp;obtain⟨i2,r2,p2,z2⟩:=I.list hq;have e1:=r1.length;have e2:=r2.length;rw[show xs.length=i1.toArray.size by simpa using e1]
  refine SeqAt.EqAt.of_refs ne (SeqAt.RcAt.lists p1.isList p2.isList (by simp only[List.size_toArray];lia) (by lia) λj h1 h2=>?_)
  obtain⟨a,ea,ra⟩:=r1.at h1;obtain⟨c,ec,rc⟩:=r2.at h2;exact ih j a c ea ec ra rc (by show A.units+1+n<cLine;lia)
 | @lstN n p q xs ys ne hp hq hl=>
  intro A u v rx ry hu;cases rx;cases ry;obtain⟨i1,r1,p1,z1⟩:=I.list hp;obtain⟨i2,r2,p2,z2⟩:=I.list hq;have e1:=r1.length;have e2:=r2.length;exact SeqAt.EqAt.of_refs ne (SeqAt.RcAt.lists_lengths p1.isList p2.isList (by simp only[List.size_toArray,bne_iff_ne];lia) (by lia))
 | @tup n p q xs ys e ne hp hq h ih=>
  intro A u v rx ry hu;cases rx;cases ry;obtain⟨i1,r1,p1,z1⟩:=I.tuple hp;obtain⟨i2,r2,p2,z2⟩:=I.tuple hq;have e1:=r1.length;have e2:=r2.length;rw[show xs.length=i1.toArray.size by simpa using e1,show ys.length=i2.toArray.size by simpa using e2]
  refine SeqAt.EqAt.of_refs ne (SeqAt.RcAt.tuples p1 p2 (by lia) λj h1 h2=>?_)
  obtain⟨a,ea,ra⟩:=r1.at h1;obtain⟨c,ec,rc⟩:=r2.at h2;exact ih j a c ea ec ra rc (by show A.units+1+n<cLine;lia)
 | self hp=>
  intro A u v rx ry hu;cases rx;cases ry;exact SeqAt.EqAt.same _
theorem c2b(k:Nat):((List.range (min k k)).all (λ_=>true) && k == k)=true:=by simp
theorem d2f{n:Nat}(hu:X.A.units+(n+1)<cLine):OpR X (compareOp .Eq) (λx y H Q=>∃p q b,x=.ref p/\y=.ref q/\EqD X.K H (n+1) x y b/\Q (.bl b) H):=by
 intro pins s σ H x y v u Q I rx ry h;obtain⟨p,q,b,rfl,rfl,d,hq⟩:=h;cases rx;cases ry;cases d with
 | flat fx fy=>cases fx
 | @lst _ _ _ xs ys e ne h1 h2 hl h=>
  obtain⟨i1,r1,p1,z1⟩:=I.list h1;obtain⟨i2,r2,p2,z2⟩:=I.list h2;have e1:=r1.length;have e2:=r2.length;rw[show xs.length=i1.toArray.size by simpa using e1] at hq
  refine SeqAt.RcAt.lists p1.isList p2.isList (by simp only[List.size_toArray];lia) (by lia) (λj h1 h2=>?_) _ _ _ _ ⟨.bl _,H,I,rfl,hq⟩
  obtain⟨a,ea,ra⟩:=r1.at h1;obtain⟨c,ec,rc⟩:=r2.at h2;exact c1t I (h j a c ea ec) ra rc (by show X.A.units+1+n<cLine;lia)
 | @lstN _ _ _ xs ys ne h1 h2 hl=>
  obtain⟨i1,r1,p1,z1⟩:=I.list h1;obtain⟨i2,r2,p2,z2⟩:=I.list h2;have e1:=r1.length;have e2:=r2.length;exact SeqAt.RcAt.lists_lengths p1.isList p2.isList (by simp only[List.size_toArray,bne_iff_ne];lia) (by lia) _ _ _ _ ⟨.bl _,H,I,rfl,hq⟩
 | @tup _ _ _ xs ys e ne h1 h2 h=>
  obtain⟨i1,r1,p1,z1⟩:=I.tuple h1;obtain⟨i2,r2,p2,z2⟩:=I.tuple h2;have e1:=r1.length;have e2:=r2.length;rw[show xs.length=i1.toArray.size by simpa using e1,show ys.length=i2.toArray.size by simpa using e2] at hq
  refine SeqAt.RcAt.tuples p1 p2 (by lia) (λj h1 h2=>?_) _ _ _ _ ⟨.bl _,H,I,rfl,hq⟩
  obtain⟨a,ea,ra⟩:=r1.at h1;obtain⟨c,ec,rc⟩:=r2.at h2;exact c1t I (h j a c ea ec) ra rc (by show X.A.units+1+n<cLine;lia)
 | @self _ _ xs hp=>
  obtain⟨i1,r1,p1,z1⟩:=I.tuple hp;rw[<- c2b i1.toArray.size] at hq;exact SeqAt.RcAt.tuples p1 p1 (by lia) (λj h1 h2=>SeqAt.EqAt.same _) _ _ _ _ ⟨.bl _,H,I,rfl,hq⟩
theorem d2e{n:Nat}(hu:X.A.units+(n+1)<cLine):OpR X (compareOp .NotEq) (λx y H Q=>∃p q b,x=.ref p/\y=.ref q/\EqD X.K H (n+1) x y b/\Q (.bl (!b)) H):=by
 intro pins s σ H x y v u Q I rx ry h;obtain⟨p,q,b,rfl,rfl,d,hq⟩:=h;cases rx;cases ry;cases d with
 | flat fx fy=>cases fx
 | @lst _ _ _ xs ys e ne h1 h2 hl h=>
  obtain⟨i1,r1,p1,z1⟩:=I.list h1;obtain⟨i2,r2,p2,z2⟩:=I.list h2;have e1:=r1.length;have e2:=r2.length;rw[show xs.length=i1.toArray.size by simpa using e1] at hq
  refine SeqAt.RcNeAt.lists p1.isList p2.isList (by simp only[List.size_toArray];lia) (by lia) (λj h1 h2=>?_) _ _ _ _ ⟨.bl _,H,I,rfl,hq⟩
  obtain⟨a,ea,ra⟩:=r1.at h1;obtain⟨c,ec,rc⟩:=r2.at h2;exact c1t I (h j a c ea ec) ra rc (by show X.A.units+1+n<cLine;lia)
 | @lstN _ _ _ xs ys ne h1 h2 hl=>
  obtain⟨i1,r1,p1,z1⟩:=I.list h1;obtain⟨i2,r2,p2,z2⟩:=I.list h2;have e1:=r1.length;have e2:=r2.length;exact SeqAt.RcNeAt.lists_lengths p1.isList p2.isList (by simp only[List.size_toArray,bne_iff_ne];lia) (by lia) _ _ _ _ ⟨.bl _,H,I,rfl,hq⟩
 | @tup _ _ _ xs ys e ne h1 h2 h=>
  obtain⟨i1,r1,p1,z1⟩:=I.tuple h1;obtain⟨i2,r2,p2,z2⟩:=I.tuple h2;have e1:=r1.length;have e2:=r2.length;rw[show xs.length=i1.toArray.size by simpa using e1,show ys.length=i2.toArray.size by simpa using e2] at hq
  refine SeqAt.RcNeAt.tuples p1 p2 (by lia) (λj h1 h2=>?_) _ _ _ _ ⟨.bl _,H,I,rfl,hq⟩
  obtain⟨a,ea,ra⟩:=r1.at h1;obtain⟨c,ec,rc⟩:=r2.at h2;exact c1t I (h j a c ea ec) ra rc (by show X.A.units+1+n<cLine;lia)
 | @self _ _ xs hp=>
  obtain⟨i1,r1,p1,z1⟩:=I.tuple hp;rw[<- c2b i1.toArray.size] at hq;exact SeqAt.RcNeAt.tuples p1 p1 (by lia) (λj h1 h2=>SeqAt.EqAt.same _) _ _ _ _ ⟨.bl _,H,I,rfl,hq⟩
end
end L2
namespace L2
open PySem PySem.Spec PyProof.Rows
def a0s(X:Cx)(N:List Str)(scope:Scope)(cl:List (Str×Addr))(C:Addr)(s:Shared)(H:Hp)(ex:List Addr)(pn:List (Addr×Obj)):Cx :=
 { prog:=X.prog,w:=X.w,K:=X.K,mg:=X.mg,base:=X.base,A:=X.A,N:=N,s₀:=s,H₀:=H,env:=compEnvC scope cl C X.env,outer:=X.stack,stack:=X.stack,ex:=ex,fn:=λ_=>false,calm:=X.calm,pn:=pn,xe:=λ_ _=>False }
def a0h(nt:Nat)(fr:List Nat)(σ:St):St:=List.replicate nt none++fr.map λj=>(σ[j]?).join
def c6f(wi:TI)(nt:Nat)(fr:List Nat)(g:TG)(te:TE):TE:=λσ H Q=>wi σ H λJ H1=>∀D,H1 D=none->∃(n:Nat)(W:Nat->List V->Hp->Prop),W 0 [] (upd H1 D (.lst [])) /\
 ∀i acc H,W i acc H->H D=some (.lst acc)/\acc.length<sizeLine /\
  ((J.stop i H/\Q (.ref D) H)\/(i<n/\J.go i H/\∀x H',J.yld i H x H'->g x (a0h nt fr σ) H' λσ2 H2=>te σ2 H2 λy H3=>H3 D=some (.lst acc)/\W (i+1) (acc++[y]) (upd H3 D (.lst (acc++[y])))))
def b1x(nt:Nat)(g:TG):Prop:=∀(x:V)(σ:St)(H:Hp)(Q:St->Hp->Prop),g x σ H Q->g x σ H λσ2 H2=>(∀j,nt<=j->σ2[j]?=σ[j]?)/\Q σ2 H2
theorem z9{i nt:Nat}(h:i<nt):b1x nt (a6j i):=λx σ H Q q=>⟨λj hj=>List.getElem?_set_ne (by lia),q⟩
structure CompOk(X:Cx)(N:List Str)(scope:Scope)(cl:List (Str×Addr))(nt:Nat)(fr:List Nat):Prop where
 clos:closureFor scope X.env=pure cl
 kind:scope.kind=.function
 cell:∀y∈scope.names,y.2≠.cell
 names:∀y∈scope.names,y.2=.local->scope.names.lookup y.1=some .local
 sub:∀p∈cl,X.env.cells.lookup p.1=some p.2
 has:((relabel scope X.env).names.all λy=>!(y.2 == .cell || y.2 == .free) || (cl.lookup y.1).isSome)=true
 len:N.length=nt+fr.length
 frn:∀(j i:Nat),fr[j]?=some i->∃x,N[nt+j]?=some x/\X.N[i]?=some x/\(X.env.kindOf x=some .cell\/X.env.kindOf x=some .free)/\((relabel scope X.env).names.lookup x=some .cell\/(relabel scope X.env).names.lookup x=some .free)
section
variable{X:Cx}{pins:List (Addr×Obj)}{σ:St}{H:Hp}{s:Shared}{N:List Str}{scope:Scope}{cl:List (Str×Addr)}{nt:Nat}{fr:List Nat}
theorem CompOk.cl_at(k:CompOk X N scope cl nt fr){x:Str}{c:Addr}(h:cl.lookup x=some c):X.env.cells.lookup x=some c:=k.sub (x,c) (PySem.mem_of_lookup h)
theorem CompOk.start(k:CompOk X N scope cl nt fr)(I:Inv X pins σ H s){C:Addr}{h':Heap}{t':Nat}{ex:List Addr}(hex:∀b∈ex,c2c X pins H b/\b<s.heap.objs.size)(hC:s.heap.objs.size<=C)(hn:h'.Ns C λ_=>none)(hk:∀b o,s.heap.get? b=some o->h'.get? b=some o):
  Inv (a0s X N scope cl C s H ex (X.pn++pins)) [] (a0h nt fr σ) H { s with heap:=h',toks:=t' }:=by
 have ncell:∀x c,cl.lookup x=some c->c<s.heap.objs.size:=λx c e=>by
  obtain⟨v,z⟩:=I.cell x c (k.cl_at e);exact z.lt
 refine⟨⟨I.ok.mod,?_,I.ok.glob,I.ok.blt,hC,λx y c h1 h2=>I.ok.inj x y c (k.cl_at h1) (k.cl_at h2),λx hx=>?_,λx c hf _=>(nomatch hf),I.ok.hd,I.ok.frames,.inl rfl,λb hb=>⟨?_,λx c e=>?_⟩,I.bs,?_,λb o e hb=>?_,λb hb z=>?_,I.stack,I.stkFree⟩,
  rfl,I.bare,Un.kept hk,⟨_,hn,λi x v e1 e2 e3=>?_⟩,λx c e=>?_,I.hok.fresh hC,λx c e=>I.freeC x c (k.cl_at e),λp hp=>?_,I.hok.kept hk,?_⟩
 ·show(relabel scope X.env).kind=.function
  exact k.kind
 ·have hx:(relabel scope X.env).names.lookup x=some .cell\/(relabel scope X.env).names.lookup x=some .free:=hx
  have hall:=List.all_eq_true.mp k.has;rcases hx with hx|hx
  ·have:=hall _ (PySem.mem_of_lookup hx)
   simp only[beq_self_eq_true,Bool.true_or,Bool.not_true,Bool.false_or] at this;exact Option.isSome_iff_exists.mp this
  ·have:=hall _ (PySem.mem_of_lookup hx)
   simp only[beq_self_eq_true,Bool.or_true,Bool.not_true,Bool.false_or] at this;exact Option.isSome_iff_exists.mp this
 ·exact Nat.ne_of_lt (Nat.lt_of_lt_of_le (hex b hb).2 hC)
 ·exact(hex b hb).1.2.2.2.2.1 x c (k.cl_at e)
 ·exact Nat.le_trans I.ok.bsz I.sz
 ·obtain⟨_,_,_,h4,_⟩:=(hex b hb).1
  have hs:=(I.ok.bs b o e).1;rcases h4 with z|z
  ·exact I.ok.noex b o e z
  ·exact absurd (Nat.lt_of_lt_of_le (Heap.lt_size hs) z) (Nat.lt_irrefl _)
 ·rcases List.mem_cons.mp (I.stkSub b z) with y|y
  ·exact(hex b hb).1.2.1 y
  ·exact(hex b hb).1.2.2.1 y
 ·have hi:¬ i<nt:=λhi=>by
   unfold a0h at e2;rw[List.getElem?_append_left (by simpa using hi),List.getElem?_replicate] at e2
   split at e2 <;> cases e2
  obtain⟨j,rfl⟩:∃j,i=nt+j:=⟨i-nt,by lia⟩
  unfold a0h at e2;rw[List.getElem?_append_right (by simp),List.length_replicate,Nat.add_sub_cancel_left,List.getElem?_map] at e2
  cases hj:fr[j]? with
  | none=>rw[hj] at e2;cases e2
  | some i'=>
   rw[hj] at e2;have e2:(σ[i']?).join=some v:=Option.some.inj e2;have e4:σ[i']?=some (some v):=by
    cases z:σ[i']? with
    | none=>rw[z] at e2;cases e2
    | some y=>rw[z] at e2;rw[show y=some v from e2]
   obtain⟨x',n1,n2,n3,n4⟩:=k.frn j i' hj;have e1:N[nt+j]?=some x:=e1;rw[n1] at e1;cases e1;obtain⟨m,hm,hl⟩:=I.loc;obtain⟨u,r,l⟩:=hl i' x v n2 e4 (n3.elim (λz=>.inr (.inl z)) λz=>.inr (.inr z));refine⟨u,r,.inr ⟨n4,?_⟩⟩;rcases l with ⟨z,_⟩|⟨_,c,hc,hcell⟩
   ·rcases n3 with y|y <;> (rw[z] at y;cases y)
   ·have hall:=List.all_eq_true.mp k.has
    have hs:(cl.lookup x).isSome=true:=by
     rcases n4 with y|y
     ·have:=hall _ (PySem.mem_of_lookup y)
      simpa using this
     ·have:=hall _ (PySem.mem_of_lookup y)
      simpa using this
    obtain⟨c',hc'⟩:=Option.isSome_iff_exists.mp hs;have z:=k.cl_at hc';rw[hc] at z;cases z;exact⟨c,hc',hcell.elim λo ho=>⟨o,hk _ _ ho.1,ho.2⟩⟩
 ·obtain⟨v,o,ho,hd⟩:=I.cell x c (k.cl_at e)
  exact⟨v,o,hk _ _ ho,hd⟩
 ·obtain⟨e,n,ne,nf,d⟩:=I.pin p (by have hp:p∈(X.pn++pins)++[]:=hp;rw[List.append_nil] at hp;exact hp)
  refine⟨hk _ _ e,n,Nat.ne_of_lt (Nat.lt_of_lt_of_le (Heap.lt_size e) hC),λz=>?_,d⟩;rcases List.mem_cons.mp (I.stkSub _ z) with y|y
  ·exact ne y
  ·exact nf y
 ·show(a0h nt fr σ).length=N.length
  unfold a0h;rw[List.length_append,List.length_replicate,List.length_map,k.len]
theorem Inv.blockEnd{ex:List Addr}{C:Addr}{σ':St}{H H':Hp}{s':Shared}{h'':Heap}{pn' pins':List (Addr×Obj)}(I:Inv X pins σ H s)(hex:∀b∈ex,c2c X pins H b)(J:Inv (a0s X N scope cl C s H ex pn') pins' σ' H' s')(hC:s.heap.objs.size<=C)(hs:Heap.SameBut C s'.heap h''):Inv X pins σ H' { s' with heap:=h'' }:=by
 have ne:∀b o,s.heap.get? b=some o->b≠C:=λb o e=>Nat.ne_of_lt (Nat.lt_of_lt_of_le (Heap.lt_size e) hC);refine I.call' (s':={ s' with heap:=h'' }) (ch:=ex) J.os ⟨λb o e n hb hx=>?_,λb o e n hb hx=>?_,J.base.free,λb o e hx=>?_,J.base.tups,J.base.frzs,J.base.tbls⟩ ?_ J.bare λb hb=>⟨(hex b hb).2.2.2.1,(hex b hb).2.1,(hex b hb).2.2.2.2.1,(hex b hb).2.2.2.2.2⟩
 ·exact(hs.2 b (ne b o e)).trans (J.base.keep b o e n hb hx)
 ·obtain⟨sl,e1⟩:=J.base.slot b o e n hb hx
  exact⟨sl,(hs.2 b (ne b o e)).trans e1⟩
 ·obtain⟨o',e1⟩:=J.base.there b o e hx
  exact⟨o',(hs.2 b (ne b o e)).trans e1⟩
 ·exact a3v J.hok λb o u e q=>(hs.2 b (λz=>by
   have:=J.free;rw[show(a0s X N scope cl C s H ex pn').env.locals=C from rfl,<- z,e] at this;cases this)).trans q
def b2o(wi:TI)(nt:Nat)(fr:List Nat)(g:TG)(tt:TT)(te:TE):TE:=λσ H Q=>wi σ H λJ H1=>∀D,H1 D=none->∃(n:Nat)(W:Nat->List V->Hp->Prop),W 0 [] (upd H1 D (.lst [])) /\
 ∀i acc H,W i acc H->H D=some (.lst acc)/\acc.length<sizeLine /\
  ((J.stop i H/\Q (.ref D) H)\/(i<n/\J.go i H/\∀x H',J.yld i H x H'->g x (a0h nt fr σ) H' λσ2 H2=>tt σ2 H2 λc H3=>if c=true then (te σ2 H3 λy H4=>H4 D=some (.lst acc)/\W (i+1) (acc++[y]) (upd H4 D (.lst (acc++[y])))) else W (i+1) acc H3))
def PTs(X:Cx)(ifs:List Expr)(t:TT):Prop:=∀(pins:List (Addr×Obj))(s:Shared)(σ:St)(H:Hp)(Q:Bool->Hp->Prop),Inv X pins σ H s->t σ H Q->wpAny (model X.prog X.w) X.A (forIn ifs true λc r=>if r=true then do let ok <- isTrue c X.env (eval c X.env);pure (ForInStep.yield ok) else pure (ForInStep.yield r)) (TP X pins σ Q) X.xe s
theorem c9h{e:Expr}{t:TT}(h:PT X e t):PTs X [e] t:=λ_ s σ H Q I q=>wpAny_tests_one (h _ s σ H Q I q)
theorem c3q:PTs X [] (λ_ H Q=>Q true H):=λ_ s σ H Q I q=>wpAny_tests_nil ⟨H,I,q⟩
theorem b9g{elt iter tg:Expr}{ifs:List Expr}{pos pos':Pos}{wi:TI}{g:TG}{te:TE}{tt:TT}{use:Option (Value->Sem Unit)}{PQ:Value->Shared->Prop}{Q:VK}(hc:X.calm=true)(k:CompOk X N scope cl nt fr)(hi:PI X tg iter wi)(gk:b1x nt g)(hg:∀C s H ex pn',PG (a0s X N scope cl C s H ex pn') tg g)(ht:∀C s H ex pn',PTs (a0s X N scope cl C s H ex pn') ifs tt)(he:∀C s H ex pn',PE (a0s X N scope cl C s H ex pn') elt te)(hs:∀x,foldedSetIterable iter X.env x=pure x)(I:Inv X pins σ H s)(h:b2o wi nt fr g tt te σ H Q)(fin:∀{H3:Hp} {s3:Shared} {C D:Addr} {fp:List Addr} {H6:Hp} {s7:Shared},Inv X pins σ H3 s3->(∀b∈fp,c2c X pins H3 b)->s3.heap.objs.size<=C->Inv (a0s X N scope cl C s3 H3 fp (X.pn++pins)) [] (a0h nt fr σ) H6 s7->Q (.ref D) H6->compPost (model X.prog X.w) X.A X.xe use PQ (.ref D) C (.ok .next) s7):
  wpAny (model X.prog X.w) X.A (comprehension (.ListComp elt [⟨tg,iter,ifs,0⟩] scope pos) scope X.env pos' (newList []) false (eval iter X.env) use) PQ X.xe s:=by
 refine wpAny_comprehension_free rfl hs k.clos k.kind k.names (thn (hi pins s σ H _ I h) λxv s1 h1=>thn h1 λitv s2 h2=>?_);obtain⟨it,fp,tn,J,H2,rfl,I2,T,st2,f2,R2⟩:=h2;obtain⟨n,W,w0,turn⟩:=R2 _ I2.fresh;have I3:Inv X pins σ (upd H2 s2.heap.objs.size (.lst [])) { s2 with heap:=s2.heap.push { cls:=.type "list",data:=.seq ([]:List Value).toArray } }:=I2.lnew (its:=[]) (t':=s2.toks) .nil (Nat.zero_le _)
 have fp2:∀b∈fp,b<s2.heap.objs.size:=λb hb=>by
  obtain⟨o,e,_⟩:=T.obj _ _ st2 b hb;exact Heap.lt_size e
 have f3:∀b∈fp,c2c X pins (upd H2 s2.heap.objs.size (.lst [])) b:=λb hb=>⟨by rw[f9 (Nat.ne_of_lt (fp2 b hb))];exact(f2 b hb).1,(f2 b hb).2⟩
 refine wpAny_newObj_type (hd:=by show(0:Nat)<=_;exact Nat.zero_le _) ?_
 have hsz:({ s2 with heap:=s2.heap.push { cls:=.type "list",data:=.seq ([]:List Value).toArray } }:Shared).heap.objs.size=s2.heap.objs.size+1:=Heap.size_push _ _
 have kp:∀b o,s2.heap.get? b=some o->({ s2 with heap:=s2.heap.push { cls:=.type "list",data:=.seq ([]:List Value).toArray } }:Shared).heap.get? b=some o:=λb o e=>Heap.get?_push_of_some _ e
 generalize ({ s2 with heap:=s2.heap.push { cls:=.type "list",data:=.seq ([]:List Value).toArray } }:Shared)=s3 at *
 have dn:∀b∈fp,b<s3.heap.objs.size:=λb hb=>by rw[hsz];exact Nat.lt_succ_of_lt (fp2 b hb)
 refine wpAny_newFunctionEnv k.cell (by intro y hy;cases hy) (λh4 hns hsb=>?_) k.kind
 have keep4:∀b o,s3.heap.get? b=some o->h4.get? b=some o:=λb o e=>(hsb.2 b (Nat.ne_of_lt (Heap.lt_size e))).trans (Heap.get?_push_of_some _ e);have I4:=k.start I3 (C:=s3.heap.objs.size) (h':=h4) (t':=s3.toks) (ex:=fp) (λb hb=>⟨f3 b hb,dn b hb⟩) (Nat.le_refl _) hns keep4;have st4:tn 0 h4:=T.keep _ _ _ st2 λb hb o e=>keep4 b o (kp b o e);generalize hC:s3.heap.objs.size=C at I4 hns;have hC3:s3.heap.objs.size<=C:=Nat.le_of_eq hC;generalize hH:upd H2 s2.heap.objs.size (.lst [])=H3 at *;generalize s2.heap.objs.size=D at *;have stat:∀{H':Hp},(∀b∈fp,H' b=none)->∀b∈fp,c2c (a0s X N scope cl C s3 H3 fp (X.pn++pins)) [] H' b:=λ{H'} hn b hb=>by
  refine⟨hn b hb,Nat.ne_of_lt (Nat.lt_of_lt_of_le (dn b hb) hC3),λz=>?_,.inl hb,λx c e=>(f2 b hb).2.2.2.2.1 x c (k.cl_at e),λp hp=>(f2 b hb).2.2.2.2.2 p (by have hp:p∈(X.pn++pins)++[]:=hp;rw[List.append_nil] at hp;exact hp)⟩
  rcases List.mem_cons.mp (I2.stkSub b z) with y|y
  ·exact(f2 b hb).2.1 y
  ·exact(f2 b hb).2.2.1 y
 have loop:∀s5:Shared,s5={ s3 with heap:=h4,toks:=s3.toks }->codeAny (model X.prog X.w) X.A (.compLoop (.ListComp elt [⟨tg,iter,ifs,0⟩] scope pos) 0 (.ref it) (.ref D) (compEnvC scope cl C X.env)) (compPost (model X.prog X.w) X.A X.xe use PQ (.ref D) C) s5:=by
  rintro s5 rfl;refine codeAny_loop rfl (λm s'=>∃i acc H',m=n-i/\Inv (a0s X N scope cl C s3 H3 fp (X.pn++pins)) [] (a0h nt fr σ) H' s'/\tn i s'.heap/\(∀b∈fp,H' b=none)/\W i acc H') ?_ n ⟨0,[],_,rfl,I4,st4,λb hb=>(f3 b hb).1,w0⟩;rintro m s6 ⟨i,acc,H6,rfl,I6,st6,fr6,w6⟩;show wpAny _ _ ((compTurn (.ListComp elt [⟨tg,iter,ifs,0⟩] scope pos) 0 (.ref it) (.ref D) (compEnvC scope cl C X.env)).onRaise (λx=>do noteFrame x (compEnvC scope cl C X.env);theTreesLotGoes x)) _ _ s6
  refine wpAny_noted ?_;rw[compTurn_list];refine wpAny_bind (wpAny_standAt (wpAny_bind ?_));obtain⟨hD6,hz6,alt⟩:=turn i acc H6 w6;rcases alt with ⟨stop,qn⟩|⟨hin,go,step⟩
  ·refine wpAny_mono (T.done (a0s X N scope cl C s3 H3 fp (X.pn++pins)) rfl rfl rfl hc i [] s6 (a0h nt fr σ) H6 (λ_ _=>False) I6 (stat fr6) st6 stop) (λr s7 z0_=>?_) (λ_ _ z=>z.elim)
   obtain⟨hr,I7⟩:=z0_;subst hr;exact wpAny_pure (fin I3 f3 hC3 I7 qn)
  ·refine wpAny_mono (T.item (a0s X N scope cl C s3 H3 fp (X.pn++pins)) rfl rfl rfl hc i [] s6 (a0h nt fr σ) H6 (λ_ _=>False) I6 (stat fr6) st6 go) (λr s7 z0_=>?_) (λ_ _ z=>z.elim)
   obtain⟨u,hr,h7⟩:=z0_;subst hr;refine wpAny_bind (wpAny_mono h7 (λ_ s8 z0_=>?_) (λ_ _ z=>z.elim));obtain⟨x,H8,I8,r8,y8,st8,fr8⟩:=z0_;refine wpAny_bind (wpAny_mono (hg _ _ _ _ _ _ s8 _ H8 x u _ (I8.pinned (stat fr8) (T.obj _ _ st8)) r8 (gk _ _ _ _ (step x H8 y8))) (λ_ s9 z0_=>?_) (λ_ _ z=>z.elim));obtain⟨σ9,H9,I9,k9,q9⟩:=z0_;refine wpAny_bind (wpAny_mono (ht _ _ _ _ _ _ s9 σ9 H9 _ I9 q9) (λok s12 z0_=>?_) (λ_ _ z=>z.elim));obtain⟨H12,I12,q12⟩:=z0_;have weak:∀{H11:Hp}{s11:Shared},Inv (a0s X N scope cl C s3 H3 fp (X.pn++pins)) ([]++b7z fp s8.heap) σ9 H11 s11->Inv (a0s X N scope cl C s3 H3 fp (X.pn++pins)) [] (a0h nt fr σ) H11 s11/\tn (i+1) s11.heap/\∀b∈fp,H11 b=none:=λ{H11 s11} I11=>by
    refine⟨(I11.unpinned (pins:=[])).weak ?_ λj v' e=>?_,?_,λb hb=>?_⟩
    ·rw[I11.len,<- I4.len]
    ·by_cases hj:nt<=j
     ·rw[k9 j hj];exact e
     ·unfold a0h at e
      rw[List.getElem?_append_left (by rw[List.length_replicate];lia),List.getElem?_replicate] at e
      split at e <;> cases e
    ·exact T.keep _ _ _ st8 λb hb o e=>(I11.pin (b,o) (List.mem_append_right _ (List.mem_append_right _ (a3g hb e)))).1
    ·obtain⟨o,e,d⟩:=T.obj _ _ st8 b hb
     exact(I11.pin (b,o) (List.mem_append_right _ (List.mem_append_right _ (a3g hb e)))).2.1
   cases ok with
   | false=>
    rw[if_neg Bool.false_ne_true] at q12;obtain⟨z1,z2,z3⟩:=weak I12;exact wpAny_pure ⟨rfl,n-(i+1),by lia,i+1,acc,_,rfl,z1,z2,z3,q12⟩
   | true=>
    rw[if_pos rfl] at q12;refine wpAny_bind (wpAny_bind (wpAny_mono (he _ _ _ _ _ _ s12 σ9 H12 _ I12 q12) (λv s10 z0_=>?_) (λ_ _ z=>z.elim)));obtain⟨y,H10,I10,r10,hD10,q10⟩:=z0_;refine wpAny_bind (wpAny_mono (b3u (X:=a0s X N scope cl C s3 H3 fp (X.pn++pins)) _ s10 σ9 H10 (.ref D) [y] (.ref D) [v] (λv' H'=>v'=.non/\H'=upd H10 D (.lst (acc++[y]))) I10 rfl (.cons r10 .nil) ⟨_,acc,y,rfl,rfl,hD10,hz6,rfl,rfl⟩) (λv' s11 z0_=>?_) (λ_ _ z=>z.elim));obtain⟨_,H11,I11,_,_,e11⟩:=z0_;subst e11;obtain⟨z1,z2,z3⟩:=weak I11;exact wpAny_pure (wpAny_pure ⟨rfl,n-(i+1),by lia,i+1,acc++[y],_,rfl,z1,z2,z3,q10⟩)
 exact codeAny_compStart_list (loop _ rfl) (T.self _ 0 _ _ _ st4 (loop _ rfl))
theorem c1b{elt iter tg:Expr}{ifs:List Expr}{pos:Pos}{wi:TI}{g:TG}{te:TE}{tt:TT}(hc:X.calm=true)(k:CompOk X N scope cl nt fr)(hi:PI X tg iter wi)(gk:b1x nt g)(hg:∀C s H ex pn',PG (a0s X N scope cl C s H ex pn') tg g)(ht:∀C s H ex pn',PTs (a0s X N scope cl C s H ex pn') ifs tt)(he:∀C s H ex pn',PE (a0s X N scope cl C s H ex pn') elt te)(hs:∀x,foldedSetIterable iter X.env x=pure x):
  PE X (.ListComp elt [⟨tg,iter,ifs,0⟩] scope pos) (b2o wi nt fr g tt te):=by
 intro pins s σ H Q I h;rw[eval_ListComp];refine b9g hc k hi gk hg ht he hs I h λI3 f3 hC3 I7 qn=>?_;obtain⟨m7,hn7,_⟩:=id I7.loc;exact⟨m7,hn7,λh8 hs8=>⟨.ref _,_,I3.blockEnd f3 I7 hC3 hs8,rfl,qn⟩⟩
theorem a1k{elt iter tg:Expr}{pos:Pos}{wi:TI}{g:TG}{te:TE}(hc:X.calm=true)(k:CompOk X N scope cl nt fr)(hi:PI X tg iter wi)(gk:b1x nt g)(hg:∀C s H ex pn',PG (a0s X N scope cl C s H ex pn') tg g)(he:∀C s H ex pn',PE (a0s X N scope cl C s H ex pn') elt te)(hs:∀x,foldedSetIterable iter X.env x=pure x:=by intro _;rfl):
  PE X (.ListComp elt [⟨tg,iter,[],0⟩] scope pos) (c6f wi nt fr g te):=c1b hc k hi gk hg (λ_ _ _ _ _=>c3q) he hs
theorem a7s{elt iter tg ce:Expr}{pos:Pos}{wi:TI}{g:TG}{te:TE}{tt:TT}(hc:X.calm=true)(k:CompOk X N scope cl nt fr)(hi:PI X tg iter wi)(gk:b1x nt g)(hg:∀C s H ex pn',PG (a0s X N scope cl C s H ex pn') tg g)(ht:∀C s H ex pn',PT (a0s X N scope cl C s H ex pn') ce tt)(he:∀C s H ex pn',PE (a0s X N scope cl C s H ex pn') elt te)(hs:∀x,foldedSetIterable iter X.env x=pure x:=by intro _;rfl):
  PE X (.ListComp elt [⟨tg,iter,[ce],0⟩] scope pos) (b2o wi nt fr g tt te):=c1b hc k hi gk hg (λC s H ex pn'=>c9h (ht C s H ex pn')) he hs
end
end L2
namespace L2
open PySem PySem.Spec PyProof.Rows
structure FnT(P:Program)(w:World)(K:Frag)(mg:Str->Option Value)(base:Heap)(x:Str)(k:Nat)(ps:List Str)(sp:Sp):Prop where
 ex:∃(f:Addr)(fd:FuncData),FnOk P w K mg base (CXK P w) k f fd ps sp/\mg x=some (.ref f)/\keepIn K (.ref f)=true/\Binds K fd ps []
theorem Fun.okX{P:Program}{w:World}{K:Frag}{mg:Str->Option Value}{base:Heap}{x qual:Str}{st:Stmt}{f:Addr}{fd:FuncData}{N ps:List Str}{k:Nat}{sp:Sp}(F:Fun K x qual st f fd)(S:i8 N ps (g6 st))(len:∀vs H Q E,sp vs H Q E->vs.length=ps.length)(hbody:∀(cdv:Value) (A:Around) (outer:List Env) (s:Shared) (H:Hp) (vs:List V) (Q:VK) (E:XK),Room k (A.deeper (envOfC qual (g6 st) s.heap.objs.size f cdv))->sp vs H Q E ->
   ∃t,PSs (a8h (CXK P w) P w K mg base N qual (g6 st) f cdv A outer s H E) (a1f st) t/\t { nx:=λ_ H'=>Q .non H',rt:=Q } (start N vs) H):FnOk P w K mg base (CXK P w) (k+1) f fd ps sp:=by
 obtain⟨oc,od,kV,doc,pm,an,cdv,ct,osl,rfl,lk,hcd⟩:=F.ex;exact d5o lk hcd S len λA outer s H vs Q E hr hsp=>hbody cdv A outer s H vs Q E hr hsp
structure DefT(K:Frag)(mg:Str->Option Value)(x:Str)(st:Stmt)(ps:List Str):Prop where
 ex:∃(f:Addr)(fd:FuncData),Fun K x x st f fd/\mg x=some (.ref f)/\Binds K fd ps []
theorem DefT.fn{P:Program}{w:World}{K:Frag}{mg:Str->Option Value}{base:Heap}{x:Str}{st:Stmt}{N ps:List Str}{k:Nat}{sp:Sp}(D:DefT K mg x st ps)(S:i8 N ps (g6 st))(len:∀vs H Q E,sp vs H Q E->vs.length=ps.length)(hbody:∀(f:Addr) (cdv:Value) (A:Around) (outer:List Env) (s:Shared) (H:Hp) (vs:List V) (Q:VK) (E:XK),Room k (A.deeper (envOfC x (g6 st) s.heap.objs.size f cdv))->sp vs H Q E ->
   ∃t,PSs (a8h (CXK P w) P w K mg base N x (g6 st) f cdv A outer s H E) (a1f st) t/\t { nx:=λ_ H'=>Q .non H',rt:=Q } (start N vs) H):FnT P w K mg base x (k+1) ps sp:=by
 obtain⟨f,fd,F,hm,hb⟩:=D.ex;exact⟨f,fd,F.okX S len (hbody f),hm,F.kp,hb⟩
theorem DefT.mk'{K:Frag}{h:Heap}{mg:Str->Option Value}{x:Str}{st:Stmt}{ps:List Str}{f:Addr}{oc:Value}{od an:Option Addr}{osl:Array (Option Value)}{kV doc pm cdv ct:Value}(X:K.In h)(G:h.Ns mainGlobals mg)(a:nsIn K mainGlobals x=some (some (.ref f)))(l:K.lookup f=some ⟨oc,od,.func (PySem.W.fnOf x x (a2b st) (a1f st) (g6 st) .none kV doc pm an cdv ct),osl⟩)(c:codeIn K cdv x=true)(k:keepIn K (.ref f)=true)(hb:∀(kV doc pm:Value) (an:Option Addr) (cdv ct:Value) (us:List Value),us.length=ps.length->bindArgs (PySem.W.fnOf x x (a2b st) (a1f st) (g6 st) .none kV doc pm an cdv ct) ⟨us,[]⟩=pure (ps.zip us)):DefT K mg x st ps :=
 have F:=c5h (st:=st) (x:=x) (qual:=x) l c k
 ⟨_,_,F,mg_of X G a,F.binds hb⟩
def tFn(sp:Sp)(E:XK)(t:TA):TE:=λσ H Q=>t σ H λvs H1=>sp vs H1 Q E
section
variable{X:Cx}{k j:Nat}{ps:List Str}{sp:Sp}{E:XK}{J:St->XK}{x:Str}{p pos:Pos}{e:Expr}{es:List Expr}{t:TA}
theorem l8(G:FnT X.prog X.w X.K X.mg X.base x k ps sp)(hr:Room j X.A)(hj:k<=j)(hg:Gl X x)(hx:a3b (CXK X.prog X.w) X E)(ha:PA X (e::es) t)(hdb:(x == ("__debug__":Str))=false:=by decide)(he:starEach (e::es) X.env=(false,eval e X.env)::starEach es X.env:=by rfl)(hpl:(backTo pos (starEach es X.env)).any (·.1)=false:=by rfl):PE X (.Call (.Name x p) (e::es) [] pos) (tFn sp E t):=by
 obtain⟨f,fd,F,hm,hk,hb⟩:=G.ex;intro pins s σ H Q I h;refine c9o F (hr.mono hj) hg hm hk hb .nil hx ha hdb he hpl pins s σ H Q I ?_;show t σ H λvs H1=>sp (vs++[]) H1 Q E;simp only[List.append_nil];exact h
theorem b5b(G:FnT X.prog X.w X.K X.mg X.base x k ps sp)(hr:Room j X.A)(hj:k<=j)(hg:Gl X x)(hx:b1g X J)(ha:PA X (e::es) t)(hdb:(x == ("__debug__":Str))=false:=by decide)(he:starEach (e::es) X.env=(false,eval e X.env)::starEach es X.env:=by rfl)(hpl:(backTo pos (starEach es X.env)).any (·.1)=false:=by rfl):PE X (.Call (.Name x p) (e::es) [] pos) (c3g sp J t):=by
 obtain⟨f,fd,F,hm,hk,hb⟩:=G.ex;exact c6t F (hr.mono hj) hg hm hk hb hx ha hdb he hpl
theorem b4o{N:List Str}{scope:Scope}{cl:List (Str×Addr)}{C:Addr}{s:Shared}{H:Hp}{ex:List Addr}{pn':List (Addr×Obj)}:a3b (CXK X.prog X.w) (a0s X N scope cl C s H ex pn') E0:=by
 intro pins σ H' s' e s'' I h;obtain⟨_,_,_,_,_,_,_,q⟩:=h;exact q.elim
end
structure ExT(K:Frag)(mg:Str->Option Value)(x:Str)(C:Addr):Prop where
 k:ExK K C
 m:mg x=some (.ref C)
section
variable{X:Cx}
theorem a7o{P:Program}{w:World}{K:Frag}{mg:Str->Option Value}{base:Heap}{N:List Str}{qual:Str}{scope:Scope}{f:Addr}{cd:Value}{A:Around}{outer:List Env}{s₀:Shared}{H₀:Hp}{E₀:XK}{C:Addr}:
  c0q (a8h (CXK P w) P w K mg base N qual scope f cd A outer s₀ H₀ E₀) C E₀:=λpins σ H s h' e vs I hx q=>b7y I hx q
theorem a0m{x:Str}{n:Int}{pos:Pos}(hm:∃t,X.mg x=some (.int n t))(hg:Gl X x)(hd:(x == ("__debug__":Str))=false:=by decide):PE X (.Name x pos) (tC (.int n)):=by
 obtain⟨t,h⟩:=hm;exact b0x hg h ⟨t,rfl⟩ hd
theorem a5v{x:Str}{C:Addr}{pos:Pos}(T:ExT X.K X.mg x C)(hg:Gl X x)(hd:(x == ("__debug__":Str))=false:=by decide):PE X (.Name x pos) (tC (.ref C)):=b0x hg T.m rfl hd
theorem c8a{x:Str}{n:String}{pos:Pos}(hm:X.mg x=none)(hv:bootBuiltins x=some (.type n))(hg:Gl X x)(hn:x≠"__name__":=by decide)(hd:(x == ("__debug__":Str))=false:=by decide):PE X (.Name x pos) (tC (.ty n)):=c9q hg hm hv rfl hn hd
theorem a1c{x:Str}{C:Addr}{E:XK}{np cpos pos:Pos}{e₀:Expr}{rest:List Expr}{t:TA}(T:ExT X.K X.mg x C)(hc:X.calm=true)(hg:Gl X x)(hx:c0q X C E)(ha:PA X (e₀::rest) t)(hd:(x == ("__debug__":Str))=false:=by decide)(he:starEach (e₀::rest) X.env=(false,eval e₀ X.env)::starEach rest X.env:=by rfl)(hpl:(backTo cpos (starEach rest X.env)).any (·.1)=false:=by rfl):
  PS X (.Raise (some (.Call (.Name x np) (e₀::rest) [] cpos)) none pos) (c0u C E t):=c6o hc hg T.m T.k.ex hx ha hd he hpl
theorem c4c{o e:Expr}{to:TE}{t:TA}{apos cpos:Pos}(ho:PE X o to)(ha:PA X [e] t)(hbase:attributeBase o "append" X.env (eval o X.env)=eval o X.env:=by rfl)(hfew:((backTo cpos (starEach [e] X.env)).all (λx=>!x.1) && (backToKw cpos (keywordEach [] X.env)).all (λx=>x.1.isSome) && decide ([e].length+([]:List Keyword).length+(if ([]:List Keyword).isEmpty then 0 else 1)<30))=true:=by rfl)(hline:(apos.endLine == cpos.line)=true:=by rfl)(hs:starEach [e] X.env=(false,eval e X.env)::starEach [] X.env:=by rfl)(hplain:(backTo cpos (starEach [] X.env)).any (·.1)=false:=by rfl):
  PE X (.Call (.Attribute o "append" apos) [e] [] cpos) (tBM X.K "list" b6c to t) :=
 c9p PySem.F.plainAttrs_list PySem.F.slot_list_append PySem.F.type_list_append (λpins s σ H x xs v us Q I rx rs q=>b3u pins s σ H x xs v us Q I rx rs q) ho ha hbase hfew hline hs hplain
theorem c5s(hc:X.calm=true):a5z X (.builtin "all") (λxs H Q=>∃(p:Addr)(bs:List Bool),xs=[.ref p]/\SqL X.K H p (bs.map V.bl)/\Q (.bl (bs.all id)) H):=by
 intro pins s σ H xs us Q I r h;obtain⟨p,bs,rfl,hq,q⟩:=h;obtain⟨u,rfl,rx⟩:=r.one;cases rx;obtain⟨its,ri,pl,hz⟩:=I.list hq;have hl:=pl.isList;have hlt:p<s.heap.objs.size:=by obtain⟨_,e,_⟩:=hl;exact Heap.lt_size e
 have hn:its.toArray.size=bs.length:=by have:=ri.length;simpa using this.symm
 have wl:=Walks.list (prog:=X.prog) (w:=X.w) (A:=X.A.in1) (I.ok.hd hc) s.heap.objs.size p (Nat.ne_of_lt hlt) its.toArray;refine call_all_walk (wpAny_pyIter_list hl ⟨_,_,_,_,_,_,(λi=>(bs[i]?).getD true),rfl,wl,⟨⟨_,Heap.get?_push_size _ rfl,rfl,rfl⟩,hl.push _⟩,?_,?_⟩)
 ·intro i v s' Q' E' hP hQ
  have hP:its.toArray[i]?=some v:=hP;have hP:its[i]?=some v:=by simpa using hP
  have hi:i<(bs.map V.bl).length:=by
   have:=(List.getElem?_eq_some_iff.mp hP).1;rw[ri.length];exact this
  obtain⟨u,e,q'⟩:=ri.get (List.getElem?_eq_getElem hi);rw[hP] at e;cases e;have hi':i<bs.length:=by simpa using hi
  have e2:(bs.map V.bl)[i]=V.bl bs[i]:=List.getElem_map _;rw[e2] at q';cases (show v=Value.bool bs[i] from q');simp only[List.getElem?_eq_getElem hi',Option.getD_some] at hQ;exact wpAny_truthy_bool hQ
 ·intro h' tk hk
  have e:((List.range its.toArray.size).all λi=>(bs[i]?).getD true)=bs.all id:=by rw[hn];exact LSm.range_all bs
  rw[e];exact⟨.bl _,H,I.kept (t':=tk) (LSm.kept_iter hk),rfl,q⟩
def d5v(_ j:Int):Prop:=0<j/\j.natAbs.log2<9000
theorem a4e:OpR X (binaryOp .FloorDiv) (rI d5v λi j=>.int (i / j)):=opI λi j _ _ _ _ _ hc q=>by
 have e:i / j=i.fdiv j:=(Int.fdiv_eq_ediv_of_nonneg i (Int.le_of_lt hc.1)).symm;rw[e] at q;exact floordiv_int (by have:=hc.1;lia) q (.inl (PyProof.noPylong_of_log2 hc.2))
theorem m3{K:Frag}(h:X.K=K:=by rfl):IxR X (d4k K):=h ▸ c9y
theorem a0v{K:Frag}(h:X.K=K:=by rfl):IxR X (d4j K):=h ▸ d2n
theorem a4d{K:Frag}(h:X.K=K:=by rfl):OpR X (compareOp .In) (rIn K false):=h ▸ c4f
theorem b0d{K:Frag}(h:X.K=K:=by rfl):OpR X (compareOp .NotIn) (rIn K true):=h ▸ b8c
def d6h(K:Frag)(n:Nat):R2:=λx y H Q=>∃p q b,x=.ref p/\y=.ref q/\EqD K H (n+1) x y b/\Q (.bl b) H
def d6f(K:Frag)(n:Nat):R2:=λx y H Q=>∃p q b,x=.ref p/\y=.ref q/\EqD K H (n+1) x y b/\Q (.bl (!b)) H
theorem b3k{K:Frag}{n:Nat}(hu:X.A.units+(n+1)<cLine)(h:X.K=K:=by rfl):OpR X (compareOp .Eq) (d6h K n):=h ▸ d2f hu
theorem b8d{K:Frag}{n:Nat}(hu:X.A.units+(n+1)<cLine)(h:X.K=K:=by rfl):OpR X (compareOp .NotEq) (d6f K n):=h ▸ d2e hu
def d6g(K:Frag):List V->Hp->VK->Prop:=λxs H Q=>∃x c t cv b,xs=[x,c]/\TyX K H x t/\c5z c=some cv/\kitOne K t cv=some b/\Q (.bl b) H
def d1w(K:Frag):List V->Hp->VK->Prop:=λxs H Q=>∃a C tp cs cvs b,xs=[.ref a,.ref tp]/\H a=some (c2u a (.ref C))/\ExK K C/\H tp=some (.tup cs)/\cs.map c5z=cvs.map some/\PySem.W.kitAny K (.ref C) cvs=some b/\Q (.bl b) H
def d4i(K:Frag):List V->Hp->VK->Prop:=λxs H Q=>∃p ys,xs=[.ref p]/\(SqL K H p ys\/SqT K H p ys)/\Q (.int ys.length) H
def b6b(K:Frag):List V->Hp->VK->Prop:=λxs H Q=>∃p ys,xs=[.ref p]/\(SqL K H p ys\/SqT K H p ys)/\∀l,H l=none->Q (.ref l) (upd H l (.lst ys))
def d6x(K:Frag):List V->Hp->VK->Prop:=λxs H Q=>∃(p:Addr)(bs:List Bool),xs=[.ref p]/\SqL K H p (bs.map V.bl)/\Q (.bl (bs.all id)) H
theorem b4g{K:Frag}(h:X.K=K:=by rfl):a5z X (.builtin "isinstance") (d6g K):=h ▸ c7n
theorem b5i{K:Frag}(h:X.K=K:=by rfl):a5z X (.builtin "isinstance") (d1w K):=h ▸ c5q
theorem j5{K:Frag}(h:X.K=K:=by rfl):a5z X (.builtin "len") (d4i K):=h ▸ b9k
theorem a0d{K:Frag}(h:X.K=K:=by rfl):a5z X (.type "list") (b6b K):=h ▸ b9j
theorem c5r{K:Frag}(hc:X.calm=true)(h:X.K=K:=by rfl):a5z X (.builtin "all") (d6x K):=h ▸ c5s hc
theorem a5t{K:Frag}{tg l:Expr}{tl:TE}(hl:PE X l tl)(h:X.K=K:=by rfl):PI X tg l (c9z K tl):=h ▸ c9l hl
theorem a8c{K:Frag}{o e:Expr}{to:TE}{t:TA}{apos cpos:Pos}(ho:PE X o to)(ha:PA X [e] t)(hK:X.K=K:=by rfl)(hbase:attributeBase o "append" X.env (eval o X.env)=eval o X.env:=by rfl)(hfew:((backTo cpos (starEach [e] X.env)).all (λx=>!x.1) && (backToKw cpos (keywordEach [] X.env)).all (λx=>x.1.isSome) && decide ([e].length+([]:List Keyword).length+(if ([]:List Keyword).isEmpty then 0 else 1)<30))=true:=by rfl)(hline:(apos.endLine == cpos.line)=true:=by rfl)(hs:starEach [e] X.env=(false,eval e X.env)::starEach [] X.env:=by rfl)(hplain:(backTo cpos (starEach [] X.env)).any (·.1)=false:=by rfl):
  PE X (.Call (.Attribute o "append" apos) [e] [] cpos) (tBM K "list" b6c to t):=hK ▸ c4c ho ha hbase hfew hline hs hplain
theorem a0w{N:List Str}{scope:Scope}{nt:Nat}(clos:closureFor scope X.env=pure [])(kind:scope.kind=.function)(cell:∀y∈scope.names,y.2≠.cell)(names:∀y∈scope.names,y.2=.local->scope.names.lookup y.1=some .local)(has:((relabel scope X.env).names.all λy=>!(y.2 == .cell || y.2 == .free) || (([]:List (Str×Addr)).lookup y.1).isSome)=true)(len:N.length=nt):CompOk X N scope [] nt [] :=
 ⟨clos,kind,cell,names,λp hp=>(nomatch hp),has,len,λj i h=>by simp at h⟩
end
theorem huN{k:Nat}{A:Around}(hr:Room k A)(n:Nat)(h:n<=100:=by decide):A.units+n<cLine:=by
 have:=hr.un;lia
end L2
namespace L2
open PySem PySem.Spec PyProof.Rows
section
variable{X:Cx}{pins:List (Addr×Obj)}{σ:St}{H:Hp}{s:Shared}{N:List Str}{scope:Scope}{cl:List (Str×Addr)}{nt:Nat}{fr:List Nat}
theorem b9u{elt iter tg:Expr}{ifs:List Expr}{pos py spos:Pos}{y:Str}{ix:Nat}{wi:TI}{g:TG}{te:TE}{tt:TT}(hc:X.calm=true)(k:CompOk X N scope cl nt fr)(hi:PI X tg iter wi)(gk:b1x nt g)(hg:∀C s H ex pn',PG (a0s X N scope cl C s H ex pn') tg g)(ht:∀C s H ex pn',PTs (a0s X N scope cl C s H ex pn') ifs tt)(he:∀C s H ex pn',PE (a0s X N scope cl C s H ex pn') elt te)(hN:X.N.Nodup)(hi2:X.N[ix]?=some y)(hy:X.env.scope.names.lookup y=some .local)(hsw:swapsWith (.ListComp elt [⟨tg,iter,ifs,0⟩] scope pos) (some (.Name y py)) spos.line X.env=pure true)(hs:∀x,foldedSetIterable iter X.env x=pure x):
  PS X (.Assign [.Name y py] (.ListComp elt [⟨tg,iter,ifs,0⟩] scope pos) spos) (d1r (b2o wi nt fr g tt te) (a6j ix)):=by
 intro pins s σ H DD I h;rw[exec_Assign_Name_used _ _ _ _ hsw];refine wpAny_bind (wpAny_standAt (wpAny_bind ?_));show wpAny _ X.A (do let _ <- comprehension (.ListComp elt [⟨tg,iter,ifs,0⟩] scope pos) scope X.env _ (newList []) false (eval iter X.env) (some (assign (.Name y py) X.env))) _ _ s
 refine wpAny_bind (wpAny_mono (b9g (PQ:=λ_ s'=>SP X pins DD .next s') hc k hi gk hg ht he hs I h λ{H3 s3 C D fp H6 s7} I3 f3 hC3 I7 qn=>?_) (λ_ s' hq=>wpAny_pure (wpAny_pure hq)) λ_ _ e=>e);obtain⟨m7,hn7,_⟩:=id I7.loc;have I7x:Inv X pins σ H6 s7:=I3.blockEnd (h'':=s7.heap) f3 I7 hC3 (.refl ..);show wpAny _ X.A (assign (.Name y py) X.env (.ref D)) _ _ _;refine wpAny_assign_Name (b7j (v:=.ref D) I7x hN hi2 (Or.inl hy) rfl (λs8 I8 z0_=>?_) (Or.inr hy));obtain⟨a8,sb8,or8⟩:=z0_;have no:∀{a:Addr},a<s3.heap.objs.size->a≠C:=λh z=>absurd (Nat.lt_of_lt_of_le (z ▸ h) hC3) (Nat.lt_irrefl _);have ne8:C≠a8:=λz=>by
  rcases or8 with q|q
  ·exact no I3.lt (q.symm.trans z.symm)
  ·obtain⟨v8,q8⟩:=I3.cell _ _ q
   exact no q8.lt z.symm
 refine⟨m7,hn7.sameBut sb8 ne8,λh9 hs9=>⟨_,H6,?_,qn⟩⟩;refine I8.turned (it:=C) (t':=s8.toks) (λb o hb e=>(hs9.2 b hb).trans e) I7.free (Nat.ne_of_gt (Nat.lt_of_lt_of_le I3.lt hC3)) (.inr (Nat.le_trans I3.sz hC3)) (λx c e z=>?_) (λp hp z=>no (Heap.lt_size (I3.pin p hp).1) z);obtain⟨v8,q8⟩:=I3.cell x c e;exact no q8.lt z
theorem a8a{elt iter tg:Expr}{pos py spos:Pos}{y:Str}{ix:Nat}{wi:TI}{g:TG}{te:TE}(hc:X.calm=true)(k:CompOk X N scope cl nt fr)(hi:PI X tg iter wi)(gk:b1x nt g)(hg:∀C s H ex pn',PG (a0s X N scope cl C s H ex pn') tg g)(he:∀C s H ex pn',PE (a0s X N scope cl C s H ex pn') elt te)(hN:X.N.Nodup)(hi2:X.N[ix]?=some y)(hy:X.env.scope.names.lookup y=some .local)(hsw:swapsWith (.ListComp elt [⟨tg,iter,[],0⟩] scope pos) (some (.Name y py)) spos.line X.env=pure true:=by rfl)(hs:∀x,foldedSetIterable iter X.env x=pure x:=by intro _;rfl):
  PS X (.Assign [.Name y py] (.ListComp elt [⟨tg,iter,[],0⟩] scope pos) spos) (d1r (c6f wi nt fr g te) (a6j ix)):=b9u hc k hi gk hg (λ_ _ _ _ _=>c3q) he hN hi2 hy hsw hs
end
section
variable{X:Cx}
end
theorem a2l{n:Nat}{nt:Nat}{fr:List Nat}{g:TG}{te:TE}{σ:St}{H:Hp}{Q:Addr->Hp->Prop}(hz:n<sizeLine)(Pv:Addr->Nat->List V->Hp->Prop)(h0:∀D,H D=none->Pv D 0 [] (upd H D (.lst [])))(hk:∀D i acc H',Pv D i acc H'->H' D=some (.lst acc)/\acc.length=i)(hs:∀D i acc H',H D=none->i<n->Pv D i acc H'->g (.int (0+(i:Int))) (a0h nt fr σ) H' λσ2 H2=>te σ2 H2 λy H3=>H3 D=some (.lst acc)/\Pv D (i+1) (acc++[y]) (upd H3 D (.lst (acc++[y]))))(hd:∀D acc H',H D=none->Pv D n acc H'->Q D H'):
  ∀D,H D=none->∃(m:Nat)(W:Nat->List V->Hp->Prop),W 0 [] (upd H D (.lst []))/\∀i acc H',W i acc H'->H' D=some (.lst acc)/\acc.length<sizeLine /\
   (((Itr 0 n).stop i H'/\Q D H')\/(i<m/\(Itr 0 n).go i H'/\∀x H2,(Itr 0 n).yld i H' x H2->g x (a0h nt fr σ) H2 λσ2 H3=>te σ2 H3 λy H4=>H4 D=some (.lst acc)/\W (i+1) (acc++[y]) (upd H4 D (.lst (acc++[y]))))):=by
 intro D hD;refine⟨n,λi acc H'=>i<=n/\Pv D i acc H',⟨Nat.zero_le _,h0 D hD⟩,?_⟩;rintro i acc H' ⟨hi,p⟩;obtain⟨k1,k2⟩:=hk D i acc H' p;refine⟨k1,by lia,?_⟩
 by_cases h:i<n
 ·refine .inr ⟨h,h,?_⟩
  rintro x H2 ⟨rfl,rfl⟩;have key:=hs D i acc _ hD h p;have e:(λ(σ2:St) (H2:Hp)=>te σ2 H2 λy H3=>H3 D=some (.lst acc)/\Pv D (i+1) (acc++[y]) (upd H3 D (.lst (acc++[y]))))=(λ(σ2:St) (H3:Hp)=>te σ2 H3 λy H4=>H4 D=some (.lst acc)/\i+1<=n/\Pv D (i+1) (acc++[y]) (upd H4 D (.lst (acc++[y])))):=by
   funext σ2 H3;have:(λ(y:V) (H3:Hp)=>H3 D=some (.lst acc)/\Pv D (i+1) (acc++[y]) (upd H3 D (.lst (acc++[y]))))=(λ(y:V) (H4:Hp)=>H4 D=some (.lst acc)/\i+1<=n/\Pv D (i+1) (acc++[y]) (upd H4 D (.lst (acc++[y])))):=by
    funext y H4;have h1:i+1<=n:=h;simp[h1]
   rw[this]
  rw[e] at key;exact key
 ·have e:i=n:=by lia
  subst e;exact .inl ⟨Nat.le_refl _,hd D acc H' hD p⟩
theorem a3f{X:Cx}{N:List Str}{scope:Scope}{x:Str}{c:Addr}{nt i:Nat}(clos:closureFor scope X.env=pure [(x,c)])(kind:scope.kind=.function)(cell:∀y∈scope.names,y.2≠.cell)(names:∀y∈scope.names,y.2=.local->scope.names.lookup y.1=some .local)(sub:X.env.cells.lookup x=some c)(has:((relabel scope X.env).names.all λy=>!(y.2 == .cell || y.2 == .free) || ([(x,c)].lookup y.1).isSome)=true)(len:N.length=nt+1)(hN:N[nt]?=some x)(hX:X.N[i]?=some x)(hk:X.env.kindOf x=some .cell)(hr:(relabel scope X.env).names.lookup x=some .cell):CompOk X N scope [(x,c)] nt [i] :=
 ⟨clos,kind,cell,names,λp hp=>(by
  rw[List.mem_singleton] at hp;subst hp;exact sub),has,len,λj i' h=>(by
  cases j with
  | zero=>cases h;exact⟨x,hN,hX,.inl hk,.inl hr⟩
  | succ j=>cases h)⟩
end L2
namespace L2
open PySem PySem.Spec PyProof.Rows
section
variable{X:Cx}{pins:List (Addr×Obj)}{σ:St}{H:Hp}{s:Shared}{h':Heap}
end
section
variable{X:Cx}
theorem a1j{K:Frag}{es:List Expr}{k:Nat}{t:TGs}{n:Nat}{pos:Pos}(hc:X.calm=true)(h:PGs X es t)(hK:X.K=K:=by rfl)(hn:(assignEach es X.env).length=n:=by rfl)(hst:(assignEach es X.env).findIdx? (·.1)=none:=by rfl):PG X (.Tuple es k pos) (d3r K n t):=hK ▸ d2b hc h hn hst
theorem c1w{N:List Str}{scope:Scope}{x y:Str}{c d:Addr}{nt i j:Nat}(clos:closureFor scope X.env=pure [(x,c),(y,d)])(kind:scope.kind=.function)(cell:∀y∈scope.names,y.2≠.cell)(names:∀y∈scope.names,y.2=.local->scope.names.lookup y.1=some .local)(sub:X.env.cells.lookup x=some c)(sub2:X.env.cells.lookup y=some d)(has:((relabel scope X.env).names.all λz=>!(z.2 == .cell || z.2 == .free) || ([(x,c),(y,d)].lookup z.1).isSome)=true)(len:N.length=nt+2)(hN:N[nt]?=some x)(hN2:N[nt+1]?=some y)(hX:X.N[i]?=some x)(hX2:X.N[j]?=some y)(hk:X.env.kindOf x=some .cell)(hk2:X.env.kindOf y=some .cell)(hr:(relabel scope X.env).names.lookup x=some .cell)(hr2:(relabel scope X.env).names.lookup y=some .cell):CompOk X N scope [(x,c),(y,d)] nt [i,j] :=
 ⟨clos,kind,cell,names,λp hp=>(by
  simp only[List.mem_cons,List.not_mem_nil,or_false] at hp;rcases hp with rfl|rfl
  ·exact sub
  ·exact sub2),has,len,λm i' h=>(by
  match m,h with
  | 0,h=>cases h;exact⟨x,hN,hX,.inl hk,.inl hr⟩
  | 1,h=>cases h;exact⟨y,hN2,hX2,.inl hk2,.inl hr2⟩
  | m+2,h=>cases h)⟩
end
end L2
namespace L2
open PySem PySem.Spec PyProof.Rows
section
variable{X:Cx}{k j:Nat}{ps:List Str}{sp:Sp}{E:XK}{x:Str}{p pos:Pos}{e:Expr}{es:List Expr}{t:TA}
end
structure ExM(mg:Str->Option Value)(x:Str)(C:Addr):Prop where
 m:mg x=some (.ref C)
theorem b0y{X:Cx}{x:Str}{C:Addr}{pos:Pos}(T:ExM X.mg x C)(hg:Gl X x)(hd:(x == ("__debug__":Str))=false:=by decide):PE X (.Name x pos) (tC (.ref C)):=b0x hg T.m rfl hd
end L2
namespace L2
open PySem PySem.Spec PyProof.Rows
section
variable{X:Cx}{pins:List (Addr×Obj)}{σ:St}{H:Hp}{s:Shared}{N:List Str}{scope:Scope}{cl:List (Str×Addr)}{nt:Nat}{fr:List Nat}
end
end L2
namespace L2
open PySem PySem.Spec PyProof.Rows SeqAt
def d0r(s:Stmt):List Stmt:=match s with
 | .ClassDef _ _ _ b ..=>b
 | _=>[]
def a0z(s:Stmt)(j:Nat):Stmt:=(d0r s).getD j (.Pass ⟨0,0,0,0⟩)
structure MethT(P:Program)(w:World)(K:Frag)(mg:Str->Option Value)(base:Heap)(C:Addr)(m:Str)(k:Nat)(ps:List Str)(sp:Sp):Prop where
 ex:∃(f:Addr)(fd:FuncData),FnOk P w K mg base (CXK P w) k f fd ps sp/\d3n K C m f/\Binds K fd ps []
structure DefM(K:Frag)(C:Addr)(m qual:Str)(st:Stmt)(ps:List Str):Prop where
 ex:∃(f:Addr)(fd:FuncData),Fun K m qual st f fd/\d3n K C m f/\Binds K fd ps []
theorem DefM.fn{P:Program}{w:World}{K:Frag}{mg:Str->Option Value}{base:Heap}{C:Addr}{m qual:Str}{st:Stmt}{N ps:List Str}{k:Nat}{sp:Sp}(D:DefM K C m qual st ps)(S:i8 N ps (g6 st))(len:∀vs H Q E,sp vs H Q E->vs.length=ps.length)(hbody:∀(f:Addr) (cdv:Value) (A:Around) (outer:List Env) (s:Shared) (H:Hp) (vs:List V) (Q:VK) (E:XK),Room k (A.deeper (envOfC qual (g6 st) s.heap.objs.size f cdv))->sp vs H Q E ->
   ∃t,PSs (a8h (CXK P w) P w K mg base N qual (g6 st) f cdv A outer s H E) (a1f st) t/\t { nx:=λ_ H'=>Q .non H',rt:=Q } (start N vs) H):MethT P w K mg base C m (k+1) ps sp:=by
 obtain⟨f,fd,F,hm,hb⟩:=D.ex;exact⟨f,fd,F.okX S len (hbody f),hm,hb⟩
theorem DefM.mk'{K:Frag}{C:Addr}{m qual:Str}{st:Stmt}{ps:List Str}{f:Addr}{oc:Value}{od an:Option Addr}{osl:Array (Option Value)}{kV doc pm cdv ct:Value}(a:findIn K (.ref C) m=some (some (.ref f)))(i:isFn K (.ref f)=true)(l:K.lookup f=some ⟨oc,od,.func (PySem.W.fnOf m qual (a2b st) (a1f st) (g6 st) .none kV doc pm an cdv ct),osl⟩)(c:codeIn K cdv qual=true)(k:keepIn K (.ref f)=true)(hb:∀(kV doc pm:Value) (an:Option Addr) (cdv ct:Value) (us:List Value),us.length=ps.length->bindArgs (PySem.W.fnOf m qual (a2b st) (a1f st) (g6 st) .none kV doc pm an cdv ct) ⟨us,[]⟩=pure (ps.zip us)):DefM K C m qual st ps :=
 have F:=c5h (st:=st) (x:=m) (qual:=qual) l c k
 ⟨_,_,F,⟨a,i,k⟩,F.binds hb⟩
structure c2z(P:Program)(w:World)(K:Frag)(mg:Str->Option Value)(base:Heap)(x:Str)(C:Addr)(k:Nat)(ps:List Str)(sp:Sp):Prop where
 ex:∃(f:Addr)(fd:FuncData),FnOk P w K mg base (CXK P w) k f fd ps sp/\Mk K C f/\mg x=some (.ref C)/\Binds K fd ps []
theorem MethT.make{P:Program}{w:World}{K:Frag}{mg:Str->Option Value}{base:Heap}{x:Str}{C:Addr}{k:Nat}{ps:List Str}{sp:Sp}(M:MethT P w K mg base C "__init__" k ps sp)(mk:makesIn K C=true)(kp:keepIn K (.ref C)=true)(hm:mg x=some (.ref C)):
  c2z P w K mg base x C k ps sp:=by
 obtain⟨f,fd,F,hM,hb⟩:=M.ex;exact⟨f,fd,F,⟨mk,hM.at_,hM.fn,kp⟩,hm,hb⟩
def tMt(C:Addr)(m:Str)(sp:Sp)(E:XK)(ta:TE)(t:TA):TE:=λσ H Q=>ta σ H λx H1=>∃a dx fs,x=.ref a/\H1 a=some (.ins C dx fs)/\fs.lookup m=none/\t σ H1 λvs H2=>sp (x::vs) H2 Q E
def tMk(C:Addr)(sp:Sp)(E:XK)(t:TA):TE:=λσ H Q=>t σ H λvs H1=>∀x dx,H1 x=none->H1 dx=none->dx≠x ->
 sp (.ref x::vs) (upd (upd H1 dx (.own x)) x (.ins C dx [])) (λv H2=>v=.non/\Q (.ref x) H2) E
section
variable{X:Cx}{k j:Nat}{C:Addr}{ps:List Str}{sp:Sp}{E:XK}{J:St->XK}{x m:Str}{p pos apos:Pos}{e o:Expr}{es:List Expr}{ta:TE}{t:TA}{pl:Sem Bool}
theorem c3y(he:PE X o ta)(c:Cls X.K C)(G:MethT X.prog X.w X.K X.mg X.base C m k ps sp)(hr:Room j X.A)(hj:k<=j)(hx:a3b (CXK X.prog X.w) X E)(ha:PA X (e::es) t)(hst:starEach (e::es) X.env=(false,eval e X.env)::starEach es X.env:=by rfl)(hpl:(backTo pos (starEach es X.env)).any (·.1)=false:=by rfl)(ht:eval (.Call (.Attribute o m apos) (e::es) [] pos) X.env=(do
   let ov <- eval o X.env
   standAt apos.atName
   let (f,first) <- holding [ov] (getMethod ov m pl)
   callWith pos f first (backTo pos (starEach (e::es) X.env)) (backToKw pos (keywordEach [] X.env))):=by rfl):
  PE X (.Call (.Attribute o m apos) (e::es) [] pos) (tMt C m sp E ta t):=by
 obtain⟨f,fd,F,hm,hb⟩:=G.ex;intro pins s σ H Q I h;refine c9m (ds:=[]) (dvs:=[]) he c hm F (hr.mono hj) hb .nil hx ha hst hpl ht pins s σ H Q I ?_;show ta σ H λx H1=>∃a dx fs,x=.ref a/\H1 a=some (.ins C dx fs)/\fs.lookup m=none/\t σ H1 λvs H2=>sp (x::(vs++[])) H2 Q E;simp only[List.append_nil];exact h
theorem c7z(he:PE X o ta)(c:Cls X.K C)(G:MethT X.prog X.w X.K X.mg X.base C m k ps sp)(hr:Room j X.A)(hj:k<=j)(hx:a3b (CXK X.prog X.w) X E)(ht:eval (.Call (.Attribute o m apos) [] [] pos) X.env=(do
   let ov <- eval o X.env
   standAt apos.atName
   let (f,first) <- holding [ov] (getMethod ov m pl)
   callWith pos f first (backTo pos (starEach [] X.env)) (backToKw pos (keywordEach [] X.env))):=by rfl):
  PE X (.Call (.Attribute o m apos) [] [] pos) (tMt C m sp E ta c9a):=by
 obtain⟨f,fd,F,hm,hb⟩:=G.ex;exact c6r (ds:=[]) (dvs:=[]) he c hm F (hr.mono hj) hb .nil hx ht
theorem c6q(G:c2z X.prog X.w X.K X.mg X.base x C k ps sp)(hr:Room j X.A)(hj:k+1<=j)(hg:Gl X x)(hx:a3b (CXK X.prog X.w) X E)(ha:PA X (e::es) t)(hdb:(x == ("__debug__":Str))=false:=by decide)(he:starEach (e::es) X.env=(false,eval e X.env)::starEach es X.env:=by rfl)(hpl:(backTo pos (starEach es X.env)).any (·.1)=false:=by rfl):PE X (.Call (.Name x p) (e::es) [] pos) (tMk C sp E t):=by
 obtain⟨f,fd,F,M,hm,hb⟩:=G.ex;intro pins s σ H Q I h;refine c9n (ds:=[]) (dvs:=[]) M F (hr.mono hj) hg hm hb .nil hx ha hdb he hpl pins s σ H Q I ?_;show t σ H λvs H1=>∀x dx,H1 x=none->H1 dx=none->dx≠x->sp (.ref x::(vs++[])) (upd (upd H1 dx (.own x)) x (.ins C dx [])) (λv H2=>v=.non/\Q (.ref x) H2) E;simp only[List.append_nil];exact h
end
section
variable{X:Cx}{o e value:Expr}{f:Str}{pos pos' tpos:Pos}{ta tv:TE}
theorem m4{K:Frag}(he:PE X e ta)(hK:X.K=K:=by rfl)(hb:attributeBase e f X.env (eval e X.env)=eval e X.env:=by rfl):PE X (.Attribute e f pos) (d4d K ta f):=hK ▸ d2d he hb
theorem m9{K:Frag}(ha:PE X o ta)(hv:PE X value tv)(hK:X.K=K:=by rfl)(hs:swapsWith value (some (.Attribute o f pos')) pos.line X.env=pure false:=by rfl):PS X (.Assign [.Attribute o f pos'] value pos) (d4g K ta tv f):=hK ▸ d1y ha hv hs
end
def KTup(K:Frag)(p:Addr)(xs:List V):Prop:=∃(its:Array Value)(n:Nat)(sl:Array (Option Value)),K.lookup p=some ⟨.type "tuple",none,.seq its n,sl⟩/\its.size<=sizeLine/\Vals xs its.toList
theorem KTup.sq{K:Frag}{p:Addr}{xs:List V}{H:Hp}(h:KTup K p xs):SqT K H p xs:=by obtain⟨its,n,sl,a,b,c⟩:=h;exact .inr ⟨_,its,n,a,rfl,rfl,b,c⟩
theorem KTup.ty{K:Frag}{p:Addr}{xs:List V}{H:Hp}(h:KTup K p xs):tyV K "tuple" (.ref p) H:=by obtain⟨_,_,_,a,_,_⟩:=h;exact .inr (.inl ⟨rfl,_,a,rfl,rfl⟩)
theorem a3t{X:Cx}{x:Str}{a:Addr}{pos:Pos}(hm:X.mg x=some (.ref a))(hg:Gl X x)(hd:(x == ("__debug__":Str))=false:=by decide):PE X (.Name x pos) (tC (.ref a)):=b0x hg hm rfl hd
theorem b7i(l:Addr)(a b:Value)(n:Nat)(dd:Option Addr)(sl:Array (Option Value))(x:Value)(e:Value->Bool)(j:Nat)(hj:j=if e a then 0 else 1)(hit:e a=true\/e b=true):
  Meets (Builtin.«tuple.index» ⟨[.ref l,x],[]⟩)
   (λA R s=>s.heap.get? l=some { cls:=.type "tuple",dict:=dd,data:=.seq #[a,b] n,slots:=sl }/\(∀y,y ∈ #[a,b]->EqAt A.in1 s y x (e y))/\R (.ok (.ret (.int j s.toks))) { s with toks:=s.toks+1 }):=by
 intro prog w A R s h;obtain⟨hp,g,d,tk,os⟩:=s;obtain⟨hl,he,h⟩:=h;unfold Builtin.«tuple.index»;simp only[Std.Legacy.Range.forIn_eq_forIn_range']
 wp_walk using wpAny_loadPart' hl
 have e0:[:min #[a,b].size #[a,b].size].size=2:=by simp[Std.Legacy.Range.size]
 generalize hL:[:min #[a,b].size #[a,b].size].size=N at e0 ⊢;subst e0;change wpAny (model prog w) A.in1 (List.forIn'.loop [0,1] _ [0,1] (none,()) _) _ _ _;change wpAny (model prog w) A.in1 ((eqBool a x >>= _) >>= _) _ _ _;refine wpAny_bind ?_;refine wpAny_bind (he a (by simp) prog w _ _ ?_)
 cases ea:e a with
 | true=>
  rw[ea] at hj;subst hj
  wp_walk
  exact h
 | false=>
  rw[ea] at hj;subst hj;refine wpAny_pure ?_;change wpAny (model prog w) A.in1 ((eqBool b x >>= _) >>= _) _ _ _;refine wpAny_bind ?_;refine wpAny_bind (he b (by simp) prog w _ _ ?_)
  rw[hit.resolve_left (by rw[ea];exact Bool.false_ne_true)]
  wp_walk
  exact h
def c3p(K:Frag):V->List V->Hp->VK->Prop:=λx vs H Q=>∃p y z1 z2,x=.ref p/\vs=[y]/\KTup K p [z1,z2]/\a8g z1=true/\a8g z2=true/\a8g y=true/\(eqV z1 y=true\/eqV z2 y=true)/\Q (.int (if eqV z1 y then 0 else 1)) H
section
variable{X:Cx}
theorem c4k:MtM X "tuple.index" (c3p X.K):=by
 intro pins s σ H x vs v us Q I rx rv h;obtain⟨p,y,z1,z2,rfl,rfl,⟨its,n,sl,lk,hz,r⟩,f1,f2,fy,hit,q⟩:=h;cases rx;obtain⟨u,rfl,ru⟩:=rv.one;obtain⟨u1,u2,eu,r1,r2⟩:=r.two;have hi:its=#[u1,u2]:=by apply Array.toList_inj.mp;rw[eu]
 subst hi;have e:=I.kIn _ _ lk;have fx:([z1,z2]:List V).all a8g=true:=by simp[f1,f2]
 have h1:eqU y u1=eqV z1 y:=c1u r1 f1;have h2:eqU y u2=eqV z2 y:=c1u r2 f2;refine call_meets F.slot_tuple_index ⟨_,e,rfl⟩ F.entry_tuple_index (F.args_tuple_index_2 _ _) (b7i p u1 u2 n none sl u (eqU y) (if eqU y u1 then 0 else 1) rfl (by rw[h1,h2];exact hit)) ⟨e,λw hw=>a8e ru fy r fx w (by simpa using hw),?_⟩
 rw[h1];refine⟨.int (if eqV z1 y then 0 else 1),H,I.tok _,?_,q⟩;by_cases c:eqV z1 y=true
 ·rw[if_pos c,if_pos c];exact⟨_,rfl⟩
 ·rw[if_neg c,if_neg c];exact⟨_,rfl⟩
theorem c2j{K:Frag}{o e:Expr}{to:TE}{t:TA}{apos cpos:Pos}(ho:PE X o to)(ha:PA X [e] t)(hK:X.K=K:=by rfl)(hbase:attributeBase o "index" X.env (eval o X.env)=eval o X.env:=by rfl)(hfew:((backTo cpos (starEach [e] X.env)).all (λx=>!x.1) && (backToKw cpos (keywordEach [] X.env)).all (λx=>x.1.isSome) && decide ([e].length+([]:List Keyword).length+(if ([]:List Keyword).isEmpty then 0 else 1)<30))=true:=by rfl)(hline:(apos.endLine == cpos.line)=true:=by rfl)(hs:starEach [e] X.env=(false,eval e X.env)::starEach [] X.env:=by rfl)(hplain:(backTo cpos (starEach [] X.env)).any (·.1)=false:=by rfl):
  PE X (.Call (.Attribute o "index" apos) [e] [] cpos) (tBM K "tuple" (c3p K) to t) :=
 hK ▸ c9p PySem.F.plainAttrs_tuple PySem.F.slot_tuple_index PySem.F.type_tuple_index (λpins s σ H x xs v us Q I rx rs q=>c4k pins s σ H x xs v us Q I rx rs q) ho ha hbase hfew hline hs hplain
end
end L2
namespace L2
open PySem PySem.Spec PyProof.Rows
section
variable{K:Frag}{σ:St}{H:Hp}{Q:VK}{i:Nat}{v x y:V}{r:R2}{ta tb:TE}{nx bk ct:St->Hp->Prop}{rt:VK}{E:XK}{C:Addr}{m:Str}{sp:Sp}{t:TA}{J:St->XK}
theorem d2q(h:σ[i]?=some (some v))(q:Q v H):d3o i σ H Q:=⟨v,h,q⟩
theorem g_c(q:Q v H):tC v σ H Q:=q
theorem d7g(q:ta σ H λx H1=>tb σ H1 λy H2=>r x y H2 Q):tOp r ta tb σ H Q:=q
theorem d7c{r:V->Hp->VK->Prop}(q:ta σ H λx H1=>r x H1 Q):tUn r ta σ H Q:=q
theorem d7p{g:Int->Int->V}{a b:Int}(q:Q (g a b) H):rI0 g (.int a) (.int b) H Q:=⟨a,b,rfl,rfl,q⟩
theorem g_I{c:Int->Int->Prop}{g:Int->Int->V}{a b:Int}(h:c a b)(q:Q (g a b) H):rI c g (.int a) (.int b) H Q:=⟨a,b,rfl,rfl,h,q⟩
theorem g_U{g:Int->V}{a:Int}(q:Q (g a) H):rU g (.int a) H Q:=⟨a,rfl,q⟩
theorem d7m(h:d3p x y=true)(q:Q (.bl (decide (x=y))) H):rEq x y H Q:=⟨h,q⟩
theorem d7h(h:d3p x y=true)(q:Q (.bl (!decide (x=y))) H):rNe x y H Q:=⟨h,q⟩
theorem c0i{n:Nat}{p q:Addr}{b:Bool}(h:EqD K H (n+1) (.ref p) (.ref q) b)(z:Q (.bl b) H):d6h K n (.ref p) (.ref q) H Q:=⟨p,q,b,rfl,rfl,h,z⟩
theorem c5b{n:Nat}{p q:Addr}{b:Bool}(h:EqD K H (n+1) (.ref p) (.ref q) b)(z:Q (.bl (!b)) H):d6f K n (.ref p) (.ref q) H Q:=⟨p,q,b,rfl,rfl,h,z⟩
theorem a3w{p:Addr}{xs:List V}{j:Int}(h:H p=some (.lst xs))(e:atI xs j=some v)(q:Q v H):d4k K (.ref p) (.int j) H Q:=⟨p,xs,j,v,rfl,rfl,SqL.of h,e,q⟩
theorem c0h{p:Addr}{xs:List V}{j:Int}(h:H p=some (.tup xs))(e:atI xs j=some v)(q:Q v H):d4j K (.ref p) (.int j) H Q:=⟨p,xs,j,v,rfl,rfl,SqT.of h,e,q⟩
theorem d5g{p:Addr}{xs:List V}(h:H p=some (.lst xs))(q:Q (.int xs.length) H):d4i K [.ref p] H Q:=⟨p,xs,rfl,.inl (SqL.of h),q⟩
theorem d3d{p:Addr}{xs:List V}(h:H p=some (.lst xs))(q:∀l,H l=none->Q (.ref l) (upd H l (.lst xs))):b6b K [.ref p] H Q:=⟨p,xs,rfl,.inl (SqL.of h),q⟩
theorem d6l{r:List V->Hp->VK->Prop}(q:t σ H λvs H1=>r vs H1 Q):tCB r t σ H Q:=q
theorem d0h{Q:List V->Hp->Prop}(q:Q [] H):c9a σ H Q:=q
theorem c8k{Q:List V->Hp->Prop}(q:ta σ H λx H1=>t σ H1 λxs H2=>Q (x::xs) H2):c6e ta t σ H Q:=q
theorem d4y(q:t σ H λxs H1=>xs.length<=sizeLine/\∀p,H1 p=none->Q (.ref p) (upd H1 p (.tup xs))):d5w t σ H Q:=q
theorem d5f(q:t σ H λxs H1=>xs.length<=sizeLine/\∀p,H1 p=none->Q (.ref p) (upd H1 p (.lst xs))):d6b t σ H Q:=q
theorem d7l(q:t σ H λvs H1=>sp vs H1 Q E):tFn sp E t σ H Q:=q
theorem d5j(q:t σ H λvs H1=>sp vs H1 Q (J σ)):c3g sp J t σ H Q:=q
theorem d5k{f:Str}(q:ta σ H λx H1=>∃a C dx fs v,x=.ref a/\H1 a=some (.ins C dx fs)/\Cls K C/\NoAttr K C f/\fs.lookup f=some v/\Q v H1):d4d K ta f σ H Q:=q
theorem d3g{f:Str}{a dx:Addr}{fs:List (Str×V)}{R:V->Prop}(h:H a=some (.ins C dx fs))(c:Cls K C)(n:NoAttr K C f)(l:fs.lookup f=some v)(q:R v):
  ∃a' C dx fs v,V.ref a=.ref a'/\H a'=some (.ins C dx fs)/\Cls K C/\NoAttr K C f/\fs.lookup f=some v/\R v:=⟨a,C,dx,fs,v,rfl,h,c,n,l,q⟩
theorem d7i(q:ta σ H λx H1=>∃a dx fs,x=.ref a/\H1 a=some (.ins C dx fs)/\fs.lookup m=none/\t σ H1 λvs H2=>sp (x::vs) H2 Q E):tMt C m sp E ta t σ H Q:=q
theorem d5e{a dx:Addr}{fs:List (Str×V)}{R:Prop}(h:H a=some (.ins C dx fs))(l:fs.lookup m=none)(q:R):∃a' dx fs,V.ref a=.ref a'/\H a'=some (.ins C dx fs)/\fs.lookup m=none/\R:=⟨a,dx,fs,rfl,h,l,q⟩
theorem d7j(q:t σ H λvs H1=>∀x dx,H1 x=none->H1 dx=none->dx≠x->sp (.ref x::vs) (upd (upd H1 dx (.own x)) x (.ins C dx [])) (λv H2=>v=.non/\Q (.ref x) H2) E):tMk C sp E t σ H Q:=q
theorem d2t{Q:Bool->Hp->Prop}(q:ta σ H λx H'=>∃k,x=.bl k/\Q k H'):c8z ta σ H Q:=q
theorem d7d{Q:Bool->Hp->Prop}(q:ta σ H λx H'=>∃k,x=.bl k/\Q k H'):tB ta σ H Q:=q
theorem d7o{Q:Bool->Prop}{b:Bool}(q:Q b):∃k,V.bl b=.bl k/\Q k:=⟨b,rfl,q⟩
theorem d5m{u w:TT}{Q:Bool->Hp->Prop}(q:u σ H λc H1=>if c=true then w σ H1 Q else Q false H1):d6d u w σ H Q:=q
theorem d7f{u w:TT}{Q:Bool->Hp->Prop}(q:u σ H λc H1=>if c=true then Q true H1 else w σ H1 Q):tOr u w σ H Q:=q
theorem d5d{u:TT}{Q:Bool->Hp->Prop}(q:u σ H λc H1=>Q (!c) H1):d6a u σ H Q:=q
theorem d3j(q:ta σ H λx H1=>∃c,x=.bl c/\if c=true then tb σ H1 Q else Q (.bl false) H1):d1s ta tb σ H Q:=q
theorem d5c(q:ta σ H λx H1=>∃c,x=.bl c/\if c=true then Q (.bl true) H1 else tb σ H1 Q):d5z ta tb σ H Q:=q
theorem d5h{u:TT}(q:u σ H λc H1=>if c=true then ta σ H1 Q else tb σ H1 Q):tIf u ta tb σ H Q:=q
theorem d3a(q:nx σ H):c9b ⟨nx,rt,bk,ct⟩ σ H:=q
theorem d3h(q:ta σ H λ_ H1=>nx σ H1):d1p ta ⟨nx,rt,bk,ct⟩ σ H:=q
theorem d5b(q:ta σ H rt):d5y ta ⟨nx,rt,bk,ct⟩ σ H:=q
theorem d7k{c:TT}{s u:TS}{D:Ends}(q:c σ H λb H1=>if b=true then s D σ H1 else u D σ H1):d4c c s u D σ H:=q
theorem d5l{g:TG}(q:ta σ H λx H1=>g x σ H1 nx):d1r ta g ⟨nx,rt,bk,ct⟩ σ H:=q
theorem a2a{k:St->Hp->Prop}(q:k (σ.set i (some v)) H):a6j i v σ H k:=q
theorem d4z{ts:d3t}{k:St->Hp->Prop}(q:ta σ H λo H1=>tb σ H1 λj H2=>ts o j v H2 λH3=>k σ H3):d6m ta tb ts v σ H k:=q
theorem b8z{p:Addr}{xs:List V}{z:Int}{j:Nat}{k:Hp->Prop}(h:H p=some (.lst xs))(e:ixN xs.length z=some j)(q:k (upd H p (.lst (xs.set j v)))):d1u (.ref p) (.int z) v H k:=⟨p,xs,z,j,rfl,rfl,h,e,q⟩
theorem d2u{f:Str}(q:tb σ H λy H1=>ta σ H1 λx H2=>∃a C dx fs,x=.ref a/\H2 a=some (.ins C dx fs)/\Cls K C/\NoAttr K C f/\fs.length<1000/\nx σ (upd H2 a (.ins C dx (b6d f y fs)))):d4g K ta tb f ⟨nx,rt,bk,ct⟩ σ H:=q
theorem d0f{f:Str}{a dx:Addr}{fs:List (Str×V)}{R:Addr->Addr->Addr->List (Str×V)->Prop}(h:H a=some (.ins C dx fs))(c:Cls K C)(n:NoAttr K C f)(l:fs.length<1000)(q:R a C dx fs):
  ∃a' C dx fs,V.ref a=.ref a'/\H a'=some (.ins C dx fs)/\Cls K C/\NoAttr K C f/\fs.length<1000/\R a' C dx fs:=⟨a,C,dx,fs,rfl,h,c,n,l,q⟩
theorem d0e{c:Addr}{tb:(St->XK)->TS}{th:TS}(q:tb (λσ1 C _ H'=>exmOne K C (.ref c)=some true/\∀a,H' a=none->th ⟨λσ H=>nx (σ.set i none) H,rt,λσ H=>bk (σ.set i none) H,λσ H=>ct (σ.set i none) H⟩ (σ1.set i (some (.ref a))) (upd H' a (c2u a C))) ⟨nx,rt,bk,ct⟩ σ H):
  c7s K c i tb th ⟨nx,rt,bk,ct⟩ σ H:=q
theorem c7h{t cv:Value}{c:V}{b:Bool}(ty:TyX K H x t)(hc:c5z c=some cv)(hk:kitOne K t cv=some b)(q:Q (.bl b) H):d6g K [x,c] H Q:=⟨x,c,t,cv,b,rfl,ty,hc,hk,q⟩
theorem c8j{a C tp:Addr}{cs:List V}{cvs:List Value}{b:Bool}(ha:H a=some (c2u a (.ref C)))(hk:ExK K C)(ht:H tp=some (.tup cs))(hc:cs.map c5z=cvs.map some)(he:PySem.W.kitAny K (.ref C) cvs=some b)(q:Q (.bl b) H):d1w K [.ref a,.ref tp] H Q:=⟨a,C,tp,cs,cvs,b,rfl,ha,hk,ht,hc,he,q⟩
theorem d0g(q:t σ H λvs H1=>vs.length<=sizeLine/\E (.ref C) none H1){D:Ends}:c0u C E t D σ H:=q
theorem d7n{T:String}{r:V->List V->Hp->VK->Prop}(q:ta σ H λx H1=>tyV K T x H1/\t σ H1 λxs H2=>r x xs H2 Q):tBM K T r ta t σ H Q:=q
theorem c7k{p:Addr}{xs:List V}(h:H p=some (.lst xs))(l:xs.length<sizeLine)(q:Q .non (upd H p (.lst (xs++[y])))):b6c (.ref p) [y] H Q:=⟨p,xs,y,rfl,rfl,h,l,q⟩
theorem d4x{p:Addr}{xs:List V}{R:Prop}(h:H p=some (.lst xs))(q:R):tyV K "list" (.ref p) H/\R:=⟨.inl ⟨rfl,xs,SqL.of h⟩,q⟩
theorem b4d{p q:Addr}{xs ys:List V}(h:H p=some (.lst xs))(h':H q=some (.lst ys))(l:xs.length+ys.length<=sizeLine)(k:∀z,H z=none->Q (.ref z) (upd H z (.lst (xs++ys)))):d4l (.ref p) (.ref q) H Q:=⟨p,q,xs,ys,rfl,rfl,h,h',l,k⟩
end
theorem x8{c:Prop}[Decidable c]{A B:Prop}(h1:c->A)(h2:¬ c->B):if decide c=true then A else B:=by
 by_cases h:c
 ·rw[decide_eq_true h];exact d4p (h1 h)
 ·rw[decide_eq_false h];exact d4s (h2 h)
theorem a2s{c:Prop}[Decidable c]{A B:Prop}(h1:¬ c->A)(h2:c->B):if (!decide c)=true then A else B:=by
 by_cases h:c
 ·rw[decide_eq_true h];exact d4s (h2 h)
 ·rw[decide_eq_false h];exact d4p (h1 h)
end L2
namespace L2
open PySem PySem.Spec PyProof.Rows
section
variable{K:Frag}{σ:St}{H:Hp}{ta:TE}{t:TA}
theorem d5i{wi:TI}{g:TG}{tb:TS}{D:Ends}(q:wi σ H λJ H1=>∃W:Nat->Nat->St->Hp->Prop,(∃m,W 0 m σ H1)/\∀i m σ H,W i m σ H ->
  (J.stop i H/\D.nx σ H)\/(J.go i H/\∃N:St->Hp->Prop,(∀σ' H',N σ' H'->∃m',m'<m/\W (i+1) m' σ' H')/\∀x H',J.yld i H x H'->g x σ H' λσ2 H2=>tb { D with nx:=N,ct:=N,bk:=D.nx } σ2 H2)):d6c wi g tb D σ H:=q
theorem d2y{R:It->Hp->Prop}(q:t σ H λvs H1=>∃j:Int,vs=[.int j]/\-(2 ^ 62)<=j/\j<2 ^ 62/\R (Itr 0 j.toNat) H1):d2p t σ H R:=q
theorem d2x{R:It->Hp->Prop}(q:t σ H λvs H1=>∃i j:Int,vs=[.int i,.int j]/\(-(2 ^ 62)<=i/\i<2 ^ 62/\-(2 ^ 62)<=j/\j<2 ^ 62)/\R (Itr i (j-i).toNat) H1):d2o t σ H R:=q
theorem c8h{N:Int}{R:Int->Prop}(h1:-(2 ^ 62)<=N)(h2:N<2 ^ 62)(q:R N):∃j,[V.int N]=[.int j]/\-(2 ^ 62)<=j/\j<2 ^ 62/\R j:=⟨N,rfl,h1,h2,q⟩
theorem d3b{R:It->Hp->Prop}(q:ta σ H λx H1=>∃a,x=.ref a/\(∃xs,SqL K H1 a xs)/\R (Itl K a) H1):c9z K ta σ H R:=q
theorem d3c{a:Addr}{xs:List V}{R:Addr->Prop}(h:SqL K H a xs)(q:R a):∃a',V.ref a=.ref a'/\(∃xs,SqL K H a' xs)/\R a':=⟨a,rfl,⟨xs,h⟩,q⟩
theorem d3i{wi:TI}{nt:Nat}{fr:List Nat}{g:TG}{te:TE}{Q:VK}(q:wi σ H λJ H1=>∀D,H1 D=none->∃(n:Nat) (W:Nat->List V->Hp->Prop),W 0 [] (upd H1 D (.lst [])) /\
 ∀i acc H,W i acc H->H D=some (.lst acc)/\acc.length<sizeLine /\
  ((J.stop i H/\Q (.ref D) H)\/(i<n/\J.go i H/\∀x H',J.yld i H x H'->g x (a0h nt fr σ) H' λσ2 H2=>te σ2 H2 λy H3=>H3 D=some (.lst acc)/\W (i+1) (acc++[y]) (upd H3 D (.lst (acc++[y])))))):c6f wi nt fr g te σ H Q:=q
theorem a5j{a b:TS}{nx bk ct:St->Hp->Prop}{rt:VK}(M:St->Hp->Prop)(hb:∀σ' H',M σ' H'->b ⟨nx,rt,bk,ct⟩ σ' H')(ha:∀R:St->Hp->Prop,(∀σ' H',M σ' H'->R σ' H')->a ⟨R,rt,bk,ct⟩ σ H):d3z a b ⟨nx,rt,bk,ct⟩ σ H:=ha _ hb
theorem d4q{A B:Prop}(h:B):if (!true)=true then A else B:=h
theorem d4r{A B:Prop}(h:A):if (!false)=true then A else B:=h
theorem c0k{n:Nat}{nt:Nat}{fr:List Nat}{g:TG}{te:TE}{f:Nat->V}{Q:Addr->Hp->Prop}(hz:n<sizeLine)(hs:∀(i:Nat) (H':Hp) (k:VK),i<n->Same H H'->k (f i) H'->g (.int (0+(i:Int))) (a0h nt fr σ) H' λσ2 H2=>te σ2 H2 k)(hd:∀D,H D=none->Q D (upd H D (.lst ((List.range n).map f)))):
  ∀D,H D=none->∃(m:Nat)(W:Nat->List V->Hp->Prop),W 0 [] (upd H D (.lst []))/\∀i acc H',W i acc H'->H' D=some (.lst acc)/\acc.length<sizeLine /\
   (((Itr 0 n).stop i H'/\Q D H')\/(i<m/\(Itr 0 n).go i H'/\∀x H2,(Itr 0 n).yld i H' x H2->g x (a0h nt fr σ) H2 λσ2 H3=>te σ2 H3 λy H4=>H4 D=some (.lst acc)/\W (i+1) (acc++[y]) (upd H4 D (.lst (acc++[y]))))):=by
 refine a2l hz (λD i acc H'=>acc=(List.range i).map f/\H'=upd H D (.lst acc)) (λD hD=>⟨rfl,rfl⟩) ?_ ?_ ?_
 ·rintro D i acc H' ⟨rfl,rfl⟩
  exact⟨d8,by rw[List.length_map,List.length_range]⟩
 ·rintro D i acc H' hD hi ⟨rfl,rfl⟩
  refine hs i _ _ hi (λb u e=>by rw[f9 (g9 e hD)];exact e) ⟨d8,?_,?_⟩
  ·rw[List.range_succ,List.map_append];rfl
  ·rw[c8t]
 ·rintro D acc H' hD ⟨rfl,rfl⟩
  exact hd D hD
theorem a2m{a:Addr}{xs:List V}{nt:Nat}{fr:List Nat}{g:TG}{te:TE}{Q:Addr->Hp->Prop}(hz:xs.length<sizeLine)(Pv:Addr->Nat->List V->Hp->Prop)(h0:∀D,H D=none->Pv D 0 [] (upd H D (.lst [])))(hk:∀D i acc H',Pv D i acc H'->H' D=some (.lst acc)/\acc.length=i/\SqL K H' a xs)(hs:∀D i x acc H',H D=none->xs[i]?=some x->Pv D i acc H'->g x (a0h nt fr σ) H' λσ2 H2=>te σ2 H2 λy H3=>H3 D=some (.lst acc)/\Pv D (i+1) (acc++[y]) (upd H3 D (.lst (acc++[y]))))(hd:∀D acc H',H D=none->Pv D xs.length acc H'->Q D H'):
  ∀D,H D=none->∃(m:Nat)(W:Nat->List V->Hp->Prop),W 0 [] (upd H D (.lst []))/\∀i acc H',W i acc H'->H' D=some (.lst acc)/\acc.length<sizeLine /\
   (((Itl K a).stop i H'/\Q D H')\/(i<m/\(Itl K a).go i H'/\∀x H2,(Itl K a).yld i H' x H2->g x (a0h nt fr σ) H2 λσ2 H3=>te σ2 H3 λy H4=>H4 D=some (.lst acc)/\W (i+1) (acc++[y]) (upd H4 D (.lst (acc++[y]))))):=by
 intro D hD;refine⟨xs.length,λi acc H'=>i<=xs.length/\(i<xs.length->Pv D i acc H')/\(i=xs.length->Pv D i acc H'),⟨Nat.zero_le _,λ_=>h0 D hD,λ_=>h0 D hD⟩,?_⟩;rintro i acc H' ⟨hi,p1,p2⟩;have p:Pv D i acc H':=by
  by_cases h:i<xs.length
  ·exact p1 h
  ·exact p2 (by lia)
 obtain⟨k1,k2,k3⟩:=hk D i acc H' p;refine⟨k1,by lia,?_⟩
 by_cases h:i<xs.length
 ·refine .inr ⟨h,⟨xs,xs[i],k3,List.getElem?_eq_getElem h⟩,?_⟩
  rintro x H2 ⟨rfl,hy⟩;have ex:xs[i]?=some x:=hy xs k3;have key:=hs D i x acc _ hD ex p;have e:(λ(σ2:St) (H2:Hp)=>te σ2 H2 λy H3=>H3 D=some (.lst acc)/\Pv D (i+1) (acc++[y]) (upd H3 D (.lst (acc++[y]))))=(λ(σ2:St) (H3:Hp)=>te σ2 H3 λy H4=>H4 D=some (.lst acc)/\i+1<=xs.length/\(i+1<xs.length->Pv D (i+1) (acc++[y]) (upd H4 D (.lst (acc++[y]))))/\(i+1=xs.length->Pv D (i+1) (acc++[y]) (upd H4 D (.lst (acc++[y]))))):=by
   funext σ2 H3;have:(λ(y:V) (H3:Hp)=>H3 D=some (.lst acc)/\Pv D (i+1) (acc++[y]) (upd H3 D (.lst (acc++[y]))))=(λ(y:V) (H4:Hp)=>H4 D=some (.lst acc)/\i+1<=xs.length/\(i+1<xs.length->Pv D (i+1) (acc++[y]) (upd H4 D (.lst (acc++[y]))))/\(i+1=xs.length->Pv D (i+1) (acc++[y]) (upd H4 D (.lst (acc++[y]))))):=by
    funext y H4;apply propext;constructor
    ·rintro⟨z1,z2⟩
     exact⟨z1,h,λ_=>z2,λ_=>z2⟩
    ·rintro⟨z1,z2,z3,z4⟩
     refine⟨z1,?_⟩;by_cases hh:i+1<xs.length
     ·exact z3 hh
     ·exact z4 (by lia)
   rw[this]
  rw[e] at key;exact key
 ·have hi':i=xs.length:=by lia
  subst hi';exact .inl ⟨⟨xs,k3,Nat.le_refl _⟩,hd D acc H' hD p⟩
end
end L2
namespace L2
open PySem PySem.Spec PyProof.Rows
section
variable{X:Cx}
variable{k j i:Nat}{E:XK}{x:Str}{p pos:Pos}{e:Expr}{es:List Expr}{t:TA}
structure d6u(K:Frag)(C:Addr)(m:Str)(f:Addr):Prop where
 ga:specialIn K (.ref C) "__getattribute__" = some (some (.builtin "type.__getattribute__"))
 mc:∃mc,PySem.W.readsIn K C mc=true/\PySem.W.findCls K (.ref C) mc m=some (.val (.ref f))
 kp:keepIn K (.ref f)=true
structure c5w(P:Program)(w:World)(K:Frag)(mg:Str->Option Value)(base:Heap)(x:Str)(m:Str)(k:Nat)(ps:List Str)(sp:Sp):Prop where
 ex:∃(C f:Addr)(fd:FuncData),FnOk P w K mg base (CXK P w) k f fd ps sp/\d6u K C m f/\mg x=some (.ref C)/\Binds K fd ps []
variable{m:Str}{apos:Pos}{ps:List Str}{sp:Sp}{pl:Sem Bool}
theorem c4b(G:c5w X.prog X.w X.K X.mg X.base x m k ps sp)(hr:Room j X.A)(hj:k<=j)(hg:Gl X x)(hx:a3b (CXK X.prog X.w) X E)(ha:PA X (e::es) t)(hdb:(x == ("__debug__":Str))=false:=by decide)(hst:starEach (e::es) X.env=(false,eval e X.env)::starEach es X.env:=by rfl)(hpl:(backTo pos (starEach es X.env)).any (·.1)=false:=by rfl)(ht:eval (.Call (.Attribute (.Name x p) m apos) (e::es) [] pos) X.env=(do
   let ov <- eval (.Name x p) X.env
   standAt apos.atName
   let (f,first) <- holding [ov] (getMethod ov m pl)
   callWith pos f first (backTo pos (starEach (e::es) X.env)) (backToKw pos (keywordEach [] X.env))):=by rfl):
  PE X (.Call (.Attribute (.Name x p) m apos) (e::es) [] pos) (tFn sp E t):=by
 obtain⟨C,f,fd,F,M,hm,hb⟩:=G.ex;intro pins s σ H Q I h;have hp:=b0x (X:=X) (x:=x) (v:=.ref C) (pos:=p) hg hm rfl hdb pins s σ H (λv H'=>v=.ref C/\H'=H) I ⟨rfl,rfl⟩;refine PySem.W.methodCall_KW (pl:=pl) (thn hp λu s1 z0_=>?_) ht;obtain⟨v,H',I1,rv,ev,eH⟩:=z0_;subst ev;subst eH;cases rv;obtain⟨mc,hrd,hfc⟩:=M.mc;refine PySem.W.method_cls I1.kIn M.ga (PySem.W.cls_value I1.kIn hrd hfc rfl ?_);have I2:=I1.tok (s1.toks+1);refine callWith_K (h₀:=X.base) I.ok.mod.kin M.kp (thn (ha pos pins _ σ H' _ I2 h) λus s2 z0_=>?_) hst hpl;obtain⟨vs,H2,I3,r,q2⟩:=z0_;refine⟨I3.kIn,?_⟩;refine b5a (ds:=[]) (dvs:=[]) F (hr.mono hj) hb .nil hx I3 r ?_;simp only[List.append_nil];exact q2
end
end L2
namespace L2
open PySem PySem.Spec PyProof.Rows
def d4a(P:Program)(w:World)(K:Frag)(mg:Str->Option Value)(base:Heap)(k:Nat)(m:Str)(E:XK)(ta:TE)(t:TA):TE:=λσ H Q=>ta σ H λx H1=>∃a C dx fs ps sp,x=.ref a/\H1 a=some (.ins C dx fs)/\fs.lookup m=none/\Cls K C/\MethT P w K mg base C m k ps sp/\t σ H1 λvs H2=>sp (x::vs) H2 Q E
section
variable{X:Cx}{k j:Nat}{E:XK}{m:Str}{pos apos:Pos}{e o:Expr}{es:List Expr}{ta:TE}{t:TA}{pl:Sem Bool}
theorem c1a(he:PE X o ta)(hr:Room j X.A)(hj:k<=j)(hx:a3b (CXK X.prog X.w) X E)(ha:PA X (e::es) t)(hst:starEach (e::es) X.env=(false,eval e X.env)::starEach es X.env:=by rfl)(hpl:(backTo pos (starEach es X.env)).any (·.1)=false:=by rfl)(ht:eval (.Call (.Attribute o m apos) (e::es) [] pos) X.env=(do
   let ov <- eval o X.env
   standAt apos.atName
   let (f,first) <- holding [ov] (getMethod ov m pl)
   callWith pos f first (backTo pos (starEach (e::es) X.env)) (backToKw pos (keywordEach [] X.env))):=by rfl):
  PE X (.Call (.Attribute o m apos) (e::es) [] pos) (d4a X.prog X.w X.K X.mg X.base k m E ta t):=by
 intro pins s σ H Q I h;refine PySem.W.methodCall_KW (pl:=pl) (thn (he pins s σ H _ I h) λu s1 z0_=>?_) ht;obtain⟨x,H1,I1,rx,a,C,dx,fs,ps,sp,ex,ea,l,c,G,q⟩:=z0_;obtain⟨f,fd,F,hm,hb⟩:=G.ex;subst ex;obtain rfl:u=Value.ref a:=rx;refine a8f I1 ea c hm l ?_;refine callWith_K (first:=[.ref a]) (h₀:=X.base) I.ok.mod.kin hm.kp (thn (ha pos pins s1 σ H1 _ I1 q) λus s2 z0_=>?_) hst hpl
 obtain⟨vs,H2,I2,r,q2⟩:=z0_;refine⟨I2.kIn,?_⟩;refine b5a (us:=.ref a::us) (vs:=.ref a::vs) (ds:=[]) (dvs:=[]) F (hr.mono hj) hb .nil hx I2 (.cons rfl r) ?_;simp only[List.append_nil];exact q2
theorem a1v(he:PE X o ta)(hr:Room j X.A)(hj:k<=j)(hx:a3b (CXK X.prog X.w) X E)(ht:eval (.Call (.Attribute o m apos) [] [] pos) X.env=(do
   let ov <- eval o X.env
   standAt apos.atName
   let (f,first) <- holding [ov] (getMethod ov m pl)
   callWith pos f first (backTo pos (starEach [] X.env)) (backToKw pos (keywordEach [] X.env))):=by rfl):
  PE X (.Call (.Attribute o m apos) [] [] pos) (d4a X.prog X.w X.K X.mg X.base k m E ta c9a):=by
 intro pins s σ H Q I h;refine PySem.W.methodCall_KW (pl:=pl) (thn (he pins s σ H _ I h) λu s1 z0_=>?_) ht;obtain⟨x,H1,I1,rx,a,C,dx,fs,ps,sp,ex,ea,l,c,G,q⟩:=z0_;obtain⟨f,fd,F,hm,hb⟩:=G.ex;subst ex;obtain rfl:u=Value.ref a:=rx;refine a8f I1 ea c hm l ?_;refine PySem.W.callWith_K0 (first:=[.ref a]) I1.kIn hm.kp (b5a (us:=[.ref a]) (vs:=[.ref a]) (ds:=[]) (dvs:=[]) F (hr.mono hj) hb .nil hx I1 (.cons rfl .nil) ?_)
 exact q
end
theorem a6i{P:Program}{w:World}{K:Frag}{mg:Str->Option Value}{base:Heap}{k:Nat}{m:Str}{E:XK}{ta:TE}{t:TA}{σ:St}{H:Hp}{Q:VK}(q:ta σ H λx H1=>∃a C dx fs ps sp,x=.ref a/\H1 a=some (.ins C dx fs)/\fs.lookup m=none/\Cls K C/\MethT P w K mg base C m k ps sp/\t σ H1 λvs H2=>sp (x::vs) H2 Q E):d4a P w K mg base k m E ta t σ H Q:=q
def d6n(K:Frag)(ta:TE)(f:Str):TG:=λv σ H Q=>ta σ H λx H1=>∃a C dx fs,x=.ref a/\H1 a=some (.ins C dx fs)/\Cls K C/\NoAttr K C f/\fs.length<1000/\Q σ (upd H1 a (.ins C dx (b6d f v fs)))
theorem b0w{X:Cx}{K:Frag}{o:Expr}{f:Str}{pos:Pos}{ta:TE}(ha:PE X o ta)(hK:X.K=K:=by rfl):PG X (.Attribute o f pos) (d6n K ta f):=by
 subst hK;intro pins s σ H v u Q I r h;rw[assign_Attribute];refine wpAny_bind (wpAny_holding (thn (ha pins s σ H _ I h) λov s1 z0_=>?_));obtain⟨x,H1,I1,rx,a,C,dx,fs,ex,ea,c,n,l,q⟩:=z0_;subst ex;obtain rfl:ov=Value.ref a:=rx;refine wpAny_bind (wpAny_standAt (wpAny_bind (wpAny_holding (b4z I1 ea c n l r λs2 I2=>?_))));exact wpAny_release ⟨σ,_,I2,q⟩
end L2
namespace L2
open PySem PySem.Spec PyProof.Rows
theorem b4n(r:Addr)(a b c i:Int)(t u v ti:Tok):
  Meets (Builtin.«range.__contains__» ⟨[.ref r,.int i ti],[]⟩) (λ_ R s=>s.heap.get? r=some { cls:=.type "range",dict:=none,data:=.fields #[.int a t,.int b u,.int c v],slots:=#[] }/\R (.ok (.ret (.bool (Builtin.Range.rangePlace? a b c i).isSome))) s) :=
 .of_wp λprog w A R s h=>by obtain⟨hp,g,d,tk,os⟩:=s;obtain⟨hl,h⟩:=h;wp_walk;exact⟨_,rfl,h⟩
theorem a8i{prog:Program}{w:World}{A:Around}{E:Value->Shared->Prop}{s:Shared}{r:Addr}{a b c i:Int}{t u v ti:Tok}{Q:Value->Shared->Prop}(hr:IsRange s.heap r a b c t u v)(h:Q (.bool (Builtin.Range.rangePlace? a b c i).isSome) s):wpAny (model prog w) A (compareOp .In (.int i ti) (.ref r)) Q E s:=by
 have hT:s.TypeIs (.ref r) "range":=⟨_,hr,rfl⟩;show wpAny _ _ (do return .bool (<- contains (.ref r) (.int i ti))) Q E s
 refine wpAny_bind ?_;unfold contains
 try with_reducible refine wpAny_holding ?_
 refine wpAny_bind (wpAny_specialOf hT F.slot_range_contains.lookup ?_);show wpAny _ _ (if (some (Value.builtin "range.__contains__") == some Value.none)=true then _ else _) _ E s;rw[if_neg (by rw[beq_builtin_none];exact Bool.false_ne_true)]
 refine wpAny_bind (wpAny_callSpecialUnlessNone?_slot (name:=Str.ofString "__contains__") hT F.slot_range_contains
  (call_meets F.slot_range_contains hT F.entry_range_contains (F.args_range_contains_2 _ _) (b4n r a b c i t u v ti) ⟨hr,?_⟩))
 exact wpAny_truthy_bool (wpAny_pure h)
def c7t(ta:TE)(tn:TA):TE:=λσ H Q=>ta σ H λx H1=>tn σ H1 λvs H2=>∃i n:Int,x=.int i/\vs=[.int n]/\Q (.bl (decide (0<=i/\i<n))) H2
theorem c3u(i n:Int):(Builtin.Range.rangePlace? 0 n 1 i).isSome=decide (0<=i/\i<n):=by
 unfold Builtin.Range.rangePlace?;by_cases h:0<=i/\i<n
 ·simp[h]
 ·simp[h]
theorem a8b{X:Cx}{a e:Expr}{ta:TE}{tn:TA}{p cp pos:Pos}(hg:Gl X "range")(hm:X.mg "range" = none)(ha:PE X a ta)(he:PA X [e] tn)(hb:behindInMarks .In (.Call (.Name "range" p) [e] [] cp)=false:=by rfl)(hs:starEach [e] X.env=[(false,eval e X.env)]:=by rfl):
  PE X (.Compare a [.In] [.Call (.Name "range" p) [e] [] cp] pos) (c7t ta tn):=by
 intro pins s σ H Q I h;refine wpAny_Compare1 (thn (ha pins s σ H _ I h) λiv s1 z0_=>?_) hb;obtain⟨x,H1,I1,rx,q1⟩:=z0_;refine Call_ (b4a I1 hg hm boot_range (PyProof.Rows.callWith_type1 (thn (he cp pins s1 σ H1 _ I1 q1) λus s2 z0_=>?_) hs rfl));obtain⟨vs,H2,I2,r2,q2⟩:=z0_;obtain⟨i,n,ex,ev,q⟩:=q2;subst ex;subst ev;obtain⟨ti,rfl⟩:=rx;cases r2 with
 | cons r rr=>
  cases rr;obtain⟨t,rfl⟩:=r;refine call_range_1 (a8i (IsRange.new ..) ?_);rw[c3u];exact⟨.bl _,H2,I2.kept (λb o e=>Heap.get?_push_of_some _ e),rfl,q⟩
end L2
namespace L2
open PySem PySem.Spec PyProof.Rows
section
variable{X:Cx}
theorem a2j{K:Frag}{tg l:Expr}{tl:TE}(hl:PE X l tl)(h:X.K=K:=by rfl):PI X tg l (d4t K tl):=h ▸ d2a hl
end
section
variable{K:Frag}{σ:St}{H:Hp}{ta:TE}{t:TA}
theorem d2r{R:It->Hp->Prop}(q:ta σ H λx H1=>∃a,x=.ref a/\(∃xs,SqT K H1 a xs)/\R (Itt K a) H1):d4t K ta σ H R:=q
theorem a5e{a:Addr}{xs:List V}{R:Addr->Prop}(h:SqT K H a xs)(q:R a):∃a',V.ref a=.ref a'/\(∃xs,SqT K H a' xs)/\R a':=⟨a,rfl,⟨xs,h⟩,q⟩
theorem d0i{tn:TA}{Q:VK}(q:ta σ H λx H1=>tn σ H1 λvs H2=>∃i n:Int,x=.int i/\vs=[.int n]/\Q (.bl (decide (0<=i/\i<n))) H2):c7t ta tn σ H Q:=q
end
section
variable{X:Cx}{body suite:List Stmt}{b₀:Stmt}{x y n:Str}{np np2 hpos pos tpos:Pos}{kk:Nat}{c d:Addr}{i:Nat}{tb:(St->XK)->TS}{th:TS}
end
end L2
namespace L2
open PySem PySem.Spec PyProof.Rows
section
variable{X:Cx}
end
section
variable{K:Frag}{σ:St}{H:Hp}
theorem d7e{r:V->Option Int->Option Int->Hp->VK->Prop}{te:TE}{tl th:TO}{Q:VK}(q:te σ H λx H1=>tl σ H1 λl H2=>th σ H2 λu H3=>r x l u H3 Q):tSl r te tl th σ H Q:=q
theorem c7g{Q:Option Int->Hp->Prop}(q:Q none H):c3e σ H Q:=q
theorem d2z{te:TE}{Q:Option Int->Hp->Prop}(q:te σ H λx H1=>∃i,x=.int i/\Q (some i) H1):d1m te σ H Q:=q
end
end L2
namespace L2
open PySem PySem.Spec PyProof.Rows
theorem b2m{xs:List V}{us:List Value}(r:Vals xs us):∀L:List Nat,Vals (L.filterMap λx=>xs[x]?) (L.filterMap λx=>us[x]?)
 | []=>.nil
 | i::L=>by
  rw[List.filterMap_cons,List.filterMap_cons];cases e:xs[i]? with
  | none=>rw[r.none_of e];exact b2m r L
  | some x=>
   obtain⟨u,e2,rx⟩:=r.get e;rw[e2];exact .cons rx (b2m r L)
section
variable{X:Cx}{e:Expr}{te:TE}{lo hi:Option Expr}{se:Expr}{tl th ts:TO}{pos p2:Pos}
end
end L2
namespace L2
open PySem PySem.Spec PyProof.Rows
def Hid(n m:St->Hp->Prop):Prop:=n=m
def d6s(m:St->Hp->Prop)(F:(St->Hp->Prop)->Prop):Prop:=∀N,Hid N m->F N
section
variable{nx bk ct:St->Hp->Prop}{rt:VK}{σ:St}{H:Hp}
theorem d2w{s u:TS}(q:∀n',Hid n' (u ⟨nx,rt,bk,ct⟩)->s ⟨n',rt,bk,ct⟩ σ H):d3z s u ⟨nx,rt,bk,ct⟩ σ H:=q _ rfl
theorem c0f{n' m:St->Hp->Prop}(h:Hid n' m)(q:m σ H):n' σ H:=by
 unfold Hid at h;rw[h];exact q
theorem d3f{m:St->Hp->Prop}{F:(St->Hp->Prop)->Prop}(q:∀N,Hid N m->F N):d6s m F:=q
theorem c2t{lo:Int}{n:Nat}{g:TG}{tb:TS}(Pv:Nat->St->Hp->Prop)(h0:Pv 0 σ H)(hs:∀i σ H,i<n->Pv i σ H->d6s (Pv (i+1)) λN=>g (.int (lo+i)) σ H λσ2 H2=>tb ⟨N,rt,nx,N⟩ σ2 H2)(hd:∀σ H,Pv n σ H->nx σ H):
  ∃W:Nat->Nat->St->Hp->Prop,(∃m,W 0 m σ H)/\∀i m σ H,W i m σ H->((Itr lo n).stop i H/\nx σ H)\/((Itr lo n).go i H/\∃N:St->Hp->Prop,(∀σ' H',N σ' H'->∃m',m'<m/\W (i+1) m' σ' H')/\∀x H',(Itr lo n).yld i H x H'->g x σ H' λσ2 H2=>tb ⟨N,rt,nx,N⟩ σ2 H2) :=
 a7z (D:=⟨nx,rt,λ_ _=>False,λ_ _=>False⟩) Pv h0 (λi σ H hi p=>hs i σ H hi p _ rfl) hd
end
end L2
namespace L2
open PySem PySem.Spec PyProof.Rows
section
variable{prog:Program}{w:World}{A:Around}{E:Value->Shared->Prop}{s:Shared}
end
section
variable{X:Cx}
end
end L2
namespace L2
open PySem
section
variable{P:Program}{w:World}{K:Frag}{mg:Str->Option Value}{base:Heap}{H H1 H1':Hp}{h h':Heap}
open Classical in
end
end L2
namespace L2
open PySem PySem.Spec PyProof.Rows
section
variable{X:Cx}{pins:List (Addr×Obj)}{σ:St}{H:Hp}{s:Shared}{N:List Str}{scope:Scope}{cl:List (Str×Addr)}{nt:Nat}{fr:List Nat}
end
end L2
namespace L2
open PySem PySem.Spec PyProof.Rows
section
variable{κ:Type}[DecidableEq κ]
end
section
variable{P:Program}{w:World}{H:Hp}{h:Heap}{a:Addr}
end
section
variable{X:Cx}{pins:List (Addr×Obj)}{σ:St}{H:Hp}{s:Shared}{a:Addr}{y v:V}{u r:Value}{o:Option V}{A:Around}{E:Value->Shared->Prop}
end
section
variable{X:Cx}{pins:List (Addr×Obj)}{σ:St}{H:Hp}{s:Shared}{a:Addr}{kvs:List (Key×V)}{k:Key}{u:Value}{A:Around}{E:Value->Shared->Prop}
end
section
variable{X:Cx}{o i e value:Expr}{pos pos' tpos:Pos}{td ty tv:TE}
end
section
variable{X:Cx}{pos:Pos}
end
section
variable{X:Cx}{pins:List (Addr×Obj)}{σ:St}{H:Hp}{s:Shared}{a:Addr}{y d:V}{u r:Value}{o:Option V}{A:Around}{E:Value->Shared->Prop}
end
section
variable{X:Cx}{o e f:Expr}{apos cpos:Pos}{td ty tx:TE}
end
section
variable{X:Cx}{pins:List (Addr×Obj)}{σ:St}{H:Hp}{s:Shared}{a:Addr}{kvs:List (Key×V)}{A:Around}{E:Value->Shared->Prop}
end
section
variable{X:Cx}{pins:List (Addr×Obj)}{σ:St}{H:Hp}{s:Shared}{a:Addr}{y:V}{u:Value}{A:Around}{E:Value->Shared->Prop}
end
end L2
namespace L2
open PySem PySem.Spec PyProof.Rows
section
variable{X:Cx}{k j:Nat}{ps:List Str}{sp:Sp}{E:XK}{x:Str}{p pos:Pos}
end
section
variable{K:Frag}{σ:St}{H:Hp}{Q:VK}{td ty tv:TE}{nx bk ct:St->Hp->Prop}{rt:VK}
theorem c7j{wi:TI}{nt:Nat}{fr:List Nat}{g:TG}{tt:TT}{te:TE}(q:wi σ H λJ H1=>∀D,H1 D=none->∃(n:Nat) (W:Nat->List V->Hp->Prop),W 0 [] (upd H1 D (.lst [])) /\
 ∀i acc H,W i acc H->H D=some (.lst acc)/\acc.length<sizeLine /\
  ((J.stop i H/\Q (.ref D) H)\/(i<n/\J.go i H/\∀x H',J.yld i H x H'->g x (a0h nt fr σ) H' λσ2 H2=>tt σ2 H2 λc H3=>if c=true then (te σ2 H3 λy H4=>H4 D=some (.lst acc)/\W (i+1) (acc++[y]) (upd H4 D (.lst (acc++[y])))) else W (i+1) acc H3))):b2o wi nt fr g tt te σ H Q:=q
end
end L2
namespace L2
open PySem
def c7x(K:Frag):List V->Hp->VK->Prop:=λxs H Q=>∃p ys,xs=[.ref p]/\((SqL K H p ys/\∀l,H l=none->Q (.ref l) (upd H l (.tup ys)))\/(SqT K H p ys/\Q (.ref p) H))
theorem a0r{X:Cx}{K:Frag}(h:X.K=K:=by rfl):a5z X (.type "tuple") (c7x K):=h ▸ b7c
end L2
namespace L2
open PySem PySem.Spec PyProof.Rows
section
variable{K:Frag}{H:Hp}{Q:VK}{σ:St}{ta:TE}
theorem d3e{p:Addr}{xs:List V}(h:H p=some (.tup xs))(q:Q (.int xs.length) H):d4i K [.ref p] H Q:=⟨p,xs,rfl,.inr (SqT.of h),q⟩
theorem c5c{p:Addr}{xs:List V}(h:H p=some (.tup xs))(q:∀l,H l=none->Q (.ref l) (upd H l (.lst xs))):b6b K [.ref p] H Q:=⟨p,xs,rfl,.inr (SqT.of h),q⟩
theorem d2s{p:Addr}{xs:List V}(h:H p=some (.lst xs))(q:∀l,H l=none->Q (.ref l) (upd H l (.tup xs))):c7x K [.ref p] H Q:=⟨p,xs,rfl,.inl ⟨SqL.of h,q⟩⟩
end
def d6k(K:Frag)(ta:TE):TI:=λσ H R=>ta σ H λx H1=>(∃a,x=.ref a/\(∃xs,SqL K H1 a xs)/\R (Itl K a) H1)\/(∃a,x=.ref a/\(∃xs,SqT K H1 a xs)/\R (Itt K a) H1)
theorem c9k{X:Cx}{K:Frag}{tg l:Expr}{tl:TE}(hl:PE X l tl)(h:X.K=K:=by rfl):PI X tg l (d6k K tl):=by
 subst h;intro pins s σ H R I h;refine thn (hl pins s σ H _ I h) λv s1 z0_=>?_;obtain⟨x,H1,I1,r1,q1⟩:=z0_;rcases q1 with ⟨a,e,⟨xs,hq⟩,q⟩|⟨a,e,⟨xs,hq⟩,q⟩
 ·subst e
  cases r1;obtain⟨its,rv,p,hz⟩:=I1.list hq;refine wpAny_pyIter_list p.isList ?_;refine⟨s1.heap.objs.size,[s1.heap.objs.size],_,_,H1,rfl,I1.kept (t':=s1.toks) λb o e=>Heap.get?_push_of_some _ e,b7h a _,⟨_,Heap.get?_push_size _ rfl,rfl,rfl⟩,λb hb=>?_,q⟩;have e:b=s1.heap.objs.size:=by simpa using hb
  subst e;exact I1.fpOk (Nat.le_refl _) (I1.hok.fresh (Nat.le_refl _))
 ·subst e
  cases r1;obtain⟨its,rv,p,hz⟩:=I1.tuple hq;refine wpAny_pyIter_tuple (show s1.heap.IsTuple a its.toArray from p) ?_;refine⟨s1.heap.objs.size,[s1.heap.objs.size],_,_,H1,rfl,I1.kept (t':=s1.toks) λb o e=>Heap.get?_push_of_some _ e,b4x a _,⟨_,Heap.get?_push_size _ rfl,rfl,rfl⟩,λb hb=>?_,q⟩;have e:b=s1.heap.objs.size:=by simpa using hb
  subst e;exact I1.fpOk (Nat.le_refl _) (I1.hok.fresh (Nat.le_refl _))
theorem d2v{K:Frag}{σ:St}{H:Hp}{ta:TE}{R:It->Hp->Prop}(q:ta σ H λx H1=>(∃a,x=.ref a/\(∃xs,SqL K H1 a xs)/\R (Itl K a) H1)\/(∃a,x=.ref a/\(∃xs,SqT K H1 a xs)/\R (Itt K a) H1)):d6k K ta σ H R:=q
theorem c3t(i n m:Int):(Builtin.Range.rangePlace? n m 1 i).isSome=decide (n<=i/\i<m):=by
 unfold Builtin.Range.rangePlace?;by_cases h:n<=i/\i<m
 ·simp[h]
 ·simp[h]
def c3f(ta:TE)(tn:TA):TE:=λσ H Q=>ta σ H λx H1=>tn σ H1 λvs H2=>∃i n m:Int,x=.int i/\vs=[.int n,.int m]/\Q (.bl (decide (n<=i/\i<m))) H2
theorem c7i{σ:St}{H:Hp}{ta:TE}{tn:TA}{Q:VK}(q:ta σ H λx H1=>tn σ H1 λvs H2=>∃i n m:Int,x=.int i/\vs=[.int n,.int m]/\Q (.bl (decide (n<=i/\i<m))) H2):c3f ta tn σ H Q:=q
theorem c3z{X:Cx}{a e e2:Expr}{ta:TE}{tn:TA}{p cp pos:Pos}(hg:Gl X "range")(hm:X.mg "range" = none)(ha:PE X a ta)(he:PA X [e,e2] tn)(hb:behindInMarks .In (.Call (.Name "range" p) [e,e2] [] cp)=false:=by rfl)(hs:starEach [e,e2] X.env=(false,eval e X.env)::starEach [e2] X.env:=by rfl)(hs2:starEach [e2] X.env=[(false,eval e2 X.env)]:=by rfl):
  PE X (.Compare a [.In] [.Call (.Name "range" p) [e,e2] [] cp] pos) (c3f ta tn):=by
 intro pins s σ H Q I h;refine wpAny_Compare1 (thn (ha pins s σ H _ I h) λiv s1 z0_=>?_) hb;obtain⟨x,H1,I1,rx,q1⟩:=z0_;refine Call_ (b4a I1 hg hm boot_range (PyProof.Rows.callWith_type1 (thn (he cp pins s1 σ H1 _ I1 q1) λus s2 ⟨vs,H2,I2,r2,q2⟩=>?_) hs (by rw[hs2];rfl)))
 obtain⟨i,n,m,ex,ev,q⟩:=q2;subst ex;subst ev;obtain⟨ti,rfl⟩:=rx;cases r2 with
 | cons r rr=>
  cases rr with
  | cons r' rr=>
   cases rr;obtain⟨t,rfl⟩:=r;obtain⟨t',rfl⟩:=r';refine call_range_2 (a8i (IsRange.new ..) ?_);rw[c3t];exact⟨.bl _,H2,I2.kept (λb o e=>Heap.get?_push_of_some _ e),rfl,q⟩
theorem c7m{J:It}{xs:List V}{nt:Nat}{fr:List Nat}{g:TG}{te:TE}{σ:St}{H:Hp}{Q:Addr->Hp->Prop}(hz:xs.length<sizeLine)(Sq:Hp->Prop)(jg:∀i x H',Sq H'->xs[i]?=some x->J.go i H')(jy:∀i H' x H2,Sq H'->J.yld i H' x H2->H2=H'/\xs[i]?=some x)(js:∀H',Sq H'->J.stop xs.length H')(Pv:Addr->Nat->List V->Hp->Prop)(h0:∀D,H D=none->Pv D 0 [] (upd H D (.lst [])))(hk:∀D i acc H',Pv D i acc H'->H' D=some (.lst acc)/\acc.length=i/\Sq H')(hs:∀D i x acc H',H D=none->xs[i]?=some x->Pv D i acc H'->g x (a0h nt fr σ) H' λσ2 H2=>te σ2 H2 λy H3=>H3 D=some (.lst acc)/\Pv D (i+1) (acc++[y]) (upd H3 D (.lst (acc++[y]))))(hd:∀D acc H',H D=none->Pv D xs.length acc H'->Q D H'):
  ∀D,H D=none->∃(m:Nat)(W:Nat->List V->Hp->Prop),W 0 [] (upd H D (.lst []))/\∀i acc H',W i acc H'->H' D=some (.lst acc)/\acc.length<sizeLine /\
   ((J.stop i H'/\Q D H')\/(i<m/\J.go i H'/\∀x H2,J.yld i H' x H2->g x (a0h nt fr σ) H2 λσ2 H3=>te σ2 H3 λy H4=>H4 D=some (.lst acc)/\W (i+1) (acc++[y]) (upd H4 D (.lst (acc++[y]))))):=by
 intro D hD;refine⟨xs.length,λi acc H'=>i<=xs.length/\Pv D i acc H',⟨Nat.zero_le _,h0 D hD⟩,?_⟩;rintro i acc H' ⟨hi,p⟩;obtain⟨k1,k2,k3⟩:=hk D i acc H' p;refine⟨k1,by lia,?_⟩
 by_cases h:i<xs.length
 ·refine .inr ⟨h,jg i _ H' k3 (List.getElem?_eq_getElem h),λx H2 y=>?_⟩
  obtain⟨rfl,ex⟩:=jy i H' x H2 k3 y;have key:=hs D i x acc _ hD ex p;have e:∀acc':V->List V,(λ(y:V) (H4:Hp)=>H4 D=some (.lst acc)/\i+1<=xs.length/\Pv D (i+1) (acc' y) (upd H4 D (.lst (acc' y))))=λ(y:V) (H3:Hp)=>H3 D=some (.lst acc)/\Pv D (i+1) (acc' y) (upd H3 D (.lst (acc' y))):=λacc'=>by
   funext y H4;exact propext ⟨λz=>⟨z.1,z.2.2⟩,λz=>⟨z.1,h,z.2⟩⟩
  rw[show(λ(σ2:St) (H3:Hp)=>te σ2 H3 λy H4=>H4 D=some (.lst acc)/\i+1<=xs.length/\Pv D (i+1) (acc++[y]) (upd H4 D (.lst (acc++[y]))))=λ(σ2:St) (H2:Hp)=>te σ2 H2 λy H3=>H3 D=some (.lst acc)/\Pv D (i+1) (acc++[y]) (upd H3 D (.lst (acc++[y]))) from by
   funext σ2 H3;rw[e λy=>acc++[y]]]
  exact key
 ·have:i=xs.length:=by lia
  subst this;exact .inl ⟨js H' k3,hd D acc H' hD p⟩
theorem a2t{K:Frag}{a:Addr}{xs:List V}{nt:Nat}{fr:List Nat}{g:TG}{te:TE}{σ:St}{H:Hp}{Q:Addr->Hp->Prop}(hz:xs.length<sizeLine)(Pv:Addr->Nat->List V->Hp->Prop)(h0:∀D,H D=none->Pv D 0 [] (upd H D (.lst [])))(hk:∀D i acc H',Pv D i acc H'->H' D=some (.lst acc)/\acc.length=i/\SqT K H' a xs)(hs:∀D i x acc H',H D=none->xs[i]?=some x->Pv D i acc H'->g x (a0h nt fr σ) H' λσ2 H2=>te σ2 H2 λy H3=>H3 D=some (.lst acc)/\Pv D (i+1) (acc++[y]) (upd H3 D (.lst (acc++[y]))))(hd:∀D acc H',H D=none->Pv D xs.length acc H'->Q D H'):
  ∀D,H D=none->∃(m:Nat)(W:Nat->List V->Hp->Prop),W 0 [] (upd H D (.lst []))/\∀i acc H',W i acc H'->H' D=some (.lst acc)/\acc.length<sizeLine /\
   (((Itt K a).stop i H'/\Q D H')\/(i<m/\(Itt K a).go i H'/\∀x H2,(Itt K a).yld i H' x H2->g x (a0h nt fr σ) H2 λσ2 H3=>te σ2 H3 λy H4=>H4 D=some (.lst acc)/\W (i+1) (acc++[y]) (upd H4 D (.lst (acc++[y]))))) :=
 c7m hz (λH'=>SqT K H' a xs) (λi x H' q e=>⟨xs,x,q,e⟩) (λi H' x H2 q y=>⟨y.1,y.2 xs q⟩) (λH' q=>⟨xs,q,Nat.le_refl _⟩) Pv h0 hk hs hd
theorem c3k{X:Cx}{K:Frag}(h:X.K=K:=by rfl):SlR X (d6e K):=h ▸ c7v
end L2
namespace L2
open PySem PySem.Spec PyProof.Rows
open Builtin Builtin.Str
theorem c3h{ss:List Str}{us:List Value}(r:Vals (ss.map V.str) us):∃l:List (Str×Tok),us=strValues l/\l.map (·.1)=ss:=by
 induction ss generalizing us with
 | nil=>cases r;exact⟨[],rfl,rfl⟩
 | cons x t ih=>
  cases r with
  | cons h r=>
   obtain⟨tk,rfl⟩:=h;obtain⟨l,rfl,rfl⟩:=ih r;exact⟨(x,tk)::l,rfl,rfl⟩
section
variable{X:Cx}
def c3o(K:Frag):V->List V->Hp->VK->Prop:=λx vs H Q=>∃sep p ss,x=.str sep/\vs=[.ref p]/\SqL K H p (ss.map V.str)/\JoinOk sep ss=true/\Q (.str (Txt.join sep ss)) H
theorem c9t:MtR X "str.join" (c3o X.K):=by
 intro pins s σ H x vs v us Q I rx rv h;obtain⟨sep,p,ss,rfl,rfl,hp,hok,q⟩:=h;obtain⟨t,rfl⟩:=rx;obtain⟨u',rfl,ru⟩:=rv.one;cases ru;obtain⟨its,r,pl,hz⟩:=I.list hp;obtain⟨l,rfl,e⟩:=c3h r;exact SC.join pl.isList e hok λt' k=>⟨.str _,H,I.tok k,⟨_,rfl⟩,q⟩
theorem c4a{x:Str}{n:Str}{pos:Pos}(hm:∃t,X.mg x=some (.str n t))(hg:Gl X x)(hd:(x == ("__debug__":Str))=false:=by decide):PE X (.Name x pos) (tC (.str n)):=by
 obtain⟨t,h⟩:=hm;exact b0x hg h ⟨t,rfl⟩ hd
theorem a4c{K:Frag}{o e:Expr}{to:TE}{t:TA}{apos cpos:Pos}(ho:PE X o to)(ha:PA X [e] t)(hK:X.K=K:=by rfl)(hbase:attributeBase o "join" X.env (eval o X.env)=eval o X.env:=by rfl)(hfew:((backTo cpos (starEach [e] X.env)).all (λx=>!x.1) && (backToKw cpos (keywordEach [] X.env)).all (λx=>x.1.isSome) && decide ([e].length+([]:List Keyword).length+(if ([]:List Keyword).isEmpty then 0 else 1)<30))=true:=by rfl)(hline:(apos.endLine == cpos.line)=true:=by rfl)(hs:starEach [e] X.env=(false,eval e X.env)::starEach [] X.env:=by rfl)(hplain:(backTo cpos (starEach [] X.env)).any (·.1)=false:=by rfl):
  PE X (.Call (.Attribute o "join" apos) [e] [] cpos) (tBM K "str" (c3o K) to t):=hK ▸ c9p PySem.F.plainAttrs_str PySem.F.slot_str_join PySem.F.type_str_join c9t ho ha hbase hfew hline hs hplain
theorem c4h:OpR X (binaryOp .Add) (λx y H Q=>∃i j,x=.str i/\y=.str j/\i.length+j.length<=sizeLine/\Q (.str (i++j)) H):=c2k
variable{K:Frag}{H:Hp}{Q:VK}{σ:St}
theorem c8i{sep:Str}{p:Addr}{ss:List Str}(h:H p=some (.lst (ss.map V.str)))(ok:JoinOk sep ss=true)(q:Q (.str (Txt.join sep ss)) H):c3o K (.str sep) [.ref p] H Q:=⟨sep,p,ss,rfl,rfl,SqL.of h,ok,q⟩
theorem d4w{x:Str}{R:Prop}(q:R):tyV K "str" (.str x) H/\R:=⟨rfl,q⟩
end
end L2
namespace L2
open PySem PySem.Spec PyProof.Rows
end L2
namespace L2
open PySem PySem.W PySem.NumText PyProof.Rows
theorem b9r{a b:PySem.Str}(h:a.cps.toList=b.cps.toList):a=b:=by
 cases a;cases b
 congr 1
 exact Array.toList_inj.mp h
end L2
namespace L2
open PySem PySem.Spec PyProof.Rows
open Builtin Builtin.Str
end L2
namespace L2
open PySem PySem.Spec PyProof.Rows
def c1x(X:Cx)(E:XK)(N:List Str)(scope:Scope)(cl:List (Str×Addr))(C:Addr)(s:Shared)(H:Hp)(ex:List Addr)(pn:List (Addr×Obj)):Cx :=
 { a0s X N scope cl C s H ex pn with xe:=λe s'=>∃pins' σ' H6 s6,Inv (a0s X N scope cl C s H ex pn) pins' σ' H6 s6/\CXK X.prog X.w X.stack H6 s6 E e s' }
section
variable{X:Cx}{E:XK}{N:List Str}{scope:Scope}{cl:List (Str×Addr)}{C:Addr}{s:Shared}{H:Hp}{ex:List Addr}{pn pins:List (Addr×Obj)}{σ:St}{H':Hp}{s':Shared}
theorem ofR(I:Inv (c1x X E N scope cl C s H ex pn) pins σ H' s'):Inv (a0s X N scope cl C s H ex pn) pins σ H' s':=by
 obtain⟨⟨o1,o2,o3,o4,o5,o6,o7,o8,o9,o10,o11,o12,o13,o14,o15,o16,o17,o18⟩,a,b,c,d,e,f,g,h,i,j⟩:=I;exact⟨⟨o1,o2,o3,o4,o5,o6,o7,o8,o9,o10,o11,o12,o13,o14,o15,o16,o17,o18⟩,a,b,c,d,e,f,g,h,i,j⟩
theorem toR(I:Inv (a0s X N scope cl C s H ex pn) pins σ H' s'):Inv (c1x X E N scope cl C s H ex pn) pins σ H' s':=by
 obtain⟨⟨o1,o2,o3,o4,o5,o6,o7,o8,o9,o10,o11,o12,o13,o14,o15,o16,o17,o18⟩,a,b,c,d,e,f,g,h,i,j⟩:=I;exact⟨⟨o1,o2,o3,o4,o5,o6,o7,o8,o9,o10,o11,o12,o13,o14,o15,o16,o17,o18⟩,a,b,c,d,e,f,g,h,i,j⟩
theorem d4n:a3b (CXK X.prog X.w) (c1x X E N scope cl C s H ex pn) E:=λpins σ H1 s1 _ _ I h=>⟨pins,σ,H1,s1,ofR I,h⟩
end
def c7q(B:Heap)(l:List Env)(e:Addr)(cls a0 fl:Value)(h:Heap):Prop:=B.StaysIn h/\B.get? e=none/\h.FunFrames B l/\h.TracedAtW B e cls a0 fl
section
variable{M:Model}{A:Around}{E:Value->Shared->Prop}{s:Shared}{B:Heap}{l:List Env}{e L:Addr}{cls a0 fl:Value}{Q:Unit->Shared->Prop}
theorem c0w{fr:Option Addr}(R:c7q B l e cls a0 fl s.heap)(h:∀h',c7q B l e cls a0 (fr.elim Value.none λf=>rawInt f) h'->s.heap.UpToSlots h'->K2 s.heap h' e->Q () { s with heap:=h' }):wpAny M A (setFlight (.ref e) fr) Q E s:=by
 obtain⟨hkb,hen,hl,oe,vs,T,oT,ts,he,hcls,hd,h1,hnT,hTe,hT,hdT,h3⟩:=R;have hsz3:3<ts.size:=(Array.getElem?_eq_some_iff.mp h3).1;have other:∀b,b≠T->(s.heap.update T (Obj.mapFields (·.setIfInBounds 3 (fr.elim Value.none λf=>rawInt f)))).get? b=s.heap.get? b:=λb hb=>Heap.get?_update_other _ _ (Ne.symm hb)
 have noRecord:∀b o,s.heap.get? b=some o->(∀vs,o.data≠.fields vs)->b≠T:=λb o hb hnf q=>by
  rw[q,hT] at hb;injection hb with hb;subst hb;exact hnf ts hdT
 unfold setFlight;refine wpAny_bind (wpAny_field he hd h1 ?_);rw[if_pos (show(Value.ref T != Value.none)=true from by simp)]
 refine wpAny_setField hT hdT hsz3 (h _ ⟨λb o hbo=>(other b λq=>by rw[q,hnT] at hbo;cases hbo).trans (hkb b o hbo),hen,
  hl.of_keeps λb o hb hnf=>⟨o,(other b (noRecord b o hb hnf)).trans hb,rfl⟩,?_⟩ (λb o hb hnf=>⟨o.slots,(other b (noRecord b o hb hnf)).trans hb⟩) (K2.same λo p=>(other e (Ne.symm hTe)).trans p))
 exact⟨oe,vs,T,_,_,(other e (Ne.symm hTe)).trans he,hcls,hd,h1,hnT,hTe,Heap.get?_update_self _ hT (Obj.isFreed_of_fields (Obj.data_mapFields hdT _)),Obj.data_mapFields hdT _,by simp[hsz3]⟩
theorem b3z{env:Env}{outer:List Env}(hfr:A.frames=some (env::outer))(hf:env.frame=some L)(R:c7q B (env::outer) e cls a0 fl s.heap)(hQ:∀h',Heap.FlyingW B outer e cls a0 h'->s.heap.UpToSlots h'->K2 s.heap h' e->Q () { s with heap:=h' }):wpAny M A (leaving env (.ref e)) Q E s:=by
 by_cases hm:fl=rawInt L
 ·subst hm
  unfold leaving;refine wpAny_bind (wpAny_noteFrame_againW hf R.2.2.2 ?_);refine c4o (L:=L) R λh' hfl up kk=>?_;obtain⟨k1,k2,⟨_,_,k3⟩,k4⟩:=hfl;exact hQ h' ⟨k1,k2,k3,k4⟩ up kk
 ·obtain⟨hkb,hen,hl,oe,vs,T,oT,ts,he,⟨hcls,h0⟩,hd,h1,hnT,hTe,hT,hdT,h3⟩:=R
  subst hcls;unfold leaving noteFrame;simp only[hf];refine wpAny_bind (wpAny_bind (wpAny_field he hd h1 ?_));rw[if_pos (show(Value.ref T != Value.none)=true from by simp)]
  refine wpAny_bind (wpAny_field hT hdT h3 ?_);rw[if_neg (show ¬ ((fl == rawInt L)=true) from by simpa using hm)]
  refine wpAny_bind (wpAny_setField hT hdT (Array.getElem?_eq_some_iff.mp h3).1 ?_);have other:∀b,b≠T->(s.heap.update T (Obj.mapFields (·.setIfInBounds 3 Value.none))).get? b=s.heap.get? b:=λb hb=>Heap.get?_update_other _ _ (Ne.symm hb)
  have noRecord:∀b o,s.heap.get? b=some o->(∀vs,o.data≠.fields vs)->b≠T:=λb o hb hnf q=>by
   rw[q,hT] at hb;injection hb with hb;subst hb;exact hnf ts hdT
  refine c1v hfr (hl.of_keeps λb o hb hnf=>⟨o,(other b (noRecord b o hb hnf)).trans hb,rfl⟩) hf ((other e (Ne.symm hTe)).trans he)
   (λb o hbo=>(other b λq=>by rw[q,hnT] at hbo;cases hbo).trans (hkb b o hbo)) hen hd (Array.getElem?_eq_some_iff.mp h1).1 h0 λh1 N kk=>?_
  obtain⟨x1,x2,x3,x4⟩:=N;refine b6y (s:={ s with heap:=h1 }) x1 x2 x3 λh2 y1 y2 y3 y4 k2=>?_
  obtain⟨_,_,y2⟩:=y2;exact hQ h2 ⟨y1,hen,y2,y3⟩ (Heap.UpToSlots.trans (λb o hb hnf=>x4 b o ((other b (noRecord b o hb hnf)).trans hb) hnf) y4) (((K2.same λo p=>(other e (Ne.symm hTe)).trans p).trans kk).trans k2)
end
theorem c1s{B B' h h':Heap}(hb:∀b,B.get? b=none->B'.get? b=none):∀{l:List Env},(∀b∈frs l,h'.get? b=h.get? b)->h.FunFrames B l->h'.FunFrames B' l
 | [],_,_=>trivial
 | env::r,k,⟨x1,⟨L,o,hf,hn,ho,hd⟩,x3⟩=>⟨x1,⟨L,o,hf,hb L hn,(k L (List.mem_filterMap.mpr ⟨env,List.mem_cons_self,hf⟩)).trans ho,hd⟩,c1s hb (λb hbr=>k b (by
   obtain⟨en,q1,q2⟩:=List.mem_filterMap.mp hbr;exact List.mem_filterMap.mpr ⟨en,List.mem_cons_of_mem _ q1,q2⟩)) x3⟩
section
variable{P:Program}{w:World}{K:Frag}{mg:Str->Option Value}{base:Heap}{N₀:List Str}{qual:Str}{sc:Scope}{f:Addr}{cd:Value}{A:Around}{outer:List Env}{s₀:Shared}{H₀:Hp}{E₀:XK}
theorem c0l{X:Cx}(hX:X=a8h (CXK P w) P w K mg base N₀ qual sc f cd A outer s₀ H₀ E₀){pins pn' pins':List (Addr×Obj)}{σ σ':St}{H H6:Hp}{s s6 s':Shared}{N:List Str}{scope:Scope}{cl:List (Str×Addr)}{C:Addr}{ex:List Addr}{x:Value}{what:String}(I:Inv X pins σ H s)(hex:∀b∈ex,c2c X pins H b)(hC:s.heap.objs.size<=C)(J:Inv (a0s X N scope cl C s H ex pn') pins' σ' H6 s6)(h:CXK X.prog X.w X.stack H6 s6 E₀ x s'):
  notedBy (model X.prog X.w) X.A (compEnvC scope cl C X.env) (λx s''=>∃m,s''.heap.Ns C m/\∀h',Heap.SameBut C s''.heap h'->∀cenv:Env,cenv.locals=C->wpAny (model X.prog X.w) X.A (PySem.passOn what x cenv:Sem Value) (λ_ _=>False) X.xe { s'' with heap:=h' }) x s':=by
 have J6:=I.blockEnd hex J hC (Heap.SameBut.refl C s6.heap);obtain⟨a,C1,H',rfl,F,oo,nc,q⟩:=h;obtain⟨B,a0,fl,k⟩:=F.fl;have hCs:C ∉ frs X.stack:=λz=>by
  obtain⟨_,o,e,_⟩:=I.stack.mem z;exact absurd (Nat.lt_of_lt_of_le (Heap.lt_size e) hC) (Nat.lt_irrefl _)
 have hC0:∀b o,X.s₀.heap.get? b=some o->b≠C:=λb o e=>Nat.ne_of_lt (Nat.lt_of_lt_of_le (Heap.lt_size e) (Nat.le_trans I.sz hC));obtain⟨m,hns,_⟩:=J.loc;have hns:s6.heap.Ns C m:=hns;have hfC:H6 C=none:=J.free;obtain⟨oC,esC,epC,hoC,hdC,hrC⟩:=hns;have hoC':=F.un.keep C oC hoC hfC hCs (by simp)
 have hns':s'.heap.Ns C m:=⟨oC,esC,epC,hoC',hdC,hrC⟩;have hC':H' C=none:=F.un.free C oC hoC hfC (by simp)
 have nx:∀b:Addr,b ∉ X.ex:=λb z=>by rw[hX] at z;cases z
 have hst:X.stack=X.env::X.outer:=by rw[hX];rfl
 have sub:∀b o,X.s₀.heap.get? b=some o->b ∉ X.fs->b ∉ frs X.stack:=λb o e hb z=>by
  rcases List.mem_cons.mp (I.stkSub b z) with y|y
  ·exact absurd (Nat.lt_of_lt_of_le (Heap.lt_size e) I.ok.above) (by rw[y];exact Nat.lt_irrefl _)
  ·exact hb y
 have infs:∀b,b∈X.fs->b∈frs X.stack:=λb hb=>by
  rw[hst];obtain⟨env,he,hf⟩:=List.mem_filterMap.mp hb;exact List.mem_filterMap.mpr ⟨env,List.mem_cons_of_mem _ he,hf⟩
 have hframe:∃L,X.env.frame=some L:=by rw[hX];exact⟨_,rfl⟩
 obtain⟨L,hL⟩:=hframe;have hfr:X.A.frames=some (X.env::X.outer):=by rw[<- hst];exact I.ok.frames
 show wpAny _ _ (noteFrame (.ref a) X.env) _ _ s';refine c9s hfr hL (hst ▸ fl) λh1 hld up1 kk1=>?_;refine⟨m,up1.ns hns',λh2 sb cenv _=>?_⟩;have hns1:=up1.ns hns';obtain⟨oC1,esC1,epC1,hoC1,hdC1,_⟩:=hns1;have nf:∀b o vs,h1.get? b=some o->o.data=.fields vs->b≠C:=λb o vs e d z=>by
  rw[z,hoC1] at e;cases e;rw[hdC1] at d;cases d
 have inB2:∀b o,B.get? b=some o->b≠C->(PySem.W.hideAll B [C]).get? b=some o:=λb o e n=>PySem.W.hideAll_get _ e (by simpa using n)
 have noB2:∀b,B.get? b=none->(PySem.W.hideAll B [C]).get? b=none:=λb e=>by
  cases z:(PySem.W.hideAll B [C]).get? b with
  | none=>rfl
  | some o=>rw[PySem.W.of_hideAll _ z] at e;cases e
 have R2:c7q (PySem.W.hideAll B [C]) (X.env::X.outer) a C1 a0 (rawInt L) h2:=by
  obtain⟨k1,k2,k3,oe,vs,T,oT,ts,he,hcls,hd,g1,hnT,hTe,hT,hdT,g3⟩:=hld;refine⟨λb o e=>?_,noB2 _ k2,c1s noB2 (λb hb=>sb.2 b λz=>hCs (by rw[hst,<- z];exact hb)) k3,oe,vs,T,oT,ts,(sb.2 a (nf a _ _ he hd)).trans he,hcls,hd,g1,noB2 _ hnT,hTe,(sb.2 T (nf T _ _ hT hdT)).trans hT,hdT,g3⟩
  have n:b≠C:=λz=>by rw[z,PySem.W.hideAll_none _ (List.mem_singleton.mpr rfl)] at e;cases e
  exact(sb.2 b n).trans (k1 b o (PySem.W.of_hideAll _ e))
 obtain⟨oe,vs,T,oT,ts,he,hcls,hd,g1,hnT,hTe,hT,hdT,g3⟩:=R2.2.2.2;unfold PySem.passOn;refine wpAny_bind (wpAny_field he hd g1 ?_);rw[if_neg (show ¬ ((Value.ref T == Value.none)=true) from by simp)]
 have kk2:K2 h1 h2 a:=K2.same λo e=>(sb.2 a (λz=>by
  obtain⟨_,_,_,oe',vs',_,_,_,he',_,hd',_⟩:=hld;exact nf a _ _ he' hd' z)).trans e
 refine wpAny_bind (c0w R2 λh3 R3 up3 kk3=>?_);refine wpAny_throw ?_;subst hX;refine b3z hfr hL R3 λh4 fl4 up4 kk4=>?_;have upc:∀b o,s'.heap.get? b=some o->(∀vs,o.data≠.fields vs)->b≠C->∃sl,h4.get? b=some { o with slots:=sl }:=λb o e d n=>by
  obtain⟨sl1,e1⟩:=up1 b o e d;obtain⟨sl3,e3⟩:=up3 b _ ((sb.2 b n).trans e1) d;obtain⟨sl4,e4⟩:=up4 b _ e3 d;exact⟨sl4,e4⟩
 have frC:∀b,b∈frs outer->b≠C:=λb hb z=>hCs (by rw[<- z];exact infs b hb)
 refine⟨a,C1,H',rfl,⟨F.os.trans J6.os,F.bare,⟨λb o z n hb _=>?_,λb o z n hb _=>?_,λb o z n _=>?_,λb o z _=>?_,λb xs z=>F.un.tups b xs (J6.base.tups b xs z),λb o u z=>F.un.frzs b o u (J6.base.frzs b o u z),λb ps z=>?_⟩,?_,⟨_,a0,fl4,⟨λb o z=>?_,λb o z n hb=>?_,λb o z hb=>?_⟩⟩⟩,oo,λz=>(nc z).on (((kk1.trans kk2).trans kk3).trans kk4),q⟩
 ·exact fl4.1 b o (inB2 b o (k.un b o (J6.base.keep b o z n hb (nx b)) (J6.base.free b o z n (nx b)) (sub b o z hb)) (hC0 b o z))
 ·obtain⟨sl,e1⟩:=J6.base.slot b o z n hb (nx b)
  obtain⟨sl2,e2⟩:=F.un.slot b _ e1 (J6.base.free b o z n (nx b)) (infs b hb) (by simp)
  obtain⟨_,o',ho',hd'⟩:=fl.2.2.1.mem (infs b hb);rw[e2] at ho';cases ho';obtain⟨sl3,e3⟩:=upc b _ e2 hd' (frC b hb);exact⟨sl3,e3⟩
 ·obtain⟨o',e1⟩:=J6.base.there b o z (nx b)
  exact F.un.free b o' e1 (J6.base.free b o z n (nx b)) (by simp)
 ·by_cases hb:b∈frs outer
  ·obtain⟨_,o',ho',hd'⟩:=fl.2.2.1.mem (infs b hb)
   obtain⟨sl3,e3⟩:=upc b _ ho' hd' (frC b hb);exact⟨_,e3⟩
  ·obtain⟨o',e1⟩:=J6.base.there b o z (nx b)
   obtain⟨ob,e2⟩:=k.th b o' e1 (sub b o z hb);exact⟨ob,fl4.1 b ob (inB2 b ob e2 (hC0 b o z))⟩
 ·obtain⟨m1,e1⟩:=J6.base.tbls b ps z
  obtain⟨m2,e2⟩:=F.un.tbls b _ e1;exact⟨m1++m2,by rw[e2,Array.append_assoc]⟩
 ·refine a3v F.hok λb o u z y=>?_
  obtain⟨ob,e1⟩:=k.tr b o z;have e2:=fl.1 b ob e1;rw[y] at e2;cases e2;exact fl4.1 b _ (inB2 b _ e1 (λy2=>by rw[y2,hC'] at z;cases z))
 ·obtain⟨ob,e1⟩:=k.tr b o z
  exact⟨ob,inB2 b ob e1 (λy2=>by rw[y2,hC'] at z;cases z)⟩
 ·exact inB2 b o (k.un b o (J6.base.keep b o z n hb (nx b)) (J6.base.free b o z n (nx b)) (sub b o z hb)) (hC0 b o z)
 ·obtain⟨o',e1⟩:=J6.base.there b o z (nx b)
  obtain⟨ob,e2⟩:=k.th b o' e1 (sub b o z hb);exact⟨ob,inB2 b ob e2 (hC0 b o z)⟩
theorem c6s{X:Cx}(hX:X=a8h (CXK P w) P w K mg base N₀ qual sc f cd A outer s₀ H₀ E₀){N:List Str}{scope:Scope}{cl:List (Str×Addr)}{nt:Nat}{fr:List Nat}{elt iter tg:Expr}{pos:Pos}{wi:TI}{g:TG}{te:TE}(hc:X.calm=true)(k:CompOk X N scope cl nt fr)(hi:PI X tg iter wi)(gk:b1x nt g)(hg:∀C s H ex pn',PG (a0s X N scope cl C s H ex pn') tg g)(he:∀C s H ex pn',PE (c1x X E₀ N scope cl C s H ex pn') elt te)(hs:∀x,foldedSetIterable iter X.env x=pure x:=by intro _;rfl):
  PE X (.ListComp elt [⟨tg,iter,[],0⟩] scope pos) (c6f wi nt fr g te):=by
 intro pins s σ H Q I h;rw[eval_ListComp];refine wpAny_comprehension_free (use:=none) rfl hs k.clos k.kind k.names (thn (hi pins s σ H _ I h) λxv s1 h1=>thn h1 λitv s2 h2=>?_);obtain⟨it,fp,tn,J,H2,rfl,I2,T,st2,f2,R2⟩:=h2;have hfD:H2 s2.heap.objs.size=none:=I2.fresh;obtain⟨n,W,w0,turn⟩:=R2 _ hfD;have I3:Inv X pins σ (upd H2 s2.heap.objs.size (.lst [])) { s2 with heap:=s2.heap.push { cls:=.type "list",data:=.seq ([]:List Value).toArray } }:=I2.lnew (its:=[]) (t':=s2.toks) .nil (Nat.zero_le _)
 have fp2:∀b∈fp,b<s2.heap.objs.size:=λb hb=>by
  obtain⟨o,e,_⟩:=T.obj _ _ st2 b hb;exact Heap.lt_size e
 have f3:∀b∈fp,c2c X pins (upd H2 s2.heap.objs.size (.lst [])) b:=λb hb=>⟨by rw[f9 (Nat.ne_of_lt (fp2 b hb))];exact(f2 b hb).1,(f2 b hb).2⟩
 refine wpAny_newObj_type (hd:=by show(0:Nat)<=_;exact Nat.zero_le _) ?_
 refine wpAny_newFunctionEnv k.cell (by intro y hy;cases hy) (λh4 hns hsb=>?_) k.kind
 have hsz:(s2.heap.push { cls:=.type "list",data:=.seq ([]:List Value).toArray }).objs.size=s2.heap.objs.size+1:=Heap.size_push _ _;have keep4:∀b o,(s2.heap.push { cls:=.type "list",data:=.seq ([]:List Value).toArray }).get? b=some o->h4.get? b=some o:=λb o e=>
  (hsb.2 b (Nat.ne_of_lt (Heap.lt_size e))).trans (Heap.get?_push_of_some _ e)
 have I4:=k.start I3 (C:=(s2.heap.push { cls:=.type "list",data:=.seq ([]:List Value).toArray }).objs.size) (h':=h4) (t':=s2.toks) (ex:=fp) (λb hb=>⟨f3 b hb,by rw[hsz];exact Nat.lt_succ_of_lt (fp2 b hb)⟩) (Nat.le_refl _) hns keep4
 have st4:tn 0 h4:=T.keep _ _ _ st2 λb hb o e=>keep4 b o (Heap.get?_push_of_some _ e);generalize hC:(s2.heap.push { cls:=.type "list",data:=.seq ([]:List Value).toArray }).objs.size=C at I4 hns;have hC3:({ s2 with heap:=s2.heap.push { cls:=.type "list",data:=.seq ([]:List Value).toArray } }:Shared).heap.objs.size<=C:=by rw[<- hC];exact Nat.le_refl _
 have stat:∀{H':Hp},(∀b∈fp,H' b=none)->∀b∈fp,c2c (a0s X N scope cl C { s2 with heap:=s2.heap.push { cls:=.type "list",data:=.seq ([]:List Value).toArray } } (upd H2 s2.heap.objs.size (.lst [])) fp (X.pn++pins)) [] H' b:=λ{H'} hn b hb=>by
  refine⟨hn b hb,?_,λz=>?_,.inl hb,λx c e=>(f2 b hb).2.2.2.2.1 x c (k.cl_at e),λp hp=>(f2 b hb).2.2.2.2.2 p (by have hp:p∈(X.pn++pins)++[]:=hp;rw[List.append_nil] at hp;exact hp)⟩
  ·rw[show(a0s X N scope cl C { s2 with heap:=s2.heap.push { cls:=.type "list",data:=.seq ([]:List Value).toArray } } (upd H2 s2.heap.objs.size (.lst [])) fp (X.pn++pins)).env.locals=C from rfl,<- hC,hsz]
   exact Nat.ne_of_lt (Nat.lt_succ_of_lt (fp2 b hb))
  ·rcases List.mem_cons.mp (I2.stkSub b z) with y|y
   ·exact(f2 b hb).2.1 y
   ·exact(f2 b hb).2.2.1 y
 have loop:∀s5:Shared,s5={ s2 with heap:=h4,toks:=s2.toks }->codeAny (model X.prog X.w) X.A (.compLoop (.ListComp elt [⟨tg,iter,[],0⟩] scope pos) 0 (.ref it) (.ref s2.heap.objs.size) (compEnvC scope cl C X.env))
   (compPost (model X.prog X.w) X.A X.xe none (EP X pins σ Q) (.ref s2.heap.objs.size) C) s5:=by
  rintro s5 rfl;refine codeAny_loop rfl (λm s'=>∃i acc H',m=n-i/\Inv (a0s X N scope cl C { s2 with heap:=s2.heap.push { cls:=.type "list",data:=.seq ([]:List Value).toArray } } (upd H2 s2.heap.objs.size (.lst [])) fp (X.pn++pins)) [] (a0h nt fr σ) H' s'/\tn i s'.heap/\(∀b∈fp,H' b=none)/\W i acc H') ?_ n ⟨0,[],_,rfl,I4,st4,λb hb=>(f3 b hb).1,w0⟩
  rintro m s6 ⟨i,acc,H6,rfl,I6,st6,fr6,w6⟩;show wpAny _ _ ((compTurn (.ListComp elt [⟨tg,iter,[],0⟩] scope pos) 0 (.ref it) (.ref s2.heap.objs.size) (compEnvC scope cl C X.env)).onRaise (λx=>do noteFrame x (compEnvC scope cl C X.env);theTreesLotGoes x)) _ _ s6
  refine wpAny_noted ?_;rw[compTurn_list1];refine wpAny_bind (wpAny_standAt (wpAny_bind ?_));obtain⟨hD6,hz6,alt⟩:=turn i acc H6 w6;rcases alt with ⟨stop,qn⟩|⟨hin,go,step⟩
  ·refine wpAny_mono (T.done (a0s X N scope cl C { s2 with heap:=s2.heap.push { cls:=.type "list",data:=.seq ([]:List Value).toArray } } (upd H2 s2.heap.objs.size (.lst [])) fp (X.pn++pins)) rfl rfl rfl hc i [] s6 (a0h nt fr σ) H6 (λ_ _=>False) I6 (stat fr6) st6 stop) (λr s7 z0_=>?_) (λ_ _ z=>z.elim)
   obtain⟨hr,I7⟩:=z0_;subst hr;refine wpAny_pure ?_;obtain⟨m7,hn7,_⟩:=id I7.loc;exact⟨m7,hn7,λh8 hs8=>⟨.ref s2.heap.objs.size,H6,I3.blockEnd f3 I7 hC3 hs8,rfl,qn⟩⟩
  ·refine wpAny_mono (T.item (a0s X N scope cl C { s2 with heap:=s2.heap.push { cls:=.type "list",data:=.seq ([]:List Value).toArray } } (upd H2 s2.heap.objs.size (.lst [])) fp (X.pn++pins)) rfl rfl rfl hc i [] s6 (a0h nt fr σ) H6 (λ_ _=>False) I6 (stat fr6) st6 go) (λr s7 z0_=>?_) (λ_ _ z=>z.elim)
   obtain⟨u,hr,h7⟩:=z0_;subst hr;refine wpAny_bind (wpAny_mono h7 (λ_ s8 z0_=>?_) (λ_ _ z=>z.elim));obtain⟨x,H8,I8,r8,y8,st8,fr8⟩:=z0_;have I8':=I8.pinned (stat fr8) (T.obj _ _ st8);refine wpAny_bind (wpAny_mono (hg _ _ _ _ _ _ s8 _ H8 x u _ I8' r8 (gk _ _ _ _ (step x H8 y8))) (λ_ s9 z0_=>?_) (λ_ _ z=>z.elim));obtain⟨σ9,H9,I9,k9,q9⟩:=z0_;refine wpAny_bind (wpAny_bind (wpAny_mono (he _ _ _ _ _ _ s9 σ9 H9 _ (toR I9) q9) (λv s10 z0_=>?_) (λe5 s5 z10_=>by obtain⟨p6,σ6,H7,s7',J7,z7⟩:=z10_;exact c0l hX I3 f3 hC3 J7 z7)))
   obtain⟨y,H10,I10',r10,hD10,q10⟩:=z0_;have I10:=ofR I10';refine wpAny_bind (wpAny_mono (b3u (X:=a0s X N scope cl C { s2 with heap:=s2.heap.push { cls:=.type "list",data:=.seq ([]:List Value).toArray } } (upd H2 s2.heap.objs.size (.lst [])) fp (X.pn++pins)) _ s10 σ9 H10 (.ref s2.heap.objs.size) [y] (.ref s2.heap.objs.size) [v] (λv' H'=>v'=.non/\H'=upd H10 s2.heap.objs.size (.lst (acc++[y]))) I10 rfl (.cons r10 .nil) ⟨_,acc,y,rfl,rfl,hD10,hz6,rfl,rfl⟩) (λv' s11 z0_=>?_) (λ_ _ z=>z.elim))
   obtain⟨_,H11,I11,_,_,e11⟩:=z0_;subst e11;refine wpAny_pure (wpAny_pure ⟨rfl,n-(i+1),by lia,i+1,acc++[y],_,rfl,?_,?_,λb hb=>?_,q10⟩)
   ·refine (I11.unpinned (pins:=[])).weak ?_ λj v' e=>?_
    ·rw[I11.len,<- I4.len]
    ·by_cases hj:nt<=j
     ·rw[k9 j hj];exact e
     ·unfold a0h at e
      rw[List.getElem?_append_left (by rw[List.length_replicate];lia),List.getElem?_replicate] at e
      split at e <;> cases e
   ·exact T.keep _ _ _ st8 λb hb o e=>(I11.pin (b,o) (List.mem_append_right _ (List.mem_append_right _ (a3g hb e)))).1
   ·obtain⟨o,e,d⟩:=T.obj _ _ st8 b hb
    exact(I11.pin (b,o) (List.mem_append_right _ (List.mem_append_right _ (a3g hb e)))).2.1
 refine codeAny_compStart_list (loop _ rfl) (T.self _ 0 _ _ _ st4 (loop _ rfl))
end
end L2
namespace L2
open PySem PySem.Spec PyProof.Rows
open PySem.Calls PySem.AutoSeq1 in
section
variable{X:Cx}
variable{K:Frag}{H:Hp}{Q:VK}{σ:St}{y:V}
end
end L2
namespace L2
open PySem PySem.Spec PyProof.Rows
open Builtin Builtin.Str
def wt(ss:List Str):Nat:=(ss.map (·.length)).sum+ss.length
theorem c0r:wt []=0:=rfl
theorem a3h(x:Str)(ss:List Str):wt (x::ss)=x.length+1+wt ss:=by
 unfold wt;rw[List.map_cons,List.sum_cons,List.length_cons];lia
theorem d1e(ss:List Str):ss.length<=wt ss:=Nat.le_add_left _ _
theorem b8x{y:Str}(h:y.length=1):∀{ss:List Str},ss≠[]->(Str.join y ss).length+1=wt ss
 | [],z=>absurd rfl z
 | [x],_=>by rw[a3h,c0r];rfl
 | x::z::r,_=>by
  have:=b8x h (ss:=z::r) (by simp)
  rw[a3h];show(x++y++Str.join y (z::r)).length+1=_;rw[Str.length_append,Str.length_append];lia
theorem c4p{y:Str}(h:y.length=1)(ss:List Str):(Txt.join y ss).length<=wt ss:=by
 show(glued y ss).length<=_;rw[StrLaws.glued_eq_join];by_cases z:ss=[]
 ·subst z;exact Nat.zero_le _
 ·have:=b8x h z
  lia
theorem a3a:1000000<=sizeLine:=by decide
theorem c9x{y:Str}(h:y.length=1){ss:List Str}(l:wt ss<=1000000):JoinOk y ss=true:=by
 unfold JoinOk;rw[StrLaws.joinTotal,h,Nat.mul_one];have:=a3a;have l:(ss.map (·.length)).sum+ss.length<=1000000:=l
 rw[Bool.not_eq_true'];exact decide_eq_false (by lia)
section
variable{K:Frag}{H:Hp}{Q:VK}
theorem b1d{y:Str}{p:Addr}{ss:List Str}(hy:y.length=1)(h:H p=some (.lst (ss.map V.str)))(l:wt ss<=1000000)(q:Q (.str (Txt.join y ss)) H):c3o K (.str y) [.ref p] H Q:=c8i h (c9x hy l) q
end
end L2
namespace L2
open PySem PySem.W PySem.NumText PyProof.Rows
theorem b5g(k:Nat):∀n:Nat,n<10 ^ (k+1)->(Nat.toDigits 10 n).length<=k+1:=by
 induction k with
 | zero=>
  intro n h;rw[Nat.toDigits_of_lt_base (by lia)]
  exact Nat.le_refl _
 | succ k ih=>
  intro n h;by_cases c:n<10
  ·rw[Nat.toDigits_of_lt_base c]
   show 1<=_;lia
  ·have e:10*(n / 10)+n % 10=n:=by lia
   have:=ih (n / 10) (by rw[Nat.pow_succ] at h;lia)
   rw[<- e,<- Nat.toDigits_append_toDigits (by decide) (by lia) (by lia),List.length_append,Nat.toDigits_of_lt_base (show n % 10<10 by lia)]
   show _+1<=_;lia
def b0p(n:Int):Str:=Str.ofString (toString n)
theorem c4n(w:Str):w.length=w.cps.toList.length:=Array.length_toList.symm
theorem a1y{n:Int}(h:n.natAbs<10 ^ 60):(b0p n).length<=61:=by
 unfold b0p;rw[c4n];cases n with
 | ofNat m=>
  have e:(Str.ofString (toString (Int.ofNat m))).cps.toList=_:=KIN.signs_num m;rw[e,List.length_map];have:=b5g 59 m h;lia
 | negSucc m=>
  rw[signs_ofString,List.length_map];show(String.toList ("-"++Nat.repr (m+1))).length<=_;rw[String.toList_append,List.length_append,Nat.toList_repr];have:=b5g 59 (m+1) h;show 1+_<=_;lia
def c6j(ns:List Int):Str:=Txt.join " " (ns.map b0p)
theorem b2l{ns:List Int}(h:∀n∈ns,n.natAbs<10 ^ 60):wt (ns.map b0p)<=62*ns.length:=by
 induction ns with
 | nil=>exact Nat.le_refl _
 | cons x r ih=>
  rw[List.map_cons,a3h,List.length_cons];have:=ih λn hn=>h n (List.mem_cons_of_mem _ hn);have:=a1y (h x List.mem_cons_self);lia
theorem a5d:(" ":Str).length=1:=rfl
end L2
namespace L2
open PySem PySem.Spec PyProof.Rows
section
variable{H:Hp}{σ:St}{t:TA}
end
def MpP{α:Type}(H:Hp)(xs:List α)(f:α->V)(R:α->Prop)(D:Addr)(i:Nat)(acc:List V)(H':Hp):Prop:=H' D=some (.lst acc)/\(∀b u,H b=some u->H' b=some u)/\acc=(xs.take i).map f/\i<=xs.length/\∀x∈xs.take i,R x
section
variable{α:Type}{H H' H3:Hp}{xs:List α}{f:α->V}{R:α->Prop}{D:Addr}{i:Nat}{acc:List V}
theorem MpP.new(hD:H D=none):MpP H xs f R D 0 [] (upd H D (.lst [])):=⟨d8,λb u e=>by rw[f9 (λz=>by rw[z,hD] at e;cases e)];exact e,rfl,Nat.zero_le _,λx h=>by simp at h⟩
theorem MpP.len(h:MpP H xs f R D i acc H'):H' D=some (.lst acc)/\acc.length=i:=by
 obtain⟨e,_,rfl,l,_⟩:=h;exact⟨e,by rw[List.length_map,List.length_take];lia⟩
theorem MpP.step{x:α}{y:V}(h:MpP H xs f R D i acc H')(hD:H D=none)(hx:xs[i]?=some x)(r:R x)(hy:y=f x)(s:∀b u,H' b=some u->H3 b=some u):H3 D=some (.lst acc)/\MpP H xs f R D (i+1) (acc++[y]) (upd H3 D (.lst (acc++[y]))):=by
 obtain⟨e,s0,rfl,l,g⟩:=h;subst hy;have hi:i<xs.length:=(List.getElem?_eq_some_iff.mp hx).1;refine⟨s _ _ e,d8,λb u eb=>?_,?_,hi,?_⟩
 ·rw[f9 (λz=>by rw[z,hD] at eb;cases eb)]
  exact s _ _ (s0 _ _ eb)
 ·rw[List.take_add_one,hx,List.map_append]
  rfl
 ·intro z hz
  rw[List.take_add_one,hx] at hz;rcases List.mem_append.mp hz with hz|hz
  ·exact g z hz
  ·have:z=x:=by simpa using hz
   rw[this];exact r
theorem MpP.done(h:MpP H xs f R D i acc H')(hi:i=xs.length):H' D=some (.lst (xs.map f))/\(∀b u,H b=some u->H' b=some u)/\∀x∈xs,R x:=by
 obtain⟨e,s0,rfl,l,g⟩:=h;subst hi;rw[List.take_length] at e g;exact⟨e,s0,g⟩
theorem b1c{β:Type}{g:α->β}{v:β}(h:(xs.map g)[i]?=some v):∃x,xs[i]?=some x/\v=g x:=by
 rw[List.getElem?_map] at h;cases e:xs[i]? with
 | none=>rw[e] at h;cases h
 | some x=>rw[e] at h;cases h;exact⟨x,rfl,rfl⟩
end
end L2
namespace L2
open PySem PySem.Spec PyProof.Rows
end L2
namespace L2
open PySem PySem.Spec PySem.Calls PyProof.Rows
theorem b7b:entryFor table "proto.unchain" = some Builtin.«proto.unchain»:=entryFor_of_tree (by kernel_rfl)
section
variable{prog:Program}{w:World}{A:Around}{E:Value->Shared->Prop}{s:Shared}
theorem b7g{e a:Addr}{Q:Value->Shared->Prop}(n:NC s.heap a)(q:Q .none s):wpAny (model prog w) A (runValue (.builtin "proto.unchain" ⟨[.ref e,.ref a,.ref a,.bool false],[]⟩)) Q E s:=by
 obtain⟨o,vs,x,y,z⟩:=n;refine wpAny_runValue (codeAny_builtin b7b ?_);unfold Builtin.«proto.unchain»;refine wpAny_bind (wpAny_field x y z ?_);exact wpAny_pure q
variable{env:Env}{nm q:Str}{C N:Addr}{bs bm:List Value}{hdct:Bool}{sn:List Str}{sub:List Value}{ab:Bool}{col:Option Bool}{dd:Option Addr}{k0 k1 k2 k3 k5:Option Value}{newId:String}
theorem c2h{x c:Sem Value}{a:Addr}{Q:Flow->Shared->Prop}(hbase:bm.contains (.type "BaseException")=true)(hh:A.handled=some (.ref a))(hc:∀(R:Value->Shared->Prop) (s':Shared),R .none s'->wpAny (model prog w) A c R E s')(h:wpAny (model prog w) A x (λv s1=>∃e t,v=.ref e/\s1.heap.get? C=some (excClassObj nm q C N bs bm hdct sn sub ab col dd k0 k1 k2 k3 k5 newId) /\
   s1.heap.get? e=some { cls:=.ref C,data:=.fields #[.ref t,.none,.none,.none,.bool false,.none] }/\NC s1.heap a/\a≠e/\∀h',h'.get? e=some { cls:=.ref C,data:=.fields #[.ref t,.none,.ref a,.none,.bool true,.none] }->(∀b,b≠e->h'.get? b=s1.heap.get? b)->E (.ref e) { s1 with heap:=h' }) E s):
  wpAny (model prog w) A (raiseStmt env (some x) (some c)) Q E s:=by
 have hcB:(Value.ref C::bm).contains (.type "BaseException")=true:=by rw[List.contains_cons,hbase,Bool.or_true]
 unfold raiseStmt;refine wpAny_bind (wpAny_mono h (λv s1 h1=>?_) λ_ _ x=>x);obtain⟨e,t,rfl,hC,he,n,ne,hE⟩:=h1;refine wpAny_bind (wpAny_holding (hc _ _ (wpAny_bind (wpAny_pure ?_))));obtain⟨hp,g,d,tk,os⟩:=s1;have Ce:e≠C:=λz=>by
  rw[z] at he;have:=he.symm.trans hC;injection this with this
  injection this with _ _ this _
  cases this
 repeat (first|with_reducible refine wpAny_loadPart_at he ?_|with_reducible refine wpAny_loadPart_at hC ?_|(with_reducible refine wpAny_isSubtype_exc hC ?_;rw[hcB])|wp_step)
 have hC2:((hp.update e (Obj.mapFields λx=>x.setIfInBounds 3 Value.none)).update e (Obj.mapFields λx=>x.setIfInBounds 4 (Value.bool true))).get? C=some (excClassObj nm q C N bs bm hdct sn sub ab col dd k0 k1 k2 k3 k5 newId) :=
  (Heap.get?_update_other _ _ Ce).trans ((Heap.get?_update_other _ _ Ce).trans hC)
 have he1:=Heap.get?_update_self (Obj.mapFields λx=>x.setIfInBounds 3 Value.none) he (by rfl)
 have he2:=Heap.get?_update_self (Obj.mapFields λx=>x.setIfInBounds 4 (Value.bool true)) he1 (by rfl)
 have n2:NC ((hp.update e (Obj.mapFields λx=>x.setIfInBounds 3 Value.none)).update e (Obj.mapFields λx=>x.setIfInBounds 4 (Value.bool true))) a:=n.on (K2.same λo p=>(Heap.get?_update_other _ _ (Ne.symm ne)).trans ((Heap.get?_update_other _ _ (Ne.symm ne)).trans p));have oth2:∀b,b≠e->((hp.update e (Obj.mapFields λx=>x.setIfInBounds 3 Value.none)).update e (Obj.mapFields λx=>x.setIfInBounds 4 (Value.bool true))).get? b=hp.get? b:=λb nb=>(Heap.get?_update_other _ _ (Ne.symm nb)).trans (Heap.get?_update_other _ _ (Ne.symm nb));generalize (hp.update e (Obj.mapFields λx=>x.setIfInBounds 3 Value.none)).update e (Obj.mapFields λx=>x.setIfInBounds 4 (Value.bool true))=h2 at hC2 he2 n2 oth2 ⊢;unfold raiseNew;refine wpAny_bind (wpAny_handled ?_);rw[hh];dsimp only;rw[if_pos (show(Value.ref a != Value.ref e)=true by simpa using ne)]
 refine wpAny_bind (wpAny_holding (b7g n2 ?_));have he3:h2.get? e=some { cls:=.ref C,data:=.fields #[.ref t,.none,.none,.none,.bool true,.none] }:=he2;unfold updateField;refine wpAny_bind (wpAny_bind (wpAny_load he3 ?_));dsimp only;rw[if_pos (by show 2<6;decide)]
 refine wpAny_update he3 ?_;refine wpAny_throw (hE _ (Heap.get?_update_self _ he3 rfl) λb nb=>(Heap.get?_update_other _ _ (Ne.symm nb)).trans (oth2 b nb))
end
end L2
namespace L2
open PySem PySem.Spec PySem.Calls PyProof.Rows
def c7r(K:Frag)(c d C':Addr)(E:XK)(tb:(St->XK)->TS):TS:=λD σ H=>tb (λ_ C o H'=>o=none/\exmAny K C [.ref c,.ref d]=some true/\E (.ref C') (some 0) H') D σ H
theorem d0d{K:Frag}{c d C':Addr}{E:XK}{tb:(St->XK)->TS}{nx bk ct:St->Hp->Prop}{rt:VK}{σ:St}{H:Hp}(q:tb (λ_ C o H'=>o=none/\exmAny K C [.ref c,.ref d]=some true/\E (.ref C') (some 0) H') ⟨nx,rt,bk,ct⟩ σ H):c7r K c d C' E tb ⟨nx,rt,bk,ct⟩ σ H:=q
section
variable{P:Program}{w:World}{K:Frag}{mg:Str->Option Value}{base:Heap}{N₀:List Str}{qual:Str}{sc:Scope}{f:Addr}{cd:Value}{A:Around}{outer:List Env}{s₀:Shared}{H₀:Hp}{E₀:XK}
variable{body:List Stmt}{x y z:Str}{np np2 hpos pos tpos zp cpos rpos npos:Pos}{kk kn:Nat}{c d C':Addr}{tb:(St->XK)->TS}{m:Str}{km:Nat}{mp:Pos}
theorem c6m{X:Cx}(hX:X=a8h (CXK P w) P w K mg base N₀ qual sc f cd A outer s₀ H₀ E₀)(hcal:X.calm=true)(hg:Gl X x)(hg2:Gl X y)(hgz:Gl X z)(hm:X.mg x=some (.ref c))(hm2:X.mg y=some (.ref d))(hmz:X.mg z=some (.ref C'))(hC:d5u X.K C')(hb:∀pn' E J,b1g (X.tryX pn' E) J->PSs (X.tryX pn' E) body (tb J))(hd:(x == ("__debug__":Str))=false:=by decide)(hd2:(y == ("__debug__":Str))=false:=by decide)(hdz:(z == ("__debug__":Str))=false:=by decide)(he:starEach [.Constant (.str m) km mp] X.env=[(false,eval (.Constant (.str m) km mp) X.env)]:=by rfl):
  PS X (.Try body [.ExceptHandler (some (.Tuple [.Name x np,.Name y np2] kk tpos)) none [.Raise (some (.Call (.Name z zp) [.Constant (.str m) km mp] [] cpos)) (some (.Constant .none kn npos)) rpos] hpos] [] [] pos) (c7r X.K c d C' E₀ tb):=by
 have hst:X.stack=X.env::X.outer:=by rw[hX];rfl
 have hfr:X.env.frame=some X.env.locals:=by rw[hX];rfl
 intro pins s σ H D I h;have hcl:X.calm=true->X.A.handled=none:=I.ok.hd;have hp:b1g (X.tryX (X.pn++pins) (λe s'=>∃pins' σ1 H1 s1,Inv (X.tryX (X.pn++pins) X.xe) pins' σ1 H1 s1/\CXK X.prog X.w X.stack H1 s1 ((λ_ C o H'=>o=none/\exmAny X.K C [.ref c,.ref d]=some true/\E₀ (.ref C') (some 0) H':St->XK) σ1) e s'))
   (λ_ C o H'=>o=none/\exmAny X.K C [.ref c,.ref d]=some true/\E₀ (.ref C') (some 0) H') :=
  λpins' σ1 H1 s1 e s' I1 q=>⟨pins',σ1,H1,s1,I1.re rfl hcl (λp z=>z),q⟩
 have back:∀{A':Around}{c':Bool}{xe':Value->Shared->Prop}{pins':List (Addr×Obj)}{σ1:St}{H1:Hp}{s1:Shared},X.A.frames=A'.frames->Inv ({ X with A:=A',calm:=c',pn:=X.pn++pins,xe:=xe' }:Cx) pins' σ1 H1 s1->Inv X pins σ1 H1 s1 :=
  λhA I1=>I1.re (pn':=X.pn) (calm':=X.calm) (A':=X.A) (xe':=X.xe) hA hcl (λp z=>List.mem_append_left _ z)
 refine wpAny_Try_except (wpAny_mono (hb _ _ _ hp [] s σ H D (I.re rfl hcl (λp z=>by simpa using z)) h) (λf s1 q=>?_) λe s1 q=>?_)
 ·cases f with
  | next=>obtain⟨σ',H',I',q⟩:=q;exact wpAny_execs_nil ⟨σ',H',back rfl I',q⟩
  | brk=>obtain⟨σ',H',I',q⟩:=q;exact⟨σ',H',back rfl I',q⟩
  | cont=>obtain⟨σ',H',I',q⟩:=q;exact⟨σ',H',back rfl I',q⟩
  | ret u=>obtain⟨v,σ',H',I',r,q⟩:=q;exact⟨v,σ',H',back rfl I',r,q⟩
 ·obtain⟨pins',σ1,H1,s2,I1,a,C,H',rfl,F,o,nc,ho,hx,hq⟩:=q
  have I1:Inv X pins σ1 H1 s2:=back rfl I1;have nc:=nc ho;obtain⟨B,a0,fl,k⟩:=F.fl;have hs:X.A.frames=some (X.env::X.outer):=by rw[<- hst];exact I1.ok.frames
  refine c9s (base:=B) hs hfr (by rw[<- hst];exact fl) λh4 hh4 up4 k4=>?_
  refine c4o hh4 λh5 fl5 up5 k5=>?_;have fl5':Heap.FlyingW B X.stack a C a0 h5:=by rw[hst];exact fl5
  have up:s1.heap.UpToSlots h5:=up4.trans up5;have I5:=F.caught I1 fl k fl5'.1 up;refine wpAny_handleBy_cons (codeAny_handlers_test ?_) (by intro q;cases q)
  have I5h:Inv (X.inH (X.pn++pins) a) [] σ1 H' { s1 with heap:=h5 }:=I5.re rfl (λz=>nomatch z) (λp z=>by simpa using z)
  refine wpAny_Tuple ?_;refine wpAny_items_cons (a5y (X:=X.inH (X.pn++pins) a) I5h hg hm ?_ hd);refine wpAny_items_cons (a5y (X:=X.inH (X.pn++pins) a) I5h hg2 hm2 ?_ hd2);refine wpAny_items_nil ⟨by size_fits,?_⟩
  have kp:∀q o,h5.get? q=some o->(h5.push { cls:=.type "tuple",data:=.seq [Value.ref c,Value.ref d].toArray }).get? q=some o:=λ_ _ z=>Heap.get?_push_of_some _ z;have LT:PySem.W.Looks (model X.prog X.w) (h5.push { cls:=.type "tuple",data:=.seq [Value.ref c,Value.ref d].toArray }) (typeOf (.ref a)) C:=by
   obtain⟨ob,hob,hc⟩:=fl5'.there;subst hc;exact(PySem.W.Looks.ld (kp _ _ hob)).andThen .now
  refine (PySem.W.exm_tup2 (K:=X.K) (I5.kIn.keeps kp) LT (Heap.get?_push_size h5 rfl) hx).here ?_;refine codeAny_handlers_suite ?_;have fk:=PySem.W.flying_keeps fl5' kp;refine b6y (s:={ s1 with heap:=h5.push { cls:=.type "tuple",data:=.seq [Value.ref c,Value.ref d].toArray } }) fk.1 fk.2.2.1 fk.2.2.2.at λh6 y1 y2 y3 y4 k6=>?_
  have I6:=F.caught I1 fl k y1 (up.trans ((Heap.UpToSlots.of_keeps kp).trans y4));have n6:NC h6 a:=nc.on (((k4.trans k5).trans (K2.same λo p=>kp _ _ p)).trans k6);have I6h:Inv (X.inH (X.pn++pins) a) [] σ1 H' { s1 with heap:=h6 }:=I6.re rfl (λz=>nomatch z) (λp z=>by simpa using z)
  refine wpAny_execs_cons ?_;obtain⟨bm,N,nm,qn,bs,hdct,sn,sub,ab,col,dd,k0,k1,k2,k3,k5',mN,gC,gN,gi,gT⟩:=c5k I6.ok.mod.kin hC;show wpAny _ _ (do standAt rpos;raiseStmt X.env (some (do let v <- eval (.Call (.Name z zp) [.Constant (.str m) km mp] [] cpos) X.env;standAt rpos;pure v)) (some (do let v <- eval (.Constant .none kn npos) X.env;standAt rpos;pure v))) _ _ _
  refine wpAny_bind (wpAny_standAt (c2h (C:=C') (nm:=nm) (q:=qn) (N:=N) (bs:=bs) (bm:=bm) (hdct:=hdct) (sn:=sn) (sub:=sub) (ab:=ab) (col:=col) (dd:=dd) (k0:=k0) (k1:=k1) (k2:=k2) (k3:=k3) (k5:=k5') (newId:="ValueError.__new__") (gT.hasType (by decide)) rfl (λR s' r=>wpAny_bind (Constant_none (wpAny_bind (wpAny_standAt (wpAny_pure r))))) ?_))
  refine wpAny_bind (wpAny_mono (wpAny_Call_ofName (a5y (X:=X.inH (X.pn++pins) a) I6h hgz hmz ?_ hdz)) (λv s3 h3=>wpAny_bind (wpAny_standAt (wpAny_pure h3))) λ_ _ x=>x);unfold callWith;rw[he];refine wpAny_bind (wpAny_holding (evalArgs_plain (spliced_cons (Constant_str (k:=km) (pos:=mp) (spliced_nil (wpAny_bind (wpAny_standAt ?_)))))));have hpl:((backTo cpos [(false,eval (.Constant (.str m) km mp) X.env)]).any λx=>x.1)=false:=rfl;simp only[hpl];have I7:Inv X pins σ1 H' { s1 with heap:=h6,toks:=s1.toks+1 }:=I6.tok (s1.toks+1)
  refine wpAny_bind (wpAny_keeperOf_exc (I7.bk _ _ gC) ?_);refine wpAny_bind (wpAny_call_exc_subT (hrest:=by show 1<=sizeLine;decide) PySem.F.excBase_ValueError (gT.keeps I7.bk) (I7.bk _ _ gC) (gN.keeps I7.bk) gi λh7 e hmk=>wpAny_bind (wpAny_holding (wpAny_point (wpAny_pure ?_))))
  obtain⟨t,ht,_,_⟩:=id hmk.there;have ne:a≠e:=λz=>by
   obtain⟨o,vs,p,_⟩:=n6;have:h6.get? e=none:=hmk.new;rw[<- z,p] at this;cases this
  refine⟨e,t,rfl,hmk.keeps _ _ (I7.bk _ _ gC),ht,n6.on (K2.same λo p=>hmk.keeps _ _ p),ne,λh8 e8 o8=>?_⟩;have hL:X.env.frame=some X.env.locals:=hfr;subst hX;have nB:(PySem.W.hideAll h6 (frs (a8h (CXK P w) P w K mg base N₀ qual sc f cd A outer s₀ H₀ E₀).stack)).get? e=none:=by
   cases z:(PySem.W.hideAll h6 (frs (a8h (CXK P w) P w K mg base N₀ qual sc f cd A outer s₀ H₀ E₀).stack)).get? e with
   | none=>rfl
   | some o=>have p:=PySem.W.of_hideAll _ z;rw[show h6.get? e=none from hmk.new] at p;cases p
  have k8:∀b o,h6.get? b=some o->h8.get? b=some o:=λb o p=>(o8 b (λz=>by rw[z,show h6.get? e=none from hmk.new] at p;cases p)).trans (hmk.keeps b o p)
  have FF:=c1r I7;show wpAny _ _ (noteFrame (.ref e) _) _ _ _;unfold noteFrame;simp only[hL];refine wpAny_bind (wpAny_field e8 rfl (x:=.none) rfl ?_);rw[if_neg (by decide)]
  refine c1v (base:=PySem.W.hideAll h6 (frs (a8h (CXK P w) P w K mg base N₀ qual sc f cd A outer s₀ H₀ E₀).stack)) (a0:=.ref t) (outer:=outer) hs (FF.of_keeps λb o p _=>⟨o,k8 b o p,rfl⟩) hL e8 (λb o p=>k8 b o (PySem.W.of_hideAll _ p)) nB rfl (by show 1<6;decide) rfl λh9 N9 _=>?_
  obtain⟨x1,x2,x3,x4⟩:=N9;have x4:h8.UpToSlots h9:=x4;obtain⟨oe,vs,T,oT,ts,he9,hcls,hd9,g1,nT,Te,hT,dT,g3⟩:=id x3;unfold cameBackBy;refine wpAny_bind (wpAny_field he9 hd9 g1 ?_);rw[if_neg (show ¬ ((Value.ref T == Value.none)=true) by simp)]
  rw[hL];refine c0w (fr:=some _) ⟨x1,nB,x2,x3⟩ λh10 R10 up10 _=>?_;refine b3z hs hL R10 λh11 fl11 up11 _=>?_;exact⟨e,.ref C',H',rfl,c8l (s:={ s1 with heap:=h6,toks:=s1.toks+1 }) I7 fl11 ((Heap.UpToSlots.of_keeps k8).trans ((x4.trans up10).trans up11)),some 0,(λz=>(nomatch z)),hq⟩
end
end L2
namespace L2
open PySem PySem.Spec PyProof.Rows
section
variable{X:Cx}
def d1q(r1 r2:R2)(ta tb tc:TE):TE:=λσ H Q=>ta σ H λx H1=>tb σ H1 λy H2=>r1 x y H2 λv H3=>∃k,v=.bl k/\if k=true then (tc σ H3 λz H4=>r2 y z H4 Q) else Q (.bl false) H3
theorem b6g{o1 o2:CmpOp}{r1 r2:R2}{a b c:Expr}{ta tb tc:TE}{pos:Pos}(h1:OpR X (compareOp o1) r1)(h2:OpR X (compareOp o2) r2)(ha:PE X a ta)(hb:PE X b tb)(hc:PE X c tc)(hm:lastMarks [o1,o2] [b,c]=false:=by with_unfolding_all rfl):PE X (.Compare a [o1,o2] [b,c] pos) (d1q r1 r2 ta tb tc):=by
 intro pins s σ H Q I h;refine Compare_chain (rs:=[]) (thn (ha pins s σ H _ I h) λv s1 z0_=>?_) hm;obtain⟨x,H1,I1,rx,q1⟩:=z0_;refine chain_link (thn (hb pins s1 σ H1 _ I1 q1) λu s2 z0_=>?_);obtain⟨y,H2,I2,ry,q2⟩:=z0_;refine thn (h1 pins s2 σ H2 x y v u _ I2 rx ry q2) λd s3 z0_=>?_;obtain⟨k,H3,I3,rk,b',ek,q3⟩:=z0_;subst ek;cases rk;refine wpAny_truthy_bool ?_;cases b' with
 | false=>exact⟨.bl false,H3,I3,rfl,q3⟩
 | true=>exact chain_last (thn (hc pins s3 σ H3 _ I3 q3) λe s4 z0_=>by obtain⟨z,H4,I4,rz,q4⟩:=z0_;exact h2 pins s4 σ H4 y z u e _ I4 ry rz q4)
theorem c1q{r1 r2:R2}{ta tb tc:TE}{σ:St}{H:Hp}{Q:VK}(q:ta σ H λx H1=>tb σ H1 λy H2=>r1 x y H2 λv H3=>∃k,v=.bl k/\if k=true then (tc σ H3 λz H4=>r2 y z H4 Q) else Q (.bl false) H3):d1q r1 r2 ta tb tc σ H Q:=q
def d4h:List V->Hp->VK->Prop:=λxs H Q=>(∃i,xs=[.int i]/\i.natAbs.log2<1920/\Q (.str (toString i)) H) \/ ∃z,xs=[.str z]/\Q (.str z) H
theorem c5o:a5z X (.type "str") d4h:=by
 intro pins s σ H xs us Q I r h;rcases h with ⟨i,rfl,hz,q⟩|⟨z,rfl,q⟩
 ·obtain⟨u,rfl,t,rfl⟩:=b7f r
  exact PySem.P.str_of_int hz ⟨.str _,H,I.tok _,⟨_,rfl⟩,q⟩
 ·obtain⟨u,rfl,t,rfl⟩:=b7f r
  exact PySem.P.str_of_str ⟨.str _,H,I,⟨_,rfl⟩,q⟩
def ipL:TIp:=λx y H Q=>∃l b xs zs,x=.ref l/\y=.ref b/\H l=some (.lst xs)/\H b=some (.lst zs)/\xs.length+zs.length<=sizeLine/\Q (.ref l) (upd H l (.lst (xs++zs)))
theorem c6g:seqSlot? (.type "list") (dunderI "add")=pure (some (.builtin "list.__iadd__"))   := PySem.seqSlot_of F.slot_list_iadd.lookup (by decide +kernel)
theorem c8e:PIp X .Add ipL:=by
 intro pins s σ H x y v u Q I rx ry h;obtain⟨l,b,xs,zs,rfl,rfl,hH,hB,hz,q⟩:=h;cases rx;cases ry;obtain⟨z,its,n,r,hl,e⟩:=I.lstM hH;obtain⟨z2,its2,n2,r2,hl2,e2⟩:=I.lstM hB;have ha:s.TypeIs (.ref l) "list":=⟨_,e,rfl⟩;have hb:s.TypeIs (.ref b) "list":=⟨_,e2,rfl⟩;have hsz:its.toArray.size+its2.toArray.size<=sizeLine:=by rw[List.size_toArray,List.size_toArray];lia
 have hlong:¬ (!its.toArray.isEmpty && Builtin.List.listTooLong (its.toArray.size+its2.toArray.size))=true:=by
  rw[c1g hsz,Bool.and_false];exact Bool.false_ne_true
 have lk:typeLookup (.type "list") (dunderI "add")=pure (some (.builtin "list.__iadd__")):=F.slot_list_iadd.lookup;have fi:fillsInplaceSlot (.type "list") "add" (Operator.Add == .Add)=pure false:=by
  unfold fillsInplaceSlot;show(typeLookup (.type "list") (dunderI "add") >>= λz=>pure (z.isSome && !isSeqSlot z))=pure false;rw[lk];show pure (true && !isSeqSlot (some (.builtin "list.__iadd__")))=(pure false:Sem Bool);rw[show isSeqSlot (some (.builtin "list.__iadd__"))=true by decide +kernel]
  rfl
 unfold inplaceOp;refine wpAny_holding ?_;refine wpAny_bind (wpAny_typeOf ha (wpAny_bind (wpAny_of_eq fi ?_)));show wpAny _ _ (if false=true then _ else _) _ _ s;rw[if_neg Bool.false_ne_true];refine wpAny_bind (wpAny_binaryOp1_none (nm:="add") ha hb PySem.noFill_list_add ?_);refine wpAny_bind (wpAny_of_eq c6g ?_);refine wpAny_bind (wpAny_rule ?_);refine call_meets F.slot_list_iadd ha F.entry_list_iadd (F.args_list_iadd_2 _ _) (AutoSeq1.list___iadd___list_list_0 l its.toArray n b its2.toArray n2 hlong (by rw[List.size_toArray];lia) (by lia)) ⟨e,e2,?_⟩
 exact⟨.ref l,_,I.lset (its':=its++its2) hH e (by simp) (r.append r2) (by rw[List.length_append];lia),rfl,q⟩
abbrev TJ:=St->Hp->Str->(Str->Hp->Prop)->Prop
def PJ(X:Cx)(vs:List Expr)(t:TJ):Prop:=∀(pins:List (Addr×Obj))(s:Shared)(σ:St)(H:Hp)(out:Str)(R:Str->Hp->Prop),Inv X pins σ H s->t σ H out R->wpAny (model X.prog X.w) X.A (joinParts out (evalEach vs X.env)) (EP X pins σ λv H'=>∃z,v=.str z/\R z H') X.xe s
def d6t(x:V)(y:Str):Prop:=(x=.str y/\y.length<=sizeLine) \/ ∃i:Int,x=.int i/\i.natAbs.log2<1920/\y=toString i
def d7a:TJ:=λ_ H out R=>out.length<=sizeLine/\R out H
def d7b(c:Str)(t:TJ):TJ:=λσ H out R=>(out++c).length<=sizeLine/\t σ H (out++c) R
def d6j(te:TE)(t:TJ):TJ:=λσ H out R=>te σ H λx H1=>∃y,d6t x y/\(out++y).length<=sizeLine/\t σ H1 (out++y) R
theorem c0z:PJ X [] d7a:=by
 intro pins s σ H out R I h;exact joinParts_nil ⟨.str out,H,I.tok _,⟨_,rfl⟩,out,rfl,h.2⟩ h.1
theorem a7r{c:Str}{k:Nat}{p:Pos}{vs:List Expr}{t:TJ}(ht:PJ X vs t):PJ X (.Constant (.str c) k p::vs) (d7b c t):=by
 intro pins s σ H out R I h;refine joinParts_cons (Calls.Constant_str ⟨h.1,?_⟩);exact ht pins _ σ H _ R (I.tok _) h.2
theorem a7q{e:Expr}{p:Pos}{te:TE}{vs:List Expr}{t:TJ}(he:PE X e te)(ht:PJ X vs t):PJ X (.FormattedValue e (-1) none p::vs) (d6j te t):=by
 intro pins s σ H out R I h;refine joinParts_cons (FormattedValue_plain (thn (he pins s σ H _ I h) λv s1 z0_=>?_));obtain⟨x,H1,I1,rx,y,fy,l,q⟩:=z0_;rcases fy with ⟨rfl,ly⟩|⟨i,rfl,hi,rfl⟩
 ·obtain⟨tk,rfl⟩:=rx
  exact formatField_str (λt' tk'=>⟨l,ht pins _ σ H1 _ R (I1.tok tk') q⟩) ly
 ·obtain⟨tk,rfl⟩:=rx
  exact formatField_int_small hi ⟨l,ht pins _ σ H1 _ R (I1.tok _) q⟩
def d1o(t:TJ):TE:=λσ H Q=>t σ H Str.empty λz H'=>Q (.str z) H'
theorem b6f{v1 v2:Expr}{rest:List Expr}{t:TJ}{pos:Pos}(h:PJ X (v1::v2::rest) t):PE X (.JoinedStr (v1::v2::rest) pos) (d1o t):=by
 intro pins s σ H Q I q;refine JoinedStr_many (thn (h pins s σ H Str.empty _ I q) λv s1 z0_=>?_);obtain⟨x,H1,I1,rx,z,e,qz⟩:=z0_;subst e;exact⟨_,H1,I1,rx,qz⟩
section
variable{σ:St}{H:Hp}{out:Str}{R:Str->Hp->Prop}{t:TJ}{te:TE}{Q:VK}
theorem c1n(q:t σ H Str.empty λz H'=>Q (.str z) H'):d1o t σ H Q:=q
theorem a7y(q:te σ H λx H1=>∃y,d6t x y/\(out++y).length<=sizeLine/\t σ H1 (out++y) R):d6j te t σ H out R:=q
end
theorem c1f{K:Frag}(h:X.K=K:=by rfl):OpR X (binaryOp .Add) (d1x K):=h ▸ c4g
end
end L2
namespace L2
open PySem PySem.Spec PyProof.Rows
open Builtin Builtin.Str
def c4q(c:Nat)(sp:List Nat):List (List Nat)->List Nat
 | []=>[]
 | [x]=>x
 | x::y::r=>x++c::(sp++c4q c sp (y::r))
theorem a5f(a b:Str):(a++b).cps.toList=a.cps.toList++b.cps.toList:=by
 show(a.cps++b.cps).toList=_;rw[Array.toList_append]
theorem c1j{y:Str}{c:Nat}{sp:List Nat}(hy:y.cps.toList=c::sp):∀ss:List Str,(Txt.join y ss).cps.toList=c4q c sp (ss.map (·.cps.toList)):=by
 intro ss;show(glued y ss).cps.toList=_;rw[StrLaws.glued_eq_join]
 induction ss with
 | nil=>rfl
 | cons x r ih=>
  cases r with
  | nil=>rfl
  | cons z r=>
   show(x++y++Str.join y (z::r)).cps.toList=x.cps.toList++c::(sp++c4q c sp ((z::r).map (·.cps.toList)))
   rw[a5f,a5f,ih,hy,List.append_assoc]
   rfl
end L2
namespace L2
open PySem PySem.Spec PyProof.Rows
open Builtin Builtin.Str
theorem b8w{y:Str}(h:y.length=2):∀{ss:List Str},ss≠[]->(Str.join y ss).length+2=wt ss+ss.length
 | [],z=>absurd rfl z
 | [x],_=>by rw[a3h,c0r];rfl
 | x::z::r,_=>by
  have:=b8w h (ss:=z::r) (by simp)
  rw[a3h];show(x++y++Str.join y (z::r)).length+2=_;rw[Str.length_append,Str.length_append,List.length_cons];lia
theorem c6x{y:Str}(h:y.length=2)(ss:List Str):(Txt.join y ss).length<=2*wt ss:=by
 show(glued y ss).length<=_;rw[StrLaws.glued_eq_join];by_cases z:ss=[]
 ·subst z;exact Nat.zero_le _
 ·have:=b8w h z
  have:=d1e ss;lia
theorem c9w{y:Str}(h:y.length=2){ss:List Str}(l:wt ss<=400000):JoinOk y ss=true:=by
 unfold JoinOk;rw[StrLaws.joinTotal,h];have:=a3a;have l:(ss.map (·.length)).sum+ss.length<=400000:=l
 rw[Bool.not_eq_true'];exact decide_eq_false (by lia)
theorem b5l:("; ":Str).length=2:=rfl
section
variable{K:Frag}{H:Hp}{Q:VK}
theorem c5d{y:Str}{p:Addr}{ss:List Str}(hy:y.length=2)(h:H p=some (.lst (ss.map V.str)))(l:wt ss<=400000)(q:Q (.str (Txt.join y ss)) H):c3o K (.str y) [.ref p] H Q:=c8i h (c9w hy l) q
end
end L2
namespace L2
open PySem PySem.Spec PyProof.Rows
theorem a2u{K:Frag}{a:Addr}{xs:List V}{p:V->Bool}{nt:Nat}{fr:List Nat}{g:TG}{tt:TT}{te:TE}{σ:St}{H:Hp}{Q:Addr->Hp->Prop}(hs:H a=some (.tup xs))(hz:xs.length<sizeLine)(he:∀(i:Nat) (x:V) (H':Hp) (k1:VK) (k2:Hp->Prop),xs[i]?=some x->Same H H'->(p x=true->∀H2,Same H' H2->k1 x H2)->(p x=false->∀H2,Same H' H2->k2 H2)->g x (a0h nt fr σ) H' λσ2 H2=>tt σ2 H2 λc H3=>if c=true then te σ2 H3 k1 else k2 H3)(hq:∀D H',H D=none->Same H H'->H' D=some (.lst (xs.filter p))->Q D H'):
  ∀D,H D=none->∃(n:Nat)(W:Nat->List V->Hp->Prop),W 0 [] (upd H D (.lst []))/\∀i acc H',W i acc H'->H' D=some (.lst acc)/\acc.length<sizeLine /\
   (((Itt K a).stop i H'/\Q D H')\/(i<n/\(Itt K a).go i H'/\∀x H2,(Itt K a).yld i H' x H2->g x (a0h nt fr σ) H2 λσ2 H3=>tt σ2 H3 λc H4=>if c=true then (te σ2 H4 λy H5=>H5 D=some (.lst acc)/\W (i+1) (acc++[y]) (upd H5 D (.lst (acc++[y])))) else W (i+1) acc H4)):=by
 intro D hD;refine⟨xs.length,λi acc H'=>i<=xs.length/\acc=(xs.take i).filter p/\Same H H'/\H' D=some (.lst acc),⟨Nat.zero_le _,rfl,λb u eb=>by rw[f9 (g9 eb hD)];exact eb,d8⟩,?_⟩
 rintro i acc H' ⟨hi,rfl,s',e'⟩;have hl:((xs.take i).filter p).length<=i:=Nat.le_trans (List.length_filter_le _ _) (by rw[List.length_take];lia)
 refine⟨e',by lia,?_⟩
 have sq:SqT K H' a xs:=SqT.of (s' _ _ hs);by_cases h:i<xs.length
 ·refine .inr ⟨h,⟨xs,xs[i],sq,List.getElem?_eq_getElem h⟩,?_⟩
  rintro x H2 ⟨rfl,hy⟩;have hx:=hy xs sq;have e:xs.take (i+1)=xs.take i++[x]:=by
   rw[List.take_succ,hx];rfl
  refine he i x _ _ _ hx s' (λq H3 s3=>⟨s3 _ _ e',by lia,?_,?_,d8⟩) (λq H3 s3=>⟨by lia,?_,λb u eb=>s3 _ _ (s' _ _ eb),s3 _ _ e'⟩)
  ·rw[e,List.filter_append]
   simp[q]
  ·intro b u eb
   rw[f9 (g9 eb hD)];exact s3 _ _ (s' _ _ eb)
  ·rw[e,List.filter_append]
   simp[q]
 ·have e:i=xs.length:=by lia
  subst e;refine .inl ⟨⟨xs,sq,Nat.le_refl _⟩,?_⟩;rw[List.take_length] at e';exact hq D _ hD s' e'
end L2
namespace HT
open PySem PySem.Spec PyProof.Rows
section
variable{prog:Program}{w:World}{A:Around}{E:Value->Shared->Prop}{s:Shared}
theorem c9j(k:Nat):Builtin.Slice.slicePlaces 0 ((4*k:Nat):Int) 4=k:=by
 unfold Builtin.Slice.slicePlaces;rw[if_pos (by decide)]
 split <;> lia
theorem d0w(k n:Nat)(h:4*k<=n):Builtin.Slice.sliceAdjust none (some ((4*k:Nat):Int)) 4 (n:Int)=(0,((4*k:Nat):Int)):=by
 unfold Builtin.Slice.sliceAdjust;have h1:¬ ((4:Int)<0):=by lia
 simp only[h1,if_false];refine Prod.ext rfl ?_;dsimp only;rw[if_neg (by lia)]
 lia
theorem b5n{sl:Addr}{vl vu vt:Value}{k n:Nat}{Q:Int×Int×Nat->Shared->Prop}(hs:s.heap.IsSliceOf sl vl vu vt)(pl:IsPart vl none)(pu:IsPart vu (some ((4*k:Nat):Int)))(pt:IsPart vt (some 4))(hk:4*k<=n)(h:Q (0,4,k) s):wpAny (model prog w) A (Builtin.Slice.sliceApplied (.ref sl) (pure (n:Int))) Q E s:=by
 obtain⟨os,hos,hcs,hds⟩:=id hs;unfold Builtin.Slice.sliceApplied Builtin.Slice.sliceFields;refine wpAny_bind (wpAny_bind (wpAny_field hos hds (x:=vl) rfl (wpAny_bind (wpAny_field hos hds (x:=vu) rfl (wpAny_bind (wpAny_field hos hds (x:=vt) rfl (wpAny_pure ?_)))))));refine wpAny_bind (a4x pt ?_);show wpAny _ _ (if ((4:Int) == 0)=true then _ else _) _ _ s;rw[if_neg (by decide)]
 refine wpAny_bind (a4x pl (wpAny_bind (a4x pu (wpAny_bind (wpAny_pure ?_)))));show wpAny _ _ (match Builtin.Slice.sliceAdjust none (some ((4*k:Nat):Int)) 4 (n:Int) with|(lo,hi)=>pure (lo,(4:Int),Builtin.Slice.slicePlaces lo hi 4)) _ _ s
 rw[d0w k n hk];show wpAny _ _ (pure ((0:Int),(4:Int),Builtin.Slice.slicePlaces 0 ((4*k:Nat):Int) 4)) _ _ s;rw[c9j];exact wpAny_pure h
theorem getItem_tuple_4{t sl:Addr}{items:Array Value}{vl vu vt:Value}{k:Nat}{Q:Value->Shared->Prop}(ht:IsTup s.heap t items)(hs:s.heap.IsSliceOf sl vl vu vt)(pl:IsPart vl none)(pu:IsPart vu (some ((4*k:Nat):Int)))(pt:IsPart vt (some 4))(hk:4*k<=items.size)(h:Q (.ref s.heap.objs.size) { s with heap:=s.heap.push { cls:=.type "tuple",data:=.seq ((List.range k).filterMap λ(m:Nat)=>items[((0:Int)+(m:Int)*4).toNat]?).toArray } })(hsz:items.size<=sizeLine):wpAny (model prog w) A (getItem (.ref t) (.ref sl)) Q E s:=by
 have htake:sizeOk (.seq ((List.range k).filterMap λ(m:Nat)=>items[((0:Int)+(m:Int)*4).toNat]?).toArray):=by
  show((List.range k).filterMap λ(m:Nat)=>items[((0:Int)+(m:Int)*4).toNat]?).toArray.size<=sizeLine;rw[List.size_toArray];have:=List.length_filterMap_le (λ(m:Nat)=>items[((0:Int)+(m:Int)*4).toNat]?) (List.range k);rw[List.length_range] at this;lia
 obtain⟨os,hos,hcs,hds⟩:=id hs;have hTs:s.TypeIs (.ref sl) "slice":=⟨os,hos,hcs⟩;unfold getItem
 try with_reducible refine wpAny_holding ?_
 first|refine wpAny_bind (wpAny_pure ?_)|skip
 refine wpAny_bind (wpAny_sequenceKey ht.typeIs (by decide) ?_)
 refine wpAny_bind (wpAny_callSpecial?_slot (name:=Str.ofString "__getitem__") ht.typeIs PyProof.Rows.slot_tuple_getitem
  (wpAny_call_entry PyProof.Rows.slot_tuple_getitem ht.typeIs entry_tuple_getitem ?_ (args_tuple_getitem _ _)))
 show wpAny _ _ (Builtin.Tuple.tupleItemsOf (.ref t) >>= _) _ _ s;refine wpAny_bind (tupleItemsOf_ ht ?_);refine wpAny_bind (wpAny_typeOf hTs ?_);rw[if_pos (by decide)]
 refine wpAny_bind (b5n hs pl pu pt hk ?_);show wpAny _ _ (if ((0:Int) == 0 && (4:Int) == 1 && k == items.size)=true then _ else _) _ _ s;rw[if_neg (by show ¬ ((true && false && _)=true);simp)]
 first
  | exact wpAny_bind (m:=Builtin.Tuple.tupleExact _) (wpAny_newObj_type (wpAny_pure ⟨_,rfl,wpAny_pure h⟩) htake)
  | exact wpAny_bind (m:=Builtin.Tuple.tupleExact _) (wpAny_newObj_type (wpAny_bind (wpAny_pure (wpAny_pure ⟨_,rfl,wpAny_pure h⟩))) htake)
  | exact wpAny_bind (wpAny_bind (m:=Builtin.Tuple.tupleExact _) (wpAny_newObj_type (wpAny_pure (wpAny_pure ⟨_,rfl,wpAny_pure h⟩)) htake))
  | exact wpAny_bind (wpAny_bind (m:=Builtin.Tuple.tupleExact _) (wpAny_newObj_type (wpAny_pure ⟨_,rfl,wpAny_pure h⟩) htake))
end
end HT
namespace L2
open PySem PySem.Spec PyProof.Rows
section
variable{X:Cx}{e:Expr}{te:TE}{lo hi:Option Expr}{se:Expr}{tl th ts:TO}{pos p2:Pos}
def b6e(xs:List V)(k:Nat):List V:=(List.range k).filterMap λm=>xs[4*m]?
def d5x(K:Frag)(te:TE)(tl th ts:TO):TE:=λσ H Q=>te σ H λx H1=>tl σ H1 λl H2=>th σ H2 λu H3=>ts σ H3 λt H4=>∃(a:Addr)(xs:List V)(k:Nat),x=.ref a/\SqT K H4 a xs/\l=none/\u=some ((4*k:Nat):Int)/\t=some 4/\4*k<=xs.length/\∀p,H4 p=none->Q (.ref p) (upd H4 p (.tup (b6e xs k)))
theorem c3w{K:Frag}(he:PE X e te)(hl:PO X lo tl)(hu:PO X hi th)(ht:PO X (some se) ts)(hK:X.K=K:=by rfl):PE X (.Subscript e (.Slice lo hi (some se) p2) pos) (d5x K te tl th ts):=by
 subst hK;intro pins s σ H Q I h;refine Subscript_ (thn (he pins s σ H _ I h) λv s1 z0_=>?_);obtain⟨x,H1,I1,r1,q1⟩:=z0_;refine wpAny_Slice (thn (hl pins s1 σ H1 _ I1 q1) λvl s2 z0_=>?_);obtain⟨l,H2,I2,pl,q2⟩:=z0_;refine thn (hu pins s2 σ H2 _ I2 q2) λvu s3 z1_=>?_;obtain⟨u,H3,I3,pu,q3⟩:=z1_;refine thn (ht pins s3 σ H3 _ I3 q3) λvt s4 z2_=>?_;obtain⟨t,H4,I4,pt,q4⟩:=z2_;obtain⟨a,xs,k,rfl,hx,rfl,rfl,rfl,hk,q⟩:=q4;cases r1;have I5:Inv X pins σ H4 { s4 with heap:=s4.heap.push { cls:=.type "slice",data:=.fields #[vl,vu,vt] } }:=I4.kept (t':=s4.toks) λb ob q=>Heap.get?_push_of_some _ q
 obtain⟨its,r,hT,hz'⟩:=I5.tuple hx;have hlen:=r.length;show wpAny (model X.prog X.w) X.A (subscriptTail e (.Slice lo hi (some se) p2) (.ref a) (.ref s4.heap.objs.size)) (EP X pins σ Q) X.xe { s4 with heap:=s4.heap.push { cls:=.type "slice",data:=.fields #[vl,vu,vt] } }
 refine tail_any (ops:=[.ref a,.ref s4.heap.objs.size]) hT.typeIs PyProof.Rows.slot_tuple_getitem.lookup ?_ (by with_unfolding_all rfl)
 refine HT.getItem_tuple_4 (k:=k) hT (Heap.IsSliceOf.new ..) pl pu pt (by rw[List.size_toArray];lia) ?_ (by rw[List.size_toArray];lia)
 have e1:((List.range k).filterMap λ(m:Nat)=>its.toArray[((0:Int)+(m:Int)*4).toNat]?)=((List.range k).map λm=>4*m).filterMap λx=>its[x]?:=by
  rw[List.filterMap_map]
  congr 1
  funext m;show its.toArray[((0:Int)+(m:Int)*4).toNat]?=its[4*m]?;rw[show((0:Int)+(m:Int)*4).toNat=4*m by lia]
  simp
 have e2:b6e xs k=((List.range k).map λm=>4*m).filterMap λx=>xs[x]?:=by
  unfold b6e;rw[List.filterMap_map]
  rfl
 rw[e1];have l4:(b6e xs k).length<=sizeLine:=by
  have:=List.length_filterMap_le (λm=>xs[4*m]?) (List.range k);rw[List.length_range] at this;unfold b6e;lia
 exact⟨.ref _,_,I5.laid (t':=s4.toks) (o:=.tup (b6e xs k)) (λb ob q=>Heap.get?_push_of_some _ q) (Nat.le_refl _) ⟨l4,_,e2 ▸ b2m r _,IsTup.new _ _⟩,rfl,q _ (I5.hok.fresh (Nat.le_refl _))⟩
theorem d5a{K:Frag}{σ:St}{H:Hp}{Q:VK}(q:te σ H λx H1=>tl σ H1 λl H2=>th σ H2 λu H3=>ts σ H3 λt H4=>∃(a:Addr) (xs:List V) (k:Nat),x=.ref a/\SqT K H4 a xs/\l=none/\u=some ((4*k:Nat):Int)/\t=some 4/\4*k<=xs.length/\∀p,H4 p=none->Q (.ref p) (upd H4 p (.tup (b6e xs k)))):d5x K te tl th ts σ H Q:=q
end
end L2
namespace L2
open PySem PySem.Spec PyProof.Rows
theorem d0s{prog:Program}{w:World}{A:Around}{E:Value->Shared->Prop}{s:Shared}{t b:Addr}{vs ws:List Value}{Q:Value->Shared->Prop}(ht:IsTup s.heap t vs.toArray)(hb:IsTup s.heap b ws.toArray)(hv:vs=[])(h1:Q (.ref b) s):wpAny (model prog w) A (binaryOp .Add (.ref t) (.ref b)) Q E s:=by
 obtain⟨⟨cls,dd,data,sl⟩,ho,hc,n,hd⟩:=id ht;obtain⟨⟨cls2,dd2,data2,sl2⟩,ho2,hc2,n2,hd2⟩:=id hb;simp only at hc hd hc2 hd2;subst hc hd hc2 hd2;exact concat_meets ⟨_,ho,rfl⟩ ⟨_,ho2,rfl⟩ noFill_tuple_add seq_tuple_add PySem.F.slot_tuple_add PySem.F.entry_tuple_add (PySem.F.args_tuple_add_2 _ _)
  (tuple_addW0 t b vs.toArray ws.toArray n n2 dd dd2 sl sl2 (by simp[hv])) ⟨ho,ho2,h1⟩
section
variable{X:Cx}
def c6l(K:Frag):R2:=λx y H Q=>∃a b xs ys,x=.ref a/\y=.ref b/\SqT K H a xs/\SqT K H b ys/\xs.length+ys.length<=sizeLine /\
 (xs=[]->Q (.ref b) H)/\(xs≠[]->ys=[]->Q (.ref a) H)/\(xs≠[]->ys≠[]->∀p,H p=none->Q (.ref p) (upd H p (.tup (xs++ys))))
theorem a1x{K:Frag}(h:X.K=K:=by rfl):OpR X (binaryOp .Add) (c6l K):=by
 subst h;intro pins s σ H x y v u Q I rx ry h;obtain⟨a,b,xs,ys,rfl,rfl,ha,hb,hz,q0,q1,q2⟩:=h;by_cases hx:xs=[]
 ·cases rx
  cases ry;obtain⟨its,r1,p1,_⟩:=I.tuple ha;obtain⟨its2,r2,p2,_⟩:=I.tuple hb;exact d0s p1 p2 (r1.nil_iff.mpr hx) ⟨.ref b,H,I,rfl,q0 hx⟩
 ·exact c4g pins s σ H _ _ v u Q I rx ry ⟨a,b,xs,ys,rfl,rfl,ha,hb,hx,hz,q1 hx,q2 hx⟩
theorem b9c{K:Frag}{H:Hp}{Q:VK}{a b:Addr}{xs ys:List V}(ha:H a=some (.tup xs))(hb:H b=some (.tup ys))(hz:xs.length+ys.length<=sizeLine)(q:∀p H',Same H H'->H' p=some (.tup (xs++ys))->Q (.ref p) H'):c6l K (.ref a) (.ref b) H Q:=by
 refine⟨a,b,xs,ys,rfl,rfl,SqT.of ha,SqT.of hb,hz,λz=>q b H (Same.refl H) ?_,λ_ z=>q a H (Same.refl H) ?_,λ_ _ p hp=>q p _ (λb u e=>by rw[f9 (g9 e hp)];exact e) d8⟩
 ·rw[z];exact hb
 ·rw[z,List.append_nil];exact ha
end
end L2
namespace PySem
open Sem (wp)
open Builtin
theorem b2h:fillsNumberSlot (.type "tuple") "mul" = pure false :=
 fillsNumberSlot_seq (id:="tuple.__mul__") (r:=some (.builtin "tuple.__rmul__")) F.slot_tuple_mul.lookup (by decide +kernel) F.slot_tuple_rmul.lookup (by decide +kernel)
theorem b7x:seqRepeat? (.type "tuple")=pure (some (.builtin "tuple.__mul__")):=by
 unfold seqRepeat?;rw[seqSlot_of (T:="tuple") (name:="__mul__") (id:="tuple.__mul__") F.slot_tuple_mul.lookup (by decide +kernel),seqSlot_of (T:="tuple") (name:="__rmul__") (id:="tuple.__rmul__") F.slot_tuple_rmul.lookup (by decide +kernel)]
 rfl
theorem b9q(a:Int)(t:Tok)(l:Addr)(items:Array Value)(n:Nat)(d:Option Addr)(sl:Array (Option Value)):
  Meets (Builtin.«int.__rmul__» ⟨[.int a t,.ref l],[]⟩) (λ_ R s=>s.heap.get? l=some { cls:=.type "tuple",dict:=d,data:=.seq items n,slots:=sl }/\R (.ok (.ret Value.notImplemented)) s) :=
 .of_wp λprog w A R s h=>by obtain⟨hp,g,d,tk,os⟩:=s;obtain⟨hl,h⟩:=h;wp_walk;exact⟨_,rfl,h⟩
theorem d1k(l:Addr)(items:Array Value)(n:Nat)(d:Option Addr)(sl:Array (Option Value))(x:Int)(u:Tok)(hc0:¬ (x < -(2 ^ 63) || x >= 2 ^ 63)=true)(h1:¬ (items.isEmpty || x == 1)=true)(h2:¬ (x<=0 || items.isEmpty)=true)(hc1:¬ items.size*x > (2 ^ 63-1) / 8)(hc2:¬ Builtin.Tuple.tupleTooMany (items.size*x)=true)(hs:((List.replicate x.toNat items).foldl (· ++ ·) #[]).size<=sizeLine):
  Meets (Builtin.«tuple.__mul__» ⟨[.ref l,.int x u],[]⟩) (λ_ R s=>s.heap.get? l=some { cls:=.type "tuple",dict:=d,data:=.seq items n,slots:=sl }/\R (.ok (.ret (Value.ref s.heap.objs.size))) { s with heap:=s.heap.push { cls:=Value.type "tuple",data:=Data.seq ((List.replicate x.toNat items).foldl (· ++ ·) #[]) },toks:=s.toks }) :=
 .of_wp λprog w A R s h=>by
  obtain⟨hp,g,d,tk,os⟩:=s;obtain⟨hl,h⟩:=h
  wp_walk
  rw[if_neg hc0]
  wp_walk
  rw[if_neg hc1]
  wp_walk
  exact⟨_,rfl,h⟩
theorem c8x(l:Addr)(items:Array Value)(n:Nat)(d:Option Addr)(sl:Array (Option Value))(u:Tok):
  Meets (Builtin.«tuple.__mul__» ⟨[.ref l,.int 1 u],[]⟩) (λ_ R s=>s.heap.get? l=some { cls:=.type "tuple",dict:=d,data:=.seq items n,slots:=sl }/\R (.ok (.ret (Value.ref l))) s) :=
 .of_wp λprog w A R s h=>by
  obtain⟨hp,g,d,tk,os⟩:=s;obtain⟨hl,h⟩:=h
  wp_walk
  exact⟨_,rfl,h⟩
end PySem
namespace HT
open PySem PySem.Spec PyProof.Rows
section
variable{prog:Program}{w:World}{A:Around}{E:Value->Shared->Prop}{s:Shared}
theorem getItem_tuple_whole{t sl:Addr}{items:Array Value}{vl vu:Value}{lo hi:Option Int}{Q:Value->Shared->Prop}(ht:IsTup s.heap t items)(hs:s.heap.IsSliceOf sl vl vu .none)(pl:IsPart vl lo)(pu:IsPart vu hi)(hw:sIx items.size 0 lo=0/\sIx items.size items.size hi=items.size)(h:Q (.ref t) s):wpAny (model prog w) A (getItem (.ref t) (.ref sl)) Q E s:=by
 obtain⟨os,hos,hcs,hds⟩:=id hs;have hTs:s.TypeIs (.ref sl) "slice":=⟨os,hos,hcs⟩;unfold getItem
 try with_reducible refine wpAny_holding ?_
 first|refine wpAny_bind (wpAny_pure ?_)|skip
 refine wpAny_bind (wpAny_sequenceKey ht.typeIs (by decide) ?_)
 refine wpAny_bind (wpAny_callSpecial?_slot (name:=Str.ofString "__getitem__") ht.typeIs PyProof.Rows.slot_tuple_getitem
  (wpAny_call_entry PyProof.Rows.slot_tuple_getitem ht.typeIs entry_tuple_getitem ?_ (args_tuple_getitem _ _)))
 show wpAny _ _ (Builtin.Tuple.tupleItemsOf (.ref t) >>= _) _ _ s;refine wpAny_bind (tupleItemsOf_ ht ?_);refine wpAny_bind (wpAny_typeOf hTs ?_);rw[if_pos (by decide)]
 refine wpAny_bind (a6f hs pl pu ?_);have hyes:(((sIx items.size 0 lo:Nat):Int) == 0 && (1:Int) == 1 && (sIx items.size items.size hi-sIx items.size 0 lo) == items.size)=true:=by
  rw[hw.1,hw.2];simp
 show wpAny _ _ (if (((sIx items.size 0 lo:Nat):Int) == 0 && (1:Int) == 1 && (sIx items.size items.size hi-sIx items.size 0 lo) == items.size)=true then _ else _) _ _ s;rw[if_pos hyes];unfold Builtin.Tuple.tupleIsExact;refine wpAny_bind (wpAny_bind (wpAny_typeOf ht.typeIs (wpAny_pure ?_)));rw[if_pos (by decide)]
 refine wpAny_bind (wpAny_rule ?_);exact wpAny_pure ⟨_,rfl,wpAny_pure h⟩
end
end HT
namespace L2
open PySem PySem.Spec PyProof.Rows
section
variable{X:Cx}
def d1v(K:Frag):R2:=λx y H Q=>∃a k xs,x=.ref a/\y=.int k/\SqT K H a xs/\xs≠[]/\1<=k/\k<2 ^ 20/\xs.length*k.toNat<=sizeLine /\
 (k=1->Q (.ref a) H)/\(k≠1->∀p,H p=none->Q (.ref p) (upd H p (.tup (List.replicate k.toNat xs).flatten)))
theorem b3i{K:Frag}(h:X.K=K:=by rfl):OpR X (binaryOp .Mult) (d1v K):=by
 subst h;intro pins s σ H x y v u Q I rx ry h;obtain⟨a,k,xs,rfl,rfl,ha,hx,h1,h2,hz,q1,q2⟩:=h;cases rx;obtain⟨t,rfl⟩:=ry;obtain⟨its,r,ht,_⟩:=I.tuple ha;have hne:its≠[]:=λz=>hx (r.nil_iff.mp z);have hl:xs.length=its.length:=r.length;obtain⟨⟨cls,dd,data,sl⟩,ho,hc,n,hd⟩:=id ht;simp only at hc hd;subst hc hd;refine wpAny_binaryOp_repeat_ref (T:="tuple") (U:="int") (by decide) ⟨_,ho,rfl⟩ (λs'=>typeIs_int s' k t) b2h F.fills_int_mul F.slot_int_rmul b7x F.slot_int_index.lookup
  (call_meets F.slot_int_rmul (typeIs_int s k t) F.entry_int_rmul (F.args_int_rmul_2 _ _) (b9q k t a its.toArray n dd sl)
   ⟨ho,rfl,⟨_,ho,rfl⟩,?_⟩)
 by_cases z:k=1
 ·subst z
  exact call_meets F.slot_tuple_mul ⟨_,ho,rfl⟩ F.entry_tuple_mul (F.args_tuple_mul_2 _ _) (c8x a its.toArray n dd sl t) ⟨ho,.ref a,H,I,rfl,q1 rfl⟩
 ·have e0:its.toArray.isEmpty=false:=by simp[hne]
  have f0:List.foldl (λx1 x2=>x1++x2) #[] (List.replicate k.toNat its.toArray)=(List.replicate k.toNat its).flatten.toArray:=by
   have:=b4e its k.toNat [];rw[List.nil_append] at this;exact this
  have hsz:its.length*k.toNat<=sizeLine:=by rw[<- hl];exact hz
  have hk:(its.toArray.size:Int)*k=((its.length*k.toNat:Nat):Int):=by
   rw[List.size_toArray,Int.natCast_mul,Int.toNat_of_nonneg (by lia)]
  have hcap:(sizeLine:Nat)<=(2 ^ 63-1) / 8:=by decide
  refine call_meets F.slot_tuple_mul ⟨_,ho,rfl⟩ F.entry_tuple_mul (F.args_tuple_mul_2 _ _) (d1k a its.toArray n dd sl k t ?_ ?_ ?_ ?_ ?_ ?_) ⟨ho,?_⟩
  ·simp only[Bool.or_eq_true,decide_eq_true_eq,not_or];lia
  ·rw[e0];simp[z]
  ·rw[e0];simp;lia
  ·rw[hk];lia
  ·rw[hk];unfold Builtin.Tuple.tupleTooMany;simp only[decide_eq_true_eq,gt_iff_lt];lia
  ·rw[f0,List.size_toArray,b3y,Nat.mul_comm];exact hsz
  ·rw[f0]
   refine⟨.ref s.heap.objs.size,_,I.laid (t':=s.toks) (o:=.tup (List.replicate k.toNat xs).flatten) (λb ob q=>Heap.get?_push_of_some _ q) (Nat.le_refl _) ?_,rfl,q2 z _ (I.hok.fresh (Nat.le_refl _))⟩;exact⟨by rw[b3y,Nat.mul_comm];exact hz,_,r.rep k.toNat,IsTup.new _ _⟩
theorem b9a{K:Frag}{H:Hp}{Q:VK}{a:Addr}{k:Int}{xs:List V}(ha:H a=some (.tup xs))(hx:xs≠[])(h1:1<=k)(h2:k<2 ^ 20)(hz:xs.length*k.toNat<=sizeLine)(q:∀p H',Same H H'->H' p=some (.tup (List.replicate k.toNat xs).flatten)->Q (.ref p) H'):d1v K (.ref a) (.int k) H Q:=by
 refine⟨a,k,xs,rfl,rfl,SqT.of ha,hx,h1,h2,hz,λz=>q a H (Same.refl H) ?_,λ_ p hp=>q p _ (λb u e=>by rw[f9 (g9 e hp)];exact e) d8⟩
 rw[z]
 simpa using ha
def d1a:V->Option Int->Option Int->Hp->VK->Prop:=λx lo hi H Q=>∃a xs,x=.ref a/\H a=some (.tup xs)/\∀p H',Same H H'->H' p=some (.tup (b5h xs lo hi))->Q (.ref p) H'
theorem a1o:SlR X d1a:=by
 intro pins s σ H x v vl vu lo hi sl Q I rx hs pl pu h;obtain⟨a,xs,rfl,ha,q⟩:=h;by_cases hw:HT.sIx xs.length 0 lo=0/\HT.sIx xs.length xs.length hi=xs.length
 ·cases rx
  obtain⟨its,r,ht,hz⟩:=I.tuple (SqT.of ha);have hlen:its.toArray.size=xs.length:=by rw[List.size_toArray];exact r.length.symm
  refine⟨"tuple",_,PyProof.Rows.slot_tuple_getitem.lookup,ht.typeIs,?_⟩;refine HT.getItem_tuple_whole ht hs pl pu (by rw[hlen];exact hw) ⟨.ref a,H,I,rfl,q a H (Same.refl H) ?_⟩
  rw[ha,show b5h xs lo hi=xs by
   unfold b5h;rw[hw.1,hw.2,List.drop_zero,Nat.sub_zero];exact List.take_of_length_le (Nat.le_refl _)]
 ·exact c7v pins s σ H _ v vl vu lo hi sl Q I rx hs pl pu ⟨a,xs,rfl,SqT.of ha,hw,λp hp=>q p _ (λb u e=>by rw[f9 (g9 e hp)];exact e) d8⟩
theorem c0g{H:Hp}{Q:VK}{a:Addr}{xs:List V}{lo hi:Option Int}(ha:H a=some (.tup xs))(q:∀p H',Same H H'->H' p=some (.tup (b5h xs lo hi))->Q (.ref p) H'):d1a (.ref a) lo hi H Q:=⟨a,xs,rfl,ha,q⟩
end
end L2
namespace S
open PySem L2
def top(i:Nat):Stmt:=PySem.Challenge.pw_slipring_k36_stands_refused.main.body.getD i (.Pass ⟨0,0,0,0⟩)
theorem d0t:bootBuiltins "ValueError" = some (.type "ValueError"):=by decide +kernel
structure Cl where
 RingError:Addr
 BadSize:Addr
 NoTurn:Addr
 BadMark:Addr
 Crooked:Addr
 NoCell:Addr
 BadCells:Addr
 BadOrder:Addr
 NoHand:Addr
 NoWaiting:Addr
 NotSound:Addr
 BadStand:Addr
 TooMany:Addr
 NoName:Addr
 NoText:Addr
 NoRow:Addr
 Board:Addr
 Hand:Addr
 Giver:Addr
 Taker:Addr
 Lane:Addr
 t_HANDS:Addr
 t_COMING_UP:Addr
 t_WAITING:Addr
 t_FREEING:Addr
 t_GIVER_STAGES:Addr
 t_TAKER_STAGES:Addr
 d_DEEDS_hand:Addr
 d_DEEDS_giver:Addr
 d_DEEDS_taker:Addr
structure Txt(K:Frag)(mg:Str->Option Value)(cl:Cl):Prop where
 c_RingError:ExM mg "RingError" cl.RingError
 c_BadSize:ExT K mg "BadSize" cl.BadSize
 c_NoTurn:ExT K mg "NoTurn" cl.NoTurn
 c_BadMark:ExT K mg "BadMark" cl.BadMark
 c_Crooked:ExT K mg "Crooked" cl.Crooked
 c_NoCell:ExT K mg "NoCell" cl.NoCell
 c_BadCells:ExT K mg "BadCells" cl.BadCells
 c_BadOrder:ExT K mg "BadOrder" cl.BadOrder
 c_NoHand:ExT K mg "NoHand" cl.NoHand
 c_NoWaiting:ExM mg "NoWaiting" cl.NoWaiting
 c_NotSound:ExM mg "NotSound" cl.NotSound
 c_BadStand:ExT K mg "BadStand" cl.BadStand
 c_TooMany:ExM mg "TooMany" cl.TooMany
 c_NoName:ExM mg "NoName" cl.NoName
 c_NoText:ExM mg "NoText" cl.NoText
 c_NoRow:ExM mg "NoRow" cl.NoRow
 c_Board:ExM mg "Board" cl.Board
 c_Hand:ExM mg "Hand" cl.Hand
 c_Giver:ExM mg "Giver" cl.Giver
 c_Taker:ExM mg "Taker" cl.Taker
 c_Lane:ExM mg "Lane" cl.Lane
 m_LEAST_SIZE:∃t,mg "LEAST_SIZE" = some (.int (2) t)
 m_MOST_SIZE:∃t,mg "MOST_SIZE" = some (.int (8) t)
 m_FREE:∃t,mg "FREE" = some (.int (0) t)
 m_FULL:∃t,mg "FULL" = some (.int (1) t)
 m_MOST_MARK:∃t,mg "MOST_MARK" = some (.int (3) t)
 m_CELLS_OF_A_PLACE:∃t,mg "CELLS_OF_A_PLACE" = some (.int (4) t)
 m_NEW_MARK:∃t,mg "NEW_MARK" = some (.int (2) t)
 m_NO_ORDER:∃t,mg "NO_ORDER" = some (.int (-1) t)
 m_NO_TURN:∃t,mg "NO_TURN" = some (.int (-1) t)
 m_STILL:∃t,mg "STILL" = some (.int (0) t)
 m_RUNG:∃t,mg "RUNG" = some (.int (1) t)
 m_NO_TURN_WORD:∃t,mg "NO_TURN_WORD" = some (.str "none" t)
 m_NO_ORDERS_WORD:∃t,mg "NO_ORDERS_WORD" = some (.str "-" t)
 r_HANDS:mg "HANDS" = some (.ref cl.t_HANDS)
 kt_HANDS:KTup K cl.t_HANDS [.str "giver",.str "taker"]
 r_COMING_UP:mg "COMING_UP" = some (.ref cl.t_COMING_UP)
 kt_COMING_UP:KTup K cl.t_COMING_UP [.str "rouse",.str "clear",.str "mute",.str "marks"]
 r_WAITING:mg "WAITING" = some (.ref cl.t_WAITING)
 kt_WAITING:KTup K cl.t_WAITING [.str "look",.str "wish",.str "again",.str "sleep",.str "hush",.str "unwish"]
 r_FREEING:mg "FREEING" = some (.ref cl.t_FREEING)
 kt_FREEING:KTup K cl.t_FREEING [.str "free",.str "card",.str "ring"]
 r_GIVER_STAGES:mg "GIVER_STAGES" = some (.ref cl.t_GIVER_STAGES)
 kt_GIVER_STAGES:KTup K cl.t_GIVER_STAGES [.str "rouse",.str "clear",.str "mute",.str "marks",.str "told",.str "lacks",.str "look",.str "wish",.str "again",.str "sleep",.str "hush",.str "unwish",.str "number",.str "left",.str "thing",.str "mark",.str "card",.str "ring"]
 r_TAKER_STAGES:mg "TAKER_STAGES" = some (.ref cl.t_TAKER_STAGES)
 kt_TAKER_STAGES:KTup K cl.t_TAKER_STAGES [.str "rouse",.str "clear",.str "mute",.str "marks",.str "look",.str "wish",.str "again",.str "sleep",.str "hush",.str "unwish",.str "number",.str "left",.str "thing",.str "free",.str "card",.str "ring"]
 k_Board:Cls K cl.Board
 n_Board_many_touches:NoAttr K cl.Board "many_touches"
 n_Board_newest_touch:NoAttr K cl.Board "newest_touch"
 n_Board_numbers:NoAttr K cl.Board "numbers"
 n_Board_size:NoAttr K cl.Board "size"
 k_Hand:Cls K cl.Hand
 n_Hand_board:NoAttr K cl.Hand "board"
 n_Hand_here:NoAttr K cl.Hand "here"
 n_Hand_marks_read:NoAttr K cl.Hand "marks_read"
 n_Hand_name:NoAttr K cl.Hand "name"
 n_Hand_other:NoAttr K cl.Hand "other"
 n_Hand_stage_behind_marks:NoAttr K cl.Hand "stage_behind_marks"
 n_Hand_stage_now:NoAttr K cl.Hand "stage_now"
 n_Hand_touched:NoAttr K cl.Hand "touched"
 k_Giver:Cls K cl.Giver
 n_Giver_board:NoAttr K cl.Giver "board"
 n_Giver_here:NoAttr K cl.Giver "here"
 n_Giver_kept:NoAttr K cl.Giver "kept"
 n_Giver_left:NoAttr K cl.Giver "left"
 n_Giver_marks_read:NoAttr K cl.Giver "marks_read"
 n_Giver_name:NoAttr K cl.Giver "name"
 n_Giver_number:NoAttr K cl.Giver "number"
 n_Giver_other:NoAttr K cl.Giver "other"
 n_Giver_stage_behind_marks:NoAttr K cl.Giver "stage_behind_marks"
 n_Giver_stage_now:NoAttr K cl.Giver "stage_now"
 n_Giver_touched:NoAttr K cl.Giver "touched"
 k_Taker:Cls K cl.Taker
 n_Taker_board:NoAttr K cl.Taker "board"
 n_Taker_here:NoAttr K cl.Taker "here"
 n_Taker_left:NoAttr K cl.Taker "left"
 n_Taker_marks_read:NoAttr K cl.Taker "marks_read"
 n_Taker_name:NoAttr K cl.Taker "name"
 n_Taker_not_freed:NoAttr K cl.Taker "not_freed"
 n_Taker_number:NoAttr K cl.Taker "number"
 n_Taker_other:NoAttr K cl.Taker "other"
 n_Taker_parts:NoAttr K cl.Taker "parts"
 n_Taker_stage_behind_marks:NoAttr K cl.Taker "stage_behind_marks"
 n_Taker_stage_now:NoAttr K cl.Taker "stage_now"
 n_Taker_taken:NoAttr K cl.Taker "taken"
 n_Taker_touched:NoAttr K cl.Taker "touched"
 k_Lane:Cls K cl.Lane
 n_Lane_board:NoAttr K cl.Lane "board"
 n_Lane_giver:NoAttr K cl.Lane "giver"
 n_Lane_kept_trail:NoAttr K cl.Lane "kept_trail"
 n_Lane_taker:NoAttr K cl.Lane "taker"
 n_Lane_touched:NoAttr K cl.Lane "touched"
 r_DEEDS_hand:mg "DEEDS_hand" = some (.ref cl.d_DEEDS_hand)
 r_DEEDS_giver:mg "DEEDS_giver" = some (.ref cl.d_DEEDS_giver)
 r_DEEDS_taker:mg "DEEDS_taker" = some (.ref cl.d_DEEDS_taker)
 z_len:mg "len" = none
 z_range:mg "range" = none
 z_max:mg "max" = none
 z_min:mg "min" = none
 z_isinstance:mg "isinstance" = none
 z_int:mg "int" = none
 z_bool:mg "bool" = none
 z_list:mg "list" = none
 z_all:mg "all" = none
 z_tuple:mg "tuple" = none
 z_str:mg "str" = none
 z_ValueError:mg "ValueError" = none
local macro_rules | `(tactic| walk_at "at")=>`(tactic| first|assumption|exact d8|(refine (f9 ?_).trans ?_;(walk_at "ne");(walk_at "at"))|(refine Same.at ?_ ?_;assumption;(walk_at "at")))
local macro_rules | `(tactic| walk_at "ne")=>`(tactic| first|assumption|exact Ne.symm (by assumption)|((refine' g9 ?h ?n);(case n=>assumption);(case h=>walk_at "at"))|((refine Ne.symm ?_);(refine' g9 ?h ?n);(case n=>assumption);(case h=>walk_at "at")))
local macro_rules | `(tactic| walk_at "cond")=>`(tactic| first|trivial|exact Or.inl ⟨by decide,by decide⟩|exact Or.inr ⟨by decide,by decide⟩|exact Or.inl ⟨by lia,by lia⟩|exact Or.inr ⟨by lia,by lia⟩|(show(0:Int)<_;lia)|(show(0:Int)<_;decide))
local macro_rules | `(tactic| walk_at "go1")=>`(tactic| first
 | ((with_reducible refine' d2q ?h ?_);(case h=>exact rfl))
 | with_reducible refine g_c ?_|with_reducible refine d7g ?_|with_reducible refine d7c ?_|with_reducible refine d7p ?_|with_reducible refine g_U ?_
 | ((with_reducible refine' g_I ?h ?_);(case h=>walk_at "cond"))
 | ((with_reducible refine' d7m ?h ?_);(case h=>exact rfl))|((with_reducible refine' d7h ?h ?_);(case h=>exact rfl))
 | with_reducible refine d6l ?_|with_reducible refine d0h ?_|with_reducible refine c8k ?_
 | (with_reducible refine d4y ?_)|(with_reducible refine d5f ?_)|with_reducible refine d7l ?_|with_reducible refine d5j ?_
 | with_reducible refine d5k ?_|with_reducible refine d7i ?_|with_reducible refine g_mtJ ?_|with_reducible refine d7j ?_|with_reducible refine g_mkJ ?_
 | with_reducible refine d2t ?_|with_reducible refine d7d ?_|with_reducible refine d5m ?_|with_reducible refine d7f ?_|with_reducible refine d5d ?_|with_reducible refine d3j ?_|with_reducible refine d5c ?_|with_reducible refine g_notV ?_|with_reducible refine d5h ?_
 | with_reducible refine d7o ?_|with_reducible refine d4p ?_|with_reducible refine d4s ?_|with_reducible refine d4q ?_|with_reducible refine d4r ?_
 | ((with_reducible refine d2w ?_);intro _ _)|with_reducible refine d3a ?_|with_reducible refine d3h ?_|with_reducible refine d5b ?_|with_reducible refine g_retN ?_|with_reducible refine d7k ?_|with_reducible refine d5l ?_|with_reducible refine a2a ?_|with_reducible refine d4z ?_|with_reducible refine d2u ?_|with_reducible refine d0g ?_|with_reducible refine d0e ?_
 | ((with_reducible refine' d3g ?h ?c ?n ?l ?_);(case h=>walk_at "at");(case c=>walk_at "cls");(case n=>walk_at "nat");(case l=>first|exact rfl|assumption))
 | ((with_reducible refine' d0f ?h ?c ?n ?l ?_);(case h=>walk_at "at");(case c=>walk_at "cls");(case n=>walk_at "nat");(case l=>exact Nat.le_of_ble_eq_true rfl))
 | with_reducible refine g_aug ?_|with_reducible refine g_rAdd ?_
 | ((with_reducible refine' g_aug1 ?h ?c ?n ?l ?_);(case h=>walk_at "at");(case c=>walk_at "cls");(case n=>walk_at "nat");(case l=>first|exact rfl|assumption))
 | ((with_reducible refine' g_aug2 ?h ?l ?_);(case h=>walk_at "at");(case l=>exact Nat.le_of_ble_eq_true rfl))
 | ((with_reducible refine' d5e ?h ?l ?_);(case h=>walk_at "at");(case l=>exact rfl))
 | ((with_reducible refine' a3w ?h ?e ?_);(case h=>walk_at "at");(case e=>exact rfl))
 | ((with_reducible refine' c0h ?h ?e ?_);(case h=>walk_at "at");(case e=>exact rfl))
 | ((with_reducible refine' d5g ?h ?_);(case h=>walk_at "at"))|((with_reducible refine' d3d ?h ?_);(case h=>walk_at "at"))|((with_reducible refine' d3e ?h ?_);(case h=>walk_at "at"))|((with_reducible refine' c5c ?h ?_);(case h=>walk_at "at"))|((with_reducible refine' d2s ?h ?_);(case h=>walk_at "at"))|with_reducible refine d0i ?_|with_reducible refine c7i ?_|with_reducible refine d2r ?_|with_reducible refine d2v ?_
 | with_reducible refine d5i ?_|with_reducible refine d2y ?_|with_reducible refine d2x ?_|with_reducible refine d3b ?_|with_reducible refine d3i ?_
 | ((with_reducible refine' c8h ?h1 ?h2 ?_);(case h1=>lia);(case h2=>lia))|((with_reducible refine' c8h ?h1 ?h2 ?_);(case h1=>decide);(case h2=>decide))
 | ((with_reducible refine' d3c ?h ?_);(case h=>exact SqL.of (by walk_at "at")))
 | with_reducible refine g_bm0 ?_|((with_reducible refine' g_clear ?h ?_);(case h=>walk_at "at"))
 | with_reducible refine g_rng3 ?_|with_reducible refine c7j ?_|with_reducible refine g_slS ?_|with_reducible refine d5a ?_|with_reducible refine d4w ?_|with_reducible refine g_starts ?_|with_reducible refine g_stri ?_|with_reducible refine d7e ?_|with_reducible refine d2z ?_|with_reducible refine c7g ?_
 | with_reducible refine d7n ?_|((with_reducible refine' d4x ?h ?_);(case h=>walk_at "at"))|((with_reducible refine' c7k ?h ?l ?_);(case h=>walk_at "at");(case l=>first|exact Nat.le_of_ble_eq_true rfl|lia))
 | ((with_reducible refine' c0f ?h ?_);(case h=>assumption))|((with_reducible refine d3f ?_);intro _ _))
local macro_rules | `(tactic| walk_at "go")=>`(tactic| repeat (walk_at "go1"))
local macro_rules | `(tactic| fail "")=>`(tactic| walk_at "go")
set_option hygiene false in
local macro_rules | `(tactic| walk_at "cls")=>`(tactic| first|assumption|exact T.k_Board|exact T.k_Hand|exact T.k_Giver|exact T.k_Taker|exact T.k_Lane)
set_option hygiene false in
local macro_rules | `(tactic| walk_at "nat")=>`(tactic| first|assumption|exact T.n_Board_many_touches|exact T.n_Board_newest_touch|exact T.n_Board_numbers|exact T.n_Board_size|exact T.n_Hand_board|exact T.n_Hand_here|exact T.n_Hand_marks_read|exact T.n_Hand_name|exact T.n_Hand_other|exact T.n_Hand_stage_behind_marks|exact T.n_Hand_stage_now|exact T.n_Hand_touched|exact T.n_Giver_board|exact T.n_Giver_here|exact T.n_Giver_kept|exact T.n_Giver_left|exact T.n_Giver_marks_read|exact T.n_Giver_name|exact T.n_Giver_number|exact T.n_Giver_other|exact T.n_Giver_stage_behind_marks|exact T.n_Giver_stage_now|exact T.n_Giver_touched|exact T.n_Taker_board|exact T.n_Taker_here|exact T.n_Taker_left|exact T.n_Taker_marks_read|exact T.n_Taker_name|exact T.n_Taker_not_freed|exact T.n_Taker_number|exact T.n_Taker_other|exact T.n_Taker_parts|exact T.n_Taker_stage_behind_marks|exact T.n_Taker_stage_now|exact T.n_Taker_taken|exact T.n_Taker_touched|exact T.n_Lane_board|exact T.n_Lane_giver|exact T.n_Lane_kept_trail|exact T.n_Lane_taker|exact T.n_Lane_touched)
section
variable{P:Program}{w:World}{K:Frag}{mg:Str->Option Value}{base:Heap}{cl:Cl}
theorem x0:1<=sizeLine:=by decide
def a3c(cl:Cl):Sp:=λvs H Q E=>∃n,vs=[.int n]/\(if 2<=n/\n<=8 then Q .non H else E (.ref cl.BadSize) none H)
def b0l(cl:Cl)(n t:Int)(H:Hp)(E:XK)(k:Prop):Prop:=if 2<=n/\n<=8 then (if 0<=t/\t<2*n then k else E (.ref cl.NoTurn) none H) else E (.ref cl.BadSize) none H
theorem b5d{cl:Cl}{n t:Int}{H:Hp}{E:XK}{k k':Prop}(h:b0l cl n t H E k)(i:2<=n->n<=8->0<=t->t<2*n->k->k'):b0l cl n t H E k':=by
 unfold b0l at h ⊢;by_cases a:2<=n/\n<=8
 ·rw[if_pos a] at h ⊢
  by_cases b:0<=t/\t<2*n
  ·rw[if_pos b] at h ⊢;exact i a.1 a.2 b.1 b.2 h
  ·rw[if_neg b] at h ⊢;exact h
 ·rw[if_neg a] at h ⊢;exact h
def a9m(cl:Cl):Sp:=λvs H Q E=>∃n t,vs=[.int n,.int t]/\b0l cl n t H E (Q .non H)
def b2v(cl:Cl):Sp:=λvs H Q E=>∃n a b,vs=[.int n,.int a,.int b]/\b0l cl n a H E (b0l cl n b H E (Q (.int ((b-a) % (2*n))) H))
abbrev a7d:Stmt:=top 21
theorem b5p:i8 ["size"] ["size"] (g6 a7d):=↑1
theorem b6m(D:DefT K mg "check_size" a7d ["size"])(T:Txt K mg cl):FnT P w K mg base "check_size" 1 ["size"] (a3c cl):=by
 refine D.fn b5p (λvs H Q E h=>?_) ↑4
 ·obtain⟨n,rfl,_⟩:=h
  rfl
 ·obtain⟨n,rfl,h⟩:=h
  refine⟨_,(g0 (v9 (PW.pt (a4t (i6 a1w (pv 0) (a0m T.m_LEAST_SIZE rfl) (i7 _)) (a1u (i6 b3j (pv 0) (a0m T.m_MOST_SIZE rfl) (i7 _)))))
    (g0 (a1c T.c_BadSize rfl rfl a7o (d5 i9 d6)))
    k7)),?_⟩
  refine⟨_,rfl,_,_,rfl,rfl,_,rfl,c1k (λc=>?_) (λc=>⟨_,rfl,_,_,rfl,rfl,_,rfl,c1k (λd=>?_) (λd=>?_)⟩)⟩
  ·rw[if_neg (by have:=of_decide_eq_true c;lia)] at h
   exact c1k (λ_=>⟨x0,h⟩) (λz=>absurd rfl z)
  ·rw[if_neg (by have:=of_decide_eq_true d;lia)] at h
   exact⟨x0,h⟩
  ·simp only[decide_eq_true_eq] at c d
   rw[if_pos (by lia)] at h
   exact h
abbrev a7c:Stmt:=top 22
theorem b5o:i8 ["size","turn"] ["size","turn"] (g6 a7c):=↑1
theorem b6l(D:DefT K mg "check_turn" a7c ["size","turn"])(T:Txt K mg cl)(G_check_size:FnT P w K mg base "check_size" 1 ["size"] (a3c cl)):FnT P w K mg base "check_turn" 2 ["size","turn"] (a9m cl):=by
 refine D.fn b5o (λvs H Q E h=>?_) ↑4
 ·obtain⟨n,t,rfl,_⟩:=h
  rfl
 ·obtain⟨n,t,rfl,h⟩:=h
  refine⟨_,(d7 (z8 (l8 G_check_size hr (by decide) rfl j8 (d5 (pv 0) d6)))
   (g0 (v9 (PW.pt (a4t (i6 a1w (pv 1) d9 (i7 _)) (a1u (i6 c6u (pv 1) (j3 y0 d9 (pv 0)) (i7 _)))))
    (g0 (a1c T.c_NoTurn rfl rfl a7o (d5 i9 d6)))
    k7))),?_⟩
  unfold b0l at h;refine⟨_,rfl,n,rfl,c1k (λa=>?_) (λa=>?_)⟩
  ·rw[if_pos a] at h
   simp[d4c,tOr,c8z,tOp,rI0,rI,d3o,tC,L2.start,c0u,c6e,c9a,c9b,CMul];refine c1k (λc=>?_) (λc=>c1k (λd=>?_) (λd=>?_))
   ·rw[if_neg (by lia)] at h;exact⟨x0,h⟩
   ·rw[if_neg (by lia)] at h;exact⟨x0,h⟩
   ·rw[if_pos (by lia)] at h;exact h
  ·rw[if_neg a] at h
   exact h
abbrev b0v:Stmt:=top 26
theorem b9t:i8 ["size","one","other"] ["size","one","other"] (g6 b0v):=↑1
theorem c0d(D:DefT K mg "distance" b0v ["size","one","other"])(T:Txt K mg cl)(G_check_turn:FnT P w K mg base "check_turn" 2 ["size","turn"] (a9m cl)):FnT P w K mg base "distance" 3 ["size","one","other"] (b2v cl):=by
 refine D.fn b9t (λvs H Q E h=>?_) ↑4
 ·obtain⟨n,a,b,rfl,_⟩:=h
  rfl
 ·obtain⟨n,a,b,rfl,h⟩:=h
  refine⟨_,(d7 (z8 (l8 G_check_turn hr (by decide) rfl j8 (d5 (pv 0) (d5 (pv 1) d6))))
   (d7 (z8 (l8 G_check_turn hr (by decide) rfl j8 (d5 (pv 0) (d5 (pv 2) d6))))
   (g0 (j4 (j3 a5c (j3 a0y (pv 2) (pv 1)) (j3 y0 d9 (pv 0))))))),?_⟩
  refine⟨_,rfl,_,rfl,n,a,rfl,b5d h λn2 n8 t0 t1 q=>?_⟩;refine⟨_,rfl,_,rfl,n,b,rfl,b5d q λn2 n8 t0 t1 q=>?_⟩;exact⟨_,rfl,_,rfl,_,_,rfl,rfl,_,rfl,_,_,rfl,rfl,.inl ⟨by decide,by decide⟩,_,_,rfl,rfl,(by lia),q⟩
def Well(H:Hp)(w:Addr):Prop:=∃a b p,H w=some (.lst [.int a,.int b,.int p])/\0<p/\p<2147483648
def But(w:Addr)(H H':Hp):Prop:=∀b o,H b=some o->b≠w->H' b=some o
theorem But.refl(w:Addr)(H:Hp):But w H H:=λ_ _ e _=>e
theorem But.trans{w:Addr}{H H1 H2:Hp}(a:But w H H1)(b:But w H1 H2):But w H H2:=λc o e n=>b c o (a c o e n) n
theorem But.of{w:Addr}{H H':Hp}(s:Same H H'):But w H H':=λb o e _=>s b o e
theorem But.upd{w:Addr}{H:Hp}{o:HO}:But w H (upd H w o):=λb u e n=>by rw[f9 n];exact e
theorem i3{H:Hp}{p:Addr}{o:HO}(n:H p=none):Same H (upd H p o):=λb u e=>by rw[f9 (g9 e n)];exact e
theorem Well.same{H H':Hp}{w:Addr}(h:Well H w)(s:Same H H'):Well H' w:=let ⟨a,b,p,e,q⟩:=h;⟨a,b,p,s _ _ e,q⟩
theorem Well.at{H:Hp}{w:Addr}(h:Well H w):∃o,H w=some o:=let ⟨_,_,_,e,_⟩:=h;⟨_,e⟩
def a0e:Sp:=λvs H Q _=>∃w m,vs=[.ref w,.int m]/\Well H w/\0<m/\m<2 ^ 200/\∀r H',0<=r->r<m->Well H' w->But w H H'->Q (.int r) H'
theorem a2k:2000<=sizeLine:=by decide
theorem d6y(n:Int)(h0:0<n)(h:n<2 ^ 200):n.natAbs.log2<9000:=by
 have h1:n.natAbs<2 ^ 200:=by lia
 have h2:=(Nat.log2_lt (n:=n.natAbs) (k:=200) (by lia)).mpr h1
 lia
abbrev b0t:Stmt:=top 145
theorem b3b:i8 ["well","many","got"] ["well","many"] (g6 b0t):=↑1
theorem c0b(D:DefT K mg "_law_take" b0t ["well","many"])(T:Txt K mg cl):FnT P w K mg base "_law_take" 1 ["well","many"] a0e:=by
 refine D.fn b3b (λvs H Q E h=>?_) ↑4
 ·obtain⟨w,m,rfl,_⟩:=h
  rfl
 ·obtain⟨w,m,rfl,⟨a,b,p,hw,p0,p1⟩,m0,m1,k⟩:=h
  refine⟨_,(d7 (v9 (i6 b3j (x9 (m3 (K:=K)) (pv 0) d9 (λ_ _=>rfl)) d9 (i7 _))
     (
     d7 (j7 (i:=2) b3b.nd rfl (by first|exact Or.inl rfl|exact Or.inr rfl) (j3 a5c (x9 (m3 (K:=K)) (pv 0) d9 (λ_ _=>rfl)) (pv 1)))
     (d7 (a1l (j3 a4e (x9 (m3 (K:=K)) (pv 0) d9 (λ_ _=>rfl)) (pv 1)) (b8a (pv 0) d9 a9w))
     (g0 (j4 (pv 2)))))
     k7)
   (d7 (a1l (j3 a0k (j3 a5c (j3 y0 (x9 (m3 (K:=K)) (pv 0) d9 (λ_ _=>rfl)) d9) (x9 (m3 (K:=K)) (pv 0) d9 (λ_ _=>rfl))) d9) (b8a (pv 0) d9 a9w))
   (g0 (j4 (j3 a5c (j3 a4e (j3 a5c (j3 y0 (x9 (m3 (K:=K)) (pv 0) d9 (λ_ _=>rfl)) (x9 (m3 (K:=K)) (pv 0) d9 (λ_ _=>rfl))) d9) d9) (pv 1)))))),?_⟩
  refine⟨_,rfl,w,_,0,_,rfl,rfl,SqL.of hw,rfl,_,_,rfl,rfl,_,rfl,c1k (λc=>?_) (λc=>?_)⟩
  ·refine⟨_,rfl,w,_,0,_,rfl,rfl,SqL.of hw,rfl,_,rfl,_,_,rfl,rfl,m0,?_⟩
   refine⟨_,rfl,w,_,0,_,rfl,rfl,SqL.of hw,rfl,_,rfl,_,_,rfl,rfl,⟨m0,d6y m m0 m1⟩,_,rfl,w,_,0,0,rfl,rfl,hw,rfl,?_⟩;exact⟨_,rfl,k _ _ (Int.emod_nonneg _ (by lia)) (Int.emod_lt_of_pos _ m0) ⟨_,_,_,d8,p0,p1⟩ But.upd⟩
  ·refine⟨_,rfl,w,_,1,_,rfl,rfl,SqL.of hw,rfl,_,_,rfl,rfl,.inr ⟨by decide,by decide⟩,_,rfl,w,_,2,_,rfl,rfl,SqL.of hw,rfl,_,_,rfl,rfl,p0,_,_,rfl,rfl,_,rfl,w,_,1,1,rfl,rfl,hw,rfl,?_⟩
   have h1:=Int.emod_nonneg (b*48271) (show p≠0 by lia)
   have h2:=Int.emod_lt_of_pos (b*48271) p0;refine⟨_,rfl,w,_,1,_,rfl,rfl,SqL.of d8,rfl,_,rfl,w,_,1,_,rfl,rfl,SqL.of d8,rfl,_,_,rfl,rfl,.inl ⟨by lia,by lia⟩,_,_,rfl,rfl,(by show(0:Int)<2147483423;decide),_,_,rfl,rfl,⟨by decide,by decide⟩,_,rfl,_,_,rfl,rfl,m0,?_⟩
   exact k _ _ (Int.emod_nonneg _ (by lia)) (Int.emod_lt_of_pos _ m0) ⟨_,_,_,d8,p0,p1⟩ But.upd
theorem c0o{ns:List Int}{n:Nat}(h:n<ns.length):atI (ns.map V.int) (n:Int)=some (.int ns[n]):=by
 have hl:(ns.map V.int).length=ns.length:=List.length_map _;unfold atI ixN;rw[if_pos (by lia),if_pos (by lia)]
 show(ns.map V.int)[(n:Int).toNat]?=_;rw[show(n:Int).toNat=n by lia,List.getElem?_map,List.getElem?_eq_getElem h]
 rfl
abbrev c9i:List V:=[.int 2147483647,.int 2147483629,.int 2147483587,.int 2147483579,.int 2147483563,.int 2147483549,.int 2147483543,.int 2147483497]
theorem c3r(j:Int)(h0:0<=j)(h1:j<8):∃v,atI c9i j=some (.int v)/\0<v/\v<2147483648:=by
 have:j=0\/j=1\/j=2\/j=3\/j=4\/j=5\/j=6\/j=7:=by lia
 rcases this with rfl|rfl|rfl|rfl|rfl|rfl|rfl|rfl <;> exact⟨_,rfl,by decide,by decide⟩
def b2s(K:Frag):Sp:=λvs H Q _=>∃(c:Addr)(ns:List Int)(k:Nat),vs=[.ref c,.int (k:Int)]/\SqL K H c (ns.map V.int)/\k<1000/\∀w H',H w=none->Same H H'->Well H' w->Q (.ref w) H'
abbrev b0s:Stmt:=top 144
theorem a2e:i8 ["script","k","cell","primes","seed"] ["script","k"] (g6 b0s):=↑1
theorem c0a(D:DefT K mg "_law_well" b0s ["script","k"])(T:Txt K mg cl):FnT P w K mg base "_law_well" 1 ["script","k"] (b2s K):=by
 refine D.fn a2e (λvs H Q E h=>?_) ↑4
 ·obtain⟨c,ns,k,rfl,_⟩:=h
  rfl
 ·obtain⟨c,ns,n,rfl,hc,hn,k⟩:=h
  refine⟨_,(d7 (j7 (i:=2) a2e.nd rfl (by first|exact Or.inl rfl|exact Or.inr rfl) d9)
   (d7 (v9 (i6 a1w (pv 1) (j6 (j5 (K:=K)) (by rfl) T.z_len PySem.boot_len (d5 (pv 0) d6)) (i7 _))
     (g0 (j7 (i:=2) a2e.nd rfl (by first|exact Or.inl rfl|exact Or.inr rfl) (x9 (m3 (K:=K)) (pv 0) (pv 1) (λ_ _=>rfl))))
     k7)
   (d7 (j7 (i:=3) a2e.nd rfl (by first|exact Or.inl rfl|exact Or.inr rfl) (l7 (d5 d9 (d5 d9 (d5 d9 (d5 d9 (d5 d9 (d5 d9 (d5 d9 (d5 d9 d6))))))))))
   (d7 (j7 (i:=4) a2e.nd rfl (by first|exact Or.inl rfl|exact Or.inr rfl) (j3 a5c (j3 y0 (j3 a0k (j3 a5c (pv 2) d9) d9) (j3 a0k d9 (j3 y0 d9 (pv 1)))) d9))
   (d7 (j7 (i:=4) a2e.nd rfl (by first|exact Or.inl rfl|exact Or.inr rfl) (j3 a0k (j3 a0k (j3 a5c (j3 y0 (pv 4) (pv 4)) d9) (pv 1)) d9))
   (d7 (v9 (i6 c6u (pv 2) (j3 b8b d9 d9) (i7 _))
     (g0 (j4 (l7 (d5 (pv 2) (d5 (pv 4) (d5 (x9 (m3 (K:=K)) (pv 3) (j3 a5c (pv 1) d9) (λ_ _=>rfl)) d6))))))
     k7)
   (g0 (j4 (l7 (d5 d9 (d5 (pv 4) (d5 (x9 (m3 (K:=K)) (pv 3) (j3 a5c (pv 1) d9) (λ_ _=>rfl)) d6)))))))))))),?_⟩
  refine⟨_,rfl,_,rfl,c,_,rfl,.inl hc,_,_,rfl,rfl,_,rfl,c1k (λa=>⟨_,rfl,_,rfl,c,_,(n:Int),_,rfl,rfl,hc,c0o (by have:=of_decide_eq_true a;rw[List.length_map] at this;lia),?_⟩) (λa=>?_)⟩
  all_goals
   refine⟨by show 8<=sizeLine;decide,λp hp=>?_⟩
   refine⟨_,rfl,_,_,rfl,rfl,(by show(0:Int)<2147483489;decide),_,_,rfl,rfl,_,rfl,_,_,rfl,rfl,.inl ⟨by decide,by decide⟩,_,_,rfl,rfl,_,_,rfl,rfl,.inl ⟨by lia,by lia⟩,_,_,rfl,rfl,(by show(0:Int)<2147483489;decide),?_⟩
   refine⟨_,rfl,_,rfl,_,_,rfl,rfl,.inl ⟨by lia,by lia⟩,_,_,rfl,rfl,(by show(0:Int)<2147483477;decide),_,rfl,_,_,rfl,rfl,_,_,rfl,rfl,?_⟩
   refine⟨_,rfl,_,_,rfl,rfl,⟨by decide,by decide,by decide⟩,_,_,rfl,rfl,_,rfl,c1k (λb=>?_) (λb=>?_)⟩
   all_goals
    obtain⟨v,hv,v0,v1⟩:=c3r ((n:Int) % 8) (by lia) (by lia)
    first
     | refine⟨_,rfl,_,rfl,_,rfl,_,rfl,_,_,rfl,rfl,(by show(0:Int)<8;decide),p,_,_,_,rfl,rfl,SqL.of d8,hv,(by show 3<=sizeLine;decide),λq hq=>?_⟩
     | refine⟨_,rfl,_,rfl,_,rfl,_,_,rfl,rfl,(by show(0:Int)<8;decide),p,_,_,_,rfl,rfl,SqL.of d8,hv,(by show 3<=sizeLine;decide),λq hq=>?_⟩
    exact k q _ ((i3 hp).free hq) ((i3 hp).trans (i3 hq)) ⟨_,_,_,d8,v0,v1⟩
theorem d1z{ns:List Int}{Pr:Int->Prop}(h:∀v∈ns,Pr v){r:Int}(h0:0<=r)(h1:r<ns.length):∃v,atI (ns.map V.int) r=some (.int v)/\Pr v:=by
 have hr:r.toNat<ns.length:=by lia
 refine⟨ns[r.toNat],?_,h _ (List.getElem_mem hr)⟩;have e:=c0o hr
 rwa [show((r.toNat:Nat):Int)=r by lia] at e
theorem Well.ne{H:Hp}{w p:Addr}(h:Well H w)(n:H p=none):p≠w:=by
 obtain⟨o,e⟩:=h.at;exact(g9 e n).symm
theorem But.nw{w:Addr}{H0 H:Hp}{p:Addr}{o:HO}(s:But w H0 H)(n:H p=none):But w H0 (L2.upd H p o):=s.trans (But.of (i3 n))
theorem But.free{w p:Addr}{H0 H:Hp}(s:But w H0 H)(hw:Well H w)(n:H p=none):H0 p=none:=by
 cases e:H0 p with
 | none=>rfl
 | some o=>
  have:=s p o e (hw.ne n);rw[n] at this;cases this
theorem _root_.L2.Same.set{H H':Hp}{p:Addr}{o:HO}(s:Same H H')(n:H p=none):Same H (upd H' p o):=λb u e=>by rw[f9 (g9 e n)];exact s b u e
theorem c5t{row:List Int}{c:Int}(h0:0<=c)(h1:c<row.length):atI (row.map V.int) c=some (.int (row.getD c.toNat 0)):=by
 have hn:c.toNat<row.length:=by lia
 have e:=c0o hn;rw[show((c.toNat:Nat):Int)=c by lia] at e
 rw[e,List.getD_eq_getElem?_getD,List.getElem?_eq_getElem hn]
 rfl
theorem c8d{l:Nat}{c:Int}(h0:0<=c)(h1:c<l):ixN l c=some c.toNat:=by
 unfold ixN;rw[if_pos h0,if_pos h1]
def Kp(ps:List Addr)(H H':Hp):Prop:=∀c o,H c=some o->c ∉ ps->H' c=some o
theorem Kp.of{ps:List Addr}{H H1:Hp}(a:Same H H1):Kp ps H H1:=λc o e _=>a c o e
def b0i(n:Nat):List Int:=(List.replicate n [2,-1,0,0]).flatten++[-1,-1,0,0]
theorem b5c(n:Nat):(b0i n).length=4*n+4:=by
 unfold b0i;rw[List.length_append,b3y];show n*4+4=_;lia
theorem c9g(n:Nat)(ns:List Int):(List.replicate n (ns.map V.int)).flatten=((List.replicate n ns).flatten).map V.int:=by
 induction n with
 | zero=>rfl
 | succ n ih=>rw[List.replicate_succ,List.replicate_succ,List.flatten_cons,List.flatten_cons,List.map_append,ih]
def Brd(cl:Cl)(H:Hp)(b l:Addr)(n:Nat)(row:List Int)(many:Int)(last:V):Prop :=
 (∃dx,H b=some (.ins cl.Board dx [("size",.int n),("numbers",.ref l),("many_touches",.int many),("newest_touch",last)]))/\H l=some (.lst (row.map V.int))/\row.length=4*n+4/\2<=n/\n<=8
theorem Brd.keep{cl:Cl}{H H':Hp}{b l:Addr}{n:Nat}{row:List Int}{many:Int}{last:V}{ps:List Addr}(h:Brd cl H b l n row many last)(k:Kp ps H H')(hb:b ∉ ps)(hl:l ∉ ps):Brd cl H' b l n row many last:=by
 obtain⟨⟨dx,e⟩,e',z⟩:=h;exact⟨⟨dx,k _ _ e hb⟩,k _ _ e' hl,z⟩
def a9n(cl:Cl):Sp:=λvs H Q E=>∃h:Str,vs=[.str h]/\(if h="giver"\/h="taker" then Q .non H else E (.ref cl.NoHand) none H)
def b7l(d:Int):Sp:=λvs H Q _=>∃p,vs=[.int p]/\Q (.int (4*p+d)) H
def c0m(cl:Cl)(n:Int)(h:Str)(H:Hp)(E:XK)(k:Prop):Prop:=if 2<=n/\n<=8 then (if h="giver"\/h="taker" then k else E (.ref cl.NoHand) none H) else E (.ref cl.BadSize) none H
def c4x(h:Str):Int:=if h="giver" then 0 else 1
def a6t(cl:Cl):Sp:=λvs H Q E=>∃(n:Int)(h:Str),vs=[.int n,.str h]/\c0m cl n h H E (Q (.int (4*n+c4x h)) H)
def b1q(cl:Cl):Sp:=λvs H Q E=>∃(n:Int)(h:Str),vs=[.int n,.str h]/\c0m cl n h H E (Q (.int (4*n+c4x h+2)) H)
def a6o:Sp:=λvs H Q _=>∃n:Nat,vs=[.int n]/\n<=8/\∀l H',H l=none->Same H H'->H' l=some (.lst ((b0i n).map V.int))->Q (.ref l) H'
theorem b1f(x y:Str):eqV (.str x) (.str y)=decide (x=y):=by
 first
  | rfl
  | (unfold eqV;simp)
abbrev a7e:Stmt:=top 46
theorem b5q:i8 ["hand"] ["hand"] (g6 a7e):=↑1
theorem b6n(D:DefT K mg "check_hand" a7e ["hand"])(T:Txt K mg cl):FnT P w K mg base "check_hand" 1 ["hand"] (a9n cl):=by
 refine D.fn b5q (λvs H Q E h=>?_) ↑4
 ·obtain⟨n,rfl,_⟩:=h
  rfl
 ·obtain⟨n,rfl,h⟩:=h
  refine⟨_,(g0 (v9 (i6 (b0d (K:=K)) (pv 0) (a3t T.r_HANDS rfl) (by with_unfolding_all rfl))
    (g0 (a1c T.c_NoHand rfl rfl a7o (d5 i9 d6)))
    k7)),?_⟩
  fail "";refine⟨_,_,rfl,.inr T.kt_HANDS.sq,rfl,rfl,?_⟩;fail "";have e:inV (.str n) [.str "giver",.str "taker"]=decide (n="giver"\/n="taker"):=by
   unfold inV;simp only[List.any_cons,List.any_nil,b1f,Bool.or_false];rw[Bool.eq_iff_iff];simp only[Bool.or_eq_true,decide_eq_true_eq];exact or_congr eq_comm eq_comm
  simp only[if_true,e];refine a2s (λc=>?_) (λc=>?_)
  ·rw[if_neg c] at h
   fail "";exact⟨x0,h⟩
  ·rw[if_pos c] at h
   fail "";exact h
abbrev a8v:Stmt:=top 47
theorem b7r:i8 ["place"] ["place"] (g6 a8v):=↑1
theorem b8m(D:DefT K mg "mark_cell" a8v ["place"])(T:Txt K mg cl):FnT P w K mg base "mark_cell" 1 ["place"] (b7l 0):=by
 refine D.fn b7r (λvs H Q E h=>?_) ↑4
 ·obtain⟨n,rfl,_⟩:=h
  rfl
 ·obtain⟨n,rfl,h⟩:=h
  refine⟨_,(g0 (j4 (j3 y0 (a0m T.m_CELLS_OF_A_PLACE rfl) (pv 0)))),?_⟩;fail "";rw[Int.add_zero] at h;exact h
abbrev a9a:Stmt:=top 51
theorem b7s:i8 ["size","hand"] ["size","hand"] (g6 a9a):=↑1
theorem b8r(D:DefT K mg "card_cell" a9a ["size","hand"])(T:Txt K mg cl)(G_check_size:FnT P w K mg base "check_size" 1 ["size"] (a3c cl))(G_check_hand:FnT P w K mg base "check_hand" 1 ["hand"] (a9n cl)):FnT P w K mg base "card_cell" 2 ["size","hand"] (a6t cl):=by
 refine D.fn b7s (λvs H Q E h=>?_) ↑4
 ·obtain⟨n,x,rfl,_⟩:=h
  rfl
 ·obtain⟨n,x,rfl,h⟩:=h
  refine⟨_,(d7 (z8 (l8 G_check_size hr (by decide) rfl j8 (d5 (pv 0) d6)))
   (d7 (z8 (l8 G_check_hand hr (by decide) rfl j8 (d5 (pv 1) d6)))
   (g0 (j4 (j3 a0k (j3 y0 (a0m T.m_CELLS_OF_A_PLACE rfl) (pv 0)) (c2j (K:=K) (a3t T.r_HANDS rfl) (d5 (pv 1) d6))))))),?_⟩
  unfold c0m at h;fail "";refine⟨n,rfl,c1k (λa=>?_) (λa=>?_)⟩
  ·rw[if_pos a] at h
   fail "";refine⟨x,rfl,c1k (λb=>?_) (λb=>?_)⟩
   ·rw[if_pos b] at h
    fail "";refine⟨T.kt_HANDS.ty,?_⟩;fail "";refine⟨_,_,_,_,rfl,rfl,T.kt_HANDS,rfl,rfl,rfl,?_,?_⟩
    ·rw[b1f,b1f,decide_eq_true_eq,decide_eq_true_eq]
     exact b.imp Eq.symm Eq.symm
    ·fail ""
     have e:(if eqV (.str "giver") (.str x)=true then (0:Int) else 1)=c4x x:=by
      unfold c4x;rw[b1f];simp only[decide_eq_true_eq];by_cases c:x="giver"
      ·rw[if_pos c,if_pos c.symm]
      ·rw[if_neg c,if_neg λz=>c z.symm]
     rw[e];exact h
   ·rw[if_neg b] at h
    exact h
  ·rw[if_neg a] at h
   exact h
abbrev a9b:Stmt:=top 52
theorem b7t:i8 ["size","hand"] ["size","hand"] (g6 a9b):=↑1
theorem b8s(D:DefT K mg "bell_cell" a9b ["size","hand"])(T:Txt K mg cl)(G_card_cell:FnT P w K mg base "card_cell" 2 ["size","hand"] (a6t cl)):FnT P w K mg base "bell_cell" 3 ["size","hand"] (b1q cl):=by
 refine D.fn b7t (λvs H Q E h=>?_) ↑4
 ·obtain⟨n,x,rfl,_⟩:=h
  rfl
 ·obtain⟨n,x,rfl,h⟩:=h
  refine⟨_,(g0 (j4 (j3 a0k (l8 G_card_cell hr (by decide) rfl j8 (d5 (pv 0) (d5 (pv 1) d6))) (j6 (j5 (K:=K)) (by rfl) T.z_len PySem.boot_len (d5 (a3t T.r_HANDS rfl) d6))))),?_⟩
  unfold c0m at h;fail "";refine⟨n,x,rfl,?_⟩;unfold c0m;refine c1k (λa=>c1k (λb=>?_) (λb=>?_)) (λa=>?_)
  ·rw[if_pos a,if_pos b] at h
   fail "";refine⟨_,_,rfl,.inr T.kt_HANDS.sq,?_⟩;fail "";exact h
  ·rw[if_pos a,if_neg b] at h
   exact h
  ·rw[if_neg a] at h
   exact h
abbrev a8t:Stmt:=top 53
theorem b7p:i8 ["size"] ["size"] (g6 a8t):=↑1
theorem b8k(D:DefT K mg "new_cells" a8t ["size"])(T:Txt K mg cl):FnT P w K mg base "new_cells" 1 ["size"] a6o:=by
 refine D.fn b7p (λvs H Q E h=>?_) ↑4
 ·obtain⟨n,rfl,_⟩:=h
  rfl
 ·obtain⟨n,rfl,h8,k⟩:=h
  refine⟨_,(g0 (j4 (j3 a4f (j3 c8b (l7 (d5 (a0m T.m_NEW_MARK rfl) (d5 (a0m T.m_NO_ORDER rfl) (d5 d9 (d5 d9 d6))))) (pv 0)) (l7 (d5 (a0m T.m_NO_TURN rfl) (d5 (a0m T.m_NO_TURN rfl) (d5 (a0m T.m_STILL rfl) (d5 (a0m T.m_STILL rfl) d6)))))))),?_⟩;have h20:2000<=sizeLine:=by decide
  fail "";refine⟨by show 4<=sizeLine;lia,λp1 h1=>?_⟩
  fail "";refine⟨p1,n,_,rfl,rfl,d8,by lia,by lia,by show 4*(n:Int).toNat<=sizeLine;lia,λp2 h2=>?_⟩
  fail "";refine⟨by show 4<=sizeLine;lia,λp3 h3=>?_⟩
  refine b4d (i3 h3 _ _ d8) d8 ?_ (λp4 h4=>?_)
  ·rw[b3y]
   show(n:Int).toNat*4+4<=sizeLine;lia
  refine k p4 _ ((((i3 h1).trans (i3 h2)).trans (i3 h3)).free h4) ((((i3 h1).trans (i3 h2)).trans (i3 h3)).trans (i3 h4)) ?_;rw[d8];unfold b0i;rw[List.map_append,show((n:Int)).toNat=n by lia]
  rw[<- c9g n [2,-1,0,0]]
  rfl
def a7x(n:Nat)(row:List Int):List Int:=(List.range n).map λ(q:Nat)=>row.getD (4*q) 0
theorem b3v(n:Nat)(row:List Int):(a7x n row).length=n:=by unfold a7x;rw[List.length_map,List.length_range]
theorem c2n{n:Nat}{row:List Int}{q:Nat}(h:q<n):(a7x n row)[q]?=some (row.getD (4*q) 0):=by
 unfold a7x;rw[List.getElem?_map,List.getElem?_range h]
 rfl
structure c2y(n:Nat)(row:List Int):Prop where
 mks:∀q,q<n->0<=row.getD (4*q) 0/\row.getD (4*q) 0<=3
 cd:∀k,k<2->-1<=row.getD (4*n+k) 0/\row.getD (4*n+k) 0<2*(n:Int)
 bl:∀k,k<2->row.getD (4*n+2+k) 0=0\/row.getD (4*n+2+k) 0=1
structure GoodRow(n:Nat)(row:List Int):Prop where
 n2:2<=n
 n8:n<=8
 len:row.length=4*n+4
 ok:c2y n row
theorem GoodRow.one{n m:Nat}{row:List Int}(h:row.length=4*n+4)(g:GoodRow m row):m=n:=by
 have:=g.len;lia
def a8j:Sp:=λvs H Q _=>∃(a:Addr)(row:List Int)(n:Nat),vs=[.ref a]/\H a=some (.tup (row.map V.int))/\row.length=4*n+4/\n<=8/\∀l H',H l=none->Same H H'->H' l=some (.lst ((a7x n row).map V.int))->Q (.ref l) H'
def a6e(cl:Cl):Sp:=λvs H Q E=>∃(a:Addr)(row:List Int)(n:Nat),vs=[.int n,.ref a]/\H a=some (.tup (row.map V.int))/\row.length=4*n+4/\2<=n/\n<=8 /\
 ((c2y n row/\∀H',Same H H'->Q .non H')\/(¬ c2y n row/\∀H',Same H H'->E (.ref cl.BadCells) none H'))
def a2v(cl:Cl):Sp:=λvs H Q E=>∃(a:Addr)(row:List Int),vs=[.ref a]/\H a=some (.tup (row.map V.int)) /\
 ((∃n:Nat,GoodRow n row/\∀H',Same H H'->Q (.int n) H')\/((¬ ∃n,GoodRow n row)/\∀H',Same H H'->E (.ref cl.BadCells) none H'))
abbrev a5o:Stmt:=top 54
theorem a8m:i8 ["cells","places"] ["cells"] (g6 a5o):=↑1
theorem b4r(D:DefT K mg "marks_among" a5o ["cells"])(T:Txt K mg cl)(G_mark_cell:FnT P w K mg base "mark_cell" 1 ["place"] (b7l 0)):FnT P w K mg base "marks_among" 2 ["cells"] a8j:=by
 refine D.fn a8m (λvs H Q E h=>?_) ↑4
 ·obtain⟨a,row,n,rfl,_⟩:=h
  rfl
 ·obtain⟨a,row,n,rfl,ea,hl,n8,k⟩:=h
  refine⟨_,(d7 (j7 (i:=1) a8m.nd rfl (by first|exact Or.inl rfl|exact Or.inr rfl) (j3 a0y (j3 a4e (j6 (j5 (K:=K)) (by rfl) T.z_len PySem.boot_len (d5 (pv 0) d6)) (a0m T.m_CELLS_OF_A_PLACE rfl)) d9))
   (g0 (j4 (a1k (N:=["place","cells"]) (nt:=1) (fr:=[0]) rfl (a3f (i:=0) rfl rfl (by decide +kernel) (by decide +kernel) rfl rfl rfl rfl rfl rfl rfl) (a1e rfl T.z_range (d5 (pv 1) d6)) (z9 (by decide)) (λ_ _ _ _ _=>i4 (i:=0) (show(["place","cells"]:List Str).Nodup by decide +kernel) rfl (Or.inl rfl) (Or.inr rfl)) (λ_ _ _ _ _=>(x9 (a0v (K:=K)) (pv 1) (l8 G_mark_cell hr (by decide) rfl b4o (d5 (pv 0) d6)) (λ_ _=>rfl))))))),?_⟩
  have h20:2000<=sizeLine:=by decide
  fail "";rw[List.length_map,hl];have en:(((4*n+4:Nat):Int) / 4-1)=(n:Int):=by lia
  rw[en];fail "";refine c0k (n:=(n:Int).toNat) (by lia) (f:=λq=>V.int (row.getD (4*q) 0)) (λj H' kk hj sm q=>?_) (λp hp=>?_)
  ·have hj:j<n:=by lia
   have e1:=sm _ _ ea;fail "";refine⟨_,rfl,?_⟩;refine c0h e1 (c5t (by lia) (by lia)) ?_
   rw[show(4*(0+(j:Int))+0).toNat=4*j by lia]
   exact q
  ·refine k p _ hp (i3 hp) ?_
   rw[d8];unfold a7x;rw[List.map_map,show((n:Int)).toNat=n by lia]
   rfl
abbrev a3s:Stmt:=top 56
theorem a0x:i8 ["size","cells","mark","hand","card","bell"] ["size","cells"] (g6 a3s):=↑1
theorem b2g(D:DefT K mg "check_numbers" a3s ["size","cells"])(T:Txt K mg cl)(G_marks_among:FnT P w K mg base "marks_among" 2 ["cells"] a8j)(G_card_cell:FnT P w K mg base "card_cell" 2 ["size","hand"] (a6t cl))(G_bell_cell:FnT P w K mg base "bell_cell" 3 ["size","hand"] (b1q cl)):FnT P w K mg base "check_numbers" 4 ["size","cells"] (a6e cl):=by
 refine D.fn a0x (λvs H Q E h=>?_) ↑4
 ·obtain⟨a,row,n,rfl,_⟩:=h
  rfl
 ·obtain⟨a,row,n,rfl,ea,hl,n2,n8,k⟩:=h
  refine⟨_,(d7 (b3h a5w rfl (a5t (K:=K) (l8 G_marks_among hr (by decide) rfl j8 (d5 (pv 1) d6))) (i4 (i:=2) a0x.nd rfl (by first|exact Or.inl rfl|exact Or.inr rfl))
     (g0 (v9 (PW.pt (a4t (i6 a1w (pv 2) d9 (i7 _)) (a1u (i6 b3j (pv 2) (a0m T.m_MOST_MARK rfl) (i7 _)))))
      (g0 (a1c T.c_BadCells rfl rfl a7o (d5 i9 d6)))
      k7)))
   (g0 (b3h a5w rfl (a2j (K:=K) (a3t T.r_HANDS rfl)) (i4 (i:=3) a0x.nd rfl (by first|exact Or.inl rfl|exact Or.inr rfl))
    (
     d7 (j7 (i:=4) a0x.nd rfl (by first|exact Or.inl rfl|exact Or.inr rfl) (x9 (a0v (K:=K)) (pv 1) (l8 G_card_cell hr (by decide) rfl j8 (d5 (pv 0) (d5 (pv 3) d6))) (λ_ _=>rfl)))
     (d7 (v9 (PW.pt (a4t (i6 a1w (pv 4) (a0m T.m_NO_TURN rfl) (i7 _)) (a1u (i6 c6u (pv 4) (j3 y0 d9 (pv 0)) (i7 _)))))
      (g0 (a1c T.c_BadCells rfl rfl a7o (d5 i9 d6)))
      k7)
     (d7 (j7 (i:=5) a0x.nd rfl (by first|exact Or.inl rfl|exact Or.inr rfl) (x9 (a0v (K:=K)) (pv 1) (l8 G_bell_cell hr (by decide) rfl j8 (d5 (pv 0) (d5 (pv 3) d6))) (λ_ _=>rfl)))
     (g0 (v9 (PW.pt (b0b (i6 b2a (pv 5) (a0m T.m_STILL rfl) (i7 _)) (a7p (i6 b2a (pv 5) (a0m T.m_RUNG rfl) (i7 _)))))
      (g0 (a1c T.c_BadCells rfl rfl a7o (d5 i9 d6)))
      k7)))))))),?_⟩
  have bad:∀H',Same H H'->¬ c2y n row->E (.ref cl.BadCells) none H':=λH' s' nn=>by
   rcases k with ⟨g,_⟩|⟨_,z⟩
   ·exact absurd g nn
   ·exact z H' s'
  fail "";refine⟨a,row,n,rfl,ea,hl,n8,λl H1 hl1 s1 e1=>?_⟩;fail "";refine c7l (xs:=(a7x n row).map V.int) (λi σ H'=>∃x2,σ=[some (.int n),some (.ref a),x2,none,none,none]/\Same H H'/\H' l=some (.lst ((a7x n row).map V.int))/\∀q,q<i->0<=row.getD (4*q) 0/\row.getD (4*q) 0<=3) ⟨_,rfl,s1,e1,λq hq=>absurd hq (by lia)⟩ ?_ ?_ ?_
  ·rintro i σ H2 hi ⟨x2,rfl,s2,e2,_⟩
   exact SqL.of e2
  ·rintro i x σ H2 hx ⟨x2,rfl,s2,e2,g⟩
   have hi:i<n:=by
    have:=(List.getElem?_eq_some_iff.mp hx).1;rw[List.length_map,b3v] at this;exact this
   rw[List.getElem?_map,c2n hi] at hx;cases hx;fail "";refine x8 (λc=>?_) (λc=>?_)
   ·fail ""
    exact⟨x0,bad _ s2 λz=>by have:=z.mks i hi;lia⟩
   ·fail ""
    refine x8 (λd=>?_) (λd=>?_)
    ·fail ""
     exact⟨x0,bad _ s2 λz=>by have:=z.mks i hi;lia⟩
    ·fail ""
     refine⟨_,rfl,s2,e2,λq hq=>?_⟩;by_cases hqi:q=i
     ·subst hqi;lia
     ·exact g q (by lia)
  ·rintro σ H2 ⟨x2,rfl,s2,e2,g1⟩
   rw[List.length_map,b3v] at g1;fail "";refine a5e T.kt_HANDS.sq ?_;refine d0j (xs:=[.str "giver",.str "taker"]) (λi σ H'=>∃x3 x4 x5,σ=[some (.int n),some (.ref a),x2,x3,x4,x5]/\Same H H'/\∀q,q<i->(-1<=row.getD (4*n+q) 0/\row.getD (4*n+q) 0<2*(n:Int))/\(row.getD (4*n+2+q) 0=0\/row.getD (4*n+2+q) 0=1)) ⟨_,_,_,rfl,s2,λq hq=>absurd hq (by lia)⟩ ?_ ?_ ?_
   ·intro i σ H3 _ _
    exact T.kt_HANDS.sq
   ·rintro i x σ H3 hx ⟨x3,x4,x5,rfl,s3,g⟩
    have hi:i<2:=(List.getElem?_eq_some_iff.mp hx).1;obtain⟨nm,rfl,hnm,enm⟩:∃nm:Str,x=.str nm/\(nm="giver"\/nm="taker")/\c4x nm=(i:Int):=by
     have:i=0\/i=1:=by lia
     rcases this with rfl|rfl <;> cases hx
     ·exact⟨_,rfl,.inl rfl,by decide⟩
     ·exact⟨_,rfl,.inr rfl,by decide⟩
    have e3:=s3 _ _ ea;have card:∀(H':Hp)(k:Prop),k->c0m cl n nm H' E k:=λH' k hk=>by
     unfold c0m;rw[if_pos (by lia),if_pos hnm]
     exact hk
    fail "";refine⟨n,nm,rfl,card _ _ ?_⟩;refine c0h e3 (c5t (by lia) (by lia)) ?_
    rw[enm,show(4*(n:Int)+(i:Int)).toNat=4*n+i by lia]
    fail "";refine x8 (λc=>?_) (λc=>?_)
    ·fail ""
     exact⟨x0,bad _ s3 λz=>by have:=z.cd i hi;lia⟩
    ·fail ""
     refine x8 (λd=>?_) (λd=>?_)
     ·fail ""
      exact⟨x0,bad _ s3 λz=>by have:=z.cd i hi;lia⟩
     ·fail ""
      refine⟨n,nm,rfl,card _ _ ?_⟩;refine c0h e3 (c5t (by lia) (by lia)) ?_
      rw[enm,show(4*(n:Int)+(i:Int)+2).toNat=4*n+2+i by lia]
      fail "";refine a2s (λp=>?_) (λp=>?_)
      ·fail ""
       refine a2s (λq=>?_) (λq=>?_)
       ·fail ""
        refine⟨x0,bad _ s3 λz=>?_⟩;rcases z.bl i hi with z|z
        ·exact p (by rw[z])
        ·exact q (by rw[z])
       ·fail ""
        refine⟨_,_,_,rfl,s3,λy hy=>?_⟩;by_cases hyi:y=i
        ·subst hyi
         exact⟨⟨by lia,by lia⟩,.inr (V.int.inj q)⟩
        ·exact g y (by lia)
      ·fail ""
       refine⟨_,_,_,rfl,s3,λy hy=>?_⟩;by_cases hyi:y=i
       ·subst hyi
        exact⟨⟨by lia,by lia⟩,.inl (V.int.inj p)⟩
       ·exact g y (by lia)
   ·rintro σ H3 ⟨x3,x4,x5,rfl,s3,g⟩
    have nk:c2y n row:=⟨g1,λk hk=>(g k hk).1,λk hk=>(g k hk).2⟩;fail "";rcases k with ⟨_,z⟩|⟨z,_⟩
    ·exact z H3 s3
    ·exact absurd nk z
abbrev a3n:Stmt:=top 55
theorem a6h:i8 ["cells","size"] ["cells"] (g6 a3n):=↑1
theorem b2c(D:DefT K mg "size_of_cells" a3n ["cells"])(T:Txt K mg cl)(G_new_cells:FnT P w K mg base "new_cells" 1 ["size"] a6o)(G_check_numbers:FnT P w K mg base "check_numbers" 4 ["size","cells"] (a6e cl)):FnT P w K mg base "size_of_cells" 5 ["cells"] (a2v cl):=by
 refine D.fn a6h (λvs H Q E h=>?_) ↑4
 ·obtain⟨a,row,rfl,_⟩:=h
  rfl
 ·obtain⟨a,row,rfl,ea,k⟩:=h
  refine⟨_,(d7 (b3h a5w rfl (c3v rfl T.z_range (d5 (a0m T.m_LEAST_SIZE rfl) (d5 (j3 a0k (a0m T.m_MOST_SIZE rfl) d9) d6))) (i4 (i:=1) a6h.nd rfl (by first|exact Or.inl rfl|exact Or.inr rfl))
     (g0 (v9 (i6 a0q (j6 (j5 (K:=K)) (by rfl) T.z_len PySem.boot_len (d5 (pv 0) d6)) (j6 (j5 (K:=K)) (by rfl) T.z_len PySem.boot_len (d5 (l8 G_new_cells hr (by decide) rfl j8 (d5 (pv 1) d6)) d6)) (i7 _))
      (
       d7 (z8 (l8 G_check_numbers hr (by decide) rfl j8 (d5 (pv 1) (d5 (pv 0) d6))))
       (g0 (j4 (pv 1))))
      k7)))
   (g0 (a1c T.c_BadCells rfl rfl a7o (d5 i9 d6)))),?_⟩
  have bad:∀H',Same H H'->(¬ ∃n,GoodRow n row)->E (.ref cl.BadCells) none H':=λH' s' nn=>by
   rcases k with ⟨m,g,_⟩|⟨_,z⟩
   ·exact absurd ⟨m,g⟩ nn
   ·exact z H' s'
  fail "";refine⟨2,9,rfl,⟨by decide,by decide,by decide,by decide⟩,?_⟩
  refine a7z (lo:=2) (n:=7) (λi σ H'=>∃x1,σ=[some (.ref a),x1]/\Same H H'/\∀q,q<i->row.length≠4*(2+q)+4) ⟨_,rfl,Same.refl H,λq hq=>absurd hq (by lia)⟩ ?_ ?_
  ·rintro i σ H1 hi ⟨x1,rfl,s1,g⟩
   have e1:=s1 _ _ ea;fail "";rw[List.length_map];refine⟨2+i,by rw[show((2+i:Nat):Int)=2+(i:Int) by lia],by lia,λl H2 hl2 s2 e2=>?_⟩
   have e3:=s2 _ _ e1;fail "";rw[List.length_map,b5c];refine x8 (λc=>?_) (λc=>?_)
   ·have c:row.length=4*(2+i)+4:=by have:=V.int.inj c;lia
    fail "";refine⟨a,row,2+i,by rw[show((2+i:Nat):Int)=2+(i:Int) by lia],e3,c,by lia,by lia,?_⟩
    by_cases nk:c2y (2+i) row
    ·refine .inl ⟨nk,λH' s'=>?_⟩
     fail "";rcases k with ⟨m,g,z⟩|⟨z,_⟩
     ·have:=g.one c
      subst this;have:=z H' ((s1.trans s2).trans s')
      rwa [show(((2+i:Nat):Int))=2+(i:Int) by lia] at this
     ·exact absurd ⟨_,(⟨by lia,by lia,c,nk⟩:GoodRow (2+i) row)⟩ z
    ·refine .inr ⟨nk,λH' s'=>bad _ ((s1.trans s2).trans s') ?_⟩
     rintro⟨m,g⟩;have:=g.one c;subst this;exact nk g.ok
   ·fail ""
    refine⟨_,rfl,s1.trans s2,λq hq=>?_⟩;by_cases hqi:q=i
    ·subst hqi
     intro z;exact c (by rw[z])
    ·exact g q (by lia)
  ·rintro σ H1 ⟨x1,rfl,s1,g⟩
   fail "";refine⟨x0,bad _ s1 ?_⟩;rintro⟨m,z⟩;have z1:=z.n2;have z2:=z.n8;exact g (m-2) (by lia) (by rw[z.len];lia)
theorem c6d:(0:Int)<10 ^ 59/\(10:Int) ^ 59<2 ^ 200-1/\(5:Int)*10 ^ 58+5*10 ^ 58=10 ^ 59/\(8:Int)<5*10 ^ 58:=by decide
def c0p(x:Int):Prop:=-(5*10 ^ 58)<=x/\x<=5*10 ^ 58
def b1n:Sp:=λvs H Q _=>∃(w:Addr)(n:Int),vs=[.ref w,.int n]/\Well H w/\1<=n/\n<=8/\∀(p:Addr)(H':Hp)(row:List Int),H p=none->H' p=some (.lst (row.map V.int))->1<=row.length->(row.length:Int)<=n->(∀x∈row,c0p x)->Well H' w->But w H H'->Q (.ref p) H'
abbrev a8x:Stmt:=top 146
theorem a2q:i8 ["well","size","way","order","k","far"] ["well","size"] (g6 a8x):=↑1
theorem b8o(D:DefT K mg "_law_order" a8x ["well","size"])(T:Txt K mg cl)(G_law_take:FnT P w K mg base "_law_take" 1 ["well","many"] a0e):FnT P w K mg base "_law_order" 2 ["well","size"] b1n:=by
 refine D.fn a2q (λvs H Q E h=>?_) ↑4
 ·obtain⟨w,n,rfl,_⟩:=h
  rfl
 ·obtain⟨w,n,rfl,hw,n1,n8,k⟩:=h
  refine⟨_,(d7 (j7 (i:=2) a2q.nd rfl (by first|exact Or.inl rfl|exact Or.inr rfl) ↑2)
   (d7 (j7 (i:=3) a2q.nd rfl (by first|exact Or.inl rfl|exact Or.inr rfl) (l7 d6))
   (d7 (b3h a5w rfl (a1e rfl T.z_range (d5 (x9 (m3 (K:=K)) (l7 (d5 d9 (d5 (pv 1) (d5 (j3 a0k d9 (l8 G_law_take hr (by decide) rfl j8 (d5 (pv 0) (d5 (pv 1) d6)))) d6)))) (pv 2) (λ_ _=>rfl)) d6)) (i4 (i:=4) a2q.nd rfl (by first|exact Or.inl rfl|exact Or.inr rfl))
     (
     d7 (j7 (i:=5) a2q.nd rfl (by first|exact Or.inl rfl|exact Or.inr rfl) (j3 a0y (l8 G_law_take hr (by decide) rfl j8 (d5 (pv 0) (d5 (j3 b8b d9 d9) d6))) (j3 y0 d9 (j3 b8b d9 d9))))
     (g0 (z8 (a8c (K:=K) (pv 3) (d5 (x9 (m3 (K:=K)) (l7 (d5 (j3 a0y ↑2 d9) (d5 (pv 5) d6))) (j3 a4e ↑2 d9) (λ_ _=>rfl)) d6))))))
   (g0 (j4 (pv 3)))))),?_⟩
  have h20:2000<=sizeLine:=by decide
  fail "";refine⟨w,3,rfl,hw,by decide,by decide,λway H1 a1 c1 w1 b1=>?_⟩
  fail "";refine⟨Nat.zero_le _,λp hp=>?_⟩;have hp0:H p=none:=b1.free w1 hp;have np:p≠w:=w1.ne hp;fail "";refine⟨w,n,rfl,w1.same (i3 hp),by lia,by lia,λr H2 a2 c2 w2 b2=>?_⟩
  have e2:H2 p=some (.lst (([]:List Int).map V.int)):=b2 p _ d8 np;have bb2:But w H H2:=b1.trans ((But.of (i3 hp)).trans b2);fail "";refine⟨by show 3<=sizeLine;lia,λq hq=>?_⟩
  obtain⟨N,hN,g1,g8⟩:=d1z (ns:=[1,n,1+r]) (Pr:=λv=>1<=v/\v<=n) (by intro v hv;simp only[List.mem_cons,List.not_mem_nil,or_false] at hv;lia) a1 c1
  fail "";refine a3w d8 hN ?_;fail "";refine a7z (n:=N.toNat) (λi σ H'=>∃x4 x5 row,σ=[some (.ref w),some (.int n),some (.int way),some (.ref p),x4,x5]/\H' p=some (.lst ((row:List Int).map V.int))/\row.length=i/\(∀x∈row,c0p x)/\Well H' w/\But w H H') ⟨_,_,[],rfl,i3 hq _ _ e2,rfl,by simp,w2.same (i3 hq),bb2.nw hq⟩ ?_ ?_
  ·rintro i σ H3 hi ⟨x4,x5,row,rfl,e3,hl,hs,w3,b3⟩
   fail "";refine⟨w,_,rfl,w3,c6d.1,Int.lt_trans c6d.2.1 (by decide),λr4 H4 a4 c4 w4 b4=>?_⟩
   have c4:r4<10 ^ 59:=c4;have e4:H4 p=_:=b4 p _ e3 np;fail "";refine⟨w,9,rfl,w4,by decide,by decide,λr5 H5 a5 c5 w5 b5=>?_⟩
   have e5:H5 p=_:=b5 p _ e4 np;fail "";refine⟨by show 2<=sizeLine;lia,λq hq=>?_⟩
   have nq:q≠w:=w5.ne hq;have e5':upd H5 q (.lst [.int (r5-4),.int (r4-5*10 ^ 58)]) p=_:=i3 hq _ _ e5;fail "";refine⟨w,5,rfl,w5.same (i3 hq),by decide,by decide,λr6 H6 a6 c6 w6 b6=>?_⟩
   have e6:H6 p=_:=b6 p _ e5' np;have e6q:H6 q=_:=b6 q _ d8 nq;fail "";obtain⟨y,hy,sy⟩:=d1z (ns:=[r5-4,r4-5*10 ^ 58]) (Pr:=c0p) (by
    have z1:=c6d.2.2.1;have z2:=c6d.2.2.2;intro v hv;simp only[List.mem_cons,List.not_mem_nil,or_false] at hv;unfold c0p;rcases hv with rfl|rfl <;> constructor <;> lia) (r:=r6 / 4) (by lia) (by show r6 / 4<2;lia)
   refine a3w e6q hy ?_;fail "";refine c7k e6 (by rw[List.length_map];lia) ?_
   fail "";refine⟨_,_,row++[y],rfl,by rw[d8,List.map_append];rfl,by rw[List.length_append];show row.length+1=_;lia,?_,?_,?_⟩
   ·intro x hx
    rcases List.mem_append.mp hx with h|h
    ·exact hs x h
    ·rw[List.mem_singleton.mp h];exact sy
   ·obtain⟨a,b,pr,z,zz⟩:=w6
    exact⟨a,b,pr,(f9 np.symm).trans z,zz⟩
   ·have:But w H H6:=b3.trans (b4.trans (b5.trans ((But.of (i3 hq)).trans b6)))
    intro c o e ne;rw[f9 (g9 e hp0)];exact this c o e ne
  ·rintro σ H3 ⟨x4,x5,row,rfl,e3,hl,hs,w3,b3⟩
   fail "";exact k p H3 row hp0 e3 (by lia) (by lia) hs w3 b3
def Rws(H:Hp)(a:Addr)(os:List (List Int)):Prop:=∃ps:List Addr,H a=some (.lst (ps.map V.ref))/\ps.length=os.length/\∀(i:Nat)(p:Addr)(o:List Int),ps[i]?=some p->os[i]?=some o->H p=some (.lst (o.map V.int))
theorem Rws.same{H H':Hp}{a:Addr}{os:List (List Int)}(h:Rws H a os)(s:Same H H'):Rws H' a os:=by
 obtain⟨ps,e,l,r⟩:=h;exact⟨ps,s _ _ e,l,λi p o hp ho=>s _ _ (r i p o hp ho)⟩
inductive ExB(R:Addr->Addr->Nat->List Int->Int->V->Prop):Prop
 | mk (b l:Addr) (n:Nat) (row:List Int) (many:Int) (last:V) (h:R b l n row many last):ExB R
def a9u(cl:Cl):Sp:=λvs H Q E=>∃(x dx:Addr)(n:Int),vs=[.ref x,.int n]/\H x=some (.ins cl.Board dx []) /\
 (if 2<=n/\n<=8 then ∀l H',H l=none->Kp [x] H H'->Brd cl H' x l n.toNat (b0i n.toNat) 0 .non->Q .non H' else E (.ref cl.BadSize) none H)
def a4a(cl:Cl):Sp:=λvs H Q _=>ExB λb l n row many last=>vs=[.ref b]/\Brd cl H b l n row many last/\∀p,H p=none->Q (.ref p) (upd H p (.lst (row.map V.int)))
abbrev a7m:Stmt:=a0z (top 57) 0
theorem b5w:i8 ["self","size"] ["self","size"] (g6 a7m):=↑1
theorem b6u(D:DefM K cl.Board "__init__" "Board.__init__" a7m ["self","size"])(T:Txt K mg cl)(G_check_size:FnT P w K mg base "check_size" 1 ["size"] (a3c cl))(G_new_cells:FnT P w K mg base "new_cells" 1 ["size"] a6o):MethT P w K mg base cl.Board "__init__" 2 ["self","size"] (a9u cl):=by
 refine D.fn b5w (λvs H Q E h=>?_) ↑4
 ·obtain⟨x,dx,n,rfl,_⟩:=h
  rfl
 ·obtain⟨x,dx,n,rfl,ex,h⟩:=h
  refine⟨_,(d7 (z8 (l8 G_check_size hr (by decide) rfl j8 (d5 (pv 1) d6)))
   (d7 (m9 (K:=K) (pv 0) (pv 1))
   (d7 (m9 (K:=K) (pv 0) (l8 G_new_cells hr (by decide) rfl j8 (d5 (pv 1) d6)))
   (d7 (m9 (K:=K) (pv 0) d9)
   (g0 (m9 (K:=K) (pv 0) a2z)))))),?_⟩
  fail "";refine⟨n,rfl,c1k (λa=>?_) (λa=>?_)⟩
  ·rw[if_pos a] at h
   fail "";refine⟨n.toNat,by rw[show((n.toNat:Nat):Int)=n by lia],by lia,λl H1 hl s1 e1=>?_⟩
   have nx:l≠x:=by
    rintro rfl;rw[d8] at hl;cases hl
   have ex1:=s1 _ _ d8;fail "";have el:H l=none:=by rw[f9 nx] at hl;exact hl
   refine h l _ el ?_ ⟨⟨dx,?_⟩,?_,b5c _,by lia,by lia⟩
   ·intro c o e n
    have nc:c≠x:=λz=>n (by simp[z])
    rw[f9 nc,f9 nc,f9 nc];exact s1 _ _ (by rw[f9 nc];exact e)
   ·rw[d8,show((n.toNat:Nat):Int)=n by lia]
    rfl
   ·rw[f9 nx,f9 nx,f9 nx]
    exact e1
  ·rw[if_neg a] at h
   exact h
abbrev a2i:Stmt:=a0z (top 57) 6
theorem a9z:i8 ["self"] ["self"] (g6 a2i):=↑1
theorem b0h(D:DefM K cl.Board "all_cells" "Board.all_cells" a2i ["self"])(T:Txt K mg cl):MethT P w K mg base cl.Board "all_cells" 1 ["self"] (a4a cl):=by
 refine D.fn a9z (λvs H Q E h=>?_) ↑4
 ·obtain⟨b,l,n,row,many,last,rfl,_⟩:=h
  rfl
 ·obtain⟨b,l,n,row,many,last,rfl,⟨⟨dx,eb⟩,el,hl,n2,n8⟩,h⟩:=h
  refine⟨_,(g0 (j4 (l0 (a0d (K:=K)) (by rfl) T.z_list PyProof.Rows.boot_list (d5 (m4 (K:=K) (pv 0)) d6)))),?_⟩
  fail "";exact h
abbrev a7l:Stmt:=a0z (top 57) 7
inductive Hr where
 | non
 | int (i:Int)
@[reducible] def Hr.v:Hr->V
 | .non=>.non
 | .int i=>.int i
abbrev b0o:List Str:=["rouse","clear","mute","marks"]
abbrev b1y:List Str:=["look","wish","again","sleep","hush","unwish"]
abbrev a9i:List Str:=["free","card","ring"]
abbrev gvU:List Str:=["rouse","clear","mute","marks","told","lacks","look","wish","again","sleep","hush","unwish","number","left","thing","mark","card","ring"]
abbrev tkU:List Str:=["rouse","clear","mute","marks","look","wish","again","sleep","hush","unwish","number","left","thing","free","card","ring"]
theorem b2j(x:Str)(xs:List Str):inV (.str x) (xs.map V.str)=decide (x∈xs):=by
 unfold inV;rw[Bool.eq_iff_iff,List.any_eq_true,decide_eq_true_iff];constructor
 ·rintro⟨y,hy,e⟩
  obtain⟨z,hz,rfl⟩:=List.mem_map.mp hy;rw[b1f,decide_eq_true_iff] at e
  first|exact e ▸ hz|exact e.symm ▸ hz
 ·exact λh=>⟨.str x,List.mem_map.mpr ⟨x,h,rfl⟩,by rw[b1f];exact decide_eq_true rfl⟩
theorem b0n(xs:List Str):(xs.map V.str).all a8g=true:=by
 rw[List.all_eq_true];intro y hy;obtain⟨z,_,rfl⟩:=List.mem_map.mp hy
 rfl
theorem c2s{H:Hp}{Q:VK}{t:Addr}{x:Str}{xs:List Str}(h:SqT K H t (xs.map V.str))(q:Q (.bl (decide (x∈xs))) H):rIn K false (.str x) (.ref t) H Q :=
 ⟨t,_,rfl,.inr h,rfl,b0n xs,by rw[if_neg (by decide),b2j];exact q⟩
theorem c1m{H:Hp}{Q:VK}{t:Addr}{x:Str}{xs:List Str}(h:SqT K H t (xs.map V.str))(q:Q (.bl (!decide (x∈xs))) H):rIn K true (.str x) (.ref t) H Q :=
 ⟨t,_,rfl,.inr h,rfl,b0n xs,by rw[if_pos rfl,b2j];exact q⟩
def a3i(n:Nat)(st:Str)(he:Hr):Prop:=if st∈b0o then he=.non else ∃i,he=.int i/\0<=i/\i<2*(n:Int)
def a3u(n:Nat)(st:Str)(mk:List Int):Prop:=if st="marks" then mk.length<n/\∀m∈mk,0<=m/\m<=3 else mk=[]
structure GSd where
 st:Str
 he:Hr
 ms:List Int
 od:Int
 pt:Int
structure TSd where
 st:Str
 he:Hr
 ms:List Int
 nf:Hr
 nu:Int
 le:Int
 pa:List Int
def b0c(st:Str)(od pt:Int)(os:List (List Int)):Prop :=
 if st∈b0o\/st="told" then od=0/\pt=0 else if st="lacks" then (-1<=od/\od<os.length)/\pt=0 else if od=os.length then st∈b1y/\pt=0 else (0<=od/\od<os.length)/\0<=pt/\pt<(os.getD od.toNat []).length
def TTs(H:Hp)(a:Addr)(os:List (List Int)):Prop:=∃ps:List Addr,H a=some (.tup (ps.map V.ref))/\ps.length=os.length/\∀(i:Nat)(p:Addr)(o:List Int),ps[i]?=some p->os[i]?=some o->H p=some (.tup (o.map V.int))
theorem TTs.same{H H':Hp}{a:Addr}{os:List (List Int)}(h:TTs H a os)(s:Same H H'):TTs H' a os:=by
 obtain⟨ps,e,l,r⟩:=h;exact⟨ps,s _ _ e,l,λi p o hp ho=>s _ _ (r i p o hp ho)⟩
theorem a2c(x y:Str):decide (V.str x=V.str y)=decide (x=y):=by
 rw[decide_eq_decide];exact⟨V.str.inj,λz=>by rw[z]⟩
theorem t5(x y:Int):decide (V.int x=V.int y)=decide (x=y):=by
 rw[decide_eq_decide];exact⟨V.int.inj,λz=>by rw[z]⟩
theorem b0m{σ:St}{H:Hp}{k:St->Hp->Prop}{p:Addr}{x1 x2 x3 x4 x5:V}{a b c d e n:Nat}(h:H p=some (.tup [x1,x2,x3,x4,x5]))(hn:5=n)(q:k (((((σ.set a (some x1)).set b (some x2)).set c (some x3)).set d (some x4)).set e (some x5)) H):d3r K n (b1e (a6j a) (b1e (a6j b) (b1e (a6j c) (b1e (a6j d) (b1e (a6j e) d5n))))) (.ref p) σ H k:=⟨p,_,rfl,SqT.of h,hn,x1,_,rfl,x2,_,rfl,x3,_,rfl,x4,_,rfl,x5,[],rfl,rfl,q⟩
theorem c1l{σ:St}{H:Hp}{k:St->Hp->Prop}{p:Addr}{x1 x2 x3 x4 x5 x6 x7:V}{a b c d e f g n:Nat}(h:H p=some (.tup [x1,x2,x3,x4,x5,x6,x7]))(hn:7=n)(q:k (((((((σ.set a (some x1)).set b (some x2)).set c (some x3)).set d (some x4)).set e (some x5)).set f (some x6)).set g (some x7)) H):d3r K n (b1e (a6j a) (b1e (a6j b) (b1e (a6j c) (b1e (a6j d) (b1e (a6j e) (b1e (a6j f) (b1e (a6j g) d5n))))))) (.ref p) σ H k:=⟨p,_,rfl,SqT.of h,hn,x1,_,rfl,x2,_,rfl,x3,_,rfl,x4,_,rfl,x5,_,rfl,x6,_,rfl,x7,[],rfl,rfl,q⟩
theorem b8y{n t:Int}{H:Hp}{E:XK}{k:Prop}(n2:2<=n)(n8:n<=8)(t0:0<=t)(t1:t<2*n)(h:k):b0l cl n t H E k:=by
 unfold b0l;rw[if_pos ⟨n2,n8⟩,if_pos ⟨t0,t1⟩];exact h
structure c7p(n:Nat)(os:List (List Int))(g:GSd):Prop where
 st:g.st∈gvU
 tf:a3i n g.st g.he
 mf:a3u n g.st g.ms
 pf:b0c g.st g.od g.pt os
def GT(H:Hp)(a:Addr)(g:GSd):Prop:=∃m,H a=some (.tup [.str g.st,g.he.v,.ref m,.int g.od,.int g.pt])/\H m=some (.tup (g.ms.map V.int))
theorem GT.same{H H':Hp}{a:Addr}{g:GSd}(h:GT H a g)(s:Same H H'):GT H' a g:=by
 obtain⟨m,e,e'⟩:=h;exact⟨m,s _ _ e,s _ _ e'⟩
def Tells(p:Prop)(H:Hp)(Q:VK):Prop:=∀(b:Bool)(H':Hp),(b=true ↔ p)->Same H H'->Q (.bl b) H'
theorem Tells.t{p:Prop}{H:Hp}{Q:VK}(h:Tells p H Q)(z:p):Q (.bl true) H:=h true H ⟨λ_=>z,λ_=>rfl⟩ (Same.refl H)
theorem Tells.f{p:Prop}{H:Hp}{Q:VK}(h:Tells p H Q)(z:¬ p):Q (.bl false) H:=h false H ⟨λq=>(by cases q),λq=>absurd q z⟩ (Same.refl H)
theorem Tells.d{p q:Prop}[Decidable q]{H:Hp}{Q:VK}(h:Tells p H Q)(z:q ↔ p):Q (.bl (decide q)) H:=h _ H (by rw[decide_eq_true_iff];exact z) (Same.refl H)
theorem Tells.on{p:Prop}{H H1:Hp}{Q:VK}(h:Tells p H Q)(s:Same H H1):Tells p H1 Q:=λb H' z s'=>h b H' z (s.trans s')
def a6k:Sp:=λvs H Q _=>∃(n:Nat)(st:Str)(he:Hr),vs=[.int n,.str st,he.v]/\n<=8/\Tells (a3i n st he) H Q
abbrev a8q:Stmt:=top 125
theorem b7n:i8 ["size","stage","turn"] ["size","stage","turn"] (g6 a8q):=↑1
theorem b8f(D:DefT K mg "turn_fits" a8q ["size","stage","turn"])(T:Txt K mg cl):FnT P w K mg base "turn_fits" 1 ["size","stage","turn"] a6k:=by
 refine D.fn b7n (λvs H Q E h=>?_) ↑4
 ·obtain⟨n,st,he,rfl,_⟩:=h
  rfl
 ·obtain⟨n,st,he,rfl,n8,k⟩:=h
  refine⟨_,(d7 (v9 (i6 (a4d (K:=K)) (pv 1) (a3t T.r_COMING_UP rfl) (by with_unfolding_all rfl))
     (g0 (j4 (m5 c1e (pv 2) a2z (i7 _))))
     k7)
   (g0 (j4 (a1p (m5 b9w (pv 2) a2z (i7 _)) (a1b (a8b rfl T.z_range (pv 2) (d5 (j3 y0 d9 (pv 0)) d6))))))),?_⟩
  unfold a3i at k;fail "";refine c2s (xs:=b0o) T.kt_COMING_UP.sq ?_;by_cases hc:st∈b0o
  ·rw[if_pos hc] at k
   rw[decide_eq_true hc];fail "";refine⟨rfl,k.d ?_⟩;cases he with
   | non=>exact⟨λ_=>rfl,λ_=>rfl⟩
   | int i=>exact⟨λz=>(by cases z),λz=>(by cases z)⟩
  ·rw[if_neg hc] at k
   rw[decide_eq_false hc];fail "";cases he with
   | non=>
    refine⟨rfl,false,rfl,?_⟩;fail "";exact k.f (by rintro⟨i,z,_⟩;cases z)
   | int i=>
    refine⟨rfl,true,rfl,?_⟩;fail "";refine⟨i,_,rfl,rfl,k.d ⟨λz=>⟨i,rfl,z⟩,?_⟩⟩;rintro⟨j,z,q⟩;cases z;exact q
def a6p:Sp:=λvs H Q _=>∃(n:Nat)(st:Str)(a:Addr)(mk:List Int),vs=[.int n,.str st,.ref a]/\n<=8/\H a=some (.tup (mk.map V.int))/\mk.length<=100000/\Tells (a3u n st mk) H Q
abbrev a8u:Stmt:=top 126
theorem b7q:i8 ["size","stage","marks"] ["size","stage","marks"] (g6 a8u):=↑1
theorem b8l(D:DefT K mg "marks_fit" a8u ["size","stage","marks"])(T:Txt K mg cl):FnT P w K mg base "marks_fit" 1 ["size","stage","marks"] a6p:=by
 refine D.fn b7q (λvs H Q E h=>?_) ↑4
 ·obtain⟨n,st,a,mk,rfl,_⟩:=h
  rfl
 ·obtain⟨n,st,a,mk,rfl,n8,ea,lz,k⟩:=h
  refine⟨_,(d7 (v9 (i6 b2a (pv 1) i9 (i7 _))
     (g0 (j4 (m5 a0q (j6 (j5 (K:=K)) (by rfl) T.z_len PySem.boot_len (d5 (pv 2) d6)) d9 (i7 _))))
     k7)
   (g0 (j4 (a1p (m5 a1w (j6 (j5 (K:=K)) (by rfl) T.z_len PySem.boot_len (d5 (pv 2) d6)) (pv 0) (i7 _)) (a1b (j6 (c5r (K:=K) rfl) (by rfl) T.z_all PyProof.Rows.boot_all (d5 (a1k (N:=["mark"]) (nt:=1) (fr:=[]) rfl (a0w rfl rfl (by decide +kernel) (by decide +kernel) rfl rfl) (a2j (K:=K) (pv 2)) (z9 (by decide)) (λ_ _ _ _ _=>i4 (i:=0) (show(["mark"]:List Str).Nodup by decide +kernel) rfl (Or.inl rfl) (Or.inr rfl)) (λ_ _ _ _ _=>(a8b rfl T.z_range (pv 0) (d5 (j3 a0k (a0m T.m_MOST_MARK rfl) d9) d6)))) d6))))))),?_⟩
  have lm:=a3a;unfold a3u at k;fail "";by_cases hm:st="marks"
  ·rw[if_pos hm] at k
   subst hm;refine a2s (λz=>absurd rfl z) λ_=>?_;fail "";rw[List.length_map];refine x8 (λz=>?_) (λz=>?_)
   ·fail ""
    refine a5e (SqT.of ea) ?_;refine a2t (xs:=mk.map V.int) (by rw[List.length_map];lia) (MpP H mk (λm=>V.bl (decide (0<=m/\m<3+1))) (λ_=>True)) (λD hD=>MpP.new hD) (λD i acc H' p=>⟨p.len.1,p.len.2,SqT.of (p.2.1 _ _ ea)⟩) ?_ ?_
    ·intro D i x acc H' hD hx hp
     obtain⟨y,hy,rfl⟩:=b1c hx;fail "";exact⟨_,_,rfl,rfl,hp.step hD hy trivial rfl (Same.refl _)⟩
    ·intro D acc H' hD hp
     obtain⟨e,s',_⟩:=hp.done (List.length_map _);fail "";refine⟨D,mk.map λm=>decide (0<=m/\m<3+1),rfl,SqL.of (e.trans (by rw[List.map_map];rfl)),k _ _ ?_ s'⟩
     rw[List.all_map,List.all_eq_true];constructor
     ·intro q
      refine⟨by lia,λm hm=>?_⟩
      have:=of_decide_eq_true (q m hm);lia
     ·intro q m hm
      have:=q.2 m hm;exact decide_eq_true (by lia)
   ·fail ""
    exact k.f (λq=>z (by have:=q.1;lia))
  ·rw[if_neg hm] at k
   refine a2s (λ_=>?_) λz=>absurd (V.str.inj z) hm;fail "";rw[List.length_map];refine k.d ⟨λz=>?_,λz=>by rw[z];rfl⟩
   exact List.length_eq_zero_iff.mp (by have:=V.int.inj z;lia)
def b1j:Sp:=λvs H Q _=>∃(st:Str)(od pt:Int)(a:Addr)(os:List (List Int)),vs=[.str st,.int od,.int pt,.ref a]/\TTs H a os/\Tells (b0c st od pt os) H Q
abbrev a8s:Stmt:=top 127
theorem b7o:i8 ["stage","order","part","orders"] ["stage","order","part","orders"] (g6 a8s):=↑1
theorem b8h(D:DefT K mg "part_fits" a8s ["stage","order","part","orders"])(T:Txt K mg cl):FnT P w K mg base "part_fits" 1 ["stage","order","part","orders"] b1j:=by
 refine D.fn b7o (λvs H Q E h=>?_) ↑4
 ·obtain⟨st,od,pt,a,os,rfl,_⟩:=h
  rfl
 ·obtain⟨st,od,pt,a,os,rfl,⟨ps,ea,hl,ep⟩,k⟩:=h
  refine⟨_,(d7 (v9 (PW.pt (a4t (i6 (a4d (K:=K)) (pv 0) (a3t T.r_COMING_UP rfl) (by with_unfolding_all rfl)) (a1u (i6 a0q (pv 0) i9 (i7 _)))))
     (g0 (j4 (a1p (m5 a0q (pv 1) d9 (i7 _)) (a1b (m5 a0q (pv 2) d9 (i7 _))))))
     k7)
   (d7 (v9 (i6 a0q (pv 0) i9 (i7 _))
     (g0 (j4 (a1p (c3z rfl T.z_range (pv 1) (d5 (a0m T.m_NO_ORDER rfl) (d5 (j6 (j5 (K:=K)) (by rfl) T.z_len PySem.boot_len (d5 (pv 3) d6)) d6))) (a1b (m5 a0q (pv 2) d9 (i7 _))))))
     k7)
   (d7 (v9 (i6 a0q (pv 1) (j6 (j5 (K:=K)) (by rfl) T.z_len PySem.boot_len (d5 (pv 3) d6)) (i7 _))
     (g0 (j4 (a1p (m5 (a4d (K:=K)) (pv 0) (a3t T.r_WAITING rfl) (by with_unfolding_all rfl)) (a1b (m5 a0q (pv 2) d9 (i7 _))))))
     k7)
   (g0 (j4 (a1p (a8b rfl T.z_range (pv 1) (d5 (j6 (j5 (K:=K)) (by rfl) T.z_len PySem.boot_len (d5 (pv 3) d6)) d6)) (a1b (a8b rfl T.z_range (pv 2) (d5 (j6 (j5 (K:=K)) (by rfl) T.z_len PySem.boot_len (d5 (x9 (a0v (K:=K)) (pv 3) (pv 1) (λ_ _=>rfl)) d6)) d6))))))))),?_⟩
  unfold b0c at k;fail "";refine c2s (xs:=b0o) T.kt_COMING_UP.sq ?_;by_cases h1:st∈b0o
  ·rw[if_pos (.inl h1)] at k
   rw[decide_eq_true h1];fail "";rw[t5];refine x8 (λz=>?_) (λz=>?_)
   ·fail ""
    exact k.d ⟨λy=>⟨z,V.int.inj y⟩,λy=>by rw[y.2]⟩
   ·fail ""
    exact k.f λq=>z q.1
  rw[decide_eq_false h1];fail "";rw[a2c];by_cases h2:st="told"
  ·rw[if_pos (.inr h2)] at k
   rw[decide_eq_true h2];fail "";rw[t5];refine x8 (λz=>?_) (λz=>?_)
   ·fail ""
    exact k.d ⟨λy=>⟨z,V.int.inj y⟩,λy=>by rw[y.2]⟩
   ·fail ""
    exact k.f λq=>z q.1
  rw[if_neg (λz=>z.elim h1 h2)] at k;rw[decide_eq_false h2];fail "";rw[a2c];by_cases h3:st="lacks"
  ·rw[if_pos h3] at k
   rw[decide_eq_true h3];fail "";rw[List.length_map,hl];refine⟨_,_,_,rfl,rfl,decide (-1<=od/\od<os.length),rfl,?_⟩;refine x8 (λz=>?_) (λz=>?_)
   ·fail ""
    exact k.d ⟨λy=>⟨z,V.int.inj y⟩,λy=>by rw[y.2]⟩
   ·fail ""
    exact k.f λq=>z q.1
  rw[if_neg h3] at k;rw[decide_eq_false h3];fail "";rw[List.length_map,hl,t5];by_cases h4:od=os.length
  ·rw[if_pos h4] at k
   rw[decide_eq_true h4];fail "";refine c2s (xs:=b1y) T.kt_WAITING.sq ?_;fail "";refine x8 (λz=>?_) (λz=>?_)
   ·fail ""
    exact k.d ⟨λy=>⟨z,V.int.inj y⟩,λy=>by rw[y.2]⟩
   ·fail ""
    exact k.f λq=>z q.1
  rw[if_neg h4] at k;rw[decide_eq_false h4];fail "";rw[List.length_map,hl];refine⟨_,_,rfl,rfl,decide (0<=od/\od<os.length),rfl,?_⟩;refine x8 (λz=>?_) (λz=>?_)
  ·have hi:od.toNat<os.length:=by lia
   have hip:od.toNat<ps.length:=by lia
   have eo:os.getD od.toNat []=os[od.toNat]:=by rw[List.getD_eq_getElem?_getD,List.getElem?_eq_getElem hi];rfl
   rw[eo] at k;have e1:=ep od.toNat ps[od.toNat] os[od.toNat] (List.getElem?_eq_getElem hip) (List.getElem?_eq_getElem hi);fail "";refine c0h (v:=.ref ps[od.toNat]) ea ?_ ?_
   ·unfold atI
    rw[List.length_map,c8d z.1 (by lia)]
    show(ps.map V.ref)[od.toNat]?=_;rw[List.getElem?_map,List.getElem?_eq_getElem hip]
    rfl
   fail "";rw[List.length_map];exact⟨_,_,rfl,rfl,k.d ⟨λy=>⟨z,y⟩,λy=>y.2⟩⟩
  ·fail ""
   exact k.f λq=>z q.1
def a9l:Sp:=λvs H Q _=>∃(n:Nat)(a b:Addr)(g:GSd)(os:List (List Int)),vs=[.int n,.ref a,.ref b]/\n<=8/\GT H a g/\TTs H b os/\g.ms.length<=100000/\Tells (c7p n os g) H Q
abbrev a7b:Stmt:=top 128
theorem a1g:i8 ["size","mind","orders","stage","turn","marks","order","part"] ["size","mind","orders"] (g6 a7b):=↑1
theorem b6k(D:DefT K mg "giver_fits" a7b ["size","mind","orders"])(T:Txt K mg cl)(G_turn_fits:FnT P w K mg base "turn_fits" 1 ["size","stage","turn"] a6k)(G_marks_fit:FnT P w K mg base "marks_fit" 1 ["size","stage","marks"] a6p)(G_part_fits:FnT P w K mg base "part_fits" 1 ["stage","order","part","orders"] b1j):FnT P w K mg base "giver_fits" 2 ["size","mind","orders"] a9l:=by
 refine D.fn a1g (λvs H Q E h=>?_) ↑4
 ·obtain⟨n,a,b,g,os,rfl,_⟩:=h
  rfl
 ·obtain⟨n,a,b,g,os,rfl,n8,⟨m,ea,em⟩,tb,lz,k⟩:=h
  refine⟨_,(d7 (a1l (pv 1) (a1j (K:=K) rfl (i5 (i4 (i:=3) a1g.nd rfl (by first|exact Or.inl rfl|exact Or.inr rfl)) (i5 (i4 (i:=4) a1g.nd rfl (by first|exact Or.inl rfl|exact Or.inr rfl)) (i5 (i4 (i:=5) a1g.nd rfl (by first|exact Or.inl rfl|exact Or.inr rfl)) (i5 (i4 (i:=6) a1g.nd rfl (by first|exact Or.inl rfl|exact Or.inr rfl)) (i5 (i4 (i:=7) a1g.nd rfl (by first|exact Or.inl rfl|exact Or.inr rfl)) a1i)))))))
   (d7 (v9 (i6 (b0d (K:=K)) (pv 3) (a3t T.r_GIVER_STAGES rfl) (by with_unfolding_all rfl))
     (g0 (j4 a5b))
     k7)
   (d7 (v9 (PW.pt (a4t (a4b (a2d (l8 G_turn_fits hr (by decide) rfl j8 (d5 (pv 0) (d5 (pv 3) (d5 (pv 4) d6)))))) (a1u (a4b (a2d (l8 G_marks_fit hr (by decide) rfl j8 (d5 (pv 0) (d5 (pv 3) (d5 (pv 5) d6)))))))))
     (g0 (j4 a5b))
     k7)
   (g0 (j4 (l8 G_part_fits hr (by decide) rfl j8 (d5 (pv 3) (d5 (pv 6) (d5 (pv 7) (d5 (pv 2) d6)))))))))),?_⟩
  fail "";refine b0m ea rfl ?_;fail "";refine c1m (xs:=gvU) T.kt_GIVER_STAGES.sq ?_;fail "";refine a2s (λz=>?_) (λz=>?_)
  ·fail ""
   exact k.f λq=>z q.st
  fail "";refine⟨n,g.st,g.he,rfl,n8,λb1 H1 e1 s1=>?_⟩;fail "";cases b1
  ·fail ""
   exact(k.on s1).f λq=>by cases e1.mpr q.tf
  fail "";refine⟨n,g.st,m,g.ms,rfl,n8,s1 _ _ em,lz,λb2 H2 e2 s2=>?_⟩;fail "";cases b2
  ·fail ""
   exact(k.on (s1.trans s2)).f λq=>by cases e2.mpr q.mf
  fail "";refine⟨g.st,g.od,g.pt,b,os,rfl,tb.same (s1.trans s2),λb3 H3 e3 s3=>k b3 H3 ?_ ((s1.trans s2).trans s3)⟩;exact⟨λq=>⟨z,e1.mp rfl,e2.mp rfl,e3.mp q⟩,λq=>e3.mpr q.pf⟩
def c2g(st:Str)(nu le:Int):Prop:=(nu=0\/st="left"\/st="thing")/\(le=0\/(0<le/\st="thing"))
def a6l:Sp:=λvs H Q _=>∃(st:Str)(nu le:Int),vs=[.str st,.int nu,.int le]/\Tells (c2g st nu le) H Q
abbrev a4k:Stmt:=top 129
theorem b2y:i8 ["stage","number","left"] ["stage","number","left"] (g6 a4k):=↑1
theorem b3l(D:DefT K mg "reading_fits" a4k ["stage","number","left"])(T:Txt K mg cl):FnT P w K mg base "reading_fits" 1 ["stage","number","left"] a6l:=by
 refine D.fn b2y (λvs H Q E h=>?_) ↑4
 ·obtain⟨st,nu,le,rfl,_⟩:=h
  rfl
 ·obtain⟨st,nu,le,rfl,k⟩:=h
  refine⟨_,(d7 (v9 (PW.pt (b0b (i6 b2a (pv 1) d9 (i7 _)) (b0b (i6 b2a (pv 0) i9 (i7 _)) (a7p (i6 b2a (pv 0) i9 (i7 _))))))
     (g0 (j4 a5b))
     k7)
   (g0 (j4 (c3x (m5 a0q (pv 2) d9 (i7 _)) (a1b (a1p (m5 b3j (pv 2) d9 (i7 _)) (a1b (m5 a0q (pv 0) i9 (i7 _))))))))),?_⟩
  unfold c2g at k;fail "";rw[t5];refine a2s (λz=>?_) (λz=>?_)
  ·fail ""
   rw[a2c];refine a2s (λy=>?_) (λy=>?_)
   ·fail ""
    rw[a2c];refine a2s (λx=>?_) (λx=>?_)
    ·fail ""
     exact k.f λu=>u.1.elim (λv=>z v) λv=>v.elim (λv=>y v) λv=>x v
    ·fail ""
     rw[t5];have h0:nu=0\/st="left"\/st="thing":=.inr (.inr x);refine x8 (λz1=>k.t ⟨h0,.inl z1⟩) (λz1=>?_);fail "";refine x8 (λy1=>?_) (λy1=>?_)
     ·fail ""
      exact k.d ⟨λu=>⟨h0,.inr ⟨y1,V.str.inj u⟩⟩,λu=>u.2.elim (λv=>absurd v z1) λv=>by rw[v.2]⟩
     ·fail ""
      exact k.f λu=>u.2.elim (λv=>z1 v) λv=>y1 v.1
   ·fail ""
    rw[t5];have h0:nu=0\/st="left"\/st="thing":=.inr (.inl y);refine x8 (λz1=>k.t ⟨h0,.inl z1⟩) (λz1=>?_);fail "";refine x8 (λy1=>?_) (λy1=>?_)
    ·fail ""
     exact k.d ⟨λu=>⟨h0,.inr ⟨y1,V.str.inj u⟩⟩,λu=>u.2.elim (λv=>absurd v z1) λv=>by rw[v.2]⟩
    ·fail ""
     exact k.f λu=>u.2.elim (λv=>z1 v) λv=>y1 v.1
  ·fail ""
   rw[t5];have h0:nu=0\/st="left"\/st="thing":=.inl z;refine x8 (λz1=>k.t ⟨h0,.inl z1⟩) (λz1=>?_);fail "";refine x8 (λy1=>?_) (λy1=>?_)
   ·fail ""
    exact k.d ⟨λu=>⟨h0,.inr ⟨y1,V.str.inj u⟩⟩,λu=>u.2.elim (λv=>absurd v z1) λv=>by rw[v.2]⟩
   ·fail ""
    exact k.f λu=>u.2.elim (λv=>z1 v) λv=>y1 v.1
def a7t(n:Nat)(t:TSd):Prop:=if t.st∈b0o then t.pa=[] else ∃i j,t.he=.int i/\t.nf=.int j/\(if t.st∈a9i then t.pa=[] else (t.pa.length:Int)=(i-j) % (2*(n:Int)))/\(i-j) % (2*(n:Int))<n
def TT(H:Hp)(a:Addr)(t:TSd):Prop:=∃m p,H a=some (.tup [.str t.st,t.he.v,.ref m,t.nf.v,.int t.nu,.int t.le,.ref p])/\H m=some (.tup (t.ms.map V.int))/\H p=some (.tup (t.pa.map V.int))
theorem TT.same{H H':Hp}{a:Addr}{t:TSd}(h:TT H a t)(s:Same H H'):TT H' a t:=by
 obtain⟨m,p,e,e',e''⟩:=h;exact⟨m,p,s _ _ e,s _ _ e',s _ _ e''⟩
def b1i:Sp:=λvs H Q _=>∃(n:Nat)(t:TSd)(p:Addr),vs=[.int n,.str t.st,t.he.v,t.nf.v,.ref p]/\2<=n/\n<=8/\H p=some (.tup (t.pa.map V.int))/\a3i n t.st t.he/\a3i n t.st t.nf/\Tells (a7t n t) H Q
abbrev a8r:Stmt:=top 130
theorem b1t:i8 ["size","stage","turn","first","parts","many"] ["size","stage","turn","first","parts"] (g6 a8r):=↑1
theorem b8g(D:DefT K mg "parts_fit" a8r ["size","stage","turn","first","parts"])(T:Txt K mg cl)(G_distance:FnT P w K mg base "distance" 3 ["size","one","other"] (b2v cl)):FnT P w K mg base "parts_fit" 4 ["size","stage","turn","first","parts"] b1i:=by
 refine D.fn b1t (λvs H Q E h=>?_) ↑4
 ·obtain⟨n,t,p,rfl,_⟩:=h
  rfl
 ·obtain⟨n,t,p,rfl,n2,n8,ep,tf,tg,k⟩:=h
  refine⟨_,(d7 (v9 (i6 (a4d (K:=K)) (pv 1) (a3t T.r_COMING_UP rfl) (by with_unfolding_all rfl))
     (g0 (j4 (m5 a0q (j6 (j5 (K:=K)) (by rfl) T.z_len PySem.boot_len (d5 (pv 4) d6)) d9 (i7 _))))
     k7)
   (d7 (j7 (i:=5) b1t.nd rfl (by first|exact Or.inl rfl|exact Or.inr rfl) (l8 G_distance hr (by decide) rfl j8 (d5 (pv 0) (d5 (pv 3) (d5 (pv 2) d6)))))
   (d7 (v9 (i6 (a4d (K:=K)) (pv 1) (a3t T.r_FREEING rfl) (by with_unfolding_all rfl))
     (g0 (j4 (a1p (m5 a0q (j6 (j5 (K:=K)) (by rfl) T.z_len PySem.boot_len (d5 (pv 4) d6)) d9 (i7 _)) (a1b (m5 a1w (pv 5) (pv 0) (i7 _))))))
     k7)
   (g0 (j4 (a1p (m5 a0q (j6 (j5 (K:=K)) (by rfl) T.z_len PySem.boot_len (d5 (pv 4) d6)) (pv 5) (i7 _)) (a1b (m5 a1w (pv 5) (pv 0) (i7 _))))))))),?_⟩
  unfold a7t at k;unfold a3i at tf tg;fail "";refine c2s (xs:=b0o) T.kt_COMING_UP.sq ?_;have nil:∀l:List Int,V.int ((l.length:Nat):Int)=V.int 0 ↔ l=[]:=λl=>⟨λz=>List.length_eq_zero_iff.mp (by have:=V.int.inj z;lia),λz=>by rw[z];rfl⟩
  by_cases hc:t.st∈b0o
  ·rw[if_pos hc] at k
   rw[decide_eq_true hc];fail "";rw[List.length_map];exact k.d (nil _)
  ·rw[if_neg hc] at k tf tg
   obtain⟨i,ei,i0,i1⟩:=tf;obtain⟨j,ej,j0,j1⟩:=tg;have k:Tells ((if t.st∈a9i then t.pa=[] else (t.pa.length:Int)=(i-j) % (2*(n:Int)))/\(i-j) % (2*(n:Int))<n) H Q:=λb H' z s'=>k b H' (z.trans ⟨λq=>⟨i,j,ei,ej,q⟩,by
    rintro⟨i',j',e1,e2,q⟩;rw[ei] at e1;rw[ej] at e2;cases e1;cases e2;exact q⟩) s'
   rw[decide_eq_false hc];fail "";rw[ei,ej];refine⟨n,j,i,rfl,b8y (by lia) (by lia) j0 j1 (b8y (by lia) (by lia) i0 i1 ?_)⟩
   fail "";refine c2s (xs:=a9i) T.kt_FREEING.sq ?_;by_cases hf:t.st∈a9i
   ·rw[if_pos hf] at k
    rw[decide_eq_true hf];fail "";rw[List.length_map];refine x8 (λz=>?_) (λz=>?_)
    ·fail ""
     exact k.d ⟨λy=>⟨(nil _).mp z,y⟩,λy=>y.2⟩
    ·fail ""
     exact k.f λq=>z ((nil _).mpr q.1)
   ·rw[if_neg hf] at k
    rw[decide_eq_false hf];fail "";rw[List.length_map];refine x8 (λz=>?_) (λz=>?_)
    ·fail ""
     exact k.d ⟨λy=>⟨V.int.inj z,y⟩,λy=>y.2⟩
    ·fail ""
     exact k.f λq=>z (by rw[q.1])
structure c7o(n:Nat)(t:TSd):Prop where
 st:t.st∈tkU
 tf:a3i n t.st t.he
 nf:a3i n t.st t.nf
 mf:a3u n t.st t.ms
 rf:c2g t.st t.nu t.le
 pf:a7t n t
def a9j:Sp:=λvs H Q _=>∃(n:Nat)(a:Addr)(t:TSd),vs=[.int n,.ref a]/\2<=n/\n<=8/\TT H a t/\t.ms.length<=100000/\Tells (c7o n t) H Q
abbrev a6z:Stmt:=top 131
theorem a0i:i8 ["size","mind","stage","turn","marks","first","number","left","parts"] ["size","mind"] (g6 a6z):=↑1
theorem b6h(D:DefT K mg "taker_fits" a6z ["size","mind"])(T:Txt K mg cl)(G_turn_fits:FnT P w K mg base "turn_fits" 1 ["size","stage","turn"] a6k)(G_marks_fit:FnT P w K mg base "marks_fit" 1 ["size","stage","marks"] a6p)(G_reading_fits:FnT P w K mg base "reading_fits" 1 ["stage","number","left"] a6l)(G_parts_fit:FnT P w K mg base "parts_fit" 4 ["size","stage","turn","first","parts"] b1i):FnT P w K mg base "taker_fits" 5 ["size","mind"] a9j:=by
 refine D.fn a0i (λvs H Q E h=>?_) ↑4
 ·obtain⟨n,a,t,rfl,_⟩:=h
  rfl
 ·obtain⟨n,a,t,rfl,n2,n8,⟨m,p,ea,em,ep⟩,lz,k⟩:=h
  refine⟨_,(d7 (a1l (pv 1) (a1j (K:=K) rfl (i5 (i4 (i:=2) a0i.nd rfl (by first|exact Or.inl rfl|exact Or.inr rfl)) (i5 (i4 (i:=3) a0i.nd rfl (by first|exact Or.inl rfl|exact Or.inr rfl)) (i5 (i4 (i:=4) a0i.nd rfl (by first|exact Or.inl rfl|exact Or.inr rfl)) (i5 (i4 (i:=5) a0i.nd rfl (by first|exact Or.inl rfl|exact Or.inr rfl)) (i5 (i4 (i:=6) a0i.nd rfl (by first|exact Or.inl rfl|exact Or.inr rfl)) (i5 (i4 (i:=7) a0i.nd rfl (by first|exact Or.inl rfl|exact Or.inr rfl)) (i5 (i4 (i:=8) a0i.nd rfl (by first|exact Or.inl rfl|exact Or.inr rfl)) a1i)))))))))
   (d7 (v9 (i6 (b0d (K:=K)) (pv 2) (a3t T.r_TAKER_STAGES rfl) (by with_unfolding_all rfl))
     (g0 (j4 a5b))
     k7)
   (d7 (v9 (PW.pt (a4t (a4b (a2d (l8 G_turn_fits hr (by decide) rfl j8 (d5 (pv 0) (d5 (pv 2) (d5 (pv 3) d6)))))) (a1u (a4b (a2d (l8 G_turn_fits hr (by decide) rfl j8 (d5 (pv 0) (d5 (pv 2) (d5 (pv 5) d6)))))))))
     (g0 (j4 a5b))
     k7)
   (d7 (v9 (PW.pt (a4t (a4b (a2d (l8 G_marks_fit hr (by decide) rfl j8 (d5 (pv 0) (d5 (pv 2) (d5 (pv 4) d6)))))) (a1u (a4b (a2d (l8 G_reading_fits hr (by decide) rfl j8 (d5 (pv 2) (d5 (pv 6) (d5 (pv 7) d6)))))))))
     (g0 (j4 a5b))
     k7)
   (g0 (j4 (l8 G_parts_fit hr (by decide) rfl j8 (d5 (pv 0) (d5 (pv 2) (d5 (pv 3) (d5 (pv 5) (d5 (pv 8) d6)))))))))))),?_⟩
  fail "";refine c1l ea rfl ?_;fail "";refine c1m (xs:=tkU) T.kt_TAKER_STAGES.sq ?_;fail "";refine a2s (λz=>?_) (λz=>?_)
  ·fail ""
   exact k.f λq=>z q.st
  fail "";refine⟨n,t.st,t.he,rfl,n8,λb1 H1 e1 s1=>?_⟩;fail "";cases b1
  ·fail ""
   exact(k.on s1).f λq=>by cases e1.mpr q.tf
  fail "";refine⟨n,t.st,t.nf,rfl,n8,λb2 H2 e2 s2=>?_⟩;have s02:=s1.trans s2;fail "";cases b2
  ·fail ""
   exact(k.on s02).f λq=>by cases e2.mpr q.nf
  fail "";refine⟨n,t.st,m,t.ms,rfl,n8,s02 _ _ em,lz,λb3 H3 e3 s3=>?_⟩;have s03:=s02.trans s3;fail "";cases b3
  ·fail ""
   exact(k.on s03).f λq=>by cases e3.mpr q.mf
  fail "";refine⟨t.st,t.nu,t.le,rfl,λb4 H4 e4 s4=>?_⟩;have s04:=s03.trans s4;fail "";cases b4
  ·fail ""
   exact(k.on s04).f λq=>by cases e4.mpr q.rf
  fail "";refine⟨n,t,p,rfl,n2,n8,s04 _ _ ep,e1.mp rfl,e2.mp rfl,λb5 H5 e5 s5=>k b5 H5 ?_ (s04.trans s5)⟩;exact⟨λq=>⟨z,e1.mp rfl,e2.mp rfl,e3.mp rfl,e4.mp rfl,e5.mp q⟩,λq=>e5.mpr q.pf⟩
def d0z(n:Nat)(o:List Int):Prop:=1<=o.length/\o.length<=n
def b4w(n:Nat)(os:List (List Int)):Prop:=∀o∈os,1<=o.length/\o.length<=n
def b2r(cl:Cl):Sp:=λvs H Q E=>∃(n:Nat)(a:Addr)(o:List Int),vs=[.int n,.ref a]/\H a=some (.tup (o.map V.int))/\(d0z n o->∀p,H p=none->Q (.ref p) (upd H p (.lst (o.map V.int))))/\(¬ d0z n o->E (.ref cl.BadOrder) none H)
abbrev a4z:Stmt:=top 86
theorem b2z:i8 ["size","order"] ["size","order"] (g6 a4z):=↑1
theorem b9z(D:DefT K mg "order_of" a4z ["size","order"])(T:Txt K mg cl):FnT P w K mg base "order_of" 1 ["size","order"] (b2r cl):=by
 refine D.fn b2z (λvs H Q E h=>?_) (λf cdv A' outer s H vs Q E hr h=>?_)
 ·obtain⟨n,a,o,rfl,_⟩:=h
  rfl
 ·obtain⟨n,a,o,rfl,ea,k,kb⟩:=h
  refine⟨_,(d7 (v9 (PW.pt (a4t (i6 a1w (j6 (j5 (K:=K)) (by rfl) T.z_len PySem.boot_len (d5 (pv 1) d6)) d9 (i7 _)) (a1u (i6 b3j (j6 (j5 (K:=K)) (by rfl) T.z_len PySem.boot_len (d5 (pv 1) d6)) (pv 0) (i7 _)))))
     (g0 (a1c T.c_BadOrder rfl rfl a7o (d5 i9 d6)))
     k7)
   (g0 (j4 (l0 (a0d (K:=K)) (by rfl) T.z_list PyProof.Rows.boot_list (d5 (pv 1) d6))))),?_⟩
  fail "";rw[List.length_map];refine x8 (λy=>?_) (λy1=>?_)
  ·fail ""
   exact⟨x0,kb (λz=>by have:=z.1;lia)⟩
  fail "";rw[List.length_map];refine x8 (λy=>?_) (λy2=>?_)
  ·fail ""
   exact⟨x0,kb (λz=>by have:=z.2;lia)⟩
  fail "";exact k ⟨by lia,by lia⟩
def b1k(cl:Cl):Sp:=λvs H Q E=>∃(n:Nat)(a:Addr)(os:List (List Int)),vs=[.int n,.ref a]/\TTs H a os/\os.length<=200000/\(b4w n os->∀p H',Same H H'->Q (.ref p) H')/\(¬ b4w n os->∀H',Same H H'->E (.ref cl.BadOrder) none H')
abbrev a3o:Stmt:=top 87
theorem b1u:i8 ["size","orders"] ["size","orders"] (g6 a3o):=↑1
theorem b8i(D:DefT K mg "orders_of" a3o ["size","orders"])(T:Txt K mg cl)(G_order_of:FnT P w K mg base "order_of" 1 ["size","order"] (b2r cl)):FnT P w K mg base "orders_of" 2 ["size","orders"] (b1k cl):=by
 refine D.fn b1u (λvs H Q E h=>?_) (λf cdv A' outer s H vs Q E hr h=>?_)
 ·obtain⟨n,a,os,rfl,_⟩:=h
  rfl
 ·obtain⟨n,a,os,rfl,⟨ps,ea,hl,hr'⟩,hz,k,kb⟩:=h
  refine⟨_,(g0 (j4 (c6s rfl (N:=["order","size"]) (nt:=1) (fr:=[0]) rfl (a3f (i:=0) rfl rfl (by decide +kernel) (by decide +kernel) rfl rfl rfl rfl rfl rfl rfl) (a2j (K:=K) (pv 1)) (z9 (by decide)) (λ_ _ _ _ _=>i4 (i:=0) (show(["order","size"]:List Str).Nodup by decide +kernel) rfl (Or.inl rfl) (Or.inr rfl)) (λ_ _ _ _ _=>(l8 G_order_of hr (by decide) rfl d4n (d5 (pv 1) (d5 (pv 0) d6))))))),?_⟩
  have lm:=a3a;fail "";refine a5e (SqT.of ea) ?_;refine a2t (xs:=ps.map V.ref) (by rw[List.length_map];lia) (λD i acc H'=>H' D=some (.lst acc)/\Same H H'/\acc.length=i/\i<=os.length/\∀o∈os.take i,d0z n o) (λD hD=>⟨d8,i3 hD,rfl,Nat.zero_le _,by simp⟩) (λD i acc H' p=>⟨p.1,p.2.2.1,SqT.of (p.2.1 _ _ ea)⟩) ?_ ?_
  ·rintro D i x acc H' hD hx ⟨e,s',la,li,g⟩
   obtain⟨q,hq,rfl⟩:=b1c hx;have hi:i<os.length:=by rw[<- hl];exact(List.getElem?_eq_some_iff.mp hq).1
   have hoi:=List.getElem?_eq_getElem hi;have eq:=s' _ _ (hr' i q _ hq hoi);fail "";refine⟨n,q,_,rfl,eq,λhg p hp=>?_,λhb=>kb (λz=>hb (z _ (List.getElem_mem hi))) _ s'⟩;refine⟨i3 hp _ _ e,d8,((s'.trans (i3 hp)).set hD),by rw[List.length_append,la];rfl,hi,?_⟩
   intro o ho;rw[List.take_add_one,hoi] at ho;rcases List.mem_append.mp ho with ho|ho
   ·exact g o ho
   ·have:o=os[i]:=by simpa using ho
    rw[this];exact hg
  ·rintro D acc H' hD ⟨e,s',la,li,g⟩
   rw[List.length_map,hl,List.take_length] at g;exact k (λo ho=>g o ho) D H' s'
structure Sd where
 n:Nat
 c:List Int
 g:GSd
 t:TSd
 os:List (List Int)
 bk:List (List Int)
structure a5g(x:Sd):Prop where
 c:GoodRow x.n x.c
 g:c7p x.n x.os x.g
 t:c7o x.n x.t
 os:b4w x.n x.os
 bk:b4w x.n x.bk
def ST(H:Hp)(a:Addr)(x:Sd):Prop:=∃c g t o b,H a=some (.tup [.ref c,.ref g,.ref t,.ref o,.ref b])/\H c=some (.tup (x.c.map V.int))/\GT H g x.g/\TT H t x.t/\TTs H o x.os/\TTs H b x.bk
theorem ST.same{H H':Hp}{a:Addr}{x:Sd}(h:ST H a x)(s:Same H H'):ST H' a x:=by
 obtain⟨c,g,t,o,b,e,e1,e2,e3,e4,e5⟩:=h;exact⟨c,g,t,o,b,s _ _ e,s _ _ e1,e2.same s,e3.same s,e4.same s,e5.same s⟩
def d6p(row:List Int)(os bk:List (List Int))(n:Nat):Prop:=GoodRow n row/\b4w n os/\b4w n bk
def a6a(cl:Cl):Sp:=λvs H Q E=>∃(c o b:Addr)(row:List Int)(os bk:List (List Int)),vs=[.ref c,.ref o,.ref b]/\H c=some (.tup (row.map V.int))/\TTs H o os/\TTs H b bk/\os.length<=200000/\bk.length<=200000/\(∀n,d6p row os bk n->∀H',Same H H'->Q (.int n) H')/\((¬ ∃n,d6p row os bk n)->∀H',Same H H'->E (.ref cl.BadStand) (some 0) H')
abbrev a3m:Stmt:=top 124
theorem a6g:i8 ["cells","orders","book","size"] ["cells","orders","book"] (g6 a3m):=↑1
theorem b2b(D:DefT K mg "size_of_stand" a3m ["cells","orders","book"])(T:Txt K mg cl)(xc:exmAny K (.ref cl.BadCells) [.ref cl.BadCells,.ref cl.BadOrder]=some true)(xo:exmAny K (.ref cl.BadOrder) [.ref cl.BadCells,.ref cl.BadOrder]=some true)(G_size_of_cells:FnT P w K mg base "size_of_cells" 5 ["cells"] (a2v cl))(G_orders_of:FnT P w K mg base "orders_of" 2 ["size","orders"] (b1k cl)):FnT P w K mg base "size_of_stand" 6 ["cells","orders","book"] (a6a cl):=by
 refine D.fn a6g (λvs H Q E h=>?_) ↑4
 ·obtain⟨c,o,b,row,os,bk,rfl,_⟩:=h
  rfl
 ·obtain⟨c,o,b,row,os,bk,rfl,ec,to,tb,lo,lb,k,kb⟩:=h
  refine'⟨_,(d7 (c6m rfl rfl rfl rfl rfl T.c_BadCells.m T.c_BadOrder.m T.c_BadStand.m T.c_BadStand.k.ex ?tb)
   (g0 (j4 (pv 3)))),?rd⟩
  case tb=>exact λ_ _ _ hx=>(d7 (j7 (i:=3) a6g.nd rfl (by first|exact Or.inl rfl|exact Or.inr rfl) (b5b G_size_of_cells hr (by decide) rfl hx (d5 (pv 0) d6)))
     (d7 (z8 (b5b G_orders_of hr (by decide) rfl hx (d5 (pv 3) (d5 (pv 1) d6))))
     (g0 (z8 (b5b G_orders_of hr (by decide) rfl hx (d5 (pv 3) (d5 (pv 2) d6)))))))
  case rd=>
   fail "";refine d0d ?_;fail "";refine⟨c,row,rfl,ec,?_⟩;by_cases gr:∃n,GoodRow n row
   ·obtain⟨n,gr⟩:=gr
    refine .inl ⟨n,gr,λH1 s1=>?_⟩;fail "";refine⟨n,o,os,rfl,to.same s1,lo,λg1 p2 H2 s2=>?_,λg1 H2 s2=>⟨rfl,xo,kb (λz=>?_) _ (s1.trans s2)⟩⟩
    ·fail ""
     refine⟨n,b,bk,rfl,(tb.same s1).same s2,lb,λg2 p3 H3 s3=>?_,λg2 H3 s3=>⟨rfl,xo,kb (λz=>?_) _ ((s1.trans s2).trans s3)⟩⟩
     ·fail ""
      exact k n ⟨gr,g1,g2⟩ _ ((s1.trans s2).trans s3)
     ·obtain⟨m,z⟩:=z
      have:=z.1.one gr.len;subst this;exact g2 z.2.2
    ·obtain⟨m,z⟩:=z
     have:=z.1.one gr.len;subst this;exact g1 z.2.1
   ·exact .inr ⟨gr,λH1 s1=>⟨rfl,xc,kb (λz=>gr (z.imp λ_ q=>q.1)) _ s1⟩⟩
def a4j(cl:Cl):Sp:=λvs H Q E=>∃(a:Addr)(x:Sd),vs=[.ref a]/\ST H a x/\x.n=x.c.length / 4-1/\x.os.length<=200000/\x.bk.length<=200000/\x.g.ms.length<=100000/\x.t.ms.length<=100000/\(a5g x->∀H',Same H H'->Q .non H')/\(¬ a5g x->∀o H',Same H H'->E (.ref cl.BadStand) o H')
abbrev a5r:Stmt:=top 132
theorem a0l:i8 ["stand","cells","giver","taker","orders","book","size"] ["stand"] (g6 a5r):=↑1
theorem b4u(D:DefT K mg "check_stand" a5r ["stand"])(T:Txt K mg cl)(G_size_of_stand:FnT P w K mg base "size_of_stand" 6 ["cells","orders","book"] (a6a cl))(G_giver_fits:FnT P w K mg base "giver_fits" 2 ["size","mind","orders"] a9l)(G_taker_fits:FnT P w K mg base "taker_fits" 5 ["size","mind"] a9j):FnT P w K mg base "check_stand" 7 ["stand"] (a4j cl):=by
 refine D.fn a0l (λvs H Q E h=>?_) ↑4
 ·obtain⟨a,x,rfl,_⟩:=h
  rfl
 ·obtain⟨a,x,rfl,⟨c,g,t,o,b,ea,ec,eg,et,eo,eb⟩,en,lo,lb,lg,lt,k,kb⟩:=h
  refine⟨_,(d7 (a1l (pv 0) (a1j (K:=K) rfl (i5 (i4 (i:=1) a0l.nd rfl (by first|exact Or.inl rfl|exact Or.inr rfl)) (i5 (i4 (i:=2) a0l.nd rfl (by first|exact Or.inl rfl|exact Or.inr rfl)) (i5 (i4 (i:=3) a0l.nd rfl (by first|exact Or.inl rfl|exact Or.inr rfl)) (i5 (i4 (i:=4) a0l.nd rfl (by first|exact Or.inl rfl|exact Or.inr rfl)) (i5 (i4 (i:=5) a0l.nd rfl (by first|exact Or.inl rfl|exact Or.inr rfl)) a1i)))))))
   (d7 (j7 (i:=6) a0l.nd rfl (by first|exact Or.inl rfl|exact Or.inr rfl) (l8 G_size_of_stand hr (by decide) rfl j8 (d5 (pv 1) (d5 (pv 4) (d5 (pv 5) d6)))))
   (d7 (v9 (a4b (a2d (l8 G_giver_fits hr (by decide) rfl j8 (d5 (pv 6) (d5 (pv 2) (d5 (pv 4) d6))))))
     (g0 (a1c T.c_BadStand rfl rfl a7o (d5 i9 d6)))
     k7)
   (g0 (v9 (a4b (a2d (l8 G_taker_fits hr (by decide) rfl j8 (d5 (pv 6) (d5 (pv 3) d6)))))
    (g0 (a1c T.c_BadStand rfl rfl a7o (d5 i9 d6)))
    k7))))),?_⟩
  fail "";refine b0m ea rfl ?_;fail "";refine⟨c,o,b,x.c,x.os,x.bk,rfl,ec,eo,eb,lo,lb,λn st H1 s1=>?_,λns H1 s1=>kb (λz=>ns ⟨x.n,z.c,z.os,z.bk⟩) _ _ s1⟩;have e:n=x.n:=by
   have:=st.1.len;lia
  subst e;fail "";refine⟨x.n,g,o,x.g,x.os,rfl,st.1.n8,eg.same s1,eo.same s1,lg,λb1 H2 e1 s2=>?_⟩;fail "";cases b1
  ·fail ""
   exact⟨x0,kb (λz=>by cases e1.mpr z.g) _ _ (s1.trans s2)⟩
  fail "";refine⟨x.n,t,x.t,rfl,st.1.n2,st.1.n8,(et.same s1).same s2,lt,λb2 H3 e2 s3=>?_⟩;fail "";cases b2
  ·fail ""
   exact⟨x0,kb (λz=>by cases e2.mpr z.t) _ _ ((s1.trans s2).trans s3)⟩
  fail "";exact k ⟨st.1,e1.mp rfl,e2.mp rfl,st.2.1,st.2.2⟩ _ ((s1.trans s2).trans s3)
theorem a1z{n:Int}(h:n.natAbs<10 ^ 60):n.natAbs.log2<1920:=by
 by_cases z:n.natAbs=0
 ·rw[z];decide
 ·exact(Nat.log2_lt z).mpr (Nat.lt_of_lt_of_le h (Nat.le_trans (show 10 ^ 60<=2 ^ 200 by decide) (Nat.pow_le_pow_right (by decide) (by decide))))
def c5v(ns:List Int):Prop:=∀n∈ns,n.natAbs<10 ^ 60
def a6m:Sp:=λvs H Q _=>∃(a:Addr)(ns:List Int),vs=[.ref a]/\H a=some (.tup (ns.map V.int))/\ns.length<=1000/\c5v ns/\∀H',Same H H'->Q (.str (c6j ns)) H'
abbrev a4l:Stmt:=top 138
theorem b3a:i8 ["numbers"] ["numbers"] (g6 a4l):=↑1
theorem b3m(D:DefT K mg "numbers_text" a4l ["numbers"])(T:Txt K mg cl):FnT P w K mg base "numbers_text" 1 ["numbers"] a6m:=by
 refine D.fn b3a (λvs H Q E h=>?_) ↑4
 ·obtain⟨a,ns,rfl,_⟩:=h
  rfl
 ·obtain⟨a,ns,rfl,ea,hl,hs,k⟩:=h
  refine⟨_,(g0 (j4 (a4c (K:=K) i9 (d5 (a1k (N:=["number"]) (nt:=1) (fr:=[]) rfl (a0w rfl rfl (by decide +kernel) (by decide +kernel) rfl rfl) (a2j (K:=K) (pv 0)) (z9 (by decide)) (λ_ _ _ _ _=>i4 (i:=0) (show(["number"]:List Str).Nodup by decide +kernel) rfl (Or.inl rfl) (Or.inr rfl)) (λ_ _ _ _ _=>(l0 a4g (by rfl) T.z_str PyProof.Rows.boot_str (d5 (pv 0) d6)))) d6)))),?_⟩
  have lm:=a3a;fail "";refine a5e (SqT.of ea) ?_;refine a2t (xs:=ns.map V.int) (by rw[List.length_map];lia) (MpP H ns (λx=>V.str (b0p x)) (λ_=>True)) (λD hD=>MpP.new hD) (λD i acc H' p=>⟨p.len.1,p.len.2,SqT.of (p.2.1 _ _ ea)⟩) ?_ ?_
  ·intro D i x acc H' hD hx hp
   obtain⟨y,hy,rfl⟩:=b1c hx;fail "";exact⟨y,rfl,a1z (hs y (List.mem_of_getElem? hy)),hp.step hD hy trivial rfl (Same.refl _)⟩
  ·intro D acc H' hD hp
   obtain⟨e,s',_⟩:=hp.done (List.length_map _);fail "";have w1:=b2l hs;refine b1d a5d (ss:=ns.map b0p) (e.trans (by rw[List.map_map];rfl)) (by lia) ?_
   exact k _ s'
def b1z:Hr->Str|.non=>"none"|.int i=>b0p i
def d0y:Hr->Prop|.non=>True|.int i=>i.natAbs<10 ^ 60
def b1h:Sp:=λvs H Q _=>∃he:Hr,vs=[he.v]/\d0y he/\Q (.str (b1z he)) H
abbrev a8p:Stmt:=top 139
theorem b7m:i8 ["turn"] ["turn"] (g6 a8p):=↑1
theorem b8e(D:DefT K mg "turn_text" a8p ["turn"])(T:Txt K mg cl):FnT P w K mg base "turn_text" 1 ["turn"] b1h:=by
 refine D.fn b7m (λvs H Q E h=>?_) ↑4
 ·obtain⟨he,rfl,_⟩:=h
  rfl
 ·obtain⟨he,rfl,ht,k⟩:=h
  refine⟨_,(g0 (j4 (a5u (i6 c1e (pv 0) a2z (i7 _)) (c4a T.m_NO_TURN_WORD rfl) (l0 a4g (by rfl) T.z_str PyProof.Rows.boot_str (d5 (pv 0) d6))))),?_⟩
  fail "";cases he with
  | non=>
   refine⟨rfl,true,rfl,?_⟩;fail "";exact k
  | int i=>
   refine⟨rfl,false,rfl,?_⟩;fail "";exact⟨i,rfl,a1z ht,k⟩
open Classical in
noncomputable def ordT(os:List (List Int)):Str:=if os=[] then "-" else Txt.join "; " (os.map c6j)
def b5j(os:List (List Int)):Prop:=os.length<=300/\∀o∈os,o.length<=8/\c5v o
theorem c9f{o:List Int}(h:o.length<=8/\c5v o):(c6j o).length<=500:=by
 have:=c4p a5d (o.map b0p);have:=b2l h.2;show(Txt.join " " (o.map b0p)).length<=_;lia
theorem c4d{os:List (List Int)}(h:b5j os):wt (os.map c6j)<=501*os.length:=by
 have h2:=h.2;clear h
 induction os with
 | nil=>exact Nat.le_refl _
 | cons x r ih=>
  rw[List.map_cons,a3h,List.length_cons];have:=ih λo ho=>h2 o (List.mem_cons_of_mem _ ho);have:=c9f (h2 x List.mem_cons_self);lia
def a2n:Sp:=λvs H Q _=>∃(a:Addr)(os:List (List Int)),vs=[.ref a]/\TTs H a os/\b5j os/\∀H',Same H H'->Q (.str (ordT os)) H'
abbrev a5n:Stmt:=top 140
theorem b4k:i8 ["orders"] ["orders"] (g6 a5n):=↑1
theorem b4q(D:DefT K mg "orders_text" a5n ["orders"])(T:Txt K mg cl)(G_numbers_text:FnT P w K mg base "numbers_text" 1 ["numbers"] a6m):FnT P w K mg base "orders_text" 2 ["orders"] a2n:=by
 refine D.fn b4k (λvs H Q E h=>?_) ↑4
 ·obtain⟨a,os,rfl,_⟩:=h
  rfl
 ·obtain⟨a,os,rfl,⟨ps,ea,hl,ep⟩,ht,k⟩:=h
  refine⟨_,(d7 (v9 (i6 a0q (j6 (j5 (K:=K)) (by rfl) T.z_len PySem.boot_len (d5 (pv 0) d6)) d9 (i7 _))
     (g0 (j4 (c4a T.m_NO_ORDERS_WORD rfl)))
     k7)
   (g0 (j4 (a4c (K:=K) i9 (d5 (a1k (N:=["order"]) (nt:=1) (fr:=[]) rfl (a0w rfl rfl (by decide +kernel) (by decide +kernel) rfl rfl) (a2j (K:=K) (pv 0)) (z9 (by decide)) (λ_ _ _ _ _=>i4 (i:=0) (show(["order"]:List Str).Nodup by decide +kernel) rfl (Or.inl rfl) (Or.inr rfl)) (λ_ _ _ _ _=>(l8 G_numbers_text hr (by decide) rfl b4o (d5 (pv 0) d6)))) d6))))),?_⟩
  have lm:=a3a;have ht1:=ht.1;fail "";rw[List.length_map,hl];refine x8 (λz=>?_) (λz=>?_)
  ·fail ""
   have e:os=[]:=List.length_eq_zero_iff.mp (by have:=V.int.inj z;lia)
   have:=k H (Same.refl H);unfold ordT at this;rw[if_pos e] at this;exact this
  ·have ne:os≠[]:=λq=>z (by rw[q];rfl)
   fail "";refine a5e (SqT.of ea) ?_;refine a2t (xs:=ps.map V.ref) (by rw[List.length_map];lia) (MpP H os (λo=>V.str (c6j o)) (λ_=>True)) (λD hD=>MpP.new hD) (λD i acc H' p=>⟨p.len.1,p.len.2,SqT.of (p.2.1 _ _ ea)⟩) ?_ ?_
   ·intro D i x acc H' hD hx hp
    obtain⟨q,hq,rfl⟩:=b1c hx;have hi:i<os.length:=by rw[<- hl];exact(List.getElem?_eq_some_iff.mp hq).1
    have hoi:=List.getElem?_eq_getElem hi;have go:=ht.2 _ (List.getElem_mem hi);fail "";exact⟨q,_,rfl,hp.2.1 _ _ (ep i q _ hq hoi),by lia,go.2,λH3 s3=>hp.step hD hoi trivial rfl s3⟩
   ·intro D acc H' hD hp
    obtain⟨e,s',_⟩:=hp.done (by rw[List.length_map];exact hl)
    fail "";have w1:=c4d ht;refine c5d b5l (ss:=os.map c6j) (e.trans (by rw[List.map_map];rfl)) (by lia) ?_
    have:=k H' s';unfold ordT at this;rw[if_neg ne] at this;exact this
def a5a(v:Str)(ns:List Int):Str:=Txt.join " " (v::ns.map b0p)
def b2q:Sp:=λvs H Q _=>∃(v:Str)(a:Addr)(ns:List Int),vs=[.str v,.ref a]/\v.length<=100/\H a=some (.tup (ns.map V.int))/\ns.length<=1000/\c5v ns/\∀H',Same H H'->Q (.str (a5a v ns)) H'
abbrev b0r:Stmt:=top 141
theorem b9s:i8 ["word","numbers"] ["word","numbers"] (g6 b0r):=↑1
theorem b9y(D:DefT K mg "row_text" b0r ["word","numbers"])(T:Txt K mg cl):FnT P w K mg base "row_text" 1 ["word","numbers"] b2q:=by
 refine D.fn b9s (λvs H Q E h=>?_) ↑4
 ·obtain⟨v,a,ns,rfl,_⟩:=h
  rfl
 ·obtain⟨v,a,ns,rfl,lv,ea,hl,hs,k⟩:=h
  refine⟨_,(g0 (j4 (a4c (K:=K) i9 (d5 (j3 a4f (l7 (d5 (pv 0) d6)) (a1k (N:=["number"]) (nt:=1) (fr:=[]) rfl (a0w rfl rfl (by decide +kernel) (by decide +kernel) rfl rfl) (a2j (K:=K) (pv 1)) (z9 (by decide)) (λ_ _ _ _ _=>i4 (i:=0) (show(["number"]:List Str).Nodup by decide +kernel) rfl (Or.inl rfl) (Or.inr rfl)) (λ_ _ _ _ _=>(l0 a4g (by rfl) T.z_str PyProof.Rows.boot_str (d5 (pv 0) d6))))) d6)))),?_⟩
  have lm:=a3a;fail "";refine⟨by show 1<=sizeLine;lia,λq hq=>?_⟩
  have ea1:upd H q (.lst [.str v]) a=_:=i3 hq _ _ ea;have eq1:upd H q (.lst [.str v]) q=_:=d8;have s1:Same H (upd H q (.lst [.str v])):=i3 hq;generalize upd H q (.lst [.str v])=H1 at ea1 eq1 s1 ⊢;fail "";refine a5e (SqT.of ea1) ?_;refine a2t (xs:=ns.map V.int) (by rw[List.length_map];lia) (MpP H1 ns (λx=>V.str (b0p x)) (λ_=>True)) (λD hD=>MpP.new hD) (λD i acc H' p=>⟨p.len.1,p.len.2,SqT.of (p.2.1 _ _ ea1)⟩) ?_ ?_
  ·intro D i x acc H' hD hx hp
   obtain⟨y,hy,rfl⟩:=b1c hx;fail "";exact⟨y,rfl,a1z (hs y (List.mem_of_getElem? hy)),hp.step hD hy trivial rfl (Same.refl _)⟩
  ·intro D acc H' hD hp
   obtain⟨e,s',_⟩:=hp.done (List.length_map _);have s':Same H1 H':=s';fail "";refine b4d (s' _ _ eq1) e (by rw[List.length_map];show 1+_<=_;lia) (λu hu=>?_)
   fail "";have w1:=b2l hs;refine b1d a5d (ss:=v::ns.map b0p) (d8.trans (by rw[List.map_cons,List.map_map];rfl)) (by rw[a3h];lia) ?_
   exact k _ ((s1.trans s').trans (i3 hu))
theorem c8c:("\n":Str).length=1:=rfl
def c4z(g:GSd):Str:=Txt.join " " [("giver":Str),g.st,b1z g.he,b0p g.od,b0p g.pt]
def c5y(t:TSd):Str:=Txt.join " " [("taker":Str),t.st,b1z t.he,b1z t.nf,b0p t.nu,b0p t.le]
noncomputable def rowsS(x:Sd):List Str:=[a5a "cells" x.c,c4z x.g,a5a "marks" x.g.ms,c5y x.t,a5a "marks" x.t.ms,a5a "parts" x.t.pa,("orders ":Str)++ordT x.os,("book ":Str)++ordT x.bk]
noncomputable def standT(x:Sd):Str:=Txt.join "\n" (rowsS x)
theorem b9f:(" ":Str).cps.toList=32::[]:=rfl
theorem c4y(g:GSd):Str.empty++("giver ":Str)++g.st++(" ":Str)++b1z g.he++(" ":Str)++b0p g.od++(" ":Str)++b0p g.pt=c4z g:=by
 refine b9r ?_;unfold c4z;rw[c1j b9f];simp only[a5f,List.map_cons,List.map_nil,c4q,List.append_assoc,List.nil_append]
 rfl
theorem c3d(t:TSd):Str.empty++("taker ":Str)++t.st++(" ":Str)++b1z t.he++(" ":Str)++b1z t.nf++(" ":Str)++b0p t.nu++(" ":Str)++b0p t.le=c5y t:=by
 refine b9r ?_;unfold c5y;rw[c1j b9f];simp only[a5f,List.map_cons,List.map_nil,c4q,List.append_assoc,List.nil_append]
 rfl
theorem b9e(x:Str):Str.empty++x=x:=by
 refine b9r ?_;rw[a5f]
 rfl
theorem a8d{os:List (List Int)}(h:b5j os)(l:os.length<=10):(ordT os).length<=11000:=by
 unfold ordT;split
 ·decide
 ·have:=c6x b5l (os.map c6j)
  have:=c4d h;lia
theorem a4u{he:Hr}(h:d0y he):(b1z he).length<=61:=by
 cases he with
 | non=>decide
 | int i=>exact a1y h
theorem a2r{v:Str}{ns:List Int}(lv:v.length<=10)(l:ns.length<=100)(h:c5v ns):(a5a v ns).length<=7000:=by
 unfold a5a;have:=c4p a5d (v::ns.map b0p);rw[a3h] at this;have:=b2l h;lia
structure d1c(x:Sd):Prop where
 c:c5v x.c
 gs:x.g.st.length<=10
 gh:d0y x.g.he
 gm:c5v x.g.ms
 gl:x.g.ms.length<=100
 go:x.g.od.natAbs<10 ^ 60
 gp:x.g.pt.natAbs<10 ^ 60
 ts:x.t.st.length<=10
 th:d0y x.t.he
 tm:c5v x.t.ms
 tl:x.t.ms.length<=100
 tf:d0y x.t.nf
 tn:x.t.nu.natAbs<10 ^ 60
 te:x.t.le.natAbs<10 ^ 60
 tp:c5v x.t.pa
 tq:x.t.pa.length<=100
 os:b5j x.os
 ol:x.os.length<=10
 bk:b5j x.bk
 bl:x.bk.length<=10
theorem nwS{H H':Hp}{p:Addr}{o:HO}(u:upd H p o=H')(h:H p=none):Same H H'/\H' p=some o:=by subst u;exact⟨i3 h,d8⟩
theorem b3d{H H7:Hp}{l:Addr}{o:HO}(s:Same H H7)(h:H l=none):Same H (upd H7 l o):=λa v e=>by
 have n:a≠l:=λz=>by rw[z,h] at e;cases e
 rw[f9 n];exact s _ _ e
theorem lit{k:St->Hp->Prop}{σ:St}(τ:St){H:Hp}(e:σ=τ)(q:k τ H):k σ H:=e ▸ q
def a9k(cl:Cl):Sp:=λvs H Q E=>∃(a:Addr)(x:Sd),vs=[.ref a]/\ST H a x/\x.n=x.c.length / 4-1/\x.os.length<=200000/\x.bk.length<=200000/\x.g.ms.length<=100000/\x.t.ms.length<=100000/\(a5g x->d1c x/\∀H',Same H H'->Q (.str (standT x)) H')/\(¬ a5g x->∀o H',Same H H'->E (.ref cl.BadStand) o H')
abbrev a7a:Stmt:=top 142
theorem j9:i8 ["stand","cells","giver","taker","orders","book","stage","turn","marks","order","part","giver_row","taker_stage","taker_turn","taker_marks","first","number","left","parts","taker_row","rows"] ["stand"] (g6 a7a):=↑1
theorem b6i(D:DefT K mg "stand_text" a7a ["stand"])(T:Txt K mg cl)(G_check_stand:FnT P w K mg base "check_stand" 7 ["stand"] (a4j cl))(G_turn_text:FnT P w K mg base "turn_text" 1 ["turn"] b1h)(G_row_text:FnT P w K mg base "row_text" 1 ["word","numbers"] b2q)(G_orders_text:FnT P w K mg base "orders_text" 2 ["orders"] a2n):FnT P w K mg base "stand_text" 8 ["stand"] (a9k cl):=by
 refine D.fn j9 (λvs H Q E h=>?_) ↑4
 ·obtain⟨a,x,rfl,_⟩:=h
  rfl
 ·obtain⟨a,x,rfl,st,en,z1,z2,z3,z4,k,kb⟩:=h
  refine⟨_,(d7 (z8 (l8 G_check_stand hr (by decide) rfl j8 (d5 (pv 0) d6)))
   (d7 (a1l (pv 0) (a1j (K:=K) rfl (i5 (i4 (i:=1) j9.nd rfl (by first|exact Or.inl rfl|exact Or.inr rfl)) (i5 (i4 (i:=2) j9.nd rfl (by first|exact Or.inl rfl|exact Or.inr rfl)) (i5 (i4 (i:=3) j9.nd rfl (by first|exact Or.inl rfl|exact Or.inr rfl)) (i5 (i4 (i:=4) j9.nd rfl (by first|exact Or.inl rfl|exact Or.inr rfl)) (i5 (i4 (i:=5) j9.nd rfl (by first|exact Or.inl rfl|exact Or.inr rfl)) a1i)))))))
   (d7 (a1l (pv 2) (a1j (K:=K) rfl (i5 (i4 (i:=6) j9.nd rfl (by first|exact Or.inl rfl|exact Or.inr rfl)) (i5 (i4 (i:=7) j9.nd rfl (by first|exact Or.inl rfl|exact Or.inr rfl)) (i5 (i4 (i:=8) j9.nd rfl (by first|exact Or.inl rfl|exact Or.inr rfl)) (i5 (i4 (i:=9) j9.nd rfl (by first|exact Or.inl rfl|exact Or.inr rfl)) (i5 (i4 (i:=10) j9.nd rfl (by first|exact Or.inl rfl|exact Or.inr rfl)) a1i)))))))
   (d7 (j7 (i:=11) j9.nd rfl (by first|exact Or.inl rfl|exact Or.inr rfl) (b6f (a7r (a7q (pv 6) (a7r (a7q (l8 G_turn_text hr (by decide) rfl j8 (d5 (pv 7) d6)) (a7r (a7q (pv 9) (a7r (a7q (pv 10) c0z))))))))))
   (d7 (a1l (pv 3) (a1j (K:=K) rfl (i5 (i4 (i:=12) j9.nd rfl (by first|exact Or.inl rfl|exact Or.inr rfl)) (i5 (i4 (i:=13) j9.nd rfl (by first|exact Or.inl rfl|exact Or.inr rfl)) (i5 (i4 (i:=14) j9.nd rfl (by first|exact Or.inl rfl|exact Or.inr rfl)) (i5 (i4 (i:=15) j9.nd rfl (by first|exact Or.inl rfl|exact Or.inr rfl)) (i5 (i4 (i:=16) j9.nd rfl (by first|exact Or.inl rfl|exact Or.inr rfl)) (i5 (i4 (i:=17) j9.nd rfl (by first|exact Or.inl rfl|exact Or.inr rfl)) (i5 (i4 (i:=18) j9.nd rfl (by first|exact Or.inl rfl|exact Or.inr rfl)) a1i)))))))))
   (d7 (j7 (i:=19) j9.nd rfl (by first|exact Or.inl rfl|exact Or.inr rfl) (b6f (a7r (a7q (pv 12) (a7r (a7q (l8 G_turn_text hr (by decide) rfl j8 (d5 (pv 13) d6)) (a7r (a7q (l8 G_turn_text hr (by decide) rfl j8 (d5 (pv 15) d6)) (a7r (a7q (pv 16) (a7r (a7q (pv 17) c0z))))))))))))
   (d7 (j7 (i:=20) j9.nd rfl (by first|exact Or.inl rfl|exact Or.inr rfl) (l7 (d5 (l8 G_row_text hr (by decide) rfl j8 (d5 i9 (d5 (pv 1) d6))) (d5 (pv 11) (d5 (l8 G_row_text hr (by decide) rfl j8 (d5 i9 (d5 (pv 8) d6))) (d5 (pv 19) d6))))))
   (d7 (c7y (i:=20) j9.nd rfl (by first|exact Or.inl rfl|exact Or.inr rfl) (l7 (d5 (l8 G_row_text hr (by decide) rfl j8 (d5 i9 (d5 (pv 14) d6))) (d5 (l8 G_row_text hr (by decide) rfl j8 (d5 i9 (d5 (pv 18) d6))) d6))) c8e)
   (d7 (c7y (i:=20) j9.nd rfl (by first|exact Or.inl rfl|exact Or.inr rfl) (l7 (d5 (b6f (a7r (a7q (l8 G_orders_text hr (by decide) rfl j8 (d5 (pv 4) d6)) c0z))) (d5 (b6f (a7r (a7q (l8 G_orders_text hr (by decide) rfl j8 (d5 (pv 5) d6)) c0z))) d6))) c8e)
   (g0 (j4 (a4c (K:=K) i9 (d5 (pv 20) d6))))))))))))),?_⟩
  have lm:=a3a;fail "";refine⟨a,x,rfl,st,en,z1,z2,z3,z4,λgs H1 s1=>?_,kb⟩;obtain⟨tn,k⟩:=k gs;clear kb;obtain⟨c,g,t,o,b,ea,ec,⟨gm,eg,egm⟩,⟨tm,tp,et,etm,etp⟩,eo,eb⟩:=st.same s1;clear st;fail "";refine b0m ea rfl (lit [some (.ref a),some (.ref c),some (.ref g),some (.ref t),some (.ref o),some (.ref b),none,none,none,none,none,none,none,none,none,none,none,none,none,none,none] (by rfl) ?_)
  fail "";refine b0m eg rfl (lit [some (.ref a),some (.ref c),some (.ref g),some (.ref t),some (.ref o),some (.ref b),some (.str x.g.st),some x.g.he.v,some (.ref gm),some (.int x.g.od),some (.int x.g.pt),none,none,none,none,none,none,none,none,none,none] (by rfl) ?_)
  fail "";have q1:=tn.gs;have q2:=a4u tn.gh;have q3:=a1y tn.go;have q4:=a1y tn.gp;have q5:=tn.ts;have q6:=a4u tn.th;have q7:=a4u tn.tf;have q8:=a1y tn.tn;have q9:=a1y tn.te;have c0:Str.empty.length=0:=rfl;have c1:("giver ":Str).length=6:=rfl;have c2:("taker ":Str).length=6:=rfl;have c3:(" ":Str).length=1:=rfl;have c4:("orders ":Str).length=7:=rfl;have c5:("book ":Str).length=5:=rfl;have o1:=a8d tn.os tn.ol;have o2:=a8d tn.bk tn.bl;refine c1n ⟨by simp only[Str.length_append];lia,a7y ?_⟩
  fail "";refine⟨x.g.st,.inl ⟨rfl,by lia⟩,by simp only[Str.length_append];lia,by simp only[Str.length_append];lia,a7y ?_⟩
  fail "";refine⟨x.g.he,rfl,tn.gh,b1z x.g.he,.inl ⟨rfl,by lia⟩,by simp only[Str.length_append];lia,by simp only[Str.length_append];lia,a7y ?_⟩
  fail "";refine⟨b0p x.g.od,.inr ⟨_,rfl,a1z tn.go,rfl⟩,by simp only[Str.length_append];lia,by simp only[Str.length_append];lia,a7y ?_⟩
  fail "";refine⟨b0p x.g.pt,.inr ⟨_,rfl,a1z tn.gp,rfl⟩,by simp only[Str.length_append];lia,by simp only[Str.length_append];lia,?_⟩
  rw[c4y];fail "";refine c1l et rfl (lit [some (.ref a),some (.ref c),some (.ref g),some (.ref t),some (.ref o),some (.ref b),some (.str x.g.st),some x.g.he.v,some (.ref gm),some (.int x.g.od),some (.int x.g.pt),some (.str (c4z x.g)),some (.str x.t.st),some x.t.he.v,some (.ref tm),some x.t.nf.v,some (.int x.t.nu),some (.int x.t.le),some (.ref tp),none,none] (by rfl) ?_)
  fail "";refine c1n ⟨by simp only[Str.length_append];lia,a7y ?_⟩
  fail "";refine⟨x.t.st,.inl ⟨rfl,by lia⟩,by simp only[Str.length_append];lia,by simp only[Str.length_append];lia,a7y ?_⟩
  fail "";refine⟨x.t.he,rfl,tn.th,b1z x.t.he,.inl ⟨rfl,by lia⟩,by simp only[Str.length_append];lia,by simp only[Str.length_append];lia,a7y ?_⟩
  fail "";refine⟨x.t.nf,rfl,tn.tf,b1z x.t.nf,.inl ⟨rfl,by lia⟩,by simp only[Str.length_append];lia,by simp only[Str.length_append];lia,a7y ?_⟩
  fail "";refine⟨b0p x.t.nu,.inr ⟨_,rfl,a1z tn.tn,rfl⟩,by simp only[Str.length_append];lia,by simp only[Str.length_append];lia,a7y ?_⟩
  fail "";refine⟨b0p x.t.le,.inr ⟨_,rfl,a1z tn.te,rfl⟩,by simp only[Str.length_append];lia,by simp only[Str.length_append];lia,?_⟩
  rw[c3d];fail "";have lc:x.c.length<=100:=by
   have:=gs.c.len;have:=gs.c.n8;lia
  refine⟨"cells",c,x.c,rfl,by decide,ec,by lia,tn.c,λH2 s2=>?_⟩
  have egm:=s2 _ _ egm;have etm:=s2 _ _ etm;have etp:=s2 _ _ etp;have eo:=eo.same s2;have eb:=eb.same s2;fail "";refine⟨"marks",gm,x.g.ms,rfl,by decide,egm,Nat.le_trans tn.gl (by decide),tn.gm,λH3 s3=>?_⟩
  have etm:=s3 _ _ etm;have etp:=s3 _ _ etp;have eo:=eo.same s3;have eb:=eb.same s3;fail "";have eo3:=eo;have eb3:=eb;refine⟨by show 4<=sizeLine;lia,λl hl=>?_⟩
  generalize u4:upd H3 l _=H4;obtain⟨s4,e4⟩:=nwS u4 hl;have etm:=s4 _ _ etm;have etp:=s4 _ _ etp;have eo:=eo.same s4;have eb:=eb.same s4;fail "";refine lit [some (.ref a),some (.ref c),some (.ref g),some (.ref t),some (.ref o),some (.ref b),some (.str x.g.st),some x.g.he.v,some (.ref gm),some (.int x.g.od),some (.int x.g.pt),some (.str (c4z x.g)),some (.str x.t.st),some x.t.he.v,some (.ref tm),some x.t.nf.v,some (.int x.t.nu),some (.int x.t.le),some (.ref tp),some (.str (c5y x.t)),some (.ref l)] (by rfl) ?_
  fail "";refine⟨.ref l,rfl,?_⟩;fail "";refine⟨"marks",tm,x.t.ms,rfl,by decide,etm,Nat.le_trans tn.tl (by decide),tn.tm,λH5 s5=>?_⟩
  have e4:=s5 _ _ e4;have etp:=s5 _ _ etp;have eo:=eo.same s5;have eb:=eb.same s5;fail "";refine⟨"parts",tp,x.t.pa,rfl,by decide,etp,Nat.le_trans tn.tq (by decide),tn.tp,λH6 s6=>?_⟩
  have e4:=s6 _ _ e4;have eo:=eo.same s6;have eb:=eb.same s6;fail "";refine⟨by show 2<=sizeLine;lia,λl2 hl2=>?_⟩
  generalize u7:upd H6 l2 _=H7;obtain⟨s7,e7⟩:=nwS u7 hl2;have e4:=s7 _ _ e4;have eo:=eo.same s7;have eb:=eb.same s7;refine⟨l,l2,_,_,rfl,rfl,e4,e7,by show 4+2<=sizeLine;lia,?_⟩
  have s38:=b3d (o:=.lst ([V.str (a5a "cells" x.c),.str (c4z x.g),.str (a5a "marks" x.g.ms),.str (c5y x.t)]++[.str (a5a "marks" x.t.ms),.str (a5a "parts" x.t.pa)])) (((s4.trans s5).trans s6).trans s7) hl;have e8:upd H7 l (.lst ([V.str (a5a "cells" x.c),.str (c4z x.g),.str (a5a "marks" x.g.ms),.str (c5y x.t)]++[.str (a5a "marks" x.t.ms),.str (a5a "parts" x.t.pa)])) l=_:=d8;generalize upd H7 l (.lst ([V.str (a5a "cells" x.c),.str (c4z x.g),.str (a5a "marks" x.g.ms),.str (c5y x.t)]++[.str (a5a "marks" x.t.ms),.str (a5a "parts" x.t.pa)]))=H8 at s38 e8 ⊢;clear eo eb e4 e7 u4 u7;have eo:=eo3.same s38;have eb:=eb3.same s38;fail "";refine⟨.ref l,rfl,?_⟩;fail "";refine c1n ⟨by simp only[Str.length_append];lia,a7y ?_⟩
  fail "";refine⟨o,x.os,rfl,eo,tn.os,λH9 s9=>⟨ordT x.os,.inl ⟨rfl,by lia⟩,by simp only[Str.length_append];lia,by simp only[Str.length_append];lia,?_⟩⟩
  rw[b9e];have e8:=s9 _ _ e8;have eb:=eb.same s9;fail "";refine c1n ⟨by simp only[Str.length_append];lia,a7y ?_⟩
  fail "";refine⟨b,x.bk,rfl,eb,tn.bk,λHA sA=>⟨ordT x.bk,.inl ⟨rfl,by lia⟩,by simp only[Str.length_append];lia,by simp only[Str.length_append];lia,?_⟩⟩
  rw[b9e];have e8:=sA _ _ e8;fail "";refine⟨by show 2<=sizeLine;lia,λl3 hl3=>?_⟩
  generalize uB:upd HA l3 _=HB;obtain⟨sB,eB⟩:=nwS uB hl3;have e8:=sB _ _ e8;refine⟨l,l3,_,_,rfl,rfl,e8,eB,by show 6+2<=sizeLine;lia,?_⟩
  fail "";have w1:=a2r (v:="cells") (by decide) lc tn.c
  have w2:=a2r (v:="marks") (by decide) tn.gl tn.gm
  have w3:=a2r (v:="marks") (by decide) tn.tl tn.tm
  have w4:=a2r (v:="parts") (by decide) tn.tq tn.tp
  have w5:(c4z x.g).length<=300:=by
   rw[<- c4y];simp only[Str.length_append];lia
  have w6:(c5y x.t).length<=300:=by
   rw[<- c3d];simp only[Str.length_append];lia
  refine b1d c8c (ss:=rowsS x) d8 ?_ ?_
  ·unfold rowsS
   simp only[a3h,c0r,Str.length_append];lia
  exact k _ (s1.trans ((s2.trans s3).trans (b3d (((s38.trans s9).trans sA).trans sB) hl)))
end
section
open PySem PySem.Spec L2
section
variable{P:Program}{w:World}{K:Frag}{mg:Str->Option Value}{base:Heap}{cl:Cl}
def TenB(j:Nat)(ns:List Int):Prop:=∀n∈ns,n.natAbs<10 ^ 59+1+j
def HTenB(j:Nat):Hr->Prop|.non=>True|.int i=>i.natAbs<10 ^ 59+1+j
def OrdB(j:Nat)(os:List (List Int)):Prop:=∀o∈os,TenB j o
structure TenA(j:Nat)(x:Sd):Prop where
 c:TenB j x.c
 lc:x.c.length<=36+4*j
 gs:x.g.st.length<=10
 gh:HTenB j x.g.he
 gm:TenB j x.g.ms
 gl:x.g.ms.length<=20+j
 go:x.g.od.natAbs<10 ^ 59+1+j
 gp:x.g.pt.natAbs<10 ^ 59+1+j
 ts:x.t.st.length<=10
 th:HTenB j x.t.he
 tm:TenB j x.t.ms
 tl:x.t.ms.length<=20+j
 tf:HTenB j x.t.nf
 tn:x.t.nu.natAbs<10 ^ 59+1+j
 te:x.t.le.natAbs<10 ^ 59+1+j
 tp:TenB j x.t.pa
 tq:x.t.pa.length<=20+j
 os:OrdB j x.os
 ol:x.os.length<=5+j
 bk:OrdB j x.bk
 bl:x.bk.length<=5+j
theorem m6{H H':Hp}{p:Addr}(s:Same H H')(h:H' p=none):H p=none:=by
 cases e:H p with
 | none=>rfl
 | some o=>rw[s _ _ e] at h;cases h
theorem c3n{H:Hp}{D:Addr}{os:List (List Int)}{i:Int}(r:Rws H D os)(h0:0<=i)(h1:i<os.length):∃xs q,H D=some (.lst xs)/\xs.length=os.length/\atI xs i=some (.ref q)/\H q=some (.lst ((os.getD i.toNat []).map V.int)):=by
 obtain⟨ps,e,l,r⟩:=r;have hj:i.toNat<os.length:=by lia
 obtain⟨q,hq⟩:∃q,ps[i.toNat]?=some q:=⟨_,List.getElem?_eq_getElem (by lia)⟩
 refine⟨_,q,e,by rw[List.length_map];exact l,?_,?_⟩
 ·unfold atI ixN
  rw[if_pos h0,if_pos (by rw[List.length_map];lia)]
  show(ps.map V.ref)[i.toNat]?=_;rw[List.getElem?_map,hq];rfl
 ·rw[List.getD_eq_getElem?_getD,List.getElem?_eq_getElem hj]
  exact r _ q _ hq (List.getElem?_eq_getElem hj)
def a8n:Sp:=λvs H Q _=>∃wl,vs=[.ref wl]/\Well H wl/\∀r H',0<=r->r<10 ^ 59->Well H' wl->But wl H H'->Q (.int r) H'
abbrev b3f:Stmt:=top 147
theorem c2e:i8 ["well"] ["well"] (g6 b3f):=↑1
theorem c2l(D:DefT K mg "_law_far" b3f ["well"])(T:Txt K mg cl)(G_law_take:FnT P w K mg base "_law_take" 1 ["well","many"] a0e):FnT P w K mg base "_law_far" 2 ["well"] a8n:=by
 refine D.fn c2e (λvs H Q E h=>?_) ↑4
 ·obtain⟨wl,rfl,_⟩:=h
  rfl
 ·obtain⟨wl,rfl,hw,k⟩:=h
  refine⟨_,(g0 (j4 (x9 (m3 (K:=K)) (l7 (d5 ↑2 (d5 (l8 G_law_take hr (by decide) rfl j8 (d5 (pv 0) (d5 (j3 b8b d9 d9) d6))) d6))) (j3 a4e ↑2 d9) (λ_ _=>rfl)))),?_⟩
  fail "";refine⟨wl,9,rfl,hw,by decide,by decide,λr1 H1 a1 b1 w1 c1=>?_⟩
  fail "";refine⟨wl,10 ^ 59,rfl,w1,by decide,by decide,λr2 H2 a2 b2 w2 c2=>?_⟩
  fail "";refine⟨by show 2<=sizeLine;decide,λl hl=>?_⟩
  generalize u3:upd H2 l _=H3;obtain⟨s3,e3⟩:=nwS u3 hl;fail "";refine⟨wl,5,rfl,w2.same s3,by decide,by decide,λr4 H4 a4 b4 w4 c4=>?_⟩
  have e4:=c4 _ _ e3 (w2.ne hl);have bt:But wl H H4:=((c1.trans c2).trans (But.of s3)).trans c4;fail "";by_cases z:r4<4
  ·refine a3w (v:=.int r1) e4 ?_ ?_
   ·rw[show r4 / 4=0 by lia];rfl
   ·exact k r1 H4 a1 (by lia) w4 bt
  ·refine a3w (v:=.int r2) e4 ?_ ?_
   ·rw[show r4 / 4=1 by lia];rfl
   ·exact k r2 H4 a2 b2 w4 bt
def RW(H:Hp)(wl oa:Addr)(os:List (List Int)):Prop:=∃ps:List Addr,H oa=some (.lst (ps.map V.ref))/\oa≠wl/\ps.length=os.length/\∀(i:Nat)(p:Addr)(o:List Int),ps[i]?=some p->os[i]?=some o->p≠wl/\H p=some (.lst (o.map V.int))
theorem RW.but{H H':Hp}{wl oa:Addr}{os:List (List Int)}(h:RW H wl oa os)(b:But wl H H'):RW H' wl oa os:=by
 obtain⟨ps,e,n,l,r⟩:=h;exact⟨ps,b _ _ e n,n,l,λi p o hp ho=>⟨(r i p o hp ho).1,b _ _ (r i p o hp ho).2 (r i p o hp ho).1⟩⟩
theorem RW.rws{H:Hp}{wl oa:Addr}{os:List (List Int)}(h:RW H wl oa os):Rws H oa os:=by
 obtain⟨ps,e,n,l,r⟩:=h;exact⟨ps,e,l,λi p o hp ho=>(r i p o hp ho).2⟩
def MK(wl:Addr)(H0:Hp)(D:Addr)(i:Nat)(acc:List V)(H':Hp):Prop:=∃ms:List Int,acc=ms.map V.int/\ms.length=i/\(∀m∈ms,0<=m/\m<=3)/\H' D=some (.lst acc)/\Well H' wl/\But wl H0 H'/\D≠wl
theorem b4h{H H1:Hp}{wl D:Addr}{o:HO}(b:But wl H H1)(hD:H D=none):But wl H (upd H1 D o):=λx u e n=>by
 rw[f9 (g9 e hD)];exact b x u e n
theorem gst(a:Fin 18):(gvU.get a∈b0o ↔ a.val<4)/\(gvU.get a="marks" ↔ a.val=3)/\(gvU.get a="told" ↔ a.val=4)/\(gvU.get a="lacks" ↔ a.val=5)/\(6<=a.val->a.val<12->gvU.get a∈b1y):=by
 revert a
 decide +kernel
def b1o(cl:Cl):Sp:=λvs H Q _=>∃(wl oa:Addr)(n:Nat)(os:List (List Int)),vs=[.ref wl,.int n,.ref oa]/\Well H wl/\2<=n/\n<=8/\RW H wl oa os/\b4w n os/\os.length<=5/\∀p y H',H p=none->Well H' wl->But wl H H'->GT H' p y->c7p n os y->Q (.ref p) H'
abbrev a8y:Stmt:=top 148
theorem y9:i8 ["well","size","orders","stages","at","turn","seen","number","part"] ["well","size","orders"] (g6 a8y):=↑1
theorem b8p(D:DefT K mg "_law_giver" a8y ["well","size","orders"])(T:Txt K mg cl)(G_law_take:FnT P w K mg base "_law_take" 1 ["well","many"] a0e):FnT P w K mg base "_law_giver" 2 ["well","size","orders"] (b1o cl):=by
 refine D.fn y9 (λvs H Q E h=>?_) ↑4
 ·obtain⟨wl,oa,n,os,rfl,_⟩:=h
  rfl
 ·obtain⟨wl,oa,n,os,rfl,hw,n2,n8,r,hg,lo,k⟩:=h
  refine⟨_,(@d7 _ _ _ _ _ (@j7 _ _ 3 _ _ _ _ y9.nd rfl (by first|exact Or.inl rfl|exact Or.inr rfl) (@l7 _ _ _ _ (@d5 _ _ _ _ _ i9 (@d5 _ _ _ _ _ i9 (@d5 _ _ _ _ _ i9 (@d5 _ _ _ _ _ i9 (@d5 _ _ _ _ _ i9 (@d5 _ _ _ _ _ i9 ↑3 rfl) rfl) rfl) rfl) rfl) rfl)) (by rfl) (by first|exact .inl rfl|exact .inr rfl))
   (d7 (j7 (i:=3) y9.nd rfl (by first|exact Or.inl rfl|exact Or.inr rfl) (j3 a4f (pv 3) (@l7 _ _ _ _ ↑3)))
   (d7 (j7 (i:=4) y9.nd rfl (by first|exact Or.inl rfl|exact Or.inr rfl) (l8 G_law_take hr (by decide) rfl j8 (d5 (pv 0) (d5 (x9 (m3 (K:=K)) (l7 (d5 d9 (d5 d9 d6))) (l0 a3x (by rfl) T.z_int PyProof.Rows.boot_int (d5 (m5 (b3k (K:=K) (n:=0) (huN hr 1)) (pv 2) (l7 d6) (i7 _)) d6)) (λ_ _=>rfl)) d6))))
   (d7 (j7 (i:=5) y9.nd rfl (by first|exact Or.inl rfl|exact Or.inr rfl) (a5u (i6 a1w (pv 4) d9 (i7 _)) a2z (l8 G_law_take hr (by decide) rfl j8 (d5 (pv 0) (d5 (j3 y0 d9 (pv 1)) d6)))))
   (d7 (j7 (i:=6) y9.nd rfl (by first|exact Or.inl rfl|exact Or.inr rfl) (l0 (a0r (K:=K)) (by rfl) T.z_tuple PyProof.Rows.boot_tuple (d5 (a1k (N:=["k","well"]) (nt:=1) (fr:=[0]) rfl (a3f (i:=0) rfl rfl (by decide +kernel) (by decide +kernel) rfl rfl rfl rfl rfl rfl rfl) (a1e rfl T.z_range (d5 (j3 y0 (l8 G_law_take hr (by decide) rfl j8 (d5 (pv 0) (d5 (pv 1) d6))) (l0 a3x (by rfl) T.z_int PyProof.Rows.boot_int (d5 (m5 a0q (pv 4) d9 (i7 _)) d6))) d6)) (z9 (by decide)) (λ_ _ _ _ _=>i4 (i:=0) (show(["k","well"]:List Str).Nodup by decide +kernel) rfl (Or.inl rfl) (Or.inr rfl)) (λ_ _ _ _ _=>(l8 G_law_take hr (by decide) rfl b4o (d5 (pv 1) (d5 d9 d6))))) d6)))
   (d7 (j7 (i:=7) y9.nd rfl (by first|exact Or.inl rfl|exact Or.inr rfl) d9)
   (d7 (j7 (i:=8) y9.nd rfl (by first|exact Or.inl rfl|exact Or.inr rfl) d9)
   (d7 (v9 (i6 a0q (pv 4) d9 (i7 _))
     (g0 (j7 (i:=7) y9.nd rfl (by first|exact Or.inl rfl|exact Or.inr rfl) (j3 a0y (l8 G_law_take hr (by decide) rfl j8 (d5 (pv 0) (d5 (j3 a0k (j6 (j5 (K:=K)) (by rfl) T.z_len PySem.boot_len (d5 (pv 2) d6)) d9) d6))) d9)))
     k7)
   (d7 (v9 (i6 b3j (pv 4) d9 (i7 _))
     (
     d7 (j7 (i:=7) y9.nd rfl (by first|exact Or.inl rfl|exact Or.inr rfl) (l8 G_law_take hr (by decide) rfl j8 (d5 (pv 0) (d5 (j3 a0k (j6 (j5 (K:=K)) (by rfl) T.z_len PySem.boot_len (d5 (pv 2) d6)) (l0 a3x (by rfl) T.z_int PyProof.Rows.boot_int (d5 (m5 a1w (pv 4) d9 (i7 _)) d6))) d6))))
     (g0 (v9 (i6 a1w (pv 7) (j6 (j5 (K:=K)) (by rfl) T.z_len PySem.boot_len (d5 (pv 2) d6)) (i7 _))
      (g0 (j7 (i:=8) y9.nd rfl (by first|exact Or.inl rfl|exact Or.inr rfl) (l8 G_law_take hr (by decide) rfl j8 (d5 (pv 0) (d5 (j6 (j5 (K:=K)) (by rfl) T.z_len PySem.boot_len (d5 (x9 (m3 (K:=K)) (pv 2) (pv 7) (λ_ _=>rfl)) d6)) d6)))))
      k7)))
     k7)
   (g0 (j4 (t7 (d5 (x9 (m3 (K:=K)) (pv 3) (pv 4) (λ_ _=>rfl)) (d5 (pv 5) (d5 (pv 6) (d5 (pv 7) (d5 (pv 8) d6))))))))))))))))),?_⟩
  have h60:6000<=sizeLine:=by decide
  fail "";refine⟨by show 12<=sizeLine;decide,λp1 hp1=>?_⟩
  generalize u1:upd H p1 _=H1;obtain⟨s1,e1⟩:=nwS u1 hp1;fail "";refine⟨by show 6<=sizeLine;decide,λp2 hp2=>?_⟩
  generalize u2:upd H1 p2 _=H2;obtain⟨s2,e2⟩:=nwS u2 hp2;fail "";refine b4d (s2 _ _ e1) e2 (by show 12+6<=sizeLine;decide) λsg hsg=>?_
  rw[show([.str "rouse",.str "clear",.str "mute",.str "marks",.str "told",.str "lacks",.str "look",.str "wish",.str "again",.str "sleep",.str "hush",.str "unwish"]:List V)++[.str "number",.str "left",.str "thing",.str "mark",.str "card",.str "ring"]=gvU.map V.str from rfl];generalize u3:upd H2 sg _=H3;obtain⟨s3,e3⟩:=nwS u3 hsg;have s03:=(s1.trans s2).trans s3;have nsg:=((hw.same s1).same s2).ne hsg;fail "";refine⟨by show 2<=sizeLine;decide,λp4 hp4=>?_⟩
  generalize u4:upd H3 p4 _=H4;obtain⟨s4,e4⟩:=nwS u4 hp4;fail "";refine⟨Nat.zero_le _,λp5 hp5=>?_⟩;generalize u5:upd H4 p5 _=H5;obtain⟨s5,e5⟩:=nwS u5 hp5;have s05:=(s03.trans s4).trans s5;obtain⟨ps,eo,no,lp,ro⟩:=id r;have eo5:=s05 _ _ eo;have ne5:oa≠p5:=g9 ((s03.trans s4) _ _ eo) hp5;have eqd:EqD K H5 1 (.ref oa) (.ref p5) (decide (os=[])):=by
   cases os with
   | nil=>
    rw[List.length_eq_zero_iff.mp lp] at eo5;exact EqD.lst (K:=K) (e:=λ_=>true) ne5 (SqL.of eo5) (SqL.of e5) rfl (λj x y hx=>by cases hx)
   | cons o os'=>
    refine EqD.lstN ne5 (SqL.of eo5) (SqL.of e5) ?_;rw[List.length_map,lp];simp
  refine c0i eqd ?_;fail "";refine .inr ⟨_,rfl,?_⟩;obtain⟨mx,hat,m0,m18,m12⟩:∃mx:Int,atI [V.int 18,V.int 12] (if decide (os=[])=true then 1 else 0)=some (.int mx)/\0<mx/\mx<=18/\(os=[]->mx=12):=by
   by_cases z:os=[]
   ·rw[decide_eq_true z,if_pos rfl];exact⟨12,rfl,by decide,by decide,λ_=>rfl⟩
   ·rw[decide_eq_false z,if_neg (by decide)];exact⟨18,rfl,by decide,by decide,λq=>absurd q z⟩
  refine a3w (s5 _ _ e4) hat ?_;fail "";have ten:(18:Int)<2 ^ 200:=by decide
  refine⟨wl,mx,rfl,hw.same s05,m0,by lia,λat_ H6 a6 b6 w6 c6=>?_⟩
  have B6:But wl H H6:=(But.of s05).trans c6;have e6:=c6 _ _ ((s4.trans s5) _ _ e3) nsg;have hsg0:H sg=none:=m6 (s1.trans s2) hsg;clear u1 u2 u3 u4 u5 e1 e2 e3 e4 e5 s1 s2 s3 s4 s5 s03 s05 hp1 hp2 hp4 hp5 hsg c6 eqd hat eo5 ne5;refine a2a ?_;refine c0f (by assumption) ?_
  refine a5j (λσ' H'=>∃he:Hr,σ'=[some (.ref wl),some (.int n),some (.ref oa),some (.ref sg),some (.int at_),some he.v,none,none,none]/\Well H' wl/\But wl H H'/\H' sg=some (.lst (gvU.map V.str))/\(at_<4->he=.non)/\(4<=at_->∃i,he=.int i/\0<=i/\i<2*(n:Int))) ?_ ?_
  rotate_left
  ·intro R hR
   fail "";by_cases z:at_<4
   ·rw[decide_eq_true z]
    fail "";exact hR _ _ ⟨.non,rfl,w6,B6,e6,λ_=>rfl,λq=>absurd z (by lia)⟩
   ·rw[decide_eq_false z]
    fail "";refine⟨wl,2*(n:Int),rfl,w6,by lia,by lia,λi H7 a7 b7 w7 c7=>?_⟩
    fail "";exact hR _ _ ⟨.int i,rfl,w7,B6.trans c7,c7 _ _ e6 nsg,λq=>absurd q z,λ_=>⟨i,rfl,a7,b7⟩⟩
  rintro σ H7 ⟨he,rfl,w7,B7,e7,t1,t2⟩;clear w6 B6 e6;fail "";refine⟨wl,n,rfl,w7,by lia,by lia,λr8 H8 a8 b8 w8 c8=>?_⟩
  fail "";refine .inr ⟨_,rfl,?_⟩;rw[t5];have B8:=B7.trans c8;have e8:=c8 _ _ e7 nsg;obtain⟨m,em,hm0,hm1⟩:∃m:Nat,r8*(if decide (at_=3)=true then 1 else 0)=(m:Int)/\(at_=3->m<n)/\(at_≠3->m=0):=by
   by_cases z:at_=3
   ·rw[decide_eq_true z,if_pos rfl];exact⟨r8.toNat,by lia,λ_=>by lia,λq=>absurd z q⟩
   ·rw[decide_eq_false z,if_neg (by decide)];exact⟨0,by lia,λq=>absurd q z,λ_=>rfl⟩
  have m8:m<=8:=by
   by_cases z:at_=3
   ·have:=hm0 z;lia
   ·have:=hm1 z;lia
  refine⟨r8,_,rfl,rfl,?_,?_⟩
  ·split
   ·exact .inr ⟨by decide,by decide⟩
   ·exact .inr ⟨by decide,by decide⟩
  dsimp only;rw[em];fail "";rw[show((m:Nat):Int).toNat=m from rfl];refine a2l (n:=m) (by lia) (MK wl H8) (λD hD=>⟨[],rfl,rfl,(λ_ z=>(by cases z)),d8,w8.same (i3 hD),But.of (i3 hD),w8.ne hD⟩) ?_ ?_ ?_
  ·rintro D i acc H' ⟨ms,rfl,hl,_,e,_⟩
   exact⟨e,by rw[List.length_map];exact hl⟩
  ·rintro D i acc H' hD hi ⟨ms,rfl,hl,hms,e,w',b',nd⟩
   fail "";refine⟨wl,4,rfl,w',by decide,by decide,λv H9 a9 b9 w9 c9=>?_⟩
   refine⟨c9 _ _ e nd,ms++[v],by rw[List.map_append];rfl,by rw[List.length_append,hl];rfl,λq hq=>?_,?_,?_,b4h (b'.trans c9) hD,nd⟩
   ·rcases List.mem_append.mp hq with hq|hq
    ·exact hms q hq
    ·rw[List.mem_singleton.mp hq];lia
   ·rw[d8]
   ·obtain⟨x1,x2,x3,ew,z⟩:=w9
    exact⟨x1,x2,x3,(f9 (Ne.symm nd)).trans ew,z⟩
  rintro D acc H9 hD ⟨ms,rfl,hl,hms,e9,w9,b9,nd⟩;fail "";intro sn hsn;generalize u10:upd H9 sn _=H10;obtain⟨s10,e10⟩:=nwS u10 hsn;have B10:=(B8.trans b9).trans (But.of s10);have e10s:=s10 _ _ (b9 _ _ e8 nsg);have w10:=w9.same s10;have nsn:=w9.ne hsn;have mf1:at_=3->ms.length<n:=λz=>by rw[hl];exact hm0 z
  have mf2:at_≠3->ms=[]:=λz=>List.length_eq_zero_iff.mp (by rw[hl];exact hm1 z)
  clear u10 e9 s10 hsn b9 w9 e8 B8 c8 w8 e7 B7 w7 hD nd hl;refine a2a ?_;refine c0f (by assumption) ?_
  refine a5j (λσ' H'=>σ'=[some (.ref wl),some (.int n),some (.ref oa),some (.ref sg),some (.int at_),some he.v,some (.ref sn),some (.int 0),none]/\H'=H10) ?_ ?_
  rotate_left
  ·intro R hR
   fail "";exact hR _ _ ⟨rfl,rfl⟩
  rintro σ H11 ⟨rfl,rfl⟩;refine a5j (λσ' H'=>σ'=[some (.ref wl),some (.int n),some (.ref oa),some (.ref sg),some (.int at_),some he.v,some (.ref sn),some (.int 0),some (.int 0)]/\H'=H11) ?_ ?_
  rotate_left
  ·intro R hR
   fail "";exact hR _ _ ⟨rfl,rfl⟩
  rintro σ H10 ⟨rfl,rfl⟩;have fact:∀{H':Hp},But wl H10 H'->Well H' wl->Well H' wl/\But wl H H'/\H' sg=some (.lst (gvU.map V.str))/\H' sn=some (.tup (ms.map V.int)):=λb w=>⟨w,B10.trans b,b _ _ e10s nsg,b _ _ e10 nsn⟩;refine a5j (λσ' H'=>∃od:Int,σ'=[some (.ref wl),some (.int n),some (.ref oa),some (.ref sg),some (.int at_),some he.v,some (.ref sn),some (.int od),some (.int 0)]/\Well H' wl/\But wl H10 H'/\(at_≠5->od=0)/\(at_=5->-1<=od/\od<os.length)) ?_ ?_
  rotate_left
  ·intro R hR
   fail "";rw[t5];have eo10:=B10 _ _ eo no;by_cases z:at_=5
   ·rw[decide_eq_true z]
    fail "";rw[List.length_map,lp];refine⟨wl,(os.length:Int)+1,rfl,w10,by lia,by lia,λv H12 a12 b12 w12 c12=>?_⟩
    fail "";exact hR _ _ ⟨v-1,rfl,w12,c12,λq=>absurd z q,λ_=>by lia⟩
   ·rw[decide_eq_false z]
    fail "";exact hR _ _ ⟨0,rfl,w10,But.refl _ _,λ_=>rfl,λq=>absurd q z⟩
  rintro σ H12 ⟨od,rfl,w12,c12,o1,o2⟩;refine a5j (λσ' H'=>∃od pt:Int,σ'=[some (.ref wl),some (.int n),some (.ref oa),some (.ref sg),some (.int at_),some he.v,some (.ref sn),some (.int od),some (.int pt)]/\Well H' wl/\But wl H10 H'/\(at_<5->od=0/\pt=0)/\(at_=5->(-1<=od/\od<os.length)/\pt=0)/\(5<at_->(od=os.length/\pt=0/\at_<12)\/((0<=od/\od<os.length)/\0<=pt/\pt<(os.getD od.toNat []).length))) ?_ ?_
  rotate_left
  ·intro R hR
   fail "";by_cases z:5<at_
   ·rw[decide_eq_true z]
    have r12:=r.but (B10.trans c12);obtain⟨ps2,eo12,no2,lp2,ro2⟩:=id r12;fail "";refine .inr ⟨_,rfl,?_⟩;rw[List.length_map,lp2];have pos:0<(os.length:Int)+(if decide (at_<12)=true then 1 else 0):=by
     by_cases y:at_<12
     ·rw[decide_eq_true y,if_pos rfl];lia
     ·rw[decide_eq_false y,if_neg (by decide)]
      cases os with
      | nil=>have:=m12 rfl;lia
      | cons=>show(0:Int)<((_+1:Nat):Int)+0;lia
    dsimp only;fail "";refine⟨wl,_,rfl,w12,pos,by split <;> lia,λv H14 a14 b14 w14 c14=>?_⟩
    have r14:=r12.but c14;obtain⟨ps3,eo14,no3,lp3,ro3⟩:=id r14;fail "";rw[List.length_map,lp3];by_cases y:v<os.length
    ·rw[decide_eq_true y]
     obtain⟨xs,q,eD,_,hat,eq⟩:=c3n r14.rws a14 y;have hj:v.toNat<os.length:=by lia
     have h1:=(hg _ (List.getElem_mem hj));have el:(os.getD v.toNat [])=os[v.toNat]:=by rw[List.getD_eq_getElem?_getD,List.getElem?_eq_getElem hj];rfl
     fail "";refine a3w eD hat ?_;fail "";rw[List.length_map];refine⟨wl,_,rfl,w14,by rw[el];lia,by rw[el];lia,λu H15 a15 b15 w15 c15=>?_⟩
     fail "";exact hR _ _ ⟨v,u,rfl,w15,(c12.trans c14).trans c15,λq=>absurd z (by lia),λq=>absurd z (by lia),λ_=>.inr ⟨⟨a14,y⟩,a15,b15⟩⟩
    ·rw[decide_eq_false y]
     fail "";refine hR _ _ ⟨v,0,rfl,w14,c12.trans c14,λq=>absurd z (by lia),λq=>absurd z (by lia),λ_=>.inl ⟨?_,rfl,?_⟩⟩
     ·by_cases x:at_<12
      ·rw[decide_eq_true x,if_pos rfl] at b14;lia
      ·rw[decide_eq_false x,if_neg (by decide)] at b14;lia
     ·by_cases x:at_<12
      ·exact x
      ·rw[decide_eq_false x,if_neg (by decide)] at b14;lia
   ·rw[decide_eq_false z]
    fail "";exact hR _ _ ⟨od,0,rfl,w12,c12,λq=>⟨o1 (by lia),rfl⟩,λq=>⟨o2 q,rfl⟩,λq=>absurd q z⟩
  rintro σ H13 ⟨od,pt,rfl,w13,c13,p1,p2,p3⟩;obtain⟨w13,B13,e13,en13⟩:=fact c13 w13;have ha:at_.toNat<18:=by lia
  obtain⟨g1,g2,g3,g4,g5⟩:=gst ⟨at_.toNat,ha⟩;dsimp only at g1 g2 g3 g4 g5;fail "";refine a3w (v:=.str (gvU.get ⟨at_.toNat,ha⟩)) e13 ?_ ?_
  ·unfold atI ixN
   rw[if_pos a6,if_pos (by show at_<18;lia)]
   show(gvU.map V.str)[at_.toNat]?=_;rw[List.getElem?_map,List.getElem?_eq_getElem ha]
   rfl
  have hin:gvU.get ⟨at_.toNat,ha⟩∈gvU:=List.get_mem _ _;generalize gvU.get ⟨at_.toNat,ha⟩=st at *;fail "";refine⟨by show 5<=sizeLine;decide,λp hp=>?_⟩
  have hp0:H p=none:=by
   cases e:H p with
   | none=>rfl
   | some o=>
    have:p≠wl:=λz=>by
     obtain⟨_,_,_,ew,_⟩:=w13;rw[z,ew] at hp;cases hp
    rw[B13 _ _ e this] at hp;cases hp
  refine k p ⟨st,he,ms,od,pt⟩ _ hp0 (w13.same (i3 hp)) (B13.trans (But.of (i3 hp))) ⟨sn,d8,i3 hp _ _ en13⟩ ⟨hin,?_,?_,?_⟩
  ·show a3i n st he
   unfold a3i;by_cases c:st∈b0o
   ·rw[if_pos c];exact t1 (by have:=g1.mp c;lia)
   ·rw[if_neg c];exact t2 (by have:¬ at_.toNat<4:=λz=>c (g1.mpr z);lia)
  ·show a3u n st ms
   unfold a3u;by_cases c:st="marks"
   ·rw[if_pos c];exact⟨mf1 (by have:=g2.mp c;lia),hms⟩
   ·rw[if_neg c];exact mf2 λz=>c (g2.mpr (by lia))
  ·show b0c st od pt os
   unfold b0c;by_cases c:st∈b0o\/st="told"
   ·rw[if_pos c]
    exact p1 (by
           rcases c with c|c
           ·have:=g1.mp c;lia
           ·have:=g3.mp c;lia)
   ·rw[if_neg c]
    have n4:¬ at_.toNat<4:=λz=>c (.inl (g1.mpr z));have n5:at_.toNat≠4:=λz=>c (.inr (g3.mpr z));by_cases c2:st="lacks"
    ·rw[if_pos c2];exact p2 (by have:=g4.mp c2;lia)
    ·rw[if_neg c2]
     have n6:at_.toNat≠5:=λz=>c2 (g4.mpr z);rcases p3 (by lia) with ⟨q1,q2,q3⟩|⟨q1,q2⟩
     ·rw[if_pos q1];exact⟨g5 (by lia) (by lia),q2⟩
     ·rw[if_neg (by lia)];exact⟨q1,q2⟩
end
end
section
variable{P:Program}{w:World}{K:Frag}{mg:Str->Option Value}{base:Heap}{cl:Cl}
theorem b5f{H:Hp}{n:Nat}{p q:Addr}{xs ys:List V}(hp:H p=some (.tup xs))(hq:H q=some (.tup ys))(hl:xs.length=ys.length)(h:∀(j:Nat) (x y:V),xs[j]?=some x->ys[j]?=some y->EqD K H n x y true):EqD K H (n+1) (.ref p) (.ref q) true:=by
 by_cases z:p=q
 ·subst z
  exact EqD.self (SqT.of hp)
 ·have:=EqD.tup (K:=K) (e:=λ_=>true) z (SqT.of hp) (SqT.of hq) h
  rw[hl,show((List.range (min ys.length ys.length)).all (λ_=>true) && ys.length == ys.length)=true by simp] at this
  exact this
theorem c5l{H:Hp}{n:Nat}{x:V}(f:a8g x=true)(e:eqV x x=true):EqD K H n x x true:=by
 have:=EqD.flat (K:=K) (H:=H) (n:=n) f f
 rwa [e] at this
theorem c2v{H:Hp}{n:Nat}(i:Int):EqD K H n (.int i) (.int i) true:=c5l rfl (by show(i == i)=true;simp)
theorem d0l{H:Hp}{n:Nat}(i:Str):EqD K H n (.str i) (.str i) true:=c5l rfl (by show(i == i)=true;simp)
theorem d0m{H:Hp}{n:Nat}(i:Hr):EqD K H n i.v i.v true:=by
 cases i
 ·exact c5l rfl rfl
 ·exact c2v _
theorem b9d{H:Hp}{n:Nat}{p q:Addr}{ns:List Int}(hp:H p=some (.tup (ns.map V.int)))(hq:H q=some (.tup (ns.map V.int))):EqD K H (n+1) (.ref p) (.ref q) true:=b5f hp hq rfl λj x y hx hy=>by
 rw[hx] at hy;cases hy;rw[List.getElem?_map] at hx;cases e:ns[j]? with
 | none=>rw[e] at hx;cases hx
 | some i=>rw[e] at hx;cases hx;exact c2v _
theorem c8m{H:Hp}{n:Nat}{p q:Addr}{os:List (List Int)}(hp:TTs H p os)(hq:TTs H q os):EqD K H (n+2) (.ref p) (.ref q) true:=by
 obtain⟨ps,e,l,r⟩:=hp;obtain⟨qs,e',l',r'⟩:=hq;refine b5f e e' (by rw[List.length_map,List.length_map,l,l']) λj x y hx hy=>?_
 rw[List.getElem?_map] at hx hy;cases ea:ps[j]? with
 | none=>rw[ea] at hx;cases hx
 | some a=>
  cases eb:qs[j]? with
  | none=>rw[eb] at hy;cases hy
  | some b=>
   rw[ea] at hx;rw[eb] at hy;cases hx;cases hy;have hj:j<os.length:=by rw[<- l];exact(List.getElem?_eq_some_iff.mp ea).1
   exact b9d (r j a _ ea (List.getElem?_eq_getElem hj)) (r' j b _ eb (List.getElem?_eq_getElem hj))
theorem d3k{H:Hp}{p q:Addr}{x:Sd}(hp:ST H p x)(hq:ST H q x):EqD K H 3 (.ref p) (.ref q) true:=by
 obtain⟨c,g,t,o,b,e,e1,⟨m,g1,g2⟩,⟨m1,pa,t1,t2,t3⟩,e4,e5⟩:=hp;obtain⟨c',g',t',o',b',e',e1',⟨m',g1',g2'⟩,⟨m1',pa',t1',t2',t3'⟩,e4',e5'⟩:=hq;refine b5f e e' rfl λj x y hx hy=>?_
 match j,hx,hy with
 | 0,hx,hy=>cases hx;cases hy;exact b9d e1 e1'
 | 1,hx,hy=>
  cases hx;cases hy;refine b5f g1 g1' rfl λj x y hx hy=>?_
  match j,hx,hy with
  | 0,hx,hy=>cases hx;cases hy;exact d0l _
  | 1,hx,hy=>cases hx;cases hy;exact d0m _
  | 2,hx,hy=>cases hx;cases hy;exact b9d g2 g2'
  | 3,hx,hy=>cases hx;cases hy;exact c2v _
  | 4,hx,hy=>cases hx;cases hy;exact c2v _
 | 2,hx,hy=>
  cases hx;cases hy;refine b5f t1 t1' rfl λj x y hx hy=>?_
  match j,hx,hy with
  | 0,hx,hy=>cases hx;cases hy;exact d0l _
  | 1,hx,hy=>cases hx;cases hy;exact d0m _
  | 2,hx,hy=>cases hx;cases hy;exact b9d t2 t2'
  | 3,hx,hy=>cases hx;cases hy;exact d0m _
  | 4,hx,hy=>cases hx;cases hy;exact c2v _
  | 5,hx,hy=>cases hx;cases hy;exact c2v _
  | 6,hx,hy=>cases hx;cases hy;exact b9d t3 t3'
 | 3,hx,hy=>cases hx;cases hy;exact c8m e4 e4'
 | 4,hx,hy=>cases hx;cases hy;exact c8m e5 e5'
def RP(H:Hp)(os:List (List Int))(D:Addr)(i:Nat)(acc:List V)(H':Hp):Prop:=H' D=some (.lst acc)/\Same H H'/\∃ps:List Addr,acc=ps.map V.ref/\ps.length=i/\∀(j:Nat)(p:Addr)(o:List Int),ps[j]?=some p->os[j]?=some o->H p=none/\p≠D/\H' p=some (.lst (o.map V.int))
theorem RP.new{H:Hp}{os:List (List Int)}{D:Addr}(hD:H D=none):RP H os D 0 [] (upd H D (.lst [])):=⟨d8,i3 hD,[],rfl,rfl,λj p o h=>by simp at h⟩
theorem RP.push{H H':Hp}{os:List (List Int)}{o:List Int}{D p:Addr}{i:Nat}{acc:List V}(h:RP H os D i acc H')(hD:H D=none)(ho:os[i]?=some o)(hp:H' p=none):
  (upd H' p (.lst (o.map V.int))) D=some (.lst acc)/\RP H os D (i+1) (acc++[.ref p]) (upd (upd H' p (.lst (o.map V.int))) D (.lst (acc++[.ref p]))):=by
 obtain⟨e,s,ps,rfl,hl,r⟩:=h;have nD:D≠p:=λz=>by rw[<- z,e] at hp;cases hp
 have hp0:=m6 s hp;refine⟨by rw[f9 nD];exact e,d8,?_,ps++[p],by rw[List.map_append];rfl,by rw[List.length_append,hl];rfl,?_⟩
 ·intro b u eb
  rw[f9 (λz=>by rw[z,hD] at eb;cases eb),f9 (λz=>by rw[z,hp0] at eb;cases eb)]
  exact s _ _ eb
 ·intro j q u hj hu
  by_cases y:j<ps.length
  ·rw[List.getElem?_append_left y] at hj
   obtain⟨a,b,c⟩:=r j q u hj hu;refine⟨a,b,?_⟩;rw[f9 b,f9 (λz=>by rw[z,hp] at c;cases c)]
   exact c
  ·rw[List.getElem?_append_right (by lia)] at hj
   have:j=i:=by
    by_cases z:j-ps.length=0
    ·lia
    ·rw[List.getElem?_eq_none (by simp;lia)] at hj;cases hj
   subst this;rw[hl,Nat.sub_self] at hj;cases hj;rw[ho] at hu;cases hu;exact⟨hp0,Ne.symm nD,by rw[f9 (Ne.symm nD)];exact d8⟩
def NewRows(H H':Hp)(D:Addr)(os:List (List Int)):Prop:=H D=none/\Same H H'/\∃ps:List Addr,H' D=some (.lst (ps.map V.ref))/\ps.length=os.length/\∀(j:Nat)(p:Addr)(o:List Int),ps[j]?=some p->os[j]?=some o->H p=none/\p≠D/\H' p=some (.lst (o.map V.int))
theorem RP.done{H H':Hp}{os:List (List Int)}{D:Addr}{acc:List V}(h:RP H os D os.length acc H')(hD:H D=none):NewRows H H' D os:=by
 obtain⟨e,s,ps,rfl,hl,r⟩:=h;exact⟨hD,s,ps,e,hl,r⟩
def b1l(cl:Cl):Sp:=λvs H Q _=>∃(n:Int)(a:Addr)(o:List Int),vs=[.int n,.ref a]/\H a=some (.tup (o.map V.int))/\1<=(o.length:Int)/\(o.length:Int)<=n/\∀p,H p=none->Q (.ref p) (upd H p (.lst (o.map V.int)))
theorem b8j(D:DefT K mg "order_of" a4z ["size","order"])(T:Txt K mg cl):FnT P w K mg base "order_of" 1 ["size","order"] (b1l cl):=by
 refine D.fn b2z (λvs H Q E h=>?_) (λf cdv A' outer s H vs Q E hr h=>?_)
 ·obtain⟨n,a,o,rfl,_⟩:=h
  rfl
 ·obtain⟨n,a,o,rfl,ea,h1,h2,k⟩:=h
  refine⟨_,(d7 (v9 (PW.pt (a4t (i6 a1w (j6 (j5 (K:=K)) (by rfl) T.z_len PySem.boot_len (d5 (pv 1) d6)) d9 (i7 _)) (a1u (i6 b3j (j6 (j5 (K:=K)) (by rfl) T.z_len PySem.boot_len (d5 (pv 1) d6)) (pv 0) (i7 _)))))
     (g0 (a1c T.c_BadOrder rfl rfl a7o (d5 i9 d6)))
     k7)
   (g0 (j4 (l0 (a0d (K:=K)) (by rfl) T.z_list PyProof.Rows.boot_list (d5 (pv 1) d6))))),?_⟩
  fail "";rw[List.length_map];refine x8 (λy=>absurd y (by lia)) (λ_=>?_)
  fail "";rw[List.length_map];refine x8 (λy=>absurd y (by lia)) (λ_=>?_)
  fail "";exact k
def RIn(H:Hp)(a:Addr)(os:List (List Int)):Prop:=(os=[]/\H a=some (.lst []))\/TTs H a os
def a5h(cl:Cl):Sp:=λvs H Q _=>∃(n:Nat)(a:Addr)(os:List (List Int)),vs=[.int n,.ref a]/\RIn H a os/\b4w n os/\os.length<=1000/\∀p H',NewRows H H' p os->Q (.ref p) H'
theorem b6j(D:DefT K mg "orders_of" a3o ["size","orders"])(T:Txt K mg cl)(G_order_of:FnT P w K mg base "order_of" 1 ["size","order"] (b1l cl)):FnT P w K mg base "orders_of" 2 ["size","orders"] (a5h cl):=by
 refine D.fn b1u (λvs H Q E h=>?_) (λf cdv A' outer s H vs Q E hr h=>?_)
 ·obtain⟨n,a,os,rfl,_⟩:=h
  rfl
 ·obtain⟨n,a,os,rfl,ri,ho,hz,k⟩:=h
  refine⟨_,(g0 (j4 (a1k (N:=["order","size"]) (nt:=1) (fr:=[0]) rfl (a3f (i:=0) rfl rfl (by decide +kernel) (by decide +kernel) rfl rfl rfl rfl rfl rfl rfl) (c9k (K:=K) (pv 1)) (z9 (by decide)) (λ_ _ _ _ _=>i4 (i:=0) (show(["order","size"]:List Str).Nodup by decide +kernel) rfl (Or.inl rfl) (Or.inr rfl)) (λ_ _ _ _ _=>(l8 G_order_of hr (by decide) rfl b4o (d5 (pv 1) (d5 (pv 0) d6))))))),?_⟩
  have h60:6000<=sizeLine:=by decide
  fail "";rcases ri with ⟨rfl,ea⟩|⟨ps,ea,hl,hr'⟩
  ·refine .inl ⟨a,rfl,⟨_,SqL.of ea⟩,a2m (xs:=[]) (show 0<sizeLine by decide) (RP H []) (λD hD=>RP.new hD) ?_ ?_ ?_⟩
   ·rintro D i acc H' ⟨e,s,qs,rfl,hq,_⟩
    exact⟨e,by rw[List.length_map];exact hq,SqL.of (s _ _ ea)⟩
   ·intro D i x acc H' hD hx
    cases hx
   ·intro D acc H' hD hp
    exact k _ _ (RP.done (os:=[]) hp hD)
  refine .inr ⟨a,rfl,⟨_,SqT.of ea⟩,a2t (xs:=ps.map V.ref) (by rw[List.length_map];lia) (RP H os) (λD hD=>RP.new hD) ?_ ?_ ?_⟩
  ·rintro D i acc H' ⟨e,s,qs,rfl,hq,_⟩
   exact⟨e,by rw[List.length_map];exact hq,SqT.of (s _ _ ea)⟩
  ·intro D i x acc H' hD hx hp
   rw[List.getElem?_map] at hx;cases hpi:ps[i]? with
   | none=>rw[hpi] at hx;cases hx
   | some q=>
    rw[hpi] at hx;cases hx;have hi:i<os.length:=by rw[<- hl];exact(List.getElem?_eq_some_iff.mp hpi).1
    have hoi:=List.getElem?_eq_getElem hi;have eq:=hp.2.1 _ _ (hr' i q _ hpi hoi);obtain⟨l1,l2⟩:=ho _ (List.getElem_mem hi);fail "";refine⟨n,q,_,rfl,eq,by lia,by lia,λp hpn=>?_⟩
    exact hp.push hD hoi hpn
  ·intro D acc H' hD hp
   rw[List.length_map,hl] at hp;exact k _ _ (hp.done hD)
def a4h:Sp:=λvs H Q _=>∃(a:Addr)(os:List (List Int)),vs=[.ref a]/\Rws H a os/\os.length<=1000/\∀p H',NewRows H H' p os->Q (.ref p) H'
abbrev a5m:Stmt:=top 88
theorem b4j:i8 ["orders"] ["orders"] (g6 a5m):=↑1
theorem b4p(D:DefT K mg "orders_told" a5m ["orders"])(T:Txt K mg cl):FnT P w K mg base "orders_told" 1 ["orders"] a4h:=by
 refine D.fn b4j (λvs H Q E h=>?_) (λf cdv A' outer s H vs Q E hr h=>?_)
 ·obtain⟨a,os,rfl,_⟩:=h
  rfl
 ·obtain⟨a,os,rfl,⟨ps,ea,hl,hr'⟩,hz,k⟩:=h
  refine⟨_,(g0 (j4 (a1k (N:=["order"]) (nt:=1) (fr:=[]) rfl (a0w rfl rfl (by decide +kernel) (by decide +kernel) rfl rfl) (a5t (K:=K) (pv 0)) (z9 (by decide)) (λ_ _ _ _ _=>i4 (i:=0) (show(["order"]:List Str).Nodup by decide +kernel) rfl (Or.inl rfl) (Or.inr rfl)) (λ_ _ _ _ _=>(l0 (a0d (K:=K)) (by rfl) T.z_list PyProof.Rows.boot_list (d5 (pv 0) d6)))))),?_⟩
  have h60:6000<=sizeLine:=by decide
  refine⟨_,rfl,a,rfl,⟨_,SqL.of ea⟩,a2m (xs:=ps.map V.ref) (by rw[List.length_map];lia) (RP H os) (λD hD=>RP.new hD) ?_ ?_ ?_⟩
  ·rintro D i acc H' ⟨e,s,qs,rfl,hq,_⟩
   exact⟨e,by rw[List.length_map];exact hq,SqL.of (s _ _ ea)⟩
  ·intro D i x acc H' hD hx hp
   rw[List.getElem?_map] at hx;cases hpi:ps[i]? with
   | none=>rw[hpi] at hx;cases hx
   | some q=>
    rw[hpi] at hx;cases hx;have hi:i<os.length:=by rw[<- hl];exact(List.getElem?_eq_some_iff.mp hpi).1
    have hoi:=List.getElem?_eq_getElem hi;have eq:=hp.2.1 _ _ (hr' i q _ hpi hoi);fail "";exact λp hpn=>hp.push hD hoi hpn
  ·intro D acc H' hD hp
   rw[List.length_map,hl] at hp;exact k _ _ (hp.done hD)
def RQq(H:Hp)(os:List (List Int))(D:Addr)(i:Nat)(acc:List V)(H':Hp):Prop:=H' D=some (.lst acc)/\Same H H'/\∃ps:List Addr,acc=ps.map V.ref/\ps.length=i/\∀(j:Nat)(p:Addr)(o:List Int),ps[j]?=some p->os[j]?=some o->p≠D/\H' p=some (.tup (o.map V.int))
theorem RQq.new{H:Hp}{os:List (List Int)}{D:Addr}(hD:H D=none):RQq H os D 0 [] (upd H D (.lst [])):=⟨d8,i3 hD,[],rfl,rfl,λj p o h=>by simp at h⟩
theorem RQq.push{H H':Hp}{os:List (List Int)}{o:List Int}{D p:Addr}{i:Nat}{acc:List V}(h:RQq H os D i acc H')(hD:H D=none)(ho:os[i]?=some o)(hp:H' p=none):
  (upd H' p (.tup (o.map V.int))) D=some (.lst acc)/\RQq H os D (i+1) (acc++[.ref p]) (upd (upd H' p (.tup (o.map V.int))) D (.lst (acc++[.ref p]))):=by
 obtain⟨e,s,ps,rfl,hl,r⟩:=h;have nD:D≠p:=λz=>by rw[<- z,e] at hp;cases hp
 have hp0:=m6 s hp;refine⟨by rw[f9 nD];exact e,d8,?_,ps++[p],by rw[List.map_append];rfl,by rw[List.length_append,hl];rfl,?_⟩
 ·intro b u eb
  rw[f9 (λz=>by rw[z,hD] at eb;cases eb),f9 (λz=>by rw[z,hp0] at eb;cases eb)]
  exact s _ _ eb
 ·intro j q u hj hu
  by_cases y:j<ps.length
  ·rw[List.getElem?_append_left y] at hj
   obtain⟨b,c⟩:=r j q u hj hu;refine⟨b,?_⟩;rw[f9 b,f9 (λz=>by rw[z,hp] at c;cases c)]
   exact c
  ·rw[List.getElem?_append_right (by lia)] at hj
   have:j=i:=by
    by_cases z:j-ps.length=0
    ·lia
    ·rw[List.getElem?_eq_none (by simp;lia)] at hj;cases hj
   subst this;rw[hl,Nat.sub_self] at hj;cases hj;rw[ho] at hu;cases hu;exact⟨Ne.symm nD,by rw[f9 (Ne.symm nD)];exact d8⟩
def b7k:Sp:=λvs H Q _=>∃(a:Addr)(os:List (List Int)),vs=[.ref a]/\Rws H a os/\os.length<=1000/\∀p H',H p=none->Same H H'->TTs H' p os->Q (.ref p) H'
abbrev b5z:Stmt:=top 122
theorem c3m:i8 ["orders"] ["orders"] (g6 b5z):=↑1
theorem c4i(D:DefT K mg "frozen" b5z ["orders"])(T:Txt K mg cl):FnT P w K mg base "frozen" 1 ["orders"] b7k:=by
 refine D.fn c3m (λvs H Q E h=>?_) (λf cdv A' outer s H vs Q E hr h=>?_)
 ·obtain⟨a,os,rfl,_⟩:=h
  rfl
 ·obtain⟨a,os,rfl,⟨ps,ea,hl,hr'⟩,hz,k⟩:=h
  refine⟨_,(g0 (j4 (l0 (a0r (K:=K)) (by rfl) T.z_tuple PyProof.Rows.boot_tuple (d5 (a1k (N:=["order"]) (nt:=1) (fr:=[]) rfl (a0w rfl rfl (by decide +kernel) (by decide +kernel) rfl rfl) (a5t (K:=K) (pv 0)) (z9 (by decide)) (λ_ _ _ _ _=>i4 (i:=0) (show(["order"]:List Str).Nodup by decide +kernel) rfl (Or.inl rfl) (Or.inr rfl)) (λ_ _ _ _ _=>(l0 (a0r (K:=K)) (by rfl) T.z_tuple PyProof.Rows.boot_tuple (d5 (pv 0) d6)))) d6)))),?_⟩
  have h60:6000<=sizeLine:=by decide
  fail "";refine a2m (xs:=ps.map V.ref) (by rw[List.length_map];lia) (RQq H os) (λD hD=>RQq.new hD) ?_ ?_ ?_
  ·rintro D i acc H' ⟨e,s,qs,rfl,hq,_⟩
   exact⟨e,by rw[List.length_map];exact hq,SqL.of (s _ _ ea)⟩
  ·intro D i x acc H' hD hx hp
   rw[List.getElem?_map] at hx;cases hpi:ps[i]? with
   | none=>rw[hpi] at hx;cases hx
   | some q=>
    rw[hpi] at hx;cases hx;have hi:i<os.length:=by rw[<- hl];exact(List.getElem?_eq_some_iff.mp hpi).1
    have hoi:=List.getElem?_eq_getElem hi;have eq:=hp.2.1 _ _ (hr' i q _ hpi hoi);fail "";exact λp hpn=>hp.push hD hoi hpn
  ·intro D acc H' hD hp
   rw[List.length_map,hl] at hp;obtain⟨e,s,qs,rfl,hq,r⟩:=hp;fail "";intro p hpn;refine k p _ (m6 s hpn) (s.trans (i3 hpn)) ⟨qs,d8,hq,λj q o h1 h2=>?_⟩;obtain⟨_,c⟩:=r j q o h1 h2;exact i3 hpn _ _ c
end
section
open PySem PySem.Spec L2
section
variable{P:Program}{w:World}{K:Frag}{mg:Str->Option Value}{base:Heap}{cl:Cl}
theorem _root_.L2.MethT.toBase{x m:Str}{C f:Addr}{k:Nat}{ps:List Str}{sp:Sp}(M:MethT P w K mg base C m k ps sp)(hf:findIn K (.ref C) m=some (some (.ref f)))(cm:d6u K C m f)(hm:mg x=some (.ref C)):c5w P w K mg base x m k ps sp:=by
 obtain⟨f',fd,F,hM,hb⟩:=M.ex;have:f'=f:=by have:=hM.at_;rw[hf] at this;cases this;rfl
 subst this;exact⟨C,f',fd,F,cm,hm,hb⟩
def a3z(cl:Cl):Sp:=λvs H Q _=>
 (∃(x dx bd:Addr)(v:V),vs=[.ref x,.ref bd,.str "giver",.str "taker",.str "told"]/\H x=some (.ins cl.Giver dx [("kept",v)])/\∀m r H',H m=none->H r=none->m≠r->Kp [x] H H'->H' m=some (.lst [])->H' r=some (.lst [])->H' x=some (.ins cl.Giver dx [("kept",v),("board",.ref bd),("name",.str "giver"),("other",.str "taker"),("stage_behind_marks",.str "told"),("stage_now",.str "rouse"),("marks_read",.ref m),("here",.non),("touched",.ref r)])->Q .non H')
 \/ (∃(x dx bd:Addr)(v:V),vs=[.ref x,.ref bd,.str "taker",.str "giver",.str "look"]/\H x=some (.ins cl.Taker dx [("taken",v)])/\∀m r H',H m=none->H r=none->m≠r->Kp [x] H H'->H' m=some (.lst [])->H' r=some (.lst [])->H' x=some (.ins cl.Taker dx [("taken",v),("board",.ref bd),("name",.str "taker"),("other",.str "giver"),("stage_behind_marks",.str "look"),("stage_now",.str "rouse"),("marks_read",.ref m),("here",.non),("touched",.ref r)])->Q .non H')
abbrev a9e:Stmt:=a0z (top 84) 0
theorem b7w:i8 ["self","board","name","other","stage_behind_marks"] ["self","board","name","other","stage_behind_marks"] (g6 a9e):=↑1
theorem b8v{C:Addr}(D:DefM K C "__init__" "Hand.__init__" a9e ["self","board","name","other","stage_behind_marks"])(T:Txt K mg cl):MethT P w K mg base C "__init__" 1 ["self","board","name","other","stage_behind_marks"] (a3z cl):=by
 refine D.fn b7w (λvs H Q E h=>?_) (λf cdv A' outer s H vs Q E hr h=>?_)
 ·rcases h with ⟨x,dx,bd,v,rfl,_⟩|⟨x,dx,bd,v,rfl,_⟩ <;> rfl
 ·skip
  refine⟨_,(d7 (m9 (K:=K) (pv 0) (pv 1))
   (d7 (m9 (K:=K) (pv 0) (pv 2))
   (d7 (m9 (K:=K) (pv 0) (pv 3))
   (d7 (m9 (K:=K) (pv 0) (pv 4))
   (d7 (m9 (K:=K) (pv 0) i9)
   (d7 (m9 (K:=K) (pv 0) (l7 d6))
   (d7 (m9 (K:=K) (pv 0) a2z)
   (g0 (m9 (K:=K) (pv 0) (l7 d6)))))))))),?_⟩
  rcases h with h|h
  ·obtain⟨x,dx,bd,v,rfl,ex,k⟩:=h
   fail "";refine⟨Nat.zero_le _,λm hm=>?_⟩;have nm:m≠x:=λz=>by rw[z,d8] at hm;cases hm
   have hm0:H m=none:=by simpa only [f9 nm] using hm
   fail "";refine⟨Nat.zero_le _,λr hr0=>?_⟩;have nr:r≠x:=λz=>by rw[z,d8] at hr0;cases hr0
   have nmr:r≠m:=λz=>by rw[z,f9 nm,f9 nm,d8] at hr0;cases hr0
   have hr1:H r=none:=by simpa only [f9 nr,f9 nmr] using hr0
   fail "";refine k m r _ hm0 hr1 (Ne.symm nmr) (λc o e n=>?_) ?_ ?_ ?_
   ·have nc:c≠x:=λz=>n (by simp[z])
    have c1:c≠m:=λz=>by rw[z,hm0] at e;cases e
    have c2:c≠r:=λz=>by rw[z,hr1] at e;cases e
    simpa only [f9 nc,f9 c1,f9 c2] using e
   ·simp only[f9 nm,f9 (Ne.symm nmr),d8]
   ·simp only[f9 nr,d8]
   ·rw[d8]
    rfl
  ·obtain⟨x,dx,bd,v,rfl,ex,k⟩:=h
   fail "";refine⟨Nat.zero_le _,λm hm=>?_⟩;have nm:m≠x:=λz=>by rw[z,d8] at hm;cases hm
   have hm0:H m=none:=by simpa only [f9 nm] using hm
   fail "";refine⟨Nat.zero_le _,λr hr0=>?_⟩;have nr:r≠x:=λz=>by rw[z,d8] at hr0;cases hr0
   have nmr:r≠m:=λz=>by rw[z,f9 nm,f9 nm,d8] at hr0;cases hr0
   have hr1:H r=none:=by simpa only [f9 nr,f9 nmr] using hr0
   fail "";refine k m r _ hm0 hr1 (Ne.symm nmr) (λc o e n=>?_) ?_ ?_ ?_
   ·have nc:c≠x:=λz=>n (by simp[z])
    have c1:c≠m:=λz=>by rw[z,hm0] at e;cases e
    have c2:c≠r:=λz=>by rw[z,hr1] at e;cases e
    simpa only [f9 nc,f9 c1,f9 c2] using e
   ·simp only[f9 nm,f9 (Ne.symm nmr),d8]
   ·simp only[f9 nr,d8]
   ·rw[d8]
    rfl
def NRw(H H':Hp)(D:Addr)(S:List Addr)(os:List (List Int)):Prop:=∃ps:List Addr,H' D=some (.lst (ps.map V.ref))/\ps.length=os.length/\∀(j:Nat)(p:Addr)(o:List Int),ps[j]?=some p->os[j]?=some o->H p=none/\p≠D/\p ∉ S/\H' p=some (.lst (o.map V.int))
def a9t(cl:Cl):Sp:=λvs H Q _=>∃(x dx bd a l:Addr)(n:Nat)(row:List Int)(many:Int)(last:V)(os:List (List Int)),vs=[.ref x,.ref bd,.ref a]/\H x=some (.ins cl.Giver dx [])/\Brd cl H bd l n row many last/\RIn H a os/\b4w n os/\os.length<=1000 /\
 ∀D m r H',H D=none->H m=none->H r=none->D≠m->D≠r->m≠r->Kp [x] H H'->NRw H H' D [m,r] os->H' m=some (.lst [])->H' r=some (.lst [])->H' x=some (.ins cl.Giver dx [("kept",.ref D),("board",.ref bd),("name",.str "giver"),("other",.str "taker"),("stage_behind_marks",.str "told"),("stage_now",.str "rouse"),("marks_read",.ref m),("here",.non),("touched",.ref r),("number",.int (-1)),("left",.int 0)])->Q .non H'
abbrev a7k:Stmt:=a0z (top 100) 0
theorem b5v:i8 ["self","board","orders"] ["self","board","orders"] (g6 a7k):=↑1
theorem b6t(D:DefM K cl.Giver "__init__" "Giver.__init__" a7k ["self","board","orders"])(T:Txt K mg cl)(G_orders_of:FnT P w K mg base "orders_of" 2 ["size","orders"] (a5h cl))(G_Hand_init:c5w P w K mg base "Hand" "__init__" 1 ["self","board","name","other","stage_behind_marks"] (a3z cl)):MethT P w K mg base cl.Giver "__init__" 3 ["self","board","orders"] (a9t cl):=by
 refine D.fn b5v (λvs H Q E h=>?_) (λf cdv A' outer s H vs Q E hr h=>?_)
 ·obtain⟨x,dx,bd,a,l,n,row,many,last,os,rfl,_⟩:=h
  rfl
 ·obtain⟨x,dx,bd,a,l,n,row,many,last,os,rfl,ex,hB,hR,hG,hz,k⟩:=h
  refine⟨_,(d7 (m9 (K:=K) (pv 0) (l8 G_orders_of hr (by decide) rfl j8 (d5 (m4 (K:=K) (pv 1)) (d5 (pv 2) d6))))
   (d7 (z8 (c4b G_Hand_init hr (by decide) rfl j8 (d5 (pv 0) (d5 (pv 1) (d5 i9 (d5 i9 (d5 i9 d6)))))))
   (d7 (m9 (K:=K) (pv 0) (a0m T.m_NO_ORDER rfl))
   (g0 (m9 (K:=K) (pv 0) d9))))),?_⟩
  obtain⟨⟨dxb,eb⟩,_⟩:=id hB;fail "";refine⟨n,a,os,rfl,hR,hG,hz,λD H1 nr=>?_⟩;obtain⟨hD,s1,qs,eD,lq,rq⟩:=nr;have ex1:=s1 _ _ ex;have nDx:D≠x:=λz=>by rw[z,ex] at hD;cases hD
  fail "";refine .inl ⟨x,dx,bd,.ref D,rfl,d8,λm r H2 hm hr0 hmr kp em er ex2=>?_⟩;have nmx:m≠x:=λz=>by rw[z,d8] at hm;cases hm
  have nrx:r≠x:=λz=>by rw[z,d8] at hr0;cases hr0
  rw[f9 nmx] at hm;rw[f9 nrx] at hr0;have hm0:=m6 s1 hm;have hr1:=m6 s1 hr0;have nDm:D≠m:=λz=>by rw[<- z,eD] at hm;cases hm
  have nDr:D≠r:=λz=>by rw[<- z,eD] at hr0;cases hr0
  have eD2:H2 D=some (.lst (qs.map V.ref)):=kp _ _ (by rw[f9 nDx];exact eD) (by simpa using nDx)
  have k1:Kp [x] H H2:=λc o e n=>kp _ _ (by rw[f9 (by simpa using n)];exact s1 _ _ e) n
  have rows2:∀(j:Nat)(p:Addr)(o:List Int),qs[j]?=some p->os[j]?=some o->H p=none/\p≠D/\p≠x/\p≠m/\p≠r/\H2 p=some (.lst (o.map V.int)):=λj p o hp ho=>by
   obtain⟨a1,a2,a3⟩:=rq j p o hp ho;have px:p≠x:=λz=>by rw[z,ex] at a1;cases a1
   exact⟨a1,a2,px,(λz=>by rw[z,hm] at a3;cases a3),(λz=>by rw[z,hr0] at a3;cases a3),kp _ _ (by rw[f9 px];exact a3) (by simpa using px)⟩
  fail "";refine k D m r _ hD hm0 hr1 nDm nDr hmr (λc o e n=>?_) ⟨qs,?_,lq,λj p o hp ho=>?_⟩ ?_ ?_ ?_
  ·have nc:c≠x:=by simpa using n
   simp only[f9 nc];exact k1 _ _ e n
  ·simp only[f9 nDx]
   exact eD2
  ·obtain⟨a1,a2,a3,a4,a5,a6⟩:=rows2 j p o hp ho
   refine⟨a1,a2,by simp[a4,a5],?_⟩
   simp only[f9 a3];exact a6
  ·simp only[f9 nmx]
   exact em
  ·simp only[f9 nrx]
   exact er
  ·rw[d8]
   rfl
def a9p(cl:Cl):Sp:=λvs H Q _=>∃(x dx bd a l:Addr)(n:Nat)(row:List Int)(many:Int)(last:V)(os:List (List Int)),vs=[.ref x,.ref bd,.ref a]/\H x=some (.ins cl.Taker dx [])/\Brd cl H bd l n row many last/\RIn H a os/\b4w n os/\os.length<=1000 /\
 ∀D m r q H',H D=none->H m=none->H r=none->D≠m->D≠r->m≠r->H q=none->q≠D->q≠m->q≠r->H' q=some (.lst [])->Kp [x] H H'->NRw H H' D [m,r,q] os->H' m=some (.lst [])->H' r=some (.lst [])->H' x=some (.ins cl.Taker dx [("taken",.ref D),("board",.ref bd),("name",.str "taker"),("other",.str "giver"),("stage_behind_marks",.str "look"),("stage_now",.str "rouse"),("marks_read",.ref m),("here",.non),("touched",.ref r),("not_freed",.non),("number",.int 0),("left",.int 0),("parts",.ref q)])->Q .non H'
abbrev a7g:Stmt:=a0z (top 110) 0
theorem b5r:i8 ["self","board","book"] ["self","board","book"] (g6 a7g):=↑1
theorem b6p(D:DefM K cl.Taker "__init__" "Taker.__init__" a7g ["self","board","book"])(T:Txt K mg cl)(G_orders_of:FnT P w K mg base "orders_of" 2 ["size","orders"] (a5h cl))(G_Hand_init:c5w P w K mg base "Hand" "__init__" 1 ["self","board","name","other","stage_behind_marks"] (a3z cl)):MethT P w K mg base cl.Taker "__init__" 3 ["self","board","book"] (a9p cl):=by
 refine D.fn b5r (λvs H Q E h=>?_) (λf cdv A' outer s H vs Q E hr h=>?_)
 ·obtain⟨x,dx,bd,a,l,n,row,many,last,os,rfl,_⟩:=h
  rfl
 ·obtain⟨x,dx,bd,a,l,n,row,many,last,os,rfl,ex,hB,hR,hG,hz,k⟩:=h
  refine⟨_,(d7 (m9 (K:=K) (pv 0) (l8 G_orders_of hr (by decide) rfl j8 (d5 (m4 (K:=K) (pv 1)) (d5 (pv 2) d6))))
   (d7 (z8 (c4b G_Hand_init hr (by decide) rfl j8 (d5 (pv 0) (d5 (pv 1) (d5 i9 (d5 i9 (d5 i9 d6)))))))
   (d7 (m9 (K:=K) (pv 0) a2z)
   (d7 (m9 (K:=K) (pv 0) d9)
   (d7 (m9 (K:=K) (pv 0) d9)
   (g0 (m9 (K:=K) (pv 0) (l7 d6)))))))),?_⟩
  obtain⟨⟨dxb,eb⟩,_⟩:=id hB;fail "";refine⟨n,a,os,rfl,hR,hG,hz,λD H1 nr=>?_⟩;obtain⟨hD,s1,qs,eD,lq,rq⟩:=nr;have ex1:=s1 _ _ ex;have nDx:D≠x:=λz=>by rw[z,ex] at hD;cases hD
  fail "";refine .inr ⟨x,dx,bd,.ref D,rfl,d8,λm r H2 hm hr0 hmr kp em er ex2=>?_⟩;have nmx:m≠x:=λz=>by rw[z,d8] at hm;cases hm
  have nrx:r≠x:=λz=>by rw[z,d8] at hr0;cases hr0
  rw[f9 nmx] at hm;rw[f9 nrx] at hr0;have hm0:=m6 s1 hm;have hr1:=m6 s1 hr0;have nDm:D≠m:=λz=>by rw[<- z,eD] at hm;cases hm
  have nDr:D≠r:=λz=>by rw[<- z,eD] at hr0;cases hr0
  have eD2:H2 D=some (.lst (qs.map V.ref)):=kp _ _ (by rw[f9 nDx];exact eD) (by simpa using nDx)
  have k1:Kp [x] H H2:=λc o e n=>kp _ _ (by rw[f9 (by simpa using n)];exact s1 _ _ e) n
  have rows2:∀(j:Nat)(p:Addr)(o:List Int),qs[j]?=some p->os[j]?=some o->H p=none/\p≠D/\p≠x/\p≠m/\p≠r/\H2 p=some (.lst (o.map V.int)):=λj p o hp ho=>by
   obtain⟨a1,a2,a3⟩:=rq j p o hp ho;have px:p≠x:=λz=>by rw[z,ex] at a1;cases a1
   exact⟨a1,a2,px,(λz=>by rw[z,hm] at a3;cases a3),(λz=>by rw[z,hr0] at a3;cases a3),kp _ _ (by rw[f9 px];exact a3) (by simpa using px)⟩
  fail "";refine⟨Nat.zero_le _,λq hq=>?_⟩;have nqx:q≠x:=λz=>by rw[z,d8] at hq;cases hq
  simp only[f9 nqx] at hq;have hq0:H q=none:=by
   cases e:H q with
   | none=>rfl
   | some o=>rw[k1 _ _ e (by simpa using nqx)] at hq;cases hq
  have nqD:q≠D:=λz=>by rw[z,eD2] at hq;cases hq
  have nqm:q≠m:=λz=>by rw[z,em] at hq;cases hq
  have nqr:q≠r:=λz=>by rw[z,er] at hq;cases hq
  fail "";refine k D m r q _ hD hm0 hr1 nDm nDr hmr hq0 nqD nqm nqr ?_ (λc o e n=>?_) ⟨qs,?_,lq,λj p o hp ho=>?_⟩ ?_ ?_ ?_
  ·simp only[f9 nqx,d8]
  ·have nc:c≠x:=by simpa using n
   have ncq:c≠q:=λz=>by rw[z,hq0] at e;cases e
   simp only[f9 nc,f9 ncq];exact k1 _ _ e n
  ·simp only[f9 nDx,f9 (Ne.symm nqD)]
   exact eD2
  ·obtain⟨a1,a2,a3,a4,a5,a6⟩:=rows2 j p o hp ho
   have npq:p≠q:=λz=>by rw[z,hq] at a6;cases a6
   refine⟨a1,a2,by simp[a4,a5,npq],?_⟩
   simp only[f9 a3,f9 npq];exact a6
  ·simp only[f9 nmx,f9 (Ne.symm nqm)]
   exact em
  ·simp only[f9 nrx,f9 (Ne.symm nqr)]
   exact er
  ·rw[d8]
   rfl
theorem RIn.same{H H':Hp}{a:Addr}{os:List (List Int)}(h:RIn H a os)(s:Same H H'):RIn H' a os:=h.imp (λz=>⟨z.1,s _ _ z.2⟩) λz=>z.same s
theorem b1b{H:Hp}{x dx:Addr}{u o:HO}(hx:H x=none)(hd:H dx=none)(ne:dx≠x):Same H (upd (upd H dx u) x o) :=
 (i3 hd).trans (i3 (by rw[f9 (Ne.symm ne)];exact hx))
def a1n(cl:Cl):Sp:=λvs H Q _=>∃(la dxl bd kt a l:Addr)(n:Nat)(row:List Int)(many:Int)(last:V)(os:List (List Int))(fs:List (Str×V))(fs':Addr->List (Str×V)),vs=[.ref la,.ref a]/\((fs=([("board",.ref bd),("kept_trail",.ref kt)]:List (Str×V))/\∀g,fs' g=([("board",.ref bd),("kept_trail",.ref kt),("giver",.ref g)]:List (Str×V)))\/(∃v u,fs=([("board",.ref bd),("kept_trail",.ref kt),("giver",v),("taker",u)]:List (Str×V))/\∀g,fs' g=([("board",.ref bd),("kept_trail",.ref kt),("giver",.ref g),("taker",u)]:List (Str×V))))/\H la=some (.ins cl.Lane dxl fs)/\Brd cl H bd l n row many last/\RIn H a os/\b4w n os/\os.length<=1000 /\
 ∀g dxg D m H',H g=none->H D=none->H m=none->g≠D->g≠m->D≠m->Kp [la] H H'->NRw H H' D [g,m] os->H' m=some (.lst [])->H' g=some (.ins cl.Giver dxg [("kept",.ref D),("board",.ref bd),("name",.str "giver"),("other",.str "taker"),("stage_behind_marks",.str "told"),("stage_now",.str "rouse"),("marks_read",.ref m),("here",.non),("touched",.ref kt),("number",.int (-1)),("left",.int 0)])->H' la=some (.ins cl.Lane dxl (fs' g))->Q .non H'
abbrev a1s:Stmt:=a0z (top 112) 1
theorem a3l:i8 ["self","orders","giver"] ["self","orders"] (g6 a1s):=↑1
theorem a9g(D:DefM K cl.Lane "place_giver" "Lane.place_giver" a1s ["self","orders"])(T:Txt K mg cl)(G_Giver:c2z P w K mg base "Giver" cl.Giver 3 ["self","board","orders"] (a9t cl)):MethT P w K mg base cl.Lane "place_giver" 5 ["self","orders"] (a1n cl):=by
 refine D.fn a3l (λvs H Q E h=>?_) (λf cdv A' outer s H vs Q E hr h=>?_)
 ·obtain⟨la,dxl,bd,kt,a,l,n,row,many,last,os,fs,fs',rfl,_⟩:=h
  rfl
 ·obtain⟨la,dxl,bd,kt,a,l,n,row,many,last,os,fs,fs',rfl,hfs,ela,hB,hR,hG,hz,k⟩:=h
  refine⟨_,(d7 (j7 (i:=2) a3l.nd rfl (by first|exact Or.inl rfl|exact Or.inr rfl) (c6q G_Giver hr (by decide) rfl j8 (d5 (m4 (K:=K) (pv 0)) (d5 (pv 1) d6))))
   (d7 (m9 (K:=K) (pv 2) (m4 (K:=K) (pv 0)))
   (g0 (m9 (K:=K) (pv 0) (pv 2))))),?_⟩
  rcases hfs with hs1|hs2
  ·obtain⟨rfl,hfs⟩:=hs1
   fail "";intro x dx hx hdx ne;have sm:=b1b (u:=.own x) (o:=.ins cl.Giver dx []) hx hdx ne;refine⟨x,dx,bd,a,l,n,row,many,last,os,rfl,d8,hB.keep (ps:=[]) (Kp.of sm) (by simp) (by simp),hR.same sm,hG,hz,λD m r H2 hD hm hr0 nDm nDr nmr kp nr em er ex2=>⟨rfl,?_⟩⟩
   fail "b";obtain⟨qs,eD,lq,rq⟩:=nr;fail "";refine k x dx D m _ hx hD0 hm0 (Ne.symm nDx) (Ne.symm nmx) nDm (λc o e n=>?_) ⟨qs,?_,lq,λj p o hp ho=>?_⟩ ?_ ?_ ?_
   ·have nc:c≠la:=by simpa using n
    have ncx:c≠x:=λz=>by rw[z,hx] at e;cases e
    simp only[f9 nc,f9 ncx];exact kp _ _ (sm _ _ e) (by simpa using ncx)
   ·simp only[f9 nDx,f9 nDl]
    exact eD
   ·obtain⟨b0,b2,b3,b4⟩:=rq j p o hp ho
    have px:p≠x:=λz=>by rw[z,d8] at b0;cases b0
    have p0:=m6 sm b0;have pl:p≠la:=λz=>by rw[z,ela] at p0;cases p0
    have b1:=(by simpa using b3:p≠m/\p≠r)
    refine⟨p0,b2,by simpa using ⟨px,b1.1⟩,?_⟩
    simp only[f9 px,f9 pl];exact b4
   ·simp only[f9 nmx,f9 nml]
    exact em
   ·rw[f9 (Ne.symm nla),d8]
    rfl
   ·rw[d8,hfs]
    rfl
  ·obtain⟨v,u,rfl,hfs⟩:=hs2
   fail "";intro x dx hx hdx ne;have sm:=b1b (u:=.own x) (o:=.ins cl.Giver dx []) hx hdx ne;refine⟨x,dx,bd,a,l,n,row,many,last,os,rfl,d8,hB.keep (ps:=[]) (Kp.of sm) (by simp) (by simp),hR.same sm,hG,hz,λD m r H2 hD hm hr0 nDm nDr nmr kp nr em er ex2=>⟨rfl,?_⟩⟩
   fail "b";obtain⟨qs,eD,lq,rq⟩:=nr;fail "";refine k x dx D m _ hx hD0 hm0 (Ne.symm nDx) (Ne.symm nmx) nDm (λc o e n=>?_) ⟨qs,?_,lq,λj p o hp ho=>?_⟩ ?_ ?_ ?_
   ·have nc:c≠la:=by simpa using n
    have ncx:c≠x:=λz=>by rw[z,hx] at e;cases e
    simp only[f9 nc,f9 ncx];exact kp _ _ (sm _ _ e) (by simpa using ncx)
   ·simp only[f9 nDx,f9 nDl]
    exact eD
   ·obtain⟨b0,b2,b3,b4⟩:=rq j p o hp ho
    have px:p≠x:=λz=>by rw[z,d8] at b0;cases b0
    have p0:=m6 sm b0;have pl:p≠la:=λz=>by rw[z,ela] at p0;cases p0
    have b1:=(by simpa using b3:p≠m/\p≠r)
    refine⟨p0,b2,by simpa using ⟨px,b1.1⟩,?_⟩
    simp only[f9 px,f9 pl];exact b4
   ·simp only[f9 nmx,f9 nml]
    exact em
   ·rw[f9 (Ne.symm nla),d8]
    rfl
   ·rw[d8,hfs]
    rfl
def a1m(cl:Cl):Sp:=λvs H Q _=>∃(la dxl bd kt a l:Addr)(n:Nat)(row:List Int)(many:Int)(last:V)(os:List (List Int))(fs:List (Str×V))(fs':Addr->List (Str×V)),vs=[.ref la,.ref a]/\((∃v,fs=([("board",.ref bd),("kept_trail",.ref kt),("giver",v)]:List (Str×V))/\∀g,fs' g=([("board",.ref bd),("kept_trail",.ref kt),("giver",v),("taker",.ref g)]:List (Str×V)))\/(∃v u,fs=([("board",.ref bd),("kept_trail",.ref kt),("giver",v),("taker",u)]:List (Str×V))/\∀g,fs' g=([("board",.ref bd),("kept_trail",.ref kt),("giver",v),("taker",.ref g)]:List (Str×V))))/\H la=some (.ins cl.Lane dxl fs)/\Brd cl H bd l n row many last/\RIn H a os/\b4w n os/\os.length<=1000 /\
 ∀g dxg D m q H',H g=none->H D=none->H m=none->g≠D->g≠m->D≠m->H q=none->q≠g->q≠D->q≠m->H' q=some (.lst [])->Kp [la] H H'->NRw H H' D [g,m,q] os->H' m=some (.lst [])->H' g=some (.ins cl.Taker dxg [("taken",.ref D),("board",.ref bd),("name",.str "taker"),("other",.str "giver"),("stage_behind_marks",.str "look"),("stage_now",.str "rouse"),("marks_read",.ref m),("here",.non),("touched",.ref kt),("not_freed",.non),("number",.int 0),("left",.int 0),("parts",.ref q)])->H' la=some (.ins cl.Lane dxl (fs' g))->Q .non H'
abbrev a1r:Stmt:=a0z (top 112) 2
theorem a3k:i8 ["self","book","taker"] ["self","book"] (g6 a1r):=↑1
theorem a9f(D:DefM K cl.Lane "place_taker" "Lane.place_taker" a1r ["self","book"])(T:Txt K mg cl)(G_Taker:c2z P w K mg base "Taker" cl.Taker 3 ["self","board","book"] (a9p cl)):MethT P w K mg base cl.Lane "place_taker" 5 ["self","book"] (a1m cl):=by
 refine D.fn a3k (λvs H Q E h=>?_) (λf cdv A' outer s H vs Q E hr h=>?_)
 ·obtain⟨la,dxl,bd,kt,a,l,n,row,many,last,os,fs,fs',rfl,_⟩:=h
  rfl
 ·obtain⟨la,dxl,bd,kt,a,l,n,row,many,last,os,fs,fs',rfl,hfs,ela,hB,hR,hG,hz,k⟩:=h
  refine⟨_,(d7 (j7 (i:=2) a3k.nd rfl (by first|exact Or.inl rfl|exact Or.inr rfl) (c6q G_Taker hr (by decide) rfl j8 (d5 (m4 (K:=K) (pv 0)) (d5 (pv 1) d6))))
   (d7 (m9 (K:=K) (pv 2) (m4 (K:=K) (pv 0)))
   (g0 (m9 (K:=K) (pv 0) (pv 2))))),?_⟩
  rcases hfs with hs1|hs2
  ·obtain⟨v,rfl,hfs⟩:=hs1
   fail "";intro x dx hx hdx ne;have sm:=b1b (u:=.own x) (o:=.ins cl.Taker dx []) hx hdx ne;refine⟨x,dx,bd,a,l,n,row,many,last,os,rfl,d8,hB.keep (ps:=[]) (Kp.of sm) (by simp) (by simp),hR.same sm,hG,hz,λD m r q H2 hD hm hr0 nDm nDr nmr hq nqD nqm nqr eq kp nr em er ex2=>⟨rfl,?_⟩⟩
   fail "b";have nqg:q≠x:=λz=>by rw[z,d8] at hq;cases hq
   have hq0:=m6 sm hq;have nql:q≠la:=λz=>by rw[z,ela] at hq0;cases hq0
   obtain⟨qs,eD,lq,rq⟩:=nr;fail "";refine k x dx D m q _ hx hD0 hm0 (Ne.symm nDx) (Ne.symm nmx) nDm hq0 nqg nqD nqm ?_ (λc o e n=>?_) ⟨qs,?_,lq,λj p o hp ho=>?_⟩ ?_ ?_ ?_
   ·simp only[f9 nql,f9 nqg]
    exact eq
   ·have nc:c≠la:=by simpa using n
    have ncx:c≠x:=λz=>by rw[z,hx] at e;cases e
    simp only[f9 nc,f9 ncx];exact kp _ _ (sm _ _ e) (by simpa using ncx)
   ·simp only[f9 nDx,f9 nDl]
    exact eD
   ·obtain⟨b0,b2,b3,b4⟩:=rq j p o hp ho
    have px:p≠x:=λz=>by rw[z,d8] at b0;cases b0
    have p0:=m6 sm b0;have pl:p≠la:=λz=>by rw[z,ela] at p0;cases p0
    have b1:=(by simpa using b3:p≠m/\p≠r/\p≠q)
    refine⟨p0,b2,by simpa using ⟨px,b1.1,b1.2.2⟩,?_⟩
    simp only[f9 px,f9 pl];exact b4
   ·simp only[f9 nmx,f9 nml]
    exact em
   ·rw[f9 (Ne.symm nla),d8]
    rfl
   ·rw[d8,hfs]
    rfl
  ·obtain⟨v,u,rfl,hfs⟩:=hs2
   fail "";intro x dx hx hdx ne;have sm:=b1b (u:=.own x) (o:=.ins cl.Taker dx []) hx hdx ne;refine⟨x,dx,bd,a,l,n,row,many,last,os,rfl,d8,hB.keep (ps:=[]) (Kp.of sm) (by simp) (by simp),hR.same sm,hG,hz,λD m r q H2 hD hm hr0 nDm nDr nmr hq nqD nqm nqr eq kp nr em er ex2=>⟨rfl,?_⟩⟩
   fail "b";have nqg:q≠x:=λz=>by rw[z,d8] at hq;cases hq
   have hq0:=m6 sm hq;have nql:q≠la:=λz=>by rw[z,ela] at hq0;cases hq0
   obtain⟨qs,eD,lq,rq⟩:=nr;fail "";refine k x dx D m q _ hx hD0 hm0 (Ne.symm nDx) (Ne.symm nmx) nDm hq0 nqg nqD nqm ?_ (λc o e n=>?_) ⟨qs,?_,lq,λj p o hp ho=>?_⟩ ?_ ?_ ?_
   ·simp only[f9 nql,f9 nqg]
    exact eq
   ·have nc:c≠la:=by simpa using n
    have ncx:c≠x:=λz=>by rw[z,hx] at e;cases e
    simp only[f9 nc,f9 ncx];exact kp _ _ (sm _ _ e) (by simpa using ncx)
   ·simp only[f9 nDx,f9 nDl]
    exact eD
   ·obtain⟨b0,b2,b3,b4⟩:=rq j p o hp ho
    have px:p≠x:=λz=>by rw[z,d8] at b0;cases b0
    have p0:=m6 sm b0;have pl:p≠la:=λz=>by rw[z,ela] at p0;cases p0
    have b1:=(by simpa using b3:p≠m/\p≠r/\p≠q)
    refine⟨p0,b2,by simpa using ⟨px,b1.1,b1.2.2⟩,?_⟩
    simp only[f9 px,f9 pl];exact b4
   ·simp only[f9 nmx,f9 nml]
    exact em
   ·rw[f9 (Ne.symm nla),d8]
    rfl
   ·rw[d8,hfs]
    rfl
theorem a3d{H:Hp}{x y:Addr}{u v:HO}(e:H x=some u)(e':H y=some v)(n:u≠v):x≠y:=λz=>by
 rw[z,e'] at e;exact n (Option.some.inj e).symm
def b1r(cl:Cl):Sp:=λvs H Q _=>∃(la dx:Addr)(n:Nat),vs=[.ref la,.int n]/\H la=some (.ins cl.Lane dx [])/\2<=n/\n<=8/\∀bd l kt v u H',H bd=none->H l=none->H kt=none->bd≠l->bd≠kt->l≠kt->Kp [la] H H'->Brd cl H' bd l n (b0i n) 0 .non->H' kt=some (.lst [])->H' la=some (.ins cl.Lane dx [("board",.ref bd),("kept_trail",.ref kt),("giver",v),("taker",u)])->Q .non H'
abbrev a9c:Stmt:=a0z (top 112) 0
theorem b7u:i8 ["self","size"] ["self","size"] (g6 a9c):=↑1
theorem b8t(D:DefM K cl.Lane "__init__" "Lane.__init__" a9c ["self","size"])(T:Txt K mg cl)(G_Board:c2z P w K mg base "Board" cl.Board 2 ["self","size"] (a9u cl))(G_Lane_place_giver:MethT P w K mg base cl.Lane "place_giver" 5 ["self","orders"] (a1n cl))(G_Lane_place_taker:MethT P w K mg base cl.Lane "place_taker" 5 ["self","book"] (a1m cl)):MethT P w K mg base cl.Lane "__init__" 6 ["self","size"] (b1r cl):=by
 refine D.fn b7u (λvs H Q E h=>?_) (λf cdv A' outer s H vs Q E hr h=>?_)
 ·obtain⟨la,dx,n,rfl,_⟩:=h
  rfl
 ·obtain⟨la,dx,n,rfl,ela,n2,n8,k⟩:=h
  refine⟨_,(d7 (m9 (K:=K) (pv 0) (c6q G_Board hr (by decide) rfl j8 (d5 (pv 1) d6)))
   (d7 (m9 (K:=K) (pv 0) (l7 d6))
   (d7 (z8 (c3y (pv 0) T.k_Lane G_Lane_place_giver hr (by decide) j8 (d5 (l7 d6) d6)))
   (g0 (z8 (c3y (pv 0) T.k_Lane G_Lane_place_taker hr (by decide) j8 (d5 (l7 d6) d6))))))),?_⟩
  fail "";intro bd dxb hbd hdxb ne;have sm:=b1b (u:=.own bd) (o:=.ins cl.Board dxb []) hbd hdxb ne;refine⟨bd,dxb,n,rfl,d8,?_⟩;rw[if_pos ⟨by lia,by lia⟩]
  intro l H1 hl kp1 hB1;refine⟨rfl,?_⟩;rw[show((n:Nat):Int).toNat=n from rfl] at hB1;have hl0:=m6 sm hl;have nlb:la≠bd:=λz=>by rw[<- z,ela] at hbd;cases hbd
  have nll:la≠l:=λz=>by rw[<- z,ela] at hl0;cases hl0
  have ela1:=kp1 _ _ (sm _ _ ela) (by simpa using nlb)
  have n01:bd≠l:=by
   obtain⟨⟨_,e1⟩,e2,_⟩:=hB1;exact a3d e1 e2 (λz=>(nomatch z))
  have kH1:∀x o,H x=some o->x≠la->H1 x=some o:=λx o e _=>kp1 _ _ (sm _ _ e) (by simpa using λz=>by rw[z,hbd] at e;cases e)
  fail "";refine⟨Nat.zero_le _,λkt hkt=>?_⟩;have nkl:kt≠la:=λz=>by rw[z,d8] at hkt;cases hkt
  rw[f9 nkl] at hkt;have n04:bd≠kt:=λz=>by obtain⟨⟨_,e1⟩,_⟩:=hB1;rw[z,hkt] at e1;cases e1
  have n14:l≠kt:=λz=>by obtain⟨_,e1,_⟩:=hB1;rw[z,hkt] at e1;cases e1
  have hkt0:H kt=none:=by
   cases e:H kt with
   | none=>rfl
   | some o=>rw[kH1 _ _ e nkl] at hkt;cases hkt
  fail "";refine⟨Nat.zero_le _,λa1 ha1=>?_⟩;have na1:a1≠la:=λz=>by rw[z,d8] at ha1;cases ha1
  have nak:a1≠kt:=λz=>by rw[z,f9 nkl,d8] at ha1;cases ha1
  simp only[f9 na1,f9 nak] at ha1;fail "";generalize e3:upd (upd (upd (upd H1 la _) kt _) la _) a1 _=H3;have l3:H3 la=some (.ins cl.Lane dx [("board",.ref bd),("kept_trail",.ref kt)]):=by rw[<- e3,f9 (Ne.symm na1),d8];rfl
  have k3:∀x o,H1 x=some o->x≠la->H3 x=some o:=λx o e nx=>by
   rw[<- e3,f9 (λz=>by rw[z,ha1] at e;cases e),f9 nx,f9 (λz=>by rw[z,hkt] at e;cases e),f9 nx]
   exact e
  have t3:H3 kt=some (.lst []):=by rw[<- e3,f9 (Ne.symm nak),f9 nkl,d8]
  have a3:H3 a1=some (.lst []):=by rw[<- e3,d8]
  have hB3:Brd cl H3 bd l n (b0i n) 0 .non:=hB1.keep (ps:=[la]) (λc o e nn=>k3 c o e (by simpa using nn)) (by simpa using Ne.symm nlb) (by simpa using Ne.symm nll)
  have kH3:∀x o,H x=some o->x≠la->H3 x=some o:=λx o e nx=>k3 x o (kH1 x o e nx) nx;clear e3;refine⟨la,dx,bd,kt,a1,l,n,b0i n,0,.non,[],_,_,rfl,.inl ⟨rfl,λ_=>rfl⟩,l3,hB3,.inl ⟨rfl,a3⟩,(λo ho=>by cases ho),by decide,λg dxg D m H4 hg hD hm gD gm Dm kp4 nr4 em4 eg4 l4=>?_⟩
  fail "";refine⟨Nat.zero_le _,λa2 ha2=>?_⟩;fail "";generalize e5:upd H4 a2 _=H5;have s5:Same H4 H5:=by rw[<- e5];exact i3 ha2
  have a5:H5 a2=some (.lst []):=by rw[<- e5,d8]
  clear e5;have k35:Kp [la] H3 H5:=λx o e nx=>s5 _ _ (kp4 x o e nx);have hB5:=hB3.keep k35 (by simpa using Ne.symm nlb) (by simpa using Ne.symm nll)
  refine⟨la,dx,bd,kt,a2,l,n,b0i n,0,.non,[],_,_,rfl,.inl ⟨.ref g,rfl,λ_=>rfl⟩,s5 _ _ l4,hB5,.inl ⟨rfl,a5⟩,(λo ho=>by cases ho),by decide,λt dxt D2 m2 q H6 ht hD2 hm2 tD2 tm2 Dm2 hq qt qD2 qm2 eq6 kp6 nr6 em6 et6 l6=>?_⟩
  have hB6:=hB5.keep kp6 (by simpa using Ne.symm nlb) (by simpa using Ne.symm nll)
  have t6:=kp6 _ _ (k35 _ _ t3 (by simpa using nkl)) (by simpa using nkl)
  exact k bd l kt _ _ H6 hbd hl0 hkt0 n01 n04 n14 (λx o e nx=>kp6 x o (k35 x o (kH3 x o e (by simpa using nx)) nx) nx) hB6 t6 l6
def a9v(cl:Cl):Sp:=λvs H Q _=>∃(b l c:Addr)(n:Nat)(row row':List Int)(many:Int)(last:V),vs=[.ref b,.ref c]/\Brd cl H b l n row many last/\H c=some (.tup (row'.map V.int))/\row'.length=4*n+4/\∀l' H',H l'=none->Kp [b] H H'->Brd cl H' b l' n row' many last->Q .non H'
abbrev a7n:Stmt:=a0z (top 57) 5
theorem b5x:i8 ["self","cells"] ["self","cells"] (g6 a7n):=↑1
theorem b6v(D:DefM K cl.Board "fill" "Board.fill" a7n ["self","cells"])(T:Txt K mg cl):MethT P w K mg base cl.Board "fill" 1 ["self","cells"] (a9v cl):=by
 refine D.fn b5x (λvs H Q E h=>?_) (λf cdv A' outer s H vs Q E hr h=>?_)
 ·obtain⟨b,l,c,n,row,row',many,last,rfl,_⟩:=h
  rfl
 ·obtain⟨b,l,c,n,row,row',many,last,rfl,⟨⟨dx,eb⟩,el,hl,n2,n8⟩,ec,hl',k⟩:=h
  refine⟨_,(g0 (m9 (K:=K) (pv 0) (l0 (a0d (K:=K)) (by rfl) T.z_list PyProof.Rows.boot_list (d5 (pv 1) d6)))),?_⟩
  fail "";intro p hp;have nb:=g9 eb hp;fail "";refine k p _ hp (λx o e n=>?_) ⟨⟨dx,?_⟩,?_,hl',n2,n8⟩
  ·have nx:x≠b:=by simpa using n
   rw[f9 nx,f9 (g9 e hp)];exact e
  ·rw[d8];rfl
  ·rw[f9 (Ne.symm nb),d8]
abbrev gO(cl:Cl)(dx D bd kt mr:Addr)(st:Str)(he:Hr)(nu le:Int):HO:=.ins cl.Giver dx [("kept",.ref D),("board",.ref bd),("name",.str "giver"),("other",.str "taker"),("stage_behind_marks",.str "told"),("stage_now",.str st),("marks_read",.ref mr),("here",he.v),("touched",.ref kt),("number",.int nu),("left",.int le)]
abbrev tO(cl:Cl)(dx D bd kt mr pa:Addr)(st:Str)(he nf:Hr)(nu le:Int):HO:=.ins cl.Taker dx [("taken",.ref D),("board",.ref bd),("name",.str "taker"),("other",.str "giver"),("stage_behind_marks",.str "look"),("stage_now",.str st),("marks_read",.ref mr),("here",he.v),("touched",.ref kt),("not_freed",nf.v),("number",.int nu),("left",.int le),("parts",.ref pa)]
abbrev a0g:Stmt:=a0z (top 84) 5
theorem a2y:i8 ["self","stage","turn","marks"] ["self","stage","turn","marks"] (g6 a0g):=↑1
def a2p(cl:Cl):Sp:=λvs H Q _=>∃(x dx D bd kt mr:Addr)(st0:Str)(he0:Hr)(nu le:Int)(st:Str)(he:Hr)(ms:List Int)(a:Addr),vs=[.ref x,.str st,he.v,.ref a]/\H x=some (gO cl dx D bd kt mr st0 he0 nu le)/\H a=some (.tup (ms.map V.int))/\∀p H',H p=none->Kp [x] H H'->H' p=some (.lst (ms.map V.int))->H' x=some (gO cl dx D bd kt p st he nu le)->Q .non H'
theorem a7v(D:DefM K cl.Giver "recall_start" "Hand.recall_start" a0g ["self","stage","turn","marks"])(T:Txt K mg cl):MethT P w K mg base cl.Giver "recall_start" 1 ["self","stage","turn","marks"] (a2p cl):=by
 refine D.fn a2y (λvs H Q E h=>?_) (λf cdv A' outer s H vs Q E hr h=>?_)
 ·obtain⟨x,dx,D,bd,kt,mr,st0,he0,nu,le,st,he,ms,a,rfl,_⟩:=h
  rfl
 ·obtain⟨x,dx,D,bd,kt,mr,st0,he0,nu,le,st,he,ms,a,rfl,ex,ea,k⟩:=h
  refine⟨_,(d7 (m9 (K:=K) (pv 0) (pv 1))
   (d7 (m9 (K:=K) (pv 0) (pv 2))
   (g0 (m9 (K:=K) (pv 0) (l0 (a0d (K:=K)) (by rfl) T.z_list PyProof.Rows.boot_list (d5 (pv 3) d6)))))),?_⟩
  have nxa:x≠a:=a3d ex ea λz=>nomatch z;fail "";intro p hp;have npx:p≠x:=λz=>by rw[z,d8] at hp;cases hp
  have hp0:H p=none:=by simpa only [f9 npx] using hp
  fail "";refine k p _ hp0 (λy o e n=>?_) ?_ ?_
  ·have ny:y≠x:=by simpa using n
   simp only[f9 ny,f9 (g9 e hp0)];exact e
  ·simp only[f9 npx,d8]
  ·rw[d8];rfl
def a2o(cl:Cl):Sp:=λvs H Q _=>∃(x dx D bd kt mr pa:Addr)(st0:Str)(he0 nf:Hr)(nu le:Int)(st:Str)(he:Hr)(ms:List Int)(a:Addr),vs=[.ref x,.str st,he.v,.ref a]/\H x=some (tO cl dx D bd kt mr pa st0 he0 nf nu le)/\H a=some (.tup (ms.map V.int))/\∀p H',H p=none->Kp [x] H H'->H' p=some (.lst (ms.map V.int))->H' x=some (tO cl dx D bd kt p pa st he nf nu le)->Q .non H'
theorem a7u(D:DefM K cl.Taker "recall_start" "Hand.recall_start" a0g ["self","stage","turn","marks"])(T:Txt K mg cl):MethT P w K mg base cl.Taker "recall_start" 1 ["self","stage","turn","marks"] (a2o cl):=by
 refine D.fn a2y (λvs H Q E h=>?_) (λf cdv A' outer s H vs Q E hr h=>?_)
 ·obtain⟨x,dx,D,bd,kt,mr,pa,st0,he0,nf,nu,le,st,he,ms,a,rfl,_⟩:=h
  rfl
 ·obtain⟨x,dx,D,bd,kt,mr,pa,st0,he0,nf,nu,le,st,he,ms,a,rfl,ex,ea,k⟩:=h
  refine⟨_,(d7 (m9 (K:=K) (pv 0) (pv 1))
   (d7 (m9 (K:=K) (pv 0) (pv 2))
   (g0 (m9 (K:=K) (pv 0) (l0 (a0d (K:=K)) (by rfl) T.z_list PyProof.Rows.boot_list (d5 (pv 3) d6)))))),?_⟩
  have nxa:x≠a:=a3d ex ea λz=>nomatch z;fail "";intro p hp;have npx:p≠x:=λz=>by rw[z,d8] at hp;cases hp
  have hp0:H p=none:=by simpa only [f9 npx] using hp
  fail "";refine k p _ hp0 (λy o e n=>?_) ?_ ?_
  ·have ny:y≠x:=by simpa using n
   simp only[f9 ny,f9 (g9 e hp0)];exact e
  ·simp only[f9 npx,d8]
  ·rw[d8];rfl
theorem b5e{f:Str}{ta:TE}{v:V}{σ:St}{H:Hp}{Q:St->Hp->Prop}(q:ta σ H λx H1=>∃a C dx fs,x=.ref a/\H1 a=some (.ins C dx fs)/\Cls K C/\NoAttr K C f/\fs.length<1000/\Q σ (upd H1 a (.ins C dx (b6d f v fs)))):d6n K ta f v σ H Q:=q
def gnu(g:GSd):Int:=if g.st="lacks" then g.od else if g.pt=0 then g.od-1 else g.od
def gle(g:GSd)(os:List (List Int)):Int:=if g.st="lacks" then 0 else if g.pt=0 then 0 else ((os.getD g.od.toNat []).length:Int)-g.pt
def a6v(cl:Cl):Sp:=λvs H Q _=>∃(x dx D bd kt mr:Addr)(st0:Str)(he0:Hr)(nu0 le0:Int)(a:Addr)(g:GSd)(os:List (List Int)),vs=[.ref x,.ref a]/\H x=some (gO cl dx D bd kt mr st0 he0 nu0 le0)/\GT H a g/\Rws H D os/\b0c g.st g.od g.pt os/\∀p H',H p=none->Kp [x] H H'->H' p=some (.lst (g.ms.map V.int))->H' x=some (gO cl dx D bd kt p g.st g.he (gnu g) (gle g os))->Q .non H'
abbrev a4r:Stmt:=a0z (top 100) 11
theorem a0o:i8 ["self","mind","stage","turn","marks","order","part"] ["self","mind"] (g6 a4r):=↑1
theorem b3s(D:DefM K cl.Giver "recall" "Giver.recall" a4r ["self","mind"])(T:Txt K mg cl)(GR:MethT P w K mg base cl.Giver "recall_start" 1 ["self","stage","turn","marks"] (a2p cl)):MethT P w K mg base cl.Giver "recall" 2 ["self","mind"] (a6v cl):=by
 refine D.fn a0o (λvs H Q E h=>?_) (λf cdv A' outer s H vs Q E hr h=>?_)
 ·obtain⟨x,dx,D,bd,kt,mr,st0,he0,nu0,le0,a,g,os,rfl,_⟩:=h
  rfl
 ·obtain⟨x,dx,D,bd,kt,mr,st0,he0,nu0,le0,a,g,os,rfl,ex,⟨m,ea,em⟩,⟨ps,eD,hl,ep⟩,pf,k⟩:=h
  refine⟨_,(d7 (a1l (pv 1) (a1j (K:=K) rfl (i5 (i4 (i:=2) a0o.nd rfl (by first|exact Or.inl rfl|exact Or.inr rfl)) (i5 (i4 (i:=3) a0o.nd rfl (by first|exact Or.inl rfl|exact Or.inr rfl)) (i5 (i4 (i:=4) a0o.nd rfl (by first|exact Or.inl rfl|exact Or.inr rfl)) (i5 (i4 (i:=5) a0o.nd rfl (by first|exact Or.inl rfl|exact Or.inr rfl)) (i5 (i4 (i:=6) a0o.nd rfl (by first|exact Or.inl rfl|exact Or.inr rfl)) a1i)))))))
   (d7 (z8 (c1a (k:=1) (pv 0) hr (by decide) j8 (d5 (pv 2) (d5 (pv 3) (d5 (pv 4) d6)))))
   (g0 (v9 (i6 a0q (pv 2) i9 (i7 _))
    (g0 (a1l (t7 (d5 (pv 5) (d5 d9 d6))) (a1j (K:=K) rfl (i5 (b0w (K:=K) (pv 0)) (i5 (b0w (K:=K) (pv 0)) a1i)))))
    (g0 (v9 (i6 a0q (pv 6) d9 (i7 _))
      (g0 (a1l (t7 (d5 (j3 a0y (pv 5) d9) (d5 d9 d6))) (a1j (K:=K) rfl (i5 (b0w (K:=K) (pv 0)) (i5 (b0w (K:=K) (pv 0)) a1i)))))
      (g0 (a1l (t7 (d5 (pv 5) (d5 (j3 a0y (j6 (j5 (K:=K)) (by rfl) T.z_len PySem.boot_len (d5 (x9 (m3 (K:=K)) (m4 (K:=K) (pv 0)) (pv 5) (λ_ _=>rfl)) d6)) (pv 6)) d6))) (a1j (K:=K) rfl (i5 (b0w (K:=K) (pv 0)) (i5 (b0w (K:=K) (pv 0)) a1i))))))))))),?_⟩
  fail "";refine b0m ea rfl ?_;fail "";refine a6i ?_;fail "";refine⟨x,cl.Giver,dx,_,_,_,rfl,ex,rfl,T.k_Giver,GR,?_⟩;fail "";refine⟨x,dx,D,bd,kt,mr,st0,he0,nu0,le0,g.st,g.he,g.ms,m,rfl,ex,em,λp H1 hp kp1 ep1 ex1=>?_⟩;have fin:∀{t:Addr}{u v:Int}{H4:Hp},H1 t=none->(∀y o,H1 y=some o->y≠x->H4 y=some o)->H4 x=some (gO cl dx D bd kt p g.st g.he u v)->u=gnu g->v=gle g os->Q .non H4:=λ{t u v H4} ht ks e4 eu ev=>by
   have npx:p≠x:=g9 ex hp |>.symm;refine k p H4 hp (λy o e n=>ks y o (kp1 y o e n) (by simpa using n)) (ks p _ ep1 npx) (by rw[<- eu,<- ev];exact e4)
  fail "";rw[a2c];by_cases h1:g.st="lacks"
  ·rw[decide_eq_true h1]
   fail "";refine⟨by show 2<=sizeLine;decide,λt ht=>?_⟩
   generalize u2:upd H1 t _=H2;obtain⟨s2,e2⟩:=nwS u2 ht;have ex2:=s2 _ _ ex1;refine⟨t,_,rfl,SqT.of e2,rfl,_,_,rfl,b5e ?_⟩;fail "";refine⟨_,_,rfl,b5e ?_⟩;fail "";exact⟨rfl,fin ht (λy o e ny=>by rw[f9 ny,f9 ny];exact s2 _ _ e) (by rw[d8];rfl) (by unfold gnu;rw[if_pos h1]) (by unfold gle;rw[if_pos h1])⟩
  ·rw[decide_eq_false h1]
   fail "";rw[t5];by_cases h2:g.pt=0
   ·rw[decide_eq_true h2]
    fail "";refine⟨by show 2<=sizeLine;decide,λt ht=>?_⟩
    generalize u2:upd H1 t _=H2;obtain⟨s2,e2⟩:=nwS u2 ht;have ex2:=s2 _ _ ex1;refine⟨t,_,rfl,SqT.of e2,rfl,_,_,rfl,b5e ?_⟩;fail "";refine⟨_,_,rfl,b5e ?_⟩;fail "";exact⟨rfl,fin ht (λy o e ny=>by rw[f9 ny,f9 ny];exact s2 _ _ e) (by rw[d8];rfl) (by unfold gnu;rw[if_neg h1,if_pos h2]) (by unfold gle;rw[if_neg h1,if_pos h2])⟩
   ·rw[decide_eq_false h2]
    obtain⟨o0,o1⟩:0<=g.od/\g.od<os.length:=by
     unfold b0c at pf;by_cases c1:g.st∈b0o\/g.st="told"
     ·rw[if_pos c1] at pf;exact absurd pf.2 h2
     ·rw[if_neg c1,if_neg h1] at pf
      by_cases c2:g.od=os.length
      ·rw[if_pos c2] at pf;exact absurd pf.2 h2
      ·rw[if_neg c2] at pf;exact pf.1
    have hj:g.od.toNat<os.length:=by lia
    obtain⟨q,hq⟩:∃q,ps[g.od.toNat]?=some q:=⟨_,List.getElem?_eq_getElem (by lia)⟩
    have nDx:D≠x:=a3d eD ex λz=>nomatch z;have nqx:q≠x:=a3d (ep _ q _ hq (List.getElem?_eq_getElem hj)) ex λz=>nomatch z;have eD1:=kp1 _ _ eD (by simpa using nDx)
    have eq1:=kp1 _ _ (ep _ q _ hq (List.getElem?_eq_getElem hj)) (by simpa using nqx)
    fail "";refine a3w (v:=.ref q) eD1 ?_ ?_
    ·unfold atI ixN
     rw[if_pos o0,if_pos (by rw[List.length_map];lia)]
     show(ps.map V.ref)[g.od.toNat]?=_;rw[List.getElem?_map,hq];rfl
    fail "";rw[List.length_map];refine⟨by show 2<=sizeLine;decide,λt ht=>?_⟩
    generalize u2:upd H1 t _=H2;obtain⟨s2,e2⟩:=nwS u2 ht;have ex2:=s2 _ _ ex1;refine⟨t,_,rfl,SqT.of e2,rfl,_,_,rfl,b5e ?_⟩;fail "";refine⟨_,_,rfl,b5e ?_⟩;fail "";exact⟨rfl,fin ht (λy o e ny=>by rw[f9 ny,f9 ny];exact s2 _ _ e) (by rw[d8];rfl) (by unfold gnu;rw[if_neg h1,if_neg h2]) (by unfold gle;rw[if_neg h1,if_neg h2,List.getD_eq_getElem?_getD,List.getElem?_eq_getElem hj];rfl)⟩
def a6u(cl:Cl):Sp:=λvs H Q _=>∃(x dx D bd kt mr pa:Addr)(st0:Str)(he0 nf0:Hr)(nu0 le0:Int)(a:Addr)(t:TSd),vs=[.ref x,.ref a]/\H x=some (tO cl dx D bd kt mr pa st0 he0 nf0 nu0 le0)/\TT H a t/\∀p q H',H p=none->H q=none->Kp [x] H H'->H' p=some (.lst (t.ms.map V.int))->H' q=some (.lst (t.pa.map V.int))->H' x=some (tO cl dx D bd kt p q t.st t.he t.nf t.nu t.le)->Q .non H'
abbrev a4q:Stmt:=a0z (top 110) 5
theorem z0:i8 ["self","mind","stage","turn","marks","first","number","left","parts"] ["self","mind"] (g6 a4q):=↑1
theorem b3r(D:DefM K cl.Taker "recall" "Taker.recall" a4q ["self","mind"])(T:Txt K mg cl)(GR:MethT P w K mg base cl.Taker "recall_start" 1 ["self","stage","turn","marks"] (a2o cl)):MethT P w K mg base cl.Taker "recall" 2 ["self","mind"] (a6u cl):=by
 refine D.fn z0 (λvs H Q E h=>?_) (λf cdv A' outer s H vs Q E hr h=>?_)
 ·obtain⟨x,dx,D,bd,kt,mr,pa,st0,he0,nf0,nu0,le0,a,t,rfl,_⟩:=h
  rfl
 ·obtain⟨x,dx,D,bd,kt,mr,pa,st0,he0,nf0,nu0,le0,a,t,rfl,ex,⟨m,pp,ea,em,epp⟩,k⟩:=h
  refine⟨_,(d7 (a1l (pv 1) (a1j (K:=K) rfl (i5 (i4 (i:=2) z0.nd rfl (by first|exact Or.inl rfl|exact Or.inr rfl)) (i5 (i4 (i:=3) z0.nd rfl (by first|exact Or.inl rfl|exact Or.inr rfl)) (i5 (i4 (i:=4) z0.nd rfl (by first|exact Or.inl rfl|exact Or.inr rfl)) (i5 (i4 (i:=5) z0.nd rfl (by first|exact Or.inl rfl|exact Or.inr rfl)) (i5 (i4 (i:=6) z0.nd rfl (by first|exact Or.inl rfl|exact Or.inr rfl)) (i5 (i4 (i:=7) z0.nd rfl (by first|exact Or.inl rfl|exact Or.inr rfl)) (i5 (i4 (i:=8) z0.nd rfl (by first|exact Or.inl rfl|exact Or.inr rfl)) a1i)))))))))
   (d7 (z8 (c1a (k:=1) (pv 0) hr (by decide) j8 (d5 (pv 2) (d5 (pv 3) (d5 (pv 4) d6)))))
   (d7 (m9 (K:=K) (pv 0) (pv 5))
   (d7 (m9 (K:=K) (pv 0) (pv 6))
   (d7 (m9 (K:=K) (pv 0) (pv 7))
   (g0 (m9 (K:=K) (pv 0) (l0 (a0d (K:=K)) (by rfl) T.z_list PyProof.Rows.boot_list (d5 (pv 8) d6))))))))),?_⟩
  have npx:pp≠x:=a3d epp ex λz=>nomatch z;fail "";refine c1l ea rfl ?_;fail "";refine a6i ?_;fail "";refine⟨x,cl.Taker,dx,_,_,_,rfl,ex,rfl,T.k_Taker,GR,?_⟩;fail "";refine⟨x,dx,D,bd,kt,mr,pa,st0,he0,nf0,nu0,le0,t.st,t.he,t.ms,m,rfl,ex,em,λp H1 hp kp1 ep1 ex1=>?_⟩;have epp1:=kp1 _ _ epp (by simpa using npx)
  have np:p≠x:=(g9 ex hp).symm;fail "";intro q hq;have nq:q≠x:=λz=>by rw[z,d8] at hq;cases hq
  have hq1:H1 q=none:=by simpa only [f9 nq] using hq
  have npq:=g9 ep1 hq1;fail "";refine k p q _ hp ?_ (λy o e n=>?_) ?_ ?_ ?_
  ·cases e:H q with
   | none=>rfl
   | some o=>rw[kp1 _ _ e (by simpa using nq)] at hq1;cases hq1
  ·have ny:y≠x:=by simpa using n
   have e1:=kp1 _ _ e n;simp only[f9 ny,f9 (g9 e1 hq1)];exact e1
  ·simp only[f9 np,f9 npq]
   exact ep1
  ·simp only[f9 nq,d8]
  ·rw[d8];rfl
def GQ(cl:Cl)(H:Hp)(g bd kt:Addr)(y:GSd)(os:List (List Int)):Prop:=∃dx D mr,H g=some (gO cl dx D bd kt mr y.st y.he (gnu y) (gle y os))/\Rws H D os/\H mr=some (.lst (y.ms.map V.int))
def TQ(cl:Cl)(H:Hp)(t bd kt:Addr)(y:TSd)(bk:List (List Int)):Prop:=∃dx D mr pa,H t=some (tO cl dx D bd kt mr pa y.st y.he y.nf y.nu y.le)/\Rws H D bk/\H mr=some (.lst (y.ms.map V.int))/\H pa=some (.lst (y.pa.map V.int))
def LQ(cl:Cl)(H:Hp)(la:Addr)(x:Sd):Prop:=∃dx bd l kt g t,H la=some (.ins cl.Lane dx [("board",.ref bd),("kept_trail",.ref kt),("giver",.ref g),("taker",.ref t)])/\Brd cl H bd l x.n x.c 0 .non/\H kt=some (.lst [])/\GQ cl H g bd kt x.g x.os/\TQ cl H t bd kt x.t x.bk
theorem Brd.same{H H':Hp}{b l:Addr}{n:Nat}{row:List Int}{many:Int}{last:V}(h:Brd cl H b l n row many last)(s:Same H H'):Brd cl H' b l n row many last:=by
 obtain⟨⟨dx,e⟩,e',z⟩:=h;exact⟨⟨dx,s _ _ e⟩,s _ _ e',z⟩
theorem GQ.same{H H':Hp}{g bd kt:Addr}{y:GSd}{os:List (List Int)}(h:GQ cl H g bd kt y os)(s:Same H H'):GQ cl H' g bd kt y os:=by
 obtain⟨dx,D,mr,e,r,e'⟩:=h;exact⟨dx,D,mr,s _ _ e,r.same s,s _ _ e'⟩
theorem TQ.same{H H':Hp}{t bd kt:Addr}{y:TSd}{bk:List (List Int)}(h:TQ cl H t bd kt y bk)(s:Same H H'):TQ cl H' t bd kt y bk:=by
 obtain⟨dx,D,mr,pa,e,r,e',e''⟩:=h;exact⟨dx,D,mr,pa,s _ _ e,r.same s,s _ _ e',s _ _ e''⟩
theorem LQ.same{H H':Hp}{la:Addr}{x:Sd}(h:LQ cl H la x)(s:Same H H'):LQ cl H' la x:=by
 obtain⟨dx,bd,l,kt,g,t,e,b,e',gq,tq⟩:=h;exact⟨dx,bd,l,kt,g,t,s _ _ e,b.same s,s _ _ e',gq.same s,tq.same s⟩
theorem Same.kp{H H1 H2:Hp}{S:List Addr}(s:Same H H1)(k:Kp S H1 H2)(hS:∀y∈S,H y=none):Same H H2:=λy o e=>k y o (s y o e) λz=>by rw[hS y z] at e;cases e
theorem Rws.kp{H H':Hp}{D x:Addr}{u:HO}{os:List (List Int)}(h:Rws H D os)(k:Kp [x] H H')(ex:H x=some u)(nl:∀xs,u≠.lst xs):Rws H' D os:=by
 obtain⟨ps,e,l,r⟩:=h;have nx:∀{y:Addr}{xs:List V},H y=some (.lst xs)->y ∉ [x]:=λe z=>by
  rw[List.mem_singleton.mp z,ex] at e;exact nl _ (Option.some.inj e)
 exact⟨ps,k _ _ e (nx e),l,λi p o hp ho=>k _ _ (r i p o hp ho) (nx (r i p o hp ho))⟩
theorem NRw.rws{H H':Hp}{D:Addr}{S:List Addr}{os:List (List Int)}(h:NRw H H' D S os):Rws H' D os:=by
 obtain⟨ps,e,l,r⟩:=h;exact⟨ps,e,l,λi p o hp ho=>(r i p o hp ho).2.2.2⟩
def a6d(cl:Cl):Sp:=λvs H Q _=>∃(a:Addr)(x:Sd),vs=[.ref a]/\ST H a x/\a5g x/\x.os.length<=1000/\x.bk.length<=1000/\∀la H',H la=none->Same H H'->LQ cl H' la x->Q (.ref la) H'
abbrev a3r:Stmt:=top 133
theorem a0a:i8 ["stand","cells","giver","taker","orders","book","lane"] ["stand"] (g6 a3r):=↑1
theorem b2f(D:DefT K mg "lane_standing" a3r ["stand"])(T:Txt K mg cl)(G_size_of_cells:FnT P w K mg base "size_of_cells" 5 ["cells"] (a2v cl))(G_Lane:c2z P w K mg base "Lane" cl.Lane 6 ["self","size"] (b1r cl))(G_Board_fill:MethT P w K mg base cl.Board "fill" 1 ["self","cells"] (a9v cl))(G_Lane_place_giver:MethT P w K mg base cl.Lane "place_giver" 5 ["self","orders"] (a1n cl))(G_Lane_place_taker:MethT P w K mg base cl.Lane "place_taker" 5 ["self","book"] (a1m cl))(GG:MethT P w K mg base cl.Giver "recall" 2 ["self","mind"] (a6v cl))(GK:MethT P w K mg base cl.Taker "recall" 2 ["self","mind"] (a6u cl)):FnT P w K mg base "lane_standing" 8 ["stand"] (a6d cl):=by
 refine D.fn a0a (λvs H Q E h=>?_) (λf cdv A' outer s H vs Q E hr h=>?_)
 ·obtain⟨a,x,rfl,_⟩:=h
  rfl
 ·obtain⟨a,x,rfl,⟨c,g,t,o,b,ea,ec,eg,et,eo,eb⟩,gs,lo,lb,k⟩:=h
  refine⟨_,(d7 (a1l (pv 0) (a1j (K:=K) rfl (i5 (i4 (i:=1) a0a.nd rfl (by first|exact Or.inl rfl|exact Or.inr rfl)) (i5 (i4 (i:=2) a0a.nd rfl (by first|exact Or.inl rfl|exact Or.inr rfl)) (i5 (i4 (i:=3) a0a.nd rfl (by first|exact Or.inl rfl|exact Or.inr rfl)) (i5 (i4 (i:=4) a0a.nd rfl (by first|exact Or.inl rfl|exact Or.inr rfl)) (i5 (i4 (i:=5) a0a.nd rfl (by first|exact Or.inl rfl|exact Or.inr rfl)) a1i)))))))
   (d7 (j7 (i:=6) a0a.nd rfl (by first|exact Or.inl rfl|exact Or.inr rfl) (c6q G_Lane hr (by decide) rfl j8 (d5 (l8 G_size_of_cells hr (by decide) rfl j8 (d5 (pv 1) d6)) d6)))
   (d7 (z8 (c3y (m4 (K:=K) (pv 6)) T.k_Board G_Board_fill hr (by decide) j8 (d5 (pv 1) d6)))
   (d7 (z8 (c3y (pv 6) T.k_Lane G_Lane_place_giver hr (by decide) j8 (d5 (pv 4) d6)))
   (d7 (z8 (c3y (pv 6) T.k_Lane G_Lane_place_taker hr (by decide) j8 (d5 (pv 5) d6)))
   (d7 (z8 (c1a (k:=2) (m4 (K:=K) (pv 6)) hr (by decide) j8 (d5 (pv 2) d6)))
   (d7 (z8 (c1a (k:=2) (m4 (K:=K) (pv 6)) hr (by decide) j8 (d5 (pv 3) d6)))
   (g0 (j4 (pv 6)))))))))),?_⟩
  fail "";refine b0m ea rfl ?_;fail "";refine⟨c,x.c,rfl,ec,.inl ⟨x.n,gs.c,λH1 s1=>?_⟩⟩;intro la dxl hla hdx ne;have sm:=b1b (u:=.own la) (o:=.ins cl.Lane dxl []) hla hdx ne;have ela:upd (upd H1 dxl (.own la)) la (.ins cl.Lane dxl []) la=some (.ins cl.Lane dxl []):=d8;generalize upd (upd H1 dxl _) la _=H2 at *;refine⟨la,dxl,x.n,rfl,ela,gs.c.n2,gs.c.n8,λbd l kt v u H3 hbd hl hkt n1 n2 n3 kp3 hB3 ekt3 ela3=>⟨rfl,?_⟩⟩;have hla0:=m6 s1 hla;have s2:=s1.trans sm;have s3:Same H H3:=Same.kp s2 kp3 (by simpa using hla0)
  have hbd0:=m6 s2 hbd;have nlb:la≠bd:=g9 ela hbd;have nlk:la≠kt:=g9 ela hkt;obtain⟨⟨dxb3,eb3⟩,_⟩:=id hB3;fail "";refine⟨bd,l,c,x.n,_,x.c,0,.non,rfl,hB3,s3 _ _ ec,gs.c.len,λl' H4 hl' kp4 hB4=>?_⟩;have ela4:=kp4 _ _ ela3 (by simpa using nlb)
  have ekt4:=kp4 _ _ ekt3 (by simpa using Ne.symm n2)
  have s4:Same H H4:=Same.kp s3 kp4 (by simpa using hbd0)
  fail "";refine⟨la,dxl,bd,kt,o,l',x.n,x.c,0,.non,x.os,_,_,rfl,.inr ⟨v,u,rfl,λ_=>rfl⟩,ela4,hB4,.inr (eo.same s4),gs.os,lo,λgv dxg D m H5 hg hD hm gD gm Dm kp5 nr5 em5 eg5 ela5=>?_⟩;have s5:Same H H5:=Same.kp s4 kp5 (by simpa using hla0)
  have hB5:=hB4.keep kp5 (by simpa using Ne.symm nlb) (by simpa using λz:l'=la=>by rw[z,ela3] at hl';cases hl')
  have ekt5:=kp5 _ _ ekt4 (by simpa using Ne.symm nlk)
  have ngl:=g9 ela4 hg;have nml:=g9 ela4 hm;have nll:l'≠la:=λz=>by rw[z,ela3] at hl';cases hl'
  fail "";refine⟨la,dxl,bd,kt,b,l',x.n,x.c,0,.non,x.bk,_,_,rfl,.inr ⟨.ref gv,u,rfl,λ_=>rfl⟩,ela5,hB5,.inr (eb.same s5),gs.bk,lb,λtk dxt D2 m2 q H6 ht hD2 hm2 tD2 tm2 Dm2 hq qt qD2 qm2 eq6 kp6 nr6 em6 et6 ela6=>?_⟩;have s6:Same H H6:=Same.kp s5 kp6 (by simpa using hla0)
  have hB6:=hB5.keep kp6 (by simpa using Ne.symm nlb) (by simpa using nll)
  have ekt6:=kp6 _ _ ekt5 (by simpa using Ne.symm nlk)
  have eg6:=kp6 _ _ eg5 (by simpa using Ne.symm ngl)
  have em56:=kp6 _ _ em5 (by simpa using Ne.symm nml)
  have r6:Rws H6 D x.os:=nr5.rws.kp kp6 ela5 λxs z=>nomatch z;have ngt:gv≠tk:=g9 eg5 ht;have ntl:la≠tk:=g9 ela5 ht;fail "";refine a6i ?_;fail "";refine⟨gv,cl.Giver,dxg,_,_,_,rfl,eg6,rfl,T.k_Giver,GG,?_⟩;fail "";refine⟨gv,dxg,D,bd,kt,m,"rouse",.non,-1,0,g,x.g,x.os,rfl,eg6,eg.same s6,r6,gs.g.pf,λp7 H7 hp7 kp7 ep7 eg7=>?_⟩;have hgv0:H gv=none:=m6 s4 hg;have htk0:H tk=none:=m6 s5 ht;have s7:Same H H7:=Same.kp s6 kp7 (by simpa using hgv0)
  have kL:∀{y:Addr}{o:HO},H6 y=some o->y≠gv->H7 y=some o:=λe n=>kp7 _ _ e (by simpa using n)
  have et7:=kL et6 (Ne.symm ngt);have ela7:=kL ela6 ngl;have ekt7:=kL ekt6 (a3d ekt6 eg6 λz=>nomatch z);obtain⟨⟨dxb4,eb4⟩,el4,_⟩:=id hB4;obtain⟨⟨dxb5,eb5⟩,el5,_⟩:=id hB5;have hB7:=hB6.keep kp7 (by simpa using g9 eb4 hg) (by simpa using g9 el4 hg)
  have r7:=r6.kp kp7 eg6 λxs z=>nomatch z;have q7:=(nr6.rws (os:=x.bk)).kp kp7 eg6 λxs z=>nomatch z;fail "";refine a6i ?_;fail "";refine⟨tk,cl.Taker,dxt,_,_,_,rfl,et7,rfl,T.k_Taker,GK,?_⟩;fail "";refine⟨tk,dxt,D2,bd,kt,m2,q,"rouse",.non,.non,0,0,t,x.t,rfl,et7,et.same s7,λp8 q8 H8 hp8 hq8 kp8 ep8 eq8 et8=>?_⟩;have s8:Same H H8:=Same.kp s7 kp8 (by simpa using htk0)
  have kM:∀{y:Addr}{o:HO},H7 y=some o->y≠tk->H8 y=some o:=λe n=>kp8 _ _ e (by simpa using n)
  fail "";refine k la H8 hla0 s8 ⟨dxl,bd,l',kt,gv,tk,kM ela7 ntl,hB7.keep kp8 (by simpa using g9 eb5 ht) (by simpa using g9 el5 ht),kM ekt7 (a3d ekt7 et7 λz=>nomatch z),⟨dxg,D,p7,kM eg7 ngt,(r7.kp kp8 et7 λxs z=>nomatch z),kM ep7 (a3d ep7 et7 λz=>nomatch z)⟩,⟨dxt,D2,p8,q8,et8,(q7.kp kp8 et7 λxs z=>nomatch z),ep8,eq8⟩⟩
def b4y(cl:Cl):Sp:=λvs H Q E=>∃(a:Addr)(x:Sd),vs=[.ref a]/\ST H a x/\x.n=x.c.length / 4-1/\x.os.length<=1000/\x.bk.length<=1000/\x.g.ms.length<=100000/\x.t.ms.length<=100000/\(a5g x->∀la H',H la=none->Same H H'->LQ cl H' la x->Q (.ref la) H')/\(¬ a5g x->∀o H',Same H H'->E (.ref cl.BadStand) o H')
abbrev b3g:Stmt:=top 134
theorem c2f:i8 ["stand"] ["stand"] (g6 b3g):=↑1
theorem c2m(D:DefT K mg "lane_at" b3g ["stand"])(T:Txt K mg cl)(G_check_stand:FnT P w K mg base "check_stand" 7 ["stand"] (a4j cl))(G_lane_standing:FnT P w K mg base "lane_standing" 8 ["stand"] (a6d cl)):FnT P w K mg base "lane_at" 9 ["stand"] (b4y cl):=by
 refine D.fn c2f (λvs H Q E h=>?_) (λf cdv A' outer s H vs Q E hr h=>?_)
 ·obtain⟨a,x,rfl,_⟩:=h
  rfl
 ·obtain⟨a,x,rfl,st,en,lo,lb,lg,lt,k,kb⟩:=h
  refine⟨_,(d7 (z8 (l8 G_check_stand hr (by decide) rfl j8 (d5 (pv 0) d6)))
   (g0 (j4 (l8 G_lane_standing hr (by decide) rfl j8 (d5 (pv 0) d6))))),?_⟩
  fail "";refine⟨a,x,rfl,st,en,by lia,by lia,lg,lt,λgs H1 s1=>?_,kb⟩
  fail "";exact⟨a,x,rfl,st.same s1,gs,lo,lb,λla H2 hla s2 lq=>k gs la H2 (m6 s1 hla) (s1.trans s2) lq⟩
def bg(nu le:Int):Bool:=decide (nu=-1) || decide (le<=0)
def nO(nu le:Int):Int:=if bg nu le=true then nu+1 else nu
def nP(os:List (List Int))(nu le:Int):Int:=if bg nu le=true then 0 else ((os.getD nu.toNat []).length:Int)-le
def hP(os:List (List Int))(nu le:Int):Bool:=decide (0<=nO nu le/\nO nu le<os.length) && decide (0<=nP os nu le/\nP os nu le<(os.getD (nO nu le).toNat []).length)
inductive ExG(R:Addr->Addr->Addr->Addr->Addr->Addr->Str->Hr->Int->Int->Prop):Prop
 | mk (x dx D bd kt mr:Addr) (st:Str) (he:Hr) (nu le:Int) (h:R x dx D bd kt mr st he nu le):ExG R
def b2w(cl:Cl):Sp:=λvs H Q _=>ExG λx dx D bd kt mr st he nu le=>vs=[.ref x]/\H x=some (gO cl dx D bd kt mr st he nu le)/\Q (.bl (bg nu le)) H
abbrev a1h:Stmt:=a0z (top 100) 4
theorem a6y:i8 ["self"] ["self"] (g6 a1h):=↑1
theorem a7w(D:DefM K cl.Giver "begins_order" "Giver.begins_order" a1h ["self"])(T:Txt K mg cl):MethT P w K mg base cl.Giver "begins_order" 1 ["self"] (b2w cl):=by
 refine D.fn a6y (λvs H Q E h=>?_) (λf cdv A' outer s H vs Q E hr h=>?_)
 ·obtain⟨x,dx,D,bd,kt,mr,st,he,nu,le,rfl,_⟩:=h
  rfl
 ·obtain⟨x,dx,D,bd,kt,mr,st,he,nu,le,rfl,ex,k⟩:=h
  refine⟨_,(g0 (j4 (c3x (m5 a0q (m4 (K:=K) (pv 0)) (a0m T.m_NO_ORDER rfl) (i7 _)) (a1b (m5 c4e (m4 (K:=K) (pv 0)) d9 (i7 _)))))),?_⟩;unfold bg at k;fail "";rw[t5];by_cases h1:nu=-1
  ·rw[decide_eq_true h1] at k ⊢
   fail "";exact k
  ·rw[decide_eq_false h1] at k ⊢
   fail "";exact k
def a5i(cl:Cl):Sp:=λvs H Q _=>ExG λx dx D bd kt mr st he nu le=>vs=[.ref x]/\H x=some (gO cl dx D bd kt mr st he nu le)/\Q (.int (nO nu le)) H
abbrev a1t:Stmt:=a0z (top 100) 5
theorem a8o:i8 ["self"] ["self"] (g6 a1t):=↑1
theorem a9h(D:DefM K cl.Giver "next_order" "Giver.next_order" a1t ["self"])(T:Txt K mg cl)(GB:MethT P w K mg base cl.Giver "begins_order" 1 ["self"] (b2w cl)):MethT P w K mg base cl.Giver "next_order" 2 ["self"] (a5i cl):=by
 refine D.fn a8o (λvs H Q E h=>?_) (λf cdv A' outer s H vs Q E hr h=>?_)
 ·obtain⟨x,dx,D,bd,kt,mr,st,he,nu,le,rfl,_⟩:=h
  rfl
 ·obtain⟨x,dx,D,bd,kt,mr,st,he,nu,le,rfl,ex,k⟩:=h
  refine⟨_,(g0 (j4 (a5u (a2d (a1v (k:=1) (pv 0) hr (by decide) j8)) (j3 a0k (m4 (K:=K) (pv 0)) d9) (m4 (K:=K) (pv 0))))),?_⟩
  unfold nO at k;fail "";refine a6i ?_;fail "";refine⟨x,cl.Giver,dx,_,_,_,rfl,ex,rfl,T.k_Giver,GB,?_⟩;fail "";refine⟨x,dx,D,bd,kt,mr,st,he,nu,le,rfl,ex,?_⟩;cases hb:bg nu le with
  | true=>
   rw[hb,if_pos rfl] at k;fail "";exact k
  | false=>
   rw[hb,if_neg (by decide)] at k
   fail "";exact k
def GKn(os:List (List Int))(nu le:Int):Prop:=bg nu le=true\/(0<=nu/\nu<os.length)
def a6n(cl:Cl):Sp:=λvs H Q _=>ExG λx dx D bd kt mr st he nu le=>∃os,vs=[.ref x]/\H x=some (gO cl dx D bd kt mr st he nu le)/\Rws H D os/\GKn os nu le/\Q (.int (nP os nu le)) H
abbrev a2h:Stmt:=a0z (top 100) 6
theorem a9y:i8 ["self"] ["self"] (g6 a2h):=↑1
theorem b0g(D:DefM K cl.Giver "next_part" "Giver.next_part" a2h ["self"])(T:Txt K mg cl)(GB:MethT P w K mg base cl.Giver "begins_order" 1 ["self"] (b2w cl)):MethT P w K mg base cl.Giver "next_part" 2 ["self"] (a6n cl):=by
 refine D.fn a9y (λvs H Q E h=>?_) (λf cdv A' outer s H vs Q E hr h=>?_)
 ·obtain⟨x,dx,D,bd,kt,mr,st,he,nu,le,os,rfl,_⟩:=h
  rfl
 ·obtain⟨x,dx,D,bd,kt,mr,st,he,nu,le,os,rfl,ex,r,gk,k⟩:=h
  refine⟨_,(g0 (j4 (a5u (a2d (a1v (k:=1) (pv 0) hr (by decide) j8)) d9 (j3 a0y (j6 (j5 (K:=K)) (by rfl) T.z_len PySem.boot_len (d5 (x9 (m3 (K:=K)) (m4 (K:=K) (pv 0)) (m4 (K:=K) (pv 0)) (λ_ _=>rfl)) d6)) (m4 (K:=K) (pv 0)))))),?_⟩
  unfold nP at k;fail "";refine a6i ?_;fail "";refine⟨x,cl.Giver,dx,_,_,_,rfl,ex,rfl,T.k_Giver,GB,?_⟩;fail "";refine⟨x,dx,D,bd,kt,mr,st,he,nu,le,rfl,ex,?_⟩;unfold GKn at gk;cases hb:bg nu le with
  | true=>
   rw[hb,if_pos rfl] at k;fail "";exact k
  | false=>
   rw[hb] at gk;obtain⟨h0,h1⟩:=gk.resolve_left (by decide)
   obtain⟨xs,q,eD,_,hat,eq⟩:=c3n r h0 h1;rw[hb,if_neg (by decide)] at k
   fail "";refine a3w eD hat ?_;fail "";rw[List.length_map];exact k
def b2u(cl:Cl):Sp:=λvs H Q _=>ExG λx dx D bd kt mr st he nu le=>∃os,vs=[.ref x]/\H x=some (gO cl dx D bd kt mr st he nu le)/\Rws H D os/\GKn os nu le/\Q (.bl (hP os nu le)) H
abbrev a2x:Stmt:=a0z (top 100) 8
theorem a4y:i8 ["self","order"] ["self"] (g6 a2x):=↑1
theorem b1a(D:DefM K cl.Giver "has_part" "Giver.has_part" a2x ["self"])(T:Txt K mg cl)(GO:MethT P w K mg base cl.Giver "next_order" 2 ["self"] (a5i cl))(GP:MethT P w K mg base cl.Giver "next_part" 2 ["self"] (a6n cl)):MethT P w K mg base cl.Giver "has_part" 3 ["self"] (b2u cl):=by
 refine D.fn a4y (λvs H Q E h=>?_) (λf cdv A' outer s H vs Q E hr h=>?_)
 ·obtain⟨x,dx,D,bd,kt,mr,st,he,nu,le,os,rfl,_⟩:=h
  rfl
 ·obtain⟨x,dx,D,bd,kt,mr,st,he,nu,le,os,rfl,ex,r,gk,k⟩:=h
  refine⟨_,(d7 (j7 (i:=1) a4y.nd rfl (by first|exact Or.inl rfl|exact Or.inr rfl) (a1v (k:=2) (pv 0) hr (by decide) j8))
   (g0 (j4 (a1p (a8b rfl T.z_range (pv 1) (d5 (j6 (j5 (K:=K)) (by rfl) T.z_len PySem.boot_len (d5 (m4 (K:=K) (pv 0)) d6)) d6)) (a1b (a8b rfl T.z_range (a1v (k:=2) (pv 0) hr (by decide) j8) (d5 (j6 (j5 (K:=K)) (by rfl) T.z_len PySem.boot_len (d5 (x9 (m3 (K:=K)) (m4 (K:=K) (pv 0)) (pv 1) (λ_ _=>rfl)) d6)) d6))))))),?_⟩
  unfold hP at k;obtain⟨ps,eD,hl,_⟩:=id r;fail "";refine a6i ?_;fail "";refine⟨x,cl.Giver,dx,_,_,_,rfl,ex,rfl,T.k_Giver,GO,?_⟩;fail "";refine⟨x,dx,D,bd,kt,mr,st,he,nu,le,rfl,ex,?_⟩;fail "";rw[List.length_map,hl];refine⟨_,_,rfl,rfl,_,rfl,?_⟩;by_cases h1:0<=nO nu le/\nO nu le<os.length
  ·rw[decide_eq_true h1] at k ⊢
   obtain⟨xs,q,eD',_,hat,eq⟩:=c3n r h1.1 h1.2;fail "";refine a6i ?_;fail "";refine⟨x,cl.Giver,dx,_,_,_,rfl,ex,rfl,T.k_Giver,GP,?_⟩;fail "";refine⟨x,dx,D,bd,kt,mr,st,he,nu,le,os,rfl,ex,r,gk,?_⟩;fail "";refine a3w eD' hat ?_;fail "";rw[List.length_map];exact⟨_,_,rfl,rfl,k⟩
  ·rw[decide_eq_false h1] at k ⊢
   fail "";exact k
def oP(st:Str)(os:List (List Int))(nu le:Int):Int×Int:=if st="lacks" then (nu,0) else if hP os nu le=true then (nO nu le,nP os nu le) else (os.length,0)
def a4v(cl:Cl):Sp:=λvs H Q _=>ExG λx dx D bd kt mr st he nu le=>∃os,vs=[.ref x]/\H x=some (gO cl dx D bd kt mr st he nu le)/\Rws H D os/\GKn os nu le/\∀p,H p=none->Q (.ref p) (upd H p (.tup [.int (oP st os nu le).1,.int (oP st os nu le).2]))
abbrev a1a:Stmt:=a0z (top 100) 9
theorem a5l:i8 ["self"] ["self"] (g6 a1a):=↑1
theorem a5x(D:DefM K cl.Giver "order_and_part" "Giver.order_and_part" a1a ["self"])(T:Txt K mg cl)(GH:MethT P w K mg base cl.Giver "has_part" 3 ["self"] (b2u cl))(GO:MethT P w K mg base cl.Giver "next_order" 2 ["self"] (a5i cl))(GP:MethT P w K mg base cl.Giver "next_part" 2 ["self"] (a6n cl)):MethT P w K mg base cl.Giver "order_and_part" 4 ["self"] (a4v cl):=by
 refine D.fn a5l (λvs H Q E h=>?_) (λf cdv A' outer s H vs Q E hr h=>?_)
 ·obtain⟨x,dx,D,bd,kt,mr,st,he,nu,le,os,rfl,_⟩:=h
  rfl
 ·obtain⟨x,dx,D,bd,kt,mr,st,he,nu,le,os,rfl,ex,r,gk,k⟩:=h
  refine⟨_,(d7 (v9 (i6 a0q (m4 (K:=K) (pv 0)) i9 (i7 _))
     (g0 (j4 (t7 (d5 (m4 (K:=K) (pv 0)) (d5 d9 d6)))))
     k7)
   (d7 (v9 (a4b (a2d (a1v (k:=3) (pv 0) hr (by decide) j8)))
     (g0 (j4 (t7 (d5 (j6 (j5 (K:=K)) (by rfl) T.z_len PySem.boot_len (d5 (m4 (K:=K) (pv 0)) d6)) (d5 d9 d6)))))
     k7)
   (g0 (j4 (t7 (d5 (a1v (k:=2) (pv 0) hr (by decide) j8) (d5 (a1v (k:=2) (pv 0) hr (by decide) j8) d6))))))),?_⟩
  unfold oP at k;obtain⟨ps,eD,hl,_⟩:=id r;fail "";rw[a2c];by_cases h1:st="lacks"
  ·rw[if_pos h1] at k
   rw[decide_eq_true h1];fail "";exact⟨by show 2<=sizeLine;decide,k⟩
  rw[if_neg h1] at k;rw[decide_eq_false h1];fail "";refine a6i ?_;fail "";refine⟨x,cl.Giver,dx,_,_,_,rfl,ex,rfl,T.k_Giver,GH,?_⟩;fail "";refine⟨x,dx,D,bd,kt,mr,st,he,nu,le,os,rfl,ex,r,gk,?_⟩;cases hb:hP os nu le with
  | false=>
   rw[hb,if_neg (by decide)] at k
   fail "";rw[List.length_map,hl];exact⟨by show 2<=sizeLine;decide,k⟩
  | true=>
   rw[hb,if_pos rfl] at k;fail "";refine a6i ?_;fail "";refine⟨x,cl.Giver,dx,_,_,_,rfl,ex,rfl,T.k_Giver,GO,?_⟩;fail "";refine⟨x,dx,D,bd,kt,mr,st,he,nu,le,rfl,ex,?_⟩;fail "";refine a6i ?_;fail "";refine⟨x,cl.Giver,dx,_,_,_,rfl,ex,rfl,T.k_Giver,GP,?_⟩;fail "";refine⟨x,dx,D,bd,kt,mr,st,he,nu,le,os,rfl,ex,r,gk,?_⟩;fail "";exact⟨by show 2<=sizeLine;decide,k⟩
theorem c6k{n:Nat}{os:List (List Int)}{y:GSd}(pf:b0c y.st y.od y.pt os)(hg:b4w n os):GKn os (gnu y) (gle y os)/\oP y.st os (gnu y) (gle y os)=(y.od,y.pt):=by
 unfold b0c at pf;unfold GKn oP;by_cases h1:y.st="lacks"
 ·have e:gnu y=y.od/\gle y os=0:=by unfold gnu gle;rw[if_pos h1,if_pos h1];exact⟨rfl,rfl⟩
  rw[if_neg (by rw[h1];decide),if_pos h1] at pf
  rw[if_pos h1,e.1,e.2,pf.2];exact⟨.inl (by unfold bg;simp),rfl⟩
 rw[if_neg h1];by_cases h2:y.pt=0
 ·have e:gnu y=y.od-1/\gle y os=0:=by unfold gnu gle;rw[if_neg h1,if_pos h2,if_neg h1,if_pos h2];exact⟨rfl,rfl⟩
  have hb:bg (gnu y) (gle y os)=true:=by unfold bg;rw[e.2];simp
  have ho:nO (gnu y) (gle y os)=y.od:=by unfold nO;rw[if_pos hb,e.1];lia
  have hp:nP os (gnu y) (gle y os)=0:=by unfold nP;rw[if_pos hb]
  refine⟨.inl hb,?_⟩;unfold hP;rw[ho,hp];by_cases h3:0<=y.od/\y.od<os.length
  ·have hj:y.od.toNat<os.length:=by lia
   have hl:=(hg _ (List.getElem_mem hj)).1;rw[decide_eq_true h3,decide_eq_true (show(0:Int)<=0/\(0:Int)<((os.getD y.od.toNat []).length:Int) by rw[List.getD_eq_getElem?_getD,List.getElem?_eq_getElem hj];exact⟨Int.le_refl _,by show(0:Int)<((os[y.od.toNat]).length:Int);lia⟩)]
   rw[h2]
   rfl
  ·rw[decide_eq_false h3]
   show((os.length:Int),(0:Int))=_;rw[h2];have:y.od=os.length:=by
    by_cases c1:y.st∈b0o\/y.st="told"
    ·rw[if_pos c1] at pf;lia
    ·rw[if_neg c1,if_neg h1] at pf
     by_cases c2:y.od=os.length
     ·exact c2
     ·rw[if_neg c2] at pf;exact absurd pf.1 h3
   rw[this]
 ·obtain⟨h3,h4⟩:(0<=y.od/\y.od<os.length)/\0<=y.pt/\y.pt<(os.getD y.od.toNat []).length:=by
   by_cases c1:y.st∈b0o\/y.st="told"
   ·rw[if_pos c1] at pf;exact absurd pf.2 h2
   ·rw[if_neg c1,if_neg h1] at pf
    by_cases c2:y.od=os.length
    ·rw[if_pos c2] at pf;exact absurd pf.2 h2
    ·rw[if_neg c2] at pf;exact pf
  have e:gnu y=y.od/\gle y os=((os.getD y.od.toNat []).length:Int)-y.pt:=by unfold gnu gle;rw[if_neg h1,if_neg h2,if_neg h1,if_neg h2];exact⟨rfl,rfl⟩
  have hb:bg (gnu y) (gle y os)=false:=by
   unfold bg;rw[e.1,e.2,decide_eq_false (show ¬ y.od=-1 by lia),decide_eq_false (show ¬ ((os.getD y.od.toNat []).length:Int)-y.pt<=0 by lia)]
   rfl
  have ho:nO (gnu y) (gle y os)=y.od:=by unfold nO;rw[hb,if_neg (by decide),e.1]
  have hp:nP os (gnu y) (gle y os)=y.pt:=by unfold nP;rw[hb,if_neg (by decide),e.1,e.2];lia
  refine⟨.inr (by rw[e.1];exact h3),?_⟩
  unfold hP;rw[ho,hp,decide_eq_true h3,decide_eq_true h4]
  rfl
def a9s(cl:Cl):Sp:=λvs H Q _=>∃(g bd kt:Addr)(n:Nat)(y:GSd)(os:List (List Int)),vs=[.ref g]/\GQ cl H g bd kt y os/\b0c y.st y.od y.pt os/\b4w n os/\∀p H',H p=none->Same H H'->GT H' p y->Q (.ref p) H'
abbrev a7j:Stmt:=a0z (top 100) 10
theorem b5u:i8 ["self"] ["self"] (g6 a7j):=↑1
theorem b6s(D:DefM K cl.Giver "mind" "Giver.mind" a7j ["self"])(T:Txt K mg cl)(GA:MethT P w K mg base cl.Giver "order_and_part" 4 ["self"] (a4v cl)):MethT P w K mg base cl.Giver "mind" 5 ["self"] (a9s cl):=by
 refine D.fn b5u (λvs H Q E h=>?_) (λf cdv A' outer s H vs Q E hr h=>?_)
 ·obtain⟨g,bd,kt,n,y,os,rfl,_⟩:=h
  rfl
 ·obtain⟨g,bd,kt,n,y,os,rfl,⟨dx,D,mr,ex,r,em⟩,pf,hg,k⟩:=h
  refine⟨_,(g0 (j4 (j3 (c1f (K:=K)) (t7 (d5 (m4 (K:=K) (pv 0)) (d5 (m4 (K:=K) (pv 0)) (d5 (l0 (a0r (K:=K)) (by rfl) T.z_tuple PyProof.Rows.boot_tuple (d5 (m4 (K:=K) (pv 0)) d6)) d6)))) (a1v (k:=4) (pv 0) hr (by decide) j8)))),?_⟩
  obtain⟨gk,eo⟩:=c6k pf hg;fail "";intro m hm;generalize u1:upd H m _=H1;obtain⟨s1,e1⟩:=nwS u1 hm;have ex1:=s1 _ _ ex;fail "";refine⟨by show 3<=sizeLine;decide,λt ht=>?_⟩
  generalize u2:upd H1 t _=H2;obtain⟨s2,e2⟩:=nwS u2 ht;have s12:=s1.trans s2;have ex2:=s12 _ _ ex;fail "";refine a6i ?_;fail "";refine⟨g,cl.Giver,dx,_,_,_,rfl,ex2,rfl,T.k_Giver,GA,?_⟩;fail "";refine⟨g,dx,D,bd,kt,mr,y.st,y.he,gnu y,gle y os,os,rfl,ex2,r.same s12,gk,λp hp=>?_⟩;rw[eo];generalize u3:upd H2 p _=H3;obtain⟨s3,e3⟩:=nwS u3 hp;refine⟨t,p,_,_,rfl,rfl,SqT.of (s3 _ _ e2),SqT.of e3,(λz=>nomatch z),(show 3+2<=sizeLine by decide),(λz=>nomatch z),λ_ q hq=>?_⟩
  have s13:=s12.trans s3;refine k q _ (m6 s13 hq) (s13.trans (i3 hq)) ⟨m,d8,?_⟩;exact i3 hq _ _ (s3 _ _ (s2 _ _ e1))
def a9o(cl:Cl):Sp:=λvs H Q _=>∃(t bd kt:Addr)(n:Nat)(y:TSd)(bk:List (List Int)),vs=[.ref t]/\TQ cl H t bd kt y bk/\c2g y.st y.nu y.le/\∀p H',H p=none->Same H H'->TT H' p y->Q (.ref p) H'
abbrev a7f:Stmt:=a0z (top 110) 4
theorem a3e:i8 ["self","number","left","seen"] ["self"] (g6 a7f):=↑1
theorem b6o(D:DefM K cl.Taker "mind" "Taker.mind" a7f ["self"])(T:Txt K mg cl):MethT P w K mg base cl.Taker "mind" 1 ["self"] (a9o cl):=by
 refine D.fn a3e (λvs H Q E h=>?_) (λf cdv A' outer s H vs Q E hr h=>?_)
 ·obtain⟨t,bd,kt,n,y,bk,rfl,_⟩:=h
  rfl
 ·obtain⟨t,bd,kt,n,y,bk,rfl,⟨dx,D,mr,pa,ex,r,em,ep⟩,⟨r1,r2⟩,k⟩:=h
  refine⟨_,(d7 (j7 (i:=1) a3e.nd rfl (by first|exact Or.inl rfl|exact Or.inr rfl) (a5u (i6 (a4d (K:=K)) (m4 (K:=K) (pv 0)) (t7 (d5 i9 (d5 i9 d6))) (by with_unfolding_all rfl)) (m4 (K:=K) (pv 0)) d9))
   (d7 (j7 (i:=2) a3e.nd rfl (by first|exact Or.inl rfl|exact Or.inr rfl) (a5u (i6 a0q (m4 (K:=K) (pv 0)) i9 (i7 _)) (m4 (K:=K) (pv 0)) d9))
   (d7 (j7 (i:=3) a3e.nd rfl (by first|exact Or.inl rfl|exact Or.inr rfl) (t7 (d5 (m4 (K:=K) (pv 0)) (d5 (pv 1) (d5 (pv 2) (d5 (l0 (a0r (K:=K)) (by rfl) T.z_tuple PyProof.Rows.boot_tuple (d5 (m4 (K:=K) (pv 0)) d6)) d6))))))
   (g0 (j4 (j3 (c1f (K:=K)) (t7 (d5 (m4 (K:=K) (pv 0)) (d5 (m4 (K:=K) (pv 0)) (d5 (l0 (a0r (K:=K)) (by rfl) T.z_tuple PyProof.Rows.boot_tuple (d5 (m4 (K:=K) (pv 0)) d6)) d6)))) (pv 3))))))),?_⟩
  refine a5j (λσ' H'=>σ'=[some (.ref t),some (.int y.nu),none,none]/\Same H H') ?_ ?_
  rotate_left
  ·intro R hR
   fail "";refine⟨by show 2<=sizeLine;decide,λt1 ht1=>?_⟩
   generalize u1:upd H t1 _=H1;obtain⟨s1,e1⟩:=nwS u1 ht1;have ex1:=s1 _ _ ex;refine c2s (xs:=["left","thing"]) (SqT.of e1) ?_;by_cases c:y.st∈(["left","thing"]:List Str)
   ·rw[decide_eq_true c]
    fail "";exact hR _ _ ⟨rfl,s1⟩
   ·rw[decide_eq_false c]
    fail "";have:y.nu=0:=r1.elim id λz=>absurd (by simpa using z) c
    exact hR _ _ ⟨by rw[this];rfl,s1⟩
  rintro σ H1 ⟨rfl,s1⟩;have ex1:=s1 _ _ ex;refine a5j (λσ' H'=>σ'=[some (.ref t),some (.int y.nu),some (.int y.le),none]/\Same H H') ?_ ?_
  rotate_left
  ·intro R hR
   fail "";rw[a2c];by_cases c:y.st="thing"
   ·rw[decide_eq_true c]
    fail "";exact hR _ _ ⟨rfl,s1⟩
   ·rw[decide_eq_false c]
    fail "";have:y.le=0:=r2.elim id λz=>absurd z.2 c;exact hR _ _ ⟨by rw[this];rfl,s1⟩
  rintro σ H2 ⟨rfl,s2⟩;have ex2:=s2 _ _ ex;have ep2:=s2 _ _ ep;fail "";intro p1 hp1;generalize u3:upd H2 p1 _=H3;obtain⟨s3,e3⟩:=nwS u3 hp1;have ex3:=s3 _ _ ex2;fail "";refine⟨by show 4<=sizeLine;decide,λt2 ht2=>?_⟩
  generalize u4:upd H3 t2 _=H4;obtain⟨s4,e4⟩:=nwS u4 ht2;have s04:=(s2.trans s3).trans s4;have ex4:=s04 _ _ ex;have em4:=s04 _ _ em;fail "";intro m1 hm1;generalize u5:upd H4 m1 _=H5;obtain⟨s5,e5⟩:=nwS u5 hm1;have ex5:=s5 _ _ ex4;fail "";refine⟨by show 3<=sizeLine;decide,λt3 ht3=>?_⟩
  generalize u6:upd H5 t3 _=H6;obtain⟨s6,e6⟩:=nwS u6 ht3;fail "";have s06:=(s04.trans s5).trans s6;refine⟨t3,t2,_,_,rfl,rfl,SqT.of e6,SqT.of (s6 _ _ (s5 _ _ e4)),(λz=>nomatch z),(show 3+4<=sizeLine by decide),(λz=>nomatch z),λ_ q hq=>?_⟩
  refine k q _ (m6 s06 hq) (s06.trans (i3 hq)) ⟨m1,p1,d8,i3 hq _ _ (s6 _ _ e5),i3 hq _ _ (s6 _ _ (s5 _ _ (s4 _ _ e3)))⟩
def a6w(cl:Cl):Sp:=λvs H Q _=>∃(g bd kt:Addr)(y:GSd)(os:List (List Int)),vs=[.ref g]/\GQ cl H g bd kt y os/\os.length<=1000/\∀p H',NewRows H H' p os->Q (.ref p) H'
abbrev a4s:Stmt:=a0z (top 100) 2
theorem b3c:i8 ["self"] ["self"] (g6 a4s):=↑1
theorem b3t(D:DefM K cl.Giver "orders" "Giver.orders" a4s ["self"])(T:Txt K mg cl)(G_orders_told:FnT P w K mg base "orders_told" 1 ["orders"] a4h):MethT P w K mg base cl.Giver "orders" 2 ["self"] (a6w cl):=by
 refine D.fn b3c (λvs H Q E h=>?_) (λf cdv A' outer s H vs Q E hr h=>?_)
 ·obtain⟨g,bd,kt,y,os,rfl,_⟩:=h
  rfl
 ·obtain⟨g,bd,kt,y,os,rfl,⟨dx,D,mr,ex,r,em⟩,lo,k⟩:=h
  refine⟨_,(g0 (j4 (l8 G_orders_told hr (by decide) rfl j8 (d5 (m4 (K:=K) (pv 0)) d6)))),?_⟩
  fail "";exact⟨D,os,rfl,r,lo,k⟩
def a9q(cl:Cl):Sp:=λvs H Q _=>∃(t bd kt:Addr)(y:TSd)(bk:List (List Int)),vs=[.ref t]/\TQ cl H t bd kt y bk/\bk.length<=1000/\∀p H',NewRows H H' p bk->Q (.ref p) H'
abbrev a7h:Stmt:=a0z (top 110) 1
theorem b5s:i8 ["self"] ["self"] (g6 a7h):=↑1
theorem b6q(D:DefM K cl.Taker "book" "Taker.book" a7h ["self"])(T:Txt K mg cl)(G_orders_told:FnT P w K mg base "orders_told" 1 ["orders"] a4h):MethT P w K mg base cl.Taker "book" 2 ["self"] (a9q cl):=by
 refine D.fn b5s (λvs H Q E h=>?_) (λf cdv A' outer s H vs Q E hr h=>?_)
 ·obtain⟨t,bd,kt,y,bk,rfl,_⟩:=h
  rfl
 ·obtain⟨t,bd,kt,y,bk,rfl,⟨dx,D,mr,pa,ex,r,em,ep⟩,lo,k⟩:=h
  refine⟨_,(g0 (j4 (l8 G_orders_told hr (by decide) rfl j8 (d5 (m4 (K:=K) (pv 0)) d6)))),?_⟩
  fail "";exact⟨D,bk,rfl,r,lo,k⟩
def a9r(cl:Cl):Sp:=λvs H Q _=>∃(la:Addr)(x:Sd),vs=[.ref la]/\LQ cl H la x/\∀p,H p=none->Q (.ref p) (upd H p (.lst (x.c.map V.int)))
abbrev a7i:Stmt:=a0z (top 112) 14
theorem b5t:i8 ["self"] ["self"] (g6 a7i):=↑1
theorem b6r(D:DefM K cl.Lane "cells" "Lane.cells" a7i ["self"])(T:Txt K mg cl)(G_Board_all_cells:MethT P w K mg base cl.Board "all_cells" 1 ["self"] (a4a cl)):MethT P w K mg base cl.Lane "cells" 2 ["self"] (a9r cl):=by
 refine D.fn b5t (λvs H Q E h=>?_) (λf cdv A' outer s H vs Q E hr h=>?_)
 ·obtain⟨la,x,rfl,_⟩:=h
  rfl
 ·obtain⟨la,x,rfl,⟨dx,bd,l,kt,g,t,ela,hB,ekt,gq,tq⟩,k⟩:=h
  refine⟨_,(g0 (j4 (c7z (m4 (K:=K) (pv 0)) T.k_Board G_Board_all_cells hr (by decide) j8))),?_⟩
  obtain⟨⟨dxb,eb⟩,_⟩:=id hB;fail "";exact⟨bd,l,x.n,x.c,0,.non,rfl,hB,k⟩
def a8l(cl:Cl):Sp:=λvs H Q _=>∃(la:Addr)(x:Sd),vs=[.ref la]/\LQ cl H la x/\x.os.length<=1000/\∀p H',NewRows H H' p x.os->Q (.ref p) H'
abbrev a5s:Stmt:=a0z (top 112) 11
theorem b4m:i8 ["self"] ["self"] (g6 a5s):=↑1
theorem b4v(D:DefM K cl.Lane "orders" "Lane.orders" a5s ["self"])(T:Txt K mg cl)(GO:MethT P w K mg base cl.Giver "orders" 2 ["self"] (a6w cl)):MethT P w K mg base cl.Lane "orders" 3 ["self"] (a8l cl):=by
 refine D.fn b4m (λvs H Q E h=>?_) (λf cdv A' outer s H vs Q E hr h=>?_)
 ·obtain⟨la,x,rfl,_⟩:=h
  rfl
 ·obtain⟨la,x,rfl,⟨dx,bd,l,kt,g,t,ela,hB,ekt,gq,tq⟩,lo,k⟩:=h
  refine⟨_,(g0 (j4 (a1v (k:=2) (m4 (K:=K) (pv 0)) hr (by decide) j8))),?_⟩
  obtain⟨dxg,D,mr,eg,_⟩:=id gq;fail "";refine a6i ?_;fail "";refine⟨g,cl.Giver,dxg,_,_,_,rfl,eg,rfl,T.k_Giver,GO,?_⟩;fail "";exact⟨g,bd,kt,x.g,x.os,rfl,gq,lo,k⟩
def b1s(cl:Cl):Sp:=λvs H Q _=>∃(la:Addr)(x:Sd),vs=[.ref la]/\LQ cl H la x/\x.bk.length<=1000/\∀p H',NewRows H H' p x.bk->Q (.ref p) H'
abbrev a9d:Stmt:=a0z (top 112) 10
theorem b7v:i8 ["self"] ["self"] (g6 a9d):=↑1
theorem b8u(D:DefM K cl.Lane "book" "Lane.book" a9d ["self"])(T:Txt K mg cl)(GO:MethT P w K mg base cl.Taker "book" 2 ["self"] (a9q cl)):MethT P w K mg base cl.Lane "book" 3 ["self"] (b1s cl):=by
 refine D.fn b7v (λvs H Q E h=>?_) (λf cdv A' outer s H vs Q E hr h=>?_)
 ·obtain⟨la,x,rfl,_⟩:=h
  rfl
 ·obtain⟨la,x,rfl,⟨dx,bd,l,kt,g,t,ela,hB,ekt,gq,tq⟩,lo,k⟩:=h
  refine⟨_,(g0 (j4 (a1v (k:=2) (m4 (K:=K) (pv 0)) hr (by decide) j8))),?_⟩
  obtain⟨dxt,D,mr,pa,et,_⟩:=id tq;fail "";refine a6i ?_;fail "";refine⟨t,cl.Taker,dxt,_,_,_,rfl,et,rfl,T.k_Taker,GO,?_⟩;fail "";exact⟨t,bd,kt,x.t,x.bk,rfl,tq,lo,k⟩
theorem NewRows.rws{H H':Hp}{p:Addr}{os:List (List Int)}(h:NewRows H H' p os):Rws H' p os:=by
 obtain⟨_,_,ps,e,l,r⟩:=h;exact⟨ps,e,l,λi q o hq ho=>(r i q o hq ho).2.2⟩
def b2p(cl:Cl):Sp:=λvs H Q _=>∃(la:Addr)(x:Sd),vs=[.ref la]/\LQ cl H la x/\a5g x/\x.os.length<=1000/\x.bk.length<=1000/\∀p H',H p=none->Same H H'->ST H' p x->Q (.ref p) H'
abbrev b0q:Stmt:=top 123
theorem b2x:i8 ["lane","cells"] ["lane"] (g6 b0q):=↑1
theorem b9x(D:DefT K mg "stand_of" b0q ["lane"])(T:Txt K mg cl)(G_Lane_cells:MethT P w K mg base cl.Lane "cells" 2 ["self"] (a9r cl))(GG:MethT P w K mg base cl.Giver "mind" 5 ["self"] (a9s cl))(GK:MethT P w K mg base cl.Taker "mind" 5 ["self"] (a9o cl))(G_frozen:FnT P w K mg base "frozen" 1 ["orders"] b7k)(GO:MethT P w K mg base cl.Lane "orders" 3 ["self"] (a8l cl))(GB:MethT P w K mg base cl.Lane "book" 3 ["self"] (b1s cl)):FnT P w K mg base "stand_of" 6 ["lane"] (b2p cl):=by
 refine D.fn b2x (λvs H Q E h=>?_) (λf cdv A' outer s H vs Q E hr h=>?_)
 ·obtain⟨la,x,rfl,_⟩:=h
  rfl
 ·obtain⟨la,x,rfl,lq,gs,lo,lb,k⟩:=h
  refine⟨_,(d7 (j7 (i:=1) b2x.nd rfl (by first|exact Or.inl rfl|exact Or.inr rfl) (l0 (a0r (K:=K)) (by rfl) T.z_tuple PyProof.Rows.boot_tuple (d5 (c7z (pv 0) T.k_Lane G_Lane_cells hr (by decide) j8) d6)))
   (g0 (j4 (t7 (d5 (pv 1) (d5 (a1v (k:=5) (m4 (K:=K) (pv 0)) hr (by decide) j8) (d5 (a1v (k:=5) (m4 (K:=K) (pv 0)) hr (by decide) j8) (d5 (l8 G_frozen hr (by decide) rfl j8 (d5 (a1v (k:=3) (pv 0) hr (by decide) j8) d6)) (d5 (l8 G_frozen hr (by decide) rfl j8 (d5 (a1v (k:=3) (pv 0) hr (by decide) j8) d6)) d6))))))))),?_⟩
  obtain⟨dx,bd,l,kt,g,t,ela,hB,ekt,gq,tq⟩:=id lq;obtain⟨dxg,Dg,mrg,eg,_⟩:=id gq;obtain⟨dxt,Dt,mrt,pat,et,_⟩:=id tq;fail "";refine⟨la,x,rfl,lq,λp1 hp1=>?_⟩;generalize u1:upd H p1 _=H1;obtain⟨s1,e1⟩:=nwS u1 hp1;fail "";intro c hc;generalize u2:upd H1 c _=H2;obtain⟨s2,e2⟩:=nwS u2 hc;have s02:=s1.trans s2;have ela2:=s02 _ _ ela;have eg2:=s02 _ _ eg;fail "";refine a6i ?_;fail "";refine⟨g,cl.Giver,dxg,_,_,_,rfl,eg2,rfl,T.k_Giver,GG,?_⟩;refine⟨g,bd,kt,x.n,x.g,x.os,rfl,gq.same s02,gs.g.pf,gs.os,λp3 H3 hp3 s3 t3=>?_⟩;have s03:=s02.trans s3;have ela3:=s03 _ _ ela;have et3:=s03 _ _ et;fail "";refine a6i ?_;fail "";refine⟨t,cl.Taker,dxt,_,_,_,rfl,et3,rfl,T.k_Taker,GK,?_⟩;refine⟨t,bd,kt,x.n,x.t,x.bk,rfl,tq.same s03,gs.t.rf,λp4 H4 hp4 s4 t4=>?_⟩;have s04:=s03.trans s4;have ela4:=s04 _ _ ela;fail "";refine a6i ?_;fail "";refine⟨la,cl.Lane,dx,_,_,_,rfl,ela4,rfl,T.k_Lane,GO,?_⟩;refine⟨la,x,rfl,lq.same s04,lo,λp5 H5 r5=>?_⟩;have s05:=s04.trans r5.2.1;fail "";refine⟨p5,x.os,rfl,r5.rws,lo,λp6 H6 hp6 s6 t6=>?_⟩;have s06:=s05.trans s6;have ela6:=s06 _ _ ela;fail "";refine a6i ?_;fail "";refine⟨la,cl.Lane,dx,_,_,_,rfl,ela6,rfl,T.k_Lane,GB,?_⟩;refine⟨la,x,rfl,lq.same s06,lb,λp7 H7 r7=>?_⟩;have s67:=r7.2.1;fail "";refine⟨p7,x.bk,rfl,r7.rws,lb,λp8 H8 hp8 s8 t8=>?_⟩;fail "";refine⟨by show 5<=sizeLine;decide,λq hq=>?_⟩
  have s78:=s67.trans s8;have s08:=s06.trans s78;have sq:=i3 (o:=.tup [.ref c,.ref p3,.ref p4,.ref p6,.ref p8]) hq;have s68:=s78.trans sq;have s48:=(r5.2.1.trans s6).trans s68;refine k q _ (m6 s08 hq) (s08.trans sq) ⟨c,p3,p4,p6,p8,d8,?_,t3.same (s4.trans s48),t4.same s48,t6.same s68,t8.same sq⟩;exact s48 _ _ (s4 _ _ (s3 _ _ e2))
def NK(wl:Addr)(H0:Hp)(D:Addr)(i:Nat)(acc:List V)(H':Hp):Prop:=∃ms:List Int,acc=ms.map V.int/\ms.length=i/\TenB 0 ms/\H' D=some (.lst acc)/\Well H' wl/\But wl H0 H'/\D≠wl
def d6o(y:TSd):Prop:=y.nu.natAbs<10 ^ 59+1+0/\y.le.natAbs<10 ^ 59+1+0/\TenB 0 y.pa/\y.pa.length<=8
theorem c5j{v u:Int}(a:0<=v)(b:v<10 ^ 59)(c:0<=u)(d:u<10 ^ 59):(v-u).natAbs<10 ^ 59+1+0:=by lia
theorem tst(a:Fin 16):(tkU.get a∈b0o ↔ a.val<4)/\(tkU.get a="marks" ↔ a.val=3)/\(tkU.get a∈a9i ↔ 13<=a.val):=by
 revert a
 decide +kernel
theorem b9b{H:Hp}{Q:VK}{t:Addr}{x:Str}{xs:List Str}(h:SqL K H t (xs.map V.str))(q:Q (.bl (decide (x∈xs))) H):rIn K false (.str x) (.ref t) H Q :=
 ⟨t,_,rfl,.inl h,rfl,b0n xs,by rw[if_neg (by decide),b2j];exact q⟩
theorem b2k{H H':Hp}{wl p:Addr}(b:But wl H H')(hw:Well H' wl)(hp:H' p=none):H p=none:=by
 cases e:H p with
 | none=>rfl
 | some o=>
  have:p≠wl:=λz=>by
   obtain⟨_,_,_,ew,_⟩:=hw;rw[z,ew] at hp;cases hp
  rw[b _ _ e this] at hp;cases hp
def b1m(cl:Cl):Sp:=λvs H Q _=>∃(wl:Addr)(n:Nat),vs=[.ref wl,.int n]/\Well H wl/\2<=n/\n<=8/\∀p y H',H p=none->Well H' wl->But wl H H'->TT H' p y->c7o n y->d6o y->Q (.ref p) H'
abbrev a8w:Stmt:=top 149
theorem a0b:i8 ["well","size","stages","at","seen","first","far","parts","number","left"] ["well","size"] (g6 a8w):=↑1
theorem b8n(D:DefT K mg "_law_taker" a8w ["well","size"])(T:Txt K mg cl)(G_law_take:FnT P w K mg base "_law_take" 1 ["well","many"] a0e)(G_law_far:FnT P w K mg base "_law_far" 2 ["well"] a8n):FnT P w K mg base "_law_taker" 3 ["well","size"] (b1m cl):=by
 refine D.fn a0b (λvs H Q E h=>?_) ↑4
 ·obtain⟨wl,n,rfl,_⟩:=h
  rfl
 ·obtain⟨wl,n,rfl,hw,n2,n8,k⟩:=h
  refine⟨_,(@d7 _ _ _ _ _ (@j7 _ _ 2 _ _ _ _ a0b.nd rfl (by first|exact Or.inl rfl|exact Or.inr rfl) (@l7 _ _ _ _ (@d5 _ _ _ _ _ i9 (@d5 _ _ _ _ _ i9 (@d5 _ _ _ _ _ i9 (@d5 _ _ _ _ _ i9 ↑3 rfl) rfl) rfl) rfl)) (by rfl) (by first|exact .inl rfl|exact .inr rfl))
   (d7 (j7 (i:=2) a0b.nd rfl (by first|exact Or.inl rfl|exact Or.inr rfl) (j3 a4f (pv 2) (@l7 _ _ _ _ ↑3)))
   (d7 (j7 (i:=3) a0b.nd rfl (by first|exact Or.inl rfl|exact Or.inr rfl) ↑2)
   (d7 (v9 (i6 a1w (pv 3) d9 (i7 _))
     (
     d7 (j7 (i:=4) a0b.nd rfl (by first|exact Or.inl rfl|exact Or.inr rfl) (l0 (a0r (K:=K)) (by rfl) T.z_tuple PyProof.Rows.boot_tuple (d5 (a1k (N:=["k","well"]) (nt:=1) (fr:=[0]) rfl (a3f (i:=0) rfl rfl (by decide +kernel) (by decide +kernel) rfl rfl rfl rfl rfl rfl rfl) (a1e rfl T.z_range (d5 (j3 y0 (l8 G_law_take hr (by decide) rfl j8 (d5 (pv 0) (d5 (pv 1) d6))) (l0 a3x (by rfl) T.z_int PyProof.Rows.boot_int (d5 (m5 a0q (pv 3) d9 (i7 _)) d6))) d6)) (z9 (by decide)) (λ_ _ _ _ _=>i4 (i:=0) (show(["k","well"]:List Str).Nodup by decide +kernel) rfl (Or.inl rfl) (Or.inr rfl)) (λ_ _ _ _ _=>(l8 G_law_take hr (by decide) rfl b4o (d5 (pv 1) (d5 d9 d6))))) d6)))
     (g0 (j4 (t7 (d5 (x9 (m3 (K:=K)) (pv 2) (pv 3) (λ_ _=>rfl)) (d5 a2z (d5 (pv 4) (d5 a2z (d5 d9 (d5 d9 (d5 (t7 d6) d6)))))))))))
     k7)
   (d7 (j7 (i:=5) a0b.nd rfl (by first|exact Or.inl rfl|exact Or.inr rfl) (l8 G_law_take hr (by decide) rfl j8 (d5 (pv 0) (d5 (j3 y0 d9 (pv 1)) d6))))
   (d7 (j7 (i:=6) a0b.nd rfl (by first|exact Or.inl rfl|exact Or.inr rfl) (l8 G_law_take hr (by decide) rfl j8 (d5 (pv 0) (d5 (pv 1) d6))))
   (d7 (j7 (i:=7) a0b.nd rfl (by first|exact Or.inl rfl|exact Or.inr rfl) (l0 (a0r (K:=K)) (by rfl) T.z_tuple PyProof.Rows.boot_tuple (d5 (a1k (N:=["k","well"]) (nt:=1) (fr:=[0]) rfl (a3f (i:=0) rfl rfl (by decide +kernel) (by decide +kernel) rfl rfl rfl rfl rfl rfl rfl) (a1e rfl T.z_range (d5 (j3 y0 (pv 6) (l0 a3x (by rfl) T.z_int PyProof.Rows.boot_int (d5 (m5 a1w (pv 3) d9 (i7 _)) d6))) d6)) (z9 (by decide)) (λ_ _ _ _ _=>i4 (i:=0) (show(["k","well"]:List Str).Nodup by decide +kernel) rfl (Or.inl rfl) (Or.inr rfl)) (λ_ _ _ _ _=>(j3 a0y (l8 G_law_far hr (by decide) rfl b4o (d5 (pv 1) d6)) (l8 G_law_far hr (by decide) rfl b4o (d5 (pv 1) d6))))) d6)))
   (d7 (j7 (i:=8) a0b.nd rfl (by first|exact Or.inl rfl|exact Or.inr rfl) (j3 y0 (j3 a0y (l8 G_law_far hr (by decide) rfl j8 (d5 (pv 0) d6)) d9) (l0 a3x (by rfl) T.z_int PyProof.Rows.boot_int (d5 (m5 (a4d (K:=K)) (x9 (m3 (K:=K)) (pv 2) (pv 3) (λ_ _=>rfl)) (l7 (d5 i9 (d5 i9 d6))) (by with_unfolding_all rfl)) d6))))
   (d7 (j7 (i:=9) a0b.nd rfl (by first|exact Or.inl rfl|exact Or.inr rfl) (j3 y0 (l8 G_law_take hr (by decide) rfl j8 (d5 (pv 0) (d5 (pv 1) d6))) (l0 a3x (by rfl) T.z_int PyProof.Rows.boot_int (d5 (m5 a0q (x9 (m3 (K:=K)) (pv 2) (pv 3) (λ_ _=>rfl)) i9 (i7 _)) d6))))
   (g0 (j4 (t7 (d5 (x9 (m3 (K:=K)) (pv 2) (pv 3) (λ_ _=>rfl)) (d5 (j3 a5c (j3 a0k (pv 5) (pv 6)) (j3 y0 d9 (pv 1))) (d5 (t7 d6) (d5 (pv 5) (d5 (pv 8) (d5 (pv 9) (d5 (pv 7) d6))))))))))))))))))),?_⟩
  have h60:6000<=sizeLine:=by decide
  fail "";refine⟨by show 10<=sizeLine;decide,λp1 hp1=>?_⟩
  generalize u1:upd H p1 _=H1;obtain⟨s1,e1⟩:=nwS u1 hp1;fail "";refine⟨by show 6<=sizeLine;decide,λp2 hp2=>?_⟩
  generalize u2:upd H1 p2 _=H2;obtain⟨s2,e2⟩:=nwS u2 hp2;fail "";refine b4d (s2 _ _ e1) e2 (by show 10+6<=sizeLine;decide) λsg hsg=>?_
  rw[show([.str "rouse",.str "clear",.str "mute",.str "marks",.str "look",.str "wish",.str "again",.str "sleep",.str "hush",.str "unwish"]:List V)++[.str "number",.str "left",.str "thing",.str "free",.str "card",.str "ring"]=tkU.map V.str from rfl];generalize u3:upd H2 sg _=H3;obtain⟨s3,e3⟩:=nwS u3 hsg;have s03:=(s1.trans s2).trans s3;have nsg:=((hw.same s1).same s2).ne hsg;fail "";refine⟨wl,16,rfl,hw.same s03,by decide,by decide,λat_ H6 a6 b6 w6 c6=>?_⟩
  have B6:But wl H H6:=(But.of s03).trans c6;have e6:=c6 _ _ e3 nsg;clear u1 u2 u3 e1 e2 e3 s1 s2 s3 s03 hp1 hp2 hsg c6;have ha:at_.toNat<16:=by lia
  obtain⟨g1,g2,g3⟩:=tst ⟨at_.toNat,ha⟩;dsimp only at g1 g2 g3;have hat:atI (tkU.map V.str) at_=some (.str (tkU.get ⟨at_.toNat,ha⟩)):=by
   unfold atI ixN;rw[if_pos a6,if_pos (by show at_<16;lia)]
   show(tkU.map V.str)[at_.toNat]?=_;rw[List.getElem?_map,List.getElem?_eq_getElem ha]
   rfl
  have hin:tkU.get ⟨at_.toNat,ha⟩∈tkU:=List.get_mem _ _;generalize tkU.get ⟨at_.toNat,ha⟩=st at *;fail "";by_cases z:at_<4
  ·rw[decide_eq_true z]
   have cu:st∈b0o:=g1.mpr (by lia)
   fail "";refine⟨wl,n,rfl,w6,by lia,by lia,λr8 H8 a8 b8 w8 c8=>?_⟩
   fail "";refine .inr ⟨_,rfl,?_⟩;rw[t5];have B8:=B6.trans c8;have e8:=c8 _ _ e6 nsg;obtain⟨m,em,hm0,hm1⟩:∃m:Nat,r8*(if decide (at_=3)=true then 1 else 0)=(m:Int)/\(at_=3->m<n)/\(at_≠3->m=0):=by
    by_cases z:at_=3
    ·rw[decide_eq_true z,if_pos rfl];exact⟨r8.toNat,by lia,λ_=>by lia,λq=>absurd z q⟩
    ·rw[decide_eq_false z,if_neg (by decide)];exact⟨0,by lia,λq=>absurd q z,λ_=>rfl⟩
   have m8:m<=8:=by
    by_cases z:at_=3
    ·have:=hm0 z;lia
    ·have:=hm1 z;lia
   refine⟨r8,_,rfl,rfl,?_,?_⟩
   ·split
    ·exact .inr ⟨by decide,by decide⟩
    ·exact .inr ⟨by decide,by decide⟩
   dsimp only;rw[em];fail "";rw[show((m:Nat):Int).toNat=m from rfl];refine a2l (n:=m) (by lia) (MK wl H8) (λD hD=>⟨[],rfl,rfl,(λ_ z=>(by cases z)),d8,w8.same (i3 hD),But.of (i3 hD),w8.ne hD⟩) ?_ ?_ ?_
   ·rintro D i acc H' ⟨ms,rfl,hl,_,e,_⟩
    exact⟨e,by rw[List.length_map];exact hl⟩
   ·rintro D i acc H' hD hi ⟨ms,rfl,hl,hms,e,w',b',nd⟩
    fail "";refine⟨wl,4,rfl,w',by decide,by decide,λv H9 a9 b9 w9 c9=>?_⟩
    refine⟨c9 _ _ e nd,ms++[v],by rw[List.map_append];rfl,by rw[List.length_append,hl];rfl,λq hq=>?_,?_,?_,b4h (b'.trans c9) hD,nd⟩
    ·rcases List.mem_append.mp hq with hq|hq
     ·exact hms q hq
     ·rw[List.mem_singleton.mp hq];lia
    ·rw[d8]
    ·obtain⟨x1,x2,x3,ew,z⟩:=w9
     exact⟨x1,x2,x3,(f9 (Ne.symm nd)).trans ew,z⟩
   rintro D acc H9 hD ⟨ms,rfl,hl,hms,e9,w9,b9,nd⟩;fail "";intro sn hsn;generalize u10:upd H9 sn _=H10;obtain⟨s10,e10⟩:=nwS u10 hsn;have B10:=(B8.trans b9).trans (But.of s10);have e10s:=s10 _ _ (b9 _ _ e8 nsg);have w10:=w9.same s10;fail "";refine a3w e10s hat ?_;fail "";refine⟨Nat.zero_le _,λq hq=>?_⟩;generalize u11:upd H10 q _=H11;obtain⟨s11,e11⟩:=nwS u11 hq;fail "";refine⟨by show 7<=sizeLine;decide,λp hp=>?_⟩
   have sq:=i3 (o:=.tup [.str st,.non,.ref sn,.non,.int 0,.int 0,.ref q]) hp;have B11:=B10.trans (But.of s11);refine k p ⟨st,.non,ms,.non,0,0,[]⟩ _ (b2k B11 (w10.same s11) hp) ((w10.same s11).same sq) (B11.trans (But.of sq)) ⟨sn,q,d8,sq _ _ (s11 _ _ e10),sq _ _ e11⟩ ⟨hin,?_,?_,?_,⟨.inl rfl,.inl rfl⟩,?_⟩ ⟨by show(0:Int).natAbs<_;decide,by show(0:Int).natAbs<_;decide,λ_ z=>(by cases z),Nat.zero_le _⟩
   ·show a3i n st .non
    unfold a3i;rw[if_pos cu]
   ·show a3i n st .non
    unfold a3i;rw[if_pos cu]
   ·show a3u n st ms
    unfold a3u;by_cases c:st="marks"
    ·rw[if_pos c];exact⟨by rw[hl];exact hm0 (by have:=g2.mp c;lia),hms⟩
    ·rw[if_neg c];exact List.length_eq_zero_iff.mp (by rw[hl];exact hm1 λy=>c (g2.mpr (by lia)))
   ·show a7t n ⟨st,.non,ms,.non,0,0,[]⟩
    unfold a7t;rw[if_pos cu]
  ·rw[decide_eq_false z]
   fail "";have nc:st ∉ b0o:=λc=>z (by have:=g1.mp c;lia)
   refine⟨wl,2*(n:Int),rfl,w6,by lia,by lia,λfi H7 a7 b7 w7 c7=>?_⟩
   fail "";refine⟨wl,n,rfl,w7,by lia,by lia,λfa H8 a8 b8 w8 c8=>?_⟩
   have B8:=(B6.trans c7).trans c8;have e8:=c8 _ _ (c7 _ _ e6 nsg) nsg;fail "";refine .inr ⟨_,rfl,?_⟩;obtain⟨m,em,hm⟩:∃m:Nat,fa*(if decide (at_<13)=true then 1 else 0)=(m:Int)/\(m:Int)=if at_<13 then fa else 0:=by
    by_cases y:at_<13
    ·rw[decide_eq_true y,if_pos rfl,if_pos y];exact⟨fa.toNat,by lia,by lia⟩
    ·rw[decide_eq_false y,if_neg (by decide),if_neg y];exact⟨0,by lia,by lia⟩
   have m8:m<=8:=by split at hm <;> lia
   refine⟨fa,_,rfl,rfl,?_,?_⟩
   ·split
    ·exact .inr ⟨by decide,by decide⟩
    ·exact .inr ⟨by decide,by decide⟩
   dsimp only;rw[em];fail "";rw[show((m:Nat):Int).toNat=m from rfl];refine a2l (n:=m) (by lia) (NK wl H8) (λD hD=>⟨[],rfl,rfl,(λ_ z=>(by cases z)),d8,w8.same (i3 hD),But.of (i3 hD),w8.ne hD⟩) ?_ ?_ ?_
   ·rintro D i acc H' ⟨ms,rfl,hl,_,e,_⟩
    exact⟨e,by rw[List.length_map];exact hl⟩
   ·rintro D i acc H' hD hi ⟨ms,rfl,hl,tms,e,w',b',nd⟩
    fail "";refine⟨wl,rfl,w',λv H9 a9 b9 w9 c9=>?_⟩;fail "";refine⟨wl,rfl,w9,λu H10 a10 b10 w10 c10=>?_⟩;fail "";have c90:=c9.trans c10;refine⟨c90 _ _ e nd,ms++[v-u],by rw[List.map_append];rfl,by rw[List.length_append,hl];rfl,λy hy=>?_,?_,?_,b4h (b'.trans c90) hD,nd⟩
    ·rcases List.mem_append.mp hy with hy|hy
     ·exact tms y hy
     ·rw[List.mem_singleton.mp hy];exact c5j a9 b9 a10 b10
    ·rw[d8]
    ·obtain⟨x1,x2,x3,ew,z⟩:=w10
     exact⟨x1,x2,x3,(f9 (Ne.symm nd)).trans ew,z⟩
   rintro D acc H9 hD ⟨ms,rfl,hl,tms,e9,w9,b9,nd⟩;fail "";intro pa hpa;generalize u10:upd H9 pa _=H10;obtain⟨s10,e10⟩:=nwS u10 hpa;have B10:=(B8.trans b9).trans (But.of s10);have e10s:=s10 _ _ (b9 _ _ e8 nsg);have w10:=w9.same s10;have npa:=w9.ne hpa;clear u10 e9 s10 hpa b9 w9 e8 B8 c8 w8 hD nd c7 w7 e6 B6 w6;fail "";refine⟨wl,rfl,w10,λr11 H11 a11 b11 w11 c11=>?_⟩;have e11s:=c11 _ _ e10s nsg;fail "";refine a3w e11s hat ?_;fail "";refine⟨by show 2<=sizeLine;decide,λl12 hl12=>?_⟩
   generalize u12:upd H11 l12 _=H12;obtain⟨s12,e12⟩:=nwS u12 hl12;refine b9b (xs:=["left","thing"]) (SqL.of e12) ?_;fail "";refine .inr ⟨_,rfl,?_⟩;refine⟨r11-2,_,rfl,rfl,?_,?_⟩
   ·split
    ·exact .inr ⟨by decide,by decide⟩
    ·exact .inr ⟨by decide,by decide⟩
   dsimp only;obtain⟨nu,enu,hnu,tnu⟩:∃nu:Int,(r11-2)*(if decide (st∈(["left","thing"]:List Str))=true then 1 else 0)=nu/\(nu=0\/st="left"\/st="thing")/\nu.natAbs<10 ^ 59+1+0:=by
    by_cases y:st∈(["left","thing"]:List Str)
    ·rw[decide_eq_true y,if_pos rfl];exact⟨_,rfl,.inr (by simpa using y),by lia⟩
    ·rw[decide_eq_false y,if_neg (by decide)];exact⟨_,rfl,.inl (by lia),by lia⟩
   rw[enu];have e12s:=s12 _ _ e11s;have B12:=(B10.trans c11).trans (But.of s12);have w12:=w11.same s12;have e12p:=s12 _ _ (c11 _ _ e10 npa);fail "";refine⟨wl,n,rfl,w12,by lia,by lia,λr13 H13 a13 b13 w13 c13=>?_⟩
   have e13s:=c13 _ _ e12s nsg;have e13p:=c13 _ _ e12p npa;have B13:=B12.trans c13;fail "";refine a3w e13s hat ?_;fail "";refine .inr ⟨_,rfl,?_⟩;rw[a2c];refine⟨r13,_,rfl,rfl,?_,?_⟩
   ·split
    ·exact .inr ⟨by decide,by decide⟩
    ·exact .inr ⟨by decide,by decide⟩
   dsimp only;obtain⟨le,ele,hle,tle⟩:∃le:Int,r13*(if decide (st="thing")=true then 1 else 0)=le/\(le=0\/(0<le/\st="thing"))/\le.natAbs<10 ^ 59+1+0:=by
    by_cases y:st="thing"
    ·rw[decide_eq_true y,if_pos rfl]
     by_cases x:r13=0
     ·exact⟨_,rfl,.inl (by lia),by lia⟩
     ·exact⟨_,rfl,.inr ⟨by lia,y⟩,by lia⟩
    ·rw[decide_eq_false y,if_neg (by decide)];exact⟨_,rfl,.inl (by lia),by lia⟩
   rw[ele];fail "";refine a3w e13s hat ?_;fail "";refine⟨Nat.zero_le _,λq hq=>?_⟩;generalize u14:upd H13 q _=H14;obtain⟨s14,e14⟩:=nwS u14 hq;fail "";refine⟨by show 7<=sizeLine;decide,λp hp=>?_⟩
   have sq:=i3 (o:=.tup [.str st,.int ((fi+fa) % (2*(n:Int))),.ref q,.int fi,.int nu,.int le,.ref pa]) hp;have B14:=B13.trans (But.of s14);have t0:=Int.emod_nonneg (fi+fa) (show 2*(n:Int)≠0 by lia)
   have t1:=Int.emod_lt_of_pos (fi+fa) (show 0<2*(n:Int) by lia)
   have dist:((fi+fa) % (2*(n:Int))-fi) % (2*(n:Int))=fa:=by
    rw[Int.sub_eq_add_neg,Int.emod_add_emod,show fi+fa + -fi=fa by lia]
    exact Int.emod_eq_of_lt a8 (by lia)
   refine k p ⟨st,.int ((fi+fa) % (2*(n:Int))),[],.int fi,nu,le,ms⟩ _ (b2k B14 (w13.same s14) hp) ((w13.same s14).same sq) (B14.trans (But.of sq)) ⟨q,pa,d8,sq _ _ e14,sq _ _ (s14 _ _ e13p)⟩ ⟨hin,?_,?_,?_,⟨hnu,hle⟩,?_⟩ ⟨tnu,tle,tms,by show ms.length<=8;lia⟩
   ·show a3i n st (.int _)
    unfold a3i;rw[if_neg nc];exact⟨_,rfl,t0,t1⟩
   ·show a3i n st (.int _)
    unfold a3i;rw[if_neg nc];exact⟨_,rfl,a7,b7⟩
   ·show a3u n st []
    unfold a3u;rw[if_neg λc=>z (by have:=g2.mp c;lia)]
   ·show a7t n ⟨st,.int ((fi+fa) % (2*(n:Int))),[],.int fi,nu,le,ms⟩
    unfold a7t;rw[if_neg nc];refine⟨_,_,rfl,rfl,?_,?_⟩
    ·dsimp only
     by_cases c:st∈a9i
     ·rw[if_pos c]
      have:=g3.mp c;rw[if_neg (by lia)] at hm
      exact List.length_eq_zero_iff.mp (by lia)
     ·rw[if_neg c]
      have:¬ 13<=at_.toNat:=λy=>c (g3.mpr y);rw[if_pos (by lia)] at hm
      rw[dist,hl,hm]
    ·rw[dist];exact b8
theorem c3i{H:Hp}{x y:Addr}{u v:HO}(e:H x=some u)(e':H y=some v)(n:u≠v):x≠y:=λz=>by
 rw[z,e'] at e;exact n (Option.some.inj e).symm
def RQ(H:Hp)(os:List (List Int))(D:Addr)(i:Nat)(acc:List V)(H':Hp):Prop:=H' D=some (.lst acc)/\Same H H'/\∃ps:List Addr,acc=ps.map V.ref/\ps.length=i/\∀(j:Nat)(p:Addr)(o:List Int),ps[j]?=some p->os[j]?=some o->p≠D/\H' p=some (.tup (o.map V.int))
theorem RQ.new{H:Hp}{os:List (List Int)}{D:Addr}(hD:H D=none):RQ H os D 0 [] (upd H D (.lst [])):=⟨d8,i3 hD,[],rfl,rfl,λj p o h=>by simp at h⟩
theorem RQ.push{H H':Hp}{os:List (List Int)}{o:List Int}{D p:Addr}{i:Nat}{acc:List V}(h:RQ H os D i acc H')(hD:H D=none)(ho:os[i]?=some o)(hp:H' p=none):
  (upd H' p (.tup (o.map V.int))) D=some (.lst acc)/\RQ H os D (i+1) (acc++[.ref p]) (upd (upd H' p (.tup (o.map V.int))) D (.lst (acc++[.ref p]))):=by
 obtain⟨e,s,ps,rfl,hl,r⟩:=h;have nD:D≠p:=λz=>by rw[<- z,e] at hp;cases hp
 have hp0:=m6 s hp;refine⟨by rw[f9 nD];exact e,d8,?_,ps++[p],by rw[List.map_append];rfl,by rw[List.length_append,hl];rfl,?_⟩
 ·intro b u eb
  rw[f9 (λz=>by rw[z,hD] at eb;cases eb),f9 (λz=>by rw[z,hp0] at eb;cases eb)]
  exact s _ _ eb
 ·intro j q u hj hu
  by_cases y:j<ps.length
  ·rw[List.getElem?_append_left y] at hj
   obtain⟨b,c⟩:=r j q u hj hu;refine⟨b,?_⟩;rw[f9 b,f9 (λz=>by rw[z,hp] at c;cases c)]
   exact c
  ·rw[List.getElem?_append_right (by lia)] at hj
   have:j=i:=by
    by_cases z:j-ps.length=0
    ·lia
    ·rw[List.getElem?_eq_none (by simp;lia)] at hj;cases hj
   subst this;rw[hl,Nat.sub_self] at hj;cases hj;rw[ho] at hu;cases hu;exact⟨Ne.symm nD,by rw[f9 (Ne.symm nD)];exact d8⟩
def GoodM(n:Nat)(os:List (List Int)):Prop:=∀o∈os,(1<=o.length/\o.length<=n)/\∀v∈o,c0p v
def RB(wl:Addr)(n:Nat)(H0:Hp)(D:Addr)(i:Nat)(acc:List V)(H':Hp):Prop:=∃(ps:List Addr)(os:List (List Int)),acc=ps.map V.ref/\ps.length=i/\os.length=i/\GoodM n os/\H' D=some (.lst acc)/\D≠wl/\Well H' wl/\But wl H0 H'/\∀(j:Nat)(p:Addr)(o:List Int),ps[j]?=some p->os[j]?=some o->p≠wl/\p≠D/\H' p=some (.lst (o.map V.int))
theorem b5k{H:Hp}{wl D:Addr}{o:HO}(h:Well H wl)(n:D≠wl):Well (upd H D o) wl:=by
 obtain⟨x1,x2,x3,ew,z⟩:=h;exact⟨x1,x2,x3,(f9 (Ne.symm n)).trans ew,z⟩
theorem c0e{α:Type}{xs:List α}{x y:α}{j i:Nat}(hl:xs.length=i)(h:¬ j<i)(e:(xs++[x])[j]?=some y):j=i/\y=x:=by
 rw[List.getElem?_append_right (by lia)] at e
 by_cases z:j-xs.length=0
 ·rw[z] at e
  cases e;exact⟨by lia,rfl⟩
 ·rw[List.getElem?_eq_none (by simp;lia)] at e;cases e
theorem RB.push{wl D p:Addr}{n i:Nat}{H0 H' H2:Hp}{acc:List V}{row:List Int}(h:RB wl n H0 D i acc H')(hD:H0 D=none)(hp:H' p=none)(e:H2 p=some (.lst (row.map V.int)))(l1:1<=row.length)(l2:row.length<=n)(sm:∀v∈row,c0p v)(w2:Well H2 wl)(b2:But wl H' H2):
  H2 D=some (.lst acc)/\RB wl n H0 D (i+1) (acc++[.ref p]) (upd H2 D (.lst (acc++[.ref p]))):=by
 obtain⟨ps,os,rfl,hl,hlo,g,eD,nD,w',b',r⟩:=h;have npw:p≠wl:=w'.ne hp;have npD:p≠D:=λz=>by rw[z,eD] at hp;cases hp
 refine⟨b2 _ _ eD nD,ps++[p],os++[row],by rw[List.map_append];rfl,by rw[List.length_append,hl];rfl,by rw[List.length_append,hlo];rfl,?_,d8,nD,b5k w2 nD,b4h (b'.trans b2) hD,?_⟩
 ·intro o ho
  rcases List.mem_append.mp ho with ho|ho
  ·exact g o ho
  ·rw[List.mem_singleton.mp ho];exact⟨⟨l1,l2⟩,sm⟩
 ·intro j q o hj ho
  by_cases y:j<i
  ·rw[List.getElem?_append_left (by lia)] at hj ho
   obtain⟨a,b,c⟩:=r j q o hj ho;exact⟨a,b,by rw[f9 b];exact b2 _ _ c a⟩
  ·obtain⟨_,rfl⟩:=c0e hl y hj
   obtain⟨_,rfl⟩:=c0e hlo y ho;exact⟨npw,npD,by rw[f9 npD];exact e⟩
theorem RB.rw{wl D:Addr}{n i:Nat}{H0 H':Hp}{acc:List V}(h:RB wl n H0 D i acc H'):∃os:List (List Int),RW H' wl D os/\GoodM n os/\os.length=i/\Well H' wl/\But wl H0 H':=by
 obtain⟨ps,os,rfl,hl,hlo,g,eD,nD,w',b',r⟩:=h;exact⟨os,⟨ps,eD,nD,by lia,λj p o hp ho=>⟨(r j p o hp ho).1,(r j p o hp ho).2.2⟩⟩,g,hlo,w',b'⟩
theorem c0t{H:Hp}{wl a:Addr}{xs:List V}(hw:Well H wl)(e:H a=some (.tup xs)):a≠wl:=by
 obtain⟨_,_,_,ew,_⟩:=hw;exact c3i e ew (λz=>(nomatch z))
theorem TTs.but{H H':Hp}{wl a:Addr}{os:List (List Int)}(h:TTs H a os)(hw:Well H wl)(b:But wl H H'):TTs H' a os:=by
 obtain⟨ps,e,l,r⟩:=h;exact⟨ps,b _ _ e (c0t hw e),l,λi p o hp ho=>b _ _ (r i p o hp ho) (c0t hw (r i p o hp ho))⟩
theorem GT.but{H H':Hp}{wl a:Addr}{g:GSd}(h:GT H a g)(hw:Well H wl)(b:But wl H H'):GT H' a g:=by
 obtain⟨m,e,e'⟩:=h;exact⟨m,b _ _ e (c0t hw e),b _ _ e' (c0t hw e')⟩
theorem TTs.upd{H:Hp}{D a:Addr}{xs ys:List V}{os:List (List Int)}(h:TTs H a os)(eD:H D=some (.lst xs)):TTs (upd H D (.lst ys)) a os:=by
 obtain⟨ps,e,l,r⟩:=h;have nx:∀{y:Addr}{zs:List V},H y=some (.tup zs)->y≠D:=λe=>c3i e eD (λz=>(nomatch z));exact⟨ps,by rw[f9 (nx e)];exact e,l,λi p o hp ho=>by rw[f9 (nx (r i p o hp ho))];exact r i p o hp ho⟩
def BB(H:Hp)(oss:List (List (List Int)))(D:Addr)(i:Nat)(acc:List V)(H':Hp):Prop:=H' D=some (.lst acc)/\Same H H'/\∃ps:List Addr,acc=ps.map V.ref/\ps.length=i/\∀(j:Nat)(p:Addr)(os:List (List Int)),ps[j]?=some p->oss[j]?=some os->TTs H' p os
theorem BB.push{H H' H2:Hp}{oss:List (List (List Int))}{os:List (List Int)}{D p:Addr}{i:Nat}{acc:List V}(h:BB H oss D i acc H')(hD:H D=none)(ho:oss[i]?=some os)(s:Same H' H2)(t:TTs H2 p os):
  H2 D=some (.lst acc)/\BB H oss D (i+1) (acc++[.ref p]) (L2.upd H2 D (.lst (acc++[.ref p]))):=by
 obtain⟨e,s',ps,rfl,hl,r⟩:=h;have e2:=s _ _ e;refine⟨e2,d8,?_,ps++[p],by rw[List.map_append];rfl,by rw[List.length_append,hl];rfl,?_⟩
 ·intro b u eb
  rw[f9 (λz=>by rw[z,hD] at eb;cases eb)]
  exact s _ _ (s' _ _ eb)
 ·intro j q u hj hu
  by_cases y:j<i
  ·rw[List.getElem?_append_left (by lia)] at hj
   exact TTs.upd ((r j q u hj hu).same s) e2
  ·obtain⟨rfl,rfl⟩:=c0e hl y hj
   rw[ho] at hu;cases hu;exact TTs.upd t e2
theorem c8g{xs ys:List Int}{k:Nat}(h:k<xs.length):(xs++ys).getD k 0=xs.getD k 0:=by
 rw[List.getD_eq_getElem?_getD,List.getD_eq_getElem?_getD,List.getElem?_append_left h]
theorem c5a{xs ys:List Int}{k l:Nat}(h:xs.length=l):(xs++ys).getD (l+k) 0=ys.getD k 0:=by
 rw[List.getD_eq_getElem?_getD,List.getD_eq_getElem?_getD,List.getElem?_append_right (by lia),show l+k-xs.length=k by lia]
theorem GoodM.good{n:Nat}{os:List (List Int)}(h:GoodM n os):b4w n os:=λo ho=>(h o ho).1
theorem c3j{v:Int}(h:c0p v):v.natAbs<10 ^ 59+1+0:=by
 obtain⟨a,b⟩:=h;lia
theorem GoodM.ten{n:Nat}{os:List (List Int)}(h:GoodM n os)(n8:n<=8)(l:os.length<=5):OrdB 0 os:=λo ho v hv=>c3j ((h o ho).2 v hv)
theorem b5m{n:Nat}{st:Str}{he:Hr}(n8:n<=8)(h:a3i n st he):HTenB 0 he:=by
 unfold a3i at h;split at h
 ·subst h;trivial
 ·obtain⟨i,rfl,h0,h1⟩:=h
  show i.natAbs<10 ^ 59+1+0;lia
theorem b0j{n:Nat}{st:Str}{mk:List Int}(n8:n<=8)(h:a3u n st mk):TenB 0 mk/\mk.length<=20+0:=by
 unfold a3u at h;split at h
 ·exact⟨λv hv=>(by have:=h.2 v hv;lia),by lia⟩
 ·subst h;exact⟨λ_ z=>(by cases z),Nat.zero_le _⟩
theorem c7u{st:Str}:(st∈gvU\/st∈tkU)->st.length<=10:=by
 have h1:∀x∈gvU,x.length<=10:=by decide
 have h2:∀x∈tkU,x.length<=10:=by decide
 exact λh=>h.elim (h1 _) (h2 _)
theorem c1c{n:Nat}{st:Str}{od pt:Int}{os:List (List Int)}(n8:n<=8)(l:os.length<=5)(g:b4w n os)(h:b0c st od pt os):od.natAbs<10 ^ 59+1+0/\pt.natAbs<10 ^ 59+1+0:=by
 unfold b0c at h;split at h
 ·lia
 split at h
 ·lia
 split at h
 ·lia
 ·obtain⟨⟨a,b⟩,c,d⟩:=h
  have hj:od.toNat<os.length:=by lia
  rw[List.getD_eq_getElem?_getD,List.getElem?_eq_getElem hj] at d;have:=(g _ (List.getElem_mem hj)).2;have d:pt<(os[od.toNat]).length:=d;lia
theorem d1l{x:Sd}(g:a5g x)(n8:x.n<=8)(tc:TenB 0 x.c)(tt:d6o x.t)(lo:x.os.length<=5)(lb:x.bk.length<=5)(to:OrdB 0 x.os)(tb:OrdB 0 x.bk):TenA 0 x where
 c:=tc
 lc:=by have:=g.c.len;lia
 gs:=c7u (.inl g.g.st)
 gh:=b5m n8 g.g.tf
 gm:=(b0j n8 g.g.mf).1
 gl:=(b0j n8 g.g.mf).2
 go:=(c1c n8 lo g.os g.g.pf).1
 gp:=(c1c n8 lo g.os g.g.pf).2
 ts:=c7u (.inr g.t.st)
 th:=b5m n8 g.t.tf
 tm:=(b0j n8 g.t.mf).1
 tl:=(b0j n8 g.t.mf).2
 tf:=b5m n8 g.t.nf
 tn:=tt.1
 te:=tt.2.1
 tp:=tt.2.2.1
 tq:=Nat.le_trans tt.2.2.2 (by decide)
 os:=to
 ol:=by lia
 bk:=tb
 bl:=by lia
def a6c(cl:Cl):Sp:=λvs H Q _=>∃wl:Addr,vs=[.ref wl]/\Well H wl/\∀p x H',H p=none->Well H' wl->But wl H H'->ST H' p x->a5g x->TenA 0 x->x.os.length<=5->x.bk.length<=5->Q (.ref p) H'
abbrev a3q:Stmt:=top 150
theorem r0:i8 ["well","size","orders","book","cells","place","both"] ["well"] (g6 a3q):=↑1
theorem b2e(D:DefT K mg "_law_any_stand" a3q ["well"])(T:Txt K mg cl)(G_law_take:FnT P w K mg base "_law_take" 1 ["well","many"] a0e)(G_law_far:FnT P w K mg base "_law_far" 2 ["well"] a8n)(G_law_order:FnT P w K mg base "_law_order" 2 ["well","size"] b1n)(G_law_giver:FnT P w K mg base "_law_giver" 2 ["well","size","orders"] (b1o cl))(G_law_taker:FnT P w K mg base "_law_taker" 3 ["well","size"] (b1m cl)):FnT P w K mg base "_law_any_stand" 4 ["well"] (a6c cl):=by
 refine D.fn r0 (λvs H Q E h=>?_) ↑4
 ·obtain⟨wl,rfl,_⟩:=h
  rfl
 ·obtain⟨wl,rfl,hw,k⟩:=h
  refine⟨_,(d7 (j7 (i:=1) r0.nd rfl (by first|exact Or.inl rfl|exact Or.inr rfl) (j3 a0k d9 ↑2))
   (d7 (a8a (ix:=2) (N:=["k","well","size"]) (nt:=1) (fr:=[0,1]) rfl (c1w (i:=0) (j:=1) rfl rfl (by decide +kernel) (by decide +kernel) rfl rfl rfl rfl rfl rfl rfl rfl rfl rfl rfl rfl) (a1e rfl T.z_range (d5 ↑2 d6)) (z9 (by decide)) (λ_ _ _ _ _=>i4 (i:=0) (show(["k","well","size"]:List Str).Nodup by decide +kernel) rfl (Or.inl rfl) (Or.inr rfl)) (λ_ _ _ _ _=>(l8 G_law_order hr (by decide) rfl b4o (d5 (pv 1) (d5 (pv 2) d6)))) r0.nd rfl rfl)
   (d7 (a8a (ix:=3) (N:=["k","well","size"]) (nt:=1) (fr:=[0,1]) rfl (c1w (i:=0) (j:=1) rfl rfl (by decide +kernel) (by decide +kernel) rfl rfl rfl rfl rfl rfl rfl rfl rfl rfl rfl rfl) (a1e rfl T.z_range (d5 ↑2 d6)) (z9 (by decide)) (λ_ _ _ _ _=>i4 (i:=0) (show(["k","well","size"]:List Str).Nodup by decide +kernel) rfl (Or.inl rfl) (Or.inr rfl)) (λ_ _ _ _ _=>(l8 G_law_order hr (by decide) rfl b4o (d5 (pv 1) (d5 (pv 2) d6)))) r0.nd rfl rfl)
   (d7 (j7 (i:=4) r0.nd rfl (by first|exact Or.inl rfl|exact Or.inr rfl) (l7 d6))
   (d7 (b3h a5w rfl (a1e rfl T.z_range (d5 (pv 1) d6)) (i4 (i:=5) r0.nd rfl (by first|exact Or.inl rfl|exact Or.inr rfl))
     (
     d7 (j7 (i:=4) r0.nd rfl (by first|exact Or.inl rfl|exact Or.inr rfl) (j3 a4f (pv 4) (l7 (d5 ↑2 (d5 (j3 a0y ↑2 d9) (d5 ↑2 d6))))))
     (g0 (z8 (a8c (K:=K) (pv 4) (d5 (j3 a0y (l8 G_law_far hr (by decide) rfl j8 (d5 (pv 0) d6)) (l8 G_law_far hr (by decide) rfl j8 (d5 (pv 0) d6))) d6))))))
   (d7 (j7 (i:=4) r0.nd rfl (by first|exact Or.inl rfl|exact Or.inr rfl) (j3 a4f (pv 4) (l7 (d5 (j3 a0y (l8 G_law_take hr (by decide) rfl j8 (d5 (pv 0) (d5 (j3 a0k (j3 y0 d9 (pv 1)) d9) d6))) d9) (d5 (j3 a0y (l8 G_law_take hr (by decide) rfl j8 (d5 (pv 0) (d5 (j3 a0k (j3 y0 d9 (pv 1)) d9) d6))) d9) d6)))))
   (d7 (j7 (i:=4) r0.nd rfl (by first|exact Or.inl rfl|exact Or.inr rfl) (l0 (a0r (K:=K)) (by rfl) T.z_tuple PyProof.Rows.boot_tuple (d5 (j3 a4f (pv 4) (l7 (d5 ↑2 (d5 ↑2 d6)))) d6)))
   (d7 (a8a (ix:=6) (N:=["some"]) (nt:=1) (fr:=[]) rfl (a0w rfl rfl (by decide +kernel) (by decide +kernel) rfl rfl) (a5t (K:=K) (l7 (d5 (pv 2) (d5 (pv 3) d6)))) (z9 (by decide)) (λ_ _ _ _ _=>i4 (i:=0) (show(["some"]:List Str).Nodup by decide +kernel) rfl (Or.inl rfl) (Or.inr rfl)) (λ_ _ _ _ _=>(l0 (a0r (K:=K)) (by rfl) T.z_tuple PyProof.Rows.boot_tuple (d5 (a1k (N:=["order"]) (nt:=1) (fr:=[]) rfl (a0w rfl rfl (by decide +kernel) (by decide +kernel) rfl rfl) (a5t (K:=K) (pv 0)) (z9 (by decide)) (λ_ _ _ _ _=>i4 (i:=0) (show(["order"]:List Str).Nodup by decide +kernel) rfl (Or.inl rfl) (Or.inr rfl)) (λ_ _ _ _ _=>(l0 (a0r (K:=K)) (by rfl) T.z_tuple PyProof.Rows.boot_tuple (d5 (pv 0) d6)))) d6))) r0.nd rfl rfl)
   (g0 (j4 (t7 (d5 (pv 4) (d5 (l8 G_law_giver hr (by decide) rfl j8 (d5 (pv 0) (d5 (pv 1) (d5 (pv 2) d6)))) (d5 (l8 G_law_taker hr (by decide) rfl j8 (d5 (pv 0) (d5 (pv 1) d6))) (d5 (x9 (m3 (K:=K)) (pv 6) d9 (λ_ _=>rfl)) (d5 (x9 (m3 (K:=K)) (pv 6) d9 (λ_ _=>rfl)) d6)))))))))))))))),?_⟩
  have h60:6000<=sizeLine:=by decide
  fail "";refine⟨wl,7,rfl,hw,by decide,by decide,λr1 H1 a1 b1 w1 c1=>?_⟩
  obtain⟨n,en⟩:∃n:Nat,(2+r1:Int)=n:=⟨(2+r1).toNat,by lia⟩
  have n2:2<=n:=by lia
  have n8:n<=8:=by lia
  fail "";rw[en];fail "";refine⟨wl,6,rfl,w1,by decide,by decide,λr2 H2 a2 b2 w2 c2=>?_⟩
  have B2:=c1.trans c2;clear c1 c2 w1;fail "";have drawn:∀{Hq:Hp}{D:Addr},Well Hq wl->Hq D=none->RB wl n Hq D 0 [] (upd Hq D (.lst [])):=λhw hD=>⟨[],[],rfl,rfl,rfl,λ_ z=>(by cases z),d8,hw.ne hD,b5k hw (hw.ne hD),But.of (i3 hD),λj p o z=>(by simp at z)⟩
  refine a2l (n:=r2.toNat) (by lia) (RB wl n H2) (λD hD=>drawn w2 hD) ?_ ?_ ?_
  ·rintro D i acc H' ⟨ps,os,rfl,hl,_,_,e,_⟩
   exact⟨e,by rw[List.length_map];exact hl⟩
  ·intro D i acc H' hD hi hp
   have w':Well H' wl:=(by obtain⟨_,_,_,_,_,_,_,_,w',_⟩:=hp;exact w')
   fail "";refine⟨wl,n,rfl,w',by lia,by lia,λp H3 row hpn e3 l1 l2 sm w3 b3=>?_⟩
   exact hp.push hD hpn e3 l1 (by lia) sm w3 b3
  intro oa acc H3 hoa h3;obtain⟨os,rw3,gos,los,w3,b3⟩:=h3.rw;have B3:=B2.trans b3;clear h3 hoa b3 B2 w2;fail "";refine⟨wl,5,rfl,w3,by decide,by decide,λr4 H4 a4 b4 w4 c4=>?_⟩
  have B4:=B3.trans c4;have rw4:=rw3.but c4;clear B3 c4 rw3 w3;fail "";refine a2l (n:=r4.toNat) (by lia) (RB wl n H4) (λD hD=>drawn w4 hD) ?_ ?_ ?_
  ·rintro D i acc H' ⟨ps,os,rfl,hl,_,_,e,_⟩
   exact⟨e,by rw[List.length_map];exact hl⟩
  ·intro D i acc H' hD hi hp
   have w':Well H' wl:=(by obtain⟨_,_,_,_,_,_,_,_,w',_⟩:=hp;exact w')
   fail "";refine⟨wl,n,rfl,w',by lia,by lia,λp H3 row hpn e3 l1 l2 sm w3 b3=>?_⟩
   exact hp.push hD hpn e3 l1 (by lia) sm w3 b3
  intro ba acc H5 hba h5;obtain⟨bk,bw5,gbk,lbk,w5,b5⟩:=h5.rw;have B5:=B4.trans b5;have rw5:=rw4.but b5;clear h5 hba b5 B4 rw4 w4;fail "";refine⟨Nat.zero_le _,λca hca=>?_⟩;fail "";refine c2t (n:=n) (λi σ H'=>∃ca x5 row,σ=[some (.ref wl),some (.int n),some (.ref oa),some (.ref ba),some (.ref ca),x5,none]/\H5 ca=none/\H' ca=some (.lst ((row:List Int).map V.int))/\ca≠wl/\row.length=4*i/\(∀q,q<i->0<=row.getD (4*q) 0/\row.getD (4*q) 0<=3)/\TenB 0 row/\Well H' wl/\But wl H5 H') ⟨ca,_,[],rfl,hca,d8,w5.ne hca,rfl,λq hq=>absurd hq (by lia),(λ_ z=>(by cases z)),w5.same (i3 hca),But.of (i3 hca)⟩ ?_ ?_
  ·rintro i σ H6 hi ⟨ca,x5,row,rfl,hca,e6,nca,hl,hm,tr,w6,B6⟩
   fail "";refine⟨wl,4,rfl,w6,by decide,by decide,λr7 H7 a7 b7 w7 c7=>?_⟩
   fail "";refine⟨wl,6,rfl,w7,by decide,by decide,λr8 H8 a8 b8 w8 c8=>?_⟩
   fail "";refine⟨wl,9,rfl,w8,by decide,by decide,λr9 H9 a9 b9 w9 c9=>?_⟩
   have c69:=(c7.trans c8).trans c9;fail "";refine⟨by show 3<=sizeLine;decide,λl hlN=>?_⟩
   have sl:=i3 (o:=.lst [.int r7,.int (r8-1),.int r9]) hlN;refine b4d (sl _ _ (c69 _ _ e6 nca)) d8 (by rw[List.length_map];show row.length+3<=sizeLine;lia) λz hz=>?_
   have sz:=i3 (o:=.lst (row.map V.int++[.int r7,.int (r8-1),.int r9])) hz;have wz:=(w9.same sl).same sz;have Bz:=((B6.trans c69).trans (But.of sl)).trans (But.of sz);have hz5:H5 z=none:=b2k (((B6.trans c69).trans (But.of sl))) (w9.same sl) hz;have nz:z≠wl:=(w9.same sl).ne hz;have ez:upd (upd H9 l (.lst [.int r7,.int (r8-1),.int r9])) z (.lst (row.map V.int++[.int r7,.int (r8-1),.int r9])) z=some (.lst (row.map V.int++[.int r7,.int (r8-1),.int r9])):=d8;generalize upd (upd H9 l (.lst [.int r7,.int (r8-1),.int r9])) z (.lst (row.map V.int++[.int r7,.int (r8-1),.int r9]))=Hz at *;fail "";refine⟨wl,rfl,wz,λv H10 a10 b10 w10 c10=>?_⟩;fail "";refine⟨wl,rfl,w10,λu H11 a11 b11 w11 c11=>?_⟩;have c:=c10.trans c11;have e11:=c _ _ ez nz;fail "";refine c7k e11 (by rw[List.length_append,List.length_map];show row.length+3<sizeLine;lia) ?_
   fail "";refine⟨z,_,row++[r7,r8-1,r9,v-u],rfl,hz5,?_,nz,by rw[List.length_append];show row.length+4=_;lia,λq hq=>?_,?_,b5k w11 nz,b4h (Bz.trans c) hz5⟩
   ·rw[d8,List.map_append,List.append_assoc];rfl
   ·by_cases y:q<i
    ·rw[c8g (by lia)];exact hm q y
    ·rw[show q=i by lia,show 4*i=4*i+0 from rfl,c5a hl]
     show 0<=r7/\r7<=3;lia
   ·intro y hy
    rcases List.mem_append.mp hy with hy|hy
    ·exact tr y hy
    ·have ft:=c5j a10 b10 a11 b11
     clear a10 b10 a11 b11;simp only[List.mem_cons,List.not_mem_nil,or_false] at hy;rcases hy with rfl|rfl|rfl|rfl
     ·lia
     ·lia
     ·lia
     ·exact ft
  rintro σ H6 ⟨ca,x5,row,rfl,hca,e6,nca,hl,hm,tr,w6,B6⟩;have rw6:=rw5.but B6;have bw6:=bw5.but B6;have B60:=B5.trans B6;clear rw5 bw5 B6 B5 hca w5;fail "";refine⟨wl,2*(n:Int)+1,rfl,w6,by lia,by lia,λr7 H7 a7 b7 w7 c7=>?_⟩
  fail "";refine⟨wl,2*(n:Int)+1,rfl,w7,by lia,by lia,λr8 H8 a8 b8 w8 c8=>?_⟩
  have c68:=c7.trans c8;fail "";refine⟨by show 2<=sizeLine;decide,λl hlN=>?_⟩
  have sl:=i3 (o:=.lst [.int (r7-1),.int (r8-1)]) hlN;refine b4d (sl _ _ (c68 _ _ e6 nca)) d8 (by rw[List.length_map];show row.length+2<=sizeLine;lia) λz hz=>?_
  have sz:=i3 (o:=.lst (row.map V.int++[.int (r7-1),.int (r8-1)])) hz;have wz:=(w8.same sl).same sz;have c6z:=(c68.trans (But.of sl)).trans (But.of sz);have nz:z≠wl:=(w8.same sl).ne hz;have ez:upd (upd H8 l (.lst [.int (r7-1),.int (r8-1)])) z (.lst (row.map V.int++[.int (r7-1),.int (r8-1)])) z=some (.lst (row.map V.int++[.int (r7-1),.int (r8-1)])):=d8;generalize upd (upd H8 l (.lst [.int (r7-1),.int (r8-1)])) z (.lst (row.map V.int++[.int (r7-1),.int (r8-1)]))=Hz at *;clear sl sz hlN hz c68 c7 c8;fail "";refine⟨wl,2,rfl,wz,by decide,by decide,λr9 H9 a9 b9 w9 c9=>?_⟩
  fail "";refine⟨wl,2,rfl,w9,by decide,by decide,λr10 H10 a10 b10 w10 c10=>?_⟩
  have c90:=c9.trans c10;fail "";refine⟨by show 2<=sizeLine;decide,λl hlN=>?_⟩
  have sl:=i3 (o:=.lst [.int r9,.int r10]) hlN;refine b4d (sl _ _ (c90 _ _ ez nz)) d8 (by rw[List.length_append,List.length_map];show row.length+2+2<=sizeLine;lia) λy hy=>?_
  have sy:=i3 (o:=.lst (row.map V.int++[.int (r7-1),.int (r8-1)]++[.int r9,.int r10])) hy;have wy:=(w10.same sl).same sy;have c6y:=((c6z.trans c90).trans (But.of sl)).trans (But.of sy);have ey:upd (upd H10 l (.lst [.int r9,.int r10])) y (.lst (row.map V.int++[.int (r7-1),.int (r8-1)]++[.int r9,.int r10])) y=some (.lst (row.map V.int++[.int (r7-1),.int (r8-1)]++[.int r9,.int r10])):=d8;generalize upd (upd H10 l (.lst [.int r9,.int r10])) y (.lst (row.map V.int++[.int (r7-1),.int (r8-1)]++[.int r9,.int r10]))=Hy at *;clear sl sy hlN hy c90 c9 c10 c6z ez nz;fail "";intro cp hcp;rw[show row.map V.int++[.int (r7-1),.int (r8-1)]++[.int r9,.int r10]=(row++[r7-1,r8-1,r9,r10]).map V.int by rw[List.map_append,List.append_assoc];rfl]
  have gr:GoodRow n (row++[r7-1,r8-1,r9,r10]):=by
   refine⟨n2,n8,by rw[List.length_append,hl];rfl,λq hq=>?_,λq hq=>?_,λq hq=>?_⟩
   ·rw[c8g (by lia)];exact hm q hq
   ·rw[c5a hl]
    have:q=0\/q=1:=by lia
    rcases this with rfl|rfl
    ·show -1<=r7-1/\r7-1<_;lia
    ·show -1<=r8-1/\r8-1<_;lia
   ·rw[Nat.add_assoc,c5a hl]
    have:q=0\/q=1:=by lia
    rcases this with rfl|rfl
    ·show r9=0\/r9=1;lia
    ·show r10=0\/r10=1;lia
  have tc:TenB 0 (row++[r7-1,r8-1,r9,r10]):=by
   intro y hy;rcases List.mem_append.mp hy with hy|hy
   ·exact tr y hy
   ·simp only[List.mem_cons,List.not_mem_nil,or_false] at hy
    rcases hy with rfl|rfl|rfl|rfl <;> lia
  clear tr;generalize u11:upd Hy cp _=H11;obtain⟨s11,e11⟩:=nwS u11 hcp;generalize row++[r7-1,r8-1,r9,r10]=row' at *;have w11:=wy.same s11;have ncp:=wy.ne hcp;have B11:=(B60.trans c6y).trans (But.of s11);have rw11:=rw6.but (c6y.trans (But.of s11));have bw11:=bw6.but (c6y.trans (But.of s11));clear rw6 bw6 c6y B60 u11 hcp s11 ey wy e6 nca hm hl;fail "";refine⟨by show 2<=sizeLine;decide,λl hlN=>?_⟩
  generalize u12:upd H11 l _=H12;obtain⟨s12,e12⟩:=nwS u12 hlN;fail "";have rws:∀(i:Nat)(x:V)(os':List (List Int)),([.ref oa,.ref ba]:List V)[i]?=some x->([os,bk]:List (List (List Int)))[i]?=some os'->∃a,x=.ref a/\Rws H12 a os'/\os'.length<=1000:=by
   intro i x os' h1 h2
   match i,h1,h2 with
   | 0,h1,h2=>cases h1;cases h2;exact⟨_,rfl,(rw11.but (But.of s12)).rws,by lia⟩
   | 1,h1,h2=>cases h1;cases h2;exact⟨_,rfl,(bw11.but (But.of s12)).rws,by lia⟩
   | i+2,h1,_=>cases h1
  refine a2m (xs:=[.ref oa,.ref ba]) (by show 2<sizeLine;lia) (BB H12 [os,bk]) (λD hD=>⟨d8,i3 hD,[],rfl,rfl,λj p o h=>by simp at h⟩) ?_ ?_ ?_
  ·rintro D i acc H' ⟨e,s,qs,rfl,hq,_⟩
   exact⟨e,by rw[List.length_map];exact hq,SqL.of (s _ _ e12)⟩
  ·intro D i x acc H' hD hx hp
   have hi:i<2:=(List.getElem?_eq_some_iff.mp hx).1;have ho:([os,bk]:List (List (List Int)))[i]?=some (([os,bk]:List (List (List Int)))[i]'hi):=List.getElem?_eq_getElem hi;generalize ([os,bk]:List (List (List Int)))[i]'hi=os' at *;obtain⟨a,rfl,rr,hz⟩:=rws i x _ hx ho;obtain⟨ps,ea,hl,hr'⟩:=rr.same hp.2.1;fail "";refine a2m (xs:=ps.map V.ref) (by rw[List.length_map];lia) (RQ H' os') (λD hD=>RQ.new hD) ?_ ?_ ?_
   ·rintro D i acc H' ⟨e,s,qs,rfl,hq,_⟩
    exact⟨e,by rw[List.length_map];exact hq,SqL.of (s _ _ ea)⟩
   ·intro D i x acc H' hD hx hp
    rw[List.getElem?_map] at hx;cases hpi:ps[i]? with
    | none=>rw[hpi] at hx;cases hx
    | some q=>
     rw[hpi] at hx;cases hx;have hi:i<os'.length:=by rw[<- hl];exact(List.getElem?_eq_some_iff.mp hpi).1
     have hoi:=List.getElem?_eq_getElem hi;have eq:=hp.2.1 _ _ (hr' i q _ hpi hoi);fail "";exact λp hpn=>hp.push hD hoi hpn
   ·intro D' acc' H'' hD' hp'
    rw[List.length_map,hl] at hp';obtain⟨e,s,qs,rfl,hq,r⟩:=hp';fail "";intro p hpn;exact hp.push hD ho (s.trans (i3 hpn)) ⟨qs,d8,hq,λj q o h1 h2=>i3 hpn _ _ (r j q o h1 h2).2⟩
  intro both acc H13 hbo hp;obtain⟨e13,s13,ps,rfl,hq,r⟩:=hp;obtain⟨p0,p1,rfl⟩:∃p0 p1,ps=[p0,p1]:=by
   match ps,hq with
   | [a,b],_=>exact⟨a,b,rfl⟩
  have t0:=r 0 p0 os rfl rfl;have t1:=r 1 p1 bk rfl rfl;have s12':=s12.trans s13;have w13:=w11.same s12';have nbo:both≠wl:=(w11.same s12).ne hbo;have B13:=B11.trans (But.of s12');have c13:=s12' _ _ e11;have rw13:=rw11.but (But.of s12');clear r hq rws bw11 rw11 B11 w11 e11 s12 e12 u12 hlN hbo s13 s12';fail "";refine⟨wl,oa,n,os,rfl,w13,n2,n8,rw13,gos.good,by lia,λg yg H14 hg w14 b14 tg gg=>?_⟩
  fail "";refine⟨wl,n,rfl,w14,n2,n8,λt yt H15 ht w15 b15 tt gt tt2=>?_⟩;have b35:=b14.trans b15;have e15:=b35 _ _ e13 nbo;fail "";refine⟨by show 5<=sizeLine;decide,λp hp=>?_⟩
  have sp:=i3 (o:=.tup [.ref cp,.ref g,.ref t,.ref p0,.ref p1]) hp;have B15:=B13.trans b35;refine k p ⟨n,row',yg,yt,os,bk⟩ _ (b2k B15 w15 hp) (w15.same sp) (B15.trans (But.of sp)) ⟨cp,g,t,p0,p1,d8,sp _ _ (b35 _ _ c13 ncp),(tg.but w14 b15).same sp,tt.same sp,(t0.but w13 b35).same sp,(t1.but w13 b35).same sp⟩ ⟨gr,gg,gt,gos.good,gbk.good⟩ (d1l ⟨gr,gg,gt,gos.good,gbk.good⟩ n8 tc tt2 (by show os.length<=5;lia) (by show bk.length<=5;lia) (gos.ten n8 (by lia)) (gbk.ten n8 (by lia))) (by show os.length<=5;lia) (by show bk.length<=5;lia)
end
end
section
variable{P:Program}{w:World}{K:Frag}{mg:Str->Option Value}{base:Heap}{cl:Cl}
def a4i:Sp:=λvs H Q _=>∃(n:Nat)(st:Str)(he:Hr),vs=[.int n,he.v,.str st]/\n<=8/\Tells (a3i n st he) H Q
abbrev a5q:Stmt:=top 151
theorem b4l:i8 ["size","turn","stage"] ["size","turn","stage"] (g6 a5q):=↑1
theorem b4t(D:DefT K mg "_law_is_turn" a5q ["size","turn","stage"])(T:Txt K mg cl):FnT P w K mg base "_law_is_turn" 1 ["size","turn","stage"] a4i:=by
 refine D.fn b4l (λvs H Q E h=>?_) ↑4
 ·obtain⟨n,st,he,rfl,_⟩:=h
  rfl
 ·obtain⟨n,st,he,rfl,n8,k⟩:=h
  refine⟨_,(d7 (v9 (i6 (a4d (K:=K)) (pv 2) (l7 (d5 i9 (d5 i9 (d5 i9 (d5 i9 d6))))) (by with_unfolding_all rfl))
     (g0 (j4 (m5 c1e (pv 1) a2z (i7 _))))
     k7)
   (g0 (j4 (a1p (m5 b9w (pv 1) a2z (i7 _)) (a1b (b6g c4e a1w d9 (pv 1) (j3 y0 d9 (pv 0)))))))),?_⟩
  unfold a3i at k;have lm:=a3a;fail "";refine⟨by show 4<=sizeLine;lia,λl hl=>?_⟩
  generalize u1:upd H l _=H1;obtain⟨s1,e1⟩:=nwS u1 hl;replace k:=k.on s1;refine b9b (xs:=b0o) (SqL.of e1) ?_;by_cases hc:st∈b0o
  ·rw[if_pos hc] at k
   rw[decide_eq_true hc];fail "";refine⟨rfl,k.d ?_⟩;cases he with
   | non=>exact⟨λ_=>rfl,λ_=>rfl⟩
   | int i=>exact⟨λz=>(by cases z),λz=>(by cases z)⟩
  ·rw[if_neg hc] at k
   rw[decide_eq_false hc];fail "";cases he with
   | non=>
    refine⟨rfl,false,rfl,?_⟩;fail "";exact k.f (by rintro⟨i,z,_⟩;cases z)
   | int i=>
    refine⟨rfl,true,rfl,?_⟩;fail "";refine c1q ?_;fail "";refine x8 (λz=>?_) (λz=>?_)
    ·fail ""
     refine k.d ⟨λy=>⟨i,rfl,z,y⟩,?_⟩;rintro⟨j,q,_,q2⟩;cases q;exact q2
    ·exact k.f (by rintro⟨j,q,q1,_⟩;cases q;exact z q1)
theorem b4f{H:Hp}{p q:Addr}{xs:List V}(ne:p≠q)(hp:H p=some (.lst xs))(hq:H q=some (.lst [])):EqD K H 1 (.ref p) (.ref q) xs.isEmpty:=by
 cases xs with
 | nil=>exact EqD.lst (K:=K) (e:=λ_=>true) ne (SqL.of hp) (SqL.of hq) rfl (λj x y hx=>by cases hx)
 | cons x r=>exact EqD.lstN ne (SqL.of hp) (SqL.of hq) (by simp)
theorem b7a{n:Nat}{H:Hp}{p q:Addr}{xs:List V}(ne:p≠q)(hp:H p=some (.tup xs))(hq:H q=some (.tup [])):EqD K H (n+1) (.ref p) (.ref q) xs.isEmpty:=by
 have:=EqD.tup (n:=n) (K:=K) (e:=λ_=>true) ne (SqT.of hp) (SqT.of hq) (λj x y _ hy=>by cases hy)
 cases xs with
 | nil=>exact this
 | cons x r=>exact this
def iP(p:Int->Bool):V->Bool
 | .int i=>p i
 | _=>false
theorem b0k(p:Int->Bool):∀ns:List Int,((ns.map V.int).filter (iP p)).isEmpty=true ↔ ∀m∈ns,p m=false
 | []=>⟨λ_ _ z=>(by cases z),λ_=>rfl⟩
 | n::ns=>by
  rw[List.map_cons,List.filter_cons];show((if p n=true then _ else _:List V).isEmpty=true) ↔ _;cases e:p n with
  | true=>exact⟨λz=>(by cases z),λz=>(by have:=z n List.mem_cons_self;rw[e] at this;cases this)⟩
  | false=>
   refine (b0k p ns).trans ⟨λz m hm=>?_,λz m hm=>z m (List.mem_cons_of_mem _ hm)⟩;cases hm with
   | head=>exact e
   | tail _ hm=>exact z m hm
def a3j:Sp:=λvs H Q _=>∃(n:Nat)(st:Str)(a:Addr)(mk:List Int),vs=[.int n,.ref a,.str st]/\1<=n/\n<=8/\H a=some (.tup (mk.map V.int))/\mk.length<=100000/\Tells (a3u n st mk) H Q
abbrev a4p:Stmt:=top 152
theorem a6x:i8 ["size","seen","stage","good"] ["size","seen","stage"] (g6 a4p):=↑1
theorem b3q(D:DefT K mg "_law_are_seen" a4p ["size","seen","stage"])(T:Txt K mg cl):FnT P w K mg base "_law_are_seen" 1 ["size","seen","stage"] a3j:=by
 refine D.fn a6x (λvs H Q E h=>?_) ↑4
 ·obtain⟨n,st,a,mk,rfl,_⟩:=h
  rfl
 ·obtain⟨n,st,a,mk,rfl,n1,n8,ea,lz,k⟩:=h
  refine⟨_,(d7 (j7 (i:=3) a6x.nd rfl (by first|exact Or.inl rfl|exact Or.inr rfl) (a1p (m5 a1w (j6 (j5 (K:=K)) (by rfl) T.z_len PySem.boot_len (d5 (pv 1) d6)) (pv 0) (i7 _)) (a1b (m5 (b3k (K:=K) (n:=0) (huN hr 1)) (a7s (N:=["mark"]) (nt:=1) (fr:=[]) rfl (a0w rfl rfl (by decide +kernel) (by decide +kernel) rfl rfl) (a2j (K:=K) (pv 1)) (z9 (by decide)) (λ_ _ _ _ _=>i4 (i:=0) (show(["mark"]:List Str).Nodup by decide +kernel) rfl (Or.inl rfl) (Or.inr rfl)) (λ_ _ _ _ _=>(PW.pt (a4t (i6 a1w (pv 0) d9 (i7 _)) (a1u (i6 b3j (pv 0) d9 (i7 _)))))) (λ_ _ _ _ _=>(pv 0))) (l7 d6) (i7 _)))))
   (g0 (j4 (a1p (pv 3) (a1b (c3x (m5 a0q (pv 2) i9 (i7 _)) (a1b (m5 (b3k (K:=K) (n:=1) (huN hr 2)) (pv 1) (t7 d6) (i7 _))))))))),?_⟩
  have lm:=a3a;fail "";rw[List.length_map];refine x8 (λz=>?_) (λz=>?_)
  ·fail ""
   refine a5e (SqT.of ea) ?_;refine a2u (xs:=mk.map V.int) (p:=iP λi=>decide (i<0\/3<i)) ea (by rw[List.length_map];lia) ?_ ?_
   ·intro i x H' k1 k2 hx s' y1 y2
    obtain⟨y,hy,rfl⟩:=b1c hx;fail "";refine x8 (λz=>?_) (λz=>?_)
    ·fail ""
     exact y1 (decide_eq_true (.inl z)) _ (Same.refl _)
    ·fail ""
     refine x8 (λx=>?_) (λx=>?_)
     ·fail ""
      exact y1 (decide_eq_true (.inr x)) _ (Same.refl _)
     ·exact y2 (decide_eq_false (by lia)) _ (Same.refl _)
   intro D H1 hD s1 e1;fail "";refine⟨Nat.zero_le _,λq hq=>?_⟩;generalize u2:upd H1 q _=H2;obtain⟨s2,e2⟩:=nwS u2 hq;refine c0i (b4f (g9 e1 hq) (s2 _ _ e1) e2) ?_;have ie:=b0k (λi=>decide (i<0\/3<i)) mk;have ea:=s2 _ _ (s1 _ _ ea);replace k:=k.on (s1.trans s2);generalize ((mk.map V.int).filter (iP λi=>decide (i<0\/3<i))).isEmpty=b at ie ⊢;clear e1 e2 u2 hq hD s1 s2;unfold a3u at k;cases b with
   | false=>
    fail "";refine k.f λq=>?_;have:false=true:=ie.mpr λm hm=>?_
    ·cases this
    split at q
    ·have:=q.2 m hm
     exact decide_eq_false (by lia)
    ·subst q;cases hm
   | true=>
    have ie:=ie.mp rfl;fail "";rw[a2c];by_cases c:st="marks"
    ·rw[if_pos c] at k
     rw[decide_eq_true c];fail "";refine k.t ⟨by lia,λm hm=>?_⟩
     have:=of_decide_eq_false (ie m hm);lia
    ·rw[if_neg c] at k
     rw[decide_eq_false c];fail "";refine⟨Nat.zero_le _,λq hq=>?_⟩;generalize u2:upd H2 q _=H3;obtain⟨s2,e2⟩:=nwS u2 hq;refine c0i (b7a (g9 ea hq) (s2 _ _ ea) e2) ?_;refine k _ _ ?_ s2;rw[List.isEmpty_map,List.isEmpty_iff]
  ·fail ""
   refine k.f (λq=>z ?_);unfold a3u at q;split at q
   ·lia
   ·subst q;show(0:Int)<_;lia
theorem c8n{n:Nat}{H:Hp}{p q:Addr}{a b c d:Int}(ne:p≠q)(hp:H p=some (.tup [.int a,.int b]))(hq:H q=some (.tup [.int c,.int d])):EqD K H (n+1) (.ref p) (.ref q) (decide (a=c/\b=d)):=by
 have:=EqD.tup (n:=n) (K:=K) (e:=λj=>if j=0 then a == c else b == d) ne (SqT.of hp) (SqT.of hq) (λj x y hx hy=>by
  match j,hx,hy with
  | 0,hx,hy=>cases hx;cases hy;exact EqD.flat rfl rfl
  | 1,hx,hy=>cases hx;cases hy;exact EqD.flat rfl rfl
  | j+2,hx,_=>cases hx)
 have e:((List.range (min [V.int a,V.int b].length [V.int c,V.int d].length)).all (λj=>if j=0 then a == c else b == d) && ([V.int a,V.int b].length == [V.int c,V.int d].length))=decide (a=c/\b=d):=by
  show(((if (0:Nat)=0 then a == c else b == d) && ((if (1:Nat)=0 then a == c else b == d) && true)) && true)=_;rw[if_pos rfl,if_neg (by decide),Bool.and_true,Bool.and_true,Bool.decide_and]
  congr 1
 rw[e] at this;exact this
abbrev d0q:List Str:=["rouse","clear","mute","marks","told"]
abbrev c8f:List Str:=["number","left","thing","mark","card","ring"]
theorem c1y(st:Str):st∈d0q ↔ st∈b0o\/st="told":=by
 simp only[d0q,b0o,List.mem_cons,List.not_mem_nil,or_false,or_assoc]
theorem d4u(st:Str):st∈gvU ↔ st∈d0q\/st="lacks"\/st∈c8f\/st∈b1y:=by
 constructor
 ·have:∀x∈gvU,x∈d0q\/x="lacks"\/x∈c8f\/x∈b1y:=by decide
  exact this st
 ·have h1:∀x∈d0q,x∈gvU:=by decide
  have h2:("lacks":Str)∈gvU:=by decide
  have h3:∀x∈c8f,x∈gvU:=by decide
  have h4:∀x∈b1y,x∈gvU:=by decide
  rintro (h|h|h|h)
  ·exact h1 _ h
  ·rw[h];exact h2
  ·exact h3 _ h
  ·exact h4 _ h
theorem c7d{st:Str}(h:st∈c8f):st ∉ b1y:=by
 have:∀x∈c8f,x ∉ b1y:=by decide
 exact this st h
def c3c(od pt:Int)(os:List (List Int)):Prop:=(0<=od/\od<os.length)/\0<=pt/\pt<(os.getD od.toNat []).length
def a6s:Sp:=λvs H Q _=>∃(n:Nat)(a b:Addr)(g:GSd)(os:List (List Int)),vs=[.int n,.ref a,.ref b]/\1<=n/\n<=8/\GT H a g/\TTs H b os/\g.ms.length<=100000/\Tells (c7p n os g) H Q
abbrev a4o:Stmt:=top 153
theorem y7:i8 ["size","mind","orders","stage","turn","seen","number","part","there","waits"] ["size","mind","orders"] (g6 a4o):=↑1
theorem b3p(D:DefT K mg "_law_is_giver" a4o ["size","mind","orders"])(T:Txt K mg cl)(G_law_is_turn:FnT P w K mg base "_law_is_turn" 1 ["size","turn","stage"] a4i)(G_law_are_seen:FnT P w K mg base "_law_are_seen" 1 ["size","seen","stage"] a3j):FnT P w K mg base "_law_is_giver" 2 ["size","mind","orders"] a6s:=by
 refine D.fn y7 (λvs H Q E h=>?_) ↑4
 ·obtain⟨n,a,b,g,os,rfl,_⟩:=h
  rfl
 ·obtain⟨n,a,b,g,os,rfl,n1,n8,⟨m,ea,em⟩,tb,lz,k⟩:=h
  refine⟨_,(d7 (a1l (pv 1) (a1j (K:=K) rfl (i5 (i4 (i:=3) y7.nd rfl (by first|exact Or.inl rfl|exact Or.inr rfl)) (i5 (i4 (i:=4) y7.nd rfl (by first|exact Or.inl rfl|exact Or.inr rfl)) (i5 (i4 (i:=5) y7.nd rfl (by first|exact Or.inl rfl|exact Or.inr rfl)) (i5 (i4 (i:=6) y7.nd rfl (by first|exact Or.inl rfl|exact Or.inr rfl)) (i5 (i4 (i:=7) y7.nd rfl (by first|exact Or.inl rfl|exact Or.inr rfl)) a1i)))))))
   (d7 (v9 (PW.pt (a4t (a4b (a2d (l8 G_law_is_turn hr (by decide) rfl j8 (d5 (pv 0) (d5 (pv 4) (d5 (pv 3) d6)))))) (a1u (a4b (a2d (l8 G_law_are_seen hr (by decide) rfl j8 (d5 (pv 0) (d5 (pv 5) (d5 (pv 3) d6)))))))))
     (g0 (j4 a5b))
     k7)
   (d7 (v9 (i6 (a4d (K:=K)) (pv 3) (@l7 _ _ _ _ (@d5 _ _ _ _ _ i9 (@d5 _ _ _ _ _ i9 (@d5 _ _ _ _ _ i9 (@d5 _ _ _ _ _ i9 (@d5 _ _ _ _ _ i9 (@d6 _) rfl) rfl) rfl) rfl) rfl)) (by with_unfolding_all rfl))
     (g0 (j4 (m5 (b3k (K:=K) (n:=1) (huN hr 2)) (t7 (d5 (pv 6) (d5 (pv 7) d6))) (t7 (d5 d9 (d5 d9 d6))) (i7 _))))
     k7)
   (d7 (v9 (i6 a0q (pv 3) i9 (i7 _))
     (g0 (j4 (a1p (b6g c4e a1w (b9v b2n d9) (pv 6) (j6 (j5 (K:=K)) (by rfl) T.z_len PySem.boot_len (d5 (pv 2) d6))) (a1b (m5 a0q (pv 7) d9 (i7 _))))))
     k7)
   (d7 (j7 (i:=8) y7.nd rfl (by first|exact Or.inl rfl|exact Or.inr rfl) (a1p (b6g c4e a1w d9 (pv 6) (j6 (j5 (K:=K)) (by rfl) T.z_len PySem.boot_len (d5 (pv 2) d6))) (a1b (b6g c4e a1w d9 (pv 7) (j6 (j5 (K:=K)) (by rfl) T.z_len PySem.boot_len (d5 (x9 (a0v (K:=K)) (pv 2) (pv 6) (λ_ _=>rfl)) d6))))))
   (d7 (v9 (i6 (a4d (K:=K)) (pv 3) (@l7 _ _ _ _ ↑3) (by with_unfolding_all rfl))
     (g0 (j4 (pv 8)))
     k7)
   (d7 (j7 (i:=9) y7.nd rfl (by first|exact Or.inl rfl|exact Or.inr rfl) (m5 (a4d (K:=K)) (pv 3) (@l7 _ _ _ _ ↑3) (by with_unfolding_all rfl)))
   (g0 (j4 (a1p (pv 9) (a1b (c3x (pv 8) (a1b (m5 (b3k (K:=K) (n:=1) (huN hr 2)) (t7 (d5 (pv 6) (d5 (pv 7) d6))) (t7 (d5 (j6 (j5 (K:=K)) (by rfl) T.z_len PySem.boot_len (d5 (pv 2) d6)) (d5 d9 d6))) (i7 _))))))))))))))),?_⟩
  have lm:=a3a;fail "";refine b0m ea rfl (lit [some (.int n),some (.ref a),some (.ref b),some (.str g.st),some g.he.v,some (.ref m),some (.int g.od),some (.int g.pt),none,none] (by rfl) ?_)
  fail "";refine⟨n,g.st,g.he,rfl,n8,λb1 H1 e1 s1=>?_⟩;fail "";cases b1
  ·fail ""
   exact(k.on s1).f λq=>by cases e1.mpr q.tf
  fail "";refine⟨n,g.st,m,g.ms,rfl,n1,n8,s1 _ _ em,lz,λb2 H2 e2 s2=>?_⟩;fail "";cases b2
  ·fail ""
   exact(k.on (s1.trans s2)).f λq=>by cases e2.mpr q.mf
  have k:Tells (g.st∈gvU/\b0c g.st g.od g.pt os) H2 Q:=λb H' z s'=>k b H' (z.trans ⟨λq=>⟨q.1,e1.mp rfl,e2.mp rfl,q.2⟩,λq=>⟨q.st,q.pf⟩⟩) ((s1.trans s2).trans s');have tb:=tb.same (s1.trans s2);clear ea em s1 s2 e1 e2 lz;rw[d4u] at k;unfold b0c at k;fail "";refine⟨by show 5<=sizeLine;lia,λl hl=>?_⟩
  generalize u3:upd H2 l _=H3;obtain⟨s3,e3⟩:=nwS u3 hl;refine b9b (xs:=d0q) (SqL.of e3) ?_;replace k:=k.on s3;replace tb:=tb.same s3;clear e3 u3 s3 hl;by_cases h1:g.st∈d0q
  ·rw[if_pos ((c1y _).mp h1)] at k
   rw[decide_eq_true h1];fail "";refine⟨by show 2<=sizeLine;lia,λp hp=>?_⟩
   generalize u4:upd H3 p _=H4;obtain⟨s4,e4⟩:=nwS u4 hp;fail "";refine⟨by show 2<=sizeLine;lia,λq hq=>?_⟩
   generalize u5:upd H4 q _=H5;obtain⟨s5,e5⟩:=nwS u5 hq;refine c0i (c8n (g9 e4 hq) (s5 _ _ e4) e5) ?_;refine ((k.on s4).on s5).d ⟨λy=>⟨.inl h1,y⟩,λy=>y.2⟩
  rw[if_neg (λz=>h1 ((c1y _).mpr z))] at k;rw[decide_eq_false h1];fail "";rw[a2c];obtain⟨ps,eb,hl,ep⟩:=tb;by_cases h2:g.st="lacks"
  ·rw[if_pos h2] at k
   rw[decide_eq_true h2];fail "";refine c1q ?_;fail "";refine x8 (λz=>?_) (λz=>?_)
   ·fail ""
    rw[List.length_map,hl];refine x8 (λy=>?_) (λy=>?_)
    ·fail ""
     exact k.d ⟨λx=>⟨.inr (.inl h2),⟨z,y⟩,V.int.inj x⟩,λx=>by rw[x.2.2]⟩
    ·exact k.f λq=>y q.2.1.2
   ·refine⟨false,rfl,?_⟩
    fail "";exact k.f λq=>z q.2.1.1
  rw[if_neg h2] at k;rw[decide_eq_false h2];fail "";rename_i nX hX;have fin:∀t:Bool,(t=true ↔ c3c g.od g.pt os)->nX ([some (.int n),some (.ref a),some (.ref b),some (.str g.st),some g.he.v,some (.ref m),some (.int g.od),some (.int g.pt),some (.bl t),none]) H3:=by
   intro t ht;have k:Tells ((g.st∈c8f\/g.st∈b1y)/\if g.od = ↑os.length then g.st∈b1y/\g.pt=0 else c3c g.od g.pt os) H3 Q:=λb H' z s'=>k b H' (z.trans ⟨λq=>⟨.inr (.inr q.1),q.2⟩,λq=>⟨q.1.elim (λy=>absurd y h1) (λy=>y.elim (λy=>absurd y h2) id),q.2⟩⟩) s';fail "";refine⟨by show 6<=sizeLine;lia,λl hl2=>?_⟩
   generalize u4:upd H3 l _=H4;obtain⟨s4,e4⟩:=nwS u4 hl2;refine b9b (xs:=c8f) (SqL.of e4) ?_;replace k:=k.on s4;have eb:=s4 _ _ eb;clear e4 u4 s4 hl2;by_cases h3:g.st∈c8f
   ·rw[decide_eq_true h3]
    fail "";refine k _ _ (ht.trans ⟨λy=>⟨.inl h3,?_⟩,λy=>?_⟩) (Same.refl _)
    ·rw[if_neg (by have:=y.1;lia)];exact y
    ·have y:=y.2
     split at y
     ·exact absurd y.1 (c7d h3)
     ·exact y
   rw[decide_eq_false h3];fail "";refine⟨by show 6<=sizeLine;lia,λl hl2=>?_⟩
   generalize u4:upd H4 l _=H5;obtain⟨s4,e4⟩:=nwS u4 hl2;refine b9b (xs:=b1y) (SqL.of e4) ?_;replace k:=k.on s4;have eb:=s4 _ _ eb;clear e4 u4 s4 hl2;by_cases h4:g.st∈b1y
   ·rw[decide_eq_true h4]
    fail "";cases t with
    | true=>
     have ht:=ht.mp rfl;fail "";refine k.t ⟨.inr h4,?_⟩;rw[if_neg (by have:=ht.1;lia)];exact ht
    | false=>
     fail "";refine⟨by show 2<=sizeLine;lia,λp hp=>?_⟩
     generalize u5:upd H5 p _=H6;obtain⟨s5,e5⟩:=nwS u5 hp;have eb:=s5 _ _ eb;fail "";refine⟨by show 2<=sizeLine;lia,λq hq=>?_⟩
     generalize u6:upd H6 q _=H7;obtain⟨s6,e6⟩:=nwS u6 hq;refine c0i (c8n (g9 e5 hq) (s6 _ _ e5) e6) ?_;rw[List.length_map,hl];refine ((k.on s5).on s6).d ⟨λy=>⟨.inr h4,?_⟩,λy=>?_⟩
     ·rw[if_pos y.1];exact⟨h4,y.2⟩
     ·have y:=y.2
      split at y
      ·exact⟨by assumption,y.2⟩
      ·cases ht.mpr y
   ·rw[decide_eq_false h4]
    fail "";exact k.f λq=>q.1.elim h3 h4
  clear hX;refine c1q ?_;fail "";refine x8 (λz=>?_) (λz=>?_)
  ·fail ""
   rw[List.length_map,hl];refine x8 (λy=>?_) (λy=>?_)
   ·have hi:g.od.toNat<os.length:=by lia
    have hip:g.od.toNat<ps.length:=by lia
    have eo:os.getD g.od.toNat []=os[g.od.toNat]:=by rw[List.getD_eq_getElem?_getD,List.getElem?_eq_getElem hi];rfl
    have e1:=ep g.od.toNat ps[g.od.toNat] os[g.od.toNat] (List.getElem?_eq_getElem hip) (List.getElem?_eq_getElem hi);refine c1q ?_;fail "";refine x8 (λx=>?_) (λx=>?_)
    ·fail ""
     refine c0h (v:=.ref ps[g.od.toNat]) eb ?_ ?_
     ·unfold atI
      rw[List.length_map,c8d z (by lia)]
      show(ps.map V.ref)[g.od.toNat]?=_;rw[List.getElem?_map,List.getElem?_eq_getElem hip]
      rfl
     fail "";rw[List.length_map];refine fin _ ?_;rw[decide_eq_true_iff];unfold c3c;rw[eo];exact⟨λv=>⟨⟨z,y⟩,x,v⟩,λv=>v.2.2⟩
    ·fail ""
     exact fin false ⟨λv=>(by cases v),λv=>absurd v.2.1 x⟩
   ·fail ""
    exact fin false ⟨λv=>(by cases v),λv=>absurd v.1.2 y⟩
  ·refine⟨false,rfl,?_⟩
   fail "";exact fin false ⟨λv=>(by cases v),λv=>absurd v.1.1 z⟩
abbrev c8y:List Str:=["look","wish","again","sleep","hush","unwish","number","left","thing"]
theorem d3y(st:Str):st∈tkU ↔ st∈b0o\/st∈a9i\/st∈c8y:=by
 constructor
 ·have:∀x∈tkU,x∈b0o\/x∈a9i\/x∈c8y:=by decide
  exact this st
 ·have h1:∀x∈b0o,x∈tkU:=by decide
  have h2:∀x∈a9i,x∈tkU:=by decide
  have h3:∀x∈c8y,x∈tkU:=by decide
  rintro (h|h|h)
  ·exact h1 _ h
  ·exact h2 _ h
  ·exact h3 _ h
theorem c7f{H:Hp}{Q:VK}{t:Addr}{x:Str}{xs:List Str}(h:SqL K H t (xs.map V.str))(q:Q (.bl (!decide (x∈xs))) H):rIn K true (.str x) (.ref t) H Q :=
 ⟨t,_,rfl,.inl h,rfl,b0n xs,by rw[if_pos rfl,b2j];exact q⟩
def a6q:Sp:=λvs H Q _=>∃(n:Nat)(a:Addr)(t:TSd),vs=[.int n,.ref a]/\2<=n/\n<=8/\TT H a t/\t.ms.length<=100000/\Tells (c7o n t) H Q
abbrev a4m:Stmt:=top 154
theorem t9:i8 ["size","mind","stage","turn","seen","first","number","left","parts","far","stages"] ["size","mind"] (g6 a4m):=↑1
theorem b3n(D:DefT K mg "_law_is_taker" a4m ["size","mind"])(T:Txt K mg cl)(G_law_is_turn:FnT P w K mg base "_law_is_turn" 1 ["size","turn","stage"] a4i)(G_law_are_seen:FnT P w K mg base "_law_are_seen" 1 ["size","seen","stage"] a3j):FnT P w K mg base "_law_is_taker" 2 ["size","mind"] a6q:=by
 refine D.fn t9 (λvs H Q E h=>?_) ↑4
 ·obtain⟨n,a,t,rfl,_⟩:=h
  rfl
 ·obtain⟨n,a,t,rfl,n2,n8,⟨m,p,ea,em,ep⟩,lz,k⟩:=h
  refine⟨_,(d7 (a1l (pv 1) (a1j (K:=K) rfl (i5 (i4 (i:=2) t9.nd rfl (by first|exact Or.inl rfl|exact Or.inr rfl)) (i5 (i4 (i:=3) t9.nd rfl (by first|exact Or.inl rfl|exact Or.inr rfl)) (i5 (i4 (i:=4) t9.nd rfl (by first|exact Or.inl rfl|exact Or.inr rfl)) (i5 (i4 (i:=5) t9.nd rfl (by first|exact Or.inl rfl|exact Or.inr rfl)) (i5 (i4 (i:=6) t9.nd rfl (by first|exact Or.inl rfl|exact Or.inr rfl)) (i5 (i4 (i:=7) t9.nd rfl (by first|exact Or.inl rfl|exact Or.inr rfl)) (i5 (i4 (i:=8) t9.nd rfl (by first|exact Or.inl rfl|exact Or.inr rfl)) a1i)))))))))
   (d7 (v9 (PW.pt (a4t (a4b (a2d (l8 G_law_is_turn hr (by decide) rfl j8 (d5 (pv 0) (d5 (pv 3) (d5 (pv 2) d6)))))) (a1u (a4b (a2d (l8 G_law_is_turn hr (by decide) rfl j8 (d5 (pv 0) (d5 (pv 5) (d5 (pv 2) d6)))))))))
     (g0 (j4 a5b))
     k7)
   (d7 (v9 (PW.pt (a4t (a4b (a2d (l8 G_law_are_seen hr (by decide) rfl j8 (d5 (pv 0) (d5 (pv 4) (d5 (pv 2) d6)))))) (a4t (i6 a1w (pv 7) d9 (i7 _)) (a1u (PW.pt (b0b (i6 b2a (pv 7) d9 (i7 _)) (a7p (i6 b2a (pv 2) i9 (i7 _)))))))))
     (g0 (j4 a5b))
     k7)
   (d7 (v9 (PW.pt (b0b (i6 b2a (pv 6) d9 (i7 _)) (a7p (i6 (b0d (K:=K)) (pv 2) (l7 (d5 i9 (d5 i9 d6))) (by with_unfolding_all rfl)))))
     (g0 (j4 a5b))
     k7)
   (d7 (v9 (i6 (a4d (K:=K)) (pv 2) (l7 (d5 i9 (d5 i9 (d5 i9 (d5 i9 d6))))) (by with_unfolding_all rfl))
     (g0 (j4 (m5 (b3k (K:=K) (n:=1) (huN hr 2)) (pv 8) (t7 d6) (i7 _))))
     k7)
   (d7 (j7 (i:=9) t9.nd rfl (by first|exact Or.inl rfl|exact Or.inr rfl) (j3 a5c (j3 a0y (pv 3) (pv 5)) (j3 y0 d9 (pv 0))))
   (d7 (v9 (i6 (a4d (K:=K)) (pv 2) (l7 (d5 i9 (d5 i9 (d5 i9 d6)))) (by with_unfolding_all rfl))
     (g0 (j4 (a1p (m5 (b3k (K:=K) (n:=1) (huN hr 2)) (pv 8) (t7 d6) (i7 _)) (a1b (m5 a1w (pv 9) (pv 0) (i7 _))))))
     k7)
   (@d7 _ _ _ _ _ (@j7 _ _ 10 _ _ _ _ t9.nd rfl (by first|exact Or.inl rfl|exact Or.inr rfl) (@l7 _ _ _ _ (@d5 _ _ _ _ _ i9 (@d5 _ _ _ _ _ i9 (@d5 _ _ _ _ _ i9 ↑3 rfl) rfl) rfl)) (by rfl) (by first|exact .inl rfl|exact .inr rfl))
   (g0 (j4 (a1p (m5 (a4d (K:=K)) (pv 2) (pv 10) (by with_unfolding_all rfl)) (a1p (m5 a1w (j6 (j5 (K:=K)) (by rfl) T.z_len PySem.boot_len (d5 (pv 8) d6)) (pv 0) (i7 _)) (a1b (m5 a0q (pv 9) (j6 (j5 (K:=K)) (by rfl) T.z_len PySem.boot_len (d5 (pv 8) d6)) (i7 _))))))))))))))),?_⟩
  have lm:=a3a;fail "";refine c1l ea rfl (lit [some (.int n),some (.ref a),some (.str t.st),some t.he.v,some (.ref m),some t.nf.v,some (.int t.nu),some (.int t.le),some (.ref p),none,none] (by rfl) ?_)
  fail "";refine⟨n,t.st,t.he,rfl,n8,λb1 H1 e1 s1=>?_⟩;fail "";cases b1
  ·fail ""
   exact(k.on s1).f λq=>by cases e1.mpr q.tf
  fail "";refine⟨n,t.st,t.nf,rfl,n8,λb2 H2 e2 s2=>?_⟩;fail "";cases b2
  ·fail ""
   exact(k.on (s1.trans s2)).f λq=>by cases e2.mpr q.nf
  fail "";have em:=s2 _ _ (s1 _ _ em);have ep:=s2 _ _ (s1 _ _ ep);refine⟨n,t.st,m,t.ms,rfl,by lia,n8,em,lz,λb3 H3 e3 s3=>?_⟩
  fail "";cases b3
  ·fail ""
   exact(k.on ((s1.trans s2).trans s3)).f λq=>by cases e3.mpr q.mf
  have ep:=s3 _ _ ep;have tf:=e1.mp rfl;have nf:=e2.mp rfl;have k:Tells (t.st∈tkU/\c2g t.st t.nu t.le/\a7t n t) H3 Q:=λb H' z s'=>k b H' (z.trans ⟨λq=>⟨q.1,e1.mp rfl,e2.mp rfl,e3.mp rfl,q.2.1,q.2.2⟩,λq=>⟨q.st,q.rf,q.pf⟩⟩) (((s1.trans s2).trans s3).trans s');clear ea em s1 s2 s3 e1 e2 e3 lz;rw[d3y] at k;unfold c2g at k;rename_i nX hX _;have fin:(t.le=0\/(0<t.le/\t.st="thing"))->nX [some (.int n),some (.ref a),some (.str t.st),some t.he.v,some (.ref m),some t.nf.v,some (.int t.nu),some (.int t.le),some (.ref p),none,none] H3:=by
   intro c1;have k:Tells ((t.st∈b0o\/t.st∈a9i\/t.st∈c8y)/\(t.nu=0\/t.st="left"\/t.st="thing")/\a7t n t) H3 Q:=λb H' z s'=>k b H' (z.trans ⟨λq=>⟨q.1,⟨q.2.1,c1⟩,q.2.2⟩,λq=>⟨q.1,q.2.1.1,q.2.2⟩⟩) s';fail "";rename_i nY hY;have fin2:(t.nu=0\/t.st="left"\/t.st="thing")->∀H4,Same H3 H4->nY [some (.int n),some (.ref a),some (.str t.st),some t.he.v,some (.ref m),some t.nf.v,some (.int t.nu),some (.int t.le),some (.ref p),none,none] H4:=by
    intro c2 H4 s4;have k:Tells ((t.st∈b0o\/t.st∈a9i\/t.st∈c8y)/\a7t n t) H4 Q:=λb H' z s'=>k b H' (z.trans ⟨λq=>⟨q.1,c2,q.2⟩,λq=>⟨q.1,q.2.2⟩⟩) (s4.trans s');have ep:=s4 _ _ ep;clear s4;fail "";refine⟨by show 4<=sizeLine;lia,λl hl=>?_⟩
    generalize u5:upd H4 l _=H5;obtain⟨s5,e5⟩:=nwS u5 hl;refine b9b (xs:=b0o) (SqL.of e5) ?_;replace k:=k.on s5;have ep:=s5 _ _ ep;clear e5 u5 s5 hl;unfold a7t at k;unfold a3i at tf nf;by_cases h1:t.st∈b0o
    ·rw[if_pos h1] at k
     rw[decide_eq_true h1];fail "";refine⟨Nat.zero_le _,λq hq=>?_⟩;generalize u6:upd H5 q _=H6;obtain⟨s6,e6⟩:=nwS u6 hq;refine c0i (b7a (g9 ep hq) (s6 _ _ ep) e6) ?_;refine k _ _ ?_ s6;rw[List.isEmpty_map,List.isEmpty_iff];exact⟨λy=>⟨.inl h1,y⟩,λy=>y.2⟩
    rw[if_neg h1] at k tf nf;rw[decide_eq_false h1];obtain⟨i,ei,i0,i1⟩:=tf;obtain⟨j,ej,j0,j1⟩:=nf;have k:Tells ((t.st∈a9i\/t.st∈c8y)/\(if t.st∈a9i then t.pa=[] else (t.pa.length:Int)=(i-j) % (2*(n:Int)))/\(i-j) % (2*(n:Int))<n) H5 Q:=λb H' z s'=>k b H' (z.trans ⟨λq=>⟨.inr q.1,i,j,ei,ej,q.2⟩,λq=>⟨q.1.elim (λy=>absurd y h1) id,by
     obtain⟨_,i',j',e1,e2,q⟩:=q;rw[ei] at e1;rw[ej] at e2;cases e1;cases e2;exact q⟩⟩) s'
    rw[ei,ej];fail "";refine⟨by show 3<=sizeLine;lia,λl hl=>?_⟩
    generalize u6:upd H5 l _=H6;obtain⟨s6,e6⟩:=nwS u6 hl;refine b9b (xs:=a9i) (SqL.of e6) ?_;replace k:=k.on s6;have ep:=s6 _ _ ep;clear e6 u6 s6 hl;have d0:=Int.emod_nonneg (i-j) (show 2*(n:Int)≠0 by lia)
    generalize (i-j) % (2*(n:Int))=far at k d0 ⊢;by_cases h2:t.st∈a9i
    ·rw[if_pos h2] at k
     rw[decide_eq_true h2];fail "";refine⟨Nat.zero_le _,λq hq=>?_⟩;generalize u7:upd H6 q _=H7;obtain⟨s7,e7⟩:=nwS u7 hq;refine c0i (b7a (g9 ep hq) (s7 _ _ ep) e7) ?_;replace k:=k.on s7;rw[List.isEmpty_map];cases c:t.pa.isEmpty with
     | true=>
      fail "";exact k.d ⟨λy=>⟨.inl h2,List.isEmpty_iff.mp c,y⟩,λy=>y.2.2⟩
     | false=>
      fail "";exact k.f λy=>by rw[y.2.1] at c;cases c
    rw[if_neg h2] at k;rw[decide_eq_false h2];fail "";refine⟨by show 9<=sizeLine;lia,λl hl=>?_⟩
    generalize u7:upd H6 l _=H7;obtain⟨s7,e7⟩:=nwS u7 hl;replace k:=k.on s7;have ep:=s7 _ _ ep;fail "";refine b9b (xs:=c8y) (SqL.of e7) ?_;fail "";refine x8 (λz=>?_) (λz=>?_)
    ·fail ""
     rw[List.length_map];refine x8 (λy=>?_) (λy=>?_)
     ·fail ""
      rw[List.length_map];refine k.d ⟨λx=>?_,λx=>?_⟩
      ·have:=V.int.inj x
       exact⟨.inr z,by lia,by lia⟩
      ·rw[x.2.1]
     ·fail ""
      exact k.f λq=>y (by have:=q.2;lia)
    ·fail ""
     exact k.f λq=>q.1.elim h2 z
   clear hY;fail "";rw[t5];refine a2s (λz=>?_) (λz=>?_)
   ·fail ""
    refine⟨by show 2<=sizeLine;lia,λl hl=>?_⟩
    generalize u4:upd H3 l _=H4;obtain⟨s4,e4⟩:=nwS u4 hl;refine c7f (xs:=["left","thing"]) (SqL.of e4) ?_;have me:t.st∈(["left","thing"]:List Str) ↔ t.st="left"\/t.st="thing":=by simp only[List.mem_cons,List.not_mem_nil,or_false]
    fail "";refine a2s (λy=>?_) (λy=>?_)
    ·fail ""
     exact(k.on s4).f λq=>q.2.1.elim z (λv=>y (me.mpr v))
    ·fail ""
     exact fin2 (.inr (me.mp y)) _ s4
   ·fail ""
    exact fin2 (.inl z) _ (Same.refl _)
  clear hX;fail "";refine x8 (λz=>?_) (λz=>?_)
  ·fail ""
   exact k.f λq=>by have:=q.2.1.2;lia
  ·fail ""
   rw[t5];refine a2s (λy=>?_) (λy=>?_)
   ·fail ""
    rw[a2c];refine a2s (λx=>?_) (λx=>?_)
    ·fail ""
     exact k.f λq=>q.2.1.2.elim y (λv=>x v.2)
    ·fail ""
     exact fin (.inr ⟨by lia,x⟩)
   ·fail ""
    exact fin (.inl y)
theorem d7s{xs:List V}{k:Nat}(l:xs.length=4*k+4):b5h xs (some (4*(k:Int))) (some (4*(k:Int)+2))=(xs.drop (4*k)).take 2:=by
 unfold b5h;rw[show(4*(k:Int))=((4*k:Nat):Int) by lia,show(((4*k:Nat):Int)+2)=((4*k+2:Nat):Int) by lia,HT.sIx_nat,HT.sIx_nat,l,Nat.min_eq_left (by lia),Nat.min_eq_left (by lia),show 4*k+2-4*k=2 by lia]
theorem d7r{xs:List V}{k:Nat}(l:xs.length=4*k+4):b5h xs (some (4*(k:Int)+2)) none=xs.drop (4*k+2):=by
 unfold b5h;rw[show(4*(k:Int)+2)=((4*k+2:Nat):Int) by lia,HT.sIx_nat,HT.sIx_none,l,Nat.min_eq_left (by lia)]
 exact List.take_of_length_le (by rw[List.length_drop];lia)
theorem c5i{α β:Type}{f:α->Option β}{g:α->β}:∀{l:List α},(∀a∈l,f a=some (g a))->l.filterMap f=l.map g
 | [],_=>rfl
 | a::l,h=>by
  rw[List.filterMap_cons,h a List.mem_cons_self,List.map_cons,c5i λb hb=>h b (List.mem_cons_of_mem _ hb)]
theorem d4m{xs:List Int}{k:Nat}(l:xs.length=4*k+4):b6e (xs.map V.int) k=((List.range k).map λq=>xs.getD (4*q) 0).map V.int:=by
 unfold b6e;rw[List.map_map];refine c5i λm hm=>?_;have hm:=List.mem_range.mp hm;rw[List.getElem?_map,List.getElem?_eq_getElem (by lia)]
 show some (V.int _)=some (V.int (xs.getD (4*m) 0));rw[List.getD_eq_getElem?_getD,List.getElem?_eq_getElem (by lia)]
 rfl
theorem d1j{c:List Int}{a:Nat}(h:a+2<=c.length):(c.drop a).take 2=[c.getD a 0,c.getD (a+1) 0]:=by
 rw[List.drop_eq_getElem_cons (by lia),List.drop_eq_getElem_cons (by lia),List.getD_eq_getElem?_getD,List.getD_eq_getElem?_getD,List.getElem?_eq_getElem (by lia),List.getElem?_eq_getElem (by lia)]
 rfl
theorem c3b{c:List Int}{a:Nat}(h:a+2<=c.length){p:Int->Prop}:(∀m∈(c.drop a).take 2,p m) ↔ ∀k,k<2->p (c.getD (a+k) 0):=by
 rw[d1j h];constructor
 ·intro q k hk
  have:k=0\/k=1:=by lia
  rcases this with rfl|rfl
  ·exact q _ List.mem_cons_self
  ·exact q _ (List.mem_cons_of_mem _ List.mem_cons_self)
 ·intro q m hm
  simp only[List.mem_cons,List.not_mem_nil,or_false] at hm;rcases hm with rfl|rfl
  ·exact q 0 (by decide)
  ·exact q 1 (by decide)
def rP(H:Hp)(n:Nat):V->Bool:=λv=>match v with
 | .ref p=>match H p with
  | some (.tup xs)=>decide (xs.length<1\/n<xs.length)
  | _=>false
 | _=>false
theorem c0y{H:Hp}{n:Nat}:∀{ps:List Addr}{os:List (List Int)},ps.length=os.length->(∀(i:Nat)(p:Addr)(o:List Int),ps[i]?=some p->os[i]?=some o->H p=some (.tup (o.map V.int)))->(((ps.map V.ref).filter (rP H n)).isEmpty=true ↔ b4w n os)
 | [],[],_,_=>⟨λ_ _ z=>(by cases z),λ_=>rfl⟩
 | p::ps,o::os,l,h=>by
  have e:=h 0 p o rfl rfl;have r:=c0y (H:=H) (n:=n) (ps:=ps) (os:=os) (by simpa using l) (λi=>h (i+1))
  rw[List.map_cons,List.filter_cons];have e2:rP H n (.ref p)=decide (o.length<1\/n<o.length):=by
   unfold rP;dsimp only;rw[e];dsimp only;rw[List.length_map]
  rw[e2];by_cases c:o.length<1\/n<o.length
  ·rw[if_pos (decide_eq_true c)]
   exact⟨λz=>(by cases z),λz=>(by have:=z o List.mem_cons_self;lia)⟩
  ·rw[if_neg (by rw[decide_eq_false c];decide)]
   refine r.trans ⟨λz m hm=>?_,λz m hm=>z m (List.mem_cons_of_mem _ hm)⟩;cases hm with
   | head=>lia
   | tail _ hm=>exact z m hm
 | [],_::_,l,_=>by cases l
 | _::_,[],l,_=>by cases l
theorem d3m{H:Hp}{ps qs:List Addr}{os bk:List (List Int)}(l:ps.length=os.length)(h:∀(i:Nat) (p:Addr) (o:List Int),ps[i]?=some p->os[i]?=some o->H p=some (.tup (o.map V.int)))(h':∀(i:Nat) (p:Addr) (o:List Int),qs[i]?=some p->bk[i]?=some o->H p=some (.tup (o.map V.int))):
  ∀(i:Nat)(p:Addr)(o:List Int),(ps++qs)[i]?=some p->(os++bk)[i]?=some o->H p=some (.tup (o.map V.int)):=by
 intro i p o hp ho;by_cases z:i<ps.length
 ·rw[List.getElem?_append_left z] at hp
  rw[List.getElem?_append_left (by lia)] at ho
  exact h i p o hp ho
 ·rw[List.getElem?_append_right (by lia)] at hp
  rw[List.getElem?_append_right (by lia),<- l] at ho
  exact h' _ p o hp ho
theorem c7c{n:Nat}{os bk:List (List Int)}:b4w n (os++bk) ↔ b4w n os/\b4w n bk:=⟨λh=>⟨λo ho=>h o (List.mem_append_left _ ho),λo ho=>h o (List.mem_append_right _ ho)⟩,λh o ho=>(List.mem_append.mp ho).elim (h.1 o) (h.2 o)⟩
def a6r:Sp:=λvs H Q _=>∃(a:Addr)(x:Sd),vs=[.ref a]/\ST H a x/\x.n=x.c.length / 4-1/\x.c.length<=100000/\x.os.length<=200000/\x.bk.length<=200000/\x.g.ms.length<=100000/\x.t.ms.length<=100000/\Tells (a5g x) H Q
abbrev a4n:Stmt:=top 155
theorem a0f:i8 ["stand","cells","giver","taker","orders","book","size"] ["stand"] (g6 a4n):=↑1
theorem b3o(D:DefT K mg "_law_is_stand" a4n ["stand"])(T:Txt K mg cl)(G_law_is_giver:FnT P w K mg base "_law_is_giver" 2 ["size","mind","orders"] a6s)(G_law_is_taker:FnT P w K mg base "_law_is_taker" 2 ["size","mind"] a6q):FnT P w K mg base "_law_is_stand" 3 ["stand"] a6r:=by
 refine D.fn a0f (λvs H Q E h=>?_) ↑4
 ·obtain⟨a,x,rfl,_⟩:=h
  rfl
 ·obtain⟨a,x,rfl,⟨c,g,t,o,b,ea,ec,eg,et,eo,eb⟩,en,lc,lo,lb,lg,lt,k⟩:=h
  refine⟨_,(d7 (a1l (pv 0) (a1j (K:=K) rfl (i5 (i4 (i:=1) a0f.nd rfl (by first|exact Or.inl rfl|exact Or.inr rfl)) (i5 (i4 (i:=2) a0f.nd rfl (by first|exact Or.inl rfl|exact Or.inr rfl)) (i5 (i4 (i:=3) a0f.nd rfl (by first|exact Or.inl rfl|exact Or.inr rfl)) (i5 (i4 (i:=4) a0f.nd rfl (by first|exact Or.inl rfl|exact Or.inr rfl)) (i5 (i4 (i:=5) a0f.nd rfl (by first|exact Or.inl rfl|exact Or.inr rfl)) a1i)))))))
   (d7 (j7 (i:=6) a0f.nd rfl (by first|exact Or.inl rfl|exact Or.inr rfl) (j3 a0y (j3 a4e (j6 (j5 (K:=K)) (by rfl) T.z_len PySem.boot_len (d5 (pv 1) d6)) d9) d9))
   (d7 (v9 (PW.pt (a4t (i6 b2a (j3 a5c (j6 (j5 (K:=K)) (by rfl) T.z_len PySem.boot_len (d5 (pv 1) d6)) d9) d9 (i7 _)) (a4t (i6 a1w (pv 6) d9 (i7 _)) (a1u (i6 b3j (pv 6) d9 (i7 _))))))
     (g0 (j4 a5b))
     k7)
   (d7 (v9 (i6 (b8d (K:=K) (n:=0) (huN hr 1)) (a7s (N:=["mark"]) (nt:=1) (fr:=[]) rfl (a0w rfl rfl (by decide +kernel) (by decide +kernel) rfl rfl) (a2j (K:=K) (c3w (K:=K) (pv 1) a1d (a0p (j3 y0 d9 (pv 6))) (a0p d9))) (z9 (by decide)) (λ_ _ _ _ _=>i4 (i:=0) (show(["mark"]:List Str).Nodup by decide +kernel) rfl (Or.inl rfl) (Or.inr rfl)) (λ_ _ _ _ _=>(PW.pt (a4t (i6 a1w (pv 0) d9 (i7 _)) (a1u (i6 b3j (pv 0) d9 (i7 _)))))) (λ_ _ _ _ _=>(pv 0))) (l7 d6) (i7 _))
     (g0 (j4 a5b))
     k7)
   (d7 (v9 (i6 (b8d (K:=K) (n:=0) (huN hr 1)) (a7s (N:=["card","size"]) (nt:=1) (fr:=[6]) rfl (a3f (i:=6) rfl rfl (by decide +kernel) (by decide +kernel) rfl rfl rfl rfl rfl rfl rfl) (a2j (K:=K) (a0j (c3k (K:=K)) (pv 1) (a0p (j3 y0 d9 (pv 6))) (a0p (j3 a0k (j3 y0 d9 (pv 6)) d9)))) (z9 (by decide)) (λ_ _ _ _ _=>i4 (i:=0) (show(["card","size"]:List Str).Nodup by decide +kernel) rfl (Or.inl rfl) (Or.inr rfl)) (λ_ _ _ _ _=>(PW.pt (a4t (i6 a1w (pv 0) (b9v b2n d9) (i7 _)) (a1u (i6 c6u (pv 0) (j3 y0 d9 (pv 1)) (i7 _)))))) (λ_ _ _ _ _=>(pv 0))) (l7 d6) (i7 _))
     (g0 (j4 a5b))
     k7)
   (d7 (v9 (i6 (b8d (K:=K) (n:=0) (huN hr 1)) (a7s (N:=["bell"]) (nt:=1) (fr:=[]) rfl (a0w rfl rfl (by decide +kernel) (by decide +kernel) rfl rfl) (a2j (K:=K) (a0j (c3k (K:=K)) (pv 1) (a0p (j3 a0k (j3 y0 d9 (pv 6)) d9)) a1d)) (z9 (by decide)) (λ_ _ _ _ _=>i4 (i:=0) (show(["bell"]:List Str).Nodup by decide +kernel) rfl (Or.inl rfl) (Or.inr rfl)) (λ_ _ _ _ _=>(PW.pt (b0b (i6 b2a (pv 0) d9 (i7 _)) (a7p (i6 b2a (pv 0) d9 (i7 _)))))) (λ_ _ _ _ _=>(pv 0))) (l7 d6) (i7 _))
     (g0 (j4 a5b))
     k7)
   (d7 (v9 (i6 (b8d (K:=K) (n:=0) (huN hr 1)) (a7s (N:=["order","size"]) (nt:=1) (fr:=[6]) rfl (a3f (i:=6) rfl rfl (by decide +kernel) (by decide +kernel) rfl rfl rfl rfl rfl rfl rfl) (a2j (K:=K) (j3 (a1x (K:=K)) (pv 4) (pv 5))) (z9 (by decide)) (λ_ _ _ _ _=>i4 (i:=0) (show(["order","size"]:List Str).Nodup by decide +kernel) rfl (Or.inl rfl) (Or.inr rfl)) (λ_ _ _ _ _=>(PW.pt (a4t (i6 a1w (j6 (j5 (K:=K)) (by rfl) T.z_len PySem.boot_len (d5 (pv 0) d6)) d9 (i7 _)) (a1u (i6 b3j (j6 (j5 (K:=K)) (by rfl) T.z_len PySem.boot_len (d5 (pv 0) d6)) (pv 1) (i7 _)))))) (λ_ _ _ _ _=>(pv 0))) (l7 d6) (i7 _))
     (g0 (j4 a5b))
     k7)
   (g0 (j4 (a1p (l8 G_law_is_giver hr (by decide) rfl j8 (d5 (pv 6) (d5 (pv 2) (d5 (pv 4) d6)))) (a1b (l8 G_law_is_taker hr (by decide) rfl j8 (d5 (pv 6) (d5 (pv 3) d6)))))))))))))),?_⟩
  have lm:=a3a;fail "";refine b0m ea rfl (lit [some (.ref a),some (.ref c),some (.ref g),some (.ref t),some (.ref o),some (.ref b),none] (by rfl) ?_)
  fail "";rw[List.length_map];rw[t5];refine a2s (λz=>?_) (λz=>?_)
  ·fail ""
   exact k.f λq=>by have:=q.c.len;lia
  fail "";refine x8 (λy=>?_) (λy=>?_)
  ·fail ""
   exact k.f λq=>by have:=q.c.len;have:=q.c.n2;lia
  fail "";refine x8 (λv=>?_) (λv=>?_)
  ·fail ""
   exact k.f λq=>by have:=q.c.len;have:=q.c.n8;lia
  have en2:((x.c.length:Int) / 4-1)=(x.n:Int):=by lia
  have lx:x.c.length=4*x.n+4:=by lia
  have n2:2<=x.n:=by lia
  have n8:x.n<=8:=by lia
  rw[en2];clear en2 z y v en;have lx':(x.c.map V.int).length=4*x.n+4:=by rw[List.length_map];exact lx
  fail "";refine⟨_,rfl,?_⟩;fail "";refine⟨_,rfl,c,x.c.map V.int,x.n,rfl,SqT.of ec,rfl,by congr 1,rfl,by lia,λp1 hp1=>?_⟩
  rw[d4m lx];generalize u1:upd H p1 _=H1;obtain⟨s1,e1⟩:=nwS u1 hp1;refine a5e (SqT.of e1) ?_;refine a2u (p:=iP λi=>decide (i<0\/3<i)) e1 (by rw[List.length_map,List.length_map,List.length_range];lia) ?_ ?_
  ·intro i v H' k1 k2 hx s' y1 y2
   obtain⟨y,hy,rfl⟩:=b1c hx;fail "";refine x8 (λz=>?_) (λz=>?_)
   ·fail ""
    exact y1 (decide_eq_true (.inl z)) _ (Same.refl _)
   ·fail ""
    refine x8 (λx=>?_) (λx=>?_)
    ·fail ""
     exact y1 (decide_eq_true (.inr x)) _ (Same.refl _)
    ·exact y2 (decide_eq_false (by lia)) _ (Same.refl _)
  intro D1 H2 hD1 s2 e2;fail "";refine⟨Nat.zero_le _,λq hq=>?_⟩;generalize u3:upd H2 q _=H3;obtain⟨s3,e3⟩:=nwS u3 hq;refine c5b (b4f (g9 e2 hq) (s3 _ _ e2) e3) ?_;have ie:=b0k (λi=>decide (i<0\/3<i)) ((List.range x.n).map λq=>x.c.getD (4*q) 0);have s03:=(s1.trans s2).trans s3;generalize ((((List.range x.n).map λq=>x.c.getD (4*q) 0).map V.int).filter (iP λi=>decide (i<0\/3<i))).isEmpty=b1 at ie ⊢;replace k:=k.on s03;have ec:=s03 _ _ ec;have eg:=eg.same s03;have et:=et.same s03;have eo:=eo.same s03;have eb:=eb.same s03;clear e1 e2 e3 u1 u3 s1 s2 s3 s03 hp1 hD1 hq ea;cases b1 with
  | false=>
   fail "";refine k.f λq=>?_;have:false=true:=ie.mpr λm hm=>?_
   ·cases this
   ·obtain⟨j,hj,rfl⟩:=List.mem_map.mp hm
    have:=q.c.ok.mks j (List.mem_range.mp hj);exact decide_eq_false (by lia)
  | true=>
  have mks:∀j,j<x.n->0<=x.c.getD (4*j) 0/\x.c.getD (4*j) 0<=3:=λj hj=>by
   have:=of_decide_eq_false (ie.mp rfl _ (List.mem_map.mpr ⟨j,List.mem_range.mpr hj,rfl⟩));lia
  clear ie;fail "";refine⟨_,rfl,?_⟩;fail "";refine⟨_,rfl,c,x.c.map V.int,rfl,SqT.of ec,?_,λp1 hp1=>?_⟩
  ·rw[show(4*(x.n:Int))=((4*x.n:Nat):Int) by lia,HT.sIx_nat]
   intro q;have:=q.1;lia
  rw[d7s lx',<- List.map_drop,<- List.map_take];generalize u1:upd H3 p1 _=H4;obtain⟨s1,e1⟩:=nwS u1 hp1;refine a5e (SqT.of e1) ?_;refine a2u (p:=iP (λi=>decide (i < -1\/2*(x.n:Int)<=i))) e1 (by rw[List.length_map,List.length_take];lia) ?_ ?_
  ·intro i v H' k1 k2 hx s' y1 y2
   obtain⟨y,hy,rfl⟩:=b1c hx;fail "";refine x8 (λz=>?_) (λz=>?_)
   ·fail ""
    exact y1 (decide_eq_true (.inl z)) _ (Same.refl _)
   ·fail ""
    refine x8 (λx=>?_) (λx=>?_)
    ·fail ""
     exact y1 (decide_eq_true (.inr x)) _ (Same.refl _)
    ·exact y2 (decide_eq_false (by lia)) _ (Same.refl _)
  intro D1 H5 hD1 s2 e2;fail "";refine⟨Nat.zero_le _,λq hq=>?_⟩;generalize u3:upd H5 q _=H6;obtain⟨s3,e3⟩:=nwS u3 hq;refine c5b (b4f (g9 e2 hq) (s3 _ _ e2) e3) ?_;have ie:=b0k (λi=>decide (i < -1\/2*(x.n:Int)<=i)) ((x.c.drop (4*x.n)).take 2);have s03:=(s1.trans s2).trans s3;generalize ((((x.c.drop (4*x.n)).take 2).map V.int).filter (iP (λi=>decide (i < -1\/2*(x.n:Int)<=i)))).isEmpty=b1 at ie ⊢;replace k:=k.on s03;have ec:=s03 _ _ ec;have eg:=eg.same s03;have et:=et.same s03;have eo:=eo.same s03;have eb:=eb.same s03;clear e1 e2 e3 u1 u3 s1 s2 s3 s03 hp1 hD1 hq;rw[c3b (by lia)] at ie
  cases b1 with
  | false=>
   fail "";refine k.f λq=>?_;have:false=true:=ie.mpr λm hm=>?_
   ·cases this
   ·have:=q.c.ok.cd m hm
    exact decide_eq_false (by lia)
  | true=>
  have cds:∀k,k<2->-1<=x.c.getD (4*x.n+k) 0/\x.c.getD (4*x.n+k) 0<2*(x.n:Int):=λk hk=>by
   have:=of_decide_eq_false (ie.mp rfl k hk);lia
  clear ie;fail "";refine⟨_,rfl,?_⟩;fail "";refine⟨c,x.c.map V.int,rfl,SqT.of ec,?_,λp1 hp1=>?_⟩
  ·rw[show(4*(x.n:Int)+2)=((4*x.n+2:Nat):Int) by lia,HT.sIx_nat]
   intro q;have:=q.1;lia
  rw[d7r lx',<- List.map_drop,<- List.take_of_length_le (l:=x.c.drop (4*x.n+2)) (i:=2) (by rw[List.length_drop];lia)]
  generalize u1:upd H6 p1 _=H7;obtain⟨s1,e1⟩:=nwS u1 hp1;refine a5e (SqT.of e1) ?_;refine a2u (p:=iP (λi=>decide (i≠0/\i≠1))) e1 (by rw[List.length_map,List.length_take];lia) ?_ ?_
  ·intro i v H' k1 k2 hx s' y1 y2
   obtain⟨y,hy,rfl⟩:=b1c hx;fail "";rw[t5];refine a2s (λz=>?_) (λz=>?_)
   ·fail ""
    rw[t5];refine a2s (λx=>?_) (λx=>?_)
    ·fail ""
     exact y1 (decide_eq_true ⟨z,x⟩) _ (Same.refl _)
    ·fail ""
     exact y2 (decide_eq_false (by lia)) _ (Same.refl _)
   ·fail ""
    exact y2 (decide_eq_false (by lia)) _ (Same.refl _)
  intro D1 H8 hD1 s2 e2;fail "";refine⟨Nat.zero_le _,λq hq=>?_⟩;generalize u3:upd H8 q _=H9;obtain⟨s3,e3⟩:=nwS u3 hq;refine c5b (b4f (g9 e2 hq) (s3 _ _ e2) e3) ?_;have ie:=b0k (λi=>decide (i≠0/\i≠1)) ((x.c.drop (4*x.n+2)).take 2);have s03:=(s1.trans s2).trans s3;generalize ((((x.c.drop (4*x.n+2)).take 2).map V.int).filter (iP (λi=>decide (i≠0/\i≠1)))).isEmpty=b1 at ie ⊢;replace k:=k.on s03;have ec:=s03 _ _ ec;have eg:=eg.same s03;have et:=et.same s03;have eo:=eo.same s03;have eb:=eb.same s03;clear e1 e2 e3 u1 u3 s1 s2 s3 s03 hp1 hD1 hq;rw[c3b (by lia)] at ie
  cases b1 with
  | false=>
   fail "";refine k.f λq=>?_;have:false=true:=ie.mpr λm hm=>?_
   ·cases this
   ·have:=q.c.ok.bl m hm
    exact decide_eq_false (by lia)
  | true=>
  have bls:∀k,k<2->x.c.getD (4*x.n+2+k) 0=0\/x.c.getD (4*x.n+2+k) 0=1:=λk hk=>by
   have:=of_decide_eq_false (ie.mp rfl k hk);lia
  clear ie;fail "";obtain⟨ps,eps,lps,hps⟩:=id eo;obtain⟨qs,eqs,lqs,hqs⟩:=id eb;refine b9c eps eqs (by rw[List.length_map,List.length_map];lia) λp1 H10 s10 e10=>?_
  rw[<- List.map_append] at e10;have hh:∀(i:Nat)(p:Addr)(o:List Int),(ps++qs)[i]?=some p->(x.os++x.bk)[i]?=some o->H10 p=some (.tup (o.map V.int)):=d3m lps (λi p o a b=>s10 _ _ (hps i p o a b)) (λi p o a b=>s10 _ _ (hqs i p o a b));have ll:(ps++qs).length=(x.os++x.bk).length:=by rw[List.length_append,List.length_append];lia
  have ie:=c0y (n:=x.n) ll hh;have lz:(ps++qs).length<sizeLine:=by rw[List.length_append];lia
  refine a5e (SqT.of e10) ?_;refine a2u (p:=rP H10 x.n) e10 (by rw[List.length_map];exact lz) ?_ ?_
  ·intro i v H' k1 k2 hx s' y1 y2
   obtain⟨p,hp,rfl⟩:=b1c hx;have hi:i<(x.os++x.bk).length:=by rw[<- ll];exact(List.getElem?_eq_some_iff.mp hp).1
   have e11:=hh i p _ hp (List.getElem?_eq_getElem hi);have e2:rP H10 x.n (.ref p)=decide ((x.os++x.bk)[i].length<1\/x.n<(x.os++x.bk)[i].length):=by
    unfold rP;dsimp only;rw[e11];dsimp only;rw[List.length_map]
   rw[e2] at y1 y2;have e12:=s' _ _ e11;clear e11 e2 hx hp;generalize (x.os++x.bk)[i]=o' at *;fail "";rw[List.length_map];refine x8 (λz=>?_) (λz=>?_)
   ·fail ""
    exact y1 (decide_eq_true (.inl (by lia))) _ (Same.refl _)
   ·fail ""
    rw[List.length_map];refine x8 (λv=>?_) (λv=>?_)
    ·fail ""
     exact y1 (decide_eq_true (.inr (by lia))) _ (Same.refl _)
    ·exact y2 (decide_eq_false (by lia)) _ (Same.refl _)
  intro D1 H11 hD1 s2 e2;fail "";refine⟨Nat.zero_le _,λq hq=>?_⟩;generalize u3:upd H11 q _=H12;obtain⟨s3,e3⟩:=nwS u3 hq;refine c5b (b4f (g9 e2 hq) (s3 _ _ e2) e3) ?_;have s03:=(s10.trans s2).trans s3;generalize (((ps++qs).map V.ref).filter (rP H10 x.n)).isEmpty=b1 at ie ⊢;replace k:=k.on s03;have eg:=eg.same s03;have et:=et.same s03;have eo:=eo.same s03;clear e2 e3 u3 s2 s3 s03 hD1 hq hh ll lz e10 s10 eps eqs hps hqs lps lqs;rw[c7c] at ie;cases b1 with
  | false=>
   fail "";refine k.f λq=>?_;cases ie.mpr ⟨q.os,q.bk⟩
  | true=>
  have ie:=ie.mp rfl;fail "";refine⟨x.n,g,o,x.g,x.os,rfl,by lia,n8,eg,eo,lg,λb1 H13 e13 s13=>?_⟩
  fail "";cases b1 with
  | false=>
   fail "";exact(k.on s13).f λq=>by cases e13.mpr q.g
  | true=>
  fail "";refine⟨x.n,t,x.t,rfl,n2,n8,et.same s13,lt,λb2 H14 e14 s14=>k b2 H14 ⟨λq=>?_,λq=>e14.mpr q.t⟩ (s13.trans s14)⟩;exact⟨⟨n2,n8,lx,mks,cds,bls⟩,e13.mp rfl,e14.mp q,ie.1,ie.2⟩
abbrev a2f:Stmt:=top 160
theorem a9x:i8 ["orders"] ["orders"] (g6 a2f):=↑1
theorem b0e(D:DefT K mg "_law_told_orders" a2f ["orders"])(T:Txt K mg cl):FnT P w K mg base "_law_told_orders" 1 ["orders"] a2n:=by
 refine D.fn a9x (λvs H Q E h=>?_) ↑4
 ·obtain⟨a,os,rfl,_⟩:=h
  rfl
 ·obtain⟨a,os,rfl,⟨ps,ea,hl,ep⟩,ht,k⟩:=h
  refine⟨_,(d7 (v9 (i6 a0q (j6 (j5 (K:=K)) (by rfl) T.z_len PySem.boot_len (d5 (pv 0) d6)) d9 (i7 _))
     (g0 (j4 i9))
     k7)
   (g0 (j4 (a4c (K:=K) i9 (d5 (a1k (N:=["order"]) (nt:=1) (fr:=[]) rfl (a0w rfl rfl (by decide +kernel) (by decide +kernel) rfl rfl) (a2j (K:=K) (pv 0)) (z9 (by decide)) (λ_ _ _ _ _=>i4 (i:=0) (show(["order"]:List Str).Nodup by decide +kernel) rfl (Or.inl rfl) (Or.inr rfl)) (λ_ _ _ _ _=>(a4c (K:=K) i9 (d5 (a1k (N:=["part"]) (nt:=1) (fr:=[]) rfl (a0w rfl rfl (by decide +kernel) (by decide +kernel) rfl rfl) (a2j (K:=K) (pv 0)) (z9 (by decide)) (λ_ _ _ _ _=>i4 (i:=0) (show(["part"]:List Str).Nodup by decide +kernel) rfl (Or.inl rfl) (Or.inr rfl)) (λ_ _ _ _ _=>(l0 a4g (by rfl) T.z_str PyProof.Rows.boot_str (d5 (pv 0) d6)))) d6)))) d6))))),?_⟩
  have lm:=a3a;have ht1:=ht.1;fail "";rw[List.length_map,hl];refine x8 (λz=>?_) (λz=>?_)
  ·fail ""
   have e:os=[]:=List.length_eq_zero_iff.mp (by have:=V.int.inj z;lia)
   have:=k H (Same.refl H);unfold ordT at this;rw[if_pos e] at this;exact this
  ·have ne:os≠[]:=λq=>z (by rw[q];rfl)
   fail "";refine a5e (SqT.of ea) ?_;refine a2t (xs:=ps.map V.ref) (by rw[List.length_map];lia) (MpP H os (λo=>V.str (c6j o)) (λ_=>True)) (λD hD=>MpP.new hD) (λD i acc H' p=>⟨p.len.1,p.len.2,SqT.of (p.2.1 _ _ ea)⟩) ?_ ?_
   ·intro D i x acc H' hD hx hp
    obtain⟨q,hq,rfl⟩:=b1c hx;have hi:i<os.length:=by rw[<- hl];exact(List.getElem?_eq_some_iff.mp hq).1
    have hoi:=List.getElem?_eq_getElem hi;have go:=ht.2 _ (List.getElem_mem hi);have eq:=hp.2.1 _ _ (ep i q _ hq hoi);fail "";generalize os[i]=o at *;refine a5e (SqT.of eq) ?_;refine a2t (xs:=o.map V.int) (by rw[List.length_map];lia) (MpP H' o (λx=>V.str (b0p x)) (λ_=>True)) (λD hD=>MpP.new hD) (λD i acc H' p=>⟨p.len.1,p.len.2,SqT.of (p.2.1 _ _ eq)⟩) ?_ ?_
    ·intro D i x acc H' hD hx hp
     obtain⟨y,hy,rfl⟩:=b1c hx;fail "";exact⟨y,rfl,a1z (go.2 y (List.mem_of_getElem? hy)),hp.step hD hy trivial rfl (Same.refl _)⟩
    ·intro D2 acc2 H2 hD2 hp2
     obtain⟨e,s',_⟩:=hp2.done (List.length_map _);fail "";have w1:=b2l go.2;refine b1d a5d (ss:=o.map b0p) (e.trans (by rw[List.map_map];rfl)) (by lia) ?_
     exact hp.step hD hoi trivial rfl s'
   ·intro D acc H' hD hp
    obtain⟨e,s',_⟩:=hp.done (by rw[List.length_map];exact hl)
    fail "";have w1:=c4d ht;refine c5d b5l (ss:=os.map c6j) (e.trans (by rw[List.map_map];rfl)) (by lia) ?_
    have:=k H' s';unfold ordT at this;rw[if_neg ne] at this;exact this
def wdT:V->Str
 | .str s=>s
 | .int i=>b0p i
 | _=>"none"
def d1b(v:V):Prop:=(∃s,v=.str s/\s.length<=10)\/(∃i,v=.int i/\i.natAbs<10 ^ 60)\/v=.non
theorem b6a{σ:St}{H:Hp}{w:Str}{te:TE}{a:Addr}{ns:List Int}{Q:VK}(e:H a=some (.tup (ns.map V.int)))(l:ns.length<=1000)(ht:∀(H1:Hp) (R:VK),Same H H1->R (.ref a) H1->te σ H1 R)(q:∀p H',H p=none->Same H H'->H' p=some (.lst (.str w::ns.map V.int))->Q (.ref p) H'):
  [V.str w].length<=sizeLine/\∀p,H p=none->tCB (b6b K) (c6e te c9a) σ (upd H p (.lst [.str w])) λy H2=>d4l (.ref p) y H2 Q:=by
 have lm:=a3a;refine⟨by show 1<=sizeLine;lia,λp hp=>?_⟩
 refine d6l (c8k (ht _ _ (i3 hp) ?_));refine d0h (c5c (i3 hp _ _ e) λr hr=>?_);refine b4d (i3 hr _ _ d8) d8 (by rw[List.length_map];show 1+ns.length<=sizeLine;lia) λz hz=>?_
 exact q z _ (m6 ((i3 hp).trans (i3 hr)) hz) (((i3 hp).trans (i3 hr)).trans (i3 hz)) d8
def c7w(x:Sd):List (List V):=[.str "cells"::x.c.map V.int,[.str "giver",.str x.g.st,x.g.he.v,.int x.g.od,.int x.g.pt],.str "marks"::x.g.ms.map V.int,[.str "taker",.str x.t.st,x.t.he.v,x.t.nf.v,.int x.t.nu,.int x.t.le],.str "marks"::x.t.ms.map V.int,.str "parts"::x.t.pa.map V.int]
theorem c0s{w:Str}{ns:List Int}(lw:w.length<=10)(l:ns.length<=100)(h:c5v ns):(V.str w::ns.map V.int).length<=200/\∀v∈V.str w::ns.map V.int,d1b v:=by
 refine⟨by rw[List.length_cons,List.length_map];lia,λv hv=>?_⟩
 cases hv with
 | head=>exact .inl ⟨w,rfl,lw⟩
 | tail _ hv=>
  obtain⟨i,hi,rfl⟩:=List.mem_map.mp hv;exact .inr (.inl ⟨i,rfl,h i hi⟩)
theorem d3v{he:Hr}(h:d0y he):d1b he.v:=by
 cases he with
 | non=>exact .inr (.inr rfl)
 | int i=>exact .inr (.inl ⟨i,rfl,h⟩)
theorem c9e{x:Sd}(tn:d1c x)(lc:x.c.length<=100):∀row∈c7w x,row.length<=200/\∀v∈row,d1b v:=by
 intro row hr;unfold c7w at hr;simp only[List.mem_cons,List.not_mem_nil,or_false] at hr;rcases hr with rfl|rfl|rfl|rfl|rfl|rfl
 ·exact c0s (by decide) lc tn.c
 ·refine⟨by show 5<=200;decide,λv hv=>?_⟩
  simp only[List.mem_cons,List.not_mem_nil,or_false] at hv;rcases hv with rfl|rfl|rfl|rfl|rfl
  ·exact .inl ⟨_,rfl,by decide⟩
  ·exact .inl ⟨_,rfl,tn.gs⟩
  ·exact d3v tn.gh
  ·exact .inr (.inl ⟨_,rfl,tn.go⟩)
  ·exact .inr (.inl ⟨_,rfl,tn.gp⟩)
 ·exact c0s (by decide) tn.gl tn.gm
 ·refine⟨by show 6<=200;decide,λv hv=>?_⟩
  simp only[List.mem_cons,List.not_mem_nil,or_false] at hv;rcases hv with rfl|rfl|rfl|rfl|rfl|rfl
  ·exact .inl ⟨_,rfl,by decide⟩
  ·exact .inl ⟨_,rfl,tn.ts⟩
  ·exact d3v tn.th
  ·exact d3v tn.tf
  ·exact .inr (.inl ⟨_,rfl,tn.tn⟩)
  ·exact .inr (.inl ⟨_,rfl,tn.te⟩)
 ·exact c0s (by decide) tn.tl tn.tm
 ·exact c0s (by decide) tn.tq tn.tp
theorem c8s{v:V}(h:d1b v):(wdT v).length<=61:=by
 rcases h with ⟨s,rfl,l⟩|⟨i,rfl,l⟩|rfl
 ·show s.length<=61;lia
 ·exact a1y l
 ·decide
theorem c3a:∀{row:List V},(∀v∈row,d1b v)->wt (row.map wdT)<=62*row.length
 | [],_=>by decide
 | v::row,h=>by
  have:=c8s (h v List.mem_cons_self);have:=c3a λu hu=>h u (List.mem_cons_of_mem v hu);rw[List.map_cons,a3h,List.length_cons];lia
theorem d1f{row:List V}(h:row.length<=200/\∀v∈row,d1b v):wt (row.map wdT)<=12400:=by
 have:=c3a h.2;have:=h.1;lia
theorem c6i{x:Sd}(tn:d1c x)(lc:x.c.length<=100):wt (rowsS x)<=60000:=by
 have q1:=tn.gs;have q2:=a4u tn.gh;have q3:=a1y tn.go;have q4:=a1y tn.gp;have q5:=tn.ts;have q6:=a4u tn.th;have q7:=a4u tn.tf;have q8:=a1y tn.tn;have q9:=a1y tn.te;have c0:Str.empty.length=0:=rfl;have c1:("giver ":Str).length=6:=rfl;have c2:("taker ":Str).length=6:=rfl;have c3:(" ":Str).length=1:=rfl;have c4:("orders ":Str).length=7:=rfl;have c5:("book ":Str).length=5:=rfl;have o1:=a8d tn.os tn.ol;have o2:=a8d tn.bk tn.bl;have w1:=a2r (v:="cells") (by decide) lc tn.c
 have w2:=a2r (v:="marks") (by decide) tn.gl tn.gm
 have w3:=a2r (v:="marks") (by decide) tn.tl tn.tm
 have w4:=a2r (v:="parts") (by decide) tn.tq tn.tp
 have w5:(c4z x.g).length<=300:=by
  rw[<- c4y];simp only[Str.length_append];lia
 have w6:(c5y x.t).length<=300:=by
  rw[<- c3d];simp only[Str.length_append];lia
 unfold rowsS;simp only[a3h,c0r,Str.length_append];lia
theorem d3w(he:Hr):wdT he.v=b1z he:=by cases he <;> rfl
theorem c8w(x:Sd):(c7w x).map (λrow=>V.str (Txt.join " " (row.map wdT)))++[V.str (("orders ":Str)++ordT x.os),V.str (("book ":Str)++ordT x.bk)]=(rowsS x).map V.str:=by
 unfold c7w rowsS a5a c4z c5y;simp only[List.map_cons,List.map_nil,List.cons_append,List.nil_append,d3w];rw[List.map_map,List.map_map,List.map_map,List.map_map]
 rfl
def a8k:Sp:=λvs H Q E=>∃(a:Addr)(x:Sd),vs=[.ref a]/\ST H a x/\x.c.length<=100/\d1c x/\∀H',Same H H'->Q (.str (standT x)) H'
abbrev a5p:Stmt:=top 161
theorem y6:i8 ["stand","cells","giver","taker","orders","book","rows","told"] ["stand"] (g6 a5p):=↑1
theorem b4s(D:DefT K mg "_law_written" a5p ["stand"])(T:Txt K mg cl)(G_law_told_orders:FnT P w K mg base "_law_told_orders" 1 ["orders"] a2n):FnT P w K mg base "_law_written" 2 ["stand"] a8k:=by
 refine D.fn y6 (λvs H Q E h=>?_) ↑4
 ·obtain⟨a,x,rfl,_⟩:=h
  rfl
 ·obtain⟨a,x,rfl,st,lc,tn,k⟩:=h
  refine⟨_,(d7 (a1l (pv 0) (a1j (K:=K) rfl (i5 (i4 (i:=1) y6.nd rfl (by first|exact Or.inl rfl|exact Or.inr rfl)) (i5 (i4 (i:=2) y6.nd rfl (by first|exact Or.inl rfl|exact Or.inr rfl)) (i5 (i4 (i:=3) y6.nd rfl (by first|exact Or.inl rfl|exact Or.inr rfl)) (i5 (i4 (i:=4) y6.nd rfl (by first|exact Or.inl rfl|exact Or.inr rfl)) (i5 (i4 (i:=5) y6.nd rfl (by first|exact Or.inl rfl|exact Or.inr rfl)) a1i)))))))
   (d7 (j7 (i:=6) y6.nd rfl (by first|exact Or.inl rfl|exact Or.inr rfl) (l7 (d5 (j3 a4f (l7 (d5 i9 d6)) (l0 (a0d (K:=K)) (by rfl) T.z_list PyProof.Rows.boot_list (d5 (pv 1) d6))) (d5 (l7 (d5 i9 (d5 (x9 (a0v (K:=K)) (pv 2) d9 (λ_ _=>rfl)) (d5 (x9 (a0v (K:=K)) (pv 2) d9 (λ_ _=>rfl)) (d5 (x9 (a0v (K:=K)) (pv 2) d9 (λ_ _=>rfl)) (d5 (x9 (a0v (K:=K)) (pv 2) d9 (λ_ _=>rfl)) d6)))))) (d5 (j3 a4f (l7 (d5 i9 d6)) (l0 (a0d (K:=K)) (by rfl) T.z_list PyProof.Rows.boot_list (d5 (x9 (a0v (K:=K)) (pv 2) d9 (λ_ _=>rfl)) d6))) d6)))))
   (d7 (z8 (a8c (K:=K) (pv 6) (d5 (l7 (d5 i9 (d5 (x9 (a0v (K:=K)) (pv 3) d9 (λ_ _=>rfl)) (d5 (x9 (a0v (K:=K)) (pv 3) d9 (λ_ _=>rfl)) (d5 (x9 (a0v (K:=K)) (pv 3) d9 (λ_ _=>rfl)) (d5 (x9 (a0v (K:=K)) (pv 3) d9 (λ_ _=>rfl)) (d5 (x9 (a0v (K:=K)) (pv 3) d9 (λ_ _=>rfl)) d6))))))) d6)))
   (d7 (j7 (i:=6) y6.nd rfl (by first|exact Or.inl rfl|exact Or.inr rfl) (j3 a4f (pv 6) (l7 (d5 (j3 a4f (l7 (d5 i9 d6)) (l0 (a0d (K:=K)) (by rfl) T.z_list PyProof.Rows.boot_list (d5 (x9 (a0v (K:=K)) (pv 3) d9 (λ_ _=>rfl)) d6))) (d5 (j3 a4f (l7 (d5 i9 d6)) (l0 (a0d (K:=K)) (by rfl) T.z_list PyProof.Rows.boot_list (d5 (x9 (a0v (K:=K)) (pv 3) d9 (λ_ _=>rfl)) d6))) d6)))))
   (d7 (a8a (ix:=7) (N:=["row"]) (nt:=1) (fr:=[]) rfl (a0w rfl rfl (by decide +kernel) (by decide +kernel) rfl rfl) (a5t (K:=K) (pv 6)) (z9 (by decide)) (λ_ _ _ _ _=>i4 (i:=0) (show(["row"]:List Str).Nodup by decide +kernel) rfl (Or.inl rfl) (Or.inr rfl)) (λ_ _ _ _ _=>(a4c (K:=K) i9 (d5 (a1k (N:=["word"]) (nt:=1) (fr:=[]) rfl (a0w rfl rfl (by decide +kernel) (by decide +kernel) rfl rfl) (a5t (K:=K) (pv 0)) (z9 (by decide)) (λ_ _ _ _ _=>i4 (i:=0) (show(["word"]:List Str).Nodup by decide +kernel) rfl (Or.inl rfl) (Or.inr rfl)) (λ_ _ _ _ _=>(a5u (i6 c1e (pv 0) a2z (i7 _)) i9 (l0 c5o (by rfl) T.z_str PyProof.Rows.boot_str (d5 (pv 0) d6))))) d6))) y6.nd rfl rfl)
   (g0 (j4 (a4c (K:=K) i9 (d5 (j3 a4f (pv 7) (l7 (d5 (j3 c4h i9 (l8 G_law_told_orders hr (by decide) rfl j8 (d5 (pv 4) d6))) (d5 (j3 c4h i9 (l8 G_law_told_orders hr (by decide) rfl j8 (d5 (pv 5) d6))) d6)))) d6))))))))),?_⟩
  have lm:=a3a;obtain⟨c,g,t,o,b,ea,ec,⟨gm,eg,egm⟩,⟨tm,tp,et,etm,etp⟩,eo,eb⟩:=st;fail "";refine b0m ea rfl (lit [some (.ref a),some (.ref c),some (.ref g),some (.ref t),some (.ref o),some (.ref b),none,none] (by rfl) ?_)
  fail "";refine b6a ec (by lia) (λH1 R s1 r=>d2q rfl r) λp1 H1 hp1 s1 e1=>?_
  have eg:=s1 _ _ eg;have egm:=s1 _ _ egm;fail "";refine⟨by show 5<=sizeLine;lia,λp2 hp2=>?_⟩
  generalize u2:upd H1 p2 _=H2;obtain⟨s2,e2⟩:=nwS u2 hp2;have eg:=s2 _ _ eg;have egm:=s2 _ _ egm;fail "";refine b6a egm (Nat.le_trans tn.gl (by decide)) (λH3 R s3 r=>?_) λp3 H3 hp3 s3 e3=>?_
  ·have eg:=s3 _ _ eg
   fail "";exact r
  fail "";refine⟨by show 3<=sizeLine;lia,λl4 hl4=>?_⟩
  have e1:=s3 _ _ (s2 _ _ e1);have e2:=s3 _ _ e2;generalize u4:upd H3 l4 _=H4;obtain⟨s4,e4⟩:=nwS u4 hl4;have e13:=e1;have e23:=e2;have e33:=e3;have s03:=(s1.trans s2).trans s3;have etH:=et;have et:=s4 _ _ (s03 _ _ et);clear eg egm u2 u4 e1 e2 e3;refine lit [some (.ref a),some (.ref c),some (.ref g),some (.ref t),some (.ref o),some (.ref b),some (.ref l4),none] (by rfl) ?_
  fail "";refine⟨by show 6<=sizeLine;lia,λp5 hp5=>?_⟩
  have n5:p5≠l4:=(g9 e4 hp5).symm;generalize u5:upd H4 p5 _=H5;obtain⟨s5,e5⟩:=nwS u5 hp5;replace e4:=s5 _ _ e4;have ntl:∀{y:Addr}{o:HO},H3 y=some o->y≠l4:=λe=>g9 e hl4;refine d0h (c7k e4 (by show 3<sizeLine;lia) ?_)
  have e6:upd H5 l4 (.lst ([V.ref p1,.ref p2,.ref p3]++[.ref p5])) l4=_:=d8;have s36:Same H3 (upd H5 l4 (.lst ([V.ref p1,.ref p2,.ref p3]++[.ref p5]))):=b3d (s4.trans s5) hl4;have e56:upd H5 l4 (.lst ([V.ref p1,.ref p2,.ref p3]++[.ref p5])) p5=_:=(f9 n5).trans e5;generalize upd H5 l4 (.lst ([V.ref p1,.ref p2,.ref p3]++[.ref p5]))=H6 at e6 s36 e56 ⊢;clear et e4 e5 u5;have s06:=s03.trans s36;have et:=s06 _ _ etH;have etm:=s06 _ _ etm;have etp:=s06 _ _ etp;have e13:=s36 _ _ e13;have e23:=s36 _ _ e23;have e33:=s36 _ _ e33;clear s36 s4 s5 ntl hl4 hp5 n5;fail "";refine b6a etm (Nat.le_trans tn.tl (by decide)) (λH7 R s7 r=>?_) λp7 H7 hp7 s7 e7=>?_
  ·have et:=s7 _ _ et
   fail "";exact r
  have et:=s7 _ _ et;have etp:=s7 _ _ etp;fail "";refine b6a etp (Nat.le_trans tn.tq (by decide)) (λH8 R s8 r=>?_) λp8 H8 hp8 s8 e8=>?_
  ·have et:=s8 _ _ et
   fail "";exact r
  fail "";refine⟨by show 2<=sizeLine;lia,λl9 hl9=>?_⟩
  have s68:=s7.trans s8;have e7:=s8 _ _ e7;generalize u9:upd H8 l9 _=H9;obtain⟨s9,e9⟩:=nwS u9 hl9;have s69:=s68.trans s9;refine b4d (s69 _ _ e6) e9 (by show 4+2<=sizeLine;lia) λl10 hl10=>?_
  generalize u10:upd H9 l10 _=H10;obtain⟨s10,e10⟩:=nwS u10 hl10;have sA:=s69.trans s10;have hA:∀(i:Nat)(p:Addr)(row:List V),([p1,p2,p3,p5,p7,p8]:List Addr)[i]?=some p->(c7w x)[i]?=some row->H10 p=some (.lst row):=by
   intro i p row hp hr
   match i,hp,hr with
   | 0,hp,hr=>cases hp;cases hr;exact sA _ _ e13
   | 1,hp,hr=>cases hp;cases hr;exact sA _ _ e23
   | 2,hp,hr=>cases hp;cases hr;exact sA _ _ e33
   | 3,hp,hr=>cases hp;cases hr;exact sA _ _ e56
   | 4,hp,hr=>cases hp;cases hr;exact s10 _ _ (s9 _ _ e7)
   | 5,hp,hr=>cases hp;cases hr;exact s10 _ _ (s9 _ _ e8)
   | i+6,hp,_=>cases hp
  have e10:H10 l10=some (.lst (([p1,p2,p3,p5,p7,p8]:List Addr).map V.ref)):=e10;have s0A:=s06.trans sA;have eo:=eo.same s0A;have eb:=eb.same s0A;clear et etm etp e13 e23 e33 e56 e6 e7 e8 e9 u9 u10 sA s9 s10 s69 s68 s06 etH;fail "";refine a2m (xs:=([p1,p2,p3,p5,p7,p8]:List Addr).map V.ref) (by show 6<sizeLine;lia) (MpP H10 (c7w x) (λrow=>V.str (Txt.join " " (row.map wdT))) (λ_=>True)) (λD hD=>MpP.new hD) (λD i acc H' p=>⟨p.len.1,p.len.2,SqL.of (p.2.1 _ _ e10)⟩) ?_ ?_
  ·intro D i v acc H' hD hx hp
   obtain⟨q,hq,rfl⟩:=b1c hx;have hi:i<(c7w x).length:=(List.getElem?_eq_some_iff.mp hq).1;have hoi:=List.getElem?_eq_getElem hi;have eq:=hp.2.1 _ _ (hA i q _ hq hoi);have ok:=c9e tn lc _ (List.getElem_mem hi);generalize (c7w x)[i]=row at *;fail "";refine a2m (xs:=row) (by have:=ok.1;lia) (MpP H' row (λv=>V.str (wdT v)) (λ_=>True)) (λD hD=>MpP.new hD) (λD i acc H' p=>⟨p.len.1,p.len.2,SqL.of (p.2.1 _ _ eq)⟩) ?_ ?_
   ·intro D i v acc H' hD hx hp
    fail "";refine⟨rfl,?_⟩;rcases ok.2 v (List.mem_of_getElem? hx) with ⟨z,rfl,lz⟩|⟨z,rfl,lz⟩|rfl
    ·fail ""
     refine x8 (λy=>(by cases y)) (λ_=>?_)
     fail "";exact .inr ⟨z,rfl,hp.step hD hx trivial rfl (Same.refl _)⟩
    ·fail ""
     refine x8 (λy=>(by cases y)) (λ_=>?_)
     fail "";exact .inl ⟨z,rfl,a1z lz,hp.step hD hx trivial rfl (Same.refl _)⟩
    ·fail ""
     refine x8 (λ_=>?_) (λy=>absurd rfl y);fail "";exact hp.step hD hx trivial rfl (Same.refl _)
   ·intro D2 acc2 H2 hD2 hp2
    obtain⟨e,s',_⟩:=hp2.done rfl;fail "";have w1:=d1f ok;refine b1d a5d (ss:=row.map wdT) (e.trans (by rw[List.map_map];rfl)) (by lia) ?_
    exact hp.step hD hoi trivial rfl s'
  intro D acc H11 hD hp;obtain⟨e11,s11,_⟩:=hp.done rfl;have s11:Same H10 H11:=s11;have eo:=eo.same s11;have eb:=eb.same s11;have o1:=a8d tn.os tn.ol;have o2:=a8d tn.bk tn.bl;fail "";refine⟨o,x.os,rfl,eo,tn.os,λH12 s12=>?_⟩;refine⟨_,_,rfl,rfl,by show 7+_<=sizeLine;lia,?_⟩
  have eb:=eb.same s12;fail "";refine⟨b,x.bk,rfl,eb,tn.bk,λH13 s13=>?_⟩;refine⟨_,_,rfl,rfl,by show 5+_<=sizeLine;lia,?_⟩
  fail "";refine⟨by show 2<=sizeLine;lia,λl14 hl14=>?_⟩
  generalize u14:upd H13 l14 _=H14;obtain⟨s14,e14⟩:=nwS u14 hl14;have sB:=(s12.trans s13).trans s14;refine b4d (sB _ _ e11) e14 (by show 6+2<=sizeLine;lia) λl15 hl15=>?_
  fail "";refine b1d c8c (ss:=rowsS x) (d8.trans (by rw[<- c8w])) (Nat.le_trans (c6i tn lc) (by decide)) ?_
  exact k _ ((s0A.trans s11).trans (sB.trans (i3 hl15)))
theorem d0p{α:Type}(f:α->V)(xs:List α)(i:Nat):b5h (xs.map f) none (some (i:Int))=(xs.take i).map f:=by
 unfold b5h;rw[HT.sIx_nat,HT.sIx_none,List.length_map,List.drop_zero,Nat.sub_zero,List.map_take];by_cases h:i<=xs.length
 ·rw[Nat.min_eq_left h]
 ·rw[Nat.min_eq_right (by lia),List.take_of_length_le (by rw[List.length_map];exact Nat.le_refl _),List.take_of_length_le (by rw[List.length_map];lia)]
theorem d0o{α:Type}(f:α->V)(xs:List α)(i:Nat):b5h (xs.map f) (some (i:Int)) none=(xs.drop i).map f:=by
 unfold b5h;rw[HT.sIx_nat,HT.sIx_none,List.length_map,List.map_drop];by_cases h:i<=xs.length
 ·rw[Nat.min_eq_left h]
  exact List.take_of_length_le (by rw[List.length_drop,List.length_map];lia)
 ·rw[Nat.min_eq_right (by lia),Nat.sub_self,List.take_zero,List.drop_of_length_le (by rw[List.length_map];lia)]
theorem TenB.app{j:Nat}{a b:List Int}(x:TenB j a)(y:TenB j b):TenB j (a++b):=λn h=>(List.mem_append.mp h).elim (x n) (y n)
theorem TenB.take{j i:Nat}{a:List Int}(x:TenB j a):TenB j (a.take i):=λn h=>x n (List.mem_of_mem_take h)
theorem TenB.drop{j i:Nat}{a:List Int}(x:TenB j a):TenB j (a.drop i):=λn h=>x n (List.mem_of_mem_drop h)
theorem TenB.up{j i:Nat}{a:List Int}(x:TenB j a)(h:j<=i):TenB i a:=λn hn=>by have:=x n hn;lia
theorem TenB.one{j:Nat}{v:Int}(h:v.natAbs<10 ^ 59+1+j):TenB j [v]:=λn hn=>by rw[List.mem_singleton] at hn;rw[hn];exact h
theorem TenB.nil{j:Nat}:TenB j []:=λn hn=>by cases hn
theorem b0a(n:Nat)(v:Int):(List.replicate n [V.int v]).flatten=(List.replicate n v).map V.int:=by
 induction n with
 | zero=>rfl
 | succ n ih=>rw[List.replicate_succ,List.replicate_succ,List.flatten_cons,List.map_cons,ih];rfl
theorem TenB.rep{j n:Nat}{v:Int}(h:v.natAbs<10 ^ 59+1+j):TenB j (List.replicate n v):=λm hm=>by rw[(List.mem_replicate.mp hm).2];exact h
theorem Well.noTup{H:Hp}{w a:Addr}{xs:List V}(h:Well H w)(e:H a=some (.tup xs)):a≠w:=by
 rintro rfl;obtain⟨_,_,_,e',_⟩:=h;rw[e] at e';cases e'
theorem c0n{as:List Addr}{r:Int}(h0:0<=r)(h1:r<as.length):∃a∈as,atI (as.map V.ref) r=some (.ref a):=by
 have hl:r.toNat<as.length:=by lia
 refine⟨as[r.toNat],List.getElem_mem hl,?_⟩;unfold atI ixN;rw[if_pos h0,if_pos (by rw[List.length_map];exact h1)]
 show(as.map V.ref)[r.toNat]?=_;rw[List.getElem?_map,List.getElem?_eq_getElem hl]
 rfl
theorem b7d{as:List Int}{r:Int}(h0:0<=r)(h1:r<as.length):∃a∈as,atI (as.map V.int) r=some (.int a):=by
 have hl:r.toNat<as.length:=by lia
 refine⟨as[r.toNat],List.getElem_mem hl,?_⟩;unfold atI ixN;rw[if_pos h0,if_pos (by rw[List.length_map];exact h1)]
 show(as.map V.int)[r.toNat]?=_;rw[List.getElem?_map,List.getElem?_eq_getElem hl]
 rfl
theorem c1p{H:Hp}{Q:VK}{a:Addr}{row:List Int}{i:Nat}(ha:H a=some (.tup (row.map V.int)))(q:∀p H',Same H H'->H' p=some (.tup ((row.take i).map V.int))->Q (.ref p) H'):d1a (.ref a) none (some (i:Int)) H Q:=c0g ha λp H' s e=>q p H' s (by rw[e,d0p])
theorem c1o{H:Hp}{Q:VK}{a:Addr}{row:List Int}{i:Nat}{z:Int}(ha:H a=some (.tup (row.map V.int)))(hz:z=(i:Int))(q:∀p H',Same H H'->H' p=some (.tup ((row.drop i).map V.int))->Q (.ref p) H'):d1a (.ref a) (some z) none H Q:=c0g ha λp H' s e=>q p H' s (by rw[e,hz,d0o])
theorem b1w{H:Hp}{Q:VK}{a b:Addr}{xs ys:List Int}(ha:H a=some (.tup (xs.map V.int)))(hb:H b=some (.tup (ys.map V.int)))(hz:xs.length+ys.length<=2000)(q:∀p H',Same H H'->H' p=some (.tup ((xs++ys).map V.int))->Q (.ref p) H'):c6l K (.ref a) (.ref b) H Q :=
 b9c ha hb (by rw[List.length_map,List.length_map];exact Nat.le_trans hz a2k) λp H' s e=>q p H' s (by rw[e,List.map_append])
def a4w:Sp:=λvs H Q _=>∃(wl a:Addr)(row:List Int)(n j:Nat),vs=[.ref wl,.ref a,.int n]/\Well H wl/\H a=some (.tup (row.map V.int))/\TenB j row/\row.length<=36+4*j/\j<=1/\2<=n/\n<=20 /\
 ∀p row' H',Well H' wl->But wl H H'->H' p=some (.tup ((row':List Int).map V.int))->TenB (j+1) row'->row'.length<=36+4*(j+1)->Q (.ref p) H'
abbrev a2w:Stmt:=top 157
theorem a0n:i8 ["well","cells","size","at","way","new"] ["well","cells","size"] (g6 a2w):=↑1
theorem b0z(D:DefT K mg "_law_bent_cells" a2w ["well","cells","size"])(T:Txt K mg cl)(G_law_take:FnT P w K mg base "_law_take" 1 ["well","many"] a0e):FnT P w K mg base "_law_bent_cells" 2 ["well","cells","size"] a4w:=by
 refine D.fn a0n (λvs H Q E h=>?_) ↑4
 ·obtain⟨wl,a,row,n,j,rfl,_⟩:=h
  rfl
 ·obtain⟨wl,a,row,n,j,rfl,hw,ea,tb,lr,j1,n2,n9,k⟩:=h
  refine⟨_,(d7 (j7 (i:=3) a0n.nd rfl (by first|exact Or.inl rfl|exact Or.inr rfl) (l8 G_law_take hr (by decide) rfl j8 (d5 (pv 0) (d5 (j3 a0k (j6 (j5 (K:=K)) (by rfl) T.z_len PySem.boot_len (d5 (pv 1) d6)) d9) d6))))
   (d7 (j7 (i:=4) a0n.nd rfl (by first|exact Or.inl rfl|exact Or.inr rfl) ↑2)
   (d7 (v9 (i6 a0q (pv 4) d9 (i7 _))
     (g0 (j4 (j3 (a1x (K:=K)) (a0j (a1o) (pv 1) a1d (a0p (pv 3))) (a0j (a1o) (pv 1) (a0p (j3 a0k (pv 3) d9)) a1d))))
     k7)
   (d7 (v9 (i6 a0q (pv 4) d9 (i7 _))
     (g0 (j4 (j3 (a1x (K:=K)) (j3 (a1x (K:=K)) (a0j (a1o) (pv 1) a1d (a0p (pv 3))) (t7 (d5 (j3 a0y ↑2 d9) d6))) (a0j (a1o) (pv 1) (a0p (pv 3)) a1d))))
     k7)
   (d7 (v9 (i6 a0q (pv 4) d9 (i7 _))
     (g0 (j4 (x9 (m3 (K:=K)) (l7 (d5 (a0j (a1o) (pv 1) (a0p d9) a1d) (d5 (j3 (a1x (K:=K)) (a0j (a1o) (pv 1) a1d (a0p d9)) (pv 1)) (d5 (j3 (a1x (K:=K)) (pv 1) (j3 (b3i (K:=K)) (t7 (d5 d9 d6)) d9)) (d5 (t7 d6) d6))))) ↑2 (λ_ _=>rfl))))
     k7)
   (d7 (j7 (i:=3) a0n.nd rfl (by first|exact Or.inl rfl|exact Or.inr rfl) (x9 (m3 (K:=K)) (l7 (d5 (pv 3) (d5 (j3 a0k (j3 y0 d9 (pv 2)) (l8 G_law_take hr (by decide) rfl j8 (d5 (pv 0) (d5 d9 d6)))) (d5 (j3 y0 d9 (l8 G_law_take hr (by decide) rfl j8 (d5 (pv 0) (d5 (pv 2) d6)))) d6)))) (j3 a0y (pv 4) d9) (λ_ _=>rfl)))
   (d7 (j7 (i:=5) a0n.nd rfl (by first|exact Or.inl rfl|exact Or.inr rfl) (x9 (m3 (K:=K)) (l7 (d5 (b9v b2n d9) (d5 d9 (d5 d9 (d5 d9 (d5 d9 (d5 (b9v b2n d9) (d5 (j3 y0 d9 (pv 2)) (d5 (j3 a0y (j3 y0 d9 (pv 2)) d9) (d5 (j3 b8b d9 d9) d6)))))))))) (l8 G_law_take hr (by decide) rfl j8 (d5 (pv 0) (d5 d9 d6))) (λ_ _=>rfl)))
   (g0 (j4 (j3 (a1x (K:=K)) (j3 (a1x (K:=K)) (a0j (a1o) (pv 1) a1d (a0p (pv 3))) (t7 (d5 (pv 5) d6))) (a0j (a1o) (pv 1) (a0p (j3 a0k (pv 3) d9)) a1d))))))))))),?_⟩
  have tb1:=tb.up (Nat.le_succ j);have na:a≠wl:=hw.noTup ea;fail "";rw[List.length_map];refine⟨wl,_,rfl,hw,by lia,by lia,λat_ H1 a1 c1 w1 b1=>?_⟩
  replace ea:=b1 _ _ ea na;fail "";refine⟨wl,6,rfl,w1,by decide,by decide,λway H2 a2 c2 w2 b2=>?_⟩
  replace ea:=b2 _ _ ea na;have b02:=b1.trans b2;obtain⟨i,rfl⟩:∃i:Nat,at_=i:=⟨at_.toNat,by lia⟩
  clear b1 b2 w1 hw;refine a2a ?_;refine lit [some (.ref wl),some (.ref a),some (.int n),some (.int i),some (.int way),none] (by rfl) ?_
  fail "";rw[t5];refine x8 (λz=>?_) (λz=>?_)
  ·fail ""
   refine⟨_,rfl,?_⟩;refine c1p ea λp1 H3 s3 e3=>?_;replace ea:=s3 _ _ ea;fail "";refine⟨_,rfl,?_⟩;fail "";refine c1o (i:=i+1) (z:=(i:Int)+1) ea (by lia) λp2 H4 s4 e4=>?_
   refine b1w (s4 _ _ e3) e4 (by rw[List.length_take,List.length_drop];lia) λp3 H5 s5 e5=>?_
   have s25:=(s3.trans s4).trans s5;exact k p3 _ _ (w2.same s25) (b02.trans (But.of s25)) e5 (tb1.take.app tb1.drop) (by rw[List.length_append,List.length_take,List.length_drop];lia)
  fail "";rw[t5];refine x8 (λz=>?_) (λz=>?_)
  ·fail ""
   refine⟨_,rfl,?_⟩;refine c1p ea λp1 H3 s3 e3=>?_;replace ea:=s3 _ _ ea;replace w2:=w2.same s3;replace b02:=b02.trans (But.of (w:=wl) s3);have n1:=w2.noTup e3;fail "";refine⟨wl,5,rfl,w2,by decide,by decide,λr H4 a4 c4 w4 b4=>?_⟩
   replace ea:=b4 _ _ ea na;replace e3:=b4 _ _ e3 n1;replace b02:=b02.trans b4;fail "";refine⟨by show 1<=sizeLine;decide,λp2 hp2=>?_⟩
   generalize u5:upd H4 p2 _=H5;obtain⟨s5,e5⟩:=nwS u5 hp2;refine b1w (ys:=[r-1]) (s5 _ _ e3) e5 (by rw[List.length_take];show _+1<=_;lia) λp3 H6 s6 e6=>?_
   replace ea:=s6 _ _ (s5 _ _ ea);fail "";refine⟨_,rfl,?_⟩;fail "";refine c1o (i:=i) (z:=(i:Int)) ea rfl λp4 H7 s7 e7=>?_;refine b1w (s7 _ _ e6) e7 (by rw[List.length_append,List.length_take,List.length_drop];show _+1+_<=_;lia) λp5 H8 s8 e8=>?_
   have s48:=((s5.trans s6).trans s7).trans s8;refine k p5 _ _ (w4.same s48) (b02.trans (But.of s48)) e8 ((tb1.take.app (TenB.one (by lia))).app tb1.drop) ?_
   rw[List.length_append,List.length_append,List.length_take,List.length_drop];show _+1+_<=_;lia
  fail "";rw[t5];refine x8 (λz=>?_) (λz=>?_)
  ·fail ""
   refine⟨_,rfl,?_⟩;fail "";refine c1o (i:=4) (z:=4) ea rfl λq0 H3 s3 f0=>?_;replace ea:=s3 _ _ ea;replace w2:=w2.same s3;replace b02:=b02.trans (But.of (w:=wl) s3);clear s3;fail "";refine⟨_,rfl,?_⟩;refine c1p (i:=4) ea λq1 H4 s4 f1=>?_;replace ea:=s4 _ _ ea;replace f0:=s4 _ _ f0;replace w2:=w2.same s4;replace b02:=b02.trans (But.of (w:=wl) s4);clear s4;fail "";refine b1w f1 ea (by rw[List.length_take];lia) λq2 H5 s5 f2=>?_
   replace ea:=s5 _ _ ea;replace f0:=s5 _ _ f0;replace w2:=w2.same s5;replace b02:=b02.trans (But.of (w:=wl) s5);clear s5 f1;fail "";refine⟨by show 1<=sizeLine;decide,λq3 hq3=>?_⟩
   generalize u6:upd H5 q3 _=H6;obtain⟨s6,f3⟩:=nwS u6 hq3;replace ea:=s6 _ _ ea;replace f0:=s6 _ _ f0;replace f2:=s6 _ _ f2;replace w2:=w2.same s6;replace b02:=b02.trans (But.of (w:=wl) s6);clear u6 s6;fail "";refine b9a (k:=4) f3 (λz=>by cases z) (by decide) (by decide) (by show 1*4<=sizeLine;decide) λq4 H7 s7 f4=>?_
   rw[b0a] at f4;replace ea:=s7 _ _ ea;replace f0:=s7 _ _ f0;replace f2:=s7 _ _ f2;replace w2:=w2.same s7;replace b02:=b02.trans (But.of (w:=wl) s7);clear s7;refine b1w ea f4 (by rw[List.length_replicate];show _+4<=_;lia) λq5 H8 s8 f5=>?_
   replace f0:=s8 _ _ f0;replace f2:=s8 _ _ f2;replace w2:=w2.same s8;replace b02:=b02.trans (But.of (w:=wl) s8);clear s8 f4;fail "";refine⟨Nat.zero_le _,λq6 hq6=>?_⟩;generalize u9:upd H8 q6 _=H9;obtain⟨s9,f6⟩:=nwS u9 hq6;replace f0:=s9 _ _ f0;replace f2:=s9 _ _ f2;replace f5:=s9 _ _ f5;replace w2:=w2.same s9;replace b02:=b02.trans (But.of (w:=wl) s9);clear u9 s9;fail "";refine⟨by show 4<=sizeLine;decide,λq7 hq7=>?_⟩
   have n7:=w2.ne hq7;generalize u10:upd H9 q7 _=H10;obtain⟨s10,f7⟩:=nwS u10 hq7;have hall:∀q∈[q0,q2,q5,q6],∃row':List Int,H10 q=some (.tup (row'.map V.int))/\TenB (j+1) row'/\row'.length<=36+4*(j+1):=by
    intro q hq;simp only[List.mem_cons,List.not_mem_nil,or_false] at hq;rcases hq with rfl|rfl|rfl|rfl
    ·exact⟨_,s10 _ _ f0,tb1.drop,by rw[List.length_drop];lia⟩
    ·exact⟨_,s10 _ _ f2,tb1.take.app tb1,by rw[List.length_append,List.length_take];lia⟩
    ·exact⟨_,s10 _ _ f5,tb1.app (TenB.rep (by show 0<_;lia)),by rw[List.length_append,List.length_replicate];show _+4<=_;lia⟩
    ·exact⟨[],s10 _ _ f6,TenB.nil,Nat.zero_le _⟩
   replace w2:=w2.same s10;replace b02:=b02.trans (But.of (w:=wl) s10);clear u10 s10 f0 f2 f5 f6;fail "";refine⟨wl,4,rfl,w2,by decide,by decide,λr H11 a11 c11 w11 b11=>?_⟩
   obtain⟨q,hq,g4⟩:=c0n (as:=[q0,q2,q5,q6]) a11 c11;obtain⟨row',e',t',l'⟩:=hall q hq;refine a3w (b11 _ _ f7 n7) g4 ?_;exact k q row' _ w11 (b02.trans b11) (b11 _ _ e' (w2.noTup e')) t' l'
  fail "";refine⟨wl,4,rfl,w2,by decide,by decide,λr1 H3 a3 c3 w3 b3=>?_⟩
  replace ea:=b3 _ _ ea na;replace b02:=b02.trans b3;clear b3 w2;fail "";refine⟨wl,n,rfl,w3,by lia,by lia,λr2 H4 a4 c4 w4 b4=>?_⟩
  replace ea:=b4 _ _ ea na;replace b02:=b02.trans b4;clear b4 w3;fail "";refine⟨by show 3<=sizeLine;decide,λl hl=>?_⟩
  generalize u5:upd H4 l _=H5;obtain⟨s5,f5⟩:=nwS u5 hl;replace ea:=s5 _ _ ea;replace w4:=w4.same s5;replace b02:=b02.trans (But.of (w:=wl) s5);clear u5 s5;fail "";obtain⟨at1,hat,g1⟩:=b7d (as:=[(i:Int),4*(n:Int)+r1,4*r2]) (r:=way-3) (by lia) (by show _<(3:Int);lia)
  refine a3w f5 g1 ?_;obtain⟨m,rfl⟩:∃m:Nat,at1=m:=by
   refine⟨at1.toNat,?_⟩;simp only[List.mem_cons,List.not_mem_nil,or_false] at hat;lia
  clear f5 g1 hat;refine a2a ?_;refine lit [some (.ref wl),some (.ref a),some (.int n),some (.int m),some (.int way),none] (by rfl) ?_
  fail "";refine⟨by show 9<=sizeLine;decide,λl2 hl2=>?_⟩
  have nl2:=w4.ne hl2;generalize u6:upd H5 l2 _=H6;obtain⟨s6,f6⟩:=nwS u6 hl2;replace ea:=s6 _ _ ea;replace w4:=w4.same s6;replace b02:=b02.trans (But.of (w:=wl) s6);clear u6 s6;fail "";refine⟨wl,9,rfl,w4,by decide,by decide,λr7 H7 a7 c7 w7 b7=>?_⟩
  obtain⟨v,hv,g7⟩:=b7d (as:=[-1,0,1,2,4,-2,2*(n:Int),2*(n:Int)-1,10 ^ Int.toNat 59]) a7 c7;refine a3w (b7 _ _ f6 nl2) g7 ?_;replace ea:=b7 _ _ ea na;replace b02:=b02.trans b7;have tv:v.natAbs<10 ^ 59+1+(j+1):=by
   simp only[List.mem_cons,List.not_mem_nil,or_false] at hv;rw[show Int.toNat 59=59 from rfl] at hv;lia
  clear b7 w4 f6 g7 hv;refine a2a ?_;refine lit [some (.ref wl),some (.ref a),some (.int n),some (.int m),some (.int way),some (.int v)] (by rfl) ?_
  fail "";refine⟨_,rfl,?_⟩;refine c1p ea λp1 H8 s8 e8=>?_;replace ea:=s8 _ _ ea;replace w7:=w7.same s8;replace b02:=b02.trans (But.of (w:=wl) s8);fail "";refine⟨by show 1<=sizeLine;decide,λp2 hp2=>?_⟩
  generalize u9:upd H8 p2 _=H9;obtain⟨s9,e9⟩:=nwS u9 hp2;refine b1w (ys:=[v]) (s9 _ _ e8) e9 (by rw[List.length_take];show _+1<=_;lia) λp3 H10 s10 e10=>?_
  replace ea:=s10 _ _ (s9 _ _ ea);fail "";refine⟨_,rfl,?_⟩;fail "";refine c1o (i:=m+1) (z:=(m:Int)+1) ea (by lia) λp4 H11 s11 e11=>?_
  refine b1w (s11 _ _ e10) e11 (by rw[List.length_append,List.length_take,List.length_drop];show _+1+_<=_;lia) λp5 H12 s12 e12=>?_
  have s48:=((s9.trans s10).trans s11).trans s12;refine k p5 _ _ (w7.same s48) (b02.trans (But.of s48)) e12 ((tb1.take.app (TenB.one tv)).app tb1.drop) ?_;rw[List.length_append,List.length_append,List.length_take,List.length_drop];show _+1+_<=_;lia
def Tp(H H':Hp):Prop:=∀a xs,H a=some (.tup xs)->H' a=some (.tup xs)
theorem Tp.but{H H':Hp}{wl:Addr}(h:Well H wl)(b:But wl H H'):Tp H H':=λa xs e=>b _ _ e (h.noTup e)
theorem Tp.same{H H':Hp}(s:Same H H'):Tp H H':=λa xs e=>s _ _ e
theorem TTs.tp{H H':Hp}{a:Addr}{os:List (List Int)}(h:TTs H a os)(s:Tp H H'):TTs H' a os:=by
 obtain⟨ps,e,l,r⟩:=h;exact⟨ps,s _ _ e,l,λi p o hi ho=>s _ _ (r i p o hi ho)⟩
theorem GT.tp{H H':Hp}{a:Addr}{g:GSd}(h:GT H a g)(s:Tp H H'):GT H' a g:=by
 obtain⟨m,e,e1⟩:=h;exact⟨m,s _ _ e,s _ _ e1⟩
theorem TT.tp{H H':Hp}{a:Addr}{t:TSd}(h:TT H a t)(s:Tp H H'):TT H' a t:=by
 obtain⟨m,p,e,e1,e2⟩:=h;exact⟨m,p,s _ _ e,s _ _ e1,s _ _ e2⟩
theorem ST.tp{H H':Hp}{a:Addr}{x:Sd}(h:ST H a x)(s:Tp H H'):ST H' a x:=by
 obtain⟨c,g,t,o,b,e,e1,e2,e3,e4,e5⟩:=h;exact⟨c,g,t,o,b,s _ _ e,s _ _ e1,e2.tp s,e3.tp s,e4.tp s,e5.tp s⟩
theorem c5f{H:Hp}{Q:VK}{a:Addr}{os:List (List Int)}{i:Nat}(ha:TTs H a os)(q:∀p H',Same H H'->TTs H' p (os.take i)->Q (.ref p) H'):d1a (.ref a) none (some (i:Int)) H Q:=by
 obtain⟨ps,e,l,r⟩:=ha;refine c0g e λp H' s e'=>q p H' s ⟨ps.take i,by rw[e',d0p],by rw[List.length_take,List.length_take,l],λk x o hx ho=>?_⟩
 have hk:k<i:=by
  by_cases z:k<i
  ·exact z
  ·rw[List.getElem?_eq_none (by rw[List.length_take];lia)] at hx;cases hx
 rw[List.getElem?_take_of_lt hk] at hx ho;exact s _ _ (r k x o hx ho)
theorem c5e{H:Hp}{Q:VK}{a:Addr}{os:List (List Int)}{i:Nat}{z:Int}(ha:TTs H a os)(hz:z=(i:Int))(q:∀p H',Same H H'->TTs H' p (os.drop i)->Q (.ref p) H'):d1a (.ref a) (some z) none H Q:=by
 obtain⟨ps,e,l,r⟩:=ha;refine c0g e λp H' s e'=>q p H' s ⟨ps.drop i,by rw[e',hz,d0o],by rw[List.length_drop,List.length_drop,l],λk x o hx ho=>?_⟩
 rw[List.getElem?_drop] at hx ho;exact s _ _ (r (i+k) x o hx ho)
theorem c5g{H:Hp}{Q:VK}{a b:Addr}{xs ys:List (List Int)}(ha:TTs H a xs)(hb:TTs H b ys)(hz:xs.length+ys.length<=2000)(q:∀p H',Same H H'->TTs H' p (xs++ys)->Q (.ref p) H'):c6l K (.ref a) (.ref b) H Q:=by
 obtain⟨ps,e,l,r⟩:=ha;obtain⟨ps',e',l',r'⟩:=hb;refine b9c e e' (by rw[List.length_map,List.length_map,l,l'];exact Nat.le_trans hz a2k) λp H' s e2=>q p H' s ⟨ps++ps',by rw[e2,List.map_append],by rw[List.length_append,List.length_append,l,l'],λk x o hx ho=>?_⟩
 by_cases z:k<ps.length
 ·rw[List.getElem?_append_left z] at hx
  rw[List.getElem?_append_left (by lia)] at ho
  exact s _ _ (r k x o hx ho)
 ·rw[List.getElem?_append_right (by lia)] at hx
  rw[List.getElem?_append_right (by lia),<- l] at ho
  exact s _ _ (r' _ x o hx ho)
theorem TTs.one{H:Hp}{a p:Addr}{o:List Int}(e:H a=some (.tup [.ref p]))(e':H p=some (.tup (o.map V.int))):TTs H a [o]:=by
 refine⟨[p],e,rfl,λi x y hx hy=>?_⟩
 match i with
 | 0=>cases hx;cases hy;exact e'
 | i+1=>cases hx
theorem OrdB.up{j i:Nat}{os:List (List Int)}(x:OrdB j os)(h:j<=i):OrdB i os:=λo ho=>(x o ho).up h
theorem OrdB.app{j:Nat}{a b:List (List Int)}(x:OrdB j a)(y:OrdB j b):OrdB j (a++b):=λn h=>(List.mem_append.mp h).elim (x n) (y n)
theorem OrdB.take{j i:Nat}{a:List (List Int)}(x:OrdB j a):OrdB j (a.take i):=λn h=>x n (List.mem_of_mem_take h)
theorem OrdB.drop{j i:Nat}{a:List (List Int)}(x:OrdB j a):OrdB j (a.drop i):=λn h=>x n (List.mem_of_mem_drop h)
theorem OrdB.one{j:Nat}{o:List Int}(h:TenB j o):OrdB j [o]:=λn hn=>by rw[List.mem_singleton] at hn;rw[hn];exact h
theorem c8v{H:Hp}{a:Addr}{os:List (List Int)}(h:TTs H a os):∃xs:List V,H a=some (.tup xs)/\xs.length=os.length:=by
 obtain⟨ps,e,l,_⟩:=h;exact⟨_,e,by rw[List.length_map];exact l⟩
def a3y:Sp:=λvs H Q _=>∃(wl a:Addr)(os:List (List Int))(n j:Nat),vs=[.ref wl,.ref a,.int n]/\Well H wl/\TTs H a os/\OrdB j os/\os.length<=5+j/\j<=1/\2<=n/\n<=20 /\
 ∀p os' H',Well H' wl->But wl H H'->TTs H' p os'->OrdB (j+1) os'->os'.length<=5+(j+1)->Q (.ref p) H'
abbrev a2g:Stmt:=top 158
theorem a1q:i8 ["well","orders","size","at","way"] ["well","orders","size"] (g6 a2g):=↑1
theorem b0f(D:DefT K mg "_law_bent_orders" a2g ["well","orders","size"])(T:Txt K mg cl)(G_law_take:FnT P w K mg base "_law_take" 1 ["well","many"] a0e):FnT P w K mg base "_law_bent_orders" 2 ["well","orders","size"] a3y:=by
 refine D.fn a1q (λvs H Q E h=>?_) ↑4
 ·obtain⟨wl,a,os,n,j,rfl,_⟩:=h
  rfl
 ·obtain⟨wl,a,os,n,j,rfl,hw,ea,tb,lr,j1,n2,n9,k⟩:=h
  refine⟨_,(d7 (j7 (i:=3) a1q.nd rfl (by first|exact Or.inl rfl|exact Or.inr rfl) (l8 G_law_take hr (by decide) rfl j8 (d5 (pv 0) (d5 (j3 a0k (j6 (j5 (K:=K)) (by rfl) T.z_len PySem.boot_len (d5 (pv 1) d6)) d9) d6))))
   (d7 (j7 (i:=4) a1q.nd rfl (by first|exact Or.inl rfl|exact Or.inr rfl) ↑2)
   (d7 (v9 (i6 a0q (pv 4) d9 (i7 _))
     (g0 (j4 (j3 (a1x (K:=K)) (a0j (a1o) (pv 1) a1d (a0p (pv 3))) (a0j (a1o) (pv 1) (a0p (j3 a0k (pv 3) d9)) a1d))))
     k7)
   (g0 (j4 (j3 (a1x (K:=K)) (j3 (a1x (K:=K)) (a0j (a1o) (pv 1) a1d (a0p (pv 3))) (x9 (m3 (K:=K)) (l7 (d5 (t7 (d5 (t7 d6) d6)) (d5 (t7 (d5 (j3 (b3i (K:=K)) (t7 (d5 d9 d6)) (j3 a0k (pv 2) d9)) d6)) (d5 (t7 (d5 (j3 (b3i (K:=K)) (t7 (d5 d9 d6)) (pv 2)) d6)) d6)))) (j3 a0y (pv 4) d9) (λ_ _=>rfl))) (a0j (a1o) (pv 1) (a0p (j3 a0k (pv 3) ↑2)) a1d))))))),?_⟩
  have tb1:=tb.up (Nat.le_succ j);obtain⟨xs,ex,lx⟩:=c8v ea;fail "";rw[lx];refine⟨wl,_,rfl,hw,by lia,by lia,λat_ H1 a1 c1 w1 b1=>?_⟩
  replace ea:=ea.tp (.but hw b1);fail "";refine⟨wl,4,rfl,w1,by decide,by decide,λway H2 a2 c2 w2 b2=>?_⟩
  replace ea:=ea.tp (.but w1 b2);have b02:=b1.trans b2;obtain⟨i,rfl⟩:∃i:Nat,at_=i:=⟨at_.toNat,by lia⟩
  clear b1 b2 w1 hw ex;refine a2a ?_;refine lit [some (.ref wl),some (.ref a),some (.int n),some (.int i),some (.int way)] (by rfl) ?_
  fail "";rw[t5];refine x8 (λz=>?_) (λz=>?_)
  ·fail ""
   refine⟨_,rfl,?_⟩;refine c5f ea λp1 H3 s3 e3=>?_;replace ea:=ea.same s3;fail "";refine⟨_,rfl,?_⟩;fail "";refine c5e (i:=i+1) (z:=(i:Int)+1) ea (by lia) λp2 H4 s4 e4=>?_
   refine c5g (e3.same s4) e4 (by rw[List.length_take,List.length_drop];lia) λp3 H5 s5 e5=>?_
   have s25:=(s3.trans s4).trans s5;exact k p3 _ _ (w2.same s25) (b02.trans (But.of s25)) e5 (tb1.take.app tb1.drop) (by rw[List.length_append,List.length_take,List.length_drop];lia)
  fail "";refine⟨_,rfl,?_⟩;refine c5f ea λp1 H3 s3 e3=>?_;replace ea:=ea.same s3;replace w2:=w2.same s3;replace b02:=b02.trans (But.of (w:=wl) s3);clear s3;fail "";refine⟨Nat.zero_le _,λq0 hq0=>?_⟩;generalize u4:upd H3 q0 _=H4;obtain⟨s4,f0⟩:=nwS u4 hq0;replace ea:=ea.same s4;replace e3:=e3.same s4;replace w2:=w2.same s4;replace b02:=b02.trans (But.of (w:=wl) s4);clear u4 s4;fail "";refine⟨by show 1<=sizeLine;decide,λq1 hq1=>?_⟩
  generalize u5:upd H4 q1 _=H5;obtain⟨s5,f1⟩:=nwS u5 hq1;have x1:TTs H5 q1 [[]]:=TTs.one f1 (s5 _ _ f0);replace ea:=ea.same s5;replace e3:=e3.same s5;replace w2:=w2.same s5;replace b02:=b02.trans (But.of (w:=wl) s5);clear u5 s5 f0 f1;fail "";refine⟨by show 1<=sizeLine;decide,λq2 hq2=>?_⟩
  generalize u6:upd H5 q2 _=H6;obtain⟨s6,f2⟩:=nwS u6 hq2;replace x1:=x1.same s6;replace ea:=ea.same s6;replace e3:=e3.same s6;replace w2:=w2.same s6;replace b02:=b02.trans (But.of (w:=wl) s6);clear u6 s6;fail "";refine b9a f2 (λz=>by cases z) (by lia) (by lia) (by have:=a2k;show 1*_<=sizeLine;lia) λq3 H7 s7 f3=>?_
  rw[b0a] at f3;replace x1:=x1.same s7;replace ea:=ea.same s7;replace e3:=e3.same s7;replace w2:=w2.same s7;replace b02:=b02.trans (But.of (w:=wl) s7);clear s7 f2;fail "";refine⟨by show 1<=sizeLine;decide,λq4 hq4=>?_⟩
  generalize u8:upd H7 q4 _=H8;obtain⟨s8,f4⟩:=nwS u8 hq4;have x2:TTs H8 q4 [_]:=TTs.one f4 (s8 _ _ f3);replace x1:=x1.same s8;replace ea:=ea.same s8;replace e3:=e3.same s8;replace w2:=w2.same s8;replace b02:=b02.trans (But.of (w:=wl) s8);clear u8 s8 f3 f4;fail "";refine⟨by show 1<=sizeLine;decide,λq5 hq5=>?_⟩
  generalize u9:upd H8 q5 _=H9;obtain⟨s9,f5⟩:=nwS u9 hq5;replace x1:=x1.same s9;replace x2:=x2.same s9;replace ea:=ea.same s9;replace e3:=e3.same s9;replace w2:=w2.same s9;replace b02:=b02.trans (But.of (w:=wl) s9);clear u9 s9;fail "";refine b9a f5 (λz=>by cases z) (by lia) (by lia) (by have:=a2k;show 1*_<=sizeLine;lia) λq6 H10 s10 f6=>?_
  rw[b0a] at f6;replace x1:=x1.same s10;replace x2:=x2.same s10;replace ea:=ea.same s10;replace e3:=e3.same s10;replace w2:=w2.same s10;replace b02:=b02.trans (But.of (w:=wl) s10);clear s10 f5;fail "";refine⟨by show 1<=sizeLine;decide,λq7 hq7=>?_⟩
  generalize u11:upd H10 q7 _=H11;obtain⟨s11,f7⟩:=nwS u11 hq7;have x3:TTs H11 q7 [_]:=TTs.one f7 (s11 _ _ f6);replace x1:=x1.same s11;replace x2:=x2.same s11;replace ea:=ea.same s11;replace e3:=e3.same s11;replace w2:=w2.same s11;replace b02:=b02.trans (But.of (w:=wl) s11);clear u11 s11 f6 f7;fail "";refine⟨by show 3<=sizeLine;decide,λq8 hq8=>?_⟩
  generalize u12:upd H11 q8 _=H12;obtain⟨s12,f8⟩:=nwS u12 hq8;have hall:∀q∈[q1,q4,q7],∃o:List Int,TTs H12 q [o]/\TenB (j+1) o:=by
   intro q hq;simp only[List.mem_cons,List.not_mem_nil,or_false] at hq;rcases hq with rfl|rfl|rfl
   ·exact⟨_,x1.same s12,TenB.nil⟩
   ·exact⟨_,x2.same s12,TenB.rep (by show 7<_;lia)⟩
   ·exact⟨_,x3.same s12,TenB.rep (by show 1<_;lia)⟩
  replace ea:=ea.same s12;replace e3:=e3.same s12;replace w2:=w2.same s12;replace b02:=b02.trans (But.of (w:=wl) s12);clear u12 s12 x1 x2 x3;fail "";obtain⟨q,hq,g1⟩:=c0n (as:=[q1,q4,q7]) (r:=way-1) (by lia) (by show _<(3:Int);lia)
  obtain⟨o,eo,to⟩:=hall q hq;refine a3w f8 g1 ?_;refine c5g e3 eo (by rw[List.length_take];show _+1<=_;lia) λp3 H13 s13 e13=>?_
  replace ea:=ea.same s13;replace w2:=w2.same s13;replace b02:=b02.trans (But.of (w:=wl) s13);fail "";refine⟨wl,2,rfl,w2,by decide,by decide,λr H14 a14 c14 w14 b14=>?_⟩
  replace ea:=ea.tp (.but w2 b14);replace e13:=e13.tp (.but w2 b14);replace b02:=b02.trans b14;fail "";refine⟨_,rfl,?_⟩;fail "";refine c5e (i:=i+r.toNat) (z:=(i:Int)+r) ea (by lia) λp4 H15 s15 e15=>?_
  refine c5g (e13.same s15) e15 (by rw[List.length_append,List.length_take,List.length_drop];show _+1+_<=_;lia) λp5 H16 s16 e16=>?_
  have s48:=s15.trans s16;refine k p5 _ _ (w14.same s48) (b02.trans (But.of s48)) e16 ((tb1.take.app (OrdB.one to)).app tb1.drop) ?_;rw[List.length_append,List.length_append,List.length_take,List.length_drop];show _+1+_<=_;lia
inductive Sl where
 | st (s:Str)
 | hr (h:Hr)
 | tp (ns:List Int)
 | it (i:Int)
def Sl.kd:Sl->Nat|.st _=>0|.hr _=>1|.tp _=>2|.it _=>3
def SlV(H:Hp)(v:V):Sl->Prop
 | .st s=>v=.str s
 | .hr h=>v=h.v
 | .tp ns=>∃m,v=.ref m/\H m=some (.tup (ns.map V.int))
 | .it i=>v=.int i
def SlB(j:Nat):Sl->Prop
 | .st s=>s.length<=10
 | .hr h=>HTenB j h
 | .tp ns=>TenB j ns/\ns.length<=20+j
 | .it i=>i.natAbs<10 ^ 59+1+j
theorem SlB.up{j i:Nat}{y:Sl}(h:SlB j y)(l:j<=i):SlB i y:=by
 cases y with
 | st s=>exact h
 | hr u=>
  cases u with
  | non=>exact h
  | int v=>have h:v.natAbs<10 ^ 59+1+j:=h;show v.natAbs<10 ^ 59+1+i;lia
 | tp ns=>exact⟨h.1.up l,Nat.le_trans h.2 (by lia)⟩
 | it v=>have h:v.natAbs<10 ^ 59+1+j:=h;show v.natAbs<10 ^ 59+1+i;lia
theorem SlV.tp'{H H':Hp}{v:V}{y:Sl}(h:SlV H v y)(s:Tp H H'):SlV H' v y:=by
 cases y with
 | tp ns=>obtain⟨m,e,e'⟩:=h;exact⟨m,e,s _ _ e'⟩
 | st s=>exact h
 | hr u=>exact h
 | it v=>exact h
inductive MV(H:Hp):List V->List Sl->Prop
 | nil:MV H [] []
 | cons {v:V} {y:Sl} {vs:List V} {ys:List Sl} (a:SlV H v y) (b:MV H vs ys):MV H (v::vs) (y::ys)
theorem MV.len{H:Hp}{vs:List V}{ys:List Sl}(h:MV H vs ys):vs.length=ys.length:=by
 induction h with
 | nil=>rfl
 | cons a b ih=>rw[List.length_cons,List.length_cons,ih]
theorem MV.tp{H H':Hp}{vs:List V}{ys:List Sl}(h:MV H vs ys)(s:Tp H H'):MV H' vs ys:=by
 induction h with
 | nil=>exact .nil
 | cons a b ih=>exact .cons (a.tp' s) ih
theorem MV.app{H:Hp}{vs us:List V}{ys zs:List Sl}(h:MV H vs ys)(h':MV H us zs):MV H (vs++us) (ys++zs):=by
 induction h with
 | nil=>exact h'
 | cons a b ih=>exact .cons a ih
theorem MV.take{H:Hp}{vs:List V}{ys:List Sl}(h:MV H vs ys):∀i,MV H (vs.take i) (ys.take i):=by
 induction h with
 | nil=>intro i;rw[List.take_nil,List.take_nil];exact .nil
 | cons a b ih=>
  intro i;cases i with
  | zero=>exact .nil
  | succ i=>exact .cons a (ih i)
theorem MV.drop{H:Hp}{vs:List V}{ys:List Sl}(h:MV H vs ys):∀i,MV H (vs.drop i) (ys.drop i):=by
 induction h with
 | nil=>intro i;rw[List.drop_nil,List.drop_nil];exact .nil
 | cons a b ih=>
  intro i;cases i with
  | zero=>exact .cons a b
  | succ i=>exact ih i
theorem MV.get{H:Hp}{vs:List V}{ys:List Sl}(h:MV H vs ys):∀i,i<ys.length->∃v y,vs[i]?=some v/\ys[i]?=some y/\SlV H v y:=by
 induction h with
 | nil=>intro i hi;cases hi
 | cons a b ih=>
  intro i hi;cases i with
  | zero=>exact⟨_,_,rfl,rfl,a⟩
  | succ i=>exact ih i (Nat.lt_of_succ_lt_succ hi)
def KOk(ys:List Sl):Prop:=ys.map Sl.kd=[0,1,2,3,3]\/ys.map Sl.kd=[0,1,2,1,3,3,2]
theorem d5r(xs:List V)(i:Nat):b5h xs none (some (i:Int))=xs.take i:=by
 have:=d0p id xs i
 rwa [List.map_id,List.map_id] at this
theorem d5q(xs:List V)(i:Nat):b5h xs (some (i:Int)) none=xs.drop i:=by
 have:=d0o id xs i
 rwa [List.map_id,List.map_id] at this
theorem c9v{ys:List Sl}{i:Nat}{y y':Sl}(h:KOk ys)(e:ys[i]?=some y)(k:y'.kd=y.kd):KOk (ys.take i++[y']++ys.drop (i+1)):=by
 have hi:i<ys.length:=(List.getElem?_eq_some_iff.mp e).1;have e2:(ys.take i++[y']++ys.drop (i+1)).map Sl.kd=ys.map Sl.kd:=by
  have e3:ys=ys.take i++[y]++ys.drop (i+1):=by
   have:=List.drop_eq_getElem_cons hi;rw[show ys[i]=y from(List.getElem?_eq_some_iff.mp e).2] at this;rw[List.append_assoc,List.singleton_append,<- this,List.take_append_drop]
  have e4:=congrArg (List.map Sl.kd) e3;rw[e4,List.map_append,List.map_append,List.map_append,List.map_append];show _++[y'.kd]++_=_++[y.kd]++_;rw[k]
 unfold KOk;rw[e2];exact h
theorem c9c{ys:List Sl}{i j:Nat}{y':Sl}(h:∀y∈ys,SlB j y)(k:SlB (j+1) y'):∀y∈ys.take i++[y']++ys.drop (i+1),SlB (j+1) y:=by
 intro y hy;rcases List.mem_append.mp hy with hy|hy
 ·rcases List.mem_append.mp hy with hy|hy
  ·exact(h y (List.mem_of_mem_take hy)).up (Nat.le_succ j)
  ·rw[List.mem_singleton] at hy;rw[hy];exact k
 ·exact(h y (List.mem_of_mem_drop hy)).up (Nat.le_succ j)
theorem d0v{as:List Str}{r:Int}(h0:0<=r)(h1:r<as.length):∃a∈as,atI (as.map V.str) r=some (.str a):=by
 have hl:r.toNat<as.length:=by lia
 refine⟨as[r.toNat],List.getElem_mem hl,?_⟩;unfold atI ixN;rw[if_pos h0,if_pos (by rw[List.length_map];exact h1)]
 show(as.map V.str)[r.toNat]?=_;rw[List.getElem?_map,List.getElem?_eq_getElem hl]
 rfl
theorem d2h{ys:List Sl}{i:Nat}{y:Sl}(h:KOk ys)(e:ys[i]?=some y):(y.kd=0/\i=0)\/(y.kd=1/\(i=1\/(i=3/\ys.length=7)))\/(y.kd=2/\i≠0)\/(y.kd=3/\i≠0/\i≠1/\¬ (i=3/\ys.length=7)):=by
 have q:(ys.map Sl.kd)[i]?=some y.kd:=by rw[List.getElem?_map,e];rfl
 have hi:i<ys.length:=(List.getElem?_eq_some_iff.mp e).1;rcases h with z|z
 ·have l:=congrArg List.length z
  rw[List.length_map] at l;have l:ys.length=5:=l;rw[z] at q;have:i=0\/i=1\/i=2\/i=3\/i=4:=by lia
  rcases this with rfl|rfl|rfl|rfl|rfl <;> (injection q with q;rw[<- q];lia)
 ·have l:=congrArg List.length z
  rw[List.length_map] at l;have l:ys.length=7:=l;rw[z] at q;have:i=0\/i=1\/i=2\/i=3\/i=4\/i=5\/i=6:=by lia
  rcases this with rfl|rfl|rfl|rfl|rfl|rfl|rfl <;> (injection q with q;rw[<- q];lia)
theorem d0n(ns:List Int)(lo hi:Option Int){j:Nat}(h:TenB j ns):∃ns':List Int,b5h (ns.map V.int) lo hi=ns'.map V.int/\TenB j ns'/\ns'.length<=ns.length:=by
 refine⟨(ns.drop (HT.sIx ns.length 0 lo)).take (HT.sIx ns.length ns.length hi-HT.sIx ns.length 0 lo),?_,h.drop.take,?_⟩
 ·unfold b5h
  rw[List.length_map,List.map_take,List.map_drop]
 ·rw[List.length_take,List.length_drop];lia
def a6b:Sp:=λvs H Q _=>∃(wl a:Addr)(us:List V)(ys:List Sl)(n j:Nat),vs=[.ref wl,.ref a,.int n]/\Well H wl/\H a=some (.tup us)/\MV H us ys/\KOk ys/\(∀y∈ys,SlB j y)/\j<=1/\2<=n/\n<=20 /\
 ∀p us' ys' H',Well H' wl->But wl H H'->H' p=some (.tup us')->MV H' us' ys'->KOk ys'->ys'.length=ys.length->(∀y∈ys',SlB (j+1) y)->Q (.ref p) H'
abbrev a3p:Stmt:=top 156
theorem p9:i8 ["well","mind","size","k","thing","stages","new"] ["well","mind","size"] (g6 a3p):=↑1
theorem b2d(D:DefT K mg "_law_bent_mind" a3p ["well","mind","size"])(T:Txt K mg cl)(kt:kitOne K (.type "tuple") (.type "tuple")=some true)(ki:kitOne K (.type "int") (.type "tuple")=some false)(kn:kitOne K (.type "NoneType") (.type "tuple")=some false)(G_law_take:FnT P w K mg base "_law_take" 1 ["well","many"] a0e):FnT P w K mg base "_law_bent_mind" 2 ["well","mind","size"] a6b:=by
 refine D.fn p9 (λvs H Q E h=>?_) ↑4
 ·obtain⟨wl,a,us,ys,n,j,rfl,_⟩:=h
  rfl
 ·obtain⟨wl,a,us,ys,n,j,rfl,hw,ea,mv,ko,sb,j1,n2,n9,k⟩:=h
  refine⟨_,(
        d7 (j7 (i:=3) p9.nd rfl (by first|exact Or.inl rfl|exact Or.inr rfl) (l8 G_law_take hr (by decide) rfl j8 (d5 (pv 0) (d5 (j6 (j5 (K:=K)) (by rfl) T.z_len PySem.boot_len (d5 (pv 1) d6)) d6))))
   (d7 (j7 (i:=4) p9.nd rfl (by first|exact Or.inl rfl|exact Or.inr rfl) (x9 (a0v (K:=K)) (pv 1) (pv 3) (λ_ _=>rfl)))
   (@d7 _ _ _ _ _ (@j7 _ _ 5 _ _ _ _ p9.nd rfl (by first|exact Or.inl rfl|exact Or.inr rfl) (@l7 _ _ _ _ (@d5 _ _ _ _ _ i9 (@d5 _ _ _ _ _ i9 (@d5 _ _ _ _ _ i9 (@d5 _ _ _ _ _ i9 (@d5 _ _ _ _ _ i9 (@d5 _ _ _ _ _ i9 ↑3 rfl) rfl) rfl) rfl) rfl) rfl)) (by rfl) (by first|exact .inl rfl|exact .inr rfl))
   (d7 (j7 (i:=5) p9.nd rfl (by first|exact Or.inl rfl|exact Or.inr rfl) (j3 a4f (pv 5) (@l7 _ _ _ _ (@d5 _ _ _ _ _ i9 (@d5 _ _ _ _ _ i9 (@d5 _ _ _ _ _ i9 (@d5 _ _ _ _ _ i9 (@d5 _ _ _ _ _ i9 ↑3 rfl) rfl) rfl) rfl) rfl))))
   (d7 (v9 (i6 a0q (pv 3) d9 (i7 _))
     (g0 (j7 (i:=6) p9.nd rfl (by first|exact Or.inl rfl|exact Or.inr rfl) (x9 (m3 (K:=K)) (pv 5) (l8 G_law_take hr (by decide) rfl j8 (d5 (pv 0) (d5 d9 d6))) (λ_ _=>rfl))))
     (g0 (v9 (a2d (j6 (b4g (K:=K)) (by rfl) T.z_isinstance PyProof.Rows.boot_isinstance (d5 (pv 4) (d5 (c8a T.z_tuple PyProof.Rows.boot_tuple rfl) d6))))
      (g0 (j7 (i:=6) p9.nd rfl (by first|exact Or.inl rfl|exact Or.inr rfl) (x9 (m3 (K:=K)) (l7 (d5 (j3 (a1x (K:=K)) (pv 4) (t7 (d5 (j3 a0y (l8 G_law_take hr (by decide) rfl j8 (d5 (pv 0) (d5 d9 d6))) d9) d6))) (d5 (a0j (a1o) (pv 4) a1d (a0p (b9v b2n d9))) (d5 (j3 (b3i (K:=K)) (t7 (d5 d9 d6)) (pv 2)) (d5 (j3 (b3i (K:=K)) (t7 (d5 d9 d6)) (j3 a0y (pv 2) d9)) d6))))) (l8 G_law_take hr (by decide) rfl j8 (d5 (pv 0) (d5 d9 d6))) (λ_ _=>rfl))))
      (
       d7 (j7 (i:=6) p9.nd rfl (by first|exact Or.inl rfl|exact Or.inr rfl) (x9 (m3 (K:=K)) (@l7 _ _ _ _ (@d5 _ _ _ _ _ d9 (@d5 _ _ _ _ _ d9 (@d5 _ _ _ _ _ (b9v b2n d9) (@d5 _ _ _ _ _ (b9v b2n d9) (@d5 _ _ _ _ _ (j3 y0 d9 (pv 2)) (@d5 _ _ _ _ _ (j3 a0y (j3 y0 d9 (pv 2)) d9) (@d5 _ _ _ _ _ (pv 2) (@d6 _) rfl) rfl) rfl) rfl) rfl) rfl) rfl)) (l8 G_law_take hr (by decide) rfl j8 (d5 (pv 0) (d5 d9 d6))) (λ_ _=>rfl)))
       (d7 (v9 (PW.pt (b0b (i6 b9w (pv 4) a2z (i7 _)) (a7p (i6 a0q ↑2 d9 (i7 _)))))
        (g0 (j7 (i:=6) p9.nd rfl (by first|exact Or.inl rfl|exact Or.inr rfl) (j3 a0y (j3 a0k (pv 4) ↑2) d9)))
        k7)
       (g0 (v9 (PW.pt (b0b (PW.pt (a4t (i6 a0q (pv 3) d9 (i7 _)) (a1u (PW.pt (b0b (i6 a0q (pv 3) d9 (i7 _)) (a7p (i6 a0q (j6 (j5 (K:=K)) (by rfl) T.z_len PySem.boot_len (d5 (pv 1) d6)) d9 (i7 _)))))))) (a7p (i6 a0q ↑2 d9 (i7 _)))))
        (g0 (j7 (i:=6) p9.nd rfl (by first|exact Or.inl rfl|exact Or.inr rfl) a2z))
        k7)))))))
   (g0 (j4 (j3 (a1x (K:=K)) (j3 (a1x (K:=K)) (a0j (a1o) (pv 1) a1d (a0p (pv 3))) (t7 (d5 (pv 6) d6))) (a0j (a1o) (pv 1) (a0p (j3 a0k (pv 3) d9)) a1d))))))))),?_⟩
  have ly:ys.length=5\/ys.length=7:=by
   rcases ko with z|z
   ·have:=congrArg List.length z;rw[List.length_map] at this;exact .inl this
   ·have:=congrArg List.length z;rw[List.length_map] at this;exact .inr this
  have lu:=mv.len;fail "";refine⟨wl,_,rfl,hw,by lia,by lia,λkk H1 a1 c1 w1 b1=>?_⟩
  obtain⟨i,rfl⟩:∃i:Nat,kk=i:=⟨kk.toNat,by lia⟩
  replace ea:=ea;have tp1:=Tp.but hw b1;replace ea:=tp1 _ _ ea;replace mv:=mv.tp tp1;clear tp1 hw;obtain⟨v,y,ev,ey,sv⟩:=mv.get i (by lia)
  refine a2a ?_;refine lit [some (.ref wl),some (.ref a),some (.int n),some (.int i),none,none,none] (by rfl) ?_
  fail "";refine c0h ea (show atI us (i:Int)=some v by unfold atI ixN;rw[if_pos (by lia),if_pos (by lia)];exact ev) ?_
  refine a2a ?_;refine lit [some (.ref wl),some (.ref a),some (.int n),some (.int i),some v,none,none] (by rfl) ?_
  fail "";refine⟨by show 12<=sizeLine;decide,λl1 hl1=>?_⟩
  generalize u2:upd H1 l1 _=H2;obtain⟨s2,f1⟩:=nwS u2 hl1;replace ea:=s2 _ _ ea;replace mv:=mv.tp (.same s2);replace sv:=sv.tp' (.same s2);replace w1:=w1.same s2;replace b1:=b1.trans (But.of (w:=wl) s2);clear u2 s2;refine a2a ?_;refine lit [some (.ref wl),some (.ref a),some (.int n),some (.int i),some v,some (.ref l1),none] (by rfl) ?_
  fail "";refine⟨by show 11<=sizeLine;decide,λl2 hl2=>?_⟩
  generalize u3:upd H2 l2 _=H3;obtain⟨s3,f2⟩:=nwS u3 hl2;replace ea:=s3 _ _ ea;replace f1:=s3 _ _ f1;replace mv:=mv.tp (.same s3);replace sv:=sv.tp' (.same s3);replace w1:=w1.same s3;replace b1:=b1.trans (But.of (w:=wl) s3);clear u3 s3;refine b4d f1 f2 (by show 23<=sizeLine;decide) (λl3 hl3=>?_)
  have nl3:=w1.ne hl3;generalize u4:upd H3 l3 _=H4;obtain⟨s4,f3⟩:=nwS u4 hl3;replace ea:=s4 _ _ ea;replace mv:=mv.tp (.same s4);replace sv:=sv.tp' (.same s4);replace w1:=w1.same s4;replace b1:=b1.trans (But.of (w:=wl) s4);have hst:∃sm:List Str,sm.length=23/\(∀z∈sm,z.length<=10)/\H4 l3=some (.lst (sm.map V.str)):=by
   refine⟨["rouse","clear","mute","marks","told","lacks","look","wish","again","sleep","hush","unwish","number","left","thing","mark","card","ring","free","Look","","take","rest"],rfl,by decide,f3⟩
  obtain⟨sm,ls,hs,e7⟩:=hst;clear u4 s4 f1 f2 f3;refine a2a ?_;refine lit [some (.ref wl),some (.ref a),some (.int n),some (.int i),some v,some (.ref l3),none] (by rfl) ?_
  fail "";have hk:=d2h ko ey;rename_i nX hX;have fin:∀(v':V)(y':Sl)(H':Hp),y'.kd=y.kd->SlB (j+1) y'->SlV H' v' y'->Well H' wl->But wl H H'->H' a=some (.tup us)->MV H' us ys->nX [some (.ref wl),some (.ref a),some (.int n),some (.int i),some v,some (.ref l3),some v'] H':=by
   intro v' y' H' kd' sb' sv' w' b' ea' mv';have e8:=a2k;refine c0f hX ?_;fail "";refine⟨_,rfl,?_⟩;refine c0g ea' λp1 H5 s5 e5=>?_;rw[d5r] at e5;replace ea':=s5 _ _ ea';fail "";refine⟨by show 1<=sizeLine;decide,λp2 hp2=>?_⟩
   generalize u6:upd H5 p2 _=H6;obtain⟨s6,e6⟩:=nwS u6 hp2;replace ea':=s6 _ _ ea';refine b9c (s6 _ _ e5) e6 (by rw[List.length_take];show _+1<=_;lia) λp3 H7 s7 e7=>?_
   replace ea':=s7 _ _ ea';fail "";refine⟨_,rfl,?_⟩;fail "";refine c0g ea' λp4 H8 s8 e8'=>?_;rw[show(i:Int)+1=((i+1:Nat):Int) by lia,d5q] at e8'
   refine b9c (s8 _ _ e7) e8' (by rw[List.length_append,List.length_take,List.length_drop];show _+1+_<=_;lia) λp5 H9 s9 e9=>?_
   have s59:=(((s5.trans s6).trans s7).trans s8).trans s9;have mv9:=mv'.tp (.same s59);refine k p5 _ (ys.take i++[y']++ys.drop (i+1)) _ (w'.same s59) (b'.trans (But.of s59)) e9 (((mv9.take i).app (.cons (sv'.tp' (.same s59)) .nil)).app (mv9.drop (i+1))) (c9v ko ey kd') ?_ (c9c sb sb');rw[List.length_append,List.length_append,List.length_take,List.length_drop];show _+1+_=_;lia
  clear hX k;rw[t5];refine x8 (λz=>?_) (λz=>?_)
  ·fail ""
   refine⟨wl,23,rfl,w1,by decide,by decide,λr H5 a5 c5 w5 b5=>?_⟩
   obtain⟨x,hx,g5⟩:=d0v (as:=sm) a5 (by lia)
   refine a3w (b5 _ _ e7 nl3) g5 ?_;refine a2a ?_;refine lit [some (.ref wl),some (.ref a),some (.int n),some (.int i),some v,some (.ref l3),some (.str x)] (by rfl) ?_
   have tp5:=Tp.but w1 b5;exact fin (.str x) (.st x) H5 (by show 0=_;lia) (hs x hx) rfl w5 (b1.trans b5) (tp5 _ _ ea) (mv.tp tp5)
  clear e7 hs ls;fail "";by_cases z2:y.kd=2
  ·obtain⟨ns,rfl⟩:∃ns,y=.tp ns:=by
    cases y with
    | tp ns=>exact⟨ns,rfl⟩
    | st s=>cases z2
    | hr u=>cases z2
    | it q=>cases z2
   obtain⟨m,rfl,em⟩:=sv;refine c7h (.ty (.tup em)) rfl kt ?_;fail "";have sby:TenB j ns/\ns.length<=20+j:=sb _ (List.mem_of_getElem? ey);have tb1:=sby.1.up (Nat.le_succ j);have ln:=sby.2;clear sby;refine⟨wl,6,rfl,w1,by decide,by decide,λr H5 a5 c5 w5 b5=>?_⟩
   have tp5:=Tp.but w1 b5;replace ea:=tp5 _ _ ea;replace em:=tp5 _ _ em;replace mv:=mv.tp tp5;replace b1:=b1.trans b5;clear tp5 b5 w1;fail "";refine⟨by show 1<=sizeLine;decide,λp1 hp1=>?_⟩
   generalize u6:upd H5 p1 _=H6;obtain⟨s6,f1⟩:=nwS u6 hp1;replace ea:=s6 _ _ ea;replace em:=s6 _ _ em;replace mv:=mv.tp (.same s6);replace w5:=w5.same s6;replace b1:=b1.trans (But.of (w:=wl) s6);clear u6 s6;refine b1w (ys:=[r-1]) em f1 (by show _+1<=_;lia) λq0 H7 s7 f0=>?_
   replace ea:=s7 _ _ ea;replace em:=s7 _ _ em;replace mv:=mv.tp (.same s7);replace w5:=w5.same s7;replace b1:=b1.trans (But.of (w:=wl) s7);clear s7 f1;fail "";refine⟨_,rfl,?_⟩;obtain⟨ns1,c1',t1',l1'⟩:=d0n ns none (some (-1)) tb1;refine c0g em λq1 H8 s8 f1=>?_;rw[c1'] at f1;replace ea:=s8 _ _ ea;replace f0:=s8 _ _ f0;replace mv:=mv.tp (.same s8);replace w5:=w5.same s8;replace b1:=b1.trans (But.of (w:=wl) s8);clear s8 c1' em;fail "";refine⟨by show 1<=sizeLine;decide,λp2 hp2=>?_⟩
   generalize u9:upd H8 p2 _=H9;obtain⟨s9,f2⟩:=nwS u9 hp2;replace ea:=s9 _ _ ea;replace f0:=s9 _ _ f0;replace f1:=s9 _ _ f1;replace mv:=mv.tp (.same s9);replace w5:=w5.same s9;replace b1:=b1.trans (But.of (w:=wl) s9);clear u9 s9;fail "";refine b9a f2 (λz=>by cases z) (by lia) (by lia) (by have:=a2k;show 1*_<=sizeLine;lia) λq2 H10 s10 f2'=>?_
   rw[b0a] at f2';replace ea:=s10 _ _ ea;replace f0:=s10 _ _ f0;replace f1:=s10 _ _ f1;replace mv:=mv.tp (.same s10);replace w5:=w5.same s10;replace b1:=b1.trans (But.of (w:=wl) s10);clear s10 f2;fail "";refine⟨by show 1<=sizeLine;decide,λp3 hp3=>?_⟩
   generalize u11:upd H10 p3 _=H11;obtain⟨s11,f3⟩:=nwS u11 hp3;replace ea:=s11 _ _ ea;replace f0:=s11 _ _ f0;replace f1:=s11 _ _ f1;replace f2':=s11 _ _ f2';replace mv:=mv.tp (.same s11);replace w5:=w5.same s11;replace b1:=b1.trans (But.of (w:=wl) s11);clear u11 s11;fail "";refine b9a f3 (λz=>by cases z) (by lia) (by lia) (by have:=a2k;show 1*_<=sizeLine;lia) λq3 H12 s12 f3'=>?_
   rw[b0a] at f3';replace ea:=s12 _ _ ea;replace f0:=s12 _ _ f0;replace f1:=s12 _ _ f1;replace f2':=s12 _ _ f2';replace mv:=mv.tp (.same s12);replace w5:=w5.same s12;replace b1:=b1.trans (But.of (w:=wl) s12);clear s12 f3;fail "";refine⟨by show 4<=sizeLine;decide,λp4 hp4=>?_⟩
   have n4:=w5.ne hp4;generalize u13:upd H12 p4 _=H13;obtain⟨s13,f4⟩:=nwS u13 hp4;have hall:∀q∈[q0,q1,q2,q3],∃row':List Int,H13 q=some (.tup (row'.map V.int))/\TenB (j+1) row'/\row'.length<=20+(j+1):=by
    intro q hq;simp only[List.mem_cons,List.not_mem_nil,or_false] at hq;rcases hq with rfl|rfl|rfl|rfl
    ·exact⟨_,s13 _ _ f0,tb1.app (TenB.one (by lia)),by rw[List.length_append];show _+1<=_;lia⟩
    ·exact⟨_,s13 _ _ f1,t1',by lia⟩
    ·exact⟨_,s13 _ _ f2',TenB.rep (by show 0<_;lia),by rw[List.length_replicate];lia⟩
    ·exact⟨_,s13 _ _ f3',TenB.rep (by show 3<_;lia),by rw[List.length_replicate];lia⟩
   replace ea:=s13 _ _ ea;replace mv:=mv.tp (.same s13);replace w5:=w5.same s13;replace b1:=b1.trans (But.of (w:=wl) s13);clear u13 s13 f0 f1 f2' f3';fail "";refine⟨wl,4,rfl,w5,by decide,by decide,λr2 H14 a14 c14 w14 b14=>?_⟩
   obtain⟨q,hq,g4⟩:=c0n (as:=[q0,q1,q2,q3]) a14 c14;obtain⟨row',e',t',l'⟩:=hall q hq;refine a3w (b14 _ _ f4 n4) g4 ?_;have tp14:=Tp.but w5 b14;refine a2a ?_;refine lit [some (.ref wl),some (.ref a),some (.int n),some (.int i),some (.ref m),some (.ref l3),some (.ref q)] (by rfl) ?_
   exact fin (.ref q) (.tp row') H14 rfl ⟨t',l'⟩ ⟨q,rfl,tp14 _ _ e'⟩ w14 (b1.trans b14) (tp14 _ _ ea) (mv.tp tp14)
  ·obtain⟨u,rfl,tu,hy⟩:∃u:Hr,v=u.v/\HTenB j u/\(y=.hr u \/ ∃q,y=.it q/\u=.int q):=by
    have sby:=sb y (List.mem_of_getElem? ey);cases y with
    | tp ns=>exact absurd rfl z2
    | st s=>exact absurd hk (by show ¬ ((0=0/\i=0)\/(0=1/\_)\/(0=2/\_)\/(0=3/\_));lia)
    | hr u=>exact⟨u,sv,sby,.inl rfl⟩
    | it q=>exact⟨.int q,sv,sby,.inr ⟨q,rfl,rfl⟩⟩
   have hni:∃tt,TyX K H4 u.v tt/\kitOne K tt (.type "tuple")=some false:=by
    cases u with
    | non=>exact⟨_,.ty .non,kn⟩
    | int q=>exact⟨_,.ty (.int q),ki⟩
   obtain⟨tt,ty,kf⟩:=hni;refine c7h ty rfl kf ?_;fail "";refine⟨by show 7<=sizeLine;decide,λp1 hp1=>?_⟩
   have n1:=w1.ne hp1;generalize u6:upd H4 p1 _=H6;obtain⟨s6,f1⟩:=nwS u6 hp1;replace ea:=s6 _ _ ea;replace mv:=mv.tp (.same s6);replace w1:=w1.same s6;replace b1:=b1.trans (But.of (w:=wl) s6);clear u6 s6;fail "";refine⟨wl,7,rfl,w1,by decide,by decide,λr H7 a7 c7 w7 b7=>?_⟩
   obtain⟨c,hc,g7⟩:=b7d (as:=[0,1,-1,-2,2*(n:Int),2*(n:Int)-1,(n:Int)]) a7 c7;refine a3w (b7 _ _ f1 n1) g7 ?_;have tc:c.natAbs<10 ^ 59+1+(j+1):=by
    simp only[List.mem_cons,List.not_mem_nil,or_false] at hc;lia
   have tp7:=Tp.but w1 b7;replace ea:=tp7 _ _ ea;replace mv:=mv.tp tp7;replace b1:=b1.trans b7;clear tp7 b7 w1 f1 g7 hc ty;refine a2a ?_;refine lit [some (.ref wl),some (.ref a),some (.int n),some (.int i),some u.v,some (.ref l3),some (.int c)] (by rfl) ?_
   fail "";rename_i nY hY;have fin3:∀(c:Int)(H':Hp),c.natAbs<10 ^ 59+1+(j+1)->Well H' wl->But wl H H'->H' a=some (.tup us)->MV H' us ys->nY [some (.ref wl),some (.ref a),some (.int n),some (.int i),some u.v,some (.ref l3),some (.int c)] H':=by
    intro c H' tc w' b' ea' mv';have fi:∀H2,Well H2 wl->But wl H H2->H2 a=some (.tup us)->MV H2 us ys->nX [some (.ref wl),some (.ref a),some (.int n),some (.int i),some u.v,some (.ref l3),some (.int c)] H2:=by
     intro H2 w2 b2 ea2 mv2;rcases hy with rfl|⟨q,rfl,rfl⟩
     ·exact fin (.int c) (.hr (.int c)) H2 rfl tc rfl w2 b2 ea2 mv2
     ·exact fin (.int c) (.it c) H2 rfl tc rfl w2 b2 ea2 mv2
    have fn:y.kd=1->∀H2,Well H2 wl->But wl H H2->H2 a=some (.tup us)->MV H2 us ys->nX [some (.ref wl),some (.ref a),some (.int n),some (.int i),some u.v,some (.ref l3),some .non] H2:=λz1 H2 w2 b2 ea2 mv2=>fin .non (.hr .non) H2 z1.symm trivial rfl w2 b2 ea2 mv2;refine c0f hY ?_;fail "";rw[t5];refine x8 (λz4=>?_) (λz4=>?_)
    ·fail ""
     refine⟨wl,4,rfl,w',by decide,by decide,λr2 H8 a8 c8 w8 b8=>?_⟩
     have tp8:=Tp.but w' b8;fail "";rw[t5];refine x8 (λz5=>?_) (λz5=>?_)
     ·fail ""
      exact fn (by lia) H8 w8 (b'.trans b8) (tp8 _ _ ea') (mv'.tp tp8)
     ·fail ""
      exact fi H8 w8 (b'.trans b8) (tp8 _ _ ea') (mv'.tp tp8)
    fail "";rw[t5];refine x8 (λz6=>?_) (λz6=>?_)
    ·fail ""
     rw[t5,lu];refine x8 (λz7=>?_) (λz7=>?_)
     ·fail ""
      refine⟨wl,4,rfl,w',by decide,by decide,λr2 H8 a8 c8 w8 b8=>?_⟩
      have tp8:=Tp.but w' b8;fail "";rw[t5];refine x8 (λz5=>?_) (λz5=>?_)
      ·fail ""
       exact fn (by lia) H8 w8 (b'.trans b8) (tp8 _ _ ea') (mv'.tp tp8)
      ·fail ""
       exact fi H8 w8 (b'.trans b8) (tp8 _ _ ea') (mv'.tp tp8)
     ·fail ""
      exact fi H' w' b' ea' mv'
    ·fail ""
     exact fi H' w' b' ea' mv'
   clear hY;refine⟨rfl,_,rfl,?_⟩;cases u with
   | non=>
    rw[show(!decide (Hr.non.v=V.non))=false from by simp[Hr.v]]
    fail "";exact fin3 c H7 tc w7 b1 ea mv
   | int q=>
    rw[show(!decide ((Hr.int q).v=V.non))=true from by simp[Hr.v]]
    fail "";refine⟨wl,2,rfl,w7,by decide,by decide,λr2 H8 a8 c8 w8 b8=>?_⟩
    have tp8:=Tp.but w7 b8;replace ea:=tp8 _ _ ea;replace mv:=mv.tp tp8;replace b1:=b1.trans b8;fail "";rw[t5];refine x8 (λz5=>?_) (λz5=>?_)
    ·fail ""
     refine⟨wl,3,rfl,w8,by decide,by decide,λr3 H9 a9 c9 w9 b9=>?_⟩
     have tp9:=Tp.but w8 b9;have tq:q.natAbs<10 ^ 59+1+j:=tu;fail "";exact fin3 (q+r3-1) H9 (by lia) w9 (b1.trans b9) (tp9 _ _ ea) (mv.tp tp9)
    ·fail ""
     exact fin3 c H8 tc w8 b1 ea mv
theorem HTenB.up{j i:Nat}{u:Hr}(h:HTenB j u)(l:j<=i):HTenB i u:=by
 cases u with
 | non=>exact h
 | int v=>have h:v.natAbs<10 ^ 59+1+j:=h;show v.natAbs<10 ^ 59+1+i;lia
theorem TenA.up{j:Nat}{x:Sd}(h:TenA j x):TenA (j+1) x where
 c:=h.c.up (Nat.le_succ j)
 lc:=by have:=h.lc;lia
 gs:=h.gs
 gh:=h.gh.up (Nat.le_succ j)
 gm:=h.gm.up (Nat.le_succ j)
 gl:=by have:=h.gl;lia
 go:=by have:=h.go;lia
 gp:=by have:=h.gp;lia
 ts:=h.ts
 th:=h.th.up (Nat.le_succ j)
 tm:=h.tm.up (Nat.le_succ j)
 tl:=by have:=h.tl;lia
 tf:=h.tf.up (Nat.le_succ j)
 tn:=by have:=h.tn;lia
 te:=by have:=h.te;lia
 tp:=h.tp.up (Nat.le_succ j)
 tq:=by have:=h.tq;lia
 os:=h.os.up (Nat.le_succ j)
 ol:=by have:=h.ol;lia
 bk:=h.bk.up (Nat.le_succ j)
 bl:=by have:=h.bl;lia
theorem kd0{y:Sl}(h:y.kd=0):∃s,y=.st s:=by
 cases y with
 | st s=>exact⟨s,rfl⟩
 | hr u=>cases h
 | tp ns=>cases h
 | it i=>cases h
theorem kd1{y:Sl}(h:y.kd=1):∃s,y=.hr s:=by
 cases y with
 | st s=>cases h
 | hr u=>exact⟨u,rfl⟩
 | tp ns=>cases h
 | it i=>cases h
theorem kd2{y:Sl}(h:y.kd=2):∃s,y=.tp s:=by
 cases y with
 | st s=>cases h
 | hr u=>cases h
 | tp ns=>exact⟨ns,rfl⟩
 | it i=>cases h
theorem kd3{y:Sl}(h:y.kd=3):∃s,y=.it s:=by
 cases y with
 | st s=>cases h
 | hr u=>cases h
 | tp ns=>cases h
 | it i=>exact⟨i,rfl⟩
theorem d7q{α:Type}:∀t:List α,t.length=5->∃a b c d e,t=[a,b,c,d,e]
 | [a,b,c,d,e],_=>⟨a,b,c,d,e,rfl⟩
theorem d4f{α:Type}:∀t:List α,t.length=7->∃a b c d e f g,t=[a,b,c,d,e,f,g]
 | [a,b,c,d,e,f,g],_=>⟨a,b,c,d,e,f,g,rfl⟩
theorem d4v{H:Hp}{p:Addr}{us:List V}{ys:List Sl}{j:Nat}(e:H p=some (.tup us))(mv:MV H us ys)(ko:KOk ys)(l:ys.length=5)(sb:∀y∈ys,SlB j y):
  ∃g:GSd,GT H p g/\g.st.length<=10/\HTenB j g.he/\(TenB j g.ms/\g.ms.length<=20+j)/\g.od.natAbs<10 ^ 59+1+j/\g.pt.natAbs<10 ^ 59+1+j:=by
 obtain⟨a,b,c,d,f,rfl⟩:=d7q ys l;rcases ko with z|z
 rotate_left
 ·have:=congrArg List.length z;cases this
 simp only[List.map_cons,List.map_nil,List.cons.injEq,and_true] at z;obtain⟨za,zb,zc,zd,ze⟩:=z;obtain⟨s,rfl⟩:=kd0 za;obtain⟨u,rfl⟩:=kd1 zb;obtain⟨ns,rfl⟩:=kd2 zc;obtain⟨o,rfl⟩:=kd3 zd;obtain⟨q,rfl⟩:=kd3 ze;cases mv with|cons v1 mv=>
 cases mv with|cons v2 mv=>
 cases mv with|cons v3 mv=>
 cases mv with|cons v4 mv=>
 cases mv with|cons v5 mv=>
 cases mv;obtain⟨m,rfl,em⟩:=v3;have v1:_=V.str s:=v1;have v2:_=u.v:=v2;have v4:_=V.int o:=v4;have v5:_=V.int q:=v5;subst v1 v2 v4 v5;exact⟨⟨s,u,ns,o,q⟩,⟨m,e,em⟩,sb (.st s) (by simp),sb (.hr u) (by simp),sb (.tp ns) (by simp),sb (.it o) (by simp),sb (.it q) (by simp)⟩
theorem d3x{H:Hp}{p:Addr}{us:List V}{ys:List Sl}{j:Nat}(e:H p=some (.tup us))(mv:MV H us ys)(ko:KOk ys)(l:ys.length=7)(sb:∀y∈ys,SlB j y):
  ∃t:TSd,TT H p t/\t.st.length<=10/\HTenB j t.he/\(TenB j t.ms/\t.ms.length<=20+j)/\HTenB j t.nf/\t.nu.natAbs<10 ^ 59+1+j/\t.le.natAbs<10 ^ 59+1+j/\(TenB j t.pa/\t.pa.length<=20+j):=by
 obtain⟨a,b,c,d,f,g,h,rfl⟩:=d4f ys l;rcases ko with z|z
 ·have:=congrArg List.length z;cases this
 simp only[List.map_cons,List.map_nil,List.cons.injEq,and_true] at z;obtain⟨za,zb,zc,zd,ze,zf,zg⟩:=z;obtain⟨s,rfl⟩:=kd0 za;obtain⟨u,rfl⟩:=kd1 zb;obtain⟨ns,rfl⟩:=kd2 zc;obtain⟨u2,rfl⟩:=kd1 zd;obtain⟨o,rfl⟩:=kd3 ze;obtain⟨q,rfl⟩:=kd3 zf;obtain⟨ps,rfl⟩:=kd2 zg;cases mv with|cons v1 mv=>
 cases mv with|cons v2 mv=>
 cases mv with|cons v3 mv=>
 cases mv with|cons v4 mv=>
 cases mv with|cons v5 mv=>
 cases mv with|cons v6 mv=>
 cases mv with|cons v7 mv=>
 cases mv;obtain⟨m,rfl,em⟩:=v3;obtain⟨m2,rfl,em2⟩:=v7;have v1:_=V.str s:=v1;have v2:_=u.v:=v2;have v4:_=u2.v:=v4;have v5:_=V.int o:=v5;have v6:_=V.int q:=v6;subst v1 v2 v4 v5 v6;exact⟨⟨s,u,ns,u2,o,q,ps⟩,⟨m,m2,e,em,em2⟩,sb (.st s) (by simp),sb (.hr u) (by simp),sb (.tp ns) (by simp),sb (.hr u2) (by simp),sb (.it o) (by simp),sb (.it q) (by simp),sb (.tp ps) (by simp)⟩
theorem But.set{w p:Addr}{H0 H:Hp}{o:HO}(s:But w H0 H)(n:H0 p=none):But w H0 (L2.upd H p o):=λb u e ne=>by rw[f9 (g9 e n)];exact s b u e ne
theorem Well.set{w p:Addr}{H:Hp}{o:HO}(h:Well H w)(n:p≠w):Well (L2.upd H p o) w:=let ⟨a,b,c,e,q⟩:=h;⟨a,b,c,(f9 n.symm).trans e,q⟩
theorem Tp.lst{H:Hp}{l:Addr}{xs:List V}{o:HO}(e:H l=some (.lst xs)):Tp H (L2.upd H l o):=λa us ea=>by
 rw[f9]
 ·exact ea
 ·rintro rfl;rw[e] at ea;cases ea
def b2t:Sp:=λvs H Q _=>∃(wl a:Addr)(x:Sd)(j:Nat),vs=[.ref wl,.ref a]/\Well H wl/\ST H a x/\TenA j x/\x.n=x.c.length / 4-1/\j<=1 /\
 ∀p x' H',Well H' wl->But wl H H'->ST H' p x'->TenA (j+1) x'->x'.n=x'.c.length / 4-1->Q (.ref p) H'
abbrev b0u:Stmt:=top 159
theorem a5k:i8 ["well","stand","parts","size","k"] ["well","stand"] (g6 b0u):=↑1
theorem c0c(D:DefT K mg "_law_bent" b0u ["well","stand"])(T:Txt K mg cl)(G_law_take:FnT P w K mg base "_law_take" 1 ["well","many"] a0e)(G_law_bent_cells:FnT P w K mg base "_law_bent_cells" 2 ["well","cells","size"] a4w)(G_law_bent_orders:FnT P w K mg base "_law_bent_orders" 2 ["well","orders","size"] a3y)(G_law_bent_mind:FnT P w K mg base "_law_bent_mind" 2 ["well","mind","size"] a6b):FnT P w K mg base "_law_bent" 3 ["well","stand"] b2t:=by
 refine D.fn a5k (λvs H Q E h=>?_) ↑4
 ·obtain⟨wl,a,x,j,rfl,_⟩:=h
  rfl
 ·obtain⟨wl,a,x,j,rfl,hw,⟨c,g,t,o,b,ea,ec,eg,et,eo,eb⟩,ta,en,j1,k⟩:=h
  refine⟨_,(d7 (j7 (i:=2) a5k.nd rfl (by first|exact Or.inl rfl|exact Or.inr rfl) (l0 (a0d (K:=K)) (by rfl) T.z_list PyProof.Rows.boot_list (d5 (pv 1) d6)))
   (d7 (j7 (i:=3) a5k.nd rfl (by first|exact Or.inl rfl|exact Or.inr rfl) (j6 (b9i rfl) (by rfl) T.z_max PyProof.Rows.boot_max (d5 d9 (d5 (j3 a0y (j3 a4e (j6 (j5 (K:=K)) (by rfl) T.z_len PySem.boot_len (d5 (x9 (a0v (K:=K)) (pv 1) d9 (λ_ _=>rfl)) d6)) d9) d9) d6))))
   (d7 (j7 (i:=4) a5k.nd rfl (by first|exact Or.inl rfl|exact Or.inr rfl) (j3 a4e (j3 y0 ↑2 d9) d9))
   (d7 (v9 (i6 a0q (pv 4) d9 (i7 _))
     (g0 (a1l (l8 G_law_bent_cells hr (by decide) rfl j8 (d5 (pv 0) (d5 (x9 (m3 (K:=K)) (pv 2) d9 (λ_ _=>rfl)) (d5 (pv 3) d6)))) (b8a (pv 2) d9 a9w)))
     (g0 (v9 (i6 a1w (pv 4) d9 (i7 _))
      (g0 (a1l (l8 G_law_bent_mind hr (by decide) rfl j8 (d5 (pv 0) (d5 (x9 (m3 (K:=K)) (pv 2) (pv 4) (λ_ _=>rfl)) (d5 (pv 3) d6)))) (b8a (pv 2) (pv 4) a9w)))
      (g0 (a1l (l8 G_law_bent_orders hr (by decide) rfl j8 (d5 (pv 0) (d5 (x9 (m3 (K:=K)) (pv 2) (pv 4) (λ_ _=>rfl)) (d5 (pv 3) d6)))) (b8a (pv 2) (pv 4) a9w))))))
   (g0 (j4 (l0 (a0r (K:=K)) (by rfl) T.z_tuple PyProof.Rows.boot_tuple (d5 (pv 2) d6)))))))),?_⟩
  have lc:=ta.lc;fail "";intro l hl;have nl:=hw.ne hl;generalize u1:upd H l _=H1;obtain⟨s1,el⟩:=nwS u1 hl;replace ea:=s1 _ _ ea;replace ec:=s1 _ _ ec;replace eg:=eg.same s1;replace et:=et.same s1;replace eo:=eo.same s1;replace eb:=eb.same s1;replace hw:=hw.same s1;have b0:But wl H H1:=But.of s1;clear u1;refine a2a ?_;refine lit [some (.ref wl),some (.ref a),some (.ref l),none,none] (by rfl) ?_
  fail "";rw[List.length_map];refine⟨_,_,rfl,?_⟩;obtain⟨n,hn,n2,n9⟩:∃n:Nat,(if ((x.c.length:Int) / 4-1) > 2 then ((x.c.length:Int) / 4-1) else 2)=(n:Int)/\2<=n/\n<=20:=by
   split
   ·exact⟨((x.c.length:Int) / 4-1).toNat,by lia,by lia,by lia⟩
   ·exact⟨2,rfl,by decide,by decide⟩
  rw[hn];clear hn;refine a2a ?_;refine lit [some (.ref wl),some (.ref a),some (.ref l),some (.int n),none] (by rfl) ?_
  fail "";refine⟨wl,9,rfl,hw,by decide,by decide,λr H2 a2 c2 w2 b2=>?_⟩
  have tp2:=Tp.but hw b2;replace el:=b2 _ _ el nl;replace ec:=tp2 _ _ ec;replace eg:=eg.tp tp2;replace et:=et.tp tp2;replace eo:=eo.tp tp2;replace eb:=eb.tp tp2;replace b0:=b0.trans b2;clear tp2 hw b2 ea;fail "";have hk:0<=r*5 / 9/\r*5 / 9<5:=by lia
  generalize r*5 / 9=kk at hk ⊢;rename_i nX hX;have fin:∀(c g t o b:Addr)(x':Sd)(H':Hp),H' l=some (.lst [.ref c,.ref g,.ref t,.ref o,.ref b])->H' c=some (.tup (x'.c.map V.int))->GT H' g x'.g->TT H' t x'.t->TTs H' o x'.os->TTs H' b x'.bk->Well H' wl->But wl H H'->TenA (j+1) x'->x'.n=x'.c.length / 4-1->nX [some (.ref wl),some (.ref a),some (.ref l),some (.int n),some (.int kk)] H':=by
   intro c g t o b x' H' e' ec' eg' et' eo' eb' w' b' ta' en';refine c0f hX ?_;fail "";intro p hp;have sp:=i3 (o:=.tup [.ref c,.ref g,.ref t,.ref o,.ref b]) hp;exact k p x' _ (w'.same sp) (b'.trans (But.of sp)) ⟨c,g,t,o,b,d8,sp _ _ ec',eg'.same sp,et'.same sp,eo'.same sp,eb'.same sp⟩ ta' en'
  clear hX k;rw[t5];refine x8 (λz=>?_) (λz=>?_)
  ·fail ""
   refine⟨wl,c,x.c,n,j,rfl,w2,ec,ta.c,ta.lc,j1,n2,n9,λp row' H3 w3 b3 e3 t3 l3=>?_⟩;have tp3:=Tp.but w2 b3;replace el:=b3 _ _ el nl;fail "";refine b8z el (j:=0) rfl ?_;have tp4:=Tp.lst (o:=.lst [.ref p,.ref g,.ref t,.ref o,.ref b]) el;have ta1:=ta.up;exact fin p g t o b { x with c:=row',n:=row'.length / 4-1 } _ d8 (tp4 _ _ e3) ((eg.tp tp3).tp tp4) ((et.tp tp3).tp tp4) ((eo.tp tp3).tp tp4) ((eb.tp tp3).tp tp4) (w3.set nl) ((b0.trans b3).set hl) { ta1 with c:=t3,lc:=l3 } rfl
  fail "";refine x8 (λz3=>?_) (λz3=>?_)
  ·have h12:kk=1\/kk=2:=by lia
   rcases h12 with rfl|rfl
   ·obtain⟨m,e1,e2⟩:=id eg
    fail "";refine⟨wl,g,_,[.st x.g.st,.hr x.g.he,.tp x.g.ms,.it x.g.od,.it x.g.pt],n,j,rfl,w2,e1,.cons rfl (.cons rfl (.cons ⟨m,rfl,e2⟩ (.cons rfl (.cons rfl .nil)))),.inl rfl,?_,j1,n2,n9,λp us' ys' H3 w3 b3 e3 mv3 ko3 l3 sb3=>?_⟩
    ·intro y hy
     simp only[List.mem_cons,List.not_mem_nil,or_false] at hy;rcases hy with rfl|rfl|rfl|rfl|rfl
     ·exact ta.gs
     ·exact ta.gh
     ·exact⟨ta.gm,ta.gl⟩
     ·exact ta.go
     ·exact ta.gp
    have tp3:=Tp.but w2 b3;replace el:=b3 _ _ el nl;obtain⟨g',gt',q1,q2,q3,q4,q5⟩:=d4v e3 mv3 ko3 l3 sb3;fail "";refine b8z el (j:=1) rfl ?_;have tp4:=Tp.lst (o:=.lst [.ref c,.ref p,.ref t,.ref o,.ref b]) el;have ta1:=ta.up;exact fin c p t o b { x with g:=g' } _ d8 (tp4 _ _ (tp3 _ _ ec)) (gt'.tp tp4) ((et.tp tp3).tp tp4) ((eo.tp tp3).tp tp4) ((eb.tp tp3).tp tp4) (w3.set nl) ((b0.trans b3).set hl) { ta1 with gs:=q1,gh:=q2,gm:=q3.1,gl:=q3.2,go:=q4,gp:=q5 } en
   ·obtain⟨m,m2,e1,e2,e4⟩:=id et
    fail "";refine⟨wl,t,_,[.st x.t.st,.hr x.t.he,.tp x.t.ms,.hr x.t.nf,.it x.t.nu,.it x.t.le,.tp x.t.pa],n,j,rfl,w2,e1,.cons rfl (.cons rfl (.cons ⟨m,rfl,e2⟩ (.cons rfl (.cons rfl (.cons rfl (.cons ⟨m2,rfl,e4⟩ .nil)))))),.inr rfl,?_,j1,n2,n9,λp us' ys' H3 w3 b3 e3 mv3 ko3 l3 sb3=>?_⟩
    ·intro y hy
     simp only[List.mem_cons,List.not_mem_nil,or_false] at hy;rcases hy with rfl|rfl|rfl|rfl|rfl|rfl|rfl
     ·exact ta.ts
     ·exact ta.th
     ·exact⟨ta.tm,ta.tl⟩
     ·exact ta.tf
     ·exact ta.tn
     ·exact ta.te
     ·exact⟨ta.tp,ta.tq⟩
    have tp3:=Tp.but w2 b3;replace el:=b3 _ _ el nl;obtain⟨t',tt',q1,q2,q3,q4,q5,q6,q7⟩:=d3x e3 mv3 ko3 l3 sb3;fail "";refine b8z el (j:=2) rfl ?_;have tp4:=Tp.lst (o:=.lst [.ref c,.ref g,.ref p,.ref o,.ref b]) el;have ta1:=ta.up;exact fin c g p o b { x with t:=t' } _ d8 (tp4 _ _ (tp3 _ _ ec)) ((eg.tp tp3).tp tp4) (tt'.tp tp4) ((eo.tp tp3).tp tp4) ((eb.tp tp3).tp tp4) (w3.set nl) ((b0.trans b3).set hl) { ta1 with ts:=q1,th:=q2,tm:=q3.1,tl:=q3.2,tf:=q4,tn:=q5,te:=q6,tp:=q7.1,tq:=q7.2 } en
  ·have h34:kk=3\/kk=4:=by lia
   rcases h34 with rfl|rfl
   ·fail ""
    refine⟨wl,o,x.os,n,j,rfl,w2,eo,ta.os,ta.ol,j1,n2,n9,λp os' H3 w3 b3 e3 t3 l3=>?_⟩;have tp3:=Tp.but w2 b3;replace el:=b3 _ _ el nl;fail "";refine b8z el (j:=3) rfl ?_;have tp4:=Tp.lst (o:=.lst [.ref c,.ref g,.ref t,.ref p,.ref b]) el;have ta1:=ta.up;exact fin c g t p b { x with os:=os' } _ d8 (tp4 _ _ (tp3 _ _ ec)) ((eg.tp tp3).tp tp4) ((et.tp tp3).tp tp4) (e3.tp tp4) ((eb.tp tp3).tp tp4) (w3.set nl) ((b0.trans b3).set hl) { ta1 with os:=t3,ol:=l3 } en
   ·fail ""
    refine⟨wl,b,x.bk,n,j,rfl,w2,eb,ta.bk,ta.bl,j1,n2,n9,λp os' H3 w3 b3 e3 t3 l3=>?_⟩;have tp3:=Tp.but w2 b3;replace el:=b3 _ _ el nl;fail "";refine b8z el (j:=4) rfl ?_;have tp4:=Tp.lst (o:=.lst [.ref c,.ref g,.ref t,.ref o,.ref p]) el;have ta1:=ta.up;exact fin c g t o p { x with bk:=os' } _ d8 (tp4 _ _ (tp3 _ _ ec)) ((eg.tp tp3).tp tp4) ((et.tp tp3).tp tp4) ((eo.tp tp3).tp tp4) (e3.tp tp4) (w3.set nl) ((b0.trans b3).set hl) { ta1 with bk:=t3,bl:=l3 } en
theorem d5p{H H':Hp}{p:Addr}(h:H' p=none)(s:Same H H'):Same H H':=s
structure Kd(K:Frag)(cl:Cl)(C:Addr):Prop where
 k:ExK K C
 x:exmOne K (.ref C) (.ref cl.RingError)=some true
 B:kitOne K (.ref C) (.ref cl.BadStand)=some true
 V:kitOne K (.ref C) (.type "ValueError")=some true
 s9:PySem.W.kitAny K (.ref C) [.ref cl.BadCells,.ref cl.BadMark,.ref cl.BadOrder,.ref cl.BadSize,.ref cl.Crooked,.ref cl.NoCell,.ref cl.NoHand,.ref cl.NoName,.ref cl.NoRow,.ref cl.NotSound]=some false
 t4:PySem.W.kitAny K (.ref C) [.ref cl.NoText,.ref cl.NoTurn,.ref cl.NoWaiting,.ref cl.TooMany]=some false
def b1p(cl:Cl):Sp:=λvs H Q _=>∃(wy:Int)(a:Addr)(x:Sd),vs=[.int wy,.ref a]/\(wy=0\/wy=1)/\ST H a x/\x.n=x.c.length / 4-1/\x.os.length<=1000/\x.bk.length<=1000/\x.g.ms.length<=100000/\x.t.ms.length<=100000 /\
 (a5g x->d1c x/\∀tp kk u H',H tp=none->H kk=none->Same H H'->H' tp=some (.tup [.ref kk,u])->H' kk=some (.lst [])->(wy=0->∃p,u=.ref p/\ST H' p x)->(wy=1->u=.str (standT x))->Q (.ref tp) H') /\
 (¬ a5g x->∀tp kk H',H tp=none->H kk=none->Same H H'->H' tp=some (.tup [.ref kk,.non])->H' kk=some (.lst ([true,true,false].map V.bl))->Q (.ref tp) H')
abbrev a8z:Stmt:=top 162
theorem a0t:i8 ["way","stand","kinds","told","e","some"] ["way","stand"] (g6 a8z):=↑1
theorem b8q(D:DefT K mg "_law_asked" a8z ["way","stand"])(T:Txt K mg cl)(kdB:Kd K cl cl.BadStand)(G_lane_at:FnT P w K mg base "lane_at" 9 ["stand"] (b4y cl))(G_stand_of:FnT P w K mg base "stand_of" 6 ["lane"] (b2p cl))(G_stand_text:FnT P w K mg base "stand_text" 8 ["stand"] (a9k cl)):FnT P w K mg base "_law_asked" 10 ["way","stand"] (b1p cl):=by
 refine D.fn a0t (λvs H Q E h=>?_) ↑4
 ·obtain⟨wy,a,x,rfl,_⟩:=h
  rfl
 ·obtain⟨wy,a,x,rfl,hwy,st,en,lo,lb,lg,lt,k,kb⟩:=h
  refine'⟨_,(d7 (j7 (i:=2) a0t.nd rfl (by first|exact Or.inl rfl|exact Or.inr rfl) (l7 d6))
   (d7 (j7 (i:=3) a0t.nd rfl (by first|exact Or.inl rfl|exact Or.inr rfl) a2z)
   (d7 (c6n (i:=4) rfl rfl rfl rfl T.c_RingError.m a0t.nd rfl rfl ?tb ?th)
   (g0 (j4 (t7 (d5 (pv 2) (d5 (pv 3) d6)))))))),?rd⟩
  case tb=>exact λ_ _ _ hx=>(g0 (v9 (i6 a0q (pv 0) d9 (i7 _))
      (g0 (j7 (i:=3) a0t.nd rfl (by first|exact Or.inl rfl|exact Or.inr rfl) (b5b G_stand_of hr (by decide) rfl hx (d5 (b5b G_lane_at hr (by decide) rfl hx (d5 (pv 1) d6)) d6))))
      (g0 (j7 (i:=3) a0t.nd rfl (by first|exact Or.inl rfl|exact Or.inr rfl) (b5b G_stand_text hr (by decide) rfl hx (d5 (pv 1) d6))))))
  case th=>exact λ_ _=>(d7 (j7 (i:=5) a0t.nd rfl (by first|exact Or.inl rfl|exact Or.inr rfl) (j6 (b5i (K:=K)) (by rfl) T.z_isinstance PyProof.Rows.boot_isinstance (d5 (pv 4) (d5 (t7 (d5 (a5v T.c_BadCells rfl) (d5 (a5v T.c_BadMark rfl) (d5 (a5v T.c_BadOrder rfl) (d5 (a5v T.c_BadSize rfl) (d5 (a5v T.c_Crooked rfl) (d5 (a5v T.c_NoCell rfl) (d5 (a5v T.c_NoHand rfl) (d5 (b0y T.c_NoName rfl) (d5 (b0y T.c_NoRow rfl) (d5 (b0y T.c_NotSound rfl) d6))))))))))) d6))))
     (d7 (j7 (i:=2) a0t.nd rfl (by first|exact Or.inl rfl|exact Or.inr rfl) (l7 (d5 (j6 (b4g (K:=K)) (by rfl) T.z_isinstance PyProof.Rows.boot_isinstance (d5 (pv 4) (d5 (a5v T.c_BadStand rfl) d6))) (d5 (j6 (b4g (K:=K)) (by rfl) T.z_isinstance PyProof.Rows.boot_isinstance (d5 (pv 4) (d5 (c8a T.z_ValueError d0t rfl) d6))) d6))))
     (g0 (z8 (a8c (K:=K) (pv 2) (d5 (c3x (pv 5) (a1b (j6 (b5i (K:=K)) (by rfl) T.z_isinstance PyProof.Rows.boot_isinstance (d5 (pv 4) (d5 (t7 (d5 (b0y T.c_NoText rfl) (d5 (a5v T.c_NoTurn rfl) (d5 (b0y T.c_NoWaiting rfl) (d5 (b0y T.c_TooMany rfl) d6))))) d6))))) d6))))))
  fail "";refine⟨Nat.zero_le _,λk0 hk0=>?_⟩;fail "";have sk:=i3 (o:=.lst []) hk0;rw[t5];refine x8 (λz=>?_) (λz=>?_)
  ·fail ""
   refine⟨a,x,rfl,st.same sk,en,lo,lb,lg,lt,λgs la H2 hla s2 lq=>?_,λng o H2 s2=>?_⟩
   ·fail ""
    refine⟨la,x,rfl,lq,gs,lo,lb,λp H3 hp s3 st3=>?_⟩;fail "";refine⟨by show 2<=sizeLine;decide,λtp htp=>?_⟩
    have s0:Same H H3:=sk.trans (s2.trans s3);exact(k gs).2 tp k0 (.ref p) _ (s0.free htp) hk0 (s0.trans (i3 htp)) d8 (i3 htp _ _ (s3 _ _ (s2 _ _ d8))) (λ_=>⟨p,rfl,st3.same (i3 htp)⟩) (λy=>by lia)
   fail "a"
  ·fail ""
   refine⟨a,x,rfl,st.same sk,en,by lia,by lia,lg,lt,λgs=>⟨(k gs).1,λH2 s2=>?_⟩,λng o H2 s2=>?_⟩
   ·fail ""
    refine⟨by show 2<=sizeLine;decide,λtp htp=>?_⟩
    have s0:Same H H2:=sk.trans s2;exact(k gs).2 tp k0 (.str (standT x)) _ (s0.free htp) hk0 (s0.trans (i3 htp)) d8 (i3 htp _ _ (s2 _ _ d8)) (λy=>by lia) (λ_=>rfl)
   fail "a"
theorem b3e{H H1 H2:Hp}{w:Addr}(s:Same H H1)(n:H w=none)(b:But w H1 H2):Same H H2:=λx o e=>b x o (s x o e) (g9 e n)
theorem TenB.l{j:Nat}{l:List Int}(h:TenB j l)(j2:j<=2):c5v l:=λv hv=>by have:=h v hv;lia
theorem HTenB.l{j:Nat}{u:Hr}(h:HTenB j u)(j2:j<=2):d0y u:=by
 cases u with
 | non=>trivial
 | int v=>have h:v.natAbs<10 ^ 59+1+j:=h;show v.natAbs<10 ^ 60;lia
theorem c1d{j n:Nat}{os:List (List Int)}(h:OrdB j os)(j2:j<=2)(g:b4w n os)(n8:n<=8)(l:os.length<=5+j):b5j os:=⟨by lia,λo ho=>⟨Nat.le_trans (g o ho).2 n8,(h o ho).l j2⟩⟩
theorem c6c{j:Nat}{x:Sd}(h:TenA j x)(j2:j<=2)(g:a5g x):d1c x where
 c:=h.c.l j2
 gs:=h.gs
 gh:=h.gh.l j2
 gm:=h.gm.l j2
 gl:=by have:=h.gl;lia
 go:=by have:=h.go;lia
 gp:=by have:=h.gp;lia
 ts:=h.ts
 th:=h.th.l j2
 tm:=h.tm.l j2
 tl:=by have:=h.tl;lia
 tf:=h.tf.l j2
 tn:=by have:=h.tn;lia
 te:=by have:=h.te;lia
 tp:=h.tp.l j2
 tq:=by have:=h.tq;lia
 os:=c1d h.os j2 g.os g.c.n8 h.ol
 ol:=by have:=h.ol;lia
 bk:=c1d h.bk j2 g.bk g.c.n8 h.bl
 bl:=by have:=h.bl;lia
theorem d3l{H:Hp}{n:Nat}{p q:Addr}{bs:List Bool}(ne:p≠q)(hp:H p=some (.lst (bs.map V.bl)))(hq:H q=some (.lst (bs.map V.bl))):EqD K H (n+1) (.ref p) (.ref q) true:=by
 have:=EqD.lst (K:=K) (n:=n) (e:=λ_=>true) ne (SqL.of hp) (SqL.of hq) rfl λj x y hx hy=>by
  rw[hx] at hy;cases hy;rw[List.getElem?_map] at hx;cases e:bs[j]? with
  | none=>rw[e] at hx;cases hx
  | some i=>rw[e] at hx;cases hx;exact c5l rfl (by cases i <;> rfl)
 rw[show(List.range (bs.map V.bl).length).all (λ_=>true)=true by simp] at this
 exact this
theorem b6z{H:Hp}{p q k l:Addr}{u v:V}{bs:List Bool}(hp:H p=some (.tup [.ref k,u]))(hq:H q=some (.tup [.ref l,v]))(ne:k≠l)(hk:H k=some (.lst (bs.map V.bl)))(hl:H l=some (.lst (bs.map V.bl)))(e:EqD K H 3 u v true):EqD K H 4 (.ref p) (.ref q) true:=by
 refine b5f hp hq rfl λj x y hx hy=>?_
 match j with
 | 0=>cases hx;cases hy;exact d3l ne hk hl
 | 1=>cases hx;cases hy;exact e
 | j+2=>cases hx
theorem d0k{H:Hp}{p q:Addr}{a b c d:V}(ne:p≠q)(hp:H p=some (.lst [a,b]))(hq:H q=some (.lst [c,d]))(e:EqD K H 4 a c true)(e':EqD K H 4 b d true):EqD K H 5 (.ref p) (.ref q) true :=
 EqD.lst (K:=K) (n:=4) (e:=λ_=>true) ne (SqL.of hp) (SqL.of hq) rfl λj x y hx hy=>by
  match j with
  | 0=>cases hx;cases hy;exact e
  | 1=>cases hx;cases hy;exact e'
  | j+2=>cases hx
def AskU(x:Sd)(j:Nat)(u:V)(H:Hp):Prop:=(a5g x->(j=0->∃p,u=.ref p/\ST H p x)/\(j=1->u=.str (standT x)))/\(¬ a5g x->u=.non)
theorem AskU.tp{x:Sd}{j:Nat}{u:V}{H H':Hp}(h:AskU x j u H)(t:Tp H H'):AskU x j u H' :=
 ⟨λg=>⟨λz=>let ⟨p,e,s⟩:=(h.1 g).1 z;⟨p,e,s.tp t⟩,(h.1 g).2⟩,h.2⟩
def AskV(x:Sd)(bs:List Bool)(H0 H:Hp)(D:Addr)(j:Nat)(v:V):Prop:=∃tp kk u,v=.ref tp/\H tp=some (.tup [.ref kk,u])/\H kk=some (.lst (bs.map V.bl))/\H0 kk=none/\kk≠D/\AskU x j u H
theorem AskV.step{x:Sd}{bs:List Bool}{H0 H H':Hp}{D:Addr}{j:Nat}{v:V}{ys:List V}{o:HO}(h:AskV x bs H0 H D j v)(s:Same H H')(e:H' D=some (.lst ys)):AskV x bs H0 (upd H' D o) D j v:=by
 obtain⟨tp,kk,u,rfl,e1,e2,e3,e4,e5⟩:=h;exact⟨tp,kk,u,rfl,Tp.lst e _ _ (s _ _ e1),(f9 e4).trans (s _ _ e2),e3,e4,(e5.tp (.same s)).tp (Tp.lst e)⟩
def c0v(K:Frag):Sp:=λvs H Q _=>∃(a:Addr)(ns:List Int),vs=[.ref a]/\SqL K H a (ns.map V.int)/\ns.length<=63/\∀H',Q (.bl true) H'
abbrev b5y:Stmt:=top 163
theorem b1v:i8 ["script","k","well","stand","turn","due"] ["script"] (g6 b5y):=↑1
theorem d2g{
        fa:Addr}{fd:FuncData}(D:Fun K "law" "law" b5y fa fd)(T:Txt K mg cl)(G_law_take:FnT P w K mg base "_law_take" 1 ["well","many"] a0e)(G_law_well:FnT P w K mg base "_law_well" 1 ["script","k"] (b2s K))(G_law_any_stand:FnT P w K mg base "_law_any_stand" 4 ["well"] (a6c cl))(G_law_bent:FnT P w K mg base "_law_bent" 3 ["well","stand"] b2t)(G_law_is_stand:FnT P w K mg base "_law_is_stand" 3 ["stand"] a6r)(G_law_written:FnT P w K mg base "_law_written" 2 ["stand"] a8k)(G_law_asked:FnT P w K mg base "_law_asked" 10 ["way","stand"] (b1p cl)):FnOk P w K mg base (CXK P w) 11 fa fd ["script"] (c0v K):=by
 refine D.okX b1v (λvs H Q E h=>?_) (λcdv A outer s H vs Q E hr h=>?_)
 ·obtain⟨a,ns,rfl,_⟩:=h
  rfl
 ·obtain⟨a,ns,rfl,hS,hl,k⟩:=h
  refine⟨_,(d7 (b3h a5w rfl (a1e rfl T.z_range (d5 (j6 (b9i rfl) (by rfl) T.z_max PyProof.Rows.boot_max (d5 d9 (d5 (j6 (c5p rfl) (by rfl) T.z_min PyProof.Rows.boot_min (d5 d9 (d5 (j6 (j5 (K:=K)) (by rfl) T.z_len PySem.boot_len (d5 (pv 0) d6)) d6))) d6))) d6)) (i4 (i:=1) b1v.nd rfl (by first|exact Or.inl rfl|exact Or.inr rfl))
     (
     d7 (j7 (i:=2) b1v.nd rfl (by first|exact Or.inl rfl|exact Or.inr rfl) (l8 G_law_well hr (by decide) rfl j8 (d5 (pv 0) (d5 (pv 1) d6))))
     (d7 (j7 (i:=3) b1v.nd rfl (by first|exact Or.inl rfl|exact Or.inr rfl) (l8 G_law_any_stand hr (by decide) rfl j8 (d5 (pv 2) d6)))
     (d7 (b3h a5w rfl (a1e rfl T.z_range (d5 (@x9 _ _ _ _ _ _ _ (m3 (K:=K)) (l7 (d5 d9 (d5 d9 (d5 d9 d6)))) (l8 G_law_take hr (by decide) rfl j8 (d5 (pv 2) (d5 d9 d6))) (λ_ _=>rfl)) d6)) (i4 (i:=4) b1v.nd rfl (by first|exact Or.inl rfl|exact Or.inr rfl))
       (g0 (j7 (i:=3) b1v.nd rfl (by first|exact Or.inl rfl|exact Or.inr rfl) (l8 G_law_bent hr (by decide) rfl j8 (d5 (pv 2) (d5 (pv 3) d6))))))
     (d7 (j7 (i:=5) b1v.nd rfl (by first|exact Or.inl rfl|exact Or.inr rfl) (j3 c8b (l7 (d5 (t7 (d5 (l7 (d5 a5b (d5 a5b (d5 a5b d6)))) (d5 a2z d6))) d6)) d9))
     (d7 (v9 (a2d (l8 G_law_is_stand hr (by decide) rfl j8 (d5 (pv 3) d6)))
       (g0 (j7 (i:=5) b1v.nd rfl (by first|exact Or.inl rfl|exact Or.inr rfl) (l7 (d5 (t7 (d5 (l7 d6) (d5 (pv 3) d6))) (d5 (t7 (d5 (l7 d6) (d5 (l8 G_law_written hr (by decide) rfl j8 (d5 (pv 3) d6)) d6))) d6)))))
       k7)
     (g0 (v9 (i6 (b8d (K:=K) (n:=4) (huN hr 5)) (a1k (N:=["way","stand"]) (nt:=1) (fr:=[3]) rfl (a3f (i:=3) rfl rfl (by decide +kernel) (by decide +kernel) rfl rfl rfl rfl rfl rfl rfl) (a1e rfl T.z_range (d5 d9 d6)) (z9 (by decide)) (λ_ _ _ _ _=>i4 (i:=0) (show(["way","stand"]:List Str).Nodup by decide +kernel) rfl (Or.inl rfl) (Or.inr rfl)) (λ_ _ _ _ _=>(l8 G_law_asked hr (by decide) rfl b4o (d5 (pv 0) (d5 (pv 1) d6))))) (pv 5) (i7 _))
      (g0 (j4 a5b))
      k7))))))))
   (g0 (j4 a5b))),?_⟩
  have hlen:(ns.map V.int).length=ns.length:=List.length_map _;fail "";refine⟨a,_,rfl,.inl hS,?_⟩;fail "";rw[hlen];refine⟨_,_,rfl,?_⟩;fail "";refine⟨_,_,rfl,?_⟩;fail "";refine a7z (λi σ H'=>∃x1 x2 x3 x4 x5,σ=[some (.ref a),x1,x2,x3,x4,x5]/\Same H H') ⟨_,_,_,_,_,rfl,Same.refl _⟩ ?_ ?_
  ·rintro i σ H1 hi ⟨x1,x2,x3,x4,x5,rfl,s1⟩
   have hi:i<20:=by
    have:(if (if (ns.length:Int)<20 then (ns.length:Int) else 20) > 1 then (if (ns.length:Int)<20 then (ns.length:Int) else 20) else 1).toNat<=20:=by split <;> (try split) <;> lia
    lia
   fail "";refine⟨a,ns,i,by rw[show(0+(i:Int))=(i:Int) by lia],s1.seq hS,by lia,λw0 H2 n0 s2 hw2=>?_⟩
   have hw0:H w0=none:=s1.free n0;have s02:=s1.trans s2;clear s1 s2 n0;fail "";refine⟨w0,rfl,hw2,λp x H3 hp w3 b3 st gs tn lo lb=>?_⟩;have s03:=b3e s02 hw0 b3;have en:x.n=x.c.length / 4-1:=by have:=gs.c.len;lia
   clear gs lo lb s02 b3 hw2 hp;fail "";refine⟨by show 3<=sizeLine;decide,λl1 hl1=>?_⟩
   have nl1:=w3.ne hl1;generalize u4:upd H3 l1 _=H4;obtain⟨s4,f1⟩:=nwS u4 hl1;replace st:=st.same s4;replace w3:=w3.same s4;replace s03:=s03.trans s4;clear u4 s4 hl1;fail "";refine⟨w0,3,rfl,w3,by decide,by decide,λr H5 a5 c5 w5 b5=>?_⟩
   replace st:=st.tp (.but w3 b5);replace s03:=b3e s03 hw0 b5;obtain⟨m,hm,g5⟩:=b7d (as:=[1,1,2]) a5 c5;refine a3w (b5 _ _ f1 nl1) g5 ?_;have hm:m=1\/m=2:=by
    simp only[List.mem_cons,List.not_mem_nil,or_false] at hm;lia
   clear b5 w3 f1 g5 nl1;fail "";refine a7z (λj σ H'=>∃q y x4,σ=[some (.ref a),some (.int (0+(i:Int))),some (.ref w0),some (.ref q),x4,x5]/\Well H' w0/\Same H H'/\ST H' q y/\TenA j y/\y.n=y.c.length / 4-1) ⟨p,x,_,rfl,w5,s03,st,tn,en⟩ ?_ ?_
   ·rintro j σ H12 hj ⟨q,y,x4,rfl,w12,s12,sq,tq,eq⟩
    fail "";refine⟨w0,q,y,j,rfl,w12,sq,tq,eq,by lia,λq' y' H13 w13 b13 sq' tq' eq'=>?_⟩
    fail "";exact⟨q',y',_,rfl,w13,b3e s12 hw0 b13,sq',tq',eq'⟩
   ·rintro σ H12 ⟨q,y,x4,rfl,w12,s12,sq,tq,eq⟩
    have j2:m.toNat<=2:=by lia
    have hgood:=c6c tq j2;clear st tn en s03 w5;fail "";refine⟨by show 3<=sizeLine;decide,λd1 hd1=>?_⟩
    generalize u13:upd H12 d1 _=H13;obtain⟨s13,f1⟩:=nwS u13 hd1;replace sq:=sq.same s13;replace w12:=w12.same s13;replace s12:=s12.trans s13;clear u13 s13 hd1;fail "";refine⟨by show 2<=sizeLine;decide,λd2 hd2=>?_⟩
    generalize u14:upd H13 d2 _=H14;obtain⟨s14,f2⟩:=nwS u14 hd2;replace sq:=sq.same s14;replace f1:=s14 _ _ f1;replace w12:=w12.same s14;replace s12:=s12.trans s14;clear u14 s14 hd2;fail "";refine⟨by show 1<=sizeLine;decide,λd3 hd3=>?_⟩
    generalize u15:upd H14 d3 _=H15;obtain⟨s15,f3⟩:=nwS u15 hd3;replace sq:=sq.same s15;replace f1:=s15 _ _ f1;replace f2:=s15 _ _ f2;replace w12:=w12.same s15;replace s12:=s12.trans s15;clear u15 s15 hd3;fail "";refine⟨d3,2,_,rfl,rfl,f3,by decide,by decide,by show 2<=_;decide,λd4 hd4=>?_⟩
    generalize u16:upd H15 d4 _=H16;obtain⟨s16,f4⟩:=nwS u16 hd4;replace f4:H16 d4=some (.lst [.ref d2,.ref d2]):=f4;replace sq:=sq.same s16;replace f1:=s16 _ _ f1;replace f2:=s16 _ _ f2;replace w12:=w12.same s16;replace s12:=s12.trans s16;clear u16 s16 hd4 f3;refine a2a ?_;refine lit [some (.ref a),some (.int (0+(i:Int))),some (.ref w0),some (.ref q),x4,some (.ref d4)] (by rfl) ?_
    fail "";have l1:=tq.lc;have l2:=tq.ol;have l3:=tq.bl;have l4:=tq.gl;have l5:=tq.tl;refine⟨q,y,rfl,sq,eq,by lia,by lia,by lia,by lia,by lia,λbb H17 hb s17=>?_⟩
    replace sq:=sq.same s17;replace f1:=s17 _ _ f1;replace f2:=s17 _ _ f2;replace f4:=s17 _ _ f4;replace s12:=s12.trans s17;clear s17 w12;rename_i nX hX;have fin:∀(du e0 e1:Addr)(bs:List Bool)(H':Hp),H' du=some (.lst [.ref e0,.ref e1])->ST H' q y->Same H H'->(a5g y->bs=[])->(¬ a5g y->bs=[true,true,false])->(∀(j:Nat)(tp kk:Addr)(u:V)(H2:Hp),Same H' H2->H2 tp=some (.tup [.ref kk,u])->H2 kk=some (.lst (bs.map V.bl))->H' kk=none->AskU y j u H2->(j=0->EqD K H2 4 (.ref tp) (.ref e0) true)/\(j=1->EqD K H2 4 (.ref tp) (.ref e1) true))->nX [some (.ref a),some (.int (0+(i:Int))),some (.ref w0),some (.ref q),x4,some (.ref du)] H':=by
     intro du e0 e1 bs H' edu sq' s' bg bb' heq;refine c0f hX ?_;fail "";refine a2l (n:=Int.toNat 2) (by decide) (λD i acc H2=>H2 D=some (.lst acc)/\Same H' H2/\acc.length=i/\∀(j:Nat)(v:V),acc[j]?=some v->AskV y bs H' H2 D j v) (λD hD=>⟨d8,i3 hD,rfl,λj v h=>by cases h⟩) (λD i acc H2 h=>⟨h.1,h.2.2.1⟩) ?_ ?_
     ·rintro D i acc H2 hD hi ⟨e,s,l,r⟩
      have hi:i<2:=hi;have put:∀(tp kk:Addr)(u:V)(H4:Hp),H2 kk=none->Same H2 H4->H4 tp=some (.tup [.ref kk,u])->H4 kk=some (.lst (bs.map V.bl))->AskU y i u H4->H4 D=some (.lst acc)/\(upd H4 D (.lst (acc++[.ref tp])) D=some (.lst (acc++[.ref tp]))/\Same H' (upd H4 D (.lst (acc++[.ref tp])))/\(acc++[V.ref tp]).length=i+1/\∀(j:Nat)(v:V),(acc++[V.ref tp])[j]?=some v->AskV y bs H' (upd H4 D (.lst (acc++[.ref tp]))) D j v):=by
       intro tp kk u H4 hkk s4 etp ekk au;have e4:=s4 _ _ e;have nkD:kk≠D:=(g9 e hkk).symm;refine⟨e4,d8,(s.trans s4).set hD,by rw[List.length_append,l];rfl,λj v hj=>?_⟩
       by_cases z:j<acc.length
       ·rw[List.getElem?_append_left z] at hj
        exact(r j v hj).step s4 e4
       ·have hji:j=i:=by
         have:=(List.getElem?_eq_some_iff.mp hj).1;rw[List.length_append] at this;have:j<acc.length+1:=this;lia
        subst hji;rw[List.getElem?_append_right (by lia),l,Nat.sub_self] at hj
        cases hj;exact⟨tp,kk,u,rfl,Tp.lst e4 _ _ etp,(f9 nkD).trans ekk,s.free hkk,nkD,au.tp (Tp.lst e4)⟩
      refine a2a ?_;fail "";refine⟨0+(i:Int),q,y,rfl,by lia,sq'.same s,eq,by lia,by lia,by lia,by lia,λgs=>⟨hgood gs,λtp kk u H4 htp hkk s4 etp ekk h0 h1=>?_⟩,λng tp kk H4 htp hkk s4 etp ekk=>?_⟩
      ·exact put tp kk u H4 hkk s4 etp (by rw[bg gs];exact ekk) ⟨λ_=>⟨λz=>h0 (by lia),λz=>h1 (by lia)⟩,λng=>absurd gs ng⟩
      ·exact put tp kk .non H4 hkk s4 etp (by rw[bb' ng];exact ekk) ⟨λgs=>absurd gs ng,λ_=>rfl⟩
     ·rintro D acc H2 hD ⟨e,s,l,r⟩
      obtain⟨v0,v1,rfl⟩:∃v0 v1,acc=[v0,v1]:=by
       match acc,l with
       | [v0,v1],_=>exact⟨v0,v1,rfl⟩
      obtain⟨tp0,k0,u0,rfl,a1,a2,a3,_,a5⟩:=r 0 v0 rfl;obtain⟨tp1,k1,u1,rfl,b1,b2,b3,_,b5⟩:=r 1 v1 rfl;fail "";refine c5b (d0k (g9 edu hD).symm e (s _ _ edu) ((heq 0 tp0 k0 u0 H2 s a1 a2 a3 a5).1 rfl) ((heq 1 tp1 k1 u1 H2 s b1 b2 b3 b5).2 rfl)) ?_;fail "";exact⟨_,_,_,_,_,rfl,s'.trans s⟩
    clear hX;cases bb with
    | true=>
     have gs:a5g y:=hb.mp rfl;have tg:=hgood gs;clear f1 f2 f4 hb;fail "";refine⟨Nat.zero_le _,λl1' hl1=>?_⟩;generalize u18:upd H17 l1' _=H18;obtain⟨s18,f1⟩:=nwS u18 hl1;replace sq:=sq.same s18;replace s12:=s12.trans s18;clear u18 s18 hl1;fail "";refine⟨by show 2<=sizeLine;decide,λe0 he0=>?_⟩
     generalize u19:upd H18 e0 _=H19;obtain⟨s19,f2⟩:=nwS u19 he0;replace sq:=sq.same s19;replace f1:=s19 _ _ f1;replace s12:=s12.trans s19;clear u19 s19 he0;fail "";refine⟨Nat.zero_le _,λl2' hl2=>?_⟩;generalize u20:upd H19 l2' _=H20;obtain⟨s20,f3⟩:=nwS u20 hl2;replace sq:=sq.same s20;replace f1:=s20 _ _ f1;replace f2:=s20 _ _ f2;replace s12:=s12.trans s20;clear u20 s20 hl2;fail "";refine⟨q,y,rfl,sq,by lia,tg,λH21 s21=>?_⟩
     replace sq:=sq.same s21;replace f1:=s21 _ _ f1;replace f2:=s21 _ _ f2;replace f3:=s21 _ _ f3;replace s12:=s12.trans s21;clear s21;fail "";refine⟨by show 2<=sizeLine;decide,λe1 he1=>?_⟩
     generalize u22:upd H21 e1 _=H22;obtain⟨s22,f4⟩:=nwS u22 he1;replace sq:=sq.same s22;replace f1:=s22 _ _ f1;replace f2:=s22 _ _ f2;replace f3:=s22 _ _ f3;replace s12:=s12.trans s22;clear u22 s22 he1;fail "";refine⟨by show 2<=sizeLine;decide,λdu hdu=>?_⟩
     generalize u23:upd H22 du _=H23;obtain⟨s23,f5⟩:=nwS u23 hdu;replace sq:=sq.same s23;replace f1:=s23 _ _ f1;replace f2:=s23 _ _ f2;replace f3:=s23 _ _ f3;replace f4:=s23 _ _ f4;replace s12:=s12.trans s23;clear u23 s23 hdu;refine a2a ?_;refine lit [some (.ref a),some (.int (0+(i:Int))),some (.ref w0),some (.ref q),x4,some (.ref du)] (by rfl) ?_
     refine fin du e0 e1 [] H23 f5 sq s12 (λ_=>rfl) (λng=>absurd gs ng) λj tp kk u H2 s2 etp ekk hkk au=>⟨λz=>?_,λz=>?_⟩
     ·obtain⟨p',rfl,sp'⟩:=(au.1 gs).1 z
      exact b6z (bs:=[]) etp (s2 _ _ f2) (g9 f1 hkk).symm ekk (s2 _ _ f1) (d3k sp' (sq.same s2))
     ·obtain rfl:=(au.1 gs).2 z
      exact b6z (bs:=[]) etp (s2 _ _ f4) (g9 f3 hkk).symm ekk (s2 _ _ f3) (d0l _)
    | false=>
     have ng:¬ a5g y:=λz=>by cases hb.mpr z
     clear hb;fail "";have heq:∀(j:Nat)(tp kk:Addr)(u:V)(H2:Hp),Same H17 H2->H2 tp=some (.tup [.ref kk,u])->H2 kk=some (.lst ([true,true,false].map V.bl))->H17 kk=none->AskU y j u H2->EqD K H2 4 (.ref tp) (.ref d2) true:=by
      intro j tp kk u H2 s2 etp ekk hkk au;obtain rfl:=au.2 ng;exact b6z (bs:=[true,true,false]) etp (s2 _ _ f2) (g9 f1 hkk).symm ekk (s2 _ _ f1) (c5l rfl rfl)
     exact fin d4 d2 d2 [true,true,false] H17 f4 sq s12 (λgs=>absurd gs ng) (λ_=>rfl) λj tp kk u H2 s2 etp ekk hkk au=>⟨λ_=>heq j tp kk u H2 s2 etp ekk hkk au,λ_=>heq j tp kk u H2 s2 etp ekk hkk au⟩
  ·rintro σ H1 ⟨x1,x2,x3,x4,x5,rfl,s1⟩
   fail "";exact k _
end
section
open PySem PySem.Spec L2
section
variable{P:Program}{w:World}{base:Heap}{K:Frag}{mg:Str->Option Value}
theorem MethT.lift{C:Addr}{m:Str}{j k:Nat}{qs:List Str}{sp:Sp}(M:MethT P w K mg base C m j qs sp)(h:j<=k):MethT P w K mg base C m k qs sp:=by
 obtain⟨f,fd,F,hm,hb⟩:=M.ex;exact⟨f,fd,F.mono h,hm,hb⟩
inductive AtF(K:Frag)(f:Addr)(x q:Str)(st:Stmt):Prop
 | of {oc:Value} {od:Option Addr} {kV dc pm cd ct:Value} {an:Option Addr} {sl:Array (Option Value)} (l:K.lookup f=some ⟨oc,od,.func (PySem.W.fnOf x q (a2b st) (a1f st) (g6 st) .none kV dc pm an cd ct),sl⟩) (c:codeIn K cd q=true) (k:keepIn K (.ref f)=true):AtF K f x q st
abbrev BA(x q:Str)(st:Stmt)(ps:List Str):Prop:=∀(kV doc pm:Value)(an:Option Addr)(cdv ct:Value)(us:List Value),us.length=ps.length->bindArgs (PySem.W.fnOf x q (a2b st) (a1f st) (g6 st) .none kV doc pm an cdv ct) ⟨us,[]⟩=pure (ps.zip us)
theorem ba0{β:Type}{F G:List Value->β}(h:F []=G [])(us:List Value)(e:us.length=0):F us=G us:=by
 cases us with
 | nil=>exact h
 | cons=>cases e
theorem ba1{β:Type}{F G:List Value->β}(h:∀a,F [a]=G [a])(us:List Value)(e:us.length=1):F us=G us:=by
 cases us with
 | nil=>cases e
 | cons a t=>exact ba0 (F:=λt=>F (a::t)) (G:=λt=>G (a::t)) (h a) t (Nat.succ.inj e)
theorem ba2{β:Type}{F G:List Value->β}(h:∀a b,F [a,b]=G [a,b])(us:List Value)(e:us.length=2):F us=G us:=by
 cases us with
 | nil=>cases e
 | cons a t=>exact ba1 (F:=λt=>F (a::t)) (G:=λt=>G (a::t)) (h a) t (Nat.succ.inj e)
theorem ba3{β:Type}{F G:List Value->β}(h:∀a b c,F [a,b,c]=G [a,b,c])(us:List Value)(e:us.length=3):F us=G us:=by
 cases us with
 | nil=>cases e
 | cons a t=>exact ba2 (F:=λt=>F (a::t)) (G:=λt=>G (a::t)) (h a) t (Nat.succ.inj e)
theorem ba4{β:Type}{F G:List Value->β}(h:∀a b c d,F [a,b,c,d]=G [a,b,c,d])(us:List Value)(e:us.length=4):F us=G us:=by
 cases us with
 | nil=>cases e
 | cons a t=>exact ba3 (F:=λt=>F (a::t)) (G:=λt=>G (a::t)) (h a) t (Nat.succ.inj e)
theorem ba5{β:Type}{F G:List Value->β}(h:∀a b c d e,F [a,b,c,d,e]=G [a,b,c,d,e])(us:List Value)(e:us.length=5):F us=G us:=by
 cases us with
 | nil=>cases e
 | cons a t=>exact ba4 (F:=λt=>F (a::t)) (G:=λt=>G (a::t)) (h a) t (Nat.succ.inj e)
theorem AtF.t{h:Heap}{x:Str}{st:Stmt}{ps:List Str}{f:Addr}(X:K.In h)(G:h.Ns mainGlobals mg)(a:nsIn K mainGlobals x=some (some (.ref f)))(l:AtF K f x x st)(hb:BA x x st ps):DefT K mg x st ps :=
 by cases l with|of l c k=>exact .mk' X G a l c k hb
theorem AtF.m{C:Addr}{m q:Str}{st:Stmt}{ps:List Str}{f:Addr}(a:findIn K (.ref C) m=some (some (.ref f)))(i:isFn K (.ref f)=true)(l:AtF K f m q st)(hb:BA m q st ps):DefM K C m q st ps :=
 by cases l with|of l c k=>exact .mk' a i l c k hb
theorem AtF.k{f:Addr}{x q:Str}{st:Stmt}(l:AtF K f x q st):keepIn K (.ref f)=true:=by cases l with|of l c k=>exact k
inductive AtG(K:Frag)(x:Str)(st:Stmt):Prop
 | mk {f:Addr} (d:nsIn K mainGlobals x=some (some (.ref f))) (l:AtF K f x x st):AtG K x st
theorem AtG.of{x:Str}{st:Stmt}{f:Addr}{oc:Value}{od:Option Addr}{kV dc pm cd ct:Value}{an:Option Addr}{sl:Array (Option Value)}(d:nsIn K mainGlobals x=some (some (.ref f)))(l:K.lookup f=some ⟨oc,od,.func (PySem.W.fnOf x x (a2b st) (a1f st) (g6 st) .none kV dc pm an cd ct),sl⟩)(c:codeIn K cd x=true)(k:keepIn K (.ref f)=true):AtG K x st:=⟨d,.of l c k⟩
theorem AtG.t{h:Heap}{x:Str}{st:Stmt}{ps:List Str}(l:AtG K x st)(X:K.In h)(G:h.Ns mainGlobals mg)(hb:BA x x st ps):DefT K mg x st ps:=by cases l with|mk d l=>exact AtF.t X G d l hb
inductive AtM(K:Frag)(C:Addr)(m q:Str)(st:Stmt):Prop
 | mk {f:Addr} (d:findIn K (.ref C) m=some (some (.ref f))) (i:isFn K (.ref f)=true) (l:AtF K f m q st):AtM K C m q st
theorem AtM.of{C:Addr}{m q:Str}{st:Stmt}{f:Addr}{oc:Value}{od:Option Addr}{kV dc pm cd ct:Value}{an:Option Addr}{sl:Array (Option Value)}(d:findIn K (.ref C) m=some (some (.ref f)))(i:isFn K (.ref f)=true)(l:K.lookup f=some ⟨oc,od,.func (PySem.W.fnOf m q (a2b st) (a1f st) (g6 st) .none kV dc pm an cd ct),sl⟩)(c:codeIn K cd q=true)(k:keepIn K (.ref f)=true):AtM K C m q st:=⟨d,i,.of l c k⟩
theorem AtM.m{C:Addr}{m q:Str}{st:Stmt}{ps:List Str}(l:AtM K C m q st)(hb:BA m q st ps):DefM K C m q st ps:=by cases l with|mk d i l=>exact AtF.m d i l hb
end
end
open PySem L2
theorem all_mk{l:PySem.W.OpenLaw}{w:World}{K:Frag}{h:Heap}{mg:Str->Option Value}{fa:Addr}{aC ai an aj al am ah ag ao ay ar af aK az aA aD ae ac aa ab ad:Addr}{fs:Tok}{fI:Tok}{ge:Tok}{bI:Tok}{iq:Tok}{ec:Tok}{ed:Tok}{hg:Tok}{gM:Tok}{bs:Tok}{jh:Tok}{gj:Tok}{iF:Tok}{av:Addr}{iK:Nat}{bw:Array (Option Value)}{es cN:Tok}{au:Addr}{iR:Nat}{gp:Array (Option Value)}{jv hZ bE iC:Tok}{aE:Addr}{gY:Nat}{bT:Array (Option Value)}{ey fL ix ci bu cf:Tok}{aI:Addr}{iy:Nat}{gI:Array (Option Value)}{fk cX bP:Tok}{aH:Addr}{di:Nat}{hs:Array (Option Value)}{fv ct ek jy ha hH cT dz gQ du cS ij im dX fR dw cO fZ:Tok}{aF:Addr}{cs:Nat}{fw:Array (Option Value)}{gx dd jJ hr cm fG gA iS cb cd bz ja cJ gR ds dE:Tok}{aU bg aO aq ap aw:Addr}{hk bl bk bi ax bo:Value}{iu aP:Option Addr}{hd:Array (Option Value)}(eu:AtG K "check_size" a7d)(ip:AtG K "check_turn" a7c)(gJ:AtG K "distance" b0v)(eB:AtG K "check_hand" a7e)(ev:AtG K "mark_cell" a8v)(jE:AtG K "card_cell" a9a)(ji:AtG K "bell_cell" a9b)(fU:AtG K "new_cells" a8t)(jm:AtG K "marks_among" a5o)(bY:AtG K "size_of_cells" a3n)(dt:AtG K "check_numbers" a3s)(cK:AtG K "order_of" a4z)(eU:AtG K "orders_of" a3o)(fe:AtG K "orders_told" a5m)(bM:AtG K "frozen" b5z)(fo:AtG K "stand_of" b0q)(ga:AtG K "size_of_stand" a3m)(iU:AtG K "turn_fits" a8q)(bU:AtG K "marks_fit" a8u)(fE:AtG K "part_fits" a8s)(en:AtG K "giver_fits" a7b)(dr:AtG K "reading_fits" a4k)(de:AtG K "parts_fit" a8r)(bF:AtG K "taker_fits" a6z)(hY:AtG K "check_stand" a5r)(gd:AtG K "lane_standing" a3r)(iJ:AtG K "lane_at" b3g)(et:AtG K "numbers_text" a4l)(gk:AtG K "turn_text" a8p)(iT:AtG K "orders_text" a5n)(fN:AtG K "row_text" b0r)(bN:AtG K "stand_text" a7a)(je:AtG K "_law_well" b0s)(dK:AtG K "_law_take" b0t)(eI:AtG K "_law_order" a8x)(hN:AtG K "_law_far" b3f)(gu:AtG K "_law_giver" a8y)(eA:AtG K "_law_taker" a8w)(jH:AtG K "_law_any_stand" a3q)(bL:AtG K "_law_is_turn" a5q)(hR:AtG K "_law_are_seen" a4p)(ig:AtG K "_law_is_giver" a4o)(fA:AtG K "_law_is_taker" a4m)(ie:AtG K "_law_is_stand" a4n)(iP:AtG K "_law_bent_mind" a3p)(iV:AtG K "_law_bent_cells" a2w)(gt:AtG K "_law_bent_orders" a2g)(cE:AtG K "_law_bent" b0u)(gq:AtG K "_law_told_orders" a2f)(jj:AtG K "_law_written" a5p)(hW:AtG K "_law_asked" a8z)(bG:AtM K ae "__init__" "Board.__init__" a7m)(eP:AtM K ae "fill" "Board.fill" a7n)(ea:AtM K ae "all_cells" "Board.all_cells" a2i)(hu:AtM K ae "touches" "Board.touches" a7l)(eY:AtM K aa "__init__" "Giver.__init__" a7k)(eQ:AtM K aa "orders" "Giver.orders" a4s)(ez:AtM K aa "begins_order" "Giver.begins_order" a1h)(gB:AtM K aa "next_order" "Giver.next_order" a1t)(fM:AtM K aa "next_part" "Giver.next_part" a2h)(jI:AtM K aa "has_part" "Giver.has_part" a2x)(gc:AtM K aa "order_and_part" "Giver.order_and_part" a1a)(gT:AtM K aa "mind" "Giver.mind" a7j)(ik:AtM K aa "recall" "Giver.recall" a4r)(jq:AtM K ab "__init__" "Taker.__init__" a7g)(hP:AtM K ab "book" "Taker.book" a7h)(fx:AtM K ab "mind" "Taker.mind" a7f)(hC:AtM K ab "recall" "Taker.recall" a4q)(eZ:AtM K ad "__init__" "Lane.__init__" a9c)(fi:AtM K ad "place_giver" "Lane.place_giver" a1s)(cH:AtM K ad "place_taker" "Lane.place_taker" a1r)(eq:AtM K ad "book" "Lane.book" a9d)(ew:AtM K ad "orders" "Lane.orders" a5s)(fu:AtM K ad "cells" "Lane.cells" a7i)(X:K.In h)(G:h.Ns mainGlobals mg)(hfa:mg "law" = some (.ref fa))(fb:nsIn K mainGlobals "RingError" = some (some (.ref aC)))(dj:nsIn K mainGlobals "BadSize" = some (some (.ref ai)))(cQ:excIn K ai c5x "ValueError.__new__" = true)(ef:findIn K (.ref ai) "__getattribute__" = some (some (.builtin "BaseException.__getattribute__")))(gm:findIn K (.ref ai) "__getattr__" = some none)(gn:findIn K (.ref ai) "__class__" = some (some (.builtin "object.__class__")))(fX:mroIn K ai (.type "BaseException")=some true)(fT:mroIn K ai (.type "object")=some true)(dJ:(clsIn K ai).isSome=true)(eC:nsIn K mainGlobals "NoTurn" = some (some (.ref an)))(ir:excIn K an c5x "ValueError.__new__" = true)(jf:findIn K (.ref an) "__getattribute__" = some (some (.builtin "BaseException.__getattribute__")))(ht:findIn K (.ref an) "__getattr__" = some none)(eh:findIn K (.ref an) "__class__" = some (some (.builtin "object.__class__")))(hh:mroIn K an (.type "BaseException")=some true)(id:mroIn K an (.type "object")=some true)(he:(clsIn K an).isSome=true)(ff:nsIn K mainGlobals "BadMark" = some (some (.ref aj)))(ii:excIn K aj c5x "ValueError.__new__" = true)(gE:findIn K (.ref aj) "__getattribute__" = some (some (.builtin "BaseException.__getattribute__")))(jC:findIn K (.ref aj) "__getattr__" = some none)(cv:findIn K (.ref aj) "__class__" = some (some (.builtin "object.__class__")))(cF:mroIn K aj (.type "BaseException")=some true)(dO:mroIn K aj (.type "object")=some true)(fg:(clsIn K aj).isSome=true)(bv:nsIn K mainGlobals "Crooked" = some (some (.ref al)))(iW:excIn K al c5x "ValueError.__new__" = true)(iX:findIn K (.ref al) "__getattribute__" = some (some (.builtin "BaseException.__getattribute__")))(jB:findIn K (.ref al) "__getattr__" = some none)(cx:findIn K (.ref al) "__class__" = some (some (.builtin "object.__class__")))(gw:mroIn K al (.type "BaseException")=some true)(cc:mroIn K al (.type "object")=some true)(eE:(clsIn K al).isSome=true)(dB:nsIn K mainGlobals "NoCell" = some (some (.ref am)))(hl:excIn K am c5x "ValueError.__new__" = true)(jk:findIn K (.ref am) "__getattribute__" = some (some (.builtin "BaseException.__getattribute__")))(gg:findIn K (.ref am) "__getattr__" = some none)(gG:findIn K (.ref am) "__class__" = some (some (.builtin "object.__class__")))(ee:mroIn K am (.type "BaseException")=some true)(fp:mroIn K am (.type "object")=some true)(fj:(clsIn K am).isSome=true)(fn:nsIn K mainGlobals "BadCells" = some (some (.ref ah)))(hK:excIn K ah c5x "ValueError.__new__" = true)(dM:findIn K (.ref ah) "__getattribute__" = some (some (.builtin "BaseException.__getattribute__")))(ih:findIn K (.ref ah) "__getattr__" = some none)(dW:findIn K (.ref ah) "__class__" = some (some (.builtin "object.__class__")))(iO:mroIn K ah (.type "BaseException")=some true)(dn:mroIn K ah (.type "object")=some true)(jt:(clsIn K ah).isSome=true)(iH:nsIn K mainGlobals "BadOrder" = some (some (.ref ag)))(eL:excIn K ag c5x "ValueError.__new__" = true)(jG:findIn K (.ref ag) "__getattribute__" = some (some (.builtin "BaseException.__getattribute__")))(jd:findIn K (.ref ag) "__getattr__" = some none)(hp:findIn K (.ref ag) "__class__" = some (some (.builtin "object.__class__")))(bX:mroIn K ag (.type "BaseException")=some true)(hA:mroIn K ag (.type "object")=some true)(hJ:(clsIn K ag).isSome=true)(fz:nsIn K mainGlobals "NoHand" = some (some (.ref ao)))(it:excIn K ao c5x "ValueError.__new__" = true)(hz:findIn K (.ref ao) "__getattribute__" = some (some (.builtin "BaseException.__getattribute__")))(hQ:findIn K (.ref ao) "__getattr__" = some none)(fm:findIn K (.ref ao) "__class__" = some (some (.builtin "object.__class__")))(eK:mroIn K ao (.type "BaseException")=some true)(hD:mroIn K ao (.type "object")=some true)(dm:(clsIn K ao).isSome=true)(bx:nsIn K mainGlobals "NoWaiting" = some (some (.ref ay)))(cU:nsIn K mainGlobals "NotSound" = some (some (.ref ar)))(hx:nsIn K mainGlobals "BadStand" = some (some (.ref af)))(cV:excIn K af c5x "ValueError.__new__" = true)(bD:findIn K (.ref af) "__getattribute__" = some (some (.builtin "BaseException.__getattribute__")))(iw:findIn K (.ref af) "__getattr__" = some none)(cC:findIn K (.ref af) "__class__" = some (some (.builtin "object.__class__")))(fH:mroIn K af (.type "BaseException")=some true)(dx:mroIn K af (.type "object")=some true)(cB:(clsIn K af).isSome=true)(hj:nsIn K mainGlobals "TooMany" = some (some (.ref aK)))(jz:nsIn K mainGlobals "NoName" = some (some (.ref az)))(jo:nsIn K mainGlobals "NoText" = some (some (.ref aA)))(cR:nsIn K mainGlobals "NoRow" = some (some (.ref aD)))(dk:nsIn K mainGlobals "Board" = some (some (.ref ae)))(hS:nsIn K mainGlobals "Hand" = some (some (.ref ac)))(fy:nsIn K mainGlobals "Giver" = some (some (.ref aa)))(bK:nsIn K mainGlobals "Taker" = some (some (.ref ab)))(cy:nsIn K mainGlobals "Lane" = some (some (.ref ad)))(sg:specialIn K (.builtin "object.__class__") "__get__" = some (some (.builtin "getset_descriptor.__get__")))(tk:PySem.W.takesIn K (.builtin "object.__class__")=some true)(gO:nsIn K mainGlobals "NO_TURN_WORD" = some (some (.str "none" fs)))(jr:nsIn K mainGlobals "NO_ORDERS_WORD" = some (some (.str "-" fI)))(jx:nsIn K mainGlobals "LEAST_SIZE" = some (some (.int (2) ge)))(bB:nsIn K mainGlobals "MOST_SIZE" = some (some (.int (8) bI)))(gK:nsIn K mainGlobals "FREE" = some (some (.int (0) iq)))(cI:nsIn K mainGlobals "FULL" = some (some (.int (1) ec)))(eM:nsIn K mainGlobals "MOST_MARK" = some (some (.int (3) ed)))(iG:nsIn K mainGlobals "CELLS_OF_A_PLACE" = some (some (.int (4) hg)))(bV:nsIn K mainGlobals "NEW_MARK" = some (some (.int (2) gM)))(hf:nsIn K mainGlobals "NO_ORDER" = some (some (.int (-1) bs)))(bq:nsIn K mainGlobals "NO_TURN" = some (some (.int (-1) jh)))(gU:nsIn K mainGlobals "STILL" = some (some (.int (0) gj)))(fK:nsIn K mainGlobals "RUNG" = some (some (.int (1) iF)))(cu:nsIn K mainGlobals "HANDS" = some (some (.ref av)))(hO:K.lookup av=some ⟨.type "tuple",none,.seq #[.str "giver" es,.str "taker" cN] iK,bw⟩)(db:nsIn K mainGlobals "COMING_UP" = some (some (.ref au)))(dP:K.lookup au=some ⟨.type "tuple",none,.seq #[.str "rouse" jv,.str "clear" hZ,.str "mute" bE,.str "marks" iC] iR,gp⟩)(bp:nsIn K mainGlobals "WAITING" = some (some (.ref aE)))(hX:K.lookup aE=some ⟨.type "tuple",none,.seq #[.str "look" ey,.str "wish" fL,.str "again" ix,.str "sleep" ci,.str "hush" bu,.str "unwish" cf] gY,bT⟩)(jF:nsIn K mainGlobals "FREEING" = some (some (.ref aI)))(cP:K.lookup aI=some ⟨.type "tuple",none,.seq #[.str "free" fk,.str "card" cX,.str "ring" bP] iy,gI⟩)(gS:nsIn K mainGlobals "GIVER_STAGES" = some (some (.ref aH)))(gD:K.lookup aH=some ⟨.type "tuple",none,.seq #[.str "rouse" fv,.str "clear" ct,.str "mute" ek,.str "marks" jy,.str "told" ha,.str "lacks" hH,.str "look" cT,.str "wish" dz,.str "again" gQ,.str "sleep" du,.str "hush" cS,.str "unwish" ij,.str "number" im,.str "left" dX,.str "thing" fR,.str "mark" dw,.str "card" cO,.str "ring" fZ] di,hs⟩)(cG:nsIn K mainGlobals "TAKER_STAGES" = some (some (.ref aF)))(fJ:K.lookup aF=some ⟨.type "tuple",none,.seq #[.str "rouse" gx,.str "clear" dd,.str "mute" jJ,.str "marks" hr,.str "look" cm,.str "wish" fG,.str "again" gA,.str "sleep" iS,.str "hush" cb,.str "unwish" cd,.str "number" bz,.str "left" ja,.str "thing" cJ,.str "free" gR,.str "card" ds,.str "ring" dE] cs,fw⟩)(eN:nsIn K mainGlobals "DEEDS_hand" = some (some (.ref aU)))(ch:nsIn K mainGlobals "DEEDS_giver" = some (some (.ref bg)))(hi:nsIn K mainGlobals "DEEDS_taker" = some (some (.ref aO)))(bQ:plainGet K ae Str.empty=true)(dy:hasDictIn K ae=true)(cn:plainOver K ae=true)(fc:findIn K (.ref ae) "__setattr__" = some (some (.builtin "object.__setattr__")))(gh:makesIn K ae=true)(fr:keepIn K (.ref ae)=true)(ce:findIn K (.ref ae) "many_touches" = some none)(hb:findIn K (.ref ae) "newest_touch" = some none)(eS:findIn K (.ref ae) "numbers" = some none)(fS:findIn K (.ref ae) "size" = some none)(eV:plainGet K ac Str.empty=true)(gC:hasDictIn K ac=true)(hE:plainOver K ac=true)(hU:findIn K (.ref ac) "__setattr__" = some (some (.builtin "object.__setattr__")))(jN:makesIn K ac=true)(jO:keepIn K (.ref ac)=true)(hw:findIn K (.ref ac) "board" = some none)(eT:findIn K (.ref ac) "here" = some none)(hv:findIn K (.ref ac) "marks_read" = some none)(em:findIn K (.ref ac) "name" = some none)(iE:findIn K (.ref ac) "other" = some none)(bC:findIn K (.ref ac) "stage_behind_marks" = some none)(co:findIn K (.ref ac) "stage_now" = some none)(hm:findIn K (.ref ac) "touched" = some none)(hT:plainGet K aa Str.empty=true)(gy:hasDictIn K aa=true)(ho:plainOver K aa=true)(iB:findIn K (.ref aa) "__setattr__" = some (some (.builtin "object.__setattr__")))(hc:makesIn K aa=true)(eG:keepIn K (.ref aa)=true)(ck:findIn K (.ref aa) "board" = some none)(iA:findIn K (.ref aa) "here" = some none)(gX:findIn K (.ref aa) "kept" = some none)(ic:findIn K (.ref aa) "left" = some none)(gP:findIn K (.ref aa) "marks_read" = some none)(cM:findIn K (.ref aa) "name" = some none)(bW:findIn K (.ref aa) "number" = some none)(iv:findIn K (.ref aa) "other" = some none)(bH:findIn K (.ref aa) "stage_behind_marks" = some none)(dl:findIn K (.ref aa) "stage_now" = some none)(fB:findIn K (.ref aa) "touched" = some none)(fO:plainGet K ab Str.empty=true)(iD:hasDictIn K ab=true)(iZ:plainOver K ab=true)(fV:findIn K (.ref ab) "__setattr__" = some (some (.builtin "object.__setattr__")))(fh:makesIn K ab=true)(iM:keepIn K (.ref ab)=true)(eJ:findIn K (.ref ab) "board" = some none)(cD:findIn K (.ref ab) "here" = some none)(ei:findIn K (.ref ab) "left" = some none)(ju:findIn K (.ref ab) "marks_read" = some none)(ib:findIn K (.ref ab) "name" = some none)(iQ:findIn K (.ref ab) "not_freed" = some none)(fq:findIn K (.ref ab) "number" = some none)(gH:findIn K (.ref ab) "other" = some none)(iN:findIn K (.ref ab) "parts" = some none)(fY:findIn K (.ref ab) "stage_behind_marks" = some none)(iY:findIn K (.ref ab) "stage_now" = some none)(hB:findIn K (.ref ab) "taken" = some none)(dI:findIn K (.ref ab) "touched" = some none)(eX:plainGet K ad Str.empty=true)(cj:hasDictIn K ad=true)(dU:plainOver K ad=true)(dc:findIn K (.ref ad) "__setattr__" = some (some (.builtin "object.__setattr__")))(hM:makesIn K ad=true)(dG:keepIn K (.ref ad)=true)(bZ:findIn K (.ref ad) "board" = some none)(eW:findIn K (.ref ad) "giver" = some none)(hI:findIn K (.ref ad) "kept_trail" = some none)(gi:findIn K (.ref ad) "taker" = some none)(br:findIn K (.ref ad) "touched" = some none)(aW:findIn K (.ref ac) "__init__" = some (some (.ref aq)))(dp:isFn K (.ref aq)=true)(aT:AtF K aq "__init__" "Hand.__init__" a9e)(iz:findIn K (.ref ac) "recall_start" = some (some (.ref ap)))(aB:isFn K (.ref ap)=true)(aJ:AtF K ap "recall_start" "Hand.recall_start" a0g)(gF:nsIn K mainGlobals "len" = some none)(eH:nsIn K mainGlobals "range" = some none)(cY:nsIn K mainGlobals "max" = some none)(ft:nsIn K mainGlobals "min" = some none)(jA:nsIn K mainGlobals "isinstance" = some none)(dN:nsIn K mainGlobals "int" = some none)(il:nsIn K mainGlobals "bool" = some none)(dq:nsIn K mainGlobals "list" = some none)(eg:nsIn K mainGlobals "all" = some none)(jL:nsIn K mainGlobals "tuple" = some none)(io:nsIn K mainGlobals "str" = some none)(dS:nsIn K mainGlobals "ValueError" = some none)(jb:nsIn K mainGlobals "law" = some (some (.ref aw)))(hn:K.lookup aw=some ⟨hk,iu,.func (PySem.W.fnOf "law" "law" (a2b b5y) (a1f b5y) (g6 b5y) .none bl bk bi aP ax bo),hd⟩)(dA:codeIn K ax "law" = true)(dD:keepIn K (.ref aw)=true)(gr:exmAny K (.ref ah) [.ref ah,.ref ag]=some true)(hF:exmAny K (.ref ag) [.ref ah,.ref ag]=some true)(dT:findIn K (.ref aa) "recall_start" = some (some (.ref ap)))(eF:findIn K (.ref ab) "recall_start" = some (some (.ref ap)))(cq:specialIn K (.ref ac) "__getattribute__" = some (some (.builtin "type.__getattribute__")))(fF:PySem.W.readsIn K ac (.type "type")=true)(da:PySem.W.findCls K (.ref ac) (.type "type") "__init__" = some (.val (.ref aq)))(gN:kitOne K (.type "tuple") (.type "tuple")=some true)(cW:kitOne K (.type "int") (.type "tuple")=some false)(hy:kitOne K (.type "NoneType") (.type "tuple")=some false)(ep:exmOne K (.ref af) (.ref aC)=some true)(gV:kitOne K (.ref af) (.ref af)=some true)(gL:kitOne K (.ref af) (.type "ValueError")=some true)(go:PySem.W.kitAny K (.ref af) [.ref ah,.ref aj,.ref ag,.ref ai,.ref al,.ref am,.ref ao,.ref az,.ref aD,.ref ar]=some false)(cL:PySem.W.kitAny K (.ref af) [.ref aA,.ref an,.ref ay,.ref aK]=some false):
  ∃fd:FuncData,(∀(s:Shared)(v:Value),BindsTo s fd ⟨[v],[]⟩ [("script",v)])/\∀base:Heap,K.In base->base.Ns mainGlobals mg->FnOk l.prog w K mg base (CXK l.prog w) 11 fa fd ["script"] (c0v K):=by
 let cl:Cl:=⟨aC,ai,an,aj,al,am,ah,ag,ao,ay,ar,af,aK,az,aA,aD,ae,ac,aa,ab,ad,av,au,aE,aI,aH,aF,aU,bg,aO⟩
 have e:=hfa.symm.trans (mg_of X G jb);cases e;have T:Txt K mg cl:=⟨⟨mg_of X G fb⟩,
  ⟨⟨cQ,ef,gm,gn,fX,fT,dJ,sg,tk⟩,mg_of X G dj⟩,
  ⟨⟨ir,jf,ht,eh,hh,id,he,sg,tk⟩,mg_of X G eC⟩,
  ⟨⟨ii,gE,jC,cv,cF,dO,fg,sg,tk⟩,mg_of X G ff⟩,
  ⟨⟨iW,iX,jB,cx,gw,cc,eE,sg,tk⟩,mg_of X G bv⟩,
  ⟨⟨hl,jk,gg,gG,ee,fp,fj,sg,tk⟩,mg_of X G dB⟩,
  ⟨⟨hK,dM,ih,dW,iO,dn,jt,sg,tk⟩,mg_of X G fn⟩,
  ⟨⟨eL,jG,jd,hp,bX,hA,hJ,sg,tk⟩,mg_of X G iH⟩,
  ⟨⟨it,hz,hQ,fm,eK,hD,dm,sg,tk⟩,mg_of X G fz⟩,
  ⟨mg_of X G bx⟩,
  ⟨mg_of X G cU⟩,
  ⟨⟨cV,bD,iw,cC,fH,dx,cB,sg,tk⟩,mg_of X G hx⟩,
  ⟨mg_of X G hj⟩,
  ⟨mg_of X G jz⟩,
  ⟨mg_of X G jo⟩,
  ⟨mg_of X G cR⟩,
  ⟨mg_of X G dk⟩,
  ⟨mg_of X G hS⟩,
  ⟨mg_of X G fy⟩,
  ⟨mg_of X G bK⟩,
  ⟨mg_of X G cy⟩,
  ⟨_,mg_of X G jx⟩,
  ⟨_,mg_of X G bB⟩,
  ⟨_,mg_of X G gK⟩,
  ⟨_,mg_of X G cI⟩,
  ⟨_,mg_of X G eM⟩,
  ⟨_,mg_of X G iG⟩,
  ⟨_,mg_of X G bV⟩,
  ⟨_,mg_of X G hf⟩,
  ⟨_,mg_of X G bq⟩,
  ⟨_,mg_of X G gU⟩,
  ⟨_,mg_of X G fK⟩,
  ⟨_,mg_of X G gO⟩,
  ⟨_,mg_of X G jr⟩,
  mg_of X G cu,
  ⟨_,_,_,hO,(show 2<=sizeLine by decide),.cons ⟨_,rfl⟩ (.cons ⟨_,rfl⟩ (.nil))⟩,
  mg_of X G db,
  ⟨_,_,_,dP,(show 4<=sizeLine by decide),.cons ⟨_,rfl⟩ (.cons ⟨_,rfl⟩ (.cons ⟨_,rfl⟩ (.cons ⟨_,rfl⟩ (.nil))))⟩,
  mg_of X G bp,
  ⟨_,_,_,hX,(show 6<=sizeLine by decide),.cons ⟨_,rfl⟩ (.cons ⟨_,rfl⟩ (.cons ⟨_,rfl⟩ (.cons ⟨_,rfl⟩ (.cons ⟨_,rfl⟩ (.cons ⟨_,rfl⟩ (.nil))))))⟩,
  mg_of X G jF,
  ⟨_,_,_,cP,(show 3<=sizeLine by decide),.cons ⟨_,rfl⟩ (.cons ⟨_,rfl⟩ (.cons ⟨_,rfl⟩ (.nil)))⟩,
  mg_of X G gS,
  ⟨_,_,_,gD,(show 18<=sizeLine by decide),.cons ⟨_,rfl⟩ (.cons ⟨_,rfl⟩ (.cons ⟨_,rfl⟩ (.cons ⟨_,rfl⟩ (.cons ⟨_,rfl⟩ (.cons ⟨_,rfl⟩ (.cons ⟨_,rfl⟩ (.cons ⟨_,rfl⟩ (.cons ⟨_,rfl⟩ (.cons ⟨_,rfl⟩ (.cons ⟨_,rfl⟩ (.cons ⟨_,rfl⟩ (.cons ⟨_,rfl⟩ (.cons ⟨_,rfl⟩ (.cons ⟨_,rfl⟩ (.cons ⟨_,rfl⟩ (.cons ⟨_,rfl⟩ (.cons ⟨_,rfl⟩ (.nil))))))))))))))))))⟩,
  mg_of X G cG,
  ⟨_,_,_,fJ,(show 16<=sizeLine by decide),.cons ⟨_,rfl⟩ (.cons ⟨_,rfl⟩ (.cons ⟨_,rfl⟩ (.cons ⟨_,rfl⟩ (.cons ⟨_,rfl⟩ (.cons ⟨_,rfl⟩ (.cons ⟨_,rfl⟩ (.cons ⟨_,rfl⟩ (.cons ⟨_,rfl⟩ (.cons ⟨_,rfl⟩ (.cons ⟨_,rfl⟩ (.cons ⟨_,rfl⟩ (.cons ⟨_,rfl⟩ (.cons ⟨_,rfl⟩ (.cons ⟨_,rfl⟩ (.cons ⟨_,rfl⟩ (.nil))))))))))))))))⟩,
  ⟨bQ,dy,cn,fc⟩,
  ce,
  hb,
  eS,
  fS,
  ⟨eV,gC,hE,hU⟩,
  hw,
  eT,
  hv,
  em,
  iE,
  bC,
  co,
  hm,
  ⟨hT,gy,ho,iB⟩,
  ck,
  iA,
  gX,
  ic,
  gP,
  cM,
  bW,
  iv,
  bH,
  dl,
  fB,
  ⟨fO,iD,iZ,fV⟩,
  eJ,
  cD,
  ei,
  ju,
  ib,
  iQ,
  fq,
  gH,
  iN,
  fY,
  iY,
  hB,
  dI,
  ⟨eX,cj,dU,dc⟩,
  bZ,
  eW,
  hI,
  gi,
  br,
  mg_of X G eN,
  mg_of X G ch,
  mg_of X G hi,
  mg_none_of X G gF,
  mg_none_of X G eH,
  mg_none_of X G cY,
  mg_none_of X G ft,
  mg_none_of X G jA,
  mg_none_of X G dN,
  mg_none_of X G il,
  mg_none_of X G dq,
  mg_none_of X G eg,
  mg_none_of X G jL,
  mg_none_of X G io,
  mg_none_of X G dS⟩
 have bc:DefT K mg "order_of" a4z ["size","order"]:=cK.t X G λ_ _ _ _ _ _=>ba2 λ_ _=>rfl;have aL:DefT K mg "orders_of" a3o ["size","orders"]:=eU.t X G λ_ _ _ _ _ _=>ba2 λ_ _=>rfl;have jP:DefM K cl.Board "touches" "Board.touches" a7l ["self"]:=hu.m λ_ _ _ _ _ _=>ba1 λ_=>rfl;have jM:DefM K cl.Hand "recall_start" "Hand.recall_start" a0g ["self","stage","turn","marks"]:=AtF.m iz aB aJ λ_ _ _ _ _ _=>ba4 λ_ _ _ _=>rfl;have gf:=c5h (st:=b5y) hn dA dD;refine⟨PySem.W.fnOf "law" "law" (a2b b5y) (a1f b5y) (g6 b5y) .none bl bk bi aP ax bo,λs v=>.of_eq rfl,λbase _ _=>?_⟩;have kdB:=(⟨T.c_BadStand.k,ep,gV,gL,go,cL⟩:Kd K cl cl.BadStand);have aG:=(b6m (eu.t X G λ_ _ _ _ _ _=>ba1 λ_=>rfl) T:FnT l.prog w K mg base _ _ _ _);have hq:=b6l (ip.t X G λ_ _ _ _ _ _=>ba2 λ_ _=>rfl) T aG;have bR:=c0d (gJ.t X G λ_ _ _ _ _ _=>ba3 λ_ _ _=>rfl) T hq;have ak:=(c0b (dK.t X G λ_ _ _ _ _ _=>ba2 λ_ _=>rfl) T:FnT l.prog w K mg base _ _ _ _);have gW:=(c0a (je.t X G λ_ _ _ _ _ _=>ba2 λ_ _=>rfl) T:FnT l.prog w K mg base _ _ _ _);have jD:=(b6n (eB.t X G λ_ _ _ _ _ _=>ba1 λ_=>rfl) T:FnT l.prog w K mg base _ _ _ _);have dY:=(b8m (ev.t X G λ_ _ _ _ _ _=>ba1 λ_=>rfl) T:FnT l.prog w K mg base _ _ _ _);have be:=b8r (jE.t X G λ_ _ _ _ _ _=>ba2 λ_ _=>rfl) T aG jD;have dR:=b8s (ji.t X G λ_ _ _ _ _ _=>ba2 λ_ _=>rfl) T be;have bm:=(b8k (fU.t X G λ_ _ _ _ _ _=>ba1 λ_=>rfl) T:FnT l.prog w K mg base _ _ _ _);have eO:=b4r (jm.t X G λ_ _ _ _ _ _=>ba1 λ_=>rfl) T dY;have dh:=b2g (dt.t X G λ_ _ _ _ _ _=>ba2 λ_ _=>rfl) T eO be dR;have bh:=b2c (bY.t X G λ_ _ _ _ _ _=>ba1 λ_=>rfl) T bm dh;have gv:=b8o (eI.t X G λ_ _ _ _ _ _=>ba2 λ_ _=>rfl) T ak;have jK:=b6u (bG.m (ps:=["self","size"]) λ_ _ _ _ _ _=>ba2 λ_ _=>rfl) T aG bm;have bJ:=jK.make gh fr T.c_Board.m;have eR:=(b0h (ea.m (ps:=["self"]) λ_ _ _ _ _ _=>ba1 λ_=>rfl) T:MethT l.prog w K mg base _ _ _ _ _);have bb:=(b8f (iU.t X G λ_ _ _ _ _ _=>ba3 λ_ _ _=>rfl) T:FnT l.prog w K mg base _ _ _ _);have aN:=(b8l (bU.t X G λ_ _ _ _ _ _=>ba3 λ_ _ _=>rfl) T:FnT l.prog w K mg base _ _ _ _);have dL:=(b8h (fE.t X G λ_ _ _ _ _ _=>ba4 λ_ _ _ _=>rfl) T:FnT l.prog w K mg base _ _ _ _);have dv:=b6k (en.t X G λ_ _ _ _ _ _=>ba3 λ_ _ _=>rfl) T bb aN dL;have fQ:=(b3l (dr.t X G λ_ _ _ _ _ _=>ba3 λ_ _ _=>rfl) T:FnT l.prog w K mg base _ _ _ _);have eo:=b8g (de.t X G λ_ _ _ _ _ _=>ba5 λ_ _ _ _ _=>rfl) T bR;have fP:=b6h (bF.t X G λ_ _ _ _ _ _=>ba2 λ_ _=>rfl) T bb aN fQ eo;have dg:=(b9z bc T:FnT l.prog w K mg base _ _ _ _);have bO:=b8i aL T dg;have jn:=b2b (ga.t X G λ_ _ _ _ _ _=>ba3 λ_ _ _=>rfl) T gr hF bh bO;have aM:=b4u (hY.t X G λ_ _ _ _ _ _=>ba1 λ_=>rfl) T jn dv fP;have jl:=(b3m (et.t X G λ_ _ _ _ _ _=>ba1 λ_=>rfl) T:FnT l.prog w K mg base _ _ _ _);have el:=(b8e (gk.t X G λ_ _ _ _ _ _=>ba1 λ_=>rfl) T:FnT l.prog w K mg base _ _ _ _);have jc:=b4q (iT.t X G λ_ _ _ _ _ _=>ba1 λ_=>rfl) T jl;have jp:=(b9y (fN.t X G λ_ _ _ _ _ _=>ba2 λ_ _=>rfl) T:FnT l.prog w K mg base _ _ _ _);have cz:=b6i (bN.t X G λ_ _ _ _ _ _=>ba1 λ_=>rfl) T aM el jp jc;have bd:=c2l (hN.t X G λ_ _ _ _ _ _=>ba1 λ_=>rfl) T ak;have gb:=b8p (gu.t X G λ_ _ _ _ _ _=>ba3 λ_ _ _=>rfl) T ak;have gl:=(b8j bc T:FnT l.prog w K mg base _ _ _ _);have aS:=b6j aL T gl;have aV:=(b4p (fe.t X G λ_ _ _ _ _ _=>ba1 λ_=>rfl) T:FnT l.prog w K mg base _ _ _ _);have dF:=(c4i (bM.t X G λ_ _ _ _ _ _=>ba1 λ_=>rfl) T:FnT l.prog w K mg base _ _ _ _);have gZ:=(b8v (AtF.m aW dp aT λ_ _ _ _ _ _=>ba5 λ_ _ _ _ _=>rfl) T:MethT l.prog w K mg base _ _ _ _ _);have bj:=(MethT.toBase gZ aW ⟨cq,⟨.type "type",fF,da⟩,aT.k⟩ T.c_Hand.m:c5w l.prog w K mg base "Hand" "__init__" 1 ["self","board","name","other","stage_behind_marks"] (a3z cl));have ej:=b6t (eY.m (ps:=["self","board","orders"]) λ_ _ _ _ _ _=>ba3 λ_ _ _=>rfl) T aS bj;have gz:=ej.make hc eG T.c_Giver.m;have ca:=b6p (jq.m (ps:=["self","board","book"]) λ_ _ _ _ _ _=>ba3 λ_ _ _=>rfl) T aS bj;have dQ:=ca.make fh iM T.c_Taker.m;have aY:=a9g (fi.m (ps:=["self","orders"]) λ_ _ _ _ _ _=>ba2 λ_ _=>rfl) T gz;have aX:=a9f (cH.m (ps:=["self","book"]) λ_ _ _ _ _ _=>ba2 λ_ _=>rfl) T dQ;have hG:=b8t (eZ.m (ps:=["self","size"]) λ_ _ _ _ _ _=>ba2 λ_ _=>rfl) T bJ aY aX;have jg:=hG.make hM dG T.c_Lane.m;have fl:=(b6v (eP.m (ps:=["self","cells"]) λ_ _ _ _ _ _=>ba2 λ_ _=>rfl) T:MethT l.prog w K mg base _ _ _ _ _);have cA:=(a7v (AtF.m dT aB aJ (λ_ _ _ _ _ _=>ba4 λ_ _ _ _=>rfl)) T:MethT l.prog w K mg base _ _ _ _ _);have cp:=(a7u (AtF.m eF aB aJ (λ_ _ _ _ _ _=>ba4 λ_ _ _ _=>rfl)) T:MethT l.prog w K mg base _ _ _ _ _);have cZ:=b3s (ik.m (ps:=["self","mind"]) λ_ _ _ _ _ _=>ba2 λ_ _=>rfl) T cA;have cg:=b3r (hC.m (ps:=["self","mind"]) λ_ _ _ _ _ _=>ba2 λ_ _=>rfl) T cp;have jw:=b2f (gd.t X G λ_ _ _ _ _ _=>ba1 λ_=>rfl) T bh jg fl aY aX cZ cg;have bS:=c2m (iJ.t X G λ_ _ _ _ _ _=>ba1 λ_=>rfl) T aM jw;have aZ:=(a7w (ez.m (ps:=["self"]) λ_ _ _ _ _ _=>ba1 λ_=>rfl) T:MethT l.prog w K mg base _ _ _ _ _);have aR:=a9h (gB.m (ps:=["self"]) λ_ _ _ _ _ _=>ba1 λ_=>rfl) T aZ;have aQ:=b0g (fM.m (ps:=["self"]) λ_ _ _ _ _ _=>ba1 λ_=>rfl) T aZ;have eD:=b1a (jI.m (ps:=["self"]) λ_ _ _ _ _ _=>ba1 λ_=>rfl) T aR aQ;have cw:=a5x (gc.m (ps:=["self"]) λ_ _ _ _ _ _=>ba1 λ_=>rfl) T eD aR aQ;have iI:=b6s (gT.m (ps:=["self"]) λ_ _ _ _ _ _=>ba1 λ_=>rfl) T cw;have fW:=(b6o (fx.m (ps:=["self"]) λ_ _ _ _ _ _=>ba1 λ_=>rfl) T:MethT l.prog w K mg base _ _ _ _ _);have bA:=b3t (eQ.m (ps:=["self"]) λ_ _ _ _ _ _=>ba1 λ_=>rfl) T aV;have fD:=b6q (hP.m (ps:=["self"]) λ_ _ _ _ _ _=>ba1 λ_=>rfl) T aV;have eb:=b6r (fu.m (ps:=["self"]) λ_ _ _ _ _ _=>ba1 λ_=>rfl) T eR;have hV:=b4v (ew.m (ps:=["self"]) λ_ _ _ _ _ _=>ba1 λ_=>rfl) T bA;have gs:=b8u (eq.m (ps:=["self"]) λ_ _ _ _ _ _=>ba1 λ_=>rfl) T fD;have bt:=b9x (fo.t X G λ_ _ _ _ _ _=>ba1 λ_=>rfl) T eb iI (MethT.lift fW (by decide)) dF hV gs
 have dZ:=b8n (eA.t X G λ_ _ _ _ _ _=>ba2 λ_ _=>rfl) T ak bd;have dC:=b2e (jH.t X G λ_ _ _ _ _ _=>ba1 λ_=>rfl) T ak bd gv gb dZ;have bf:=(b4t (bL.t X G λ_ _ _ _ _ _=>ba3 λ_ _ _=>rfl) T:FnT l.prog w K mg base _ _ _ _);have bn:=(b3q (hR.t X G λ_ _ _ _ _ _=>ba3 λ_ _ _=>rfl) T:FnT l.prog w K mg base _ _ _ _);have dV:=b3p (ig.t X G λ_ _ _ _ _ _=>ba3 λ_ _ _=>rfl) T bf bn;have ex:=b3n (fA.t X G λ_ _ _ _ _ _=>ba2 λ_ _=>rfl) T bf bn;have er:=b3o (ie.t X G λ_ _ _ _ _ _=>ba1 λ_=>rfl) T dV ex;have iL:=(b0e (gq.t X G λ_ _ _ _ _ _=>ba1 λ_=>rfl) T:FnT l.prog w K mg base _ _ _ _);have hL:=b4s (jj.t X G λ_ _ _ _ _ _=>ba1 λ_=>rfl) T iL;have fC:=b0z (iV.t X G λ_ _ _ _ _ _=>ba3 λ_ _ _=>rfl) T ak;have ia:=b0f (gt.t X G λ_ _ _ _ _ _=>ba3 λ_ _ _=>rfl) T ak;have dH:=b2d (iP.t X G λ_ _ _ _ _ _=>ba3 λ_ _ _=>rfl) T gN cW hy ak;have js:=c0c (cE.t X G λ_ _ _ _ _ _=>ba2 λ_ _=>rfl) T ak fC ia dH;have cr:=b8q (hW.t X G λ_ _ _ _ _ _=>ba2 λ_ _=>rfl) T kdB bS bt cz;have df:=d2g gf T ak gW dC js er hL cr;exact df
theorem walk{l:PySem.W.OpenLaw}{q:Program}{loose:List Str}{XP:(Str->Option Value)->Heap->Prop}{YP:World->Heap->Prop}{d:DefRec}{K:Params->Frag}(hn:l.most=some 63)(hdf:d.params.defaults=[])(hY:∀(w:World) (h:Heap),YP w h->(K w.params).In h)(F:∀(w:World) (mg:Str->Option Value) (fa:Addr) (h:Heap),(K w.params).In h->h.Ns mainGlobals mg->mg d.name=some (.ref fa) ->
   ∃fd:FuncData,(∀(s:Shared) (u:Value),BindsTo s fd ⟨[u],[]⟩ [("script",u)])/\∀base:Heap,(K w.params).In base->base.Ns mainGlobals mg->FnOk l.prog w (K w.params) mg base (CXK l.prog w) 11 fa fd ["script"] (c0v (K w.params))):
  PySem.W.WalkO q loose XP YP l.row.toRowW d [] (λf vs=>PySem.call f vs) :=
 L2.walk_of (n:=63) (k:=11) (x:="script") (CX:=λw=>CXK l.prog w) (sp:=λw=>c0v (K w.params)) hn (by decide) hdf ⟨rfl,by decide,by decide⟩ hY F (λ_ _ a ns hl _ hS=>⟨a,ns,rfl,hS,hl,λ_=>rfl⟩)
  λ_ _ _ _ _ z=>by obtain⟨_,_,_,_,_,_,_,q⟩:=z;exact q
end S
open PySem PySem.W PyProof.Rows
set_option maxRecDepth 100000
set_option maxHeartbeats 0
theorem PySem.Challenge.cw_slipring_k36_stands_refused_holds : PySem.Challenge.rw_slipring_k36_stands_refused.Holds := by
 refine hd ?_
 k_fill
 refine S.walk (l := PySem.Challenge.rw_slipring_k36_stands_refused) rfl rfl (fun w h Y => PySem.W.kIn_of Y) ?F
 case F =>
  intro w mg fa h KX G hmg
  apply S.all_mk (X := KX) (G := G) (hfa := hmg)
  all_goals try (first | k_is | kit_is | kts_exm | kernel_rfl)
  all_goals first | (refine' S.AtG.of ?d ?a ?b ?c; (case d => k_is); (case a => k_is); (case b => k_is); (case c => k_is)) | (refine' S.AtM.of ?d ?i ?a ?b ?c; (case d => k_is); (case i => k_is); (case a => k_is); (case b => k_is); (case c => k_is)) | (refine' S.AtF.of ?a ?b ?c; (case a => k_is); (case b => k_is); (case c => k_is)) | skip
